import PyProof.Rows.All
import Wide.All
import OpenK.AllK
import Wide.FinOn
import Lean
import PyProof.EqAt
import PyProof.EqKinds
import PyProof.TupleCall
import PySem.Challenge.RW_armswing_k53_bounds_come_to
set_option compiler.extract_closed false
set_option Elab.async false
set_option linter.all false
set_option maxRecDepth 100000
namespace _L
open PySem PySem.Spec PyProof.Rows
noncomputable abbrev Key:=Sum Int Str
noncomputable def pD:Key->Value->Bool
 | .inl k,v=>Value.isInt k v
 | .inr x,v=>Value.isStrOf x v
noncomputable def Wh(w:World):Key->Int
 | .inl k=>hashInt k
 | .inr x=>hashStr w x
theorem kY:∀ {k:Key} {v:Value},pD k v=true->(∃i t,k=Sum.inl i/\v=Value.int i t)\/(∃x t,k=Sum.inr x/\v=Value.str x t)
 | .inl i,v,h=>by
  obtain⟨t,e⟩:=Value.isInt_shape (k:=i) (v:=v) h;exact .inl ⟨i,t,rfl,e⟩
 | .inr x,v,h=>by
  obtain⟨t,e⟩:=Value.isStrOf_shape (x:=x) (v:=v) h;exact .inr ⟨x,t,rfl,e⟩
theorem Wi(i:Int)(t:Tok):pD (.inl i) (.int i t)=true:=by simp[pD,Value.isInt]
theorem Wj(x:Str)(t:Tok):pD (.inr x) (.str x t)=true:=by simp[pD,Value.isStrOf]
theorem Wk(a b:Int):decide ((Sum.inl a:Key)=Sum.inl b)=(a == b):=by
 by_cases e:a=b
 ·subst e;simp
 ·have h:¬ (Sum.inl a:Key)=Sum.inl b:=λq=>e (Sum.inl.inj q);rw[decide_eq_false h];exact(beq_eq_false_iff_ne.mpr e).symm
theorem Wl(a b:Str):decide ((Sum.inr a:Key)=Sum.inr b)=decide (a=b):=by
 by_cases e:a=b
 ·subst e;simp
 ·have h:¬ (Sum.inr a:Key)=Sum.inr b:=λq=>e (Sum.inr.inj q);rw[decide_eq_false h,decide_eq_false e]
theorem Wm(a:Int)(b:Str):decide ((Sum.inl a:Key)=Sum.inr b)=false:=decide_eq_false (λq=>nomatch q)
theorem Wn(a:Str)(b:Int):decide ((Sum.inr a:Key)=Sum.inl b)=false:=decide_eq_false (λq=>nomatch q)
noncomputable def d9(prog:Program)(w:World):PySem.KeyKind prog w Key where
 is:=pD
 hash:=Wh w
 inj:=λv a b ha hb=>by
  rcases kY ha with⟨i,t,rfl,rfl⟩ | ⟨x,t,rfl,rfl⟩
  ·rcases kY hb with⟨j,u,rfl,e⟩ | ⟨y,u,rfl,e⟩
   ·injection e with e1 _;rw[e1]
   ·exact nomatch e
  ·rcases kY hb with⟨j,u,rfl,e⟩ | ⟨y,u,rfl,e⟩
   ·exact nomatch e
   ·injection e with e1 _;rw[e1]
 byValue:=λk v h=>by
  rcases kY h with⟨i,t,rfl,rfl⟩ | ⟨x,t,rfl,rfl⟩ <;> rfl
 pyHash:=λhv h=>by
  rcases kY hv with⟨i,t,rfl,rfl⟩ | ⟨x,t,rfl,rfl⟩
  ·exact wpAny_pyHash_int h
  ·exact wpAny_pyHash_str h
 eqBool:=λhu hv h=>by
  rcases kY hu with⟨i,t,rfl,rfl⟩ | ⟨x,t,rfl,rfl⟩
  ·rcases kY hv with⟨j,u,rfl,rfl⟩ | ⟨y,u,rfl,rfl⟩
   ·rw[Wk] at h;exact wpAny_eqBool_int h
   ·rw[Wm] at h;exact SeqAt.EqAt.int_str i t y u _ _ _ _ h
  ·rcases kY hv with⟨j,u,rfl,rfl⟩ | ⟨y,u,rfl,rfl⟩
   ·rw[Wn] at h;exact SeqAt.EqAt.str_int x t j u _ _ _ _ h
   ·rw[Wl] at h;exact wpAny_eqBool_str h
 «strs» := λk x t v h=>by
  rcases kY h with⟨i,u,rfl,e⟩ | ⟨y,u,rfl,e⟩
  ·exact nomatch e
  ·injection e with e1 _;subst e1;cases v <;> rfl
theorem Wo(prog:Program)(w:World)(i:Int)(t:Tok):(d9 prog w).is (.inl i) (.int i t)=true:=Wi i t
theorem Wq(prog:Program)(w:World)(x:Str)(t:Tok):(d9 prog w).is (.inr x) (.str x t)=true:=Wj x t
inductive V where
 | aI | bl (b:Bool) | int (i:Int) | str (x:Str) | ie (b:Array UInt8) | mY (b:UInt64) | ref (a:Addr) | ty (n:String)
 deriving DecidableEq
noncomputable def RelV:V->Value->Prop
 | .aI,u=>u=Value.none
 | .bl b,u=>u=Value.bool b
 | .int i,u=>∃t,u=Value.int i t
 | .str x,u=>∃t,u=Value.str x t
 | .ie b,u=>∃t,u=Value.bytes b t
 | .mY b,u=>∃t,u=Value.float b t
 | .ref a,u=>u=Value.ref a
 | .ty n,u=>u=Value.type n
noncomputable abbrev Vals:List V->List Value->Prop:=Paired RelV
theorem Vals.length{xs:List V}{us:List Value}(r:Vals xs us):xs.length=us.length:=Paired.length r
theorem Vals.get:∀ {xs:List V} {us:List Value} {i:Nat} {x:V},Vals xs us->xs[i]? = some x->∃u,us[i]? = some u/\RelV x u
 | _,_,_,_,.nil,e=>by simp at e
 | _,_,0,_,.cons r _,e=>by simp at e;subst e;exact⟨_,rfl,r⟩
 | _,_,i+1,x,.cons _ t,e=>by
  obtain⟨u,h1,h2⟩:=Vals.get (i:=i) (x:=x) t (by simpa using e)
  exact⟨u,by simpa using h1,h2⟩
theorem Vals.set{x:V}{u:Value}(r:RelV x u):∀ {xs:List V} {us:List Value} (i:Nat),Vals xs us->Vals (xs.set i x) (us.set i u)
 | _,_,_,.nil=>.nil
 | _,_,0,.cons _ t=>.cons r t
 | _,_,i+1,.cons q t=>.cons q (Vals.set r i t)
theorem Vals.append:∀ {xs ys:List V} {us ws:List Value},Vals xs us->Vals ys ws->Vals (xs++ys) (us++ws)
 | _,_,_,_,.nil,s=>s
 | _,_,_,_,.cons r t,s=>.cons r (Vals.append t s)
theorem Vals.take:∀ {xs:List V} {us:List Value} (n:Nat),Vals xs us->Vals (xs.take n) (us.take n)
 | _,_,0,_=>.nil
 | _,_,_+1,.nil=>.nil
 | _,_,n+1,.cons r t=>.cons r (Vals.take n t)
theorem Vals.drop:∀ {xs:List V} {us:List Value} (n:Nat),Vals xs us->Vals (xs.drop n) (us.drop n)
 | _,_,0,r=>r
 | _,_,_+1,.nil=>.nil
 | _,_,n+1,.cons _ t=>Vals.drop n t
noncomputable def fh:Option V->Option Value->Prop
 | some v,some u=>RelV v u
 | none,none=>True
 | _,_=>False
noncomputable def KV{κ:Type}:List (κ×V)->List (κ×Value)->Prop:=Paired λ(p:κ×V) (q:κ×Value)=>p.1=q.1/\RelV p.2 q.2
noncomputable def kV:Key->V
 | .inl i=>.int i
 | .inr x=>.str x
inductive HO where
 /-- a list -/
 | lst (xs:List V)
 /-- a tuple (never changes) -/
 | tup (xs:List V)
 /-- a dict whose keys are ints and texts;one whose keys are tuples of ints and texts (the empty one is both) -/
 | dK (kvs:List (Key×V)) | dT (kvs:List (List Key×V))
 /-- a set of ints: its members,its size -/
 | set (S:Int->Bool) (n:Nat)
 /-- an instance of the class at C,its dict at dx,its attributes -/
 | ins (C dx:Addr) (fs:List (Str×V))
 /-- the dict of the instance at x -/
 | own (x:Addr)
 /-- the dict of an exception -/
 | xd (fs:List (Str×V))
 /-- a bound method,f of x -/
 | met (f x:Addr)
 /-- a range object lo,lo+1,.. below hi -/
 | vm (lo hi:Int)
 /-- a thing that is known to the object (the script;a dict while a loop walks it): read,never written while it is so -/
 | bZ (o:Obj) (u:HO)
 /-- a code object's table -/
 | dP (ps:Array Value)
 /-- any other thing,by what is true of its one object (a def of one's own: SetO a S n:=HO.ext λh=>..) -/
 | ext (φ:Heap->Prop)
noncomputable abbrev Hp:=Addr->Option HO
noncomputable def upd(H:Hp)(a:Addr)(o:HO):Hp:=λb=>if b=a then some o else H b
theorem aB{H:Hp}{a:Addr}{o:HO}:upd H a o a=some o:=by unfold upd;rw[if_pos rfl]
theorem az{H:Hp}{a b:Addr}{o:HO}(h:b≠a):upd H a o b=H b:=by unfold upd;rw[if_neg h]
theorem Wr{H:Hp}{a:Addr}{o u:HO}:upd (upd H a o) a u=upd H a u:=by
 funext b;unfold upd;split <;> rfl
theorem pF{H:Hp}{a b:Addr}{o u:HO}(h:H a=some o)(h':H b=some u)(d:o≠u):a≠b:=by
 intro e;subst e;rw[h] at h';exact d (Option.some.inj h')
theorem bW{H:Hp}{a b:Addr}{o:HO}(h:H a=some o)(h':H b=none):a≠b:=by
 intro e;subst e;rw[h] at h';cases h'
section
variable(P:Program)(w:World)
noncomputable def cL(H:Hp)(h:Heap)(a:Addr):HO->Prop
 | .lst xs=>xs.length<=sizeLine/\∃(aq:List Value) (n:Nat),Vals xs aq/\h.get? a=some { cls:=.type "list",data:=.seq aq.toArray n }
 | .tup xs=>xs.length<=sizeLine/\∃aq:List Value,Vals xs aq/\IsTup h a aq.toArray
 | .dK kvs=>kvs.length<=sizeLine/\(a == sysModules)=false/\∃vs,KV kvs vs/\h.DictOf (d9 P w) a vs
 | .dT kvs=>kvs.length<=sizeLine/\(a == sysModules)=false/\∃xs:List (List Key×Addr×Value),
   Paired (λ(p:List Key×V) (q:List Key×Addr×Value)=>p.1=q.1/\H q.2.1=some (.tup (p.1.map kV))/\RelV p.2 q.2.2) kvs xs/\
   ∃o es ep,h.get? a=some o/\o.ExactDict/\o.data = .dict es ep/\es.toList=xs.map (entryOfKey (tupleKind (d9 P w)))/\(xs.map (·.1)).Nodup
 | .set S n=>h.SetOf (intKind P w) a S n
 | .ins C dx fs=>H dx=some (.own a)/\fs.length<=1000/\dx≠a/\h.get? a=some (PySem.W.instObj C dx)/\
   ∃mA,h.Ns1 dx mA/\(∀f,fh (fs.lookup f) (mA f))/\PySem.Within mA (fs.map (·.1))
 | .own _=>∃o,h.get? a=some o
 | .xd fs=>∃mA,h.Ns1 a mA/\∀f,fh (fs.lookup f) (mA f)
 | .vm lo hi=>∃t u v,h.get? a=some { cls:=.type "range",data:=.fields #[.int lo t,.int hi u,.int 1 v] }
 | .bZ o u=>h.get? a=some o/\cL H h a u
 | .dP ps=>h.get? a=some { cls:=.none,data:=.fields ps }
 | .met f x=>h.get? a=some (PySem.W.methodObj (.ref f) (.ref x))
 | .ext φ=>φ h/\(∃o,h.get? a=some o)/\∀h1 h2:Heap,φ h1->(∀o,h1.get? a=some o->h2.get? a=some o)->φ h2
noncomputable def b_(H:Hp)(h:Heap):Prop:=∀a o,H a=some o->cL P w H h a o
end
section
variable{P:Program}{w:World}{H H':Hp}{h h':Heap}{a:Addr}{o:HO}
theorem cL.lt(x:cL P w H h a o):a<h.objs.size:=by
 cases o with
 | lst xs=>obtain⟨_,_,_,_,e⟩:=x;exact Heap.lt_size e
 | tup xs=>obtain⟨_,_,_,p⟩:=x;exact p.lt
 | dK kvs=>obtain⟨_,_,_,_,o,_,_,e,_⟩:=x;exact Heap.lt_size e
 | dT kvs=>obtain⟨_,_,_,_,o,_,_,e,_⟩:=x;exact Heap.lt_size e
 | set S n=>obtain⟨o,_,_,_,e,_⟩:=x;exact Heap.lt_size e
 | ins C dx fs=>obtain⟨_,_,_,e,_⟩:=x;exact Heap.lt_size e
 | own y=>obtain⟨_,e⟩:=x;exact Heap.lt_size e
 | xd fs=>obtain⟨_,⟨_,_,_,e,_⟩,_⟩:=x;exact Heap.lt_size e
 | vm lo hi=>obtain⟨_,_,_,e⟩:=x;exact Heap.lt_size e
 | bZ ob u=>obtain⟨e,_⟩:=x;exact Heap.lt_size e
 | dP ps=>exact Heap.lt_size (show h.get? a=some _ from x)
 | met f y=>exact Heap.lt_size (show h.get? a=some _ from x)
 | ext φ=>obtain⟨_,⟨_,e⟩,_⟩:=x;exact Heap.lt_size e
theorem Paired.Cw{α β:Type}{F G:α->β->Prop}:∀ {KI:List α} {KJ:List β},Paired F KI KJ->(∀a b,F a b->G a b)->Paired G KI KJ
 | _,_,.nil,_=>.nil
 | _,_,.cons r t,f=>.cons (f _ _ r) (Paired.Cw t f)
theorem cL.fE(x:cL P w H h a o)(k:∀b u,(b=a\/H b=some (.own a))->h.get? b=some u->h'.get? b=some u)
  (ho:∀b,H b=some (.own a)->H' b=some (.own a)) (ht:∀b xs,H b=some (.tup xs)->H' b=some (.tup xs)):cL P w H' h' a o:=by
 induction o with
 | lst xs=>obtain⟨z,aq,n,r,e⟩:=x;exact⟨z,aq,n,r,k _ _ (.inl rfl) e⟩
 | tup xs=>obtain⟨z,aq,r,ob,e,c⟩:=x;exact⟨z,aq,r,ob,k _ _ (.inl rfl) e,c⟩
 | dK kvs=>obtain⟨z,y,vs,r,ob,es,ep,e,c⟩:=x;exact⟨z,y,vs,r,ob,es,ep,k _ _ (.inl rfl) e,c⟩
 | dT kvs =>
  obtain⟨z,y,xs,r,ob,es,ep,e,c⟩:=x;exact⟨z,y,xs,Paired.Cw r λp q z=>⟨z.1,ht _ _ z.2.1,z.2.2⟩,ob,es,ep,k _ _ (.inl rfl) e,c⟩
 | set S n=>obtain⟨ob,es,ep,t,e,c⟩:=x;exact⟨ob,es,ep,t,k _ _ (.inl rfl) e,c⟩
 | ins C dx fs =>
  obtain⟨d,z,ne,e,mA,⟨od,es,ep,e2,c⟩,r⟩:=x;exact⟨ho _ d,z,ne,k _ _ (.inl rfl) e,mA,⟨od,es,ep,k _ _ (.inr d) e2,c⟩,r⟩
 | own y=>obtain⟨ob,e⟩:=x;exact⟨ob,k _ _ (.inl rfl) e⟩
 | xd fs=>obtain⟨mA,⟨od,es,ep,e,c⟩,r⟩:=x;exact⟨mA,⟨od,es,ep,k _ _ (.inl rfl) e,c⟩,r⟩
 | vm lo hi=>obtain⟨t,u,v,e⟩:=x;exact⟨t,u,v,k _ _ (.inl rfl) e⟩
 | bZ ob u ih=>obtain⟨e,q⟩:=x;exact⟨k _ _ (.inl rfl) e,ih q⟩
 | dP ps =>
  have e:h.get? a=some { cls:=.none,data:=.fields ps }:=x
  show h'.get? a=some { cls:=.none,data:=.fields ps };exact k a _ (.inl rfl) e
 | met f y =>
  have e:h.get? a=some (PySem.W.methodObj (.ref f) (.ref y)):=x
  show h'.get? a=some (PySem.W.methodObj (.ref f) (.ref y));exact k a _ (.inl rfl) e
 | ext φ=>obtain⟨p,⟨o,e⟩,st⟩:=x;exact⟨st _ _ p λo q=>k _ _ (.inl rfl) q,⟨o,k _ _ (.inl rfl) e⟩,st⟩
theorem b_.lt(x:b_ P w H h)(e:H a=some o):a<h.objs.size:=(x a o e).lt
theorem b_.fresh(x:b_ P w H h)(e:h.objs.size<=a):H a=none:=by
 cases q:H a with
 | none=>rfl
 | some u=>exact absurd (Nat.lt_of_lt_of_le (x.lt q) e) (Nat.lt_irrefl _)
theorem b_.kept(x:b_ P w H h)(k:∀b u,h.get? b=some u->h'.get? b=some u):b_ P w H h':=λa o e =>
 (x a o e).fE (λb u _ q=>k b u q) (λ_ q=>q) λ_ _ q=>q
theorem b_.laid(x:b_ P w H h)(k:∀b u,h.get? b=some u->h'.get? b=some u)(hp:h.objs.size<=a)(new:cL P w (upd H a o) h' a o):b_ P w (upd H a o) h':=λb u e=>by
 have hn:=x.fresh hp;by_cases hb:b=a
 ·subst hb;rw[aB] at e;cases e;exact new
 ·rw[az hb] at e;exact(x b u e).fE (λc v _ q=>k c v q) (λc q=>by rw[az (bW q hn)];exact q) λc xs q=>by rw[az (bW q hn)];exact q
end
noncomputable def Rd(H:Hp)(a:Addr)(u:HO):Prop:=H a=some u\/∃o,H a=some (.bZ o u)
theorem Rd.ok{P:Program}{w:World}{H:Hp}{h:Heap}{a:Addr}{u:HO}(r:Rd H a u)(x:b_ P w H h):cL P w H h a u:=by
 rcases r with r | ⟨o,r⟩
 ·exact x a u r
 ·obtain⟨_,q⟩:=x a _ r;exact q
noncomputable def rq:Option HO->Prop
 | some (.lst _)=>True
 | some (.dK _)=>True
 | some (.dT _)=>True
 | some (.set _ _)=>True
 | some (.ins _ _ _)=>True
 | some (.ext _)=>True
 | _=>False
section
variable{P:Program}{w:World}{H:Hp}{h h':Heap}{x e:Addr}{o':HO}
theorem b_.write(ok:b_ P w H h)(mu:rq (H x))(he:e=x\/H e=some (.own x))(k:∀b u,b≠e->h.get? b=some u->h'.get? b=some u)(pG:∃u,h'.get? e=some u)
  (new:cL P w (upd H x o') h' x o'):b_ P w (upd H x o') h':=λb u q=>by
 have KL:∀c y,H c=some (.own y)->c≠x:=λc y r z=>by subst z;rw[r] at mu;exact mu
 have Ws:∀c xs,H c=some (.tup xs)->c≠x:=λc xs r z=>by subst z;rw[r] at mu;exact mu
 by_cases hb:b=x
 ·subst hb;rw[aB] at q;cases q;exact new
 ·rw[az hb] at q;by_cases mZ:b=e
  ·have q':H b=some (.own x):=by
    rcases he with z | z
    ·exact absurd (mZ.trans z) hb
    ·rw[mZ];exact z
   rw[q] at q';cases q';obtain⟨v,hv⟩:=pG;exact⟨v,by rw[mZ];exact hv⟩
  ·refine(ok b u q).fE (λc v hc r=>k c v ?_ r) (λc r=>by rw[az (KL c b r)];exact r) λc xs r=>by rw[az (Ws c xs r)];exact r
   rcases hc with rfl | hc
   ·exact mZ
   ·rintro rfl;rcases he with z | z
    ·exact KL c b hc z
    ·rw[hc] at z;cases z;exact hb rfl
end
structure Un(fs ex:List Addr)(H H':Hp)(h h':Heap):Prop where
 keep:∀b o,h.get? b=some o->H b=none->b∉fs->b∉ex->h'.get? b=some o
 slot:∀b o,h.get? b=some o->H b=none->b∈fs->b∉ex->∃sl,h'.get? b=some { o with slots:=sl }
 free:∀b o,h.get? b=some o->H b=none->b∉ex->H' b=none
 there:∀b o,h.get? b=some o->b∉ex->∃o',h'.get? b=some o'
 ig:∀b xs,H b=some (.tup xs)->H' b=some (.tup xs)
 gO:∀b o u,H b=some (.bZ o u)->H' b=some (.bZ o u)
 ir:∀b ps,H b=some (.dP ps)->∃more,H' b=some (.dP (ps++more))
section
variable{fs Wt ex ex':List Addr}{H H1 H2:Hp}{h h1 h2 h':Heap}{a x e:Addr}{o:HO}
theorem Un.any(u:Un fs ex H H1 h h1){b:Addr}{ob:Obj}(q:h.get? b=some ob)(n:H b=none)(hx:b∉ex):∃sl,h1.get? b=some { ob with slots:=sl }:=by
 by_cases hb:b∈fs
 ·exact u.slot b ob q n hb hx
 ·exact⟨ob.slots,u.keep b ob q n hb hx⟩
theorem Un.kept(k:∀b u,h.get? b=some u->h'.get? b=some u):Un fs ex H H h h' :=
 ⟨λb ob q _ _ _=>k b ob q,λb ob q _ _ _=>⟨ob.slots,k b ob q⟩,λ_ _ _ n _=>n,λb ob q _=>⟨ob,k b ob q⟩,λ_ _ q=>q,λ_ _ _ q=>q,λ_ ps q=>⟨#[],by rw[q];simp⟩⟩
theorem Un.refl:Un fs ex H H h h:=Un.kept λ_ _ q=>q
theorem Un.laid(k:∀b u,h.get? b=some u->h'.get? b=some u)(hp:h.objs.size<=a)(hn:H a=none):Un fs ex H (upd H a o) h h' where
 keep:=λb u q _ _ _=>k b u q
 slot:=λb u q _ _ _=>⟨u.slots,k b u q⟩
 free:=λb u q n _=>by rw[az (Nat.ne_of_lt (Nat.lt_of_lt_of_le (Heap.lt_size q) hp))];exact n
 there:=λb u q _=>⟨u,k b u q⟩
 ig:=λb xs q=>by rw[az (bW q hn)];exact q
 gO:=λb u xs q=>by rw[az (bW q hn)];exact q
 ir:=λb ps q=>⟨#[],by rw[az (bW q hn),q];simp⟩
theorem Un.write(mu:rq (H x))(he:e=x\/H e=some (.own x))(k:∀b u,b≠e->h.get? b=some u->h'.get? b=some u)(pG:∃u,h'.get? e=some u):Un fs ex H (upd H x o) h h':=by
 have hx:∀b,H b=none->b≠x:=λb n z=>by subst z;rw[n] at mu;exact mu
 have hb:∀b,H b=none->b≠e:=λb n z=>by
  subst z;rcases he with r | r
  ·exact hx b n r
  ·rw[n] at r;cases r
 have hm:∀b u,H b=some u->¬ rq (some u)->b≠x:=λb u q nm z=>by subst z;rw[q] at mu;exact nm mu
 refine⟨λb u q n _ _=>k b u (hb b n) q,λb u q n _ _=>⟨u.slots,k b u (hb b n) q⟩,λb u q n _=>by rw[az (hx b n)];exact n,λb u q _=>?_,
  λb xs q=>by rw[az (hm b _ q λz=>z)];exact q,λb u xs q=>by rw[az (hm b _ q λz=>z)];exact q,λb ps q=>⟨#[],by rw[az (hm b _ q λz=>z),q];simp⟩⟩
 by_cases mZ:b=e
 ·subst mZ;exact pG
 ·exact⟨u,k b u mZ q⟩
end
noncomputable def vn(h:Heap)(H:Hp):List Addr:=(List.range h.objs.size).filter λa=>(H a).isSome
noncomputable def gP(h:Heap)(H:Hp):Heap:=PySem.W.hideAll h (vn h H)
theorem KN(h:Heap)(H:Hp):(gP h H).objs.size=h.objs.size:=PySem.W.hideAll_size _ _
theorem KO{h:Heap}{H:Hp}{b:Addr}{o:Obj}(e:h.get? b=some o)(n:H b=none):(gP h H).get? b=some o :=
 PySem.W.hideAll_get _ e λhm=>by
  have q:(H b).isSome=true:=(List.mem_filter.mp hm).2;rw[n] at q;simp at q
theorem KP{h:Heap}{H:Hp}{b:Addr}{o:Obj}(e:(gP h H).get? b=some o):h.get? b=some o/\H b=none:=by
 have e':h.get? b=some o:=PySem.W.of_hideAll (vn h H) e;refine⟨e',?_⟩;cases q:H b with
 | none=>rfl
 | some x =>
  have hm:b∈vn h H:=List.mem_filter.mpr ⟨List.mem_range.mpr (Heap.lt_size e'),by simp[q]⟩
  have z:(gP h H).get? b=none:=PySem.W.hideAll_none (vn h H) hm;rw[z] at e;cases e
noncomputable def vo(g h:Heap)(L:Addr):List (Addr×Obj):=(List.range h.objs.size).filterMap λa=>if a=L\/(g.get? a).isSome=true then none else(h.get? a).map λo=>(a,o)
theorem Wu{g h:Heap}{L a:Addr}{o:Obj}(h1:a≠L)(h2:g.get? a=none)(h3:h.get? a=some o):(a,o)∈vo g h L :=
 List.mem_filterMap.mpr ⟨a,List.mem_range.mpr (Heap.lt_size h3),by simp[h1,h2,h3]⟩
theorem Wv{g h:Heap}{L:Addr}{p:Addr×Obj}(hp:p∈vo g h L):p.1≠L/\g.get? p.1=none/\h.get? p.1=some p.2:=by
 obtain⟨b,_,e⟩:=List.mem_filterMap.mp hp;split at e
 ·cases e
 ·rename_i hn;cases q:h.get? b with
  | none=>rw[q] at e;simp at e
  | some u =>
   rw[q] at e;simp only[Option.map_some,Option.some.injEq] at e;subst e;refine⟨λz=>hn (.inl z),?_,q⟩
   show g.get? b=none;cases r:g.get? b with
   | none=>rfl
   | some v=>exact(hn (.inr (by simp[r]))).elim
noncomputable def rest(g h:Heap)(L d:Addr):List (Addr×Obj):=(vo g h L).filter λp=>decide (p.1≠d)
theorem Ww{g h:Heap}{L:Addr}:News g L h (vo g h L):=λp hp=>let ⟨a,b,c⟩:=Wv hp;⟨c,a,b⟩
structure Mod(K:PySem.W.Frag)(mg:Str->Option Value)(base:Heap):Prop where
 i7:K.In base
 glob:base.Ns mainGlobals mg
 blt:∃mb,base.Ns builtinsNs mb/\∀x:Str,x≠"__name__"->mb x=bootBuiltins x
 nolimit:base.NoLimit
structure Cx where
 prog:Program
 w:World
 K:PySem.W.Frag
 mg:Str->Option Value
 base:Heap
 A:Around
 N:List Str
 bx:Shared
 cY:Hp
 env:Env
 outer:List Env
 stack:List Env
 ex:List Addr
 fn:Str->Bool
 calm:Bool
 pn:List (Addr×Obj)
 xe:Value->Shared->Prop
noncomputable def cg(l:List Env):List Addr:=l.filterMap (·.frame)
noncomputable abbrev Cx.fs(X:Cx):List Addr:=cg X.outer
noncomputable def Cy(sc:Scope)(x:Str):Prop:=sc.names.lookup x=some .local\/sc.names.lookup x=some .cell\/sc.names.lookup x=some .free
noncomputable def Loc(sc:Scope)(x:Str):Prop:=sc.names.lookup x=some .local\/sc.names.lookup x=some .cell
noncomputable def Look(env:Env)(h:Heap)(m:Str->Option Value)(x:Str)(u:Value):Prop :=
 (env.kindOf x=some .local/\m x=some u)\/((env.kindOf x=some .cell\/env.kindOf x=some .free)/\∃c,env.cells.lookup x=some c/\h.IsCell c (some u))
structure Cx.Ok(X:Cx):Prop where
 mod:Mod X.K X.mg X.base
 kind:X.env.scope.kind = .function
 glob:X.env.globals=mainGlobals
 blt:X.env.builtins=builtinsNs
 above:X.bx.heap.objs.size<=X.env.locals
 inj:∀x y c,X.env.cells.lookup x=some c->X.env.cells.lookup y=some c->x=y
 has:∀x,(X.env.kindOf x=some .cell\/X.env.kindOf x=some .free)->∃c,X.env.cells.lookup x=some c
 m_:∀x c,X.fn x=true->X.env.cells.lookup x=some c->X.bx.heap.objs.size<=c
 hd:X.calm=true->X.A.handled=none
 frames:X.A.frames=some X.stack
 pH:X.stack=X.outer\/(X.stack=X.env::X.outer/\X.env.frame=some X.env.locals)
 pI:∀b∈X.ex,b≠X.env.locals/\∀x c,X.env.cells.lookup x=some c->c≠b
 bs:∀b o,X.base.get? b=some o->X.bx.heap.get? b=some o/\X.cY b=none
 iu:X.base.objs.size<=X.bx.heap.objs.size
 ng:∀b o,X.base.get? b=some o->b∉X.ex
 ni:∀b∈X.ex,b∉X.fs
 fX:X.bx.heap.FunFrames X.base X.outer
 i8:∀b∈X.fs,X.cY b=none
structure Inv(X:Cx)(pins:List (Addr×Obj))(σ:List (Option V))(H:Hp)(s:Shared):Prop where
 ok:X.Ok
 os:s.os=X.bx.os
 bare:AllBare s.gens
 base:Un X.fs X.ex X.cY H X.bx.heap s.heap
 loc:∃m,s.heap.Ns X.env.locals m/\∀(i:Nat) (x:Str) (v:V),X.N[i]? = some x->σ[i]? = some (some v)->Cy X.env.scope x->∃u,RelV v u/\Look X.env s.heap m x u
 cell:∀x c,X.env.cells.lookup x=some c->∃v,s.heap.IsCell c v
 free:H X.env.locals=none
 gu:∀x c,X.env.cells.lookup x=some c->H c=none
 pin:∀p∈X.pn++pins,s.heap.get? p.1=some p.2/\H p.1=none/\p.1≠X.env.locals/\p.1∉X.fs/\∀v,p.2.data≠.cell v
 aD:b_ X.prog X.w H s.heap
 len:σ.length=X.N.length
section
variable{X:Cx}{pins:List (Addr×Obj)}{σ:List (Option V)}{H H':Hp}{s:Shared}{h':Heap}
theorem Cx.Ok.Wx(ok:X.Ok){b:Addr}{o:Obj}(e:X.base.get? b=some o):b∉X.fs:=λhb=>by
 have:=(ok.fX.mem hb).1;rw[e] at this;cases this
theorem Inv.bs(I:Inv X pins σ H s):∀b o,X.base.get? b=some o->s.heap.get? b=some o/\H b=none:=λb o e =>
 ⟨I.base.keep b o (I.ok.bs b o e).1 (I.ok.bs b o e).2 (I.ok.Wx e) (I.ok.ng b o e),I.base.free b o (I.ok.bs b o e).1 (I.ok.bs b o e).2 (I.ok.ng b o e)⟩
theorem Inv.bk(I:Inv X pins σ H s):∀b o,X.base.get? b=some o->s.heap.get? b=some o:=λb o e=>(I.bs b o e).1
theorem Inv.mod(I:Inv X pins σ H s):Mod X.K X.mg X.base:=I.ok.mod
theorem Inv.bX(I:Inv X pins σ H s):X.K.In s.heap:=I.ok.mod.i7.keeps I.bk
theorem Inv.nolimit(I:Inv X pins σ H s):s.heap.NoLimit:=I.ok.mod.nolimit.keeps I.bk
theorem Inv.fr(I:Inv X pins σ H s):∃m,Fr X.base X.env.locals s.heap m :=
 let ⟨m,hn,_⟩:=I.loc
 ⟨m,hn,I.bk,Nat.le_trans I.ok.iu I.ok.above⟩
theorem Inv.lt(I:Inv X pins σ H s):X.env.locals<s.heap.objs.size:=let ⟨_,hn,_⟩:=I.loc;hn.lt
theorem Inv.sz(I:Inv X pins σ H s):X.bx.heap.objs.size<=s.heap.objs.size:=Nat.le_trans I.ok.above (Nat.le_of_lt I.lt)
theorem Inv.rB(I:Inv X pins σ H s){a:Addr}(h:s.heap.objs.size<=a):a∉X.fs:=λhb=>by
 obtain⟨_,o,ho,_⟩:=I.ok.fX.mem hb;exact absurd (Nat.lt_of_lt_of_le (Heap.lt_size ho) (Nat.le_trans I.sz h)) (Nat.lt_irrefl _)
theorem Inv.jC(I:Inv X pins σ H s):∀x c,X.env.cells.lookup x=some c->c≠X.env.locals:=λx c e z=>by
 obtain⟨v,o,ho,hd⟩:=I.cell x c e;obtain⟨m,⟨o',es,ep,kZ,Cz,_⟩,_⟩:=I.loc;rw[z,kZ] at ho;cases ho;rw[Cz] at hd;cases hd
theorem Inv.fX(I:Inv X pins σ H s):s.heap.FunFrames X.base X.outer:=by
 have all:∀(l:List Env),(∀b∈cg l,b∈X.fs)->X.bx.heap.FunFrames X.base l->s.heap.FunFrames X.base l:=by
  intro l
  induction l with
  | nil=>intro _ _;trivial
  | cons env r ih =>
   intro hs hl;obtain⟨hk,⟨L,o,hf,hn,ho,hd⟩,hr⟩:=hl;have hL:L∈X.fs:=hs L (by unfold cg;rw[List.filterMap_cons,hf];exact List.mem_cons_self)
   obtain⟨sl,e⟩:=I.base.slot L o ho (I.ok.i8 L hL) hL λz=>I.ok.ni L z hL;exact⟨hk,⟨L,_,hf,hn,e,hd⟩,ih (λb hb=>hs b (by unfold cg;rw[List.filterMap_cons,hf];exact List.mem_cons_of_mem _ hb)) hr⟩
 exact all X.outer (λ_ hb=>hb) I.ok.fX
theorem Inv.stack(I:Inv X pins σ H s):s.heap.FunFrames X.base X.stack:=by
 rcases I.ok.pH with e | ⟨e,hf⟩
 ·rw[e];exact I.fX
 ·rw[e];obtain⟨m,hn,_⟩:=I.loc;refine .cons (by rw[I.ok.kind];decide) hf hn ?_ I.fX
  exact Heap.get?_none_of_le (Nat.le_trans I.ok.iu I.ok.above)
theorem Inv.CB(I:Inv X pins σ H s):∀b∈cg X.stack,b∈X.env.locals::X.fs:=λb hb=>by
 rcases I.ok.pH with e | ⟨e,hf⟩
 ·rw[e] at hb;exact List.mem_cons_of_mem _ hb
 ·rw[e] at hb;unfold cg at hb;rw[List.filterMap_cons,hf] at hb;exact hb
theorem Inv.vp(I:Inv X pins σ H s):∀b∈cg X.stack,H b=none:=λb hb=>by
 rcases List.mem_cons.mp (I.CB b hb) with e | hb
 ·rw[e];exact I.free
 ·obtain⟨_,o,ho,_⟩:=I.ok.fX.mem hb;exact I.base.free b o ho (I.ok.i8 b hb) λz=>I.ok.ni b z hb
theorem Inv.step{g':Array GenState}{t':Nat}{d':Drawn}{ch:List Addr}(I:Inv X pins σ H s)
  (j4:∀b∈ch,(b∈X.ex\/X.bx.heap.objs.size<=b)/\b≠X.env.locals/\(∀x c,X.env.cells.lookup x=some c->c≠b)/\∀p∈X.pn++pins,p.1≠b)
  (keep:∀b o,b≠X.env.locals->b∉X.fs->b∉ch->s.heap.get? b=some o->H b=none->h'.get? b=some o)
  (slot:∀b o,b≠X.env.locals->b∈X.fs->b∉ch->s.heap.get? b=some o->H b=none->∃sl,h'.get? b=some { o with slots:=sl }) (free:∀b o,b∉ch->s.heap.get? b=some o->H b=none->H' b=none)
  (there:∀b o,b∉ch->s.heap.get? b=some o->∃o',h'.get? b=some o')
  (ig:∀b xs,H b=some (.tup xs)->H' b=some (.tup xs)) (gO:∀b o u,H b=some (.bZ o u)->H' b=some (.bZ o u)) (ir:∀b ps,H b=some (.dP ps)->∃more,H' b=some (.dP (ps++more)))
  (ns:∀m,s.heap.Ns X.env.locals m->h'.Ns X.env.locals m) (aD:b_ X.prog X.w H' h') (hg:AllBare g') :
  Inv X pins σ H' { s with heap:=h',gens:=g',drawn:=d',toks:=t' }:=by
 have KQ:∀b o,X.bx.heap.get? b=some o->b≠X.env.locals:=λb o e=>Nat.ne_of_lt (Nat.lt_of_lt_of_le (Heap.lt_size e) I.ok.above);have vq:∀b o,X.bx.heap.get? b=some o->b∉X.ex->b∉ch:=λb o e hx hb=>by
  rcases(j4 b hb).1 with z | z
  ·exact hx z
  ·exact absurd (Nat.lt_of_lt_of_le (Heap.lt_size e) z) (Nat.lt_irrefl _)
 have cellK:∀x c,X.env.cells.lookup x=some c->∀v,s.heap.IsCell c v->h'.IsCell c v:=λx c e v ⟨o,ho,hd⟩=>by
  have rC:c∉ch:=λz=>(j4 c z).2.2.1 x c e rfl;by_cases hc:c∈X.fs
  ·obtain⟨sl,q⟩:=slot c o (I.jC x c e) hc rC ho (I.gu x c e);exact⟨_,q,hd⟩
  ·exact⟨o,keep c o (I.jC x c e) hc rC ho (I.gu x c e),hd⟩
 refine⟨I.ok,I.os,hg,⟨λb o e n hb hx=>?_,λb o e n hb hx=>?_,λb o e n hx=>?_,λb o e hx=>?_,λb xs e=>ig b xs (I.base.ig b xs e),λb o xs e=>gO b o xs (I.base.gO b o xs e),λb ps e=>?_⟩,?_,λx c e=>?_,?_,λx c e=>?_,λp hp=>?_,aD,I.len⟩
 ·exact keep b o (KQ b o e) hb (vq b o e hx) (I.base.keep b o e n hb hx) (I.base.free b o e n hx)
 ·obtain⟨sl,e1⟩:=I.base.slot b o e n hb hx;obtain⟨Wy,e2⟩:=slot b _ (KQ b o e) hb (vq b o e hx) e1 (I.base.free b o e n hx);exact⟨Wy,e2⟩
 ·obtain⟨o',e1⟩:=I.base.there b o e hx;exact free b o' (vq b o e hx) e1 (I.base.free b o e n hx)
 ·obtain⟨o',e1⟩:=I.base.there b o e hx;exact there b o' (vq b o e hx) e1
 ·obtain⟨m1,e1⟩:=I.base.ir b ps e;obtain⟨m2,e2⟩:=ir b _ e1;exact⟨m1++m2,by rw[e2,Array.append_assoc]⟩
 ·obtain⟨m,hn,hl⟩:=I.loc;refine⟨m,ns m hn,λi x v e1 e2 e3=>?_⟩;obtain⟨u,r,l⟩:=hl i x v e1 e2 e3;refine⟨u,r,?_⟩;rcases l with l | ⟨k,c,e,z⟩
  ·exact .inl l
  ·exact .inr ⟨k,c,e,cellK x c e _ z⟩
 ·obtain⟨v,z⟩:=I.cell x c e;exact⟨v,cellK x c e v z⟩
 ·obtain⟨m,⟨o,_,_,ho,_⟩,_⟩:=I.loc;exact free _ o (λz=>(j4 _ z).2.1 rfl) ho I.free
 ·obtain⟨v,o,ho,hd⟩:=I.cell x c e;exact free c o (λz=>(j4 c z).2.2.1 x c e rfl) ho (I.gu x c e)
 ·obtain⟨e,n,ne,nf,d⟩:=I.pin p hp;have rC:p.1∉ch:=λz=>(j4 p.1 z).2.2.2 p hp rfl;exact⟨keep p.1 p.2 ne nf rC e n,free p.1 p.2 rC e n,ne,nf,d⟩
theorem Inv.un{t':Nat}(I:Inv X pins σ H s)(u:Un X.fs [] H H' s.heap h')(aD:b_ X.prog X.w H' h'):Inv X pins σ H' { s with heap:=h',toks:=t' }:=by
 obtain⟨m,⟨o,es,ep,ho,r⟩,_⟩:=id I.loc;obtain⟨sl,hL⟩:=u.any ho I.free (by simp)
 exact I.step (g':=s.gens) (d':=s.drawn) (ch:=[]) (λ_ z=>nomatch z) (λb o _ hb _ e n=>u.keep b o e n hb (by simp)) (λb o _ hb _ e n=>u.slot b o e n hb (by simp)) (λb o _ e n=>u.free b o e n (by simp)) (λb o _ e=>u.there b o e (by simp)) u.ig u.gO u.ir (λm' hm=>by
  obtain⟨o',CF,CG,kZ,r'⟩:=hm;rw[ho] at kZ;cases kZ;exact⟨_,CF,CG,hL,r'⟩) aD I.bare
theorem Inv.call{g':Array GenState}{t':Nat}{d':Drawn}{ch:List Addr}(I:Inv X pins σ H s)(u:Un (cg X.stack) ch H H' s.heap h')(aD:b_ X.prog X.w H' h')(hg:AllBare g')
  (j4:∀b∈ch,(b∈X.ex\/X.bx.heap.objs.size<=b)/\b≠X.env.locals/\(∀x c,X.env.cells.lookup x=some c->c≠b)/\∀p∈X.pn++pins,p.1≠b) :
  Inv X pins σ H' { s with heap:=h',gens:=g',drawn:=d',toks:=t' }:=by
 obtain⟨m,⟨o,es,ep,ho,r⟩,_⟩:=id I.loc;obtain⟨sl,hL⟩:=u.any ho I.free λz=>(j4 _ z).2.1 rfl;exact I.step (ch:=ch) j4 (λb o hL hb hc e n=>u.keep b o e n (λz=>(List.mem_cons.mp (I.CB b z)).elim hL hb) hc) (λb o _ _ hc e n=>u.any e n hc) (λb o hc e n=>u.free b o e n hc) (λb o hc e=>u.there b o e hc) u.ig u.gO u.ir (λm' hm=>by
  obtain⟨o',CF,CG,kZ,r'⟩:=hm;rw[ho] at kZ;cases kZ;exact⟨_,CF,CG,hL,r'⟩) aD hg
theorem Inv.turned{t':Nat}{it:Addr}(I:Inv X pins σ H s)(k:∀b o,b≠it->s.heap.get? b=some o->h'.get? b=some o)(hn:H it=none)(hL:it≠X.env.locals)
  (h1:it∈X.ex\/X.bx.heap.objs.size<=it) (h2:∀x c,X.env.cells.lookup x=some c->c≠it) (h3:∀p∈X.pn++pins,p.1≠it):Inv X pins σ H { s with heap:=h',toks:=t' }:=by
 have rD:∀b u,H b=some u->b≠it:=λb u e z=>by rw[z,hn] at e;cases e
 refine I.step (g':=s.gens) (d':=s.drawn) (ch:=[it]) (λb hb=>?_) (λb o _ _ hc e _=>k b o (λz=>hc (by simp[z])) e) (λb o _ _ hc e _=>⟨o.slots,k b o (λz=>hc (by simp[z])) e⟩) (λ_ _ _ _ n=>n)
  (λb o hc e=>⟨o,k b o (λz=>hc (by simp[z])) e⟩) (λ_ _ e=>e) (λ_ _ _ e=>e) (λb ps e=>⟨#[],by rw[e];simp⟩) (λm hm=>?_) (λb u e=>?_) I.bare
 ·have e:b=it:=by simpa using hb
  subst e;exact⟨h1,hL,h2,h3⟩
 ·obtain⟨o,es,ep,ho,r⟩:=hm;exact⟨o,es,ep,k _ o (Ne.symm hL) ho,r⟩
 ·refine(I.aD b u e).fE (λc v hc q=>k c v ?_ q) (λ_ q=>q) λ_ _ q=>q;rcases hc with z | z
  ·rw[z];exact rD b u e
  ·exact rD c _ z
theorem Inv.tok(I:Inv X pins σ H s)(t:Nat):Inv X pins σ H { s with toks:=t }:=I.un (h':=s.heap) (t':=t) Un.refl I.aD
theorem Inv.kept{t':Nat}(I:Inv X pins σ H s)(k:∀b u,s.heap.get? b=some u->h'.get? b=some u):Inv X pins σ H { s with heap:=h',toks:=t' }:=I.un (Un.kept k) (I.aD.kept k)
theorem Inv.laid{a:Addr}{o:HO}{t':Nat}(I:Inv X pins σ H s)(k:∀b u,s.heap.get? b=some u->h'.get? b=some u)(hp:s.heap.objs.size<=a)(new:cL X.prog X.w (upd H a o) h' a o) :
  Inv X pins σ (upd H a o) { s with heap:=h',toks:=t' }:=I.un (Un.laid k hp (I.aD.fresh hp)) (I.aD.laid k hp new)
theorem Inv.write{x e:Addr}{o:HO}{t':Nat}(I:Inv X pins σ H s)(mu:rq (H x))(he:e=x\/H e=some (.own x))(k:∀b u,b≠e->s.heap.get? b=some u->h'.get? b=some u)(pG:∃u,h'.get? e=some u)
  (new:cL X.prog X.w (upd H x o) h' x o):Inv X pins σ (upd H x o) { s with heap:=h',toks:=t' }:=I.un (Un.write mu he k pG) (I.aD.write mu he k pG new)
theorem Inv.j5{eK:List (Addr×Obj)}(I:Inv X pins σ H s)(h:∀p∈eK,s.heap.get? p.1=some p.2/\H p.1=none/\p.1≠X.env.locals/\p.1∉X.fs/\∀v,p.2.data≠.cell v):Inv X eK σ H s :=
 ⟨I.ok,I.os,I.bare,I.base,I.loc,I.cell,I.free,I.gu,λp hp=>(List.mem_append.mp hp).elim (λz=>I.pin p (List.mem_append_left _ z)) (h p),I.aD,I.len⟩
theorem CH{N:List Str}(hN:N.Nodup){i j:Nat}{x:Str}(a:N[i]? = some x)(b:N[j]? = some x):i=j:=by
 obtain⟨h1,e1⟩:=List.getElem?_eq_some_iff.mp a;obtain⟨h2,e2⟩:=List.getElem?_eq_some_iff.mp b;exact(List.getElem_inj hN).mp (e1.trans e2.symm)
theorem KR{M:Model}{A:Around}{E:Value->Shared->Prop}{i:Nat}{x:Str}{v:V}{u:Value}{Q:Unit->Shared->Prop}(I:Inv X pins σ H s)(hN:X.N.Nodup)(hi:X.N[i]? = some x)(hx:Loc X.env.scope x)(r:RelV v u)
  (h:∀s',Inv X pins (σ.set i (some v)) H s'->(∃a,Heap.SameBut a s.heap s'.heap/\(a=X.env.locals\/X.env.cells.lookup x=some a))->Q () s') (hf:X.fn x=true\/X.env.scope.names.lookup x=some .local:=by first | exact .inl rfl | exact .inr rfl | assumption):wpAny M A (storeName X.env x u) Q E s:=by
 obtain⟨m,hn,hl⟩:=id I.loc;have rE:(X.env.scope.kind == .class || (X.env.scope.kind == .module && X.env.locals != X.env.globals))=false:=by rw[I.ok.kind];rfl
 have KS:i<σ.length:=by rw[I.len];exact(List.getElem?_eq_some_iff.mp hi).1
 have jC:=I.jC;have tracked:∀ {a:Addr} {h':Heap},(∃o,s.heap.get? a=some o/\H a=none)->Heap.SameBut a s.heap h'->b_ X.prog X.w H h':=λ{a h'} ha hs b ob e=>by
  obtain⟨_,_,KU⟩:=ha;refine(I.aD b ob e).fE (λc w' hc q=>(hs.2 c ?_).trans q) (λ_ q=>q) λ_ _ q=>q;rintro rfl;rcases hc with rfl | hc
  ·rw[KU] at e;cases e
  ·rw[KU] at hc;cases hc
 rcases hx with hk | hk
 ·refine wpAny_storeName_local hk hn (λh' rF hs=>?_) rE;obtain⟨oL,_,_,CI,_⟩:=id hn;refine h _ ⟨I.ok,I.os,I.bare,⟨λb o e n hb hx=>?_,λb o e n hb hx=>?_,I.base.free,λb o e hx=>?_,I.base.ig,I.base.gO,I.base.ir⟩,⟨_,rF,λj y v' e1 e2 e3=>?_⟩,λy c e=>?_,I.free,I.gu,λp hp=>?_,tracked ⟨oL,CI,I.free⟩ hs,by simpa using I.len⟩ ⟨_,hs,.inl rfl⟩
  ·exact(hs.2 b (Nat.ne_of_lt (Nat.lt_of_lt_of_le (Heap.lt_size e) I.ok.above))).trans (I.base.keep b o e n hb hx)
  ·obtain⟨sl,e1⟩:=I.base.slot b o e n hb hx;exact⟨sl,(hs.2 b (Nat.ne_of_lt (Nat.lt_of_lt_of_le (Heap.lt_size e) I.ok.above))).trans e1⟩
  ·obtain⟨o',e1⟩:=I.base.there b o e hx;exact⟨o',(hs.2 b (Nat.ne_of_lt (Nat.lt_of_lt_of_le (Heap.lt_size e) I.ok.above))).trans e1⟩
  ·by_cases hj:j=i
   ·subst hj;rw[hi] at e1;cases e1;rw[List.getElem?_set_self KS] at e2;cases e2;exact⟨u,r,.inl ⟨hk,by simp⟩⟩
   ·rw[List.getElem?_set_ne (Ne.symm hj)] at e2;obtain⟨u',r',q⟩:=hl j y v' e1 e2 e3;refine⟨u',r',?_⟩;rcases q with⟨k,e⟩ | ⟨k,c,e,z⟩
    ·refine .inl ⟨k,?_⟩;have:y≠x:=λe=>hj (CH hN e1 (e▸hi));simp[this,e]
    ·exact .inr ⟨k,c,e,z.sameBut hs (jC y c e)⟩
  ·obtain⟨w',z⟩:=I.cell y c e;exact⟨w',z.sameBut hs (jC y c e)⟩
  ·obtain⟨e,n,ne,nf,d⟩:=I.pin p hp;exact⟨(hs.2 p.1 ne).trans e,n,ne,nf,d⟩
 ·have CJ:X.fn x=true:=by
   rcases hf with z | z
   ·exact z
   ·rw[z] at hk;cases hk
  obtain⟨c,hc⟩:=I.ok.has x (.inl hk);obtain⟨w',z⟩:=I.cell x c hc;refine wpAny_storeName_cell I.ok.kind hk hc z (λh' CK hs=>?_);obtain⟨oc,nj,Wz⟩:=id z;refine h { s with heap:=h' } ⟨I.ok,I.os,I.bare,⟨λb o e n hb hx=>?_,λb o e n hb hx=>?_,I.base.free,λb o e hx=>?_,I.base.ig,I.base.gO,I.base.ir⟩,⟨m,hn.sameBut hs (Ne.symm (jC x c hc)),λj y v' e1 e2 e3=>?_⟩,λy c' e=>?_,I.free,I.gu,λp hp=>?_,tracked ⟨oc,nj,I.gu x c hc⟩ hs,by simpa using I.len⟩ ⟨c,hs,.inr hc⟩
  ·exact(hs.2 b (Nat.ne_of_lt (Nat.lt_of_lt_of_le (Heap.lt_size e) (I.ok.m_ x c CJ hc)))).trans (I.base.keep b o e n hb hx)
  ·obtain⟨sl,e1⟩:=I.base.slot b o e n hb hx;exact⟨sl,(hs.2 b (Nat.ne_of_lt (Nat.lt_of_lt_of_le (Heap.lt_size e) (I.ok.m_ x c CJ hc)))).trans e1⟩
  ·obtain⟨o',e1⟩:=I.base.there b o e hx;exact⟨o',(hs.2 b (Nat.ne_of_lt (Nat.lt_of_lt_of_le (Heap.lt_size e) (I.ok.m_ x c CJ hc)))).trans e1⟩
  ·by_cases hj:j=i
   ·subst hj;rw[hi] at e1;cases e1;rw[List.getElem?_set_self KS] at e2;cases e2;exact⟨u,r,.inr ⟨.inl hk,c,hc,CK⟩⟩
   ·rw[List.getElem?_set_ne (Ne.symm hj)] at e2;obtain⟨u',r',q⟩:=hl j y v' e1 e2 e3;refine⟨u',r',?_⟩;rcases q with q | ⟨k,c',e,z'⟩
    ·exact .inl q
    ·refine .inr ⟨k,c',e,z'.sameBut hs ?_⟩;rintro rfl;exact hj (CH hN e1 (I.ok.inj _ _ _ e hc▸hi))
  ·by_cases vt:c' = c
   ·subst vt;exact⟨_,CK⟩
   ·obtain⟨w2,z2⟩:=I.cell y c' e;exact⟨w2,z2.sameBut hs vt⟩
  ·obtain⟨e,n,ne,nf,d⟩:=I.pin p hp;refine⟨(hs.2 p.1 ?_).trans e,n,ne,nf,d⟩;intro q;rw[q,nj] at e;have q':oc=p.2:=Option.some.inj e;exact d w' (by rw[← q'];exact Wz)
theorem CM{M:Model}{A:Around}{E:Value->Shared->Prop}{i:Nat}{x:Str}{v:V}{u:Value}{Q:Unit->Shared->Prop}(I:Inv X pins σ H s)(hN:X.N.Nodup)(hi:X.N[i]? = some x)(hx:Loc X.env.scope x)(r:RelV v u)
  (h:∀s',Inv X pins (σ.set i (some v)) H s'->Q () s') (hf:X.fn x=true\/X.env.scope.names.lookup x=some .local:=by first | exact .inl rfl | exact .inr rfl | assumption):wpAny M A (storeName X.env x u) Q E s :=
 KR I hN hi hx r (λs' I' _=>h s' I') hf
theorem Inv.vv{s':Shared}{ch:List Addr}(I:Inv X pins σ H s)(ho:s'.os=s.os)(u:Un (cg X.stack) ch H H' s.heap s'.heap)(aD:b_ X.prog X.w H' s'.heap)(hg:AllBare s'.gens)
  (j4:∀b∈ch,(b∈X.ex\/X.bx.heap.objs.size<=b)/\b≠X.env.locals/\(∀x c,X.env.cells.lookup x=some c->c≠b)/\∀p∈X.pn++pins,p.1≠b):Inv X pins σ H' s':=by
 obtain⟨h',g',d',t',o'⟩:=s';have e:o' = s.os:=ho;subst e;exact I.call (g':=g') (t':=t') (d':=d') u aD hg j4
end
noncomputable abbrev XK:=Value->Option Addr->Hp->Prop
noncomputable abbrev St:=List (Option V)
noncomputable abbrev VK:=V->Hp->Prop
noncomputable abbrev TE:=St->Hp->VK->Prop
noncomputable abbrev TT:=St->Hp->(Bool->Hp->Prop)->Prop
noncomputable abbrev TA:=St->Hp->(List V->Hp->Prop)->Prop
structure Ends where
 nx:St->Hp->Prop
 rt:VK
 bk:St->Hp->Prop:=λ_ _=>False
 ct:St->Hp->Prop:=λ_ _=>False
noncomputable abbrev TS:=Ends->St->Hp->Prop
noncomputable def EP(X:Cx)(pins:List (Addr×Obj))(σ:St)(Q:VK)(u:Value)(s':Shared):Prop:=∃v H',Inv X pins σ H' s'/\RelV v u/\Q v H'
noncomputable def TP(X:Cx)(pins:List (Addr×Obj))(σ:St)(Q:Bool->Hp->Prop)(b:Bool)(s':Shared):Prop:=∃H',Inv X pins σ H' s'/\Q b H'
noncomputable def AP(X:Cx)(pins:List (Addr×Obj))(σ:St)(Q:List V->Hp->Prop)(us:List Value)(s':Shared):Prop:=∃vs H',Inv X pins σ H' s'/\Vals vs us/\Q vs H'
noncomputable def SP(X:Cx)(pins:List (Addr×Obj))(D:Ends)(f:Flow)(s':Shared):Prop :=
 match f with
 | .next=>∃aQ H',Inv X pins aQ H' s'/\D.nx aQ H'
 | .brk=>∃aQ H',Inv X pins aQ H' s'/\D.bk aQ H'
 | .cont=>∃aQ H',Inv X pins aQ H' s'/\D.ct aQ H'
 | .ret u=>∃v aQ H',Inv X pins aQ H' s'/\RelV v u/\D.rt v H'
noncomputable def PE(X:Cx)(e:Expr)(t:TE):Prop :=
 ∀(pins:List (Addr×Obj)) (s:Shared) (σ:St) (H:Hp) (Q:VK),Inv X pins σ H s->t σ H Q->wpAny (model X.prog X.w) X.A (eval e X.env) (EP X pins σ Q) X.xe s
noncomputable def PT(X:Cx)(e:Expr)(t:TT):Prop :=
 ∀(pins:List (Addr×Obj)) (s:Shared) (σ:St) (H:Hp) (Q:Bool->Hp->Prop),Inv X pins σ H s->t σ H Q->wpAny (model X.prog X.w) X.A (isTrue e X.env (eval e X.env)) (TP X pins σ Q) X.xe s
noncomputable def PW(X:Cx)(e:Expr)(t:TT):Prop :=
 ∀(whole:Sem Value) (pins:List (Addr×Obj)) (s:Shared) (σ:St) (H:Hp) (Q:Bool->Hp->Prop),Inv X pins σ H s->t σ H Q->wpAny (model X.prog X.w) X.A (isTrue e X.env whole) (TP X pins σ Q) X.xe s
theorem PW.pt{X:Cx}{e:Expr}{t:TT}(h:PW X e t):PT X e t:=h _
noncomputable def PA(X:Cx)(es:List Expr)(t:TA):Prop :=
 ∀(pos:Pos) (pins:List (Addr×Obj)) (s:Shared) (σ:St) (H:Hp) (Q:List V->Hp->Prop),Inv X pins σ H s->t σ H Q->wpAny (model X.prog X.w) X.A (spliced (backTo pos (starEach es X.env))) (AP X pins σ Q) X.xe s
noncomputable def PS(X:Cx)(st:Stmt)(t:TS):Prop :=
 ∀(pins:List (Addr×Obj)) (s:Shared) (σ:St) (H:Hp) (D:Ends),Inv X pins σ H s->t D σ H->wpAny (model X.prog X.w) X.A (exec st X.env) (SP X pins D) X.xe s
noncomputable def eZ(X:Cx)(st:List Stmt)(t:TS):Prop :=
 ∀(pins:List (Addr×Obj)) (s:Shared) (σ:St) (H:Hp) (D:Ends),Inv X pins σ H s->t D σ H->wpAny (model X.prog X.w) X.A (execs st X.env) (SP X pins D) X.xe s
theorem aK{α:Type}{t:Sem α}{Q Q':α->Shared->Prop}{M:Model}{A:Around}{E:Value->Shared->Prop}{s:Shared}(h:wpAny M A t Q E s)(hQ:∀a s,Q a s->Q' a s):wpAny M A t Q' E s:=wpAny_mono h hQ λ_ _ x=>x
section
variable{X:Cx}
noncomputable def KW(i:Nat):TE:=λσ H Q=>∃v,σ[i]? = some (some v)/\Q v H
noncomputable def tC(v:V):TE:=λ_ H Q=>Q v H
theorem WA{i:Nat}{x:Str}{pos:Pos}(hN:X.N[i]? = some x)(hv:Cy X.env.scope x)(hd:(x == ("__debug__" : Str))=false:=by decide)(cV:(x == ("__classdict__" : Str))=false:=by decide):PE X (.Name x pos) (KW i):=by
 intro pins s σ H Q I h;obtain⟨v,e,h⟩:=h;obtain⟨m,hn,hl⟩:=I.loc;obtain⟨u,r,l⟩:=hl i x v hN e hv;have fin:EP X pins σ Q u s:=⟨v,H,I,r,h⟩;rcases l with⟨hk,hm⟩ | ⟨hk,c,hc,KY⟩
 ·exact wpAny_Name (wpAny_loadName_local I.ok.kind hk hn hm fin) hd
 ·rcases hk with hk | hk
  ·exact wpAny_Name (wpAny_loadName_cell I.ok.kind hk hc KY fin) hd
  ·exact wpAny_Name (wpAny_loadName_free I.ok.kind hk hc KY fin cV) hd
theorem aC{i j pos}:PE X (.Constant (.int i) j pos) (tC (.int i)):=λ_ _ _ H _ I h=>wpAny_Constant_int ⟨.int i,H,I.tok _,⟨_,rfl⟩,h⟩
theorem gQ{b j pos}:PE X (.Constant (.bool b) j pos) (tC (.bl b)):=λ_ _ _ H _ I h=>Constant_bool ⟨.bl b,H,I,rfl,h⟩
theorem rG{j pos}:PE X (.Constant .none j pos) (tC .aI):=λ_ _ _ H _ I h=>Constant_none ⟨.aI,H,I,rfl,h⟩
theorem cA{x j pos}:PE X (.Constant (.str x) j pos) (tC (.str x)):=λ_ _ _ H _ I h=>Calls.Constant_str ⟨.str x,H,I.tok _,⟨_,rfl⟩,h⟩
noncomputable def Gl(X:Cx)(x:Str):Prop:=X.env.kindOf x=some .globalImplicit
theorem lP{E:Value->Shared->Prop}{pins:List (Addr×Obj)}{s:Shared}{σ:St}{H:Hp}{x:Str}{u:Value}{pos:Pos}{Q:Value->Shared->Prop}(I:Inv X pins σ H s)(hg:Gl X x)(hm:X.mg x=some u)(h:Q u s)
  (hd:(x == ("__debug__" : Str))=false:=by decide):wpAny (model X.prog X.w) X.A (eval (.Name x pos) X.env) Q E s :=
 Calls.Name_function_global I.ok.kind hg (Calls.loadGlobal_global (by rw[I.ok.glob];exact I.mod.glob.keeps I.bk) hm h) hd
theorem j6{E:Value->Shared->Prop}{pins:List (Addr×Obj)}{s:Shared}{σ:St}{H:Hp}{x:Str}{u:Value}{pos:Pos}{Q:Value->Shared->Prop}(I:Inv X pins σ H s)(hg:Gl X x)(hm:X.mg x=none)(hv:bootBuiltins x=some u)(h:Q u s)
  (hn:x≠"__name__" := by decide) (hd:(x == ("__debug__" : Str))=false:=by decide):wpAny (model X.prog X.w) X.A (eval (.Name x pos) X.env) Q E s:=by
 obtain⟨mb,h1,h2⟩:=I.mod.blt;exact Calls.Name_function_global I.ok.kind hg (Calls.loadGlobal_builtin (by rw[I.ok.glob];exact I.mod.glob.keeps I.bk) hm (by rw[I.ok.blt];exact h1.keeps I.bk) ((h2 x hn).trans hv) h) hd
theorem dQ{x:Str}{v:V}{u:Value}{pos:Pos}(hg:Gl X x)(hm:X.mg x=some u)(r:RelV v u)(hd:(x == ("__debug__" : Str))=false:=by decide):PE X (.Name x pos) (tC v) :=
 λ_ _ _ H _ I h=>lP I hg hm ⟨v,H,I,r,h⟩ hd
theorem vA{x:Str}{v:V}{u:Value}{pos:Pos}(hg:Gl X x)(hm:X.mg x=none)(hv:bootBuiltins x=some u)(r:RelV v u)(hn:x≠"__name__" := by decide)(hd:(x == ("__debug__" : Str))=false:=by decide):PE X (.Name x pos) (tC v) :=
 λ_ _ _ H _ I h=>j6 I hg hm hv ⟨v,H,I,r,h⟩ hn hd
variable{a b:Expr}{ta tb:TE}{pos:Pos}
noncomputable def PC(X:Cx)(op:CmpOp)(a b:Expr)(t:TE):Prop :=
 ∀(pins:List (Addr×Obj)) (s:Shared) (σ:St) (H:Hp) (Q:VK),Inv X pins σ H s->t σ H Q->
  wpAny (model X.prog X.w) X.A (eval a X.env) (λv aP=>wpAny (model X.prog X.w) X.A (eval b X.env) (λu iJ=>wpAny (model X.prog X.w) X.A (compareOp op v u) (EP X pins σ Q) X.xe iJ) X.xe aP) X.xe s
theorem KZ(b:Expr){op:CmpOp}(h:op≠.In)(h2:op≠.NotIn):behindInMarks op b=false:=by
 have e1:(op == CmpOp.In)=false:=by cases op <;> first | rfl | exact absurd rfl h
 have e2:(op == CmpOp.NotIn)=false:=by cases op <;> first | rfl | exact absurd rfl h2
 cases b <;> simp[behindInMarks,e1,e2]
noncomputable def tB(t:TE):TT:=λσ H Q=>t σ H λx H1=>∃c,x = .bl c/\Q c H1
theorem K0{op:CmpOp}{t:TE}(h:PC X op a b t)(h1:behindInMarks op b=false:=by first | exact KZ _ (by decide) (by decide) | rfl):PE X (.Compare a [op] [b] pos) t:=λpins s σ H Q I hw=>wpAny_Compare1 (h pins s σ H Q I hw) h1
theorem WB{op:CmpOp}{t:TE}(h:PC X op a b t)(h1:behindInMarks op b=false:=by first | exact KZ _ (by decide) (by decide) | rfl):PT X (.Compare a [op] [b] pos) (tB t):=by
 intro pins s σ H Q I hw;refine wpAny_isTrue_Compare1 (aK (h pins s σ H _ I hw) λv s1 h1=>aK h1 λu s2 h2=>aK h2 λc s3 ⟨x,H1,I1,r1,q1⟩=>?_) h1;obtain⟨d,rfl,q⟩:=q1;cases r1;exact wpAny_truthy_bool ⟨H1,I1,q⟩
theorem i9{e:Expr}{t:TE}(h:PE X e t)(he:∀whole,isTrue e X.env whole=(do let v ← whole;standAt e.pos;holding [v] (truthy v)):=by intro _;rfl):PT X e (tB t):=by
 intro pins s σ H Q I hw;refine isTrue_plain (aK (h pins s σ H _ I hw) λv s1 ⟨x,H1,I1,r1,q1⟩=>?_) (he _);obtain⟨d,rfl,q⟩:=q1;cases r1;exact wpAny_truthy_bool ⟨H1,I1,q⟩
variable{tA vB:TT}{rest:List Expr}
noncomputable def WC(t u:TT):TT:=λσ H Q=>t σ H λc H1=>if c=true then u σ H1 Q else Q false H1
noncomputable def WD(t u:TT):TT:=λσ H Q=>t σ H λc H1=>if c=true then Q true H1 else u σ H1 Q
noncomputable def WE(t:TT):TT:=λσ H Q=>t σ H λc H1=>Q (!c) H1
theorem K1(ha:PT X a tA):PW X (.BoolOp .And [a] pos) tA:=by
 intro wh pins s σ H Q I h;refine isTrue_and (aK (ha pins s σ H Q I h) λc s1 e=>?_);cases c with
 | true=>exact isTrue_and_nil e
 | false=>exact e
theorem gR(ha:PT X a tA):PW X (.BoolOp .Or [a] pos) tA:=by
 intro wh pins s σ H Q I h;refine isTrue_or (aK (ha pins s σ H Q I h) λc s1 e=>?_);cases c with
 | false=>exact isTrue_or_nil e
 | true=>exact e
theorem K2(ha:PT X a tA)(hb:PW X (.BoolOp .And (b::rest) pos) vB):PW X (.BoolOp .And (a::b::rest) pos) (WC tA vB):=by
 intro wh pins s σ H Q I h;refine isTrue_and (aK (ha pins s σ H _ I h) λc s1 ⟨H1,I1,q1⟩=>?_);cases c with
 | true=>exact hb wh pins s1 σ H1 Q I1 q1
 | false=>exact⟨H1,I1,q1⟩
theorem fY(ha:PT X a tA)(hb:PW X (.BoolOp .Or (b::rest) pos) vB):PW X (.BoolOp .Or (a::b::rest) pos) (WD tA vB):=by
 intro wh pins s σ H Q I h;refine isTrue_or (aK (ha pins s σ H _ I h) λc s1 ⟨H1,I1,q1⟩=>?_);cases c with
 | true=>exact⟨H1,I1,q1⟩
 | false=>exact hb wh pins s1 σ H1 Q I1 q1
theorem j7(ha:PT X a tA):PT X (.UnaryOp .Not a pos) (WE tA):=by
 intro pins s σ H Q I h;exact isTrue_not (ha pins s σ H (λc H1=>Q (!c) H1) I h)
noncomputable def WG(ta tb:TE):TE:=λσ H Q=>ta σ H λx H1=>∃c,x = .bl c/\if c=true then tb σ H1 Q else Q (.bl false) H1
noncomputable def ajo(ta tb:TE):TE:=λσ H Q=>ta σ H λx H1=>∃c,x = .bl c/\if c=true then Q (.bl true) H1 else tb σ H1 Q
noncomputable def WH(ta:TE):TE:=λσ H Q=>ta σ H λx H1=>∃c,x = .bl c/\Q (.bl (!c)) H1
theorem vC{op}{t:TE}(h:PE X a t):PE X (.BoolOp op [a] pos) t:=λpins s σ H Q I hw=>BoolOp_one (h pins s σ H Q I hw)
theorem pJ(ha:PE X a ta)(hb:PE X (.BoolOp .And (b::rest) pos) tb):PE X (.BoolOp .And (a::b::rest) pos) (WG ta tb):=by
 intro pins s σ H Q I h;refine BoolOp_and (aK (ha pins s σ H _ I h) λv s1 ⟨x,H1,I1,r1,q1⟩=>?_);obtain⟨c,rfl,q1⟩:=q1;cases r1;refine wpAny_truthy_bool ?_;cases c with
 | true=>exact hb pins s1 σ H1 Q I1 q1
 | false=>exact⟨.bl false,H1,I1,rfl,q1⟩
theorem K3(ha:PE X a ta):PE X (.UnaryOp .Not a pos) (WH ta):=by
 intro pins s σ H Q I h;refine UnaryOp_ (aK (ha pins s σ H _ I h) λv s1 ⟨x,H1,I1,r1,q1⟩=>?_);obtain⟨c,rfl,q1⟩:=q1;cases r1;exact not_of (wpAny_truthy_bool ⟨.bl (!c),H1,I1,rfl,q1⟩)
noncomputable def WI(t:TT)(ta tb:TE):TE:=λσ H Q=>t σ H λc H1=>if c=true then ta σ H1 Q else tb σ H1 Q
theorem vD{c:Expr}(hc:PT X c tA)(ha:PE X a ta)(hb:PE X b tb):PE X (.IfExp c a b pos) (WI tA ta tb):=by
 intro pins s σ H Q I h;refine wpAny_IfExp (aK (hc pins s σ H _ I h) λd s1 ⟨H1,I1,q1⟩=>?_);cases d with
 | true=>exact ha pins s1 σ H1 Q I1 q1
 | false=>exact hb pins s1 σ H1 Q I1 q1
end
noncomputable def aA(K:PySem.W.Frag)(H:Hp)(a:Addr)(xs:List V):Prop :=
 Rd H a (.lst xs)\/
  ∃(o:Obj) (aq:Array Value) (n:Nat),K.lookup a=some o/\o.cls = .type "list"/\o.dict=none/\o.data = .seq aq n/\aq.size<=sizeLine/\Vals xs aq.toList
noncomputable def bq(K:PySem.W.Frag)(H:Hp)(a:Addr)(xs:List V):Prop :=
 Rd H a (.tup xs)\/
  ∃(o:Obj) (aq:Array Value) (n:Nat),K.lookup a=some o/\o.cls = .type "tuple"/\o.data = .seq aq n/\aq.size<=sizeLine/\Vals xs aq.toList
noncomputable def WJ:Value->Option V
 | .none=>some .aI
 | .bool b=>some (.bl b)
 | .int i _=>some (.int i)
 | .str x _=>some (.str x)
 | .bytes b _=>some (.ie b)
 | .float b _=>some (.mY b)
 | .ref a=>some (.ref a)
 | .type n=>some (.ty n)
 | _=>none
theorem RelV.abs{x:V}{u:Value}(r:RelV x u):WJ u=some x:=by
 cases x with
 | aI=>cases r;rfl
 | bl _=>cases r;rfl
 | int _=>obtain⟨t,rfl⟩:=r;rfl
 | str _=>obtain⟨t,rfl⟩:=r;rfl
 | ie _=>obtain⟨t,rfl⟩:=r;rfl
 | mY _=>obtain⟨t,rfl⟩:=r;rfl
 | ref _=>cases r;rfl
 | ty _=>cases r;rfl
theorem RelV.inj{x y:V}{u:Value}(r:RelV x u)(q:RelV y u):x=y:=Option.some.inj (r.abs.symm.trans q.abs)
theorem Vals.inj:∀ {xs ys:List V} {us:List Value},Vals xs us->Vals ys us->xs=ys
 | _,_,_,.nil,.nil=>rfl
 | _,_,_,.cons r t,.cons r' t'=>by rw[r.inj r',Vals.inj t t']
section
variable{X:Cx}{pins:List (Addr×Obj)}{σ:St}{H:Hp}{s:Shared}{a:Addr}{xs ys:List V}
theorem aA.of{K:PySem.W.Frag}(h:H a=some (.lst xs)):aA K H a xs:=.inl (.inl h)
theorem bq.of{K:PySem.W.Frag}(h:H a=some (.tup xs)):bq K H a xs:=.inl (.inl h)
theorem Inv.list(I:Inv X pins σ H s)(h:aA X.K H a xs):∃aq:List Value,Vals xs aq/\PlainL s.heap a aq.toArray/\xs.length<=sizeLine:=by
 rcases h with h | ⟨o,aq,n,hk,hc,hd,hs,hz,r⟩
 ·obtain⟨z,aq,n,r,e⟩:=h.ok I.aD;exact⟨aq,r,⟨_,n,e,rfl,rfl,rfl⟩,z⟩
 ·refine⟨aq.toList,r,⟨o,n,I.bX a o hk,hc,hd,by simpa using hs⟩,?_⟩
  have e:=r.length;simp only[Array.length_toList] at e;lia
theorem Inv.tuple(I:Inv X pins σ H s)(h:bq X.K H a xs):∃aq:List Value,Vals xs aq/\IsTup s.heap a aq.toArray/\xs.length<=sizeLine:=by
 rcases h with h | ⟨o,aq,n,hk,hc,hs,hz,r⟩
 ·obtain⟨z,aq,r,p⟩:=h.ok I.aD;exact⟨aq,r,p,z⟩
 ·refine⟨aq.toList,r,⟨o,I.bX a o hk,hc,n,by simpa using hs⟩,?_⟩
  have e:=r.length;simp only[Array.length_toList] at e;lia
theorem Inv.K4(I:Inv X pins σ H s)(h:aA X.K H a xs)(h':aA X.K H a ys):xs=ys:=by
 obtain⟨aq,r,⟨o,n,e,_,_,d⟩,_⟩:=I.list h;obtain⟨its',r',⟨o',n',e',_,_,d'⟩,_⟩:=I.list h';rw[e] at e';cases e';rw[d] at d';injection d' with d1 _;have:aq=its':=by simpa using congrArg Array.toList d1
 subst this;exact r.inj r'
theorem Inv.WK(I:Inv X pins σ H s)(h:bq X.K H a xs)(h':bq X.K H a ys):xs=ys:=by
 obtain⟨aq,r,⟨o,e,_,n,d⟩,_⟩:=I.tuple h;obtain⟨its',r',⟨o',e',_,n',d'⟩,_⟩:=I.tuple h';rw[e] at e';cases e';rw[d] at d';injection d' with d1 _;have:aq=its':=by simpa using congrArg Array.toList d1
 subst this;exact r.inj r'
end
noncomputable abbrev Cx.i_(X:Cx)(E:Value->Shared->Prop):Cx:={ X with xe:=E }
noncomputable abbrev Cx.k6(X:Cx):Cx:=X.i_ λ_ _=>False
theorem Cx.Ok.i_{X:Cx}(ok:X.Ok)(E:Value->Shared->Prop):(X.i_ E).Ok :=
 ⟨ok.mod,ok.kind,ok.glob,ok.blt,ok.above,ok.inj,ok.has,ok.m_,ok.hd,ok.frames,ok.pH,ok.pI,ok.bs,ok.iu,ok.ng,ok.ni,ok.fX,ok.i8⟩
theorem Cx.Ok.k7{X:Cx}{E:Value->Shared->Prop}(ok:(X.i_ E).Ok):X.Ok :=
 ⟨ok.mod,ok.kind,ok.glob,ok.blt,ok.above,ok.inj,ok.has,ok.m_,ok.hd,ok.frames,ok.pH,ok.pI,ok.bs,ok.iu,ok.ng,ok.ni,ok.fX,ok.i8⟩
section
variable{X:Cx}{pins:List (Addr×Obj)}{σ:St}{H:Hp}{s:Shared}{E:Value->Shared->Prop}
theorem Inv.i_(I:Inv X pins σ H s)(E:Value->Shared->Prop):Inv (X.i_ E) pins σ H s:=⟨I.ok.i_ E,I.os,I.bare,I.base,I.loc,I.cell,I.free,I.gu,I.pin,I.aD,I.len⟩
theorem Inv.k7(I:Inv (X.i_ E) pins σ H s):Inv X pins σ H s:=⟨I.ok.k7,I.os,I.bare,I.base,I.loc,I.cell,I.free,I.gu,I.pin,I.aD,I.len⟩
theorem SP.k7{D:Ends}{f:Flow}{s':Shared}(h:SP (X.i_ E) pins D f s'):SP X pins D f s':=by
 cases f with
 | next=>obtain⟨aQ,H',I,q⟩:=h;exact⟨aQ,H',I.k7,q⟩
 | brk=>obtain⟨aQ,H',I,q⟩:=h;exact⟨aQ,H',I.k7,q⟩
 | cont=>obtain⟨aQ,H',I,q⟩:=h;exact⟨aQ,H',I.k7,q⟩
 | ret u=>obtain⟨v,aQ,H',I,r,q⟩:=h;exact⟨v,aQ,H',I.k7,r,q⟩
theorem eZ.k6{st:List Stmt}{t:TS}(h:eZ X.k6 st t):eZ X st t:=λpins s σ H D I hw =>
 wpAny_mono (h pins s σ H D (I.i_ _) hw) (λ_ _ q=>q.k7) λ_ _ z=>False.elim z
end
section
variable{X:Cx}{st:Stmt}{rest:List Stmt}{t u:TS}{e:Expr}{te:TE}{pos:Pos}
noncomputable def WL:TS:=λD σ H=>D.nx σ H
noncomputable def WM(t u:TS):TS:=λD σ H=>t { D with nx:=u D } σ H
theorem cj:eZ X [] WL:=λ_ _ σ H _ I h=>wpAny_execs_nil ⟨σ,H,I,h⟩
theorem aE(h1:PS X st t)(h2:eZ X rest u):eZ X (st::rest) (WM t u):=by
 intro pins s σ H D I h;refine wpAny_execs_cons (aK (h1 pins s σ H { D with nx:=u D } I h) λf s1 q=>?_);cases f with
 | next =>
  obtain⟨aQ,H',I',q⟩:=q;exact h2 pins s1 aQ H' D I' q
 | ret v=>exact q
 | brk=>exact q
 | cont=>exact q
theorem aG(h1:PS X st t):eZ X [st] t:=by
 intro pins s σ H D I h;refine wpAny_execs_cons (aK (h1 pins s σ H D I h) λf s1 q=>?_);cases f with
 | next=>exact wpAny_execs_nil q
 | ret v=>exact q
 | brk=>exact q
 | cont=>exact q
theorem Inv.quiet{pins:List (Addr×Obj)}{σ:St}{H:Hp}{s:Shared}(I:Inv X pins σ H s):interactive X.env=false:=by simp[interactive,I.ok.kind]
noncomputable def K5(te:TE):TS:=λD σ H=>te σ H λ_ H1=>D.nx σ H1
theorem dG(he:PE X e te)(hs:swapsWith e none pos.line X.env=pure false:=by rfl):PS X (.Expr e pos) (K5 te):=by
 intro pins s σ H D I h;exact wpAny_Expr_any (aK (he pins s σ H _ I h) λv s1 ⟨x,H1,I1,r1,q1⟩=>⟨σ,H1,I1,q1⟩) I.quiet hs
noncomputable def WN(te:TE):TS:=λD σ H=>te σ H D.rt
theorem br(he:PE X e te):PS X (.Return (some e) pos) (WN te):=by
 intro pins s σ H D I h;exact wpAny_Return_some (aK (he pins s σ H _ I h) λv s1 ⟨x,H1,I1,r1,q1⟩=>⟨x,σ,H1,I1,r1,q1⟩)
noncomputable def ajp:TS:=λD _ H=>D.rt .aI H
noncomputable def WO(c:TT)(t u:TS):TS:=λD σ H=>c σ H λb H1=>if b=true then t D σ H1 else u D σ H1
theorem bY{c:Expr}{a b:List Stmt}{tc:TT}(hc:PT X c tc)(ha:eZ X a t)(hb:eZ X b u):PS X (.If c a b pos) (WO tc t u):=by
 intro pins s σ H D I h;refine wpAny_If (aK (hc pins s σ H _ I h) λd s1 ⟨H1,I1,q1⟩=>?_);cases d with
 | true=>exact ha pins s1 σ H1 D I1 q1
 | false=>exact hb pins s1 σ H1 D I1 q1
noncomputable def WQ:TS:=λ_ _ _=>False
theorem eL{nq:List Stmt}:eZ X nq WQ:=λ_ _ _ _ _ _ h=>h.elim
end
noncomputable abbrev TG:=V->St->Hp->(St->Hp->Prop)->Prop
noncomputable abbrev lQ:=List V->St->Hp->(St->Hp->Prop)->Prop
noncomputable def PG(X:Cx)(target:Expr)(t:TG):Prop :=
 ∀(pins:List (Addr×Obj)) (s:Shared) (σ:St) (H:Hp) (v:V) (u:Value) (Q:St->Hp->Prop),Inv X pins σ H s->RelV v u->t v σ H Q->
  wpAny (model X.prog X.w) X.A (assign target X.env u) (λ_ s'=>∃aQ H',Inv X pins aQ H' s'/\Q aQ H') X.xe s
noncomputable def pK(X:Cx)(ts:List Expr)(t:lQ):Prop :=
 ∀(pins:List (Addr×Obj)) (s:Shared) (σ:St) (H:Hp) (vs:List V) (us:List Value) (Q:St->Hp->Prop),Inv X pins σ H s->Vals vs us->t vs σ H Q->
  wpAny (model X.prog X.w) X.A (assignInOrder ((assignEach ts X.env).map (·.2)) us) (λ_ s'=>∃aQ H',Inv X pins aQ H' s'/\Q aQ H') X.xe s
noncomputable abbrev CN:=V->V->V->Hp->(Hp->Prop)->Prop
noncomputable def K6(X:Cx)(t:CN):Prop :=
 ∀(pins:List (Addr×Obj)) (s:Shared) (σ:St) (H:Hp) (o i v:V) (ov iv u:Value) (Q:Hp->Prop),Inv X pins σ H s->RelV o ov->RelV i iv->RelV v u->t o i v H Q->
  wpAny (model X.prog X.w) X.A (setItem ov iv u) (λ_ s'=>∃H',Inv X pins σ H' s'/\Q H') X.xe s
section
variable{X:Cx}{pos:Pos}
noncomputable def nu(i:Nat):TG:=λv σ H Q=>Q (σ.set i (some v)) H
theorem bC{i:Nat}{x:Str}(hN:X.N.Nodup)(hi:X.N[i]? = some x)(hx:Loc X.env.scope x)(hf:X.fn x=true\/X.env.scope.names.lookup x=some .local:=by first | exact .inl rfl | exact .inr rfl | assumption):PG X (.Name x pos) (nu i):=by
 intro pins s σ H v u Q I r h;exact wpAny_assign_Name (CM I hN hi hx r (λs' I'=>⟨_,H,I',h⟩) hf)
noncomputable def K7:lQ:=λvs σ H Q=>vs = []/\Q σ H
noncomputable def CO(t:TG)(u:lQ):lQ:=λvs σ H Q=>∃v r,vs=v::r/\t v σ H λaQ H'=>u r aQ H' Q
theorem iK:pK X [] K7:=by
 intro pins s σ H vs us Q I r h;obtain⟨e,h⟩:=h;subst e;cases r;exact assignInOrder_nil ⟨σ,H,I,h⟩
theorem cO{e:Expr}{es:List Expr}{t:TG}{u:lQ}(h1:PG X e t)(h2:pK X es u)
  (hs:(assignEach (e::es) X.env).map (·.2)=assign e X.env::(assignEach es X.env).map (·.2):=by rfl):pK X (e::es) (CO t u):=by
 intro pins s σ H vs us Q I r h;obtain⟨v,vr,e1,h⟩:=h;subst e1;cases r with
 | cons r rr =>
  rw[hs];refine assignInOrder_cons (aK (h1 pins s σ H _ _ _ I r h) λ_ s1 ⟨eN,H1,I1,q1⟩=>?_);exact h2 pins s1 eN H1 _ _ Q I1 rr q1
noncomputable def CQ(K:PySem.W.Frag)(n:Nat)(t:lQ):TG:=λv σ H Q=>∃a xs,v = .ref a/\bq K H a xs/\xs.length=n/\t xs σ H Q
theorem iL{es:List Expr}{k:Nat}{t:lQ}{n:Nat}(hc:X.calm=true)(h:pK X es t)
  (hn:(assignEach es X.env).length=n:=by rfl) (fF:(assignEach es X.env).findIdx? (·.1)=none:=by rfl):PG X (.Tuple es k pos) (CQ X.K n t):=by
 intro pins s σ H v u Q I r hw;obtain⟨a,xs,e1,hq,hl,hw⟩:=hw;subst e1;cases r;obtain⟨aq,rv,ht,hz⟩:=I.tuple hq;refine assign_Tuple_tuple (I.ok.hd hc) ht (by simp[hn,← hl,rv.length]) fF λh' hx=>?_
 have I1:Inv X pins σ H { s with heap:=h' }:=I.kept (t':=s.toks) λb o e=>hx b o (Nat.ne_of_lt (Heap.lt_size e)) e;exact h pins _ σ H xs _ Q I1 (by simpa using rv) hw
noncomputable def WR(to ti:TE)(t:CN):TG:=λv σ H Q=>to σ H λo H1=>ti σ H1 λi H2=>t o i v H2 λH3=>Q σ H3
theorem K8{o i:Expr}{to ti:TE}{t:CN}(ho:PE X o to)(hi:PE X i ti)(hs:K6 X t)
  (ha:∀v,assign (.Subscript o i pos) X.env v=(do
   let ov ← holding [v] (eval o X.env)
   let iv ← holding [v,ov] (eval i X.env)
   standAt pos
   holding [v,ov,iv] (setItem ov iv v)
   release [v,ov,iv] []):=by intro _;rfl):PG X (.Subscript o i pos) (WR to ti t):=by
 intro pins s σ H v u Q I r h;rw[ha];refine wpAny_bind (wpAny_holding (aK (ho pins s σ H _ I h) λov s1 ⟨x,H1,I1,r1,q1⟩=>?_));refine wpAny_bind (wpAny_holding (aK (hi pins s1 σ H1 _ I1 q1) λiv s2 ⟨y,H2,I2,r2,q2⟩=>?_));refine wpAny_bind (wpAny_standAt (wpAny_bind (wpAny_holding (aK (hs pins s2 σ H2 x y v ov iv u _ I2 r1 r2 r q2) λ_ s3 ⟨H3,I3,q3⟩=>?_))));exact wpAny_release ⟨σ,H3,I3,q3⟩
noncomputable def vE(te:TE)(g:TG):TS:=λD σ H=>te σ H λx H1=>g x σ H1 D.nx
theorem K9{tg e:Expr}{te:TE}{g:TG}(he:PE X e te)(hg:PG X tg g)(hs:swapsWithSole [tg] e pos.line X.env=pure false:=by rfl)(hw:swappedStores [tg] e X.env=pure none:=by rfl)
  (h1:(assignEach [tg] X.env).map (·.2) = [assign tg X.env]:=by rfl):PS X (.Assign [tg] e pos) (vE te g):=by
 intro pins s σ H D I h;refine wpAny_Assign_stores (aK (he pins s σ H _ I h) λv s1 ⟨x,H1,I1,r1,q1⟩=>?_) hs hw;rw[h1];exact aK (hg pins s1 σ H1 x v _ I1 r1 q1) λ_ s2 q=>q
theorem bz{i:Nat}{x:Str}{e:Expr}{te:TE}{pos':Pos}(hN:X.N.Nodup)(hi:X.N[i]? = some x)(hx:Loc X.env.scope x)(he:PE X e te)(hs:swapsWith e (some (.Name x pos')) pos.line X.env=pure false:=by rfl)(hf:X.fn x=true\/X.env.scope.names.lookup x=some .local:=by first | exact .inl rfl | exact .inr rfl | assumption) :
  PS X (.Assign [.Name x pos'] e pos) (vE te (nu i)):=by
 intro pins s σ H D I h;refine wpAny_Assign_Name (aK (he pins s σ H _ I h) λv s1 ⟨y,H1,I1,r1,q1⟩=>?_) hs;exact CM I1 hN hi hx r1 (λs2 I2=>⟨_,H1,I2,q1⟩) hf
end
section
variable{X:Cx}{pos:Pos}
noncomputable def CT(c:TT)(tb:TS):TS:=λD σ H=>∃W:Nat->St->Hp->Prop,(∃m,W m σ H)/\∀m σ H,W m σ H->
 c σ H λb H1=>if b=true then ∃N:St->Hp->Prop,(∀aQ H',N aQ H'->∃m',m' < m/\W m' aQ H')/\tb { D with nx:=N,ct:=N,bk:=D.nx } σ H1 else D.nx σ H1
theorem WS{c:Expr}{body:List Stmt}{tc:TT}{tb:TS}(hp:PassesOwn (model X.prog X.w) X.A X.env X.xe)(hc:PT X c tc)(hb:eZ X body tb):PS X (.While c body [] pos) (CT tc tb):=by
 intro pins s σ H D I h;obtain⟨W,⟨m0,w0⟩,turn⟩:=h;refine wpAny_While (codeAny_whileLoop (λn s'=>∃aQ H',Inv X pins aQ H' s'/\W n aQ H') ?_ m0 ⟨σ,H,I,w0⟩);rintro n s1 ⟨eN,H1,I1,w1⟩;refine wpAny_passesOwn hp (aK (hc pins s1 eN H1 _ I1 (turn n eN H1 w1)) λb s2 ⟨H2,I2,q2⟩=>?_);cases b with
 | true =>
  obtain⟨N,hN,q2⟩:=q2;rw[if_pos rfl];refine wpAny_passesOwn hp (aK (hb pins s2 eN H2 _ I2 q2) λf s3 q3=>?_);cases f with
  | next =>
   obtain⟨gv,H3,I3,n3⟩:=q3;obtain⟨m',hm,w3⟩:=hN gv H3 n3;exact⟨m',hm,gv,H3,I3,w3⟩
  | cont =>
   obtain⟨gv,H3,I3,n3⟩:=q3;obtain⟨m',hm,w3⟩:=hN gv H3 n3;exact⟨m',hm,gv,H3,I3,w3⟩
  | brk=>exact q3
  | ret v=>exact q3
 | false =>
  rw[if_neg Bool.false_ne_true];exact wpAny_execs_nil ⟨eN,H2,I2,q2⟩
end
structure It where
 go:Nat->Hp->Prop
 j8:Nat->Hp->V->Hp->Prop
 stop:Nat->Hp->Prop
noncomputable def j9(X:Cx)(pins:List (Addr×Obj))(H:Hp)(b:Addr):Prop :=
 H b=none/\b≠X.env.locals/\b∉X.fs/\(b∈X.ex\/X.bx.heap.objs.size<=b)/\(∀x c,X.env.cells.lookup x=some c->c≠b)/\∀p∈X.pn++pins,p.1≠b
theorem Inv.lR{X:Cx}{pins:List (Addr×Obj)}{σ:St}{H H':Hp}{s:Shared}{b:Addr}(I:Inv X pins σ H s)(hb:s.heap.objs.size<=b)(hn:H' b=none):j9 X pins H' b:=by
 refine⟨hn,Nat.ne_of_gt (Nat.lt_of_lt_of_le I.lt hb),I.rB hb,.inr (Nat.le_trans I.sz hb),λx c e z=>?_,λp hp z=>?_⟩
 ·obtain⟨v,q⟩:=I.cell x c e;exact absurd (Nat.lt_of_lt_of_le q.lt (by rw[z];exact hb)) (Nat.lt_irrefl _)
 ·exact absurd (Nat.lt_of_lt_of_le (Heap.lt_size (I.pin p hp).1) (by rw[z];exact hb)) (Nat.lt_irrefl _)
structure Turn(P:Program)(w:World)(K:PySem.W.Frag)(tg:Expr)(J:It)(fp:List Addr)(it:Addr)(tn:Nat->Heap->Prop):Prop where
 mem:it∈fp
 obj:∀i h,tn i h->∀b∈fp,∃o,h.get? b=some o/\∀v,o.data≠.cell v
 keep:∀i h h',tn i h->(∀b∈fp,∀o,h.get? b=some o->h'.get? b=some o)->tn i h'
 item:∀(X:Cx),X.prog=P->X.w=w->X.K=K->X.calm=true->∀(i:Nat) (pins:List (Addr×Obj)) (s:Shared) (σ:St) (H:Hp) (E:Value->Shared->Prop),Inv X pins σ H s->(∀b∈fp,j9 X pins H b)->tn i s.heap->J.go i H->
  wpAny (model P w) X.A (pyNext (.ref it)) (λr s1=>∃u,r=some u/\
   wpAny (model P w) X.A (letOwnedTupleGo tg (.ref it) u) (λ_ s2=>∃x H',Inv X pins σ H' s2/\RelV x u/\J.j8 i H x H'/\tn (i+1) s2.heap/\∀b∈fp,H' b=none) E s1) E s
 done:∀(X:Cx),X.prog=P->X.w=w->X.K=K->X.calm=true->∀(i:Nat) (pins:List (Addr×Obj)) (s:Shared) (σ:St) (H:Hp) (E:Value->Shared->Prop),Inv X pins σ H s->(∀b∈fp,j9 X pins H b)->tn i s.heap->J.stop i H->
  wpAny (model P w) X.A (pyNext (.ref it)) (λr s1=>r=none/\Inv X pins σ H s1) E s
 self:∀(A:Around) (i:Nat) (s:Shared) (Q:Value->Shared->Prop) (E:Value->Shared->Prop),tn i s.heap->Q (.ref it) s->wpAny (model P w) A (pyIter (.ref it)) Q E s
noncomputable abbrev TI:=St->Hp->(It->Hp->Prop)->Prop
noncomputable def K_(X:Cx)(pins:List (Addr×Obj))(σ:St)(tg:Expr)(R:It->Hp->Prop)(vF:Value)(s2:Shared):Prop :=
 ∃(it:Addr) (fp:List Addr) (tn:Nat->Heap->Prop) (J:It) (H':Hp),vF = .ref it/\Inv X pins σ H' s2/\Turn X.prog X.w X.K tg J fp it tn/\tn 0 s2.heap/\(∀b∈fp,j9 X pins H' b)/\R J H'
noncomputable def PI(X:Cx)(tg iter:Expr)(wi:TI):Prop :=
 ∀(pins:List (Addr×Obj)) (s:Shared) (σ:St) (H:Hp) (R:It->Hp->Prop),Inv X pins σ H s->wi σ H R->
  wpAny (model X.prog X.w) X.A (eval iter X.env) (λv s1=>wpAny (model X.prog X.w) X.A (pyIter v) (K_ X pins σ tg R) X.xe s1) X.xe s
theorem vG{M:Model}{A:Around}{E:Value->Shared->Prop}{s:Shared}{tg:Expr}{it:Addr}{u:Value}{o:Obj}{n:String}{vs:Array Value}{Q:Unit->Shared->Prop}(ho:s.heap.get? it=some o)(hc:o.cls = .type n)(hd:o.data = .fields vs)
  (hn:["enumerate", "zip", "dict_itemiterator", "dict_reverseitemiterator", "odict_iterator", "itertools.zip_longest", "itertools.pairwise"].contains n=false) (hQ:Q () s):wpAny M A (letOwnedTupleGo tg (.ref it) u) Q E s:=by
 unfold letOwnedTupleGo;cases tg <;> first
  | exact wpAny_pure hQ
  | (cases u <;> first
    | exact wpAny_pure hQ
    | (refine wpAny_bind (wpAny_load ho ?_)
       rw[hc,hd]
       show wpAny M A (if (["enumerate", "zip", "dict_itemiterator", "dict_reverseitemiterator", "odict_iterator", "itertools.zip_longest", "itertools.pairwise"].contains n && vs[0]? == some (rawInt _))=true then _ else _) Q E s
       rw[if_neg (by intro h;rw[hn,Bool.false_and] at h;cases h)]
       exact wpAny_pure hQ))
noncomputable def lT(K:PySem.W.Frag)(a:Addr):It :=
 ⟨λi H=>∃xs x,aA K H a xs/\xs[i]? = some x,λi H x H'=>H' = H/\∀xs,aA K H a xs->xs[i]? = some x,λi H=>∃xs,aA K H a xs/\xs.length<=i⟩
noncomputable def rH(K:PySem.W.Frag)(a:Addr):It :=
 ⟨λi H=>∃xs x,bq K H a xs/\xs[i]? = some x,λi H x H'=>H' = H/\∀xs,bq K H a xs->xs[i]? = some x,λi H=>∃xs,bq K H a xs/\xs.length<=i⟩
noncomputable def j_(lo:Int)(n:Nat):It:=⟨λi _=>i<n,λi H x H'=>H' = H/\x = .int (lo+i),λi _=>n<=i⟩
theorem WT{P:Program}{w:World}{K:PySem.W.Frag}{tg:Expr}(a it:Addr):Turn P w K tg (lT K a) [it] it (λi h=>h.IsListIter it a i) where
 mem:=by simp
 obj:=λi h st b hb=>by
  have e:b=it:=by simpa using hb
  subst e;obtain⟨o,e,c,d⟩:=st;exact⟨o,e,λv z=>by rw[d] at z;cases z⟩
 keep:=λi h h' st k=>st.at λo e=>k it (by simp) o e
 item:=by
  intro X hP hw hK hc i pins s σ H E I hf st hg;subst hP hw hK;obtain⟨xs,x,hq,hx⟩:=hg;obtain⟨aq,rv,p,hz⟩:=I.list hq;obtain⟨u,hu,ru⟩:=rv.get hx;obtain⟨f0,f1,f2,f3,f4,f5⟩:=hf it (by simp)
  refine wpAny_pyNext_list_item st p.isList (x:=u) (by simpa using hu) λh' cu sb=>?_
  have I1:Inv X pins σ H { s with heap:=h' }:=I.turned (t':=s.toks) (λb o hb e=>(sb.2 b hb).trans e) f0 f1 f3 f4 f5;obtain⟨o,e,c,d⟩:=id cu;exact⟨u,rfl,vG (s:={ s with heap:=h' }) e c d (by decide) ⟨x,H,I1,ru,⟨rfl,λys hy=>by rw[I.K4 hy hq];exact hx⟩,cu,λb hb=>(hf b hb).1⟩⟩
 done:=by
  intro X hP hw hK hc i pins s σ H E I hf st hg;subst hP hw hK;obtain⟨xs,hq,hx⟩:=hg;obtain⟨aq,rv,p,hz⟩:=I.list hq;obtain⟨f0,f1,f2,f3,f4,f5⟩:=hf it (by simp)
  have hl:=rv.length;exact wpAny_pyNext_list_end (I.ok.hd hc) st p.isList (by simp;lia) λh' eb=>⟨rfl,I.turned (t':=s.toks) (λb o hb e=>eb b o hb e) f0 f1 f3 f4 f5⟩
 self:=λ_ _ _ _ _ st h=>wpAny_pyIter_listiter st h
theorem WU{P:Program}{w:World}{K:PySem.W.Frag}{tg:Expr}(a it:Addr):Turn P w K tg (rH K a) [it] it (λi h=>h.IsTupleIter it a i) where
 mem:=by simp
 obj:=λi h st b hb=>by
  have e:b=it:=by simpa using hb
  subst e;obtain⟨o,e,c,d⟩:=st;exact⟨o,e,λv z=>by rw[d] at z;cases z⟩
 keep:=λi h h' st k=>st.at λo e=>k it (by simp) o e
 item:=by
  intro X hP hw hK hc i pins s σ H E I hf st hg;subst hP hw hK;obtain⟨xs,x,hq,hx⟩:=hg;obtain⟨aq,rv,p,hz⟩:=I.tuple hq;obtain⟨u,hu,ru⟩:=rv.get hx;obtain⟨f0,f1,f2,f3,f4,f5⟩:=hf it (by simp)
  refine wpAny_pyNext_tuple_item st (show s.heap.IsTuple a aq.toArray from p) (x:=u) (by simpa using hu) λh' cu sb=>?_
  have I1:Inv X pins σ H { s with heap:=h' }:=I.turned (t':=s.toks) (λb o hb e=>(sb.2 b hb).trans e) f0 f1 f3 f4 f5;obtain⟨o,e,c,d⟩:=id cu;exact⟨u,rfl,vG (s:={ s with heap:=h' }) e c d (by decide) ⟨x,H,I1,ru,⟨rfl,λys hy=>by rw[I.WK hy hq];exact hx⟩,cu,λb hb=>(hf b hb).1⟩⟩
 done:=by
  intro X hP hw hK hc i pins s σ H E I hf st hg;subst hP hw hK;obtain⟨xs,hq,hx⟩:=hg;obtain⟨aq,rv,p,hz⟩:=I.tuple hq;obtain⟨f0,f1,f2,f3,f4,f5⟩:=hf it (by simp)
  have hl:=rv.length;exact wpAny_pyNext_tuple_end (I.ok.hd hc) st (show s.heap.IsTuple a aq.toArray from p) (by simp;lia) λh' eb=>⟨rfl,I.turned (t':=s.toks) (λb o hb e=>eb b o hb e) f0 f1 f3 f4 f5⟩
 self:=λ_ _ _ _ _ st h=>wpAny_pyIter_tupleiter st h
theorem WV{P:Program}{w:World}{K:PySem.W.Frag}{tg:Expr}(it:Addr)(lo:Int)(n:Nat):Turn P w K tg (j_ lo n) [it] it (λi h=>IsRangeIter h it (lo+(i:Nat)*1) ((n:Int) - (i:Nat)) 1) where
 mem:=by simp
 obj:=λi h st b hb=>by
  have e:b=it:=by simpa using hb
  subst e;exact⟨_,st,λv z=>by
   have z':Data.fields _=Data.cell v:=z;cases z'⟩
 keep:=λi h h' st k=>k it (by simp) _ st
 item:=by
  intro X hP hw hK hc i pins s σ H E I hf st hg;subst hP hw hK;obtain⟨f0,f1,f2,f3,f4,f5⟩:=hf it (by simp)
  have W:=Walks.range (prog:=X.prog) (w:=X.w) (I.ok.hd hc) it lo 1 n;refine W.item i s _ _ hg st λv h' tk hv cu kk=>?_;obtain⟨t,rfl⟩:=hv;have I1:Inv X pins σ H { s with heap:=h',toks:=tk }:=I.turned (λb o hb e=>kk b o (by simpa using hb) e) f0 f1 f3 f4 f5
  refine⟨_,rfl,vG (s:={ s with heap:=h',toks:=tk }) (n := "range_iterator") cu rfl rfl (by decide) ⟨.int (lo+i),H,I1,⟨t,?_⟩,⟨rfl,rfl⟩,cu,λb hb=>(hf b hb).1⟩⟩
  rw[Int.mul_one]
 done:=by
  intro X hP hw hK hc i pins s σ H E I hf st hg;subst hP hw hK;obtain⟨f0,f1,f2,f3,f4,f5⟩:=hf it (by simp)
  exact wpAny_pyNext_range_end (I.ok.hd hc) st (by have:n<=i:=hg;lia) λh' eb=>⟨rfl,I.turned (t':=s.toks) (λb o hb e=>eb b o hb e) f0 f1 f3 f4 f5⟩
 self:=λ_ _ _ _ _ st h=>wpAny_pyIter_rangeiter st h
section
variable{X:Cx}{tg:Expr}
noncomputable def kg(K:PySem.W.Frag)(tl:TE):TI:=λσ H R=>tl σ H λx H1=>∃a,x = .ref a/\(∃xs,aA K H1 a xs)/\R (lT K a) H1
noncomputable def CU(K:PySem.W.Frag)(tl:TE):TI:=λσ H R=>tl σ H λx H1=>∃a,x = .ref a/\(∃xs,bq K H1 a xs)/\R (rH K a) H1
theorem e7{l:Expr}{tl:TE}(hl:PE X l tl):PI X tg l (kg X.K tl):=by
 intro pins s σ H R I h;refine aK (hl pins s σ H _ I h) λv s1 ⟨x,H1,I1,r1,q1⟩=>?_;obtain⟨a,e,⟨xs,hq⟩,q⟩:=q1;subst e;cases r1;obtain⟨aq,rv,p,hz⟩:=I1.list hq;refine wpAny_pyIter_list p.isList ?_;refine⟨s1.heap.objs.size,[s1.heap.objs.size],_,_,H1,rfl,I1.kept (t':=s1.toks) λb o e=>Heap.get?_push_of_some _ e,WT a _,⟨_,Heap.get?_push_size _ rfl,rfl,rfl⟩,λb hb=>?_,q⟩;have e:b=s1.heap.objs.size:=by simpa using hb
 subst e;exact I1.lR (Nat.le_refl _) (I1.aD.fresh (Nat.le_refl _))
theorem CV{l:Expr}{tl:TE}(hl:PE X l tl):PI X tg l (CU X.K tl):=by
 intro pins s σ H R I h;refine aK (hl pins s σ H _ I h) λv s1 ⟨x,H1,I1,r1,q1⟩=>?_;obtain⟨a,e,⟨xs,hq⟩,q⟩:=q1;subst e;cases r1;obtain⟨aq,rv,p,hz⟩:=I1.tuple hq;refine wpAny_pyIter_tuple (show s1.heap.IsTuple a aq.toArray from p) ?_;refine⟨s1.heap.objs.size,[s1.heap.objs.size],_,_,H1,rfl,I1.kept (t':=s1.toks) λb o e=>Heap.get?_push_of_some _ e,WU a _,⟨_,Heap.get?_push_size _ rfl,rfl,rfl⟩,λb hb=>?_,q⟩;have e:b=s1.heap.objs.size:=by simpa using hb
 subst e;exact I1.lR (Nat.le_refl _) (I1.aD.fresh (Nat.le_refl _))
theorem La{pins:List (Addr×Obj)}{σ:St}{H:Hp}{s:Shared}{R:It->Hp->Prop}{E:Value->Shared->Prop}{lo hi:Int}{t u v:Tok}{tk:Nat}(I:Inv X pins σ H s)(h1 : -(2 ^ 62)<=lo)(h2:lo<2 ^ 62)(h3 : -(2 ^ 62)<=hi)(h4:hi<2 ^ 62)
  (q:R (j_ lo (hi - lo).toNat) H):wpAny (model X.prog X.w) X.A (pyIter (.ref s.heap.objs.size)) (K_ X pins σ tg R) E { s with heap:=s.heap.push { cls:=.type "range",data:=.fields #[.int lo t,.int hi u,.int 1 v] },toks:=tk }:=by
 refine wpAny_pyIter_range (IsRange.new ..) (small_one h1 h2 h3 h4) ?_;have I1:Inv X pins σ H { s with heap:=s.heap.push { cls:=.type "range",data:=.fields #[.int lo t,.int hi u,.int 1 v] },toks:=tk }:=I.kept λb o e=>Heap.get?_push_of_some _ e;refine⟨(s.heap.push { cls:=.type "range",data:=.fields #[.int lo t,.int hi u,.int 1 v] }).objs.size,[(s.heap.push { cls:=.type "range",data:=.fields #[.int lo t,.int hi u,.int 1 v] }).objs.size],_,_,H,rfl,
  I1.kept (t':=tk) λb o e=>Heap.get?_push_of_some _ e,WV _ lo (hi - lo).toNat,?_,λb hb=>?_,q⟩
 ·have e1:lo+((0:Nat):Int)*1=lo:=by simp
  have e2:(((hi - lo).toNat:Nat):Int) - ((0:Nat):Int)=Builtin.Range.rangeSize lo hi 1:=by rw[rangeSize_one];split <;> lia
  show IsRangeIter _ _ (lo+((0:Nat):Int)*1) ((((hi - lo).toNat:Nat):Int) - ((0:Nat):Int)) 1;rw[e1,e2];exact Heap.get?_push_size _ rfl
 ·have e:b=(s.heap.push { cls:=.type "range",data:=.fields #[.int lo t,.int hi u,.int 1 v] }).objs.size:=by simpa using hb
  subst e;exact I1.lR (Nat.le_refl _) (I1.aD.fresh (Nat.le_refl _))
noncomputable def vH(ta:TA):TI:=λσ H R=>ta σ H λvs H1=>∃j:Int,vs = [.int j]/\-(2 ^ 62)<=j/\j<2 ^ 62/\R (j_ 0 j.toNat) H1
noncomputable def rJ(ta:TA):TI:=λσ H R=>ta σ H λvs H1=>∃i j:Int,vs = [.int i,.int j]/\(-(2 ^ 62)<=i/\i<2 ^ 62/\-(2 ^ 62)<=j/\j<2 ^ 62)/\R (j_ i (j - i).toNat) H1
theorem rK{a:Expr}{ta:TA}{p pos:Pos}(hg:Gl X "range")(hm:X.mg "range" = none)(ha:PA X [a] ta)(hs:starEach [a] X.env = [(false,eval a X.env)]:=by rfl):PI X tg (.Call (.Name "range" p) [a] [] pos) (vH ta):=by
 intro pins s σ H R I h;refine Call_ (j6 I hg hm boot_range (PyProof.Rows.callWith_type1 (aK (ha pos pins s σ H _ I h) λus s1 ⟨vs,H1,I1,r1,q1⟩=>?_) hs rfl));obtain⟨j,e,q1,q2,q⟩:=q1;subst e;cases r1 with
 | cons r rr =>
  cases rr;obtain⟨t,rfl⟩:=r;exact call_range_1 (La I1 (by lia) (by lia) q1 q2 (by simpa using q))
theorem rL{a b:Expr}{ta:TA}{p pos:Pos}(hg:Gl X "range")(hm:X.mg "range" = none)(ha:PA X [a,b] ta)(hs:starEach [a,b] X.env = [(false,eval a X.env),(false,eval b X.env)]:=by rfl)(iM:starEach [b] X.env = [(false,eval b X.env)]:=by rfl) :
  PI X tg (.Call (.Name "range" p) [a,b] [] pos) (rJ ta):=by
 intro pins s σ H R I h;refine Call_ (j6 I hg hm boot_range (PyProof.Rows.callWith_type1 (aK (ha pos pins s σ H _ I h) λus s1 ⟨vs,H1,I1,r1,q1⟩=>?_) (by rw[hs,iM]) (by rw[iM];rfl)))
 obtain⟨i,j,e,⟨q1,q2,q3,q4⟩,q⟩:=q1;subst e;cases r1 with
 | cons r rr =>
  cases rr with
  | cons r' rr =>
   cases rr;obtain⟨t,rfl⟩:=r;obtain⟨t',rfl⟩:=r';exact call_range_2 (La I1 q1 q2 q3 q4 q)
noncomputable def jc(wi:TI)(g:TG)(tb:TS):TS:=λD σ H=>wi σ H λJ H1=>∃W:Nat->Nat->St->Hp->Prop,(∃m,W 0 m σ H1)/\∀i m σ H,W i m σ H->
 (J.stop i H/\D.nx σ H)\/(J.go i H/\∃N:St->Hp->Prop,(∀aQ H',N aQ H'->∃m',m' < m/\W (i+1) m' aQ H')/\∀x H',J.j8 i H x H'->g x σ H' λaj H2=>tb { D with nx:=N,ct:=N,bk:=D.nx } aj H2)
noncomputable def rM(fp:List Addr)(h:Heap):List (Addr×Obj):=fp.filterMap λb=>(h.get? b).map λo=>(b,o)
theorem vI{fp:List Addr}{h:Heap}{b:Addr}{o:Obj}(hb:b∈fp)(e:h.get? b=some o):(b,o)∈rM fp h:=List.mem_filterMap.mpr ⟨b,hb,by rw[e];rfl⟩
theorem WW{fp:List Addr}{h:Heap}{p:Addr×Obj}(hp:p∈rM fp h):p.1∈fp/\h.get? p.1=some p.2:=by
 obtain⟨b,hb,e⟩:=List.mem_filterMap.mp hp;cases q:h.get? b with
 | none=>rw[q] at e;cases e
 | some o =>
  rw[q] at e;have e':(b,o)=p:=Option.some.inj e;subst e';exact⟨hb,q⟩
theorem Inv.pinned{pins:List (Addr×Obj)}{σ:St}{H:Hp}{s:Shared}{fp:List Addr}(I:Inv X pins σ H s)(hf:∀b∈fp,j9 X pins H b)(ho:∀b∈fp,∃o,s.heap.get? b=some o/\∀v,o.data≠.cell v):Inv X (pins++rM fp s.heap) σ H s :=
 I.j5 λp hp=>(List.mem_append.mp hp).elim (λz=>I.pin p (List.mem_append_right _ z)) λz=>by
  obtain⟨hb,e⟩:=WW z;obtain⟨f0,f1,f2,_⟩:=hf p.1 hb;obtain⟨o,e',d⟩:=ho p.1 hb;rw[e] at e';cases e';exact⟨e,f0,f1,f2,d⟩
theorem Inv.rN{pins pl:List (Addr×Obj)}{σ:St}{H:Hp}{s:Shared}(I:Inv X (pins++pl) σ H s):Inv X pins σ H s:=I.j5 λp hp=>I.pin p (List.mem_append_right _ (List.mem_append_left _ hp))
theorem d_{iter:Expr}{body:List Stmt}{wi:TI}{g:TG}{tb:TS}{pos:Pos}(hp:PassesOwn (model X.prog X.w) X.A X.env X.xe)(hc:X.calm=true)(hi:PI X tg iter wi)(hg:PG X tg g)(hb:eZ X body tb)
  (hs:∀x,foldedSetIterable iter X.env x=pure x:=by intro _;rfl):PS X (.For tg iter body [] pos) (jc wi g tb):=by
 intro pins s σ H D I h;refine wpAny_For (aK (hi pins s σ H _ I h) λv s1 h1=>aK h1 λvF s2 h2=>?_) hs;obtain⟨it,fp,tn,J,H2,e,I2,T,dY,f2,W,⟨m0,w0⟩,turn⟩:=h2;subst e
 -- what stays true of the iterator's objects through the loop
 have nA:∀ {H':Hp},(∀b∈fp,H' b=none)->∀b∈fp,j9 X pins H' b:=λhn b hb=>⟨hn b hb,(f2 b hb).2⟩;refine codeAny_forLoop_any (λn s'=>∃i aQ H',Inv X pins aQ H' s'/\tn i s'.heap/\(∀b∈fp,H' b=none)/\W i n aQ H') ?_ m0 ⟨0,σ,H2,I2,dY,λb hb=>(f2 b hb).1,w0⟩;rintro n s3 ⟨i,gv,H3,I3,rO,nC,w3⟩;rcases turn i n gv H3 w3 with⟨stop,qn⟩ | ⟨go,N,hN,step⟩
 ·refine wpAny_passesOwn hp (aK (T.done X rfl rfl rfl hc i pins s3 gv H3 X.xe I3 (nA nC) rO stop) λr s4 ⟨hr,I4⟩=>?_);subst hr;exact wpAny_execs_nil ⟨gv,H3,I4,qn⟩
 ·refine wpAny_passesOwn hp (aK (T.item X rfl rfl rfl hc i pins s3 gv H3 X.xe I3 (nA nC) rO go) λr s4 ⟨u,hr,h4⟩=>?_);subst hr;refine wpAny_passesOwn hp (aK h4 λ_ s5 ⟨x,H5,I5,r5,y5,nF,CW⟩=>?_);have CY:=I5.pinned (nA CW) (T.obj _ _ nF);refine wpAny_passesOwn hp (aK (hg _ s5 gv H5 x u _ CY r5 (step x H5 y5)) λ_ s6 ⟨lU,H6,I6,q6⟩=>?_);refine wpAny_passesOwn hp (aK (hb _ s6 lU H6 _ I6 q6) λf s7 q7=>?_);have again:∀ {iw:St} {H7:Hp},Inv X (pins++rM fp s5.heap) iw H7 s7->N iw H7->∃m,m<n/\∃i aQ H',Inv X pins aQ H' s7/\tn i s7.heap/\(∀b∈fp,H' b=none)/\W i m aQ H':=λ{iw H7} I7 n7=>by
   obtain⟨m',hm,w7⟩:=hN iw H7 n7;refine⟨m',hm,i+1,iw,H7,I7.rN,T.keep _ _ _ nF λb hb o e=>(I7.pin (b,o) (List.mem_append_right _ (List.mem_append_right _ (vI hb e)))).1,λb hb=>?_,w7⟩;obtain⟨o,e,d⟩:=T.obj _ _ nF b hb;exact(I7.pin (b,o) (List.mem_append_right _ (List.mem_append_right _ (vI hb e)))).2.1
  cases f with
  | next=>obtain⟨iw,H7,I7,n7⟩:=q7;exact again I7 n7
  | cont=>obtain⟨iw,H7,I7,n7⟩:=q7;exact again I7 n7
  | brk=>obtain⟨iw,H7,I7,q7⟩:=q7;exact⟨iw,H7,I7.rN,q7⟩
  | ret v=>obtain⟨x7,iw,H7,I7,r7,q7⟩:=q7;exact⟨x7,iw,H7,I7.rN,r7,q7⟩
end
theorem Lb{K:PySem.W.Frag}{a:Addr}{xs:List V}{g:TG}{tb:TS}{D:Ends}{σ:St}{H:Hp}(Pv:Nat->St->Hp->Prop)(h0:Pv 0 σ H)(hl:∀i σ H,i<=xs.length->Pv i σ H->aA K H a xs)
  (hs:∀i x σ H,xs[i]? = some x->Pv i σ H->g x σ H λaj H2=>tb { D with nx:=Pv (i+1),ct:=Pv (i+1),bk:=D.nx } aj H2) (hd:∀σ H,Pv xs.length σ H->D.nx σ H) :
  ∃W:Nat->Nat->St->Hp->Prop,(∃m,W 0 m σ H)/\∀i m σ H,W i m σ H->
   ((lT K a).stop i H/\D.nx σ H)\/((lT K a).go i H/\∃N:St->Hp->Prop,(∀aQ H',N aQ H'->∃m',m' < m/\W (i+1) m' aQ H')/\∀x H',(lT K a).j8 i H x H'->g x σ H' λaj H2=>tb { D with nx:=N,ct:=N,bk:=D.nx } aj H2):=by
 refine⟨λi m σ H=>m=xs.length - i/\i<=xs.length/\Pv i σ H,⟨xs.length,by simp,Nat.zero_le _,h0⟩,?_⟩
 rintro i m σ H ⟨rfl,hi,p⟩;have q:=hl i σ H hi p;by_cases bQ:i<xs.length
 ·refine .inr ⟨⟨xs,xs[i],q,by simp[bQ]⟩,Pv (i+1),λaQ H' p'=>⟨xs.length - (i+1),by lia,rfl,bQ,p'⟩,λx H' y=>?_⟩
  obtain⟨e,y⟩:=y;subst e;exact hs i x σ _ (y xs q) p
 ·have e:i=xs.length:=by lia
  subst e;exact .inl ⟨⟨xs,q,Nat.le_refl _⟩,hd σ H p⟩
theorem WX{K:PySem.W.Frag}{a:Addr}{xs:List V}{g:TG}{tb:TS}{D:Ends}{σ:St}{H:Hp}(Pv:Nat->St->Hp->Prop)(h0:Pv 0 σ H)(hl:∀i σ H,i<=xs.length->Pv i σ H->bq K H a xs)
  (hs:∀i x σ H,xs[i]? = some x->Pv i σ H->g x σ H λaj H2=>tb { D with nx:=Pv (i+1),ct:=Pv (i+1),bk:=D.nx } aj H2) (hd:∀σ H,Pv xs.length σ H->D.nx σ H) :
  ∃W:Nat->Nat->St->Hp->Prop,(∃m,W 0 m σ H)/\∀i m σ H,W i m σ H->
   ((rH K a).stop i H/\D.nx σ H)\/((rH K a).go i H/\∃N:St->Hp->Prop,(∀aQ H',N aQ H'->∃m',m' < m/\W (i+1) m' aQ H')/\∀x H',(rH K a).j8 i H x H'->g x σ H' λaj H2=>tb { D with nx:=N,ct:=N,bk:=D.nx } aj H2):=by
 refine⟨λi m σ H=>m=xs.length - i/\i<=xs.length/\Pv i σ H,⟨xs.length,by simp,Nat.zero_le _,h0⟩,?_⟩
 rintro i m σ H ⟨rfl,hi,p⟩;have q:=hl i σ H hi p;by_cases bQ:i<xs.length
 ·refine .inr ⟨⟨xs,xs[i],q,by simp[bQ]⟩,Pv (i+1),λaQ H' p'=>⟨xs.length - (i+1),by lia,rfl,bQ,p'⟩,λx H' y=>?_⟩
  obtain⟨e,y⟩:=y;subst e;exact hs i x σ _ (y xs q) p
 ·have e:i=xs.length:=by lia
  subst e;exact .inl ⟨⟨xs,q,Nat.le_refl _⟩,hd σ H p⟩
theorem Lc{lo:Int}{n:Nat}{g:TG}{tb:TS}{D:Ends}{σ:St}{H:Hp}(Pv:Nat->St->Hp->Prop)(h0:Pv 0 σ H)
  (hs:∀i σ H,i<n->Pv i σ H->g (.int (lo+i)) σ H λaj H2=>tb { D with nx:=Pv (i+1),ct:=Pv (i+1),bk:=D.nx } aj H2) (hd:∀σ H,Pv n σ H->D.nx σ H) :
  ∃W:Nat->Nat->St->Hp->Prop,(∃m,W 0 m σ H)/\∀i m σ H,W i m σ H->
   ((j_ lo n).stop i H/\D.nx σ H)\/((j_ lo n).go i H/\∃N:St->Hp->Prop,(∀aQ H',N aQ H'->∃m',m' < m/\W (i+1) m' aQ H')/\∀x H',(j_ lo n).j8 i H x H'->g x σ H' λaj H2=>tb { D with nx:=N,ct:=N,bk:=D.nx } aj H2):=by
 refine⟨λi m σ H=>m=n - i/\i<=n/\Pv i σ H,⟨n,by simp,Nat.zero_le _,h0⟩,?_⟩
 rintro i m σ H ⟨rfl,hi,p⟩;by_cases bQ:i<n
 ·refine .inr ⟨bQ,Pv (i+1),λaQ H' p'=>⟨n - (i+1),by lia,rfl,bQ,p'⟩,λx H' y=>?_⟩
  obtain⟨e,y⟩:=y;subst e y;exact hs i σ _ bQ p
 ·have e:i=n:=by lia
  subst e;exact .inl ⟨Nat.le_refl _,hd σ H p⟩
noncomputable abbrev R2:=V->V->Hp->VK->Prop
noncomputable def c_(X:Cx)(f:Value->Value->Sem Value)(r:R2):Prop :=
 ∀(pins:List (Addr×Obj)) (s:Shared) (σ:St) (H:Hp) (x y:V) (v u:Value) (Q:VK),Inv X pins σ H s->RelV x v->RelV y u->r x y H Q->
  wpAny (model X.prog X.w) X.A (f v u) (EP X pins σ Q) X.xe s
noncomputable def CZ(X:Cx)(f:Value->Sem Value)(r:V->Hp->VK->Prop):Prop :=
 ∀(pins:List (Addr×Obj)) (s:Shared) (σ:St) (H:Hp) (x:V) (v:Value) (Q:VK),Inv X pins σ H s->RelV x v->r x H Q->
  wpAny (model X.prog X.w) X.A (f v) (EP X pins σ Q) X.xe s
noncomputable def fG(X:Cx)(f:Value)(r:List V->Hp->VK->Prop):Prop :=
 ∀(pins:List (Addr×Obj)) (s:Shared) (σ:St) (H:Hp) (xs:List V) (us:List Value) (Q:VK),Inv X pins σ H s->Vals xs us->r xs H Q->
  wpAny (model X.prog X.w) X.A (call f us) (EP X pins σ Q) X.xe s
noncomputable def WY(X:Cx)(r:V->Hp->(Bool->Hp->Prop)->Prop):Prop :=
 ∀(pins:List (Addr×Obj)) (s:Shared) (σ:St) (H:Hp) (x:V) (v:Value) (Q:Bool->Hp->Prop),Inv X pins σ H s->RelV x v->r x H Q->
  wpAny (model X.prog X.w) X.A (truthy v) (TP X pins σ Q) X.xe s
noncomputable def vJ(r:R2)(ta tb:TE):TE:=λσ H Q=>ta σ H λx H1=>tb σ H1 λy H2=>r x y H2 Q
noncomputable def WZ(r:V->Hp->VK->Prop)(ta:TE):TE:=λσ H Q=>ta σ H λx H1=>r x H1 Q
noncomputable def rI(C:Int->Int->Prop)(g:Int->Int->V):R2:=λx y H Q=>∃i j,x = .int i/\y = .int j/\C i j/\Q (g i j) H
noncomputable def lV(g:Int->Int->V):R2:=λx y H Q=>∃i j,x = .int i/\y = .int j/\Q (g i j) H
noncomputable def rU(g:Int->V):V->Hp->VK->Prop:=λx H Q=>∃i,x = .int i/\Q (g i) H
section
variable{X:Cx}{a b c:Expr}{ta tb tc:TE}{pos:Pos}
theorem C1(ha:PE X a ta)(hb:PE X b tb){pins:List (Addr×Obj)}{s:Shared}{σ:St}{H:Hp}{R:V->V->Hp->Prop}(I:Inv X pins σ H s)
  (h:ta σ H λx H1=>tb σ H1 λy H2=>R x y H2) {Q:Value->Shared->Prop} {f:Value->Value->Sem Value}
  (hf:∀v u s2 x y H2,Inv X pins σ H2 s2->RelV x v->RelV y u->R x y H2->wpAny (model X.prog X.w) X.A (f v u) Q X.xe s2) :
  wpAny (model X.prog X.w) X.A (eval a X.env) (λv aP=>wpAny (model X.prog X.w) X.A (eval b X.env) (λu iJ=>wpAny (model X.prog X.w) X.A (f v u) Q X.xe iJ) X.xe aP) X.xe s:=by
 refine aK (ha pins s σ H _ I h) λv s1 ⟨x,H1,I1,r1,q1⟩=>?_;refine aK (hb pins s1 σ H1 _ I1 q1) λu s2 ⟨y,H2,I2,r2,q2⟩=>?_;exact hf v u s2 x y H2 I2 r1 r2 q2
theorem aX{op:Operator}{r:R2}(ho:c_ X (binaryOp op) r)(ha:PE X a ta)(hb:PE X b tb):PE X (.BinOp a op b pos) (vJ r ta tb):=by
 intro pins s σ H Q I h;exact wpAny_BinOp (C1 ha hb I h λv u s2 x y H2 I2 rx ry q=>ho pins s2 σ H2 x y v u Q I2 rx ry q)
theorem pL{op:UnaryOp}{r:V->Hp->VK->Prop}(ho:CZ X (unaryOp op) r)(ha:PE X a ta):PE X (.UnaryOp op a pos) (WZ r ta):=by
 intro pins s σ H Q I h;exact UnaryOp_ (aK (ha pins s σ H _ I h) λv s1 ⟨x,H1,I1,r1,q1⟩=>ho pins s1 σ H1 x v Q I1 r1 q1)
theorem vK{f:Value->Value->Sem Value}{C:Int->Int->Prop}{g:Int->Int->Int}
  (rule:∀(i j:Int) (t u:Tok) (s:Shared) (Q:Value->Shared->Prop) (E:Value->Shared->Prop),C i j->Q (.int (g i j) s.toks) { s with toks:=s.toks+1 }->wpAny (model X.prog X.w) X.A (f (.int i t) (.int j u)) Q E s) :
  c_ X f (rI C λi j=>.int (g i j)):=by
 intro pins s σ H x y v u Q I rx ry h;obtain⟨i,j,rfl,rfl,hc,q⟩:=h;obtain⟨t,rfl⟩:=rx;obtain⟨t',rfl⟩:=ry;exact rule i j t t' s _ _ hc ⟨.int (g i j),H,I.tok _,⟨_,rfl⟩,q⟩
theorem Ld{f:Value->Value->Sem Value}{g:Int->Int->Int}
  (rule:∀(i j:Int) (t u:Tok) (s:Shared) (Q:Value->Shared->Prop) (E:Value->Shared->Prop),Q (.int (g i j) s.toks) { s with toks:=s.toks+1 }->wpAny (model X.prog X.w) X.A (f (.int i t) (.int j u)) Q E s) :
  c_ X f (lV λi j=>.int (g i j)):=by
 intro pins s σ H x y v u Q I rx ry h;obtain⟨i,j,rfl,rfl,q⟩:=h;obtain⟨t,rfl⟩:=rx;obtain⟨t',rfl⟩:=ry;exact rule i j t t' s _ _ ⟨.int (g i j),H,I.tok _,⟨_,rfl⟩,q⟩
theorem vL{f:Value->Value->Sem Value}{g:Int->Int->Bool}
  (rule:∀(i j:Int) (t u:Tok) (s:Shared) (Q:Value->Shared->Prop) (E:Value->Shared->Prop),Q (.bool (g i j)) s->wpAny (model X.prog X.w) X.A (f (.int i t) (.int j u)) Q E s) :
  c_ X f (lV λi j=>.bl (g i j)):=by
 intro pins s σ H x y v u Q I rx ry h;obtain⟨i,j,rfl,rfl,q⟩:=h;obtain⟨t,rfl⟩:=rx;obtain⟨t',rfl⟩:=ry;exact rule i j t t' s _ _ ⟨.bl (g i j),H,I,rfl,q⟩
noncomputable def W0(i j:Int):Prop:=0<j/\j<1073741824
noncomputable def W2(i j:Int):Prop:=0<=j/\j<=1000000/\i.natAbs<2 ^ 64
noncomputable def C3(i j:Int):Prop:=(-(2 ^ 64)<i/\i<2 ^ 64)\/(-(2 ^ 64)<j/\j<2 ^ 64)
theorem C3.ok{i j:Int}(h:C3 i j):IntMulOk i j:=by
 rcases h with⟨h1,h2⟩ | ⟨h1,h2⟩
 ·exact .of_left (intBits_le_64 h1 h2)
 ·exact .of_right (intBits_le_64 h1 h2)
theorem cJ:c_ X (binaryOp .Add) (lV λi j=>.int (i+j)):=Ld λ_ _ _ _ _ _ _ q=>add_int q
theorem jd:c_ X (binaryOp .Sub) (lV λi j=>.int (i - j)):=Ld λ_ _ _ _ _ _ _ q=>sub_int q
theorem kh:c_ X (binaryOp .Mult) (rI C3 λi j=>.int (i*j)):=vK λ_ _ _ _ _ _ _ hc q=>mul_int q hc.ok
theorem vM:c_ X (binaryOp .FloorDiv) (rI W0 λi j=>.int (i / j)):=vK λi j _ _ _ _ _ hc q=>by
 have h1:(0:Int)<j:=hc.1;have h2:j<1073741824:=hc.2;exact floordiv_int (by lia) (by rw[Int.fdiv_eq_ediv_of_nonneg i (by lia)];exact q) (.inl (PyProof.noPylong_small (by lia)))
theorem lW:c_ X (binaryOp .Mod) (rI (λ_ j=>0<j) λi j=>.int (i % j)):=vK λi j _ _ _ _ _ hc q=>by
 have h1:(0:Int)<j:=hc;exact mod_int' (by lia) (by rw[Int.fmod_eq_emod_of_nonneg i (by lia)];exact q)
theorem Le:c_ X (binaryOp .Pow) (rI W2 λi j=>.int (i ^ j.toNat)):=vK λ_ _ _ _ _ _ _ hc q=>pow_int_small hc.1 hc.2.1 hc.2.2 q
theorem W3{f:Value->Sem Value}{g:Int->Int}
  (rule:∀(i:Int) (t:Tok) (s:Shared) (Q:Value->Shared->Prop) (E:Value->Shared->Prop),Q (.int (g i) s.toks) { s with toks:=s.toks+1 }->wpAny (model X.prog X.w) X.A (f (.int i t)) Q E s) :
  CZ X f (rU λi=>.int (g i)):=by
 intro pins s σ H x v Q I rx h;obtain⟨i,rfl,q⟩:=h;obtain⟨t,rfl⟩:=rx;exact rule i t s _ _ ⟨.int (g i),H,I.tok _,⟨_,rfl⟩,q⟩
theorem pM:CZ X (unaryOp .USub) (rU λi=>.int (-i)):=W3 λ_ _ _ _ _ q=>neg_int q
end
noncomputable def ki:V->V->Bool
 | .aI,.aI=>true | .aI,.int _=>true | .int _,.aI=>true | .aI,.bl _=>true | .bl _,.aI=>true | .aI,.str _=>true | .str _,.aI=>true
 | .int _,.int _=>true | .bl _,.bl _=>true | .str _,.str _=>true | .ie _,.ie _=>true
 | .int _,.str _=>true | .str _,.int _=>true | .bl _,.str _=>true | .str _,.bl _=>true
 | _,_=>false
noncomputable def W4:R2:=λx y H Q=>ki x y=true/\Q (.bl (decide (x=y))) H
noncomputable def W5:R2:=λx y H Q=>ki x y=true/\Q (.bl (!decide (x=y))) H
theorem Lf{i j:Int}:decide (V.int i=V.int j)=(i == j):=by
 rw[Bool.eq_iff_iff];simp
theorem Lg{i j:Bool}:decide (V.bl i=V.bl j)=(i == j):=by
 rw[Bool.eq_iff_iff];simp
theorem Lh{i j:Str}:decide (V.str i=V.str j)=(i == j):=by
 rw[Bool.eq_iff_iff];simp
theorem Li{i j:Array UInt8}:decide (V.ie i=V.ie j)=(i.toList == j.toList):=by
 rw[Bool.eq_iff_iff];cases i;cases j;simp
section
variable{X:Cx}{a b c:Expr}{ta tb tc:TE}{pos:Pos}
theorem cM{pins:List (Addr×Obj)}{σ:St}{H:Hp}{s:Shared}{Q:VK}{k k':Bool}(I:Inv X pins σ H s)(q:Q (.bl k) H)(e:k=k'):EP X pins σ Q (.bool k') s:=by
 subst e;exact⟨.bl k,H,I,rfl,q⟩
theorem kj:c_ X (compareOp .Eq) W4:=by
 intro pins s σ H x y v u Q I rx ry h;obtain⟨hs,q⟩:=h;cases x with
 | aI =>
  cases rx;cases y with
  | aI=>cases ry;exact PySem.EqNone.eq_none_none (cM I q (by simp))
  | bl j=>cases ry;exact PySem.EqNone.eq_none_bool (cM I q (by simp))
  | int j=>obtain⟨t',rfl⟩:=ry;exact PySem.EqNone.eq_none_int (cM I q (by simp))
  | str j=>obtain⟨t',rfl⟩:=ry;exact PySem.EqNone.eq_none_str (cM I q (by simp))
  | _=>exact absurd (show false=true from hs) Bool.false_ne_true
 | bl i =>
  cases rx;cases y with
  | aI=>cases ry;exact PySem.EqNone.eq_bool_none (cM I q (by simp))
  | bl j=>cases ry;exact eq_bool (cM I q Lg)
  | str j=>obtain⟨t',rfl⟩:=ry;exact PySem.EqMixed.eq_bool_str (cM I q (by simp))
  | _=>exact absurd (show false=true from hs) Bool.false_ne_true
 | int i =>
  obtain⟨t,rfl⟩:=rx;cases y with
  | aI=>cases ry;exact PySem.EqNone.eq_int_none (cM I q (by simp))
  | int j=>obtain⟨t',rfl⟩:=ry;exact eq_int (cM I q Lf)
  | str j=>obtain⟨t',rfl⟩:=ry;exact PySem.EqMixed.eq_int_str (cM I q (by simp))
  | _=>exact absurd (show false=true from hs) Bool.false_ne_true
 | str i =>
  obtain⟨t,rfl⟩:=rx;cases y with
  | aI=>cases ry;exact PySem.EqNone.eq_str_none (cM I q (by simp))
  | bl j=>cases ry;exact PySem.EqMixed.eq_str_bool (cM I q (by simp))
  | int j=>obtain⟨t',rfl⟩:=ry;exact PySem.EqMixed.eq_str_int (cM I q (by simp))
  | str j=>obtain⟨t',rfl⟩:=ry;exact eq_str (cM I q Lh)
  | _=>exact absurd (show false=true from hs) Bool.false_ne_true
 | ie i =>
  obtain⟨t,rfl⟩:=rx;cases y with
  | ie j=>obtain⟨t',rfl⟩:=ry;exact PySem.W.eq_bytes (cM I q Li)
  | _=>exact absurd (show false=true from hs) Bool.false_ne_true
 | _=>cases y <;> exact absurd (show false=true from hs) Bool.false_ne_true
theorem kq:c_ X (compareOp .NotEq) W5:=by
 intro pins s σ H x y v u Q I rx ry h;obtain⟨hs,q⟩:=h;cases x with
 | aI =>
  cases rx;cases y with
  | aI=>cases ry;exact PySem.EqNone.ne_none_none (cM I q (by simp))
  | bl j=>cases ry;exact PySem.EqNone.ne_none_bool (cM I q (by simp))
  | int j=>obtain⟨t',rfl⟩:=ry;exact PySem.EqNone.ne_none_int (cM I q (by simp))
  | str j=>obtain⟨t',rfl⟩:=ry;exact PySem.EqNone.ne_none_str (cM I q (by simp))
  | _=>exact absurd (show false=true from hs) Bool.false_ne_true
 | bl i =>
  cases rx;cases y with
  | aI=>cases ry;exact PySem.EqNone.ne_bool_none (cM I q (by simp))
  | bl j=>cases ry;exact ne_bool (cM I q (congrArg not Lg))
  | str j=>obtain⟨t',rfl⟩:=ry;exact PySem.EqMixed.ne_bool_str (cM I q (by simp))
  | _=>exact absurd (show false=true from hs) Bool.false_ne_true
 | int i =>
  obtain⟨t,rfl⟩:=rx;cases y with
  | aI=>cases ry;exact PySem.EqNone.ne_int_none (cM I q (by simp))
  | int j=>obtain⟨t',rfl⟩:=ry;exact ne_int (cM I q (congrArg not Lf))
  | str j=>obtain⟨t',rfl⟩:=ry;exact PySem.EqMixed.ne_int_str (cM I q (by simp))
  | _=>exact absurd (show false=true from hs) Bool.false_ne_true
 | str i =>
  obtain⟨t,rfl⟩:=rx;cases y with
  | aI=>cases ry;exact PySem.EqNone.ne_str_none (cM I q (by simp))
  | bl j=>cases ry;exact PySem.EqMixed.ne_str_bool (cM I q (by simp))
  | int j=>obtain⟨t',rfl⟩:=ry;exact PySem.EqMixed.ne_str_int (cM I q (by simp))
  | str j=>obtain⟨t',rfl⟩:=ry;exact ne_str (cM I q (congrArg not Lh))
  | _=>exact absurd (show false=true from hs) Bool.false_ne_true
 | ie i =>
  obtain⟨t,rfl⟩:=rx;cases y with
  | ie j=>obtain⟨t',rfl⟩:=ry;exact PySem.W.ne_bytes (cM I q (congrArg not Li))
  | _=>exact absurd (show false=true from hs) Bool.false_ne_true
 | _=>cases y <;> exact absurd (show false=true from hs) Bool.false_ne_true
theorem fZ:c_ X (compareOp .Lt) (lV λi j=>.bl (decide (i<j))):=vL λ_ _ _ _ _ _ _ q=>lt_int q
theorem vN:c_ X (compareOp .LtE) (lV λi j=>.bl (decide (i<=j))):=vL λ_ _ _ _ _ _ _ q=>le_int q
theorem k8:c_ X (compareOp .Gt) (lV λi j=>.bl (decide (j<i))):=vL λ_ _ _ _ _ _ _ q=>gt_int q
theorem pN:c_ X (compareOp .GtE) (lV λi j=>.bl (decide (j<=i))):=vL λ_ _ _ _ _ _ _ q=>ge_int q
theorem W6:c_ X (compareOp .Is) (λx y H Q=>y = .aI/\Q (.bl (decide (x = .aI))) H):=by
 intro pins s σ H x y v u Q I rx ry h;obtain⟨rfl,q⟩:=h;cases ry;refine is_none_gen (cM I q ?_);cases x <;> first
  | (cases rx;rfl)
  | (obtain⟨t,rfl⟩:=rx;rfl)
theorem W7:c_ X (compareOp .IsNot) (λx y H Q=>y = .aI/\Q (.bl (!decide (x = .aI))) H):=by
 intro pins s σ H x y v u Q I rx ry h;obtain⟨rfl,q⟩:=h;cases ry;refine isnot_none_gen (cM I q ?_);cases x <;> first
  | (cases rx;rfl)
  | (obtain⟨t,rfl⟩:=rx;rfl)
theorem bD(b:Expr){op:CmpOp}(h:op≠.In:=by decide)(h2:op≠.NotIn:=by decide):behindInMarks op b=false:=by
 have e1:(op == CmpOp.In)=false:=by cases op <;> first | rfl | exact absurd rfl h
 have e2:(op == CmpOp.NotIn)=false:=by cases op <;> first | rfl | exact absurd rfl h2
 cases b <;> simp[behindInMarks,e1,e2]
theorem nG{op:CmpOp}{r:R2}(ho:c_ X (compareOp op) r)(ha:PE X a ta)(hb:PE X b tb)(hm:behindInMarks op b=false):PE X (.Compare a [op] [b] pos) (vJ r ta tb):=by
 intro pins s σ H Q I h;exact wpAny_Compare1 (C1 ha hb I h λv u s2 x y H2 I2 rx ry q=>ho pins s2 σ H2 x y v u Q I2 rx ry q) hm
noncomputable def Lj(t:TE):TT:=λσ H Q=>t σ H λx H'=>∃k,x = .bl k/\Q k H'
theorem bG{op:CmpOp}{r:R2}(ho:c_ X (compareOp op) r)(ha:PE X a ta)(hb:PE X b tb)(hm:behindInMarks op b=false):PT X (.Compare a [op] [b] pos) (Lj (vJ r ta tb)):=by
 intro pins s σ H Q I h;refine wpAny_isTrue_Compare1 (aK (ha pins s σ H _ I h) λv s1 ⟨x,H1,I1,r1,q1⟩=>aK (hb pins s1 σ H1 _ I1 q1) λu s2 ⟨y,H2,I2,r2,q2⟩ =>
  aK (ho pins s2 σ H2 x y v u _ I2 r1 r2 q2) λc s3 ⟨z,H3,I3,r3,k,e,q3⟩=>?_) hm
 subst e;cases r3;exact wpAny_truthy_bool ⟨H3,I3,q3⟩
noncomputable def W8(r r':R2)(ta tb tc:TE):TE:=λσ H Q=>ta σ H λx H1=>tb σ H1 λy H2=>r x y H2 λz H3=>∃k,z = .bl k/\
 (if k=true then tc σ H3 λw' H4=>r' y w' H4 Q else Q (.bl false) H3)
theorem W9{op C4:CmpOp}{r r':R2}(ho:c_ X (compareOp op) r)(kZ:c_ X (compareOp C4) r')(ha:PE X a ta)(hb:PE X b tb)(hc:PE X c tc)
  (hm:lastMarks [op,C4] [b,c] = false:=by with_unfolding_all rfl):PT X (.Compare a [op,C4] [b,c] pos) (Lj (W8 r r' ta tb tc)):=by
 intro pins s σ H Q I h;refine isTrue_chain (aK (ha pins s σ H _ I h) λv s1 ⟨x,H1,I1,r1,q1⟩=>test_link (aK (hb pins s1 σ H1 _ I1 q1) λu s2 ⟨y,H2,I2,r2,q2⟩ =>
  aK (ho pins s2 σ H2 x y v u _ I2 r1 r2 q2) λd s3 ⟨z,H3,I3,r3,k,e,q3⟩=>?_)) hm
 subst e;cases r3;refine wpAny_truthy_bool ?_;cases k with
 | false =>
  obtain⟨k',e',q'⟩:=q3;cases e';exact ite_ff ⟨H3,I3,q'⟩
 | true =>
  refine ite_tt (test_last (aK (hc pins s3 σ H3 _ I3 q3) λw' s4 ⟨z',H4,I4,r4,q4⟩=>aK (kZ pins s4 σ H4 y z' u w' _ I4 r2 r4 q4) λd' s5 ⟨z2,H5,I5,r5,k2,e2,q5⟩=>?_));subst e2;cases r5;exact wpAny_truthy_bool ⟨H5,I5,q5⟩
noncomputable def Lk(K:PySem.W.Frag)(x:V)(H:Hp)(k:Bool):Prop :=
 match x with
 | .aI=>k=false
 | .bl b=>k=b
 | .int i=>k=(i != 0)
 | .str y=>y.length<=sizeLine/\k=((y.length:Int) != 0)
 | .ie y=>y.size<=sizeLine/\k=((y.size:Int) != 0)
 | .ref p=>(∃xs,aA K H p xs/\k = !xs.isEmpty)\/(∃xs,bq K H p xs/\k = !xs.isEmpty)\/∃kvs,H p=some (.dK kvs)/\k = !kvs.isEmpty
 | _=>False
theorem W_{κ:Type}{kvs:List (κ×V)}{vs:List (κ×Value)}(r:KV kvs vs):(!vs.isEmpty) = !kvs.isEmpty:=by
 cases r <;> rfl
theorem Ll{xs:List V}{aq:List Value}(r:Vals xs aq):(!aq.toArray.isEmpty) = !xs.isEmpty:=by
 cases r <;> simp
theorem pO:(sizeLine:Nat)<2 ^ 63:=by rw[sizeLine_eq];decide
theorem Xa:WY X (λx H Q=>∃k,Lk X.K x H k/\Q k H):=by
 intro pins s σ H x v Q I rx h;obtain⟨k,e,q⟩:=h;have hl:=pO;have hs:sizeLine=16777216:=sizeLine_eq;cases x with
 | aI =>
  cases rx;have e':k=false:=e;subst e';exact truthy_none ⟨H,I,q⟩
 | bl b =>
  cases rx;have e':k=b:=e;subst e';exact wpAny_truthy_bool ⟨H,I,q⟩
 | int i =>
  obtain⟨t,rfl⟩:=rx;have e':k=(i != 0):=e;subst e';exact PySem.P.truthy_int ⟨H,I,q⟩
 | str y =>
  obtain⟨t,rfl⟩:=rx;obtain⟨hy,e'⟩:y.length<=sizeLine/\k=((y.length:Int) != 0):=e;subst e';exact PySem.P.truthy_str (by lia) ⟨H,I.tok _,q⟩
 | ie y =>
  obtain⟨t,rfl⟩:=rx;obtain⟨hy,e'⟩:y.size<=sizeLine/\k=((y.size:Int) != 0):=e;subst e';exact PySem.W.truthy_bytes (by lia) ⟨H,I.tok _,q⟩
 | ref p =>
  cases rx;have e':(∃xs,aA X.K H p xs/\k = !xs.isEmpty)\/(∃xs,bq X.K H p xs/\k = !xs.isEmpty)\/∃kvs,H p=some (.dK kvs)/\k = !kvs.isEmpty:=e;rcases e' with⟨xs,hx,e'⟩ | ⟨xs,hx,e'⟩ | ⟨kvs,hx,e'⟩
  ·subst e';obtain⟨aq,r,pl,hz⟩:=I.list hx;have hlen:=r.length;exact wpAny_truthy_list pl.isList (by simp only[List.size_toArray];lia) ⟨H,I.tok _,by rw[Ll r];exact q⟩
  ·subst e';obtain⟨aq,r,pl,hz⟩:=I.tuple hx;have hlen:=r.length;exact truthy_tuple pl (by simp only[List.size_toArray];lia) ⟨H,I.tok _,by rw[Ll r];exact q⟩
  ·subst e';obtain⟨hz,hS,vs,r,m⟩:kvs.length<=sizeLine/\(p == sysModules)=false/\∃vs,KV kvs vs/\s.heap.DictOf (d9 X.prog X.w) p vs:=I.aD p _ hx;have hlen:kvs.length=vs.length:=Paired.length r;exact wpAny_truthy_dict hS m (by lia) ⟨H,I.tok _,by rw[W_ r];exact q⟩
 | _=>exact(show False from e).elim
theorem vO(ha:PE X a ta)(he:∀whole,isTrue a X.env whole=(do let v ← whole;standAt a.pos;holding [v] (truthy v))) :
  PT X a (λσ H Q=>ta σ H λx H'=>∃k,Lk X.K x H' k/\Q k H'):=by
 intro pins s σ H Q I h;exact isTrue_plain (aK (ha pins s σ H _ I h) λv s1 ⟨x,H1,I1,r1,q1⟩=>Xa pins s1 σ H1 x v Q I1 r1 q1) (he _)
theorem vals1{x:V}{us:List Value}(r:Vals [x] us):∃u,us = [u]/\RelV x u:=by
 cases r with
 | cons r1 r2=>cases r2;exact⟨_,rfl,r1⟩
theorem vals2{x y:V}{us:List Value}(r:Vals [x,y] us):∃u w',us = [u,w']/\RelV x u/\RelV y w':=by
 cases r with
 | cons r1 r2 =>
  cases r2 with
  | cons r3 r4=>cases r4;exact⟨_,_,rfl,r1,r3⟩
theorem Lm:fG X (.builtin "abs") (λxs H Q=>∃i,xs = [.int i]/\Q (.int (if i<0 then -i else i)) H):=by
 intro pins s σ H xs us Q I r h;obtain⟨i,rfl,q⟩:=h;obtain⟨u,rfl,t,rfl⟩:=vals1 r;exact call_abs_int λu tk=>⟨.int (if i<0 then -i else i),H,I.tok _,⟨_,rfl⟩,q⟩
theorem Xb(hc:X.calm=true):fG X (.builtin "max") (λxs H Q=>∃i j,xs = [.int i,.int j]/\Q (.int (if j > i then j else i)) H):=by
 intro pins s σ H xs us Q I r h;obtain⟨i,j,rfl,q⟩:=h;obtain⟨u,w',rfl,⟨t,rfl⟩,⟨t',rfl⟩⟩:=vals2 r;refine max_two_ints (I.ok.hd hc) λh' tk k=>⟨_,H,I.kept k,?_,q⟩;by_cases hj:j > i
 ·rw[if_pos hj,if_pos hj];exact⟨_,rfl⟩
 ·rw[if_neg hj,if_neg hj];exact⟨_,rfl⟩
end
structure nH(h:Heap)(x dx C:Addr)(mA:Str->Option Value):Prop where
 obj:h.get? x=some (PySem.W.instObj C dx)
 ns:h.Ns1 dx mA
 ne:dx≠x
theorem Xc{h:Heap}{dx:Addr}{mA:Str->Option Value}(n:h.Ns1 dx mA):∃od,h.get? dx=some od/\∀name,PySem.W.lookIn name od=some (mA name):=by
 obtain⟨o,es,ep,ho,hd,hk,_,hm⟩:=n;refine⟨o,ho,λname=>?_⟩
 have e:=hm name;unfold nsFind findBy at e;rw[← Array.find?_toList] at e;unfold PySem.W.lookIn;rw[hd];dsimp only;split
 ·rename_i y q;rw[q] at e;exact congrArg some e
 ·rename_i q;rw[q] at e;have a:es.toList.any (·.refKey)=false:=by
   rw[List.any_eq_false];intro y hy;obtain⟨z,t,lX⟩:=hk y (Array.mem_toList_iff.mp hy);simp[DictEntry.refKey,lX]
  have a':¬ es.toList.any (·.refKey)=true:=by rw[a];exact Bool.false_ne_true
  rw[if_neg a'];exact congrArg some e
theorem nH.look{h:Heap}{x dx C:Addr}{mA:Str->Option Value}(I:nH h x dx C mA):∃od,PySem.W.InstAt h x (PySem.W.instObj C dx) C (some od)/\∀name,PySem.W.lookIn name od=some (mA name) :=
 let ⟨od,ho,hl⟩:=Xc I.ns
 ⟨od,⟨I.obj,rfl,rfl,ho⟩,hl⟩
section
variable{prog:Program}{w:World}{A:Around}{E:Value->Shared->Prop}{s:Shared}{K:PySem.W.Frag}{x dx C f:Addr}{mA:Str->Option Value}{name:Str}{v:Value}
theorem get_map{expr:Bool}{Q:Value->Shared->Prop}(X:K.In s.heap)(I:nH s.heap x dx C mA)(hg:PySem.W.plainGet K C name=true)(hh:PySem.W.hasDictIn K C=true)
  (ha:PySem.W.findIn K (.ref C) name=some none) (hv:mA name=some v) (Xd:PySem.W.handedIn v=true) (h:Q v { s with toks:=s.toks+1 }) :
  wpAny (model prog w) A (getAttr (.ref x) name expr) Q E s:=by
 obtain⟨od,J,hl⟩:=I.look;exact PySem.W.get_value X J (PySem.W.plainGet_of hg).1 (PySem.W.findObj_own hh ha rfl (by rw[hl,hv])) Xd h
theorem Xe{pl:Sem Bool}{Q:Value×List Value->Shared->Prop}(X:K.In s.heap)(I:nH s.heap x dx C mA)(hg:PySem.W.plainGet K C name=true)
  (hf:PySem.W.findIn K (.ref C) name=some (some (.ref f))) (ht:PySem.W.isFn K (.ref f)=true) (hv:mA name=none) (h:Q (.ref f,[.ref x]) s) :
  wpAny (model prog w) A (getMethod (.ref x) name pl) Q E s:=by
 obtain⟨od,J,hl⟩:=I.look;exact PySem.W.method_fn X J (PySem.W.plainGet_of hg).1 (PySem.W.plainGet_of hg).2 hf (beq_iff_eq.mp ht) (by show (PySem.W.lookIn name od).map (·.isSome)=some false;rw[hl,hv];rfl) h
theorem Xf{ns:List Str}{Q:Unit->Shared->Prop}(X:K.In s.heap)(I:nH s.heap x dx C mA)
  (hs:PySem.W.findIn K (.ref C) "__setattr__" = some (some (.builtin "object.__setattr__"))) (hp:PySem.W.plainOver K C=true) (ht:PySem.W.takerIn K C name=some none) (hh:PySem.W.hasDictIn K C=true)
  (hw:PySem.Within mA ns) (hsz:ns.length<=sizeLine)
  (h:∀h',nH h' x dx C (λy=>if y=name then some v else mA y)->Heap.SameBut dx s.heap h'->Q () { s with heap:=h',toks:=s.toks+2 }) :
  wpAny (model prog w) A (setAttr (.ref x) name v) Q E s:=by
 obtain⟨od,J,hl⟩:=I.look;refine PySem.W.set_plain X J hs (PySem.W.osa_open (s:={ s with toks:=s.toks+1 }) (r:=none) X J hp ht λb=>?_)
 obtain⟨cd,hc,Cz⟩:=PySem.W.any_some hh;have hx:s.heap.get? x=some ⟨.ref C,some dx,.plain,#[]⟩:=I.obj;refine wpAny_bind (wpAny_pure (wpAny_bind (wpAny_bind (wpAny_loadPart hx (wpAny_bind (PySem.W.Looks.here (s:={ s with toks:=s.toks+1 }) (PySem.W.looks_clsIn X hc) ?_))))));rw[Cz];refine wpAny_pure (a:=some dx) (wpAny_bind (wpAny_pure (wpAny_bind ?_)));refine wpAny_nsSet1 (s:={ s with toks:=s.toks+1 }) I.ns λh' pQ iM=>?_;obtain⟨oD,esD,epD,Xg,Xh,Xi⟩:=pQ.count (PySem.Within.cons name v hw);refine wpAny_bind (wpAny_lookBehind Xg (by rw[Xh];exact pastItsLine_dict (Nat.le_trans Xi (by rw[List.length_cons];lia))) ?_)
 exact wpAny_pure (h _ ⟨(iM.2 _ (Ne.symm I.ne)).trans I.obj,pQ,I.ne⟩ iM)
theorem Xj{R:Result->Shared->Prop}{vs:List Value}{kw:List (Str×Value)}(X:K.In s.heap)(hm:PySem.W.makesIn K C=true)
  (hi:PySem.W.findIn K (.ref C) "__init__" = some (some (.ref f))) (hf:PySem.W.typeIn K (.ref f)=some (.type "function"))
  (h:codeAny (model prog w) (A.under (.builtin "type.__call__" ⟨.ref C::vs,kw⟩)) (.call (.ref f) ⟨.ref (s.heap.objs.size+1)::vs,kw⟩) (PySem.W.InitBack (s.heap.objs.size+1) R)
   { s with heap:=(s.heap.push PySem.W.emptyDict).push (PySem.W.instObj C s.heap.objs.size)}) :
  codeAny (model prog w) A (.call (.ref C) ⟨vs,kw⟩) R s:=by
 obtain⟨hh,g,d,t,os⟩:=s;exact PySem.W.make_core (PySem.W.makes_of X hm) (PySem.W.looks_findIn X hi) (λself=>PySem.W.bind_fn X self hf) (.inl rfl) h
theorem Xk{R:Result->Shared->Prop}(X:K.In s.heap)(hm:PySem.W.makesIn K C=true)
  (hi:PySem.W.findIn K (.ref C) "__init__" = some (some (.builtin "object.__init__")))
  (hb:∀self,PySem.W.Looks (model prog w) s.heap (bindSpecial (.builtin "object.__init__") self) (.builtin "object.__init__",[self]))
  (h:codeAny (model prog w) (A.under (.builtin "type.__call__" ⟨[.ref C],[]⟩)) (.call (.builtin "object.__init__") ⟨[.ref (s.heap.objs.size+1)],[]⟩) (PySem.W.InitBack (s.heap.objs.size+1) R)
   { s with heap:=(s.heap.push PySem.W.emptyDict).push (PySem.W.instObj C s.heap.objs.size)}) :
  codeAny (model prog w) A (.call (.ref C) ⟨[],[]⟩) R s:=by
 obtain⟨hh,g,d,t,os⟩:=s;exact PySem.W.make_core (PySem.W.makes_of X hm) (PySem.W.looks_findIn X hi) hb (.inr ⟨rfl,rfl⟩) h
end
noncomputable def f9(f:Str)(v:V):List (Str×V)->List (Str×V)
 | []=>[(f,v)]
 | (g,x)::r=>if g=f then(g,v)::r else(g,x)::f9 f v r
theorem Ln(f g:Str)(v:V):∀fs:List (Str×V),(f9 f v fs).lookup g=if g=f then some v else fs.lookup g
 | []=>by
  show List.lookup g [(f,v)] = _;by_cases h:g=f
  ·have hb:(g == f)=true:=beq_iff_eq.mpr h;simp only[List.lookup,hb,if_pos h]
  ·have hb:(g == f)=false:=beq_eq_false_iff_ne.mpr h;simp only[List.lookup,hb,if_neg h]
 | (k,x)::r=>by
  have ih:=Ln f g v r;rw[show f9 f v ((k,x)::r)=(if k=f then(k,v)::r else(k,x)::f9 f v r) from rfl]
  by_cases hk:k=f
  ·rw[if_pos hk];by_cases h:g=k
   ·have hb:(g == k)=true:=beq_iff_eq.mpr h;simp only[List.lookup,hb,if_pos (h.trans hk)]
   ·have hb:(g == k)=false:=beq_eq_false_iff_ne.mpr h;simp only[List.lookup,hb,if_neg (λe:g=f=>h (e.trans hk.symm))]
  ·rw[if_neg hk];by_cases h:g=k
   ·have hb:(g == k)=true:=beq_iff_eq.mpr h;simp only[List.lookup,hb,if_neg (λe:g=f=>hk (h.symm.trans e))]
   ·have hb:(g == k)=false:=beq_eq_false_iff_ne.mpr h;simp only[List.lookup,hb];exact ih
theorem C5(f:Str)(v:V):∀fs:List (Str×V),f∈(f9 f v fs).map (·.1)/\∀g,g∈fs.map (·.1)->g∈(f9 f v fs).map (·.1)
 | []=>⟨by simp[f9],λg h=>by simp at h⟩
 | (k,x)::r=>by
  obtain⟨i1,i2⟩:=C5 f v r;rw[show f9 f v ((k,x)::r)=(if k=f then(k,v)::r else(k,x)::f9 f v r) from rfl]
  by_cases hk:k=f
  ·rw[if_pos hk];subst hk;exact⟨by simp,λg h=>by simpa using h⟩
  ·rw[if_neg hk];refine⟨?_,λg h=>?_⟩
   ·rw[List.map_cons];exact List.mem_cons_of_mem _ i1
   ·rw[List.map_cons] at h ⊢;rcases List.mem_cons.mp h with e | e
    ·exact List.mem_cons.mpr (.inl e)
    ·exact List.mem_cons_of_mem _ (i2 g e)
theorem Lo(f:Str)(v:V):∀fs:List (Str×V),(f9 f v fs).length<=fs.length+1
 | []=>by simp[f9]
 | (k,x)::r=>by
  have ih:=Lo f v r;rw[show f9 f v ((k,x)::r)=(if k=f then(k,v)::r else(k,x)::f9 f v r) from rfl]
  by_cases hk:k=f
  ·rw[if_pos hk,List.length_cons,List.length_cons];lia
  ·rw[if_neg hk,List.length_cons,List.length_cons];lia
theorem fh.some_of{v:V}{o:Option Value}(r:fh (some v) o):∃u,o=some u/\RelV v u:=by
 cases o with
 | none=>exact(show False from r).elim
 | some u=>exact⟨u,rfl,r⟩
theorem fh.none_of{o:Option Value}(r:fh none o):o=none:=by
 cases o with
 | none=>rfl
 | some u=>exact(show False from r).elim
theorem Xl{v:V}{u:Value}(r:RelV v u):PySem.W.handedIn u=true:=by
 cases v with
 | aI=>cases (show u=Value.none from r);rfl
 | bl b=>cases (show u=Value.bool b from r);rfl
 | int i=>obtain⟨t,e⟩:=(show ∃t,u=Value.int i t from r);cases e;rfl
 | str x=>obtain⟨t,e⟩:=(show ∃t,u=Value.str x t from r);cases e;rfl
 | ie b=>obtain⟨t,e⟩:=(show ∃t,u=Value.bytes b t from r);cases e;rfl
 | mY b=>obtain⟨t,e⟩:=(show ∃t,u=Value.float b t from r);cases e;rfl
 | ref a=>cases (show u=Value.ref a from r);rfl
 | ty n=>cases (show u=Value.type n from r);rfl
section
variable{P:Program}{w:World}{H H':Hp}{h h':Heap}{a C dx:Addr}{fs Wt:List (Str×V)}
theorem vP(aD:b_ P w H h)(e:H a=some (.ins C dx fs)):∃mA,nH h a dx C mA/\(∀f,fh (fs.lookup f) (mA f))/\PySem.Within mA (fs.map (·.1))/\fs.length<=1000/\H dx=some (.own a):=by
 obtain⟨d,z,ne,ob,mA,n,r,q⟩:=(show cL P w H h a (.ins C dx fs) from aD a _ e);exact⟨mA,⟨ob,n,ne⟩,r,q,z,d⟩
end
structure bR(K:PySem.W.Frag)(C:Addr):Prop where
 pg:PySem.W.plainGet K C Str.empty=true
 hd:PySem.W.hasDictIn K C=true
 po:PySem.W.plainOver K C=true
 sa:PySem.W.findIn K (.ref C) "__setattr__" = some (some (.builtin "object.__setattr__"))
theorem bR.get{K:PySem.W.Frag}{C:Addr}(c:bR K C)(f:Str):PySem.W.plainGet K C f=true:=c.pg
noncomputable def bJ(K:PySem.W.Frag)(C:Addr)(f:Str):Prop:=PySem.W.findIn K (.ref C) f=some none
theorem bJ.Xm{K:PySem.W.Frag}{C:Addr}{f:Str}(n:bJ K C f):PySem.W.takerIn K C f=some none:=by
 unfold PySem.W.takerIn;rw[show PySem.W.findIn K (.ref C) f=some none from n]
 rfl
structure Meth(K:PySem.W.Frag)(C:Addr)(m:Str)(f:Addr):Prop where
 at_:PySem.W.findIn K (.ref C) m=some (some (.ref f))
 fn:PySem.W.isFn K (.ref f)=true
 kp:PySem.W.keepIn K (.ref f)=true
section
variable{X:Cx}{pins:List (Addr×Obj)}{σ:St}{H:Hp}{s:Shared}{a C dx:Addr}{fs:List (Str×V)}{f:Str}{v:V}{A:Around}{E:Value->Shared->Prop}
theorem Xn{b:Bool}{Q:Value->Shared->Prop}(I:Inv X pins σ H s)(e:H a=some (.ins C dx fs))(c:bR X.K C)(n:bJ X.K C f)(l:fs.lookup f=some v)
  (h:∀u s',Inv X pins σ H s'->RelV v u->Q u s'):wpAny (model X.prog X.w) A (getAttr (.ref a) f b) Q E s:=by
 obtain⟨mA,O,r,_,_,_⟩:=vP I.aD e;obtain⟨u,hu,ru⟩:=fh.some_of (v:=v) (o:=mA f) (by rw[← l];exact r f)
 exact get_map I.bX O (c.get f) c.hd n hu (Xl ru) (h u _ (I.tok _) ru)
theorem lY{m:Str}{g:Addr}{pl:Sem Bool}{Q:Value×List Value->Shared->Prop}(I:Inv X pins σ H s)(e:H a=some (.ins C dx fs))(c:bR X.K C)(k:Meth X.K C m g)(l:fs.lookup m=none)
  (h:Q (.ref g,[.ref a]) s):wpAny (model X.prog X.w) A (getMethod (.ref a) m pl) Q E s:=by
 obtain⟨mA,O,r,_,_,_⟩:=vP I.aD e;have hn:mA m=none:=fh.none_of (by rw[← l];exact r m)
 exact Xe I.bX O (c.get m) k.at_ k.fn hn h
theorem Xo{y:V}{u:Value}{Q:Unit->Shared->Prop}(I:Inv X pins σ H s)(e:H a=some (.ins C dx fs))(c:bR X.K C)(n:bJ X.K C f)(hl:fs.length<1000)(ry:RelV y u)
  (h:∀s',Inv X pins σ (upd H a (.ins C dx (f9 f y fs))) s'->Q () s'):wpAny (model X.prog X.w) A (setAttr (.ref a) f u) Q E s:=by
 obtain⟨mA,O,r,wi,_,ho⟩:=vP I.aD e;have hz:(fs.map (·.1)).length<=sizeLine:=by rw[List.length_map,sizeLine_eq];lia
 refine Xf I.bX O c.sa c.po n.Xm c.hd wi hz λh' O' sb=>h _ ?_;have hd:∃o,h'.get? dx=some o:=let ⟨o,_,_,e',_⟩:=O'.ns;⟨o,e'⟩
 refine I.write (x:=a) (e:=dx) (by rw[e];exact True.intro) (.inr ho) (λb q hb z=>(sb.2 b hb).trans z) hd ?_
 refine⟨by rw[az O.ne];exact ho,?_,O.ne,O'.obj,_,O'.ns,λg=>?_,λg hg=>?_⟩
 ·have:=Lo f y fs;lia
 ·show fh ((f9 f y fs).lookup g) (if g=f then some u else mA g)
  rw[Ln];by_cases q:g=f
  ·rw[if_pos q,if_pos q];exact ry
  ·rw[if_neg q,if_neg q];exact r g
 ·by_cases q:g=f
  ·rw[q];exact(C5 f y fs).1
  ·refine(C5 f y fs).2 g (wi g λz=>hg ?_)
   show (if g=f then some u else mA g)=none
   rw[if_neg q];exact z
theorem Inv.made(I:Inv X pins σ H s):Inv X pins σ (upd (upd H s.heap.objs.size (.own (s.heap.objs.size+1))) (s.heap.objs.size+1) (.ins C s.heap.objs.size []))
  { s with heap:=(s.heap.push PySem.W.emptyDict).push (PySem.W.instObj C s.heap.objs.size)}:=by
 have e1:(s.heap.push PySem.W.emptyDict).get? s.heap.objs.size=some PySem.W.emptyDict:=Heap.get?_push_size s.heap rfl;have e2:((s.heap.push PySem.W.emptyDict).push (PySem.W.instObj C s.heap.objs.size)).get? (s.heap.objs.size+1)=some (PySem.W.instObj C s.heap.objs.size):=by
  have:=Heap.get?_push_size (s.heap.push PySem.W.emptyDict) (o:=PySem.W.instObj C s.heap.objs.size) rfl;rwa [Heap.size_push] at this
 have e3:(s.heap.push PySem.W.emptyDict).Ns s.heap.objs.size (λ_=>none):=⟨PySem.W.emptyDict,#[],_,e1,rfl,(λe he=>absurd he (by simp)),λ_=>rfl⟩
 have I1:=I.laid (a:=s.heap.objs.size) (o:=.own (s.heap.objs.size+1)) (h':=s.heap.push PySem.W.emptyDict) (t':=s.toks) (λb u q=>Heap.get?_push_of_some _ q) (Nat.le_refl _) ⟨_,e1⟩;refine I1.laid (a:=s.heap.objs.size+1) (o:=.ins C s.heap.objs.size []) (t':=s.toks) (λb u q=>Heap.get?_push_of_some _ q) (Nat.le_of_eq (Heap.size_push _ _)) ?_;have ne:s.heap.objs.size≠s.heap.objs.size+1:=Nat.ne_of_lt (Nat.lt_succ_self _);refine⟨by rw[az ne,aB],Nat.zero_le _,ne,e2,λ_=>none,(Heap.Ns1.of_empty e3).at λo q=>Heap.get?_push_of_some _ q,λ_=>True.intro,λy hy=>absurd rfl hy⟩
theorem Xp{prog:Program}{w:World}{env:Env}{e:Expr}{f:Str}{pos:Pos}{s:Shared}{Q:Value->Shared->Prop}(hb:attributeBase e f env (eval e env)=eval e env)
  (h:wpAny (model prog w) A (eval e env) (λo aP=>wpAny (model prog w) A (getAttr o f true) Q E aP) E s):wpAny (model prog w) A (eval (.Attribute e f pos) env) Q E s :=
 Attribute_any_ h (by rw[arm_eval_Attribute,hb])
end
noncomputable def Lq(K:PySem.W.Frag)(ta:TE)(f:Str):TE:=λσ H Q=>ta σ H λx H1=>∃a C dx fs v,x = .ref a/\H1 a=some (.ins C dx fs)/\bR K C/\bJ K C f/\fs.lookup f=some v/\Q v H1
noncomputable def Xq(K:PySem.W.Frag)(ta tv:TE)(f:Str):TS:=λD σ H=>tv σ H λy H1=>ta σ H1 λx H2=>∃a C dx fs,x = .ref a/\H2 a=some (.ins C dx fs)/\bR K C/\bJ K C f/\fs.length<1000/\
 D.nx σ (upd H2 a (.ins C dx (f9 f y fs)))
section
variable{X:Cx}{o e value:Expr}{f:Str}{pos pos' Xr:Pos}{ta tv:TE}
theorem bw(he:PE X e ta)(hb:attributeBase e f X.env (eval e X.env)=eval e X.env):PE X (.Attribute e f pos) (Lq X.K ta f):=by
 intro pins s σ H Q I h;refine Xp hb (aK (he pins s σ H _ I h) λu s1 ⟨x,H1,I1,rx,a,C,dx,fs,v,ex,ea,c,n,l,q⟩=>?_);subst ex;obtain rfl:u=Value.ref a:=rx;exact Xn I1 ea c n l λu' s2 I2 ru=>⟨v,H1,I2,ru,q⟩
theorem cB(ha:PE X o ta)(hv:PE X value tv)(hs:swapsWith value (some (.Attribute o f pos')) pos.line X.env=pure false):PS X (.Assign [.Attribute o f pos'] value pos) (Xq X.K ta tv f):=by
 intro pins s σ H D I h;refine plainObj_wpAny_Assign_Attribute (aK (hv pins s σ H _ I h) λu s1 ⟨y,H1,I1,ry,q⟩=>aK (ha pins s1 σ H1 _ I1 q) λov s2 ⟨x,H2,I2,rx,a,C,dx,fs,ex,ea,c,n,l,q2⟩=>?_) hs;subst ex;obtain rfl:ov=Value.ref a:=rx;exact Xo I2 ea c n l ry λs3 I3=>⟨σ,_,I3,q2⟩
end
section
variable{X:Cx}{pins:List (Addr×Obj)}{σ:St}{H:Hp}{s:Shared}{A:Around}{E:Value->Shared->Prop}{Q:Value->Shared->Prop}{c:Value}{b:Bool}
inductive gw (K:PySem.W.Frag) (H:Hp):V->Value->Prop where
 | aI:gw K H .aI (.type "NoneType")
 | bl (x:Bool):gw K H (.bl x) (.type "bool")
 | int (i:Int):gw K H (.int i) (.type "int")
 | str (x:Str):gw K H (.str x) (.type "str")
 | mY (x:UInt64):gw K H (.mY x) (.type "float")
 | lst {a:Addr} {xs:List V} (e:H a=some (.lst xs)):gw K H (.ref a) (.type "list")
 | bZ {a:Addr} {o:Obj} {xs:List V} (e:H a=some (.bZ o (.lst xs))):gw K H (.ref a) (.type "list")
 | tup {a:Addr} {xs:List V} (e:H a=some (.tup xs)):gw K H (.ref a) (.type "tuple")
 | dK {a:Addr} {kvs:List (Key×V)} (e:H a=some (.dK kvs)):gw K H (.ref a) (.type "dict")
 | dT {a:Addr} {kvs:List (List Key×V)} (e:H a=some (.dT kvs)):gw K H (.ref a) (.type "dict")
 | ins {a C dx:Addr} {fs:List (Str×V)} (e:H a=some (.ins C dx fs)) (cl:bR K C) (ha:PySem.W.findIn K (.ref C) "__class__" = some (some (.builtin "object.__class__")))
   (hn:PySem.W.specialIn K (.builtin "object.__class__") "__get__" = some (some (.builtin "getset_descriptor.__get__"))) (Lr:PySem.W.takesIn K (.builtin "object.__class__")=some true)
   (hm:PySem.W.mroIn K C (.type "object")=some true):gw K H (.ref a) (.ref C)
theorem Xs{x:V}{u t:Value}(I:Inv X pins σ H s)(rx:RelV x u)(ty:gw X.K H x t)(e:PySem.W.kitOne X.K t c=some b)(h:∀tk,Q (.bool b) { s with toks:=tk }) :
  wpAny (model X.prog X.w) A (call (.builtin "isinstance") [u,c]) Q E s:=by
 cases ty with
 | aI=>cases (show u=Value.none from rx);exact PySem.W.kia_one PySem.W.kitx_none I.bX True.intro e (λz=>nomatch z) h
 | bl y=>cases (show u=Value.bool y from rx);exact PySem.W.kia_one PySem.W.kitx_bool I.bX True.intro e (λz=>nomatch z) h
 | int i=>obtain⟨t,q⟩:=(show ∃t,u=Value.int i t from rx);cases q;exact PySem.W.kia_one PySem.W.kitx_int I.bX True.intro e (λz=>nomatch z) h
 | str y=>obtain⟨t,q⟩:=(show ∃t,u=Value.str y t from rx);cases q;exact PySem.W.kia_one PySem.W.kitx_str I.bX True.intro e (λz=>nomatch z) h
 | mY y=>obtain⟨t,q⟩:=(show ∃t,u=Value.float y t from rx);cases q;exact PySem.W.kia_one PySem.W.kitx_float I.bX True.intro e (λz=>nomatch z) h
 | @lst a xs ea =>
  cases (show u=Value.ref a from rx);obtain⟨_,_,n,_,h1⟩:=(show cL X.prog X.w H s.heap a (.lst xs) from I.aD a _ ea);exact PySem.W.kia_one PySem.W.kitx_list I.bX ⟨_,h1,rfl⟩ e (λz=>nomatch z) h
 | @bZ a ob xs ea =>
  cases (show u=Value.ref a from rx);obtain⟨_,_,_,n,_,h1⟩:=(show cL X.prog X.w H s.heap a (.bZ ob (.lst xs)) from I.aD a _ ea);exact PySem.W.kia_one PySem.W.kitx_list I.bX ⟨_,h1,rfl⟩ e (λz=>nomatch z) h
 | @tup a xs ea =>
  cases (show u=Value.ref a from rx);obtain⟨_,_,_,p⟩:=(show cL X.prog X.w H s.heap a (.tup xs) from I.aD a _ ea);obtain⟨o,h1,h2,_⟩:=p;exact PySem.W.kia_one PySem.W.kitx_tuple I.bX ⟨o,h1,h2⟩ e (λz=>nomatch z) h
 | @dK a kvs ea =>
  cases (show u=Value.ref a from rx);obtain⟨_,_,vs,_,p⟩:=(show cL X.prog X.w H s.heap a (.dK kvs) from I.aD a _ ea);obtain⟨o,es,ep,h1,h2,_⟩:=p;exact PySem.W.kia_one PySem.W.kitx_dict I.bX ⟨o,h1,h2.1⟩ e (λz=>nomatch z) h
 | @dT a kvs ea =>
  cases (show u=Value.ref a from rx);obtain⟨_,_,xs,_,o,es,ep,h1,h2,_⟩:=(show cL X.prog X.w H s.heap a (.dT kvs) from I.aD a _ ea);exact PySem.W.kia_one PySem.W.kitx_dict I.bX ⟨o,h1,h2.1⟩ e (λz=>nomatch z) h
 | @ins a C dx fs ea cl ha hn Lr hm =>
  cases (show u=Value.ref a from rx);obtain⟨mA,O,_⟩:=vP I.aD ea;obtain⟨od,J,_⟩:=O.look;exact PySem.W.kia_one (PySem.W.kitx_own (cl.get _) cl.hd ha hn Lr hm) I.bX J e (λz=>nomatch z) h
end
structure bN(k:Nat)(A:Around):Prop where
 hd:A.handled=none
 dp:A.depth+3*k+5<recursionLimit
 un:A.units+16*k+200<cLine
theorem bN.mono{j k:Nat}{A:Around}(r:bN k A)(h:j<=k):bN j A:=⟨r.hd,by have:=r.dp;lia,by have:=r.un;lia⟩
theorem bN.deeper{k:Nat}{A:Around}(r:bN (k+1) A)(env:Env):bN k (A.deeper env) :=
 ⟨r.hd,by have:=r.dp;show A.depth+1+3*k+5<_;lia,by have:=r.un;show A.units+3+16*k+200<_;lia⟩
theorem bN.in1{k:Nat}{A:Around}(r:bN (k+1) A):bN k A.in1 :=
 ⟨r.hd,by have:=r.dp;show A.depth+3*k+5<_;lia,by have:=r.un;show A.units+1+16*k+200<_;lia⟩
theorem Xu{A:Around}{C:Addr}{us:List Value}{kw:List (Str×Value)}:(A.under (.builtin "type.__call__" ⟨.ref C::us,kw⟩)).depth=A.depth+1:=by
 first | rfl | simp[Around.under,Code.weight,Code.isCreation,Code.isGuard,Code.isCaller,Code.frames,Code.isFrame,guardIds]
theorem Xv{A:Around}{C:Addr}{us:List Value}{kw:List (Str×Value)}:(A.under (.builtin "type.__call__" ⟨.ref C::us,kw⟩)).units=A.units+1:=by
 first | rfl | simp[Around.under,Code.cUnits,Code.frames,Code.isFrame]
theorem bN.make{k:Nat}{A:Around}(r:bN (k+1) A)(C:Addr)(us:List Value)(kw:List (Str×Value)):bN k (A.under (.builtin "type.__call__" ⟨.ref C::us,kw⟩)) :=
 ⟨r.hd,by have:=r.dp;rw[Xu];lia,by have:=r.un;rw[Xv];lia⟩
theorem bN.depth{k:Nat}{A:Around}(r:bN k A):A.depth<recursionLimit:=by have:=r.dp;lia
theorem bN.units{k:Nat}{A:Around}(r:bN k A):A.units+64<cLine:=by have:=r.un;lia
noncomputable def vQ:TA:=λ_ H Q=>Q [] H
noncomputable def Xw(ta:TE)(tr:TA):TA:=λσ H Q=>ta σ H λx H1=>tr σ H1 λxs H2=>Q (x::xs) H2
section
variable{X:Cx}{e:Expr}{es:List Expr}{te:TE}{t:TA}{pos:Pos}
theorem ao:PA X [] vQ:=λ_ _ _ _ H Q I h=>Calls.spliced_nil ⟨[],H,I,.nil,h⟩
theorem aa(ha:PE X e te)(hr:PA X es t)(hs:starEach (e::es) X.env=(false,eval e X.env)::starEach es X.env:=by rfl):PA X (e::es) (Xw te t):=by
 intro pos pins s σ H Q I h;rw[hs]
 show wpAny _ _ (spliced ((false,eval e X.env)::backTo pos (starEach es X.env))) _ _ s;refine Calls.spliced_cons (aK (ha pins s σ H _ I h) λu s1 ⟨x,H1,I1,r1,q1⟩=>?_);exact aK (hr pos pins s1 σ H1 _ I1 q1) λus s2 ⟨xs,H2,I2,r2,q2⟩=>⟨x::xs,H2,I2,.cons r1 r2,q2⟩
noncomputable def Xx(t:TA):TE:=λσ H Q=>t σ H λxs H1=>xs.length<=sizeLine/\∀p,H1 p=none->Q (.ref p) (upd H1 p (.tup xs))
noncomputable def Xy(t:TA):TE:=λσ H Q=>t σ H λxs H1=>xs.length<=sizeLine/\∀p,H1 p=none->Q (.ref p) (upd H1 p (.lst xs))
theorem fH{x1}(h:PA X es t):PE X (.Tuple es x1 pos) (Xx t):=by
 intro pins s σ H Q I hq;refine wpAny_Tuple_spliced (aK (h pos pins s σ H _ I hq) λus s1 ⟨xs,H1,I1,r,z,q⟩=>⟨by rw[← r.length];exact z,?_⟩)
 have hf:H1 s1.heap.objs.size=none:=I1.aD.fresh (Nat.le_refl _);refine⟨.ref s1.heap.objs.size,upd H1 s1.heap.objs.size (.tup xs),I1.laid (t':=s1.toks) (λb u e=>Heap.get?_push_of_some _ e) (Nat.le_refl _) ?_,rfl,q _ hf⟩;exact⟨z,us,r,⟨_,Heap.get?_push_size _ rfl,rfl,_,rfl⟩⟩
theorem dR(h:PA X es t):PE X (.List es pos) (Xy t):=by
 intro pins s σ H Q I hq;refine wpAny_List_spliced (aK (h pos pins s σ H _ I hq) λus s1 ⟨xs,H1,I1,r,z,q⟩=>⟨by rw[← r.length];exact z,?_⟩)
 have hf:H1 s1.heap.objs.size=none:=I1.aD.fresh (Nat.le_refl _);refine⟨.ref s1.heap.objs.size,upd H1 s1.heap.objs.size (.lst xs),I1.laid (t':=s1.toks) (λb u e=>Heap.get?_push_of_some _ e) (Nat.le_refl _) ?_,rfl,q _ hf⟩;exact⟨z,us,0,r,Heap.get?_push_size _ rfl⟩
end
noncomputable abbrev Sp:=List V->Hp->VK->XK->Prop
noncomputable abbrev f_:=List Env->Hp->Shared->XK->Value->Shared->Prop
structure k9(P:Program)(w:World)(K:PySem.W.Frag)(mg:Str->Option Value)(base:Heap)(A:Around)(outer:List Env)(s:Shared)(H:Hp):Prop where
 frames:A.frames=some outer
 mod:Mod K mg base
 bs:∀b o,base.get? b=some o->s.heap.get? b=some o/\H b=none
 iu:base.objs.size<=s.heap.objs.size
 fX:s.heap.FunFrames base outer
 i8:∀b∈cg outer,H b=none
 aD:b_ P w H s.heap
 bare:AllBare s.gens
noncomputable def CE(outer:List Env)(P:Program)(w:World)(H:Hp)(s:Shared)(Q:VK)(u:Value)(s':Shared):Prop :=
 ∃v H',s'.os=s.os/\AllBare s'.gens/\Un (cg outer) [] H H' s.heap s'.heap/\b_ P w H' s'.heap/\RelV v u/\Q v H'
noncomputable def CR(CX:f_)(outer:List Env)(P:Program)(w:World)(H:Hp)(s:Shared)(Q:VK)(E:XK)(r:Result)(s':Shared):Prop :=
 match r with
 | .ok (.ret u)=>CE outer P w H s Q u s'
 | .ok _=>False
 | .error e=>CX outer H s E e s'
structure aO(P:Program)(w:World)(K:PySem.W.Frag)(mg:Str->Option Value)(base:Heap)(CX:f_)(k:Nat)(f:Addr)(fd:FuncData)(ps:List Str)(sp:Sp):Prop where
 len:∀vs H Q E,sp vs H Q E->vs.length=ps.length
 run:∀(A:Around) (outer:List Env) (s:Shared) (H:Hp) (args:Args) (us:List Value) (vs:List V) (Q:VK) (E:XK),bN k A->k9 P w K mg base A outer s H->BindsTo s fd args (ps.zip us)->Vals vs us->sp vs H Q E->
  codeAny (model P w) A (.call (.ref f) args) (CR CX outer P w H s Q E) s
theorem k9.make{P:Program}{w:World}{K:PySem.W.Frag}{mg:Str->Option Value}{base:Heap}{A:Around}{outer:List Env}{s:Shared}{H:Hp}(e:k9 P w K mg base A outer s H)(C:Addr)(us:List Value)(kw:List (Str×Value)) :
  k9 P w K mg base (A.under (.builtin "type.__call__" ⟨.ref C::us,kw⟩)) outer s H:=⟨by first | exact e.frames | (simpa[Around.under,Code.envs,Code.isFrame,pushEnvs] using e.frames),e.mod,e.bs,e.iu,e.fX,e.i8,e.aD,e.bare⟩
section
variable{X:Cx}{pins:List (Addr×Obj)}{σ:St}{H:Hp}{s s':Shared}
theorem Inv.vR(I:Inv X pins σ H s):k9 X.prog X.w X.K X.mg X.base X.A X.stack s H :=
 ⟨I.ok.frames,I.ok.mod,I.bs,Nat.le_trans I.ok.iu I.sz,I.stack,I.vp,I.aD,I.bare⟩
theorem Inv.after{Q:VK}{u:Value}(I:Inv X pins σ H s)(h:CE X.stack X.prog X.w H s Q u s'):EP X pins σ Q u s':=by
 obtain⟨v,H',os,bare,un,aD,r,q⟩:=h;obtain⟨hh,g,d,t,Xz⟩:=s';obtain rfl:Xz=s.os:=os;exact⟨v,H',I.call (h':=hh) (g':=g) (d':=d) (t':=t) (ch:=[]) un aD bare (λb z=>absurd z (by simp)),r,q⟩
end
noncomputable def C6(sp:Sp)(cC:List V)(E:XK)(t:TA):TE:=λσ H Q=>t σ H λvs H1=>sp (vs++cC) H1 Q E
noncomputable def Ls(C:Addr)(m:Str)(sp:Sp)(cC:List V)(E:XK)(ta:TE)(t:TA):TE:=λσ H Q=>ta σ H λx H1=>∃a dx fs,x = .ref a/\H1 a=some (.ins C dx fs)/\fs.lookup m=none/\
 t σ H1 λvs H2=>sp (x::(vs++cC)) H2 Q E
noncomputable def XA(C:Addr)(sp:Sp)(cC:List V)(E:XK)(t:TA):TE:=λσ H Q=>t σ H λvs H1=>∀x dx,H1 x=none->H1 dx=none->dx≠x->
 sp (.ref x::(vs++cC)) (upd (upd H1 dx (.own x)) x (.ins C dx [])) (λv H2=>v = .aI/\Q (.ref x) H2) E
noncomputable def Binds(K:PySem.W.Frag)(fd:FuncData)(ps:List Str)(ds:List Value):Prop :=
 ∀(s:Shared) (us:List Value),K.In s.heap->(us++ds).length=ps.length->BindsTo s fd ⟨us,[]⟩ (ps.zip (us++ds))
theorem Binds.all{K:PySem.W.Frag}{fd:FuncData}{ps:List Str}(h:∀us:List Value,us.length=ps.length->bindArgs fd ⟨us,[]⟩=pure (ps.zip us)):Binds K fd ps []:=λs us _ hl=>by
 rw[List.append_nil] at hl ⊢;exact .of_eq (h us hl)
noncomputable def Passes(CX:f_)(X:Cx)(E:XK):Prop:=∀(pins:List (Addr×Obj)) (σ:St) (H:Hp) (s:Shared) (e:Value) (s':Shared),Inv X pins σ H s->CX X.stack H s E e s'->X.xe e s'
section
variable{X:Cx}{CX:f_}{k:Nat}{f C:Addr}{fd:FuncData}{ps:List Str}{sp:Sp}{cC:List V}{ds:List Value}{E:XK}{x m:Str}{p pos apos:Pos}{e o:Expr}{es:List Expr}{ta:TE}{t:TA}
theorem k_{pins:List (Addr×Obj)}{σ:St}{H:Hp}{s:Shared}{Q:VK}{us:List Value}{vs:List V}(F:aO X.prog X.w X.K X.mg X.base CX k f fd ps sp)(hr:bN k X.A)(hb:Binds X.K fd ps ds)(hd:Vals cC ds)(hx:Passes CX X E)
  (I:Inv X pins σ H s) (r:Vals vs us) (h:sp (vs++cC) H Q E):wpAny (model X.prog X.w) X.A (call (.ref f) us) (EP X pins σ Q) X.xe s:=by
 have r2:Vals (vs++cC) (us++ds):=r.append hd;have hl:(us++ds).length=ps.length:=by rw[← r2.length];exact F.len _ _ _ _ h
 refine wpAny_call (codeAny_mono (F.run X.A X.stack s H ⟨us,[]⟩ (us++ds) (vs++cC) Q E hr I.vR (hb s us I.bX hl) r2 h) λr s' hq=>?_);cases r with
 | error e=>exact hx pins σ H s e s' I hq
 | ok fl =>
  cases fl with
  | ret u=>exact I.after hq
  | next=>exact False.elim hq
  | brk=>exact False.elim hq
  | cont=>exact False.elim hq
theorem aZ(F:aO X.prog X.w X.K X.mg X.base CX k f fd ps sp)(hr:bN k X.A)(hg:Gl X x)(hm:X.mg x=some (.ref f))(hk:PySem.W.keepIn X.K (.ref f)=true)(hb:Binds X.K fd ps ds)(hd:Vals cC ds)(hx:Passes CX X E)
  (ha:PA X (e::es) t) (gb:(x == ("__debug__" : Str))=false:=by decide) (he:starEach (e::es) X.env=(false,eval e X.env)::starEach es X.env:=by rfl) (dZ:(backTo pos (starEach es X.env)).any (·.1)=false:=by rfl) :
  PE X (.Call (.Name x p) (e::es) [] pos) (C6 sp cC E t):=by
 intro pins s σ H Q I h;refine wpAny_Call_Name_kw (lP I hg hm ?_ gb);refine PySem.W.callWith_K (h₀:=X.base) I.ok.mod.i7 hk (aK (ha pos pins s σ H _ I h) λus s1 ⟨vs,H1,I1,r,q⟩=>⟨I1.bX,?_⟩) he dZ;exact k_ F hr hb hd hx I1 r q
theorem Lu{pl:Sem Bool}(he:PE X o ta)(c:bR X.K C)(hm:Meth X.K C m f)(F:aO X.prog X.w X.K X.mg X.base CX k f fd ps sp)(hr:bN k X.A)(hb:Binds X.K fd ps ds)(hd:Vals cC ds)(hx:Passes CX X E)(ha:PA X (e::es) t)
  (fF:starEach (e::es) X.env=(false,eval e X.env)::starEach es X.env:=by rfl) (dZ:(backTo pos (starEach es X.env)).any (·.1)=false:=by rfl)
  (ht:eval (.Call (.Attribute o m apos) (e::es) [] pos) X.env=(do
   let ov ← eval o X.env
   standAt apos.atName
   let (f,first) ← holding [ov] (getMethod ov m pl)
   callWith pos f first (backTo pos (starEach (e::es) X.env)) (backToKw pos (keywordEach [] X.env))):=by rfl) :
  PE X (.Call (.Attribute o m apos) (e::es) [] pos) (Ls C m sp cC E ta t):=by
 intro pins s σ H Q I h;refine PySem.W.methodCall_KW (pl:=pl) (aK (he pins s σ H _ I h) λu s1 ⟨x,H1,I1,rx,a,dx,fs,ex,ea,l,q⟩=>?_) ht;subst ex;obtain rfl:u=Value.ref a:=rx;refine lY I1 ea c hm l ?_;refine PySem.W.callWith_K (first:=[.ref a]) (h₀:=X.base) I.ok.mod.i7 hm.kp (aK (ha pos pins s1 σ H1 _ I1 q) λus s2 ⟨vs,H2,I2,r,q2⟩=>⟨I2.bX,?_⟩) fF dZ
 exact k_ (us:=.ref a::us) (vs:=.ref a::vs) F hr hb hd hx I2 (.cons rfl r) q2
theorem Lv{pl:Sem Bool}(he:PE X o ta)(c:bR X.K C)(hm:Meth X.K C m f)(F:aO X.prog X.w X.K X.mg X.base CX k f fd ps sp)(hr:bN k X.A)(hb:Binds X.K fd ps ds)(hd:Vals cC ds)(hx:Passes CX X E)
  (ht:eval (.Call (.Attribute o m apos) [] [] pos) X.env=(do
   let ov ← eval o X.env
   standAt apos.atName
   let (f,first) ← holding [ov] (getMethod ov m pl)
   callWith pos f first (backTo pos (starEach [] X.env)) (backToKw pos (keywordEach [] X.env))):=by rfl) :
  PE X (.Call (.Attribute o m apos) [] [] pos) (Ls C m sp cC E ta vQ):=by
 intro pins s σ H Q I h;refine PySem.W.methodCall_KW (pl:=pl) (aK (he pins s σ H _ I h) λu s1 ⟨x,H1,I1,rx,a,dx,fs,ex,ea,l,q⟩=>?_) ht;subst ex;obtain rfl:u=Value.ref a:=rx;refine lY I1 ea c hm l ?_;exact PySem.W.callWith_K0 (first:=[.ref a]) I1.bX hm.kp (k_ (us:=[.ref a]) (vs:=[.ref a]) F hr hb hd hx I1 (.cons rfl .nil) q)
structure Mk(K:PySem.W.Frag)(C f:Addr):Prop where
 makes:PySem.W.makesIn K C=true
 init:PySem.W.findIn K (.ref C) "__init__" = some (some (.ref f))
 fn:PySem.W.isFn K (.ref f)=true
 kp:PySem.W.keepIn K (.ref C)=true
theorem XC{pins:List (Addr×Obj)}{σ:St}{H:Hp}{s:Shared}{Q:VK}{us:List Value}{vs:List V}(M:Mk X.K C f)(F:aO X.prog X.w X.K X.mg X.base CX k f fd ps sp)(hr:bN (k+1) X.A)(hb:Binds X.K fd ps ds)(hd:Vals cC ds)
  (hx:Passes CX X E) (I:Inv X pins σ H s) (r:Vals vs us)
  (h:∀x dx,H x=none->H dx=none->dx≠x->sp (.ref x::(vs++cC)) (upd (upd H dx (.own x)) x (.ins C dx [])) (λv H2=>v = .aI/\Q (.ref x) H2) E) :
  wpAny (model X.prog X.w) X.A (call (.ref C) us) (EP X pins σ Q) X.xe s:=by
 have hq:=h (s.heap.objs.size+1) s.heap.objs.size (I.aD.fresh (Nat.le_succ _)) (I.aD.fresh (Nat.le_refl _)) (Nat.ne_of_lt (Nat.lt_succ_self _));have I2:=Inv.made (C:=C) I;have r2:Vals (V.ref (s.heap.objs.size+1)::(vs++cC)) (Value.ref (s.heap.objs.size+1)::(us++ds)):=.cons rfl (r.append hd);have hl:(Value.ref (s.heap.objs.size+1)::us++ds).length=ps.length:=by
  have e:=r2.length;rw[F.len _ _ _ _ hq] at e;exact e.symm
 refine wpAny_call (Xj (f:=f) I.bX M.makes M.init (beq_iff_eq.mp M.fn) (codeAny_mono (F.run _ X.stack _ _ ⟨Value.ref (s.heap.objs.size+1)::us,[]⟩ (Value.ref (s.heap.objs.size+1)::(us++ds)) _ _ E (hr.make C us [])
  (I2.vR.make C us []) (hb _ (Value.ref (s.heap.objs.size+1)::us) I2.bX hl) r2 hq) λr s' iy=>?_))
 cases r with
 | error e=>exact hx pins σ _ _ e s' I2 iy
 | ok fl =>
  cases fl with
  | ret u =>
   obtain⟨v,H',I3,rv,ev,q3⟩:=I2.after iy;subst ev;exact⟨rv,⟨V.ref (s.heap.objs.size+1),H',I3,rfl,q3⟩⟩
  | next=>exact False.elim iy
  | brk=>exact False.elim iy
  | cont=>exact False.elim iy
theorem nI(M:Mk X.K C f)(F:aO X.prog X.w X.K X.mg X.base CX k f fd ps sp)(hr:bN (k+1) X.A)(hg:Gl X x)(hm:X.mg x=some (.ref C))(hb:Binds X.K fd ps ds)(hd:Vals cC ds)(hx:Passes CX X E)
  (ha:PA X (e::es) t) (gb:(x == ("__debug__" : Str))=false:=by decide) (he:starEach (e::es) X.env=(false,eval e X.env)::starEach es X.env:=by rfl) (dZ:(backTo pos (starEach es X.env)).any (·.1)=false:=by rfl) :
  PE X (.Call (.Name x p) (e::es) [] pos) (XA C sp cC E t):=by
 intro pins s σ H Q I h;refine wpAny_Call_Name_kw (lP I hg hm ?_ gb);refine PySem.W.callWith_K (h₀:=X.base) I.ok.mod.i7 M.kp (aK (ha pos pins s σ H _ I h) λus s1 ⟨vs,H1,I1,r,q⟩=>⟨I1.bX,?_⟩) he dZ;exact XC M F hr hb hd hx I1 r q
end
noncomputable def PK(X:Cx)(Lw:List Keyword)(t:TA):Prop :=
 ∀(pos:Pos) (pins:List (Addr×Obj)) (s:Shared) (σ:St) (H:Hp) (Q:List V->Hp->Prop),Inv X pins σ H s->t σ H Q->wpAny (model X.prog X.w) X.A (evalAll ((backToKw pos (keywordEach Lw X.env)).map (·.2))) (AP X pins σ Q) X.xe s
section
variable{X:Cx}{CX:f_}{k:Nat}{f C:Addr}{fd:FuncData}{ps ks:List Str}{sp:Sp}{E:XK}{x m:Str}{p pos apos ajq:Pos}{e o:Expr}{es:List Expr}{Lw:List Keyword}{te ta:TE}{t tk:TA}{nm:Option Str}
variable{g:List Value->List Value->List Value}{gV:List V->List V->List V}
end
structure aW(N P:List Str)(sc:Scope):Prop where
 kind:sc.kind = .function
 co:sc.isCoroutine=false
 gen:sc.isGenerator=false
 nd:N.Nodup
 pre:N.take P.length=P
 par:∀x∈P,sc.names.lookup x=some .local\/sc.names.lookup x=some .cell
 XD:∀y∈sc.names,y.2≠.free
theorem Lx{kindOf:Str->Option NameKind}{x:Str}:∀ {binds:List (Str×Value)} {m:Str->Option Value},(∀v,(x,v)∉binds)->bindL kindOf binds m x=m x
 | [],_,_=>rfl
 | (n,v)::r,m,h=>by
  unfold bindL;rw[Lx λw hw=>h w (List.mem_cons_of_mem _ hw)];split
  ·have:x≠n:=by rintro rfl;exact h v List.mem_cons_self
   simp[this]
  ·rfl
theorem Ly{kindOf:Str->Option NameKind}{x:Str}:∀ {binds:List (Str×Value)} {m:Str->Option Value},(∀v,(x,v)∉binds)->bindC kindOf binds m x=m x
 | [],_,_=>rfl
 | (n,v)::r,m,h=>by
  unfold bindC;rw[Ly λw hw=>h w (List.mem_cons_of_mem _ hw)];split
  ·rfl
  ·have:x≠n:=by rintro rfl;exact h v List.mem_cons_self
   simp[this]
theorem Lz{kindOf:Str->Option NameKind}{x:Str}{v:Value}:∀ {P:List Str} {vs:List Value} {i:Nat} {m:Str->Option Value},P.Nodup->P[i]? = some x->vs[i]? = some v->kindOf x=some .local->
  bindL kindOf (P.zip vs) m x=some v
 | [],_,_,_,_,h,_,_=>by simp at h
 | _::_,[],_,_,_,_,h,_=>by simp at h
 | p::P,w::vs,0,m,nd,h1,h2,hk=>by
  simp at h1 h2;subst h1;subst h2
  show bindL kindOf ((p,w)::P.zip vs) m p=_;unfold bindL;rw[Lx λv hv=>(List.nodup_cons.mp nd).1 (List.of_mem_zip hv).1,if_pos hk];simp
 | p::P,w::vs,i+1,m,nd,h1,h2,hk=>by
  show bindL kindOf ((p,w)::P.zip vs) m x=_;unfold bindL;exact Lz (i:=i) (List.nodup_cons.mp nd).2 (by simpa using h1) (by simpa using h2) hk
theorem LA{kindOf:Str->Option NameKind}{x:Str}{v:Value}:∀ {P:List Str} {vs:List Value} {i:Nat} {m:Str->Option Value},P.Nodup->P[i]? = some x->vs[i]? = some v->kindOf x≠some .local->
  bindC kindOf (P.zip vs) m x=some v
 | [],_,_,_,_,h,_,_=>by simp at h
 | _::_,[],_,_,_,_,h,_=>by simp at h
 | p::P,w::vs,0,m,nd,h1,h2,hk=>by
  simp at h1 h2;subst h1;subst h2
  show bindC kindOf ((p,w)::P.zip vs) m p=_;unfold bindC;rw[Ly λv hv=>(List.nodup_cons.mp nd).1 (List.of_mem_zip hv).1,if_neg hk];simp
 | p::P,w::vs,i+1,m,nd,h1,h2,hk=>by
  show bindC kindOf ((p,w)::P.zip vs) m x=_;unfold bindC;exact LA (i:=i) (List.nodup_cons.mp nd).2 (by simpa using h1) (by simpa using h2) hk
noncomputable def start(N:List Str)(vs:List V):St:=vs.map some++List.replicate (N.length - vs.length) none
noncomputable def gz(CX:f_)(P:Program)(w:World)(K:PySem.W.Frag)(mg:Str->Option Value)(base:Heap)(N:List Str)(qual:Str)(scope:Scope)(f:Addr)(cd:Value)(A:Around)(outer:List Env)(s:Shared)(H:Hp)(E:XK):Cx where
 prog:=P
 w:=w
 K:=K
 mg:=mg
 base:=base
 A:=A.deeper (envOfC qual scope s.heap.objs.size f cd)
 N:=N
 bx:=s
 cY:=H
 env:=envOfC qual scope s.heap.objs.size f cd
 outer:=outer
 stack:=envOfC qual scope s.heap.objs.size f cd::outer
 ex:=[]
 calm:=true
 fn:=λ_=>true
 pn:=[]
 xe:=λe s'=>wpAny (model P w) (A.deeper (envOfC qual scope s.heap.objs.size f cd)) (leaving (envOfC qual scope s.heap.objs.size f cd) e) (λ_ gA=>CX outer H s E e gA) (λe' gA=>CX outer H s E e' gA) s'
theorem LB{sc:Scope}{n:Nat}{x:Str}(h:sc.names.lookup x=some .cell):∃c,(cellsFrom n sc.names []).lookup x=some c:=by
 have q:=PySem.W.cellsFrom_some sc.names n [] (.inl h);exact Option.isSome_iff_exists.mp q
theorem LC{CX:f_}{P:Program}{w:World}{K:PySem.W.Frag}{mg:Str->Option Value}{base:Heap}{N ps:List Str}{qual:Str}{scope:Scope}{f:Addr}{cd:Value}{A:Around}{outer:List Env}{s s1:Shared}{H:Hp}{E:XK}{us:List Value}{vs:List V}
  (S:aW N ps scope) (hd:A.handled=none) (e0:k9 P w K mg base A outer s H) (hl:vs.length=ps.length) (r:Vals vs us)
  (x:InCallC s s.heap.objs.size (bindL (envOfC qual scope s.heap.objs.size f cd).kindOf (ps.zip us) λ_=>none) (cellsFrom (s.heap.objs.size+1) scope.names []) (bindC (envOfC qual scope s.heap.objs.size f cd).kindOf (ps.zip us) λ_=>none) s1) :
  Inv (gz CX P w K mg base N qual scope f cd A outer s H E) [] (start N vs) H s1:=by
 have dZ:ps.length<=N.length:=by have:=congrArg List.length S.pre;rw[List.length_take] at this;lia
 obtain⟨h1,tk,rfl,hk⟩:=x.done;have rP:∀b:Addr,b∉(gz CX P w K mg base N qual scope f cd A outer s H E).ex:=λb z=>absurd (show b∈([]:List Addr) from z) (by simp)
 refine⟨⟨e0.mod,S.kind,rfl,rfl,Nat.le_refl _,λy z c h1 h2=>?_,λy hy=>?_,λy c _ h=>?_,λ_=>hd,Around.frames_deeper e0.frames,.inr ⟨rfl,rfl⟩,λb z=>absurd z (rP b),e0.bs,e0.iu,λb _ _=>rP b,λb z=>absurd z (rP b),e0.fX,e0.i8⟩,
  rfl,e0.bare,Un.kept hk,⟨_,x.toInCall.ns,λi y v h1 h2 h3=>?_⟩,λy c h=>⟨_,x.cell y c h⟩,e0.aD.fresh (Nat.le_refl _),λy c h=>?_,λp hp=>absurd (show p∈([]:List (Addr×Obj)) from hp) (by simp),e0.aD.kept hk,?_⟩
 ·exact name_of_addr x.apart (PySem.mem_of_lookup h1) (PySem.mem_of_lookup h2)
 ·have hy:scope.names.lookup y=some .cell\/scope.names.lookup y=some .free:=hy;rcases hy with hy | hy
  ·exact LB hy
  ·exact absurd rfl (S.XD _ (PySem.mem_of_lookup hy))
 ·exact Nat.le_of_lt (x.above y c (PySem.mem_of_lookup h))
 ·have hi:i<vs.length:=by
   unfold start at h2;by_cases hi:i<vs.length
   ·exact hi
   ·rw[List.getElem?_append_right (by simpa using hi)] at h2
    rw[List.getElem?_replicate] at h2;split at h2 <;> cases h2
  have ha:vs[i]? = some v:=by
   unfold start at h2;rw[List.getElem?_append_left (by simpa using hi),List.getElem?_map] at h2
   cases e:vs[i]? with
   | none=>rw[e] at h2;cases h2
   | some a=>rw[e] at h2;cases h2;rfl
  obtain⟨u,hu,rv⟩:=r.get ha;have hp:ps[i]? = some y:=by
   rw[← S.pre,List.getElem?_take_of_lt (by lia)];exact h1
  have LD:ps.Nodup:=by rw[← S.pre];exact S.nd.sublist (List.take_sublist _ _)
  refine⟨u,rv,?_⟩;rcases S.par y (List.mem_of_getElem? hp) with k | k
  ·exact .inl ⟨k,Lz LD hp hu k⟩
  ·obtain⟨c,e⟩:=LB (n:=s.heap.objs.size+1) k;refine .inr ⟨.inl k,c,e,?_⟩;have q:=x.cell y c e;rw[LA LD hp hu (by show scope.names.lookup y≠_;rw[k];decide)] at q
   exact q
 ·exact e0.aD.fresh (Nat.le_of_lt (x.above y c (PySem.mem_of_lookup h)))
 ·unfold start
  show _=N.length;rw[List.length_append,List.length_map,List.length_replicate];lia
theorem vU{CX:f_}{P:Program}{w:World}{K:PySem.W.Frag}{mg:Str->Option Value}{base:Heap}{k:Nat}{f:Addr}{name qual:Str}{params:Arguments}{body:List Stmt}{scope:Scope}{dV kV doc pm aH ct oc:Value}{an od:Option Addr}
  {gc:Array (Option Value)} {N ps:List Str} {sp:Sp} (lk:K.lookup f=some ⟨oc,od,.func (PySem.W.fnOf name qual params body scope dV kV doc pm an aH ct),gc⟩) (cV:PySem.W.codeIn K aH qual=true) (S:aW N ps scope)
  (len:∀vs H Q E,sp vs H Q E->vs.length=ps.length)
  (jD:∀(A:Around) (outer:List Env) (s:Shared) (H:Hp) (vs:List V) (Q:VK) (E:XK),bN k (A.deeper (envOfC qual scope s.heap.objs.size f aH))->sp vs H Q E->
   ∃t,eZ (gz CX P w K mg base N qual scope f aH A outer s H E) body t/\t { nx:=λ_ H'=>Q .aI H',rt:=Q } (start N vs) H) :
  aO P w K mg base CX (k+1) f (PySem.W.fnOf name qual params body scope dV kV doc pm an aH ct) ps sp:=by
 refine⟨len,λA outer s H args us vs Q E hr e0 hb r eO=>?_⟩;have hl:=len _ _ _ _ eO;have KX:K.In s.heap:=e0.mod.i7.keeps λb o e=>(e0.bs b o e).1;have lim:s.heap.NoLimit:=e0.mod.nolimit.keeps λb o e=>(e0.bs b o e).1;have XE:∀y∈ps.zip us,scope.names.lookup y.1=some .local\/(scope.names.lookup y.1=some .cell/\((cellsFrom (s.heap.objs.size+1) scope.names []).lookup y.1).isSome=true):=λ⟨n,v⟩ hy=>by
  rcases S.par n (List.of_mem_zip hy).1 with q | q
  ·exact .inl q
  ·exact .inr ⟨q,PySem.W.cellsFrom_some _ _ _ (.inl q)⟩
 refine codeAny_call_function hr.depth (KX _ _ lk) rfl S.co S.gen rfl (PySem.W.codeRec_of KX cV) (hb _ _ _ _ ?_);refine wpAny_newFunctionEnv_cells S.kind XE λenv he s1 x=>?_;subst he;refine⟨lim.keeps x.toInCall.keep,codeAny_func ?_⟩;obtain⟨t,ht,hq⟩:=jD A outer s H vs Q E (hr.deeper _) eO;have I:Inv (gz CX P w K mg base N qual scope f aH A outer s H E) [] (start N vs) H s1:=LC S hr.hd e0 hl r x;refine wpAny_mono (ht [] s1 (start N vs) H _ I hq) (λfl s' hs=>?_) λe s' hs=>hs;have fin:∀ {aQ:St} {H':Hp} {v:V} {u:Value},Inv (gz CX P w K mg base N qual scope f aH A outer s H E) [] aQ H' s'->RelV v u->Q v H'->CE outer P w H s Q u s' :=
  λ{aQ H' v u} J rv q=>⟨v,H',J.os,J.bare,J.base,J.aD,rv,q⟩
 cases fl with
 | ret u =>
  obtain⟨v,aQ,H',J,rv,q⟩:=hs;exact fin J rv q
 | next =>
  obtain⟨aQ,H',J,q⟩:=hs;exact fin (v:=V.aI) (u:=Value.none) J rfl q
 | brk =>
  obtain⟨_,_,_,q⟩:=hs;exact False.elim q
 | cont =>
  obtain⟨_,_,_,q⟩:=hs;exact False.elim q
section
variable{X:Cx}{x:Str}{p pos:Pos}{e:Expr}{es:List Expr}{t:TA}{id T:String}{r:List V->Hp->VK->Prop}
noncomputable def LF(r:List V->Hp->VK->Prop)(t:TA):TE:=λσ H Q=>t σ H λvs H1=>r vs H1 Q
theorem cQ(hc:fG X (.builtin id) r)(hg:Gl X x)(hm:X.mg x=none)(hv:bootBuiltins x=some (.builtin id))(ha:PA X (e::es) t)(hn:x≠"__name__" := by decide)(gb:(x == ("__debug__" : Str))=false:=by decide)
  (he:starEach (e::es) X.env=(false,eval e X.env)::starEach es X.env:=by rfl) (dZ:(backTo pos (starEach es X.env)).any (·.1)=false:=by rfl):PE X (.Call (.Name x p) (e::es) [] pos) (LF r t):=by
 intro pins s σ H Q I h;refine wpAny_Call_Name_kw (j6 I hg hm hv ?_ hn gb);exact PyProof.Rows.callWith_builtin1 (aK (ha pos pins s σ H _ I h) λus s1 ⟨vs,H1,I1,r1,q1⟩=>hc pins s1 σ H1 vs us Q I1 r1 q1) he dZ
theorem C7(hc:fG X (.type T) r)(hg:Gl X x)(hm:X.mg x=none)(hv:bootBuiltins x=some (.type T))(ha:PA X (e::es) t)(hn:x≠"__name__" := by decide)(gb:(x == ("__debug__" : Str))=false:=by decide)
  (he:starEach (e::es) X.env=(false,eval e X.env)::starEach es X.env:=by rfl) (dZ:(backTo pos (starEach es X.env)).any (·.1)=false:=by rfl):PE X (.Call (.Name x p) (e::es) [] pos) (LF r t):=by
 intro pins s σ H Q I h;refine wpAny_Call_Name_kw (j6 I hg hm hv ?_ hn gb);exact PyProof.Rows.callWith_type1 (aK (ha pos pins s σ H _ I h) λus s1 ⟨vs,H1,I1,r1,q1⟩=>hc pins s1 σ H1 vs us Q I1 r1 q1) he dZ
end
end _L
namespace _H
open PySem PyProof.Rows
noncomputable def lexLt:List Int->List Int->Bool
 | [],[]=>false
 | [],_::_=>true
 | _::_,[]=>false
 | x::xs,y::ys=>if x=y then lexLt xs ys else decide (x<y)
theorem C8(x y:Int)(xs ys:List Int):lexLt (x::xs) (y::ys)=if x=y then lexLt xs ys else decide (x<y):=rfl
theorem LG:lexLt [] [] = false:=rfl
theorem XF(y:Int)(ys:List Int):lexLt [] (y::ys)=true:=rfl
theorem XG(x:Int)(xs:List Int):lexLt (x::xs) [] = false:=rfl
theorem XH(A:Around)(s:Shared)(a:Int)(t:Tok)(c:Int)(u:Tok):∃e,SeqAt.EqAt A s (.int a t) (.int c u) e/\(e=true↔a=c) :=
 ⟨(a == c),SeqAt.EqAt.int_int a t c u,by simp⟩
theorem XI(A:Around)(s:Shared)(a:Int)(t:Tok)(c:Int)(u:Tok)(prog:Program)(w:World)(E:Value->Shared->Prop)(Q:Value->Shared->Prop)(h:Q (.bool (decide (a<c))) s) :
  wpAny (model prog w) A (richCompare .Lt (.int a t) (.int c u)) Q E s :=
 (PyProof.Rows.lt_int h:wpAny (model prog w) A (compareOp .Lt (.int a t) (.int c u)) Q E s)
section
open PySem.SeqAt
open PySem.AutoSeq1 (wpAny_loadPart')
open PySem.MeetsSeq PySem.MeetsSeq2 PySem.MeetsSeq3
theorem XJ(l b:Addr)(items ku:Array Value)(n n2:Nat)(dd vV:Option Addr)(sl nJ:Array (Option Value))(ns ms:List Int)(hi:IntsAre items.toList ns)(hj:IntsAre ku.toList ms) :
  Meets (Builtin.«tuple.__lt__» ⟨[.ref l,.ref b],[]⟩)
   (λ_ R s=>s.heap.get? l=some { cls:=.type "tuple",dict:=dd,data:=.seq items n,slots:=sl }/\s.heap.get? b=some { cls:=.type "tuple",dict:=vV,data:=.seq ku n2,slots:=nJ }/\
    R (.ok (.ret (.bool (lexLt ns ms)))) s) :=
 .of_wp λprog w A R s h=>by
  obtain⟨hp,g,d,tk,os⟩:=s;obtain⟨hl,hb,h⟩:=h;have f2:=AutoSeq1.sub_tuple_tuple;have z1:items.size=ns.length:=by rw[← hi.length];simp
  have z2:ku.size=ms.length:=by rw[← hj.length];simp
  wp_walk using wpAny_loadPart' hl,wpAny_loadPart' hb,wpAny_forIn_list _ (λrest b s'=>b.1=none/\s' = ⟨hp,g,d,tk,os⟩/\∃(vs ws:List Value) (gB pR:List Int),rest=vs.zip ws/\
   IntsAre vs gB/\IntsAre ws pR/\gB.length+ku.size=pR.length+items.size/\R (.ok (.ret (.bool (lexLt gB pR)))) ⟨hp,g,d,tk,os⟩) _
  case turn =>
   rintro⟨y,x⟩ rest b s' ⟨jE,rfl,vs,ws,gB,pR,hz,C9,lZ,hlen,hR⟩;cases C9 with
   | nil=>rw[List.zip_nil_left] at hz;cases hz
   | cons a t XM =>
    cases lZ with
    | nil=>rw[List.zip_nil_right] at hz;cases hz
    | cons c u XN =>
     rw[List.zip_cons_cons] at hz;injection hz with XO XQ;injection XO with hy hx;subst hy hx;rw[C8] at hR;simp only[List.length_cons] at hlen;obtain⟨e,he,LH⟩:=XH A.in1 ⟨hp,g,d,tk,os⟩ a t c u;refine wpAny_bind (he prog w _ _ ?_);cases e with
     | true =>
      rw[if_pos (LH.mp rfl)] at hR;wp_walk;exact⟨rfl,rfl,_,_,_,_,XQ,XM,XN,by lia,hR⟩
     | false =>
      rw[if_neg (λq=>absurd (LH.mpr q) Bool.false_ne_true)] at hR;have XR:=XI A.in1 ⟨hp,g,d,tk,os⟩ a t c u prog w;wp_walk using XR;exact⟨_,rfl,by simpa using hR⟩
  case fin =>
   rintro⟨b1,b2⟩ s' ⟨jE,rfl,vs,ws,gB,pR,hz,C9,lZ,hlen,hR⟩;simp only at jE;subst jE;have hv:lexLt gB pR=decide (items.size<ku.size):=by
    cases C9 with
    | nil =>
     cases lZ with
     | nil =>
      simp only[List.length_nil] at hlen;rw[LG];exact(decide_eq_false (by lia)).symm
     | cons c u hw =>
      simp only[List.length_nil,List.length_cons] at hlen;rw[XF];exact(decide_eq_true (by lia)).symm
    | cons a t hv =>
     cases lZ with
     | nil =>
      simp only[List.length_nil,List.length_cons] at hlen;rw[XG];exact(decide_eq_false (by lia)).symm
     | cons c u hw =>
      rw[List.zip_cons_cons] at hz;cases hz
   rw[hv] at hR;wp_walk;exact⟨_,rfl,by simpa[Builtin.Tuple.tupleCompareSizes] using hR⟩
  case h =>
   exact⟨rfl,rfl,items.toList,ku.toList,ns,ms,rfl,hi,hj,by lia,h⟩
end
section
variable{prog:Program}{w:World}{A:Around}{E:Value->Shared->Prop}{s:Shared}
theorem XS{l b:Addr}{items ku:Array Value}{ns ms:List Int}{Q:Value->Shared->Prop}(hl:IsTup s.heap l items)(hb:IsTup s.heap b ku)(hi:IntsAre items.toList ns)(hj:IntsAre ku.toList ms)
  (hu:A.units<cLine) (h:Q (.bool (lexLt ns ms)) s):wpAny (model prog w) A (compareOp .Lt (.ref l) (.ref b)) Q E s:=by
 obtain⟨⟨cls,dd,data,sl⟩,ho,hc,n,hd⟩:=id hl;obtain⟨⟨ajr,vV,data2,nJ⟩,jF,iz,n2,hd2⟩:=id hb;simp only at hc hd iz hd2;subst hc hd iz hd2;exact richCompare_meets_room (op:=.Lt) ⟨_,ho,rfl⟩ ⟨_,jF,rfl⟩ PySem.F.slot_tuple_lt PySem.F.entry_tuple_lt (PySem.F.args_tuple_lt_2 _ _) (XJ l b items ku n n2 dd vV sl nJ ns ms hi hj)
  ⟨ho,jF,show Value.bool (lexLt ns ms)≠Value.notImplemented/\Q (.bool (lexLt ns ms)) s from⟨(λx=>nomatch x),h⟩⟩ hu
noncomputable def fJ(n d:Nat):Option Int->Nat
 | none=>d
 | some v=>if v<0 then(v+(n:Int)).toNat else min v.toNat n
end
end _H
namespace _L
open PySem PySem.Spec PyProof.Rows
noncomputable abbrev TO:=St->Hp->(Option Int->Hp->Prop)->Prop
noncomputable def PO(X:Cx)(e:Option Expr)(t:TO):Prop :=
 ∀(pins:List (Addr×Obj)) (s:Shared) (σ:St) (H:Hp) (Q:Option Int->Hp->Prop),Inv X pins σ H s->t σ H Q->
  wpAny (model X.prog X.w) X.A (evalPart e X.env) (λu s'=>∃o H',Inv X pins σ H' s'/\IsPart u o/\Q o H') X.xe s
noncomputable def XT:TO:=λ_ H Q=>Q none H
noncomputable def XU(t:TE):TO:=λσ H Q=>t σ H λx H1=>∃i,x = .int i/\Q (some i) H1
theorem intsAre_of{ns:List Int}:∀ {us:List Value},Vals (ns.map V.int) us->IntsAre us ns:=by
 induction ns with
 | nil=>intro us r;rw[List.map_nil] at r;cases r;exact .nil
 | cons n ns ih =>
  intro us r;rw[List.map_cons] at r;cases r with
  | cons r1 r2 =>
   obtain⟨t,e⟩:=r1;subst e;exact .cons n t (ih r2)
section
variable{X:Cx}{e:Expr}{te:TE}{lo hi:Option Expr}{tl th:TO}{pos p2:Pos}
theorem C_:PO X none XT:=by
 intro pins s σ H Q I h;rw[evalPart_none];exact wpAny_pure ⟨none,H,I,.none,h⟩
theorem Dc(h:PE X e te):PO X (some e) (XU te):=by
 intro pins s σ H Q I hw;rw[evalPart_some];refine aK (h pins s σ H _ I hw) λu s1 ⟨x,H1,I1,r1,q1⟩=>?_;obtain⟨i,rfl,q⟩:=q1;obtain⟨t,rfl⟩:=r1;exact⟨some i,H1,I1,.int i t,q⟩
noncomputable def De(X:Cx)(r:V->Option Int->Option Int->Hp->VK->Prop):Prop :=
 ∀(pins:List (Addr×Obj)) (s:Shared) (σ:St) (H:Hp) (x:V) (v vl vu:Value) (lo hi:Option Int) (sl:Addr) (Q:VK),Inv X pins σ H s->RelV x v->s.heap.IsSliceOf sl vl vu .none->IsPart vl lo->IsPart vu hi->r x lo hi H Q->
  ∃T id,typeLookup (.type T) "__getitem__" = pure (some (.builtin id))/\s.TypeIs v T/\wpAny (model X.prog X.w) X.A (getItem v (.ref sl)) (EP X pins σ Q) X.xe s
noncomputable def XW(r:V->Option Int->Option Int->Hp->VK->Prop)(te:TE)(tl th:TO):TE:=λσ H Q=>te σ H λx H1=>tl σ H1 λl H2=>th σ H2 λu H3=>r x l u H3 Q
theorem Df{r:V->Option Int->Option Int->Hp->VK->Prop}(hr:De X r)(he:PE X e te)(hl:PO X lo tl)(hu:PO X hi th):PE X (.Subscript e (.Slice lo hi none p2) pos) (XW r te tl th):=by
 intro pins s σ H Q I h;refine Subscript_ (aK (he pins s σ H _ I h) λv s1 ⟨x,H1,I1,r1,q1⟩=>?_);refine wpAny_Slice (aK (hl pins s1 σ H1 _ I1 q1) λvl s2 ⟨l,H2,I2,pl,q2⟩=>aK (hu pins s2 σ H2 _ I2 q2) λvu s3 ⟨u,H3,I3,pu,q3⟩=>?_);rw[evalPart_none];refine wpAny_pure ?_;have I4:Inv X pins σ H3 { s3 with heap:=s3.heap.push { cls:=.type "slice",data:=.fields #[vl,vu,.none] }}:=I3.kept (t':=s3.toks) λb ob q=>Heap.get?_push_of_some _ q;obtain⟨T,id,hT,ht,hg⟩:=hr pins { s3 with heap:=s3.heap.push { cls:=.type "slice",data:=.fields #[vl,vu,.none] }} σ H3 x v vl vu l u s3.heap.objs.size Q I4 r1 (Heap.IsSliceOf.new ..) pl pu q3
 show wpAny (model X.prog X.w) X.A (subscriptTail e (.Slice lo hi none p2) v (.ref s3.heap.objs.size)) (EP X pins σ Q) X.xe { s3 with heap:=s3.heap.push { cls:=.type "slice",data:=.fields #[vl,vu,.none] }};exact tail_any (ops:=[.ref s3.heap.objs.size,v]) ht hT hg (by with_unfolding_all rfl)
noncomputable def nK(xs:List V)(lo hi:Option Int):List V:=(xs.drop (_H.fJ xs.length 0 lo)).take (_H.fJ xs.length xs.length hi - _H.fJ xs.length 0 lo)
theorem XX(xs:List V)(lo hi:Option Int):(nK xs lo hi).length<=xs.length:=by
 unfold nK;rw[List.length_take,List.length_drop];lia
noncomputable def ajs(K:PySem.W.Frag):V->Option Int->Option Int->Hp->VK->Prop:=λx lo hi H Q=>∃a xs,x = .ref a/\bq K H a xs/\
 ¬ (_H.fJ xs.length 0 lo=0/\_H.fJ xs.length xs.length hi=xs.length)/\∀p,H p=none->Q (.ref p) (upd H p (.tup (nK xs lo hi)))
noncomputable def ajt(K:PySem.W.Frag):R2:=λx y H Q=>∃a b ns ms,x = .ref a/\y = .ref b/\bq K H a (ns.map V.int)/\bq K H b (ms.map V.int)/\Q (.bl (_H.lexLt ns ms)) H
noncomputable def aju(K:PySem.W.Frag):R2:=λx y H Q=>∃a b xs ys,x = .ref a/\y = .ref b/\bq K H a xs/\bq K H b ys/\xs≠[]/\xs.length+ys.length<=sizeLine/\
 (ys = []->Q (.ref a) H)/\(ys≠[]->∀p,H p=none->Q (.ref p) (upd H p (.tup (xs++ys))))
end
noncomputable def iN(n:Nat)(i:Int):Option Nat:=if 0<=i then(if i<n then some i.toNat else none) else if -(n:Int)<=i then some (i+n).toNat else none
noncomputable def fj{α:Type}(xs:List α)(i:Int):Option α:=(iN xs.length i).bind λj=>xs[j]?
theorem LI{n:Nat}{i:Int}{j:Nat}(h:iN n i=some j):seqIndex? i n=some j/\j<n/\-(n:Int)<=i/\i<n:=by
 unfold iN at h;by_cases h0:0<=i
 ·rw[if_pos h0] at h;by_cases h1:i<n
  ·rw[if_pos h1] at h;have e:i.toNat=j:=Option.some.inj h;exact⟨by rw[seqIndex_of h0 h1,e],by lia,by lia,h1⟩
  ·rw[if_neg h1] at h;cases h
 ·rw[if_neg h0] at h;by_cases h1 : -(n:Int)<=i
  ·rw[if_pos h1] at h;have e:(i+n).toNat=j:=Option.some.inj h;exact⟨by rw[seqIndex_neg (by lia) h1,e],by lia,h1,by lia⟩
  ·rw[if_neg h1] at h;cases h
theorem LJ{α:Type}{xs:List α}{i:Int}{v:α}(h:fj xs i=some v):∃j,seqIndex? i xs.length=some j/\xs[j]? = some v/\j<xs.length/\-(xs.length:Int)<=i/\i<xs.length:=by
 unfold fj at h;cases e:iN xs.length i with
 | none=>rw[e] at h;cases h
 | some j =>
  rw[e] at h;obtain⟨h1,h2,h3,h4⟩:=LI e;exact⟨j,h1,h,h2,h3,h4⟩
theorem gC{α:Type}{xs:List α}{j:Nat}{v:α}(h:xs[j]? = some v):fj xs (j:Int)=some v:=by
 have hj:j<xs.length:=(List.getElem?_eq_some_iff.mp h).1;have e:iN xs.length (j:Int)=some j:=by
  unfold iN;rw[if_pos (by lia),if_pos (by lia)];simp
 unfold fj;rw[e];exact h
theorem LK{α:Type}(xs:List α)(v:α):fj (xs++[v]) (-1)=some v:=by
 have hl:(xs++[v]).length=xs.length+1:=by simp
 have e:iN (xs++[v]).length (-1)=some xs.length:=by
  unfold iN;rw[hl,if_neg (by decide),if_pos (by lia)]
  congr 1;lia
 unfold fj;rw[e]
 show (xs++[v])[xs.length]? = some v;simp
noncomputable def XY(b:Expr):Prop:=∀o i,subscripted b false o i=operate [o,i] (getItem o i)
noncomputable def rQ(X:Cx)(r:R2):Prop :=
 ∀(value slice:Expr) (pins:List (Addr×Obj)) (s:Shared) (σ:St) (H:Hp) (x y:V) (v u:Value) (Q:VK),Inv X pins σ H s->RelV x v->RelV y u->r x y H Q->
  subscripted slice false v u=operate [v,u] (getItem v u)->wpAny (model X.prog X.w) X.A (subscriptTail value slice v u) (EP X pins σ Q) X.xe s
noncomputable def Dg(X:Cx)(id:String)(r:V->List V->Hp->VK->Prop):Prop :=
 ∀(pins:List (Addr×Obj)) (s:Shared) (σ:St) (H:Hp) (x:V) (xs:List V) (v:Value) (us:List Value) (Q:VK),Inv X pins σ H s->RelV x v->Vals xs us->r x xs H Q->
  wpAny (model X.prog X.w) X.A (call (.builtin id) (v::us)) (EP X pins σ Q) X.xe s
section
variable{X:Cx}{a b:Expr}{ta tb:TE}{pos:Pos}
theorem bS{r:R2}(hr:rQ X r)(ha:PE X a ta)(hb:PE X b tb)(hs:XY b):PE X (.Subscript a b pos) (vJ r ta tb):=by
 intro pins s σ H Q I h;exact Subscript_ (C1 ha hb I h λv u s2 x y H2 I2 rx ry q=>hr a b pins s2 σ H2 x y v u Q I2 rx ry q (hs _ _))
noncomputable def LL(K:PySem.W.Frag):R2:=λx y H Q=>∃p xs i v,x = .ref p/\y = .int i/\aA K H p xs/\fj xs i=some v/\Q v H
noncomputable def LM(K:PySem.W.Frag):R2:=λx y H Q=>∃p xs i v,x = .ref p/\y = .int i/\bq K H p xs/\fj xs i=some v/\Q v H
theorem cR:rQ X (LL X.K):=by
 intro value slice pins s σ H x y v u Q I rx ry h hs;obtain⟨p,xs,i,z,rfl,rfl,hq,he,q⟩:=h;cases rx;obtain⟨t,rfl⟩:=ry;obtain⟨aq,r,pl,hz⟩:=I.list hq;obtain⟨j,h1,h2,h3,h4,h5⟩:=LJ he;obtain⟨w,ew,gf⟩:=r.get h2;have hl:=r.length;have hn:=pO;have fin:EP X pins σ Q w s:=⟨z,H,I,gf,q⟩;by_cases h0:0<=i
 ·have hj:i.toNat=j:=by
   rw[seqIndex_of h0 h5] at h1;exact Option.some.inj h1
  exact item_listR pl.isList h0 (by lia) (by rw[hj];simpa using ew) fin hs
 ·have hj:(i+(aq.toArray.size:Int)).toNat=j:=by
   rw[seqIndex_neg (by lia) h4] at h1
   rw[List.size_toArray,← hl];exact Option.some.inj h1
  exact subscriptTail_builtinR (x:=w) pl.isList.typeIs slot_list_getitem.lookup
   (wpAny_getItem_list_neg (Q:=λr s'=>r=w/\EP X pins σ Q r s') pl.isList (by lia) (by rw[List.size_toArray] <;> lia) (by lia) (by rw[hj];simpa using ew) ⟨rfl,fin⟩) hs
theorem jG:rQ X (LM X.K):=by
 intro value slice pins s σ H x y v u Q I rx ry h hs;obtain⟨p,xs,i,z,rfl,rfl,hq,he,q⟩:=h;cases rx;obtain⟨t,rfl⟩:=ry;obtain⟨aq,r,pl,hz⟩:=I.tuple hq;obtain⟨j,h1,h2,h3,h4,h5⟩:=LJ he;obtain⟨w,ew,gf⟩:=r.get h2;have hl:=r.length;have hn:=pO;have fin:EP X pins σ Q w s:=⟨z,H,I,gf,q⟩;exact subscriptTail_builtinR (x:=w) pl.typeIs slot_tuple_getitem.lookup
  (getItem_tuple (j:=j) (Q:=λr s'=>r=w/\EP X pins σ Q r s') pl (by lia) (by lia) (by rw[List.size_toArray,← hl];exact h1) (by simpa using ew) ⟨rfl,fin⟩) hs
theorem XZ(aq:List Value)(n j:Nat)(u:Value):Obj.mapSeq (·.setIfInBounds j u) { cls:=.type "list",data:=.seq aq.toArray n } = { cls:=.type "list",data:=.seq (aq.set j u).toArray n }:=by
 simp[Obj.mapSeq]
theorem Inv.lst{pins:List (Addr×Obj)}{σ:St}{H:Hp}{s:Shared}{p:Addr}{xs:List V}(I:Inv X pins σ H s)(h:H p=some (.lst xs)) :
  ∃(aq:List Value) (n:Nat),Vals xs aq/\s.heap.get? p=some { cls:=.type "list",data:=.seq aq.toArray n }/\xs.length<=sizeLine:=by
 obtain⟨z,aq,n,r,e⟩:=I.aD p _ h;exact⟨aq,n,r,e,z⟩
theorem Inv.X0{pins:List (Addr×Obj)}{σ:St}{H:Hp}{s:Shared}{p:Addr}{xs ys:List V}{aq its':List Value}{n n':Nat}{f:Obj->Obj}(I:Inv X pins σ H s)(h:H p=some (.lst xs))
  (ho:s.heap.get? p=some { cls:=.type "list",data:=.seq aq.toArray n }) (hf:f { cls:=.type "list",data:=.seq aq.toArray n } = { cls:=.type "list",data:=.seq its'.toArray n' }) (r:Vals ys its') (hz:ys.length<=sizeLine) (t:Nat) :
  Inv X pins σ (upd H p (.lst ys)) { s with heap:=s.heap.update p f,toks:=t }:=by
 have e:(s.heap.update p f).get? p=some { cls:=.type "list",data:=.seq its'.toArray n' }:=by
  rw[Heap.get?_update_self f ho (by rw[hf] <;> rfl),hf]
 refine I.write (x:=p) (e:=p) (by rw[h];trivial) (.inl rfl) (λb u hb q=>(Heap.get?_update_other _ _ (Ne.symm hb)).trans q) ⟨_,e⟩ ?_
 exact⟨hz,its',n',r,e⟩
noncomputable def X3:V->V->V->Hp->(Hp->Prop)->Prop:=λo i v H Q=>∃p xs k j,o = .ref p/\i = .int k/\H p=some (.lst xs)/\iN xs.length k=some j/\Q (upd H p (.lst (xs.set j v)))
theorem set_list:K6 X X3:=by
 intro pins s σ H o i v ov iv u Q I ro ri rv h;obtain⟨p,xs,k,j,rfl,rfl,hp,hj,q⟩:=h;cases ro;obtain⟨t,rfl⟩:=ri;obtain⟨aq,n,r,ho,hz⟩:=I.lst hp;obtain⟨h1,h2,h3,h4⟩:=LI hj;have hl:=r.length;have hn:=pO;have I':Inv X pins σ (upd H p (.lst (xs.set j v))) { s with heap:=s.heap.update p (Obj.mapSeq (·.setIfInBounds j u))} :=
  I.X0 hp ho (XZ aq n j u) (r.set rv j) (by rw[List.length_set];exact hz) s.toks
 by_cases h0:0<=k
 ·have hk:k.toNat=j:=by
   rw[seqIndex_of h0 h4] at h1;exact Option.some.inj h1
  exact PySem.W.ki_setAt ho h0 (by lia) (by rw[List.size_toArray,← hl];exact h4) (by rw[hk];exact⟨_,I',q⟩)
 ·have hk:(k+(aq.toArray.size:Int)).toNat=j:=by
   rw[seqIndex_neg (by lia) h3] at h1
   rw[List.size_toArray,← hl];exact Option.some.inj h1
  exact PySem.W.ki_setBack ho (by lia) (by rw[List.size_toArray,← hl];exact h3) (by lia) (by rw[hk];exact⟨_,I',q⟩)
theorem X4(lo hi:Option Int)(n:Nat):(sliceBounds lo hi none n).1=((_H.fJ n 0 lo:Nat):Int)/\(sliceBounds lo hi none n).2.1=((_H.fJ n n hi:Nat):Int)/\(sliceBounds lo hi none n).2.2=1:=by
 refine⟨?_,?_,rfl⟩
 ·cases lo with
  | none=>simp[sliceBounds,_H.fJ]
  | some i =>
   simp only[sliceBounds,_H.fJ,Option.getD_none,show (1:Int) > 0 by decide,if_true]
   by_cases h:i<0
   ·simp only[h,if_true] <;> lia
   ·simp only[h,if_false] <;> lia
 ·cases hi with
  | none=>simp[sliceBounds,_H.fJ]
  | some i =>
   simp only[sliceBounds,_H.fJ,Option.getD_none,show (1:Int) > 0 by decide,if_true]
   by_cases h:i<0
   ·simp only[h,if_true] <;> lia
   ·simp only[h,if_false] <;> lia
theorem X5(aq:List Value)(lo hi:Option Int):slicePick aq.toArray lo hi none=((aq.drop (_H.fJ aq.length 0 lo)).take (_H.fJ aq.length aq.length hi - _H.fJ aq.length 0 lo)).toArray:=by
 obtain⟨h1,h2,h3⟩:=X4 lo hi aq.toArray.size;unfold slicePick;rw[h1,h2,h3];simp only[sliceRange_one,pick_run,List.size_toArray] <;> rfl
noncomputable def X6(K:PySem.W.Frag):V->Option Int->Option Int->Hp->VK->Prop:=λx lo hi H Q=>∃a xs,x = .ref a/\aA K H a xs/\∀p,H p=none->Q (.ref p) (upd H p (.lst (nK xs lo hi)))
theorem X7:De X (X6 X.K):=by
 intro pins s σ H x v vl vu lo hi sl Q I rx hs pl pu h;obtain⟨a,xs,rfl,hx,q⟩:=h;cases rx;obtain⟨aq,r,ht,hz⟩:=I.list hx;have hlen:=r.length;refine⟨"list",_,slot_list_getitem.lookup,ht.isList.typeIs,?_⟩;refine wpAny_getItem_list_slice ht.isList hs pl pu .none (by simp) ?_ (by rw[List.size_toArray] <;> lia)
 rw[X5,← hlen];refine⟨.ref s.heap.objs.size,_,I.laid (t':=s.toks) (o:=.lst (nK xs lo hi)) (λb ob q=>Heap.get?_push_of_some _ q) (Nat.le_refl _) ?_,rfl,q _ (I.aD.fresh (Nat.le_refl _))⟩;exact⟨Nat.le_trans (XX xs lo hi) hz,_,0,(r.drop (_H.fJ xs.length 0 lo)).take (_H.fJ xs.length xs.length hi - _H.fJ xs.length 0 lo),Heap.get?_push_size _ rfl⟩
noncomputable def jH:V->Bool
 | .aI=>true
 | .bl _=>true
 | .int _=>true
 | .str _=>true
 | _=>false
noncomputable def jI:V->V->Bool
 | .aI,.aI=>true
 | .bl a,.bl b=>a == b
 | .bl a,.int b=>(if a then 1 else 0) == b
 | .int a,.bl b=>a == (if b then 1 else 0)
 | .int a,.int b=>a == b
 | .str a,.str b=>a == b
 | _,_=>false
theorem X8{A:Around}{s:Shared}{y x:V}{u v:Value}(ry:RelV y u)(rx:RelV x v)(fy:jH y=true)(fx:jH x=true):SeqAt.EqAt A s u v (jI y x):=by
 cases y with
 | aI =>
  cases ry;cases x with
  | aI=>cases rx;exact SeqAt.EqAt.same _
  | bl b=>cases rx;exact SeqAt.EqAt.none_bool b
  | int b=>obtain⟨t,rfl⟩:=rx;exact SeqAt.EqAt.none_int b t
  | str b=>obtain⟨t,rfl⟩:=rx;exact SeqAt.EqAt.none_str b t
  | _=>exact absurd (show false=true from fx) Bool.false_ne_true
 | bl a =>
  cases ry;cases x with
  | aI=>cases rx;exact SeqAt.EqAt.bool_none a
  | bl b=>cases rx;exact SeqAt.EqAt.bool_bool a b
  | int b=>obtain⟨t,rfl⟩:=rx;exact SeqAt.EqAt.bool_int a b t
  | str b=>obtain⟨t,rfl⟩:=rx;exact SeqAt.EqAt.bool_str a b t
  | _=>exact absurd (show false=true from fx) Bool.false_ne_true
 | int a =>
  obtain⟨t',rfl⟩:=ry;cases x with
  | aI=>cases rx;exact SeqAt.EqAt.int_none a t'
  | bl b=>cases rx;exact SeqAt.EqAt.int_bool a t' b
  | int b=>obtain⟨t,rfl⟩:=rx;exact SeqAt.EqAt.int_int a t' b t
  | str b=>obtain⟨t,rfl⟩:=rx;exact SeqAt.EqAt.int_str a t' b t
  | _=>exact absurd (show false=true from fx) Bool.false_ne_true
 | str a =>
  obtain⟨t',rfl⟩:=ry;cases x with
  | aI=>cases rx;exact SeqAt.EqAt.str_none a t'
  | bl b=>cases rx;exact SeqAt.EqAt.str_bool a t' b
  | int b=>obtain⟨t,rfl⟩:=rx;exact SeqAt.EqAt.str_int a t' b t
  | str b=>obtain⟨t,rfl⟩:=rx;exact SeqAt.EqAt.str_str a t' b t
  | _=>exact absurd (show false=true from fx) Bool.false_ne_true
 | _=>exact absurd (show false=true from fy) Bool.false_ne_true
noncomputable def lg(x:V)(u:Value):Bool:=match u with
 | .none=>jI .aI x
 | .bool b=>jI (.bl b) x
 | .int i _=>jI (.int i) x
 | .str z _=>jI (.str z) x
 | _=>false
theorem LN{x y:V}{u:Value}(r:RelV y u)(f:jH y=true):lg x u=jI y x:=by
 cases y with
 | aI=>cases r;rfl
 | bl b=>cases r;rfl
 | int i=>obtain⟨t,rfl⟩:=r;rfl
 | str z=>obtain⟨t,rfl⟩:=r;rfl
 | _=>exact absurd (show false=true from f) Bool.false_ne_true
theorem Dh{x:V}:∀ {xs:List V} {us:List Value},Vals xs us->xs.all jH=true->us.any (lg x)=xs.any λy=>jI y x
 | _,_,.nil,_=>rfl
 | y::xs,u::us,.cons r t,f=>by
  rw[List.all_cons,Bool.and_eq_true] at f;rw[List.any_cons,List.any_cons,LN r f.1,Dh t f.2]
theorem Di{A:Around}{s:Shared}{x:V}{v:Value}(rx:RelV x v)(fx:jH x=true):∀ {xs:List V} {us:List Value},Vals xs us->xs.all jH=true->∀u∈us,SeqAt.EqAt A s u v (lg x u)
 | _,_,.nil,_=>λu hu=>by cases hu
 | y::xs,u::us,.cons r t,f=>λu' hu=>by
  rw[List.all_cons,Bool.and_eq_true] at f;rcases List.mem_cons.mp hu with rfl | hu
  ·rw[LN r f.1];exact X8 r rx f.1 fx
  ·exact Di rx fx t f.2 u' hu
noncomputable def pT(x:V)(xs:List V):Bool:=xs.any λy=>jI y x
noncomputable def LO(K:PySem.W.Frag)(neg:Bool):R2:=λx y H Q=>∃p xs,y = .ref p/\(aA K H p xs\/bq K H p xs)/\jH x=true/\xs.all jH=true/\Q (.bl (if neg then !pT x xs else pT x xs)) H
theorem vW:c_ X (compareOp .In) (LO X.K false):=by
 intro pins s σ H x y v u Q I rx ry h;obtain⟨p,xs,rfl,hq,fx,fs,q⟩:=h;cases ry;rcases hq with hq | hq
 ·obtain⟨aq,r,pl,hz⟩:=I.list hq;refine SeqAt.in_listAt (lg x) pl.isList (λw hw=>Di rx fx r fs w (by simpa using hw)) ⟨.bl _,H,I,rfl,?_⟩
  rw[show aq.toArray.any (lg x)=aq.any (lg x) by simp,Dh r fs]
  exact q
 ·obtain⟨aq,r,pl,hz⟩:=I.tuple hq;refine SeqAt.in_tupleAt (lg x) pl (λw hw=>Di rx fx r fs w (by simpa using hw)) ⟨.bl _,H,I,rfl,?_⟩
  rw[show aq.toArray.any (lg x)=aq.any (lg x) by simp,Dh r fs]
  exact q
theorem gT:fG X (.builtin "len") (λxs H Q=>∃p ys,xs = [.ref p]/\(aA X.K H p ys\/bq X.K H p ys)/\Q (.int ys.length) H):=by
 intro pins s σ H xs us Q I r h;obtain⟨p,ys,rfl,hq,q⟩:=h;obtain⟨u,rfl,rx⟩:=vals1 r;cases rx;have hn:=pO;rcases hq with hq | hq
 ·obtain⟨aq,r',pl,hz⟩:=I.list hq;have hlen:=r'.length;exact Calls.call_len_list pl.isList (by simp only[List.size_toArray] <;> lia) ⟨.int ys.length,H,I.tok _,⟨s.toks+1,by rw[List.size_toArray,hlen]⟩,q⟩
 ·obtain⟨aq,r',pl,hz⟩:=I.tuple hq;have hlen:=r'.length;exact len_tuple pl (by simp only[List.size_toArray] <;> lia) ⟨.int ys.length,H,I.tok _,⟨s.toks+1,by rw[List.size_toArray,hlen]⟩,q⟩
theorem X_:fG X (.builtin "len") (λxs H Q=>∃z,xs = [.str z]/\z.length<=sizeLine/\Q (.int z.length) H):=by
 intro pins s σ H xs us Q I r h;obtain⟨z,rfl,hz,q⟩:=h;obtain⟨u,rfl,t,rfl⟩:=vals1 r;have hn:=pO;exact len_str (by lia) ⟨.int z.length,H,I.tok _,⟨_,rfl⟩,q⟩
theorem Yb:fG X (.type "list") (λxs H Q=>∃p ys,xs = [.ref p]/\(aA X.K H p ys\/bq X.K H p ys)/\∀l,H l=none->Q (.ref l) (upd H l (.lst ys))):=by
 intro pins s σ H xs us Q I r h;obtain⟨p,ys,rfl,hq,q⟩:=h;obtain⟨u,rfl,rx⟩:=vals1 r;cases rx;have fin:∀(aq:List Value),Vals ys aq->ys.length<=sizeLine->∀(h':Heap) (c':Nat),(∀b o',s.heap.get? b=some o'->h'.get? b=some o')->
   h'.get? s.heap.objs.size=some { cls:=.type "list",dict:=none,data:=.seq aq.toArray c',slots := #[] }->EP X pins σ Q (.ref s.heap.objs.size) { s with heap:=h' }:=λaq r' hz h' c' kp e =>
  ⟨.ref s.heap.objs.size,_,I.laid (t':=s.toks) kp (Nat.le_refl _) (show cL X.prog X.w _ h' _ (.lst ys) from⟨hz,aq,c',r',e⟩),rfl,q _ (I.aD.fresh (Nat.le_refl _))⟩
 rcases hq with hq | hq
 ·obtain⟨aq,r',pl,hz⟩:=I.list hq;have hlen:=r'.length;obtain⟨o,ho,hc,n,hd⟩:=pl.isList;exact call_list_seq p (.inl rfl) ho hc hd (λh' c' kp e=>fin aq r' hz h' c' kp e) (by simp only[List.size_toArray] <;> lia)
 ·obtain⟨aq,r',pl,hz⟩:=I.tuple hq;have hlen:=r'.length;obtain⟨o,ho,hc,n,hd⟩:=pl;exact call_list_seq p (.inr rfl) ho hc hd (λh' c' kp e=>fin aq r' hz h' c' kp e) (by simp only[List.size_toArray] <;> lia)
theorem LQ:fG X (.type "tuple") (λxs H Q=>∃p ys,xs = [.ref p]/\((aA X.K H p ys/\∀l,H l=none->Q (.ref l) (upd H l (.tup ys)))\/(bq X.K H p ys/\Q (.ref p) H))):=by
 intro pins s σ H xs us Q I r h;obtain⟨p,ys,rfl,h⟩:=h;obtain⟨u,rfl,rx⟩:=vals1 r;cases rx;rcases h with⟨hq,q⟩ | ⟨hq,q⟩
 ·obtain⟨aq,r',pl,hz⟩:=I.list hq;have hlen:=r'.length;refine call_tuple_list pl.isList (λh' kp=>?_) (by simp only[List.size_toArray] <;> lia)
  have I1:Inv X pins σ H { s with heap:=h' }:=I.kept (t':=s.toks) kp;have I2:Inv X pins σ (upd H h'.objs.size (.tup ys)) { s with heap:=h'.push { cls:=.type "tuple",data:=.seq aq.toArray }} :=
   I1.laid (t':=s.toks) (λb o e=>Heap.get?_push_of_some _ e) (Nat.le_refl _) (show cL X.prog X.w _ _ _ (.tup ys) from⟨hz,aq,r',IsTup.new _ _⟩)
  exact⟨.ref h'.objs.size,_,I2,rfl,q _ (I1.aD.fresh (Nat.le_refl _))⟩
 ·obtain⟨aq,r',pl,hz⟩:=I.tuple hq;exact call_tuple_same pl ⟨.ref p,H,I,rfl,q⟩
noncomputable def vX(K:PySem.W.Frag)(T:String)(x:V)(H:Hp):Prop:=match x with
 | .str _=>T = "str"
 | .int _=>T = "int"
 | .ref p=>(T = "list"/\∃xs,aA K H p xs)\/(T = "tuple"/\∃o,K.lookup p=some o/\o.cls = .type "tuple"/\o.dict=none)\/
   (T = "dict"/\((∃kvs,H p=some (.dK kvs))\/∃kvs,H p=some (.dT kvs)))\/(T = "set"/\∃S n,H p=some (.set S n))
 | _=>False
theorem Dj{pins:List (Addr×Obj)}{σ:St}{H:Hp}{s:Shared}{T:String}{x:V}{v:Value}(I:Inv X pins σ H s)(r:RelV x v)(ty:vX X.K T x H) :
  s.TypeIs v T/\∀a,v = .ref a->∃ob,s.heap.get? a=some ob/\ob.dict=none:=by
 cases x with
 | str z =>
  obtain⟨t,rfl⟩:=r;cases (show T = "str" from ty);exact⟨typeIs_str s z t,λ_ e=>nomatch e⟩
 | int i =>
  obtain⟨t,rfl⟩:=r;cases (show T = "int" from ty);exact⟨typeIs_int s i t,λ_ e=>nomatch e⟩
 | ref p =>
  cases r;rcases ty with⟨rfl,xs,hq⟩ | ⟨rfl,o,hk,hc,hd⟩ | ⟨rfl,hk⟩ | ⟨rfl,S,n,hk⟩
  ·obtain⟨aq,_,pl,_⟩:=I.list hq;refine⟨pl.isList.typeIs,λa e=>?_⟩;cases e;obtain⟨o,n,e,c,hd,_⟩:=pl;exact⟨o,e,hd⟩
  ·refine⟨⟨o,I.bX p o hk,hc⟩,λa e=>?_⟩;cases e;exact⟨o,I.bX _ o hk,hd⟩
  ·have z:∃o,s.heap.get? p=some o/\o.ExactDict:=by
    rcases hk with⟨kvs,hk⟩ | ⟨kvs,hk⟩
    ·obtain⟨_,_,_,_,o,_,_,e,ex,_⟩:=I.aD p _ hk;exact⟨o,e,ex⟩
    ·obtain⟨_,_,_,_,o,_,_,e,ex,_⟩:=I.aD p _ hk;exact⟨o,e,ex⟩
   obtain⟨o,e,ex⟩:=z;refine⟨⟨o,e,ex.1⟩,λa e2=>?_⟩;cases e2;exact⟨o,e,ex.2.1⟩
  ·obtain⟨o,_,_,_,e,ex,_⟩:=I.aD p _ hk;refine⟨⟨o,e,ex.1⟩,λa e2=>?_⟩;cases e2;exact⟨o,e,ex.2.1⟩
 | _=>exact False.elim ty
noncomputable def Yc(K:PySem.W.Frag)(T:String)(r:V->List V->Hp->VK->Prop)(to:TE):TE:=λσ H Q=>to σ H λx H1=>vX K T x H1/\r x [] H1 Q
noncomputable def Yd(K:PySem.W.Frag)(T:String)(r:V->List V->Hp->VK->Prop)(to:TE)(t:TA):TE:=λσ H Q=>to σ H λx H1=>vX K T x H1/\t σ H1 λxs H2=>r x xs H2 Q
variable{o e:Expr}{es:List Expr}{to:TE}{t:TA}{name:Str}{apos cH:Pos}{T id:String}{r:V->List V->Hp->VK->Prop}
theorem Ye(pa:PlainAttrs T)(slot:Slot T name id)(Dl:typeOf (.builtin id)=pure (.type "method_descriptor"))(hm:Dg X id r)(ho:PE X o to)
  (rR:attributeBase o name X.env (eval o X.env)=eval o X.env:=by rfl) (rS:(apos.endLine == cH.line)=true:=by rfl):PE X (.Call (.Attribute o name apos) [] [] cH) (Yc X.K T r to):=by
 intro pins s σ H Q I h;refine wpAny_Call_method0_late rR rS (aK (ho pins s σ H _ I h) λv s1 ⟨x,H1,I1,r1,ty,q1⟩=>?_);obtain⟨h1,h2⟩:=Dj I1 r1 ty;exact⟨T,id,pa,slot,Dl,h1,h2,Calls.callWith_builtin rfl (PySem.evalArgs_none (hm pins s1 σ H1 x [] v [] Q I1 r1 .nil q1))⟩
theorem lq(pa:PlainAttrs T)(slot:Slot T name id)(Dl:typeOf (.builtin id)=pure (.type "method_descriptor"))(hm:Dg X id r)(ho:PE X o to)(ha:PA X (e::es) t)
  (rR:attributeBase o name X.env (eval o X.env)=eval o X.env:=by rfl)
  (Yg:((backTo cH (starEach (e::es) X.env)).all (λx => !x.1) && (backToKw cH (keywordEach [] X.env)).all (λx=>x.1.isSome)
   && decide ((e::es).length+([]:List Keyword).length+(if ([]:List Keyword).isEmpty then 0 else 1)<30))=true:=by rfl)
  (rS:(apos.endLine == cH.line)=true:=by rfl) (hs:starEach (e::es) X.env=(false,eval e X.env)::starEach es X.env:=by rfl) (hplain:(backTo cH (starEach es X.env)).any (·.1)=false:=by rfl) :
  PE X (.Call (.Attribute o name apos) (e::es) [] cH) (Yd X.K T r to t):=by
 intro pins s σ H Q I h;refine wpAny_Call_method_late rR Yg rS rfl (aK (ho pins s σ H _ I h) λv s1 ⟨x,H1,I1,r1,ty,q1⟩=>?_);obtain⟨h1,h2⟩:=Dj I1 r1 ty;refine⟨T,id,pa,slot,Dl,h1,h2,?_⟩;have hA:=ha cH pins s1 σ H1 _ I1 q1;rw[hs] at hA ⊢;refine Calls.callWith_builtin (by show (false || (backTo cH (starEach es X.env)).any (·.1))=false;rw[hplain] <;> rfl) (Calls.evalArgs_plain ?_)
 exact aK hA λus s2 ⟨vs,H2,I2,r2,q2⟩=>hm pins s2 σ H2 x vs v us Q I2 r1 r2 q2
end
noncomputable def LR(X:Cx)(id:String)(r:V->List V->Hp->VK->Prop):Prop :=
 ∀(pins:List (Addr×Obj)) (s:Shared) (σ:St) (H:Hp) (x:V) (xs:List V) (v:Value) (us:List Value) (Q:VK),Inv X pins σ H s->RelV x v->Vals xs us->r x xs H Q->
  wpAny (model X.prog X.w) X.A (call (.builtin id) (v::us)) (EP X pins σ Q) X.xe s
theorem Vals.one:∀ {x:V} {us:List Value},Vals [x] us->∃u,us = [u]/\RelV x u
 | _,_,.cons r .nil=>⟨_,rfl,r⟩
theorem Vals.zero:∀ {us:List Value},Vals [] us->us = []
 | _,.nil=>rfl
theorem Vals.rep{xs:List V}{us:List Value}(h:Vals xs us):∀k:Nat,Vals (List.replicate k xs).flatten (List.replicate k us).flatten
 | 0=>.nil
 | k+1=>by
  rw[List.replicate_succ,List.replicate_succ,List.flatten_cons,List.flatten_cons];exact Vals.append h (Vals.rep h k)
theorem foldl_rep(aq:List Value):∀(k:Nat) (acc:List Value),
  List.foldl (λx1 x2=>x1++x2) acc.toArray (List.replicate k aq.toArray)=(acc++(List.replicate k aq).flatten).toArray
 | 0,acc=>by simp
 | k+1,acc=>by
  have e:acc.toArray++aq.toArray=(acc++aq).toArray:=by simp
  have e2:(acc++aq)++(List.replicate k aq).flatten=acc++(List.replicate (k+1) aq).flatten:=by
   rw[List.replicate_succ,List.flatten_cons,List.append_assoc]
  rw[← e2,← foldl_rep aq k (acc++aq),← e,List.replicate_succ,List.foldl_cons]
section
variable{X:Cx}{pins:List (Addr×Obj)}{σ:St}{H:Hp}{s:Shared}{l b:Addr}{xs ys zs:List V}
theorem Inv.iO{aq its':List Value}{n:Nat}{f:Array Value->Array Value}{t':Nat}(I:Inv X pins σ H s)(hH:H l=some (.lst xs))
  (e:s.heap.get? l=some { cls:=.type "list",data:=.seq aq.toArray n }) (hf:f aq.toArray=its'.toArray) (hv:Vals ys its') (hz:ys.length<=sizeLine) :
  Inv X pins σ (upd H l (.lst ys)) { s with heap:=s.heap.update l (Obj.mapSeq f),toks:=t' }:=by
 have q:=PySem.IsL.update e f;rw[hf] at q;refine I.write (x:=l) (e:=l) (by rw[hH];exact trivial) (.inl rfl) (λb' u hb hu=>(Heap.get?_update_other s.heap (Obj.mapSeq f) (Ne.symm hb)).trans hu) ⟨_,q⟩ ?_
 exact⟨hz,its',_,hv,q⟩
theorem Inv.LS{aq:List Value}{t':Nat}(I:Inv X pins σ H s)(hv:Vals ys aq)(hz:ys.length<=sizeLine) :
  Inv X pins σ (upd H s.heap.objs.size (.lst ys)) { s with heap:=s.heap.push { cls:=.type "list",data:=.seq aq.toArray },toks:=t' } :=
 I.laid (λ_ _ q=>Heap.get?_push_of_some _ q) (Nat.le_refl _) ⟨hz,aq,0,hv,Heap.get?_push_size _ rfl⟩
theorem Inv.fresh(I:Inv X pins σ H s):H s.heap.objs.size=none:=I.aD.fresh (Nat.le_refl _)
theorem Inv.pU(I:Inv X pins σ H s)(hH:H l=some (.lst xs)):xs.length<=sizeLine/\∃(aq:List Value) (n:Nat),Vals xs aq/\xs.length=aq.length/\s.heap.get? l=some { cls:=.type "list",data:=.seq aq.toArray n }:=by
 obtain⟨z,aq,n,r,e⟩:=I.aD l _ hH;exact⟨z,aq,n,r,r.length,e⟩
theorem LU{n:Nat}(h:n<=sizeLine):Builtin.List.listTooLong n=false:=by
 unfold Builtin.List.listTooLong;exact decide_eq_false (by lia)
end
section
variable{X:Cx}
noncomputable def Yh:V->List V->Hp->VK->Prop:=λx vs H Q=>∃l xs y,x = .ref l/\vs = [y]/\H l=some (.lst xs)/\xs.length<sizeLine/\Q .aI (upd H l (.lst (xs++[y])))
theorem l6:LR X "list.append" Yh:=by
 intro pins s σ H x vs v us Q I rx rv h;obtain⟨l,xs,y,rfl,rfl,hH,hz,q⟩:=h;cases rx;obtain⟨u,rfl,ru⟩:=rv.one;obtain⟨z,aq,n,r,hl,e⟩:=I.pU hH;refine call_meets F.slot_list_append ⟨_,e,rfl⟩ F.entry_list_append (F.args_list_append_2 _ _) (PySem.list_append l aq.toArray n u (by rw[List.size_toArray];lia)) ⟨e,?_⟩
 refine⟨.aI,_,I.iO (its':=aq++[u]) hH e (by simp) (r.append (.cons ru .nil)) ?_,rfl,q⟩
 rw[List.length_append,List.length_singleton];lia
noncomputable def Yi:V->List V->Hp->VK->Prop:=λx vs H Q=>∃l b xs zs,x = .ref l/\vs = [.ref b]/\H l=some (.lst xs)/\H b=some (.lst zs)/\xs.length+zs.length<=sizeLine/\Q .aI (upd H l (.lst (xs++zs)))
theorem LV:LR X "list.extend" Yi:=by
 intro pins s σ H x vs v us Q I rx rv h;obtain⟨l,b,xs,zs,rfl,rfl,hH,hB,hz,q⟩:=h;cases rx;obtain⟨u,rfl,ru⟩:=rv.one;cases ru;obtain⟨z,aq,n,r,hl,e⟩:=I.pU hH;obtain⟨z2,iP,n2,r2,rT,e2⟩:=I.pU hB;have hsz:aq.toArray.size+iP.toArray.size<=sizeLine:=by rw[List.size_toArray,List.size_toArray];lia
 have Dm:¬ (!aq.toArray.isEmpty && Builtin.List.listTooLong (aq.toArray.size+iP.toArray.size))=true:=by
  rw[LU hsz,Bool.and_false];exact Bool.false_ne_true
 refine call_meets F.slot_list_extend ⟨_,e,rfl⟩ F.entry_list_extend (F.args_list_extend_2 _ _)
  (AutoSeq1.list_extend_list_list_0 l aq.toArray n b iP.toArray n2 Dm (by rw[List.size_toArray];lia) (by lia)) ⟨e,e2,?_⟩
 refine⟨.aI,_,I.iO (its':=aq++iP) hH e (by simp) (r.append r2) ?_,rfl,q⟩
 rw[List.length_append];lia
noncomputable def ajv:V->List V->Hp->VK->Prop:=λx vs H Q=>∃l xs y,x = .ref l/\vs = []/\H l=some (.lst xs)/\xs[xs.length - 1]? = some y/\Q y (upd H l (.lst xs.dropLast))
noncomputable def ajw:V->List V->Hp->VK->Prop:=λx vs H Q=>∃l xs,x = .ref l/\vs = []/\H l=some (.lst xs)/\Q .aI (upd H l (.lst xs.reverse))
noncomputable def ajx:V->List V->Hp->VK->Prop:=λx vs H Q=>∃l xs,x = .ref l/\vs = []/\H l=some (.lst xs)/\Q .aI (upd H l (.lst []))
noncomputable def Yj:R2:=λx y H Q=>∃l b xs zs,x = .ref l/\y = .ref b/\H l=some (.lst xs)/\H b=some (.lst zs)/\xs.length+zs.length<=sizeLine/\∀p,H p=none->Q (.ref p) (upd H p (.lst (xs++zs)))
theorem Dn:c_ X (binaryOp .Add) Yj:=by
 intro pins s σ H x y v u Q I rx ry h;obtain⟨l,b,xs,zs,rfl,rfl,hH,hB,hz,q⟩:=h;cases rx;cases ry;obtain⟨z,aq,n,r,hl,e⟩:=I.pU hH;obtain⟨z2,iP,n2,r2,rT,e2⟩:=I.pU hB;refine PySem.P.add_list e e2 ?_ (by rw[List.size_toArray,List.size_toArray];lia)
 have ea:aq.toArray++iP.toArray=(aq++iP).toArray:=by simp
 rw[ea];exact⟨.ref _,_,I.LS (t':=s.toks) (r.append r2) (by rw[List.length_append];lia),rfl,q _ I.fresh⟩
noncomputable def Yk:R2:=λx y H Q=>∃l k xs,x = .ref l/\y = .int k/\H l=some (.lst xs)/\-(2 ^ 63)<=k/\k<2 ^ 63/\xs.length*k.toNat<=sizeLine/\
 ∀p,H p=none->Q (.ref p) (upd H p (.lst (List.replicate k.toNat xs).flatten))
theorem len_rep{α:Type}(xs:List α)(k:Nat):(List.replicate k xs).flatten.length=k*xs.length:=by
 induction k with
 | zero=>simp
 | succ k ih=>rw[List.replicate_succ,List.flatten_cons,List.length_append,ih,Nat.succ_mul,Nat.add_comm]
theorem vY:c_ X (binaryOp .Mult) Yk:=by
 intro pins s σ H x y v u Q I rx ry h;obtain⟨l,k,xs,rfl,rfl,hH,h1,h2,hz,q⟩:=h;cases rx;obtain⟨t,rfl⟩:=ry;obtain⟨z,aq,n,r,hl,e⟩:=I.pU hH;have hlen:aq.toArray.size*k.toNat<=sizeLine:=by rw[List.size_toArray,← hl];exact hz
 have Yl:¬ aq.toArray.size*k.toNat > (2 ^ 63 - 1) / 8:=by
  have:(sizeLine:Nat)<=(2 ^ 63 - 1) / 8:=by decide
  lia
 have Ym:¬ (!Builtin.List.listFitsIndex k)=true:=by
  rw[fitsIndex_both h1 h2];exact Bool.false_ne_true
 have Dm:¬ Builtin.List.listTooLong (aq.toArray.size*k.toNat)=true:=by
  rw[LU hlen];exact Bool.false_ne_true
 have Yn:List.foldl (λx1 x2=>x1++x2) #[] (List.replicate (if aq.toArray.isEmpty=true then 0 else k.toNat) aq.toArray)=(List.replicate k.toNat aq).flatten.toArray:=by
  have f0:∀m:Nat,List.foldl (λx1 x2=>x1++x2) #[] (List.replicate m aq.toArray)=(List.replicate m aq).flatten.toArray:=λm=>by
   have:=foldl_rep aq m [];rw[List.nil_append] at this;exact this
  rw[f0];cases aq with
  | nil=>simp
  | cons a r'=>rw[if_neg (by simp)]
 refine wpAny_binaryOp_repeat_ref (T := "list") (U := "int") (by decide) ⟨_,e,rfl⟩ (λs'=>typeIs_int s' k t) noFill_list_mul F.fills_int_mul F.slot_int_rmul repeat_list F.slot_int_index.lookup
  (call_meets F.slot_int_rmul (typeIs_int s k t) F.entry_int_rmul (F.args_int_rmul_2 _ _) (int___rmul___int_list k t l aq.toArray n)
   ⟨e,rfl,⟨_,e,rfl⟩,call_meets F.slot_list_mul ⟨_,e,rfl⟩ F.entry_list_mul (F.args_list_mul_2 _ _) (AutoListH.list___mul___list_int_3 l aq.toArray n k t Ym Yl Dm) ⟨e,?_⟩⟩)
 rw[Yn];exact⟨.ref _,_,I.LS (t':=s.toks) (r.rep k.toNat) (by rw[len_rep,Nat.mul_comm];exact hz),rfl,q _ I.fresh⟩
end
section
variable{prog:Program}{w:World}{A:Around}{E:Value->Shared->Prop}{s:Shared}
end
section
variable{X:Cx}
end
section
variable{κ:Type}[DecidableEq κ]
noncomputable def bT(kvs:List (κ×V))(k:κ):Option V:=(kvs.find? λkv=>decide (kv.1=k)).map (·.2)
noncomputable def putK(kvs:List (κ×V))(k:κ)(v:V):List (κ×V) :=
 if (kvs.any λkv=>decide (kv.1=k))=true then kvs.map (λkv=>if kv.1=k then(kv.1,v) else kv) else kvs++[(k,v)]
noncomputable def gU(kvs:List (κ×V))(k:κ):List (κ×V):=kvs.filter λkv=>decide (kv.1≠k)
theorem Dp{k:κ}:bT ([]:List (κ×V)) k=none:=rfl
theorem jJ{p:κ×V}{r:List (κ×V)}{k:κ}(e:p.1=k):bT (p::r) k=some p.2:=by simp[bT,List.find?_cons,e]
theorem jK{p:κ×V}{r:List (κ×V)}{k:κ}(e:¬ p.1=k):bT (p::r) k=bT r k:=by simp[bT,List.find?_cons,e]
theorem rW(k:κ):∀kvs:List (κ×V),(kvs.any λkv=>decide (kv.1=k))=(bT kvs k).isSome
 | []=>rfl
 | p::r=>by
  rw[List.any_cons];by_cases e:p.1=k
  ·simp only[jJ e,decide_eq_true e,Bool.true_or,Option.isSome_some]
  ·rw[jK e,decide_eq_false e,Bool.false_or];exact rW k r
theorem LW(k j:κ)(y:V):∀kvs:List (κ×V),bT (kvs.map λkv=>if kv.1=k then(kv.1,y) else kv) j=(bT kvs j).map λx=>if j=k then y else x
 | []=>rfl
 | p::r=>by
  have ih:=LW k j y r;rw[List.map_cons];by_cases h:p.1=k
  ·rw[if_pos h];by_cases e:p.1=j
   ·rw[jJ (p:=(p.1,y)) e,jJ e,Option.map_some,if_pos (e.symm.trans h)]
   ·rw[jK (p:=(p.1,y)) e,jK e,ih]
  ·rw[if_neg h];by_cases e:p.1=j
   ·rw[jJ (p:=p) e,jJ e,Option.map_some,if_neg (λz=>h (e.trans z))]
   ·rw[jK (p:=p) e,jK e,ih]
theorem LX(k j:κ)(y:V):∀kvs:List (κ×V),bT kvs k=none->bT (kvs++[(k,y)]) j=if j=k then some y else bT kvs j
 | [],_=>by
  by_cases e:k=j
  ·rw[if_pos e.symm];exact jJ (p:=(k,y)) e
  ·rw[if_neg (λz=>e z.symm)];exact jK (p:=(k,y)) e
 | p::r,hn=>by
  rw[List.cons_append];have hk:¬ p.1=k:=λz=>by rw[jJ z] at hn;cases hn
  rw[jK hk] at hn;have ih:=LX k j y r hn;by_cases e:p.1=j
  ·rw[jJ e,jJ e,if_neg (λz=>hk (e.trans z))]
  ·rw[jK e,jK e,ih]
theorem vZ(kvs:List (κ×V))(k j:κ)(y:V):bT (putK kvs k y) j=if j=k then some y else bT kvs j:=by
 unfold putK;by_cases a:(kvs.any λkv=>decide (kv.1=k))=true
 ·rw[if_pos a,LW];rw[rW] at a;by_cases e:j=k
  ·obtain⟨x,hx⟩:=Option.isSome_iff_exists.mp a;rw[if_pos e,e,hx,Option.map_some,if_pos rfl]
  ·rw[if_neg e];cases bT kvs j with
   | none=>rfl
   | some x=>rw[Option.map_some,if_neg e]
 ·rw[if_neg a];refine LX k j y kvs ?_;rw[rW] at a;cases q:bT kvs k with
  | none=>rfl
  | some x=>rw[q] at a;exact(a rfl).elim
theorem Dq(kvs:List (κ×V))(k:κ)(v:V):(putK kvs k v).length<=kvs.length+1:=by
 unfold putK;split
 ·rw[List.length_map];lia
 ·rw[List.length_append,List.length_cons,List.length_nil];lia
theorem Yo{kvs:List (κ×V)}{k:κ}(v:V)(h:bT kvs k=none):putK kvs k v=kvs++[(k,v)]:=by
 unfold putK;rw[rW,h];exact if_neg (by decide)
theorem fh.Ds{o:Option V}{u:Option Value}(r:fh o u):o.isSome=u.isSome:=by
 cases o with
 | none=>cases u with
  | none=>rfl
  | some _=>exact(show False from r).elim
 | some _=>cases u with
  | none=>exact(show False from r).elim
  | some _=>rfl
theorem fh.getD{o:Option V}{u:Option Value}{d:V}{d':Value}(r:fh o u)(rd:RelV d d'):RelV (o.getD d) (u.getD d'):=by
 cases o with
 | none=>cases u with
  | none=>exact rd
  | some _=>exact(show False from r).elim
 | some _=>cases u with
  | none=>exact(show False from r).elim
  | some _=>exact r
theorem KV.val{kvs:List (κ×V)}{vs:List (κ×Value)}(r:KV kvs vs)(k:κ):fh (bT kvs k) (valueAt vs k):=by
 unfold KV at r
 induction r with
 | nil=>exact True.intro
 | @cons p q ps qs h t ih =>
  obtain⟨h1,h2⟩:=h;by_cases e:p.1=k
  ·have e':q.1=k:=h1.symm.trans e;have b:valueAt (q::qs) k=some q.2:=by simp[valueAt,List.find?_cons,e']
   rw[jJ e,b];exact h2
  ·have e':¬ q.1=k:=λz=>e (h1.trans z);have b:valueAt (q::qs) k=valueAt qs k:=by simp[valueAt,List.find?_cons,e']
   rw[jK e,b];exact ih
theorem KV.any{kvs:List (κ×V)}{vs:List (κ×Value)}(r:KV kvs vs)(k:κ):(kvs.any λkv=>decide (kv.1=k))=vs.any λkv=>decide (kv.1=k):=by
 unfold KV at r
 induction r with
 | nil=>rfl
 | cons h t ih=>rw[List.any_cons,List.any_cons,ih,h.1]
theorem KV.Dt{kvs:List (κ×V)}{vs:List (κ×Value)}(r:KV kvs vs)(k:κ){y:V}{u:Value}(ry:RelV y u) :
  KV (kvs.map λkv=>if kv.1=k then(kv.1,y) else kv) (vs.map λkv=>if kv.1=k then(kv.1,u) else kv):=by
 unfold KV at r ⊢
 induction r with
 | nil=>exact .nil
 | @cons p q ps qs h t ih =>
  rw[List.map_cons,List.map_cons];refine .cons ?_ ih;obtain⟨h1,h2⟩:=h;by_cases e:p.1=k
  ·rw[if_pos e,if_pos (h1.symm.trans e)];exact⟨h1,ry⟩
  ·rw[if_neg e,if_neg (λz=>e (h1.trans z))];exact⟨h1,h2⟩
theorem KV.put{kvs:List (κ×V)}{vs:List (κ×Value)}(r:KV kvs vs)(k:κ){y:V}{u:Value}(ry:RelV y u):KV (putK kvs k y) (stored vs k u):=by
 unfold putK stored;rw[r.any k];by_cases e:(vs.any λkv=>decide (kv.1=k))=true
 ·rw[if_pos e,if_pos e];exact r.Dt k ry
 ·rw[if_neg e,if_neg e];exact Paired.snoc r ⟨rfl,ry⟩
theorem KV.drop{kvs:List (κ×V)}{vs:List (κ×Value)}(r:KV kvs vs)(k:κ):KV (gU kvs k) (without vs k):=by
 unfold KV at r ⊢;unfold gU without
 induction r with
 | nil=>exact .nil
 | @cons p q ps qs h t ih =>
  obtain⟨h1,h2⟩:=h;rw[List.filter_cons,List.filter_cons];by_cases e:p.1=k
  ·have a:¬ decide (p.1≠k)=true:=by simp[e]
   have b:¬ decide (q.1≠k)=true:=by simp[h1.symm.trans e]
   rw[if_neg a,if_neg b];exact ih
  ·have e':¬ q.1=k:=λz=>e (h1.trans z);have a:decide (p.1≠k)=true:=by simp[e]
   have b:decide (q.1≠k)=true:=by simp[e']
   rw[if_pos a,if_pos b];exact .cons ⟨h1,h2⟩ ih
theorem KV.length{kvs:List (κ×V)}{vs:List (κ×Value)}(r:KV kvs vs):kvs.length=vs.length:=Paired.length r
theorem Yp(kvs:List (κ×V))(k:κ):(gU kvs k).length<=kvs.length:=List.length_filter_le _ _
end
theorem nN{P:Program}{w:World}{k:Key}{u:Value}(r:RelV (kV k) u):(d9 P w).is k u=true:=by
 cases k with
 | inl i=>obtain⟨t,e⟩:=(show ∃t,u=Value.int i t from r);subst e;exact Wo P w i t
 | inr x=>obtain⟨t,e⟩:=(show ∃t,u=Value.str x t from r);subst e;exact Wq P w x t
theorem LY{P:Program}{w:World}:∀ {ks:List Key} {us:List Value},Vals (ks.map kV) us->ItemsAre (d9 P w) ks us
 | [],_,r=>by rw[List.map_nil] at r;cases r;exact .nil
 | k::ks,_,r=>by
  rw[List.map_cons] at r;cases r with
  | cons h t=>exact .cons (nN h) (LY t)
noncomputable abbrev KT(H:Hp):List (List Key×V)->List (List Key×Addr×Value)->Prop:=Paired λp q=>p.1=q.1/\H q.2.1=some (.tup (p.1.map kV))/\RelV p.2 q.2.2
theorem KT.val{H:Hp}{kvs:List (List Key×V)}{xs:List (List Key×Addr×Value)}(r:KT H kvs xs)(k:List Key):fh (bT kvs k) ((atKey xs k).map (·.2)):=by
 induction r with
 | nil=>exact True.intro
 | @cons p q ps qs h t ih =>
  obtain⟨h1,_,h2⟩:=h;by_cases e:p.1=k
  ·have e':q.1=k:=h1.symm.trans e;have b:atKey (q::qs) k=some q.2:=by simp[atKey,List.find?_cons,e']
   rw[jJ e,b];exact h2
  ·have e':¬ q.1=k:=λz=>e (h1.trans z);have b:atKey (q::qs) k=atKey qs k:=by simp[atKey,List.find?_cons,e']
   rw[jK e,b];exact ih
theorem KT.Dt{H:Hp}{kvs:List (List Key×V)}{xs:List (List Key×Addr×Value)}(r:KT H kvs xs)(k:List Key){y:V}{u:Value}(ry:RelV y u) :
  KT H (kvs.map λkv=>if kv.1=k then(kv.1,y) else kv) (xs.map (putAt k u)):=by
 induction r with
 | nil=>exact .nil
 | @cons p q ps qs h t ih =>
  rw[List.map_cons,List.map_cons];refine .cons ?_ ih;obtain⟨h1,h2,h3⟩:=h;unfold putAt;by_cases e:p.1=k
  ·rw[if_pos e,if_pos (h1.symm.trans e)];exact⟨h1,h2,ry⟩
  ·rw[if_neg e,if_neg (λz=>e (h1.trans z))];exact⟨h1,h2,h3⟩
theorem KT.put{H:Hp}{kvs:List (List Key×V)}{xs:List (List Key×Addr×Value)}(r:KT H kvs xs)(k:List Key){b:Addr}{y:V}{u:Value}(hb:H b=some (.tup (k.map kV)))(ry:RelV y u) :
  KT H (putK kvs k y) (storedH xs k b u):=by
 have e:(kvs.any λkv=>decide (kv.1=k))=(atKey xs k).isSome:=by
  rw[rW,(r.val k).Ds,Option.isSome_map]
 unfold putK storedH;rw[e];by_cases q:(atKey xs k).isSome=true
 ·rw[if_pos q,if_pos q];exact r.Dt k ry
 ·rw[if_neg q,if_neg q];exact Paired.snoc r ⟨rfl,hb,ry⟩
theorem KT.keeps{H H':Hp}{kvs:List (List Key×V)}{xs:List (List Key×Addr×Value)}(r:KT H kvs xs)(ht:∀b ys,H b=some (.tup ys)->H' b=some (.tup ys)):KT H' kvs xs :=
 Paired.Cw r λ_ _ z=>⟨z.1,ht _ _ z.2.1,z.2.2⟩
section
variable{P:Program}{w:World}{H:Hp}{h:Heap}{a:Addr}
theorem LZ{u:HO}(ok:b_ P w H h)(e:Rd H a u):cL P w H h a u:=e.ok ok
theorem nO{kvs:List (Key×V)}(ok:b_ P w H h)(e:Rd H a (.dK kvs)):kvs.length<=sizeLine/\(a == sysModules)=false/\∃vs,KV kvs vs/\h.DictOf (d9 P w) a vs :=
 show cL P w H h a (.dK kvs) from LZ ok e
theorem Du{kvs:List (Key×V)}(ok:b_ P w H h)(e:H a=some (.dK kvs)):kvs.length<=sizeLine/\(a == sysModules)=false/\∃vs,KV kvs vs/\h.DictOf (d9 P w) a vs:=nO ok (.inl e)
theorem pW{ks:List Key}(ok:b_ P w H h)(e:H a=some (.tup (ks.map kV))):(tupleKind (d9 P w)).is h ks a:=by
 obtain⟨_,aq,r,o,h1,h2,n,h3⟩:=(show cL P w H h a (.tup (ks.map kV)) from ok a _ e);exact⟨o,aq.toArray,n,h1,h2,h3,by simpa using LY r⟩
theorem nQ{kvs:List (List Key×V)}(ok:b_ P w H h)(e:Rd H a (.dT kvs)):kvs.length<=sizeLine/\(a == sysModules)=false/\
  ∃xs,KT H kvs xs/\h.DictOfH (tupleKind (d9 P w)) a xs:=by
 obtain⟨z,y,xs,r,o,es,ep,h1,h2,h3,h4,h5⟩:=(show cL P w H h a (.dT kvs) from LZ ok e);refine⟨z,y,xs,r,o,es,ep,h1,h2,h3,h4,λx hx=>?_,h5⟩;have all:∀ {l:List (List Key×V)} {m:List (List Key×Addr×Value)},KT H l m->∀x∈m,(tupleKind (d9 P w)).is h x.1 x.2.1:=by
  intro l m q
  induction q with
  | nil=>intro x hx;exact nomatch hx
  | @cons p q ps qs hq t ih =>
   intro x hx;rcases List.mem_cons.mp hx with e | hx
   ·subst e;exact pW ok (by rw[← hq.1];exact hq.2.1)
   ·exact ih x hx
 exact all r x hx
theorem Yq{kvs:List (List Key×V)}(ok:b_ P w H h)(e:H a=some (.dT kvs)):kvs.length<=sizeLine/\(a == sysModules)=false/\
  ∃xs,KT H kvs xs/\h.DictOfH (tupleKind (d9 P w)) a xs:=nQ ok (.inl e)
end
noncomputable def e8(H:Hp)(a:Addr)(y:V)(r:Option V):Prop :=
 (∃kvs k,Rd H a (.dK kvs)/\y=kV k/\r=bT kvs k)\/∃kvs k b,Rd H a (.dT kvs)/\y = .ref b/\H b=some (.tup (k.map kV))/\r=bT kvs k
noncomputable def kC(H:Hp)(a:Addr)(y v:V)(H':Hp):Prop :=
 (∃kvs k,H a=some (.dK kvs)/\y=kV k/\kvs.length<sizeLine/\H' = upd H a (.dK (putK kvs k v)))\/
 ∃kvs k b,H a=some (.dT kvs)/\y = .ref b/\H b=some (.tup (k.map kV))/\kvs.length<sizeLine/\H' = upd H a (.dT (putK kvs k v))
theorem e8.k{H:Hp}{a:Addr}{kvs:List (Key×V)}{k:Key}(e:H a=some (.dK kvs)):e8 H a (kV k) (bT kvs k):=.inl ⟨kvs,k,.inl e,rfl,rfl⟩
theorem e8.t{H:Hp}{a b:Addr}{kvs:List (List Key×V)}{k:List Key}(e:H a=some (.dT kvs))(eb:H b=some (.tup (k.map kV))):e8 H a (.ref b) (bT kvs k):=.inr ⟨kvs,k,b,.inl e,rfl,eb,rfl⟩
theorem kC.k{H:Hp}{a:Addr}{kvs:List (Key×V)}{k:Key}{v:V}(e:H a=some (.dK kvs))(hl:kvs.length<sizeLine):kC H a (kV k) v (upd H a (.dK (putK kvs k v))):=.inl ⟨kvs,k,e,rfl,hl,rfl⟩
theorem kC.t{H:Hp}{a b:Addr}{kvs:List (List Key×V)}{k:List Key}{v:V}(e:H a=some (.dT kvs))(eb:H b=some (.tup (k.map kV)))(hl:kvs.length<sizeLine) :
  kC H a (.ref b) v (upd H a (.dT (putK kvs k v))):=.inr ⟨kvs,k,b,e,rfl,eb,hl,rfl⟩
section
variable{X:Cx}{pins:List (Addr×Obj)}{σ:St}{H:Hp}{s:Shared}{a:Addr}{y v:V}{u r:Value}{o:Option V}{A:Around}{E:Value->Shared->Prop}
theorem Inv.big(I:Inv X pins σ H s):sysModules<s.heap.objs.size:=by
 have h:mainGlobals<s.heap.objs.size:=(I.mod.glob.keeps I.bk).lt;exact Nat.lt_trans (by decide) h
theorem Yr{Q:Value->Shared->Prop}(hu:A.units+1<cLine)(I:Inv X pins σ H s)(g:e8 H a y (some v))(ry:RelV y u)(h:∀w' s',Inv X pins σ H s'->RelV v w'->Q w' s') :
  wpAny (model X.prog X.w) A (getItem (.ref a) u) Q E s:=by
 rcases g with⟨kvs,k,e,ey,l⟩ | ⟨kvs,k,b,e,ey,eb,l⟩
 ·subst ey;obtain⟨z,hd,vs,rel,dd⟩:=nO I.aD e;obtain⟨w',hw,gf⟩:=fh.some_of (v:=v) (o:=valueAt vs k) (by rw[l];exact rel.val k)
  exact wpAny_getItem_of (nN ry) dd.mapOf hw (h w' _ (I.tok _) gf)
 ·subst ey;cases (show u=Value.ref b from ry);obtain⟨z,hd,xs,rel,dd⟩:=nQ I.aD e;obtain⟨w',hw,gf⟩:=fh.some_of (v:=v) (o:=(atKey xs k).map (·.2)) (by rw[l];exact rel.val k)
  obtain⟨p,hp,jL⟩:=Option.map_eq_some_iff.mp hw;refine wpAny_getItem_heap (tupleKind_room_in1 hu) (pW I.aD eb) dd hp ?_;rw[jL];exact h w' _ (I.tok _) gf
theorem Ys{Q:Value->Shared->Prop}(hu:A.units+1<cLine)(I:Inv X pins σ H s)(g:e8 H a y o)(ry:RelV y u)(h:∀s',Inv X pins σ H s'->Q (.bool o.isSome) s') :
  wpAny (model X.prog X.w) A (compareOp .In u (.ref a)) Q E s:=by
 rcases g with⟨kvs,k,e,ey,l⟩ | ⟨kvs,k,b,e,ey,eb,l⟩
 ·subst ey;obtain⟨z,hd,vs,rel,dd⟩:=nO I.aD e;refine wpAny_in_of (nN ry) hd dd.mapOf ?_;rw[← (rel.val k).Ds,← l];exact h _ (I.tok _)
 ·subst ey;cases (show u=Value.ref b from ry);obtain⟨z,hd,xs,rel,dd⟩:=nQ I.aD e;refine wpAny_in_heap (tupleKind_room_in1 hu) (pW I.aD eb) hd dd ?_;have q:=(rel.val k).Ds;rw[Option.isSome_map] at q;rw[← q,← l];exact h _ (I.tok _)
theorem Dv{h':Heap}{t':Nat}{ob:HO}(I:Inv X pins σ H s)(mu:rq (H a))(hs:Heap.SameBut a s.heap h')(he:∃q,h'.get? a=some q)(new:cL X.prog X.w (upd H a ob) h' a ob) :
  Inv X pins σ (upd H a ob) { s with heap:=h',toks:=t' } :=
 I.write (x:=a) (e:=a) mu (.inl rfl) (λb q hb z=>(hs.2 b hb).trans z) he new
theorem L4{P:Program}{w:World}{H':Hp}{h':Heap}{kvs:List (Key×V)}{vs:List (Key×Value)}(z:kvs.length<=sizeLine)(hd:(a == sysModules)=false)(rel:KV kvs vs)(dd:h'.DictOf (d9 P w) a vs) :
  cL P w H' h' a (.dK kvs):=⟨z,hd,vs,rel,dd⟩
theorem Yt{H':Hp}{Q:Unit->Shared->Prop}(hu:A.units+1<cLine)(I:Inv X pins σ H s)(g:kC H a y v H')(ry:RelV y u)(rv:RelV v r)(h:∀s',Inv X pins σ H' s'->Q () s') :
  wpAny (model X.prog X.w) A (setItem (.ref a) u r) Q E s:=by
 rcases g with⟨kvs,k,e,ey,l,eH⟩ | ⟨kvs,k,b,e,ey,eb,l,eH⟩
 ·subst ey eH;obtain⟨z,hd,vs,rel,dd⟩:=Du I.aD e;have hz:vs.length<=sizeLine:=by rw[← rel.length];exact z
  have hl:(putK kvs k v).length<=sizeLine:=by have:=Dq kvs k v;lia
  refine wpAny_setItem_pairs (hsz:=hz) (nN ry) dd λh' nU hs=>h _ ?_;have he:∃q,h'.get? a=some q:=let ⟨q,_,_,hq,_⟩:=nU;⟨q,hq⟩
  exact Dv I (by rw[e];exact True.intro) hs he (L4 hl hd (rel.put k rv) nU)
 ·subst ey eH;cases (show u=Value.ref b from ry);obtain⟨z,hd,xs,rel,dd⟩:=Yq I.aD e;have hz:xs.length<=sizeLine:=by rw[← Paired.length rel];exact z
  have hl:(putK kvs k v).length<=sizeLine:=by have:=Dq kvs k v;lia
  refine wpAny_setItem_heap (hsz:=hz) (tupleKind_room_in1 hu) (pW I.aD eb) dd λh' nU hs=>h _ ?_;obtain⟨q,es,ep,hq,h2,h3,h4,_,h5⟩:=nU;refine Dv I (by rw[e];exact True.intro) hs ⟨q,hq⟩ ⟨hl,hd,_,(rel.put k eb rv).keeps λc ys ec=>?_,q,es,ep,hq,h2,h3,h4,h5⟩
  rw[az (pF ec e (λz=>nomatch z))];exact ec
end
section
variable{X:Cx}{pins:List (Addr×Obj)}{σ:St}{H:Hp}{s:Shared}{a:Addr}{kvs:List (Key×V)}{k:Key}{u:Value}{A:Around}{E:Value->Shared->Prop}
theorem Yu{v:V}{more:List Value}{Q:Value->Shared->Prop}(I:Inv X pins σ H s)(e:H a=some (.dK kvs))(ry:RelV (kV k) u)(l:bT kvs k=some v)(hm:more = []\/∃x,more = [x])
  (h:∀w' s',Inv X pins σ (upd H a (.dK (gU kvs k))) s'->RelV v w'->Q w' s'):wpAny (model X.prog X.w) A (call (.builtin "dict.pop") (.ref a::u::more)) Q E s:=by
 obtain⟨z,hd,vs,rel,dd⟩:=Du I.aD e;obtain⟨w',hw,gf⟩:=fh.some_of (v:=v) (o:=valueAt vs k) (by rw[← l];exact rel.val k)
 have hp:(keyPart u).isSome=true:=by
  cases k with
  | inl i=>obtain⟨t,q⟩:=(show ∃t,u=Value.int i t from ry);subst q;rfl
  | inr x=>obtain⟨t,q⟩:=(show ∃t,u=Value.str x t from ry);subst q;rfl
 have ha:argsOk "dict.pop" ⟨.ref a::u::more,[]⟩:=by
  rcases hm with q | ⟨x,q⟩
  ·subst q;exact PySem.F.args_dict_pop_2 _ _
  ·subst q;exact PySem.F.args_dict_pop_3 _ _ _
 refine call_meetsIn PySem.F.slot_dict_pop dd.typeIs PySem.F.entry_dict_pop ha (meets_dict_pop_there (d9 X.prog X.w) a (nN ry) more hm hp)
  ⟨vs,w',dd,by rw[← rel.length];exact z,hw,λh' nU hs=>h w' _ ?_ gf⟩
 have he:∃q,h'.get? a=some q:=let ⟨q,_,_,hq,_⟩:=nU;⟨q,hq⟩
 exact Dv I (by rw[e];exact True.intro) hs he (L4 (Nat.le_trans (Yp kvs k) z) hd (rel.drop k) nU)
end
noncomputable def L5(i:Expr):Prop:=∀ov iv,subscripted i false ov iv=operate [ov,iv] (getItem ov iv)
theorem Yv{prog:Program}{w:World}{A:Around}{E:Value->Shared->Prop}{s:Shared}{env:Env}{value slice:Expr}{pos:Pos}{T id:String}{Q:Value->Shared->Prop}
  (hl:typeLookup (.type T) "__getitem__" = pure (some (.builtin id))) (hs:L5 slice)
  (h:wpAny (model prog w) A (eval value env) (λo aP=>wpAny (model prog w) A (eval slice env) (λi iJ=>iJ.TypeIs o T/\wpAny (model prog w) A (getItem o i) Q E iJ) E aP) E s) :
  wpAny (model prog w) A (eval (.Subscript value slice pos) env) Q E s:=by
 refine Subscript_ (wpAny_mono h (λo aP kD=>wpAny_mono kD (λi iJ nW=>?_) λ_ _ x=>x) λ_ _ x=>x);obtain⟨hT,nW⟩:=nW;unfold subscriptTail;refine wpAny_bind ?_;rw[getitemInPython_of_ne hT.not_modules];refine wpAny_bind (wpAny_specialOf hT hl ?_);have fin:wpAny (model prog w) A (subscripted slice false o i) (λr jg=>wpAny (model prog w) A (letTemporaryGo value o r >>= λ_=>pure r) Q E jg) E iJ:=by
  rw[hs o i];exact wpAny_operating (wpAny_mono nW (λr jg v_=>wpAny_bind (wpAny_letTemporaryGo (wpAny_pure v_))) λ_ _ x=>x)
 first
  | exact wpAny_pure (wpAny_bind fin)
  | exact wpAny_bind (wpAny_pure (wpAny_bind fin))
  | exact wpAny_bind fin
theorem Yw{X:Cx}{pins:List (Addr×Obj)}{σ:St}{H:Hp}{s:Shared}{a:Addr}{y:V}{o:Option V}(I:Inv X pins σ H s)(g:e8 H a y o):s.TypeIs (.ref a) "dict" := by
 rcases g with⟨kvs,k,e,_,_⟩ | ⟨kvs,k,b,e,_,_,_⟩
 ·obtain⟨_,_,vs,_,dd⟩:=nO I.aD e;exact dd.typeIs
 ·obtain⟨_,_,xs,_,dd⟩:=nQ I.aD e;exact dd.typeIs
noncomputable def Yx(td ty:TE):TE:=λσ H Q=>td σ H λx H1=>ty σ H1 λy H2=>∃a v,x = .ref a/\e8 H2 a y (some v)/\Q v H2
noncomputable def Yy(ty td:TE):TE:=λσ H Q=>ty σ H λy H1=>td σ H1 λx H2=>∃a o,x = .ref a/\e8 H2 a y o/\Q (.bl o.isSome) H2
noncomputable def ajy(ty td:TE):TE:=λσ H Q=>ty σ H λy H1=>td σ H1 λx H2=>∃a o,x = .ref a/\e8 H2 a y o/\Q (.bl (!o.isSome)) H2
noncomputable def Yz(td ty tv:TE):TS:=λD σ H=>tv σ H λv H1=>td σ H1 λx H2=>ty σ H2 λy H3=>∃a H4,x = .ref a/\kC H3 a y v H4/\D.nx σ H4
section
variable{X:Cx}{o i e value:Expr}{pos pos' Xr:Pos}{td ty tv:TE}
theorem YA(hu:X.A.units+1<cLine)(ho:PE X o td)(hi:PE X i ty)(hs:L5 i):PE X (.Subscript o i pos) (Yx td ty):=by
 intro pins s σ H Q I h;refine Yv PySem.F.slot_dict_getitem.lookup hs (aK (ho pins s σ H _ I h) λu s1 ⟨x,H1,I1,rx,q1⟩=>aK (hi pins s1 σ H1 _ I1 q1) λiv s2 ⟨y,H2,I2,ry,a,v,ex,g,q2⟩=>?_);subst ex;obtain rfl:u=Value.ref a:=rx;exact⟨Yw I2 g,Yr hu I2 g ry λw' s3 I3 gf=>⟨v,H2,I3,gf,q2⟩⟩
theorem Dw(hu:X.A.units+1<cLine)(hi:PE X i ty)(ho:PE X o td):PC X .In i o (Yy ty td):=by
 intro pins s σ H Q I h;refine aK (hi pins s σ H _ I h) λiv s1 ⟨y,H1,I1,ry,q1⟩=>aK (ho pins s1 σ H1 _ I1 q1) λu s2 ⟨x,H2,I2,rx,a,ov,ex,g,q2⟩=>?_;subst ex;obtain rfl:u=Value.ref a:=rx;exact Ys hu I2 g ry λs3 I3=>⟨.bl ov.isSome,H2,I3,rfl,q2⟩
theorem wc(hu:X.A.units+1<cLine)(ho:PE X o td)(hi:PE X i ty)(hv:PE X value tv)(hs:swapsWith value (some (.Subscript o i pos')) pos.line X.env=pure false) :
  PS X (.Assign [.Subscript o i pos'] value pos) (Yz td ty tv):=by
 intro pins s σ H D I h;refine wpAny_Assign_Subscript (aK (hv pins s σ H _ I h) λr s1 ⟨v,H1,I1,rv,q1⟩=>aK (ho pins s1 σ H1 _ I1 q1) λu s2 ⟨x,H2,I2,rx,q2⟩=>aK (hi pins s2 σ H2 _ I2 q2) λiv s3 ⟨y,H3,I3,ry,a,H4,ex,g,q3⟩=>?_) hs;subst ex;obtain rfl:u=Value.ref a:=rx;exact Yt hu I3 g ry rv λs4 I4=>⟨σ,H4,I4,q3⟩
end
theorem YB{P:Program}{w:World}{H:Hp}(h:Heap)(hb:sysModules<h.objs.size):cL P w H (h.push { cls:=.type "dict",data:=.dict #[] }) h.objs.size (.dK []) :=
 ⟨Nat.zero_le _,beq_eq_false_iff_ne.mpr (Ne.symm (Nat.ne_of_lt hb)),[],.nil,Heap.DictOf.new h⟩
theorem YC{P:Program}{w:World}{H:Hp}(h:Heap)(hb:sysModules<h.objs.size):cL P w H (h.push { cls:=.type "dict",data:=.dict #[] }) h.objs.size (.dT []) :=
 ⟨Nat.zero_le _,beq_eq_false_iff_ne.mpr (Ne.symm (Nat.ne_of_lt hb)),[],.nil,_,#[],0,Heap.get?_push_size _ rfl,⟨rfl,rfl,rfl⟩,rfl,rfl,List.nodup_nil⟩
noncomputable def YD:TE:=λ_ H Q=>∀p,H p=none->Q (.ref p) (upd H p (.dK []))
noncomputable def YE:TE:=λ_ H Q=>∀p,H p=none->Q (.ref p) (upd H p (.dT []))
section
variable{X:Cx}{pos:Pos}
theorem rX:PE X (.Dict [] [] pos) YD:=λpins s σ H Q I h =>
 wpAny_Dict_empty ⟨.ref s.heap.objs.size,_,I.laid (a:=s.heap.objs.size) (o:=.dK []) (t':=s.toks) (λ_ _ q=>Heap.get?_push_of_some _ q) (Nat.le_refl _) (YB s.heap I.big),rfl,h _ (I.aD.fresh (Nat.le_refl _))⟩
theorem YF:PE X (.Dict [] [] pos) YE:=λpins s σ H Q I h =>
 wpAny_Dict_empty ⟨.ref s.heap.objs.size,_,I.laid (a:=s.heap.objs.size) (o:=.dT []) (t':=s.toks) (λ_ _ q=>Heap.get?_push_of_some _ q) (Nat.le_refl _) (YC s.heap I.big),rfl,h _ (I.aD.fresh (Nat.le_refl _))⟩
end
structure M1(X:Cx)(o:Expr)(m:Str)(apos:Pos)(e:Expr)(cH:Pos):Prop where
 base:attributeBase o m X.env (eval o X.env)=eval o X.env
 wg:((backTo cH (starEach [e] X.env)).all (λx => !x.1) && (backToKw cH (keywordEach [] X.env)).all (λx=>x.1.isSome)
  && decide (([e]:List Expr).length+([]:List Keyword).length+(if ([]:List Keyword).isEmpty then 0 else 1)<30))=true
 line:(apos.endLine == cH.line)=true
 trees:backTo cH (starEach [e] X.env) = [(false,eval e X.env)]
structure M2(X:Cx)(o:Expr)(m:Str)(apos:Pos)(e f:Expr)(cH:Pos):Prop where
 base:attributeBase o m X.env (eval o X.env)=eval o X.env
 wg:((backTo cH (starEach [e,f] X.env)).all (λx => !x.1) && (backToKw cH (keywordEach [] X.env)).all (λx=>x.1.isSome)
  && decide (([e,f]:List Expr).length+([]:List Keyword).length+(if ([]:List Keyword).isEmpty then 0 else 1)<30))=true
 line:(apos.endLine == cH.line)=true
 trees:backTo cH (starEach [e,f] X.env) = [(false,eval e X.env),(false,eval f X.env)]
noncomputable def wj(H:Hp)(a:Addr):Prop:=(∃kvs,Rd H a (.dK kvs))\/∃kvs,Rd H a (.dT kvs)
theorem Dy{X:Cx}{pins:List (Addr×Obj)}{σ:St}{H:Hp}{s:Shared}{a:Addr}(I:Inv X pins σ H s)(d:wj H a) :
  s.TypeIs (.ref a) "dict"/\(∀b,Value.ref a = .ref b->∃ob,s.heap.get? b=some ob/\ob.dict=none)/\(a == sysModules)=false:=by
 rcases d with⟨kvs,e⟩ | ⟨kvs,e⟩
 ·obtain⟨_,hd,vs,_,dd⟩:=nO I.aD e;refine⟨dd.typeIs,λb q=>?_,hd⟩;cases q;obtain⟨ob,_,_,h1,h2,_⟩:=dd;exact⟨ob,h1,h2.2.1⟩
 ·obtain⟨_,hd,xs,_,dd⟩:=nQ I.aD e;refine⟨dd.typeIs,λb q=>?_,hd⟩;cases q;obtain⟨ob,_,_,h1,h2,_⟩:=dd;exact⟨ob,h1,h2.2.1⟩
section
variable{X:Cx}{pins:List (Addr×Obj)}{σ:St}{H:Hp}{s:Shared}{a:Addr}{y d:V}{u r:Value}{o:Option V}{A:Around}{E:Value->Shared->Prop}
theorem YG{Q:Value->Shared->Prop}(hu:A.units+1<cLine)(I:Inv X pins σ H s)(g:e8 H a y o)(ry:RelV y u)(h:∀w' s',Inv X pins σ H s'->RelV (o.getD .aI) w'->Q w' s') :
  wpAny (model X.prog X.w) A (call (.builtin "dict.get") [.ref a,u]) Q E s:=by
 rcases g with⟨kvs,k,e,ey,l⟩ | ⟨kvs,k,b,e,ey,eb,l⟩
 ·subst ey;obtain⟨z,hd,vs,rel,dd⟩:=nO I.aD e;refine call_meetsIn PySem.F.slot_dict_get dd.typeIs PySem.F.entry_dict_get (PySem.F.args_dict_get_2 _ _) (meets_dict_get (d9 X.prog X.w) a (nN ry) hd) ⟨_,dd.mapOf,h _ _ (I.tok _) ?_⟩;rw[l];exact(rel.val k).getD rfl
 ·subst ey;cases (show u=Value.ref b from ry);obtain⟨z,hd,xs,rel,dd⟩:=nQ I.aD e;refine call_meetsIn PySem.F.slot_dict_get dd.typeIs PySem.F.entry_dict_get (PySem.F.args_dict_get_2 _ _) (meetsH_dict_get (tupleKind (d9 X.prog X.w)) a b hd) ⟨tupleKind_room_in1 hu,k,xs,pW I.aD eb,dd,h _ _ (I.tok _) ?_⟩;rw[l];exact(rel.val k).getD rfl
theorem YH{Q:Value->Shared->Prop}(hu:A.units+1<cLine)(I:Inv X pins σ H s)(g:e8 H a y o)(ry:RelV y u)(rd:RelV d r)(h:∀w' s',Inv X pins σ H s'->RelV (o.getD d) w'->Q w' s') :
  wpAny (model X.prog X.w) A (call (.builtin "dict.get") [.ref a,u,r]) Q E s:=by
 rcases g with⟨kvs,k,e,ey,l⟩ | ⟨kvs,k,b,e,ey,eb,l⟩
 ·subst ey;obtain⟨z,hd,vs,rel,dd⟩:=nO I.aD e;refine call_meetsIn PySem.F.slot_dict_get dd.typeIs PySem.F.entry_dict_get (PySem.F.args_dict_get_3 _ _ _) (meets_dict_get_default (d9 X.prog X.w) a (nN ry) hd r) ⟨_,dd.mapOf,h _ _ (I.tok _) ?_⟩;rw[l];exact(rel.val k).getD rd
 ·subst ey;cases (show u=Value.ref b from ry);obtain⟨z,hd,xs,rel,dd⟩:=nQ I.aD e;refine call_meetsIn PySem.F.slot_dict_get dd.typeIs PySem.F.entry_dict_get (PySem.F.args_dict_get_3 _ _ _) (meetsH_dict_get_default (tupleKind (d9 X.prog X.w)) a b hd r) ⟨tupleKind_room_in1 hu,k,xs,pW I.aD eb,dd,h _ _ (I.tok _) ?_⟩;rw[l];exact(rel.val k).getD rd
end
noncomputable def YI(td ty:TE):TE:=λσ H Q=>td σ H λx H1=>∃a,x = .ref a/\wj H1 a/\ty σ H1 λy H2=>∃o,e8 H2 a y o/\Q (o.getD .aI) H2
noncomputable def L6(td ty tx:TE):TE:=λσ H Q=>td σ H λx H1=>∃a,x = .ref a/\wj H1 a/\ty σ H1 λy H2=>tx σ H2 λz H3=>∃o,e8 H3 a y o/\Q (o.getD z) H3
noncomputable def L8(td ty:TE):TE:=λσ H Q=>td σ H λx H1=>∃a,x = .ref a/\wj H1 a/\ty σ H1 λy H2=>∃kvs k v,H2 a=some (.dK kvs)/\y=kV k/\bT kvs k=some v/\Q v (upd H2 a (.dK (gU kvs k)))
section
variable{X:Cx}{o e f:Expr}{apos cH:Pos}{td ty tx:TE}
theorem YJ(hu:X.A.units+1<cLine)(ho:PE X o td)(he:PE X e ty)(m:M1 X o "get" apos e cH):PE X (.Call (.Attribute o "get" apos) [e] [] cH) (YI td ty):=by
 intro pins s σ H Q I h;refine wpAny_Call_method m.base m.wg m.line PySem.F.plainAttrs_dict PySem.F.slot_dict_get PySem.F.type_dict_get (aK (ho pins s σ H _ I h) λu s1 ⟨x,H1,I1,rx,a,ex,d,q1⟩=>?_);subst ex;obtain rfl:u=Value.ref a:=rx;obtain⟨t1,t2,_⟩:=Dy I1 d;refine⟨t1,t2,?_⟩;rw[m.trees];refine Calls.callWith_builtin rfl (Calls.evalArgs_plain (Calls.spliced_cons (aK (he pins s1 σ H1 _ I1 q1) λiv s2 ⟨y,H2,I2,ry,ov,g,q2⟩=>Calls.spliced_nil ?_)));exact YG hu I2 g ry λw' s3 I3 gf=>⟨_,H2,I3,gf,q2⟩
theorem YK(hu:X.A.units+1<cLine)(ho:PE X o td)(he:PE X e ty)(hf:PE X f tx)(m:M2 X o "get" apos e f cH):PE X (.Call (.Attribute o "get" apos) [e,f] [] cH) (L6 td ty tx):=by
 intro pins s σ H Q I h;refine wpAny_Call_method m.base m.wg m.line PySem.F.plainAttrs_dict PySem.F.slot_dict_get PySem.F.type_dict_get (aK (ho pins s σ H _ I h) λu s1 ⟨x,H1,I1,rx,a,ex,d,q1⟩=>?_);subst ex;obtain rfl:u=Value.ref a:=rx;obtain⟨t1,t2,_⟩:=Dy I1 d;refine⟨t1,t2,?_⟩;rw[m.trees];refine Calls.callWith_builtin rfl (Calls.evalArgs_plain (Calls.spliced_cons (aK (he pins s1 σ H1 _ I1 q1) λiv s2 ⟨y,H2,I2,ry,q2⟩ =>
  Calls.spliced_cons (aK (hf pins s2 σ H2 _ I2 q2) λfv s3 ⟨z,H3,I3,rz,ov,g,q3⟩=>Calls.spliced_nil ?_))))
 exact YH hu I3 g ry rz λw' s4 I4 gf=>⟨_,H3,I4,gf,q3⟩
theorem YL(ho:PE X o td)(he:PE X e ty)(m:M1 X o "pop" apos e cH):PE X (.Call (.Attribute o "pop" apos) [e] [] cH) (L8 td ty):=by
 intro pins s σ H Q I h;refine wpAny_Call_method m.base m.wg m.line PySem.F.plainAttrs_dict PySem.F.slot_dict_pop PySem.F.type_dict_pop (aK (ho pins s σ H _ I h) λu s1 ⟨x,H1,I1,rx,a,ex,d,q1⟩=>?_);subst ex;obtain rfl:u=Value.ref a:=rx;obtain⟨t1,t2,_⟩:=Dy I1 d;refine⟨t1,t2,?_⟩;rw[m.trees];refine Calls.callWith_builtin rfl (Calls.evalArgs_plain (Calls.spliced_cons (aK (he pins s1 σ H1 _ I1 q1) λiv s2 ⟨y,H2,I2,ry,kvs,k,v,ea,ey,l,q2⟩=>Calls.spliced_nil ?_)));subst ey;exact Yu I2 ea ry l (.inl rfl) λw' s3 I3 gf=>⟨v,_,I3,gf,q2⟩
end
section
variable{X:Cx}{pins:List (Addr×Obj)}{σ:St}{H:Hp}{s:Shared}{a:Addr}{kvs:List (Key×V)}{A:Around}{E:Value->Shared->Prop}
end
section
variable{X:Cx}{pins:List (Addr×Obj)}{σ:St}{H:Hp}{s:Shared}{a:Addr}{y:V}{u:Value}{A:Around}{E:Value->Shared->Prop}
end
end _L
namespace Dz
open PySem PySem.W PySem.Calls PyProof.Rows
theorem YM{P:Params}{h:Heap}:∀(ns:List Int) (vs:List Value),WellAll P h vs (ns.map WData.int)->IntsAre vs ns:=by
 intro ns
 induction ns with
 | nil =>
  intro vs w;rw[List.map_nil] at w;cases w;exact .nil
 | cons n ns ih =>
  intro vs w;rw[List.map_cons] at w;cases w with
  | cons a b =>
   cases a;exact .cons _ _ (ih _ b)
theorem YN{l:OpenLaw}{n:Nat}(hn:l.most=some n){P:Params}{h:Heap}{args:List WData}{vals:List Value}
  (wk:l.row.toRowW.claim.pre args=true) (DA:WellAll P h vals args) :
  ∃a vs ns,vals = [Value.ref a]/\args = [WData.list (ns.map WData.int)]/\h.get? a=some { cls:=.type "list",data:=.seq vs.toArray }/\IntsAre vs ns/\ns.length<=n:=by
 have YO:WShape.hasAll [] args [.list .int] = true:=(pre_splitW wk).1;have hc:l.pre.holds [] { args:=args }=true:=(pre_splitW wk).2;obtain⟨d,r,rfl,h1,h2⟩:=hasAllW_cons YO;obtain rfl:=hasAllW_nil h2;obtain⟨xs,rfl,h3⟩:=hasW_list h1;obtain⟨ns,rfl⟩:=items_int h3;have hlen:ns.length<=n:=by
  unfold OpenLaw.pre at hc;have h4:(WTm.not (.lt (.lit (.int (n:Int))) (.len (.arg 0)))).holds [] { args:=[.list (ns.map .int)] }=true:=by
   have h4:=(holds_andW hc).1;rw[hn] at h4;exact h4
  have h5:=condW_of h4 (w_not (w_lt w_lit (w_len_list (w_arg rfl))));rw[List.length_map] at h5;refine Nat.le_of_not_lt λq=>?_
  have q':(n:Int)<((ns.length:Nat):Int):=by lia
  first
   | (rw[decide_eq_true q'] at h5;exact absurd h5 (by decide))
   | (simp at h5;lia)
 cases DA with
 | cons w1 w2 =>
  cases w2;cases w1 with
  | list ho YQ=>exact⟨_,_,ns,rfl,rfl,ho,YM ns _ YQ,hlen⟩
theorem YR(l:OpenLaw)(args:List WData):l.row.toRowW.claim.post args (.bool true) args=true :=
 postW_of (r:=l.row.toRowW) (X:=(true == true))
  (show WShape.has [] (.bool true) .bool=true by first | rfl | decide | simp[WShape.has,WShape.arms,WShape.armsAll])
  (show (WTm.eq .res (.lit (.bool true))).value [] { args:=args,res:=some (.bool true),after:=args }=some (.bool (true == true)) from w_eq_bool (w_res rfl) w_lit) rfl
theorem L_{l:OpenLaw}{n:Nat}{q:Program}{loose:List Str}{XP:(Str->Option Value)->Heap->Prop}{YP:World->Heap->Prop}{d:DefRec}
  (hn:l.most=some n) (nX:d.params.defaults = [])
  (call:∀(w:World) (bx aP:Shared) (mg mb:Str->Option Value) (fa:Addr) (o:Obj) (pm cd doc:Value) (a:Addr) (vs:List Value) (ns:List Int),
   Ground q loose [] XP w bx mg mb aP.heap->YP w aP.heap->
   aP.heap.get? fa=some o->o.data = .func (docDef d.name d.params d.body d.scope pm cd doc)->aP.heap.CodeRec cd d.name->mg d.name=some (.ref fa)->
   aP.heap.get? a=some { cls:=.type "list",data:=.seq vs.toArray }->IntsAre vs ns->ns.length<=n->aP.gens = #[]->
   codeAny (model l.prog w) callerA (.call (.ref fa) ⟨[.ref a],[]⟩) (λr s'=>r = .ok (.ret (.bool true))/\OldK aP.heap s'.heap/\s'.os=aP.os/\AllBare s'.gens) aP) :
  WalkO q loose XP YP l.row.toRowW d [] (λf vs=>PySem.call f vs):=by
 intro w bx aP mg mb G Y fa o pm cd doc dV kV ho hd cV hD hmg hg args vals as wk ajz hrd DA hlo;obtain rfl:dV = .none:=Dflts.none hD nX;obtain rfl:kV = .none:=Dflts.noKw hD;obtain⟨a,vs,ns,rfl,rfl,rY,hints,hlen⟩:=YN hn wk DA;refine enter_call (codeAny_mono (call w bx aP mg mb fa o pm cd doc a vs ns G Y ho (fd_plain hd) cV hmg rY hints hlen hg) λr s' hq=>?_);obtain⟨rfl,h2,h3,h4⟩:=hq;exact⟨.inl ⟨.bool true,.bool true,[],rfl,λ_=>rfl,.bool true,YR l _,λ_=>⟨List.Pairwise.nil,λ_ hm=>(nomatch hm)⟩⟩,h2,h3,h4⟩
section
variable{prog:Program}{w:World}{A:Around}{E:Value->Shared->Prop}{s:Shared}{K:Frag}
noncomputable def ledger(h:Heap)(L d:Addr):List (Addr×Obj):=(List.range h.objs.size).filterMap λa=>if a=L\/a=d then none else(h.get? a).map λo=>(a,o)
end
end Dz
namespace _L
open PySem PySem.Spec PyProof.Rows
theorem wm:∀ {vs:List Value} {ns:List Int},IntsAre vs ns->Vals (ns.map V.int) vs
 | _,_,.nil=>.nil
 | _,_,.cons n t h=>.cons ⟨t,rfl⟩ (wm h)
noncomputable def DB(H:Hp):Prop:=∀b,H b=none\/∃o xs,H b=some (.bZ o (.lst xs))
theorem YS{P:Program}{w:World}{K:PySem.W.Frag}{mg mb:Str->Option Value}{CX:f_}{k:Nat}{fa a:Addr}{fd:FuncData}{x:Str}{sp:Sp}{aP:Shared}{vs:List Value}{ns:List Int}
  (KX:K.In aP.heap) (jM:aP.heap.Ns mainGlobals mg) (hb:aP.heap.Ns builtinsNs mb) (DC:∀x:Str,x≠"__name__"->mb x=bootBuiltins x) (DE:aP.heap.NoLimit) (hg:aP.gens = #[])
  (ha:aP.heap.get? a=some { cls:=.type "list",data:=.seq vs.toArray }) (hi:IntsAre vs ns) (hl:ns.length<=sizeLine) (hr:bN k callerA)
  (F:∀base:Heap,K.In base->base.Ns mainGlobals mg->aO P w K mg base CX k fa fd [x] sp) (jh:∀(s:Shared) (u:Value),BindsTo s fd ⟨[u],[]⟩ [(x,u)])
  (eO:∀H:Hp,DB H->aA K H a (ns.map V.int)->sp [.ref a] H (λv _=>v = .bl true) λ_ _ _=>False)
  (DF:∀H e s',CX [] H aP (λ_ _ _=>False) e s'->False) :
  codeAny (model P w) callerA (.call (.ref fa) ⟨[.ref a],[]⟩) (λr s'=>r = .ok (.ret (.bool true))/\OldK aP.heap s'.heap/\s'.os=aP.os/\AllBare s'.gens) aP:=by
 have rv:=wm hi;have DG:=hi.length
 -- from an abstract heap in which nothing but the script may be tracked
 have core:∀H:Hp,DB H->aA K H a (ns.map V.int)->b_ P w H aP.heap->(∀b,H b≠none->b=a)->(H a≠none->K.lookup a=none)->
   codeAny (model P w) callerA (.call (.ref fa) ⟨[.ref a],[]⟩) (λr s'=>r = .ok (.ret (.bool true))/\OldK aP.heap s'.heap/\s'.os=aP.os/\AllBare s'.gens) aP:=by
  intro H hO hS aD hA hK;have nY:∀ {b:Addr} {o:Obj},aP.heap.get? b=some o->H b=none->(gP aP.heap H).get? b=some o:=λe n=>KO e n;have rP:∀ {b:Addr} {o:Obj} {es:Array DictEntry} {ep:Nat},aP.heap.get? b=some o->o.data = .dict es ep->H b=none:=λ{b o es ep} e d=>by
   cases q:H b with
   | none=>rfl
   | some u =>
    have e':b=a:=hA b (by rw[q];simp)
    subst e';rw[ha] at e;cases e;have d':Data.seq vs.toArray _=Data.dict es ep:=d;cases d'
  have lu:∀ {b:Addr} {m:Str->Option Value},aP.heap.Ns b m->(gP aP.heap H).Ns b m:=λ{b m} ⟨o,es,ep,e,d,r⟩=>⟨o,es,ep,nY e (rP e d),d,r⟩;have rZ:K.In (gP aP.heap H):=λb o e=>nY (KX b o e) (by
   cases q:H b with
   | none=>rfl
   | some u =>
    have e':b=a:=hA b (by rw[q];simp)
    subst e';rw[hK (by rw[q];simp)] at e;cases e)
  have hM:Mod K mg (gP aP.heap H):=⟨rZ,lu jM,⟨mb,lu hb,DC⟩,let ⟨mc,h1,h2⟩:=DE;⟨mc,lu h1,h2⟩⟩
  have e0:k9 P w K mg (gP aP.heap H) callerA [] aP H:=⟨rfl,hM,λb o e=>KP e,Nat.le_of_eq (KN _ _),trivial,λb hb=>absurd (show b∈([]:List Addr) from hb) (by simp),aD,.of_eq hg⟩
  refine codeAny_mono ((F _ rZ (lu jM)).run callerA [] aP H ⟨[.ref a],[]⟩ [.ref a] [.ref a] _ _ hr e0 (jh aP (.ref a)) (.cons rfl .nil) (eO H hO hS)) λr s' h=>?_;cases r with
  | error e=>exact(DF H e s' h).elim
  | ok fl =>
   cases fl with
   | next=>exact False.elim h
   | brk=>exact False.elim h
   | cont=>exact False.elim h
   | ret u =>
    obtain⟨v,H',os,bare,un,wu,r',q⟩:=h;have q':v = .bl true:=q;subst q';obtain rfl:u=Value.bool true:=r';refine⟨rfl,OldK.of_keep λb o e=>?_,os,bare⟩;cases q:H b with
    | none=>exact un.keep b o e q (by intro z;exact absurd (show b∈([]:List Addr) from z) (by simp)) (by simp)
    | some u =>
     rcases hO b with z | ⟨ob,xs,z⟩
     ·rw[q] at z;cases z
     ·have z2:=un.gO b ob _ z;obtain⟨e1,_⟩:=aD b _ z;obtain⟨e2,_⟩:=wu b _ z2;rw[e] at e1;cases e1;exact e2
 cases hk:K.lookup a with
 | some o =>
  -- the script is one of the module's own objects
  have e:=KX a o hk;rw[ha] at e;cases e;refine core (λ_=>none) (λ_=>.inl rfl) (.inr ⟨_,vs.toArray,_,hk,rfl,rfl,rfl,by rw[List.size_toArray,DG];exact hl,by simpa using rv⟩) (λb u z=>by have z':(none:Option HO)=some u:=z;cases z') (λb z=>absurd rfl z) λz=>absurd rfl z
 | none =>
  refine core (λb=>if b=a then some (.bZ { cls:=.type "list",data:=.seq vs.toArray } (.lst (ns.map V.int))) else none) (λb=>?_) (.inl (.inr ⟨{ cls:=.type "list",data:=.seq vs.toArray },if_pos rfl⟩)) (λb u z=>?_) (λb z=>?_) λ_=>hk
  ·by_cases hb:b=a
   ·exact .inr ⟨_,_,if_pos hb⟩
   ·exact .inl (if_neg hb)
  ·by_cases hb:b=a
   ·have z':=(if_pos hb).symm.trans z;cases z';subst hb;exact⟨ha,by rw[List.length_map];exact hl,vs,_,rv,ha⟩
   ·have z':=(if_neg hb).symm.trans z;cases z'
  ·by_cases hb:b=a
   ·exact hb
   ·exact absurd (if_neg hb) z
noncomputable abbrev KOf{K:PySem.W.Frag}{h:Heap}(_:K.In h):PySem.W.Frag:=K
theorem ajA{l:PySem.W.OpenLaw}{n k:Nat}{q:Program}{loose:List Str}{XP:(Str->Option Value)->Heap->Prop}{YP:World->Heap->Prop}{d:DefRec}{K:Params->PySem.W.Frag}{CX:World->f_}{sp:World->Sp}{x:Str}
  (hn:l.most=some n) (pQ:n<=sizeLine) (nX:d.params.defaults = []) (hr:bN k callerA)
  (hY:∀(w:World) (h:Heap),YP w h->(K w.params).In h)
  (F:∀(w:World) (mg:Str->Option Value) (fa:Addr) (h:Heap),(K w.params).In h->h.Ns mainGlobals mg->mg d.name=some (.ref fa)->
   ∃fd:FuncData,(∀(s:Shared) (u:Value),BindsTo s fd ⟨[u],[]⟩ [(x,u)])/\
    ∀base:Heap,(K w.params).In base->base.Ns mainGlobals mg->aO l.prog w (K w.params) mg base (CX w) k fa fd [x] (sp w))
  (eO:∀(w:World) (H:Hp) (a:Addr) (ns:List Int),ns.length<=n->DB H->aA (K w.params) H a (ns.map V.int)->sp w [.ref a] H (λv _=>v = .bl true) λ_ _ _=>False)
  (DF:∀(w:World) (H:Hp) (s:Shared) (e:Value) (s':Shared),CX w [] H s (λ_ _ _=>False) e s'->False) :
  PySem.W.WalkO q loose XP YP l.row.toRowW d [] (λf vs=>PySem.call f vs):=by
 refine Dz.L_ hn nX λw bx aP mg mb fa o pm cd doc a vs ns G Y ho hd cV hmg rY hints hlen hg=>?_;have KX:=hY w _ Y;obtain⟨fd,hb,hF⟩:=F w mg fa _ KX G.T.g hmg;exact YS KX G.T.g G.T.b G.T.builtins G.T.nolimit hg rY hints (Nat.le_trans hlen pQ) hr hF hb (λH hO hS=>eO w H a ns hlen hO hS) λH e s'=>DF w H aP e s'
noncomputable def inClass(s:Stmt)(j:Nat):Stmt:=match s with
 | .ClassDef _ _ _ body _ _ _ _ _ _ _=>body.getD j (.Pass ⟨0,0,0,0⟩)
 | _=>.Pass ⟨0,0,0,0⟩
noncomputable def eo(s:Stmt):Arguments:=match s with
 | .FunctionDef _ a _ _ _ _ _ _ _ _=>a
 | _=>{ posonlyargs:=[],args:=[],vararg:=none,kwonlyargs:=[],kw_defaults:=[],kwarg:=none,defaults:=[] }
noncomputable def dg(s:Stmt):List Stmt:=match s with
 | .FunctionDef _ _ b _ _ _ _ _ _ _=>b
 | _=>[]
noncomputable def aJ(s:Stmt):Scope:=match s with
 | .FunctionDef _ _ _ _ _ _ sc _ _ _=>sc
 | _=>{ kind:=.function,names:=[],isGenerator:=false,isCoroutine:=false }
noncomputable abbrev aU:f_:=λ_ _ _ _ _ _=>False
noncomputable abbrev E0:XK:=λ_ _ _=>False
theorem aL{X:Cx}:Passes aU X E0:=λ_ _ _ _ _ _ _ h=>h.elim
structure aF(K:PySem.W.Frag)(x qual:Str)(st:Stmt)(f:Addr)(fd:FuncData):Prop where
 ex:∃(oc:Value) (od:Option Addr) (kV doc pm:Value) (an:Option Addr) (aH ct:Value) (gc:Array (Option Value)),
  fd=PySem.W.fnOf x qual (eo st) (dg st) (aJ st) .none kV doc pm an aH ct/\K.lookup f=some ⟨oc,od,.func fd,gc⟩/\PySem.W.codeIn K aH qual=true
 kp:PySem.W.keepIn K (.ref f)=true
section
variable{P:Program}{w:World}{K:PySem.W.Frag}{mg:Str->Option Value}{base:Heap}
theorem aF.ok{x qual:Str}{st:Stmt}{f:Addr}{fd:FuncData}{N ps:List Str}{k:Nat}{sp:Sp}(F:aF K x qual st f fd)(S:aW N ps (aJ st))(len:∀vs H Q E,sp vs H Q E->vs.length=ps.length)
  (jD:∀(aH:Value) (A:Around) (outer:List Env) (s:Shared) (H:Hp) (vs:List V) (Q:VK) (E:XK),bN k (A.deeper (envOfC qual (aJ st) s.heap.objs.size f aH))->sp vs H Q E->
   ∃t,eZ (gz aU P w K mg base N qual (aJ st) f aH A outer s H E).k6 (dg st) t/\t { nx:=λ_ H'=>Q .aI H',rt:=Q } (start N vs) H):aO P w K mg base aU (k+1) f fd ps sp:=by
 obtain⟨oc,od,kV,doc,pm,an,aH,ct,gc,rfl,lk,cV⟩:=F.ex;refine vU lk cV S len λA outer s H vs Q E hr eO=>?_;obtain⟨t,h,q⟩:=jD aH A outer s H vs Q E hr eO;exact⟨t,h.k6,q⟩
theorem aF.binds{x qual:Str}{st:Stmt}{f:Addr}{fd:FuncData}{ps:List Str}(F:aF K x qual st f fd)
  (h:∀(kV doc pm:Value) (an:Option Addr) (aH ct:Value) (us:List Value),us.length=ps.length->bindArgs (PySem.W.fnOf x qual (eo st) (dg st) (aJ st) .none kV doc pm an aH ct) ⟨us,[]⟩=pure (ps.zip us)):Binds K fd ps []:=by
 obtain⟨oc,od,kV,doc,pm,an,aH,ct,gc,rfl,lk,cV⟩:=F.ex;exact .all (h kV doc pm an aH ct)
theorem fun_mk{x qual:Str}{st:Stmt}{f:Addr}{oc:Value}{od an:Option Addr}{gc:Array (Option Value)}{kV doc pm aH ct:Value}(l:K.lookup f=some ⟨oc,od,.func (PySem.W.fnOf x qual (eo st) (dg st) (aJ st) .none kV doc pm an aH ct),gc⟩)
  (c:PySem.W.codeIn K aH qual=true) (k:PySem.W.keepIn K (.ref f)=true):aF K x qual st f (PySem.W.fnOf x qual (eo st) (dg st) (aJ st) .none kV doc pm an aH ct):=⟨⟨oc,od,kV,doc,pm,an,aH,ct,gc,rfl,l,c⟩,k⟩
end
theorem ji{A:Around}{k:Nat}(hr:bN k A):A.units+1<cLine:=Nat.lt_of_le_of_lt (Nat.add_le_add_left (by decide:1<=64) _) hr.units
theorem gW{n:Nat}(h:n<=1000):n<sizeLine:=Nat.lt_of_le_of_lt h (by decide)
section
variable{X:Cx}
theorem pv(i:Nat){x:Str}{pos:Pos}(hN:X.N[i]? = some x:=by rfl)(hv:Cy X.env.scope x:=by first | exact Or.inl rfl | exact Or.inr (Or.inl rfl) | exact Or.inr (Or.inr rfl))(hd:(x == ("__debug__" : Str))=false:=by decide)
  (cV:(x == ("__classdict__" : Str))=false:=by decide):PE X (.Name x pos) (KW i):=WA hN hv hd cV
end
theorem dH{c A B:Prop}[Decidable c](h1:c->A)(h2:¬ c->B):if c then A else B:=by
 by_cases h:c
 ·rw[if_pos h];exact h1 h
 ·rw[if_neg h];exact h2 h
noncomputable def ah(H H':Hp):Prop:=∀b o,H b=some o->H' b=some o
theorem ah.refl(H:Hp):ah H H:=λ_ _ h=>h
theorem ah.trans{H H1 H2:Hp}(a:ah H H1)(b:ah H1 H2):ah H H2:=λc o h=>b c o (a c o h)
theorem ah.free{H H':Hp}(e:ah H H'){l:Addr}(h:H' l=Option.none):H l=Option.none:=by
 cases q:H l with
 | none=>rfl
 | some o =>
  rw[e l o q] at h;cases h
theorem ah.seq{K:PySem.W.Frag}{H H':Hp}{a:Addr}{xs:List V}(e:ah H H')(h:aA K H a xs):aA K H' a xs:=by
 rcases h with(h | ⟨o,h⟩) | h
 ·exact .inl (.inl (e _ _ h))
 ·exact .inl (.inr ⟨o,e _ _ h⟩)
 ·exact .inr h
section
variable{κ:Type}[DecidableEq κ]
theorem YT{p:κ×V}{r:List (κ×V)}{k:κ}(e:p.1=k):gU (p::r) k=gU r k:=by
 unfold gU;rw[List.filter_cons,if_neg (by simp[e])]
theorem Ma{p:κ×V}{r:List (κ×V)}{k:κ}(e:¬ p.1=k):gU (p::r) k=p::gU r k:=by
 unfold gU;rw[List.filter_cons,if_pos (by simp[e])]
theorem Mb:∀ {kvs:List (κ×V)} {k:κ},¬ k∈kvs.map (·.1)->gU kvs k=kvs
 | [],_,_=>rfl
 | p::r,k,h=>by
  have h':¬ k∈r.map (·.1):=λm=>by
   obtain⟨q,hq,e⟩:=List.mem_map.mp m;exact h (List.mem_map.mpr ⟨q,List.mem_cons.mpr (Or.inr hq),e⟩)
  rw[Ma λe=>h (List.mem_map.mpr ⟨p,List.mem_cons.mpr (Or.inl rfl),e⟩),Mb h']
theorem Mc:∀ {kvs:List (κ×V)} {k:κ},(kvs.map (·.1)).Nodup->k∈kvs.map (·.1)->(gU kvs k).length+1=kvs.length
 | [],_,_,m=>by simp at m
 | p::r,k,h,m=>by
  have h:(p.1::r.map (·.1)).Nodup:=h;have m:k=p.1\/k∈r.map (·.1):=List.mem_cons.mp m;obtain⟨h1,h2⟩:=List.nodup_cons.mp h;by_cases e:p.1=k
  ·subst e;rw[YT rfl,Mb h1]
   all_goals rfl
  ·have m':k∈r.map (·.1):=m.resolve_left λz=>e z.symm;have q:=Mc h2 m';rw[Ma e,List.length_cons,List.length_cons];lia
end
end _L
set_option maxHeartbeats 4000000
namespace _L
open PySem PySem.Spec PyProof.Rows
section
variable{prog:Program}{w:World}{A:Around}{R:Result->Shared->Prop}{s:Shared}
theorem YU{elt target iter:Expr}{ifs:List Expr}{scope:Scope}{pos:Pos}{it acc:Value}{env:Env}(I:Nat->Shared->Prop)
  (turn:∀n s,I n s->wpAny (model prog w) A (pyNext it) (λr aP=>match r with
   | none=>R (.ok .next) aP
   | some v=>wpAny (model prog w) A (letOwnedTupleGo target it v) (λ_ Me=>wpAny (model prog w) A (assign target env v) (λ_ iJ =>
     wpAny (model prog w) A (forIn ifs true λc r=>if r=true then do let ok ← isTrue c env (eval c env);pure (ForInStep.yield ok) else pure (ForInStep.yield r)) (λok jg =>
      if ok=true then wpAny (model prog w) A (eval elt env) (λx wz =>
       wpAny (model prog w) A (call (.builtin "list.append") [acc,x]) (λ_ Mf=>∃m,m<n/\I m Mf) (λ_ _=>False) wz) (λ_ _=>False) jg
      else ∃m,m<n/\I m jg) (λ_ _=>False) iJ) (λ_ _=>False) Me) (λ_ _=>False) aP) (λ_ _=>False) s)
  (n:Nat) (h:I n s):codeAny (model prog w) A (.compLoop (.ListComp elt [⟨target,iter,ifs,0⟩] scope pos) 0 it acc env) R s:=by
 refine codeAny_loop rfl I (λn s hI=>?_) n h
 show wpAny _ A ((compTurn (.ListComp elt [⟨target,iter,ifs,0⟩] scope pos) 0 it acc env).onRaise (λx=>do noteFrame x env;theTreesLotGoes x)) _ _ s
 refine wpAny_noted ?_;rw[compTurn_list];refine wpAny_bind (wpAny_standAt (wpAny_bind (wpAny_mono (turn n s hI) (λr aP kD=>?_) λ_ _ h'=>h'.elim)));cases r with
 | none=>exact wpAny_pure kD
 | some v =>
  refine wpAny_bind (wpAny_mono kD (λ_ Me YV=>?_) λ_ _ h'=>h'.elim);refine wpAny_bind (wpAny_mono YV (λ_ iJ nW=>wpAny_bind (wpAny_mono nW (λok jg v_=>?_) λ_ _ h'=>h'.elim)) λ_ _ h'=>h'.elim);cases ok with
  | false=>exact wpAny_pure ⟨rfl,v_⟩
  | true =>
   exact wpAny_bind (wpAny_bind (wpAny_mono v_ (λx wz YW=>wpAny_bind (wpAny_mono YW (λ_ Mf YX=>wpAny_pure (wpAny_pure ⟨rfl,YX⟩)) λ_ _ h'=>h'.elim)) λ_ _ h'=>h'.elim))
end
noncomputable def fK(X:Cx)(scope:Scope)(cl:List (Str×Addr))(N:List Str)(C:Addr)(s:Shared)(H:Hp)(fp:List Addr):Cx where
 prog:=X.prog
 w:=X.w
 K:=X.K
 mg:=X.mg
 base:=X.base
 A:=X.A
 N:=N
 bx:=s
 cY:=H
 env:=compEnvC scope cl C X.env
 outer:=X.stack
 stack:=X.stack
 ex:=fp
 fn:=λ_=>false
 calm:=X.calm
 pn:=[]
 xe:=λ_ _=>False
structure cS(X:Cx)(scope:Scope)(cl:List (Str×Addr))(N:List Str)(nt:Nat)(fv:List Nat):Prop where
 kE:closureFor scope X.env=pure cl
 kind:scope.kind = .function
 jN:∀y∈scope.names,y.2≠.cell
 names:∀y∈scope.names,y.2 = .local->scope.names.lookup y.1=some .local
 sub:∀p∈cl,X.env.cells.lookup p.1=some p.2
 has:∀y∈scope.names,y.2 = .free->∃c,cl.lookup y.1=some c
 free:fv.map (λj=>X.N[j]?)=(N.drop nt).map some
 fk:∀y∈N.drop nt,scope.names.lookup y=some .free/\X.env.scope.names.lookup y=some .cell
 le:nt<=N.length
 nd:N.Nodup
theorem wA{env:Env}:∀ {names:List (Str×NameKind)} {x:Str} {k:NameKind},
  (names.map λ(n,k)=>if (k == NameKind.free && env.scope.kind == .function && env.kindOf n == some .cell) then(n,NameKind.cell) else(n,k)).lookup x=some k->
  ∃k0,names.lookup x=some k0/\(k=k0\/(k0 = .free/\k = .cell))
 | [],_,_,h=>by simp at h
 | (n,k0)::r,x,k,h=>by
  have ih:=@wA env r x k;have h:List.lookup x ((if (k0 == NameKind.free && env.scope.kind == .function && env.kindOf n == some .cell)=true then(n,NameKind.cell) else(n,k0))::_)=_:=h
  cases hx:x == n with
  | true =>
   by_cases hc:(k0 == NameKind.free && env.scope.kind == .function && env.kindOf n == some .cell)=true
   ·rw[if_pos hc] at h;simp only[List.lookup_cons,hx,Option.some.injEq] at h;simp only[Bool.and_eq_true,beq_iff_eq] at hc;exact⟨k0,by simp[List.lookup_cons,hx],.inr ⟨hc.1.1,h.symm⟩⟩
   ·rw[if_neg hc] at h;simp only[List.lookup_cons,hx,Option.some.injEq] at h;exact⟨k0,by simp[List.lookup_cons,hx],.inl h.symm⟩
  | false =>
   have h':List.lookup x (r.map λ(n,k)=>if (k == NameKind.free && env.scope.kind == .function && env.kindOf n == some .cell) then(n,NameKind.cell) else(n,k))=some k:=by
    by_cases hc:(k0 == NameKind.free && env.scope.kind == .function && env.kindOf n == some .cell)=true
    ·rw[if_pos hc] at h;simpa only[List.lookup_cons,hx] using h
    ·rw[if_neg hc] at h;simpa only[List.lookup_cons,hx] using h
   obtain⟨q,e,z⟩:=ih h';exact⟨q,by simp only[List.lookup_cons,hx];exact e,z⟩
theorem l7{α:Type}{x:Str}{v:α}:∀ {l:List (Str×α)},l.lookup x=some v->(x,v)∈l:=λh=>PySem.mem_of_lookup h
section
variable{X:Cx}{pins:List (Addr×Obj)}{σ:St}{H:Hp}{s:Shared}{scope:Scope}{cl:List (Str×Addr)}{N:List Str}{nt:Nat}{fv:List Nat}{fp:List Addr}
theorem cS.cell(S:cS X scope cl N nt fv){x:Str}{c:Addr}(e:cl.lookup x=some c):X.env.cells.lookup x=some c:=S.sub (x,c) (l7 e)
theorem cS.YY(S:cS X scope cl N nt fv){C:Addr}{x:Str}(h:(compEnvC scope cl C X.env).kindOf x=some .cell\/(compEnvC scope cl C X.env).kindOf x=some .free):scope.names.lookup x=some .free:=by
 have h:(scope.names.map λ(n,k)=>if (k == NameKind.free && X.env.scope.kind == .function && X.env.kindOf n == some .cell) then(n,NameKind.cell) else(n,k)).lookup x=some .cell\/
  (scope.names.map λ(n,k)=>if (k == NameKind.free && X.env.scope.kind == .function && X.env.kindOf n == some .cell) then(n,NameKind.cell) else(n,k)).lookup x=some .free:=h
 rcases h with h | h
 ·obtain⟨k0,e,z | ⟨z,_⟩⟩:=wA h
  ·exact absurd z.symm (S.jN _ (l7 e))
  ·rw[z] at e;exact e
 ·obtain⟨k0,e,z | ⟨z,_⟩⟩:=wA h
  ·rw[← z] at e;exact e
  ·rw[z] at e;exact e
theorem cS.ok(S:cS X scope cl N nt fv)(I:Inv X pins σ H s)(hf:∀b∈fp,j9 X pins H b)(bQ:∀b∈fp,b<s.heap.objs.size){C:Addr}(hC:s.heap.objs.size<=C) :
  (fK X scope cl N C s H fp).Ok where
 mod:=I.ok.mod
 kind:=S.kind
 glob:=I.ok.glob
 blt:=I.ok.blt
 above:=hC
 inj:=λx y c h1 h2=>I.ok.inj x y c (S.cell h1) (S.cell h2)
 has:=λx h=>by
  have e:=S.YY h;exact S.has _ (l7 e) rfl
 m_:=λx c h _=>by cases (show false=true from h)
 hd:=I.ok.hd
 frames:=I.ok.frames
 pH:=.inl rfl
 pI:=λb hb=>⟨λz=>absurd (Nat.lt_of_lt_of_le (bQ b hb) (by rw[z];exact hC)) (Nat.lt_irrefl _),λx c h=>(hf b hb).2.2.2.2.1 x c (S.cell h)⟩
 bs:=I.bs
 iu:=Nat.le_trans I.ok.iu I.sz
 ng:=λb o e hb=>by
  rcases(hf b hb).2.2.2.1 with z | z
  ·exact I.ok.ng b o e z
  ·exact absurd (Nat.lt_of_lt_of_le (Heap.lt_size e) (Nat.le_trans I.ok.iu z)) (Nat.lt_irrefl _)
 ni:=λb hb hm=>by
  rcases List.mem_cons.mp (I.CB b hm) with z | z
  ·exact(hf b hb).2.1 z
  ·exact(hf b hb).2.2.1 z
 fX:=I.stack
 i8:=I.vp
noncomputable def iQ(σ:St)(nt:Nat)(fv:List Nat):St:=List.replicate nt none++fv.map λj=>(σ[j]?).getD none
theorem cS.inv(S:cS X scope cl N nt fv)(I:Inv X pins σ H s)(hf:∀b∈fp,j9 X pins H b)(bQ:∀b∈fp,b<s.heap.objs.size){h1:Heap}{tk:Nat}{D C:Addr}
  (hD:s.heap.objs.size<=D) (hC:s.heap.objs.size<=C) (wB:D≠C) (old:∀b o,s.heap.get? b=some o->h1.get? b=some o) (pX:h1.get? D=some { cls:=.type "list",data:=.seq #[] }) (jM:h1.Ns C λ_=>none) :
  Inv (fK X scope cl N C s H fp) [] (iQ σ nt fv) (upd H D (.lst [])) { s with heap:=h1,toks:=tk }:=by
 have I1:Inv X pins σ (upd H D (.lst [])) { s with heap:=h1,toks:=tk }:=I.laid old hD ⟨Nat.zero_le _,[],0,.nil,pX⟩;have hlen:fv.length=(N.drop nt).length:=by simpa using congrArg List.length S.free
 refine⟨S.ok I hf bQ hC,rfl,I.bare,Un.laid old hD (I.aD.fresh hD),⟨_,jM,λi x v e1 e2 e3=>?_⟩,λx c e=>?_,?_,λx c e=>?_,λp hp=>absurd (show p∈([]:List (Addr×Obj)) from hp) (by simp),I1.aD,?_⟩
 ·unfold iQ at e2;have hi:nt<=i:=by
   by_cases h:nt<=i
   ·exact h
   ·rw[List.getElem?_append_left (by simp;lia),List.getElem?_replicate] at e2
    split at e2 <;> cases e2
  rw[List.getElem?_append_right (by simpa using hi)] at e2
  simp only[List.length_replicate,List.getElem?_map] at e2;cases hj:fv[i - nt]? with
  | none=>rw[hj] at e2;simp at e2
  | some j =>
   rw[hj] at e2;simp only[Option.map_some,Option.some.injEq] at e2;have hN:X.N[j]? = some x:=by
    have q:=congrArg (λl=>l[i - nt]?) S.free;simp only[List.getElem?_map,hj,Option.map_some,List.getElem?_drop] at q;rw[show nt+(i - nt)=i by lia] at q
    have Mg:N[i]? = some x:=e1;rw[Mg] at q;exact(Option.some.inj q)
   have DH:σ[j]? = some (some v):=by
    cases z:σ[j]? with
    | none=>rw[z] at e2;simp at e2
    | some y=>rw[z] at e2;simp at e2;rw[e2]
   have YZ:x∈N.drop nt:=by
    refine List.mem_of_getElem? (i:=i - nt) ?_;rw[List.getElem?_drop,show nt+(i - nt)=i by lia];exact e1
   obtain⟨f1,f2⟩:=S.fk x YZ;obtain⟨m,hn,hl⟩:=I1.loc;obtain⟨u,ru,lk⟩:=hl j x v hN DH (.inr (.inl f2));refine⟨u,ru,?_⟩;rcases lk with⟨k,_⟩ | ⟨_,c,ec,hc⟩
   ·have k:X.env.scope.names.lookup x=some .local:=k;rw[f2] at k;cases k
   ·obtain⟨c',e'⟩:=S.has _ (l7 f1) rfl;have:=S.cell e';rw[ec] at this;cases this;refine .inr ⟨?_,c,e',hc⟩;rcases e3 with z | z | z
    ·obtain⟨k0,ek,q | ⟨_,q⟩⟩:=wA (show (scope.names.map λ(n,k)=>if (k == NameKind.free && X.env.scope.kind == .function && X.env.kindOf n == some .cell) then(n,NameKind.cell) else(n,k)).lookup x=some .local from z)
     ·rw[f1] at ek;cases ek;cases q
     ·cases q
    ·exact .inl z
    ·exact .inr z
 ·obtain⟨v,z⟩:=I1.cell x c (S.cell e);exact⟨v,z⟩
 ·show upd H D (.lst []) C=none;rw[az (Ne.symm wB)];exact I.aD.fresh hC
 ·exact I1.gu x c (S.cell e)
 ·unfold iQ
  show _=N.length;have:=S.le;simp only[List.length_append,List.length_replicate,List.length_map,List.length_drop] at hlen ⊢;lia
end
noncomputable def pY(X:Cx)(ifs:List Expr)(t:TT):Prop :=
 ∀(pins:List (Addr×Obj)) (s:Shared) (σ:St) (H:Hp) (Q:Bool->Hp->Prop),Inv X pins σ H s->t σ H Q->
  wpAny (model X.prog X.w) X.A (forIn ifs true λc r=>if r=true then do let ok ← isTrue c X.env (eval c X.env);pure (ForInStep.yield ok) else pure (ForInStep.yield r)) (TP X pins σ Q) X.xe s
noncomputable def Y0:TT:=λ_ H Q=>Q true H
theorem jO{X:Cx}:pY X [] Y0:=λpins s σ H Q I h=>wpAny_tests_nil ⟨H,I,h⟩
theorem nZ{X:Cx}{c:Expr}{t:TT}(hc:PT X c t):pY X [c] t:=λpins s σ H Q I h=>wpAny_tests_one (hc pins s σ H Q I h)
noncomputable def iA(wi:TI)(g:TG)(tt:TT)(te:TE)(nt:Nat)(fv:List Nat):TE:=λσ H Q=>wi σ H λJ H1=>∀D,H1 D=none->∃W:Nat->Nat->List V->St->Hp->Prop,
 (∃m,W 0 m [] (iQ σ nt fv) (upd H1 D (.lst [])))/\∀i m ys aj H2,W i m ys aj H2->H2 D=some (.lst ys)/\ys.length<sizeLine/\
  ((J.stop i H2/\Q (.ref D) H2)\/(J.go i H2/\∀x H3,J.j8 i H2 x H3->g x aj H3 λbK H4=>tt bK H4 λb H5=>if b=true then te bK H5 λv H6=>H6 D=some (.lst ys)/\∃m',m' < m/\W (i+1) m' (ys++[v]) bK (upd H6 D (.lst (ys++[v])))
   else ∃m',m' < m/\W (i+1) m' ys bK H5))
section
variable{X:Cx}{tg iter elt:Expr}{ifs:List Expr}{scope:Scope}{cl:List (Str×Addr)}{N:List Str}{nt:Nat}{fv:List Nat}{pos:Pos}{wi:TI}{g:TG}{tt:TT}{te:TE}
theorem Mh{pins:List (Addr×Obj)}{σ:St}{s2:Shared}{H2:Hp}{it:Addr}{fp:List Addr}{tn:Nat->Heap->Prop}{J:It}{Q:VK}{RR:Value->Addr->Result->Shared->Prop}{E:Value->Shared->Prop}
  (S:cS X scope cl N nt fv) (hc:X.calm=true)
  (hg:∀C s H fp,PG (fK X scope cl N C s H fp) tg g) (ht:∀C s H fp,pY (fK X scope cl N C s H fp) ifs tt) (he:∀C s H fp,PE (fK X scope cl N C s H fp) elt te)
  (I2:Inv X pins σ H2 s2) (T:Turn X.prog X.w X.K tg J fp it tn) (dY:tn 0 s2.heap) (f2:∀b∈fp,j9 X pins H2 b)
  (hq:∀D,H2 D=none->∃W:Nat->Nat->List V->St->Hp->Prop,
   (∃m,W 0 m [] (iQ σ nt fv) (upd H2 D (.lst [])))/\∀i m ys aj H2,W i m ys aj H2->H2 D=some (.lst ys)/\ys.length<sizeLine/\
    ((J.stop i H2/\Q (.ref D) H2)\/(J.go i H2/\∀x H3,J.j8 i H2 x H3->g x aj H3 λbK H4=>tt bK H4 λb H5=>if b=true then te bK H5 λv H6=>H6 D=some (.lst ys)/\∃m',m' < m/\W (i+1) m' (ys++[v]) bK (upd H6 D (.lst (ys++[v])))
     else ∃m',m' < m/\W (i+1) m' ys bK H5)))
  (Y3:∀(D C:Addr) (s':Shared) (H':Hp) (m':Str->Option Value),Inv X pins σ H' s'->s'.heap.Ns C m'->s2.heap.objs.size<=C->H' C=none->Q (.ref D) H'->RR (.ref D) C (.ok .next) s') :
  wpAny (model X.prog X.w) X.A (newList []) (λacc jg=>wpAny (model X.prog X.w) X.A (newFunctionEnv scope X.env.globals cl [] X.env.qual none .none (some X.env)) (λMi wz =>
   codeAny (model X.prog X.w) X.A (.compStart (.ListComp elt [⟨tg,iter,ifs,0⟩] scope pos) 0 (.ref it) acc { Mi with scope:=relabel scope X.env }) (RR acc Mi.locals) wz) E jg) E s2:=by
 refine wpAny_newObj_type (wpAny_newFunctionEnv S.jN (by intro y hy;simp at hy) (λkD DI wC=>?_) S.kind)
 dsimp only at DI wC ⊢;generalize DJ:s2.heap.push { cls:=.type "list",dict:=none,data:=.seq ([]:List Value).toArray }=HH at DI wC ⊢;have hC:HH.objs.size=s2.heap.objs.size+1:=by rw[← DJ,Heap.size_push]
 have wB:s2.heap.objs.size≠HH.objs.size:=by rw[hC];exact Nat.ne_of_lt (Nat.lt_succ_self _)
 have DK:s2.heap.objs.size<=HH.objs.size:=by rw[hC];exact Nat.le_succ _
 have old:∀b o,s2.heap.get? b=some o->kD.get? b=some o:=λb o e=>by
  have hb:b<s2.heap.objs.size:=Heap.lt_size e;exact wC.extBut b o (by rw[hC];exact Nat.ne_of_lt (Nat.lt_succ_of_lt hb)) (Heap.get?_push_of_some _ (DJ▸Heap.get?_push_of_some _ e))
 have pX:kD.get? s2.heap.objs.size=some { cls:=.type "list",data:=.seq #[] }:=wC.extBut _ _ wB (Heap.get?_push_of_some _ (DJ▸Heap.get?_push_size _ rfl));have bQ:∀b∈fp,b<s2.heap.objs.size:=λb hb=>by
  obtain⟨o,e,_⟩:=T.obj 0 _ dY b hb;exact Heap.lt_size e
 have hD:H2 s2.heap.objs.size=none:=I2.aD.fresh (Nat.le_refl _);obtain⟨W,⟨m0,w0⟩,turn⟩:=hq _ hD;have rO:tn 0 kD:=T.keep _ _ _ dY λb _ o e=>old b o e;have I3:=S.inv I2 f2 bQ (h1:=kD) (tk:=s2.toks+([]:List (Str×Value)).length) (D:=s2.heap.objs.size) (C:=HH.objs.size) (Nat.le_refl _) DK wB old pX (by simpa using DI)
 -- what stays true of the iterator's objects
 have nD:∀b∈fp,b≠s2.heap.objs.size:=λb hb=>Nat.ne_of_lt (bQ b hb);have nA:∀ {H':Hp},(∀b∈fp,H' b=none)->∀b∈fp,j9 (fK X scope cl N HH.objs.size s2 H2 fp) [] H' b:=λ{H'} hn b hb=>by
  have ok:=S.ok I2 f2 bQ DK;refine⟨hn b hb,(ok.pI b hb).1,ok.ni b hb,.inl hb,(ok.pI b hb).2,λp hp=>absurd (show p∈([]:List (Addr×Obj)) from hp) (by simp)⟩
 have loop:∀jg:Shared,jg = { s2 with heap:=kD,toks:=s2.toks+([]:List (Str×Value)).length }->
   codeAny (model X.prog X.w) X.A (.compLoop (.ListComp elt [⟨tg,iter,ifs,0⟩] scope pos) 0 (.ref it) (.ref s2.heap.objs.size) (compEnvC scope cl HH.objs.size X.env)) (RR (.ref s2.heap.objs.size) HH.objs.size) jg:=by
  rintro jg rfl;refine YU (λn s'=>∃i ys aQ H',Inv (fK X scope cl N HH.objs.size s2 H2 fp) [] aQ H' s'/\tn i s'.heap/\(∀b∈fp,H' b=none)/\W i n ys aQ H') ?_ m0
   ⟨0,[],_,_,I3,rO,λb hb=>by rw[az (nD b hb)];exact(f2 b hb).1,w0⟩
  rintro n s3 ⟨i,ys,gv,H3,J3,t3,nC,w3⟩;obtain⟨eD,Y4,Y5⟩:=turn i n ys gv H3 w3;rcases Y5 with⟨stop,qn⟩ | ⟨go,step⟩
  ·refine aK (T.done (fK X scope cl N HH.objs.size s2 H2 fp) rfl rfl rfl hc i [] s3 gv H3 (λ_ _=>False) J3 (nA nC) t3 stop) λr s4 ⟨hr,I4⟩=>?_;subst hr;have I5:Inv X pins σ H3 s4:=I2.vv (ch:=fp) I4.os I4.base I4.aD I4.bare λb hb=>⟨(f2 b hb).2.2.2.1,(f2 b hb).2.1,(f2 b hb).2.2.2.2.1,(f2 b hb).2.2.2.2.2⟩;obtain⟨m,hn,_⟩:=I4.loc;exact Y3 _ _ s4 H3 m I5 hn DK I4.free qn
  ·refine aK (T.item (fK X scope cl N HH.objs.size s2 H2 fp) rfl rfl rfl hc i [] s3 gv H3 (λ_ _=>False) J3 (nA nC) t3 go) λr s4 ⟨u,hr,h4⟩=>?_;subst hr;refine aK h4 λ_ s5 ⟨x,H5,I5,r5,y5,nF,CW⟩=>?_;have CY:=I5.pinned (nA CW) (T.obj _ _ nF);refine aK (hg _ _ _ _ _ s5 gv H5 x u _ CY r5 (step x H5 y5)) λ_ s6 ⟨lU,H6,I6,q6⟩=>?_;have Mj:∀ {iw:St} {H7:Hp} {s7:Shared},Inv (fK X scope cl N HH.objs.size s2 H2 fp) ([]++rM fp s5.heap) iw H7 s7->tn (i+1) s7.heap/\∀b∈fp,H7 b=none:=λ{iw H7 s7} I7=>by
    refine⟨T.keep _ _ _ nF λb hb o e=>(I7.pin (b,o) (List.mem_append_right _ (List.mem_append_right _ (vI hb e)))).1,λb hb=>?_⟩;obtain⟨o,e,d⟩:=T.obj _ _ nF b hb;exact(I7.pin (b,o) (List.mem_append_right _ (List.mem_append_right _ (vI hb e)))).2.1
   refine aK (ht _ _ _ _ _ s6 lU H6 _ I6 q6) λb s7 ⟨H7,I7,q7⟩=>?_;cases b with
   | false =>
    obtain⟨m',hm,w7⟩:=q7;obtain⟨t7,n7⟩:=Mj I7;exact⟨m',hm,i+1,ys,lU,H7,I7.rN,t7,n7,w7⟩
   | true =>
    refine aK (he _ _ _ _ _ s7 lU H7 _ I7 q7) λu8 s8 ⟨v8,H8,I8,r8,Y6,m',hm,w8⟩=>?_;refine aK (l6 (X:=fK X scope cl N HH.objs.size s2 H2 fp) _ s8 lU H8 (.ref s2.heap.objs.size) [v8] (.ref s2.heap.objs.size) [u8] (λ_ H9=>∃m',m' < n/\W (i+1) m' (ys++[v8]) lU H9) I8 rfl (.cons r8 .nil)
     ⟨s2.heap.objs.size,ys,v8,rfl,rfl,Y6,Y4,m',hm,w8⟩) λ_ s9 ⟨_,H9,I9,_,m9,Y7,w9⟩=>?_
    obtain⟨t9,n9⟩:=Mj I9;exact⟨m9,Y7,i+1,ys++[v8],lU,H9,I9.rN,t9,n9,w9⟩
 exact codeAny_compStart_list (loop _ rfl) (T.self _ 0 _ _ _ rO (loop _ rfl))
theorem gX(S:cS X scope cl N nt fv)(hc:X.calm=true)(hi:PI X tg iter wi)
  (hg:∀C s H fp,PG (fK X scope cl N C s H fp) tg g) (ht:∀C s H fp,pY (fK X scope cl N C s H fp) ifs tt) (he:∀C s H fp,PE (fK X scope cl N C s H fp) elt te)
  (hs:∀x,foldedSetIterable iter X.env x=pure x:=by intro _;rfl):PE X (.ListComp elt [⟨tg,iter,ifs,0⟩] scope pos) (iA wi g tt te nt fv):=by
 intro pins s σ H Q I h;rw[eval_ListComp];refine wpAny_comprehension_free (use:=none) rfl hs S.kE S.kind S.names (aK (hi pins s σ H _ I h) λxv s1 h1=>aK h1 λvF s2 h2=>?_);obtain⟨it,fp,tn,J,H2,rfl,I2,T,dY,f2,hq⟩:=h2;refine Mh (RR:=λacc C=>compPost (model X.prog X.w) X.A X.xe none (EP X pins σ Q) acc C) S hc hg ht he I2 T dY f2 hq λD C s' H' m' I' hn hC fC q=>?_;refine⟨m',hn,λh' gD=>⟨.ref D,H',?_,rfl,q⟩⟩;have jP:=I2.lR hC fC;exact I'.turned (t':=s'.toks) (it:=C) (λb o hb e=>gD.extBut b o hb e) fC jP.2.1 jP.2.2.2.1 jP.2.2.2.2.1 jP.2.2.2.2.2
theorem DL{i:Nat}{y:Str}{py Ml:Pos}(hN:X.N.Nodup)(kF:X.N[i]? = some y)(hy:Loc X.env.scope y)(S:cS X scope cl N nt fv)(hc:X.calm=true)(hi:PI X tg iter wi)
  (hg:∀C s H fp,PG (fK X scope cl N C s H fp) tg g) (ht:∀C s H fp,pY (fK X scope cl N C s H fp) ifs tt) (he:∀C s H fp,PE (fK X scope cl N C s H fp) elt te)
  (DM:swapsWith (.ListComp elt [⟨tg,iter,ifs,0⟩] scope pos) (some (.Name y py)) Ml.line X.env=pure true:=by rfl)
  (hs:∀x,foldedSetIterable iter X.env x=pure x:=by intro _;rfl) (hf:X.fn y=true\/X.env.scope.names.lookup y=some .local:=by first | exact .inl rfl | exact .inr rfl | assumption) :
  PS X (.Assign [.Name y py] (.ListComp elt [⟨tg,iter,ifs,0⟩] scope pos) Ml) (vE (iA wi g tt te nt fv) (nu i)):=by
 intro pins s σ H D' I h;rw[exec_Assign_Name_used _ _ _ _ DM];refine wpAny_bind (wpAny_standAt (wpAny_bind ?_))
 show wpAny _ _ (do let _ ← comprehension (.ListComp elt [⟨tg,iter,ifs,0⟩] scope pos) scope X.env _ (newList []) false (eval iter X.env) (some (assign (.Name y py) X.env))) _ _ s
 refine wpAny_bind (wpAny_mono (wpAny_comprehension_free (use:=some (assign (.Name y py) X.env)) (Q:=λ_ s'=>SP X pins D' .next s') rfl hs S.kE S.kind S.names
  (aK (hi pins s σ H _ I h) λxv s1 h1=>aK h1 λvF s2 h2=>?_)) (λ_ s' hq=>wpAny_pure (wpAny_pure hq)) λ_ _ e=>e)
 obtain⟨it,fp,tn,J,H2,rfl,I2,T,dY,f2,hq⟩:=h2;refine Mh (RR:=λacc C=>compPost (model X.prog X.w) X.A X.xe (some (assign (.Name y py) X.env)) (λ_ s'=>SP X pins D' .next s') acc C) (Q:=λx H1=>nu i x σ H1 D'.nx) S hc hg ht he I2 T dY f2 hq λD C s' H' m' I' hn hC fC q=>?_;have jP:=I2.lR hC fC
 show wpAny _ _ (assign (.Name y py) X.env (.ref D)) _ _ _;refine wpAny_assign_Name (KR I' hN kF hy (v:=.ref D) rfl (λgA Y8 ⟨a,Y9,ha⟩=>?_) hf);have Y_:C≠a:=by
  rcases ha with z | z
  ·rw[z];exact jP.2.1
  ·exact λe=>jP.2.2.2.2.1 y a z e.symm
 refine⟨m',hn.sameBut Y9 Y_,λh' gD=>⟨_,H',?_,q⟩⟩;exact Y8.turned (t':=gA.toks) (it:=C) (λb o hb e=>gD.extBut b o hb e) fC jP.2.1 jP.2.2.2.1 jP.2.2.2.2.1 jP.2.2.2.2.2
end
noncomputable def r9(K:PySem.W.Frag)(a:Addr):It :=
 ⟨λi H=>∃xs x,aA K H a xs/\xs[i]? = some x,λi H v H'=>∃T x,H T=none/\v = .ref T/\(∀xs,aA K H a xs->xs[i]? = some x)/\H' = upd H T (.tup [.int i,x]),λi H=>∃xs,aA K H a xs/\xs.length<=i⟩
theorem Za{P:Program}{w:World}{K:PySem.W.Frag}{elts:List Expr}{x1}{tp:Pos}(a e it:Addr)(DN:e≠it) :
  Turn P w K (.Tuple elts x1 tp) (r9 K a) [e,it] e (λi h=>(∃old,IsEnum h e it (i:Nat) old)/\h.IsListIter it a i) where
 mem:=by simp
 obj:=λi h st b hb=>by
  obtain⟨⟨old,he⟩,o,e1,c,d⟩:=st;rcases List.mem_cons.mp hb with z | hb
  ·rw[z];exact⟨_,he,λv z=>by
    have z':Data.fields _=Data.cell v:=z;cases z'⟩
  ·have e2:b=it:=by simpa using hb
   rw[e2];exact⟨o,e1,λv z=>by rw[d] at z;cases z⟩
 keep:=λi h h' st k=>by
  obtain⟨⟨old,he⟩,hi⟩:=st;exact⟨⟨old,k e (by simp) _ he⟩,hi.at λo q=>k it (by simp) o q⟩
 item:=by
  intro X hP hw hK hc i pins s σ H E I hf st hg;subst hP hw hK;obtain⟨xs,x,hq,hx⟩:=hg;obtain⟨aq,rv,p,hz⟩:=I.list hq;obtain⟨u,hu,ru⟩:=rv.get hx;obtain⟨⟨old,he⟩,hit⟩:=st;obtain⟨f0,f1,f2,f3,f4,f5⟩:=hf e (by simp)
  obtain⟨g0,g1,g2,g3,g4,g5⟩:=hf it (by simp)
  have Mm:e<s.heap.objs.size:=Heap.lt_size he;have Zb:it<s.heap.objs.size:=by obtain⟨_,z,_⟩:=hit;exact Heap.lt_size z
  refine wpAny_pyNext_enum_item he hit p.isList (x:=u) (by simpa using hu) DN λh' ho pZ hT hsz hk=>?_
  refine⟨_,rfl,?_⟩;refine wpAny_letOwnedTupleGo_enum ho λp5 r_ gD=>?_
  replace gD:Heap.SameBut e h' p5:=gD
  -- two records have turned,a tuple is new
  have I1:Inv X pins σ H { s with heap:=(s.heap),toks:=s.toks+1 }:=I.tok _;have kk:∀b o,b∉[e,it]->s.heap.get? b=some o->p5.get? b=some o:=λb o hb q=>by
   have h1:b≠e:=λz=>hb (by simp[z])
   have h2:b≠it:=λz=>hb (by simp[z])
   exact gD.extBut b o h1 (hk b o h1 h2 q)
  have rD:∀b v,H b=some v->b∉[e,it]:=λb v q hb=>by
   rcases List.mem_cons.mp hb with z | hb
   ·rw[z,f0] at q;cases q
   ·have e2:b=it:=by simpa using hb
    rw[e2,g0] at q;cases q
  have Mn:H s.heap.objs.size=none:=I.aD.fresh (Nat.le_refl _);have se:∀b v,H b=some v->b≠s.heap.objs.size:=λb v q z=>by rw[z,Mn] at q;cases q
  have Zc:p5.get? s.heap.objs.size=some { cls:=.type "tuple",data:=.seq #[.int (i:Nat) s.toks,u] }:=gD.extBut _ _ (Nat.ne_of_gt Mm) hT;have ajB:∃o,p5.get? e=some o:=⟨_,r_⟩;have ajC:∃o,p5.get? it=some o:=by
   obtain⟨o,q,_⟩:=pZ;exact⟨o,gD.extBut _ _ (Ne.symm DN) q⟩
  have I2:Inv X pins σ (upd H s.heap.objs.size (.tup [.int i,x])) { s with heap:=p5,toks:=s.toks+1 }:=by
   refine I.step (g':=s.gens) (d':=s.drawn) (ch:=[e,it]) (λb hb=>?_) (λb o _ _ hc q _=>kk b o hc q) (λb o _ _ hc q _=>⟨o.slots,kk b o hc q⟩) (λb o _ q n=>?_) (λb o hc q=>⟨o,kk b o hc q⟩)
    (λb ys q=>by rw[az (se b _ q)];exact q) (λb o v q=>by rw[az (se b _ q)];exact q) (λb ps q=>⟨#[],by rw[az (se b _ q),q];simp⟩) (λm hm=>?_) (λb v q=>?_) I.bare
   ·rcases List.mem_cons.mp hb with z | hb
    ·rw[z];exact⟨f3,f1,f4,f5⟩
    ·have e2:b=it:=by simpa using hb
     rw[e2];exact⟨g3,g1,g4,g5⟩
   ·rw[az (Nat.ne_of_lt (Heap.lt_size q))];exact n
   ·obtain⟨o,es,ep,q,r⟩:=hm;exact⟨o,es,ep,kk _ o (by
     intro hb;rcases List.mem_cons.mp hb with z | hb
     ·exact f1 z.symm
     ·exact g1 (by simpa using hb:X.env.locals=it).symm) q,r⟩
   ·by_cases hb:b=s.heap.objs.size
    ·subst hb;rw[aB] at q;cases q;refine⟨by show 2<=sizeLine;decide,[.int (i:Nat) s.toks,u],.cons ⟨_,rfl⟩ (.cons ru .nil),_,Zc,rfl,_,rfl⟩
    ·rw[az hb] at q;refine(I.aD b v q).fE (λc o vt z=>kk c o ?_ z) (λc z=>by rw[az (se c _ z)];exact z) (λc ys z=>by rw[az (se c _ z)];exact z)
     rcases vt with z2 | z2
     ·rw[z2];exact rD b v q
     ·exact rD c _ z2
  refine⟨.ref s.heap.objs.size,_,I2,rfl,⟨_,x,Mn,rfl,λys hy=>by rw[I.K4 hy hq];exact hx,rfl⟩,⟨⟨u,?_⟩,?_⟩,λb hb=>?_⟩
  ·have z:((i+1:Nat):Int)=(i:Int)+1:=by lia
   rw[z];exact r_
  ·exact pZ.at λo q=>gD.extBut _ _ (Ne.symm DN) q
  ·have bQ:b<s.heap.objs.size:=by
    rcases List.mem_cons.mp hb with z | hb
    ·rw[z];exact Mm
    ·rw[show b=it by simpa using hb];exact Zb
   rw[az (Nat.ne_of_lt bQ)];exact(hf b hb).1
 done:=by
  intro X hP hw hK hc i pins s σ H E I hf st hg;subst hP hw hK;obtain⟨xs,hq,hx⟩:=hg;obtain⟨aq,rv,p,hz⟩:=I.list hq;obtain⟨⟨old,he⟩,hit⟩:=st;obtain⟨g0,g1,g2,g3,g4,g5⟩:=hf it (by simp)
  have hl:=rv.length;exact wpAny_pyNext_enum_end (I.ok.hd hc) he hit p.isList (by simp;lia) λh' eb=>⟨rfl,I.turned (t':=s.toks) (λb o hb e=>eb b o hb e) g0 g1 g3 g4 g5⟩
 self:=λ_ _ _ _ _ st h=>by
  obtain⟨⟨old,he⟩,_⟩:=st;exact wpAny_pyIter_enum he h
section
variable{X:Cx}
noncomputable def DO(K:PySem.W.Frag)(ta:TA):TI:=λσ H R=>ta σ H λvs H1=>∃a,vs = [.ref a]/\(∃xs,aA K H1 a xs)/\R (r9 K a) H1
theorem sf{l:Expr}{ta:TA}{p pos tp:Pos}{elts:List Expr}{x1}(hg:Gl X "enumerate")(hm:X.mg "enumerate" = none)(hl:PA X [l] ta)(hs:starEach [l] X.env = [(false,eval l X.env)]:=by rfl) :
  PI X (.Tuple elts x1 tp) (.Call (.Name "enumerate" p) [l] [] pos) (DO X.K ta):=by
 intro pins s σ H R I h;refine Call_ (j6 I hg hm boot_enumerate (PyProof.Rows.callWith_type1 (aK (hl pos pins s σ H _ I h) λus s1 ⟨vs,H1,I1,r1,q1⟩=>?_) hs rfl));obtain⟨a,e,⟨xs,hq⟩,q⟩:=q1;subst e;obtain⟨u,rfl,ru⟩:=vals1 r1;cases ru;obtain⟨aq,rv,p,hz⟩:=I1.list hq;refine call_enumerate_list p.isList λh' he hit hsz hk=>?_;have I2:Inv X pins σ H1 { s1 with heap:=h' }:=I1.kept (t':=s1.toks) hk;refine wpAny_pyIter_enum he ?_;have n1:H1 (s1.heap.objs.size+1)=none:=I1.aD.fresh (Nat.le_succ _);have n0:H1 s1.heap.objs.size=none:=I1.aD.fresh (Nat.le_refl _);refine⟨s1.heap.objs.size+1,[s1.heap.objs.size+1,s1.heap.objs.size],_,_,H1,rfl,I2,Za a _ _ (Nat.succ_ne_self _),⟨⟨_,he⟩,hit⟩,λb hb=>?_,q⟩;rcases List.mem_cons.mp hb with z | hb
 ·rw[z];exact I1.lR (Nat.le_succ _) n1
 ·rw[show b=s1.heap.objs.size by simpa using hb];exact I1.lR (Nat.le_refl _) n0
theorem Zd{K:PySem.W.Frag}{a:Addr}{xs:List V}{g:TG}{tb:TS}{D:Ends}{σ:St}{H:Hp}(Pv:Nat->St->Hp->Prop)(h0:Pv 0 σ H)(hl:∀i σ H,i<=xs.length->Pv i σ H->aA K H a xs)
  (hs:∀i x σ H T,xs[i]? = some x->Pv i σ H->H T=none->g (.ref T) σ (upd H T (.tup [.int i,x])) λaj H2=>tb { D with nx:=Pv (i+1),ct:=Pv (i+1),bk:=D.nx } aj H2) (hd:∀σ H,Pv xs.length σ H->D.nx σ H) :
  ∃W:Nat->Nat->St->Hp->Prop,(∃m,W 0 m σ H)/\∀i m σ H,W i m σ H->
   ((r9 K a).stop i H/\D.nx σ H)\/((r9 K a).go i H/\∃N:St->Hp->Prop,(∀aQ H',N aQ H'->∃m',m' < m/\W (i+1) m' aQ H')/\∀x H',(r9 K a).j8 i H x H'->g x σ H' λaj H2=>tb { D with nx:=N,ct:=N,bk:=D.nx } aj H2):=by
 refine⟨λi m σ H=>m=xs.length - i/\i<=xs.length/\Pv i σ H,⟨xs.length,by simp,Nat.zero_le _,h0⟩,?_⟩
 rintro i m σ H ⟨rfl,hi,p⟩;have q:=hl i σ H hi p;by_cases bQ:i<xs.length
 ·refine .inr ⟨⟨xs,xs[i],q,by simp[bQ]⟩,Pv (i+1),λaQ H' p'=>⟨xs.length - (i+1),by lia,rfl,bQ,p'⟩,λx H' y=>?_⟩
  obtain⟨T,z,hT,e,y,e2⟩:=y;subst e e2;exact hs i z σ H T (y xs q) p hT
 ·have e:i=xs.length:=by lia
  subst e;exact .inl ⟨⟨xs,q,Nat.le_refl _⟩,hd σ H p⟩
theorem Ze(hc:X.calm=true):fG X (.builtin "sum") (λxs H Q=>∃(p:Addr) (ns:List Int),xs = [.ref p]/\aA X.K H p (ns.map V.int)/\Q (.int ns.sum) H):=by
 intro pins s σ H xs us Q I r h;obtain⟨p,ns,rfl,hq,q⟩:=h;obtain⟨u,rfl,ru⟩:=vals1 r;cases ru;obtain⟨aq,rv,pl,hz⟩:=I.list hq;have hi:IntsAre aq ns:=intsAre_of rv;obtain⟨xs,hx⟩:=hi.allInts.items;have Zf:s.heap.IsList p (intItems xs):=hx▸pl.isList;refine sum_intListG (I.ok.hd hc) Zf λh' tk t' hk=>?_;have e1:ns=xs.toList.map (·.1):=by
  rw[← nums_intItems,← hx];exact(show numsOf aq.toArray.toList=ns from hi.numsOf).symm
 have e2:preSum (numAt xs) xs.size=ns.sum:=by
  rw[preSum_eq,List.take_of_length_le (by simp),e1]
 rw[e2];exact⟨.int ns.sum,H,I.kept hk,⟨t',rfl⟩,q⟩
theorem Zg:fG X (.builtin "sorted") (λxs H Q=>∃(p:Addr) (ns:List Int),xs = [.ref p]/\aA X.K H p (ns.map V.int)/\ns.length<64/\
  ∀(l:Addr) (gB:List Int),H l=none->gB.Perm ns->gB.Pairwise (·<=·)->Q (.ref l) (upd H l (.lst (gB.map V.int)))):=by
 intro pins s σ H xs us Q I r h;obtain⟨p,ns,rfl,hq,Zh,q⟩:=h;obtain⟨u,rfl,ru⟩:=vals1 r;cases ru;obtain⟨aq,rv,pl,hz⟩:=I.list hq;have hi:IntsAre aq ns:=intsAre_of rv;have hlen:=hi.length;refine sorted_ints pl.isList hi (by lia) λout gB a1 a2 a3=>?_
 obtain⟨e,he⟩:=sortedAll_at s.heap aq out;have hn:H (s.heap.objs.size+1)=none:=I.aD.fresh (Nat.le_succ _);refine⟨.ref (s.heap.objs.size+1),upd H (s.heap.objs.size+1) (.lst (gB.map V.int)),I.laid (t':=s.toks) (λb o q=>sortedAll_old q) (Nat.le_succ _) ?_,rfl,q _ gB hn a2 a3⟩;refine⟨?_,out.toList,e,wm a1,by simpa using he⟩
 rw[List.length_map,a2.length_eq];exact Nat.le_trans (Nat.le_of_lt Zh) (by decide)
theorem Zi(hc:X.calm=true):fG X (.builtin "min") (λxs H Q=>∃(p:Addr) (ns:List Int),xs = [.ref p]/\aA X.K H p (ns.map V.int)/\0<ns.length/\∀M,M∈ns->(∀a,a∈ns->M<=a)->Q (.int M) H):=by
 intro pins s σ H xs us Q I r h;obtain⟨p,ns,rfl,hq,h0,q⟩:=h;obtain⟨u,rfl,ru⟩:=vals1 r;cases ru;obtain⟨aq,rv,pl,hz⟩:=I.list hq;have hi:IntsAre aq ns:=intsAre_of rv;obtain⟨m,F⟩:=I.fr;refine min_list_N (I.ok.hd hc) F (Ww (h:=s.heap)) pl.isList hi h0 λh' M t tk F' N' h1 h2=>?_;have kk:∀b o,b≠X.env.locals->s.heap.get? b=some o->h'.get? b=some o:=λb o hb e=>by
  cases q:X.base.get? b with
  | some z =>
   have:=F.keep b z q;rw[e] at this;cases this;exact F'.keep b _ q
  | none=>exact(N' (b,o) (Wu hb q e)).1
 have nl:∀b v,H b=some v->b≠X.env.locals:=λb v e z=>by rw[z,I.free] at e;cases e
 have I':Inv X pins σ H { s with heap:=h',toks:=tk }:=by
  refine I.step (g':=s.gens) (d':=s.drawn) (ch:=[]) (λ_ z=>nomatch z) (λb o hb _ _ e _=>kk b o hb e) (λb o hb _ _ e _=>⟨o.slots,kk b o hb e⟩) (λ_ _ _ _ n=>n) (λb o _ e=>?_) (λ_ _ e=>e) (λ_ _ _ e=>e)
   (λb ps e=>⟨#[],by rw[e];simp⟩) (λm' hm=>?_) (λb v e=>(I.aD b v e).fE (λc o hc e'=>kk c o ?_ e') (λ_ e=>e) (λ_ _ e=>e)) I.bare
  ·by_cases hb:b=X.env.locals
   ·obtain⟨o',_,_,z,_⟩:=F'.ns;exact⟨o',by rw[hb];exact z⟩
   ·exact⟨o,kk b o hb e⟩
  ·have:m' = m:=by
    obtain⟨o1,Mp,Zj,g1,d1,k1,z1⟩:=hm;obtain⟨o2,DP,Mq,g2,d2,k2,z2⟩:=F.ns;rw[g1] at g2;cases g2;rw[d1] at d2;cases d2
    funext x
    rw[← z1 x,← z2 x]
   rw[this];exact F'.ns
  ·rcases hc with z | z
   ·rw[z];exact nl b v e
   ·exact nl c _ z
 exact⟨.int M,H,I',⟨t,rfl⟩,q M h1 h2⟩
theorem DQ:fG X (.builtin "isinstance") (λxs H Q=>∃x T t b,xs = [x,.ty T]/\gw X.K H x t/\PySem.W.kitOne X.K t (.type T)=some b/\Q (.bl b) H):=by
 intro pins s σ H xs us Q I r h;obtain⟨x,T,t,b,rfl,ty,e,q⟩:=h;obtain⟨u,v,rfl,ru,rv⟩:=vals2 r;cases (show v=Value.type T from rv);exact Xs I ru ty e λtk=>⟨.bl b,H,I.tok _,rfl,q⟩
end
noncomputable def AllP{α:Type}(P:α->Prop):List α->Prop
 | []=>True
 | a::r=>P a/\AllP P r
theorem AllP.mem{α:Type}{P:α->Prop}:∀ {l:List α},AllP P l->∀a∈l,P a
 | _::_,h,a,hm=>by
  rcases List.mem_cons.mp hm with rfl | hm
  ·exact h.1
  ·exact AllP.mem h.2 a hm
theorem cS.of{X:Cx}{scope:Scope}{cl:List (Str×Addr)}{N:List Str}{nt:Nat}{fv:List Nat}(kE:closureFor scope X.env=pure cl)(kind:scope.kind = .function)
  (jN:(scope.names.all λy=>y.2 != .cell)=true) (names:(scope.names.all λy=>y.2 != .local || scope.names.lookup y.1 == some .local)=true)
  (sub:AllP (λp:Str×Addr=>X.env.cells.lookup p.1=some p.2) cl) (has:(scope.names.all λy=>y.2 != .free || (cl.lookup y.1).isSome)=true)
  (free:fv.map (λj=>X.N[j]?)=(N.drop nt).map some) (fk:((N.drop nt).all λy=>scope.names.lookup y == some .free && X.env.scope.names.lookup y == some .cell)=true) (le:nt<=N.length) (nd:N.Nodup) :
  cS X scope cl N nt fv where
 kE:=kE
 kind:=kind
 jN:=λy hy=>by have:=List.all_eq_true.mp jN y hy;simpa using this
 names:=λy hy hl=>by have:=List.all_eq_true.mp names y hy;simp[hl] at this;exact this
 sub:=sub.mem
 has:=λy hy hl=>by
  have:=List.all_eq_true.mp has y hy;rw[hl] at this;exact Option.isSome_iff_exists.mp (by simpa only[bne_self_eq_false,Bool.false_or] using this)
 free:=free
 fk:=λy hy=>by have:=List.all_eq_true.mp fk y hy;simpa using this
 le:=le
 nd:=nd
theorem ajD{CX:f_}{P:Program}{w:World}{K:PySem.W.Frag}{mg:Str->Option Value}{base:Heap}{N:List Str}{qual:Str}{scope:Scope}{f:Addr}{cd:Value}{A:Around}{outer:List Env}{s:Shared}{H:Hp}{E:XK} :
  (gz CX P w K mg base N qual scope f cd A outer s H E).K=K:=rfl
theorem ajE{X:Cx}{E:Value->Shared->Prop}:(X.i_ E).K=X.K:=rfl
theorem ajF{X:Cx}{scope:Scope}{cl:List (Str×Addr)}{N:List Str}{C:Addr}{s:Shared}{H:Hp}{fp:List Addr}:(fK X scope cl N C s H fp).K=X.K:=rfl
structure Zn(H:Hp)(a:Addr)(ts:List Addr)(z:List (Int×Int)):Prop where
 l:H a=some (.lst (ts.map V.ref))
 n:ts.length=z.length
 t:∀(i:Nat) (t:Addr) (p:Int×Int),ts[i]? = some t->z[i]? = some p->H t=some (.tup [.int p.1,.int p.2])
theorem Zn.same{H H':Hp}{a:Addr}{ts:List Addr}{z:List (Int×Int)}(h:Zn H a ts z)(e:ah H H'):Zn H' a ts z:=⟨e _ _ h.l,h.n,λi t p h1 h2=>e _ _ (h.t i t p h1 h2)⟩
theorem Zn.at{H:Hp}{a:Addr}{ts:List Addr}{z:List (Int×Int)}(h:Zn H a ts z){i:Nat}{x:V}(e:(ts.map V.ref)[i]? = some x):∃t p,x = .ref t/\z[i]? = some p/\H t=some (.tup [.int p.1,.int p.2]):=by
 rw[List.getElem?_map] at e;cases q:ts[i]? with
 | none=>rw[q] at e;cases e
 | some t =>
  rw[q] at e;have hi:i<z.length:=by rw[← h.n];exact(List.getElem?_eq_some_iff.mp q).1
  exact⟨t,z[i],(Option.some.inj e).symm,List.getElem?_eq_getElem hi,h.t i t _ q (List.getElem?_eq_getElem hi)⟩
noncomputable def DR(ns:List Int)(k:Int):Int:=ns.getD k.toNat 0
section
variable{K:PySem.W.Frag}{ta:TA}{tl:TE}{g:TG}{tb:TS}{D:Ends}{σ:St}{H:Hp}
theorem Zk(lo hi:Int)(eS:∀Q:List V->Hp->Prop,Q [.int lo,.int hi] H->ta σ H Q)(b1 : -1000000000000<lo)(b2:lo<1000000000000)(b3 : -1000000000000<hi)(b4:hi<1000000000000)(Pv:Nat->St->Hp->Prop)(h0:Pv 0 σ H)
  (hs:∀i σ H,i<(hi - lo).toNat->Pv i σ H->g (.int (lo+(i:Int))) σ H λaj H2=>tb { D with nx:=Pv (i+1),ct:=Pv (i+1),bk:=D.nx } aj H2) (hd:∀σ H,Pv (hi - lo).toNat σ H->D.nx σ H):jc (rJ ta) g tb D σ H :=
 eS _ ⟨lo,hi,rfl,⟨by lia,by lia,by lia,by lia⟩,Lc Pv h0 hs hd⟩
theorem Zl(a:Addr)(xs:List V)(iR:∀Q:VK,Q (.ref a) H->tl σ H Q)(dU:aA K H a xs)(Pv:Nat->St->Hp->Prop)(h0:Pv 0 σ H)(hl:∀i σ H,i<=xs.length->Pv i σ H->aA K H a xs)
  (hs:∀i x σ H,xs[i]? = some x->Pv i σ H->g x σ H λaj H2=>tb { D with nx:=Pv (i+1),ct:=Pv (i+1),bk:=D.nx } aj H2) (hd:∀σ H,Pv xs.length σ H->D.nx σ H):jc (kg K tl) g tb D σ H :=
 iR _ ⟨a,rfl,⟨xs,dU⟩,Lb Pv h0 hl hs hd⟩
theorem Zm(a:Addr)(xs:List V)(eS:∀Q:List V->Hp->Prop,Q [.ref a] H->ta σ H Q)(dU:aA K H a xs)(Pv:Nat->St->Hp->Prop)(h0:Pv 0 σ H)(hl:∀i σ H,i<=xs.length->Pv i σ H->aA K H a xs)
  (hs:∀i x σ H T,xs[i]? = some x->Pv i σ H->H T=none->g (.ref T) σ (upd H T (.tup [.int i,x])) λaj H2=>tb { D with nx:=Pv (i+1),ct:=Pv (i+1),bk:=D.nx } aj H2) (hd:∀σ H,Pv xs.length σ H->D.nx σ H):jc (DO K ta) g tb D σ H :=
 eS _ ⟨a,rfl,⟨xs,dU⟩,Zd Pv h0 hl hs hd⟩
variable{tt:TT}{te:TE}{nt:Nat}{fv:List Nat}{Q:VK}
noncomputable def NX(n i:Nat)(P:Prop):Prop:=∃m',m' < n - i/\m' = n - (i+1)/\i+1<=n/\P
theorem NX.of{n i:Nat}{P:Prop}(hi:i<n)(p:P):NX n i P:=⟨n - (i+1),by lia,rfl,hi,p⟩
theorem Zo(lo hi:Int)(eS:∀Q:List V->Hp->Prop,Q [.int lo,.int hi] H->ta σ H Q)(b1 : -1000000000000<lo)(b2:lo<1000000000000)(b3 : -1000000000000<hi)(b4:hi<1000000000000)
  (Pv:Addr->Nat->List V->St->Hp->Prop) (h0:∀D,H D=none->Pv D 0 [] (iQ σ nt fv) (upd H D (.lst []))) (hD:∀D i ys σ H,Pv D i ys σ H->H D=some (.lst ys)/\ys.length<sizeLine)
  (hs:∀D i ys aj H2,i<(hi - lo).toNat->Pv D i ys aj H2->g (.int (lo+(i:Int))) aj H2 λbK H4=>tt bK H4 λb H5=>if b=true then te bK H5 λv H6=>H6 D=some (.lst ys)/\NX (hi - lo).toNat i (Pv D (i+1) (ys++[v]) bK (upd H6 D (.lst (ys++[v])))) else NX (hi - lo).toNat i (Pv D (i+1) ys bK H5))
  (hd:∀D ys aj H2,Pv D (hi - lo).toNat ys aj H2->Q (.ref D) H2):iA (rJ ta) g tt te nt fv σ H Q:=by
 refine eS _ ⟨lo,hi,rfl,⟨by lia,by lia,by lia,by lia⟩,λD fL=>?_⟩
 refine⟨λi m ys aj H2=>m=(hi - lo).toNat - i/\i<=(hi - lo).toNat/\Pv D i ys aj H2,⟨_,rfl,Nat.zero_le _,h0 D fL⟩,?_⟩;rintro i m ys aj H2 ⟨rfl,kF,p⟩;obtain⟨d1,d2⟩:=hD D i ys aj H2 p;refine⟨d1,d2,?_⟩;by_cases bQ:i<(hi - lo).toNat
 ·refine .inr ⟨bQ,λx H3 y=>?_⟩;obtain⟨e1,e2⟩:=y;subst e1 e2;exact hs D i ys aj _ bQ p
 ·have e:i=(hi - lo).toNat:=by lia
  subst e;exact .inl ⟨Nat.le_refl _,hd D ys aj H2 p⟩
theorem Zp(a:Addr)(xs:List V)(iR:∀Q:VK,Q (.ref a) H->tl σ H Q)(dU:aA K H a xs)
  (Pv:Addr->Nat->List V->St->Hp->Prop) (h0:∀D,H D=none->Pv D 0 [] (iQ σ nt fv) (upd H D (.lst []))) (hD:∀D i ys σ H,Pv D i ys σ H->H D=some (.lst ys)/\ys.length<sizeLine/\aA K H a xs)
  (hs:∀D i x ys aj H2,xs[i]? = some x->Pv D i ys aj H2->g x aj H2 λbK H4=>tt bK H4 λb H5=>if b=true then te bK H5 λv H6=>H6 D=some (.lst ys)/\NX xs.length i (Pv D (i+1) (ys++[v]) bK (upd H6 D (.lst (ys++[v])))) else NX xs.length i (Pv D (i+1) ys bK H5))
  (hd:∀D ys aj H2,Pv D xs.length ys aj H2->Q (.ref D) H2):iA (kg K tl) g tt te nt fv σ H Q:=by
 refine iR _ ⟨a,rfl,⟨xs,dU⟩,λD fL=>?_⟩;refine⟨λi m ys aj H2=>m=xs.length - i/\i<=xs.length/\Pv D i ys aj H2,⟨_,rfl,Nat.zero_le _,h0 D fL⟩,?_⟩;rintro i m ys aj H2 ⟨rfl,kF,p⟩;obtain⟨d1,d2,d3⟩:=hD D i ys aj H2 p;refine⟨d1,d2,?_⟩;by_cases bQ:i<xs.length
 ·refine .inr ⟨⟨xs,xs[i],d3,by simp[bQ]⟩,λx H3 y=>?_⟩
  obtain⟨e1,e2⟩:=y;subst e1;exact hs D i x ys aj _ (e2 xs d3) p
 ·have e:i=xs.length:=by lia
  subst e;exact .inl ⟨⟨xs,d3,Nat.le_refl _⟩,hd D ys aj H2 p⟩
end
theorem iS{ns:List Int}{k:Int}(h0:0<=k)(h:k<(ns.length:Int)):fj (ns.map V.int) k=some (.int (ns.getD k.toNat 0)):=by
 have hk:k.toNat<ns.length:=by lia
 unfold fj iN;rw[if_pos h0,if_pos (by simpa using h)]
 simp[List.getD_eq_getElem?_getD,List.getElem?_eq_getElem hk]
theorem Zq{ns:List Int}(h:0<ns.length):fj (ns.map V.int) (-1)=some (.int (ns.getD (ns.length - 1) 0)):=by
 have hk:ns.length - 1<ns.length:=by lia
 unfold fj iN;rw[if_neg (by decide),if_pos (by simp;lia)]
 have e:(-1+((ns.map V.int).length:Int)).toNat=ns.length - 1:=by simp;lia
 rw[e];simp[List.getD_eq_getElem?_getD,List.getElem?_eq_getElem hk]
theorem DS(a b:String):(Str.ofString a=Str.ofString b)=(a=b):=by
 refine propext ⟨λh=>?_,λh=>by rw[h]⟩
 rw[Str.ofString_eq_toList,Str.ofString_eq_toList] at h;have h:a.toList.map Char.toNat=b.toList.map Char.toNat:=by
  injection h with h;exact Array.toList_inj.mpr h |> λz=>by simpa using h
 have inj:∀(x y:List Char),x.map Char.toNat=y.map Char.toNat->x=y:=by
  intro x
  induction x with
  | nil=>intro y h;cases y with | nil=>rfl | cons c r=>simp at h
  | cons c r ih =>
   intro y h;cases y with
   | nil=>simp at h
   | cons d q =>
    simp only[List.map_cons,List.cons.injEq] at h;rw[ih q h.2,Char.toNat_inj.mp h.1]
 exact String.ext (inj _ _ h)
theorem gF(a b:String):(Str.ofString a == Str.ofString b)=(a == b):=by
 by_cases h:a=b
 ·subst h;simp
 ·have h2:¬ Str.ofString a=Str.ofString b:=by rw[DS];exact h
  rw[beq_eq_false_iff_ne.mpr h,beq_eq_false_iff_ne.mpr h2]
structure p6(z:List (Int×Int)):Prop where
 l1:1<=z.length
 l5:z.length<=5
 r:∀p∈z,1<=p.1/\p.1<=40/\1<=p.2/\p.2<=60
 s2:2<=(z.map (·.1)).sum
 DT:(z.map (·.1)).sum<=120
noncomputable def counts(z:List (Int×Int)):List Int:=z.flatMap λp=>List.replicate p.1.toNat p.2
structure SwOk(sw:List Int)(n:Int):Prop where
 len:(sw.length:Int)=n
 two:2<=n
 z:sw.getD 0 0=0
 pos:∀i:Nat,1<=i->i<sw.length->1<=sw.getD i 0/\sw.getD i 0<=1000000000
 up:∀i:Nat,1<=i->i<sw.length->sw.getD (i - 1) 0<=sw.getD i 0
 no:∀a b:Nat,1<=a->1<=b->a+b<sw.length->sw.getD (a+b) 0<=sw.getD a 0+sw.getD b 0
noncomputable def dW(s:Int):Nat->List Int->List (Int×Int)
 | _,[]=>[]
 | r,c::cs=>(List.range (c - s).toNat).map (λ(k:Nat)=>((r:Int),(k:Int)))++dW s (r+1) cs
noncomputable def lz(rc:List Int)(s:Int):List (Int×Int):=dW s 0 rc
noncomputable def kT(p:Int×Int):List Key:=[.inl p.1,.inl p.2]
noncomputable def gh:Nat->List (Int×Int)->List (List Key×V)->List (List Key×V)
 | _,[],acc=>acc
 | i,p::r,acc=>gh (i+1) r (putK acc (kT p) (.int i))
noncomputable def p7(z:List (Int×Int)):List (List Key×V):=gh 0 z []
theorem Mr(s:Int):∀(xs ys:List Int) (r:Nat),dW s r (xs++ys)=dW s r xs++dW s (r+xs.length) ys
 | [],ys,r=>by simp[dW]
 | x::xs,ys,r=>by
  rw[List.cons_append,dW,dW,Mr s xs ys (r+1),List.append_assoc,List.length_cons];congr 3;lia
theorem Ms:∀(xs ys:List (Int×Int)) (i:Nat) (acc:List (List Key×V)),gh i (xs++ys) acc=gh (i+xs.length) ys (gh i xs acc)
 | [],ys,i,acc=>by simp[gh]
 | x::xs,ys,i,acc=>by
  rw[List.cons_append,gh,gh,Ms xs ys (i+1),List.length_cons];congr 1;lia
theorem Mt:∀(xs:List (Int×Int)) (i:Nat) (acc:List (List Key×V)),(gh i xs acc).length<=acc.length+xs.length
 | [],i,acc=>by simp[gh]
 | x::xs,i,acc=>by
  rw[gh];have h1:=Mt xs (i+1) (putK acc (kT x) (.int i));have h2:=Dq acc (kT x) (.int i);rw[List.length_cons];lia
theorem Mu(x y:List (Int×Int)):counts (x++y)=counts x++counts y:=by simp[counts]
theorem p8:∀(z:List (Int×Int)),(∀p∈z,1<=p.1)->((counts z).length:Int)=(z.map (·.1)).sum
 | [],_=>rfl
 | p::z,h=>by
  have ih:=p8 z λp hp=>h p (List.mem_cons_of_mem _ hp);have h1:=h p List.mem_cons_self;simp only[counts,List.flatMap_cons,List.length_append,List.length_replicate,List.map_cons,List.sum_cons] at ih ⊢;lia
theorem Mv{z:List (Int×Int)}(ok:p6 z)(i:Nat):(counts (z.take i)).length<=120:=by
 have h0:=p8 z λp hp=>(ok.r p hp).1;have e:z=z.take i++z.drop i:=(List.take_append_drop i z).symm;have e2:(counts z).length=(counts (z.take i)).length+(counts (z.drop i)).length:=by
  rw[← List.length_append,← Mu,List.take_append_drop]
 have:=ok.DT;lia
theorem sr{z:List (Int×Int)}{c:Int}(h:c∈counts z):∃p∈z,c=p.2:=by
 obtain⟨p,hp,hc⟩:=List.mem_flatMap.mp h;exact⟨p,hp,(List.mem_replicate.mp hc).2⟩
theorem wD{s:Int}(hs:0<=s):∀(rc:List Int) (r:Nat),(∀c∈rc,0<=c/\c<=1000)->(dW s r rc).length<=1000*rc.length
 | [],_,_=>by simp[dW]
 | c::rc,r,h=>by
  have ih:=wD hs rc (r+1) λc hc=>h c (List.mem_cons_of_mem _ hc);have h1:=h c List.mem_cons_self;simp only[dW,List.length_append,List.length_map,List.length_range,List.length_cons];lia
theorem Zr{s:Int}(hs:0<=s){rc:List Int}(h:∀c∈rc,0<=c/\c<=1000)(i:Nat):(dW s 0 (rc.take i)).length<=1000*rc.length:=by
 have h1:=wD hs (rc.take i) 0 λc hc=>h c (List.mem_of_mem_take hc);rw[List.length_take] at h1;have h2:1000*min i rc.length<=1000*rc.length:=Nat.mul_le_mul_left _ (Nat.min_le_right _ _);exact Nat.le_trans h1 h2
theorem l8:sizeLine=16777216:=by decide
theorem Mw(n:Nat)(c:Int):(List.replicate n [V.int c]).flatten=(List.replicate n c).map V.int:=by
 induction n with
 | zero=>rfl
 | succ n ih=>rw[List.replicate_succ,List.flatten_cons,ih,List.replicate_succ,List.map_cons];rfl
theorem Mx{α:Type}{l:List α}{i:Nat}{x:α}(h:l[i]? = some x):i<l.length:=(List.getElem?_eq_some_iff.mp h).1
theorem take_succ_get{α:Type}{l:List α}{i:Nat}{x:α}(h:l[i]? = some x):l.take (i+1)=l.take i++[x]:=by
 rw[List.take_add_one,h];rfl
theorem My(l:List Int){i:Nat}(h:i<l.length):l[i]? = some (l.getD i 0):=by
 simp[List.getD_eq_getElem?_getD,List.getElem?_eq_getElem h]
theorem eT{α β:Type}{f:α->β}{l:List α}{i:Nat}{y:β}(h:(l.map f)[i]? = some y):∃x,l[i]? = some x/\y=f x:=by
 rw[List.getElem?_map] at h;cases e:l[i]? with
 | none=>rw[e] at h;cases h
 | some x=>rw[e] at h;exact⟨x,rfl,(Option.some.inj h).symm⟩
theorem get_mem{α:Type}{l:List α}{i:Nat}{x:α}(h:l[i]? = some x):x∈l:=List.mem_of_getElem? h
theorem eU{α:Type}{l:List α}{i:Nat}{x:α}(h:l[i]? = some x):i<l.length:=(List.getElem?_eq_some_iff.mp h).1
theorem ah.put{H:Hp}{a:Addr}{o:HO}(h:H a=none):ah H (upd H a o):=λb u e=>by rw[az (bW e h)];exact e
theorem ah.put2{H H':Hp}{a:Addr}{o:HO}(s:ah H H')(h:H a=none):ah H (upd H' a o):=λb u e=>by rw[az (bW e h)];exact s b u e
theorem Zn.sq{K:PySem.W.Frag}{H:Hp}{a:Addr}{ts:List Addr}{z:List (Int×Int)}(h:Zn H a ts z):aA K H a (ts.map V.ref):=aA.of h.l
section
variable{X:Cx}{K:PySem.W.Frag}
theorem Zu(h:X.K=K):rQ X (LM K):=h▸jG
theorem Mz(h:X.K=K):rQ X (LL K):=h▸cR
end
section
variable{K:PySem.W.Frag}{ta:TA}{tl:TE}{g:TG}{tb:TS}{D:Ends}{σ:St}{H:Hp}
theorem rl(a:Addr)(xs:List V)(Pv:Nat->St->Hp->Prop)(iR:∀Q:VK,Q (.ref a) H->tl σ H Q)(dU:aA K H a xs)(h0:Pv 0 σ H)(hl:∀i σ H,i<=xs.length->Pv i σ H->aA K H a xs)
  (hs:∀i x σ H (N:St->Hp->Prop),(∀σ H,Pv (i+1) σ H->N σ H)->xs[i]? = some x->Pv i σ H->g x σ H λaj H2=>tb { D with nx:=N,ct:=N,bk:=D.nx } aj H2) (hd:∀σ H,Pv xs.length σ H->D.nx σ H):jc (kg K tl) g tb D σ H :=
 Zl a xs iR dU Pv h0 hl (λi x σ H hx p=>hs i x σ H _ (λ_ _ z=>z) hx p) hd
theorem wF(lo hi:Int)(Pv:Nat->St->Hp->Prop)(eS:∀Q:List V->Hp->Prop,Q [.int lo,.int hi] H->ta σ H Q)(b1 : -1000000000000<lo)(b2:lo<1000000000000)(b3 : -1000000000000<hi)(b4:hi<1000000000000)(h0:Pv 0 σ H)
  (hs:∀i σ H (N:St->Hp->Prop),(∀σ H,Pv (i+1) σ H->N σ H)->i<(hi - lo).toNat->Pv i σ H->g (.int (lo+(i:Int))) σ H λaj H2=>tb { D with nx:=N,ct:=N,bk:=D.nx } aj H2) (hd:∀σ H,Pv (hi - lo).toNat σ H->D.nx σ H):jc (rJ ta) g tb D σ H :=
 Zk lo hi eS b1 b2 b3 b4 Pv h0 (λi σ H hx p=>hs i σ H _ (λ_ _ z=>z) hx p) hd
theorem MA(n:Int)(Pv:Nat->St->Hp->Prop)(eS:∀Q:List V->Hp->Prop,Q [.int n] H->ta σ H Q)(MB : -1000000000000<n)(hn:n<1000000000000)(h0:Pv 0 σ H)
  (hs:∀i σ H (N:St->Hp->Prop),(∀σ H,Pv (i+1) σ H->N σ H)->i<n.toNat->Pv i σ H->g (.int (i:Int)) σ H λaj H2=>tb { D with nx:=N,ct:=N,bk:=D.nx } aj H2) (hd:∀σ H,Pv n.toNat σ H->D.nx σ H):jc (vH ta) g tb D σ H:=by
 refine eS _ ⟨n,rfl,by lia,by lia,?_⟩
 refine Lc Pv h0 (λi σ H hi p=>?_) hd;have e2:(0:Int)+(i:Int)=i:=by lia
 rw[e2];exact hs i σ H _ (λ_ _ z=>z) hi p
theorem re(a:Addr)(xs:List V)(Pv:Nat->St->Hp->Prop)(eS:∀Q:List V->Hp->Prop,Q [.ref a] H->ta σ H Q)(dU:aA K H a xs)(h0:Pv 0 σ H)(hl:∀i σ H,i<=xs.length->Pv i σ H->aA K H a xs)
  (hs:∀i x σ H T (N:St->Hp->Prop),(∀σ H,Pv (i+1) σ H->N σ H)->xs[i]? = some x->Pv i σ H->H T=none->g (.ref T) σ (upd H T (.tup [.int i,x])) λaj H2=>tb { D with nx:=N,ct:=N,bk:=D.nx } aj H2) (hd:∀σ H,Pv xs.length σ H->D.nx σ H):jc (DO K ta) g tb D σ H :=
 Zm a xs eS dU Pv h0 hl (λi x σ H T hx p hT=>hs i x σ H T _ (λ_ _ z=>z) hx p hT) hd
noncomputable def wG(K:PySem.W.Frag)(a:Addr)(g:TG)(tb:TS)(D:Ends)(σ:St)(H:Hp):Prop:=(∃xs,aA K H a xs)/\∃W:Nat->Nat->St->Hp->Prop,(∃m,W 0 m σ H)/\∀i m σ H,W i m σ H->
 ((lT K a).stop i H/\D.nx σ H)\/((lT K a).go i H/\∃N:St->Hp->Prop,(∀aQ H',N aQ H'->∃m',m' < m/\W (i+1) m' aQ H')/\∀x H',(lT K a).j8 i H x H'->g x σ H' λaj H2=>tb { D with nx:=N,ct:=N,bk:=D.nx } aj H2)
theorem Zv(h:tl σ H λx H1=>∃a,x = .ref a/\wG K a g tb D σ H1):jc (kg K tl) g tb D σ H:=h
theorem wG.by(a:Addr)(xs:List V)(Pv:Nat->St->Hp->Prop)(dU:aA K H a xs)(h0:Pv 0 σ H)(hl:∀i σ H,i<=xs.length->Pv i σ H->aA K H a xs)
  (hs:∀i x σ H (N:St->Hp->Prop),(∀σ H,Pv (i+1) σ H->N σ H)->xs[i]? = some x->Pv i σ H->g x σ H λaj H2=>tb { D with nx:=N,ct:=N,bk:=D.nx } aj H2) (hd:∀σ H,Pv xs.length σ H->D.nx σ H):wG K a g tb D σ H :=
 ⟨⟨xs,dU⟩,Lb Pv h0 hl (λi x σ H hx p=>hs i x σ H _ (λ_ _ z=>z) hx p) hd⟩
variable{tt:TT}{te:TE}{nt:Nat}{fv:List Nat}{Q:VK}
theorem Zw(lo hi:Int)(Pv:Addr->Nat->List V->St->Hp->Prop)(eS:∀Q:List V->Hp->Prop,Q [.int lo,.int hi] H->ta σ H Q)(b1 : -1000000000000<lo)(b2:lo<1000000000000)(b3 : -1000000000000<hi)(b4:hi<1000000000000)
  (h0:∀D,H D=none->Pv D 0 [] (iQ σ nt fv) (upd H D (.lst []))) (hD:∀D i ys σ H,Pv D i ys σ H->H D=some (.lst ys)/\ys.length<sizeLine)
  (hs:∀D i ys aj H2 (N:List V->St->Hp->Prop),(∀ys σ H,Pv D (i+1) ys σ H->N ys σ H)->i<(hi - lo).toNat->Pv D i ys aj H2->g (.int (lo+(i:Int))) aj H2 λbK H4=>tt bK H4 λb H5=>if b=true then te bK H5 λv H6=>H6 D=some (.lst ys)/\N (ys++[v]) bK (upd H6 D (.lst (ys++[v]))) else N ys bK H5)
  (hd:∀D ys aj H2,Pv D (hi - lo).toNat ys aj H2->Q (.ref D) H2):iA (rJ ta) g tt te nt fv σ H Q :=
 Zo lo hi eS b1 b2 b3 b4 Pv h0 hD (λD i ys aj H2 hi p=>hs D i ys aj H2 _ (λ_ _ _ z=>NX.of hi z) hi p) hd
theorem jQ(a:Addr)(xs:List V)(Pv:Addr->Nat->List V->St->Hp->Prop)(iR:∀Q:VK,Q (.ref a) H->tl σ H Q)(dU:aA K H a xs)
  (h0:∀D,H D=none->Pv D 0 [] (iQ σ nt fv) (upd H D (.lst []))) (hD:∀D i ys σ H,Pv D i ys σ H->H D=some (.lst ys)/\ys.length<sizeLine/\aA K H a xs)
  (hs:∀D i x ys aj H2 (N:List V->St->Hp->Prop),(∀ys σ H,Pv D (i+1) ys σ H->N ys σ H)->xs[i]? = some x->Pv D i ys aj H2->g x aj H2 λbK H4=>tt bK H4 λb H5=>if b=true then te bK H5 λv H6=>H6 D=some (.lst ys)/\N (ys++[v]) bK (upd H6 D (.lst (ys++[v]))) else N ys bK H5)
  (hd:∀D ys aj H2,Pv D xs.length ys aj H2->Q (.ref D) H2):iA (kg K tl) g tt te nt fv σ H Q :=
 Zp a xs iR dU Pv h0 hD (λD i x ys aj H2 hx p=>hs D i x ys aj H2 _ (λ_ _ _ z=>NX.of (List.getElem?_eq_some_iff.mp hx).1 z) hx p) hd
end
theorem kG{K:PySem.W.Frag}{H:Hp}{σ:St}{t:Addr}{x y:V}{n i j:Nat}{Q:St->Hp->Prop}(h:bq K H t [x,y])(hn:2=n)(q:Q ((σ.set i (some x)).set j (some y)) H):CQ K n (CO (nu i) (CO (nu j) K7)) (.ref t) σ H Q :=
 ⟨t,[x,y],rfl,h,hn,x,[y],rfl,y,[],rfl,rfl,q⟩
theorem lenZ{ts:List Addr}{z:List (Int×Int)}(h:ts.length=z.length):(ts.map V.ref).length=z.length:=by simpa using h
theorem Zn.snoc{H:Hp}{l p:Addr}{ts:List Addr}{z:List (Int×Int)}(h:Zn H l ts z)(hp:H p=none)(a b:Int):Zn (upd (upd H p (.tup [.int a,.int b])) l (.lst (ts.map V.ref++[V.ref p]))) l (ts++[p]) (z++[(a,b)]):=by
 have DU:l≠p:=bW h.l hp;refine⟨by rw[aB,List.map_append];rfl,by simp[h.n],λi t q e1 e2=>?_⟩
 have hn:=h.n;by_cases hi:i<ts.length
 ·rw[List.getElem?_append_left hi] at e1;rw[List.getElem?_append_left (by lia)] at e2
  have ht:=h.t i t q e1 e2;rw[az (pF ht h.l (by intro z;cases z)),az (bW ht hp)]
  exact ht
 ·rw[List.getElem?_append_right (by lia)] at e1
  rw[List.getElem?_append_right (by lia)] at e2
  have gi:i - ts.length=0:=by
   have:=Mx e1;simp at this;lia
  rw[gi] at e1;rw[← hn,gi] at e2;simp at e1 e2;subst e1 e2;rw[az DU.symm,aB]
noncomputable def Zx(t:TS):TS:=λD σ H=>∃M:St->Hp->Prop,t { D with nx:=M } σ H/\∀eN H1,M eN H1->D.nx eN H1
theorem Zy{X:Cx}{st:Stmt}{t:TS}(h:PS X st t):PS X st (Zx t):=by
 rintro pins s σ H D I ⟨M,hM,k⟩;refine aK (h pins s σ H _ I hM) λf s1 q=>?_;cases f with
 | next=>obtain⟨eN,H1,I1,q⟩:=q;exact⟨eN,H1,I1,k _ _ q⟩
 | brk=>exact q
 | cont=>exact q
 | ret u=>exact q
noncomputable def Zz(K:PySem.W.Frag):Sp:=λvs H Q _=>∃(a:Addr) (ts:List Addr) (z:List (Int×Int)),vs = [.ref a]/\Zn H a ts z/\p6 z/\∀H',ah H H'->Q .aI H'
noncomputable def ZA(K:PySem.W.Frag):Sp:=λvs H Q _=>∃(a:Addr) (ts:List Addr) (z:List (Int×Int)) (aM dh:Int),vs = [.ref a,.int aM,.int dh]/\Zn H a ts z/\p6 z/\1<=aM/\aM<=1000000000/\0<=dh/\dh<aM/\
 (∀p∈z,aM % p.2=0)/\Q .aI H
noncomputable def ZC(K:PySem.W.Frag):Sp:=λvs H Q _=>∃(a:Addr) (sw:List Int) (n:Int),vs = [.ref a,.int n]/\aA K H a (sw.map V.int)/\SwOk sw n/\n<=1000/\Q .aI H
noncomputable def ZD(K:PySem.W.Frag):Sp:=λvs H Q _=>∃(a:Addr) (sw:List Int) (n:Int),vs = [.ref a]/\aA K H a (sw.map V.int)/\SwOk sw n/\n<=1000/\Q .aI H
noncomputable def ZE(K:PySem.W.Frag):Sp:=λvs H Q _=>∃(a:Addr) (ts:List Addr) (z:List (Int×Int)),vs = [.ref a]/\Zn H a ts z/\p6 z/\
 ∀l H',ah H H'->H l=none->H' l=some (.lst ((counts z).map V.int))->Q (.ref l) H'
noncomputable def ZF(K:PySem.W.Frag):Sp:=λvs H Q _=>∃(a:Addr) (rc:List Int) (s:Int),vs = [.ref a,.int s]/\aA K H a (rc.map V.int)/\rc.length<=1000/\(∀c∈rc,0<=c/\c<=1000)/\0<=s/\s<=1000/\
 ∀l ts H',ah H H'->H l=none->(∀t∈ts,H t=none)->Zn H' l ts (lz rc s)->Q (.ref l) H'
noncomputable def ZG(K:PySem.W.Frag):Sp:=λvs H Q _=>∃(a:Addr) (ts:List Addr) (z:List (Int×Int)),vs = [.ref a]/\Zn H a ts z/\z.length<=1000000/\
 ∀d H',ah H H'->H d=none->H' d=some (.dT (p7 z))->Q (.ref d) H'
structure Pl where
 rc:List Int
 aM:Int
 dh:Int
 sw:List Int
 nc:List (Int×Int)
structure CP(K:PySem.W.Frag)(C:Addr):Prop where
 cl:bR K C
 n1:bJ K C "ring_cells"
 n2:bJ K C "lap"
 n3:bJ K C "skew"
 n4:bJ K C "swing"
 n5:bJ K C "number_cells"
 n6:bJ K C "cell_numbers"
noncomputable def su(a1:Addr)(aM dh:Int)(a2 a3 a4:Addr):List (Str×V):=[("ring_cells",.ref a1),("lap",.int aM),("skew",.int dh),("swing",.ref a2),("number_cells",.ref a3),("cell_numbers",.ref a4)]
structure l9(K:PySem.W.Frag)(C:Addr)(H:Hp)(p:Addr)(P:Pl)(dx a1 a2 a3 a4:Addr)(ts:List Addr)(fs:List (Str×V)):Prop where
 cp:CP K C
 o:H p=some (.ins C dx fs)
 f1:fs.lookup ("ring_cells" : Str)=some (.ref a1)
 f2:fs.lookup ("lap" : Str)=some (.int P.aM)
 f3:fs.lookup ("skew" : Str)=some (.int P.dh)
 f4:fs.lookup ("swing" : Str)=some (.ref a2)
 f5:fs.lookup ("number_cells" : Str)=some (.ref a3)
 f6:fs.lookup ("cell_numbers" : Str)=some (.ref a4)
 m1:fs.lookup ("rings" : Str)=none
 m2:fs.lookup ("total" : Str)=none
 m3:fs.lookup ("cells_of" : Str)=none
 m4:fs.lookup ("beats_of" : Str)=none
 m5:fs.lookup ("lap_beats" : Str)=none
 m6:fs.lookup ("begins" : Str)=none
 m7:fs.lookup ("swing_of" : Str)=none
 m8:fs.lookup ("has_cell" : Str)=none
 m9:fs.lookup ("cell_at" : Str)=none
 gj:fs.lookup ("number_of" : Str)=none
 gG:fs.lookup ("laid" : Str)=none
 rc:H a1=some (.lst (P.rc.map V.int))
 sw:H a2=some (.lst (P.sw.map V.int))
 nc:Zn H a3 ts P.nc
 cn:H a4=some (.dT (p7 P.nc))
theorem l9.lit{K:PySem.W.Frag}{C:Addr}{H:Hp}{p:Addr}{P:Pl}{dx a1 a2 a3 a4:Addr}{ts:List Addr}(cp:CP K C)(o:H p=some (.ins C dx (su a1 P.aM P.dh a2 a3 a4)))(rc:H a1=some (.lst (P.rc.map V.int)))(sw:H a2=some (.lst (P.sw.map V.int)))
  (nc:Zn H a3 ts P.nc) (cn:H a4=some (.dT (p7 P.nc))):l9 K C H p P dx a1 a2 a3 a4 ts (su a1 P.aM P.dh a2 a3 a4):=by
 refine⟨cp,o,?_,?_,?_,?_,?_,?_,?_,?_,?_,?_,?_,?_,?_,?_,?_,?_,?_,rc,sw,nc,cn⟩ <;> simp[su,List.lookup_cons,gF]
noncomputable def bO(K:PySem.W.Frag)(C:Addr)(H:Hp)(p:Addr)(P:Pl)(fp:List Addr):Prop:=∃dx a1 a2 a3 a4 ts fs,fp=a1::a2::a3::a4::ts/\l9 K C H p P dx a1 a2 a3 a4 ts fs
theorem Zn.keep{H H':Hp}{a:Addr}{ts:List Addr}{z:List (Int×Int)}(h:Zn H a ts z)(ha:H' a=H a)(ht:∀t∈ts,H' t=H t):Zn H' a ts z :=
 ⟨ha.trans h.l,h.n,λi t p e1 e2=>(ht t (List.mem_of_getElem? e1)).trans (h.t i t p e1 e2)⟩
theorem Zn.has{H:Hp}{a:Addr}{ts:List Addr}{z:List (Int×Int)}(h:Zn H a ts z){t:Addr}(ht:t∈ts):∃o,H t=some o:=by
 obtain⟨i,hi,rfl⟩:=List.mem_iff_getElem.mp ht;have hz:i<z.length:=by rw[← h.n];exact hi
 exact⟨_,h.t i _ _ (List.getElem?_eq_getElem hi) (List.getElem?_eq_getElem hz)⟩
section
variable{K:PySem.W.Frag}{C:Addr}{H H':Hp}{p x:Addr}{P:Pl}{fp:List Addr}
theorem l9.move{dx a1 a2 a3 a4:Addr}{ts:List Addr}{fs:List (Str×V)}(h:l9 K C H p P dx a1 a2 a3 a4 ts fs)(ho:H' p=H p)(h1:H' a1=H a1)(h2:H' a2=H a2)(h3:H' a3=H a3)(h4:H' a4=H a4)(ht:∀t∈ts,H' t=H t):l9 K C H' p P dx a1 a2 a3 a4 ts fs :=
 { h with o:=ho.trans h.o,rc:=h1.trans h.rc,sw:=h2.trans h.sw,nc:=h.nc.keep h3 ht,cn:=h4.trans h.cn }
theorem bO.keep(h:bO K C H p P fp)(hp:H' p=H p)(e:∀b∈fp,H' b=H b):bO K C H' p P fp:=by
 obtain⟨dx,a1,a2,a3,a4,ts,fs,rfl,h⟩:=h;exact⟨dx,a1,a2,a3,a4,ts,fs,rfl,h.move hp (e a1 (by simp)) (e a2 (by simp)) (e a3 (by simp)) (e a4 (by simp)) λt ht=>e t (by simp[ht])⟩
theorem bO.has(h:bO K C H p P fp){b:Addr}(hb:b∈fp):∃o,H b=some o:=by
 obtain⟨dm,a1,a2,a3,a4,ts,fs,rfl,h⟩:=h;simp only[List.mem_cons] at hb;rcases hb with rfl | rfl | rfl | rfl | hb
 ·exact⟨_,h.rc⟩
 ·exact⟨_,h.sw⟩
 ·exact⟨_,h.nc.l⟩
 ·exact⟨_,h.cn⟩
 ·exact h.nc.has hb
theorem bO.here(h:bO K C H p P fp):∃o,H p=some o:=by
 obtain⟨dm,a1,a2,a3,a4,ts,fs,rfl,h⟩:=h;exact⟨_,h.o⟩
theorem bO.same(h:bO K C H p P fp)(s:ah H H'):bO K C H' p P fp:=by
 refine h.keep ?_ λb hb=>?_
 ·obtain⟨o,e⟩:=h.here;rw[e];exact s _ _ e
 ·obtain⟨o,e⟩:=h.has hb;rw[e];exact s _ _ e
noncomputable def SameBut(x:Addr)(H H':Hp):Prop:=∀b o,H b=some o->b≠x->H' b=some o
theorem SameBut.put{o:HO}(s:SameBut x H H'):SameBut x H (upd H' x o):=λb u e h=>by rw[az h];exact s b u e h
theorem SameBut.step{H1 H2:Hp}(s:SameBut x H H1)(t:ah H1 H2):SameBut x H H2:=λb u e h=>t _ _ (s b u e h)
theorem SameBut.of(s:ah H H'):SameBut x H H':=λb u e _=>s _ _ e
end
noncomputable def ZI(K:PySem.W.Frag):Sp:=λvs H Q _=>∃(C p dx za sa:Addr) (p9:List Addr) (z:List (Int×Int)) (aM dh:Int) (sw:List Int),vs = [.ref p,.ref za,.int aM,.int dh,.ref sa]/\CP K C/\H p=some (.ins C dx [])/\Zn H za p9 z/\p6 z/\
 1<=aM/\aM<=1000000000/\0<=dh/\dh<aM/\(∀p∈z,aM % p.2=0)/\aA K H sa (sw.map V.int)/\SwOk sw (z.map (·.1)).sum/\
 ∀H' dx a1 a2 a3 a4 ts,SameBut p H H'->(∀b∈a1::a2::a3::a4::ts,H b=none)->H' p=some (.ins C dx (su a1 aM dh a2 a3 a4))->l9 K C H' p ⟨counts z,aM,dh,sw,lz (counts z) 0⟩ dx a1 a2 a3 a4 ts (su a1 aM dh a2 a3 a4)->Q .aI H'
noncomputable def ZJ(K:PySem.W.Frag):Sp:=λvs H Q _=>∃(C p:Addr) (P:Pl) (fp:List Addr) (i j:Int),vs = [.ref p,.int i,.int j]/\bO K C H p P fp/\(i - j).natAbs<P.sw.length/\Q (.int (P.sw.getD (i - j).natAbs 0)) H
noncomputable def ZK(K:PySem.W.Frag):Sp:=λvs H Q _=>∃(C p:Addr) (P:Pl) (fp:List Addr),vs = [.ref p]/\bO K C H p P fp/\Q (.int P.rc.length) H
noncomputable def ZM(K:PySem.W.Frag):Sp:=λvs H Q _=>∃(C p:Addr) (P:Pl) (fp:List Addr),vs = [.ref p]/\bO K C H p P fp/\Q (.int P.aM) H
noncomputable def ZN(K:PySem.W.Frag):Sp:=λvs H Q _=>∃(C p:Addr) (P:Pl) (fp:List Addr) (r:Int),vs = [.ref p,.int r]/\bO K C H p P fp/\0<=r/\r<P.rc.length/\Q (.int (P.rc.getD r.toNat 0)) H
noncomputable def ZO(K:PySem.W.Frag):Sp:=λvs H Q _=>∃(C p:Addr) (P:Pl) (fp:List Addr) (r:Int),vs = [.ref p,.int r]/\bO K C H p P fp/\0<=r/\r<P.rc.length/\0<P.rc.getD r.toNat 0/\P.rc.getD r.toNat 0<=1000/\Q (.int (P.aM / P.rc.getD r.toNat 0)) H
noncomputable def ZQ(K:PySem.W.Frag)(cs:List Addr):Sp:=λvs H Q _=>∃(C p:Addr) (P:Pl) (fp:List Addr) (r c:Int),vs = [.ref p,.int r,.int c]/\C∈cs/\bO K C H p P fp/\0<=r/\r<P.rc.length/\P.rc.length<=1000/\0<P.rc.getD r.toNat 0/\P.rc.getD r.toNat 0<=1000/\
 0<=c/\c<=1000/\0<P.aM/\Q (.int ((c*(P.aM / P.rc.getD r.toNat 0)+r*P.dh) % P.aM)) H
noncomputable def ZR(K:PySem.W.Frag):Sp:=λvs H Q _=>∃(C p:Addr) (P:Pl) (fp:List Addr) (r c:Int),vs = [.ref p,.int r,.int c]/\bO K C H p P fp/\Q (.bl (decide (0<=r/\r<P.rc.length/\0<=c/\c<P.rc.getD r.toNat 0))) H
noncomputable def ZS(K:PySem.W.Frag):Sp:=λvs H Q _=>∃(C p:Addr) (P:Pl) (fp:List Addr) (k:Int),vs = [.ref p,.int k]/\bO K C H p P fp/\0<=k/\k<P.nc.length/\∀t q,P.nc[k.toNat]? = some q->H t=some (.tup [.int q.1,.int q.2])->Q (.ref t) H
noncomputable def ZT(K:PySem.W.Frag)(cs:List Addr):Sp:=λvs H Q _=>∃(C p:Addr) (P:Pl) (fp:List Addr) (r c:Int),vs = [.ref p,.int r,.int c]/\C∈cs/\bO K C H p P fp/\0<=r/\r<P.rc.length/\0<=c/\c<P.rc.getD r.toNat 0/\
 ∀H',ah H H'->Q ((bT (p7 P.nc) (kT (r,c))).getD .aI) H'
noncomputable def cZ(z:List (Int×Int)):Int:=z.foldl (λp x=>p*x.2) 1
theorem range_getD{f:Nat->Int}{n i:Nat}(h:i<n):((List.range n).map f).getD i 0=f i:=by
 simp[List.getD_eq_getElem?_getD,h]
theorem ZU{L:Int}(h:1<=L)(h8:L<=100000000){ns:List Int}(hb:∀x∈ns,L<=x/\x<=2*L)(hp:ns.Pairwise (·<=·))(h1:1<=ns.length):SwOk (0::ns) ((ns.length+1:Nat):Int):=by
 have at_:∀i:Nat,1<=i->i<(0::ns).length->∃hi:i - 1<ns.length,(0::ns).getD i 0=ns[i - 1]:=λi h1 hi=>by
  obtain⟨j,rfl⟩:∃j,i=j+1:=⟨i - 1,by lia⟩
  have hj:j<ns.length:=by simpa using hi
  exact⟨hj,by simp[List.getD_eq_getElem?_getD,List.getElem?_eq_getElem hj]⟩
 refine⟨by simp,by lia,rfl,λi h1 hi=>?_,λi h1 hi=>?_,λa b ha jE wH=>?_⟩
 ·obtain⟨hj,e⟩:=at_ i h1 hi;have:=hb _ (List.getElem_mem hj);rw[e];lia
 ·obtain⟨hj,e⟩:=at_ i h1 hi;rw[e];by_cases h2:i=1
  ·subst h2;have:=hb _ (List.getElem_mem hj)
   show (0:Int)<=_;lia
  ·obtain⟨ZV,e2⟩:=at_ (i - 1) (by lia) (by lia)
   rw[e2];exact List.pairwise_iff_getElem.mp hp _ _ ZV hj (by lia)
 ·obtain⟨h1,e1⟩:=at_ (a+b) (by lia) wH
  obtain⟨h2,e2⟩:=at_ a ha (by lia)
  obtain⟨h3,e3⟩:=at_ b jE (by lia)
  have:=hb _ (List.getElem_mem h1);have:=hb _ (List.getElem_mem h2);have:=hb _ (List.getElem_mem h3);rw[e1,e2,e3];lia
structure ZL(z:List (Int×Int)):Prop where
 ok:p6 z
 pr:cZ z<=32768
 sm:(z.map (·.1)).sum<=15
theorem prodF(z:List (Int×Int)):∀p:Int,z.foldl (λp x=>p*x.2) p=p*cZ z:=by
 induction z with
 | nil=>intro p;simp[cZ]
 | cons x z ih =>
  intro p;rw[cZ,List.foldl_cons,List.foldl_cons,ih,ih (1*x.2),Int.one_mul,Int.mul_assoc]
theorem DV(x:Int×Int)(z:List (Int×Int)):cZ (x::z)=x.2*cZ z:=by
 rw[cZ,List.foldl_cons,prodF,Int.one_mul]
theorem ZW(x:Int×Int)(z:List (Int×Int)):cZ (z++[x])=cZ z*x.2:=by
 rw[cZ,List.foldl_append];rfl
theorem wI{m:Int}(hm:1<=m):∀z:List (Int×Int),(∀p∈z,1<=p.2/\p.2<=m)->1<=cZ z/\cZ z<=m ^ z.length
 | [],_=>by simp[cZ]
 | x::z,h=>by
  have ih:=wI hm z λp hp=>h p (List.mem_cons_of_mem _ hp);have hx:=h x List.mem_cons_self;rw[DV,List.length_cons,Int.pow_succ,Int.mul_comm (m ^ z.length)];constructor
  ·have:=Int.mul_le_mul hx.1 ih.1 (by decide) (by lia)
   lia
  ·exact Int.mul_le_mul hx.2 ih.2 (by lia) (by lia)
theorem MC{x:Int×Int}:∀ {z:List (Int×Int)},x∈z->x.2 ∣ cZ z
 | y::z,h=>by
  rw[DV];rcases List.mem_cons.mp h with rfl | h
  ·exact Int.dvd_mul_right _ _
  ·exact Int.dvd_trans (MC h) (Int.dvd_mul_left _ _)
theorem MD{m:Int}(hm:1<=m){a b:Nat}(h:a<=b):m ^ a<=m ^ b:=by
 induction h with
 | refl=>exact Int.le_refl _
 | @step b h ih =>
  rw[Int.pow_succ];have h1:1<=m ^ b:=by
   clear ih h
   induction b with
   | zero=>simp
   | succ b ih =>
    rw[Int.pow_succ];have:=Int.mul_le_mul ih hm (by decide) (by lia)
    lia
  have:=Int.mul_le_mul (Int.le_refl (m ^ b)) hm (by decide) (by lia)
  lia
theorem ite_no{c A B:Prop}[Decidable c](h:¬ c)(b:B):if c then A else B:=by rw[if_neg h];exact b
theorem ite_yes{c A B:Prop}[Decidable c](h:c)(a:A):if c then A else B:=by rw[if_pos h];exact a
section
variable{X:Cx}{CX:f_}{k:Nat}{f C:Addr}{fd:FuncData}{ps:List Str}{sp:Sp}{cC:List V}{ds:List Value}{E:XK}{x m:Str}{p pos apos:Pos}{e:Expr}{es:List Expr}{t:TA}
end
section
variable{X:Cx}
end
section
variable{X:Cx}{pins:List (Addr×Obj)}{σ:St}{H:Hp}{s:Shared}
end
section
variable{X:Cx}
end
section
variable{K:PySem.W.Frag}{ta:TA}{g:TG}{D:Ends}{σ:St}{H:Hp}{tt:TT}{te:TE}{nt:Nat}{fv:List Nat}{Q:VK}
end
theorem ZX{X:Cx}{K:PySem.W.Frag}{pos:Pos}{es:List Expr}{k n:Nat}{t:lQ}(hK:X.K=K)(hc:X.calm=true)(h:pK X es t)(hn:(assignEach es X.env).length=n:=by rfl)(fF:(assignEach es X.env).findIdx? (·.1)=none:=by rfl):PG X (.Tuple es k pos) (CQ K n t):=hK▸iL hc h hn fF
noncomputable def ME(cs:List Addr)(m:Str)(sp:Sp)(cC:List V)(E:XK)(ta:TE)(t:TA):TE:=λσ H Q=>ta σ H λx H1=>∃C a dx fs,x = .ref a/\H1 a=some (.ins C dx fs)/\C∈cs/\fs.lookup m=none/\t σ H1 λvs H2=>sp (x::(vs++cC)) H2 Q E
section
variable{X:Cx}{CX:f_}{k:Nat}{f:Addr}{cs:List Addr}{fd:FuncData}{ps:List Str}{sp:Sp}{cC:List V}{ds:List Value}{E:XK}{m:Str}{pos apos:Pos}{o e:Expr}{es:List Expr}{ta:TE}{t:TA}
theorem l_{pl:Sem Bool}(ho:PE X o ta)(hc:∀C∈cs,bR X.K C/\Meth X.K C m f)(F:aO X.prog X.w X.K X.mg X.base CX k f fd ps sp)(hr:bN k X.A)(hb:Binds X.K fd ps ds)(hd:Vals cC ds)(hx:Passes CX X E)(ha:PA X (e::es) t)
  (fF:starEach (e::es) X.env=(false,eval e X.env)::starEach es X.env:=by rfl) (dZ:(backTo pos (starEach es X.env)).any (·.1)=false:=by rfl)
  (n8:eval (.Call (.Attribute o m apos) (e::es) [] pos) X.env=(do
   let ov ← eval o X.env
   standAt apos.atName
   let (f,first) ← holding [ov] (getMethod ov m pl)
   callWith pos f first (backTo pos (starEach (e::es) X.env)) (backToKw pos (keywordEach [] X.env))):=by rfl):PE X (.Call (.Attribute o m apos) (e::es) [] pos) (ME cs m sp cC E ta t):=by
 intro pins s σ H Q I h;refine PySem.W.methodCall_KW (pl:=pl) (aK (ho pins s σ H _ I h) λu s1 hz=>?_) n8;obtain⟨x,H1,I1,rx,C,a,dx,fs,ex,ea,hC,hl,q⟩:=hz;subst ex;cases (show u=Value.ref a from rx);obtain⟨c1,c2⟩:=hc C hC;refine lY I1 ea c1 c2 hl (PySem.W.callWith_K (first:=[.ref a]) (h₀:=X.base) I.ok.mod.i7 c2.kp (aK (ha pos pins s1 σ H1 _ I1 q) λus s2 hw=>?_) fF dZ)
 obtain⟨vs,H2,I2,r,q2⟩:=hw;exact⟨I2.bX,k_ (us:=.ref a::us) (vs:=.ref a::vs) F hr hb hd hx I2 (.cons rfl r) q2⟩
theorem MF{pl:Sem Bool}(ho:PE X o ta)(hc:∀C∈cs,bR X.K C/\Meth X.K C m f)(F:aO X.prog X.w X.K X.mg X.base CX k f fd ps sp)(hr:bN k X.A)(hb:Binds X.K fd ps ds)(hd:Vals cC ds)(hx:Passes CX X E)
  (n8:eval (.Call (.Attribute o m apos) [] [] pos) X.env=(do
   let ov ← eval o X.env
   standAt apos.atName
   let (f,first) ← holding [ov] (getMethod ov m pl)
   callWith pos f first (backTo pos (starEach [] X.env)) (backToKw pos (keywordEach [] X.env))):=by rfl):PE X (.Call (.Attribute o m apos) [] [] pos) (ME cs m sp cC E ta vQ):=by
 intro pins s σ H Q I h;refine PySem.W.methodCall_KW (pl:=pl) (aK (ho pins s σ H _ I h) λu s1 hz=>?_) n8;obtain⟨x,H1,I1,rx,C,a,dx,fs,ex,ea,hC,hl,q⟩:=hz;subst ex;cases (show u=Value.ref a from rx);obtain⟨c1,c2⟩:=hc C hC;refine lY I1 ea c1 c2 hl (PySem.W.callWith_K0 (first:=[.ref a]) I1.bX c2.kp ?_)
 exact k_ (us:=[.ref a]) (vs:=[.ref a]) F hr hb hd hx I1 (.cons rfl .nil) q
end
theorem ZY{p q:Int×Int}(h:kT p=kT q):p=q:=by
 unfold kT at h;simp only[List.cons.injEq,Sum.inl.injEq,and_true] at h;exact Prod.ext h.1 h.2
theorem MG:∀(z:List (Int×Int)) (i:Nat) (acc:List (List Key×V)) (q:Int×Int),z.Nodup->(∀j:Nat,z[j]? = some q->bT (gh i z acc) (kT q)=some (.int ((i+j:Nat):Int)))/\(q∉z->bT (gh i z acc) (kT q)=bT acc (kT q))
 | [],i,acc,q,_=>⟨λj h=>by simp at h,λ_=>rfl⟩
 | x::z,i,acc,q,nd=>by
  obtain⟨hx,nd⟩:=List.nodup_cons.mp nd;have ih:=MG z (i+1) (putK acc (kT x) (.int i)) q nd;constructor
  ·intro j h;rw[gh];cases j with
   | zero =>
    simp at h;subst h;rw[ih.2 hx,vZ,if_pos rfl];rfl
   | succ j =>
    rw[ih.1 j (by simpa using h)]
    congr 2;lia
  ·intro h;rw[gh,ih.2 λz=>h (List.mem_cons_of_mem _ z),vZ,if_neg];intro e;exact h (ZY e▸List.mem_cons_self)
theorem ZZ{z:List (Int×Int)}(nd:z.Nodup){j:Nat}{q:Int×Int}(h:z[j]? = some q):bT (p7 z) (kT q)=some (.int (j:Int)):=by
 have:=(MG z 0 [] q nd).1 j h;rwa [Nat.zero_add] at this
theorem MH{s:Int}:∀ {rc:List Int} {r:Nat} {q:Int×Int},q∈dW s r rc↔∃j:Nat,j<rc.length/\q.1=((r+j:Nat):Int)/\0<=q.2/\q.2<rc.getD j 0 - s
 | [],r,q=>by simp[dW]
 | c::rc,r,q=>by
  rw[dW,List.mem_append,MH (rc:=rc) (r:=r+1)];constructor
  ·rintro(h | ⟨j,h1,h2,h3,h4⟩)
   ·obtain⟨k,hk,rfl⟩:=List.mem_map.mp h;rw[List.mem_range] at hk;exact⟨0,by simp,by simp,by dsimp only;lia,by simp only[List.getD_cons_zero];lia⟩
   ·exact⟨j+1,by simpa using h1,by rw[h2];congr 1;lia,h3,by simpa using h4⟩
  ·rintro⟨j,h1,h2,h3,h4⟩;cases j with
   | zero =>
    left;refine List.mem_map.mpr ⟨q.2.toNat,List.mem_range.mpr ?_,?_⟩
    ·simp only[List.getD_cons_zero] at h4;lia
    ·refine Prod.ext ?_ ?_
     ·rw[h2];simp
     ·dsimp only;lia
   | succ j =>
    right;exact⟨j,by simpa using h1,by rw[h2];congr 1;lia,h3,by simpa using h4⟩
theorem MI{s:Int}:∀(rc:List Int) (r:Nat),(dW s r rc).Nodup
 | [],r=>List.nodup_nil
 | c::rc,r=>by
  rw[dW,List.nodup_append];refine⟨?_,MI rc (r+1),?_⟩
  ·rw[List.nodup_iff_pairwise_ne,List.pairwise_map];refine List.Pairwise.imp ?_ (List.nodup_iff_pairwise_ne.mp List.nodup_range);intro a b h e;simp at e;lia
  ·intro x hx y hy e;subst e;obtain⟨k,_,rfl⟩:=List.mem_map.mp hx;obtain⟨j,_,h2,_⟩:=MH.mp hy;simp at h2;lia
section
variable{K:PySem.W.Frag}{C:Addr}{H H':Hp}{p:Addr}{P:Pl}{fp:List Addr}{mv:Addr}{ms:List V}
end
structure Zt(H:Hp)(a:Addr)(ts:List Addr)(z:List (List Int)):Prop where
 l:H a=some (.lst (ts.map V.ref))
 n:ts.length=z.length
 t:∀(i:Nat) (t:Addr) (r:List Int),ts[i]? = some t->z[i]? = some r->H t=some (.tup (r.map V.int))
section
variable{H H':Hp}{a:Addr}{ts:List Addr}{z:List (List Int)}
theorem Zt.same(h:Zt H a ts z)(e:ah H H'):Zt H' a ts z:=⟨e _ _ h.l,h.n,λi t p h1 h2=>e _ _ (h.t i t p h1 h2)⟩
theorem Zt.start{l:Addr}:Zt (upd H l (.lst [])) l [] []:=⟨aB,rfl,λi t r e=>by simp at e⟩
theorem Zt.snoc{l p:Addr}(h:Zt H l ts z)(hp:H p=none)(r:List Int):Zt (upd (upd H p (.tup (r.map V.int))) l (.lst (ts.map V.ref++[V.ref p]))) l (ts++[p]) (z++[r]):=by
 have DU:l≠p:=bW h.l hp;refine⟨by rw[aB,List.map_append];rfl,by simp[h.n],λi t q e1 e2=>?_⟩
 have hn:=h.n;by_cases hi:i<ts.length
 ·rw[List.getElem?_append_left hi] at e1;rw[List.getElem?_append_left (by lia)] at e2
  have ht:=h.t i t q e1 e2;rw[az (pF ht h.l (by intro z;cases z)),az (bW ht hp)]
  exact ht
 ·rw[List.getElem?_append_right (by lia)] at e1
  rw[List.getElem?_append_right (by lia)] at e2
  have gi:i - ts.length=0:=by
   have:=Mx e1;simp at this;lia
  rw[gi] at e1;rw[← hn,gi] at e2;simp at e1 e2;subst e1 e2;rw[az DU.symm,aB]
theorem Zn.start{l:Addr}:Zn (upd H l (.lst [])) l [] []:=⟨aB,rfl,λi t r e=>by simp at e⟩
end
section
variable{ta:TA}{g:TG}{tt:TT}{te:TE}{nt:Nat}{fv:List Nat}{Q:VK}{σ:St}{H:Hp}
theorem DW(n:Int)(Pv:Addr->Nat->List V->St->Hp->Prop)(eS:∀Q:List V->Hp->Prop,Q [.int n] H->ta σ H Q)(b1 : -1000000000000<n)(b2:n<1000000000000)
  (h0:∀D,H D=none->Pv D 0 [] (iQ σ nt fv) (upd H D (.lst []))) (hD:∀D i ys σ H,Pv D i ys σ H->H D=some (.lst ys)/\ys.length<sizeLine)
  (hs:∀D i ys aj H2 (N:List V->St->Hp->Prop),(∀ys σ H,Pv D (i+1) ys σ H->N ys σ H)->i<n.toNat->Pv D i ys aj H2->g (.int (i:Int)) aj H2 λbK H4=>tt bK H4 λb H5=>if b=true then te bK H5 λv H6=>H6 D=some (.lst ys)/\N (ys++[v]) bK (upd H6 D (.lst (ys++[v]))) else N ys bK H5)
  (hd:∀D ys aj H2,Pv D n.toNat ys aj H2->Q (.ref D) H2):iA (vH ta) g tt te nt fv σ H Q:=by
 refine eS _ ⟨n,rfl,by lia,by lia,λD fL=>?_⟩
 refine⟨λi m ys aj H2=>m=n.toNat - i/\i<=n.toNat/\Pv D i ys aj H2,⟨_,rfl,Nat.zero_le _,h0 D fL⟩,?_⟩;rintro i m ys aj H2 ⟨rfl,kF,p⟩;obtain⟨d1,d2⟩:=hD D i ys aj H2 p;refine⟨d1,d2,?_⟩;by_cases bQ:i<n.toNat
 ·refine .inr ⟨bQ,λx H3 y=>?_⟩;obtain⟨e1,e2⟩:=y;subst e1 e2;have e2:(0:Int)+(i:Int)=i:=by lia
  rw[e2];exact hs D i ys aj _ _ (λ_ _ _ z=>NX.of bQ z) bQ p
 ·have e:i=n.toNat:=by lia
  subst e;exact .inl ⟨Nat.le_refl _,hd D ys aj H2 p⟩
end
structure kH(P:Pl):Prop where
 n2:2<=P.rc.length
 n1:P.rc.length<=1000
 c:∀i:Nat,i<P.rc.length->1<=P.rc.getD i 0/\P.rc.getD i 0<=1000
 aM:1<=P.aM
 sw:SwOk P.sw P.rc.length
noncomputable def MJ(P:Pl)(r c:Int):Int:=(c*(P.aM / P.rc.getD r.toNat 0)+r*P.dh) % P.aM
noncomputable def DX(P:Pl)(r c b:Int):Int:=b+(MJ P r c - b) % P.aM
noncomputable def sy(P:Pl)(s q:Int×Int):Int:=DX P q.1 q.2 (s.2+P.sw.getD (s.1 - q.1).natAbs 0)
noncomputable def mh(P:Pl)(s q:Int×Int):Int×Int:=(q.1,sy P s q+P.aM / P.rc.getD q.1.toNat 0)
noncomputable def wJ(P:Pl)(s q:Int×Int):List Int:=[q.1,q.2,sy P s q,(mh P s q).2]
noncomputable def dw(P:Pl):Int×Int->List (Int×Int)->Int×Int
 | s,[]=>s
 | s,q::r=>dw P (mh P s q) r
noncomputable def fq(P:Pl):Int×Int->List (Int×Int)->List (List Int)
 | _,[]=>[]
 | s,q::r=>wJ P s q::fq P (mh P s q) r
theorem DY(P:Pl)(q:Int×Int):∀(xs:List (Int×Int)) (s:Int×Int),dw P s (xs++[q])=mh P (dw P s xs) q
 | [],s=>rfl
 | x::xs,s=>DY P q xs (mh P s x)
theorem DZ(P:Pl)(q:Int×Int):∀(xs:List (Int×Int)) (s:Int×Int),fq P s (xs++[q])=fq P s xs++[wJ P (dw P s xs) q]
 | [],s=>rfl
 | x::xs,s=>by rw[List.cons_append,fq,DZ P q xs,fq];rfl
theorem wK(P:Pl):∀(xs:List (Int×Int)) (s:Int×Int),(fq P s xs).length=xs.length
 | [],s=>rfl
 | x::xs,s=>by rw[fq,List.length_cons,wK P xs,List.length_cons]
theorem D0(P:Pl):∀(xs:List (Int×Int)) (s:Int×Int) (r:List Int),r∈fq P s xs->r.length=4
 | [],s,r,h=>by cases h
 | x::xs,s,r,h=>by
  rcases List.mem_cons.mp h with rfl | hr
  ·rfl
  ·exact D0 P xs _ r hr
theorem D3(P:Pl){n:Int}:∀(xs:List (Int×Int)) (s:Int×Int),0<=s.1->s.1<n->(∀q∈xs,0<=q.1/\q.1<n)->0<=(dw P s xs).1/\(dw P s xs).1<n
 | [],s,h0,h1,_=>⟨h0,h1⟩
 | x::xs,s,h0,h1,h=>D3 P xs (mh P s x) (h x List.mem_cons_self).1 (h x List.mem_cons_self).2 λq hq=>h q (List.mem_cons_of_mem _ hq)
noncomputable def p_(P:Pl)(z:List (Int×Int)):Prop:=∀q∈z,0<=q.1/\q.1<P.rc.length/\0<=q.2/\q.2<=1000
noncomputable def Z0(K:PySem.W.Frag)(cs:List Addr):Sp:=λvs H Q _=>∃(C p:Addr) (P:Pl) (fp:List Addr) (r c b:Int),vs = [.ref p,.int r,.int c,.int b]/\C∈cs/\bO K C H p P fp/\kH P/\0<=r/\r<P.rc.length/\0<=c/\c<=1000/\Q (.int (DX P r c b)) H
noncomputable def Z1(K:PySem.W.Frag)(cs:List Addr):Sp:=λvs H Q _=>∃(C p:Addr) (P:Pl) (fp:List Addr) (r b:Int) (ca:Addr) (wL:List Addr) (cz:List (Int×Int)),vs = [.ref p,.int r,.int b,.ref ca]/\C∈cs/\bO K C H p P fp/\kH P/\0<=r/\r<P.rc.length/\
 Zn H ca wL cz/\p_ P cz/\cz.length<=1000/\∀l ts H',ah H H'->H l=none->(∀t∈ts,H t=none)->Zt H' l ts (fq P (r,b) cz)->Q (.ref l) H'
theorem Z2{z:List (Int×Int)}(zl:ZL z){aM sk:Int}{sw:List Int}{nc:List (Int×Int)}(l1:1<=aM)(so:SwOk sw (z.map (·.1)).sum):kH ⟨counts z,aM,sk,sw,nc⟩:=by
 have cl:=p8 z λp hp=>(zl.ok.r p hp).1;have MK:=zl.sm;have c2:=zl.ok.s2;refine⟨by dsimp only;lia,by dsimp only;lia,λi hi=>?_,l1,by dsimp only;rw[cl];exact so⟩
 obtain⟨y,hy,e⟩:=sr (get_mem (My (counts z) hi));have:=zl.ok.r y hy;dsimp only;lia
section
variable{α:Type}{lt:α->α->Prop}
noncomputable def par(i:Nat):Nat:=(i - 1) / 2
noncomputable def put(f:Nat->α)(k:Nat)(x:α):Nat->α:=λi=>if i=k then x else f i
end
theorem wM:∀a:List Int,¬ _H.lexLt a a=true
 | []=>by simp[_H.lexLt]
 | x::a=>by simpa[_H.lexLt] using wM a
theorem D4:∀a b c:List Int,_H.lexLt a b=true->_H.lexLt b c=true->_H.lexLt a c=true
 | [],b,[],h1,h2=>by cases b <;> simp[_H.lexLt] at h1 h2
 | [],b,z::c,h1,h2=>by simp[_H.lexLt]
 | x::a,[],c,h1,h2=>by simp[_H.lexLt] at h1
 | x::a,y::b,[],h1,h2=>by simp[_H.lexLt] at h2
 | x::a,y::b,z::c,h1,h2=>by
  simp only[_H.lexLt] at h1 h2 ⊢;by_cases e1:x=y
  ·rw[if_pos e1] at h1;by_cases e2:y=z
   ·rw[if_pos e2] at h2;rw[if_pos (by lia)];exact D4 a b c h1 h2
   ·rw[if_neg e2] at h2;simp at h2;rw[if_neg (by lia)];simp;lia
  ·rw[if_neg e1] at h1;simp at h1;by_cases e2:y=z
   ·rw[if_neg (by lia)];simp;lia
   ·rw[if_neg e2] at h2;simp at h2;rw[if_neg (by lia)];simp;lia
theorem ML:∀a b:List Int,_H.lexLt a b=true\/a=b\/_H.lexLt b a=true
 | [],[]=>.inr (.inl rfl)
 | [],_::_=>.inl rfl
 | _::_,[]=>.inr (.inr rfl)
 | x::a,y::b=>by
  simp only[_H.lexLt,List.cons.injEq];by_cases e:x=y
  ·subst e;simpa using ML a b
  ·rw[if_neg e,if_neg (λz=>e z.symm)];simp;lia
noncomputable abbrev Th:=Int×List Int×Int
noncomputable def sH(a b:Th):Prop:=a.1<b.1\/(a.1=b.1/\(_H.lexLt a.2.1 b.2.1=true\/(a.2.1=b.2.1/\a.2.2<b.2.2)))
section
open PySem.SeqAt PySem.MeetsSeq PySem.MeetsSeq2 PySem.MeetsSeq3
open PySem.AutoSeq1 (wpAny_loadPart')
end
section
variable{prog:Program}{w:World}{A:Around}{E:Value->Shared->Prop}{s:Shared}
end
noncomputable def MM(H:Hp)(a:Addr)(t:Th):Prop:=∃p,H a=some (.tup [.int t.1,.ref p,.int t.2.2])/\H p=some (.tup (t.2.1.map V.int))
noncomputable instance (a b:Th):Decidable (sH a b):=by unfold sH;infer_instance
section
variable{X:Cx}{pins:List (Addr×Obj)}{σ:St}{H:Hp}{s:Shared}
end
section
variable{X:Cx}
noncomputable abbrev Zs:=List (Addr×Th)
noncomputable def zV(zs:Zs):List V:=zs.map λz=>V.ref z.1
noncomputable def Z3(H:Hp)(zs:Zs):Prop:=∀z,z∈zs->MM H z.1 z.2
noncomputable def ajG:V->List V->Hp->VK->Prop:=λx vs H Q=>∃l a zs t,x = .ref l/\vs = [.ref a]/\H l=some (.lst (zV zs))/\Z3 H zs/\MM H a t/\t∈zs.map (·.2)/\
 ∀(k:Nat) (h:k<zs.length),zs[k].2=t->Q .aI (upd H l (.lst (zV (zs.eraseIdx k))))
end
noncomputable def MN(a b:Addr×Th):Prop:=sH a.2 b.2
noncomputable instance (a b:Addr×Th):Decidable (MN a b):=by unfold MN;infer_instance
section
variable{H H':Hp}{l a:Addr}{zs ys:Zs}{t:Th}{k:Nat}
end
structure qc(K:PySem.W.Frag)(x qual:Str)(st:Stmt)(f:Addr)(fd:FuncData):Prop where
 ex:∃(oc:Value) (od:Option Addr) (dV kV doc pm:Value) (an:Option Addr) (aH ct:Value) (gc:Array (Option Value)),
  fd=PySem.W.fnOf x qual (eo st) (dg st) (aJ st) dV kV doc pm an aH ct/\K.lookup f=some ⟨oc,od,.func fd,gc⟩/\PySem.W.codeIn K aH qual=true
 kp:PySem.W.keepIn K (.ref f)=true
section
variable{P:Program}{w:World}{K:PySem.W.Frag}{mg:Str->Option Value}{base:Heap}
theorem qc.ok{x qual:Str}{st:Stmt}{f:Addr}{fd:FuncData}{N ps:List Str}{k:Nat}{sp:Sp}(F:qc K x qual st f fd)(S:aW N ps (aJ st))(len:∀vs H Q E,sp vs H Q E->vs.length=ps.length)
  (jD:∀(aH:Value) (A:Around) (outer:List Env) (s:Shared) (H:Hp) (vs:List V) (Q:VK) (E:XK),bN k (A.deeper (envOfC qual (aJ st) s.heap.objs.size f aH))->sp vs H Q E->
   ∃t,eZ (gz aU P w K mg base N qual (aJ st) f aH A outer s H E).k6 (dg st) t/\t { nx:=λ_ H'=>Q .aI H',rt:=Q } (start N vs) H):aO P w K mg base aU (k+1) f fd ps sp:=by
 obtain⟨oc,od,dV,kV,doc,pm,an,aH,ct,gc,rfl,lk,cV⟩:=F.ex;refine vU lk cV S len λA outer s H vs Q E hr eO=>?_;obtain⟨t,h,q⟩:=jD aH A outer s H vs Q E hr eO;exact⟨t,h.k6,q⟩
theorem D5{x qual:Str}{st:Stmt}{f:Addr}{oc:Value}{od an:Option Addr}{gc:Array (Option Value)}{dV kV doc pm aH ct:Value}(l:K.lookup f=some ⟨oc,od,.func (PySem.W.fnOf x qual (eo st) (dg st) (aJ st) dV kV doc pm an aH ct),gc⟩)
  (c:PySem.W.codeIn K aH qual=true) (k:PySem.W.keepIn K (.ref f)=true):qc K x qual st f (PySem.W.fnOf x qual (eo st) (dg st) (aJ st) dV kV doc pm an aH ct):=⟨⟨oc,od,dV,kV,doc,pm,an,aH,ct,gc,rfl,l,c⟩,k⟩
end
section
variable{X:Cx}
theorem MO{xs:List Bool}{aq:List Value}(r:Vals (xs.map V.bl) aq):aq=xs.map Value.bool:=by
 induction xs generalizing aq with
 | nil=>cases r;rfl
 | cons b xs ih =>
  cases r with
  | cons r1 r2=>cases (show _=Value.bool b from r1);rw[ih r2];rfl
theorem MP(hc:X.calm=true):fG X (.builtin "any") (λxs H Q=>∃(p:Addr) (bs:List Bool),xs = [.ref p]/\aA X.K H p (bs.map V.bl)/\Q (.bl (bs.any id)) H):=by
 intro pins s σ H xs us Q I r h;obtain⟨p,bs,rfl,hq,q⟩:=h;obtain⟨u,rfl,ru⟩:=vals1 r;cases ru;obtain⟨aq,rv,pl,hz⟩:=I.list hq;have eb:=MO rv;subst eb;have D6:p<s.heap.objs.size:=by obtain⟨_,q1,_⟩:=pl.isList;exact Heap.lt_size q1
 refine call_any_walk (wpAny_pyIter_list pl.isList ?_);refine⟨s.heap.objs.size,[s.heap.objs.size,p],[s.heap.objs.size],(bs.map Value.bool).toArray.size,_,_,λi=>(bs[i]?).getD false,rfl,Walks.list (A:=X.A.in1) (I.ok.hd hc) _ p (Nat.ne_of_lt D6) (bs.map Value.bool).toArray,
  ⟨⟨_,Heap.get?_push_size _ rfl,rfl,rfl⟩,pl.isList.push _⟩,λi v s2 Q2 E2 D7 hw=>?_,λh' tk hk=>?_⟩
 ·have D8:(bs.map Value.bool)[i]? = some v:=by simpa using D7
  obtain⟨b,eb,rfl⟩:=eT D8;simp only[eb,Option.getD_some] at hw;exact wpAny_truthy_bool hw
 ·have e:((List.range (bs.map Value.bool).toArray.size).any λi=>(bs[i]?).getD false)=bs.any id:=by
   rw[List.size_toArray,List.length_map];exact LSm.range_any bs
  rw[e];exact⟨.bl (bs.any id),H,I.kept (LSm.kept_iter hk),rfl,q⟩
theorem Z4(hc:X.calm=true):fG X (.builtin "all") (λxs H Q=>∃(p:Addr) (bs:List Bool),xs = [.ref p]/\aA X.K H p (bs.map V.bl)/\Q (.bl (bs.all id)) H):=by
 intro pins s σ H xs us Q I r h;obtain⟨p,bs,rfl,hq,q⟩:=h;obtain⟨u,rfl,ru⟩:=vals1 r;cases ru;obtain⟨aq,rv,pl,hz⟩:=I.list hq;have eb:=MO rv;subst eb;have D6:p<s.heap.objs.size:=by obtain⟨_,q1,_⟩:=pl.isList;exact Heap.lt_size q1
 refine call_all_walk (wpAny_pyIter_list pl.isList ?_);refine⟨s.heap.objs.size,[s.heap.objs.size,p],[s.heap.objs.size],(bs.map Value.bool).toArray.size,_,_,λi=>(bs[i]?).getD true,rfl,Walks.list (A:=X.A.in1) (I.ok.hd hc) _ p (Nat.ne_of_lt D6) (bs.map Value.bool).toArray,
  ⟨⟨_,Heap.get?_push_size _ rfl,rfl,rfl⟩,pl.isList.push _⟩,λi v s2 Q2 E2 D7 hw=>?_,λh' tk hk=>?_⟩
 ·have D8:(bs.map Value.bool)[i]? = some v:=by simpa using D7
  obtain⟨b,eb,rfl⟩:=eT D8;simp only[eb,Option.getD_some] at hw;exact wpAny_truthy_bool hw
 ·have e:((List.range (bs.map Value.bool).toArray.size).all λi=>(bs[i]?).getD true)=bs.all id:=by
   rw[List.size_toArray,List.length_map];exact LSm.range_all bs
  rw[e];exact⟨.bl (bs.all id),H,I.kept (LSm.kept_iter hk),rfl,q⟩
noncomputable def Z5(ta:TA):TE:=λσ H Q=>ta σ H λvs H1=>∃i j:Int,vs = [.int i,.int j]/\(-1000000000000<i/\i<1000000000000/\-1000000000000<j/\j<1000000000000)/\(j - i).toNat<=1000000/\
 ∀l,H1 l=none->Q (.ref l) (upd H1 l (.lst ((List.range (j - i).toNat).map λ(k:Nat)=>V.int (i+(k:Int)))))
theorem Z6{F:Nat->V}{acc:Array Value}{n:Nat}(h:ItemsOf (λi v=>RelV (F i) v) acc n):Vals ((List.range n).map F) acc.toList:=by
 obtain⟨h1,h2⟩:=h;have:∀(m:Nat) (l:List Value) (k:Nat),l.length=m->(∀j v,l[j]? = some v->RelV (F (k+j)) v)->Vals ((List.range' k m).map F) l:=by
  intro m
  induction m with
  | zero=>intro l k hl _;rw[List.eq_nil_of_length_eq_zero hl];exact .nil
  | succ m ih =>
   intro l k hl hh;cases l with
   | nil=>cases hl
   | cons v l =>
    rw[List.range'_succ,List.map_cons];refine .cons (hh 0 v rfl) (ih l (k+1) (by simpa using hl) λj w hj=>?_)
    have:=hh (j+1) w (by simpa using hj)
    rwa [show k+(j+1)=k+1+j by lia] at this
 have e:=this n acc.toList 0 (by simpa using h1) λj v hj=>by rw[Nat.zero_add];exact h2 j v (by simpa using hj)
 rwa [← List.range_eq_range'] at e
theorem Z7{a b:Expr}{ta:TA}{p p0 pos Z8:Pos}(Z9:Gl X "list")(Z_:X.mg "list" = none)(hg:Gl X "range")(hm:X.mg "range" = none)(hc:X.calm=true)(ha:PA X [a,b] ta)
  (hs:starEach [a,b] X.env = [(false,eval a X.env),(false,eval b X.env)]:=by rfl) (iM:starEach [b] X.env = [(false,eval b X.env)]:=by rfl)
  (wN:starEach [.Call (.Name "range" p) [a,b] [] pos] X.env = [(false,eval (.Call (.Name "range" p) [a,b] [] pos) X.env)]:=by rfl) :
  PE X (.Call (.Name "list" p0) [.Call (.Name "range" p) [a,b] [] pos] [] Z8) (Z5 ta):=by
 intro pins s σ H Q I h;refine Call_ (j6 I Z9 Z_ boot_list (PyProof.Rows.callWith_type1 ?_ wN rfl));rw[wN];refine Calls.spliced_cons ?_;refine Call_ (j6 I hg hm boot_range (PyProof.Rows.callWith_type1 (aK (ha pos pins s σ H _ I h) λus s1 ⟨vs,H1,I1,r1,q1⟩=>?_) (by rw[hs,iM]) (by rw[iM];rfl)))
 obtain⟨i,j,e,⟨b1,b2,b3,b4⟩,hn,q⟩:=q1;subst e;obtain⟨u,v,rfl,ru,rv⟩:=vals2 r1;obtain⟨t,rfl⟩:=ru;obtain⟨t',rfl⟩:=rv;refine call_range_2 ?_;refine Calls.spliced_nil ?_;have hr:=IsRange.new s1.heap i j 1 t t' s1.toks;have en:Builtin.Range.rangeSize i j 1=(((j - i).toNat:Nat):Int):=by rw[rangeSize_one];split <;> lia
 refine call_list_range (I.ok.hd hc) hr (small_one (by lia) (by lia) (by lia) (by lia)) en (by lia) λh' tk acc c hk hS pX=>?_
 have k2:∀b o,s1.heap.get? b=some o->h'.get? b=some o:=λb o e=>hk b o (Heap.get?_push_of_some _ e);have sz:(s1.heap.push { cls:=.type "range",data:=.fields #[.int i t,.int j t',.int 1 s1.toks] }).objs.size=s1.heap.objs.size+1:=by simp[Heap.push]
 rw[sz] at hS ⊢;have vl:Vals ((List.range (j - i).toNat).map λ(k:Nat)=>V.int (i+(k:Int))) acc.toList:=Z6 (F:=λ(k:Nat)=>V.int (i+(k:Int))) ⟨pX.1,λj' v hj=>by
  obtain⟨t,e⟩:=pX.2 j' v hj;exact⟨t,by rw[e];congr 1;lia⟩⟩
 refine⟨.ref (s1.heap.objs.size+1),upd H1 (s1.heap.objs.size+1) (.lst ((List.range (j - i).toNat).map λ(k:Nat)=>V.int (i+(k:Int)))),I1.laid k2 (Nat.le_succ _) ?_,rfl,q _ (I1.aD.fresh (Nat.le_succ _))⟩;refine⟨by rw[List.length_map,List.length_range,l8];lia,acc.toList,c,vl,by simpa using hS⟩
end
section
variable{X:Cx}
noncomputable def ajH(K:PySem.W.Frag):R2:=λx y H Q=>∃l k xs,x = .ref l/\y = .int k/\H l=some (.tup xs)/\xs≠[]/\xs.length<=1000/\1<=k/\k<=1000/\∀p H',ah H H'->H' p=some (.tup (List.replicate k.toNat xs).flatten)->Q (.ref p) H'
end
structure Ak where
 kind:Str
 first:Int
 many:Int
 marks:List Int
 at_:Int
 mj:Int
 D9:Option Int
 behind:List Int
 early:Bool
noncomputable def qd:Option Int->V
 | none=>.aI
 | some i=>.int i
noncomputable def gk(q:Ak)(m b:Addr):List (Str×V):=[("kind",.str q.kind),("first",.int q.first),("many",.int q.many),("marks",.ref m),("at",.int q.at_),("asker",.int q.mj),("latest",qd q.D9),("behind",.ref b),("early",.bl q.early)]
structure dI(K:PySem.W.Frag)(C:Addr)(H:Hp)(p:Addr)(q:Ak)(m b dx:Addr):Prop where
 o:H p=some (.ins C dx (gk q m b))
 ms:H m=some (.tup (q.marks.map V.int))
 bh:H b=some (.tup (q.behind.map V.int))
theorem dI.same{K:PySem.W.Frag}{C:Addr}{H H':Hp}{p:Addr}{q:Ak}{m b dx:Addr}(h:dI K C H p q m b dx)(s:ah H H'):dI K C H' p q m b dx:=⟨s _ _ h.o,s _ _ h.ms,s _ _ h.bh⟩
theorem aaa{K:PySem.W.Frag}{C:Addr}{H H1:Hp}{x dx m b:Addr}{q:Ak}(s:ah H H1)(nx:H1 x=none)(sI:H1 dx=none)(e9:dx≠x)(hm:H1 m=some (.tup (q.marks.map V.int)))(hb:H1 b=some (.tup (q.behind.map V.int))) :
  ah H (upd (upd (upd H1 dx (.own x)) x (.ins C dx [])) x (.ins C dx (gk q m b)))/\H x=none/\dI K C (upd (upd (upd H1 dx (.own x)) x (.ins C dx [])) x (.ins C dx (gk q m b))) x q m b dx:=by
 have s1:=ah.put (o:=.own x) sI;have n_:upd H1 dx (.own x) x=none:=by rw[az (Ne.symm e9)];exact nx
 have s2:ah H1 (upd (upd (upd H1 dx (.own x)) x (.ins C dx [])) x (.ins C dx (gk q m b))):=ah.put2 (s1.trans (ah.put n_)) nx;exact⟨s.trans s2,s.free nx,⟨aB,s2 _ _ hm,s2 _ _ hb⟩⟩
structure kI(ns:List Int):Prop where
 up:ns.Pairwise (· < ·)
 lo:∀n∈ns,0<=n
 hi:∀n∈ns,n<=99
theorem kI.nil:kI []:=⟨.nil,(λ_ h=>nomatch h),λ_ h=>nomatch h⟩
noncomputable def sJ(x:Int)(ns:List Int)(i:Nat):Int:=if i=0 then x else ns.getD (i - 1) 0
theorem kI.step{ns:List Int}(h:kI ns){i:Nat}{n:Int}(e:ns[i]? = some n):sJ (-1) ns i+1<=n/\n<=99:=by
 refine⟨?_,h.hi n (get_mem e)⟩;unfold sJ;split
 ·have:=h.lo n (get_mem e);lia
 ·have hi:=eU e;obtain⟨h1,e1⟩:=List.getElem?_eq_some_iff.mp e;have e2:ns.getD (i - 1) 0=ns[i - 1]:=by simp[List.getD_eq_getElem?_getD,List.getElem?_eq_getElem (show i - 1<ns.length by lia)]
  have:=List.pairwise_iff_getElem.mp h.up (i - 1) i (by lia) h1 (by lia)
  rw[e2];lia
theorem aab{x:Int}{ns:List Int}{i:Nat}{n:Int}(e:ns[i]? = some n):sJ x ns (i+1)=n:=by
 simp[sJ,List.getD_eq_getElem?_getD,e]
noncomputable def MQ(K:PySem.W.Frag)(H:Hp)(v:V)(ns:List Int):Prop:=(v = .aI/\ns = [])\/∃a,v = .ref a/\(aA K H a (ns.map V.int)\/H a=some (.tup (ns.map V.int)))
structure D_(first many at_ mj:Int)(lat:Option Int):Prop where
 f0:0<=first
 f1:first<=1000000
 m0:1<=many
 m1:many<=16
 a0:0<=at_
 a1:at_<=1000000000000
 s0:0<=mj
 s1:mj<=20
 l:∀x,lat=some x->0<=x/\x<=10000000000000
noncomputable def aac:Sp:=λvs H Q _=>∃(n lo hi:Int) (w:Str),vs = [.int n,.int lo,.int hi,.str w]/\lo<=n/\n<=hi/\Q .aI H
noncomputable def aad(K:PySem.W.Frag):Sp:=λvs H Q _=>∃(b:Addr) (ns:List Int),vs = [.ref b]/\bq K H b (ns.map V.int)/\kI ns/\Q .aI H
noncomputable def aae(K:PySem.W.Frag):Sp:=λvs H Q _=>∃(f m a s:Int) (l:Option Int) (b:Addr) (ns:List Int),vs = [.int f,.int m,.int a,.int s,qd l,.ref b]/\D_ f m a s l/\bq K H b (ns.map V.int)/\kI ns/\Q .aI H
noncomputable def aaf(K:PySem.W.Frag):Sp:=λvs H Q _=>∃(v:V) (ns:List Int),vs = [v]/\MQ K H v ns/\∀b H',ah H H'->H' b=some (.tup (ns.map V.int))->Q (.ref b) H'
noncomputable def aag(C:Addr):Sp:=λvs H Q _=>∃(p dx:Addr) (v1 v2 v3 v4 v5 v6 v7 v8 v9:V),vs = [.ref p,v1,v2,v3,v4,v5,v6,v7,v8,v9]/\H p=some (.ins C dx [])/\
 Q .aI (upd H p (.ins C dx [("kind",v1),("first",v2),("many",v3),("marks",v4),("at",v5),("asker",v6),("latest",v7),("behind",v8),("early",v9)]))
noncomputable def aah(K:PySem.W.Frag)(C:Addr):Sp:=λvs H Q _=>∃(f m a s:Int) (l:Option Int) (bv:V) (ns:List Int),vs = [.int f,.int m,.int a,.int s,qd l,bv]/\D_ f m a s l/\MQ K H bv ns/\kI ns/\
 ∀p mk b dx H',ah H H'->H p=none->dI K C H' p ⟨"read",f,m,[],a,s,l,ns,false⟩ mk b dx->Q (.ref p) H'
noncomputable def qe(x y:Ak):Bool:=decide ((x.kind = "write"\/y.kind = "write")/\x.first<y.first+y.many/\y.first<x.first+x.many)
noncomputable def aai(K:PySem.W.Frag)(C:Addr):Sp:=λvs H Q _=>∃(p r:Addr) (x y:Ak) (m b dx m' b' dm:Addr),vs = [.ref p,.ref r]/\dI K C H p x m b dx/\dI K C H r y m' b' dm/\Q (.bl (qe x y)) H
theorem MR(n:Int):∀ms:List Int,pT (.int n) (ms.map V.int)=decide (n∈ms)
 | []=>rfl
 | m::ms=>by
  have ih:=MR n ms;unfold pT at ih ⊢;rw[List.map_cons,List.any_cons,ih,Bool.eq_iff_iff];simp only[jI,Bool.or_eq_true,beq_iff_eq,decide_eq_true_eq,List.mem_cons];constructor
  ·rintro(h | h)
   ·exact .inl h.symm
   ·exact .inr h
  ·rintro(h | h)
   ·exact .inl h.symm
   ·exact .inr h
theorem aaj(ms:List Int):(ms.map V.int).all jH=true:=by simp[jH]
theorem aak{X:Cx}{K:PySem.W.Frag}(h:X.K=K):c_ X (compareOp .In) (LO K false):=h▸vW
section
variable{K:PySem.W.Frag}{tl:TE}{g:TG}{tb:TS}{D:Ends}{σ:St}{H:Hp}
theorem rt(a:Addr)(xs:List V)(Pv:Nat->St->Hp->Prop)(iR:∀Q:VK,Q (.ref a) H->tl σ H Q)(dU:bq K H a xs)(h0:Pv 0 σ H)(hl:∀i σ H,i<=xs.length->Pv i σ H->bq K H a xs)
  (hs:∀i x σ H (N:St->Hp->Prop),(∀σ H,Pv (i+1) σ H->N σ H)->xs[i]? = some x->Pv i σ H->g x σ H λaj H2=>tb { D with nx:=N,ct:=N,bk:=D.nx } aj H2) (hd:∀σ H,Pv xs.length σ H->D.nx σ H):jc (CU K tl) g tb D σ H :=
 iR _ ⟨a,rfl,⟨xs,dU⟩,WX Pv h0 hl (λi x σ H hx p=>hs i x σ H _ (λ_ _ z=>z) hx p) hd⟩
end
noncomputable def f2(o:Obj):Option Value:=match o.data with
 | .fields vs=>vs[2]?
 | _=>none
noncomputable def Dk(h h':Heap):Prop:=∀(b:Nat) (o:Obj),h.objs[b]? = some o->∃o':Obj,h'.objs[b]? = some o'/\o'.dict=o.dict/\f2 o' = f2 o
theorem Dk.refl(h:Heap):Dk h h:=λ_ o e=>⟨o,e,rfl,rfl⟩
theorem Dk.push{h h':Heap}(k:Dk h h')(o:Obj):Dk h (h'.push o):=λb ob e=>by
 obtain⟨o',e',d⟩:=k b ob e;refine⟨o',?_,d⟩
 show (h'.objs.push o)[b]? = some o';rw[Array.getElem?_push];have:b<h'.objs.size:=(Array.getElem?_eq_some_iff.mp e').1;rw[if_neg (by lia)];exact e'
theorem Dk.upd{h h':Heap}(k:Dk h h'){a:Addr}{f:Obj->Obj}(hf:∀o,(f o).dict=o.dict/\f2 (f o)=f2 o):Dk h (h'.update a f):=λb ob e=>by
 obtain⟨o',e',d⟩:=k b ob e;by_cases hb:a=b
 ·subst hb;exact⟨f o',by show (h'.objs.modify a f)[a]? = _;rw[Array.getElem?_modify,if_pos rfl,e'];rfl,(hf o').1.trans d.1,(hf o').2.trans d.2⟩
 ·exact⟨o',by show (h'.objs.modify a f)[b]? = _;rw[Array.getElem?_modify,if_neg hb];exact e',d⟩
theorem MS{h:Heap}{a:Addr}{o:Obj}(e:h.get? a=some o):h.objs[a]? = some o:=by
 unfold Heap.get? at e;split at e
 ·cases e
 ·exact e
theorem Dk.at{h h':Heap}(k:Dk h h'){a:Addr}{o o':Obj}(e:h.get? a=some o)(e':h'.get? a=some o'):o'.dict=o.dict/\f2 o' = f2 o:=by
 obtain⟨o2,q,d⟩:=k a o (MS e);have:=MS e';rw[q] at this;cases this;exact d
noncomputable def KD{α:Type}:Sem α->Prop
 | .pure _=>True
 | .raise _=>True
 | .unsupported _=>True
 | .finish _=>True
 | .rule _ k=>KD (k ())
 | .at _ k=>KD (k ())
 | .load _ _ k=>∀o,KD (k o)
 | .update _ _ f k=>(∀o,(f o).dict=o.dict/\f2 (f o)=f2 o)/\KD (k ())
 | .alloc _ k=>∀a,KD (k a)
 | .loadIfAlive _ k=>∀o,KD (k o)
 | .point _ k=>KD (k ())
 | .register _ _=>True
 | .fresh k=>∀t,KD (k t)
 | .ask k=>∀x,KD (k x)
 | .choose _ _ k=>∀n,KD (k n)
 | .os _ _ k=>∀r,KD (k r)
 | .call .. => False
 | .handled _ k=>∀x,KD (k x)
 | .newGen _ k=>∀n,KD (k n)
 | .genState _ k=>∀x,KD (k x)
 | .resume .. => False
 | .yield .. => True
 | .stack k=>∀x,KD (k x)
 | .fork .. => True
 | .thread k=>∀n,KD (k n)
 | .await .. => True
theorem KD.wp{α:Type}{M:Model}{Γ:PySem.Ctx}{Q:α->Pos->Shared->Prop}{E:Value->Pos->Shared->Prop}{h0:Heap}(t:Sem α):KD t->∀p (s:Shared),Dk h0 s.heap->Sem.wp M Γ t Q E p s->
  Sem.wp M Γ t (λa p s'=>Q a p s'/\Dk h0 s'.heap) (λe p s'=>E e p s'/\Dk h0 s'.heap) p s:=by
 induction t with
 | pure a=>exact λ_ p s d h=>by rw[Sem.wp] at h ⊢;exact⟨h,d⟩
 | raise e=>exact λ_ p s d h=>by rw[Sem.wp] at h ⊢;exact⟨h,d⟩
 | unsupported _=>exact λ_ p s d h=>by rw[Sem.wp] at h;exact h.elim
 | finish _=>exact λ_ p s d h=>by rw[Sem.wp] at h;exact h.elim
 | rule _ k ih=>exact λq p s d h=>by rw[Sem.wp] at h ⊢;exact ih () q p s d h
 | «at» _ k ih=>exact λq p s d h=>by rw[Sem.wp] at h ⊢;exact ih () q _ s d h
 | load a _ k ih=>exact λq p s d h=>by rw[Sem.wp] at h ⊢;obtain⟨o,e,h⟩:=h;exact⟨o,e,ih o (q o) p s d h⟩
 | update a _ f k ih=>exact λq p s d h=>by rw[Sem.wp] at h ⊢;exact⟨h.1,ih () q.2 p _ (d.upd q.1) h.2⟩
 | alloc o k ih=>exact λq p s d h=>by rw[Sem.wp] at h ⊢;exact ih _ (q _) p _ (d.push o) h
 | loadIfAlive a k ih=>exact λq p s d h=>by rw[Sem.wp] at h ⊢;exact ih _ (q _) p s d h
 | point _ k ih=>exact λq p s d h=>by rw[Sem.wp] at h ⊢;exact ih () q p s d h
 | register _ k ih=>exact λq p s d h=>by rw[Sem.wp] at h;exact h.elim
 | fresh k ih=>exact λq p s d h=>by rw[Sem.wp] at h ⊢;exact ih _ (q _) p _ d h
 | ask k ih=>exact λq p s d h=>by rw[Sem.wp] at h ⊢;exact ih _ (q _) p _ d h
 | choose src n k ih=>exact λq p s d h=>by rw[Sem.wp] at h ⊢;exact⟨h.1,ih _ (q _) p _ d h.2⟩
 | os r _ k ih=>exact λq p s d h=>by rw[Sem.wp] at h ⊢;exact ih _ (q _) p _ d h
 | call c hd g l k ih=>exact λq p s d h=>False.elim q
 | handled own k ih=>exact λq p s d h=>by rw[Sem.wp] at h ⊢;exact ih _ (q _) p _ d h
 | newGen c k ih=>exact λq p s d h=>by rw[Sem.wp] at h ⊢;exact ih _ (q _) p _ d h
 | genState g k ih=>exact λq p s d h=>by rw[Sem.wp] at h ⊢;obtain⟨o,e,h⟩:=h;exact⟨o,e,ih _ (q _) p s d h⟩
 | resume g r l k ih=>exact λq p s d h=>False.elim q
 | yield v g l k ih=>exact λq p s d h=>by rw[Sem.wp] at h;exact h.elim
 | stack k ih=>exact λq p s d h=>by rw[Sem.wp] at h ⊢;exact ih _ (q _) p _ d h
 | fork c k ih=>exact λq p s d h=>by rw[Sem.wp] at h;exact h.elim
 | thread k ih=>exact λq p s d h=>by rw[Sem.wp] at h ⊢;exact ih _ (q _) p _ d h
 | await a t d l k ih=>exact λq p s d h=>by rw[Sem.wp] at h;exact h.elim
theorem KD.any{α:Type}{M:Model}{A:Around}{t:Sem α}{Q:α->Shared->Prop}{E:Value->Shared->Prop}{s:Shared}(k:KD t)(h:wpAny M A t Q E s):wpAny M A t (λa s'=>Q a s'/\Dk s.heap s'.heap) (λe s'=>E e s'/\Dk s.heap s'.heap) s :=
 λΓ p hΓ=>k.wp (h0:=s.heap) t p s (Dk.refl _) (h Γ p hΓ)
theorem KD.bind{α β:Type}{f:α->Sem β}(hf:∀a,KD (f a)):∀(m:Sem α),KD m->KD (m >>= f):=by
 intro m
 show KD m->KD (Sem.bind m f)
 induction m with
 | pure a=>exact λ_=>hf a
 | raise e=>exact λ_=>trivial
 | unsupported _=>exact λ_=>trivial
 | finish _=>exact λ_=>trivial
 | rule _ k ih=>exact λq=>ih () q
 | «at» _ k ih=>exact λq=>ih () q
 | load a _ k ih=>exact λq o=>ih o (q o)
 | update a _ f k ih=>exact λq=>⟨q.1,ih () q.2⟩
 | alloc o k ih=>exact λq a=>ih a (q a)
 | loadIfAlive a k ih=>exact λq o=>ih o (q o)
 | point _ k ih=>exact λq=>ih () q
 | register _ k ih=>exact λq=>trivial
 | fresh k ih=>exact λq a=>ih a (q a)
 | ask k ih=>exact λq a=>ih a (q a)
 | choose src n k ih=>exact λq a=>ih a (q a)
 | os r _ k ih=>exact λq a=>ih a (q a)
 | call c hd g l k ih=>exact λq=>q
 | handled own k ih=>exact λq a=>ih a (q a)
 | newGen c k ih=>exact λq a=>ih a (q a)
 | genState g k ih=>exact λq a=>ih a (q a)
 | resume g r l k ih=>exact λq=>q
 | yield v g l k ih=>exact λq=>trivial
 | stack k ih=>exact λq a=>ih a (q a)
 | fork c k ih=>exact λq=>trivial
 | thread k ih=>exact λq a=>ih a (q a)
 | await a t d l k ih=>exact λq=>trivial
theorem KD.ite{α:Type}{c:Prop}[Decidable c]{a b:Sem α}(ha:KD a)(hb:KD b):KD (if c then a else b):=by split <;> assumption
theorem Ea{i:Nat}(hi:i≠2)(v:Value)(o:Obj):(Obj.mapFields (·.setIfInBounds i v) o).dict=o.dict/\f2 (Obj.mapFields (·.setIfInBounds i v) o)=f2 o:=by
 obtain⟨c,d,dt,sl⟩:=o;cases dt <;> first | exact⟨rfl,rfl⟩ | (refine⟨rfl,?_⟩;show (Array.setIfInBounds _ i v)[2]? = _;rw[Array.getElem?_setIfInBounds_ne hi];rfl)
theorem KD.then{α β:Type}{m:Sem α}{f:α->Sem β}(hm:KD m)(hf:∀a,KD (f a)):KD (m >>= f):=KD.bind hf m hm
theorem wO(v:Value)(i:Nat):KD (field v i):=by
 unfold field fieldsOf load;repeat' first | exact trivial | exact λ_=>trivial | assumption | exact⟨Ea (by assumption) _,trivial⟩ | exact⟨λ_=>⟨rfl,rfl⟩,trivial⟩ | refine KD.ite ?_ ?_ | refine KD.then ?_ λ_=>?_ | split
theorem Eb(v:Value){i:Nat}(hi:i≠2)(x:Value):KD (setField v i x):=by
 unfold setField updateField load update;repeat' first | exact trivial | exact λ_=>trivial | assumption | exact⟨Ea (by assumption) _,trivial⟩ | exact⟨λ_=>⟨rfl,rfl⟩,trivial⟩ | refine KD.ite ?_ ?_ | refine KD.then ?_ λ_=>?_ | split
theorem Ec(e:Value)(f:Option Addr):KD (setFlight e f):=by
 have h1:=wO e 1;unfold setFlight;refine KD.then h1 λtb=>KD.ite ?_ ?_
 ·exact Eb _ (by decide) _
 ·trivial
theorem MT:∀l,KD (readyFrames l)
 | []=>trivial
 | env::outer=>by
  have ih:=MT outer;have hf:=λv i=>wO v i;unfold readyFrames;split
  ·refine KD.then (λ_=>trivial) λo=>?_
   refine KD.ite trivial ?_;refine KD.then ?_ λi=>KD.then ?_ λb=>?_
   ·unfold behindIsImport;refine KD.ite trivial (KD.ite trivial ?_);exact KD.then (hf _ _) λ_=>(trivial:KD (.pure _))
   ·unfold keptBack underTheClaimsCaller stack;split
    ·refine KD.ite trivial ?_;refine KD.then ?_ λ_=>(trivial:KD (.pure _));exact λ_=>trivial
    ·trivial
   ·refine KD.then (m:=update _ _) ⟨λ_=>⟨rfl,rfl⟩,trivial⟩ λ_=>?_
    exact ih
  ·trivial
theorem aal(env:Env):KD (PySem.frameOf env):=by
 unfold PySem.frameOf;refine KD.then ?_ λl=>?_
 ·unfold frameEnvs stack;exact λ_=>trivial
 ·refine KD.then ?_ λa=>?_
  ·unfold frameObject;split
   ·trivial
   ·refine KD.then (MT _) λ_=>?_
    trivial
  ·split <;> trivial
theorem aam(ty:String)(vs:List Value):KD (newFields ty vs):=by
 unfold newFields newObj newObjAsIs alloc;repeat' first | exact trivial | exact λ_=>trivial | assumption | exact⟨Ea (by assumption) _,trivial⟩ | exact⟨λ_=>⟨rfl,rfl⟩,trivial⟩ | refine KD.ite ?_ ?_ | refine KD.then ?_ λ_=>?_ | split
theorem aan(f:Addr)(b:Bool):KD (entryPlaceOf f b):=by
 unfold entryPlaceOf;refine KD.then (m:=stack) (λ_=>trivial) λl=>?_
 split <;> trivial
theorem MU(e:Value)(env:Env):KD (noteFrame e env):=by
 have last:∀head f,KD (do setField e 1 (← EntryCells.newEntry head (← PySem.frameOf env) .none (rawInt f) .none (← entryPlaceOf f (head != .none)))):=λhead f =>
  KD.then (aal _) λa=>KD.then (aan _ _) λp=>KD.then (aam _ _) λx=>Eb _ (by decide) _
 unfold noteFrame;split
 ·refine KD.then (wO _ _) λhead=>?_
  refine KD.ite ?_ ?_
  ·refine KD.then (wO _ _) λx=>?_
   refine KD.ite trivial ?_;refine KD.then (Eb _ (by decide) _) λ_=>?_
   exact last _ _
  ·exact last _ _
 ·trivial
theorem aao(env:Env)(e:Value):KD (leaving env e):=KD.then (MU _ _) λ_=>Ec _ _
noncomputable def gY(h:Heap)(a:Addr)(od:Option Addr):Prop:=∃oe,h.get? a=some oe/\oe.dict=od.map (· / 2)/\(od.getD 0 % 2=0->f2 oe=some .none)
theorem gY.dk{h h':Heap}{a:Addr}{od:Option Addr}(x:gY h a od)(k:Dk h h')(th:∃o,h'.get? a=some o):gY h' a od :=
 let ⟨_,e,d,c⟩:=x;let ⟨o',e'⟩:=th;⟨o',e',(k.at e e').1.trans d,λy=>(k.at e e').2.trans (c y)⟩
section
variable{M:Model}{A:Around}{E:Value->Shared->Prop}{s:Shared}{base:Heap}{env:Env}{l outer:List Env}{L e:Addr}{cls a0:Value}{od:Option Addr}{Q:Unit->Shared->Prop}
theorem aap(Ef:A.frames=some (env::outer))(hf:env.frame=some L)(hfl:Heap.FlyingW base (env::outer) e cls a0 s.heap)(hd:gY s.heap e od)
  (hQ:∀h',Heap.HeldW base (env::outer) e cls a0 L h'->s.heap.UpToSlots h'->gY h' e od->Q () { s with heap:=h' }):wpAny M A (noteFrame (.ref e) env) Q E s:=by
 refine wpAny_mono ((MU (.ref e) env).any (wpAny_looks_onW (E:=E) (Q:=λ_ s2=>∃h',Heap.HeldW base (env::outer) e cls a0 L h'/\s.heap.UpToSlots h'/\s2 = { s with heap:=h' }) Ef hf hfl λh' x1 x2=>⟨h',x1,x2,rfl⟩)) (λu s2 z=>?_) λ_ _ z=>z.1;obtain⟨⟨h',x1,x2,rfl⟩,k⟩:=z;obtain⟨o,q,_⟩:=x1.there;exact hQ h' x1 x2 (hd.dk k ⟨o,q⟩)
theorem aaq(hh:Heap.HeldW base l e cls a0 L s.heap)(hd:gY s.heap e od)
  (hQ:∀h',Heap.FlyingW base l e cls a0 h'->s.heap.UpToSlots h'->gY h' e od->Q () { s with heap:=h' }):wpAny M A (setFlight (.ref e) none) Q E s:=by
 refine wpAny_mono ((Ec (.ref e) none).any (wpAny_landsW (E:=E) (Q:=λ_ s2=>∃h',Heap.FlyingW base l e cls a0 h'/\s.heap.UpToSlots h'/\s2 = { s with heap:=h' }) hh λh' x1 x2=>⟨h',x1,x2,rfl⟩)) (λu s2 z=>?_) λ_ _ z=>z.1;obtain⟨⟨h',x1,x2,rfl⟩,k⟩:=z;obtain⟨o,q,_⟩:=x1.there;exact hQ h' x1 x2 (hd.dk k ⟨o,q⟩)
theorem aar(hh:Heap.FlyingW base l e cls a0 s.heap)(hd:gY s.heap e od)
  (hQ:∀h',Heap.FlyingW base l e cls a0 h'->s.heap.UpToSlots h'->gY h' e od->Q () { s with heap:=h' }):wpAny M A (setFlight (.ref e) none) Q E s:=by
 refine wpAny_mono ((Ec (.ref e) none).any (lands_againW (E:=E) (Q:=λ_ s2=>∃h',Heap.FlyingW base l e cls a0 h'/\s.heap.UpToSlots h'/\s2 = { s with heap:=h' }) hh λh' x1 x2=>⟨h',x1,x2,rfl⟩)) (λu s2 z=>?_) λ_ _ z=>z.1;obtain⟨⟨h',x1,x2,rfl⟩,k⟩:=z;obtain⟨o,q,_⟩:=x1.there;exact hQ h' x1 x2 (hd.dk k ⟨o,q⟩)
theorem aas{oe:Obj}{vs:Array Value}(Ef:A.frames=some (env::outer))(hf:env.frame=some L)(qg:base.StaysIn s.heap)(hl:s.heap.FunFrames base (env::outer))(he:s.heap.get? e=some oe)(MV:base.get? e=none)
  (hdt:oe.data = .fields vs) (h1:vs[1]? = some .none) (h0:vs[0]? = some a0) (hd:gY s.heap e od)
  (hQ:∀h',Heap.FlyingW base outer e oe.cls a0 h'->s.heap.UpToSlots h'->gY h' e od->Q () { s with heap:=h' }):wpAny M A (leaving env (.ref e)) Q E s:=by
 refine wpAny_mono ((aao env (.ref e)).any (wpAny_leaving_firstW (E:=E) (Q:=λ_ s2=>∃h',Heap.LeftW base (env::outer) e oe.cls a0 s.heap h'/\s2 = { s with heap:=h' }) Ef hl hf he qg MV hdt h1 h0 λh' x=>⟨h',x,rfl⟩)) (λu s2 z=>?_) λ_ _ z=>z.1;obtain⟨⟨h',⟨k1,⟨_,_,k2⟩,k3,k4⟩,rfl⟩,k⟩:=z;have fl:Heap.FlyingW base outer e oe.cls a0 h':=⟨k1,MV,k2,k3⟩;obtain⟨o,q,_⟩:=fl.there;exact hQ h' fl k4 (hd.dk k ⟨o,q⟩)
end
theorem b_.there{P:Program}{w:World}{H:Hp}{h:Heap}{a:Addr}{o:HO}(x:b_ P w H h)(e:H a=some o):∃u,h.get? a=some u:=by
 have x:=x a o e;cases o with
 | lst xs=>obtain⟨_,_,_,_,e⟩:=x;exact⟨_,e⟩
 | tup xs=>obtain⟨_,_,_,ob,e,_⟩:=x;exact⟨_,e⟩
 | dK kvs=>obtain⟨_,_,_,_,o,_,_,e,_⟩:=x;exact⟨_,e⟩
 | dT kvs=>obtain⟨_,_,_,_,o,_,_,e,_⟩:=x;exact⟨_,e⟩
 | set S n=>obtain⟨o,_,_,_,e,_⟩:=x;exact⟨_,e⟩
 | ins C dx fs=>obtain⟨_,_,_,e,_⟩:=x;exact⟨_,e⟩
 | own y=>obtain⟨_,e⟩:=x;exact⟨_,e⟩
 | xd fs=>obtain⟨_,⟨_,_,_,e,_⟩,_⟩:=x;exact⟨_,e⟩
 | vm lo hi=>obtain⟨_,_,_,e⟩:=x;exact⟨_,e⟩
 | bZ ob u=>obtain⟨e,_⟩:=x;exact⟨_,e⟩
 | dP ps=>exact⟨_,(show h.get? a=some _ from x)⟩
 | met f y=>exact⟨_,(show h.get? a=some _ from x)⟩
 | ext φ=>obtain⟨_,⟨_,e⟩,_⟩:=x;exact⟨_,e⟩
structure Cut(base B:Heap)(outer:List Env)(H H':Hp)(h:Heap):Prop where
 stays:base.StaysIn B
 k1:∀b o,h.get? b=some o->H b=none->b∉cg outer->B.get? b=some o
 k2:∀b u,H' b=some u->∃o,B.get? b=some o
 k3:∀b o,h.get? b=some o->b∉cg outer->∃o',B.get? b=some o'
noncomputable def jk(P:Program)(w:World)(base:Heap):f_:=λouter H s E e s' =>
 ∃a C a0 H' B od,e = .ref a/\s'.os=s.os/\AllBare s'.gens/\Un (cg outer) [] H H' s.heap s'.heap/\b_ P w H' s'.heap/\H' a=none/\s.heap.get? a=none/\
  Cut base B outer H H' s.heap/\Heap.FlyingW B outer a (.ref C) a0 s'.heap/\gY s'.heap a od/\E (.ref C) od H'
section
variable{P:Program}{w:World}{K:PySem.W.Frag}{mg:Str->Option Value}{base B:Heap}{N:List Str}{qual:Str}{scope:Scope}{f:Addr}{cd:Value}{A:Around}{outer:List Env}{bx sc s':Shared}{cY Hc H':Hp}{E:XK}
 {pins:List (Addr×Obj)} {σ:St} {a C:Addr} {a0:Value} {h':Heap} {od:Option Addr}
theorem MW:cg (envOfC qual scope bx.heap.objs.size f cd::outer)=bx.heap.objs.size::cg outer:=rfl
theorem aat(I:Inv (gz (jk P w base) P w K mg base N qual scope f cd A outer bx cY E) pins σ Hc sc)(u:Un (cg (envOfC qual scope bx.heap.objs.size f cd::outer)) [] Hc H' sc.heap s'.heap)(ho:s'.os=sc.os)(hg:AllBare s'.gens)(aD:b_ P w H' s'.heap)
  (na:H' a=none) (nh:sc.heap.get? a=none) (c:Cut base B (envOfC qual scope bx.heap.objs.size f cd::outer) Hc H' sc.heap) (kB:B.StaysIn s'.heap) (fM:Heap.FlyingW B outer a (.ref C) a0 h') (up:s'.heap.UpToSlots h') (hd:gY h' a od) (hE:E (.ref C) od H') :
  jk P w base outer cY bx E (.ref a) { s' with heap:=h' }:=by
 have J:=I.vv ho u aD hg (λ_ z=>nomatch z);have bs:Un (cg outer) [] cY Hc bx.heap sc.heap:=I.base;have sL:Un (cg outer) [] cY H' bx.heap s'.heap:=J.base;have nl:∀b o,bx.heap.get? b=some o->b∉cg outer->b∉cg (envOfC qual scope bx.heap.objs.size f cd::outer):=λb o q n z=>by
  rw[MW] at z;rcases List.mem_cons.mp z with e | z
  ·exact absurd (Heap.lt_size q) (by rw[e];exact Nat.lt_irrefl _)
  ·exact n z
 have k1:∀b o,bx.heap.get? b=some o->cY b=none->b∉cg outer->B.get? b=some o:=λb o q n hb =>
  c.k1 b o (bs.keep b o q n hb (by simp)) (bs.free b o q n (by simp)) (nl b o q hb)
 have k3:∀b o,bx.heap.get? b=some o->b∉cg outer->∃o',B.get? b=some o':=λb o q hb =>
  let ⟨o1,q1⟩:=bs.there b o q (by simp);c.k3 b o1 q1 (nl b o q hb)
 have sl:∀b o,bx.heap.get? b=some o->cY b=none->b∈cg outer->∃sl,h'.get? b=some { o with slots:=sl }:=λb o q n hb=>by
  obtain⟨sl,q1⟩:=sL.slot b o q n hb (by simp)
  obtain⟨_,o2,q2,nf⟩:=I.ok.fX.mem hb;have q2:bx.heap.get? b=some o2:=q2;rw[q] at q2;cases q2;obtain⟨nJ,q3⟩:=up b _ q1 nf;exact⟨nJ,q3⟩
 refine⟨a,C,a0,H',B,od,rfl,J.os,hg,⟨λb o q n hb _=>fM.1 _ _ (k1 b o q n hb),λb o q n hb _=>sl b o q n hb,sL.free,λb o q _=>?_,sL.ig,sL.gO,sL.ir⟩,λb v e=>?_,na,?_,⟨c.stays,k1,c.k2,k3⟩,fM,hd,hE⟩
 ·by_cases hb:b∈cg outer
  ·obtain⟨sl,q1⟩:=sl b o q (I.ok.i8 b hb) hb;exact⟨_,q1⟩
  ·obtain⟨o',q1⟩:=k3 b o q hb;exact⟨o',fM.1 _ _ q1⟩
 ·refine(aD b v e).fE (λd z hd q=>?_) (λ_ q=>q) λ_ _ q=>q;have tr:∃v',H' d=some v':=by
   rcases hd with rfl | hd
   ·exact⟨_,e⟩
   ·exact⟨_,hd⟩
  obtain⟨v',e'⟩:=tr;obtain⟨o,q1⟩:=c.k2 d v' e';have:=kB d o q1;rw[q] at this;cases this;exact fM.1 _ _ q1
 ·cases q:bx.heap.get? a with
  | none=>rfl
  | some o =>
   obtain⟨o1,q1⟩:=bs.there a o q (by simp)
   rw[nh] at q1;cases q1
theorem aau{h1:Heap}{vs:List Value}(I:Inv (gz (jk P w base) P w K mg base N qual scope f cd A outer bx cY E) pins σ Hc sc)(hx:Heap.MadeExcOf sc.heap h1 a (.ref C) vs)(hE:E (.ref C) none Hc) :
  (gz (jk P w base) P w K mg base N qual scope f cd A outer bx cY E).xe (.ref a) { sc with heap:=h1 }:=by
 show wpAny _ _ (leaving _ _) _ _ _;have fr:sc.heap.FunFrames base (envOfC qual scope bx.heap.objs.size f cd::outer):=I.stack;have free:∀b∈cg (envOfC qual scope bx.heap.objs.size f cd::outer),Hc b=none:=λb hb=>by
  rw[MW] at hb;rcases List.mem_cons.mp hb with rfl | hb
  ·exact I.free
  ·obtain⟨_,o,q,_⟩:=I.ok.fX.mem hb;exact I.base.free b o q (I.ok.i8 b hb) (by simp[gz])
 have nb:∀b o,base.get? b=some o->b∉cg (envOfC qual scope bx.heap.objs.size f cd::outer):=λb o q hm=>by
  have z:=(fr.mem hm).1;rw[q] at z;cases z
 have c:Cut base (PySem.W.hideAll sc.heap (cg (envOfC qual scope bx.heap.objs.size f cd::outer))) (envOfC qual scope bx.heap.objs.size f cd::outer) Hc Hc sc.heap :=
  ⟨λb o q=>PySem.W.hideAll_get _ (I.bk b o q) (nb b o q),
   λb o q _ hb=>PySem.W.hideAll_get _ q hb,
   λb v e=>let ⟨o,q⟩:=I.aD.there e;⟨o,PySem.W.hideAll_get _ q λhm=>(Option.some_ne_none v (e.symm.trans (free b hm))).elim⟩,
   λb o q hb=>⟨o,PySem.W.hideAll_get _ q hb⟩⟩
 have na:Hc a=none:=by
  cases e:Hc a with
  | none=>rfl
  | some v =>
   obtain⟨o,q⟩:=I.aD.there e;rw[hx.new] at q;cases q
 obtain⟨t,he,htn,ht⟩:=hx.there;refine aas (s:={ sc with heap:=h1 }) (e:=a) (oe:={ cls:=.ref C,data:=.fields #[.ref t,.none,.none,.none,.bool false,.none] }) (a0:=.ref t) I.ok.frames rfl (base:=PySem.W.hideAll sc.heap (cg (envOfC qual scope bx.heap.objs.size f cd::outer))) (λb o q=>hx.keeps b o (PySem.W.of_hideAll _ q))
  ((PySem.W.funFrames_hide fr λenv he b hb=>List.mem_filterMap.mpr ⟨env,he,hb⟩).of_keeps λb o hb _=>⟨o,hx.keeps b o hb,rfl⟩) he ?_ rfl rfl rfl (od:=none) ⟨_,he,rfl,λ_=>rfl⟩ λh' x1 x2 x3=>?_
 ·cases q:(PySem.W.hideAll sc.heap (cg (envOfC qual scope bx.heap.objs.size f cd::outer))).get? a with
  | none=>rfl
  | some o=>have:=PySem.W.of_hideAll _ q;rw[hx.new] at this;cases this
 exact aat (s':={ sc with heap:=h1 }) I (Un.kept hx.keeps) rfl I.bare (I.aD.kept hx.keeps) na hx.new c (λb o q=>hx.keeps b o (PySem.W.of_hideAll _ q)) x1 x2 x3 hE
end
theorem aav{K:PySem.W.Frag}{h₀:Heap}{C:Addr}{mq:List Value}{newId:String}(X:K.In h₀)(q:PySem.W.excIn K C mq newId=true) :
  ∃bm N nm q bs hdct sn sub ab col dd k0 k1 k2 k3 k5 mN,h₀.get? C=some (excClassObj nm q C N bs bm hdct sn sub ab col dd k0 k1 k2 k3 k5 newId)/\h₀.Ns N mN/\mN "__init__" = none/\OwnTail h₀ mq bm:=by
 unfold PySem.W.excIn at q;cases e:K.lookup C with
 | none=>rw[e] at q;cases q
 | some o =>
  rw[e] at q;split at q
  ·rename_i dd cd sl ho;cases ho;split at q
   ·rename_i C' bm k0 k1 k2 k3 n k5 hm hs;simp only[Bool.and_eq_true,beq_iff_eq,Bool.not_eq_true'] at q;obtain⟨⟨⟨⟨⟨c1,c2⟩,c3⟩,c4⟩,c5⟩,c6⟩:=q;obtain⟨nm,bs,mro,ns,qn,hd,sn,sub,ab,col,del⟩:=cd;obtain⟨l⟩:=sl;dsimp only at hm hs c3 c5 c6;subst c1 c2 hm c3 hs;exact⟨bm,ns,nm,qn,bs,hd,sn,sub,ab,col,dd,k0,k1,k2,k3,k5,_,X _ _ e,.of_isNs (PySem.W.isNs_of_in X c5),PySem.W.nsMap_none_of_in X c5 c6,PySem.W.tail_of_in X c4⟩
   ·cases q
  ·cases q
noncomputable def Makes(X:Cx)(E:XK):Prop:=∀(pins:List (Addr×Obj)) (σ:St) (H:Hp) (s:Shared) (a C:Addr) (vs:List Value) (h1:Heap),Inv X pins σ H s->Heap.MadeExcOf s.heap h1 a (.ref C) vs->E (.ref C) none H->X.xe (.ref a) { s with heap:=h1 }
noncomputable def aaw(C:Addr)(E:XK)(t:TA):TS:=λ_ σ H=>t σ H λvs H1=>vs.length<=sizeLine/\E (.ref C) none H1
section
variable{X:Cx}{E:XK}{x:Str}{C:Addr}{bm:List Value}{newId aax B:String}{np cH pos:Pos}{wQ:Expr}{rest:List Expr}{t:TA}
theorem aay(hx:Makes X E)(hg:Gl X x)(hm:X.mg x=some (.ref C))(q:PySem.W.excIn X.K C bm newId=true)(FB:ExcBaseFacts B newId aax bm)(hc:X.calm=true)(ha:PA X (wQ::rest) t)
  (he:starEach (wQ::rest) X.env=(false,eval wQ X.env)::starEach rest X.env:=by rfl) (dZ:(backTo cH (starEach rest X.env)).any (·.1)=false:=by rfl) (gb:(x == ("__debug__" : Str))=false:=by rfl) :
  PS X (.Raise (some (.Call (.Name x np) (wQ::rest) [] cH)) none pos) (aaw C E t):=by
 intro pins s σ H D I h;obtain⟨tl,N,nm,q,bs,hdct,sn,sub,ab,col,dd,k0,k1,k2,k3,k5,mN,hC,hN,Eg,T⟩:=aav I.mod.i7 q;refine wpAny_Raise_call_subT (C:=C) (nm:=nm) (q:=q) (N:=N) (bs:=bs) (bm:=tl) (hdct:=hdct) (sn:=sn) (sub:=sub) (ab:=ab) (col:=col) (dd:=dd) (k0:=k0) (k1:=k1) (k2:=k2) (k3:=k3) (k5:=k5)
  FB (mN:=mN) (T.hasType FB.hasBase) (I.ok.hd hc) (by rw[he];show (false || (backTo cH (starEach rest X.env)).any (·.1))=false;rw[dZ];rfl) Eg (lP I hg hm ⟨rfl,?_⟩ gb)
 have hA:=ha cH pins s σ H _ I h;rw[he] at hA ⊢;refine Calls.evalArgs_plain (wpAny_mono hA (λus iJ nW=>?_) λ_ _ y=>y);obtain⟨vs,H1,J,r,hl,hE⟩:=nW;exact⟨rfl,by show us.length<=_;rw[← r.length];exact hl,J.bk _ _ hC,hN.keeps J.bk,T.keeps J.bk,λh' e mx=>hx pins σ H1 iJ e C us h' J mx hE⟩
end
theorem aaz{base B:Heap}{l:List Env}{H H':Hp}{h h1 h':Heap}(u:Un (cg l) [] H H' h h1)(c:Cut base B l H H' h)(kB:B.StaysIn h')(up:h1.UpToSlots h')(ff:∀b∈cg l,H b=none/\∀o,h.get? b=some o->∀vs,o.data≠.fields vs) :
  Un (cg l) [] H H' h h':=by
 have sl:∀b o,h.get? b=some o->H b=none->b∈cg l->∃sl,h'.get? b=some { o with slots:=sl }:=λb o q n hb=>by
  obtain⟨sl,q1⟩:=u.slot b o q n hb (by simp)
  obtain⟨nJ,q3⟩:=up b _ q1 ((ff b hb).2 o q);exact⟨nJ,q3⟩
 refine⟨λb o q n hb _=>kB _ _ (c.k1 b o q n hb),λb o q n hb _=>sl b o q n hb,u.free,λb o q _=>?_,u.ig,u.gO,u.ir⟩;by_cases hb:b∈cg l
 ·obtain⟨sl,q1⟩:=sl b o q (ff b hb).1 hb;exact⟨_,q1⟩
 ·obtain⟨o',q1⟩:=c.k3 b o q hb;exact⟨o',kB _ _ q1⟩
theorem aaA{P:Program}{w:World}{base B:Heap}{l:List Env}{H H':Hp}{h h1 h':Heap}(aD:b_ P w H' h1)(c:Cut base B l H H' h)(k1:B.StaysIn h1)(kB:B.StaysIn h'):b_ P w H' h':=λb v e=>by
 refine(aD b v e).fE (λd z hd q=>?_) (λ_ q=>q) λ_ _ q=>q;have tr:∃v',H' d=some v':=by
  rcases hd with rfl | hd
  ·exact⟨_,e⟩
  ·exact⟨_,hd⟩
 obtain⟨v',e'⟩:=tr;obtain⟨o,q1⟩:=c.k2 d v' e';have:=k1 d o q1;rw[q] at this;cases this;exact kB _ _ q1
section
variable{X:Cx}{pins:List (Addr×Obj)}{σ:St}{H H':Hp}{s s':Shared}{a C:Addr}{h':Heap}{E:XK}
theorem Inv.ff(I:Inv X pins σ H s):∀b∈cg X.stack,H b=none/\∀o,s.heap.get? b=some o->∀vs,o.data≠.fields vs:=λb hb =>
 ⟨I.vp b hb,λo q=>by
  obtain⟨_,o2,q2,nf⟩:=I.stack.mem hb;rw[q] at q2;cases q2;exact nf⟩
noncomputable def Cx.within(X:Cx)(e:Value):Cx:={ X with A:=X.A.mark (some e),calm:=false,xe:=λ_ _=>False }
theorem Inv.within(I:Inv X pins σ H s)(e:Value):Inv (X.within e) pins σ H s :=
 ⟨⟨I.ok.mod,I.ok.kind,I.ok.glob,I.ok.blt,I.ok.above,I.ok.inj,I.ok.has,I.ok.m_,(λz=>nomatch z),I.ok.frames,I.ok.pH,I.ok.pI,I.ok.bs,I.ok.iu,I.ok.ng,I.ok.ni,I.ok.fX,I.ok.i8⟩,
  I.os,I.bare,I.base,I.loc,I.cell,I.free,I.gu,I.pin,I.aD,I.len⟩
theorem Inv.out{e:Value}(I:Inv (X.within e) pins σ H s)(ok:X.Ok):Inv X pins σ H s :=
 ⟨ok,I.os,I.bare,I.base,I.loc,I.cell,I.free,I.gu,I.pin,I.aD,I.len⟩
noncomputable def sM(a C:Addr):HO:=.ext λh=>∃o,h.get? a=some o/\o.cls = .ref C/\∃vs,o.data = .fields vs/\vs[2]? = some .none
noncomputable def qh(a C:Addr):Option Addr->HO
 | none=>sM a C
 | some k=>.ext λh=>∃o,h.get? a=some o/\o.cls = .ref C/\o.dict=some (k / 2)/\∃vs,o.data = .fields vs/\(k % 2=0->vs[2]? = some .none)
theorem Inv.aaB{φ:Heap->Prop}(I:Inv X pins σ H s)(n:H a=none)(e0:X.bx.heap.get? a=none)(nL:a≠X.env.locals)(nc:∀x c,X.env.cells.lookup x=some c->c≠a)(np:∀p∈X.pn++pins,p.1≠a)(h:φ s.heap)(th:∃o,s.heap.get? a=some o)
  (st:∀h1 h2:Heap,φ h1->(∀o,h1.get? a=some o->h2.get? a=some o)->φ h2):Inv X pins σ (upd H a (.ext φ)) s:=by
 have ne:∀b v,H b=some v->b≠a:=λb v q z=>by rw[z,n] at q;cases q
 have up:∀b v,H b=some v->upd H a (.ext φ) b=some v:=λb v q=>by rw[az (ne b v q)];exact q
 have un:∀b,b≠a->H b=none->upd H a (.ext φ) b=none:=λb z q=>by rw[az z];exact q
 refine⟨I.ok,I.os,I.bare,⟨I.base.keep,I.base.slot,λb o q n' hx=>un b (λz=>by rw[z,e0] at q;cases q) (I.base.free b o q n' hx),I.base.there,λb xs q=>up b _ (I.base.ig b xs q),λb o u q=>up b _ (I.base.gO b o u q),λb ps q=>let ⟨m,z⟩:=I.base.ir b ps q;⟨m,up b _ z⟩⟩,
  I.loc,I.cell,un _ (Ne.symm nL) I.free,λx c q=>un c (nc x c q) (I.gu x c q),λp hp=>let ⟨q1,q2,q3⟩:=I.pin p hp;⟨q1,un _ (np p hp) q2,q3⟩,λb v q=>?_,I.len⟩
 by_cases z:b=a
 ·subst z;rw[aB] at q;cases q;exact⟨h,th,st⟩
 ·rw[az z] at q;exact(I.aD b v q).fE (λ_ _ _ e=>e) (λd e=>up d _ e) λd xs e=>up d _ e
end
noncomputable def XP(P:Program)(w:World)(base:Heap)(X:Cx)(pins:List (Addr×Obj))(σ:St)(E:XK)(e:Value)(s':Shared):Prop:=∃H1 s1,Inv X pins σ H1 s1/\jk P w base X.stack H1 s1 E e s'
noncomputable def MX(X:Cx)(E:XK)(e:Expr)(t:TE):Prop :=
 ∀(pins:List (Addr×Obj)) (s:Shared) (σ:St) (H:Hp) (Q:VK),Inv X pins σ H s->t σ H Q->wpAny (model X.prog X.w) X.A (eval e X.env) (EP X pins σ Q) (XP X.prog X.w X.base X pins σ E) s
section
variable{X:Cx}{k:Nat}{f C:Addr}{fd:FuncData}{ps:List Str}{sp:Sp}{cC:List V}{ds:List Value}{E:XK}{x m:Str}{p pos apos:Pos}{e o:Expr}{es:List Expr}{ta:TE}{t:TA}
theorem aaC{pins:List (Addr×Obj)}{σ:St}{H:Hp}{s:Shared}{Q:VK}{us:List Value}{vs:List V}(F:aO X.prog X.w X.K X.mg X.base (jk X.prog X.w X.base) k f fd ps sp)(hr:bN k X.A)(hb:Binds X.K fd ps ds)(hd:Vals cC ds)
  (I:Inv X pins σ H s) (r:Vals vs us) (h:sp (vs++cC) H Q E):wpAny (model X.prog X.w) X.A (call (.ref f) us) (EP X pins σ Q) (XP X.prog X.w X.base X pins σ E) s:=by
 have r2:Vals (vs++cC) (us++ds):=r.append hd;refine wpAny_call (codeAny_mono (F.run X.A X.stack s H ⟨us,[]⟩ (us++ds) (vs++cC) Q E hr I.vR (hb s us I.bX (r2.length.symm.trans (F.len _ _ _ _ h))) r2 h) λr s' hq=>?_)
 match r,hq with
 | .error e,hq=>exact⟨H,s,I,hq⟩
 | .ok (.ret u),hq=>exact I.after hq
 | .ok .next,hq=>exact False.elim hq
 | .ok .brk,hq=>exact False.elim hq
 | .ok .cont,hq=>exact False.elim hq
theorem aaD(F:aO X.prog X.w X.K X.mg X.base (jk X.prog X.w X.base) k f fd ps sp)(hr:bN k X.A)(hg:Gl X x)(hm:X.mg x=some (.ref f))(hk:PySem.W.keepIn X.K (.ref f)=true)(hb:Binds X.K fd ps ds)(hd:Vals cC ds)
  (ha:PA X.k6 (e::es) t) (gb:(x == ("__debug__" : Str))=false:=by decide) (he:starEach (e::es) X.env=(false,eval e X.env)::starEach es X.env:=by rfl) (dZ:(backTo pos (starEach es X.env)).any (·.1)=false:=by rfl) :
  MX X E (.Call (.Name x p) (e::es) [] pos) (C6 sp cC E t):=by
 intro pins s σ H Q I h;refine wpAny_Call_Name_kw (lP I hg hm ?_ gb);refine PySem.W.callWith_K (h₀:=X.base) I.ok.mod.i7 hk (wpAny_mono (ha pos pins s σ H _ (I.i_ _) h) (λus s1 ⟨vs,H1,I1,r,q⟩=>⟨I1.bX,?_⟩) λ_ _ z=>False.elim z) he dZ;exact aaC F hr hb hd I1.k7 r q
end
theorem aaE{X:Cx}{P:Program}{w:World}{base:Heap}:Passes (jk P w base) X E0:=λ_ _ _ _ _ _ _ h=>by
 obtain⟨_,_,_,_,_,_,_,_,_,_,_,_,_,_,_,_,z⟩:=h;exact z.elim
theorem aaF{P:Program}{w:World}{K:PySem.W.Frag}{mg:Str->Option Value}{base:Heap}{N:List Str}{qual:Str}{scope:Scope}{f:Addr}{cd:Value}{A:Around}{outer:List Env}{bx:Shared}{cY:Hp}{E:XK} :
  Makes (gz (jk P w base) P w K mg base N qual scope f cd A outer bx cY E) E:=λ_ _ _ _ _ _ _ _ I mx hE=>aau I mx hE
theorem aF.okX{P:Program}{w:World}{K:PySem.W.Frag}{mg:Str->Option Value}{base:Heap}{x qual:Str}{st:Stmt}{f:Addr}{fd:FuncData}{N ps:List Str}{k:Nat}{sp:Sp}(F:aF K x qual st f fd)(S:aW N ps (aJ st))(len:∀vs H Q E,sp vs H Q E->vs.length=ps.length)
  (jD:∀(aH:Value) (A:Around) (outer:List Env) (s:Shared) (H:Hp) (vs:List V) (Q:VK) (E:XK),bN k (A.deeper (envOfC qual (aJ st) s.heap.objs.size f aH))->sp vs H Q E->
   ∃t,eZ (gz (jk P w base) P w K mg base N qual (aJ st) f aH A outer s H E) (dg st) t/\t { nx:=λ_ H'=>Q .aI H',rt:=Q } (start N vs) H):aO P w K mg base (jk P w base) (k+1) f fd ps sp:=by
 obtain⟨oc,od,kV,doc,pm,an,aH,ct,gc,rfl,lk,cV⟩:=F.ex;exact vU lk cV S len λA outer s H vs Q E hr eO=>jD aH A outer s H vs Q E hr eO
noncomputable def MY(X:Cx)(E:XK)(st:Stmt)(t:TS):Prop :=
 ∀(pins:List (Addr×Obj)) (s:Shared) (σ:St) (H:Hp) (D:Ends),Inv X pins σ H s->t D σ H->wpAny (model X.prog X.w) X.A (exec st X.env) (SP X pins D) (XP X.prog X.w X.base X pins σ E) s
section
variable{X:Cx}{E:XK}{e:Expr}{te:TE}{pos:Pos}
theorem aaG(he:MX X E e te)(hs:swapsWith e none pos.line X.env=pure false:=by rfl):MY X E (.Expr e pos) (K5 te):=by
 intro pins s σ H D I h;exact wpAny_Expr_any (aK (he pins s σ H _ I h) λv s1 ⟨x,H1,I1,r1,q1⟩=>⟨σ,H1,I1,q1⟩) I.quiet hs
end
structure Fl(X:Cx)(pins:List (Addr×Obj))(σ:St)(a C:Addr)(a0:Value)(H1:Hp)(s1:Shared)(H':Hp)(B:Heap)(od:Option Addr)(s':Shared):Prop where
 I:Inv X pins σ H1 s1
 ho:s'.os=s1.os
 hg:AllBare s'.gens
 u:Un (cg X.stack) [] H1 H' s1.heap s'.heap
 aD:b_ X.prog X.w H' s'.heap
 na:H' a=none
 nh:s1.heap.get? a=none
 c:Cut X.base B X.stack H1 H' s1.heap
 fM:Heap.FlyingW B X.stack a (.ref C) a0 s'.heap
 hd:gY s'.heap a od
section
variable{X:Cx}{pins:List (Addr×Obj)}{σ:St}{a C:Addr}{a0:Value}{H1 H':Hp}{s1 s':Shared}{B h':Heap}{od:Option Addr}
theorem Fl.move(x:Fl X pins σ a C a0 H1 s1 H' B od s')(fM:Heap.FlyingW B X.stack a (.ref C) a0 h')(up:s'.heap.UpToSlots h')(hd:gY h' a od):Fl X pins σ a C a0 H1 s1 H' B od { s' with heap:=h' } :=
 ⟨x.I,x.ho,x.hg,aaz x.u x.c fM.1 up x.I.ff,aaA x.aD x.c x.fM.1 fM.1,x.na,x.nh,x.c,fM,hd⟩
theorem Fl.inv(x:Fl X pins σ a C a0 H1 s1 H' B od s'):Inv X pins σ H' s':=x.I.vv x.ho x.u x.aD x.hg (λ_ z=>nomatch z)
theorem Fl.tracked(x:Fl X pins σ a C a0 H1 s1 H' B od s')(hex:X.ex = []):Inv X pins σ (upd H' a (qh a C od)) s':=by
 have no:∀b o,s1.heap.get? b=some o->b≠a:=λb o q z=>by rw[z,x.nh] at q;cases q
 obtain⟨m,⟨oL,_,_,CI,_⟩,_⟩:=x.I.loc;have f1:X.bx.heap.get? a=none:=by
  cases q:X.bx.heap.get? a with
  | none=>rfl
  | some o =>
   obtain⟨o1,q1⟩:=x.I.base.there a o q (by rw[hex];simp)
   rw[x.nh] at q1;cases q1
 have f2:∀y c,X.env.cells.lookup y=some c->c≠a:=λy c e=>by
  obtain⟨v,o,q,_⟩:=x.I.cell y c e;exact no _ _ q
 have tr:=λφ=>x.inv.aaB (φ:=φ) x.na f1 (Ne.symm (no _ _ CI)) f2 (λp hp=>no _ _ (x.I.pin p hp).1);have th:∃o,s'.heap.get? a=some o:=let ⟨o,q,_⟩:=x.fM.there;⟨o,q⟩
 cases od with
 | none =>
  refine tr _ ?_ th λh1 h2 ⟨o,q,z⟩ k=>⟨o,k o q,z⟩;obtain⟨o,vs,q,z,y,_⟩:=x.fM.first;obtain⟨o',q',z',c'⟩:=x.hd;rw[q] at q';cases q';refine⟨o,q,z,vs,y,?_⟩;have:=c' rfl;unfold _L.f2 at this;rw[y] at this;exact this
 | some d =>
  refine tr _ ?_ th λh1 h2 ⟨o,q,z⟩ k=>⟨o,k o q,z⟩;obtain⟨o,vs,q,z,y,_⟩:=x.fM.first;obtain⟨o',q',z',c'⟩:=x.hd;rw[q] at q';cases q';refine⟨o,q,z,z',vs,y,λhk=>?_⟩
  have:=c' hk;unfold _L.f2 at this;rw[y] at this;exact this
end
section
variable{X:Cx}{pins:List (Addr×Obj)}{σ:St}{H:Hp}{s:Shared}
theorem wR{M:Model}{A:Around}{E:Value->Shared->Prop}{i:Nat}{n:Str}{pos:Pos}{Q:Unit->Shared->Prop}(I:Inv X pins σ H s)(hN:X.N.Nodup)(hi:X.N[i]? = some n)(hk:X.env.kindOf n=some .local)
  (h:∀s',Inv X pins (σ.set i none) H s'->Q () s'):wpAny M A (do bindName X.env n .none;unbindBehindTheSuite X.env n pos) Q E s:=by
 obtain⟨m,hn,hl⟩:=id I.loc;have rE:(X.env.scope.kind == .class || (X.env.scope.kind == .module && X.env.locals != X.env.globals))=false:=by rw[I.ok.kind];rfl
 have jC:=I.jC;refine wpAny_nameGoes_keeps hk hn rE λh' v rF hs=>?_;have old:∀b o,X.bx.heap.get? b=some o->h'.get? b=s.heap.get? b:=λb o e=>hs.2 b (Nat.ne_of_lt (Nat.lt_of_lt_of_le (Heap.lt_size e) I.ok.above));refine h _ ⟨I.ok,I.os,I.bare,⟨λb o e n hb hx=>?_,λb o e n hb hx=>?_,I.base.free,λb o e hx=>?_,I.base.ig,I.base.gO,I.base.ir⟩,⟨_,rF,λj y v' e1 e2 e3=>?_⟩,λy c e=>?_,I.free,I.gu,λp hp=>?_,λb ob e=>?_,by simpa using I.len⟩
 ·exact(old b o e).trans (I.base.keep b o e n hb hx)
 ·obtain⟨sl,e1⟩:=I.base.slot b o e n hb hx;exact⟨sl,(old b o e).trans e1⟩
 ·obtain⟨o',e1⟩:=I.base.there b o e hx;exact⟨o',(old b o e).trans e1⟩
 ·by_cases hj:j=i
  ·subst hj;rw[List.getElem?_set] at e2;simp only[if_true] at e2;split at e2 <;> cases e2
  ·rw[List.getElem?_set_ne (Ne.symm hj)] at e2;obtain⟨u',r',q⟩:=hl j y v' e1 e2 e3;refine⟨u',r',?_⟩;rcases q with⟨k,e⟩ | ⟨k,c,e,z⟩
   ·refine .inl ⟨k,?_⟩;have:y≠n:=λe=>hj (CH hN e1 (e▸hi));simp[this,e]
   ·exact .inr ⟨k,c,e,z.sameBut hs (jC y c e)⟩
 ·obtain⟨w',z⟩:=I.cell y c e;exact⟨w',z.sameBut hs (jC y c e)⟩
 ·obtain⟨e,n,ne,nf,d⟩:=I.pin p hp;exact⟨(hs.2 p.1 ne).trans e,n,ne,nf,d⟩
 ·refine(I.aD b ob e).fE (λc w' hc q=>(hs.2 c ?_).trans q) (λ_ q=>q) λ_ _ q=>q;rintro rfl;rcases hc with z | hc
  ·rw[← z,I.free] at e;cases e
  ·rw[I.free] at hc;cases hc
end
noncomputable def mroIn(K:PySem.W.Frag)(C:Addr):List Value:=match K.lookup C with
 | some ⟨_,_,.cls cd,_⟩=>cd.mro
 | _=>[]
noncomputable def subIn(K:PySem.W.Frag)(C:Addr)(c:Value):Bool:=(mroIn K C).contains c
theorem kJ{K:PySem.W.Frag}{C:Addr}{c:Value}{b:Bool}(h:PySem.W.mroIn K C c=some b):subIn K C c=b:=by
 unfold PySem.W.mroIn PySem.W.clsIn at h;unfold subIn mroIn;cases e:K.lookup C with
 | none=>rw[e] at h;cases h
 | some o =>
  rw[e] at h;obtain⟨c0,d0,dt,sl⟩:=o;cases dt <;> first | (cases h;done) | skip
  simp only[Option.bind_some] at h;split at h
  ·cases h
  ·exact Option.some.inj h
theorem aaH{K:PySem.W.Frag}{C:Addr}{c:Value}{b:Bool}(h:PySem.W.mroIn K C c=some b):(PySem.W.clsIn K C).isSome=true:=by
 unfold PySem.W.mroIn at h;cases e:PySem.W.clsIn K C with
 | none=>rw[e] at h;cases h
 | some cd=>rfl
noncomputable def wU(K:PySem.W.Frag)(C:Addr)(mq:List Value)(newId:String):Bool:=match K.lookup C with
 | some ⟨.type "type",_,.cls cd,sl⟩=>(match cd.mro,sl.toList with
  | .ref C'::bm,[_,_,_,_,some (.builtin n),_]=>C' == C && n == newId && !cd.hasDel && PySem.W.tailIn K mq bm && PySem.W.nsOkIn K cd.ns
  | _,_=>false)
 | _=>false
theorem aaI{K:PySem.W.Frag}{C:Addr}{mq:List Value}{newId:String}(q:PySem.W.excIn K C mq newId=true):wU K C mq newId=true:=by
 unfold PySem.W.excIn at q;unfold wU;cases e:K.lookup C with
 | none=>rw[e] at q;cases q
 | some o =>
  rw[e] at q;split at q
  ·rename_i dd cd sl ho;cases ho;split at q
   ·rename_i C' bm k0 k1 k2 k3 n k5 hm hs;simp only[Bool.and_eq_true] at q;simp only[hm,hs,Bool.and_eq_true];exact q.1
   ·cases q
  ·cases q
structure eu(K:PySem.W.Frag)(C:Addr):Prop where
 ex:∃bm id,wU K C bm id=true/\bm.contains (.type "BaseException")=true
theorem eu.of{K:PySem.W.Frag}{C:Addr}{bm:List Value}{id:String}(q:PySem.W.excIn K C bm id=true)(h:bm.contains (.type "BaseException")=true):eu K C:=⟨bm,id,aaI q,h⟩
theorem MZ{K:PySem.W.Frag}{h₀:Heap}{C:Addr}(X:K.In h₀)(x:eu K C) :
  ∃bm N nm q bs hdct sn sub ab col dd k0 k1 k2 k3 k5 newId,h₀.get? C=some (excClassObj nm q C N bs bm hdct sn sub ab col dd k0 k1 k2 k3 k5 newId)/\mroIn K C = .ref C::bm/\bm.contains (.type "BaseException")=true:=by
 obtain⟨mq,newId,q,hb⟩:=x.ex;unfold wU at q;unfold mroIn;cases e:K.lookup C with
 | none=>rw[e] at q;cases q
 | some o =>
  rw[e] at q;split at q
  ·rename_i dd cd sl ho;cases ho;split at q
   ·rename_i C' bm k0 k1 k2 k3 n k5 hm hs;simp only[Bool.and_eq_true,beq_iff_eq,Bool.not_eq_true'] at q;obtain⟨⟨⟨⟨c1,c2⟩,c3⟩,c4⟩,c5⟩:=q;obtain⟨nm,bs,mro,ns,qn,hd,sn,sub,ab,col,del⟩:=cd;obtain⟨l⟩:=sl;dsimp only at hm hs c3 c5;subst c1 c2 hm c3 hs;exact⟨bm,ns,nm,qn,bs,hd,sn,sub,ab,col,dd,k0,k1,k2,k3,k5,n,X _ _ e,rfl,(PySem.W.tail_of_in X c4).hasType hb⟩
   ·cases q
  ·cases q
theorem aaJ{M:Model}{A:Around}{E:Value->Shared->Prop}{K:PySem.W.Frag}{s:Shared}{e C C2:Addr}{oe:Obj}{Q:Bool->Shared->Prop}(X:K.In s.heap)(x:eu K C)(y:eu K C2)(he:s.heap.get? e=some oe)(rE:oe.cls = .ref C)
  (hq:Q (subIn K C (.ref C2)) s):wpAny M A (excMatches (.ref e) (.ref C2)) Q E s:=by
 obtain⟨bm,N,nm,q,bs,hdct,sn,sub,ab,col,dd,k0,k1,k2,k3,k5,newId,hC,hm,_⟩:=MZ X x;obtain⟨bm2,N2,nm2,q2,bs2,ajI,sn2,wV,ab2,ajJ,vV,k02,k12,k22,k32,k52,ajK,M0,wW,iT⟩:=MZ X y;have hcB:(Value.ref C2::bm2).contains (.type "BaseException")=true:=by rw[List.contains_cons,iT,Bool.or_true]
 unfold subIn at hq;rw[hm] at hq;have f:=tc_notTuple;obtain⟨h,g,d,t,os⟩:=s;unfold excMatches
 repeat (first | (with_reducible refine wpAny_loadPart_at he ?_;rw[rE]) | with_reducible refine wpAny_loadPart_at M0 ?_ | (with_reducible refine wpAny_isSubtype_exc M0 ?_;rw[hcB]) | (with_reducible refine wpAny_isSubtype_exc hC ?_) | wp_step)
 all_goals first | exact hq | (cases hh:(Value.ref C::bm).contains (.ref C2) <;> (rw[hh] at hq;wp_walk;exact hq))
noncomputable abbrev TH:=Option Addr->Addr->Addr->Ends->St->Hp->Prop
noncomputable def PH(X:Cx)(hs:List ExceptHandler)(t:TH):Prop :=
 ∀(pins:List (Addr×Obj)) (σ:St) (a C:Addr) (a0:Value) (H1:Hp) (s1:Shared) (H':Hp) (B:Heap) (od:Option Addr) (s':Shared) (D:Ends) (E:Value->Shared->Prop),Fl X pins σ a C a0 H1 s1 H' B od s'->eu X.K C->t od C a D σ H'->
  wpAny (model X.prog X.w) X.A (handleBy (.ref a) X.env hs) (SP X pins D) E s'
theorem aaK{X:Cx}:PH X [] (λ_ _ _ _ _ _=>False):=λ_ _ _ _ _ _ _ _ _ _ _ _ _ _ _ h=>h.elim
noncomputable def M3(i:Nat)(D:Ends):Ends:={ nx:=λσ H=>D.nx (σ.set i none) H,rt:=D.rt,bk:=λσ H=>D.bk (σ.set i none) H,ct:=λσ H=>D.ct (σ.set i none) H }
noncomputable def tAs(K:PySem.W.Frag)(C2:Addr)(i:Nat)(ts:Addr->TS)(t:TH):TH:=λod C a D σ H =>
 (subIn K C (.ref C2)=true/\ts a (M3 i D) (σ.set i (some (.ref a))) (upd H a (qh a C od)))\/(subIn K C (.ref C2)=false/\t od C a D σ H)
theorem aaL{X:Cx}{x n:Str}{np aaM:Pos}{M4:Stmt}{M5:List Stmt}{rest:List ExceptHandler}{C2:Addr}{i:Nat}{ts:Addr->TS}{t:TH}(hg:Gl X x)(hm:X.mg x=some (.ref C2))(y:eu X.K C2)(hN:X.N.Nodup)(hi:X.N[i]? = some n)
  (hk:X.env.kindOf n=some .local) (hex:X.ex = []) (hs:∀a,eZ (X.within (.ref a)) (M4::M5) (ts a)) (hr:PH X rest t) (gb:(x == ("__debug__" : Str))=false:=by decide) :
  PH X (.ExceptHandler (some (.Name x np)) (some n) (M4::M5) aaM::rest) (tAs X.K C2 i ts t):=by
 intro pins σ a C a0 H1 s1 H' B od s' D E F xc h;obtain⟨ob,jR,aaN⟩:=F.fM.there;refine wpAny_handleBy_cons (codeAny_handlers_test (lP (X:=X.within (.ref a)) (F.inv.within (.ref a)) hg hm (aaJ F.inv.bX xc y jR aaN ?_) gb)) (by intro q;cases q)
 rcases h with⟨hb,h⟩ | ⟨hb,h⟩
 ·rw[hb];refine codeAny_handlers_suite_as (aar F.fM F.hd λh6 fl6 up6 hd6=>?_);have F6:=F.move fl6 up6 hd6;refine CM (X:=X.within (.ref a)) (i:=i) (v:=V.ref a) ((F6.tracked hex).within (.ref a)) hN hi (.inl hk) rfl (λs2 I2=>?_) (.inr hk);refine wpAny_mono (hs a pins s2 _ _ (M3 i D) I2 h) (λf s3 q=>?_) λ_ _ z=>False.elim z;cases f with
  | next=>obtain⟨aQ,H2,J,q⟩:=q;exact wR (J.out F.I.ok) hN hi hk λs4 J4=>⟨_,_,J4,q⟩
  | brk=>obtain⟨aQ,H2,J,q⟩:=q;exact wR (J.out F.I.ok) hN hi hk λs4 J4=>⟨_,_,J4,q⟩
  | cont=>obtain⟨aQ,H2,J,q⟩:=q;exact wR (J.out F.I.ok) hN hi hk λs4 J4=>⟨_,_,J4,q⟩
  | ret u=>obtain⟨v,aQ,H2,J,r,q⟩:=q;exact wR (J.out F.I.ok) hN hi hk λs4 J4=>⟨v,_,_,J4,r,q⟩
 ·rw[hb];exact hr pins σ a C a0 H1 s1 H' B od s' D E F xc h
theorem ajL{X:Cx}{e:Value}:(X.within e).K=X.K:=rfl
noncomputable def aaO(K:PySem.W.Frag)(th:TH)(D:Ends)(σ:St):XK:=λcls od H'=>∃C,cls = .ref C/\eu K C/\∀a,H' a=none->th od C a D σ H'
noncomputable def aaP(K:PySem.W.Frag)(tb:XK->TS)(th:TH):TS:=λD σ H=>tb (aaO K th D σ) D σ H
theorem aaQ{X:Cx}{st:Stmt}{h₀:ExceptHandler}{hs:List ExceptHandler}{pos:Pos}{tb:XK->TS}{th:TH}(fF:X.stack=X.env::X.outer)(hf:X.env.frame=some X.env.locals)(hb:∀E,MY X E st (tb E))(hh:PH X (h₀::hs) th) :
  PS X (.Try [st] (h₀::hs) [] [] pos) (aaP X.K tb th):=by
 intro pins s σ H D I h;refine wpAny_Try_except (wpAny_execs_cons (wpAny_mono (hb _ pins s σ H D I h) (λf s1 q=>?_) λe s' z=>?_))
 ·cases f with
  | next=>exact wpAny_execs_nil (wpAny_execs_nil q)
  | ret v=>exact q
  | brk=>exact q
  | cont=>exact q
 ·obtain⟨H1,s1,I1,a,C,a0,H',B,od,rfl,ho,hg,u,aD,na,nh,c,fM,hd,C',eC,xc,hE⟩:=z;cases eC;have F:Fl X pins σ a C a0 H1 s1 H' B od s':=⟨I1,ho,hg,u,aD,na,nh,c,fM,hd⟩;have M6:=fM;rw[fF] at M6;refine aap (by rw[I1.ok.frames,fF]) hf M6 hd λh4 held up4 hd4=>?_
  refine aaq held hd4 λh5 M7 up5 hd5=>?_;rw[← fF] at M7;exact hh pins σ a C a0 H1 s1 H' B _ _ D _ (F.move M7 (up4.trans up5) hd5) xc (hE a na)
end _L
namespace _L
open PySem PySem.Spec PyProof.Rows PySem.W PySem.Builtin.ObjectAttr PySem.Builtin.Getset_descriptor
section
variable{prog:Program}{w:World}{A:Around}{E:Value->Shared->Prop}{s:Shared}{K:Frag}{x D:Addr}{ox:Obj}{name:Str}
structure lA(K:Frag)(D:Addr):Prop where
 ga:findIn K (.ref D) "__getattribute__" = some (some (.builtin "BaseException.__getattribute__"))
 gt:findIn K (.ref D) "__getattr__" = some none
 mro:PySem.W.mroIn K D (.type "BaseException")=some true
 obj:PySem.W.mroIn K D (.type "object")=some true
 cl:findIn K (.ref D) "__class__" = some (some (.builtin "object.__class__"))
 sp:specialIn K (.builtin "object.__class__") "__get__" = some (some (.builtin "getset_descriptor.__get__"))
 tk:takesIn K (.builtin "object.__class__")=some true
theorem M8{M:Model}{h:Heap}(hx:h.get? x=some ox)(hc:ox.cls = .ref D):Looks M h (typeOf (.ref x)) (.ref D):=hc▸(Looks.ld hx).andThen .now
theorem aaR{M:Model}{h:Heap}{a g:Value}(X:K.In h)(ha:findIn K (.ref D) name=some (some a))(hg:specialIn K a "__get__" = some (some g))(ht:takesIn K a=some true):Looks M h (find (.ref x) (.ref D) name) (.bind g a):=by
 have L1:=looks_findIn (M:=M) X ha;have _L:Looks M h (getOf (some a)) (some g):=looks_specialIn X hg;have L3:=looks_takesIn (M:=M) X ht;refine L1.andThen (_L.andThen ?_);refine Looks.andThen (a:=some (g,a)) ?_ (Looks.tag .now);unfold dataDescriptor?;refine L3.andThen ?_;exact .now
theorem aaS{g a:Value}{tk:Tok}{Q:Value->Shared->Prop}(T:Looks (model prog w) s.heap (typeOf (.ref x)) (.ref D))(L1:Looks (model prog w) s.heap (find (.ref x) (.ref D) name) (.bind g a))(h:wpAny (model prog w) A (call g [a,.ref x,.ref D]) Q E s) :
  wpAny (model prog w) A (Builtin.«object.__getattribute__» ⟨[.ref x,.str name tk],[]⟩) (λfin s'=>match fin with | .done (.ret v)=>Q v s' | _=>False) E s:=by
 obtain⟨hh,gg,d,t,os⟩:=s;refine wpAny_bind (wpAny_pure (wpAny_bind (wpAny_pure (wpAny_bind (T.at (wpAny_bind (L1.at ?_)))))))
 show wpAny _ _ (holding [a] (call g [a,.ref x,.ref D]) >>= ret) _ _ _;exact wpAny_bind (wpAny_holding (wpAny_mono h (λv s' z=>wpAny_pure z) λ_ _ z=>z))
theorem aaT{nameV:Value}{Q:Unit->Shared->Prop}(X:K.In s.heap)(T:Looks (model prog w) s.heap (typeOf (.ref x)) (.ref D))(G:lA K D)(hq:Q () s):wpAny (model prog w) A (checkBuiltinCall "BaseException.__getattribute__" ⟨[.ref x,nameV],[]⟩) Q E s:=by
 have hk:builtinKind "BaseException.__getattribute__" = some .slot:=by decide +kernel
 have aaU:splitId "BaseException.__getattribute__" = some ("BaseException", "__getattribute__"):=by decide +kernel
 obtain⟨hh,gg,d,t,os⟩:=s;have L1:=looks_mroIn (M:=model prog w) X G.mro;have ha:=F.args_bexc_ga (.ref x) nameV;simp only[checkBuiltinCall,hk,aaU];refine wpAny_bind ?_;unfold isInstance
 repeat (first | lk | wp_step)
 exact hq
theorem aaV{tk:Tok}{fill expr:Bool}{Q:Value->Shared->Prop}(X:K.In s.heap)(T:Looks (model prog w) s.heap (typeOf (.ref x)) (.ref D))(G:lA K D)
  (h:∀A,wpAny (model prog w) A (Builtin.«object.__getattribute__» ⟨[.ref x,.str name tk],[]⟩) (λfin s'=>match fin with | .done (.ret v)=>handedIn v=true/\Q v s' | _=>False) (λ_ _=>False) s) :
  wpAny (model prog w) A (getAttrBy (.ref x) (.str name tk) fill expr) Q E s:=by
 have f3:=F.attr_ValueError.ga.bind (.ref x);have hx0:(expr && onTheHeap (Value.builtin "BaseException.__getattribute__"))=false:=by cases expr <;> rfl
 have dN:(onTheHeap (Value.ref D) && Value.builtin "BaseException.__getattribute__" == Value.builtin "object.__getattribute__")=false:=by
  rw[show (Value.builtin "BaseException.__getattribute__" == Value.builtin "object.__getattribute__")=false from by decide +kernel];rfl
 have chk:=λ{A:Around} {E:Value->Shared->Prop} {Q:Unit->Shared->Prop}=>aaT (prog:=prog) (w:=w) (A:=A) (E:=E) (nameV:=.str name tk) (Q:=Q) X T G;obtain⟨hh,gg,d,t,os⟩:=s;have L1:=looks_findIn (M:=model prog w) X G.ga;have _L:=looks_findIn (M:=model prog w) X G.gt;unfold getAttrBy;refine wpAny_holding (wpAny_bind (T.at (wpAny_bind (L1.at ?_))));simp only[dN,Bool.false_eq_true,if_false];unfold getAttrByItsOwn hookBefore;simp only[onTheHeap,if_true];refine wpAny_bind (_L.at (wpAny_bind (wpAny_attempt (wpAny_holding ?_))));unfold callGetattribute boundAndCalled;simp only[hx0,Bool.false_eq_true,if_false,f3];refine wpAny_bind (wpAny_pure (wpAny_call (codeAny_call_builtin F.attr_ValueError.ga.plain F.entry_bexc_ga (chk (wpAny_mono (h _) (λfin s' z=>?_) λ_ _ z=>False.elim z)))));rcases fin with(_ | _ | _ | v) | _ <;> first | exact handed_on z.1 z.2 | exact z.elim
theorem aaW{R:Result->Shared->Prop}{tp:Value}(X:K.In s.heap)(L0:Looks (model prog w) s.heap (typeOf (.ref x)) (.ref D))(hm:PySem.W.mroIn K D (.type "object")=some true)
  (h:R (.ok (.ret (.ref D))) s):codeAny (model prog w) A (.call (.builtin "getset_descriptor.__get__") ⟨[.builtin "object.__class__",.ref x,tp],[]⟩) R s:=by
 obtain⟨hh,g,dr,t,os⟩:=s;have L1:=looks_mroIn (M:=model prog w) X hm;refine codeAny_call_builtin KF.slot_gs.plain KF.entry_gs (KF.slot_gs.check _ _ _ _ _ _ _ _ KF.type_class (KF.args_gs _ _ _) ?_);unfold Builtin.«getset_descriptor.__get__» descrGet;rw[dga_obj];refine wpAny_bind (wpAny_pure ?_);unfold descrGetter descrCheckInstance descrNameAndClass isInstance;simp only[KF.owner_class]
 repeat lk
 refine⟨Code.quiet_builtin _ (by decide +kernel),codeAny_builtin KF.entry_class ?_⟩
 unfold Builtin.«object.__class__» shownTypeOf
 repeat lk
 exact h
theorem aaX{Q:Option Value->Shared->Prop}(X:K.In s.heap)(T:∀s':Shared,s'.heap=s.heap->Looks (model prog w) s'.heap (typeOf (.ref x)) (.ref D))(G:lA K D)(h:Q (some (.ref D)) { s with toks:=s.toks+1 }) :
  wpAny (model prog w) A (getAttr? (.ref x) "__class__") Q E s:=by
 unfold getAttr? getAttrBy?;refine wpAny_bind (wpAny_mkText (wpAny_bind (wpAny_attempt ?_)));refine aaV (s:={ s with toks:=s.toks+1 }) X (T _ rfl) G λA=>?_
 refine wpAny_mono (aaS (s:={ s with toks:=s.toks+1 }) (Q:=λv s'=>v = .ref D/\s' = { s with toks:=s.toks+1 }) (T _ rfl) (aaR X G.cl G.sp G.tk) (wpAny_call (aaW (s:={ s with toks:=s.toks+1 }) X (T _ rfl) G.obj ⟨rfl,rfl⟩))) (λfin s' z=>?_) λ_ _ z=>z;rcases fin with(_ | _ | _ | v) | _ <;> first | exact z.elim | (obtain⟨rfl,rfl⟩:=z;exact⟨rfl,wpAny_pure h⟩)
end
theorem M9{K:Frag}{x D:Addr}(G:lA K D)(hc:(clsIn K D).isSome=true):KitX K (.ref x) (.ref D) (λh=>∃o,h.get? x=some o/\o.cls = .ref D) where
 ty:=λ_ _ _ ⟨o,h1,h2⟩=>M8 h1 h2
 it:=λ_ _ X _=>by
  obtain⟨cd,cV⟩:=Option.isSome_iff_exists.mp hc;unfold clsIn at cV;split at cV
  ·rename_i ho;intro A' Q' E' s' k q;unfold isType loadHead;exact wpAny_bind (wpAny_loadPart (k _ _ (X _ _ ho)) (wpAny_pure q))
  ·cases cV
 ne:=λh tp dd aq n sl X htp=>by
  obtain⟨cd,cV⟩:=Option.isSome_iff_exists.mp hc;refine Bool.eq_false_iff.mpr λq=>?_
  have e:D=tp:=Value.ref.inj (beq_iff_eq.mp q);subst e;unfold clsIn at cV;split at cV
  ·rename_i ho;have z:=(X _ _ ho).symm.trans htp;cases z
  ·cases cV
 ca:=λ{_ _ _ _ _ s} X ⟨o,h1,h2⟩ k=>aaX X (λs' e=>by rw[e];exact M8 h1 h2) G k
section
variable{X:Cx}
theorem M_{pins:List (Addr×Obj)}{σ:St}{H:Hp}{s:Shared}{a C:Addr}{od:Option Addr}(I:Inv X pins σ H s)(e:H a=some (qh a C od)):∃o,s.heap.get? a=some o/\o.cls = .ref C:=by
 cases od with
 | none =>
  obtain⟨⟨o,h1,h2,_⟩,_,_⟩:=(show cL X.prog X.w H s.heap a (sM a C) from I.aD a _ e);exact⟨o,h1,h2⟩
 | some d =>
  obtain⟨⟨o,h1,h2,_⟩,_,_⟩:=(show cL X.prog X.w H s.heap a (qh a C (some d)) from I.aD a _ e);exact⟨o,h1,h2⟩
theorem aaY:fG X (.builtin "isinstance") (λxs H Q=>∃a C c v b,xs = [.ref a,v]/\((∃C2,v = .ref C2/\c = .ref C2)\/(∃T,v = .ty T/\c = .type T))/\(∃od,H a=some (qh a C od))/\lA X.K C/\(clsIn X.K C).isSome=true/\kitOne X.K (.ref C) c=some b/\Q (.bl b) H):=by
 intro pins s σ H xs us Q I r h;obtain⟨a,C,c,v,b,rfl,hv,⟨od,ea⟩,G,hc,e,q⟩:=h;obtain⟨u,v',rfl,ru,rv⟩:=vals2 r;cases (show u=Value.ref a from ru);have ev:v' = c:=by
  rcases hv with⟨C2,rfl,rfl⟩ | ⟨T,rfl,rfl⟩
  ·exact rv
  ·exact rv
 subst ev;exact kia_one (M9 G hc) I.bX (M_ I ea) e (λz=>nomatch z) λtk=>⟨.bl b,H,I.tok _,rfl,q⟩
theorem Na:fG X (.builtin "isinstance") (λxs H Q=>∃a C c v b,xs = [.ref a,v]/\((∃C2,v = .ref C2/\c = .ref C2)\/(∃T,v = .ty T/\c = .type T))/\H a=some (sM a C)/\lA X.K C/\(clsIn X.K C).isSome=true/\kitOne X.K (.ref C) c=some b/\Q (.bl b) H) :=
 λpins s σ H xs us Q I r ⟨a,C,c,v,b,e1,hv,ea,h⟩=>aaY pins s σ H xs us Q I r ⟨a,C,c,v,b,e1,hv,⟨none,ea⟩,h⟩
end
end _L
namespace _L
open PySem PySem.Spec PyProof.Rows PySem.W
section
variable(key:Nat->Int)
noncomputable def kk(p:Array Nat)(i:Nat):Int:=key (p.getD i 0)
variable{key}{p:Array Nat}
end
section
variable{prog:Program}{w:World}{A:Around}{E:Value->Shared->Prop}{s:Shared}
end
section
variable{n:Nat}{p q:Array Nat}
end
end _L
namespace _L
open PySem PySem.Spec PyProof.Rows
theorem Eh{a b:String}(h:a≠b):(a:Str)≠(b:Str):=λe=>h (by rw[DS] at e;exact e)
theorem aaZ{X:Cx}{st:Stmt}{h₀:ExceptHandler}{hs:List ExceptHandler}{pos:Pos}{t:TS}(hx:X.xe=λ_ _=>False)(hb:PS X st t):PS X (.Try [st] (h₀::hs) [] [] pos) t:=by
 intro pins s σ H D I h;refine wpAny_Try_except (wpAny_execs_cons (wpAny_mono (hb pins s σ H D I h) (λf s1 q=>?_) λe s' z=>?_))
 ·cases f with
  | next=>exact wpAny_execs_nil (wpAny_execs_nil q)
  | ret v=>exact q
  | brk=>exact q
  | cont=>exact q
 ·rw[hx] at z;exact False.elim z
theorem gm{X:Cx}{K:PySem.W.Frag}{e:Expr}{f:Str}{pos:Pos}{ta:TE}(h:X.K=K)(he:PE X e ta)(hb:attributeBase e f X.env (eval e X.env)=eval e X.env):PE X (.Attribute e f pos) (Lq K ta f):=h▸bw he hb
structure c7(K:PySem.W.Frag)(C:Addr)(H:Hp)(l:Addr)(ps:List Addr)(qs:List Ak):Prop where
 l:H l=some (.lst (ps.map V.ref))
 n:ps.length=qs.length
 t:∀(i:Nat) (p:Addr) (q:Ak),ps[i]? = some p->qs[i]? = some q->∃m b dx,dI K C H p q m b dx
section
variable{K:PySem.W.Frag}{C:Addr}{H H':Hp}{l:Addr}{ps:List Addr}{qs:List Ak}
theorem c7.same(h:c7 K C H l ps qs)(s:ah H H'):c7 K C H' l ps qs:=⟨s _ _ h.l,h.n,λi p q e1 e2=>let ⟨m,b,dx,z⟩:=h.t i p q e1 e2;⟨m,b,dx,z.same s⟩⟩
theorem c7.at(h:c7 K C H l ps qs){i:Nat}{q:Ak}(e:qs[i]? = some q):∃p m b dx,(ps.map V.ref)[i]? = some (.ref p)/\dI K C H p q m b dx:=by
 have hi:i<ps.length:=by rw[h.n];exact(List.getElem?_eq_some_iff.mp e).1
 obtain⟨m,b,dx,z⟩:=h.t i ps[i] q (List.getElem?_eq_getElem hi) e;exact⟨ps[i],m,b,dx,by rw[List.getElem?_map,List.getElem?_eq_getElem hi];rfl,z⟩
theorem Zt.aa0{H:Hp}{l p:Addr}{ts:List Addr}{z:List (List Int)}(h:Zt H l ts z){r:List Int}(hp:H p=some (.tup (r.map V.int))):Zt (upd H l (.lst (ts.map V.ref++[V.ref p]))) l (ts++[p]) (z++[r]):=by
 have ne:∀ {t:Addr} {xs:List V},H t=some (.tup xs)->t≠l:=λe q=>by rw[q,h.l] at e;cases e
 refine⟨by rw[aB,List.map_append];rfl,by simp[h.n],λi t x e1 e2=>?_⟩
 by_cases hi:i<ts.length
 ·rw[List.getElem?_append_left hi] at e1;rw[List.getElem?_append_left (by rw[← h.n];exact hi)] at e2
  have:=h.t i t x e1 e2;rw[az (ne this)];exact this
 ·rw[List.getElem?_append_right (by lia)] at e1
  rw[List.getElem?_append_right (by rw[← h.n];lia),← h.n] at e2
  have hj:i - ts.length=0:=by
   have:=(List.getElem?_eq_some_iff.mp e1).1;simp at this;lia
  rw[hj] at e1 e2;cases e1;cases e2;rw[az (ne hp)];exact hp
structure wX(T:Int)(q:Ak):Prop where
 f0:0<=q.first
 m0:0<=q.many
 m1:q.many<=16
 fit:q.first+q.many<=T
noncomputable def aa1(K:PySem.W.Frag)(CA:Addr):Sp:=λvs H Q _=>∃(la:Addr) (ps:List Addr) (qs:List Ak) (k:Nat) (q:Ak),vs = [.ref la,.int (k:Int)]/\c7 K CA H la ps qs/\qs[k]? = some q/\(∀q0,0<k->qs[k - 1]? = some q0->q0.at_<=q.at_)/\Q .aI H
noncomputable def aa2(K:PySem.W.Frag)(CA:Addr):Sp:=λvs H Q _=>∃(la:Addr) (ps:List Addr) (qs:List Ak) (k:Nat) (q:Ak),vs = [.ref la,.int (k:Int)]/\c7 K CA H la ps qs/\qs[k]? = some q/\q.behind.length<=1000/\(∀n∈q.behind,∃(j:Nat) (q0:Ak),n=(j:Int)/\j<k/\qs[j]? = some q0/\q0.kind≠"rest")/\Q .aI H
noncomputable def wY(qs:List Ak)(k:Nat):List Int:=((List.range k).filter λ(j:Nat)=>match qs[k]?,qs[j]? with
 | some q,some q0=>decide ((j:Int)∈q.behind) || qe q q0
 | _,_=>false).map λ(j:Nat)=>(j:Int)
noncomputable def aa3(K:PySem.W.Frag)(CA:Addr):Sp:=λvs H Q _=>∃(la:Addr) (ps:List Addr) (qs:List Ak) (k:Nat) (q:Ak),vs = [.ref la,.int (k:Int)]/\c7 K CA H la ps qs/\qs[k]? = some q/\qs.length<=100/\q.behind.length<=1000/\
 ∀t H',ah H H'->H t=none->H' t=some (.tup ((wY qs k).map V.int))->Q (.ref t) H'
structure wZ(T:Int)(qs:List Ak):Prop where
 n:qs.length<=100
 fit:∀(i:Nat) (q:Ak),qs[i]? = some q->wX T q/\q.behind.length<=1000
 up:∀(i:Nat) (q q':Ak),qs[i]? = some q->qs[i+1]? = some q'->q.at_<=q'.at_
 bh:∀(k:Nat) (q:Ak),qs[k]? = some q->∀n∈q.behind,∃(j:Nat) (q0:Ak),n=(j:Int)/\j<k/\qs[j]? = some q0/\q0.kind≠"rest"
noncomputable def iB(qs:List Ak)(n:Nat):List (List Int):=(List.range n).map (wY qs)
noncomputable def aa4(K:PySem.W.Frag)(cs:List Addr)(CA:Addr):Sp:=λvs H Q _=>∃(C p la:Addr) (P:Pl) (fp ps:List Addr) (qs:List Ak),vs = [.ref p,.ref la]/\C∈cs/\bO K C H p P fp/\P.nc.length<=1000000/\c7 K CA H la ps qs/\wZ P.nc.length qs/\
 ∀l ts H',ah H H'->H l=none->(∀t∈ts,H t=none)->Zt H' l ts (iB qs qs.length)->Q (.ref l) H'
end
noncomputable abbrev Ei(qual:Str)(scope:Scope)(L f c':Addr)(cl:List (Str×Addr)):Env:=PySem.W.envX qual scope L f (.ref c') cl
noncomputable def sN(X:Cx)(A:Around)(qual:Str)(scope:Scope)(f c':Addr)(cl:List (Str×Addr))(N:List Str)(s:Shared)(H:Hp):Cx where
 prog:=X.prog
 w:=X.w
 K:=X.K
 mg:=X.mg
 base:=X.base
 A:=A.deeper (Ei qual scope s.heap.objs.size f c' cl)
 N:=N
 bx:=s
 cY:=H
 env:=Ei qual scope s.heap.objs.size f c' cl
 outer:=X.stack
 stack:=Ei qual scope s.heap.objs.size f c' cl::X.stack
 ex:=[]
 fn:=λ_=>false
 calm:=X.calm
 pn:=[]
 xe:=λ_ _=>False
structure jS(X:Cx)(scope:Scope)(cl:List (Str×Addr))(ps fs:List Str)(fv:List Nat):Prop where
 kE:closureFor scope X.env=pure cl
 kind:scope.kind = .function
 co:scope.isCoroutine=false
 gen:scope.isGenerator=false
 jN:∀y∈scope.names,y.2≠.cell
 par:∀y∈ps,scope.names.lookup y=some .local
 sub:∀p∈cl,X.env.cells.lookup p.1=some p.2
 has:∀y∈scope.names,y.2 = .free->∃c,cl.lookup y.1=some c
 free:fv.map (λj=>X.N[j]?)=fs.map some
 fk:∀y∈fs,scope.names.lookup y=some .free/\X.env.scope.names.lookup y=some .cell
 nd:(ps++fs).Nodup
theorem Nb{α:Type}:∀ {l:List (Str×α)} {x:Str} {v:α},(l.map (·.1)).Nodup->(x,v)∈l->l.lookup x=some v
 | (y,u)::r,x,v,nd,hm=>by
  rw[List.map_cons,List.nodup_cons] at nd;rcases List.mem_cons.mp hm with e | e
  ·cases e;simp[List.lookup_cons]
  ·have:x≠y:=λz=>nd.1 (by rw[← z];exact List.mem_map.mpr ⟨_,e,rfl⟩)
   rw[List.lookup_cons,beq_eq_false_iff_ne.mpr this];exact Nb nd.2 e
section
variable{X:Cx}{pins:List (Addr×Obj)}{σ:St}{H:Hp}{s:Shared}{scope:Scope}{cl:List (Str×Addr)}{ps fs:List Str}{fv:List Nat}{A:Around}{qual:Str}{f c':Addr}
noncomputable def oh(σ:St)(vs:List V)(fv:List Nat):St:=vs.map some++fv.map λj=>(σ[j]?).getD none
theorem jS.cell(S:jS X scope cl ps fs fv){x:Str}{c:Addr}(e:cl.lookup x=some c):X.env.cells.lookup x=some c:=S.sub (x,c) (l7 e)
theorem aa5{ps:List Str}{us:List Value}{i:Nat}{x:Str}{u:Value}(nd:ps.Nodup)(e1:ps[i]? = some x)(e2:us[i]? = some u):(ps.zip us).reverse.lookup x=some u:=by
 have w5:((ps.zip us).reverse.map (·.1)).Nodup:=by
  rw[List.map_reverse];refine List.pairwise_reverse.mpr (List.Pairwise.imp Ne.symm (show ((ps.zip us).map (·.1)).Nodup from ?_));have:(ps.zip us).map (·.1)=ps.take us.length:=by
   clear e1 e2 nd
   induction ps generalizing us with
   | nil=>simp
   | cons a r ih=>cases us with
    | nil=>simp
    | cons b q=>simp[ih]
  rw[this];exact nd.sublist (List.take_sublist _ _)
 have hm:(x,u)∈(ps.zip us).reverse:=by
  rw[List.mem_reverse];refine List.mem_of_getElem? (i:=i) ?_;rw[List.getElem?_zip_eq_some];exact⟨e1,e2⟩
 exact Nb w5 hm
theorem jS.inv(S:jS X scope cl ps fs fv)(I:Inv X pins σ H s)(hA:A.frames=some X.stack)(hd:X.calm=true->A.handled=none){h1:Heap}{tk:Nat}{us:List Value}{vs:List V}(r:Vals vs us)(hl:vs.length=ps.length)
  (old:∀b o,s.heap.get? b=some o->h1.get? b=some o) (jM:h1.Ns s.heap.objs.size λy=>(ps.zip us).reverse.lookup y) :
  Inv (sN X A qual scope f c' cl (ps++fs) s H) [] (oh σ vs fv) H { s with heap:=h1,toks:=tk }:=by
 have I1:Inv X pins σ H { s with heap:=h1,toks:=tk }:=I.kept old;have hlen:fv.length=fs.length:=by simpa using congrArg List.length S.free
 refine⟨⟨I.ok.mod,S.kind,rfl,rfl,Nat.le_refl _,λx y c e1 e2=>I.ok.inj x y c (S.cell e1) (S.cell e2),λx hx=>?_,λx c z _=>?_,hd,Around.frames_deeper hA,.inr ⟨rfl,rfl⟩,λb z=>absurd (show b∈([]:List Addr) from z) (by simp),I.bs,Nat.le_trans I.ok.iu I.sz,
  λb _ _ z=>absurd (show b∈([]:List Addr) from z) (by simp),λb z=>absurd (show b∈([]:List Addr) from z) (by simp),I.stack,I.vp⟩,rfl,I.bare,Un.kept old,⟨_,jM,λi x v e1 e2 e3=>?_⟩,λx c e=>?_,I.aD.fresh (Nat.le_refl _),λx c e=>I.gu x c (S.cell e),
  λp hp=>absurd (show p∈([]:List (Addr×Obj)) from hp) (by simp),I1.aD,?_⟩
 ·have hx:scope.names.lookup x=some .cell\/scope.names.lookup x=some .free:=hx;rcases hx with z | z
  ·exact absurd rfl (S.jN _ (l7 z))
  ·exact S.has _ (l7 z) rfl
 ·cases (show false=true from z)
 ·have e1:(ps++fs)[i]? = some x:=e1;unfold oh at e2;by_cases hi:i<ps.length
  ·rw[List.getElem?_append_left hi] at e1;rw[List.getElem?_append_left (by simp;lia),List.getElem?_map] at e2
   cases hv:vs[i]? with
   | none=>rw[hv] at e2;simp at e2
   | some v' =>
    rw[hv] at e2;simp only[Option.map_some,Option.some.injEq] at e2;subst e2;obtain⟨u,hu,ru⟩:=r.get hv;exact⟨u,ru,.inl ⟨S.par x (List.mem_of_getElem? e1),aa5 (List.nodup_append.mp S.nd).1 e1 hu⟩⟩
  ·rw[List.getElem?_append_right (by lia)] at e1
   rw[List.getElem?_append_right (by simp;lia)] at e2
   simp only[List.length_map,List.getElem?_map,hl] at e2;cases hj:fv[i - ps.length]? with
   | none=>rw[hj] at e2;simp at e2
   | some j =>
    rw[hj] at e2;simp only[Option.map_some,Option.some.injEq] at e2;have hN:X.N[j]? = some x:=by
     have q:=congrArg (λl=>l[i - ps.length]?) S.free;simp only[List.getElem?_map,hj,Option.map_some] at q;rw[e1] at q;exact(Option.some.inj q)
    have DH:σ[j]? = some (some v):=by
     cases z:σ[j]? with
     | none=>rw[z] at e2;simp at e2
     | some y=>rw[z] at e2;simp at e2;rw[e2]
    obtain⟨f1,f2⟩:=S.fk x (List.mem_of_getElem? e1);obtain⟨m,hn,hlk⟩:=I1.loc;obtain⟨u,ru,lk⟩:=hlk j x v hN DH (.inr (.inl f2));refine⟨u,ru,?_⟩;rcases lk with⟨k,_⟩ | ⟨_,c,ec,hc⟩
    ·have k:X.env.scope.names.lookup x=some .local:=k;rw[f2] at k;cases k
    ·obtain⟨c2,e'⟩:=S.has _ (l7 f1) rfl;have:=S.cell e';rw[ec] at this;cases this;exact .inr ⟨.inr f1,c,e',hc⟩
 ·obtain⟨v,z⟩:=I1.cell x c (S.cell e);exact⟨v,z⟩
 ·unfold oh
  show _=(ps++fs).length;simp only[List.length_append,List.length_map];lia
theorem Nc{name:Str}{params:Arguments}{body:Expr}{te:TE}{pm c8:Value}{us:List Value}{vs:List V}{Q:VK}(S:jS X scope cl ps fs fv)(I:Inv X pins σ H s)(hA:A.frames=some X.stack)(hd:X.calm=true->A.handled=none)(kK:A.depth<recursionLimit)
  (ho:s.heap.get? f=some (PySem.W.kla_obj name qual params body scope cl pm c' c8)) (cV:s.heap.CodeRec (.ref c') qual)
  (jh:bindArgs (PySem.W.kla_fn name qual params body scope cl pm (.ref c') c8) ⟨us,[]⟩=pure (ps.zip us)) (r:Vals vs us) (hl:vs.length=ps.length)
  (he:PE (sN X A qual scope f c' cl (ps++fs) s H) body te) (h:te (oh σ vs fv) H Q) :
  wpAny (model X.prog X.w) A (call (.ref f) us) (λu s'=>∃v H',Inv X pins σ H' s'/\RelV v u/\Q v H'/\Un (cg X.stack) [] H H' s.heap s'.heap) (λ_ _=>False) s:=by
 refine wpAny_call (PySem.W.kla_callFunE (A:=A) kK ho rfl S.co S.gen rfl cV ?_);rw[jh];refine wpAny_pure (wpAny_newFunctionEnv S.jN (λy hy=>S.par _ (List.of_mem_zip hy).1) (λh1 jM Nd=>⟨(I.nolimit).fresh _ Nd,?_⟩) S.kind);have old:∀b o,s.heap.get? b=some o->h1.get? b=some o:=λb o e=>Nd.extBut b o (Nat.ne_of_lt (Heap.lt_size e)) (Heap.get?_push_of_some _ e);have J:=S.inv (qual:=qual) (f:=f) (c':=c') (A:=A) (tk:=s.toks+(ps.zip us).length) I hA hd r hl old jM;refine PySem.W.kla_codeExpr (wpAny_mono (he [] _ _ _ Q J h) (λu s' hq=>?_) λ_ _ z=>False.elim z);obtain⟨v,H',J',rv,q⟩:=hq;exact⟨v,H',I.vv J'.os J'.base J'.aD J'.bare (λ_ z=>nomatch z),rv,q,J'.base⟩
end
noncomputable def mz(c':Addr)(qual:Str):HO:=.ext λh=>h.CodeRec (.ref c') qual
noncomputable def bH(P:Addr)(pos:Pos)(qual:Str)(H:Hp):Prop:=∃ps,H P=some (.dP ps)/\TriplesOk ps.toList/\(codeAmong pos ps.toList=none\/∃c',codeAmong pos ps.toList=some (.ref c')/\H c' = some (mz c' qual))
structure aY(mg:Str->Option Value)(base:Heap)(c P:Addr):Prop where
 hd:PySem.W.CodeHd base c P
 bm:∃bm ob,mg "__builtins__" = some (.ref bm)/\bm≠builtinsNs/\base.get? bm=some ob/\ob.cls = .type "module"/\ob.dict=some builtinsNs/\ob.data = .plain
theorem aa6{P:Program}{w:World}{H:Hp}{h:Heap}{c':Addr}{qual:Str}(x:h.CodeRec (.ref c') qual):cL P w H h c' (mz c' qual):=by
 refine⟨x,?_,λh1 h2 y k=>?_⟩
 ·obtain⟨c,o,vs,t,e,g,_⟩:=x;cases e;exact⟨o,g⟩
 ·obtain⟨c,o,vs,t,e,g,r⟩:=y;cases e;exact⟨c',o,vs,t,rfl,k o g,r⟩
theorem Nf{P:Program}{w:World}{H:Hp}{h:Heap}{c':Addr}{qual:Str}(x:b_ P w H h)(e:H c' = some (mz c' qual)):h.CodeRec (.ref c') qual:=(x c' _ e).1
theorem Ng{a b:Int}{t u:Tok}{c:Value}:∀ {l:List Value},TriplesOk l->TriplesOk (l++[.int a t,.int b u,c])
 | [],_=>trivial
 | .int _ _::.int _ _::_::r,h=>Ng (l:=r) h
section
variable{X:Cx}{pins:List (Addr×Obj)}{σ:St}{H:Hp}{s:Shared}{scope:Scope}{cl:List (Str×Addr)}{M:Model}{A:Around}{E:Value->Shared->Prop}{name qual:Str}{params:Arguments}{body:Expr}{pos:Pos}{firstLine:Nat}{c P:Addr}
theorem aa7{Q:Value->Shared->Prop}(B:aY X.mg X.base c P)(mC:X.env.code = .ref c)(jT:closureFor scope X.env=pure cl)(I:Inv X pins σ H s)(hT:bH P pos qual H)
  (h:∀(f c':Addr) (c8 pm:Value) (H':Hp) (s':Shared),Inv X ((f,PySem.W.kla_obj name qual params body scope cl pm c' c8)::pins) σ H' s'->SameBut P H H'->bH P pos qual H'->H' c' = some (mz c' qual)->Q (.ref f) s') :
  wpAny M A (makeFunction name qual params (.expr body) scope X.env [] [] [] pos firstLine) Q E s:=by
 obtain⟨ps,hP,tr,hc⟩:=hT;have oP:s.heap.get? P=some (PySem.W.tabObj ps):=I.aD P _ hP;have Ej:s.heap.Ns mainGlobals X.mg:=I.mod.glob.keeps I.bk;obtain⟨bm,ob,b1,b2,b3,b4,b5,b6⟩:=B.bm;have hgP:mainGlobals≠P:=λq=>by
  obtain⟨o,es,ep,e,hd,_⟩:=Ej;rw[q,oP] at e;cases e;cases hd
 have hbP:bm≠P:=λq=>by
  have e:=I.bk _ _ b3;rw[q,oP] at e;cases e;cases b4
 have hbG:bm≠mainGlobals:=λq=>by
  obtain⟨o,es,ep,e,hd,_⟩:=I.mod.glob;rw[q,e] at b3;cases b3;rw[hd] at b6;cases b6
 have Nh:s.heap.BuiltinsAt X.mg P:=⟨bm,ob,b1,b2,hbG,hbP,I.bk _ _ b3,b4,b5,b6⟩;have nf:∀(h1:Heap) (o:Obj),s.heap.objs.size<=h1.objs.size->(h1.push o).get? h1.objs.size=some o->True:=λ_ _ _ _=>trivial;have LP:X.env.locals≠P:=λz=>by rw[← z,I.free] at hP;cases hP
 rcases hc with hc | ⟨c',hc,Ni⟩
 ·refine PySem.W.kla_makeFunction (mg:=X.mg) jT I.ok.glob Ej mC (B.hd.keeps I.bk) oP tr hc hgP Nh λc' c8 h1 tk hx Nj bQ aa8 htb=>?_;have nc:H c' = none:=I.aD.fresh Nj;have cP:c'≠P:=λz=>by rw[z,hP] at nc;cases nc
  have kp:∀b o,b≠P->s.heap.get? b=some o->(h1.push (PySem.W.kla_obj name qual params body scope cl ((X.mg "__name__").getD .none) c' c8)).get? b=some o:=λb o hb e=>Heap.get?_push_of_some _ (hx b o hb e);have Nk:=Heap.get?_push_of_some (PySem.W.kla_obj name qual params body scope cl ((X.mg "__name__").getD .none) c' c8) htb;have qi:∀b u,H b=some u->b≠P->upd (upd H P (.dP (ps ++ #[rawInt pos.line,rawInt pos.col,.ref c']))) c' (mz c' qual) b=some u:=λb u e hb=>by
   rw[az (λz=>by rw[z,nc] at e;cases e),az hb];exact e
  have I1:Inv X pins σ (upd (upd H P (.dP (ps ++ #[rawInt pos.line,rawInt pos.col,.ref c']))) c' (mz c' qual)) { s with heap:=h1.push (PySem.W.kla_obj name qual params body scope cl ((X.mg "__name__").getD .none) c' c8),toks:=tk }:=by
   refine I.step (g':=s.gens) (d':=s.drawn) (ch:=[]) (λ_ z=>nomatch z) (λb o _ _ _ e n=>kp b o (λz=>by rw[z,hP] at n;cases n) e) (λb o _ _ _ e n=>⟨o.slots,kp b o (λz=>by rw[z,hP] at n;cases n) e⟩) (λb o _ e n=>?_)
    (λb o _ e=>?_) (λb xs e=>qi b _ e (λz=>by rw[z,hP] at e;cases e)) (λb o u e=>qi b _ e (λz=>by rw[z,hP] at e;cases e)) (λb fO e=>?_) (λm hm=>(hm.extBut hx LP).push _) (λb v e=>?_) I.bare
   ·rw[az (λz=>absurd (Nat.lt_of_lt_of_le (Heap.lt_size e) Nj) (by rw[z];exact Nat.lt_irrefl _)),az (λz=>by rw[z,hP] at n;cases n)];exact n
   ·by_cases hb:b=P
    ·rw[hb];exact⟨_,Nk⟩
    ·exact⟨o,kp b o hb e⟩
   ·by_cases hb:b=P
    ·subst hb;rw[hP] at e;cases e;exact⟨#[rawInt pos.line,rawInt pos.col,.ref c'],by rw[az cP.symm,aB]⟩
    ·exact⟨#[],by rw[Array.append_empty];exact qi b _ e hb⟩
   ·by_cases Nl:b=c'
    ·subst Nl;rw[aB] at e;cases e;exact aa6 (aa8.push _)
    ·rw[az Nl] at e;by_cases hb:b=P
     ·subst hb;rw[aB] at e;cases e;exact Nk
     ·rw[az hb] at e;refine(I.aD b v e).fE (λd o hd q=>kp d o ?_ q) (λd q=>qi d _ q (λz=>by rw[z,hP] at q;cases q)) (λd xs q=>qi d _ q (λz=>by rw[z,hP] at q;cases q))
      rcases hd with z | z
      ·rw[z];exact hb
      ·exact λy=>by rw[y,hP] at z;cases z
  have of:=Heap.get?_push_size h1 (o:=PySem.W.kla_obj name qual params body scope cl ((X.mg "__name__").getD .none) c' c8) rfl;have Ek:s.heap.objs.size<=h1.objs.size:=by lia
  refine h h1.objs.size c' c8 ((X.mg "__name__").getD .none) _ _ (I1.j5 λp hp=>?_) ?_ ⟨_,by rw[az cP.symm,aB],?_,.inr ⟨c',?_,aB⟩⟩ aB
  ·rcases List.mem_cons.mp hp with e | hp
   ·rw[e];refine⟨of,?_,λz=>absurd (Nat.lt_of_lt_of_le I.lt (by assumption)) (by rw[← z];exact Nat.lt_irrefl _),I.rB Ek,λv z=>by cases z⟩
    show upd (upd H P _) c' _ h1.objs.size=none;rw[az (Nat.ne_of_gt bQ),az (Nat.ne_of_gt (Nat.lt_of_lt_of_le (Heap.lt_size oP) Ek))];exact I.aD.fresh Ek
   ·exact I1.pin p (List.mem_append_right _ hp)
  ·intro b o e hb;exact qi b o e hb
  ·rw[Array.toList_append];exact Ng tr
  ·rw[Array.toList_append];exact codeAmong_snoc _ tr hc
 ·refine PySem.W.kla_makeFunctionHit (mg:=X.mg) jT I.ok.glob Ej mC (B.hd.keeps I.bk) oP tr hc Nh λc8 h1 tk hk hsz=>?_;have kp:∀b o,s.heap.get? b=some o->(h1.push (PySem.W.kla_obj name qual params body scope cl ((X.mg "__name__").getD .none) c' c8)).get? b=some o:=λb o e=>Heap.get?_push_of_some _ (hk b o e);have I1:=I.kept (t':=tk) kp;have of:=Heap.get?_push_size h1 (o:=PySem.W.kla_obj name qual params body scope cl ((X.mg "__name__").getD .none) c' c8) rfl;refine h h1.objs.size c' c8 ((X.mg "__name__").getD .none) _ _ (I1.j5 λp hp=>?_) (λb o e _=>e) ⟨ps,hP,tr,.inr ⟨c',hc,Ni⟩⟩ Ni;rcases List.mem_cons.mp hp with e | hp
  ·rw[e];exact⟨of,I.aD.fresh hsz,λz=>absurd (Nat.lt_of_lt_of_le I.lt (by assumption)) (by rw[← z];exact Nat.lt_irrefl _),I.rB hsz,λv z=>by cases z⟩
  ·exact I1.pin p (List.mem_append_right _ hp)
end
end _L
namespace _L
open PySem PySem.Spec PyProof.Rows PySem.W
section
variable{prog:Program}{w:World}{A:Around}{E:Value->Shared->Prop}{s:Shared}
end
section
variable{X:Cx}{pins:List (Addr×Obj)}{σ:St}{H:Hp}{s:Shared}
theorem Inv.chg{h':Heap}{tk:Nat}{k:Addr}{m:Str->Option Value}(I:Inv X pins σ H s)(hm:s.heap.Ns X.env.locals m)(sO:h'.Ns X.env.locals m)(n:H k=none)(hs:X.bx.heap.objs.size<=k)(hL:k≠X.env.locals)
  (hc:∀x c,X.env.cells.lookup x=some c->c≠k) (hp:∀p∈X.pn++pins,p.1≠k) (ho:∃o,h'.get? k=some o) (kk:∀b o,b≠X.env.locals->b≠k->s.heap.get? b=some o->h'.get? b=some o):Inv X pins σ H { s with heap:=h',toks:=tk }:=by
 have nl:∀b v,H b=some v->b≠X.env.locals:=λb v e z=>by rw[z,I.free] at e;cases e
 have nk:∀b v,H b=some v->b≠k:=λb v e z=>by rw[z,n] at e;cases e
 refine I.step (g':=s.gens) (d':=s.drawn) (ch:=[k]) (λb z=>by rw[List.mem_singleton.mp z];exact⟨.inr hs,hL,hc,hp⟩) (λb o hb _ hk e _=>kk b o hb (by simpa using hk) e) (λb o hb _ hk e _=>⟨o.slots,kk b o hb (by simpa using hk) e⟩) (λ_ _ _ _ n=>n) (λb o hk e=>?_) (λ_ _ e=>e) (λ_ _ _ e=>e)
  (λb ps e=>⟨#[],by rw[e];simp⟩) (λm' wW=>?_) (λb v e=>(I.aD b v e).fE (λc o hc e'=>kk c o ?_ ?_ e') (λ_ e=>e) (λ_ _ e=>e)) I.bare
 ·by_cases hb:b=X.env.locals
  ·obtain⟨o',_,_,z,_⟩:=sO;exact⟨o',by rw[hb];exact z⟩
  ·exact⟨o,kk b o hb (by simpa using hk) e⟩
 ·have:m' = m:=by
   obtain⟨o1,Mp,Zj,g1,d1,k1,z1⟩:=wW;obtain⟨o2,DP,Mq,g2,d2,k2,z2⟩:=hm;rw[g1] at g2;cases g2;rw[d1] at d2;cases d2
   funext x
   rw[← z1 x,← z2 x]
  rw[this];exact sO
 ·rcases hc with z | z
  ·rw[z];exact nl b v e
  ·exact nl c _ z
 ·rcases hc with z | z
  ·rw[z];exact nk b v e
  ·exact nk c _ z
variable{scope:Scope}{cl:List (Str×Addr)}{ps fs:List Str}{fv:List Nat}{A:Around}{qual name:Str}{f c' P kS:Addr}{params:Arguments}{body:Expr}{te:TE}{pm c8:Value}{pos:Pos}{kv:Nat->Int×Int}{n:Nat}{H1:Hp}{m:Str->Option Value}
theorem SameBut.trans{H H1 H2:Hp}{x:Addr}(a:SameBut x H H1)(b:SameBut x H1 H2):SameBut x H H2:=λc o e h=>b c o (a c o e h) h
end
theorem aa9{P:Program}{w:World}{K:PySem.W.Frag}{mg mb:Str->Option Value}{k:Nat}{fa a:Addr}{fd:FuncData}{x:Str}{sp:Sp}{aP:Shared}{vs:List Value}{ns:List Int}{tabs:List (Addr×Addr)}
  (KX:K.In aP.heap) (jM:aP.heap.Ns mainGlobals mg) (hb:aP.heap.Ns builtinsNs mb) (DC:∀x:Str,x≠"__name__"->mb x=bootBuiltins x) (DE:aP.heap.NoLimit) (hg:aP.gens = #[])
  (ha:aP.heap.get? a=some { cls:=.type "list",data:=.seq vs.toArray }) (hi:IntsAre vs ns) (hl:ns.length<=sizeLine) (hr:bN k callerA)
  (hT:TabsAt tabs aP.heap) (sQ:noTabs K=true) (bm:∃bm ob,mg "__builtins__" = some (.ref bm)/\bm≠builtinsNs/\aP.heap.get? bm=some ob/\ob.cls = .type "module"/\ob.dict=some builtinsNs/\ob.data = .plain)
  (F:∀base:Heap,K.In base->base.Ns mainGlobals mg->(∀q∈tabs,aY mg base q.1 q.2)->aO P w K mg base aU k fa fd [x] sp) (jh:∀(s:Shared) (u:Value),BindsTo s fd ⟨[u],[]⟩ [(x,u)])
  (eO:∀H:Hp,(∀q∈tabs,H q.2=some (.dP #[]))->aA K H a (ns.map V.int)->sp [.ref a] H (λv _=>v = .bl true) λ_ _ _=>False) :
  codeAny (model P w) callerA (.call (.ref fa) ⟨[.ref a],[]⟩) (λr s'=>r = .ok (.ret (.bool true))/\OldK aP.heap s'.heap/\s'.os=aP.os/\AllBare s'.gens) aP:=by
 have rv:=wm hi;have DG:=hi.length;have oq:∀b,b∈tabs.map (·.2)->aP.heap.get? b=some (tabObj #[])/\isCodeTable aP.heap b:=λb hb=>by
  obtain⟨q,hq,rfl⟩:=List.mem_map.mp hb;exact⟨(hT q hq).2,((hT q hq).1.tab (hT q hq).2).isCodeTable⟩
 have aT:a∉tabs.map (·.2):=λhb=>by
  have:=(oq a hb).1;rw[ha] at this;cases this
 have core:∀H:Hp,(∀b u,H b=some u->(b=a/\∃o xs,u = .bZ o (.lst xs))\/(b∈tabs.map (·.2)/\u = .dP #[]))->(∀q∈tabs,H q.2=some (.dP #[]))->aA K H a (ns.map V.int)->b_ P w H aP.heap->(H a≠none->K.lookup a=none)->
   codeAny (model P w) callerA (.call (.ref fa) ⟨[.ref a],[]⟩) (λr s'=>r = .ok (.ret (.bool true))/\OldK aP.heap s'.heap/\s'.os=aP.os/\AllBare s'.gens) aP:=by
  intro H hO El hS aD hK;have nY:∀ {b:Addr} {o:Obj},aP.heap.get? b=some o->H b=none->(gP aP.heap H).get? b=some o:=λe n=>KO e n;have free:∀ {b:Addr} {o:Obj},aP.heap.get? b=some o->(b≠a)->o≠tabObj #[]->H b=none:=λ{b o} e n1 n2=>by
   cases q:H b with
   | none=>rfl
   | some u =>
    rcases hO b u q with⟨z,_⟩ | ⟨z,_⟩
    ·exact absurd z n1
    ·have:=(oq b z).1;rw[e] at this;exact absurd (Option.some.inj this) n2
  have Nm:∀ {b:Addr} {o:Obj},aP.heap.get? b=some o->o.cls≠.type "list"->b≠a:=λ{b o} e n z=>by
   rw[z,ha] at e;cases e;exact n rfl
  have aa_:∀ {b:Addr} {o:Obj} {es:Array DictEntry} {ep:Nat},aP.heap.get? b=some o->o.data = .dict es ep->b≠a:=λ{b o es ep} e d z=>by
   rw[z,ha] at e;cases e;cases d
  have lu:∀ {b:Addr} {m:Str->Option Value},aP.heap.Ns b m->(gP aP.heap H).Ns b m:=λ{b m} ⟨o,es,ep,e,d,r⟩=>⟨o,es,ep,nY e (free e (aa_ e d) (λz=>by rw[z] at d;cases d)),d,r⟩
  have rZ:K.In (gP aP.heap H):=λb o e=>nY (KX b o e) (by
   cases q:H b with
   | none=>rfl
   | some u =>
    rcases hO b u q with⟨z,_⟩ | ⟨z,_⟩
    ·subst z;rw[hK (by rw[q];simp)] at e;cases e
    ·have e2:=KX b o e;rw[(oq b z).1] at e2;have h2:=List.all_eq_true.mp sQ (b,o) (mem_of_lookupK e);cases e2;exact absurd (show false=true from h2) Bool.false_ne_true)
  have hM:Mod K mg (gP aP.heap H):=⟨rZ,lu jM,⟨mb,lu hb,DC⟩,let ⟨mc,h1,h2⟩:=DE;⟨mc,lu h1,h2⟩⟩
  have hL:∀q∈tabs,aY mg (gP aP.heap H) q.1 q.2:=λq hq=>by
   obtain⟨b,ob,b1,b2,b3,b4,b5,b6⟩:=bm;obtain⟨o,vs',file,tf,flags,tg,inF,text,tt,e1,r1,r2⟩:=(hT q hq).1;refine⟨⟨o,vs',file,tf,flags,tg,inF,text,tt,nY e1 (free e1 (Nm e1 (by rw[r1];intro z;injection z with z;exact absurd z (by decide))) (λz=>by rw[z] at r1;cases r1)),r1,r2⟩,b,ob,b1,b2,nY b3 (free b3 (Nm b3 (by rw[b4];intro z;injection z with z;exact absurd z (by decide))) (λz=>by rw[z] at b4;cases b4)),b4,b5,b6⟩
  have e0:k9 P w K mg (gP aP.heap H) callerA [] aP H:=⟨rfl,hM,λb o e=>KP e,Nat.le_of_eq (KN _ _),trivial,λb hb=>absurd (show b∈([]:List Addr) from hb) (by simp),aD,.of_eq hg⟩
  refine codeAny_mono ((F _ rZ (lu jM) hL).run callerA [] aP H ⟨[.ref a],[]⟩ [.ref a] [.ref a] _ _ hr e0 (jh aP (.ref a)) (.cons rfl .nil) (eO H El hS)) λr s' h=>?_;cases r with
  | error e=>exact False.elim h
  | ok fl =>
   cases fl with
   | next=>exact False.elim h
   | brk=>exact False.elim h
   | cont=>exact False.elim h
   | ret u =>
    obtain⟨v,H',os,bare,un,wu,r',q⟩:=h;have q':v = .bl true:=q;subst q';obtain rfl:u=Value.bool true:=r';have noS:∀b:Addr,b∉cg ([]:List Env):=λb z=>absurd (show b∈([]:List Addr) from z) (by simp)
    have all:∀b o,aP.heap.get? b=some o->asItWas aP.heap s'.heap b o/\∃o',s'.heap.get? b=some o':=λb o e=>by
     cases q:H b with
     | none =>
      have:=un.keep b o e q (noS b) (by simp)
      exact⟨.inl this,o,this⟩
     | some u =>
      rcases hO b u q with⟨z,ob,xs,rfl⟩ | ⟨z,rfl⟩
      ·have z2:=un.gO b ob _ q;obtain⟨e1,_⟩:=aD b _ q;obtain⟨e2,_⟩:=wu b _ z2;rw[e] at e1;cases e1;exact⟨.inl e2,_,e2⟩
      ·obtain⟨more,z2⟩:=un.ir b _ q;have e1:=(oq b z).1;rw[e] at e1;cases e1;have e2:s'.heap.get? b=some { cls:=.none,data:=.fields (#[]++more)}:=wu b _ z2;exact⟨.inr (.inl ⟨(oq b z).2,rfl,#[],more,rfl,e2⟩),_,e2⟩
    exact⟨rfl,⟨λb o e=>(all b o e).1,λb o e=>(all b o e).2⟩,os,bare⟩
 have tq:∀q∈tabs,q.2∈tabs.map (·.2):=λq hq=>List.mem_map_of_mem hq;cases hk:K.lookup a with
 | some o =>
  have e:=KX a o hk;rw[ha] at e;cases e;refine core (λb=>if b∈tabs.map (·.2) then some (.dP #[]) else none) (λb u z=>?_) (λq hq=>if_pos (tq q hq)) (.inr ⟨_,vs.toArray,_,hk,rfl,rfl,rfl,by rw[List.size_toArray,DG];exact hl,by simpa using rv⟩) (λb u z=>?_) (λz=>absurd (if_neg aT) z)
  ·by_cases hb:b∈tabs.map (·.2)
   ·have z':=(if_pos hb).symm.trans z;cases z';exact .inr ⟨hb,rfl⟩
   ·have z':=(if_neg hb).symm.trans z;cases z'
  ·by_cases hb:b∈tabs.map (·.2)
   ·have z':=(if_pos hb).symm.trans z;cases z';exact(oq b hb).1
   ·have z':=(if_neg hb).symm.trans z;cases z'
 | none =>
  refine core (λb=>if b=a then some (.bZ { cls:=.type "list",data:=.seq vs.toArray } (.lst (ns.map V.int))) else if b∈tabs.map (·.2) then some (.dP #[]) else none) (λb u z=>?_) (λq hq=>?_) (.inl (.inr ⟨{ cls:=.type "list",data:=.seq vs.toArray },if_pos rfl⟩)) (λb u z=>?_) λ_=>hk
  ·by_cases hb:b=a
   ·have z':=(if_pos hb).symm.trans z;cases z';exact .inl ⟨hb,_,_,rfl⟩
   ·have z':=(if_neg hb).symm.trans z;by_cases iT:b∈tabs.map (·.2)
    ·have z2:=(if_pos iT).symm.trans z';cases z2;exact .inr ⟨iT,rfl⟩
    ·have z2:=(if_neg iT).symm.trans z';cases z2
  ·have ne:q.2≠a:=λz=>aT (by rw[← z];exact tq q hq)
   exact(if_neg ne).trans (if_pos (tq q hq))
  ·by_cases hb:b=a
   ·have z':=(if_pos hb).symm.trans z;cases z';subst hb;exact⟨ha,by rw[List.length_map];exact hl,vs,_,rv,ha⟩
   ·have z':=(if_neg hb).symm.trans z;by_cases iT:b∈tabs.map (·.2)
    ·have z2:=(if_pos iT).symm.trans z';cases z2;exact(oq b iT).1
    ·have z2:=(if_neg iT).symm.trans z';cases z2
theorem jS.of{X:Cx}{scope:Scope}{cl:List (Str×Addr)}{ps fs:List Str}{fv:List Nat}(kE:closureFor scope X.env=pure cl)(kind:scope.kind = .function)(co:scope.isCoroutine=false)(gen:scope.isGenerator=false)
  (jN:(scope.names.all λy=>y.2 != .cell)=true) (par:(ps.all λy=>scope.names.lookup y == some .local)=true) (sub:AllP (λp:Str×Addr=>X.env.cells.lookup p.1=some p.2) cl) (has:(scope.names.all λy=>y.2 != .free || (cl.lookup y.1).isSome)=true)
  (free:fv.map (λj=>X.N[j]?)=fs.map some) (fk:(fs.all λy=>scope.names.lookup y == some .free && X.env.scope.names.lookup y == some .cell)=true) (nd:(ps++fs).Nodup):jS X scope cl ps fs fv where
 kE:=kE
 kind:=kind
 co:=co
 gen:=gen
 jN:=λy hy=>by have:=List.all_eq_true.mp jN y hy;simpa using this
 par:=λy hy=>by have:=List.all_eq_true.mp par y hy;simpa using this
 sub:=sub.mem
 has:=λy hy hl=>by
  have:=List.all_eq_true.mp has y hy;rw[hl] at this;exact Option.isSome_iff_exists.mp (by simpa only[bne_self_eq_false,Bool.false_or] using this)
 free:=free
 fk:=λy hy=>by have:=List.all_eq_true.mp fk y hy;simpa using this
 nd:=nd
theorem aF.okC{P:Program}{w:World}{K:PySem.W.Frag}{mg:Str->Option Value}{base:Heap}{x qual:Str}{st:Stmt}{f:Addr}{fd:FuncData}{N ps:List Str}{k:Nat}{sp:Sp}(F:aF K x qual st f fd)(S:aW N ps (aJ st))(len:∀vs H Q E,sp vs H Q E->vs.length=ps.length)
  (jD:∀(A:Around) (outer:List Env) (s:Shared) (H:Hp) (vs:List V) (Q:VK) (E:XK),bN k (A.deeper (envOfC qual (aJ st) s.heap.objs.size f fd.code))->sp vs H Q E->
   ∃t,eZ (gz aU P w K mg base N qual (aJ st) f fd.code A outer s H E).k6 (dg st) t/\t { nx:=λ_ H'=>Q .aI H',rt:=Q } (start N vs) H):aO P w K mg base aU (k+1) f fd ps sp:=by
 obtain⟨oc,od,kV,doc,pm,an,aH,ct,gc,rfl,lk,cV⟩:=F.ex;refine vU lk cV S len λA outer s H vs Q E hr eO=>?_;obtain⟨t,h,q⟩:=jD A outer s H vs Q E hr eO;exact⟨t,h.k6,q⟩
theorem aba{l:PySem.W.OpenLaw}{n k:Nat}{q:Program}{loose:List Str}{XP:(Str->Option Value)->Heap->Prop}{YP:World->Heap->Prop}{d:DefRec}{K:Params->PySem.W.Frag}{sp:World->List (Addr×Addr)->Sp}{x:Str}
  (hn:l.most=some n) (pQ:n<=sizeLine) (nX:d.params.defaults = []) (hr:bN k callerA)
  (hY:∀(w:World) (h:Heap),YP w h->(K w.params).In h) (sQ:∀w:World,noTabs (K w.params)=true)
  (F:∀(w:World) (mg:Str->Option Value) (fa:Addr) (h:Heap),YP w h->(K w.params).In h->h.Ns mainGlobals mg->mg d.name=some (.ref fa)->
   ∃(fd:FuncData) (tabs:List (Addr×Addr)),(∀(s:Shared) (u:Value),BindsTo s fd ⟨[u],[]⟩ [(x,u)])/\TabsAt tabs h/\
    ∀base:Heap,(K w.params).In base->base.Ns mainGlobals mg->(∀q∈tabs,aY mg base q.1 q.2)->aO l.prog w (K w.params) mg base aU k fa fd [x] (sp w tabs))
  (eO:∀(w:World) (tabs:List (Addr×Addr)) (H:Hp) (a:Addr) (ns:List Int),ns.length<=n->(∀q∈tabs,H q.2=some (.dP #[]))->aA (K w.params) H a (ns.map V.int)->sp w tabs [.ref a] H (λv _=>v = .bl true) λ_ _ _=>False) :
  PySem.W.WalkO q loose XP YP l.row.toRowW d [] (λf vs=>PySem.call f vs):=by
 refine Dz.L_ hn nX λw bx aP mg mb fa o pm cd doc a vs ns G Y ho hd cV hmg rY hints hlen hg=>?_;have KX:=hY w _ Y;obtain⟨fd,tabs,hb,hT,hF⟩:=F w mg fa _ Y KX G.T.g hmg;exact aa9 KX G.T.g G.T.b G.T.builtins G.T.nolimit hg rY hints (Nat.le_trans hlen pQ) hr hT (sQ w) G.T.bmain hF hb λH El hS=>eO w tabs H a ns hlen El hS
noncomputable def iU(x:Str):Str:=x ++ ".<locals>." ++ "<lambda>"
end _L
namespace _L
open PySem PySem.Spec PyProof.Rows
section
variable{M:Model}{prog:Program}{w:World}{A:Around}{E:Value->Shared->Prop}{s:Shared}
end
section
variable{prog:Program}{w:World}{A:Around}{E:Value->Shared->Prop}{s:Shared}
end
section
variable{X:Cx}
end
section
variable{prog:Program}{w:World}{A:Around}{E:Value->Shared->Prop}{s:Shared}{d it:Addr}{es:Array DictEntry}{ep i:Nat}
end
section
variable{X:Cx}
end
theorem bH.same{P:Addr}{pos:Pos}{qual:Str}{H H':Hp}(h:bH P pos qual H)(s:ah H H'):bH P pos qual H':=by
 obtain⟨ps,e,k,c⟩:=h;refine⟨ps,s _ _ e,k,?_⟩;rcases c with c | ⟨c',c1,c2⟩
 ·exact .inl c
 ·exact .inr ⟨c',c1,s _ _ c2⟩
section
variable{P:Addr}{pos:Pos}{qual:Str}{H H1 H2:Hp}
theorem bH.ne(t:bH P pos qual H){a:Addr}{o:HO}(e:H a=some o)(n:∀ps,o≠.dP ps):a≠P:=λz=>by
 obtain⟨ps,e',_⟩:=t;rw[z,e'] at e;exact n ps (Option.some.inj e).symm
end
noncomputable def w6(K:PySem.W.Frag)(tabs:List (Addr×Addr)):Sp:=λvs H Q _=>∃(a:Addr) (ns:List Int),vs = [.ref a]/\aA K H a (ns.map V.int)/\ns.length<=63/\(∀q∈tabs,H q.2=some (.dP #[]))/\∀H',Q (.bl true) H'
theorem walk_lawT{l:PySem.W.OpenLaw}{k:Nat}{q:Program}{loose:List Str}{XP:(Str->Option Value)->Heap->Prop}{YP:World->Heap->Prop}{d:DefRec}{K:Params->PySem.W.Frag}{x:Str}
  (hn:l.most=some 63) (nX:d.params.defaults = []) (hr:bN k callerA) (hY:∀(w:World) (h:Heap),YP w h->(K w.params).In h) (sQ:∀w:World,PySem.W.noTabs (K w.params)=true)
  (F:∀(w:World) (mg:Str->Option Value) (fa:Addr) (h:Heap),YP w h->(K w.params).In h->h.Ns mainGlobals mg->mg d.name=some (.ref fa)->
   ∃(fd:FuncData) (tabs:List (Addr×Addr)),(∀(s:Shared) (u:Value),BindsTo s fd ⟨[u],[]⟩ [(x,u)])/\PySem.W.TabsAt tabs h/\
    ∀base:Heap,(K w.params).In base->base.Ns mainGlobals mg->(∀q∈tabs,aY mg base q.1 q.2)->aO l.prog w (K w.params) mg base aU k fa fd [x] (w6 (K w.params) tabs)) :
  PySem.W.WalkO q loose XP YP l.row.toRowW d [] (λf vs=>PySem.call f vs) :=
 aba (n:=63) (sp:=λw tabs=>w6 (K w.params) tabs) hn (by decide) nX hr hY sQ F (λ_ tabs H a ns hl hT hS=>⟨a,ns,rfl,hS,hl,hT,λ_=>rfl⟩)
noncomputable abbrev Us:=List (Addr×List Int)
noncomputable def uV(zs:Us):List V:=zs.map λz=>V.ref z.1
noncomputable def Nn(H:Hp)(zs:Us):Prop:=∀z,z∈zs->H z.1=some (.tup (z.2.map V.int))
section
variable{X:Cx}{pins:List (Addr×Obj)}{σ:St}{H:Hp}{s:Shared}
end
section
variable{X:Cx}
noncomputable def ajM(K:PySem.W.Frag)(neg:Bool):R2:=λx y H Q=>∃(a p:Addr) (c:List Int) (zs:Us),x = .ref a/\y = .ref p/\H a=some (.tup (c.map V.int))/\aA K H p (uV zs)/\Nn H zs/\
 Q (.bl (if neg then !decide (c∈zs.map (·.2)) else decide (c∈zs.map (·.2)))) H
noncomputable def ajN:V->List V->Hp->VK->Prop:=λx vs H Q=>∃(l a:Addr) (zs:Us) (c:List Int),x = .ref l/\vs = [.ref a]/\H l=some (.lst (uV zs))/\Nn H zs/\H a=some (.tup (c.map V.int))/\c∈zs.map (·.2)/\
 ∀(k:Nat) (h:k<zs.length),zs[k].2=c->(∀m (hm:m<zs.length),m<k->zs[m].2≠c)->Q .aI (upd H l (.lst (uV (zs.eraseIdx k))))
theorem abb{a b:List Int}(h:_H.lexLt a b=true):¬ _H.lexLt b a=true:=λz=>wM a (D4 _ _ _ h z)
theorem abd{a b c:List Int}(h:¬ _H.lexLt b a=true)(h':¬ _H.lexLt c b=true):¬ _H.lexLt c a=true:=λz=>by
 rcases ML a b with q | q | q
 ·exact h' (D4 _ _ _ z q)
 ·rw[q] at z;exact h' z
 ·exact h q
end
section
variable{K:PySem.W.Frag}{tl:TE}{g:TG}{tt:TT}{te:TE}{nt:Nat}{fv:List Nat}{Q:VK}{σ:St}{H:Hp}
theorem Zn.push{l t:Addr}{ts:List Addr}{z:List (Int×Int)}{c:Int×Int}(h:Zn H l ts z)(ht:H t=some (.tup [.int c.1,.int c.2])):Zn (upd H l (.lst (ts.map V.ref++[V.ref t]))) l (ts++[t]) (z++[c]):=by
 have ne:∀ {a:Addr} {xs:List V},H a=some (.tup xs)->a≠l:=λe q=>by rw[q,h.l] at e;cases e
 refine⟨by rw[aB,List.map_append];rfl,by simp[h.n],λi t' p e1 e2=>?_⟩
 by_cases hi:i<ts.length
 ·rw[List.getElem?_append_left hi] at e1;rw[List.getElem?_append_left (by rw[← h.n];exact hi)] at e2
  have:=h.t i t' p e1 e2;rw[az (ne this)];exact this
 ·rw[List.getElem?_append_right (by lia)] at e1
  rw[List.getElem?_append_right (by rw[← h.n];lia),← h.n] at e2
  have hj:i - ts.length=0:=by
   have:=(List.getElem?_eq_some_iff.mp e1).1;simp at this;lia
  rw[hj] at e1 e2;cases e1;cases e2;rw[az (ne ht)];exact ht
end
section
variable{X:Cx}
end
section
variable{X:Cx}{e st:Expr}{te ts:TE}{pos p2:Pos}
noncomputable def ajO(K:PySem.W.Frag)(te ts:TE):TE:=λσ H Q=>te σ H λx H1=>ts σ H1 λk H2=>∃a xs,x = .ref a/\k = .int (-1)/\aA K H2 a xs/\∀p,H2 p=none->Q (.ref p) (upd H2 p (.lst xs.reverse))
end
noncomputable def sumF(f:Nat->Int):Nat->Int
 | 0=>0
 | i+1=>sumF f i+f i
theorem Np{f:Nat->Int}(hd:∀i,f (i+1)<=f i)(a:Nat):∀b,f (a+b)<=f b
 | b=>by
  induction a with
  | zero=>rw[Nat.zero_add];exact Int.le_refl _
  | succ a ih=>rw[show a+1+b=a+b+1 by lia];exact Int.le_trans (hd _) ih
theorem Nq{f:Nat->Int}(hd:∀i,f (i+1)<=f i)(a:Nat):∀b,sumF f (a+b)<=sumF f a+sumF f b
 | 0=>by simp[sumF]
 | b+1=>by
  have ih:=Nq hd a b;have:=Np hd a b;rw[← Nat.add_assoc,sumF,sumF];lia
theorem Nr{f:Nat->Int}(h1:1<=f 0)(hd:∀i,0<=f i/\f (i+1)<=f i):∀i:Nat,(1<=i->1<=sumF f i)/\0<=sumF f i/\sumF f i<=f 0*(i:Int)
 | 0=>by simp[sumF]
 | i+1=>by
  have ih:=Nr h1 hd i;have h2:=(hd i).1;have h3:f i<=f 0:=Np (λi=>(hd i).2) i 0;have e:f 0*((i+1:Nat):Int)=f 0*(i:Int)+f 0:=by
   rw[show ((i+1:Nat):Int)=(i:Int)+1 by lia,Int.mul_add,Int.mul_one]
  refine⟨λ_=>?_,?_,?_⟩
  ·rw[sumF];by_cases hi:i=0
   ·subst hi;simp only[sumF];lia
   ·have:=ih.1 (by lia);lia
  ·rw[sumF];lia
  ·rw[sumF,e];lia
theorem abe{f:Nat->Int}(h1:1<=f 0)(h7:f 0<=10000000)(hd:∀i,0<=f i/\f (i+1)<=f i){n:Nat}(h2:2<=n)(ajP:n<=100):SwOk ((List.range n).map (sumF f)) (n:Int):=by
 refine⟨by simp,by lia,by rw[range_getD (by lia)];rfl,λi sS hi=>?_,λi sS hi=>?_,λa b ha hb wH=>?_⟩
 ·rw[List.length_map,List.length_range] at hi;rw[range_getD hi];have:=Nr h1 hd i;have e:f 0*(i:Int)<=10000000*(i:Int):=Int.mul_le_mul_of_nonneg_right h7 (by lia)
  have:=this.1 sS;lia
 ·rw[List.length_map,List.length_range] at hi;rw[range_getD hi,range_getD (by lia)]
  obtain⟨j,rfl⟩:∃j,i=j+1:=⟨i - 1,by lia⟩
  have:=(hd j).1;rw[sumF];show sumF f j<=_;lia
 ·rw[List.length_map,List.length_range] at wH;rw[range_getD wH,range_getD (by lia),range_getD (by lia)]
  exact Nq (λi=>(hd i).2) a b
structure qj(z:List (Int×Int))(aM sk:Int)(sw:List Int):Prop where
 zl:ZL z
 l1:1<=aM
 l2:aM<=1000000000
 l3:∀p∈z,aM % p.2=0
 k0:0<=sk
 k1:sk<aM
 so:SwOk sw (z.map (·.1)).sum
noncomputable def plW(z:List (Int×Int))(aM sk:Int)(sw:List Int)(nc:List (Int×Int)):Pl:=⟨counts z,aM,sk,sw,nc⟩
theorem qj.pl{z:List (Int×Int)}{aM sk:Int}{sw:List Int}(h:qj z aM sk sw)(nc:List (Int×Int)):kH (plW z aM sk sw nc):=Z2 h.zl h.l1 h.so
structure ZP(z:List (Int×Int)):Prop where
 r:∀p∈z,1<=p.1/\p.1<=3/\1<=p.2/\p.2<=8
 s2:2<=(z.map (·.1)).sum
theorem Nt:∀ {z:List (Int×Int)},(∀p∈z,1<=p.1/\p.1<=3)->0<=(z.map (·.1)).sum/\(z.map (·.1)).sum<=3*(z.length:Int)
 | [],_=>by simp
 | p::z,h=>by
  have ih:=Nt λq hq=>h q (List.mem_cons_of_mem _ hq);have:=h p List.mem_cons_self;rw[List.map_cons,List.sum_cons,List.length_cons];lia
theorem ZP.snoc{z:List (Int×Int)}(h:ZP z){p:Int×Int}(hp:1<=p.1/\p.1<=3/\1<=p.2/\p.2<=8):ZP (z++[p]):=by
 refine⟨λq hq=>?_,?_⟩
 ·rcases List.mem_append.mp hq with hq | hq
  ·exact h.r q hq
  ·rw[List.mem_singleton.mp hq];exact hp
 ·have:=h.s2;rw[List.map_append,List.sum_append];simp;lia
theorem abf{z:List (Int×Int)}{i:Nat}{p:Int×Int}(h:z[i]? = some p):counts (z.take (i+1))=counts (z.take i)++List.replicate p.1.toNat p.2:=by
 rw[take_succ_get h];simp[counts]
theorem Nu{z:List (Int×Int)}(zl:ZL z){x:Int}(h0:0<=x)(h1:x<900\/x<1000000000 / cZ z):1<=cZ z*(1+x)/\cZ z*(1+x)<=1000000000/\∀p∈z,cZ z*(1+x) % p.2=0:=by
 have hb:=wI (m:=60) (by decide) z λp hp=>(zl.ok.r p hp).2.2
 have hp:=zl.pr;have hm:∃m,1+x<=m/\cZ z*m<=1000000000:=by
  rcases h1 with h1 | h1
  ·exact⟨900,by lia,by lia⟩
  ·exact⟨1000000000 / cZ z,by lia,Int.mul_ediv_self_le (by lia)⟩
 obtain⟨m,m1,m2⟩:=hm;refine⟨?_,?_,λp hp=>Int.emod_eq_zero_of_dvd (Int.dvd_trans (MC hp) (Int.dvd_mul_right _ _))⟩
 ·have:=Int.mul_le_mul hb.1 (show 1<=1+x by lia) (by decide) (by lia);lia
 ·have:=Int.mul_le_mul (Int.le_refl (cZ z)) m1 (by lia) (by lia);lia
theorem Zn.one{H:Hp}{l t:Addr}{c:Int×Int}(h:H t=some (.tup [.int c.1,.int c.2]))(nl:H l=none):Zn (upd H l (.lst [.ref t])) l [t] [c]:=by
 refine⟨aB,rfl,λi t' p e1 e2=>?_⟩;cases i with
 | zero =>
  simp at e1 e2;subst e1 e2;rw[az (bW h nl)];exact h
 | succ i=>simp at e1
theorem Nv(v:Int):∀k:Nat,(List.replicate k [V.int v]).flatten=(List.replicate k v).map V.int
 | 0=>rfl
 | k+1=>by rw[List.replicate_succ,List.flatten_cons,Nv v k,List.replicate_succ,List.map_cons];rfl
noncomputable def dX(nc:List (Int×Int))(f m:Int):List (Int×Int):=(nc.drop f.toNat).take m.toNat
theorem abg{nc:List (Int×Int)}{f:Int}{i:Nat}{c:Int×Int}(h0:0<=f)(h:nc[(f+(i:Int)).toNat]? = some c):(nc.drop f.toNat).take (i+1)=(nc.drop f.toNat).take i++[c]:=by
 refine take_succ_get ?_;rw[List.getElem?_drop,show f.toNat+i=(f+(i:Int)).toNat by lia];exact h
noncomputable def abh(K:PySem.W.Frag)(cs:List Addr)(CA:Addr):Sp:=λvs H Q _=>∃(C p ap:Addr) (P:Pl) (fp:List Addr) (q:Ak) (m b dx:Addr),vs = [.ref p,.ref ap]/\C∈cs/\bO K C H p P fp/\dI K CA H ap q m b dx/\wX P.nc.length q/\P.nc.length<=1000000/\
 ∀l ts H',ah H H'->H l=none->Zn H' l ts (dX P.nc q.first q.many)->Q (.ref l) H'
noncomputable def abi(K:PySem.W.Frag)(cs:List Addr)(CA:Addr):Sp:=λvs H Q _=>∃(C p ap:Addr) (k:Int) (P:Pl) (fp:List Addr) (q:Ak) (m b dx:Addr),vs = [.ref p,.int k,.ref ap]/\C∈cs/\bO K C H p P fp/\dI K CA H ap q m b dx/\wX P.nc.length q/\P.nc.length<=1000000/\
 ∀l ts H',ah H H'->H l=none->Zn H' l ts (dX P.nc q.first q.many)->Q (.ref l) H'
structure Dr where
 n:Int
 q:Ak
 c:List (Int×Int)
noncomputable def iC(n:Int)(ap l:Addr):List (Str×V):=[("number",.int n),("ask",.ref ap),("cells",.ref l)]
structure gH(K:PySem.W.Frag)(CA CD:Addr)(H:Hp)(p:Addr)(d:Dr)(dx ap l:Addr)(ts:List Addr)(m b bu:Addr):Prop where
 o:H p=some (.ins CD dx (iC d.n ap l))
 a:dI K CA H ap d.q m b bu
 c:Zn H l ts d.c
theorem gH.same{K:PySem.W.Frag}{CA CD:Addr}{H H':Hp}{p:Addr}{d:Dr}{dx ap l:Addr}{ts:List Addr}{m b bu:Addr}(h:gH K CA CD H p d dx ap l ts m b bu)(s:ah H H'):gH K CA CD H' p d dx ap l ts m b bu:=⟨s _ _ h.o,h.a.same s,h.c.same s⟩
noncomputable def abj(K:PySem.W.Frag)(cs:List Addr)(CA CD:Addr):Sp:=λvs H Q _=>∃(C p pl ap dx:Addr) (n:Int) (P:Pl) (fp:List Addr) (q:Ak) (m b bu:Addr),vs = [.ref p,.ref pl,.int n,.ref ap]/\H p=some (.ins CD dx [])/\C∈cs/\bO K C H pl P fp/\p≠pl/\p∉fp/\dI K CA H ap q m b bu/\wX P.nc.length q/\P.nc.length<=1000000/\
 ∀l ts H',H l=none->SameBut p H H'->gH K CA CD H' p ⟨n,q,dX P.nc q.first q.many⟩ dx ap l ts m b bu->Q .aI H'
structure eV(K:PySem.W.Frag)(CA CD:Addr)(H:Hp)(l:Addr)(ps:List Addr)(ds:List Dr):Prop where
 l:H l=some (.lst (ps.map V.ref))
 n:ps.length=ds.length
 t:∀(i:Nat) (p:Addr) (d:Dr),ps[i]? = some p->ds[i]? = some d->∃dx ap l ts m b bu,gH K CA CD H p d dx ap l ts m b bu
theorem eV.same{K:PySem.W.Frag}{CA CD:Addr}{H H':Hp}{l:Addr}{ps:List Addr}{ds:List Dr}(h:eV K CA CD H l ps ds)(s:ah H H'):eV K CA CD H' l ps ds :=
 ⟨s _ _ h.l,h.n,λi p d e1 e2=>let ⟨dx,ap,l,ts,m,b,bu,a⟩:=h.t i p d e1 e2;⟨dx,ap,l,ts,m,b,bu,a.same s⟩⟩
theorem bf{N ps:List Str}{scope:Scope}(h:aW N ps scope:=by exact⟨rfl,rfl,rfl,by decide +kernel,rfl,by decide +kernel,by decide +kernel⟩):aW N ps scope:=h
class Nx where
 nx:St->Hp->Prop
noncomputable def Later[c:Nx](σ:St)(H:Hp):Prop:=c.nx σ H
noncomputable def abk(t:TS):TS:=λD σ H=>∃M:St->Hp->Prop,t { D with nx:=M } σ H/\∀eN H1,M eN H1->@Later ⟨D.nx⟩ eN H1
theorem ou{X:Cx}{st:Stmt}{t:TS}(h:PS X st t):PS X st (abk t):=Zy h
theorem ajQ{c:Nx}{x:Option V}{σ:St}{H:Hp}:@Later c (x::σ) H=c.nx (x::σ) H:=rfl
end _L
namespace _L
open PySem PySem.Spec PyProof.Rows PySem.W
section
variable{X:Cx}{pins:List (Addr×Obj)}{σ:St}{H:Hp}{s:Shared}
theorem Inv.w_{h':Heap}{tk:Nat}{k:Addr}{o o':Obj}(I:Inv X pins σ H s)(Em:(k,o)∈pins)(hs:X.bx.heap.objs.size<=k)(hc:∀x c,X.env.cells.lookup x=some c->c≠k){eK:List (Addr×Obj)}(hp:∀p∈X.pn++eK,p.1≠k)(En:∀p∈eK,p∈pins)
  (e:h'.get? k=some o') (hd:∀v,o'.data≠.cell v) (kk:∀b u,b≠k->s.heap.get? b=some u->h'.get? b=some u):Inv X ((k,o')::eK) σ H { s with heap:=h',toks:=tk }:=by
 have p0:=I.pin (k,o) (List.mem_append_right _ Em);obtain⟨m,hm,_⟩:=id I.loc;have J:Inv X eK σ H s:=I.j5 λp hp=>I.pin p (List.mem_append_right _ (En p hp));have sO:h'.Ns X.env.locals m:=by
  obtain⟨o2,es,ep,e2,r⟩:=hm;exact⟨o2,es,ep,kk _ _ (Ne.symm p0.2.2.1) e2,r⟩
 have J2:=J.chg (tk:=tk) hm sO p0.2.1 hs p0.2.2.1 hc hp ⟨_,e⟩ λb u _ hb q=>kk b u hb q;refine J2.j5 λp Eo=>?_;rcases List.mem_cons.mp Eo with z | z
 ·rw[z];exact⟨e,p0.2.1,p0.2.2.1,p0.2.2.2.1,hd⟩
 ·exact J2.pin p (List.mem_append_right _ z)
theorem Inv.Ny{h':Heap}{tk:Nat}{k:Addr}{o:Obj}(I:Inv X pins σ H s)(Em:(k,o)∈pins)(hs:X.bx.heap.objs.size<=k)(hc:∀x c,X.env.cells.lookup x=some c->c≠k){eK:List (Addr×Obj)}(hp:∀p∈X.pn++eK,p.1≠k)(En:∀p∈eK,p∈pins)
  (kk:∀b u,b≠k->s.heap.get? b=some u->h'.get? b=some u):Inv X eK σ H { s with heap:=h',toks:=tk }:=by
 have p0:=I.pin (k,o) (List.mem_append_right _ Em);obtain⟨m,hm,_⟩:=id I.loc;have J:Inv X eK σ H s:=I.j5 λp hp=>I.pin p (List.mem_append_right _ (En p hp));have sO:h'.Ns X.env.locals m:=by
  obtain⟨o2,es,ep,e2,r⟩:=hm;exact⟨o2,es,ep,kk _ _ (Ne.symm p0.2.2.1) e2,r⟩
 have nk:∀b v,H b=some v->b≠k:=λb v e z=>by rw[z,p0.2.1] at e;cases e
 refine J.step (g':=s.gens) (d':=s.drawn) (ch:=[k]) (λb z=>by rw[List.mem_singleton.mp z];exact⟨.inr hs,p0.2.2.1,hc,hp⟩) (λb o hb _ hk e _=>kk b o (by simpa using hk) e) (λb o hb _ hk e _=>⟨o.slots,kk b o (by simpa using hk) e⟩) (λ_ _ _ _ n=>n) (λb o hk e=>?_) (λ_ _ e=>e) (λ_ _ _ e=>e)
  (λb ps e=>⟨#[],by rw[e];simp⟩) (λm' wW=>?_) (λb v e=>(J.aD b v e).fE (λc o hc e'=>kk c o ?_ e') (λ_ e=>e) (λ_ _ e=>e)) J.bare
 ·exact⟨o,kk b o (by simpa using hk) e⟩
 ·obtain⟨o2,es,ep,e2,r⟩:=wW;exact⟨o2,es,ep,kk _ _ (Ne.symm p0.2.2.1) e2,r⟩
 ·rcases hc with z | z
  ·rw[z];exact nk b v e
  ·exact nk c _ z
variable{scope:Scope}{cl:List (Str×Addr)}{ps fs:List Str}{fv:List Nat}{qual name:Str}{f c' P l S It:Addr}{params:Arguments}{body:Expr}{te:TE}{pm c8:Value}{pos:Pos}{kv:Nat->List Int}{H1:Hp}{as:List Addr}
theorem xg:∀ {as:List Addr} {aq:List Value},Vals (as.map V.ref) aq->aq=as.map Value.ref
 | [],_,h=>by cases h;rfl
 | a::as,_,h=>by
  cases h with
  | cons r h=>cases r;rw[List.map_cons,xg h]
theorem abl(SS:jS X scope cl ps fs fv)(qk:ps.length=1)(he:∀s H,PE (sN X X.A.in1 qual scope f c' cl (ps++fs) s H) body te)(ow:X.calm=true)(kK:X.A.in1.depth<recursionLimit)(hu:X.A.units+16<cLine)
  (hf:(f,kla_obj name qual params body scope cl pm c' c8)∈pins) (hc:H1 c' = some (mz c' qual)) (sU:c'≠P) (jh:∀u,bindArgs (kla_fn name qual params body scope cl pm (.ref c') c8) ⟨[u],[]⟩=pure (ps.zip [u]))
  (hl:H1 l=some (.lst (as.map V.ref))) (qm:l≠P)
  (lX:∀(j:Nat) (a:Addr) (H:Hp),as[j]? = some a->SameBut P H1 H->bH P pos qual H->te (oh σ [.ref a] fv) H λv H'=>∃k,v = .ref k/\H' k=some (.tup ((kv j).map V.int))/\SameBut P H H'/\bH P pos qual H')
  (two:∀b,b=S\/b=It->X.bx.heap.objs.size<=b/\(∀x c,X.env.cells.lookup x=some c->c≠b)/\∀p∈X.pn++pins,p.1≠b) (fQ:S≠It)
  {R:Result->Shared->Prop} (hR:∀(i:Nat) (a:Addr) (H:Hp) (s:Shared),as[i]? = some a->(∀j,j<as.length->¬ _H.lexLt (kv j) (kv i)=true)->SameBut P H1 H->bH P pos qual H->Inv X pins σ H s->R (.ok (.ret (.ref a))) s) :
  ∀(r j i:Nat) (H:Hp) (s:Shared) (a ka:Addr) (c:Nat) (oI:Obj),as.length - (j+1)=r->j+1<=as.length->Inv X ((S,seqObj "list" #[.ref a,.ref ka] c)::(It,oI)::pins) σ H s->SameBut P H1 H->bH P pos qual H->s.heap.IsListIter It l (j+1)->as[i]? = some a->
   H ka=some (.tup ((kv i).map V.int))->(∀j',j'<=j->¬ _H.lexLt (kv j') (kv i)=true)->codeAny (model X.prog X.w) X.A (.builtin "min.loop" ⟨[.ref It,.ref f,.ref S],[]⟩) R s:=by
 have sV:(toString "min" ++ toString ".loop" : String) = "min.loop" := by decide
 have xh:∀(a:Array Value) (e:Nat) v,(seqObj "list" a e).data≠.cell v:=λa e v z=>by cases z
 have lst:∀ {eK:List (Addr×Obj)} {H:Hp} {s:Shared},Inv X eK σ H s->SameBut P H1 H->s.heap.IsList l (as.map Value.ref).toArray:=λI sb=>by
  obtain⟨aq,r,pl,_⟩:=I.list (aA.of (K:=X.K) (sb _ _ hl qm));rw[← xg r];exact pl.isList
 have tS:=two S (.inl rfl);have tI:=two It (.inr rfl);have hsz:(as.map Value.ref).toArray.size=as.length:=by simp
 have Nz:∀ {oS:Obj},∀p∈X.pn++((S,oS)::pins),p.1≠It:=λp hp=>by
  rcases List.mem_append.mp hp with z | z
  ·exact tI.2.2 p (List.mem_append_left _ z)
  ·rcases List.mem_cons.mp z with z | z
   ·rw[z];exact fQ
   ·exact tI.2.2 p (List.mem_append_right _ z)
 have pnS:∀ {oI:Obj},∀p∈X.pn++((It,oI)::pins),p.1≠S:=λp hp=>by
  rcases List.mem_append.mp hp with z | z
  ·exact tS.2.2 p (List.mem_append_left _ z)
  ·rcases List.mem_cons.mp z with z | z
   ·rw[z];exact fQ.symm
   ·exact tS.2.2 p (List.mem_append_right _ z)
 intro r
 induction r with
 | zero =>
  intro j i H s a ka c oI hr hj I0 sb tab hit ha Ep qo;have hin:j+1=as.length:=by lia
  have hh:=I0.ok.hd ow;have pS:=I0.pin (S,seqObj "list" #[.ref a,.ref ka] c) (List.mem_append_right _ (List.mem_cons_self ..));refine codeAny_builtin PySem.F.entry_min_loop ?_;rw[Around.under_plainId PySem.F.plain_min_loop _]
  show wpAny _ X.A.in1 (seqItems? (.ref S) >>= _) _ _ _;refine wpAny_bind (wpAny_seqItems pS.1 rfl ?_)
  show wpAny _ X.A.in1 (tryCatch (pyNext (.ref It)) _ >>= _) _ _ _;refine wpAny_bind (wpAny_tryCatch (wpAny_pyNext_list_end (A:=X.A.in1) hh hit (lst I0 sb) (by rw[Array.getElem?_eq_none];rw[hsz];lia) λh' r_=>?_))
  have kL:=r_ S _ fQ pS.1;have J:=I0.Ny (tk:=s.toks) (k:=It) (o:=oI) (eK:=(S,seqObj "list" #[.ref a,.ref ka] c)::pins) (List.mem_cons_of_mem _ (List.mem_cons_self ..)) tI.1 tI.2.1 Nz (λp hp=>by
   rcases List.mem_cons.mp hp with z | z
   ·rw[z];exact List.mem_cons_self ..
   ·exact List.mem_cons_of_mem _ (List.mem_cons_of_mem _ z)) λb u hb e=>r_ b u hb e
  show wpAny _ X.A.in1 (updateSeq S (λ_ => #[]) >>= _) _ _ _;refine wpAny_bind ?_;refine wpAny_updateSeq kL rfl (wpAny_bind (wpAny_letGo (wpAny_pure ?_)));refine hR i a H _ ha (λj' oz=>qo j' (by lia)) sb tab (J.Ny (tk:=s.toks) (k:=S) (o:=seqObj "list" #[.ref a,.ref ka] c) (List.mem_cons_self ..) tS.1 tS.2.1 tS.2.2 (λp hp=>List.mem_cons_of_mem _ hp) λb u hb e=>?_)
  exact(Heap.get?_update_other _ _ (Ne.symm hb)).trans e
 | succ r ih =>
  intro j i H s a ka c oI hr hj I0 sb tab hit ha Ep qo;have bQ:j+1<as.length:=by lia
  have hh:=I0.ok.hd ow;have pS:=I0.pin (S,seqObj "list" #[.ref a,.ref ka] c) (List.mem_append_right _ (List.mem_cons_self ..));have hv:as[j+1]? = some as[j+1]:=List.getElem?_eq_getElem bQ;generalize as[j+1] = b0 at hv;refine codeAny_builtin PySem.F.entry_min_loop ?_;rw[Around.under_plainId PySem.F.plain_min_loop _]
  show wpAny _ X.A.in1 (seqItems? (.ref S) >>= _) _ _ _;refine wpAny_bind (wpAny_seqItems pS.1 rfl ?_)
  show wpAny _ X.A.in1 (tryCatch (pyNext (.ref It)) _ >>= _) _ _ _;refine wpAny_bind (wpAny_tryCatch (wpAny_pyNext_list_item (A:=X.A.in1) hit (lst I0 sb) (x:=.ref b0) (by simp[hv]) λh' pZ gD=>?_))
  obtain⟨iD,Er,nj,qp⟩:=id pZ;have kL:=gD.extBut S _ fQ pS.1;have J0:=I0.w_ (tk:=s.toks) (k:=It) (o:=oI) (o':=iD) (eK:=(S,seqObj "list" #[.ref a,.ref ka] c)::pins) (List.mem_cons_of_mem _ (List.mem_cons_self ..)) tI.1 tI.2.1 Nz (λp hp=>by
   rcases List.mem_cons.mp hp with z | z
   ·rw[z];exact List.mem_cons_self ..
   ·exact List.mem_cons_of_mem _ (List.mem_cons_of_mem _ z)) Er (λv z=>by rw[qp] at z;cases z) λb u hb e=>gD.extBut b u hb e
  have J:Inv X ((S,seqObj "list" #[.ref a,.ref ka] c)::(It,iD)::pins) σ H { s with heap:=h',toks:=s.toks }:=J0.j5 λp hp=>J0.pin p (List.mem_append_right _ (by
   rcases List.mem_cons.mp hp with z | z
   ·rw[z];exact List.mem_cons_of_mem _ (List.mem_cons_self ..)
   ·rcases List.mem_cons.mp z with z | z
    ·rw[z];exact List.mem_cons_self ..
    ·exact List.mem_cons_of_mem _ (List.mem_cons_of_mem _ z)))
  have pf:=J.pin _ (List.mem_append_right _ (List.mem_cons_of_mem _ (List.mem_cons_of_mem _ hf)));have mC:=Nf J.aD (sb _ _ hc sU)
  show wpAny _ X.A.in1 (tryCatch (holding [.ref b0] (call (.ref f) [.ref b0])) _ >>= _) _ _ _;refine wpAny_bind (wpAny_tryCatch (wpAny_holding (wpAny_mono (Nc (us:=[.ref b0]) (vs:=[.ref b0]) SS J J.ok.frames (λ_=>hh) kK pf.1 mC (jh _) (.cons rfl .nil) (by simpa using qk.symm) (he _ H) (lX (j+1) b0 H hv sb tab)) (λx gA hq=>?_) λ_ _ hF=>hF.elim)))
  obtain⟨v,H2,J',rv,⟨kb,rfl,qg,NB,oA⟩,_⟩:=hq;cases rv;have xj:SameBut P H1 H2:=sb.trans NB;have NC:H2 ka=some (.tup ((kv i).map V.int)):=NB _ _ Ep (tab.ne Ep (by intro _ z;cases z))
  have sW:=J'.pin (S,seqObj "list" #[.ref a,.ref ka] c) (List.mem_append_right _ (List.mem_cons_self ..));have xm:=J'.pin (It,iD) (List.mem_append_right _ (List.mem_cons_of_mem _ (List.mem_cons_self ..)));have abm:gA.heap.IsListIter It l (j+1+1):=⟨iD,xm.1,nj,qp⟩;obtain⟨i1,r1,q1,_⟩:=J'.tuple (bq.of (K:=X.K) qg);obtain⟨i2,r2,q2,_⟩:=J'.tuple (bq.of (K:=X.K) NC)
  show wpAny _ X.A.in1 (tryCatch (holding [.ref b0,.ref kb] (richCompare .Lt (.ref kb) (.ref ka) >>= _)) _ >>= _) _ _ _;refine wpAny_bind (wpAny_tryCatch (wpAny_holding (wpAny_bind (_H.XS q1 q2 (intsAre_of r1) (intsAre_of r2) (by show X.A.units+1<cLine;lia) ?_))))
  refine wpAny_bind (wpAny_holding (wpAny_truthy_bool ?_));refine wpAny_bind (wpAny_letGo (wpAny_pure ?_));cases jE:_H.lexLt (kv (j+1)) (kv i) with
  | true =>
   simp only[if_true];refine wpAny_bind ?_;refine wpAny_updateSeq sW.1 rfl (wpAny_bind (wpAny_letGo ?_));rw[sV];have sX:∀b u,b≠S->gA.heap.get? b=some u->(gA.heap.update S (Obj.mapSeq λ_ => #[.ref b0,.ref kb])).get? b=some u:=λb u hb e=>(Heap.get?_update_other _ _ (Ne.symm hb)).trans e;obtain⟨c2,iz⟩:∃c2,(gA.heap.update S (Obj.mapSeq λ_ => #[.ref b0,.ref kb])).get? S=some (seqObj "list" #[.ref b0,.ref kb] c2):=⟨_,get?_update_seq sW.1 λ_ => #[.ref b0,.ref kb]⟩;have J2:=J'.w_ (tk:=gA.toks) (k:=S) (o:=seqObj "list" #[.ref a,.ref ka] c) (o':=seqObj "list" #[.ref b0,.ref kb] c2) (eK:=(It,iD)::pins) (List.mem_cons_self ..) tS.1 tS.2.1 pnS (λp hp=>List.mem_cons_of_mem _ hp) iz (xh _ _) sX;refine wpAny_pure ⟨plainId_quiet PySem.F.plain_min_loop _,ih (j+1) (j+1) H2 _ b0 kb c2 iD (by lia) bQ J2 xj oA ⟨iD,sX _ _ fQ.symm xm.1,nj,qp⟩ hv qg λj' oz=>?_⟩
   by_cases e:j' = j+1
   ·rw[e];exact wM _
   ·exact abd (abb jE) (qo j' (by lia))
  | false =>
   simp only[Bool.false_eq_true,if_false];refine wpAny_bind (wpAny_letGo ?_);rw[sV];refine wpAny_pure ⟨plainId_quiet PySem.F.plain_min_loop _,ih (j+1) i H2 _ a ka c iD (by lia) bQ J' xj oA abm ha NC λj' oz=>?_⟩
   by_cases e:j' = j+1
   ·rw[e,jE];simp
   ·exact qo j' (by lia)
theorem abn{Q:VK}(SS:jS X scope cl ps fs fv)(qk:ps.length=1)(he:∀s H,PE (sN X X.A.in1 qual scope f c' cl (ps++fs) s H) body te)(ow:X.calm=true)(kK:X.A.in1.depth<recursionLimit)(hu:X.A.units+16<cLine)
  (I:Inv X ((f,kla_obj name qual params body scope cl pm c' c8)::pins) σ H s) (hc:H c' = some (mz c' qual)) (sU:c'≠P) (tab:bH P pos qual H) (jh:∀u,bindArgs (kla_fn name qual params body scope cl pm (.ref c') c8) ⟨[u],[]⟩=pure (ps.zip [u]))
  (hl:H l=some (.lst (as.map V.ref))) (e9:0<as.length)
  (lX:∀(j:Nat) (a:Addr) (H2:Hp),as[j]? = some a->SameBut P H H2->bH P pos qual H2->te (oh σ [.ref a] fv) H2 λv H'=>∃k,v = .ref k/\H' k=some (.tup ((kv j).map V.int))/\SameBut P H2 H'/\bH P pos qual H')
  (q:∀(i:Nat) (a:Addr) (H':Hp),as[i]? = some a->(∀j,j<as.length->¬ _H.lexLt (kv j) (kv i)=true)->SameBut P H H'->bH P pos qual H'->Q (.ref a) H') :
  wpAny (model X.prog X.w) X.A (call (.builtin "min") [.ref l] [(Str.ofString "key",.ref f)]) (EP X pins σ Q) X.xe s:=by
 have sV:(toString "min" ++ toString ".loop" : String) = "min.loop" := by decide
 have hh:=I.ok.hd ow;have qm:l≠P:=tab.ne hl (by intro _ z;cases z)
 have xh:∀(a:Array Value) (e:Nat) v,(seqObj "list" a e).data≠.cell v:=λa e v z=>by cases z
 obtain⟨aq,rv,pl,_⟩:=I.list (aA.of (K:=X.K) hl);have ei:=xg rv;subst ei;have qq:=pl.isList;refine kmk_tree PySem.F.kind_min PySem.F.plain_min PySem.F.entry_min (kmk_min_key _ _) ?_
 show wpAny _ X.A.in1 (Builtin.Builtins.bindParams "min" ["key", "default"] 0 ⟨[],[(Str.ofString "key",.ref f)]⟩ >>= _) _ _ s;refine wpAny_bind (wpAny_of_eq (show Builtin.Builtins.bindParams "min" ["key", "default"] 0 ⟨[],[(Str.ofString "key",.ref f)]⟩=pure [some (.ref f),none] from rfl) ?_);refine wpAny_bind (wpAny_pure ?_);refine wpAny_bind (wpAny_pyIter_list qq ?_);refine wpAny_bind (wpAny_newList ?_ (Nat.zero_le _));rw[sV];refine wpAny_pure ⟨plainId_quiet PySem.F.plain_min_loop _,?_⟩;have k1:∀b o,s.heap.get? b=some o->(s.heap.push { cls:=.type "list_iterator",data:=.fields #[.ref l,.int 0 0] }).get? b=some o:=λb o e=>Heap.get?_push_of_some _ e;have gI:=Heap.get?_push_size s.heap (o:=({ cls:=.type "list_iterator",data:=.fields #[.ref l,.int 0 0] }:Obj)) rfl;have z1:(s.heap.push { cls:=.type "list_iterator",data:=.fields #[.ref l,.int 0 0] }).objs.size=s.heap.objs.size+1:=size_push' ..;generalize s.heap.push { cls:=.type "list_iterator",data:=.fields #[.ref l,.int 0 0] }=h1 at k1 gI z1 ⊢;have k2:∀b o,h1.get? b=some o->(h1.push (seqObj "list" #[] 0)).get? b=some o:=λb o e=>Heap.get?_push_of_some _ e;have gS:=Heap.get?_push_size h1 (o:=seqObj "list" #[] 0) rfl;have ND:=k2 _ _ gI;have kk:∀b o,s.heap.get? b=some o->(h1.push (seqObj "list" #[] 0)).get? b=some o:=λb o e=>k2 b o (k1 b o e);have I1:=I.kept (t':=s.toks) kk;have Es:s.heap.objs.size<=s.heap.objs.size:=Nat.le_refl _;have xq:s.heap.objs.size<=h1.objs.size:=by lia
 have fQ:h1.objs.size≠s.heap.objs.size:=by lia
 have own:∀b,s.heap.objs.size<=b->X.bx.heap.objs.size<=b/\(∀x c,X.env.cells.lookup x=some c->c≠b)/\∀p∈X.pn++((f,kla_obj name qual params body scope cl pm c' c8)::pins),p.1≠b:=λb hb=>by
  refine⟨Nat.le_trans I.sz hb,λx c e=>?_,λp hp=>Nat.ne_of_lt (Nat.lt_of_lt_of_le (Heap.lt_size (I.pin p hp).1) hb)⟩;obtain⟨v,o,z,_⟩:=I.cell x c e;exact Nat.ne_of_lt (Nat.lt_of_lt_of_le (Heap.lt_size z) hb)
 show codeAny _ _ _ _ { s with heap:=h1.push (seqObj "list" #[] 0),toks:=s.toks };have I2:Inv X ((h1.objs.size,seqObj "list" #[] 0)::(s.heap.objs.size,{ cls:=.type "list_iterator",data:=.fields #[.ref l,.int 0 0] })::(f,kla_obj name qual params body scope cl pm c' c8)::pins) σ H { s with heap:=h1.push (seqObj "list" #[] 0),toks:=s.toks }:=by
  refine I1.j5 λp hp=>?_;rcases List.mem_cons.mp hp with z | hp
  ·rw[z];exact⟨gS,I.aD.fresh xq,Nat.ne_of_gt (Nat.lt_of_lt_of_le I.lt xq),I.rB xq,xh _ _⟩
  ·rcases List.mem_cons.mp hp with z | hp
   ·rw[z];exact⟨ND,I.aD.fresh Es,Nat.ne_of_gt I.lt,I.rB Es,λv z=>by cases z⟩
   ·exact I1.pin p (List.mem_append_right _ hp)
 have o1:=own s.heap.objs.size Es;have o2:=own h1.objs.size xq;clear gI k1 z1;generalize h1.objs.size=S at *
 generalize s.heap.objs.size=It at *
 generalize h1.push (seqObj "list" #[] 0)=h2 at *
 have lst:∀ {eK:List (Addr×Obj)} {H':Hp} {s:Shared},Inv X eK σ H' s->SameBut P H H'->s.heap.IsList l (as.map Value.ref).toArray:=λI sb=>by
  obtain⟨aq,r,pl,_⟩:=I.list (aA.of (K:=X.K) (sb _ _ hl qm));rw[← xg r];exact pl.isList
 have hv:as[0]? = some as[0]:=List.getElem?_eq_getElem e9;generalize as[0] = b0 at hv;have hit:h2.IsListIter It l 0:=⟨_,ND,rfl,rfl⟩;have refl:SameBut P H H:=λ_ _ e _=>e;refine codeAny_builtin PySem.F.entry_min_loop ?_;rw[Around.under_plainId PySem.F.plain_min_loop _]
 show wpAny _ X.A.in1 (seqItems? (.ref S) >>= _) _ _ _;refine wpAny_bind (wpAny_seqItems gS rfl ?_)
 show wpAny _ X.A.in1 (tryCatch (pyNext (.ref It)) _ >>= _) _ _ _;refine wpAny_bind (wpAny_tryCatch (wpAny_pyNext_list_item (A:=X.A.in1) hit (lst I2 refl) (x:=.ref b0) (by simp[hv]) λh' pZ gD=>?_))
 obtain⟨iD,Er,nj,qp⟩:=id pZ;have kL:=gD.extBut S _ fQ gS;have J0:=I2.w_ (tk:=s.toks) (k:=It) (o':=iD) (eK:=(S,seqObj "list" #[] 0)::(f,kla_obj name qual params body scope cl pm c' c8)::pins) (List.mem_cons_of_mem _ (List.mem_cons_self ..)) o1.1 o1.2.1 (λp hp=>by
  rcases List.mem_append.mp hp with z | z
  ·exact o1.2.2 p (List.mem_append_left _ z)
  ·rcases List.mem_cons.mp z with z | z
   ·rw[z];exact fQ
   ·exact o1.2.2 p (List.mem_append_right _ z)) (λp hp=>by
  rcases List.mem_cons.mp hp with z | z
  ·rw[z];exact List.mem_cons_self ..
  ·exact List.mem_cons_of_mem _ (List.mem_cons_of_mem _ z)) Er (λv z=>by rw[qp] at z;cases z) λb u hb e=>gD.extBut b u hb e
 have pf:=J0.pin _ (List.mem_append_right _ (List.mem_cons_of_mem _ (List.mem_cons_of_mem _ (List.mem_cons_self ..))));have mC:=Nf J0.aD hc
 show wpAny _ X.A.in1 (tryCatch (holding [.ref b0] (call (.ref f) [.ref b0])) _ >>= _) _ _ _;refine wpAny_bind (wpAny_tryCatch (wpAny_holding (wpAny_mono (Nc (us:=[.ref b0]) (vs:=[.ref b0]) SS J0 J0.ok.frames (λ_=>hh) kK pf.1 mC (jh _) (.cons rfl .nil) (by simpa using qk.symm) (he _ H) (lX 0 b0 H hv refl tab)) (λx gA hq=>?_) λ_ _ hF=>hF.elim)))
 obtain⟨v,H2,J',rv,⟨kb,rfl,qg,xj,oA⟩,_⟩:=hq;cases rv;have xm:=J'.pin (It,iD) (List.mem_append_right _ (List.mem_cons_self ..));have sW:=J'.pin (S,seqObj "list" #[] 0) (List.mem_append_right _ (List.mem_cons_of_mem _ (List.mem_cons_self ..)))
 show wpAny _ X.A.in1 (updateSeq S (λ_ => #[.ref b0,.ref kb]) >>= _) _ _ _;refine wpAny_bind ?_;refine wpAny_updateSeq sW.1 rfl ?_;rw[sV];have sX:∀b u,b≠S->gA.heap.get? b=some u->(gA.heap.update S (Obj.mapSeq λ_ => #[.ref b0,.ref kb])).get? b=some u:=λb u hb e=>(Heap.get?_update_other _ _ (Ne.symm hb)).trans e;obtain⟨c2,iz⟩:∃c2,(gA.heap.update S (Obj.mapSeq λ_ => #[.ref b0,.ref kb])).get? S=some (seqObj "list" #[.ref b0,.ref kb] c2):=⟨_,get?_update_seq sW.1 λ_ => #[.ref b0,.ref kb]⟩;have J2:=J'.w_ (tk:=gA.toks) (k:=S) (o:=seqObj "list" #[] 0) (o':=seqObj "list" #[.ref b0,.ref kb] c2) (eK:=(It,iD)::(f,kla_obj name qual params body scope cl pm c' c8)::pins) (List.mem_cons_of_mem _ (List.mem_cons_self ..)) o2.1 o2.2.1 (λp hp=>by
  rcases List.mem_append.mp hp with z | z
  ·exact o2.2.2 p (List.mem_append_left _ z)
  ·rcases List.mem_cons.mp z with z | z
   ·rw[z];exact fQ.symm
   ·exact o2.2.2 p (List.mem_append_right _ z)) (λp hp=>by
  rcases List.mem_cons.mp hp with z | z
  ·rw[z];exact List.mem_cons_self ..
  ·exact List.mem_cons_of_mem _ (List.mem_cons_of_mem _ z)) iz (xh _ _) sX
 refine wpAny_pure ⟨plainId_quiet PySem.F.plain_min_loop _,abl (kv:=kv) (S:=S) (It:=It) (pins:=(f,kla_obj name qual params body scope cl pm c' c8)::pins) SS qk he ow kK hu (List.mem_cons_self ..) hc sU jh hl qm lX (λb hb=>?_) fQ (λi a H' s3 ha qo sb abo I3=>?_) _ 0 0 H2 _ b0 kb c2 iD rfl e9 J2 xj oA ⟨iD,sX _ _ fQ.symm xm.1,nj,qp⟩ hv qg λj' oz=>?_⟩
 ·rcases hb with z | z
  ·rw[z];exact o2
  ·rw[z];exact o1
 ·exact⟨.ref a,H',I3.j5 λp hp=>I3.pin p (List.mem_append_right _ (List.mem_cons_of_mem _ hp)),rfl,q i a H' ha qo sb abo⟩
 ·rw[show j' = 0 by lia];exact wM _
noncomputable def abp(P:Addr)(pos:Pos)(qual:Str)(te:TE)(fv:List Nat)(tl:TE):TE:=λσ H Q=>tl σ H λx H1=>∃(l:Addr) (as:List Addr) (kv:Nat->List Int),x = .ref l/\H1 l=some (.lst (as.map V.ref))/\0<as.length/\bH P pos qual H1/\
 (∀(j:Nat) (a:Addr) (H2:Hp),as[j]? = some a->SameBut P H1 H2->bH P pos qual H2->te (oh σ [.ref a] fv) H2 λv H'=>∃k,v = .ref k/\H' k=some (.tup ((kv j).map V.int))/\SameBut P H2 H'/\bH P pos qual H')/\
 ∀(i:Nat) (a:Addr) (H':Hp),as[i]? = some a->(∀j,j<as.length->¬ _H.lexLt (kv j) (kv i)=true)->SameBut P H1 H'->bH P pos qual H'->Q (.ref a) H'
theorem abq{c:Addr}{e:Expr}{tl:TE}{p1 p4 kp:Pos}(hgS:Gl X "min")(hmS:X.mg "min" = none)(B:aY X.mg X.base c P)(mC:X.env.code = .ref c)(SS:jS X scope cl ps fs fv)(qk:ps.length=1)
  (abr:defaultsOf params X.env=([],[])) (hq:X.env.qual ++ "<lambda>" = qual) (jh:∀c' pm c8 u,bindArgs (kla_fn "<lambda>" qual params body scope cl pm (.ref c') c8) ⟨[u],[]⟩=pure (ps.zip [u]))
  (he:∀f c' s H,PE (sN X X.A.in1 qual scope f c' cl (ps++fs) s H) body te) (ow:X.calm=true) (kK:X.A.in1.depth<recursionLimit) (hu:X.A.units+16<cLine) (hl:PE X e tl)
  (hs:starEach [e] X.env = [(false,eval e X.env)]:=by rfl) :
  PE X (.Call (.Name "min" p1) [e] [⟨some "key",.Lambda params body scope pos,kp⟩] p4) (abp P pos qual te fv tl):=by
 intro pins s σ H Q I h;refine wpAny_Call_Name_kw (j6 I hgS hmS boot_min (callWith_kw (he:=by rw[hs];rfl) (hplain:=by rw[hs];rfl) ?_))
 rw[hs];refine Calls.spliced_cons (aK (hl pins s σ H _ I h) λu s1 ⟨v,H1,I1,r1,q1⟩=>?_);obtain⟨l,as,kv,e,NF,e9,tab,lX,q⟩:=q1;subst e;cases r1;refine Calls.spliced_nil ?_;refine kws_cons (kla_eval abr ?_);rw[hq];refine aa7 B mC SS.kE I1 tab λf c' c8 pm H' s' J sb oA hc=>kws_nil ?_;have sU:c'≠P:=by
  obtain⟨fO,z,_⟩:=oA;exact pF hc z (by intro y;cases y)
 have qm:l≠P:=tab.ne NF (by intro _ z;cases z)
 exact abn (kv:=kv) SS qk (he f c') ow kK hu J hc sU oA (jh c' pm c8) (sb _ _ NF qm) e9 (λj a H2 ha kM Et=>lX j a H2 ha (sb.trans kM) Et) λi a H2 ha hb kM Et=>q i a H2 ha hb (sb.trans kM) Et
end
end _L
namespace _L
open PySem PySem.Spec PyProof.Rows
section
variable{X:Cx}{pins:List (Addr×Obj)}{σ:St}{H:Hp}{s:Shared}{scope:Scope}{cl:List (Str×Addr)}{N:List Str}{nt:Nat}{fv:List Nat}{fp:List Addr}
end
section
variable{X:Cx}{tg iter elt:Expr}{ifs:List Expr}{scope:Scope}{cl:List (Str×Addr)}{N:List Str}{nt:Nat}{fv:List Nat}{pos:Pos}{wi:TI}{g:TG}{tt:TT}{te:TE}
end
noncomputable def T1(m:Nat)(led:Bool):SetTable:={ mask:=7,place := #[m % 8],dummies := #[],finger:=0,led,moves:=0,plain:=true }
noncomputable def xr(m n:Nat):Nat:=if n % 8=m % 8 then(5*(n % 8)+1) % 8 else n % 8
noncomputable def T2(m n:Nat)(led:Bool):SetTable:={ mask:=7,place:=if xr m n<m % 8 then #[xr m n,m % 8] else #[m % 8,xr m n],dummies := #[],finger:=0,led,moves:=0,plain:=true }
noncomputable def DP(m n:Nat)(y x:Value):Array (Int×Value):=if xr m n<m % 8 then #[((n:Int),x),((m:Int),y)] else #[((m:Int),y),((n:Int),x)]
section
variable{prog:Program}{w:World}{A:Around}{E:Value->Shared->Prop}{s:Shared}{a:Addr}{es Mp:Array (Int×Value)}{ep:Nat}{t t1:SetTable}{n:Int}{tk:Tok}
end
section
variable{prog:Program}{w:World}{A:Around}{R:Result->Shared->Prop}{s:Shared}{l I S:Addr}{m n:Nat}{tm tn:Tok}{led:Bool}
end
section
variable{prog:Program}{w:World}{A:Around}{E:Value->Shared->Prop}{s:Shared}
end
section
variable{prog:Program}{w:World}{A:Around}{E:Value->Shared->Prop}{s:Shared}{it d:Addr}{slot i n ep:Nat}{es:Array (Int×Value)}{t:SetTable}
end
section
variable{prog:Program}{w:World}{A:Around}{E:Value->Shared->Prop}{s:Shared}{d:Addr}{ep m n:Nat}{es:Array (Int×Value)}{tm tn:Tok}
noncomputable def abt(m n:Nat):List Int:=if m=n then [(m:Int)] else [(m:Int),(n:Int)]
end
section
variable{X:Cx}{e:Expr}{tl:TE}{p1 p2 p3 p4:Pos}
noncomputable def ajR(K:PySem.W.Frag)(tl:TE):TE:=λσ H Q=>tl σ H λx H1=>∃(l:Addr) (m n:Nat),x = .ref l/\aA K H1 l [.int (m:Int),.int (n:Int)]/\m<32/\n<32/\
 ∀(L:Addr) (ns:List Int),H1 L=none->ns.Perm (abt m n)->ns.Pairwise (·<=·)->Q (.ref L) (upd H1 L (.lst (ns.map V.int)))
end
structure xu(K:PySem.W.Frag)(C:Addr):Prop where
 makes:PySem.W.makesIn K C=true
 init:PySem.W.findIn K (.ref C) "__init__" = some (some (.builtin "object.__init__"))
 kp:PySem.W.keepIn K (.ref C)=true
noncomputable def abu(C:Addr):TE:=λ_ H Q=>∀x dx,H x=none->H dx=none->dx≠x->Q (.ref x) (upd (upd H dx (.own x)) x (.ins C dx []))
section
variable{X:Cx}{C:Addr}{x:Str}{p pos:Pos}
theorem abv{pins:List (Addr×Obj)}{σ:St}{H:Hp}{s:Shared}{Q:VK}(M:xu X.K C)(I:Inv X pins σ H s)
  (h:∀x dx,H x=none->H dx=none->dx≠x->Q (.ref x) (upd (upd H dx (.own x)) x (.ins C dx []))) :
  wpAny (model X.prog X.w) X.A (call (.ref C) []) (EP X pins σ Q) X.xe s:=by
 have hq:=h (s.heap.objs.size+1) s.heap.objs.size (I.aD.fresh (Nat.le_succ _)) (I.aD.fresh (Nat.le_refl _)) (Nat.ne_of_lt (Nat.lt_succ_self _));have I2:=Inv.made (C:=C) I;have Y:=PySem.W.makes_of (M:=model X.prog X.w) I.bX M.makes;refine wpAny_call (Xk I.bX M.makes M.init (λself=>PySem.W.Looks.of_pure (PySem.W.oi_bind self)) ?_);have e2:((s.heap.push PySem.W.emptyDict).push (PySem.W.instObj C s.heap.objs.size)).get? (s.heap.objs.size+1)=some (PySem.W.instObj C s.heap.objs.size):=by
  have:=Heap.get?_push_size (s.heap.push PySem.W.emptyDict) (o:=PySem.W.instObj C s.heap.objs.size) rfl;rwa [Heap.size_push] at this
 have t1:PySem.W.Looks (model X.prog X.w) ((s.heap.push PySem.W.emptyDict).push (PySem.W.instObj C s.heap.objs.size)) (typeOf (.ref (s.heap.objs.size+1))) (.ref C):=(PySem.W.Looks.ld e2).andThen .now;have t2:PySem.W.Looks (model X.prog X.w) ((s.heap.push PySem.W.emptyDict).push (PySem.W.instObj C s.heap.objs.size)) (isInstance (.ref (s.heap.objs.size+1)) (.type "object")) true:=t1.andThen (Y.top.keeps λb o e=>Heap.get?_push_of_some _ (Heap.get?_push_of_some _ e));refine codeAny_call_builtin PySem.W.oi_plain PySem.W.entry_oi (@PySem.W.check_slot (model X.prog X.w) _ _ _ "object.__init__" "object" "__init__" (.ref (s.heap.objs.size+1)) [] [] _ PySem.W.oi_kind PySem.W.oi_split t2 (PySem.W.oi_args (.ref (s.heap.objs.size+1))) ?_);rw[PySem.W.oi_run];exact wpAny_pure (And.intro rfl ⟨V.ref (s.heap.objs.size+1),_,I2,rfl,hq⟩)
theorem abw(M:xu X.K C)(hg:Gl X x)(hm:X.mg x=some (.ref C))(gb:(x == ("__debug__" : Str))=false:=by decide):PE X (.Call (.Name x p) [] [] pos) (abu C):=by
 intro pins s σ H Q I h;refine wpAny_Call_Name_kw (lP I hg hm ?_ gb);exact PySem.W.callWith_K0 I.bX M.kp (abv M I h)
end
noncomputable def NG(oB:List Addr)(lB:Sp)(oE:List Addr)(oF:Sp)(m:Str)(E:XK)(ta:TE)(t:TA):TE:=λσ H Q=>ta σ H λx H1=>∃C a dx fs,x = .ref a/\H1 a=some (.ins C dx fs)/\fs.lookup m=none/\
 ((C∈oB/\t σ H1 λvs H2=>lB (x::(vs++[])) H2 Q E)\/(C∈oE/\t σ H1 λvs H2=>oF (x::(vs++[])) H2 Q E))
section
variable{X:Cx}{CX:f_}{k1 k2:Nat}{f1 f2:Addr}{oB oE:List Addr}{mD mF:FuncData}{sY jm:List Str}{lB oF:Sp}{E:XK}{m:Str}{pos apos:Pos}{o e:Expr}{es:List Expr}{ta:TE}{t:TA}
theorem NH{pl:Sem Bool}(ho:PE X o ta)(eE:∀C∈oB,bR X.K C/\Meth X.K C m f1)(F1:aO X.prog X.w X.K X.mg X.base CX k1 f1 mD sY lB)(Eu:bN k1 X.A)(Ew:Binds X.K mD sY [])
  (iz:∀C∈oE,bR X.K C/\Meth X.K C m f2) (F2:aO X.prog X.w X.K X.mg X.base CX k2 f2 mF jm oF) (Ex:bN k2 X.A) (iT:Binds X.K mF jm []) (hx:Passes CX X E) (ha:PA X (e::es) t)
  (fF:starEach (e::es) X.env=(false,eval e X.env)::starEach es X.env:=by rfl) (dZ:(backTo pos (starEach es X.env)).any (·.1)=false:=by rfl)
  (n8:eval (.Call (.Attribute o m apos) (e::es) [] pos) X.env=(do
   let ov ← eval o X.env
   standAt apos.atName
   let (f,first) ← holding [ov] (getMethod ov m pl)
   callWith pos f first (backTo pos (starEach (e::es) X.env)) (backToKw pos (keywordEach [] X.env))):=by rfl):PE X (.Call (.Attribute o m apos) (e::es) [] pos) (NG oB lB oE oF m E ta t):=by
 intro pins s σ H Q I h;refine PySem.W.methodCall_KW (pl:=pl) (aK (ho pins s σ H _ I h) λu s1 hz=>?_) n8;obtain⟨x,H1,I1,rx,C,a,dx,fs,ex,ea,hl,q⟩:=hz;subst ex;cases (show u=Value.ref a from rx);rcases q with⟨hC,q⟩ | ⟨hC,q⟩
 ·obtain⟨c1,c2⟩:=eE C hC;refine lY I1 ea c1 c2 hl (PySem.W.callWith_K (first:=[.ref a]) (h₀:=X.base) I.ok.mod.i7 c2.kp (aK (ha pos pins s1 σ H1 _ I1 q) λus s2 hw=>?_) fF dZ)
  obtain⟨vs,H2,I2,r,q2⟩:=hw;exact⟨I2.bX,k_ (us:=.ref a::us) (vs:=.ref a::vs) F1 Eu Ew .nil hx I2 (.cons rfl r) q2⟩
 ·obtain⟨c1,c2⟩:=iz C hC;refine lY I1 ea c1 c2 hl (PySem.W.callWith_K (first:=[.ref a]) (h₀:=X.base) I.ok.mod.i7 c2.kp (aK (ha pos pins s1 σ H1 _ I1 q) λus s2 hw=>?_) fF dZ)
  obtain⟨vs,H2,I2,r,q2⟩:=hw;exact⟨I2.bX,k_ (us:=.ref a::us) (vs:=.ref a::vs) F2 Ex iT .nil hx I2 (.cons rfl r) q2⟩
end
noncomputable def kN(ns:List Int)(k:Int):Int:=DR ns k+1009*k
noncomputable def cI(c t m:Int):Int:=(c+7)*(1327217885+715225739*t*t) % 2147483629 % m
theorem iE(c t:Int){m:Int}(h:0<m):0<=cI c t m/\cI c t m<m:=⟨Int.emod_nonneg _ (by lia),Int.emod_lt_of_pos _ h⟩
noncomputable def qt(K:PySem.W.Frag):Sp:=λvs H Q _=>∃(a:Addr) (ns:List Int) (k:Int),vs = [.ref a,.int k]/\aA K H a (ns.map V.int)/\ns.length<=63/\0<=k/\k<=1000/\Q (.int (kN ns k)) H
noncomputable def iV:Sp:=λvs H Q _=>∃(c t m:Int),vs = [.int c,.int t,.int m]/\0<=t/\t<=1000/\0<m/\Q (.int (cI c t m)) H
noncomputable def gJ(c s0:Int):Nat->Int
 | 0=>s0
 | i+1=>gJ c s0 i - cI c (24+(1+(i:Int))) (gJ c s0 i / 2+1)
theorem NI(c:Int){s0:Int}(h:1<=s0):∀i,0<=gJ c s0 i/\gJ c s0 (i+1)<=gJ c s0 i:=by
 have h0:∀i,0<=gJ c s0 i:=λi=>by
  induction i with
  | zero=>simp only[gJ];lia
  | succ i ih =>
   rw[gJ];have:=(iE c (24+(1+(i:Int))) (m:=gJ c s0 i / 2+1) (by lia)).2
   lia
 intro i;refine⟨h0 i,?_⟩;have:=h0 i;rw[gJ];have:=(iE c (24+(1+(i:Int))) (m:=gJ c s0 i / 2+1) (by lia)).1
 lia
noncomputable def abx(K:PySem.W.Frag):Sp:=λvs H Q _=>∃(c m:Int),vs = [.int c,.int m]/\2<=m/\m<=60/\∀l sw H',ah H H'->H l=none->H' l=some (.lst (sw.map V.int))->SwOk sw m->Q (.ref l) H'
noncomputable def aby(K:PySem.W.Frag):Sp:=λvs H Q _=>∃(c:Int),vs = [.int c]/\∀l ts z H',ah H H'->H l=none->Zn H' l ts z->ZL z->Q (.ref l) H'
theorem ZP.zl5{z:List (Int×Int)}(h:ZP z)(h1:1<=z.length)(h5:z.length<=5):ZL z:=by
 have s:=Nt λp hp=>⟨(h.r p hp).1,(h.r p hp).2.1⟩;have s2:=h.s2;refine⟨⟨h1,by lia,λp hp=>?_,s2,by lia⟩,?_,by lia⟩
 ·have:=h.r p hp;lia
 ·have b:=(wI (m:=8) (by decide) z λp hp=>(h.r p hp).2.2).2
  have:=MD (m:=8) (by decide) h5
  have e:(8:Int) ^ 5=32768:=by decide
  lia
theorem abz{a b:Int}(a0:2<=a)(a1:a<=3)(b0:1<=b)(b1:b<=60):ZL [(a,b)]:=by
 refine⟨⟨by simp,by simp,?_,?_,?_⟩,?_,?_⟩
 ·intro p hp;rw[List.mem_singleton.mp hp];dsimp only;lia
 ·simp;lia
 ·simp;lia
 ·rw[DV];simp[cZ];lia
 ·simp;lia
section
variable{ta:TA}{g:TG}{tb:TS}{D:Ends}{σ:St}{H:Hp}
noncomputable def xw(j:Int)(g:TG)(tb:TS)(D:Ends)(σ:St)(H:Hp):Prop := -(2 ^ 62)<=j/\j<2 ^ 62/\∃W:Nat->Nat->St->Hp->Prop,(∃m,W 0 m σ H)/\∀i m σ H,W i m σ H->
 ((j_ 0 j.toNat).stop i H/\D.nx σ H)\/((j_ 0 j.toNat).go i H/\∃N:St->Hp->Prop,(∀aQ H',N aQ H'->∃m',m' < m/\W (i+1) m' aQ H')/\∀x H',(j_ 0 j.toNat).j8 i H x H'->g x σ H' λaj H2=>tb { D with nx:=N,ct:=N,bk:=D.nx } aj H2)
theorem rrG(h:ta σ H λvs H1=>∃j:Int,vs = [.int j]/\xw j g tb D σ H1):jc (vH ta) g tb D σ H:=h
theorem xw.by(n:Int)(Pv:Nat->St->Hp->Prop)(MB : -1000000000000<n)(hn:n<1000000000000)(h0:Pv 0 σ H)
  (hs:∀i σ H (N:St->Hp->Prop),(∀σ H,Pv (i+1) σ H->N σ H)->i<n.toNat->Pv i σ H->g (.int (i:Int)) σ H λaj H2=>tb { D with nx:=N,ct:=N,bk:=D.nx } aj H2) (hd:∀σ H,Pv n.toNat σ H->D.nx σ H):xw n g tb D σ H:=by
 have h:=MA (ta:=λ_ H Q=>Q [.int n] H) (g:=g) (tb:=tb) (D:=D) (σ:=σ) (H:=H) n Pv (λQ q=>q) MB hn h0 hs hd;obtain⟨j,e,h⟩:=h;cases e;exact h
end
structure abA(H:Hp)(t:Addr)(q:Ak)(m b:Addr):Prop where
 o:H t=some (.tup [.str q.kind,.int q.first,.int q.many,.ref m,.int q.at_,.int q.mj,qd q.D9,.ref b,.bl q.early])
 ms:H m=some (.tup (q.marks.map V.int))
 bh:H b=some (.tup (q.behind.map V.int))
structure abB(total:Int)(q:Ak):Prop where
 k:q.kind = "rest"\/q.kind = "read"\/q.kind = "write"
 r:q.kind = "rest"->q=⟨"rest",0,0,[],q.at_,0,none,[],false⟩
 f0:q.kind≠"rest"->0<=q.first/\1<=q.many/\q.many<=16/\q.first+q.many<=total
 a0:0<=q.at_
 s0:0<=q.mj/\q.mj<=20
 l0:∀x,q.D9=some x->0<=x/\x<=10000000000000
 b0:kI q.behind
 m0:∀x∈q.marks,0<=x/\x<=1000000000
 mr:q.kind = "read"->q.marks = []/\q.early=false
 mw:q.kind = "write"->(q.marks.length:Int)=q.many
structure abC(K:PySem.W.Frag)(CA CD:Addr)(H:Hp)(D t:Addr)(p:Dr)(tk d m b dx ap l:Addr)(ts:List Addr)(m' b' bu:Addr):Prop where
 o:H t=some (.tup [.int p.n,.ref tk,.ref d])
 k:abA H tk p.q m b
 d:gH K CA CD H d p dx ap l ts m' b' bu
 ne:l≠D
structure kO(K:PySem.W.Frag)(CA CD:Addr)(H:Hp)(D D':Addr)(ts:List Addr)(ps:List Dr):Prop where
 l:H D' = some (.lst (ts.map V.ref))
 n:ts.length=ps.length
 t:∀(i:Nat) (t:Addr) (p:Dr),ts[i]? = some t->ps[i]? = some p->∃tk d m b dx ap l ts m' b' bu,abC K CA CD H D t p tk d m b dx ap l ts m' b' bu
section
variable{K:PySem.W.Frag}{CA CD:Addr}{H H':Hp}{D D' t:Addr}{ts:List Addr}{ps:List Dr}{p:Dr}
end
noncomputable def iW(fs:List (Str×V)):Bool:=(fs.lookup ("ring_cells" : Str)).isNone && ((fs.lookup ("inward" : Str)).isSome || (fs.lookup ("turn" : Str)).isSome)
noncomputable def iF(xs:List V):Prop:=∀i j,xs≠[.bl i,.bl j]
theorem iF.refs{ts:List Addr}:iF (ts.map V.ref):=λi j e=>by
 cases ts with
 | nil=>cases e
 | cons t ts=>cases e
theorem iF.ints{ns:List Int}:iF (ns.map V.int):=λi j e=>by
 cases ns with
 | nil=>cases e
 | cons t ts=>cases e
noncomputable def lC(o:HO):Prop:=(∀ps,o≠.dP ps)/\(∀C dx fs,o = .ins C dx fs->iW fs=false)/\∀xs,o = .lst xs->iF xs
theorem lC.of{o:HO}(h1:∀ps,o≠.dP ps)(h2:∀C dx fs,o≠.ins C dx fs)(h3:∀xs,o≠.lst xs):lC o:=⟨h1,λ_ _ _ e=>absurd e (h2 _ _ _),λ_ e=>absurd e (h3 _)⟩
theorem lC.lst{xs:List V}(h:iF xs):lC (.lst xs):=⟨(λ_ z=>nomatch z),(λ_ _ _ z=>nomatch z),λ_ e=>by cases e;exact h⟩
theorem lC.ins{C dx:Addr}{fs:List (Str×V)}(h:iW fs=false):lC (.ins C dx fs):=⟨(λ_ z=>nomatch z),(λ_ _ _ e=>by cases e;exact h),λ_ z=>nomatch z⟩
theorem abD:iW [] = false:=rfl
theorem NJ{q:Ak}{m b:Addr}:iW (gk q m b)=false:=by simp[iW,gk,List.lookup_cons,gF]
theorem NK{n:Int}{ap l:Addr}:iW (iC n ap l)=false:=by simp[iW,iC,List.lookup_cons,gF]
noncomputable def bU(H H':Hp):Prop:=∀b o,H b=some o->lC o->H' b=some o
theorem bH.oG{P:Addr}{pos:Pos}{qual:Str}{H H':Hp}(t:bH P pos qual H)(k:SameBut P H H'):bU H H':=λ_ _ e n=>k _ _ e (t.ne e n.1)
theorem bU.of{H H':Hp}(s:ah H H'):bU H H':=λ_ _ e _=>s _ _ e
theorem bU.trans{H H1 H2:Hp}(s:bU H H1)(t:bU H1 H2):bU H H2:=λ_ _ e n=>t _ _ (s _ _ e n) n
theorem bU.tup{H H':Hp}(k:bU H H'){a:Addr}{xs:List V}(e:H a=some (.tup xs)):H' a=some (.tup xs):=k _ _ e (.of (λ_ z=>nomatch z) (λ_ _ _ z=>nomatch z) λ_ z=>nomatch z)
theorem bU.lst{H H':Hp}(k:bU H H'){a:Addr}{xs:List V}(e:H a=some (.lst xs))(h:iF xs:=by first | exact iF.refs | exact iF.ints | (intro i j z;cases z)):H' a=some (.lst xs):=k _ _ e (.lst h)
theorem bU.ins{H H':Hp}(k:bU H H'){a C dx:Addr}{fs:List (Str×V)}(e:H a=some (.ins C dx fs))(h:iW fs=false:=by exact abD):H' a=some (.ins C dx fs):=k _ _ e (.ins h)
theorem Zn.kt{H H':Hp}{l:Addr}{ts:List Addr}{z:List (Int×Int)}(h:Zn H l ts z)(k:bU H H'):Zn H' l ts z:=⟨k.lst h.l,h.n,λi t p e1 e2=>k.tup (h.t i t p e1 e2)⟩
section
variable{K:PySem.W.Frag}{C CA CD:Addr}{H H':Hp}
theorem dI.kt{p:Addr}{q:Ak}{m b dx:Addr}(h:dI K C H p q m b dx)(k:bU H H'):dI K C H' p q m b dx:=⟨k.ins h.o NJ,k.tup h.ms,k.tup h.bh⟩
theorem gH.kt{p:Addr}{d:Dr}{dx ap l:Addr}{ts:List Addr}{m b bu:Addr}(h:gH K CA CD H p d dx ap l ts m b bu)(k:bU H H'):gH K CA CD H' p d dx ap l ts m b bu:=⟨k.ins h.o NK,h.a.kt k,h.c.kt k⟩
theorem eV.kt{l:Addr}{ps:List Addr}{ds:List Dr}(h:eV K CA CD H l ps ds)(k:bU H H'):eV K CA CD H' l ps ds :=
 ⟨k.lst h.l,h.n,λi p d e1 e2=>let ⟨dx,ap,l,ts,m,b,bu,a⟩:=h.t i p d e1 e2;⟨dx,ap,l,ts,m,b,bu,a.kt k⟩⟩
theorem bO.kt{p:Addr}{P:Pl}{fp:List Addr}(h:bO K C H p P fp)(k:bU H H'):bO K C H' p P fp:=by
 obtain⟨dx,a1,a2,a3,a4,ts,fs,e,h⟩:=h;exact⟨dx,a1,a2,a3,a4,ts,fs,e,{ h with o:=k.ins h.o (by simp[iW,h.f1]),rc:=k.lst h.rc,sw:=k.lst h.sw,nc:=h.nc.kt k,cn:=k _ _ h.cn (.of (λ_ z=>nomatch z) (λ_ _ _ z=>nomatch z) λ_ z=>nomatch z)}⟩
end
noncomputable def bestOf(r:Dr->Int×Int)(ds:List Dr)(d:Dr):Prop:=d∈ds/\∀e∈ds,¬ ((r e).1<(r d).1\/(r e).1=(r d).1/\((r e).2<(r d).2\/(r e).2=(r d).2/\e.n<d.n))
noncomputable def abE(K:PySem.W.Frag)(CA CD:Addr):Sp:=λvs H Q _=>∃(D:Addr) (ps:List Addr) (ds:List Dr),vs = [.ref D]/\eV K CA CD H D ps ds/\1<=ds.length/\ds.length<=100/\
 ∀d H',ah H H'->bestOf (λ_=>(0,0)) ds d->Q (.int d.n) H'
noncomputable def abF(K:PySem.W.Frag)(CA CD:Addr):Sp:=λvs H Q _=>∃(x p:Addr) (r b:Int) (D:Addr) (ps:List Addr) (ds:List Dr),vs = [.ref x,.ref p,.int r,.int b,.ref D]/\eV K CA CD H D ps ds/\1<=ds.length/\ds.length<=100/\
 ∀d H',ah H H'->bestOf (λ_=>(0,0)) ds d->Q (.int d.n) H'
noncomputable def iX(s:Stmt):Pos:=match (dg s).getLast? with
 | some (.Return (some (.Attribute (.Call _ _ [⟨_,.Lambda _ _ _ pos,_⟩] _) _ _)) _)=>pos
 | _=>⟨0,0,0,0⟩
theorem abG{a b c d:Int}:_H.lexLt [a,b] [c,d] = true↔a<c\/a=c/\b<d:=by
 rw[_H.C8,_H.C8,_H.LG];split
 ·split
  ·simp;lia
  ·simp;lia
 ·simp;lia
structure jU(K:PySem.W.Frag)(CA CD:Addr)(H:Hp)(as:List Addr)(bs:List Dr):Prop where
 n:as.length=bs.length
 t:∀(i:Nat) (a:Addr) (d:Dr),as[i]? = some a->bs[i]? = some d->∃dx ap l ts m b bu,gH K CA CD H a d dx ap l ts m b bu
section
variable{K:PySem.W.Frag}{CA CD:Addr}{H:Hp}{as:List Addr}{bs:List Dr}
theorem jU.nil:jU K CA CD H [] []:=⟨rfl,λi a d e=>by simp at e⟩
theorem jU.snoc(h:jU K CA CD H as bs){a:Addr}{d:Dr}(hd:∃dx ap l ts m b bu,gH K CA CD H a d dx ap l ts m b bu):jU K CA CD H (as++[a]) (bs++[d]):=by
 refine⟨by simp[h.n],λi a' d' e1 e2=>?_⟩
 have hn:=h.n;by_cases hi:i<as.length
 ·rw[List.getElem?_append_left hi] at e1;rw[List.getElem?_append_left (by lia)] at e2
  exact h.t i a' d' e1 e2
 ·rw[List.getElem?_append_right (by lia)] at e1
  rw[List.getElem?_append_right (by lia)] at e2
  have gi:i - as.length=0:=by
   have:=(List.getElem?_eq_some_iff.mp e1).1;simp at this;lia
  rw[gi] at e1;rw[← hn,gi] at e2;simp at e1 e2;subst e1 e2;exact hd
end
section
variable{K:PySem.W.Frag}{CA CD:Addr}{H H':Hp}{D:Addr}{as:List Addr}{bs:List Dr}
end
noncomputable def cK(d:Dr):Int×Int:=d.c.getD 0 (0,0)
noncomputable def oH(_:Pl)(r _:Int)(d:Dr):Int×Int:=((((cK d).1 - r).natAbs:Int),0)
noncomputable def abH(K:PySem.W.Frag)(CA CD:Addr):Sp:=λvs H Q _=>∃(p:Addr) (d:Dr) (dx ap l:Addr) (ts:List Addr) (m b bu:Addr),vs = [.ref p]/\gH K CA CD H p d dx ap l ts m b bu/\1<=d.c.length/\Q (.int (cK d).1) H
noncomputable def abI(K:PySem.W.Frag)(CA CD:Addr)(P:Addr)(pos:Pos)(qual:Str):Sp:=λvs H Q _=>∃(r:Int) (D:Addr) (ps:List Addr) (ds:List Dr) (P':Pl) (b:Int),vs = [.int r,.ref D]/\eV K CA CD H D ps ds/\1<=ds.length/\ds.length<=100/\(∀d∈ds,1<=d.c.length)/\bH P pos qual H/\
 ∀d H',SameBut P H H'->bH P pos qual H'->bestOf (oH P' r b) ds d->Q (.int d.n) H'
noncomputable def sZ(rk:Dr->Int×Int)(bs:List Dr)(j:Nat):List Int:=match bs[j]? with
 | none=>[]
 | some d=>[(rk d).1,d.n]
theorem Ey{rk:Dr->Int×Int}{bs:List Dr}{j:Nat}{d:Dr}(h:bs[j]? = some d):sZ rk bs j = [(rk d).1,d.n]:=by unfold sZ;rw[h]
theorem abJ{rk:Dr->Int×Int}{ds:List Dr}{i:Nat}{d:Dr}(h2:∀d,(rk d).2=0)(hd:ds[i]? = some d)(least:∀j,j<ds.length->¬ _H.lexLt (sZ rk ds j) (sZ rk ds i)=true):bestOf rk ds d:=by
 refine⟨List.mem_of_getElem? hd,λe he=>?_⟩;obtain⟨j,hj,ej⟩:=List.mem_iff_getElem.mp he;have:=least j hj;rw[Ey (show ds[j]? = some e by rw[List.getElem?_eq_getElem hj,ej]),Ey hd,abG] at this
 rw[h2,h2];lia
end _L
namespace _L
open PySem PySem.Spec PyProof.Rows PySem.W
section
variable{prog:Program}{w:World}{A:Around}{E:Value->Shared->Prop}{s:Shared}{h₀:Heap}{L a kS:Addr}{m:Str->Option Value}{news:List (Addr×Obj)}{vs ks:List Value}
end
section
variable{X:Cx}{pins:List (Addr×Obj)}{σ:St}{H:Hp}{s:Shared}{m:Str->Option Value}{kS f:Addr}{kv:Nat->Int}{k:Nat}{fd:FuncData}{p:Str}{sp:Sp}{xs:List V}{A:Around}
end
section
variable{X:Cx}{pins:List (Addr×Obj)}{σ:St}{H:Hp}{s:Shared}{f:Addr}{kv:Nat->Int}{k:Nat}{fd:FuncData}{p:Str}{sp:Sp}{xs:List V}{l:Addr}
noncomputable def ajS(sp:Sp)(tl:TE):TE:=λσ H Q=>tl σ H λx H1=>∃(l:Addr) (xs:List V) (kv:Nat->Int),x = .ref l/\H1 l=some (.lst xs)/\xs.length<64/\(∀i j,i<xs.length->j<xs.length->kv i=kv j->i=j)/\
 (∀(j:Nat) (v:V),xs[j]? = some v->sp [v] H1 (λv' H'=>v' = .int (kv j)/\H' = H1) E0)/\
 ∀(D:Addr) (is:List Nat),H1 D=none->is.Perm (List.range xs.length)->(∀i j,i<j->j<xs.length->kv (is.getD i 0)<kv (is.getD j 0))->Q (.ref D) (upd H1 D (.lst (is.map λi=>xs.getD i .aI)))
end
end _L
namespace _L
open PySem PySem.Spec PyProof.Rows
section
variable{X:Cx}
end
noncomputable def cD(n:Int):Key:=.inl n
theorem NL(kvs:List (Key×V))(k:Key)(v:V):(putK kvs k v).length<=kvs.length+1:=by
 unfold putK;split
 ·rw[List.length_map];lia
 ·rw[List.length_append];exact Nat.le_refl _
theorem Ez{α:Type}{l:List α}{p:α->Bool}{i:Nat}{a:α}(h:l[i]? = some a):(l.take (i+1)).filter p=(l.take i).filter p++(if p a then [a] else []):=by
 rw[take_succ_get h,List.filter_append,List.filter_cons];split <;> rfl
noncomputable def iG(c i:Bool)(B:Addr):List (Str×V):=[("calm",.bl c),("inward",.bl i),("batch",.ref B)]
structure Lt where
 c:Bool
 i:Bool
 b:List Int
structure dO(C:Addr)(H:Hp)(x:Addr)(st:Lt)(dx B:Addr):Prop where
 o:H x=some (.ins C dx (iG st.c st.i B))
 d:∃kvs:List (Key×V),H B=some (.dK kvs)/\kvs.length<=1000/\∀n:Int,(bT kvs (cD n)).isSome=decide (n∈st.b)
section
variable{C:Addr}{H H':Hp}{x dx B:Addr}{st:Lt}
theorem dO.same(h:dO C H x st dx B)(s:ah H H'):dO C H' x st dx B:=⟨s _ _ h.o,let ⟨kvs,a,r⟩:=h.d;⟨kvs,s _ _ a,r⟩⟩
theorem NN{c i:Bool}:iW (iG c i B)=true:=by simp[iW,iG,List.lookup_cons,gF]
theorem dO.oG(h:dO C H x st dx B)(s:SameBut x H H'):bU H H':=λb o e n=>s b o e λz=>by
 rw[z,h.o] at e;cases e;have:=n.2.1 _ _ _ rfl;rw[NN] at this;cases this
theorem bH.but{P:Addr}{pos:Pos}{qual:Str}{fs:List (Str×V)}(t:bH P pos qual H)(s:SameBut x H H')(hx:H x=some (.ins C dx fs)):bH P pos qual H':=by
 obtain⟨ps,e,tr,c⟩:=t;refine⟨ps,s _ _ e (λz=>by rw[z,hx] at e;cases e),tr,?_⟩
 rcases c with c | ⟨c',e1,e2⟩
 ·exact .inl c
 ·exact .inr ⟨c',e1,s _ _ e2 (λz=>by rw[z,hx] at e2;cases e2)⟩
theorem dO.tab{P:Addr}{pos:Pos}{qual:Str}(h:dO C H x st dx B)(t:bH P pos qual H)(s:SameBut P H H'):dO C H' x st dx B :=
 ⟨s _ _ h.o (t.ne h.o (λ_ z=>nomatch z)),let ⟨kvs,a,r⟩:=h.d;⟨kvs,s _ _ a (t.ne a (λ_ z=>nomatch z)),r⟩⟩
end
noncomputable def lD(i:Bool)(r:Int)(d:Dr):Bool:=if i then decide (r<=(cK d).1) else decide ((cK d).1<=r)
noncomputable def dJ(i:Bool)(r:Int)(ds:List Dr):List Dr:=ds.filter (lD i r)
theorem NO{i:Bool}{r:Int}{ds:List Dr}{k:Nat}(hk:k<ds.length):dJ i r (ds.take (k+1))=if lD i r ds[k] = true then dJ i r (ds.take k)++[ds[k]] else dJ i r (ds.take k):=by
 unfold dJ;rw[take_succ_get (List.getElem?_eq_getElem hk),List.filter_append];split
 ·rw[List.filter_cons,if_pos (by assumption),List.filter_nil]
 ·rw[List.filter_cons,if_neg (by assumption),List.filter_nil,List.append_nil]
theorem xy(i:Bool)(r:Int)(ds:List Dr):(dJ i r ds).length<=ds.length:=List.length_filter_le _ _
theorem xA{i:Bool}{r:Int}{ds:List Dr}{d:Dr}(h:d∈dJ i r ds):d∈ds:=(List.mem_filter.mp h).1
theorem abK{i:Bool}{r:Int}{ds:List Dr}(h1:1<=ds.length)(h:dJ i r ds = []):1<=(dJ (!i) r ds).length:=by
 cases ds with
 | nil=>simp at h1
 | cons d ds =>
  have hn:¬ lD i r d=true:=λz=>by
   have:d∈dJ i r (d::ds):=List.mem_filter.mpr ⟨List.mem_cons_self ..,z⟩;rw[h] at this;exact nomatch this
  have hm:d∈dJ (!i) r (d::ds):=List.mem_filter.mpr ⟨List.mem_cons_self ..,by unfold lD at hn ⊢;cases i <;> simp at hn ⊢ <;> lia⟩
  exact List.length_pos_of_mem hm
noncomputable def abL(K:PySem.W.Frag)(CA CD:Addr):Sp:=λvs H Q _=>∃(i:Bool) (r:Int) (D:Addr) (ps:List Addr) (ds:List Dr),vs = [.bl i,.int r,.ref D]/\eV K CA CD H D ps ds/\ds.length<=100/\(∀d∈ds,1<=d.c.length)/\
 ∀D' fO H',ah H H'->H D' = none->eV K CA CD H' D' fO (dJ i r ds)->Q (.ref D') H'
noncomputable def abM(K:PySem.W.Frag)(CA CD:Addr):Sp:=λvs H Q _=>∃(D:Addr) (ps:List Addr) (ds:List Dr),vs = [.ref D]/\eV K CA CD H D ps ds/\ds.length<=100/\
 ∀B kvs H',ah H H'->H B=none->H' B=some (.dK kvs)->kvs.length<=1000->(∀n:Int,(bT kvs (cD n)).isSome=decide (n∈ds.map (·.n)))->Q (.ref B) H'
noncomputable def eG(st:Lt)(ds:List Dr):Lt:=if st.c then(if ds.any (λd=>decide (d.n∈st.b)) then st else { st with b:=ds.map (·.n)}) else st
noncomputable def eW(st:Lt)(ds:List Dr):List Dr:=if st.c then ds.filter (λd=>decide (d.n∈(eG st ds).b)) else ds
noncomputable def lE(st:Lt)(r:Int)(ds:List Dr):Lt:={ st with i:=if (dJ st.i r ds).length=0 then !st.i else st.i }
theorem abN{st:Lt}{r:Int}{ds:List Dr}(h1:1<=ds.length):1<=(dJ (lE st r ds).i r ds).length:=by
 unfold lE;dsimp only;split
 ·rename_i h;exact abK h1 (List.length_eq_zero_iff.mp h)
 ·lia
theorem NP{st:Lt}{ds:List Dr}(h1:1<=ds.length):1<=(eW st ds).length:=by
 unfold eW eG;split
 ·rename_i hc;split
  ·rename_i ha;obtain⟨d,hd,he⟩:=List.any_eq_true.mp ha;exact List.length_pos_of_mem (List.mem_filter.mpr ⟨hd,he⟩)
  ·cases ds with
   | nil=>simp at h1
   | cons d ds=>exact List.length_pos_of_mem (a:=d) (List.mem_filter.mpr ⟨List.mem_cons_self ..,by simp⟩)
 ·exact h1
theorem abO(st:Lt)(ds:List Dr):(eW st ds).length<=ds.length:=by
 unfold eW;split
 ·exact List.length_filter_le _ _
 ·exact Nat.le_refl _
theorem EA{st:Lt}{ds:List Dr}{d:Dr}(h:d∈eW st ds):d∈ds:=by
 unfold eW at h;split at h
 ·exact(List.mem_filter.mp h).1
 ·exact h
noncomputable def d0:Dr:=⟨0,⟨"",0,0,[],0,0,none,[],false⟩,[]⟩
section
variable{K:PySem.W.Frag}{CA CD:Addr}{H H':Hp}{D D':Addr}{ts jo:List Addr}{ps jm:List Dr}
end
structure s_(nc:List (Int×Int))(ds ps:List Dr):Prop where
 nd:((ds++ps).map (·.n)).Nodup
 ok:∀p∈ds++ps,abB nc.length p.q/\p.q.kind≠"rest"/\p.q.at_<=1000000000000/\0<=p.n/\p.n<=99/\p.c=dX nc p.q.first p.q.many
 n32:ds.length+ps.length<=32
noncomputable def NQ(K:PySem.W.Frag)(CA CD CL P:Addr)(pos:Pos)(qual:Str)(H6:Hp)(a p wt x1 d1:Addr)(nc:List (Int×Int))(m:Nat)(σ:St)(H':Hp):Prop :=
 ∃(Lp Dd:Addr) (fu:List Addr) (cW:List Dr) (fz:List Addr) (cX:List Dr) (i:Bool) (ring:Int) (B':Addr) (y8 y9 jV gn:Option V),σ = [some (.ref a),some (.ref p),some (.ref wt),some (.ref Lp),some (.ref x1),some (.bl i),some (.int ring),some (.ref Dd),y8,y9,jV,gn]/\
  bU H6 H'/\bH P pos qual H'/\dO CL H' x1 ⟨false,i,[]⟩ d1 B'/\kO K CA CD H' Lp Lp fu cW/\kO K CA CD H' Dd Dd fz cX/\s_ nc cX cW/\cX.length+cW.length=m
section
variable{K:PySem.W.Frag}{CA CD:Addr}{H:Hp}{D D':Addr}{ts:List Addr}{ps:List Dr}{X:Prop}
theorem eV.el(h:eV K CA CD H D ts ps)(i:Nat)(t:Addr)(p:Dr)(e1:ts[i]? = some t)(e2:ps[i]? = some p)(k:∀dx ap l tx m b bu,gH K CA CD H t p dx ap l tx m b bu->X):X :=
 let ⟨dx,ap,l,tx,m,b,bu,a⟩:=h.t i t p e1 e2;k dx ap l tx m b bu a
end
@[elab_as_elim] theorem NQ.el{K:PySem.W.Frag}{CA CD CL P:Addr}{pos:Pos}{qual:Str}{H6:Hp}{a p wt x1 d1:Addr}{nc:List (Int×Int)}{m:Nat}{σ:St}{H':Hp}{X:St->Prop}(h:NQ K CA CD CL P pos qual H6 a p wt x1 d1 nc m σ H')
  (k:∀(Lp Dd:Addr) (fu:List Addr) (cW:List Dr) (fz:List Addr) (cX:List Dr) (i:Bool) (ring:Int) (B':Addr) (y8 y9 jV gn:Option V),bU H6 H'->bH P pos qual H'->dO CL H' x1 ⟨false,i,[]⟩ d1 B'->kO K CA CD H' Lp Lp fu cW->kO K CA CD H' Dd Dd fz cX->s_ nc cX cW->cX.length+cW.length=m->X [some (.ref a),some (.ref p),some (.ref wt),some (.ref Lp),some (.ref x1),some (.bl i),some (.int ring),some (.ref Dd),y8,y9,jV,gn]):X σ:=by
 obtain⟨Lp,Dd,fu,cW,fz,cX,i,ring,B',y8,y9,jV,gn,rfl,kt,tb,hl,EB,EC,bo,hm⟩:=h;exact k Lp Dd fu cW fz cX i ring B' y8 y9 jV gn kt tb hl EB EC bo hm
noncomputable def ajT(t:TS):TS:=λD σ H=>∀N:St->Hp->Prop,(∀eN H1,@Later ⟨D.nx⟩ eN H1->N eN H1)->t { D with nx:=N } σ H
theorem abP{c:TT}{tb:TS}{D:Ends}{σ:St}{H:Hp}(h:∀B:TS,(∀D σ H,tb D σ H->B D σ H)->CT c B D σ H):CT c tb D σ H:=h tb λ_ _ _ z=>z
section
variable{H H1 H2:Hp}
end
structure oJ(K:PySem.W.Frag)(C:Addr):Prop where
 cl:bR K C
 n1:bJ K C "calm"
 n2:bJ K C "inward"
 n3:bJ K C "batch"
noncomputable def xB(CL CS C:Addr)(sw:Bool):Prop:=C=CL/\sw=false\/C=CS/\sw=true
theorem xB.mem{CL CS C:Addr}{sw:Bool}(h:xB CL CS C sw):C∈[CL,CS]:=by
 rcases h with⟨rfl,_⟩ | ⟨rfl,_⟩ <;> simp
noncomputable def lF(sw:Bool)(st:Lt)(r:Int)(ds:List Dr):Lt:=if sw=true then st else lE st r ds
noncomputable def qu(sw:Bool)(r:Int)(ds:List Dr):Int:=if sw=true then(if (dJ true r ds).length=0 then 0 else r) else r
noncomputable def mG(sw:Bool)(i:Bool)(r:Int)(ds:List Dr):List Dr:=if sw=true then(if (dJ true r ds).length=0 then ds else dJ true r ds) else dJ i r ds
theorem abQ{sw i:Bool}{r:Int}{ds:List Dr}{d:Dr}(h:d∈mG sw i r ds):d∈ds:=by
 unfold mG at h;split at h
 ·split at h
  ·exact h
  ·exact xA h
 ·exact xA h
noncomputable def abR(K:PySem.W.Frag)(cs:List Addr):Sp:=λvs H Q _=>∃(C x dx:Addr) (c:Bool) (fs:List (Str×V)),vs = [.ref x]/\C∈cs/\oJ K C/\H x=some (.ins C dx fs)/\(fs = [(("calm" : Str),V.bl c)]\/∃i B,fs=iG c i B)/\
 ∀B H',H B=none->SameBut x H H'->dO C H' x ⟨c,true,[]⟩ dx B->Q .aI H'
noncomputable def abS(K:PySem.W.Frag)(cs:List Addr):Sp:=λvs H Q _=>∃(C x dx:Addr) (c:Bool),vs = [.ref x,.bl c]/\C∈cs/\oJ K C/\H x=some (.ins C dx [])/\
 ∀B H',H B=none->SameBut x H H'->dO C H' x ⟨c,true,[]⟩ dx B->Q .aI H'
section
variable{H H':Hp}{S:Addr}{i sw:Bool}
end
noncomputable def NR(K:PySem.W.Frag)(CA CD CR P:Addr)(pos:Pos)(qual:Str)(sw:Bool)(H6:Hp)(a p wt x1 d1 S:Addr)(nc:List (Int×Int))(m:Nat)(σ:St)(H':Hp):Prop :=
 ∃(Lp Dd Bt:Addr) (fu:List Addr) (cW:List Dr) (fz:List Addr) (cX:List Dr) (i:Bool) (bs:List Int) (ring:Int) (B':Addr) (y9 jV gn jW:Option V),σ = [some (.ref a),some (.ref p),some (.ref wt),some (.ref Lp),some (.ref x1),some (.ref S),some (.int ring),some (.ref Dd),some (.ref Bt),y9,jV,gn,jW]/\
  bU H6 H'/\bH P pos qual H'/\dO CR H' x1 ⟨true,i,bs⟩ d1 B'/\H' S=some (.lst [.bl i,.bl sw])/\H' Bt=some (.lst (bs.map V.int))/\bs.length<=32/\kO K CA CD H' Lp Lp fu cW/\kO K CA CD H' Dd Dd fz cX/\s_ nc cX cW/\cX.length+cW.length=m
@[elab_as_elim] theorem NR.el{K:PySem.W.Frag}{CA CD CR P:Addr}{pos:Pos}{qual:Str}{sw:Bool}{H6:Hp}{a p wt x1 d1 S:Addr}{nc:List (Int×Int)}{m:Nat}{σ:St}{H':Hp}{X:St->Prop}(h:NR K CA CD CR P pos qual sw H6 a p wt x1 d1 S nc m σ H')
  (k:∀(Lp Dd Bt:Addr) (fu:List Addr) (cW:List Dr) (fz:List Addr) (cX:List Dr) (i:Bool) (bs:List Int) (ring:Int) (B':Addr) (y9 jV gn jW:Option V),bU H6 H'->bH P pos qual H'->dO CR H' x1 ⟨true,i,bs⟩ d1 B'->H' S=some (.lst [.bl i,.bl sw])->H' Bt=some (.lst (bs.map V.int))->bs.length<=32->kO K CA CD H' Lp Lp fu cW->kO K CA CD H' Dd Dd fz cX->s_ nc cX cW->cX.length+cW.length=m->X [some (.ref a),some (.ref p),some (.ref wt),some (.ref Lp),some (.ref x1),some (.ref S),some (.int ring),some (.ref Dd),some (.ref Bt),y9,jV,gn,jW]):X σ:=by
 obtain⟨Lp,Dd,Bt,fu,cW,fz,cX,i,bs,ring,B',y9,jV,gn,jW,rfl,kt,tb,hl,hSt,hBt,ED,EB,EC,bo,hm⟩:=h;exact k Lp Dd Bt fu cW fz cX i bs ring B' y9 jV gn jW kt tb hl hSt hBt ED EB EC bo hm
section
variable{X:Cx}
noncomputable def ajU:V->List V->Hp->VK->Prop:=λx vs H Q=>∃l xs i y,x = .ref l/\vs = [.int i,y]/\H l=some (.lst xs)/\0<=i/\i<=(xs.length:Int)/\xs.length<1000/\Q .aI (upd H l (.lst (xs.take i.toNat++y::xs.drop i.toNat)))
theorem Inv.freeze{pins:List (Addr×Obj)}{σ:St}{H:Hp}{s:Shared}{a:Addr}{kvs:List (Key×V)}{ob:Obj}(I:Inv X pins σ H s)(e:H a=some (.dK kvs))(ho:s.heap.get? a=some ob):Inv X pins σ (upd H a (.bZ ob (.dK kvs))) s:=by
 have ne:∀b v,H b=some v->(∀kvs,v≠.dK kvs)->upd H a (.bZ ob (.dK kvs)) b=some v:=λb v q z=>by rw[az (λw=>by rw[w,e] at q;cases q;exact z _ rfl)];exact q
 refine I.un (t':=s.toks) (h':=s.heap) ⟨λb o q n hb _=>q,λb o q n hb _=>⟨o.slots,q⟩,λb o q n _=>?_,λb o q _=>⟨o,q⟩,λb xs q=>ne b _ q (λ_ z=>nomatch z),λb o u q=>ne b _ q (λ_ z=>nomatch z),λb ps q=>⟨#[],by rw[ne b _ q (λ_ z=>nomatch z)];simp⟩⟩ λb v q=>?_
 ·rw[az (λz=>by rw[z,e] at n;cases n)];exact n
 ·by_cases z:b=a
  ·subst z;rw[aB] at q;cases q;exact⟨ho,(I.aD b _ e).fE (λ_ _ _ e=>e) (λd q=>ne d _ q (λ_ z=>nomatch z)) (λd xs q=>ne d _ q (λ_ z=>nomatch z))⟩
  ·rw[az z] at q;exact(I.aD b v q).fE (λ_ _ _ e=>e) (λd q=>ne d _ q λ_ z=>nomatch z) λd xs q=>ne d _ q λ_ z=>nomatch z
theorem NS{P:Program}{w:World}{H:Hp}{h:Heap}{a:Addr}{ob:Obj}{kvs:List (Key×V)}{es:Array DictEntry}{ep:Nat}(jR:ob.data = .dict es ep)(x:cL P w H h a (.bZ ob (.dK kvs))) :
  ∃vs,KV kvs vs/\h.DictAt (d9 P w) a vs ep:=by
 obtain⟨ho,_,_,vs,kv,o,DP,Mq,jF,c,d,r⟩:=x;rw[ho] at jF;cases jF;rw[jR] at d;cases d;exact⟨vs,kv,ob,es,ho,c,jR,r⟩
theorem abT{cs:List Addr}:∀ {us:List Value},Vals (cs.map V.ref) us->us=cs.map Value.ref:=by
 induction cs with
 | nil=>intro us h;cases h;rfl
 | cons c cs ih =>
  intro us h;cases h with
  | cons r t =>
   have r:_=Value.ref c:=r;rw[r,ih t];rfl
theorem abU:fG X (.builtin "isinstance") (λxs H Q=>∃(a C p:Addr) (cs:List Addr) (b:Bool),xs = [.ref a,.ref p]/\H p=some (.tup (cs.map V.ref))/\(∃od,H a=some (qh a C od))/\lA X.K C/\(PySem.W.clsIn X.K C).isSome=true/\PySem.W.kitAny X.K (.ref C) (cs.map Value.ref)=some b/\Q (.bl b) H):=by
 intro pins s σ H xs us Q I r h;obtain⟨a,C,p,cs,b,rfl,hp,⟨od,ea⟩,G,hc,e,q⟩:=h;obtain⟨u,v,rfl,ru,rv⟩:=vals2 r;cases (show u=Value.ref a from ru);cases (show v=Value.ref p from rv);obtain⟨_,aq,rt,o,ho,jT,n,hd⟩:=I.aD p _ hp;have ei:=abT rt;obtain⟨oc,od,dt,sl⟩:=o;simp only at jT hd;subst jT hd ei;exact PySem.W.kia_tup (M9 G hc) I.bX (M_ I ea) ho e (λz=>nomatch z) λtk=>⟨.bl b,H,I.tok _,rfl,q⟩
theorem abV:fG X (.builtin "isinstance") (λxs H Q=>∃(a C p:Addr) (cs:List Addr) (b:Bool),xs = [.ref a,.ref p]/\H p=some (.tup (cs.map V.ref))/\H a=some (sM a C)/\lA X.K C/\(PySem.W.clsIn X.K C).isSome=true/\PySem.W.kitAny X.K (.ref C) (cs.map Value.ref)=some b/\Q (.bl b) H) :=
 λpins s σ H xs us Q I r ⟨a,C,p,cs,b,e1,hp,ea,h⟩=>abU pins s σ H xs us Q I r ⟨a,C,p,cs,b,e1,hp,⟨none,ea⟩,h⟩
end
structure EE(P:Program)(w:World)(K:PySem.W.Frag)(mg:Str->Option Value)(base:Heap)(k:Nat)(f:Addr)(fd:FuncData)(ps:List Str)(sp:Sp):Prop where
 len:∀vs H Q E,sp vs H Q E->vs.length=ps.length
 run:∀(A:Around) (outer:List Env) (s:Shared) (H:Hp) (args:Args) (us:List Value) (vs:List V) (Q:VK) (e:Value),bN k A->k9 P w K mg base A outer s H->BindsTo s fd args (ps.zip us)->Vals vs us->sp vs H Q E0->
  codeAny (model P w) (A.mark (some e)) (.call (.ref f) args) (CR aU outer P w H s Q E0) s
theorem aF.okW{P:Program}{w:World}{K:PySem.W.Frag}{mg:Str->Option Value}{base:Heap}{x qual:Str}{st:Stmt}{f:Addr}{fd:FuncData}{N ps:List Str}{k:Nat}{sp:Sp}(F:aF K x qual st f fd)(S:aW N ps (aJ st))(len:∀vs H Q E,sp vs H Q E->vs.length=ps.length)
  (jD:∀(aH:Value) (A:Around) (outer:List Env) (s:Shared) (H:Hp) (vs:List V) (Q:VK) (e:Value),bN k (A.deeper (envOfC qual (aJ st) s.heap.objs.size f aH))->sp vs H Q E0->
   ∃t,eZ ((gz aU P w K mg base N qual (aJ st) f aH A outer s H E0).within e) (dg st) t/\t { nx:=λ_ H'=>Q .aI H',rt:=Q } (start N vs) H):EE P w K mg base (k+1) f fd ps sp:=by
 obtain⟨oc,od,kV,doc,pm,an,aH,ct,gc,rfl,lk,cV⟩:=F.ex;refine⟨len,λA outer s H args us vs Q e hr e0 hb r eO=>?_⟩;have KX:K.In s.heap:=e0.mod.i7.keeps λb o q=>(e0.bs b o q).1;have lim:s.heap.NoLimit:=e0.mod.nolimit.keeps λb o q=>(e0.bs b o q).1;have two:∀y∈ps.zip us,(aJ st).names.lookup y.1=some .local\/((aJ st).names.lookup y.1=some .cell/\((cellsFrom (s.heap.objs.size+1) (aJ st).names []).lookup y.1).isSome=true):=λ⟨n,v⟩ hy =>
  (S.par n (List.of_mem_zip hy).1).imp (λq=>q) λq=>⟨q,PySem.W.cellsFrom_some _ _ _ (.inl q)⟩
 refine codeAny_call_function (A:=A.mark (some e)) hr.depth (KX _ _ lk) rfl S.co S.gen rfl (PySem.W.codeRec_of KX cV) (hb _ _ _ _ ?_);refine wpAny_newFunctionEnv_cells S.kind two λenv he s1 x=>?_;subst he;refine⟨lim.keeps x.toInCall.keep,codeAny_func ?_⟩;obtain⟨t,ht,hq⟩:=jD aH A outer s H vs Q e (hr.deeper _) eO;have I:=(LC (CX:=aU) (E:=E0) S hr.hd e0 (len _ _ _ _ eO) r x).within e;refine wpAny_mono (ht [] s1 (start N vs) H _ I hq) (λfl s' hs=>?_) λ_ _ z=>False.elim z;cases fl with
 | ret u=>obtain⟨v,aQ,H',J,rv,q⟩:=hs;exact⟨v,H',J.os,J.bare,J.base,J.aD,rv,q⟩
 | next=>obtain⟨aQ,H',J,q⟩:=hs;exact⟨V.aI,H',J.os,J.bare,J.base,J.aD,rfl,q⟩
 | brk=>exact False.elim hs.choose_spec.choose_spec.2
 | cont=>exact False.elim hs.choose_spec.choose_spec.2
section
variable{X:Cx}{k:Nat}{f:Addr}{fd:FuncData}{ps:List Str}{sp:Sp}{x:Str}{p pos:Pos}{e:Expr}{es:List Expr}{t:TA}{a:Value}
theorem abW(F:EE X.prog X.w X.K X.mg X.base k f fd ps sp)(hr:bN k X.A)(hg:Gl (X.within a) x)(hm:X.mg x=some (.ref f))(hk:PySem.W.keepIn X.K (.ref f)=true)(hb:Binds X.K fd ps [])(ha:PA (X.within a) (e::es) t)
  (gb:(x == ("__debug__" : Str))=false:=by decide) (he:starEach (e::es) X.env=(false,eval e X.env)::starEach es X.env:=by rfl) (dZ:(backTo pos (starEach es X.env)).any (·.1)=false:=by rfl) :
  PE (X.within a) (.Call (.Name x p) (e::es) [] pos) (C6 sp [] E0 t):=by
 intro pins s σ H Q I h;refine wpAny_Call_Name_kw (lP I hg hm ?_ gb);refine PySem.W.callWith_K (h₀:=X.base) I.ok.mod.i7 hk (wpAny_mono (ha pos pins s σ H _ I h) (λus s1 ⟨vs,H1,I1,r,q⟩=>⟨I1.bX,?_⟩) λ_ _ z=>z) he dZ;have e1:=I1.vR;have q:sp (vs++[]) H1 Q E0:=q;rw[List.append_nil] at q;have jE:=hb s1 us I1.bX (by rw[List.append_nil];exact r.length.symm.trans (F.len _ _ _ _ q))
 rw[List.append_nil] at jE;refine wpAny_call (codeAny_mono (F.run X.A X.stack s1 H1 ⟨us,[]⟩ us vs Q a hr ⟨e1.frames,e1.mod,e1.bs,e1.iu,e1.fX,e1.i8,e1.aD,e1.bare⟩ jE r q) λr' s' hq=>?_)
 match r',hq with
 | .error e,hq=>exact False.elim hq
 | .ok (.ret u),hq=>exact I1.after hq
 | .ok .next,hq=>exact False.elim hq
 | .ok .brk,hq=>exact False.elim hq
 | .ok .cont,hq=>exact False.elim hq
end
noncomputable def shF(pl:Addr)(t u:Int):List (Str×V):=[("pairs",.ref pl),("turn",.int t),("used",.int u)]
structure abX(C:Addr)(H:Hp)(x:Addr)(sh:List (Int×Int))(t u:Int)(dx pl:Addr)(lG:List Addr):Prop where
 o:H x=some (.ins C dx (shF pl t u))
 p:Zn H pl lG sh
section
variable{C:Addr}{H H':Hp}{x dx pl:Addr}{lG:List Addr}{sh:List (Int×Int)}{t u:Int}
end
section
variable{K:PySem.W.Frag}{C CA CD:Addr}{H H':Hp}
end
noncomputable def abY(sh:List (Int×Int))(t:Int):Int:=(sh.getD t.toNat (0,0)).2
section
variable{H H':Hp}{l:Addr}{ts jo:List Addr}{z z2:List (Int×Int)}
end
section
variable{K:PySem.W.Frag}{CA CD:Addr}{H H':Hp}{D D':Addr}{ts jo:List Addr}{ps jm:List Dr}
end
structure NT(K:PySem.W.Frag)(CA CD CS:Addr)(H6:Hp)(shl:Addr)(nq:List Addr)(x1 d1 pl:Addr)(lG:List Addr)(S:Addr)(sh:List (Int×Int))(nc:List (Int×Int))(m:Nat)(H':Hp)(Lp Dd:Addr)(fu:List Addr)(cW:List Dr)(fz:List Addr)(cX:List Dr)(t u:Int):Prop where
 kt:bU H6 H'
 s:H' S=some (.lst [.int t,.int u])
 x:abX CS H' x1 sh t u d1 pl lG
 t0:0<=t
 t1:t<sh.length
 u0:0<=u
 u1:u<=abY sh t
 pp:kO K CA CD H' Lp Lp fu cW
 dd:kO K CA CD H' Dd Dd fz cX
 bo:s_ nc cX cW
 ak:∀p∈cX++cW,p.q.mj∈sh.map (·.1)
 hm:cX.length+cW.length=m
noncomputable def NU(K:PySem.W.Frag)(CA CD CS:Addr)(H6:Hp)(a p wt al shl:Addr)(nq:List Addr)(st:Int)(hd x1 d1 pl:Addr)(lG:List Addr)(S:Addr)(sh:List (Int×Int))(nc:List (Int×Int))(m:Nat)(σ:St)(H':Hp):Prop :=
 ∃(Lp Dd:Addr) (fu:List Addr) (cW:List Dr) (fz:List Addr) (cX:List Dr) (t u:Int) (gn jW tu:Option V),σ = [some (.ref a),some (.ref p),some (.ref wt),some (.ref al),some (.ref shl),some (.ref Lp),some (.int st),some (.ref hd),some (.ref x1),some (.ref S),some (.ref Dd),gn,jW,tu]/\
  NT K CA CD CS H6 shl nq x1 d1 pl lG S sh nc m H' Lp Dd fu cW fz cX t u
@[elab_as_elim] theorem NU.el{K:PySem.W.Frag}{CA CD CS:Addr}{H6:Hp}{a p wt al shl:Addr}{nq:List Addr}{st:Int}{hd x1 d1 pl:Addr}{lG:List Addr}{S:Addr}{sh:List (Int×Int)}{nc:List (Int×Int)}{m:Nat}{σ:St}{H':Hp}{X:St->Prop}(h:NU K CA CD CS H6 a p wt al shl nq st hd x1 d1 pl lG S sh nc m σ H')
  (k:∀(Lp Dd:Addr) (fu:List Addr) (cW:List Dr) (fz:List Addr) (cX:List Dr) (t u:Int) (gn jW tu:Option V),NT K CA CD CS H6 shl nq x1 d1 pl lG S sh nc m H' Lp Dd fu cW fz cX t u->X [some (.ref a),some (.ref p),some (.ref wt),some (.ref al),some (.ref shl),some (.ref Lp),some (.int st),some (.ref hd),some (.ref x1),some (.ref S),some (.ref Dd),gn,jW,tu]):X σ:=by
 obtain⟨Lp,Dd,fu,cW,fz,cX,t,u,gn,jW,tu,rfl,f⟩:=h;exact k Lp Dd fu cW fz cX t u gn jW tu f
theorem KV.vl:∀ {kvs:List (Key×V)} {vs:List (Key×Value)},KV kvs vs->∀ {i:Nat} {p:Key×V},kvs[i]? = some p->∃k v,vs[i]? = some (k,v)/\RelV p.2 v
 | _,_,.nil,i,p,e=>by simp at e
 | _,_,.cons (b:=q) r t,0,p,e=>by
  cases e;exact⟨q.1,q.2,rfl,r.2⟩
 | _,_,.cons r t,i+1,p,e=>KV.vl t (i:=i) e
noncomputable def NV(a:Addr)(ob:Obj)(kvs:List (Key×V)):It :=
 ⟨λi H=>H a=some (.bZ ob (.dK kvs))/\i<kvs.length,λi H x H'=>H' = H/\∃p,kvs[i]? = some p/\x=p.2,λi H=>H a=some (.bZ ob (.dK kvs))/\kvs.length<=i⟩
theorem abZ{P:Program}{w:World}{K:PySem.W.Frag}{tg:Expr}(a it:Addr){ob:Obj}{kvs:List (Key×V)}{es:Array DictEntry}{ep:Nat}(jR:ob.data = .dict es ep) :
  Turn P w K tg (NV a ob kvs) [it] it (λi h=>h.IsValIter it a i kvs.length ep) where
 mem:=by simp
 obj:=λi h st b hb=>by
  have e:b=it:=by simpa using hb
  subst e;obtain⟨o,e,c,d⟩:=st;exact⟨o,e,λv z=>by rw[d] at z;cases z⟩
 keep:=λi h h' st k=>let ⟨o,e,r⟩:=st;⟨o,k it (by simp) o e,r⟩
 item:=by
  intro X hP hw hK hc i pins s σ H E I hf st hg;subst hP hw hK;obtain⟨hq,hi⟩:=hg;obtain⟨vs,kv,da⟩:=NS jR (I.aD a _ hq);have ek:kvs[i]? = some kvs[i]:=List.getElem?_eq_getElem hi;obtain⟨k,v,ev,rv⟩:=kv.vl ek;obtain⟨f0,f1,f2,f3,f4,f5⟩:=hf it (by simp)
  have hl:kvs.length=vs.length:=kv.length;refine wpAny_pyNext_values_item (hl▸st) da ev λh' cu sb=>?_;have I1:Inv X pins σ H { s with heap:=h' }:=I.turned (t':=s.toks) (λb o hb e=>(sb.2 b hb).trans e) f0 f1 f3 f4 f5;obtain⟨o,e,c,d⟩:=id cu;exact⟨v,rfl,vG (s:={ s with heap:=h' }) e c d (by decide) ⟨_,H,I1,rv,⟨rfl,kvs[i],ek,rfl⟩,hl▸cu,λb hb=>(hf b hb).1⟩⟩
 done:=by
  intro X hP hw hK hc i pins s σ H E I hf st hg;subst hP hw hK;obtain⟨hq,hi⟩:=hg;obtain⟨vs,kv,da⟩:=NS jR (I.aD a _ hq);obtain⟨f0,f1,f2,f3,f4,f5⟩:=hf it (by simp)
  have hl:kvs.length=vs.length:=kv.length;exact wpAny_pyNext_values_end (I.ok.hd hc) (hl▸st) da (List.getElem?_eq_none (by lia)) λh' eb=>⟨rfl,I.turned (t':=s.toks) (λb o hb e=>eb b o hb e) f0 f1 f3 f4 f5⟩
 self:=λA i s Q E st h=>wpAny_pyIter_valiter st h
section
variable{X:Cx}{o:Expr}{to:TE}{apos cH:Pos}{tg:Expr}
noncomputable def EF(K:PySem.W.Frag)(td:TE):TI:=λσ H R=>td σ H λx H1=>∃a kvs,x = .ref a/\H1 a=some (.dK kvs)/\∀ob,R (NV a ob kvs) (upd H1 a (.bZ ob (.dK kvs)))
theorem NW(ho:PE X o to)(rR:attributeBase o "values" X.env (eval o X.env)=eval o X.env:=by rfl)(rS:(apos.endLine == cH.line)=true:=by rfl):PI X tg (.Call (.Attribute o "values" apos) [] [] cH) (EF X.K to):=by
 intro pins s σ H R I h;refine wpAny_Call_method0_late rR rS (aK (ho pins s σ H _ I h) λv s1 ⟨x,H1,I1,r1,q1⟩=>?_);obtain⟨a,kvs,e,hq,q⟩:=q1;subst e;have ty:vX X.K "dict" (.ref a) H1:=.inr (.inr (.inl ⟨rfl,.inl ⟨kvs,hq⟩⟩));obtain⟨h1,h2⟩:=Dj I1 r1 ty;refine⟨"dict", "dict.values",PySem.F.plainAttrs_dict,PySem.F.slot_dict_values,PySem.F.type_dict_values,h1,h2,Calls.callWith_builtin rfl (PySem.evalArgs_none ?_)⟩;cases r1;obtain⟨hz,hS,vs,kv,ob,es,ep,jR,c,d,r⟩:=Du I1.aD hq;have ln:kvs.length=vs.length:=kv.length;refine call_meetsIn PySem.F.slot_dict_values h1 PySem.F.entry_dict_values (PySem.F.args_dict_values_1 _) (meets_dict_values (d9 X.prog X.w) a hS) ⟨⟨vs,ob,es,ep,jR,c,d,r⟩,?_⟩;have I2:=I1.freeze hq jR;have I3:=I2.kept (t':=s1.toks) (h':=s1.heap.push { cls:=.type "dict_values",data:=.fields #[.ref a] }) λb o e=>Heap.get?_push_of_some _ e;refine wpAny_pyIter_values (knd:=d9 X.prog X.w) (kvs:=vs) (ep:=ep) ⟨_,Heap.get?_push_size _ rfl,rfl,rfl⟩ ⟨ob,es,Heap.get?_push_of_some _ jR,c,d,r⟩ ?_;have I4:=I3.kept (t':=s1.toks) (h':=(s1.heap.push { cls:=.type "dict_values",data:=.fields #[.ref a] }).push { cls:=.type "dict_valueiterator",data:=.fields #[.ref a,.int 0 0,.int vs.length 0,.int ep 0] }) λb o e=>Heap.get?_push_of_some _ e;refine⟨(s1.heap.push { cls:=.type "dict_values",data:=.fields #[.ref a] }).objs.size,[(s1.heap.push { cls:=.type "dict_values",data:=.fields #[.ref a] }).objs.size],_,_,_,rfl,I4,abZ a _ d,⟨_,Heap.get?_push_size _ rfl,rfl,by rw[ln];rfl⟩,λb hb=>?_,q ob⟩
 have e:b=(s1.heap.push { cls:=.type "dict_values",data:=.fields #[.ref a] }).objs.size:=by simpa using hb
 subst e;exact I3.lR (Nat.le_refl _) (I3.aD.fresh (Nat.le_refl _))
theorem Inv.ab0{pins:List (Addr×Obj)}{σ:St}{H:Hp}{s:Shared}{a:Addr}{kvs:List (Key×V)}{ob:Obj}(I:Inv X pins σ H s)(e:H a=some (.bZ ob (.dK kvs)))(h0:∀o u,X.cY a≠some (.bZ o u)):Inv X pins σ (upd H a (.dK kvs)) s:=by
 have up:∀b v,H b=some v->b≠a->upd H a (.dK kvs) b=some v:=λb v q n=>by rw[az n];exact q
 have na:∀b v,H b=some v->(∀o u,v≠.bZ o u)->b≠a:=λb v q n z=>by rw[z,e] at q;exact n _ _ (Option.some.inj q).symm
 have un:∀b,H b=none->upd H a (.dK kvs) b=none:=λb q=>by rw[az (λz=>by rw[z,e] at q;cases q)];exact q
 refine⟨I.ok,I.os,I.bare,⟨I.base.keep,I.base.slot,λb o q n hx=>un b (I.base.free b o q n hx),I.base.there,λb xs q=>up b _ (I.base.ig b xs q) (na b _ (I.base.ig b xs q) λ_ _ z=>nomatch z),λb o u q=>up b _ (I.base.gO b o u q) (λz=>by rw[z] at q;exact h0 _ _ q),λb ps q=>let ⟨m,z⟩:=I.base.ir b ps q;⟨m,up b _ z (na b _ z λ_ _ y=>nomatch y)⟩⟩,
  I.loc,I.cell,un _ I.free,λx c q=>un c (I.gu x c q),λp hp=>let ⟨q1,q2,q3⟩:=I.pin p hp;⟨q1,un _ q2,q3⟩,λb v q=>?_,I.len⟩
 by_cases z:b=a
 ·subst z;rw[aB] at q;cases q;have x:=(I.aD b _ e).2;exact x.fE (λ_ _ _ e=>e) (λd q=>up d _ q (na d _ q λ_ _ z=>nomatch z)) (λd xs q=>up d _ q (na d _ q λ_ _ z=>nomatch z))
 ·rw[az z] at q;exact(I.aD b v q).fE (λ_ _ _ e=>e) (λd q=>up d _ q (na d _ q λ_ _ z=>nomatch z)) λd xs q=>up d _ q (na d _ q λ_ _ z=>nomatch z)
noncomputable def ab1(cY:Hp)(t:TE):TE:=λσ H Q=>t σ H λv H1=>∃a ob kvs,H1 a=some (.bZ ob (.dK kvs))/\(∀o u,cY a≠some (.bZ o u))/\Q v (upd H1 a (.dK kvs))
end
theorem ab3{prog:Program}{w:World}{A:Around}{s:Shared}{a b:Int}{t u:Tok}{Q:Value->Shared->Prop}{E:Value->Shared->Prop}(h:Q (.bool (decide (a<b))) s):wpAny (model prog w) A (richCompare .Lt (.int a t) (.int b u)) Q E s :=
 CmpOf.ints_lt (P:=λi v=>(i=0/\v = .int a t)\/(i=1/\v = .int b u)) (λi=>if i=0 then a else b) (by
  rintro i v (⟨rfl,rfl⟩ | ⟨rfl,rfl⟩)
  ·exact⟨t,rfl⟩
  ·exact⟨u,rfl⟩) 0 1 _ _ s Q E (.inl ⟨rfl,rfl⟩) (.inr ⟨rfl,rfl⟩) h
theorem EG:∀ {us:List Value} {ns:List Int},IntsAre us ns->∀ {j:Nat} {v:Value},us[j]? = some v->∃n t,ns[j]? = some n/\v = .int n t
 | _,_,.nil,j,v,e=>by simp at e
 | _,_,.cons n t r,0,v,e=>⟨n,t,rfl,by simpa using e.symm⟩
 | _,_,.cons n t r,j+1,v,e=>EG r (j:=j) (by simpa using e)
noncomputable def oK(ns:List Int)(j:Nat)(m:Int):Prop:=m∈ns.take j/\∀a∈ns.take j,m<=a
theorem oK.step{ns:List Int}{j:Nat}{m v:Int}(h:oK ns j m)(e:ns[j]? = some v):oK ns (j+1) (if v<m then v else m):=by
 unfold oK;rw[take_succ_get e];obtain⟨h1,h2⟩:=h;by_cases c:v<m
 ·rw[if_pos c];refine⟨by simp,λa ha=>?_⟩
  rcases List.mem_append.mp ha with ha | ha
  ·have:=h2 a ha;lia
  ·rw[List.mem_singleton.mp ha];exact Int.le_refl _
 ·rw[if_neg c];refine⟨List.mem_append_left _ h1,λa ha=>?_⟩;rcases List.mem_append.mp ha with ha | ha
  ·exact h2 a ha
  ·rw[List.mem_singleton.mp ha];lia
noncomputable def ab4(v:Value)(c:Nat):Obj:={ cls:=.type "list",dict:=none,data:=.seq #[v,v] c,slots := #[] }
section
variable{prog:Program}{w:World}{A:Around}{R:Result->Shared->Prop}{l I S:Addr}{us:List Value}{ns:List Int}{kw:List (Str×Value)}
theorem ab5(hh:A.handled=none)(xC:l≠I)(xE:S≠l)(fQ:S≠I)(hi:IntsAre us ns):∀(k j:Nat) (s:Shared) (m:Int) (t:Tok) (c:Nat),j+k=us.length->
  s.heap.IsListIter I l j->s.heap.IsList l us.toArray->s.heap.get? S=some (ab4 (.int m t) c)->oK ns j m->
  (∀h' tk M t',oK ns us.length M->(∀b o,b≠S->b≠I->s.heap.get? b=some o->h'.get? b=some o)->R (.ok (.ret (.int M t'))) { s with heap:=h',toks:=tk })->
  codeAny (model prog w) A (.builtin "min.loop" ⟨[.ref I,.none,.ref S],kw⟩) R s:=by
 have W:=Walks.list (prog:=prog) (w:=w) (A:=A.in1) hh I l xC us.toArray;have fS:S∉[I]:=by simpa using fQ
 have nm:(toString "min" ++ toString ".loop" : String) = "min.loop" := by decide
 intro k
 induction k with
 | zero =>
  intro j s m t c hj hit hl hS lo hR;have hj:j=us.length:=hj;subst hj;refine codeAny_builtin F.entry_min_loop ?_;rw[Around.under_plainId F.plain_min_loop _]
  show wpAny _ A.in1 (seqItems? (.ref S) >>= _) _ _ _;apply wpAny_bind;refine wpAny_seqItems hS rfl ?_
  show wpAny _ A.in1 (tryCatch (pyNext (.ref I)) _ >>= _) _ _ _;apply wpAny_bind;refine wpAny_tryCatch (W.done s _ _ ⟨by simpa using hit,hl⟩ λh' tk kk=>?_)
  show wpAny _ A.in1 (updateSeq S (λ_ => #[]) >>= _) _ _ _;apply wpAny_bind;refine wpAny_updateSeq (kk S _ fS hS) rfl (wpAny_bind (wpAny_letGo (wpAny_pure ?_)));exact hR _ tk m t lo λb o b1 b2 e=>(Heap.get?_update_other _ _ (Ne.symm b1)).trans (kk b o (by simpa using b2) e)
 | succ k ih =>
  intro j s m t c hj hit hl hS lo hR;have jl:j<us.length:=by lia
  refine codeAny_builtin F.entry_min_loop ?_;rw[Around.under_plainId F.plain_min_loop _]
  show wpAny _ A.in1 (seqItems? (.ref S) >>= _) _ _ _;apply wpAny_bind;refine wpAny_seqItems hS rfl ?_
  show wpAny _ A.in1 (tryCatch (pyNext (.ref I)) _ >>= _) _ _ _;apply wpAny_bind;refine wpAny_tryCatch (W.item j s _ _ (by simpa using jl) ⟨hit,hl⟩ λv h' tk hP cu kk=>?_)
  have ev:us[j]? = some v:=by simpa using hP
  obtain⟨n,tn,en,rfl⟩:∃n tn,ns[j]? = some n/\v = .int n tn:=EG hi ev;have kL:=kk S _ fS hS;have xF:=lo.step en;have old:∀b o,b≠S->b≠I->s.heap.get? b=some o->h'.get? b=some o:=λb o _ b2 e=>kk b o (by simpa using b2) e
  show wpAny _ A.in1 (tryCatch (holding [.int n tn,.int n tn] (richCompare .Lt (.int n tn) (.int m t) >>= _)) _ >>= _) _ _ _;apply wpAny_bind;refine wpAny_tryCatch (wpAny_holding (wpAny_bind (ab3 ?_)));refine wpAny_bind (wpAny_holding (wpAny_truthy_bool (wpAny_bind (wpAny_letGo (wpAny_pure ?_)))));by_cases hc:n<m
  ·rw[decide_eq_true hc,if_pos rfl];rw[if_pos hc] at xF;apply wpAny_bind;refine wpAny_updateSeq kL rfl (wpAny_bind (wpAny_letGo ?_));rw[nm];have dY:=W.frame (j+1) h' (h'.update S (Obj.mapSeq λ_ => #[.int n tn,.int n tn])) cu λb hb o e=>(Heap.get?_update_other _ _ (λz:S=b=>by
    rw[← z] at hb;rcases List.mem_cons.mp hb with y | y
    ·exact fQ y
    ·exact xE (List.mem_singleton.mp y))).trans e
   refine wpAny_pure ⟨plainId_quiet F.plain_min_loop _,ih (j+1) _ n tn _ (by lia) dY.1 dY.2 (Heap.get?_update_self _ kL rfl) xF λh2 cy M t2 a1 a2=>hR h2 cy M t2 a1 λb o b1 b2 e=>a2 b o b1 b2 ((Heap.get?_update_other _ _ (Ne.symm b1)).trans (old b o b1 b2 e))⟩
  ·rw[decide_eq_false hc,if_neg (by decide)]
   rw[if_neg hc] at xF;apply wpAny_bind;refine wpAny_letGo ?_;rw[nm];exact wpAny_pure ⟨plainId_quiet F.plain_min_loop _,ih (j+1) _ m t c (by lia) cu.1 cu.2 kL xF λh2 cy M t2 a1 a2=>hR h2 cy M t2 a1 λb o b1 b2 e=>a2 b o b1 b2 (old b o b1 b2 e)⟩
theorem ab6{n0:Int}{nr:List Int}(hh:A.handled=none)(xC:l≠I)(xE:S≠l)(fQ:S≠I)(hi:IntsAre us (n0::nr)){s:Shared}{c:Nat}(hit:s.heap.IsListIter I l 0)(hl:s.heap.IsList l us.toArray)(hS:s.heap.get? S=some { cls:=.type "list",dict:=none,data:=.seq #[] c,slots := #[] })
  (hR:∀h' tk M t',oK (n0::nr) us.length M->(∀b o,b≠S->b≠I->s.heap.get? b=some o->h'.get? b=some o)->R (.ok (.ret (.int M t'))) { s with heap:=h',toks:=tk }) :
  codeAny (model prog w) A (.builtin "min.loop" ⟨[.ref I,.none,.ref S],kw⟩) R s:=by
 have W:=Walks.list (prog:=prog) (w:=w) (A:=A.in1) hh I l xC us.toArray;have fS:S∉[I]:=by simpa using fQ
 have nm:(toString "min" ++ toString ".loop" : String) = "min.loop" := by decide
 have ul:0<us.length:=by have:=hi.length;simp at this;lia
 refine codeAny_builtin F.entry_min_loop ?_;rw[Around.under_plainId F.plain_min_loop _]
 show wpAny _ A.in1 (seqItems? (.ref S) >>= _) _ _ _;apply wpAny_bind;refine wpAny_seqItems hS rfl ?_
 show wpAny _ A.in1 (tryCatch (pyNext (.ref I)) _ >>= _) _ _ _;apply wpAny_bind;refine wpAny_tryCatch (W.item 0 s _ _ (by simpa using ul) ⟨hit,hl⟩ λv h' tk hP cu kk=>?_)
 have ev:us[0]? = some v:=by simpa using hP
 obtain⟨n,tn,en,rfl⟩:=EG hi ev;cases en;have kL:=kk S _ fS hS
 show wpAny _ A.in1 (updateSeq S (λ_ => #[.int n0 tn,.int n0 tn]) >>= _) _ _ _;apply wpAny_bind;refine wpAny_updateSeq kL rfl ?_;rw[nm];have dY:=W.frame 1 h' (h'.update S (Obj.mapSeq λ_ => #[.int n0 tn,.int n0 tn])) cu λb hb o e=>(Heap.get?_update_other _ _ (λz:S=b=>by
  rw[← z] at hb;rcases List.mem_cons.mp hb with y | y
  ·exact fQ y
  ·exact xE (List.mem_singleton.mp y))).trans e
 exact wpAny_pure ⟨plainId_quiet F.plain_min_loop _,ab5 hh xC xE fQ hi (us.length - 1) 1 _ n0 tn _ (by lia) dY.1 dY.2 (Heap.get?_update_self _ kL rfl) ⟨by simp,λa ha=>by simp at ha;lia⟩ λh2 cy M t2 a1 a2=>hR h2 cy M t2 a1 λb o b1 b2 e=>a2 b o b1 b2 ((Heap.get?_update_other _ _ (Ne.symm b1)).trans (kk b o (by simpa using b2) e))⟩
end
section
variable{X:Cx}{e d:Expr}{tl td:TE}{p1 p4 kp:Pos}
theorem ab7(a v:Value):argsOk "min" ⟨[a],[(Str.ofString "default",v)]⟩:=by unfold argsOk;kernel_rfl
noncomputable def NY(K:PySem.W.Frag)(tl td:TE):TE:=λσ H Q=>tl σ H λx H1=>∃(l:Addr) (ns:List Int),x = .ref l/\td σ H1 λ_ H2=>aA K H2 l (ns.map V.int)/\0<ns.length/\∀M,M∈ns->(∀a,a∈ns->M<=a)->Q (.int M) H2
theorem ab8(hg:Gl X "min")(hm:X.mg "min" = none)(hc:X.calm=true)(hl:PE X e tl)(hd:PE X d td)(hs:starEach [e] X.env = [(false,eval e X.env)]:=by rfl) :
  PE X (.Call (.Name "min" p1) [e] [⟨some "default",d,kp⟩] p4) (NY X.K tl td):=by
 intro pins s σ H Q I h;refine wpAny_Call_Name_kw (j6 I hg hm boot_min (callWith_kw (he:=by rw[hs];rfl) (hplain:=by rw[hs];rfl) ?_))
 rw[hs];refine Calls.spliced_cons (aK (hl pins s σ H _ I h) λu s1 ⟨v,H1,I1,r1,q1⟩=>?_);obtain⟨l,ns,rfl,q1⟩:=q1;cases r1;refine Calls.spliced_nil (kws_cons (aK (hd pins s1 σ H1 _ I1 q1) λdv s2 ⟨_,H2,I2,_,hq,hn,q⟩=>kws_nil ?_));have hh:=I2.ok.hd hc;obtain⟨us,rv,pl,_⟩:=I2.list hq;have hi:IntsAre us ns:=intsAre_of rv;obtain⟨n0,nr,rfl⟩:=List.exists_cons_of_ne_nil (List.length_pos_iff.mp hn);have nm:(toString "min" ++ toString ".loop" : String) = "min.loop" := by decide
 refine kmk_tree PySem.F.kind_min PySem.F.plain_min PySem.F.entry_min (ab7 _ _) ?_
 show wpAny _ X.A.in1 (Builtin.Builtins.bindParams "min" ["key", "default"] 0 ⟨[],[(Str.ofString "default",dv)]⟩ >>= _) _ _ s2;refine wpAny_bind (wpAny_of_eq (show Builtin.Builtins.bindParams "min" ["key", "default"] 0 ⟨[],[(Str.ofString "default",dv)]⟩=pure [none,some dv] from rfl) (wpAny_bind (wpAny_pure ?_)));refine wpAny_bind (wpAny_pyIter_list pl.isList (wpAny_bind (wpAny_newList ?_ (Nat.zero_le _))));rw[nm];have k1:∀b o,s2.heap.get? b=some o->(s2.heap.push { cls:=.type "list_iterator",data:=.fields #[.ref l,.int 0 0] }).get? b=some o:=λb o e=>Heap.get?_push_of_some _ e;generalize hq1:s2.heap.push { cls:=.type "list_iterator",data:=.fields #[.ref l,.int 0 0] }=hp at k1 ⊢;have hI:hp.get? s2.heap.objs.size=some { cls:=.type "list_iterator",data:=.fields #[.ref l,.int 0 0] }:=hq1▸Heap.get?_push_size _ rfl;have lI:s2.heap.objs.size<hp.objs.size:=Heap.lt_size hI;have qq:=pl.isList;obtain⟨ol,gl,_⟩:=id qq;have ll:l<s2.heap.objs.size:=Heap.lt_size gl;refine wpAny_pure ⟨plainId_quiet F.plain_min_loop _,ab6 (I:=s2.heap.objs.size) (S:=hp.objs.size) hh (Nat.ne_of_lt ll) (Nat.ne_of_gt (Nat.lt_trans ll lI)) (Nat.ne_of_gt lI) hi ⟨_,Heap.get?_push_of_some _ hI,rfl,rfl⟩ ((qq.at λo e=>Heap.get?_push_of_some _ (k1 _ _ e))) (Heap.get?_push_size _ rfl) λh' tk M t' lo old=>?_⟩;obtain⟨m1,m2⟩:=lo;have e:(n0::nr).take us.length=n0::nr:=List.take_of_length_le (by have:=hi.length;lia)
 rw[e] at m1 m2;refine⟨.int M,H2,I2.kept (t':=tk) λb o e=>old b o (λz=>?_) (λz=>?_) (Heap.get?_push_of_some _ (k1 b o e)),⟨_,rfl⟩,q M m1 m2⟩
 ·exact absurd (Nat.lt_trans (z▸Heap.lt_size e) lI) (Nat.lt_irrefl _)
 ·exact absurd (z▸Heap.lt_size e) (Nat.lt_irrefl _)
end
noncomputable def xG(K:PySem.W.Frag)(a:Addr)(ss:List Str):Prop :=
 ∃(o:Obj) (aq:Array Value) (n:Nat),K.lookup a=some o/\o.cls = .type "tuple"/\o.data = .seq aq n/\aq.size<=sizeLine/\Vals (ss.map V.str) aq.toList
theorem xG.sq{K:PySem.W.Frag}{a:Addr}{ss:List Str}{H:Hp}(h:xG K a ss):bq K H a (ss.map V.str):=.inr h
theorem EH(ss:List Str):(ss.map V.str).all jH=true:=by
 rw[List.all_eq_true];intro x hx;obtain⟨s,_,rfl⟩:=List.mem_map.mp hx
 rfl
theorem EI(w:Str)(ss:List Str):pT (.str w) (ss.map V.str)=decide (w∈ss):=by
 unfold pT;rw[List.any_map]
 induction ss with
 | nil=>simp
 | cons s ss ih =>
  rw[List.any_cons,ih];by_cases e:w=s
  ·subst e;simp[Function.comp,jI]
  ·have e':¬ s=w:=λz=>e z.symm;simp[Function.comp,jI,e,e']
section
variable{X:Cx}{CX:f_}{k1 k2:Nat}{f1 f2:Addr}{oB oE:List Addr}{mD mF:FuncData}{sY jm:List Str}{lB oF:Sp}{E:XK}{m:Str}{pos apos:Pos}{o:Expr}{ta:TE}
theorem ab9{pl:Sem Bool}(ho:PE X o ta)(eE:∀C∈oB,bR X.K C/\Meth X.K C m f1)(F1:aO X.prog X.w X.K X.mg X.base CX k1 f1 mD sY lB)(Eu:bN k1 X.A)(Ew:Binds X.K mD sY [])
  (iz:∀C∈oE,bR X.K C/\Meth X.K C m f2) (F2:aO X.prog X.w X.K X.mg X.base CX k2 f2 mF jm oF) (Ex:bN k2 X.A) (iT:Binds X.K mF jm []) (hx:Passes CX X E)
  (n8:eval (.Call (.Attribute o m apos) [] [] pos) X.env=(do
   let ov ← eval o X.env
   standAt apos.atName
   let (f,first) ← holding [ov] (getMethod ov m pl)
   callWith pos f first (backTo pos (starEach [] X.env)) (backToKw pos (keywordEach [] X.env))):=by rfl):PE X (.Call (.Attribute o m apos) [] [] pos) (NG oB lB oE oF m E ta vQ):=by
 intro pins s σ H Q I h;refine PySem.W.methodCall_KW (pl:=pl) (aK (ho pins s σ H _ I h) λu s1 hz=>?_) n8;obtain⟨x,H1,I1,rx,C,a,dx,fs,ex,ea,hl,q⟩:=hz;subst ex;cases (show u=Value.ref a from rx);rcases q with⟨hC,q⟩ | ⟨hC,q⟩
 ·obtain⟨c1,c2⟩:=eE C hC;refine lY I1 ea c1 c2 hl (PySem.W.callWith_K0 (first:=[.ref a]) I1.bX c2.kp ?_)
  exact k_ (us:=[.ref a]) (vs:=[.ref a]) F1 Eu Ew .nil hx I1 (.cons rfl .nil) q
 ·obtain⟨c1,c2⟩:=iz C hC;refine lY I1 ea c1 c2 hl (PySem.W.callWith_K0 (first:=[.ref a]) I1.bX c2.kp ?_)
  exact k_ (us:=[.ref a]) (vs:=[.ref a]) F2 Ex iT .nil hx I1 (.cons rfl .nil) q
end
noncomputable def ab_:Sp:=λvs H Q _=>∃(x:Addr),vs = [.ref x]/\Q .aI H
noncomputable def mH(f a s:Int):Ak:=⟨"read",f,1,[],a,s,none,[],false⟩
section
variable{K:PySem.W.Frag}{C:Addr}{H H':Hp}{l p D:Addr}{ps:List Addr}{qs:List Ak}{q:Ak}{m b dx:Addr}{xs ys:List V}
theorem dI.iO(hD:H D=some (.lst xs))(h:dI K C H p q m b dx):dI K C (upd H D (.lst ys)) p q m b dx :=
 ⟨by rw[az (λz=>by have:=h.o;rw[z,hD] at this;cases this)];exact h.o,
  by rw[az (λz=>by have:=h.ms;rw[z,hD] at this;cases this)];exact h.ms,
  by rw[az (λz=>by have:=h.bh;rw[z,hD] at this;cases this)];exact h.bh⟩
theorem c7.snoc(h:c7 K C H l ps qs)(ha:dI K C H p q m b dx):c7 K C (upd H l (.lst (ps.map V.ref++[V.ref p]))) l (ps++[p]) (qs++[q]):=by
 refine⟨by rw[aB,List.map_append];rfl,by simp[h.n],λi p' q' e1 e2=>?_⟩
 have hn:=h.n;by_cases hi:i<ps.length
 ·rw[List.getElem?_append_left hi] at e1;rw[List.getElem?_append_left (by lia)] at e2
  obtain⟨m',b',dm,z⟩:=h.t i p' q' e1 e2;exact⟨m',b',dm,z.iO h.l⟩
 ·rw[List.getElem?_append_right (by lia)] at e1
  rw[List.getElem?_append_right (by lia)] at e2
  have gi:i - ps.length=0:=by
   have:=(List.getElem?_eq_some_iff.mp e1).1;simp at this;lia
  rw[gi] at e1;rw[← hn,gi] at e2;simp at e1 e2;subst e1 e2;exact⟨m,b,dx,ha.iO h.l⟩
theorem c7.cat{l2 l3:Addr}{jm:List Addr}{NZ:List Ak}(h:c7 K C H l ps qs)(h2:c7 K C H l2 jm NZ)(n:H l3=none):c7 K C (upd H l3 (.lst (ps.map V.ref++jm.map V.ref))) l3 (ps++jm) (qs++NZ):=by
 have s:=ah.put (o:=.lst (ps.map V.ref++jm.map V.ref)) n;refine⟨by rw[aB,List.map_append],by simp[h.n,h2.n],λi p' q' e1 e2=>?_⟩
 have hn:=h.n;by_cases hi:i<ps.length
 ·rw[List.getElem?_append_left hi] at e1;rw[List.getElem?_append_left (by lia)] at e2
  obtain⟨m',b',dm,z⟩:=h.t i p' q' e1 e2;exact⟨m',b',dm,z.same s⟩
 ·rw[List.getElem?_append_right (by lia)] at e1
  rw[List.getElem?_append_right (by lia)] at e2
  rw[← hn] at e2;obtain⟨m',b',dm,z⟩:=h2.t _ p' q' e1 e2;exact⟨m',b',dm,z.same s⟩
end
structure qw(P:Pl)(n:Int):Prop where
 r2:2<=P.rc.length
 c1:1<=P.rc.getD 1 0
 v:bT (p7 P.nc) (kT (1,0))=some (.int n)
 n0:0<=n
 n1:n<=1000000
noncomputable def acd(K:PySem.W.Frag)(cs:List Addr)(CA:Addr):Sp:=λvs H Q _=>∃(C p:Addr) (P:Pl) (fp:List Addr) (n:Int),vs = [.ref p]/\C∈cs/\bO K C H p P fp/\qw P n/\
 ∀a mk b dx H',ah H H'->H a=none->dI K CA H' a (mH n 0 0) mk b dx->Q (.ref a) H'
noncomputable def ace(K:PySem.W.Frag)(CA:Addr):Sp:=λvs H Q _=>∃(c a s:Int),vs = [.int c,.int a,.int s]/\0<=c/\c<=1000/\D_ 0 1 a s none/\
 ∀l ps H',ah H H'->H l=none->c7 K CA H' l ps (List.replicate c.toNat (mH 0 a s))->Q (.ref l) H'
noncomputable def fU(n most:Int):List Ak:=mH n 0 0::List.replicate (most - 1).toNat (mH 0 0 0)
noncomputable def acf(K:PySem.W.Frag)(cs:List Addr)(CA:Addr):Sp:=λvs H Q _=>∃(C p:Addr) (P:Pl) (fp:List Addr) (n most:Int),vs = [.ref p,.int most]/\C∈cs/\bO K C H p P fp/\qw P n/\2<=most/\most<=100/\
 ∀l ps H',ah H H'->H l=none->c7 K CA H' l ps (fU n most)->Q (.ref l) H'
noncomputable def kP:List Str:=["first", "calm lift", "calm sweep"]
noncomputable def mJ:List Str:=["nearest", "soonest", "latest", "lift", "sweep"]
noncomputable def acg(K:PySem.W.Frag)(cs:List Addr)(CA X:Addr):Sp:=λvs H Q E=>∃(C p:Addr) (P:Pl) (fp:List Addr) (n most:Int) (w:Str),vs = [.ref p,.str w,.int most]/\C∈cs/\bO K C H p P fp/\qw P n/\2<=most/\most<=100/\w∉mJ/\
 (w∈kP->∀t l ps H',ah H H'->H' t=some (.tup [.str "bound",.int (if w = "first" then 0 else most - 1),.ref l])->c7 K CA H' l ps (fU n most)->Q (.ref t) H')/\(w∉kP->∀H',ah H H'->E (.ref X) none H')
noncomputable def bV(x:Addr)(H H':Hp):Prop:=∀b o,H b=some o->b≠x->(∀ps,o≠.dP ps)->H' b=some o
section
variable{x:Addr}{H H1 H2:Hp}
theorem bV.of(s:SameBut x H H1):bV x H H1:=λ_ _ e n _=>s _ _ e n
theorem bV.trans(a:bV x H H1)(b:bV x H1 H2):bV x H H2:=λ_ _ e n z=>b _ _ (a _ _ e n z) n z
theorem bH.tD{P:Addr}{pos:Pos}{qual:Str}(t:bH P pos qual H)(k:SameBut P H H1):bV x H H1:=λ_ _ e _ z=>k _ _ e (t.ne e z)
end
noncomputable def N1(K:PySem.W.Frag)(CA CD C:Addr)(sw:Bool)(P:Addr)(pos:Pos)(qual:Str):Sp:=λvs H Q _=>∃(x dx B:Addr) (st:Lt) (r:Int) (D:Addr) (ps:List Addr) (ds:List Dr) (P':Pl) (b:Int),vs = [.ref x,.int r,.ref D]/\dO C H x st dx B/\eV K CA CD H D ps ds/\1<=ds.length/\ds.length<=100/\(∀d∈ds,1<=d.c.length)/\bH P pos qual H/\
 ∀d H',bV x H H'->bH P pos qual H'->dO C H' x (lF sw st r ds) dx B->bestOf (oH P' (qu sw r ds) b) (mG sw (lF sw st r ds).i r ds) d->Q (.int d.n) H'
noncomputable def ach(K:PySem.W.Frag)(CA CD:Addr)(cs:List Addr):Sp:=λvs H Q _=>∃(C x dx B:Addr) (st:Lt) (D:Addr) (ps:List Addr) (ds:List Dr),vs = [.ref x,.ref D]/\C∈cs/\oJ K C/\dO C H x st dx B/\eV K CA CD H D ps ds/\ds.length<=100/\
 ∀D' fO B' H',(B' = B\/H B' = none)->SameBut x H H'->dO C H' x (eG st ds) dx B'->eV K CA CD H' D' fO (eW st ds)->Q (.ref D') H'
noncomputable def aci(K:PySem.W.Frag)(CA CD CL CS P:Addr)(pos:Pos)(qual:Str):Sp:=λvs H Q _=>∃(C x dx B:Addr) (sw:Bool) (st:Lt) (p:Addr) (r b:Int) (D:Addr) (ps:List Addr) (ds:List Dr) (P':Pl),vs = [.ref x,.ref p,.int r,.int b,.ref D]/\xB CL CS C sw/\oJ K C/\dO C H x st dx B/\eV K CA CD H D ps ds/\1<=ds.length/\ds.length<=100/\(∀d∈ds,1<=d.c.length)/\bH P pos qual H/\
 ∀d B' H',(B' = B\/H B' = none)->bV x H H'->bH P pos qual H'->dO C H' x (lF sw (eG st ds) r (eW st ds)) dx B'->bestOf (oH P' (qu sw r (eW st ds)) b) (mG sw (lF sw (eG st ds) r (eW st ds)).i r (eW st ds)) d->Q (.int d.n) H'
theorem acj{K:PySem.W.Frag}{cY H:Hp}{σ:St}{g:TG}{tt:TT}{te td:TE}{nt:Nat}{fv:List Nat}{Q:VK}(a:Addr)(kvs:List (Key×V))(Pv:Obj->Addr->Nat->List V->St->Hp->Prop)(EJ:∀Q:VK,Q (.ref a) H->td σ H Q)(hq:H a=some (.dK kvs))(EK:∀o u,cY a≠some (.bZ o u))
  (h0:∀ob D,H D=none->Pv ob D 0 [] (iQ σ nt fv) (upd (upd H a (.bZ ob (.dK kvs))) D (.lst []))) (hD:∀ob D i ys σ H,Pv ob D i ys σ H->H D=some (.lst ys)/\ys.length<sizeLine/\H a=some (.bZ ob (.dK kvs)))
  (hs:∀ob D i x ys aj H2 (N:List V->St->Hp->Prop),(∀ys σ H,Pv ob D (i+1) ys σ H->N ys σ H)->kvs[i]? = some x->Pv ob D i ys aj H2->g x.2 aj H2 λbK H4=>tt bK H4 λb H5=>if b=true then te bK H5 λv H6=>H6 D=some (.lst ys)/\N (ys++[v]) bK (upd H6 D (.lst (ys++[v]))) else N ys bK H5)
  (hd:∀ob D ys aj H2,Pv ob D kvs.length ys aj H2->Q (.ref D) (upd H2 a (.dK kvs))):ab1 cY (iA (EF K td) g tt te nt fv) σ H Q:=by
 refine EJ _ ⟨a,kvs,rfl,hq,λob D fL=>?_⟩;have na:D≠a:=λz=>by rw[z,aB] at fL;cases fL
 have hD1:H D=none:=by rw[az na] at fL;exact fL
 refine⟨λi m ys aj H2=>m=kvs.length - i/\i<=kvs.length/\Pv ob D i ys aj H2,⟨_,rfl,Nat.zero_le _,h0 ob D hD1⟩,?_⟩;rintro i m ys aj H2 ⟨rfl,kF,p⟩;obtain⟨d1,d2,d3⟩:=hD ob D i ys aj H2 p;refine⟨d1,d2,?_⟩;by_cases bQ:i<kvs.length
 ·refine .inr ⟨⟨d3,bQ⟩,λx H3 y=>?_⟩;obtain⟨e1,c,e2,e3⟩:=y;subst e1;subst e3;exact hs ob D i c ys aj H3 (λEL aQ H'=>∃m',m' < kvs.length - i/\m' = kvs.length - (i+1)/\i+1<=kvs.length/\Pv ob D (i+1) EL aQ H') (λys σ H p=>⟨_,by lia,rfl,by lia,p⟩) e2 p
 ·have:i=kvs.length:=by lia
  subst this;exact .inl ⟨⟨d3,Nat.le_refl _⟩,a,ob,kvs,d3,EK,hd ob D ys aj H2 p⟩
noncomputable def N3(cY:Hp)(t:TS):TS:=λD σ H=>t { D with nx:=λeN H1=>∃a ob kvs,H1 a=some (.bZ ob (.dK kvs))/\(∀o u,cY a≠some (.bZ o u))/\D.nx eN (upd H1 a (.dK kvs))} σ H
theorem N4{X:Cx}{st:Stmt}{t:TS}(h:PS X st t):PS X st (N3 X.cY t):=by
 intro pins s σ H D I q;refine aK (h pins s σ H _ I q) λf s1 z=>?_;cases f with
 | next =>
  obtain⟨eN,H1,I1,a,ob,kvs,e,h0,q1⟩:=z;exact⟨eN,_,I1.ab0 e h0,q1⟩
 | ret v=>exact z
 | brk=>exact z
 | cont=>exact z
theorem N5{K:PySem.W.Frag}{cY H:Hp}{σ:St}{g:TG}{tt:TT}{te td:TE}{nt:Nat}{fv:List Nat}{E:Ends}{j:Nat}(a:Addr)(kvs:List (Key×V))(Pv:Obj->Addr->Nat->List V->St->Hp->Prop)(EJ:∀Q:VK,Q (.ref a) H->td σ H Q)(hq:H a=some (.dK kvs))(EK:∀o u,cY a≠some (.bZ o u))
  (h0:∀ob D,H D=none->Pv ob D 0 [] (iQ σ nt fv) (upd (upd H a (.bZ ob (.dK kvs))) D (.lst []))) (hD:∀ob D i ys σ H,Pv ob D i ys σ H->H D=some (.lst ys)/\ys.length<sizeLine/\H a=some (.bZ ob (.dK kvs)))
  (hs:∀ob D i x ys aj H2 (N:List V->St->Hp->Prop),(∀ys σ H,Pv ob D (i+1) ys σ H->N ys σ H)->kvs[i]? = some x->Pv ob D i ys aj H2->g x.2 aj H2 λbK H4=>tt bK H4 λb H5=>if b=true then te bK H5 λv H6=>H6 D=some (.lst ys)/\N (ys++[v]) bK (upd H6 D (.lst (ys++[v]))) else N ys bK H5)
  (hd:∀ob D ys aj H2,Pv ob D kvs.length ys aj H2->E.nx (σ.set j (some (.ref D))) (upd H2 a (.dK kvs))):N3 cY (vE (iA (EF K td) g tt te nt fv) (nu j)) E σ H :=
 acj (Q:=λv H'=>E.nx (σ.set j (some v)) H') a kvs Pv EJ hq EK h0 hD hs hd
section
variable{K:PySem.W.Frag}{H:Hp}{σ:St}{g:TG}{tt:TT}{te tl:TE}{nt:Nat}{fv:List Nat}{Q:VK}
theorem ack(a:Addr)(xs:List V)(Pv:Addr->Nat->List V->St->Hp->Prop)(iR:∀Q:VK,Q (.ref a) H->tl σ H Q)(dU:bq K H a xs)
  (h0:∀D,H D=none->Pv D 0 [] (iQ σ nt fv) (upd H D (.lst []))) (hD:∀D i ys σ H,Pv D i ys σ H->H D=some (.lst ys)/\ys.length<sizeLine/\bq K H a xs)
  (hs:∀D i x ys aj H2 (N:List V->St->Hp->Prop),(∀ys σ H,Pv D (i+1) ys σ H->N ys σ H)->xs[i]? = some x->Pv D i ys aj H2->g x aj H2 λbK H4=>tt bK H4 λb H5=>if b=true then te bK H5 λv H6=>H6 D=some (.lst ys)/\N (ys++[v]) bK (upd H6 D (.lst (ys++[v]))) else N ys bK H5)
  (hd:∀D ys aj H2,Pv D xs.length ys aj H2->Q (.ref D) H2):iA (CU K tl) g tt te nt fv σ H Q:=by
 refine iR _ ⟨a,rfl,⟨xs,dU⟩,λD fL=>?_⟩;refine⟨λi m ys aj H2=>m=xs.length - i/\i<=xs.length/\Pv D i ys aj H2,⟨_,rfl,Nat.zero_le _,h0 D fL⟩,?_⟩;rintro i m ys aj H2 ⟨rfl,kF,p⟩;obtain⟨d1,d2,d3⟩:=hD D i ys aj H2 p;refine⟨d1,d2,?_⟩;by_cases bQ:i<xs.length
 ·refine .inr ⟨⟨xs,xs[i],d3,by simp[bQ]⟩,λx H3 y=>?_⟩
  obtain⟨e1,e2⟩:=y;subst e1;exact hs D i x ys aj _ (λEL aQ H'=>∃m',m' < xs.length - i/\m' = xs.length - (i+1)/\i+1<=xs.length/\Pv D (i+1) EL aQ H') (λys σ H p=>⟨_,by lia,rfl,by lia,p⟩) (e2 xs d3) p
 ·have e:i=xs.length:=by lia
  subst e;exact .inl ⟨⟨xs,d3,Nat.le_refl _⟩,hd D ys aj H2 p⟩
end
theorem N6{K:PySem.W.Frag}{H:Hp}{σ:St}{g:TG}{tt:TT}{te tl:TE}{nt:Nat}{fv:List Nat}{Q:VK}(h:tl σ H λv H1=>iA (kg K λ_ H' Q'=>Q' v H') g tt te nt fv σ H1 Q):iA (kg K tl) g tt te nt fv σ H Q:=h
theorem acm(P:Pl)(s:Int×Int){xs:List (Int×Int)}(h:xs≠[]):∃zs a b,fq P s xs=zs++[[(dw P s xs).1,a,b,(dw P s xs).2]]:=by
 obtain⟨ys,q,rfl⟩:∃ys q,xs=ys++[q]:=⟨xs.dropLast,xs.getLast h,(List.dropLast_concat_getLast h).symm⟩;rw[DZ,DY];exact⟨_,_,_,rfl⟩
theorem Zt.last{H:Hp}{l:Addr}{ts:List Addr}{z:List (List Int)}{r:List Int}(h:Zt H l ts (z++[r])):∃qx t,ts=qx++[t]/\H t=some (.tup (r.map V.int)):=by
 have hn:=h.n;rw[List.length_append,List.length_singleton] at hn;have e9:ts≠[]:=λe=>by rw[e] at hn;simp at hn
 refine⟨ts.dropLast,ts.getLast e9,(List.dropLast_concat_getLast e9).symm,h.t z.length _ r ?_ (by simp)⟩
 rw[List.getLast_eq_getElem,List.getElem?_eq_getElem (by lia)]
 simp[hn]
theorem acn{r:List Int}(h:r.length=4):∃a b c d,r = [a,b,c,d]:=by
 match r,h with
 | [a,b,c,d],_=>exact⟨a,b,c,d,rfl⟩
noncomputable def cE(ls:List (Dr×Addr)):List (Key×V):=ls.map λy=>(cD y.1.n,V.ref y.2)
noncomputable def jX(ls:List (Dr×Addr))(n:Int):Bool:=ls.any λy=>decide (y.1.n=n)
theorem tE{a b:Int}:cD a=cD b↔a=b:=by unfold cD;exact⟨λz=>Sum.inl.inj z,λz=>by rw[z]⟩
theorem N7(ls:List (Dr×Addr))(n:Int):(bT (cE ls) (cD n)).isSome=jX ls n:=by
 induction ls with
 | nil=>rfl
 | cons y ls ih =>
  unfold bT cE jX at *
  rw[List.map_cons,List.find?_cons,List.any_cons];by_cases e:y.1.n=n
  ·subst e;simp
  ·have:¬ cD y.1.n=cD n:=λz=>e (tE.mp z);simp only[this,e,decide_false,Bool.false_or];exact ih
theorem aco{ls:List (Dr×Addr)}(up:ls.Pairwise λa b=>a.1.n<b.1.n){y:Dr×Addr}(hy:y∈ls):bT (cE ls) (cD y.1.n)=some (.ref y.2):=by
 induction ls with
 | nil=>cases hy
 | cons z ls ih =>
  rw[List.pairwise_cons] at up;unfold bT cE at *
  rw[List.map_cons,List.find?_cons];rcases List.mem_cons.mp hy with rfl | hy
  ·simp
  ·have:=up.1 y hy;have:¬ cD z.1.n=cD y.1.n:=λe=>by have:=tE.mp e;lia
   simp only[this,decide_false];exact ih up.2 hy
theorem N8(ls:List (Dr×Addr))(n:Int):gU (cE ls) (cD n)=cE (ls.filter λy=>decide (y.1.n≠n)):=by
 unfold gU cE;rw[List.filter_map];congr 1;refine List.filter_congr λy _=>?_
 show decide (cD y.1.n≠cD n)=_;rw[decide_eq_decide];exact not_congr tE
noncomputable def dB(kp p:Addr)(r b:Int)(Dx:Addr):List (Str×V):=[("keeping",.ref kp),("plate",.ref p),("ring",.int r),("beat",.int b),("left",.ref Dx)]
noncomputable def xH(K:PySem.W.Frag)(CA CD:Addr)(H:Hp)(y:Dr×Addr):Prop:=∃dx ap l ts m b bu,gH K CA CD H y.2 y.1 dx ap l ts m b bu
structure bF(K:PySem.W.Frag)(CC CA CD:Addr)(H:Hp)(x dx kp:Addr)(ks:List Addr)(kk:List (List Int))(p:Addr)(r b:Int)(Dx:Addr)(ls:List (Dr×Addr)):Prop where
 o:H x=some (.ins CC dx (dB kp p r b Dx))
 k:Zt H kp ks kk
 d:H Dx=some (.dK (cE ls))
 t:∀y∈ls,xH K CA CD H y
 up:ls.Pairwise λa b=>a.1.n<b.1.n
 n:ls.length<=100
 kn:∀y∈ls,0<=y.1.n/\y.1.n<kk.length
noncomputable def bL(x Dx:Addr)(H H':Hp):Prop:=∀b o,H b=some o->b≠x->b≠Dx->H' b=some o
section
variable{K:PySem.W.Frag}{CC CA CD:Addr}{H H' H1:Hp}{x dx kp:Addr}{ks:List Addr}{kk:List (List Int)}{p:Addr}{r b:Int}{Dx:Addr}{ls:List (Dr×Addr)}
theorem bL.of(s:ah H H'):bL x Dx H H':=λ_ _ e _ _=>s _ _ e
theorem bL.trans(s:bL x Dx H H1)(t:bL x Dx H1 H'):bL x Dx H H':=λ_ _ e n1 n2=>t _ _ (s _ _ e n1 n2) n1 n2
theorem bL.EM{o:HO}(s:bL x Dx H H'):bL x Dx H (upd H' x o):=λ_ _ e n1 n2=>by rw[az n1];exact s _ _ e n1 n2
theorem bL.qy{o:HO}(s:bL x Dx H H'):bL x Dx H (upd H' Dx o):=λ_ _ e n1 n2=>by rw[az n2];exact s _ _ e n1 n2
theorem bL.put{l:Addr}{o:HO}(s:bL x Dx H H')(n:H l=none):bL x Dx H (upd H' l o):=λ_ _ e n1 n2=>by rw[az (λz=>by rw[z,n] at e;cases e)];exact s _ _ e n1 n2
theorem bF.nf(h:bF K CC CA CD H x dx kp ks kk p r b Dx ls):∀o u,H Dx≠some (.bZ o u):=λo u z=>by rw[h.d] at z;cases z
theorem bF.ne(h:bF K CC CA CD H x dx kp ks kk p r b Dx ls):x≠Dx:=λz=>by have:=h.o;rw[z,h.d] at this;cases this
theorem tF:(cE ls).length=ls.length:=by simp[cE]
theorem bF.lst(h:bF K CC CA CD H x dx kp ks kk p r b Dx ls)(s:bL x Dx H H'){a:Addr}{xs:List V}(e:H a=some (.lst xs)):H' a=some (.lst xs) :=
 s _ _ e (λz=>by have:=h.o;rw[← z,e] at this;cases this) (λz=>by have:=h.d;rw[← z,e] at this;cases this)
theorem bF.tup(h:bF K CC CA CD H x dx kp ks kk p r b Dx ls)(s:bL x Dx H H'){a:Addr}{xs:List V}(e:H a=some (.tup xs)):H' a=some (.tup xs) :=
 s _ _ e (λz=>by have:=h.o;rw[← z,e] at this;cases this) (λz=>by have:=h.d;rw[← z,e] at this;cases this)
theorem bF.ins(h:bF K CC CA CD H x dx kp ks kk p r b Dx ls)(s:bL x Dx H H'){a C d:Addr}{fs:List (Str×V)}(e:H a=some (.ins C d fs))(n:fs.lookup ("keeping" : Str)=none):H' a=some (.ins C d fs) :=
 s _ _ e (λz=>by have:=h.o;rw[← z,e] at this;cases this;simp[dB,List.lookup_cons] at n) (λz=>by have:=h.d;rw[← z,e] at this;cases this)
theorem bF.zt(h:bF K CC CA CD H x dx kp ks kk p r b Dx ls)(s:bL x Dx H H'){a:Addr}{ts:List Addr}{z:List (List Int)}(e:Zt H a ts z):Zt H' a ts z:=⟨h.lst s e.l,e.n,λi t r e1 e2=>h.tup s (e.t i t r e1 e2)⟩
theorem bF.zn(h:bF K CC CA CD H x dx kp ks kk p r b Dx ls)(s:bL x Dx H H'){a:Addr}{ts:List Addr}{z:List (Int×Int)}(e:Zn H a ts z):Zn H' a ts z:=⟨h.lst s e.l,e.n,λi t r e1 e2=>h.tup s (e.t i t r e1 e2)⟩
theorem bF.ak(h:bF K CC CA CD H x dx kp ks kk p r b Dx ls)(s:bL x Dx H H'){a C m b2 d:Addr}{q:Ak}(e:dI K C H a q m b2 d):dI K C H' a q m b2 d:=⟨h.ins s e.o (by simp[gk,List.lookup_cons,gF]),h.tup s e.ms,h.tup s e.bh⟩
theorem bF.du(h:bF K CC CA CD H x dx kp ks kk p r b Dx ls)(s:bL x Dx H H'){a d ap l m b2 bu:Addr}{y:Dr}{ts:List Addr}(e:gH K CA CD H a y d ap l ts m b2 bu):gH K CA CD H' a y d ap l ts m b2 bu:=⟨h.ins s e.o (by simp[iC,List.lookup_cons,gF]),h.ak s e.a,h.zn s e.c⟩
theorem bF.qA(h:bF K CC CA CD H x dx kp ks kk p r b Dx ls)(s:bL x Dx H H'){y:Dr×Addr}(e:xH K CA CD H y):xH K CA CD H' y:=let ⟨a,b,c,d,e,f,g,z⟩:=e;⟨a,b,c,d,e,f,g,h.du s z⟩
theorem bF.EN(h:bF K CC CA CD H x dx kp ks kk p r b Dx ls)(s:bL x Dx H H'){C a:Addr}{P:Pl}{fp:List Addr}(e:bO K C H a P fp):bO K C H' a P fp:=by
 obtain⟨dm,a1,a2,a3,a4,ts,fs,e,g⟩:=e;have f1:=g.f1;refine⟨dm,a1,a2,a3,a4,ts,fs,e,{ g with o:=s _ _ g.o (λz=>?_) (λz=>?_),rc:=h.lst s g.rc,sw:=h.lst s g.sw,nc:=h.zn s g.nc,cn:=s _ _ g.cn (λz=>?_) (λz=>?_)}⟩
 ·have:=h.o;rw[← z,g.o] at this;cases this;simp[dB,List.lookup_cons,gF] at f1
 ·have:=h.d;rw[← z,g.o] at this;cases this
 ·have:=h.o;rw[← z,g.cn] at this;cases this
 ·have:=h.d;rw[← z,g.cn] at this;cases this
theorem bF.step(h:bF K CC CA CD H x dx kp ks kk p r b Dx ls)(s:bL x Dx H H'){r2 b2:Int}{cT:List (Dr×Addr)}(sub:cT.Sublist ls)(o:H' x=some (.ins CC dx (dB kp p r2 b2 Dx)))(d:H' Dx=some (.dK (cE cT))):bF K CC CA CD H' x dx kp ks kk p r2 b2 Dx cT :=
 ⟨o,h.zt s h.k,d,λy hy=>h.qA s (h.t y (sub.subset hy)),h.up.sublist sub,Nat.le_trans sub.length_le h.n,λy hy=>h.kn y (sub.subset hy)⟩
theorem bF.free(h:bF K CC CA CD H' x dx kp ks kk p r b Dx ls)(s:bL x Dx H H'){a:Addr}(n:H' a=none):H a=none:=by
 cases e:H a with
 | none=>rfl
 | some o =>
  have:=s _ _ e (λz=>by have:=h.o;rw[← z,n] at this;cases this) (λz=>by have:=h.d;rw[← z,n] at this;cases this)
  rw[n] at this;cases this
theorem bF.same(h:bF K CC CA CD H x dx kp ks kk p r b Dx ls)(s:ah H H'):bF K CC CA CD H' x dx kp ks kk p r b Dx ls:=h.step (bL.of s) (.refl _) (s _ _ h.o) (s _ _ h.d)
theorem bF.kt(h:bF K CC CA CD H x dx kp ks kk p r b Dx ls)(s:bU H H'):bF K CC CA CD H' x dx kp ks kk p r b Dx ls :=
 ⟨s.ins h.o (by simp[iW,dB,List.lookup_cons,gF]),⟨s.lst h.k.l,h.k.n,λi t r e1 e2=>s.tup (h.k.t i t r e1 e2)⟩,s _ _ h.d (.of (λ_ z=>nomatch z) (λ_ _ _ z=>nomatch z) λ_ z=>nomatch z),λy hy=>let ⟨a,b,c,d,e,f,g,z⟩:=h.t y hy;⟨a,b,c,d,e,f,g,z.kt s⟩,h.up,h.n,h.kn⟩
end
noncomputable def N9(ls:List (Dr×Addr))(b b2:Int):Prop:=∃M,(∃y∈ls,y.1.q.at_=M)/\(∀y∈ls,M<=y.1.q.at_)/\b2=if b<M then M else b
noncomputable def acp(K:PySem.W.Frag)(CC CA CD:Addr):Sp:=λvs H Q _=>∃(x dx kp:Addr) (ks:List Addr) (kk:List (List Int)) (p:Addr) (r b:Int) (Dx:Addr) (ls:List (Dr×Addr)),vs = [.ref x]/\bF K CC CA CD H x dx kp ks kk p r b Dx ls/\1<=ls.length/\
 ∀b2 H',N9 ls b b2->bL x Dx H H'->bF K CC CA CD H' x dx kp ks kk p r b2 Dx ls->Q .aI H'
noncomputable def acq(K:PySem.W.Frag)(CC CA CD:Addr):Sp:=λvs H Q _=>∃(x dx kp:Addr) (ks:List Addr) (kk:List (List Int)) (p:Addr) (r b:Int) (Dx:Addr) (ls:List (Dr×Addr)) (n:Nat) (ns:List Int),vs = [.ref x,.int (n:Int)]/\bF K CC CA CD H x dx kp ks kk p r b Dx ls/\kk[n]? = some ns/\ns.length<=1000/\
 ∀H',ah H H'->Q (.bl (ns.any (jX ls))) H'
noncomputable def tG(kk:List (List Int))(b:Int)(ls:List (Dr×Addr)):List (Dr×Addr):=(ls.filter λy=>decide (y.1.q.at_<=b)).filter λy => !((kk.getD y.1.n.toNat []).any (jX ls))
noncomputable def acr(K:PySem.W.Frag)(CC CA CD:Addr):Sp:=λvs H Q _=>∃(x dx kp:Addr) (ks:List Addr) (kk:List (List Int)) (p:Addr) (r b:Int) (Dx:Addr) (ls:List (Dr×Addr)),vs = [.ref x]/\bF K CC CA CD H x dx kp ks kk p r b Dx ls/\1<=ls.length/\(∀ns∈kk,ns.length<=1000)/\
 ∀b2 D H',N9 ls b b2->bL x Dx H H'->bF K CC CA CD H' x dx kp ks kk p r b2 Dx ls->H D=none->eV K CA CD H' D ((tG kk b2 ls).map (·.2)) ((tG kk b2 ls).map (·.1))->Q (.ref D) H'
noncomputable def acs(K:PySem.W.Frag)(cs:List Addr)(CC CA CD:Addr):Sp:=λvs H Q _=>∃(C x dx kp:Addr) (ks:List Addr) (kk:List (List Int)) (p:Addr) (P:Pl) (fp:List Addr) (r b:Int) (Dx:Addr) (ls:List (Dr×Addr)) (y:Dr×Addr),vs = [.ref x,.int y.1.n]/\bF K CC CA CD H x dx kp ks kk p r b Dx ls/\y∈ls/\
 C∈cs/\bO K C H p P fp/\kH P/\0<=r/\r<P.rc.length/\p_ P y.1.c/\1<=y.1.c.length/\y.1.c.length<=1000/\
 ∀l ts H',bL x Dx H H'->H l=none->bF K CC CA CD H' x dx kp ks kk p (dw P (r,b) y.1.c).1 (dw P (r,b) y.1.c).2 Dx (ls.filter λz=>decide (z.1.n≠y.1.n))->Zt H' l ts ((fq P (r,b) y.1.c).map λrow=>y.1.n::row)->Q (.ref l) H'
noncomputable def dD(nc:List (Int×Int)):Nat->List Ak->List Dr
 | _,[]=>[]
 | k,q::r=>⟨(k:Int),q,dX nc q.first q.many⟩::dD nc (k+1) r
theorem N_(nc:List (Int×Int))(q:Ak):∀(qs:List Ak) (k:Nat),dD nc k (qs++[q])=dD nc k qs++[⟨((k+qs.length:Nat):Int),q,dX nc q.first q.many⟩]
 | [],k=>by simp[dD]
 | a::qs,k=>by
  have e:k+1+qs.length=k+(qs.length+1):=by lia
  simp[dD,N_ nc q qs (k+1),e]
theorem EO(nc:List (Int×Int)):∀(qs:List Ak) (k:Nat),(dD nc k qs).length=qs.length
 | [],k=>rfl
 | a::qs,k=>by simp[dD,EO nc qs (k+1)]
theorem tH(nc:List (Int×Int)):∀(qs:List Ak) (k:Nat) (d:Dr),d∈dD nc k qs->(k:Int)<=d.n/\d.n<((k+qs.length:Nat):Int)
 | [],k,d,h=>by cases h
 | a::qs,k,d,h=>by
  rcases List.mem_cons.mp h with rfl | h
  ·dsimp only;simp only[List.length_cons];lia
  ·have:=tH nc qs (k+1) d h;simp only[List.length_cons];lia
theorem Oa{r:List Int}(h:r.length=5):∃a b c d e,r = [a,b,c,d,e]:=by
 match r,h with
 | [a,b,c,d,e],_=>exact⟨a,b,c,d,e,rfl⟩
section
variable{K:PySem.W.Frag}{CC CA CD:Addr}{H H':Hp}{x dx:Addr}
theorem qB(hx:H x=some (.ins CC dx []))(s:SameBut x H H'){a:Addr}{xs:List V}(e:H a=some (.lst xs)):H' a=some (.lst xs):=s _ _ e (λz=>by rw[z,hx] at e;cases e)
theorem xJ(hx:H x=some (.ins CC dx []))(s:SameBut x H H'){a:Addr}{xs:List V}(e:H a=some (.tup xs)):H' a=some (.tup xs):=s _ _ e (λz=>by rw[z,hx] at e;cases e)
theorem acu(hx:H x=some (.ins CC dx []))(s:SameBut x H H'){a:Addr}{ts:List Addr}{z:List (List Int)}(e:Zt H a ts z):Zt H' a ts z:=⟨qB hx s e.l,e.n,λi t r e1 e2=>xJ hx s (e.t i t r e1 e2)⟩
theorem acv(hx:H x=some (.ins CC dx []))(s:SameBut x H H'){a C m b d:Addr}{q:Ak}(e:dI K C H a q m b d):dI K C H' a q m b d:=⟨s _ _ e.o (λz=>by have:=e.o;rw[z,hx] at this;simp[gk] at this),xJ hx s e.ms,xJ hx s e.bh⟩
theorem acw(hx:H x=some (.ins CC dx []))(s:SameBut x H H'){C a:Addr}{P:Pl}{fp:List Addr}(e:bO K C H a P fp):bO K C H' a P fp:=by
 obtain⟨dm,a1,a2,a3,a4,ts,fs,e,g⟩:=e;have f1:=g.f1;refine⟨dm,a1,a2,a3,a4,ts,fs,e,{ g with o:=s _ _ g.o (λz=>?_),rc:=qB hx s g.rc,sw:=qB hx s g.sw,nc:=⟨qB hx s g.nc.l,g.nc.n,λi t r e1 e2=>xJ hx s (g.nc.t i t r e1 e2)⟩,cn:=s _ _ g.cn (λz=>?_)}⟩
 ·have:=g.o;rw[z,hx] at this;cases this;simp at f1
 ·have:=g.cn;rw[z,hx] at this;cases this
end
section
variable{K:PySem.W.Frag}{CC CA CD:Addr}{H:Hp}{x dx kp:Addr}{ks:List Addr}{kk:List (List Int)}{p:Addr}{r b:Int}{Dx:Addr}{ls:List (Dr×Addr)}
theorem bF.add(h:bF K CC CA CD H x dx kp ks kk p r b Dx ls){y:Dr×Addr}(hy:xH K CA CD H y)(n0:0<=y.1.n)(n1:y.1.n<kk.length)(up:∀z∈ls,z.1.n<y.1.n)(hn:ls.length<100):bF K CC CA CD (upd H Dx (.dK (putK (cE ls) (cD y.1.n) (.ref y.2)))) x dx kp ks kk p r b Dx (ls++[y]):=by
 have s:bL x Dx H (upd H Dx (.dK (putK (cE ls) (cD y.1.n) (.ref y.2)))):=(bL.of (λ_ _ e=>e)).qy;have nv:bT (cE ls) (cD y.1.n)=none:=by
  cases e:bT (cE ls) (cD y.1.n) with
  | none=>rfl
  | some v =>
   have:=N7 ls y.1.n;rw[e] at this;obtain⟨z,hz,e2⟩:=List.any_eq_true.mp this.symm;have:=of_decide_eq_true e2;have:=up z hz;lia
 refine⟨by rw[az h.ne];exact h.o,h.zt s h.k,?_,λz hz=>?_,?_,by rw[List.length_append,List.length_singleton];lia,λz hz=>?_⟩
 ·rw[aB,Yo _ nv];unfold cE;rw[List.map_append];rfl
 ·rcases List.mem_append.mp hz with hz | hz
  ·exact h.qA s (h.t z hz)
  ·rw[List.mem_singleton.mp hz];exact h.qA s hy
 ·rw[List.pairwise_append];exact⟨h.up,List.pairwise_singleton _ _,λa ha c hc=>by rw[List.mem_singleton.mp hc];exact up a ha⟩
 ·rcases List.mem_append.mp hz with hz | hz
  ·exact h.kn z hz
  ·rw[List.mem_singleton.mp hz];exact⟨n0,n1⟩
end
noncomputable def acy(K:PySem.W.Frag)(cs:List Addr)(CC CA CD:Addr):Sp:=λvs H Q _=>∃(C x dx p la:Addr) (P:Pl) (fp ps:List Addr) (qs:List Ak) (r:Int),vs = [.ref x,.ref p,.ref la,.int r]/\H x=some (.ins CC dx [])/\C∈cs/\bO K C H p P fp/\P.nc.length<=1000000/\c7 K CA H la ps qs/\wZ P.nc.length qs/\(∀q∈qs,q.kind≠"rest")/\
 ∀kp ks Dx ls H',SameBut x H H'->H Dx=none->bF K CC CA CD H' x dx kp ks (iB qs qs.length) p r 0 Dx ls->ls.map (·.1)=dD P.nc 0 qs->Q .aI H'
noncomputable def Ob(CP:Addr):Sp:=λvs H Q _=>∃(x dx:Addr) (v1 v2 v3 v4 v5:V),vs = [.ref x,v1,v2,v3,v4,v5]/\H x=some (.ins CP dx [])/\
 Q .aI (upd H x (.ins CP dx [("rows",v1),("taken",v2),("told",v3),("answers",v4),("end",v5)]))
noncomputable def acz(K:PySem.W.Frag):Sp:=λvs H Q _=>∃(l:Addr) (ts:List Addr) (z:List (List Int)),vs = [.ref l]/\Zt H l ts z/\z.length<=100000/\(∀r∈z,r.length=5)/\
 ∀E kvs H',ah H H'->H E=none->H' E=some (.dK kvs)->(∀n:Int,(∃r∈z,r.head? = some n)->∃e:Int,bT kvs (cD n)=some (.int e))->Q (.ref E) H'
noncomputable def acA(K:PySem.W.Frag)(CA:Addr):Sp:=λvs H Q _=>∃(a:Addr) (q:Ak) (m b dx:Addr),vs = [.ref a]/\dI K CA H a q m b dx/\0<=q.first/\q.first<=1000000/\0<=q.many/\q.many<=16/\
 ∀l (ns:List Int) H',ah H H'->H l=none->ns.length=q.many.toNat->H' l=some (.lst (ns.map V.int))->Q (.ref l) H'
noncomputable def Oc(K:PySem.W.Frag)(CA:Addr):Sp:=λvs H Q _=>∃(la:Addr) (ps:List Addr) (qs:List Ak) (pi:Addr) (ns:List Int),vs = [.ref la,.ref pi]/\c7 K CA H la ps qs/\qs.length<=100/\(∀q∈qs,q.kind = "read"/\0<=q.first/\q.first<=1000000/\0<=q.many/\q.many<=16)/\H pi=some (.lst (ns.map V.int))/\ns.length<=100/\(∀n∈ns,0<=n/\n<qs.length)/\
 ∀l H',ah H H'->Q (.ref l) H'
noncomputable def Od(K:PySem.W.Frag)(CA:Addr):Sp:=λvs H Q _=>∃(la:Addr) (ps:List Addr) (qs:List Ak) (E:Addr) (kvs:List (Key×V)) (sh:Int),vs = [.ref la,.ref E,.int sh]/\c7 K CA H la ps qs/\qs.length<=100/\(∀q∈qs,q.kind = "read"/\q.early=false)/\H E=some (.dK kvs)/\(∀n:Int,0<=n->n<qs.length->∃e:Int,bT kvs (cD n)=some (.int e))/\
 ∀l H',ah H H'->Q (.ref l) H'
noncomputable def cG(K:PySem.W.Frag)(cf:List Addr)(CL CS:Addr)(o:Option Bool)(st:Lt)(H:Hp)(ru dx B:Addr):Prop:=match o with
 | none=>∃C,C∈cf/\H ru=some (.ins C dx [])
 | some sw=>∃C,xB CL CS C sw/\oJ K C/\dO C H ru st dx B
noncomputable def xK(o:Option Bool)(st:Lt)(r:Int)(ds:List Dr)(d:Dr)(cu:Lt):Prop:=match o with
 | none=>bestOf (λ_=>(0,0)) ds d/\cu=st
 | some sw=>cu=lF sw (eG st ds) r (eW st ds)/\∃(P:Pl) (b:Int),bestOf (oH P (qu sw r (eW st ds)) b) (mG sw (lF sw (eG st ds) r (eW st ds)).i r (eW st ds)) d
theorem xK.mem{o:Option Bool}{st cu:Lt}{r:Int}{ds:List Dr}{d:Dr}(h:xK o st r ds d cu):d∈ds:=by
 cases o with
 | none=>exact h.1.1
 | some sw =>
  obtain⟨_,P,b,h⟩:=h;exact EA (abQ h.1)
structure xM(P:Pl)(q:Ak):Prop where
 k:q.kind = "read"
 e:q.early=false
 b:q.behind = []
 f0:0<=q.first
 f1:q.first<=1000000
 m0:1<=q.many
 m1:q.many<=16
 c:p_ P (dX P.nc q.first q.many)
 cn:(dX P.nc q.first q.many).length=q.many.toNat
noncomputable def Oe(ds:List Dr)(b b2:Int):Prop:=∃M,(∃d∈ds,d.q.at_=M)/\(∀d∈ds,M<=d.q.at_)/\b2=if b<M then M else b
structure qC(P:Pl)(o:Option Bool)(J:List Dr->Int->Int->Lt->List (Int×Int)->Prop):Prop where
 go:∀ds r b st tk b2 d cu,J ds r b st tk->ds≠[]->Oe ds b b2->xK o st r (ds.filter λd=>decide (d.q.at_<=b2)) d cu->J (ds.filter λe=>decide (e.n≠d.n)) (dw P (r,b2) d.c).1 (dw P (r,b2) d.c).2 cu (tk++[(d.n,b2)])
noncomputable def cF(n:Nat)(tk:List (Int×Int)):List V:=tk.foldl (λxs p=>xs.set p.1.toNat (.int p.2)) (List.replicate n .aI)
theorem acB(n:Nat)(tk:List (Int×Int))(p:Int×Int):cF n (tk++[p])=(cF n tk).set p.1.toNat (.int p.2):=by
 unfold cF;rw[List.foldl_append];rfl
theorem ER(n:Nat)(tk:List (Int×Int)):(cF n tk).length=n:=by
 unfold cF
 suffices ∀xs:List V,(tk.foldl (λxs p=>xs.set p.1.toNat (.int p.2)) xs).length=xs.length by rw[this,List.length_replicate]
 induction tk with
 | nil=>intro xs;rfl
 | cons p tk ih=>intro xs;rw[List.foldl_cons,ih,List.length_set]
theorem acC(n:Nat)(tk:List (Int×Int)):iF (cF n tk):=by
 have h:∀v∈cF n tk,v = .aI\/∃i,v=V.int i:=by
  unfold cF
  suffices ∀xs:List V,(∀v∈xs,v = .aI\/∃i,v=V.int i)->∀v∈tk.foldl (λxs p=>xs.set p.1.toNat (.int p.2)) xs,v = .aI\/∃i,v=V.int i from
   this _ λv hv=>.inl (List.eq_of_mem_replicate hv)
  induction tk with
  | nil=>intro xs h;exact h
  | cons p tk ih =>
   intro xs h;rw[List.foldl_cons];refine ih _ λv hv=>?_;rcases List.mem_or_eq_of_mem_set hv with hv | rfl
   ·exact h v hv
   ·exact .inr ⟨_,rfl⟩
 intro i j z;have:=h (.bl i) (by rw[z];simp)
 rcases this with e | ⟨_,e⟩ <;> cases e
noncomputable def acD(v1:V)(ta:Addr)(v3 v4 v5:V):List (Str×V):=[("rows",v1),("taken",.ref ta),("told",v3),("answers",v4),("end",v5)]
noncomputable def acE(K:PySem.W.Frag)(cs cf:List Addr)(CA CL CS CP TP:Addr)(pos:Pos)(qual:Str):Sp:=λvs H Q _=>∃(C p la ru dx B:Addr) (P:Pl) (fp ps:List Addr) (qs:List Ak) (o:Option Bool) (st:Lt) (J:List Dr->Int->Int->Lt->List (Int×Int)->Prop),
 vs = [.ref p,.ref la,.ref ru,.int 0,.int 0]/\C∈cs/\bO K C H p P fp/\kH P/\P.nc.length<=1000000/\c7 K CA H la ps qs/\wZ P.nc.length qs/\(∀q∈qs,xM P q)/\cG K cf CL CS o st H ru dx B/\bH TP pos qual H/\
 J (dD P.nc 0 qs) 0 0 ⟨st.c,true,[]⟩ []/\qC P o J/\
 ∀x dm v1 ta v3 v4 v5 r b cu tk Of B' H',bV ru H H'->bH TP pos qual H'->J [] r b cu tk->cG K cf CL CS o cu H' ru Of B'->H' x=some (.ins CP dm (acD v1 ta v3 v4 v5))->H' ta=some (.lst (cF qs.length tk))->Q (.ref x) H'
section
variable{K:PySem.W.Frag}{cf:List Addr}{CL CS CC CA CD:Addr}{o:Option Bool}{st:Lt}{H H' H1:Hp}{ru dx B x dc kp p Dx:Addr}{ks:List Addr}{kk:List (List Int)}{r b:Int}{ls:List (Dr×Addr)}{TP:Addr}{pos:Pos}{qual:Str}
theorem bV.same(k:bV ru H H')(s:ah H' H1):bV ru H H1:=λ_ _ e n z=>s _ _ (k _ _ e n z)
theorem bV.gZ(k:bV ru H H')(s:bL x Dx H' H1)(nx:H x=none)(nd:H Dx=none):bV ru H H1:=λ_ _ e n z=>s _ _ (k _ _ e n z) (λw=>by rw[w,nx] at e;cases e) (λw=>by rw[w,nd] at e;cases e)
structure kQ(ru:Addr)(H:Hp)(l:Addr):Prop where
 x:∀o,H l=some o->l≠ru->(∀ps,o≠.dP ps)->False
 t:∀o,H l=some o->lC o->False
theorem kQ.of(kx:bV ru H H')(kt:bU H H'){l:Addr}(n:H' l=none):kQ ru H l :=
 ⟨λo e n1 n2=>(by have:=kx _ _ e n1 n2;rw[n] at this;cases this),λo e n1=>(by have:=kt _ _ e n1;rw[n] at this;cases this)⟩
theorem bV.put{l:Addr}{u:HO}(k:bV ru H H')(nl:kQ ru H l):bV ru H (upd H' l u):=λc o e n z=>by
 by_cases w:c=l
 ·subst w;exact(nl.x o e n z).elim
 ·rw[az w];exact k _ _ e n z
theorem bU.putK{l:Addr}{u:HO}(k:bU H H')(nl:kQ ru H l):bU H (upd H' l u):=λc o e n=>by
 by_cases w:c=l
 ·subst w;exact(nl.t o e n).elim
 ·rw[az w];exact k _ _ e n
theorem bU.gZ(k:bU H H')(s:bL x Dx H' H1)(nx:H x=none)(nd:H Dx=none):bU H H1:=λ_ _ e n=>s _ _ (k _ _ e n) (λw=>by rw[w,nx] at e;cases e) (λw=>by rw[w,nd] at e;cases e)
theorem bH.gZ(t:bH TP pos qual H)(c:bF K CC CA CD H x dc kp ks kk p r b Dx ls)(s:bL x Dx H H'):bH TP pos qual H':=by
 obtain⟨ps,e,tr,w⟩:=t;have go:∀ {a:Addr} {u:HO},H a=some u->(∀C d fs,u≠.ins C d fs)->(∀k,u≠.dK k)->H' a=some u:=λ{a u} e n1 n2=>s _ _ e (λz=>by have:=c.o;rw[← z,e] at this;exact n1 _ _ _ (Option.some.inj this)) (λz=>by have:=c.d;rw[← z,e] at this;exact n2 _ (Option.some.inj this))
 refine⟨ps,go e (λ_ _ _ z=>nomatch z) (λ_ z=>nomatch z),tr,?_⟩;rcases w with w | ⟨c',e1,e2⟩
 ·exact .inl w
 ·exact .inr ⟨c',e1,go e2 (λ_ _ _ z=>nomatch z) (λ_ z=>nomatch z)⟩
theorem dO.acF{C:Addr}(h:dO C H ru st dx B)(k:bV ru H H1):bU H H1:=λ_ _ e n=>k _ _ e (λz=>by rw[z,h.o] at e;cases e;have:=n.2.1 _ _ _ rfl;rw[NN] at this;cases this) n.1
noncomputable def jq(x Dx:Addr)(H H':Hp):Prop:=∀b o,H b=some o->lC o->b≠x->b≠Dx->H' b=some o
theorem jq.gZ(k:jq x Dx H H')(s:bL x Dx H' H1):jq x Dx H H1:=λ_ _ e n n1 n2=>s _ _ (k _ _ e n n1 n2) n1 n2
theorem jq.kt(k:jq x Dx H H')(s:bU H' H1):jq x Dx H H1:=λ_ _ e n n1 n2=>s _ _ (k _ _ e n n1 n2) n
theorem jq.put{l:Addr}{u:HO}(k:jq x Dx H H')(nl:H l=none):jq x Dx H (upd H' l u):=λ_ _ e n n1 n2=>by rw[az (λw=>by rw[w,nl] at e;cases e)];exact k _ _ e n n1 n2
theorem bF.Og(h:bF K CC CA CD H x dc kp ks kk p r b Dx ls)(s:jq x Dx H H'){r2 b2:Int}{cT:List (Dr×Addr)}(sub:cT.Sublist ls)(o:H' x=some (.ins CC dc (dB kp p r2 b2 Dx)))(d:H' Dx=some (.dK (cE cT))):bF K CC CA CD H' x dc kp ks kk p r2 b2 Dx cT:=by
 have hl:∀ {a:Addr} {xs:List V},H a=some (.lst xs)->iF xs->H' a=some (.lst xs):=λ{a xs} e n=>s _ _ e (.lst n) (λz=>by have:=h.o;rw[← z,e] at this;cases this) (λz=>by have:=h.d;rw[← z,e] at this;cases this)
 have ht:∀ {a:Addr} {xs:List V},H a=some (.tup xs)->H' a=some (.tup xs):=λ{a xs} e=>s _ _ e (.of (λ_ z=>nomatch z) (λ_ _ _ z=>nomatch z) λ_ z=>nomatch z) (λz=>by have:=h.o;rw[← z,e] at this;cases this) (λz=>by have:=h.d;rw[← z,e] at this;cases this)
 have hi:∀ {a C d:Addr} {fs:List (Str×V)},H a=some (.ins C d fs)->iW fs=false->fs.lookup ("keeping" : Str)=none->H' a=some (.ins C d fs):=λ{a C d fs} e n1 n2=>s _ _ e (.ins n1) (λz=>by have:=h.o;rw[← z,e] at this;cases this;simp[dB,List.lookup_cons] at n2) (λz=>by have:=h.d;rw[← z,e] at this;cases this)
 refine⟨o,⟨hl h.k.l iF.refs,h.k.n,λi t r e1 e2=>ht (h.k.t i t r e1 e2)⟩,d,λy hy=>?_,h.up.sublist sub,Nat.le_trans sub.length_le h.n,λy hy=>h.kn y (sub.subset hy)⟩;obtain⟨dm,ap,l,ts,m,b',bu,g⟩:=h.t y (sub.subset hy);exact⟨dm,ap,l,ts,m,b',bu,hi g.o NK (by simp[iC,List.lookup_cons,gF]),⟨hi g.a.o NJ (by simp[gk,List.lookup_cons,gF]),ht g.a.ms,ht g.a.bh⟩,⟨hl g.c.l iF.refs,g.c.n,λi t r e1 e2=>ht (g.c.t i t r e1 e2)⟩⟩
theorem cG.gZ(h:cG K cf CL CS o st H ru dx B)(c:bF K CC CA CD H x dc kp ks kk p r b Dx ls)(s:bL x Dx H H')(nx:ru≠x)(nB:B≠Dx):cG K cf CL CS o st H' ru dx B:=by
 cases o with
 | none =>
  obtain⟨C,hC,e⟩:=h;exact⟨C,hC,s _ _ e nx (λz=>by have:=c.d;rw[← z,e] at this;cases this)⟩
 | some sw =>
  obtain⟨C,h1,h2,h3⟩:=h;refine⟨C,h1,h2,s _ _ h3.o nx (λz=>by have:=c.d;rw[← z,h3.o] at this;cases this),?_⟩
  obtain⟨kvs,a,l,v⟩:=h3.d;exact⟨kvs,s _ _ a (λz=>by have:=c.o;rw[← z,a] at this;cases this) nB,l,v⟩
theorem cG.same(h:cG K cf CL CS o st H ru dx B)(s:ah H H'):cG K cf CL CS o st H' ru dx B:=by
 cases o with
 | none =>
  obtain⟨C,hC,e⟩:=h;exact⟨C,hC,s _ _ e⟩
 | some sw =>
  obtain⟨C,h1,h2,h3⟩:=h;exact⟨C,h1,h2,h3.same s⟩
theorem cG.ins(h:cG K cf CL CS o st H ru dx B):∃C fs,H ru=some (.ins C dx fs):=by
 cases o with
 | none =>
  obtain⟨C,hC,e⟩:=h;exact⟨C,_,e⟩
 | some sw =>
  obtain⟨C,h1,h2,h3⟩:=h;exact⟨C,_,h3.o⟩
theorem cG.iO(h:cG K cf CL CS o st H ru dx B){l:Addr}{xs:List V}{u:HO}(e:H l=some (.lst xs)):cG K cf CL CS o st (upd H l u) ru dx B:=by
 cases o with
 | none =>
  obtain⟨C,hC,e2⟩:=h;exact⟨C,hC,by rw[az (λz=>by rw[← z,e2] at e;cases e)];exact e2⟩
 | some sw =>
  obtain⟨C,h1,h2,h3⟩:=h;obtain⟨kvs,a,lv⟩:=h3.d;exact⟨C,h1,h2,by rw[az (λz=>by have:=h3.o;rw[z,e] at this;cases this)];exact h3.o,kvs,by rw[az (λz=>by rw[z,e] at a;cases a)];exact a,lv⟩
end
theorem nBD{K:PySem.W.Frag}{CC CA CD:Addr}{H:Hp}{x dc kp p Dx B B':Addr}{ks:List Addr}{kk:List (List Int)}{r b:Int}{ls:List (Dr×Addr)}(n:B≠Dx)(c:bF K CC CA CD H x dc kp ks kk p r b Dx ls)(h:B' = B\/H B' = none):B'≠Dx:=λz=>by
 rcases h with h | h
 ·exact n (h▸z)
 ·rw[z,c.d] at h;cases h
theorem bH.iO{H:Hp}{TP l:Addr}{pos:Pos}{qual:Str}{xs:List V}{u:HO}(t:bH TP pos qual H)(e:H l=some (.lst xs)):bH TP pos qual (upd H l u):=by
 obtain⟨ps,e1,tr,w⟩:=t;refine⟨ps,by rw[az (λz=>by rw[z,e] at e1;cases e1)];exact e1,tr,?_⟩
 rcases w with w | ⟨c',e2,e3⟩
 ·exact .inl w
 ·exact .inr ⟨c',e2,by rw[az (λz=>by rw[z,e] at e3;cases e3)];exact e3⟩
theorem acG{ls:List (Dr×Addr)}(up:ls.Pairwise λa b=>a.1.n<b.1.n){y:Dr×Addr}(hy:y∈ls):(ls.filter λz=>decide (z.1.n≠y.1.n)).length+1=ls.length:=by
 have nd:((cE ls).map (·.1)).Nodup:=by
  unfold cE;rw[List.map_map,List.nodup_iff_pairwise_ne,List.pairwise_map];exact up.imp λ{a b} h z=>by
   have:=tE.mp z;lia
 have:=Mc (k:=cD y.1.n) nd (by
  unfold cE;rw[List.map_map];exact List.mem_map.mpr ⟨y,hy,rfl⟩)
 rw[N8,tF,tF] at this;exact this
theorem c7.kt{K:PySem.W.Frag}{C:Addr}{H H':Hp}{l:Addr}{ps:List Addr}{qs:List Ak}(h:c7 K C H l ps qs)(k:bU H H'):c7 K C H' l ps qs:=⟨k.lst h.l,h.n,λi p q e1 e2=>let ⟨m,b,dx,z⟩:=h.t i p q e1 e2;⟨m,b,dx,z.kt k⟩⟩
theorem ES(nc:List (Int×Int)):∀(qs:List Ak) (k i:Nat),i<qs.length->∃d∈dD nc k qs,d.n=((k+i:Nat):Int)
 | [],k,i,h=>by simp at h
 | q::qs,k,0,h=>⟨_,List.mem_cons_self ..,rfl⟩
 | q::qs,k,i+1,h=>by
  obtain⟨d,hd,e⟩:=ES nc qs (k+1) i (by simpa using h)
  exact⟨d,List.mem_cons_of_mem _ hd,by rw[e];congr 1;lia⟩
theorem xN(nc:List (Int×Int)):∀(qs:List Ak) (k:Nat) (d:Dr),d∈dD nc k qs->d.q∈qs/\d.c=dX nc d.q.first d.q.many
 | [],k,d,h=>by cases h
 | q::qs,k,d,h=>by
  rcases List.mem_cons.mp h with rfl | h
  ·exact⟨List.mem_cons_self ..,rfl⟩
  ·obtain⟨a,b⟩:=xN nc qs (k+1) d h;exact⟨List.mem_cons_of_mem _ a,b⟩
theorem acH{P:Pl}{qs:List Ak}(rd:∀q∈qs,xM P q):∀ns∈iB qs qs.length,ns = []:=by
 intro ns h;unfold iB at h;obtain⟨k,hk,rfl⟩:=List.mem_map.mp h;unfold wY;rw[List.map_eq_nil_iff,List.filter_eq_nil_iff];intro j hj;have h1:=List.mem_range.mp hk;have h2:=List.mem_range.mp hj;have h3:j<qs.length:=by lia
 rw[List.getElem?_eq_getElem h1,List.getElem?_eq_getElem h3];have a:=rd _ (List.getElem_mem h1);have b:=rd _ (List.getElem_mem h3);have n6:((Str.ofString "read"):Str)≠"write" := Eh (by decide)
 simp[a.b,qe,a.k,b.k,n6]
theorem acI{kk:List (List Int)}(h:∀ns∈kk,ns = [])(b:Int)(ls:List (Dr×Addr)):tG kk b ls=ls.filter λy=>decide (y.1.q.at_<=b):=by
 unfold tG;refine List.filter_eq_self.mpr λy _=>?_;have:kk.getD y.1.n.toNat [] = []:=by
  rw[List.getD_eq_getElem?_getD];cases e:kk[y.1.n.toNat]? with
  | none=>rfl
  | some ns=>exact h ns (List.mem_of_getElem? e)
 rw[this];rfl
theorem Zt.cat{H:Hp}{R l:Addr}{ts tw:List Addr}{z z2:List (List Int)}(h:Zt H R ts z)(h2:Zt H l tw z2):Zt (upd H R (.lst (ts.map V.ref++tw.map V.ref))) R (ts++tw) (z++z2):=by
 have ne:∀ {t:Addr} {xs:List V},H t=some (.tup xs)->t≠R:=λe q=>by rw[q,h.l] at e;cases e
 have hn:=h.n;refine⟨by rw[aB,List.map_append],by simp[h.n,h2.n],λi t x e1 e2=>?_⟩
 by_cases hi:i<ts.length
 ·rw[List.getElem?_append_left hi] at e1;rw[List.getElem?_append_left (by lia)] at e2
  have:=h.t i t x e1 e2;rw[az (ne this)];exact this
 ·rw[List.getElem?_append_right (by lia)] at e1
  rw[List.getElem?_append_right (by lia),← hn] at e2
  have:=h2.t _ t x e1 e2;rw[az (ne this)];exact this
structure Oh(K:PySem.W.Frag)(cf:List Addr)(CL CS CC CA CD TP:Addr)(pos:Pos)(qual:Str)(o:Option Bool)(P:Pl)(qs:List Ak)(J:List Dr->Int->Int->Lt->List (Int×Int)->Prop)(H H3 H':Hp)(tK:List (Dr×Addr))(ru dx B x dc kp p Dx R Pk Tk:Addr)(ks:List Addr)(kk:List (List Int))(r b:Int)(ls:List (Dr×Addr))(st:Lt)(tk:List (Int×Int))(ts:List Addr)(rows:List (List Int)):Prop where
 kx:bV ru H H'
 kt:bU H H'
 tb:bH TP pos qual H'
 rA:cG K cf CL CS o st H' ru dx B
 nB:B≠Dx
 nx:ru≠x
 co:bF K CC CA CD H' x dc kp ks kk p r b Dx ls
 j:J (ls.map (·.1)) r b st tk
 fx:H x=none
 fd:H Dx=none
 c3:bF K CC CA CD H3 x dc kp ks kk p 0 0 Dx tK
 bt:jq x Dx H3 H'
 sub:ls.Sublist tK
 n3:H3 R=none/\H3 Pk=none/\H3 Tk=none
 fR:kQ ru H R
 fP:kQ ru H Pk
 fT:kQ ru H Tk
 ne:R≠Pk/\R≠Tk/\Pk≠Tk
 rr:Zt H' R ts rows
 r5:∀w∈rows,w.length=5
 rl:rows.length<=16*tk.length
 rh:∀q∈tk,∃w∈rows,w.head? = some q.1
 pP:H' Pk=some (.lst ((tk.map (·.1)).map V.int))
 tT:H' Tk=some (.lst (cF qs.length tk))
 n:tk.length+ls.length=qs.length
 all:∀d∈dD P.nc 0 qs,d∈ls.map (·.1)\/∃q∈tk,q.1=d.n
 dr:∀y∈ls,y.1∈dD P.nc 0 qs
 tn:∀q∈tk,0<=q.1/\q.1<qs.length
 r0:0<=r
 r1:r<P.rc.length
section
variable{X:Cx}
theorem acJ(hu:X.A.units<cLine):c_ X (compareOp .Eq) (λx y H Q=>∃(a b:Addr) (ns ms:List Int),x = .ref a/\y = .ref b/\H a=some (.tup (ns.map V.int))/\H b=some (.tup (ms.map V.int))/\Q (.bl (decide (ns=ms))) H):=by
 rintro pins s σ H x y v u Q I rx ry ⟨p,q,ns,ms,rfl,rfl,h,h',hq⟩;cases rx;cases ry;obtain⟨aq,r1,q1,_⟩:=I.tuple (bq.of (K:=X.K) h);obtain⟨iP,r2,q2,_⟩:=I.tuple (bq.of (K:=X.K) h');have l1:ns.length=aq.length:=by have:=r1.length;simpa using this
 have l2:ms.length=iP.length:=by have:=r2.length;simpa using this
 have e0:((List.range (min aq.toArray.size iP.toArray.size)).all (λj=>decide (ns[j]? = ms[j]?)) && aq.toArray.size == iP.toArray.size)=decide (ns=ms):=by
  rw[Bool.eq_iff_iff];simp only[Bool.and_eq_true,List.all_eq_true,List.mem_range,decide_eq_true_eq,beq_iff_eq,List.size_toArray];constructor
  ·rintro⟨h1,h2⟩;refine List.ext_getElem? λj=>?_
   by_cases hj:j<min aq.length iP.length
   ·exact h1 j hj
   ·rw[List.getElem?_eq_none (by lia),List.getElem?_eq_none (by lia)]
  ·rintro rfl;exact⟨λ_ _=>rfl,by lia⟩
 have fin:=SeqAt.RcAt.tuples (A:=X.A) (s:=s) (e:=λj=>decide (ns[j]? = ms[j]?)) q1 q2 (by lia) (λj h1 h2=>?_)
 ·rw[e0] at fin;exact fin X.prog X.w _ _ ⟨.bl (decide (ns=ms)),H,I,rfl,hq⟩
 ·have j1:j<ns.length:=by rw[l1];simpa using h1
  have j2:j<ms.length:=by rw[l2];simpa using h2
  obtain⟨u1,g1,w1⟩:=r1.get (show (ns.map V.int)[j]? = some (.int ns[j]) by simp[j1])
  obtain⟨u2,g2,w2⟩:=r2.get (show (ms.map V.int)[j]? = some (.int ms[j]) by simp[j2])
  have e1:aq.toArray[j] = u1:=by
   rw[List.getElem_toArray];exact Option.some.inj ((List.getElem?_eq_getElem (by simpa using h1)).symm.trans g1)
  have e2:iP.toArray[j] = u2:=by
   rw[List.getElem_toArray];exact Option.some.inj ((List.getElem?_eq_getElem (by simpa using h2)).symm.trans g2)
  obtain⟨t1,rfl⟩:=w1;obtain⟨t2,rfl⟩:=w2;rw[e1,e2];have:=SeqAt.EqAt.int_int (A:=X.A.in1) (s:=s) ns[j] t1 ms[j] t2;have e3:(ns[j] == ms[j])=decide (ns[j]? = ms[j]?):=by
   simp only[List.getElem?_eq_getElem j1,List.getElem?_eq_getElem j2,Option.some.injEq];rw[Bool.eq_iff_iff];simp
  rwa [e3] at this
end
section
variable{X:Cx}
noncomputable def Oi:V->Option Int->Option Int->Hp->VK->Prop:=λx lo hi H Q=>∃z,x = .str z/\z.length<=sizeLine/\Q (.str (Txt.slice z lo hi)) H
theorem Oj:De X Oi:=by
 intro pins s σ H x v vl vu lo hi sl Q I rx hs pl pu h;obtain⟨z,rfl,hz,q⟩:=h;obtain⟨t,rfl⟩:=rx;refine⟨"str",_,F.slot_str_getitem.lookup,typeIs_str _ _ _,?_⟩;have fin:∀(l u:Option (Int×Tok)),l.map (·.1)=lo->u.map (·.1)=hi->s.heap.IsSlice sl l u none->wpAny (model X.prog X.w) X.A (getItem (.str z t) (.ref sl)) (EP X pins σ Q) X.xe s:=by
  intro l u e1 e2 h;subst e1 e2;refine wpAny_getItem_str_slice h rfl (post_val_or_str ⟨Nat.le_trans (Txt.slice_le z _ _) hz,λt' k=>⟨.str _,H,I.tok _,⟨_,rfl⟩,q⟩⟩)
 cases pl with
 | none =>
  cases pu with
  | none=>exact fin none none rfl rfl hs
  | int j u=>exact fin none (some (j,u)) rfl rfl hs
 | int i t1 =>
  cases pu with
  | none=>exact fin (some (i,t1)) none rfl rfl hs
  | int j u=>exact fin (some (i,t1)) (some (j,u)) rfl rfl hs
noncomputable def Ol:R2:=λx y H Q=>∃y1 z,x = .str y1/\y = .str z/\y1.length+z.length<=sizeLine/\Q (.str (y1++z)) H
theorem ET:c_ X (binaryOp .Add) Ol:=by
 rintro pins s σ H x y v u Q I rx ry ⟨y1,z,rfl,rfl,hz,q⟩;obtain⟨t,rfl⟩:=rx;obtain⟨t',rfl⟩:=ry;exact SB.add (λt' k=>⟨.str _,H,I.tok _,⟨_,rfl⟩,q⟩) hz
noncomputable def Om:V->List V->Hp->VK->Prop:=λx vs H Q=>∃z,x = .str z/\vs = []/\(Txt.upper z).length<=sizeLine/\Q (.str (Txt.upper z)) H
theorem acK:Dg X "str.upper" Om:=by
 rintro pins s σ H x vs v us Q I rx rv ⟨z,rfl,rfl,hz,q⟩;obtain⟨t,rfl⟩:=rx;have hus:=rv.zero;subst hus;refine SC.upper (by simp[Builtin.Str.tooLong];lia) ?_
 exact⟨.str _,H,I.tok _,⟨_,rfl⟩,q⟩
end
noncomputable def qD(z:List (Int×Int))(aM sk:Int)(sw:List Int):Pl:=⟨counts z,aM,sk,sw,lz (counts z) 0⟩
noncomputable def acL(K:PySem.W.Frag)(C:Addr):Sp:=λvs H Q _=>∃(sc:Addr) (ns:List Int),vs = [.ref sc]/\aA K H sc (ns.map V.int)/\ns.length<=63/\
 ∀t p wt z aM sk sw fp H',ah H H'->H' t=some (.tup [.ref p,.ref wt])->bO K C H' p (qD z aM sk sw) fp->qj z aM sk sw->Q (.ref t) H'
noncomputable def acM(CX:Addr):Sp:=λvs H Q _=>∃(a:Addr),vs = [.ref a]/\H a=some (sM a CX)/\∀H',ah H H'->Q (.bl true) H'
noncomputable def acN(K:PySem.W.Frag)(C:Addr):Sp:=λvs H Q _=>∃(p:Addr) (P:Pl) (fp:List Addr) (n most:Int) (w:Str),vs = [.ref p,.str w,.int most]/\bO K C H p P fp/\qw P n/\2<=most/\most<=100/\w∉mJ/\w∉kP/\∀H',ah H H'->Q (.bl true) H'
noncomputable def acO(K:PySem.W.Frag)(CA:Addr):Sp:=λvs H Q _=>∃(la:Addr) (ps:List Addr) (qs:List Ak) (most:Int),vs = [.ref la,.int most]/\c7 K CA H la ps qs/\1<=qs.length/\(qs.length:Int)<=most/\most<=100/\(∀q∈qs,q.kind = "read"/\q.at_=0/\q.behind = [])/\∀H',ah H H'->Q (.bl true) H'
noncomputable def acP:Sp:=λvs H Q _=>∃(c:Int),vs = [.int c]/\∀w H',ah H H'->w∉mJ->w∉kP->Q (.str w) H'
noncomputable def iH:List Str:=kP++mJ
theorem acQ:∀w∈iH,w.length<=20/\(Txt.upper w).length<=20:=by decide +kernel
theorem acR:((Str.ofString "calm first"):Str)∉iH:=by decide +kernel
theorem acS{i:Int}(h0:0<=i)(h8:i<8):∃w∈iH,fj (iH.map V.str) i=some (.str w):=by
 have hl:iH.length=8:=rfl;have hi:i.toNat<iH.length:=by lia
 refine⟨iH[i.toNat],List.getElem_mem hi,?_⟩;have:=gC (xs:=iH.map V.str) (j:=i.toNat) (v:=.str iH[i.toNat]) (by rw[List.getElem?_map,List.getElem?_eq_getElem hi];rfl)
 rwa [show ((i.toNat:Nat):Int)=i by lia] at this
theorem acT(ss:List Str){i:Int}(h0:0<=i)(h:i<ss.length):∃w,fj (ss.map V.str) i=some (.str w):=by
 have hi:i.toNat<ss.length:=by lia
 refine⟨ss[i.toNat],?_⟩;have:=gC (xs:=ss.map V.str) (j:=i.toNat) (v:=.str ss[i.toNat]) (by rw[List.getElem?_map,List.getElem?_eq_getElem hi];rfl)
 rwa [show ((i.toNat:Nat):Int)=i by lia] at this
theorem acU{rc:List Int}(h2:2<=rc.length)(hc:∀c∈rc,1<=c):∃n:Int,1<=n/\rc.getD 0 0=n/\(lz rc 0)[0]? = some (0,0)/\(lz rc 0)[n.toNat]? = some (1,0):=by
 match rc,h2 with
 | a::b::r,_ =>
  have ha:=hc a (by simp)
  have hb:=hc b (by simp)
  refine⟨a,ha,rfl,?_,?_⟩
  ·unfold lz;rw[dW,List.getElem?_append_left (by rw[List.length_map,List.length_range];lia),List.getElem?_map,List.getElem?_range (by lia)]
   rfl
  ·unfold lz;rw[dW,List.getElem?_append_right (by rw[List.length_map,List.length_range];lia),List.length_map,List.length_range,show a.toNat - (a - 0).toNat=0 by lia]
   rw[dW,List.getElem?_append_left (by rw[List.length_map,List.length_range];lia),List.getElem?_map,List.getElem?_range (by lia)]
   rfl
theorem Oo{nc:List (Int×Int)}{f:Int}{q:Int×Int}(h:nc[f.toNat]? = some q):dX nc f 1 = [q]:=by
 unfold dX;have hl:=(List.getElem?_eq_some_iff.mp h).1;rw[List.drop_eq_getElem_cons hl];have:=(List.getElem?_eq_some_iff.mp h).2;simp[this]
theorem acV{z:List (Int×Int)}{aM sk:Int}{sw:List Int}(h2:2<=(counts z).length)(hc:∀c∈counts z,1<=c/\c<=60):∃n,qw (qD z aM sk sw) n/\1<=n/\n<=60/\dX (qD z aM sk sw).nc n 1 = [(1,0)]/\dX (qD z aM sk sw).nc 0 1 = [(0,0)]:=by
 obtain⟨n,n1,e0,c0,c1⟩:=acU h2 λc h=>(hc c h).1;have m0:(counts z).getD 0 0∈counts z:=by rw[show (counts z).getD 0 0=(counts z)[0]'(by lia) by simp[show 0<(counts z).length by lia]];exact List.getElem_mem _
 have m1:(counts z).getD 1 0∈counts z:=by rw[show (counts z).getD 1 0=(counts z)[1]'(by lia) by simp[show 1<(counts z).length by lia]];exact List.getElem_mem _
 rw[e0] at m0;have:=hc _ m0;refine⟨n,⟨h2,(hc _ m1).1,?_,by lia,by lia⟩,n1,this.2,Oo c1,Oo c0⟩
 have:=ZZ (MI (counts z) 0) c1;rwa [show ((n.toNat:Nat):Int)=n by lia] at this
theorem Oq:∀(tk:List (Int×Int)) (xs:List V) (k:Int),0<=k->(∀q∈tk,0<=q.1)->k∉tk.map (·.1)->(tk.foldl (λxs p=>xs.set p.1.toNat (.int p.2)) xs)[k.toNat]? = xs[k.toNat]?
 | [],xs,k,_,_,_=>rfl
 | p::tk,xs,k,h0,hb,h=>by
  rw[List.map_cons,List.mem_cons,not_or] at h;have:=hb p (List.mem_cons_self ..);rw[List.foldl_cons,Oq tk _ k h0 (λq hq=>hb q (List.mem_cons_of_mem _ hq)) h.2,List.getElem?_set_ne (by lia)]
theorem Ot:∀(tk:List (Int×Int)) (xs:List V),(tk.map (·.1)).Nodup->(∀q∈tk,0<=q.1/\q.1<xs.length)->∀q∈tk,(tk.foldl (λxs p=>xs.set p.1.toNat (.int p.2)) xs)[q.1.toNat]? = some (.int q.2)
 | [],xs,_,_,q,h=>by cases h
 | p::tk,xs,nd,hb,q,h=>by
  rw[List.map_cons,List.nodup_cons] at nd;have bp:=hb p (List.mem_cons_self ..);rw[List.foldl_cons];rcases List.mem_cons.mp h with rfl | h
  ·rw[Oq tk _ _ bp.1 (λq hq=>(hb q (List.mem_cons_of_mem _ hq)).1) nd.1,List.getElem?_set_self (by lia)]
  ·exact Ot tk _ nd.2 (λq hq=>by rw[List.length_set];exact hb q (List.mem_cons_of_mem _ hq)) q h
theorem EU{n:Nat}{tk:List (Int×Int)}(nd:(tk.map (·.1)).Nodup)(hb:∀q∈tk,0<=q.1/\q.1<n){q:Int×Int}(hq:q∈tk):(cF n tk)[q.1.toNat]? = some (.int q.2) :=
 Ot tk _ nd (λq h=>by rw[List.length_replicate];exact hb q h) q hq
structure JB(all:List Dr)(m:Nat)(ds:List Dr)(b:Int)(tk:List (Int×Int)):Prop where
 nd:(tk.map (·.1)).Nodup
 bd:∀q∈tk,0<=q.1/\q.1<m
 al:∀d∈all,d∈ds\/∃q∈tk,q.1=d.n
 sb:∀d∈ds,d∈all
 dj:∀q∈tk,∀d∈ds,d.n≠q.1
 b0:0<=b
theorem JB.step{all:List Dr}{m:Nat}{ds:List Dr}{b b2 b3:Int}{tk:List (Int×Int)}(h:JB all m ds b tk)(ha:∀d∈all,0<=d.n/\d.n<m){d:Dr}(hd:d∈ds)(hb:0<=b3):JB all m (ds.filter λe=>decide (e.n≠d.n)) b3 (tk++[(d.n,b2)]) where
 nd:=by
  rw[List.map_append,List.nodup_append];refine⟨h.nd,by simp,λx hx y hy=>?_⟩
  obtain⟨q,hq,rfl⟩:=List.mem_map.mp hx;simp at hy;subst hy;exact λz=>h.dj q hq d hd z.symm
 bd:=λq hq=>by
  rcases List.mem_append.mp hq with hq | hq
  ·exact h.bd q hq
  ·rw[List.mem_singleton.mp hq];exact ha d (h.sb d hd)
 al:=λe he=>by
  rcases h.al e he with h1 | ⟨q,hq,e1⟩
  ·by_cases z:e.n=d.n
   ·exact .inr ⟨(d.n,b2),by simp,z.symm⟩
   ·exact .inl (List.mem_filter.mpr ⟨h1,decide_eq_true z⟩)
  ·exact .inr ⟨q,List.mem_append_left _ hq,e1⟩
 sb:=λe he=>h.sb e (List.mem_filter.mp he).1
 dj:=λq hq e he=>by
  obtain⟨h1,h2⟩:=List.mem_filter.mp he;rcases List.mem_append.mp hq with hq | hq
  ·exact h.dj q hq e h1
  ·rw[List.mem_singleton.mp hq];exact of_decide_eq_true h2
 b0:=hb
theorem EV{P:Pl}(ok:kH P)(hl:∀i:Nat,i<P.rc.length->1<=P.aM / P.rc.getD i 0){s q:Int×Int}(s0:0<=s.1)(s1:s.1<P.rc.length)(q0:0<=q.1)(q1:q.1<P.rc.length):s.2+1<=(dw P s [q]).2:=by
 show s.2+1<=sy P s q+P.aM / P.rc.getD q.1.toNat 0;have h1:=hl q.1.toNat (by lia)
 have hs:0<=P.sw.getD (s.1 - q.1).natAbs 0:=by
  have l:=ok.sw.len;by_cases e:(s.1 - q.1).natAbs=0
  ·rw[e,ok.sw.z];exact Int.le_refl _
  ·have:=(ok.sw.pos (s.1 - q.1).natAbs (by lia) (by lia)).1
   lia
 unfold sy DX;have h2:=Int.emod_nonneg (MJ P q.1 q.2 - (s.2+P.sw.getD (s.1 - q.1).natAbs 0)) (show P.aM≠0 by have:=ok.aM;lia)
 lia
structure JF(all:List Dr)(m:Nat)(n:Int)(ds:List Dr)(r b:Int)(st:Lt)(tk:List (Int×Int)):Prop where
 jb:JB all m ds b tk
 q0:∀q∈tk,0<=q.2
 qz:∀q∈tk,q.1=0->q.2=0
 e:tk = []->b=0
 f:tk≠[]->∀d∈ds,d.n≠0
 z:tk = []->∃d∈ds,d.n=0
 r0:0<=r
 r1:r<n
theorem JF.along{P:Pl}{all:List Dr}{m:Nat}(ok:kH P)(hl:∀i:Nat,i<P.rc.length->1<=P.aM / P.rc.getD i 0)(ha:∀d∈all,0<=d.n/\d.n<m/\d.q.at_=0/\∃q:Int×Int,d.c = [q]/\0<=q.1/\q.1<P.rc.length):qC P none (JF all m P.rc.length) where
 go:=λds r b st tk b2 d cu h e9 fF hp=>by
  obtain⟨M,⟨y,hy,ey⟩,_,eb⟩:=fF;have hy0:=(ha y (h.jb.sb y hy)).2.2.1;have b0:=h.jb.b0;have e2:b2=b:=by rw[eb];split <;> lia
  subst e2;have fl:(ds.filter λd=>decide (d.q.at_<=b2))=ds:=List.filter_eq_self.mpr λe he=>by
   have:=(ha e (h.jb.sb e he)).2.2.1;exact decide_eq_true (by lia)
  rw[fl] at hp;have hd:=hp.mem;have tL:=ha d (h.jb.sb d hd);obtain⟨q,ec,qa,qb⟩:=tL.2.2.2;have up:=EV ok hl (s:=(r,b2)) (q:=q) h.r0 h.r1 qa qb;rw[ec];have up:b2+1<=(dw P (r,b2) [q]).2:=up;have best:=hp.1.2;have first:(∃e∈ds,e.n=0)->d.n=0:=λ⟨e,he,ez⟩=>by
   have:=best e he;have:=tL.1;simp at *
   lia
  refine⟨h.jb.step (λe he=>⟨(ha e he).1,(ha e he).2.1⟩) hd (by lia),λp hp=>?_,λp hp ez=>?_,λz=>by simp at z,λ_ e he=>?_,λz=>by simp at z,qa,qb⟩
  ·rcases List.mem_append.mp hp with hp | hp
   ·exact h.q0 p hp
   ·rw[List.mem_singleton.mp hp];exact b0
  ·rcases List.mem_append.mp hp with hp | hp
   ·exact h.qz p hp ez
   ·rw[List.mem_singleton.mp hp] at ez ⊢;by_cases t:tk = []
    ·exact h.e t
    ·exact absurd ez (h.f t d hd)
  ·obtain⟨h1,h2⟩:=List.mem_filter.mp he;have h2:=of_decide_eq_true h2;by_cases t:tk = []
   ·have:=first (h.z t)
    lia
   ·exact h.f t e h1
structure JL(all:List Dr)(m:Nat)(ds:List Dr)(r b:Int)(st:Lt)(tk:List (Int×Int)):Prop where
 jb:JB all m ds b tk
 c:st.c=true
 i:st.i=true
 bt:st.b = []\/∀d∈ds,d.n∈st.b
 on:(∃e∈ds,e.n=0)->r=0/\∀q∈tk,q.2<b
 off:(¬ ∃e∈ds,e.n=0)->ds = []/\∃b0,(0,b0)∈tk/\∀q∈tk,q.1≠0->q.2<b0
theorem JL.along{P:Pl}{all:List Dr}{m:Nat}{sw:Bool}(ok:kH P)(hl:∀i:Nat,i<P.rc.length->1<=P.aM / P.rc.getD i 0)(ha:∀d∈all,0<=d.n/\d.n<m/\d.q.at_=0/\(d.n=0/\d.c = [(1,0)]\/d.n≠0/\d.c = [(0,0)])):qC P (some sw) (JL all m) where
 go:=λds r b st tk b2 d cu h e9 fF hp=>by
  obtain⟨M,⟨y,hy,ey⟩,_,eb⟩:=fF;have hy0:=(ha y (h.jb.sb y hy)).2.2.1;have b0:=h.jb.b0;have e2:b2=b:=by rw[eb];split <;> lia
  subst e2;have fl:(ds.filter λd=>decide (d.q.at_<=b2))=ds:=List.filter_eq_self.mpr λe he=>by
   have:=(ha e (h.jb.sb e he)).2.2.1;exact decide_eq_true (by lia)
  rw[fl] at hp;have hz:∃e∈ds,e.n=0:=Classical.byContradiction λz=>e9 (h.off z).1;obtain⟨rfl,tb⟩:=h.on hz;have lk:eW st ds=ds/\(eG st ds).c=true/\(eG st ds).i=true/\∀e∈ds,e.n∈(eG st ds).b:=by
   unfold eW eG;rw[if_pos h.c,if_pos h.c];by_cases an:ds.any (λd=>decide (d.n∈st.b))=true
   ·rw[if_pos an];have hb:∀e∈ds,e.n∈st.b:=by
     rcases h.bt with hb | hb
     ·rw[hb] at an;simp at an
     ·exact hb
    exact⟨List.filter_eq_self.mpr λe he=>decide_eq_true (hb e he),h.c,h.i,hb⟩
   ·rw[if_neg an];exact⟨List.filter_eq_self.mpr λe he=>decide_eq_true (List.mem_map_of_mem he),h.c,h.i,λe he=>List.mem_map_of_mem he⟩
  obtain⟨es,P2,bb,best⟩:=hp;obtain⟨k1,k2,k3,k4⟩:=lk;rw[k1] at es best;generalize eG st ds=s1 at *
  have hr:∀e∈ds,(e.n=0/\(cK e).1=1)\/(e.n≠0/\(cK e).1=0):=λe he=>by
   rcases(ha e (h.jb.sb e he)).2.2.2 with⟨a,c⟩ | ⟨a,c⟩
   ·exact .inl ⟨a,by unfold cK;rw[c];rfl⟩
   ·exact .inr ⟨a,by unfold cK;rw[c];rfl⟩
  have wy:dJ true 0 ds=ds:=List.filter_eq_self.mpr λe he=>by
   unfold lD;rcases hr e he with⟨_,z⟩ | ⟨_,z⟩ <;> simp[z]
  have dl:¬ ds.length=0:=λz=>e9 (List.length_eq_zero_iff.mp z);have e3:lF sw s1 0 ds=s1/\qu sw 0 ds=0/\mG sw (lF sw s1 0 ds).i 0 ds=ds:=by
   have t:lE s1 0 ds=s1:=by unfold lE;rw[k3,wy,if_neg dl,← k3]
   unfold lF qu mG;cases sw
   ·simp[t,k3,wy]
   ·simp[wy,dl]
  obtain⟨x1,x2,x3⟩:=e3;rw[x3,x2] at best;rw[x1] at es;subst es;have hd:=best.1;have tL:=ha d (h.jb.sb d hd);have ql:∀q∈tk++[(d.n,b2)],q.2<=b2:=λq hq=>by
   rcases List.mem_append.mp hq with hq | hq
   ·have:=tb q hq;lia
   ·rw[List.mem_singleton.mp hq];exact Int.le_refl _
  by_cases dz:d.n=0
  ·have dc:d.c = [(1,0)]:=by rcases tL.2.2.2 with⟨_,c⟩ | ⟨a,_⟩;exact c;exact absurd dz a
   have no:∀e∈ds,e.n=0:=λe he=>Classical.byContradiction λz=>by
    have:=best.2 e he;have r1:=(hr d hd).resolve_right (λq=>q.1 dz);have r2:=(hr e he).resolve_left (λq=>z q.1);unfold oH at this;rw[r1.2,r2.2] at this;simp at this
   have emp:(ds.filter λe=>decide (e.n≠d.n)) = []:=List.filter_eq_nil_iff.mpr λe he=>by simp[no e he,dz]
   have up:=EV ok hl (s:=(0,b2)) (q:=(1,0)) (Int.le_refl _) (by have:=ok.n2;show (0:Int)<_;lia) (by show (0:Int)<=1;decide) (by have:=ok.n2;show (1:Int)<_;lia)
   have up:b2+1<=(dw P (0,b2) [(1,0)]).2:=up;rw[dc];refine⟨h.jb.step (λe he=>⟨(ha e he).1,(ha e he).2.1⟩) hd (by lia),k2,k3,.inr λe he=>k4 e (List.mem_filter.mp he).1,λ⟨e,he,_⟩=>?_,λ_=>⟨emp,b2,by simp[dz],λq hq q1=>?_⟩⟩
   ·rw[emp] at he;cases he
   ·rcases List.mem_append.mp hq with hq | hq
    ·exact tb q hq
    ·rw[List.mem_singleton.mp hq] at q1;exact absurd dz q1
  ·have dc:d.c = [(0,0)]:=by rcases tL.2.2.2 with⟨a,_⟩ | ⟨_,c⟩;exact absurd a dz;exact c
   have up:=EV ok hl (s:=(0,b2)) (q:=(0,0)) (Int.le_refl _) (by have:=ok.n2;show (0:Int)<_;lia) (Int.le_refl _) (by have:=ok.n2;show (0:Int)<_;lia)
   have up:b2+1<=(dw P (0,b2) [(0,0)]).2:=up;obtain⟨e,he,ez⟩:=hz;rw[dc];refine⟨h.jb.step (λe he=>⟨(ha e he).1,(ha e he).2.1⟩) hd (by lia),k2,k3,.inr λe he=>k4 e (List.mem_filter.mp he).1,λ_=>⟨rfl,λq hq=>by have:=ql q hq;lia⟩,λz=>absurd ⟨e,List.mem_filter.mpr ⟨he,decide_eq_true (by lia)⟩,ez⟩ z⟩
theorem xO{n most:Int}(h:2<=most):(fU n most).length=most.toNat:=by
 unfold fU;rw[List.length_cons,List.length_replicate];lia
theorem qE{n most:Int}{q:Ak}(h:q∈fU n most):q=mH n 0 0\/q=mH 0 0 0:=by
 rcases List.mem_cons.mp h with h | h
 ·exact .inl h
 ·exact .inr (List.eq_of_mem_replicate h)
structure eX(P:Pl)(n most:Int):Prop where
 ok:kH P
 hl:∀i:Nat,i<P.rc.length->1<=P.aM / P.rc.getD i 0
 nx:qw P n
 n1:1<=n
 c1:dX P.nc n 1 = [(1,0)]
 c0:dX P.nc 0 1 = [(0,0)]
 nM:P.nc.length<=1000000
 m2:2<=most
 m1:most<=100
section
variable{P:Pl}{n most:Int}
theorem eX.fit(h:eX P n most):n+1<=P.nc.length:=by
 have e:=congrArg List.length h.c1;unfold dX at e;rw[List.length_take,List.length_drop] at e;have:=h.n1;have e:min 1 (P.nc.length - n.toNat)=1:=e;lia
theorem eX.rd(h:eX P n most):∀q∈fU n most,xM P q:=λq hq=>by
 have n2:=h.ok.n2;have n1:=h.nx.n1;have n0:=h.n1;rcases qE hq with rfl | rfl
 ·exact⟨rfl,rfl,rfl,by show 0<=n;lia,n1,by show (1:Int)<=1;decide,by show (1:Int)<=16;decide,by show p_ P (dX P.nc n 1);rw[h.c1];intro q hq;rw[List.mem_singleton.mp hq];exact⟨by decide,by show (1:Int)<_;lia,by decide,by decide⟩,by show (dX P.nc n 1).length=1;rw[h.c1];rfl⟩
 ·exact⟨rfl,rfl,rfl,by decide,by decide,by decide,by decide,by show p_ P (dX P.nc 0 1);rw[h.c0];intro q hq;rw[List.mem_singleton.mp hq];exact⟨by decide,by show (0:Int)<_;lia,by decide,by decide⟩,by show (dX P.nc 0 1).length=1;rw[h.c0];rfl⟩
theorem eX.aks(h:eX P n most):wZ P.nc.length (fU n most):=by
 have hf:=h.fit;have n0:=h.n1;have m1:=h.m1;refine⟨by rw[xO h.m2];lia,λi q e=>?_,λi q q' e e'=>?_,λk q e n' rF=>?_⟩
 ·rcases qE (List.mem_of_getElem? e) with rfl | rfl
  ·exact⟨⟨by show 0<=n;lia,by show (0:Int)<=1;decide,by show (1:Int)<=16;decide,hf⟩,by show 0<=1000;decide⟩
  ·exact⟨⟨by decide,by decide,by decide,by show (0:Int)+1<=_;lia⟩,by decide⟩
 ·have a:∀q∈fU n most,q.at_=0:=λq hq=>by rcases qE hq with rfl | rfl <;> rfl
  rw[a q (List.mem_of_getElem? e),a q' (List.mem_of_getElem? e')];exact Int.le_refl _
 ·rcases qE (List.mem_of_getElem? e) with rfl | rfl <;> cases rF
theorem eX.all(h:eX P n most):∀d∈dD P.nc 0 (fU n most),0<=d.n/\d.n<most.toNat/\d.q.at_=0/\(d.n=0/\d.c = [(1,0)]\/d.n≠0/\d.c = [(0,0)]):=λd hd=>by
 have h1:=tH _ _ _ _ hd;rw[xO h.m2] at h1;refine⟨h1.1,by lia,?_,?_⟩
 ·rcases qE (xN _ _ _ _ hd).1 with e | e <;> rw[e] <;> rfl
 ·rcases List.mem_cons.mp (show d∈_::_ from hd) with rfl | hd
  ·exact .inl ⟨rfl,h.c1⟩
  ·have h2:=tH _ _ _ _ hd;obtain⟨h3,h4⟩:=xN _ _ _ _ hd;rw[List.eq_of_mem_replicate h3] at h4;exact .inr ⟨by lia,h4.trans h.c0⟩
theorem JB.start{all:List Dr}{m:Nat}:JB all m all 0 []:=⟨by simp,λq h=>by(cases h),λd h=>.inl h,λd h=>h,λq h=>by(cases h),Int.le_refl _⟩
theorem eX.zero(h:eX P n most):∃d∈dD P.nc 0 (fU n most),d.n=0:=⟨_,List.mem_cons_self ..,rfl⟩
theorem eX.jf(h:eX P n most)(st:Lt):JF (dD P.nc 0 (fU n most)) most.toNat P.rc.length (dD P.nc 0 (fU n most)) 0 0 st [] :=
 ⟨JB.start,λq h=>by(cases h),λq h=>by(cases h),λ_=>rfl,λz=>absurd rfl z,λ_=>h.zero,Int.le_refl _,by have:=h.ok.n2;show (0:Int)<_;lia⟩
theorem eX.jl(h:eX P n most):JL (dD P.nc 0 (fU n most)) most.toNat (dD P.nc 0 (fU n most)) 0 0 ⟨true,true,[]⟩ [] :=
 ⟨JB.start,rfl,rfl,.inl rfl,λ_=>⟨rfl,λq h=>by(cases h)⟩,λz=>absurd h.zero z⟩
theorem eX.acW(h:eX P n most):qC P none (JF (dD P.nc 0 (fU n most)) most.toNat P.rc.length):=JF.along h.ok h.hl λd hd=>by
 obtain⟨a,b,c,e⟩:=h.all d hd;have n2:=h.ok.n2;rcases e with⟨_,e⟩ | ⟨_,e⟩
 ·exact⟨a,b,c,_,e,by decide,by show (1:Int)<_;lia⟩
 ·exact⟨a,b,c,_,e,by decide,by show (0:Int)<_;lia⟩
theorem eX.acX(h:eX P n most){sw:Bool}:qC P (some sw) (JL (dD P.nc 0 (fU n most)) most.toNat):=JL.along h.ok h.hl h.all
end
theorem all_ints:∀(xs:List V),(∀i:Nat,i<xs.length->∃b:Int,xs[i]? = some (.int b))->∃bs:List Int,xs=bs.map V.int
 | [],_=>⟨[],rfl⟩
 | x::xs,h=>by
  obtain⟨b,e⟩:=h 0 (by simp)
  obtain⟨bs,e2⟩:=all_ints xs λi hi=>by
   obtain⟨c,ec⟩:=h (i+1) (by simp;lia)
   exact⟨c,by simpa using ec⟩
  exact⟨b::bs,by simp at e;rw[e,e2];rfl⟩
theorem JB.ends{nc:List (Int×Int)}{qs:List Ak}{b:Int}{tk:List (Int×Int)}(h:JB (dD nc 0 qs) qs.length [] b tk):∃bs:List Int,cF qs.length tk=bs.map V.int/\bs.length=qs.length/\∀(i:Nat) (c:Int),bs[i]? = some c->((i:Int),c)∈tk:=by
 have at_:∀i:Nat,i<qs.length->∃c,((i:Int),c)∈tk/\(cF qs.length tk)[i]? = some (.int c):=λi hi=>by
  obtain⟨d,hd,e⟩:=ES nc qs 0 i hi;rcases h.al d hd with z | ⟨q,hq,e2⟩
  ·cases z
  ·have:=EU h.nd h.bd hq;rw[e2,e,Nat.zero_add] at this;have eq:q=((i:Int),q.2):=Prod.ext (by rw[e2,e,Nat.zero_add]) rfl
   exact⟨q.2,eq▸hq,this⟩
 obtain⟨bs,eb⟩:=all_ints (cF qs.length tk) λi hi=>by
  rw[ER] at hi;obtain⟨c,_,e⟩:=at_ i hi;exact⟨c,e⟩
 have hl:bs.length=qs.length:=by
  have:=congrArg List.length eb;rwa [ER,List.length_map,eq_comm] at this
 refine⟨bs,eb,hl,λi c e=>?_⟩;obtain⟨c',h1,e'⟩:=at_ i (by have:=(List.getElem?_eq_some_iff.mp e).1;lia)
 rw[eb,List.getElem?_map,e] at e';cases e';exact h1
theorem JF.ends{nc:List (Int×Int)}{qs:List Ak}{r b k:Int}{st:Lt}{tk:List (Int×Int)}(h:JF (dD nc 0 qs) qs.length k [] r b st tk)(h1:1<=qs.length):∃(b0:Int) (bs:List Int),cF qs.length tk=V.int b0::bs.map V.int/\bs.length+1=qs.length/\bs.filter (λc=>decide (c<b0)) = []:=by
 obtain⟨bs,e,l,m⟩:=h.jb.ends
 match bs,l with
 | [],l=>simp at l;lia
 | b0::bs,l =>
  refine⟨b0,bs,e,l,List.filter_eq_nil_iff.mpr λc hc=>?_⟩;have z:=h.qz _ (m 0 b0 rfl) rfl;obtain⟨i,hi,ec⟩:=List.getElem_of_mem hc;have:=h.q0 _ (m (i+1) c (by rw[List.getElem?_cons_succ,List.getElem?_eq_getElem hi,ec]))
  have z:b0=0:=z;have this:0<=c:=this;simp;lia
theorem JL.ends{nc:List (Int×Int)}{qs:List Ak}{r b:Int}{st:Lt}{tk:List (Int×Int)}(h:JL (dD nc 0 qs) qs.length [] r b st tk)(h1:1<=qs.length):∃(b0:Int) (bs:List Int),cF qs.length tk=V.int b0::bs.map V.int/\bs.length+1=qs.length/\bs.filter (λc=>decide (c<b0))=bs:=by
 obtain⟨bs,e,l,m⟩:=h.jb.ends
 match bs,l with
 | [],l=>simp at l;lia
 | b0::bs,l =>
  refine⟨b0,bs,e,l,List.filter_eq_self.mpr λc hc=>?_⟩;obtain⟨_,z,hz,bQ⟩:=h.off λ⟨e,he,_⟩=>by(cases he)
  have m0:=m 0 b0 rfl;obtain⟨i,hi,ec⟩:=List.getElem_of_mem hc;have:=bQ _ (m (i+1) c (by rw[List.getElem?_cons_succ,List.getElem?_eq_getElem hi,ec])) (by show ((i+1:Nat):Int)≠0;lia)
  have this:c<z:=this;have eq:b0=z:=by
   have a:=EU h.jb.nd h.jb.bd m0;have b:=EU h.jb.nd h.jb.bd hz;rw[show ((((0:Nat):Int),b0).1)=(((0:Int),z).1) from rfl,b] at a;cases a;rfl
  exact decide_eq_true (by lia)
theorem qj.bnd{z:List (Int×Int)}{aM sk:Int}{sw:List Int}(wo:qj z aM sk sw){most:Int}(m2:2<=most)(m1:most<=100):∃n,eX (qD z aM sk sw) n most:=by
 have cl:=p8 z λp hp=>(wo.zl.ok.r p hp).1;have MK:=wo.zl.sm;have c2:=wo.zl.ok.s2;have hc:∀c∈counts z,1<=c/\c<=60:=λc hc=>by
  obtain⟨p,hp,rfl⟩:=sr hc;exact(wo.zl.ok.r p hp).2.2
 obtain⟨n,nx,n1,n60,c1,c0⟩:=acV (aM:=aM) (sk:=sk) (sw:=sw) (show 2<=(counts z).length by lia) hc
 refine⟨n,wo.pl _,λi hi=>?_,nx,n1,c1,c0,?_,m2,m1⟩
 ·obtain⟨p,hp,e⟩:=sr (get_mem (My (counts z) hi))
  show 1<=aM / (counts z).getD i 0;have oM:=wo.zl.ok.r p hp;have l3:=wo.l3 p hp;have l1:=wo.l1;rw[e];have hd:p.2*(aM / p.2)=aM:=by
   have:=Int.mul_ediv_add_emod aM p.2;lia
  by_cases z0:aM / p.2<=0
  ·have:=Int.mul_nonneg (show 0<=p.2 by lia) (show 0<=-(aM / p.2) by lia)
   rw[Int.mul_neg,hd] at this;lia
  ·lia
 ·have:=wD (s:=0) (by decide) (counts z) 0 λc h=>by have:=hc c h;lia
  show (dW 0 0 (counts z)).length<=1000000;lia
theorem eX.any{P:Pl}{n most:Int}(h:eX P n most){w:Str}{o:Option Bool}(c:o=none/\w = "first"\/(∃sw,o=some sw)/\w≠"first"):∃J:List Dr->Int->Int->Lt->List (Int×Int)->Prop,J (dD P.nc 0 (fU n most)) 0 0 ⟨true,true,[]⟩ []/\qC P o J/\∀r b st tk,J [] r b st tk->∃(b0:Int) (bs:List Int),cF (fU n most).length tk=V.int b0::bs.map V.int/\bs.length<=100/\((bs.filter λc=>decide (c<b0)).length:Int)=if w = "first" then 0 else most - 1:=by
 have m2:=h.m2;have m1:=h.m1;have l:=xO (n:=n) h.m2;rcases c with⟨rfl,rfl⟩ | ⟨⟨sw,rfl⟩,hw⟩
 ·refine⟨_,h.jf _,h.acW,λr b st tk j=>?_⟩;rw[← l] at j;obtain⟨b0,bs,e,e2,e3⟩:=j.ends (by lia)
  exact⟨b0,bs,e,by lia,by rw[e3,if_pos rfl];rfl⟩
 ·refine⟨_,h.jl,h.acX,λr b st tk j=>?_⟩;rw[← l] at j;obtain⟨b0,bs,e,e2,e3⟩:=j.ends (by lia)
  exact⟨b0,bs,e,by lia,by rw[e3,if_neg hw];lia⟩
section
variable{K:PySem.W.Frag}{cf:List Addr}{CL CS:Addr}{o:Option Bool}{st:Lt}{H H':Hp}{ru dx B:Addr}
theorem cG.fs(h:cG K cf CL CS o st H ru dx B):∃C fs,H ru=some (.ins C dx fs)/\fs.lookup ("ring_cells" : Str)=none:=by
 cases o with
 | none =>
  obtain⟨C,hC,e⟩:=h;exact⟨C,_,e,rfl⟩
 | some sw =>
  obtain⟨C,h1,h2,h3⟩:=h;exact⟨C,_,h3.o,by simp[iG,List.lookup_cons,gF]⟩
theorem cG.tD{o2:Option Bool}{dY:Lt}{r2 d2 B2:Addr}(h:cG K cf CL CS o2 dY H r2 d2 B2)(u:cG K cf CL CS o st H ru dx B)(k:bV ru H H')(ne:r2≠ru):cG K cf CL CS o2 dY H' r2 d2 B2:=by
 obtain⟨C0,fs,e0,_⟩:=u.fs;cases o2 with
 | none =>
  obtain⟨C,hC,e⟩:=h;exact⟨C,hC,k _ _ e ne (λ_ z=>nomatch z)⟩
 | some sw =>
  obtain⟨C,h1,h2,h3⟩:=h;obtain⟨kvs,a,lv⟩:=h3.d;exact⟨C,h1,h2,k _ _ h3.o ne (λ_ z=>nomatch z),kvs,k _ _ a (λz=>by rw[z,e0] at a;cases a) (λ_ z=>nomatch z),lv⟩
theorem cG.kp(u:cG K cf CL CS o st H ru dx B)(k:bV ru H H'){a:Addr}{x:HO}(e:H a=some x)(n1:∀C d fs,x≠.ins C d fs)(n2:∀ps,x≠.dP ps):H' a=some x:=by
 obtain⟨C0,fs,e0,_⟩:=u.fs;exact k _ _ e (λz=>by rw[z,e0] at e;cases e;exact n1 _ _ _ rfl) n2
theorem cG.lst(u:cG K cf CL CS o st H ru dx B)(k:bV ru H H'){a:Addr}{xs:List V}(e:H a=some (.lst xs)):H' a=some (.lst xs):=u.kp k e (λ_ _ _ z=>nomatch z) (λ_ z=>nomatch z)
theorem cG.tup(u:cG K cf CL CS o st H ru dx B)(k:bV ru H H'){a:Addr}{xs:List V}(e:H a=some (.tup xs)):H' a=some (.tup xs):=u.kp k e (λ_ _ _ z=>nomatch z) (λ_ z=>nomatch z)
theorem cG.seq(u:cG K cf CL CS o st H ru dx B)(k:bV ru H H'){a:Addr}{xs:List V}(h:aA K H a xs):aA K H' a xs:=by
 rcases h with(h | ⟨o,h⟩) | h
 ·exact .inl (.inl (u.lst k h))
 ·exact .inl (.inr ⟨o,u.kp k h (λ_ _ _ z=>nomatch z) (λ_ z=>nomatch z)⟩)
 ·exact .inr h
theorem cG.EN(u:cG K cf CL CS o st H ru dx B)(k:bV ru H H'){C a:Addr}{P:Pl}{fp:List Addr}(e:bO K C H a P fp):bO K C H' a P fp:=by
 obtain⟨dm,a1,a2,a3,a4,ts,fs,e,g⟩:=e;obtain⟨C0,fs0,e0,e1⟩:=u.fs;have f1:=g.f1;refine⟨dm,a1,a2,a3,a4,ts,fs,e,{ g with o:=k _ _ g.o (λz=>?_) (λ_ z=>nomatch z),rc:=u.lst k g.rc,sw:=u.lst k g.sw,nc:=⟨u.lst k g.nc.l,g.nc.n,λi t r e1 e2=>u.tup k (g.nc.t i t r e1 e2)⟩,cn:=u.kp k g.cn (λ_ _ _ z=>nomatch z) (λ_ z=>nomatch z)}⟩;have:=g.o;rw[z,e0] at this;cases this;rw[e1] at f1;cases f1
end
structure Rl where
 w:Str
 o:Option Bool
 t:Addr
 ru:Addr
 dx:Addr
 B:Addr
structure Ou(r:Rl):Prop where
 b:r.w∈kP
 e:r.w∉mJ
 l:r.w.length<=20
 c:r.o=none/\r.w = "first"\/(∃sw,r.o=some sw)/\r.w≠"first"
structure kR(K:PySem.W.Frag)(cf:List Addr)(CL CS:Addr)(H:Hp)(rs:List Rl)(i:Nat):Prop where
 t:∀r∈rs,H r.t=some (.tup [.str r.w,.ref r.ru])
 u:∀r∈rs.drop i,cG K cf CL CS r.o ⟨true,true,[]⟩ H r.ru r.dx r.B
section
variable{K:PySem.W.Frag}{cf:List Addr}{CL CS:Addr}{H H':Hp}{rs:List Rl}{i:Nat}{r:Rl}
theorem kR.same(h:kR K cf CL CS H rs i)(s:ah H H'):kR K cf CL CS H' rs i:=⟨λr hr=>s _ _ (h.t r hr),λr hr=>(h.u r hr).same s⟩
theorem kR.here(h:kR K cf CL CS H rs i)(e:rs[i]? = some r):cG K cf CL CS r.o ⟨true,true,[]⟩ H r.ru r.dx r.B:=h.u r (by
 obtain⟨hi,rfl⟩:=List.getElem?_eq_some_iff.mp e;rw[List.drop_eq_getElem_cons hi];exact List.mem_cons_self ..)
theorem kR.step(h:kR K cf CL CS H rs i)(nd:(rs.map (·.ru)).Nodup)(e:rs[i]? = some r)(k:bV r.ru H H'):kR K cf CL CS H' rs (i+1):=by
 have u:=h.here e;refine⟨λr' xP=>u.tup k (h.t r' xP),λr' xP=>?_⟩;obtain⟨hi,rfl⟩:=List.getElem?_eq_some_iff.mp e;have d:=List.drop_eq_getElem_cons hi;have Ov:((rs.drop i).map (·.ru)).Nodup:=nd.sublist ((List.drop_sublist i rs).map _);rw[d,List.map_cons,List.nodup_cons] at Ov;exact(h.u r' (by rw[d];exact List.mem_cons_of_mem _ xP)).tD u k (λz=>Ov.1 (z▸List.mem_map_of_mem xP))
end
theorem w0:((Str.ofString "first"):Str)∈kP/\((Str.ofString "first"):Str)∉mJ/\((Str.ofString "first"):Str).length<=20:=by decide +kernel
theorem w1:((Str.ofString "calm lift"):Str)∈kP/\((Str.ofString "calm lift"):Str)∉mJ/\((Str.ofString "calm lift"):Str).length<=20/\((Str.ofString "calm lift"):Str)≠"first" := by decide +kernel
theorem w2:((Str.ofString "calm sweep"):Str)∈kP/\((Str.ofString "calm sweep"):Str)∉mJ/\((Str.ofString "calm sweep"):Str).length<=20/\((Str.ofString "calm sweep"):Str)≠"first" := by decide +kernel
theorem acY{t0 t1 t2 r0 r1 r2 d0 d1 d2 B0 B1 B2:Addr}:∀r∈[(⟨"first",none,t0,r0,d0,B0⟩:Rl),⟨"calm lift",some false,t1,r1,d1,B1⟩,⟨"calm sweep",some true,t2,r2,d2,B2⟩],Ou r:=by
 intro r hr;simp only[List.mem_cons,List.not_mem_nil,or_false] at hr;rcases hr with rfl | rfl | rfl
 ·exact⟨w0.1,w0.2.1,w0.2.2,.inl ⟨rfl,rfl⟩⟩
 ·exact⟨w1.1,w1.2.1,w1.2.2.1,.inr ⟨⟨_,rfl⟩,w1.2.2.2⟩⟩
 ·exact⟨w2.1,w2.2.1,w2.2.2.1,.inr ⟨⟨_,rfl⟩,w2.2.2.2⟩⟩
theorem acZ{K:PySem.W.Frag}{tl:TE}{g:TG}{σ:St}{H:Hp}{tt:TT}{te:TE}{nt:Nat}{fv:List Nat}{Q:VK}(o:HO)(iR:∀Q:VK,(∀p,H p=none->Q (.ref p) (upd H p o))->tl σ H Q)(h:∀p,H p=none->iA (kg K (λ_ H Q=>Q (.ref p) H)) g tt te nt fv σ (upd H p o) Q):iA (kg K tl) g tt te nt fv σ H Q:=iR _ λp hp=>h p hp
theorem ac0{bs:List Int}{b0 c:Int}{k:Nat}(h:bs[k]? = some c):(bs.take (k+1)).filter (λc=>decide (c<b0))=(bs.take k).filter (λc=>decide (c<b0))++if c<b0 then [c] else []:=by
 rw[take_succ_get h,List.filter_append];by_cases hc:c<b0 <;> simp[hc]
theorem ac1(x:V)(xs:List V):nK (x::xs) (some 1) none=xs:=by
 simp[nK,_H.fJ]
end _L
namespace _W
open PySem _L PyProof.Rows
theorem sc1{i j:Int}:ki (.int i) (.int j)=true:=rfl
theorem sc2{i j:Str}:ki (.str i) (.str j)=true:=rfl
theorem sc3{i j:Bool}:ki (.bl i) (.bl j)=true:=rfl
theorem sc4: ki (.aI) (.aI)=true:=rfl
theorem sc5{i:Int}:ki (.aI) (.int i)=true:=rfl
theorem sc6{i:Int}:ki (.int i) (.aI)=true:=rfl
theorem sc7{i:Str}:ki (.aI) (.str i)=true:=rfl
theorem sc8{i:Str}:ki (.str i) (.aI)=true:=rfl
local macro_rules | `(tactic| wp_walk using $ts,*)=>do
 let a ← ("abu NG ajt ajR abp oh ajs L6 ajU ajw ajT ajS ajO aju ajM ajN aaw aaP aaO tAs M3 ajL Z5 gk ajH ajG ajv ME LO Yc ajx W8 abk ajQ XW XU XT X6 X3 and_assoc Wr HO.ins.injEq DS gF f9 String.reduceBEq List.lookup_cons List.lookup_nil aB HO.lst.injEq HO.dT.injEq HO.tup.injEq String.reduceEq false_and or_false false_or l8 YE YD Yz Yx Yy ajy YI Bool.not_eq_true' decide_eq_false_iff_not Classical.not_not WQ if_false_left if_false_right Y0 WI iQ List.length_map List.getElem?_nil WM vE nu K7 CO CQ WR KW tC vJ lV rI WZ rU Lj tB WO WN ajp K5 LF Xw vQ C6 WL WC WD WE WG ajo WH Xy Xx Yd vX Yh Yi Yj Yk LL LM W4 W5 sc1 sc2 sc3 sc4 sc5 sc6 sc7 sc8 C3 W0 W2 Lq Xq Ls XA _L.start ajD ajE ajF List.map_cons List.map_nil List.cons_append List.nil_append List.append_nil List.length_cons List.length_nil List.getElem?_cons_zero List.getElem?_cons_succ Option.some.injEq exists_eq_left exists_eq_left' exists_and_left exists_eq V.int.injEq V.ref.injEq V.bl.injEq V.ty.injEq V.str.injEq List.cons.injEq and_true true_and List.set_cons_zero List.set_cons_succ decide_eq_true_eq Nat.reduceSub Nat.reduceAdd List.replicate_succ List.replicate_zero List.replicate Int.reduceLT Int.reduceLE Int.reducePow Int.reduceToNat Int.reduceNeg Nat.reduceLT Nat.reduceLeDiff Nat.reducePow Int.reduceMul Int.reduceAdd Int.reduceSub and_self or_true true_or gt_iff_lt ge_iff_le if_true if_false Bool.false_eq_true reduceIte Nat.sub_self Nat.sub_zero".splitOn " ").toArray.mapM λx => `(Lean.Parser.Tactic.simpLemma| $(Lean.mkIdent x.toName):ident)
 let d:Array (Lean.TSyntax `term):=("T.oX T.mR T.qN T.jY T.A0 T.lK T.RJ T.HP T.HQ T.uF T.Hz T.HA T.HB T.uG T.HC T.HD T.uH T.HE T.AN T.qM T.AO T.AQ T.AR T.AS T.AU T.AV T.AW T.AX T.AY T.AZ T.uI T.HF T.A1 T.HG T.HJ T.A2 T.uJ T.A3 T.HK T.A4 T.HL T.HM T.HN".splitOn " ").toArray.map λx=>⟨Lean.mkIdent x.toName⟩
 let b ← (ts.getElems.flatMap λt=>if t.raw.getId == `T then d else #[t]).mapM λt => `(Lean.Parser.Tactic.simpLemma| $t:term)
 let c:=a++b
 `(tactic| simp (maxSteps:=4000000) only[$c,*])
local macro_rules | `(tactic| walk_at "rdm") => `(tactic| wp_walk using and_self)
seal eZ PS PE PT PW PA PG pK PI PK PC PO pY
noncomputable def top(i:Nat):Stmt:=PySem.Challenge.pw_armswing_k53_bounds_come_to.main.body.getD i (.Pass ⟨0,0,0,0⟩)
noncomputable abbrev EW:Stmt:=inClass (top 19) 0
noncomputable abbrev EX:Stmt:=top 20
noncomputable abbrev EY:Stmt:=top 21
noncomputable abbrev EZ:Stmt:=top 22
noncomputable abbrev E1:Stmt:=top 23
noncomputable abbrev g6:Stmt:=top 24
noncomputable abbrev E3:Stmt:=top 25
noncomputable abbrev E4:Stmt:=top 27
noncomputable abbrev E5:Stmt:=top 28
noncomputable abbrev E6:Stmt:=top 30
noncomputable abbrev E7:Stmt:=top 31
noncomputable abbrev d7:Stmt:=top 32
noncomputable abbrev E8:Stmt:=inClass (top 33) 0
noncomputable abbrev E9:Stmt:=inClass (top 33) 1
noncomputable abbrev E_:Stmt:=top 39
noncomputable abbrev Fb:Stmt:=top 40
noncomputable abbrev Fc:Stmt:=top 41
noncomputable abbrev Fd:Stmt:=top 43
noncomputable abbrev Fe:Stmt:=top 45
noncomputable abbrev Ff:Stmt:=top 46
noncomputable abbrev jr:Stmt:=inClass (top 47) 0
noncomputable abbrev Fg:Stmt:=inClass (top 47) 1
noncomputable abbrev Fi:Stmt:=inClass (top 47) 2
noncomputable abbrev Fj:Stmt:=inClass (top 47) 3
noncomputable abbrev Fo:Stmt:=inClass (top 47) 4
noncomputable abbrev Fp:Stmt:=inClass (top 48) 0
noncomputable abbrev Fq:Stmt:=top 56
noncomputable abbrev Ft:Stmt:=top 57
noncomputable abbrev Fv:Stmt:=top 58
noncomputable abbrev Fw:Stmt:=top 59
noncomputable abbrev Fx:Stmt:=top 60
noncomputable abbrev Fy:Stmt:=top 61
noncomputable abbrev Fz:Stmt:=top 62
noncomputable abbrev FA:Stmt:=inClass (top 63) 0
noncomputable abbrev FD:Stmt:=inClass (top 63) 1
noncomputable abbrev FE:Stmt:=inClass (top 63) 3
noncomputable abbrev FF:Stmt:=inClass (top 63) 4
noncomputable abbrev FG:Stmt:=inClass (top 63) 5
noncomputable abbrev FH:Stmt:=inClass (top 63) 6
noncomputable abbrev FI:Stmt:=inClass (top 63) 7
noncomputable abbrev FJ:Stmt:=inClass (top 63) 8
noncomputable abbrev FL:Stmt:=inClass (top 63) 9
noncomputable abbrev FN:Stmt:=inClass (top 63) 10
noncomputable abbrev FO:Stmt:=top 65
noncomputable abbrev FP:Stmt:=top 66
noncomputable abbrev FQ:Stmt:=inClass (top 67) 0
noncomputable abbrev FT:Stmt:=top 68
noncomputable abbrev FU:Stmt:=top 69
noncomputable abbrev FW:Stmt:=top 70
noncomputable abbrev FY:Stmt:=top 71
noncomputable abbrev FZ:Stmt:=inClass (top 73) 0
noncomputable abbrev F_:Stmt:=inClass (top 73) 1
noncomputable abbrev Ga:Stmt:=inClass (top 73) 2
noncomputable abbrev Gb:Stmt:=inClass (top 73) 3
noncomputable abbrev Gd:Stmt:=inClass (top 73) 4
noncomputable abbrev Ge:Stmt:=inClass (top 75) 0
noncomputable abbrev Gf:Stmt:=top 76
noncomputable abbrev Gg:Stmt:=top 77
noncomputable abbrev Gh:Stmt:=top 78
noncomputable abbrev Gi:Stmt:=top 79
noncomputable abbrev jt:Stmt:=top 80
noncomputable abbrev Gj:Stmt:=top 82
noncomputable abbrev Gk:Stmt:=top 83
noncomputable abbrev Gm:Stmt:=top 84
noncomputable abbrev Gn:Stmt:=top 85
noncomputable abbrev Gp:Stmt:=top 86
noncomputable abbrev Gq:Stmt:=top 87
noncomputable abbrev Gr:Stmt:=top 88
noncomputable abbrev Gs:Stmt:=top 89
noncomputable abbrev Gu:Stmt:=top 90
noncomputable abbrev ju:Stmt:=top 91
theorem ac2:aW ["self", "kind", "first", "many", "marks", "at", "asker", "latest", "behind", "early"] ["self", "kind", "first", "many", "marks", "at", "asker", "latest", "behind", "early"] (aJ EW):=bf
theorem ac3:aW ["number", "least", "greatest", "words"] ["number", "least", "greatest", "words"] (aJ EX):=bf
theorem xQ:aW ["behind", "ahead", "number"] ["behind"] (aJ EY):=bf
theorem ac4:aW ["first", "many", "at", "asker", "latest", "behind"] ["first", "many", "at", "asker", "latest", "behind"] (aJ EZ):=bf
theorem ac5:aW ["behind"] ["behind"] (aJ E1):=bf
theorem Ow:aW ["first", "many", "at", "asker", "latest", "behind", "others"] ["first", "many", "at", "asker", "latest", "behind"] (aJ g6):=bf
theorem ac6:aW ["one", "other"] ["one", "other"] (aJ E3):=bf
theorem ac7:aW ["plate", "ring", "place", "beat"] ["plate", "ring", "place", "beat"] (aJ E4):=bf
theorem oN:aW ["plate", "ring", "beat", "cells", "rows", "other", "place", "begun"] ["plate", "ring", "beat", "cells"] (aJ E5):=bf
theorem ac8:aW ["due"] ["due"] (aJ E6):=bf
theorem ac9:aW ["dues"] ["dues"] (aJ E7):=bf
theorem ac_:aW ["ring", "dues"] ["ring", "dues"] (aJ d7):=bf
theorem ada:aW ["self", "plate", "ring", "beat", "dues"] ["self", "plate", "ring", "beat", "dues"] (aJ E8):=bf
theorem adb:aW ["self"] ["self"] (aJ E9):=bf
theorem ade:aW ["plate"] ["plate"] (aJ E_):=bf
theorem adf:aW ["count", "at", "asker"] ["count", "at", "asker"] (aJ Fb):=bf
theorem adg:aW ["plate", "most"] ["plate", "most"] (aJ Fc):=bf
theorem Ox:aW ["plate", "word", "most", "bound"] ["plate", "word", "most"] (aJ Fd):=bf
theorem adh:aW ["inward", "ring", "dues"] ["inward", "ring", "dues"] (aJ Fe):=bf
theorem Gv:aW ["dues", "batch", "due"] ["dues"] (aJ Ff):=bf
theorem adi:aW ["self", "calm"] ["self", "calm"] (aJ jr):=bf
theorem adk:aW ["self"] ["self"] (aJ Fg):=bf
theorem adl:aW ["self", "plate", "ring", "beat", "dues"] ["self", "plate", "ring", "beat", "dues"] (aJ Fi):=bf
theorem adm:aW ["self", "dues"] ["self", "dues"] (aJ Fj):=bf
theorem adn:aW ["self", "ring", "dues"] ["self", "ring", "dues"] (aJ Fo):=bf
theorem Oz:aW ["self", "ring", "dues", "ahead"] ["self", "ring", "dues"] (aJ Fp):=bf
theorem xR:aW ["zones", "rings", "cells", "in_all"] ["zones"] (aJ Fq):=bf
theorem Gw:aW ["zones", "lap", "skew", "rings", "cells"] ["zones", "lap", "skew"] (aJ Ft):=bf
theorem OA:aW ["swing", "rings", "far"] ["swing", "rings"] (aJ Fv):=bf
theorem Gx:aW ["swing", "far", "part"] ["swing"] (aJ Fw):=bf
theorem xS:aW ["zones", "counts", "rings", "cells"] ["zones"] (aJ Fx):=bf
theorem tM:aW ["ring_cells", "spares", "cells", "ring", "count", "place"] ["ring_cells", "spares"] (aJ Fy):=bf
theorem xT:aW ["number_cells", "numbers", "number", "cell"] ["number_cells"] (aJ Fz):=bf
theorem ado:aW ["self", "zones", "lap", "skew", "swing"] ["self", "zones", "lap", "skew", "swing"] (aJ FA):=bf
theorem adp:aW ["self"] ["self"] (aJ FD):=bf
theorem adq:aW ["self", "ring"] ["self", "ring"] (aJ FE):=bf
theorem ads:aW ["self", "ring"] ["self", "ring"] (aJ FF):=bf
theorem adt:aW ["self"] ["self"] (aJ FG):=bf
theorem adu:aW ["self", "ring", "place"] ["self", "ring", "place"] (aJ FH):=bf
theorem adv:aW ["self", "ring", "other"] ["self", "ring", "other"] (aJ FI):=bf
theorem adw:aW ["self", "ring", "place"] ["self", "ring", "place"] (aJ FJ):=bf
theorem adx:aW ["self", "number"] ["self", "number"] (aJ FL):=bf
theorem ady:aW ["self", "ring", "place"] ["self", "ring", "place"] (aJ FN):=bf
theorem adz:aW ["plate", "ask"] ["plate", "ask"] (aJ FO):=bf
theorem adA:aW ["plate", "number", "ask", "e"] ["plate", "number", "ask"] (aJ FP):=bf
theorem adB:aW ["self", "plate", "number", "ask"] ["self", "plate", "number", "ask"] (aJ FQ):=bf
theorem adC:aW ["asks", "number"] ["asks", "number"] (aJ FT):=bf
theorem OB:aW ["asks", "number", "other"] ["asks", "number"] (aJ FU):=bf
theorem OC:aW ["asks", "number", "ask"] ["asks", "number"] (aJ FW):=bf
theorem xU:aW ["plate", "asks", "kept", "number", "ask"] ["plate", "asks"] (aJ FY):=bf
theorem Gy:aW ["self", "plate", "asks", "ring", "number", "ask"] ["self", "plate", "asks", "ring"] (aJ FZ):=bf
theorem OD:aW ["self", "comings"] ["self"] (aJ F_):=bf
theorem adD:aW ["self", "number"] ["self", "number"] (aJ Ga):=bf
theorem OE:aW ["self", "come"] ["self"] (aJ Gb):=bf
theorem Gz:aW ["self", "number", "due", "rows"] ["self", "number"] (aJ Gd):=bf
theorem adE:aW ["self", "rows", "taken", "told", "answers", "end"] ["self", "rows", "taken", "told", "answers", "end"] (aJ Ge):=bf
theorem oO:aW ["rows", "ends", "number", "ring", "place", "begun", "ended"] ["rows"] (aJ Gf):=bf
theorem adF:aW ["ask"] ["ask"] (aJ Gg):=bf
theorem tN:aW ["asks", "picks", "answers", "marks", "number", "ask"] ["asks", "picks"] (aJ Gh):=bf
theorem qF:aW ["asks", "ends", "shelf", "told", "early_ends", "shelf_ends", "number", "ask"] ["asks", "ends", "shelf"] (aJ Gi):=bf
theorem lH:aW ["plate", "asks", "rule", "ring", "shelf", "course", "rows", "picks", "taken", "dues", "number", "ends", "end"] ["plate", "asks", "rule", "ring", "shelf"] (aJ jt):=bf
theorem adG:aW ["_law_script", "_law_k"] ["_law_script", "_law_k"] (aJ Gj):=bf
theorem adH:aW ["_law_cell_here", "_law_turn", "_law_many"] ["_law_cell_here", "_law_turn", "_law_many"] (aJ Gk):=bf
theorem tO:aW ["_law_cell_here", "_law_rings", "_law_step", "_law_swing_here", "_law_k"] ["_law_cell_here", "_law_rings"] (aJ Gm):=bf
theorem xV:aW ["_law_cell_here", "_law_zones_here", "_law_k"] ["_law_cell_here"] (aJ Gn):=bf
theorem iY:aW ["_law_script", "_law_zones_here", "_law_cell_here", "_law_product", "_law_counts", "_law_many", "_law_cells", "_law_lap", "_law_skew", "_law_swing_here"] ["_law_script"] (aJ Gp):=bf
theorem OF:aW ["_law_e", "_law_other"] ["_law_e"] (aJ Gq):=bf
theorem xW:aW ["_law_plate", "_law_word", "_law_most", "_law_no_here", "_law_e"] ["_law_plate", "_law_word", "_law_most"] (aJ Gr):=bf
theorem tQ:aW ["_law_cell_here", "_law_words", "_law_word", "_law_some", "_law_found"] ["_law_cell_here"] (aJ Gs):=bf
theorem adI:aW ["_law_asks", "_law_most"] ["_law_asks", "_law_most"] (aJ Gu):=bf
theorem lJ:aW ["_law_script", "_law_plate", "_law_most", "_law_word", "_law_rule", "_law_found", "_law_due", "_law_taken"] ["_law_script"] (aJ ju):=bf
set_option genInjectivity false
set_option genSizeOf false
structure e_ where
 xX:Addr
 xY:FuncData
 xZ:Addr
 x6:FuncData
 x8:Addr
 x9:FuncData
 x_:Addr
 yc:FuncData
 yd:Addr
 yf:FuncData
 yg:Addr
 tR:FuncData
 GA:Tok
 yh:Addr
 yi:FuncData
 yj:Addr
 yl:FuncData
 ym:Addr
 yp:FuncData
 yq:Addr
 yr:FuncData
 yt:Addr
 yu:FuncData
 tU:Addr
 qG:FuncData
 qH:Addr
 yw:FuncData
 qI:Addr
 yx:FuncData
 yy:Addr
 yz:FuncData
 yC:Addr
 yD:FuncData
 yE:Addr
 yF:FuncData
 yG:Addr
 yH:FuncData
 yI:Addr
 yJ:FuncData
 yK:Addr
 yL:FuncData
 tV:Addr
 yM:FuncData
 qJ:Addr
 yN:FuncData
 qK:Addr
 yO:FuncData
 qL:Addr
 yP:FuncData
 tW:Addr
 yQ:FuncData
 tX:Addr
 yR:FuncData
 yS:Addr
 yT:FuncData
 yU:Addr
 yV:FuncData
 yW:Addr
 yX:FuncData
 yY:Addr
 yZ:FuncData
 y_:Addr
 zb:FuncData
 zc:Addr
 zd:FuncData
 ze:Addr
 zf:FuncData
 zg:Addr
 zh:FuncData
 tY:Addr
 zj:FuncData
 tZ:Addr
 zm:FuncData
 t_:Addr
 zo:FuncData
 uc:Addr
 zq:FuncData
 ud:Addr
 zu:FuncData
 ue:Addr
 zw:FuncData
 uf:Addr
 zx:FuncData
 ug:Addr
 zy:FuncData
 uh:Addr
 zz:FuncData
 zA:Addr
 zB:FuncData
 zC:Addr
 zD:FuncData
 zE:Addr
 zF:FuncData
 zG:Addr
 zH:FuncData
 zI:Addr
 zJ:FuncData
 zK:Addr
 zL:FuncData
 zM:Addr
 zN:FuncData
 zO:Addr
 zP:FuncData
 zQ:Addr
 zR:FuncData
 zS:Addr
 zT:FuncData
 zU:Addr
 zW:FuncData
 zX:Addr
 zY:FuncData
 zZ:Addr
 z3:FuncData
 z6:Addr
 z7:FuncData
 z8:Addr
 z9:FuncData
 z_:Addr
 Aa:FuncData
 Ab:Addr
 Ac:FuncData
 Ad:Addr
 Ae:FuncData
 GB:Tok
 GC:Tok
 Af:Addr
 Ag:FuncData
 Ah:Addr
 Ai:FuncData
 Aj:Addr
 Al:FuncData
 Am:Addr
 An:FuncData
 Ao:Addr
 Aq:FuncData
 As:Addr
 Au:FuncData
 Av:Addr
 Aw:FuncData
 Ax:Addr
 Ay:FuncData
 Az:Addr
 AA:FuncData
 AB:Addr
 AD:FuncData
 aV:Addr
 bI:Addr
 bM:Addr
 a_:Addr
 bE:Addr
 bA:Addr
 c9:Addr
 dF:Addr
 cN:Addr
 jv:Addr
 g7:Addr
 jw:Addr
 jx:Addr
 g8:Addr
 jy:Addr
 bg:Addr
 g9:Addr
 g_:Addr
 h_:Addr
 aR:Addr
 aN:Addr
 mK:Addr
 mL:Addr
 um:Tok
 uo:Tok
 uq:Tok
 ur:Tok
 uu:Tok
 uv:Tok
 uw:Tok
 ux:Tok
 uy:Tok
 uz:Tok
 uA:Tok
 uB:Tok
structure Tx(K:W.Frag)(mg:Str->Option Value)(A:e_):Prop where
 OG:aF K "__init__" "Ask.__init__" EW A.xX A.xY
 OH:Binds K A.xY ["self", "kind", "first", "many", "marks", "at", "asker", "latest", "behind", "early"] []
 mO:aF K "check_between" "check_between" EX A.xZ A.x6
 oR:Binds K A.x6 ["number", "least", "greatest", "words"] []
 oU:mg "check_between" = some (.ref A.xZ)
 GD:aF K "check_behind" "check_behind" EY A.x8 A.x9
 OI:Binds K A.x9 ["behind"] []
 OJ:mg "check_behind" = some (.ref A.x8)
 GF:aF K "check_fields" "check_fields" EZ A.x_ A.yc
 OL:Binds K A.yc ["first", "many", "at", "asker", "latest", "behind"] []
 OM:mg "check_fields" = some (.ref A.x_)
 GG:aF K "told_behind" "told_behind" E1 A.yd A.yf
 ON:Binds K A.yf ["behind"] []
 OO:mg "told_behind" = some (.ref A.yd)
 AE:qc K "reading" "reading" g6 A.yg A.tR
 OP:Binds K A.tR ["first", "many", "at", "asker", "latest", "behind"] [.int 0 A.GA,.none,.none]
 OQ:Binds K A.tR ["first", "many", "at", "asker", "latest", "behind"] [.none,.none]
 GH:mg "reading" = some (.ref A.yg)
 GI:aF K "clash" "clash" E3 A.yh A.yi
 OR:Binds K A.yi ["one", "other"] []
 OS:mg "clash" = some (.ref A.yh)
 GJ:aF K "next_begin" "next_begin" E4 A.yj A.yl
 OT:Binds K A.yl ["plate", "ring", "place", "beat"] []
 OU:mg "next_begin" = some (.ref A.yj)
 GK:aF K "way" "way" E5 A.ym A.yp
 OV:Binds K A.yp ["plate", "ring", "beat", "cells"] []
 OW:mg "way" = some (.ref A.ym)
 uC:aF K "ring_of" "ring_of" E6 A.yq A.yr
 AF:Binds K A.yr ["due"] []
 AG:mg "ring_of" = some (.ref A.yq)
 GL:aF K "first_of" "first_of" E7 A.yt A.yu
 OX:Binds K A.yu ["dues"] []
 OY:mg "first_of" = some (.ref A.yt)
 uD:aF K "nearest_of" "nearest_of" d7 A.tU A.qG
 AH:Binds K A.qG ["ring", "dues"] []
 AI:mg "nearest_of" = some (.ref A.tU)
 OZ:aF K "pick" "Rule.pick" E8 A.qH A.yw
 O0:Binds K A.yw ["self", "plate", "ring", "beat", "dues"] []
 O1:Meth K A.dF "pick" A.qH
 O2:Meth K A.cN "pick" A.qH
 O3:aF K "anew" "Rule.anew" E9 A.qI A.yx
 O4:Binds K A.yx ["self"] []
 O5:Meth K A.dF "anew" A.qI
 O6:Meth K A.cN "anew" A.qI
 GN:aF K "read_of_next_ring" "read_of_next_ring" E_ A.yy A.yz
 O7:Binds K A.yz ["plate"] []
 O8:mg "read_of_next_ring" = some (.ref A.yy)
 GO:aF K "reads_of_cell_0" "reads_of_cell_0" Fb A.yC A.yD
 O9:Binds K A.yD ["count", "at", "asker"] []
 O_:mg "reads_of_cell_0" = some (.ref A.yC)
 GP:aF K "bound_row" "bound_row" Fc A.yE A.yF
 Pa:Binds K A.yF ["plate", "most"] []
 Pb:mg "bound_row" = some (.ref A.yE)
 AJ:aF K "settled" "settled" Fd A.yG A.yH
 GQ:Binds K A.yH ["plate", "word", "most"] []
 GR:mg "settled" = some (.ref A.yG)
 uE:aF K "that_way" "that_way" Fe A.yI A.yJ
 AK:Binds K A.yJ ["inward", "ring", "dues"] []
 AL:mg "that_way" = some (.ref A.yI)
 GS:aF K "batch_of" "batch_of" Ff A.yK A.yL
 Pc:Binds K A.yL ["dues"] []
 Pd:mg "batch_of" = some (.ref A.yK)
 Pe:qc K "__init__" "Lift.__init__" jr A.tV A.yM
 GU:Binds K A.yM ["self", "calm"] []
 Pf:aF K "anew" "Lift.anew" Fg A.qJ A.yN
 GV:Binds K A.yN ["self"] []
 Pg:Meth K A.bI "anew" A.qJ
 Ph:Meth K A.bM "anew" A.qJ
 Pj:aF K "pick" "Lift.pick" Fi A.qK A.yO
 Pn:Binds K A.yO ["self", "plate", "ring", "beat", "dues"] []
 Po:Meth K A.bI "pick" A.qK
 Pp:Meth K A.bM "pick" A.qK
 Pq:aF K "looked_at" "Lift.looked_at" Fj A.qL A.yP
 Pr:Binds K A.yP ["self", "dues"] []
 Pu:Meth K A.bI "looked_at" A.qL
 Pw:Meth K A.bM "looked_at" A.qL
 Px:aF K "choose" "Lift.choose" Fo A.tW A.yQ
 Py:Binds K A.yQ ["self", "ring", "dues"] []
 Pz:Meth K A.bI "choose" A.tW
 PB:aF K "choose" "Sweep.choose" Fp A.tX A.yR
 PD:Binds K A.yR ["self", "ring", "dues"] []
 PF:Meth K A.bM "choose" A.tX
 GW:aF K "check_zones" "check_zones" Fq A.yS A.yT
 PJ:Binds K A.yT ["zones"] []
 PL:mg "check_zones" = some (.ref A.yS)
 GX:aF K "check_turning" "check_turning" Ft A.yU A.yV
 PM:Binds K A.yV ["zones", "lap", "skew"] []
 PN:mg "check_turning" = some (.ref A.yU)
 GY:aF K "check_swing" "check_swing" Fv A.yW A.yX
 PR:Binds K A.yX ["swing", "rings"] []
 PU:mg "check_swing" = some (.ref A.yW)
 GZ:aF K "check_no_detour" "check_no_detour" Fw A.yY A.yZ
 PV:Binds K A.yZ ["swing"] []
 PX:mg "check_no_detour" = some (.ref A.yY)
 G4:aF K "cells_by_ring" "cells_by_ring" Fx A.y_ A.zb
 PY:Binds K A.zb ["zones"] []
 PZ:mg "cells_by_ring" = some (.ref A.y_)
 G5:aF K "cells_by_number" "cells_by_number" Fy A.zc A.zd
 P0:Binds K A.zd ["ring_cells", "spares"] []
 P1:mg "cells_by_number" = some (.ref A.zc)
 G6:aF K "numbers_by_cell" "numbers_by_cell" Fz A.ze A.zf
 P4:Binds K A.zf ["number_cells"] []
 P5:mg "numbers_by_cell" = some (.ref A.ze)
 P6:aF K "__init__" "Plate.__init__" FA A.zg A.zh
 P7:Binds K A.zh ["self", "zones", "lap", "skew", "swing"] []
 P8:aF K "rings" "Plate.rings" FD A.tY A.zj
 adJ:Binds K A.zj ["self"] []
 P9:Meth K A.a_ "rings" A.tY
 P_:aF K "cells_of" "Plate.cells_of" FE A.tZ A.zm
 adK:Binds K A.zm ["self", "ring"] []
 Qa:Meth K A.a_ "cells_of" A.tZ
 Qc:aF K "beats_of" "Plate.beats_of" FF A.t_ A.zo
 G7:Binds K A.zo ["self", "ring"] []
 Qd:Meth K A.a_ "beats_of" A.t_
 Qe:aF K "lap_beats" "Plate.lap_beats" FG A.uc A.zq
 Qf:Binds K A.zq ["self"] []
 Qg:Meth K A.a_ "lap_beats" A.uc
 Qh:aF K "begins" "Plate.begins" FH A.ud A.zu
 Qi:Binds K A.zu ["self", "ring", "place"] []
 Qj:Meth K A.a_ "begins" A.ud
 Qk:aF K "swing_of" "Plate.swing_of" FI A.ue A.zw
 Ql:Binds K A.zw ["self", "ring", "other"] []
 Qm:Meth K A.a_ "swing_of" A.ue
 Qn:aF K "has_cell" "Plate.has_cell" FJ A.uf A.zx
 Qo:Binds K A.zx ["self", "ring", "place"] []
 Qp:Meth K A.a_ "has_cell" A.uf
 Qq:aF K "cell_at" "Plate.cell_at" FL A.ug A.zy
 Qs:Binds K A.zy ["self", "number"] []
 Qt:Meth K A.a_ "cell_at" A.ug
 Qu:aF K "number_of" "Plate.number_of" FN A.uh A.zz
 Qv:Binds K A.zz ["self", "ring", "place"] []
 Qw:Meth K A.a_ "number_of" A.uh
 G8:aF K "stretch" "stretch" FO A.zA A.zB
 Qx:Binds K A.zB ["plate", "ask"] []
 Qy:mg "stretch" = some (.ref A.zA)
 AM:aF K "stretch_by_number" "stretch_by_number" FP A.zC A.zD
 G9:Binds K A.zD ["plate", "number", "ask"] []
 G_:mg "stretch_by_number" = some (.ref A.zC)
 Qz:aF K "__init__" "Due.__init__" FQ A.zE A.zF
 QA:Binds K A.zF ["self", "plate", "number", "ask"] []
 Hf:aF K "check_beat" "check_beat" FT A.zG A.zH
 QB:Binds K A.zH ["asks", "number"] []
 QC:mg "check_beat" = some (.ref A.zG)
 Hg:aF K "check_told" "check_told" FU A.zI A.zJ
 QD:Binds K A.zJ ["asks", "number"] []
 QE:mg "check_told" = some (.ref A.zI)
 Hh:aF K "kept_behind" "kept_behind" FW A.zK A.zL
 QF:Binds K A.zL ["asks", "number"] []
 QG:mg "kept_behind" = some (.ref A.zK)
 Hi:aF K "orders" "orders" FY A.zM A.zN
 QH:Binds K A.zN ["plate", "asks"] []
 QI:mg "orders" = some (.ref A.zM)
 QJ:aF K "__init__" "Course.__init__" FZ A.zO A.zP
 QK:Binds K A.zP ["self", "plate", "asks", "ring"] []
 QL:aF K "stay" "Course.stay" F_ A.zQ A.zR
 QM:Binds K A.zR ["self"] []
 QN:Meth K A.bA "stay" A.zQ
 QO:aF K "has_to_wait" "Course.has_to_wait" Ga A.zS A.zT
 QS:Binds K A.zT ["self", "number"] []
 QT:Meth K A.bA "has_to_wait" A.zS
 QU:aF K "ready" "Course.ready" Gb A.zU A.zW
 QV:Binds K A.zW ["self"] []
 QW:Meth K A.bA "ready" A.zU
 QX:aF K "take" "Course.take" Gd A.zX A.zY
 QY:Binds K A.zY ["self", "number"] []
 QZ:Meth K A.bA "take" A.zX
 Q0:aF K "__init__" "Played.__init__" Ge A.zZ A.z3
 Q3:Binds K A.z3 ["self", "rows", "taken", "told", "answers", "end"] []
 Hj:aF K "last_ends" "last_ends" Gf A.z6 A.z7
 Q4:Binds K A.z7 ["rows"] []
 Q5:mg "last_ends" = some (.ref A.z6)
 Hl:aF K "numbers_of" "numbers_of" Gg A.z8 A.z9
 Q6:Binds K A.z9 ["ask"] []
 Q7:mg "numbers_of" = some (.ref A.z8)
 Ho:aF K "answers_of" "answers_of" Gh A.z_ A.Aa
 Q8:Binds K A.Aa ["asks", "picks"] []
 Q9:mg "answers_of" = some (.ref A.z_)
 Hq:aF K "told_of" "told_of" Gi A.Ab A.Ac
 Q_:Binds K A.Ac ["asks", "ends", "shelf"] []
 Ra:mg "told_of" = some (.ref A.Ab)
 Hr:qc K "play" "play" jt A.Ad A.Ae
 Rb:Binds K A.Ae ["plate", "asks", "rule", "ring", "shelf"] [.int 0 A.GB,.int 0 A.GC]
 Rc:mg "play" = some (.ref A.Ad)
 mQ:aF K "_law_cell" "_law_cell" Gj A.Af A.Ag
 oV:Binds K A.Ag ["_law_script", "_law_k"] []
 oW:mg "_law_cell" = some (.ref A.Af)
 fB:aF K "_law_draw" "_law_draw" Gk A.Ah A.Ai
 fV:Binds K A.Ai ["_law_cell_here", "_law_turn", "_law_many"] []
 fW:mg "_law_draw" = some (.ref A.Ah)
 Hs:aF K "_law_swing" "_law_swing" Gm A.Aj A.Al
 Rf:Binds K A.Al ["_law_cell_here", "_law_rings"] []
 Rg:mg "_law_swing" = some (.ref A.Aj)
 Ht:aF K "_law_zones" "_law_zones" Gn A.Am A.An
 Rh:Binds K A.An ["_law_cell_here"] []
 Ri:mg "_law_zones" = some (.ref A.Am)
 Hu:aF K "_law_made_plate" "_law_made_plate" Gp A.Ao A.Aq
 Rj:Binds K A.Aq ["_law_script"] []
 Rk:mg "_law_made_plate" = some (.ref A.Ao)
 Hv:aF K "_law_no" "_law_no" Gq A.As A.Au
 Rm:Binds K A.Au ["_law_e"] []
 Rn:mg "_law_no" = some (.ref A.As)
 Hw:aF K "_law_refused" "_law_refused" Gr A.Av A.Aw
 Ro:Binds K A.Aw ["_law_plate", "_law_word", "_law_most"] []
 Rp:mg "_law_refused" = some (.ref A.Av)
 Hx:aF K "_law_strange" "_law_strange" Gs A.Ax A.Ay
 Rq:Binds K A.Ay ["_law_cell_here"] []
 Rr:mg "_law_strange" = some (.ref A.Ax)
 Hy:aF K "_law_reads" "_law_reads" Gu A.Az A.AA
 Rt:Binds K A.AA ["_law_asks", "_law_most"] []
 Ru:mg "_law_reads" = some (.ref A.Az)
 Rv:aF K "law" "law" ju A.AB A.AD
 adL:Binds K A.AD ["_law_script"] []
 adM:mg "law" = some (.ref A.AB)
 oX:bR K A.aV
 Rw:Mk K A.aV A.xX
 Rx:mg "Ask" = some (.ref A.aV)
 uF:bJ K A.aV "kind"
 Hz:bJ K A.aV "first"
 HA:bJ K A.aV "many"
 HB:bJ K A.aV "marks"
 uG:bJ K A.aV "at"
 HC:bJ K A.aV "asker"
 HD:bJ K A.aV "latest"
 uH:bJ K A.aV "behind"
 HE:bJ K A.aV "early"
 mR:bR K A.bI
 Ry:Mk K A.bI A.tV
 Rz:mg "Lift" = some (.ref A.bI)
 AN:bJ K A.bI "calm"
 qM:bJ K A.bI "inward"
 AO:bJ K A.bI "batch"
 qN:bR K A.bM
 RA:Mk K A.bM A.tV
 RB:mg "Sweep" = some (.ref A.bM)
 AQ:bJ K A.bM "calm"
 AR:bJ K A.bM "inward"
 AS:bJ K A.bM "batch"
 jY:bR K A.a_
 RC:Mk K A.a_ A.zg
 RD:mg "Plate" = some (.ref A.a_)
 AU:bJ K A.a_ "ring_cells"
 AV:bJ K A.a_ "lap"
 AW:bJ K A.a_ "skew"
 AX:bJ K A.a_ "swing"
 AY:bJ K A.a_ "number_cells"
 AZ:bJ K A.a_ "cell_numbers"
 A0:bR K A.bE
 RE:Mk K A.bE A.zE
 RG:mg "Due" = some (.ref A.bE)
 uI:bJ K A.bE "number"
 HF:bJ K A.bE "ask"
 A1:bJ K A.bE "cells"
 lK:bR K A.bA
 RH:Mk K A.bA A.zO
 RI:mg "Course" = some (.ref A.bA)
 HG:bJ K A.bA "keeping"
 HJ:bJ K A.bA "plate"
 A2:bJ K A.bA "ring"
 uJ:bJ K A.bA "beat"
 A3:bJ K A.bA "left"
 RJ:bR K A.c9
 RK:Mk K A.c9 A.zZ
 RL:mg "Played" = some (.ref A.c9)
 HK:bJ K A.c9 "rows"
 A4:bJ K A.c9 "taken"
 HL:bJ K A.c9 "told"
 HM:bJ K A.c9 "answers"
 HN:bJ K A.c9 "end"
 HP:bR K A.dF
 adN:xu K A.dF
 adO:mg "Rule" = some (.ref A.dF)
 HQ:bR K A.cN
 RM:xu K A.cN
 RN:mg "First" = some (.ref A.cN)
 RO:mg "MOST_CELLS_asks" = some (.int 16 A.um)
 RP:mg "GREATEST_FIRST" = some (.int 1000000 A.uo)
 RQ:mg "GREATEST_AT" = some (.int 1000000000000 A.uq)
 RS:mg "GREATEST_ASKER" = some (.int 20 A.ur)
 RT:mg "GREATEST_LATEST" = some (.int 10000000000000 A.uu)
 RU:mg "GREATEST_BEHIND" = some (.int 99 A.uv)
 RV:mg "MOST_ZONES" = some (.int 5 A.uw)
 RW:mg "MOST_RINGS_IN_ZONE" = some (.int 40 A.ux)
 RX:mg "MOST_CELLS_IN_RING" = some (.int 60 A.uy)
 RY:mg "LEAST_RINGS" = some (.int 2 A.uz)
 RZ:mg "MOST_RINGS" = some (.int 120 A.uA)
 HR:mg "MOST_BEATS" = some (.int 1000000000 A.uB)
 uK:mg "abs" = none
 A5:mg "all" = none
 uL:mg "any" = none
 A6:mg "bool" = none
 HS:mg "dict" = none
 mS:mg "enumerate" = none
 lM:mg "isinstance" = none
 fD:mg "len" = none
 qO:mg "list" = none
 A7:mg "max" = none
 qP:mg "min" = none
 iI:mg "range" = none
 A8:mg "sorted" = none
 A9:mg "sum" = none
 qQ:mg "tuple" = none
 R0:A.qG.code = .ref A.aR
 R1:mg "BOUND_WORDS" = some (.ref A.mK)
 R3:xG K A.mK ["first", "calm lift", "calm sweep"]
 R4:mg "EVER_WORDS" = some (.ref A.mL)
 R5:xG K A.mL ["nearest", "soonest", "latest", "lift", "sweep"]
 A_:mg "ValueError" = none
 R6:mg "ArmError" = some (.ref A.jv)
 Ba:W.excIn K A.jv [.type "ValueError",.type "Exception",.type "BaseException",.type "object"] "ValueError.__new__" = true
 R7:eu K A.jv
 R8:mg "NoPlate" = some (.ref A.g7)
 Bb:W.excIn K A.g7 [.type "ValueError",.type "Exception",.type "BaseException",.type "object"] "ValueError.__new__" = true
 adP:eu K A.g7
 R9:mg "NoCell" = some (.ref A.jw)
 R_:mg "NoSpare" = some (.ref A.jx)
 Sa:mg "NoAsk" = some (.ref A.g8)
 Bc:W.excIn K A.g8 [.type "ValueError",.type "Exception",.type "BaseException",.type "object"] "ValueError.__new__" = true
 adQ:eu K A.g8
 Sd:mg "NoOrder" = some (.ref A.jy)
 HU:mg "NoRule" = some (.ref A.bg)
 uM:W.excIn K A.bg [.type "ValueError",.type "Exception",.type "BaseException",.type "object"] "ValueError.__new__" = true
 Se:eu K A.bg
 Be:lA K A.bg
 Bf:(W.clsIn K A.bg).isSome=true
 HV:W.kitOne K (.ref A.bg) (.ref A.jv)=some true
 Sf:subIn K A.bg (.ref A.jv)=true
 Bg:W.kitOne K (.ref A.bg) (.ref A.g7)=some false
 adR:subIn K A.bg (.ref A.g7)=false
 Bh:W.kitOne K (.ref A.bg) (.ref A.jw)=some false
 adS:subIn K A.bg (.ref A.jw)=false
 Bj:W.kitOne K (.ref A.bg) (.ref A.jx)=some false
 adT:subIn K A.bg (.ref A.jx)=false
 Bk:W.kitOne K (.ref A.bg) (.ref A.g8)=some false
 adU:subIn K A.bg (.ref A.g8)=false
 Bl:W.kitOne K (.ref A.bg) (.ref A.jy)=some false
 adV:subIn K A.bg (.ref A.jy)=false
 Bm:W.kitOne K (.ref A.bg) (.ref A.bg)=some true
 adW:subIn K A.bg (.ref A.bg)=true
 Bo:W.kitOne K (.ref A.bg) (.ref A.g9)=some false
 adX:subIn K A.bg (.ref A.g9)=false
 Bp:W.kitOne K (.ref A.bg) (.ref A.g_)=some false
 adY:subIn K A.bg (.ref A.g_)=false
 Bq:W.kitOne K (.ref A.bg) (.ref A.h_)=some false
 adZ:subIn K A.bg (.ref A.h_)=false
 Br:W.kitOne K (.ref A.bg) (.type "ValueError")=some true
 Sg:mg "TooMany" = some (.ref A.g9)
 Bs:W.excIn K A.g9 [.type "ValueError",.type "Exception",.type "BaseException",.type "object"] "ValueError.__new__" = true
 ad0:eu K A.g9
 Sh:mg "NoLine" = some (.ref A.g_)
 Bu:W.excIn K A.g_ [.type "ValueError",.type "Exception",.type "BaseException",.type "object"] "ValueError.__new__" = true
 ad1:eu K A.g_
 Si:mg "NoBook" = some (.ref A.h_)
 Bv:W.excIn K A.h_ [.type "ValueError",.type "Exception",.type "BaseException",.type "object"] "ValueError.__new__" = true
 ad2:eu K A.h_
theorem Tx.ad3{K:W.Frag}{mg:Str->Option Value}{A:e_}(T:Tx K mg A):CP K A.a_:=⟨T.jY,T.AU,T.AV,T.AW,T.AX,T.AY,T.AZ⟩
theorem Tx.ajV{K:W.Frag}{mg:Str->Option Value}{A:e_}(T:Tx K mg A):∀C∈[A.a_],bR K C/\Meth K C "rings" A.tY:=by
 intro C hC;simp only[List.mem_cons,List.not_mem_nil,or_false] at hC;rcases hC with rfl
 ·exact⟨T.jY,T.P9⟩
theorem Tx.ajW{K:W.Frag}{mg:Str->Option Value}{A:e_}(T:Tx K mg A):∀C∈[A.a_],bR K C/\Meth K C "cells_of" A.tZ:=by
 intro C hC;simp only[List.mem_cons,List.not_mem_nil,or_false] at hC;rcases hC with rfl
 ·exact⟨T.jY,T.Qa⟩
theorem Tx.Sj{K:W.Frag}{mg:Str->Option Value}{A:e_}(T:Tx K mg A):∀C∈[A.a_],bR K C/\Meth K C "beats_of" A.t_:=by
 intro C hC;simp only[List.mem_cons,List.not_mem_nil,or_false] at hC;rcases hC with rfl
 ·exact⟨T.jY,T.Qd⟩
theorem Tx.ad4{K:W.Frag}{mg:Str->Option Value}{A:e_}(T:Tx K mg A):∀C∈[A.a_],bR K C/\Meth K C "lap_beats" A.uc:=by
 intro C hC;simp only[List.mem_cons,List.not_mem_nil,or_false] at hC;rcases hC with rfl
 ·exact⟨T.jY,T.Qg⟩
theorem Tx.ad5{K:W.Frag}{mg:Str->Option Value}{A:e_}(T:Tx K mg A):∀C∈[A.a_],bR K C/\Meth K C "begins" A.ud:=by
 intro C hC;simp only[List.mem_cons,List.not_mem_nil,or_false] at hC;rcases hC with rfl
 ·exact⟨T.jY,T.Qj⟩
theorem Tx.ad6{K:W.Frag}{mg:Str->Option Value}{A:e_}(T:Tx K mg A):∀C∈[A.a_],bR K C/\Meth K C "swing_of" A.ue:=by
 intro C hC;simp only[List.mem_cons,List.not_mem_nil,or_false] at hC;rcases hC with rfl
 ·exact⟨T.jY,T.Qm⟩
theorem Tx.ad7{K:W.Frag}{mg:Str->Option Value}{A:e_}(T:Tx K mg A):∀C∈[A.a_],bR K C/\Meth K C "has_cell" A.uf:=by
 intro C hC;simp only[List.mem_cons,List.not_mem_nil,or_false] at hC;rcases hC with rfl
 ·exact⟨T.jY,T.Qp⟩
theorem Tx.ad8{K:W.Frag}{mg:Str->Option Value}{A:e_}(T:Tx K mg A):∀C∈[A.a_],bR K C/\Meth K C "cell_at" A.ug:=by
 intro C hC;simp only[List.mem_cons,List.not_mem_nil,or_false] at hC;rcases hC with rfl
 ·exact⟨T.jY,T.Qt⟩
theorem Tx.ad9{K:W.Frag}{mg:Str->Option Value}{A:e_}(T:Tx K mg A):∀C∈[A.a_],bR K C/\Meth K C "number_of" A.uh:=by
 intro C hC;simp only[List.mem_cons,List.not_mem_nil,or_false] at hC;rcases hC with rfl
 ·exact⟨T.jY,T.Qw⟩
theorem Tx.Sk{K:W.Frag}{mg:Str->Option Value}{A:e_}(T:Tx K mg A):∀C∈[A.bI,A.bM],bR K C/\Meth K C "anew" A.qJ:=by
 intro C hC;simp only[List.mem_cons,List.not_mem_nil,or_false] at hC;rcases hC with rfl | rfl
 ·exact⟨T.mR,T.Pg⟩
 ·exact⟨T.qN,T.Ph⟩
theorem Tx.ad_{K:W.Frag}{mg:Str->Option Value}{A:e_}(T:Tx K mg A):∀C∈[A.bI,A.bM],bR K C/\Meth K C "pick" A.qK:=by
 intro C hC;simp only[List.mem_cons,List.not_mem_nil,or_false] at hC;rcases hC with rfl | rfl
 ·exact⟨T.mR,T.Po⟩
 ·exact⟨T.qN,T.Pp⟩
theorem Tx.aea{K:W.Frag}{mg:Str->Option Value}{A:e_}(T:Tx K mg A):∀C∈[A.bI,A.bM],bR K C/\Meth K C "looked_at" A.qL:=by
 intro C hC;simp only[List.mem_cons,List.not_mem_nil,or_false] at hC;rcases hC with rfl | rfl
 ·exact⟨T.mR,T.Pu⟩
 ·exact⟨T.qN,T.Pw⟩
theorem Tx.aeb{K:W.Frag}{mg:Str->Option Value}{A:e_}(T:Tx K mg A):∀C∈[A.bI],bR K C/\Meth K C "choose" A.tW:=by
 intro C hC;simp only[List.mem_cons,List.not_mem_nil,or_false] at hC;rcases hC with rfl
 ·exact⟨T.mR,T.Pz⟩
theorem Tx.aec{K:W.Frag}{mg:Str->Option Value}{A:e_}(T:Tx K mg A):∀C∈[A.bM],bR K C/\Meth K C "choose" A.tX:=by
 intro C hC;simp only[List.mem_cons,List.not_mem_nil,or_false] at hC;rcases hC with rfl
 ·exact⟨T.qN,T.PF⟩
theorem Tx.aed{K:W.Frag}{mg:Str->Option Value}{A:e_}(T:Tx K mg A):∀C∈[A.dF,A.cN],bR K C/\Meth K C "pick" A.qH:=by
 intro C hC;simp only[List.mem_cons,List.not_mem_nil,or_false] at hC;rcases hC with rfl | rfl
 ·exact⟨T.HP,T.O1⟩
 ·exact⟨T.HQ,T.O2⟩
theorem Tx.aee{K:W.Frag}{mg:Str->Option Value}{A:e_}(T:Tx K mg A):∀C∈[A.dF,A.cN],bR K C/\Meth K C "anew" A.qI:=by
 intro C hC;simp only[List.mem_cons,List.not_mem_nil,or_false] at hC;rcases hC with rfl | rfl
 ·exact⟨T.HP,T.O5⟩
 ·exact⟨T.HQ,T.O6⟩
local macro_rules | `(tactic| walk_at "rdt") => `(tactic| wp_walk using $(Lean.mkIdent `T))
section
variable{P:Program}{w:World}{K:W.Frag}{mg:Str->Option Value}{base:Heap}{A:e_}
theorem aef(T:Tx K mg A)(au:aY mg base A.aR A.aN):aO P w K mg base aU 1 A.xX A.xY ["self", "kind", "first", "many", "marks", "at", "asker", "latest", "behind", "early"] (aag A.aV):=by
 refine T.OG.ok ac2 (λvs H Q E h=>?_) (λaH Ar outer s H vs Q E hr h=>?_)
 ·obtain⟨p,dx,v1,v2,v3,v4,v5,v6,v7,v8,v9,rfl,_⟩:=h
  rfl
 ·obtain⟨p,dx,v1,v2,v3,v4,v5,v6,v7,v8,v9,rfl,hp,q⟩:=h;refine⟨_,(aE (cB (pv 0) (pv 1) rfl)
   (aE (cB (pv 0) (pv 2) rfl)
   (aE (cB (pv 0) (pv 3) rfl)
   (aE (cB (pv 0) (pv 4) rfl)
   (aE (cB (pv 0) (pv 5) rfl)
   (aE (cB (pv 0) (pv 6) rfl)
   (aE (cB (pv 0) (pv 7) rfl)
   (aE (cB (pv 0) (pv 8) rfl)
   (aG (cB (pv 0) (pv 9) rfl)))))))))),?_⟩
  wp_walk using T,hp;exact q
theorem qR(T:Tx K mg A)(au:aY mg base A.aR A.aN):aO P w K mg base aU 1 A.xZ A.x6 ["number", "least", "greatest", "words"] aac:=by
 refine T.mO.ok ac3 (λvs H Q E h=>?_) (λaH Ar outer s H vs Q E hr h=>?_)
 ·obtain⟨n,lo,hi,w,rfl,_⟩:=h
  rfl
 ·obtain⟨n,lo,hi,w,rfl,h1,h2,q⟩:=h;refine⟨_,(aG (bY (PW.pt (fY (bG fZ (pv 0) (pv 1) (bD _)) (gR (bG k8 (pv 0) (pv 2) (bD _))))) eL cj)),?_⟩;walk_at "rdm";exact⟨by lia,by lia,q⟩
theorem aeg(T:Tx K mg A)(au:aY mg base A.aR A.aN):aO P w K mg base aU 1 A.yd A.yf ["behind"] (aaf K):=by
 refine T.GG.ok ac5 (λvs H Q E h=>?_) (λaH Ar outer s H vs Q E hr h=>?_)
 ·obtain⟨v,ns,rfl,_⟩:=h
  rfl
 ·obtain⟨v,ns,rfl,hv,q⟩:=h;refine⟨_,(aG (br (vD (bG W6 (pv 0) rG (bD _)) (fH ao) (C7 LQ rfl T.qQ boot_tuple (aa (pv 0) ao))))),?_⟩;walk_at "rdm";rcases hv with⟨rfl,rfl⟩ | ⟨a,rfl,hS | hS⟩
  ·exact ite_yes rfl λt nt=>q t _ (ah.put nt) aB
  ·exact ite_no (by simp) ⟨a,rfl,_,.inl ⟨hS,λl nl=>q l _ (ah.put nl) aB⟩⟩
  ·exact ite_no (by simp) ⟨a,rfl,_,.inr ⟨bq.of hS,q a _ (ah.refl _) hS⟩⟩
theorem aeh(T:Tx K mg A)(au:aY mg base A.aR A.aN):aO P w K mg base aU 1 A.yh A.yi ["one", "other"] (aai K A.aV):=by
 refine T.GI.ok ac6 (λvs H Q E h=>?_) (λaH Ar outer s H vs Q E hr h=>?_)
 ·obtain⟨p,r,x,y,m,b,dx,m',b',dm,rfl,_⟩:=h
  rfl
 ·obtain⟨p,r,x,y,m,b,dx,m',b',dm,rfl,hx,hy,q⟩:=h;refine⟨_,(aE (bY (PW.pt (K2 (bG kq (bw (pv 0) rfl) cA (bD _)) (K1 (bG kq (bw (pv 1) rfl) cA (bD _))))) (aG (br gQ)) cj)
   (aG (br (pJ (nG fZ (bw (pv 0) rfl) (aX cJ (bw (pv 1) rfl) (bw (pv 1) rfl)) (bD _)) (vC (nG fZ (bw (pv 1) rfl) (aX cJ (bw (pv 0) rfl) (bw (pv 0) rfl)) (bD _))))))),?_⟩
  wp_walk using T,hx.o,hy.o;unfold qe at q;by_cases k1:x.kind = "write" <;> by_cases k2:y.kind = "write" <;> by_cases k3:x.first<y.first+y.many <;> simpa[k1,k2,k3] using q
theorem HW(T:Tx K mg A)(au:aY mg base A.aR A.aN):aO P w K mg base aU 1 A.yq A.yr ["due"] (abH K A.aV A.bE):=by
 refine T.uC.ok ac8 (λvs H Q E h=>?_) (λaH Ar outer s H vs Q E hr h=>?_)
 ·obtain⟨p,d,dx,ap,l,ts,m,b,bu,rfl,_⟩:=h
  rfl
 ·obtain⟨p,d,dx,ap,l,ts,m,b,bu,rfl,hD,d1,q⟩:=h;have dM:=hD.o;unfold iC at dM;refine⟨_,(aG (br (bS jG (bS cR (bw (pv 0) rfl) aC (λ_ _=>rfl)) aC (λ_ _=>rfl)))),?_⟩;wp_walk using T,dM;have hn:=hD.c.n;have h0:ts[0]? = some (ts[0]'(by lia)):=List.getElem?_eq_getElem _
  have e0:d.c[0]? = some (cK d):=by unfold cK;rw[List.getD_eq_getElem?_getD,List.getElem?_eq_getElem (by lia)];rfl
  exact⟨_,hD.c.sq,_,gC (j:=0) (by rw[List.getElem?_map,h0];rfl),_,rfl,_,bq.of (hD.c.t 0 _ _ h0 e0),_,rfl,q⟩
theorem aei(T:Tx K mg A)(au:aY mg base A.aR A.aN):aO P w K mg base aU 1 A.yt A.yu ["dues"] (abE K A.aV A.bE):=by
 refine T.GL.ok ac9 (λvs H Q E h=>?_) (λaH Ar outer s H vs Q E hr h=>?_)
 ·obtain⟨D,ps,ds,rfl,_⟩:=h
  rfl
 ·obtain⟨D,ps,ds,rfl,hd,d1,gK,q⟩:=h;have fc:=hd.n;refine⟨_,(aG (br (cQ (Zi rfl) rfl T.qP boot_min (aa (gX (N:=["due"]) (nt:=1) (fv:=[]) (cS.of rfl rfl (by rfl) (by rfl) (by repeat (first | exact trivial | refine⟨rfl,?_⟩)) (by rfl) (by rfl) (by rfl) (by decide) (by decide +kernel)) rfl (e7 (pv 0)) (λC s H fp=>(bC (i:=0) (show List.Nodup (["due"]:List Str) by decide +kernel) rfl (Or.inl rfl))) (λC s H fp=>jO) (λC s H fp=>(gm (K:=K) rfl (pv 0) rfl))) ao)))),?_⟩
  walk_at "rdt";refine jQ D (ps.map V.ref) (λD2 i ys aj H2=>∃(u:Option V),ys=((ds.take i).map (·.n)).map V.int/\aj = [u]/\H2 D2=some (.lst ys)/\ah H H2/\H D2=none) (λQ q=>⟨_,rfl,q⟩) (aA.of hd.l) ?_ ?_ ?_ ?_
  ·intro D2 hD;exact⟨none,rfl,rfl,aB,ah.put hD,hD⟩
  ·rintro D2 i ys aj H2 ⟨u,rfl,rfl,e1,e2,e3⟩;exact⟨e1,gW (by simp only[List.length_map,List.length_take];lia),aA.of (e2 _ _ hd.l)⟩
  ·rintro D2 i x ys aj H2 N hN hx ⟨u,rfl,rfl,e1,e2,e3⟩;obtain⟨dp,gq,rfl⟩:=eT hx;have hi:i<ds.length:=by rw[← fc];exact eU gq
   refine(hd.same e2).el i dp ds[i] gq (List.getElem?_eq_getElem hi) λdx ap l ts m b' bu hD=>?_;have dM:=hD.o;unfold iC at dM;wp_walk using T,dM;refine⟨e1,hN _ _ _ ⟨_,?_,rfl,aB,ah.put2 e2 e3,e3⟩⟩;rw[take_succ_get (List.getElem?_eq_getElem hi),List.map_append,List.map_append];rfl
  ·rintro D2 ys aj H2 ⟨u,rfl,rfl,e1,e2,e3⟩;rw[List.length_map,fc,List.take_length] at e1;refine⟨D2,rfl,_,aA.of e1,by rw[List.length_map];lia,λM hM least=>?_⟩
   obtain⟨d,cK,rfl⟩:=List.mem_map.mp hM;exact q d H2 e2 ⟨cK,λe he=>by have:=least e.n (List.mem_map_of_mem he);dsimp only;lia⟩
theorem aej(T:Tx K mg A)(au:aY mg base A.aR A.aN):aO P w K mg base aU 1 A.qI A.yx ["self"] ab_:=by
 refine T.O3.ok adb (λvs H Q E h=>?_) (λaH Ar outer s H vs Q E hr h=>?_)
 ·obtain⟨x,rfl,_⟩:=h
  rfl
 ·obtain⟨x,rfl,q⟩:=h;refine⟨_,(aG (br rG)),?_⟩;walk_at "rdt";exact q
theorem aek(T:Tx K mg A)(au:aY mg base A.aR A.aN):aO P w K mg base aU 1 A.yK A.yL ["dues"] (abM K A.aV A.bE):=by
 refine T.GS.ok Gv (λvs H Q E h=>?_) (λaH Ar outer s H vs Q E hr h=>?_)
 ·obtain⟨D,ps,ds,rfl,_⟩:=h
  rfl
 ·obtain⟨D,ps,ds,rfl,hd,gK,q⟩:=h;have fc:=hd.n;have hu:=ji hr;refine⟨_,(aE (bz (i:=1) Gv.nd rfl (Or.inl rfl) rX)
   (aE (d_ PassesOwn.never rfl (e7 (pv 0)) (bC (i:=2) Gv.nd rfl (Or.inl rfl))
   (aG (wc hu (pv 1) (bw (pv 2) rfl) gQ rfl)))
   (aG (br (pv 1))))),?_⟩
  walk_at "rdt";intro kd lN;refine rl D (ps.map V.ref) (λi σ H'=>∃(u:Option V) (kvs:List (Key×V)),σ = [some (.ref D),some (.ref kd),u]/\ah H H'/\H' kd=some (.dK kvs)/\kvs.length<=i/\∀n:Int,(bT kvs (cD n)).isSome=decide (n∈(ds.take i).map (·.n))) (λQ q=>⟨_,rfl,q⟩) (aA.of (ah.put lN _ _ hd.l)) ⟨none,[],rfl,ah.put lN,aB,Nat.le_refl _,λn=>by simp[Dp]⟩ (by rintro i σ H' _ ⟨_,_,rfl,s',_⟩;exact aA.of (s' _ _ hd.l)) ?_ ?_
  ·rintro i x σ H' N hN hx ⟨u,kvs,rfl,s',hk,hl,hv⟩;obtain⟨p,hp,rfl⟩:=eT hx;have hi:i<ds.length:=by rw[← fc];exact eU hp
   refine(hd.same s').el i p ds[i] hp (List.getElem?_eq_getElem hi) λdx ap la ts m b bu hD=>?_;have dM:=hD.o;unfold iC at dM;wp_walk using T,dM;refine⟨_,kC.k (k:=cD ds[i].n) hk (by rw[l8];lia),hN _ _ ⟨_,_,rfl,ah.put2 s' lN,aB,?_,λn=>?_⟩⟩
   ·have:=NL kvs (cD ds[i].n) (V.bl true);lia
   ·rw[vZ,take_succ_get (List.getElem?_eq_getElem hi),List.map_append];by_cases e:n=ds[i].n
    ·subst e;simp
    ·rw[if_neg (by simpa[cD] using e),hv]
     simp[e]
  ·rintro σ H' ⟨u,kvs,rfl,s',hk,hl,hv⟩;rw[List.length_map,fc] at hl;rw[List.length_map,fc,List.take_length] at hv;walk_at "rdm";exact q kd kvs H' s' lN hk (by lia) hv
theorem Sl(T:Tx K mg A)(au:aY mg base A.aR A.aN):aO P w K mg base aU 1 A.qJ A.yN ["self"] (abR K [A.bI,A.bM]):=by
 refine T.Pf.ok adk (λvs H Q E h=>?_) (λaH Ar outer s H vs Q E hr h=>?_)
 ·obtain⟨C,x,dx,c,fs,rfl,_⟩:=h
  rfl
 ·obtain⟨C,x,dx,c,fs,rfl,hC,hK,hx,hf,q⟩:=h;refine⟨_,(aE (cB (pv 0) gQ rfl)
   (aG (cB (pv 0) rX rfl))),?_⟩
  rcases hf with rfl | ⟨i,B,rfl⟩
  ·wp_walk using hK.cl,hK.n1,hK.n2,hK.n3,hx,iG;intro p np;have oY:p≠x:=λz=>by rw[z,aB] at np;cases np
   have uN:H p=none:=by rwa [az oY] at np
   refine⟨_,_,_,(az (Ne.symm oY)).trans aB,hK.cl,hK.n3,by simp,q p _ uN (λb o e hb=>?_) ⟨aB,[],?_,by simp,λn=>by simp[Dp]⟩⟩
   ·rw[az hb,az (λz=>by rw[z,uN] at e;cases e),az hb];exact e
   ·rw[az oY,aB]
  ·wp_walk using hK.cl,hK.n1,hK.n2,hK.n3,hx,iG;intro p np;have oY:p≠x:=λz=>by rw[z,aB] at np;cases np
   have uN:H p=none:=by rwa [az oY] at np
   refine⟨_,_,_,(az (Ne.symm oY)).trans aB,hK.cl,hK.n3,by simp,q p _ uN (λb o e hb=>?_) ⟨aB,[],?_,by simp,λn=>by simp[Dp]⟩⟩
   ·rw[az hb,az (λz=>by rw[z,uN] at e;cases e),az hb];exact e
   ·rw[az oY,aB]
theorem ael(T:Tx K mg A)(au:aY mg base A.aR A.aN):aO P w K mg base aU 1 A.yS A.yT ["zones"] (Zz K):=by
 refine T.GW.ok xR (λvs H Q E h=>?_) (λaH Ar outer s H vs Q E hr h=>?_)
 ·obtain⟨a,ts,z,rfl,_⟩:=h
  rfl
 ·obtain⟨a,ts,z,rfl,hz,ok,q⟩:=h;refine⟨_,(aE (bY (PW.pt (fY (bG fZ (cQ gT rfl T.fD boot_len (aa (pv 0) ao)) aC (bD _)) (gR (bG k8 (cQ gT rfl T.fD boot_len (aa (pv 0) ao)) (dQ (v:=.int 5) rfl T.RV ⟨_,rfl⟩) (bD _))))) eL cj)
   (aE (d_ PassesOwn.never rfl (e7 (pv 0)) (iL rfl (cO (bC (i:=1) xR.nd rfl (Or.inl rfl)) (cO (bC (i:=2) xR.nd rfl (Or.inl rfl)) iK)))
   (aE (bY (PW.pt (fY (bG fZ (pv 1) aC (bD _)) (gR (bG k8 (pv 1) (dQ (v:=.int 40) rfl T.RW ⟨_,rfl⟩) (bD _))))) eL cj)
   (aG (bY (PW.pt (fY (bG fZ (pv 2) aC (bD _)) (gR (bG k8 (pv 2) (dQ (v:=.int 60) rfl T.RX ⟨_,rfl⟩) (bD _))))) eL cj))))
   (aE (bz (i:=3) xR.nd rfl (Or.inl rfl) (cQ (Ze rfl) rfl T.A9 boot_sum (aa (gX (N:=["zone"]) (nt:=1) (fv:=[]) (cS.of rfl rfl (by rfl) (by rfl) (by repeat (first | exact trivial | refine⟨rfl,?_⟩)) (by rfl) (by rfl) (by rfl) (by decide) (by decide +kernel)) rfl (e7 (pv 0)) (λC s H fp=>(bC (i:=0) (show List.Nodup (["zone"]:List Str) by decide +kernel) rfl (Or.inl rfl))) (λC s H fp=>jO) (λC s H fp=>(bS (Zu (K:=K) rfl) (pv 0) aC (λ_ _=>rfl)))) ao)))
   (aG (bY (PW.pt (fY (bG fZ (pv 3) (dQ (v:=.int 2) rfl T.RY ⟨_,rfl⟩) (bD _)) (gR (bG k8 (pv 3) (dQ (v:=.int 120) rfl T.RZ ⟨_,rfl⟩) (bD _))))) eL cj))))),?_⟩
  walk_at "rdm";have hn:=hz.n;have l1:=ok.l1;have l5:=ok.l5;refine⟨_,.inl hz.sq,by simp only[List.length_map];lia,_,.inl hz.sq,by simp only[List.length_map];lia,?_⟩
  refine rl a (ts.map V.ref) (λi σ H'=>∃r c,σ = [some (.ref a),r,c,none]/\H' = H) (λQ q=>⟨_,rfl,q⟩) hz.sq ⟨none,none,rfl,rfl⟩ (by rintro i σ H' _ ⟨r,c,rfl,rfl⟩;exact hz.sq) ?_ ?_
  ·rintro i x σ H' N hN hx ⟨r,c,rfl,rfl⟩;obtain⟨t,p,rfl,hp,ht⟩:=hz.at hx;refine kG (bq.of ht) rfl ?_;walk_at "rdm";obtain⟨h1,h2,h3,h4⟩:=ok.r p (get_mem hp);exact⟨by lia,by lia,by lia,by lia,hN _ _ ⟨_,_,rfl,rfl⟩⟩
  ·rintro σ H' ⟨r,c,rfl,rfl⟩;walk_at "rdm";refine jQ a (ts.map V.ref) (λD i ys aj H2=>ys=((z.take i).map λp=>V.int p.1)/\H2 D=some (.lst ys)/\ah H' H2/\H' D=none/\i<=z.length/\∃u,aj = [u]) (λQ q=>⟨_,rfl,q⟩) hz.sq ?_ ?_ ?_ ?_
   ·intro D hD;exact⟨rfl,aB,ah.put hD,hD,Nat.zero_le _,_,rfl⟩
   ·rintro D i ys aj H2 ⟨e,e1,e2,e3,e4,_⟩;refine⟨e1,?_,e2.seq hz.sq⟩;rw[e];refine gW ?_;simp only[List.length_map,List.length_take];lia
   ·rintro D i x ys aj H2 N hN hx ⟨e,e1,e2,e3,e4,u,rfl⟩;obtain⟨t,p,rfl,hp,ht⟩:=hz.at hx;have hl:=eU hp;walk_at "rdm";refine⟨_,bq.of (e2 _ _ ht),_,rfl,e1,hN _ _ _ ⟨?_,aB,ah.put2 e2 e3,e3,hl,_,rfl⟩⟩;rw[take_succ_get hp,List.map_append,e];rfl
   ·rintro D ys aj H2 ⟨e,e1,e2,e3,e4,u,rfl⟩;have e5:ys=(z.map λp=>p.1).map V.int:=by
     rw[e,lenZ hz.n,List.take_length,List.map_map];rfl
    rw[e5] at e1;walk_at "rdm";have s2:=ok.s2;have s1:=ok.DT;exact⟨_,aA.of e1,by lia,by lia,q _ e2⟩
theorem aem(T:Tx K mg A)(au:aY mg base A.aR A.aN):aO P w K mg base aU 1 A.yU A.yV ["zones", "lap", "skew"] (ZA K):=by
 refine T.GX.ok Gw (λvs H Q E h=>?_) (λaH Ar outer s H vs Q E hr h=>?_)
 ·obtain⟨a,ts,z,aM,dh,rfl,_⟩:=h
  rfl
 ·obtain⟨a,ts,z,aM,dh,rfl,hz,ok,h1,h2,h3,h4,hd,q⟩:=h;refine⟨_,(aE (bY (PW.pt (fY (bG fZ (pv 1) aC (bD _)) (gR (bG k8 (pv 1) (dQ (v:=.int 1000000000) rfl T.HR ⟨_,rfl⟩) (bD _))))) eL cj)
   (aE (d_ PassesOwn.never rfl (e7 (pv 0)) (iL rfl (cO (bC (i:=3) Gw.nd rfl (Or.inl rfl)) (cO (bC (i:=4) Gw.nd rfl (Or.inl rfl)) iK)))
   (aG (bY (bG kq (aX lW (pv 1) (pv 4)) aC (bD _)) eL cj)))
   (aG (bY (PW.pt (fY (bG fZ (pv 2) aC (bD _)) (gR (bG pN (pv 2) (pv 1) (bD _))))) eL cj)))),?_⟩
  walk_at "rdm";refine⟨by lia,by lia,?_⟩
  refine rl a (ts.map V.ref) (λi σ H'=>∃r c,σ = [some (.ref a),some (.int aM),some (.int dh),r,c]/\H' = H) (λQ q=>⟨_,rfl,q⟩) hz.sq ⟨none,none,rfl,rfl⟩ (by rintro i σ H' _ ⟨r,c,rfl,rfl⟩;exact hz.sq) ?_ ?_
  ·rintro i x σ H' N hN hx ⟨r,c,rfl,rfl⟩;obtain⟨t,p,rfl,hp,ht⟩:=hz.at hx;refine kG (bq.of ht) rfl ?_;obtain⟨g1,g2,g3,g4⟩:=ok.r p (get_mem hp);have g5:=hd p (get_mem hp);walk_at "rdm";exact⟨by lia,g5,hN _ _ ⟨_,_,rfl,rfl⟩⟩
  ·rintro σ H' ⟨r,c,rfl,rfl⟩;walk_at "rdm";exact⟨by lia,by lia,q⟩
theorem aen(T:Tx K mg A)(au:aY mg base A.aR A.aN):aO P w K mg base aU 1 A.yY A.yZ ["swing"] (ZD K):=by
 refine T.GZ.ok Gx (λvs H Q E h=>?_) (λaH Ar outer s H vs Q E hr h=>?_)
 ·obtain⟨a,sw,n,rfl,_⟩:=h
  rfl
 ·obtain⟨a,sw,n,rfl,hS,ok,hn,q⟩:=h;refine⟨_,(aG (d_ PassesOwn.never rfl (rL rfl T.iI (aa aC (aa (cQ gT rfl T.fD boot_len (aa (pv 0) ao)) ao))) (bC (i:=1) Gx.nd rfl (Or.inl rfl))
   (aG (d_ PassesOwn.never rfl (rL rfl T.iI (aa aC (aa (aX cJ (aX vM (pv 1) aC) aC) ao))) (bC (i:=2) Gx.nd rfl (Or.inl rfl))
   (aG (bY (bG k8 (bS cR (pv 0) (pv 1) (λ_ _=>rfl)) (aX cJ (bS cR (pv 0) (pv 2) (λ_ _=>rfl)) (bS cR (pv 0) (aX jd (pv 1) (pv 2)) (λ_ _=>rfl))) (bD _)) eL cj)))))),?_⟩
  walk_at "rdm";have hl:=ok.len;have h2:=ok.two;refine wF 2 (sw.length:Int) (λi σ H'=>∃r c,σ = [some (.ref a),r,c]/\H' = H) (λQ q=>?_) (by lia) (by lia) (by lia) (by lia) ⟨none,none,rfl,rfl⟩ ?_ ?_
  ·walk_at "rdm";refine⟨_,.inl hS,?_⟩;simpa using q
  ·rintro i σ H' N hN hi ⟨r,c,rfl,rfl⟩;walk_at "rdm";refine wF 1 ((2+(i:Int)) / 2+1) (λj σ H2=>∃c,σ = [some (.ref a),some (.int (2+(i:Int))),c]/\H2=H') (λQ q=>?_) (by lia) (by lia) (by lia) (by lia) ⟨_,rfl,rfl⟩ ?_ ?_
   ·walk_at "rdm";exact q
   ·rintro j σ H2 N2 qT hj ⟨c,rfl,rfl⟩;walk_at "rdm";have e1:((2:Int)+(i:Int)).toNat=(1+j)+(1+i - j):=by lia
    have e2:((1:Int)+(j:Int)).toNat=1+j:=by lia
    have e3:((2:Int)+(i:Int) - (1+(j:Int))).toNat=1+i - j:=by lia
    have g:=ok.no (1+j) (1+i - j) (by lia) (by lia) (by lia)
    refine⟨_,hS,_,iS (by lia) (by lia),_,hS,_,iS (by lia) (by lia),_,hS,_,iS (by lia) (by lia),?_⟩
    walk_at "rdm";rw[e1,e2,e3];exact⟨by lia,qT _ _ ⟨_,rfl,rfl⟩⟩
   ·rintro σ H2 ⟨c,rfl,rfl⟩;exact hN _ _ ⟨_,_,rfl,rfl⟩
  ·rintro σ H' ⟨r,c,rfl,rfl⟩;exact q
theorem aeo(T:Tx K mg A)(au:aY mg base A.aR A.aN):aO P w K mg base aU 1 A.y_ A.zb ["zones"] (ZE K):=by
 refine T.G4.ok xS (λvs H Q E h=>?_) (λaH Ar outer s H vs Q E hr h=>?_)
 ·obtain⟨a,ts,z,rfl,_⟩:=h
  rfl
 ·obtain⟨a,ts,z,rfl,hz,ok,q⟩:=h;refine⟨_,(aE (bz (i:=1) xS.nd rfl (Or.inl rfl) (dR ao))
   (aE (d_ PassesOwn.never rfl (e7 (pv 0)) (iL rfl (cO (bC (i:=2) xS.nd rfl (Or.inl rfl)) (cO (bC (i:=3) xS.nd rfl (Or.inl rfl)) iK)))
   (aG (dG (lq PySem.F.plainAttrs_list PySem.F.slot_list_extend PySem.F.type_list_extend LV (pv 1) (aa (aX vY (dR (aa (pv 3) ao)) (pv 2)) ao)))))
   (aG (br (pv 1))))),?_⟩
  walk_at "rdm";refine λl hl=>?_;refine rl a (ts.map V.ref) (λi σ H'=>∃r c,σ = [some (.ref a),some (.ref l),r,c]/\ah H H'/\H' l=some (.lst ((counts (z.take i)).map V.int))) (λQ q=>⟨_,rfl,q⟩) (ah.put hl |>.seq hz.sq) ⟨none,none,rfl,ah.put hl,aB⟩ (by rintro i σ H' _ ⟨r,c,rfl,hs,_⟩;exact hs.seq hz.sq) ?_ ?_
  ·rintro i x σ H' N hN hx ⟨r,c,rfl,hs,h1⟩;obtain⟨t,p,rfl,hp,ht⟩:=hz.at hx;refine kG (bq.of (hs _ _ ht)) rfl ?_;obtain⟨g1,g2,g3,g4⟩:=ok.r p (get_mem hp);have g5:=Mv ok i;walk_at "rdm";refine⟨⟨_,aA.of h1⟩,λp1 oM=>⟨by lia,by lia,by lia,λp2 jL=>?_⟩⟩
   have s1:=(ah.put (o:=.lst [V.int p.2]) oM).trans (ah.put (o:=.lst (List.replicate p.1.toNat [V.int p.2]).flatten) jL);refine⟨_,s1 _ _ h1,?_,hN _ _ ⟨_,_,rfl,ah.put2 (hs.trans s1) hl,?_⟩⟩
   ·simp only[Mw,List.length_map,List.length_replicate];lia
   ·rw[aB,take_succ_get hp,Mu,List.map_append,Mw];simp[counts]
  ·rintro σ H' ⟨r,c,rfl,hs,h1⟩;walk_at "rdm";rw[lenZ hz.n,List.take_length] at h1;exact q _ _ hs hl h1
theorem aep(T:Tx K mg A)(au:aY mg base A.aR A.aN):aO P w K mg base aU 1 A.zc A.zd ["ring_cells", "spares"] (ZF K):=by
 refine T.G5.ok tM (λvs H Q E h=>?_) (λaH Ar outer s H vs Q E hr h=>?_)
 ·obtain⟨a,rc,s,rfl,_⟩:=h
  rfl
 ·obtain⟨a,rc,s,rfl,hS,hl,hc,wN,HX,q⟩:=h;refine⟨_,(aE (bz (i:=2) tM.nd rfl (Or.inl rfl) (dR ao))
   (aE (d_ PassesOwn.never rfl (sf rfl T.mS (aa (pv 0) ao)) (iL rfl (cO (bC (i:=3) tM.nd rfl (Or.inl rfl)) (cO (bC (i:=4) tM.nd rfl (Or.inl rfl)) iK)))
   (aG (d_ PassesOwn.never rfl (rK rfl T.iI (aa (aX jd (pv 4) (pv 1)) ao)) (bC (i:=5) tM.nd rfl (Or.inl rfl))
   (aG (dG (lq PySem.F.plainAttrs_list PySem.F.slot_list_append PySem.F.type_list_append l6 (pv 2) (aa (fH (aa (pv 3) (aa (pv 5) ao))) ao)))))))
   (aG (br (pv 2))))),?_⟩
  walk_at "rdm";refine λl dU=>?_;have jT:=Zr (s:=s) wN (λc hx=>hc c hx);refine re a (rc.map V.int) (λi σ H'=>∃r c pl ts,σ = [some (.ref a),some (.int s),some (.ref l),r,c,pl]/\ah H H'/\(∀t∈ts,H t=none)/\Zn H' l ts (dW s 0 (rc.take i))) (λQ q=>?_) (ah.put dU |>.seq hS)
   ⟨none,none,none,[],rfl,ah.put dU,(by intro t ht;cases ht),aB,rfl,by intro i t p h;simp at h⟩ (by rintro i σ H' _ ⟨r,c,pl,ts,rfl,hs,_⟩;exact hs.seq hS) ?_ ?_
  ·walk_at "rdm";exact q
  ·rintro i x σ H' T1 N hN hx ⟨r,c,pl,ts,rfl,hs,oZ,hz⟩ hT;obtain⟨c0,HY,rfl⟩:=eT hx;obtain⟨g1,g2⟩:=hc c0 (get_mem HY);refine kG (bq.of aB) rfl ?_;walk_at "rdm";have Sm:=ah.put (o:=.tup [.int i,.int c0]) hT;refine MA (c0 - s) (λj σ H2=>∃pl ts,σ = [some (.ref a),some (.int s),some (.ref l),some (.int i),some (.int c0),pl]/\ah H H2/\(∀t∈ts,H t=none)/\Zn H2 l ts (dW s 0 (rc.take i)++(List.range j).map λ(k:Nat)=>((i:Int),(k:Int)))) (λQ q=>?_) (by lia) (by lia) ?_ ?_ ?_
   ·walk_at "rdm";exact q
   ·exact⟨_,ts,rfl,hs.trans Sm,oZ,by simpa using hz.same Sm⟩
   ·rintro j σ H2 N2 qT hj ⟨pl,ts,rfl,iM,HZ,mT⟩;walk_at "rdm";refine⟨⟨_,mT.sq⟩,λp hp=>⟨_,ah.put hp _ _ mT.l,?_,qT _ _ ⟨_,ts++[p],rfl,ah.put2 (iM.trans (ah.put hp)) dU,?_,?_⟩⟩⟩
    ·have h1:=mT.n;have h2:=jT i;simp only[List.length_map,List.length_append,List.length_range] at h1 ⊢;lia
    ·intro t ht;rcases List.mem_append.mp ht with ht | ht
     ·exact HZ t ht
     ·rw[List.mem_singleton.mp ht];exact iM.free hp
    ·have:=mT.snoc hp (i:Int) (j:Int);rw[List.range_succ,List.map_append,← List.append_assoc];exact this
   ·rintro σ H2 ⟨pl,ts,rfl,iM,HZ,mT⟩;refine hN _ _ ⟨_,_,_,ts,rfl,iM,HZ,?_⟩;rw[take_succ_get HY,Mr];have hi:=eU HY;simpa[dW,Nat.min_eq_left (Nat.le_of_lt hi)] using mT
  ·rintro σ H' ⟨r,c,pl,ts,rfl,hs,oZ,hz⟩;walk_at "rdm";rw[List.length_map,List.take_length] at hz;exact q _ _ _ hs dU oZ hz
theorem aer(T:Tx K mg A)(au:aY mg base A.aR A.aN):aO P w K mg base aU 1 A.ze A.zf ["number_cells"] (ZG K):=by
 refine T.G6.ok xT (λvs H Q E h=>?_) (λaH Ar outer s H vs Q E hr h=>?_)
 ·obtain⟨a,ts,z,rfl,_⟩:=h
  rfl
 ·obtain⟨a,ts,z,rfl,hz,hlen,q⟩:=h;have hu:=ji hr;refine⟨_,(aE (bz (i:=1) xT.nd rfl (Or.inl rfl) YF)
   (aE (d_ PassesOwn.never rfl (sf rfl T.mS (aa (pv 0) ao)) (iL rfl (cO (bC (i:=2) xT.nd rfl (Or.inl rfl)) (cO (bC (i:=3) xT.nd rfl (Or.inl rfl)) iK)))
   (aG (wc hu (pv 1) (pv 3) (pv 2) rfl)))
   (aG (br (pv 1))))),?_⟩
  walk_at "rdm";refine λd hd=>?_;refine re a (ts.map V.ref) (λi σ H'=>∃r c,σ = [some (.ref a),some (.ref d),r,c]/\ah H H'/\i<=z.length/\H' d=some (.dT (gh 0 (z.take i) []))) (λQ q=>?_) (ah.put hd |>.seq hz.sq)
   ⟨none,none,rfl,ah.put hd,Nat.zero_le _,aB⟩ (by rintro i σ H' _ ⟨r,c,rfl,hs,_⟩;exact hs.seq hz.sq) ?_ ?_
  ·walk_at "rdm";exact q
  ·rintro i x σ H' T1 N hN hx ⟨r,c,rfl,hs,hi,h1⟩ hT;obtain⟨t,p,rfl,hp,ht⟩:=hz.at hx;refine kG (bq.of aB) rfl ?_;walk_at "rdm";have HX:=hs.trans (ah.put (o:=.tup [.int i,.ref t]) hT);have hl:=Mt (z.take i) 0 [];have Bw:=eU hp;rw[List.length_take,List.length_nil] at hl;refine⟨_,kC.t (k:=kT p) (ah.put hT _ _ h1) (HX _ _ ht) (by rw[l8];lia),hN _ _ ⟨_,_,rfl,ah.put2 HX hd,Bw,?_⟩⟩
   rw[aB,take_succ_get hp,Ms];simp[gh,Nat.min_eq_left (Nat.le_of_lt Bw)]
  ·rintro σ H' ⟨r,c,rfl,hs,hi,h1⟩;walk_at "rdm";rw[lenZ hz.n,List.take_length] at h1;exact q _ _ hs hd h1
theorem ajX(T:Tx K mg A)(au:aY mg base A.aR A.aN):aO P w K mg base aU 1 A.tY A.zj ["self"] (ZK K):=by
 refine T.P8.ok adp (λvs H Q E h=>?_) (λaH Ar outer s H vs Q E hr h=>?_)
 ·obtain⟨C,p,P,fp,rfl,_⟩:=h
  rfl
 ·obtain⟨C,p,P,fp,rfl,hP,q⟩:=h;obtain⟨dx,a1,a2,a3,a4,ts,fs,rfl,h⟩:=hP;refine⟨_,(aG (br (cQ gT rfl T.fD boot_len (aa (bw (pv 0) rfl) ao)))),?_⟩;wp_walk using T,h.o,h.f1,h.f2,h.f3,h.f4,h.f5,h.f6,h.m1,h.m2,h.m3,h.m4,h.m5,h.m6,h.m7,h.m8,h.m9,h.gj,h.gG,h.cp.cl,h.cp.n1,h.cp.n2,h.cp.n3,h.cp.n4,h.cp.n5,h.cp.n6;exact⟨_,.inl (aA.of h.rc),by simpa  using q⟩
theorem ajY(T:Tx K mg A)(au:aY mg base A.aR A.aN):aO P w K mg base aU 1 A.tZ A.zm ["self", "ring"] (ZN K):=by
 refine T.P_.ok adq (λvs H Q E h=>?_) (λaH Ar outer s H vs Q E hr h=>?_)
 ·obtain⟨C,p,P,fp,r,rfl,_⟩:=h
  rfl
 ·obtain⟨C,p,P,fp,r,rfl,hP,h0,h1,q⟩:=h;obtain⟨dx,a1,a2,a3,a4,ts,fs,rfl,h⟩:=hP;refine⟨_,(aG (br (bS cR (bw (pv 0) rfl) (pv 1) (λ_ _=>rfl)))),?_⟩;wp_walk using T,h.o,h.f1,h.f2,h.f3,h.f4,h.f5,h.f6,h.m1,h.m2,h.m3,h.m4,h.m5,h.m6,h.m7,h.m8,h.m9,h.gj,h.gG,h.cp.cl,h.cp.n1,h.cp.n2,h.cp.n3,h.cp.n4,h.cp.n5,h.cp.n6;exact⟨_,aA.of h.rc,_,iS h0 h1,q⟩
theorem So(T:Tx K mg A)(au:aY mg base A.aR A.aN):aO P w K mg base aU 1 A.t_ A.zo ["self", "ring"] (ZO K):=by
 refine T.Qc.ok ads (λvs H Q E h=>?_) (λaH Ar outer s H vs Q E hr h=>?_)
 ·obtain⟨C,p,P,fp,r,rfl,_⟩:=h
  rfl
 ·obtain⟨C,p,P,fp,r,rfl,hP,h0,h1,h2,h3,q⟩:=h;obtain⟨dx,a1,a2,a3,a4,ts,fs,rfl,h⟩:=hP;refine⟨_,(aG (br (aX vM (bw (pv 0) rfl) (bS cR (bw (pv 0) rfl) (pv 1) (λ_ _=>rfl))))),?_⟩;wp_walk using T,h.o,h.f1,h.f2,h.f3,h.f4,h.f5,h.f6,h.m1,h.m2,h.m3,h.m4,h.m5,h.m6,h.m7,h.m8,h.m9,h.gj,h.gG,h.cp.cl,h.cp.n1,h.cp.n2,h.cp.n3,h.cp.n4,h.cp.n5,h.cp.n6;refine⟨_,aA.of h.rc,_,iS h0 h1,?_⟩;walk_at "rdm";exact⟨h2,by lia,q⟩
theorem aes(T:Tx K mg A)(au:aY mg base A.aR A.aN):aO P w K mg base aU 1 A.uc A.zq ["self"] (ZM K):=by
 refine T.Qe.ok adt (λvs H Q E h=>?_) (λaH Ar outer s H vs Q E hr h=>?_)
 ·obtain⟨C,p,P,fp,rfl,_⟩:=h
  rfl
 ·obtain⟨C,p,P,fp,rfl,hP,q⟩:=h;obtain⟨dx,a1,a2,a3,a4,ts,fs,rfl,h⟩:=hP;refine⟨_,(aG (br (bw (pv 0) rfl))),?_⟩;wp_walk using T,h.o,h.f1,h.f2,h.f3,h.f4,h.f5,h.f6,h.m1,h.m2,h.m3,h.m4,h.m5,h.m6,h.m7,h.m8,h.m9,h.gj,h.gG,h.cp.cl,h.cp.n1,h.cp.n2,h.cp.n3,h.cp.n4,h.cp.n5,h.cp.n6;exact q
theorem aet(T:Tx K mg A)(au:aY mg base A.aR A.aN):aO P w K mg base aU 1 A.ue A.zw ["self", "ring", "other"] (ZJ K):=by
 refine T.Qk.ok adv (λvs H Q E h=>?_) (λaH Ar outer s H vs Q E hr h=>?_)
 ·obtain⟨C,p,P,fp,i,j,rfl,_⟩:=h
  rfl
 ·obtain⟨C,p,P,fp,i,j,rfl,hP,hi,q⟩:=h;obtain⟨dx,a1,a2,a3,a4,ts,fs,rfl,h⟩:=hP;refine⟨_,(aG (br (bS cR (bw (pv 0) rfl) (cQ Lm rfl T.uK boot_abs (aa (aX jd (pv 1) (pv 2)) ao)) (λ_ _=>rfl)))),?_⟩;wp_walk using T,h.o,h.f1,h.f2,h.f3,h.f4,h.f5,h.f6,h.m1,h.m2,h.m3,h.m4,h.m5,h.m6,h.m7,h.m8,h.m9,h.gj,h.gG,h.cp.cl,h.cp.n1,h.cp.n2,h.cp.n3,h.cp.n4,h.cp.n5,h.cp.n6;refine⟨_,aA.of h.sw,_,iS (k:=if i - j<0 then -(i - j) else i - j) (by split <;> lia) (by split <;> lia),?_⟩
  have e:(if i - j<0 then -(i - j) else i - j).toNat=(i - j).natAbs:=by split <;> lia
  rw[e];exact q
theorem aeu(T:Tx K mg A)(au:aY mg base A.aR A.aN):aO P w K mg base aU 1 A.uf A.zx ["self", "ring", "place"] (ZR K):=by
 refine T.Qn.ok adw (λvs H Q E h=>?_) (λaH Ar outer s H vs Q E hr h=>?_)
 ·obtain⟨C,p,P,fp,r,c,rfl,_⟩:=h
  rfl
 ·obtain⟨C,p,P,fp,r,c,rfl,hP,q⟩:=h;obtain⟨dx,a1,a2,a3,a4,ts,fs,rfl,h⟩:=hP;refine⟨_,(aE (bY (PW.pt (fY (bG fZ (pv 1) aC (bD _)) (gR (bG pN (pv 1) (cQ gT rfl T.fD boot_len (aa (bw (pv 0) rfl) ao)) (bD _))))) (aG (br gQ)) cj)
   (aG (br (pJ (nG pN (pv 2) aC (bD _)) (vC (nG fZ (pv 2) (bS cR (bw (pv 0) rfl) (pv 1) (λ_ _=>rfl)) (bD _))))))),?_⟩
  wp_walk using h.o,h.f1,h.f2,h.f3,h.f4,h.f5,h.f6,h.m1,h.m2,h.m3,h.m4,h.m5,h.m6,h.m7,h.m8,h.m9,h.gj,h.gG,h.cp.cl,h.cp.n1,h.cp.n2,h.cp.n3,h.cp.n4,h.cp.n5,h.cp.n6;refine dH (λh0=>?_) (λh0=>⟨_,.inl (aA.of h.rc),dH (λh1=>?_) (λh1=>?_)⟩)
  ·rw[decide_eq_false (by lia)] at q;exact q
  ·rw[List.length_map] at h1;rw[decide_eq_false (by lia)] at q;exact q
  ·rw[List.length_map] at h1;refine dH (λh2=>⟨_,aA.of h.rc,_,iS (by lia) (by lia),?_⟩) (λh2=>?_)
   ·walk_at "rdm";have e:decide (c<P.rc.getD r.toNat 0)=decide (0<=r/\r<P.rc.length/\0<=c/\c<P.rc.getD r.toNat 0):=by
     by_cases h3:c<P.rc.getD r.toNat 0
     ·rw[decide_eq_true h3,decide_eq_true ⟨by lia,by lia,h2,h3⟩]
     ·rw[decide_eq_false h3,decide_eq_false (by lia)]
    rw[e];exact q
   ·rw[decide_eq_false (by lia)] at q;exact q
theorem aev(T:Tx K mg A)(au:aY mg base A.aR A.aN):aO P w K mg base aU 1 A.ug A.zy ["self", "number"] (ZS K):=by
 refine T.Qq.ok adx (λvs H Q E h=>?_) (λaH Ar outer s H vs Q E hr h=>?_)
 ·obtain⟨C,p,P,fp,k,rfl,_⟩:=h
  rfl
 ·obtain⟨C,p,P,fp,k,rfl,hP,h0,h1,q⟩:=h;obtain⟨dx,a1,a2,a3,a4,ts,fs,rfl,h⟩:=hP;refine⟨_,(aE (bY (PW.pt (fY (bG fZ (pv 1) aC (bD _)) (gR (bG pN (pv 1) (cQ gT rfl T.fD boot_len (aa (bw (pv 0) rfl) ao)) (bD _))))) eL cj)
   (aG (br (bS cR (bw (pv 0) rfl) (pv 1) (λ_ _=>rfl))))),?_⟩
  wp_walk using h.o,h.f1,h.f2,h.f3,h.f4,h.f5,h.f6,h.m1,h.m2,h.m3,h.m4,h.m5,h.m6,h.m7,h.m8,h.m9,h.gj,h.gG,h.cp.cl,h.cp.n1,h.cp.n2,h.cp.n3,h.cp.n4,h.cp.n5,h.cp.n6;have hn:=h.nc.n;refine⟨by lia,_,.inl h.nc.sq,by rw[List.length_map];lia,?_⟩
  have hk:k.toNat<ts.length:=by lia
  have g1:(ts.map V.ref)[k.toNat]? = some (V.ref ts[k.toNat]):=by simp[hk]
  obtain⟨t,q',e1,e2,e3⟩:=h.nc.at g1;have ek:k=(k.toNat:Int):=by lia
  refine⟨_,h.nc.sq,V.ref ts[k.toNat],?_,?_⟩
  ·have:=gC g1;rwa [← ek] at this
  ·rw[e1];exact q t q' e2 e3
theorem aew(T:Tx K mg A)(au:aY mg base A.aR A.aN):aO P w K mg base aU 1 A.zG A.zH ["asks", "number"] (aa1 K A.aV):=by
 refine T.Hf.ok adC (λvs H Q E h=>?_) (λaH Ar outer s H vs Q E hr h=>?_)
 ·obtain⟨la,ps,qs,k,q',rfl,_⟩:=h
  rfl
 ·obtain⟨la,ps,qs,k,q',rfl,ha,hk,up,q⟩:=h;refine⟨_,(aG (bY (PW.pt (K2 (bG k8 (pv 1) aC (bD _)) (K1 (bG fZ (bw (bS cR (pv 0) (pv 1) (λ_ _=>rfl)) rfl) (bw (bS cR (pv 0) (aX jd (pv 1) aC) (λ_ _=>rfl)) rfl) (bD _))))) eL cj)),?_⟩;walk_at "rdt";refine dH (λh0=>?_) (λh0=>q)
  obtain⟨p,m,b,dx,e1,a1⟩:=ha.at hk;have H_:=(List.getElem?_eq_some_iff.mp hk).1;have h1:k - 1<qs.length:=by lia
  obtain⟨p0,m0,b0,Sq,e2,a2⟩:=ha.at (List.getElem?_eq_getElem h1);have up':=up _ (by lia) (List.getElem?_eq_getElem h1)
  have e2':fj (ps.map V.ref) ((k:Int) - 1)=some (.ref p0):=by
   have:=gC e2;rwa [show ((k - 1:Nat):Int)=(k:Int) - 1 by lia] at this
  refine⟨_,aA.of ha.l,_,gC e1,_,rfl,_,_,_,a1.o,T.oX,T.uG,_,rfl,_,aA.of ha.l,_,e2',_,rfl,_,_,_,a2.o,T.oX,T.uG,_,rfl,_,rfl,_,rfl,by lia,q⟩
theorem aex(T:Tx K mg A)(au:aY mg base A.aR A.aN):aO P w K mg base aU 1 A.zI A.zJ ["asks", "number"] (aa2 K A.aV):=by
 refine T.Hg.ok OB (λvs H Q E h=>?_) (λaH Ar outer s H vs Q E hr h=>?_)
 ·obtain⟨la,ps,qs,k,q',rfl,_⟩:=h
  rfl
 ·obtain⟨la,ps,qs,k,q',rfl,ha,hk,bl,bh,q⟩:=h;refine⟨_,(aG (d_ PassesOwn.never rfl (CV (bw (bS cR (pv 0) (pv 1) (λ_ _=>rfl)) rfl)) (bC (i:=2) OB.nd rfl (Or.inl rfl))
   (aG (bY (PW.pt (fY (bG pN (pv 2) (pv 1) (bD _)) (gR (bG kj (bw (bS cR (pv 0) (pv 2) (λ_ _=>rfl)) rfl) cA (bD _))))) eL cj)))),?_⟩
  walk_at "rdt";obtain⟨p,m,b,dx,e1,a1⟩:=ha.at hk;refine rt b (q'.behind.map V.int) (λi σ H'=>∃(x:Option V),σ = [some (.ref la),some (.int (k:Int)),x]/\H' = H) (λQ q=>?_) (bq.of a1.bh) ⟨none,rfl,rfl⟩ (by rintro i σ H' _ ⟨_,rfl,rfl⟩;exact bq.of a1.bh) ?_ ?_
  ·walk_at "rdm";exact⟨_,aA.of ha.l,_,gC e1,_,rfl,_,_,_,a1.o,T.oX,T.uH,_,rfl,q⟩
  ·rintro i x σ H' N hN hx ⟨x0,rfl,rfl⟩;obtain⟨n,hn,rfl⟩:=eT hx;obtain⟨j,q0,rfl,hj,e2,kr⟩:=bh n (List.mem_of_getElem? hn);obtain⟨p0,m0,b0,Sq,e3,a2⟩:=ha.at e2;walk_at "rdm";exact⟨by lia,_,aA.of ha.l,_,gC e3,_,rfl,_,_,_,a2.o,T.oX,T.uF,_,rfl,rfl,λz=>kr (V.str.inj z),hN _ _ ⟨_,rfl,rfl⟩⟩
  ·rintro σ H' ⟨x0,rfl,rfl⟩;exact q
theorem aey(T:Tx K mg A)(au:aY mg base A.aR A.aN):aO P w K mg base aU 1 A.zQ A.zR ["self"] (acp K A.bA A.aV A.bE):=by
 refine T.QL.ok OD (λvs H Q E h=>?_) (λaH Ar outer s H vs Q E hr h=>?_)
 ·obtain⟨x,dx,kp,ks,kk,p,r,b,Dx,ls,rfl,_⟩:=h
  rfl
 ·obtain⟨x,dx,kp,ks,kk,p,r,b,Dx,ls,rfl,hc,l1,q⟩:=h;have hn:=hc.n;have ho:=hc.o;unfold dB at ho;refine⟨_,(aE (N4 (DL (i:=1) OD.nd rfl (Or.inl rfl) (N:=["due"]) (nt:=1) (fv:=[]) (cS.of rfl rfl (by rfl) (by rfl) (by repeat (first | exact trivial | refine⟨rfl,?_⟩)) (by rfl) (by rfl) (by rfl) (by decide) (by decide +kernel)) rfl (NW (bw (pv 0) rfl)) (λC s H fp=>(bC (i:=0) (show List.Nodup (["due"]:List Str) by decide +kernel) rfl (Or.inl rfl))) (λC s H fp=>jO) (λC s H fp=>(gm (K:=K) rfl (gm (K:=K) rfl (pv 0) rfl) rfl))))
   (aG (cB (pv 0) (cQ (Xb rfl) rfl T.A7 boot_max (aa (bw (pv 0) rfl) (aa (ab8 rfl T.qP rfl (pv 1) (bw (pv 0) rfl)) ao))) rfl))),?_⟩
  refine N5 Dx (cE ls) (λob D i ys aj H2=>∃(u:Option V),ys=(ls.take i).map (λy=>V.int y.1.q.at_)/\aj = [u]/\H2 D=some (.lst ys)/\H2 Dx=some (.bZ ob (.dK (cE ls)))/\bL x Dx H H2/\H D=none/\H2 x=H x) (λQ q=>?_) hc.d hc.nf ?_ ?_ ?_ ?_
  ·wp_walk using T,ho;exact q
  ·intro ob D nD;have n1:Dx≠D:=bW hc.d nD;have n2:x≠D:=bW hc.o nD;have n3:=hc.ne;exact⟨none,rfl,rfl,aB,by rw[az n1,aB],(bL.of (λ_ _ e=>e)).qy.put nD,nD,by rw[az n2,az n3]⟩
  ·rintro ob D i ys aj H2 ⟨u,rfl,rfl,e1,e2,e3,e4,e5⟩;exact⟨e1,gW (by simp only[List.length_map,List.length_take];lia),e2⟩
  ·rintro ob D i y ys aj H2 N hN hy ⟨u,rfl,rfl,e1,e2,e3,e4,e5⟩;unfold cE at hy;obtain⟨z,hz,rfl⟩:=eT hy;have hi:i<ls.length:=eU hz;have o7:z=ls[i]:=by rw[List.getElem?_eq_getElem hi] at hz;exact(Option.some.inj hz).symm
   subst o7;obtain⟨dm,ap,l,ts,m,b',bu,hD⟩:=hc.qA e3 (hc.t _ (List.getElem_mem hi));have dM:=hD.o;have mU:=hD.a.o;unfold iC at dM;unfold gk at mU;wp_walk using T,dM,mU;have n1:Dx≠D:=bW hc.d e4;have n2:x≠D:=bW hc.o e4;refine⟨e1,hN _ _ _ ⟨_,?_,rfl,aB,by rw[az n1];exact e2,e3.put e4,e4,by rw[az n2];exact e5⟩⟩
   rw[take_succ_get (List.getElem?_eq_getElem hi),List.map_append];rfl
  ·rintro ob D ys aj H2 ⟨u,rfl,rfl,e1,e2,e3,e4,e5⟩;have n1:Dx≠D:=bW hc.d e4;have n3:=hc.ne;have jF:upd H2 Dx (.dK (cE ls)) x=some (.ins A.bA dx [("keeping",V.ref kp),("plate",V.ref p),("ring",V.int r),("beat",V.int b),("left",V.ref Dx)]):=by rw[az n3,e5];exact ho
   rw[tF,List.take_length] at e1;wp_walk using T,NY,jF;refine⟨ls.map (λy=>y.1.q.at_),aA.of (by rw[az (Ne.symm n1),List.map_map];exact e1),by rw[List.length_map];lia,λM hM hl=>?_⟩
   have bc:bL x Dx H (upd (upd H2 Dx (.dK (cE ls))) x (.ins A.bA dx [("keeping",V.ref kp),("plate",V.ref p),("ring",V.int r),("beat",V.int (if b<M then M else b)),("left",V.ref Dx)])):=e3.qy.EM
   refine q _ _ ⟨M,?_,λy hy=>hl _ (List.mem_map.mpr ⟨y,hy,rfl⟩),rfl⟩ bc (hc.step bc (.refl _) aB (by rw[az (Ne.symm n3),aB]))
   obtain⟨y,hy,e⟩:=List.mem_map.mp hM;exact⟨y,hy,e⟩
theorem aez(T:Tx K mg A)(au:aY mg base A.aR A.aN):aO P w K mg base aU 1 A.zS A.zT ["self", "number"] (acq K A.bA A.aV A.bE):=by
 refine T.QO.ok adD (λvs H Q E h=>?_) (λaH Ar outer s H vs Q E hr h=>?_)
 ·obtain⟨x,dx,kp,ks,kk,p,r,b,Dx,ls,n,ns,rfl,_⟩:=h
  rfl
 ·obtain⟨x,dx,kp,ks,kk,p,r,b,Dx,ls,n,ns,rfl,hc,hk,hn,q⟩:=h;have hu:=ji hr;have ho:=hc.o;unfold dB at ho;have hkn:=hc.k.n;have hnk:n<kk.length:=eU hk;have aeA:n<ks.length:=by lia
  have Ss:=List.getElem?_eq_getElem aeA;have Su:=hc.k.t n _ ns Ss hk;refine⟨_,(aG (br (cQ (MP rfl) rfl T.uL boot_any (aa (gX (N:=["other", "self"]) (nt:=1) (fv:=[0]) (cS.of rfl rfl (by rfl) (by rfl) (by repeat (first | exact trivial | refine⟨rfl,?_⟩)) (by rfl) (by rfl) (by rfl) (by decide) (by decide +kernel)) rfl (CV (bS cR (bw (pv 0) rfl) (pv 1) (λ_ _=>rfl))) (λC s H fp=>(bC (i:=0) (show List.Nodup (["other", "self"]:List Str) by decide +kernel) rfl (Or.inl rfl))) (λC s H fp=>jO) (λC s H fp=>(K0 (Dw hu (pv 0) (gm (K:=K) rfl (pv 1) rfl))))) ao)))),?_⟩
  walk_at "rdt";refine ack ks[n] (ns.map V.int) (λD i ys aj H2=>∃(u:Option V),ys=((ns.take i).map (jX ls)).map V.bl/\aj = [u,some (.ref x)]/\H2 D=some (.lst ys)/\ah H H2/\H D=none) (λQ q=>?_) (bq.of Su) ?_ ?_ ?_ ?_
  ·wp_walk using T,ho;exact⟨_,aA.of hc.k.l,_,gC (by rw[List.getElem?_map,Ss];rfl),q⟩
  ·intro D nD;exact⟨none,rfl,rfl,aB,ah.put nD,nD⟩
  ·rintro D i ys aj H2 ⟨u,rfl,rfl,e1,e2,e3⟩;exact⟨e1,gW (by simp only[List.length_map,List.length_take];lia),bq.of (e2 _ _ Su)⟩
  ·rintro D i y ys aj H2 N hN hy ⟨u,rfl,rfl,e1,e2,e3⟩;obtain⟨m,hm,rfl⟩:=eT hy;have jF:=e2 _ _ ho;have hd2:=e2 _ _ hc.d;wp_walk using T,jF;refine⟨_,e8.k (k:=cD m) hd2,e1,hN _ _ _ ⟨_,?_,rfl,aB,ah.put2 e2 e3,e3⟩⟩;rw[take_succ_get hm,List.map_append,List.map_append,N7];rfl
  ·rintro D ys aj H2 ⟨u,rfl,rfl,e1,e2,e3⟩;rw[List.length_map,List.take_length] at e1;refine⟨D,rfl,_,aA.of e1,?_⟩;have ea:(ns.map (jX ls)).any id=ns.any (jX ls):=by rw[List.any_map];rfl
   rw[ea];exact q H2 e2
theorem aeB(T:Tx K mg A)(au:aY mg base A.aR A.aN):aO P w K mg base aU 1 A.zZ A.z3 ["self", "rows", "taken", "told", "answers", "end"] (Ob A.c9):=by
 refine T.Q0.ok adE (λvs H Q E h=>?_) (λaH Ar outer s H vs Q E hr h=>?_)
 ·obtain⟨x,dx,v1,v2,v3,v4,v5,rfl,_⟩:=h
  rfl
 ·obtain⟨x,dx,v1,v2,v3,v4,v5,rfl,hx,q⟩:=h;refine⟨_,(aE (cB (pv 0) (pv 1) rfl)
   (aE (cB (pv 0) (pv 2) rfl)
   (aE (cB (pv 0) (pv 3) rfl)
   (aE (cB (pv 0) (pv 4) rfl)
   (aG (cB (pv 0) (pv 5) rfl)))))),?_⟩
  wp_walk using T,hx;exact q
theorem aeC(T:Tx K mg A)(au:aY mg base A.aR A.aN):aO P w K mg base aU 1 A.z6 A.z7 ["rows"] (acz K):=by
 refine T.Hj.ok oO (λvs H Q E h=>?_) (λaH Ar outer s H vs Q E hr h=>?_)
 ·obtain⟨l,ts,z,rfl,_⟩:=h
  rfl
 ·obtain⟨l,ts,z,rfl,hz,z1,z5,q⟩:=h;have hu:=ji hr;have Sv:=hz.n;refine⟨_,(aE (bz (i:=1) oO.nd rfl (Or.inl rfl) rX)
   (aE (d_ PassesOwn.never rfl (e7 (pv 0)) (iL rfl (cO (bC (i:=2) oO.nd rfl (Or.inl rfl)) (cO (bC (i:=3) oO.nd rfl (Or.inl rfl)) (cO (bC (i:=4) oO.nd rfl (Or.inl rfl)) (cO (bC (i:=5) oO.nd rfl (Or.inl rfl)) (cO (bC (i:=6) oO.nd rfl (Or.inl rfl)) iK))))))
   (aG (wc hu (pv 1) (pv 2) (pv 6) rfl)))
   (aG (br (pv 1))))),?_⟩
  walk_at "rdt";intro kd lN;refine rl l (ts.map V.ref) (λi σ H'=>∃(u1 u2 u3 u4 u5:Option V) (kvs:List (Key×V)),σ = [some (.ref l),some (.ref kd),u1,u2,u3,u4,u5]/\ah H H'/\H' kd=some (.dK kvs)/\kvs.length<=i/\∀n:Int,(∃r∈z.take i,r.head? = some n)->∃e:Int,bT kvs (cD n)=some (.int e)) (λQ q=>⟨_,rfl,q⟩) (aA.of (ah.put lN _ _ hz.l)) ⟨none,none,none,none,none,[],rfl,ah.put lN,aB,Nat.le_refl _,λn ⟨r,hr,_⟩=>by simp at hr⟩ (by rintro i σ H' _ ⟨_,_,_,_,_,_,rfl,s',_⟩;exact aA.of (s' _ _ hz.l)) ?_ ?_
  ·rintro i x σ H' N hN hx ⟨u1,u2,u3,u4,u5,kvs,rfl,s',hk,hl,hv⟩;obtain⟨t,ht,rfl⟩:=eT hx;have hi:i<z.length:=by rw[← Sv];exact eU ht
   have Ia:=List.getElem?_eq_getElem hi;have hT:=s' _ _ (hz.t i t _ ht Ia);obtain⟨q1,q2,q3,q4,q5,e5⟩:=Oa (z5 _ (List.getElem_mem hi));rw[e5] at hT Ia;walk_at "rdt";refine⟨_,bq.of hT,rfl,_,_,rfl,_,_,rfl,_,_,rfl,_,_,rfl,_,_,rfl,rfl,?_⟩;refine⟨_,kC.k (k:=cD q1) hk (by rw[l8];lia),hN _ _ ⟨_,_,_,_,_,_,rfl,ah.put2 s' lN,aB,?_,λn hn=>?_⟩⟩
   ·have:=NL kvs (cD q1) (V.int q5);lia
   ·rw[vZ];by_cases e:n=q1
    ·subst e;exact⟨q5,by simp⟩
    ·rw[if_neg (λz=>e (tE.mp z))];refine hv n ?_;rw[take_succ_get Ia] at hn;obtain⟨r,hr,hh⟩:=hn;rcases List.mem_append.mp hr with hr | hr
     ·exact⟨r,hr,hh⟩
     ·rw[List.mem_singleton.mp hr] at hh;exact absurd (Option.some.inj hh).symm e
  ·rintro σ H' ⟨u1,u2,u3,u4,u5,kvs,rfl,s',hk,hl,hv⟩;rw[List.length_map,Sv,List.take_length] at hv;walk_at "rdm";exact q kd kvs H' s' lN hk hv
theorem aeD(T:Tx K mg A)(au:aY mg base A.aR A.aN):aO P w K mg base aU 1 A.z8 A.z9 ["ask"] (acA K A.aV):=by
 refine T.Hl.ok adF (λvs H Q E h=>?_) (λaH Ar outer s H vs Q E hr h=>?_)
 ·obtain⟨a,q',m,b,dx,rfl,_⟩:=h
  rfl
 ·obtain⟨a,q',m,b,dx,rfl,ha,f0,f1,m0,m1,q⟩:=h;have mU:=ha.o;unfold gk at mU;refine⟨_,(aG (br (Z7 rfl T.qO rfl T.iI rfl (aa (bw (pv 0) rfl) (aa (aX cJ (bw (pv 0) rfl) (bw (pv 0) rfl)) ao))))),?_⟩;wp_walk using T,mU;exact⟨by lia,by lia,by lia,by lia,by lia,λl nl=>q l ((List.range (q'.first+q'.many - q'.first).toNat).map λ(k:Nat)=>q'.first+(k:Int)) _ (ah.put nl) nl (by rw[List.length_map,List.length_range];lia) (by rw[aB,List.map_map];rfl)⟩
theorem aeE(T:Tx K mg A)(au:aY mg base A.aR A.aN):aO P w K mg base aU 1 A.Ab A.Ac ["asks", "ends", "shelf"] (Od K A.aV):=by
 refine T.Hq.ok qF (λvs H Q E h=>?_) (λaH Ar outer s H vs Q E hr h=>?_)
 ·obtain⟨la,ps,qs,E',kvs,sh,rfl,_⟩:=h
  rfl
 ·obtain⟨la,ps,qs,E',kvs,sh,rfl,ha,q1,hq,hE,hv,q⟩:=h;have hu:=ji hr;have an:=ha.n;refine⟨_,(aE (bz (i:=3) qF.nd rfl (Or.inl rfl) (dR ao))
   (aE (bz (i:=4) qF.nd rfl (Or.inl rfl) (dR ao))
   (aE (bz (i:=5) qF.nd rfl (Or.inl rfl) (dR ao))
   (aE (d_ PassesOwn.never rfl (sf rfl T.mS (aa (pv 0) ao)) (iL rfl (cO (bC (i:=6) qF.nd rfl (Or.inl rfl)) (cO (bC (i:=7) qF.nd rfl (Or.inr rfl)) iK)))
   (aG (bY (bG kj (bw (pv 7) rfl) cA (bD _)) eL (aG (bY (i9 (bw (pv 7) rfl)) eL (aG (dG (lq PySem.F.plainAttrs_list PySem.F.slot_list_append PySem.F.type_list_append l6 (pv 3) (aa (YA hu (pv 1) (pv 6) (λ_ _=>rfl)) ao)))))))))
   (aG (br (pv 3))))))),?_⟩
  walk_at "rdt";intro t1 n1 t2 n2 t3 n3;have s3:=((ah.put (o:=.lst []) n1).trans (ah.put (o:=.lst []) n2)).trans (ah.put (o:=.lst []) n3);have h1:upd (upd (upd H t1 (.lst [])) t2 (.lst [])) t3 (.lst []) t1=some (.lst []):=((ah.put (o:=.lst []) n2).trans (ah.put (o:=.lst []) n3)) _ _ aB;generalize upd (upd (upd H t1 (.lst [])) t2 (.lst [])) t3 (.lst [])=H1 at *
  refine re la (ps.map V.ref) (λk σ H'=>∃(x1 x2:Option V) (ns:List Int),σ = [some (.ref la),some (.ref E'),some (.int sh),some (.ref t1),some (.ref t2),some (.ref t3),x1,x2]/\ah H H'/\H' t1=some (.lst (ns.map V.int))/\ns.length<=k) (λQ q=>?_) (aA.of (s3 _ _ ha.l)) ⟨none,none,[],rfl,s3,h1,Nat.le_refl _⟩ (by rintro i σ H' _ ⟨_,_,_,rfl,s1,_⟩;exact aA.of (s1 _ _ ha.l)) ?_ ?_
  ·walk_at "rdm";exact q
  ·rintro k x σ H' T1 N hN hx ⟨x1,x2,ns,rfl,s1,ht,hl⟩ hT;have Sw:k<ps.length:=by have:=(List.getElem?_eq_some_iff.mp hx).1;simpa using this
   have hk:k<qs.length:=by lia
   have ia:=List.getElem?_eq_getElem hk;obtain⟨ap,m,b,dx,e1,a1⟩:=ha.at ia;rw[e1] at hx;cases hx;have s2:=s1.trans (ah.put (o:=.tup [.int (k:Int),.ref ap]) hT);refine kG (bq.of aB) rfl ?_;obtain⟨k1,k2⟩:=hq _ (List.getElem_mem hk);have a2:=(a1.same s2).o;unfold gk at a2;rw[k1,k2] at a2;have nk:((Str.ofString "read"):Str)≠"rest" := Eh (by decide)
   obtain⟨e,he⟩:=hv (k:Int) (by lia) (by lia)
   wp_walk using T,a2;have Sx:=ah.put (o:=.tup [.int (k:Int),.ref ap]) hT _ _ ht;refine⟨not_false,not_false,⟨_,aA.of Sx⟩,_,he▸e8.k (k:=cD (k:Int)) (s2 _ _ hE),_,Sx,by rw[List.length_map];lia,hN _ _ ⟨_,_,ns++[e],rfl,ah.put2 s2 n1,by rw[aB,List.map_append];rfl,by rw[List.length_append,List.length_singleton];lia⟩⟩
  ·rintro σ H' ⟨x1,x2,ns,rfl,s1,ht,hl⟩;walk_at "rdm";exact q _ _ s1
theorem qU(T:Tx K mg A)(au:aY mg base A.aR A.aN):aO P w K mg base aU 1 A.Af A.Ag ["_law_script", "_law_k"] (qt K):=by
 refine T.mQ.ok adG (λvs H Q E h=>?_) (λaH Ar outer s H vs Q E hr h=>?_)
 ·obtain⟨a,ns,k,rfl,_⟩:=h
  rfl
 ·obtain⟨a,ns,k,rfl,hS,hl,k0,k1,q⟩:=h;refine⟨_,(aE (bY (bG fZ (pv 1) (cQ gT rfl T.fD boot_len (aa (pv 0) ao)) (bD _)) (aG (br (aX cJ (bS cR (pv 0) (pv 1) (λ_ _=>rfl)) (aX kh aC (pv 1))))) cj)
   (aG (br (aX kh aC (pv 1))))),?_⟩
  walk_at "rdm";refine⟨_,.inl hS,dH (λh=>⟨_,hS,_,iS k0 (by simpa using h),?_⟩) λh=>?_⟩
  ·walk_at "rdm";exact q
  ·have e:DR ns k=0:=by
    unfold DR;rw[List.getD_eq_getElem?_getD,List.getElem?_eq_none (by simp at h;lia)];rfl
   unfold kN at q;rw[e,Int.zero_add] at q;exact q
theorem gr(T:Tx K mg A)(au:aY mg base A.aR A.aN):aO P w K mg base aU 1 A.Ah A.Ai ["_law_cell_here", "_law_turn", "_law_many"] iV:=by
 refine T.fB.ok adH (λvs H Q E h=>?_) (λaH Ar outer s H vs Q E hr h=>?_)
 ·obtain⟨c,t,m,rfl,_⟩:=h
  rfl
 ·obtain⟨c,t,m,rfl,t0,t1,m0,q⟩:=h;refine⟨_,(aG (br (aX lW (aX lW (aX kh (aX cJ (pv 0) aC) (aX cJ aC (aX kh (aX kh aC (pv 1)) (pv 1)))) aC) (pv 2)))),?_⟩;walk_at "rdm";have a:=Int.mul_le_mul_of_nonneg_left t1 (show (0:Int)<=715225739 by decide)
  have a0:=Int.mul_nonneg (show (0:Int)<=715225739 by decide) t0
  have b:=Int.mul_le_mul a t1 t0 (by lia)
  have b0:=Int.mul_nonneg a0 t0;exact⟨.inr ⟨by lia,by lia⟩,.inr ⟨by lia,by lia⟩,m0,q⟩
theorem aeF(T:Tx K mg A)(au:aY mg base A.aR A.aN):EE P w K mg base 1 A.As A.Au ["_law_e"] (acM A.bg):=by
 refine T.Hv.okW OF (λvs H Q E h=>?_) (λaH Ar outer s H vs Q e hr h=>?_)
 ·obtain⟨a,rfl,_⟩:=h
  rfl
 ·obtain⟨a,rfl,ha,q⟩:=h;refine⟨_,(aE (bz (i:=1) OF.nd rfl (Or.inl rfl) (cQ abV rfl T.lM boot_isinstance (aa (pv 0) (aa (fH (aa (dQ (v:=.ref A.g7) rfl T.R8 rfl) (aa (dQ (v:=.ref A.jw) rfl T.R9 rfl) (aa (dQ (v:=.ref A.jx) rfl T.R_ rfl) (aa (dQ (v:=.ref A.g8) rfl T.Sa rfl) (aa (dQ (v:=.ref A.jy) rfl T.Sd rfl) (aa (dQ (v:=.ref A.g9) rfl T.Sg rfl) (aa (dQ (v:=.ref A.g_) rfl T.Sh rfl) (aa (dQ (v:=.ref A.h_) rfl T.Si rfl) ao))))))))) ao))))
   (aG (br (pJ (cQ Na rfl T.lM boot_isinstance (aa (pv 0) (aa (dQ (v:=.ref A.bg) rfl T.HU rfl) ao))) (pJ (cQ Na rfl T.lM boot_isinstance (aa (pv 0) (aa (vA (v:=.ty "ValueError") rfl T.A_ PyProof.Rows.Boot.«ValueError» rfl) ao))) (vC (K3 (pv 1)))))))),?_⟩
  walk_at "rdt";intro p np;have Ib:=ah.put (o:=.tup [V.ref A.g7,V.ref A.jw,V.ref A.jx,V.ref A.g8,V.ref A.jy,V.ref A.g9,V.ref A.g_,V.ref A.h_]) np _ _ ha;refine⟨A.bg,[A.g7,A.jw,A.jx,A.g8,A.jy,A.g9,A.g_,A.h_],rfl,Ib,T.Be,T.Bf,false,?_,A.bg,_,.inl rfl,Ib,T.Be,T.Bf,true,T.Bm,ite_yes rfl ⟨A.bg,_,.inr rfl,Ib,T.Be,T.Bf,true,T.Br,ite_yes rfl (q _ (ah.put np))⟩⟩;simp only[List.map_cons,List.map_nil,W.kitAny,T.Bg,T.Bh,T.Bj,T.Bk,T.Bl,T.Bo,T.Bp,T.Bq]
theorem aeG(T:Tx K mg A)(au:aY mg base A.aR A.aN):aO P w K mg base aU 1 A.Az A.AA ["_law_asks", "_law_most"] (acO K A.aV):=by
 refine T.Hy.ok adI (λvs H Q E h=>?_) (λaH Ar outer s H vs Q E hr h=>?_)
 ·obtain⟨la,ps,qs,most,rfl,_⟩:=h
  rfl
 ·obtain⟨la,ps,qs,most,rfl,ha,q1,q2,m1,hq,q⟩:=h;have hu:=ji hr;have hu1:=Nat.lt_of_succ_lt hu;have an:=ha.n;refine⟨_,(aE (bY (PW.pt (fY (j7 (i9 (cQ DQ rfl T.lM boot_isinstance (aa (pv 0) (aa (vA (v:=.ty "list") rfl T.qO boot_list rfl) ao))))) (gR (j7 (W9 vN vN aC (cQ gT rfl T.fD boot_len (aa (pv 0) ao)) (pv 1)))))) (aG (br gQ)) cj)
   (aG (br (cQ (Z4 rfl) rfl T.A5 boot_all (aa (gX (N:=["_law_ask"]) (nt:=1) (fv:=[]) (cS.of rfl rfl (by rfl) (by rfl) (by repeat (first | exact trivial | refine⟨rfl,?_⟩)) (by rfl) (by rfl) (by rfl) (by decide) (by decide +kernel)) rfl (e7 (pv 0)) (λC s H fp=>(bC (i:=0) (show List.Nodup (["_law_ask"]:List Str) by decide +kernel) rfl (Or.inl rfl))) (λC s H fp=>jO) (λC s H fp=>(pJ (nG kj (gm (K:=K) rfl (pv 0) rfl) cA (bD _)) (pJ (nG kj (gm (K:=K) rfl (pv 0) rfl) aC (bD _)) (vC (nG (acJ hu1) (gm (K:=K) rfl (pv 0) rfl) (fH ao) (bD _))))))) ao))))),?_⟩
  walk_at "rdt";refine⟨_,gw.lst ha.l,true,rfl,?_⟩;refine⟨_,.inl (aA.of ha.l),?_⟩;rw[List.length_map,if_pos (by lia),if_neg (by lia)]
  refine jQ la (ps.map V.ref) (λD i ys aj H2=>∃(u:Option V),ys=(List.replicate i true).map V.bl/\i<=qs.length/\aj = [u]/\H2 D=some (.lst ys)/\ah H H2/\H D=none) (λQ q=>⟨_,rfl,q⟩) (aA.of ha.l) ?_ ?_ ?_ ?_
  ·intro D nD;exact⟨none,rfl,Nat.zero_le _,rfl,aB,ah.put nD,nD⟩
  ·rintro D i ys aj H2 ⟨u,rfl,hi,rfl,e1,e2,e3⟩;exact⟨e1,gW (by rw[List.length_map,List.length_replicate];lia),aA.of (e2 _ _ ha.l)⟩
  ·rintro D i y ys aj H2 N hN hy ⟨u,rfl,hi,rfl,e1,e2,e3⟩;have gi:i<ps.length:=by have:=eU hy;simpa using this
   have hk:i<qs.length:=by lia
   obtain⟨ap,m,b,dx,g1,a1⟩:=ha.at (List.getElem?_eq_getElem hk);rw[g1] at hy;cases hy;obtain⟨k1,k2,k3⟩:=hq _ (List.getElem_mem hk);have a2:=(a1.same e2).o;have hb:=(a1.same e2).bh;unfold gk at a2;rw[k1,k2] at a2;rw[k3] at hb;wp_walk using T,a2;intro pt npt;have sp:=ah.put (o:=.tup []) npt;refine⟨[],sp _ _ hb,[],rfl,sp _ _ e1,hN _ _ _ ⟨_,?_,by lia,rfl,aB,ah.put2 (e2.trans sp) e3,e3⟩⟩
   rw[List.replicate_succ',List.map_append];rfl
  ·rintro D ys aj H2 ⟨u,rfl,hi,rfl,e1,e2,e3⟩;refine⟨D,rfl,_,aA.of e1,?_⟩;rw[List.all_replicate];simpa using q H2 e2
theorem aeH(T:Tx K mg A)(au:aY mg base A.aR A.aN):aO P w K mg base aU 2 A.x8 A.x9 ["behind"] (aad K):=by
 refine T.GD.ok xQ (λvs H Q E h=>?_) (λaH Ar outer s H vs Q E hr h=>?_)
 ·obtain⟨b,ns,rfl,_⟩:=h
  rfl
 ·obtain⟨b,ns,rfl,hS,hR,q⟩:=h;refine⟨_,(aE (bz (i:=1) xQ.nd rfl (Or.inl rfl) (pL pM aC))
   (aG (d_ PassesOwn.never rfl (CV (pv 0)) (bC (i:=2) xQ.nd rfl (Or.inl rfl))
   (aE (dG (aZ (qR T au) (hr.mono (by decide)) rfl T.oU T.mO.kp T.oR .nil aL (aa (pv 2) (aa (aX cJ (pv 1) aC) (aa (dQ (v:=.int 99) rfl T.RU ⟨_,rfl⟩) (aa cA ao))))))
   (aG (bz (i:=1) xQ.nd rfl (Or.inl rfl) (pv 2))))))),?_⟩
  walk_at "rdm";refine rt b (ns.map V.int) (λi σ H'=>∃x,σ = [some (.ref b),some (.int (sJ (-1) ns i)),x]/\H' = H) (λQ q=>⟨_,rfl,q⟩) hS ⟨none,rfl,rfl⟩ (by rintro i σ H' _ ⟨x,rfl,rfl⟩;exact hS) ?_ ?_
  ·rintro i x σ H' N hN hx ⟨x0,rfl,rfl⟩;obtain⟨n,hn,rfl⟩:=eT hx;have st:=hR.step hn;walk_at "rdm";exact⟨n,_,99,_,rfl,st.1,st.2,hN _ _ ⟨some (.int n),by rw[aab hn],rfl⟩⟩
  ·rintro σ H' ⟨x0,rfl,rfl⟩;walk_at "rdm";exact q
theorem aeI(T:Tx K mg A)(au:aY mg base A.aR A.aN):aO P w K mg base aU 2 A.qH A.yw ["self", "plate", "ring", "beat", "dues"] (abF K A.aV A.bE):=by
 refine T.OZ.ok ada (λvs H Q E h=>?_) (λaH Ar outer s H vs Q E hr h=>?_)
 ·obtain⟨x,p,r,b,D,ps,ds,rfl,_⟩:=h
  rfl
 ·obtain⟨x,p,r,b,D,ps,ds,rfl,hd,d1,gK,q⟩:=h;refine⟨_,(aG (br (aZ (aei T au) (hr.mono (by decide)) rfl T.OY T.GL.kp T.OX .nil aL (aa (pv 4) ao)))),?_⟩
  walk_at "rdm";exact⟨D,ps,ds,rfl,hd,d1,gK,q⟩
theorem Ic(T:Tx K mg A)(au:aY mg base A.aR A.aN):aO P w K mg base aU 2 A.yI A.yJ ["inward", "ring", "dues"] (abL K A.aV A.bE):=by
 refine T.uE.ok adh (λvs H Q E h=>?_) (λaH Ar outer s H vs Q E hr h=>?_)
 ·obtain⟨i,r,D,ps,ds,rfl,_⟩:=h
  rfl
 ·obtain⟨i,r,D,ps,ds,rfl,hd,gK,hc,q⟩:=h;have fc:=hd.n;refine⟨_,(aE (bY (i9 (pv 0)) (aG (br (gX (N:=["due", "ring"]) (nt:=1) (fv:=[1]) (cS.of rfl rfl (by rfl) (by rfl) (by repeat (first | exact trivial | refine⟨rfl,?_⟩)) (by rfl) (by rfl) (by rfl) (by decide) (by decide +kernel)) rfl (e7 (pv 2)) (λC s H fp=>(bC (i:=0) (show List.Nodup (["due", "ring"]:List Str) by decide +kernel) rfl (Or.inl rfl))) (λC s H fp=>(nZ (bG pN (aZ (HW T au) (hr.mono (by decide)) rfl T.AG T.uC.kp T.AF .nil aL (aa (pv 0) ao)) (pv 1) (bD _)))) (λC s H fp=>(pv 0))))) cj)
   (aG (br (gX (N:=["due", "ring"]) (nt:=1) (fv:=[1]) (cS.of rfl rfl (by rfl) (by rfl) (by repeat (first | exact trivial | refine⟨rfl,?_⟩)) (by rfl) (by rfl) (by rfl) (by decide) (by decide +kernel)) rfl (e7 (pv 2)) (λC s H fp=>(bC (i:=0) (show List.Nodup (["due", "ring"]:List Str) by decide +kernel) rfl (Or.inl rfl))) (λC s H fp=>(nZ (bG vN (aZ (HW T au) (hr.mono (by decide)) rfl T.AG T.uC.kp T.AF .nil aL (aa (pv 0) ao)) (pv 1) (bD _)))) (λC s H fp=>(pv 0)))))),?_⟩
  walk_at "rdm";refine dH (λhi=>?_) λhi=>?_
  ·subst hi;refine jQ D (ps.map V.ref) (λD2 k ys aj H2=>∃(u:Option V) (as:List Addr),ys=as.map V.ref/\aj = [u,some (.int r)]/\H2 D2=some (.lst ys)/\ah H H2/\H D2=none/\jU K A.aV A.bE H as (dJ true r (ds.take k))) (λQ q=>⟨_,rfl,q⟩) (aA.of hd.l) ?_ ?_ ?_ ?_
   ·intro D2 hD;exact⟨none,[],rfl,rfl,aB,ah.put hD,hD,jU.nil⟩
   ·rintro D2 k ys aj H2 ⟨u,as,rfl,rfl,e1,e2,e3,e4⟩;have:=xy true r (ds.take k);rw[List.length_take] at this;exact⟨e1,gW (by rw[List.length_map,e4.n];lia),aA.of (e2 _ _ hd.l)⟩
   ·rintro D2 k x ys aj H2 N hN hx ⟨u,as,rfl,rfl,e1,e2,e3,e4⟩;obtain⟨dp,gq,rfl⟩:=eT hx;have hk:k<ds.length:=by rw[← fc];exact eU gq
    have fL:=hd.t k dp ds[k] gq (List.getElem?_eq_getElem hk);refine(hd.same e2).el k dp ds[k] gq (List.getElem?_eq_getElem hk) λdx ap l ts m b' bu hD=>?_;have st:=NO (i:=true) (r:=r) hk;walk_at "rdm";refine⟨dp,ds[k],dx,ap,l,ts,m,b',bu,rfl,hD,hc _ (List.getElem_mem hk),_,rfl,dH (λh1=>?_) λh1=>?_⟩
    ·rw[if_pos (show lD true r ds[k] = true from decide_eq_true h1)] at st;refine⟨e1,hN _ _ _ ⟨_,as++[dp],by rw[List.map_append];rfl,rfl,aB,ah.put2 e2 e3,e3,?_⟩⟩
     rw[st];exact e4.snoc fL
    ·rw[if_neg (λz:lD true r ds[k] = true=>h1 (of_decide_eq_true z))] at st;refine hN _ _ _ ⟨_,as,rfl,rfl,e1,e2,e3,?_⟩;rw[st];exact e4
   ·rintro D2 ys aj H2 ⟨u,as,rfl,rfl,e1,e2,e3,e4⟩;rw[List.length_map,fc,List.take_length] at e4;exact q D2 as H2 e2 e3 ⟨e1,e4.n,λi a d h1 h2=>let ⟨dx,ap,l,ts,m,b,bu,hD⟩:=e4.t i a d h1 h2;⟨dx,ap,l,ts,m,b,bu,hD.same e2⟩⟩
  replace hi:i=false:=by simpa using hi
  ·subst hi;refine jQ D (ps.map V.ref) (λD2 k ys aj H2=>∃(u:Option V) (as:List Addr),ys=as.map V.ref/\aj = [u,some (.int r)]/\H2 D2=some (.lst ys)/\ah H H2/\H D2=none/\jU K A.aV A.bE H as (dJ false r (ds.take k))) (λQ q=>⟨_,rfl,q⟩) (aA.of hd.l) ?_ ?_ ?_ ?_
   ·intro D2 hD;exact⟨none,[],rfl,rfl,aB,ah.put hD,hD,jU.nil⟩
   ·rintro D2 k ys aj H2 ⟨u,as,rfl,rfl,e1,e2,e3,e4⟩;have:=xy false r (ds.take k);rw[List.length_take] at this;exact⟨e1,gW (by rw[List.length_map,e4.n];lia),aA.of (e2 _ _ hd.l)⟩
   ·rintro D2 k x ys aj H2 N hN hx ⟨u,as,rfl,rfl,e1,e2,e3,e4⟩;obtain⟨dp,gq,rfl⟩:=eT hx;have hk:k<ds.length:=by rw[← fc];exact eU gq
    have fL:=hd.t k dp ds[k] gq (List.getElem?_eq_getElem hk);refine(hd.same e2).el k dp ds[k] gq (List.getElem?_eq_getElem hk) λdx ap l ts m b' bu hD=>?_;have st:=NO (i:=false) (r:=r) hk;walk_at "rdm";refine⟨dp,ds[k],dx,ap,l,ts,m,b',bu,rfl,hD,hc _ (List.getElem_mem hk),_,rfl,dH (λh1=>?_) λh1=>?_⟩
    ·rw[if_pos (show lD false r ds[k] = true from decide_eq_true h1)] at st;refine⟨e1,hN _ _ _ ⟨_,as++[dp],by rw[List.map_append];rfl,rfl,aB,ah.put2 e2 e3,e3,?_⟩⟩
     rw[st];exact e4.snoc fL
    ·rw[if_neg (λz:lD false r ds[k] = true=>h1 (of_decide_eq_true z))] at st;refine hN _ _ _ ⟨_,as,rfl,rfl,e1,e2,e3,?_⟩;rw[st];exact e4
   ·rintro D2 ys aj H2 ⟨u,as,rfl,rfl,e1,e2,e3,e4⟩;rw[List.length_map,fc,List.take_length] at e4;exact q D2 as H2 e2 e3 ⟨e1,e4.n,λi a d h1 h2=>let ⟨dx,ap,l,ts,m,b,bu,hD⟩:=e4.t i a d h1 h2;⟨dx,ap,l,ts,m,b,bu,hD.same e2⟩⟩
theorem Sy(T:Tx K mg A)(au:aY mg base A.aR A.aN):aO P w K mg base aU 2 A.tV A.yM ["self", "calm"] (abS K [A.bI,A.bM]):=by
 refine T.Pe.ok adi (λvs H Q E h=>?_) (λaH Ar outer s H vs Q E hr h=>?_)
 ·obtain⟨C,x,dx,c,rfl,_⟩:=h
  rfl
 ·obtain⟨C,x,dx,c,rfl,hC,hK,hx,q⟩:=h;refine⟨_,(aE (cB (pv 0) (pv 1) rfl)
   (aG (dG (MF (pv 0) T.Sk (Sl T au) (hr.mono (by decide)) T.GV .nil aL)))),?_⟩
  wp_walk using hK.cl,hK.n1,hK.n2,hK.n3,hx;refine⟨hC,C,x,dx,c,_,rfl,hC,hK,aB,.inl rfl,λB H' nB sb hl=>q B H' ?_ (λb o e hb=>sb b o ((az hb).trans e) hb) hl⟩;by_cases hb:B=x
  ·rw[hb,aB] at nB;cases nB
  ·rwa [az hb] at nB
theorem aeJ(T:Tx K mg A)(au:aY mg base A.aR A.aN):aO P w K mg base aU 2 A.qL A.yP ["self", "dues"] (ach K A.aV A.bE [A.bI,A.bM]):=by
 refine T.Pq.ok adm (λvs H Q E h=>?_) (λaH Ar outer s H vs Q E hr h=>?_)
 ·obtain⟨C,x,dx,B,st,D,ps,ds,rfl,_⟩:=h
  rfl
 ·obtain⟨C,x,dx,B,st,D,ps,ds,rfl,hC,hK,hx,hd,gK,q⟩:=h;have fc:=hd.n;have hu:=ji hr;have jZ:=hx.o;unfold iG at jZ;refine⟨_,(aE (bY (j7 (i9 (bw (pv 0) rfl))) (aG (br (pv 1))) cj)
   (aE (ou (bY (j7 (i9 (cQ (MP rfl) rfl T.uL boot_any (aa (gX (N:=["due", "self"]) (nt:=1) (fv:=[0]) (cS.of rfl rfl (by rfl) (by rfl) (by repeat (first | exact trivial | refine⟨rfl,?_⟩)) (by rfl) (by rfl) (by rfl) (by decide) (by decide +kernel)) rfl (e7 (pv 1)) (λC s H fp=>(bC (i:=0) (show List.Nodup (["due", "self"]:List Str) by decide +kernel) rfl (Or.inl rfl))) (λC s H fp=>jO) (λC s H fp=>(K0 (Dw hu (gm (K:=K) rfl (pv 0) rfl) (gm (K:=K) rfl (pv 1) rfl))))) ao)))) (aG (cB (pv 0) (aZ (aek T au) (hr.mono (by decide)) rfl T.Pd T.GS.kp T.Pc .nil aL (aa (pv 1) ao)) rfl)) cj))
   (aG (br (gX (N:=["due", "self"]) (nt:=1) (fv:=[0]) (cS.of rfl rfl (by rfl) (by rfl) (by repeat (first | exact trivial | refine⟨rfl,?_⟩)) (by rfl) (by rfl) (by rfl) (by decide) (by decide +kernel)) rfl (e7 (pv 1)) (λC s H fp=>(bC (i:=0) (show List.Nodup (["due", "self"]:List Str) by decide +kernel) rfl (Or.inl rfl))) (λC s H fp=>(nZ (WB (Dw hu (gm (K:=K) rfl (pv 0) rfl) (gm (K:=K) rfl (pv 1) rfl))))) (λC s H fp=>(pv 0))))))),?_⟩
  wp_walk using T,hK.cl,hK.n1,hK.n2,hK.n3,jZ;refine dH (λh0=>?_) λh0=>?_
  ·refine q D ps B H (.inl rfl) (λ_ _ e _=>e) ?_ ?_
   ·unfold eG;rw[if_neg (by rw[h0];simp)];exact hx
   ·unfold eW;rw[if_neg (by rw[h0];simp)];exact hd
  ·have hc:st.c=true:=by simpa using h0
   refine⟨λσ H1=>∃B',σ = [some (.ref x),some (.ref D)]/\(B' = B\/H B' = none)/\SameBut x H H1/\dO C H1 x (eG st ds) dx B'/\eV K A.aV A.bE H1 D ps ds,?_,?_⟩
   ·refine jQ D (ps.map V.ref) (λD2 i ys aj H2=>∃(u:Option V),ys=((ds.take i).map λd=>decide (d.n∈st.b)).map V.bl/\aj = [u,some (.ref x)]/\H2 D2=some (.lst ys)/\ah H H2/\H D2=none) (λQ q=>⟨_,rfl,q⟩) (aA.of hd.l) ?_ ?_ ?_ ?_
    ·intro D2 hD;exact⟨none,rfl,rfl,aB,ah.put hD,hD⟩
    ·rintro D2 i ys aj H2 ⟨u,rfl,rfl,e1,e2,e3⟩;exact⟨e1,gW (by simp only[List.length_map,List.length_take];lia),aA.of (e2 _ _ hd.l)⟩
    ·rintro D2 i y ys aj H2 N hN hy ⟨u,rfl,rfl,e1,e2,e3⟩;obtain⟨dp,gq,rfl⟩:=eT hy;have hi:i<ds.length:=by rw[← fc];exact eU gq
     refine(hd.same e2).el i dp ds[i] gq (List.getElem?_eq_getElem hi) λdm ap l ts m b' bu hD=>?_;have dM:=hD.o;have uO:=e2 _ _ jZ;obtain⟨kvs,k1,k2,k3⟩:=(hx.same e2).d;unfold iC at dM;wp_walk using T,hK.cl,hK.n1,hK.n2,hK.n3,dM,uO;refine⟨_,e8.k (k:=cD ds[i].n) k1,e1,hN _ _ _ ⟨_,?_,rfl,aB,ah.put2 e2 e3,e3⟩⟩;rw[take_succ_get (List.getElem?_eq_getElem hi),List.map_append,List.map_append,k3];rfl
    ·rintro D2 ys aj H2 ⟨u,rfl,rfl,e1,e2,e3⟩;rw[List.length_map,fc,List.take_length] at e1;have uO:=e2 _ _ jZ;have ea:(ds.map λd=>decide (d.n∈st.b)).any id=ds.any λd=>decide (d.n∈st.b):=by rw[List.any_map];rfl
     refine⟨D2,rfl,_,aA.of e1,dH (λh1=>?_) λh1=>?_⟩
     ·rw[ea] at h1;refine⟨D,ps,ds,rfl,hd.same e2,gK,λBn kvs H3 s3 nB hB hl hv=>?_⟩;have Sz:=s3 _ _ uO;have sb:SameBut x H (upd H3 x (.ins C dx [("calm",V.bl st.c),("inward",V.bl st.i),("batch",V.ref Bn)])):=(SameBut.of (e2.trans s3)).put;refine⟨_,_,_,Sz,hK.cl,hK.n3,by simp,Bn,rfl,.inr (e2.free nB),sb,⟨?_,kvs,?_,hl,?_⟩,hd.kt (hx.oG sb)⟩
      ·rw[aB];unfold eG;rw[if_pos hc,if_neg (by rw[h1];simp)]
       rfl
      ·rw[az (λz=>by rw[z,Sz] at hB;cases hB)];exact hB
      ·unfold eG;rw[if_pos hc,if_neg (by rw[h1];simp)]
       exact hv
     ·rw[ea] at h1;refine⟨B,rfl,.inl rfl,SameBut.of e2,?_,hd.same e2⟩;unfold eG;rw[if_pos hc,if_pos (by simpa using h1)]
      exact hx.same e2
   ·rintro σ H1 ⟨B',rfl,bB,sb,dN,cK⟩;have CK:(eG st ds).c=true:=by
     unfold eG;rw[if_pos hc];split
     ·exact hc
     ·exact hc
    have kU:=dN.o;unfold iG at kU;walk_at "rdm";have ql:=q;unfold eW at ql;rw[if_pos hc] at ql;generalize eG st ds=Ie at *
    refine jQ D (ps.map V.ref) (λD2 i ys aj H2=>∃(u:Option V) (as:List Addr),ys=as.map V.ref/\aj = [u,some (.ref x)]/\H2 D2=some (.lst ys)/\ah H1 H2/\H1 D2=none/\jU K A.aV A.bE H1 as ((ds.take i).filter λd=>decide (d.n∈Ie.b))) (λQ q=>⟨_,rfl,q⟩) (aA.of cK.l) ?_ ?_ ?_ ?_
    ·intro D2 hD;exact⟨none,[],rfl,rfl,aB,ah.put hD,hD,jU.nil⟩
    ·rintro D2 i ys aj H2 ⟨u,as,rfl,rfl,e1,e2,e3,e4⟩;have:=List.length_filter_le (λd:Dr=>decide (d.n∈Ie.b)) (ds.take i);rw[List.length_take] at this;exact⟨e1,gW (by rw[List.length_map,e4.n];lia),aA.of (e2 _ _ cK.l)⟩
    ·rintro D2 i y ys aj H2 N hN hy ⟨u,as,rfl,rfl,e1,e2,e3,e4⟩;obtain⟨dp,gq,rfl⟩:=eT hy;have hi:i<ds.length:=by rw[← fc];exact eU gq
     have fL:=cK.t i dp ds[i] gq (List.getElem?_eq_getElem hi);refine(cK.same e2).el i dp ds[i] gq (List.getElem?_eq_getElem hi) λdm ap l ts m b' bu hD=>?_;have dM:=hD.o;have uO:=e2 _ _ kU;obtain⟨kvs,k1,k2,k3⟩:=(dN.same e2).d;have et:=Ez (p:=λd:Dr=>decide (d.n∈Ie.b)) (List.getElem?_eq_getElem hi);unfold iC at dM;wp_walk using T,hK.cl,hK.n1,hK.n2,hK.n3,dM,uO;refine⟨_,e8.k (k:=cD ds[i].n) k1,dH (λh1=>?_) λh1=>?_⟩
     ·rw[k3] at h1;refine⟨e1,hN _ _ _ ⟨_,as++[dp],by rw[List.map_append];rfl,rfl,aB,ah.put2 e2 e3,e3,?_⟩⟩
      rw[et,if_pos h1];exact e4.snoc fL
     ·rw[k3] at h1;refine hN _ _ _ ⟨_,as,rfl,rfl,e1,e2,e3,?_⟩;rw[et,if_neg h1,List.append_nil];exact e4
    ·rintro D2 ys aj H2 ⟨u,as,rfl,rfl,e1,e2,e3,e4⟩;rw[List.length_map,fc,List.take_length] at e4;exact ql D2 as B' H2 bB (sb.step e2) (dN.same e2) ⟨e1,e4.n,λi a d h1 h2=>let ⟨dx,ap,l,ts,m,b,bu,hD⟩:=e4.t i a d h1 h2;⟨dx,ap,l,ts,m,b,bu,hD.same e2⟩⟩
theorem aeK(T:Tx K mg A)(au:aY mg base A.aR A.aN):aO P w K mg base aU 2 A.yW A.yX ["swing", "rings"] (ZC K):=by
 refine T.GY.ok OA (λvs H Q E h=>?_) (λaH Ar outer s H vs Q E hr h=>?_)
 ·obtain⟨a,sw,n,rfl,_⟩:=h
  rfl
 ·obtain⟨a,sw,n,rfl,hS,ok,hn,q⟩:=h;refine⟨_,(aE (bY (bG kq (cQ gT rfl T.fD boot_len (aa (pv 0) ao)) (pv 1) (bD _)) eL cj)
   (aE (bY (bG kq (bS cR (pv 0) aC (λ_ _=>rfl)) aC (bD _)) eL cj)
   (aE (d_ PassesOwn.never rfl (rL rfl T.iI (aa aC (aa (pv 1) ao))) (bC (i:=2) OA.nd rfl (Or.inl rfl))
   (aE (bY (PW.pt (fY (bG fZ (bS cR (pv 0) (pv 2) (λ_ _=>rfl)) aC (bD _)) (gR (bG k8 (bS cR (pv 0) (pv 2) (λ_ _=>rfl)) (dQ (v:=.int 1000000000) rfl T.HR ⟨_,rfl⟩) (bD _))))) eL cj)
   (aG (bY (bG fZ (bS cR (pv 0) (pv 2) (λ_ _=>rfl)) (bS cR (pv 0) (aX jd (pv 2) aC) (λ_ _=>rfl)) (bD _)) eL cj))))
   (aG (dG (aZ (aen T au) (hr.mono (by decide)) rfl T.PX T.GZ.kp T.PV .nil aL (aa (pv 0) ao))))))),?_⟩
  walk_at "rdm";have hl:=ok.len;have h2:=ok.two;refine⟨_,.inl hS,by simpa using hl,_,hS,_,iS (by lia) (by lia),rfl,by rw[show (0:Int).toNat=0 from rfl,ok.z],?_⟩
  refine wF 1 n (λi σ H'=>∃r,σ = [some (.ref a),some (.int n),r]/\H' = H) (λQ q=>?_) (by lia) (by lia) (by lia) (by lia) ⟨none,rfl,rfl⟩ ?_ ?_
  ·walk_at "rdm";exact q
  ·rintro i σ H' N hN hi ⟨r,rfl,rfl⟩;walk_at "rdm";have e1:((1:Int)+(i:Int)).toNat=1+i:=by lia
   have e2:((1:Int)+(i:Int) - 1).toNat=1+i - 1:=by lia
   have g:=ok.pos (1+i) (by lia) (by lia)
   have g2:=ok.up (1+i) (by lia) (by lia)
   refine⟨_,hS,_,iS (by lia) (by lia),?_⟩
   walk_at "rdm";rw[e1];refine⟨by lia,_,hS,_,iS (by lia) (by lia),?_⟩
   walk_at "rdm";rw[e1];refine⟨by lia,_,hS,_,iS (by lia) (by lia),_,hS,_,iS (by lia) (by lia),?_⟩
   walk_at "rdm";rw[e1,e2];exact⟨by lia,hN _ _ ⟨_,rfl,rfl⟩⟩
  ·rintro σ H' ⟨r,rfl,rfl⟩;walk_at "rdm";exact⟨a,sw,n,rfl,hS,ok,hn,q⟩
theorem aeL(T:Tx K mg A)(au:aY mg base A.aR A.aN):aO P w K mg base aU 2 A.ud A.zu ["self", "ring", "place"] (ZQ K [A.a_]):=by
 refine T.Qh.ok adu (λvs H Q E h=>?_) (λaH Ar outer s H vs Q E hr h=>?_)
 ·obtain⟨C,p,P,fp,r,c,rfl,_⟩:=h
  rfl
 ·obtain⟨C,p,P,fp,r,c,rfl,hC,hP,h0,h1,h2,h3,h4,h5,h6,h7,q⟩:=h;obtain⟨dx,a1,a2,a3,a4,ts,fs,uP,h⟩:=id hP;refine⟨_,(aG (br (aX lW (aX cJ (aX kh (pv 2) (l_ (pv 0) T.Sj (So T au) (hr.mono (by decide)) T.G7 .nil aL (aa (pv 1) ao))) (aX kh (pv 1) (bw (pv 0) rfl))) (bw (pv 0) rfl)))),?_⟩
  wp_walk using h.o,h.f1,h.f2,h.f3,h.f4,h.f5,h.f6,h.m1,h.m2,h.m3,h.m4,h.m5,h.m6,h.m7,h.m8,h.m9,h.gj,h.gG,h.cp.cl,h.cp.n1,h.cp.n2,h.cp.n3,h.cp.n4,h.cp.n5,h.cp.n6;refine⟨hC,C,p,P,fp,r,rfl,hP,h0,h1,h3,h4,?_⟩;wp_walk using h.o,h.f1,h.f2,h.f3,h.f4,h.f5,h.f6,h.m1,h.m2,h.m3,h.m4,h.m5,h.m6,h.m7,h.m8,h.m9,h.gj,h.gG,h.cp.cl,h.cp.n1,h.cp.n2,h.cp.n3,h.cp.n4,h.cp.n5,h.cp.n6;exact⟨.inl ⟨by lia,by lia⟩,.inl ⟨by lia,by lia⟩,h7,q⟩
theorem aeM(T:Tx K mg A)(au:aY mg base A.aR A.aN):aO P w K mg base aU 2 A.uh A.zz ["self", "ring", "place"] (ZT K [A.a_]):=by
 refine T.Qu.ok ady (λvs H Q E h=>?_) (λaH Ar outer s H vs Q E hr h=>?_)
 ·obtain⟨C,p,P,fp,r,c,rfl,_⟩:=h
  rfl
 ·obtain⟨C,p,P,fp,r,c,rfl,hC,hP,h0,h1,h2,h3,q⟩:=h;obtain⟨dx,a1,a2,a3,a4,ts,fs,uP,h⟩:=id hP;have hu:=ji hr;refine⟨_,(aE (bY (j7 (i9 (l_ (pv 0) T.ad7 (aeu T au) (hr.mono (by decide)) T.Qo .nil aL (aa (pv 1) (aa (pv 2) ao))))) eL cj)
   (aG (br (YJ hu (bw (pv 0) rfl) (fH (aa (pv 1) (aa (pv 2) ao))) ⟨rfl,rfl,rfl,rfl⟩)))),?_⟩
  wp_walk using h.o,h.f1,h.f2,h.f3,h.f4,h.f5,h.f6,h.m1,h.m2,h.m3,h.m4,h.m5,h.m6,h.m7,h.m8,h.m9,h.gj,h.gG,h.cp.cl,h.cp.n1,h.cp.n2,h.cp.n3,h.cp.n4,h.cp.n5,h.cp.n6;refine⟨hC,C,p,P,fp,r,c,rfl,hP,?_⟩;rw[decide_eq_true ⟨h0,h1,h2,h3⟩];wp_walk using h.o,h.f1,h.f2,h.f3,h.f4,h.f5,h.f6,h.m1,h.m2,h.m3,h.m4,h.m5,h.m6,h.m7,h.m8,h.m9,h.gj,h.gG,h.cp.cl,h.cp.n1,h.cp.n2,h.cp.n3,h.cp.n4,h.cp.n5,h.cp.n6;refine⟨by simp,.inr ⟨_,.inl h.cn⟩,λt nt=>⟨_,e8.t (k:=kT (r,c)) (ah.put nt _ _ h.cn) aB,q _ (ah.put nt)⟩⟩
theorem aeN(T:Tx K mg A)(au:aY mg base A.aR A.aN):aO P w K mg base aU 2 A.zA A.zB ["plate", "ask"] (abh K [A.a_] A.aV):=by
 refine T.G8.ok adz (λvs H Q E h=>?_) (λaH Ar outer s H vs Q E hr h=>?_)
 ·obtain⟨C,p,ap,P,fp,q',m,b,dx,rfl,_⟩:=h
  rfl
 ·obtain⟨C,p,ap,P,fp,q',m,b,dx,rfl,hC,hP,ha,hf,hn,q⟩:=h;refine⟨_,(aG (br (gX (N:=["number", "plate"]) (nt:=1) (fv:=[0]) (cS.of rfl rfl (by rfl) (by rfl) (by repeat (first | exact trivial | refine⟨rfl,?_⟩)) (by rfl) (by rfl) (by rfl) (by decide) (by decide +kernel)) rfl (rL rfl T.iI (aa (bw (pv 1) rfl) (aa (aX cJ (bw (pv 1) rfl) (bw (pv 1) rfl)) ao))) (λC s H fp=>(bC (i:=0) (show List.Nodup (["number", "plate"]:List Str) by decide +kernel) rfl (Or.inl rfl))) (λC s H fp=>jO) (λC s H fp=>(l_ (pv 1) T.ad8 (aev T au) (hr.mono (by decide)) T.Qs .nil aL (aa (pv 0) ao)))))),?_⟩
  wp_walk using T,ha.o;obtain⟨f0,m0,m1,fit⟩:=hf;refine Zw q'.first (q'.first+q'.many) (λD i ys aj H2=>∃(u:Option V) (ts:List Addr),aj = [u,some (.ref p)]/\ys=ts.map V.ref/\Zn H2 D ts ((P.nc.drop q'.first.toNat).take i)/\ah H H2/\H D=none/\i<=16) (λQ q=>?_) (by lia) (by lia) (by lia) (by lia) ?_ ?_ ?_ ?_
  ·wp_walk using T,ha.o
   try exact q
  ·intro D hD;exact⟨none,[],rfl,rfl,by rw[List.take_zero];exact Zn.start,ah.put hD,hD,by lia⟩
  ·rintro D i ys aj H2 ⟨u,ts,rfl,rfl,g2,g3,g4,g5⟩;exact⟨g2.l,gW (by rw[List.length_map,g2.n,List.length_take];lia)⟩
  ·rintro D i ys aj H2 N hN hi ⟨u,ts,rfl,rfl,g2,g3,g4,g5⟩;walk_at "rdm";obtain⟨dxp,a1,a2,a3,a4,qx,fs,uP,hA⟩:=hP.same g3;refine⟨C,dxp,fs,hA.o,hC,hA.m9,⟨C,p,P,fp,_,rfl,hP.same g3,by lia,by lia,λt q0 eq ht=>⟨g2.l,hN _ _ _ ⟨_,ts++[t],rfl,by rw[List.map_append];rfl,?_,ah.put2 g3 g4,g4,by lia⟩⟩⟩⟩
   rw[abg f0 eq];exact g2.push ht
  ·rintro D ys aj H2 ⟨u,ts,rfl,rfl,g2,g3,g4,g5⟩;rw[show (q'.first+q'.many - q'.first).toNat=q'.many.toNat by lia] at g2
   exact q _ _ _ g3 g4 g2
theorem aeO(T:Tx K mg A)(au:aY mg base A.aR A.aN):aO P w K mg base aU 2 A.zK A.zL ["asks", "number"] (aa3 K A.aV):=by
 refine T.Hh.ok OC (λvs H Q E h=>?_) (λaH Ar outer s H vs Q E hr h=>?_)
 ·obtain⟨la,ps,qs,k,q',rfl,_⟩:=h
  rfl
 ·obtain⟨la,ps,qs,k,q',rfl,ha,hk,hn,bl,q⟩:=h;refine⟨_,(aE (bz (i:=2) OC.nd rfl (Or.inr rfl) (bS cR (pv 0) (pv 1) (λ_ _=>rfl)))
   (aG (br (C7 LQ rfl T.qQ boot_tuple (aa (gX (N:=["other", "ask", "asks"]) (nt:=1) (fv:=[2,0]) (cS.of rfl rfl (by rfl) (by rfl) (by repeat (first | exact trivial | refine⟨rfl,?_⟩)) (by rfl) (by rfl) (by rfl) (by decide) (by decide +kernel)) rfl (rK rfl T.iI (aa (pv 1) ao)) (λC s H fp=>(bC (i:=0) (show List.Nodup (["other", "ask", "asks"]:List Str) by decide +kernel) rfl (Or.inl rfl))) (λC s H fp=>(nZ (PW.pt (fY (bG (aak (K:=K) rfl) (pv 0) (gm (K:=K) rfl (pv 1) rfl) rfl) (gR (i9 (aZ (aeh T au) (hr.mono (by decide)) rfl T.OS T.GI.kp T.OR .nil aL (aa (pv 1) (aa (bS (Mz (K:=K) rfl) (pv 2) (pv 0) (λ_ _=>rfl)) ao))))))))) (λC s H fp=>(pv 0))) ao))))),?_⟩
  walk_at "rdt";obtain⟨p,m,b,dx,e1,a1⟩:=ha.at hk;have H_:=(List.getElem?_eq_some_iff.mp hk).1;refine⟨_,aA.of ha.l,_,gC e1,?_⟩;obtain⟨pf,epf,hpf⟩:∃pf:Nat->Bool,wY qs k=((List.range k).filter pf).map (λ(j:Nat)=>(j:Int))/\∀(j:Nat) (q0:Ak),qs[j]? = some q0->pf j=(decide ((j:Int)∈q'.behind) || qe q' q0):=⟨_,rfl,λj q0 e=>by rw[hk,e]⟩
  have lfl:∀i,((List.range i).filter pf).length<=i:=λi=>by have:=List.length_filter_le pf (List.range i);simpa using this
  refine DW (k:Int) (λD i ys aj H2=>∃(u:Option V),ys=((List.range i).filter pf).map (λ(j:Nat)=>V.int (j:Int))/\aj = [u,some (.ref p),some (.ref la)]/\H2=upd H D (.lst ys)/\H D=none/\i<=k) (λQ q=>?_) (by lia) (by lia) ?_ ?_ ?_ ?_
  ·walk_at "rdm";exact q
  ·intro D hD;exact⟨none,rfl,rfl,rfl,hD,Nat.zero_le _⟩
  ·rintro D i ys aj H2 ⟨u,rfl,rfl,rfl,g3,g4⟩;exact⟨aB,gW (by rw[List.length_map];have:=lfl i;lia)⟩
  ·rintro D i ys aj H2 N hN hi ⟨u,rfl,rfl,rfl,g3,g4⟩;have kF:i<k:=by simpa using hi
   have SA:i<qs.length:=by lia
   have s1:=ah.put (o:=HO.lst (((List.range i).filter pf).map (λ(j:Nat)=>V.int (j:Int)))) g3;have kW:=ha.same s1;have Ig:=a1.same s1;obtain⟨p0,m0,b0,Sq,e3,a2⟩:=kW.at (List.getElem?_eq_getElem SA);have Ih:=hpf i _ (List.getElem?_eq_getElem SA);have yes:pf i=true->((List.range i).filter pf).map (λ(j:Nat)=>V.int (j:Int))++[V.int (i:Int)] = ((List.range (i+1)).filter pf).map (λ(j:Nat)=>V.int (j:Int)):=λz=>by
    rw[List.range_succ,List.filter_append,List.map_append,show List.filter pf [i] = [i] by simp[z]];rfl
   have no:pf i=false->((List.range i).filter pf).map (λ(j:Nat)=>V.int (j:Int))=((List.range (i+1)).filter pf).map (λ(j:Nat)=>V.int (j:Int)):=λz=>by
    rw[List.range_succ,List.filter_append,show List.filter pf [i] = [] by simp[z],List.append_nil]
   walk_at "rdm";refine⟨_,_,_,Ig.o,T.oX,T.uH,_,rfl,_,rfl,_,.inr (bq.of Ig.bh),rfl,aaj _,?_⟩;rw[MR];refine dH (λh1=>?_) (λh1=>⟨_,aA.of kW.l,_,gC e3,_,_,_,_,_,_,_,_,_,_,rfl,Ig,a2,_,rfl,dH (λh2=>⟨aB,?_⟩) (λh2=>?_)⟩)
   ·have z:pf i=true:=by rw[Ih,h1];rfl
    rw[yes z];exact hN _ _ _ ⟨_,rfl,rfl,rfl,g3,by lia⟩
   ·have z:pf i=true:=by rw[Ih,h2,Bool.or_true]
    rw[Wr,yes z];exact hN _ _ _ ⟨_,rfl,rfl,rfl,g3,by lia⟩
   ·have z:pf i=false:=by
     rw[Ih];cases h3:qe q' qs[i] with
     | true=>exact absurd h3 h2
     | false=>simpa using h1
    rw[no z];exact hN _ _ _ ⟨_,rfl,rfl,rfl,g3,by lia⟩
  ·rintro D ys aj H2 ⟨u,rfl,rfl,rfl,g3,g4⟩;simp only[Int.toNat_natCast] at *
   walk_at "rdm";have s1:=ah.put (o:=HO.lst (((List.range k).filter pf).map (λ(j:Nat)=>V.int (j:Int)))) g3;refine⟨_,.inl ⟨aA.of aB,λl hl=>q l _ (s1.trans (ah.put hl)) (s1.free hl) ?_⟩⟩;rw[aB,epf,List.map_map]
   rfl
theorem aeP(T:Tx K mg A)(au:aY mg base A.aR A.aN):aO P w K mg base aU 2 A.zU A.zW ["self"] (acr K A.bA A.aV A.bE):=by
 refine T.QU.ok OE (λvs H Q E h=>?_) (λaH Ar outer s H vs Q E hr h=>?_)
 ·obtain⟨x,dx,kp,ks,kk,p,r,b,Dx,ls,rfl,_⟩:=h
  rfl
 ·obtain⟨x,dx,kp,ks,kk,p,r,b,Dx,ls,rfl,hc,l1,hk,q⟩:=h;have hn:=hc.n;have ho:=hc.o;unfold dB at ho;refine⟨_,(aE (dG (Lv (pv 0) T.lK T.QN (aey T au) (hr.mono (by decide)) T.QM .nil aL))
   (aE (N4 (DL (i:=1) OE.nd rfl (Or.inl rfl) (N:=["due", "self"]) (nt:=1) (fv:=[0]) (cS.of rfl rfl (by rfl) (by rfl) (by repeat (first | exact trivial | refine⟨rfl,?_⟩)) (by rfl) (by rfl) (by rfl) (by decide) (by decide +kernel)) rfl (NW (bw (pv 0) rfl)) (λC s H fp=>(bC (i:=0) (show List.Nodup (["due", "self"]:List Str) by decide +kernel) rfl (Or.inl rfl))) (λC s H fp=>(nZ (bG vN (gm (K:=K) rfl (gm (K:=K) rfl (pv 0) rfl) rfl) (gm (K:=K) rfl (pv 1) rfl) (bD _)))) (λC s H fp=>(pv 0))))
   (aG (br (gX (N:=["due", "self"]) (nt:=1) (fv:=[0]) (cS.of rfl rfl (by rfl) (by rfl) (by repeat (first | exact trivial | refine⟨rfl,?_⟩)) (by rfl) (by rfl) (by rfl) (by decide) (by decide +kernel)) rfl (e7 (pv 1)) (λC s H fp=>(bC (i:=0) (show List.Nodup (["due", "self"]:List Str) by decide +kernel) rfl (Or.inl rfl))) (λC s H fp=>(nZ (j7 (i9 (Lu (pv 1) T.lK T.QT (aez T au) (hr.mono (by decide)) T.QS .nil aL (aa (gm (K:=K) rfl (pv 0) rfl) ao)))))) (λC s H fp=>(pv 0))))))),?_⟩
  wp_walk using T,ho;refine⟨x,dx,kp,ks,kk,p,r,b,Dx,ls,rfl,hc,l1,λb2 H1 st s1 eE=>?_⟩;have jz:=eE.o;unfold dB at jz;refine N5 Dx (cE ls) (λob D i ys aj H2=>∃(u:Option V),ys=((ls.take i).filter λy=>decide (y.1.q.at_<=b2)).map (λy=>V.ref y.2)/\aj = [u,some (.ref x)]/\H2 D=some (.lst ys)/\H2 Dx=some (.bZ ob (.dK (cE ls)))/\bL x Dx H1 H2/\H1 D=none/\H2 x=H1 x) (λQ q=>?_) eE.d hc.nf ?_ ?_ ?_ ?_
  ·wp_walk using T,jz;exact q
  ·intro ob D nD;have n1:Dx≠D:=bW eE.d nD;have n2:x≠D:=bW eE.o nD;have n3:=eE.ne;exact⟨none,rfl,rfl,aB,by rw[az n1,aB],(bL.of (λ_ _ e=>e)).qy.put nD,nD,by rw[az n2,az n3]⟩
  ·rintro ob D i ys aj H2 ⟨u,rfl,rfl,e1,e2,e3,e4,e5⟩;have:=List.length_filter_le (λy:Dr×Addr=>decide (y.1.q.at_<=b2)) (ls.take i);rw[List.length_take] at this;exact⟨e1,gW (by rw[List.length_map];lia),e2⟩
  ·rintro ob D i y ys aj H2 N hN hy ⟨u,rfl,rfl,e1,e2,e3,e4,e5⟩;unfold cE at hy;obtain⟨z,hz,rfl⟩:=eT hy;have hi:i<ls.length:=eU hz;have o7:z=ls[i]:=by rw[List.getElem?_eq_getElem hi] at hz;exact(Option.some.inj hz).symm
   subst o7;obtain⟨dm,ap,l,ts,m,b',bu,hD⟩:=eE.qA e3 (eE.t _ (List.getElem_mem hi));have dM:=hD.o;have mU:=hD.a.o;have jF:=e5.trans jz;unfold iC at dM;unfold gk at mU;have n1:Dx≠D:=bW eE.d e4;have n2:x≠D:=bW eE.o e4;have et:=Ez (p:=λy:Dr×Addr=>decide (y.1.q.at_<=b2)) (List.getElem?_eq_getElem hi);wp_walk using T,dM,mU,jF;refine dH (λh1=>?_) λh1=>?_
   ·refine⟨e1,hN _ _ _ ⟨_,?_,rfl,aB,by rw[az n1];exact e2,e3.put e4,e4,by rw[az n2];exact e5⟩⟩
    rw[et,if_pos (by simpa using h1),List.map_append];rfl
   ·refine hN _ _ _ ⟨_,?_,rfl,e1,e2,e3,e4,e5⟩;rw[et,if_neg (by simpa using h1),List.append_nil]
  ·rintro ob D ys aj H2 ⟨u,rfl,rfl,e1,e2,e3,e4,e5⟩;have n1:Dx≠D:=bW eE.d e4;have n3:=eE.ne;rw[tF,List.take_length] at e1;have s2:bL x Dx H1 (upd H2 Dx (.dK (cE ls))):=e3.qy;have iZ:=eE.step s2 (.refl _) (by rw[az n3,e5];exact eE.o) aB
   have SD:upd H2 Dx (.dK (cE ls)) D=some (.lst ((ls.filter λy=>decide (y.1.q.at_<=b2)).map λy=>V.ref y.2)):=by rw[az (Ne.symm n1)];exact e1
   generalize upd H2 Dx (.dK (cE ls))=H3 at *
   walk_at "rdt";have ql:=q b2;unfold tG at ql;have SE:∀y∈ls.filter (λy=>decide (y.1.q.at_<=b2)),y∈ls:=λy hy=>(List.mem_filter.mp hy).1;have jT:=List.length_filter_le (λy:Dr×Addr=>decide (y.1.q.at_<=b2)) ls;generalize ls.filter (λy=>decide (y.1.q.at_<=b2))=jA at *
   refine jQ D (jA.map λy=>V.ref y.2) (λD2 i ys aj H4=>∃(u:Option V),ys=((jA.take i).filter λy => !((kk.getD y.1.n.toNat []).any (jX ls))).map (λy=>V.ref y.2)/\aj = [u,some (.ref x)]/\H4 D2=some (.lst ys)/\ah H3 H4/\H3 D2=none) (λQ q=>⟨_,rfl,q⟩) (aA.of SD) ?_ ?_ ?_ ?_
   ·intro D2 nD;exact⟨none,rfl,rfl,aB,ah.put nD,nD⟩
   ·rintro D2 i ys aj H4 ⟨u,rfl,rfl,g1,g2,g3⟩;have:=List.length_filter_le (λy:Dr×Addr => !((kk.getD y.1.n.toNat []).any (jX ls))) (jA.take i);rw[List.length_take] at this;exact⟨g1,gW (by rw[List.length_map];lia),aA.of (g2 _ _ SD)⟩
   ·rintro D2 i y ys aj H4 N hN hy ⟨u,rfl,rfl,g1,g2,g3⟩;obtain⟨z,hz,rfl⟩:=eT hy;have hi:i<jA.length:=eU hz;have o7:z=jA[i]:=by rw[List.getElem?_eq_getElem hi] at hz;exact(Option.some.inj hz).symm
    subst o7;have SG:=SE _ (List.getElem_mem hi);have o8:=iZ.same g2;obtain⟨dm,ap,l,ts,m,b',bu,hD⟩:=o8.t _ SG;obtain⟨k0,k1⟩:=o8.kn _ SG;have dM:=hD.o;have SH:=o8.o;unfold iC at dM;unfold dB at SH;have et:=Ez (p:=λy:Dr×Addr => !((kk.getD y.1.n.toNat []).any (jX ls))) (List.getElem?_eq_getElem hi);wp_walk using T,dM,SH;have H_:jA[i].1.n.toNat<kk.length:=by lia
    have SI:kk[jA[i].1.n.toNat]? = some (kk.getD jA[i].1.n.toNat []):=by rw[List.getD_eq_getElem?_getD,List.getElem?_eq_getElem H_];rfl
    have en:jA[i].1.n=((jA[i].1.n.toNat:Nat):Int):=by lia
    refine⟨x,dx,kp,ks,kk,p,r,b2,Dx,ls,jA[i].1.n.toNat,_,by rw[← en],o8,SI,hk _ (List.mem_of_getElem? SI),λH5 s5=>⟨_,rfl,dH (λh1=>?_) λh1=>?_⟩⟩
    ·refine⟨s5 _ _ g1,hN _ _ _ ⟨_,?_,rfl,aB,ah.put2 (g2.trans s5) g3,g3⟩⟩;rw[et,if_pos (by rw[h1];rfl),List.map_append];rfl
    ·refine hN _ _ _ ⟨_,?_,rfl,s5 _ _ g1,g2.trans s5,g3⟩;rw[et,if_neg (by simpa using h1),List.append_nil]
   ·rintro D2 ys aj H4 ⟨u,rfl,rfl,g1,g2,g3⟩;have o8:=iZ.same g2;rw[List.length_map,List.take_length] at g1;have s4:=(s1.trans s2).trans (bL.of g2);refine ql D2 H4 st s4 o8 (iZ.free (s1.trans s2) g3) ⟨by rw[g1,List.map_map];rfl,by simp,λi p' d' h1 h2=>?_⟩
    rw[List.getElem?_map] at h1 h2;cases e:(jA.filter λy => !((kk.getD y.1.n.toNat []).any (jX ls)))[i]? with
    | none=>rw[e] at h1;cases h1
    | some y =>
     rw[e] at h1 h2;cases h1;cases h2;exact o8.t y (SE y (List.mem_filter.mp (List.mem_of_getElem? e)).1)
theorem aeQ(T:Tx K mg A)(au:aY mg base A.aR A.aN):aO P w K mg base aU 2 A.z_ A.Aa ["asks", "picks"] (Oc K A.aV):=by
 refine T.Ho.ok tN (λvs H Q E h=>?_) (λaH Ar outer s H vs Q E hr h=>?_)
 ·obtain⟨la,ps,qs,pi,ns,rfl,_⟩:=h
  rfl
 ·obtain⟨la,ps,qs,pi,ns,rfl,ha,q1,hq,hp,n1,hn,q⟩:=h;have hu:=ji hr;have an:=ha.n;refine⟨_,(aE (bz (i:=2) tN.nd rfl (Or.inl rfl) (aX vY (dR (aa rG ao)) (cQ gT rfl T.fD boot_len (aa (pv 0) ao))))
   (aE (bz (i:=3) tN.nd rfl (Or.inr rfl) rX)
   (aE (d_ PassesOwn.never rfl (e7 (pv 1)) (bC (i:=4) tN.nd rfl (Or.inl rfl))
   (aE (bz (i:=5) tN.nd rfl (Or.inl rfl) (bS cR (pv 0) (pv 4) (λ_ _=>rfl)))
   (aG (bY (bG kj (bw (pv 5) rfl) cA (bD _)) (aG (K9 (gX (N:=["cell", "marks"]) (nt:=1) (fv:=[3]) (cS.of rfl rfl (by rfl) (by rfl) (by repeat (first | exact trivial | refine⟨rfl,?_⟩)) (by rfl) (by rfl) (by rfl) (by decide) (by decide +kernel)) rfl (e7 (aZ (aeD T au) (hr.mono (by decide)) rfl T.Q7 T.Hl.kp T.Q6 .nil aL (aa (pv 5) ao))) (λC s H fp=>(bC (i:=0) (show List.Nodup (["cell", "marks"]:List Str) by decide +kernel) rfl (Or.inl rfl))) (λC s H fp=>jO) (λC s H fp=>(YK hu (pv 1) (pv 0) aC ⟨rfl,rfl,rfl,rfl⟩))) (K8 (pv 2) (pv 4) set_list))) eL))))
   (aG (br (pv 2)))))),?_⟩
  walk_at "rdt";intro t1 m1;have s1:=ah.put (o:=.lst [V.aI]) m1;refine⟨_,.inl (aA.of (s1 _ _ ha.l)),by lia,by rw[List.length_map];lia,by rw[List.length_map];lia,λt2 m2 t3 m3=>?_⟩
  have s2:=ah.put (o:=.lst (List.replicate (((ps.map V.ref).length:Int)).toNat [V.aI]).flatten) m2;have s3:=ah.put (o:=.dK []) m3;have h2:=s3 _ _ (aB (H:=upd H t1 (.lst [V.aI])) (a:=t2) (o:=.lst (List.replicate (((ps.map V.ref).length:Int)).toNat [V.aI]).flatten));have h3:=aB (H:=upd (upd H t1 (.lst [V.aI])) t2 (.lst (List.replicate (((ps.map V.ref).length:Int)).toNat [V.aI]).flatten)) (a:=t3) (o:=.dK []);have s:=(s1.trans s2).trans s3;have m2':=s1.free m2;have m3':=(s1.trans s2).free m3;have hl:((List.replicate (((ps.map V.ref).length:Int)).toNat [V.aI]).flatten).length=qs.length:=by simp[an]
  generalize (List.replicate (((ps.map V.ref).length:Int)).toNat [V.aI]).flatten=xs at *
  generalize upd (upd (upd H t1 (.lst [V.aI])) t2 (.lst xs)) t3 (.dK [])=H3 at *
  refine rl pi (ns.map V.int) (λi σ H'=>∃(x1 x2:Option V) (xs:List V),σ = [some (.ref la),some (.ref pi),some (.ref t2),some (.ref t3),x1,x2]/\ah H H'/\H' t2=some (.lst xs)/\xs.length=qs.length/\H' t3=some (.dK [])) (λQ q=>⟨_,rfl,q⟩) (aA.of (s _ _ hp)) ⟨none,none,xs,rfl,s,h2,hl,h3⟩ (by rintro i σ H' _ ⟨_,_,_,rfl,s',_⟩;exact aA.of (s' _ _ hp)) ?_ ?_
  ·rintro i x σ H' N hN hx ⟨x1,x2,xs,rfl,s',g2,gl,g3⟩;obtain⟨n,Eg,rfl⟩:=eT hx;obtain⟨n0,n9⟩:=hn n (List.mem_of_getElem? Eg);have hk:n.toNat<qs.length:=by lia
   have ia:=List.getElem?_eq_getElem hk;obtain⟨ap,m,b,dx,e1,a1⟩:=(ha.same s').at ia;obtain⟨k1,k2,k3,k4,k5⟩:=hq _ (List.getElem_mem hk);have a2:=a1.o;unfold gk at a2;rw[k1] at a2;have ei:fj (ps.map V.ref) n=some (.ref ap):=by have:=gC e1;rwa [show ((n.toNat:Nat):Int)=n by lia] at this
   walk_at "rdt";refine⟨_,aA.of (s' _ _ ha.l),_,ei,?_⟩;refine⟨ap,rfl,_,_,_,a2,T.oX,T.uF,_,rfl,rfl,rfl,?_⟩;refine N6 ?_;walk_at "rdt";refine⟨ap,_,m,b,dx,rfl,a1,k2,k3,k4,k5,λl cs H4 s4 nl cl SJ=>?_⟩;refine jQ l (cs.map V.int) (λD i ys aj H5=>∃(u:Option V),aj = [u,some (.ref t3)]/\H5 D=some (.lst ys)/\ys.length<=i/\i<=cs.length/\ah H4 H5/\H4 D=none) (λQ q=>q) (aA.of SJ) ?_ ?_ ?_ ?_
   ·intro D nD;exact⟨none,rfl,aB,Nat.le_refl _,Nat.zero_le _,ah.put nD,nD⟩
   ·rintro D i ys aj H5 ⟨u,rfl,e1,e2,e3,e4,e5⟩;exact⟨e1,by rw[l8];lia,aA.of (e4 _ _ SJ)⟩
   ·rintro D i y ys aj H5 N hN hy ⟨u,rfl,e1,e2,e3,e4,e5⟩;obtain⟨c,hc,rfl⟩:=eT hy;have hi:=eU hc;have g5:=e4 _ _ (s4 _ _ g3);wp_walk using T,L6;exact⟨.inl ⟨_,.inl g5⟩,_,e8.k (k:=cD c) g5,e1,hN _ _ _ ⟨_,rfl,aB,by rw[List.length_append,List.length_singleton];lia,by lia,ah.put2 e4 e5,e5⟩⟩
   ·rintro D ys aj H5 ⟨u,rfl,e1,e2,e3,e4,e5⟩;have s5:=s4.trans e4;refine⟨xs,s5 _ _ g2,n.toNat,?_,hN _ _ ⟨_,_,_,rfl,ah.put2 (s'.trans s5) m2',aB,by rw[List.length_set];exact gl,?_⟩⟩
    ·unfold iN;rw[if_pos n0,if_pos (by lia)]
    ·rw[az (λz=>by rw[z,g2] at g3;cases g3)]
     exact s5 _ _ g3
  ·rintro σ H' ⟨x1,x2,xs,rfl,s',g2,gl,g3⟩;walk_at "rdm";exact q _ _ s'
theorem aeR(T:Tx K mg A)(au:aY mg base A.aR A.aN):aO P w K mg base aU 2 A.Aj A.Al ["_law_cell_here", "_law_rings"] (abx K):=by
 refine T.Hs.ok tO (λvs H Q E h=>?_) (λaH Ar outer s H vs Q E hr h=>?_)
 ·obtain⟨c,m,rfl,_⟩:=h
  rfl
 ·obtain⟨c,m,rfl,h2,h60,q⟩:=h;refine⟨_,(aE (bz (i:=2) tO.nd rfl (Or.inr rfl) (aX cJ aC (aZ (gr T au) (hr.mono (by decide)) rfl T.fW T.fB.kp T.fV .nil aL (aa (pv 0) (aa aC (aa (bS cR (dR (aa aC (aa aC (aa aC (aa (aX Le aC aC) ao))))) (aZ (gr T au) (hr.mono (by decide)) rfl T.fW T.fB.kp T.fV .nil aL (aa (pv 0) (aa aC (aa aC ao)))) (λ_ _=>rfl)) ao))))))
   (aE (bY (bG kj (aZ (gr T au) (hr.mono (by decide)) rfl T.fW T.fB.kp T.fV .nil aL (aa (pv 0) (aa aC (aa aC ao)))) aC (bD _)) (aG (br (aX Dn (dR (aa aC ao)) (cQ Zg rfl T.A8 boot_sorted (aa (gX (N:=["_law_k", "_law_step", "_law_cell_here"]) (nt:=1) (fv:=[2,0]) (cS.of rfl rfl (by rfl) (by rfl) (by repeat (first | exact trivial | refine⟨rfl,?_⟩)) (by rfl) (by rfl) (by rfl) (by decide) (by decide +kernel)) rfl (rK rfl T.iI (aa (aX jd (pv 1) aC) ao)) (λC s H fp=>(bC (i:=0) (show List.Nodup (["_law_k", "_law_step", "_law_cell_here"]:List Str) by decide +kernel) rfl (Or.inl rfl))) (λC s H fp=>jO) (λC s H fp=>(aX cJ (pv 1) (aZ (gr T au) (hr.mono (by decide)) rfl T.fW T.fB.kp T.fV .nil aL (aa (pv 2) (aa (aX cJ aC (pv 0)) (aa (aX cJ (pv 1) aC) ao))))))) ao))))) cj)
   (aE (bz (i:=3) tO.nd rfl (Or.inl rfl) (dR (aa aC ao)))
   (aE (d_ PassesOwn.never rfl (rL rfl T.iI (aa aC (aa (pv 1) ao))) (bC (i:=4) tO.nd rfl (Or.inl rfl))
   (aE (dG (lq PySem.F.plainAttrs_list PySem.F.slot_list_append PySem.F.type_list_append l6 (pv 3) (aa (aX cJ (bS cR (pv 3) (pL pM aC) (λ_ _=>rfl)) (pv 2)) ao)))
   (aG (bz (i:=2) tO.nd rfl (Or.inr rfl) (aX jd (pv 2) (aZ (gr T au) (hr.mono (by decide)) rfl T.fW T.fB.kp T.fV .nil aL (aa (pv 0) (aa (aX cJ aC (pv 4)) (aa (aX cJ (aX vM (pv 2) aC) aC) ao)))))))))
   (aG (br (pv 3))))))),?_⟩
  wp_walk using iV;refine⟨by decide,λo1 Bx=>?_⟩
  have sA:=ah.put (o:=.lst [V.int 3,V.int 40,V.int 1000,V.int 10000000]) Bx;have jz:upd H o1 (.lst [V.int 3,V.int 40,V.int 1000,V.int 10000000]) o1=some (.lst [V.int 3,V.int 40,V.int 1000,V.int 10000000]):=aB;generalize upd H o1 (.lst [V.int 3,V.int 40,V.int 1000,V.int 10000000])=H1 at sA jz ⊢;obtain⟨x,hx,x0,x1⟩:∃x:Int,fj [V.int 3,V.int 40,V.int 1000,V.int 10000000] (cI c 22 4)=some (.int x)/\3<=x/\x<=10000000:=by
   have b:=iE c 22 (m:=4) (by decide)
   have:cI c 22 4=0\/cI c 22 4=1\/cI c 22 4=2\/cI c 22 4=3:=by lia
   rcases this with e | e | e | e <;> rw[e] <;> exact⟨_,rfl,by decide,by decide⟩
  refine⟨_,aA.of jz,_,hx,_,rfl,by lia,?_⟩
  have Ii:=iE c 21 (m:=x) (by lia)
  generalize hL:1+cI c 21 x=L;have L1:1<=L:=by lia
  have L7:L<=10000000:=by lia
  clear hL Ii hx;refine dH (λh8=>?_) λh8=>?_
  ·intro l0 dU;have s0:=ah.put (o:=.lst [V.int 0]) dU;refine DW (m - 1) (λD i ys aj H2=>∃ns:List Int,ys=ns.map V.int/\ns.length=i/\(∀x∈ns,L<=x/\x<=2*L)/\H2 D=some (.lst ys)/\ah (upd H1 l0 (.lst [V.int 0])) H2/\upd H1 l0 (.lst [V.int 0]) D=none/\i<=60/\∃u,aj = [u,some (.int L),some (.int c)])
    (λQ q=>?_) (by lia) (by lia) ?_ ?_ ?_ ?_
   ·walk_at "rdm";exact q
   ·intro D hD;exact⟨[],rfl,rfl,(by intro x hx;cases hx),aB,ah.put hD,hD,by lia,none,rfl⟩
   ·rintro D i ys aj H2 ⟨ns,rfl,e0,_,e1,e2,e3,e4,_⟩;exact⟨e1,gW (by rw[List.length_map];lia)⟩
   ·rintro D i ys aj H2 N hN hi ⟨ns,rfl,e0,eb,e1,e2,e3,e4,u,rfl⟩;wp_walk using iV;have b1:=iE c (41+(i:Int)) (m:=L+1) (by lia)
    refine⟨by lia,by lia,by lia,e1,hN _ _ _ ⟨ns++[L+cI c (41+(i:Int)) (L+1)],by rw[List.map_append];rfl,by simp[e0],?_,aB,ah.put2 e2 e3,e3,by lia,_,rfl⟩⟩
    intro x hx;rcases List.mem_append.mp hx with hx | hx
    ·exact eb x hx
    ·rw[List.mem_singleton.mp hx];lia
   ·rintro D ys aj H2 ⟨ns,rfl,e0,eb,e1,e2,e3,e4,u,rfl⟩
    try walk_at "rdm"
    refine⟨ns,aA.of e1,by lia,λl gB hl hp hs=>?_⟩
    have SK:=e2 _ _ aB;have e9:l0≠l:=bW SK hl;refine⟨[V.int 0],by rw[az e9];exact SK,?_,λp jL=>?_⟩
    ·have:=hp.length_eq;simp;lia
    ·have dZ:p≠l:=(bW aB jL).symm;have Eo:H2 p=none:=by rw[az dZ] at jL;exact jL
     have s2:=sA.trans (s0.trans e2);have hH:H p=none:=s2.free Eo;have hHl:H l=none:=s2.free hl;have so:=ZU L1 (by lia) (ns:=gB) (λx hx=>eb x (hp.mem_iff.mp hx)) hs (by rw[hp.length_eq];lia)
     rw[hp.length_eq,show ((ns.length+1:Nat):Int)=m by lia] at so
     exact q p (0::gB) _ (ah.put2 (ah.put2 s2 hHl) hH) hH (by rw[aB];rfl) so
  ·intro l hl;have SM:H l=none:=sA.free hl;refine wF 1 m (λj σ H'=>∃kk,σ = [some (.int c),some (.int m),some (.int (gJ c L j)),some (.ref l),kk]/\ah H H'/\H' l=some (.lst (((List.range (1+j)).map (sumF (gJ c L))).map V.int)))
    (λQ q=>?_) (by lia) (by lia) (by lia) (by lia) ⟨none,rfl,sA.trans (ah.put hl),?_⟩ ?_ ?_
   ·walk_at "rdm";exact q
   ·rw[aB];simp[List.range_succ,sumF,gJ]
   ·rintro j σ H' N hN hj ⟨kk,rfl,hs,h1⟩;have b:=NI c L1 j;wp_walk using iV;refine⟨⟨_,aA.of h1⟩,_,aA.of h1,_,Zq (by simp;lia),?_⟩
    wp_walk using h1,iV;refine⟨by rw[List.length_range];lia,by lia,by lia,by lia,hN _ _ ⟨some (.int (1+(j:Int))),?_,ah.put2 hs SM,?_⟩⟩
    ·rw[gJ]
    ·rw[aB,show 1+(j+1)=1+j+1 by lia,List.range_succ,List.map_append,List.map_append,List.length_range,_L.range_getD (by lia)]
     congr 4;simp only[List.map_cons,List.map_nil,List.cons.injEq,and_true,V.int.injEq];rw[show 1+j - 1=j by lia,show 1+j=j+1 by lia,sumF]
   ·rintro σ H' ⟨kk,rfl,hs,h1⟩;walk_at "rdm";have e:1+(m - 1).toNat=m.toNat:=by lia
    rw[e] at h1;have so:=abe (f:=gJ c L) L1 L7 (NI c L1) (n:=m.toNat) (by lia) (by lia)
    rw[show ((m.toNat:Nat):Int)=m by lia] at so
    exact q _ _ _ hs SM h1 so
theorem aeS(T:Tx K mg A)(au:aY mg base A.aR A.aN):aO P w K mg base aU 2 A.Am A.An ["_law_cell_here"] (aby K):=by
 refine T.Ht.ok xV (λvs H Q E h=>?_) (λaH Ar outer s H vs Q E hr h=>?_)
 ·obtain⟨c,rfl,_⟩:=h
  rfl
 ·obtain⟨c,rfl,q⟩:=h;refine⟨_,(aE (bz (i:=1) xV.nd rfl (Or.inl rfl) (dR (aa (fH (aa (aX cJ aC (aZ (gr T au) (hr.mono (by decide)) rfl T.fW T.fB.kp T.fV .nil aL (aa (pv 0) (aa aC (aa aC ao))))) (aa (aX cJ aC (aZ (gr T au) (hr.mono (by decide)) rfl T.fW T.fB.kp T.fV .nil aL (aa (pv 0) (aa aC (aa aC ao))))) ao))) ao)))
   (aE (d_ PassesOwn.never rfl (rK rfl T.iI (aa (bS cR (dR (aa aC (aa aC (aa aC (aa aC (aa aC (aa aC (aa aC (aa aC ao))))))))) (aZ (gr T au) (hr.mono (by decide)) rfl T.fW T.fB.kp T.fV .nil aL (aa (pv 0) (aa aC (aa aC ao)))) (λ_ _=>rfl)) ao)) (bC (i:=2) xV.nd rfl (Or.inl rfl))
   (aG (dG (lq PySem.F.plainAttrs_list PySem.F.slot_list_append PySem.F.type_list_append l6 (pv 1) (aa (fH (aa (aX cJ aC (aZ (gr T au) (hr.mono (by decide)) rfl T.fW T.fB.kp T.fV .nil aL (aa (pv 0) (aa (aX cJ aC (pv 2)) (aa aC ao))))) (aa (aX cJ aC (aZ (gr T au) (hr.mono (by decide)) rfl T.fW T.fB.kp T.fV .nil aL (aa (pv 0) (aa (aX cJ aC (pv 2)) (aa aC ao))))) ao))) ao)))))
   (aE (ou (bY (bG kj (aZ (gr T au) (hr.mono (by decide)) rfl T.fW T.fB.kp T.fV .nil aL (aa (pv 0) (aa aC (aa aC ao)))) aC (bD _)) (aG (bz (i:=1) xV.nd rfl (Or.inl rfl) (dR (aa (fH (aa (aX cJ aC (aZ (gr T au) (hr.mono (by decide)) rfl T.fW T.fB.kp T.fV .nil aL (aa (pv 0) (aa aC (aa aC ao))))) (aa (aX cJ aC (aZ (gr T au) (hr.mono (by decide)) rfl T.fW T.fB.kp T.fV .nil aL (aa (pv 0) (aa aC (aa aC ao))))) ao))) ao)))) cj))
   (aG (br (pv 1)))))),?_⟩
  wp_walk using iV;have y1:=iE c 1 (m:=2) (by decide)
  have y2:=iE c 2 (m:=8) (by decide)
  intro t0 uQ l nl;have By:H l=none:=(ah.put uQ).free nl;have Ij:=Zn.one (c:=(2+cI c 1 2,1+cI c 2 8)) (aB (H:=H) (a:=t0)) nl;have sA:ah H (upd (upd H t0 (.tup [V.int (2+cI c 1 2),V.int (1+cI c 2 8)])) l (.lst [V.ref t0])):=(ah.put uQ).trans (ah.put nl);have SN:ZP [(2+cI c 1 2,1+cI c 2 8)]:=⟨λp hp=>by rw[List.mem_singleton.mp hp];dsimp only;exact⟨by lia,by lia,by lia,by lia⟩,by simp;lia⟩
  generalize upd (upd H t0 (.tup [V.int (2+cI c 1 2),V.int (1+cI c 2 8)])) l (.lst [V.ref t0])=H2 at Ij sA ⊢;generalize (2+cI c 1 2,1+cI c 2 8)=p0 at Ij SN;obtain⟨x,hx,x0,x1⟩:∃x:Int,fj [V.int 0,V.int 1,V.int 2,V.int 0,V.int 1,V.int 2,V.int 1,V.int 4] (cI c 3 8)=some (.int x)/\0<=x/\x<=4:=by
   have b:=iE c 3 (m:=8) (by decide)
   have:cI c 3 8=0\/cI c 3 8=1\/cI c 3 8=2\/cI c 3 8=3\/cI c 3 8=4\/cI c 3 8=5\/cI c 3 8=6\/cI c 3 8=7:=by lia
   rcases this with e | e | e | e | e | e | e | e <;> rw[e] <;> exact⟨_,rfl,by decide,by decide⟩
  refine rrG ?_;wp_walk using iV;intro o1 Bx;have s2:=sA.trans (ah.put (o:=.lst [V.int 0,V.int 1,V.int 2,V.int 0,V.int 1,V.int 2,V.int 1,V.int 4]) Bx);have SO:=Ij.same (ah.put (o:=.lst [V.int 0,V.int 1,V.int 2,V.int 0,V.int 1,V.int 2,V.int 1,V.int 4]) Bx);have jz:upd H2 o1 (.lst [V.int 0,V.int 1,V.int 2,V.int 0,V.int 1,V.int 2,V.int 1,V.int 4]) o1=some (.lst [V.int 0,V.int 1,V.int 2,V.int 0,V.int 1,V.int 2,V.int 1,V.int 4]):=aB;generalize upd H2 o1 (.lst [V.int 0,V.int 1,V.int 2,V.int 0,V.int 1,V.int 2,V.int 1,V.int 4])=H3 at s2 SO jz ⊢;refine⟨_,aA.of jz,_,hx,x,rfl,xw.by x (λi σ H'=>∃(kk:Option V) (ts:List Addr) (z:List (Int×Int)),σ = [some (.int c),some (.ref l),kk]/\ah H H'/\Zn H' l ts z/\ZP z/\z.length=i+1) (by lia) (by lia) ⟨none,[t0],[p0],rfl,s2,SO,SN,rfl⟩ ?_ ?_⟩
  ·rintro i σ H' N hN hi ⟨kk,ts,z,rfl,s',hz,zp,zn⟩;wp_walk using iV;have b1:=iE c (4+(i:Int)) (m:=2) (by decide)
   have b2:=iE c (9+(i:Int)) (m:=8) (by decide)
   refine⟨⟨_,hz.sq⟩,by lia,by lia,by lia,by lia,λp np=>⟨_,ah.put np _ _ hz.l,by rw[List.length_map,hz.n];lia,hN _ _ ⟨_,ts++[p],z++[(1+cI c (4+(i:Int)) 2,1+cI c (9+(i:Int)) 8)],rfl,ah.put2 (s'.trans (ah.put np)) By,hz.snoc np _ _,zp.snoc ⟨by dsimp only;lia,by dsimp only;lia,by dsimp only;lia,by dsimp only;lia⟩,by simp[zn]⟩⟩⟩
  ·rintro σ H' ⟨kk,ts,z,rfl,s',hz,zp,zn⟩;have zl:=zp.zl5 (by lia) (by lia)
   wp_walk using iV;have SQ:=iE c 15 (m:=60) (by decide)
   refine⟨λσ H2=>∃(l2:Addr) (jo:List Addr) (z2:List (Int×Int)),σ[1]? = some (some (.ref l2))/\ah H H2/\H l2=none/\Zn H2 l2 jo z2/\ZL z2,dH (λ_=>λt1 uR l2 qV=>⟨l2,[t1],[_],rfl,s'.trans ((ah.put uR).trans (ah.put qV)),(s'.trans (ah.put uR)).free qV,Zn.one (c:=(2+cI c 1 2,1+cI c 15 60)) aB qV,abz (by lia) (by lia) (by lia) (by lia)⟩) λ_=>⟨l,ts,z,rfl,s',By,hz,zl⟩,?_⟩
   rintro σ H2 ⟨l2,jo,z2,e1,s2,n2,mT,zl2⟩;exact⟨_,e1,q l2 jo z2 H2 s2 n2 mT zl2⟩
theorem aeT(T:Tx K mg A)(au:aY mg base A.aR A.aN):aO P w K mg base aU 2 A.Ax A.Ay ["_law_cell_here"] acP:=by
 refine T.Hx.ok tQ (λvs H Q E h=>?_) (λaH Ar outer s H vs Q E hr h=>?_)
 ·obtain⟨c,rfl,_⟩:=h
  rfl
 ·obtain⟨c,rfl,q⟩:=h;refine⟨_,(aE (bz (i:=1) tQ.nd rfl (Or.inl rfl) (dR (aa cA (aa cA (aa cA (aa cA (aa cA (aa cA (aa cA (aa cA ao))))))))))
   (aE (bz (i:=2) tQ.nd rfl (Or.inl rfl) (bS cR (pv 1) (aZ (gr T au) (hr.mono (by decide)) rfl T.fW T.fB.kp T.fV .nil aL (aa (pv 0) (aa aC (aa aC ao)))) (λ_ _=>rfl)))
   (aE (bz (i:=3) tQ.nd rfl (Or.inl rfl) (dR (aa (aX ET (pv 2) cA) (aa (aX ET cA (pv 2)) (aa (Df Oj (pv 2) (Dc aC) C_) (aa (Ye PySem.F.plainAttrs_str PySem.F.slot_str_upper PySem.F.type_str_upper acK (pv 2)) (aa (aX ET cA (pv 2)) (aa (Df Oj (pv 2) C_ (Dc (pL pM aC))) (aa cA (aa cA (aa cA ao)))))))))))
   (aE (bz (i:=4) tQ.nd rfl (Or.inl rfl) (bS cR (pv 3) (aZ (gr T au) (hr.mono (by decide)) rfl T.fW T.fB.kp T.fV .nil aL (aa (pv 0) (aa aC (aa aC ao)))) (λ_ _=>rfl)))
   (aG (br (vD (bG vW (pv 4) (pv 1) rfl) cA (pv 4)))))))),?_⟩
  wp_walk using T,iV,Om,Ol,Oi;intro p np;have d1:=iE c 31 (m:=8) (by decide)
  have d2:=iE c 32 (m:=9) (by decide)
  obtain⟨w',hw,ha⟩:=acS d1.1 d1.2;obtain⟨l1,l2⟩:=acQ w' hw;have e1:(Str.ofString " ").length=1:=rfl;have e5:(Str.ofString "calm ").length=5:=rfl;refine⟨_,aA.of aB,_,ha,w',rfl,by lia,w',rfl,by lia,w',rfl,by lia,trivial,w',rfl,by lia,w',rfl,by lia,w',rfl,by lia,λp1 jB=>?_⟩
  have s2:=(ah.put (o:=.lst (iH.map V.str)) np).trans (ah.put (o:=.lst ([w'++Str.ofString " ",Str.ofString " " ++ w',Txt.slice w' (some 1) none,Txt.upper w',Str.ofString "calm " ++ w',Txt.slice w' none (some (-1)),Str.ofString "careful",Str.ofString "",Str.ofString "lift calm"].map V.str)) jB);have jL:=ah.put (o:=.lst ([w'++Str.ofString " ",Str.ofString " " ++ w',Txt.slice w' (some 1) none,Txt.upper w',Str.ofString "calm " ++ w',Txt.slice w' none (some (-1)),Str.ofString "careful",Str.ofString "",Str.ofString "lift calm"].map V.str)) jB _ _ (aB (H:=H) (a:=p) (o:=.lst (iH.map V.str)));obtain⟨f,hf⟩:=acT [w'++Str.ofString " ",Str.ofString " " ++ w',Txt.slice w' (some 1) none,Txt.upper w',Str.ofString "calm " ++ w',Txt.slice w' none (some (-1)),Str.ofString "careful",Str.ofString "",Str.ofString "lift calm"] d2.1 (by simpa using d2.2)
  have fin:∀u,u∉iH->Q (.str u) (upd (upd H p (.lst (iH.map V.str))) p1 (.lst ([w'++Str.ofString " ",Str.ofString " " ++ w',Txt.slice w' (some 1) none,Txt.upper w',Str.ofString "calm " ++ w',Txt.slice w' none (some (-1)),Str.ofString "careful",Str.ofString "",Str.ofString "lift calm"].map V.str))):=λu hu=>q u _ s2 (λz=>hu (List.mem_append_right _ z)) (λz=>hu (List.mem_append_left _ z));refine⟨_,aA.of aB,_,hf,iH.map V.str,.inl (aA.of jL),rfl,EH _,?_⟩;rw[EI];exact dH (λ_=>fin _ acR) λh=>fin _ λz=>h (decide_eq_true z)
theorem aeU(T:Tx K mg A)(au:aY mg base A.aR A.aN):aO P w K mg base aU 3 A.x_ A.yc ["first", "many", "at", "asker", "latest", "behind"] (aae K):=by
 refine T.GF.ok ac4 (λvs H Q E h=>?_) (λaH Ar outer s H vs Q E hr h=>?_)
 ·obtain⟨f,m,a,s',l,b,ns,rfl,_⟩:=h
  rfl
 ·obtain⟨f,m,a,s',l,b,ns,rfl,hB,hS,hR,q⟩:=h;refine⟨_,(aE (dG (aZ (qR T au) (hr.mono (by decide)) rfl T.oU T.mO.kp T.oR .nil aL (aa (pv 0) (aa aC (aa (dQ (v:=.int 1000000) rfl T.RP ⟨_,rfl⟩) (aa cA ao))))))
   (aE (dG (aZ (qR T au) (hr.mono (by decide)) rfl T.oU T.mO.kp T.oR .nil aL (aa (pv 1) (aa aC (aa (dQ (v:=.int 16) rfl T.RO ⟨_,rfl⟩) (aa cA ao))))))
   (aE (dG (aZ (qR T au) (hr.mono (by decide)) rfl T.oU T.mO.kp T.oR .nil aL (aa (pv 2) (aa aC (aa (dQ (v:=.int 1000000000000) rfl T.RQ ⟨_,rfl⟩) (aa cA ao))))))
   (aE (dG (aZ (qR T au) (hr.mono (by decide)) rfl T.oU T.mO.kp T.oR .nil aL (aa (pv 3) (aa aC (aa (dQ (v:=.int 20) rfl T.RS ⟨_,rfl⟩) (aa cA ao))))))
   (aE (bY (bG W7 (pv 4) rG (bD _)) (aG (dG (aZ (qR T au) (hr.mono (by decide)) rfl T.oU T.mO.kp T.oR .nil aL (aa (pv 4) (aa aC (aa (dQ (v:=.int 10000000000000) rfl T.RT ⟨_,rfl⟩) (aa cA ao))))))) cj)
   (aG (dG (aZ (aeH T au) (hr.mono (by decide)) rfl T.OJ T.GD.kp T.OI .nil aL (aa (pv 5) ao))))))))),?_⟩
  walk_at "rdm";refine⟨_,_,_,_,rfl,hB.f0,hB.f1,_,_,_,_,rfl,hB.m0,hB.m1,_,_,_,_,rfl,hB.a0,hB.a1,_,_,_,_,rfl,hB.s0,hB.s1,?_⟩
  try dsimp only
  cases l with
  | none=>exact ite_no (by simp[qd]) ⟨b,ns,rfl,hS,hR,q⟩
  | some x=>exact ite_yes (by simp[qd]) ⟨x,0,10000000000000,_,rfl,(hB.l x rfl).1,(hB.l x rfl).2,b,ns,rfl,hS,hR,q⟩
theorem aeV(T:Tx K mg A)(au:aY mg base A.aR A.aN):aO P w K mg base aU 3 A.yj A.yl ["plate", "ring", "place", "beat"] (Z0 K [A.a_]):=by
 refine T.GJ.ok ac7 (λvs H Q E h=>?_) (λaH Ar outer s H vs Q E hr h=>?_)
 ·obtain⟨C,p,P,fp,r,c,b,rfl,_⟩:=h
  rfl
 ·obtain⟨C,p,P,fp,r,c,b,rfl,hC,hP,ok,h0,h1,h5,h6,q⟩:=h;obtain⟨dx,a1,a2,a3,a4,ts,fs,uP,h⟩:=id hP;have BA:=ok.c r.toNat (by lia)
  have hl:=ok.aM;have hn:=ok.n1;refine⟨_,(aG (br (aX cJ (pv 3) (aX lW (aX jd (l_ (pv 0) T.ad5 (aeL T au) (hr.mono (by decide)) T.Qi .nil aL (aa (pv 1) (aa (pv 2) ao))) (pv 3)) (MF (pv 0) T.ad4 (aes T au) (hr.mono (by decide)) T.Qf .nil aL))))),?_⟩
  wp_walk using h.o,h.f1,h.f2,h.f3,h.f4,h.f5,h.f6,h.m1,h.m2,h.m3,h.m4,h.m5,h.m6,h.m7,h.m8,h.m9,h.gj,h.gG,h.cp.cl,h.cp.n1,h.cp.n2,h.cp.n3,h.cp.n4,h.cp.n5,h.cp.n6;refine⟨hC,C,p,P,fp,r,c,rfl,hC,hP,h0,h1,hn,by lia,BA.2,h5,h6,by lia,?_⟩
  wp_walk using h.o,h.f1,h.f2,h.f3,h.f4,h.f5,h.f6,h.m1,h.m2,h.m3,h.m4,h.m5,h.m6,h.m7,h.m8,h.m9,h.gj,h.gG,h.cp.cl,h.cp.n1,h.cp.n2,h.cp.n3,h.cp.n4,h.cp.n5,h.cp.n6;refine⟨hC,C,p,P,fp,rfl,hP,?_⟩;walk_at "rdm";exact⟨by lia,q⟩
theorem aeW(T:Tx K mg A)(au:aY mg base A.aR A.aN):aO P w K mg base aU 3 A.zg A.zh ["self", "zones", "lap", "skew", "swing"] (ZI K):=by
 refine T.P6.ok ado (λvs H Q E h=>?_) (λaH Ar outer s H vs Q E hr h=>?_)
 ·obtain⟨C,p,dx,za,sa,p9,z,aM,dh,sw,rfl,_⟩:=h
  rfl
 ·obtain⟨C,p,dx,za,sa,p9,z,aM,dh,sw,rfl,cp,hp,hz,ok,h1,h2,h3,h4,hd,hS,so,q⟩:=h;refine⟨_,(aE (dG (aZ (ael T au) (hr.mono (by decide)) rfl T.PL T.GW.kp T.PJ .nil aL (aa (pv 1) ao)))
   (aE (dG (aZ (aem T au) (hr.mono (by decide)) rfl T.PN T.GX.kp T.PM .nil aL (aa (pv 1) (aa (pv 2) (aa (pv 3) ao)))))
   (aE (cB (pv 0) (aZ (aeo T au) (hr.mono (by decide)) rfl T.PZ T.G4.kp T.PY .nil aL (aa (pv 1) ao)) rfl)
   (aE (dG (aZ (aeK T au) (hr.mono (by decide)) rfl T.PU T.GY.kp T.PR .nil aL (aa (pv 4) (aa (cQ gT rfl T.fD boot_len (aa (bw (pv 0) rfl) ao)) ao))))
   (aE (cB (pv 0) (pv 2) rfl)
   (aE (cB (pv 0) (pv 3) rfl)
   (aE (cB (pv 0) (C7 Yb rfl T.qO boot_list (aa (pv 4) ao)) rfl)
   (aE (cB (pv 0) (aZ (aep T au) (hr.mono (by decide)) rfl T.P1 T.G5.kp T.P0 .nil aL (aa (bw (pv 0) rfl) (aa aC ao))) rfl)
   (aG (cB (pv 0) (aZ (aer T au) (hr.mono (by decide)) rfl T.P5 T.G6.kp T.P4 .nil aL (aa (bw (pv 0) rfl) ao)) rfl)))))))))),?_⟩
  wp_walk using cp.cl,cp.n1,cp.n2,cp.n3,cp.n4,cp.n5,cp.n6;refine⟨za,p9,z,rfl,hz,ok,λH1 s1=>⟨za,p9,z,aM,dh,rfl,hz.same s1,ok,h1,h2,h3,h4,hd,?_⟩⟩;refine⟨za,p9,z,rfl,hz.same s1,ok,λa1 H2 s2 n1 e1=>?_⟩;have jL:=(s1.trans s2) _ _ hp;have jB:a1≠p:=(bW (s1 _ _ hp) n1).symm;have cl:=p8 z λp hp=>(ok.r p hp).1;have ajZ:=ok.DT;have c2:=ok.s2;have kM:SameBut p H H2:=.of (s1.trans s2);have fr1:H a1=none:=s1.free n1;wp_walk using cp.cl,cp.n1,cp.n2,cp.n3,cp.n4,cp.n5,cp.n6,jL;refine⟨_,.inl (aA.of ((az jB).trans e1)),?_⟩;have Ik:∀ {H':Hp},SameBut p H H'->aA K H' sa (sw.map V.int):=λ{H'} sb=>by
   rcases hS with(h | ⟨o,h⟩) | h
   ·exact .inl (.inl (sb _ _ h (pF h hp (by intro z;cases z))))
   ·exact .inl (.inr ⟨o,sb _ _ h (pF h hp (by intro z;cases z))⟩)
   ·exact .inr h
  refine⟨sa,sw,_,rfl,Ik kM.put,?_,?_,?_⟩
  ·simpa only[List.length_map,cl] using so
  ·simp only[List.length_map];lia
  wp_walk using cp.cl,cp.n1,cp.n2,cp.n3,cp.n4,cp.n5,cp.n6;refine⟨_,.inl (Ik kM.put),λa2 n2=>?_⟩;have o9:p≠a2:=bW aB n2;have SR:H2 a2=none:=by rw[az o9.symm] at n2;exact n2
  wp_walk using cp.cl,cp.n1,cp.n2,cp.n3,cp.n4,cp.n5,cp.n6,az o9;have na2:a1≠a2:=bW e1 SR;have i6:SameBut p H (upd (upd (upd H2 p (HO.ins C dx [(Str.ofString "ring_cells",V.ref a1),(Str.ofString "lap",V.int aM),(Str.ofString "skew",V.int dh)])) a2 (HO.lst (List.map V.int sw))) p
   (HO.ins C dx [(Str.ofString "ring_cells",V.ref a1),(Str.ofString "lap",V.int aM),(Str.ofString "skew",V.int dh),(Str.ofString "swing",V.ref a2)])):=(kM.put.step (ah.put n2)).put
  have Mg:=e1;have fr2:H a2=none:=(s1.trans s2).free SR;generalize Il:upd (upd (upd H2 p _) a2 _) p _=H3 at i6 ⊢;have p3:H3 p=some (HO.ins C dx [(Str.ofString "ring_cells",V.ref a1),(Str.ofString "lap",V.int aM),(Str.ofString "skew",V.int dh),(Str.ofString "swing",V.ref a2)]):=by rw[← Il,aB]
  have q1:H3 a1=some (.lst ((counts z).map V.int)):=by rw[← Il,az jB,az na2,az jB];exact e1
  have q2:H3 a2=some (.lst (sw.map V.int)):=by rw[← Il,az o9.symm,aB]
  have cm:∀c∈counts z,0<=c/\c<=1000:=λc hc=>by
   obtain⟨y,hy,rfl⟩:=sr hc;have:=ok.r y hy;lia
  refine⟨a1,counts z,0,rfl,aA.of q1,by lia,cm,by decide,by decide,λa3 ts H4 s4 n3 SV z4=>?_⟩
  have p4:=s4 _ _ p3;have Im:a3≠p:=(bW p3 n3).symm;have nC:H a3=none:=by
   cases e:H a3 with
   | none=>rfl
   | some o=>rw[i6 _ _ e Im] at n3;cases n3
  have Io:∀t∈ts,t≠p:=λt ht=>(bW p3 (SV t ht)).symm;have frt:∀t∈ts,H t=none:=λt ht=>by
   cases e:H t with
   | none=>rfl
   | some o=>have:=i6 _ _ e (Io t ht);rw[SV t ht] at this;cases this
  wp_walk using cp.cl,cp.n1,cp.n2,cp.n3,cp.n4,cp.n5,cp.n6,p4;have z5:=z4.keep (H':=upd H4 p (HO.ins C dx [(Str.ofString "ring_cells",V.ref a1),(Str.ofString "lap",V.int aM),(Str.ofString "skew",V.int dh),(Str.ofString "swing",V.ref a2),(Str.ofString "number_cells",V.ref a3)])) (az Im) λt ht=>az (Io t ht);have zl:(lz (counts z) 0).length<=1000000:=by
   have:=wD (s:=0) (by decide) (counts z) 0 cm
   have e:(counts z).length<=120:=by lia
   unfold lz;lia
  refine⟨a3,ts,_,rfl,z5,zl,λa4 H5 s5 n4 e4=>?_⟩;have Ip:a4≠p:=(bW aB n4).symm;have sb5:SameBut p H H5:=((i6.step s4).put).step s5;have SW:H4 a4=none:=by rw[az Ip] at n4;exact n4
  have fr4:H a4=none:=by
   cases e:H a4 with
   | none=>rfl
   | some o=>rw[(i6.step s4) _ _ e Ip] at SW;cases SW
  wp_walk using cp.cl,cp.n1,cp.n2,cp.n3,cp.n4,cp.n5,cp.n6,s5 _ _ aB;refine q _ dx a1 a2 a3 a4 ts sb5.put ?_ aB (l9.lit cp aB ?_ ?_ ?_ ?_)
  ·intro b hb;simp only[List.mem_cons] at hb;rcases hb with rfl | rfl | rfl | rfl | hb
   ·exact fr1
   ·exact fr2
   ·exact nC
   ·exact fr4
   ·exact frt b hb
  ·rw[az jB];exact s5 _ _ ((az jB).trans (s4 _ _ q1))
  ·rw[az o9.symm];exact s5 _ _ ((az o9.symm).trans (s4 _ _ q2))
  ·exact(z5.same s5).keep (az Im) λt ht=>az (Io t ht)
  ·rw[az Ip];exact e4
theorem SX(T:Tx K mg A)(au:aY mg base A.aR A.aN):aO P w K mg base aU 3 A.zC A.zD ["plate", "number", "ask"] (abi K [A.a_] A.aV):=by
 refine T.AM.ok adA (λvs H Q E h=>?_) (λaH Ar outer s H vs Q E hr h=>?_)
 ·obtain⟨C,p,ap,k,P,fp,q',m,b,dx,rfl,_⟩:=h
  rfl
 ·obtain⟨C,p,ap,k,P,fp,q',m,b,dx,rfl,hC,hP,ha,hf,hn,q⟩:=h;refine⟨_,(aG (aaZ rfl (br (aZ (aeN T au) (hr.mono (by decide)) rfl T.Qy T.G8.kp T.Qx .nil aL (aa (pv 0) (aa (pv 2) ao)))))),?_⟩
  walk_at "rdt";exact⟨C,p,ap,P,fp,q',m,b,dx,rfl,hC,hP,ha,hf,hn,q⟩
theorem SY(T:Tx K mg A)(au:aY mg base A.aR A.aN):aO P w K mg base aU 4 A.yg A.tR ["first", "many", "at", "asker", "latest", "behind"] (aah K A.aV):=by
 refine T.AE.ok Ow (λvs H Q E h=>?_) (λaH Ar outer s H vs Q E hr h=>?_)
 ·obtain⟨f,m,a,s',l,bv,ns,rfl,_⟩:=h
  rfl
 ·obtain⟨f,m,a,s',l,bv,ns,rfl,hB,hv,hR,q⟩:=h;refine⟨_,(aE (bz (i:=6) Ow.nd rfl (Or.inl rfl) (aZ (aeg T au) (hr.mono (by decide)) rfl T.OO T.GG.kp T.ON .nil aL (aa (pv 5) ao)))
   (aE (dG (aZ (aeU T au) (hr.mono (by decide)) rfl T.OM T.GF.kp T.OL .nil aL (aa (pv 0) (aa (pv 1) (aa (pv 2) (aa (pv 3) (aa (pv 4) (aa (pv 6) ao))))))))
   (aG (br (nI T.Rw (aef T au) (hr.mono (by decide)) rfl T.Rx T.OH .nil aL (aa cA (aa (pv 0) (aa (pv 1) (aa (fH ao) (aa (pv 2) (aa (pv 3) (aa (pv 4) (aa (pv 6) (aa gQ ao)))))))))))))),?_⟩
  walk_at "rdt";refine⟨_,ns,rfl,hv,λb H1 s1 hb=>?_⟩;walk_at "rdt";refine⟨_,_,_,_,_,_,ns,rfl,hB,bq.of hb,hR,?_⟩;walk_at "rdt";intro mk nm x dx nx sI e9;refine⟨x,dx,_,_,_,_,_,_,_,_,_,rfl,aB,rfl,?_⟩;obtain⟨a1,a2,a3⟩:=aaa (K:=K) (C:=A.aV) (q:=⟨"read",f,m,[],a,s',l,ns,false⟩) (s1.trans (ah.put nm)) nx sI e9 aB (ah.put nm _ _ hb);exact q _ _ _ _ _ a1 a2 a3
theorem aeX(T:Tx K mg A)(au:aY mg base A.aR A.aN):aO P w K mg base aU 4 A.ym A.yp ["plate", "ring", "beat", "cells"] (Z1 K [A.a_]):=by
 refine T.GK.ok oN (λvs H Q E h=>?_) (λaH Ar outer s H vs Q E hr h=>?_)
 ·obtain⟨C,p,P,fp,r,b,ca,wL,cz,rfl,_⟩:=h
  rfl
 ·obtain⟨C,p,P,fp,r,b,ca,wL,cz,rfl,hC,hP,ok,r0,r1,hz,hq,hlen,q⟩:=h;have hsl:=ok.sw.len;refine⟨_,(aE (bz (i:=4) oN.nd rfl (Or.inl rfl) (dR ao))
   (aE (d_ PassesOwn.never rfl (e7 (pv 3)) (iL rfl (cO (bC (i:=5) oN.nd rfl (Or.inl rfl)) (cO (bC (i:=6) oN.nd rfl (Or.inl rfl)) iK)))
   (aE (bz (i:=7) oN.nd rfl (Or.inl rfl) (aZ (aeV T au) (hr.mono (by decide)) rfl T.OU T.GJ.kp T.OT .nil aL (aa (pv 0) (aa (pv 5) (aa (pv 6) (aa (aX cJ (pv 2) (l_ (pv 0) T.ad6 (aet T au) (hr.mono (by decide)) T.Ql .nil aL (aa (pv 1) (aa (pv 5) ao)))) ao))))))
   (aE (bz (i:=1) oN.nd rfl (Or.inl rfl) (pv 5))
   (aE (bz (i:=2) oN.nd rfl (Or.inl rfl) (aX cJ (pv 7) (l_ (pv 0) T.Sj (So T au) (hr.mono (by decide)) T.G7 .nil aL (aa (pv 5) ao))))
   (aG (dG (lq PySem.F.plainAttrs_list PySem.F.slot_list_append PySem.F.type_list_append l6 (pv 4) (aa (fH (aa (pv 1) (aa (pv 6) (aa (pv 7) (aa (pv 2) ao))))) ao))))))))
   (aG (br (pv 4))))),?_⟩
  walk_at "rdm";intro l hl;have sl:=ah.put (o:=.lst []) hl;refine rl ca (wL.map V.ref) (λi σ H'=>∃x y z ts,σ = [some (.ref p),some (.int (dw P (r,b) (cz.take i)).1),some (.int (dw P (r,b) (cz.take i)).2),some (.ref ca),some (.ref l),x,y,z]/\ah H H'/\(∀t∈ts,H t=none)/\i<=cz.length/\Zt H' l ts (fq P (r,b) (cz.take i))) (λQ q=>⟨_,rfl,q⟩) (sl.seq hz.sq)
   ⟨none,none,none,[],rfl,sl,(λ_ h=>nomatch h),Nat.zero_le _,Zt.start⟩ (by rintro i σ H' _ ⟨x,y,z,ts,rfl,hs,_⟩;exact hs.seq hz.sq) ?_ ?_
  ·rintro i x σ H' N hN hx ⟨x0,y0,z0,qx,rfl,hs,oZ,hi,h1⟩;obtain⟨t,w,rfl,hw,ht⟩:=hz.at hx;have Bw:=eU hw;obtain⟨w0,w1,w2,w3⟩:=hq w (get_mem hw);have BA:=ok.c w.1.toNat (by lia)
   obtain⟨e0,e1⟩:=D3 P (n:=P.rc.length) (cz.take i) (r,b) r0 r1 λq iy=>⟨(hq q (List.mem_of_mem_take iy)).1,(hq q (List.mem_of_mem_take iy)).2.1⟩;have es:dw P (r,b) (cz.take (i+1))=mh P (dw P (r,b) (cz.take i)) w:=by rw[take_succ_get hw,DY]
   have ws:fq P (r,b) (cz.take (i+1))=fq P (r,b) (cz.take i)++[wJ P (dw P (r,b) (cz.take i)) w]:=by rw[take_succ_get hw,DZ]
   rw[es,ws] at hN;have wl:(fq P (r,b) (cz.take i)).length=i:=by rw[wK,List.length_take];lia
   generalize dw P (r,b) (cz.take i)=st at e0 e1 hN ⊢;generalize fq P (r,b) (cz.take i)=rows at h1 wl hN ⊢;refine kG (bq.of (hs _ _ ht)) rfl ?_;have BB:=hP.same hs;obtain⟨dx,a1,a2,a3,a4,ts,fs,uP,h⟩:=id BB;wp_walk using h.o,h.f1,h.f2,h.f3,h.f4,h.f5,h.f6,h.m1,h.m2,h.m3,h.m4,h.m5,h.m6,h.m7,h.m8,h.m9,h.gj,h.gG,h.cp.cl,h.cp.n1,h.cp.n2,h.cp.n3,h.cp.n4,h.cp.n5,h.cp.n6;refine⟨hC,C,p,P,fp,st.1,w.1,rfl,BB,by lia,?_⟩
   wp_walk using h.o,h.f1,h.f2,h.f3,h.f4,h.f5,h.f6,h.m1,h.m2,h.m3,h.m4,h.m5,h.m6,h.m7,h.m8,h.m9,h.gj,h.gG,h.cp.cl,h.cp.n1,h.cp.n2,h.cp.n3,h.cp.n4,h.cp.n5,h.cp.n6;refine⟨C,p,P,fp,w.1,w.2,_,rfl,hC,BB,ok,w0,w1,w2,w3,?_⟩;wp_walk using h.o,h.f1,h.f2,h.f3,h.f4,h.f5,h.f6,h.m1,h.m2,h.m3,h.m4,h.m5,h.m6,h.m7,h.m8,h.m9,h.gj,h.gG,h.cp.cl,h.cp.n1,h.cp.n2,h.cp.n3,h.cp.n4,h.cp.n5,h.cp.n6;refine⟨hC,C,p,P,fp,w.1,rfl,BB,w0,w1,BA.1,BA.2,?_⟩;walk_at "rdm";refine⟨⟨_,aA.of h1.l⟩,λt1 n1=>?_⟩;have hn:=h1.n;have e2:=ah.put n1 (o:=.tup [V.int w.1,V.int w.2,V.int (sy P st w),V.int (mh P st w).2]) _ _ h1.l;refine⟨_,e2,by simp;lia,hN _ _ ⟨_,_,_,qx++[t1],rfl,ah.put2 (hs.trans (ah.put n1)) hl,?_,Bw,h1.snoc n1 (wJ P st w)⟩⟩
   intro t' j3;rcases List.mem_append.mp j3 with j3 | j3
   ·exact oZ t' j3
   ·rw[List.mem_singleton.mp j3];exact hs.free n1
  ·rintro σ H' ⟨x0,y0,z0,qx,rfl,hs,oZ,hi,h1⟩;walk_at "rdm";rw[lenZ hz.n,List.take_length] at h1;exact q _ _ _ hs hl oZ h1
theorem Iq(T:Tx K mg A)(au:aY mg base A.aR A.aN):aO P w K mg base aU 4 A.tU A.qG ["ring", "dues"] (abI K A.aV A.bE A.aN (iX d7) (iU "nearest_of")):=by
 refine T.uD.okC ac_ (λvs H Q E h=>?_) (λAr outer s H vs Q E hr h=>?_)
 ·obtain⟨r,D,ps,ds,P',b,rfl,_⟩:=h
  rfl
 ·obtain⟨r,D,ps,ds,P',b,rfl,hd,d1,gK,hc,T0,q⟩:=h;have fc:=hd.n;have kK:(Ar.deeper (envOfC "nearest_of" (aJ d7) s.heap.objs.size A.tU A.qG.code)).in1.depth<recursionLimit:=hr.depth;have aeY:_+16<cLine:=Nat.lt_of_le_of_lt (Nat.add_le_add_left (by decide:16<=64) _) hr.units
  refine⟨_,(aG (br (bw (abq (c:=A.aR) (P:=A.aN) (ps:=["due"]) (fs:=["ring"]) (fv:=[0]) rfl T.qP au T.R0 (jS.of rfl rfl rfl rfl (by rfl) (by rfl) (by repeat (first | exact trivial | refine⟨rfl,?_⟩)) (by rfl) (by rfl) (by rfl) (by decide +kernel)) rfl rfl rfl (λ_ _ _ _=>rfl) (λf c2 s2 H2=>(fH (aa (cQ Lm rfl T.uK boot_abs (aa (aX jd (aZ (HW T au) ((hr.mono (by decide)).in1.deeper _) rfl T.AG T.uC.kp T.AF .nil aL (aa (pv 0) ao)) (pv 1)) ao)) (aa (gm (K:=K) rfl (pv 0) rfl) ao)))) rfl kK aeY (pv 1)) rfl))),?_⟩
  walk_at "rdt";refine⟨ps,hd.l,by lia,T0,sZ (oH P' r b) ds,λj a H2 hj sb tb=>?_,λi a H2 hi least sb tb=>?_⟩
  ·have oz:j<ds.length:=by rw[← fc];exact eU hj
   refine(hd.kt (T0.oG sb)).el j a ds[j] hj (List.getElem?_eq_getElem oz) λdx ap l ts m b' bu hD=>?_;rw[Ey (List.getElem?_eq_getElem oz)];refine⟨a,ds[j],dx,ap,l,ts,m,b',bu,rfl,hD,hc _ (List.getElem_mem oz),_,rfl,_,rfl,_,rfl,_,_,_,hD.o,T.A0,T.uI,_,rfl,λp np=>⟨?_,λ_ _ e _=>ah.put np _ _ e,tb.same (ah.put np)⟩⟩
   show [V.int _,V.int _] = [V.int _,V.int _];congr 2;unfold oH;dsimp only;split <;> lia
  ·have kF:i<ds.length:=by rw[← fc];exact eU hi
   refine(hd.kt (T0.oG sb)).el i a ds[i] hi (List.getElem?_eq_getElem kF) λdx ap l ts m b' bu hD=>?_;rw[fc] at least;exact⟨_,_,_,hD.o,T.A0,T.uI,_,rfl,q _ H2 sb tb (abJ (λ_=>rfl) (List.getElem?_eq_getElem kF) least)⟩
theorem aeZ(T:Tx K mg A)(au:aY mg base A.aR A.aN):aO P w K mg base aU 4 A.zE A.zF ["self", "plate", "number", "ask"] (abj K [A.a_] A.aV A.bE):=by
 refine T.Qz.ok adB (λvs H Q E h=>?_) (λaH Ar outer s H vs Q E hr h=>?_)
 ·obtain⟨C,p,pl,ap,dx,n,P,fp,q',m,b,bu,rfl,_⟩:=h
  rfl
 ·obtain⟨C,p,pl,ap,dx,n,P,fp,q',m,b,bu,rfl,hp,hC,hP,jB,o9,ha,hf,hn,q⟩:=h;refine⟨_,(aE (cB (pv 0) (pv 2) rfl)
   (aE (cB (pv 0) (pv 3) rfl)
   (aG (cB (pv 0) (aZ (SX T au) (hr.mono (by decide)) rfl T.G_ T.AM.kp T.G9 .nil aL (aa (pv 1) (aa (pv 2) (aa (pv 3) ao)))) rfl)))),?_⟩
  wp_walk using T,hp;have S0:ap≠p:=λe=>by
   have:=ha.o;rw[e,hp] at this;simp[gk] at this
  have nm:m≠p:=λe=>by have:=ha.ms;rw[e,hp] at this;cases this
  have nb:b≠p:=λe=>by have:=ha.bh;rw[e,hp] at this;cases this
  have qW:bO K C (upd H p (HO.ins A.bE dx [("number",V.int n),("ask",V.ref ap)])) pl P fp:=hP.keep (az (Ne.symm jB)) λb hb=>az (λe=>o9 (e▸hb));have kW:dI K A.aV (upd H p (HO.ins A.bE dx [("number",V.int n),("ask",V.ref ap)])) ap q' m b bu:=⟨(az S0).trans ha.o,(az nm).trans ha.ms,(az nb).trans ha.bh⟩;have sb:SameBut p H (upd H p (HO.ins A.bE dx [("number",V.int n),("ask",V.ref ap)])):=(SameBut.of (ah.refl H)).put;have oM:upd H p (HO.ins A.bE dx [("number",V.int n),("ask",V.ref ap)]) p=some (HO.ins A.bE dx [("number",V.int n),("ask",V.ref ap)]):=aB;generalize upd H p (HO.ins A.bE dx [("number",V.int n),("ask",V.ref ap)])=H1 at qW kW sb oM ⊢;refine⟨C,pl,ap,n,P,fp,q',m,b,bu,rfl,hC,qW,kW,hf,hn,λl ts H2 s2 nl hz=>⟨_,_,_,s2 _ _ oM,T.A0,T.A1,by simp,?_⟩⟩
  have uS:=kW.same s2;have qV:l≠p:=bW oM nl |>.symm
  have By:H l=none:=by
   cases e:H l with
   | none=>rfl
   | some o =>
    have:=sb l o e qV;rw[nl] at this;cases this
  refine q l ts _ By (sb.step s2).put ⟨aB,⟨(az S0).trans uS.o,(az nm).trans uS.ms,(az nb).trans uS.bh⟩,hz.keep (az qV) λt ht=>az λe=>?_⟩
  obtain⟨i,hi,et⟩:=List.mem_iff_getElem.mp ht;have gi:i<(dX P.nc q'.first q'.many).length:=by rw[← hz.n];exact hi
  have:=hz.t i t _ (by rw[← et];exact List.getElem?_eq_getElem hi) (List.getElem?_eq_getElem gi)
  rw[e,s2 _ _ oM] at this;cases this
theorem ae0(T:Tx K mg A)(au:aY mg base A.aR A.aN):aO P w K mg base aU 4 A.zM A.zN ["plate", "asks"] (aa4 K [A.a_] A.aV):=by
 refine T.Hi.ok xU (λvs H Q E h=>?_) (λaH Ar outer s H vs Q E hr h=>?_)
 ·obtain⟨C,p,la,P,fp,ps,qs,rfl,_⟩:=h
  rfl
 ·obtain⟨C,p,la,P,fp,ps,qs,rfl,hC,hP,hn,ha,ok,q⟩:=h;refine⟨_,(aE (bz (i:=2) xU.nd rfl (Or.inl rfl) (dR ao))
   (aE (d_ PassesOwn.never rfl (sf rfl T.mS (aa (pv 1) ao)) (iL rfl (cO (bC (i:=3) xU.nd rfl (Or.inl rfl)) (cO (bC (i:=4) xU.nd rfl (Or.inl rfl)) iK)))
   (aE (dG (aZ (aew T au) (hr.mono (by decide)) rfl T.QC T.Hf.kp T.QB .nil aL (aa (pv 1) (aa (pv 3) ao))))
   (aE (dG (aZ (SX T au) (hr.mono (by decide)) rfl T.G_ T.AM.kp T.G9 .nil aL (aa (pv 0) (aa (pv 3) (aa (pv 4) ao)))))
   (aE (dG (aZ (aex T au) (hr.mono (by decide)) rfl T.QE T.Hg.kp T.QD .nil aL (aa (pv 1) (aa (pv 3) ao))))
   (aG (dG (lq PySem.F.plainAttrs_list PySem.F.slot_list_append PySem.F.type_list_append l6 (pv 2) (aa (aZ (aeO T au) (hr.mono (by decide)) rfl T.QG T.Hh.kp T.QF .nil aL (aa (pv 1) (aa (pv 3) ao))) ao))))))))
   (aG (br (pv 2))))),?_⟩
  walk_at "rdt";intro l hl;have sl:=ah.put (o:=.lst []) hl;have on:=ok.n;have an:=ha.n;refine re la (ps.map V.ref) (λk σ H'=>∃(x1 x2:Option V) (us:List Addr),σ = [some (.ref p),some (.ref la),some (.ref l),x1,x2]/\ah H H'/\(∀t∈us,H t=none)/\Zt H' l us (iB qs k)) (λQ q=>?_) (aA.of (sl _ _ ha.l)) ⟨none,none,[],rfl,sl,(λ_ h=>nomatch h),Zt.start⟩ (by rintro i σ H' _ ⟨_,_,_,rfl,s1,_⟩;exact aA.of (s1 _ _ ha.l)) ?_ ?_
  ·walk_at "rdm";exact q
  ·rintro k x σ H' T1 N hN hx ⟨x1,x2,us,rfl,s1,hu,hz⟩ hT;have Sw:k<ps.length:=by have:=(List.getElem?_eq_some_iff.mp hx).1;simpa using this
   have hk:k<qs.length:=by lia
   have ia:=List.getElem?_eq_getElem hk;obtain⟨ap,m,b,dx,e1,a1⟩:=ha.at ia;rw[e1] at hx;cases hx;have s2:=s1.trans (ah.put (o:=.tup [.int (k:Int),.ref ap]) hT);refine kG (bq.of aB) rfl ?_;walk_at "rdm";have uS:=ha.same s2;have a2:=a1.same s2;have fk:=ok.fit k _ ia;refine⟨la,ps,qs,k,_,rfl,uS,ia,λq0 h0 e0=>?_,?_⟩
   ·have:=ok.up (k - 1) q0 qs[k] e0 (by rw[show k - 1+1=k by lia];exact ia)
    exact this
   refine⟨C,p,ap,_,P,fp,_,m,b,dx,rfl,hC,hP.same s2,a2,fk.1,hn,λ_ _ H3 s3 _ _=>?_⟩;have o_:=s2.trans s3;have S2:=ha.same o_;refine⟨la,ps,qs,k,_,rfl,S2,ia,fk.2,ok.bh k _ ia,⟨⟨_,aA.of (s3 _ _ (ah.put hT _ _ hz.l))⟩,?_⟩⟩;refine⟨la,ps,qs,k,_,rfl,S2,ia,on,fk.2,λt H4 s4 nt ht=>?_⟩;have Ir:=((hz.same (ah.put (o:=.tup [.int (k:Int),.ref ap]) hT)).same s3).same s4;have zl:=Ir.n;unfold iB at zl;rw[List.length_map,List.length_range] at zl;have Iu:=o_.trans s4;refine⟨_,Ir.l,by rw[List.length_map];lia,hN _ _ ⟨_,_,us++[t],rfl,ah.put2 Iu hl,?_,?_⟩⟩
   ·intro t' j3;rcases List.mem_append.mp j3 with j3 | j3
    ·exact hu t' j3
    ·rw[List.mem_singleton.mp j3];exact o_.free nt
   ·unfold iB;rw[List.range_succ,List.map_append];exact Ir.aa0 ht
  ·rintro σ H' ⟨x1,x2,us,rfl,s1,hu,hz⟩;walk_at "rdm";rw[List.length_map,an] at hz;exact q _ _ _ s1 hl hu hz
theorem ae1(T:Tx K mg A)(au:aY mg base A.aR A.aN):aO P w K mg base aU 5 A.yy A.yz ["plate"] (acd K [A.a_] A.aV):=by
 refine T.GN.ok ade (λvs H Q E h=>?_) (λaH Ar outer s H vs Q E hr h=>?_)
 ·obtain⟨C,p,P',fp,n,rfl,_⟩:=h
  rfl
 ·obtain⟨C,p,P',fp,n,rfl,hC,hP,hn,q⟩:=h;refine⟨_,(aG (br (aZ (SY T au) (hr.mono (by decide)) rfl T.GH T.AE.kp T.OP (show Vals [.int 0,.aI,.aI] [.int 0 A.GA,.none,.none] from(.cons ⟨_,rfl⟩ (.cons rfl (.cons rfl .nil)))) aL (aa (l_ (pv 0) T.ad9 (aeM T au) (hr.mono (by decide)) T.Qv .nil aL (aa aC (aa aC ao))) (aa aC (aa aC ao)))))),?_⟩
  walk_at "rdt";obtain⟨dx,a1,a2,a3,a4,ts,fs,uP,hA⟩:=id hP;have r2:=hn.r2;have c1:=hn.c1;refine⟨C,dx,fs,hA.o,hC,hA.gj,C,p,P',fp,1,0,rfl,hC,hP,by lia,by lia,by lia,c1,λH1 s1=>?_⟩
  rw[hn.v];exact⟨n,1,0,0,none,.aI,[],rfl,⟨hn.n0,hn.n1,by lia,by lia,by lia,by lia,by lia,by lia,λx z=>nomatch z⟩,.inl ⟨rfl,rfl⟩,kI.nil,λa mk b dx H2 s2 na ha=>q a mk b dx H2 (s1.trans s2) (s1.free na) ha⟩
theorem ae2(T:Tx K mg A)(au:aY mg base A.aR A.aN):aO P w K mg base aU 5 A.yC A.yD ["count", "at", "asker"] (ace K A.aV):=by
 refine T.GO.ok adf (λvs H Q E h=>?_) (λaH Ar outer s H vs Q E hr h=>?_)
 ·obtain⟨c,a,s',rfl,_⟩:=h
  rfl
 ·obtain⟨c,a,s',rfl,c0,c1,ab,q⟩:=h;refine⟨_,(aG (br (gX (N:=["each", "at", "asker"]) (nt:=1) (fv:=[1,2]) (cS.of rfl rfl (by rfl) (by rfl) (by repeat (first | exact trivial | refine⟨rfl,?_⟩)) (by rfl) (by rfl) (by rfl) (by decide) (by decide +kernel)) rfl (rK rfl T.iI (aa (pv 0) ao)) (λC s H fp=>(bC (i:=0) (show List.Nodup (["each", "at", "asker"]:List Str) by decide +kernel) rfl (Or.inl rfl))) (λC s H fp=>jO) (λC s H fp=>(aZ (SY T au) (hr.mono (by decide)) rfl T.GH T.AE.kp T.OQ (show Vals [.aI,.aI] [.none,.none] from(.cons rfl (.cons rfl .nil))) aL (aa aC (aa aC (aa (pv 1) (aa (pv 2) ao))))))))),?_⟩
  walk_at "rdt";refine DW c (λD i ys aj H2=>∃(u:Option V) (ps:List Addr),ys=ps.map V.ref/\aj = [u,some (.int a),some (.int s')]/\i<=1000/\ah H H2/\H D=none/\c7 K A.aV H2 D ps (List.replicate i (mH 0 a s'))) (λQ q=>by walk_at "rdm";exact q) (by lia) (by lia) (λD nD=>⟨none,[],rfl,rfl,Nat.zero_le _,ah.put nD,nD,⟨aB,rfl,λi p' q' e=>by simp at e⟩⟩) (by
   rintro D i ys aj H2 ⟨u,ps,rfl,rfl,i1,s2,nD,hk⟩;have:=hk.n;rw[List.length_replicate] at this;exact⟨hk.l,by rw[List.length_map,l8];lia⟩) ?_ ?_
  ·rintro D i ys aj H2 N hN hi ⟨u,ps,rfl,rfl,i1,s2,nD,hk⟩;walk_at "rdm";refine⟨0,1,a,s',none,.aI,[],rfl,ab,.inl ⟨rfl,rfl⟩,kI.nil,λp mk b dx H3 s3 np ha=>?_⟩;have S3:=hk.same s3;refine⟨S3.l,hN _ _ _ ⟨_,ps++[p],by rw[List.map_append];rfl,rfl,by lia,ah.put2 (s2.trans s3) nD,nD,?_⟩⟩
   rw[List.replicate_succ'];exact S3.snoc ha
  ·rintro D ys aj H2 ⟨u,ps,rfl,rfl,i1,s2,nD,hk⟩;exact q D ps H2 s2 nD hk
theorem ae3(T:Tx K mg A)(au:aY mg base A.aR A.aN):aO P w K mg base aU 5 A.tW A.yQ ["self", "ring", "dues"] (N1 K A.aV A.bE A.bI false A.aN (iX d7) (iU "nearest_of")):=by
 refine T.Px.ok adn (λvs H Q E h=>?_) (λaH Ar outer s H vs Q E hr h=>?_)
 ·obtain⟨x,dx,B,st,r,D,ps,ds,P',b,rfl,_⟩:=h
  rfl
 ·obtain⟨x,dx,B,st,r,D,ps,ds,P',b,rfl,hx,hd,d1,gK,hc,T0,q⟩:=h;have jZ:=hx.o;unfold iG at jZ;refine⟨_,(aE (ou (bY (j7 (vO (aZ (Ic T au) (hr.mono (by decide)) rfl T.AL T.uE.kp T.AK .nil aL (aa (bw (pv 0) rfl) (aa (pv 1) (aa (pv 2) ao)))) (λ_=>rfl))) (aG (cB (pv 0) (K3 (bw (pv 0) rfl)) rfl)) cj))
   (aG (br (aZ (Iq T au) (hr.mono (by decide)) rfl T.AI T.uD.kp T.AH .nil aL (aa (pv 1) (aa (aZ (Ic T au) (hr.mono (by decide)) rfl T.AL T.uE.kp T.AK .nil aL (aa (bw (pv 0) rfl) (aa (pv 1) (aa (pv 2) ao)))) ao)))))),?_⟩
  wp_walk using T,jZ;refine⟨λσ H1=>σ = [some (.ref x),some (.int r),some (.ref D)]/\bV x H H1/\bH A.aN (iX d7) (iU "nearest_of") H1/\dO A.bI H1 x (lE st r ds) dx B/\eV K A.aV A.bE H1 D ps ds,?_,?_⟩
  ·refine⟨st.i,r,D,ps,ds,rfl,hd,gK,hc,λD' fO H1 s1 S4 cK=>?_⟩;have dN:=hx.same s1;have kU:=s1 _ _ jZ;have hl:(dJ st.i r ds).length=fO.length:=cK.n.symm;refine⟨_,.inl ⟨_,aA.of cK.l,rfl⟩,dH (λh0=>?_) λh0=>?_⟩
   ·have hz:(dJ st.i r ds).length=0:=by
     rw[hl];cases fO with
     | nil=>rfl
     | cons _ _=>cases h0
    refine⟨_,_,_,kU,T.mR,T.qM,_,rfl,_,rfl,_,_,_,kU,T.mR,T.qM,by simp,rfl,?_,T0.same s1 |>.but (SameBut.of (ah.refl H1)).put kU,?_,?_⟩
    ·exact(bV.of (SameBut.of s1)).trans (bV.of (SameBut.of (ah.refl H1)).put)
    ·obtain⟨kvs,k1,k2⟩:=dN.d;refine⟨?_,kvs,?_,k2⟩
     ·rw[aB];unfold lE;rw[if_pos hz]
      rfl
     ·rw[az (λz=>by rw[z,kU] at k1;cases k1)];exact k1
    ·exact(hd.same s1).kt (dN.oG (SameBut.of (ah.refl H1)).put)
   ·have hz:¬ (dJ st.i r ds).length=0:=λz=>by
     rw[hl] at z;rw[List.length_eq_zero_iff.mp z] at h0;exact h0 rfl
    refine⟨rfl,bV.of (SameBut.of s1),T0.same s1,?_,hd.same s1⟩;unfold lE;rw[if_neg hz];exact dN
  ·rintro σ H1 ⟨rfl,kt,T1,dN,cK⟩;have kU:=dN.o;unfold iG at kU;wp_walk using T,kU;refine⟨_,r,D,ps,ds,rfl,cK,gK,hc,λD' fO H2 s2 S4 hd2=>?_⟩;have:=xy (lE st r ds).i r ds;exact⟨r,D',fO,_,P',b,rfl,hd2,abN d1,by lia,λd h=>hc d (xA h),T1.same s2,λd H3 sb tb best=>q d H3 ((kt.trans (bV.of (SameBut.of s2))).trans ((T1.same s2).tD sb)) tb ((dN.same s2).tab (T1.same s2) sb) best⟩
theorem ae4(T:Tx K mg A)(au:aY mg base A.aR A.aN):aO P w K mg base aU 5 A.tX A.yR ["self", "ring", "dues"] (N1 K A.aV A.bE A.bM true A.aN (iX d7) (iU "nearest_of")):=by
 refine T.PB.ok Oz (λvs H Q E h=>?_) (λaH Ar outer s H vs Q E hr h=>?_)
 ·obtain⟨x,dx,B,st,r,D,ps,ds,P',b,rfl,_⟩:=h
  rfl
 ·obtain⟨x,dx,B,st,r,D,ps,ds,P',b,rfl,hx,hd,d1,gK,hc,T0,q⟩:=h;refine⟨_,(aE (bz (i:=3) Oz.nd rfl (Or.inl rfl) (aZ (Ic T au) (hr.mono (by decide)) rfl T.AL T.uE.kp T.AK .nil aL (aa gQ (aa (pv 1) (aa (pv 2) ao)))))
   (aE (bY (vO (pv 3) (λ_=>rfl)) (aG (br (aZ (Iq T au) (hr.mono (by decide)) rfl T.AI T.uD.kp T.AH .nil aL (aa (pv 1) (aa (pv 3) ao))))) cj)
   (aG (br (aZ (Iq T au) (hr.mono (by decide)) rfl T.AI T.uD.kp T.AH .nil aL (aa aC (aa (pv 2) ao))))))),?_⟩
  walk_at "rdm";refine⟨true,r,D,ps,ds,rfl,hd,gK,hc,λD' fO H1 s1 S4 cK=>?_⟩;have hl:(dJ true r ds).length=fO.length:=cK.n.symm;have le:=xy true r ds;have T1:=T0.same s1;unfold qu mG at q;rw[if_pos rfl,if_pos rfl] at q;refine⟨_,.inl ⟨_,aA.of cK.l,rfl⟩,dH (λh0=>?_) λh0=>?_⟩
  ·have hz:¬ (dJ true r ds).length=0:=λz=>by
    rw[hl] at z;rw[List.length_eq_zero_iff.mp z] at h0;cases h0
   rw[if_neg hz,if_neg hz] at q;exact⟨r,D',fO,_,P',b,rfl,cK,by lia,by lia,λd h=>hc d (xA h),T1,λd H3 sb tb best=>q d H3 ((bV.of (SameBut.of s1)).trans (T1.tD sb)) tb ((hx.same s1).tab T1 sb) best⟩
  ·have hz:(dJ true r ds).length=0:=by
    rw[hl];cases fO with
    | nil=>rfl
    | cons _ _=>exact absurd rfl h0
   rw[if_pos hz,if_pos hz] at q;exact⟨0,D,ps,ds,P',b,rfl,hd.same s1,d1,gK,hc,T1,λd H3 sb tb best=>q d H3 ((bV.of (SameBut.of s1)).trans (T1.tD sb)) tb ((hx.same s1).tab T1 sb) best⟩
theorem ae5(T:Tx K mg A)(au:aY mg base A.aR A.aN):aO P w K mg base aU 5 A.zX A.zY ["self", "number"] (acs K [A.a_] A.bA A.aV A.bE):=by
 refine T.QX.ok Gz (λvs H Q E h=>?_) (λaH Ar outer s H vs Q E hr h=>?_)
 ·obtain⟨C,x,dx,kp,ks,kk,p,P',fp,r,b,Dx,ls,y,rfl,_⟩:=h
  rfl
 ·obtain⟨C,x,dx,kp,ks,kk,p,P',fp,r,b,Dx,ls,y,rfl,hc,hy,hC,hP,pk,r0,r1,ci,c1,c2,q⟩:=h;have ho:=hc.o;unfold dB at ho;have n3:=hc.ne;refine⟨_,(aE (bz (i:=2) Gz.nd rfl (Or.inl rfl) (YL (bw (pv 0) rfl) (pv 1) ⟨rfl,rfl,rfl,rfl⟩))
   (aE (DL (i:=3) Gz.nd rfl (Or.inl rfl) (N:=["ring", "place", "begun", "ended", "number"]) (nt:=4) (fv:=[1]) (cS.of rfl rfl (by rfl) (by rfl) (by repeat (first | exact trivial | refine⟨rfl,?_⟩)) (by rfl) (by rfl) (by rfl) (by decide) (by decide +kernel)) rfl (e7 (aZ (aeX T au) (hr.mono (by decide)) rfl T.OW T.GK.kp T.OV .nil aL (aa (bw (pv 0) rfl) (aa (bw (pv 0) rfl) (aa (bw (pv 0) rfl) (aa (bw (pv 2) rfl) ao)))))) (λC s H fp=>(ZX (K:=K) (n:=4) rfl rfl (cO (bC (i:=0) (show List.Nodup (["ring", "place", "begun", "ended", "number"]:List Str) by decide +kernel) rfl (Or.inl rfl)) (cO (bC (i:=1) (show List.Nodup (["ring", "place", "begun", "ended", "number"]:List Str) by decide +kernel) rfl (Or.inl rfl)) (cO (bC (i:=2) (show List.Nodup (["ring", "place", "begun", "ended", "number"]:List Str) by decide +kernel) rfl (Or.inl rfl)) (cO (bC (i:=3) (show List.Nodup (["ring", "place", "begun", "ended", "number"]:List Str) by decide +kernel) rfl (Or.inl rfl)) iK)))))) (λC s H fp=>jO) (λC s H fp=>(fH (aa (pv 4) (aa (pv 0) (aa (pv 1) (aa (pv 2) (aa (pv 3) ao))))))))
   (aE (cB (pv 0) (bS jG (bS cR (pv 3) (pL pM aC) (λ_ _=>rfl)) aC (λ_ _=>rfl)) rfl)
   (aE (cB (pv 0) (bS jG (bS cR (pv 3) (pL pM aC) (λ_ _=>rfl)) aC (λ_ _=>rfl)) rfl)
   (aG (br (pv 3))))))),?_⟩
  wp_walk using T,L8,ho;refine⟨.inl ⟨_,.inl hc.d⟩,_,hc.d,cD y.1.n,rfl,_,aco hc.up hy,?_⟩;rw[N8];generalize qq:ls.filter (λz=>decide (z.1.n≠y.1.n))=cT at *
  have sub:cT.Sublist ls:=qq▸List.filter_sublist;have s1:bL x Dx H (upd H Dx (.dK (cE cT))):=(bL.of (λ_ _ e=>e)).qy;have eE:=hc.step s1 sub (by rw[az n3];exact hc.o) aB
  have qW:=hc.EN s1 hP;have hy1:=hc.qA s1 (hc.t y hy);generalize upd H Dx (.dK (cE cT))=H1 at *
  obtain⟨dm,ap,l,ts,m,b',bu,hD⟩:=hy1;have dM:=hD.o;unfold iC at dM;have jz:=eE.o;unfold dB at jz;refine N6 ?_;wp_walk using T,jz,dM;refine⟨C,p,P',fp,r,b,l,ts,y.1.c,rfl,hC,qW,pk,r0,r1,hD.c,ci,c2,λlw tw H2 s2 nlw _ hw=>?_⟩;have wl:=wK P' y.1.c (r,b);have w4:=D0 P' y.1.c (r,b);obtain⟨zs,wa,wb,we⟩:=acm P' (r,b) (xs:=y.1.c) (λz=>by rw[z] at c1;simp at c1)
  generalize fq P' (r,b) y.1.c=wy at *
  have S5:=hw.n;refine jQ lw (tw.map V.ref) (λD i ys aj H3=>∃(u1 u2 u3 u4:Option V) (us:List Addr),ys=us.map V.ref/\aj = [u1,u2,u3,u4,some (.int y.1.n)]/\i<=wy.length/\Zt H3 D us ((wy.take i).map λrow=>y.1.n::row)/\ah H2 H3/\H2 D=none) (λQ q=>q) (aA.of hw.l) ?_ ?_ ?_ ?_
  ·intro D nD;exact⟨none,none,none,none,[],rfl,rfl,Nat.zero_le _,Zt.start,ah.put nD,nD⟩
  ·rintro D i ys aj H3 ⟨u1,u2,u3,u4,us,rfl,rfl,hi,hz,s3,nD⟩;have:=hz.n;rw[List.length_map,List.length_take] at this;exact⟨hz.l,by rw[List.length_map,l8];lia,aA.of (s3 _ _ hw.l)⟩
  ·rintro D i v ys aj H3 N hN hv ⟨u1,u2,u3,u4,us,rfl,rfl,hi,hz,s3,nD⟩;obtain⟨t,ht,rfl⟩:=eT hv;have gi:i<wy.length:=by rw[← S5];exact eU ht
   have lZ:=List.getElem?_eq_getElem gi;have hT:=s3 _ _ (hw.t i t _ ht lZ);obtain⟨q1,q2,q3,q4,e4⟩:=acn (w4 _ (List.getElem_mem gi));rw[e4] at hT lZ;walk_at "rdt";refine⟨_,bq.of hT,rfl,_,_,rfl,_,_,rfl,_,_,rfl,_,_,rfl,rfl,λpt np=>?_⟩;have o7:=hz.snoc np (y.1.n::[q1,q2,q3,q4]);refine⟨by rw[az (bW hz.l np)];exact hz.l,hN _ _ _ ⟨_,_,_,_,us++[pt],by rw[List.map_append];rfl,rfl,by lia,?_,ah.put2 (s3.trans (ah.put np)) nD,nD⟩⟩
   rw[take_succ_get lZ,List.map_append];exact o7
  ·rintro D ys aj H3 ⟨u1,u2,u3,u4,us,rfl,rfl,hi,hz,s3,nD⟩;rw[List.length_map,S5,List.take_length,we,List.map_append] at hz;obtain⟨S6,t,rfl,ht⟩:=hz.last;have S7:=s2.trans s3;have iZ:=eE.same S7;have BC:=iZ.o;unfold dB at BC;have nDx:D≠x:=λz=>by have:=hz.l;rw[z,BC] at this;cases this
   have ntx:t≠x:=λz=>by rw[z,BC] at ht;cases ht
   have hl:fj ((S6++[t]).map V.ref) (-1)=some (.ref t):=by rw[List.map_append];exact LK _ _
   refine⟨D,rfl,_,aA.of hz.l,_,hl,t,rfl,_,bq.of ht,_,gC (j:=1) rfl,_,_,_,BC,T.lK,T.A2,by simp,D,rfl,_,aA.of (by rw[az nDx];exact hz.l),_,hl,t,rfl,_,bq.of (by rw[az ntx];exact ht),_,gC (j:=4) rfl,T.lK,T.uJ,by simp[f9,gF,DS],?_⟩
   walk_at "rdm";have bc:bL x Dx H1 (upd H3 x (.ins A.bA dx (dB kp p (dw P' (r,b) y.1.c).1 (dw P' (r,b) y.1.c).2 Dx))):=(bL.of S7).EM;refine q D (S6++[t]) _ (s1.trans bc) (eE.free s1 (s2.free nD)) (eE.step bc (.refl _) aB (by rw[az (Ne.symm n3)];exact iZ.d)) ?_
   have:=iZ.zt (H':=upd H3 x (.ins A.bA dx (dB kp p (dw P' (r,b) y.1.c).1 (dw P' (r,b) y.1.c).2 Dx))) ((bL.of (λ_ _ e=>e)).EM) hz;rw[we,List.map_append];exact this
theorem ae6(T:Tx K mg A)(au:aY mg base A.aR A.aN):aO P w K mg base aU 5 A.Ao A.Aq ["_law_script"] (acL K A.a_):=by
 refine T.Hu.ok iY (λvs H Q E h=>?_) (λaH Ar outer s H vs Q E hr h=>?_)
 ·obtain⟨sc,ns,rfl,_⟩:=h
  rfl
 ·obtain⟨sc,ns,rfl,hS,mV,q⟩:=h;have hu:=ji hr;refine⟨_,(aE (bz (i:=1) iY.nd rfl (Or.inl rfl) (aZ (aeS T au) (hr.mono (by decide)) rfl T.Ri T.Ht.kp T.Rh .nil aL (aa (aZ (qU T au) (hr.mono (by decide)) rfl T.oW T.mQ.kp T.oV .nil aL (aa (pv 0) (aa aC ao))) ao)))
   (aE (bz (i:=2) iY.nd rfl (Or.inl rfl) (aZ (qU T au) (hr.mono (by decide)) rfl T.oW T.mQ.kp T.oV .nil aL (aa (pv 0) (aa aC ao))))
   (aE (bz (i:=3) iY.nd rfl (Or.inl rfl) aC)
   (aE (bz (i:=4) iY.nd rfl (Or.inl rfl) (dR ao))
   (aE (d_ PassesOwn.never rfl (e7 (pv 1)) (iL rfl (cO (bC (i:=5) iY.nd rfl (Or.inl rfl)) (cO (bC (i:=6) iY.nd rfl (Or.inl rfl)) iK)))
   (aE (bz (i:=3) iY.nd rfl (Or.inl rfl) (aX kh (pv 3) (pv 6)))
   (aG (bz (i:=4) iY.nd rfl (Or.inl rfl) (aX Dn (pv 4) (aX vY (dR (aa (pv 6) ao)) (pv 5)))))))
   (aE (bz (i:=7) iY.nd rfl (Or.inl rfl) (aX kh (pv 3) (aX cJ aC (aZ (gr T au) (hr.mono (by decide)) rfl T.fW T.fB.kp T.fV .nil aL (aa (pv 2) (aa aC (aa aC ao)))))))
   (aE (ou (bY (bG kj (aZ (gr T au) (hr.mono (by decide)) rfl T.fW T.fB.kp T.fV .nil aL (aa (pv 2) (aa aC (aa aC ao)))) aC (bD _)) (aG (bz (i:=7) iY.nd rfl (Or.inl rfl) (aX kh (pv 3) (aX cJ aC (aX lW (pv 2) (aX vM (aX Le aC aC) (pv 3))))))) cj))
   (aE (bz (i:=8) iY.nd rfl (Or.inl rfl) (aX lW (aZ (qU T au) (hr.mono (by decide)) rfl T.oW T.mQ.kp T.oV .nil aL (aa (pv 0) (aa aC ao))) (pv 7)))
   (aE (bz (i:=9) iY.nd rfl (Or.inl rfl) (aZ (aeR T au) (hr.mono (by decide)) rfl T.Rg T.Hs.kp T.Rf .nil aL (aa (aZ (qU T au) (hr.mono (by decide)) rfl T.oW T.mQ.kp T.oV .nil aL (aa (pv 0) (aa aC ao))) (aa (cQ gT rfl T.fD boot_len (aa (pv 4) ao)) ao))))
   (aG (br (fH (aa (nI T.RC (aeW T au) (hr.mono (by decide)) rfl T.RD T.P7 .nil aL (aa (pv 1) (aa (pv 7) (aa (pv 8) (aa (pv 9) ao))))) (aa (fH (aa (pv 4) (aa (pv 7) (aa (pv 8) (aa (pv 9) ao))))) ao)))))))))))))),?_⟩
  wp_walk using iV,qt;refine⟨ns,hS,mV,_,rfl,λl ts z H1 s1 nl hz zl=>⟨ns,s1.seq hS,mV,λc0 Iv=>?_⟩⟩;generalize kN ns 1=c;have bd:∀i,1<=cZ (z.take i)/\cZ (z.take i)<=777600000:=λi=>by
   have h1:=wI (m:=60) (by decide) (z.take i) λp hp=>(zl.ok.r p (List.mem_of_mem_take hp)).2.2
   have h2:=MD (m:=60) (by decide) (show (z.take i).length<=5 by have:=zl.ok.l5;rw[List.length_take];lia)
   have e:(60:Int) ^ 5=777600000:=by decide
   lia
  refine rl l (ts.map V.ref) (λi σ H2=>∃(r d:Option V) (ca:Addr),σ = [some (.ref sc),some (.ref l),some (.int c),some (.int (cZ (z.take i))),some (.ref ca),r,d,none,none,none]/\ah H1 H2/\H1 ca=none/\H2 ca=some (.lst ((counts (z.take i)).map V.int))) (λQ q=>⟨_,rfl,q⟩) (hz.same (ah.put Iv)).sq ⟨none,none,c0,rfl,ah.put Iv,Iv,aB⟩ (by rintro i σ H2 _ ⟨r,d,ca,rfl,s2,_⟩;exact(hz.same s2).sq) ?_ ?_
  ·rintro i x σ H2 N hN uT ⟨r,d,ca,rfl,s2,nca,uU⟩;obtain⟨t,p,rfl,hp,ht⟩:=(hz.same s2).at uT;refine kG (bq.of ht) rfl ?_;walk_at "rdm";have b:=bd i;have pr:=zl.ok.r p (get_mem hp);have cl:=Mv zl.ok i;refine⟨.inl ⟨by lia,by lia⟩,λp1 n1=>⟨by lia,by lia,by lia,λp2 n2=>?_⟩⟩
   rw[Nv];have sa1:=ah.put (o:=.lst [V.int p.2]) n1;have Iw:=sa1.trans (ah.put (o:=.lst ((List.replicate p.1.toNat p.2).map V.int)) n2);refine⟨_,Iw _ _ uU,by rw[List.length_map,List.length_map,List.length_replicate];lia,λp3 n3=>hN _ _ ⟨some (.int p.1),some (.int p.2),p3,?_,(s2.trans Iw).trans (ah.put n3),(s2.trans Iw).free n3,?_⟩⟩
   ·rw[take_succ_get hp,ZW]
   ·rw[aB,abf hp,List.map_append]
  ·rintro σ H2 ⟨r,d,ca,rfl,s2,nca,uU⟩;rw[lenZ hz.n,List.take_length] at uU ⊢;have hb:=bd z.length;rw[List.take_length] at hb;wp_walk using iV,qt;have y7:=iE c 16 (m:=9) (by decide)
   have hq:1<=1000000000 / cZ z:=(Int.le_ediv_iff_mul_le (by lia)).mpr (by lia)
   have S8:=Int.emod_nonneg c (show 1000000000 / cZ z≠0 by lia)
   have S9:=Int.emod_lt_of_pos c (show 0<1000000000 / cZ z by lia)
   have w1:=Nu zl y7.1 (.inl (by lia))
   have w2:=Nu zl S8 (.inr S9);refine⟨.inl ⟨by lia,by lia⟩,λσ H3=>∃aM,σ = [some (.ref sc),some (.ref l),some (.int c),some (.int (cZ z)),some (.ref ca),r,d,some (.int aM),none,none]/\H3=H2/\1<=aM/\aM<=1000000000/\∀p∈z,aM % p.2=0,
    dH (λ_=>?_) (λ_=>⟨_,rfl,rfl,w1.1,w1.2.1,w1.2.2⟩),?_⟩
   ·exact⟨by decide,by lia,by lia,by lia,.inl ⟨by lia,by lia⟩,_,rfl,rfl,w2.1,w2.2.1,w2.2.2⟩
   ·rintro σ H3 ⟨aM,rfl,rfl,l1,l2,l3⟩;have cl:=p8 z λp hp=>(zl.ok.r p hp).1;have MK:=zl.sm;have c2:=zl.ok.s2;have cm:∀c∈counts z,1<=c/\c<=60:=λc hc=>by
     obtain⟨y,hy,rfl⟩:=sr hc;have:=zl.ok.r y hy;lia
    wp_walk using iV,qt;have Iz:=s1.trans s2;have S_:=Iz.seq hS;refine⟨ns,S_,mV,by lia,ns,S_,mV,_,.inl (aA.of uU),_,_,rfl,by rw[List.length_map];lia,by rw[List.length_map];lia,λsa sw H4 s4 Ik DM so=>?_⟩
    rw[List.length_map,cl] at so;have k0:=Int.emod_nonneg (kN ns 2) (show aM≠0 by lia)
    have k1:=Int.emod_lt_of_pos (kN ns 2) (show 0<aM by lia)
    have aj0:=s4 _ _ uU;have ok:qj z aM (kN ns 2 % aM) sw:=⟨zl,l1,l2,l3,k0,k1,so⟩;generalize kN ns 2 % aM=sk at *
    intro x dx nx sI nxd;have Iu:=(s1.trans s2).trans s4;have hz5:=(hz.same s2).same s4;have lB:=ah.put (o:=.own x) sI;have jB:upd H4 dx (.own x) x=none:=by rw[az (Ne.symm nxd)];exact nx
    have IA:=lB.trans (ah.put (o:=.ins A.a_ dx []) jB);refine⟨A.a_,x,dx,l,sa,ts,z,aM,sk,sw,rfl,T.ad3,aB,hz5.same IA,zl.ok,ok.l1,ok.l2,ok.k0,ok.k1,ok.l3,aA.of (IA _ _ DM),ok.so,λH6 dx1 b1 b2 b3 b4 Tc sb nf hp6 hA=>⟨rfl,λwt nwt t nt=>?_⟩⟩;have s56:ah H4 H6:=λb o e=>sb _ _ (IA _ _ e) (bW e nx);have s6:=(ah.put (o:=.tup [V.ref ca,V.int aM,V.int sk,V.ref sa]) nwt).trans (ah.put (o:=.tup [V.ref x,V.ref wt]) nt);exact q t x wt z aM sk sw (b1::b2::b3::b4::Tc) _ ((Iu.trans s56).trans s6) aB (bO.same ⟨dx1,b1,b2,b3,b4,Tc,_,rfl,hA⟩ s6) ok
theorem ae7(T:Tx K mg A)(au:aY mg base A.aR A.aN):aO P w K mg base aU 6 A.yE A.yF ["plate", "most"] (acf K [A.a_] A.aV):=by
 refine T.GP.ok adg (λvs H Q E h=>?_) (λaH Ar outer s H vs Q E hr h=>?_)
 ·obtain⟨C,p,P',fp,n,most,rfl,_⟩:=h
  rfl
 ·obtain⟨C,p,P',fp,n,most,rfl,hC,hP,hn,m0,m1,q⟩:=h;refine⟨_,(aG (br (aX Dn (dR (aa (aZ (ae1 T au) (hr.mono (by decide)) rfl T.O8 T.GN.kp T.O7 .nil aL (aa (pv 0) ao)) ao)) (aZ (ae2 T au) (hr.mono (by decide)) rfl T.O_ T.GO.kp T.O9 .nil aL (aa (aX jd (pv 1) aC) (aa aC (aa aC ao))))))),?_⟩
  walk_at "rdt";refine⟨C,p,P',fp,n,rfl,hC,hP,hn,λa mk b dx H1 s1 na ha l1 nl1=>?_⟩;have s2:=ah.put (o:=.lst [V.ref a]) nl1;have h1:c7 K A.aV (upd H1 l1 (.lst [V.ref a])) l1 [a] [mH n 0 0]:=⟨aB,rfl,λi p' q' e1 e2=>by
   cases i with
   | zero=>cases e1;cases e2;exact⟨mk,b,dx,ha.same s2⟩
   | succ i=>simp at e1⟩
  refine⟨most - 1,0,0,rfl,by lia,by lia,⟨by lia,by lia,by lia,by lia,by lia,by lia,by lia,by lia,λx z=>nomatch z⟩,λl ps H2 s3 nl h2=>?_⟩
  have sS:=h1.same s3;refine⟨l,rfl,_,sS.l,_,h2.l,?_,λp3 n3=>?_⟩
  ·have:=h2.n;rw[List.length_replicate] at this;simp;lia
  ·exact q _ _ _ ((s1.trans s2).trans (s3.trans (ah.put n3))) (((s1.trans s2).trans s3).free n3) (sS.cat h2 n3)
theorem ae8(T:Tx K mg A)(au:aY mg base A.aR A.aN):aO P w K mg base aU 6 A.qK A.yO ["self", "plate", "ring", "beat", "dues"] (aci K A.aV A.bE A.bI A.bM A.aN (iX d7) (iU "nearest_of")):=by
 refine T.Pj.ok adl (λvs H Q E h=>?_) (λaH Ar outer s H vs Q E hr h=>?_)
 ·obtain⟨C,x,dx,B,sw,st,p,r,b,D,ps,ds,P',rfl,_⟩:=h
  rfl
 ·obtain⟨C,x,dx,B,sw,st,p,r,b,D,ps,ds,P',rfl,hk,hK,hx,hd,d1,gK,hc,T0,q⟩:=h;have jZ:=hx.o;unfold iG at jZ;refine⟨_,(aG (br (NH (pv 0) T.aeb (ae3 T au) (hr.mono (by decide)) T.Py T.aec (ae4 T au) (hr.mono (by decide)) T.PD aL (aa (pv 2) (aa (l_ (pv 0) T.aea (aeJ T au) (hr.mono (by decide)) T.Pr .nil aL (aa (pv 4) ao)) ao))))),?_⟩
  wp_walk using T,jZ;have kt:=λ{H1:Hp} (sb:SameBut x H H1)=>bV.of sb;have le:=abO st ds;rcases hk with⟨rfl,rfl⟩ | ⟨rfl,rfl⟩
  ·exact .inl ⟨by simp,by simp,A.bI,x,dx,B,st,D,ps,ds,rfl,by simp,hK,hx,hd,gK,λD' fO B' H1 bB sb dN cK=>⟨x,dx,B',eG st ds,r,D',fO,eW st ds,P',b,rfl,dN,cK,NP d1,by lia,λd h=>hc d (EA h),T0.but sb hx.o,λd H2 IB T2 uT best=>q d B' H2 bB ((kt sb).trans IB) T2 uT best⟩⟩
  ·exact .inr ⟨by simp,by simp,A.bM,x,dx,B,st,D,ps,ds,rfl,by simp,hK,hx,hd,gK,λD' fO B' H1 bB sb dN cK=>⟨x,dx,B',eG st ds,r,D',fO,eW st ds,P',b,rfl,dN,cK,NP d1,by lia,λd h=>hc d (EA h),T0.but sb hx.o,λd H2 IB T2 uT best=>q d B' H2 bB ((kt sb).trans IB) T2 uT best⟩⟩
theorem ae9(T:Tx K mg A)(au:aY mg base A.aR A.aN):aO P w K mg base aU 6 A.zO A.zP ["self", "plate", "asks", "ring"] (acy K [A.a_] A.bA A.aV A.bE):=by
 refine T.QJ.ok Gy (λvs H Q E h=>?_) (λaH Ar outer s H vs Q E hr h=>?_)
 ·obtain⟨C,x,dx,p,la,P',fp,ps,qs,r,rfl,_⟩:=h
  rfl
 ·obtain⟨C,x,dx,p,la,P',fp,ps,qs,r,rfl,hx,hC,hP,pn,ha,ok,nr,q⟩:=h;have hu:=ji hr;refine⟨_,(aE (cB (pv 0) (aZ (ae0 T au) (hr.mono (by decide)) rfl T.QI T.Hi.kp T.QH .nil aL (aa (pv 1) (aa (pv 2) ao))) rfl)
   (aE (cB (pv 0) (pv 1) rfl)
   (aE (cB (pv 0) (pv 3) rfl)
   (aE (cB (pv 0) aC rfl)
   (aE (cB (pv 0) rX rfl)
   (aG (d_ PassesOwn.never rfl (sf rfl T.mS (aa (pv 2) ao)) (iL rfl (cO (bC (i:=4) Gy.nd rfl (Or.inl rfl)) (cO (bC (i:=5) Gy.nd rfl (Or.inl rfl)) iK)))
   (aG (bY (bG kq (bw (pv 5) rfl) cA (bD _)) (aG (wc hu (bw (pv 0) rfl) (pv 4) (nI T.RE (aeZ T au) (hr.mono (by decide)) rfl T.RG T.QA .nil aL (aa (pv 1) (aa (pv 4) (aa (pv 5) ao)))) rfl)) cj))))))))),?_⟩
  walk_at "rdt";refine⟨C,p,la,P',fp,ps,qs,rfl,hC,hP,pn,ha,ok,λkp ks H1 s1 nk nks hz=>?_⟩;have dN:=s1 _ _ hx;wp_walk using T,dN;intro Dx BD;have xD:x≠Dx:=λz=>by rw[← z,aB] at BD;cases BD
  have nD:H1 Dx=none:=by rw[az (Ne.symm xD)] at BD;exact BD
  refine⟨_,_,_,by rw[az xD,aB],T.lK,T.A3,by simp,?_⟩
  walk_at "rdm";have sb:SameBut x H1 (upd (upd (upd H1 x (.ins A.bA dx [("keeping",V.ref kp),("plate",V.ref p),("ring",V.int r),("beat",V.int 0)])) Dx (.dK [])) x (.ins A.bA dx (dB kp p r 0 Dx))):=λc o e n=>by
   rw[az n,az (λz=>by rw[z,nD] at e;cases e),az n];exact e
  have hc:bF K A.bA A.aV A.bE (upd (upd (upd H1 x (.ins A.bA dx [("keeping",V.ref kp),("plate",V.ref p),("ring",V.int r),("beat",V.int 0)])) Dx (.dK [])) x (.ins A.bA dx (dB kp p r 0 Dx))) x dx kp ks (iB qs qs.length) p r 0 Dx [] :=
   ⟨aB,acu dN sb hz,by rw[az (Ne.symm xD),aB];rfl,(λ_ h=>nomatch h),List.Pairwise.nil,Nat.zero_le _,λ_ h=>nomatch h⟩
  show jc _ _ _ _ _ (upd (upd (upd H1 x (.ins A.bA dx [("keeping",V.ref kp),("plate",V.ref p),("ring",V.int r),("beat",V.int 0)])) Dx (.dK [])) x (.ins A.bA dx (dB kp p r 0 Dx)));generalize upd (upd (upd H1 x (.ins A.bA dx [("keeping",V.ref kp),("plate",V.ref p),("ring",V.int r),("beat",V.int 0)])) Dx (.dK [])) x (.ins A.bA dx (dB kp p r 0 Dx))=H2 at *
  have kW:=ha.same s1;have qW:=hP.same s1;have an:=ha.n;have on:=ok.n;have ol:(iB qs qs.length).length=qs.length:=by unfold iB;rw[List.length_map,List.length_range]
  refine re la (ps.map V.ref) (λk σ H'=>∃(x1 x2:Option V) (ls:List (Dr×Addr)),σ = [some (.ref x),some (.ref p),some (.ref la),some (.int r),x1,x2]/\SameBut x H1 H'/\bF K A.bA A.aV A.bE H' x dx kp ks (iB qs qs.length) p r 0 Dx ls/\ls.map (·.1)=dD P'.nc 0 (qs.take k)) (λQ q=>?_) (aA.of (qB dN sb kW.l)) ⟨none,none,[],rfl,sb,hc,rfl⟩ (by rintro i σ H' _ ⟨_,_,_,rfl,s1,_⟩;exact aA.of (qB dN s1 kW.l)) ?_ ?_
  ·walk_at "rdm";exact q
  ·rintro k v σ H' T1 N hN hv ⟨x1,x2,ls,rfl,s2,iz,el⟩ hT;have Sw:k<ps.length:=by have:=(List.getElem?_eq_some_iff.mp hv).1;simpa using this
   have hk:k<qs.length:=by lia
   have ia:=List.getElem?_eq_getElem hk;obtain⟨ap,m,b,da,e1,a1⟩:=kW.at ia;rw[e1] at hv;cases hv;have s3:=ah.put (o:=.tup [.int (k:Int),.ref ap]) hT;refine kG (bq.of aB) rfl ?_;have iZ:=iz.same s3;have o_:=s2.step s3;generalize upd H' T1 (.tup [.int (k:Int),.ref ap])=H3 at *
   have a3:=acv dN o_ a1;have IC:=acw dN o_ qW;have nk:=nr _ (List.getElem_mem hk);have Td:=a3.o;unfold gk at Td;wp_walk using T,Td;rw[if_pos nk];intro y dy ny ndy nn;have s4:ah H3 (upd (upd H3 dy (.own y)) y (.ins A.bE dy [])):=(ah.put ndy).trans (ah.put (by rw[az (Ne.symm nn)];exact ny))
   have hy4:upd (upd H3 dy (.own y)) y (.ins A.bE dy []) y=some (.ins A.bE dy []):=aB;generalize upd (upd H3 dy (.own y)) y (.ins A.bE dy [])=H4 at *
   have ny1:y≠p:=λz=>by obtain⟨o,e⟩:=IC.here;rw[← z,ny] at e;cases e
   have ny2:y∉fp:=λz=>by obtain⟨o,e⟩:=IC.has z;rw[ny] at e;cases e
   refine⟨C,y,p,ap,dy,_,P',fp,_,m,b,da,rfl,hy4,hC,IC.same s4,ny1,ny2,a3.same s4,(ok.fit k _ ia).1,pn,λl ts H5 nl s5 hD=>?_⟩;have kX:ah H3 H5:=λc o e=>s5 _ _ (s4 _ _ e) (λz=>by rw[z,ny] at e;cases e)
   have ID:=iZ.same kX;have Te:=ID.o;unfold dB at Te;wp_walk using T,Te;have ll:ls.length=k:=by
    have:=congrArg List.length el;rw[List.length_map,EO,List.length_take] at this;lia
   refine⟨_,kC.k (k:=cD (k:Int)) ID.d (by rw[tF,l8];lia),hN _ _ ⟨_,_,ls++[(⟨(k:Int),qs[k],dX P'.nc qs[k].first qs[k].many⟩,y)],rfl,?_,ID.add (y:=(⟨(k:Int),qs[k],dX P'.nc qs[k].first qs[k].many⟩,y)) ⟨_,_,_,_,_,_,_,hD⟩ (by show (0:Int)<=(k:Int);lia) (by rw[ol];show (k:Int)<_;lia) (λz hz=>?_) (by lia),?_⟩⟩
   ·exact λc o e n=>by rw[az (λz=>by rw[z,nD] at e;cases e)];exact kX _ _ (o_ _ _ e n)
   ·have hm:z.1∈dD P'.nc 0 (qs.take k):=el▸List.mem_map_of_mem hz;have:=(tH _ _ _ _ hm).2;rw[List.length_take] at this
    show z.1.n<(k:Int);lia
   ·rw[List.map_append,el,take_succ_get ia,N_,List.length_take,Nat.min_eq_left (by lia),Nat.zero_add]
    rfl
  ·rintro σ H' ⟨x1,x2,ls,rfl,s2,iz,el⟩;rw[List.length_map,an,List.take_length] at el;have Iz:SameBut x H H':=λc o e n=>s2 _ _ (s1 _ _ e) n;exact q kp ks Dx ls H' Iz (s1.free nD) iz el
theorem Tf(T:Tx K mg A)(au:aY mg base A.aR A.aN):aO P w K mg base (jk P w base) 7 A.yG A.yH ["plate", "word", "most"] (acg K [A.a_] A.aV A.bg):=by
 refine T.AJ.okX Ox (λvs H Q E h=>?_) (λaH Ar outer s H vs Q E hr h=>?_)
 ·obtain⟨C,p,P',fp,n,most,w',rfl,_⟩:=h
  rfl
 ·obtain⟨C,p,P',fp,n,most,w',rfl,hC,hP,hn,m0,m1,ne,qb,qr⟩:=h;refine⟨_,(aE (bY (bG vW (pv 1) (dQ (v:=.ref A.mK) rfl T.R1 rfl) rfl) (aE (bz (i:=3) Ox.nd rfl (Or.inl rfl) (vD (bG kj (pv 1) cA (bD _)) aC (aX jd (pv 2) aC)))
   (aG (br (fH (aa cA (aa (pv 3) (aa (aZ (ae7 T au) (hr.mono (by decide)) rfl T.Pb T.GP.kp T.Pa .nil aL (aa (pv 0) (aa (pv 2) ao))) ao))))))) cj)
   (aE (bY (bG vW (pv 1) (dQ (v:=.ref A.mL) rfl T.R4 rfl) rfl) eL cj)
   (aG (aay aaF rfl T.HU T.uM PySem.F.excBase_ValueError rfl (aa cA ao))))),?_⟩
  walk_at "rdt";refine⟨_,.inr T.R3.sq,rfl,EH _,?_⟩;rw[EI];refine dH (λh0=>?_) (λh0=>⟨_,.inr T.R5.sq,rfl,EH _,by rw[EI];exact λz=>ne (of_decide_eq_true z),qr (λz=>h0 (decide_eq_true z)) H (λ_ _ e=>e)⟩)
  have h0:w'∈kP:=of_decide_eq_true h0;have qb:=qb h0;refine dH (λh1=>?_) (λh1=>?_)
  ·rw[if_pos h1] at qb;exact⟨C,p,P',fp,n,most,rfl,hC,hP,hn,m0,m1,λl ps H1 s1 nl ha t nt=>qb t l ps _ (s1.trans (ah.put nt)) aB (ha.same (ah.put nt))⟩
  ·rw[if_neg h1] at qb;exact⟨C,p,P',fp,n,most,rfl,hC,hP,hn,m0,m1,λl ps H1 s1 nl ha t nt=>qb t l ps _ (s1.trans (ah.put nt)) aB (ha.same (ah.put nt))⟩
theorem ae_(T:Tx K mg A)(au:aY mg base A.aR A.aN):aO P w K mg base aU 8 A.Ad A.Ae ["plate", "asks", "rule", "ring", "shelf"] (acE K [A.a_] [A.dF,A.cN] A.aV A.bI A.bM A.c9 A.aN (iX d7) (iU "nearest_of")):=by
 refine T.Hr.ok lH (λvs H Q E h=>?_) (λaH Ar outer s H vs Q E hr h=>?_)
 ·obtain⟨C,p,la,ru,dx,B,P',fp,ps,qs,o,st,J,rfl,_⟩:=h
  rfl
 ·obtain⟨C,p,la,ru,dx,B,P',fp,ps,qs,o,st,J,rfl,hC,hP,pk,pn,ha,ok,rd,IE,tb,j0,al,q⟩:=h;have hu:=ji hr;refine⟨_,(aE (bz (i:=5) lH.nd rfl (Or.inl rfl) (nI T.RH (ae9 T au) (hr.mono (by decide)) rfl T.RI T.QK .nil aL (aa (pv 0) (aa (pv 1) (aa (pv 3) ao)))))
   (aE (ou (dG (ab9 (pv 2) T.aee (aej T au) (hr.mono (by decide)) T.O4 T.Sk (Sl T au) (hr.mono (by decide)) T.GV aL)))
   (aE (bz (i:=6) lH.nd rfl (Or.inl rfl) (dR ao))
   (aE (bz (i:=7) lH.nd rfl (Or.inl rfl) (dR ao))
   (aE (bz (i:=8) lH.nd rfl (Or.inl rfl) (aX vY (dR (aa rG ao)) (cQ gT rfl T.fD boot_len (aa (pv 1) ao))))
   (aE (WS PassesOwn.never (vO (bw (pv 5) rfl) (λ_=>rfl))
   (aE (bz (i:=9) lH.nd rfl (Or.inl rfl) (Lv (pv 5) T.lK T.QW (aeP T au) (hr.mono (by decide)) T.QV .nil aL))
   (aE (ou (bz (i:=10) lH.nd rfl (Or.inl rfl) (NH (pv 2) T.aed (aeI T au) (hr.mono (by decide)) T.O0 T.ad_ (ae8 T au) (hr.mono (by decide)) T.Pn aL (aa (pv 0) (aa (bw (pv 5) rfl) (aa (bw (pv 5) rfl) (aa (pv 9) ao)))))))
   (aE (dG (lq PySem.F.plainAttrs_list PySem.F.slot_list_append PySem.F.type_list_append l6 (pv 7) (aa (pv 10) ao)))
   (aE (K9 (bw (pv 5) rfl) (K8 (pv 8) (pv 10) set_list))
   (aG (dG (lq PySem.F.plainAttrs_list PySem.F.slot_list_extend PySem.F.type_list_extend LV (pv 6) (aa (Lu (pv 5) T.lK T.QZ (ae5 T au) (hr.mono (by decide)) T.QY .nil aL (aa (pv 10) ao)) ao)))))))))
   (aE (bz (i:=11) lH.nd rfl (Or.inl rfl) (aZ (aeC T au) (hr.mono (by decide)) rfl T.Q5 T.Hj.kp T.Q4 .nil aL (aa (pv 6) ao)))
   (aE (bz (i:=12) lH.nd rfl (Or.inl rfl) (vD (vO (pv 6) (λ_=>rfl)) (bS jG (bS cR (pv 6) (pL pM aC) (λ_ _=>rfl)) aC (λ_ _=>rfl)) aC))
   (aG (br (nI T.RK (aeB T au) (hr.mono (by decide)) rfl T.RL T.Q3 .nil aL (aa (pv 6) (aa (pv 8) (aa (aZ (aeE T au) (hr.mono (by decide)) rfl T.Ra T.Hq.kp T.Q_ .nil aL (aa (pv 1) (aa (pv 11) (aa (pv 4) ao)))) (aa (aZ (aeQ T au) (hr.mono (by decide)) rfl T.Q9 T.Ho.kp T.Q8 .nil aL (aa (pv 1) (aa (pv 7) ao))) (aa (pv 12) ao)))))))))))))))),?_⟩
  walk_at "rdt";intro x dc nx ndc nn;have s1:ah H (upd (upd H dc (.own x)) x (.ins A.bA dc [])):=(ah.put ndc).trans (ah.put (by rw[az (Ne.symm nn)];exact nx))
  have dN:upd (upd H dc (.own x)) x (.ins A.bA dc []) x=some (.ins A.bA dc []):=aB;generalize upd (upd H dc (.own x)) x (.ins A.bA dc [])=H1 at *
  refine⟨C,x,dc,p,la,P',fp,ps,qs,0,rfl,dN,hC,hP.same s1,pn,ha.same s1,ok,(λq hq=>by rw[(rd q hq).k];exact Eh (by decide)),λkp ks Dx ls H2 sb nD hc el=>⟨rfl,?_⟩⟩
  have s2:ah H H2:=λc o e=>sb _ _ (s1 _ _ e) (λz=>by rw[z,nx] at e;cases e)
  have nDH:=s1.free nD;have nrx:ru≠x:=λz=>by obtain⟨_,_,e⟩:=IE.ins;rw[z,nx] at e;cases e
  refine⟨λσ H3=>∃B',σ = [some (V.ref p),some (V.ref la),some (V.ref ru),some (V.int 0),some (V.int 0),some (V.ref x),none,none,none,none,none,none,none]/\bV ru H H3/\bU H H3/\bH A.aN (iX d7) (iU "nearest_of") H3/\cG K [A.dF,A.cN] A.bI A.bM o ⟨st.c,true,[]⟩ H3 ru dx B'/\B'≠Dx/\bF K A.bA A.aV A.bE H3 x dc kp ks (iB qs qs.length) p 0 0 Dx ls,?_,?_⟩
  ·cases o with
   | none =>
    obtain⟨C',uW,e⟩:=IE;exact⟨C',dx,[],s2 _ _ e,rfl,.inl ⟨uW,ru,rfl,x,rfl,bV.of (SameBut.of s2),bU.of s2,tb.same s2,⟨C',uW,s2 _ _ e⟩,hc.ne,hc⟩⟩
   | some sw =>
    obtain⟨C',hk,hK,lt⟩:=IE;have uX:=lt.same s2;refine⟨C',dx,_,uX.o,by simp[iG,List.lookup_cons,gF],.inr ⟨hk.mem,C',ru,dx,st.c,_,rfl,hk.mem,hK,uX.o,.inr ⟨_,_,rfl⟩,λB' H3 nB i6 sH=>⟨B',rfl,λc u e n z=>i6 _ _ (s2 _ _ e) n,(bU.of s2).trans (uX.oG i6),(tb.same s2).but i6 uX.o,⟨C',hk,hK,sH⟩,(λz=>by rw[z,hc.d] at nB;cases nB),hc.kt (uX.oG i6)⟩⟩⟩
  ·rintro σ H3 ⟨B',rfl,uY,qX,Tg,Ti,nB3,iZ⟩;walk_at "rdt";intro R nR Pk nP T0 nT0;have an:=ha.n;have on:=ok.n;have fR:=kQ.of uY qX nR;have sR:=ah.put (o:=.lst []) nR;have fP:=kQ.of uY qX (sR.free nP);have sP:=ah.put (o:=.lst []) nP;have BE:=ah.put (o:=.lst [V.aI]) nT0;have uZ:=(sR.trans sP).trans BE;have IF:=(sP.trans BE) _ _ (aB (H:=H3) (a:=R) (o:=.lst []));have u6:=BE _ _ (aB (H:=upd H3 R (.lst [])) (a:=Pk) (o:=.lst []));have nRP:R≠Pk:=bW (aB (H:=H3) (a:=R) (o:=.lst [])) nP;generalize upd (upd (upd H3 R (.lst [])) Pk (.lst [])) T0 (.lst [V.aI])=H4 at *
   refine⟨_,.inl (aA.of (uZ _ _ (qX.lst ha.l))),by lia,by rw[List.length_map];lia,by rw[List.length_map];lia,λTk nT=>?_⟩
   have et:(List.replicate (((ps.map V.ref).length:Int)).toNat [V.aI]).flatten=cF qs.length []:=by unfold cF;simp[an]
   rw[et];have fT:=kQ.of uY qX (uZ.free nT);have sT:=ah.put (o:=.lst (cF qs.length [])) nT;have kX:=uZ.trans sT;have Tj:=sT _ _ IF;have pe:=sT _ _ u6;have Tn:upd H4 Tk (.lst (cF qs.length [])) Tk=some (.lst (cF qs.length [])):=aB;have nRT:R≠Tk:=bW IF nT;have nPT:Pk≠Tk:=bW u6 nT;generalize upd H4 Tk (.lst (cF qs.length []))=H5 at *
   have I0:Oh K [A.dF,A.cN] A.bI A.bM A.bA A.aV A.bE A.aN (iX d7) (iU "nearest_of") o P' qs J H H3 H5 ls ru dx B' x dc kp p Dx R Pk Tk ks (iB qs qs.length) 0 0 ls ⟨st.c,true,[]⟩ [] [] [] :=
    { kx:=uY.same kX,kt:=qX.trans (bU.of kX),tb:=Tg.same kX,rA:=Ti.same kX,nB:=nB3,nx:=nrx,co:=iZ.same kX,j:=(by rw[el];exact j0),fx:=nx,fd:=nDH,c3:=iZ,bt:=(λc u e _ _ _=>kX _ _ e),sub:=.refl _,n3:=⟨nR,sR.free nP,uZ.free nT⟩,fR:=fR,fP:=fP,fT:=fT,ne:=⟨nRP,nRT,nPT⟩,rr:=⟨Tj,rfl,λi t r e=>(by simp at e)⟩,r5:=(λ_ h=>nomatch h),rl:=Nat.le_refl _,rh:=(λ_ h=>nomatch h),pP:=pe,tT:=Tn,n:=(by have:=congrArg List.length el;rw[List.length_map,EO] at this;simpa using this),all:=λd hd=>.inl (el▸hd),dr:=λy hy=>el▸List.mem_map_of_mem hy,tn:=(λ_ h=>nomatch h),r0:=Int.le_refl _,r1:=by have:=pk.n2;lia }
   generalize aj1:ls=tK at *
   refine abP λBd hBd=>?_;refine⟨λm σ H'=>∃(B:Addr) (r b:Int) (ls:List (Dr×Addr)) (st:Lt) (tk:List (Int×Int)) (ts:List Addr) (rows:List (List Int)) (u9 To IG II:Option V),m=ls.length/\σ = [some (V.ref p),some (V.ref la),some (V.ref ru),some (V.int 0),some (V.int 0),some (V.ref x),some (V.ref R),some (V.ref Pk),some (V.ref Tk),u9,To,IG,II]/\Oh K [A.dF,A.cN] A.bI A.bM A.bA A.aV A.bE A.aN (iX d7) (iU "nearest_of") o P' qs J H H3 H' tK ru dx B x dc kp p Dx R Pk Tk ks (iB qs qs.length) r b ls st tk ts rows,⟨_,_,_,_,tK,_,_,_,_,none,none,none,none,rfl,rfl,I0⟩,?_⟩;clear I0 Tj pe Tn sT kX IF u6 uZ BE sP sR iZ Ti uY qX Tg;rintro m σ H6 ⟨B2,r2,b2,cT,dY,cy,jo,u7,u9,To,IG,II,rfl,rfl,I⟩;have IJ:=I.co.o;unfold dB at IJ;wp_walk using T,IJ;refine⟨_,.inr (.inr ⟨_,I.co.d,rfl⟩),dH (λh0=>?_) λh0=>?_⟩
   ·have hl:1<=cT.length:=by
     cases cT with
     | nil=>simp[cE] at h0
     | cons y l=>simp
    have kn:=acH rd;refine⟨_,λ_ _ h=>h,hBd _ _ _ ?_⟩;wp_walk using T,IJ;refine⟨x,dc,kp,ks,_,p,r2,b2,Dx,cT,rfl,I.co,hl,λns h=>by rw[kn ns h];simp,λb3 D H7 Tp mW IK nD hD=>?_⟩
    rw[acI kn] at hD;have Tq:=I.rA.gZ I.co mW I.nx I.nB;have kx7:=I.kx.gZ mW I.fx I.fd;have kt7:=I.kt.gZ mW I.fx I.fd;have Tr:=I.tb.gZ I.co mW;have Tt:=IK.o;unfold dB at Tt;have cK:1<=((cT.filter λy=>decide (y.1.q.at_<=b3)).map (·.1)).length:=by
     obtain⟨M,⟨y,hy,e⟩,_,e2⟩:=Tp;have:y∈cT.filter λy=>decide (y.1.q.at_<=b3):=List.mem_filter.mpr ⟨hy,decide_eq_true (by rw[e,e2];split <;> lia)⟩
     rw[List.length_map];exact List.length_pos_of_mem this
    have hd2:((cT.filter λy=>decide (y.1.q.at_<=b3)).map (·.1)).length<=100:=by
     have:=List.length_filter_le (λy:Dr×Addr=>decide (y.1.q.at_<=b3)) cT;have:=I.co.n;rw[List.length_map];lia
    have jT:∀y∈cT,xM P' y.1.q/\y.1.c=dX P'.nc y.1.q.first y.1.q.many:=λy hy=>by
     obtain⟨a,b⟩:=xN _ _ _ _ (I.dr y hy);exact⟨rd _ a,b⟩
    have hdc:∀d∈(cT.filter λy=>decide (y.1.q.at_<=b3)).map (·.1),1<=d.c.length:=λd hd=>by
     obtain⟨y,hy,rfl⟩:=List.mem_map.mp hd;obtain⟨a,b⟩:=jT y (List.mem_filter.mp hy).1;have:=a.m0;rw[b,a.cn];lia
    wp_walk using T,Tt;refine⟨λσ H8=>∃(d:Dr) (cu:Lt) (B':Addr),σ = [some (V.ref p),some (V.ref la),some (V.ref ru),some (V.int 0),some (V.int 0),some (V.ref x),some (V.ref R),some (V.ref Pk),some (V.ref Tk),some (V.ref D),some (V.int d.n),IG,II]/\bV ru H7 H8/\bU H7 H8/\bH A.aN (iX d7) (iU "nearest_of") H8/\cG K [A.dF,A.cN] A.bI A.bM o cu H8 ru dx B'/\B'≠Dx/\xK o dY r2 ((cT.filter λy=>decide (y.1.q.at_<=b3)).map (·.1)) d cu,?_,?_⟩
    ·cases o with
     | none =>
      obtain⟨C',uW,e⟩:=Tq;exact⟨C',dx,[],e,rfl,.inl ⟨uW,ru,p,r2,b3,D,_,_,rfl,hD,cK,hd2,λd H8 s8 best=>⟨d,dY,B2,rfl,bV.of (SameBut.of s8),bU.of s8,Tr.same s8,⟨C',uW,s8 _ _ e⟩,I.nB,best,rfl⟩⟩⟩
     | some sw =>
      obtain⟨C',hk,hK,lt⟩:=Tq;exact⟨C',dx,_,lt.o,by simp[iG,List.lookup_cons,gF],.inr ⟨hk.mem,C',ru,dx,B2,sw,dY,p,r2,b3,D,_,_,P',rfl,hk,hK,lt,hD,cK,hd2,hdc,Tr,λd B' H8 bB BF IL lt8 best=>⟨d,_,B',rfl,BF,lt.acF BF,IL,⟨C',hk,hK,lt8⟩,nBD I.nB IK bB,rfl,P',b3,best⟩⟩⟩
    ·rintro σ H8 ⟨d,cu,B',rfl,BF,pq,IL,hr8,Tu,Tv⟩;have BG:=IK.kt pq;have pA:=pq.lst (I.co.lst mW I.pP) iF.ints;have BH:=pq.lst (I.co.lst mW I.tT) (acC _ _);have IM:=I.co.zt mW I.rr;have IP:Zt H8 R jo u7:=⟨pq.lst IM.l,IM.n,λi t r e1 e2=>pq.tup (IM.t i t r e1 e2)⟩;obtain⟨Tw,Tz,TF⟩:=I.ne;have bt8:=(I.bt.gZ mW).kt pq;obtain⟨y,hyf,ey⟩:=List.mem_map.mp Tv.mem;have hy:=(List.mem_filter.mp hyf).1;subst ey;have qY:=BG.o;have TJ:x≠Pk:=λz=>by rw[z,pA] at qY;cases qY
     have nxT:x≠Tk:=λz=>by rw[z,BH] at qY;cases qY
     have nDP:Dx≠Pk:=λz=>by have:=BG.d;rw[z,pA] at this;cases this
     have nDT:Dx≠Tk:=λz=>by have:=BG.d;rw[z,BH] at this;cases this
     obtain⟨yn0,TL⟩:=tH _ _ _ _ (I.dr y hy);simp only[Nat.zero_add] at TL;walk_at "rdt";refine⟨⟨_,aA.of pA⟩,_,pA,by rw[List.length_map,List.length_map];have:=I.n;lia,?_⟩
     have TM:upd H8 Pk (.lst (((cy.map (·.1)).map V.int)++[V.int y.1.n])) x=some (.ins A.bA dc (dB kp p r2 b3 Dx)):=by rw[az TJ];exact qY
     have IQ:upd H8 Pk (.lst (((cy.map (·.1)).map V.int)++[V.int y.1.n])) Tk=some (.lst (cF qs.length cy)):=by rw[az (Ne.symm TF)];exact BH
     unfold dB at TM;refine⟨_,_,_,TM,T.lK,T.uJ,V.int b3,by simp[List.lookup_cons,gF],_,IQ,y.1.n.toNat,by rw[ER];unfold iN;rw[if_pos (by lia),if_pos (by lia)],?_⟩
     rw[← acB qs.length cy (y.1.n,b3)];have TN:Zt (upd (upd H8 Pk (.lst (((cy.map (·.1)).map V.int)++[V.int y.1.n]))) Tk (.lst (cF qs.length (cy++[(y.1.n,b3)])))) R jo u7:=⟨by rw[az Tz,az Tw];exact IP.l,IP.n,λi t r e1 e2=>by
      have:=IP.t i t r e1 e2;rw[az (λz=>by rw[z,BH] at this;cases this),az (λz=>by rw[z,pA] at this;cases this)];exact this⟩
     have TQ:upd (upd H8 Pk (.lst (((cy.map (·.1)).map V.int)++[V.int y.1.n]))) Tk (.lst (cF qs.length (cy++[(y.1.n,b3)]))) x=some (.ins A.bA dc (dB kp p r2 b3 Dx)):=by rw[az nxT,az TJ];exact qY
     have afa:upd (upd H8 Pk (.lst (((cy.map (·.1)).map V.int)++[V.int y.1.n]))) Tk (.lst (cF qs.length (cy++[(y.1.n,b3)]))) Dx=some (.dK (cE cT)):=by rw[az nDT,az nDP];exact BG.d
     have afb:upd (upd H8 Pk (.lst (((cy.map (·.1)).map V.int)++[V.int y.1.n]))) Tk (.lst (cF qs.length (cy++[(y.1.n,b3)]))) Pk=some (.lst (((cy++[(y.1.n,b3)]).map (·.1)).map V.int)):=by rw[az TF,aB];simp
     have afc:upd (upd H8 Pk (.lst (((cy.map (·.1)).map V.int)++[V.int y.1.n]))) Tk (.lst (cF qs.length (cy++[(y.1.n,b3)]))) Tk=some (.lst (cF qs.length (cy++[(y.1.n,b3)]))):=aB;have IS:jq x Dx H3 (upd (upd H8 Pk (.lst (((cy.map (·.1)).map V.int)++[V.int y.1.n]))) Tk (.lst (cF qs.length (cy++[(y.1.n,b3)])))):=(bt8.put I.n3.2.1).put I.n3.2.2;have afd:bV ru H (upd (upd H8 Pk (.lst (((cy.map (·.1)).map V.int)++[V.int y.1.n]))) Tk (.lst (cF qs.length (cy++[(y.1.n,b3)])))):=((kx7.trans BF).put I.fP).put I.fT;have TR:bU H (upd (upd H8 Pk (.lst (((cy.map (·.1)).map V.int)++[V.int y.1.n]))) Tk (.lst (cF qs.length (cy++[(y.1.n,b3)])))):=((kt7.trans pq).putK I.fP).putK I.fT;have IT:bH A.aN (iX d7) (iU "nearest_of") (upd (upd H8 Pk (.lst (((cy.map (·.1)).map V.int)++[V.int y.1.n]))) Tk (.lst (cF qs.length (cy++[(y.1.n,b3)])))):=(IL.iO pA).iO IQ;have afe:cG K [A.dF,A.cN] A.bI A.bM o cu (upd (upd H8 Pk (.lst (((cy.map (·.1)).map V.int)++[V.int y.1.n]))) Tk (.lst (cF qs.length (cy++[(y.1.n,b3)])))) ru dx B':=(hr8.iO pA).iO IQ;generalize upd (upd H8 Pk (.lst (((cy.map (·.1)).map V.int)++[V.int y.1.n]))) Tk (.lst (cF qs.length (cy++[(y.1.n,b3)])))=IU at *
     have qZ:=I.c3.Og IS I.sub TQ afa;obtain⟨ya,yb⟩:=jT y hy;have ycn:y.1.c.length=y.1.q.many.toNat:=by rw[yb];exact ya.cn
     have S8:=ya.m0;have S9:=ya.m1;have IV:p_ P' y.1.c:=by rw[yb];exact ya.c
     have TU:=TQ;unfold dB at TU;refine⟨⟨_,aA.of TN.l⟩,_,_,TU,by simp[List.lookup_cons,gF],C,x,dc,kp,ks,_,p,P',fp,r2,b3,Dx,cT,y,rfl,qZ,hy,hC,hP.kt TR,pk,I.r0,I.r1,IV,by lia,by lia,λl tw IW lO nl BI IX=>?_⟩
     have q8:=qZ.zt lO TN;have wl:=wK P' y.1.c (r2,b3);have irn:=I.rr.n;have irl:=I.rl;have TV:=I.n;have izn:=IX.n;rw[List.length_map] at izn;have fl:=acG I.co.up hy;have wV:(cT.filter λz=>decide (z.1.n≠y.1.n)).Sublist cT:=List.filter_sublist;have nxR:x≠R:=λz=>by have:=BI.o;rw[z,q8.l] at this;cases this
     have nDR:Dx≠R:=λz=>by have:=BI.d;rw[z,q8.l] at this;cases this
     refine⟨l,rfl,_,q8.l,_,IX.l,by rw[List.length_map,List.length_map];lia,_,?_,B',(dw P' (r2,b3) y.1.c).1,(dw P' (r2,b3) y.1.c).2,cT.filter (λz=>decide (z.1.n≠y.1.n)),rfl,cu,cy++[(y.1.n,b3)],jo++tw,u7++(fq P' (r2,b3) y.1.c).map (λrow=>y.1.n::row),?_⟩
     ·lia
     have sd:Oe (cT.map (·.1)) b2 b3:=by
      obtain⟨M,⟨z,hz,e⟩,hm,e2⟩:=Tp;exact⟨M,⟨z.1,List.mem_map_of_mem hz,e⟩,λd hd=>by obtain⟨z,hz,rfl⟩:=List.mem_map.mp hd;exact hm z hz,e2⟩
     have jj:=al.go (cT.map (·.1)) r2 b2 dY cy b3 y.1 cu I.j (λz=>by have:=congrArg List.length z;rw[List.length_map] at this;simp at this;rw[this] at hy;cases hy) sd (by rw[List.filter_map];exact Tv)
     rw[List.filter_map] at jj;have TX:=D3 P' (n:=P'.rc.length) y.1.c (r2,b3) I.r0 I.r1 λq hq=>⟨(IV q hq).1,(IV q hq).2.1⟩;exact {
      kx:=(afd.gZ lO I.fx I.fd).put I.fR,kt:=(TR.gZ lO I.fx I.fd).putK I.fR,tb:=(IT.gZ qZ lO).iO q8.l,rA:=(afe.gZ qZ lO I.nx Tu).iO q8.l,nB:=Tu,nx:=I.nx,co:=I.c3.Og ((IS.gZ lO).put I.n3.1) (wV.trans I.sub) (by rw[az nxR];exact BI.o) (by rw[az nDR];exact BI.d),j:=jj,fx:=I.fx,fd:=I.fd,c3:=I.c3,bt:=(IS.gZ lO).put I.n3.1,sub:=wV.trans I.sub,n3:=I.n3,fR:=I.fR,fP:=I.fP,fT:=I.fT,ne:=I.ne,rr:=q8.cat IX,
      r5:=(λw hw=>by
       rcases List.mem_append.mp hw with hw | hw
       ·exact I.r5 w hw
       ·obtain⟨row,hr,rfl⟩:=List.mem_map.mp hw;rw[List.length_cons,D0 P' y.1.c (r2,b3) row hr]),
      rl:=(by rw[List.length_append,List.length_append,List.length_map,wl,List.length_singleton];lia),
      rh:=(λq hq=>by
       rcases List.mem_append.mp hq with hq | hq
       ·obtain⟨w,hw,e⟩:=I.rh q hq;exact⟨w,List.mem_append_left _ hw,e⟩
       ·rw[List.mem_singleton.mp hq];obtain⟨row,hr⟩:=List.exists_mem_of_length_pos (l:=fq P' (r2,b3) y.1.c) (by lia)
        exact⟨_,List.mem_append_right _ (List.mem_map_of_mem hr),rfl⟩),
      pP:=(by rw[az (Ne.symm Tw)];exact qZ.lst lO afb),tT:=(by rw[az (Ne.symm Tz)];exact qZ.lst lO afc),
      n:=(by rw[List.length_append,List.length_singleton];lia),
      all:=(λd hd=>by
       rcases I.all d hd with h | ⟨q',iy,e⟩
       ·by_cases e:d.n=y.1.n
        ·exact .inr ⟨(y.1.n,b3),List.mem_append_right _ (List.mem_singleton_self _),e.symm⟩
        ·obtain⟨z,hz,rfl⟩:=List.mem_map.mp h;exact .inl (List.mem_map_of_mem (List.mem_filter.mpr ⟨hz,decide_eq_true e⟩))
       ·exact .inr ⟨q',List.mem_append_left _ iy,e⟩),
      dr:=(λz hz=>I.dr z (wV.subset hz)),
      tn:=(λq hq=>by
       rcases List.mem_append.mp hq with hq | hq
       ·exact I.tn q hq
       ·rw[List.mem_singleton.mp hq];exact⟨by simpa using yn0,TL⟩),
      r0:=TX.1,r1:=TX.2 }
   ·have hl:cT = []:=by
     cases cT with
     | nil=>rfl
     | cons y l=>simp[cE] at h0
    subst hl;have TV:=I.n;have irl:=I.rl;simp only[List.length_nil,Nat.add_zero] at TV;refine⟨R,jo,u7,rfl,I.rr,by lia,I.r5,λEd kvs H7 s7 nE hE hv=>?_⟩
    have fin:∀v5,Od K A.aV [V.ref la,V.ref Ed,V.int 0] H7 (λx H1=>Oc K A.aV [V.ref la,V.ref Pk] H1 (λx_5 H1=>∀(q9 dx:Addr),H1 q9=none->H1 dx=none->dx≠q9->Ob A.c9 [V.ref q9,V.ref R,V.ref Tk,x,x_5,v5] (upd (upd H1 dx (HO.own q9)) q9 (HO.ins A.c9 dx [])) (λv H2=>v=V.aI/\Q (V.ref q9) H2) E0) E0) E0:=by
     intro v5;have TY:=(ha.kt I.kt).same s7;refine⟨la,ps,qs,Ed,kvs,0,rfl,TY,on,λq hq=>⟨(rd q hq).k,(rd q hq).e⟩,hE,λn n0 n1=>?_,λl H8 s8=>?_⟩
     ·obtain⟨d,hd,e⟩:=ES P'.nc qs 0 n.toNat (by lia)
      rcases I.all d hd with h | ⟨q',iy,e2⟩
      ·cases h
      ·refine hv n ?_;obtain⟨w',hw,e3⟩:=I.rh q' iy;exact⟨w',hw,by rw[e3,e2,e];congr 1;lia⟩
     ·refine⟨la,ps,qs,Pk,cy.map (·.1),rfl,TY.same s8,on,λq hq=>⟨(rd q hq).k,(rd q hq).f0,(rd q hq).f1,by have:=(rd q hq).m0;lia,(rd q hq).m1⟩,s8 _ _ (s7 _ _ I.pP),by rw[List.length_map];lia,λn hn=>?_,λl2 H9 s9 xx dd nxx ndd nnd=>⟨xx,dd,_,_,_,_,_,rfl,aB,rfl,?_⟩⟩
      ·obtain⟨q',iy,rfl⟩:=List.mem_map.mp hn;exact I.tn q' iy
      ·have sa:ah H6 H9:=(s7.trans s8).trans s9;have sb:∀u,ah H9 (upd (upd (upd H9 dd (.own xx)) xx (.ins A.c9 dd [])) xx u):=λu c o e=>by
        have n1:c≠xx:=λz=>by rw[z,nxx] at e;cases e
        have n2:c≠dd:=λz=>by rw[z,ndd] at e;cases e
        rw[az n1,az n1,az n2];exact e
       have sc:=λu=>sa.trans (sb u);exact q xx dd _ Tk _ _ _ r2 b2 dY cy dx B2 _ (I.kx.same (sc _)) (I.tb.same (sc _)) I.j (I.rA.same (sc _)) aB (sc _ _ _ I.tT)
    refine⟨_,.inl ⟨_,aA.of (s7 _ _ I.rr.l),rfl⟩,dH (λh1=>?_) λh1=>fin _⟩;have e9:u7≠[]:=λz=>by
     have:=I.rr.n;rw[z] at this;have:jo = []:=List.length_eq_zero_iff.mp this;rw[this] at h1;simp at h1
    have hz:=I.rr.same s7;have hw5:=I.r5 _ (List.getLast_mem e9);obtain⟨g1,g2,g3,g4,g5,eg⟩:=Oa hw5;rw[← List.dropLast_concat_getLast e9,eg] at hz;obtain⟨qx,t,rfl,ht⟩:=hz.last;exact⟨_,aA.of (s7 _ _ I.rr.l),_,by rw[List.map_append];exact LK _ _,t,rfl,_,bq.of ht,_,gC (j:=4) rfl,fin _⟩
theorem afg(T:Tx K mg A)(au:aY mg base A.aR A.aN):aO P w K mg base aU 8 A.Av A.Aw ["_law_plate", "_law_word", "_law_most"] (acN K A.a_):=by
 refine T.Hw.ok xW (λvs H Q E h=>?_) (λaH Ar outer s H vs Q E hr h=>?_)
 ·obtain⟨p,P',fp,n,most,w',rfl,_⟩:=h
  rfl
 ·obtain⟨p,P',fp,n,most,w',rfl,hP,hn,m0,m1,ne,nb,q⟩:=h;refine⟨_,(aE (bz (i:=3) xW.nd rfl (Or.inl rfl) gQ)
   (aE (aaQ rfl rfl (λE=>(aaG (aaD (Tf T au) (hr.mono (by decide)) rfl T.GR T.AJ.kp T.GQ .nil (aa (pv 0) (aa (pv 1) (aa (pv 2) ao))))))
   (aaL (i:=4) rfl T.R6 T.R7 xW.nd rfl rfl rfl (λa=>(aG (bz (i:=3) xW.nd rfl (Or.inl rfl) (abW (aeF T au) (hr.mono (by decide)) rfl T.Rn T.Hv.kp T.Rm (aa (pv 4) ao))))) aaK))
   (aG (br (pv 3))))),?_⟩
  walk_at "rdt";refine⟨A.a_,p,P',fp,n,most,w',rfl,by simp,hP,hn,m0,m1,ne,λh=>absurd h nb,λ_ H1 s1=>?_⟩
  refine⟨A.bg,rfl,T.Se,λa' ha=>.inl ⟨T.Sf,?_⟩⟩;walk_at "rdt";exact⟨a',rfl,aB,λH2 s2=>q H2 ((s1.trans (ah.put ha)).trans s2)⟩
theorem afh(T:Tx K mg A)(au:aY mg base A.aR A.aN):aO P w K mg base aU 9 A.AB A.AD ["_law_script"] (w6 K [(A.aR,A.aN)]):=by
 refine T.Rv.ok lJ (λvs H Q E h=>?_) (λaH Ar outer s H vs Q E hr h=>?_)
 ·obtain⟨a,ns,rfl,_⟩:=h
  rfl
 ·obtain⟨a,ns,rfl,hS,mV,hT,q⟩:=h;have TZ:=hT (A.aR,A.aN) (by simp)
  refine⟨_,(aE (bz (i:=1) lJ.nd rfl (Or.inl rfl) (bS jG (aZ (ae6 T au) (hr.mono (by decide)) rfl T.Rk T.Hu.kp T.Rj .nil aL (aa (pv 0) ao)) aC (λ_ _=>rfl)))
   (aE (bz (i:=2) lJ.nd rfl (Or.inl rfl) (aX cJ aC (aX lW (aZ (qU T au) (hr.mono (by decide)) rfl T.oW T.mQ.kp T.oV .nil aL (aa (pv 0) (aa aC ao))) aC)))
   (aE (d_ PassesOwn.never rfl (e7 (dR (aa (fH (aa cA (aa (abw T.RM rfl T.RN) ao))) (aa (fH (aa cA (aa (nI T.Ry (Sy T au) (hr.mono (by decide)) rfl T.Rz T.GU .nil aL (aa gQ ao)) ao))) (aa (fH (aa cA (aa (nI T.RA (Sy T au) (hr.mono (by decide)) rfl T.RB T.GU .nil aL (aa gQ ao)) ao))) ao))))) (iL rfl (cO (bC (i:=3) lJ.nd rfl (Or.inl rfl)) (cO (bC (i:=4) lJ.nd rfl (Or.inl rfl)) iK)))
   (aE (bY (j7 (i9 (aZ (afg T au) (hr.mono (by decide)) rfl T.Rp T.Hw.kp T.Ro .nil aL (aa (pv 1) (aa (aZ (aeT T au) (hr.mono (by decide)) rfl T.Rr T.Hx.kp T.Rq .nil aL (aa (aX cJ (aZ (qU T au) (hr.mono (by decide)) rfl T.oW T.mQ.kp T.oV .nil aL (aa (pv 0) (aa aC ao))) (cQ X_ rfl T.fD boot_len (aa (pv 3) ao))) ao)) (aa (pv 2) ao)))))) (aG (br gQ)) cj)
   (aE (bz (i:=5) lJ.nd rfl (Or.inl rfl) (aZ (Tf T au) (hr.mono (by decide)) rfl T.GR T.AJ.kp T.GQ .nil aaE (aa (pv 1) (aa (pv 3) (aa (pv 2) ao)))))
   (aE (bz (i:=6) lJ.nd rfl (Or.inl rfl) (aX jd (pv 2) aC))
   (aE (ou (bY (bG kj (pv 3) cA (bD _)) (aG (bz (i:=6) lJ.nd rfl (Or.inl rfl) aC)) cj))
   (aE (bY (PW.pt (fY (j7 (i9 (cQ DQ rfl T.lM boot_isinstance (aa (pv 5) (aa (vA (v:=.ty "tuple") rfl T.qQ boot_tuple rfl) ao))))) (fY (bG kq (cQ gT rfl T.fD boot_len (aa (pv 5) ao)) aC (bD _)) (fY (bG kq (bS jG (pv 5) aC (λ_ _=>rfl)) cA (bD _)) (gR (bG kq (bS jG (pv 5) aC (λ_ _=>rfl)) (pv 6) (bD _))))))) (aG (br gQ)) cj)
   (aE (bY (PW.pt (fY (i9 (cQ DQ rfl T.lM boot_isinstance (aa (bS jG (pv 5) aC (λ_ _=>rfl)) (aa (vA (v:=.ty "bool") rfl T.A6 boot_bool rfl) ao)))) (gR (j7 (i9 (aZ (aeG T au) (hr.mono (by decide)) rfl T.Ru T.Hy.kp T.Rt .nil aL (aa (bS jG (pv 5) aC (λ_ _=>rfl)) (aa (pv 2) ao)))))))) (aG (br gQ)) cj)
   (aE (bz (i:=7) lJ.nd rfl (Or.inr rfl) (bw (aZ (ae_ T au) (hr.mono (by decide)) rfl T.Rc T.Hr.kp T.Rb (show Vals [.int 0,.int 0] [.int 0 A.GB,.int 0 A.GC] from(.cons ⟨_,rfl⟩ (.cons ⟨_,rfl⟩ .nil))) aL (aa (pv 1) (aa (bS jG (pv 5) aC (λ_ _=>rfl)) (aa (pv 4) ao)))) rfl))
   (aG (bY (bG kq (cQ gT rfl T.fD boot_len (aa (gX (N:=["_law_beat", "_law_taken"]) (nt:=1) (fv:=[7]) (cS.of rfl rfl (by rfl) (by rfl) (by repeat (first | exact trivial | refine⟨rfl,?_⟩)) (by rfl) (by rfl) (by rfl) (by decide) (by decide +kernel)) rfl (e7 (Df X7 (pv 7) (Dc aC) C_)) (λC s H fp=>(bC (i:=0) (show List.Nodup (["_law_beat", "_law_taken"]:List Str) by decide +kernel) rfl (Or.inl rfl))) (λC s H fp=>(nZ (bG fZ (pv 0) (bS (Mz (K:=K) rfl) (pv 1) aC (λ_ _=>rfl)) (bD _)))) (λC s H fp=>(pv 0))) ao)) (pv 6) (bD _)) (aG (br gQ)) cj))))))))))
   (aG (br gQ))))),?_⟩
  wp_walk using T,qt;refine⟨a,ns,rfl,hS,mV,λt p wt z aM sk sw fp H1 s1 ht hP wo=>?_⟩;have T3:bH A.aN (iX d7) (iU "nearest_of") H1:=⟨#[],s1 _ _ TZ,trivial,.inl rfl⟩;have IY:=s1.seq hS;clear s1 TZ hT hS;refine⟨t,rfl,_,bq.of ht,_,rfl,ns,IY,mV,?_⟩;have k0:=Int.emod_nonneg (kN ns 4) (show (39:Int)≠0 by decide)
  have k1:=Int.emod_lt_of_pos (kN ns 4) (show (0:Int)<39 by decide)
  obtain⟨most,em⟩:∃m,2+kN ns 4 % 39=m:=⟨_,rfl⟩;rw[em];have m2:2<=most:=by lia
  have m1:most<=40:=by lia
  clear em k0 k1;obtain⟨n,bo⟩:=wo.bnd m2 (show most<=100 by lia)
  have T4:oJ K A.bI:=⟨T.mR,T.AN,T.qM,T.AO⟩;have T5:oJ K A.bM:=⟨T.qN,T.AQ,T.AR,T.AS⟩;refine Zv ?_;walk_at "rdm";have made:∀ {H3 H4:Hp} {x1 d1 C:Addr},H3 x1=none->H3 d1=none->SameBut x1 (upd (upd H3 d1 (.own x1)) x1 (.ins C d1 [])) H4->ah H3 H4:=λn_ BJ sb4 b o e=>by
   have e1:=bW e n_;have e2:=bW e BJ;exact sb4 b o (by rw[az e1,az e2];exact e) e1
  intro x0 d0 T6 T7 ne0 t0 uQ x1 d1 n_ BJ ne1;refine⟨A.bI,x1,d1,true,rfl,by simp,T4,aB,λB1 H2 nB1 kM rT=>⟨rfl,λt1 uR x2 d2 BK w5 ne2=>?_⟩⟩
  refine⟨A.bM,x2,d2,true,rfl,by simp,T5,aB,λB2 H3 nB2 i6 T8=>⟨rfl,λt2 T9 L nL=>?_⟩⟩
  have sA:ah H1 (upd (upd H1 d0 (.own x0)) x0 (.ins A.cN d0 [])):=made T6 T7 (λ_ _ e _=>e);have eA:=aB (H:=upd H1 d0 (.own x0)) (a:=x0) (o:=.ins A.cN d0 []);generalize upd (upd H1 d0 (.own x0)) x0 (.ins A.cN d0 [])=G0 at *
  have sB:=ah.put (o:=.tup [.str "first",.ref x0]) uQ
  have eB:=aB (H:=G0) (a:=t0) (o:=.tup [.str "first",.ref x0])
  have sC:=made n_ BJ kM;clear kM;have T_:x0≠x1:=bW (sB _ _ eA) n_;generalize upd G0 t0 (.tup [.str "first",.ref x0])=G1 at *
  have sD:=ah.put (o:=.tup [.str "calm lift",.ref x1]) uR;have eD:=aB (H:=H2) (a:=t1) (o:=.tup [.str "calm lift",.ref x1]);have sE:=made BK w5 i6;clear i6;have Ua:x0≠x2:=bW (sD _ _ (sC _ _ (sB _ _ eA))) BK;have Ub:x1≠x2:=bW (sD _ _ rT.o) BK;generalize upd H2 t1 (.tup [.str "calm lift",.ref x1])=G2 at *
  have sF:=ah.put (o:=.tup [.str "calm sweep",.ref x2]) T9;have eF:=aB (H:=H3) (a:=t2) (o:=.tup [.str "calm sweep",.ref x2]);generalize upd H3 t2 (.tup [.str "calm sweep",.ref x2])=G3 at *
  have sG:=ah.put (o:=.lst [.ref t0,.ref t1,.ref t2]) nL;have hL:aA K (upd G3 L (.lst [.ref t0,.ref t1,.ref t2])) L [.ref t0,.ref t1,.ref t2]:=aA.of aB;generalize upd G3 L (.lst [.ref t0,.ref t1,.ref t2])=H4 at *
  have IZ:=sF.trans sG;have I_:=sE.trans IZ;have Ja:=sD.trans I_;have Jb:=sC.trans Ja;have Jc:=sB.trans Jb;have BL:=sA.trans Jc;obtain⟨rs,er,aD,nd,hr4⟩:∃rs:List Rl,[V.ref t0,V.ref t1,V.ref t2] = rs.map (λr=>V.ref r.t)/\(∀r∈rs,Ou r)/\(rs.map (·.ru)).Nodup/\kR K [A.dF,A.cN] A.bI A.bM H4 rs 0:=by
   refine⟨[⟨"first",none,t0,x0,d0,x0⟩,⟨"calm lift",some false,t1,x1,d1,B1⟩,⟨"calm sweep",some true,t2,x2,d2,B2⟩],rfl,acY,by simp[T_,Ua,Ub],λr hr=>?_,λr hr=>?_⟩
   ·simp only[List.mem_cons,List.not_mem_nil,or_false] at hr;rcases hr with rfl | rfl | rfl
    ·exact Jb _ _ eB
    ·exact I_ _ _ eD
    ·exact sG _ _ eF
   ·simp only[List.drop_zero,List.mem_cons,List.not_mem_nil,or_false] at hr;rcases hr with rfl | rfl | rfl
    ·exact⟨A.cN,by simp,Jc _ _ eA⟩
    ·exact⟨A.bI,.inl ⟨rfl,rfl⟩,T4,rT.same Ja⟩
    ·exact⟨A.bM,.inr ⟨rfl,rfl⟩,T5,T8.same IZ⟩
  rw[er] at hL;have hS4:=BL.seq IY;have u6:=hP.same BL;have tb4:=T3.same BL;clear made sA eA sB eB sC sD eD sE sF eF sG IZ I_ Ja Jb Jc BL T6 T7 ne0 uQ n_ BJ ne1 nB1 rT uR BK w5 ne2 nB2 T8 T9 nL T_ Ua Ub er IY hP T3 ht;refine wG.by L (rs.map (λr=>V.ref r.t)) (λi σ H'=>∃v3 v4 v5 v6 v7,σ = [some (.ref a),some (.ref p),some (.int most),v3,v4,v5,v6,v7]/\aA K H' a (ns.map V.int)/\bO K A.a_ H' p (qD z aM sk sw) fp/\bH A.aN (iX d7) (iU "nearest_of") H'/\aA K H' L (rs.map (λr=>V.ref r.t))/\kR K [A.dF,A.cN] A.bI A.bM H' rs i) hL ⟨_,_,_,_,_,rfl,hS4,u6,tb4,hL,hr4⟩ (by rintro i σ H' _ ⟨_,_,_,_,_,rfl,_,_,_,h,_⟩;exact h) ?_ ?_
  ·rintro i x σ H5 N hN hx ⟨_,_,_,_,_,rfl,Uc,pe,tb5,hL5,ra⟩;obtain⟨r,hr,rfl⟩:=eT hx;have mr:=List.mem_of_getElem? hr;have ht5:=ra.t r mr;have ru5:=ra.here hr;have ro:=aD r mr;wp_walk using T,qt;refine⟨_,bq.of ht5,rfl,_,_,rfl,_,_,rfl,rfl,ns,Uc,mV,_,rfl,Nat.le_trans ro.l (by decide),_,rfl,λw1 H6 s6 nw1 nw2=>?_⟩
   refine⟨p,_,fp,n,most,w1,rfl,pe.same s6,bo.nx,m2,by lia,nw1,nw2,λH7 s7=>⟨true,rfl,ite_no (by simp) ?_⟩⟩
   have Ud:=s6.trans s7;refine⟨A.a_,p,_,fp,n,most,r.w,rfl,by simp,pe.same Ud,bo.nx,m2,by lia,ro.e,λ_ t l ps H8 s8 mX Ue=>?_,λz=>absurd ro.b z⟩
   refine⟨rfl,λaQ H'=>aQ = [some (V.ref a),some (V.ref p),some (V.int most),some (V.str r.w),some (V.ref r.ru),some (V.ref t),some (V.int (if r.w = "first" then 0 else most - 1)),_]/\H' = H8,dH (λh=>⟨by rw[if_pos (V.str.inj h)],rfl⟩) (λh=>⟨by rw[if_neg (λz=>h (congrArg V.str z))],rfl⟩),?_⟩
   rintro aQ H' ⟨rfl,rfl⟩;have s58:=Ud.trans s8;obtain⟨due,ed⟩:∃d:Int,(if r.w = "first" then 0 else most - 1)=d:=⟨_,rfl⟩
   rw[ed] at mX ⊢;walk_at "rdt";refine⟨_,gw.tup mX,true,rfl,ite_no (by simp) ⟨_,.inr (bq.of mX),ite_no (by simp) ⟨_,bq.of mX,_,rfl,rfl,ite_no (by simp) ⟨_,bq.of mX,_,rfl,rfl,ite_no (by simp) ⟨_,bq.of mX,_,rfl,_,gw.int _,false,rfl,ite_no (by simp) ⟨_,bq.of mX,_,rfl,?_⟩⟩⟩⟩⟩⟩
   have lb:=xO (n:=n) m2;refine⟨l,ps,_,most,rfl,Ue,by lia,by lia,by lia,λq hq=>?_,λH9 s9=>⟨true,rfl,ite_no (by simp) ⟨_,bq.of (s9 _ _ mX),_,rfl,?_⟩⟩⟩
   ·rcases qE hq with rfl | rfl <;> exact⟨rfl,rfl,rfl⟩
   obtain⟨J,j0,al,je⟩:=bo.any ro.c;have pB:=s58.trans s9;have u9:=ru5.same pB;refine⟨A.a_,p,l,r.ru,r.dx,r.B,_,fp,ps,_,r.o,_,J,rfl,by simp,pe.same pB,bo.ok,bo.nM,Ue.same s9,bo.aks,bo.rd,u9,tb5.same pB,j0,al,λx dm v1 ta v3 v4 v5 r' b cu tk Of B' IU kx IT jn rA hx eS=>?_⟩
   obtain⟨b0,bs,et,bl,ec⟩:=je _ _ _ _ jn;rw[et] at eS;refine⟨x,rfl,_,_,_,hx,T.RJ,T.A4,_,rfl,?_⟩;refine acZ (.lst (bs.map V.int)) (λQ' q'=>?_) λM2 nL2=>?_
   ·walk_at "rdm";refine⟨_,aA.of eS,?_⟩;rw[ac1];exact q'
   have Ug:=aB (H:=IU) (a:=M2) (o:=.lst (bs.map V.int));have Uh:=ah.put (o:=.lst (bs.map V.int)) nL2;generalize upd IU M2 (.lst (bs.map V.int))=IW at *
   have eS:=Uh _ _ eS;refine jQ M2 (bs.map V.int) (λD2 k ys aj H4=>∃(v:Option V),ys=((bs.take k).filter λc=>decide (c<b0)).map V.int/\aj = [v,some (.ref ta)]/\H4 D2=some (.lst ys)/\ah IW H4/\IW D2=none) (λQ q=>q) (aA.of Ug) ?_ ?_ ?_ ?_
   ·intro D2 hD;exact⟨none,rfl,rfl,aB,ah.put hD,hD⟩
   ·rintro D2 k ys aj H4 ⟨v,rfl,rfl,e1,e2,e3⟩;have h1:=List.length_filter_le (λc=>decide (c<b0)) (bs.take k);have h2:=List.length_take_le k bs;rw[List.length_take] at h1;exact⟨e1,gW (by rw[List.length_map];lia),aA.of (e2 _ _ Ug)⟩
   ·rintro D2 k x ys aj H4 N2 qT hx' ⟨v,rfl,rfl,e1,e2,e3⟩;obtain⟨c,hc,rfl⟩:=eT hx';have st:=ac0 (b0:=b0) hc;walk_at "rdm";refine⟨_,aA.of (e2 _ _ eS),_,gC (j:=0) (v:=.int b0) rfl,_,rfl,dH (λhq=>?_) λhq=>?_⟩
    ·rw[if_pos hq] at st;exact⟨e1,qT _ _ _ ⟨_,by rw[st,List.map_append];rfl,rfl,aB,ah.put2 e2 e3,e3⟩⟩
    ·rw[if_neg hq,List.append_nil] at st;exact qT _ _ _ ⟨_,by rw[st],rfl,e1,e2,e3⟩
   ·rintro D2 ys aj H4 ⟨v,rfl,rfl,e1,e2,e3⟩;refine⟨D2,rfl,_,.inl (aA.of e1),ite_no ?_ ?_⟩
    ·rw[List.length_map,List.length_map,List.take_length,ec,ed];simp
    ·have u_:=Uh.trans e2;exact hN _ _ ⟨_,_,_,_,_,rfl,u_.seq (u9.seq kx (pB.seq Uc)),(u9.EN kx (pe.same pB)).same u_,IT.same u_,u_.seq (u9.seq kx (pB.seq hL5)),((ra.same pB).step nd hr kx).same u_⟩
  ·rintro σ H' ⟨_,_,_,_,_,rfl,_⟩;walk_at "rdm";exact q _
end
theorem pC{C:List Value->Prop}(h:C []):∀us:List Value,us.length=0->C us:=λ| [],_=>h
theorem cU{n:Nat}{C:List Value->Prop}(h:∀a us,us.length=n->C (a::us)):∀us:List Value,us.length=n+1->C us:=λ| a::us,e=>h a us (Nat.succ.inj e)
theorem BN{K:W.Frag}{fd:FuncData}{ps:List Str}{ds:List Value}(n:Nat)(e:n+ds.length=ps.length)(h:∀s,K.In s.heap->∀us:List Value,us.length=n->BindsTo s fd ⟨us,[]⟩ (ps.zip (us++ds))):Binds K fd ps ds:=λs us X hl=>h s X us (by rw[List.length_append] at hl;lia)
theorem d8{C:List Value->Prop}(h:∀a0,C [a0]):∀us:List Value,us.length=1->C us:=cU λa0=>pC (h a0)
theorem eY{C:List Value->Prop}(h:∀a0 a1,C [a0,a1]):∀us:List Value,us.length=2->C us:=cU λa0=>cU λa1=>pC (h a0 a1)
theorem gM{C:List Value->Prop}(h:∀a0 a1 a2,C [a0,a1,a2]):∀us:List Value,us.length=3->C us:=cU λa0=>cU λa1=>cU λa2=>pC (h a0 a1 a2)
theorem q_{C:List Value->Prop}(h:∀a0 a1 a2 a3,C [a0,a1,a2,a3]):∀us:List Value,us.length=4->C us:=cU λa0=>cU λa1=>cU λa2=>cU λa3=>pC (h a0 a1 a2 a3)
theorem Jd{C:List Value->Prop}(h:∀a0 a1 a2 a3 a4,C [a0,a1,a2,a3,a4]):∀us:List Value,us.length=5->C us:=cU λa0=>cU λa1=>cU λa2=>cU λa3=>cU λa4=>pC (h a0 a1 a2 a3 a4)
theorem Ui{C:List Value->Prop}(h:∀a0 a1 a2 a3 a4 a5,C [a0,a1,a2,a3,a4,a5]):∀us:List Value,us.length=6->C us:=cU λa0=>cU λa1=>cU λa2=>cU λa3=>cU λa4=>cU λa5=>pC (h a0 a1 a2 a3 a4 a5)
theorem afi{C:List Value->Prop}(h:∀a0 a1 a2 a3 a4 a5 a6 a7 a8 a9,C [a0,a1,a2,a3,a4,a5,a6,a7,a8,a9]):∀us:List Value,us.length=10->C us:=cU λa0=>cU λa1=>cU λa2=>cU λa3=>cU λa4=>cU λa5=>cU λa6=>cU λa7=>cU λa8=>cU λa9=>pC (h a0 a1 a2 a3 a4 a5 a6 a7 a8 a9)
theorem all_mk{l:W.OpenLaw}{w:World}{K:W.Frag}{h:Heap}{mg:Str->Option Value}{fa:Addr}{BO Je Jf Jg Jh BP vc Ji Jj Jk Jl Jm BQ vd ve Jo Jp Jq Jr Js Jt rm BR vf vg vh BS BU Ju Jv Jw Jx Jy Jz JA BV BW BX BY BZ B3 B4 B5 B6 B7 JC JD B8 JE JG JH JI B9 B_ Ca Cb Cc Cd JJ JK JM JN Ce Cf JO JP JQ JR JS JT JU JV JW JX:Addr}{afj Cg afk afl Uj afm JY afn afo JZ afp afq J1:Option Addr}{afr afs aft afu afv afw afx afy:Array (Option Value)}{afz Ci Cj Ck vj Cm afA afB Uk Ul Um Cn Uo afC J5 J6 J7 Co J8 afD afE J9 J_ Ka Cp Kc afF afG Kd Ke Kf Cq Kg:Value}{afH afI afJ:Nat}{Kh Kl Km:Tok}{Up mD mF Uq Ur Ut Uu Uv Uw Ux Uy Uz UA UB UC UD UE UG UH UI UJ UK UL UM UN UO UP UQ UR US UT UU UW UX UY UZ U0 U1 U3 U4 U5 U6 U7 U8 U9 U_ Va Vb Vc Vd Ve Vf Vg Vh Vi Vj Vk Vl Vm Vn Vo Vp Vq Vr Vs Vt:FuncData}{aV:Addr}{bI:Addr}{bM:Addr}{a_:Addr}{bE:Addr}{bA:Addr}{c9:Addr}{dF:Addr}{cN:Addr}{jv:Addr}{g7:Addr}{jw:Addr}{jx:Addr}{g8:Addr}{jy:Addr}{bg:Addr}{g9:Addr}{g_:Addr}{h_:Addr}{um:Tok}{uo:Tok}{uq:Tok}{ur:Tok}{uu:Tok}{uv:Tok}{uw:Tok}{ux:Tok}{uy:Tok}{uz:Tok}{uA:Tok}{uB:Tok}{aR aN:Addr}{afK:Option Addr}{Vu:Array Value}{afL:Array (Option Value)}{mK:Addr}{afM:Option Addr}{afN:Nat}{afO:Array (Option Value)}{afP afQ afR:Tok}{mL:Addr}{afS:Option Addr}{afT:Nat}{afU:Array (Option Value)}{afV afW afX afY afZ:Tok}(X:K.In h)(G:h.Ns mainGlobals mg)(hfa:mg "law" = some (.ref fa))
  (af0:W.nsIn K mainGlobals "BOUND_WORDS" = some (some (.ref mK)))
  (af1:K.lookup mK=some ⟨.type "tuple",afM,.seq #[.str "first" afP,.str "calm lift" afQ,.str "calm sweep" afR] afN,afO⟩)
  (af2:W.nsIn K mainGlobals "EVER_WORDS" = some (some (.ref mL)))
  (af3:K.lookup mL=some ⟨.type "tuple",afS,.seq #[.str "nearest" afV,.str "soonest" afW,.str "latest" afX,.str "lift" afY,.str "sweep" afZ] afT,afU⟩)
  (af4:W.nsIn K mainGlobals "ArmError" = some (some (.ref jv)))
  (af5:W.nsIn K mainGlobals "NoPlate" = some (some (.ref g7)))
  (af6:W.nsIn K mainGlobals "NoCell" = some (some (.ref jw)))
  (af7:W.nsIn K mainGlobals "NoSpare" = some (some (.ref jx)))
  (af8:W.nsIn K mainGlobals "NoAsk" = some (some (.ref g8)))
  (af9:W.nsIn K mainGlobals "NoOrder" = some (some (.ref jy)))
  (af_:W.nsIn K mainGlobals "NoRule" = some (some (.ref bg)))
  (aga:W.nsIn K mainGlobals "TooMany" = some (some (.ref g9)))
  (agb:W.nsIn K mainGlobals "NoLine" = some (some (.ref g_)))
  (agc:W.nsIn K mainGlobals "NoBook" = some (some (.ref h_)))
  (agd:W.nsIn K mainGlobals "Ask" = some (some (.ref aV)))
  (age:W.nsIn K mainGlobals "Lift" = some (some (.ref bI)))
  (agf:W.nsIn K mainGlobals "Sweep" = some (some (.ref bM)))
  (agg:W.nsIn K mainGlobals "Plate" = some (some (.ref a_)))
  (agh:W.nsIn K mainGlobals "Due" = some (some (.ref bE)))
  (agi:W.nsIn K mainGlobals "Course" = some (some (.ref bA)))
  (agj:W.nsIn K mainGlobals "Played" = some (some (.ref c9)))
  (agk:W.nsIn K mainGlobals "Rule" = some (some (.ref dF)))
  (agl:W.nsIn K mainGlobals "First" = some (some (.ref cN)))
  (ax0:W.findIn K (.ref aV) "__init__" = some (some (.ref BO)))
  (ix0:W.isFn K (.ref BO)=true)
  (F0:aF K "__init__" "Ask.__init__" EW BO Up)
  (ax1:W.nsIn K mainGlobals "check_between" = some (some (.ref Je)))
  (F1:aF K "check_between" "check_between" EX Je mD)
  (ax2:W.nsIn K mainGlobals "check_behind" = some (some (.ref Jf)))
  (F2:aF K "check_behind" "check_behind" EY Jf mF)
  (ax3:W.nsIn K mainGlobals "check_fields" = some (some (.ref Jg)))
  (F3:aF K "check_fields" "check_fields" EZ Jg Uq)
  (ax4:W.nsIn K mainGlobals "told_behind" = some (some (.ref Jh)))
  (F4:aF K "told_behind" "told_behind" E1 Jh Ur)
  (ax5:W.nsIn K mainGlobals "reading" = some (some (.ref BP)))
  (lx5:K.lookup BP=some ⟨afz,afj,.func (W.fnOf "reading" "reading" (eo g6) (dg g6) (aJ g6) (.ref vc) Ci Cj Ck Cg vj Cm),afr⟩)
  (Vv:K.lookup vc=some ⟨afA,afk,.seq #[.int 0 Kh,.none,.none] afH,afs⟩)
  (cx5:W.codeIn K vj "reading" = true)
  (kx5:W.keepIn K (.ref BP)=true)
  (ax6:W.nsIn K mainGlobals "clash" = some (some (.ref Ji)))
  (F6:aF K "clash" "clash" E3 Ji Ut)
  (ax7:W.nsIn K mainGlobals "next_begin" = some (some (.ref Jj)))
  (F7:aF K "next_begin" "next_begin" E4 Jj Uu)
  (ax8:W.nsIn K mainGlobals "way" = some (some (.ref Jk)))
  (F8:aF K "way" "way" E5 Jk Uv)
  (ax9:W.nsIn K mainGlobals "ring_of" = some (some (.ref Jl)))
  (F9:aF K "ring_of" "ring_of" E6 Jl Uw)
  (agm:W.nsIn K mainGlobals "first_of" = some (some (.ref Jm)))
  (Vw:aF K "first_of" "first_of" E7 Jm Ux)
  (agn:W.nsIn K mainGlobals "nearest_of" = some (some (.ref BQ)))
  (ago:K.lookup BQ=some ⟨afB,afl,.func (W.fnOf "nearest_of" "nearest_of" (eo d7) (dg d7) (aJ d7) .none Uk Ul Um Uj Cn Uo),aft⟩)
  (agp:W.codeIn K Cn "nearest_of" = true)
  (agq:W.keepIn K (.ref BQ)=true)
  (agr:W.findIn K (.ref dF) "pick" = some (some (.ref vd)))
  (Vx:W.isFn K (.ref vd)=true)
  (ags:W.findIn K (.ref cN) "pick" = some (some (.ref vd)))
  (Cr:aF K "pick" "Rule.pick" E8 vd Uy)
  (agt:W.findIn K (.ref dF) "anew" = some (some (.ref ve)))
  (Vy:W.isFn K (.ref ve)=true)
  (agu:W.findIn K (.ref cN) "anew" = some (some (.ref ve)))
  (Cs:aF K "anew" "Rule.anew" E9 ve Uz)
  (agv:W.nsIn K mainGlobals "read_of_next_ring" = some (some (.ref Jo)))
  (Vz:aF K "read_of_next_ring" "read_of_next_ring" E_ Jo UA)
  (agw:W.nsIn K mainGlobals "reads_of_cell_0" = some (some (.ref Jp)))
  (VA:aF K "reads_of_cell_0" "reads_of_cell_0" Fb Jp UB)
  (agx:W.nsIn K mainGlobals "bound_row" = some (some (.ref Jq)))
  (VB:aF K "bound_row" "bound_row" Fc Jq UC)
  (agy:W.nsIn K mainGlobals "settled" = some (some (.ref Jr)))
  (VC:aF K "settled" "settled" Fd Jr UD)
  (agz:W.nsIn K mainGlobals "that_way" = some (some (.ref Js)))
  (VD:aF K "that_way" "that_way" Fe Js UE)
  (agA:W.nsIn K mainGlobals "batch_of" = some (some (.ref Jt)))
  (VE:aF K "batch_of" "batch_of" Ff Jt UG)
  (agB:W.findIn K (.ref bI) "__init__" = some (some (.ref rm)))
  (VF:W.isFn K (.ref rm)=true)
  (agC:W.findIn K (.ref bM) "__init__" = some (some (.ref rm)))
  (agD:K.lookup rm=some ⟨afC,afm,.func (W.fnOf "__init__" "Lift.__init__" (eo jr) (dg jr) (aJ jr) (.ref BR) J5 J6 J7 JY Co J8),afu⟩)
  (agE:K.lookup BR=some ⟨afD,afn,.seq #[.bool false] afI,afv⟩)
  (agF:W.codeIn K Co "Lift.__init__" = true)
  (agG:W.keepIn K (.ref rm)=true)
  (agH:W.findIn K (.ref bI) "anew" = some (some (.ref vf)))
  (VG:W.isFn K (.ref vf)=true)
  (agI:W.findIn K (.ref bM) "anew" = some (some (.ref vf)))
  (Ct:aF K "anew" "Lift.anew" Fg vf UH)
  (agJ:W.findIn K (.ref bI) "pick" = some (some (.ref vg)))
  (VH:W.isFn K (.ref vg)=true)
  (agK:W.findIn K (.ref bM) "pick" = some (some (.ref vg)))
  (Cu:aF K "pick" "Lift.pick" Fi vg UI)
  (agL:W.findIn K (.ref bI) "looked_at" = some (some (.ref vh)))
  (VI:W.isFn K (.ref vh)=true)
  (agM:W.findIn K (.ref bM) "looked_at" = some (some (.ref vh)))
  (Cv:aF K "looked_at" "Lift.looked_at" Fj vh UJ)
  (agN:W.findIn K (.ref bI) "choose" = some (some (.ref BS)))
  (agO:W.isFn K (.ref BS)=true)
  (Kn:aF K "choose" "Lift.choose" Fo BS UK)
  (agP:W.findIn K (.ref bM) "choose" = some (some (.ref BU)))
  (agQ:W.isFn K (.ref BU)=true)
  (Ko:aF K "choose" "Sweep.choose" Fp BU UL)
  (agR:W.nsIn K mainGlobals "check_zones" = some (some (.ref Ju)))
  (VJ:aF K "check_zones" "check_zones" Fq Ju UM)
  (agS:W.nsIn K mainGlobals "check_turning" = some (some (.ref Jv)))
  (VL:aF K "check_turning" "check_turning" Ft Jv UN)
  (agT:W.nsIn K mainGlobals "check_swing" = some (some (.ref Jw)))
  (VM:aF K "check_swing" "check_swing" Fv Jw UO)
  (agU:W.nsIn K mainGlobals "check_no_detour" = some (some (.ref Jx)))
  (VN:aF K "check_no_detour" "check_no_detour" Fw Jx UP)
  (agV:W.nsIn K mainGlobals "cells_by_ring" = some (some (.ref Jy)))
  (VO:aF K "cells_by_ring" "cells_by_ring" Fx Jy UQ)
  (agW:W.nsIn K mainGlobals "cells_by_number" = some (some (.ref Jz)))
  (VP:aF K "cells_by_number" "cells_by_number" Fy Jz UR)
  (agX:W.nsIn K mainGlobals "numbers_by_cell" = some (some (.ref JA)))
  (VQ:aF K "numbers_by_cell" "numbers_by_cell" Fz JA US)
  (agY:W.findIn K (.ref a_) "__init__" = some (some (.ref BV)))
  (agZ:W.isFn K (.ref BV)=true)
  (VR:aF K "__init__" "Plate.__init__" FA BV UT)
  (ag0:W.findIn K (.ref a_) "rings" = some (some (.ref BW)))
  (ag1:W.isFn K (.ref BW)=true)
  (Kp:aF K "rings" "Plate.rings" FD BW UU)
  (ag2:W.findIn K (.ref a_) "cells_of" = some (some (.ref BX)))
  (ag3:W.isFn K (.ref BX)=true)
  (Kq:aF K "cells_of" "Plate.cells_of" FE BX UW)
  (ag4:W.findIn K (.ref a_) "beats_of" = some (some (.ref BY)))
  (ag5:W.isFn K (.ref BY)=true)
  (Kr:aF K "beats_of" "Plate.beats_of" FF BY UX)
  (ag6:W.findIn K (.ref a_) "lap_beats" = some (some (.ref BZ)))
  (ag7:W.isFn K (.ref BZ)=true)
  (Ks:aF K "lap_beats" "Plate.lap_beats" FG BZ UY)
  (ag8:W.findIn K (.ref a_) "begins" = some (some (.ref B3)))
  (ag9:W.isFn K (.ref B3)=true)
  (Ku:aF K "begins" "Plate.begins" FH B3 UZ)
  (ag_:W.findIn K (.ref a_) "swing_of" = some (some (.ref B4)))
  (aha:W.isFn K (.ref B4)=true)
  (Kv:aF K "swing_of" "Plate.swing_of" FI B4 U0)
  (ahb:W.findIn K (.ref a_) "has_cell" = some (some (.ref B5)))
  (ahc:W.isFn K (.ref B5)=true)
  (Kw:aF K "has_cell" "Plate.has_cell" FJ B5 U1)
  (ahd:W.findIn K (.ref a_) "cell_at" = some (some (.ref B6)))
  (ahe:W.isFn K (.ref B6)=true)
  (Ky:aF K "cell_at" "Plate.cell_at" FL B6 U3)
  (ahf:W.findIn K (.ref a_) "number_of" = some (some (.ref B7)))
  (ahg:W.isFn K (.ref B7)=true)
  (Kz:aF K "number_of" "Plate.number_of" FN B7 U4)
  (ahh:W.nsIn K mainGlobals "stretch" = some (some (.ref JC)))
  (VS:aF K "stretch" "stretch" FO JC U5)
  (ahi:W.nsIn K mainGlobals "stretch_by_number" = some (some (.ref JD)))
  (VT:aF K "stretch_by_number" "stretch_by_number" FP JD U6)
  (ahj:W.findIn K (.ref bE) "__init__" = some (some (.ref B8)))
  (ahk:W.isFn K (.ref B8)=true)
  (VU:aF K "__init__" "Due.__init__" FQ B8 U7)
  (ahl:W.nsIn K mainGlobals "check_beat" = some (some (.ref JE)))
  (VV:aF K "check_beat" "check_beat" FT JE U8)
  (ahm:W.nsIn K mainGlobals "check_told" = some (some (.ref JG)))
  (VW:aF K "check_told" "check_told" FU JG U9)
  (ahn:W.nsIn K mainGlobals "kept_behind" = some (some (.ref JH)))
  (VX:aF K "kept_behind" "kept_behind" FW JH U_)
  (aho:W.nsIn K mainGlobals "orders" = some (some (.ref JI)))
  (VY:aF K "orders" "orders" FY JI Va)
  (ahp:W.findIn K (.ref bA) "__init__" = some (some (.ref B9)))
  (ahq:W.isFn K (.ref B9)=true)
  (VZ:aF K "__init__" "Course.__init__" FZ B9 Vb)
  (ahr:W.findIn K (.ref bA) "stay" = some (some (.ref B_)))
  (ahs:W.isFn K (.ref B_)=true)
  (KA:aF K "stay" "Course.stay" F_ B_ Vc)
  (aht:W.findIn K (.ref bA) "has_to_wait" = some (some (.ref Ca)))
  (ahu:W.isFn K (.ref Ca)=true)
  (KC:aF K "has_to_wait" "Course.has_to_wait" Ga Ca Vd)
  (ahv:W.findIn K (.ref bA) "ready" = some (some (.ref Cb)))
  (ahw:W.isFn K (.ref Cb)=true)
  (KG:aF K "ready" "Course.ready" Gb Cb Ve)
  (ahx:W.findIn K (.ref bA) "take" = some (some (.ref Cc)))
  (ahy:W.isFn K (.ref Cc)=true)
  (KH:aF K "take" "Course.take" Gd Cc Vf)
  (ahz:W.findIn K (.ref c9) "__init__" = some (some (.ref Cd)))
  (ahA:W.isFn K (.ref Cd)=true)
  (V0:aF K "__init__" "Played.__init__" Ge Cd Vg)
  (ahB:W.nsIn K mainGlobals "last_ends" = some (some (.ref JJ)))
  (V1:aF K "last_ends" "last_ends" Gf JJ Vh)
  (ahC:W.nsIn K mainGlobals "numbers_of" = some (some (.ref JK)))
  (V2:aF K "numbers_of" "numbers_of" Gg JK Vi)
  (ahD:W.nsIn K mainGlobals "answers_of" = some (some (.ref JM)))
  (V3:aF K "answers_of" "answers_of" Gh JM Vj)
  (ahE:W.nsIn K mainGlobals "told_of" = some (some (.ref JN)))
  (V4:aF K "told_of" "told_of" Gi JN Vk)
  (ahF:W.nsIn K mainGlobals "play" = some (some (.ref Ce)))
  (ahG:K.lookup Ce=some ⟨afE,afo,.func (W.fnOf "play" "play" (eo jt) (dg jt) (aJ jt) (.ref Cf) J9 J_ Ka JZ Cp Kc),afw⟩)
  (ahH:K.lookup Cf=some ⟨afF,afp,.seq #[.int 0 Kl,.int 0 Km] afJ,afx⟩)
  (ahI:W.codeIn K Cp "play" = true)
  (ahJ:W.keepIn K (.ref Ce)=true)
  (ahK:W.nsIn K mainGlobals "_law_cell" = some (some (.ref JO)))
  (V5:aF K "_law_cell" "_law_cell" Gj JO Vl)
  (ahL:W.nsIn K mainGlobals "_law_draw" = some (some (.ref JP)))
  (V6:aF K "_law_draw" "_law_draw" Gk JP Vm)
  (ahM:W.nsIn K mainGlobals "_law_swing" = some (some (.ref JQ)))
  (V7:aF K "_law_swing" "_law_swing" Gm JQ Vn)
  (ahN:W.nsIn K mainGlobals "_law_zones" = some (some (.ref JR)))
  (V8:aF K "_law_zones" "_law_zones" Gn JR Vo)
  (ahO:W.nsIn K mainGlobals "_law_made_plate" = some (some (.ref JS)))
  (V9:aF K "_law_made_plate" "_law_made_plate" Gp JS Vp)
  (ahP:W.nsIn K mainGlobals "_law_no" = some (some (.ref JT)))
  (V_:aF K "_law_no" "_law_no" Gq JT Vq)
  (ahQ:W.nsIn K mainGlobals "_law_refused" = some (some (.ref JU)))
  (Wa:aF K "_law_refused" "_law_refused" Gr JU Vr)
  (ahR:W.nsIn K mainGlobals "_law_strange" = some (some (.ref JV)))
  (Wb:aF K "_law_strange" "_law_strange" Gs JV Vs)
  (ahS:W.nsIn K mainGlobals "_law_reads" = some (some (.ref JW)))
  (Wc:aF K "_law_reads" "_law_reads" Gu JW Vt)
  (Wd:W.nsIn K mainGlobals "law" = some (some (.ref JX)))
  (ahT:K.lookup JX=some ⟨afG,afq,.func (W.fnOf "law" "law" (eo ju) (dg ju) (aJ ju) .none Kd Ke Kf J1 Cq Kg),afy⟩)
  (ahU:W.codeIn K Cq "law" = true)
  (ahV:W.keepIn K (.ref JX)=true)
  (ahW:W.plainGet K aV Str.empty=true)
  (ahX:W.hasDictIn K aV=true)
  (ahY:W.plainOver K aV=true)
  (ahZ:W.findIn K (.ref aV) "__setattr__" = some (some (.builtin "object.__setattr__")))
  (ah0:W.makesIn K aV=true)
  (ah1:W.keepIn K (.ref aV)=true)
  (uF:W.findIn K (.ref aV) "kind" = some none)
  (Hz:W.findIn K (.ref aV) "first" = some none)
  (HA:W.findIn K (.ref aV) "many" = some none)
  (HB:W.findIn K (.ref aV) "marks" = some none)
  (uG:W.findIn K (.ref aV) "at" = some none)
  (HC:W.findIn K (.ref aV) "asker" = some none)
  (HD:W.findIn K (.ref aV) "latest" = some none)
  (uH:W.findIn K (.ref aV) "behind" = some none)
  (HE:W.findIn K (.ref aV) "early" = some none)
  (ah2:W.plainGet K bI Str.empty=true)
  (ah3:W.hasDictIn K bI=true)
  (ah4:W.plainOver K bI=true)
  (ah5:W.findIn K (.ref bI) "__setattr__" = some (some (.builtin "object.__setattr__")))
  (ah6:W.makesIn K bI=true)
  (ah7:W.keepIn K (.ref bI)=true)
  (AN:W.findIn K (.ref bI) "calm" = some none)
  (qM:W.findIn K (.ref bI) "inward" = some none)
  (AO:W.findIn K (.ref bI) "batch" = some none)
  (ah8:W.plainGet K bM Str.empty=true)
  (ah9:W.hasDictIn K bM=true)
  (ah_:W.plainOver K bM=true)
  (aia:W.findIn K (.ref bM) "__setattr__" = some (some (.builtin "object.__setattr__")))
  (aib:W.makesIn K bM=true)
  (aic:W.keepIn K (.ref bM)=true)
  (AQ:W.findIn K (.ref bM) "calm" = some none)
  (AR:W.findIn K (.ref bM) "inward" = some none)
  (AS:W.findIn K (.ref bM) "batch" = some none)
  (aid:W.plainGet K a_ Str.empty=true)
  (aie:W.hasDictIn K a_=true)
  (aif:W.plainOver K a_=true)
  (aih:W.findIn K (.ref a_) "__setattr__" = some (some (.builtin "object.__setattr__")))
  (aii:W.makesIn K a_=true)
  (aij:W.keepIn K (.ref a_)=true)
  (AU:W.findIn K (.ref a_) "ring_cells" = some none)
  (AV:W.findIn K (.ref a_) "lap" = some none)
  (AW:W.findIn K (.ref a_) "skew" = some none)
  (AX:W.findIn K (.ref a_) "swing" = some none)
  (AY:W.findIn K (.ref a_) "number_cells" = some none)
  (AZ:W.findIn K (.ref a_) "cell_numbers" = some none)
  (aik:W.plainGet K bE Str.empty=true)
  (ail:W.hasDictIn K bE=true)
  (aim:W.plainOver K bE=true)
  (ain:W.findIn K (.ref bE) "__setattr__" = some (some (.builtin "object.__setattr__")))
  (aio:W.makesIn K bE=true)
  (aip:W.keepIn K (.ref bE)=true)
  (uI:W.findIn K (.ref bE) "number" = some none)
  (HF:W.findIn K (.ref bE) "ask" = some none)
  (A1:W.findIn K (.ref bE) "cells" = some none)
  (aiq:W.plainGet K bA Str.empty=true)
  (air:W.hasDictIn K bA=true)
  (ais:W.plainOver K bA=true)
  (ait:W.findIn K (.ref bA) "__setattr__" = some (some (.builtin "object.__setattr__")))
  (aiu:W.makesIn K bA=true)
  (aiv:W.keepIn K (.ref bA)=true)
  (HG:W.findIn K (.ref bA) "keeping" = some none)
  (HJ:W.findIn K (.ref bA) "plate" = some none)
  (A2:W.findIn K (.ref bA) "ring" = some none)
  (uJ:W.findIn K (.ref bA) "beat" = some none)
  (A3:W.findIn K (.ref bA) "left" = some none)
  (aiw:W.plainGet K c9 Str.empty=true)
  (aix:W.hasDictIn K c9=true)
  (aiy:W.plainOver K c9=true)
  (aiz:W.findIn K (.ref c9) "__setattr__" = some (some (.builtin "object.__setattr__")))
  (aiA:W.makesIn K c9=true)
  (aiB:W.keepIn K (.ref c9)=true)
  (HK:W.findIn K (.ref c9) "rows" = some none)
  (A4:W.findIn K (.ref c9) "taken" = some none)
  (HL:W.findIn K (.ref c9) "told" = some none)
  (HM:W.findIn K (.ref c9) "answers" = some none)
  (HN:W.findIn K (.ref c9) "end" = some none)
  (aiC:W.plainGet K dF Str.empty=true)
  (aiD:W.hasDictIn K dF=true)
  (aiE:W.plainOver K dF=true)
  (aiF:W.findIn K (.ref dF) "__setattr__" = some (some (.builtin "object.__setattr__")))
  (aiG:W.makesIn K dF=true)
  (aiH:W.keepIn K (.ref dF)=true)
  (aiI:W.findIn K (.ref dF) "__init__" = some (some (.builtin "object.__init__")))
  (aiJ:W.plainGet K cN Str.empty=true)
  (aiK:W.hasDictIn K cN=true)
  (aiL:W.plainOver K cN=true)
  (aiM:W.findIn K (.ref cN) "__setattr__" = some (some (.builtin "object.__setattr__")))
  (aiN:W.makesIn K cN=true)
  (aiO:W.keepIn K (.ref cN)=true)
  (aiP:W.findIn K (.ref cN) "__init__" = some (some (.builtin "object.__init__")))
  (aiQ:W.nsIn K mainGlobals "MOST_CELLS_asks" = some (some (.int 16 um)))
  (aiR:W.nsIn K mainGlobals "GREATEST_FIRST" = some (some (.int 1000000 uo)))
  (aiS:W.nsIn K mainGlobals "GREATEST_AT" = some (some (.int 1000000000000 uq)))
  (aiT:W.nsIn K mainGlobals "GREATEST_ASKER" = some (some (.int 20 ur)))
  (aiU:W.nsIn K mainGlobals "GREATEST_LATEST" = some (some (.int 10000000000000 uu)))
  (aiV:W.nsIn K mainGlobals "GREATEST_BEHIND" = some (some (.int 99 uv)))
  (aiW:W.nsIn K mainGlobals "MOST_ZONES" = some (some (.int 5 uw)))
  (aiX:W.nsIn K mainGlobals "MOST_RINGS_IN_ZONE" = some (some (.int 40 ux)))
  (aiY:W.nsIn K mainGlobals "MOST_CELLS_IN_RING" = some (some (.int 60 uy)))
  (aiZ:W.nsIn K mainGlobals "LEAST_RINGS" = some (some (.int 2 uz)))
  (ai0:W.nsIn K mainGlobals "MOST_RINGS" = some (some (.int 120 uA)))
  (ai1:W.nsIn K mainGlobals "MOST_BEATS" = some (some (.int 1000000000 uB)))
  (uK:W.nsIn K mainGlobals "abs" = some none)
  (A5:W.nsIn K mainGlobals "all" = some none)
  (uL:W.nsIn K mainGlobals "any" = some none)
  (A6:W.nsIn K mainGlobals "bool" = some none)
  (HS:W.nsIn K mainGlobals "dict" = some none)
  (mS:W.nsIn K mainGlobals "enumerate" = some none)
  (lM:W.nsIn K mainGlobals "isinstance" = some none)
  (fD:W.nsIn K mainGlobals "len" = some none)
  (qO:W.nsIn K mainGlobals "list" = some none)
  (A7:W.nsIn K mainGlobals "max" = some none)
  (qP:W.nsIn K mainGlobals "min" = some none)
  (iI:W.nsIn K mainGlobals "range" = some none)
  (A8:W.nsIn K mainGlobals "sorted" = some none)
  (A9:W.nsIn K mainGlobals "sum" = some none)
  (qQ:W.nsIn K mainGlobals "tuple" = some none)
  (Ba:W.excIn K jv [.type "ValueError",.type "Exception",.type "BaseException",.type "object"] "ValueError.__new__" = true)
  (Bb:W.excIn K g7 [.type "ValueError",.type "Exception",.type "BaseException",.type "object"] "ValueError.__new__" = true)
  (Bc:W.excIn K g8 [.type "ValueError",.type "Exception",.type "BaseException",.type "object"] "ValueError.__new__" = true)
  (uM:W.excIn K bg [.type "ValueError",.type "Exception",.type "BaseException",.type "object"] "ValueError.__new__" = true)
  (ai2:W.findIn K (.ref bg) "__getattribute__" = some (some (.builtin "BaseException.__getattribute__")))
  (ai3:W.findIn K (.ref bg) "__getattr__" = some none)
  (ai4:W.mroIn K bg (.type "BaseException")=some true)
  (We:W.mroIn K bg (.type "object")=some true)
  (ai5:W.findIn K (.ref bg) "__class__" = some (some (.builtin "object.__class__")))
  (Br:W.kitOne K (.ref bg) (.type "ValueError")=some true)
  (HV:W.kitOne K (.ref bg) (.ref jv)=some true)
  (ai6:W.mroIn K bg (.ref jv)=some true)
  (Bg:W.kitOne K (.ref bg) (.ref g7)=some false)
  (ai7:W.mroIn K bg (.ref g7)=some false)
  (Bh:W.kitOne K (.ref bg) (.ref jw)=some false)
  (ai8:W.mroIn K bg (.ref jw)=some false)
  (Bj:W.kitOne K (.ref bg) (.ref jx)=some false)
  (ai9:W.mroIn K bg (.ref jx)=some false)
  (Bk:W.kitOne K (.ref bg) (.ref g8)=some false)
  (ai_:W.mroIn K bg (.ref g8)=some false)
  (Bl:W.kitOne K (.ref bg) (.ref jy)=some false)
  (aja:W.mroIn K bg (.ref jy)=some false)
  (Bm:W.kitOne K (.ref bg) (.ref bg)=some true)
  (ajb:W.mroIn K bg (.ref bg)=some true)
  (Bo:W.kitOne K (.ref bg) (.ref g9)=some false)
  (ajc:W.mroIn K bg (.ref g9)=some false)
  (Bp:W.kitOne K (.ref bg) (.ref g_)=some false)
  (ajd:W.mroIn K bg (.ref g_)=some false)
  (Bq:W.kitOne K (.ref bg) (.ref h_)=some false)
  (aje:W.mroIn K bg (.ref h_)=some false)
  (Bs:W.excIn K g9 [.type "ValueError",.type "Exception",.type "BaseException",.type "object"] "ValueError.__new__" = true)
  (Bu:W.excIn K g_ [.type "ValueError",.type "Exception",.type "BaseException",.type "object"] "ValueError.__new__" = true)
  (Bv:W.excIn K h_ [.type "ValueError",.type "Exception",.type "BaseException",.type "object"] "ValueError.__new__" = true)
  (ajf:W.specialIn K (.builtin "object.__class__") "__get__" = some (some (.builtin "getset_descriptor.__get__")))
  (ajg:W.takesIn K (.builtin "object.__class__")=some true)
  (A_:W.nsIn K mainGlobals "ValueError" = some none)
  (ajh:Cn = .ref aR)
  (aj2:K.lookup aR=some ⟨.type "code",afK,.fields Vu,afL⟩)
  (aj3:Vu[11]? = some (.ref aN))
  (aji:W.codeHdIn K aR aN=true)
  (ajj:h.get? aN=some (W.tabObj #[]))
  : ∃(fd:FuncData) (tabs:List (Addr×Addr)),(∀(s:Shared) (v:Value),BindsTo s fd ⟨[v],[]⟩ [("_law_script",v)])/\W.TabsAt tabs h/\∀base:Heap,K.In base->base.Ns mainGlobals mg->(∀q∈tabs,aY mg base q.1 q.2)->aO l.prog w K mg base aU 9 fa fd ["_law_script"] (w6 K tabs):=by
 have e:=hfa.symm.trans (W.mg_of X G Wd);cases e;have F5:=D5 (st:=g6) lx5 cx5 kx5;have Wf:=fun_mk (st:=d7) ago agp agq;have F20:=D5 (st:=jr) agD agF agG;have F60:=D5 (st:=jt) ahG ahI ahJ;have Wg:=fun_mk (st:=ju) ahT ahU ahV;have b0:=F0.binds (ps:=["self", "kind", "first", "many", "marks", "at", "asker", "latest", "behind", "early"]) λ_ _ _ _ _ _=>afi (λ_ _ _ _ _ _ _ _ _ _=>rfl)
 have b1:=F1.binds (ps:=["number", "least", "greatest", "words"]) λ_ _ _ _ _ _=>q_ (λ_ _ _ _=>rfl);have b2:=F2.binds (ps:=["behind"]) λ_ _ _ _ _ _=>d8 (λ_=>rfl)
 have b3:=F3.binds (ps:=["first", "many", "at", "asker", "latest", "behind"]) λ_ _ _ _ _ _=>Ui (λ_ _ _ _ _ _=>rfl)
 have b4:=F4.binds (ps:=["behind"]) λ_ _ _ _ _ _=>d8 (λ_=>rfl)
 have ajk:Binds K (W.fnOf "reading" "reading" (eo g6) (dg g6) (aJ g6) (.ref vc) Ci Cj Ck Cg vj Cm) ["first", "many", "at", "asker", "latest", "behind"] [.int 0 Kh,.none,.none]:=BN 3 rfl λs X=>gM λ_ _ _=>W.binds_K X rfl Vv rfl rfl rfl
 have ajl:Binds K (W.fnOf "reading" "reading" (eo g6) (dg g6) (aJ g6) (.ref vc) Ci Cj Ck Cg vj Cm) ["first", "many", "at", "asker", "latest", "behind"] [.none,.none]:=BN 4 rfl λs X=>q_ λ_ _ _ _=>W.binds_K X rfl Vv rfl rfl rfl
 have b6:=F6.binds (ps:=["one", "other"]) λ_ _ _ _ _ _=>eY (λ_ _=>rfl);have b7:=F7.binds (ps:=["plate", "ring", "place", "beat"]) λ_ _ _ _ _ _=>q_ (λ_ _ _ _=>rfl);have b8:=F8.binds (ps:=["plate", "ring", "beat", "cells"]) λ_ _ _ _ _ _=>q_ (λ_ _ _ _=>rfl);have b9:=F9.binds (ps:=["due"]) λ_ _ _ _ _ _=>d8 (λ_=>rfl)
 have b10:=Vw.binds (ps:=["dues"]) λ_ _ _ _ _ _=>d8 (λ_=>rfl)
 have b11:=Wf.binds (ps:=["ring", "dues"]) λ_ _ _ _ _ _=>eY (λ_ _=>rfl);have b12:=Cr.binds (ps:=["self", "plate", "ring", "beat", "dues"]) λ_ _ _ _ _ _=>Jd (λ_ _ _ _ _=>rfl);have b13:=Cs.binds (ps:=["self"]) λ_ _ _ _ _ _=>d8 (λ_=>rfl)
 have b14:=Vz.binds (ps:=["plate"]) λ_ _ _ _ _ _=>d8 (λ_=>rfl)
 have SQ:=VA.binds (ps:=["count", "at", "asker"]) λ_ _ _ _ _ _=>gM (λ_ _ _=>rfl);have b16:=VB.binds (ps:=["plate", "most"]) λ_ _ _ _ _ _=>eY (λ_ _=>rfl);have b17:=VC.binds (ps:=["plate", "word", "most"]) λ_ _ _ _ _ _=>gM (λ_ _ _=>rfl);have b18:=VD.binds (ps:=["inward", "ring", "dues"]) λ_ _ _ _ _ _=>gM (λ_ _ _=>rfl);have b19:=VE.binds (ps:=["dues"]) λ_ _ _ _ _ _=>d8 (λ_=>rfl)
 have ajm:Binds K (W.fnOf "__init__" "Lift.__init__" (eo jr) (dg jr) (aJ jr) (.ref BR) J5 J6 J7 JY Co J8) ["self", "calm"] []:=BN 2 rfl λs X=>eY λ_ _=>W.binds_K X rfl agE rfl rfl rfl;have Ii:=Ct.binds (ps:=["self"]) λ_ _ _ _ _ _=>d8 (λ_=>rfl)
 have b22:=Cu.binds (ps:=["self", "plate", "ring", "beat", "dues"]) λ_ _ _ _ _ _=>Jd (λ_ _ _ _ _=>rfl);have b23:=Cv.binds (ps:=["self", "dues"]) λ_ _ _ _ _ _=>eY (λ_ _=>rfl);have b24:=Kn.binds (ps:=["self", "ring", "dues"]) λ_ _ _ _ _ _=>gM (λ_ _ _=>rfl);have b25:=Ko.binds (ps:=["self", "ring", "dues"]) λ_ _ _ _ _ _=>gM (λ_ _ _=>rfl);have b26:=VJ.binds (ps:=["zones"]) λ_ _ _ _ _ _=>d8 (λ_=>rfl)
 have b27:=VL.binds (ps:=["zones", "lap", "skew"]) λ_ _ _ _ _ _=>gM (λ_ _ _=>rfl);have b28:=VM.binds (ps:=["swing", "rings"]) λ_ _ _ _ _ _=>eY (λ_ _=>rfl);have b29:=VN.binds (ps:=["swing"]) λ_ _ _ _ _ _=>d8 (λ_=>rfl)
 have b30:=VO.binds (ps:=["zones"]) λ_ _ _ _ _ _=>d8 (λ_=>rfl)
 have b31:=VP.binds (ps:=["ring_cells", "spares"]) λ_ _ _ _ _ _=>eY (λ_ _=>rfl);have ED:=VQ.binds (ps:=["number_cells"]) λ_ _ _ _ _ _=>d8 (λ_=>rfl)
 have b33:=VR.binds (ps:=["self", "zones", "lap", "skew", "swing"]) λ_ _ _ _ _ _=>Jd (λ_ _ _ _ _=>rfl);have b34:=Kp.binds (ps:=["self"]) λ_ _ _ _ _ _=>d8 (λ_=>rfl)
 have b35:=Kq.binds (ps:=["self", "ring"]) λ_ _ _ _ _ _=>eY (λ_ _=>rfl);have b36:=Kr.binds (ps:=["self", "ring"]) λ_ _ _ _ _ _=>eY (λ_ _=>rfl);have b37:=Ks.binds (ps:=["self"]) λ_ _ _ _ _ _=>d8 (λ_=>rfl)
 have b38:=Ku.binds (ps:=["self", "ring", "place"]) λ_ _ _ _ _ _=>gM (λ_ _ _=>rfl);have b39:=Kv.binds (ps:=["self", "ring", "other"]) λ_ _ _ _ _ _=>gM (λ_ _ _=>rfl);have b40:=Kw.binds (ps:=["self", "ring", "place"]) λ_ _ _ _ _ _=>gM (λ_ _ _=>rfl);have b41:=Ky.binds (ps:=["self", "number"]) λ_ _ _ _ _ _=>eY (λ_ _=>rfl);have b42:=Kz.binds (ps:=["self", "ring", "place"]) λ_ _ _ _ _ _=>gM (λ_ _ _=>rfl);have b43:=VS.binds (ps:=["plate", "ask"]) λ_ _ _ _ _ _=>eY (λ_ _=>rfl);have b44:=VT.binds (ps:=["plate", "number", "ask"]) λ_ _ _ _ _ _=>gM (λ_ _ _=>rfl);have b45:=VU.binds (ps:=["self", "plate", "number", "ask"]) λ_ _ _ _ _ _=>q_ (λ_ _ _ _=>rfl);have b46:=VV.binds (ps:=["asks", "number"]) λ_ _ _ _ _ _=>eY (λ_ _=>rfl);have b47:=VW.binds (ps:=["asks", "number"]) λ_ _ _ _ _ _=>eY (λ_ _=>rfl);have b48:=VX.binds (ps:=["asks", "number"]) λ_ _ _ _ _ _=>eY (λ_ _=>rfl);have b49:=VY.binds (ps:=["plate", "asks"]) λ_ _ _ _ _ _=>eY (λ_ _=>rfl);have b50:=VZ.binds (ps:=["self", "plate", "asks", "ring"]) λ_ _ _ _ _ _=>q_ (λ_ _ _ _=>rfl);have b51:=KA.binds (ps:=["self"]) λ_ _ _ _ _ _=>d8 (λ_=>rfl)
 have b52:=KC.binds (ps:=["self", "number"]) λ_ _ _ _ _ _=>eY (λ_ _=>rfl);have b53:=KG.binds (ps:=["self"]) λ_ _ _ _ _ _=>d8 (λ_=>rfl)
 have b54:=KH.binds (ps:=["self", "number"]) λ_ _ _ _ _ _=>eY (λ_ _=>rfl);have b55:=V0.binds (ps:=["self", "rows", "taken", "told", "answers", "end"]) λ_ _ _ _ _ _=>Ui (λ_ _ _ _ _ _=>rfl);have b56:=V1.binds (ps:=["rows"]) λ_ _ _ _ _ _=>d8 (λ_=>rfl)
 have b57:=V2.binds (ps:=["ask"]) λ_ _ _ _ _ _=>d8 (λ_=>rfl)
 have b58:=V3.binds (ps:=["asks", "picks"]) λ_ _ _ _ _ _=>eY (λ_ _=>rfl);have b59:=V4.binds (ps:=["asks", "ends", "shelf"]) λ_ _ _ _ _ _=>gM (λ_ _ _=>rfl);have ajn:Binds K (W.fnOf "play" "play" (eo jt) (dg jt) (aJ jt) (.ref Cf) J9 J_ Ka JZ Cp Kc) ["plate", "asks", "rule", "ring", "shelf"] [.int 0 Kl,.int 0 Km]:=BN 3 rfl λs X=>gM λ_ _ _=>W.binds_K X rfl ahH rfl rfl rfl;have b61:=V5.binds (ps:=["_law_script", "_law_k"]) λ_ _ _ _ _ _=>eY (λ_ _=>rfl);have b62:=V6.binds (ps:=["_law_cell_here", "_law_turn", "_law_many"]) λ_ _ _ _ _ _=>gM (λ_ _ _=>rfl);have b63:=V7.binds (ps:=["_law_cell_here", "_law_rings"]) λ_ _ _ _ _ _=>eY (λ_ _=>rfl);have b64:=V8.binds (ps:=["_law_cell_here"]) λ_ _ _ _ _ _=>d8 (λ_=>rfl)
 have b65:=V9.binds (ps:=["_law_script"]) λ_ _ _ _ _ _=>d8 (λ_=>rfl)
 have b66:=V_.binds (ps:=["_law_e"]) λ_ _ _ _ _ _=>d8 (λ_=>rfl)
 have b67:=Wa.binds (ps:=["_law_plate", "_law_word", "_law_most"]) λ_ _ _ _ _ _=>gM (λ_ _ _=>rfl);have b68:=Wb.binds (ps:=["_law_cell_here"]) λ_ _ _ _ _ _=>d8 (λ_=>rfl)
 have b69:=Wc.binds (ps:=["_law_asks", "_law_most"]) λ_ _ _ _ _ _=>eY (λ_ _=>rfl);have b70:=Wg.binds (ps:=["_law_script"]) λ_ _ _ _ _ _=>d8 (λ_=>rfl)
 let A:e_:={ xX:=BO,xY:=Up,xZ:=Je,x6:=mD,x8:=Jf,x9:=mF,x_:=Jg,yc:=Uq,yd:=Jh,yf:=Ur,yg:=BP,tR:=(W.fnOf "reading" "reading" (eo g6) (dg g6) (aJ g6) (.ref vc) Ci Cj Ck Cg vj Cm),GA:=Kh,yh:=Ji,yi:=Ut,yj:=Jj,yl:=Uu,ym:=Jk,yp:=Uv,yq:=Jl,yr:=Uw,yt:=Jm,yu:=Ux,tU:=BQ,qG:=(W.fnOf "nearest_of" "nearest_of" (eo d7) (dg d7) (aJ d7) .none Uk Ul Um Uj Cn Uo),qH:=vd,yw:=Uy,qI:=ve,yx:=Uz,yy:=Jo,yz:=UA,yC:=Jp,yD:=UB,yE:=Jq,yF:=UC,yG:=Jr,yH:=UD,yI:=Js,yJ:=UE,yK:=Jt,yL:=UG,tV:=rm,yM:=(W.fnOf "__init__" "Lift.__init__" (eo jr) (dg jr) (aJ jr) (.ref BR) J5 J6 J7 JY Co J8),qJ:=vf,yN:=UH,qK:=vg,yO:=UI,qL:=vh,yP:=UJ,tW:=BS,yQ:=UK,tX:=BU,yR:=UL,yS:=Ju,yT:=UM,yU:=Jv,yV:=UN,yW:=Jw,yX:=UO,yY:=Jx,yZ:=UP,y_:=Jy,zb:=UQ,zc:=Jz,zd:=UR,ze:=JA,zf:=US,zg:=BV,zh:=UT,tY:=BW,zj:=UU,tZ:=BX,zm:=UW,t_:=BY,zo:=UX,uc:=BZ,zq:=UY,ud:=B3,zu:=UZ,ue:=B4,zw:=U0,uf:=B5,zx:=U1,ug:=B6,zy:=U3,uh:=B7,zz:=U4,zA:=JC,zB:=U5,zC:=JD,zD:=U6,zE:=B8,zF:=U7,zG:=JE,zH:=U8,zI:=JG,zJ:=U9,zK:=JH,zL:=U_,zM:=JI,zN:=Va,zO:=B9,zP:=Vb,zQ:=B_,zR:=Vc,zS:=Ca,zT:=Vd,zU:=Cb,zW:=Ve,zX:=Cc,zY:=Vf,zZ:=Cd,z3:=Vg,z6:=JJ,z7:=Vh,z8:=JK,z9:=Vi,z_:=JM,Aa:=Vj,Ab:=JN,Ac:=Vk,Ad:=Ce,Ae:=(W.fnOf "play" "play" (eo jt) (dg jt) (aJ jt) (.ref Cf) J9 J_ Ka JZ Cp Kc),GB:=Kl,GC:=Km,Af:=JO,Ag:=Vl,Ah:=JP,Ai:=Vm,Aj:=JQ,Al:=Vn,Am:=JR,An:=Vo,Ao:=JS,Aq:=Vp,As:=JT,Au:=Vq,Av:=JU,Aw:=Vr,Ax:=JV,Ay:=Vs,Az:=JW,AA:=Vt,AB:=fa,AD:=(W.fnOf "law" "law" (eo ju) (dg ju) (aJ ju) .none Kd Ke Kf J1 Cq Kg),aV:=aV,bI:=bI,bM:=bM,a_:=a_,bE:=bE,bA:=bA,c9:=c9,dF:=dF,cN:=cN,jv:=jv,g7:=g7,jw:=jw,jx:=jx,g8:=g8,jy:=jy,bg:=bg,g9:=g9,g_:=g_,h_:=h_,um:=um,uo:=uo,uq:=uq,ur:=ur,uu:=uu,uv:=uv,uw:=uw,ux:=ux,uy:=uy,uz:=uz,uA:=uA,uB:=uB,aR:=aR,aN:=aN,mK:=mK,mL:=mL }
 have T:Tx K mg A:={ OG:=F0,OH:=b0,mO:=F1,oR:=b1,oU:=W.mg_of X G ax1,GD:=F2,OI:=b2,OJ:=W.mg_of X G ax2,GF:=F3,OL:=b3,OM:=W.mg_of X G ax3,GG:=F4,ON:=b4,OO:=W.mg_of X G ax4,AE:=F5,OP:=ajk,OQ:=ajl,GH:=W.mg_of X G ax5,GI:=F6,OR:=b6,OS:=W.mg_of X G ax6,GJ:=F7,OT:=b7,OU:=W.mg_of X G ax7,GK:=F8,OV:=b8,OW:=W.mg_of X G ax8,uC:=F9,AF:=b9,AG:=W.mg_of X G ax9,GL:=Vw,OX:=b10,OY:=W.mg_of X G agm,uD:=Wf,AH:=b11,AI:=W.mg_of X G agn,OZ:=Cr,O0:=b12,O1:=⟨agr,Vx,Cr.kp⟩,O2:=⟨ags,Vx,Cr.kp⟩,O3:=Cs,O4:=b13,O5:=⟨agt,Vy,Cs.kp⟩,O6:=⟨agu,Vy,Cs.kp⟩,GN:=Vz,O7:=b14,O8:=W.mg_of X G agv,GO:=VA,O9:=SQ,O_:=W.mg_of X G agw,GP:=VB,Pa:=b16,Pb:=W.mg_of X G agx,AJ:=VC,GQ:=b17,GR:=W.mg_of X G agy,uE:=VD,AK:=b18,AL:=W.mg_of X G agz,GS:=VE,Pc:=b19,Pd:=W.mg_of X G agA,Pe:=F20,GU:=ajm,Pf:=Ct,GV:=Ii,Pg:=⟨agH,VG,Ct.kp⟩,Ph:=⟨agI,VG,Ct.kp⟩,Pj:=Cu,Pn:=b22,Po:=⟨agJ,VH,Cu.kp⟩,Pp:=⟨agK,VH,Cu.kp⟩,Pq:=Cv,Pr:=b23,Pu:=⟨agL,VI,Cv.kp⟩,Pw:=⟨agM,VI,Cv.kp⟩,Px:=Kn,Py:=b24,Pz:=⟨agN,agO,Kn.kp⟩,PB:=Ko,PD:=b25,PF:=⟨agP,agQ,Ko.kp⟩,GW:=VJ,PJ:=b26,PL:=W.mg_of X G agR,GX:=VL,PM:=b27,PN:=W.mg_of X G agS,GY:=VM,PR:=b28,PU:=W.mg_of X G agT,GZ:=VN,PV:=b29,PX:=W.mg_of X G agU,G4:=VO,PY:=b30,PZ:=W.mg_of X G agV,G5:=VP,P0:=b31,P1:=W.mg_of X G agW,G6:=VQ,P4:=ED,P5:=W.mg_of X G agX,P6:=VR,P7:=b33,P8:=Kp,adJ:=b34,P9:=⟨ag0,ag1,Kp.kp⟩,P_:=Kq,adK:=b35,Qa:=⟨ag2,ag3,Kq.kp⟩,Qc:=Kr,G7:=b36,Qd:=⟨ag4,ag5,Kr.kp⟩,Qe:=Ks,Qf:=b37,Qg:=⟨ag6,ag7,Ks.kp⟩,Qh:=Ku,Qi:=b38,Qj:=⟨ag8,ag9,Ku.kp⟩,Qk:=Kv,Ql:=b39,Qm:=⟨ag_,aha,Kv.kp⟩,Qn:=Kw,Qo:=b40,Qp:=⟨ahb,ahc,Kw.kp⟩,Qq:=Ky,Qs:=b41,Qt:=⟨ahd,ahe,Ky.kp⟩,Qu:=Kz,Qv:=b42,Qw:=⟨ahf,ahg,Kz.kp⟩,G8:=VS,Qx:=b43,Qy:=W.mg_of X G ahh,AM:=VT,G9:=b44,G_:=W.mg_of X G ahi,Qz:=VU,QA:=b45,Hf:=VV,QB:=b46,QC:=W.mg_of X G ahl,Hg:=VW,QD:=b47,QE:=W.mg_of X G ahm,Hh:=VX,QF:=b48,QG:=W.mg_of X G ahn,Hi:=VY,QH:=b49,QI:=W.mg_of X G aho,QJ:=VZ,QK:=b50,QL:=KA,QM:=b51,QN:=⟨ahr,ahs,KA.kp⟩,QO:=KC,QS:=b52,QT:=⟨aht,ahu,KC.kp⟩,QU:=KG,QV:=b53,QW:=⟨ahv,ahw,KG.kp⟩,QX:=KH,QY:=b54,QZ:=⟨ahx,ahy,KH.kp⟩,Q0:=V0,Q3:=b55,Hj:=V1,Q4:=b56,Q5:=W.mg_of X G ahB,Hl:=V2,Q6:=b57,Q7:=W.mg_of X G ahC,Ho:=V3,Q8:=b58,Q9:=W.mg_of X G ahD,Hq:=V4,Q_:=b59,Ra:=W.mg_of X G ahE,Hr:=F60,Rb:=ajn,Rc:=W.mg_of X G ahF,mQ:=V5,oV:=b61,oW:=W.mg_of X G ahK,fB:=V6,fV:=b62,fW:=W.mg_of X G ahL,Hs:=V7,Rf:=b63,Rg:=W.mg_of X G ahM,Ht:=V8,Rh:=b64,Ri:=W.mg_of X G ahN,Hu:=V9,Rj:=b65,Rk:=W.mg_of X G ahO,Hv:=V_,Rm:=b66,Rn:=W.mg_of X G ahP,Hw:=Wa,Ro:=b67,Rp:=W.mg_of X G ahQ,Hx:=Wb,Rq:=b68,Rr:=W.mg_of X G ahR,Hy:=Wc,Rt:=b69,Ru:=W.mg_of X G ahS,Rv:=Wg,adL:=b70,adM:=W.mg_of X G Wd,oX:=⟨ahW,ahX,ahY,ahZ⟩,Rw:=⟨ah0,ax0,ix0,ah1⟩,Rx:=W.mg_of X G agd,uF:=uF,Hz:=Hz,HA:=HA,HB:=HB,uG:=uG,HC:=HC,HD:=HD,uH:=uH,HE:=HE,mR:=⟨ah2,ah3,ah4,ah5⟩,Ry:=⟨ah6,agB,VF,ah7⟩,Rz:=W.mg_of X G age,AN:=AN,qM:=qM,AO:=AO,qN:=⟨ah8,ah9,ah_,aia⟩,RA:=⟨aib,agC,VF,aic⟩,RB:=W.mg_of X G agf,AQ:=AQ,AR:=AR,AS:=AS,jY:=⟨aid,aie,aif,aih⟩,RC:=⟨aii,agY,agZ,aij⟩,RD:=W.mg_of X G agg,AU:=AU,AV:=AV,AW:=AW,AX:=AX,AY:=AY,AZ:=AZ,A0:=⟨aik,ail,aim,ain⟩,RE:=⟨aio,ahj,ahk,aip⟩,RG:=W.mg_of X G agh,uI:=uI,HF:=HF,A1:=A1,lK:=⟨aiq,air,ais,ait⟩,RH:=⟨aiu,ahp,ahq,aiv⟩,RI:=W.mg_of X G agi,HG:=HG,HJ:=HJ,A2:=A2,uJ:=uJ,A3:=A3,RJ:=⟨aiw,aix,aiy,aiz⟩,RK:=⟨aiA,ahz,ahA,aiB⟩,RL:=W.mg_of X G agj,HK:=HK,A4:=A4,HL:=HL,HM:=HM,HN:=HN,HP:=⟨aiC,aiD,aiE,aiF⟩,adN:=⟨aiG,aiI,aiH⟩,adO:=W.mg_of X G agk,HQ:=⟨aiJ,aiK,aiL,aiM⟩,RM:=⟨aiN,aiP,aiO⟩,RN:=W.mg_of X G agl,RO:=W.mg_of X G aiQ,RP:=W.mg_of X G aiR,RQ:=W.mg_of X G aiS,RS:=W.mg_of X G aiT,RT:=W.mg_of X G aiU,RU:=W.mg_of X G aiV,RV:=W.mg_of X G aiW,RW:=W.mg_of X G aiX,RX:=W.mg_of X G aiY,RY:=W.mg_of X G aiZ,RZ:=W.mg_of X G ai0,HR:=W.mg_of X G ai1,uK:=W.mg_none_of X G uK,A5:=W.mg_none_of X G A5,uL:=W.mg_none_of X G uL,A6:=W.mg_none_of X G A6,HS:=W.mg_none_of X G HS,mS:=W.mg_none_of X G mS,lM:=W.mg_none_of X G lM,fD:=W.mg_none_of X G fD,qO:=W.mg_none_of X G qO,A7:=W.mg_none_of X G A7,qP:=W.mg_none_of X G qP,iI:=W.mg_none_of X G iI,A8:=W.mg_none_of X G A8,A9:=W.mg_none_of X G A9,qQ:=W.mg_none_of X G qQ,R6:=W.mg_of X G af4,Ba:=Ba,R7:=eu.of Ba (by decide),R8:=W.mg_of X G af5,Bb:=Bb,adP:=eu.of Bb (by decide),R9:=W.mg_of X G af6,R_:=W.mg_of X G af7,Sa:=W.mg_of X G af8,Bc:=Bc,adQ:=eu.of Bc (by decide),Sd:=W.mg_of X G af9,HU:=W.mg_of X G af_,uM:=uM,Se:=eu.of uM (by decide),Be:=⟨ai2,ai3,ai4,We,ai5,ajf,ajg⟩,Bf:=aaH We,Br:=Br,HV:=HV,Sf:=kJ ai6,Bg:=Bg,adR:=kJ ai7,Bh:=Bh,adS:=kJ ai8,Bj:=Bj,adT:=kJ ai9,Bk:=Bk,adU:=kJ ai_,Bl:=Bl,adV:=kJ aja,Bm:=Bm,adW:=kJ ajb,Bo:=Bo,adX:=kJ ajc,Bp:=Bp,adY:=kJ ajd,Bq:=Bq,adZ:=kJ aje,Sg:=W.mg_of X G aga,Bs:=Bs,ad0:=eu.of Bs (by decide),Sh:=W.mg_of X G agb,Bu:=Bu,ad1:=eu.of Bu (by decide),Si:=W.mg_of X G agc,Bv:=Bv,ad2:=eu.of Bv (by decide),R0:=ajh,R1:=W.mg_of X G af0,R3:=⟨_,_,_,af1,rfl,rfl,(show 3<=sizeLine by decide),(.cons ⟨_,rfl⟩ (.cons ⟨_,rfl⟩ (.cons ⟨_,rfl⟩ .nil)))⟩,R4:=W.mg_of X G af2,R5:=⟨_,_,_,af3,rfl,rfl,(show 5<=sizeLine by decide),(.cons ⟨_,rfl⟩ (.cons ⟨_,rfl⟩ (.cons ⟨_,rfl⟩ (.cons ⟨_,rfl⟩ (.cons ⟨_,rfl⟩ .nil)))))⟩,A_:=W.mg_none_of X G A_ }
 have hT:W.TabsAt [(aR,aN)] h:=by
  intro q hq;simp only[List.mem_cons,List.not_mem_nil,or_false] at hq;rcases hq with rfl
  ·exact⟨W.codeHd_of_K X aji,ajj⟩
 exact⟨(W.fnOf "law" "law" (eo ju) (dg ju) (aJ ju) .none Kd Ke Kf J1 Cq Kg),[(aR,aN)],λs v=>.of_eq rfl,hT,λbase _ _ hL=>afh T (hL (aR,aN) (by simp))⟩
end _W
/-! aj4 names are taken,so aj5 no fast copy is laid of the largest tables: the compiled file stays small -/
structure PySem.W.Fast:Prop where(tw4240870675040886489 tw1771450951112700630 tw8367654953921500716 tw17406867138601525134 tw1135129624725527852 tw6704142945726330102 tw8647948371858652558 tw14726485970770456955 tw2405577843779978635 tw14117795864429699795 tw7406044096881399578 tw13095542889017276561 tw3345252195074687290 tw16980220821115048914 tw1733608011693604960 tw439716162414977337 tw13034050985427373451 tw17561523049947893644 tw11628873949410147222 tw13188958130136984600 tw11979318909329572910 tw7408151524585014718 tw9051586259463839606 tw10762698860111047032 tw5098918014992331536 tw12159348499582862359 tw17855372884373394646 tw14917010352484383234 tw17999432064405577502 tw13556897018947077739 tw4038811462067902279 tw4719936306720260149 tw12512362458089987044 tw1996766445113765317 tw3373084200812376355 tw2899448010479660388 tw2934115007402939168 tw15214209163512170599 tw5121331113897122153 tw1495799315542426038 tw5004773353304668171 tw12712222068403726923 tw970586153215485915 tw2080659932632907862 tw4542222392517757629 tw6212869199824529707 tw2898530801616268256 tw4399570623632674433 tw12297363582434967054 tw11782281104344285959 tw10741360621954794772 tw7700211601819058111 tw17833721829869204946 tw8782810205499846070 tw4015115511255206592 tw2661140844601099529 tw10901961790471155773 tw12362320638135886282 tw14885397342729797558 tw41018440685922630 tw2032633036219946018 tw4302365529459022952 tw10370566158828370385 tw5654742676105931167 tw9034562283654188176 tw13612021666488293130 tw4062964070986251863 tw6829088255191171644 tw3132234219050238604 tw16804764839313421049 tw12780176897188745824 tw16195510961038580444 tw8676377884639926507 tw6877151144103393349 tw11671697585870253269 tw7170703252143850291 tw16405266455248493483 tw10586962995687626950 tw16971163467213464561 tw8792080355777582459 tw3357353297501345012 tw14405091270219248148 tw13231068665480289643 tw1359445444270856935 tw4061433739061055053 tw7283239135537609822 tw1491397090190008673 tw13625022219716399826 tw11782896091398831385 tw6831155446604847978 tw18364843127637811615 tw11678714017245135109 tw17788240135717897786 tw8816809285164529461 tw8887900265571215102 tw17301065756502313090 tw6887601435644051531 tw5100517604992450719 tw7394207767553335658 tw6389726212145508597 tw3690123712761623265 tw15313332426138433480 tw13643518469588405668 tw7862051120302075874 tw6029783121785428889 tw8174075605055338535 tw5514550113856378421 tw11059119796199687199 tw15966807747153780935 tw12823966320193883127 tw15160295476152779671 tw3445816186165718926 tw8569005137909840756 tw6884329708991256462 tw10393959859668662363 tw9096017127324817180 tw5892159672605835705 tw5541059673066066659 tw14512564255037211486 tw2297775963894227733 tw14097364917871101001 tw6668183114132677392 tw7910908656827893930 tw775404007181319323 tw16258496771106502177 tw15925152009634079872 tw3499572199143821897 tw9765920011318938306 tw655931099599923667 tw12244223459710025458 tw3714513703186995069 tw9178165670085777407 tw18232623832690478812 tw4605594855397843492 tw13829406648053124298 tw11347117596451189185 tw5599850600912142628 tw15224753080147159351 tw17401610693125305195 tw11702294802151771124 tw6436859838880498809 tw18355423060054293240 tw16595929510180846266 tw10935189020844904370 tw11679184702845848203 tw12524664476059943672 tw6733998216207707508 tw11269671655714798039 tw4478210154447111250 tw9573026670354653483 tw6470714875105070274 tw4547126803770717633 tw793447465490919035 tw16751010114878307076 tw4262115132251758118 tw6890644912277999066 tw13935500665908405793 tw13644543659620178405 tw4067896389863013552 tw4646788430701078847 tw6748955951422535413 tw2140944875018830313 tw16755738333863496263 tw15008746092681366401 tw14178747711324277050 tw5837007386323180594 tw4169635074327272389 tw14437066726405015671 tw2792656675432097280 tw18380994757299472717 tw4592724572000395790 tw1120109245988760098 tw10676513402593995587 tw16739644957870244380 tw3504193888570385324 tw13118702305985713832 tw8734346891083774716 tw13564823468490591389 tw7679301299541577951 tw12945365379433245393 tw9028977280009799012 tw13768625691220773707 tw2677325331070041674 tw9708257572941713166 tw2527529176704398084 tw6246106786183260674 tw2425787002812981824 tw9214297776375186204 tw16500980225010736063 tw9020787207999452107 tw7306408986466392377 tw7191958436524112574 tw9056595476900692336 tw1390801000060795471 tw4739936540896843891 tw16481450087504074729 tw5407049345183415432 tw5084926584940631419 tw11152284941948207857 tw7574798969860166170 tw2270133426516704667 tw11862797091706012597 tw17607990489878654467 tw6679674435816288801 tw17868192771556896031 tw1358742209182012584 tw6450001150645240463 tw3449128457698202395 tw565958689129360162 tw8586098427622569679 tw13296277454012903529 tw11006455057009210090 tw16575559081346959747 tw8850382323301938386 tw6008676333261520530 tw11344175750258347463 tw14645754680014406798 tw2983583361220463129 tw14290840124944184333 tw10171225139640727914 tw2152340769932309810 tw15561449639757291243 tw17970076668465542578 tw15298789007870119051 tw12538499208677365986 tw3187864454758826094 tw16937570968213784495 tw8308224542460667933 tw17377140677508594478 tw6164814557753109814 tw2713391754882137122 tw6822721874302739122 tw4949971284280648311 tw8692657356733890047 tw16245744400294753234 tw4184997528088893743 tw8003579419827994285 tw11346122357072751573 tw1619221826514000234 tw126704267479833402 tw11657360629057896379 tw13467450828106383605 tw8312142713114210401 tw12960646755153738849 tw1062732437950513547 tw3450662918836979406 tw15139219548434936065 tw16498407375951677282 tw393724640557848988 tw13944234158358770752 tw13240244595377643380 tw4718295966965812557 tw14920167721685683557 tw2914743940647121736 tw13342004317007246917 tw14091757235610543187 tw5881707655903986783 tw5263766251869874483 tw5818097029231682839 tw16726599301952605426 tw6927634869768310341 tw10954464863307493173 tw8882210595039984569 tw16907536268600922077 tw8155718343930092399 tw7352599197008727106 tw4514723637719834394 tw18255144241655959748 tw14657174294356329146 tw6972037231124426401 tw16509209907629186486 tw2338812985478489581 tw10081137505689156456 tw16384508478838221094 tw7183756831229811179 tw17381937029772378820 tw14039620163660394582 tw14133666980319751017 tw15316625235878841782 tw13016824326609411955:True)
open PySem PySem.W PyProof.Rows
set_option maxHeartbeats 0 in
theorem PySem.Challenge.cw_armswing_k53_bounds_come_to_holds : PySem.Challenge.rw_armswing_k53_bounds_come_to.Holds := by
 w_on; o_law; k_head; (case hw => w_witness2)
 k_fill
 refine _L.walk_lawT (l := PySem.Challenge.rw_armswing_k53_bounds_come_to) (k := 9) (x := "_law_script") rfl rfl ⟨rfl, by decide, by decide⟩ (λw h Y => PySem.W.km_in_of Y) ?nt ?F
 case nt => intro w; first | k_is | rfl
 case F =>
  intro w mg fa h Y KX G hmg
  refine' _W.all_mk KX G hmg ?_ ?_ ?_ ?_ ?_ ?_ ?_ ?_ ?_ ?_ ?_ ?_ ?_ ?_ ?_ ?_ ?_ ?_ ?_ ?_ ?_ ?_ ?_ ?_ ?_ ?_ ?_ ?_ ?_ ?_ ?_ ?_ ?_ ?_ ?_ ?_ ?_ ?_ ?_ ?_ ?_ ?_ ?_ ?_ ?_ ?_ ?_ ?_ ?_ ?_ ?_ ?_ ?_ ?_ ?_ ?_ ?_ ?_ ?_ ?_ ?_ ?_ ?_ ?_ ?_ ?_ ?_ ?_ ?_ ?_ ?_ ?_ ?_ ?_ ?_ ?_ ?_ ?_ ?_ ?_ ?_ ?_ ?_ ?_ ?_ ?_ ?_ ?_ ?_ ?_ ?_ ?_ ?_ ?_ ?_ ?_ ?_ ?_ ?_ ?_ ?_ ?_ ?_ ?_ ?_ ?_ ?_ ?_ ?_ ?_ ?_ ?_ ?_ ?_ ?_ ?_ ?_ ?_ ?_ ?_ ?_ ?_ ?_ ?_ ?_ ?_ ?_ ?_ ?_ ?_ ?_ ?_ ?_ ?_ ?_ ?_ ?_ ?_ ?_ ?_ ?_ ?_ ?_ ?_ ?_ ?_ ?_ ?_ ?_ ?_ ?_ ?_ ?_ ?_ ?_ ?_ ?_ ?_ ?_ ?_ ?_ ?_ ?_ ?_ ?_ ?_ ?_ ?_ ?_ ?_ ?_ ?_ ?_ ?_ ?_ ?_ ?_ ?_ ?_ ?_ ?_ ?_ ?_ ?_ ?_ ?_ ?_ ?_ ?_ ?_ ?_ ?_ ?_ ?_ ?_ ?_ ?_ ?_ ?_ ?_ ?_ ?_ ?_ ?_ ?_ ?_ ?_ ?_ ?_ ?_ ?_ ?_ ?_ ?_ ?_ ?_ ?_ ?_ ?_ ?_ ?_ ?_ ?_ ?_ ?_ ?_ ?_ ?_ ?_ ?_ ?_ ?_ ?_ ?_ ?_ ?_ ?_ ?_ ?_ ?_ ?_ ?_ ?_ ?_ ?_ ?_ ?_ ?_ ?_ ?_ ?_ ?_ ?_ ?_ ?_ ?_ ?_ ?_ ?_ ?_ ?_ ?_ ?_ ?_ ?_ ?_ ?_ ?_ ?_ ?_ ?_ ?_ ?_ ?_ ?_ ?_ ?_ ?_ ?_ ?_ ?_ ?_ ?_ ?_ ?_ ?_ ?_ ?_ ?_ ?_ ?_ ?_ ?_ ?_ ?_ ?_ ?_ ?_ ?_ ?_ ?_ ?_ ?_ ?_ ?_ ?_ ?_ ?_ ?_ ?_ ?_ ?_ ?_ ?_ ?_ ?_ ?_ ?_ ?_ ?_ ?_ ?_ ?_ ?_ ?_ ?_ ?_ ?_ ?_ ?_ ?_ ?_ ?_ ?_ ?_ ?_ ?_ ?_ ?_ ?_ ?_ ?_ ?_ ?_ ?_ ?_ ?_ ?_ ?_ ?_ ?_ ?_ ?_ ?_ ?_ ?_ ?_ ?_ ?_ ?_ ?_ ?_ ?_ ?_ ?_ ?_ ?_ ?_
  all_goals (first | k_is | kit_is | k_exc | exact _L.fun_mk (by k_is) (by k_is) (by k_is) | rfl | exact PySem.W.km_tabs_of Y _ (by decide) | decide +kernel | kernel_rfl | skip)

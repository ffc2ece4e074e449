import PyProof.Rows.All
import Wide.All
import OpenK.AllK
import Wide.FinOn
import Lean
import PyProof.EqAt
import PyProof.EqKinds
import PyProof.TupleCall
import PySem.Challenge.RW_armswing_k93_whole_waiting_settled
set_option compiler.extract_closed false
set_option Elab.async false
set_option linter.all false
set_option maxRecDepth 100000
namespace _L
open PySem PySem.Spec PyProof.Rows
noncomputable abbrev Key:=Sum Int Str
noncomputable def sD:Key->Value->Bool
 | .inl k,v=>Value.isInt k v
 | .inr x,v=>Value.isStrOf x v
noncomputable def aaA(w:World):Key->Int
 | .inl k=>hashInt k
 | .inr x=>hashStr w x
theorem nI:∀ {k:Key} {v:Value},sD k v=true->(∃i t,k=Sum.inl i/\v=Value.int i t)\/(∃x t,k=Sum.inr x/\v=Value.str x t)
 | .inl i,v,h=>by
  obtain⟨t,e⟩:=Value.isInt_shape (k:=i) (v:=v) h;exact .inl ⟨i,t,rfl,e⟩
 | .inr x,v,h=>by
  obtain⟨t,e⟩:=Value.isStrOf_shape (x:=x) (v:=v) h;exact .inr ⟨x,t,rfl,e⟩
theorem aaB(i:Int)(t:Tok):sD (.inl i) (.int i t)=true:=by simp[sD,Value.isInt]
theorem aaC(x:Str)(t:Tok):sD (.inr x) (.str x t)=true:=by simp[sD,Value.isStrOf]
theorem aaD(a b:Int):decide ((Sum.inl a:Key)=Sum.inl b)=(a == b):=by
 by_cases e:a=b
 ·subst e;simp
 ·have h:¬ (Sum.inl a:Key)=Sum.inl b:=λq=>e (Sum.inl.inj q);rw[decide_eq_false h];exact(beq_eq_false_iff_ne.mpr e).symm
theorem aaE(a b:Str):decide ((Sum.inr a:Key)=Sum.inr b)=decide (a=b):=by
 by_cases e:a=b
 ·subst e;simp
 ·have h:¬ (Sum.inr a:Key)=Sum.inr b:=λq=>e (Sum.inr.inj q);rw[decide_eq_false h,decide_eq_false e]
theorem aaF(a:Int)(b:Str):decide ((Sum.inl a:Key)=Sum.inr b)=false:=decide_eq_false (λq=>nomatch q)
theorem aaG(a:Str)(b:Int):decide ((Sum.inr a:Key)=Sum.inl b)=false:=decide_eq_false (λq=>nomatch q)
noncomputable def f_(prog:Program)(w:World):PySem.KeyKind prog w Key where
 is:=sD
 hash:=aaA w
 inj:=λv a b ha hb=>by
  rcases nI ha with⟨i,t,rfl,rfl⟩ | ⟨x,t,rfl,rfl⟩
  ·rcases nI hb with⟨j,u,rfl,e⟩ | ⟨y,u,rfl,e⟩
   ·injection e with e1 _;rw[e1]
   ·exact nomatch e
  ·rcases nI hb with⟨j,u,rfl,e⟩ | ⟨y,u,rfl,e⟩
   ·exact nomatch e
   ·injection e with e1 _;rw[e1]
 byValue:=λk v h=>by
  rcases nI h with⟨i,t,rfl,rfl⟩ | ⟨x,t,rfl,rfl⟩ <;> rfl
 pyHash:=λhv h=>by
  rcases nI hv with⟨i,t,rfl,rfl⟩ | ⟨x,t,rfl,rfl⟩
  ·exact wpAny_pyHash_int h
  ·exact wpAny_pyHash_str h
 eqBool:=λhu hv h=>by
  rcases nI hu with⟨i,t,rfl,rfl⟩ | ⟨x,t,rfl,rfl⟩
  ·rcases nI hv with⟨j,u,rfl,rfl⟩ | ⟨y,u,rfl,rfl⟩
   ·rw[aaD] at h;exact wpAny_eqBool_int h
   ·rw[aaF] at h;exact SeqAt.EqAt.int_str i t y u _ _ _ _ h
  ·rcases nI hv with⟨j,u,rfl,rfl⟩ | ⟨y,u,rfl,rfl⟩
   ·rw[aaG] at h;exact SeqAt.EqAt.str_int x t j u _ _ _ _ h
   ·rw[aaE] at h;exact wpAny_eqBool_str h
 «strs» := λk x t v h=>by
  rcases nI h with⟨i,u,rfl,e⟩ | ⟨y,u,rfl,e⟩
  ·exact nomatch e
  ·injection e with e1 _;subst e1;cases v <;> rfl
theorem aaH(prog:Program)(w:World)(i:Int)(t:Tok):(f_ prog w).is (.inl i) (.int i t)=true:=aaB i t
theorem aaI(prog:Program)(w:World)(x:Str)(t:Tok):(f_ prog w).is (.inr x) (.str x t)=true:=aaC x t
inductive V where
 | aV | bl (b:Bool) | int (i:Int) | str (x:Str) | jy (b:Array UInt8) | qx (b:UInt64) | ref (a:Addr) | ty (n:String)
 deriving DecidableEq
noncomputable def RelV:V->Value->Prop
 | .aV,u=>u=Value.none
 | .bl b,u=>u=Value.bool b
 | .int i,u=>∃t,u=Value.int i t
 | .str x,u=>∃t,u=Value.str x t
 | .jy b,u=>∃t,u=Value.bytes b t
 | .qx b,u=>∃t,u=Value.float b t
 | .ref a,u=>u=Value.ref a
 | .ty n,u=>u=Value.type n
noncomputable abbrev Vals:List V->List Value->Prop:=Paired RelV
theorem Vals.length{xs:List V}{us:List Value}(r:Vals xs us):xs.length=us.length:=Paired.length r
theorem Vals.get:∀ {xs:List V} {us:List Value} {i:Nat} {x:V},Vals xs us->xs[i]? = some x->∃u,us[i]? = some u/\RelV x u
 | _,_,_,_,.nil,e=>by simp at e
 | _,_,0,_,.cons r _,e=>by simp at e;subst e;exact⟨_,rfl,r⟩
 | _,_,i+1,x,.cons _ t,e=>by
  obtain⟨u,h1,h2⟩:=Vals.get (i:=i) (x:=x) t (by simpa using e)
  exact⟨u,by simpa using h1,h2⟩
theorem Vals.set{x:V}{u:Value}(r:RelV x u):∀ {xs:List V} {us:List Value} (i:Nat),Vals xs us->Vals (xs.set i x) (us.set i u)
 | _,_,_,.nil=>.nil
 | _,_,0,.cons _ t=>.cons r t
 | _,_,i+1,.cons q t=>.cons q (Vals.set r i t)
theorem Vals.append:∀ {xs ys:List V} {us ws:List Value},Vals xs us->Vals ys ws->Vals (xs++ys) (us++ws)
 | _,_,_,_,.nil,s=>s
 | _,_,_,_,.cons r t,s=>.cons r (Vals.append t s)
theorem Vals.take:∀ {xs:List V} {us:List Value} (n:Nat),Vals xs us->Vals (xs.take n) (us.take n)
 | _,_,0,_=>.nil
 | _,_,_+1,.nil=>.nil
 | _,_,n+1,.cons r t=>.cons r (Vals.take n t)
theorem Vals.drop:∀ {xs:List V} {us:List Value} (n:Nat),Vals xs us->Vals (xs.drop n) (us.drop n)
 | _,_,0,r=>r
 | _,_,_+1,.nil=>.nil
 | _,_,n+1,.cons _ t=>Vals.drop n t
noncomputable def gQ:Option V->Option Value->Prop
 | some v,some u=>RelV v u
 | none,none=>True
 | _,_=>False
noncomputable def KV{κ:Type}:List (κ×V)->List (κ×Value)->Prop:=Paired λ(p:κ×V) (q:κ×Value)=>p.1=q.1/\RelV p.2 q.2
noncomputable def kV:Key->V
 | .inl i=>.int i
 | .inr x=>.str x
inductive HO where
 /-- a list -/
 | lst (xs:List V)
 /-- a tuple (never changes) -/
 | tup (xs:List V)
 /-- a dict whose keys are ints and texts;one whose keys are tuples of ints and texts (the empty one is both) -/
 | dK (kvs:List (Key×V)) | dT (kvs:List (List Key×V))
 /-- a set of ints: its members,its size -/
 | set (S:Int->Bool) (n:Nat)
 /-- an instance of the class at C,its dict at dx,its attributes -/
 | ins (C dx:Addr) (fs:List (Str×V))
 /-- the dict of the instance at x -/
 | own (x:Addr)
 /-- the dict of an exception -/
 | xd (fs:List (Str×V))
 /-- a bound method,f of x -/
 | met (f x:Addr)
 /-- a range object lo,lo+1,.. below hi -/
 | FH (lo hi:Int)
 /-- a thing that is known to the object (the script;a dict while a loop walks it): read,never written while it is so -/
 | cS (o:Obj) (u:HO)
 /-- a code object's table -/
 | gb (ps:Array Value)
 /-- any other thing,by what is true of its one object (a def of one's own: SetO a S n:=HO.ext λh=>..) -/
 | ext (φ:Heap->Prop)
noncomputable abbrev Hp:=Addr->Option HO
noncomputable def upd(H:Hp)(a:Addr)(o:HO):Hp:=λb=>if b=a then some o else H b
theorem aH{H:Hp}{a:Addr}{o:HO}:upd H a o a=some o:=by unfold upd;rw[if_pos rfl]
theorem aI{H:Hp}{a b:Addr}{o:HO}(h:b≠a):upd H a o b=H b:=by unfold upd;rw[if_neg h]
theorem aaJ{H:Hp}{a:Addr}{o u:HO}:upd (upd H a o) a u=upd H a u:=by
 funext b;unfold upd;split <;> rfl
theorem sE{H:Hp}{a b:Addr}{o u:HO}(h:H a=some o)(h':H b=some u)(d:o≠u):a≠b:=by
 intro e;subst e;rw[h] at h';exact d (Option.some.inj h')
theorem cO{H:Hp}{a b:Addr}{o:HO}(h:H a=some o)(h':H b=none):a≠b:=by
 intro e;subst e;rw[h] at h';cases h'
section
variable(P:Program)(w:World)
noncomputable def dQ(H:Hp)(h:Heap)(a:Addr):HO->Prop
 | .lst xs=>xs.length<=sizeLine/\∃(aG:List Value) (n:Nat),Vals xs aG/\h.get? a=some { cls:=.type "list",data:=.seq aG.toArray n }
 | .tup xs=>xs.length<=sizeLine/\∃aG:List Value,Vals xs aG/\IsTup h a aG.toArray
 | .dK kvs=>kvs.length<=sizeLine/\(a == sysModules)=false/\∃vs,KV kvs vs/\h.DictOf (f_ P w) a vs
 | .dT kvs=>kvs.length<=sizeLine/\(a == sysModules)=false/\∃xs:List (List Key×Addr×Value),
   Paired (λ(p:List Key×V) (q:List Key×Addr×Value)=>p.1=q.1/\H q.2.1=some (.tup (p.1.map kV))/\RelV p.2 q.2.2) kvs xs/\
   ∃o es ep,h.get? a=some o/\o.ExactDict/\o.data = .dict es ep/\es.toList=xs.map (entryOfKey (tupleKind (f_ P w)))/\(xs.map (·.1)).Nodup
 | .set S n=>h.SetOf (intKind P w) a S n
 | .ins C dx fs=>H dx=some (.own a)/\fs.length<=1000/\dx≠a/\h.get? a=some (PySem.W.instObj C dx)/\
   ∃mA,h.Ns1 dx mA/\(∀f,gQ (fs.lookup f) (mA f))/\PySem.Within mA (fs.map (·.1))
 | .own _=>∃o,h.get? a=some o
 | .xd fs=>∃mA,h.Ns1 a mA/\∀f,gQ (fs.lookup f) (mA f)
 | .FH lo hi=>∃t u v,h.get? a=some { cls:=.type "range",data:=.fields #[.int lo t,.int hi u,.int 1 v] }
 | .cS o u=>h.get? a=some o/\dQ H h a u
 | .gb ps=>h.get? a=some { cls:=.none,data:=.fields ps }
 | .met f x=>h.get? a=some (PySem.W.methodObj (.ref f) (.ref x))
 | .ext φ=>φ h/\(∃o,h.get? a=some o)/\∀h1 h2:Heap,φ h1->(∀o,h1.get? a=some o->h2.get? a=some o)->φ h2
noncomputable def c_(H:Hp)(h:Heap):Prop:=∀a o,H a=some o->dQ P w H h a o
end
section
variable{P:Program}{w:World}{H H':Hp}{h h':Heap}{a:Addr}{o:HO}
theorem dQ.lt(x:dQ P w H h a o):a<h.objs.size:=by
 cases o with
 | lst xs=>obtain⟨_,_,_,_,e⟩:=x;exact Heap.lt_size e
 | tup xs=>obtain⟨_,_,_,p⟩:=x;exact p.lt
 | dK kvs=>obtain⟨_,_,_,_,o,_,_,e,_⟩:=x;exact Heap.lt_size e
 | dT kvs=>obtain⟨_,_,_,_,o,_,_,e,_⟩:=x;exact Heap.lt_size e
 | set S n=>obtain⟨o,_,_,_,e,_⟩:=x;exact Heap.lt_size e
 | ins C dx fs=>obtain⟨_,_,_,e,_⟩:=x;exact Heap.lt_size e
 | own y=>obtain⟨_,e⟩:=x;exact Heap.lt_size e
 | xd fs=>obtain⟨_,⟨_,_,_,e,_⟩,_⟩:=x;exact Heap.lt_size e
 | FH lo hi=>obtain⟨_,_,_,e⟩:=x;exact Heap.lt_size e
 | cS ob u=>obtain⟨e,_⟩:=x;exact Heap.lt_size e
 | gb ps=>exact Heap.lt_size (show h.get? a=some _ from x)
 | met f y=>exact Heap.lt_size (show h.get? a=some _ from x)
 | ext φ=>obtain⟨_,⟨_,e⟩,_⟩:=x;exact Heap.lt_size e
theorem Paired.FI{α β:Type}{F G:α->β->Prop}:∀ {OS:List α} {OT:List β},Paired F OS OT->(∀a b,F a b->G a b)->Paired G OS OT
 | _,_,.nil,_=>.nil
 | _,_,.cons r t,f=>.cons (f _ _ r) (Paired.FI t f)
theorem dQ.jz(x:dQ P w H h a o)(k:∀b u,(b=a\/H b=some (.own a))->h.get? b=some u->h'.get? b=some u)
  (ho:∀b,H b=some (.own a)->H' b=some (.own a)) (ht:∀b xs,H b=some (.tup xs)->H' b=some (.tup xs)):dQ P w H' h' a o:=by
 induction o with
 | lst xs=>obtain⟨z,aG,n,r,e⟩:=x;exact⟨z,aG,n,r,k _ _ (.inl rfl) e⟩
 | tup xs=>obtain⟨z,aG,r,ob,e,c⟩:=x;exact⟨z,aG,r,ob,k _ _ (.inl rfl) e,c⟩
 | dK kvs=>obtain⟨z,y,vs,r,ob,es,ep,e,c⟩:=x;exact⟨z,y,vs,r,ob,es,ep,k _ _ (.inl rfl) e,c⟩
 | dT kvs =>
  obtain⟨z,y,xs,r,ob,es,ep,e,c⟩:=x;exact⟨z,y,xs,Paired.FI r λp q z=>⟨z.1,ht _ _ z.2.1,z.2.2⟩,ob,es,ep,k _ _ (.inl rfl) e,c⟩
 | set S n=>obtain⟨ob,es,ep,t,e,c⟩:=x;exact⟨ob,es,ep,t,k _ _ (.inl rfl) e,c⟩
 | ins C dx fs =>
  obtain⟨d,z,ne,e,mA,⟨od,es,ep,e2,c⟩,r⟩:=x;exact⟨ho _ d,z,ne,k _ _ (.inl rfl) e,mA,⟨od,es,ep,k _ _ (.inr d) e2,c⟩,r⟩
 | own y=>obtain⟨ob,e⟩:=x;exact⟨ob,k _ _ (.inl rfl) e⟩
 | xd fs=>obtain⟨mA,⟨od,es,ep,e,c⟩,r⟩:=x;exact⟨mA,⟨od,es,ep,k _ _ (.inl rfl) e,c⟩,r⟩
 | FH lo hi=>obtain⟨t,u,v,e⟩:=x;exact⟨t,u,v,k _ _ (.inl rfl) e⟩
 | cS ob u ih=>obtain⟨e,q⟩:=x;exact⟨k _ _ (.inl rfl) e,ih q⟩
 | gb ps =>
  have e:h.get? a=some { cls:=.none,data:=.fields ps }:=x
  show h'.get? a=some { cls:=.none,data:=.fields ps };exact k a _ (.inl rfl) e
 | met f y =>
  have e:h.get? a=some (PySem.W.methodObj (.ref f) (.ref y)):=x
  show h'.get? a=some (PySem.W.methodObj (.ref f) (.ref y));exact k a _ (.inl rfl) e
 | ext φ=>obtain⟨p,⟨o,e⟩,st⟩:=x;exact⟨st _ _ p λo q=>k _ _ (.inl rfl) q,⟨o,k _ _ (.inl rfl) e⟩,st⟩
theorem c_.lt(x:c_ P w H h)(e:H a=some o):a<h.objs.size:=(x a o e).lt
theorem c_.fresh(x:c_ P w H h)(e:h.objs.size<=a):H a=none:=by
 cases q:H a with
 | none=>rfl
 | some u=>exact absurd (Nat.lt_of_lt_of_le (x.lt q) e) (Nat.lt_irrefl _)
theorem c_.kept(x:c_ P w H h)(k:∀b u,h.get? b=some u->h'.get? b=some u):c_ P w H h':=λa o e =>
 (x a o e).jz (λb u _ q=>k b u q) (λ_ q=>q) λ_ _ q=>q
theorem c_.laid(x:c_ P w H h)(k:∀b u,h.get? b=some u->h'.get? b=some u)(hp:h.objs.size<=a)(new:dQ P w (upd H a o) h' a o):c_ P w (upd H a o) h':=λb u e=>by
 have hn:=x.fresh hp;by_cases hb:b=a
 ·subst hb;rw[aH] at e;cases e;exact new
 ·rw[aI hb] at e;exact(x b u e).jz (λc v _ q=>k c v q) (λc q=>by rw[aI (cO q hn)];exact q) λc xs q=>by rw[aI (cO q hn)];exact q
end
noncomputable def Rd(H:Hp)(a:Addr)(u:HO):Prop:=H a=some u\/∃o,H a=some (.cS o u)
theorem Rd.ok{P:Program}{w:World}{H:Hp}{h:Heap}{a:Addr}{u:HO}(r:Rd H a u)(x:c_ P w H h):dQ P w H h a u:=by
 rcases r with r | ⟨o,r⟩
 ·exact x a u r
 ·obtain⟨_,q⟩:=x a _ r;exact q
noncomputable def vh:Option HO->Prop
 | some (.lst _)=>True
 | some (.dK _)=>True
 | some (.dT _)=>True
 | some (.set _ _)=>True
 | some (.ins _ _ _)=>True
 | some (.ext _)=>True
 | _=>False
section
variable{P:Program}{w:World}{H:Hp}{h h':Heap}{x e:Addr}{o':HO}
theorem c_.write(ok:c_ P w H h)(mu:vh (H x))(he:e=x\/H e=some (.own x))(k:∀b u,b≠e->h.get? b=some u->h'.get? b=some u)(sG:∃u,h'.get? e=some u)
  (new:dQ P w (upd H x o') h' x o'):c_ P w (upd H x o') h':=λb u q=>by
 have OU:∀c y,H c=some (.own y)->c≠x:=λc y r z=>by subst z;rw[r] at mu;exact mu
 have aaK:∀c xs,H c=some (.tup xs)->c≠x:=λc xs r z=>by subst z;rw[r] at mu;exact mu
 by_cases hb:b=x
 ·subst hb;rw[aH] at q;cases q;exact new
 ·rw[aI hb] at q;by_cases qy:b=e
  ·have q':H b=some (.own x):=by
    rcases he with z | z
    ·exact absurd (qy.trans z) hb
    ·rw[qy];exact z
   rw[q] at q';cases q';obtain⟨v,hv⟩:=sG;exact⟨v,by rw[qy];exact hv⟩
  ·refine(ok b u q).jz (λc v hc r=>k c v ?_ r) (λc r=>by rw[aI (OU c b r)];exact r) λc xs r=>by rw[aI (aaK c xs r)];exact r
   rcases hc with rfl | hc
   ·exact qy
   ·rintro rfl;rcases he with z | z
    ·exact OU c b hc z
    ·rw[hc] at z;cases z;exact hb rfl
end
structure Un(fs ex:List Addr)(H H':Hp)(h h':Heap):Prop where
 keep:∀b o,h.get? b=some o->H b=none->b∉fs->b∉ex->h'.get? b=some o
 slot:∀b o,h.get? b=some o->H b=none->b∈fs->b∉ex->∃sl,h'.get? b=some { o with slots:=sl }
 free:∀b o,h.get? b=some o->H b=none->b∉ex->H' b=none
 there:∀b o,h.get? b=some o->b∉ex->∃o',h'.get? b=some o'
 mq:∀b xs,H b=some (.tup xs)->H' b=some (.tup xs)
 kW:∀b o u,H b=some (.cS o u)->H' b=some (.cS o u)
 mz:∀b ps,H b=some (.gb ps)->∃more,H' b=some (.gb (ps++more))
section
variable{fs fs' ex FJ:List Addr}{H H1 H2:Hp}{h h1 h2 h':Heap}{a x e:Addr}{o:HO}
theorem Un.any(u:Un fs ex H H1 h h1){b:Addr}{ob:Obj}(q:h.get? b=some ob)(n:H b=none)(hx:b∉ex):∃sl,h1.get? b=some { ob with slots:=sl }:=by
 by_cases hb:b∈fs
 ·exact u.slot b ob q n hb hx
 ·exact⟨ob.slots,u.keep b ob q n hb hx⟩
theorem Un.kept(k:∀b u,h.get? b=some u->h'.get? b=some u):Un fs ex H H h h' :=
 ⟨λb ob q _ _ _=>k b ob q,λb ob q _ _ _=>⟨ob.slots,k b ob q⟩,λ_ _ _ n _=>n,λb ob q _=>⟨ob,k b ob q⟩,λ_ _ q=>q,λ_ _ _ q=>q,λ_ ps q=>⟨#[],by rw[q];simp⟩⟩
theorem Un.refl:Un fs ex H H h h:=Un.kept λ_ _ q=>q
theorem Un.laid(k:∀b u,h.get? b=some u->h'.get? b=some u)(hp:h.objs.size<=a)(hn:H a=none):Un fs ex H (upd H a o) h h' where
 keep:=λb u q _ _ _=>k b u q
 slot:=λb u q _ _ _=>⟨u.slots,k b u q⟩
 free:=λb u q n _=>by rw[aI (Nat.ne_of_lt (Nat.lt_of_lt_of_le (Heap.lt_size q) hp))];exact n
 there:=λb u q _=>⟨u,k b u q⟩
 mq:=λb xs q=>by rw[aI (cO q hn)];exact q
 kW:=λb u xs q=>by rw[aI (cO q hn)];exact q
 mz:=λb ps q=>⟨#[],by rw[aI (cO q hn),q];simp⟩
theorem Un.write(mu:vh (H x))(he:e=x\/H e=some (.own x))(k:∀b u,b≠e->h.get? b=some u->h'.get? b=some u)(sG:∃u,h'.get? e=some u):Un fs ex H (upd H x o) h h':=by
 have hx:∀b,H b=none->b≠x:=λb n z=>by subst z;rw[n] at mu;exact mu
 have hb:∀b,H b=none->b≠e:=λb n z=>by
  subst z;rcases he with r | r
  ·exact hx b n r
  ·rw[n] at r;cases r
 have hm:∀b u,H b=some u->¬ vh (some u)->b≠x:=λb u q nm z=>by subst z;rw[q] at mu;exact nm mu
 refine⟨λb u q n _ _=>k b u (hb b n) q,λb u q n _ _=>⟨u.slots,k b u (hb b n) q⟩,λb u q n _=>by rw[aI (hx b n)];exact n,λb u q _=>?_,
  λb xs q=>by rw[aI (hm b _ q λz=>z)];exact q,λb u xs q=>by rw[aI (hm b _ q λz=>z)];exact q,λb ps q=>⟨#[],by rw[aI (hm b _ q λz=>z),q];simp⟩⟩
 by_cases qy:b=e
 ·subst qy;exact sG
 ·exact⟨u,k b u qy q⟩
end
noncomputable def zq(h:Heap)(H:Hp):List Addr:=(List.range h.objs.size).filter λa=>(H a).isSome
noncomputable def i7(h:Heap)(H:Hp):Heap:=PySem.W.hideAll h (zq h H)
theorem OV(h:Heap)(H:Hp):(i7 h H).objs.size=h.objs.size:=PySem.W.hideAll_size _ _
theorem OW{h:Heap}{H:Hp}{b:Addr}{o:Obj}(e:h.get? b=some o)(n:H b=none):(i7 h H).get? b=some o :=
 PySem.W.hideAll_get _ e λhm=>by
  have q:(H b).isSome=true:=(List.mem_filter.mp hm).2;rw[n] at q;simp at q
theorem OX{h:Heap}{H:Hp}{b:Addr}{o:Obj}(e:(i7 h H).get? b=some o):h.get? b=some o/\H b=none:=by
 have e':h.get? b=some o:=PySem.W.of_hideAll (zq h H) e;refine⟨e',?_⟩;cases q:H b with
 | none=>rfl
 | some x =>
  have hm:b∈zq h H:=List.mem_filter.mpr ⟨List.mem_range.mpr (Heap.lt_size e'),by simp[q]⟩
  have z:(i7 h H).get? b=none:=PySem.W.hideAll_none (zq h H) hm;rw[z] at e;cases e
noncomputable def zu(g h:Heap)(L:Addr):List (Addr×Obj):=(List.range h.objs.size).filterMap λa=>if a=L\/(g.get? a).isSome=true then none else(h.get? a).map λo=>(a,o)
theorem aaL{g h:Heap}{L a:Addr}{o:Obj}(h1:a≠L)(h2:g.get? a=none)(h3:h.get? a=some o):(a,o)∈zu g h L :=
 List.mem_filterMap.mpr ⟨a,List.mem_range.mpr (Heap.lt_size h3),by simp[h1,h2,h3]⟩
theorem aaM{g h:Heap}{L:Addr}{p:Addr×Obj}(hp:p∈zu g h L):p.1≠L/\g.get? p.1=none/\h.get? p.1=some p.2:=by
 obtain⟨b,_,e⟩:=List.mem_filterMap.mp hp;split at e
 ·cases e
 ·rename_i hn;cases q:h.get? b with
  | none=>rw[q] at e;simp at e
  | some u =>
   rw[q] at e;simp only[Option.map_some,Option.some.injEq] at e;subst e;refine⟨λz=>hn (.inl z),?_,q⟩
   show g.get? b=none;cases r:g.get? b with
   | none=>rfl
   | some v=>exact(hn (.inr (by simp[r]))).elim
noncomputable def rest(g h:Heap)(L d:Addr):List (Addr×Obj):=(zu g h L).filter λp=>decide (p.1≠d)
theorem aaN{g h:Heap}{L:Addr}:News g L h (zu g h L):=λp hp=>let ⟨a,b,c⟩:=aaM hp;⟨c,a,b⟩
structure Mod(K:PySem.W.Frag)(mg:Str->Option Value)(base:Heap):Prop where
 mC:K.In base
 glob:base.Ns mainGlobals mg
 blt:∃mb,base.Ns builtinsNs mb/\∀x:Str,x≠"__name__"->mb x=bootBuiltins x
 nolimit:base.NoLimit
structure Cx where
 prog:Program
 w:World
 K:PySem.W.Frag
 mg:Str->Option Value
 base:Heap
 A:Around
 N:List Str
 dG:Shared
 gR:Hp
 env:Env
 outer:List Env
 stack:List Env
 ex:List Addr
 fn:Str->Bool
 calm:Bool
 pn:List (Addr×Obj)
 xe:Value->Shared->Prop
noncomputable def iI(l:List Env):List Addr:=l.filterMap (·.frame)
noncomputable abbrev Cx.fs(X:Cx):List Addr:=iI X.outer
noncomputable def zw(sc:Scope)(x:Str):Prop:=sc.names.lookup x=some .local\/sc.names.lookup x=some .cell\/sc.names.lookup x=some .free
noncomputable def Loc(sc:Scope)(x:Str):Prop:=sc.names.lookup x=some .local\/sc.names.lookup x=some .cell
noncomputable def Look(env:Env)(h:Heap)(m:Str->Option Value)(x:Str)(u:Value):Prop :=
 (env.kindOf x=some .local/\m x=some u)\/((env.kindOf x=some .cell\/env.kindOf x=some .free)/\∃c,env.cells.lookup x=some c/\h.IsCell c (some u))
structure Cx.Ok(X:Cx):Prop where
 mod:Mod X.K X.mg X.base
 kind:X.env.scope.kind = .function
 glob:X.env.globals=mainGlobals
 blt:X.env.builtins=builtinsNs
 above:X.dG.heap.objs.size<=X.env.locals
 inj:∀x y c,X.env.cells.lookup x=some c->X.env.cells.lookup y=some c->x=y
 has:∀x,(X.env.kindOf x=some .cell\/X.env.kindOf x=some .free)->∃c,X.env.cells.lookup x=some c
 sH:∀x c,X.fn x=true->X.env.cells.lookup x=some c->X.dG.heap.objs.size<=c
 hd:X.calm=true->X.A.handled=none
 frames:X.A.frames=some X.stack
 vj:X.stack=X.outer\/(X.stack=X.env::X.outer/\X.env.frame=some X.env.locals)
 vm:∀b∈X.ex,b≠X.env.locals/\∀x c,X.env.cells.lookup x=some c->c≠b
 bs:∀b o,X.base.get? b=some o->X.dG.heap.get? b=some o/\X.gR b=none
 kg:X.base.objs.size<=X.dG.heap.objs.size
 sI:∀b o,X.base.get? b=some o->b∉X.ex
 sJ:∀b∈X.ex,b∉X.fs
 jQ:X.dG.heap.FunFrames X.base X.outer
 o_:∀b∈X.fs,X.gR b=none
structure Inv(X:Cx)(pins:List (Addr×Obj))(σ:List (Option V))(H:Hp)(s:Shared):Prop where
 ok:X.Ok
 os:s.os=X.dG.os
 bare:AllBare s.gens
 base:Un X.fs X.ex X.gR H X.dG.heap s.heap
 loc:∃m,s.heap.Ns X.env.locals m/\∀(i:Nat) (x:Str) (v:V),X.N[i]? = some x->σ[i]? = some (some v)->zw X.env.scope x->∃u,RelV v u/\Look X.env s.heap m x u
 cell:∀x c,X.env.cells.lookup x=some c->∃v,s.heap.IsCell c v
 free:H X.env.locals=none
 kh:∀x c,X.env.cells.lookup x=some c->H c=none
 pin:∀p∈X.pn++pins,s.heap.get? p.1=some p.2/\H p.1=none/\p.1≠X.env.locals/\p.1∉X.fs/\∀v,p.2.data≠.cell v
 aO:c_ X.prog X.w H s.heap
 len:σ.length=X.N.length
section
variable{X:Cx}{pins:List (Addr×Obj)}{σ:List (Option V)}{H H':Hp}{s:Shared}{h':Heap}
theorem Cx.Ok.aaO(ok:X.Ok){b:Addr}{o:Obj}(e:X.base.get? b=some o):b∉X.fs:=λhb=>by
 have:=(ok.jQ.mem hb).1;rw[e] at this;cases this
theorem Inv.bs(I:Inv X pins σ H s):∀b o,X.base.get? b=some o->s.heap.get? b=some o/\H b=none:=λb o e =>
 ⟨I.base.keep b o (I.ok.bs b o e).1 (I.ok.bs b o e).2 (I.ok.aaO e) (I.ok.sI b o e),I.base.free b o (I.ok.bs b o e).1 (I.ok.bs b o e).2 (I.ok.sI b o e)⟩
theorem Inv.bk(I:Inv X pins σ H s):∀b o,X.base.get? b=some o->s.heap.get? b=some o:=λb o e=>(I.bs b o e).1
theorem Inv.mod(I:Inv X pins σ H s):Mod X.K X.mg X.base:=I.ok.mod
theorem Inv.cY(I:Inv X pins σ H s):X.K.In s.heap:=I.ok.mod.mC.keeps I.bk
theorem Inv.nolimit(I:Inv X pins σ H s):s.heap.NoLimit:=I.ok.mod.nolimit.keeps I.bk
theorem Inv.fr(I:Inv X pins σ H s):∃m,Fr X.base X.env.locals s.heap m :=
 let ⟨m,hn,_⟩:=I.loc
 ⟨m,hn,I.bk,Nat.le_trans I.ok.kg I.ok.above⟩
theorem Inv.lt(I:Inv X pins σ H s):X.env.locals<s.heap.objs.size:=let ⟨_,hn,_⟩:=I.loc;hn.lt
theorem Inv.sz(I:Inv X pins σ H s):X.dG.heap.objs.size<=s.heap.objs.size:=Nat.le_trans I.ok.above (Nat.le_of_lt I.lt)
theorem Inv.vn(I:Inv X pins σ H s){a:Addr}(h:s.heap.objs.size<=a):a∉X.fs:=λhb=>by
 obtain⟨_,o,ho,_⟩:=I.ok.jQ.mem hb;exact absurd (Nat.lt_of_lt_of_le (Heap.lt_size ho) (Nat.le_trans I.sz h)) (Nat.lt_irrefl _)
theorem Inv.qA(I:Inv X pins σ H s):∀x c,X.env.cells.lookup x=some c->c≠X.env.locals:=λx c e z=>by
 obtain⟨v,o,ho,hd⟩:=I.cell x c e;obtain⟨m,⟨o',es,ep,nJ,qB,_⟩,_⟩:=I.loc;rw[z,nJ] at ho;cases ho;rw[qB] at hd;cases hd
theorem Inv.jQ(I:Inv X pins σ H s):s.heap.FunFrames X.base X.outer:=by
 have all:∀(l:List Env),(∀b∈iI l,b∈X.fs)->X.dG.heap.FunFrames X.base l->s.heap.FunFrames X.base l:=by
  intro l
  induction l with
  | nil=>intro _ _;trivial
  | cons env r ih =>
   intro hs hl;obtain⟨hk,⟨L,o,hf,hn,ho,hd⟩,hr⟩:=hl;have hL:L∈X.fs:=hs L (by unfold iI;rw[List.filterMap_cons,hf];exact List.mem_cons_self)
   obtain⟨sl,e⟩:=I.base.slot L o ho (I.ok.o_ L hL) hL λz=>I.ok.sJ L z hL;exact⟨hk,⟨L,_,hf,hn,e,hd⟩,ih (λb hb=>hs b (by unfold iI;rw[List.filterMap_cons,hf];exact List.mem_cons_of_mem _ hb)) hr⟩
 exact all X.outer (λ_ hb=>hb) I.ok.jQ
theorem Inv.stack(I:Inv X pins σ H s):s.heap.FunFrames X.base X.stack:=by
 rcases I.ok.vj with e | ⟨e,hf⟩
 ·rw[e];exact I.jQ
 ·rw[e];obtain⟨m,hn,_⟩:=I.loc;refine .cons (by rw[I.ok.kind];decide) hf hn ?_ I.jQ
  exact Heap.get?_none_of_le (Nat.le_trans I.ok.kg I.ok.above)
theorem Inv.FL(I:Inv X pins σ H s):∀b∈iI X.stack,b∈X.env.locals::X.fs:=λb hb=>by
 rcases I.ok.vj with e | ⟨e,hf⟩
 ·rw[e] at hb;exact List.mem_cons_of_mem _ hb
 ·rw[e] at hb;unfold iI at hb;rw[List.filterMap_cons,hf] at hb;exact hb
theorem Inv.FN(I:Inv X pins σ H s):∀b∈iI X.stack,H b=none:=λb hb=>by
 rcases List.mem_cons.mp (I.FL b hb) with e | hb
 ·rw[e];exact I.free
 ·obtain⟨_,o,ho,_⟩:=I.ok.jQ.mem hb;exact I.base.free b o ho (I.ok.o_ b hb) λz=>I.ok.sJ b z hb
theorem Inv.step{g':Array GenState}{t':Nat}{d':Drawn}{ch:List Addr}(I:Inv X pins σ H s)
  (mD:∀b∈ch,(b∈X.ex\/X.dG.heap.objs.size<=b)/\b≠X.env.locals/\(∀x c,X.env.cells.lookup x=some c->c≠b)/\∀p∈X.pn++pins,p.1≠b)
  (keep:∀b o,b≠X.env.locals->b∉X.fs->b∉ch->s.heap.get? b=some o->H b=none->h'.get? b=some o)
  (slot:∀b o,b≠X.env.locals->b∈X.fs->b∉ch->s.heap.get? b=some o->H b=none->∃sl,h'.get? b=some { o with slots:=sl }) (free:∀b o,b∉ch->s.heap.get? b=some o->H b=none->H' b=none)
  (there:∀b o,b∉ch->s.heap.get? b=some o->∃o',h'.get? b=some o')
  (mq:∀b xs,H b=some (.tup xs)->H' b=some (.tup xs)) (kW:∀b o u,H b=some (.cS o u)->H' b=some (.cS o u)) (mz:∀b ps,H b=some (.gb ps)->∃more,H' b=some (.gb (ps++more)))
  (ns:∀m,s.heap.Ns X.env.locals m->h'.Ns X.env.locals m) (aO:c_ X.prog X.w H' h') (hg:AllBare g') :
  Inv X pins σ H' { s with heap:=h',gens:=g',drawn:=d',toks:=t' }:=by
 have OY:∀b o,X.dG.heap.get? b=some o->b≠X.env.locals:=λb o e=>Nat.ne_of_lt (Nat.lt_of_lt_of_le (Heap.lt_size e) I.ok.above);have zx:∀b o,X.dG.heap.get? b=some o->b∉X.ex->b∉ch:=λb o e hx hb=>by
  rcases(mD b hb).1 with z | z
  ·exact hx z
  ·exact absurd (Nat.lt_of_lt_of_le (Heap.lt_size e) z) (Nat.lt_irrefl _)
 have cellK:∀x c,X.env.cells.lookup x=some c->∀v,s.heap.IsCell c v->h'.IsCell c v:=λx c e v ⟨o,ho,hd⟩=>by
  have vo:c∉ch:=λz=>(mD c z).2.2.1 x c e rfl;by_cases hc:c∈X.fs
  ·obtain⟨sl,q⟩:=slot c o (I.qA x c e) hc vo ho (I.kh x c e);exact⟨_,q,hd⟩
  ·exact⟨o,keep c o (I.qA x c e) hc vo ho (I.kh x c e),hd⟩
 refine⟨I.ok,I.os,hg,⟨λb o e n hb hx=>?_,λb o e n hb hx=>?_,λb o e n hx=>?_,λb o e hx=>?_,λb xs e=>mq b xs (I.base.mq b xs e),λb o xs e=>kW b o xs (I.base.kW b o xs e),λb ps e=>?_⟩,?_,λx c e=>?_,?_,λx c e=>?_,λp hp=>?_,aO,I.len⟩
 ·exact keep b o (OY b o e) hb (zx b o e hx) (I.base.keep b o e n hb hx) (I.base.free b o e n hx)
 ·obtain⟨sl,e1⟩:=I.base.slot b o e n hb hx;obtain⟨sl',e2⟩:=slot b _ (OY b o e) hb (zx b o e hx) e1 (I.base.free b o e n hx);exact⟨sl',e2⟩
 ·obtain⟨o',e1⟩:=I.base.there b o e hx;exact free b o' (zx b o e hx) e1 (I.base.free b o e n hx)
 ·obtain⟨o',e1⟩:=I.base.there b o e hx;exact there b o' (zx b o e hx) e1
 ·obtain⟨m1,e1⟩:=I.base.mz b ps e;obtain⟨m2,e2⟩:=mz b _ e1;exact⟨m1++m2,by rw[e2,Array.append_assoc]⟩
 ·obtain⟨m,hn,hl⟩:=I.loc;refine⟨m,ns m hn,λi x v e1 e2 e3=>?_⟩;obtain⟨u,r,l⟩:=hl i x v e1 e2 e3;refine⟨u,r,?_⟩;rcases l with l | ⟨k,c,e,z⟩
  ·exact .inl l
  ·exact .inr ⟨k,c,e,cellK x c e _ z⟩
 ·obtain⟨v,z⟩:=I.cell x c e;exact⟨v,cellK x c e v z⟩
 ·obtain⟨m,⟨o,_,_,ho,_⟩,_⟩:=I.loc;exact free _ o (λz=>(mD _ z).2.1 rfl) ho I.free
 ·obtain⟨v,o,ho,hd⟩:=I.cell x c e;exact free c o (λz=>(mD c z).2.2.1 x c e rfl) ho (I.kh x c e)
 ·obtain⟨e,n,ne,nf,d⟩:=I.pin p hp;have vo:p.1∉ch:=λz=>(mD p.1 z).2.2.2 p hp rfl;exact⟨keep p.1 p.2 ne nf vo e n,free p.1 p.2 vo e n,ne,nf,d⟩
theorem Inv.un{t':Nat}(I:Inv X pins σ H s)(u:Un X.fs [] H H' s.heap h')(aO:c_ X.prog X.w H' h'):Inv X pins σ H' { s with heap:=h',toks:=t' }:=by
 obtain⟨m,⟨o,es,ep,ho,r⟩,_⟩:=id I.loc;obtain⟨sl,hL⟩:=u.any ho I.free (by simp)
 exact I.step (g':=s.gens) (d':=s.drawn) (ch:=[]) (λ_ z=>nomatch z) (λb o _ hb _ e n=>u.keep b o e n hb (by simp)) (λb o _ hb _ e n=>u.slot b o e n hb (by simp)) (λb o _ e n=>u.free b o e n (by simp)) (λb o _ e=>u.there b o e (by simp)) u.mq u.kW u.mz (λm' hm=>by
  obtain⟨o',FO,FP,nJ,r'⟩:=hm;rw[ho] at nJ;cases nJ;exact⟨_,FO,FP,hL,r'⟩) aO I.bare
theorem Inv.call{g':Array GenState}{t':Nat}{d':Drawn}{ch:List Addr}(I:Inv X pins σ H s)(u:Un (iI X.stack) ch H H' s.heap h')(aO:c_ X.prog X.w H' h')(hg:AllBare g')
  (mD:∀b∈ch,(b∈X.ex\/X.dG.heap.objs.size<=b)/\b≠X.env.locals/\(∀x c,X.env.cells.lookup x=some c->c≠b)/\∀p∈X.pn++pins,p.1≠b) :
  Inv X pins σ H' { s with heap:=h',gens:=g',drawn:=d',toks:=t' }:=by
 obtain⟨m,⟨o,es,ep,ho,r⟩,_⟩:=id I.loc;obtain⟨sl,hL⟩:=u.any ho I.free λz=>(mD _ z).2.1 rfl;exact I.step (ch:=ch) mD (λb o hL hb hc e n=>u.keep b o e n (λz=>(List.mem_cons.mp (I.FL b z)).elim hL hb) hc) (λb o _ _ hc e n=>u.any e n hc) (λb o hc e n=>u.free b o e n hc) (λb o hc e=>u.there b o e hc) u.mq u.kW u.mz (λm' hm=>by
  obtain⟨o',FO,FP,nJ,r'⟩:=hm;rw[ho] at nJ;cases nJ;exact⟨_,FO,FP,hL,r'⟩) aO hg
theorem Inv.turned{t':Nat}{it:Addr}(I:Inv X pins σ H s)(k:∀b o,b≠it->s.heap.get? b=some o->h'.get? b=some o)(hn:H it=none)(hL:it≠X.env.locals)
  (h1:it∈X.ex\/X.dG.heap.objs.size<=it) (h2:∀x c,X.env.cells.lookup x=some c->c≠it) (h3:∀p∈X.pn++pins,p.1≠it):Inv X pins σ H { s with heap:=h',toks:=t' }:=by
 have vp:∀b u,H b=some u->b≠it:=λb u e z=>by rw[z,hn] at e;cases e
 refine I.step (g':=s.gens) (d':=s.drawn) (ch:=[it]) (λb hb=>?_) (λb o _ _ hc e _=>k b o (λz=>hc (by simp[z])) e) (λb o _ _ hc e _=>⟨o.slots,k b o (λz=>hc (by simp[z])) e⟩) (λ_ _ _ _ n=>n)
  (λb o hc e=>⟨o,k b o (λz=>hc (by simp[z])) e⟩) (λ_ _ e=>e) (λ_ _ _ e=>e) (λb ps e=>⟨#[],by rw[e];simp⟩) (λm hm=>?_) (λb u e=>?_) I.bare
 ·have e:b=it:=by simpa using hb
  subst e;exact⟨h1,hL,h2,h3⟩
 ·obtain⟨o,es,ep,ho,r⟩:=hm;exact⟨o,es,ep,k _ o (Ne.symm hL) ho,r⟩
 ·refine(I.aO b u e).jz (λc v hc q=>k c v ?_ q) (λ_ q=>q) λ_ _ q=>q;rcases hc with z | z
  ·rw[z];exact vp b u e
  ·exact vp c _ z
theorem Inv.tok(I:Inv X pins σ H s)(t:Nat):Inv X pins σ H { s with toks:=t }:=I.un (h':=s.heap) (t':=t) Un.refl I.aO
theorem Inv.kept{t':Nat}(I:Inv X pins σ H s)(k:∀b u,s.heap.get? b=some u->h'.get? b=some u):Inv X pins σ H { s with heap:=h',toks:=t' }:=I.un (Un.kept k) (I.aO.kept k)
theorem Inv.laid{a:Addr}{o:HO}{t':Nat}(I:Inv X pins σ H s)(k:∀b u,s.heap.get? b=some u->h'.get? b=some u)(hp:s.heap.objs.size<=a)(new:dQ X.prog X.w (upd H a o) h' a o) :
  Inv X pins σ (upd H a o) { s with heap:=h',toks:=t' }:=I.un (Un.laid k hp (I.aO.fresh hp)) (I.aO.laid k hp new)
theorem Inv.write{x e:Addr}{o:HO}{t':Nat}(I:Inv X pins σ H s)(mu:vh (H x))(he:e=x\/H e=some (.own x))(k:∀b u,b≠e->s.heap.get? b=some u->h'.get? b=some u)(sG:∃u,h'.get? e=some u)
  (new:dQ X.prog X.w (upd H x o) h' x o):Inv X pins σ (upd H x o) { s with heap:=h',toks:=t' }:=I.un (Un.write mu he k sG) (I.aO.write mu he k sG new)
theorem Inv.mF{gr:List (Addr×Obj)}(I:Inv X pins σ H s)(h:∀p∈gr,s.heap.get? p.1=some p.2/\H p.1=none/\p.1≠X.env.locals/\p.1∉X.fs/\∀v,p.2.data≠.cell v):Inv X gr σ H s :=
 ⟨I.ok,I.os,I.bare,I.base,I.loc,I.cell,I.free,I.kh,λp hp=>(List.mem_append.mp hp).elim (λz=>I.pin p (List.mem_append_left _ z)) (h p),I.aO,I.len⟩
theorem OZ{N:List Str}(hN:N.Nodup){i j:Nat}{x:Str}(a:N[i]? = some x)(b:N[j]? = some x):i=j:=by
 obtain⟨h1,e1⟩:=List.getElem?_eq_some_iff.mp a;obtain⟨h2,e2⟩:=List.getElem?_eq_some_iff.mp b;exact(List.getElem_inj hN).mp (e1.trans e2.symm)
theorem O0{M:Model}{A:Around}{E:Value->Shared->Prop}{i:Nat}{x:Str}{v:V}{u:Value}{Q:Unit->Shared->Prop}(I:Inv X pins σ H s)(hN:X.N.Nodup)(hi:X.N[i]? = some x)(hx:Loc X.env.scope x)(r:RelV v u)
  (h:∀s',Inv X pins (σ.set i (some v)) H s'->(∃a,Heap.SameBut a s.heap s'.heap/\(a=X.env.locals\/X.env.cells.lookup x=some a))->Q () s') (hf:X.fn x=true\/X.env.scope.names.lookup x=some .local:=by first | exact .inl rfl | exact .inr rfl | assumption):wpAny M A (storeName X.env x u) Q E s:=by
 obtain⟨m,hn,hl⟩:=id I.loc;have aaP:(X.env.scope.kind == .class || (X.env.scope.kind == .module && X.env.locals != X.env.globals))=false:=by rw[I.ok.kind];rfl
 have O1:i<σ.length:=by rw[I.len];exact(List.getElem?_eq_some_iff.mp hi).1
 have qA:=I.qA;have tracked:∀ {a:Addr} {h':Heap},(∃o,s.heap.get? a=some o/\H a=none)->Heap.SameBut a s.heap h'->c_ X.prog X.w H h':=λ{a h'} ha hs b ob e=>by
  obtain⟨_,_,O2⟩:=ha;refine(I.aO b ob e).jz (λc w' hc q=>(hs.2 c ?_).trans q) (λ_ q=>q) λ_ _ q=>q;rintro rfl;rcases hc with rfl | hc
  ·rw[O2] at e;cases e
  ·rw[O2] at hc;cases hc
 rcases hx with hk | hk
 ·refine wpAny_storeName_local hk hn (λh' FQ hs=>?_) aaP;obtain⟨oL,_,_,hoL,_⟩:=id hn;refine h _ ⟨I.ok,I.os,I.bare,⟨λb o e n hb hx=>?_,λb o e n hb hx=>?_,I.base.free,λb o e hx=>?_,I.base.mq,I.base.kW,I.base.mz⟩,⟨_,FQ,λj y v' e1 e2 e3=>?_⟩,λy c e=>?_,I.free,I.kh,λp hp=>?_,tracked ⟨oL,hoL,I.free⟩ hs,by simpa using I.len⟩ ⟨_,hs,.inl rfl⟩
  ·exact(hs.2 b (Nat.ne_of_lt (Nat.lt_of_lt_of_le (Heap.lt_size e) I.ok.above))).trans (I.base.keep b o e n hb hx)
  ·obtain⟨sl,e1⟩:=I.base.slot b o e n hb hx;exact⟨sl,(hs.2 b (Nat.ne_of_lt (Nat.lt_of_lt_of_le (Heap.lt_size e) I.ok.above))).trans e1⟩
  ·obtain⟨o',e1⟩:=I.base.there b o e hx;exact⟨o',(hs.2 b (Nat.ne_of_lt (Nat.lt_of_lt_of_le (Heap.lt_size e) I.ok.above))).trans e1⟩
  ·by_cases hj:j=i
   ·subst hj;rw[hi] at e1;cases e1;rw[List.getElem?_set_self O1] at e2;cases e2;exact⟨u,r,.inl ⟨hk,by simp⟩⟩
   ·rw[List.getElem?_set_ne (Ne.symm hj)] at e2;obtain⟨u',r',q⟩:=hl j y v' e1 e2 e3;refine⟨u',r',?_⟩;rcases q with⟨k,e⟩ | ⟨k,c,e,z⟩
    ·refine .inl ⟨k,?_⟩;have:y≠x:=λe=>hj (OZ hN e1 (e▸hi));simp[this,e]
    ·exact .inr ⟨k,c,e,z.sameBut hs (qA y c e)⟩
  ·obtain⟨w',z⟩:=I.cell y c e;exact⟨w',z.sameBut hs (qA y c e)⟩
  ·obtain⟨e,n,ne,nf,d⟩:=I.pin p hp;exact⟨(hs.2 p.1 ne).trans e,n,ne,nf,d⟩
 ·have FT:X.fn x=true:=by
   rcases hf with z | z
   ·exact z
   ·rw[z] at hk;cases hk
  obtain⟨c,hc⟩:=I.ok.has x (.inl hk);obtain⟨w',z⟩:=I.cell x c hc;refine wpAny_storeName_cell I.ok.kind hk hc z (λh' sN hs=>?_);obtain⟨oc,qC,aaQ⟩:=id z;refine h { s with heap:=h' } ⟨I.ok,I.os,I.bare,⟨λb o e n hb hx=>?_,λb o e n hb hx=>?_,I.base.free,λb o e hx=>?_,I.base.mq,I.base.kW,I.base.mz⟩,⟨m,hn.sameBut hs (Ne.symm (qA x c hc)),λj y v' e1 e2 e3=>?_⟩,λy c' e=>?_,I.free,I.kh,λp hp=>?_,tracked ⟨oc,qC,I.kh x c hc⟩ hs,by simpa using I.len⟩ ⟨c,hs,.inr hc⟩
  ·exact(hs.2 b (Nat.ne_of_lt (Nat.lt_of_lt_of_le (Heap.lt_size e) (I.ok.sH x c FT hc)))).trans (I.base.keep b o e n hb hx)
  ·obtain⟨sl,e1⟩:=I.base.slot b o e n hb hx;exact⟨sl,(hs.2 b (Nat.ne_of_lt (Nat.lt_of_lt_of_le (Heap.lt_size e) (I.ok.sH x c FT hc)))).trans e1⟩
  ·obtain⟨o',e1⟩:=I.base.there b o e hx;exact⟨o',(hs.2 b (Nat.ne_of_lt (Nat.lt_of_lt_of_le (Heap.lt_size e) (I.ok.sH x c FT hc)))).trans e1⟩
  ·by_cases hj:j=i
   ·subst hj;rw[hi] at e1;cases e1;rw[List.getElem?_set_self O1] at e2;cases e2;exact⟨u,r,.inr ⟨.inl hk,c,hc,sN⟩⟩
   ·rw[List.getElem?_set_ne (Ne.symm hj)] at e2;obtain⟨u',r',q⟩:=hl j y v' e1 e2 e3;refine⟨u',r',?_⟩;rcases q with q | ⟨k,c',e,z'⟩
    ·exact .inl q
    ·refine .inr ⟨k,c',e,z'.sameBut hs ?_⟩;rintro rfl;exact hj (OZ hN e1 (I.ok.inj _ _ _ e hc▸hi))
  ·by_cases qD:c' = c
   ·subst qD;exact⟨_,sN⟩
   ·obtain⟨w2,z2⟩:=I.cell y c' e;exact⟨w2,z2.sameBut hs qD⟩
  ·obtain⟨e,n,ne,nf,d⟩:=I.pin p hp;refine⟨(hs.2 p.1 ?_).trans e,n,ne,nf,d⟩;intro q;rw[q,qC] at e;have q':oc=p.2:=Option.some.inj e;exact d w' (by rw[← q'];exact aaQ)
theorem O3{M:Model}{A:Around}{E:Value->Shared->Prop}{i:Nat}{x:Str}{v:V}{u:Value}{Q:Unit->Shared->Prop}(I:Inv X pins σ H s)(hN:X.N.Nodup)(hi:X.N[i]? = some x)(hx:Loc X.env.scope x)(r:RelV v u)
  (h:∀s',Inv X pins (σ.set i (some v)) H s'->Q () s') (hf:X.fn x=true\/X.env.scope.names.lookup x=some .local:=by first | exact .inl rfl | exact .inr rfl | assumption):wpAny M A (storeName X.env x u) Q E s :=
 O0 I hN hi hx r (λs' I' _=>h s' I') hf
theorem Inv.O4{s':Shared}{ch:List Addr}(I:Inv X pins σ H s)(ho:s'.os=s.os)(u:Un (iI X.stack) ch H H' s.heap s'.heap)(aO:c_ X.prog X.w H' s'.heap)(hg:AllBare s'.gens)
  (mD:∀b∈ch,(b∈X.ex\/X.dG.heap.objs.size<=b)/\b≠X.env.locals/\(∀x c,X.env.cells.lookup x=some c->c≠b)/\∀p∈X.pn++pins,p.1≠b):Inv X pins σ H' s':=by
 obtain⟨h',g',d',t',o'⟩:=s';have e:o' = s.os:=ho;subst e;exact I.call (g':=g') (t':=t') (d':=d') u aO hg mD
end
noncomputable abbrev XK:=Value->Option Addr->Hp->Prop
noncomputable abbrev St:=List (Option V)
noncomputable abbrev VK:=V->Hp->Prop
noncomputable abbrev TE:=St->Hp->VK->Prop
noncomputable abbrev TT:=St->Hp->(Bool->Hp->Prop)->Prop
noncomputable abbrev TA:=St->Hp->(List V->Hp->Prop)->Prop
structure Ends where
 nx:St->Hp->Prop
 rt:VK
 bk:St->Hp->Prop:=λ_ _=>False
 ct:St->Hp->Prop:=λ_ _=>False
noncomputable abbrev TS:=Ends->St->Hp->Prop
noncomputable def EP(X:Cx)(pins:List (Addr×Obj))(σ:St)(Q:VK)(u:Value)(s':Shared):Prop:=∃v H',Inv X pins σ H' s'/\RelV v u/\Q v H'
noncomputable def TP(X:Cx)(pins:List (Addr×Obj))(σ:St)(Q:Bool->Hp->Prop)(b:Bool)(s':Shared):Prop:=∃H',Inv X pins σ H' s'/\Q b H'
noncomputable def AP(X:Cx)(pins:List (Addr×Obj))(σ:St)(Q:List V->Hp->Prop)(us:List Value)(s':Shared):Prop:=∃vs H',Inv X pins σ H' s'/\Vals vs us/\Q vs H'
noncomputable def SP(X:Cx)(pins:List (Addr×Obj))(D:Ends)(f:Flow)(s':Shared):Prop :=
 match f with
 | .next=>∃bG H',Inv X pins bG H' s'/\D.nx bG H'
 | .brk=>∃bG H',Inv X pins bG H' s'/\D.bk bG H'
 | .cont=>∃bG H',Inv X pins bG H' s'/\D.ct bG H'
 | .ret u=>∃v bG H',Inv X pins bG H' s'/\RelV v u/\D.rt v H'
noncomputable def PE(X:Cx)(e:Expr)(t:TE):Prop :=
 ∀(pins:List (Addr×Obj)) (s:Shared) (σ:St) (H:Hp) (Q:VK),Inv X pins σ H s->t σ H Q->wpAny (model X.prog X.w) X.A (eval e X.env) (EP X pins σ Q) X.xe s
noncomputable def PT(X:Cx)(e:Expr)(t:TT):Prop :=
 ∀(pins:List (Addr×Obj)) (s:Shared) (σ:St) (H:Hp) (Q:Bool->Hp->Prop),Inv X pins σ H s->t σ H Q->wpAny (model X.prog X.w) X.A (isTrue e X.env (eval e X.env)) (TP X pins σ Q) X.xe s
noncomputable def PW(X:Cx)(e:Expr)(t:TT):Prop :=
 ∀(whole:Sem Value) (pins:List (Addr×Obj)) (s:Shared) (σ:St) (H:Hp) (Q:Bool->Hp->Prop),Inv X pins σ H s->t σ H Q->wpAny (model X.prog X.w) X.A (isTrue e X.env whole) (TP X pins σ Q) X.xe s
theorem PW.pt{X:Cx}{e:Expr}{t:TT}(h:PW X e t):PT X e t:=h _
noncomputable def PA(X:Cx)(es:List Expr)(t:TA):Prop :=
 ∀(pos:Pos) (pins:List (Addr×Obj)) (s:Shared) (σ:St) (H:Hp) (Q:List V->Hp->Prop),Inv X pins σ H s->t σ H Q->wpAny (model X.prog X.w) X.A (spliced (backTo pos (starEach es X.env))) (AP X pins σ Q) X.xe s
noncomputable def PS(X:Cx)(st:Stmt)(t:TS):Prop :=
 ∀(pins:List (Addr×Obj)) (s:Shared) (σ:St) (H:Hp) (D:Ends),Inv X pins σ H s->t D σ H->wpAny (model X.prog X.w) X.A (exec st X.env) (SP X pins D) X.xe s
noncomputable def gT(X:Cx)(st:List Stmt)(t:TS):Prop :=
 ∀(pins:List (Addr×Obj)) (s:Shared) (σ:St) (H:Hp) (D:Ends),Inv X pins σ H s->t D σ H->wpAny (model X.prog X.w) X.A (execs st X.env) (SP X pins D) X.xe s
theorem aP{α:Type}{t:Sem α}{Q Q':α->Shared->Prop}{M:Model}{A:Around}{E:Value->Shared->Prop}{s:Shared}(h:wpAny M A t Q E s)(hQ:∀a s,Q a s->Q' a s):wpAny M A t Q' E s:=wpAny_mono h hQ λ_ _ x=>x
section
variable{X:Cx}
noncomputable def FU(i:Nat):TE:=λσ H Q=>∃v,σ[i]? = some (some v)/\Q v H
noncomputable def tC(v:V):TE:=λ_ H Q=>Q v H
theorem O5{i:Nat}{x:Str}{pos:Pos}(hN:X.N[i]? = some x)(hv:zw X.env.scope x)(hd:(x == ("__debug__" : Str))=false:=by decide)(gH:(x == ("__classdict__" : Str))=false:=by decide):PE X (.Name x pos) (FU i):=by
 intro pins s σ H Q I h;obtain⟨v,e,h⟩:=h;obtain⟨m,hn,hl⟩:=I.loc;obtain⟨u,r,l⟩:=hl i x v hN e hv;have fin:EP X pins σ Q u s:=⟨v,H,I,r,h⟩;rcases l with⟨hk,hm⟩ | ⟨hk,c,hc,O6⟩
 ·exact wpAny_Name (wpAny_loadName_local I.ok.kind hk hn hm fin) hd
 ·rcases hk with hk | hk
  ·exact wpAny_Name (wpAny_loadName_cell I.ok.kind hk hc O6 fin) hd
  ·exact wpAny_Name (wpAny_loadName_free I.ok.kind hk hc O6 fin gH) hd
theorem aD{i j pos}:PE X (.Constant (.int i) j pos) (tC (.int i)):=λ_ _ _ H _ I h=>wpAny_Constant_int ⟨.int i,H,I.tok _,⟨_,rfl⟩,h⟩
theorem i8{b j pos}:PE X (.Constant (.bool b) j pos) (tC (.bl b)):=λ_ _ _ H _ I h=>Constant_bool ⟨.bl b,H,I,rfl,h⟩
theorem pe{j pos}:PE X (.Constant .none j pos) (tC .aV):=λ_ _ _ H _ I h=>Constant_none ⟨.aV,H,I,rfl,h⟩
theorem cQ{x j pos}:PE X (.Constant (.str x) j pos) (tC (.str x)):=λ_ _ _ H _ I h=>Calls.Constant_str ⟨.str x,H,I.tok _,⟨_,rfl⟩,h⟩
noncomputable def Gl(X:Cx)(x:Str):Prop:=X.env.kindOf x=some .globalImplicit
theorem vq{E:Value->Shared->Prop}{pins:List (Addr×Obj)}{s:Shared}{σ:St}{H:Hp}{x:Str}{u:Value}{pos:Pos}{Q:Value->Shared->Prop}(I:Inv X pins σ H s)(hg:Gl X x)(hm:X.mg x=some u)(h:Q u s)
  (hd:(x == ("__debug__" : Str))=false:=by decide):wpAny (model X.prog X.w) X.A (eval (.Name x pos) X.env) Q E s :=
 Calls.Name_function_global I.ok.kind hg (Calls.loadGlobal_global (by rw[I.ok.glob];exact I.mod.glob.keeps I.bk) hm h) hd
theorem kX{E:Value->Shared->Prop}{pins:List (Addr×Obj)}{s:Shared}{σ:St}{H:Hp}{x:Str}{u:Value}{pos:Pos}{Q:Value->Shared->Prop}(I:Inv X pins σ H s)(hg:Gl X x)(hm:X.mg x=none)(hv:bootBuiltins x=some u)(h:Q u s)
  (hn:x≠"__name__" := by decide) (hd:(x == ("__debug__" : Str))=false:=by decide):wpAny (model X.prog X.w) X.A (eval (.Name x pos) X.env) Q E s:=by
 obtain⟨mb,h1,h2⟩:=I.mod.blt;exact Calls.Name_function_global I.ok.kind hg (Calls.loadGlobal_builtin (by rw[I.ok.glob];exact I.mod.glob.keeps I.bk) hm (by rw[I.ok.blt];exact h1.keeps I.bk) ((h2 x hn).trans hv) h) hd
theorem iw{x:Str}{v:V}{u:Value}{pos:Pos}(hg:Gl X x)(hm:X.mg x=some u)(r:RelV v u)(hd:(x == ("__debug__" : Str))=false:=by decide):PE X (.Name x pos) (tC v) :=
 λ_ _ _ H _ I h=>vq I hg hm ⟨v,H,I,r,h⟩ hd
theorem zy{x:Str}{v:V}{u:Value}{pos:Pos}(hg:Gl X x)(hm:X.mg x=none)(hv:bootBuiltins x=some u)(r:RelV v u)(hn:x≠"__name__" := by decide)(hd:(x == ("__debug__" : Str))=false:=by decide):PE X (.Name x pos) (tC v) :=
 λ_ _ _ H _ I h=>kX I hg hm hv ⟨v,H,I,r,h⟩ hn hd
variable{a b:Expr}{ta tb:TE}{pos:Pos}
noncomputable def PC(X:Cx)(op:CmpOp)(a b:Expr)(t:TE):Prop :=
 ∀(pins:List (Addr×Obj)) (s:Shared) (σ:St) (H:Hp) (Q:VK),Inv X pins σ H s->t σ H Q->
  wpAny (model X.prog X.w) X.A (eval a X.env) (λv bC=>wpAny (model X.prog X.w) X.A (eval b X.env) (λu kY=>wpAny (model X.prog X.w) X.A (compareOp op v u) (EP X pins σ Q) X.xe kY) X.xe bC) X.xe s
theorem O7(b:Expr){op:CmpOp}(h:op≠.In)(h2:op≠.NotIn):behindInMarks op b=false:=by
 have e1:(op == CmpOp.In)=false:=by cases op <;> first | rfl | exact absurd rfl h
 have e2:(op == CmpOp.NotIn)=false:=by cases op <;> first | rfl | exact absurd rfl h2
 cases b <;> simp[behindInMarks,e1,e2]
noncomputable def tB(t:TE):TT:=λσ H Q=>t σ H λx H1=>∃c,x = .bl c/\Q c H1
theorem O8{op:CmpOp}{t:TE}(h:PC X op a b t)(h1:behindInMarks op b=false:=by first | exact O7 _ (by decide) (by decide) | rfl):PE X (.Compare a [op] [b] pos) t:=λpins s σ H Q I hw=>wpAny_Compare1 (h pins s σ H Q I hw) h1
theorem aaR{op:CmpOp}{t:TE}(h:PC X op a b t)(h1:behindInMarks op b=false:=by first | exact O7 _ (by decide) (by decide) | rfl):PT X (.Compare a [op] [b] pos) (tB t):=by
 intro pins s σ H Q I hw;refine wpAny_isTrue_Compare1 (aP (h pins s σ H _ I hw) λv s1 h1=>aP h1 λu s2 h2=>aP h2 λc s3 ⟨x,H1,I1,r1,q1⟩=>?_) h1;obtain⟨d,rfl,q⟩:=q1;cases r1;exact wpAny_truthy_bool ⟨H1,I1,q⟩
theorem iJ{e:Expr}{t:TE}(h:PE X e t)(he:∀whole,isTrue e X.env whole=(do let v ← whole;standAt e.pos;holding [v] (truthy v)):=by intro _;rfl):PT X e (tB t):=by
 intro pins s σ H Q I hw;refine isTrue_plain (aP (h pins s σ H _ I hw) λv s1 ⟨x,H1,I1,r1,q1⟩=>?_) (he _);obtain⟨d,rfl,q⟩:=q1;cases r1;exact wpAny_truthy_bool ⟨H1,I1,q⟩
variable{tA zz:TT}{rest:List Expr}
noncomputable def O9(t u:TT):TT:=λσ H Q=>t σ H λc H1=>if c=true then u σ H1 Q else Q false H1
noncomputable def vt(t u:TT):TT:=λσ H Q=>t σ H λc H1=>if c=true then Q true H1 else u σ H1 Q
noncomputable def O_(t:TT):TT:=λσ H Q=>t σ H λc H1=>Q (!c) H1
theorem FW(ha:PT X a tA):PW X (.BoolOp .And [a] pos) tA:=by
 intro wh pins s σ H Q I h;refine isTrue_and (aP (ha pins s σ H Q I h) λc s1 e=>?_);cases c with
 | true=>exact isTrue_and_nil e
 | false=>exact e
theorem gc(ha:PT X a tA):PW X (.BoolOp .Or [a] pos) tA:=by
 intro wh pins s σ H Q I h;refine isTrue_or (aP (ha pins s σ H Q I h) λc s1 e=>?_);cases c with
 | false=>exact isTrue_or_nil e
 | true=>exact e
theorem FY(ha:PT X a tA)(hb:PW X (.BoolOp .And (b::rest) pos) zz):PW X (.BoolOp .And (a::b::rest) pos) (O9 tA zz):=by
 intro wh pins s σ H Q I h;refine isTrue_and (aP (ha pins s σ H _ I h) λc s1 ⟨H1,I1,q1⟩=>?_);cases c with
 | true=>exact hb wh pins s1 σ H1 Q I1 q1
 | false=>exact⟨H1,I1,q1⟩
theorem fE(ha:PT X a tA)(hb:PW X (.BoolOp .Or (b::rest) pos) zz):PW X (.BoolOp .Or (a::b::rest) pos) (vt tA zz):=by
 intro wh pins s σ H Q I h;refine isTrue_or (aP (ha pins s σ H _ I h) λc s1 ⟨H1,I1,q1⟩=>?_);cases c with
 | true=>exact⟨H1,I1,q1⟩
 | false=>exact hb wh pins s1 σ H1 Q I1 q1
theorem jR(ha:PT X a tA):PT X (.UnaryOp .Not a pos) (O_ tA):=by
 intro pins s σ H Q I h;exact isTrue_not (ha pins s σ H (λc H1=>Q (!c) H1) I h)
noncomputable def Pa(ta tb:TE):TE:=λσ H Q=>ta σ H λx H1=>∃c,x = .bl c/\if c=true then tb σ H1 Q else Q (.bl false) H1
noncomputable def Pb(ta:TE):TE:=λσ H Q=>ta σ H λx H1=>∃c,x = .bl c/\Q (.bl (!c)) H1
theorem sO{op}{t:TE}(h:PE X a t):PE X (.BoolOp op [a] pos) t:=λpins s σ H Q I hw=>BoolOp_one (h pins s σ H Q I hw)
theorem sQ(ha:PE X a ta)(hb:PE X (.BoolOp .And (b::rest) pos) tb):PE X (.BoolOp .And (a::b::rest) pos) (Pa ta tb):=by
 intro pins s σ H Q I h;refine BoolOp_and (aP (ha pins s σ H _ I h) λv s1 ⟨x,H1,I1,r1,q1⟩=>?_);obtain⟨c,rfl,q1⟩:=q1;cases r1;refine wpAny_truthy_bool ?_;cases c with
 | true=>exact hb pins s1 σ H1 Q I1 q1
 | false=>exact⟨.bl false,H1,I1,rfl,q1⟩
theorem aaS(ha:PE X a ta):PE X (.UnaryOp .Not a pos) (Pb ta):=by
 intro pins s σ H Q I h;refine UnaryOp_ (aP (ha pins s σ H _ I h) λv s1 ⟨x,H1,I1,r1,q1⟩=>?_);obtain⟨c,rfl,q1⟩:=q1;cases r1;exact not_of (wpAny_truthy_bool ⟨.bl (!c),H1,I1,rfl,q1⟩)
noncomputable def Pc(t:TT)(ta tb:TE):TE:=λσ H Q=>t σ H λc H1=>if c=true then ta σ H1 Q else tb σ H1 Q
theorem FZ{c:Expr}(hc:PT X c tA)(ha:PE X a ta)(hb:PE X b tb):PE X (.IfExp c a b pos) (Pc tA ta tb):=by
 intro pins s σ H Q I h;refine wpAny_IfExp (aP (hc pins s σ H _ I h) λd s1 ⟨H1,I1,q1⟩=>?_);cases d with
 | true=>exact ha pins s1 σ H1 Q I1 q1
 | false=>exact hb pins s1 σ H1 Q I1 q1
end
noncomputable def aE(K:PySem.W.Frag)(H:Hp)(a:Addr)(xs:List V):Prop :=
 Rd H a (.lst xs)\/
  ∃(o:Obj) (aG:Array Value) (n:Nat),K.lookup a=some o/\o.cls = .type "list"/\o.dict=none/\o.data = .seq aG n/\aG.size<=sizeLine/\Vals xs aG.toList
noncomputable def bD(K:PySem.W.Frag)(H:Hp)(a:Addr)(xs:List V):Prop :=
 Rd H a (.tup xs)\/
  ∃(o:Obj) (aG:Array Value) (n:Nat),K.lookup a=some o/\o.cls = .type "tuple"/\o.data = .seq aG n/\aG.size<=sizeLine/\Vals xs aG.toList
noncomputable def aaT:Value->Option V
 | .none=>some .aV
 | .bool b=>some (.bl b)
 | .int i _=>some (.int i)
 | .str x _=>some (.str x)
 | .bytes b _=>some (.jy b)
 | .float b _=>some (.qx b)
 | .ref a=>some (.ref a)
 | .type n=>some (.ty n)
 | _=>none
theorem RelV.abs{x:V}{u:Value}(r:RelV x u):aaT u=some x:=by
 cases x with
 | aV=>cases r;rfl
 | bl _=>cases r;rfl
 | int _=>obtain⟨t,rfl⟩:=r;rfl
 | str _=>obtain⟨t,rfl⟩:=r;rfl
 | jy _=>obtain⟨t,rfl⟩:=r;rfl
 | qx _=>obtain⟨t,rfl⟩:=r;rfl
 | ref _=>cases r;rfl
 | ty _=>cases r;rfl
theorem RelV.inj{x y:V}{u:Value}(r:RelV x u)(q:RelV y u):x=y:=Option.some.inj (r.abs.symm.trans q.abs)
theorem Vals.inj:∀ {xs ys:List V} {us:List Value},Vals xs us->Vals ys us->xs=ys
 | _,_,_,.nil,.nil=>rfl
 | _,_,_,.cons r t,.cons r' t'=>by rw[r.inj r',Vals.inj t t']
section
variable{X:Cx}{pins:List (Addr×Obj)}{σ:St}{H:Hp}{s:Shared}{a:Addr}{xs ys:List V}
theorem aE.of{K:PySem.W.Frag}(h:H a=some (.lst xs)):aE K H a xs:=.inl (.inl h)
theorem bD.of{K:PySem.W.Frag}(h:H a=some (.tup xs)):bD K H a xs:=.inl (.inl h)
theorem Inv.list(I:Inv X pins σ H s)(h:aE X.K H a xs):∃aG:List Value,Vals xs aG/\PlainL s.heap a aG.toArray/\xs.length<=sizeLine:=by
 rcases h with h | ⟨o,aG,n,hk,hc,hd,hs,hz,r⟩
 ·obtain⟨z,aG,n,r,e⟩:=h.ok I.aO;exact⟨aG,r,⟨_,n,e,rfl,rfl,rfl⟩,z⟩
 ·refine⟨aG.toList,r,⟨o,n,I.cY a o hk,hc,hd,by simpa using hs⟩,?_⟩
  have e:=r.length;simp only[Array.length_toList] at e;lia
theorem Inv.tuple(I:Inv X pins σ H s)(h:bD X.K H a xs):∃aG:List Value,Vals xs aG/\IsTup s.heap a aG.toArray/\xs.length<=sizeLine:=by
 rcases h with h | ⟨o,aG,n,hk,hc,hs,hz,r⟩
 ·obtain⟨z,aG,r,p⟩:=h.ok I.aO;exact⟨aG,r,p,z⟩
 ·refine⟨aG.toList,r,⟨o,I.cY a o hk,hc,n,by simpa using hs⟩,?_⟩
  have e:=r.length;simp only[Array.length_toList] at e;lia
theorem Inv.Pd(I:Inv X pins σ H s)(h:aE X.K H a xs)(h':aE X.K H a ys):xs=ys:=by
 obtain⟨aG,r,⟨o,n,e,_,_,d⟩,_⟩:=I.list h;obtain⟨its',r',⟨o',n',e',_,_,d'⟩,_⟩:=I.list h';rw[e] at e';cases e';rw[d] at d';injection d' with d1 _;have:aG=its':=by simpa using congrArg Array.toList d1
 subst this;exact r.inj r'
theorem Inv.aaU(I:Inv X pins σ H s)(h:bD X.K H a xs)(h':bD X.K H a ys):xs=ys:=by
 obtain⟨aG,r,⟨o,e,_,n,d⟩,_⟩:=I.tuple h;obtain⟨its',r',⟨o',e',_,n',d'⟩,_⟩:=I.tuple h';rw[e] at e';cases e';rw[d] at d';injection d' with d1 _;have:aG=its':=by simpa using congrArg Array.toList d1
 subst this;exact r.inj r'
end
noncomputable abbrev Cx.kZ(X:Cx)(E:Value->Shared->Prop):Cx:={ X with xe:=E }
noncomputable abbrev Cx.pq(X:Cx):Cx:=X.kZ λ_ _=>False
theorem Cx.Ok.kZ{X:Cx}(ok:X.Ok)(E:Value->Shared->Prop):(X.kZ E).Ok :=
 ⟨ok.mod,ok.kind,ok.glob,ok.blt,ok.above,ok.inj,ok.has,ok.sH,ok.hd,ok.frames,ok.vj,ok.vm,ok.bs,ok.kg,ok.sI,ok.sJ,ok.jQ,ok.o_⟩
theorem Cx.Ok.pA{X:Cx}{E:Value->Shared->Prop}(ok:(X.kZ E).Ok):X.Ok :=
 ⟨ok.mod,ok.kind,ok.glob,ok.blt,ok.above,ok.inj,ok.has,ok.sH,ok.hd,ok.frames,ok.vj,ok.vm,ok.bs,ok.kg,ok.sI,ok.sJ,ok.jQ,ok.o_⟩
section
variable{X:Cx}{pins:List (Addr×Obj)}{σ:St}{H:Hp}{s:Shared}{E:Value->Shared->Prop}
theorem Inv.kZ(I:Inv X pins σ H s)(E:Value->Shared->Prop):Inv (X.kZ E) pins σ H s:=⟨I.ok.kZ E,I.os,I.bare,I.base,I.loc,I.cell,I.free,I.kh,I.pin,I.aO,I.len⟩
theorem Inv.pA(I:Inv (X.kZ E) pins σ H s):Inv X pins σ H s:=⟨I.ok.pA,I.os,I.bare,I.base,I.loc,I.cell,I.free,I.kh,I.pin,I.aO,I.len⟩
theorem SP.pA{D:Ends}{f:Flow}{s':Shared}(h:SP (X.kZ E) pins D f s'):SP X pins D f s':=by
 cases f with
 | next=>obtain⟨bG,H',I,q⟩:=h;exact⟨bG,H',I.pA,q⟩
 | brk=>obtain⟨bG,H',I,q⟩:=h;exact⟨bG,H',I.pA,q⟩
 | cont=>obtain⟨bG,H',I,q⟩:=h;exact⟨bG,H',I.pA,q⟩
 | ret u=>obtain⟨v,bG,H',I,r,q⟩:=h;exact⟨v,bG,H',I.pA,r,q⟩
theorem gT.pq{st:List Stmt}{t:TS}(h:gT X.pq st t):gT X st t:=λpins s σ H D I hw =>
 wpAny_mono (h pins s σ H D (I.kZ _) hw) (λ_ _ q=>q.pA) λ_ _ z=>False.elim z
end
section
variable{X:Cx}{st:Stmt}{rest:List Stmt}{t u:TS}{e:Expr}{te:TE}{pos:Pos}
noncomputable def Pe:TS:=λD σ H=>D.nx σ H
noncomputable def F_(t u:TS):TS:=λD σ H=>t { D with nx:=u D } σ H
theorem bT:gT X [] Pe:=λ_ _ σ H _ I h=>wpAny_execs_nil ⟨σ,H,I,h⟩
theorem aF(h1:PS X st t)(h2:gT X rest u):gT X (st::rest) (F_ t u):=by
 intro pins s σ H D I h;refine wpAny_execs_cons (aP (h1 pins s σ H { D with nx:=u D } I h) λf s1 q=>?_);cases f with
 | next =>
  obtain⟨bG,H',I',q⟩:=q;exact h2 pins s1 bG H' D I' q
 | ret v=>exact q
 | brk=>exact q
 | cont=>exact q
theorem aL(h1:PS X st t):gT X [st] t:=by
 intro pins s σ H D I h;refine wpAny_execs_cons (aP (h1 pins s σ H D I h) λf s1 q=>?_);cases f with
 | next=>exact wpAny_execs_nil q
 | ret v=>exact q
 | brk=>exact q
 | cont=>exact q
theorem Inv.quiet{pins:List (Addr×Obj)}{σ:St}{H:Hp}{s:Shared}(I:Inv X pins σ H s):interactive X.env=false:=by simp[interactive,I.ok.kind]
noncomputable def Pf(te:TE):TS:=λD σ H=>te σ H λ_ H1=>D.nx σ H1
theorem dh(he:PE X e te)(hs:swapsWith e none pos.line X.env=pure false:=by rfl):PS X (.Expr e pos) (Pf te):=by
 intro pins s σ H D I h;exact wpAny_Expr_any (aP (he pins s σ H _ I h) λv s1 ⟨x,H1,I1,r1,q1⟩=>⟨σ,H1,I1,q1⟩) I.quiet hs
noncomputable def Pg(te:TE):TS:=λD σ H=>te σ H D.rt
theorem bw(he:PE X e te):PS X (.Return (some e) pos) (Pg te):=by
 intro pins s σ H D I h;exact wpAny_Return_some (aP (he pins s σ H _ I h) λv s1 ⟨x,H1,I1,r1,q1⟩=>⟨x,σ,H1,I1,r1,q1⟩)
noncomputable def Ph(c:TT)(t u:TS):TS:=λD σ H=>c σ H λb H1=>if b=true then t D σ H1 else u D σ H1
theorem cF{c:Expr}{a b:List Stmt}{tc:TT}(hc:PT X c tc)(ha:gT X a t)(hb:gT X b u):PS X (.If c a b pos) (Ph tc t u):=by
 intro pins s σ H D I h;refine wpAny_If (aP (hc pins s σ H _ I h) λd s1 ⟨H1,I1,q1⟩=>?_);cases d with
 | true=>exact ha pins s1 σ H1 D I1 q1
 | false=>exact hb pins s1 σ H1 D I1 q1
noncomputable def Pj:TS:=λ_ _ _=>False
theorem gu{qE:List Stmt}:gT X qE Pj:=λ_ _ _ _ _ _ h=>h.elim
end
noncomputable abbrev TG:=V->St->Hp->(St->Hp->Prop)->Prop
noncomputable abbrev mG:=List V->St->Hp->(St->Hp->Prop)->Prop
noncomputable def PG(X:Cx)(target:Expr)(t:TG):Prop :=
 ∀(pins:List (Addr×Obj)) (s:Shared) (σ:St) (H:Hp) (v:V) (u:Value) (Q:St->Hp->Prop),Inv X pins σ H s->RelV v u->t v σ H Q->
  wpAny (model X.prog X.w) X.A (assign target X.env u) (λ_ s'=>∃bG H',Inv X pins bG H' s'/\Q bG H') X.xe s
noncomputable def sS(X:Cx)(ts:List Expr)(t:mG):Prop :=
 ∀(pins:List (Addr×Obj)) (s:Shared) (σ:St) (H:Hp) (vs:List V) (us:List Value) (Q:St->Hp->Prop),Inv X pins σ H s->Vals vs us->t vs σ H Q->
  wpAny (model X.prog X.w) X.A (assignInOrder ((assignEach ts X.env).map (·.2)) us) (λ_ s'=>∃bG H',Inv X pins bG H' s'/\Q bG H') X.xe s
noncomputable abbrev zA:=V->V->V->Hp->(Hp->Prop)->Prop
noncomputable def Pn(X:Cx)(t:zA):Prop :=
 ∀(pins:List (Addr×Obj)) (s:Shared) (σ:St) (H:Hp) (o i v:V) (ov iv u:Value) (Q:Hp->Prop),Inv X pins σ H s->RelV o ov->RelV i iv->RelV v u->t o i v H Q->
  wpAny (model X.prog X.w) X.A (setItem ov iv u) (λ_ s'=>∃H',Inv X pins σ H' s'/\Q H') X.xe s
section
variable{X:Cx}{pos:Pos}
noncomputable def nK(i:Nat):TG:=λv σ H Q=>Q (σ.set i (some v)) H
theorem bI{i:Nat}{x:Str}(hN:X.N.Nodup)(hi:X.N[i]? = some x)(hx:Loc X.env.scope x)(hf:X.fn x=true\/X.env.scope.names.lookup x=some .local:=by first | exact .inl rfl | exact .inr rfl | assumption):PG X (.Name x pos) (nK i):=by
 intro pins s σ H v u Q I r h;exact wpAny_assign_Name (O3 I hN hi hx r (λs' I'=>⟨_,H,I',h⟩) hf)
noncomputable def Ga:mG:=λvs σ H Q=>vs = []/\Q σ H
noncomputable def zB(t:TG)(u:mG):mG:=λvs σ H Q=>∃v r,vs=v::r/\t v σ H λbG H'=>u r bG H' Q
theorem jS:sS X [] Ga:=by
 intro pins s σ H vs us Q I r h;obtain⟨e,h⟩:=h;subst e;cases r;exact assignInOrder_nil ⟨σ,H,I,h⟩
theorem dH{e:Expr}{es:List Expr}{t:TG}{u:mG}(h1:PG X e t)(h2:sS X es u)
  (hs:(assignEach (e::es) X.env).map (·.2)=assign e X.env::(assignEach es X.env).map (·.2):=by rfl):sS X (e::es) (zB t u):=by
 intro pins s σ H vs us Q I r h;obtain⟨v,vr,e1,h⟩:=h;subst e1;cases r with
 | cons r rr =>
  rw[hs];refine assignInOrder_cons (aP (h1 pins s σ H _ _ _ I r h) λ_ s1 ⟨dU,H1,I1,q1⟩=>?_);exact h2 pins s1 dU H1 _ _ Q I1 rr q1
noncomputable def zC(K:PySem.W.Frag)(n:Nat)(t:mG):TG:=λv σ H Q=>∃a xs,v = .ref a/\bD K H a xs/\xs.length=n/\t xs σ H Q
theorem jT{es:List Expr}{k:Nat}{t:mG}{n:Nat}(hc:X.calm=true)(h:sS X es t)
  (hn:(assignEach es X.env).length=n:=by rfl) (cG:(assignEach es X.env).findIdx? (·.1)=none:=by rfl):PG X (.Tuple es k pos) (zC X.K n t):=by
 intro pins s σ H v u Q I r hw;obtain⟨a,xs,e1,hq,hl,hw⟩:=hw;subst e1;cases r;obtain⟨aG,rv,ht,hz⟩:=I.tuple hq;refine assign_Tuple_tuple (I.ok.hd hc) ht (by simp[hn,← hl,rv.length]) cG λh' hx=>?_
 have I1:Inv X pins σ H { s with heap:=h' }:=I.kept (t':=s.toks) λb o e=>hx b o (Nat.ne_of_lt (Heap.lt_size e)) e;exact h pins _ σ H xs _ Q I1 (by simpa using rv) hw
noncomputable def Po(to ti:TE)(t:zA):TG:=λv σ H Q=>to σ H λo H1=>ti σ H1 λi H2=>t o i v H2 λH3=>Q σ H3
theorem Pp{o i:Expr}{to ti:TE}{t:zA}(ho:PE X o to)(hi:PE X i ti)(hs:Pn X t)
  (ha:∀v,assign (.Subscript o i pos) X.env v=(do
   let ov ← holding [v] (eval o X.env)
   let iv ← holding [v,ov] (eval i X.env)
   standAt pos
   holding [v,ov,iv] (setItem ov iv v)
   release [v,ov,iv] []):=by intro _;rfl):PG X (.Subscript o i pos) (Po to ti t):=by
 intro pins s σ H v u Q I r h;rw[ha];refine wpAny_bind (wpAny_holding (aP (ho pins s σ H _ I h) λov s1 ⟨x,H1,I1,r1,q1⟩=>?_));refine wpAny_bind (wpAny_holding (aP (hi pins s1 σ H1 _ I1 q1) λiv s2 ⟨y,H2,I2,r2,q2⟩=>?_));refine wpAny_bind (wpAny_standAt (wpAny_bind (wpAny_holding (aP (hs pins s2 σ H2 x y v ov iv u _ I2 r1 r2 r q2) λ_ s3 ⟨H3,I3,q3⟩=>?_))));exact wpAny_release ⟨σ,H3,I3,q3⟩
noncomputable def vv(te:TE)(g:TG):TS:=λD σ H=>te σ H λx H1=>g x σ H1 D.nx
theorem Pq{tg e:Expr}{te:TE}{g:TG}(he:PE X e te)(hg:PG X tg g)(hs:swapsWithSole [tg] e pos.line X.env=pure false:=by rfl)(hw:swappedStores [tg] e X.env=pure none:=by rfl)
  (h1:(assignEach [tg] X.env).map (·.2) = [assign tg X.env]:=by rfl):PS X (.Assign [tg] e pos) (vv te g):=by
 intro pins s σ H D I h;refine wpAny_Assign_stores (aP (he pins s σ H _ I h) λv s1 ⟨x,H1,I1,r1,q1⟩=>?_) hs hw;rw[h1];exact aP (hg pins s1 σ H1 x v _ I1 r1 q1) λ_ s2 q=>q
theorem bF{i:Nat}{x:Str}{e:Expr}{te:TE}{pos':Pos}(hN:X.N.Nodup)(hi:X.N[i]? = some x)(hx:Loc X.env.scope x)(he:PE X e te)(hs:swapsWith e (some (.Name x pos')) pos.line X.env=pure false:=by rfl)(hf:X.fn x=true\/X.env.scope.names.lookup x=some .local:=by first | exact .inl rfl | exact .inr rfl | assumption) :
  PS X (.Assign [.Name x pos'] e pos) (vv te (nK i)):=by
 intro pins s σ H D I h;refine wpAny_Assign_Name (aP (he pins s σ H _ I h) λv s1 ⟨y,H1,I1,r1,q1⟩=>?_) hs;exact O3 I1 hN hi hx r1 (λs2 I2=>⟨_,H1,I2,q1⟩) hf
end
section
variable{X:Cx}{pos:Pos}
noncomputable def Gb(c:TT)(tb:TS):TS:=λD σ H=>∃W:Nat->St->Hp->Prop,(∃m,W m σ H)/\∀m σ H,W m σ H->
 c σ H λb H1=>if b=true then ∃N:St->Hp->Prop,(∀bG H',N bG H'->∃m',m' < m/\W m' bG H')/\tb { D with nx:=N,ct:=N,bk:=D.nx } σ H1 else D.nx σ H1
theorem aaV{c:Expr}{body:List Stmt}{tc:TT}{tb:TS}(hp:PassesOwn (model X.prog X.w) X.A X.env X.xe)(hc:PT X c tc)(hb:gT X body tb):PS X (.While c body [] pos) (Gb tc tb):=by
 intro pins s σ H D I h;obtain⟨W,⟨m0,w0⟩,turn⟩:=h;refine wpAny_While (codeAny_whileLoop (λn s'=>∃bG H',Inv X pins bG H' s'/\W n bG H') ?_ m0 ⟨σ,H,I,w0⟩);rintro n s1 ⟨dU,H1,I1,w1⟩;refine wpAny_passesOwn hp (aP (hc pins s1 dU H1 _ I1 (turn n dU H1 w1)) λb s2 ⟨H2,I2,q2⟩=>?_);cases b with
 | true =>
  obtain⟨N,hN,q2⟩:=q2;rw[if_pos rfl];refine wpAny_passesOwn hp (aP (hb pins s2 dU H2 _ I2 q2) λf s3 q3=>?_);cases f with
  | next =>
   obtain⟨iK,H3,I3,n3⟩:=q3;obtain⟨m',hm,w3⟩:=hN iK H3 n3;exact⟨m',hm,iK,H3,I3,w3⟩
  | cont =>
   obtain⟨iK,H3,I3,n3⟩:=q3;obtain⟨m',hm,w3⟩:=hN iK H3 n3;exact⟨m',hm,iK,H3,I3,w3⟩
  | brk=>exact q3
  | ret v=>exact q3
 | false =>
  rw[if_neg Bool.false_ne_true];exact wpAny_execs_nil ⟨dU,H2,I2,q2⟩
end
structure It where
 go:Nat->Hp->Prop
 nN:Nat->Hp->V->Hp->Prop
 stop:Nat->Hp->Prop
noncomputable def mH(X:Cx)(pins:List (Addr×Obj))(H:Hp)(b:Addr):Prop :=
 H b=none/\b≠X.env.locals/\b∉X.fs/\(b∈X.ex\/X.dG.heap.objs.size<=b)/\(∀x c,X.env.cells.lookup x=some c->c≠b)/\∀p∈X.pn++pins,p.1≠b
theorem Inv.nO{X:Cx}{pins:List (Addr×Obj)}{σ:St}{H H':Hp}{s:Shared}{b:Addr}(I:Inv X pins σ H s)(hb:s.heap.objs.size<=b)(hn:H' b=none):mH X pins H' b:=by
 refine⟨hn,Nat.ne_of_gt (Nat.lt_of_lt_of_le I.lt hb),I.vn hb,.inr (Nat.le_trans I.sz hb),λx c e z=>?_,λp hp z=>?_⟩
 ·obtain⟨v,q⟩:=I.cell x c e;exact absurd (Nat.lt_of_lt_of_le q.lt (by rw[z];exact hb)) (Nat.lt_irrefl _)
 ·exact absurd (Nat.lt_of_lt_of_le (Heap.lt_size (I.pin p hp).1) (by rw[z];exact hb)) (Nat.lt_irrefl _)
structure Turn(P:Program)(w:World)(K:PySem.W.Frag)(tg:Expr)(J:It)(fp:List Addr)(it:Addr)(tn:Nat->Heap->Prop):Prop where
 mem:it∈fp
 obj:∀i h,tn i h->∀b∈fp,∃o,h.get? b=some o/\∀v,o.data≠.cell v
 keep:∀i h h',tn i h->(∀b∈fp,∀o,h.get? b=some o->h'.get? b=some o)->tn i h'
 item:∀(X:Cx),X.prog=P->X.w=w->X.K=K->X.calm=true->∀(i:Nat) (pins:List (Addr×Obj)) (s:Shared) (σ:St) (H:Hp) (E:Value->Shared->Prop),Inv X pins σ H s->(∀b∈fp,mH X pins H b)->tn i s.heap->J.go i H->
  wpAny (model P w) X.A (pyNext (.ref it)) (λr s1=>∃u,r=some u/\
   wpAny (model P w) X.A (letOwnedTupleGo tg (.ref it) u) (λ_ s2=>∃x H',Inv X pins σ H' s2/\RelV x u/\J.nN i H x H'/\tn (i+1) s2.heap/\∀b∈fp,H' b=none) E s1) E s
 done:∀(X:Cx),X.prog=P->X.w=w->X.K=K->X.calm=true->∀(i:Nat) (pins:List (Addr×Obj)) (s:Shared) (σ:St) (H:Hp) (E:Value->Shared->Prop),Inv X pins σ H s->(∀b∈fp,mH X pins H b)->tn i s.heap->J.stop i H->
  wpAny (model P w) X.A (pyNext (.ref it)) (λr s1=>r=none/\Inv X pins σ H s1) E s
 self:∀(A:Around) (i:Nat) (s:Shared) (Q:Value->Shared->Prop) (E:Value->Shared->Prop),tn i s.heap->Q (.ref it) s->wpAny (model P w) A (pyIter (.ref it)) Q E s
noncomputable abbrev TI:=St->Hp->(It->Hp->Prop)->Prop
noncomputable def Pr(X:Cx)(pins:List (Addr×Obj))(σ:St)(tg:Expr)(R:It->Hp->Prop)(zD:Value)(s2:Shared):Prop :=
 ∃(it:Addr) (fp:List Addr) (tn:Nat->Heap->Prop) (J:It) (H':Hp),zD = .ref it/\Inv X pins σ H' s2/\Turn X.prog X.w X.K tg J fp it tn/\tn 0 s2.heap/\(∀b∈fp,mH X pins H' b)/\R J H'
noncomputable def PI(X:Cx)(tg iter:Expr)(wi:TI):Prop :=
 ∀(pins:List (Addr×Obj)) (s:Shared) (σ:St) (H:Hp) (R:It->Hp->Prop),Inv X pins σ H s->wi σ H R->
  wpAny (model X.prog X.w) X.A (eval iter X.env) (λv s1=>wpAny (model X.prog X.w) X.A (pyIter v) (Pr X pins σ tg R) X.xe s1) X.xe s
theorem vA{M:Model}{A:Around}{E:Value->Shared->Prop}{s:Shared}{tg:Expr}{it:Addr}{u:Value}{o:Obj}{n:String}{vs:Array Value}{Q:Unit->Shared->Prop}(ho:s.heap.get? it=some o)(hc:o.cls = .type n)(hd:o.data = .fields vs)
  (hn:["enumerate", "zip", "dict_itemiterator", "dict_reverseitemiterator", "odict_iterator", "itertools.zip_longest", "itertools.pairwise"].contains n=false) (hQ:Q () s):wpAny M A (letOwnedTupleGo tg (.ref it) u) Q E s:=by
 unfold letOwnedTupleGo;cases tg <;> first
  | exact wpAny_pure hQ
  | (cases u <;> first
    | exact wpAny_pure hQ
    | (refine wpAny_bind (wpAny_load ho ?_)
       rw[hc,hd]
       show wpAny M A (if (["enumerate", "zip", "dict_itemiterator", "dict_reverseitemiterator", "odict_iterator", "itertools.zip_longest", "itertools.pairwise"].contains n && vs[0]? == some (rawInt _))=true then _ else _) Q E s
       rw[if_neg (by intro h;rw[hn,Bool.false_and] at h;cases h)]
       exact wpAny_pure hQ))
noncomputable def vB(K:PySem.W.Frag)(a:Addr):It :=
 ⟨λi H=>∃xs x,aE K H a xs/\xs[i]? = some x,λi H x H'=>H' = H/\∀xs,aE K H a xs->xs[i]? = some x,λi H=>∃xs,aE K H a xs/\xs.length<=i⟩
noncomputable def vC(K:PySem.W.Frag)(a:Addr):It :=
 ⟨λi H=>∃xs x,bD K H a xs/\xs[i]? = some x,λi H x H'=>H' = H/\∀xs,bD K H a xs->xs[i]? = some x,λi H=>∃xs,bD K H a xs/\xs.length<=i⟩
noncomputable def qF(lo:Int)(n:Nat):It:=⟨λi _=>i<n,λi H x H'=>H' = H/\x = .int (lo+i),λi _=>n<=i⟩
theorem aaW{P:Program}{w:World}{K:PySem.W.Frag}{tg:Expr}(a it:Addr):Turn P w K tg (vB K a) [it] it (λi h=>h.IsListIter it a i) where
 mem:=by simp
 obj:=λi h st b hb=>by
  have e:b=it:=by simpa using hb
  subst e;obtain⟨o,e,c,d⟩:=st;exact⟨o,e,λv z=>by rw[d] at z;cases z⟩
 keep:=λi h h' st k=>st.at λo e=>k it (by simp) o e
 item:=by
  intro X hP hw hK hc i pins s σ H E I hf st hg;subst hP hw hK;obtain⟨xs,x,hq,hx⟩:=hg;obtain⟨aG,rv,p,hz⟩:=I.list hq;obtain⟨u,hu,ru⟩:=rv.get hx;obtain⟨f0,f1,f2,f3,f4,f5⟩:=hf it (by simp)
  refine wpAny_pyNext_list_item st p.isList (x:=u) (by simpa using hu) λh' bJ sb=>?_
  have I1:Inv X pins σ H { s with heap:=h' }:=I.turned (t':=s.toks) (λb o hb e=>(sb.2 b hb).trans e) f0 f1 f3 f4 f5;obtain⟨o,e,c,d⟩:=id bJ;exact⟨u,rfl,vA (s:={ s with heap:=h' }) e c d (by decide) ⟨x,H,I1,ru,⟨rfl,λys hy=>by rw[I.Pd hy hq];exact hx⟩,bJ,λb hb=>(hf b hb).1⟩⟩
 done:=by
  intro X hP hw hK hc i pins s σ H E I hf st hg;subst hP hw hK;obtain⟨xs,hq,hx⟩:=hg;obtain⟨aG,rv,p,hz⟩:=I.list hq;obtain⟨f0,f1,f2,f3,f4,f5⟩:=hf it (by simp)
  have hl:=rv.length;exact wpAny_pyNext_list_end (I.ok.hd hc) st p.isList (by simp;lia) λh' eb=>⟨rfl,I.turned (t':=s.toks) (λb o hb e=>eb b o hb e) f0 f1 f3 f4 f5⟩
 self:=λ_ _ _ _ _ st h=>wpAny_pyIter_listiter st h
theorem aaX{P:Program}{w:World}{K:PySem.W.Frag}{tg:Expr}(a it:Addr):Turn P w K tg (vC K a) [it] it (λi h=>h.IsTupleIter it a i) where
 mem:=by simp
 obj:=λi h st b hb=>by
  have e:b=it:=by simpa using hb
  subst e;obtain⟨o,e,c,d⟩:=st;exact⟨o,e,λv z=>by rw[d] at z;cases z⟩
 keep:=λi h h' st k=>st.at λo e=>k it (by simp) o e
 item:=by
  intro X hP hw hK hc i pins s σ H E I hf st hg;subst hP hw hK;obtain⟨xs,x,hq,hx⟩:=hg;obtain⟨aG,rv,p,hz⟩:=I.tuple hq;obtain⟨u,hu,ru⟩:=rv.get hx;obtain⟨f0,f1,f2,f3,f4,f5⟩:=hf it (by simp)
  refine wpAny_pyNext_tuple_item st (show s.heap.IsTuple a aG.toArray from p) (x:=u) (by simpa using hu) λh' bJ sb=>?_
  have I1:Inv X pins σ H { s with heap:=h' }:=I.turned (t':=s.toks) (λb o hb e=>(sb.2 b hb).trans e) f0 f1 f3 f4 f5;obtain⟨o,e,c,d⟩:=id bJ;exact⟨u,rfl,vA (s:={ s with heap:=h' }) e c d (by decide) ⟨x,H,I1,ru,⟨rfl,λys hy=>by rw[I.aaU hy hq];exact hx⟩,bJ,λb hb=>(hf b hb).1⟩⟩
 done:=by
  intro X hP hw hK hc i pins s σ H E I hf st hg;subst hP hw hK;obtain⟨xs,hq,hx⟩:=hg;obtain⟨aG,rv,p,hz⟩:=I.tuple hq;obtain⟨f0,f1,f2,f3,f4,f5⟩:=hf it (by simp)
  have hl:=rv.length;exact wpAny_pyNext_tuple_end (I.ok.hd hc) st (show s.heap.IsTuple a aG.toArray from p) (by simp;lia) λh' eb=>⟨rfl,I.turned (t':=s.toks) (λb o hb e=>eb b o hb e) f0 f1 f3 f4 f5⟩
 self:=λ_ _ _ _ _ st h=>wpAny_pyIter_tupleiter st h
theorem aaY{P:Program}{w:World}{K:PySem.W.Frag}{tg:Expr}(it:Addr)(lo:Int)(n:Nat):Turn P w K tg (qF lo n) [it] it (λi h=>IsRangeIter h it (lo+(i:Nat)*1) ((n:Int) - (i:Nat)) 1) where
 mem:=by simp
 obj:=λi h st b hb=>by
  have e:b=it:=by simpa using hb
  subst e;exact⟨_,st,λv z=>by
   have z':Data.fields _=Data.cell v:=z;cases z'⟩
 keep:=λi h h' st k=>k it (by simp) _ st
 item:=by
  intro X hP hw hK hc i pins s σ H E I hf st hg;subst hP hw hK;obtain⟨f0,f1,f2,f3,f4,f5⟩:=hf it (by simp)
  have W:=Walks.range (prog:=X.prog) (w:=X.w) (I.ok.hd hc) it lo 1 n;refine W.item i s _ _ hg st λv h' tk hv bJ kk=>?_;obtain⟨t,rfl⟩:=hv;have I1:Inv X pins σ H { s with heap:=h',toks:=tk }:=I.turned (λb o hb e=>kk b o (by simpa using hb) e) f0 f1 f3 f4 f5
  refine⟨_,rfl,vA (s:={ s with heap:=h',toks:=tk }) (n := "range_iterator") bJ rfl rfl (by decide) ⟨.int (lo+i),H,I1,⟨t,?_⟩,⟨rfl,rfl⟩,bJ,λb hb=>(hf b hb).1⟩⟩
  rw[Int.mul_one]
 done:=by
  intro X hP hw hK hc i pins s σ H E I hf st hg;subst hP hw hK;obtain⟨f0,f1,f2,f3,f4,f5⟩:=hf it (by simp)
  exact wpAny_pyNext_range_end (I.ok.hd hc) st (by have:n<=i:=hg;lia) λh' eb=>⟨rfl,I.turned (t':=s.toks) (λb o hb e=>eb b o hb e) f0 f1 f3 f4 f5⟩
 self:=λ_ _ _ _ _ st h=>wpAny_pyIter_rangeiter st h
section
variable{X:Cx}{tg:Expr}
noncomputable def k9(K:PySem.W.Frag)(tl:TE):TI:=λσ H R=>tl σ H λx H1=>∃a,x = .ref a/\(∃xs,aE K H1 a xs)/\R (vB K a) H1
noncomputable def Gd(K:PySem.W.Frag)(tl:TE):TI:=λσ H R=>tl σ H λx H1=>∃a,x = .ref a/\(∃xs,bD K H1 a xs)/\R (vC K a) H1
theorem e9{l:Expr}{tl:TE}(hl:PE X l tl):PI X tg l (k9 X.K tl):=by
 intro pins s σ H R I h;refine aP (hl pins s σ H _ I h) λv s1 ⟨x,H1,I1,r1,q1⟩=>?_;obtain⟨a,e,⟨xs,hq⟩,q⟩:=q1;subst e;cases r1;obtain⟨aG,rv,p,hz⟩:=I1.list hq;refine wpAny_pyIter_list p.isList ?_;refine⟨s1.heap.objs.size,[s1.heap.objs.size],_,_,H1,rfl,I1.kept (t':=s1.toks) λb o e=>Heap.get?_push_of_some _ e,aaW a _,⟨_,Heap.get?_push_size _ rfl,rfl,rfl⟩,λb hb=>?_,q⟩;have e:b=s1.heap.objs.size:=by simpa using hb
 subst e;exact I1.nO (Nat.le_refl _) (I1.aO.fresh (Nat.le_refl _))
theorem Ge{l:Expr}{tl:TE}(hl:PE X l tl):PI X tg l (Gd X.K tl):=by
 intro pins s σ H R I h;refine aP (hl pins s σ H _ I h) λv s1 ⟨x,H1,I1,r1,q1⟩=>?_;obtain⟨a,e,⟨xs,hq⟩,q⟩:=q1;subst e;cases r1;obtain⟨aG,rv,p,hz⟩:=I1.tuple hq;refine wpAny_pyIter_tuple (show s1.heap.IsTuple a aG.toArray from p) ?_;refine⟨s1.heap.objs.size,[s1.heap.objs.size],_,_,H1,rfl,I1.kept (t':=s1.toks) λb o e=>Heap.get?_push_of_some _ e,aaX a _,⟨_,Heap.get?_push_size _ rfl,rfl,rfl⟩,λb hb=>?_,q⟩;have e:b=s1.heap.objs.size:=by simpa using hb
 subst e;exact I1.nO (Nat.le_refl _) (I1.aO.fresh (Nat.le_refl _))
theorem Pu{pins:List (Addr×Obj)}{σ:St}{H:Hp}{s:Shared}{R:It->Hp->Prop}{E:Value->Shared->Prop}{lo hi:Int}{t u v:Tok}{tk:Nat}(I:Inv X pins σ H s)(h1 : -(2 ^ 62)<=lo)(h2:lo<2 ^ 62)(h3 : -(2 ^ 62)<=hi)(h4:hi<2 ^ 62)
  (q:R (qF lo (hi - lo).toNat) H):wpAny (model X.prog X.w) X.A (pyIter (.ref s.heap.objs.size)) (Pr X pins σ tg R) E { s with heap:=s.heap.push { cls:=.type "range",data:=.fields #[.int lo t,.int hi u,.int 1 v] },toks:=tk }:=by
 refine wpAny_pyIter_range (IsRange.new ..) (small_one h1 h2 h3 h4) ?_;have I1:Inv X pins σ H { s with heap:=s.heap.push { cls:=.type "range",data:=.fields #[.int lo t,.int hi u,.int 1 v] },toks:=tk }:=I.kept λb o e=>Heap.get?_push_of_some _ e;refine⟨(s.heap.push { cls:=.type "range",data:=.fields #[.int lo t,.int hi u,.int 1 v] }).objs.size,[(s.heap.push { cls:=.type "range",data:=.fields #[.int lo t,.int hi u,.int 1 v] }).objs.size],_,_,H,rfl,
  I1.kept (t':=tk) λb o e=>Heap.get?_push_of_some _ e,aaY _ lo (hi - lo).toNat,?_,λb hb=>?_,q⟩
 ·have e1:lo+((0:Nat):Int)*1=lo:=by simp
  have e2:(((hi - lo).toNat:Nat):Int) - ((0:Nat):Int)=Builtin.Range.rangeSize lo hi 1:=by rw[rangeSize_one];split <;> lia
  show IsRangeIter _ _ (lo+((0:Nat):Int)*1) ((((hi - lo).toNat:Nat):Int) - ((0:Nat):Int)) 1;rw[e1,e2];exact Heap.get?_push_size _ rfl
 ·have e:b=(s.heap.push { cls:=.type "range",data:=.fields #[.int lo t,.int hi u,.int 1 v] }).objs.size:=by simpa using hb
  subst e;exact I1.nO (Nat.le_refl _) (I1.aO.fresh (Nat.le_refl _))
noncomputable def vD(ta:TA):TI:=λσ H R=>ta σ H λvs H1=>∃j:Int,vs = [.int j]/\-(2 ^ 62)<=j/\j<2 ^ 62/\R (qF 0 j.toNat) H1
noncomputable def vE(ta:TA):TI:=λσ H R=>ta σ H λvs H1=>∃i j:Int,vs = [.int i,.int j]/\(-(2 ^ 62)<=i/\i<2 ^ 62/\-(2 ^ 62)<=j/\j<2 ^ 62)/\R (qF i (j - i).toNat) H1
theorem sU{a:Expr}{ta:TA}{p pos:Pos}(hg:Gl X "range")(hm:X.mg "range" = none)(ha:PA X [a] ta)(hs:starEach [a] X.env = [(false,eval a X.env)]:=by rfl):PI X tg (.Call (.Name "range" p) [a] [] pos) (vD ta):=by
 intro pins s σ H R I h;refine Call_ (kX I hg hm boot_range (PyProof.Rows.callWith_type1 (aP (ha pos pins s σ H _ I h) λus s1 ⟨vs,H1,I1,r1,q1⟩=>?_) hs rfl));obtain⟨j,e,q1,q2,q⟩:=q1;subst e;cases r1 with
 | cons r rr =>
  cases rr;obtain⟨t,rfl⟩:=r;exact call_range_1 (Pu I1 (by lia) (by lia) q1 q2 (by simpa using q))
theorem pB{a b:Expr}{ta:TA}{p pos:Pos}(hg:Gl X "range")(hm:X.mg "range" = none)(ha:PA X [a,b] ta)(hs:starEach [a,b] X.env = [(false,eval a X.env),(false,eval b X.env)]:=by rfl)(iL:starEach [b] X.env = [(false,eval b X.env)]:=by rfl) :
  PI X tg (.Call (.Name "range" p) [a,b] [] pos) (vE ta):=by
 intro pins s σ H R I h;refine Call_ (kX I hg hm boot_range (PyProof.Rows.callWith_type1 (aP (ha pos pins s σ H _ I h) λus s1 ⟨vs,H1,I1,r1,q1⟩=>?_) (by rw[hs,iL]) (by rw[iL];rfl)))
 obtain⟨i,j,e,⟨q1,q2,q3,q4⟩,q⟩:=q1;subst e;cases r1 with
 | cons r rr =>
  cases rr with
  | cons r' rr =>
   cases rr;obtain⟨t,rfl⟩:=r;obtain⟨t',rfl⟩:=r';exact call_range_2 (Pu I1 q1 q2 q3 q4 q)
noncomputable def jU(wi:TI)(g:TG)(tb:TS):TS:=λD σ H=>wi σ H λJ H1=>∃W:Nat->Nat->St->Hp->Prop,(∃m,W 0 m σ H1)/\∀i m σ H,W i m σ H->
 (J.stop i H/\D.nx σ H)\/(J.go i H/\∃N:St->Hp->Prop,(∀bG H',N bG H'->∃m',m' < m/\W (i+1) m' bG H')/\∀x H',J.nN i H x H'->g x σ H' λaz H2=>tb { D with nx:=N,ct:=N,bk:=D.nx } az H2)
noncomputable def vF(fp:List Addr)(h:Heap):List (Addr×Obj):=fp.filterMap λb=>(h.get? b).map λo=>(b,o)
theorem zE{fp:List Addr}{h:Heap}{b:Addr}{o:Obj}(hb:b∈fp)(e:h.get? b=some o):(b,o)∈vF fp h:=List.mem_filterMap.mpr ⟨b,hb,by rw[e];rfl⟩
theorem aaZ{fp:List Addr}{h:Heap}{p:Addr×Obj}(hp:p∈vF fp h):p.1∈fp/\h.get? p.1=some p.2:=by
 obtain⟨b,hb,e⟩:=List.mem_filterMap.mp hp;cases q:h.get? b with
 | none=>rw[q] at e;cases e
 | some o =>
  rw[q] at e;have e':(b,o)=p:=Option.some.inj e;subst e';exact⟨hb,q⟩
theorem Inv.pinned{pins:List (Addr×Obj)}{σ:St}{H:Hp}{s:Shared}{fp:List Addr}(I:Inv X pins σ H s)(hf:∀b∈fp,mH X pins H b)(ho:∀b∈fp,∃o,s.heap.get? b=some o/\∀v,o.data≠.cell v):Inv X (pins++vF fp s.heap) σ H s :=
 I.mF λp hp=>(List.mem_append.mp hp).elim (λz=>I.pin p (List.mem_append_right _ z)) λz=>by
  obtain⟨hb,e⟩:=aaZ z;obtain⟨f0,f1,f2,_⟩:=hf p.1 hb;obtain⟨o,e',d⟩:=ho p.1 hb;rw[e] at e';cases e';exact⟨e,f0,f1,f2,d⟩
theorem Inv.vG{pins pl:List (Addr×Obj)}{σ:St}{H:Hp}{s:Shared}(I:Inv X (pins++pl) σ H s):Inv X pins σ H s:=I.mF λp hp=>I.pin p (List.mem_append_right _ (List.mem_append_left _ hp))
theorem eV{iter:Expr}{body:List Stmt}{wi:TI}{g:TG}{tb:TS}{pos:Pos}(hp:PassesOwn (model X.prog X.w) X.A X.env X.xe)(hc:X.calm=true)(hi:PI X tg iter wi)(hg:PG X tg g)(hb:gT X body tb)
  (hs:∀x,foldedSetIterable iter X.env x=pure x:=by intro _;rfl):PS X (.For tg iter body [] pos) (jU wi g tb):=by
 intro pins s σ H D I h;refine wpAny_For (aP (hi pins s σ H _ I h) λv s1 h1=>aP h1 λzD s2 h2=>?_) hs;obtain⟨it,fp,tn,J,H2,e,I2,T,fX,f2,W,⟨m0,w0⟩,turn⟩:=h2;subst e
 -- what stays true of the iterator's objects through the loop
 have qG:∀ {H':Hp},(∀b∈fp,H' b=none)->∀b∈fp,mH X pins H' b:=λhn b hb=>⟨hn b hb,(f2 b hb).2⟩;refine codeAny_forLoop_any (λn s'=>∃i bG H',Inv X pins bG H' s'/\tn i s'.heap/\(∀b∈fp,H' b=none)/\W i n bG H') ?_ m0 ⟨0,σ,H2,I2,fX,λb hb=>(f2 b hb).1,w0⟩;rintro n s3 ⟨i,iK,H3,I3,vH,qH,w3⟩;rcases turn i n iK H3 w3 with⟨stop,qn⟩ | ⟨go,N,hN,step⟩
 ·refine wpAny_passesOwn hp (aP (T.done X rfl rfl rfl hc i pins s3 iK H3 X.xe I3 (qG qH) vH stop) λr s4 ⟨hr,I4⟩=>?_);subst hr;exact wpAny_execs_nil ⟨iK,H3,I4,qn⟩
 ·refine wpAny_passesOwn hp (aP (T.item X rfl rfl rfl hc i pins s3 iK H3 X.xe I3 (qG qH) vH go) λr s4 ⟨u,hr,h4⟩=>?_);subst hr;refine wpAny_passesOwn hp (aP h4 λ_ s5 ⟨x,H5,I5,r5,y5,qI,Gf⟩=>?_);have Gg:=I5.pinned (qG Gf) (T.obj _ _ qI);refine wpAny_passesOwn hp (aP (hg _ s5 iK H5 x u _ Gg r5 (step x H5 y5)) λ_ s6 ⟨pC,H6,I6,q6⟩=>?_);refine wpAny_passesOwn hp (aP (hb _ s6 pC H6 _ I6 q6) λf s7 q7=>?_);have again:∀ {jA:St} {H7:Hp},Inv X (pins++vF fp s5.heap) jA H7 s7->N jA H7->∃m,m<n/\∃i bG H',Inv X pins bG H' s7/\tn i s7.heap/\(∀b∈fp,H' b=none)/\W i m bG H':=λ{jA H7} I7 n7=>by
   obtain⟨m',hm,w7⟩:=hN jA H7 n7;refine⟨m',hm,i+1,jA,H7,I7.vG,T.keep _ _ _ qI λb hb o e=>(I7.pin (b,o) (List.mem_append_right _ (List.mem_append_right _ (zE hb e)))).1,λb hb=>?_,w7⟩;obtain⟨o,e,d⟩:=T.obj _ _ qI b hb;exact(I7.pin (b,o) (List.mem_append_right _ (List.mem_append_right _ (zE hb e)))).2.1
  cases f with
  | next=>obtain⟨jA,H7,I7,n7⟩:=q7;exact again I7 n7
  | cont=>obtain⟨jA,H7,I7,n7⟩:=q7;exact again I7 n7
  | brk=>obtain⟨jA,H7,I7,q7⟩:=q7;exact⟨jA,H7,I7.vG,q7⟩
  | ret v=>obtain⟨x7,jA,H7,I7,r7,q7⟩:=q7;exact⟨x7,jA,H7,I7.vG,r7,q7⟩
end
theorem aa0{K:PySem.W.Frag}{a:Addr}{xs:List V}{g:TG}{tb:TS}{D:Ends}{σ:St}{H:Hp}(Pv:Nat->St->Hp->Prop)(h0:Pv 0 σ H)(hl:∀i σ H,i<=xs.length->Pv i σ H->aE K H a xs)
  (hs:∀i x σ H,xs[i]? = some x->Pv i σ H->g x σ H λaz H2=>tb { D with nx:=Pv (i+1),ct:=Pv (i+1),bk:=D.nx } az H2) (hd:∀σ H,Pv xs.length σ H->D.nx σ H) :
  ∃W:Nat->Nat->St->Hp->Prop,(∃m,W 0 m σ H)/\∀i m σ H,W i m σ H->
   ((vB K a).stop i H/\D.nx σ H)\/((vB K a).go i H/\∃N:St->Hp->Prop,(∀bG H',N bG H'->∃m',m' < m/\W (i+1) m' bG H')/\∀x H',(vB K a).nN i H x H'->g x σ H' λaz H2=>tb { D with nx:=N,ct:=N,bk:=D.nx } az H2):=by
 refine⟨λi m σ H=>m=xs.length - i/\i<=xs.length/\Pv i σ H,⟨xs.length,by simp,Nat.zero_le _,h0⟩,?_⟩
 rintro i m σ H ⟨rfl,hi,p⟩;have q:=hl i σ H hi p;by_cases bW:i<xs.length
 ·refine .inr ⟨⟨xs,xs[i],q,by simp[bW]⟩,Pv (i+1),λbG H' p'=>⟨xs.length - (i+1),by lia,rfl,bW,p'⟩,λx H' y=>?_⟩
  obtain⟨e,y⟩:=y;subst e;exact hs i x σ _ (y xs q) p
 ·have e:i=xs.length:=by lia
  subst e;exact .inl ⟨⟨xs,q,Nat.le_refl _⟩,hd σ H p⟩
theorem aa1{K:PySem.W.Frag}{a:Addr}{xs:List V}{g:TG}{tb:TS}{D:Ends}{σ:St}{H:Hp}(Pv:Nat->St->Hp->Prop)(h0:Pv 0 σ H)(hl:∀i σ H,i<=xs.length->Pv i σ H->bD K H a xs)
  (hs:∀i x σ H,xs[i]? = some x->Pv i σ H->g x σ H λaz H2=>tb { D with nx:=Pv (i+1),ct:=Pv (i+1),bk:=D.nx } az H2) (hd:∀σ H,Pv xs.length σ H->D.nx σ H) :
  ∃W:Nat->Nat->St->Hp->Prop,(∃m,W 0 m σ H)/\∀i m σ H,W i m σ H->
   ((vC K a).stop i H/\D.nx σ H)\/((vC K a).go i H/\∃N:St->Hp->Prop,(∀bG H',N bG H'->∃m',m' < m/\W (i+1) m' bG H')/\∀x H',(vC K a).nN i H x H'->g x σ H' λaz H2=>tb { D with nx:=N,ct:=N,bk:=D.nx } az H2):=by
 refine⟨λi m σ H=>m=xs.length - i/\i<=xs.length/\Pv i σ H,⟨xs.length,by simp,Nat.zero_le _,h0⟩,?_⟩
 rintro i m σ H ⟨rfl,hi,p⟩;have q:=hl i σ H hi p;by_cases bW:i<xs.length
 ·refine .inr ⟨⟨xs,xs[i],q,by simp[bW]⟩,Pv (i+1),λbG H' p'=>⟨xs.length - (i+1),by lia,rfl,bW,p'⟩,λx H' y=>?_⟩
  obtain⟨e,y⟩:=y;subst e;exact hs i x σ _ (y xs q) p
 ·have e:i=xs.length:=by lia
  subst e;exact .inl ⟨⟨xs,q,Nat.le_refl _⟩,hd σ H p⟩
theorem Gh{lo:Int}{n:Nat}{g:TG}{tb:TS}{D:Ends}{σ:St}{H:Hp}(Pv:Nat->St->Hp->Prop)(h0:Pv 0 σ H)
  (hs:∀i σ H,i<n->Pv i σ H->g (.int (lo+i)) σ H λaz H2=>tb { D with nx:=Pv (i+1),ct:=Pv (i+1),bk:=D.nx } az H2) (hd:∀σ H,Pv n σ H->D.nx σ H) :
  ∃W:Nat->Nat->St->Hp->Prop,(∃m,W 0 m σ H)/\∀i m σ H,W i m σ H->
   ((qF lo n).stop i H/\D.nx σ H)\/((qF lo n).go i H/\∃N:St->Hp->Prop,(∀bG H',N bG H'->∃m',m' < m/\W (i+1) m' bG H')/\∀x H',(qF lo n).nN i H x H'->g x σ H' λaz H2=>tb { D with nx:=N,ct:=N,bk:=D.nx } az H2):=by
 refine⟨λi m σ H=>m=n - i/\i<=n/\Pv i σ H,⟨n,by simp,Nat.zero_le _,h0⟩,?_⟩
 rintro i m σ H ⟨rfl,hi,p⟩;by_cases bW:i<n
 ·refine .inr ⟨bW,Pv (i+1),λbG H' p'=>⟨n - (i+1),by lia,rfl,bW,p'⟩,λx H' y=>?_⟩
  obtain⟨e,y⟩:=y;subst e y;exact hs i σ _ bW p
 ·have e:i=n:=by lia
  subst e;exact .inl ⟨Nat.le_refl _,hd σ H p⟩
noncomputable abbrev R2:=V->V->Hp->VK->Prop
noncomputable def cV(X:Cx)(f:Value->Value->Sem Value)(r:R2):Prop :=
 ∀(pins:List (Addr×Obj)) (s:Shared) (σ:St) (H:Hp) (x y:V) (v u:Value) (Q:VK),Inv X pins σ H s->RelV x v->RelV y u->r x y H Q->
  wpAny (model X.prog X.w) X.A (f v u) (EP X pins σ Q) X.xe s
noncomputable def Gi(X:Cx)(f:Value->Sem Value)(r:V->Hp->VK->Prop):Prop :=
 ∀(pins:List (Addr×Obj)) (s:Shared) (σ:St) (H:Hp) (x:V) (v:Value) (Q:VK),Inv X pins σ H s->RelV x v->r x H Q->
  wpAny (model X.prog X.w) X.A (f v) (EP X pins σ Q) X.xe s
noncomputable def iM(X:Cx)(f:Value)(r:List V->Hp->VK->Prop):Prop :=
 ∀(pins:List (Addr×Obj)) (s:Shared) (σ:St) (H:Hp) (xs:List V) (us:List Value) (Q:VK),Inv X pins σ H s->Vals xs us->r xs H Q->
  wpAny (model X.prog X.w) X.A (call f us) (EP X pins σ Q) X.xe s
noncomputable def aa2(X:Cx)(r:V->Hp->(Bool->Hp->Prop)->Prop):Prop :=
 ∀(pins:List (Addr×Obj)) (s:Shared) (σ:St) (H:Hp) (x:V) (v:Value) (Q:Bool->Hp->Prop),Inv X pins σ H s->RelV x v->r x H Q->
  wpAny (model X.prog X.w) X.A (truthy v) (TP X pins σ Q) X.xe s
noncomputable def vI(r:R2)(ta tb:TE):TE:=λσ H Q=>ta σ H λx H1=>tb σ H1 λy H2=>r x y H2 Q
noncomputable def Pw(r:V->Hp->VK->Prop)(ta:TE):TE:=λσ H Q=>ta σ H λx H1=>r x H1 Q
noncomputable def rI(C:Int->Int->Prop)(g:Int->Int->V):R2:=λx y H Q=>∃i j,x = .int i/\y = .int j/\C i j/\Q (g i j) H
noncomputable def jV(g:Int->Int->V):R2:=λx y H Q=>∃i j,x = .int i/\y = .int j/\Q (g i j) H
noncomputable def rU(g:Int->V):V->Hp->VK->Prop:=λx H Q=>∃i,x = .int i/\Q (g i) H
section
variable{X:Cx}{a b c:Expr}{ta tb tc:TE}{pos:Pos}
theorem Gj(ha:PE X a ta)(hb:PE X b tb){pins:List (Addr×Obj)}{s:Shared}{σ:St}{H:Hp}{R:V->V->Hp->Prop}(I:Inv X pins σ H s)
  (h:ta σ H λx H1=>tb σ H1 λy H2=>R x y H2) {Q:Value->Shared->Prop} {f:Value->Value->Sem Value}
  (hf:∀v u s2 x y H2,Inv X pins σ H2 s2->RelV x v->RelV y u->R x y H2->wpAny (model X.prog X.w) X.A (f v u) Q X.xe s2) :
  wpAny (model X.prog X.w) X.A (eval a X.env) (λv bC=>wpAny (model X.prog X.w) X.A (eval b X.env) (λu kY=>wpAny (model X.prog X.w) X.A (f v u) Q X.xe kY) X.xe bC) X.xe s:=by
 refine aP (ha pins s σ H _ I h) λv s1 ⟨x,H1,I1,r1,q1⟩=>?_;refine aP (hb pins s1 σ H1 _ I1 q1) λu s2 ⟨y,H2,I2,r2,q2⟩=>?_;exact hf v u s2 x y H2 I2 r1 r2 q2
theorem aR{op:Operator}{r:R2}(ho:cV X (binaryOp op) r)(ha:PE X a ta)(hb:PE X b tb):PE X (.BinOp a op b pos) (vI r ta tb):=by
 intro pins s σ H Q I h;exact wpAny_BinOp (Gj ha hb I h λv u s2 x y H2 I2 rx ry q=>ho pins s2 σ H2 x y v u Q I2 rx ry q)
theorem vJ{op:UnaryOp}{r:V->Hp->VK->Prop}(ho:Gi X (unaryOp op) r)(ha:PE X a ta):PE X (.UnaryOp op a pos) (Pw r ta):=by
 intro pins s σ H Q I h;exact UnaryOp_ (aP (ha pins s σ H _ I h) λv s1 ⟨x,H1,I1,r1,q1⟩=>ho pins s1 σ H1 x v Q I1 r1 q1)
theorem zF{f:Value->Value->Sem Value}{C:Int->Int->Prop}{g:Int->Int->Int}
  (rule:∀(i j:Int) (t u:Tok) (s:Shared) (Q:Value->Shared->Prop) (E:Value->Shared->Prop),C i j->Q (.int (g i j) s.toks) { s with toks:=s.toks+1 }->wpAny (model X.prog X.w) X.A (f (.int i t) (.int j u)) Q E s) :
  cV X f (rI C λi j=>.int (g i j)):=by
 intro pins s σ H x y v u Q I rx ry h;obtain⟨i,j,rfl,rfl,hc,q⟩:=h;obtain⟨t,rfl⟩:=rx;obtain⟨t',rfl⟩:=ry;exact rule i j t t' s _ _ hc ⟨.int (g i j),H,I.tok _,⟨_,rfl⟩,q⟩
theorem Px{f:Value->Value->Sem Value}{g:Int->Int->Int}
  (rule:∀(i j:Int) (t u:Tok) (s:Shared) (Q:Value->Shared->Prop) (E:Value->Shared->Prop),Q (.int (g i j) s.toks) { s with toks:=s.toks+1 }->wpAny (model X.prog X.w) X.A (f (.int i t) (.int j u)) Q E s) :
  cV X f (jV λi j=>.int (g i j)):=by
 intro pins s σ H x y v u Q I rx ry h;obtain⟨i,j,rfl,rfl,q⟩:=h;obtain⟨t,rfl⟩:=rx;obtain⟨t',rfl⟩:=ry;exact rule i j t t' s _ _ ⟨.int (g i j),H,I.tok _,⟨_,rfl⟩,q⟩
theorem zG{f:Value->Value->Sem Value}{g:Int->Int->Bool}
  (rule:∀(i j:Int) (t u:Tok) (s:Shared) (Q:Value->Shared->Prop) (E:Value->Shared->Prop),Q (.bool (g i j)) s->wpAny (model X.prog X.w) X.A (f (.int i t) (.int j u)) Q E s) :
  cV X f (jV λi j=>.bl (g i j)):=by
 intro pins s σ H x y v u Q I rx ry h;obtain⟨i,j,rfl,rfl,q⟩:=h;obtain⟨t,rfl⟩:=rx;obtain⟨t',rfl⟩:=ry;exact rule i j t t' s _ _ ⟨.bl (g i j),H,I,rfl,q⟩
noncomputable def Py(i j:Int):Prop:=0<j/\j<1073741824
noncomputable def aa3(i j:Int):Prop:=0<=j/\j<=1000000/\i.natAbs<2 ^ 64
noncomputable def zH(i j:Int):Prop:=(-(2 ^ 64)<i/\i<2 ^ 64)\/(-(2 ^ 64)<j/\j<2 ^ 64)
theorem zH.ok{i j:Int}(h:zH i j):IntMulOk i j:=by
 rcases h with⟨h1,h2⟩ | ⟨h1,h2⟩
 ·exact .of_left (intBits_le_64 h1 h2)
 ·exact .of_right (intBits_le_64 h1 h2)
theorem e_:cV X (binaryOp .Add) (jV λi j=>.int (i+j)):=Px λ_ _ _ _ _ _ _ q=>add_int q
theorem vK:cV X (binaryOp .Sub) (jV λi j=>.int (i - j)):=Px λ_ _ _ _ _ _ _ q=>sub_int q
theorem sV:cV X (binaryOp .Mult) (rI zH λi j=>.int (i*j)):=zF λ_ _ _ _ _ _ _ hc q=>mul_int q hc.ok
theorem zI:cV X (binaryOp .FloorDiv) (rI Py λi j=>.int (i / j)):=zF λi j _ _ _ _ _ hc q=>by
 have h1:(0:Int)<j:=hc.1;have h2:j<1073741824:=hc.2;exact floordiv_int (by lia) (by rw[Int.fdiv_eq_ediv_of_nonneg i (by lia)];exact q) (.inl (PyProof.noPylong_small (by lia)))
theorem dw:cV X (binaryOp .Mod) (rI (λ_ j=>0<j) λi j=>.int (i % j)):=zF λi j _ _ _ _ _ hc q=>by
 have h1:(0:Int)<j:=hc;exact mod_int' (by lia) (by rw[Int.fmod_eq_emod_of_nonneg i (by lia)];exact q)
theorem zJ:cV X (binaryOp .Pow) (rI aa3 λi j=>.int (i ^ j.toNat)):=zF λ_ _ _ _ _ _ _ hc q=>pow_int_small hc.1 hc.2.1 hc.2.2 q
theorem unI{f:Value->Sem Value}{g:Int->Int}
  (rule:∀(i:Int) (t:Tok) (s:Shared) (Q:Value->Shared->Prop) (E:Value->Shared->Prop),Q (.int (g i) s.toks) { s with toks:=s.toks+1 }->wpAny (model X.prog X.w) X.A (f (.int i t)) Q E s) :
  Gi X f (rU λi=>.int (g i)):=by
 intro pins s σ H x v Q I rx h;obtain⟨i,rfl,q⟩:=h;obtain⟨t,rfl⟩:=rx;exact rule i t s _ _ ⟨.int (g i),H,I.tok _,⟨_,rfl⟩,q⟩
theorem vL:Gi X (unaryOp .USub) (rU λi=>.int (-i)):=unI λ_ _ _ _ _ q=>neg_int q
end
noncomputable def ki:V->V->Bool
 | .aV,.aV=>true | .aV,.int _=>true | .int _,.aV=>true | .aV,.bl _=>true | .bl _,.aV=>true | .aV,.str _=>true | .str _,.aV=>true
 | .int _,.int _=>true | .bl _,.bl _=>true | .str _,.str _=>true | .jy _,.jy _=>true
 | .int _,.str _=>true | .str _,.int _=>true | .bl _,.str _=>true | .str _,.bl _=>true
 | _,_=>false
noncomputable def Pz:R2:=λx y H Q=>ki x y=true/\Q (.bl (decide (x=y))) H
noncomputable def PB:R2:=λx y H Q=>ki x y=true/\Q (.bl (!decide (x=y))) H
theorem PD{i j:Int}:decide (V.int i=V.int j)=(i == j):=by
 rw[Bool.eq_iff_iff];simp
theorem PF{i j:Bool}:decide (V.bl i=V.bl j)=(i == j):=by
 rw[Bool.eq_iff_iff];simp
theorem PJ{i j:Str}:decide (V.str i=V.str j)=(i == j):=by
 rw[Bool.eq_iff_iff];simp
theorem PL{i j:Array UInt8}:decide (V.jy i=V.jy j)=(i.toList == j.toList):=by
 rw[Bool.eq_iff_iff];cases i;cases j;simp
section
variable{X:Cx}{a b c:Expr}{ta tb tc:TE}{pos:Pos}
theorem dB{pins:List (Addr×Obj)}{σ:St}{H:Hp}{s:Shared}{Q:VK}{k k':Bool}(I:Inv X pins σ H s)(q:Q (.bl k) H)(e:k=k'):EP X pins σ Q (.bool k') s:=by
 subst e;exact⟨.bl k,H,I,rfl,q⟩
theorem eX:cV X (compareOp .Eq) Pz:=by
 intro pins s σ H x y v u Q I rx ry h;obtain⟨hs,q⟩:=h;cases x with
 | aV =>
  cases rx;cases y with
  | aV=>cases ry;exact PySem.EqNone.eq_none_none (dB I q (by simp))
  | bl j=>cases ry;exact PySem.EqNone.eq_none_bool (dB I q (by simp))
  | int j=>obtain⟨t',rfl⟩:=ry;exact PySem.EqNone.eq_none_int (dB I q (by simp))
  | str j=>obtain⟨t',rfl⟩:=ry;exact PySem.EqNone.eq_none_str (dB I q (by simp))
  | _=>exact absurd (show false=true from hs) Bool.false_ne_true
 | bl i =>
  cases rx;cases y with
  | aV=>cases ry;exact PySem.EqNone.eq_bool_none (dB I q (by simp))
  | bl j=>cases ry;exact eq_bool (dB I q PF)
  | str j=>obtain⟨t',rfl⟩:=ry;exact PySem.EqMixed.eq_bool_str (dB I q (by simp))
  | _=>exact absurd (show false=true from hs) Bool.false_ne_true
 | int i =>
  obtain⟨t,rfl⟩:=rx;cases y with
  | aV=>cases ry;exact PySem.EqNone.eq_int_none (dB I q (by simp))
  | int j=>obtain⟨t',rfl⟩:=ry;exact eq_int (dB I q PD)
  | str j=>obtain⟨t',rfl⟩:=ry;exact PySem.EqMixed.eq_int_str (dB I q (by simp))
  | _=>exact absurd (show false=true from hs) Bool.false_ne_true
 | str i =>
  obtain⟨t,rfl⟩:=rx;cases y with
  | aV=>cases ry;exact PySem.EqNone.eq_str_none (dB I q (by simp))
  | bl j=>cases ry;exact PySem.EqMixed.eq_str_bool (dB I q (by simp))
  | int j=>obtain⟨t',rfl⟩:=ry;exact PySem.EqMixed.eq_str_int (dB I q (by simp))
  | str j=>obtain⟨t',rfl⟩:=ry;exact eq_str (dB I q PJ)
  | _=>exact absurd (show false=true from hs) Bool.false_ne_true
 | jy i =>
  obtain⟨t,rfl⟩:=rx;cases y with
  | jy j=>obtain⟨t',rfl⟩:=ry;exact PySem.W.eq_bytes (dB I q PL)
  | _=>exact absurd (show false=true from hs) Bool.false_ne_true
 | _=>cases y <;> exact absurd (show false=true from hs) Bool.false_ne_true
theorem qJ:cV X (compareOp .NotEq) PB:=by
 intro pins s σ H x y v u Q I rx ry h;obtain⟨hs,q⟩:=h;cases x with
 | aV =>
  cases rx;cases y with
  | aV=>cases ry;exact PySem.EqNone.ne_none_none (dB I q (by simp))
  | bl j=>cases ry;exact PySem.EqNone.ne_none_bool (dB I q (by simp))
  | int j=>obtain⟨t',rfl⟩:=ry;exact PySem.EqNone.ne_none_int (dB I q (by simp))
  | str j=>obtain⟨t',rfl⟩:=ry;exact PySem.EqNone.ne_none_str (dB I q (by simp))
  | _=>exact absurd (show false=true from hs) Bool.false_ne_true
 | bl i =>
  cases rx;cases y with
  | aV=>cases ry;exact PySem.EqNone.ne_bool_none (dB I q (by simp))
  | bl j=>cases ry;exact ne_bool (dB I q (congrArg not PF))
  | str j=>obtain⟨t',rfl⟩:=ry;exact PySem.EqMixed.ne_bool_str (dB I q (by simp))
  | _=>exact absurd (show false=true from hs) Bool.false_ne_true
 | int i =>
  obtain⟨t,rfl⟩:=rx;cases y with
  | aV=>cases ry;exact PySem.EqNone.ne_int_none (dB I q (by simp))
  | int j=>obtain⟨t',rfl⟩:=ry;exact ne_int (dB I q (congrArg not PD))
  | str j=>obtain⟨t',rfl⟩:=ry;exact PySem.EqMixed.ne_int_str (dB I q (by simp))
  | _=>exact absurd (show false=true from hs) Bool.false_ne_true
 | str i =>
  obtain⟨t,rfl⟩:=rx;cases y with
  | aV=>cases ry;exact PySem.EqNone.ne_str_none (dB I q (by simp))
  | bl j=>cases ry;exact PySem.EqMixed.ne_str_bool (dB I q (by simp))
  | int j=>obtain⟨t',rfl⟩:=ry;exact PySem.EqMixed.ne_str_int (dB I q (by simp))
  | str j=>obtain⟨t',rfl⟩:=ry;exact ne_str (dB I q (congrArg not PJ))
  | _=>exact absurd (show false=true from hs) Bool.false_ne_true
 | jy i =>
  obtain⟨t,rfl⟩:=rx;cases y with
  | jy j=>obtain⟨t',rfl⟩:=ry;exact PySem.W.ne_bytes (dB I q (congrArg not PL))
  | _=>exact absurd (show false=true from hs) Bool.false_ne_true
 | _=>cases y <;> exact absurd (show false=true from hs) Bool.false_ne_true
theorem gv:cV X (compareOp .Lt) (jV λi j=>.bl (decide (i<j))):=zG λ_ _ _ _ _ _ _ q=>lt_int q
theorem sX:cV X (compareOp .LtE) (jV λi j=>.bl (decide (i<=j))):=zG λ_ _ _ _ _ _ _ q=>le_int q
theorem k_:cV X (compareOp .Gt) (jV λi j=>.bl (decide (j<i))):=zG λ_ _ _ _ _ _ _ q=>gt_int q
theorem qK:cV X (compareOp .GtE) (jV λi j=>.bl (decide (j<=i))):=zG λ_ _ _ _ _ _ _ q=>ge_int q
theorem aa4:cV X (compareOp .Is) (λx y H Q=>y = .aV/\Q (.bl (decide (x = .aV))) H):=by
 intro pins s σ H x y v u Q I rx ry h;obtain⟨rfl,q⟩:=h;cases ry;refine is_none_gen (dB I q ?_);cases x <;> first
  | (cases rx;rfl)
  | (obtain⟨t,rfl⟩:=rx;rfl)
theorem Gk:cV X (compareOp .IsNot) (λx y H Q=>y = .aV/\Q (.bl (!decide (x = .aV))) H):=by
 intro pins s σ H x y v u Q I rx ry h;obtain⟨rfl,q⟩:=h;cases ry;refine isnot_none_gen (dB I q ?_);cases x <;> first
  | (cases rx;rfl)
  | (obtain⟨t,rfl⟩:=rx;rfl)
theorem bA(b:Expr){op:CmpOp}(h:op≠.In:=by decide)(h2:op≠.NotIn:=by decide):behindInMarks op b=false:=by
 have e1:(op == CmpOp.In)=false:=by cases op <;> first | rfl | exact absurd rfl h
 have e2:(op == CmpOp.NotIn)=false:=by cases op <;> first | rfl | exact absurd rfl h2
 cases b <;> simp[behindInMarks,e1,e2]
theorem iN{op:CmpOp}{r:R2}(ho:cV X (compareOp op) r)(ha:PE X a ta)(hb:PE X b tb)(hm:behindInMarks op b=false):PE X (.Compare a [op] [b] pos) (vI r ta tb):=by
 intro pins s σ H Q I h;exact wpAny_Compare1 (Gj ha hb I h λv u s2 x y H2 I2 rx ry q=>ho pins s2 σ H2 x y v u Q I2 rx ry q) hm
noncomputable def Gm(t:TE):TT:=λσ H Q=>t σ H λx H'=>∃k,x = .bl k/\Q k H'
theorem cD{op:CmpOp}{r:R2}(ho:cV X (compareOp op) r)(ha:PE X a ta)(hb:PE X b tb)(hm:behindInMarks op b=false):PT X (.Compare a [op] [b] pos) (Gm (vI r ta tb)):=by
 intro pins s σ H Q I h;refine wpAny_isTrue_Compare1 (aP (ha pins s σ H _ I h) λv s1 ⟨x,H1,I1,r1,q1⟩=>aP (hb pins s1 σ H1 _ I1 q1) λu s2 ⟨y,H2,I2,r2,q2⟩ =>
  aP (ho pins s2 σ H2 x y v u _ I2 r1 r2 q2) λc s3 ⟨z,H3,I3,r3,k,e,q3⟩=>?_) hm
 subst e;cases r3;exact wpAny_truthy_bool ⟨H3,I3,q3⟩
noncomputable def PM(r r':R2)(ta tb tc:TE):TE:=λσ H Q=>ta σ H λx H1=>tb σ H1 λy H2=>r x y H2 λz H3=>∃k,z = .bl k/\
 (if k=true then tc σ H3 λw' H4=>r' y w' H4 Q else Q (.bl false) H3)
theorem aa5{op Gn:CmpOp}{r r':R2}(ho:cV X (compareOp op) r)(nJ:cV X (compareOp Gn) r')(ha:PE X a ta)(hb:PE X b tb)(hc:PE X c tc)
  (hm:lastMarks [op,Gn] [b,c] = false:=by with_unfolding_all rfl):PT X (.Compare a [op,Gn] [b,c] pos) (Gm (PM r r' ta tb tc)):=by
 intro pins s σ H Q I h;refine isTrue_chain (aP (ha pins s σ H _ I h) λv s1 ⟨x,H1,I1,r1,q1⟩=>test_link (aP (hb pins s1 σ H1 _ I1 q1) λu s2 ⟨y,H2,I2,r2,q2⟩ =>
  aP (ho pins s2 σ H2 x y v u _ I2 r1 r2 q2) λd s3 ⟨z,H3,I3,r3,k,e,q3⟩=>?_)) hm
 subst e;cases r3;refine wpAny_truthy_bool ?_;cases k with
 | false =>
  obtain⟨k',e',q'⟩:=q3;cases e';exact ite_ff ⟨H3,I3,q'⟩
 | true =>
  refine ite_tt (test_last (aP (hc pins s3 σ H3 _ I3 q3) λw' s4 ⟨z',H4,I4,r4,q4⟩=>aP (nJ pins s4 σ H4 y z' u w' _ I4 r2 r4 q4) λd' s5 ⟨z2,H5,I5,r5,k2,e2,q5⟩=>?_));subst e2;cases r5;exact wpAny_truthy_bool ⟨H5,I5,q5⟩
noncomputable def PN(K:PySem.W.Frag)(x:V)(H:Hp)(k:Bool):Prop :=
 match x with
 | .aV=>k=false
 | .bl b=>k=b
 | .int i=>k=(i != 0)
 | .str y=>y.length<=sizeLine/\k=((y.length:Int) != 0)
 | .jy y=>y.size<=sizeLine/\k=((y.size:Int) != 0)
 | .ref p=>(∃xs,aE K H p xs/\k = !xs.isEmpty)\/(∃xs,bD K H p xs/\k = !xs.isEmpty)\/∃kvs,H p=some (.dK kvs)/\k = !kvs.isEmpty
 | _=>False
theorem aa6{κ:Type}{kvs:List (κ×V)}{vs:List (κ×Value)}(r:KV kvs vs):(!vs.isEmpty) = !kvs.isEmpty:=by
 cases r <;> rfl
theorem PR{xs:List V}{aG:List Value}(r:Vals xs aG):(!aG.toArray.isEmpty) = !xs.isEmpty:=by
 cases r <;> simp
theorem vM:(sizeLine:Nat)<2 ^ 63:=by rw[sizeLine_eq];decide
theorem aa7:aa2 X (λx H Q=>∃k,PN X.K x H k/\Q k H):=by
 intro pins s σ H x v Q I rx h;obtain⟨k,e,q⟩:=h;have hl:=vM;have hs:sizeLine=16777216:=sizeLine_eq;cases x with
 | aV =>
  cases rx;have e':k=false:=e;subst e';exact truthy_none ⟨H,I,q⟩
 | bl b =>
  cases rx;have e':k=b:=e;subst e';exact wpAny_truthy_bool ⟨H,I,q⟩
 | int i =>
  obtain⟨t,rfl⟩:=rx;have e':k=(i != 0):=e;subst e';exact PySem.P.truthy_int ⟨H,I,q⟩
 | str y =>
  obtain⟨t,rfl⟩:=rx;obtain⟨hy,e'⟩:y.length<=sizeLine/\k=((y.length:Int) != 0):=e;subst e';exact PySem.P.truthy_str (by lia) ⟨H,I.tok _,q⟩
 | jy y =>
  obtain⟨t,rfl⟩:=rx;obtain⟨hy,e'⟩:y.size<=sizeLine/\k=((y.size:Int) != 0):=e;subst e';exact PySem.W.truthy_bytes (by lia) ⟨H,I.tok _,q⟩
 | ref p =>
  cases rx;have e':(∃xs,aE X.K H p xs/\k = !xs.isEmpty)\/(∃xs,bD X.K H p xs/\k = !xs.isEmpty)\/∃kvs,H p=some (.dK kvs)/\k = !kvs.isEmpty:=e;rcases e' with⟨xs,hx,e'⟩ | ⟨xs,hx,e'⟩ | ⟨kvs,hx,e'⟩
  ·subst e';obtain⟨aG,r,pl,hz⟩:=I.list hx;have hlen:=r.length;exact wpAny_truthy_list pl.isList (by simp only[List.size_toArray];lia) ⟨H,I.tok _,by rw[PR r];exact q⟩
  ·subst e';obtain⟨aG,r,pl,hz⟩:=I.tuple hx;have hlen:=r.length;exact truthy_tuple pl (by simp only[List.size_toArray];lia) ⟨H,I.tok _,by rw[PR r];exact q⟩
  ·subst e';obtain⟨hz,hS,vs,r,m⟩:kvs.length<=sizeLine/\(p == sysModules)=false/\∃vs,KV kvs vs/\s.heap.DictOf (f_ X.prog X.w) p vs:=I.aO p _ hx;have hlen:kvs.length=vs.length:=Paired.length r;exact wpAny_truthy_dict hS m (by lia) ⟨H,I.tok _,by rw[aa6 r];exact q⟩
 | _=>exact(show False from e).elim
theorem vN(ha:PE X a ta)(he:∀whole,isTrue a X.env whole=(do let v ← whole;standAt a.pos;holding [v] (truthy v))) :
  PT X a (λσ H Q=>ta σ H λx H'=>∃k,PN X.K x H' k/\Q k H'):=by
 intro pins s σ H Q I h;exact isTrue_plain (aP (ha pins s σ H _ I h) λv s1 ⟨x,H1,I1,r1,q1⟩=>aa7 pins s1 σ H1 x v Q I1 r1 q1) (he _)
theorem vals1{x:V}{us:List Value}(r:Vals [x] us):∃u,us = [u]/\RelV x u:=by
 cases r with
 | cons r1 r2=>cases r2;exact⟨_,rfl,r1⟩
theorem vals2{x y:V}{us:List Value}(r:Vals [x,y] us):∃u w',us = [u,w']/\RelV x u/\RelV y w':=by
 cases r with
 | cons r1 r2 =>
  cases r2 with
  | cons r3 r4=>cases r4;exact⟨_,_,rfl,r1,r3⟩
theorem PU:iM X (.builtin "abs") (λxs H Q=>∃i,xs = [.int i]/\Q (.int (if i<0 then -i else i)) H):=by
 intro pins s σ H xs us Q I r h;obtain⟨i,rfl,q⟩:=h;obtain⟨u,rfl,t,rfl⟩:=vals1 r;exact call_abs_int λu tk=>⟨.int (if i<0 then -i else i),H,I.tok _,⟨_,rfl⟩,q⟩
theorem PV(hc:X.calm=true):iM X (.builtin "max") (λxs H Q=>∃i j,xs = [.int i,.int j]/\Q (.int (if j > i then j else i)) H):=by
 intro pins s σ H xs us Q I r h;obtain⟨i,j,rfl,q⟩:=h;obtain⟨u,w',rfl,⟨t,rfl⟩,⟨t',rfl⟩⟩:=vals2 r;refine max_two_ints (I.ok.hd hc) λh' tk k=>⟨_,H,I.kept k,?_,q⟩;by_cases hj:j > i
 ·rw[if_pos hj,if_pos hj];exact⟨_,rfl⟩
 ·rw[if_neg hj,if_neg hj];exact⟨_,rfl⟩
theorem Gp(hc:X.calm=true):iM X (.builtin "min") (λxs H Q=>∃i j,xs = [.int i,.int j]/\Q (.int (if j<i then j else i)) H):=by
 intro pins s σ H xs us Q I r h;obtain⟨i,j,rfl,q⟩:=h;obtain⟨u,w',rfl,⟨t,rfl⟩,⟨t',rfl⟩⟩:=vals2 r;refine min_two_ints (I.ok.hd hc) λh' tk k=>⟨_,H,I.kept k,?_,q⟩;by_cases hj:j<i
 ·rw[if_pos hj,if_pos hj];exact⟨_,rfl⟩
 ·rw[if_neg hj,if_neg hj];exact⟨_,rfl⟩
end
structure qL(h:Heap)(x dx C:Addr)(mA:Str->Option Value):Prop where
 obj:h.get? x=some (PySem.W.instObj C dx)
 ns:h.Ns1 dx mA
 ne:dx≠x
theorem aa8{h:Heap}{dx:Addr}{mA:Str->Option Value}(n:h.Ns1 dx mA):∃od,h.get? dx=some od/\∀name,PySem.W.lookIn name od=some (mA name):=by
 obtain⟨o,es,ep,ho,hd,hk,_,hm⟩:=n;refine⟨o,ho,λname=>?_⟩
 have e:=hm name;unfold nsFind findBy at e;rw[← Array.find?_toList] at e;unfold PySem.W.lookIn;rw[hd];dsimp only;split
 ·rename_i y q;rw[q] at e;exact congrArg some e
 ·rename_i q;rw[q] at e;have a:es.toList.any (·.refKey)=false:=by
   rw[List.any_eq_false];intro y hy;obtain⟨z,t,pD⟩:=hk y (Array.mem_toList_iff.mp hy);simp[DictEntry.refKey,pD]
  have a':¬ es.toList.any (·.refKey)=true:=by rw[a];exact Bool.false_ne_true
  rw[if_neg a'];exact congrArg some e
theorem qL.look{h:Heap}{x dx C:Addr}{mA:Str->Option Value}(I:qL h x dx C mA):∃od,PySem.W.InstAt h x (PySem.W.instObj C dx) C (some od)/\∀name,PySem.W.lookIn name od=some (mA name) :=
 let ⟨od,ho,hl⟩:=aa8 I.ns
 ⟨od,⟨I.obj,rfl,rfl,ho⟩,hl⟩
section
variable{prog:Program}{w:World}{A:Around}{E:Value->Shared->Prop}{s:Shared}{K:PySem.W.Frag}{x dx C f:Addr}{mA:Str->Option Value}{name:Str}{v:Value}
theorem get_map{expr:Bool}{Q:Value->Shared->Prop}(X:K.In s.heap)(I:qL s.heap x dx C mA)(hg:PySem.W.plainGet K C name=true)(hh:PySem.W.hasDictIn K C=true)
  (ha:PySem.W.findIn K (.ref C) name=some none) (hv:mA name=some v) (hv':PySem.W.handedIn v=true) (h:Q v { s with toks:=s.toks+1 }) :
  wpAny (model prog w) A (getAttr (.ref x) name expr) Q E s:=by
 obtain⟨od,J,hl⟩:=I.look;exact PySem.W.get_value X J (PySem.W.plainGet_of hg).1 (PySem.W.findObj_own hh ha rfl (by rw[hl,hv])) hv' h
theorem aa9{pl:Sem Bool}{Q:Value×List Value->Shared->Prop}(X:K.In s.heap)(I:qL s.heap x dx C mA)(hg:PySem.W.plainGet K C name=true)
  (hf:PySem.W.findIn K (.ref C) name=some (some (.ref f))) (ht:PySem.W.isFn K (.ref f)=true) (hv:mA name=none) (h:Q (.ref f,[.ref x]) s) :
  wpAny (model prog w) A (getMethod (.ref x) name pl) Q E s:=by
 obtain⟨od,J,hl⟩:=I.look;exact PySem.W.method_fn X J (PySem.W.plainGet_of hg).1 (PySem.W.plainGet_of hg).2 hf (beq_iff_eq.mp ht) (by show (PySem.W.lookIn name od).map (·.isSome)=some false;rw[hl,hv];rfl) h
theorem aa_{ns:List Str}{Q:Unit->Shared->Prop}(X:K.In s.heap)(I:qL s.heap x dx C mA)
  (hs:PySem.W.findIn K (.ref C) "__setattr__" = some (some (.builtin "object.__setattr__"))) (hp:PySem.W.plainOver K C=true) (ht:PySem.W.takerIn K C name=some none) (hh:PySem.W.hasDictIn K C=true)
  (hw:PySem.Within mA ns) (hsz:ns.length<=sizeLine)
  (h:∀h',qL h' x dx C (λy=>if y=name then some v else mA y)->Heap.SameBut dx s.heap h'->Q () { s with heap:=h',toks:=s.toks+2 }) :
  wpAny (model prog w) A (setAttr (.ref x) name v) Q E s:=by
 obtain⟨od,J,hl⟩:=I.look;refine PySem.W.set_plain X J hs (PySem.W.osa_open (s:={ s with toks:=s.toks+1 }) (r:=none) X J hp ht λb=>?_)
 obtain⟨cd,hc,qB⟩:=PySem.W.any_some hh;have hx:s.heap.get? x=some ⟨.ref C,some dx,.plain,#[]⟩:=I.obj;refine wpAny_bind (wpAny_pure (wpAny_bind (wpAny_bind (wpAny_loadPart hx (wpAny_bind (PySem.W.Looks.here (s:={ s with toks:=s.toks+1 }) (PySem.W.looks_clsIn X hc) ?_))))));rw[qB];refine wpAny_pure (a:=some dx) (wpAny_bind (wpAny_pure (wpAny_bind ?_)));refine wpAny_nsSet1 (s:={ s with toks:=s.toks+1 }) I.ns λh' sY iL=>?_;obtain⟨oD,esD,epD,hoD,hdD,hcD⟩:=sY.count (PySem.Within.cons name v hw);refine wpAny_bind (wpAny_lookBehind hoD (by rw[hdD];exact pastItsLine_dict (Nat.le_trans hcD (by rw[List.length_cons];lia))) ?_)
 exact wpAny_pure (h _ ⟨(iL.2 _ (Ne.symm I.ne)).trans I.obj,sY,I.ne⟩ iL)
theorem aba{R:Result->Shared->Prop}{vs:List Value}{kw:List (Str×Value)}(X:K.In s.heap)(hm:PySem.W.makesIn K C=true)
  (hi:PySem.W.findIn K (.ref C) "__init__" = some (some (.ref f))) (hf:PySem.W.typeIn K (.ref f)=some (.type "function"))
  (h:codeAny (model prog w) (A.under (.builtin "type.__call__" ⟨.ref C::vs,kw⟩)) (.call (.ref f) ⟨.ref (s.heap.objs.size+1)::vs,kw⟩) (PySem.W.InitBack (s.heap.objs.size+1) R)
   { s with heap:=(s.heap.push PySem.W.emptyDict).push (PySem.W.instObj C s.heap.objs.size)}) :
  codeAny (model prog w) A (.call (.ref C) ⟨vs,kw⟩) R s:=by
 obtain⟨hh,g,d,t,os⟩:=s;exact PySem.W.make_core (PySem.W.makes_of X hm) (PySem.W.looks_findIn X hi) (λself=>PySem.W.bind_fn X self hf) (.inl rfl) h
theorem abb{R:Result->Shared->Prop}(X:K.In s.heap)(hm:PySem.W.makesIn K C=true)
  (hi:PySem.W.findIn K (.ref C) "__init__" = some (some (.builtin "object.__init__")))
  (hb:∀self,PySem.W.Looks (model prog w) s.heap (bindSpecial (.builtin "object.__init__") self) (.builtin "object.__init__",[self]))
  (h:codeAny (model prog w) (A.under (.builtin "type.__call__" ⟨[.ref C],[]⟩)) (.call (.builtin "object.__init__") ⟨[.ref (s.heap.objs.size+1)],[]⟩) (PySem.W.InitBack (s.heap.objs.size+1) R)
   { s with heap:=(s.heap.push PySem.W.emptyDict).push (PySem.W.instObj C s.heap.objs.size)}) :
  codeAny (model prog w) A (.call (.ref C) ⟨[],[]⟩) R s:=by
 obtain⟨hh,g,d,t,os⟩:=s;exact PySem.W.make_core (PySem.W.makes_of X hm) (PySem.W.looks_findIn X hi) hb (.inr ⟨rfl,rfl⟩) h
end
noncomputable def gw(f:Str)(v:V):List (Str×V)->List (Str×V)
 | []=>[(f,v)]
 | (g,x)::r=>if g=f then(g,v)::r else(g,x)::gw f v r
theorem PX(f g:Str)(v:V):∀fs:List (Str×V),(gw f v fs).lookup g=if g=f then some v else fs.lookup g
 | []=>by
  show List.lookup g [(f,v)] = _;by_cases h:g=f
  ·have hb:(g == f)=true:=beq_iff_eq.mpr h;simp only[List.lookup,hb,if_pos h]
  ·have hb:(g == f)=false:=beq_eq_false_iff_ne.mpr h;simp only[List.lookup,hb,if_neg h]
 | (k,x)::r=>by
  have ih:=PX f g v r;rw[show gw f v ((k,x)::r)=(if k=f then(k,v)::r else(k,x)::gw f v r) from rfl]
  by_cases hk:k=f
  ·rw[if_pos hk];by_cases h:g=k
   ·have hb:(g == k)=true:=beq_iff_eq.mpr h;simp only[List.lookup,hb,if_pos (h.trans hk)]
   ·have hb:(g == k)=false:=beq_eq_false_iff_ne.mpr h;simp only[List.lookup,hb,if_neg (λe:g=f=>h (e.trans hk.symm))]
  ·rw[if_neg hk];by_cases h:g=k
   ·have hb:(g == k)=true:=beq_iff_eq.mpr h;simp only[List.lookup,hb,if_neg (λe:g=f=>hk (h.symm.trans e))]
   ·have hb:(g == k)=false:=beq_eq_false_iff_ne.mpr h;simp only[List.lookup,hb];exact ih
theorem Gq(f:Str)(v:V):∀fs:List (Str×V),f∈(gw f v fs).map (·.1)/\∀g,g∈fs.map (·.1)->g∈(gw f v fs).map (·.1)
 | []=>⟨by simp[gw],λg h=>by simp at h⟩
 | (k,x)::r=>by
  obtain⟨i1,i2⟩:=Gq f v r;rw[show gw f v ((k,x)::r)=(if k=f then(k,v)::r else(k,x)::gw f v r) from rfl]
  by_cases hk:k=f
  ·rw[if_pos hk];subst hk;exact⟨by simp,λg h=>by simpa using h⟩
  ·rw[if_neg hk];refine⟨?_,λg h=>?_⟩
   ·rw[List.map_cons];exact List.mem_cons_of_mem _ i1
   ·rw[List.map_cons] at h ⊢;rcases List.mem_cons.mp h with e | e
    ·exact List.mem_cons.mpr (.inl e)
    ·exact List.mem_cons_of_mem _ (i2 g e)
theorem PY(f:Str)(v:V):∀fs:List (Str×V),(gw f v fs).length<=fs.length+1
 | []=>by simp[gw]
 | (k,x)::r=>by
  have ih:=PY f v r;rw[show gw f v ((k,x)::r)=(if k=f then(k,v)::r else(k,x)::gw f v r) from rfl]
  by_cases hk:k=f
  ·rw[if_pos hk,List.length_cons,List.length_cons];lia
  ·rw[if_neg hk,List.length_cons,List.length_cons];lia
theorem gQ.some_of{v:V}{o:Option Value}(r:gQ (some v) o):∃u,o=some u/\RelV v u:=by
 cases o with
 | none=>exact(show False from r).elim
 | some u=>exact⟨u,rfl,r⟩
theorem gQ.none_of{o:Option Value}(r:gQ none o):o=none:=by
 cases o with
 | none=>rfl
 | some u=>exact(show False from r).elim
theorem abd{v:V}{u:Value}(r:RelV v u):PySem.W.handedIn u=true:=by
 cases v with
 | aV=>cases (show u=Value.none from r);rfl
 | bl b=>cases (show u=Value.bool b from r);rfl
 | int i=>obtain⟨t,e⟩:=(show ∃t,u=Value.int i t from r);cases e;rfl
 | str x=>obtain⟨t,e⟩:=(show ∃t,u=Value.str x t from r);cases e;rfl
 | jy b=>obtain⟨t,e⟩:=(show ∃t,u=Value.bytes b t from r);cases e;rfl
 | qx b=>obtain⟨t,e⟩:=(show ∃t,u=Value.float b t from r);cases e;rfl
 | ref a=>cases (show u=Value.ref a from r);rfl
 | ty n=>cases (show u=Value.type n from r);rfl
section
variable{P:Program}{w:World}{H H':Hp}{h h':Heap}{a C dx:Addr}{fs fs':List (Str×V)}
theorem zK(aO:c_ P w H h)(e:H a=some (.ins C dx fs)):∃mA,qL h a dx C mA/\(∀f,gQ (fs.lookup f) (mA f))/\PySem.Within mA (fs.map (·.1))/\fs.length<=1000/\H dx=some (.own a):=by
 obtain⟨d,z,ne,ob,mA,n,r,q⟩:=(show dQ P w H h a (.ins C dx fs) from aO a _ e);exact⟨mA,⟨ob,n,ne⟩,r,q,z,d⟩
end
structure bL(K:PySem.W.Frag)(C:Addr):Prop where
 pg:PySem.W.plainGet K C Str.empty=true
 hd:PySem.W.hasDictIn K C=true
 po:PySem.W.plainOver K C=true
 sa:PySem.W.findIn K (.ref C) "__setattr__" = some (some (.builtin "object.__setattr__"))
theorem bL.get{K:PySem.W.Frag}{C:Addr}(c:bL K C)(f:Str):PySem.W.plainGet K C f=true:=c.pg
noncomputable def bO(K:PySem.W.Frag)(C:Addr)(f:Str):Prop:=PySem.W.findIn K (.ref C) f=some none
theorem bO.abe{K:PySem.W.Frag}{C:Addr}{f:Str}(n:bO K C f):PySem.W.takerIn K C f=some none:=by
 unfold PySem.W.takerIn;rw[show PySem.W.findIn K (.ref C) f=some none from n]
 rfl
structure Meth(K:PySem.W.Frag)(C:Addr)(m:Str)(f:Addr):Prop where
 at_:PySem.W.findIn K (.ref C) m=some (some (.ref f))
 fn:PySem.W.isFn K (.ref f)=true
 kp:PySem.W.keepIn K (.ref f)=true
section
variable{X:Cx}{pins:List (Addr×Obj)}{σ:St}{H:Hp}{s:Shared}{a C dx:Addr}{fs:List (Str×V)}{f:Str}{v:V}{A:Around}{E:Value->Shared->Prop}
theorem PZ{b:Bool}{Q:Value->Shared->Prop}(I:Inv X pins σ H s)(e:H a=some (.ins C dx fs))(c:bL X.K C)(n:bO X.K C f)(l:fs.lookup f=some v)
  (h:∀u s',Inv X pins σ H s'->RelV v u->Q u s'):wpAny (model X.prog X.w) A (getAttr (.ref a) f b) Q E s:=by
 obtain⟨mA,O,r,_,_,_⟩:=zK I.aO e;obtain⟨u,hu,ru⟩:=gQ.some_of (v:=v) (o:=mA f) (by rw[← l];exact r f)
 exact get_map I.cY O (c.get f) c.hd n hu (abd ru) (h u _ (I.tok _) ru)
theorem pF{m:Str}{g:Addr}{pl:Sem Bool}{Q:Value×List Value->Shared->Prop}(I:Inv X pins σ H s)(e:H a=some (.ins C dx fs))(c:bL X.K C)(k:Meth X.K C m g)(l:fs.lookup m=none)
  (h:Q (.ref g,[.ref a]) s):wpAny (model X.prog X.w) A (getMethod (.ref a) m pl) Q E s:=by
 obtain⟨mA,O,r,_,_,_⟩:=zK I.aO e;have hn:mA m=none:=gQ.none_of (by rw[← l];exact r m)
 exact aa9 I.cY O (c.get m) k.at_ k.fn hn h
theorem P0{y:V}{u:Value}{Q:Unit->Shared->Prop}(I:Inv X pins σ H s)(e:H a=some (.ins C dx fs))(c:bL X.K C)(n:bO X.K C f)(hl:fs.length<1000)(ry:RelV y u)
  (h:∀s',Inv X pins σ (upd H a (.ins C dx (gw f y fs))) s'->Q () s'):wpAny (model X.prog X.w) A (setAttr (.ref a) f u) Q E s:=by
 obtain⟨mA,O,r,wi,_,ho⟩:=zK I.aO e;have hz:(fs.map (·.1)).length<=sizeLine:=by rw[List.length_map,sizeLine_eq];lia
 refine aa_ I.cY O c.sa c.po n.abe c.hd wi hz λh' O' sb=>h _ ?_;have hd:∃o,h'.get? dx=some o:=let ⟨o,_,_,e',_⟩:=O'.ns;⟨o,e'⟩
 refine I.write (x:=a) (e:=dx) (by rw[e];exact True.intro) (.inr ho) (λb q hb z=>(sb.2 b hb).trans z) hd ?_
 refine⟨by rw[aI O.ne];exact ho,?_,O.ne,O'.obj,_,O'.ns,λg=>?_,λg hg=>?_⟩
 ·have:=PY f y fs;lia
 ·show gQ ((gw f y fs).lookup g) (if g=f then some u else mA g)
  rw[PX];by_cases q:g=f
  ·rw[if_pos q,if_pos q];exact ry
  ·rw[if_neg q,if_neg q];exact r g
 ·by_cases q:g=f
  ·rw[q];exact(Gq f y fs).1
  ·refine(Gq f y fs).2 g (wi g λz=>hg ?_)
   show (if g=f then some u else mA g)=none
   rw[if_neg q];exact z
theorem Inv.made(I:Inv X pins σ H s):Inv X pins σ (upd (upd H s.heap.objs.size (.own (s.heap.objs.size+1))) (s.heap.objs.size+1) (.ins C s.heap.objs.size []))
  { s with heap:=(s.heap.push PySem.W.emptyDict).push (PySem.W.instObj C s.heap.objs.size)}:=by
 have e1:(s.heap.push PySem.W.emptyDict).get? s.heap.objs.size=some PySem.W.emptyDict:=Heap.get?_push_size s.heap rfl;have e2:((s.heap.push PySem.W.emptyDict).push (PySem.W.instObj C s.heap.objs.size)).get? (s.heap.objs.size+1)=some (PySem.W.instObj C s.heap.objs.size):=by
  have:=Heap.get?_push_size (s.heap.push PySem.W.emptyDict) (o:=PySem.W.instObj C s.heap.objs.size) rfl;rwa [Heap.size_push] at this
 have e3:(s.heap.push PySem.W.emptyDict).Ns s.heap.objs.size (λ_=>none):=⟨PySem.W.emptyDict,#[],_,e1,rfl,(λe he=>absurd he (by simp)),λ_=>rfl⟩
 have I1:=I.laid (a:=s.heap.objs.size) (o:=.own (s.heap.objs.size+1)) (h':=s.heap.push PySem.W.emptyDict) (t':=s.toks) (λb u q=>Heap.get?_push_of_some _ q) (Nat.le_refl _) ⟨_,e1⟩;refine I1.laid (a:=s.heap.objs.size+1) (o:=.ins C s.heap.objs.size []) (t':=s.toks) (λb u q=>Heap.get?_push_of_some _ q) (Nat.le_of_eq (Heap.size_push _ _)) ?_;have ne:s.heap.objs.size≠s.heap.objs.size+1:=Nat.ne_of_lt (Nat.lt_succ_self _);refine⟨by rw[aI ne,aH],Nat.zero_le _,ne,e2,λ_=>none,(Heap.Ns1.of_empty e3).at λo q=>Heap.get?_push_of_some _ q,λ_=>True.intro,λy hy=>absurd rfl hy⟩
theorem P1{prog:Program}{w:World}{env:Env}{e:Expr}{f:Str}{pos:Pos}{s:Shared}{Q:Value->Shared->Prop}(hb:attributeBase e f env (eval e env)=eval e env)
  (h:wpAny (model prog w) A (eval e env) (λo bC=>wpAny (model prog w) A (getAttr o f true) Q E bC) E s):wpAny (model prog w) A (eval (.Attribute e f pos) env) Q E s :=
 Attribute_any_ h (by rw[arm_eval_Attribute,hb])
end
noncomputable def Gr(K:PySem.W.Frag)(ta:TE)(f:Str):TE:=λσ H Q=>ta σ H λx H1=>∃a C dx fs v,x = .ref a/\H1 a=some (.ins C dx fs)/\bL K C/\bO K C f/\fs.lookup f=some v/\Q v H1
noncomputable def P4(K:PySem.W.Frag)(ta tv:TE)(f:Str):TS:=λD σ H=>tv σ H λy H1=>ta σ H1 λx H2=>∃a C dx fs,x = .ref a/\H2 a=some (.ins C dx fs)/\bL K C/\bO K C f/\fs.length<1000/\
 D.nx σ (upd H2 a (.ins C dx (gw f y fs)))
section
variable{X:Cx}{o e value:Expr}{f:Str}{pos pos' abf:Pos}{ta tv:TE}
theorem dI(he:PE X e ta)(hb:attributeBase e f X.env (eval e X.env)=eval e X.env):PE X (.Attribute e f pos) (Gr X.K ta f):=by
 intro pins s σ H Q I h;refine P1 hb (aP (he pins s σ H _ I h) λu s1 ⟨x,H1,I1,rx,a,C,dx,fs,v,ex,ea,c,n,l,q⟩=>?_);subst ex;obtain rfl:u=Value.ref a:=rx;exact PZ I1 ea c n l λu' s2 I2 ru=>⟨v,H1,I2,ru,q⟩
theorem jB(ha:PE X o ta)(hv:PE X value tv)(hs:swapsWith value (some (.Attribute o f pos')) pos.line X.env=pure false):PS X (.Assign [.Attribute o f pos'] value pos) (P4 X.K ta tv f):=by
 intro pins s σ H D I h;refine plainObj_wpAny_Assign_Attribute (aP (hv pins s σ H _ I h) λu s1 ⟨y,H1,I1,ry,q⟩=>aP (ha pins s1 σ H1 _ I1 q) λov s2 ⟨x,H2,I2,rx,a,C,dx,fs,ex,ea,c,n,l,q2⟩=>?_) hs;subst ex;obtain rfl:ov=Value.ref a:=rx;exact P0 I2 ea c n l ry λs3 I3=>⟨σ,_,I3,q2⟩
end
section
variable{X:Cx}{pins:List (Addr×Obj)}{σ:St}{H:Hp}{s:Shared}{A:Around}{E:Value->Shared->Prop}{Q:Value->Shared->Prop}{c:Value}{b:Bool}
inductive g6 (K:PySem.W.Frag) (H:Hp):V->Value->Prop where
 | aV:g6 K H .aV (.type "NoneType")
 | bl (x:Bool):g6 K H (.bl x) (.type "bool")
 | int (i:Int):g6 K H (.int i) (.type "int")
 | str (x:Str):g6 K H (.str x) (.type "str")
 | qx (x:UInt64):g6 K H (.qx x) (.type "float")
 | lst {a:Addr} {xs:List V} (e:H a=some (.lst xs)):g6 K H (.ref a) (.type "list")
 | cS {a:Addr} {o:Obj} {xs:List V} (e:H a=some (.cS o (.lst xs))):g6 K H (.ref a) (.type "list")
 | tup {a:Addr} {xs:List V} (e:H a=some (.tup xs)):g6 K H (.ref a) (.type "tuple")
 | dK {a:Addr} {kvs:List (Key×V)} (e:H a=some (.dK kvs)):g6 K H (.ref a) (.type "dict")
 | dT {a:Addr} {kvs:List (List Key×V)} (e:H a=some (.dT kvs)):g6 K H (.ref a) (.type "dict")
 | ins {a C dx:Addr} {fs:List (Str×V)} (e:H a=some (.ins C dx fs)) (cl:bL K C) (ha:PySem.W.findIn K (.ref C) "__class__" = some (some (.builtin "object.__class__")))
   (hn:PySem.W.specialIn K (.builtin "object.__class__") "__get__" = some (some (.builtin "getset_descriptor.__get__"))) (P5:PySem.W.takesIn K (.builtin "object.__class__")=some true)
   (hm:PySem.W.mroIn K C (.type "object")=some true):g6 K H (.ref a) (.ref C)
theorem abg{x:V}{u t:Value}(I:Inv X pins σ H s)(rx:RelV x u)(ty:g6 X.K H x t)(e:PySem.W.kitOne X.K t c=some b)(h:∀tk,Q (.bool b) { s with toks:=tk }) :
  wpAny (model X.prog X.w) A (call (.builtin "isinstance") [u,c]) Q E s:=by
 cases ty with
 | aV=>cases (show u=Value.none from rx);exact PySem.W.kia_one PySem.W.kitx_none I.cY True.intro e (λz=>nomatch z) h
 | bl y=>cases (show u=Value.bool y from rx);exact PySem.W.kia_one PySem.W.kitx_bool I.cY True.intro e (λz=>nomatch z) h
 | int i=>obtain⟨t,q⟩:=(show ∃t,u=Value.int i t from rx);cases q;exact PySem.W.kia_one PySem.W.kitx_int I.cY True.intro e (λz=>nomatch z) h
 | str y=>obtain⟨t,q⟩:=(show ∃t,u=Value.str y t from rx);cases q;exact PySem.W.kia_one PySem.W.kitx_str I.cY True.intro e (λz=>nomatch z) h
 | qx y=>obtain⟨t,q⟩:=(show ∃t,u=Value.float y t from rx);cases q;exact PySem.W.kia_one PySem.W.kitx_float I.cY True.intro e (λz=>nomatch z) h
 | @lst a xs ea =>
  cases (show u=Value.ref a from rx);obtain⟨_,_,n,_,h1⟩:=(show dQ X.prog X.w H s.heap a (.lst xs) from I.aO a _ ea);exact PySem.W.kia_one PySem.W.kitx_list I.cY ⟨_,h1,rfl⟩ e (λz=>nomatch z) h
 | @cS a ob xs ea =>
  cases (show u=Value.ref a from rx);obtain⟨_,_,_,n,_,h1⟩:=(show dQ X.prog X.w H s.heap a (.cS ob (.lst xs)) from I.aO a _ ea);exact PySem.W.kia_one PySem.W.kitx_list I.cY ⟨_,h1,rfl⟩ e (λz=>nomatch z) h
 | @tup a xs ea =>
  cases (show u=Value.ref a from rx);obtain⟨_,_,_,p⟩:=(show dQ X.prog X.w H s.heap a (.tup xs) from I.aO a _ ea);obtain⟨o,h1,h2,_⟩:=p;exact PySem.W.kia_one PySem.W.kitx_tuple I.cY ⟨o,h1,h2⟩ e (λz=>nomatch z) h
 | @dK a kvs ea =>
  cases (show u=Value.ref a from rx);obtain⟨_,_,vs,_,p⟩:=(show dQ X.prog X.w H s.heap a (.dK kvs) from I.aO a _ ea);obtain⟨o,es,ep,h1,h2,_⟩:=p;exact PySem.W.kia_one PySem.W.kitx_dict I.cY ⟨o,h1,h2.1⟩ e (λz=>nomatch z) h
 | @dT a kvs ea =>
  cases (show u=Value.ref a from rx);obtain⟨_,_,xs,_,o,es,ep,h1,h2,_⟩:=(show dQ X.prog X.w H s.heap a (.dT kvs) from I.aO a _ ea);exact PySem.W.kia_one PySem.W.kitx_dict I.cY ⟨o,h1,h2.1⟩ e (λz=>nomatch z) h
 | @ins a C dx fs ea cl ha hn P5 hm =>
  cases (show u=Value.ref a from rx);obtain⟨mA,O,_⟩:=zK I.aO ea;obtain⟨od,J,_⟩:=O.look;exact PySem.W.kia_one (PySem.W.kitx_own (cl.get _) cl.hd ha hn P5 hm) I.cY J e (λz=>nomatch z) h
end
structure cK(k:Nat)(A:Around):Prop where
 hd:A.handled=none
 dp:A.depth+3*k+5<recursionLimit
 un:A.units+16*k+200<cLine
theorem cK.mono{j k:Nat}{A:Around}(r:cK k A)(h:j<=k):cK j A:=⟨r.hd,by have:=r.dp;lia,by have:=r.un;lia⟩
theorem cK.deeper{k:Nat}{A:Around}(r:cK (k+1) A)(env:Env):cK k (A.deeper env) :=
 ⟨r.hd,by have:=r.dp;show A.depth+1+3*k+5<_;lia,by have:=r.un;show A.units+3+16*k+200<_;lia⟩
theorem cK.in1{k:Nat}{A:Around}(r:cK (k+1) A):cK k A.in1 :=
 ⟨r.hd,by have:=r.dp;show A.depth+3*k+5<_;lia,by have:=r.un;show A.units+1+16*k+200<_;lia⟩
theorem abh{A:Around}{C:Addr}{us:List Value}{kw:List (Str×Value)}:(A.under (.builtin "type.__call__" ⟨.ref C::us,kw⟩)).depth=A.depth+1:=by
 first | rfl | simp[Around.under,Code.weight,Code.isCreation,Code.isGuard,Code.isCaller,Code.frames,Code.isFrame,guardIds]
theorem abi{A:Around}{C:Addr}{us:List Value}{kw:List (Str×Value)}:(A.under (.builtin "type.__call__" ⟨.ref C::us,kw⟩)).units=A.units+1:=by
 first | rfl | simp[Around.under,Code.cUnits,Code.frames,Code.isFrame]
theorem cK.make{k:Nat}{A:Around}(r:cK (k+1) A)(C:Addr)(us:List Value)(kw:List (Str×Value)):cK k (A.under (.builtin "type.__call__" ⟨.ref C::us,kw⟩)) :=
 ⟨r.hd,by have:=r.dp;rw[abh];lia,by have:=r.un;rw[abi];lia⟩
theorem cK.depth{k:Nat}{A:Around}(r:cK k A):A.depth<recursionLimit:=by have:=r.dp;lia
theorem cK.units{k:Nat}{A:Around}(r:cK k A):A.units+64<cLine:=by have:=r.un;lia
theorem cK.lg{k:Nat}{A:Around}(r:cK k A):A.units<cLine:=by have:=r.un;lia
noncomputable def sZ:TA:=λ_ H Q=>Q [] H
noncomputable def Gs(ta:TE)(tr:TA):TA:=λσ H Q=>ta σ H λx H1=>tr σ H1 λxs H2=>Q (x::xs) H2
section
variable{X:Cx}{e:Expr}{es:List Expr}{te:TE}{t:TA}{pos:Pos}
theorem aq:PA X [] sZ:=λ_ _ _ _ H Q I h=>Calls.spliced_nil ⟨[],H,I,.nil,h⟩
theorem ah(ha:PE X e te)(hr:PA X es t)(hs:starEach (e::es) X.env=(false,eval e X.env)::starEach es X.env:=by rfl):PA X (e::es) (Gs te t):=by
 intro pos pins s σ H Q I h;rw[hs]
 show wpAny _ _ (spliced ((false,eval e X.env)::backTo pos (starEach es X.env))) _ _ s;refine Calls.spliced_cons (aP (ha pins s σ H _ I h) λu s1 ⟨x,H1,I1,r1,q1⟩=>?_);exact aP (hr pos pins s1 σ H1 _ I1 q1) λus s2 ⟨xs,H2,I2,r2,q2⟩=>⟨x::xs,H2,I2,.cons r1 r2,q2⟩
noncomputable def P6(t:TA):TE:=λσ H Q=>t σ H λxs H1=>xs.length<=sizeLine/\∀p,H1 p=none->Q (.ref p) (upd H1 p (.tup xs))
noncomputable def P7(t:TA):TE:=λσ H Q=>t σ H λxs H1=>xs.length<=sizeLine/\∀p,H1 p=none->Q (.ref p) (upd H1 p (.lst xs))
theorem i9{x1}(h:PA X es t):PE X (.Tuple es x1 pos) (P6 t):=by
 intro pins s σ H Q I hq;refine wpAny_Tuple_spliced (aP (h pos pins s σ H _ I hq) λus s1 ⟨xs,H1,I1,r,z,q⟩=>⟨by rw[← r.length];exact z,?_⟩)
 have hf:H1 s1.heap.objs.size=none:=I1.aO.fresh (Nat.le_refl _);refine⟨.ref s1.heap.objs.size,upd H1 s1.heap.objs.size (.tup xs),I1.laid (t':=s1.toks) (λb u e=>Heap.get?_push_of_some _ e) (Nat.le_refl _) ?_,rfl,q _ hf⟩;exact⟨z,us,r,⟨_,Heap.get?_push_size _ rfl,rfl,_,rfl⟩⟩
theorem fF(h:PA X es t):PE X (.List es pos) (P7 t):=by
 intro pins s σ H Q I hq;refine wpAny_List_spliced (aP (h pos pins s σ H _ I hq) λus s1 ⟨xs,H1,I1,r,z,q⟩=>⟨by rw[← r.length];exact z,?_⟩)
 have hf:H1 s1.heap.objs.size=none:=I1.aO.fresh (Nat.le_refl _);refine⟨.ref s1.heap.objs.size,upd H1 s1.heap.objs.size (.lst xs),I1.laid (t':=s1.toks) (λb u e=>Heap.get?_push_of_some _ e) (Nat.le_refl _) ?_,rfl,q _ hf⟩;exact⟨z,us,0,r,Heap.get?_push_size _ rfl⟩
end
noncomputable abbrev Sp:=List V->Hp->VK->XK->Prop
noncomputable abbrev gf:=List Env->Hp->Shared->XK->Value->Shared->Prop
structure pG(P:Program)(w:World)(K:PySem.W.Frag)(mg:Str->Option Value)(base:Heap)(A:Around)(outer:List Env)(s:Shared)(H:Hp):Prop where
 frames:A.frames=some outer
 mod:Mod K mg base
 bs:∀b o,base.get? b=some o->s.heap.get? b=some o/\H b=none
 kg:base.objs.size<=s.heap.objs.size
 jQ:s.heap.FunFrames base outer
 o_:∀b∈iI outer,H b=none
 aO:c_ P w H s.heap
 bare:AllBare s.gens
noncomputable def CE(outer:List Env)(P:Program)(w:World)(H:Hp)(s:Shared)(Q:VK)(u:Value)(s':Shared):Prop :=
 ∃v H',s'.os=s.os/\AllBare s'.gens/\Un (iI outer) [] H H' s.heap s'.heap/\c_ P w H' s'.heap/\RelV v u/\Q v H'
noncomputable def CR(CX:gf)(outer:List Env)(P:Program)(w:World)(H:Hp)(s:Shared)(Q:VK)(E:XK)(r:Result)(s':Shared):Prop :=
 match r with
 | .ok (.ret u)=>CE outer P w H s Q u s'
 | .ok _=>False
 | .error e=>CX outer H s E e s'
structure aZ(P:Program)(w:World)(K:PySem.W.Frag)(mg:Str->Option Value)(base:Heap)(CX:gf)(k:Nat)(f:Addr)(fd:FuncData)(ps:List Str)(sp:Sp):Prop where
 len:∀vs H Q E,sp vs H Q E->vs.length=ps.length
 run:∀(A:Around) (outer:List Env) (s:Shared) (H:Hp) (args:Args) (us:List Value) (vs:List V) (Q:VK) (E:XK),cK k A->pG P w K mg base A outer s H->BindsTo s fd args (ps.zip us)->Vals vs us->sp vs H Q E->
  codeAny (model P w) A (.call (.ref f) args) (CR CX outer P w H s Q E) s
theorem pG.make{P:Program}{w:World}{K:PySem.W.Frag}{mg:Str->Option Value}{base:Heap}{A:Around}{outer:List Env}{s:Shared}{H:Hp}(e:pG P w K mg base A outer s H)(C:Addr)(us:List Value)(kw:List (Str×Value)) :
  pG P w K mg base (A.under (.builtin "type.__call__" ⟨.ref C::us,kw⟩)) outer s H:=⟨by first | exact e.frames | (simpa[Around.under,Code.envs,Code.isFrame,pushEnvs] using e.frames),e.mod,e.bs,e.kg,e.jQ,e.o_,e.aO,e.bare⟩
section
variable{X:Cx}{pins:List (Addr×Obj)}{σ:St}{H:Hp}{s s':Shared}
theorem Inv.Gu(I:Inv X pins σ H s):pG X.prog X.w X.K X.mg X.base X.A X.stack s H :=
 ⟨I.ok.frames,I.ok.mod,I.bs,Nat.le_trans I.ok.kg I.sz,I.stack,I.FN,I.aO,I.bare⟩
theorem Inv.after{Q:VK}{u:Value}(I:Inv X pins σ H s)(h:CE X.stack X.prog X.w H s Q u s'):EP X pins σ Q u s':=by
 obtain⟨v,H',os,bare,un,aO,r,q⟩:=h;obtain⟨hh,g,d,t,os'⟩:=s';obtain rfl:os' = s.os:=os;exact⟨v,H',I.call (h':=hh) (g':=g) (d':=d) (t':=t) (ch:=[]) un aO bare (λb z=>absurd z (by simp)),r,q⟩
end
noncomputable def P8(sp:Sp)(cM:List V)(E:XK)(t:TA):TE:=λσ H Q=>t σ H λvs H1=>sp (vs++cM) H1 Q E
noncomputable def Gv(C:Addr)(m:Str)(sp:Sp)(cM:List V)(E:XK)(ta:TE)(t:TA):TE:=λσ H Q=>ta σ H λx H1=>∃a dx fs,x = .ref a/\H1 a=some (.ins C dx fs)/\fs.lookup m=none/\
 t σ H1 λvs H2=>sp (x::(vs++cM)) H2 Q E
noncomputable def P9(C:Addr)(sp:Sp)(cM:List V)(E:XK)(t:TA):TE:=λσ H Q=>t σ H λvs H1=>∀x dx,H1 x=none->H1 dx=none->dx≠x->
 sp (.ref x::(vs++cM)) (upd (upd H1 dx (.own x)) x (.ins C dx [])) (λv H2=>v = .aV/\Q (.ref x) H2) E
noncomputable def Binds(K:PySem.W.Frag)(fd:FuncData)(ps:List Str)(ds:List Value):Prop :=
 ∀(s:Shared) (us:List Value),K.In s.heap->(us++ds).length=ps.length->BindsTo s fd ⟨us,[]⟩ (ps.zip (us++ds))
theorem Binds.all{K:PySem.W.Frag}{fd:FuncData}{ps:List Str}(h:∀us:List Value,us.length=ps.length->bindArgs fd ⟨us,[]⟩=pure (ps.zip us)):Binds K fd ps []:=λs us _ hl=>by
 rw[List.append_nil] at hl ⊢;exact .of_eq (h us hl)
noncomputable def Passes(CX:gf)(X:Cx)(E:XK):Prop:=∀(pins:List (Addr×Obj)) (σ:St) (H:Hp) (s:Shared) (e:Value) (s':Shared),Inv X pins σ H s->CX X.stack H s E e s'->X.xe e s'
section
variable{X:Cx}{CX:gf}{k:Nat}{f C:Addr}{fd:FuncData}{ps:List Str}{sp:Sp}{cM:List V}{ds:List Value}{E:XK}{x m:Str}{p pos apos:Pos}{e o:Expr}{es:List Expr}{ta:TE}{t:TA}
theorem nQ{pins:List (Addr×Obj)}{σ:St}{H:Hp}{s:Shared}{Q:VK}{us:List Value}{vs:List V}(F:aZ X.prog X.w X.K X.mg X.base CX k f fd ps sp)(hr:cK k X.A)(hb:Binds X.K fd ps ds)(hd:Vals cM ds)(hx:Passes CX X E)
  (I:Inv X pins σ H s) (r:Vals vs us) (h:sp (vs++cM) H Q E):wpAny (model X.prog X.w) X.A (call (.ref f) us) (EP X pins σ Q) X.xe s:=by
 have r2:Vals (vs++cM) (us++ds):=r.append hd;have hl:(us++ds).length=ps.length:=by rw[← r2.length];exact F.len _ _ _ _ h
 refine wpAny_call (codeAny_mono (F.run X.A X.stack s H ⟨us,[]⟩ (us++ds) (vs++cM) Q E hr I.Gu (hb s us I.cY hl) r2 h) λr s' hq=>?_);cases r with
 | error e=>exact hx pins σ H s e s' I hq
 | ok fl =>
  cases fl with
  | ret u=>exact I.after hq
  | next=>exact False.elim hq
  | brk=>exact False.elim hq
  | cont=>exact False.elim hq
theorem aW(F:aZ X.prog X.w X.K X.mg X.base CX k f fd ps sp)(hr:cK k X.A)(hg:Gl X x)(hm:X.mg x=some (.ref f))(hk:PySem.W.keepIn X.K (.ref f)=true)(hb:Binds X.K fd ps ds)(hd:Vals cM ds)(hx:Passes CX X E)
  (ha:PA X (e::es) t) (lq:(x == ("__debug__" : Str))=false:=by decide) (he:starEach (e::es) X.env=(false,eval e X.env)::starEach es X.env:=by rfl) (gz:(backTo pos (starEach es X.env)).any (·.1)=false:=by rfl) :
  PE X (.Call (.Name x p) (e::es) [] pos) (P8 sp cM E t):=by
 intro pins s σ H Q I h;refine wpAny_Call_Name_kw (vq I hg hm ?_ lq);refine PySem.W.callWith_K (h₀:=X.base) I.ok.mod.mC hk (aP (ha pos pins s σ H _ I h) λus s1 ⟨vs,H1,I1,r,q⟩=>⟨I1.cY,?_⟩) he gz;exact nQ F hr hb hd hx I1 r q
theorem P_{pl:Sem Bool}(he:PE X o ta)(c:bL X.K C)(hm:Meth X.K C m f)(F:aZ X.prog X.w X.K X.mg X.base CX k f fd ps sp)(hr:cK k X.A)(hb:Binds X.K fd ps ds)(hd:Vals cM ds)(hx:Passes CX X E)(ha:PA X (e::es) t)
  (cG:starEach (e::es) X.env=(false,eval e X.env)::starEach es X.env:=by rfl) (gz:(backTo pos (starEach es X.env)).any (·.1)=false:=by rfl)
  (ht:eval (.Call (.Attribute o m apos) (e::es) [] pos) X.env=(do
   let ov ← eval o X.env
   standAt apos.atName
   let (f,first) ← holding [ov] (getMethod ov m pl)
   callWith pos f first (backTo pos (starEach (e::es) X.env)) (backToKw pos (keywordEach [] X.env))):=by rfl) :
  PE X (.Call (.Attribute o m apos) (e::es) [] pos) (Gv C m sp cM E ta t):=by
 intro pins s σ H Q I h;refine PySem.W.methodCall_KW (pl:=pl) (aP (he pins s σ H _ I h) λu s1 ⟨x,H1,I1,rx,a,dx,fs,ex,ea,l,q⟩=>?_) ht;subst ex;obtain rfl:u=Value.ref a:=rx;refine pF I1 ea c hm l ?_;refine PySem.W.callWith_K (first:=[.ref a]) (h₀:=X.base) I.ok.mod.mC hm.kp (aP (ha pos pins s1 σ H1 _ I1 q) λus s2 ⟨vs,H2,I2,r,q2⟩=>⟨I2.cY,?_⟩) cG gz
 exact nQ (us:=.ref a::us) (vs:=.ref a::vs) F hr hb hd hx I2 (.cons rfl r) q2
theorem Qa{pl:Sem Bool}(he:PE X o ta)(c:bL X.K C)(hm:Meth X.K C m f)(F:aZ X.prog X.w X.K X.mg X.base CX k f fd ps sp)(hr:cK k X.A)(hb:Binds X.K fd ps ds)(hd:Vals cM ds)(hx:Passes CX X E)
  (ht:eval (.Call (.Attribute o m apos) [] [] pos) X.env=(do
   let ov ← eval o X.env
   standAt apos.atName
   let (f,first) ← holding [ov] (getMethod ov m pl)
   callWith pos f first (backTo pos (starEach [] X.env)) (backToKw pos (keywordEach [] X.env))):=by rfl) :
  PE X (.Call (.Attribute o m apos) [] [] pos) (Gv C m sp cM E ta sZ):=by
 intro pins s σ H Q I h;refine PySem.W.methodCall_KW (pl:=pl) (aP (he pins s σ H _ I h) λu s1 ⟨x,H1,I1,rx,a,dx,fs,ex,ea,l,q⟩=>?_) ht;subst ex;obtain rfl:u=Value.ref a:=rx;refine pF I1 ea c hm l ?_;exact PySem.W.callWith_K0 (first:=[.ref a]) I1.cY hm.kp (nQ (us:=[.ref a]) (vs:=[.ref a]) F hr hb hd hx I1 (.cons rfl .nil) q)
structure Mk(K:PySem.W.Frag)(C f:Addr):Prop where
 makes:PySem.W.makesIn K C=true
 init:PySem.W.findIn K (.ref C) "__init__" = some (some (.ref f))
 fn:PySem.W.isFn K (.ref f)=true
 kp:PySem.W.keepIn K (.ref C)=true
theorem abj{pins:List (Addr×Obj)}{σ:St}{H:Hp}{s:Shared}{Q:VK}{us:List Value}{vs:List V}(M:Mk X.K C f)(F:aZ X.prog X.w X.K X.mg X.base CX k f fd ps sp)(hr:cK (k+1) X.A)(hb:Binds X.K fd ps ds)(hd:Vals cM ds)
  (hx:Passes CX X E) (I:Inv X pins σ H s) (r:Vals vs us)
  (h:∀x dx,H x=none->H dx=none->dx≠x->sp (.ref x::(vs++cM)) (upd (upd H dx (.own x)) x (.ins C dx [])) (λv H2=>v = .aV/\Q (.ref x) H2) E) :
  wpAny (model X.prog X.w) X.A (call (.ref C) us) (EP X pins σ Q) X.xe s:=by
 have hq:=h (s.heap.objs.size+1) s.heap.objs.size (I.aO.fresh (Nat.le_succ _)) (I.aO.fresh (Nat.le_refl _)) (Nat.ne_of_lt (Nat.lt_succ_self _));have I2:=Inv.made (C:=C) I;have r2:Vals (V.ref (s.heap.objs.size+1)::(vs++cM)) (Value.ref (s.heap.objs.size+1)::(us++ds)):=.cons rfl (r.append hd);have hl:(Value.ref (s.heap.objs.size+1)::us++ds).length=ps.length:=by
  have e:=r2.length;rw[F.len _ _ _ _ hq] at e;exact e.symm
 refine wpAny_call (aba (f:=f) I.cY M.makes M.init (beq_iff_eq.mp M.fn) (codeAny_mono (F.run _ X.stack _ _ ⟨Value.ref (s.heap.objs.size+1)::us,[]⟩ (Value.ref (s.heap.objs.size+1)::(us++ds)) _ _ E (hr.make C us [])
  (I2.Gu.make C us []) (hb _ (Value.ref (s.heap.objs.size+1)::us) I2.cY hl) r2 hq) λr s' jC=>?_))
 cases r with
 | error e=>exact hx pins σ _ _ e s' I2 jC
 | ok fl =>
  cases fl with
  | ret u =>
   obtain⟨v,H',I3,rv,ev,q3⟩:=I2.after jC;subst ev;exact⟨rv,⟨V.ref (s.heap.objs.size+1),H',I3,rfl,q3⟩⟩
  | next=>exact False.elim jC
  | brk=>exact False.elim jC
  | cont=>exact False.elim jC
theorem qM(M:Mk X.K C f)(F:aZ X.prog X.w X.K X.mg X.base CX k f fd ps sp)(hr:cK (k+1) X.A)(hg:Gl X x)(hm:X.mg x=some (.ref C))(hb:Binds X.K fd ps ds)(hd:Vals cM ds)(hx:Passes CX X E)
  (ha:PA X (e::es) t) (lq:(x == ("__debug__" : Str))=false:=by decide) (he:starEach (e::es) X.env=(false,eval e X.env)::starEach es X.env:=by rfl) (gz:(backTo pos (starEach es X.env)).any (·.1)=false:=by rfl) :
  PE X (.Call (.Name x p) (e::es) [] pos) (P9 C sp cM E t):=by
 intro pins s σ H Q I h;refine wpAny_Call_Name_kw (vq I hg hm ?_ lq);refine PySem.W.callWith_K (h₀:=X.base) I.ok.mod.mC M.kp (aP (ha pos pins s σ H _ I h) λus s1 ⟨vs,H1,I1,r,q⟩=>⟨I1.cY,?_⟩) he gz;exact abj M F hr hb hd hx I1 r q
end
noncomputable def PK(X:Cx)(mJ:List Keyword)(t:TA):Prop :=
 ∀(pos:Pos) (pins:List (Addr×Obj)) (s:Shared) (σ:St) (H:Hp) (Q:List V->Hp->Prop),Inv X pins σ H s->t σ H Q->wpAny (model X.prog X.w) X.A (evalAll ((backToKw pos (keywordEach mJ X.env)).map (·.2))) (AP X pins σ Q) X.xe s
section
variable{X:Cx}{CX:gf}{k:Nat}{f C:Addr}{fd:FuncData}{ps ks:List Str}{sp:Sp}{E:XK}{x m:Str}{p pos apos abk:Pos}{e o:Expr}{es:List Expr}{mJ:List Keyword}{te ta:TE}{t tk:TA}{nm:Option Str}
theorem abl:PK X [] sZ:=λ_ _ _ _ H Q I h=>wpAny_evalAll_nil ⟨[],H,I,.nil,h⟩
theorem abm(ha:PE X e te)(hr:PK X mJ t):PK X (⟨nm,e,abk⟩::mJ) (Gs te t):=by
 intro pos pins s σ H Q I h
 show wpAny _ _ (evalAll ((do let v ← eval e X.env;standAt pos;pure v)::(backToKw pos (keywordEach mJ X.env)).map (·.2))) _ _ s
 refine wpAny_evalAll_cons (wpAny_bind (aP (ha pins s σ H _ I h) λu s1 ⟨x,H1,I1,r1,q1⟩=>wpAny_bind (wpAny_standAt (wpAny_pure ?_))));exact aP (hr pos pins s1 σ H1 _ I1 q1) λus s2 ⟨xs,H2,I2,r2,q2⟩=>⟨x::xs,H2,I2,.cons r1 r2,q2⟩
structure zL(K:PySem.W.Frag)(fd:FuncData)(ps ks:List Str)(g:List Value->List Value->List Value)(gV:List V->List V->List V):Prop where
 to:∀(s:Shared) (us ws:List Value),K.In s.heap->(g us ws).length=ps.length->BindsTo s fd ⟨us,ks.zip ws⟩ (ps.zip (g us ws))
 rel:∀ {vs:List V} {us:List Value} {zs:List V} {ws:List Value},Vals vs us->Vals zs ws->Vals (gV vs zs) (g us ws)
noncomputable def Qc(sp:Sp)(gV:List V->List V->List V)(E:XK)(t tk:TA):TE:=λσ H Q=>t σ H λvs H1=>tk σ H1 λzs H2=>sp (gV vs zs) H2 Q E
variable{g:List Value->List Value->List Value}{gV:List V->List V->List V}
theorem abn{pins:List (Addr×Obj)}{σ:St}{H:Hp}{s:Shared}{Q:VK}{us ws:List Value}{vs zs:List V}(F:aZ X.prog X.w X.K X.mg X.base CX k f fd ps sp)(hr:cK k X.A)(hb:zL X.K fd ps ks g gV)(hx:Passes CX X E)
  (I:Inv X pins σ H s) (r:Vals vs us) (rz:Vals zs ws) (h:sp (gV vs zs) H Q E):wpAny (model X.prog X.w) X.A (call (.ref f) us (ks.zip ws)) (EP X pins σ Q) X.xe s:=by
 have r2:=hb.rel r rz;have hl:(g us ws).length=ps.length:=by rw[← r2.length];exact F.len _ _ _ _ h
 refine wpAny_call (codeAny_mono (F.run X.A X.stack s H ⟨us,ks.zip ws⟩ (g us ws) (gV vs zs) Q E hr I.Gu (hb.to s us ws I.cY hl) r2 h) λr s' hq=>?_);cases r with
 | error e=>exact hx pins σ H s e s' I hq
 | ok fl =>
  cases fl with
  | ret u=>exact I.after hq
  | next=>exact False.elim hq
  | brk=>exact False.elim hq
  | cont=>exact False.elim hq
theorem abo(F:aZ X.prog X.w X.K X.mg X.base CX k f fd ps sp)(hr:cK k X.A)(hg:Gl X x)(hm:X.mg x=some (.ref f))(hk:PySem.W.keepIn X.K (.ref f)=true)(hb:zL X.K fd ps ks g gV)(hx:Passes CX X E)
  (ha:PA X (e::es) t) (hkw:PK X mJ tk) (s_:(backToKw pos (keywordEach mJ X.env)).all (·.1.isSome)=true:=by rfl) (zM:(backToKw pos (keywordEach mJ X.env)).filterMap (·.1)=ks:=by rfl)
  (lq:(x == ("__debug__" : Str))=false:=by decide) (he:starEach (e::es) X.env=(false,eval e X.env)::starEach es X.env:=by rfl)
  (gz:((backTo pos (starEach (e::es) X.env)).any (·.1) || (backToKw pos (keywordEach mJ X.env)).any (·.1.isNone))=false:=by rfl) :
  PE X (.Call (.Name x p) (e::es) mJ pos) (Qc sp gV E t tk):=by
 intro pins s σ H Q I h;refine wpAny_Call_Name_kw (vq I hg hm ?_ lq);refine PySem.W.callWith_KW (h₀:=X.base) I.ok.mod.mC hk s_ (aP (ha pos pins s σ H _ I h) λus s1 ⟨vs,H1,I1,r,q⟩=>?_) gz he;refine aP (hkw pos pins s1 σ H1 _ I1 q) λws s2 ⟨zs,H2,I2,rz,q2⟩=>⟨I2.cY,?_⟩;rw[zM];exact abn F hr hb hx I2 r rz q2
end
structure bz(N P:List Str)(sc:Scope):Prop where
 kind:sc.kind = .function
 co:sc.isCoroutine=false
 gen:sc.isGenerator=false
 nd:N.Nodup
 pre:N.take P.length=P
 par:∀x∈P,sc.names.lookup x=some .local\/sc.names.lookup x=some .cell
 abp:∀y∈sc.names,y.2≠.free
theorem Qd{kindOf:Str->Option NameKind}{x:Str}:∀ {binds:List (Str×Value)} {m:Str->Option Value},(∀v,(x,v)∉binds)->bindL kindOf binds m x=m x
 | [],_,_=>rfl
 | (n,v)::r,m,h=>by
  unfold bindL;rw[Qd λw hw=>h w (List.mem_cons_of_mem _ hw)];split
  ·have:x≠n:=by rintro rfl;exact h v List.mem_cons_self
   simp[this]
  ·rfl
theorem Qe{kindOf:Str->Option NameKind}{x:Str}:∀ {binds:List (Str×Value)} {m:Str->Option Value},(∀v,(x,v)∉binds)->bindC kindOf binds m x=m x
 | [],_,_=>rfl
 | (n,v)::r,m,h=>by
  unfold bindC;rw[Qe λw hw=>h w (List.mem_cons_of_mem _ hw)];split
  ·rfl
  ·have:x≠n:=by rintro rfl;exact h v List.mem_cons_self
   simp[this]
theorem Qf{kindOf:Str->Option NameKind}{x:Str}{v:Value}:∀ {P:List Str} {vs:List Value} {i:Nat} {m:Str->Option Value},P.Nodup->P[i]? = some x->vs[i]? = some v->kindOf x=some .local->
  bindL kindOf (P.zip vs) m x=some v
 | [],_,_,_,_,h,_,_=>by simp at h
 | _::_,[],_,_,_,_,h,_=>by simp at h
 | p::P,w::vs,0,m,nd,h1,h2,hk=>by
  simp at h1 h2;subst h1;subst h2
  show bindL kindOf ((p,w)::P.zip vs) m p=_;unfold bindL;rw[Qd λv hv=>(List.nodup_cons.mp nd).1 (List.of_mem_zip hv).1,if_pos hk];simp
 | p::P,w::vs,i+1,m,nd,h1,h2,hk=>by
  show bindL kindOf ((p,w)::P.zip vs) m x=_;unfold bindL;exact Qf (i:=i) (List.nodup_cons.mp nd).2 (by simpa using h1) (by simpa using h2) hk
theorem Qg{kindOf:Str->Option NameKind}{x:Str}{v:Value}:∀ {P:List Str} {vs:List Value} {i:Nat} {m:Str->Option Value},P.Nodup->P[i]? = some x->vs[i]? = some v->kindOf x≠some .local->
  bindC kindOf (P.zip vs) m x=some v
 | [],_,_,_,_,h,_,_=>by simp at h
 | _::_,[],_,_,_,_,h,_=>by simp at h
 | p::P,w::vs,0,m,nd,h1,h2,hk=>by
  simp at h1 h2;subst h1;subst h2
  show bindC kindOf ((p,w)::P.zip vs) m p=_;unfold bindC;rw[Qe λv hv=>(List.nodup_cons.mp nd).1 (List.of_mem_zip hv).1,if_neg hk];simp
 | p::P,w::vs,i+1,m,nd,h1,h2,hk=>by
  show bindC kindOf ((p,w)::P.zip vs) m x=_;unfold bindC;exact Qg (i:=i) (List.nodup_cons.mp nd).2 (by simpa using h1) (by simpa using h2) hk
noncomputable def start(N:List Str)(vs:List V):St:=vs.map some++List.replicate (N.length - vs.length) none
noncomputable def nU(CX:gf)(P:Program)(w:World)(K:PySem.W.Frag)(mg:Str->Option Value)(base:Heap)(N:List Str)(qual:Str)(scope:Scope)(f:Addr)(cd:Value)(A:Around)(outer:List Env)(s:Shared)(H:Hp)(E:XK):Cx where
 prog:=P
 w:=w
 K:=K
 mg:=mg
 base:=base
 A:=A.deeper (envOfC qual scope s.heap.objs.size f cd)
 N:=N
 dG:=s
 gR:=H
 env:=envOfC qual scope s.heap.objs.size f cd
 outer:=outer
 stack:=envOfC qual scope s.heap.objs.size f cd::outer
 ex:=[]
 calm:=true
 fn:=λ_=>true
 pn:=[]
 xe:=λe s'=>wpAny (model P w) (A.deeper (envOfC qual scope s.heap.objs.size f cd)) (leaving (envOfC qual scope s.heap.objs.size f cd) e) (λ_ iO=>CX outer H s E e iO) (λe' iO=>CX outer H s E e' iO) s'
theorem Qh{sc:Scope}{n:Nat}{x:Str}(h:sc.names.lookup x=some .cell):∃c,(cellsFrom n sc.names []).lookup x=some c:=by
 have q:=PySem.W.cellsFrom_some sc.names n [] (.inl h);exact Option.isSome_iff_exists.mp q
theorem abq{CX:gf}{P:Program}{w:World}{K:PySem.W.Frag}{mg:Str->Option Value}{base:Heap}{N ps:List Str}{qual:Str}{scope:Scope}{f:Addr}{cd:Value}{A:Around}{outer:List Env}{s s1:Shared}{H:Hp}{E:XK}{us:List Value}{vs:List V}
  (S:bz N ps scope) (hd:A.handled=none) (e0:pG P w K mg base A outer s H) (hl:vs.length=ps.length) (r:Vals vs us)
  (x:InCallC s s.heap.objs.size (bindL (envOfC qual scope s.heap.objs.size f cd).kindOf (ps.zip us) λ_=>none) (cellsFrom (s.heap.objs.size+1) scope.names []) (bindC (envOfC qual scope s.heap.objs.size f cd).kindOf (ps.zip us) λ_=>none) s1) :
  Inv (nU CX P w K mg base N qual scope f cd A outer s H E) [] (start N vs) H s1:=by
 have gz:ps.length<=N.length:=by have:=congrArg List.length S.pre;rw[List.length_take] at this;lia
 obtain⟨h1,tk,rfl,hk⟩:=x.done;have vO:∀b:Addr,b∉(nU CX P w K mg base N qual scope f cd A outer s H E).ex:=λb z=>absurd (show b∈([]:List Addr) from z) (by simp)
 refine⟨⟨e0.mod,S.kind,rfl,rfl,Nat.le_refl _,λy z c h1 h2=>?_,λy hy=>?_,λy c _ h=>?_,λ_=>hd,Around.frames_deeper e0.frames,.inr ⟨rfl,rfl⟩,λb z=>absurd z (vO b),e0.bs,e0.kg,λb _ _=>vO b,λb z=>absurd z (vO b),e0.jQ,e0.o_⟩,
  rfl,e0.bare,Un.kept hk,⟨_,x.toInCall.ns,λi y v h1 h2 h3=>?_⟩,λy c h=>⟨_,x.cell y c h⟩,e0.aO.fresh (Nat.le_refl _),λy c h=>?_,λp hp=>absurd (show p∈([]:List (Addr×Obj)) from hp) (by simp),e0.aO.kept hk,?_⟩
 ·exact name_of_addr x.apart (PySem.mem_of_lookup h1) (PySem.mem_of_lookup h2)
 ·have hy:scope.names.lookup y=some .cell\/scope.names.lookup y=some .free:=hy;rcases hy with hy | hy
  ·exact Qh hy
  ·exact absurd rfl (S.abp _ (PySem.mem_of_lookup hy))
 ·exact Nat.le_of_lt (x.above y c (PySem.mem_of_lookup h))
 ·have hi:i<vs.length:=by
   unfold start at h2;by_cases hi:i<vs.length
   ·exact hi
   ·rw[List.getElem?_append_right (by simpa using hi)] at h2
    rw[List.getElem?_replicate] at h2;split at h2 <;> cases h2
  have ha:vs[i]? = some v:=by
   unfold start at h2;rw[List.getElem?_append_left (by simpa using hi),List.getElem?_map] at h2
   cases e:vs[i]? with
   | none=>rw[e] at h2;cases h2
   | some a=>rw[e] at h2;cases h2;rfl
  obtain⟨u,hu,rv⟩:=r.get ha;have hp:ps[i]? = some y:=by
   rw[← S.pre,List.getElem?_take_of_lt (by lia)];exact h1
  have Qi:ps.Nodup:=by rw[← S.pre];exact S.nd.sublist (List.take_sublist _ _)
  refine⟨u,rv,?_⟩;rcases S.par y (List.mem_of_getElem? hp) with k | k
  ·exact .inl ⟨k,Qf Qi hp hu k⟩
  ·obtain⟨c,e⟩:=Qh (n:=s.heap.objs.size+1) k;refine .inr ⟨.inl k,c,e,?_⟩;have q:=x.cell y c e;rw[Qg Qi hp hu (by show scope.names.lookup y≠_;rw[k];decide)] at q
   exact q
 ·exact e0.aO.fresh (Nat.le_of_lt (x.above y c (PySem.mem_of_lookup h)))
 ·unfold start
  show _=N.length;rw[List.length_append,List.length_map,List.length_replicate];lia
theorem Gw{CX:gf}{P:Program}{w:World}{K:PySem.W.Frag}{mg:Str->Option Value}{base:Heap}{k:Nat}{f:Addr}{name qual:Str}{params:Arguments}{body:List Stmt}{scope:Scope}{dV kV doc pm aU ct oc:Value}{an od:Option Addr}
  {i_:Array (Option Value)} {N ps:List Str} {sp:Sp} (lk:K.lookup f=some ⟨oc,od,.func (PySem.W.fnOf name qual params body scope dV kV doc pm an aU ct),i_⟩) (gH:PySem.W.codeIn K aU qual=true) (S:bz N ps scope)
  (len:∀vs H Q E,sp vs H Q E->vs.length=ps.length)
  (qN:∀(A:Around) (outer:List Env) (s:Shared) (H:Hp) (vs:List V) (Q:VK) (E:XK),cK k (A.deeper (envOfC qual scope s.heap.objs.size f aU))->sp vs H Q E->
   ∃t,gT (nU CX P w K mg base N qual scope f aU A outer s H E) body t/\t { nx:=λ_ H'=>Q .aV H',rt:=Q } (start N vs) H) :
  aZ P w K mg base CX (k+1) f (PySem.W.fnOf name qual params body scope dV kV doc pm an aU ct) ps sp:=by
 refine⟨len,λA outer s H args us vs Q E hr e0 hb r iP=>?_⟩;have hl:=len _ _ _ _ iP;have KX:K.In s.heap:=e0.mod.mC.keeps λb o e=>(e0.bs b o e).1;have lim:s.heap.NoLimit:=e0.mod.nolimit.keeps λb o e=>(e0.bs b o e).1;have abr:∀y∈ps.zip us,scope.names.lookup y.1=some .local\/(scope.names.lookup y.1=some .cell/\((cellsFrom (s.heap.objs.size+1) scope.names []).lookup y.1).isSome=true):=λ⟨n,v⟩ hy=>by
  rcases S.par n (List.of_mem_zip hy).1 with q | q
  ·exact .inl q
  ·exact .inr ⟨q,PySem.W.cellsFrom_some _ _ _ (.inl q)⟩
 refine codeAny_call_function hr.depth (KX _ _ lk) rfl S.co S.gen rfl (PySem.W.codeRec_of KX gH) (hb _ _ _ _ ?_);refine wpAny_newFunctionEnv_cells S.kind abr λenv he s1 x=>?_;subst he;refine⟨lim.keeps x.toInCall.keep,codeAny_func ?_⟩;obtain⟨t,ht,hq⟩:=qN A outer s H vs Q E (hr.deeper _) iP;have I:Inv (nU CX P w K mg base N qual scope f aU A outer s H E) [] (start N vs) H s1:=abq S hr.hd e0 hl r x;refine wpAny_mono (ht [] s1 (start N vs) H _ I hq) (λfl s' hs=>?_) λe s' hs=>hs;have fin:∀ {bG:St} {H':Hp} {v:V} {u:Value},Inv (nU CX P w K mg base N qual scope f aU A outer s H E) [] bG H' s'->RelV v u->Q v H'->CE outer P w H s Q u s' :=
  λ{bG H' v u} J rv q=>⟨v,H',J.os,J.bare,J.base,J.aO,rv,q⟩
 cases fl with
 | ret u =>
  obtain⟨v,bG,H',J,rv,q⟩:=hs;exact fin J rv q
 | next =>
  obtain⟨bG,H',J,q⟩:=hs;exact fin (v:=V.aV) (u:=Value.none) J rfl q
 | brk =>
  obtain⟨_,_,_,q⟩:=hs;exact False.elim q
 | cont =>
  obtain⟨_,_,_,q⟩:=hs;exact False.elim q
section
variable{X:Cx}{x:Str}{p pos:Pos}{e:Expr}{es:List Expr}{t:TA}{id T:String}{r:List V->Hp->VK->Prop}
noncomputable def Gx(r:List V->Hp->VK->Prop)(t:TA):TE:=λσ H Q=>t σ H λvs H1=>r vs H1 Q
theorem bY(hc:iM X (.builtin id) r)(hg:Gl X x)(hm:X.mg x=none)(hv:bootBuiltins x=some (.builtin id))(ha:PA X (e::es) t)(hn:x≠"__name__" := by decide)(lq:(x == ("__debug__" : Str))=false:=by decide)
  (he:starEach (e::es) X.env=(false,eval e X.env)::starEach es X.env:=by rfl) (gz:(backTo pos (starEach es X.env)).any (·.1)=false:=by rfl):PE X (.Call (.Name x p) (e::es) [] pos) (Gx r t):=by
 intro pins s σ H Q I h;refine wpAny_Call_Name_kw (kX I hg hm hv ?_ hn lq);exact PyProof.Rows.callWith_builtin1 (aP (ha pos pins s σ H _ I h) λus s1 ⟨vs,H1,I1,r1,q1⟩=>hc pins s1 σ H1 vs us Q I1 r1 q1) he gz
theorem vP(hc:iM X (.type T) r)(hg:Gl X x)(hm:X.mg x=none)(hv:bootBuiltins x=some (.type T))(ha:PA X (e::es) t)(hn:x≠"__name__" := by decide)(lq:(x == ("__debug__" : Str))=false:=by decide)
  (he:starEach (e::es) X.env=(false,eval e X.env)::starEach es X.env:=by rfl) (gz:(backTo pos (starEach es X.env)).any (·.1)=false:=by rfl):PE X (.Call (.Name x p) (e::es) [] pos) (Gx r t):=by
 intro pins s σ H Q I h;refine wpAny_Call_Name_kw (kX I hg hm hv ?_ hn lq);exact PyProof.Rows.callWith_type1 (aP (ha pos pins s σ H _ I h) λus s1 ⟨vs,H1,I1,r1,q1⟩=>hc pins s1 σ H1 vs us Q I1 r1 q1) he gz
end
end _L
namespace _H
open PySem PyProof.Rows
noncomputable def lexLt:List Int->List Int->Bool
 | [],[]=>false
 | [],_::_=>true
 | _::_,[]=>false
 | x::xs,y::ys=>if x=y then lexLt xs ys else decide (x<y)
theorem Gy(x y:Int)(xs ys:List Int):lexLt (x::xs) (y::ys)=if x=y then lexLt xs ys else decide (x<y):=rfl
theorem Qj:lexLt [] [] = false:=rfl
theorem abt(y:Int)(ys:List Int):lexLt [] (y::ys)=true:=rfl
theorem abu(x:Int)(xs:List Int):lexLt (x::xs) [] = false:=rfl
theorem abv(A:Around)(s:Shared)(a:Int)(t:Tok)(c:Int)(u:Tok):∃e,SeqAt.EqAt A s (.int a t) (.int c u) e/\(e=true↔a=c) :=
 ⟨(a == c),SeqAt.EqAt.int_int a t c u,by simp⟩
theorem abw(A:Around)(s:Shared)(a:Int)(t:Tok)(c:Int)(u:Tok)(prog:Program)(w:World)(E:Value->Shared->Prop)(Q:Value->Shared->Prop)(h:Q (.bool (decide (a<c))) s) :
  wpAny (model prog w) A (richCompare .Lt (.int a t) (.int c u)) Q E s :=
 (PyProof.Rows.lt_int h:wpAny (model prog w) A (compareOp .Lt (.int a t) (.int c u)) Q E s)
section
open PySem.SeqAt
open PySem.AutoSeq1 (wpAny_loadPart')
open PySem.MeetsSeq PySem.MeetsSeq2 PySem.MeetsSeq3
theorem abx(l b:Addr)(items mK:Array Value)(n n2:Nat)(dd Gz:Option Addr)(sl GA:Array (Option Value))(ns ms:List Int)(hi:IntsAre items.toList ns)(hj:IntsAre mK.toList ms) :
  Meets (Builtin.«tuple.__lt__» ⟨[.ref l,.ref b],[]⟩)
   (λ_ R s=>s.heap.get? l=some { cls:=.type "tuple",dict:=dd,data:=.seq items n,slots:=sl }/\s.heap.get? b=some { cls:=.type "tuple",dict:=Gz,data:=.seq mK n2,slots:=GA }/\
    R (.ok (.ret (.bool (lexLt ns ms)))) s) :=
 .of_wp λprog w A R s h=>by
  obtain⟨hp,g,d,tk,os⟩:=s;obtain⟨hl,hb,h⟩:=h;have f2:=AutoSeq1.sub_tuple_tuple;have z1:items.size=ns.length:=by rw[← hi.length];simp
  have z2:mK.size=ms.length:=by rw[← hj.length];simp
  wp_walk using wpAny_loadPart' hl,wpAny_loadPart' hb,wpAny_forIn_list _ (λrest b s'=>b.1=none/\s' = ⟨hp,g,d,tk,os⟩/\∃(vs ws:List Value) (iQ tu:List Int),rest=vs.zip ws/\
   IntsAre vs iQ/\IntsAre ws tu/\iQ.length+mK.size=tu.length+items.size/\R (.ok (.ret (.bool (lexLt iQ tu)))) ⟨hp,g,d,tk,os⟩) _
  case turn =>
   rintro⟨y,x⟩ rest b s' ⟨mL,rfl,vs,ws,iQ,tu,hz,GB,pH,hlen,hR⟩;cases GB with
   | nil=>rw[List.zip_nil_left] at hz;cases hz
   | cons a t aby =>
    cases pH with
    | nil=>rw[List.zip_nil_right] at hz;cases hz
    | cons c u abz =>
     rw[List.zip_cons_cons] at hz;injection hz with hyx abA;injection hyx with hy hx;subst hy hx;rw[Gy] at hR;simp only[List.length_cons] at hlen;obtain⟨e,he,Qk⟩:=abv A.in1 ⟨hp,g,d,tk,os⟩ a t c u;refine wpAny_bind (he prog w _ _ ?_);cases e with
     | true =>
      rw[if_pos (Qk.mp rfl)] at hR;wp_walk;exact⟨rfl,rfl,_,_,_,_,abA,aby,abz,by lia,hR⟩
     | false =>
      rw[if_neg (λq=>absurd (Qk.mpr q) Bool.false_ne_true)] at hR;have hri:=abw A.in1 ⟨hp,g,d,tk,os⟩ a t c u prog w;wp_walk using hri;exact⟨_,rfl,by simpa using hR⟩
  case fin =>
   rintro⟨b1,b2⟩ s' ⟨mL,rfl,vs,ws,iQ,tu,hz,GB,pH,hlen,hR⟩;simp only at mL;subst mL;have hv:lexLt iQ tu=decide (items.size<mK.size):=by
    cases GB with
    | nil =>
     cases pH with
     | nil =>
      simp only[List.length_nil] at hlen;rw[Qj];exact(decide_eq_false (by lia)).symm
     | cons c u hw =>
      simp only[List.length_nil,List.length_cons] at hlen;rw[abt];exact(decide_eq_true (by lia)).symm
    | cons a t hv =>
     cases pH with
     | nil =>
      simp only[List.length_nil,List.length_cons] at hlen;rw[abu];exact(decide_eq_false (by lia)).symm
     | cons c u hw =>
      rw[List.zip_cons_cons] at hz;cases hz
   rw[hv] at hR;wp_walk;exact⟨_,rfl,by simpa[Builtin.Tuple.tupleCompareSizes] using hR⟩
  case h =>
   exact⟨rfl,rfl,items.toList,mK.toList,ns,ms,rfl,hi,hj,by lia,h⟩
end
section
variable{prog:Program}{w:World}{A:Around}{E:Value->Shared->Prop}{s:Shared}
theorem abB{l b:Addr}{items mK:Array Value}{ns ms:List Int}{Q:Value->Shared->Prop}(hl:IsTup s.heap l items)(hb:IsTup s.heap b mK)(hi:IntsAre items.toList ns)(hj:IntsAre mK.toList ms)
  (hu:A.units<cLine) (h:Q (.bool (lexLt ns ms)) s):wpAny (model prog w) A (compareOp .Lt (.ref l) (.ref b)) Q E s:=by
 obtain⟨⟨cls,dd,data,sl⟩,ho,hc,n,hd⟩:=id hl;obtain⟨⟨amv,Gz,data2,GA⟩,lu,kj,n2,hd2⟩:=id hb;simp only at hc hd kj hd2;subst hc hd kj hd2;exact richCompare_meets_room (op:=.Lt) ⟨_,ho,rfl⟩ ⟨_,lu,rfl⟩ PySem.F.slot_tuple_lt PySem.F.entry_tuple_lt (PySem.F.args_tuple_lt_2 _ _) (abx l b items mK n n2 dd Gz sl GA ns ms hi hj)
  ⟨ho,lu,show Value.bool (lexLt ns ms)≠Value.notImplemented/\Q (.bool (lexLt ns ms)) s from⟨(λx=>nomatch x),h⟩⟩ hu
noncomputable def eY(n d:Nat):Option Int->Nat
 | none=>d
 | some v=>if v<0 then(v+(n:Int)).toNat else min v.toNat n
theorem Ql(n d k:Nat):eY n d (some (k:Int))=min k n:=by
 show (if (k:Int)<0 then((k:Int)+(n:Int)).toNat else min (k:Int).toNat n)=min k n
 rw[if_neg (by lia),Int.toNat_natCast]
end
end _H
namespace _L
open PySem PySem.Spec PyProof.Rows
noncomputable abbrev TO:=St->Hp->(Option Int->Hp->Prop)->Prop
noncomputable def PO(X:Cx)(e:Option Expr)(t:TO):Prop :=
 ∀(pins:List (Addr×Obj)) (s:Shared) (σ:St) (H:Hp) (Q:Option Int->Hp->Prop),Inv X pins σ H s->t σ H Q->
  wpAny (model X.prog X.w) X.A (evalPart e X.env) (λu s'=>∃o H',Inv X pins σ H' s'/\IsPart u o/\Q o H') X.xe s
noncomputable def Qm:TO:=λ_ H Q=>Q none H
noncomputable def Qn(t:TE):TO:=λσ H Q=>t σ H λx H1=>∃i,x = .int i/\Q (some i) H1
theorem intsAre_of{ns:List Int}:∀ {us:List Value},Vals (ns.map V.int) us->IntsAre us ns:=by
 induction ns with
 | nil=>intro us r;rw[List.map_nil] at r;cases r;exact .nil
 | cons n ns ih =>
  intro us r;rw[List.map_cons] at r;cases r with
  | cons r1 r2 =>
   obtain⟨t,e⟩:=r1;subst e;exact .cons n t (ih r2)
section
variable{X:Cx}{e:Expr}{te:TE}{lo hi:Option Expr}{tl th:TO}{pos p2:Pos}
theorem Qo:PO X none Qm:=by
 intro pins s σ H Q I h;rw[evalPart_none];exact wpAny_pure ⟨none,H,I,.none,h⟩
theorem zN(h:PE X e te):PO X (some e) (Qn te):=by
 intro pins s σ H Q I hw;rw[evalPart_some];refine aP (h pins s σ H _ I hw) λu s1 ⟨x,H1,I1,r1,q1⟩=>?_;obtain⟨i,rfl,q⟩:=q1;obtain⟨t,rfl⟩:=r1;exact⟨some i,H1,I1,.int i t,q⟩
noncomputable def Qp(X:Cx)(r:V->Option Int->Option Int->Hp->VK->Prop):Prop :=
 ∀(pins:List (Addr×Obj)) (s:Shared) (σ:St) (H:Hp) (x:V) (v vl vu:Value) (lo hi:Option Int) (sl:Addr) (Q:VK),Inv X pins σ H s->RelV x v->s.heap.IsSliceOf sl vl vu .none->IsPart vl lo->IsPart vu hi->r x lo hi H Q->
  ∃T id,typeLookup (.type T) "__getitem__" = pure (some (.builtin id))/\s.TypeIs v T/\wpAny (model X.prog X.w) X.A (getItem v (.ref sl)) (EP X pins σ Q) X.xe s
noncomputable def Qq(r:V->Option Int->Option Int->Hp->VK->Prop)(te:TE)(tl th:TO):TE:=λσ H Q=>te σ H λx H1=>tl σ H1 λl H2=>th σ H2 λu H3=>r x l u H3 Q
theorem GC{r:V->Option Int->Option Int->Hp->VK->Prop}(hr:Qp X r)(he:PE X e te)(hl:PO X lo tl)(hu:PO X hi th):PE X (.Subscript e (.Slice lo hi none p2) pos) (Qq r te tl th):=by
 intro pins s σ H Q I h;refine Subscript_ (aP (he pins s σ H _ I h) λv s1 ⟨x,H1,I1,r1,q1⟩=>?_);refine wpAny_Slice (aP (hl pins s1 σ H1 _ I1 q1) λvl s2 ⟨l,H2,I2,pl,q2⟩=>aP (hu pins s2 σ H2 _ I2 q2) λvu s3 ⟨u,H3,I3,pu,q3⟩=>?_);rw[evalPart_none];refine wpAny_pure ?_;have I4:Inv X pins σ H3 { s3 with heap:=s3.heap.push { cls:=.type "slice",data:=.fields #[vl,vu,.none] }}:=I3.kept (t':=s3.toks) λb ob q=>Heap.get?_push_of_some _ q;obtain⟨T,id,hT,ht,hg⟩:=hr pins { s3 with heap:=s3.heap.push { cls:=.type "slice",data:=.fields #[vl,vu,.none] }} σ H3 x v vl vu l u s3.heap.objs.size Q I4 r1 (Heap.IsSliceOf.new ..) pl pu q3
 show wpAny (model X.prog X.w) X.A (subscriptTail e (.Slice lo hi none p2) v (.ref s3.heap.objs.size)) (EP X pins σ Q) X.xe { s3 with heap:=s3.heap.push { cls:=.type "slice",data:=.fields #[vl,vu,.none] }};exact tail_any (ops:=[.ref s3.heap.objs.size,v]) ht hT hg (by with_unfolding_all rfl)
noncomputable def kq(xs:List V)(lo hi:Option Int):List V:=(xs.drop (_H.eY xs.length 0 lo)).take (_H.eY xs.length xs.length hi - _H.eY xs.length 0 lo)
theorem abC(xs:List V)(lo hi:Option Int):(kq xs lo hi).length<=xs.length:=by
 unfold kq;rw[List.length_take,List.length_drop];lia
end
noncomputable def jD(n:Nat)(i:Int):Option Nat:=if 0<=i then(if i<n then some i.toNat else none) else if -(n:Int)<=i then some (i+n).toNat else none
noncomputable def gg{α:Type}(xs:List α)(i:Int):Option α:=(jD xs.length i).bind λj=>xs[j]?
theorem Qs{n:Nat}{i:Int}{j:Nat}(h:jD n i=some j):seqIndex? i n=some j/\j<n/\-(n:Int)<=i/\i<n:=by
 unfold jD at h;by_cases h0:0<=i
 ·rw[if_pos h0] at h;by_cases h1:i<n
  ·rw[if_pos h1] at h;have e:i.toNat=j:=Option.some.inj h;exact⟨by rw[seqIndex_of h0 h1,e],by lia,by lia,h1⟩
  ·rw[if_neg h1] at h;cases h
 ·rw[if_neg h0] at h;by_cases h1 : -(n:Int)<=i
  ·rw[if_pos h1] at h;have e:(i+n).toNat=j:=Option.some.inj h;exact⟨by rw[seqIndex_neg (by lia) h1,e],by lia,h1,by lia⟩
  ·rw[if_neg h1] at h;cases h
theorem Qt{α:Type}{xs:List α}{i:Int}{v:α}(h:gg xs i=some v):∃j,seqIndex? i xs.length=some j/\xs[j]? = some v/\j<xs.length/\-(xs.length:Int)<=i/\i<xs.length:=by
 unfold gg at h;cases e:jD xs.length i with
 | none=>rw[e] at h;cases h
 | some j =>
  rw[e] at h;obtain⟨h1,h2,h3,h4⟩:=Qs e;exact⟨j,h1,h,h2,h3,h4⟩
theorem gA{α:Type}{xs:List α}{j:Nat}{v:α}(h:xs[j]? = some v):gg xs (j:Int)=some v:=by
 have hj:j<xs.length:=(List.getElem?_eq_some_iff.mp h).1;have e:jD xs.length (j:Int)=some j:=by
  unfold jD;rw[if_pos (by lia),if_pos (by lia)];simp
 unfold gg;rw[e];exact h
theorem Qu{α:Type}(xs:List α)(v:α):gg (xs++[v]) (-1)=some v:=by
 have hl:(xs++[v]).length=xs.length+1:=by simp
 have e:jD (xs++[v]).length (-1)=some xs.length:=by
  unfold jD;rw[hl,if_neg (by decide),if_pos (by lia)]
  congr 1;lia
 unfold gg;rw[e]
 show (xs++[v])[xs.length]? = some v;simp
noncomputable def abD(b:Expr):Prop:=∀o i,subscripted b false o i=operate [o,i] (getItem o i)
noncomputable def mO(X:Cx)(r:R2):Prop :=
 ∀(value slice:Expr) (pins:List (Addr×Obj)) (s:Shared) (σ:St) (H:Hp) (x y:V) (v u:Value) (Q:VK),Inv X pins σ H s->RelV x v->RelV y u->r x y H Q->
  subscripted slice false v u=operate [v,u] (getItem v u)->wpAny (model X.prog X.w) X.A (subscriptTail value slice v u) (EP X pins σ Q) X.xe s
noncomputable def MtR(X:Cx)(id:String)(r:V->List V->Hp->VK->Prop):Prop :=
 ∀(pins:List (Addr×Obj)) (s:Shared) (σ:St) (H:Hp) (x:V) (xs:List V) (v:Value) (us:List Value) (Q:VK),Inv X pins σ H s->RelV x v->Vals xs us->r x xs H Q->
  wpAny (model X.prog X.w) X.A (call (.builtin id) (v::us)) (EP X pins σ Q) X.xe s
section
variable{X:Cx}{a b:Expr}{ta tb:TE}{pos:Pos}
theorem bM{r:R2}(hr:mO X r)(ha:PE X a ta)(hb:PE X b tb)(hs:abD b):PE X (.Subscript a b pos) (vI r ta tb):=by
 intro pins s σ H Q I h;exact Subscript_ (Gj ha hb I h λv u s2 x y H2 I2 rx ry q=>hr a b pins s2 σ H2 x y v u Q I2 rx ry q (hs _ _))
noncomputable def GD(K:PySem.W.Frag):R2:=λx y H Q=>∃p xs i v,x = .ref p/\y = .int i/\aE K H p xs/\gg xs i=some v/\Q v H
noncomputable def GF(K:PySem.W.Frag):R2:=λx y H Q=>∃p xs i v,x = .ref p/\y = .int i/\bD K H p xs/\gg xs i=some v/\Q v H
theorem qO:mO X (GD X.K):=by
 intro value slice pins s σ H x y v u Q I rx ry h hs;obtain⟨p,xs,i,z,rfl,rfl,hq,he,q⟩:=h;cases rx;obtain⟨t,rfl⟩:=ry;obtain⟨aG,r,pl,hz⟩:=I.list hq;obtain⟨j,h1,h2,h3,h4,h5⟩:=Qt he;obtain⟨w,ew,fO⟩:=r.get h2;have hl:=r.length;have hn:=vM;have fin:EP X pins σ Q w s:=⟨z,H,I,fO,q⟩;by_cases h0:0<=i
 ·have hj:i.toNat=j:=by
   rw[seqIndex_of h0 h5] at h1;exact Option.some.inj h1
  exact item_listR pl.isList h0 (by lia) (by rw[hj];simpa using ew) fin hs
 ·have hj:(i+(aG.toArray.size:Int)).toNat=j:=by
   rw[seqIndex_neg (by lia) h4] at h1
   rw[List.size_toArray,← hl];exact Option.some.inj h1
  exact subscriptTail_builtinR (x:=w) pl.isList.typeIs slot_list_getitem.lookup
   (wpAny_getItem_list_neg (Q:=λr s'=>r=w/\EP X pins σ Q r s') pl.isList (by lia) (by rw[List.size_toArray] <;> lia) (by lia) (by rw[hj];simpa using ew) ⟨rfl,fin⟩) hs
theorem tD:mO X (GF X.K):=by
 intro value slice pins s σ H x y v u Q I rx ry h hs;obtain⟨p,xs,i,z,rfl,rfl,hq,he,q⟩:=h;cases rx;obtain⟨t,rfl⟩:=ry;obtain⟨aG,r,pl,hz⟩:=I.tuple hq;obtain⟨j,h1,h2,h3,h4,h5⟩:=Qt he;obtain⟨w,ew,fO⟩:=r.get h2;have hl:=r.length;have hn:=vM;have fin:EP X pins σ Q w s:=⟨z,H,I,fO,q⟩;exact subscriptTail_builtinR (x:=w) pl.typeIs slot_tuple_getitem.lookup
  (getItem_tuple (j:=j) (Q:=λr s'=>r=w/\EP X pins σ Q r s') pl (by lia) (by lia) (by rw[List.size_toArray,← hl];exact h1) (by simpa using ew) ⟨rfl,fin⟩) hs
theorem abE(aG:List Value)(n j:Nat)(u:Value):Obj.mapSeq (·.setIfInBounds j u) { cls:=.type "list",data:=.seq aG.toArray n } = { cls:=.type "list",data:=.seq (aG.set j u).toArray n }:=by
 simp[Obj.mapSeq]
theorem Inv.lst{pins:List (Addr×Obj)}{σ:St}{H:Hp}{s:Shared}{p:Addr}{xs:List V}(I:Inv X pins σ H s)(h:H p=some (.lst xs)) :
  ∃(aG:List Value) (n:Nat),Vals xs aG/\s.heap.get? p=some { cls:=.type "list",data:=.seq aG.toArray n }/\xs.length<=sizeLine:=by
 obtain⟨z,aG,n,r,e⟩:=I.aO p _ h;exact⟨aG,n,r,e,z⟩
theorem Inv.abF{pins:List (Addr×Obj)}{σ:St}{H:Hp}{s:Shared}{p:Addr}{xs ys:List V}{aG its':List Value}{n n':Nat}{f:Obj->Obj}(I:Inv X pins σ H s)(h:H p=some (.lst xs))
  (ho:s.heap.get? p=some { cls:=.type "list",data:=.seq aG.toArray n }) (hf:f { cls:=.type "list",data:=.seq aG.toArray n } = { cls:=.type "list",data:=.seq its'.toArray n' }) (r:Vals ys its') (hz:ys.length<=sizeLine) (t:Nat) :
  Inv X pins σ (upd H p (.lst ys)) { s with heap:=s.heap.update p f,toks:=t }:=by
 have e:(s.heap.update p f).get? p=some { cls:=.type "list",data:=.seq its'.toArray n' }:=by
  rw[Heap.get?_update_self f ho (by rw[hf] <;> rfl),hf]
 refine I.write (x:=p) (e:=p) (by rw[h];trivial) (.inl rfl) (λb u hb q=>(Heap.get?_update_other _ _ (Ne.symm hb)).trans q) ⟨_,e⟩ ?_
 exact⟨hz,its',n',r,e⟩
noncomputable def Qv:V->V->V->Hp->(Hp->Prop)->Prop:=λo i v H Q=>∃p xs k j,o = .ref p/\i = .int k/\H p=some (.lst xs)/\jD xs.length k=some j/\Q (upd H p (.lst (xs.set j v)))
theorem set_list:Pn X Qv:=by
 intro pins s σ H o i v ov iv u Q I ro ri rv h;obtain⟨p,xs,k,j,rfl,rfl,hp,hj,q⟩:=h;cases ro;obtain⟨t,rfl⟩:=ri;obtain⟨aG,n,r,ho,hz⟩:=I.lst hp;obtain⟨h1,h2,h3,h4⟩:=Qs hj;have hl:=r.length;have hn:=vM;have I':Inv X pins σ (upd H p (.lst (xs.set j v))) { s with heap:=s.heap.update p (Obj.mapSeq (·.setIfInBounds j u))} :=
  I.abF hp ho (abE aG n j u) (r.set rv j) (by rw[List.length_set];exact hz) s.toks
 by_cases h0:0<=k
 ·have hk:k.toNat=j:=by
   rw[seqIndex_of h0 h4] at h1;exact Option.some.inj h1
  exact PySem.W.ki_setAt ho h0 (by lia) (by rw[List.size_toArray,← hl];exact h4) (by rw[hk];exact⟨_,I',q⟩)
 ·have hk:(k+(aG.toArray.size:Int)).toNat=j:=by
   rw[seqIndex_neg (by lia) h3] at h1
   rw[List.size_toArray,← hl];exact Option.some.inj h1
  exact PySem.W.ki_setBack ho (by lia) (by rw[List.size_toArray,← hl];exact h3) (by lia) (by rw[hk];exact⟨_,I',q⟩)
theorem abG(lo hi:Option Int)(n:Nat):(sliceBounds lo hi none n).1=((_H.eY n 0 lo:Nat):Int)/\(sliceBounds lo hi none n).2.1=((_H.eY n n hi:Nat):Int)/\(sliceBounds lo hi none n).2.2=1:=by
 refine⟨?_,?_,rfl⟩
 ·cases lo with
  | none=>simp[sliceBounds,_H.eY]
  | some i =>
   simp only[sliceBounds,_H.eY,Option.getD_none,show (1:Int) > 0 by decide,if_true]
   by_cases h:i<0
   ·simp only[h,if_true] <;> lia
   ·simp only[h,if_false] <;> lia
 ·cases hi with
  | none=>simp[sliceBounds,_H.eY]
  | some i =>
   simp only[sliceBounds,_H.eY,Option.getD_none,show (1:Int) > 0 by decide,if_true]
   by_cases h:i<0
   ·simp only[h,if_true] <;> lia
   ·simp only[h,if_false] <;> lia
theorem abH(aG:List Value)(lo hi:Option Int):slicePick aG.toArray lo hi none=((aG.drop (_H.eY aG.length 0 lo)).take (_H.eY aG.length aG.length hi - _H.eY aG.length 0 lo)).toArray:=by
 obtain⟨h1,h2,h3⟩:=abG lo hi aG.toArray.size;unfold slicePick;rw[h1,h2,h3];simp only[sliceRange_one,pick_run,List.size_toArray] <;> rfl
noncomputable def Qw(K:PySem.W.Frag):V->Option Int->Option Int->Hp->VK->Prop:=λx lo hi H Q=>∃a xs,x = .ref a/\aE K H a xs/\∀p,H p=none->Q (.ref p) (upd H p (.lst (kq xs lo hi)))
theorem GG:Qp X (Qw X.K):=by
 intro pins s σ H x v vl vu lo hi sl Q I rx hs pl pu h;obtain⟨a,xs,rfl,hx,q⟩:=h;cases rx;obtain⟨aG,r,ht,hz⟩:=I.list hx;have hlen:=r.length;refine⟨"list",_,slot_list_getitem.lookup,ht.isList.typeIs,?_⟩;refine wpAny_getItem_list_slice ht.isList hs pl pu .none (by simp) ?_ (by rw[List.size_toArray] <;> lia)
 rw[abH,← hlen];refine⟨.ref s.heap.objs.size,_,I.laid (t':=s.toks) (o:=.lst (kq xs lo hi)) (λb ob q=>Heap.get?_push_of_some _ q) (Nat.le_refl _) ?_,rfl,q _ (I.aO.fresh (Nat.le_refl _))⟩;exact⟨Nat.le_trans (abC xs lo hi) hz,_,0,(r.drop (_H.eY xs.length 0 lo)).take (_H.eY xs.length xs.length hi - _H.eY xs.length 0 lo),Heap.get?_push_size _ rfl⟩
noncomputable def jW:V->Bool
 | .aV=>true
 | .bl _=>true
 | .int _=>true
 | .str _=>true
 | _=>false
noncomputable def lz:V->V->Bool
 | .aV,.aV=>true
 | .bl a,.bl b=>a == b
 | .bl a,.int b=>(if a then 1 else 0) == b
 | .int a,.bl b=>a == (if b then 1 else 0)
 | .int a,.int b=>a == b
 | .str a,.str b=>a == b
 | _,_=>false
theorem abI{A:Around}{s:Shared}{y x:V}{u v:Value}(ry:RelV y u)(rx:RelV x v)(fy:jW y=true)(fx:jW x=true):SeqAt.EqAt A s u v (lz y x):=by
 cases y with
 | aV =>
  cases ry;cases x with
  | aV=>cases rx;exact SeqAt.EqAt.same _
  | bl b=>cases rx;exact SeqAt.EqAt.none_bool b
  | int b=>obtain⟨t,rfl⟩:=rx;exact SeqAt.EqAt.none_int b t
  | str b=>obtain⟨t,rfl⟩:=rx;exact SeqAt.EqAt.none_str b t
  | _=>exact absurd (show false=true from fx) Bool.false_ne_true
 | bl a =>
  cases ry;cases x with
  | aV=>cases rx;exact SeqAt.EqAt.bool_none a
  | bl b=>cases rx;exact SeqAt.EqAt.bool_bool a b
  | int b=>obtain⟨t,rfl⟩:=rx;exact SeqAt.EqAt.bool_int a b t
  | str b=>obtain⟨t,rfl⟩:=rx;exact SeqAt.EqAt.bool_str a b t
  | _=>exact absurd (show false=true from fx) Bool.false_ne_true
 | int a =>
  obtain⟨t',rfl⟩:=ry;cases x with
  | aV=>cases rx;exact SeqAt.EqAt.int_none a t'
  | bl b=>cases rx;exact SeqAt.EqAt.int_bool a t' b
  | int b=>obtain⟨t,rfl⟩:=rx;exact SeqAt.EqAt.int_int a t' b t
  | str b=>obtain⟨t,rfl⟩:=rx;exact SeqAt.EqAt.int_str a t' b t
  | _=>exact absurd (show false=true from fx) Bool.false_ne_true
 | str a =>
  obtain⟨t',rfl⟩:=ry;cases x with
  | aV=>cases rx;exact SeqAt.EqAt.str_none a t'
  | bl b=>cases rx;exact SeqAt.EqAt.str_bool a t' b
  | int b=>obtain⟨t,rfl⟩:=rx;exact SeqAt.EqAt.str_int a t' b t
  | str b=>obtain⟨t,rfl⟩:=rx;exact SeqAt.EqAt.str_str a t' b t
  | _=>exact absurd (show false=true from fx) Bool.false_ne_true
 | _=>exact absurd (show false=true from fy) Bool.false_ne_true
noncomputable def nX(x:V)(u:Value):Bool:=match u with
 | .none=>lz .aV x
 | .bool b=>lz (.bl b) x
 | .int i _=>lz (.int i) x
 | .str z _=>lz (.str z) x
 | _=>false
theorem Qx{x y:V}{u:Value}(r:RelV y u)(f:jW y=true):nX x u=lz y x:=by
 cases y with
 | aV=>cases r;rfl
 | bl b=>cases r;rfl
 | int i=>obtain⟨t,rfl⟩:=r;rfl
 | str z=>obtain⟨t,rfl⟩:=r;rfl
 | _=>exact absurd (show false=true from f) Bool.false_ne_true
theorem GH{x:V}:∀ {xs:List V} {us:List Value},Vals xs us->xs.all jW=true->us.any (nX x)=xs.any λy=>lz y x
 | _,_,.nil,_=>rfl
 | y::xs,u::us,.cons r t,f=>by
  rw[List.all_cons,Bool.and_eq_true] at f;rw[List.any_cons,List.any_cons,Qx r f.1,GH t f.2]
theorem GI{A:Around}{s:Shared}{x:V}{v:Value}(rx:RelV x v)(fx:jW x=true):∀ {xs:List V} {us:List Value},Vals xs us->xs.all jW=true->∀u∈us,SeqAt.EqAt A s u v (nX x u)
 | _,_,.nil,_=>λu hu=>by cases hu
 | y::xs,u::us,.cons r t,f=>λu' hu=>by
  rw[List.all_cons,Bool.and_eq_true] at f;rcases List.mem_cons.mp hu with rfl | hu
  ·rw[Qx r f.1];exact abI r rx f.1 fx
  ·exact GI rx fx t f.2 u' hu
noncomputable def pI(x:V)(xs:List V):Bool:=xs.any λy=>lz y x
noncomputable def GJ(K:PySem.W.Frag)(neg:Bool):R2:=λx y H Q=>∃p xs,y = .ref p/\(aE K H p xs\/bD K H p xs)/\jW x=true/\xs.all jW=true/\Q (.bl (if neg then !pI x xs else pI x xs)) H
theorem GK:cV X (compareOp .In) (GJ X.K false):=by
 intro pins s σ H x y v u Q I rx ry h;obtain⟨p,xs,rfl,hq,fx,fs,q⟩:=h;cases ry;rcases hq with hq | hq
 ·obtain⟨aG,r,pl,hz⟩:=I.list hq;refine SeqAt.in_listAt (nX x) pl.isList (λw hw=>GI rx fx r fs w (by simpa using hw)) ⟨.bl _,H,I,rfl,?_⟩
  rw[show aG.toArray.any (nX x)=aG.any (nX x) by simp,GH r fs]
  exact q
 ·obtain⟨aG,r,pl,hz⟩:=I.tuple hq;refine SeqAt.in_tupleAt (nX x) pl (λw hw=>GI rx fx r fs w (by simpa using hw)) ⟨.bl _,H,I,rfl,?_⟩
  rw[show aG.toArray.any (nX x)=aG.any (nX x) by simp,GH r fs]
  exact q
theorem tE:iM X (.builtin "len") (λxs H Q=>∃p ys,xs = [.ref p]/\(aE X.K H p ys\/bD X.K H p ys)/\Q (.int ys.length) H):=by
 intro pins s σ H xs us Q I r h;obtain⟨p,ys,rfl,hq,q⟩:=h;obtain⟨u,rfl,rx⟩:=vals1 r;cases rx;have hn:=vM;rcases hq with hq | hq
 ·obtain⟨aG,r',pl,hz⟩:=I.list hq;have hlen:=r'.length;exact Calls.call_len_list pl.isList (by simp only[List.size_toArray] <;> lia) ⟨.int ys.length,H,I.tok _,⟨s.toks+1,by rw[List.size_toArray,hlen]⟩,q⟩
 ·obtain⟨aG,r',pl,hz⟩:=I.tuple hq;have hlen:=r'.length;exact len_tuple pl (by simp only[List.size_toArray] <;> lia) ⟨.int ys.length,H,I.tok _,⟨s.toks+1,by rw[List.size_toArray,hlen]⟩,q⟩
theorem Qy:iM X (.type "list") (λxs H Q=>∃p ys,xs = [.ref p]/\(aE X.K H p ys\/bD X.K H p ys)/\∀l,H l=none->Q (.ref l) (upd H l (.lst ys))):=by
 intro pins s σ H xs us Q I r h;obtain⟨p,ys,rfl,hq,q⟩:=h;obtain⟨u,rfl,rx⟩:=vals1 r;cases rx;have fin:∀(aG:List Value),Vals ys aG->ys.length<=sizeLine->∀(h':Heap) (c':Nat),(∀b o',s.heap.get? b=some o'->h'.get? b=some o')->
   h'.get? s.heap.objs.size=some { cls:=.type "list",dict:=none,data:=.seq aG.toArray c',slots := #[] }->EP X pins σ Q (.ref s.heap.objs.size) { s with heap:=h' }:=λaG r' hz h' c' kp e =>
  ⟨.ref s.heap.objs.size,_,I.laid (t':=s.toks) kp (Nat.le_refl _) (show dQ X.prog X.w _ h' _ (.lst ys) from⟨hz,aG,c',r',e⟩),rfl,q _ (I.aO.fresh (Nat.le_refl _))⟩
 rcases hq with hq | hq
 ·obtain⟨aG,r',pl,hz⟩:=I.list hq;have hlen:=r'.length;obtain⟨o,ho,hc,n,hd⟩:=pl.isList;exact call_list_seq p (.inl rfl) ho hc hd (λh' c' kp e=>fin aG r' hz h' c' kp e) (by simp only[List.size_toArray] <;> lia)
 ·obtain⟨aG,r',pl,hz⟩:=I.tuple hq;have hlen:=r'.length;obtain⟨o,ho,hc,n,hd⟩:=pl;exact call_list_seq p (.inr rfl) ho hc hd (λh' c' kp e=>fin aG r' hz h' c' kp e) (by simp only[List.size_toArray] <;> lia)
theorem Qz:iM X (.type "tuple") (λxs H Q=>∃p ys,xs = [.ref p]/\((aE X.K H p ys/\∀l,H l=none->Q (.ref l) (upd H l (.tup ys)))\/(bD X.K H p ys/\Q (.ref p) H))):=by
 intro pins s σ H xs us Q I r h;obtain⟨p,ys,rfl,h⟩:=h;obtain⟨u,rfl,rx⟩:=vals1 r;cases rx;rcases h with⟨hq,q⟩ | ⟨hq,q⟩
 ·obtain⟨aG,r',pl,hz⟩:=I.list hq;have hlen:=r'.length;refine call_tuple_list pl.isList (λh' kp=>?_) (by simp only[List.size_toArray] <;> lia)
  have I1:Inv X pins σ H { s with heap:=h' }:=I.kept (t':=s.toks) kp;have I2:Inv X pins σ (upd H h'.objs.size (.tup ys)) { s with heap:=h'.push { cls:=.type "tuple",data:=.seq aG.toArray }} :=
   I1.laid (t':=s.toks) (λb o e=>Heap.get?_push_of_some _ e) (Nat.le_refl _) (show dQ X.prog X.w _ _ _ (.tup ys) from⟨hz,aG,r',IsTup.new _ _⟩)
  exact⟨.ref h'.objs.size,_,I2,rfl,q _ (I1.aO.fresh (Nat.le_refl _))⟩
 ·obtain⟨aG,r',pl,hz⟩:=I.tuple hq;exact call_tuple_same pl ⟨.ref p,H,I,rfl,q⟩
noncomputable def zO(K:PySem.W.Frag)(T:String)(x:V)(H:Hp):Prop:=match x with
 | .str _=>T = "str"
 | .int _=>T = "int"
 | .ref p=>(T = "list"/\∃xs,aE K H p xs)\/(T = "tuple"/\∃o,K.lookup p=some o/\o.cls = .type "tuple"/\o.dict=none)\/
   (T = "dict"/\((∃kvs,H p=some (.dK kvs))\/∃kvs,H p=some (.dT kvs)))\/(T = "set"/\∃S n,H p=some (.set S n))
 | _=>False
theorem QA{pins:List (Addr×Obj)}{σ:St}{H:Hp}{s:Shared}{T:String}{x:V}{v:Value}(I:Inv X pins σ H s)(r:RelV x v)(ty:zO X.K T x H) :
  s.TypeIs v T/\∀a,v = .ref a->∃ob,s.heap.get? a=some ob/\ob.dict=none:=by
 cases x with
 | str z =>
  obtain⟨t,rfl⟩:=r;cases (show T = "str" from ty);exact⟨typeIs_str s z t,λ_ e=>nomatch e⟩
 | int i =>
  obtain⟨t,rfl⟩:=r;cases (show T = "int" from ty);exact⟨typeIs_int s i t,λ_ e=>nomatch e⟩
 | ref p =>
  cases r;rcases ty with⟨rfl,xs,hq⟩ | ⟨rfl,o,hk,hc,hd⟩ | ⟨rfl,hk⟩ | ⟨rfl,S,n,hk⟩
  ·obtain⟨aG,_,pl,_⟩:=I.list hq;refine⟨pl.isList.typeIs,λa e=>?_⟩;cases e;obtain⟨o,n,e,c,hd,_⟩:=pl;exact⟨o,e,hd⟩
  ·refine⟨⟨o,I.cY p o hk,hc⟩,λa e=>?_⟩;cases e;exact⟨o,I.cY _ o hk,hd⟩
  ·have z:∃o,s.heap.get? p=some o/\o.ExactDict:=by
    rcases hk with⟨kvs,hk⟩ | ⟨kvs,hk⟩
    ·obtain⟨_,_,_,_,o,_,_,e,ex,_⟩:=I.aO p _ hk;exact⟨o,e,ex⟩
    ·obtain⟨_,_,_,_,o,_,_,e,ex,_⟩:=I.aO p _ hk;exact⟨o,e,ex⟩
   obtain⟨o,e,ex⟩:=z;refine⟨⟨o,e,ex.1⟩,λa e2=>?_⟩;cases e2;exact⟨o,e,ex.2.1⟩
  ·obtain⟨o,_,_,_,e,ex,_⟩:=I.aO p _ hk;refine⟨⟨o,e,ex.1⟩,λa e2=>?_⟩;cases e2;exact⟨o,e,ex.2.1⟩
 | _=>exact False.elim ty
noncomputable def QB(K:PySem.W.Frag)(T:String)(r:V->List V->Hp->VK->Prop)(to:TE)(t:TA):TE:=λσ H Q=>to σ H λx H1=>zO K T x H1/\t σ H1 λxs H2=>r x xs H2 Q
variable{o e:Expr}{es:List Expr}{to:TE}{t:TA}{name:Str}{apos eZ:Pos}{T id:String}{r:V->List V->Hp->VK->Prop}
theorem jE(pa:PlainAttrs T)(slot:Slot T name id)(hty:typeOf (.builtin id)=pure (.type "method_descriptor"))(hm:MtR X id r)(ho:PE X o to)(ha:PA X (e::es) t)
  (GL:attributeBase o name X.env (eval o X.env)=eval o X.env:=by rfl)
  (abJ:((backTo eZ (starEach (e::es) X.env)).all (λx => !x.1) && (backToKw eZ (keywordEach [] X.env)).all (λx=>x.1.isSome)
   && decide ((e::es).length+([]:List Keyword).length+(if ([]:List Keyword).isEmpty then 0 else 1)<30))=true:=by rfl)
  (GN:(apos.endLine == eZ.line)=true:=by rfl) (hs:starEach (e::es) X.env=(false,eval e X.env)::starEach es X.env:=by rfl) (hplain:(backTo eZ (starEach es X.env)).any (·.1)=false:=by rfl) :
  PE X (.Call (.Attribute o name apos) (e::es) [] eZ) (QB X.K T r to t):=by
 intro pins s σ H Q I h;refine wpAny_Call_method_late GL abJ GN rfl (aP (ho pins s σ H _ I h) λv s1 ⟨x,H1,I1,r1,ty,q1⟩=>?_);obtain⟨h1,h2⟩:=QA I1 r1 ty;refine⟨T,id,pa,slot,hty,h1,h2,?_⟩;have hA:=ha eZ pins s1 σ H1 _ I1 q1;rw[hs] at hA ⊢;refine Calls.callWith_builtin (by show (false || (backTo eZ (starEach es X.env)).any (·.1))=false;rw[hplain] <;> rfl) (Calls.evalArgs_plain ?_)
 exact aP hA λus s2 ⟨vs,H2,I2,r2,q2⟩=>hm pins s2 σ H2 x vs v us Q I2 r1 r2 q2
end
noncomputable def QC(X:Cx)(id:String)(r:V->List V->Hp->VK->Prop):Prop :=
 ∀(pins:List (Addr×Obj)) (s:Shared) (σ:St) (H:Hp) (x:V) (xs:List V) (v:Value) (us:List Value) (Q:VK),Inv X pins σ H s->RelV x v->Vals xs us->r x xs H Q->
  wpAny (model X.prog X.w) X.A (call (.builtin id) (v::us)) (EP X pins σ Q) X.xe s
theorem Vals.one:∀ {x:V} {us:List Value},Vals [x] us->∃u,us = [u]/\RelV x u
 | _,_,.cons r .nil=>⟨_,rfl,r⟩
theorem Vals.rep{xs:List V}{us:List Value}(h:Vals xs us):∀k:Nat,Vals (List.replicate k xs).flatten (List.replicate k us).flatten
 | 0=>.nil
 | k+1=>by
  rw[List.replicate_succ,List.replicate_succ,List.flatten_cons,List.flatten_cons];exact Vals.append h (Vals.rep h k)
theorem foldl_rep(aG:List Value):∀(k:Nat) (acc:List Value),
  List.foldl (λx1 x2=>x1++x2) acc.toArray (List.replicate k aG.toArray)=(acc++(List.replicate k aG).flatten).toArray
 | 0,acc=>by simp
 | k+1,acc=>by
  have e:acc.toArray++aG.toArray=(acc++aG).toArray:=by simp
  have e2:(acc++aG)++(List.replicate k aG).flatten=acc++(List.replicate (k+1) aG).flatten:=by
   rw[List.replicate_succ,List.flatten_cons,List.append_assoc]
  rw[← e2,← foldl_rep aG k (acc++aG),← e,List.replicate_succ,List.foldl_cons]
section
variable{X:Cx}{pins:List (Addr×Obj)}{σ:St}{H:Hp}{s:Shared}{l b:Addr}{xs ys zs:List V}
theorem Inv.jc{aG its':List Value}{n:Nat}{f:Array Value->Array Value}{t':Nat}(I:Inv X pins σ H s)(hH:H l=some (.lst xs))
  (e:s.heap.get? l=some { cls:=.type "list",data:=.seq aG.toArray n }) (hf:f aG.toArray=its'.toArray) (hv:Vals ys its') (hz:ys.length<=sizeLine) :
  Inv X pins σ (upd H l (.lst ys)) { s with heap:=s.heap.update l (Obj.mapSeq f),toks:=t' }:=by
 have q:=PySem.IsL.update e f;rw[hf] at q;refine I.write (x:=l) (e:=l) (by rw[hH];exact trivial) (.inl rfl) (λb' u hb hu=>(Heap.get?_update_other s.heap (Obj.mapSeq f) (Ne.symm hb)).trans hu) ⟨_,q⟩ ?_
 exact⟨hz,its',_,hv,q⟩
theorem Inv.QD{aG:List Value}{t':Nat}(I:Inv X pins σ H s)(hv:Vals ys aG)(hz:ys.length<=sizeLine) :
  Inv X pins σ (upd H s.heap.objs.size (.lst ys)) { s with heap:=s.heap.push { cls:=.type "list",data:=.seq aG.toArray },toks:=t' } :=
 I.laid (λ_ _ q=>Heap.get?_push_of_some _ q) (Nat.le_refl _) ⟨hz,aG,0,hv,Heap.get?_push_size _ rfl⟩
theorem Inv.fresh(I:Inv X pins σ H s):H s.heap.objs.size=none:=I.aO.fresh (Nat.le_refl _)
theorem Inv.tF(I:Inv X pins σ H s)(hH:H l=some (.lst xs)):xs.length<=sizeLine/\∃(aG:List Value) (n:Nat),Vals xs aG/\xs.length=aG.length/\s.heap.get? l=some { cls:=.type "list",data:=.seq aG.toArray n }:=by
 obtain⟨z,aG,n,r,e⟩:=I.aO l _ hH;exact⟨z,aG,n,r,r.length,e⟩
theorem QE{n:Nat}(h:n<=sizeLine):Builtin.List.listTooLong n=false:=by
 unfold Builtin.List.listTooLong;exact decide_eq_false (by lia)
end
section
variable{X:Cx}
noncomputable def QF:V->List V->Hp->VK->Prop:=λx vs H Q=>∃l xs y,x = .ref l/\vs = [y]/\H l=some (.lst xs)/\xs.length<sizeLine/\Q .aV (upd H l (.lst (xs++[y])))
theorem lA:QC X "list.append" QF:=by
 intro pins s σ H x vs v us Q I rx rv h;obtain⟨l,xs,y,rfl,rfl,hH,hz,q⟩:=h;cases rx;obtain⟨u,rfl,ru⟩:=rv.one;obtain⟨z,aG,n,r,hl,e⟩:=I.tF hH;refine call_meets F.slot_list_append ⟨_,e,rfl⟩ F.entry_list_append (F.args_list_append_2 _ _) (PySem.list_append l aG.toArray n u (by rw[List.size_toArray];lia)) ⟨e,?_⟩
 refine⟨.aV,_,I.jc (its':=aG++[u]) hH e (by simp) (r.append (.cons ru .nil)) ?_,rfl,q⟩
 rw[List.length_append,List.length_singleton];lia
noncomputable def QG:V->List V->Hp->VK->Prop:=λx vs H Q=>∃l b xs zs,x = .ref l/\vs = [.ref b]/\H l=some (.lst xs)/\H b=some (.lst zs)/\xs.length+zs.length<=sizeLine/\Q .aV (upd H l (.lst (xs++zs)))
theorem zP:QC X "list.extend" QG:=by
 intro pins s σ H x vs v us Q I rx rv h;obtain⟨l,b,xs,zs,rfl,rfl,hH,hB,hz,q⟩:=h;cases rx;obtain⟨u,rfl,ru⟩:=rv.one;cases ru;obtain⟨z,aG,n,r,hl,e⟩:=I.tF hH;obtain⟨z2,jX,n2,r2,zQ,e2⟩:=I.tF hB;have hsz:aG.toArray.size+jX.toArray.size<=sizeLine:=by rw[List.size_toArray,List.size_toArray];lia
 have GO:¬ (!aG.toArray.isEmpty && Builtin.List.listTooLong (aG.toArray.size+jX.toArray.size))=true:=by
  rw[QE hsz,Bool.and_false];exact Bool.false_ne_true
 refine call_meets F.slot_list_extend ⟨_,e,rfl⟩ F.entry_list_extend (F.args_list_extend_2 _ _)
  (AutoSeq1.list_extend_list_list_0 l aG.toArray n b jX.toArray n2 GO (by rw[List.size_toArray];lia) (by lia)) ⟨e,e2,?_⟩
 refine⟨.aV,_,I.jc (its':=aG++jX) hH e (by simp) (r.append r2) ?_,rfl,q⟩
 rw[List.length_append];lia
noncomputable def QH:R2:=λx y H Q=>∃l b xs zs,x = .ref l/\y = .ref b/\H l=some (.lst xs)/\H b=some (.lst zs)/\xs.length+zs.length<=sizeLine/\∀p,H p=none->Q (.ref p) (upd H p (.lst (xs++zs)))
theorem QI:cV X (binaryOp .Add) QH:=by
 intro pins s σ H x y v u Q I rx ry h;obtain⟨l,b,xs,zs,rfl,rfl,hH,hB,hz,q⟩:=h;cases rx;cases ry;obtain⟨z,aG,n,r,hl,e⟩:=I.tF hH;obtain⟨z2,jX,n2,r2,zQ,e2⟩:=I.tF hB;refine PySem.P.add_list e e2 ?_ (by rw[List.size_toArray,List.size_toArray];lia)
 have ea:aG.toArray++jX.toArray=(aG++jX).toArray:=by simp
 rw[ea];exact⟨.ref _,_,I.QD (t':=s.toks) (r.append r2) (by rw[List.length_append];lia),rfl,q _ I.fresh⟩
noncomputable def QJ:R2:=λx y H Q=>∃l k xs,x = .ref l/\y = .int k/\H l=some (.lst xs)/\-(2 ^ 63)<=k/\k<2 ^ 63/\xs.length*k.toNat<=sizeLine/\
 ∀p,H p=none->Q (.ref p) (upd H p (.lst (List.replicate k.toNat xs).flatten))
theorem len_rep{α:Type}(xs:List α)(k:Nat):(List.replicate k xs).flatten.length=k*xs.length:=by
 induction k with
 | zero=>simp
 | succ k ih=>rw[List.replicate_succ,List.flatten_cons,List.length_append,ih,Nat.succ_mul,Nat.add_comm]
theorem zR:cV X (binaryOp .Mult) QJ:=by
 intro pins s σ H x y v u Q I rx ry h;obtain⟨l,k,xs,rfl,rfl,hH,h1,h2,hz,q⟩:=h;cases rx;obtain⟨t,rfl⟩:=ry;obtain⟨z,aG,n,r,hl,e⟩:=I.tF hH;have hlen:aG.toArray.size*k.toNat<=sizeLine:=by rw[List.size_toArray,← hl];exact hz
 have abK:¬ aG.toArray.size*k.toNat > (2 ^ 63 - 1) / 8:=by
  have:(sizeLine:Nat)<=(2 ^ 63 - 1) / 8:=by decide
  lia
 have abL:¬ (!Builtin.List.listFitsIndex k)=true:=by
  rw[fitsIndex_both h1 h2];exact Bool.false_ne_true
 have GO:¬ Builtin.List.listTooLong (aG.toArray.size*k.toNat)=true:=by
  rw[QE hlen];exact Bool.false_ne_true
 have abM:List.foldl (λx1 x2=>x1++x2) #[] (List.replicate (if aG.toArray.isEmpty=true then 0 else k.toNat) aG.toArray)=(List.replicate k.toNat aG).flatten.toArray:=by
  have f0:∀m:Nat,List.foldl (λx1 x2=>x1++x2) #[] (List.replicate m aG.toArray)=(List.replicate m aG).flatten.toArray:=λm=>by
   have:=foldl_rep aG m [];rw[List.nil_append] at this;exact this
  rw[f0];cases aG with
  | nil=>simp
  | cons a r'=>rw[if_neg (by simp)]
 refine wpAny_binaryOp_repeat_ref (T := "list") (U := "int") (by decide) ⟨_,e,rfl⟩ (λs'=>typeIs_int s' k t) noFill_list_mul F.fills_int_mul F.slot_int_rmul repeat_list F.slot_int_index.lookup
  (call_meets F.slot_int_rmul (typeIs_int s k t) F.entry_int_rmul (F.args_int_rmul_2 _ _) (int___rmul___int_list k t l aG.toArray n)
   ⟨e,rfl,⟨_,e,rfl⟩,call_meets F.slot_list_mul ⟨_,e,rfl⟩ F.entry_list_mul (F.args_list_mul_2 _ _) (AutoListH.list___mul___list_int_3 l aG.toArray n k t abL abK GO) ⟨e,?_⟩⟩)
 rw[abM];exact⟨.ref _,_,I.QD (t':=s.toks) (r.rep k.toNat) (by rw[len_rep,Nat.mul_comm];exact hz),rfl,q _ I.fresh⟩
end
section
variable{prog:Program}{w:World}{A:Around}{E:Value->Shared->Prop}{s:Shared}
end
section
variable{X:Cx}
end
section
variable{κ:Type}[DecidableEq κ]
noncomputable def cL(kvs:List (κ×V))(k:κ):Option V:=(kvs.find? λkv=>decide (kv.1=k)).map (·.2)
noncomputable def putK(kvs:List (κ×V))(k:κ)(v:V):List (κ×V) :=
 if (kvs.any λkv=>decide (kv.1=k))=true then kvs.map (λkv=>if kv.1=k then(kv.1,v) else kv) else kvs++[(k,v)]
noncomputable def jd(kvs:List (κ×V))(k:κ):List (κ×V):=kvs.filter λkv=>decide (kv.1≠k)
theorem GP{k:κ}:cL ([]:List (κ×V)) k=none:=rfl
theorem lB{p:κ×V}{r:List (κ×V)}{k:κ}(e:p.1=k):cL (p::r) k=some p.2:=by simp[cL,List.find?_cons,e]
theorem lC{p:κ×V}{r:List (κ×V)}{k:κ}(e:¬ p.1=k):cL (p::r) k=cL r k:=by simp[cL,List.find?_cons,e]
theorem vQ(k:κ):∀kvs:List (κ×V),(kvs.any λkv=>decide (kv.1=k))=(cL kvs k).isSome
 | []=>rfl
 | p::r=>by
  rw[List.any_cons];by_cases e:p.1=k
  ·simp only[lB e,decide_eq_true e,Bool.true_or,Option.isSome_some]
  ·rw[lC e,decide_eq_false e,Bool.false_or];exact vQ k r
theorem QK(k j:κ)(y:V):∀kvs:List (κ×V),cL (kvs.map λkv=>if kv.1=k then(kv.1,y) else kv) j=(cL kvs j).map λx=>if j=k then y else x
 | []=>rfl
 | p::r=>by
  have ih:=QK k j y r;rw[List.map_cons];by_cases h:p.1=k
  ·rw[if_pos h];by_cases e:p.1=j
   ·rw[lB (p:=(p.1,y)) e,lB e,Option.map_some,if_pos (e.symm.trans h)]
   ·rw[lC (p:=(p.1,y)) e,lC e,ih]
  ·rw[if_neg h];by_cases e:p.1=j
   ·rw[lB (p:=p) e,lB e,Option.map_some,if_neg (λz=>h (e.trans z))]
   ·rw[lC (p:=p) e,lC e,ih]
theorem QL(k j:κ)(y:V):∀kvs:List (κ×V),cL kvs k=none->cL (kvs++[(k,y)]) j=if j=k then some y else cL kvs j
 | [],_=>by
  by_cases e:k=j
  ·rw[if_pos e.symm];exact lB (p:=(k,y)) e
  ·rw[if_neg (λz=>e z.symm)];exact lC (p:=(k,y)) e
 | p::r,hn=>by
  rw[List.cons_append];have hk:¬ p.1=k:=λz=>by rw[lB z] at hn;cases hn
  rw[lC hk] at hn;have ih:=QL k j y r hn;by_cases e:p.1=j
  ·rw[lB e,lB e,if_neg (λz=>hk (e.trans z))]
  ·rw[lC e,lC e,ih]
theorem zS(kvs:List (κ×V))(k j:κ)(y:V):cL (putK kvs k y) j=if j=k then some y else cL kvs j:=by
 unfold putK;by_cases a:(kvs.any λkv=>decide (kv.1=k))=true
 ·rw[if_pos a,QK];rw[vQ] at a;by_cases e:j=k
  ·obtain⟨x,hx⟩:=Option.isSome_iff_exists.mp a;rw[if_pos e,e,hx,Option.map_some,if_pos rfl]
  ·rw[if_neg e];cases cL kvs j with
   | none=>rfl
   | some x=>rw[Option.map_some,if_neg e]
 ·rw[if_neg a];refine QL k j y kvs ?_;rw[vQ] at a;cases q:cL kvs k with
  | none=>rfl
  | some x=>rw[q] at a;exact(a rfl).elim
theorem GQ(kvs:List (κ×V))(k:κ)(v:V):(putK kvs k v).length<=kvs.length+1:=by
 unfold putK;split
 ·rw[List.length_map];lia
 ·rw[List.length_append,List.length_cons,List.length_nil];lia
theorem abN{kvs:List (κ×V)}{k:κ}(v:V)(h:cL kvs k=none):putK kvs k v=kvs++[(k,v)]:=by
 unfold putK;rw[vQ,h];exact if_neg (by decide)
theorem gQ.GR{o:Option V}{u:Option Value}(r:gQ o u):o.isSome=u.isSome:=by
 cases o with
 | none=>cases u with
  | none=>rfl
  | some _=>exact(show False from r).elim
 | some _=>cases u with
  | none=>exact(show False from r).elim
  | some _=>rfl
theorem gQ.getD{o:Option V}{u:Option Value}{d:V}{d':Value}(r:gQ o u)(rd:RelV d d'):RelV (o.getD d) (u.getD d'):=by
 cases o with
 | none=>cases u with
  | none=>exact rd
  | some _=>exact(show False from r).elim
 | some _=>cases u with
  | none=>exact(show False from r).elim
  | some _=>exact r
theorem KV.val{kvs:List (κ×V)}{vs:List (κ×Value)}(r:KV kvs vs)(k:κ):gQ (cL kvs k) (valueAt vs k):=by
 unfold KV at r
 induction r with
 | nil=>exact True.intro
 | @cons p q ps qs h t ih =>
  obtain⟨h1,h2⟩:=h;by_cases e:p.1=k
  ·have e':q.1=k:=h1.symm.trans e;have b:valueAt (q::qs) k=some q.2:=by simp[valueAt,List.find?_cons,e']
   rw[lB e,b];exact h2
  ·have e':¬ q.1=k:=λz=>e (h1.trans z);have b:valueAt (q::qs) k=valueAt qs k:=by simp[valueAt,List.find?_cons,e']
   rw[lC e,b];exact ih
theorem KV.any{kvs:List (κ×V)}{vs:List (κ×Value)}(r:KV kvs vs)(k:κ):(kvs.any λkv=>decide (kv.1=k))=vs.any λkv=>decide (kv.1=k):=by
 unfold KV at r
 induction r with
 | nil=>rfl
 | cons h t ih=>rw[List.any_cons,List.any_cons,ih,h.1]
theorem KV.GS{kvs:List (κ×V)}{vs:List (κ×Value)}(r:KV kvs vs)(k:κ){y:V}{u:Value}(ry:RelV y u) :
  KV (kvs.map λkv=>if kv.1=k then(kv.1,y) else kv) (vs.map λkv=>if kv.1=k then(kv.1,u) else kv):=by
 unfold KV at r ⊢
 induction r with
 | nil=>exact .nil
 | @cons p q ps qs h t ih =>
  rw[List.map_cons,List.map_cons];refine .cons ?_ ih;obtain⟨h1,h2⟩:=h;by_cases e:p.1=k
  ·rw[if_pos e,if_pos (h1.symm.trans e)];exact⟨h1,ry⟩
  ·rw[if_neg e,if_neg (λz=>e (h1.trans z))];exact⟨h1,h2⟩
theorem KV.put{kvs:List (κ×V)}{vs:List (κ×Value)}(r:KV kvs vs)(k:κ){y:V}{u:Value}(ry:RelV y u):KV (putK kvs k y) (stored vs k u):=by
 unfold putK stored;rw[r.any k];by_cases e:(vs.any λkv=>decide (kv.1=k))=true
 ·rw[if_pos e,if_pos e];exact r.GS k ry
 ·rw[if_neg e,if_neg e];exact Paired.snoc r ⟨rfl,ry⟩
theorem KV.drop{kvs:List (κ×V)}{vs:List (κ×Value)}(r:KV kvs vs)(k:κ):KV (jd kvs k) (without vs k):=by
 unfold KV at r ⊢;unfold jd without
 induction r with
 | nil=>exact .nil
 | @cons p q ps qs h t ih =>
  obtain⟨h1,h2⟩:=h;rw[List.filter_cons,List.filter_cons];by_cases e:p.1=k
  ·have a:¬ decide (p.1≠k)=true:=by simp[e]
   have b:¬ decide (q.1≠k)=true:=by simp[h1.symm.trans e]
   rw[if_neg a,if_neg b];exact ih
  ·have e':¬ q.1=k:=λz=>e (h1.trans z);have a:decide (p.1≠k)=true:=by simp[e]
   have b:decide (q.1≠k)=true:=by simp[e']
   rw[if_pos a,if_pos b];exact .cons ⟨h1,h2⟩ ih
theorem KV.length{kvs:List (κ×V)}{vs:List (κ×Value)}(r:KV kvs vs):kvs.length=vs.length:=Paired.length r
theorem abO(kvs:List (κ×V))(k:κ):(jd kvs k).length<=kvs.length:=List.length_filter_le _ _
end
theorem qP{P:Program}{w:World}{k:Key}{u:Value}(r:RelV (kV k) u):(f_ P w).is k u=true:=by
 cases k with
 | inl i=>obtain⟨t,e⟩:=(show ∃t,u=Value.int i t from r);subst e;exact aaH P w i t
 | inr x=>obtain⟨t,e⟩:=(show ∃t,u=Value.str x t from r);subst e;exact aaI P w x t
theorem QM{P:Program}{w:World}:∀ {ks:List Key} {us:List Value},Vals (ks.map kV) us->ItemsAre (f_ P w) ks us
 | [],_,r=>by rw[List.map_nil] at r;cases r;exact .nil
 | k::ks,_,r=>by
  rw[List.map_cons] at r;cases r with
  | cons h t=>exact .cons (qP h) (QM t)
noncomputable abbrev KT(H:Hp):List (List Key×V)->List (List Key×Addr×Value)->Prop:=Paired λp q=>p.1=q.1/\H q.2.1=some (.tup (p.1.map kV))/\RelV p.2 q.2.2
theorem KT.val{H:Hp}{kvs:List (List Key×V)}{xs:List (List Key×Addr×Value)}(r:KT H kvs xs)(k:List Key):gQ (cL kvs k) ((atKey xs k).map (·.2)):=by
 induction r with
 | nil=>exact True.intro
 | @cons p q ps qs h t ih =>
  obtain⟨h1,_,h2⟩:=h;by_cases e:p.1=k
  ·have e':q.1=k:=h1.symm.trans e;have b:atKey (q::qs) k=some q.2:=by simp[atKey,List.find?_cons,e']
   rw[lB e,b];exact h2
  ·have e':¬ q.1=k:=λz=>e (h1.trans z);have b:atKey (q::qs) k=atKey qs k:=by simp[atKey,List.find?_cons,e']
   rw[lC e,b];exact ih
theorem KT.GS{H:Hp}{kvs:List (List Key×V)}{xs:List (List Key×Addr×Value)}(r:KT H kvs xs)(k:List Key){y:V}{u:Value}(ry:RelV y u) :
  KT H (kvs.map λkv=>if kv.1=k then(kv.1,y) else kv) (xs.map (putAt k u)):=by
 induction r with
 | nil=>exact .nil
 | @cons p q ps qs h t ih =>
  rw[List.map_cons,List.map_cons];refine .cons ?_ ih;obtain⟨h1,h2,h3⟩:=h;unfold putAt;by_cases e:p.1=k
  ·rw[if_pos e,if_pos (h1.symm.trans e)];exact⟨h1,h2,ry⟩
  ·rw[if_neg e,if_neg (λz=>e (h1.trans z))];exact⟨h1,h2,h3⟩
theorem KT.put{H:Hp}{kvs:List (List Key×V)}{xs:List (List Key×Addr×Value)}(r:KT H kvs xs)(k:List Key){b:Addr}{y:V}{u:Value}(hb:H b=some (.tup (k.map kV)))(ry:RelV y u) :
  KT H (putK kvs k y) (storedH xs k b u):=by
 have e:(kvs.any λkv=>decide (kv.1=k))=(atKey xs k).isSome:=by
  rw[vQ,(r.val k).GR,Option.isSome_map]
 unfold putK storedH;rw[e];by_cases q:(atKey xs k).isSome=true
 ·rw[if_pos q,if_pos q];exact r.GS k ry
 ·rw[if_neg q,if_neg q];exact Paired.snoc r ⟨rfl,hb,ry⟩
theorem KT.keeps{H H':Hp}{kvs:List (List Key×V)}{xs:List (List Key×Addr×Value)}(r:KT H kvs xs)(ht:∀b ys,H b=some (.tup ys)->H' b=some (.tup ys)):KT H' kvs xs :=
 Paired.FI r λ_ _ z=>⟨z.1,ht _ _ z.2.1,z.2.2⟩
section
variable{P:Program}{w:World}{H:Hp}{h:Heap}{a:Addr}
theorem QN{u:HO}(ok:c_ P w H h)(e:Rd H a u):dQ P w H h a u:=e.ok ok
theorem qQ{kvs:List (Key×V)}(ok:c_ P w H h)(e:Rd H a (.dK kvs)):kvs.length<=sizeLine/\(a == sysModules)=false/\∃vs,KV kvs vs/\h.DictOf (f_ P w) a vs :=
 show dQ P w H h a (.dK kvs) from QN ok e
theorem GU{kvs:List (Key×V)}(ok:c_ P w H h)(e:H a=some (.dK kvs)):kvs.length<=sizeLine/\(a == sysModules)=false/\∃vs,KV kvs vs/\h.DictOf (f_ P w) a vs:=qQ ok (.inl e)
theorem tG{ks:List Key}(ok:c_ P w H h)(e:H a=some (.tup (ks.map kV))):(tupleKind (f_ P w)).is h ks a:=by
 obtain⟨_,aG,r,o,h1,h2,n,h3⟩:=(show dQ P w H h a (.tup (ks.map kV)) from ok a _ e);exact⟨o,aG.toArray,n,h1,h2,h3,by simpa using QM r⟩
theorem qR{kvs:List (List Key×V)}(ok:c_ P w H h)(e:Rd H a (.dT kvs)):kvs.length<=sizeLine/\(a == sysModules)=false/\
  ∃xs,KT H kvs xs/\h.DictOfH (tupleKind (f_ P w)) a xs:=by
 obtain⟨z,y,xs,r,o,es,ep,h1,h2,h3,h4,h5⟩:=(show dQ P w H h a (.dT kvs) from QN ok e);refine⟨z,y,xs,r,o,es,ep,h1,h2,h3,h4,λx hx=>?_,h5⟩;have all:∀ {l:List (List Key×V)} {m:List (List Key×Addr×Value)},KT H l m->∀x∈m,(tupleKind (f_ P w)).is h x.1 x.2.1:=by
  intro l m q
  induction q with
  | nil=>intro x hx;exact nomatch hx
  | @cons p q ps qs hq t ih =>
   intro x hx;rcases List.mem_cons.mp hx with e | hx
   ·subst e;exact tG ok (by rw[← hq.1];exact hq.2.1)
   ·exact ih x hx
 exact all r x hx
theorem abP{kvs:List (List Key×V)}(ok:c_ P w H h)(e:H a=some (.dT kvs)):kvs.length<=sizeLine/\(a == sysModules)=false/\
  ∃xs,KT H kvs xs/\h.DictOfH (tupleKind (f_ P w)) a xs:=qR ok (.inl e)
end
noncomputable def fY(H:Hp)(a:Addr)(y:V)(r:Option V):Prop :=
 (∃kvs k,Rd H a (.dK kvs)/\y=kV k/\r=cL kvs k)\/∃kvs k b,Rd H a (.dT kvs)/\y = .ref b/\H b=some (.tup (k.map kV))/\r=cL kvs k
noncomputable def lD(H:Hp)(a:Addr)(y v:V)(H':Hp):Prop :=
 (∃kvs k,H a=some (.dK kvs)/\y=kV k/\kvs.length<sizeLine/\H' = upd H a (.dK (putK kvs k v)))\/
 ∃kvs k b,H a=some (.dT kvs)/\y = .ref b/\H b=some (.tup (k.map kV))/\kvs.length<sizeLine/\H' = upd H a (.dT (putK kvs k v))
theorem fY.k{H:Hp}{a:Addr}{kvs:List (Key×V)}{k:Key}(e:H a=some (.dK kvs)):fY H a (kV k) (cL kvs k):=.inl ⟨kvs,k,.inl e,rfl,rfl⟩
theorem fY.t{H:Hp}{a b:Addr}{kvs:List (List Key×V)}{k:List Key}(e:H a=some (.dT kvs))(eb:H b=some (.tup (k.map kV))):fY H a (.ref b) (cL kvs k):=.inr ⟨kvs,k,b,.inl e,rfl,eb,rfl⟩
theorem lD.k{H:Hp}{a:Addr}{kvs:List (Key×V)}{k:Key}{v:V}(e:H a=some (.dK kvs))(hl:kvs.length<sizeLine):lD H a (kV k) v (upd H a (.dK (putK kvs k v))):=.inl ⟨kvs,k,e,rfl,hl,rfl⟩
theorem lD.t{H:Hp}{a b:Addr}{kvs:List (List Key×V)}{k:List Key}{v:V}(e:H a=some (.dT kvs))(eb:H b=some (.tup (k.map kV)))(hl:kvs.length<sizeLine) :
  lD H a (.ref b) v (upd H a (.dT (putK kvs k v))):=.inr ⟨kvs,k,b,e,rfl,eb,hl,rfl⟩
section
variable{X:Cx}{pins:List (Addr×Obj)}{σ:St}{H:Hp}{s:Shared}{a:Addr}{y v:V}{u r:Value}{o:Option V}{A:Around}{E:Value->Shared->Prop}
theorem Inv.big(I:Inv X pins σ H s):sysModules<s.heap.objs.size:=by
 have h:mainGlobals<s.heap.objs.size:=(I.mod.glob.keeps I.bk).lt;exact Nat.lt_trans (by decide) h
theorem abQ{Q:Value->Shared->Prop}(hu:A.units+1<cLine)(I:Inv X pins σ H s)(g:fY H a y (some v))(ry:RelV y u)(h:∀w' s',Inv X pins σ H s'->RelV v w'->Q w' s') :
  wpAny (model X.prog X.w) A (getItem (.ref a) u) Q E s:=by
 rcases g with⟨kvs,k,e,ey,l⟩ | ⟨kvs,k,b,e,ey,eb,l⟩
 ·subst ey;obtain⟨z,hd,vs,rel,dd⟩:=qQ I.aO e;obtain⟨w',hw,fO⟩:=gQ.some_of (v:=v) (o:=valueAt vs k) (by rw[l];exact rel.val k)
  exact wpAny_getItem_of (qP ry) dd.mapOf hw (h w' _ (I.tok _) fO)
 ·subst ey;cases (show u=Value.ref b from ry);obtain⟨z,hd,xs,rel,dd⟩:=qR I.aO e;obtain⟨w',hw,fO⟩:=gQ.some_of (v:=v) (o:=(atKey xs k).map (·.2)) (by rw[l];exact rel.val k)
  obtain⟨p,hp,lE⟩:=Option.map_eq_some_iff.mp hw;refine wpAny_getItem_heap (tupleKind_room_in1 hu) (tG I.aO eb) dd hp ?_;rw[lE];exact h w' _ (I.tok _) fO
theorem abR{Q:Value->Shared->Prop}(hu:A.units+1<cLine)(I:Inv X pins σ H s)(g:fY H a y o)(ry:RelV y u)(h:∀s',Inv X pins σ H s'->Q (.bool o.isSome) s') :
  wpAny (model X.prog X.w) A (compareOp .In u (.ref a)) Q E s:=by
 rcases g with⟨kvs,k,e,ey,l⟩ | ⟨kvs,k,b,e,ey,eb,l⟩
 ·subst ey;obtain⟨z,hd,vs,rel,dd⟩:=qQ I.aO e;refine wpAny_in_of (qP ry) hd dd.mapOf ?_;rw[← (rel.val k).GR,← l];exact h _ (I.tok _)
 ·subst ey;cases (show u=Value.ref b from ry);obtain⟨z,hd,xs,rel,dd⟩:=qR I.aO e;refine wpAny_in_heap (tupleKind_room_in1 hu) (tG I.aO eb) hd dd ?_;have q:=(rel.val k).GR;rw[Option.isSome_map] at q;rw[← q,← l];exact h _ (I.tok _)
theorem GV{h':Heap}{t':Nat}{ob:HO}(I:Inv X pins σ H s)(mu:vh (H a))(hs:Heap.SameBut a s.heap h')(he:∃q,h'.get? a=some q)(new:dQ X.prog X.w (upd H a ob) h' a ob) :
  Inv X pins σ (upd H a ob) { s with heap:=h',toks:=t' } :=
 I.write (x:=a) (e:=a) mu (.inl rfl) (λb q hb z=>(hs.2 b hb).trans z) he new
theorem QO{P:Program}{w:World}{H':Hp}{h':Heap}{kvs:List (Key×V)}{vs:List (Key×Value)}(z:kvs.length<=sizeLine)(hd:(a == sysModules)=false)(rel:KV kvs vs)(dd:h'.DictOf (f_ P w) a vs) :
  dQ P w H' h' a (.dK kvs):=⟨z,hd,vs,rel,dd⟩
theorem abS{H':Hp}{Q:Unit->Shared->Prop}(hu:A.units+1<cLine)(I:Inv X pins σ H s)(g:lD H a y v H')(ry:RelV y u)(rv:RelV v r)(h:∀s',Inv X pins σ H' s'->Q () s') :
  wpAny (model X.prog X.w) A (setItem (.ref a) u r) Q E s:=by
 rcases g with⟨kvs,k,e,ey,l,eH⟩ | ⟨kvs,k,b,e,ey,eb,l,eH⟩
 ·subst ey eH;obtain⟨z,hd,vs,rel,dd⟩:=GU I.aO e;have hz:vs.length<=sizeLine:=by rw[← rel.length];exact z
  have hl:(putK kvs k v).length<=sizeLine:=by have:=GQ kvs k v;lia
  refine wpAny_setItem_pairs (hsz:=hz) (qP ry) dd λh' qT hs=>h _ ?_;have he:∃q,h'.get? a=some q:=let ⟨q,_,_,hq,_⟩:=qT;⟨q,hq⟩
  exact GV I (by rw[e];exact True.intro) hs he (QO hl hd (rel.put k rv) qT)
 ·subst ey eH;cases (show u=Value.ref b from ry);obtain⟨z,hd,xs,rel,dd⟩:=abP I.aO e;have hz:xs.length<=sizeLine:=by rw[← Paired.length rel];exact z
  have hl:(putK kvs k v).length<=sizeLine:=by have:=GQ kvs k v;lia
  refine wpAny_setItem_heap (hsz:=hz) (tupleKind_room_in1 hu) (tG I.aO eb) dd λh' qT hs=>h _ ?_;obtain⟨q,es,ep,hq,h2,h3,h4,_,h5⟩:=qT;refine GV I (by rw[e];exact True.intro) hs ⟨q,hq⟩ ⟨hl,hd,_,(rel.put k eb rv).keeps λc ys ec=>?_,q,es,ep,hq,h2,h3,h4,h5⟩
  rw[aI (sE ec e (λz=>nomatch z))];exact ec
end
section
variable{X:Cx}{pins:List (Addr×Obj)}{σ:St}{H:Hp}{s:Shared}{a:Addr}{kvs:List (Key×V)}{k:Key}{u:Value}{A:Around}{E:Value->Shared->Prop}
theorem abT{v:V}{more:List Value}{Q:Value->Shared->Prop}(I:Inv X pins σ H s)(e:H a=some (.dK kvs))(ry:RelV (kV k) u)(l:cL kvs k=some v)(hm:more = []\/∃x,more = [x])
  (h:∀w' s',Inv X pins σ (upd H a (.dK (jd kvs k))) s'->RelV v w'->Q w' s'):wpAny (model X.prog X.w) A (call (.builtin "dict.pop") (.ref a::u::more)) Q E s:=by
 obtain⟨z,hd,vs,rel,dd⟩:=GU I.aO e;obtain⟨w',hw,fO⟩:=gQ.some_of (v:=v) (o:=valueAt vs k) (by rw[← l];exact rel.val k)
 have hp:(keyPart u).isSome=true:=by
  cases k with
  | inl i=>obtain⟨t,q⟩:=(show ∃t,u=Value.int i t from ry);subst q;rfl
  | inr x=>obtain⟨t,q⟩:=(show ∃t,u=Value.str x t from ry);subst q;rfl
 have ha:argsOk "dict.pop" ⟨.ref a::u::more,[]⟩:=by
  rcases hm with q | ⟨x,q⟩
  ·subst q;exact PySem.F.args_dict_pop_2 _ _
  ·subst q;exact PySem.F.args_dict_pop_3 _ _ _
 refine call_meetsIn PySem.F.slot_dict_pop dd.typeIs PySem.F.entry_dict_pop ha (meets_dict_pop_there (f_ X.prog X.w) a (qP ry) more hm hp)
  ⟨vs,w',dd,by rw[← rel.length];exact z,hw,λh' qT hs=>h w' _ ?_ fO⟩
 have he:∃q,h'.get? a=some q:=let ⟨q,_,_,hq,_⟩:=qT;⟨q,hq⟩
 exact GV I (by rw[e];exact True.intro) hs he (QO (Nat.le_trans (abO kvs k) z) hd (rel.drop k) qT)
end
noncomputable def QS(i:Expr):Prop:=∀ov iv,subscripted i false ov iv=operate [ov,iv] (getItem ov iv)
theorem abU{prog:Program}{w:World}{A:Around}{E:Value->Shared->Prop}{s:Shared}{env:Env}{value slice:Expr}{pos:Pos}{T id:String}{Q:Value->Shared->Prop}
  (hl:typeLookup (.type T) "__getitem__" = pure (some (.builtin id))) (hs:QS slice)
  (h:wpAny (model prog w) A (eval value env) (λo bC=>wpAny (model prog w) A (eval slice env) (λi kY=>kY.TypeIs o T/\wpAny (model prog w) A (getItem o i) Q E kY) E bC) E s) :
  wpAny (model prog w) A (eval (.Subscript value slice pos) env) Q E s:=by
 refine Subscript_ (wpAny_mono h (λo bC mQ=>wpAny_mono mQ (λi kY vR=>?_) λ_ _ x=>x) λ_ _ x=>x);obtain⟨hT,vR⟩:=vR;unfold subscriptTail;refine wpAny_bind ?_;rw[getitemInPython_of_ne hT.not_modules];refine wpAny_bind (wpAny_specialOf hT hl ?_);have fin:wpAny (model prog w) A (subscripted slice false o i) (λr ku=>wpAny (model prog w) A (letTemporaryGo value o r >>= λ_=>pure r) Q E ku) E kY:=by
  rw[hs o i];exact wpAny_operating (wpAny_mono vR (λr ku zT=>wpAny_bind (wpAny_letTemporaryGo (wpAny_pure zT))) λ_ _ x=>x)
 first
  | exact wpAny_pure (wpAny_bind fin)
  | exact wpAny_bind (wpAny_pure (wpAny_bind fin))
  | exact wpAny_bind fin
theorem abV{X:Cx}{pins:List (Addr×Obj)}{σ:St}{H:Hp}{s:Shared}{a:Addr}{y:V}{o:Option V}(I:Inv X pins σ H s)(g:fY H a y o):s.TypeIs (.ref a) "dict" := by
 rcases g with⟨kvs,k,e,_,_⟩ | ⟨kvs,k,b,e,_,_,_⟩
 ·obtain⟨_,_,vs,_,dd⟩:=qQ I.aO e;exact dd.typeIs
 ·obtain⟨_,_,xs,_,dd⟩:=qR I.aO e;exact dd.typeIs
noncomputable def QT(td ty:TE):TE:=λσ H Q=>td σ H λx H1=>ty σ H1 λy H2=>∃a v,x = .ref a/\fY H2 a y (some v)/\Q v H2
noncomputable def QU(ty td:TE):TE:=λσ H Q=>ty σ H λy H1=>td σ H1 λx H2=>∃a o,x = .ref a/\fY H2 a y o/\Q (.bl o.isSome) H2
noncomputable def QV(td ty tv:TE):TS:=λD σ H=>tv σ H λv H1=>td σ H1 λx H2=>ty σ H2 λy H3=>∃a H4,x = .ref a/\lD H3 a y v H4/\D.nx σ H4
section
variable{X:Cx}{o i e value:Expr}{pos pos' abf:Pos}{td ty tv:TE}
theorem abW(hu:X.A.units+1<cLine)(ho:PE X o td)(hi:PE X i ty)(hs:QS i):PE X (.Subscript o i pos) (QT td ty):=by
 intro pins s σ H Q I h;refine abU PySem.F.slot_dict_getitem.lookup hs (aP (ho pins s σ H _ I h) λu s1 ⟨x,H1,I1,rx,q1⟩=>aP (hi pins s1 σ H1 _ I1 q1) λiv s2 ⟨y,H2,I2,ry,a,v,ex,g,q2⟩=>?_);subst ex;obtain rfl:u=Value.ref a:=rx;exact⟨abV I2 g,abQ hu I2 g ry λw' s3 I3 fO=>⟨v,H2,I3,fO,q2⟩⟩
theorem GW(hu:X.A.units+1<cLine)(hi:PE X i ty)(ho:PE X o td):PC X .In i o (QU ty td):=by
 intro pins s σ H Q I h;refine aP (hi pins s σ H _ I h) λiv s1 ⟨y,H1,I1,ry,q1⟩=>aP (ho pins s1 σ H1 _ I1 q1) λu s2 ⟨x,H2,I2,rx,a,ov,ex,g,q2⟩=>?_;subst ex;obtain rfl:u=Value.ref a:=rx;exact abR hu I2 g ry λs3 I3=>⟨.bl ov.isSome,H2,I3,rfl,q2⟩
theorem zU(hu:X.A.units+1<cLine)(ho:PE X o td)(hi:PE X i ty)(hv:PE X value tv)(hs:swapsWith value (some (.Subscript o i pos')) pos.line X.env=pure false) :
  PS X (.Assign [.Subscript o i pos'] value pos) (QV td ty tv):=by
 intro pins s σ H D I h;refine wpAny_Assign_Subscript (aP (hv pins s σ H _ I h) λr s1 ⟨v,H1,I1,rv,q1⟩=>aP (ho pins s1 σ H1 _ I1 q1) λu s2 ⟨x,H2,I2,rx,q2⟩=>aP (hi pins s2 σ H2 _ I2 q2) λiv s3 ⟨y,H3,I3,ry,a,H4,ex,g,q3⟩=>?_) hs;subst ex;obtain rfl:u=Value.ref a:=rx;exact abS hu I3 g ry rv λs4 I4=>⟨σ,H4,I4,q3⟩
end
theorem abX{P:Program}{w:World}{H:Hp}(h:Heap)(hb:sysModules<h.objs.size):dQ P w H (h.push { cls:=.type "dict",data:=.dict #[] }) h.objs.size (.dK []) :=
 ⟨Nat.zero_le _,beq_eq_false_iff_ne.mpr (Ne.symm (Nat.ne_of_lt hb)),[],.nil,Heap.DictOf.new h⟩
theorem abY{P:Program}{w:World}{H:Hp}(h:Heap)(hb:sysModules<h.objs.size):dQ P w H (h.push { cls:=.type "dict",data:=.dict #[] }) h.objs.size (.dT []) :=
 ⟨Nat.zero_le _,beq_eq_false_iff_ne.mpr (Ne.symm (Nat.ne_of_lt hb)),[],.nil,_,#[],0,Heap.get?_push_size _ rfl,⟨rfl,rfl,rfl⟩,rfl,rfl,List.nodup_nil⟩
noncomputable def QW:TE:=λ_ H Q=>∀p,H p=none->Q (.ref p) (upd H p (.dK []))
noncomputable def QX:TE:=λ_ H Q=>∀p,H p=none->Q (.ref p) (upd H p (.dT []))
section
variable{X:Cx}{pos:Pos}
theorem vU:PE X (.Dict [] [] pos) QW:=λpins s σ H Q I h =>
 wpAny_Dict_empty ⟨.ref s.heap.objs.size,_,I.laid (a:=s.heap.objs.size) (o:=.dK []) (t':=s.toks) (λ_ _ q=>Heap.get?_push_of_some _ q) (Nat.le_refl _) (abX s.heap I.big),rfl,h _ (I.aO.fresh (Nat.le_refl _))⟩
theorem abZ:PE X (.Dict [] [] pos) QX:=λpins s σ H Q I h =>
 wpAny_Dict_empty ⟨.ref s.heap.objs.size,_,I.laid (a:=s.heap.objs.size) (o:=.dT []) (t':=s.toks) (λ_ _ q=>Heap.get?_push_of_some _ q) (Nat.le_refl _) (abY s.heap I.big),rfl,h _ (I.aO.fresh (Nat.le_refl _))⟩
end
structure M1(X:Cx)(o:Expr)(m:Str)(apos:Pos)(e:Expr)(eZ:Pos):Prop where
 base:attributeBase o m X.env (eval o X.env)=eval o X.env
 zV:((backTo eZ (starEach [e] X.env)).all (λx => !x.1) && (backToKw eZ (keywordEach [] X.env)).all (λx=>x.1.isSome)
  && decide (([e]:List Expr).length+([]:List Keyword).length+(if ([]:List Keyword).isEmpty then 0 else 1)<30))=true
 line:(apos.endLine == eZ.line)=true
 trees:backTo eZ (starEach [e] X.env) = [(false,eval e X.env)]
structure M2(X:Cx)(o:Expr)(m:Str)(apos:Pos)(e f:Expr)(eZ:Pos):Prop where
 base:attributeBase o m X.env (eval o X.env)=eval o X.env
 zV:((backTo eZ (starEach [e,f] X.env)).all (λx => !x.1) && (backToKw eZ (keywordEach [] X.env)).all (λx=>x.1.isSome)
  && decide (([e,f]:List Expr).length+([]:List Keyword).length+(if ([]:List Keyword).isEmpty then 0 else 1)<30))=true
 line:(apos.endLine == eZ.line)=true
 trees:backTo eZ (starEach [e,f] X.env) = [(false,eval e X.env),(false,eval f X.env)]
noncomputable def tH(H:Hp)(a:Addr):Prop:=(∃kvs,Rd H a (.dK kvs))\/∃kvs,Rd H a (.dT kvs)
theorem GX{X:Cx}{pins:List (Addr×Obj)}{σ:St}{H:Hp}{s:Shared}{a:Addr}(I:Inv X pins σ H s)(d:tH H a) :
  s.TypeIs (.ref a) "dict"/\(∀b,Value.ref a = .ref b->∃ob,s.heap.get? b=some ob/\ob.dict=none)/\(a == sysModules)=false:=by
 rcases d with⟨kvs,e⟩ | ⟨kvs,e⟩
 ·obtain⟨_,hd,vs,_,dd⟩:=qQ I.aO e;refine⟨dd.typeIs,λb q=>?_,hd⟩;cases q;obtain⟨ob,_,_,h1,h2,_⟩:=dd;exact⟨ob,h1,h2.2.1⟩
 ·obtain⟨_,hd,xs,_,dd⟩:=qR I.aO e;refine⟨dd.typeIs,λb q=>?_,hd⟩;cases q;obtain⟨ob,_,_,h1,h2,_⟩:=dd;exact⟨ob,h1,h2.2.1⟩
section
variable{X:Cx}{pins:List (Addr×Obj)}{σ:St}{H:Hp}{s:Shared}{a:Addr}{y d:V}{u r:Value}{o:Option V}{A:Around}{E:Value->Shared->Prop}
theorem ab0{Q:Value->Shared->Prop}(hu:A.units+1<cLine)(I:Inv X pins σ H s)(g:fY H a y o)(ry:RelV y u)(h:∀w' s',Inv X pins σ H s'->RelV (o.getD .aV) w'->Q w' s') :
  wpAny (model X.prog X.w) A (call (.builtin "dict.get") [.ref a,u]) Q E s:=by
 rcases g with⟨kvs,k,e,ey,l⟩ | ⟨kvs,k,b,e,ey,eb,l⟩
 ·subst ey;obtain⟨z,hd,vs,rel,dd⟩:=qQ I.aO e;refine call_meetsIn PySem.F.slot_dict_get dd.typeIs PySem.F.entry_dict_get (PySem.F.args_dict_get_2 _ _) (meets_dict_get (f_ X.prog X.w) a (qP ry) hd) ⟨_,dd.mapOf,h _ _ (I.tok _) ?_⟩;rw[l];exact(rel.val k).getD rfl
 ·subst ey;cases (show u=Value.ref b from ry);obtain⟨z,hd,xs,rel,dd⟩:=qR I.aO e;refine call_meetsIn PySem.F.slot_dict_get dd.typeIs PySem.F.entry_dict_get (PySem.F.args_dict_get_2 _ _) (meetsH_dict_get (tupleKind (f_ X.prog X.w)) a b hd) ⟨tupleKind_room_in1 hu,k,xs,tG I.aO eb,dd,h _ _ (I.tok _) ?_⟩;rw[l];exact(rel.val k).getD rfl
theorem ab1{Q:Value->Shared->Prop}(hu:A.units+1<cLine)(I:Inv X pins σ H s)(g:fY H a y o)(ry:RelV y u)(rd:RelV d r)(h:∀w' s',Inv X pins σ H s'->RelV (o.getD d) w'->Q w' s') :
  wpAny (model X.prog X.w) A (call (.builtin "dict.get") [.ref a,u,r]) Q E s:=by
 rcases g with⟨kvs,k,e,ey,l⟩ | ⟨kvs,k,b,e,ey,eb,l⟩
 ·subst ey;obtain⟨z,hd,vs,rel,dd⟩:=qQ I.aO e;refine call_meetsIn PySem.F.slot_dict_get dd.typeIs PySem.F.entry_dict_get (PySem.F.args_dict_get_3 _ _ _) (meets_dict_get_default (f_ X.prog X.w) a (qP ry) hd r) ⟨_,dd.mapOf,h _ _ (I.tok _) ?_⟩;rw[l];exact(rel.val k).getD rd
 ·subst ey;cases (show u=Value.ref b from ry);obtain⟨z,hd,xs,rel,dd⟩:=qR I.aO e;refine call_meetsIn PySem.F.slot_dict_get dd.typeIs PySem.F.entry_dict_get (PySem.F.args_dict_get_3 _ _ _) (meetsH_dict_get_default (tupleKind (f_ X.prog X.w)) a b hd r) ⟨tupleKind_room_in1 hu,k,xs,tG I.aO eb,dd,h _ _ (I.tok _) ?_⟩;rw[l];exact(rel.val k).getD rd
end
noncomputable def QY(td ty:TE):TE:=λσ H Q=>td σ H λx H1=>∃a,x = .ref a/\tH H1 a/\ty σ H1 λy H2=>∃o,fY H2 a y o/\Q (o.getD .aV) H2
noncomputable def GY(td ty tx:TE):TE:=λσ H Q=>td σ H λx H1=>∃a,x = .ref a/\tH H1 a/\ty σ H1 λy H2=>tx σ H2 λz H3=>∃o,fY H3 a y o/\Q (o.getD z) H3
noncomputable def QZ(td ty:TE):TE:=λσ H Q=>td σ H λx H1=>∃a,x = .ref a/\tH H1 a/\ty σ H1 λy H2=>∃kvs k v,H2 a=some (.dK kvs)/\y=kV k/\cL kvs k=some v/\Q v (upd H2 a (.dK (jd kvs k)))
section
variable{X:Cx}{o e f:Expr}{apos eZ:Pos}{td ty tx:TE}
theorem ab2(hu:X.A.units+1<cLine)(ho:PE X o td)(he:PE X e ty)(m:M1 X o "get" apos e eZ):PE X (.Call (.Attribute o "get" apos) [e] [] eZ) (QY td ty):=by
 intro pins s σ H Q I h;refine wpAny_Call_method m.base m.zV m.line PySem.F.plainAttrs_dict PySem.F.slot_dict_get PySem.F.type_dict_get (aP (ho pins s σ H _ I h) λu s1 ⟨x,H1,I1,rx,a,ex,d,q1⟩=>?_);subst ex;obtain rfl:u=Value.ref a:=rx;obtain⟨t1,t2,_⟩:=GX I1 d;refine⟨t1,t2,?_⟩;rw[m.trees];refine Calls.callWith_builtin rfl (Calls.evalArgs_plain (Calls.spliced_cons (aP (he pins s1 σ H1 _ I1 q1) λiv s2 ⟨y,H2,I2,ry,ov,g,q2⟩=>Calls.spliced_nil ?_)));exact ab0 hu I2 g ry λw' s3 I3 fO=>⟨_,H2,I3,fO,q2⟩
theorem ab3(hu:X.A.units+1<cLine)(ho:PE X o td)(he:PE X e ty)(hf:PE X f tx)(m:M2 X o "get" apos e f eZ):PE X (.Call (.Attribute o "get" apos) [e,f] [] eZ) (GY td ty tx):=by
 intro pins s σ H Q I h;refine wpAny_Call_method m.base m.zV m.line PySem.F.plainAttrs_dict PySem.F.slot_dict_get PySem.F.type_dict_get (aP (ho pins s σ H _ I h) λu s1 ⟨x,H1,I1,rx,a,ex,d,q1⟩=>?_);subst ex;obtain rfl:u=Value.ref a:=rx;obtain⟨t1,t2,_⟩:=GX I1 d;refine⟨t1,t2,?_⟩;rw[m.trees];refine Calls.callWith_builtin rfl (Calls.evalArgs_plain (Calls.spliced_cons (aP (he pins s1 σ H1 _ I1 q1) λiv s2 ⟨y,H2,I2,ry,q2⟩ =>
  Calls.spliced_cons (aP (hf pins s2 σ H2 _ I2 q2) λfv s3 ⟨z,H3,I3,rz,ov,g,q3⟩=>Calls.spliced_nil ?_))))
 exact ab1 hu I3 g ry rz λw' s4 I4 fO=>⟨_,H3,I4,fO,q3⟩
theorem ab4(ho:PE X o td)(he:PE X e ty)(m:M1 X o "pop" apos e eZ):PE X (.Call (.Attribute o "pop" apos) [e] [] eZ) (QZ td ty):=by
 intro pins s σ H Q I h;refine wpAny_Call_method m.base m.zV m.line PySem.F.plainAttrs_dict PySem.F.slot_dict_pop PySem.F.type_dict_pop (aP (ho pins s σ H _ I h) λu s1 ⟨x,H1,I1,rx,a,ex,d,q1⟩=>?_);subst ex;obtain rfl:u=Value.ref a:=rx;obtain⟨t1,t2,_⟩:=GX I1 d;refine⟨t1,t2,?_⟩;rw[m.trees];refine Calls.callWith_builtin rfl (Calls.evalArgs_plain (Calls.spliced_cons (aP (he pins s1 σ H1 _ I1 q1) λiv s2 ⟨y,H2,I2,ry,kvs,k,v,ea,ey,l,q2⟩=>Calls.spliced_nil ?_)));subst ey;exact abT I2 ea ry l (.inl rfl) λw' s3 I3 fO=>⟨v,_,I3,fO,q2⟩
end
section
variable{X:Cx}{pins:List (Addr×Obj)}{σ:St}{H:Hp}{s:Shared}{a:Addr}{kvs:List (Key×V)}{A:Around}{E:Value->Shared->Prop}
end
section
variable{X:Cx}{pins:List (Addr×Obj)}{σ:St}{H:Hp}{s:Shared}{a:Addr}{y:V}{u:Value}{A:Around}{E:Value->Shared->Prop}
end
end _L
namespace GZ
open PySem PySem.W PySem.Calls PyProof.Rows
theorem ab5{P:Params}{h:Heap}:∀(ns:List Int) (vs:List Value),WellAll P h vs (ns.map WData.int)->IntsAre vs ns:=by
 intro ns
 induction ns with
 | nil =>
  intro vs w;rw[List.map_nil] at w;cases w;exact .nil
 | cons n ns ih =>
  intro vs w;rw[List.map_cons] at w;cases w with
  | cons a b =>
   cases a;exact .cons _ _ (ih _ b)
theorem ab6{l:OpenLaw}{n:Nat}(hn:l.most=some n){P:Params}{h:Heap}{args:List WData}{vals:List Value}
  (zW:l.row.toRowW.claim.pre args=true) (G0:WellAll P h vals args) :
  ∃a vs ns,vals = [Value.ref a]/\args = [WData.list (ns.map WData.int)]/\h.get? a=some { cls:=.type "list",data:=.seq vs.toArray }/\IntsAre vs ns/\ns.length<=n:=by
 have hsh:WShape.hasAll [] args [.list .int] = true:=(pre_splitW zW).1;have hc:l.pre.holds [] { args:=args }=true:=(pre_splitW zW).2;obtain⟨d,r,rfl,h1,h2⟩:=hasAllW_cons hsh;obtain rfl:=hasAllW_nil h2;obtain⟨xs,rfl,h3⟩:=hasW_list h1;obtain⟨ns,rfl⟩:=items_int h3;have hlen:ns.length<=n:=by
  unfold OpenLaw.pre at hc;have h4:(WTm.not (.lt (.lit (.int (n:Int))) (.len (.arg 0)))).holds [] { args:=[.list (ns.map .int)] }=true:=by
   have h4:=(holds_andW hc).1;rw[hn] at h4;exact h4
  have h5:=condW_of h4 (w_not (w_lt w_lit (w_len_list (w_arg rfl))));rw[List.length_map] at h5;refine Nat.le_of_not_lt λq=>?_
  have q':(n:Int)<((ns.length:Nat):Int):=by lia
  first
   | (rw[decide_eq_true q'] at h5;exact absurd h5 (by decide))
   | (simp at h5;lia)
 cases G0 with
 | cons w1 w2 =>
  cases w2;cases w1 with
  | list ho s_=>exact⟨_,_,ns,rfl,rfl,ho,ab5 ns _ s_,hlen⟩
theorem ab7(l:OpenLaw)(args:List WData):l.row.toRowW.claim.post args (.bool true) args=true :=
 postW_of (r:=l.row.toRowW) (X:=(true == true))
  (show WShape.has [] (.bool true) .bool=true by first | rfl | decide | simp[WShape.has,WShape.arms,WShape.armsAll])
  (show (WTm.eq .res (.lit (.bool true))).value [] { args:=args,res:=some (.bool true),after:=args }=some (.bool (true == true)) from w_eq_bool (w_res rfl) w_lit) rfl
theorem Q0{l:OpenLaw}{n:Nat}{q:Program}{loose:List Str}{XP:(Str->Option Value)->Heap->Prop}{YP:World->Heap->Prop}{d:DefRec}
  (hn:l.most=some n) (qU:d.params.defaults = [])
  (call:∀(w:World) (dG bC:Shared) (mg mb:Str->Option Value) (fa:Addr) (o:Obj) (pm cd doc:Value) (a:Addr) (vs:List Value) (ns:List Int),
   Ground q loose [] XP w dG mg mb bC.heap->YP w bC.heap->
   bC.heap.get? fa=some o->o.data = .func (docDef d.name d.params d.body d.scope pm cd doc)->bC.heap.CodeRec cd d.name->mg d.name=some (.ref fa)->
   bC.heap.get? a=some { cls:=.type "list",data:=.seq vs.toArray }->IntsAre vs ns->ns.length<=n->bC.gens = #[]->
   codeAny (model l.prog w) callerA (.call (.ref fa) ⟨[.ref a],[]⟩) (λr s'=>r = .ok (.ret (.bool true))/\OldK bC.heap s'.heap/\s'.os=bC.os/\AllBare s'.gens) bC) :
  WalkO q loose XP YP l.row.toRowW d [] (λf vs=>PySem.call f vs):=by
 intro w dG bC mg mb G Y fa o pm cd doc dV kV ho hd gH hD hmg hg args vals as zW amw hrd G0 hlo;obtain rfl:dV = .none:=Dflts.none hD qU;obtain rfl:kV = .none:=Dflts.noKw hD;obtain⟨a,vs,ns,rfl,rfl,vV,hints,hlen⟩:=ab6 hn zW G0;refine enter_call (codeAny_mono (call w dG bC mg mb fa o pm cd doc a vs ns G Y ho (fd_plain hd) gH hmg vV hints hlen hg) λr s' hq=>?_);obtain⟨rfl,h2,h3,h4⟩:=hq;exact⟨.inl ⟨.bool true,.bool true,[],rfl,λ_=>rfl,.bool true,ab7 l _,λ_=>⟨List.Pairwise.nil,λ_ hm=>(nomatch hm)⟩⟩,h2,h3,h4⟩
section
variable{prog:Program}{w:World}{A:Around}{E:Value->Shared->Prop}{s:Shared}{K:Frag}
noncomputable def ledger(h:Heap)(L d:Addr):List (Addr×Obj):=(List.range h.objs.size).filterMap λa=>if a=L\/a=d then none else(h.get? a).map λo=>(a,o)
end
end GZ
namespace _L
open PySem PySem.Spec PyProof.Rows
theorem zX:∀ {vs:List Value} {ns:List Int},IntsAre vs ns->Vals (ns.map V.int) vs
 | _,_,.nil=>.nil
 | _,_,.cons n t h=>.cons ⟨t,rfl⟩ (zX h)
noncomputable def G1(H:Hp):Prop:=∀b,H b=none\/∃o xs,H b=some (.cS o (.lst xs))
theorem ab8{P:Program}{w:World}{K:PySem.W.Frag}{mg mb:Str->Option Value}{CX:gf}{k:Nat}{fa a:Addr}{fd:FuncData}{x:Str}{sp:Sp}{bC:Shared}{vs:List Value}{ns:List Int}
  (KX:K.In bC.heap) (lF:bC.heap.Ns mainGlobals mg) (hb:bC.heap.Ns builtinsNs mb) (G2:∀x:Str,x≠"__name__"->mb x=bootBuiltins x) (G3:bC.heap.NoLimit) (hg:bC.gens = #[])
  (ha:bC.heap.get? a=some { cls:=.type "list",data:=.seq vs.toArray }) (hi:IntsAre vs ns) (hl:ns.length<=sizeLine) (hr:cK k callerA)
  (F:∀base:Heap,K.In base->base.Ns mainGlobals mg->aZ P w K mg base CX k fa fd [x] sp) (kB:∀(s:Shared) (u:Value),BindsTo s fd ⟨[u],[]⟩ [(x,u)])
  (iP:∀H:Hp,G1 H->aE K H a (ns.map V.int)->sp [.ref a] H (λv _=>v = .bl true) λ_ _ _=>False)
  (G4:∀H e s',CX [] H bC (λ_ _ _=>False) e s'->False) :
  codeAny (model P w) callerA (.call (.ref fa) ⟨[.ref a],[]⟩) (λr s'=>r = .ok (.ret (.bool true))/\OldK bC.heap s'.heap/\s'.os=bC.os/\AllBare s'.gens) bC:=by
 have rv:=zX hi;have G5:=hi.length
 -- from an abstract heap in which nothing but the script may be tracked
 have core:∀H:Hp,G1 H->aE K H a (ns.map V.int)->c_ P w H bC.heap->(∀b,H b≠none->b=a)->(H a≠none->K.lookup a=none)->
   codeAny (model P w) callerA (.call (.ref fa) ⟨[.ref a],[]⟩) (λr s'=>r = .ok (.ret (.bool true))/\OldK bC.heap s'.heap/\s'.os=bC.os/\AllBare s'.gens) bC:=by
  intro H hO hS aO hA hK;have qV:∀ {b:Addr} {o:Obj},bC.heap.get? b=some o->H b=none->(i7 bC.heap H).get? b=some o:=λe n=>OW e n;have vO:∀ {b:Addr} {o:Obj} {es:Array DictEntry} {ep:Nat},bC.heap.get? b=some o->o.data = .dict es ep->H b=none:=λ{b o es ep} e d=>by
   cases q:H b with
   | none=>rfl
   | some u =>
    have e':b=a:=hA b (by rw[q];simp)
    subst e';rw[ha] at e;cases e;have d':Data.seq vs.toArray _=Data.dict es ep:=d;cases d'
  have nY:∀ {b:Addr} {m:Str->Option Value},bC.heap.Ns b m->(i7 bC.heap H).Ns b m:=λ{b m} ⟨o,es,ep,e,d,r⟩=>⟨o,es,ep,qV e (vO e d),d,r⟩;have vW:K.In (i7 bC.heap H):=λb o e=>qV (KX b o e) (by
   cases q:H b with
   | none=>rfl
   | some u =>
    have e':b=a:=hA b (by rw[q];simp)
    subst e';rw[hK (by rw[q];simp)] at e;cases e)
  have hM:Mod K mg (i7 bC.heap H):=⟨vW,nY lF,⟨mb,nY hb,G2⟩,let ⟨mc,h1,h2⟩:=G3;⟨mc,nY h1,h2⟩⟩
  have e0:pG P w K mg (i7 bC.heap H) callerA [] bC H:=⟨rfl,hM,λb o e=>OX e,Nat.le_of_eq (OV _ _),trivial,λb hb=>absurd (show b∈([]:List Addr) from hb) (by simp),aO,.of_eq hg⟩
  refine codeAny_mono ((F _ vW (nY lF)).run callerA [] bC H ⟨[.ref a],[]⟩ [.ref a] [.ref a] _ _ hr e0 (kB bC (.ref a)) (.cons rfl .nil) (iP H hO hS)) λr s' h=>?_;cases r with
  | error e=>exact(G4 H e s' h).elim
  | ok fl =>
   cases fl with
   | next=>exact False.elim h
   | brk=>exact False.elim h
   | cont=>exact False.elim h
   | ret u =>
    obtain⟨v,H',os,bare,un,zY,r',q⟩:=h;have q':v = .bl true:=q;subst q';obtain rfl:u=Value.bool true:=r';refine⟨rfl,OldK.of_keep λb o e=>?_,os,bare⟩;cases q:H b with
    | none=>exact un.keep b o e q (by intro z;exact absurd (show b∈([]:List Addr) from z) (by simp)) (by simp)
    | some u =>
     rcases hO b with z | ⟨ob,xs,z⟩
     ·rw[q] at z;cases z
     ·have z2:=un.kW b ob _ z;obtain⟨e1,_⟩:=aO b _ z;obtain⟨e2,_⟩:=zY b _ z2;rw[e] at e1;cases e1;exact e2
 cases hk:K.lookup a with
 | some o =>
  -- the script is one of the module's own objects
  have e:=KX a o hk;rw[ha] at e;cases e;refine core (λ_=>none) (λ_=>.inl rfl) (.inr ⟨_,vs.toArray,_,hk,rfl,rfl,rfl,by rw[List.size_toArray,G5];exact hl,by simpa using rv⟩) (λb u z=>by have z':(none:Option HO)=some u:=z;cases z') (λb z=>absurd rfl z) λz=>absurd rfl z
 | none =>
  refine core (λb=>if b=a then some (.cS { cls:=.type "list",data:=.seq vs.toArray } (.lst (ns.map V.int))) else none) (λb=>?_) (.inl (.inr ⟨{ cls:=.type "list",data:=.seq vs.toArray },if_pos rfl⟩)) (λb u z=>?_) (λb z=>?_) λ_=>hk
  ·by_cases hb:b=a
   ·exact .inr ⟨_,_,if_pos hb⟩
   ·exact .inl (if_neg hb)
  ·by_cases hb:b=a
   ·have z':=(if_pos hb).symm.trans z;cases z';subst hb;exact⟨ha,by rw[List.length_map];exact hl,vs,_,rv,ha⟩
   ·have z':=(if_neg hb).symm.trans z;cases z'
  ·by_cases hb:b=a
   ·exact hb
   ·exact absurd (if_neg hb) z
noncomputable abbrev KOf{K:PySem.W.Frag}{h:Heap}(_:K.In h):PySem.W.Frag:=K
theorem amx{l:PySem.W.OpenLaw}{n k:Nat}{q:Program}{loose:List Str}{XP:(Str->Option Value)->Heap->Prop}{YP:World->Heap->Prop}{d:DefRec}{K:Params->PySem.W.Frag}{CX:World->gf}{sp:World->Sp}{x:Str}
  (hn:l.most=some n) (sY:n<=sizeLine) (qU:d.params.defaults = []) (hr:cK k callerA)
  (hY:∀(w:World) (h:Heap),YP w h->(K w.params).In h)
  (F:∀(w:World) (mg:Str->Option Value) (fa:Addr) (h:Heap),(K w.params).In h->h.Ns mainGlobals mg->mg d.name=some (.ref fa)->
   ∃fd:FuncData,(∀(s:Shared) (u:Value),BindsTo s fd ⟨[u],[]⟩ [(x,u)])/\
    ∀base:Heap,(K w.params).In base->base.Ns mainGlobals mg->aZ l.prog w (K w.params) mg base (CX w) k fa fd [x] (sp w))
  (iP:∀(w:World) (H:Hp) (a:Addr) (ns:List Int),ns.length<=n->G1 H->aE (K w.params) H a (ns.map V.int)->sp w [.ref a] H (λv _=>v = .bl true) λ_ _ _=>False)
  (G4:∀(w:World) (H:Hp) (s:Shared) (e:Value) (s':Shared),CX w [] H s (λ_ _ _=>False) e s'->False) :
  PySem.W.WalkO q loose XP YP l.row.toRowW d [] (λf vs=>PySem.call f vs):=by
 refine GZ.Q0 hn qU λw dG bC mg mb fa o pm cd doc a vs ns G Y ho hd gH hmg vV hints hlen hg=>?_;have KX:=hY w _ Y;obtain⟨fd,hb,hF⟩:=F w mg fa _ KX G.T.g hmg;exact ab8 KX G.T.g G.T.b G.T.builtins G.T.nolimit hg vV hints (Nat.le_trans hlen sY) hr hF hb (λH hO hS=>iP w H a ns hlen hO hS) λH e s'=>G4 w H bC e s'
noncomputable def inClass(s:Stmt)(j:Nat):Stmt:=match s with
 | .ClassDef _ _ _ body _ _ _ _ _ _ _=>body.getD j (.Pass ⟨0,0,0,0⟩)
 | _=>.Pass ⟨0,0,0,0⟩
noncomputable def fc(s:Stmt):Arguments:=match s with
 | .FunctionDef _ a _ _ _ _ _ _ _ _=>a
 | _=>{ posonlyargs:=[],args:=[],vararg:=none,kwonlyargs:=[],kw_defaults:=[],kwarg:=none,defaults:=[] }
noncomputable def dJ(s:Stmt):List Stmt:=match s with
 | .FunctionDef _ _ b _ _ _ _ _ _ _=>b
 | _=>[]
noncomputable def aN(s:Stmt):Scope:=match s with
 | .FunctionDef _ _ _ _ _ _ sc _ _ _=>sc
 | _=>{ kind:=.function,names:=[],isGenerator:=false,isCoroutine:=false }
noncomputable abbrev bu:gf:=λ_ _ _ _ _ _=>False
noncomputable abbrev E0:XK:=λ_ _ _=>False
theorem aM{X:Cx}:Passes bu X E0:=λ_ _ _ _ _ _ _ h=>h.elim
structure aK(K:PySem.W.Frag)(x qual:Str)(st:Stmt)(f:Addr)(fd:FuncData):Prop where
 ex:∃(oc:Value) (od:Option Addr) (kV doc pm:Value) (an:Option Addr) (aU ct:Value) (i_:Array (Option Value)),
  fd=PySem.W.fnOf x qual (fc st) (dJ st) (aN st) .none kV doc pm an aU ct/\K.lookup f=some ⟨oc,od,.func fd,i_⟩/\PySem.W.codeIn K aU qual=true
 kp:PySem.W.keepIn K (.ref f)=true
section
variable{P:Program}{w:World}{K:PySem.W.Frag}{mg:Str->Option Value}{base:Heap}
theorem aK.ok{x qual:Str}{st:Stmt}{f:Addr}{fd:FuncData}{N ps:List Str}{k:Nat}{sp:Sp}(F:aK K x qual st f fd)(S:bz N ps (aN st))(len:∀vs H Q E,sp vs H Q E->vs.length=ps.length)
  (qN:∀(aU:Value) (A:Around) (outer:List Env) (s:Shared) (H:Hp) (vs:List V) (Q:VK) (E:XK),cK k (A.deeper (envOfC qual (aN st) s.heap.objs.size f aU))->sp vs H Q E->
   ∃t,gT (nU bu P w K mg base N qual (aN st) f aU A outer s H E).pq (dJ st) t/\t { nx:=λ_ H'=>Q .aV H',rt:=Q } (start N vs) H):aZ P w K mg base bu (k+1) f fd ps sp:=by
 obtain⟨oc,od,kV,doc,pm,an,aU,ct,i_,rfl,lk,gH⟩:=F.ex;refine Gw lk gH S len λA outer s H vs Q E hr iP=>?_;obtain⟨t,h,q⟩:=qN aU A outer s H vs Q E hr iP;exact⟨t,h.pq,q⟩
theorem aK.binds{x qual:Str}{st:Stmt}{f:Addr}{fd:FuncData}{ps:List Str}(F:aK K x qual st f fd)
  (h:∀(kV doc pm:Value) (an:Option Addr) (aU ct:Value) (us:List Value),us.length=ps.length->bindArgs (PySem.W.fnOf x qual (fc st) (dJ st) (aN st) .none kV doc pm an aU ct) ⟨us,[]⟩=pure (ps.zip us)):Binds K fd ps []:=by
 obtain⟨oc,od,kV,doc,pm,an,aU,ct,i_,rfl,lk,gH⟩:=F.ex;exact .all (h kV doc pm an aU ct)
theorem fun_mk{x qual:Str}{st:Stmt}{f:Addr}{oc:Value}{od an:Option Addr}{i_:Array (Option Value)}{kV doc pm aU ct:Value}(l:K.lookup f=some ⟨oc,od,.func (PySem.W.fnOf x qual (fc st) (dJ st) (aN st) .none kV doc pm an aU ct),i_⟩)
  (c:PySem.W.codeIn K aU qual=true) (k:PySem.W.keepIn K (.ref f)=true):aK K x qual st f (PySem.W.fnOf x qual (fc st) (dJ st) (aN st) .none kV doc pm an aU ct):=⟨⟨oc,od,kV,doc,pm,an,aU,ct,i_,rfl,l,c⟩,k⟩
end
theorem jF{A:Around}{k:Nat}(hr:cK k A):A.units+1<cLine:=Nat.lt_of_le_of_lt (Nat.add_le_add_left (by decide:1<=64) _) hr.units
theorem gB{n:Nat}(h:n<=1000):n<sizeLine:=Nat.lt_of_le_of_lt h (by decide)
section
variable{X:Cx}
theorem pv(i:Nat){x:Str}{pos:Pos}(hN:X.N[i]? = some x:=by rfl)(hv:zw X.env.scope x:=by first | exact Or.inl rfl | exact Or.inr (Or.inl rfl) | exact Or.inr (Or.inr rfl))(hd:(x == ("__debug__" : Str))=false:=by decide)
  (gH:(x == ("__classdict__" : Str))=false:=by decide):PE X (.Name x pos) (FU i):=O5 hN hv hd gH
end
theorem cN{c A B:Prop}[Decidable c](h1:c->A)(h2:¬ c->B):if c then A else B:=by
 by_cases h:c
 ·rw[if_pos h];exact h1 h
 ·rw[if_neg h];exact h2 h
noncomputable def aj(H H':Hp):Prop:=∀b o,H b=some o->H' b=some o
theorem aj.refl(H:Hp):aj H H:=λ_ _ h=>h
theorem aj.trans{H H1 H2:Hp}(a:aj H H1)(b:aj H1 H2):aj H H2:=λc o h=>b c o (a c o h)
theorem aj.free{H H':Hp}(e:aj H H'){l:Addr}(h:H' l=Option.none):H l=Option.none:=by
 cases q:H l with
 | none=>rfl
 | some o =>
  rw[e l o q] at h;cases h
theorem aj.seq{K:PySem.W.Frag}{H H':Hp}{a:Addr}{xs:List V}(e:aj H H')(h:aE K H a xs):aE K H' a xs:=by
 rcases h with(h | ⟨o,h⟩) | h
 ·exact .inl (.inl (e _ _ h))
 ·exact .inl (.inr ⟨o,e _ _ h⟩)
 ·exact .inr h
section
variable{κ:Type}[DecidableEq κ]
theorem ab9{p:κ×V}{r:List (κ×V)}{k:κ}(e:p.1=k):jd (p::r) k=jd r k:=by
 unfold jd;rw[List.filter_cons,if_neg (by simp[e])]
theorem Q3{p:κ×V}{r:List (κ×V)}{k:κ}(e:¬ p.1=k):jd (p::r) k=p::jd r k:=by
 unfold jd;rw[List.filter_cons,if_pos (by simp[e])]
theorem Q4:∀ {kvs:List (κ×V)} {k:κ},¬ k∈kvs.map (·.1)->jd kvs k=kvs
 | [],_,_=>rfl
 | p::r,k,h=>by
  have h':¬ k∈r.map (·.1):=λm=>by
   obtain⟨q,hq,e⟩:=List.mem_map.mp m;exact h (List.mem_map.mpr ⟨q,List.mem_cons.mpr (Or.inr hq),e⟩)
  rw[Q3 λe=>h (List.mem_map.mpr ⟨p,List.mem_cons.mpr (Or.inl rfl),e⟩),Q4 h']
theorem Q5:∀ {kvs:List (κ×V)} {k:κ},(kvs.map (·.1)).Nodup->k∈kvs.map (·.1)->(jd kvs k).length+1=kvs.length
 | [],_,_,m=>by simp at m
 | p::r,k,h,m=>by
  have h:(p.1::r.map (·.1)).Nodup:=h;have m:k=p.1\/k∈r.map (·.1):=List.mem_cons.mp m;obtain⟨h1,h2⟩:=List.nodup_cons.mp h;by_cases e:p.1=k
  ·subst e;rw[ab9 rfl,Q4 h1]
   all_goals rfl
  ·have m':k∈r.map (·.1):=m.resolve_left λz=>e z.symm;have q:=Q5 h2 m';rw[Q3 e,List.length_cons,List.length_cons];lia
end
end _L
set_option maxHeartbeats 4000000
namespace _L
open PySem PySem.Spec PyProof.Rows
section
variable{prog:Program}{w:World}{A:Around}{R:Result->Shared->Prop}{s:Shared}
theorem ab_{elt target iter:Expr}{ifs:List Expr}{scope:Scope}{pos:Pos}{it acc:Value}{env:Env}(I:Nat->Shared->Prop)
  (turn:∀n s,I n s->wpAny (model prog w) A (pyNext it) (λr bC=>match r with
   | none=>R (.ok .next) bC
   | some v=>wpAny (model prog w) A (letOwnedTupleGo target it v) (λ_ Q6=>wpAny (model prog w) A (assign target env v) (λ_ kY =>
     wpAny (model prog w) A (forIn ifs true λc r=>if r=true then do let ok ← isTrue c env (eval c env);pure (ForInStep.yield ok) else pure (ForInStep.yield r)) (λok ku =>
      if ok=true then wpAny (model prog w) A (eval elt env) (λx zZ =>
       wpAny (model prog w) A (call (.builtin "list.append") [acc,x]) (λ_ Q7=>∃m,m<n/\I m Q7) (λ_ _=>False) zZ) (λ_ _=>False) ku
      else ∃m,m<n/\I m ku) (λ_ _=>False) kY) (λ_ _=>False) Q6) (λ_ _=>False) bC) (λ_ _=>False) s)
  (n:Nat) (h:I n s):codeAny (model prog w) A (.compLoop (.ListComp elt [⟨target,iter,ifs,0⟩] scope pos) 0 it acc env) R s:=by
 refine codeAny_loop rfl I (λn s hI=>?_) n h
 show wpAny _ A ((compTurn (.ListComp elt [⟨target,iter,ifs,0⟩] scope pos) 0 it acc env).onRaise (λx=>do noteFrame x env;theTreesLotGoes x)) _ _ s
 refine wpAny_noted ?_;rw[compTurn_list];refine wpAny_bind (wpAny_standAt (wpAny_bind (wpAny_mono (turn n s hI) (λr bC mQ=>?_) λ_ _ h'=>h'.elim)));cases r with
 | none=>exact wpAny_pure mQ
 | some v =>
  refine wpAny_bind (wpAny_mono mQ (λ_ Q6 acd=>?_) λ_ _ h'=>h'.elim);refine wpAny_bind (wpAny_mono acd (λ_ kY vR=>wpAny_bind (wpAny_mono vR (λok ku zT=>?_) λ_ _ h'=>h'.elim)) λ_ _ h'=>h'.elim);cases ok with
  | false=>exact wpAny_pure ⟨rfl,zT⟩
  | true =>
   exact wpAny_bind (wpAny_bind (wpAny_mono zT (λx zZ ace=>wpAny_bind (wpAny_mono ace (λ_ Q7 acf=>wpAny_pure (wpAny_pure ⟨rfl,acf⟩)) λ_ _ h'=>h'.elim)) λ_ _ h'=>h'.elim))
end
noncomputable def g7(X:Cx)(scope:Scope)(cl:List (Str×Addr))(N:List Str)(C:Addr)(s:Shared)(H:Hp)(fp:List Addr):Cx where
 prog:=X.prog
 w:=X.w
 K:=X.K
 mg:=X.mg
 base:=X.base
 A:=X.A
 N:=N
 dG:=s
 gR:=H
 env:=compEnvC scope cl C X.env
 outer:=X.stack
 stack:=X.stack
 ex:=fp
 fn:=λ_=>false
 calm:=X.calm
 pn:=[]
 xe:=λ_ _=>False
structure cW(X:Cx)(scope:Scope)(cl:List (Str×Addr))(N:List Str)(nt:Nat)(fv:List Nat):Prop where
 mR:closureFor scope X.env=pure cl
 kind:scope.kind = .function
 lG:∀y∈scope.names,y.2≠.cell
 names:∀y∈scope.names,y.2 = .local->scope.names.lookup y.1=some .local
 sub:∀p∈cl,X.env.cells.lookup p.1=some p.2
 has:∀y∈scope.names,y.2 = .free->∃c,cl.lookup y.1=some c
 free:fv.map (λj=>X.N[j]?)=(N.drop nt).map some
 fk:∀y∈N.drop nt,scope.names.lookup y=some .free/\X.env.scope.names.lookup y=some .cell
 le:nt<=N.length
 nd:N.Nodup
theorem z6{env:Env}:∀ {names:List (Str×NameKind)} {x:Str} {k:NameKind},
  (names.map λ(n,k)=>if (k == NameKind.free && env.scope.kind == .function && env.kindOf n == some .cell) then(n,NameKind.cell) else(n,k)).lookup x=some k->
  ∃k0,names.lookup x=some k0/\(k=k0\/(k0 = .free/\k = .cell))
 | [],_,_,h=>by simp at h
 | (n,k0)::r,x,k,h=>by
  have ih:=@z6 env r x k;have h:List.lookup x ((if (k0 == NameKind.free && env.scope.kind == .function && env.kindOf n == some .cell)=true then(n,NameKind.cell) else(n,k0))::_)=_:=h
  cases hx:x == n with
  | true =>
   by_cases hc:(k0 == NameKind.free && env.scope.kind == .function && env.kindOf n == some .cell)=true
   ·rw[if_pos hc] at h;simp only[List.lookup_cons,hx,Option.some.injEq] at h;simp only[Bool.and_eq_true,beq_iff_eq] at hc;exact⟨k0,by simp[List.lookup_cons,hx],.inr ⟨hc.1.1,h.symm⟩⟩
   ·rw[if_neg hc] at h;simp only[List.lookup_cons,hx,Option.some.injEq] at h;exact⟨k0,by simp[List.lookup_cons,hx],.inl h.symm⟩
  | false =>
   have h':List.lookup x (r.map λ(n,k)=>if (k == NameKind.free && env.scope.kind == .function && env.kindOf n == some .cell) then(n,NameKind.cell) else(n,k))=some k:=by
    by_cases hc:(k0 == NameKind.free && env.scope.kind == .function && env.kindOf n == some .cell)=true
    ·rw[if_pos hc] at h;simpa only[List.lookup_cons,hx] using h
    ·rw[if_neg hc] at h;simpa only[List.lookup_cons,hx] using h
   obtain⟨q,e,z⟩:=ih h';exact⟨q,by simp only[List.lookup_cons,hx];exact e,z⟩
theorem pJ{α:Type}{x:Str}{v:α}:∀ {l:List (Str×α)},l.lookup x=some v->(x,v)∈l:=λh=>PySem.mem_of_lookup h
section
variable{X:Cx}{pins:List (Addr×Obj)}{σ:St}{H:Hp}{s:Shared}{scope:Scope}{cl:List (Str×Addr)}{N:List Str}{nt:Nat}{fv:List Nat}{fp:List Addr}
theorem cW.cell(S:cW X scope cl N nt fv){x:Str}{c:Addr}(e:cl.lookup x=some c):X.env.cells.lookup x=some c:=S.sub (x,c) (pJ e)
theorem cW.acg(S:cW X scope cl N nt fv){C:Addr}{x:Str}(h:(compEnvC scope cl C X.env).kindOf x=some .cell\/(compEnvC scope cl C X.env).kindOf x=some .free):scope.names.lookup x=some .free:=by
 have h:(scope.names.map λ(n,k)=>if (k == NameKind.free && X.env.scope.kind == .function && X.env.kindOf n == some .cell) then(n,NameKind.cell) else(n,k)).lookup x=some .cell\/
  (scope.names.map λ(n,k)=>if (k == NameKind.free && X.env.scope.kind == .function && X.env.kindOf n == some .cell) then(n,NameKind.cell) else(n,k)).lookup x=some .free:=h
 rcases h with h | h
 ·obtain⟨k0,e,z | ⟨z,_⟩⟩:=z6 h
  ·exact absurd z.symm (S.lG _ (pJ e))
  ·rw[z] at e;exact e
 ·obtain⟨k0,e,z | ⟨z,_⟩⟩:=z6 h
  ·rw[← z] at e;exact e
  ·rw[z] at e;exact e
theorem cW.ok(S:cW X scope cl N nt fv)(I:Inv X pins σ H s)(hf:∀b∈fp,mH X pins H b)(bW:∀b∈fp,b<s.heap.objs.size){C:Addr}(hC:s.heap.objs.size<=C) :
  (g7 X scope cl N C s H fp).Ok where
 mod:=I.ok.mod
 kind:=S.kind
 glob:=I.ok.glob
 blt:=I.ok.blt
 above:=hC
 inj:=λx y c h1 h2=>I.ok.inj x y c (S.cell h1) (S.cell h2)
 has:=λx h=>by
  have e:=S.acg h;exact S.has _ (pJ e) rfl
 sH:=λx c h _=>by cases (show false=true from h)
 hd:=I.ok.hd
 frames:=I.ok.frames
 vj:=.inl rfl
 vm:=λb hb=>⟨λz=>absurd (Nat.lt_of_lt_of_le (bW b hb) (by rw[z];exact hC)) (Nat.lt_irrefl _),λx c h=>(hf b hb).2.2.2.2.1 x c (S.cell h)⟩
 bs:=I.bs
 kg:=Nat.le_trans I.ok.kg I.sz
 sI:=λb o e hb=>by
  rcases(hf b hb).2.2.2.1 with z | z
  ·exact I.ok.sI b o e z
  ·exact absurd (Nat.lt_of_lt_of_le (Heap.lt_size e) (Nat.le_trans I.ok.kg z)) (Nat.lt_irrefl _)
 sJ:=λb hb hm=>by
  rcases List.mem_cons.mp (I.FL b hm) with z | z
  ·exact(hf b hb).2.1 z
  ·exact(hf b hb).2.2.1 z
 jQ:=I.stack
 o_:=I.FN
noncomputable def jY(σ:St)(nt:Nat)(fv:List Nat):St:=List.replicate nt none++fv.map λj=>(σ[j]?).getD none
theorem cW.inv(S:cW X scope cl N nt fv)(I:Inv X pins σ H s)(hf:∀b∈fp,mH X pins H b)(bW:∀b∈fp,b<s.heap.objs.size){h1:Heap}{tk:Nat}{D C:Addr}
  (hD:s.heap.objs.size<=D) (hC:s.heap.objs.size<=C) (z7:D≠C) (old:∀b o,s.heap.get? b=some o->h1.get? b=some o) (tK:h1.get? D=some { cls:=.type "list",data:=.seq #[] }) (lF:h1.Ns C λ_=>none) :
  Inv (g7 X scope cl N C s H fp) [] (jY σ nt fv) (upd H D (.lst [])) { s with heap:=h1,toks:=tk }:=by
 have I1:Inv X pins σ (upd H D (.lst [])) { s with heap:=h1,toks:=tk }:=I.laid old hD ⟨Nat.zero_le _,[],0,.nil,tK⟩;have hlen:fv.length=(N.drop nt).length:=by simpa using congrArg List.length S.free
 refine⟨S.ok I hf bW hC,rfl,I.bare,Un.laid old hD (I.aO.fresh hD),⟨_,lF,λi x v e1 e2 e3=>?_⟩,λx c e=>?_,?_,λx c e=>?_,λp hp=>absurd (show p∈([]:List (Addr×Obj)) from hp) (by simp),I1.aO,?_⟩
 ·unfold jY at e2;have hi:nt<=i:=by
   by_cases h:nt<=i
   ·exact h
   ·rw[List.getElem?_append_left (by simp;lia),List.getElem?_replicate] at e2
    split at e2 <;> cases e2
  rw[List.getElem?_append_right (by simpa using hi)] at e2
  simp only[List.length_replicate,List.getElem?_map] at e2;cases hj:fv[i - nt]? with
  | none=>rw[hj] at e2;simp at e2
  | some j =>
   rw[hj] at e2;simp only[Option.map_some,Option.some.injEq] at e2;have hN:X.N[j]? = some x:=by
    have q:=congrArg (λl=>l[i - nt]?) S.free;simp only[List.getElem?_map,hj,Option.map_some,List.getElem?_drop] at q;rw[show nt+(i - nt)=i by lia] at q
    have Q8:N[i]? = some x:=e1;rw[Q8] at q;exact(Option.some.inj q)
   have G6:σ[j]? = some (some v):=by
    cases z:σ[j]? with
    | none=>rw[z] at e2;simp at e2
    | some y=>rw[z] at e2;simp at e2;rw[e2]
   have ach:x∈N.drop nt:=by
    refine List.mem_of_getElem? (i:=i - nt) ?_;rw[List.getElem?_drop,show nt+(i - nt)=i by lia];exact e1
   obtain⟨f1,f2⟩:=S.fk x ach;obtain⟨m,hn,hl⟩:=I1.loc;obtain⟨u,ru,lk⟩:=hl j x v hN G6 (.inr (.inl f2));refine⟨u,ru,?_⟩;rcases lk with⟨k,_⟩ | ⟨_,c,ec,hc⟩
   ·have k:X.env.scope.names.lookup x=some .local:=k;rw[f2] at k;cases k
   ·obtain⟨c',e'⟩:=S.has _ (pJ f1) rfl;have:=S.cell e';rw[ec] at this;cases this;refine .inr ⟨?_,c,e',hc⟩;rcases e3 with z | z | z
    ·obtain⟨k0,ek,q | ⟨_,q⟩⟩:=z6 (show (scope.names.map λ(n,k)=>if (k == NameKind.free && X.env.scope.kind == .function && X.env.kindOf n == some .cell) then(n,NameKind.cell) else(n,k)).lookup x=some .local from z)
     ·rw[f1] at ek;cases ek;cases q
     ·cases q
    ·exact .inl z
    ·exact .inr z
 ·obtain⟨v,z⟩:=I1.cell x c (S.cell e);exact⟨v,z⟩
 ·show upd H D (.lst []) C=none;rw[aI (Ne.symm z7)];exact I.aO.fresh hC
 ·exact I1.kh x c (S.cell e)
 ·unfold jY
  show _=N.length;have:=S.le;simp only[List.length_append,List.length_replicate,List.length_map,List.length_drop] at hlen ⊢;lia
end
noncomputable def tL(X:Cx)(ifs:List Expr)(t:TT):Prop :=
 ∀(pins:List (Addr×Obj)) (s:Shared) (σ:St) (H:Hp) (Q:Bool->Hp->Prop),Inv X pins σ H s->t σ H Q->
  wpAny (model X.prog X.w) X.A (forIn ifs true λc r=>if r=true then do let ok ← isTrue c X.env (eval c X.env);pure (ForInStep.yield ok) else pure (ForInStep.yield r)) (TP X pins σ Q) X.xe s
noncomputable def Q9:TT:=λ_ H Q=>Q true H
theorem jg{X:Cx}:tL X [] Q9:=λpins s σ H Q I h=>wpAny_tests_nil ⟨H,I,h⟩
theorem nZ{X:Cx}{c:Expr}{t:TT}(hc:PT X c t):tL X [c] t:=λpins s σ H Q I h=>wpAny_tests_one (hc pins s σ H Q I h)
noncomputable def iR(wi:TI)(g:TG)(tt:TT)(te:TE)(nt:Nat)(fv:List Nat):TE:=λσ H Q=>wi σ H λJ H1=>∀D,H1 D=none->∃W:Nat->Nat->List V->St->Hp->Prop,
 (∃m,W 0 m [] (jY σ nt fv) (upd H1 D (.lst [])))/\∀i m ys az H2,W i m ys az H2->H2 D=some (.lst ys)/\ys.length<sizeLine/\
  ((J.stop i H2/\Q (.ref D) H2)\/(J.go i H2/\∀x H3,J.nN i H2 x H3->g x az H3 λcg H4=>tt cg H4 λb H5=>if b=true then te cg H5 λv H6=>H6 D=some (.lst ys)/\∃m',m' < m/\W (i+1) m' (ys++[v]) cg (upd H6 D (.lst (ys++[v])))
   else ∃m',m' < m/\W (i+1) m' ys cg H5))
section
variable{X:Cx}{tg iter elt:Expr}{ifs:List Expr}{scope:Scope}{cl:List (Str×Addr)}{N:List Str}{nt:Nat}{fv:List Nat}{pos:Pos}{wi:TI}{g:TG}{tt:TT}{te:TE}
theorem Q_{pins:List (Addr×Obj)}{σ:St}{s2:Shared}{H2:Hp}{it:Addr}{fp:List Addr}{tn:Nat->Heap->Prop}{J:It}{Q:VK}{RR:Value->Addr->Result->Shared->Prop}{E:Value->Shared->Prop}
  (S:cW X scope cl N nt fv) (hc:X.calm=true)
  (hg:∀C s H fp,PG (g7 X scope cl N C s H fp) tg g) (ht:∀C s H fp,tL (g7 X scope cl N C s H fp) ifs tt) (he:∀C s H fp,PE (g7 X scope cl N C s H fp) elt te)
  (I2:Inv X pins σ H2 s2) (T:Turn X.prog X.w X.K tg J fp it tn) (fX:tn 0 s2.heap) (f2:∀b∈fp,mH X pins H2 b)
  (hq:∀D,H2 D=none->∃W:Nat->Nat->List V->St->Hp->Prop,
   (∃m,W 0 m [] (jY σ nt fv) (upd H2 D (.lst [])))/\∀i m ys az H2,W i m ys az H2->H2 D=some (.lst ys)/\ys.length<sizeLine/\
    ((J.stop i H2/\Q (.ref D) H2)\/(J.go i H2/\∀x H3,J.nN i H2 x H3->g x az H3 λcg H4=>tt cg H4 λb H5=>if b=true then te cg H5 λv H6=>H6 D=some (.lst ys)/\∃m',m' < m/\W (i+1) m' (ys++[v]) cg (upd H6 D (.lst (ys++[v])))
     else ∃m',m' < m/\W (i+1) m' ys cg H5)))
  (hRR:∀(D C:Addr) (s':Shared) (H':Hp) (m':Str->Option Value),Inv X pins σ H' s'->s'.heap.Ns C m'->s2.heap.objs.size<=C->H' C=none->Q (.ref D) H'->RR (.ref D) C (.ok .next) s') :
  wpAny (model X.prog X.w) X.A (newList []) (λacc ku=>wpAny (model X.prog X.w) X.A (newFunctionEnv scope X.env.globals cl [] X.env.qual none .none (some X.env)) (λRa zZ =>
   codeAny (model X.prog X.w) X.A (.compStart (.ListComp elt [⟨tg,iter,ifs,0⟩] scope pos) 0 (.ref it) acc { Ra with scope:=relabel scope X.env }) (RR acc Ra.locals) zZ) E ku) E s2:=by
 refine wpAny_newObj_type (wpAny_newFunctionEnv S.lG (by intro y hy;simp at hy) (λmQ G7 z8=>?_) S.kind)
 dsimp only at G7 z8 ⊢;generalize G8:s2.heap.push { cls:=.type "list",dict:=none,data:=.seq ([]:List Value).toArray }=HH at G7 z8 ⊢;have hC:HH.objs.size=s2.heap.objs.size+1:=by rw[← G8,Heap.size_push]
 have z7:s2.heap.objs.size≠HH.objs.size:=by rw[hC];exact Nat.ne_of_lt (Nat.lt_succ_self _)
 have G9:s2.heap.objs.size<=HH.objs.size:=by rw[hC];exact Nat.le_succ _
 have old:∀b o,s2.heap.get? b=some o->mQ.get? b=some o:=λb o e=>by
  have hb:b<s2.heap.objs.size:=Heap.lt_size e;exact z8.extBut b o (by rw[hC];exact Nat.ne_of_lt (Nat.lt_succ_of_lt hb)) (Heap.get?_push_of_some _ (G8▸Heap.get?_push_of_some _ e))
 have tK:mQ.get? s2.heap.objs.size=some { cls:=.type "list",data:=.seq #[] }:=z8.extBut _ _ z7 (Heap.get?_push_of_some _ (G8▸Heap.get?_push_size _ rfl));have bW:∀b∈fp,b<s2.heap.objs.size:=λb hb=>by
  obtain⟨o,e,_⟩:=T.obj 0 _ fX b hb;exact Heap.lt_size e
 have hD:H2 s2.heap.objs.size=none:=I2.aO.fresh (Nat.le_refl _);obtain⟨W,⟨m0,w0⟩,turn⟩:=hq _ hD;have vH:tn 0 mQ:=T.keep _ _ _ fX λb _ o e=>old b o e;have I3:=S.inv I2 f2 bW (h1:=mQ) (tk:=s2.toks+([]:List (Str×Value)).length) (D:=s2.heap.objs.size) (C:=HH.objs.size) (Nat.le_refl _) G9 z7 old tK (by simpa using G7)
 -- what stays true of the iterator's objects
 have nD:∀b∈fp,b≠s2.heap.objs.size:=λb hb=>Nat.ne_of_lt (bW b hb);have qG:∀ {H':Hp},(∀b∈fp,H' b=none)->∀b∈fp,mH (g7 X scope cl N HH.objs.size s2 H2 fp) [] H' b:=λ{H'} hn b hb=>by
  have ok:=S.ok I2 f2 bW G9;refine⟨hn b hb,(ok.vm b hb).1,ok.sJ b hb,.inl hb,(ok.vm b hb).2,λp hp=>absurd (show p∈([]:List (Addr×Obj)) from hp) (by simp)⟩
 have loop:∀ku:Shared,ku = { s2 with heap:=mQ,toks:=s2.toks+([]:List (Str×Value)).length }->
   codeAny (model X.prog X.w) X.A (.compLoop (.ListComp elt [⟨tg,iter,ifs,0⟩] scope pos) 0 (.ref it) (.ref s2.heap.objs.size) (compEnvC scope cl HH.objs.size X.env)) (RR (.ref s2.heap.objs.size) HH.objs.size) ku:=by
  rintro ku rfl;refine ab_ (λn s'=>∃i ys bG H',Inv (g7 X scope cl N HH.objs.size s2 H2 fp) [] bG H' s'/\tn i s'.heap/\(∀b∈fp,H' b=none)/\W i n ys bG H') ?_ m0
   ⟨0,[],_,_,I3,vH,λb hb=>by rw[aI (nD b hb)];exact(f2 b hb).1,w0⟩
  rintro n s3 ⟨i,ys,iK,H3,J3,t3,qH,w3⟩;obtain⟨eD,hys,aci⟩:=turn i n ys iK H3 w3;rcases aci with⟨stop,qn⟩ | ⟨go,step⟩
  ·refine aP (T.done (g7 X scope cl N HH.objs.size s2 H2 fp) rfl rfl rfl hc i [] s3 iK H3 (λ_ _=>False) J3 (qG qH) t3 stop) λr s4 ⟨hr,I4⟩=>?_;subst hr;have I5:Inv X pins σ H3 s4:=I2.O4 (ch:=fp) I4.os I4.base I4.aO I4.bare λb hb=>⟨(f2 b hb).2.2.2.1,(f2 b hb).2.1,(f2 b hb).2.2.2.2.1,(f2 b hb).2.2.2.2.2⟩;obtain⟨m,hn,_⟩:=I4.loc;exact hRR _ _ s4 H3 m I5 hn G9 I4.free qn
  ·refine aP (T.item (g7 X scope cl N HH.objs.size s2 H2 fp) rfl rfl rfl hc i [] s3 iK H3 (λ_ _=>False) J3 (qG qH) t3 go) λr s4 ⟨u,hr,h4⟩=>?_;subst hr;refine aP h4 λ_ s5 ⟨x,H5,I5,r5,y5,qI,Gf⟩=>?_;have Gg:=I5.pinned (qG Gf) (T.obj _ _ qI);refine aP (hg _ _ _ _ _ s5 iK H5 x u _ Gg r5 (step x H5 y5)) λ_ s6 ⟨pC,H6,I6,q6⟩=>?_;have Rb:∀ {jA:St} {H7:Hp} {s7:Shared},Inv (g7 X scope cl N HH.objs.size s2 H2 fp) ([]++vF fp s5.heap) jA H7 s7->tn (i+1) s7.heap/\∀b∈fp,H7 b=none:=λ{jA H7 s7} I7=>by
    refine⟨T.keep _ _ _ qI λb hb o e=>(I7.pin (b,o) (List.mem_append_right _ (List.mem_append_right _ (zE hb e)))).1,λb hb=>?_⟩;obtain⟨o,e,d⟩:=T.obj _ _ qI b hb;exact(I7.pin (b,o) (List.mem_append_right _ (List.mem_append_right _ (zE hb e)))).2.1
   refine aP (ht _ _ _ _ _ s6 pC H6 _ I6 q6) λb s7 ⟨H7,I7,q7⟩=>?_;cases b with
   | false =>
    obtain⟨m',hm,w7⟩:=q7;obtain⟨t7,n7⟩:=Rb I7;exact⟨m',hm,i+1,ys,pC,H7,I7.vG,t7,n7,w7⟩
   | true =>
    refine aP (he _ _ _ _ _ s7 pC H7 _ I7 q7) λu8 s8 ⟨v8,H8,I8,r8,eD8,m',hm,w8⟩=>?_;refine aP (lA (X:=g7 X scope cl N HH.objs.size s2 H2 fp) _ s8 pC H8 (.ref s2.heap.objs.size) [v8] (.ref s2.heap.objs.size) [u8] (λ_ H9=>∃m',m' < n/\W (i+1) m' (ys++[v8]) pC H9) I8 rfl (.cons r8 .nil)
     ⟨s2.heap.objs.size,ys,v8,rfl,rfl,eD8,hys,m',hm,w8⟩) λ_ s9 ⟨_,H9,I9,_,m9,hm9,w9⟩=>?_
    obtain⟨t9,n9⟩:=Rb I9;exact⟨m9,hm9,i+1,ys++[v8],pC,H9,I9.vG,t9,n9,w9⟩
 exact codeAny_compStart_list (loop _ rfl) (T.self _ 0 _ _ _ vH (loop _ rfl))
theorem gJ(S:cW X scope cl N nt fv)(hc:X.calm=true)(hi:PI X tg iter wi)
  (hg:∀C s H fp,PG (g7 X scope cl N C s H fp) tg g) (ht:∀C s H fp,tL (g7 X scope cl N C s H fp) ifs tt) (he:∀C s H fp,PE (g7 X scope cl N C s H fp) elt te)
  (hs:∀x,foldedSetIterable iter X.env x=pure x:=by intro _;rfl):PE X (.ListComp elt [⟨tg,iter,ifs,0⟩] scope pos) (iR wi g tt te nt fv):=by
 intro pins s σ H Q I h;rw[eval_ListComp];refine wpAny_comprehension_free (use:=none) rfl hs S.mR S.kind S.names (aP (hi pins s σ H _ I h) λxv s1 h1=>aP h1 λzD s2 h2=>?_);obtain⟨it,fp,tn,J,H2,rfl,I2,T,fX,f2,hq⟩:=h2;refine Q_ (RR:=λacc C=>compPost (model X.prog X.w) X.A X.xe none (EP X pins σ Q) acc C) S hc hg ht he I2 T fX f2 hq λD C s' H' m' I' hn hC fC q=>?_;refine⟨m',hn,λh' iS=>⟨.ref D,H',?_,rfl,q⟩⟩;have lH:=I2.nO hC fC;exact I'.turned (t':=s'.toks) (it:=C) (λb o hb e=>iS.extBut b o hb e) fC lH.2.1 lH.2.2.2.1 lH.2.2.2.2.1 lH.2.2.2.2.2
theorem z9{i:Nat}{y:Str}{py Rc:Pos}(hN:X.N.Nodup)(iT:X.N[i]? = some y)(hy:Loc X.env.scope y)(S:cW X scope cl N nt fv)(hc:X.calm=true)(hi:PI X tg iter wi)
  (hg:∀C s H fp,PG (g7 X scope cl N C s H fp) tg g) (ht:∀C s H fp,tL (g7 X scope cl N C s H fp) ifs tt) (he:∀C s H fp,PE (g7 X scope cl N C s H fp) elt te)
  (z_:swapsWith (.ListComp elt [⟨tg,iter,ifs,0⟩] scope pos) (some (.Name y py)) Rc.line X.env=pure true:=by rfl)
  (hs:∀x,foldedSetIterable iter X.env x=pure x:=by intro _;rfl) (hf:X.fn y=true\/X.env.scope.names.lookup y=some .local:=by first | exact .inl rfl | exact .inr rfl | assumption) :
  PS X (.Assign [.Name y py] (.ListComp elt [⟨tg,iter,ifs,0⟩] scope pos) Rc) (vv (iR wi g tt te nt fv) (nK i)):=by
 intro pins s σ H D' I h;rw[exec_Assign_Name_used _ _ _ _ z_];refine wpAny_bind (wpAny_standAt (wpAny_bind ?_))
 show wpAny _ _ (do let _ ← comprehension (.ListComp elt [⟨tg,iter,ifs,0⟩] scope pos) scope X.env _ (newList []) false (eval iter X.env) (some (assign (.Name y py) X.env))) _ _ s
 refine wpAny_bind (wpAny_mono (wpAny_comprehension_free (use:=some (assign (.Name y py) X.env)) (Q:=λ_ s'=>SP X pins D' .next s') rfl hs S.mR S.kind S.names
  (aP (hi pins s σ H _ I h) λxv s1 h1=>aP h1 λzD s2 h2=>?_)) (λ_ s' hq=>wpAny_pure (wpAny_pure hq)) λ_ _ e=>e)
 obtain⟨it,fp,tn,J,H2,rfl,I2,T,fX,f2,hq⟩:=h2;refine Q_ (RR:=λacc C=>compPost (model X.prog X.w) X.A X.xe (some (assign (.Name y py) X.env)) (λ_ s'=>SP X pins D' .next s') acc C) (Q:=λx H1=>nK i x σ H1 D'.nx) S hc hg ht he I2 T fX f2 hq λD C s' H' m' I' hn hC fC q=>?_;have lH:=I2.nO hC fC
 show wpAny _ _ (assign (.Name y py) X.env (.ref D)) _ _ _;refine wpAny_assign_Name (O0 I' hN iT hy (v:=.ref D) rfl (λiO I'' ⟨a,hsa,ha⟩=>?_) hf);have hCa:C≠a:=by
  rcases ha with z | z
  ·rw[z];exact lH.2.1
  ·exact λe=>lH.2.2.2.2.1 y a z e.symm
 refine⟨m',hn.sameBut hsa hCa,λh' iS=>⟨_,H',?_,q⟩⟩;exact I''.turned (t':=iO.toks) (it:=C) (λb o hb e=>iS.extBut b o hb e) fC lH.2.1 lH.2.2.2.1 lH.2.2.2.2.1 lH.2.2.2.2.2
end
noncomputable def vX(K:PySem.W.Frag)(a:Addr):It :=
 ⟨λi H=>∃xs x,aE K H a xs/\xs[i]? = some x,λi H v H'=>∃T x,H T=none/\v = .ref T/\(∀xs,aE K H a xs->xs[i]? = some x)/\H' = upd H T (.tup [.int i,x]),λi H=>∃xs,aE K H a xs/\xs.length<=i⟩
theorem acj{P:Program}{w:World}{K:PySem.W.Frag}{elts:List Expr}{x1}{tp:Pos}(a e it:Addr)(G_:e≠it) :
  Turn P w K (.Tuple elts x1 tp) (vX K a) [e,it] e (λi h=>(∃old,IsEnum h e it (i:Nat) old)/\h.IsListIter it a i) where
 mem:=by simp
 obj:=λi h st b hb=>by
  obtain⟨⟨old,he⟩,o,e1,c,d⟩:=st;rcases List.mem_cons.mp hb with z | hb
  ·rw[z];exact⟨_,he,λv z=>by
    have z':Data.fields _=Data.cell v:=z;cases z'⟩
  ·have e2:b=it:=by simpa using hb
   rw[e2];exact⟨o,e1,λv z=>by rw[d] at z;cases z⟩
 keep:=λi h h' st k=>by
  obtain⟨⟨old,he⟩,hi⟩:=st;exact⟨⟨old,k e (by simp) _ he⟩,hi.at λo q=>k it (by simp) o q⟩
 item:=by
  intro X hP hw hK hc i pins s σ H E I hf st hg;subst hP hw hK;obtain⟨xs,x,hq,hx⟩:=hg;obtain⟨aG,rv,p,hz⟩:=I.list hq;obtain⟨u,hu,ru⟩:=rv.get hx;obtain⟨⟨old,he⟩,hit⟩:=st;obtain⟨f0,f1,f2,f3,f4,f5⟩:=hf e (by simp)
  obtain⟨g0,g1,g2,g3,g4,g5⟩:=hf it (by simp)
  have Rf:e<s.heap.objs.size:=Heap.lt_size he;have ack:it<s.heap.objs.size:=by obtain⟨_,z,_⟩:=hit;exact Heap.lt_size z
  refine wpAny_pyNext_enum_item he hit p.isList (x:=u) (by simpa using hu) G_ λh' ho tM hT hsz hk=>?_
  refine⟨_,rfl,?_⟩;refine wpAny_letOwnedTupleGo_enum ho λtN vY iS=>?_
  replace iS:Heap.SameBut e h' tN:=iS
  -- two records have turned,a tuple is new
  have I1:Inv X pins σ H { s with heap:=(s.heap),toks:=s.toks+1 }:=I.tok _;have kk:∀b o,b∉[e,it]->s.heap.get? b=some o->tN.get? b=some o:=λb o hb q=>by
   have h1:b≠e:=λz=>hb (by simp[z])
   have h2:b≠it:=λz=>hb (by simp[z])
   exact iS.extBut b o h1 (hk b o h1 h2 q)
  have vp:∀b v,H b=some v->b∉[e,it]:=λb v q hb=>by
   rcases List.mem_cons.mp hb with z | hb
   ·rw[z,f0] at q;cases q
   ·have e2:b=it:=by simpa using hb
    rw[e2,g0] at q;cases q
  have Rg:H s.heap.objs.size=none:=I.aO.fresh (Nat.le_refl _);have lJ:∀b v,H b=some v->b≠s.heap.objs.size:=λb v q z=>by rw[z,Rg] at q;cases q
  have acm:tN.get? s.heap.objs.size=some { cls:=.type "tuple",data:=.seq #[.int (i:Nat) s.toks,u] }:=iS.extBut _ _ (Nat.ne_of_gt Rf) hT;have amy:∃o,tN.get? e=some o:=⟨_,vY⟩;have amz:∃o,tN.get? it=some o:=by
   obtain⟨o,q,_⟩:=tM;exact⟨o,iS.extBut _ _ (Ne.symm G_) q⟩
  have I2:Inv X pins σ (upd H s.heap.objs.size (.tup [.int i,x])) { s with heap:=tN,toks:=s.toks+1 }:=by
   refine I.step (g':=s.gens) (d':=s.drawn) (ch:=[e,it]) (λb hb=>?_) (λb o _ _ hc q _=>kk b o hc q) (λb o _ _ hc q _=>⟨o.slots,kk b o hc q⟩) (λb o _ q n=>?_) (λb o hc q=>⟨o,kk b o hc q⟩)
    (λb ys q=>by rw[aI (lJ b _ q)];exact q) (λb o v q=>by rw[aI (lJ b _ q)];exact q) (λb ps q=>⟨#[],by rw[aI (lJ b _ q),q];simp⟩) (λm hm=>?_) (λb v q=>?_) I.bare
   ·rcases List.mem_cons.mp hb with z | hb
    ·rw[z];exact⟨f3,f1,f4,f5⟩
    ·have e2:b=it:=by simpa using hb
     rw[e2];exact⟨g3,g1,g4,g5⟩
   ·rw[aI (Nat.ne_of_lt (Heap.lt_size q))];exact n
   ·obtain⟨o,es,ep,q,r⟩:=hm;exact⟨o,es,ep,kk _ o (by
     intro hb;rcases List.mem_cons.mp hb with z | hb
     ·exact f1 z.symm
     ·exact g1 (by simpa using hb:X.env.locals=it).symm) q,r⟩
   ·by_cases hb:b=s.heap.objs.size
    ·subst hb;rw[aH] at q;cases q;refine⟨by show 2<=sizeLine;decide,[.int (i:Nat) s.toks,u],.cons ⟨_,rfl⟩ (.cons ru .nil),_,acm,rfl,_,rfl⟩
    ·rw[aI hb] at q;refine(I.aO b v q).jz (λc o qD z=>kk c o ?_ z) (λc z=>by rw[aI (lJ c _ z)];exact z) (λc ys z=>by rw[aI (lJ c _ z)];exact z)
     rcases qD with z2 | z2
     ·rw[z2];exact vp b v q
     ·exact vp c _ z2
  refine⟨.ref s.heap.objs.size,_,I2,rfl,⟨_,x,Rg,rfl,λys hy=>by rw[I.Pd hy hq];exact hx,rfl⟩,⟨⟨u,?_⟩,?_⟩,λb hb=>?_⟩
  ·have z:((i+1:Nat):Int)=(i:Int)+1:=by lia
   rw[z];exact vY
  ·exact tM.at λo q=>iS.extBut _ _ (Ne.symm G_) q
  ·have bW:b<s.heap.objs.size:=by
    rcases List.mem_cons.mp hb with z | hb
    ·rw[z];exact Rf
    ·rw[show b=it by simpa using hb];exact ack
   rw[aI (Nat.ne_of_lt bW)];exact(hf b hb).1
 done:=by
  intro X hP hw hK hc i pins s σ H E I hf st hg;subst hP hw hK;obtain⟨xs,hq,hx⟩:=hg;obtain⟨aG,rv,p,hz⟩:=I.list hq;obtain⟨⟨old,he⟩,hit⟩:=st;obtain⟨g0,g1,g2,g3,g4,g5⟩:=hf it (by simp)
  have hl:=rv.length;exact wpAny_pyNext_enum_end (I.ok.hd hc) he hit p.isList (by simp;lia) λh' eb=>⟨rfl,I.turned (t':=s.toks) (λb o hb e=>eb b o hb e) g0 g1 g3 g4 g5⟩
 self:=λ_ _ _ _ _ st h=>by
  obtain⟨⟨old,he⟩,_⟩:=st;exact wpAny_pyIter_enum he h
section
variable{X:Cx}
noncomputable def Hf(K:PySem.W.Frag)(ta:TA):TI:=λσ H R=>ta σ H λvs H1=>∃a,vs = [.ref a]/\(∃xs,aE K H1 a xs)/\R (vX K a) H1
theorem vZ{l:Expr}{ta:TA}{p pos tp:Pos}{elts:List Expr}{x1}(hg:Gl X "enumerate")(hm:X.mg "enumerate" = none)(hl:PA X [l] ta)(hs:starEach [l] X.env = [(false,eval l X.env)]:=by rfl) :
  PI X (.Tuple elts x1 tp) (.Call (.Name "enumerate" p) [l] [] pos) (Hf X.K ta):=by
 intro pins s σ H R I h;refine Call_ (kX I hg hm boot_enumerate (PyProof.Rows.callWith_type1 (aP (hl pos pins s σ H _ I h) λus s1 ⟨vs,H1,I1,r1,q1⟩=>?_) hs rfl));obtain⟨a,e,⟨xs,hq⟩,q⟩:=q1;subst e;obtain⟨u,rfl,ru⟩:=vals1 r1;cases ru;obtain⟨aG,rv,p,hz⟩:=I1.list hq;refine call_enumerate_list p.isList λh' he hit hsz hk=>?_;have I2:Inv X pins σ H1 { s1 with heap:=h' }:=I1.kept (t':=s1.toks) hk;refine wpAny_pyIter_enum he ?_;have n1:H1 (s1.heap.objs.size+1)=none:=I1.aO.fresh (Nat.le_succ _);have n0:H1 s1.heap.objs.size=none:=I1.aO.fresh (Nat.le_refl _);refine⟨s1.heap.objs.size+1,[s1.heap.objs.size+1,s1.heap.objs.size],_,_,H1,rfl,I2,acj a _ _ (Nat.succ_ne_self _),⟨⟨_,he⟩,hit⟩,λb hb=>?_,q⟩;rcases List.mem_cons.mp hb with z | hb
 ·rw[z];exact I1.nO (Nat.le_succ _) n1
 ·rw[show b=s1.heap.objs.size by simpa using hb];exact I1.nO (Nat.le_refl _) n0
theorem acn{K:PySem.W.Frag}{a:Addr}{xs:List V}{g:TG}{tb:TS}{D:Ends}{σ:St}{H:Hp}(Pv:Nat->St->Hp->Prop)(h0:Pv 0 σ H)(hl:∀i σ H,i<=xs.length->Pv i σ H->aE K H a xs)
  (hs:∀i x σ H T,xs[i]? = some x->Pv i σ H->H T=none->g (.ref T) σ (upd H T (.tup [.int i,x])) λaz H2=>tb { D with nx:=Pv (i+1),ct:=Pv (i+1),bk:=D.nx } az H2) (hd:∀σ H,Pv xs.length σ H->D.nx σ H) :
  ∃W:Nat->Nat->St->Hp->Prop,(∃m,W 0 m σ H)/\∀i m σ H,W i m σ H->
   ((vX K a).stop i H/\D.nx σ H)\/((vX K a).go i H/\∃N:St->Hp->Prop,(∀bG H',N bG H'->∃m',m' < m/\W (i+1) m' bG H')/\∀x H',(vX K a).nN i H x H'->g x σ H' λaz H2=>tb { D with nx:=N,ct:=N,bk:=D.nx } az H2):=by
 refine⟨λi m σ H=>m=xs.length - i/\i<=xs.length/\Pv i σ H,⟨xs.length,by simp,Nat.zero_le _,h0⟩,?_⟩
 rintro i m σ H ⟨rfl,hi,p⟩;have q:=hl i σ H hi p;by_cases bW:i<xs.length
 ·refine .inr ⟨⟨xs,xs[i],q,by simp[bW]⟩,Pv (i+1),λbG H' p'=>⟨xs.length - (i+1),by lia,rfl,bW,p'⟩,λx H' y=>?_⟩
  obtain⟨T,z,hT,e,y,e2⟩:=y;subst e e2;exact hs i z σ H T (y xs q) p hT
 ·have e:i=xs.length:=by lia
  subst e;exact .inl ⟨⟨xs,q,Nat.le_refl _⟩,hd σ H p⟩
theorem aco(hc:X.calm=true):iM X (.builtin "sum") (λxs H Q=>∃(p:Addr) (ns:List Int),xs = [.ref p]/\aE X.K H p (ns.map V.int)/\Q (.int ns.sum) H):=by
 intro pins s σ H xs us Q I r h;obtain⟨p,ns,rfl,hq,q⟩:=h;obtain⟨u,rfl,ru⟩:=vals1 r;cases ru;obtain⟨aG,rv,pl,hz⟩:=I.list hq;have hi:IntsAre aG ns:=intsAre_of rv;obtain⟨xs,hx⟩:=hi.allInts.items;have jh:s.heap.IsList p (intItems xs):=hx▸pl.isList;refine sum_intListG (I.ok.hd hc) jh λh' tk t' hk=>?_;have e1:ns=xs.toList.map (·.1):=by
  rw[← nums_intItems,← hx];exact(show numsOf aG.toArray.toList=ns from hi.numsOf).symm
 have e2:preSum (numAt xs) xs.size=ns.sum:=by
  rw[preSum_eq,List.take_of_length_le (by simp),e1]
 rw[e2];exact⟨.int ns.sum,H,I.kept hk,⟨t',rfl⟩,q⟩
theorem acp:iM X (.builtin "sorted") (λxs H Q=>∃(p:Addr) (ns:List Int),xs = [.ref p]/\aE X.K H p (ns.map V.int)/\ns.length<64/\
  ∀(l:Addr) (iQ:List Int),H l=none->iQ.Perm ns->iQ.Pairwise (·<=·)->Q (.ref l) (upd H l (.lst (iQ.map V.int)))):=by
 intro pins s σ H xs us Q I r h;obtain⟨p,ns,rfl,hq,h64,q⟩:=h;obtain⟨u,rfl,ru⟩:=vals1 r;cases ru;obtain⟨aG,rv,pl,hz⟩:=I.list hq;have hi:IntsAre aG ns:=intsAre_of rv;have hlen:=hi.length;refine sorted_ints pl.isList hi (by lia) λout iQ a1 a2 a3=>?_
 obtain⟨e,he⟩:=sortedAll_at s.heap aG out;have hn:H (s.heap.objs.size+1)=none:=I.aO.fresh (Nat.le_succ _);refine⟨.ref (s.heap.objs.size+1),upd H (s.heap.objs.size+1) (.lst (iQ.map V.int)),I.laid (t':=s.toks) (λb o q=>sortedAll_old q) (Nat.le_succ _) ?_,rfl,q _ iQ hn a2 a3⟩;refine⟨?_,out.toList,e,zX a1,by simpa using he⟩
 rw[List.length_map,a2.length_eq];exact Nat.le_trans (Nat.le_of_lt h64) (by decide)
theorem acq(hc:X.calm=true):iM X (.builtin "min") (λxs H Q=>∃(p:Addr) (ns:List Int),xs = [.ref p]/\aE X.K H p (ns.map V.int)/\0<ns.length/\∀M,M∈ns->(∀a,a∈ns->M<=a)->Q (.int M) H):=by
 intro pins s σ H xs us Q I r h;obtain⟨p,ns,rfl,hq,h0,q⟩:=h;obtain⟨u,rfl,ru⟩:=vals1 r;cases ru;obtain⟨aG,rv,pl,hz⟩:=I.list hq;have hi:IntsAre aG ns:=intsAre_of rv;obtain⟨m,F⟩:=I.fr;refine min_list_N (I.ok.hd hc) F (aaN (h:=s.heap)) pl.isList hi h0 λh' M t tk F' N' h1 h2=>?_;have kk:∀b o,b≠X.env.locals->s.heap.get? b=some o->h'.get? b=some o:=λb o hb e=>by
  cases q:X.base.get? b with
  | some z =>
   have:=F.keep b z q;rw[e] at this;cases this;exact F'.keep b _ q
  | none=>exact(N' (b,o) (aaL hb q e)).1
 have nl:∀b v,H b=some v->b≠X.env.locals:=λb v e z=>by rw[z,I.free] at e;cases e
 have I':Inv X pins σ H { s with heap:=h',toks:=tk }:=by
  refine I.step (g':=s.gens) (d':=s.drawn) (ch:=[]) (λ_ z=>nomatch z) (λb o hb _ _ e _=>kk b o hb e) (λb o hb _ _ e _=>⟨o.slots,kk b o hb e⟩) (λ_ _ _ _ n=>n) (λb o _ e=>?_) (λ_ _ e=>e) (λ_ _ _ e=>e)
   (λb ps e=>⟨#[],by rw[e];simp⟩) (λm' hm=>?_) (λb v e=>(I.aO b v e).jz (λc o hc e'=>kk c o ?_ e') (λ_ e=>e) (λ_ _ e=>e)) I.bare
  ·by_cases hb:b=X.env.locals
   ·obtain⟨o',_,_,z,_⟩:=F'.ns;exact⟨o',by rw[hb];exact z⟩
   ·exact⟨o,kk b o hb e⟩
  ·have:m' = m:=by
    obtain⟨o1,Rh,ep1,g1,d1,k1,z1⟩:=hm;obtain⟨o2,Hg,Ri,g2,d2,k2,z2⟩:=F.ns;rw[g1] at g2;cases g2;rw[d1] at d2;cases d2
    funext x
    rw[← z1 x,← z2 x]
   rw[this];exact F'.ns
  ·rcases hc with z | z
   ·rw[z];exact nl b v e
   ·exact nl c _ z
 exact⟨.int M,H,I',⟨t,rfl⟩,q M h1 h2⟩
theorem Aa:iM X (.builtin "isinstance") (λxs H Q=>∃x T t b,xs = [x,.ty T]/\g6 X.K H x t/\PySem.W.kitOne X.K t (.type T)=some b/\Q (.bl b) H):=by
 intro pins s σ H xs us Q I r h;obtain⟨x,T,t,b,rfl,ty,e,q⟩:=h;obtain⟨u,v,rfl,ru,rv⟩:=vals2 r;cases (show v=Value.type T from rv);exact abg I ru ty e λtk=>⟨.bl b,H,I.tok _,rfl,q⟩
end
noncomputable def AllP{α:Type}(P:α->Prop):List α->Prop
 | []=>True
 | a::r=>P a/\AllP P r
theorem AllP.mem{α:Type}{P:α->Prop}:∀ {l:List α},AllP P l->∀a∈l,P a
 | _::_,h,a,hm=>by
  rcases List.mem_cons.mp hm with rfl | hm
  ·exact h.1
  ·exact AllP.mem h.2 a hm
theorem cW.of{X:Cx}{scope:Scope}{cl:List (Str×Addr)}{N:List Str}{nt:Nat}{fv:List Nat}(mR:closureFor scope X.env=pure cl)(kind:scope.kind = .function)
  (lG:(scope.names.all λy=>y.2 != .cell)=true) (names:(scope.names.all λy=>y.2 != .local || scope.names.lookup y.1 == some .local)=true)
  (sub:AllP (λp:Str×Addr=>X.env.cells.lookup p.1=some p.2) cl) (has:(scope.names.all λy=>y.2 != .free || (cl.lookup y.1).isSome)=true)
  (free:fv.map (λj=>X.N[j]?)=(N.drop nt).map some) (fk:((N.drop nt).all λy=>scope.names.lookup y == some .free && X.env.scope.names.lookup y == some .cell)=true) (le:nt<=N.length) (nd:N.Nodup) :
  cW X scope cl N nt fv where
 mR:=mR
 kind:=kind
 lG:=λy hy=>by have:=List.all_eq_true.mp lG y hy;simpa using this
 names:=λy hy hl=>by have:=List.all_eq_true.mp names y hy;simp[hl] at this;exact this
 sub:=sub.mem
 has:=λy hy hl=>by
  have:=List.all_eq_true.mp has y hy;rw[hl] at this;exact Option.isSome_iff_exists.mp (by simpa only[bne_self_eq_false,Bool.false_or] using this)
 free:=free
 fk:=λy hy=>by have:=List.all_eq_true.mp fk y hy;simpa using this
 le:=le
 nd:=nd
theorem amA{CX:gf}{P:Program}{w:World}{K:PySem.W.Frag}{mg:Str->Option Value}{base:Heap}{N:List Str}{qual:Str}{scope:Scope}{f:Addr}{cd:Value}{A:Around}{outer:List Env}{s:Shared}{H:Hp}{E:XK} :
  (nU CX P w K mg base N qual scope f cd A outer s H E).K=K:=rfl
theorem amB{X:Cx}{E:Value->Shared->Prop}:(X.kZ E).K=X.K:=rfl
theorem amC{X:Cx}{scope:Scope}{cl:List (Str×Addr)}{N:List Str}{C:Addr}{s:Shared}{H:Hp}{fp:List Addr}:(g7 X scope cl N C s H fp).K=X.K:=rfl
structure Zn(H:Hp)(a:Addr)(ts:List Addr)(z:List (Int×Int)):Prop where
 l:H a=some (.lst (ts.map V.ref))
 n:ts.length=z.length
 t:∀(i:Nat) (t:Addr) (p:Int×Int),ts[i]? = some t->z[i]? = some p->H t=some (.tup [.int p.1,.int p.2])
theorem Zn.same{H H':Hp}{a:Addr}{ts:List Addr}{z:List (Int×Int)}(h:Zn H a ts z)(e:aj H H'):Zn H' a ts z:=⟨e _ _ h.l,h.n,λi t p h1 h2=>e _ _ (h.t i t p h1 h2)⟩
theorem Zn.at{H:Hp}{a:Addr}{ts:List Addr}{z:List (Int×Int)}(h:Zn H a ts z){i:Nat}{x:V}(e:(ts.map V.ref)[i]? = some x):∃t p,x = .ref t/\z[i]? = some p/\H t=some (.tup [.int p.1,.int p.2]):=by
 rw[List.getElem?_map] at e;cases q:ts[i]? with
 | none=>rw[q] at e;cases e
 | some t =>
  rw[q] at e;have hi:i<z.length:=by rw[← h.n];exact(List.getElem?_eq_some_iff.mp q).1
  exact⟨t,z[i],(Option.some.inj e).symm,List.getElem?_eq_getElem hi,h.t i t _ q (List.getElem?_eq_getElem hi)⟩
noncomputable def mix(c k:Int):Int:=((c % 1000000000000000+1)*48271+k*k*16807+k*7919) % 2147483647*69621 % 2147483629
noncomputable def g8(ns:List Int)(k:Int):Int:=ns.getD k.toNat 0
noncomputable def dW:Sp:=λvs H Q _=>∃c k:Int,vs = [.int c,.int k]/\0<=k/\k<100000/\Q (.int (mix c k)) H
noncomputable def ji(K:PySem.W.Frag):Sp:=λvs H Q _=>∃(a:Addr) (ns:List Int) (k:Int),vs = [.ref a,.int k]/\aE K H a (ns.map V.int)/\ns.length<=63/\0<=k/\Q (.int (g8 ns k)) H
section
variable{K:PySem.W.Frag}{ta:TA}{tl:TE}{g:TG}{tb:TS}{D:Ends}{σ:St}{H:Hp}
theorem acr(n:Nat)(cT:∀Q:List V->Hp->Prop,Q [.int (n:Int)] H->ta σ H Q)(hn:n<1000000000)(Pv:Nat->St->Hp->Prop)(h0:Pv 0 σ H)
  (hs:∀i σ H,i<n->Pv i σ H->g (.int (i:Int)) σ H λaz H2=>tb { D with nx:=Pv (i+1),ct:=Pv (i+1),bk:=D.nx } az H2) (hd:∀σ H,Pv n σ H->D.nx σ H):jU (vD ta) g tb D σ H:=by
 refine cT _ ⟨n,rfl,by lia,by lia,?_⟩
 have e:((n:Int)).toNat=n:=by lia
 rw[e];refine Gh Pv h0 (λi σ H hi p=>?_) hd;have e2:(0:Int)+(i:Int)=i:=by lia
 rw[e2];exact hs i σ H hi p
theorem acs(lo hi:Int)(cT:∀Q:List V->Hp->Prop,Q [.int lo,.int hi] H->ta σ H Q)(b1 : -1000000000000<lo)(b2:lo<1000000000000)(b3 : -1000000000000<hi)(b4:hi<1000000000000)(Pv:Nat->St->Hp->Prop)(h0:Pv 0 σ H)
  (hs:∀i σ H,i<(hi - lo).toNat->Pv i σ H->g (.int (lo+(i:Int))) σ H λaz H2=>tb { D with nx:=Pv (i+1),ct:=Pv (i+1),bk:=D.nx } az H2) (hd:∀σ H,Pv (hi - lo).toNat σ H->D.nx σ H):jU (vE ta) g tb D σ H :=
 cT _ ⟨lo,hi,rfl,⟨by lia,by lia,by lia,by lia⟩,Gh Pv h0 hs hd⟩
theorem acu(a:Addr)(xs:List V)(jk:∀Q:VK,Q (.ref a) H->tl σ H Q)(gh:aE K H a xs)(Pv:Nat->St->Hp->Prop)(h0:Pv 0 σ H)(hl:∀i σ H,i<=xs.length->Pv i σ H->aE K H a xs)
  (hs:∀i x σ H,xs[i]? = some x->Pv i σ H->g x σ H λaz H2=>tb { D with nx:=Pv (i+1),ct:=Pv (i+1),bk:=D.nx } az H2) (hd:∀σ H,Pv xs.length σ H->D.nx σ H):jU (k9 K tl) g tb D σ H :=
 jk _ ⟨a,rfl,⟨xs,gh⟩,aa0 Pv h0 hl hs hd⟩
theorem acv(a:Addr)(xs:List V)(cT:∀Q:List V->Hp->Prop,Q [.ref a] H->ta σ H Q)(gh:aE K H a xs)(Pv:Nat->St->Hp->Prop)(h0:Pv 0 σ H)(hl:∀i σ H,i<=xs.length->Pv i σ H->aE K H a xs)
  (hs:∀i x σ H T,xs[i]? = some x->Pv i σ H->H T=none->g (.ref T) σ (upd H T (.tup [.int i,x])) λaz H2=>tb { D with nx:=Pv (i+1),ct:=Pv (i+1),bk:=D.nx } az H2) (hd:∀σ H,Pv xs.length σ H->D.nx σ H):jU (Hf K ta) g tb D σ H :=
 cT _ ⟨a,rfl,⟨xs,gh⟩,acn Pv h0 hl hs hd⟩
variable{tt:TT}{te:TE}{nt:Nat}{fv:List Nat}{Q:VK}
noncomputable def NX(n i:Nat)(P:Prop):Prop:=∃m',m' < n - i/\m' = n - (i+1)/\i+1<=n/\P
theorem NX.of{n i:Nat}{P:Prop}(hi:i<n)(p:P):NX n i P:=⟨n - (i+1),by lia,rfl,hi,p⟩
theorem acw(lo hi:Int)(cT:∀Q:List V->Hp->Prop,Q [.int lo,.int hi] H->ta σ H Q)(b1 : -1000000000000<lo)(b2:lo<1000000000000)(b3 : -1000000000000<hi)(b4:hi<1000000000000)
  (Pv:Addr->Nat->List V->St->Hp->Prop) (h0:∀D,H D=none->Pv D 0 [] (jY σ nt fv) (upd H D (.lst []))) (hD:∀D i ys σ H,Pv D i ys σ H->H D=some (.lst ys)/\ys.length<sizeLine)
  (hs:∀D i ys az H2,i<(hi - lo).toNat->Pv D i ys az H2->g (.int (lo+(i:Int))) az H2 λcg H4=>tt cg H4 λb H5=>if b=true then te cg H5 λv H6=>H6 D=some (.lst ys)/\NX (hi - lo).toNat i (Pv D (i+1) (ys++[v]) cg (upd H6 D (.lst (ys++[v])))) else NX (hi - lo).toNat i (Pv D (i+1) ys cg H5))
  (hd:∀D ys az H2,Pv D (hi - lo).toNat ys az H2->Q (.ref D) H2):iR (vE ta) g tt te nt fv σ H Q:=by
 refine cT _ ⟨lo,hi,rfl,⟨by lia,by lia,by lia,by lia⟩,λD gK=>?_⟩
 refine⟨λi m ys az H2=>m=(hi - lo).toNat - i/\i<=(hi - lo).toNat/\Pv D i ys az H2,⟨_,rfl,Nat.zero_le _,h0 D gK⟩,?_⟩;rintro i m ys az H2 ⟨rfl,iT,p⟩;obtain⟨d1,d2⟩:=hD D i ys az H2 p;refine⟨d1,d2,?_⟩;by_cases bW:i<(hi - lo).toNat
 ·refine .inr ⟨bW,λx H3 y=>?_⟩;obtain⟨e1,e2⟩:=y;subst e1 e2;exact hs D i ys az _ bW p
 ·have e:i=(hi - lo).toNat:=by lia
  subst e;exact .inl ⟨Nat.le_refl _,hd D ys az H2 p⟩
theorem acy(a:Addr)(xs:List V)(jk:∀Q:VK,Q (.ref a) H->tl σ H Q)(gh:aE K H a xs)
  (Pv:Addr->Nat->List V->St->Hp->Prop) (h0:∀D,H D=none->Pv D 0 [] (jY σ nt fv) (upd H D (.lst []))) (hD:∀D i ys σ H,Pv D i ys σ H->H D=some (.lst ys)/\ys.length<sizeLine/\aE K H a xs)
  (hs:∀D i x ys az H2,xs[i]? = some x->Pv D i ys az H2->g x az H2 λcg H4=>tt cg H4 λb H5=>if b=true then te cg H5 λv H6=>H6 D=some (.lst ys)/\NX xs.length i (Pv D (i+1) (ys++[v]) cg (upd H6 D (.lst (ys++[v])))) else NX xs.length i (Pv D (i+1) ys cg H5))
  (hd:∀D ys az H2,Pv D xs.length ys az H2->Q (.ref D) H2):iR (k9 K tl) g tt te nt fv σ H Q:=by
 refine jk _ ⟨a,rfl,⟨xs,gh⟩,λD gK=>?_⟩;refine⟨λi m ys az H2=>m=xs.length - i/\i<=xs.length/\Pv D i ys az H2,⟨_,rfl,Nat.zero_le _,h0 D gK⟩,?_⟩;rintro i m ys az H2 ⟨rfl,iT,p⟩;obtain⟨d1,d2,d3⟩:=hD D i ys az H2 p;refine⟨d1,d2,?_⟩;by_cases bW:i<xs.length
 ·refine .inr ⟨⟨xs,xs[i],d3,by simp[bW]⟩,λx H3 y=>?_⟩
  obtain⟨e1,e2⟩:=y;subst e1;exact hs D i x ys az _ (e2 xs d3) p
 ·have e:i=xs.length:=by lia
  subst e;exact .inl ⟨⟨xs,d3,Nat.le_refl _⟩,hd D ys az H2 p⟩
end
theorem jG{ns:List Int}{k:Int}(h0:0<=k)(h:k<(ns.length:Int)):gg (ns.map V.int) k=some (.int (ns.getD k.toNat 0)):=by
 have hk:k.toNat<ns.length:=by lia
 unfold gg jD;rw[if_pos h0,if_pos (by simpa using h)]
 simp[List.getD_eq_getElem?_getD,List.getElem?_eq_getElem hk]
theorem Rj{ns:List Int}(h:0<ns.length):gg (ns.map V.int) (-1)=some (.int (ns.getD (ns.length - 1) 0)):=by
 have hk:ns.length - 1<ns.length:=by lia
 unfold gg jD;rw[if_neg (by decide),if_pos (by simp;lia)]
 have e:(-1+((ns.map V.int).length:Int)).toNat=ns.length - 1:=by simp;lia
 rw[e];simp[List.getD_eq_getElem?_getD,List.getElem?_eq_getElem hk]
theorem Hh(a b:String):(Str.ofString a=Str.ofString b)=(a=b):=by
 refine propext ⟨λh=>?_,λh=>by rw[h]⟩
 rw[Str.ofString_eq_toList,Str.ofString_eq_toList] at h;have h:a.toList.map Char.toNat=b.toList.map Char.toNat:=by
  injection h with h;exact Array.toList_inj.mpr h |> λz=>by simpa using h
 have inj:∀(x y:List Char),x.map Char.toNat=y.map Char.toNat->x=y:=by
  intro x
  induction x with
  | nil=>intro y h;cases y with | nil=>rfl | cons c r=>simp at h
  | cons c r ih =>
   intro y h;cases y with
   | nil=>simp at h
   | cons d q =>
    simp only[List.map_cons,List.cons.injEq] at h;rw[ih q h.2,Char.toNat_inj.mp h.1]
 exact String.ext (inj _ _ h)
theorem gi(a b:String):(Str.ofString a == Str.ofString b)=(a == b):=by
 by_cases h:a=b
 ·subst h;simp
 ·have h2:¬ Str.ofString a=Str.ofString b:=by rw[Hh];exact h
  rw[beq_eq_false_iff_ne.mpr h,beq_eq_false_iff_ne.mpr h2]
structure qW(z:List (Int×Int)):Prop where
 l1:1<=z.length
 l5:z.length<=5
 r:∀p∈z,1<=p.1/\p.1<=40/\1<=p.2/\p.2<=60
 s2:2<=(z.map (·.1)).sum
 Hi:(z.map (·.1)).sum<=120
noncomputable def counts(z:List (Int×Int)):List Int:=z.flatMap λp=>List.replicate p.1.toNat p.2
structure SwOk(sw:List Int)(n:Int):Prop where
 len:(sw.length:Int)=n
 two:2<=n
 z:sw.getD 0 0=0
 pos:∀i:Nat,1<=i->i<sw.length->1<=sw.getD i 0/\sw.getD i 0<=1000000000
 up:∀i:Nat,1<=i->i<sw.length->sw.getD (i - 1) 0<=sw.getD i 0
 no:∀a b:Nat,1<=a->1<=b->a+b<sw.length->sw.getD (a+b) 0<=sw.getD a 0+sw.getD b 0
noncomputable def e7(s:Int):Nat->List Int->List (Int×Int)
 | _,[]=>[]
 | r,c::cs=>(List.range (c - s).toNat).map (λ(k:Nat)=>((r:Int),(k:Int)))++e7 s (r+1) cs
noncomputable def kC(rc:List Int)(s:Int):List (Int×Int):=e7 s 0 rc
noncomputable def kT(p:Int×Int):List Key:=[.inl p.1,.inl p.2]
noncomputable def iy:Nat->List (Int×Int)->List (List Key×V)->List (List Key×V)
 | _,[],acc=>acc
 | i,p::r,acc=>iy (i+1) r (putK acc (kT p) (.int i))
noncomputable def tO(z:List (Int×Int)):List (List Key×V):=iy 0 z []
theorem Rl(s:Int):∀(xs ys:List Int) (r:Nat),e7 s r (xs++ys)=e7 s r xs++e7 s (r+xs.length) ys
 | [],ys,r=>by simp[e7]
 | x::xs,ys,r=>by
  rw[List.cons_append,e7,e7,Rl s xs ys (r+1),List.append_assoc,List.length_cons];congr 3;lia
theorem Rm:∀(xs ys:List (Int×Int)) (i:Nat) (acc:List (List Key×V)),iy i (xs++ys) acc=iy (i+xs.length) ys (iy i xs acc)
 | [],ys,i,acc=>by simp[iy]
 | x::xs,ys,i,acc=>by
  rw[List.cons_append,iy,iy,Rm xs ys (i+1),List.length_cons];congr 1;lia
theorem Rn:∀(xs:List (Int×Int)) (i:Nat) (acc:List (List Key×V)),(iy i xs acc).length<=acc.length+xs.length
 | [],i,acc=>by simp[iy]
 | x::xs,i,acc=>by
  rw[iy];have h1:=Rn xs (i+1) (putK acc (kT x) (.int i));have h2:=GQ acc (kT x) (.int i);rw[List.length_cons];lia
theorem Hj(x y:List (Int×Int)):counts (x++y)=counts x++counts y:=by simp[counts]
theorem n8:∀(z:List (Int×Int)),(∀p∈z,1<=p.1)->((counts z).length:Int)=(z.map (·.1)).sum
 | [],_=>rfl
 | p::z,h=>by
  have ih:=n8 z λp hp=>h p (List.mem_cons_of_mem _ hp);have h1:=h p List.mem_cons_self;simp only[counts,List.flatMap_cons,List.length_append,List.length_replicate,List.map_cons,List.sum_cons] at ih ⊢;lia
theorem Ro{z:List (Int×Int)}(ok:qW z)(i:Nat):(counts (z.take i)).length<=120:=by
 have h0:=n8 z λp hp=>(ok.r p hp).1;have e:z=z.take i++z.drop i:=(List.take_append_drop i z).symm;have e2:(counts z).length=(counts (z.take i)).length+(counts (z.drop i)).length:=by
  rw[← List.length_append,← Hj,List.take_append_drop]
 have:=ok.Hi;lia
theorem n_{z:List (Int×Int)}{c:Int}(h:c∈counts z):∃p∈z,c=p.2:=by
 obtain⟨p,hp,hc⟩:=List.mem_flatMap.mp h;exact⟨p,hp,(List.mem_replicate.mp hc).2⟩
theorem v_{s:Int}(hs:0<=s):∀(rc:List Int) (r:Nat),(∀c∈rc,0<=c/\c<=1000)->(e7 s r rc).length<=1000*rc.length
 | [],_,_=>by simp[e7]
 | c::rc,r,h=>by
  have ih:=v_ hs rc (r+1) λc hc=>h c (List.mem_cons_of_mem _ hc);have h1:=h c List.mem_cons_self;simp only[e7,List.length_append,List.length_map,List.length_range,List.length_cons];lia
theorem acz{s:Int}(hs:0<=s){rc:List Int}(h:∀c∈rc,0<=c/\c<=1000)(i:Nat):(e7 s 0 (rc.take i)).length<=1000*rc.length:=by
 have h1:=v_ hs (rc.take i) 0 λc hc=>h c (List.mem_of_mem_take hc);rw[List.length_take] at h1;have h2:1000*min i rc.length<=1000*rc.length:=Nat.mul_le_mul_left _ (Nat.min_le_right _ _);exact Nat.le_trans h1 h2
theorem pK:sizeLine=16777216:=by decide
theorem Ab(n:Nat)(c:Int):(List.replicate n [V.int c]).flatten=(List.replicate n c).map V.int:=by
 induction n with
 | zero=>rfl
 | succ n ih=>rw[List.replicate_succ,List.flatten_cons,ih,List.replicate_succ,List.map_cons];rfl
theorem Rp{α:Type}{l:List α}{i:Nat}{x:α}(h:l[i]? = some x):i<l.length:=(List.getElem?_eq_some_iff.mp h).1
theorem take_succ_get{α:Type}{l:List α}{i:Nat}{x:α}(h:l[i]? = some x):l.take (i+1)=l.take i++[x]:=by
 rw[List.take_add_one,h];rfl
theorem pL(l:List Int){i:Nat}(h:i<l.length):l[i]? = some (l.getD i 0):=by
 simp[List.getD_eq_getElem?_getD,List.getElem?_eq_getElem h]
theorem fG{α β:Type}{f:α->β}{l:List α}{i:Nat}{y:β}(h:(l.map f)[i]? = some y):∃x,l[i]? = some x/\y=f x:=by
 rw[List.getElem?_map] at h;cases e:l[i]? with
 | none=>rw[e] at h;cases h
 | some x=>rw[e] at h;exact⟨x,rfl,(Option.some.inj h).symm⟩
theorem get_mem{α:Type}{l:List α}{i:Nat}{x:α}(h:l[i]? = some x):x∈l:=List.mem_of_getElem? h
theorem dM{α:Type}{l:List α}{i:Nat}{x:α}(h:l[i]? = some x):i<l.length:=(List.getElem?_eq_some_iff.mp h).1
theorem aj.put{H:Hp}{a:Addr}{o:HO}(h:H a=none):aj H (upd H a o):=λb u e=>by rw[aI (cO e h)];exact e
theorem aj.put2{H H':Hp}{a:Addr}{o:HO}(s:aj H H')(h:H a=none):aj H (upd H' a o):=λb u e=>by rw[aI (cO e h)];exact s b u e
theorem Zn.sq{K:PySem.W.Frag}{H:Hp}{a:Addr}{ts:List Addr}{z:List (Int×Int)}(h:Zn H a ts z):aE K H a (ts.map V.ref):=aE.of h.l
section
variable{X:Cx}{K:PySem.W.Frag}
end
section
variable{K:PySem.W.Frag}{ta:TA}{tl:TE}{g:TG}{tb:TS}{D:Ends}{σ:St}{H:Hp}
theorem rl(a:Addr)(xs:List V)(Pv:Nat->St->Hp->Prop)(jk:∀Q:VK,Q (.ref a) H->tl σ H Q)(gh:aE K H a xs)(h0:Pv 0 σ H)(hl:∀i σ H,i<=xs.length->Pv i σ H->aE K H a xs)
  (hs:∀i x σ H (N:St->Hp->Prop),(∀σ H,Pv (i+1) σ H->N σ H)->xs[i]? = some x->Pv i σ H->g x σ H λaz H2=>tb { D with nx:=N,ct:=N,bk:=D.nx } az H2) (hd:∀σ H,Pv xs.length σ H->D.nx σ H):jU (k9 K tl) g tb D σ H :=
 acu a xs jk gh Pv h0 hl (λi x σ H hx p=>hs i x σ H _ (λ_ _ z=>z) hx p) hd
theorem Rq(n:Nat)(Pv:Nat->St->Hp->Prop)(cT:∀Q:List V->Hp->Prop,Q [.int (n:Int)] H->ta σ H Q)(hn:n<1000000000)(h0:Pv 0 σ H)
  (hs:∀i σ H (N:St->Hp->Prop),(∀σ H,Pv (i+1) σ H->N σ H)->i<n->Pv i σ H->g (.int (i:Int)) σ H λaz H2=>tb { D with nx:=N,ct:=N,bk:=D.nx } az H2) (hd:∀σ H,Pv n σ H->D.nx σ H):jU (vD ta) g tb D σ H :=
 acr n cT hn Pv h0 (λi σ H hx p=>hs i σ H _ (λ_ _ z=>z) hx p) hd
theorem pM(lo hi:Int)(Pv:Nat->St->Hp->Prop)(cT:∀Q:List V->Hp->Prop,Q [.int lo,.int hi] H->ta σ H Q)(b1 : -1000000000000<lo)(b2:lo<1000000000000)(b3 : -1000000000000<hi)(b4:hi<1000000000000)(h0:Pv 0 σ H)
  (hs:∀i σ H (N:St->Hp->Prop),(∀σ H,Pv (i+1) σ H->N σ H)->i<(hi - lo).toNat->Pv i σ H->g (.int (lo+(i:Int))) σ H λaz H2=>tb { D with nx:=N,ct:=N,bk:=D.nx } az H2) (hd:∀σ H,Pv (hi - lo).toNat σ H->D.nx σ H):jU (vE ta) g tb D σ H :=
 acs lo hi cT b1 b2 b3 b4 Pv h0 (λi σ H hx p=>hs i σ H _ (λ_ _ z=>z) hx p) hd
theorem acA(n:Int)(Pv:Nat->St->Hp->Prop)(cT:∀Q:List V->Hp->Prop,Q [.int n] H->ta σ H Q)(h0' : -1000000000000<n)(hn:n<1000000000000)(h0:Pv 0 σ H)
  (hs:∀i σ H (N:St->Hp->Prop),(∀σ H,Pv (i+1) σ H->N σ H)->i<n.toNat->Pv i σ H->g (.int (i:Int)) σ H λaz H2=>tb { D with nx:=N,ct:=N,bk:=D.nx } az H2) (hd:∀σ H,Pv n.toNat σ H->D.nx σ H):jU (vD ta) g tb D σ H:=by
 refine cT _ ⟨n,rfl,by lia,by lia,?_⟩
 refine Gh Pv h0 (λi σ H hi p=>?_) hd;have e2:(0:Int)+(i:Int)=i:=by lia
 rw[e2];exact hs i σ H _ (λ_ _ z=>z) hi p
theorem re(a:Addr)(xs:List V)(Pv:Nat->St->Hp->Prop)(cT:∀Q:List V->Hp->Prop,Q [.ref a] H->ta σ H Q)(gh:aE K H a xs)(h0:Pv 0 σ H)(hl:∀i σ H,i<=xs.length->Pv i σ H->aE K H a xs)
  (hs:∀i x σ H T (N:St->Hp->Prop),(∀σ H,Pv (i+1) σ H->N σ H)->xs[i]? = some x->Pv i σ H->H T=none->g (.ref T) σ (upd H T (.tup [.int i,x])) λaz H2=>tb { D with nx:=N,ct:=N,bk:=D.nx } az H2) (hd:∀σ H,Pv xs.length σ H->D.nx σ H):jU (Hf K ta) g tb D σ H :=
 acv a xs cT gh Pv h0 hl (λi x σ H T hx p hT=>hs i x σ H T _ (λ_ _ z=>z) hx p hT) hd
variable{tt:TT}{te:TE}{nt:Nat}{fv:List Nat}{Q:VK}
theorem Rr(lo hi:Int)(Pv:Addr->Nat->List V->St->Hp->Prop)(cT:∀Q:List V->Hp->Prop,Q [.int lo,.int hi] H->ta σ H Q)(b1 : -1000000000000<lo)(b2:lo<1000000000000)(b3 : -1000000000000<hi)(b4:hi<1000000000000)
  (h0:∀D,H D=none->Pv D 0 [] (jY σ nt fv) (upd H D (.lst []))) (hD:∀D i ys σ H,Pv D i ys σ H->H D=some (.lst ys)/\ys.length<sizeLine)
  (hs:∀D i ys az H2 (N:List V->St->Hp->Prop),(∀ys σ H,Pv D (i+1) ys σ H->N ys σ H)->i<(hi - lo).toNat->Pv D i ys az H2->g (.int (lo+(i:Int))) az H2 λcg H4=>tt cg H4 λb H5=>if b=true then te cg H5 λv H6=>H6 D=some (.lst ys)/\N (ys++[v]) cg (upd H6 D (.lst (ys++[v]))) else N ys cg H5)
  (hd:∀D ys az H2,Pv D (hi - lo).toNat ys az H2->Q (.ref D) H2):iR (vE ta) g tt te nt fv σ H Q :=
 acw lo hi cT b1 b2 b3 b4 Pv h0 hD (λD i ys az H2 hi p=>hs D i ys az H2 _ (λ_ _ _ z=>NX.of hi z) hi p) hd
theorem iU(a:Addr)(xs:List V)(Pv:Addr->Nat->List V->St->Hp->Prop)(jk:∀Q:VK,Q (.ref a) H->tl σ H Q)(gh:aE K H a xs)
  (h0:∀D,H D=none->Pv D 0 [] (jY σ nt fv) (upd H D (.lst []))) (hD:∀D i ys σ H,Pv D i ys σ H->H D=some (.lst ys)/\ys.length<sizeLine/\aE K H a xs)
  (hs:∀D i x ys az H2 (N:List V->St->Hp->Prop),(∀ys σ H,Pv D (i+1) ys σ H->N ys σ H)->xs[i]? = some x->Pv D i ys az H2->g x az H2 λcg H4=>tt cg H4 λb H5=>if b=true then te cg H5 λv H6=>H6 D=some (.lst ys)/\N (ys++[v]) cg (upd H6 D (.lst (ys++[v]))) else N ys cg H5)
  (hd:∀D ys az H2,Pv D xs.length ys az H2->Q (.ref D) H2):iR (k9 K tl) g tt te nt fv σ H Q :=
 acy a xs jk gh Pv h0 hD (λD i x ys az H2 hx p=>hs D i x ys az H2 _ (λ_ _ _ z=>NX.of (List.getElem?_eq_some_iff.mp hx).1 z) hx p) hd
end
theorem lK{K:PySem.W.Frag}{H:Hp}{σ:St}{t:Addr}{x y:V}{n i j:Nat}{Q:St->Hp->Prop}(h:bD K H t [x,y])(hn:2=n)(q:Q ((σ.set i (some x)).set j (some y)) H):zC K n (zB (nK i) (zB (nK j) Ga)) (.ref t) σ H Q :=
 ⟨t,[x,y],rfl,h,hn,x,[y],rfl,y,[],rfl,rfl,q⟩
theorem lenZ{ts:List Addr}{z:List (Int×Int)}(h:ts.length=z.length):(ts.map V.ref).length=z.length:=by simpa using h
theorem Zn.snoc{H:Hp}{l p:Addr}{ts:List Addr}{z:List (Int×Int)}(h:Zn H l ts z)(hp:H p=none)(a b:Int):Zn (upd (upd H p (.tup [.int a,.int b])) l (.lst (ts.map V.ref++[V.ref p]))) l (ts++[p]) (z++[(a,b)]):=by
 have kD:l≠p:=cO h.l hp;refine⟨by rw[aH,List.map_append];rfl,by simp[h.n],λi t q e1 e2=>?_⟩
 have hn:=h.n;by_cases hi:i<ts.length
 ·rw[List.getElem?_append_left hi] at e1;rw[List.getElem?_append_left (by lia)] at e2
  have ht:=h.t i t q e1 e2;rw[aI (sE ht h.l (by intro z;cases z)),aI (cO ht hp)]
  exact ht
 ·rw[List.getElem?_append_right (by lia)] at e1
  rw[List.getElem?_append_right (by lia)] at e2
  have gC:i - ts.length=0:=by
   have:=Rp e1;simp at this;lia
  rw[gC] at e1;rw[← hn,gC] at e2;simp at e1 e2;subst e1 e2;rw[aI kD.symm,aH]
noncomputable def acB(t:TS):TS:=λD σ H=>∃M:St->Hp->Prop,t { D with nx:=M } σ H/\∀dU H1,M dU H1->D.nx dU H1
theorem acC{X:Cx}{st:Stmt}{t:TS}(h:PS X st t):PS X st (acB t):=by
 rintro pins s σ H D I ⟨M,hM,k⟩;refine aP (h pins s σ H _ I hM) λf s1 q=>?_;cases f with
 | next=>obtain⟨dU,H1,I1,q⟩:=q;exact⟨dU,H1,I1,k _ _ q⟩
 | brk=>exact q
 | cont=>exact q
 | ret u=>exact q
noncomputable def acD(K:PySem.W.Frag):Sp:=λvs H Q _=>∃(a:Addr) (ts:List Addr) (z:List (Int×Int)),vs = [.ref a]/\Zn H a ts z/\qW z/\∀H',aj H H'->Q .aV H'
noncomputable def acE(K:PySem.W.Frag):Sp:=λvs H Q _=>∃(a:Addr) (ts:List Addr) (z:List (Int×Int)) (aJ dX:Int),vs = [.ref a,.int aJ,.int dX]/\Zn H a ts z/\qW z/\1<=aJ/\aJ<=1000000000/\0<=dX/\dX<aJ/\
 (∀p∈z,aJ % p.2=0)/\Q .aV H
noncomputable def acF(K:PySem.W.Frag):Sp:=λvs H Q _=>∃(a:Addr) (sw:List Int) (n:Int),vs = [.ref a,.int n]/\aE K H a (sw.map V.int)/\SwOk sw n/\n<=1000/\Q .aV H
noncomputable def acG(K:PySem.W.Frag):Sp:=λvs H Q _=>∃(a:Addr) (sw:List Int) (n:Int),vs = [.ref a]/\aE K H a (sw.map V.int)/\SwOk sw n/\n<=1000/\Q .aV H
noncomputable def Rt(K:PySem.W.Frag):Sp:=λvs H Q _=>∃(a:Addr) (ts:List Addr) (z:List (Int×Int)),vs = [.ref a]/\Zn H a ts z/\qW z/\
 ∀l H',aj H H'->H l=none->H' l=some (.lst ((counts z).map V.int))->Q (.ref l) H'
noncomputable def acH(K:PySem.W.Frag):Sp:=λvs H Q _=>∃(a:Addr) (rc:List Int) (s:Int),vs = [.ref a,.int s]/\aE K H a (rc.map V.int)/\rc.length<=1000/\(∀c∈rc,0<=c/\c<=1000)/\0<=s/\s<=1000/\
 ∀l ts H',aj H H'->H l=none->(∀t∈ts,H t=none)->Zn H' l ts (kC rc s)->Q (.ref l) H'
noncomputable def acI(K:PySem.W.Frag):Sp:=λvs H Q _=>∃(a:Addr) (ts:List Addr) (z:List (Int×Int)),vs = [.ref a]/\Zn H a ts z/\z.length<=1000000/\
 ∀d H',aj H H'->H d=none->H' d=some (.dT (tO z))->Q (.ref d) H'
structure Pl where
 rc:List Int
 aJ:Int
 dX:Int
 sw:List Int
 nc:List (Int×Int)
structure CP(K:PySem.W.Frag)(C:Addr):Prop where
 cl:bL K C
 n1:bO K C "ring_cells"
 n2:bO K C "lap"
 n3:bO K C "skew"
 n4:bO K C "swing"
 n5:bO K C "number_cells"
 n6:bO K C "cell_numbers"
noncomputable def wc(a1:Addr)(aJ dX:Int)(a2 a3 a4:Addr):List (Str×V):=[("ring_cells",.ref a1),("lap",.int aJ),("skew",.int dX),("swing",.ref a2),("number_cells",.ref a3),("cell_numbers",.ref a4)]
structure pN(K:PySem.W.Frag)(C:Addr)(H:Hp)(p:Addr)(P:Pl)(dx a1 a2 a3 a4:Addr)(ts:List Addr)(fs:List (Str×V)):Prop where
 cp:CP K C
 o:H p=some (.ins C dx fs)
 f1:fs.lookup ("ring_cells" : Str)=some (.ref a1)
 f2:fs.lookup ("lap" : Str)=some (.int P.aJ)
 f3:fs.lookup ("skew" : Str)=some (.int P.dX)
 f4:fs.lookup ("swing" : Str)=some (.ref a2)
 f5:fs.lookup ("number_cells" : Str)=some (.ref a3)
 f6:fs.lookup ("cell_numbers" : Str)=some (.ref a4)
 m1:fs.lookup ("rings" : Str)=none
 m2:fs.lookup ("total" : Str)=none
 m3:fs.lookup ("cells_of" : Str)=none
 m4:fs.lookup ("beats_of" : Str)=none
 m5:fs.lookup ("lap_beats" : Str)=none
 m6:fs.lookup ("begins" : Str)=none
 m7:fs.lookup ("swing_of" : Str)=none
 m8:fs.lookup ("has_cell" : Str)=none
 m9:fs.lookup ("cell_at" : Str)=none
 g9:fs.lookup ("number_of" : Str)=none
 iz:fs.lookup ("laid" : Str)=none
 rc:H a1=some (.lst (P.rc.map V.int))
 sw:H a2=some (.lst (P.sw.map V.int))
 nc:Zn H a3 ts P.nc
 cn:H a4=some (.dT (tO P.nc))
theorem pN.lit{K:PySem.W.Frag}{C:Addr}{H:Hp}{p:Addr}{P:Pl}{dx a1 a2 a3 a4:Addr}{ts:List Addr}(cp:CP K C)(o:H p=some (.ins C dx (wc a1 P.aJ P.dX a2 a3 a4)))(rc:H a1=some (.lst (P.rc.map V.int)))(sw:H a2=some (.lst (P.sw.map V.int)))
  (nc:Zn H a3 ts P.nc) (cn:H a4=some (.dT (tO P.nc))):pN K C H p P dx a1 a2 a3 a4 ts (wc a1 P.aJ P.dX a2 a3 a4):=by
 refine⟨cp,o,?_,?_,?_,?_,?_,?_,?_,?_,?_,?_,?_,?_,?_,?_,?_,?_,?_,rc,sw,nc,cn⟩ <;> simp[wc,List.lookup_cons,gi]
noncomputable def bZ(K:PySem.W.Frag)(C:Addr)(H:Hp)(p:Addr)(P:Pl)(fp:List Addr):Prop:=∃dx a1 a2 a3 a4 ts fs,fp=a1::a2::a3::a4::ts/\pN K C H p P dx a1 a2 a3 a4 ts fs
theorem Zn.keep{H H':Hp}{a:Addr}{ts:List Addr}{z:List (Int×Int)}(h:Zn H a ts z)(ha:H' a=H a)(ht:∀t∈ts,H' t=H t):Zn H' a ts z :=
 ⟨ha.trans h.l,h.n,λi t p e1 e2=>(ht t (List.mem_of_getElem? e1)).trans (h.t i t p e1 e2)⟩
theorem Zn.has{H:Hp}{a:Addr}{ts:List Addr}{z:List (Int×Int)}(h:Zn H a ts z){t:Addr}(ht:t∈ts):∃o,H t=some o:=by
 obtain⟨i,hi,rfl⟩:=List.mem_iff_getElem.mp ht;have hz:i<z.length:=by rw[← h.n];exact hi
 exact⟨_,h.t i _ _ (List.getElem?_eq_getElem hi) (List.getElem?_eq_getElem hz)⟩
section
variable{K:PySem.W.Frag}{C:Addr}{H H':Hp}{p x:Addr}{P:Pl}{fp:List Addr}
theorem pN.move{dx a1 a2 a3 a4:Addr}{ts:List Addr}{fs:List (Str×V)}(h:pN K C H p P dx a1 a2 a3 a4 ts fs)(ho:H' p=H p)(h1:H' a1=H a1)(h2:H' a2=H a2)(h3:H' a3=H a3)(h4:H' a4=H a4)(ht:∀t∈ts,H' t=H t):pN K C H' p P dx a1 a2 a3 a4 ts fs :=
 { h with o:=ho.trans h.o,rc:=h1.trans h.rc,sw:=h2.trans h.sw,nc:=h.nc.keep h3 ht,cn:=h4.trans h.cn }
theorem bZ.keep(h:bZ K C H p P fp)(hp:H' p=H p)(e:∀b∈fp,H' b=H b):bZ K C H' p P fp:=by
 obtain⟨dx,a1,a2,a3,a4,ts,fs,rfl,h⟩:=h;exact⟨dx,a1,a2,a3,a4,ts,fs,rfl,h.move hp (e a1 (by simp)) (e a2 (by simp)) (e a3 (by simp)) (e a4 (by simp)) λt ht=>e t (by simp[ht])⟩
theorem bZ.has(h:bZ K C H p P fp){b:Addr}(hb:b∈fp):∃o,H b=some o:=by
 obtain⟨cZ,a1,a2,a3,a4,ts,fs,rfl,h⟩:=h;simp only[List.mem_cons] at hb;rcases hb with rfl | rfl | rfl | rfl | hb
 ·exact⟨_,h.rc⟩
 ·exact⟨_,h.sw⟩
 ·exact⟨_,h.nc.l⟩
 ·exact⟨_,h.cn⟩
 ·exact h.nc.has hb
theorem bZ.here(h:bZ K C H p P fp):∃o,H p=some o:=by
 obtain⟨cZ,a1,a2,a3,a4,ts,fs,rfl,h⟩:=h;exact⟨_,h.o⟩
theorem bZ.same(h:bZ K C H p P fp)(s:aj H H'):bZ K C H' p P fp:=by
 refine h.keep ?_ λb hb=>?_
 ·obtain⟨o,e⟩:=h.here;rw[e];exact s _ _ e
 ·obtain⟨o,e⟩:=h.has hb;rw[e];exact s _ _ e
noncomputable def SameBut(x:Addr)(H H':Hp):Prop:=∀b o,H b=some o->b≠x->H' b=some o
theorem SameBut.put{o:HO}(s:SameBut x H H'):SameBut x H (upd H' x o):=λb u e h=>by rw[aI h];exact s b u e h
theorem SameBut.step{H1 H2:Hp}(s:SameBut x H H1)(t:aj H1 H2):SameBut x H H2:=λb u e h=>t _ _ (s b u e h)
theorem SameBut.of(s:aj H H'):SameBut x H H':=λb u e _=>s _ _ e
end
noncomputable def acJ(K:PySem.W.Frag):Sp:=λvs H Q _=>∃(C p dx za sa:Addr) (mS:List Addr) (z:List (Int×Int)) (aJ dX:Int) (sw:List Int),vs = [.ref p,.ref za,.int aJ,.int dX,.ref sa]/\CP K C/\H p=some (.ins C dx [])/\Zn H za mS z/\qW z/\
 1<=aJ/\aJ<=1000000000/\0<=dX/\dX<aJ/\(∀p∈z,aJ % p.2=0)/\aE K H sa (sw.map V.int)/\SwOk sw (z.map (·.1)).sum/\
 ∀H' dx a1 a2 a3 a4 ts,SameBut p H H'->(∀b∈a1::a2::a3::a4::ts,H b=none)->H' p=some (.ins C dx (wc a1 aJ dX a2 a3 a4))->pN K C H' p ⟨counts z,aJ,dX,sw,kC (counts z) 0⟩ dx a1 a2 a3 a4 ts (wc a1 aJ dX a2 a3 a4)->Q .aV H'
noncomputable def acK(K:PySem.W.Frag):Sp:=λvs H Q _=>∃(C p:Addr) (P:Pl) (fp:List Addr) (i j:Int),vs = [.ref p,.int i,.int j]/\bZ K C H p P fp/\(i - j).natAbs<P.sw.length/\Q (.int (P.sw.getD (i - j).natAbs 0)) H
noncomputable def acL(K:PySem.W.Frag):Sp:=λvs H Q _=>∃(C p:Addr) (P:Pl) (fp:List Addr),vs = [.ref p]/\bZ K C H p P fp/\Q (.int P.rc.length) H
noncomputable def acM(K:PySem.W.Frag):Sp:=λvs H Q _=>∃(C p:Addr) (P:Pl) (fp:List Addr),vs = [.ref p]/\bZ K C H p P fp/\Q (.int P.nc.length) H
noncomputable def acN(K:PySem.W.Frag):Sp:=λvs H Q _=>∃(C p:Addr) (P:Pl) (fp:List Addr),vs = [.ref p]/\bZ K C H p P fp/\Q (.int P.aJ) H
noncomputable def acO(K:PySem.W.Frag):Sp:=λvs H Q _=>∃(C p:Addr) (P:Pl) (fp:List Addr) (r:Int),vs = [.ref p,.int r]/\bZ K C H p P fp/\0<=r/\r<P.rc.length/\Q (.int (P.rc.getD r.toNat 0)) H
noncomputable def acP(K:PySem.W.Frag):Sp:=λvs H Q _=>∃(C p:Addr) (P:Pl) (fp:List Addr) (r:Int),vs = [.ref p,.int r]/\bZ K C H p P fp/\0<=r/\r<P.rc.length/\0<P.rc.getD r.toNat 0/\P.rc.getD r.toNat 0<=1000/\Q (.int (P.aJ / P.rc.getD r.toNat 0)) H
noncomputable def acQ(K:PySem.W.Frag)(cs:List Addr):Sp:=λvs H Q _=>∃(C p:Addr) (P:Pl) (fp:List Addr) (r c:Int),vs = [.ref p,.int r,.int c]/\C∈cs/\bZ K C H p P fp/\0<=r/\r<P.rc.length/\P.rc.length<=1000/\0<P.rc.getD r.toNat 0/\P.rc.getD r.toNat 0<=1000/\
 0<=c/\c<=1000/\0<P.aJ/\Q (.int ((c*(P.aJ / P.rc.getD r.toNat 0)+r*P.dX) % P.aJ)) H
noncomputable def acR(K:PySem.W.Frag):Sp:=λvs H Q _=>∃(C p:Addr) (P:Pl) (fp:List Addr) (r c:Int),vs = [.ref p,.int r,.int c]/\bZ K C H p P fp/\Q (.bl (decide (0<=r/\r<P.rc.length/\0<=c/\c<P.rc.getD r.toNat 0))) H
noncomputable def acS(K:PySem.W.Frag):Sp:=λvs H Q _=>∃(C p:Addr) (P:Pl) (fp:List Addr) (k:Int),vs = [.ref p,.int k]/\bZ K C H p P fp/\0<=k/\k<P.nc.length/\∀t q,P.nc[k.toNat]? = some q->H t=some (.tup [.int q.1,.int q.2])->Q (.ref t) H
noncomputable def acT(K:PySem.W.Frag)(cs:List Addr):Sp:=λvs H Q _=>∃(C p:Addr) (P:Pl) (fp:List Addr) (r c:Int),vs = [.ref p,.int r,.int c]/\C∈cs/\bZ K C H p P fp/\0<=r/\r<P.rc.length/\0<=c/\c<P.rc.getD r.toNat 0/\
 ∀H',aj H H'->Q ((cL (tO P.nc) (kT (r,c))).getD .aV) H'
noncomputable def qX(a b:Int):List (Int×Int) :=
 if mix b 9 % 8=0 then [(2+mix a 9 % 2,1+mix b 8 % 60)]
 else(2+mix a 2 % 2,1+mix b 0 % 8)::(List.range ((if mix a 1 % 9=0 then 5 else 1+mix a 0 % 3) - 1).toNat).map λ(k:Nat)=>(1+mix a (2+(1+(k:Int))) % 3,1+mix b (1+(k:Int)) % 8)
noncomputable def fQ(z:List (Int×Int)):Int:=z.foldl (λp x=>p*x.2) 1
noncomputable def qY(z:List (Int×Int))(c:Int):Int:=fQ z*(1+mix c 1 % (if mix c 0 % 9=0 then 1000000000 / fQ z else 900))
noncomputable def fu(c s0:Int):Nat->Int
 | 0=>s0
 | i+1=>fu c s0 i - mix c (2+(i:Int)+2) % (fu c s0 i+1) / 2
noncomputable def gM(c s0:Int):Nat->Int
 | 0=>0
 | i+1=>gM c s0 i+fu c s0 i
theorem qZ(c:Int){s0:Int}(h:1<=s0):∀i,1<=fu c s0 i/\fu c s0 i<=s0
 | 0=>⟨h,Int.le_refl _⟩
 | i+1=>by
  have ih:=qZ c h i;have h1:=Int.emod_nonneg (mix c (2+(i:Int)+2)) (show fu c s0 i+1≠0 by lia)
  have h2:=Int.emod_lt_of_pos (mix c (2+(i:Int)+2)) (show 0<fu c s0 i+1 by lia)
  rw[fu];generalize mix c (2+(i:Int)+2) % (fu c s0 i+1)=m at h1 h2 ⊢;lia
theorem acU(c:Int){s0:Int}(h:1<=s0)(i:Nat):fu c s0 (i+1)<=fu c s0 i:=by
 have ih:=qZ c h i;have h1:=Int.emod_nonneg (mix c (2+(i:Int)+2)) (show fu c s0 i+1≠0 by lia)
 rw[fu];generalize mix c (2+(i:Int)+2) % (fu c s0 i+1)=m at h1 ⊢;lia
theorem acV(c:Int){s0:Int}(h:1<=s0)(i:Nat):∀j,fu c s0 (i+j)<=fu c s0 j
 | 0=>by
  rw[Nat.add_zero];exact(qZ c h i).2
 | j+1=>by
  have:∀k,fu c s0 (j+1+k)<=fu c s0 (j+1):=by
   intro k
   induction k with
   | zero=>exact Int.le_refl _
   | succ k ih=>exact Int.le_trans (acU c h (j+1+k)) ih
  rw[Nat.add_comm i (j+1)];exact this i
theorem Ru(c:Int){s0:Int}(h:1<=s0)(a:Nat):∀b,gM c s0 (a+b)<=gM c s0 a+gM c s0 b
 | 0=>by simp[gM]
 | b+1=>by
  have ih:=Ru c h a b;have:=acV c h a b;rw[← Nat.add_assoc,gM,gM];lia
theorem Rv(c:Int){s0:Int}(h:1<=s0):∀i:Nat,(i:Int)<=gM c s0 i/\gM c s0 i<=s0*(i:Int)
 | 0=>by simp[gM]
 | i+1=>by
  have ih:=Rv c h i;have h2:=qZ c h i;have e:s0*((i+1:Nat):Int)=s0*(i:Int)+s0:=by
   rw[show ((i+1:Nat):Int)=(i:Int)+1 by lia,Int.mul_add,Int.mul_one]
  rw[gM,e];lia
theorem range_getD{f:Nat->Int}{n i:Nat}(h:i<n):((List.range n).map f).getD i 0=f i:=by
 simp[List.getD_eq_getElem?_getD,h]
theorem Rw(c:Int){s0:Int}(h:1<=s0)(h7:s0<=10000000){n:Nat}(h2:2<=n)(amD:n<=100):SwOk ((List.range n).map (gM c s0)) (n:Int):=by
 refine⟨by simp,by lia,by rw[range_getD (by lia)];rfl,λi h1 hi=>?_,λi h1 hi=>?_,λa b ha hb Ac=>?_⟩
 ·rw[List.length_map,List.length_range] at hi;rw[range_getD hi];have:=Rv c h i;have e:s0*(i:Int)<=10000000*(i:Int):=Int.mul_le_mul_of_nonneg_right h7 (by lia)
  lia
 ·rw[List.length_map,List.length_range] at hi;rw[range_getD hi,range_getD (by lia)]
  obtain⟨j,rfl⟩:∃j,i=j+1:=⟨i - 1,by lia⟩
  have:=qZ c h j;rw[gM];show gM c s0 j<=_;lia
 ·rw[List.length_map,List.length_range] at Ac;rw[range_getD Ac,range_getD (by lia),range_getD (by lia)]
  exact Ru c h a b
theorem acW{L:Int}(h:1<=L)(h8:L<=100000000){ns:List Int}(hb:∀x∈ns,L<=x/\x<=2*L)(hp:ns.Pairwise (·<=·))(h1:1<=ns.length):SwOk (0::ns) ((ns.length+1:Nat):Int):=by
 have at_:∀i:Nat,1<=i->i<(0::ns).length->∃hi:i - 1<ns.length,(0::ns).getD i 0=ns[i - 1]:=λi h1 hi=>by
  obtain⟨j,rfl⟩:∃j,i=j+1:=⟨i - 1,by lia⟩
  have hj:j<ns.length:=by simpa using hi
  exact⟨hj,by simp[List.getD_eq_getElem?_getD,List.getElem?_eq_getElem hj]⟩
 refine⟨by simp,by lia,rfl,λi h1 hi=>?_,λi h1 hi=>?_,λa b ha mL Ac=>?_⟩
 ·obtain⟨hj,e⟩:=at_ i h1 hi;have:=hb _ (List.getElem_mem hj);rw[e];lia
 ·obtain⟨hj,e⟩:=at_ i h1 hi;rw[e];by_cases h2:i=1
  ·subst h2;have:=hb _ (List.getElem_mem hj)
   show (0:Int)<=_;lia
  ·obtain⟨hj2,e2⟩:=at_ (i - 1) (by lia) (by lia)
   rw[e2];exact List.pairwise_iff_getElem.mp hp _ _ hj2 hj (by lia)
 ·obtain⟨h1,e1⟩:=at_ (a+b) (by lia) Ac
  obtain⟨h2,e2⟩:=at_ a ha (by lia)
  obtain⟨h3,e3⟩:=at_ b mL (by lia)
  have:=hb _ (List.getElem_mem h1);have:=hb _ (List.getElem_mem h2);have:=hb _ (List.getElem_mem h3);rw[e1,e2,e3];lia
structure ZL(z:List (Int×Int)):Prop where
 ok:qW z
 pr:fQ z<=32768
 sm:(z.map (·.1)).sum<=15
theorem prodF(z:List (Int×Int)):∀p:Int,z.foldl (λp x=>p*x.2) p=p*fQ z:=by
 induction z with
 | nil=>intro p;simp[fQ]
 | cons x z ih =>
  intro p;rw[fQ,List.foldl_cons,List.foldl_cons,ih,ih (1*x.2),Int.one_mul,Int.mul_assoc]
theorem Hl(x:Int×Int)(z:List (Int×Int)):fQ (x::z)=x.2*fQ z:=by
 rw[fQ,List.foldl_cons,prodF,Int.one_mul]
theorem acX(x:Int×Int)(z:List (Int×Int)):fQ (z++[x])=fQ z*x.2:=by
 rw[fQ,List.foldl_append];rfl
theorem Ad{m:Int}(hm:1<=m):∀z:List (Int×Int),(∀p∈z,1<=p.2/\p.2<=m)->1<=fQ z/\fQ z<=m ^ z.length
 | [],_=>by simp[fQ]
 | x::z,h=>by
  have ih:=Ad hm z λp hp=>h p (List.mem_cons_of_mem _ hp);have hx:=h x List.mem_cons_self;rw[Hl,List.length_cons,Int.pow_succ,Int.mul_comm (m ^ z.length)];constructor
  ·have:=Int.mul_le_mul hx.1 ih.1 (by decide) (by lia)
   lia
  ·exact Int.mul_le_mul hx.2 ih.2 (by lia) (by lia)
theorem Rx{x:Int×Int}:∀ {z:List (Int×Int)},x∈z->x.2 ∣ fQ z
 | y::z,h=>by
  rw[Hl];rcases List.mem_cons.mp h with rfl | h
  ·exact Int.dvd_mul_right _ _
  ·exact Int.dvd_trans (Rx h) (Int.dvd_mul_left _ _)
theorem Ry{m:Int}(hm:1<=m){a b:Nat}(h:a<=b):m ^ a<=m ^ b:=by
 induction h with
 | refl=>exact Int.le_refl _
 | @step b h ih =>
  rw[Int.pow_succ];have h1:1<=m ^ b:=by
   clear ih h
   induction b with
   | zero=>simp
   | succ b ih =>
    rw[Int.pow_succ];have:=Int.mul_le_mul ih hm (by decide) (by lia)
    lia
  have:=Int.mul_le_mul (Int.le_refl (m ^ b)) hm (by decide) (by lia)
  lia
theorem Rz{f:Nat->Int}{lo hi:Int}(h:∀k,lo<=f k/\f k<=hi):∀n:Nat,lo*n<=((List.range n).map f).sum/\((List.range n).map f).sum<=hi*n
 | 0=>by simp
 | n+1=>by
  have ih:=Rz h n;have:=h n;rw[List.range_succ,List.map_append,List.sum_append];simp only[List.map_cons,List.map_nil,List.sum_cons,List.sum_nil];have e1:lo*((n+1:Nat):Int)=lo*n+lo:=by rw[show ((n+1:Nat):Int)=(n:Int)+1 by lia,Int.mul_add,Int.mul_one]
  have e2:hi*((n+1:Nat):Int)=hi*n+hi:=by rw[show ((n+1:Nat):Int)=(n:Int)+1 by lia,Int.mul_add,Int.mul_one]
  rw[e1,e2];lia
theorem acY(a b:Int):ZL (qX a b):=by
 unfold qX;by_cases h:mix b 9 % 8=0
 ·rw[if_pos h];have h1:0<=mix a 9 % 2/\mix a 9 % 2<2:=⟨Int.emod_nonneg _ (by decide),Int.emod_lt_of_pos _ (by decide)⟩
  have h2:0<=mix b 8 % 60/\mix b 8 % 60<60:=⟨Int.emod_nonneg _ (by decide),Int.emod_lt_of_pos _ (by decide)⟩
  refine⟨⟨by simp,by simp,?_,?_,?_⟩,?_,?_⟩
  ·intro p hp;rw[List.mem_singleton.mp hp];dsimp only;lia
  ·simp;lia
  ·simp;lia
  ·rw[Hl];simp[fQ];lia
  ·simp;lia
 ·rw[if_neg h];generalize hm:(if mix a 1 % 9=0 then(5:Int) else 1+mix a 0 % 3)=m
  have Ho:1<=m/\m<=5:=by
   have h1:0<=mix a 0 % 3/\mix a 0 % 3<3:=⟨Int.emod_nonneg _ (by decide),Int.emod_lt_of_pos _ (by decide)⟩
   rw[← hm];split <;> lia
  have h1:0<=mix a 2 % 2/\mix a 2 % 2<2:=⟨Int.emod_nonneg _ (by decide),Int.emod_lt_of_pos _ (by decide)⟩
  have h2:0<=mix b 0 % 8/\mix b 0 % 8<8:=⟨Int.emod_nonneg _ (by decide),Int.emod_lt_of_pos _ (by decide)⟩
  have h3:∀k:Nat,0<=mix a (2+(1+(k:Int))) % 3/\mix a (2+(1+(k:Int))) % 3<3:=λk=>⟨Int.emod_nonneg _ (by decide),Int.emod_lt_of_pos _ (by decide)⟩
  have h4:∀k:Nat,0<=mix b (1+(k:Int)) % 8/\mix b (1+(k:Int)) % 8<8:=λk=>⟨Int.emod_nonneg _ (by decide),Int.emod_lt_of_pos _ (by decide)⟩
  have s_:∀p∈((2+mix a 2 % 2,1+mix b 0 % 8)::(List.range (m - 1).toNat).map λ(k:Nat)=>(1+mix a (2+(1+(k:Int))) % 3,1+mix b (1+(k:Int)) % 8)),1<=p.1/\p.1<=3/\1<=p.2/\p.2<=8:=by
   intro p hp;rcases List.mem_cons.mp hp with rfl | hp
   ·dsimp only;lia
   ·obtain⟨k,_,rfl⟩:=List.mem_map.mp hp;have:=h3 k;have:=h4 k;dsimp only;lia
  have hlen:((2+mix a 2 % 2,1+mix b 0 % 8)::(List.range (m - 1).toNat).map λ(k:Nat)=>(1+mix a (2+(1+(k:Int))) % 3,1+mix b (1+(k:Int)) % 8)).length=m.toNat:=by
   simp;lia
  have amE:=Rz (f:=λ(k:Nat)=>1+mix a (2+(1+(k:Int))) % 3) (lo:=1) (hi:=3) (λk=>by have:=h3 k;lia) (m - 1).toNat
  have hs:(((2+mix a 2 % 2,1+mix b 0 % 8)::(List.range (m - 1).toNat).map λ(k:Nat)=>(1+mix a (2+(1+(k:Int))) % 3,1+mix b (1+(k:Int)) % 8)).map (·.1)).sum=2+mix a 2 % 2+((List.range (m - 1).toNat).map λ(k:Nat)=>1+mix a (2+(1+(k:Int))) % 3).sum:=by
   rw[List.map_cons,List.sum_cons,List.map_map];rfl
  refine⟨⟨by rw[hlen];lia,by rw[hlen];lia,λp hp=>?_,?_,?_⟩,?_,?_⟩
  ·have:=s_ p hp;lia
  ·rw[hs];lia
  ·rw[hs];lia
  ·have hb:=(Ad (m:=8) (by decide) _ λp hp=>(s_ p hp).2.2).2
   rw[hlen] at hb;have:=Ry (m:=8) (by decide) (show m.toNat<=5 by lia)
   have e:(8:Int) ^ 5=32768:=by decide
   lia
  ·rw[hs];lia
theorem acZ{z:List (Int×Int)}(h:ZL z)(c:Int):1<=qY z c/\qY z c<=1000000000/\∀p∈z,qY z c % p.2=0:=by
 have hb:=Ad (m:=60) (by decide) z λp hp=>(h.ok.r p hp).2.2
 have hp:=h.pr;refine⟨?_,?_,λp hp=>Int.emod_eq_zero_of_dvd (Int.dvd_trans (Rx hp) (Int.dvd_mul_right _ _))⟩
 all_goals
  unfold qY;generalize hm:(if mix c 0 % 9=0 then 1000000000 / fQ z else 900)=m
  have Ho:1<=m/\fQ z*m<=1000000000:=by
   rw[← hm];split
   ·constructor
    ·exact(Int.le_ediv_iff_mul_le (by lia)).mpr (by lia)
    ·exact Int.mul_ediv_self_le (by lia)
   ·exact⟨by decide,by lia⟩
  have h1:=Int.emod_nonneg (mix c 1) (show m≠0 by lia)
  have h2:=Int.emod_lt_of_pos (mix c 1) (show 0<m by lia)
  generalize mix c 1 % m=x at h1 h2
  first
  | (have:=Int.mul_le_mul hb.1 (show 1<=1+x by lia) (by decide) (by lia);lia)
  | (have:=Int.mul_le_mul (Int.le_refl (fQ z)) (show 1+x<=m by lia) (by lia) (by lia);lia)
noncomputable def ac0(K:PySem.W.Frag):Sp:=λvs H Q _=>∃(a b:Int),vs = [.int a,.int b]/\∀l ts H',aj H H'->H l=none->(∀t∈ts,H t=none)->Zn H' l ts (qX a b)->Q (.ref l) H'
noncomputable def ac1(K:PySem.W.Frag):Sp:=Rt K
noncomputable def ac2(K:PySem.W.Frag):Sp:=λvs H Q _=>∃(a:Addr) (ts:List Addr) (z:List (Int×Int)) (c:Int),vs = [.ref a,.int c]/\Zn H a ts z/\qW z/\Q (.int (qY z c)) H
noncomputable def ac3(K:PySem.W.Frag):Sp:=λvs H Q _=>∃(m c:Int),vs = [.int m,.int c]/\2<=m/\m<=60/\∀l sw H',aj H H'->H l=none->H' l=some (.lst (sw.map V.int))->SwOk sw m->Q (.ref l) H'
theorem ite_no{c A B:Prop}[Decidable c](h:¬ c)(b:B):if c then A else B:=by rw[if_neg h];exact b
theorem ite_yes{c A B:Prop}[Decidable c](h:c)(a:A):if c then A else B:=by rw[if_pos h];exact a
section
variable{X:Cx}{CX:gf}{k:Nat}{f C:Addr}{fd:FuncData}{ps:List Str}{sp:Sp}{cM:List V}{ds:List Value}{E:XK}{x m:Str}{p pos apos:Pos}{e:Expr}{es:List Expr}{t:TA}
end
section
variable{X:Cx}
end
section
variable{X:Cx}{pins:List (Addr×Obj)}{σ:St}{H:Hp}{s:Shared}
end
section
variable{X:Cx}
end
section
variable{K:PySem.W.Frag}{ta:TA}{g:TG}{D:Ends}{σ:St}{H:Hp}{tt:TT}{te:TE}{nt:Nat}{fv:List Nat}{Q:VK}
end
theorem ac4{X:Cx}{K:PySem.W.Frag}{pos:Pos}{es:List Expr}{k n:Nat}{t:mG}(hK:X.K=K)(hc:X.calm=true)(h:sS X es t)(hn:(assignEach es X.env).length=n:=by rfl)(cG:(assignEach es X.env).findIdx? (·.1)=none:=by rfl):PG X (.Tuple es k pos) (zC K n t):=hK▸jT hc h hn cG
noncomputable def Hq(cs:List Addr)(m:Str)(sp:Sp)(cM:List V)(E:XK)(ta:TE)(t:TA):TE:=λσ H Q=>ta σ H λx H1=>∃C a dx fs,x = .ref a/\H1 a=some (.ins C dx fs)/\C∈cs/\fs.lookup m=none/\t σ H1 λvs H2=>sp (x::(vs++cM)) H2 Q E
section
variable{X:Cx}{CX:gf}{k:Nat}{f:Addr}{cs:List Addr}{fd:FuncData}{ps:List Str}{sp:Sp}{cM:List V}{ds:List Value}{E:XK}{m:Str}{pos apos:Pos}{o e:Expr}{es:List Expr}{ta:TE}{t:TA}
theorem mT{pl:Sem Bool}(ho:PE X o ta)(hc:∀C∈cs,bL X.K C/\Meth X.K C m f)(F:aZ X.prog X.w X.K X.mg X.base CX k f fd ps sp)(hr:cK k X.A)(hb:Binds X.K fd ps ds)(hd:Vals cM ds)(hx:Passes CX X E)(ha:PA X (e::es) t)
  (cG:starEach (e::es) X.env=(false,eval e X.env)::starEach es X.env:=by rfl) (gz:(backTo pos (starEach es X.env)).any (·.1)=false:=by rfl)
  (oh:eval (.Call (.Attribute o m apos) (e::es) [] pos) X.env=(do
   let ov ← eval o X.env
   standAt apos.atName
   let (f,first) ← holding [ov] (getMethod ov m pl)
   callWith pos f first (backTo pos (starEach (e::es) X.env)) (backToKw pos (keywordEach [] X.env))):=by rfl):PE X (.Call (.Attribute o m apos) (e::es) [] pos) (Hq cs m sp cM E ta t):=by
 intro pins s σ H Q I h;refine PySem.W.methodCall_KW (pl:=pl) (aP (ho pins s σ H _ I h) λu s1 hz=>?_) oh;obtain⟨x,H1,I1,rx,C,a,dx,fs,ex,ea,hC,hl,q⟩:=hz;subst ex;cases (show u=Value.ref a from rx);obtain⟨c1,c2⟩:=hc C hC;refine pF I1 ea c1 c2 hl (PySem.W.callWith_K (first:=[.ref a]) (h₀:=X.base) I.ok.mod.mC c2.kp (aP (ha pos pins s1 σ H1 _ I1 q) λus s2 hw=>?_) cG gz)
 obtain⟨vs,H2,I2,r,q2⟩:=hw;exact⟨I2.cY,nQ (us:=.ref a::us) (vs:=.ref a::vs) F hr hb hd hx I2 (.cons rfl r) q2⟩
theorem tQ{pl:Sem Bool}(ho:PE X o ta)(hc:∀C∈cs,bL X.K C/\Meth X.K C m f)(F:aZ X.prog X.w X.K X.mg X.base CX k f fd ps sp)(hr:cK k X.A)(hb:Binds X.K fd ps ds)(hd:Vals cM ds)(hx:Passes CX X E)
  (oh:eval (.Call (.Attribute o m apos) [] [] pos) X.env=(do
   let ov ← eval o X.env
   standAt apos.atName
   let (f,first) ← holding [ov] (getMethod ov m pl)
   callWith pos f first (backTo pos (starEach [] X.env)) (backToKw pos (keywordEach [] X.env))):=by rfl):PE X (.Call (.Attribute o m apos) [] [] pos) (Hq cs m sp cM E ta sZ):=by
 intro pins s σ H Q I h;refine PySem.W.methodCall_KW (pl:=pl) (aP (ho pins s σ H _ I h) λu s1 hz=>?_) oh;obtain⟨x,H1,I1,rx,C,a,dx,fs,ex,ea,hC,hl,q⟩:=hz;subst ex;cases (show u=Value.ref a from rx);obtain⟨c1,c2⟩:=hc C hC;refine pF I1 ea c1 c2 hl (PySem.W.callWith_K0 (first:=[.ref a]) I1.cY c2.kp ?_)
 exact nQ (us:=[.ref a]) (vs:=[.ref a]) F hr hb hd hx I1 (.cons rfl .nil) q
end
theorem ac5{p q:Int×Int}(h:kT p=kT q):p=q:=by
 unfold kT at h;simp only[List.cons.injEq,Sum.inl.injEq,and_true] at h;exact Prod.ext h.1 h.2
theorem RA:∀(z:List (Int×Int)) (i:Nat) (acc:List (List Key×V)) (q:Int×Int),z.Nodup->(∀j:Nat,z[j]? = some q->cL (iy i z acc) (kT q)=some (.int ((i+j:Nat):Int)))/\(q∉z->cL (iy i z acc) (kT q)=cL acc (kT q))
 | [],i,acc,q,_=>⟨λj h=>by simp at h,λ_=>rfl⟩
 | x::z,i,acc,q,nd=>by
  obtain⟨hx,nd⟩:=List.nodup_cons.mp nd;have ih:=RA z (i+1) (putK acc (kT x) (.int i)) q nd;constructor
  ·intro j h;rw[iy];cases j with
   | zero =>
    simp at h;subst h;rw[ih.2 hx,zS,if_pos rfl];rfl
   | succ j =>
    rw[ih.1 j (by simpa using h)]
    congr 2;lia
  ·intro h;rw[iy,ih.2 λz=>h (List.mem_cons_of_mem _ z),zS,if_neg];intro e;exact h (ac5 e▸List.mem_cons_self)
theorem ac6{z:List (Int×Int)}(nd:z.Nodup){j:Nat}{q:Int×Int}(h:z[j]? = some q):cL (tO z) (kT q)=some (.int (j:Int)):=by
 have:=(RA z 0 [] q nd).1 j h;rwa [Nat.zero_add] at this
theorem RB{s:Int}:∀ {rc:List Int} {r:Nat} {q:Int×Int},q∈e7 s r rc↔∃j:Nat,j<rc.length/\q.1=((r+j:Nat):Int)/\0<=q.2/\q.2<rc.getD j 0 - s
 | [],r,q=>by simp[e7]
 | c::rc,r,q=>by
  rw[e7,List.mem_append,RB (rc:=rc) (r:=r+1)];constructor
  ·rintro(h | ⟨j,h1,h2,h3,h4⟩)
   ·obtain⟨k,hk,rfl⟩:=List.mem_map.mp h;rw[List.mem_range] at hk;exact⟨0,by simp,by simp,by dsimp only;lia,by simp only[List.getD_cons_zero];lia⟩
   ·exact⟨j+1,by simpa using h1,by rw[h2];congr 1;lia,h3,by simpa using h4⟩
  ·rintro⟨j,h1,h2,h3,h4⟩;cases j with
   | zero =>
    left;refine List.mem_map.mpr ⟨q.2.toNat,List.mem_range.mpr ?_,?_⟩
    ·simp only[List.getD_cons_zero] at h4;lia
    ·refine Prod.ext ?_ ?_
     ·rw[h2];simp
     ·dsimp only;lia
   | succ j =>
    right;exact⟨j,by simpa using h1,by rw[h2];congr 1;lia,h3,by simpa using h4⟩
theorem RD{s:Int}:∀(rc:List Int) (r:Nat),(e7 s r rc).Nodup
 | [],r=>List.nodup_nil
 | c::rc,r=>by
  rw[e7,List.nodup_append];refine⟨?_,RD rc (r+1),?_⟩
  ·rw[List.nodup_iff_pairwise_ne,List.pairwise_map];refine List.Pairwise.imp ?_ (List.nodup_iff_pairwise_ne.mp List.nodup_range);intro a b h e;simp at e;lia
  ·intro x hx y hy e;subst e;obtain⟨k,_,rfl⟩:=List.mem_map.mp hx;obtain⟨j,_,h2,_⟩:=RB.mp hy;simp at h2;lia
section
variable{K:PySem.W.Frag}{C:Addr}{H H':Hp}{p:Addr}{P:Pl}{fp:List Addr}{mv:Addr}{ms:List V}
end
structure Zt(H:Hp)(a:Addr)(ts:List Addr)(z:List (List Int)):Prop where
 l:H a=some (.lst (ts.map V.ref))
 n:ts.length=z.length
 t:∀(i:Nat) (t:Addr) (r:List Int),ts[i]? = some t->z[i]? = some r->H t=some (.tup (r.map V.int))
section
variable{H H':Hp}{a:Addr}{ts:List Addr}{z:List (List Int)}
theorem Zt.same(h:Zt H a ts z)(e:aj H H'):Zt H' a ts z:=⟨e _ _ h.l,h.n,λi t p h1 h2=>e _ _ (h.t i t p h1 h2)⟩
theorem Zt.at(h:Zt H a ts z){i:Nat}(hi:i<z.length):∃t,(ts.map V.ref)[i]? = some (.ref t)/\H t=some (.tup ((z.getD i []).map V.int)):=by
 have ht:i<ts.length:=by rw[h.n];exact hi
 refine⟨ts[i],by simp[ht],h.t i _ _ (List.getElem?_eq_getElem ht) ?_⟩
 simp[List.getD_eq_getElem?_getD,List.getElem?_eq_getElem hi]
theorem Zt.start{l:Addr}:Zt (upd H l (.lst [])) l [] []:=⟨aH,rfl,λi t r e=>by simp at e⟩
theorem Zt.snoc{l p:Addr}(h:Zt H l ts z)(hp:H p=none)(r:List Int):Zt (upd (upd H p (.tup (r.map V.int))) l (.lst (ts.map V.ref++[V.ref p]))) l (ts++[p]) (z++[r]):=by
 have kD:l≠p:=cO h.l hp;refine⟨by rw[aH,List.map_append];rfl,by simp[h.n],λi t q e1 e2=>?_⟩
 have hn:=h.n;by_cases hi:i<ts.length
 ·rw[List.getElem?_append_left hi] at e1;rw[List.getElem?_append_left (by lia)] at e2
  have ht:=h.t i t q e1 e2;rw[aI (sE ht h.l (by intro z;cases z)),aI (cO ht hp)]
  exact ht
 ·rw[List.getElem?_append_right (by lia)] at e1
  rw[List.getElem?_append_right (by lia)] at e2
  have gC:i - ts.length=0:=by
   have:=Rp e1;simp at this;lia
  rw[gC] at e1;rw[← hn,gC] at e2;simp at e1 e2;subst e1 e2;rw[aI kD.symm,aH]
theorem Zn.start{l:Addr}:Zn (upd H l (.lst [])) l [] []:=⟨aH,rfl,λi t r e=>by simp at e⟩
end
section
variable{ta:TA}{g:TG}{tt:TT}{te:TE}{nt:Nat}{fv:List Nat}{Q:VK}{σ:St}{H:Hp}
theorem Hs(n:Int)(Pv:Addr->Nat->List V->St->Hp->Prop)(cT:∀Q:List V->Hp->Prop,Q [.int n] H->ta σ H Q)(b1 : -1000000000000<n)(b2:n<1000000000000)
  (h0:∀D,H D=none->Pv D 0 [] (jY σ nt fv) (upd H D (.lst []))) (hD:∀D i ys σ H,Pv D i ys σ H->H D=some (.lst ys)/\ys.length<sizeLine)
  (hs:∀D i ys az H2 (N:List V->St->Hp->Prop),(∀ys σ H,Pv D (i+1) ys σ H->N ys σ H)->i<n.toNat->Pv D i ys az H2->g (.int (i:Int)) az H2 λcg H4=>tt cg H4 λb H5=>if b=true then te cg H5 λv H6=>H6 D=some (.lst ys)/\N (ys++[v]) cg (upd H6 D (.lst (ys++[v]))) else N ys cg H5)
  (hd:∀D ys az H2,Pv D n.toNat ys az H2->Q (.ref D) H2):iR (vD ta) g tt te nt fv σ H Q:=by
 refine cT _ ⟨n,rfl,by lia,by lia,λD gK=>?_⟩
 refine⟨λi m ys az H2=>m=n.toNat - i/\i<=n.toNat/\Pv D i ys az H2,⟨_,rfl,Nat.zero_le _,h0 D gK⟩,?_⟩;rintro i m ys az H2 ⟨rfl,iT,p⟩;obtain⟨d1,d2⟩:=hD D i ys az H2 p;refine⟨d1,d2,?_⟩;by_cases bW:i<n.toNat
 ·refine .inr ⟨bW,λx H3 y=>?_⟩;obtain⟨e1,e2⟩:=y;subst e1 e2;have e2:(0:Int)+(i:Int)=i:=by lia
  rw[e2];exact hs D i ys az _ _ (λ_ _ _ z=>NX.of bW z) bW p
 ·have e:i=n.toNat:=by lia
  subst e;exact .inl ⟨Nat.le_refl _,hd D ys az H2 p⟩
end
structure g_(P:Pl):Prop where
 n2:2<=P.rc.length
 n1:P.rc.length<=1000
 c:∀i:Nat,i<P.rc.length->1<=P.rc.getD i 0/\P.rc.getD i 0<=1000
 aJ:1<=P.aJ
 sw:SwOk P.sw P.rc.length
noncomputable def wg(P:Pl)(r c:Int):Int:=(c*(P.aJ / P.rc.getD r.toNat 0)+r*P.dX) % P.aJ
noncomputable def wj(P:Pl)(r c b:Int):Int:=b+(wg P r c - b) % P.aJ
noncomputable def iV(P:Pl)(s q:Int×Int):Int:=wj P q.1 q.2 (s.2+P.sw.getD (s.1 - q.1).natAbs 0)
noncomputable def jH(P:Pl)(s q:Int×Int):Int×Int:=(q.1,iV P s q+P.aJ / P.rc.getD q.1.toNat 0)
noncomputable def Ae(P:Pl)(s q:Int×Int):List Int:=[q.1,q.2,iV P s q,(jH P s q).2]
noncomputable def cE(P:Pl):Int×Int->List (Int×Int)->Int×Int
 | s,[]=>s
 | s,q::r=>cE P (jH P s q) r
noncomputable def gU(P:Pl):Int×Int->List (Int×Int)->List (List Int)
 | _,[]=>[]
 | s,q::r=>Ae P s q::gU P (jH P s q) r
theorem Ht(P:Pl)(q:Int×Int):∀(xs:List (Int×Int)) (s:Int×Int),cE P s (xs++[q])=jH P (cE P s xs) q
 | [],s=>rfl
 | x::xs,s=>Ht P q xs (jH P s x)
theorem Hu(P:Pl)(q:Int×Int):∀(xs:List (Int×Int)) (s:Int×Int),gU P s (xs++[q])=gU P s xs++[Ae P (cE P s xs) q]
 | [],s=>rfl
 | x::xs,s=>by rw[List.cons_append,gU,Hu P q xs,gU];rfl
theorem wm(P:Pl):∀(xs:List (Int×Int)) (s:Int×Int),(gU P s xs).length=xs.length
 | [],s=>rfl
 | x::xs,s=>by rw[gU,List.length_cons,wm P xs,List.length_cons]
theorem Hv(P:Pl):∀(xs:List (Int×Int)) (s:Int×Int) (r:List Int),r∈gU P s xs->r.length=4
 | [],s,r,h=>by cases h
 | x::xs,s,r,h=>by
  rcases List.mem_cons.mp h with rfl | hr
  ·rfl
  ·exact Hv P xs _ r hr
theorem Hw(P:Pl){n:Int}:∀(xs:List (Int×Int)) (s:Int×Int),0<=s.1->s.1<n->(∀q∈xs,0<=q.1/\q.1<n)->0<=(cE P s xs).1/\(cE P s xs).1<n
 | [],s,h0,h1,_=>⟨h0,h1⟩
 | x::xs,s,h0,h1,h=>Hw P xs (jH P s x) (h x List.mem_cons_self).1 (h x List.mem_cons_self).2 λq hq=>h q (List.mem_cons_of_mem _ hq)
noncomputable def h_(P:Pl)(z:List (Int×Int)):Prop:=∀q∈z,0<=q.1/\q.1<P.rc.length/\0<=q.2/\q.2<=1000
noncomputable def ac7(K:PySem.W.Frag)(cs:List Addr):Sp:=λvs H Q _=>∃(C p:Addr) (P:Pl) (fp:List Addr) (r c b:Int),vs = [.ref p,.int r,.int c,.int b]/\C∈cs/\bZ K C H p P fp/\g_ P/\0<=r/\r<P.rc.length/\0<=c/\c<=1000/\Q (.int (wj P r c b)) H
noncomputable def ac8(K:PySem.W.Frag)(cs:List Addr):Sp:=λvs H Q _=>∃(C p:Addr) (P:Pl) (fp:List Addr) (r b:Int) (ca:Addr) (Af:List Addr) (cz:List (Int×Int)),vs = [.ref p,.int r,.int b,.ref ca]/\C∈cs/\bZ K C H p P fp/\g_ P/\0<=r/\r<P.rc.length/\
 Zn H ca Af cz/\h_ P cz/\cz.length<=1000/\∀l ts H',aj H H'->H l=none->(∀t∈ts,H t=none)->Zt H' l ts (gU P (r,b) cz)->Q (.ref l) H'
theorem ac9{z:List (Int×Int)}(zl:ZL z){aJ sk:Int}{sw:List Int}{nc:List (Int×Int)}(l1:1<=aJ)(so:SwOk sw (z.map (·.1)).sum):g_ ⟨counts z,aJ,sk,sw,nc⟩:=by
 have cl:=n8 z λp hp=>(zl.ok.r p hp).1;have Hy:=zl.sm;have c2:=zl.ok.s2;refine⟨by dsimp only;lia,by dsimp only;lia,λi hi=>?_,l1,by dsimp only;rw[cl];exact so⟩
 obtain⟨y,hy,e⟩:=n_ (get_mem (pL (counts z) hi));have:=zl.ok.r y hy;dsimp only;lia
section
variable{α:Type}{lt:α->α->Prop}
noncomputable def par(i:Nat):Nat:=(i - 1) / 2
noncomputable def put(f:Nat->α)(k:Nat)(x:α):Nat->α:=λi=>if i=k then x else f i
end
theorem Ag:∀a:List Int,¬ _H.lexLt a a=true
 | []=>by simp[_H.lexLt]
 | x::a=>by simpa[_H.lexLt] using Ag a
theorem Hz:∀a b c:List Int,_H.lexLt a b=true->_H.lexLt b c=true->_H.lexLt a c=true
 | [],b,[],h1,h2=>by cases b <;> simp[_H.lexLt] at h1 h2
 | [],b,z::c,h1,h2=>by simp[_H.lexLt]
 | x::a,[],c,h1,h2=>by simp[_H.lexLt] at h1
 | x::a,y::b,[],h1,h2=>by simp[_H.lexLt] at h2
 | x::a,y::b,z::c,h1,h2=>by
  simp only[_H.lexLt] at h1 h2 ⊢;by_cases e1:x=y
  ·rw[if_pos e1] at h1;by_cases e2:y=z
   ·rw[if_pos e2] at h2;rw[if_pos (by lia)];exact Hz a b c h1 h2
   ·rw[if_neg e2] at h2;simp at h2;rw[if_neg (by lia)];simp;lia
  ·rw[if_neg e1] at h1;simp at h1;by_cases e2:y=z
   ·rw[if_neg (by lia)];simp;lia
   ·rw[if_neg e2] at h2;simp at h2;rw[if_neg (by lia)];simp;lia
theorem RE:∀a b:List Int,_H.lexLt a b=true\/a=b\/_H.lexLt b a=true
 | [],[]=>.inr (.inl rfl)
 | [],_::_=>.inl rfl
 | _::_,[]=>.inr (.inr rfl)
 | x::a,y::b=>by
  simp only[_H.lexLt,List.cons.injEq];by_cases e:x=y
  ·subst e;simpa using RE a b
  ·rw[if_neg e,if_neg (λz=>e z.symm)];simp;lia
noncomputable abbrev Th:=Int×List Int×Int
noncomputable def wu(a b:Th):Prop:=a.1<b.1\/(a.1=b.1/\(_H.lexLt a.2.1 b.2.1=true\/(a.2.1=b.2.1/\a.2.2<b.2.2)))
section
open PySem.SeqAt PySem.MeetsSeq PySem.MeetsSeq2 PySem.MeetsSeq3
open PySem.AutoSeq1 (wpAny_loadPart')
end
section
variable{prog:Program}{w:World}{A:Around}{E:Value->Shared->Prop}{s:Shared}
end
noncomputable instance (a b:Th):Decidable (wu a b):=by unfold wu;infer_instance
section
variable{X:Cx}{pins:List (Addr×Obj)}{σ:St}{H:Hp}{s:Shared}
end
section
variable{X:Cx}
noncomputable abbrev Zs:=List (Addr×Th)
end
noncomputable def RG(a b:Addr×Th):Prop:=wu a.2 b.2
noncomputable instance (a b:Addr×Th):Decidable (RG a b):=by unfold RG;infer_instance
section
variable{H H':Hp}{l a:Addr}{zs ys:Zs}{t:Th}{k:Nat}
end
structure tR(K:PySem.W.Frag)(x qual:Str)(st:Stmt)(f:Addr)(fd:FuncData):Prop where
 ex:∃(oc:Value) (od:Option Addr) (dV kV doc pm:Value) (an:Option Addr) (aU ct:Value) (i_:Array (Option Value)),
  fd=PySem.W.fnOf x qual (fc st) (dJ st) (aN st) dV kV doc pm an aU ct/\K.lookup f=some ⟨oc,od,.func fd,i_⟩/\PySem.W.codeIn K aU qual=true
 kp:PySem.W.keepIn K (.ref f)=true
section
variable{P:Program}{w:World}{K:PySem.W.Frag}{mg:Str->Option Value}{base:Heap}
theorem tR.ok{x qual:Str}{st:Stmt}{f:Addr}{fd:FuncData}{N ps:List Str}{k:Nat}{sp:Sp}(F:tR K x qual st f fd)(S:bz N ps (aN st))(len:∀vs H Q E,sp vs H Q E->vs.length=ps.length)
  (qN:∀(aU:Value) (A:Around) (outer:List Env) (s:Shared) (H:Hp) (vs:List V) (Q:VK) (E:XK),cK k (A.deeper (envOfC qual (aN st) s.heap.objs.size f aU))->sp vs H Q E->
   ∃t,gT (nU bu P w K mg base N qual (aN st) f aU A outer s H E).pq (dJ st) t/\t { nx:=λ_ H'=>Q .aV H',rt:=Q } (start N vs) H):aZ P w K mg base bu (k+1) f fd ps sp:=by
 obtain⟨oc,od,dV,kV,doc,pm,an,aU,ct,i_,rfl,lk,gH⟩:=F.ex;refine Gw lk gH S len λA outer s H vs Q E hr iP=>?_;obtain⟨t,h,q⟩:=qN aU A outer s H vs Q E hr iP;exact⟨t,h.pq,q⟩
theorem HA{x qual:Str}{st:Stmt}{f:Addr}{oc:Value}{od an:Option Addr}{i_:Array (Option Value)}{dV kV doc pm aU ct:Value}(l:K.lookup f=some ⟨oc,od,.func (PySem.W.fnOf x qual (fc st) (dJ st) (aN st) dV kV doc pm an aU ct),i_⟩)
  (c:PySem.W.codeIn K aU qual=true) (k:PySem.W.keepIn K (.ref f)=true):tR K x qual st f (PySem.W.fnOf x qual (fc st) (dJ st) (aN st) dV kV doc pm an aU ct):=⟨⟨oc,od,dV,kV,doc,pm,an,aU,ct,i_,rfl,l,c⟩,k⟩
end
section
variable{X:Cx}
theorem RH{xs:List Bool}{aG:List Value}(r:Vals (xs.map V.bl) aG):aG=xs.map Value.bool:=by
 induction xs generalizing aG with
 | nil=>cases r;rfl
 | cons b xs ih =>
  cases r with
  | cons r1 r2=>cases (show _=Value.bool b from r1);rw[ih r2];rfl
theorem Ah(hc:X.calm=true):iM X (.builtin "any") (λxs H Q=>∃(p:Addr) (bs:List Bool),xs = [.ref p]/\aE X.K H p (bs.map V.bl)/\Q (.bl (bs.any id)) H):=by
 intro pins s σ H xs us Q I r h;obtain⟨p,bs,rfl,hq,q⟩:=h;obtain⟨u,rfl,ru⟩:=vals1 r;cases ru;obtain⟨aG,rv,pl,hz⟩:=I.list hq;have eb:=RH rv;subst eb;have HB:p<s.heap.objs.size:=by obtain⟨_,q1,_⟩:=pl.isList;exact Heap.lt_size q1
 refine call_any_walk (wpAny_pyIter_list pl.isList ?_);refine⟨s.heap.objs.size,[s.heap.objs.size,p],[s.heap.objs.size],(bs.map Value.bool).toArray.size,_,_,λi=>(bs[i]?).getD false,rfl,Walks.list (A:=X.A.in1) (I.ok.hd hc) _ p (Nat.ne_of_lt HB) (bs.map Value.bool).toArray,
  ⟨⟨_,Heap.get?_push_size _ rfl,rfl,rfl⟩,pl.isList.push _⟩,λi v s2 Q2 E2 HC hw=>?_,λh' tk hk=>?_⟩
 ·have HD:(bs.map Value.bool)[i]? = some v:=by simpa using HC
  obtain⟨b,eb,rfl⟩:=fG HD;simp only[eb,Option.getD_some] at hw;exact wpAny_truthy_bool hw
 ·have e:((List.range (bs.map Value.bool).toArray.size).any λi=>(bs[i]?).getD false)=bs.any id:=by
   rw[List.size_toArray,List.length_map];exact LSm.range_any bs
  rw[e];exact⟨.bl (bs.any id),H,I.kept (LSm.kept_iter hk),rfl,q⟩
theorem RI(hc:X.calm=true):iM X (.builtin "all") (λxs H Q=>∃(p:Addr) (bs:List Bool),xs = [.ref p]/\aE X.K H p (bs.map V.bl)/\Q (.bl (bs.all id)) H):=by
 intro pins s σ H xs us Q I r h;obtain⟨p,bs,rfl,hq,q⟩:=h;obtain⟨u,rfl,ru⟩:=vals1 r;cases ru;obtain⟨aG,rv,pl,hz⟩:=I.list hq;have eb:=RH rv;subst eb;have HB:p<s.heap.objs.size:=by obtain⟨_,q1,_⟩:=pl.isList;exact Heap.lt_size q1
 refine call_all_walk (wpAny_pyIter_list pl.isList ?_);refine⟨s.heap.objs.size,[s.heap.objs.size,p],[s.heap.objs.size],(bs.map Value.bool).toArray.size,_,_,λi=>(bs[i]?).getD true,rfl,Walks.list (A:=X.A.in1) (I.ok.hd hc) _ p (Nat.ne_of_lt HB) (bs.map Value.bool).toArray,
  ⟨⟨_,Heap.get?_push_size _ rfl,rfl,rfl⟩,pl.isList.push _⟩,λi v s2 Q2 E2 HC hw=>?_,λh' tk hk=>?_⟩
 ·have HD:(bs.map Value.bool)[i]? = some v:=by simpa using HC
  obtain⟨b,eb,rfl⟩:=fG HD;simp only[eb,Option.getD_some] at hw;exact wpAny_truthy_bool hw
 ·have e:((List.range (bs.map Value.bool).toArray.size).all λi=>(bs[i]?).getD true)=bs.all id:=by
   rw[List.size_toArray,List.length_map];exact LSm.range_all bs
  rw[e];exact⟨.bl (bs.all id),H,I.kept (LSm.kept_iter hk),rfl,q⟩
noncomputable def RJ(ta:TA):TE:=λσ H Q=>ta σ H λvs H1=>∃i j:Int,vs = [.int i,.int j]/\(-1000000000000<i/\i<1000000000000/\-1000000000000<j/\j<1000000000000)/\(j - i).toNat<=1000000/\
 ∀l,H1 l=none->Q (.ref l) (upd H1 l (.lst ((List.range (j - i).toNat).map λ(k:Nat)=>V.int (i+(k:Int)))))
theorem ac_{F:Nat->V}{acc:Array Value}{n:Nat}(h:ItemsOf (λi v=>RelV (F i) v) acc n):Vals ((List.range n).map F) acc.toList:=by
 obtain⟨h1,h2⟩:=h;have:∀(m:Nat) (l:List Value) (k:Nat),l.length=m->(∀j v,l[j]? = some v->RelV (F (k+j)) v)->Vals ((List.range' k m).map F) l:=by
  intro m
  induction m with
  | zero=>intro l k hl _;rw[List.eq_nil_of_length_eq_zero hl];exact .nil
  | succ m ih =>
   intro l k hl hh;cases l with
   | nil=>cases hl
   | cons v l =>
    rw[List.range'_succ,List.map_cons];refine .cons (hh 0 v rfl) (ih l (k+1) (by simpa using hl) λj w hj=>?_)
    have:=hh (j+1) w (by simpa using hj)
    rwa [show k+(j+1)=k+1+j by lia] at this
 have e:=this n acc.toList 0 (by simpa using h1) λj v hj=>by rw[Nat.zero_add];exact h2 j v (by simpa using hj)
 rwa [← List.range_eq_range'] at e
theorem ada{a b:Expr}{ta:TA}{p p0 pos adb:Pos}(hgL:Gl X "list")(hmL:X.mg "list" = none)(hg:Gl X "range")(hm:X.mg "range" = none)(hc:X.calm=true)(ha:PA X [a,b] ta)
  (hs:starEach [a,b] X.env = [(false,eval a X.env),(false,eval b X.env)]:=by rfl) (iL:starEach [b] X.env = [(false,eval b X.env)]:=by rfl)
  (kE:starEach [.Call (.Name "range" p) [a,b] [] pos] X.env = [(false,eval (.Call (.Name "range" p) [a,b] [] pos) X.env)]:=by rfl) :
  PE X (.Call (.Name "list" p0) [.Call (.Name "range" p) [a,b] [] pos] [] adb) (RJ ta):=by
 intro pins s σ H Q I h;refine Call_ (kX I hgL hmL boot_list (PyProof.Rows.callWith_type1 ?_ kE rfl));rw[kE];refine Calls.spliced_cons ?_;refine Call_ (kX I hg hm boot_range (PyProof.Rows.callWith_type1 (aP (ha pos pins s σ H _ I h) λus s1 ⟨vs,H1,I1,r1,q1⟩=>?_) (by rw[hs,iL]) (by rw[iL];rfl)))
 obtain⟨i,j,e,⟨b1,b2,b3,b4⟩,hn,q⟩:=q1;subst e;obtain⟨u,v,rfl,ru,rv⟩:=vals2 r1;obtain⟨t,rfl⟩:=ru;obtain⟨t',rfl⟩:=rv;refine call_range_2 ?_;refine Calls.spliced_nil ?_;have hr:=IsRange.new s1.heap i j 1 t t' s1.toks;have en:Builtin.Range.rangeSize i j 1=(((j - i).toNat:Nat):Int):=by rw[rangeSize_one];split <;> lia
 refine call_list_range (I.ok.hd hc) hr (small_one (by lia) (by lia) (by lia) (by lia)) en (by lia) λh' tk acc c hk hS tK=>?_
 have k2:∀b o,s1.heap.get? b=some o->h'.get? b=some o:=λb o e=>hk b o (Heap.get?_push_of_some _ e);have sz:(s1.heap.push { cls:=.type "range",data:=.fields #[.int i t,.int j t',.int 1 s1.toks] }).objs.size=s1.heap.objs.size+1:=by simp[Heap.push]
 rw[sz] at hS ⊢;have vl:Vals ((List.range (j - i).toNat).map λ(k:Nat)=>V.int (i+(k:Int))) acc.toList:=ac_ (F:=λ(k:Nat)=>V.int (i+(k:Int))) ⟨tK.1,λj' v hj=>by
  obtain⟨t,e⟩:=tK.2 j' v hj;exact⟨t,by rw[e];congr 1;lia⟩⟩
 refine⟨.ref (s1.heap.objs.size+1),upd H1 (s1.heap.objs.size+1) (.lst ((List.range (j - i).toNat).map λ(k:Nat)=>V.int (i+(k:Int)))),I1.laid k2 (Nat.le_succ _) ?_,rfl,q _ (I1.aO.fresh (Nat.le_succ _))⟩;refine⟨by rw[List.length_map,List.length_range,pK];lia,acc.toList,c,vl,by simpa using hS⟩
end
section
variable{X:Cx}
end
structure Ak where
 kind:Str
 first:Int
 many:Int
 marks:List Int
 at_:Int
 mU:Int
 iA:Option Int
 behind:List Int
 early:Bool
noncomputable def lM:Option Int->V
 | none=>.aV
 | some i=>.int i
noncomputable def fZ(q:Ak)(m b:Addr):List (Str×V):=[("kind",.str q.kind),("first",.int q.first),("many",.int q.many),("marks",.ref m),("at",.int q.at_),("asker",.int q.mU),("latest",lM q.iA),("behind",.ref b),("early",.bl q.early)]
structure eK(K:PySem.W.Frag)(C:Addr)(H:Hp)(p:Addr)(q:Ak)(m b dx:Addr):Prop where
 o:H p=some (.ins C dx (fZ q m b))
 ms:H m=some (.tup (q.marks.map V.int))
 bh:H b=some (.tup (q.behind.map V.int))
theorem eK.same{K:PySem.W.Frag}{C:Addr}{H H':Hp}{p:Addr}{q:Ak}{m b dx:Addr}(h:eK K C H p q m b dx)(s:aj H H'):eK K C H' p q m b dx:=⟨s _ _ h.o,s _ _ h.ms,s _ _ h.bh⟩
theorem ade{K:PySem.W.Frag}{C:Addr}{H H1:Hp}{x dx m b:Addr}{q:Ak}(s:aj H H1)(nx:H1 x=none)(tU:H1 dx=none)(dY:dx≠x)(hm:H1 m=some (.tup (q.marks.map V.int)))(hb:H1 b=some (.tup (q.behind.map V.int))) :
  aj H (upd (upd (upd H1 dx (.own x)) x (.ins C dx [])) x (.ins C dx (fZ q m b)))/\H x=none/\eK K C (upd (upd (upd H1 dx (.own x)) x (.ins C dx [])) x (.ins C dx (fZ q m b))) x q m b dx:=by
 have s1:=aj.put (o:=.own x) tU;have HE:upd H1 dx (.own x) x=none:=by rw[aI (Ne.symm dY)];exact nx
 have s2:aj H1 (upd (upd (upd H1 dx (.own x)) x (.ins C dx [])) x (.ins C dx (fZ q m b))):=aj.put2 (s1.trans (aj.put HE)) nx;exact⟨s.trans s2,s.free nx,⟨aH,s2 _ _ hm,s2 _ _ hb⟩⟩
structure jZ(ns:List Int):Prop where
 up:ns.Pairwise (· < ·)
 lo:∀n∈ns,0<=n
 hi:∀n∈ns,n<=99
theorem jZ.nil:jZ []:=⟨.nil,(λ_ h=>nomatch h),λ_ h=>nomatch h⟩
noncomputable def wz(x:Int)(ns:List Int)(i:Nat):Int:=if i=0 then x else ns.getD (i - 1) 0
theorem jZ.step{ns:List Int}(h:jZ ns){i:Nat}{n:Int}(e:ns[i]? = some n):wz (-1) ns i+1<=n/\n<=99:=by
 refine⟨?_,h.hi n (get_mem e)⟩;unfold wz;split
 ·have:=h.lo n (get_mem e);lia
 ·have hi:=dM e;obtain⟨h1,e1⟩:=List.getElem?_eq_some_iff.mp e;have e2:ns.getD (i - 1) 0=ns[i - 1]:=by simp[List.getD_eq_getElem?_getD,List.getElem?_eq_getElem (show i - 1<ns.length by lia)]
  have:=List.pairwise_iff_getElem.mp h.up (i - 1) i (by lia) h1 (by lia)
  rw[e2];lia
theorem adf{x:Int}{ns:List Int}{i:Nat}{n:Int}(e:ns[i]? = some n):wz x ns (i+1)=n:=by
 simp[wz,List.getD_eq_getElem?_getD,e]
noncomputable def RK(K:PySem.W.Frag)(H:Hp)(v:V)(ns:List Int):Prop:=(v = .aV/\ns = [])\/∃a,v = .ref a/\(aE K H a (ns.map V.int)\/H a=some (.tup (ns.map V.int)))
structure wA(first many at_ mU:Int)(lat:Option Int):Prop where
 f0:0<=first
 f1:first<=1000000
 m0:1<=many
 m1:many<=16
 a0:0<=at_
 a1:at_<=1000000000000
 s0:0<=mU
 s1:mU<=20
 l:∀x,lat=some x->0<=x/\x<=10000000000000
noncomputable def adg:Sp:=λvs H Q _=>∃(n lo hi:Int) (w:Str),vs = [.int n,.int lo,.int hi,.str w]/\lo<=n/\n<=hi/\Q .aV H
noncomputable def adh(K:PySem.W.Frag):Sp:=λvs H Q _=>∃(b:Addr) (ns:List Int),vs = [.ref b]/\bD K H b (ns.map V.int)/\jZ ns/\Q .aV H
noncomputable def adi(K:PySem.W.Frag):Sp:=λvs H Q _=>∃(f m a s:Int) (l:Option Int) (b:Addr) (ns:List Int),vs = [.int f,.int m,.int a,.int s,lM l,.ref b]/\wA f m a s l/\bD K H b (ns.map V.int)/\jZ ns/\Q .aV H
noncomputable def adk(K:PySem.W.Frag):Sp:=λvs H Q _=>∃(v:V) (ns:List Int),vs = [v]/\RK K H v ns/\∀b H',aj H H'->H' b=some (.tup (ns.map V.int))->Q (.ref b) H'
noncomputable def adl(C:Addr):Sp:=λvs H Q _=>∃(p dx:Addr) (v1 v2 v3 v4 v5 v6 v7 v8 v9:V),vs = [.ref p,v1,v2,v3,v4,v5,v6,v7,v8,v9]/\H p=some (.ins C dx [])/\
 Q .aV (upd H p (.ins C dx [("kind",v1),("first",v2),("many",v3),("marks",v4),("at",v5),("asker",v6),("latest",v7),("behind",v8),("early",v9)]))
noncomputable def adm(K:PySem.W.Frag)(C:Addr):Sp:=λvs H Q _=>∃(f m a s:Int) (l:Option Int) (bv:V) (ns:List Int),vs = [.int f,.int m,.int a,.int s,lM l,bv]/\wA f m a s l/\RK K H bv ns/\jZ ns/\
 ∀p mk b dx H',aj H H'->H p=none->eK K C H' p ⟨"read",f,m,[],a,s,l,ns,false⟩ mk b dx->Q (.ref p) H'
noncomputable def tV(x y:Ak):Bool:=decide ((x.kind = "write"\/y.kind = "write")/\x.first<y.first+y.many/\y.first<x.first+x.many)
noncomputable def adn(K:PySem.W.Frag)(C:Addr):Sp:=λvs H Q _=>∃(p r:Addr) (x y:Ak) (m b dx m' b' cZ:Addr),vs = [.ref p,.ref r]/\eK K C H p x m b dx/\eK K C H r y m' b' cZ/\Q (.bl (tV x y)) H
theorem RL(n:Int):∀ms:List Int,pI (.int n) (ms.map V.int)=decide (n∈ms)
 | []=>rfl
 | m::ms=>by
  have ih:=RL n ms;unfold pI at ih ⊢;rw[List.map_cons,List.any_cons,ih,Bool.eq_iff_iff];simp only[lz,Bool.or_eq_true,beq_iff_eq,decide_eq_true_eq,List.mem_cons];constructor
  ·rintro(h | h)
   ·exact .inl h.symm
   ·exact .inr h
  ·rintro(h | h)
   ·exact .inl h.symm
   ·exact .inr h
theorem ado(ms:List Int):(ms.map V.int).all jW=true:=by simp[jW]
theorem adp{X:Cx}{K:PySem.W.Frag}(h:X.K=K):cV X (compareOp .In) (GJ K false):=h▸GK
section
variable{K:PySem.W.Frag}{tl:TE}{g:TG}{tb:TS}{D:Ends}{σ:St}{H:Hp}
theorem rt(a:Addr)(xs:List V)(Pv:Nat->St->Hp->Prop)(jk:∀Q:VK,Q (.ref a) H->tl σ H Q)(gh:bD K H a xs)(h0:Pv 0 σ H)(hl:∀i σ H,i<=xs.length->Pv i σ H->bD K H a xs)
  (hs:∀i x σ H (N:St->Hp->Prop),(∀σ H,Pv (i+1) σ H->N σ H)->xs[i]? = some x->Pv i σ H->g x σ H λaz H2=>tb { D with nx:=N,ct:=N,bk:=D.nx } az H2) (hd:∀σ H,Pv xs.length σ H->D.nx σ H):jU (Gd K tl) g tb D σ H :=
 jk _ ⟨a,rfl,⟨xs,gh⟩,aa1 Pv h0 hl (λi x σ H hx p=>hs i x σ H _ (λ_ _ z=>z) hx p) hd⟩
end
noncomputable def f2(o:Obj):Option Value:=match o.data with
 | .fields vs=>vs[2]?
 | _=>none
noncomputable def adq(h:Heap)(a:Addr)(od:Option Addr):Prop:=∃oe,h.get? a=some oe/\oe.dict=od.map (· / 2)/\(od.getD 0 % 2=0->f2 oe=some .none)
section
variable{M:Model}{A:Around}{E:Value->Shared->Prop}{s:Shared}{base:Heap}{env:Env}{l outer:List Env}{L e:Addr}{cls a0:Value}{od:Option Addr}{Q:Unit->Shared->Prop}
end
structure Cut(base B:Heap)(outer:List Env)(H H':Hp)(h:Heap):Prop where
 stays:base.StaysIn B
 k1:∀b o,h.get? b=some o->H b=none->b∉iI outer->B.get? b=some o
 k2:∀b u,H' b=some u->∃o,B.get? b=some o
 k3:∀b o,h.get? b=some o->b∉iI outer->∃o',B.get? b=some o'
noncomputable def CX1(P:Program)(w:World)(base:Heap):gf:=λouter H s E e s' =>
 ∃a C a0 H' B od,e = .ref a/\s'.os=s.os/\AllBare s'.gens/\Un (iI outer) [] H H' s.heap s'.heap/\c_ P w H' s'.heap/\H' a=none/\s.heap.get? a=none/\
  Cut base B outer H H' s.heap/\Heap.FlyingW B outer a (.ref C) a0 s'.heap/\adq s'.heap a od/\E (.ref C) od H'
section
variable{P:Program}{w:World}{K:PySem.W.Frag}{mg:Str->Option Value}{base B:Heap}{N:List Str}{qual:Str}{scope:Scope}{f:Addr}{cd:Value}{A:Around}{outer:List Env}{dG sc s':Shared}{gR Hc H':Hp}{E:XK}
 {pins:List (Addr×Obj)} {σ:St} {a C:Addr} {a0:Value} {h':Heap} {od:Option Addr}
end
section
variable{X:Cx}{E:XK}{x:Str}{C:Addr}{bm:List Value}{newId amF B:String}{np eZ pos:Pos}{amG:Expr}{rest:List Expr}{t:TA}
end
section
variable{X:Cx}{pins:List (Addr×Obj)}{σ:St}{H H':Hp}{s s':Shared}{a C:Addr}{h':Heap}{E:XK}
end
noncomputable def XP(P:Program)(w:World)(base:Heap)(X:Cx)(pins:List (Addr×Obj))(σ:St)(E:XK)(e:Value)(s':Shared):Prop:=∃H1 s1,Inv X pins σ H1 s1/\CX1 P w base X.stack H1 s1 E e s'
section
variable{X:Cx}{k:Nat}{f C:Addr}{fd:FuncData}{ps:List Str}{sp:Sp}{cM:List V}{ds:List Value}{E:XK}{x m:Str}{p pos apos:Pos}{e o:Expr}{es:List Expr}{ta:TE}{t:TA}
end
section
variable{X:Cx}{E:XK}{e:Expr}{te:TE}{pos:Pos}
end
section
variable{X:Cx}{pins:List (Addr×Obj)}{σ:St}{a C:Addr}{a0:Value}{H1 H':Hp}{s1 s':Shared}{B h':Heap}{od:Option Addr}
end
section
variable{X:Cx}{pins:List (Addr×Obj)}{σ:St}{H:Hp}{s:Shared}
end
noncomputable def mroIn(K:PySem.W.Frag)(C:Addr):List Value:=match K.lookup C with
 | some ⟨_,_,.cls cd,_⟩=>cd.mro
 | _=>[]
noncomputable def HF(K:PySem.W.Frag)(C:Addr)(Ai:List Value)(newId:String):Bool:=match K.lookup C with
 | some ⟨.type "type",_,.cls cd,sl⟩=>(match cd.mro,sl.toList with
  | .ref C'::bm,[_,_,_,_,some (.builtin n),_]=>C' == C && n == newId && !cd.hasDel && PySem.W.tailIn K Ai bm && PySem.W.nsOkIn K cd.ns
  | _,_=>false)
 | _=>false
theorem ads{K:PySem.W.Frag}{C:Addr}{Ai:List Value}{newId:String}(q:PySem.W.excIn K C Ai newId=true):HF K C Ai newId=true:=by
 unfold PySem.W.excIn at q;unfold HF;cases e:K.lookup C with
 | none=>rw[e] at q;cases q
 | some o =>
  rw[e] at q;split at q
  ·rename_i dd cd sl ho;cases ho;split at q
   ·rename_i C' bm k0 k1 k2 k3 n k5 hm hs;simp only[Bool.and_eq_true] at q;simp only[hm,hs,Bool.and_eq_true];exact q.1
   ·cases q
  ·cases q
structure RM(K:PySem.W.Frag)(C:Addr):Prop where
 ex:∃bm id,HF K C bm id=true/\bm.contains (.type "BaseException")=true
theorem RM.of{K:PySem.W.Frag}{C:Addr}{bm:List Value}{id:String}(q:PySem.W.excIn K C bm id=true)(h:bm.contains (.type "BaseException")=true):RM K C:=⟨bm,id,ads q,h⟩
end _L
namespace _L
open PySem PySem.Spec PyProof.Rows PySem.W PySem.Builtin.ObjectAttr PySem.Builtin.Getset_descriptor
section
variable{prog:Program}{w:World}{A:Around}{E:Value->Shared->Prop}{s:Shared}{K:Frag}{x D:Addr}{ox:Obj}{name:Str}
end
section
variable{X:Cx}
end
end _L
namespace _L
open PySem PySem.Spec PyProof.Rows PySem.W
section
variable(key:Nat->Int)
noncomputable def kk(p:Array Nat)(i:Nat):Int:=key (p.getD i 0)
variable{key}{p:Array Nat}
end
section
variable{prog:Program}{w:World}{A:Around}{E:Value->Shared->Prop}{s:Shared}
end
section
variable{n:Nat}{p q:Array Nat}
end
end _L
namespace _L
open PySem PySem.Spec PyProof.Rows
theorem HG{a b:String}(h:a≠b):(a:Str)≠(b:Str):=λe=>h (by rw[Hh] at e;exact e)
theorem adt{X:Cx}{st:Stmt}{h₀:ExceptHandler}{hs:List ExceptHandler}{pos:Pos}{t:TS}(hx:X.xe=λ_ _=>False)(hb:PS X st t):PS X (.Try [st] (h₀::hs) [] [] pos) t:=by
 intro pins s σ H D I h;refine wpAny_Try_except (wpAny_execs_cons (wpAny_mono (hb pins s σ H D I h) (λf s1 q=>?_) λe s' z=>?_))
 ·cases f with
  | next=>exact wpAny_execs_nil (wpAny_execs_nil q)
  | ret v=>exact q
  | brk=>exact q
  | cont=>exact q
 ·rw[hx] at z;exact False.elim z
theorem j3{X:Cx}{K:PySem.W.Frag}{e:Expr}{f:Str}{pos:Pos}{ta:TE}(h:X.K=K)(he:PE X e ta)(hb:attributeBase e f X.env (eval e X.env)=eval e X.env):PE X (.Attribute e f pos) (Gr K ta f):=h▸dI he hb
structure cj(K:PySem.W.Frag)(C:Addr)(H:Hp)(l:Addr)(ps:List Addr)(qs:List Ak):Prop where
 l:H l=some (.lst (ps.map V.ref))
 n:ps.length=qs.length
 t:∀(i:Nat) (p:Addr) (q:Ak),ps[i]? = some p->qs[i]? = some q->∃m b dx,eK K C H p q m b dx
section
variable{K:PySem.W.Frag}{C:Addr}{H H':Hp}{l:Addr}{ps:List Addr}{qs:List Ak}
theorem cj.same(h:cj K C H l ps qs)(s:aj H H'):cj K C H' l ps qs:=⟨s _ _ h.l,h.n,λi p q e1 e2=>let ⟨m,b,dx,z⟩:=h.t i p q e1 e2;⟨m,b,dx,z.same s⟩⟩
theorem cj.at(h:cj K C H l ps qs){i:Nat}{q:Ak}(e:qs[i]? = some q):∃p m b dx,(ps.map V.ref)[i]? = some (.ref p)/\eK K C H p q m b dx:=by
 have hi:i<ps.length:=by rw[h.n];exact(List.getElem?_eq_some_iff.mp e).1
 obtain⟨m,b,dx,z⟩:=h.t i ps[i] q (List.getElem?_eq_getElem hi) e;exact⟨ps[i],m,b,dx,by rw[List.getElem?_map,List.getElem?_eq_getElem hi];rfl,z⟩
theorem Zt.adu{H:Hp}{l p:Addr}{ts:List Addr}{z:List (List Int)}(h:Zt H l ts z){r:List Int}(hp:H p=some (.tup (r.map V.int))):Zt (upd H l (.lst (ts.map V.ref++[V.ref p]))) l (ts++[p]) (z++[r]):=by
 have ne:∀ {t:Addr} {xs:List V},H t=some (.tup xs)->t≠l:=λe q=>by rw[q,h.l] at e;cases e
 refine⟨by rw[aH,List.map_append];rfl,by simp[h.n],λi t x e1 e2=>?_⟩
 by_cases hi:i<ts.length
 ·rw[List.getElem?_append_left hi] at e1;rw[List.getElem?_append_left (by rw[← h.n];exact hi)] at e2
  have:=h.t i t x e1 e2;rw[aI (ne this)];exact this
 ·rw[List.getElem?_append_right (by lia)] at e1
  rw[List.getElem?_append_right (by rw[← h.n];lia),← h.n] at e2
  have hj:i - ts.length=0:=by
   have:=(List.getElem?_eq_some_iff.mp e1).1;simp at this;lia
  rw[hj] at e1 e2;cases e1;cases e2;rw[aI (ne hp)];exact hp
structure Aj(T:Int)(q:Ak):Prop where
 f0:0<=q.first
 m0:0<=q.many
 m1:q.many<=16
 fit:q.first+q.many<=T
noncomputable def adv(K:PySem.W.Frag)(CA:Addr):Sp:=λvs H Q _=>∃(la:Addr) (ps:List Addr) (qs:List Ak) (k:Nat) (q:Ak),vs = [.ref la,.int (k:Int)]/\cj K CA H la ps qs/\qs[k]? = some q/\(∀q0,0<k->qs[k - 1]? = some q0->q0.at_<=q.at_)/\Q .aV H
noncomputable def adw(K:PySem.W.Frag)(CA:Addr):Sp:=λvs H Q _=>∃(la:Addr) (ps:List Addr) (qs:List Ak) (k:Nat) (q:Ak),vs = [.ref la,.int (k:Int)]/\cj K CA H la ps qs/\qs[k]? = some q/\q.behind.length<=1000/\(∀n∈q.behind,∃(j:Nat) (q0:Ak),n=(j:Int)/\j<k/\qs[j]? = some q0/\q0.kind≠"rest")/\Q .aV H
noncomputable def Al(qs:List Ak)(k:Nat):List Int:=((List.range k).filter λ(j:Nat)=>match qs[k]?,qs[j]? with
 | some q,some q0=>decide ((j:Int)∈q.behind) || tV q q0
 | _,_=>false).map λ(j:Nat)=>(j:Int)
noncomputable def adx(K:PySem.W.Frag)(CA:Addr):Sp:=λvs H Q _=>∃(la:Addr) (ps:List Addr) (qs:List Ak) (k:Nat) (q:Ak),vs = [.ref la,.int (k:Int)]/\cj K CA H la ps qs/\qs[k]? = some q/\qs.length<=100/\q.behind.length<=1000/\
 ∀t H',aj H H'->H t=none->H' t=some (.tup ((Al qs k).map V.int))->Q (.ref t) H'
structure tW(T:Int)(qs:List Ak):Prop where
 n:qs.length<=100
 fit:∀(i:Nat) (q:Ak),qs[i]? = some q->Aj T q/\q.behind.length<=1000
 up:∀(i:Nat) (q q':Ak),qs[i]? = some q->qs[i+1]? = some q'->q.at_<=q'.at_
 bh:∀(k:Nat) (q:Ak),qs[k]? = some q->∀n∈q.behind,∃(j:Nat) (q0:Ak),n=(j:Int)/\j<k/\qs[j]? = some q0/\q0.kind≠"rest"
noncomputable def jI(qs:List Ak)(n:Nat):List (List Int):=(List.range n).map (Al qs)
noncomputable def ady(K:PySem.W.Frag)(cs:List Addr)(CA:Addr):Sp:=λvs H Q _=>∃(C p la:Addr) (P:Pl) (fp ps:List Addr) (qs:List Ak),vs = [.ref p,.ref la]/\C∈cs/\bZ K C H p P fp/\P.nc.length<=1000000/\cj K CA H la ps qs/\tW P.nc.length qs/\
 ∀l ts H',aj H H'->H l=none->(∀t∈ts,H t=none)->Zt H' l ts (jI qs qs.length)->Q (.ref l) H'
end
noncomputable abbrev HJ(qual:Str)(scope:Scope)(L f c':Addr)(cl:List (Str×Addr)):Env:=PySem.W.envX qual scope L f (.ref c') cl
noncomputable def wB(X:Cx)(A:Around)(qual:Str)(scope:Scope)(f c':Addr)(cl:List (Str×Addr))(N:List Str)(s:Shared)(H:Hp):Cx where
 prog:=X.prog
 w:=X.w
 K:=X.K
 mg:=X.mg
 base:=X.base
 A:=A.deeper (HJ qual scope s.heap.objs.size f c' cl)
 N:=N
 dG:=s
 gR:=H
 env:=HJ qual scope s.heap.objs.size f c' cl
 outer:=X.stack
 stack:=HJ qual scope s.heap.objs.size f c' cl::X.stack
 ex:=[]
 fn:=λ_=>false
 calm:=X.calm
 pn:=[]
 xe:=λ_ _=>False
structure j4(X:Cx)(scope:Scope)(cl:List (Str×Addr))(ps fs:List Str)(fv:List Nat):Prop where
 mR:closureFor scope X.env=pure cl
 kind:scope.kind = .function
 co:scope.isCoroutine=false
 gen:scope.isGenerator=false
 lG:∀y∈scope.names,y.2≠.cell
 par:∀y∈ps,scope.names.lookup y=some .local
 sub:∀p∈cl,X.env.cells.lookup p.1=some p.2
 has:∀y∈scope.names,y.2 = .free->∃c,cl.lookup y.1=some c
 free:fv.map (λj=>X.N[j]?)=fs.map some
 fk:∀y∈fs,scope.names.lookup y=some .free/\X.env.scope.names.lookup y=some .cell
 nd:(ps++fs).Nodup
theorem RN{α:Type}:∀ {l:List (Str×α)} {x:Str} {v:α},(l.map (·.1)).Nodup->(x,v)∈l->l.lookup x=some v
 | (y,u)::r,x,v,nd,hm=>by
  rw[List.map_cons,List.nodup_cons] at nd;rcases List.mem_cons.mp hm with e | e
  ·cases e;simp[List.lookup_cons]
  ·have:x≠y:=λz=>nd.1 (by rw[← z];exact List.mem_map.mpr ⟨_,e,rfl⟩)
   rw[List.lookup_cons,beq_eq_false_iff_ne.mpr this];exact RN nd.2 e
section
variable{X:Cx}{pins:List (Addr×Obj)}{σ:St}{H:Hp}{s:Shared}{scope:Scope}{cl:List (Str×Addr)}{ps fs:List Str}{fv:List Nat}{A:Around}{qual:Str}{f c':Addr}
noncomputable def pO(σ:St)(vs:List V)(fv:List Nat):St:=vs.map some++fv.map λj=>(σ[j]?).getD none
theorem j4.cell(S:j4 X scope cl ps fs fv){x:Str}{c:Addr}(e:cl.lookup x=some c):X.env.cells.lookup x=some c:=S.sub (x,c) (pJ e)
theorem adz{ps:List Str}{us:List Value}{i:Nat}{x:Str}{u:Value}(nd:ps.Nodup)(e1:ps[i]? = some x)(e2:us[i]? = some u):(ps.zip us).reverse.lookup x=some u:=by
 have nd2:((ps.zip us).reverse.map (·.1)).Nodup:=by
  rw[List.map_reverse];refine List.pairwise_reverse.mpr (List.Pairwise.imp Ne.symm (show ((ps.zip us).map (·.1)).Nodup from ?_));have:(ps.zip us).map (·.1)=ps.take us.length:=by
   clear e1 e2 nd
   induction ps generalizing us with
   | nil=>simp
   | cons a r ih=>cases us with
    | nil=>simp
    | cons b q=>simp[ih]
  rw[this];exact nd.sublist (List.take_sublist _ _)
 have hm:(x,u)∈(ps.zip us).reverse:=by
  rw[List.mem_reverse];refine List.mem_of_getElem? (i:=i) ?_;rw[List.getElem?_zip_eq_some];exact⟨e1,e2⟩
 exact RN nd2 hm
theorem j4.inv(S:j4 X scope cl ps fs fv)(I:Inv X pins σ H s)(hA:A.frames=some X.stack)(hd:X.calm=true->A.handled=none){h1:Heap}{tk:Nat}{us:List Value}{vs:List V}(r:Vals vs us)(hl:vs.length=ps.length)
  (old:∀b o,s.heap.get? b=some o->h1.get? b=some o) (lF:h1.Ns s.heap.objs.size λy=>(ps.zip us).reverse.lookup y) :
  Inv (wB X A qual scope f c' cl (ps++fs) s H) [] (pO σ vs fv) H { s with heap:=h1,toks:=tk }:=by
 have I1:Inv X pins σ H { s with heap:=h1,toks:=tk }:=I.kept old;have hlen:fv.length=fs.length:=by simpa using congrArg List.length S.free
 refine⟨⟨I.ok.mod,S.kind,rfl,rfl,Nat.le_refl _,λx y c e1 e2=>I.ok.inj x y c (S.cell e1) (S.cell e2),λx hx=>?_,λx c z _=>?_,hd,Around.frames_deeper hA,.inr ⟨rfl,rfl⟩,λb z=>absurd (show b∈([]:List Addr) from z) (by simp),I.bs,Nat.le_trans I.ok.kg I.sz,
  λb _ _ z=>absurd (show b∈([]:List Addr) from z) (by simp),λb z=>absurd (show b∈([]:List Addr) from z) (by simp),I.stack,I.FN⟩,rfl,I.bare,Un.kept old,⟨_,lF,λi x v e1 e2 e3=>?_⟩,λx c e=>?_,I.aO.fresh (Nat.le_refl _),λx c e=>I.kh x c (S.cell e),
  λp hp=>absurd (show p∈([]:List (Addr×Obj)) from hp) (by simp),I1.aO,?_⟩
 ·have hx:scope.names.lookup x=some .cell\/scope.names.lookup x=some .free:=hx;rcases hx with z | z
  ·exact absurd rfl (S.lG _ (pJ z))
  ·exact S.has _ (pJ z) rfl
 ·cases (show false=true from z)
 ·have e1:(ps++fs)[i]? = some x:=e1;unfold pO at e2;by_cases hi:i<ps.length
  ·rw[List.getElem?_append_left hi] at e1;rw[List.getElem?_append_left (by simp;lia),List.getElem?_map] at e2
   cases hv:vs[i]? with
   | none=>rw[hv] at e2;simp at e2
   | some v' =>
    rw[hv] at e2;simp only[Option.map_some,Option.some.injEq] at e2;subst e2;obtain⟨u,hu,ru⟩:=r.get hv;exact⟨u,ru,.inl ⟨S.par x (List.mem_of_getElem? e1),adz (List.nodup_append.mp S.nd).1 e1 hu⟩⟩
  ·rw[List.getElem?_append_right (by lia)] at e1
   rw[List.getElem?_append_right (by simp;lia)] at e2
   simp only[List.length_map,List.getElem?_map,hl] at e2;cases hj:fv[i - ps.length]? with
   | none=>rw[hj] at e2;simp at e2
   | some j =>
    rw[hj] at e2;simp only[Option.map_some,Option.some.injEq] at e2;have hN:X.N[j]? = some x:=by
     have q:=congrArg (λl=>l[i - ps.length]?) S.free;simp only[List.getElem?_map,hj,Option.map_some] at q;rw[e1] at q;exact(Option.some.inj q)
    have G6:σ[j]? = some (some v):=by
     cases z:σ[j]? with
     | none=>rw[z] at e2;simp at e2
     | some y=>rw[z] at e2;simp at e2;rw[e2]
    obtain⟨f1,f2⟩:=S.fk x (List.mem_of_getElem? e1);obtain⟨m,hn,hlk⟩:=I1.loc;obtain⟨u,ru,lk⟩:=hlk j x v hN G6 (.inr (.inl f2));refine⟨u,ru,?_⟩;rcases lk with⟨k,_⟩ | ⟨_,c,ec,hc⟩
    ·have k:X.env.scope.names.lookup x=some .local:=k;rw[f2] at k;cases k
    ·obtain⟨c2,e'⟩:=S.has _ (pJ f1) rfl;have:=S.cell e';rw[ec] at this;cases this;exact .inr ⟨.inr f1,c,e',hc⟩
 ·obtain⟨v,z⟩:=I1.cell x c (S.cell e);exact⟨v,z⟩
 ·unfold pO
  show _=(ps++fs).length;simp only[List.length_append,List.length_map];lia
theorem RO{name:Str}{params:Arguments}{body:Expr}{te:TE}{pm eL:Value}{us:List Value}{vs:List V}{Q:VK}(S:j4 X scope cl ps fs fv)(I:Inv X pins σ H s)(hA:A.frames=some X.stack)(hd:X.calm=true->A.handled=none)(jJ:A.depth<recursionLimit)
  (ho:s.heap.get? f=some (PySem.W.kla_obj name qual params body scope cl pm c' eL)) (gH:s.heap.CodeRec (.ref c') qual)
  (kB:bindArgs (PySem.W.kla_fn name qual params body scope cl pm (.ref c') eL) ⟨us,[]⟩=pure (ps.zip us)) (r:Vals vs us) (hl:vs.length=ps.length)
  (he:PE (wB X A qual scope f c' cl (ps++fs) s H) body te) (h:te (pO σ vs fv) H Q) :
  wpAny (model X.prog X.w) A (call (.ref f) us) (λu s'=>∃v H',Inv X pins σ H' s'/\RelV v u/\Q v H'/\Un (iI X.stack) [] H H' s.heap s'.heap) (λ_ _=>False) s:=by
 refine wpAny_call (PySem.W.kla_callFunE (A:=A) jJ ho rfl S.co S.gen rfl gH ?_);rw[kB];refine wpAny_pure (wpAny_newFunctionEnv S.lG (λy hy=>S.par _ (List.of_mem_zip hy).1) (λh1 lF RP=>⟨(I.nolimit).fresh _ RP,?_⟩) S.kind);have old:∀b o,s.heap.get? b=some o->h1.get? b=some o:=λb o e=>RP.extBut b o (Nat.ne_of_lt (Heap.lt_size e)) (Heap.get?_push_of_some _ e);have J:=S.inv (qual:=qual) (f:=f) (c':=c') (A:=A) (tk:=s.toks+(ps.zip us).length) I hA hd r hl old lF;refine PySem.W.kla_codeExpr (wpAny_mono (he [] _ _ _ Q J h) (λu s' hq=>?_) λ_ _ z=>False.elim z);obtain⟨v,H',J',rv,q⟩:=hq;exact⟨v,H',I.O4 J'.os J'.base J'.aO J'.bare (λ_ z=>nomatch z),rv,q,J'.base⟩
end
noncomputable def pQ(c':Addr)(qual:Str):HO:=.ext λh=>h.CodeRec (.ref c') qual
noncomputable def bR(P:Addr)(pos:Pos)(qual:Str)(H:Hp):Prop:=∃ps,H P=some (.gb ps)/\TriplesOk ps.toList/\(codeAmong pos ps.toList=none\/∃c',codeAmong pos ps.toList=some (.ref c')/\H c' = some (pQ c' qual))
structure au(mg:Str->Option Value)(base:Heap)(c P:Addr):Prop where
 hd:PySem.W.CodeHd base c P
 bm:∃bm ob,mg "__builtins__" = some (.ref bm)/\bm≠builtinsNs/\base.get? bm=some ob/\ob.cls = .type "module"/\ob.dict=some builtinsNs/\ob.data = .plain
theorem adA{P:Program}{w:World}{H:Hp}{h:Heap}{c':Addr}{qual:Str}(x:h.CodeRec (.ref c') qual):dQ P w H h c' (pQ c' qual):=by
 refine⟨x,?_,λh1 h2 y k=>?_⟩
 ·obtain⟨c,o,vs,t,e,g,_⟩:=x;cases e;exact⟨o,g⟩
 ·obtain⟨c,o,vs,t,e,g,r⟩:=y;cases e;exact⟨c',o,vs,t,rfl,k o g,r⟩
theorem RQ{P:Program}{w:World}{H:Hp}{h:Heap}{c':Addr}{qual:Str}(x:c_ P w H h)(e:H c' = some (pQ c' qual)):h.CodeRec (.ref c') qual:=(x c' _ e).1
theorem RS{a b:Int}{t u:Tok}{c:Value}:∀ {l:List Value},TriplesOk l->TriplesOk (l++[.int a t,.int b u,c])
 | [],_=>trivial
 | .int _ _::.int _ _::_::r,h=>RS (l:=r) h
section
variable{X:Cx}{pins:List (Addr×Obj)}{σ:St}{H:Hp}{s:Shared}{scope:Scope}{cl:List (Str×Addr)}{M:Model}{A:Around}{E:Value->Shared->Prop}{name qual:Str}{params:Arguments}{body:Expr}{pos:Pos}{firstLine:Nat}{c P:Addr}
theorem adB{Q:Value->Shared->Prop}(B:au X.mg X.base c P)(pR:X.env.code = .ref c)(oq:closureFor scope X.env=pure cl)(I:Inv X pins σ H s)(hT:bR P pos qual H)
  (h:∀(f c':Addr) (eL pm:Value) (H':Hp) (s':Shared),Inv X ((f,PySem.W.kla_obj name qual params body scope cl pm c' eL)::pins) σ H' s'->SameBut P H H'->bR P pos qual H'->H' c' = some (pQ c' qual)->Q (.ref f) s') :
  wpAny M A (makeFunction name qual params (.expr body) scope X.env [] [] [] pos firstLine) Q E s:=by
 obtain⟨ps,hP,tr,hc⟩:=hT;have oP:s.heap.get? P=some (PySem.W.tabObj ps):=I.aO P _ hP;have HK:s.heap.Ns mainGlobals X.mg:=I.mod.glob.keeps I.bk;obtain⟨bm,ob,b1,b2,b3,b4,b5,b6⟩:=B.bm;have hgP:mainGlobals≠P:=λq=>by
  obtain⟨o,es,ep,e,hd,_⟩:=HK;rw[q,oP] at e;cases e;cases hd
 have hbP:bm≠P:=λq=>by
  have e:=I.bk _ _ b3;rw[q,oP] at e;cases e;cases b4
 have hbG:bm≠mainGlobals:=λq=>by
  obtain⟨o,es,ep,e,hd,_⟩:=I.mod.glob;rw[q,e] at b3;cases b3;rw[hd] at b6;cases b6
 have wC:s.heap.BuiltinsAt X.mg P:=⟨bm,ob,b1,b2,hbG,hbP,I.bk _ _ b3,b4,b5,b6⟩;have nf:∀(h1:Heap) (o:Obj),s.heap.objs.size<=h1.objs.size->(h1.push o).get? h1.objs.size=some o->True:=λ_ _ _ _=>trivial;have LP:X.env.locals≠P:=λz=>by rw[← z,I.free] at hP;cases hP
 rcases hc with hc | ⟨c',hc,RT⟩
 ·refine PySem.W.kla_makeFunction (mg:=X.mg) oq I.ok.glob HK pR (B.hd.keeps I.bk) oP tr hc hgP wC λc' eL h1 tk hx Am bW adC htb=>?_;have nc:H c' = none:=I.aO.fresh Am;have cP:c'≠P:=λz=>by rw[z,hP] at nc;cases nc
  have kp:∀b o,b≠P->s.heap.get? b=some o->(h1.push (PySem.W.kla_obj name qual params body scope cl ((X.mg "__name__").getD .none) c' eL)).get? b=some o:=λb o hb e=>Heap.get?_push_of_some _ (hx b o hb e);have RU:=Heap.get?_push_of_some (PySem.W.kla_obj name qual params body scope cl ((X.mg "__name__").getD .none) c' eL) htb;have tX:∀b u,H b=some u->b≠P->upd (upd H P (.gb (ps ++ #[rawInt pos.line,rawInt pos.col,.ref c']))) c' (pQ c' qual) b=some u:=λb u e hb=>by
   rw[aI (λz=>by rw[z,nc] at e;cases e),aI hb];exact e
  have I1:Inv X pins σ (upd (upd H P (.gb (ps ++ #[rawInt pos.line,rawInt pos.col,.ref c']))) c' (pQ c' qual)) { s with heap:=h1.push (PySem.W.kla_obj name qual params body scope cl ((X.mg "__name__").getD .none) c' eL),toks:=tk }:=by
   refine I.step (g':=s.gens) (d':=s.drawn) (ch:=[]) (λ_ z=>nomatch z) (λb o _ _ _ e n=>kp b o (λz=>by rw[z,hP] at n;cases n) e) (λb o _ _ _ e n=>⟨o.slots,kp b o (λz=>by rw[z,hP] at n;cases n) e⟩) (λb o _ e n=>?_)
    (λb o _ e=>?_) (λb xs e=>tX b _ e (λz=>by rw[z,hP] at e;cases e)) (λb o u e=>tX b _ e (λz=>by rw[z,hP] at e;cases e)) (λb ia e=>?_) (λm hm=>(hm.extBut hx LP).push _) (λb v e=>?_) I.bare
   ·rw[aI (λz=>absurd (Nat.lt_of_lt_of_le (Heap.lt_size e) Am) (by rw[z];exact Nat.lt_irrefl _)),aI (λz=>by rw[z,hP] at n;cases n)];exact n
   ·by_cases hb:b=P
    ·rw[hb];exact⟨_,RU⟩
    ·exact⟨o,kp b o hb e⟩
   ·by_cases hb:b=P
    ·subst hb;rw[hP] at e;cases e;exact⟨#[rawInt pos.line,rawInt pos.col,.ref c'],by rw[aI cP.symm,aH]⟩
    ·exact⟨#[],by rw[Array.append_empty];exact tX b _ e hb⟩
   ·by_cases RV:b=c'
    ·subst RV;rw[aH] at e;cases e;exact adA (adC.push _)
    ·rw[aI RV] at e;by_cases hb:b=P
     ·subst hb;rw[aH] at e;cases e;exact RU
     ·rw[aI hb] at e;refine(I.aO b v e).jz (λd o hd q=>kp d o ?_ q) (λd q=>tX d _ q (λz=>by rw[z,hP] at q;cases q)) (λd xs q=>tX d _ q (λz=>by rw[z,hP] at q;cases q))
      rcases hd with z | z
      ·rw[z];exact hb
      ·exact λy=>by rw[y,hP] at z;cases z
  have of:=Heap.get?_push_size h1 (o:=PySem.W.kla_obj name qual params body scope cl ((X.mg "__name__").getD .none) c' eL) rfl;have HL:s.heap.objs.size<=h1.objs.size:=by lia
  refine h h1.objs.size c' eL ((X.mg "__name__").getD .none) _ _ (I1.mF λp hp=>?_) ?_ ⟨_,by rw[aI cP.symm,aH],?_,.inr ⟨c',?_,aH⟩⟩ aH
  ·rcases List.mem_cons.mp hp with e | hp
   ·rw[e];refine⟨of,?_,λz=>absurd (Nat.lt_of_lt_of_le I.lt (by assumption)) (by rw[← z];exact Nat.lt_irrefl _),I.vn HL,λv z=>by cases z⟩
    show upd (upd H P _) c' _ h1.objs.size=none;rw[aI (Nat.ne_of_gt bW),aI (Nat.ne_of_gt (Nat.lt_of_lt_of_le (Heap.lt_size oP) HL))];exact I.aO.fresh HL
   ·exact I1.pin p (List.mem_append_right _ hp)
  ·intro b o e hb;exact tX b o e hb
  ·rw[Array.toList_append];exact RS tr
  ·rw[Array.toList_append];exact codeAmong_snoc _ tr hc
 ·refine PySem.W.kla_makeFunctionHit (mg:=X.mg) oq I.ok.glob HK pR (B.hd.keeps I.bk) oP tr hc wC λeL h1 tk hk hsz=>?_;have kp:∀b o,s.heap.get? b=some o->(h1.push (PySem.W.kla_obj name qual params body scope cl ((X.mg "__name__").getD .none) c' eL)).get? b=some o:=λb o e=>Heap.get?_push_of_some _ (hk b o e);have I1:=I.kept (t':=tk) kp;have of:=Heap.get?_push_size h1 (o:=PySem.W.kla_obj name qual params body scope cl ((X.mg "__name__").getD .none) c' eL) rfl;refine h h1.objs.size c' eL ((X.mg "__name__").getD .none) _ _ (I1.mF λp hp=>?_) (λb o e _=>e) ⟨ps,hP,tr,.inr ⟨c',hc,RT⟩⟩ RT;rcases List.mem_cons.mp hp with e | hp
  ·rw[e];exact⟨of,I.aO.fresh hsz,λz=>absurd (Nat.lt_of_lt_of_le I.lt (by assumption)) (by rw[← z];exact Nat.lt_irrefl _),I.vn hsz,λv z=>by cases z⟩
  ·exact I1.pin p (List.mem_append_right _ hp)
end
end _L
namespace _L
open PySem PySem.Spec PyProof.Rows PySem.W
section
variable{prog:Program}{w:World}{A:Around}{E:Value->Shared->Prop}{s:Shared}
end
section
variable{X:Cx}{pins:List (Addr×Obj)}{σ:St}{H:Hp}{s:Shared}
theorem Inv.chg{h':Heap}{tk:Nat}{k:Addr}{m:Str->Option Value}(I:Inv X pins σ H s)(hm:s.heap.Ns X.env.locals m)(wD:h'.Ns X.env.locals m)(n:H k=none)(hs:X.dG.heap.objs.size<=k)(hL:k≠X.env.locals)
  (hc:∀x c,X.env.cells.lookup x=some c->c≠k) (hp:∀p∈X.pn++pins,p.1≠k) (ho:∃o,h'.get? k=some o) (kk:∀b o,b≠X.env.locals->b≠k->s.heap.get? b=some o->h'.get? b=some o):Inv X pins σ H { s with heap:=h',toks:=tk }:=by
 have nl:∀b v,H b=some v->b≠X.env.locals:=λb v e z=>by rw[z,I.free] at e;cases e
 have nk:∀b v,H b=some v->b≠k:=λb v e z=>by rw[z,n] at e;cases e
 refine I.step (g':=s.gens) (d':=s.drawn) (ch:=[k]) (λb z=>by rw[List.mem_singleton.mp z];exact⟨.inr hs,hL,hc,hp⟩) (λb o hb _ hk e _=>kk b o hb (by simpa using hk) e) (λb o hb _ hk e _=>⟨o.slots,kk b o hb (by simpa using hk) e⟩) (λ_ _ _ _ n=>n) (λb o hk e=>?_) (λ_ _ e=>e) (λ_ _ _ e=>e)
  (λb ps e=>⟨#[],by rw[e];simp⟩) (λm' HM=>?_) (λb v e=>(I.aO b v e).jz (λc o hc e'=>kk c o ?_ ?_ e') (λ_ e=>e) (λ_ _ e=>e)) I.bare
 ·by_cases hb:b=X.env.locals
  ·obtain⟨o',_,_,z,_⟩:=wD;exact⟨o',by rw[hb];exact z⟩
  ·exact⟨o,kk b o hb (by simpa using hk) e⟩
 ·have:m' = m:=by
   obtain⟨o1,Rh,ep1,g1,d1,k1,z1⟩:=HM;obtain⟨o2,Hg,Ri,g2,d2,k2,z2⟩:=hm;rw[g1] at g2;cases g2;rw[d1] at d2;cases d2
   funext x
   rw[← z1 x,← z2 x]
  rw[this];exact wD
 ·rcases hc with z | z
  ·rw[z];exact nl b v e
  ·exact nl c _ z
 ·rcases hc with z | z
  ·rw[z];exact nk b v e
  ·exact nk c _ z
variable{scope:Scope}{cl:List (Str×Addr)}{ps fs:List Str}{fv:List Nat}{A:Around}{qual name:Str}{f c' P kS:Addr}{params:Arguments}{body:Expr}{te:TE}{pm eL:Value}{pos:Pos}{kv:Nat->Int×Int}{n:Nat}{H1:Hp}{m:Str->Option Value}
theorem SameBut.trans{H H1 H2:Hp}{x:Addr}(a:SameBut x H H1)(b:SameBut x H1 H2):SameBut x H H2:=λc o e h=>b c o (a c o e h) h
end
theorem adD{P:Program}{w:World}{K:PySem.W.Frag}{mg mb:Str->Option Value}{k:Nat}{fa a:Addr}{fd:FuncData}{x:Str}{sp:Sp}{bC:Shared}{vs:List Value}{ns:List Int}{tabs:List (Addr×Addr)}
  (KX:K.In bC.heap) (lF:bC.heap.Ns mainGlobals mg) (hb:bC.heap.Ns builtinsNs mb) (G2:∀x:Str,x≠"__name__"->mb x=bootBuiltins x) (G3:bC.heap.NoLimit) (hg:bC.gens = #[])
  (ha:bC.heap.get? a=some { cls:=.type "list",data:=.seq vs.toArray }) (hi:IntsAre vs ns) (hl:ns.length<=sizeLine) (hr:cK k callerA)
  (hT:TabsAt tabs bC.heap) (wF:noTabs K=true) (bm:∃bm ob,mg "__builtins__" = some (.ref bm)/\bm≠builtinsNs/\bC.heap.get? bm=some ob/\ob.cls = .type "module"/\ob.dict=some builtinsNs/\ob.data = .plain)
  (F:∀base:Heap,K.In base->base.Ns mainGlobals mg->(∀q∈tabs,au mg base q.1 q.2)->aZ P w K mg base bu k fa fd [x] sp) (kB:∀(s:Shared) (u:Value),BindsTo s fd ⟨[u],[]⟩ [(x,u)])
  (iP:∀H:Hp,(∀q∈tabs,H q.2=some (.gb #[]))->aE K H a (ns.map V.int)->sp [.ref a] H (λv _=>v = .bl true) λ_ _ _=>False) :
  codeAny (model P w) callerA (.call (.ref fa) ⟨[.ref a],[]⟩) (λr s'=>r = .ok (.ret (.bool true))/\OldK bC.heap s'.heap/\s'.os=bC.os/\AllBare s'.gens) bC:=by
 have rv:=zX hi;have G5:=hi.length;have q8:∀b,b∈tabs.map (·.2)->bC.heap.get? b=some (tabObj #[])/\isCodeTable bC.heap b:=λb hb=>by
  obtain⟨q,hq,rfl⟩:=List.mem_map.mp hb;exact⟨(hT q hq).2,((hT q hq).1.tab (hT q hq).2).isCodeTable⟩
 have aT:a∉tabs.map (·.2):=λhb=>by
  have:=(q8 a hb).1;rw[ha] at this;cases this
 have core:∀H:Hp,(∀b u,H b=some u->(b=a/\∃o xs,u = .cS o (.lst xs))\/(b∈tabs.map (·.2)/\u = .gb #[]))->(∀q∈tabs,H q.2=some (.gb #[]))->aE K H a (ns.map V.int)->c_ P w H bC.heap->(H a≠none->K.lookup a=none)->
   codeAny (model P w) callerA (.call (.ref fa) ⟨[.ref a],[]⟩) (λr s'=>r = .ok (.ret (.bool true))/\OldK bC.heap s'.heap/\s'.os=bC.os/\AllBare s'.gens) bC:=by
  intro H hO HN hS aO hK;have qV:∀ {b:Addr} {o:Obj},bC.heap.get? b=some o->H b=none->(i7 bC.heap H).get? b=some o:=λe n=>OW e n;have free:∀ {b:Addr} {o:Obj},bC.heap.get? b=some o->(b≠a)->o≠tabObj #[]->H b=none:=λ{b o} e n1 n2=>by
   cases q:H b with
   | none=>rfl
   | some u =>
    rcases hO b u q with⟨z,_⟩ | ⟨z,_⟩
    ·exact absurd z n1
    ·have:=(q8 b z).1;rw[e] at this;exact absurd (Option.some.inj this) n2
  have RW:∀ {b:Addr} {o:Obj},bC.heap.get? b=some o->o.cls≠.type "list"->b≠a:=λ{b o} e n z=>by
   rw[z,ha] at e;cases e;exact n rfl
  have adE:∀ {b:Addr} {o:Obj} {es:Array DictEntry} {ep:Nat},bC.heap.get? b=some o->o.data = .dict es ep->b≠a:=λ{b o es ep} e d z=>by
   rw[z,ha] at e;cases e;cases d
  have nY:∀ {b:Addr} {m:Str->Option Value},bC.heap.Ns b m->(i7 bC.heap H).Ns b m:=λ{b m} ⟨o,es,ep,e,d,r⟩=>⟨o,es,ep,qV e (free e (adE e d) (λz=>by rw[z] at d;cases d)),d,r⟩
  have vW:K.In (i7 bC.heap H):=λb o e=>qV (KX b o e) (by
   cases q:H b with
   | none=>rfl
   | some u =>
    rcases hO b u q with⟨z,_⟩ | ⟨z,_⟩
    ·subst z;rw[hK (by rw[q];simp)] at e;cases e
    ·have e2:=KX b o e;rw[(q8 b z).1] at e2;have h2:=List.all_eq_true.mp wF (b,o) (mem_of_lookupK e);cases e2;exact absurd (show false=true from h2) Bool.false_ne_true)
  have hM:Mod K mg (i7 bC.heap H):=⟨vW,nY lF,⟨mb,nY hb,G2⟩,let ⟨mc,h1,h2⟩:=G3;⟨mc,nY h1,h2⟩⟩
  have hL:∀q∈tabs,au mg (i7 bC.heap H) q.1 q.2:=λq hq=>by
   obtain⟨b,ob,b1,b2,b3,b4,b5,b6⟩:=bm;obtain⟨o,vs',file,tf,flags,tg,inF,text,tt,e1,r1,r2⟩:=(hT q hq).1;refine⟨⟨o,vs',file,tf,flags,tg,inF,text,tt,qV e1 (free e1 (RW e1 (by rw[r1];intro z;injection z with z;exact absurd z (by decide))) (λz=>by rw[z] at r1;cases r1)),r1,r2⟩,b,ob,b1,b2,qV b3 (free b3 (RW b3 (by rw[b4];intro z;injection z with z;exact absurd z (by decide))) (λz=>by rw[z] at b4;cases b4)),b4,b5,b6⟩
  have e0:pG P w K mg (i7 bC.heap H) callerA [] bC H:=⟨rfl,hM,λb o e=>OX e,Nat.le_of_eq (OV _ _),trivial,λb hb=>absurd (show b∈([]:List Addr) from hb) (by simp),aO,.of_eq hg⟩
  refine codeAny_mono ((F _ vW (nY lF) hL).run callerA [] bC H ⟨[.ref a],[]⟩ [.ref a] [.ref a] _ _ hr e0 (kB bC (.ref a)) (.cons rfl .nil) (iP H HN hS)) λr s' h=>?_;cases r with
  | error e=>exact False.elim h
  | ok fl =>
   cases fl with
   | next=>exact False.elim h
   | brk=>exact False.elim h
   | cont=>exact False.elim h
   | ret u =>
    obtain⟨v,H',os,bare,un,zY,r',q⟩:=h;have q':v = .bl true:=q;subst q';obtain rfl:u=Value.bool true:=r';have noS:∀b:Addr,b∉iI ([]:List Env):=λb z=>absurd (show b∈([]:List Addr) from z) (by simp)
    have all:∀b o,bC.heap.get? b=some o->asItWas bC.heap s'.heap b o/\∃o',s'.heap.get? b=some o':=λb o e=>by
     cases q:H b with
     | none =>
      have:=un.keep b o e q (noS b) (by simp)
      exact⟨.inl this,o,this⟩
     | some u =>
      rcases hO b u q with⟨z,ob,xs,rfl⟩ | ⟨z,rfl⟩
      ·have z2:=un.kW b ob _ q;obtain⟨e1,_⟩:=aO b _ q;obtain⟨e2,_⟩:=zY b _ z2;rw[e] at e1;cases e1;exact⟨.inl e2,_,e2⟩
      ·obtain⟨more,z2⟩:=un.mz b _ q;have e1:=(q8 b z).1;rw[e] at e1;cases e1;have e2:s'.heap.get? b=some { cls:=.none,data:=.fields (#[]++more)}:=zY b _ z2;exact⟨.inr (.inl ⟨(q8 b z).2,rfl,#[],more,rfl,e2⟩),_,e2⟩
    exact⟨rfl,⟨λb o e=>(all b o e).1,λb o e=>(all b o e).2⟩,os,bare⟩
 have tq:∀q∈tabs,q.2∈tabs.map (·.2):=λq hq=>List.mem_map_of_mem hq;cases hk:K.lookup a with
 | some o =>
  have e:=KX a o hk;rw[ha] at e;cases e;refine core (λb=>if b∈tabs.map (·.2) then some (.gb #[]) else none) (λb u z=>?_) (λq hq=>if_pos (tq q hq)) (.inr ⟨_,vs.toArray,_,hk,rfl,rfl,rfl,by rw[List.size_toArray,G5];exact hl,by simpa using rv⟩) (λb u z=>?_) (λz=>absurd (if_neg aT) z)
  ·by_cases hb:b∈tabs.map (·.2)
   ·have z':=(if_pos hb).symm.trans z;cases z';exact .inr ⟨hb,rfl⟩
   ·have z':=(if_neg hb).symm.trans z;cases z'
  ·by_cases hb:b∈tabs.map (·.2)
   ·have z':=(if_pos hb).symm.trans z;cases z';exact(q8 b hb).1
   ·have z':=(if_neg hb).symm.trans z;cases z'
 | none =>
  refine core (λb=>if b=a then some (.cS { cls:=.type "list",data:=.seq vs.toArray } (.lst (ns.map V.int))) else if b∈tabs.map (·.2) then some (.gb #[]) else none) (λb u z=>?_) (λq hq=>?_) (.inl (.inr ⟨{ cls:=.type "list",data:=.seq vs.toArray },if_pos rfl⟩)) (λb u z=>?_) λ_=>hk
  ·by_cases hb:b=a
   ·have z':=(if_pos hb).symm.trans z;cases z';exact .inl ⟨hb,_,_,rfl⟩
   ·have z':=(if_neg hb).symm.trans z;by_cases ou:b∈tabs.map (·.2)
    ·have z2:=(if_pos ou).symm.trans z';cases z2;exact .inr ⟨ou,rfl⟩
    ·have z2:=(if_neg ou).symm.trans z';cases z2
  ·have ne:q.2≠a:=λz=>aT (by rw[← z];exact tq q hq)
   exact(if_neg ne).trans (if_pos (tq q hq))
  ·by_cases hb:b=a
   ·have z':=(if_pos hb).symm.trans z;cases z';subst hb;exact⟨ha,by rw[List.length_map];exact hl,vs,_,rv,ha⟩
   ·have z':=(if_neg hb).symm.trans z;by_cases ou:b∈tabs.map (·.2)
    ·have z2:=(if_pos ou).symm.trans z';cases z2;exact(q8 b ou).1
    ·have z2:=(if_neg ou).symm.trans z';cases z2
theorem j4.of{X:Cx}{scope:Scope}{cl:List (Str×Addr)}{ps fs:List Str}{fv:List Nat}(mR:closureFor scope X.env=pure cl)(kind:scope.kind = .function)(co:scope.isCoroutine=false)(gen:scope.isGenerator=false)
  (lG:(scope.names.all λy=>y.2 != .cell)=true) (par:(ps.all λy=>scope.names.lookup y == some .local)=true) (sub:AllP (λp:Str×Addr=>X.env.cells.lookup p.1=some p.2) cl) (has:(scope.names.all λy=>y.2 != .free || (cl.lookup y.1).isSome)=true)
  (free:fv.map (λj=>X.N[j]?)=fs.map some) (fk:(fs.all λy=>scope.names.lookup y == some .free && X.env.scope.names.lookup y == some .cell)=true) (nd:(ps++fs).Nodup):j4 X scope cl ps fs fv where
 mR:=mR
 kind:=kind
 co:=co
 gen:=gen
 lG:=λy hy=>by have:=List.all_eq_true.mp lG y hy;simpa using this
 par:=λy hy=>by have:=List.all_eq_true.mp par y hy;simpa using this
 sub:=sub.mem
 has:=λy hy hl=>by
  have:=List.all_eq_true.mp has y hy;rw[hl] at this;exact Option.isSome_iff_exists.mp (by simpa only[bne_self_eq_false,Bool.false_or] using this)
 free:=free
 fk:=λy hy=>by have:=List.all_eq_true.mp fk y hy;simpa using this
 nd:=nd
theorem aK.HP{P:Program}{w:World}{K:PySem.W.Frag}{mg:Str->Option Value}{base:Heap}{x qual:Str}{st:Stmt}{f:Addr}{fd:FuncData}{N ps:List Str}{k:Nat}{sp:Sp}(F:aK K x qual st f fd)(S:bz N ps (aN st))(len:∀vs H Q E,sp vs H Q E->vs.length=ps.length)
  (qN:∀(A:Around) (outer:List Env) (s:Shared) (H:Hp) (vs:List V) (Q:VK) (E:XK),cK k (A.deeper (envOfC qual (aN st) s.heap.objs.size f fd.code))->sp vs H Q E->
   ∃t,gT (nU bu P w K mg base N qual (aN st) f fd.code A outer s H E).pq (dJ st) t/\t { nx:=λ_ H'=>Q .aV H',rt:=Q } (start N vs) H):aZ P w K mg base bu (k+1) f fd ps sp:=by
 obtain⟨oc,od,kV,doc,pm,an,aU,ct,i_,rfl,lk,gH⟩:=F.ex;refine Gw lk gH S len λA outer s H vs Q E hr iP=>?_;obtain⟨t,h,q⟩:=qN A outer s H vs Q E hr iP;exact⟨t,h.pq,q⟩
theorem adF{l:PySem.W.OpenLaw}{n k:Nat}{q:Program}{loose:List Str}{XP:(Str->Option Value)->Heap->Prop}{YP:World->Heap->Prop}{d:DefRec}{K:Params->PySem.W.Frag}{sp:World->List (Addr×Addr)->Sp}{x:Str}
  (hn:l.most=some n) (sY:n<=sizeLine) (qU:d.params.defaults = []) (hr:cK k callerA)
  (hY:∀(w:World) (h:Heap),YP w h->(K w.params).In h) (wF:∀w:World,noTabs (K w.params)=true)
  (F:∀(w:World) (mg:Str->Option Value) (fa:Addr) (h:Heap),YP w h->(K w.params).In h->h.Ns mainGlobals mg->mg d.name=some (.ref fa)->
   ∃(fd:FuncData) (tabs:List (Addr×Addr)),(∀(s:Shared) (u:Value),BindsTo s fd ⟨[u],[]⟩ [(x,u)])/\TabsAt tabs h/\
    ∀base:Heap,(K w.params).In base->base.Ns mainGlobals mg->(∀q∈tabs,au mg base q.1 q.2)->aZ l.prog w (K w.params) mg base bu k fa fd [x] (sp w tabs))
  (iP:∀(w:World) (tabs:List (Addr×Addr)) (H:Hp) (a:Addr) (ns:List Int),ns.length<=n->(∀q∈tabs,H q.2=some (.gb #[]))->aE (K w.params) H a (ns.map V.int)->sp w tabs [.ref a] H (λv _=>v = .bl true) λ_ _ _=>False) :
  PySem.W.WalkO q loose XP YP l.row.toRowW d [] (λf vs=>PySem.call f vs):=by
 refine GZ.Q0 hn qU λw dG bC mg mb fa o pm cd doc a vs ns G Y ho hd gH hmg vV hints hlen hg=>?_;have KX:=hY w _ Y;obtain⟨fd,tabs,hb,hT,hF⟩:=F w mg fa _ Y KX G.T.g hmg;exact adD KX G.T.g G.T.b G.T.builtins G.T.nolimit hg vV hints (Nat.le_trans hlen sY) hr hT (wF w) G.T.bmain hF hb λH HN hS=>iP w tabs H a ns hlen HN hS
noncomputable def cB(x:Str):Str:=x ++ ".<locals>." ++ "<lambda>"
end _L
namespace _L
open PySem PySem.Spec PyProof.Rows
section
variable{M:Model}{prog:Program}{w:World}{A:Around}{E:Value->Shared->Prop}{s:Shared}
end
section
variable{prog:Program}{w:World}{A:Around}{E:Value->Shared->Prop}{s:Shared}
end
section
variable{X:Cx}
end
section
variable{prog:Program}{w:World}{A:Around}{E:Value->Shared->Prop}{s:Shared}{d it:Addr}{es:Array DictEntry}{ep i:Nat}
end
section
variable{X:Cx}
end
theorem bR.same{P:Addr}{pos:Pos}{qual:Str}{H H':Hp}(h:bR P pos qual H)(s:aj H H'):bR P pos qual H':=by
 obtain⟨ps,e,k,c⟩:=h;refine⟨ps,s _ _ e,k,?_⟩;rcases c with c | ⟨c',c1,c2⟩
 ·exact .inl c
 ·exact .inr ⟨c',c1,s _ _ c2⟩
section
variable{P:Addr}{pos:Pos}{qual:Str}{H H1 H2:Hp}
theorem bR.ne(t:bR P pos qual H){a:Addr}{o:HO}(e:H a=some o)(n:∀ps,o≠.gb ps):a≠P:=λz=>by
 obtain⟨ps,e',_⟩:=t;rw[z,e'] at e;exact n ps (Option.some.inj e).symm
end
theorem RX{s:Int}:∀(rc:List Int) (r:Nat) (c:Int×Int),c∈e7 s r rc->∃j:Nat,j<rc.length/\c.1=((r+j:Nat):Int)/\0<=c.2/\c.2<rc.getD j 0 - s
 | [],r,c,h=>by cases h
 | x::rc,r,c,h=>by
  rw[e7,List.mem_append] at h;rcases h with h | h
  ·obtain⟨k,hk,rfl⟩:=List.mem_map.mp h;have:=List.mem_range.mp hk;exact⟨0,by simp,by simp,by show 0<=(k:Int);lia,by show (k:Int)<x - s;lia⟩
  ·obtain⟨j,h1,h2,h3,h4⟩:=RX rc (r+1) c h;exact⟨j+1,by simpa using h1,by rw[h2];congr 1;lia,h3,by simpa using h4⟩
noncomputable def An(K:PySem.W.Frag)(tabs:List (Addr×Addr)):Sp:=λvs H Q _=>∃(a:Addr) (ns:List Int),vs = [.ref a]/\aE K H a (ns.map V.int)/\ns.length<=63/\(∀q∈tabs,H q.2=some (.gb #[]))/\∀H',Q (.bl true) H'
theorem walk_lawT{l:PySem.W.OpenLaw}{k:Nat}{q:Program}{loose:List Str}{XP:(Str->Option Value)->Heap->Prop}{YP:World->Heap->Prop}{d:DefRec}{K:Params->PySem.W.Frag}{x:Str}
  (hn:l.most=some 63) (qU:d.params.defaults = []) (hr:cK k callerA) (hY:∀(w:World) (h:Heap),YP w h->(K w.params).In h) (wF:∀w:World,PySem.W.noTabs (K w.params)=true)
  (F:∀(w:World) (mg:Str->Option Value) (fa:Addr) (h:Heap),YP w h->(K w.params).In h->h.Ns mainGlobals mg->mg d.name=some (.ref fa)->
   ∃(fd:FuncData) (tabs:List (Addr×Addr)),(∀(s:Shared) (u:Value),BindsTo s fd ⟨[u],[]⟩ [(x,u)])/\PySem.W.TabsAt tabs h/\
    ∀base:Heap,(K w.params).In base->base.Ns mainGlobals mg->(∀q∈tabs,au mg base q.1 q.2)->aZ l.prog w (K w.params) mg base bu k fa fd [x] (An (K w.params) tabs)) :
  PySem.W.WalkO q loose XP YP l.row.toRowW d [] (λf vs=>PySem.call f vs) :=
 adF (n:=63) (sp:=λw tabs=>An (K w.params) tabs) hn (by decide) qU hr hY wF F (λ_ tabs H a ns hl hT hS=>⟨a,ns,rfl,hS,hl,hT,λ_=>rfl⟩)
section
variable{X:Cx}{pins:List (Addr×Obj)}{σ:St}{H:Hp}{s:Shared}
end
section
variable{X:Cx}
theorem adG{a b:List Int}(h:_H.lexLt a b=true):¬ _H.lexLt b a=true:=λz=>Ag a (Hz _ _ _ h z)
theorem adH{a b c:List Int}(h:¬ _H.lexLt b a=true)(h':¬ _H.lexLt c b=true):¬ _H.lexLt c a=true:=λz=>by
 rcases RE a b with q | q | q
 ·exact h' (Hz _ _ _ z q)
 ·rw[q] at z;exact h' z
 ·exact h q
end
section
variable{K:PySem.W.Frag}{tl:TE}{g:TG}{tt:TT}{te:TE}{nt:Nat}{fv:List Nat}{Q:VK}{σ:St}{H:Hp}
theorem Zn.push{l t:Addr}{ts:List Addr}{z:List (Int×Int)}{c:Int×Int}(h:Zn H l ts z)(ht:H t=some (.tup [.int c.1,.int c.2])):Zn (upd H l (.lst (ts.map V.ref++[V.ref t]))) l (ts++[t]) (z++[c]):=by
 have ne:∀ {a:Addr} {xs:List V},H a=some (.tup xs)->a≠l:=λe q=>by rw[q,h.l] at e;cases e
 refine⟨by rw[aH,List.map_append];rfl,by simp[h.n],λi t' p e1 e2=>?_⟩
 by_cases hi:i<ts.length
 ·rw[List.getElem?_append_left hi] at e1;rw[List.getElem?_append_left (by rw[← h.n];exact hi)] at e2
  have:=h.t i t' p e1 e2;rw[aI (ne this)];exact this
 ·rw[List.getElem?_append_right (by lia)] at e1
  rw[List.getElem?_append_right (by rw[← h.n];lia),← h.n] at e2
  have hj:i - ts.length=0:=by
   have:=(List.getElem?_eq_some_iff.mp e1).1;simp at this;lia
  rw[hj] at e1 e2;cases e1;cases e2;rw[aI (ne ht)];exact ht
end
section
variable{X:Cx}
theorem adI:iM X (.type "int") (λxs H Q=>∃b,xs = [.bl b]/\Q (.int (if b then 1 else 0)) H):=by
 intro pins s σ H xs us Q I r h;obtain⟨b,rfl,q⟩:=h;obtain⟨u,rfl,ru⟩:=vals1 r;cases (show u=Value.bool b from ru);exact call_int_bool ⟨.int _,H,I.tok _,⟨_,rfl⟩,q⟩
end
section
variable{X:Cx}{e st:Expr}{te ts:TE}{pos p2:Pos}
end
structure pT(z:List (Int×Int))(aJ sk:Int)(sw:List Int):Prop where
 zl:ZL z
 l1:1<=aJ
 l2:aJ<=1000000000
 l3:∀p∈z,aJ % p.2=0
 k0:0<=sk
 k1:sk<aJ
 so:SwOk sw (z.map (·.1)).sum
noncomputable def plW(z:List (Int×Int))(aJ sk:Int)(sw:List Int)(nc:List (Int×Int)):Pl:=⟨counts z,aJ,sk,sw,nc⟩
theorem pT.pl{z:List (Int×Int)}{aJ sk:Int}{sw:List Int}(h:pT z aJ sk sw)(nc:List (Int×Int)):g_ (plW z aJ sk sw nc):=ac9 h.zl h.l1 h.so
noncomputable def b_(nc:List (Int×Int))(f m:Int):List (Int×Int):=(nc.drop f.toNat).take m.toNat
theorem RY{nc:List (Int×Int)}{f m:Int}{c:Int×Int}(h:c∈b_ nc f m):c∈nc:=List.mem_of_mem_drop (List.mem_of_mem_take h)
theorem RZ{nc:List (Int×Int)}{f m:Int}(h0:0<=f)(h1:0<=m)(h:f+m<=nc.length):(b_ nc f m).length=m.toNat:=by
 unfold b_;rw[List.length_take,List.length_drop];lia
theorem adJ{nc:List (Int×Int)}{f:Int}{i:Nat}{c:Int×Int}(h0:0<=f)(h:nc[(f+(i:Int)).toNat]? = some c):(nc.drop f.toNat).take (i+1)=(nc.drop f.toNat).take i++[c]:=by
 refine take_succ_get ?_;rw[List.getElem?_drop,show f.toNat+i=(f+(i:Int)).toNat by lia];exact h
noncomputable def adK(K:PySem.W.Frag)(cs:List Addr)(CA:Addr):Sp:=λvs H Q _=>∃(C p ap:Addr) (P:Pl) (fp:List Addr) (q:Ak) (m b dx:Addr),vs = [.ref p,.ref ap]/\C∈cs/\bZ K C H p P fp/\eK K CA H ap q m b dx/\Aj P.nc.length q/\P.nc.length<=1000000/\
 ∀l ts H',aj H H'->H l=none->Zn H' l ts (b_ P.nc q.first q.many)->Q (.ref l) H'
noncomputable def adL(K:PySem.W.Frag)(cs:List Addr)(CA:Addr):Sp:=λvs H Q _=>∃(C p ap:Addr) (k:Int) (P:Pl) (fp:List Addr) (q:Ak) (m b dx:Addr),vs = [.ref p,.int k,.ref ap]/\C∈cs/\bZ K C H p P fp/\eK K CA H ap q m b dx/\Aj P.nc.length q/\P.nc.length<=1000000/\
 ∀l ts H',aj H H'->H l=none->Zn H' l ts (b_ P.nc q.first q.many)->Q (.ref l) H'
structure Dr where
 n:Int
 q:Ak
 c:List (Int×Int)
noncomputable def iW(n:Int)(ap l:Addr):List (Str×V):=[("number",.int n),("ask",.ref ap),("cells",.ref l)]
structure iB(K:PySem.W.Frag)(CA CD:Addr)(H:Hp)(p:Addr)(d:Dr)(dx ap l:Addr)(ts:List Addr)(m b bH:Addr):Prop where
 o:H p=some (.ins CD dx (iW d.n ap l))
 a:eK K CA H ap d.q m b bH
 c:Zn H l ts d.c
theorem iB.same{K:PySem.W.Frag}{CA CD:Addr}{H H':Hp}{p:Addr}{d:Dr}{dx ap l:Addr}{ts:List Addr}{m b bH:Addr}(h:iB K CA CD H p d dx ap l ts m b bH)(s:aj H H'):iB K CA CD H' p d dx ap l ts m b bH:=⟨s _ _ h.o,h.a.same s,h.c.same s⟩
noncomputable def adM(K:PySem.W.Frag)(cs:List Addr)(CA CD:Addr):Sp:=λvs H Q _=>∃(C p pl ap dx:Addr) (n:Int) (P:Pl) (fp:List Addr) (q:Ak) (m b bH:Addr),vs = [.ref p,.ref pl,.int n,.ref ap]/\H p=some (.ins CD dx [])/\C∈cs/\bZ K C H pl P fp/\p≠pl/\p∉fp/\eK K CA H ap q m b bH/\Aj P.nc.length q/\P.nc.length<=1000000/\
 ∀l ts H',H l=none->SameBut p H H'->iB K CA CD H' p ⟨n,q,b_ P.nc q.first q.many⟩ dx ap l ts m b bH->Q .aV H'
structure fH(K:PySem.W.Frag)(CA CD:Addr)(H:Hp)(l:Addr)(ps:List Addr)(ds:List Dr):Prop where
 l:H l=some (.lst (ps.map V.ref))
 n:ps.length=ds.length
 t:∀(i:Nat) (p:Addr) (d:Dr),ps[i]? = some p->ds[i]? = some d->∃dx ap l ts m b bH,iB K CA CD H p d dx ap l ts m b bH
theorem fH.same{K:PySem.W.Frag}{CA CD:Addr}{H H':Hp}{l:Addr}{ps:List Addr}{ds:List Dr}(h:fH K CA CD H l ps ds)(s:aj H H'):fH K CA CD H' l ps ds :=
 ⟨s _ _ h.l,h.n,λi p d e1 e2=>let ⟨dx,ap,l,ts,m,b,bH,a⟩:=h.t i p d e1 e2;⟨dx,ap,l,ts,m,b,bH,a.same s⟩⟩
theorem adN(xs:List V)(k:Nat):kq xs none (some (k:Int))=xs.take k:=by
 unfold kq;have e:_H.eY xs.length 0 none=0:=rfl;have e2:_H.eY xs.length xs.length (some (k:Int))=min k xs.length:=by
  simp only[_H.eY];rw[if_neg (by lia)];simp
 rw[e,e2,List.drop_zero,Nat.sub_zero];by_cases h:k<=xs.length
 ·rw[Nat.min_eq_left h]
 ·rw[Nat.min_eq_right (by lia),List.take_of_length_le (Nat.le_refl _),List.take_of_length_le (by lia)]
theorem adO(xs:List V)(k:Nat):kq xs (some (k:Int)) none=xs.drop k:=by
 unfold kq;have e:_H.eY xs.length 0 (some (k:Int))=min k xs.length:=by
  simp only[_H.eY];rw[if_neg (by lia)];simp
 have e2:_H.eY xs.length xs.length none=xs.length:=by simp[_H.eY]
 rw[e,e2,List.take_of_length_le (by simp)]
 by_cases h:k<=xs.length
 ·rw[Nat.min_eq_left h]
 ·rw[Nat.min_eq_right (by lia),List.drop_of_length_le (Nat.le_refl _),List.drop_of_length_le (by lia)]
theorem bE{N ps:List Str}{scope:Scope}(h:bz N ps scope:=by exact⟨rfl,rfl,rfl,by decide +kernel,rfl,by decide +kernel,by decide +kernel⟩):bz N ps scope:=h
class R0 where
 nx:St->Hp->Prop
noncomputable def Later[c:R0](σ:St)(H:Hp):Prop:=c.nx σ H
noncomputable def R1(t:TS):TS:=λD σ H=>∃M:St->Hp->Prop,t { D with nx:=M } σ H/\∀dU H1,M dU H1->@Later ⟨D.nx⟩ dU H1
theorem pU{X:Cx}{st:Stmt}{t:TS}(h:PS X st t):PS X st (R1 t):=acC h
theorem amH{c:R0}{x:Option V}{σ:St}{H:Hp}:@Later c (x::σ) H=c.nx (x::σ) H:=rfl
end _L
namespace _L
open PySem PySem.Spec PyProof.Rows PySem.W
section
variable{X:Cx}{pins:List (Addr×Obj)}{σ:St}{H:Hp}{s:Shared}
theorem Inv.Ao{h':Heap}{tk:Nat}{k:Addr}{o o':Obj}(I:Inv X pins σ H s)(HQ:(k,o)∈pins)(hs:X.dG.heap.objs.size<=k)(hc:∀x c,X.env.cells.lookup x=some c->c≠k){gr:List (Addr×Obj)}(hp:∀p∈X.pn++gr,p.1≠k)(HR:∀p∈gr,p∈pins)
  (e:h'.get? k=some o') (hd:∀v,o'.data≠.cell v) (kk:∀b u,b≠k->s.heap.get? b=some u->h'.get? b=some u):Inv X ((k,o')::gr) σ H { s with heap:=h',toks:=tk }:=by
 have p0:=I.pin (k,o) (List.mem_append_right _ HQ);obtain⟨m,hm,_⟩:=id I.loc;have J:Inv X gr σ H s:=I.mF λp hp=>I.pin p (List.mem_append_right _ (HR p hp));have wD:h'.Ns X.env.locals m:=by
  obtain⟨o2,es,ep,e2,r⟩:=hm;exact⟨o2,es,ep,kk _ _ (Ne.symm p0.2.2.1) e2,r⟩
 have J2:=J.chg (tk:=tk) hm wD p0.2.1 hs p0.2.2.1 hc hp ⟨_,e⟩ λb u _ hb q=>kk b u hb q;refine J2.mF λp HS=>?_;rcases List.mem_cons.mp HS with z | z
 ·rw[z];exact⟨e,p0.2.1,p0.2.2.1,p0.2.2.2.1,hd⟩
 ·exact J2.pin p (List.mem_append_right _ z)
theorem Inv.R3{h':Heap}{tk:Nat}{k:Addr}{o:Obj}(I:Inv X pins σ H s)(HQ:(k,o)∈pins)(hs:X.dG.heap.objs.size<=k)(hc:∀x c,X.env.cells.lookup x=some c->c≠k){gr:List (Addr×Obj)}(hp:∀p∈X.pn++gr,p.1≠k)(HR:∀p∈gr,p∈pins)
  (kk:∀b u,b≠k->s.heap.get? b=some u->h'.get? b=some u):Inv X gr σ H { s with heap:=h',toks:=tk }:=by
 have p0:=I.pin (k,o) (List.mem_append_right _ HQ);obtain⟨m,hm,_⟩:=id I.loc;have J:Inv X gr σ H s:=I.mF λp hp=>I.pin p (List.mem_append_right _ (HR p hp));have wD:h'.Ns X.env.locals m:=by
  obtain⟨o2,es,ep,e2,r⟩:=hm;exact⟨o2,es,ep,kk _ _ (Ne.symm p0.2.2.1) e2,r⟩
 have nk:∀b v,H b=some v->b≠k:=λb v e z=>by rw[z,p0.2.1] at e;cases e
 refine J.step (g':=s.gens) (d':=s.drawn) (ch:=[k]) (λb z=>by rw[List.mem_singleton.mp z];exact⟨.inr hs,p0.2.2.1,hc,hp⟩) (λb o hb _ hk e _=>kk b o (by simpa using hk) e) (λb o hb _ hk e _=>⟨o.slots,kk b o (by simpa using hk) e⟩) (λ_ _ _ _ n=>n) (λb o hk e=>?_) (λ_ _ e=>e) (λ_ _ _ e=>e)
  (λb ps e=>⟨#[],by rw[e];simp⟩) (λm' HM=>?_) (λb v e=>(J.aO b v e).jz (λc o hc e'=>kk c o ?_ e') (λ_ e=>e) (λ_ _ e=>e)) J.bare
 ·exact⟨o,kk b o (by simpa using hk) e⟩
 ·obtain⟨o2,es,ep,e2,r⟩:=HM;exact⟨o2,es,ep,kk _ _ (Ne.symm p0.2.2.1) e2,r⟩
 ·rcases hc with z | z
  ·rw[z];exact nk b v e
  ·exact nk c _ z
variable{scope:Scope}{cl:List (Str×Addr)}{ps fs:List Str}{fv:List Nat}{qual name:Str}{f c' P l S It:Addr}{params:Arguments}{body:Expr}{te:TE}{pm eL:Value}{pos:Pos}{kv:Nat->List Int}{H1:Hp}{as:List Addr}
theorem Aq:∀ {as:List Addr} {aG:List Value},Vals (as.map V.ref) aG->aG=as.map Value.ref
 | [],_,h=>by cases h;rfl
 | a::as,_,h=>by
  cases h with
  | cons r h=>cases r;rw[List.map_cons,Aq h]
theorem adP(SS:j4 X scope cl ps fs fv)(tY:ps.length=1)(he:∀s H,PE (wB X X.A.in1 qual scope f c' cl (ps++fs) s H) body te)(q9:X.calm=true)(jJ:X.A.in1.depth<recursionLimit)(hu:X.A.units+16<cLine)
  (hf:(f,kla_obj name qual params body scope cl pm c' eL)∈pins) (hc:H1 c' = some (pQ c' qual)) (wG:c'≠P) (kB:∀u,bindArgs (kla_fn name qual params body scope cl pm (.ref c') eL) ⟨[u],[]⟩=pure (ps.zip [u]))
  (hl:H1 l=some (.lst (as.map V.ref))) (tZ:l≠P)
  (pD:∀(j:Nat) (a:Addr) (H:Hp),as[j]? = some a->SameBut P H1 H->bR P pos qual H->te (pO σ [.ref a] fv) H λv H'=>∃k,v = .ref k/\H' k=some (.tup ((kv j).map V.int))/\SameBut P H H'/\bR P pos qual H')
  (two:∀b,b=S\/b=It->X.dG.heap.objs.size<=b/\(∀x c,X.env.cells.lookup x=some c->c≠b)/\∀p∈X.pn++pins,p.1≠b) (ie:S≠It)
  {R:Result->Shared->Prop} (hR:∀(i:Nat) (a:Addr) (H:Hp) (s:Shared),as[i]? = some a->(∀j,j<as.length->¬ _H.lexLt (kv j) (kv i)=true)->SameBut P H1 H->bR P pos qual H->Inv X pins σ H s->R (.ok (.ret (.ref a))) s) :
  ∀(r j i:Nat) (H:Hp) (s:Shared) (a ka:Addr) (c:Nat) (oI:Obj),as.length - (j+1)=r->j+1<=as.length->Inv X ((S,seqObj "list" #[.ref a,.ref ka] c)::(It,oI)::pins) σ H s->SameBut P H1 H->bR P pos qual H->s.heap.IsListIter It l (j+1)->as[i]? = some a->
   H ka=some (.tup ((kv i).map V.int))->(∀j',j'<=j->¬ _H.lexLt (kv j') (kv i)=true)->codeAny (model X.prog X.w) X.A (.builtin "min.loop" ⟨[.ref It,.ref f,.ref S],[]⟩) R s:=by
 have wH:(toString "min" ++ toString ".loop" : String) = "min.loop" := by decide
 have As:∀(a:Array Value) (e:Nat) v,(seqObj "list" a e).data≠.cell v:=λa e v z=>by cases z
 have lst:∀ {gr:List (Addr×Obj)} {H:Hp} {s:Shared},Inv X gr σ H s->SameBut P H1 H->s.heap.IsList l (as.map Value.ref).toArray:=λI sb=>by
  obtain⟨aG,r,pl,_⟩:=I.list (aE.of (K:=X.K) (sb _ _ hl tZ));rw[← Aq r];exact pl.isList
 have tS:=two S (.inl rfl);have tI:=two It (.inr rfl);have hsz:(as.map Value.ref).toArray.size=as.length:=by simp
 have R4:∀ {oS:Obj},∀p∈X.pn++((S,oS)::pins),p.1≠It:=λp hp=>by
  rcases List.mem_append.mp hp with z | z
  ·exact tI.2.2 p (List.mem_append_left _ z)
  ·rcases List.mem_cons.mp z with z | z
   ·rw[z];exact ie
   ·exact tI.2.2 p (List.mem_append_right _ z)
 have pnS:∀ {oI:Obj},∀p∈X.pn++((It,oI)::pins),p.1≠S:=λp hp=>by
  rcases List.mem_append.mp hp with z | z
  ·exact tS.2.2 p (List.mem_append_left _ z)
  ·rcases List.mem_cons.mp z with z | z
   ·rw[z];exact ie.symm
   ·exact tS.2.2 p (List.mem_append_right _ z)
 intro r
 induction r with
 | zero =>
  intro j i H s a ka c oI hr hj I0 sb tab hit ha HU t_;have hin:j+1=as.length:=by lia
  have hh:=I0.ok.hd q9;have pS:=I0.pin (S,seqObj "list" #[.ref a,.ref ka] c) (List.mem_append_right _ (List.mem_cons_self ..));refine codeAny_builtin PySem.F.entry_min_loop ?_;rw[Around.under_plainId PySem.F.plain_min_loop _]
  show wpAny _ X.A.in1 (seqItems? (.ref S) >>= _) _ _ _;refine wpAny_bind (wpAny_seqItems pS.1 rfl ?_)
  show wpAny _ X.A.in1 (tryCatch (pyNext (.ref It)) _ >>= _) _ _ _;refine wpAny_bind (wpAny_tryCatch (wpAny_pyNext_list_end (A:=X.A.in1) hh hit (lst I0 sb) (by rw[Array.getElem?_eq_none];rw[hsz];lia) λh' vY=>?_))
  have mV:=vY S _ ie pS.1;have J:=I0.R3 (tk:=s.toks) (k:=It) (o:=oI) (gr:=(S,seqObj "list" #[.ref a,.ref ka] c)::pins) (List.mem_cons_of_mem _ (List.mem_cons_self ..)) tI.1 tI.2.1 R4 (λp hp=>by
   rcases List.mem_cons.mp hp with z | z
   ·rw[z];exact List.mem_cons_self ..
   ·exact List.mem_cons_of_mem _ (List.mem_cons_of_mem _ z)) λb u hb e=>vY b u hb e
  show wpAny _ X.A.in1 (updateSeq S (λ_ => #[]) >>= _) _ _ _;refine wpAny_bind ?_;refine wpAny_updateSeq mV rfl (wpAny_bind (wpAny_letGo (wpAny_pure ?_)));refine hR i a H _ ha (λj' iC=>t_ j' (by lia)) sb tab (J.R3 (tk:=s.toks) (k:=S) (o:=seqObj "list" #[.ref a,.ref ka] c) (List.mem_cons_self ..) tS.1 tS.2.1 tS.2.2 (λp hp=>List.mem_cons_of_mem _ hp) λb u hb e=>?_)
  exact(Heap.get?_update_other _ _ (Ne.symm hb)).trans e
 | succ r ih =>
  intro j i H s a ka c oI hr hj I0 sb tab hit ha HU t_;have bW:j+1<as.length:=by lia
  have hh:=I0.ok.hd q9;have pS:=I0.pin (S,seqObj "list" #[.ref a,.ref ka] c) (List.mem_append_right _ (List.mem_cons_self ..));have hv:as[j+1]? = some as[j+1]:=List.getElem?_eq_getElem bW;generalize as[j+1] = b0 at hv;refine codeAny_builtin PySem.F.entry_min_loop ?_;rw[Around.under_plainId PySem.F.plain_min_loop _]
  show wpAny _ X.A.in1 (seqItems? (.ref S) >>= _) _ _ _;refine wpAny_bind (wpAny_seqItems pS.1 rfl ?_)
  show wpAny _ X.A.in1 (tryCatch (pyNext (.ref It)) _ >>= _) _ _ _;refine wpAny_bind (wpAny_tryCatch (wpAny_pyNext_list_item (A:=X.A.in1) hit (lst I0 sb) (x:=.ref b0) (by simp[hv]) λh' tM iS=>?_))
  obtain⟨jK,HV,qC,uc⟩:=id tM;have mV:=iS.extBut S _ ie pS.1;have J0:=I0.Ao (tk:=s.toks) (k:=It) (o:=oI) (o':=jK) (gr:=(S,seqObj "list" #[.ref a,.ref ka] c)::pins) (List.mem_cons_of_mem _ (List.mem_cons_self ..)) tI.1 tI.2.1 R4 (λp hp=>by
   rcases List.mem_cons.mp hp with z | z
   ·rw[z];exact List.mem_cons_self ..
   ·exact List.mem_cons_of_mem _ (List.mem_cons_of_mem _ z)) HV (λv z=>by rw[uc] at z;cases z) λb u hb e=>iS.extBut b u hb e
  have J:Inv X ((S,seqObj "list" #[.ref a,.ref ka] c)::(It,jK)::pins) σ H { s with heap:=h',toks:=s.toks }:=J0.mF λp hp=>J0.pin p (List.mem_append_right _ (by
   rcases List.mem_cons.mp hp with z | z
   ·rw[z];exact List.mem_cons_of_mem _ (List.mem_cons_self ..)
   ·rcases List.mem_cons.mp z with z | z
    ·rw[z];exact List.mem_cons_self ..
    ·exact List.mem_cons_of_mem _ (List.mem_cons_of_mem _ z)))
  have pf:=J.pin _ (List.mem_append_right _ (List.mem_cons_of_mem _ (List.mem_cons_of_mem _ hf)));have pR:=RQ J.aO (sb _ _ hc wG)
  show wpAny _ X.A.in1 (tryCatch (holding [.ref b0] (call (.ref f) [.ref b0])) _ >>= _) _ _ _;refine wpAny_bind (wpAny_tryCatch (wpAny_holding (wpAny_mono (RO (us:=[.ref b0]) (vs:=[.ref b0]) SS J J.ok.frames (λ_=>hh) jJ pf.1 pR (kB _) (.cons rfl .nil) (by simpa using tY.symm) (he _ H) (pD (j+1) b0 H hv sb tab)) (λx iO hq=>?_) λ_ _ hF=>hF.elim)))
  obtain⟨v,H2,J',rv,⟨kb,rfl,Au,R6,q_⟩,_⟩:=hq;cases rv;have Av:SameBut P H1 H2:=sb.trans R6;have R7:H2 ka=some (.tup ((kv i).map V.int)):=R6 _ _ HU (tab.ne HU (by intro _ z;cases z))
  have wI:=J'.pin (S,seqObj "list" #[.ref a,.ref ka] c) (List.mem_append_right _ (List.mem_cons_self ..));have Aw:=J'.pin (It,jK) (List.mem_append_right _ (List.mem_cons_of_mem _ (List.mem_cons_self ..)));have adQ:iO.heap.IsListIter It l (j+1+1):=⟨jK,Aw.1,qC,uc⟩;obtain⟨i1,r1,q1,_⟩:=J'.tuple (bD.of (K:=X.K) Au);obtain⟨i2,r2,q2,_⟩:=J'.tuple (bD.of (K:=X.K) R7)
  show wpAny _ X.A.in1 (tryCatch (holding [.ref b0,.ref kb] (richCompare .Lt (.ref kb) (.ref ka) >>= _)) _ >>= _) _ _ _;refine wpAny_bind (wpAny_tryCatch (wpAny_holding (wpAny_bind (_H.abB q1 q2 (intsAre_of r1) (intsAre_of r2) (by show X.A.units+1<cLine;lia) ?_))))
  refine wpAny_bind (wpAny_holding (wpAny_truthy_bool ?_));refine wpAny_bind (wpAny_letGo (wpAny_pure ?_));cases mL:_H.lexLt (kv (j+1)) (kv i) with
  | true =>
   simp only[if_true];refine wpAny_bind ?_;refine wpAny_updateSeq wI.1 rfl (wpAny_bind (wpAny_letGo ?_));rw[wH];have wJ:∀b u,b≠S->iO.heap.get? b=some u->(iO.heap.update S (Obj.mapSeq λ_ => #[.ref b0,.ref kb])).get? b=some u:=λb u hb e=>(Heap.get?_update_other _ _ (Ne.symm hb)).trans e;obtain⟨c2,kj⟩:∃c2,(iO.heap.update S (Obj.mapSeq λ_ => #[.ref b0,.ref kb])).get? S=some (seqObj "list" #[.ref b0,.ref kb] c2):=⟨_,get?_update_seq wI.1 λ_ => #[.ref b0,.ref kb]⟩;have J2:=J'.Ao (tk:=iO.toks) (k:=S) (o:=seqObj "list" #[.ref a,.ref ka] c) (o':=seqObj "list" #[.ref b0,.ref kb] c2) (gr:=(It,jK)::pins) (List.mem_cons_self ..) tS.1 tS.2.1 pnS (λp hp=>List.mem_cons_of_mem _ hp) kj (As _ _) wJ;refine wpAny_pure ⟨plainId_quiet PySem.F.plain_min_loop _,ih (j+1) (j+1) H2 _ b0 kb c2 jK (by lia) bW J2 Av q_ ⟨jK,wJ _ _ ie.symm Aw.1,qC,uc⟩ hv Au λj' iC=>?_⟩
   by_cases e:j' = j+1
   ·rw[e];exact Ag _
   ·exact adH (adG mL) (t_ j' (by lia))
  | false =>
   simp only[Bool.false_eq_true,if_false];refine wpAny_bind (wpAny_letGo ?_);rw[wH];refine wpAny_pure ⟨plainId_quiet PySem.F.plain_min_loop _,ih (j+1) i H2 _ a ka c jK (by lia) bW J' Av q_ adQ ha R7 λj' iC=>?_⟩
   by_cases e:j' = j+1
   ·rw[e,mL];simp
   ·exact t_ j' (by lia)
theorem adR{Q:VK}(SS:j4 X scope cl ps fs fv)(tY:ps.length=1)(he:∀s H,PE (wB X X.A.in1 qual scope f c' cl (ps++fs) s H) body te)(q9:X.calm=true)(jJ:X.A.in1.depth<recursionLimit)(hu:X.A.units+16<cLine)
  (I:Inv X ((f,kla_obj name qual params body scope cl pm c' eL)::pins) σ H s) (hc:H c' = some (pQ c' qual)) (wG:c'≠P) (tab:bR P pos qual H) (kB:∀u,bindArgs (kla_fn name qual params body scope cl pm (.ref c') eL) ⟨[u],[]⟩=pure (ps.zip [u]))
  (hl:H l=some (.lst (as.map V.ref))) (dY:0<as.length)
  (pD:∀(j:Nat) (a:Addr) (H2:Hp),as[j]? = some a->SameBut P H H2->bR P pos qual H2->te (pO σ [.ref a] fv) H2 λv H'=>∃k,v = .ref k/\H' k=some (.tup ((kv j).map V.int))/\SameBut P H2 H'/\bR P pos qual H')
  (q:∀(i:Nat) (a:Addr) (H':Hp),as[i]? = some a->(∀j,j<as.length->¬ _H.lexLt (kv j) (kv i)=true)->SameBut P H H'->bR P pos qual H'->Q (.ref a) H') :
  wpAny (model X.prog X.w) X.A (call (.builtin "min") [.ref l] [(Str.ofString "key",.ref f)]) (EP X pins σ Q) X.xe s:=by
 have wH:(toString "min" ++ toString ".loop" : String) = "min.loop" := by decide
 have hh:=I.ok.hd q9;have tZ:l≠P:=tab.ne hl (by intro _ z;cases z)
 have As:∀(a:Array Value) (e:Nat) v,(seqObj "list" a e).data≠.cell v:=λa e v z=>by cases z
 obtain⟨aG,rv,pl,_⟩:=I.list (aE.of (K:=X.K) hl);have ei:=Aq rv;subst ei;have ud:=pl.isList;refine kmk_tree PySem.F.kind_min PySem.F.plain_min PySem.F.entry_min (kmk_min_key _ _) ?_
 show wpAny _ X.A.in1 (Builtin.Builtins.bindParams "min" ["key", "default"] 0 ⟨[],[(Str.ofString "key",.ref f)]⟩ >>= _) _ _ s;refine wpAny_bind (wpAny_of_eq (show Builtin.Builtins.bindParams "min" ["key", "default"] 0 ⟨[],[(Str.ofString "key",.ref f)]⟩=pure [some (.ref f),none] from rfl) ?_);refine wpAny_bind (wpAny_pure ?_);refine wpAny_bind (wpAny_pyIter_list ud ?_);refine wpAny_bind (wpAny_newList ?_ (Nat.zero_le _));rw[wH];refine wpAny_pure ⟨plainId_quiet PySem.F.plain_min_loop _,?_⟩;have k1:∀b o,s.heap.get? b=some o->(s.heap.push { cls:=.type "list_iterator",data:=.fields #[.ref l,.int 0 0] }).get? b=some o:=λb o e=>Heap.get?_push_of_some _ e;have gI:=Heap.get?_push_size s.heap (o:=({ cls:=.type "list_iterator",data:=.fields #[.ref l,.int 0 0] }:Obj)) rfl;have z1:(s.heap.push { cls:=.type "list_iterator",data:=.fields #[.ref l,.int 0 0] }).objs.size=s.heap.objs.size+1:=size_push' ..;generalize s.heap.push { cls:=.type "list_iterator",data:=.fields #[.ref l,.int 0 0] }=h1 at k1 gI z1 ⊢;have k2:∀b o,h1.get? b=some o->(h1.push (seqObj "list" #[] 0)).get? b=some o:=λb o e=>Heap.get?_push_of_some _ e;have gS:=Heap.get?_push_size h1 (o:=seqObj "list" #[] 0) rfl;have R8:=k2 _ _ gI;have kk:∀b o,s.heap.get? b=some o->(h1.push (seqObj "list" #[] 0)).get? b=some o:=λb o e=>k2 b o (k1 b o e);have I1:=I.kept (t':=s.toks) kk;have HW:s.heap.objs.size<=s.heap.objs.size:=Nat.le_refl _;have Ax:s.heap.objs.size<=h1.objs.size:=by lia
 have ie:h1.objs.size≠s.heap.objs.size:=by lia
 have own:∀b,s.heap.objs.size<=b->X.dG.heap.objs.size<=b/\(∀x c,X.env.cells.lookup x=some c->c≠b)/\∀p∈X.pn++((f,kla_obj name qual params body scope cl pm c' eL)::pins),p.1≠b:=λb hb=>by
  refine⟨Nat.le_trans I.sz hb,λx c e=>?_,λp hp=>Nat.ne_of_lt (Nat.lt_of_lt_of_le (Heap.lt_size (I.pin p hp).1) hb)⟩;obtain⟨v,o,z,_⟩:=I.cell x c e;exact Nat.ne_of_lt (Nat.lt_of_lt_of_le (Heap.lt_size z) hb)
 show codeAny _ _ _ _ { s with heap:=h1.push (seqObj "list" #[] 0),toks:=s.toks };have I2:Inv X ((h1.objs.size,seqObj "list" #[] 0)::(s.heap.objs.size,{ cls:=.type "list_iterator",data:=.fields #[.ref l,.int 0 0] })::(f,kla_obj name qual params body scope cl pm c' eL)::pins) σ H { s with heap:=h1.push (seqObj "list" #[] 0),toks:=s.toks }:=by
  refine I1.mF λp hp=>?_;rcases List.mem_cons.mp hp with z | hp
  ·rw[z];exact⟨gS,I.aO.fresh Ax,Nat.ne_of_gt (Nat.lt_of_lt_of_le I.lt Ax),I.vn Ax,As _ _⟩
  ·rcases List.mem_cons.mp hp with z | hp
   ·rw[z];exact⟨R8,I.aO.fresh HW,Nat.ne_of_gt I.lt,I.vn HW,λv z=>by cases z⟩
   ·exact I1.pin p (List.mem_append_right _ hp)
 have o1:=own s.heap.objs.size HW;have o2:=own h1.objs.size Ax;clear gI k1 z1;generalize h1.objs.size=S at *
 generalize s.heap.objs.size=It at *
 generalize h1.push (seqObj "list" #[] 0)=h2 at *
 have lst:∀ {gr:List (Addr×Obj)} {H':Hp} {s:Shared},Inv X gr σ H' s->SameBut P H H'->s.heap.IsList l (as.map Value.ref).toArray:=λI sb=>by
  obtain⟨aG,r,pl,_⟩:=I.list (aE.of (K:=X.K) (sb _ _ hl tZ));rw[← Aq r];exact pl.isList
 have hv:as[0]? = some as[0]:=List.getElem?_eq_getElem dY;generalize as[0] = b0 at hv;have hit:h2.IsListIter It l 0:=⟨_,R8,rfl,rfl⟩;have refl:SameBut P H H:=λ_ _ e _=>e;refine codeAny_builtin PySem.F.entry_min_loop ?_;rw[Around.under_plainId PySem.F.plain_min_loop _]
 show wpAny _ X.A.in1 (seqItems? (.ref S) >>= _) _ _ _;refine wpAny_bind (wpAny_seqItems gS rfl ?_)
 show wpAny _ X.A.in1 (tryCatch (pyNext (.ref It)) _ >>= _) _ _ _;refine wpAny_bind (wpAny_tryCatch (wpAny_pyNext_list_item (A:=X.A.in1) hit (lst I2 refl) (x:=.ref b0) (by simp[hv]) λh' tM iS=>?_))
 obtain⟨jK,HV,qC,uc⟩:=id tM;have mV:=iS.extBut S _ ie gS;have J0:=I2.Ao (tk:=s.toks) (k:=It) (o':=jK) (gr:=(S,seqObj "list" #[] 0)::(f,kla_obj name qual params body scope cl pm c' eL)::pins) (List.mem_cons_of_mem _ (List.mem_cons_self ..)) o1.1 o1.2.1 (λp hp=>by
  rcases List.mem_append.mp hp with z | z
  ·exact o1.2.2 p (List.mem_append_left _ z)
  ·rcases List.mem_cons.mp z with z | z
   ·rw[z];exact ie
   ·exact o1.2.2 p (List.mem_append_right _ z)) (λp hp=>by
  rcases List.mem_cons.mp hp with z | z
  ·rw[z];exact List.mem_cons_self ..
  ·exact List.mem_cons_of_mem _ (List.mem_cons_of_mem _ z)) HV (λv z=>by rw[uc] at z;cases z) λb u hb e=>iS.extBut b u hb e
 have pf:=J0.pin _ (List.mem_append_right _ (List.mem_cons_of_mem _ (List.mem_cons_of_mem _ (List.mem_cons_self ..))));have pR:=RQ J0.aO hc
 show wpAny _ X.A.in1 (tryCatch (holding [.ref b0] (call (.ref f) [.ref b0])) _ >>= _) _ _ _;refine wpAny_bind (wpAny_tryCatch (wpAny_holding (wpAny_mono (RO (us:=[.ref b0]) (vs:=[.ref b0]) SS J0 J0.ok.frames (λ_=>hh) jJ pf.1 pR (kB _) (.cons rfl .nil) (by simpa using tY.symm) (he _ H) (pD 0 b0 H hv refl tab)) (λx iO hq=>?_) λ_ _ hF=>hF.elim)))
 obtain⟨v,H2,J',rv,⟨kb,rfl,Au,Av,q_⟩,_⟩:=hq;cases rv;have Aw:=J'.pin (It,jK) (List.mem_append_right _ (List.mem_cons_self ..));have wI:=J'.pin (S,seqObj "list" #[] 0) (List.mem_append_right _ (List.mem_cons_of_mem _ (List.mem_cons_self ..)))
 show wpAny _ X.A.in1 (updateSeq S (λ_ => #[.ref b0,.ref kb]) >>= _) _ _ _;refine wpAny_bind ?_;refine wpAny_updateSeq wI.1 rfl ?_;rw[wH];have wJ:∀b u,b≠S->iO.heap.get? b=some u->(iO.heap.update S (Obj.mapSeq λ_ => #[.ref b0,.ref kb])).get? b=some u:=λb u hb e=>(Heap.get?_update_other _ _ (Ne.symm hb)).trans e;obtain⟨c2,kj⟩:∃c2,(iO.heap.update S (Obj.mapSeq λ_ => #[.ref b0,.ref kb])).get? S=some (seqObj "list" #[.ref b0,.ref kb] c2):=⟨_,get?_update_seq wI.1 λ_ => #[.ref b0,.ref kb]⟩;have J2:=J'.Ao (tk:=iO.toks) (k:=S) (o:=seqObj "list" #[] 0) (o':=seqObj "list" #[.ref b0,.ref kb] c2) (gr:=(It,jK)::(f,kla_obj name qual params body scope cl pm c' eL)::pins) (List.mem_cons_of_mem _ (List.mem_cons_self ..)) o2.1 o2.2.1 (λp hp=>by
  rcases List.mem_append.mp hp with z | z
  ·exact o2.2.2 p (List.mem_append_left _ z)
  ·rcases List.mem_cons.mp z with z | z
   ·rw[z];exact ie.symm
   ·exact o2.2.2 p (List.mem_append_right _ z)) (λp hp=>by
  rcases List.mem_cons.mp hp with z | z
  ·rw[z];exact List.mem_cons_self ..
  ·exact List.mem_cons_of_mem _ (List.mem_cons_of_mem _ z)) kj (As _ _) wJ
 refine wpAny_pure ⟨plainId_quiet PySem.F.plain_min_loop _,adP (kv:=kv) (S:=S) (It:=It) (pins:=(f,kla_obj name qual params body scope cl pm c' eL)::pins) SS tY he q9 jJ hu (List.mem_cons_self ..) hc wG kB hl tZ pD (λb hb=>?_) ie (λi a H' s3 ha t_ sb Ay I3=>?_) _ 0 0 H2 _ b0 kb c2 jK rfl dY J2 Av q_ ⟨jK,wJ _ _ ie.symm Aw.1,qC,uc⟩ hv Au λj' iC=>?_⟩
 ·rcases hb with z | z
  ·rw[z];exact o2
  ·rw[z];exact o1
 ·exact⟨.ref a,H',I3.mF λp hp=>I3.pin p (List.mem_append_right _ (List.mem_cons_of_mem _ hp)),rfl,q i a H' ha t_ sb Ay⟩
 ·rw[show j' = 0 by lia];exact Ag _
noncomputable def R9(P:Addr)(pos:Pos)(qual:Str)(te:TE)(fv:List Nat)(tl:TE):TE:=λσ H Q=>tl σ H λx H1=>∃(l:Addr) (as:List Addr) (kv:Nat->List Int),x = .ref l/\H1 l=some (.lst (as.map V.ref))/\0<as.length/\bR P pos qual H1/\
 (∀(j:Nat) (a:Addr) (H2:Hp),as[j]? = some a->SameBut P H1 H2->bR P pos qual H2->te (pO σ [.ref a] fv) H2 λv H'=>∃k,v = .ref k/\H' k=some (.tup ((kv j).map V.int))/\SameBut P H2 H'/\bR P pos qual H')/\
 ∀(i:Nat) (a:Addr) (H':Hp),as[i]? = some a->(∀j,j<as.length->¬ _H.lexLt (kv j) (kv i)=true)->SameBut P H1 H'->bR P pos qual H'->Q (.ref a) H'
theorem HX{c:Addr}{e:Expr}{tl:TE}{p1 p4 kp:Pos}(hgS:Gl X "min")(hmS:X.mg "min" = none)(B:au X.mg X.base c P)(pR:X.env.code = .ref c)(SS:j4 X scope cl ps fs fv)(tY:ps.length=1)
  (adS:defaultsOf params X.env=([],[])) (hq:X.env.qual ++ "<lambda>" = qual) (kB:∀c' pm eL u,bindArgs (kla_fn "<lambda>" qual params body scope cl pm (.ref c') eL) ⟨[u],[]⟩=pure (ps.zip [u]))
  (he:∀f c' s H,PE (wB X X.A.in1 qual scope f c' cl (ps++fs) s H) body te) (q9:X.calm=true) (jJ:X.A.in1.depth<recursionLimit) (hu:X.A.units+16<cLine) (hl:PE X e tl)
  (hs:starEach [e] X.env = [(false,eval e X.env)]:=by rfl) :
  PE X (.Call (.Name "min" p1) [e] [⟨some "key",.Lambda params body scope pos,kp⟩] p4) (R9 P pos qual te fv tl):=by
 intro pins s σ H Q I h;refine wpAny_Call_Name_kw (kX I hgS hmS boot_min (callWith_kw (he:=by rw[hs];rfl) (hplain:=by rw[hs];rfl) ?_))
 rw[hs];refine Calls.spliced_cons (aP (hl pins s σ H _ I h) λu s1 ⟨v,H1,I1,r1,q1⟩=>?_);obtain⟨l,as,kv,e,ow,dY,tab,pD,q⟩:=q1;subst e;cases r1;refine Calls.spliced_nil ?_;refine kws_cons (kla_eval adS ?_);rw[hq];refine adB B pR SS.mR I1 tab λf c' eL pm H' s' J sb q_ hc=>kws_nil ?_;have wG:c'≠P:=by
  obtain⟨ia,z,_⟩:=q_;exact sE hc z (by intro y;cases y)
 have tZ:l≠P:=tab.ne ow (by intro _ z;cases z)
 exact adR (kv:=kv) SS tY (he f c') q9 jJ hu J hc wG q_ (kB c' pm eL) (sb _ _ ow tZ) dY (λj a H2 ha rm HY=>pD j a H2 ha (sb.trans rm) HY) λi a H2 ha hb rm HY=>q i a H2 ha hb (sb.trans rm) HY
end
end _L
namespace _L
open PySem PySem.Spec PyProof.Rows
section
variable{X:Cx}{pins:List (Addr×Obj)}{σ:St}{H:Hp}{s:Shared}{scope:Scope}{cl:List (Str×Addr)}{N:List Str}{nt:Nat}{fv:List Nat}{fp:List Addr}
end
section
variable{X:Cx}{tg iter elt:Expr}{ifs:List Expr}{scope:Scope}{cl:List (Str×Addr)}{N:List Str}{nt:Nat}{fv:List Nat}{pos:Pos}{wi:TI}{g:TG}{tt:TT}{te:TE}
end
noncomputable def T1(m:Nat)(led:Bool):SetTable:={ mask:=7,place := #[m % 8],dummies := #[],finger:=0,led,moves:=0,plain:=true }
noncomputable def Az(m n:Nat):Nat:=if n % 8=m % 8 then(5*(n % 8)+1) % 8 else n % 8
noncomputable def T2(m n:Nat)(led:Bool):SetTable:={ mask:=7,place:=if Az m n<m % 8 then #[Az m n,m % 8] else #[m % 8,Az m n],dummies := #[],finger:=0,led,moves:=0,plain:=true }
noncomputable def Hg(m n:Nat)(y x:Value):Array (Int×Value):=if Az m n<m % 8 then #[((n:Int),x),((m:Int),y)] else #[((m:Int),y),((n:Int),x)]
section
variable{prog:Program}{w:World}{A:Around}{E:Value->Shared->Prop}{s:Shared}{a:Addr}{es Rh:Array (Int×Value)}{ep:Nat}{t t1:SetTable}{n:Int}{tk:Tok}
end
section
variable{prog:Program}{w:World}{A:Around}{R:Result->Shared->Prop}{s:Shared}{l I S:Addr}{m n:Nat}{tm tn:Tok}{led:Bool}
end
section
variable{prog:Program}{w:World}{A:Around}{E:Value->Shared->Prop}{s:Shared}
end
section
variable{prog:Program}{w:World}{A:Around}{E:Value->Shared->Prop}{s:Shared}{it d:Addr}{slot i n ep:Nat}{es:Array (Int×Value)}{t:SetTable}
end
section
variable{prog:Program}{w:World}{A:Around}{E:Value->Shared->Prop}{s:Shared}{d:Addr}{ep m n:Nat}{es:Array (Int×Value)}{tm tn:Tok}
end
section
variable{X:Cx}{e:Expr}{tl:TE}{p1 p2 p3 p4:Pos}
end
structure rq(K:PySem.W.Frag)(C:Addr):Prop where
 makes:PySem.W.makesIn K C=true
 init:PySem.W.findIn K (.ref C) "__init__" = some (some (.builtin "object.__init__"))
 kp:PySem.W.keepIn K (.ref C)=true
noncomputable def R_(C:Addr):TE:=λ_ H Q=>∀x dx,H x=none->H dx=none->dx≠x->Q (.ref x) (upd (upd H dx (.own x)) x (.ins C dx []))
section
variable{X:Cx}{C:Addr}{x:Str}{p pos:Pos}
theorem adT{pins:List (Addr×Obj)}{σ:St}{H:Hp}{s:Shared}{Q:VK}(M:rq X.K C)(I:Inv X pins σ H s)
  (h:∀x dx,H x=none->H dx=none->dx≠x->Q (.ref x) (upd (upd H dx (.own x)) x (.ins C dx []))) :
  wpAny (model X.prog X.w) X.A (call (.ref C) []) (EP X pins σ Q) X.xe s:=by
 have hq:=h (s.heap.objs.size+1) s.heap.objs.size (I.aO.fresh (Nat.le_succ _)) (I.aO.fresh (Nat.le_refl _)) (Nat.ne_of_lt (Nat.lt_succ_self _));have I2:=Inv.made (C:=C) I;have Y:=PySem.W.makes_of (M:=model X.prog X.w) I.cY M.makes;refine wpAny_call (abb I.cY M.makes M.init (λself=>PySem.W.Looks.of_pure (PySem.W.oi_bind self)) ?_);have e2:((s.heap.push PySem.W.emptyDict).push (PySem.W.instObj C s.heap.objs.size)).get? (s.heap.objs.size+1)=some (PySem.W.instObj C s.heap.objs.size):=by
  have:=Heap.get?_push_size (s.heap.push PySem.W.emptyDict) (o:=PySem.W.instObj C s.heap.objs.size) rfl;rwa [Heap.size_push] at this
 have t1:PySem.W.Looks (model X.prog X.w) ((s.heap.push PySem.W.emptyDict).push (PySem.W.instObj C s.heap.objs.size)) (typeOf (.ref (s.heap.objs.size+1))) (.ref C):=(PySem.W.Looks.ld e2).andThen .now;have t2:PySem.W.Looks (model X.prog X.w) ((s.heap.push PySem.W.emptyDict).push (PySem.W.instObj C s.heap.objs.size)) (isInstance (.ref (s.heap.objs.size+1)) (.type "object")) true:=t1.andThen (Y.top.keeps λb o e=>Heap.get?_push_of_some _ (Heap.get?_push_of_some _ e));refine codeAny_call_builtin PySem.W.oi_plain PySem.W.entry_oi (@PySem.W.check_slot (model X.prog X.w) _ _ _ "object.__init__" "object" "__init__" (.ref (s.heap.objs.size+1)) [] [] _ PySem.W.oi_kind PySem.W.oi_split t2 (PySem.W.oi_args (.ref (s.heap.objs.size+1))) ?_);rw[PySem.W.oi_run];exact wpAny_pure (And.intro rfl ⟨V.ref (s.heap.objs.size+1),_,I2,rfl,hq⟩)
theorem AA(M:rq X.K C)(hg:Gl X x)(hm:X.mg x=some (.ref C))(lq:(x == ("__debug__" : Str))=false:=by decide):PE X (.Call (.Name x p) [] [] pos) (R_ C):=by
 intro pins s σ H Q I h;refine wpAny_Call_Name_kw (vq I hg hm ?_ lq);exact PySem.W.callWith_K0 I.cY M.kp (adT M I h)
end
noncomputable def Sa(pW:List Addr)(pX:Sp)(pY:List Addr)(pZ:Sp)(m:Str)(E:XK)(ta:TE)(t:TA):TE:=λσ H Q=>ta σ H λx H1=>∃C a dx fs,x = .ref a/\H1 a=some (.ins C dx fs)/\fs.lookup m=none/\
 ((C∈pW/\t σ H1 λvs H2=>pX (x::(vs++[])) H2 Q E)\/(C∈pY/\t σ H1 λvs H2=>pZ (x::(vs++[])) H2 Q E))
section
variable{X:Cx}{CX:gf}{k1 k2:Nat}{f1 f2:Addr}{pW pY:List Addr}{ue uf:FuncData}{HZ mW:List Str}{pX pZ:Sp}{E:XK}{m:Str}{pos apos:Pos}{o e:Expr}{es:List Expr}{ta:TE}{t:TA}
theorem adU{pl:Sem Bool}(ho:PE X o ta)(gO:∀C∈pW,bL X.K C/\Meth X.K C m f1)(F1:aZ X.prog X.w X.K X.mg X.base CX k1 f1 ue HZ pX)(hr1:cK k1 X.A)(hb1:Binds X.K ue HZ [])
  (kj:∀C∈pY,bL X.K C/\Meth X.K C m f2) (F2:aZ X.prog X.w X.K X.mg X.base CX k2 f2 uf mW pZ) (hr2:cK k2 X.A) (ou:Binds X.K uf mW []) (hx:Passes CX X E) (ha:PA X (e::es) t)
  (cG:starEach (e::es) X.env=(false,eval e X.env)::starEach es X.env:=by rfl) (gz:(backTo pos (starEach es X.env)).any (·.1)=false:=by rfl)
  (oh:eval (.Call (.Attribute o m apos) (e::es) [] pos) X.env=(do
   let ov ← eval o X.env
   standAt apos.atName
   let (f,first) ← holding [ov] (getMethod ov m pl)
   callWith pos f first (backTo pos (starEach (e::es) X.env)) (backToKw pos (keywordEach [] X.env))):=by rfl):PE X (.Call (.Attribute o m apos) (e::es) [] pos) (Sa pW pX pY pZ m E ta t):=by
 intro pins s σ H Q I h;refine PySem.W.methodCall_KW (pl:=pl) (aP (ho pins s σ H _ I h) λu s1 hz=>?_) oh;obtain⟨x,H1,I1,rx,C,a,dx,fs,ex,ea,hl,q⟩:=hz;subst ex;cases (show u=Value.ref a from rx);rcases q with⟨hC,q⟩ | ⟨hC,q⟩
 ·obtain⟨c1,c2⟩:=gO C hC;refine pF I1 ea c1 c2 hl (PySem.W.callWith_K (first:=[.ref a]) (h₀:=X.base) I.ok.mod.mC c2.kp (aP (ha pos pins s1 σ H1 _ I1 q) λus s2 hw=>?_) cG gz)
  obtain⟨vs,H2,I2,r,q2⟩:=hw;exact⟨I2.cY,nQ (us:=.ref a::us) (vs:=.ref a::vs) F1 hr1 hb1 .nil hx I2 (.cons rfl r) q2⟩
 ·obtain⟨c1,c2⟩:=kj C hC;refine pF I1 ea c1 c2 hl (PySem.W.callWith_K (first:=[.ref a]) (h₀:=X.base) I.ok.mod.mC c2.kp (aP (ha pos pins s1 σ H1 _ I1 q) λus s2 hw=>?_) cG gz)
  obtain⟨vs,H2,I2,r,q2⟩:=hw;exact⟨I2.cY,nQ (us:=.ref a::us) (vs:=.ref a::vs) F2 hr2 ou .nil hx I2 (.cons rfl r) q2⟩
end
section
variable{ta:TA}{g:TG}{tb:TS}{D:Ends}{σ:St}{H:Hp}
end
structure adV(H:Hp)(t:Addr)(q:Ak)(m b:Addr):Prop where
 o:H t=some (.tup [.str q.kind,.int q.first,.int q.many,.ref m,.int q.at_,.int q.mU,lM q.iA,.ref b,.bl q.early])
 ms:H m=some (.tup (q.marks.map V.int))
 bh:H b=some (.tup (q.behind.map V.int))
structure adW(total:Int)(q:Ak):Prop where
 k:q.kind = "rest"\/q.kind = "read"\/q.kind = "write"
 r:q.kind = "rest"->q=⟨"rest",0,0,[],q.at_,0,none,[],false⟩
 f0:q.kind≠"rest"->0<=q.first/\1<=q.many/\q.many<=16/\q.first+q.many<=total
 a0:0<=q.at_
 s0:0<=q.mU/\q.mU<=20
 l0:∀x,q.iA=some x->0<=x/\x<=10000000000000
 b0:jZ q.behind
 m0:∀x∈q.marks,0<=x/\x<=1000000000
 mr:q.kind = "read"->q.marks = []/\q.early=false
 mw:q.kind = "write"->(q.marks.length:Int)=q.many
structure adX(K:PySem.W.Frag)(CA CD:Addr)(H:Hp)(D t:Addr)(p:Dr)(tk d m b dx ap l:Addr)(ts:List Addr)(m' b' bH:Addr):Prop where
 o:H t=some (.tup [.int p.n,.ref tk,.ref d])
 k:adV H tk p.q m b
 d:iB K CA CD H d p dx ap l ts m' b' bH
 ne:l≠D
structure mX(K:PySem.W.Frag)(CA CD:Addr)(H:Hp)(D D':Addr)(ts:List Addr)(ps:List Dr):Prop where
 l:H D' = some (.lst (ts.map V.ref))
 n:ts.length=ps.length
 t:∀(i:Nat) (t:Addr) (p:Dr),ts[i]? = some t->ps[i]? = some p->∃tk d m b dx ap l ts m' b' bH,adX K CA CD H D t p tk d m b dx ap l ts m' b' bH
section
variable{K:PySem.W.Frag}{CA CD:Addr}{H H':Hp}{D D' t:Addr}{ts:List Addr}{ps:List Dr}{p:Dr}
end
noncomputable def j5(fs:List (Str×V)):Bool:=(fs.lookup ("ring_cells" : Str)).isNone && ((fs.lookup ("inward" : Str)).isSome || (fs.lookup ("turn" : Str)).isSome)
noncomputable def jL(xs:List V):Prop:=∀i j,xs≠[.bl i,.bl j]
theorem jL.refs{ts:List Addr}:jL (ts.map V.ref):=λi j e=>by
 cases ts with
 | nil=>cases e
 | cons t ts=>cases e
theorem jL.ints{ns:List Int}:jL (ns.map V.int):=λi j e=>by
 cases ns with
 | nil=>cases e
 | cons t ts=>cases e
noncomputable def oz(o:HO):Prop:=(∀ps,o≠.gb ps)/\(∀C dx fs,o = .ins C dx fs->j5 fs=false)/\∀xs,o = .lst xs->jL xs
theorem oz.of{o:HO}(h1:∀ps,o≠.gb ps)(h2:∀C dx fs,o≠.ins C dx fs)(h3:∀xs,o≠.lst xs):oz o:=⟨h1,λ_ _ _ e=>absurd e (h2 _ _ _),λ_ e=>absurd e (h3 _)⟩
theorem oz.lst{xs:List V}(h:jL xs):oz (.lst xs):=⟨(λ_ z=>nomatch z),(λ_ _ _ z=>nomatch z),λ_ e=>by cases e;exact h⟩
theorem oz.ins{C dx:Addr}{fs:List (Str×V)}(h:j5 fs=false):oz (.ins C dx fs):=⟨(λ_ z=>nomatch z),(λ_ _ _ e=>by cases e;exact h),λ_ z=>nomatch z⟩
theorem adY:j5 [] = false:=rfl
theorem Sd{q:Ak}{m b:Addr}:j5 (fZ q m b)=false:=by simp[j5,fZ,List.lookup_cons,gi]
theorem Se{n:Int}{ap l:Addr}:j5 (iW n ap l)=false:=by simp[j5,iW,List.lookup_cons,gi]
noncomputable def cA(H H':Hp):Prop:=∀b o,H b=some o->oz o->H' b=some o
theorem bR.jM{P:Addr}{pos:Pos}{qual:Str}{H H':Hp}(t:bR P pos qual H)(k:SameBut P H H'):cA H H':=λ_ _ e n=>k _ _ e (t.ne e n.1)
theorem cA.of{H H':Hp}(s:aj H H'):cA H H':=λ_ _ e _=>s _ _ e
theorem cA.trans{H H1 H2:Hp}(s:cA H H1)(t:cA H1 H2):cA H H2:=λ_ _ e n=>t _ _ (s _ _ e n) n
theorem cA.tup{H H':Hp}(k:cA H H'){a:Addr}{xs:List V}(e:H a=some (.tup xs)):H' a=some (.tup xs):=k _ _ e (.of (λ_ z=>nomatch z) (λ_ _ _ z=>nomatch z) λ_ z=>nomatch z)
theorem cA.lst{H H':Hp}(k:cA H H'){a:Addr}{xs:List V}(e:H a=some (.lst xs))(h:jL xs:=by first | exact jL.refs | exact jL.ints | (intro i j z;cases z)):H' a=some (.lst xs):=k _ _ e (.lst h)
theorem cA.ins{H H':Hp}(k:cA H H'){a C dx:Addr}{fs:List (Str×V)}(e:H a=some (.ins C dx fs))(h:j5 fs=false:=by exact adY):H' a=some (.ins C dx fs):=k _ _ e (.ins h)
theorem Zn.kt{H H':Hp}{l:Addr}{ts:List Addr}{z:List (Int×Int)}(h:Zn H l ts z)(k:cA H H'):Zn H' l ts z:=⟨k.lst h.l,h.n,λi t p e1 e2=>k.tup (h.t i t p e1 e2)⟩
section
variable{K:PySem.W.Frag}{C CA CD:Addr}{H H':Hp}
theorem eK.kt{p:Addr}{q:Ak}{m b dx:Addr}(h:eK K C H p q m b dx)(k:cA H H'):eK K C H' p q m b dx:=⟨k.ins h.o Sd,k.tup h.ms,k.tup h.bh⟩
theorem iB.kt{p:Addr}{d:Dr}{dx ap l:Addr}{ts:List Addr}{m b bH:Addr}(h:iB K CA CD H p d dx ap l ts m b bH)(k:cA H H'):iB K CA CD H' p d dx ap l ts m b bH:=⟨k.ins h.o Se,h.a.kt k,h.c.kt k⟩
theorem fH.kt{l:Addr}{ps:List Addr}{ds:List Dr}(h:fH K CA CD H l ps ds)(k:cA H H'):fH K CA CD H' l ps ds :=
 ⟨k.lst h.l,h.n,λi p d e1 e2=>let ⟨dx,ap,l,ts,m,b,bH,a⟩:=h.t i p d e1 e2;⟨dx,ap,l,ts,m,b,bH,a.kt k⟩⟩
theorem bZ.kt{p:Addr}{P:Pl}{fp:List Addr}(h:bZ K C H p P fp)(k:cA H H'):bZ K C H' p P fp:=by
 obtain⟨dx,a1,a2,a3,a4,ts,fs,e,h⟩:=h;exact⟨dx,a1,a2,a3,a4,ts,fs,e,{ h with o:=k.ins h.o (by simp[j5,h.f1]),rc:=k.lst h.rc,sw:=k.lst h.sw,nc:=h.nc.kt k,cn:=k _ _ h.cn (.of (λ_ z=>nomatch z) (λ_ _ _ z=>nomatch z) λ_ z=>nomatch z)}⟩
end
noncomputable def bestOf(r:Dr->Int×Int)(ds:List Dr)(d:Dr):Prop:=d∈ds/\∀e∈ds,¬ ((r e).1<(r d).1\/(r e).1=(r d).1/\((r e).2<(r d).2\/(r e).2=(r d).2/\e.n<d.n))
noncomputable def jN(d:Dr):Int×Int:=match d.q.iA with
 | none=>(1,0)
 | some x=>(0,x)
noncomputable def adZ(K:PySem.W.Frag)(CA CD:Addr):Sp:=λvs H Q _=>∃(D:Addr) (ps:List Addr) (ds:List Dr),vs = [.ref D]/\fH K CA CD H D ps ds/\1<=ds.length/\ds.length<=100/\
 ∀d H',aj H H'->bestOf (λ_=>(0,0)) ds d->Q (.int d.n) H'
noncomputable def ad0(K:PySem.W.Frag)(CA CD:Addr)(P:Addr)(pos:Pos)(qual:Str):Sp:=λvs H Q _=>∃(D:Addr) (ps:List Addr) (ds:List Dr),vs = [.ref D]/\fH K CA CD H D ps ds/\1<=ds.length/\ds.length<=100/\bR P pos qual H/\
 ∀d H',SameBut P H H'->bR P pos qual H'->bestOf jN ds d->Q (.int d.n) H'
noncomputable def ad1(K:PySem.W.Frag)(CA CD:Addr):Sp:=λvs H Q _=>∃(x p:Addr) (r b:Int) (D:Addr) (ps:List Addr) (ds:List Dr),vs = [.ref x,.ref p,.int r,.int b,.ref D]/\fH K CA CD H D ps ds/\1<=ds.length/\ds.length<=100/\
 ∀d H',aj H H'->bestOf (λ_=>(0,0)) ds d->Q (.int d.n) H'
noncomputable def ad2(K:PySem.W.Frag)(CA CD:Addr)(P:Addr)(pos:Pos)(qual:Str):Sp:=λvs H Q _=>∃(x p:Addr) (r b:Int) (D:Addr) (ps:List Addr) (ds:List Dr),vs = [.ref x,.ref p,.int r,.int b,.ref D]/\fH K CA CD H D ps ds/\1<=ds.length/\ds.length<=100/\bR P pos qual H/\
 ∀d H',SameBut P H H'->bR P pos qual H'->bestOf jN ds d->Q (.int d.n) H'
noncomputable def cC(s:Stmt):Pos:=match (dJ s).getLast? with
 | some (.Return (some (.Attribute (.Call _ _ [⟨_,.Lambda _ _ _ pos,_⟩] _) _ _)) _)=>pos
 | _=>⟨0,0,0,0⟩
theorem Sf{a b c d:Int}:_H.lexLt [a,b] [c,d] = true↔a<c\/a=c/\b<d:=by
 rw[_H.Gy,_H.Gy,_H.Qj];split
 ·split
  ·simp;lia
  ·simp;lia
 ·simp;lia
structure j6(K:PySem.W.Frag)(CA CD:Addr)(H:Hp)(as:List Addr)(bs:List Dr):Prop where
 n:as.length=bs.length
 t:∀(i:Nat) (a:Addr) (d:Dr),as[i]? = some a->bs[i]? = some d->∃dx ap l ts m b bH,iB K CA CD H a d dx ap l ts m b bH
section
variable{K:PySem.W.Frag}{CA CD:Addr}{H:Hp}{as:List Addr}{bs:List Dr}
theorem j6.nil:j6 K CA CD H [] []:=⟨rfl,λi a d e=>by simp at e⟩
theorem j6.snoc(h:j6 K CA CD H as bs){a:Addr}{d:Dr}(hd:∃dx ap l ts m b bH,iB K CA CD H a d dx ap l ts m b bH):j6 K CA CD H (as++[a]) (bs++[d]):=by
 refine⟨by simp[h.n],λi a' d' e1 e2=>?_⟩
 have hn:=h.n;by_cases hi:i<as.length
 ·rw[List.getElem?_append_left hi] at e1;rw[List.getElem?_append_left (by lia)] at e2
  exact h.t i a' d' e1 e2
 ·rw[List.getElem?_append_right (by lia)] at e1
  rw[List.getElem?_append_right (by lia)] at e2
  have gC:i - as.length=0:=by
   have:=(List.getElem?_eq_some_iff.mp e1).1;simp at this;lia
  rw[gC] at e1;rw[← hn,gC] at e2;simp at e1 e2;subst e1 e2;exact hd
end
noncomputable def gD(ds:List Dr):List Dr:=ds.filter λd=>d.q.iA.isSome
theorem ad3(ds:List Dr):(gD ds).length<=ds.length:=List.length_filter_le _ _
theorem ad4{ds:List Dr}{i:Nat}(hi:i<ds.length):gD (ds.take (i+1))=if ds[i].q.iA.isSome then gD (ds.take i)++[ds[i]] else gD (ds.take i):=by
 unfold gD;rw[take_succ_get (List.getElem?_eq_getElem hi),List.filter_append];split
 ·rw[List.filter_cons,if_pos (by assumption),List.filter_nil]
 ·rw[List.filter_cons,if_neg (by assumption),List.filter_nil,List.append_nil]
noncomputable def wK(bs:List Dr)(j:Nat):List Int:=match bs[j]? with
 | none=>[]
 | some d=>[d.q.iA.getD 0,d.n]
theorem H_{bs:List Dr}{j:Nat}{d:Dr}(h:bs[j]? = some d):wK bs j = [d.q.iA.getD 0,d.n]:=by unfold wK;rw[h]
theorem ad5{ds:List Dr}{i:Nat}{d:Dr}(hd:(gD ds)[i]? = some d)(least:∀j,j<(gD ds).length->¬ _H.lexLt (wK (gD ds) j) (wK (gD ds) i)=true):bestOf jN ds d:=by
 have hm:=List.mem_filter.mp (List.mem_of_getElem? hd);refine⟨hm.1,λe he=>?_⟩;obtain⟨x,hx⟩:=Option.isSome_iff_exists.mp hm.2;have ed:jN d=(0,x):=by unfold jN;rw[hx]
 rw[ed];cases hl:e.q.iA with
 | none =>
  have ee:jN e=(1,0):=by unfold jN;rw[hl]
  rw[ee];dsimp only;lia
 | some y =>
  have ee:jN e=(0,y):=by unfold jN;rw[hl]
  rw[ee];dsimp only;have hme:e∈gD ds:=List.mem_filter.mpr ⟨he,by rw[hl];rfl⟩
  obtain⟨j,hj,ej⟩:=List.mem_iff_getElem.mp hme;have:=least j hj;rw[H_ (show (gD ds)[j]? = some e by rw[List.getElem?_eq_getElem hj,ej]),H_ hd,Sf,hl,hx] at this
  simp only[Option.getD_some] at this;lia
theorem ad6{ds:List Dr}{d:Dr}(h0:gD ds = [])(h:bestOf (λ_=>(0,0)) ds d):bestOf jN ds d:=by
 have g:∀e∈ds,jN e=(1,0):=λe he=>by
  cases hl:e.q.iA with
  | none=>unfold jN;rw[hl]
  | some y =>
   have:e∈gD ds:=List.mem_filter.mpr ⟨he,by rw[hl];rfl⟩
   rw[h0] at this;exact nomatch this
 refine⟨h.1,λe he=>?_⟩;have:=h.2 e he;rw[g e he,g d h.1];dsimp only at this ⊢;lia
section
variable{K:PySem.W.Frag}{CA CD:Addr}{H H':Hp}{D:Addr}{as:List Addr}{bs:List Dr}
end
noncomputable def bX(d:Dr):Int×Int:=d.c.getD 0 (0,0)
noncomputable def j7(_:Pl)(r _:Int)(d:Dr):Int×Int:=((((bX d).1 - r).natAbs:Int),0)
noncomputable def AB(P:Pl)(r b:Int)(d:Dr):Int×Int:=(iV P (r,b) (bX d),0)
noncomputable def ad7(K:PySem.W.Frag)(CA CD:Addr):Sp:=λvs H Q _=>∃(p:Addr) (d:Dr) (dx ap l:Addr) (ts:List Addr) (m b bH:Addr),vs = [.ref p]/\iB K CA CD H p d dx ap l ts m b bH/\1<=d.c.length/\Q (.int (bX d).1) H
noncomputable def ad8(K:PySem.W.Frag)(CA CD:Addr)(P:Addr)(pos:Pos)(qual:Str):Sp:=λvs H Q _=>∃(r:Int) (D:Addr) (ps:List Addr) (ds:List Dr) (P':Pl) (b:Int),vs = [.int r,.ref D]/\fH K CA CD H D ps ds/\1<=ds.length/\ds.length<=100/\(∀d∈ds,1<=d.c.length)/\bR P pos qual H/\
 ∀d H',SameBut P H H'->bR P pos qual H'->bestOf (j7 P' r b) ds d->Q (.int d.n) H'
noncomputable def ad9(K:PySem.W.Frag)(cs:List Addr)(CA CD:Addr):Sp:=λvs H Q _=>∃(C p:Addr) (P:Pl) (fp:List Addr) (r b:Int) (dp:Addr) (d:Dr) (dx ap l:Addr) (ts:List Addr) (m b' bH:Addr),vs = [.ref p,.int r,.int b,.ref dp]/\C∈cs/\bZ K C H p P fp/\g_ P/\0<=r/\r<P.rc.length/\
 iB K CA CD H dp d dx ap l ts m b' bH/\1<=d.c.length/\h_ P d.c/\∀H',aj H H'->Q (.int (iV P (r,b) (bX d))) H'
noncomputable def ad_(K:PySem.W.Frag)(cs:List Addr)(CA CD:Addr)(P:Addr)(pos:Pos)(qual:Str):Sp:=λvs H Q _=>∃(C p:Addr) (P':Pl) (fp:List Addr) (r b:Int) (D:Addr) (ps:List Addr) (ds:List Dr),vs = [.ref p,.int r,.int b,.ref D]/\C∈cs/\bZ K C H p P' fp/\g_ P'/\0<=r/\r<P'.rc.length/\
 fH K CA CD H D ps ds/\1<=ds.length/\ds.length<=100/\(∀d∈ds,1<=d.c.length/\h_ P' d.c)/\bR P pos qual H/\
 ∀d H',SameBut P H H'->bR P pos qual H'->bestOf (AB P' r b) ds d->Q (.int d.n) H'
noncomputable def Sg(K:PySem.W.Frag)(cs:List Addr)(CA CD:Addr)(P:Addr)(pos:Pos)(qual:Str)(rk:Pl->Int->Int->Dr->Int×Int):Sp:=λvs H Q _=>∃(x C p:Addr) (P':Pl) (fp:List Addr) (r b:Int) (D:Addr) (ps:List Addr) (ds:List Dr),vs = [.ref x,.ref p,.int r,.int b,.ref D]/\C∈cs/\bZ K C H p P' fp/\g_ P'/\0<=r/\r<P'.rc.length/\
 fH K CA CD H D ps ds/\1<=ds.length/\ds.length<=100/\(∀d∈ds,1<=d.c.length/\h_ P' d.c)/\bR P pos qual H/\
 ∀d H',SameBut P H H'->bR P pos qual H'->bestOf (rk P' r b) ds d->Q (.int d.n) H'
noncomputable def ug(rk:Dr->Int×Int)(bs:List Dr)(j:Nat):List Int:=match bs[j]? with
 | none=>[]
 | some d=>[(rk d).1,d.n]
theorem AD{rk:Dr->Int×Int}{bs:List Dr}{j:Nat}{d:Dr}(h:bs[j]? = some d):ug rk bs j = [(rk d).1,d.n]:=by unfold ug;rw[h]
theorem Sh{rk:Dr->Int×Int}{ds:List Dr}{i:Nat}{d:Dr}(h2:∀d,(rk d).2=0)(hd:ds[i]? = some d)(least:∀j,j<ds.length->¬ _H.lexLt (ug rk ds j) (ug rk ds i)=true):bestOf rk ds d:=by
 refine⟨List.mem_of_getElem? hd,λe he=>?_⟩;obtain⟨j,hj,ej⟩:=List.mem_iff_getElem.mp he;have:=least j hj;rw[AD (show ds[j]? = some e by rw[List.getElem?_eq_getElem hj,ej]),AD hd,Sf] at this
 rw[h2,h2];lia
end _L
namespace _L
open PySem PySem.Spec PyProof.Rows PySem.W
section
variable{prog:Program}{w:World}{A:Around}{E:Value->Shared->Prop}{s:Shared}{h₀:Heap}{L a kS:Addr}{m:Str->Option Value}{news:List (Addr×Obj)}{vs ks:List Value}
end
section
variable{X:Cx}{pins:List (Addr×Obj)}{σ:St}{H:Hp}{s:Shared}{m:Str->Option Value}{kS f:Addr}{kv:Nat->Int}{k:Nat}{fd:FuncData}{p:Str}{sp:Sp}{xs:List V}{A:Around}
end
section
variable{X:Cx}{pins:List (Addr×Obj)}{σ:St}{H:Hp}{s:Shared}{f:Addr}{kv:Nat->Int}{k:Nat}{fd:FuncData}{p:Str}{sp:Sp}{xs:List V}{l:Addr}
end
end _L
namespace _L
open PySem PySem.Spec PyProof.Rows
section
variable{X:Cx}
end
noncomputable def c8(n:Int):Key:=.inl n
theorem Si(kvs:List (Key×V))(k:Key)(v:V):(putK kvs k v).length<=kvs.length+1:=by
 unfold putK;split
 ·rw[List.length_map];lia
 ·rw[List.length_append];exact Nat.le_refl _
theorem Ia{α:Type}{l:List α}{p:α->Bool}{i:Nat}{a:α}(h:l[i]? = some a):(l.take (i+1)).filter p=(l.take i).filter p++(if p a then [a] else []):=by
 rw[take_succ_get h,List.filter_append,List.filter_cons];split <;> rfl
noncomputable def jm(c i:Bool)(B:Addr):List (Str×V):=[("calm",.bl c),("inward",.bl i),("batch",.ref B)]
structure Lt where
 c:Bool
 i:Bool
 b:List Int
structure fz(C:Addr)(H:Hp)(x:Addr)(st:Lt)(dx B:Addr):Prop where
 o:H x=some (.ins C dx (jm st.c st.i B))
 d:∃kvs:List (Key×V),H B=some (.dK kvs)/\kvs.length<=1000/\∀n:Int,(cL kvs (c8 n)).isSome=decide (n∈st.b)
section
variable{C:Addr}{H H':Hp}{x dx B:Addr}{st:Lt}
theorem fz.same(h:fz C H x st dx B)(s:aj H H'):fz C H' x st dx B:=⟨s _ _ h.o,let ⟨kvs,a,r⟩:=h.d;⟨kvs,s _ _ a,r⟩⟩
theorem Sj{c i:Bool}:j5 (jm c i B)=true:=by simp[j5,jm,List.lookup_cons,gi]
theorem fz.jM(h:fz C H x st dx B)(s:SameBut x H H'):cA H H':=λb o e n=>s b o e λz=>by
 rw[z,h.o] at e;cases e;have:=n.2.1 _ _ _ rfl;rw[Sj] at this;cases this
theorem bR.but{P:Addr}{pos:Pos}{qual:Str}{fs:List (Str×V)}(t:bR P pos qual H)(s:SameBut x H H')(hx:H x=some (.ins C dx fs)):bR P pos qual H':=by
 obtain⟨ps,e,tr,c⟩:=t;refine⟨ps,s _ _ e (λz=>by rw[z,hx] at e;cases e),tr,?_⟩
 rcases c with c | ⟨c',e1,e2⟩
 ·exact .inl c
 ·exact .inr ⟨c',e1,s _ _ e2 (λz=>by rw[z,hx] at e2;cases e2)⟩
theorem fz.tab{P:Addr}{pos:Pos}{qual:Str}(h:fz C H x st dx B)(t:bR P pos qual H)(s:SameBut P H H'):fz C H' x st dx B :=
 ⟨s _ _ h.o (t.ne h.o (λ_ z=>nomatch z)),let ⟨kvs,a,r⟩:=h.d;⟨kvs,s _ _ a (t.ne a (λ_ z=>nomatch z)),r⟩⟩
end
noncomputable def mY(i:Bool)(r:Int)(d:Dr):Bool:=if i then decide (r<=(bX d).1) else decide ((bX d).1<=r)
noncomputable def ff(i:Bool)(r:Int)(ds:List Dr):List Dr:=ds.filter (mY i r)
theorem Sk{i:Bool}{r:Int}{ds:List Dr}{k:Nat}(hk:k<ds.length):ff i r (ds.take (k+1))=if mY i r ds[k] = true then ff i r (ds.take k)++[ds[k]] else ff i r (ds.take k):=by
 unfold ff;rw[take_succ_get (List.getElem?_eq_getElem hk),List.filter_append];split
 ·rw[List.filter_cons,if_pos (by assumption),List.filter_nil]
 ·rw[List.filter_cons,if_neg (by assumption),List.filter_nil,List.append_nil]
theorem AE(i:Bool)(r:Int)(ds:List Dr):(ff i r ds).length<=ds.length:=List.length_filter_le _ _
theorem AF{i:Bool}{r:Int}{ds:List Dr}{d:Dr}(h:d∈ff i r ds):d∈ds:=(List.mem_filter.mp h).1
theorem aea{i:Bool}{r:Int}{ds:List Dr}(h1:1<=ds.length)(h:ff i r ds = []):1<=(ff (!i) r ds).length:=by
 cases ds with
 | nil=>simp at h1
 | cons d ds =>
  have hn:¬ mY i r d=true:=λz=>by
   have:d∈ff i r (d::ds):=List.mem_filter.mpr ⟨List.mem_cons_self ..,z⟩;rw[h] at this;exact nomatch this
  have hm:d∈ff (!i) r (d::ds):=List.mem_filter.mpr ⟨List.mem_cons_self ..,by unfold mY at hn ⊢;cases i <;> simp at hn ⊢ <;> lia⟩
  exact List.length_pos_of_mem hm
noncomputable def aeb(K:PySem.W.Frag)(CA CD:Addr):Sp:=λvs H Q _=>∃(i:Bool) (r:Int) (D:Addr) (ps:List Addr) (ds:List Dr),vs = [.bl i,.int r,.ref D]/\fH K CA CD H D ps ds/\ds.length<=100/\(∀d∈ds,1<=d.c.length)/\
 ∀D' ia H',aj H H'->H D' = none->fH K CA CD H' D' ia (ff i r ds)->Q (.ref D') H'
noncomputable def aec(K:PySem.W.Frag)(CA CD:Addr):Sp:=λvs H Q _=>∃(D:Addr) (ps:List Addr) (ds:List Dr),vs = [.ref D]/\fH K CA CD H D ps ds/\ds.length<=100/\
 ∀B kvs H',aj H H'->H B=none->H' B=some (.dK kvs)->kvs.length<=1000->(∀n:Int,(cL kvs (c8 n)).isSome=decide (n∈ds.map (·.n)))->Q (.ref B) H'
noncomputable def dZ(st:Lt)(ds:List Dr):Lt:=if st.c then(if ds.any (λd=>decide (d.n∈st.b)) then st else { st with b:=ds.map (·.n)}) else st
noncomputable def eN(st:Lt)(ds:List Dr):List Dr:=if st.c then ds.filter (λd=>decide (d.n∈(dZ st ds).b)) else ds
noncomputable def lN(st:Lt)(r:Int)(ds:List Dr):Lt:={ st with i:=if (ff st.i r ds).length=0 then !st.i else st.i }
theorem aed{st:Lt}{r:Int}{ds:List Dr}(h1:1<=ds.length):1<=(ff (lN st r ds).i r ds).length:=by
 unfold lN;dsimp only;split
 ·rename_i h;exact aea h1 (List.length_eq_zero_iff.mp h)
 ·lia
theorem Sl{st:Lt}{ds:List Dr}(h1:1<=ds.length):1<=(eN st ds).length:=by
 unfold eN dZ;split
 ·rename_i hc;split
  ·rename_i ha;obtain⟨d,hd,he⟩:=List.any_eq_true.mp ha;exact List.length_pos_of_mem (List.mem_filter.mpr ⟨hd,he⟩)
  ·cases ds with
   | nil=>simp at h1
   | cons d ds=>exact List.length_pos_of_mem (a:=d) (List.mem_filter.mpr ⟨List.mem_cons_self ..,by simp⟩)
 ·exact h1
theorem aee(st:Lt)(ds:List Dr):(eN st ds).length<=ds.length:=by
 unfold eN;split
 ·exact List.length_filter_le _ _
 ·exact Nat.le_refl _
theorem wL{st:Lt}{ds:List Dr}{d:Dr}(h:d∈eN st ds):d∈ds:=by
 unfold eN at h;split at h
 ·exact(List.mem_filter.mp h).1
 ·exact h
noncomputable def d0:Dr:=⟨0,⟨"",0,0,[],0,0,none,[],false⟩,[]⟩
section
variable{K:PySem.W.Frag}{CA CD:Addr}{H H':Hp}{D D':Addr}{ts oA:List Addr}{ps mW:List Dr}
end
structure wM(nc:List (Int×Int))(ds ps:List Dr):Prop where
 nd:((ds++ps).map (·.n)).Nodup
 ok:∀p∈ds++ps,adW nc.length p.q/\p.q.kind≠"rest"/\p.q.at_<=1000000000000/\0<=p.n/\p.n<=99/\p.c=b_ nc p.q.first p.q.many
 n32:ds.length+ps.length<=32
noncomputable def Sm(K:PySem.W.Frag)(CA CD CL P:Addr)(pos:Pos)(qual:Str)(H6:Hp)(a p wt x1 d1:Addr)(nc:List (Int×Int))(m:Nat)(σ:St)(H':Hp):Prop :=
 ∃(Lp Dd:Addr) (gW:List Addr) (d7:List Dr) (gX:List Addr) (d8:List Dr) (i:Bool) (ring:Int) (B':Addr) (y8 y9 lO iD:Option V),σ = [some (.ref a),some (.ref p),some (.ref wt),some (.ref Lp),some (.ref x1),some (.bl i),some (.int ring),some (.ref Dd),y8,y9,lO,iD]/\
  cA H6 H'/\bR P pos qual H'/\fz CL H' x1 ⟨false,i,[]⟩ d1 B'/\mX K CA CD H' Lp Lp gW d7/\mX K CA CD H' Dd Dd gX d8/\wM nc d8 d7/\d8.length+d7.length=m
section
variable{K:PySem.W.Frag}{CA CD:Addr}{H:Hp}{D D':Addr}{ts:List Addr}{ps:List Dr}{X:Prop}
theorem fH.el(h:fH K CA CD H D ts ps)(i:Nat)(t:Addr)(p:Dr)(e1:ts[i]? = some t)(e2:ps[i]? = some p)(k:∀dx ap l tx m b bH,iB K CA CD H t p dx ap l tx m b bH->X):X :=
 let ⟨dx,ap,l,tx,m,b,bH,a⟩:=h.t i t p e1 e2;k dx ap l tx m b bH a
end
@[elab_as_elim] theorem Sm.el{K:PySem.W.Frag}{CA CD CL P:Addr}{pos:Pos}{qual:Str}{H6:Hp}{a p wt x1 d1:Addr}{nc:List (Int×Int)}{m:Nat}{σ:St}{H':Hp}{X:St->Prop}(h:Sm K CA CD CL P pos qual H6 a p wt x1 d1 nc m σ H')
  (k:∀(Lp Dd:Addr) (gW:List Addr) (d7:List Dr) (gX:List Addr) (d8:List Dr) (i:Bool) (ring:Int) (B':Addr) (y8 y9 lO iD:Option V),cA H6 H'->bR P pos qual H'->fz CL H' x1 ⟨false,i,[]⟩ d1 B'->mX K CA CD H' Lp Lp gW d7->mX K CA CD H' Dd Dd gX d8->wM nc d8 d7->d8.length+d7.length=m->X [some (.ref a),some (.ref p),some (.ref wt),some (.ref Lp),some (.ref x1),some (.bl i),some (.int ring),some (.ref Dd),y8,y9,lO,iD]):X σ:=by
 obtain⟨Lp,Dd,gW,d7,gX,d8,i,ring,B',y8,y9,lO,iD,rfl,kt,tb,hl,Ib,Ic,bo,hm⟩:=h;exact k Lp Dd gW d7 gX d8 i ring B' y8 y9 lO iD kt tb hl Ib Ic bo hm
noncomputable def Ie(t:TS):TS:=λD σ H=>∀N:St->Hp->Prop,(∀dU H1,@Later ⟨D.nx⟩ dU H1->N dU H1)->t { D with nx:=N } σ H
theorem d9{X:Cx}{st:Stmt}{t:TS}(h:PS X st t):PS X st (Ie t):=λpins s σ H D I q=>h pins s σ H D I (q D.nx λ_ _ z=>z)
theorem dN{t b:TS}{D:Ends}{σ:St}{H:Hp}(h:∀N:St->Hp->Prop,(∀dU H1,b D dU H1->N dU H1)->t { D with nx:=N } σ H):F_ (Ie t) b D σ H:=λN hN=>h N hN
theorem aef{c:TT}{tb:TS}{D:Ends}{σ:St}{H:Hp}(h:∀B:TS,(∀D σ H,tb D σ H->B D σ H)->Gb c B D σ H):Gb c tb D σ H:=h tb λ_ _ _ z=>z
section
variable{H H1 H2:Hp}
end
structure p5(K:PySem.W.Frag)(C:Addr):Prop where
 cl:bL K C
 n1:bO K C "calm"
 n2:bO K C "inward"
 n3:bO K C "batch"
noncomputable def wN(CL CS C:Addr)(sw:Bool):Prop:=C=CL/\sw=false\/C=CS/\sw=true
theorem wN.mem{CL CS C:Addr}{sw:Bool}(h:wN CL CS C sw):C∈[CL,CS]:=by
 rcases h with⟨rfl,_⟩ | ⟨rfl,_⟩ <;> simp
noncomputable def jo(sw:Bool)(st:Lt)(r:Int)(ds:List Dr):Lt:=if sw=true then st else lN st r ds
noncomputable def oB(sw:Bool)(r:Int)(ds:List Dr):Int:=if sw=true then(if (ff true r ds).length=0 then 0 else r) else r
noncomputable def lP(sw:Bool)(i:Bool)(r:Int)(ds:List Dr):List Dr:=if sw=true then(if (ff true r ds).length=0 then ds else ff true r ds) else ff i r ds
theorem Ig{sw i:Bool}{r:Int}{ds:List Dr}{d:Dr}(h:d∈lP sw i r ds):d∈ds:=by
 unfold lP at h;split at h
 ·split at h
  ·exact h
  ·exact AF h
 ·exact AF h
noncomputable def AG(K:PySem.W.Frag)(cs:List Addr):Sp:=λvs H Q _=>∃(C x dx:Addr) (c:Bool) (fs:List (Str×V)),vs = [.ref x]/\C∈cs/\p5 K C/\H x=some (.ins C dx fs)/\(fs = [(("calm" : Str),V.bl c)]\/∃i B,fs=jm c i B)/\
 ∀B H',H B=none->SameBut x H H'->fz C H' x ⟨c,true,[]⟩ dx B->Q .aV H'
noncomputable def So(K:PySem.W.Frag)(cs:List Addr):Sp:=λvs H Q _=>∃(C x dx:Addr) (c:Bool),vs = [.ref x,.bl c]/\C∈cs/\p5 K C/\H x=some (.ins C dx [])/\
 ∀B H',H B=none->SameBut x H H'->fz C H' x ⟨c,true,[]⟩ dx B->Q .aV H'
section
variable{H H':Hp}{S:Addr}{i sw:Bool}
end
noncomputable def Sq(K:PySem.W.Frag)(CA CD CR P:Addr)(pos:Pos)(qual:Str)(sw:Bool)(H6:Hp)(a p wt x1 d1 S:Addr)(nc:List (Int×Int))(m:Nat)(σ:St)(H':Hp):Prop :=
 ∃(Lp Dd Bt:Addr) (gW:List Addr) (d7:List Dr) (gX:List Addr) (d8:List Dr) (i:Bool) (bs:List Int) (ring:Int) (B':Addr) (y9 lO iD lQ:Option V),σ = [some (.ref a),some (.ref p),some (.ref wt),some (.ref Lp),some (.ref x1),some (.ref S),some (.int ring),some (.ref Dd),some (.ref Bt),y9,lO,iD,lQ]/\
  cA H6 H'/\bR P pos qual H'/\fz CR H' x1 ⟨true,i,bs⟩ d1 B'/\H' S=some (.lst [.bl i,.bl sw])/\H' Bt=some (.lst (bs.map V.int))/\bs.length<=32/\mX K CA CD H' Lp Lp gW d7/\mX K CA CD H' Dd Dd gX d8/\wM nc d8 d7/\d8.length+d7.length=m
@[elab_as_elim] theorem Sq.el{K:PySem.W.Frag}{CA CD CR P:Addr}{pos:Pos}{qual:Str}{sw:Bool}{H6:Hp}{a p wt x1 d1 S:Addr}{nc:List (Int×Int)}{m:Nat}{σ:St}{H':Hp}{X:St->Prop}(h:Sq K CA CD CR P pos qual sw H6 a p wt x1 d1 S nc m σ H')
  (k:∀(Lp Dd Bt:Addr) (gW:List Addr) (d7:List Dr) (gX:List Addr) (d8:List Dr) (i:Bool) (bs:List Int) (ring:Int) (B':Addr) (y9 lO iD lQ:Option V),cA H6 H'->bR P pos qual H'->fz CR H' x1 ⟨true,i,bs⟩ d1 B'->H' S=some (.lst [.bl i,.bl sw])->H' Bt=some (.lst (bs.map V.int))->bs.length<=32->mX K CA CD H' Lp Lp gW d7->mX K CA CD H' Dd Dd gX d8->wM nc d8 d7->d8.length+d7.length=m->X [some (.ref a),some (.ref p),some (.ref wt),some (.ref Lp),some (.ref x1),some (.ref S),some (.int ring),some (.ref Dd),some (.ref Bt),y9,lO,iD,lQ]):X σ:=by
 obtain⟨Lp,Dd,Bt,gW,d7,gX,d8,i,bs,ring,B',y9,lO,iD,lQ,rfl,kt,tb,hl,hSt,hBt,Ih,Ib,Ic,bo,hm⟩:=h;exact k Lp Dd Bt gW d7 gX d8 i bs ring B' y9 lO iD lQ kt tb hl hSt hBt Ih Ib Ic bo hm
section
variable{X:Cx}
theorem Inv.freeze{pins:List (Addr×Obj)}{σ:St}{H:Hp}{s:Shared}{a:Addr}{kvs:List (Key×V)}{ob:Obj}(I:Inv X pins σ H s)(e:H a=some (.dK kvs))(ho:s.heap.get? a=some ob):Inv X pins σ (upd H a (.cS ob (.dK kvs))) s:=by
 have ne:∀b v,H b=some v->(∀kvs,v≠.dK kvs)->upd H a (.cS ob (.dK kvs)) b=some v:=λb v q z=>by rw[aI (λw=>by rw[w,e] at q;cases q;exact z _ rfl)];exact q
 refine I.un (t':=s.toks) (h':=s.heap) ⟨λb o q n hb _=>q,λb o q n hb _=>⟨o.slots,q⟩,λb o q n _=>?_,λb o q _=>⟨o,q⟩,λb xs q=>ne b _ q (λ_ z=>nomatch z),λb o u q=>ne b _ q (λ_ z=>nomatch z),λb ps q=>⟨#[],by rw[ne b _ q (λ_ z=>nomatch z)];simp⟩⟩ λb v q=>?_
 ·rw[aI (λz=>by rw[z,e] at n;cases n)];exact n
 ·by_cases z:b=a
  ·subst z;rw[aH] at q;cases q;exact⟨ho,(I.aO b _ e).jz (λ_ _ _ e=>e) (λd q=>ne d _ q (λ_ z=>nomatch z)) (λd xs q=>ne d _ q (λ_ z=>nomatch z))⟩
  ·rw[aI z] at q;exact(I.aO b v q).jz (λ_ _ _ e=>e) (λd q=>ne d _ q λ_ z=>nomatch z) λd xs q=>ne d _ q λ_ z=>nomatch z
theorem Ss{P:Program}{w:World}{H:Hp}{h:Heap}{a:Addr}{ob:Obj}{kvs:List (Key×V)}{es:Array DictEntry}{ep:Nat}(oE:ob.data = .dict es ep)(x:dQ P w H h a (.cS ob (.dK kvs))) :
  ∃vs,KV kvs vs/\h.DictAt (f_ P w) a vs ep:=by
 obtain⟨ho,_,_,vs,kv,o,Hg,Ri,lu,c,d,r⟩:=x;rw[ho] at lu;cases lu;rw[oE] at d;cases d;exact⟨vs,kv,ob,es,ho,c,oE,r⟩
end
section
variable{X:Cx}{k:Nat}{f:Addr}{fd:FuncData}{ps:List Str}{sp:Sp}{x:Str}{p pos:Pos}{e:Expr}{es:List Expr}{t:TA}{a:Value}
end
noncomputable def shF(pl:Addr)(t u:Int):List (Str×V):=[("pairs",.ref pl),("turn",.int t),("used",.int u)]
structure aeg(C:Addr)(H:Hp)(x:Addr)(sh:List (Int×Int))(t u:Int)(dx pl:Addr)(oF:List Addr):Prop where
 o:H x=some (.ins C dx (shF pl t u))
 p:Zn H pl oF sh
section
variable{C:Addr}{H H':Hp}{x dx pl:Addr}{oF:List Addr}{sh:List (Int×Int)}{t u:Int}
end
section
variable{K:PySem.W.Frag}{C CA CD:Addr}{H H':Hp}
end
noncomputable def aeh(sh:List (Int×Int))(t:Int):Int:=(sh.getD t.toNat (0,0)).2
section
variable{H H':Hp}{l:Addr}{ts oA:List Addr}{z z2:List (Int×Int)}
end
section
variable{K:PySem.W.Frag}{CA CD:Addr}{H H':Hp}{D D':Addr}{ts oA:List Addr}{ps mW:List Dr}
end
structure Su(K:PySem.W.Frag)(CA CD CS:Addr)(H6:Hp)(shl:Addr)(qE:List Addr)(x1 d1 pl:Addr)(oF:List Addr)(S:Addr)(sh:List (Int×Int))(nc:List (Int×Int))(m:Nat)(H':Hp)(Lp Dd:Addr)(gW:List Addr)(d7:List Dr)(gX:List Addr)(d8:List Dr)(t u:Int):Prop where
 kt:cA H6 H'
 s:H' S=some (.lst [.int t,.int u])
 x:aeg CS H' x1 sh t u d1 pl oF
 t0:0<=t
 t1:t<sh.length
 u0:0<=u
 u1:u<=aeh sh t
 pp:mX K CA CD H' Lp Lp gW d7
 dd:mX K CA CD H' Dd Dd gX d8
 bo:wM nc d8 d7
 ak:∀p∈d8++d7,p.q.mU∈sh.map (·.1)
 hm:d8.length+d7.length=m
noncomputable def Sv(K:PySem.W.Frag)(CA CD CS:Addr)(H6:Hp)(a p wt al shl:Addr)(qE:List Addr)(st:Int)(hd x1 d1 pl:Addr)(oF:List Addr)(S:Addr)(sh:List (Int×Int))(nc:List (Int×Int))(m:Nat)(σ:St)(H':Hp):Prop :=
 ∃(Lp Dd:Addr) (gW:List Addr) (d7:List Dr) (gX:List Addr) (d8:List Dr) (t u:Int) (iD lQ wO:Option V),σ = [some (.ref a),some (.ref p),some (.ref wt),some (.ref al),some (.ref shl),some (.ref Lp),some (.int st),some (.ref hd),some (.ref x1),some (.ref S),some (.ref Dd),iD,lQ,wO]/\
  Su K CA CD CS H6 shl qE x1 d1 pl oF S sh nc m H' Lp Dd gW d7 gX d8 t u
@[elab_as_elim] theorem Sv.el{K:PySem.W.Frag}{CA CD CS:Addr}{H6:Hp}{a p wt al shl:Addr}{qE:List Addr}{st:Int}{hd x1 d1 pl:Addr}{oF:List Addr}{S:Addr}{sh:List (Int×Int)}{nc:List (Int×Int)}{m:Nat}{σ:St}{H':Hp}{X:St->Prop}(h:Sv K CA CD CS H6 a p wt al shl qE st hd x1 d1 pl oF S sh nc m σ H')
  (k:∀(Lp Dd:Addr) (gW:List Addr) (d7:List Dr) (gX:List Addr) (d8:List Dr) (t u:Int) (iD lQ wO:Option V),Su K CA CD CS H6 shl qE x1 d1 pl oF S sh nc m H' Lp Dd gW d7 gX d8 t u->X [some (.ref a),some (.ref p),some (.ref wt),some (.ref al),some (.ref shl),some (.ref Lp),some (.int st),some (.ref hd),some (.ref x1),some (.ref S),some (.ref Dd),iD,lQ,wO]):X σ:=by
 obtain⟨Lp,Dd,gW,d7,gX,d8,t,u,iD,lQ,wO,rfl,f⟩:=h;exact k Lp Dd gW d7 gX d8 t u iD lQ wO f
theorem KV.vl:∀ {kvs:List (Key×V)} {vs:List (Key×Value)},KV kvs vs->∀ {i:Nat} {p:Key×V},kvs[i]? = some p->∃k v,vs[i]? = some (k,v)/\RelV p.2 v
 | _,_,.nil,i,p,e=>by simp at e
 | _,_,.cons (b:=q) r t,0,p,e=>by
  cases e;exact⟨q.1,q.2,rfl,r.2⟩
 | _,_,.cons r t,i+1,p,e=>KV.vl t (i:=i) e
noncomputable def Sw(a:Addr)(ob:Obj)(kvs:List (Key×V)):It :=
 ⟨λi H=>H a=some (.cS ob (.dK kvs))/\i<kvs.length,λi H x H'=>H' = H/\∃p,kvs[i]? = some p/\x=p.2,λi H=>H a=some (.cS ob (.dK kvs))/\kvs.length<=i⟩
theorem aei{P:Program}{w:World}{K:PySem.W.Frag}{tg:Expr}(a it:Addr){ob:Obj}{kvs:List (Key×V)}{es:Array DictEntry}{ep:Nat}(oE:ob.data = .dict es ep) :
  Turn P w K tg (Sw a ob kvs) [it] it (λi h=>h.IsValIter it a i kvs.length ep) where
 mem:=by simp
 obj:=λi h st b hb=>by
  have e:b=it:=by simpa using hb
  subst e;obtain⟨o,e,c,d⟩:=st;exact⟨o,e,λv z=>by rw[d] at z;cases z⟩
 keep:=λi h h' st k=>let ⟨o,e,r⟩:=st;⟨o,k it (by simp) o e,r⟩
 item:=by
  intro X hP hw hK hc i pins s σ H E I hf st hg;subst hP hw hK;obtain⟨hq,hi⟩:=hg;obtain⟨vs,kv,da⟩:=Ss oE (I.aO a _ hq);have ek:kvs[i]? = some kvs[i]:=List.getElem?_eq_getElem hi;obtain⟨k,v,ev,rv⟩:=kv.vl ek;obtain⟨f0,f1,f2,f3,f4,f5⟩:=hf it (by simp)
  have hl:kvs.length=vs.length:=kv.length;refine wpAny_pyNext_values_item (hl▸st) da ev λh' bJ sb=>?_;have I1:Inv X pins σ H { s with heap:=h' }:=I.turned (t':=s.toks) (λb o hb e=>(sb.2 b hb).trans e) f0 f1 f3 f4 f5;obtain⟨o,e,c,d⟩:=id bJ;exact⟨v,rfl,vA (s:={ s with heap:=h' }) e c d (by decide) ⟨_,H,I1,rv,⟨rfl,kvs[i],ek,rfl⟩,hl▸bJ,λb hb=>(hf b hb).1⟩⟩
 done:=by
  intro X hP hw hK hc i pins s σ H E I hf st hg;subst hP hw hK;obtain⟨hq,hi⟩:=hg;obtain⟨vs,kv,da⟩:=Ss oE (I.aO a _ hq);obtain⟨f0,f1,f2,f3,f4,f5⟩:=hf it (by simp)
  have hl:kvs.length=vs.length:=kv.length;exact wpAny_pyNext_values_end (I.ok.hd hc) (hl▸st) da (List.getElem?_eq_none (by lia)) λh' eb=>⟨rfl,I.turned (t':=s.toks) (λb o hb e=>eb b o hb e) f0 f1 f3 f4 f5⟩
 self:=λA i s Q E st h=>wpAny_pyIter_valiter st h
section
variable{X:Cx}{o:Expr}{to:TE}{apos eZ:Pos}{tg:Expr}
noncomputable def Ii(K:PySem.W.Frag)(td:TE):TI:=λσ H R=>td σ H λx H1=>∃a kvs,x = .ref a/\H1 a=some (.dK kvs)/\∀ob,R (Sw a ob kvs) (upd H1 a (.cS ob (.dK kvs)))
theorem Sx(ho:PE X o to)(GL:attributeBase o "values" X.env (eval o X.env)=eval o X.env:=by rfl)(GN:(apos.endLine == eZ.line)=true:=by rfl):PI X tg (.Call (.Attribute o "values" apos) [] [] eZ) (Ii X.K to):=by
 intro pins s σ H R I h;refine wpAny_Call_method0_late GL GN (aP (ho pins s σ H _ I h) λv s1 ⟨x,H1,I1,r1,q1⟩=>?_);obtain⟨a,kvs,e,hq,q⟩:=q1;subst e;have ty:zO X.K "dict" (.ref a) H1:=.inr (.inr (.inl ⟨rfl,.inl ⟨kvs,hq⟩⟩));obtain⟨h1,h2⟩:=QA I1 r1 ty;refine⟨"dict", "dict.values",PySem.F.plainAttrs_dict,PySem.F.slot_dict_values,PySem.F.type_dict_values,h1,h2,Calls.callWith_builtin rfl (PySem.evalArgs_none ?_)⟩;cases r1;obtain⟨hz,hS,vs,kv,ob,es,ep,oE,c,d,r⟩:=GU I1.aO hq;have ln:kvs.length=vs.length:=kv.length;refine call_meetsIn PySem.F.slot_dict_values h1 PySem.F.entry_dict_values (PySem.F.args_dict_values_1 _) (meets_dict_values (f_ X.prog X.w) a hS) ⟨⟨vs,ob,es,ep,oE,c,d,r⟩,?_⟩;have I2:=I1.freeze hq oE;have I3:=I2.kept (t':=s1.toks) (h':=s1.heap.push { cls:=.type "dict_values",data:=.fields #[.ref a] }) λb o e=>Heap.get?_push_of_some _ e;refine wpAny_pyIter_values (knd:=f_ X.prog X.w) (kvs:=vs) (ep:=ep) ⟨_,Heap.get?_push_size _ rfl,rfl,rfl⟩ ⟨ob,es,Heap.get?_push_of_some _ oE,c,d,r⟩ ?_;have I4:=I3.kept (t':=s1.toks) (h':=(s1.heap.push { cls:=.type "dict_values",data:=.fields #[.ref a] }).push { cls:=.type "dict_valueiterator",data:=.fields #[.ref a,.int 0 0,.int vs.length 0,.int ep 0] }) λb o e=>Heap.get?_push_of_some _ e;refine⟨(s1.heap.push { cls:=.type "dict_values",data:=.fields #[.ref a] }).objs.size,[(s1.heap.push { cls:=.type "dict_values",data:=.fields #[.ref a] }).objs.size],_,_,_,rfl,I4,aei a _ d,⟨_,Heap.get?_push_size _ rfl,rfl,by rw[ln];rfl⟩,λb hb=>?_,q ob⟩
 have e:b=(s1.heap.push { cls:=.type "dict_values",data:=.fields #[.ref a] }).objs.size:=by simpa using hb
 subst e;exact I3.nO (Nat.le_refl _) (I3.aO.fresh (Nat.le_refl _))
theorem Inv.aej{pins:List (Addr×Obj)}{σ:St}{H:Hp}{s:Shared}{a:Addr}{kvs:List (Key×V)}{ob:Obj}(I:Inv X pins σ H s)(e:H a=some (.cS ob (.dK kvs)))(h0:∀o u,X.gR a≠some (.cS o u)):Inv X pins σ (upd H a (.dK kvs)) s:=by
 have up:∀b v,H b=some v->b≠a->upd H a (.dK kvs) b=some v:=λb v q n=>by rw[aI n];exact q
 have na:∀b v,H b=some v->(∀o u,v≠.cS o u)->b≠a:=λb v q n z=>by rw[z,e] at q;exact n _ _ (Option.some.inj q).symm
 have un:∀b,H b=none->upd H a (.dK kvs) b=none:=λb q=>by rw[aI (λz=>by rw[z,e] at q;cases q)];exact q
 refine⟨I.ok,I.os,I.bare,⟨I.base.keep,I.base.slot,λb o q n hx=>un b (I.base.free b o q n hx),I.base.there,λb xs q=>up b _ (I.base.mq b xs q) (na b _ (I.base.mq b xs q) λ_ _ z=>nomatch z),λb o u q=>up b _ (I.base.kW b o u q) (λz=>by rw[z] at q;exact h0 _ _ q),λb ps q=>let ⟨m,z⟩:=I.base.mz b ps q;⟨m,up b _ z (na b _ z λ_ _ y=>nomatch y)⟩⟩,
  I.loc,I.cell,un _ I.free,λx c q=>un c (I.kh x c q),λp hp=>let ⟨q1,q2,q3⟩:=I.pin p hp;⟨q1,un _ q2,q3⟩,λb v q=>?_,I.len⟩
 by_cases z:b=a
 ·subst z;rw[aH] at q;cases q;have x:=(I.aO b _ e).2;exact x.jz (λ_ _ _ e=>e) (λd q=>up d _ q (na d _ q λ_ _ z=>nomatch z)) (λd xs q=>up d _ q (na d _ q λ_ _ z=>nomatch z))
 ·rw[aI z] at q;exact(I.aO b v q).jz (λ_ _ _ e=>e) (λd q=>up d _ q (na d _ q λ_ _ z=>nomatch z)) λd xs q=>up d _ q (na d _ q λ_ _ z=>nomatch z)
noncomputable def aek(gR:Hp)(t:TE):TE:=λσ H Q=>t σ H λv H1=>∃a ob kvs,H1 a=some (.cS ob (.dK kvs))/\(∀o u,gR a≠some (.cS o u))/\Q v (upd H1 a (.dK kvs))
end
theorem ael{prog:Program}{w:World}{A:Around}{s:Shared}{a b:Int}{t u:Tok}{Q:Value->Shared->Prop}{E:Value->Shared->Prop}(h:Q (.bool (decide (a<b))) s):wpAny (model prog w) A (richCompare .Lt (.int a t) (.int b u)) Q E s :=
 CmpOf.ints_lt (P:=λi v=>(i=0/\v = .int a t)\/(i=1/\v = .int b u)) (λi=>if i=0 then a else b) (by
  rintro i v (⟨rfl,rfl⟩ | ⟨rfl,rfl⟩)
  ·exact⟨t,rfl⟩
  ·exact⟨u,rfl⟩) 0 1 _ _ s Q E (.inl ⟨rfl,rfl⟩) (.inr ⟨rfl,rfl⟩) h
theorem Ij:∀ {us:List Value} {ns:List Int},IntsAre us ns->∀ {j:Nat} {v:Value},us[j]? = some v->∃n t,ns[j]? = some n/\v = .int n t
 | _,_,.nil,j,v,e=>by simp at e
 | _,_,.cons n t r,0,v,e=>⟨n,t,rfl,by simpa using e.symm⟩
 | _,_,.cons n t r,j+1,v,e=>Ij r (j:=j) (by simpa using e)
noncomputable def rB(ns:List Int)(j:Nat)(m:Int):Prop:=m∈ns.take j/\∀a∈ns.take j,m<=a
theorem rB.step{ns:List Int}{j:Nat}{m v:Int}(h:rB ns j m)(e:ns[j]? = some v):rB ns (j+1) (if v<m then v else m):=by
 unfold rB;rw[take_succ_get e];obtain⟨h1,h2⟩:=h;by_cases c:v<m
 ·rw[if_pos c];refine⟨by simp,λa ha=>?_⟩
  rcases List.mem_append.mp ha with ha | ha
  ·have:=h2 a ha;lia
  ·rw[List.mem_singleton.mp ha];exact Int.le_refl _
 ·rw[if_neg c];refine⟨List.mem_append_left _ h1,λa ha=>?_⟩;rcases List.mem_append.mp ha with ha | ha
  ·exact h2 a ha
  ·rw[List.mem_singleton.mp ha];lia
noncomputable def aem(v:Value)(c:Nat):Obj:={ cls:=.type "list",dict:=none,data:=.seq #[v,v] c,slots := #[] }
section
variable{prog:Program}{w:World}{A:Around}{R:Result->Shared->Prop}{l I S:Addr}{us:List Value}{ns:List Int}{kw:List (Str×Value)}
theorem aen(hh:A.handled=none)(AH:l≠I)(AI:S≠l)(ie:S≠I)(hi:IntsAre us ns):∀(k j:Nat) (s:Shared) (m:Int) (t:Tok) (c:Nat),j+k=us.length->
  s.heap.IsListIter I l j->s.heap.IsList l us.toArray->s.heap.get? S=some (aem (.int m t) c)->rB ns j m->
  (∀h' tk M t',rB ns us.length M->(∀b o,b≠S->b≠I->s.heap.get? b=some o->h'.get? b=some o)->R (.ok (.ret (.int M t'))) { s with heap:=h',toks:=tk })->
  codeAny (model prog w) A (.builtin "min.loop" ⟨[.ref I,.none,.ref S],kw⟩) R s:=by
 have W:=Walks.list (prog:=prog) (w:=w) (A:=A.in1) hh I l AH us.toArray;have fS:S∉[I]:=by simpa using ie
 have nm:(toString "min" ++ toString ".loop" : String) = "min.loop" := by decide
 intro k
 induction k with
 | zero =>
  intro j s m t c hj hit hl hS lo hR;have hj:j=us.length:=hj;subst hj;refine codeAny_builtin F.entry_min_loop ?_;rw[Around.under_plainId F.plain_min_loop _]
  show wpAny _ A.in1 (seqItems? (.ref S) >>= _) _ _ _;apply wpAny_bind;refine wpAny_seqItems hS rfl ?_
  show wpAny _ A.in1 (tryCatch (pyNext (.ref I)) _ >>= _) _ _ _;apply wpAny_bind;refine wpAny_tryCatch (W.done s _ _ ⟨by simpa using hit,hl⟩ λh' tk kk=>?_)
  show wpAny _ A.in1 (updateSeq S (λ_ => #[]) >>= _) _ _ _;apply wpAny_bind;refine wpAny_updateSeq (kk S _ fS hS) rfl (wpAny_bind (wpAny_letGo (wpAny_pure ?_)));exact hR _ tk m t lo λb o b1 b2 e=>(Heap.get?_update_other _ _ (Ne.symm b1)).trans (kk b o (by simpa using b2) e)
 | succ k ih =>
  intro j s m t c hj hit hl hS lo hR;have jl:j<us.length:=by lia
  refine codeAny_builtin F.entry_min_loop ?_;rw[Around.under_plainId F.plain_min_loop _]
  show wpAny _ A.in1 (seqItems? (.ref S) >>= _) _ _ _;apply wpAny_bind;refine wpAny_seqItems hS rfl ?_
  show wpAny _ A.in1 (tryCatch (pyNext (.ref I)) _ >>= _) _ _ _;apply wpAny_bind;refine wpAny_tryCatch (W.item j s _ _ (by simpa using jl) ⟨hit,hl⟩ λv h' tk hP bJ kk=>?_)
  have ev:us[j]? = some v:=by simpa using hP
  obtain⟨n,tn,en,rfl⟩:∃n tn,ns[j]? = some n/\v = .int n tn:=Ij hi ev;have mV:=kk S _ fS hS;have AJ:=lo.step en;have old:∀b o,b≠S->b≠I->s.heap.get? b=some o->h'.get? b=some o:=λb o _ b2 e=>kk b o (by simpa using b2) e
  show wpAny _ A.in1 (tryCatch (holding [.int n tn,.int n tn] (richCompare .Lt (.int n tn) (.int m t) >>= _)) _ >>= _) _ _ _;apply wpAny_bind;refine wpAny_tryCatch (wpAny_holding (wpAny_bind (ael ?_)));refine wpAny_bind (wpAny_holding (wpAny_truthy_bool (wpAny_bind (wpAny_letGo (wpAny_pure ?_)))));by_cases hc:n<m
  ·rw[decide_eq_true hc,if_pos rfl];rw[if_pos hc] at AJ;apply wpAny_bind;refine wpAny_updateSeq mV rfl (wpAny_bind (wpAny_letGo ?_));rw[nm];have fX:=W.frame (j+1) h' (h'.update S (Obj.mapSeq λ_ => #[.int n tn,.int n tn])) bJ λb hb o e=>(Heap.get?_update_other _ _ (λz:S=b=>by
    rw[← z] at hb;rcases List.mem_cons.mp hb with y | y
    ·exact ie y
    ·exact AI (List.mem_singleton.mp y))).trans e
   refine wpAny_pure ⟨plainId_quiet F.plain_min_loop _,ih (j+1) _ n tn _ (by lia) fX.1 fX.2 (Heap.get?_update_self _ mV rfl) AJ λh2 cU M t2 a1 a2=>hR h2 cU M t2 a1 λb o b1 b2 e=>a2 b o b1 b2 ((Heap.get?_update_other _ _ (Ne.symm b1)).trans (old b o b1 b2 e))⟩
  ·rw[decide_eq_false hc,if_neg (by decide)]
   rw[if_neg hc] at AJ;apply wpAny_bind;refine wpAny_letGo ?_;rw[nm];exact wpAny_pure ⟨plainId_quiet F.plain_min_loop _,ih (j+1) _ m t c (by lia) bJ.1 bJ.2 mV AJ λh2 cU M t2 a1 a2=>hR h2 cU M t2 a1 λb o b1 b2 e=>a2 b o b1 b2 (old b o b1 b2 e)⟩
theorem aeo{n0:Int}{nr:List Int}(hh:A.handled=none)(AH:l≠I)(AI:S≠l)(ie:S≠I)(hi:IntsAre us (n0::nr)){s:Shared}{c:Nat}(hit:s.heap.IsListIter I l 0)(hl:s.heap.IsList l us.toArray)(hS:s.heap.get? S=some { cls:=.type "list",dict:=none,data:=.seq #[] c,slots := #[] })
  (hR:∀h' tk M t',rB (n0::nr) us.length M->(∀b o,b≠S->b≠I->s.heap.get? b=some o->h'.get? b=some o)->R (.ok (.ret (.int M t'))) { s with heap:=h',toks:=tk }) :
  codeAny (model prog w) A (.builtin "min.loop" ⟨[.ref I,.none,.ref S],kw⟩) R s:=by
 have W:=Walks.list (prog:=prog) (w:=w) (A:=A.in1) hh I l AH us.toArray;have fS:S∉[I]:=by simpa using ie
 have nm:(toString "min" ++ toString ".loop" : String) = "min.loop" := by decide
 have ul:0<us.length:=by have:=hi.length;simp at this;lia
 refine codeAny_builtin F.entry_min_loop ?_;rw[Around.under_plainId F.plain_min_loop _]
 show wpAny _ A.in1 (seqItems? (.ref S) >>= _) _ _ _;apply wpAny_bind;refine wpAny_seqItems hS rfl ?_
 show wpAny _ A.in1 (tryCatch (pyNext (.ref I)) _ >>= _) _ _ _;apply wpAny_bind;refine wpAny_tryCatch (W.item 0 s _ _ (by simpa using ul) ⟨hit,hl⟩ λv h' tk hP bJ kk=>?_)
 have ev:us[0]? = some v:=by simpa using hP
 obtain⟨n,tn,en,rfl⟩:=Ij hi ev;cases en;have mV:=kk S _ fS hS
 show wpAny _ A.in1 (updateSeq S (λ_ => #[.int n0 tn,.int n0 tn]) >>= _) _ _ _;apply wpAny_bind;refine wpAny_updateSeq mV rfl ?_;rw[nm];have fX:=W.frame 1 h' (h'.update S (Obj.mapSeq λ_ => #[.int n0 tn,.int n0 tn])) bJ λb hb o e=>(Heap.get?_update_other _ _ (λz:S=b=>by
  rw[← z] at hb;rcases List.mem_cons.mp hb with y | y
  ·exact ie y
  ·exact AI (List.mem_singleton.mp y))).trans e
 exact wpAny_pure ⟨plainId_quiet F.plain_min_loop _,aen hh AH AI ie hi (us.length - 1) 1 _ n0 tn _ (by lia) fX.1 fX.2 (Heap.get?_update_self _ mV rfl) ⟨by simp,λa ha=>by simp at ha;lia⟩ λh2 cU M t2 a1 a2=>hR h2 cU M t2 a1 λb o b1 b2 e=>a2 b o b1 b2 ((Heap.get?_update_other _ _ (Ne.symm b1)).trans (kk b o (by simpa using b2) e))⟩
end
section
variable{X:Cx}{e d:Expr}{tl td:TE}{p1 p4 kp:Pos}
theorem aep(a v:Value):argsOk "min" ⟨[a],[(Str.ofString "default",v)]⟩:=by unfold argsOk;kernel_rfl
noncomputable def Sy(K:PySem.W.Frag)(tl td:TE):TE:=λσ H Q=>tl σ H λx H1=>∃(l:Addr) (ns:List Int),x = .ref l/\td σ H1 λ_ H2=>aE K H2 l (ns.map V.int)/\0<ns.length/\∀M,M∈ns->(∀a,a∈ns->M<=a)->Q (.int M) H2
theorem aer(hg:Gl X "min")(hm:X.mg "min" = none)(hc:X.calm=true)(hl:PE X e tl)(hd:PE X d td)(hs:starEach [e] X.env = [(false,eval e X.env)]:=by rfl) :
  PE X (.Call (.Name "min" p1) [e] [⟨some "default",d,kp⟩] p4) (Sy X.K tl td):=by
 intro pins s σ H Q I h;refine wpAny_Call_Name_kw (kX I hg hm boot_min (callWith_kw (he:=by rw[hs];rfl) (hplain:=by rw[hs];rfl) ?_))
 rw[hs];refine Calls.spliced_cons (aP (hl pins s σ H _ I h) λu s1 ⟨v,H1,I1,r1,q1⟩=>?_);obtain⟨l,ns,rfl,q1⟩:=q1;cases r1;refine Calls.spliced_nil (kws_cons (aP (hd pins s1 σ H1 _ I1 q1) λdv s2 ⟨_,H2,I2,_,hq,hn,q⟩=>kws_nil ?_));have hh:=I2.ok.hd hc;obtain⟨us,rv,pl,_⟩:=I2.list hq;have hi:IntsAre us ns:=intsAre_of rv;obtain⟨n0,nr,rfl⟩:=List.exists_cons_of_ne_nil (List.length_pos_iff.mp hn);have nm:(toString "min" ++ toString ".loop" : String) = "min.loop" := by decide
 refine kmk_tree PySem.F.kind_min PySem.F.plain_min PySem.F.entry_min (aep _ _) ?_
 show wpAny _ X.A.in1 (Builtin.Builtins.bindParams "min" ["key", "default"] 0 ⟨[],[(Str.ofString "default",dv)]⟩ >>= _) _ _ s2;refine wpAny_bind (wpAny_of_eq (show Builtin.Builtins.bindParams "min" ["key", "default"] 0 ⟨[],[(Str.ofString "default",dv)]⟩=pure [none,some dv] from rfl) (wpAny_bind (wpAny_pure ?_)));refine wpAny_bind (wpAny_pyIter_list pl.isList (wpAny_bind (wpAny_newList ?_ (Nat.zero_le _))));rw[nm];have k1:∀b o,s2.heap.get? b=some o->(s2.heap.push { cls:=.type "list_iterator",data:=.fields #[.ref l,.int 0 0] }).get? b=some o:=λb o e=>Heap.get?_push_of_some _ e;generalize hq1:s2.heap.push { cls:=.type "list_iterator",data:=.fields #[.ref l,.int 0 0] }=hp at k1 ⊢;have hI:hp.get? s2.heap.objs.size=some { cls:=.type "list_iterator",data:=.fields #[.ref l,.int 0 0] }:=hq1▸Heap.get?_push_size _ rfl;have lI:s2.heap.objs.size<hp.objs.size:=Heap.lt_size hI;have ud:=pl.isList;obtain⟨ol,gl,_⟩:=id ud;have ll:l<s2.heap.objs.size:=Heap.lt_size gl;refine wpAny_pure ⟨plainId_quiet F.plain_min_loop _,aeo (I:=s2.heap.objs.size) (S:=hp.objs.size) hh (Nat.ne_of_lt ll) (Nat.ne_of_gt (Nat.lt_trans ll lI)) (Nat.ne_of_gt lI) hi ⟨_,Heap.get?_push_of_some _ hI,rfl,rfl⟩ ((ud.at λo e=>Heap.get?_push_of_some _ (k1 _ _ e))) (Heap.get?_push_size _ rfl) λh' tk M t' lo old=>?_⟩;obtain⟨m1,m2⟩:=lo;have e:(n0::nr).take us.length=n0::nr:=List.take_of_length_le (by have:=hi.length;lia)
 rw[e] at m1 m2;refine⟨.int M,H2,I2.kept (t':=tk) λb o e=>old b o (λz=>?_) (λz=>?_) (Heap.get?_push_of_some _ (k1 b o e)),⟨_,rfl⟩,q M m1 m2⟩
 ·exact absurd (Nat.lt_trans (z▸Heap.lt_size e) lI) (Nat.lt_irrefl _)
 ·exact absurd (z▸Heap.lt_size e) (Nat.lt_irrefl _)
end
noncomputable def AK(K:PySem.W.Frag)(a:Addr)(ss:List Str):Prop :=
 ∃(o:Obj) (aG:Array Value) (n:Nat),K.lookup a=some o/\o.cls = .type "tuple"/\o.data = .seq aG n/\aG.size<=sizeLine/\Vals (ss.map V.str) aG.toList
theorem AK.sq{K:PySem.W.Frag}{a:Addr}{ss:List Str}{H:Hp}(h:AK K a ss):bD K H a (ss.map V.str):=.inr h
theorem Sz(ss:List Str):(ss.map V.str).all jW=true:=by
 rw[List.all_eq_true];intro x hx;obtain⟨s,_,rfl⟩:=List.mem_map.mp hx
 rfl
theorem SA(w:Str)(ss:List Str):pI (.str w) (ss.map V.str)=decide (w∈ss):=by
 unfold pI;rw[List.any_map]
 induction ss with
 | nil=>simp
 | cons s ss ih =>
  rw[List.any_cons,ih];by_cases e:w=s
  ·subst e;simp[Function.comp,lz]
  ·have e':¬ s=w:=λz=>e z.symm;simp[Function.comp,lz,e,e']
section
variable{X:Cx}{CX:gf}{k1 k2:Nat}{f1 f2:Addr}{pW pY:List Addr}{ue uf:FuncData}{HZ mW:List Str}{pX pZ:Sp}{E:XK}{m:Str}{pos apos:Pos}{o:Expr}{ta:TE}
end
noncomputable def wQ:Sp:=λvs H Q _=>∃(x:Addr),vs = [.ref x]/\Q .aV H
noncomputable def iX(f a s:Int):Ak:=⟨"read",f,1,[],a,s,none,[],false⟩
section
variable{K:PySem.W.Frag}{C:Addr}{H H':Hp}{l p D:Addr}{ps:List Addr}{qs:List Ak}{q:Ak}{m b dx:Addr}{xs ys:List V}
theorem eK.jc(hD:H D=some (.lst xs))(h:eK K C H p q m b dx):eK K C (upd H D (.lst ys)) p q m b dx :=
 ⟨by rw[aI (λz=>by have:=h.o;rw[z,hD] at this;cases this)];exact h.o,
  by rw[aI (λz=>by have:=h.ms;rw[z,hD] at this;cases this)];exact h.ms,
  by rw[aI (λz=>by have:=h.bh;rw[z,hD] at this;cases this)];exact h.bh⟩
theorem cj.snoc(h:cj K C H l ps qs)(ha:eK K C H p q m b dx):cj K C (upd H l (.lst (ps.map V.ref++[V.ref p]))) l (ps++[p]) (qs++[q]):=by
 refine⟨by rw[aH,List.map_append];rfl,by simp[h.n],λi p' q' e1 e2=>?_⟩
 have hn:=h.n;by_cases hi:i<ps.length
 ·rw[List.getElem?_append_left hi] at e1;rw[List.getElem?_append_left (by lia)] at e2
  obtain⟨m',b',cZ,z⟩:=h.t i p' q' e1 e2;exact⟨m',b',cZ,z.jc h.l⟩
 ·rw[List.getElem?_append_right (by lia)] at e1
  rw[List.getElem?_append_right (by lia)] at e2
  have gC:i - ps.length=0:=by
   have:=(List.getElem?_eq_some_iff.mp e1).1;simp at this;lia
  rw[gC] at e1;rw[← hn,gC] at e2;simp at e1 e2;subst e1 e2;exact⟨m,b,dx,ha.jc h.l⟩
theorem cj.cat{l2 l3:Addr}{mW:List Addr}{SD:List Ak}(h:cj K C H l ps qs)(h2:cj K C H l2 mW SD)(n:H l3=none):cj K C (upd H l3 (.lst (ps.map V.ref++mW.map V.ref))) l3 (ps++mW) (qs++SD):=by
 have s:=aj.put (o:=.lst (ps.map V.ref++mW.map V.ref)) n;refine⟨by rw[aH,List.map_append],by simp[h.n,h2.n],λi p' q' e1 e2=>?_⟩
 have hn:=h.n;by_cases hi:i<ps.length
 ·rw[List.getElem?_append_left hi] at e1;rw[List.getElem?_append_left (by lia)] at e2
  obtain⟨m',b',cZ,z⟩:=h.t i p' q' e1 e2;exact⟨m',b',cZ,z.same s⟩
 ·rw[List.getElem?_append_right (by lia)] at e1
  rw[List.getElem?_append_right (by lia)] at e2
  rw[← hn] at e2;obtain⟨m',b',cZ,z⟩:=h2.t _ p' q' e1 e2;exact⟨m',b',cZ,z.same s⟩
end
structure oG(P:Pl)(n:Int):Prop where
 r2:2<=P.rc.length
 c1:1<=P.rc.getD 1 0
 v:cL (tO P.nc) (kT (1,0))=some (.int n)
 n0:0<=n
 n1:n<=1000000
noncomputable def aes(K:PySem.W.Frag)(cs:List Addr)(CA:Addr):Sp:=λvs H Q _=>∃(C p:Addr) (P:Pl) (fp:List Addr) (n:Int),vs = [.ref p]/\C∈cs/\bZ K C H p P fp/\oG P n/\
 ∀a mk b dx H',aj H H'->H a=none->eK K CA H' a (iX n 0 0) mk b dx->Q (.ref a) H'
noncomputable def aet(K:PySem.W.Frag)(CA:Addr):Sp:=λvs H Q _=>∃(c a s:Int),vs = [.int c,.int a,.int s]/\0<=c/\c<=1000/\wA 0 1 a s none/\
 ∀l ps H',aj H H'->H l=none->cj K CA H' l ps (List.replicate c.toNat (iX 0 a s))->Q (.ref l) H'
noncomputable def gj(n most:Int):List Ak:=iX n 0 0::List.replicate (most - 1).toNat (iX 0 0 0)
noncomputable def aeu(K:PySem.W.Frag)(cs:List Addr)(CA:Addr):Sp:=λvs H Q _=>∃(C p:Addr) (P:Pl) (fp:List Addr) (n most:Int),vs = [.ref p,.int most]/\C∈cs/\bZ K C H p P fp/\oG P n/\2<=most/\most<=100/\
 ∀l ps H',aj H H'->H l=none->cj K CA H' l ps (gj n most)->Q (.ref l) H'
noncomputable def fB:List Str:=["first", "calm lift", "calm sweep"]
noncomputable def ig:List Str:=["nearest", "soonest", "latest", "lift", "sweep"]
section
variable{x:Addr}{H H1 H2:Hp}
end
noncomputable def aev(K:PySem.W.Frag)(CA CD:Addr)(cs:List Addr):Sp:=λvs H Q _=>∃(C x dx B:Addr) (st:Lt) (D:Addr) (ps:List Addr) (ds:List Dr),vs = [.ref x,.ref D]/\C∈cs/\p5 K C/\fz C H x st dx B/\fH K CA CD H D ps ds/\ds.length<=100/\
 ∀D' ia B' H',(B' = B\/H B' = none)->SameBut x H H'->fz C H' x (dZ st ds) dx B'->fH K CA CD H' D' ia (eN st ds)->Q (.ref D') H'
theorem aew{K:PySem.W.Frag}{gR H:Hp}{σ:St}{g:TG}{tt:TT}{te td:TE}{nt:Nat}{fv:List Nat}{Q:VK}(a:Addr)(kvs:List (Key×V))(Pv:Obj->Addr->Nat->List V->St->Hp->Prop)(Ik:∀Q:VK,Q (.ref a) H->td σ H Q)(hq:H a=some (.dK kvs))(Il:∀o u,gR a≠some (.cS o u))
  (h0:∀ob D,H D=none->Pv ob D 0 [] (jY σ nt fv) (upd (upd H a (.cS ob (.dK kvs))) D (.lst []))) (hD:∀ob D i ys σ H,Pv ob D i ys σ H->H D=some (.lst ys)/\ys.length<sizeLine/\H a=some (.cS ob (.dK kvs)))
  (hs:∀ob D i x ys az H2 (N:List V->St->Hp->Prop),(∀ys σ H,Pv ob D (i+1) ys σ H->N ys σ H)->kvs[i]? = some x->Pv ob D i ys az H2->g x.2 az H2 λcg H4=>tt cg H4 λb H5=>if b=true then te cg H5 λv H6=>H6 D=some (.lst ys)/\N (ys++[v]) cg (upd H6 D (.lst (ys++[v]))) else N ys cg H5)
  (hd:∀ob D ys az H2,Pv ob D kvs.length ys az H2->Q (.ref D) (upd H2 a (.dK kvs))):aek gR (iR (Ii K td) g tt te nt fv) σ H Q:=by
 refine Ik _ ⟨a,kvs,rfl,hq,λob D gK=>?_⟩;have na:D≠a:=λz=>by rw[z,aH] at gK;cases gK
 have hD1:H D=none:=by rw[aI na] at gK;exact gK
 refine⟨λi m ys az H2=>m=kvs.length - i/\i<=kvs.length/\Pv ob D i ys az H2,⟨_,rfl,Nat.zero_le _,h0 ob D hD1⟩,?_⟩;rintro i m ys az H2 ⟨rfl,iT,p⟩;obtain⟨d1,d2,d3⟩:=hD ob D i ys az H2 p;refine⟨d1,d2,?_⟩;by_cases bW:i<kvs.length
 ·refine .inr ⟨⟨d3,bW⟩,λx H3 y=>?_⟩;obtain⟨e1,c,e2,e3⟩:=y;subst e1;subst e3;exact hs ob D i c ys az H3 (λIm bG H'=>∃m',m' < kvs.length - i/\m' = kvs.length - (i+1)/\i+1<=kvs.length/\Pv ob D (i+1) Im bG H') (λys σ H p=>⟨_,by lia,rfl,by lia,p⟩) e2 p
 ·have:i=kvs.length:=by lia
  subst this;exact .inl ⟨⟨d3,Nat.le_refl _⟩,a,ob,kvs,d3,Il,hd ob D ys az H2 p⟩
noncomputable def SE(gR:Hp)(t:TS):TS:=λD σ H=>t { D with nx:=λdU H1=>∃a ob kvs,H1 a=some (.cS ob (.dK kvs))/\(∀o u,gR a≠some (.cS o u))/\D.nx dU (upd H1 a (.dK kvs))} σ H
theorem SG{X:Cx}{st:Stmt}{t:TS}(h:PS X st t):PS X st (SE X.gR t):=by
 intro pins s σ H D I q;refine aP (h pins s σ H _ I q) λf s1 z=>?_;cases f with
 | next =>
  obtain⟨dU,H1,I1,a,ob,kvs,e,h0,q1⟩:=z;exact⟨dU,_,I1.aej e h0,q1⟩
 | ret v=>exact z
 | brk=>exact z
 | cont=>exact z
theorem SH{K:PySem.W.Frag}{gR H:Hp}{σ:St}{g:TG}{tt:TT}{te td:TE}{nt:Nat}{fv:List Nat}{E:Ends}{j:Nat}(a:Addr)(kvs:List (Key×V))(Pv:Obj->Addr->Nat->List V->St->Hp->Prop)(Ik:∀Q:VK,Q (.ref a) H->td σ H Q)(hq:H a=some (.dK kvs))(Il:∀o u,gR a≠some (.cS o u))
  (h0:∀ob D,H D=none->Pv ob D 0 [] (jY σ nt fv) (upd (upd H a (.cS ob (.dK kvs))) D (.lst []))) (hD:∀ob D i ys σ H,Pv ob D i ys σ H->H D=some (.lst ys)/\ys.length<sizeLine/\H a=some (.cS ob (.dK kvs)))
  (hs:∀ob D i x ys az H2 (N:List V->St->Hp->Prop),(∀ys σ H,Pv ob D (i+1) ys σ H->N ys σ H)->kvs[i]? = some x->Pv ob D i ys az H2->g x.2 az H2 λcg H4=>tt cg H4 λb H5=>if b=true then te cg H5 λv H6=>H6 D=some (.lst ys)/\N (ys++[v]) cg (upd H6 D (.lst (ys++[v]))) else N ys cg H5)
  (hd:∀ob D ys az H2,Pv ob D kvs.length ys az H2->E.nx (σ.set j (some (.ref D))) (upd H2 a (.dK kvs))):SE gR (vv (iR (Ii K td) g tt te nt fv) (nK j)) E σ H :=
 aew (Q:=λv H'=>E.nx (σ.set j (some v)) H') a kvs Pv Ik hq Il h0 hD hs hd
section
variable{K:PySem.W.Frag}{H:Hp}{σ:St}{g:TG}{tt:TT}{te tl:TE}{nt:Nat}{fv:List Nat}{Q:VK}
theorem aex(a:Addr)(xs:List V)(Pv:Addr->Nat->List V->St->Hp->Prop)(jk:∀Q:VK,Q (.ref a) H->tl σ H Q)(gh:bD K H a xs)
  (h0:∀D,H D=none->Pv D 0 [] (jY σ nt fv) (upd H D (.lst []))) (hD:∀D i ys σ H,Pv D i ys σ H->H D=some (.lst ys)/\ys.length<sizeLine/\bD K H a xs)
  (hs:∀D i x ys az H2 (N:List V->St->Hp->Prop),(∀ys σ H,Pv D (i+1) ys σ H->N ys σ H)->xs[i]? = some x->Pv D i ys az H2->g x az H2 λcg H4=>tt cg H4 λb H5=>if b=true then te cg H5 λv H6=>H6 D=some (.lst ys)/\N (ys++[v]) cg (upd H6 D (.lst (ys++[v]))) else N ys cg H5)
  (hd:∀D ys az H2,Pv D xs.length ys az H2->Q (.ref D) H2):iR (Gd K tl) g tt te nt fv σ H Q:=by
 refine jk _ ⟨a,rfl,⟨xs,gh⟩,λD gK=>?_⟩;refine⟨λi m ys az H2=>m=xs.length - i/\i<=xs.length/\Pv D i ys az H2,⟨_,rfl,Nat.zero_le _,h0 D gK⟩,?_⟩;rintro i m ys az H2 ⟨rfl,iT,p⟩;obtain⟨d1,d2,d3⟩:=hD D i ys az H2 p;refine⟨d1,d2,?_⟩;by_cases bW:i<xs.length
 ·refine .inr ⟨⟨xs,xs[i],d3,by simp[bW]⟩,λx H3 y=>?_⟩
  obtain⟨e1,e2⟩:=y;subst e1;exact hs D i x ys az _ (λIm bG H'=>∃m',m' < xs.length - i/\m' = xs.length - (i+1)/\i+1<=xs.length/\Pv D (i+1) Im bG H') (λys σ H p=>⟨_,by lia,rfl,by lia,p⟩) (e2 xs d3) p
 ·have e:i=xs.length:=by lia
  subst e;exact .inl ⟨⟨xs,d3,Nat.le_refl _⟩,hd D ys az H2 p⟩
end
theorem SI{K:PySem.W.Frag}{H:Hp}{σ:St}{g:TG}{tt:TT}{te tl:TE}{nt:Nat}{fv:List Nat}{Q:VK}(h:tl σ H λv H1=>iR (k9 K λ_ H' Q'=>Q' v H') g tt te nt fv σ H1 Q):iR (k9 K tl) g tt te nt fv σ H Q:=h
theorem aey(P:Pl)(s:Int×Int){xs:List (Int×Int)}(h:xs≠[]):∃zs a b,gU P s xs=zs++[[(cE P s xs).1,a,b,(cE P s xs).2]]:=by
 obtain⟨ys,q,rfl⟩:∃ys q,xs=ys++[q]:=⟨xs.dropLast,xs.getLast h,(List.dropLast_concat_getLast h).symm⟩;rw[Hu,Ht];exact⟨_,_,_,rfl⟩
theorem Zt.last{H:Hp}{l:Addr}{ts:List Addr}{z:List (List Int)}{r:List Int}(h:Zt H l ts (z++[r])):∃uh t,ts=uh++[t]/\H t=some (.tup (r.map V.int)):=by
 have hn:=h.n;rw[List.length_append,List.length_singleton] at hn;have dY:ts≠[]:=λe=>by rw[e] at hn;simp at hn
 refine⟨ts.dropLast,ts.getLast dY,(List.dropLast_concat_getLast dY).symm,h.t z.length _ r ?_ (by simp)⟩
 rw[List.getLast_eq_getElem,List.getElem?_eq_getElem (by lia)]
 simp[hn]
theorem aez{r:List Int}(h:r.length=4):∃a b c d,r = [a,b,c,d]:=by
 match r,h with
 | [a,b,c,d],_=>exact⟨a,b,c,d,rfl⟩
noncomputable def c9(ls:List (Dr×Addr)):List (Key×V):=ls.map λy=>(c8 y.1.n,V.ref y.2)
noncomputable def lR(ls:List (Dr×Addr))(n:Int):Bool:=ls.any λy=>decide (y.1.n=n)
theorem wR{a b:Int}:c8 a=c8 b↔a=b:=by unfold c8;exact⟨λz=>Sum.inl.inj z,λz=>by rw[z]⟩
theorem SJ(ls:List (Dr×Addr))(n:Int):(cL (c9 ls) (c8 n)).isSome=lR ls n:=by
 induction ls with
 | nil=>rfl
 | cons y ls ih =>
  unfold cL c9 lR at *
  rw[List.map_cons,List.find?_cons,List.any_cons];by_cases e:y.1.n=n
  ·subst e;simp
  ·have:¬ c8 y.1.n=c8 n:=λz=>e (wR.mp z);simp only[this,e,decide_false,Bool.false_or];exact ih
theorem aeA{ls:List (Dr×Addr)}(up:ls.Pairwise λa b=>a.1.n<b.1.n){y:Dr×Addr}(hy:y∈ls):cL (c9 ls) (c8 y.1.n)=some (.ref y.2):=by
 induction ls with
 | nil=>cases hy
 | cons z ls ih =>
  rw[List.pairwise_cons] at up;unfold cL c9 at *
  rw[List.map_cons,List.find?_cons];rcases List.mem_cons.mp hy with rfl | hy
  ·simp
  ·have:=up.1 y hy;have:¬ c8 z.1.n=c8 y.1.n:=λe=>by have:=wR.mp e;lia
   simp only[this,decide_false];exact ih up.2 hy
theorem SK(ls:List (Dr×Addr))(n:Int):jd (c9 ls) (c8 n)=c9 (ls.filter λy=>decide (y.1.n≠n)):=by
 unfold jd c9;rw[List.filter_map];congr 1;refine List.filter_congr λy _=>?_
 show decide (c8 y.1.n≠c8 n)=_;rw[decide_eq_decide];exact not_congr wR
noncomputable def e8(kp p:Addr)(r b:Int)(Dx:Addr):List (Str×V):=[("keeping",.ref kp),("plate",.ref p),("ring",.int r),("beat",.int b),("left",.ref Dx)]
noncomputable def AL(K:PySem.W.Frag)(CA CD:Addr)(H:Hp)(y:Dr×Addr):Prop:=∃dx ap l ts m b bH,iB K CA CD H y.2 y.1 dx ap l ts m b bH
structure bS(K:PySem.W.Frag)(CC CA CD:Addr)(H:Hp)(x dx kp:Addr)(ks:List Addr)(kk:List (List Int))(p:Addr)(r b:Int)(Dx:Addr)(ls:List (Dr×Addr)):Prop where
 o:H x=some (.ins CC dx (e8 kp p r b Dx))
 k:Zt H kp ks kk
 d:H Dx=some (.dK (c9 ls))
 t:∀y∈ls,AL K CA CD H y
 up:ls.Pairwise λa b=>a.1.n<b.1.n
 n:ls.length<=100
 kn:∀y∈ls,0<=y.1.n/\y.1.n<kk.length
noncomputable def cu(x Dx:Addr)(H H':Hp):Prop:=∀b o,H b=some o->b≠x->b≠Dx->H' b=some o
section
variable{K:PySem.W.Frag}{CC CA CD:Addr}{H H' H1:Hp}{x dx kp:Addr}{ks:List Addr}{kk:List (List Int)}{p:Addr}{r b:Int}{Dx:Addr}{ls:List (Dr×Addr)}
theorem cu.of(s:aj H H'):cu x Dx H H':=λ_ _ e _ _=>s _ _ e
theorem cu.trans(s:cu x Dx H H1)(t:cu x Dx H1 H'):cu x Dx H H':=λ_ _ e n1 n2=>t _ _ (s _ _ e n1 n2) n1 n2
theorem cu.Io{o:HO}(s:cu x Dx H H'):cu x Dx H (upd H' x o):=λ_ _ e n1 n2=>by rw[aI n1];exact s _ _ e n1 n2
theorem cu.um{o:HO}(s:cu x Dx H H'):cu x Dx H (upd H' Dx o):=λ_ _ e n1 n2=>by rw[aI n2];exact s _ _ e n1 n2
theorem cu.put{l:Addr}{o:HO}(s:cu x Dx H H')(n:H l=none):cu x Dx H (upd H' l o):=λ_ _ e n1 n2=>by rw[aI (λz=>by rw[z,n] at e;cases e)];exact s _ _ e n1 n2
theorem bS.nf(h:bS K CC CA CD H x dx kp ks kk p r b Dx ls):∀o u,H Dx≠some (.cS o u):=λo u z=>by rw[h.d] at z;cases z
theorem bS.ne(h:bS K CC CA CD H x dx kp ks kk p r b Dx ls):x≠Dx:=λz=>by have:=h.o;rw[z,h.d] at this;cases this
theorem wU:(c9 ls).length=ls.length:=by simp[c9]
theorem bS.lst(h:bS K CC CA CD H x dx kp ks kk p r b Dx ls)(s:cu x Dx H H'){a:Addr}{xs:List V}(e:H a=some (.lst xs)):H' a=some (.lst xs) :=
 s _ _ e (λz=>by have:=h.o;rw[← z,e] at this;cases this) (λz=>by have:=h.d;rw[← z,e] at this;cases this)
theorem bS.tup(h:bS K CC CA CD H x dx kp ks kk p r b Dx ls)(s:cu x Dx H H'){a:Addr}{xs:List V}(e:H a=some (.tup xs)):H' a=some (.tup xs) :=
 s _ _ e (λz=>by have:=h.o;rw[← z,e] at this;cases this) (λz=>by have:=h.d;rw[← z,e] at this;cases this)
theorem bS.ins(h:bS K CC CA CD H x dx kp ks kk p r b Dx ls)(s:cu x Dx H H'){a C d:Addr}{fs:List (Str×V)}(e:H a=some (.ins C d fs))(n:fs.lookup ("keeping" : Str)=none):H' a=some (.ins C d fs) :=
 s _ _ e (λz=>by have:=h.o;rw[← z,e] at this;cases this;simp[e8,List.lookup_cons] at n) (λz=>by have:=h.d;rw[← z,e] at this;cases this)
theorem bS.zt(h:bS K CC CA CD H x dx kp ks kk p r b Dx ls)(s:cu x Dx H H'){a:Addr}{ts:List Addr}{z:List (List Int)}(e:Zt H a ts z):Zt H' a ts z:=⟨h.lst s e.l,e.n,λi t r e1 e2=>h.tup s (e.t i t r e1 e2)⟩
theorem bS.zn(h:bS K CC CA CD H x dx kp ks kk p r b Dx ls)(s:cu x Dx H H'){a:Addr}{ts:List Addr}{z:List (Int×Int)}(e:Zn H a ts z):Zn H' a ts z:=⟨h.lst s e.l,e.n,λi t r e1 e2=>h.tup s (e.t i t r e1 e2)⟩
theorem bS.ak(h:bS K CC CA CD H x dx kp ks kk p r b Dx ls)(s:cu x Dx H H'){a C m b2 d:Addr}{q:Ak}(e:eK K C H a q m b2 d):eK K C H' a q m b2 d:=⟨h.ins s e.o (by simp[fZ,List.lookup_cons,gi]),h.tup s e.ms,h.tup s e.bh⟩
theorem bS.du(h:bS K CC CA CD H x dx kp ks kk p r b Dx ls)(s:cu x Dx H H'){a d ap l m b2 bH:Addr}{y:Dr}{ts:List Addr}(e:iB K CA CD H a y d ap l ts m b2 bH):iB K CA CD H' a y d ap l ts m b2 bH:=⟨h.ins s e.o (by simp[iW,List.lookup_cons,gi]),h.ak s e.a,h.zn s e.c⟩
theorem bS.uo(h:bS K CC CA CD H x dx kp ks kk p r b Dx ls)(s:cu x Dx H H'){y:Dr×Addr}(e:AL K CA CD H y):AL K CA CD H' y:=let ⟨a,b,c,d,e,f,g,z⟩:=e;⟨a,b,c,d,e,f,g,h.du s z⟩
theorem bS.Ip(h:bS K CC CA CD H x dx kp ks kk p r b Dx ls)(s:cu x Dx H H'){C a:Addr}{P:Pl}{fp:List Addr}(e:bZ K C H a P fp):bZ K C H' a P fp:=by
 obtain⟨cZ,a1,a2,a3,a4,ts,fs,e,g⟩:=e;have f1:=g.f1;refine⟨cZ,a1,a2,a3,a4,ts,fs,e,{ g with o:=s _ _ g.o (λz=>?_) (λz=>?_),rc:=h.lst s g.rc,sw:=h.lst s g.sw,nc:=h.zn s g.nc,cn:=s _ _ g.cn (λz=>?_) (λz=>?_)}⟩
 ·have:=h.o;rw[← z,g.o] at this;cases this;simp[e8,List.lookup_cons,gi] at f1
 ·have:=h.d;rw[← z,g.o] at this;cases this
 ·have:=h.o;rw[← z,g.cn] at this;cases this
 ·have:=h.d;rw[← z,g.cn] at this;cases this
theorem bS.step(h:bS K CC CA CD H x dx kp ks kk p r b Dx ls)(s:cu x Dx H H'){r2 b2:Int}{dD:List (Dr×Addr)}(sub:dD.Sublist ls)(o:H' x=some (.ins CC dx (e8 kp p r2 b2 Dx)))(d:H' Dx=some (.dK (c9 dD))):bS K CC CA CD H' x dx kp ks kk p r2 b2 Dx dD :=
 ⟨o,h.zt s h.k,d,λy hy=>h.uo s (h.t y (sub.subset hy)),h.up.sublist sub,Nat.le_trans sub.length_le h.n,λy hy=>h.kn y (sub.subset hy)⟩
theorem bS.free(h:bS K CC CA CD H' x dx kp ks kk p r b Dx ls)(s:cu x Dx H H'){a:Addr}(n:H' a=none):H a=none:=by
 cases e:H a with
 | none=>rfl
 | some o =>
  have:=s _ _ e (λz=>by have:=h.o;rw[← z,n] at this;cases this) (λz=>by have:=h.d;rw[← z,n] at this;cases this)
  rw[n] at this;cases this
theorem bS.same(h:bS K CC CA CD H x dx kp ks kk p r b Dx ls)(s:aj H H'):bS K CC CA CD H' x dx kp ks kk p r b Dx ls:=h.step (cu.of s) (.refl _) (s _ _ h.o) (s _ _ h.d)
theorem bS.kt(h:bS K CC CA CD H x dx kp ks kk p r b Dx ls)(s:cA H H'):bS K CC CA CD H' x dx kp ks kk p r b Dx ls :=
 ⟨s.ins h.o (by simp[j5,e8,List.lookup_cons,gi]),⟨s.lst h.k.l,h.k.n,λi t r e1 e2=>s.tup (h.k.t i t r e1 e2)⟩,s _ _ h.d (.of (λ_ z=>nomatch z) (λ_ _ _ z=>nomatch z) λ_ z=>nomatch z),λy hy=>let ⟨a,b,c,d,e,f,g,z⟩:=h.t y hy;⟨a,b,c,d,e,f,g,z.kt s⟩,h.up,h.n,h.kn⟩
end
noncomputable def SM(ls:List (Dr×Addr))(b b2:Int):Prop:=∃M,(∃y∈ls,y.1.q.at_=M)/\(∀y∈ls,M<=y.1.q.at_)/\b2=if b<M then M else b
noncomputable def aeB(K:PySem.W.Frag)(CC CA CD:Addr):Sp:=λvs H Q _=>∃(x dx kp:Addr) (ks:List Addr) (kk:List (List Int)) (p:Addr) (r b:Int) (Dx:Addr) (ls:List (Dr×Addr)),vs = [.ref x]/\bS K CC CA CD H x dx kp ks kk p r b Dx ls/\1<=ls.length/\
 ∀b2 H',SM ls b b2->cu x Dx H H'->bS K CC CA CD H' x dx kp ks kk p r b2 Dx ls->Q .aV H'
noncomputable def aeC(K:PySem.W.Frag)(CC CA CD:Addr):Sp:=λvs H Q _=>∃(x dx kp:Addr) (ks:List Addr) (kk:List (List Int)) (p:Addr) (r b:Int) (Dx:Addr) (ls:List (Dr×Addr)) (n:Nat) (ns:List Int),vs = [.ref x,.int (n:Int)]/\bS K CC CA CD H x dx kp ks kk p r b Dx ls/\kk[n]? = some ns/\ns.length<=1000/\
 ∀H',aj H H'->Q (.bl (ns.any (lR ls))) H'
noncomputable def wV(kk:List (List Int))(b:Int)(ls:List (Dr×Addr)):List (Dr×Addr):=(ls.filter λy=>decide (y.1.q.at_<=b)).filter λy => !((kk.getD y.1.n.toNat []).any (lR ls))
noncomputable def aeD(K:PySem.W.Frag)(CC CA CD:Addr):Sp:=λvs H Q _=>∃(x dx kp:Addr) (ks:List Addr) (kk:List (List Int)) (p:Addr) (r b:Int) (Dx:Addr) (ls:List (Dr×Addr)),vs = [.ref x]/\bS K CC CA CD H x dx kp ks kk p r b Dx ls/\1<=ls.length/\(∀ns∈kk,ns.length<=1000)/\
 ∀b2 D H',SM ls b b2->cu x Dx H H'->bS K CC CA CD H' x dx kp ks kk p r b2 Dx ls->H D=none->fH K CA CD H' D ((wV kk b2 ls).map (·.2)) ((wV kk b2 ls).map (·.1))->Q (.ref D) H'
noncomputable def aeE(K:PySem.W.Frag)(cs:List Addr)(CC CA CD:Addr):Sp:=λvs H Q _=>∃(C x dx kp:Addr) (ks:List Addr) (kk:List (List Int)) (p:Addr) (P:Pl) (fp:List Addr) (r b:Int) (Dx:Addr) (ls:List (Dr×Addr)) (y:Dr×Addr),vs = [.ref x,.int y.1.n]/\bS K CC CA CD H x dx kp ks kk p r b Dx ls/\y∈ls/\
 C∈cs/\bZ K C H p P fp/\g_ P/\0<=r/\r<P.rc.length/\h_ P y.1.c/\1<=y.1.c.length/\y.1.c.length<=1000/\
 ∀l ts H',cu x Dx H H'->H l=none->bS K CC CA CD H' x dx kp ks kk p (cE P (r,b) y.1.c).1 (cE P (r,b) y.1.c).2 Dx (ls.filter λz=>decide (z.1.n≠y.1.n))->Zt H' l ts ((gU P (r,b) y.1.c).map λrow=>y.1.n::row)->Q (.ref l) H'
noncomputable def cy(nc:List (Int×Int)):Nat->List Ak->List Dr
 | _,[]=>[]
 | k,q::r=>⟨(k:Int),q,b_ nc q.first q.many⟩::cy nc (k+1) r
theorem SN(nc:List (Int×Int))(q:Ak):∀(qs:List Ak) (k:Nat),cy nc k (qs++[q])=cy nc k qs++[⟨((k+qs.length:Nat):Int),q,b_ nc q.first q.many⟩]
 | [],k=>by simp[cy]
 | a::qs,k=>by
  have e:k+1+qs.length=k+(qs.length+1):=by lia
  simp[cy,SN nc q qs (k+1),e]
theorem Iq(nc:List (Int×Int)):∀(qs:List Ak) (k:Nat),(cy nc k qs).length=qs.length
 | [],k=>rfl
 | a::qs,k=>by simp[cy,Iq nc qs (k+1)]
theorem mZ(nc:List (Int×Int)):∀(qs:List Ak) (k:Nat) (d:Dr),d∈cy nc k qs->(k:Int)<=d.n/\d.n<((k+qs.length:Nat):Int)
 | [],k,d,h=>by cases h
 | a::qs,k,d,h=>by
  rcases List.mem_cons.mp h with rfl | h
  ·dsimp only;simp only[List.length_cons];lia
  ·have:=mZ nc qs (k+1) d h;simp only[List.length_cons];lia
theorem SO{r:List Int}(h:r.length=5):∃a b c d e,r = [a,b,c,d,e]:=by
 match r,h with
 | [a,b,c,d,e],_=>exact⟨a,b,c,d,e,rfl⟩
section
variable{K:PySem.W.Frag}{CC CA CD:Addr}{H H':Hp}{x dx:Addr}
theorem uq(hx:H x=some (.ins CC dx []))(s:SameBut x H H'){a:Addr}{xs:List V}(e:H a=some (.lst xs)):H' a=some (.lst xs):=s _ _ e (λz=>by rw[z,hx] at e;cases e)
theorem AM(hx:H x=some (.ins CC dx []))(s:SameBut x H H'){a:Addr}{xs:List V}(e:H a=some (.tup xs)):H' a=some (.tup xs):=s _ _ e (λz=>by rw[z,hx] at e;cases e)
theorem aeF(hx:H x=some (.ins CC dx []))(s:SameBut x H H'){a:Addr}{ts:List Addr}{z:List (List Int)}(e:Zt H a ts z):Zt H' a ts z:=⟨uq hx s e.l,e.n,λi t r e1 e2=>AM hx s (e.t i t r e1 e2)⟩
theorem aeG(hx:H x=some (.ins CC dx []))(s:SameBut x H H'){a C m b d:Addr}{q:Ak}(e:eK K C H a q m b d):eK K C H' a q m b d:=⟨s _ _ e.o (λz=>by have:=e.o;rw[z,hx] at this;simp[fZ] at this),AM hx s e.ms,AM hx s e.bh⟩
theorem aeH(hx:H x=some (.ins CC dx []))(s:SameBut x H H'){C a:Addr}{P:Pl}{fp:List Addr}(e:bZ K C H a P fp):bZ K C H' a P fp:=by
 obtain⟨cZ,a1,a2,a3,a4,ts,fs,e,g⟩:=e;have f1:=g.f1;refine⟨cZ,a1,a2,a3,a4,ts,fs,e,{ g with o:=s _ _ g.o (λz=>?_),rc:=uq hx s g.rc,sw:=uq hx s g.sw,nc:=⟨uq hx s g.nc.l,g.nc.n,λi t r e1 e2=>AM hx s (g.nc.t i t r e1 e2)⟩,cn:=s _ _ g.cn (λz=>?_)}⟩
 ·have:=g.o;rw[z,hx] at this;cases this;simp at f1
 ·have:=g.cn;rw[z,hx] at this;cases this
end
section
variable{K:PySem.W.Frag}{CC CA CD:Addr}{H:Hp}{x dx kp:Addr}{ks:List Addr}{kk:List (List Int)}{p:Addr}{r b:Int}{Dx:Addr}{ls:List (Dr×Addr)}
theorem bS.add(h:bS K CC CA CD H x dx kp ks kk p r b Dx ls){y:Dr×Addr}(hy:AL K CA CD H y)(n0:0<=y.1.n)(n1:y.1.n<kk.length)(up:∀z∈ls,z.1.n<y.1.n)(hn:ls.length<100):bS K CC CA CD (upd H Dx (.dK (putK (c9 ls) (c8 y.1.n) (.ref y.2)))) x dx kp ks kk p r b Dx (ls++[y]):=by
 have s:cu x Dx H (upd H Dx (.dK (putK (c9 ls) (c8 y.1.n) (.ref y.2)))):=(cu.of (λ_ _ e=>e)).um;have nv:cL (c9 ls) (c8 y.1.n)=none:=by
  cases e:cL (c9 ls) (c8 y.1.n) with
  | none=>rfl
  | some v =>
   have:=SJ ls y.1.n;rw[e] at this;obtain⟨z,hz,e2⟩:=List.any_eq_true.mp this.symm;have:=of_decide_eq_true e2;have:=up z hz;lia
 refine⟨by rw[aI h.ne];exact h.o,h.zt s h.k,?_,λz hz=>?_,?_,by rw[List.length_append,List.length_singleton];lia,λz hz=>?_⟩
 ·rw[aH,abN _ nv];unfold c9;rw[List.map_append];rfl
 ·rcases List.mem_append.mp hz with hz | hz
  ·exact h.uo s (h.t z hz)
  ·rw[List.mem_singleton.mp hz];exact h.uo s hy
 ·rw[List.pairwise_append];exact⟨h.up,List.pairwise_singleton _ _,λa ha c hc=>by rw[List.mem_singleton.mp hc];exact up a ha⟩
 ·rcases List.mem_append.mp hz with hz | hz
  ·exact h.kn z hz
  ·rw[List.mem_singleton.mp hz];exact⟨n0,n1⟩
end
noncomputable def aeI(K:PySem.W.Frag)(cs:List Addr)(CC CA CD:Addr):Sp:=λvs H Q _=>∃(C x dx p la:Addr) (P:Pl) (fp ps:List Addr) (qs:List Ak) (r:Int),vs = [.ref x,.ref p,.ref la,.int r]/\H x=some (.ins CC dx [])/\C∈cs/\bZ K C H p P fp/\P.nc.length<=1000000/\cj K CA H la ps qs/\tW P.nc.length qs/\(∀q∈qs,q.kind≠"rest")/\
 ∀kp ks Dx ls H',SameBut x H H'->H Dx=none->bS K CC CA CD H' x dx kp ks (jI qs qs.length) p r 0 Dx ls->ls.map (·.1)=cy P.nc 0 qs->Q .aV H'
noncomputable def SQ(CP:Addr):Sp:=λvs H Q _=>∃(x dx:Addr) (v1 v2 v3 v4 v5:V),vs = [.ref x,v1,v2,v3,v4,v5]/\H x=some (.ins CP dx [])/\
 Q .aV (upd H x (.ins CP dx [("rows",v1),("taken",v2),("told",v3),("answers",v4),("end",v5)]))
noncomputable def aeJ(K:PySem.W.Frag):Sp:=λvs H Q _=>∃(l:Addr) (ts:List Addr) (z:List (List Int)),vs = [.ref l]/\Zt H l ts z/\z.length<=100000/\(∀r∈z,r.length=5)/\
 ∀E kvs H',aj H H'->H E=none->H' E=some (.dK kvs)->(∀n:Int,(∃r∈z,r.head? = some n)->∃e:Int,cL kvs (c8 n)=some (.int e))->Q (.ref E) H'
noncomputable def aeK(K:PySem.W.Frag)(CA:Addr):Sp:=λvs H Q _=>∃(a:Addr) (q:Ak) (m b dx:Addr),vs = [.ref a]/\eK K CA H a q m b dx/\0<=q.first/\q.first<=1000000/\0<=q.many/\q.many<=16/\
 ∀l (ns:List Int) H',aj H H'->H l=none->ns.length=q.many.toNat->H' l=some (.lst (ns.map V.int))->Q (.ref l) H'
noncomputable def SR(K:PySem.W.Frag)(CA:Addr):Sp:=λvs H Q _=>∃(la:Addr) (ps:List Addr) (qs:List Ak) (pi:Addr) (ns:List Int),vs = [.ref la,.ref pi]/\cj K CA H la ps qs/\qs.length<=100/\(∀q∈qs,q.kind = "read"/\0<=q.first/\q.first<=1000000/\0<=q.many/\q.many<=16)/\H pi=some (.lst (ns.map V.int))/\ns.length<=100/\(∀n∈ns,0<=n/\n<qs.length)/\
 ∀l H',aj H H'->Q (.ref l) H'
noncomputable def SV(K:PySem.W.Frag)(CA:Addr):Sp:=λvs H Q _=>∃(la:Addr) (ps:List Addr) (qs:List Ak) (E:Addr) (kvs:List (Key×V)) (sh:Int),vs = [.ref la,.ref E,.int sh]/\cj K CA H la ps qs/\qs.length<=100/\(∀q∈qs,q.kind = "read"/\q.early=false)/\H E=some (.dK kvs)/\(∀n:Int,0<=n->n<qs.length->∃e:Int,cL kvs (c8 n)=some (.int e))/\
 ∀l H',aj H H'->Q (.ref l) H'
noncomputable def amI(K:PySem.W.Frag)(cf:List Addr)(CL CS:Addr)(o:Option Bool)(st:Lt)(H:Hp)(ru dx B:Addr):Prop:=match o with
 | none=>∃C,C∈cf/\H ru=some (.ins C dx [])
 | some sw=>∃C,wN CL CS C sw/\p5 K C/\fz C H ru st dx B
noncomputable def Ir(o:Option Bool)(st:Lt)(r:Int)(ds:List Dr)(d:Dr)(bJ:Lt):Prop:=match o with
 | none=>bestOf (λ_=>(0,0)) ds d/\bJ=st
 | some sw=>bJ=jo sw (dZ st ds) r (eN st ds)/\∃(P:Pl) (b:Int),bestOf (j7 P (oB sw r (eN st ds)) b) (lP sw (jo sw (dZ st ds) r (eN st ds)).i r (eN st ds)) d
theorem Ir.mem{o:Option Bool}{st bJ:Lt}{r:Int}{ds:List Dr}{d:Dr}(h:Ir o st r ds d bJ):d∈ds:=by
 cases o with
 | none=>exact h.1.1
 | some sw =>
  obtain⟨_,P,b,h⟩:=h;exact wL (Ig h.1)
structure ur(P:Pl)(q:Ak):Prop where
 k:q.kind = "read"
 e:q.early=false
 b:q.behind = []
 f0:0<=q.first
 f1:q.first<=1000000
 m0:1<=q.many
 m1:q.many<=16
 c:h_ P (b_ P.nc q.first q.many)
 cn:(b_ P.nc q.first q.many).length=q.many.toNat
noncomputable def wW(ds:List Dr)(b b2:Int):Prop:=∃M,(∃d∈ds,d.q.at_=M)/\(∀d∈ds,M<=d.q.at_)/\b2=if b<M then M else b
structure p6(P:Pl)(o:Option Bool)(J:List Dr->Int->Int->Lt->List (Int×Int)->Prop):Prop where
 go:∀ds r b st tk b2 d bJ,J ds r b st tk->ds≠[]->wW ds b b2->Ir o st r (ds.filter λd=>decide (d.q.at_<=b2)) d bJ->J (ds.filter λe=>decide (e.n≠d.n)) (cE P (r,b2) d.c).1 (cE P (r,b2) d.c).2 bJ (tk++[(d.n,b2)])
noncomputable def cH(n:Nat)(tk:List (Int×Int)):List V:=tk.foldl (λxs p=>xs.set p.1.toNat (.int p.2)) (List.replicate n .aV)
theorem aeL(n:Nat)(tk:List (Int×Int))(p:Int×Int):cH n (tk++[p])=(cH n tk).set p.1.toNat (.int p.2):=by
 unfold cH;rw[List.foldl_append];rfl
theorem rC(n:Nat)(tk:List (Int×Int)):(cH n tk).length=n:=by
 unfold cH
 suffices ∀xs:List V,(tk.foldl (λxs p=>xs.set p.1.toNat (.int p.2)) xs).length=xs.length by rw[this,List.length_replicate]
 induction tk with
 | nil=>intro xs;rfl
 | cons p tk ih=>intro xs;rw[List.foldl_cons,ih,List.length_set]
theorem aeM(n:Nat)(tk:List (Int×Int)):jL (cH n tk):=by
 have h:∀v∈cH n tk,v = .aV\/∃i,v=V.int i:=by
  unfold cH
  suffices ∀xs:List V,(∀v∈xs,v = .aV\/∃i,v=V.int i)->∀v∈tk.foldl (λxs p=>xs.set p.1.toNat (.int p.2)) xs,v = .aV\/∃i,v=V.int i from
   this _ λv hv=>.inl (List.eq_of_mem_replicate hv)
  induction tk with
  | nil=>intro xs h;exact h
  | cons p tk ih =>
   intro xs h;rw[List.foldl_cons];refine ih _ λv hv=>?_;rcases List.mem_or_eq_of_mem_set hv with hv | rfl
   ·exact h v hv
   ·exact .inr ⟨_,rfl⟩
 intro i j z;have:=h (.bl i) (by rw[z];simp)
 rcases this with e | ⟨_,e⟩ <;> cases e
noncomputable def aeN(v1:V)(ta:Addr)(v3 v4 v5:V):List (Str×V):=[("rows",v1),("taken",.ref ta),("told",v3),("answers",v4),("end",v5)]
section
variable{K:PySem.W.Frag}{cf:List Addr}{CL CS CC CA CD:Addr}{o:Option Bool}{st:Lt}{H H' H1:Hp}{ru dx B x dc kp p Dx:Addr}{ks:List Addr}{kk:List (List Int)}{r b:Int}{ls:List (Dr×Addr)}{TP:Addr}{pos:Pos}{qual:Str}
theorem cA.jq(k:cA H H')(s:cu x Dx H' H1)(nx:H x=none)(nd:H Dx=none):cA H H1:=λ_ _ e n=>s _ _ (k _ _ e n) (λw=>by rw[w,nx] at e;cases e) (λw=>by rw[w,nd] at e;cases e)
theorem bR.jq(t:bR TP pos qual H)(c:bS K CC CA CD H x dc kp ks kk p r b Dx ls)(s:cu x Dx H H'):bR TP pos qual H':=by
 obtain⟨ps,e,tr,w⟩:=t;have go:∀ {a:Addr} {u:HO},H a=some u->(∀C d fs,u≠.ins C d fs)->(∀k,u≠.dK k)->H' a=some u:=λ{a u} e n1 n2=>s _ _ e (λz=>by have:=c.o;rw[← z,e] at this;exact n1 _ _ _ (Option.some.inj this)) (λz=>by have:=c.d;rw[← z,e] at this;exact n2 _ (Option.some.inj this))
 refine⟨ps,go e (λ_ _ _ z=>nomatch z) (λ_ z=>nomatch z),tr,?_⟩;rcases w with w | ⟨c',e1,e2⟩
 ·exact .inl w
 ·exact .inr ⟨c',e1,go e2 (λ_ _ _ z=>nomatch z) (λ_ z=>nomatch z)⟩
noncomputable def kF(x Dx:Addr)(H H':Hp):Prop:=∀b o,H b=some o->oz o->b≠x->b≠Dx->H' b=some o
theorem kF.jq(k:kF x Dx H H')(s:cu x Dx H' H1):kF x Dx H H1:=λ_ _ e n n1 n2=>s _ _ (k _ _ e n n1 n2) n1 n2
theorem kF.kt(k:kF x Dx H H')(s:cA H' H1):kF x Dx H H1:=λ_ _ e n n1 n2=>s _ _ (k _ _ e n n1 n2) n
theorem kF.put{l:Addr}{u:HO}(k:kF x Dx H H')(nl:H l=none):kF x Dx H (upd H' l u):=λ_ _ e n n1 n2=>by rw[aI (λw=>by rw[w,nl] at e;cases e)];exact k _ _ e n n1 n2
theorem bS.SW(h:bS K CC CA CD H x dc kp ks kk p r b Dx ls)(s:kF x Dx H H'){r2 b2:Int}{dD:List (Dr×Addr)}(sub:dD.Sublist ls)(o:H' x=some (.ins CC dc (e8 kp p r2 b2 Dx)))(d:H' Dx=some (.dK (c9 dD))):bS K CC CA CD H' x dc kp ks kk p r2 b2 Dx dD:=by
 have hl:∀ {a:Addr} {xs:List V},H a=some (.lst xs)->jL xs->H' a=some (.lst xs):=λ{a xs} e n=>s _ _ e (.lst n) (λz=>by have:=h.o;rw[← z,e] at this;cases this) (λz=>by have:=h.d;rw[← z,e] at this;cases this)
 have ht:∀ {a:Addr} {xs:List V},H a=some (.tup xs)->H' a=some (.tup xs):=λ{a xs} e=>s _ _ e (.of (λ_ z=>nomatch z) (λ_ _ _ z=>nomatch z) λ_ z=>nomatch z) (λz=>by have:=h.o;rw[← z,e] at this;cases this) (λz=>by have:=h.d;rw[← z,e] at this;cases this)
 have hi:∀ {a C d:Addr} {fs:List (Str×V)},H a=some (.ins C d fs)->j5 fs=false->fs.lookup ("keeping" : Str)=none->H' a=some (.ins C d fs):=λ{a C d fs} e n1 n2=>s _ _ e (.ins n1) (λz=>by have:=h.o;rw[← z,e] at this;cases this;simp[e8,List.lookup_cons] at n2) (λz=>by have:=h.d;rw[← z,e] at this;cases this)
 refine⟨o,⟨hl h.k.l jL.refs,h.k.n,λi t r e1 e2=>ht (h.k.t i t r e1 e2)⟩,d,λy hy=>?_,h.up.sublist sub,Nat.le_trans sub.length_le h.n,λy hy=>h.kn y (sub.subset hy)⟩;obtain⟨cZ,ap,l,ts,m,b',bH,g⟩:=h.t y (sub.subset hy);exact⟨cZ,ap,l,ts,m,b',bH,hi g.o Se (by simp[iW,List.lookup_cons,gi]),⟨hi g.a.o Sd (by simp[fZ,List.lookup_cons,gi]),ht g.a.ms,ht g.a.bh⟩,⟨hl g.c.l jL.refs,g.c.n,λi t r e1 e2=>ht (g.c.t i t r e1 e2)⟩⟩
end
theorem nBD{K:PySem.W.Frag}{CC CA CD:Addr}{H:Hp}{x dc kp p Dx B B':Addr}{ks:List Addr}{kk:List (List Int)}{r b:Int}{ls:List (Dr×Addr)}(n:B≠Dx)(c:bS K CC CA CD H x dc kp ks kk p r b Dx ls)(h:B' = B\/H B' = none):B'≠Dx:=λz=>by
 rcases h with h | h
 ·exact n (h▸z)
 ·rw[z,c.d] at h;cases h
theorem bR.jc{H:Hp}{TP l:Addr}{pos:Pos}{qual:Str}{xs:List V}{u:HO}(t:bR TP pos qual H)(e:H l=some (.lst xs)):bR TP pos qual (upd H l u):=by
 obtain⟨ps,e1,tr,w⟩:=t;refine⟨ps,by rw[aI (λz=>by rw[z,e] at e1;cases e1)];exact e1,tr,?_⟩
 rcases w with w | ⟨c',e2,e3⟩
 ·exact .inl w
 ·exact .inr ⟨c',e2,by rw[aI (λz=>by rw[z,e] at e3;cases e3)];exact e3⟩
theorem aeO{ls:List (Dr×Addr)}(up:ls.Pairwise λa b=>a.1.n<b.1.n){y:Dr×Addr}(hy:y∈ls):(ls.filter λz=>decide (z.1.n≠y.1.n)).length+1=ls.length:=by
 have nd:((c9 ls).map (·.1)).Nodup:=by
  unfold c9;rw[List.map_map,List.nodup_iff_pairwise_ne,List.pairwise_map];exact up.imp λ{a b} h z=>by
   have:=wR.mp z;lia
 have:=Q5 (k:=c8 y.1.n) nd (by
  unfold c9;rw[List.map_map];exact List.mem_map.mpr ⟨y,hy,rfl⟩)
 rw[SK,wU,wU] at this;exact this
theorem cj.kt{K:PySem.W.Frag}{C:Addr}{H H':Hp}{l:Addr}{ps:List Addr}{qs:List Ak}(h:cj K C H l ps qs)(k:cA H H'):cj K C H' l ps qs:=⟨k.lst h.l,h.n,λi p q e1 e2=>let ⟨m,b,dx,z⟩:=h.t i p q e1 e2;⟨m,b,dx,z.kt k⟩⟩
theorem wX(nc:List (Int×Int)):∀(qs:List Ak) (k i:Nat),i<qs.length->∃d∈cy nc k qs,d.n=((k+i:Nat):Int)
 | [],k,i,h=>by simp at h
 | q::qs,k,0,h=>⟨_,List.mem_cons_self ..,rfl⟩
 | q::qs,k,i+1,h=>by
  obtain⟨d,hd,e⟩:=wX nc qs (k+1) i (by simpa using h)
  exact⟨d,List.mem_cons_of_mem _ hd,by rw[e];congr 1;lia⟩
theorem rD(nc:List (Int×Int)):∀(qs:List Ak) (k:Nat) (d:Dr),d∈cy nc k qs->d.q∈qs/\d.c=b_ nc d.q.first d.q.many
 | [],k,d,h=>by cases h
 | q::qs,k,d,h=>by
  rcases List.mem_cons.mp h with rfl | h
  ·exact⟨List.mem_cons_self ..,rfl⟩
  ·obtain⟨a,b⟩:=rD nc qs (k+1) d h;exact⟨List.mem_cons_of_mem _ a,b⟩
theorem aeP{P:Pl}{qs:List Ak}(rd:∀q∈qs,ur P q):∀ns∈jI qs qs.length,ns = []:=by
 intro ns h;unfold jI at h;obtain⟨k,hk,rfl⟩:=List.mem_map.mp h;unfold Al;rw[List.map_eq_nil_iff,List.filter_eq_nil_iff];intro j hj;have h1:=List.mem_range.mp hk;have h2:=List.mem_range.mp hj;have h3:j<qs.length:=by lia
 rw[List.getElem?_eq_getElem h1,List.getElem?_eq_getElem h3];have a:=rd _ (List.getElem_mem h1);have b:=rd _ (List.getElem_mem h3);have n6:((Str.ofString "read"):Str)≠"write" := HG (by decide)
 simp[a.b,tV,a.k,b.k,n6]
theorem aeQ{kk:List (List Int)}(h:∀ns∈kk,ns = [])(b:Int)(ls:List (Dr×Addr)):wV kk b ls=ls.filter λy=>decide (y.1.q.at_<=b):=by
 unfold wV;refine List.filter_eq_self.mpr λy _=>?_;have:kk.getD y.1.n.toNat [] = []:=by
  rw[List.getD_eq_getElem?_getD];cases e:kk[y.1.n.toNat]? with
  | none=>rfl
  | some ns=>exact h ns (List.mem_of_getElem? e)
 rw[this];rfl
theorem Zt.cat{H:Hp}{R l:Addr}{ts tw:List Addr}{z z2:List (List Int)}(h:Zt H R ts z)(h2:Zt H l tw z2):Zt (upd H R (.lst (ts.map V.ref++tw.map V.ref))) R (ts++tw) (z++z2):=by
 have ne:∀ {t:Addr} {xs:List V},H t=some (.tup xs)->t≠R:=λe q=>by rw[q,h.l] at e;cases e
 have hn:=h.n;refine⟨by rw[aH,List.map_append],by simp[h.n,h2.n],λi t x e1 e2=>?_⟩
 by_cases hi:i<ts.length
 ·rw[List.getElem?_append_left hi] at e1;rw[List.getElem?_append_left (by lia)] at e2
  have:=h.t i t x e1 e2;rw[aI (ne this)];exact this
 ·rw[List.getElem?_append_right (by lia)] at e1
  rw[List.getElem?_append_right (by lia),← hn] at e2
  have:=h2.t _ t x e1 e2;rw[aI (ne this)];exact this
section
variable{X:Cx}
theorem aeR(hu:X.A.units<cLine):cV X (compareOp .Eq) (λx y H Q=>∃(a b:Addr) (ns ms:List Int),x = .ref a/\y = .ref b/\H a=some (.tup (ns.map V.int))/\H b=some (.tup (ms.map V.int))/\Q (.bl (decide (ns=ms))) H):=by
 rintro pins s σ H x y v u Q I rx ry ⟨p,q,ns,ms,rfl,rfl,h,h',hq⟩;cases rx;cases ry;obtain⟨aG,r1,q1,_⟩:=I.tuple (bD.of (K:=X.K) h);obtain⟨jX,r2,q2,_⟩:=I.tuple (bD.of (K:=X.K) h');have l1:ns.length=aG.length:=by have:=r1.length;simpa using this
 have l2:ms.length=jX.length:=by have:=r2.length;simpa using this
 have e0:((List.range (min aG.toArray.size jX.toArray.size)).all (λj=>decide (ns[j]? = ms[j]?)) && aG.toArray.size == jX.toArray.size)=decide (ns=ms):=by
  rw[Bool.eq_iff_iff];simp only[Bool.and_eq_true,List.all_eq_true,List.mem_range,decide_eq_true_eq,beq_iff_eq,List.size_toArray];constructor
  ·rintro⟨h1,h2⟩;refine List.ext_getElem? λj=>?_
   by_cases hj:j<min aG.length jX.length
   ·exact h1 j hj
   ·rw[List.getElem?_eq_none (by lia),List.getElem?_eq_none (by lia)]
  ·rintro rfl;exact⟨λ_ _=>rfl,by lia⟩
 have fin:=SeqAt.RcAt.tuples (A:=X.A) (s:=s) (e:=λj=>decide (ns[j]? = ms[j]?)) q1 q2 (by lia) (λj h1 h2=>?_)
 ·rw[e0] at fin;exact fin X.prog X.w _ _ ⟨.bl (decide (ns=ms)),H,I,rfl,hq⟩
 ·have j1:j<ns.length:=by rw[l1];simpa using h1
  have j2:j<ms.length:=by rw[l2];simpa using h2
  obtain⟨u1,g1,w1⟩:=r1.get (show (ns.map V.int)[j]? = some (.int ns[j]) by simp[j1])
  obtain⟨u2,g2,w2⟩:=r2.get (show (ms.map V.int)[j]? = some (.int ms[j]) by simp[j2])
  have e1:aG.toArray[j] = u1:=by
   rw[List.getElem_toArray];exact Option.some.inj ((List.getElem?_eq_getElem (by simpa using h1)).symm.trans g1)
  have e2:jX.toArray[j] = u2:=by
   rw[List.getElem_toArray];exact Option.some.inj ((List.getElem?_eq_getElem (by simpa using h2)).symm.trans g2)
  obtain⟨t1,rfl⟩:=w1;obtain⟨t2,rfl⟩:=w2;rw[e1,e2];have:=SeqAt.EqAt.int_int (A:=X.A.in1) (s:=s) ns[j] t1 ms[j] t2;have e3:(ns[j] == ms[j])=decide (ns[j]? = ms[j]?):=by
   simp only[List.getElem?_eq_getElem j1,List.getElem?_eq_getElem j2,Option.some.injEq];rw[Bool.eq_iff_iff];simp
  rwa [e3] at this
end
section
variable{X:Cx}
end
noncomputable def j8(z:List (Int×Int))(aJ sk:Int)(sw:List Int):Pl:=⟨counts z,aJ,sk,sw,kC (counts z) 0⟩
section
variable{X:Cx}
theorem vals3{x y z:V}{us:List Value}(r:Vals [x,y,z] us):∃u v w',us = [u,v,w']/\RelV x u/\RelV y v/\RelV z w':=by
 cases r with
 | cons r1 r =>
  obtain⟨v,w',rfl,r2,r3⟩:=vals2 r;exact⟨_,v,w',rfl,r1,r2,r3⟩
theorem step_size{i j c:Int}(hi:0<=i)(hj:j<=1000000)(hc:1<=c):∃n:Nat,Builtin.Range.rangeSize i j c=(n:Int)/\n<=1000001/\∀k:Nat,k<n->0<=i+(k:Int)*c/\i+(k:Int)*c<j:=by
 unfold Builtin.Range.rangeSize;rw[if_pos (by lia)]
 by_cases h:i<j
 ·rw[if_pos h];have h0:0<=(j - i - 1) / c:=Int.ediv_nonneg (by lia) (by lia)
  have h1:(j - i - 1) / c<=j - i - 1:=Int.ediv_le_self _ (by lia)
  refine⟨((j - i - 1) / c+1).toNat,by lia,by lia,λk hk=>?_⟩
  have Iu:(k:Int)<=(j - i - 1) / c:=by lia
  have h2:(k:Int)*c<=j - i - 1:=(Int.le_ediv_iff_mul_le (by lia)).mp Iu
  have h3:0<=(k:Int)*c:=Int.mul_nonneg (by lia) (by lia)
  lia
 ·rw[if_neg h];exact⟨0,rfl,by lia,λk hk=>by lia⟩
theorem aeS{i j c:Int}(h1:0<=i)(h2:i<=1000000)(h3:0<=j)(h4:j<=1000000)(h5:1<=c)(h6:c<=1000000):Builtin.Range.small i j c=true:=by
 obtain⟨n,en,n1,_⟩:=step_size (i:=i) (j:=j) (c:=c) h1 h4 h5;have fl:∀x:Int,0<=x->x<=3000000->Builtin.Range.rangeFitsLong x=true:=λx g1 g2=>by
  unfold Builtin.Range.rangeFitsLong;simp;lia
 unfold Builtin.Range.small;rw[en,fl i h1 (by lia),fl j h3 (by lia),fl c (by lia) (by lia),fl n (by lia) (by lia),if_pos (by lia),fl (j+(c - 1)) (by lia) (by lia)]
 simp
end
noncomputable def wY(lo c:Int)(n:Nat):It:=⟨λi _=>i<n,λi H x H'=>H' = H/\x = .int (lo+i*c),λi _=>n<=i⟩
theorem aeT{P:Program}{w:World}{K:PySem.W.Frag}{tg:Expr}(it:Addr)(lo c:Int)(n:Nat):Turn P w K tg (wY lo c n) [it] it (λi h=>IsRangeIter h it (lo+(i:Nat)*c) ((n:Int) - (i:Nat)) c) where
 mem:=by simp
 obj:=λi h st b hb=>by
  have e:b=it:=by simpa using hb
  subst e;exact⟨_,st,λv z=>by
   have z':Data.fields _=Data.cell v:=z;cases z'⟩
 keep:=λi h h' st k=>k it (by simp) _ st
 item:=by
  intro X hP hw hK hc i pins s σ H E I hf st hg;subst hP hw hK;obtain⟨f0,f1,f2,f3,f4,f5⟩:=hf it (by simp)
  have W:=Walks.range (prog:=X.prog) (w:=X.w) (I.ok.hd hc) it lo c n;refine W.item i s _ _ hg st λv h' tk hv bJ kk=>?_;obtain⟨t,rfl⟩:=hv;have I1:Inv X pins σ H { s with heap:=h',toks:=tk }:=I.turned (λb o hb e=>kk b o (by simpa using hb) e) f0 f1 f3 f4 f5
  exact⟨_,rfl,vA (s:={ s with heap:=h',toks:=tk }) (n := "range_iterator") bJ rfl rfl (by decide) ⟨.int (lo+i*c),H,I1,⟨t,rfl⟩,⟨rfl,rfl⟩,bJ,λb hb=>(hf b hb).1⟩⟩
 done:=by
  intro X hP hw hK hc i pins s σ H E I hf st hg;subst hP hw hK;obtain⟨f0,f1,f2,f3,f4,f5⟩:=hf it (by simp)
  exact wpAny_pyNext_range_end (I.ok.hd hc) st (by have:n<=i:=hg;lia) λh' eb=>⟨rfl,I.turned (t':=s.toks) (λb o hb e=>eb b o hb e) f0 f1 f3 f4 f5⟩
 self:=λ_ _ _ _ _ st h=>wpAny_pyIter_rangeiter st h
section
variable{X:Cx}{tg:Expr}
structure oH(i j c:Int)(n:Nat):Prop where
 b:n<=1000001
 lt:∀k:Nat,k<n->i+(k:Int)*c<j
 ge:j<=i+(n:Int)*c
theorem SX{i j c:Int}(hi:0<=i)(hj:j<=1000000)(hc:1<=c)(ij:i<=j):∃n:Nat,Builtin.Range.rangeSize i j c=(n:Int)/\oH i j c n:=by
 unfold Builtin.Range.rangeSize;rw[if_pos (by lia)]
 by_cases h:i<j
 ·rw[if_pos h];have h0:0<=(j - i - 1) / c:=Int.ediv_nonneg (by lia) (by lia)
  have h1:(j - i - 1) / c<=j - i - 1:=Int.ediv_le_self _ (by lia)
  refine⟨((j - i - 1) / c+1).toNat,by lia,by lia,λk hk=>?_,?_⟩
  ·have Iu:(k:Int)<=(j - i - 1) / c:=by lia
   have h2:(k:Int)*c<=j - i - 1:=(Int.le_ediv_iff_mul_le (by lia)).mp Iu
   lia
  ·have:=Int.lt_ediv_add_one_mul_self (j - i - 1) (show 0<c by lia)
   rw[show ((((j - i - 1) / c+1).toNat:Nat):Int)=(j - i - 1) / c+1 by lia]
   lia
 ·rw[if_neg h];exact⟨0,rfl,by lia,λk hk=>by lia,by simp;lia⟩
noncomputable def SY(ta:TA):TI:=λσ H R=>ta σ H λvs H1=>∃i j c:Int,vs = [.int i,.int j,.int c]/\(0<=i/\i<=j/\j<=1000000/\1<=c/\c<=1000000)/\∀n,oH i j c n->R (wY i c n) H1
theorem aeU{a b c:Expr}{ta:TA}{p pos:Pos}(hg:Gl X "range")(hm:X.mg "range" = none)(ha:PA X [a,b,c] ta)
  (hs:starEach [a,b,c] X.env = [(false,eval a X.env),(false,eval b X.env),(false,eval c X.env)]:=by rfl) (iL:starEach [b,c] X.env = [(false,eval b X.env),(false,eval c X.env)]:=by rfl) :
  PI X tg (.Call (.Name "range" p) [a,b,c] [] pos) (SY ta):=by
 intro pins s σ H R I h;refine Call_ (kX I hg hm boot_range (PyProof.Rows.callWith_type1 (aP (ha pos pins s σ H _ I h) λus s1 ⟨vs,H1,I1,r1,q1⟩=>?_) (by rw[hs,iL]) (by rw[iL];rfl)))
 obtain⟨i,j,c',e,⟨b1,b2,b3,b4,b5⟩,q⟩:=q1;subst e;obtain⟨u,v,w',rfl,ru,rv,fO⟩:=vals3 r1;obtain⟨t,rfl⟩:=ru;obtain⟨t',rfl⟩:=rv;obtain⟨t2,rfl⟩:=fO;refine call_range_3 (by lia) ?_ (Or.inl (PyProof.noPylong_small (by lia)))
 obtain⟨n,en,st⟩:=SX (i:=i) (j:=j) (c:=c') b1 b3 b4 b2;refine wpAny_pyIter_range (IsRange.new ..) (aeS b1 (by lia) (by lia) b3 b4 b5) ?_
 have I2:Inv X pins σ H1 { s1 with heap:=s1.heap.push { cls:=.type "range",data:=.fields #[.int i t,.int j t',.int c' t2] }}:=I1.kept (t':=s1.toks) λb o e=>Heap.get?_push_of_some _ e;refine⟨(s1.heap.push { cls:=.type "range",data:=.fields #[.int i t,.int j t',.int c' t2] }).objs.size,[(s1.heap.push { cls:=.type "range",data:=.fields #[.int i t,.int j t',.int c' t2] }).objs.size],_,_,H1,rfl,
  I2.kept (t':=s1.toks) λb o e=>Heap.get?_push_of_some _ e,aeT _ i c' n,?_,λb hb=>?_,q n st⟩
 ·have e1:i+((0:Nat):Int)*c' = i:=by simp
  have e2:(((n:Nat):Int)) - ((0:Nat):Int)=Builtin.Range.rangeSize i j c':=by rw[en];simp
  show IsRangeIter _ _ (i+((0:Nat):Int)*c') (((n:Nat):Int) - ((0:Nat):Int)) c';rw[e1,e2];exact Heap.get?_push_size _ rfl
 ·have e:b=(s1.heap.push { cls:=.type "range",data:=.fields #[.int i t,.int j t',.int c' t2] }).objs.size:=by simpa using hb
  subst e;exact I2.nO (Nat.le_refl _) (I2.aO.fresh (Nat.le_refl _))
end
theorem aeV{lo c:Int}{n:Nat}{g:TG}{tb:TS}{D:Ends}{σ:St}{H:Hp}(Pv:Nat->St->Hp->Prop)(h0:Pv 0 σ H)
  (hs:∀i σ H,i<n->Pv i σ H->g (.int (lo+i*c)) σ H λaz H2=>tb { D with nx:=Pv (i+1),ct:=Pv (i+1),bk:=D.nx } az H2) (hd:∀σ H,Pv n σ H->D.nx σ H) :
  ∃W:Nat->Nat->St->Hp->Prop,(∃m,W 0 m σ H)/\∀i m σ H,W i m σ H->
   ((wY lo c n).stop i H/\D.nx σ H)\/((wY lo c n).go i H/\∃N:St->Hp->Prop,(∀bG H',N bG H'->∃m',m' < m/\W (i+1) m' bG H')/\∀x H',(wY lo c n).nN i H x H'->g x σ H' λaz H2=>tb { D with nx:=N,ct:=N,bk:=D.nx } az H2):=by
 refine⟨λi m σ H=>m=n - i/\i<=n/\Pv i σ H,⟨n,by simp,Nat.zero_le _,h0⟩,?_⟩
 rintro i m σ H ⟨rfl,hi,p⟩;by_cases bW:i<n
 ·refine .inr ⟨bW,Pv (i+1),λbG H' p'=>⟨n - (i+1),by lia,rfl,bW,p'⟩,λx H' y=>?_⟩
  obtain⟨e,y⟩:=y;subst e y;exact hs i σ _ bW p
 ·have e:i=n:=by lia
  subst e;exact .inl ⟨Nat.le_refl _,hd σ H p⟩
theorem rr3{ta:TA}{g:TG}{tb:TS}{D:Ends}{σ:St}{H:Hp}(lo hi c:Int)(Pv:Nat->Nat->St->Hp->Prop)(cT:∀Q:List V->Hp->Prop,Q [.int lo,.int hi,.int c] H->ta σ H Q)(b1:0<=lo)(b2:lo<=hi)(b3:hi<=1000000)(b4:1<=c)(b5:c<=1000000)(h0:∀n,oH lo hi c n->Pv n 0 σ H)
  (hs:∀n,oH lo hi c n->∀i σ H (N:St->Hp->Prop),(∀σ H,Pv n (i+1) σ H->N σ H)->i<n->Pv n i σ H->g (.int (lo+(i:Int)*c)) σ H λaz H2=>tb { D with nx:=N,ct:=N,bk:=D.nx } az H2) (hd:∀n,oH lo hi c n->∀σ H,Pv n n σ H->D.nx σ H):jU (SY ta) g tb D σ H :=
 cT _ ⟨lo,hi,c,rfl,⟨b1,b2,b3,b4,b5⟩,λn st=>aeV (Pv n) (h0 n st) (λi σ H hx p=>hs n st i σ H _ (λ_ _ z=>z) hx p) (hd n st)⟩
structure p7(X:Cx)(CX:gf)(m:Str)(C:Addr)(sp:Sp):Prop where
 ex:∃k f fd ps,bL X.K C/\Meth X.K C m f/\aZ X.prog X.w X.K X.mg X.base CX k f fd ps sp/\cK k X.A/\Binds X.K fd ps []
theorem p7.of{X:Cx}{CX:gf}{m:Str}{C:Addr}{sp:Sp}{k:Nat}{f:Addr}{fd:FuncData}{ps:List Str}(c:bL X.K C)(hm:Meth X.K C m f)(F:aZ X.prog X.w X.K X.mg X.base CX k f fd ps sp)(hr:cK k X.A)(hb:Binds X.K fd ps []):p7 X CX m C sp:=⟨k,f,fd,ps,c,hm,F,hr,hb⟩
theorem S0{X:Cx}{CX:gf}{m:Str}:∀q∈([]:List (Addr×Sp)),p7 X CX m q.1 q.2:=λq h=>by cases h
theorem kG{X:Cx}{CX:gf}{m:Str}{C:Addr}{sp:Sp}{l:List (Addr×Sp)}(h:p7 X CX m C sp)(hl:∀q∈l,p7 X CX m q.1 q.2):∀q∈(C,sp)::l,p7 X CX m q.1 q.2:=λq hq=>by
 rcases List.mem_cons.mp hq with rfl | hq
 ·exact h
 ·exact hl q hq
noncomputable def Iv(l:List (Addr×Sp))(m:Str)(E:XK)(ta:TE)(t:TA):TE:=λσ H Q=>ta σ H λx H1=>∃C a dx fs sp,x = .ref a/\H1 a=some (.ins C dx fs)/\fs.lookup m=none/\(C,sp)∈l/\t σ H1 λvs H2=>sp (x::(vs++[])) H2 Q E
section
variable{X:Cx}{CX:gf}{l:List (Addr×Sp)}{E:XK}{m:Str}{pos apos:Pos}{o e:Expr}{es:List Expr}{ta:TE}{t:TA}
theorem aeW{pl:Sem Bool}(ho:PE X o ta)(hl:∀q∈l,p7 X CX m q.1 q.2)(hx:Passes CX X E)(ha:PA X (e::es) t)
  (cG:starEach (e::es) X.env=(false,eval e X.env)::starEach es X.env:=by rfl) (gz:(backTo pos (starEach es X.env)).any (·.1)=false:=by rfl)
  (oh:eval (.Call (.Attribute o m apos) (e::es) [] pos) X.env=(do
   let ov ← eval o X.env
   standAt apos.atName
   let (f,first) ← holding [ov] (getMethod ov m pl)
   callWith pos f first (backTo pos (starEach (e::es) X.env)) (backToKw pos (keywordEach [] X.env))):=by rfl):PE X (.Call (.Attribute o m apos) (e::es) [] pos) (Iv l m E ta t):=by
 intro pins s σ H Q I h;refine PySem.W.methodCall_KW (pl:=pl) (aP (ho pins s σ H _ I h) λu s1 hz=>?_) oh;obtain⟨x,H1,I1,rx,C,a,dx,fs,sp,ex,ea,ow,hC,q⟩:=hz;subst ex;cases (show u=Value.ref a from rx);obtain⟨k,f,fd,ps,c1,c2,F,hr,hb⟩:=(hl _ hC).ex;refine pF I1 ea c1 c2 ow (PySem.W.callWith_K (first:=[.ref a]) (h₀:=X.base) I.ok.mod.mC c2.kp (aP (ha pos pins s1 σ H1 _ I1 q) λus s2 hw=>?_) cG gz)
 obtain⟨vs,H2,I2,r,q2⟩:=hw;exact⟨I2.cY,nQ (us:=.ref a::us) (vs:=.ref a::vs) F hr hb .nil hx I2 (.cons rfl r) q2⟩
theorem aeX{pl:Sem Bool}(ho:PE X o ta)(hl:∀q∈l,p7 X CX m q.1 q.2)(hx:Passes CX X E)
  (oh:eval (.Call (.Attribute o m apos) [] [] pos) X.env=(do
   let ov ← eval o X.env
   standAt apos.atName
   let (f,first) ← holding [ov] (getMethod ov m pl)
   callWith pos f first (backTo pos (starEach [] X.env)) (backToKw pos (keywordEach [] X.env))):=by rfl):PE X (.Call (.Attribute o m apos) [] [] pos) (Iv l m E ta sZ):=by
 intro pins s σ H Q I h;refine PySem.W.methodCall_KW (pl:=pl) (aP (ho pins s σ H _ I h) λu s1 hz=>?_) oh;obtain⟨x,H1,I1,rx,C,a,dx,fs,sp,ex,ea,ow,hC,q⟩:=hz;subst ex;cases (show u=Value.ref a from rx);obtain⟨k,f,fd,ps,c1,c2,F,hr,hb⟩:=(hl _ hC).ex;refine pF I1 ea c1 c2 ow (PySem.W.callWith_K0 (first:=[.ref a]) I1.cY c2.kp ?_)
 exact nQ (us:=[.ref a]) (vs:=[.ref a]) F hr hb .nil hx I1 (.cons rfl .nil) q
end
noncomputable def bU(x TP:Addr)(H H':Hp):Prop:=∀b o,H b=some o->b≠x->b≠TP->H' b=some o
section
variable{x TP:Addr}{H H1 H2:Hp}
theorem bU.of(s:SameBut x H H1):bU x TP H H1:=λ_ _ e n _=>s _ _ e n
theorem bU.tb(s:SameBut TP H H1):bU x TP H H1:=λ_ _ e _ n=>s _ _ e n
theorem bU.trans(a:bU x TP H H1)(b:bU x TP H1 H2):bU x TP H H2:=λ_ _ e n z=>b _ _ (a _ _ e n z) n z
theorem bU.same(k:bU x TP H H1)(s:aj H1 H2):bU x TP H H2:=λ_ _ e n z=>s _ _ (k _ _ e n z)
end
noncomputable def S2(K:PySem.W.Frag)(CA CD C:Addr)(sw:Bool)(P:Addr)(pos:Pos)(qual:Str):Sp:=λvs H Q _=>∃(x dx B:Addr) (st:Lt) (r:Int) (D:Addr) (ps:List Addr) (ds:List Dr) (P':Pl) (b:Int),vs = [.ref x,.int r,.ref D]/\fz C H x st dx B/\fH K CA CD H D ps ds/\1<=ds.length/\ds.length<=100/\(∀d∈ds,1<=d.c.length)/\bR P pos qual H/\
 ∀d H',bU x P H H'->bR P pos qual H'->fz C H' x (jo sw st r ds) dx B->bestOf (j7 P' (oB sw r ds) b) (lP sw (jo sw st r ds).i r ds) d->Q (.int d.n) H'
noncomputable def S3(K:PySem.W.Frag)(CA CD CL CS P:Addr)(pos:Pos)(qual:Str):Sp:=λvs H Q _=>∃(C x dx B:Addr) (sw:Bool) (st:Lt) (p:Addr) (r b:Int) (D:Addr) (ps:List Addr) (ds:List Dr) (P':Pl),vs = [.ref x,.ref p,.int r,.int b,.ref D]/\wN CL CS C sw/\p5 K C/\fz C H x st dx B/\fH K CA CD H D ps ds/\1<=ds.length/\ds.length<=100/\(∀d∈ds,1<=d.c.length)/\bR P pos qual H/\
 ∀d B' H',(B' = B\/H B' = none)->bU x P H H'->bR P pos qual H'->fz C H' x (jo sw (dZ st ds) r (eN st ds)) dx B'->bestOf (j7 P' (oB sw r (eN st ds)) b) (lP sw (jo sw (dZ st ds) r (eN st ds)).i r (eN st ds)) d->Q (.int d.n) H'
inductive Rk where
 | first | near | iE | iF
 | li (sw:Bool)
structure RC where
 f:Addr
 n:Addr
 s:Addr
 l:Addr
 li:Addr
 sw:Addr
noncomputable def cX(K:PySem.W.Frag)(c:RC)(o:Rk)(st:Lt)(H:Hp)(ru dx B:Addr):Prop:=match o with
 | .first=>H ru=some (.ins c.f dx [])
 | .near=>H ru=some (.ins c.n dx [])
 | .iE=>H ru=some (.ins c.s dx [])
 | .iF=>H ru=some (.ins c.l dx [])
 | .li sw=>∃C,wN c.li c.sw C sw/\p5 K C/\fz C H ru st dx B
noncomputable def AN(o:Rk)(st:Lt)(P:Pl)(r b:Int)(ds:List Dr)(d:Dr)(bJ:Lt):Prop:=match o with
 | .first=>bestOf (λ_=>(0,0)) ds d/\bJ=st
 | .near=>bestOf (j7 P r b) ds d/\bJ=st
 | .iE=>bestOf (AB P r b) ds d/\bJ=st
 | .iF=>bestOf jN ds d/\bJ=st
 | .li sw=>bJ=jo sw (dZ st ds) r (eN st ds)/\bestOf (j7 P (oB sw r (eN st ds)) b) (lP sw (jo sw (dZ st ds) r (eN st ds)).i r (eN st ds)) d
theorem AN.mem{o:Rk}{st bJ:Lt}{P:Pl}{r b:Int}{ds:List Dr}{d:Dr}(h:AN o st P r b ds d bJ):d∈ds:=by
 cases o with
 | first=>exact h.1.1
 | near=>exact h.1.1
 | iE=>exact h.1.1
 | iF=>exact h.1.1
 | li sw=>exact wL (Ig h.2.1)
structure iY where
 n:Addr×Pos×Str
 s:Addr×Pos×Str
 l:Addr×Pos×Str
noncomputable def iY.of(T:iY):Rk->Addr×Pos×Str
 | .iE=>T.s
 | .iF=>T.l
 | _=>T.n
noncomputable abbrev gF(q:Addr×Pos×Str)(H:Hp):Prop:=bR q.1 q.2.1 q.2.2 H
structure p8(P:Pl)(o:Rk)(J:List Dr->Int->Int->Lt->List (Int×Int)->Prop):Prop where
 go:∀ds r b st tk b2 d bJ,J ds r b st tk->ds≠[]->wW ds b b2->AN o st P r b2 (ds.filter λd=>decide (d.q.at_<=b2)) d bJ->J (ds.filter λe=>decide (e.n≠d.n)) (cE P (r,b2) d.c).1 (cE P (r,b2) d.c).2 bJ (tk++[(d.n,b2)])
noncomputable def aeY(K:PySem.W.Frag)(cs:List Addr)(c:RC)(CA CP:Addr)(T:iY):Sp:=λvs H Q _=>∃(C p la ru dx B:Addr) (P:Pl) (fp ps:List Addr) (qs:List Ak) (o:Rk) (st:Lt) (J:List Dr->Int->Int->Lt->List (Int×Int)->Prop),
 vs = [.ref p,.ref la,.ref ru,.int 0,.int 0]/\C∈cs/\bZ K C H p P fp/\g_ P/\P.nc.length<=1000000/\cj K CA H la ps qs/\tW P.nc.length qs/\(∀q∈qs,ur P q)/\cX K c o st H ru dx B/\gF (T.of o) H/\
 J (cy P.nc 0 qs) 0 0 ⟨st.c,true,[]⟩ []/\p8 P o J/\
 ∀x cZ v1 ta v3 v4 v5 r b bJ tk p9 B' H',bU ru (T.of o).1 H H'->gF (T.of o) H'->J [] r b bJ tk->cX K c o bJ H' ru p9 B'->H' x=some (.ins CP cZ (aeN v1 ta v3 v4 v5))->H' ta=some (.lst (cH qs.length tk))->Q (.ref x) H'
section
variable{K:PySem.W.Frag}{c:RC}{CC CA CD:Addr}{o:Rk}{st:Lt}{H H' H1:Hp}{ru dx B x dc kp p Dx TP:Addr}{ks:List Addr}{kk:List (List Int)}{r b:Int}{ls:List (Dr×Addr)}
theorem bU.jq(k:bU ru TP H H')(s:cu x Dx H' H1)(nx:H x=none)(nd:H Dx=none):bU ru TP H H1:=λ_ _ e n z=>s _ _ (k _ _ e n z) (λw=>by rw[w,nx] at e;cases e) (λw=>by rw[w,nd] at e;cases e)
structure m_(ru TP:Addr)(H:Hp)(l:Addr):Prop where
 x:∀o,H l=some o->l≠ru->l≠TP->False
 t:∀o,H l=some o->oz o->False
theorem m_.of(kx:bU ru TP H H')(kt:cA H H'){l:Addr}(n:H' l=none):m_ ru TP H l :=
 ⟨λo e n1 n2=>(by have:=kx _ _ e n1 n2;rw[n] at this;cases this),λo e n1=>(by have:=kt _ _ e n1;rw[n] at this;cases this)⟩
theorem bU.put{l:Addr}{u:HO}(k:bU ru TP H H')(nl:m_ ru TP H l):bU ru TP H (upd H' l u):=λc o e n z=>by
 by_cases w:c=l
 ·subst w;exact(nl.x o e n z).elim
 ·rw[aI w];exact k _ _ e n z
theorem cA.Iw{l:Addr}{u:HO}(k:cA H H')(nl:m_ ru TP H l):cA H (upd H' l u):=λc o e n=>by
 by_cases w:c=l
 ·subst w;exact(nl.t o e n).elim
 ·rw[aI w];exact k _ _ e n
theorem fz.aeZ{C:Addr}(h:fz C H ru st dx B)(t:∃ps,H TP=some (.gb ps))(k:bU ru TP H H1):cA H H1:=λ_ _ e n=>k _ _ e (λz=>by rw[z,h.o] at e;cases e;have:=n.2.1 _ _ _ rfl;rw[Sj] at this;cases this) (λz=>by obtain⟨ps,et⟩:=t;rw[z,et] at e;cases e;exact n.1 _ rfl)
theorem cX.jq(h:cX K c o st H ru dx B)(cc:bS K CC CA CD H x dc kp ks kk p r b Dx ls)(s:cu x Dx H H')(nx:ru≠x)(nB:B≠Dx):cX K c o st H' ru dx B:=by
 have go:∀ {C:Addr} {fs:List (Str×V)},H ru=some (.ins C dx fs)->H' ru=some (.ins C dx fs):=λe=>s _ _ e nx (λz=>by have:=cc.d;rw[← z,e] at this;cases this)
 cases o with
 | first=>exact go h
 | near=>exact go h
 | iE=>exact go h
 | iF=>exact go h
 | li sw =>
  obtain⟨C,h1,h2,h3⟩:=h;refine⟨C,h1,h2,go h3.o,?_⟩;obtain⟨kvs,a,l,v⟩:=h3.d;exact⟨kvs,s _ _ a (λz=>by have:=cc.o;rw[← z,a] at this;cases this) nB,l,v⟩
theorem cX.same(h:cX K c o st H ru dx B)(s:aj H H'):cX K c o st H' ru dx B:=by
 cases o with
 | first=>exact s _ _ h
 | near=>exact s _ _ h
 | iE=>exact s _ _ h
 | iF=>exact s _ _ h
 | li sw =>
  obtain⟨C,h1,h2,h3⟩:=h;exact⟨C,h1,h2,h3.same s⟩
theorem cX.ins(h:cX K c o st H ru dx B):∃C fs,H ru=some (.ins C dx fs):=by
 cases o with
 | first=>exact⟨_,_,h⟩
 | near=>exact⟨_,_,h⟩
 | iE=>exact⟨_,_,h⟩
 | iF=>exact⟨_,_,h⟩
 | li sw =>
  obtain⟨C,h1,h2,h3⟩:=h;exact⟨C,_,h3.o⟩
theorem cX.jc(h:cX K c o st H ru dx B){l:Addr}{xs:List V}{u:HO}(e:H l=some (.lst xs)):cX K c o st (upd H l u) ru dx B:=by
 have go:∀ {C:Addr} {fs:List (Str×V)},H ru=some (.ins C dx fs)->upd H l u ru=some (.ins C dx fs):=λe2=>by rw[aI (λz=>by rw[← z,e2] at e;cases e)];exact e2
 cases o with
 | first=>exact go h
 | near=>exact go h
 | iE=>exact go h
 | iF=>exact go h
 | li sw =>
  obtain⟨C,h1,h2,h3⟩:=h;obtain⟨kvs,a,lv⟩:=h3.d;exact⟨C,h1,h2,go h3.o,kvs,by rw[aI (λz=>by rw[z,e] at a;cases a)];exact a,lv⟩
end
structure S4(K:PySem.W.Frag)(c:RC)(CC CA CD:Addr)(tq:Addr×Pos×Str)(o:Rk)(P:Pl)(qs:List Ak)(J:List Dr->Int->Int->Lt->List (Int×Int)->Prop)(H H3 H':Hp)(wZ:List (Dr×Addr))(ru dx B x dc kp p Dx R Pk Tk:Addr)(ks:List Addr)(kk:List (List Int))(r b:Int)(ls:List (Dr×Addr))(st:Lt)(tk:List (Int×Int))(ts:List Addr)(rows:List (List Int)):Prop where
 kx:bU ru tq.1 H H'
 kt:cA H H'
 tb:gF tq H'
 rA:cX K c o st H' ru dx B
 nB:B≠Dx
 nx:ru≠x
 co:bS K CC CA CD H' x dc kp ks kk p r b Dx ls
 j:J (ls.map (·.1)) r b st tk
 fx:H x=none
 fd:H Dx=none
 c3:bS K CC CA CD H3 x dc kp ks kk p 0 0 Dx wZ
 bt:kF x Dx H3 H'
 sub:ls.Sublist wZ
 n3:H3 R=none/\H3 Pk=none/\H3 Tk=none
 fR:m_ ru tq.1 H R
 fP:m_ ru tq.1 H Pk
 fT:m_ ru tq.1 H Tk
 ne:R≠Pk/\R≠Tk/\Pk≠Tk
 rr:Zt H' R ts rows
 r5:∀w∈rows,w.length=5
 rl:rows.length<=16*tk.length
 rh:∀q∈tk,∃w∈rows,w.head? = some q.1
 pP:H' Pk=some (.lst ((tk.map (·.1)).map V.int))
 tT:H' Tk=some (.lst (cH qs.length tk))
 n:tk.length+ls.length=qs.length
 all:∀d∈cy P.nc 0 qs,d∈ls.map (·.1)\/∃q∈tk,q.1=d.n
 dr:∀y∈ls,y.1∈cy P.nc 0 qs
 tn:∀q∈tk,0<=q.1/\q.1<qs.length
 r0:0<=r
 r1:r<P.rc.length
noncomputable def Iz(t:Tok):List Value->List Value->List Value
 | [a,b,c],[w]=>[a,b,c,.int 0 t,w,.none]
 | _,_=>[]
noncomputable def S5:List V->List V->List V
 | [a,b,c],[w]=>[a,b,c,.int 0,w,.aV]
 | _,_=>[]
theorem ae0{K:PySem.W.Frag}{fd:FuncData}{ps ks:List Str}{t:Tok}(h:∀(s:Shared) (a b c w:Value),K.In s.heap->BindsTo s fd ⟨[a,b,c],ks.zip [w]⟩ (ps.zip [a,b,c,.int 0 t,w,.none]))(hp:ps.length=6):zL K fd ps ks (Iz t) S5 where
 to:=λs us ws X hl=>by
  unfold Iz at hl ⊢;split at hl
  ·exact h s _ _ _ _ X
  ·rw[hp] at hl;cases hl
 rel:=λ{vs us zs ws} h1 h2=>by
  cases h1 with
  | nil=>exact .nil
  | cons r1 h1 =>
   cases h1 with
   | nil=>exact .nil
   | cons r2 h1 =>
    cases h1 with
    | nil=>exact .nil
    | cons r3 h1 =>
     cases h1 with
     | nil =>
      cases h2 with
      | nil=>exact .nil
      | cons r4 h2 =>
       cases h2 with
       | nil=>exact .cons r1 (.cons r2 (.cons r3 (.cons ⟨_,rfl⟩ (.cons r4 (.cons rfl .nil)))))
       | cons _ _=>exact .nil
     | cons _ _=>exact .nil
noncomputable def c0(P:Pl):Int:=P.rc.getD 0 0
noncomputable def cJ(P:Pl):Int:=P.aJ / P.rc.getD 0 0
noncomputable def kH(P:Pl)(k:Nat):Ak:=⟨"read",(k:Int)*16,min 16 (c0 P - (k:Int)*16),[],(k:Int)*16*cJ P,0,some ((k:Int)*16*cJ P),[],false⟩
noncomputable def gY(P:Pl)(n:Nat):List Ak:=(List.range n).map (kH P)
noncomputable def ae1(K:PySem.W.Frag)(cs:List Addr)(CA:Addr):Sp:=λvs H Q _=>∃(C p:Addr) (P:Pl) (fp:List Addr),vs = [.ref p]/\C∈cs/\bZ K C H p P fp/\2<=P.rc.length/\1<=c0 P/\c0 P<=60/\0<=cJ P/\cJ P<=1000000000/\
 ∀l ps n H',aj H H'->H l=none->oH 0 (c0 P) 16 n->cj K CA H' l ps (gY P n)->Q (.ref l) H'
noncomputable def p_(q:Ak)(x:Int):Ak:=⟨"read",q.first,q.many,[],q.at_+x,q.mU,q.iA.map (· + x),[],false⟩
noncomputable def ae2(K:PySem.W.Frag)(CA:Addr):Sp:=λvs H Q _=>∃(a:Addr) (x:Int) (q:Ak) (m b dx:Addr),vs = [.ref a,.int x]/\eK K CA H a q m b dx/\wA q.first q.many (q.at_+x) q.mU (q.iA.map (· + x))/\
 ∀a' m' b' cZ H',aj H H'->H a' = none->eK K CA H' a' (p_ q x) m' b' cZ->Q (.ref a') H'
noncomputable def ae3(K:PySem.W.Frag)(CA:Addr):Sp:=λvs H Q _=>∃(la:Addr) (ps:List Addr) (qs:List Ak) (lo most:Int),vs = [.ref la,.int lo,.int most]/\cj K CA H la ps qs/\lo<=qs.length/\(qs.length:Int)<=most/\most<=100/\(∀q∈qs,q.kind = "read"/\q.behind = [])/\∀H',aj H H'->Q (.bl true) H'
theorem ae4{rc:List Int}(h2:2<=rc.length)(hc:∀c∈rc,1<=c):∃n:Int,1<=n/\rc.getD 0 0=n/\(kC rc 0)[0]? = some (0,0)/\(kC rc 0)[n.toNat]? = some (1,0):=by
 match rc,h2 with
 | a::b::r,_ =>
  have ha:=hc a (by simp)
  have hb:=hc b (by simp)
  refine⟨a,ha,rfl,?_,?_⟩
  ·unfold kC;rw[e7,List.getElem?_append_left (by rw[List.length_map,List.length_range];lia),List.getElem?_map,List.getElem?_range (by lia)]
   rfl
  ·unfold kC;rw[e7,List.getElem?_append_right (by rw[List.length_map,List.length_range];lia),List.length_map,List.length_range,show a.toNat - (a - 0).toNat=0 by lia]
   rw[e7,List.getElem?_append_left (by rw[List.length_map,List.length_range];lia),List.getElem?_map,List.getElem?_range (by lia)]
   rfl
theorem S6{nc:List (Int×Int)}{f:Int}{q:Int×Int}(h:nc[f.toNat]? = some q):b_ nc f 1 = [q]:=by
 unfold b_;have hl:=(List.getElem?_eq_some_iff.mp h).1;rw[List.drop_eq_getElem_cons hl];have:=(List.getElem?_eq_some_iff.mp h).2;simp[this]
theorem S7{z:List (Int×Int)}{aJ sk:Int}{sw:List Int}(h2:2<=(counts z).length)(hc:∀c∈counts z,1<=c/\c<=60):∃n,oG (j8 z aJ sk sw) n/\1<=n/\n<=60/\b_ (j8 z aJ sk sw).nc n 1 = [(1,0)]/\b_ (j8 z aJ sk sw).nc 0 1 = [(0,0)]:=by
 obtain⟨n,n1,e0,c0,c1⟩:=ae4 h2 λc h=>(hc c h).1;have m0:(counts z).getD 0 0∈counts z:=by rw[show (counts z).getD 0 0=(counts z)[0]'(by lia) by simp[show 0<(counts z).length by lia]];exact List.getElem_mem _
 have m1:(counts z).getD 1 0∈counts z:=by rw[show (counts z).getD 1 0=(counts z)[1]'(by lia) by simp[show 1<(counts z).length by lia]];exact List.getElem_mem _
 rw[e0] at m0;have:=hc _ m0;refine⟨n,⟨h2,(hc _ m1).1,?_,by lia,by lia⟩,n1,this.2,S6 c1,S6 c0⟩
 have:=ac6 (RD (counts z) 0) c1;rwa [show ((n.toNat:Nat):Int)=n by lia] at this
theorem S8:∀(tk:List (Int×Int)) (xs:List V) (k:Int),0<=k->(∀q∈tk,0<=q.1)->k∉tk.map (·.1)->(tk.foldl (λxs p=>xs.set p.1.toNat (.int p.2)) xs)[k.toNat]? = xs[k.toNat]?
 | [],xs,k,_,_,_=>rfl
 | p::tk,xs,k,h0,hb,h=>by
  rw[List.map_cons,List.mem_cons,not_or] at h;have:=hb p (List.mem_cons_self ..);rw[List.foldl_cons,S8 tk _ k h0 (λq hq=>hb q (List.mem_cons_of_mem _ hq)) h.2,List.getElem?_set_ne (by lia)]
theorem S9:∀(tk:List (Int×Int)) (xs:List V),(tk.map (·.1)).Nodup->(∀q∈tk,0<=q.1/\q.1<xs.length)->∀q∈tk,(tk.foldl (λxs p=>xs.set p.1.toNat (.int p.2)) xs)[q.1.toNat]? = some (.int q.2)
 | [],xs,_,_,q,h=>by cases h
 | p::tk,xs,nd,hb,q,h=>by
  rw[List.map_cons,List.nodup_cons] at nd;have bp:=hb p (List.mem_cons_self ..);rw[List.foldl_cons];rcases List.mem_cons.mp h with rfl | h
  ·rw[S8 tk _ _ bp.1 (λq hq=>(hb q (List.mem_cons_of_mem _ hq)).1) nd.1,List.getElem?_set_self (by lia)]
  ·exact S9 tk _ nd.2 (λq hq=>by rw[List.length_set];exact hb q (List.mem_cons_of_mem _ hq)) q h
theorem qc{n:Nat}{tk:List (Int×Int)}(nd:(tk.map (·.1)).Nodup)(hb:∀q∈tk,0<=q.1/\q.1<n){q:Int×Int}(hq:q∈tk):(cH n tk)[q.1.toNat]? = some (.int q.2) :=
 S9 tk _ nd (λq h=>by rw[List.length_replicate];exact hb q h) q hq
structure JB(all:List Dr)(m:Nat)(ds:List Dr)(b:Int)(tk:List (Int×Int)):Prop where
 nd:(tk.map (·.1)).Nodup
 bd:∀q∈tk,0<=q.1/\q.1<m
 al:∀d∈all,d∈ds\/∃q∈tk,q.1=d.n
 sb:∀d∈ds,d∈all
 dj:∀q∈tk,∀d∈ds,d.n≠q.1
 b0:0<=b
theorem JB.step{all:List Dr}{m:Nat}{ds:List Dr}{b b2 b3:Int}{tk:List (Int×Int)}(h:JB all m ds b tk)(ha:∀d∈all,0<=d.n/\d.n<m){d:Dr}(hd:d∈ds)(hb:0<=b3):JB all m (ds.filter λe=>decide (e.n≠d.n)) b3 (tk++[(d.n,b2)]) where
 nd:=by
  rw[List.map_append,List.nodup_append];refine⟨h.nd,by simp,λx hx y hy=>?_⟩
  obtain⟨q,hq,rfl⟩:=List.mem_map.mp hx;simp at hy;subst hy;exact λz=>h.dj q hq d hd z.symm
 bd:=λq hq=>by
  rcases List.mem_append.mp hq with hq | hq
  ·exact h.bd q hq
  ·rw[List.mem_singleton.mp hq];exact ha d (h.sb d hd)
 al:=λe he=>by
  rcases h.al e he with h1 | ⟨q,hq,e1⟩
  ·by_cases z:e.n=d.n
   ·exact .inr ⟨(d.n,b2),by simp,z.symm⟩
   ·exact .inl (List.mem_filter.mpr ⟨h1,decide_eq_true z⟩)
  ·exact .inr ⟨q,List.mem_append_left _ hq,e1⟩
 sb:=λe he=>h.sb e (List.mem_filter.mp he).1
 dj:=λq hq e he=>by
  obtain⟨h1,h2⟩:=List.mem_filter.mp he;rcases List.mem_append.mp hq with hq | hq
  ·exact h.dj q hq e h1
  ·rw[List.mem_singleton.mp hq];exact of_decide_eq_true h2
 b0:=hb
theorem uu{P:Pl}(ok:g_ P)(hl:∀i:Nat,i<P.rc.length->1<=P.aJ / P.rc.getD i 0){s q:Int×Int}(s0:0<=s.1)(s1:s.1<P.rc.length)(q0:0<=q.1)(q1:q.1<P.rc.length):s.2+1<=(cE P s [q]).2:=by
 show s.2+1<=iV P s q+P.aJ / P.rc.getD q.1.toNat 0;have h1:=hl q.1.toNat (by lia)
 have hs:0<=P.sw.getD (s.1 - q.1).natAbs 0:=by
  have l:=ok.sw.len;by_cases e:(s.1 - q.1).natAbs=0
  ·rw[e,ok.sw.z];exact Int.le_refl _
  ·have:=(ok.sw.pos (s.1 - q.1).natAbs (by lia) (by lia)).1
   lia
 unfold iV wj;have h2:=Int.emod_nonneg (wg P q.1 q.2 - (s.2+P.sw.getD (s.1 - q.1).natAbs 0)) (show P.aJ≠0 by have:=ok.aJ;lia)
 lia
structure JF(all:List Dr)(m:Nat)(n:Int)(ds:List Dr)(r b:Int)(st:Lt)(tk:List (Int×Int)):Prop where
 jb:JB all m ds b tk
 q0:∀q∈tk,0<=q.2
 qz:∀q∈tk,q.1=0->q.2=0
 e:tk = []->b=0
 f:tk≠[]->∀d∈ds,d.n≠0
 z:tk = []->∃d∈ds,d.n=0
 r0:0<=r
 r1:r<n
theorem JF.along{P:Pl}{all:List Dr}{m:Nat}(ok:g_ P)(hl:∀i:Nat,i<P.rc.length->1<=P.aJ / P.rc.getD i 0)(ha:∀d∈all,0<=d.n/\d.n<m/\d.q.at_=0/\∃q:Int×Int,d.c = [q]/\0<=q.1/\q.1<P.rc.length):p6 P none (JF all m P.rc.length) where
 go:=λds r b st tk b2 d bJ h dY cG hp=>by
  obtain⟨M,⟨y,hy,ey⟩,_,eb⟩:=cG;have hy0:=(ha y (h.jb.sb y hy)).2.2.1;have b0:=h.jb.b0;have e2:b2=b:=by rw[eb];split <;> lia
  subst e2;have fl:(ds.filter λd=>decide (d.q.at_<=b2))=ds:=List.filter_eq_self.mpr λe he=>by
   have:=(ha e (h.jb.sb e he)).2.2.1;exact decide_eq_true (by lia)
  rw[fl] at hp;have hd:=hp.mem;have w6:=ha d (h.jb.sb d hd);obtain⟨q,ec,qa,qb⟩:=w6.2.2.2;have up:=uu ok hl (s:=(r,b2)) (q:=q) h.r0 h.r1 qa qb;rw[ec];have up:b2+1<=(cE P (r,b2) [q]).2:=up;have best:=hp.1.2;have first:(∃e∈ds,e.n=0)->d.n=0:=λ⟨e,he,ez⟩=>by
   have:=best e he;have:=w6.1;simp at *
   lia
  refine⟨h.jb.step (λe he=>⟨(ha e he).1,(ha e he).2.1⟩) hd (by lia),λp hp=>?_,λp hp ez=>?_,λz=>by simp at z,λ_ e he=>?_,λz=>by simp at z,qa,qb⟩
  ·rcases List.mem_append.mp hp with hp | hp
   ·exact h.q0 p hp
   ·rw[List.mem_singleton.mp hp];exact b0
  ·rcases List.mem_append.mp hp with hp | hp
   ·exact h.qz p hp ez
   ·rw[List.mem_singleton.mp hp] at ez ⊢;by_cases t:tk = []
    ·exact h.e t
    ·exact absurd ez (h.f t d hd)
  ·obtain⟨h1,h2⟩:=List.mem_filter.mp he;have h2:=of_decide_eq_true h2;by_cases t:tk = []
   ·have:=first (h.z t)
    lia
   ·exact h.f t e h1
structure JL(all:List Dr)(m:Nat)(ds:List Dr)(r b:Int)(st:Lt)(tk:List (Int×Int)):Prop where
 jb:JB all m ds b tk
 c:st.c=true
 i:st.i=true
 bt:st.b = []\/∀d∈ds,d.n∈st.b
 on:(∃e∈ds,e.n=0)->r=0/\∀q∈tk,q.2<b
 off:(¬ ∃e∈ds,e.n=0)->ds = []/\∃b0,(0,b0)∈tk/\∀q∈tk,q.1≠0->q.2<b0
theorem JL.along{P:Pl}{all:List Dr}{m:Nat}{sw:Bool}(ok:g_ P)(hl:∀i:Nat,i<P.rc.length->1<=P.aJ / P.rc.getD i 0)(ha:∀d∈all,0<=d.n/\d.n<m/\d.q.at_=0/\(d.n=0/\d.c = [(1,0)]\/d.n≠0/\d.c = [(0,0)])):p6 P (some sw) (JL all m) where
 go:=λds r b st tk b2 d bJ h dY cG hp=>by
  obtain⟨M,⟨y,hy,ey⟩,_,eb⟩:=cG;have hy0:=(ha y (h.jb.sb y hy)).2.2.1;have b0:=h.jb.b0;have e2:b2=b:=by rw[eb];split <;> lia
  subst e2;have fl:(ds.filter λd=>decide (d.q.at_<=b2))=ds:=List.filter_eq_self.mpr λe he=>by
   have:=(ha e (h.jb.sb e he)).2.2.1;exact decide_eq_true (by lia)
  rw[fl] at hp;have hz:∃e∈ds,e.n=0:=Classical.byContradiction λz=>dY (h.off z).1;obtain⟨rfl,tb⟩:=h.on hz;have lk:eN st ds=ds/\(dZ st ds).c=true/\(dZ st ds).i=true/\∀e∈ds,e.n∈(dZ st ds).b:=by
   unfold eN dZ;rw[if_pos h.c,if_pos h.c];by_cases an:ds.any (λd=>decide (d.n∈st.b))=true
   ·rw[if_pos an];have hb:∀e∈ds,e.n∈st.b:=by
     rcases h.bt with hb | hb
     ·rw[hb] at an;simp at an
     ·exact hb
    exact⟨List.filter_eq_self.mpr λe he=>decide_eq_true (hb e he),h.c,h.i,hb⟩
   ·rw[if_neg an];exact⟨List.filter_eq_self.mpr λe he=>decide_eq_true (List.mem_map_of_mem he),h.c,h.i,λe he=>List.mem_map_of_mem he⟩
  obtain⟨es,P2,bb,best⟩:=hp;obtain⟨k1,k2,k3,k4⟩:=lk;rw[k1] at es best;generalize dZ st ds=s1 at *
  have hr:∀e∈ds,(e.n=0/\(bX e).1=1)\/(e.n≠0/\(bX e).1=0):=λe he=>by
   rcases(ha e (h.jb.sb e he)).2.2.2 with⟨a,c⟩ | ⟨a,c⟩
   ·exact .inl ⟨a,by unfold bX;rw[c];rfl⟩
   ·exact .inr ⟨a,by unfold bX;rw[c];rfl⟩
  have wy:ff true 0 ds=ds:=List.filter_eq_self.mpr λe he=>by
   unfold mY;rcases hr e he with⟨_,z⟩ | ⟨_,z⟩ <;> simp[z]
  have dl:¬ ds.length=0:=λz=>dY (List.length_eq_zero_iff.mp z);have e3:jo sw s1 0 ds=s1/\oB sw 0 ds=0/\lP sw (jo sw s1 0 ds).i 0 ds=ds:=by
   have t:lN s1 0 ds=s1:=by unfold lN;rw[k3,wy,if_neg dl,← k3]
   unfold jo oB lP;cases sw
   ·simp[t,k3,wy]
   ·simp[wy,dl]
  obtain⟨x1,x2,x3⟩:=e3;rw[x3,x2] at best;rw[x1] at es;subst es;have hd:=best.1;have w6:=ha d (h.jb.sb d hd);have ql:∀q∈tk++[(d.n,b2)],q.2<=b2:=λq hq=>by
   rcases List.mem_append.mp hq with hq | hq
   ·have:=tb q hq;lia
   ·rw[List.mem_singleton.mp hq];exact Int.le_refl _
  by_cases dz:d.n=0
  ·have dc:d.c = [(1,0)]:=by rcases w6.2.2.2 with⟨_,c⟩ | ⟨a,_⟩;exact c;exact absurd dz a
   have no:∀e∈ds,e.n=0:=λe he=>Classical.byContradiction λz=>by
    have:=best.2 e he;have r1:=(hr d hd).resolve_right (λq=>q.1 dz);have r2:=(hr e he).resolve_left (λq=>z q.1);unfold j7 at this;rw[r1.2,r2.2] at this;simp at this
   have emp:(ds.filter λe=>decide (e.n≠d.n)) = []:=List.filter_eq_nil_iff.mpr λe he=>by simp[no e he,dz]
   have up:=uu ok hl (s:=(0,b2)) (q:=(1,0)) (Int.le_refl _) (by have:=ok.n2;show (0:Int)<_;lia) (by show (0:Int)<=1;decide) (by have:=ok.n2;show (1:Int)<_;lia)
   have up:b2+1<=(cE P (0,b2) [(1,0)]).2:=up;rw[dc];refine⟨h.jb.step (λe he=>⟨(ha e he).1,(ha e he).2.1⟩) hd (by lia),k2,k3,.inr λe he=>k4 e (List.mem_filter.mp he).1,λ⟨e,he,_⟩=>?_,λ_=>⟨emp,b2,by simp[dz],λq hq q1=>?_⟩⟩
   ·rw[emp] at he;cases he
   ·rcases List.mem_append.mp hq with hq | hq
    ·exact tb q hq
    ·rw[List.mem_singleton.mp hq] at q1;exact absurd dz q1
  ·have dc:d.c = [(0,0)]:=by rcases w6.2.2.2 with⟨a,_⟩ | ⟨_,c⟩;exact absurd a dz;exact c
   have up:=uu ok hl (s:=(0,b2)) (q:=(0,0)) (Int.le_refl _) (by have:=ok.n2;show (0:Int)<_;lia) (Int.le_refl _) (by have:=ok.n2;show (0:Int)<_;lia)
   have up:b2+1<=(cE P (0,b2) [(0,0)]).2:=up;obtain⟨e,he,ez⟩:=hz;rw[dc];refine⟨h.jb.step (λe he=>⟨(ha e he).1,(ha e he).2.1⟩) hd (by lia),k2,k3,.inr λe he=>k4 e (List.mem_filter.mp he).1,λ_=>⟨rfl,λq hq=>by have:=ql q hq;lia⟩,λz=>absurd ⟨e,List.mem_filter.mpr ⟨he,decide_eq_true (by lia)⟩,ez⟩ z⟩
noncomputable def iZ(s:Int):Nat->List (Int×Int)
 | 0=>[]
 | n+1=>(0,s)::iZ (s+1) n
noncomputable def Ch(P:Pl):Int->List Ak->Int->Prop
 | b,[],e=>b=e
 | b,q::l,e=>q.at_=b/\q.iA=some b/\(∃s k,b_ P.nc q.first q.many=iZ s (k+1))/\(iV P (0,b) (bX ⟨0,q,b_ P.nc q.first q.many⟩)=b)/\∃b1,b<b1/\cE P (0,b) (b_ P.nc q.first q.many)=(0,b1)/\Ch P b1 l e
theorem Ch.append{P:Pl}{m e:Int}{l2:List Ak}(h2:Ch P m l2 e):∀ {l1:List Ak} {b:Int},Ch P b l1 m->Ch P b (l1++l2) e
 | [],b,h=>by
  have:b=m:=h;subst this;exact h2
 | q::l,b,h=>by
  obtain⟨a1,a2,a3,a4,b1,a5,a6,a7⟩:=h;exact⟨a1,a2,a3,a4,b1,a5,a6,Ch.append h2 a7⟩
theorem Ch.ge{P:Pl}{e:Int}:∀ {l:List Ak} {b:Int},Ch P b l e->∀q∈l,b<=q.at_
 | [],b,_,q,hq=>by cases hq
 | a::l,b,h,q,hq=>by
  obtain⟨a1,a2,a3,a4,b1,a5,a6,a7⟩:=h;rcases List.mem_cons.mp hq with rfl | hq
  ·lia
  ·have:=Ch.ge a7 q hq;lia
theorem Ch.up{P:Pl}{e:Int}:∀ {l:List Ak} {b:Int},Ch P b l e->l.Pairwise λa b=>a.at_<b.at_
 | [],b,_=>.nil
 | a::l,b,h=>by
  obtain⟨a1,a2,a3,a4,b1,a5,a6,a7⟩:=h;exact .cons (λq hq=>by have:=Ch.ge a7 q hq;lia) (Ch.up a7)
theorem ae5{P:Pl}(ok:g_ P){τ:Int}:∀(k:Nat) (s:Int),iV P (0,s*cJ P+τ*P.aJ) (0,s)=s*cJ P+τ*P.aJ/\cE P (0,s*cJ P+τ*P.aJ) (iZ s k)=(0,(s+k)*cJ P+τ*P.aJ):=by
 have IA:∀s:Int,iV P (0,s*cJ P+τ*P.aJ) (0,s)=s*cJ P+τ*P.aJ:=λs=>by
  unfold iV wj wg
  show s*cJ P+τ*P.aJ+P.sw.getD 0 0+(_ - (s*cJ P+τ*P.aJ+P.sw.getD 0 0)) % P.aJ=_;rw[ok.sw.z,Int.add_zero];have e:((s*cJ P+0*P.dX) % P.aJ - (s*cJ P+τ*P.aJ)) % P.aJ=0:=by
   rw[Int.zero_mul,Int.add_zero,Int.emod_sub_emod,show s*cJ P - (s*cJ P+τ*P.aJ)=(-τ)*P.aJ by rw[Int.neg_mul];lia]
   exact Int.mul_emod_left _ _
  have e':((s*(P.aJ / P.rc.getD (0:Int).toNat 0)+0*P.dX) % P.aJ - (s*cJ P+τ*P.aJ)) % P.aJ=0:=e;rw[e',Int.add_zero]
 intro k
 induction k with
 | zero=>intro s;exact⟨IA s,by simp[iZ,cE]⟩
 | succ k ih =>
  intro s;refine⟨IA s,?_⟩
  show cE P (jH P (0,s*cJ P+τ*P.aJ) (0,s)) (iZ (s+1) k)=_;have e:jH P (0,s*cJ P+τ*P.aJ) (0,s)=(0,(s+1)*cJ P+τ*P.aJ):=by
   unfold jH;rw[IA s]
   show (0,s*cJ P+τ*P.aJ+cJ P)=_;rw[Int.add_mul,Int.one_mul];congr 1;lia
  rw[e,(ih (s+1)).2];congr 2;rw[show s+1+(k:Int)=s+((k+1:Nat):Int) by lia]
structure fh(P:Pl)(n1:Int)(n:Nat):Prop where
 ok:g_ P
 hl:∀i:Nat,i<P.rc.length->1<=P.aJ / P.rc.getD i 0
 nx:oG P n1
 IB:1<=n1
 c1:b_ P.nc n1 1 = [(1,0)]
 cR:∀(s k:Nat),s+k<=(c0 P).toNat->b_ P.nc s k=iZ s k
 ca:1<=c0 P
 cb:c0 P<=60
 lp:c0 P*cJ P=P.aJ
 l9:P.aJ<=1000000000
 st:oH 0 (c0 P) 16 n
 nM:P.nc.length<=1000000
section
variable{P:Pl}{n1:Int}{n:Nat}
theorem fh.b1(h:fh P n1 n):1<=cJ P:=h.hl 0 (by have:=h.ok.n2;lia)
theorem fh.round(h:fh P n1 n)(τ:Int):Ch P (τ*P.aJ) ((gY P n).map (p_ · (τ*P.aJ))) ((τ+1)*P.aJ):=by
 have b1:=h.b1
 suffices ∀k:Nat,k<=n->Ch P (τ*P.aJ) (((List.range k).map (kH P)).map (p_ · (τ*P.aJ))) (min ((k:Int)*16) (c0 P)*cJ P+τ*P.aJ) by
  have g:=this n (Nat.le_refl _);have ge:=h.st.ge;rw[Int.min_eq_right (by lia),h.lp] at g
  unfold gY;rw[Int.add_mul,Int.one_mul,Int.add_comm];exact g
 intro k
 induction k with
 | zero =>
  intro _
  show τ*P.aJ=min (((0:Nat):Int)*16) (c0 P)*cJ P+τ*P.aJ;have ca:=h.ca;rw[Int.min_eq_left (by lia)]
  simp
 | succ k ih =>
  intro hk;have g:=ih (by lia)
  have lt:=h.st.lt k (by lia)
  rw[List.range_succ,List.map_append,List.map_append];refine Ch.append ?_ g;rw[Int.min_eq_left (by lia)]
  obtain⟨c,hc⟩:∃c:Nat,min 16 (c0 P - (k:Int)*16)=((c+1:Nat):Int):=⟨(min 16 (c0 P - (k:Int)*16)).toNat - 1,by lia⟩
  have cells:b_ P.nc (kH P k).first (kH P k).many=iZ ((k:Int)*16) (c+1):=by
   show b_ P.nc ((k:Int)*16) (min 16 (c0 P - (k:Int)*16))=_;rw[hc];have:=h.cR (k*16) (c+1) (by lia)
   rw[show ((k*16:Nat):Int)=(k:Int)*16 by lia] at this
   exact this
  have r:=ae5 h.ok (τ:=τ) (c+1) ((k:Int)*16);refine⟨rfl,rfl,⟨_,_,cells⟩,?_,((k:Int)*16+((c+1:Nat):Int))*cJ P+τ*P.aJ,?_,?_,?_⟩
  ·unfold bX
   show iV P _ ((b_ P.nc (kH P k).first (kH P k).many).getD 0 (0,0))=_;rw[cells];exact r.1
  ·have:=Int.mul_lt_mul_of_pos_right (show (k:Int)*16<(k:Int)*16+((c+1:Nat):Int) by lia) (show 0<cJ P by lia)
   lia
  ·show cE P _ (b_ P.nc (kH P k).first (kH P k).many)=_;rw[cells];exact r.2
  ·show _=min (((k+1:Nat):Int)*16) (c0 P)*cJ P+τ*P.aJ;rw[show min (((k+1:Nat):Int)*16) (c0 P)=(k:Int)*16+((c+1:Nat):Int) by lia]
noncomputable def rounds(P:Pl)(n:Nat):Nat->List Ak
 | 0=>[]
 | k+1=>rounds P n k++(gY P n).map (p_ · ((k:Int)*P.aJ))
theorem fh.AO(h:fh P n1 n):∀k:Nat,Ch P 0 (rounds P n k) ((k:Int)*P.aJ)
 | 0=>by show (0:Int)=((0:Nat):Int)*P.aJ;simp
 | k+1=>by
  have:=h.round (k:Int);exact Ch.append this (h.AO k)
noncomputable def ir(P:Pl)(n1:Int)(n k:Nat):List Ak:=iX n1 0 0::rounds P n k
end
noncomputable def gk(n1:Int):Dr:=⟨0,iX n1 0 0,[(1,0)]⟩
structure JE(P:Pl)(n1:Int)(all:List Dr)(qs:List Ak)(ds:List Dr)(r b:Int)(st:Lt)(tk:List (Int×Int)):Prop where
 jb:JB all qs.length ds b tk
 c:st.c=false
 i:st.i=true
 on:(∃e∈ds,e.n=0)->r=0/\∃(i:Nat) (l:List Ak) (e:Int),1<=i/\ds=gk n1::cy P.nc i l/\qs.drop i=l/\Ch P b l e/\∀q∈tk,q.1≠0/\q.2<b/\(qs[q.1.toNat]?).map (·.at_)=some q.2
 off:(¬ ∃e∈ds,e.n=0)->ds = []/\∃b0,(0,b0)∈tk/\∀q∈tk,q.1≠0->q.2<b0/\(qs[q.1.toNat]?).map (·.at_)=some q.2
theorem S_{sw:Bool}{st:Lt}{R:List Dr}(c:st.c=false)(i:st.i=true)(dY:R≠[])(hr:∀d∈R,0<=(bX d).1):eN st R=R/\dZ st R=st/\jo sw st 0 R=st/\oB sw 0 R=0/\lP sw st.i 0 R=R:=by
 have wy:ff true 0 R=R:=List.filter_eq_self.mpr λe he=>by
  unfold mY;have:=hr e he;simp[this]
 have dl:¬ R.length=0:=λz=>dY (List.length_eq_zero_iff.mp z);refine⟨by unfold eN;rw[c];rfl,by unfold dZ;rw[c];rfl,?_⟩
 have t:lN st 0 R=st:=by unfold lN;rw[i,wy,if_neg dl,← i]
 unfold jo oB lP;cases sw
 ·simp[t,i,wy]
 ·simp[wy,dl]
theorem JE.along{P:Pl}{n1:Int}{n:Nat}{qs:List Ak}{o:Rk}(ho:o≠.first)(G:fh P n1 n)(ha:∀d∈cy P.nc 0 qs,0<=d.n/\d.n<qs.length):p8 P o (JE P n1 (cy P.nc 0 qs) qs) where
 go:=λds r b st tk b2 d bJ h dY cG hp=>by
  have hz:∃e∈ds,e.n=0:=Classical.byContradiction λz=>dY (h.off z).1;obtain⟨rfl,i,l,e,i1,uv,el,ch,tq⟩:=h.on hz;obtain⟨M,⟨y,hy,ey⟩,hM,eb⟩:=cG;have b0:=h.jb.b0;have n2:=G.ok.n2;have AQ:gk n1∈ds:=by rw[uv];exact List.mem_cons_self ..
  have e2:b2=b:=by
   have m0:M<=0:=hM _ AQ;have m1:0<=M:=by
    rw[← ey];rw[uv] at hy;rcases List.mem_cons.mp hy with rfl | hy
    ·exact Int.le_refl _
    ·have:=ch.ge _ (rD _ _ _ _ hy).1;lia
   rw[eb];split <;> lia
  subst e2;have rz:∀ {R:List Dr},(∀x∈R,x∈ds)->∀x∈R,0<=(bX x).1:=λhR x hx=>by
   have:=hR x hx;rw[uv] at this;rcases List.mem_cons.mp this with rfl | this
   ·show (0:Int)<=1;decide
   ·obtain⟨m1,m2⟩:=rD _ _ _ _ this;have inl:∀ {l:List Ak} {b e:Int},Ch P b l e->∀q∈l,∃s k,b_ P.nc q.first q.many=iZ s (k+1):=by
     intro l
     induction l with
     | nil=>intro b e _ q hq;cases hq
     | cons a l ih =>
      intro b e hc q hq;obtain⟨_,_,c3,_,b1,_,_,c7⟩:=hc;rcases List.mem_cons.mp hq with rfl | hq
      ·exact c3
      ·exact ih c7 q hq
    obtain⟨s,k,ec⟩:=inl ch _ m1;unfold bX;rw[m2,ec];exact Int.le_refl _
  have f0:∀t:List Dr,List.filter (λd:Dr=>decide (d.q.at_<=b2)) (gk n1::t)=gk n1::List.filter (λd:Dr=>decide (d.q.at_<=b2)) t:=λt=>List.filter_cons_of_pos (p:=λd:Dr=>decide (d.q.at_<=b2)) (a:=gk n1) (decide_eq_true (show (0:Int)<=b2 from b0));cases l with
  | nil =>
   have fl:ds.filter (λd=>decide (d.q.at_<=b2)) = [gk n1]:=by
    rw[uv];exact f0 []
   rw[fl] at hp;have hd:d=gk n1:=List.mem_singleton.mp hp.mem;subst hd;have cG:bJ=st:=by
    cases o with
    | first=>exact hp.2
    | near=>exact hp.2
    | iE=>exact hp.2
    | iF=>exact hp.2
    | li sw =>
     obtain⟨l1,l2,l3,l4,l5⟩:=S_ (sw:=sw) (R:=[gk n1]) h.c h.i (by simp) (rz λx hx=>by rw[List.mem_singleton.mp hx];exact AQ)
     rw[hp.1,l1,l2,l3]
   subst cG;have emp:(ds.filter λe=>decide (e.n≠(gk n1).n)) = []:=by
    rw[uv];rfl
   have up:=uu G.ok G.hl (s:=(0,b2)) (q:=(1,0)) (Int.le_refl _) (by show (0:Int)<_;lia) (by show (0:Int)<=1;decide) (by show (1:Int)<_;lia)
   have up:b2+1<=(cE P (0,b2) (gk n1).c).2:=up;refine⟨h.jb.step ha AQ (by lia),h.c,h.i,λ⟨x,hx,_⟩=>?_,λ_=>⟨emp,b2,by simp[gk],λq hq q1=>?_⟩⟩
   ·rw[emp] at hx;cases hx
   ·rcases List.mem_append.mp hq with hq | hq
    ·exact(tq q hq).2
    ·rw[List.mem_singleton.mp hq] at q1;exact absurd rfl q1
  | cons q l =>
   obtain⟨c1,c2,⟨s,k,c3⟩,c4,b1,c5,c6,c7⟩:=ch;have AR:ds=gk n1::⟨(i:Int),q,b_ P.nc q.first q.many⟩::cy P.nc (i+1) l:=uv;generalize w_:(⟨(i:Int),q,b_ P.nc q.first q.many⟩:Dr)=dj at AR;have IC:dj.n=(i:Int):=by rw[← w_]
   have Tc:dj.q=q:=by rw[← w_]
   have djc:dj.c=iZ s (k+1):=by rw[← w_];exact c3
   have djh:bX dj=(0,s):=by unfold bX;rw[djc];rfl
   have Td:dj∈ds:=by rw[AR];exact List.mem_cons_of_mem _ (List.mem_cons_self ..)
   have fl:ds.filter (λd=>decide (d.q.at_<=b2)) = [gk n1,dj]:=by
    rw[AR,f0,List.filter_cons_of_pos (p:=λd:Dr=>decide (d.q.at_<=b2)) (a:=dj) (decide_eq_true (by rw[Tc];lia)),List.filter_eq_nil_iff.mpr λx hx=>?_]
    have:=c7.ge _ (rD _ _ _ _ hx).1;simp only[decide_eq_true_eq];lia
   rw[fl] at hp;have nb:∀ {rk:Dr->Int×Int} {x:Dr},bestOf rk [gk n1,dj] x->(rk dj).1<(rk (gk n1)).1->x=dj:=λ{rk x} hb bW=>by
    rcases List.mem_cons.mp hb.1 with rfl | hx
    ·exact absurd (.inl bW) (hb.2 dj (by simp))
    ·exact List.mem_singleton.mp hx
   have near:(j7 P 0 b2 dj).1<(j7 P 0 b2 (gk n1)).1:=by
    unfold j7;rw[djh]
    show (((0:Int) - 0).natAbs:Int)<(((1:Int) - 0).natAbs:Int);decide
   have both:d=dj/\bJ=st:=by
    cases o with
    | first=>exact absurd rfl ho
    | near=>exact⟨nb hp.1 near,hp.2⟩
    | iE =>
     refine⟨nb hp.1 ?_,hp.2⟩
     show iV P (0,b2) (bX dj)<iV P (0,b2) (1,0);have e4:iV P (0,b2) (bX dj)=b2:=by
      have:bX dj=bX ⟨0,q,b_ P.nc q.first q.many⟩:=by rw[← w_];rfl
      rw[this];exact c4
     rw[e4];have l2:=G.ok.sw.len;have sp:=(G.ok.sw.pos 1 (by lia) (by lia)).1
     unfold iV wj
     show b2<b2+P.sw.getD 1 0+(wg P 1 0 - (b2+P.sw.getD 1 0)) % P.aJ;have:=Int.emod_nonneg (wg P 1 0 - (b2+P.sw.getD 1 0)) (show P.aJ≠0 by have:=G.ok.aJ;lia)
     lia
    | iF =>
     refine⟨nb hp.1 ?_,hp.2⟩;unfold jN;rw[Tc,c2]
     show (0:Int)<1;decide
    | li sw =>
     obtain⟨l1,l2,l3,l4,l5⟩:=S_ (sw:=sw) (R:=[gk n1,dj]) h.c h.i (by simp) (rz λx hx=>by
      rcases List.mem_cons.mp hx with rfl | hx
      ·exact AQ
      ·rw[List.mem_singleton.mp hx];exact Td)
     obtain⟨p1,p2⟩:=hp;rw[l1,l2,l3] at p1;rw[l1,l2,l3,l4,l5] at p2;exact⟨nb p2 near,p1⟩
   obtain⟨rfl,rfl⟩:=both;have Te:ds.filter (λe=>decide (e.n≠d.n))=gk n1::cy P.nc (i+1) l:=by
    rw[AR,IC,List.filter_cons_of_pos (p:=λe:Dr=>decide (e.n≠(i:Int))) (a:=gk n1) (decide_eq_true (show (0:Int)≠i by lia)),List.filter_cons_of_neg (p:=λe:Dr=>decide (e.n≠(i:Int))) (by rw[IC];simp),List.filter_eq_self.mpr λx hx=>?_]
    have:=(mZ _ _ _ _ hx).1;exact decide_eq_true (by lia)
   have ee:cE P (0,b2) d.c=(0,b1):=by rw[← w_];exact c6
   have el':qs.drop (i+1)=l:=by rw[← List.tail_drop,el];rfl
   have eq:qs[i]? = some q:=by
    have:=List.getElem?_drop (xs:=qs) (i:=i) (j:=0);rw[el,Nat.add_zero] at this;exact this.symm
   rw[ee];refine⟨h.jb.step ha Td (by show 0<=b1;lia),h.c,h.i,λ_=>⟨rfl,i+1,l,e,by lia,Te,el',c7,λp hp=>?_⟩,λno=>?_⟩
   ·rcases List.mem_append.mp hp with hp | hp
    ·obtain⟨t1,t2,t3⟩:=tq p hp;exact⟨t1,by show p.2<b1;lia,t3⟩
    ·rw[List.mem_singleton.mp hp];refine⟨by show d.n≠0;lia,c5,?_⟩
     show Option.map _ (qs[d.n.toNat]?)=some b2;rw[IC,Int.toNat_natCast,eq]
     show some q.at_=some b2;rw[c1]
   ·exact absurd ⟨gk n1,by rw[Te];exact List.mem_cons_self ..,rfl⟩ no
section
variable{P:Pl}{n1:Int}{n:Nat}
theorem AS:∀(k:Nat) (s:Int),(iZ s k).length=k
 | 0,s=>rfl
 | k+1,s=>by show (iZ (s+1) k).length+1=_;rw[AS k (s+1)]
theorem Tf:∀(k:Nat) (s:Int) (q:Int×Int),q∈iZ s k->q.1=0/\s<=q.2/\q.2<s+k
 | 0,s,q,h=>by cases h
 | k+1,s,q,h=>by
  rcases List.mem_cons.mp (show q∈(0,s)::iZ (s+1) k from h) with rfl | h
  ·exact⟨rfl,Int.le_refl _,by show s<s+((k+1:Nat):Int);lia⟩
  ·have:=Tf k (s+1) q h;exact⟨this.1,by lia,by lia⟩
theorem ID:∀(k:Nat) (q:Ak),q∈rounds P n k->∃(κ τ:Nat),κ<n/\q=p_ (kH P κ) ((τ:Int)*P.aJ)
 | 0,q,h=>by cases h
 | k+1,q,h=>by
  rcases List.mem_append.mp (show q∈rounds P n k++(gY P n).map (p_ · ((k:Int)*P.aJ)) from h) with h | h
  ·exact ID k q h
  ·obtain⟨a,ha,rfl⟩:=List.mem_map.mp h;obtain⟨κ,hk,rfl⟩:=List.mem_map.mp ha;exact⟨κ,k,List.mem_range.mp hk,rfl⟩
theorem AU:∀k:Nat,(rounds P n k).length=k*n
 | 0=>by simp[rounds]
 | k+1=>by
  show (rounds P n k++(gY P n).map (p_ · ((k:Int)*P.aJ))).length=_;rw[List.length_append,List.length_map,AU k];unfold gY;rw[List.length_map,List.length_range,Nat.succ_mul]
theorem fh.nc0(h:fh P n1 n):c0 P<=P.nc.length:=by
 have ca:=h.ca;have e:=congrArg List.length (h.cR 0 (c0 P).toNat (by lia))
 rw[AS] at e;unfold b_ at e;rw[List.length_take,List.length_drop] at e;have e:min (((c0 P).toNat:Nat):Int).toNat (P.nc.length - 0)=(c0 P).toNat:=e;lia
theorem fh.xg(h:fh P n1 n):n1+1<=P.nc.length:=by
 have e:=congrArg List.length h.c1;unfold b_ at e;rw[List.length_take,List.length_drop] at e;have:=h.IB;have e:min 1 (P.nc.length - n1.toNat)=1:=e;lia
theorem fh.chunk(h:fh P n1 n){κ:Nat}(hk:κ<n):∃c:Nat,min 16 (c0 P - (κ:Int)*16)=((c+1:Nat):Int)/\c+1<=16/\(κ:Int)*16+((c+1:Nat):Int)<=c0 P/\b_ P.nc ((κ:Int)*16) (min 16 (c0 P - (κ:Int)*16))=iZ ((κ:Int)*16) (c+1):=by
 have lt:=h.st.lt κ hk;refine⟨(min 16 (c0 P - (κ:Int)*16)).toNat - 1,by lia,by lia,by lia,?_⟩
 have:=h.cR (κ*16) ((min 16 (c0 P - (κ:Int)*16)).toNat - 1+1) (by lia)
 rw[show ((κ*16:Nat):Int)=(κ:Int)*16 by lia,show (((min 16 (c0 P - (κ:Int)*16)).toNat - 1+1:Nat):Int)=min 16 (c0 P - (κ:Int)*16) by lia] at this
 exact this
theorem fh.rd(h:fh P n1 n)(k:Nat):∀q∈ir P n1 n k,ur P q:=λq hq=>by
 have n2:=h.ok.n2;rcases List.mem_cons.mp hq with rfl | hq
 ·exact⟨rfl,rfl,rfl,h.nx.n0,h.nx.n1,by show (1:Int)<=1;decide,by show (1:Int)<=16;decide,by show h_ P (b_ P.nc n1 1);rw[h.c1];intro q hq;rw[List.mem_singleton.mp hq];exact⟨by decide,by show (1:Int)<_;lia,by decide,by decide⟩,by show (b_ P.nc n1 1).length=1;rw[h.c1];rfl⟩
 ·obtain⟨κ,τ,hk,rfl⟩:=ID k q hq;obtain⟨c,e1,e2,e3,e4⟩:=h.chunk hk;have cb:=h.cb;refine⟨rfl,rfl,rfl,by show 0<=(κ:Int)*16;lia,by show (κ:Int)*16<=1000000;lia,by show 1<=min 16 (c0 P - (κ:Int)*16);lia,by show min 16 (c0 P - (κ:Int)*16)<=16;lia,?_,?_⟩
  ·show h_ P (b_ P.nc ((κ:Int)*16) (min 16 (c0 P - (κ:Int)*16)));rw[e4];intro q hq;obtain⟨m1,m2,m3⟩:=Tf _ _ _ hq;exact⟨by lia,by lia,by lia,by lia⟩
  ·show (b_ P.nc ((κ:Int)*16) (min 16 (c0 P - (κ:Int)*16))).length=(min 16 (c0 P - (κ:Int)*16)).toNat;rw[e4,AS,e1];rfl
theorem fh.up(h:fh P n1 n)(k:Nat):∀(i:Nat) (q q':Ak),(ir P n1 n k)[i]? = some q->(ir P n1 n k)[i+1]? = some q'->q.at_<=q'.at_:=λi q q' e e'=>by
 have ch:=h.AO k;have e':(rounds P n k)[i]? = some q':=e';cases i with
 | zero =>
  cases e;exact ch.ge _ (List.mem_of_getElem? e')
 | succ i =>
  have e:(rounds P n k)[i]? = some q:=e;have u:=List.pairwise_iff_getElem.mp ch.up;obtain⟨h1,rfl⟩:=List.getElem?_eq_some_iff.mp e;obtain⟨h2,rfl⟩:=List.getElem?_eq_some_iff.mp e';exact Int.le_of_lt (u i (i+1) h1 h2 (by lia))
theorem fh.kI(h:fh P n1 n){k:Nat}(hn:(ir P n1 n k).length<=100):tW P.nc.length (ir P n1 n k):=by
 have a:=h.nc0;have b:=h.xg;refine⟨hn,λi q e=>?_,h.up k,λi q e x hx=>?_⟩
 ·have rd:=h.rd k q (List.mem_of_getElem? e);rcases List.mem_cons.mp (List.mem_of_getElem? e) with rfl | hq
  ·exact⟨⟨h.nx.n0,by show (0:Int)<=1;decide,by show (1:Int)<=16;decide,b⟩,by show 0<=1000;decide⟩
  ·obtain⟨κ,τ,hk,rfl⟩:=ID k q hq;obtain⟨c,e1,e2,e3,e4⟩:=h.chunk hk;exact⟨⟨by show 0<=(κ:Int)*16;lia,by show 0<=min 16 (c0 P - (κ:Int)*16);lia,by show min 16 (c0 P - (κ:Int)*16)<=16;lia,by show (κ:Int)*16+min 16 (c0 P - (κ:Int)*16)<=_;lia⟩,by show 0<=1000;decide⟩
 ·have rd:=h.rd k q (List.mem_of_getElem? e);rw[rd.b] at hx;cases hx
theorem fh.start(h:fh P n1 n)(k:Nat){c:Bool}(hc:c=false):JE P n1 (cy P.nc 0 (ir P n1 n k)) (ir P n1 n k) (cy P.nc 0 (ir P n1 n k)) 0 0 ⟨c,true,[]⟩ []:=by
 have e:cy P.nc 0 (ir P n1 n k)=gk n1::cy P.nc 1 (rounds P n k):=by
  show ⟨((0:Nat):Int),iX n1 0 0,b_ P.nc n1 1⟩::cy P.nc 1 (rounds P n k)=_;rw[h.c1];rfl
 refine⟨⟨by simp,λq h=>by(cases h),λd h=>.inl h,λd h=>h,λq h=>by(cases h),Int.le_refl _⟩,hc,rfl,λ_=>⟨rfl,1,rounds P n k,_,Nat.le_refl _,e,rfl,h.AO k,λq hq=>by(cases hq)⟩,λno=>absurd ⟨gk n1,by rw[e];exact List.mem_cons_self ..,rfl⟩ no⟩
theorem fh.all(h:fh P n1 n)(k:Nat):∀d∈cy P.nc 0 (ir P n1 n k),0<=d.n/\d.n<(ir P n1 n k).length:=λd hd=>by
 have:=mZ _ _ _ _ hd;rw[Nat.zero_add] at this;exact⟨this.1,this.2⟩
end
theorem IE:∀(xs:List V),(∀i:Nat,i<xs.length->∃b:Int,xs[i]? = some (.int b))->∃bs:List Int,xs=bs.map V.int
 | [],_=>⟨[],rfl⟩
 | x::xs,h=>by
  obtain⟨b,e⟩:=h 0 (by simp)
  obtain⟨bs,e2⟩:=IE xs λi hi=>by
   obtain⟨c,ec⟩:=h (i+1) (by simp;lia)
   exact⟨c,by simpa using ec⟩
  exact⟨b::bs,by simp at e;rw[e,e2];rfl⟩
theorem JE.ends{P:Pl}{n1:Int}{qs:List Ak}{r b:Int}{st:Lt}{tk:List (Int×Int)}(J:JE P n1 (cy P.nc 0 qs) qs [] r b st tk)(h1:1<=qs.length):∃(b0:Int) (bs:List Int),cH qs.length tk=(b0::bs).map V.int/\bs.length+1=qs.length/\∀(i:Nat) (c:Int),bs[i]? = some c->c<b0/\(qs[i+1]?).map (·.at_)=some c:=by
 obtain⟨_,b0,hb,hq⟩:=J.off (λ⟨e,he,_⟩=>by cases he)
 have at_:∀i:Nat,i<qs.length->∃c,((i:Int),c)∈tk/\(cH qs.length tk)[i]? = some (.int c):=λi hi=>by
  obtain⟨d,hd,e⟩:=wX P.nc qs 0 i hi;rcases J.jb.al d hd with z | ⟨q,hq,e2⟩
  ·cases z
  ·have:=qc J.jb.nd J.jb.bd hq;rw[e2,e,Nat.zero_add] at this;have eq:q=((i:Int),q.2):=Prod.ext (by rw[e2,e,Nat.zero_add]) rfl
   exact⟨q.2,eq▸hq,this⟩
 obtain⟨bs,eb⟩:=IE (cH qs.length tk) λi hi=>by
  rw[rC] at hi;obtain⟨c,_,e⟩:=at_ i hi;exact⟨c,e⟩
 have hl:bs.length=qs.length:=by
  have:=congrArg List.length eb;rwa [rC,List.length_map,eq_comm] at this
 have mem:∀(i:Nat) (c:Int),bs[i]? = some c->((i:Int),c)∈tk:=λi c e=>by
  obtain⟨c',h1,e'⟩:=at_ i (by have:=(List.getElem?_eq_some_iff.mp e).1;lia)
  rw[eb,List.getElem?_map,e] at e';cases e';exact h1
 match bs,hl with
 | [],hl=>simp at hl;lia
 | AV::bs,hl =>
  have m0:=mem 0 AV rfl;have e0:AV=b0:=by
   have x:=qc J.jb.nd J.jb.bd m0;have y:=qc J.jb.nd J.jb.bd hb;rw[show ((((0:Nat):Int),AV).1)=(((0:Int),b0).1) from rfl,y] at x;cases x;rfl
  refine⟨AV,bs,eb,hl,λi c e=>?_⟩;have m:=mem (i+1) c e;have:=hq _ m (by show ((i+1:Nat):Int)≠0;lia)
  rw[e0];exact⟨this.1,this.2⟩
theorem Tg{f:Nat->Bool}(inj:∀i j:Nat,1<=i->1<=j->f i=true->f j=true->i=j):∀m:Nat,(List.range m).countP f<=2/\((∀k:Nat,1<=k->k<m->f k=false)->(List.range m).countP f<=1)
 | 0=>by simp
 | m+1=>by
  have s:(List.range (m+1)).countP f=(List.range m).countP f+if f m=true then 1 else 0:=by rw[List.range_succ,List.countP_append,List.countP_singleton]
  obtain⟨i1,i2⟩:=Tg inj m;rw[s];by_cases e:f m=true
  ·rw[if_pos e];by_cases m0:m=0
   ·subst m0;simp
   ·have:=i2 λk k1 km=>by
     cases ek:f k with
     | false=>rfl
     | true=>have:=inj k m k1 (by lia) ek e;lia
    refine⟨by lia,λall=>?_⟩
    rw[all m (by lia) (by lia)] at e;cases e
  ·rw[if_neg e];exact⟨by lia,λall=>i2 λk k1 km=>all k k1 (by lia)⟩
structure rE(P:Pl)(all:List Dr)(m:Nat):Prop where
 ok:g_ P
 hl:∀i:Nat,i<P.rc.length->1<=P.aJ / P.rc.getD i 0
 up:all.Pairwise λa b=>a.n<b.n
 so:∀d∈all,∀e∈all,d.n<e.n->d.q.at_<=e.q.at_
 bd:∀d∈all,0<=d.n/\d.n<m
 c:∀d∈all,1<=d.c.length/\h_ P d.c
theorem IF{P:Pl}(ok:g_ P)(hl:∀i:Nat,i<P.rc.length->1<=P.aJ / P.rc.getD i 0):∀(cs:List (Int×Int)) (s:Int×Int),0<=s.1->s.1<P.rc.length->h_ P cs->1<=cs.length->0<=(cE P s cs).1/\(cE P s cs).1<P.rc.length/\s.2+1<=(cE P s cs).2
 | [],s,_,_,_,h=>by simp at h
 | [q],s,s0,s1,hc,_=>by
  have hq:=hc q (List.mem_singleton_self _);exact⟨hq.1,hq.2.1,uu ok hl s0 s1 hq.1 hq.2.1⟩
 | q::q2::cs,s,s0,s1,hc,_=>by
  have hq:=hc q (List.mem_cons_self ..);have u:=uu ok hl s0 s1 hq.1 hq.2.1;have ih:=IF ok hl (q2::cs) (jH P s q) hq.1 hq.2.1 (λx hx=>hc x (List.mem_cons_of_mem _ hx)) (by simp)
  have u:s.2+1<=(jH P s q).2:=u;exact⟨ih.1,ih.2.1,by show s.2+1<=(cE P (jH P s q) (q2::cs)).2;lia⟩
noncomputable def Wt(all ds:List Dr)(tk:List (Int×Int))(bf n:Int):Prop:=(∃d∈all,d.n=n/\d.q.at_<=bf)/\((∃d∈ds,d.n=n)\/∃p∈tk,p.1=n/\bf<=p.2)
noncomputable def Ps(all ds:List Dr)(tk:List (Int×Int))(q:Int×Int):Prop:=∃(S:List Int) (bf:Int),q.1∈S/\S.Nodup/\(∀p∈tk,q.1<p.1->p.2<q.2->p.1∈S)/\(∀n∈S,Wt all ds tk bf n)/\∃p∈tk,p.2=bf
structure JW(P:Pl)(all:List Dr)(m:Nat)(ds:List Dr)(r b:Int)(st:Lt)(tk:List (Int×Int)):Prop where
 jb:JB all m ds b tk
 up:ds.Pairwise λa b=>a.n<b.n
 c:st.c=true
 r0:0<=r
 r1:r<P.rc.length
 lt:∀q∈tk,q.2<b
 wC:st.b = []\/∃bf,(∃p∈tk,p.2=bf)/\(∀n∈st.b,Wt all ds tk bf n)/\∀d∈ds,d.n∉st.b->bf<d.q.at_
 nd:st.b.Nodup
 out:∀d∈ds,d.n∉st.b->∀q∈tk,q.1<d.n
 old:∀q∈tk,q.1∈st.b\/∀n∈st.b,q.1<n
 res:∀q∈tk,Ps all ds tk q
section
variable{P:Pl}{all ds:List Dr}{m:Nat}{r b:Int}{st:Lt}{tk:List (Int×Int)}
theorem Wt.step{bf n b2:Int}{d:Dr}(h:Wt all ds tk bf n)(hb:bf<=b2):Wt all (ds.filter λe=>decide (e.n≠d.n)) (tk++[(d.n,b2)]) bf n:=by
 refine⟨h.1,?_⟩;rcases h.2 with⟨e,he,en⟩ | ⟨p,hp,e1,e2⟩
 ·by_cases z:e.n=d.n
  ·exact .inr ⟨(d.n,b2),by simp,by show d.n=n;lia,hb⟩
  ·exact .inl ⟨e,List.mem_filter.mpr ⟨he,decide_eq_true z⟩,en⟩
 ·exact .inr ⟨p,List.mem_append_left _ hp,e1,e2⟩
theorem JW.step(h:JW P all m ds r b st tk)(G:rE P all m){b2:Int}{d:Dr}{bJ:Lt}(hb:b<=b2)(hd:d∈eN st (ds.filter λd=>decide (d.q.at_<=b2)))(cG:bJ.b=(dZ st (ds.filter λd=>decide (d.q.at_<=b2))).b)(hc:bJ.c=true):JW P all m (ds.filter λe=>decide (e.n≠d.n)) (cE P (r,b2) d.c).1 (cE P (r,b2) d.c).2 bJ (tk++[(d.n,b2)]):=by
 have dR:=wL hd;obtain⟨dm,da⟩:=List.mem_filter.mp dR;have da:=of_decide_eq_true da;have rF:=h.jb.sb d dm;have b0:=h.jb.b0;obtain⟨e1,e2,e3⟩:=IF G.ok G.hl d.c (r,b2) h.r0 h.r1 (G.c d rF).2 (G.c d rF).1;have e3:b2+1<=(cE P (r,b2) d.c).2:=e3;have sub:∀e∈ds.filter (λe=>decide (e.n≠d.n)),e∈ds/\e.n≠d.n:=λe he=>⟨(List.mem_filter.mp he).1,of_decide_eq_true (List.mem_filter.mp he).2⟩;have lt':∀q∈tk++[(d.n,b2)],q.2<(cE P (r,b2) d.c).2:=λq hq=>by
  rcases List.mem_append.mp hq with hq | hq
  ·have:=h.lt q hq;lia
  ·rw[List.mem_singleton.mp hq];show b2<_;lia
 have Ti:∀q∈tk,Ps all (ds.filter λe=>decide (e.n≠d.n)) (tk++[(d.n,b2)]) q:=λq hq=>by
  obtain⟨S,bf,s1,s2,s3,s4,p,hp,ep⟩:=h.res q hq;have bl:bf<=b2:=by have:=h.lt p hp;lia
  refine⟨S,bf,s1,s2,λp hp x1 x2=>?_,λn hn=>(s4 n hn).step bl,p,List.mem_append_left _ hp,ep⟩;rcases List.mem_append.mp hp with hp | hp
  ·exact s3 p hp x1 x2
  ·rw[List.mem_singleton.mp hp] at x2;have:=h.lt q hq;have x2:b2<q.2:=x2;lia
 have qD:=h.c;unfold eN at hd;rw[if_pos qD] at hd;unfold dZ at cG hd;rw[if_pos qD] at cG hd;by_cases an:(ds.filter λd=>decide (d.q.at_<=b2)).any (λd=>decide (d.n∈st.b))=true
 ·rw[if_pos an] at cG hd;have db:d.n∈st.b:=of_decide_eq_true (List.mem_filter.mp hd).2;rcases h.wC with z | ⟨bf,⟨p,hp,ep⟩,w1,w2⟩
  ·rw[z] at db;cases db
  have bl:bf<=b2:=by have:=h.lt p hp;lia
  refine⟨h.jb.step G.bd dm (by lia),h.up.filter _,hc,e1,e2,lt',.inr ⟨bf,⟨p,List.mem_append_left _ hp,ep⟩,λn hn=>?_,λe he ne=>?_⟩,by rw[cG];exact h.nd,λe he ne q hq=>?_,λq hq=>?_,λq hq=>?_⟩
  ·rw[cG] at hn;exact(w1 n hn).step bl
  ·rw[cG] at ne;exact w2 e (sub e he).1 ne
  ·rw[cG] at ne;rcases List.mem_append.mp hq with hq | hq
   ·exact h.out e (sub e he).1 ne q hq
   ·rw[List.mem_singleton.mp hq]
    show d.n<e.n;have g1:=w2 e (sub e he).1 ne;obtain⟨⟨d',qB,en',at'⟩,_⟩:=w1 d.n db;have g2:=(sub e he).2;by_cases c:e.n<d.n
    ·have:=G.so e (h.jb.sb e (sub e he).1) d' qB (by lia)
     lia
    ·lia
  ·rw[cG];rcases List.mem_append.mp hq with hq | hq
   ·exact h.old q hq
   ·rw[List.mem_singleton.mp hq];exact .inl db
  ·rcases List.mem_append.mp hq with hq | hq
   ·exact Ti q hq
   ·rw[List.mem_singleton.mp hq];refine⟨st.b,bf,db,h.nd,λx hx x1 x2=>?_,λn hn=>(w1 n hn).step bl,p,List.mem_append_left _ hp,ep⟩;rcases List.mem_append.mp hx with hx | hx
    ·rcases h.old x hx with o | o
     ·exact o
     ·have:=o d.n db;have x1:d.n<x.1:=x1;lia
    ·rw[List.mem_singleton.mp hx] at x2;exact absurd x2 (Int.lt_irrefl _)
 ·rw[if_neg an] at cG hd;have cG:bJ.b=(ds.filter λd=>decide (d.q.at_<=b2)).map (·.n):=cG;have none:∀e∈ds,e.n∉st.b:=λe he eb=>by
   refine an (List.any_eq_true.mpr ⟨e,List.mem_filter.mpr ⟨he,decide_eq_true ?_⟩,decide_eq_true eb⟩);rcases h.wC with z | ⟨bf,⟨p,hp,ep⟩,w1,w2⟩
   ·rw[z] at eb;cases eb
   ·obtain⟨⟨d',qB,en',at'⟩,_⟩:=w1 e.n eb;have:d' = e:=by
     obtain⟨l1,l2,rfl⟩:=List.append_of_mem qB;have u:=G.up;rw[List.pairwise_append,List.pairwise_cons] at u;rcases List.mem_append.mp (h.jb.sb e he) with x | x
     ·have:=u.2.2 e x d' (List.mem_cons_self ..);lia
     ·rcases List.mem_cons.mp x with x | x
      ·exact x.symm
      ·have:=u.2.1.1 e x;lia
    subst this;have:=h.lt p hp;lia
  have mem:∀n∈(ds.filter λd=>decide (d.q.at_<=b2)).map (·.n),∃e∈ds,e.n=n/\e.q.at_<=b2:=λn hn=>by
   obtain⟨e,he,rfl⟩:=List.mem_map.mp hn;exact⟨e,(List.mem_filter.mp he).1,rfl,of_decide_eq_true (List.mem_filter.mp he).2⟩
  have Tj:((ds.filter λd=>decide (d.q.at_<=b2)).map (·.n)).Nodup:=by
   rw[List.nodup_iff_pairwise_ne,List.pairwise_map];exact(h.up.filter _).imp λ{a b} h=>by lia
  have wt:∀n∈(ds.filter λd=>decide (d.q.at_<=b2)).map (·.n),Wt all (ds.filter λe=>decide (e.n≠d.n)) (tk++[(d.n,b2)]) b2 n:=λn hn=>by
   obtain⟨e,he,en,ea⟩:=mem n hn;exact Wt.step (ds:=ds) ⟨⟨e,h.jb.sb e he,en,ea⟩,.inl ⟨e,he,en⟩⟩ (Int.le_refl _)
  have dn:d.n∈(ds.filter λd=>decide (d.q.at_<=b2)).map (·.n):=List.mem_map_of_mem dR;refine⟨h.jb.step G.bd dm (by lia),h.up.filter _,hc,e1,e2,lt',.inr ⟨b2,⟨(d.n,b2),by simp,rfl⟩,λn hn=>?_,λe he ne=>?_⟩,by rw[cG];exact Tj,λe he ne q hq=>?_,λq hq=>?_,λq hq=>?_⟩
  ·rw[cG] at hn;exact wt n hn
  ·rw[cG] at ne;by_cases c:e.q.at_<=b2
   ·exact absurd (List.mem_map_of_mem (List.mem_filter.mpr ⟨(sub e he).1,decide_eq_true c⟩)) ne
   ·lia
  ·rw[cG] at ne;have ae6:=h.out e (sub e he).1 (none e (sub e he).1);rcases List.mem_append.mp hq with hq | hq
   ·exact ae6 q hq
   ·rw[List.mem_singleton.mp hq]
    show d.n<e.n;have g2:=(sub e he).2;by_cases c:e.n<d.n
    ·have:=G.so e (h.jb.sb e (sub e he).1) d rF c;exact absurd (List.mem_map_of_mem (List.mem_filter.mpr ⟨(sub e he).1,decide_eq_true (show e.q.at_<=b2 by lia)⟩)) ne
    ·lia
  ·rw[cG];rcases List.mem_append.mp hq with hq | hq
   ·refine .inr λn hn=>?_;obtain⟨e,he,rfl,_⟩:=mem n hn;exact h.out e he (none e he) q hq
   ·rw[List.mem_singleton.mp hq];exact .inl dn
  ·rcases List.mem_append.mp hq with hq | hq
   ·exact Ti q hq
   ·rw[List.mem_singleton.mp hq];refine⟨_,b2,dn,Tj,λx hx x1 x2=>?_,wt,(d.n,b2),by simp,rfl⟩
    rcases List.mem_append.mp hx with hx | hx
    ·have:=h.out d dm (none d dm) x hx;have x1:d.n<x.1:=x1;lia
    ·rw[List.mem_singleton.mp hx] at x2;exact absurd x2 (Int.lt_irrefl _)
end
theorem Tn:∀(k:Nat) (s:Int) (i:Nat),i<k->(iZ s k)[i]? = some (0,s+(i:Int))
 | 0,s,i,h=>by lia
 | k+1,s,i,h=>by
  show ((0,s)::iZ (s+1) k)[i]? = _;cases i with
  | zero=>simp
  | succ i =>
   rw[List.getElem?_cons_succ,Tn k (s+1) i (by lia)]
   congr 2;lia
theorem ae7{rc:List Int}(h1:1<=rc.length)(hc:∀c∈rc,1<=c){i:Nat}(hi:(i:Int)<rc.getD 0 0):(kC rc 0)[i]? = some (0,(i:Int)):=by
 match rc,h1 with
 | a::r,_ =>
  have hi:(i:Int)<a:=hi;unfold kC;rw[e7,List.getElem?_append_left (by rw[List.length_map,List.length_range];lia),List.getElem?_map,List.getElem?_range (by lia)]
  simp
theorem pT.ev{z:List (Int×Int)}{aJ sk:Int}{sw:List Int}(wo:pT z aJ sk sw){n:Nat}(st:oH 0 (c0 (j8 z aJ sk sw)) 16 n):∃n1,fh (j8 z aJ sk sw) n1 n:=by
 have cl:=n8 z λp hp=>(wo.zl.ok.r p hp).1;have Hy:=wo.zl.sm;have c2:=wo.zl.ok.s2;have hc:∀c∈counts z,1<=c/\c<=60:=λc hc=>by
  obtain⟨p,hp,rfl⟩:=n_ hc;exact(wo.zl.ok.r p hp).2.2
 obtain⟨n1,nx,IB,n60,c1,_⟩:=S7 (aJ:=aJ) (sk:=sk) (sw:=sw) (show 2<=(counts z).length by lia) hc
 have e0:c0 (j8 z aJ sk sw)=(counts z).getD 0 0:=rfl;have eb:cJ (j8 z aJ sk sw)=aJ / (counts z).getD 0 0:=rfl;have get:∀i:Nat,i<(counts z).length->∃p∈z,(counts z).getD i 0=p.2/\p.2*(aJ / p.2)=aJ/\1<=p.2/\p.2<=60:=λi hi=>by
  obtain⟨p,hp,e⟩:=n_ (get_mem (pL (counts z) hi));have fJ:=wo.zl.ok.r p hp;have l3:=wo.l3 p hp;refine⟨p,hp,e,?_,fJ.2.2⟩;have:=Int.mul_ediv_add_emod aJ p.2;lia
 obtain⟨p0,_,ep,lp,a1,a2⟩:=get 0 (by lia)
 refine⟨n1,wo.pl _,λi hi=>?_,nx,IB,c1,λs k hk=>?_,by rw[e0,ep];exact a1,by rw[e0,ep];exact a2,by rw[e0,eb,ep];exact lp,wo.l2,st,?_⟩
 ·obtain⟨p,_,e,lp,a1,_⟩:=get i hi
  show 1<=aJ / (counts z).getD i 0;have l1:=wo.l1;rw[e];by_cases z0:aJ / p.2<=0
  ·have:=Int.mul_nonneg (show 0<=p.2 by lia) (show 0<=-(aJ / p.2) by lia)
   rw[Int.mul_neg,lp] at this;lia
  ·lia
 ·rw[e0] at hk;unfold b_;refine List.ext_getElem? λi=>?_
  show (List.take ((k:Int)).toNat (List.drop ((s:Int)).toNat (kC (counts z) 0)))[i]? = _;rw[Int.toNat_natCast,Int.toNat_natCast];by_cases hi:i<k
  ·rw[List.getElem?_take_of_lt hi,List.getElem?_drop,Tn k s i hi,ae7 (by lia) (λc h=>(hc c h).1) (by lia)]
   congr 2
  ·rw[List.getElem?_eq_none (by rw[List.length_take];lia),List.getElem?_eq_none (by rw[AS];lia)]
 ·have:=v_ (s:=0) (by decide) (counts z) 0 λc h=>by have:=hc c h;lia
  show (e7 0 0 (counts z)).length<=1000000;lia
section
variable{K:PySem.W.Frag}{c:RC}{o:Rk}{st:Lt}{H H':Hp}{ru dx B:Addr}{tq:Addr×Pos×Str}
theorem cX.IG(h:cX K c o st H ru dx B):∃C fs,H ru=some (.ins C dx fs)/\fs.lookup ("kind" : Str)=none/\fs.lookup ("ring_cells" : Str)=none:=by
 cases o with
 | first=>exact⟨_,_,h,rfl,rfl⟩
 | near=>exact⟨_,_,h,rfl,rfl⟩
 | iE=>exact⟨_,_,h,rfl,rfl⟩
 | iF=>exact⟨_,_,h,rfl,rfl⟩
 | li sw =>
  obtain⟨C,h1,h2,h3⟩:=h;exact⟨C,_,h3.o,by simp[jm,List.lookup_cons,gi],by simp[jm,List.lookup_cons,gi]⟩
theorem cX.kp(u:cX K c o st H ru dx B)(t:gF tq H)(k:bU ru tq.1 H H'){a:Addr}{x:HO}(e:H a=some x)(n1:∀C d fs,x≠.ins C d fs)(n2:∀ps,x≠.gb ps):H' a=some x:=by
 obtain⟨C0,fs,e0,_⟩:=u.IG;exact k _ _ e (λz=>by rw[z,e0] at e;cases e;exact n1 _ _ _ rfl) (t.ne e n2)
theorem cX.lst(u:cX K c o st H ru dx B)(t:gF tq H)(k:bU ru tq.1 H H'){a:Addr}{xs:List V}(e:H a=some (.lst xs)):H' a=some (.lst xs):=u.kp t k e (λ_ _ _ z=>nomatch z) (λ_ z=>nomatch z)
theorem cX.tup(u:cX K c o st H ru dx B)(t:gF tq H)(k:bU ru tq.1 H H'){a:Addr}{xs:List V}(e:H a=some (.tup xs)):H' a=some (.tup xs):=u.kp t k e (λ_ _ _ z=>nomatch z) (λ_ z=>nomatch z)
theorem cX.seq(u:cX K c o st H ru dx B)(t:gF tq H)(k:bU ru tq.1 H H'){a:Addr}{xs:List V}(h:aE K H a xs):aE K H' a xs:=by
 rcases h with(h | ⟨o,h⟩) | h
 ·exact .inl (.inl (u.lst t k h))
 ·exact .inl (.inr ⟨o,u.kp t k h (λ_ _ _ z=>nomatch z) (λ_ z=>nomatch z)⟩)
 ·exact .inr h
theorem cX.To(u:cX K c o st H ru dx B)(t:gF tq H)(k:bU ru tq.1 H H'){a C d:Addr}{fs:List (Str×V)}(e:H a=some (.ins C d fs))(n:fs.lookup ("kind" : Str)≠none\/fs.lookup ("ring_cells" : Str)≠none):H' a=some (.ins C d fs):=by
 obtain⟨C0,fs0,e0,k1,k2⟩:=u.IG;refine k _ _ e (λz=>?_) (t.ne e (λ_ z=>nomatch z));rw[z,e0] at e;cases e;rcases n with n | n
 ·exact n k1
 ·exact n k2
theorem cX.kI(u:cX K c o st H ru dx B)(t:gF tq H)(k:bU ru tq.1 H H'){CA l:Addr}{ps:List Addr}{qs:List Ak}(h:cj K CA H l ps qs):cj K CA H' l ps qs:=⟨u.lst t k h.l,h.n,λi p q e1 e2=>by
 obtain⟨m,b,d,z⟩:=h.t i p q e1 e2;exact⟨m,b,d,u.To t k z.o (.inl (by simp[fZ,List.lookup_cons,gi])),u.tup t k z.ms,u.tup t k z.bh⟩⟩
theorem cX.Ip(u:cX K c o st H ru dx B)(t:gF tq H)(k:bU ru tq.1 H H'){C a:Addr}{P:Pl}{fp:List Addr}(e:bZ K C H a P fp):bZ K C H' a P fp:=by
 obtain⟨cZ,a1,a2,a3,a4,ts,fs,e,g⟩:=e;exact⟨cZ,a1,a2,a3,a4,ts,fs,e,{ g with o:=u.To t k g.o (.inr (by rw[g.f1];simp)),rc:=u.lst t k g.rc,sw:=u.lst t k g.sw,nc:=⟨u.lst t k g.nc.l,g.nc.n,λi t' r e1 e2=>u.tup t k (g.nc.t i t' r e1 e2)⟩,cn:=u.kp t k g.cn (λ_ _ _ z=>nomatch z) (λ_ z=>nomatch z)}⟩
theorem cX.tab{t2:Addr×Pos×Str}(u:cX K c o st H ru dx B)(t:gF tq H)(k:bU ru tq.1 H H')(h:gF t2 H)(ne:t2.1≠tq.1):gF t2 H':=by
 obtain⟨C0,fs0,e0,_⟩:=u.IG;obtain⟨ps,e,tr,w⟩:=h;refine⟨ps,k _ _ e (λz=>by rw[z,e0] at e;cases e) ne,tr,?_⟩
 rcases w with w | ⟨c',e1,e2⟩
 ·exact .inl w
 ·exact .inr ⟨c',e1,u.kp t k e2 (λ_ _ _ z=>nomatch z) (λ_ z=>nomatch z)⟩
end
theorem Tp{m:Nat}(h:m<=2000000):m<16777216:=by lia
noncomputable def jr(qs:List Ak)(bs:List Int)(c:Int)(k:Nat):Bool:=match qs[k]?,bs[k]? with
 | some q,some b=>decide (q.at_<=c/\c<=b)
 | _,_=>false
theorem Tq{qs:List Ak}{bs:List Int}{c:Int}{k:Nat}{q:Ak}{b:Int}(h1:qs[k]? = some q)(h2:bs[k]? = some b):jr qs bs c k=decide (q.at_<=c/\c<=b):=by
 unfold jr;rw[h1,h2]
theorem ae8{q0:Ak}{rs:List Ak}{b0 c:Int}{bs:List Int}(up:rs.Pairwise λa b=>a.at_<b.at_)(bf:∀(i:Nat) (c:Int),bs[i]? = some c->c<b0/\((q0::rs)[i+1]?).map (·.at_)=some c)(m:Nat):(List.range m).countP (jr (q0::rs) (b0::bs) c)<=2:=by
 have key:∀i:Nat,1<=i->jr (q0::rs) (b0::bs) c i=true->∃q,rs[i - 1]? = some q/\q.at_=c:=λi hi e=>by
  obtain⟨j,rfl⟩:∃j,i=j+1:=⟨i - 1,by lia⟩
  unfold jr at e;rw[List.getElem?_cons_succ,List.getElem?_cons_succ] at e;cases e1:rs[j]? with
  | none=>rw[e1] at e;cases e
  | some q =>
   cases e2:bs[j]? with
   | none=>rw[e1,e2] at e;cases e
   | some b =>
    rw[e1,e2] at e;have e:=of_decide_eq_true e;have:=(bf j b e2).2;rw[List.getElem?_cons_succ,e1] at this;have this:q.at_=b:=Option.some.inj this;exact⟨q,e1,by lia⟩
 refine(Tg (λi j hi hj ei ej=>?_) m).1;obtain⟨q,e1,a1⟩:=key i hi ei;obtain⟨q',e2,a2⟩:=key j hj ej;have u:=List.pairwise_iff_getElem.mp up;obtain⟨h1,rfl⟩:=List.getElem?_eq_some_iff.mp e1;obtain⟨h2,rfl⟩:=List.getElem?_eq_some_iff.mp e2;by_cases lt:i - 1<j - 1
 ·have:=u _ _ h1 h2 lt;lia
 ·by_cases gt:j - 1<i - 1
  ·have:=u _ _ h2 h1 gt;lia
  ·lia
theorem ae9{qs:List Ak}{bs:List Int}{c:Int}{i:Nat}:(List.range (i+1)).filter (jr qs bs c)=(List.range i).filter (jr qs bs c)++if jr qs bs c i=true then [i] else []:=by
 rw[List.range_succ,List.filter_append];by_cases h:jr qs bs c i=true <;> simp[h]
theorem xh(f:Nat->Bool)(i:Nat):(List.range (i+1)).countP f=(List.range i).countP f+if f i=true then 1 else 0:=by
 rw[List.range_succ,List.countP_append,List.countP_singleton]
theorem Tr{p f:Nat->Bool}:∀(m k:Nat),(∀j,j<m->p j=true->f j=true)->k<m->f k=true->p k=false->(List.range m).countP p<(List.range m).countP f
 | 0,k,_,h,_,_=>by lia
 | m+1,k,hj,hk,fk,pk=>by
  rw[xh,xh];have le:∀m:Nat,(∀j,j<m->p j=true->f j=true)->(List.range m).countP p<=(List.range m).countP f:=by
   intro m
   induction m with
   | zero=>intro _;simp
   | succ m ih =>
    intro h;rw[xh,xh];have:=ih λj hj=>h j (by lia)
    by_cases e:p m=true
    ·rw[if_pos e,if_pos (h m (by lia) e)];lia
    ·rw[if_neg e];lia
  by_cases e:k=m
  ·subst e;have:=le k λj iC=>hj j (by lia)
   rw[if_pos fk,if_neg (by rw[pk];simp)]
   lia
  ·have:=Tr m k (λj iC=>hj j (by lia)) (by lia) fk pk
   by_cases e2:p m=true
   ·rw[if_pos e2,if_pos (hj m (by lia) e2)];lia
   ·rw[if_neg e2];lia
theorem ae_(bs:List Int)(c:Int)(s:Nat):((bs.drop s).filter λb=>decide (b<c)).length=(List.range bs.length).countP λj=>decide (s<=j) && (bs[j]?).any λb=>decide (b<c):=by
 suffices ∀n:Nat,(((bs.take n).drop s).filter λb=>decide (b<c)).length=(List.range (min n bs.length)).countP λj=>decide (s<=j) && (bs[j]?).any λb=>decide (b<c) by
  have:=this bs.length;rwa [List.take_length,Nat.min_self] at this
 intro n
 induction n with
 | zero=>simp
 | succ n ih =>
  by_cases hn:n<bs.length
  ·rw[show min (n+1) bs.length=min n bs.length+1 by lia,xh,show min n bs.length=n by lia]
   rw[show min n bs.length=n by lia] at ih
   rw[List.take_succ_eq_append_getElem hn,← ih];by_cases hs:s<=n
   ·rw[List.drop_append_of_le_length (by rw[List.length_take];lia),List.filter_append,List.length_append,List.getElem?_eq_getElem hn]
    by_cases e:bs[n] < c
    ·simp[hs,e]
    ·simp[hs,e]
   ·rw[List.drop_of_length_le (by rw[List.length_append,List.length_take,List.length_singleton];lia),List.drop_of_length_le (by rw[List.length_take];lia)]
    simp[hs]
  ·rw[show min (n+1) bs.length=min n bs.length by lia,← ih,List.take_of_length_le (by lia),List.take_of_length_le (by lia)]
section
variable{P:Pl}{qs:List Ak}{r b:Int}{st:Lt}{tk:List (Int×Int)}
theorem JB.bs(h:JB (cy P.nc 0 qs) qs.length [] b tk):∃bs:List Int,cH qs.length tk=bs.map V.int/\bs.length=qs.length/\(∀(i:Nat) (c:Int),bs[i]? = some c->((i:Int),c)∈tk)/\∀p∈tk,bs[p.1.toNat]? = some p.2:=by
 have at_:∀i:Nat,i<qs.length->∃c,((i:Int),c)∈tk/\(cH qs.length tk)[i]? = some (.int c):=λi hi=>by
  obtain⟨d,hd,e⟩:=wX P.nc qs 0 i hi;rcases h.al d hd with z | ⟨q,hq,e2⟩
  ·cases z
  ·have:=qc h.nd h.bd hq;rw[e2,e,Nat.zero_add] at this;have eq:q=((i:Int),q.2):=Prod.ext (by rw[e2,e,Nat.zero_add]) rfl
   exact⟨q.2,eq▸hq,this⟩
 obtain⟨bs,eb⟩:=IE (cH qs.length tk) λi hi=>by
  rw[rC] at hi;obtain⟨c,_,e⟩:=at_ i hi;exact⟨c,e⟩
 have hl:bs.length=qs.length:=by
  have:=congrArg List.length eb;rwa [rC,List.length_map,eq_comm] at this
 refine⟨bs,eb,hl,λi c e=>?_,λp hp=>?_⟩
 ·obtain⟨c',h1,e'⟩:=at_ i (by have:=(List.getElem?_eq_some_iff.mp e).1;lia)
  rw[eb,List.getElem?_map,e] at e';cases e';exact h1
 ·have:=qc h.nd h.bd hp;rw[eb,List.getElem?_map] at this;cases e:bs[p.1.toNat]? with
  | none=>rw[e] at this;cases this
  | some x=>rw[e] at this;cases this;rfl
theorem JW.ends(J:JW P (cy P.nc 0 qs) qs.length [] r b st tk):∃bs:List Int,cH qs.length tk=bs.map V.int/\bs.length=qs.length/\∀(k:Nat) (c:Int),bs[k]? = some c->∃bf∈bs,((bs.drop (k+1)).filter λb=>decide (b<c)).length<(List.range qs.length).countP (jr qs bs bf):=by
 obtain⟨bs,eb,hl,m1,m2⟩:=J.jb.bs;refine⟨bs,eb,hl,λk c e=>?_⟩;obtain⟨S,bf,s1,s2,s3,s4,p,hp,ep⟩:=J.res _ (m1 k c e);have wf:∀n∈S,0<=n/\n<qs.length/\jr qs bs bf n.toNat=true:=λn hn=>by
  obtain⟨⟨d,hd,en,ea⟩,w⟩:=s4 n hn;have dn:=mZ _ _ _ _ hd;rw[Nat.zero_add] at dn;refine⟨by lia,by lia,?_⟩
  rcases w with⟨_,z,_⟩ | ⟨p,hp,e1,e2⟩
  ·cases z
  ·obtain⟨i,hi,ei,eq⟩:∃i:Nat,d.n=(i:Int)/\qs[i]? = some d.q/\True:=by
    have get:∀(qs:List Ak) (k:Nat) (d:Dr),d∈cy P.nc k qs->∃i:Nat,d.n=((k+i:Nat):Int)/\qs[i]? = some d.q:=by
     intro qs
     induction qs with
     | nil=>intro k d h;cases h
     | cons q qs ih =>
      intro k d h;rcases List.mem_cons.mp h with rfl | h
      ·exact⟨0,rfl,rfl⟩
      ·obtain⟨i,e1,e2⟩:=ih (k+1) d h;exact⟨i+1,by rw[e1];congr 1;lia,e2⟩
    obtain⟨i,e1,e2⟩:=get qs 0 d hd;exact⟨i,by rw[e1,Nat.zero_add],e2,trivial⟩
   have b2:=m2 p hp;rw[show p.1.toNat=i by lia] at b2
   rw[show n.toNat=i by lia,Tq ei b2]
   exact decide_eq_true ⟨ea,e2⟩
 refine⟨bf,by rw[← ep];exact List.mem_of_getElem? (m2 p hp),?_⟩
 rw[ae_,hl];have hk:=(List.getElem?_eq_some_iff.mp e).1;have wk:=(wf _ s1).2.2;rw[Int.toNat_natCast] at wk;refine Tr qs.length k (λj hj pj=>?_) (by lia) wk (by rw[decide_eq_false (by lia)];rfl)
 rw[Bool.and_eq_true] at pj;obtain⟨p1,p2⟩:=pj;have p1:=of_decide_eq_true p1;obtain⟨x,ex⟩:∃x,bs[j]? = some x:=⟨bs[j]'(by lia),List.getElem?_eq_getElem (by lia)⟩
 rw[ex] at p2;have p2:x<c:=of_decide_eq_true p2;have:=(wf _ (s3 _ (m1 j x ex) (by show (k:Int)<j;lia) p2)).2.2
 rwa [Int.toNat_natCast] at this
end
structure R5 where
 o:Rk
 ru:Addr
 dx:Addr
 B:Addr
structure lT(T:iY)(H:Hp):Prop where
 n:gF T.n H
 s:gF T.s H
 l:gF T.l H
section
variable{K:PySem.W.Frag}{c:RC}{H H':Hp}{rs:List R5}{S:Nat->Prop}{T:iY}
theorem lT.same(h:lT T H)(s:aj H H'):lT T H':=⟨h.n.same s,h.s.same s,h.l.same s⟩
theorem lT.of(h:lT T H)(o:Rk):gF (T.of o) H:=by
 cases o with
 | first=>exact h.n
 | near=>exact h.n
 | iE=>exact h.s
 | iF=>exact h.l
 | li sw=>exact h.n
theorem lT.step{o:Rk}{st:Lt}{ru dx B:Addr}(h:lT T H)(ns:T.n.1≠T.s.1)(nl:T.n.1≠T.l.1)(sl:T.s.1≠T.l.1)(u:cX K c o st H ru dx B)(k:bU ru (T.of o).1 H H')(t:gF (T.of o) H'):lT T H':=by
 have t0:=h.of o;cases o with
 | first=>exact⟨t,u.tab t0 k h.s (Ne.symm ns),u.tab t0 k h.l (Ne.symm nl)⟩
 | near=>exact⟨t,u.tab t0 k h.s (Ne.symm ns),u.tab t0 k h.l (Ne.symm nl)⟩
 | iE=>exact⟨u.tab t0 k h.n ns,t,u.tab t0 k h.l (Ne.symm sl)⟩
 | iF=>exact⟨u.tab t0 k h.n nl,u.tab t0 k h.s sl,t⟩
 | li sw=>exact⟨t,u.tab t0 k h.s (Ne.symm ns),u.tab t0 k h.l (Ne.symm nl)⟩
end
theorem oG.one{P:Pl}{a b:Int}(h:oG P a)(g:oG P b):a=b:=by
 have:=h.v.symm.trans g.v;cases this;rfl
theorem fh.btl{P:Pl}{n1:Int}{n:Nat}(h:fh P n1 n):cJ P<=1000000000:=by
 have b1:=h.b1;have:=Int.mul_le_mul_of_nonneg_right h.ca (show 0<=cJ P by lia)
 rw[Int.one_mul,h.lp] at this;have:=h.l9;lia
theorem afa{P:Pl}{n:Nat}:∀q∈gY P n,q.kind = "read"/\q.behind = []:=λq hq=>by
 obtain⟨κ,_,rfl⟩:=List.mem_map.mp hq;exact⟨rfl,rfl⟩
noncomputable def afb(K:PySem.W.Frag)(cs:List Addr)(CA:Addr):Sp:=λvs H Q _=>∃(C p:Addr) (P:Pl) (fp:List Addr) (n most:Int) (w:Str),vs = [.ref p,.str w,.int most]/\C∈cs/\bZ K C H p P fp/\oG P n/\2<=most/\most<=100/\1<=c0 P/\c0 P<=60/\0<=cJ P/\cJ P<=1000000000/\(w∉fB->w∈ig)/\
 (w∈fB->∀t l ps H',aj H H'->H' t=some (.tup [.str "bound",.int (if w = "first" then 0 else most - 1),.ref l])->cj K CA H' l ps (gj n most)->Q (.ref t) H')/\
 (w∉fB->∀t l1 p1 l2 p2 m H',aj H H'->H' t=some (.tup [.str "ever",.ref l1,.ref l2,.int P.aJ])->oH 0 (c0 P) 16 m->cj K CA H' l1 p1 [iX n 0 0]->cj K CA H' l2 p2 (gY P m)->Q (.ref t) H')
noncomputable def d_(w:Str):Rk:=if w = "first" then .first else if w = "nearest" then .near else if w = "soonest" then .iE else if w = "latest" then .iF else if w = "lift"\/w = "calm lift" then .li false else .li true
noncomputable def jO(w:Str):Bool:=if w = "lift"\/w = "calm lift" then decide (w = "calm lift") else decide (w = "calm sweep")
noncomputable def afc(K:PySem.W.Frag)(c:RC):Sp:=λvs H Q _=>∃(w:Str),vs = [.str w]/\∀ru dx B H',aj H H'->H ru=none->cX K c (d_ w) ⟨jO w,true,[]⟩ H' ru dx B->Q (.ref ru) H'
noncomputable def iG(bs:List Int)(n:Nat):List Int:=(List.range n).map λk=>(((bs.drop (k+1)).filter λb=>decide (b<bs.getD k 0)).length:Int)
noncomputable def afd(K:PySem.W.Frag):Sp:=λvs H Q _=>∃(l:Addr) (bs:List Int),vs = [.ref l]/\H l=some (.lst (bs.map V.int))/\bs.length<=100/\∀l' H',aj H H'->H l' = none->H' l' = some (.lst ((iG bs bs.length).map V.int))->Q (.ref l') H'
noncomputable def qd(qs:List Ak)(bs:List Int)(c:Int):Int:=((List.range qs.length).countP (jr qs bs c):Nat)
noncomputable def afe(K:PySem.W.Frag)(CA:Addr):Sp:=λvs H Q _=>∃(la l:Addr) (ps:List Addr) (qs:List Ak) (bs:List Int),vs = [.ref la,.ref l]/\cj K CA H la ps qs/\H l=some (.lst (bs.map V.int))/\bs.length=qs.length/\qs.length<=100/\∀W H',aj H H'->(∀c∈bs,qd qs bs c<=W)->((∀c∈bs,qd qs bs c<=2)->W<=2)->0<=W->Q (.int W) H'
theorem afg{K:PySem.W.Frag}{tl:TE}{g:TG}{σ:St}{H:Hp}{tt:TT}{te:TE}{nt:Nat}{fv:List Nat}{Q:VK}(o:HO)(jk:∀Q:VK,(∀p,H p=none->Q (.ref p) (upd H p o))->tl σ H Q)(h:∀p,H p=none->iR (k9 K (λ_ H Q=>Q (.ref p) H)) g tt te nt fv σ (upd H p o) Q):iR (k9 K tl) g tt te nt fv σ H Q:=jk _ λp hp=>h p hp
theorem afh{bs:List Int}{i:Nat}:iG bs (i+1)=iG bs i++[(((bs.drop (i+1)).filter λb=>decide (b<bs.getD i 0)).length:Int)]:=by
 unfold iG;rw[List.range_succ,List.map_append];rfl
theorem afi{bs:List Int}{b0 c:Int}{k:Nat}(h:bs[k]? = some c):(bs.take (k+1)).filter (λc=>decide (c<b0))=(bs.take k).filter (λc=>decide (c<b0))++if c<b0 then [c] else []:=by
 rw[take_succ_get h,List.filter_append];by_cases hc:c<b0 <;> simp[hc]
structure lU(P:Pl)(qs:List Ak):Prop where
 n:qs.length<=24
 k:∀q∈qs,q.kind = "read"/\q.early=false/\q.behind = []/\0<=q.first/\1<=q.many/\q.many<=3/\q.first+q.many<=P.nc.length
 up:∀(i:Nat) (q q':Ak),qs[i]? = some q->qs[i+1]? = some q'->q.at_<=q'.at_
noncomputable def afj(K:PySem.W.Frag)(C CA:Addr):Sp:=λvs H Q _=>∃(p cl:Addr) (P:Pl) (fp:List Addr) (ns:List Int),vs = [.ref p,.ref cl]/\bZ K C H p P fp/\1<=P.nc.length/\P.nc.length<=1000000/\1<=P.aJ/\P.aJ<=1000000000/\aE K H cl (ns.map V.int)/\ns.length<=24/\
 ∀l ps qs H',aj H H'->H l=none->cj K CA H' l ps qs->lU P qs->Q (.ref l) H'
theorem AW{n most:Int}(h:2<=most):(gj n most).length=most.toNat:=by
 unfold gj;rw[List.length_cons,List.length_replicate];lia
theorem rG{n most:Int}{q:Ak}(h:q∈gj n most):q=iX n 0 0\/q=iX 0 0 0:=by
 rcases List.mem_cons.mp h with h | h
 ·exact .inl h
 ·exact .inr (List.eq_of_mem_replicate h)
structure gm(P:Pl)(n most:Int):Prop where
 ok:g_ P
 hl:∀i:Nat,i<P.rc.length->1<=P.aJ / P.rc.getD i 0
 nx:oG P n
 n1:1<=n
 c1:b_ P.nc n 1 = [(1,0)]
 c0:b_ P.nc 0 1 = [(0,0)]
 nM:P.nc.length<=1000000
 m2:2<=most
 m1:most<=100
section
variable{P:Pl}{n most:Int}
theorem gm.fit(h:gm P n most):n+1<=P.nc.length:=by
 have e:=congrArg List.length h.c1;unfold b_ at e;rw[List.length_take,List.length_drop] at e;have:=h.n1;have e:min 1 (P.nc.length - n.toNat)=1:=e;lia
theorem gm.rd(h:gm P n most):∀q∈gj n most,ur P q:=λq hq=>by
 have n2:=h.ok.n2;have n1:=h.nx.n1;have n0:=h.n1;rcases rG hq with rfl | rfl
 ·exact⟨rfl,rfl,rfl,by show 0<=n;lia,n1,by show (1:Int)<=1;decide,by show (1:Int)<=16;decide,by show h_ P (b_ P.nc n 1);rw[h.c1];intro q hq;rw[List.mem_singleton.mp hq];exact⟨by decide,by show (1:Int)<_;lia,by decide,by decide⟩,by show (b_ P.nc n 1).length=1;rw[h.c1];rfl⟩
 ·exact⟨rfl,rfl,rfl,by decide,by decide,by decide,by decide,by show h_ P (b_ P.nc 0 1);rw[h.c0];intro q hq;rw[List.mem_singleton.mp hq];exact⟨by decide,by show (0:Int)<_;lia,by decide,by decide⟩,by show (b_ P.nc 0 1).length=1;rw[h.c0];rfl⟩
theorem gm.kI(h:gm P n most):tW P.nc.length (gj n most):=by
 have hf:=h.fit;have n0:=h.n1;have m1:=h.m1;refine⟨by rw[AW h.m2];lia,λi q e=>?_,λi q q' e e'=>?_,λk q e n' FQ=>?_⟩
 ·rcases rG (List.mem_of_getElem? e) with rfl | rfl
  ·exact⟨⟨by show 0<=n;lia,by show (0:Int)<=1;decide,by show (1:Int)<=16;decide,hf⟩,by show 0<=1000;decide⟩
  ·exact⟨⟨by decide,by decide,by decide,by show (0:Int)+1<=_;lia⟩,by decide⟩
 ·have a:∀q∈gj n most,q.at_=0:=λq hq=>by rcases rG hq with rfl | rfl <;> rfl
  rw[a q (List.mem_of_getElem? e),a q' (List.mem_of_getElem? e')];exact Int.le_refl _
 ·rcases rG (List.mem_of_getElem? e) with rfl | rfl <;> cases FQ
theorem gm.all(h:gm P n most):∀d∈cy P.nc 0 (gj n most),0<=d.n/\d.n<most.toNat/\d.q.at_=0/\(d.n=0/\d.c = [(1,0)]\/d.n≠0/\d.c = [(0,0)]):=λd hd=>by
 have h1:=mZ _ _ _ _ hd;rw[AW h.m2] at h1;refine⟨h1.1,by lia,?_,?_⟩
 ·rcases rG (rD _ _ _ _ hd).1 with e | e <;> rw[e] <;> rfl
 ·rcases List.mem_cons.mp (show d∈_::_ from hd) with rfl | hd
  ·exact .inl ⟨rfl,h.c1⟩
  ·have h2:=mZ _ _ _ _ hd;obtain⟨h3,h4⟩:=rD _ _ _ _ hd;rw[List.eq_of_mem_replicate h3] at h4;exact .inr ⟨by lia,h4.trans h.c0⟩
theorem JB.start{all:List Dr}{m:Nat}:JB all m all 0 []:=⟨by simp,λq h=>by(cases h),λd h=>.inl h,λd h=>h,λq h=>by(cases h),Int.le_refl _⟩
theorem gm.zero(h:gm P n most):∃d∈cy P.nc 0 (gj n most),d.n=0:=⟨_,List.mem_cons_self ..,rfl⟩
theorem gm.jf(h:gm P n most)(st:Lt):JF (cy P.nc 0 (gj n most)) most.toNat P.rc.length (cy P.nc 0 (gj n most)) 0 0 st [] :=
 ⟨JB.start,λq h=>by(cases h),λq h=>by(cases h),λ_=>rfl,λz=>absurd rfl z,λ_=>h.zero,Int.le_refl _,by have:=h.ok.n2;show (0:Int)<_;lia⟩
theorem gm.jl(h:gm P n most):JL (cy P.nc 0 (gj n most)) most.toNat (cy P.nc 0 (gj n most)) 0 0 ⟨true,true,[]⟩ [] :=
 ⟨JB.start,rfl,rfl,.inl rfl,λ_=>⟨rfl,λq h=>by(cases h)⟩,λz=>absurd h.zero z⟩
theorem gm.afk(h:gm P n most):p6 P none (JF (cy P.nc 0 (gj n most)) most.toNat P.rc.length):=JF.along h.ok h.hl λd hd=>by
 obtain⟨a,b,c,e⟩:=h.all d hd;have n2:=h.ok.n2;rcases e with⟨_,e⟩ | ⟨_,e⟩
 ·exact⟨a,b,c,_,e,by decide,by show (1:Int)<_;lia⟩
 ·exact⟨a,b,c,_,e,by decide,by show (0:Int)<_;lia⟩
theorem gm.afl(h:gm P n most){sw:Bool}:p6 P (some sw) (JL (cy P.nc 0 (gj n most)) most.toNat):=JL.along h.ok h.hl h.all
end
theorem all_ints:∀(xs:List V),(∀i:Nat,i<xs.length->∃b:Int,xs[i]? = some (.int b))->∃bs:List Int,xs=bs.map V.int
 | [],_=>⟨[],rfl⟩
 | x::xs,h=>by
  obtain⟨b,e⟩:=h 0 (by simp)
  obtain⟨bs,e2⟩:=all_ints xs λi hi=>by
   obtain⟨c,ec⟩:=h (i+1) (by simp;lia)
   exact⟨c,by simpa using ec⟩
  exact⟨b::bs,by simp at e;rw[e,e2];rfl⟩
theorem JB.ends{nc:List (Int×Int)}{qs:List Ak}{b:Int}{tk:List (Int×Int)}(h:JB (cy nc 0 qs) qs.length [] b tk):∃bs:List Int,cH qs.length tk=bs.map V.int/\bs.length=qs.length/\∀(i:Nat) (c:Int),bs[i]? = some c->((i:Int),c)∈tk:=by
 have at_:∀i:Nat,i<qs.length->∃c,((i:Int),c)∈tk/\(cH qs.length tk)[i]? = some (.int c):=λi hi=>by
  obtain⟨d,hd,e⟩:=wX nc qs 0 i hi;rcases h.al d hd with z | ⟨q,hq,e2⟩
  ·cases z
  ·have:=qc h.nd h.bd hq;rw[e2,e,Nat.zero_add] at this;have eq:q=((i:Int),q.2):=Prod.ext (by rw[e2,e,Nat.zero_add]) rfl
   exact⟨q.2,eq▸hq,this⟩
 obtain⟨bs,eb⟩:=all_ints (cH qs.length tk) λi hi=>by
  rw[rC] at hi;obtain⟨c,_,e⟩:=at_ i hi;exact⟨c,e⟩
 have hl:bs.length=qs.length:=by
  have:=congrArg List.length eb;rwa [rC,List.length_map,eq_comm] at this
 refine⟨bs,eb,hl,λi c e=>?_⟩;obtain⟨c',h1,e'⟩:=at_ i (by have:=(List.getElem?_eq_some_iff.mp e).1;lia)
 rw[eb,List.getElem?_map,e] at e';cases e';exact h1
theorem JF.ends{nc:List (Int×Int)}{qs:List Ak}{r b k:Int}{st:Lt}{tk:List (Int×Int)}(h:JF (cy nc 0 qs) qs.length k [] r b st tk)(h1:1<=qs.length):∃(b0:Int) (bs:List Int),cH qs.length tk=V.int b0::bs.map V.int/\bs.length+1=qs.length/\bs.filter (λc=>decide (c<b0)) = []:=by
 obtain⟨bs,e,l,m⟩:=h.jb.ends
 match bs,l with
 | [],l=>simp at l;lia
 | b0::bs,l =>
  refine⟨b0,bs,e,l,List.filter_eq_nil_iff.mpr λc hc=>?_⟩;have z:=h.qz _ (m 0 b0 rfl) rfl;obtain⟨i,hi,ec⟩:=List.getElem_of_mem hc;have:=h.q0 _ (m (i+1) c (by rw[List.getElem?_cons_succ,List.getElem?_eq_getElem hi,ec]))
  have z:b0=0:=z;have this:0<=c:=this;simp;lia
theorem JL.ends{nc:List (Int×Int)}{qs:List Ak}{r b:Int}{st:Lt}{tk:List (Int×Int)}(h:JL (cy nc 0 qs) qs.length [] r b st tk)(h1:1<=qs.length):∃(b0:Int) (bs:List Int),cH qs.length tk=V.int b0::bs.map V.int/\bs.length+1=qs.length/\bs.filter (λc=>decide (c<b0))=bs:=by
 obtain⟨bs,e,l,m⟩:=h.jb.ends
 match bs,l with
 | [],l=>simp at l;lia
 | b0::bs,l =>
  refine⟨b0,bs,e,l,List.filter_eq_self.mpr λc hc=>?_⟩;obtain⟨_,z,hz,bW⟩:=h.off λ⟨e,he,_⟩=>by(cases he)
  have m0:=m 0 b0 rfl;obtain⟨i,hi,ec⟩:=List.getElem_of_mem hc;have:=bW _ (m (i+1) c (by rw[List.getElem?_cons_succ,List.getElem?_eq_getElem hi,ec])) (by show ((i+1:Nat):Int)≠0;lia)
  have this:c<z:=this;have eq:b0=z:=by
   have a:=qc h.jb.nd h.jb.bd m0;have b:=qc h.jb.nd h.jb.bd hz;rw[show ((((0:Nat):Int),b0).1)=(((0:Int),z).1) from rfl,b] at a;cases a;rfl
  exact decide_eq_true (by lia)
theorem pT.bnd{z:List (Int×Int)}{aJ sk:Int}{sw:List Int}(wo:pT z aJ sk sw){most:Int}(m2:2<=most)(m1:most<=100):∃n,gm (j8 z aJ sk sw) n most:=by
 have cl:=n8 z λp hp=>(wo.zl.ok.r p hp).1;have Hy:=wo.zl.sm;have c2:=wo.zl.ok.s2;have hc:∀c∈counts z,1<=c/\c<=60:=λc hc=>by
  obtain⟨p,hp,rfl⟩:=n_ hc;exact(wo.zl.ok.r p hp).2.2
 obtain⟨n,nx,n1,n60,c1,c0⟩:=S7 (aJ:=aJ) (sk:=sk) (sw:=sw) (show 2<=(counts z).length by lia) hc
 refine⟨n,wo.pl _,λi hi=>?_,nx,n1,c1,c0,?_,m2,m1⟩
 ·obtain⟨p,hp,e⟩:=n_ (get_mem (pL (counts z) hi))
  show 1<=aJ / (counts z).getD i 0;have fJ:=wo.zl.ok.r p hp;have l3:=wo.l3 p hp;have l1:=wo.l1;rw[e];have hd:p.2*(aJ / p.2)=aJ:=by
   have:=Int.mul_ediv_add_emod aJ p.2;lia
  by_cases z0:aJ / p.2<=0
  ·have:=Int.mul_nonneg (show 0<=p.2 by lia) (show 0<=-(aJ / p.2) by lia)
   rw[Int.mul_neg,hd] at this;lia
  ·lia
 ·have:=v_ (s:=0) (by decide) (counts z) 0 λc h=>by have:=hc c h;lia
  show (e7 0 0 (counts z)).length<=1000000;lia
theorem p6.v{P:Pl}{J:List Dr->Int->Int->Lt->List (Int×Int)->Prop}(h:p6 P none J):p8 P .first J:=⟨λds r b st tk b2 d bJ j dY cG hp=>h.go ds r b st tk b2 d bJ j dY cG hp⟩
theorem p6.vl{P:Pl}{sw:Bool}{J:List Dr->Int->Int->Lt->List (Int×Int)->Prop}(h:p6 P (some sw) J):p8 P (.li sw) J:=⟨λds r b st tk b2 d bJ j dY cG hp=>h.go ds r b st tk b2 d bJ j dY cG ⟨hp.1,P,b2,hp.2⟩⟩
theorem wW.le{ds:List Dr}{b b2:Int}(h:wW ds b b2):b<=b2:=by
 obtain⟨M,_,_,e⟩:=h;rw[e];split <;> lia
section
variable{P:Pl}{all:List Dr}{m:Nat}
theorem JW.along{sw:Bool}(G:rE P all m):p8 P (.li sw) (JW P all m) where
 go:=λds r b st tk b2 d bJ h dY cG hp=>by
  obtain⟨e,bb⟩:=hp;refine h.step G cG.le (Ig bb.1) ?_ ?_
  ·rw[e];unfold jo;split <;> rfl
  ·rw[e];have:(dZ st (ds.filter λd=>decide (d.q.at_<=b2))).c=true:=by
    unfold dZ;rw[if_pos h.c];split
    ·exact h.c
    ·exact h.c
   unfold jo;split
   ·exact this
   ·exact this
theorem JW.start(G:rE P all m):JW P all m all 0 0 ⟨true,true,[]⟩ [] :=
 ⟨⟨by simp,λq h=>by(cases h),λd h=>.inl h,λd h=>h,λq h=>by(cases h),Int.le_refl _⟩,G.up,rfl,Int.le_refl _,by have:=G.ok.n2;show (0:Int)<_;lia,λq h=>by(cases h),.inl rfl,by simp,λd _ _ q h=>by(cases h),λq h=>by(cases h),λq h=>by(cases h)⟩
structure JN(P:Pl)(all:List Dr)(m:Nat)(ds:List Dr)(r b:Int)(st:Lt)(tk:List (Int×Int)):Prop where
 jb:JB all m ds b tk
 r0:0<=r
 r1:r<P.rc.length
 lt:∀q∈tk,q.2<b
 out:∀d∈ds,∀q∈tk,q.1<d.n
 od:∀q∈tk,∀p∈tk,q.1<p.1->q.2<p.2
theorem JN.along(G:rE P all m):p8 P .first (JN P all m) where
 go:=λds r b st tk b2 d bJ h dY cG hp=>by
  have hb:=cG.le;have dR:=hp.1.1;obtain⟨dm,da⟩:=List.mem_filter.mp dR;have da:=of_decide_eq_true da;have rF:=h.jb.sb d dm;have b0:=h.jb.b0;obtain⟨e1,e2,e3⟩:=IF G.ok G.hl d.c (r,b2) h.r0 h.r1 (G.c d rF).2 (G.c d rF).1;have e3:b2+1<=(cE P (r,b2) d.c).2:=e3;refine⟨h.jb.step G.bd dm (by lia),e1,e2,λq hq=>?_,λe he q hq=>?_,λq hq p ng lt=>?_⟩
  ·rcases List.mem_append.mp hq with hq | hq
   ·have:=h.lt q hq;lia
   ·rw[List.mem_singleton.mp hq];show b2<_;lia
  ·obtain⟨II,Tt⟩:=List.mem_filter.mp he;have Tt:=of_decide_eq_true Tt;rcases List.mem_append.mp hq with hq | hq
   ·exact h.out e II q hq
   ·rw[List.mem_singleton.mp hq]
    show d.n<e.n;by_cases c:e.n<d.n
    ·have ea:=G.so e (h.jb.sb e II) d rF c;have:=hp.1.2 e (List.mem_filter.mpr ⟨II,decide_eq_true (by lia)⟩)
     simp at this;lia
    ·lia
  ·rcases List.mem_append.mp hq with hq | hq
   ·rcases List.mem_append.mp ng with ng | ng
    ·exact h.od q hq p ng lt
    ·rw[List.mem_singleton.mp ng];have:=h.lt q hq
     show q.2<b2;lia
   ·rw[List.mem_singleton.mp hq] at lt;rcases List.mem_append.mp ng with ng | ng
    ·have:=h.out d dm p ng;have lt:d.n<p.1:=lt;lia
    ·rw[List.mem_singleton.mp ng] at lt;exact absurd lt (Int.lt_irrefl _)
theorem JN.start(G:rE P all m){st:Lt}:JN P all m all 0 0 st [] :=
 ⟨⟨by simp,λq h=>by(cases h),λd h=>.inl h,λd h=>h,λq h=>by(cases h),Int.le_refl _⟩,Int.le_refl _,by have:=G.ok.n2;show (0:Int)<_;lia,λq h=>by(cases h),λd _ q h=>by(cases h),λq h=>by(cases h)⟩
end
theorem JN.ends{P:Pl}{qs:List Ak}{r b:Int}{st:Lt}{tk:List (Int×Int)}(J:JN P (cy P.nc 0 qs) qs.length [] r b st tk):∃bs:List Int,cH qs.length tk=bs.map V.int/\bs.length=qs.length/\∀(k:Nat) (c:Int),bs[k]? = some c->((bs.drop (k+1)).filter λb=>decide (b<c)).length=0:=by
 obtain⟨bs,eb,hl,m1,m2⟩:=J.jb.bs;refine⟨bs,eb,hl,λk c e=>?_⟩;rw[List.length_eq_zero_iff,List.filter_eq_nil_iff];intro x hx;obtain⟨i,hi,ex⟩:=List.getElem_of_mem hx;have e2:bs[k+1+i]? = some x:=by rw[← ex,List.getElem_drop];exact List.getElem?_eq_getElem _
 have:=J.od _ (m1 k c e) _ (m1 _ x e2) (by show (k:Int)<((k+1+i:Nat):Int);lia)
 have this:c<x:=this;simp;lia
theorem afm{z:List (Int×Int)}{aJ sk:Int}{sw:List Int}(wo:pT z aJ sk sw):h_ (j8 z aJ sk sw) (j8 z aJ sk sw).nc:=λq hq=>by
 have hc:∀c∈counts z,1<=c/\c<=60:=λc hc=>by
  obtain⟨p,hp,rfl⟩:=n_ hc;exact(wo.zl.ok.r p hp).2.2
 obtain⟨j,hj,e1,e2,e3⟩:=RX (counts z) 0 q hq;have:=hc _ (get_mem (pL (counts z) hj));rw[Nat.zero_add] at e1;exact⟨by lia,by show q.1<((counts z).length:Int);lia,e2,by lia⟩
section
variable{P:Pl}{qs:List Ak}
theorem lU.rd(h:lU P qs)(hc:h_ P P.nc)(nM:P.nc.length<=1000000):∀q∈qs,ur P q:=λq hq=>by
 obtain⟨k1,k2,k3,k4,k5,k6,k7⟩:=h.k q hq;exact⟨k1,k2,k3,k4,by lia,k5,by lia,λx hx=>hc x (RY hx),RZ k4 (by lia) k7⟩
theorem lU.kI(h:lU P qs):tW P.nc.length qs:=by
 have n:=h.n;refine⟨by lia,λi q e=>?_,h.up,λk q e n hn=>?_⟩
 ·obtain⟨k1,k2,k3,k4,k5,k6,k7⟩:=h.k q (List.mem_of_getElem? e);exact⟨⟨k4,by lia,by lia,k7⟩,by rw[k3];simp⟩
 ·rw[(h.k q (List.mem_of_getElem? e)).2.2.1] at hn;cases hn
theorem Tu(h:lU P qs):∀(j i:Nat) (q q':Ak),qs[i]? = some q->qs[i+j]? = some q'->q.at_<=q'.at_
 | 0,i,q,q',e,e'=>by rw[Nat.add_zero,e] at e';cases e';exact Int.le_refl _
 | j+1,i,q,q',e,e'=>by
  have hl:=(List.getElem?_eq_some_iff.mp e').1;obtain⟨x,ex⟩:∃x,qs[i+j]? = some x:=⟨qs[i+j]'(by lia),List.getElem?_eq_getElem (by lia)⟩
  have:=Tu h j i q x e ex;have:=h.up (i+j) x q' ex e';lia
theorem AX(nc:List (Int×Int)):∀(qs:List Ak) (k:Nat) (d:Dr),d∈cy nc k qs->∃i:Nat,d.n=((k+i:Nat):Int)/\qs[i]? = some d.q/\d.c=b_ nc d.q.first d.q.many
 | [],k,d,h=>by cases h
 | q::qs,k,d,h=>by
  rcases List.mem_cons.mp h with rfl | h
  ·exact⟨0,rfl,rfl,rfl⟩
  ·obtain⟨i,e1,e2,e3⟩:=AX nc qs (k+1) d h;exact⟨i+1,by rw[e1];congr 1;lia,e2,e3⟩
theorem Tv(nc:List (Int×Int)):∀(qs:List Ak) (k:Nat),(cy nc k qs).Pairwise λa b=>a.n<b.n
 | [],k=>.nil
 | q::qs,k=>by
  refine List.Pairwise.cons (λd hd=>?_) (Tv nc qs (k+1));have:=(mZ nc qs (k+1) d hd).1
  show (k:Int)<d.n;lia
theorem lU.rw(h:lU P qs)(ok:g_ P)(hl:∀i:Nat,i<P.rc.length->1<=P.aJ / P.rc.getD i 0)(hc:h_ P P.nc):rE P (cy P.nc 0 qs) qs.length where
 ok:=ok
 hl:=hl
 up:=Tv _ _ _
 so:=λd hd e he lt=>by
  obtain⟨i,e1,e2,_⟩:=AX _ _ _ _ hd;obtain⟨j,f1,f2,_⟩:=AX _ _ _ _ he;rw[Nat.zero_add] at e1 f1;obtain⟨x,rfl⟩:∃x,j=i+x:=⟨j - i,by lia⟩
  exact Tu h x i d.q e.q e2 f2
 bd:=λd hd=>by
  have:=mZ _ _ _ _ hd;rw[Nat.zero_add] at this;exact this
 c:=λd hd=>by
  obtain⟨i,e1,e2,e3⟩:=AX _ _ _ _ hd;obtain⟨k1,k2,k3,k4,k5,k6,k7⟩:=h.k _ (List.mem_of_getElem? e2);rw[e3];exact⟨by rw[RZ k4 (by lia) k7];lia,λx hx=>hc x (RY hx)⟩
end
theorem Tw:d_ "first" = .first:=by unfold d_;rw[if_pos rfl]
theorem ne1:((Str.ofString "calm lift"):Str)≠"first"/\((Str.ofString "calm lift"):Str)≠"nearest"/\((Str.ofString "calm lift"):Str)≠"soonest"/\((Str.ofString "calm lift"):Str)≠"latest" := by decide +kernel
theorem ne2:((Str.ofString "calm sweep"):Str)≠"first"/\((Str.ofString "calm sweep"):Str)≠"nearest"/\((Str.ofString "calm sweep"):Str)≠"soonest"/\((Str.ofString "calm sweep"):Str)≠"latest"/\((Str.ofString "calm sweep"):Str)≠"lift"/\((Str.ofString "calm sweep"):Str)≠"calm lift" := by decide +kernel
theorem kw1:d_ "calm lift" = .li false/\jO "calm lift" = true:=by
 obtain⟨a,b,c,d⟩:=ne1;unfold d_ jO;rw[if_neg a,if_neg b,if_neg c,if_neg d,if_pos (.inr rfl),if_pos (.inr rfl)];exact⟨rfl,decide_eq_true rfl⟩
theorem kw2:d_ "calm sweep" = .li true/\jO "calm sweep" = true:=by
 obtain⟨a,b,c,d,e,f⟩:=ne2;have g:¬ (((Str.ofString "calm sweep"):Str) = "lift"\/((Str.ofString "calm sweep"):Str) = "calm lift"):=λz=>z.elim e f;unfold d_ jO;rw[if_neg a,if_neg b,if_neg c,if_neg d,if_neg g,if_neg g];exact⟨rfl,decide_eq_true rfl⟩
theorem Tz{w:Str}(h:w∈fB):w = "first"\/(w≠"first"/\∃sw,d_ w = .li sw/\jO w=true):=by
 unfold fB at h;simp only[List.mem_cons,List.not_mem_nil,or_false] at h;rcases h with rfl | rfl | rfl
 ·exact .inl rfl
 ·exact .inr ⟨ne1.1,_,kw1⟩
 ·exact .inr ⟨ne2.1,_,kw2⟩
theorem gm.IJ{P:Pl}{n most:Int}(h:gm P n most){w:Str}(hw:w∈fB):∃J:List Dr->Int->Int->Lt->List (Int×Int)->Prop,J (cy P.nc 0 (gj n most)) 0 0 ⟨jO w,true,[]⟩ []/\p8 P (d_ w) J/\∀r b st tk,J [] r b st tk->∃(b0:Int) (bs:List Int),cH (gj n most).length tk=(b0::bs).map V.int/\bs.length+1=(gj n most).length/\((bs.filter λc=>decide (c<b0)).length:Int)=if w = "first" then 0 else most - 1:=by
 have m2:=h.m2;have l:=AW (n:=n) h.m2;rcases Tz hw with rfl | ⟨nw,sw,k1,k2⟩
 ·rw[Tw];refine⟨_,h.jf _,h.afk.v,λr b st tk j=>?_⟩;rw[← l] at j;obtain⟨b0,bs,e,e2,e3⟩:=j.ends (by lia)
  exact⟨b0,bs,e,e2,by rw[e3,if_pos rfl];rfl⟩
 ·rw[k1,k2];refine⟨_,h.jl,h.afl.vl,λr b st tk j=>?_⟩;rw[← l] at j;obtain⟨b0,bs,e,e2,e3⟩:=j.ends (by lia)
  exact⟨b0,bs,e,e2,by rw[e3,if_neg nw];lia⟩
theorem lU.IJ{P:Pl}{qs:List Ak}(G:rE P (cy P.nc 0 qs) qs.length){w:Str}(hw:w∈fB):∃J:List Dr->Int->Int->Lt->List (Int×Int)->Prop,J (cy P.nc 0 qs) 0 0 ⟨jO w,true,[]⟩ []/\p8 P (d_ w) J/\∀r b st tk,J [] r b st tk->∃bs:List Int,cH qs.length tk=bs.map V.int/\bs.length=qs.length/\∀(W:Int),(∀c∈bs,qd qs bs c<=W)->∀x∈iG bs bs.length,x<if w = "first" then 1 else W:=by
 have pm:∀(bs:List Int) (x:Int),x∈iG bs bs.length->∃k c,bs[k]? = some c/\x=(((bs.drop (k+1)).filter λb=>decide (b<c)).length:Int):=λbs x hx=>by
  unfold iG at hx;obtain⟨k,hk,rfl⟩:=List.mem_map.mp hx;exact⟨k,_,pL bs (List.mem_range.mp hk),rfl⟩
 rcases Tz hw with rfl | ⟨nw,sw,k1,k2⟩
 ·rw[Tw];refine⟨_,JN.start G,JN.along G,λr b st tk j=>?_⟩;obtain⟨bs,e1,e2,e3⟩:=j.ends;refine⟨bs,e1,e2,λW _ x hx=>?_⟩;obtain⟨k,c,ek,rfl⟩:=pm bs x hx;rw[e3 k c ek,if_pos rfl];decide
 ·rw[k1,k2];refine⟨_,JW.start G,JW.along G,λr b st tk j=>?_⟩;obtain⟨bs,e1,e2,e3⟩:=j.ends;refine⟨bs,e1,e2,λW hW x hx=>?_⟩;obtain⟨k,c,ek,rfl⟩:=pm bs x hx;obtain⟨bf,hb,lt⟩:=e3 k c ek;have:=hW bf hb;unfold qd at this;rw[if_neg nw];lia
theorem afn{K:PySem.W.Frag}{tl:TE}{g:TG}{σ:St}{H:Hp}{tt:TT}{te:TE}{nt:Nat}{fv:List Nat}{Q:VK}(G:Addr->Hp->Prop)(jk:∀Q:VK,(∀p H',G p H'->Q (.ref p) H')->tl σ H Q)(h:∀p H',G p H'->iR (k9 K (λ_ H Q=>Q (.ref p) H)) g tt te nt fv σ H' Q):iR (k9 K tl) g tt te nt fv σ H Q:=jk _ λp H' g=>h p H' g
theorem afo{bs:List Int}{n:Nat}:(iG bs n).length=n:=by unfold iG;rw[List.length_map,List.length_range]
noncomputable def afp(K:PySem.W.Frag)(C CA:Addr)(T:iY):Sp:=λvs H Q _=>∃(p f cl l:Addr) (w:Str) (most n:Int) (P:Pl) (fp ps:List Addr) (ns:List Int),vs = [.ref p,.str w,.int most,.ref f,.ref cl]/\bZ K C H p P fp/\gm P n most/\h_ P P.nc/\1<=P.aJ/\P.aJ<=1000000000/\1<=P.nc.length/\H f=some (.tup [.str "bound",.int (if w = "first" then 0 else most - 1),.ref l])/\cj K CA H l ps (gj n most)/\w∈fB/\aE K H cl (ns.map V.int)/\ns.length<=24/\lT T H/\(T.n.1≠T.s.1/\T.n.1≠T.l.1/\T.s.1≠T.l.1)/\∀H',Q (.bl true) H'
theorem afq:∀w∈ig,(match d_ w with | .first=>false | _=>true)=true/\jO w=false:=by decide +kernel
theorem afr{w:Str}(h:w∈ig):d_ w≠.first/\jO w=false:=by
 obtain⟨a,b⟩:=afq w h;exact⟨λe=>by { rw[e] at a;cases a },b⟩
theorem cj.app{K:PySem.W.Frag}{C:Addr}{H:Hp}{l D:Addr}{ps ds:List Addr}{qs rs:List Ak}(h:cj K C H l ps qs)(g:cj K C H D ds rs):cj K C (upd H l (.lst (ps.map V.ref++ds.map V.ref))) l (ps++ds) (qs++rs):=by
 have hn:=h.n;have gn:=g.n;refine⟨by rw[aH,List.map_append],by rw[List.length_append,List.length_append];lia,λi p' q' e1 e2=>?_⟩
 by_cases hi:i<ps.length
 ·rw[List.getElem?_append_left hi] at e1;rw[List.getElem?_append_left (by lia)] at e2
  obtain⟨m',b',cZ,z⟩:=h.t i p' q' e1 e2;exact⟨m',b',cZ,z.jc h.l⟩
 ·rw[List.getElem?_append_right (by lia)] at e1
  rw[List.getElem?_append_right (by lia)] at e2
  obtain⟨m',b',cZ,z⟩:=g.t (i - ps.length) p' q' e1 (by rw[hn];exact e2)
  exact⟨m',b',cZ,z.jc h.l⟩
theorem afs{k:Int}(h0:0<=k)(h5:k<8):∃w,gg ((fB++ig).map V.str) k=some (.str w)/\(w∈fB\/w∈ig/\w∉fB):=by
 have hi:k.toNat<(fB++ig).length:=by have:(fB++ig).length=8:=rfl;lia
 have all:∀w∈ig,w∉fB:=by decide +kernel
 refine⟨(fB++ig)[k.toNat],?_,?_⟩
 ·have:=gA (xs:=(fB++ig).map V.str) (j:=k.toNat) (v:=.str (fB++ig)[k.toNat]) (by rw[List.getElem?_map,List.getElem?_eq_getElem hi];rfl)
  rwa [show ((k.toNat:Nat):Int)=k by lia] at this
 ·rcases List.mem_append.mp (List.getElem_mem hi) with h | h
  ·exact .inl h
  ·exact .inr ⟨h,all _ h⟩
theorem TF{w:Str}:w∈fB↔(w = "first"\/w = "calm lift"\/w = "calm sweep"):=by
 unfold fB;simp only[List.mem_cons,List.not_mem_nil,or_false]
theorem aft(ns:List Int):∃ms:List Int,kq (ns.map V.int) (some 7) (some 31)=ms.map V.int/\ms.length<=24:=by
 refine⟨(ns.drop (_H.eY (ns.map V.int).length 0 (some 7))).take (_H.eY (ns.map V.int).length (ns.map V.int).length (some 31) - _H.eY (ns.map V.int).length 0 (some 7)),?_,?_⟩
 ·unfold kq;rw[List.map_take,List.map_drop]
 ·have e1:_H.eY (ns.map V.int).length 0 (some ((7:Nat):Int))=_:=_H.Ql ..;have e2:_H.eY (ns.map V.int).length (ns.map V.int).length (some ((31:Nat):Int))=_:=_H.Ql ..;rw[List.length_take,List.length_drop,show (7:Int)=((7:Nat):Int) from rfl,show (31:Int)=((31:Nat):Int) from rfl,e1,e2];lia
noncomputable def afu(K:PySem.W.Frag)(C CA:Addr)(T:iY):Sp:=λvs H Q _=>∃(p t l1 l2:Addr) (w:Str) (most times n1:Int) (n:Nat) (P:Pl) (fp p1 p2:List Addr),vs = [.ref p,.str w,.int most,.ref t,.int times]/\bZ K C H p P fp/\fh P n1 n/\H t=some (.tup [.str "ever",.ref l1,.ref l2,.int P.aJ])/\cj K CA H l1 p1 [iX n1 0 0]/\cj K CA H l2 p2 (gY P n)/\1<=times/\times<=100/\2<=most/\w∈ig/\lT T H/\∀H',Q (.bl true) H'
noncomputable def xj(i:Nat):TE:=λσ H Q=>match σ[i]? with
 | some (some v)=>Q v H
 | _=>False
noncomputable def mI(g:Int->Int->V):R2:=λx y H Q=>match x,y with
 | .int i,.int j=>Q (g i j) H
 | _,_=>False
noncomputable def rH(C:Int->Int->Prop)(g:Int->Int->V):R2:=λx y H Q=>match x,y with
 | .int i,.int j=>C i j/\Q (g i j) H
 | _,_=>False
noncomputable def onR(x:V)(k:Addr->Prop):Prop:=match x with
 | .ref a=>k a
 | _=>False
noncomputable def rJ(K:PySem.W.Frag)(o:Option HO)(f:Str)(k:V->Prop):Prop:=match o with
 | some (.ins C _ fs)=>(bL K C/\bO K C f)/\match fs.lookup f with
  | some v=>k v
  | none=>False
 | _=>False
noncomputable def setM(K:PySem.W.Frag)(o:Option HO)(f:Str)(k:Addr->Addr->List (Str×V)->Prop):Prop:=match o with
 | some (.ins C dx fs)=>(bL K C/\bO K C f/\fs.length<1000)/\k C dx fs
 | _=>False
theorem amJ{K:PySem.W.Frag}{C dx:Addr}{fs:List (Str×V)}{f:Str}{k:V->Prop}(c:bL K C)(n:bO K C f):rJ K (some (.ins C dx fs)) f k=match fs.lookup f with
  | some v=>k v
  | none=>False:=propext ⟨λh=>h.2,λh=>⟨⟨c,n⟩,h⟩⟩
theorem amK{K:PySem.W.Frag}{C dx:Addr}{fs:List (Str×V)}{f:Str}{k:Addr->Addr->List (Str×V)->Prop}(c:bL K C)(n:bO K C f)(l:fs.length<1000):setM K (some (.ins C dx fs)) f k=k C dx fs :=
 propext ⟨λh=>h.2,λh=>⟨⟨c,n,l⟩,h⟩⟩
theorem rJ.o{K:PySem.W.Frag}{o:Option HO}{f:Str}{k:V->Prop}(h:rJ K o f k):∃C dx fs v,o=some (.ins C dx fs)/\bL K C/\bO K C f/\fs.lookup f=some v/\k v:=by
 unfold rJ at h;split at h
 ·obtain⟨⟨c,n⟩,h⟩:=h;split at h
  ·exact⟨_,_,_,_,rfl,c,n,by assumption,h⟩
  ·exact h.elim
 ·exact h.elim
theorem setM.o{K:PySem.W.Frag}{o:Option HO}{f:Str}{k:Addr->Addr->List (Str×V)->Prop}(h:setM K o f k):∃C dx fs,o=some (.ins C dx fs)/\bL K C/\bO K C f/\fs.length<1000/\k C dx fs:=by
 unfold setM at h;split at h
 ·exact⟨_,_,_,rfl,h.1.1,h.1.2.1,h.1.2.2,h.2⟩
 ·exact h.elim
section
variable{X:Cx}
theorem PE.mn{e:Expr}{t t':TE}(h:PE X e t)(m:∀σ H Q,t' σ H Q->t σ H Q):PE X e t':=λpins s σ H Q I q=>h pins s σ H Q I (m _ _ _ q)
theorem cV.mn{f:Value->Value->Sem Value}{r r':R2}(h:cV X f r)(m:∀x y H Q,r' x y H Q->r x y H Q):cV X f r':=λpins s σ H x y v u Q I rx ry q=>h pins s σ H x y v u Q I rx ry (m _ _ _ _ q)
theorem xj.o{i:Nat}{σ:St}{H:Hp}{Q:VK}(h:xj i σ H Q):∃v,σ[i]? = some (some v)/\Q v H:=by
 unfold xj at h;split at h
 ·exact⟨_,by assumption,h⟩
 ·exact h.elim
theorem aa(i:Nat){x:Str}{pos:Pos}(hN:X.N[i]? = some x:=by rfl)(hv:zw X.env.scope x:=by first | exact Or.inl rfl | exact Or.inr (Or.inl rfl) | exact Or.inr (Or.inr rfl))(hd:(x == ("__debug__" : Str))=false:=by decide)
  (gH:(x == ("__classdict__" : Str))=false:=by decide):PE X (.Name x pos) (xj i):=(O5 hN hv hd gH).mn λ_ _ _ h=>h.o
theorem mI.o{g:Int->Int->V}{x y:V}{H:Hp}{Q:VK}(h:mI g x y H Q):jV g x y H Q:=by
 unfold mI at h;split at h
 ·exact⟨_,_,rfl,rfl,h⟩
 ·exact h.elim
theorem rH.o{C:Int->Int->Prop}{g:Int->Int->V}{x y:V}{H:Hp}{Q:VK}(h:rH C g x y H Q):rI C g x y H Q:=by
 unfold rH at h;split at h
 ·exact⟨_,_,rfl,rfl,h⟩
 ·exact h.elim
theorem jt:cV X (binaryOp .Add) (mI λi j=>.int (i+j)):=e_.mn λ_ _ _ _ h=>h.o
theorem lV:cV X (binaryOp .Sub) (mI λi j=>.int (i - j)):=vK.mn λ_ _ _ _ h=>h.o
theorem rK:cV X (binaryOp .Mult) (rH zH λi j=>.int (i*j)):=sV.mn λ_ _ _ _ h=>h.o
theorem IK:cV X (binaryOp .FloorDiv) (rH Py λi j=>.int (i / j)):=zI.mn λ_ _ _ _ h=>h.o
theorem AY:cV X (binaryOp .Mod) (rH (λ_ j=>0<j) λi j=>.int (i % j)):=dw.mn λ_ _ _ _ h=>h.o
noncomputable def TH(p:Int->Int->Prop)[∀i j,Decidable (p i j)](ta tb:TE):TT:=λσ H Q=>ta σ H λx H1=>tb σ H1 λy H2=>match x,y with
 | .int i,.int j=>if p i j then Q true H2 else Q false H2
 | _,_=>False
theorem afv{p:Int->Int->Prop}[∀i j,Decidable (p i j)]{x y:V}{H:Hp}{Q:Bool->Hp->Prop} (h:match x,y with
 | .int i,.int j=>if p i j then Q true H else Q false H
 | _,_=>False):jV (λi j=>.bl (decide (p i j))) x y H λz H'=>∃k,z = .bl k/\Q k H':=by
 split at h
 ·refine⟨_,_,rfl,rfl,_,rfl,?_⟩;split at h
  ·rw[decide_eq_true (by assumption)];exact h
  ·rw[decide_eq_false (by assumption)];exact h
 ·exact h.elim
theorem eO{op:CmpOp}{a b:Expr}{pos:Pos}{ta tb:TE}{p:Int->Int->Prop}[∀i j,Decidable (p i j)](ho:cV X (compareOp op) (jV λi j=>.bl (decide (p i j))))(ha:PE X a ta)(hb:PE X b tb)(hm:behindInMarks op b=false):PT X (.Compare a [op] [b] pos) (TH p ta tb):=by
 intro pins s σ H Q I h;refine wpAny_isTrue_Compare1 (aP (ha pins s σ H _ I h) λv s1 ⟨x,H1,I1,r1,q1⟩=>aP (hb pins s1 σ H1 _ I1 q1) λu s2 ⟨y,H2,I2,r2,q2⟩ =>
  aP (ho pins s2 σ H2 x y v u _ I2 r1 r2 (afv q2)) λc s3 ⟨z,H3,I3,r3,k,e,q3⟩=>?_) hm
 subst e;cases r3;exact wpAny_truthy_bool ⟨H3,I3,q3⟩
theorem uw:cV X (compareOp .NotEq) (jV λi j=>.bl (decide (¬ i=j))):=λpins s σ H x y v u Q I rx ry ⟨i,j,e1,e2,q⟩=>by
 subst e1 e2;exact qJ pins s σ H _ _ v u Q I rx ry ⟨rfl,by simpa only[V.int.injEq,decide_not] using q⟩
noncomputable def TJ(c:TT)(t u:TS):TS:=λD σ H=>c σ H λb H1=>match b with
 | true=>t D σ H1
 | false=>u D σ H1
theorem kJ{c:Expr}{a b:List Stmt}{tc:TT}{t u:TS}{pos:Pos}(hc:PT X c tc)(ha:gT X a t)(hb:gT X b u):PS X (.If c a b pos) (TJ tc t u):=by
 intro pins s σ H D I h;refine wpAny_If (aP (hc pins s σ H _ I h) λd s1 ⟨H1,I1,q1⟩=>?_);cases d with
 | true=>exact ha pins s1 σ H1 D I1 q1
 | false=>exact hb pins s1 σ H1 D I1 q1
noncomputable def AZ(t u:TT):TT:=λσ H Q=>t σ H λc H1=>match c with
 | true=>Q true H1
 | false=>u σ H1 Q
theorem ofM{b:Bool}{x y:Prop}:(if b=true then x else y)=(match b with
 | true=>x
 | false=>y):=by cases b <;> simp
theorem afw{t u:TT}:vt t u=AZ t u:=by
 funext σ H Q
 unfold vt AZ;congr 1;funext c H1;exact ofM
theorem oJ{a:Expr}{bs:List Expr}{tA tB:TT}{pos:Pos}(h:PW X (.BoolOp .Or (a::bs) pos) (vt tA tB)):PW X (.BoolOp .Or (a::bs) pos) (AZ tA tB):=afw▸h
noncomputable def IL(K:PySem.W.Frag):List V->Hp->VK->Prop:=λxs H Q=>match xs with
 | [.ref p]=>∃ys,(aE K H p ys\/bD K H p ys)/\Q (.int ys.length) H
 | _=>False
theorem fK:iM X (.builtin "len") (IL X.K):=λpins s σ H xs us Q I r h=>by
 unfold IL at h;split at h
 ·obtain⟨ys,hq,q⟩:=h;exact tE pins s σ H _ us Q I r ⟨_,ys,rfl,hq,q⟩
 ·exact h.elim
noncomputable def ux(K:PySem.W.Frag):R2:=λx y H Q=>match x,y with
 | .ref p,.int i=>∃xs,aE K H p xs/\∃v,gg xs i=some v/\Q v H
 | _,_=>False
noncomputable def uy(K:PySem.W.Frag):R2:=λx y H Q=>match x,y with
 | .ref p,.int i=>∃xs,bD K H p xs/\∃v,gg xs i=some v/\Q v H
 | _,_=>False
theorem mO.mn{r r':R2}(h:mO X r)(m:∀x y H Q,r' x y H Q->r x y H Q):mO X r':=λvalue slice pins s σ H x y v u Q I rx ry q hs=>h value slice pins s σ H x y v u Q I rx ry (m _ _ _ _ q) hs
theorem ux.o{K:PySem.W.Frag}{x y:V}{H:Hp}{Q:VK}(h:ux K x y H Q):GD K x y H Q:=by
 unfold ux at h;split at h
 ·obtain⟨xs,hx,w,hw,q⟩:=h;exact⟨_,xs,_,w,rfl,rfl,hx,hw,q⟩
 ·exact h.elim
theorem uy.o{K:PySem.W.Frag}{x y:V}{H:Hp}{Q:VK}(h:uy K x y H Q):GF K x y H Q:=by
 unfold uy at h;split at h
 ·obtain⟨xs,hx,w,hw,q⟩:=h;exact⟨_,xs,_,w,rfl,rfl,hx,hw,q⟩
 ·exact h.elim
theorem fj:mO X (ux X.K):=qO.mn λ_ _ _ _ h=>h.o
theorem iH:mO X (uy X.K):=tD.mn λ_ _ _ _ h=>h.o
theorem xm{K:PySem.W.Frag}(h:X.K=K):mO X (ux K):=h▸fj
theorem TL{K:PySem.W.Frag}(h:X.K=K):mO X (uy K):=h▸iH
noncomputable def IM(K:PySem.W.Frag)(ta:TE)(f:Str):TE:=λσ H Q=>ta σ H λx H1=>match x with
 | .ref a=>rJ K (H1 a) f λv=>Q v H1
 | _=>False
noncomputable def TM(K:PySem.W.Frag)(ta tv:TE)(f:Str):TS:=λD σ H=>tv σ H λy H1=>ta σ H1 λx H2=>match x with
 | .ref a=>setM K (H2 a) f λC dx fs=>D.nx σ (upd H2 a (.ins C dx (gw f y fs)))
 | _=>False
theorem afx{K:PySem.W.Frag}{f:Str}{x:V}{H:Hp}{Q:VK} (h:match x with
 | .ref a=>rJ K (H a) f λv=>Q v H
 | _=>False):∃a C dx fs v,x = .ref a/\H a=some (.ins C dx fs)/\bL K C/\bO K C f/\fs.lookup f=some v/\Q v H:=by
 split at h
 ·obtain⟨C,dx,fs,v,e⟩:=h.o;exact⟨_,C,dx,fs,v,rfl,e⟩
 ·exact h.elim
theorem afy{K:PySem.W.Frag}{f:Str}{x:V}{H:Hp}{k:Addr->Addr->Addr->List (Str×V)->Prop} (h:match x with
 | .ref a=>setM K (H a) f (k a)
 | _=>False):∃a C dx fs,x = .ref a/\H a=some (.ins C dx fs)/\bL K C/\bO K C f/\fs.length<1000/\k a C dx fs:=by
 split at h
 ·obtain⟨C,dx,fs,e⟩:=h.o;exact⟨_,C,dx,fs,rfl,e⟩
 ·exact h.elim
variable{o e value:Expr}{f:Str}{pos pos':Pos}{ta tv:TE}
theorem cI(he:PE X e ta)(hb:attributeBase e f X.env (eval e X.env)=eval e X.env):PE X (.Attribute e f pos) (IM X.K ta f):=by
 intro pins s σ H Q I h;refine P1 hb (aP (he pins s σ H _ I h) λu s1 ⟨x,H1,I1,rx,q⟩=>?_);obtain⟨a,C,dx,fs,v,ex,ea,c,n,l,q1⟩:=afx q;subst ex;obtain rfl:u=Value.ref a:=rx;exact PZ I1 ea c n l λu' s2 I2 ru=>⟨v,H1,I2,ru,q1⟩
theorem lW{K:PySem.W.Frag}(h:X.K=K)(he:PE X e ta)(hb:attributeBase e f X.env (eval e X.env)=eval e X.env):PE X (.Attribute e f pos) (IM K ta f):=h▸cI he hb
theorem gq(ha:PE X o ta)(hv:PE X value tv)(hs:swapsWith value (some (.Attribute o f pos')) pos.line X.env=pure false):PS X (.Assign [.Attribute o f pos'] value pos) (TM X.K ta tv f):=by
 intro pins s σ H D I h;refine plainObj_wpAny_Assign_Attribute (aP (hv pins s σ H _ I h) λu s1 ⟨y,H1,I1,ry,q⟩=>aP (ha pins s1 σ H1 _ I1 q) λov s2 ⟨x,H2,I2,rx,q2⟩=>?_) hs;obtain⟨a,C,dx,fs,ex,ea,c,n,l,q3⟩:=afy (k:=λa C dx fs=>D.nx σ (upd H2 a (.ins C dx (gw f y fs)))) q2;subst ex;obtain rfl:ov=Value.ref a:=rx;exact P0 I2 ea c n l ry λs3 I3=>⟨σ,_,I3,q3⟩
end
theorem amL{α β:Type}{f:α->β}{a:α}{l:List α}:List.map f (a::l)=f a::List.map f l:=rfl
theorem amM{α β:Type}{f:α->β}:List.map f [] = []:=rfl
theorem amN{C:Addr}{z0 H Q}:R_ C z0 H Q=(∀x dx,H x=none->H dx=none->dx≠x->Q (.ref x) (upd (upd H dx (.own x)) x (.ins C dx []))):=rfl
theorem amO{pW:List Addr}{pX:Sp}{pY:List Addr}{pZ:Sp}{m:Str}{E:XK}{ta:TE}{t:TA}{σ H Q}:Sa pW pX pY pZ m E ta t σ H Q=(ta σ H λx H1=>∃C a dx fs,x = .ref a/\H1 a=some (.ins C dx fs)/\fs.lookup m=none/\
 ((C∈pW/\t σ H1 λvs H2=>pX (x::(vs++[])) H2 Q E)\/(C∈pY/\t σ H1 λvs H2=>pZ (x::(vs++[])) H2 Q E))):=rfl
theorem amP{P:Addr}{pos:Pos}{qual:Str}{te:TE}{fv:List Nat}{tl:TE}{σ H Q}:R9 P pos qual te fv tl σ H Q=(tl σ H λx H1=>∃(l:Addr) (as:List Addr) (kv:Nat->List Int),x = .ref l/\H1 l=some (.lst (as.map V.ref))/\0<as.length/\bR P pos qual H1/\
 (∀(j:Nat) (a:Addr) (H2:Hp),as[j]? = some a->SameBut P H1 H2->bR P pos qual H2->te (pO σ [.ref a] fv) H2 λv H'=>∃k,v = .ref k/\H' k=some (.tup ((kv j).map V.int))/\SameBut P H2 H'/\bR P pos qual H')/\
 ∀(i:Nat) (a:Addr) (H':Hp),as[i]? = some a->(∀j,j<as.length->¬ _H.lexLt (kv j) (kv i)=true)->SameBut P H1 H'->bR P pos qual H'->Q (.ref a) H'):=rfl
theorem amQ{i:Nat}{σ H Q}:xj i σ H Q=(match σ[i]? with
 | some (some v)=>Q v H
 | _=>False):=rfl
theorem amR{g:Int->Int->V}{x y H Q}:mI g x y H Q=(match x,y with
 | .int i,.int j=>Q (g i j) H
 | _,_=>False):=rfl
theorem amS{C:Int->Int->Prop}{g:Int->Int->V}{x y H Q}:rH C g x y H Q=(match x,y with
 | .int i,.int j=>C i j/\Q (g i j) H
 | _,_=>False):=rfl
theorem amT{p:Int->Int->Prop}[∀i j,Decidable (p i j)]{ta tb:TE}{σ H Q}:TH p ta tb σ H Q=(ta σ H λx H1=>tb σ H1 λy H2=>match x,y with
 | .int i,.int j=>if p i j then Q true H2 else Q false H2
 | _,_=>False):=rfl
theorem amU{c:TT}{t u:TS}{D σ H}:TJ c t u D σ H=(c σ H λb H1=>match b with
 | true=>t D σ H1
 | false=>u D σ H1):=rfl
theorem amV{t u:TT}{σ H Q}:AZ t u σ H Q=(t σ H λc H1=>match c with
 | true=>Q true H1
 | false=>u σ H1 Q):=rfl
theorem amW{K:PySem.W.Frag}{xs H Q}:IL K xs H Q=(match xs with
 | [.ref p]=>∃ys,(aE K H p ys\/bD K H p ys)/\Q (.int ys.length) H
 | _=>False):=rfl
theorem amX{K:PySem.W.Frag}{x y H Q}:ux K x y H Q=(match x,y with
 | .ref p,.int i=>∃xs,aE K H p xs/\∃v,gg xs i=some v/\Q v H
 | _,_=>False):=rfl
theorem amY{K:PySem.W.Frag}{x y H Q}:uy K x y H Q=(match x,y with
 | .ref p,.int i=>∃xs,bD K H p xs/\∃v,gg xs i=some v/\Q v H
 | _,_=>False):=rfl
theorem amZ{K:PySem.W.Frag}{ta:TE}{f:Str}{σ H Q}:IM K ta f σ H Q=(ta σ H λx H1=>match x with
 | .ref a=>rJ K (H1 a) f λv=>Q v H1
 | _=>False):=rfl
theorem am0{K:PySem.W.Frag}{ta tv:TE}{f:Str}{D σ H}:TM K ta tv f D σ H=(tv σ H λy H1=>ta σ H1 λx H2=>match x with
 | .ref a=>setM K (H2 a) f λC dx fs=>D.nx σ (upd H2 a (.ins C dx (gw f y fs)))
 | _=>False):=rfl
theorem am1{td ty tx:TE}{σ H Q}:GY td ty tx σ H Q=(td σ H λx H1=>∃a,x = .ref a/\tH H1 a/\ty σ H1 λy H2=>tx σ H2 λz H3=>∃o,fY H3 a y o/\Q (o.getD z) H3):=rfl
theorem am2{t:TS}{D σ H}:Ie t D σ H=(∀N:St->Hp->Prop,(∀dU H1,@Later ⟨D.nx⟩ dU H1->N dU H1)->t { D with nx:=N } σ H):=rfl
theorem am3{l:List (Addr×Sp)}{m:Str}{E:XK}{ta:TE}{t:TA}{σ H Q}:Iv l m E ta t σ H Q=(ta σ H λx H1=>∃C a dx fs sp,x = .ref a/\H1 a=some (.ins C dx fs)/\fs.lookup m=none/\(C,sp)∈l/\t σ H1 λvs H2=>sp (x::(vs++[])) H2 Q E):=rfl
theorem am4{sp:Sp}{gV:List V->List V->List V}{E:XK}{t tk:TA}{σ H Q}:Qc sp gV E t tk σ H Q=(t σ H λvs H1=>tk σ H1 λzs H2=>sp (gV vs zs) H2 Q E):=rfl
theorem am5{ta:TA}{σ H Q}:RJ ta σ H Q=(ta σ H λvs H1=>∃i j:Int,vs = [.int i,.int j]/\(-1000000000000<i/\i<1000000000000/\-1000000000000<j/\j<1000000000000)/\(j - i).toNat<=1000000/\
 ∀l,H1 l=none->Q (.ref l) (upd H1 l (.lst ((List.range (j - i).toNat).map λ(k:Nat)=>V.int (i+(k:Int)))))):=rfl
theorem am6{cs:List Addr}{m:Str}{sp:Sp}{cM:List V}{E:XK}{ta:TE}{t:TA}{σ H Q}:Hq cs m sp cM E ta t σ H Q=(ta σ H λx H1=>∃C a dx fs,x = .ref a/\H1 a=some (.ins C dx fs)/\C∈cs/\fs.lookup m=none/\t σ H1 λvs H2=>sp (x::(vs++cM)) H2 Q E):=rfl
theorem am7{K:PySem.W.Frag}{neg:Bool}{x y H Q}:GJ K neg x y H Q=(∃p xs,y = .ref p/\(aE K H p xs\/bD K H p xs)/\jW x=true/\xs.all jW=true/\Q (.bl (if neg then !pI x xs else pI x xs)) H):=rfl
theorem am8{r r':R2}{ta tb tc:TE}{σ H Q}:PM r r' ta tb tc σ H Q=(ta σ H λx H1=>tb σ H1 λy H2=>r x y H2 λz H3=>∃k,z = .bl k/\
 (if k=true then tc σ H3 λw' H4=>r' y w' H4 Q else Q (.bl false) H3)):=rfl
theorem am9{t:TS}{D σ H}:R1 t D σ H=(∃M:St->Hp->Prop,t { D with nx:=M } σ H/\∀dU H1,M dU H1->@Later ⟨D.nx⟩ dU H1):=rfl
theorem am_{r:V->Option Int->Option Int->Hp->VK->Prop}{te:TE}{tl th:TO}{σ H Q}:Qq r te tl th σ H Q=(te σ H λx H1=>tl σ H1 λl H2=>th σ H2 λu H3=>r x l u H3 Q):=rfl
theorem ana{t:TE}{σ H Q}:Qn t σ H Q=(t σ H λx H1=>∃i,x = .int i/\Q (some i) H1):=rfl
theorem anb{z0 H Q}:Qm z0 H Q=(Q none H):=rfl
theorem anc{K:PySem.W.Frag}{x lo hi H Q}:Qw K x lo hi H Q=(∃a xs,x = .ref a/\aE K H a xs/\∀p,H p=none->Q (.ref p) (upd H p (.lst (kq xs lo hi)))):=rfl
theorem ane{o i v H Q}:Qv o i v H Q=(∃p xs k j,o = .ref p/\i = .int k/\H p=some (.lst xs)/\jD xs.length k=some j/\Q (upd H p (.lst (xs.set j v)))):=rfl
theorem anf{z0 H Q}:QX z0 H Q=(∀p,H p=none->Q (.ref p) (upd H p (.dT []))):=rfl
theorem ang{z0 H Q}:QW z0 H Q=(∀p,H p=none->Q (.ref p) (upd H p (.dK []))):=rfl
theorem anh{td ty tv:TE}{D σ H}:QV td ty tv D σ H=(tv σ H λv H1=>td σ H1 λx H2=>ty σ H2 λy H3=>∃a H4,x = .ref a/\lD H3 a y v H4/\D.nx σ H4):=rfl
theorem ani{td ty:TE}{σ H Q}:QT td ty σ H Q=(td σ H λx H1=>ty σ H1 λy H2=>∃a v,x = .ref a/\fY H2 a y (some v)/\Q v H2):=rfl
theorem anj{ty td:TE}{σ H Q}:QU ty td σ H Q=(ty σ H λy H1=>td σ H1 λx H2=>∃a o,x = .ref a/\fY H2 a y o/\Q (.bl o.isSome) H2):=rfl
theorem ank{td ty:TE}{σ H Q}:QY td ty σ H Q=(td σ H λx H1=>∃a,x = .ref a/\tH H1 a/\ty σ H1 λy H2=>∃o,fY H2 a y o/\Q (o.getD .aV) H2):=rfl
theorem anl{z0 z1 z2}:Pj z0 z1 z2=(False):=rfl
theorem anm{z0 H Q}:Q9 z0 H Q=(Q true H):=rfl
theorem ano{t:TT}{ta tb:TE}{σ H Q}:Pc t ta tb σ H Q=(t σ H λc H1=>if c=true then ta σ H1 Q else tb σ H1 Q):=rfl
theorem anp{t u:TS}{D σ H}:F_ t u D σ H=(t { D with nx:=u D } σ H):=rfl
theorem anq{te:TE}{g:TG}{D σ H}:vv te g D σ H=(te σ H λx H1=>g x σ H1 D.nx):=rfl
theorem anr{i:Nat}{v σ H Q}:nK i v σ H Q=(Q (σ.set i (some v)) H):=rfl
theorem ans{vs σ H Q}:Ga vs σ H Q=(vs = []/\Q σ H):=rfl
theorem ant{t:TG}{u:mG}{vs σ H Q}:zB t u vs σ H Q=(∃v r,vs=v::r/\t v σ H λbG H'=>u r bG H' Q):=rfl
theorem anu{K:PySem.W.Frag}{n:Nat}{t:mG}{v σ H Q}:zC K n t v σ H Q=(∃a xs,v = .ref a/\bD K H a xs/\xs.length=n/\t xs σ H Q):=rfl
theorem anv{to ti:TE}{t:zA}{v σ H Q}:Po to ti t v σ H Q=(to σ H λo H1=>ti σ H1 λi H2=>t o i v H2 λH3=>Q σ H3):=rfl
theorem anw{i:Nat}{σ H Q}:FU i σ H Q=(∃v,σ[i]? = some (some v)/\Q v H):=rfl
theorem anx{v:V}{z0 H Q}:tC v z0 H Q=(Q v H):=rfl
theorem anz{r:R2}{ta tb:TE}{σ H Q}:vI r ta tb σ H Q=(ta σ H λx H1=>tb σ H1 λy H2=>r x y H2 Q):=rfl
theorem anA{g:Int->Int->V}{x y H Q}:jV g x y H Q=(∃i j,x = .int i/\y = .int j/\Q (g i j) H):=rfl
theorem anB{C:Int->Int->Prop}{g:Int->Int->V}{x y H Q}:rI C g x y H Q=(∃i j,x = .int i/\y = .int j/\C i j/\Q (g i j) H):=rfl
theorem anC{r:V->Hp->VK->Prop}{ta:TE}{σ H Q}:Pw r ta σ H Q=(ta σ H λx H1=>r x H1 Q):=rfl
theorem anD{g:Int->V}{x H Q}:rU g x H Q=(∃i,x = .int i/\Q (g i) H):=rfl
theorem anE{t:TE}{σ H Q}:Gm t σ H Q=(t σ H λx H'=>∃k,x = .bl k/\Q k H'):=rfl
theorem anF{t:TE}{σ H Q}:tB t σ H Q=(t σ H λx H1=>∃c,x = .bl c/\Q c H1):=rfl
theorem anG{c:TT}{t u:TS}{D σ H}:Ph c t u D σ H=(c σ H λb H1=>if b=true then t D σ H1 else u D σ H1):=rfl
theorem anH{te:TE}{D σ H}:Pg te D σ H=(te σ H D.rt):=rfl
theorem anI{te:TE}{D σ H}:Pf te D σ H=(te σ H λ_ H1=>D.nx σ H1):=rfl
theorem anJ{r:List V->Hp->VK->Prop}{t:TA}{σ H Q}:Gx r t σ H Q=(t σ H λvs H1=>r vs H1 Q):=rfl
theorem anK{ta:TE}{tr:TA}{σ H Q}:Gs ta tr σ H Q=(ta σ H λx H1=>tr σ H1 λxs H2=>Q (x::xs) H2):=rfl
theorem anL{z0 H Q}:sZ z0 H Q=(Q [] H):=rfl
theorem anM{sp:Sp}{cM:List V}{E:XK}{t:TA}{σ H Q}:P8 sp cM E t σ H Q=(t σ H λvs H1=>sp (vs++cM) H1 Q E):=rfl
theorem anN{D σ H}:Pe D σ H=(D.nx σ H):=rfl
theorem anO{t u:TT}{σ H Q}:O9 t u σ H Q=(t σ H λc H1=>if c=true then u σ H1 Q else Q false H1):=rfl
theorem anP{t u:TT}{σ H Q}:vt t u σ H Q=(t σ H λc H1=>if c=true then Q true H1 else u σ H1 Q):=rfl
theorem anQ{t:TT}{σ H Q}:O_ t σ H Q=(t σ H λc H1=>Q (!c) H1):=rfl
theorem anR{ta tb:TE}{σ H Q}:Pa ta tb σ H Q=(ta σ H λx H1=>∃c,x = .bl c/\if c=true then tb σ H1 Q else Q (.bl false) H1):=rfl
theorem anS{ta:TE}{σ H Q}:Pb ta σ H Q=(ta σ H λx H1=>∃c,x = .bl c/\Q (.bl (!c)) H1):=rfl
theorem anT{t:TA}{σ H Q}:P7 t σ H Q=(t σ H λxs H1=>xs.length<=sizeLine/\∀p,H1 p=none->Q (.ref p) (upd H1 p (.lst xs))):=rfl
theorem anU{t:TA}{σ H Q}:P6 t σ H Q=(t σ H λxs H1=>xs.length<=sizeLine/\∀p,H1 p=none->Q (.ref p) (upd H1 p (.tup xs))):=rfl
theorem anV{K:PySem.W.Frag}{T:String}{r:V->List V->Hp->VK->Prop}{to:TE}{t:TA}{σ H Q}:QB K T r to t σ H Q=(to σ H λx H1=>zO K T x H1/\t σ H1 λxs H2=>r x xs H2 Q):=rfl
theorem anW{x vs H Q}:QF x vs H Q=(∃l xs y,x = .ref l/\vs = [y]/\H l=some (.lst xs)/\xs.length<sizeLine/\Q .aV (upd H l (.lst (xs++[y])))):=rfl
theorem anY{x vs H Q}:QG x vs H Q=(∃l b xs zs,x = .ref l/\vs = [.ref b]/\H l=some (.lst xs)/\H b=some (.lst zs)/\xs.length+zs.length<=sizeLine/\Q .aV (upd H l (.lst (xs++zs)))):=rfl
theorem anZ{x y H Q}:QH x y H Q=(∃l b xs zs,x = .ref l/\y = .ref b/\H l=some (.lst xs)/\H b=some (.lst zs)/\xs.length+zs.length<=sizeLine/\∀p,H p=none->Q (.ref p) (upd H p (.lst (xs++zs)))):=rfl
theorem an0{x y H Q}:QJ x y H Q=(∃l k xs,x = .ref l/\y = .int k/\H l=some (.lst xs)/\-(2 ^ 63)<=k/\k<2 ^ 63/\xs.length*k.toNat<=sizeLine/\
 ∀p,H p=none->Q (.ref p) (upd H p (.lst (List.replicate k.toNat xs).flatten))):=rfl
theorem an1{K:PySem.W.Frag}{x y H Q}:GD K x y H Q=(∃p xs i v,x = .ref p/\y = .int i/\aE K H p xs/\gg xs i=some v/\Q v H):=rfl
theorem an2{K:PySem.W.Frag}{x y H Q}:GF K x y H Q=(∃p xs i v,x = .ref p/\y = .int i/\bD K H p xs/\gg xs i=some v/\Q v H):=rfl
theorem an3{x y H Q}:Pz x y H Q=(ki x y=true/\Q (.bl (decide (x=y))) H):=rfl
theorem an4{x y H Q}:PB x y H Q=(ki x y=true/\Q (.bl (!decide (x=y))) H):=rfl
theorem an6{K:PySem.W.Frag}{ta:TE}{f:Str}{σ H Q}:Gr K ta f σ H Q=(ta σ H λx H1=>∃a C dx fs v,x = .ref a/\H1 a=some (.ins C dx fs)/\bL K C/\bO K C f/\fs.lookup f=some v/\Q v H1):=rfl
theorem an7{K:PySem.W.Frag}{ta tv:TE}{f:Str}{D σ H}:P4 K ta tv f D σ H=(tv σ H λy H1=>ta σ H1 λx H2=>∃a C dx fs,x = .ref a/\H2 a=some (.ins C dx fs)/\bL K C/\bO K C f/\fs.length<1000/\
 D.nx σ (upd H2 a (.ins C dx (gw f y fs)))):=rfl
theorem an8{C:Addr}{m:Str}{sp:Sp}{cM:List V}{E:XK}{ta:TE}{t:TA}{σ H Q}:Gv C m sp cM E ta t σ H Q=(ta σ H λx H1=>∃a dx fs,x = .ref a/\H1 a=some (.ins C dx fs)/\fs.lookup m=none/\
 t σ H1 λvs H2=>sp (x::(vs++cM)) H2 Q E):=rfl
theorem an_{C:Addr}{sp:Sp}{cM:List V}{E:XK}{t:TA}{σ H Q}:P9 C sp cM E t σ H Q=(t σ H λvs H1=>∀x dx,H1 x=none->H1 dx=none->dx≠x->
 sp (.ref x::(vs++cM)) (upd (upd H1 dx (.own x)) x (.ins C dx [])) (λv H2=>v = .aV/\Q (.ref x) H2) E):=rfl
end _L
namespace _W
open PySem _L PyProof.Rows
theorem sc1{i j:Int}:ki (.int i) (.int j)=true:=rfl
theorem sc2{i j:Str}:ki (.str i) (.str j)=true:=rfl
theorem sc3{i j:Bool}:ki (.bl i) (.bl j)=true:=rfl
theorem sc4: ki (.aV) (.aV)=true:=rfl
theorem sc5{i:Int}:ki (.aV) (.int i)=true:=rfl
theorem sc6{i:Int}:ki (.int i) (.aV)=true:=rfl
theorem sc7{i:Str}:ki (.aV) (.str i)=true:=rfl
theorem sc8{i:Str}:ki (.str i) (.aV)=true:=rfl
local macro_rules | `(tactic| wp_walk using $ts,*)=>do
 let a ← ("^amN ^amO ^amP pO ^amQ ^amR ^amS ^amT ^amU ^amV ^amW ^amX ^amY ^amZ amJ ^am0 amK ^am1 ^am2 ^am3 ^am4 S5 ^am5 fZ ^am6 ^am7 ^am8 ^am9 amH ^am_ ^ana ^anb ^anc ^ane and_assoc aaJ HO.ins.injEq Hh gi gw String.reduceBEq List.lookup_cons List.lookup_nil aH HO.lst.injEq HO.dT.injEq HO.tup.injEq String.reduceEq false_and or_false false_or pK ^anf ^ang ^anh ^ani ^anj ^ank Bool.not_eq_true' decide_eq_false_iff_not Classical.not_not ^anl if_false_left if_false_right ^anm ^ano jY List.length_map List.getElem?_nil ^anp ^anq ^anr ^ans ^ant ^anu ^anv ^anw ^anx ^anz ^anA ^anB ^anC ^anD ^anE ^anF ^anG ^anH ^anI ^anJ ^anK ^anL ^anM ^anN ^anO ^anP ^anQ ^anR ^anS ^anT ^anU ^anV zO ^anW ^anY ^anZ ^an0 ^an1 ^an2 ^an3 ^an4 sc1 sc2 sc3 sc4 sc5 sc6 sc7 sc8 zH Py aa3 ^an6 ^an7 ^an8 ^an_ _L.start amA amB amC amL amM List.cons_append List.nil_append List.length_cons List.length_nil List.getElem?_cons_zero List.getElem?_cons_succ Option.some.injEq exists_eq_left exists_eq_left' exists_and_left exists_eq V.int.injEq V.ref.injEq V.bl.injEq V.ty.injEq V.str.injEq List.cons.injEq and_true true_and List.set_cons_zero List.set_cons_succ decide_eq_true_eq Nat.reduceSub Nat.reduceAdd List.replicate_succ List.replicate_zero List.replicate Int.reduceLT Int.reduceLE Int.reducePow Int.reduceToNat Int.reduceNeg Nat.reduceLT Nat.reduceLeDiff Nat.reducePow Int.reduceMul Int.reduceAdd Int.reduceSub and_self or_true true_or gt_iff_lt ge_iff_le if_true if_false Bool.false_eq_true reduceIte Nat.sub_self Nat.sub_zero".splitOn " ").toArray.mapM λx=>if x.startsWith "^" then `(Lean.Parser.Tactic.simpLemma| ↓ $(Lean.mkIdent (x.drop 1).toString.toName):ident) else `(Lean.Parser.Tactic.simpLemma| $(Lean.mkIdent x.toName):ident)
 let d:Array (Lean.TSyntax `term):=("T.kN T.nq T.qk T.kO T.oO T.oU T.Eo T.L0 T.yF T.yG T.yH T.yI T.yz T.LN T.LO T.LQ T.qj T.LR T.yC T.yD T.LS T.D8 T.uK T.D9 T.D_ T.Ea T.Eb T.Ec T.Ef T.Eg T.Eh T.Ei T.Ej T.oR T.Ek T.El T.LU T.LV T.Em T.yE T.En T.LW T.uL T.LX T.LY T.LZ".splitOn " ").toArray.map λx=>⟨Lean.mkIdent x.toName⟩
 let b ← (ts.getElems.flatMap λt=>if t.raw.getId == `T then d else #[t]).mapM λt => `(Lean.Parser.Tactic.simpLemma| $t:term)
 let c:=a++b
 `(tactic| simp (maxSteps:=4000000) only[$c,*])
local macro_rules | `(tactic| walk_at "rdm") => `(tactic| wp_walk using and_self)
seal gT PS PE PT PW PA PG sS PI PK PC PO tL
noncomputable def top(i:Nat):Stmt:=PySem.Challenge.pw_armswing_k93_whole_waiting_settled.main.body.getD i (.Pass ⟨0,0,0,0⟩)
noncomputable abbrev IP:Stmt:=inClass (top 14) 0
noncomputable abbrev IQ:Stmt:=top 15
noncomputable abbrev IS:Stmt:=top 16
noncomputable abbrev IT:Stmt:=top 17
noncomputable abbrev IU:Stmt:=top 18
noncomputable abbrev iu:Stmt:=top 19
noncomputable abbrev IV:Stmt:=top 20
noncomputable abbrev IW:Stmt:=top 22
noncomputable abbrev IX:Stmt:=top 23
noncomputable abbrev IY:Stmt:=top 25
noncomputable abbrev IZ:Stmt:=top 26
noncomputable abbrev eS:Stmt:=top 27
noncomputable abbrev I_:Stmt:=top 28
noncomputable abbrev fU:Stmt:=top 29
noncomputable abbrev fV:Stmt:=top 30
noncomputable abbrev Ja:Stmt:=inClass (top 31) 0
noncomputable abbrev Jb:Stmt:=inClass (top 31) 1
noncomputable abbrev Jc:Stmt:=inClass (top 33) 0
noncomputable abbrev Jd:Stmt:=inClass (top 34) 0
noncomputable abbrev Je:Stmt:=inClass (top 35) 0
noncomputable abbrev Jf:Stmt:=top 40
noncomputable abbrev Jg:Stmt:=top 41
noncomputable abbrev Jh:Stmt:=top 42
noncomputable abbrev Ji:Stmt:=top 43
noncomputable abbrev Jj:Stmt:=top 44
noncomputable abbrev Jk:Stmt:=top 46
noncomputable abbrev Jl:Stmt:=top 47
noncomputable abbrev kK:Stmt:=inClass (top 48) 0
noncomputable abbrev Jm:Stmt:=inClass (top 48) 1
noncomputable abbrev Jo:Stmt:=inClass (top 48) 2
noncomputable abbrev Jp:Stmt:=inClass (top 48) 3
noncomputable abbrev Jq:Stmt:=inClass (top 48) 4
noncomputable abbrev Jr:Stmt:=inClass (top 49) 0
noncomputable abbrev Js:Stmt:=top 57
noncomputable abbrev Jt:Stmt:=top 58
noncomputable abbrev Ju:Stmt:=top 59
noncomputable abbrev Jv:Stmt:=top 60
noncomputable abbrev Jw:Stmt:=top 61
noncomputable abbrev Jx:Stmt:=top 62
noncomputable abbrev Jy:Stmt:=top 63
noncomputable abbrev Jz:Stmt:=inClass (top 64) 0
noncomputable abbrev JA:Stmt:=inClass (top 64) 1
noncomputable abbrev JC:Stmt:=inClass (top 64) 2
noncomputable abbrev JD:Stmt:=inClass (top 64) 3
noncomputable abbrev JG:Stmt:=inClass (top 64) 4
noncomputable abbrev JH:Stmt:=inClass (top 64) 5
noncomputable abbrev JI:Stmt:=inClass (top 64) 6
noncomputable abbrev JJ:Stmt:=inClass (top 64) 7
noncomputable abbrev JK:Stmt:=inClass (top 64) 8
noncomputable abbrev JM:Stmt:=inClass (top 64) 9
noncomputable abbrev JO:Stmt:=inClass (top 64) 10
noncomputable abbrev JP:Stmt:=top 66
noncomputable abbrev JQ:Stmt:=top 67
noncomputable abbrev JR:Stmt:=inClass (top 68) 0
noncomputable abbrev JS:Stmt:=top 69
noncomputable abbrev JT:Stmt:=top 70
noncomputable abbrev JU:Stmt:=top 71
noncomputable abbrev JV:Stmt:=top 72
noncomputable abbrev JX:Stmt:=inClass (top 74) 0
noncomputable abbrev JY:Stmt:=inClass (top 74) 1
noncomputable abbrev JZ:Stmt:=inClass (top 74) 2
noncomputable abbrev J1:Stmt:=inClass (top 74) 3
noncomputable abbrev J4:Stmt:=inClass (top 74) 4
noncomputable abbrev J5:Stmt:=inClass (top 76) 0
noncomputable abbrev J6:Stmt:=top 77
noncomputable abbrev J7:Stmt:=top 78
noncomputable abbrev J8:Stmt:=top 79
noncomputable abbrev J9:Stmt:=top 80
noncomputable abbrev kL:Stmt:=top 81
noncomputable abbrev J_:Stmt:=top 83
noncomputable abbrev Ka:Stmt:=top 84
noncomputable abbrev Kc:Stmt:=top 85
noncomputable abbrev Kd:Stmt:=top 86
noncomputable abbrev Ke:Stmt:=top 87
noncomputable abbrev Kf:Stmt:=top 88
noncomputable abbrev Kg:Stmt:=top 89
noncomputable abbrev Kh:Stmt:=top 90
noncomputable abbrev Kl:Stmt:=top 91
noncomputable abbrev Km:Stmt:=top 92
noncomputable abbrev Kn:Stmt:=top 93
noncomputable abbrev Ko:Stmt:=top 94
noncomputable abbrev Kp:Stmt:=top 95
noncomputable abbrev Kq:Stmt:=top 96
noncomputable abbrev kM:Stmt:=top 97
theorem afz:bz ["self", "kind", "first", "many", "marks", "at", "asker", "latest", "behind", "early"] ["self", "kind", "first", "many", "marks", "at", "asker", "latest", "behind", "early"] (aN IP):=bE
theorem afA:bz ["number", "least", "greatest", "words"] ["number", "least", "greatest", "words"] (aN IQ):=bE
theorem A0:bz ["behind", "ahead", "number"] ["behind"] (aN IS):=bE
theorem afB:bz ["first", "many", "at", "asker", "latest", "behind"] ["first", "many", "at", "asker", "latest", "behind"] (aN IT):=bE
theorem afC:bz ["behind"] ["behind"] (aN IU):=bE
theorem TN:bz ["first", "many", "at", "asker", "latest", "behind", "others"] ["first", "many", "at", "asker", "latest", "behind"] (aN iu):=bE
theorem afD:bz ["one", "other"] ["one", "other"] (aN IV):=bE
theorem afE:bz ["plate", "ring", "place", "beat"] ["plate", "ring", "place", "beat"] (aN IW):=bE
theorem rL:bz ["plate", "ring", "beat", "cells", "rows", "other", "place", "begun"] ["plate", "ring", "beat", "cells"] (aN IX):=bE
theorem afF:bz ["due"] ["due"] (aN IY):=bE
theorem afG:bz ["dues"] ["dues"] (aN IZ):=bE
theorem afH:bz ["ring", "dues"] ["ring", "dues"] (aN eS):=bE
theorem afI:bz ["plate", "ring", "beat", "due"] ["plate", "ring", "beat", "due"] (aN I_):=bE
theorem afJ:bz ["plate", "ring", "beat", "dues"] ["plate", "ring", "beat", "dues"] (aN fU):=bE
theorem TQ:bz ["dues", "bound"] ["dues"] (aN fV):=bE
theorem afK:bz ["self", "plate", "ring", "beat", "dues"] ["self", "plate", "ring", "beat", "dues"] (aN Ja):=bE
theorem afL:bz ["self"] ["self"] (aN Jb):=bE
theorem afM:bz ["self", "plate", "ring", "beat", "dues"] ["self", "plate", "ring", "beat", "dues"] (aN Jc):=bE
theorem afN:bz ["self", "plate", "ring", "beat", "dues"] ["self", "plate", "ring", "beat", "dues"] (aN Jd):=bE
theorem afO:bz ["self", "plate", "ring", "beat", "dues"] ["self", "plate", "ring", "beat", "dues"] (aN Je):=bE
theorem afP:bz ["plate"] ["plate"] (aN Jf):=bE
theorem afQ:bz ["count", "at", "asker"] ["count", "at", "asker"] (aN Jg):=bE
theorem afR:bz ["plate", "most"] ["plate", "most"] (aN Jh):=bE
theorem xr:bz ["plate", "cells", "reads", "place", "at"] ["plate"] (aN Ji):=bE
theorem TR:bz ["plate", "word", "most", "bound"] ["plate", "word", "most"] (aN Jj):=bE
theorem afS:bz ["inward", "ring", "dues"] ["inward", "ring", "dues"] (aN Jk):=bE
theorem Kr:bz ["dues", "batch", "due"] ["dues"] (aN Jl):=bE
theorem afT:bz ["self", "calm"] ["self", "calm"] (aN kK):=bE
theorem afU:bz ["self"] ["self"] (aN Jm):=bE
theorem afV:bz ["self", "plate", "ring", "beat", "dues"] ["self", "plate", "ring", "beat", "dues"] (aN Jo):=bE
theorem afW:bz ["self", "dues"] ["self", "dues"] (aN Jp):=bE
theorem afX:bz ["self", "ring", "dues"] ["self", "ring", "dues"] (aN Jq):=bE
theorem TU:bz ["self", "ring", "dues", "ahead"] ["self", "ring", "dues"] (aN Jr):=bE
theorem A1:bz ["zones", "rings", "cells", "in_all"] ["zones"] (aN Js):=bE
theorem Ks:bz ["zones", "lap", "skew", "rings", "cells"] ["zones", "lap", "skew"] (aN Jt):=bE
theorem TV:bz ["swing", "rings", "far"] ["swing", "rings"] (aN Ju):=bE
theorem Ku:bz ["swing", "far", "part"] ["swing"] (aN Jv):=bE
theorem A2:bz ["zones", "counts", "rings", "cells"] ["zones"] (aN Jw):=bE
theorem xu:bz ["ring_cells", "spares", "cells", "ring", "count", "place"] ["ring_cells", "spares"] (aN Jx):=bE
theorem A3:bz ["number_cells", "numbers", "number", "cell"] ["number_cells"] (aN Jy):=bE
theorem afY:bz ["self", "zones", "lap", "skew", "swing"] ["self", "zones", "lap", "skew", "swing"] (aN Jz):=bE
theorem afZ:bz ["self"] ["self"] (aN JA):=bE
theorem af0:bz ["self"] ["self"] (aN JC):=bE
theorem af1:bz ["self", "ring"] ["self", "ring"] (aN JD):=bE
theorem af2:bz ["self", "ring"] ["self", "ring"] (aN JG):=bE
theorem af3:bz ["self"] ["self"] (aN JH):=bE
theorem af4:bz ["self", "ring", "place"] ["self", "ring", "place"] (aN JI):=bE
theorem af5:bz ["self", "ring", "other"] ["self", "ring", "other"] (aN JJ):=bE
theorem af6:bz ["self", "ring", "place"] ["self", "ring", "place"] (aN JK):=bE
theorem af7:bz ["self", "number"] ["self", "number"] (aN JM):=bE
theorem af8:bz ["self", "ring", "place"] ["self", "ring", "place"] (aN JO):=bE
theorem af9:bz ["plate", "ask"] ["plate", "ask"] (aN JP):=bE
theorem af_:bz ["plate", "number", "ask", "e"] ["plate", "number", "ask"] (aN JQ):=bE
theorem aga:bz ["self", "plate", "number", "ask"] ["self", "plate", "number", "ask"] (aN JR):=bE
theorem agb:bz ["asks", "number"] ["asks", "number"] (aN JS):=bE
theorem TX:bz ["asks", "number", "other"] ["asks", "number"] (aN JT):=bE
theorem TY:bz ["asks", "number", "ask"] ["asks", "number"] (aN JU):=bE
theorem A4:bz ["plate", "asks", "kept", "number", "ask"] ["plate", "asks"] (aN JV):=bE
theorem Kv:bz ["self", "plate", "asks", "ring", "number", "ask"] ["self", "plate", "asks", "ring"] (aN JX):=bE
theorem TZ:bz ["self", "comings"] ["self"] (aN JY):=bE
theorem agc:bz ["self", "number"] ["self", "number"] (aN JZ):=bE
theorem T3:bz ["self", "come"] ["self"] (aN J1):=bE
theorem Kw:bz ["self", "number", "due", "rows"] ["self", "number"] (aN J4):=bE
theorem agd:bz ["self", "rows", "taken", "told", "answers", "end"] ["self", "rows", "taken", "told", "answers", "end"] (aN J5):=bE
theorem rM:bz ["rows", "ends", "number", "ring", "place", "begun", "ended"] ["rows"] (aN J6):=bE
theorem age:bz ["ask"] ["ask"] (aN J7):=bE
theorem xw:bz ["asks", "picks", "answers", "marks", "number", "ask"] ["asks", "picks"] (aN J8):=bE
theorem uz:bz ["asks", "ends", "shelf", "told", "early_ends", "shelf_ends", "number", "ask"] ["asks", "ends", "shelf"] (aN J9):=bE
theorem oK:bz ["plate", "asks", "rule", "ring", "shelf", "course", "rows", "picks", "taken", "dues", "number", "ends", "end"] ["plate", "asks", "rule", "ring", "shelf"] (aN kL):=bE
theorem agf:bz ["_law_script", "_law_k"] ["_law_script", "_law_k"] (aN J_):=bE
theorem T4:bz ["_law_cell", "_law_k", "_law_by"] ["_law_cell", "_law_k"] (aN Ka):=bE
theorem xy:bz ["_law_a", "_law_b", "_law_many", "_law_zones_here", "_law_k"] ["_law_a", "_law_b"] (aN Kc):=bE
theorem A5:bz ["_law_zones_here", "_law_counts_here", "_law_many", "_law_cells"] ["_law_zones_here"] (aN Kd):=bE
theorem rN:bz ["_law_zones_here", "_law_cell", "_law_product", "_law_many", "_law_cells", "_law_most"] ["_law_zones_here", "_law_cell"] (aN Ke):=bE
theorem rO:bz ["_law_many", "_law_cell", "_law_step", "_law_swing_here", "_law_k", "_law_least"] ["_law_many", "_law_cell"] (aN Kf):=bE
theorem agg:bz ["_law_word"] ["_law_word"] (aN Kg):=bE
theorem Ky:bz ["_law_taken", "_law_found", "_law_k"] ["_law_taken"] (aN Kh):=bE
theorem xA:bz ["_law_asks", "_law_taken", "_law_most", "_law_beat", "_law_many"] ["_law_asks", "_law_taken"] (aN Kl):=bE
theorem agh:bz ["_law_asks", "_law_least", "_law_most"] ["_law_asks", "_law_least", "_law_most"] (aN Km):=bE
theorem oM:bz ["_law_plate", "_law_cells", "_law_asks", "_law_at_here", "_law_cell", "_law_first", "_law_many", "_law_latest"] ["_law_plate", "_law_cells"] (aN Kn):=bE
theorem uA:bz ["_law_plate", "_law_word", "_law_most", "_law_found", "_law_cells", "_law_taken", "_law_asks", "_law_waiting_here"] ["_law_plate", "_law_word", "_law_most", "_law_found", "_law_cells"] (aN Ko):=bE
theorem Kz:bz ["_law_ask", "_law_beats", "_law_latest"] ["_law_ask", "_law_beats"] (aN Kp):=bE
theorem xB:bz ["_law_plate", "_law_word", "_law_most", "_law_found", "_law_times", "_law_asks", "_law_turn", "_law_k", "_law_taken"] ["_law_plate", "_law_word", "_law_most", "_law_found", "_law_times"] (aN Kq):=bE
theorem nh:bz ["_law_script", "_law_zones_here", "_law_lap_here", "_law_skew", "_law_plate", "_law_words", "_law_word", "_law_most", "_law_found"] ["_law_script"] (aN kM):=bE
set_option genInjectivity false
set_option genSizeOf false
structure fW where
 A6:Addr
 A7:FuncData
 A8:Addr
 A9:FuncData
 A_:Addr
 Ba:FuncData
 Bb:Addr
 Bc:FuncData
 Be:Addr
 Bf:FuncData
 Bg:Addr
 rP:FuncData
 Bh:Tok
 Bj:Addr
 Bk:FuncData
 Bl:Addr
 Bm:FuncData
 Bo:Addr
 Bp:FuncData
 Bq:Addr
 Br:FuncData
 Bs:Addr
 Bu:FuncData
 xC:Addr
 uB:FuncData
 Bv:Addr
 Bw:FuncData
 xE:Addr
 uC:FuncData
 xF:Addr
 uD:FuncData
 uE:Addr
 Bx:FuncData
 oN:Addr
 By:FuncData
 xG:Addr
 BA:FuncData
 xH:Addr
 BB:FuncData
 xJ:Addr
 BC:FuncData
 BD:Addr
 BE:FuncData
 BF:Addr
 BG:FuncData
 BH:Addr
 BI:FuncData
 BJ:Addr
 BK:FuncData
 BL:Addr
 BN:FuncData
 BO:Addr
 BP:FuncData
 BQ:Addr
 BR:FuncData
 xK:Addr
 BS:FuncData
 uF:Addr
 BU:FuncData
 uG:Addr
 BV:FuncData
 uH:Addr
 BW:FuncData
 xM:Addr
 BX:FuncData
 xN:Addr
 BY:FuncData
 BZ:Addr
 B0:FuncData
 B3:Addr
 B4:FuncData
 B5:Addr
 B6:FuncData
 B7:Addr
 B8:FuncData
 B9:Addr
 B_:FuncData
 Ca:Addr
 Cb:FuncData
 Cc:Addr
 Cd:FuncData
 Ce:Addr
 Cf:FuncData
 xO:Addr
 Cg:FuncData
 xP:Addr
 Ci:FuncData
 xQ:Addr
 Cj:FuncData
 xR:Addr
 Ck:FuncData
 xS:Addr
 Cm:FuncData
 xT:Addr
 Cn:FuncData
 xU:Addr
 Co:FuncData
 xV:Addr
 Cp:FuncData
 xW:Addr
 Cq:FuncData
 xX:Addr
 Cr:FuncData
 Cs:Addr
 Ct:FuncData
 Cu:Addr
 Cv:FuncData
 Cw:Addr
 Cy:FuncData
 Cz:Addr
 CB:FuncData
 CF:Addr
 CG:FuncData
 CH:Addr
 CI:FuncData
 CJ:Addr
 CK:FuncData
 CM:Addr
 CN:FuncData
 CO:Addr
 CQ:FuncData
 CT:Addr
 CU:FuncData
 CV:Addr
 CW:FuncData
 CY:Addr
 CZ:FuncData
 C1:Addr
 C2:FuncData
 C3:Addr
 C4:FuncData
 C5:Addr
 C6:FuncData
 C7:Addr
 C8:FuncData
 C9:Addr
 C_:FuncData
 Dc:Addr
 De:FuncData
 xY:Tok
 xZ:Tok
 Df:Addr
 Dg:FuncData
 Dh:Addr
 Di:FuncData
 Dj:Addr
 Dk:FuncData
 Dl:Addr
 Dm:FuncData
 Dn:Addr
 Dp:FuncData
 Dq:Addr
 Ds:FuncData
 Dt:Addr
 Du:FuncData
 Dv:Addr
 Dw:FuncData
 Dy:Addr
 Dz:FuncData
 DA:Addr
 DB:FuncData
 DC:Addr
 DE:FuncData
 DF:Addr
 DG:FuncData
 DH:Addr
 DI:FuncData
 DJ:Addr
 DK:FuncData
 DL:Addr
 DM:FuncData
 a_:Addr
 bQ:Addr
 bV:Addr
 bx:Addr
 bK:Addr
 bN:Addr
 eT:Addr
 gP:Addr
 eo:Addr
 eu:Addr
 eB:Addr
 eE:Addr
 bg:Addr
 aQ:Addr
 bq:Addr
 aX:Addr
 br:Addr
 aY:Addr
 qg:Addr
 qh:Addr
 x6:Tok
 x8:Tok
 x9:Tok
 x_:Tok
 yc:Tok
 yd:Tok
 yf:Tok
 yg:Tok
 yh:Tok
 yi:Tok
 yj:Tok
 yl:Tok
 ym:Tok
structure Tx(K:W.Frag)(mg:Str->Option Value)(A:fW):Prop where
 T8:aK K "__init__" "Ask.__init__" IP A.A6 A.A7
 T9:Binds K A.A7 ["self", "kind", "first", "many", "marks", "at", "asker", "latest", "behind", "early"] []
 qi:aK K "check_between" "check_between" IQ A.A8 A.A9
 rQ:Binds K A.A9 ["number", "least", "greatest", "words"] []
 rR:mg "check_between" = some (.ref A.A8)
 KA:aK K "check_behind" "check_behind" IS A.A_ A.Ba
 T_:Binds K A.Ba ["behind"] []
 Ua:mg "check_behind" = some (.ref A.A_)
 KC:aK K "check_fields" "check_fields" IT A.Bb A.Bc
 Ub:Binds K A.Bc ["first", "many", "at", "asker", "latest", "behind"] []
 Uc:mg "check_fields" = some (.ref A.Bb)
 KD:aK K "told_behind" "told_behind" IU A.Be A.Bf
 Ud:Binds K A.Bf ["behind"] []
 Ue:mg "told_behind" = some (.ref A.Be)
 rS:tR K "reading" "reading" iu A.Bg A.rP
 Ug:Binds K A.rP ["first", "many", "at", "asker", "latest", "behind"] [.int 0 A.Bh,.none,.none]
 Uh:Binds K A.rP ["first", "many", "at", "asker", "latest", "behind"] [.none,.none]
 KG:Binds K A.rP ["first", "many", "at", "asker", "latest", "behind"] [.none]
 uI:mg "reading" = some (.ref A.Bg)
 KH:aK K "clash" "clash" IV A.Bj A.Bk
 Ui:Binds K A.Bk ["one", "other"] []
 Uj:mg "clash" = some (.ref A.Bj)
 KI:aK K "next_begin" "next_begin" IW A.Bl A.Bm
 Uk:Binds K A.Bm ["plate", "ring", "place", "beat"] []
 Ul:mg "next_begin" = some (.ref A.Bl)
 DN:aK K "way" "way" IX A.Bo A.Bp
 KJ:Binds K A.Bp ["plate", "ring", "beat", "cells"] []
 KL:mg "way" = some (.ref A.Bo)
 yp:aK K "ring_of" "ring_of" IY A.Bq A.Br
 DO:Binds K A.Br ["due"] []
 DP:mg "ring_of" = some (.ref A.Bq)
 DQ:aK K "first_of" "first_of" IZ A.Bs A.Bu
 KN:Binds K A.Bu ["dues"] []
 KO:mg "first_of" = some (.ref A.Bs)
 uJ:aK K "nearest_of" "nearest_of" eS A.xC A.uB
 yq:Binds K A.uB ["ring", "dues"] []
 yr:mg "nearest_of" = some (.ref A.xC)
 KP:aK K "first_begin" "first_begin" I_ A.Bv A.Bw
 Um:Binds K A.Bw ["plate", "ring", "beat", "due"] []
 Uo:mg "first_begin" = some (.ref A.Bv)
 KQ:aK K "soonest_of" "soonest_of" fU A.xE A.uC
 Up:Binds K A.uC ["plate", "ring", "beat", "dues"] []
 Uq:mg "soonest_of" = some (.ref A.xE)
 KR:aK K "latest_of" "latest_of" fV A.xF A.uD
 Ur:Binds K A.uD ["dues"] []
 Us:mg "latest_of" = some (.ref A.xF)
 Ut:aK K "pick" "Rule.pick" Ja A.uE A.Bx
 Uu:Binds K A.Bx ["self", "plate", "ring", "beat", "dues"] []
 Uv:Meth K A.gP "pick" A.uE
 KS:Meth K A.eo "pick" A.uE
 Uw:aK K "anew" "Rule.anew" Jb A.oN A.By
 yt:Binds K A.By ["self"] []
 Ux:Meth K A.gP "anew" A.oN
 KU:Meth K A.eo "anew" A.oN
 KW:Meth K A.eu "anew" A.oN
 KY:Meth K A.eB "anew" A.oN
 KZ:Meth K A.eE "anew" A.oN
 Uy:aK K "pick" "Nearest.pick" Jc A.xG A.BA
 Uz:Binds K A.BA ["self", "plate", "ring", "beat", "dues"] []
 K0:Meth K A.eu "pick" A.xG
 UA:aK K "pick" "Soonest.pick" Jd A.xH A.BB
 UB:Binds K A.BB ["self", "plate", "ring", "beat", "dues"] []
 K1:Meth K A.eB "pick" A.xH
 UC:aK K "pick" "Latest.pick" Je A.xJ A.BC
 UD:Binds K A.BC ["self", "plate", "ring", "beat", "dues"] []
 K2:Meth K A.eE "pick" A.xJ
 DR:aK K "read_of_next_ring" "read_of_next_ring" Jf A.BD A.BE
 K3:Binds K A.BE ["plate"] []
 K4:mg "read_of_next_ring" = some (.ref A.BD)
 K5:aK K "reads_of_cell_0" "reads_of_cell_0" Jg A.BF A.BG
 UE:Binds K A.BG ["count", "at", "asker"] []
 UG:mg "reads_of_cell_0" = some (.ref A.BF)
 K6:aK K "bound_row" "bound_row" Jh A.BH A.BI
 UH:Binds K A.BI ["plate", "most"] []
 UI:mg "bound_row" = some (.ref A.BH)
 K7:aK K "round_of_ring_0" "round_of_ring_0" Ji A.BJ A.BK
 UJ:Binds K A.BK ["plate"] []
 UK:mg "round_of_ring_0" = some (.ref A.BJ)
 K8:aK K "settled" "settled" Jj A.BL A.BN
 UL:Binds K A.BN ["plate", "word", "most"] []
 UM:mg "settled" = some (.ref A.BL)
 yu:aK K "that_way" "that_way" Jk A.BO A.BP
 DS:Binds K A.BP ["inward", "ring", "dues"] []
 DT:mg "that_way" = some (.ref A.BO)
 K9:aK K "batch_of" "batch_of" Jl A.BQ A.BR
 UN:Binds K A.BR ["dues"] []
 UO:mg "batch_of" = some (.ref A.BQ)
 UP:tR K "__init__" "Lift.__init__" kK A.xK A.BS
 K_:Binds K A.BS ["self", "calm"] []
 UQ:aK K "anew" "Lift.anew" Jm A.uF A.BU
 DU:Binds K A.BU ["self"] []
 La:Meth K A.bQ "anew" A.uF
 Lb:Meth K A.bV "anew" A.uF
 UR:aK K "pick" "Lift.pick" Jo A.uG A.BV
 Lc:Binds K A.BV ["self", "plate", "ring", "beat", "dues"] []
 Ld:Meth K A.bQ "pick" A.uG
 Le:Meth K A.bV "pick" A.uG
 US:aK K "looked_at" "Lift.looked_at" Jp A.uH A.BW
 UT:Binds K A.BW ["self", "dues"] []
 UU:Meth K A.bQ "looked_at" A.uH
 UW:Meth K A.bV "looked_at" A.uH
 UX:aK K "choose" "Lift.choose" Jq A.xM A.BX
 UY:Binds K A.BX ["self", "ring", "dues"] []
 UZ:Meth K A.bQ "choose" A.xM
 U0:aK K "choose" "Sweep.choose" Jr A.xN A.BY
 U1:Binds K A.BY ["self", "ring", "dues"] []
 U3:Meth K A.bV "choose" A.xN
 Lf:aK K "check_zones" "check_zones" Js A.BZ A.B0
 U4:Binds K A.B0 ["zones"] []
 U5:mg "check_zones" = some (.ref A.BZ)
 Lg:aK K "check_turning" "check_turning" Jt A.B3 A.B4
 U6:Binds K A.B4 ["zones", "lap", "skew"] []
 U7:mg "check_turning" = some (.ref A.B3)
 Lh:aK K "check_swing" "check_swing" Ju A.B5 A.B6
 U8:Binds K A.B6 ["swing", "rings"] []
 U9:mg "check_swing" = some (.ref A.B5)
 Li:aK K "check_no_detour" "check_no_detour" Jv A.B7 A.B8
 U_:Binds K A.B8 ["swing"] []
 Va:mg "check_no_detour" = some (.ref A.B7)
 Lj:aK K "cells_by_ring" "cells_by_ring" Jw A.B9 A.B_
 Vb:Binds K A.B_ ["zones"] []
 Vc:mg "cells_by_ring" = some (.ref A.B9)
 Lk:aK K "cells_by_number" "cells_by_number" Jx A.Ca A.Cb
 Vd:Binds K A.Cb ["ring_cells", "spares"] []
 Ve:mg "cells_by_number" = some (.ref A.Ca)
 Ll:aK K "numbers_by_cell" "numbers_by_cell" Jy A.Cc A.Cd
 Vf:Binds K A.Cd ["number_cells"] []
 Vg:mg "numbers_by_cell" = some (.ref A.Cc)
 Vh:aK K "__init__" "Plate.__init__" Jz A.Ce A.Cf
 Vi:Binds K A.Cf ["self", "zones", "lap", "skew", "swing"] []
 Vj:aK K "rings" "Plate.rings" JA A.xO A.Cg
 agi:Binds K A.Cg ["self"] []
 Vk:Meth K A.bx "rings" A.xO
 Vl:aK K "total" "Plate.total" JC A.xP A.Ci
 Lm:Binds K A.Ci ["self"] []
 Vm:Meth K A.bx "total" A.xP
 Vn:aK K "cells_of" "Plate.cells_of" JD A.xQ A.Cj
 Vo:Binds K A.Cj ["self", "ring"] []
 Vp:Meth K A.bx "cells_of" A.xQ
 Vq:aK K "beats_of" "Plate.beats_of" JG A.xR A.Ck
 DV:Binds K A.Ck ["self", "ring"] []
 Vr:Meth K A.bx "beats_of" A.xR
 Vs:aK K "lap_beats" "Plate.lap_beats" JH A.xS A.Cm
 DW:Binds K A.Cm ["self"] []
 Vt:Meth K A.bx "lap_beats" A.xS
 Vu:aK K "begins" "Plate.begins" JI A.xT A.Cn
 Vv:Binds K A.Cn ["self", "ring", "place"] []
 Vw:Meth K A.bx "begins" A.xT
 Vx:aK K "swing_of" "Plate.swing_of" JJ A.xU A.Co
 Vy:Binds K A.Co ["self", "ring", "other"] []
 Vz:Meth K A.bx "swing_of" A.xU
 VA:aK K "has_cell" "Plate.has_cell" JK A.xV A.Cp
 VB:Binds K A.Cp ["self", "ring", "place"] []
 VC:Meth K A.bx "has_cell" A.xV
 VD:aK K "cell_at" "Plate.cell_at" JM A.xW A.Cq
 VE:Binds K A.Cq ["self", "number"] []
 VF:Meth K A.bx "cell_at" A.xW
 VG:aK K "number_of" "Plate.number_of" JO A.xX A.Cr
 VH:Binds K A.Cr ["self", "ring", "place"] []
 VI:Meth K A.bx "number_of" A.xX
 Ln:aK K "stretch" "stretch" JP A.Cs A.Ct
 VJ:Binds K A.Ct ["plate", "ask"] []
 VL:mg "stretch" = some (.ref A.Cs)
 DX:aK K "stretch_by_number" "stretch_by_number" JQ A.Cu A.Cv
 Lo:Binds K A.Cv ["plate", "number", "ask"] []
 Lq:mg "stretch_by_number" = some (.ref A.Cu)
 VM:aK K "__init__" "Due.__init__" JR A.Cw A.Cy
 VN:Binds K A.Cy ["self", "plate", "number", "ask"] []
 Lr:aK K "check_beat" "check_beat" JS A.Cz A.CB
 VO:Binds K A.CB ["asks", "number"] []
 VP:mg "check_beat" = some (.ref A.Cz)
 Ls:aK K "check_told" "check_told" JT A.CF A.CG
 VQ:Binds K A.CG ["asks", "number"] []
 VR:mg "check_told" = some (.ref A.CF)
 Lu:aK K "kept_behind" "kept_behind" JU A.CH A.CI
 VS:Binds K A.CI ["asks", "number"] []
 VT:mg "kept_behind" = some (.ref A.CH)
 Lv:aK K "orders" "orders" JV A.CJ A.CK
 VU:Binds K A.CK ["plate", "asks"] []
 VV:mg "orders" = some (.ref A.CJ)
 VW:aK K "__init__" "Course.__init__" JX A.CM A.CN
 VX:Binds K A.CN ["self", "plate", "asks", "ring"] []
 VY:aK K "stay" "Course.stay" JY A.CO A.CQ
 VZ:Binds K A.CQ ["self"] []
 V0:Meth K A.bN "stay" A.CO
 V1:aK K "has_to_wait" "Course.has_to_wait" JZ A.CT A.CU
 V2:Binds K A.CU ["self", "number"] []
 V3:Meth K A.bN "has_to_wait" A.CT
 V4:aK K "ready" "Course.ready" J1 A.CV A.CW
 V5:Binds K A.CW ["self"] []
 V6:Meth K A.bN "ready" A.CV
 V7:aK K "take" "Course.take" J4 A.CY A.CZ
 V8:Binds K A.CZ ["self", "number"] []
 V9:Meth K A.bN "take" A.CY
 V_:aK K "__init__" "Played.__init__" J5 A.C1 A.C2
 Wa:Binds K A.C2 ["self", "rows", "taken", "told", "answers", "end"] []
 Lw:aK K "last_ends" "last_ends" J6 A.C3 A.C4
 Wb:Binds K A.C4 ["rows"] []
 Wc:mg "last_ends" = some (.ref A.C3)
 Lx:aK K "numbers_of" "numbers_of" J7 A.C5 A.C6
 Wd:Binds K A.C6 ["ask"] []
 We:mg "numbers_of" = some (.ref A.C5)
 Ly:aK K "answers_of" "answers_of" J8 A.C7 A.C8
 Wf:Binds K A.C8 ["asks", "picks"] []
 Wg:mg "answers_of" = some (.ref A.C7)
 Lz:aK K "told_of" "told_of" J9 A.C9 A.C_
 Wh:Binds K A.C_ ["asks", "ends", "shelf"] []
 Wi:mg "told_of" = some (.ref A.C9)
 yw:tR K "play" "play" kL A.Dc A.De
 DY:Binds K A.De ["plate", "asks", "rule", "ring", "shelf"] [.int 0 A.xY,.int 0 A.xZ]
 DZ:mg "play" = some (.ref A.Dc)
 lX:aK K "_law_at" "_law_at" J_ A.Df A.Dg
 ni:Binds K A.Dg ["_law_script", "_law_k"] []
 nj:mg "_law_at" = some (.ref A.Df)
 dO:aK K "_law_mix" "_law_mix" Ka A.Dh A.Di
 eF:Binds K A.Di ["_law_cell", "_law_k"] []
 eG:mg "_law_mix" = some (.ref A.Dh)
 LA:aK K "_law_zones" "_law_zones" Kc A.Dj A.Dk
 Wj:Binds K A.Dk ["_law_a", "_law_b"] []
 Wk:mg "_law_zones" = some (.ref A.Dj)
 LB:aK K "_law_counts" "_law_counts" Kd A.Dl A.Dm
 Wl:Binds K A.Dm ["_law_zones_here"] []
 Wm:mg "_law_counts" = some (.ref A.Dl)
 LC:aK K "_law_lap" "_law_lap" Ke A.Dn A.Dp
 Wn:Binds K A.Dp ["_law_zones_here", "_law_cell"] []
 Wo:mg "_law_lap" = some (.ref A.Dn)
 LD:aK K "_law_swing" "_law_swing" Kf A.Dq A.Ds
 Wq:Binds K A.Ds ["_law_many", "_law_cell"] []
 Wr:mg "_law_swing" = some (.ref A.Dq)
 yx:aK K "_law_rule" "_law_rule" Kg A.Dt A.Du
 D0:Binds K A.Du ["_law_word"] []
 D3:mg "_law_rule" = some (.ref A.Dt)
 D4:aK K "_law_passed" "_law_passed" Kh A.Dv A.Dw
 LF:Binds K A.Dw ["_law_taken"] []
 LG:mg "_law_passed" = some (.ref A.Dv)
 D5:aK K "_law_waiting" "_law_waiting" Kl A.Dy A.Dz
 LH:Binds K A.Dz ["_law_asks", "_law_taken"] []
 LI:mg "_law_waiting" = some (.ref A.Dy)
 yy:aK K "_law_reads" "_law_reads" Km A.DA A.DB
 D6:Binds K A.DB ["_law_asks", "_law_least", "_law_most"] []
 D7:mg "_law_reads" = some (.ref A.DA)
 LJ:aK K "_law_row" "_law_row" Kn A.DC A.DE
 Ws:Binds K A.DE ["_law_plate", "_law_cells"] []
 Wu:mg "_law_row" = some (.ref A.DC)
 LK:aK K "_law_bound" "_law_bound" Ko A.DF A.DG
 Wv:Binds K A.DG ["_law_plate", "_law_word", "_law_most", "_law_found", "_law_cells"] []
 Ww:mg "_law_bound" = some (.ref A.DF)
 LL:aK K "_law_later" "_law_later" Kp A.DH A.DI
 Wx:Binds K A.DI ["_law_ask", "_law_beats"] []
 Wy:mg "_law_later" = some (.ref A.DH)
 LM:aK K "_law_ever" "_law_ever" Kq A.DJ A.DK
 Wz:Binds K A.DK ["_law_plate", "_law_word", "_law_most", "_law_found", "_law_times"] []
 WA:mg "_law_ever" = some (.ref A.DJ)
 WB:aK K "law" "law" kM A.DL A.DM
 agj:Binds K A.DM ["_law_script"] []
 agk:mg "law" = some (.ref A.DL)
 kN:bL K A.a_
 WC:Mk K A.a_ A.A6
 WD:mg "Ask" = some (.ref A.a_)
 yz:bO K A.a_ "kind"
 LN:bO K A.a_ "first"
 LO:bO K A.a_ "many"
 LQ:bO K A.a_ "marks"
 qj:bO K A.a_ "at"
 LR:bO K A.a_ "asker"
 yC:bO K A.a_ "latest"
 yD:bO K A.a_ "behind"
 LS:bO K A.a_ "early"
 nq:bL K A.bQ
 WE:Mk K A.bQ A.xK
 WG:mg "Lift" = some (.ref A.bQ)
 D8:bO K A.bQ "calm"
 uK:bO K A.bQ "inward"
 D9:bO K A.bQ "batch"
 qk:bL K A.bV
 WH:Mk K A.bV A.xK
 WI:mg "Sweep" = some (.ref A.bV)
 D_:bO K A.bV "calm"
 Ea:bO K A.bV "inward"
 Eb:bO K A.bV "batch"
 kO:bL K A.bx
 WJ:Mk K A.bx A.Ce
 WK:mg "Plate" = some (.ref A.bx)
 Ec:bO K A.bx "ring_cells"
 Ef:bO K A.bx "lap"
 Eg:bO K A.bx "skew"
 Eh:bO K A.bx "swing"
 Ei:bO K A.bx "number_cells"
 Ej:bO K A.bx "cell_numbers"
 oO:bL K A.bK
 WL:Mk K A.bK A.Cw
 WM:mg "Due" = some (.ref A.bK)
 oR:bO K A.bK "number"
 Ek:bO K A.bK "ask"
 El:bO K A.bK "cells"
 oU:bL K A.bN
 WN:Mk K A.bN A.CM
 WO:mg "Course" = some (.ref A.bN)
 LU:bO K A.bN "keeping"
 LV:bO K A.bN "plate"
 Em:bO K A.bN "ring"
 yE:bO K A.bN "beat"
 En:bO K A.bN "left"
 Eo:bL K A.eT
 WQ:Mk K A.eT A.C1
 WR:mg "Played" = some (.ref A.eT)
 LW:bO K A.eT "rows"
 uL:bO K A.eT "taken"
 LX:bO K A.eT "told"
 LY:bO K A.eT "answers"
 LZ:bO K A.eT "end"
 L0:bL K A.gP
 agl:rq K A.gP
 agm:mg "Rule" = some (.ref A.gP)
 yF:bL K A.eo
 WS:rq K A.eo
 WT:mg "First" = some (.ref A.eo)
 yG:bL K A.eu
 WU:rq K A.eu
 WV:mg "Nearest" = some (.ref A.eu)
 yH:bL K A.eB
 WW:rq K A.eB
 WX:mg "Soonest" = some (.ref A.eB)
 yI:bL K A.eE
 WY:rq K A.eE
 WZ:mg "Latest" = some (.ref A.eE)
 W0:mg "MOST_CELLS_asks" = some (.int 16 A.x6)
 W3:mg "GREATEST_FIRST" = some (.int 1000000 A.x8)
 W4:mg "GREATEST_AT" = some (.int 1000000000000 A.x9)
 W5:mg "GREATEST_ASKER" = some (.int 20 A.x_)
 W6:mg "GREATEST_LATEST" = some (.int 10000000000000 A.yc)
 W7:mg "GREATEST_BEHIND" = some (.int 99 A.yd)
 L1:mg "MOST_CELLS_settled" = some (.int 16 A.yf)
 W8:mg "MOST_ZONES" = some (.int 5 A.yg)
 W9:mg "MOST_RINGS_IN_ZONE" = some (.int 40 A.yh)
 W_:mg "MOST_CELLS_IN_RING" = some (.int 60 A.yi)
 Xa:mg "LEAST_RINGS" = some (.int 2 A.yj)
 Xb:mg "MOST_RINGS" = some (.int 120 A.yl)
 L3:mg "MOST_BEATS" = some (.int 1000000000 A.ym)
 yJ:mg "abs" = none
 yK:mg "all" = none
 rT:mg "any" = none
 Ep:mg "bool" = none
 L4:mg "dict" = none
 qm:mg "enumerate" = none
 yL:mg "int" = none
 rW:mg "isinstance" = none
 dg:mg "len" = none
 rX:mg "list" = none
 yM:mg "max" = none
 lY:mg "min" = none
 gZ:mg "range" = none
 Er:mg "sorted" = none
 Es:mg "sum" = none
 uM:mg "tuple" = none
 Xc:A.uB.code = .ref A.bg
 Xd:A.uC.code = .ref A.bq
 Xe:A.uD.code = .ref A.br
 Xf:zL K A.rP ["first", "many", "at", "asker", "latest", "behind"] ["latest"] (Iz A.Bh) S5
 Xg:mg "BOUND_WORDS" = some (.ref A.qg)
 Xh:AK K A.qg ["first", "calm lift", "calm sweep"]
 Xi:mg "EVER_WORDS" = some (.ref A.qh)
 Xj:AK K A.qh ["nearest", "soonest", "latest", "lift", "sweep"]
 Et:A.aQ≠A.aX
 Eu:A.aQ≠A.aY
 Ew:A.aX≠A.aY
theorem Tx.agn{K:W.Frag}{mg:Str->Option Value}{A:fW}(T:Tx K mg A):CP K A.bx:=⟨T.kO,T.Ec,T.Ef,T.Eg,T.Eh,T.Ei,T.Ej⟩
theorem Tx.aoa{K:W.Frag}{mg:Str->Option Value}{A:fW}(T:Tx K mg A):∀C∈[A.bx],bL K C/\Meth K C "rings" A.xO:=by
 intro C hC;simp only[List.mem_cons,List.not_mem_nil,or_false] at hC;rcases hC with rfl
 ·exact⟨T.kO,T.Vk⟩
theorem Tx.Xk{K:W.Frag}{mg:Str->Option Value}{A:fW}(T:Tx K mg A):∀C∈[A.bx],bL K C/\Meth K C "total" A.xP:=by
 intro C hC;simp only[List.mem_cons,List.not_mem_nil,or_false] at hC;rcases hC with rfl
 ·exact⟨T.kO,T.Vm⟩
theorem Tx.ago{K:W.Frag}{mg:Str->Option Value}{A:fW}(T:Tx K mg A):∀C∈[A.bx],bL K C/\Meth K C "cells_of" A.xQ:=by
 intro C hC;simp only[List.mem_cons,List.not_mem_nil,or_false] at hC;rcases hC with rfl
 ·exact⟨T.kO,T.Vp⟩
theorem Tx.L5{K:W.Frag}{mg:Str->Option Value}{A:fW}(T:Tx K mg A):∀C∈[A.bx],bL K C/\Meth K C "beats_of" A.xR:=by
 intro C hC;simp only[List.mem_cons,List.not_mem_nil,or_false] at hC;rcases hC with rfl
 ·exact⟨T.kO,T.Vr⟩
theorem Tx.L6{K:W.Frag}{mg:Str->Option Value}{A:fW}(T:Tx K mg A):∀C∈[A.bx],bL K C/\Meth K C "lap_beats" A.xS:=by
 intro C hC;simp only[List.mem_cons,List.not_mem_nil,or_false] at hC;rcases hC with rfl
 ·exact⟨T.kO,T.Vt⟩
theorem Tx.agp{K:W.Frag}{mg:Str->Option Value}{A:fW}(T:Tx K mg A):∀C∈[A.bx],bL K C/\Meth K C "begins" A.xT:=by
 intro C hC;simp only[List.mem_cons,List.not_mem_nil,or_false] at hC;rcases hC with rfl
 ·exact⟨T.kO,T.Vw⟩
theorem Tx.agq{K:W.Frag}{mg:Str->Option Value}{A:fW}(T:Tx K mg A):∀C∈[A.bx],bL K C/\Meth K C "swing_of" A.xU:=by
 intro C hC;simp only[List.mem_cons,List.not_mem_nil,or_false] at hC;rcases hC with rfl
 ·exact⟨T.kO,T.Vz⟩
theorem Tx.agr{K:W.Frag}{mg:Str->Option Value}{A:fW}(T:Tx K mg A):∀C∈[A.bx],bL K C/\Meth K C "has_cell" A.xV:=by
 intro C hC;simp only[List.mem_cons,List.not_mem_nil,or_false] at hC;rcases hC with rfl
 ·exact⟨T.kO,T.VC⟩
theorem Tx.ags{K:W.Frag}{mg:Str->Option Value}{A:fW}(T:Tx K mg A):∀C∈[A.bx],bL K C/\Meth K C "cell_at" A.xW:=by
 intro C hC;simp only[List.mem_cons,List.not_mem_nil,or_false] at hC;rcases hC with rfl
 ·exact⟨T.kO,T.VF⟩
theorem Tx.agt{K:W.Frag}{mg:Str->Option Value}{A:fW}(T:Tx K mg A):∀C∈[A.bx],bL K C/\Meth K C "number_of" A.xX:=by
 intro C hC;simp only[List.mem_cons,List.not_mem_nil,or_false] at hC;rcases hC with rfl
 ·exact⟨T.kO,T.VI⟩
theorem Tx.agu{K:W.Frag}{mg:Str->Option Value}{A:fW}(T:Tx K mg A):∀C∈[A.bQ,A.bV],bL K C/\Meth K C "anew" A.uF:=by
 intro C hC;simp only[List.mem_cons,List.not_mem_nil,or_false] at hC;rcases hC with rfl | rfl
 ·exact⟨T.nq,T.La⟩
 ·exact⟨T.qk,T.Lb⟩
theorem Tx.aob{K:W.Frag}{mg:Str->Option Value}{A:fW}(T:Tx K mg A):∀C∈[A.bQ,A.bV],bL K C/\Meth K C "pick" A.uG:=by
 intro C hC;simp only[List.mem_cons,List.not_mem_nil,or_false] at hC;rcases hC with rfl | rfl
 ·exact⟨T.nq,T.Ld⟩
 ·exact⟨T.qk,T.Le⟩
theorem Tx.agv{K:W.Frag}{mg:Str->Option Value}{A:fW}(T:Tx K mg A):∀C∈[A.bQ,A.bV],bL K C/\Meth K C "looked_at" A.uH:=by
 intro C hC;simp only[List.mem_cons,List.not_mem_nil,or_false] at hC;rcases hC with rfl | rfl
 ·exact⟨T.nq,T.UU⟩
 ·exact⟨T.qk,T.UW⟩
theorem Tx.agw{K:W.Frag}{mg:Str->Option Value}{A:fW}(T:Tx K mg A):∀C∈[A.bQ],bL K C/\Meth K C "choose" A.xM:=by
 intro C hC;simp only[List.mem_cons,List.not_mem_nil,or_false] at hC;rcases hC with rfl
 ·exact⟨T.nq,T.UZ⟩
theorem Tx.agx{K:W.Frag}{mg:Str->Option Value}{A:fW}(T:Tx K mg A):∀C∈[A.bV],bL K C/\Meth K C "choose" A.xN:=by
 intro C hC;simp only[List.mem_cons,List.not_mem_nil,or_false] at hC;rcases hC with rfl
 ·exact⟨T.qk,T.U3⟩
theorem Tx.aoc{K:W.Frag}{mg:Str->Option Value}{A:fW}(T:Tx K mg A):∀C∈[A.gP,A.eo],bL K C/\Meth K C "pick" A.uE:=by
 intro C hC;simp only[List.mem_cons,List.not_mem_nil,or_false] at hC;rcases hC with rfl | rfl
 ·exact⟨T.L0,T.Uv⟩
 ·exact⟨T.yF,T.KS⟩
theorem Tx.aod{K:W.Frag}{mg:Str->Option Value}{A:fW}(T:Tx K mg A):∀C∈[A.gP,A.eo,A.eu,A.eB,A.eE],bL K C/\Meth K C "anew" A.oN:=by
 intro C hC;simp only[List.mem_cons,List.not_mem_nil,or_false] at hC;rcases hC with rfl | rfl | rfl | rfl | rfl
 ·exact⟨T.L0,T.Ux⟩
 ·exact⟨T.yF,T.KU⟩
 ·exact⟨T.yG,T.KW⟩
 ·exact⟨T.yH,T.KY⟩
 ·exact⟨T.yI,T.KZ⟩
theorem Tx.aoe{K:W.Frag}{mg:Str->Option Value}{A:fW}(T:Tx K mg A):∀C∈[A.eu],bL K C/\Meth K C "pick" A.xG:=by
 intro C hC;simp only[List.mem_cons,List.not_mem_nil,or_false] at hC;rcases hC with rfl
 ·exact⟨T.yG,T.K0⟩
theorem Tx.aof{K:W.Frag}{mg:Str->Option Value}{A:fW}(T:Tx K mg A):∀C∈[A.eB],bL K C/\Meth K C "pick" A.xH:=by
 intro C hC;simp only[List.mem_cons,List.not_mem_nil,or_false] at hC;rcases hC with rfl
 ·exact⟨T.yH,T.K1⟩
theorem Tx.aog{K:W.Frag}{mg:Str->Option Value}{A:fW}(T:Tx K mg A):∀C∈[A.eE],bL K C/\Meth K C "pick" A.xJ:=by
 intro C hC;simp only[List.mem_cons,List.not_mem_nil,or_false] at hC;rcases hC with rfl
 ·exact⟨T.yI,T.K2⟩
local macro_rules | `(tactic| walk_at "rdt") => `(tactic| wp_walk using $(Lean.mkIdent `T))
section
variable{P:Program}{w:World}{K:W.Frag}{mg:Str->Option Value}{base:Heap}{A:fW}
theorem agy(T:Tx K mg A)(aA:au mg base A.bg A.aQ)(aB:au mg base A.bq A.aX)(aC:au mg base A.br A.aY):aZ P w K mg base bu 1 A.A6 A.A7 ["self", "kind", "first", "many", "marks", "at", "asker", "latest", "behind", "early"] (adl A.a_):=by
 refine T.T8.ok afz (λvs H Q E h=>?_) (λaU Ar outer s H vs Q E hr h=>?_)
 ·obtain⟨p,dx,v1,v2,v3,v4,v5,v6,v7,v8,v9,rfl,_⟩:=h
  rfl
 ·obtain⟨p,dx,v1,v2,v3,v4,v5,v6,v7,v8,v9,rfl,hp,q⟩:=h;refine⟨_,(aF (gq (aa 0) (aa 1) rfl)
   (aF (gq (aa 0) (aa 2) rfl)
   (aF (gq (aa 0) (aa 3) rfl)
   (aF (gq (aa 0) (aa 4) rfl)
   (aF (gq (aa 0) (aa 5) rfl)
   (aF (gq (aa 0) (aa 6) rfl)
   (aF (gq (aa 0) (aa 7) rfl)
   (aF (gq (aa 0) (aa 8) rfl)
   (aL (gq (aa 0) (aa 9) rfl)))))))))),?_⟩
  wp_walk using T,hp;exact q
theorem uN(T:Tx K mg A)(aA:au mg base A.bg A.aQ)(aB:au mg base A.bq A.aX)(aC:au mg base A.br A.aY):aZ P w K mg base bu 1 A.A8 A.A9 ["number", "least", "greatest", "words"] adg:=by
 refine T.qi.ok afA (λvs H Q E h=>?_) (λaU Ar outer s H vs Q E hr h=>?_)
 ·obtain⟨n,lo,hi,w,rfl,_⟩:=h
  rfl
 ·obtain⟨n,lo,hi,w,rfl,h1,h2,q⟩:=h;refine⟨_,(aL (kJ (PW.pt (oJ (fE (eO gv (aa 0) (aa 1) (bA _)) (gc (eO k_ (aa 0) (aa 2) (bA _)))))) gu bT)),?_⟩;walk_at "rdm";exact⟨by lia,by lia,q⟩
theorem agz(T:Tx K mg A)(aA:au mg base A.bg A.aQ)(aB:au mg base A.bq A.aX)(aC:au mg base A.br A.aY):aZ P w K mg base bu 1 A.Be A.Bf ["behind"] (adk K):=by
 refine T.KD.ok afC (λvs H Q E h=>?_) (λaU Ar outer s H vs Q E hr h=>?_)
 ·obtain⟨v,ns,rfl,_⟩:=h
  rfl
 ·obtain⟨v,ns,rfl,hv,q⟩:=h;refine⟨_,(aL (bw (FZ (cD aa4 (aa 0) pe (bA _)) (i9 aq) (vP Qz rfl T.uM boot_tuple (ah (aa 0) aq))))),?_⟩;walk_at "rdm";rcases hv with⟨rfl,rfl⟩ | ⟨a,rfl,hS | hS⟩
  ·exact ite_yes rfl λt nt=>q t _ (aj.put nt) aH
  ·exact ite_no (by simp) ⟨a,rfl,_,.inl ⟨hS,λl nl=>q l _ (aj.put nl) aH⟩⟩
  ·exact ite_no (by simp) ⟨a,rfl,_,.inr ⟨bD.of hS,q a _ (aj.refl _) hS⟩⟩
theorem agA(T:Tx K mg A)(aA:au mg base A.bg A.aQ)(aB:au mg base A.bq A.aX)(aC:au mg base A.br A.aY):aZ P w K mg base bu 1 A.Bj A.Bk ["one", "other"] (adn K A.a_):=by
 refine T.KH.ok afD (λvs H Q E h=>?_) (λaU Ar outer s H vs Q E hr h=>?_)
 ·obtain⟨p,r,x,y,m,b,dx,m',b',cZ,rfl,_⟩:=h
  rfl
 ·obtain⟨p,r,x,y,m,b,dx,m',b',cZ,rfl,hx,hy,q⟩:=h;refine⟨_,(aF (cF (PW.pt (FY (cD qJ (cI (aa 0) rfl) cQ (bA _)) (FW (cD qJ (cI (aa 1) rfl) cQ (bA _))))) (aL (bw i8)) bT)
   (aL (bw (sQ (iN gv (cI (aa 0) rfl) (aR jt (cI (aa 1) rfl) (cI (aa 1) rfl)) (bA _)) (sO (iN gv (cI (aa 1) rfl) (aR jt (cI (aa 0) rfl) (cI (aa 0) rfl)) (bA _))))))),?_⟩
  wp_walk using T,hx.o,hy.o;unfold tV at q;by_cases k1:x.kind = "write" <;> by_cases k2:y.kind = "write" <;> by_cases k3:x.first<y.first+y.many <;> simpa[k1,k2,k3] using q
theorem L7(T:Tx K mg A)(aA:au mg base A.bg A.aQ)(aB:au mg base A.bq A.aX)(aC:au mg base A.br A.aY):aZ P w K mg base bu 1 A.Bq A.Br ["due"] (ad7 K A.a_ A.bK):=by
 refine T.yp.ok afF (λvs H Q E h=>?_) (λaU Ar outer s H vs Q E hr h=>?_)
 ·obtain⟨p,d,dx,ap,l,ts,m,b,bH,rfl,_⟩:=h
  rfl
 ·obtain⟨p,d,dx,ap,l,ts,m,b,bH,rfl,hD,d1,q⟩:=h;have dF:=hD.o;unfold iW at dF;refine⟨_,(aL (bw (bM tD (bM fj (cI (aa 0) rfl) aD (λ_ _=>rfl)) aD (λ_ _=>rfl)))),?_⟩;wp_walk using T,dF;have hn:=hD.c.n;have h0:ts[0]? = some (ts[0]'(by lia)):=List.getElem?_eq_getElem _
  have e0:d.c[0]? = some (bX d):=by unfold bX;rw[List.getD_eq_getElem?_getD,List.getElem?_eq_getElem (by lia)];rfl
  exact⟨_,hD.c.sq,_,gA (j:=0) (by rw[List.getElem?_map,h0];rfl),_,rfl,_,bD.of (hD.c.t 0 _ _ h0 e0),_,rfl,q⟩
theorem Xl(T:Tx K mg A)(aA:au mg base A.bg A.aQ)(aB:au mg base A.bq A.aX)(aC:au mg base A.br A.aY):aZ P w K mg base bu 1 A.Bs A.Bu ["dues"] (adZ K A.a_ A.bK):=by
 refine T.DQ.ok afG (λvs H Q E h=>?_) (λaU Ar outer s H vs Q E hr h=>?_)
 ·obtain⟨D,ps,ds,rfl,_⟩:=h
  rfl
 ·obtain⟨D,ps,ds,rfl,hd,d1,fL,q⟩:=h;have fq:=hd.n;refine⟨_,(aL (bw (bY (acq rfl) rfl T.lY boot_min (ah (gJ (N:=["due"]) (nt:=1) (fv:=[]) (cW.of rfl rfl (by rfl) (by rfl) (by repeat (first | exact trivial | refine⟨rfl,?_⟩)) (by rfl) (by rfl) (by rfl) (by decide) (by decide +kernel)) rfl (e9 (aa 0)) (λC s H fp=>(bI (i:=0) (show List.Nodup (["due"]:List Str) by decide +kernel) rfl (Or.inl rfl))) (λC s H fp=>jg) (λC s H fp=>(lW (K:=K) rfl (aa 0) rfl))) aq)))),?_⟩
  walk_at "rdt";refine iU D (ps.map V.ref) (λD2 i ys az H2=>∃(u:Option V),ys=((ds.take i).map (·.n)).map V.int/\az = [u]/\H2 D2=some (.lst ys)/\aj H H2/\H D2=none) (λQ q=>q) (aE.of hd.l) ?_ ?_ ?_ ?_
  ·intro D2 hD;exact⟨none,rfl,rfl,aH,aj.put hD,hD⟩
  ·rintro D2 i ys az H2 ⟨u,rfl,rfl,e1,e2,e3⟩;exact⟨e1,gB (by simp only[List.length_map,List.length_take];lia),aE.of (e2 _ _ hd.l)⟩
  ·rintro D2 i x ys az H2 N hN hx ⟨u,rfl,rfl,e1,e2,e3⟩;obtain⟨dp,gG,rfl⟩:=fG hx;have hi:i<ds.length:=by rw[← fq];exact dM gG
   refine(hd.same e2).el i dp ds[i] gG (List.getElem?_eq_getElem hi) λdx ap l ts m b' bH hD=>?_;have dF:=hD.o;unfold iW at dF;wp_walk using T,dF;refine⟨e1,hN _ _ _ ⟨_,?_,rfl,aH,aj.put2 e2 e3,e3⟩⟩;rw[take_succ_get (List.getElem?_eq_getElem hi),List.map_append,List.map_append];rfl
  ·rintro D2 ys az H2 ⟨u,rfl,rfl,e1,e2,e3⟩;rw[List.length_map,fq,List.take_length] at e1;refine⟨D2,rfl,_,aE.of e1,by rw[List.length_map];lia,λM hM least=>?_⟩
   obtain⟨d,bX,rfl⟩:=List.mem_map.mp hM;exact q d H2 e2 ⟨bX,λe he=>by have:=least e.n (List.mem_map_of_mem he);dsimp only;lia⟩
theorem Ex(T:Tx K mg A)(aA:au mg base A.bg A.aQ)(aB:au mg base A.bq A.aX)(aC:au mg base A.br A.aY):aZ P w K mg base bu 1 A.oN A.By ["self"] wQ:=by
 refine T.Uw.ok afL (λvs H Q E h=>?_) (λaU Ar outer s H vs Q E hr h=>?_)
 ·obtain⟨x,rfl,_⟩:=h
  rfl
 ·obtain⟨x,rfl,q⟩:=h;refine⟨_,(aL (bw pe)),?_⟩;walk_at "rdt";exact q
theorem agB(T:Tx K mg A)(aA:au mg base A.bg A.aQ)(aB:au mg base A.bq A.aX)(aC:au mg base A.br A.aY):aZ P w K mg base bu 1 A.BQ A.BR ["dues"] (aec K A.a_ A.bK):=by
 refine T.K9.ok Kr (λvs H Q E h=>?_) (λaU Ar outer s H vs Q E hr h=>?_)
 ·obtain⟨D,ps,ds,rfl,_⟩:=h
  rfl
 ·obtain⟨D,ps,ds,rfl,hd,fL,q⟩:=h;have fq:=hd.n;have hu:=jF hr;refine⟨_,(aF (bF (i:=1) Kr.nd rfl (Or.inl rfl) vU)
   (aF (eV PassesOwn.never rfl (e9 (aa 0)) (bI (i:=2) Kr.nd rfl (Or.inl rfl))
   (aL (zU hu (aa 1) (cI (aa 2) rfl) i8 rfl)))
   (aL (bw (aa 1))))),?_⟩
  walk_at "rdt";intro kd oV;refine rl D (ps.map V.ref) (λi σ H'=>∃(u:Option V) (kvs:List (Key×V)),σ = [some (.ref D),some (.ref kd),u]/\aj H H'/\H' kd=some (.dK kvs)/\kvs.length<=i/\∀n:Int,(cL kvs (c8 n)).isSome=decide (n∈(ds.take i).map (·.n))) (λQ q=>q) (aE.of (aj.put oV _ _ hd.l)) ⟨none,[],rfl,aj.put oV,aH,Nat.le_refl _,λn=>by simp[GP]⟩ (by rintro i σ H' _ ⟨_,_,rfl,s',_⟩;exact aE.of (s' _ _ hd.l)) ?_ ?_
  ·rintro i x σ H' N hN hx ⟨u,kvs,rfl,s',hk,hl,hv⟩;obtain⟨p,hp,rfl⟩:=fG hx;have hi:i<ds.length:=by rw[← fq];exact dM hp
   refine(hd.same s').el i p ds[i] hp (List.getElem?_eq_getElem hi) λdx ap la ts m b bH hD=>?_;have dF:=hD.o;unfold iW at dF;wp_walk using T,dF;refine⟨_,lD.k (k:=c8 ds[i].n) hk (by rw[pK];lia),hN _ _ ⟨_,_,rfl,aj.put2 s' oV,aH,?_,λn=>?_⟩⟩
   ·have:=Si kvs (c8 ds[i].n) (V.bl true);lia
   ·rw[zS,take_succ_get (List.getElem?_eq_getElem hi),List.map_append];by_cases e:n=ds[i].n
    ·subst e;simp
    ·rw[if_neg (by simpa[c8] using e),hv]
     simp[e]
  ·rintro σ H' ⟨u,kvs,rfl,s',hk,hl,hv⟩;rw[List.length_map,fq] at hl;rw[List.length_map,fq,List.take_length] at hv;walk_at "rdm";exact q kd kvs H' s' oV hk (by lia) hv
theorem L8(T:Tx K mg A)(aA:au mg base A.bg A.aQ)(aB:au mg base A.bq A.aX)(aC:au mg base A.br A.aY):aZ P w K mg base bu 1 A.uF A.BU ["self"] (AG K [A.bQ,A.bV]):=by
 refine T.UQ.ok afU (λvs H Q E h=>?_) (λaU Ar outer s H vs Q E hr h=>?_)
 ·obtain⟨C,x,dx,c,fs,rfl,_⟩:=h
  rfl
 ·obtain⟨C,x,dx,c,fs,rfl,hC,hK,hx,hf,q⟩:=h;refine⟨_,(aF (jB (aa 0) i8 rfl)
   (aL (jB (aa 0) vU rfl))),?_⟩
  rcases hf with rfl | ⟨i,B,rfl⟩
  ·wp_walk using hK.cl,hK.n1,hK.n2,hK.n3,hx,jm;intro p np;have rY:p≠x:=λz=>by rw[z,aH] at np;cases np
   have yN:H p=none:=by rwa [aI rY] at np
   refine⟨_,_,_,(aI (Ne.symm rY)).trans aH,hK.cl,hK.n3,by simp,q p _ yN (λb o e hb=>?_) ⟨aH,[],?_,by simp,λn=>by simp[GP]⟩⟩
   ·rw[aI hb,aI (λz=>by rw[z,yN] at e;cases e),aI hb];exact e
   ·rw[aI rY,aH]
  ·wp_walk using hK.cl,hK.n1,hK.n2,hK.n3,hx,jm;intro p np;have rY:p≠x:=λz=>by rw[z,aH] at np;cases np
   have yN:H p=none:=by rwa [aI rY] at np
   refine⟨_,_,_,(aI (Ne.symm rY)).trans aH,hK.cl,hK.n3,by simp,q p _ yN (λb o e hb=>?_) ⟨aH,[],?_,by simp,λn=>by simp[GP]⟩⟩
   ·rw[aI hb,aI (λz=>by rw[z,yN] at e;cases e),aI hb];exact e
   ·rw[aI rY,aH]
theorem agC(T:Tx K mg A)(aA:au mg base A.bg A.aQ)(aB:au mg base A.bq A.aX)(aC:au mg base A.br A.aY):aZ P w K mg base bu 1 A.BZ A.B0 ["zones"] (acD K):=by
 refine T.Lf.ok A1 (λvs H Q E h=>?_) (λaU Ar outer s H vs Q E hr h=>?_)
 ·obtain⟨a,ts,z,rfl,_⟩:=h
  rfl
 ·obtain⟨a,ts,z,rfl,hz,ok,q⟩:=h;refine⟨_,(aF (kJ (PW.pt (oJ (fE (eO gv (bY fK rfl T.dg boot_len (ah (aa 0) aq)) aD (bA _)) (gc (eO k_ (bY fK rfl T.dg boot_len (ah (aa 0) aq)) (iw (v:=.int 5) rfl T.W8 ⟨_,rfl⟩) (bA _)))))) gu bT)
   (aF (eV PassesOwn.never rfl (e9 (aa 0)) (jT rfl (dH (bI (i:=1) A1.nd rfl (Or.inl rfl)) (dH (bI (i:=2) A1.nd rfl (Or.inl rfl)) jS)))
   (aF (kJ (PW.pt (oJ (fE (eO gv (aa 1) aD (bA _)) (gc (eO k_ (aa 1) (iw (v:=.int 40) rfl T.W9 ⟨_,rfl⟩) (bA _)))))) gu bT)
   (aL (kJ (PW.pt (oJ (fE (eO gv (aa 2) aD (bA _)) (gc (eO k_ (aa 2) (iw (v:=.int 60) rfl T.W_ ⟨_,rfl⟩) (bA _)))))) gu bT))))
   (aF (bF (i:=3) A1.nd rfl (Or.inl rfl) (bY (aco rfl) rfl T.Es boot_sum (ah (gJ (N:=["zone"]) (nt:=1) (fv:=[]) (cW.of rfl rfl (by rfl) (by rfl) (by repeat (first | exact trivial | refine⟨rfl,?_⟩)) (by rfl) (by rfl) (by rfl) (by decide) (by decide +kernel)) rfl (e9 (aa 0)) (λC s H fp=>(bI (i:=0) (show List.Nodup (["zone"]:List Str) by decide +kernel) rfl (Or.inl rfl))) (λC s H fp=>jg) (λC s H fp=>(bM (TL (K:=K) rfl) (aa 0) aD (λ_ _=>rfl)))) aq)))
   (aL (kJ (PW.pt (oJ (fE (eO gv (aa 3) (iw (v:=.int 2) rfl T.Xa ⟨_,rfl⟩) (bA _)) (gc (eO k_ (aa 3) (iw (v:=.int 120) rfl T.Xb ⟨_,rfl⟩) (bA _)))))) gu bT))))),?_⟩
  walk_at "rdm";have hn:=hz.n;have l1:=ok.l1;have l5:=ok.l5;refine⟨_,.inl hz.sq,by simp only[List.length_map];lia,_,.inl hz.sq,by simp only[List.length_map];lia,?_⟩
  refine rl a (ts.map V.ref) (λi σ H'=>∃r c,σ = [some (.ref a),r,c,none]/\H' = H) (λQ q=>q) hz.sq ⟨none,none,rfl,rfl⟩ (by rintro i σ H' _ ⟨r,c,rfl,rfl⟩;exact hz.sq) ?_ ?_
  ·rintro i x σ H' N hN hx ⟨r,c,rfl,rfl⟩;obtain⟨t,p,rfl,hp,ht⟩:=hz.at hx;refine lK (bD.of ht) rfl ?_;walk_at "rdm";obtain⟨h1,h2,h3,h4⟩:=ok.r p (get_mem hp);exact⟨by lia,by lia,by lia,by lia,hN _ _ ⟨_,_,rfl,rfl⟩⟩
  ·rintro σ H' ⟨r,c,rfl,rfl⟩;walk_at "rdm";refine iU a (ts.map V.ref) (λD i ys az H2=>ys=((z.take i).map λp=>V.int p.1)/\H2 D=some (.lst ys)/\aj H' H2/\H' D=none/\i<=z.length/\∃u,az = [u]) (λQ q=>q) hz.sq ?_ ?_ ?_ ?_
   ·intro D hD;exact⟨rfl,aH,aj.put hD,hD,Nat.zero_le _,_,rfl⟩
   ·rintro D i ys az H2 ⟨e,e1,e2,e3,e4,_⟩;refine⟨e1,?_,e2.seq hz.sq⟩;rw[e];refine gB ?_;simp only[List.length_map,List.length_take];lia
   ·rintro D i x ys az H2 N hN hx ⟨e,e1,e2,e3,e4,u,rfl⟩;obtain⟨t,p,rfl,hp,ht⟩:=hz.at hx;have hl:=dM hp;walk_at "rdm";refine⟨_,bD.of (e2 _ _ ht),_,rfl,e1,hN _ _ _ ⟨?_,aH,aj.put2 e2 e3,e3,hl,_,rfl⟩⟩;rw[take_succ_get hp,List.map_append,e];rfl
   ·rintro D ys az H2 ⟨e,e1,e2,e3,e4,u,rfl⟩;have e5:ys=(z.map λp=>p.1).map V.int:=by
     rw[e,lenZ hz.n,List.take_length,List.map_map];rfl
    rw[e5] at e1;walk_at "rdm";have s2:=ok.s2;have s1:=ok.Hi;exact⟨_,aE.of e1,by lia,by lia,q _ e2⟩
theorem agD(T:Tx K mg A)(aA:au mg base A.bg A.aQ)(aB:au mg base A.bq A.aX)(aC:au mg base A.br A.aY):aZ P w K mg base bu 1 A.B3 A.B4 ["zones", "lap", "skew"] (acE K):=by
 refine T.Lg.ok Ks (λvs H Q E h=>?_) (λaU Ar outer s H vs Q E hr h=>?_)
 ·obtain⟨a,ts,z,aJ,dX,rfl,_⟩:=h
  rfl
 ·obtain⟨a,ts,z,aJ,dX,rfl,hz,ok,h1,h2,h3,h4,hd,q⟩:=h;refine⟨_,(aF (kJ (PW.pt (oJ (fE (eO gv (aa 1) aD (bA _)) (gc (eO k_ (aa 1) (iw (v:=.int 1000000000) rfl T.L3 ⟨_,rfl⟩) (bA _)))))) gu bT)
   (aF (eV PassesOwn.never rfl (e9 (aa 0)) (jT rfl (dH (bI (i:=3) Ks.nd rfl (Or.inl rfl)) (dH (bI (i:=4) Ks.nd rfl (Or.inl rfl)) jS)))
   (aL (kJ (eO uw (aR AY (aa 1) (aa 4)) aD (bA _)) gu bT)))
   (aL (kJ (PW.pt (oJ (fE (eO gv (aa 2) aD (bA _)) (gc (eO qK (aa 2) (aa 1) (bA _)))))) gu bT)))),?_⟩
  walk_at "rdm";refine⟨by lia,by lia,?_⟩
  refine rl a (ts.map V.ref) (λi σ H'=>∃r c,σ = [some (.ref a),some (.int aJ),some (.int dX),r,c]/\H' = H) (λQ q=>q) hz.sq ⟨none,none,rfl,rfl⟩ (by rintro i σ H' _ ⟨r,c,rfl,rfl⟩;exact hz.sq) ?_ ?_
  ·rintro i x σ H' N hN hx ⟨r,c,rfl,rfl⟩;obtain⟨t,p,rfl,hp,ht⟩:=hz.at hx;refine lK (bD.of ht) rfl ?_;obtain⟨g1,g2,g3,g4⟩:=ok.r p (get_mem hp);have g5:=hd p (get_mem hp);walk_at "rdm";exact⟨by lia,g5,hN _ _ ⟨_,_,rfl,rfl⟩⟩
  ·rintro σ H' ⟨r,c,rfl,rfl⟩;walk_at "rdm";exact⟨by lia,by lia,q⟩
theorem agE(T:Tx K mg A)(aA:au mg base A.bg A.aQ)(aB:au mg base A.bq A.aX)(aC:au mg base A.br A.aY):aZ P w K mg base bu 1 A.B7 A.B8 ["swing"] (acG K):=by
 refine T.Li.ok Ku (λvs H Q E h=>?_) (λaU Ar outer s H vs Q E hr h=>?_)
 ·obtain⟨a,sw,n,rfl,_⟩:=h
  rfl
 ·obtain⟨a,sw,n,rfl,hS,ok,hn,q⟩:=h;refine⟨_,(aL (eV PassesOwn.never rfl (pB rfl T.gZ (ah aD (ah (bY fK rfl T.dg boot_len (ah (aa 0) aq)) aq))) (bI (i:=1) Ku.nd rfl (Or.inl rfl))
   (aL (eV PassesOwn.never rfl (pB rfl T.gZ (ah aD (ah (aR jt (aR IK (aa 1) aD) aD) aq))) (bI (i:=2) Ku.nd rfl (Or.inl rfl))
   (aL (cF (cD k_ (bM fj (aa 0) (aa 1) (λ_ _=>rfl)) (aR e_ (bM fj (aa 0) (aa 2) (λ_ _=>rfl)) (bM fj (aa 0) (aR lV (aa 1) (aa 2)) (λ_ _=>rfl))) (bA _)) gu bT)))))),?_⟩
  walk_at "rdm";have hl:=ok.len;have h2:=ok.two;refine pM 2 (sw.length:Int) (λi σ H'=>∃r c,σ = [some (.ref a),r,c]/\H' = H) (λQ q=>?_) (by lia) (by lia) (by lia) (by lia) ⟨none,none,rfl,rfl⟩ ?_ ?_
  ·walk_at "rdm";refine⟨_,.inl hS,?_⟩;simpa using q
  ·rintro i σ H' N hN hi ⟨r,c,rfl,rfl⟩;walk_at "rdm";refine pM 1 ((2+(i:Int)) / 2+1) (λj σ H2=>∃c,σ = [some (.ref a),some (.int (2+(i:Int))),c]/\H2=H') (λQ q=>?_) (by lia) (by lia) (by lia) (by lia) ⟨_,rfl,rfl⟩ ?_ ?_
   ·walk_at "rdm";exact q
   ·rintro j σ H2 N2 uO hj ⟨c,rfl,rfl⟩;walk_at "rdm";have e1:((2:Int)+(i:Int)).toNat=(1+j)+(1+i - j):=by lia
    have e2:((1:Int)+(j:Int)).toNat=1+j:=by lia
    have e3:((2:Int)+(i:Int) - (1+(j:Int))).toNat=1+i - j:=by lia
    have g:=ok.no (1+j) (1+i - j) (by lia) (by lia) (by lia)
    refine⟨_,hS,_,jG (by lia) (by lia),_,hS,_,jG (by lia) (by lia),_,hS,_,jG (by lia) (by lia),?_⟩
    walk_at "rdm";rw[e1,e2,e3];exact⟨by lia,uO _ _ ⟨_,rfl,rfl⟩⟩
   ·rintro σ H2 ⟨c,rfl,rfl⟩;exact hN _ _ ⟨_,_,rfl,rfl⟩
  ·rintro σ H' ⟨r,c,rfl,rfl⟩;exact q
theorem agF(T:Tx K mg A)(aA:au mg base A.bg A.aQ)(aB:au mg base A.bq A.aX)(aC:au mg base A.br A.aY):aZ P w K mg base bu 1 A.B9 A.B_ ["zones"] (Rt K):=by
 refine T.Lj.ok A2 (λvs H Q E h=>?_) (λaU Ar outer s H vs Q E hr h=>?_)
 ·obtain⟨a,ts,z,rfl,_⟩:=h
  rfl
 ·obtain⟨a,ts,z,rfl,hz,ok,q⟩:=h;refine⟨_,(aF (bF (i:=1) A2.nd rfl (Or.inl rfl) (fF aq))
   (aF (eV PassesOwn.never rfl (e9 (aa 0)) (jT rfl (dH (bI (i:=2) A2.nd rfl (Or.inl rfl)) (dH (bI (i:=3) A2.nd rfl (Or.inl rfl)) jS)))
   (aL (dh (jE PySem.F.plainAttrs_list PySem.F.slot_list_extend PySem.F.type_list_extend zP (aa 1) (ah (aR zR (fF (ah (aa 3) aq)) (aa 2)) aq)))))
   (aL (bw (aa 1))))),?_⟩
  walk_at "rdm";refine λl hl=>?_;refine rl a (ts.map V.ref) (λi σ H'=>∃r c,σ = [some (.ref a),some (.ref l),r,c]/\aj H H'/\H' l=some (.lst ((counts (z.take i)).map V.int))) (λQ q=>q) (aj.put hl |>.seq hz.sq) ⟨none,none,rfl,aj.put hl,aH⟩ (by rintro i σ H' _ ⟨r,c,rfl,hs,_⟩;exact hs.seq hz.sq) ?_ ?_
  ·rintro i x σ H' N hN hx ⟨r,c,rfl,hs,h1⟩;obtain⟨t,p,rfl,hp,ht⟩:=hz.at hx;refine lK (bD.of (hs _ _ ht)) rfl ?_;obtain⟨g1,g2,g3,g4⟩:=ok.r p (get_mem hp);have g5:=Ro ok i;walk_at "rdm";refine⟨⟨_,aE.of h1⟩,λp1 fJ=>⟨by lia,by lia,by lia,λp2 lE=>?_⟩⟩
   have s1:=(aj.put (o:=.lst [V.int p.2]) fJ).trans (aj.put (o:=.lst (List.replicate p.1.toNat [V.int p.2]).flatten) lE);refine⟨_,s1 _ _ h1,?_,hN _ _ ⟨_,_,rfl,aj.put2 (hs.trans s1) hl,?_⟩⟩
   ·simp only[Ab,List.length_map,List.length_replicate];lia
   ·rw[aH,take_succ_get hp,Hj,List.map_append,Ab];simp[counts]
  ·rintro σ H' ⟨r,c,rfl,hs,h1⟩;walk_at "rdm";rw[lenZ hz.n,List.take_length] at h1;exact q _ _ hs hl h1
theorem agG(T:Tx K mg A)(aA:au mg base A.bg A.aQ)(aB:au mg base A.bq A.aX)(aC:au mg base A.br A.aY):aZ P w K mg base bu 1 A.Ca A.Cb ["ring_cells", "spares"] (acH K):=by
 refine T.Lk.ok xu (λvs H Q E h=>?_) (λaU Ar outer s H vs Q E hr h=>?_)
 ·obtain⟨a,rc,s,rfl,_⟩:=h
  rfl
 ·obtain⟨a,rc,s,rfl,hS,hl,hc,kE,L_,q⟩:=h;refine⟨_,(aF (bF (i:=2) xu.nd rfl (Or.inl rfl) (fF aq))
   (aF (eV PassesOwn.never rfl (vZ rfl T.qm (ah (aa 0) aq)) (jT rfl (dH (bI (i:=3) xu.nd rfl (Or.inl rfl)) (dH (bI (i:=4) xu.nd rfl (Or.inl rfl)) jS)))
   (aL (eV PassesOwn.never rfl (sU rfl T.gZ (ah (aR lV (aa 4) (aa 1)) aq)) (bI (i:=5) xu.nd rfl (Or.inl rfl))
   (aL (dh (jE PySem.F.plainAttrs_list PySem.F.slot_list_append PySem.F.type_list_append lA (aa 2) (ah (i9 (ah (aa 3) (ah (aa 5) aq))) aq)))))))
   (aL (bw (aa 2))))),?_⟩
  walk_at "rdm";refine λl gh=>?_;have oq:=acz (s:=s) kE (λc hx=>hc c hx);refine re a (rc.map V.int) (λi σ H'=>∃r c pl ts,σ = [some (.ref a),some (.int s),some (.ref l),r,c,pl]/\aj H H'/\(∀t∈ts,H t=none)/\Zn H' l ts (e7 s 0 (rc.take i))) (λQ q=>?_) (aj.put gh |>.seq hS)
   ⟨none,none,none,[],rfl,aj.put gh,(by intro t ht;cases ht),aH,rfl,by intro i t p h;simp at h⟩ (by rintro i σ H' _ ⟨r,c,pl,ts,rfl,hs,_⟩;exact hs.seq hS) ?_ ?_
  ·walk_at "rdm";exact q
  ·rintro i x σ H' T1 N hN hx ⟨r,c,pl,ts,rfl,hs,ju,hz⟩ hT;obtain⟨c0,Ma,rfl⟩:=fG hx;obtain⟨g1,g2⟩:=hc c0 (get_mem Ma);refine lK (bD.of aH) rfl ?_;walk_at "rdm";have Xm:=aj.put (o:=.tup [.int i,.int c0]) hT;refine acA (c0 - s) (λj σ H2=>∃pl ts,σ = [some (.ref a),some (.int s),some (.ref l),some (.int i),some (.int c0),pl]/\aj H H2/\(∀t∈ts,H t=none)/\Zn H2 l ts (e7 s 0 (rc.take i)++(List.range j).map λ(k:Nat)=>((i:Int),(k:Int)))) (λQ q=>?_) (by lia) (by lia) ?_ ?_ ?_
   ·walk_at "rdm";exact q
   ·exact⟨_,ts,rfl,hs.trans Xm,ju,by simpa using hz.same Xm⟩
   ·rintro j σ H2 N2 uO hj ⟨pl,ts,rfl,iL,Mb,oW⟩;walk_at "rdm";refine⟨⟨_,oW.sq⟩,λp hp=>⟨_,aj.put hp _ _ oW.l,?_,uO _ _ ⟨_,ts++[p],rfl,aj.put2 (iL.trans (aj.put hp)) gh,?_,?_⟩⟩⟩
    ·have h1:=oW.n;have h2:=oq i;simp only[List.length_map,List.length_append,List.length_range] at h1 ⊢;lia
    ·intro t ht;rcases List.mem_append.mp ht with ht | ht
     ·exact Mb t ht
     ·rw[List.mem_singleton.mp ht];exact iL.free hp
    ·have:=oW.snoc hp (i:Int) (j:Int);rw[List.range_succ,List.map_append,← List.append_assoc];exact this
   ·rintro σ H2 ⟨pl,ts,rfl,iL,Mb,oW⟩;refine hN _ _ ⟨_,_,_,ts,rfl,iL,Mb,?_⟩;rw[take_succ_get Ma,Rl];have hi:=dM Ma;simpa[e7,Nat.min_eq_left (Nat.le_of_lt hi)] using oW
  ·rintro σ H' ⟨r,c,pl,ts,rfl,hs,ju,hz⟩;walk_at "rdm";rw[List.length_map,List.take_length] at hz;exact q _ _ _ hs gh ju hz
theorem agH(T:Tx K mg A)(aA:au mg base A.bg A.aQ)(aB:au mg base A.bq A.aX)(aC:au mg base A.br A.aY):aZ P w K mg base bu 1 A.Cc A.Cd ["number_cells"] (acI K):=by
 refine T.Ll.ok A3 (λvs H Q E h=>?_) (λaU Ar outer s H vs Q E hr h=>?_)
 ·obtain⟨a,ts,z,rfl,_⟩:=h
  rfl
 ·obtain⟨a,ts,z,rfl,hz,hlen,q⟩:=h;have hu:=jF hr;refine⟨_,(aF (bF (i:=1) A3.nd rfl (Or.inl rfl) abZ)
   (aF (eV PassesOwn.never rfl (vZ rfl T.qm (ah (aa 0) aq)) (jT rfl (dH (bI (i:=2) A3.nd rfl (Or.inl rfl)) (dH (bI (i:=3) A3.nd rfl (Or.inl rfl)) jS)))
   (aL (zU hu (aa 1) (aa 3) (aa 2) rfl)))
   (aL (bw (aa 1))))),?_⟩
  walk_at "rdm";refine λd hd=>?_;refine re a (ts.map V.ref) (λi σ H'=>∃r c,σ = [some (.ref a),some (.ref d),r,c]/\aj H H'/\i<=z.length/\H' d=some (.dT (iy 0 (z.take i) []))) (λQ q=>?_) (aj.put hd |>.seq hz.sq)
   ⟨none,none,rfl,aj.put hd,Nat.zero_le _,aH⟩ (by rintro i σ H' _ ⟨r,c,rfl,hs,_⟩;exact hs.seq hz.sq) ?_ ?_
  ·walk_at "rdm";exact q
  ·rintro i x σ H' T1 N hN hx ⟨r,c,rfl,hs,hi,h1⟩ hT;obtain⟨t,p,rfl,hp,ht⟩:=hz.at hx;refine lK (bD.of aH) rfl ?_;walk_at "rdm";have L_:=hs.trans (aj.put (o:=.tup [.int i,.ref t]) hT);have hl:=Rn (z.take i) 0 [];have Ey:=dM hp;rw[List.length_take,List.length_nil] at hl;refine⟨_,lD.t (k:=kT p) (aj.put hT _ _ h1) (L_ _ _ ht) (by rw[pK];lia),hN _ _ ⟨_,_,rfl,aj.put2 L_ hd,Ey,?_⟩⟩
   rw[aH,take_succ_get hp,Rm];simp[iy,Nat.min_eq_left (Nat.le_of_lt Ey)]
  ·rintro σ H' ⟨r,c,rfl,hs,hi,h1⟩;walk_at "rdm";rw[lenZ hz.n,List.take_length] at h1;exact q _ _ hs hd h1
theorem aoh(T:Tx K mg A)(aA:au mg base A.bg A.aQ)(aB:au mg base A.bq A.aX)(aC:au mg base A.br A.aY):aZ P w K mg base bu 1 A.xO A.Cg ["self"] (acL K):=by
 refine T.Vj.ok afZ (λvs H Q E h=>?_) (λaU Ar outer s H vs Q E hr h=>?_)
 ·obtain⟨C,p,P,fp,rfl,_⟩:=h
  rfl
 ·obtain⟨C,p,P,fp,rfl,hP,q⟩:=h;obtain⟨dx,a1,a2,a3,a4,ts,fs,rfl,h⟩:=hP;refine⟨_,(aL (bw (bY fK rfl T.dg boot_len (ah (cI (aa 0) rfl) aq)))),?_⟩;wp_walk using T,h.o,h.f1,h.f2,h.f3,h.f4,h.f5,h.f6,h.m1,h.m2,h.m3,h.m4,h.m5,h.m6,h.m7,h.m8,h.m9,h.g9,h.iz,h.cp.cl,h.cp.n1,h.cp.n2,h.cp.n3,h.cp.n4,h.cp.n5,h.cp.n6;exact⟨_,.inl (aE.of h.rc),by simpa  using q⟩
theorem Xn(T:Tx K mg A)(aA:au mg base A.bg A.aQ)(aB:au mg base A.bq A.aX)(aC:au mg base A.br A.aY):aZ P w K mg base bu 1 A.xP A.Ci ["self"] (acM K):=by
 refine T.Vl.ok af0 (λvs H Q E h=>?_) (λaU Ar outer s H vs Q E hr h=>?_)
 ·obtain⟨C,p,P,fp,rfl,_⟩:=h
  rfl
 ·obtain⟨C,p,P,fp,rfl,hP,q⟩:=h;obtain⟨dx,a1,a2,a3,a4,ts,fs,rfl,h⟩:=hP;refine⟨_,(aL (bw (bY fK rfl T.dg boot_len (ah (cI (aa 0) rfl) aq)))),?_⟩;wp_walk using T,h.o,h.f1,h.f2,h.f3,h.f4,h.f5,h.f6,h.m1,h.m2,h.m3,h.m4,h.m5,h.m6,h.m7,h.m8,h.m9,h.g9,h.iz,h.cp.cl,h.cp.n1,h.cp.n2,h.cp.n3,h.cp.n4,h.cp.n5,h.cp.n6;exact⟨_,.inl (h.nc.sq),by simpa[h.nc.n] using q⟩
theorem agI(T:Tx K mg A)(aA:au mg base A.bg A.aQ)(aB:au mg base A.bq A.aX)(aC:au mg base A.br A.aY):aZ P w K mg base bu 1 A.xQ A.Cj ["self", "ring"] (acO K):=by
 refine T.Vn.ok af1 (λvs H Q E h=>?_) (λaU Ar outer s H vs Q E hr h=>?_)
 ·obtain⟨C,p,P,fp,r,rfl,_⟩:=h
  rfl
 ·obtain⟨C,p,P,fp,r,rfl,hP,h0,h1,q⟩:=h;obtain⟨dx,a1,a2,a3,a4,ts,fs,rfl,h⟩:=hP;refine⟨_,(aL (bw (bM fj (cI (aa 0) rfl) (aa 1) (λ_ _=>rfl)))),?_⟩;wp_walk using T,h.o,h.f1,h.f2,h.f3,h.f4,h.f5,h.f6,h.m1,h.m2,h.m3,h.m4,h.m5,h.m6,h.m7,h.m8,h.m9,h.g9,h.iz,h.cp.cl,h.cp.n1,h.cp.n2,h.cp.n3,h.cp.n4,h.cp.n5,h.cp.n6;exact⟨_,aE.of h.rc,_,jG h0 h1,q⟩
theorem Mc(T:Tx K mg A)(aA:au mg base A.bg A.aQ)(aB:au mg base A.bq A.aX)(aC:au mg base A.br A.aY):aZ P w K mg base bu 1 A.xR A.Ck ["self", "ring"] (acP K):=by
 refine T.Vq.ok af2 (λvs H Q E h=>?_) (λaU Ar outer s H vs Q E hr h=>?_)
 ·obtain⟨C,p,P,fp,r,rfl,_⟩:=h
  rfl
 ·obtain⟨C,p,P,fp,r,rfl,hP,h0,h1,h2,h3,q⟩:=h;obtain⟨dx,a1,a2,a3,a4,ts,fs,rfl,h⟩:=hP;refine⟨_,(aL (bw (aR zI (cI (aa 0) rfl) (bM fj (cI (aa 0) rfl) (aa 1) (λ_ _=>rfl))))),?_⟩;wp_walk using T,h.o,h.f1,h.f2,h.f3,h.f4,h.f5,h.f6,h.m1,h.m2,h.m3,h.m4,h.m5,h.m6,h.m7,h.m8,h.m9,h.g9,h.iz,h.cp.cl,h.cp.n1,h.cp.n2,h.cp.n3,h.cp.n4,h.cp.n5,h.cp.n6;refine⟨_,aE.of h.rc,_,jG h0 h1,?_⟩;walk_at "rdm";exact⟨h2,by lia,q⟩
theorem Me(T:Tx K mg A)(aA:au mg base A.bg A.aQ)(aB:au mg base A.bq A.aX)(aC:au mg base A.br A.aY):aZ P w K mg base bu 1 A.xS A.Cm ["self"] (acN K):=by
 refine T.Vs.ok af3 (λvs H Q E h=>?_) (λaU Ar outer s H vs Q E hr h=>?_)
 ·obtain⟨C,p,P,fp,rfl,_⟩:=h
  rfl
 ·obtain⟨C,p,P,fp,rfl,hP,q⟩:=h;obtain⟨dx,a1,a2,a3,a4,ts,fs,rfl,h⟩:=hP;refine⟨_,(aL (bw (cI (aa 0) rfl))),?_⟩;wp_walk using T,h.o,h.f1,h.f2,h.f3,h.f4,h.f5,h.f6,h.m1,h.m2,h.m3,h.m4,h.m5,h.m6,h.m7,h.m8,h.m9,h.g9,h.iz,h.cp.cl,h.cp.n1,h.cp.n2,h.cp.n3,h.cp.n4,h.cp.n5,h.cp.n6;exact q
theorem agJ(T:Tx K mg A)(aA:au mg base A.bg A.aQ)(aB:au mg base A.bq A.aX)(aC:au mg base A.br A.aY):aZ P w K mg base bu 1 A.xU A.Co ["self", "ring", "other"] (acK K):=by
 refine T.Vx.ok af5 (λvs H Q E h=>?_) (λaU Ar outer s H vs Q E hr h=>?_)
 ·obtain⟨C,p,P,fp,i,j,rfl,_⟩:=h
  rfl
 ·obtain⟨C,p,P,fp,i,j,rfl,hP,hi,q⟩:=h;obtain⟨dx,a1,a2,a3,a4,ts,fs,rfl,h⟩:=hP;refine⟨_,(aL (bw (bM fj (cI (aa 0) rfl) (bY PU rfl T.yJ boot_abs (ah (aR lV (aa 1) (aa 2)) aq)) (λ_ _=>rfl)))),?_⟩;wp_walk using T,h.o,h.f1,h.f2,h.f3,h.f4,h.f5,h.f6,h.m1,h.m2,h.m3,h.m4,h.m5,h.m6,h.m7,h.m8,h.m9,h.g9,h.iz,h.cp.cl,h.cp.n1,h.cp.n2,h.cp.n3,h.cp.n4,h.cp.n5,h.cp.n6;refine⟨_,aE.of h.sw,_,jG (k:=if i - j<0 then -(i - j) else i - j) (by split <;> lia) (by split <;> lia),?_⟩
  have e:(if i - j<0 then -(i - j) else i - j).toNat=(i - j).natAbs:=by split <;> lia
  rw[e];exact q
theorem agK(T:Tx K mg A)(aA:au mg base A.bg A.aQ)(aB:au mg base A.bq A.aX)(aC:au mg base A.br A.aY):aZ P w K mg base bu 1 A.xV A.Cp ["self", "ring", "place"] (acR K):=by
 refine T.VA.ok af6 (λvs H Q E h=>?_) (λaU Ar outer s H vs Q E hr h=>?_)
 ·obtain⟨C,p,P,fp,r,c,rfl,_⟩:=h
  rfl
 ·obtain⟨C,p,P,fp,r,c,rfl,hP,q⟩:=h;obtain⟨dx,a1,a2,a3,a4,ts,fs,rfl,h⟩:=hP;refine⟨_,(aF (kJ (PW.pt (oJ (fE (eO gv (aa 1) aD (bA _)) (gc (eO qK (aa 1) (bY fK rfl T.dg boot_len (ah (cI (aa 0) rfl) aq)) (bA _)))))) (aL (bw i8)) bT)
   (aL (bw (sQ (iN qK (aa 2) aD (bA _)) (sO (iN gv (aa 2) (bM fj (cI (aa 0) rfl) (aa 1) (λ_ _=>rfl)) (bA _))))))),?_⟩
  wp_walk using h.o,h.f1,h.f2,h.f3,h.f4,h.f5,h.f6,h.m1,h.m2,h.m3,h.m4,h.m5,h.m6,h.m7,h.m8,h.m9,h.g9,h.iz,h.cp.cl,h.cp.n1,h.cp.n2,h.cp.n3,h.cp.n4,h.cp.n5,h.cp.n6;refine cN (λh0=>?_) (λh0=>⟨_,.inl (aE.of h.rc),cN (λh1=>?_) (λh1=>?_)⟩)
  ·rw[decide_eq_false (by lia)] at q;exact q
  ·rw[List.length_map] at h1;rw[decide_eq_false (by lia)] at q;exact q
  ·rw[List.length_map] at h1;refine cN (λh2=>⟨_,aE.of h.rc,_,jG (by lia) (by lia),?_⟩) (λh2=>?_)
   ·walk_at "rdm";have e:decide (c<P.rc.getD r.toNat 0)=decide (0<=r/\r<P.rc.length/\0<=c/\c<P.rc.getD r.toNat 0):=by
     by_cases h3:c<P.rc.getD r.toNat 0
     ·rw[decide_eq_true h3,decide_eq_true ⟨by lia,by lia,h2,h3⟩]
     ·rw[decide_eq_false h3,decide_eq_false (by lia)]
    rw[e];exact q
   ·rw[decide_eq_false (by lia)] at q;exact q
theorem agL(T:Tx K mg A)(aA:au mg base A.bg A.aQ)(aB:au mg base A.bq A.aX)(aC:au mg base A.br A.aY):aZ P w K mg base bu 1 A.xW A.Cq ["self", "number"] (acS K):=by
 refine T.VD.ok af7 (λvs H Q E h=>?_) (λaU Ar outer s H vs Q E hr h=>?_)
 ·obtain⟨C,p,P,fp,k,rfl,_⟩:=h
  rfl
 ·obtain⟨C,p,P,fp,k,rfl,hP,h0,h1,q⟩:=h;obtain⟨dx,a1,a2,a3,a4,ts,fs,rfl,h⟩:=hP;refine⟨_,(aF (kJ (PW.pt (oJ (fE (eO gv (aa 1) aD (bA _)) (gc (eO qK (aa 1) (bY fK rfl T.dg boot_len (ah (cI (aa 0) rfl) aq)) (bA _)))))) gu bT)
   (aL (bw (bM fj (cI (aa 0) rfl) (aa 1) (λ_ _=>rfl))))),?_⟩
  wp_walk using h.o,h.f1,h.f2,h.f3,h.f4,h.f5,h.f6,h.m1,h.m2,h.m3,h.m4,h.m5,h.m6,h.m7,h.m8,h.m9,h.g9,h.iz,h.cp.cl,h.cp.n1,h.cp.n2,h.cp.n3,h.cp.n4,h.cp.n5,h.cp.n6;have hn:=h.nc.n;refine⟨by lia,_,.inl h.nc.sq,by rw[List.length_map];lia,?_⟩
  have hk:k.toNat<ts.length:=by lia
  have g1:(ts.map V.ref)[k.toNat]? = some (V.ref ts[k.toNat]):=by simp[hk]
  obtain⟨t,q',e1,e2,e3⟩:=h.nc.at g1;have ek:k=(k.toNat:Int):=by lia
  refine⟨_,h.nc.sq,V.ref ts[k.toNat],?_,?_⟩
  ·have:=gA g1;rwa [← ek] at this
  ·rw[e1];exact q t q' e2 e3
theorem agM(T:Tx K mg A)(aA:au mg base A.bg A.aQ)(aB:au mg base A.bq A.aX)(aC:au mg base A.br A.aY):aZ P w K mg base bu 1 A.Cz A.CB ["asks", "number"] (adv K A.a_):=by
 refine T.Lr.ok agb (λvs H Q E h=>?_) (λaU Ar outer s H vs Q E hr h=>?_)
 ·obtain⟨la,ps,qs,k,q',rfl,_⟩:=h
  rfl
 ·obtain⟨la,ps,qs,k,q',rfl,ha,hk,up,q⟩:=h;refine⟨_,(aL (cF (PW.pt (FY (eO k_ (aa 1) aD (bA _)) (FW (cD gv (dI (bM fj (aa 0) (aa 1) (λ_ _=>rfl)) rfl) (dI (bM fj (aa 0) (aR lV (aa 1) aD) (λ_ _=>rfl)) rfl) (bA _))))) gu bT)),?_⟩;walk_at "rdt";refine cN (λh0=>?_) (λh0=>q)
  obtain⟨p,m,b,dx,e1,a1⟩:=ha.at hk;have Mf:=(List.getElem?_eq_some_iff.mp hk).1;have h1:k - 1<qs.length:=by lia
  obtain⟨p0,m0,b0,Xo,e2,a2⟩:=ha.at (List.getElem?_eq_getElem h1);have up':=up _ (by lia) (List.getElem?_eq_getElem h1)
  have e2':gg (ps.map V.ref) ((k:Int) - 1)=some (.ref p0):=by
   have:=gA e2;rwa [show ((k - 1:Nat):Int)=(k:Int) - 1 by lia] at this
  refine⟨_,aE.of ha.l,_,gA e1,_,rfl,_,_,_,a1.o,T.kN,T.qj,_,rfl,_,aE.of ha.l,_,e2',_,rfl,_,_,_,a2.o,T.kN,T.qj,_,rfl,_,rfl,_,rfl,by lia,q⟩
theorem agN(T:Tx K mg A)(aA:au mg base A.bg A.aQ)(aB:au mg base A.bq A.aX)(aC:au mg base A.br A.aY):aZ P w K mg base bu 1 A.CF A.CG ["asks", "number"] (adw K A.a_):=by
 refine T.Ls.ok TX (λvs H Q E h=>?_) (λaU Ar outer s H vs Q E hr h=>?_)
 ·obtain⟨la,ps,qs,k,q',rfl,_⟩:=h
  rfl
 ·obtain⟨la,ps,qs,k,q',rfl,ha,hk,bl,bh,q⟩:=h;refine⟨_,(aL (eV PassesOwn.never rfl (Ge (dI (bM fj (aa 0) (aa 1) (λ_ _=>rfl)) rfl)) (bI (i:=2) TX.nd rfl (Or.inl rfl))
   (aL (cF (PW.pt (fE (eO qK (aa 2) (aa 1) (bA _)) (gc (cD eX (dI (bM fj (aa 0) (aa 2) (λ_ _=>rfl)) rfl) cQ (bA _))))) gu bT)))),?_⟩
  walk_at "rdt";obtain⟨p,m,b,dx,e1,a1⟩:=ha.at hk;refine rt b (q'.behind.map V.int) (λi σ H'=>∃(x:Option V),σ = [some (.ref la),some (.int (k:Int)),x]/\H' = H) (λQ q=>?_) (bD.of a1.bh) ⟨none,rfl,rfl⟩ (by rintro i σ H' _ ⟨_,rfl,rfl⟩;exact bD.of a1.bh) ?_ ?_
  ·walk_at "rdm";exact⟨_,aE.of ha.l,_,gA e1,_,rfl,_,_,_,a1.o,T.kN,T.yD,_,rfl,q⟩
  ·rintro i x σ H' N hN hx ⟨x0,rfl,rfl⟩;obtain⟨n,hn,rfl⟩:=fG hx;obtain⟨j,q0,rfl,hj,e2,kr⟩:=bh n (List.mem_of_getElem? hn);obtain⟨p0,m0,b0,Xo,e3,a2⟩:=ha.at e2;walk_at "rdm";exact⟨by lia,_,aE.of ha.l,_,gA e3,_,rfl,_,_,_,a2.o,T.kN,T.yz,_,rfl,rfl,λz=>kr (V.str.inj z),hN _ _ ⟨_,rfl,rfl⟩⟩
  ·rintro σ H' ⟨x0,rfl,rfl⟩;exact q
theorem agO(T:Tx K mg A)(aA:au mg base A.bg A.aQ)(aB:au mg base A.bq A.aX)(aC:au mg base A.br A.aY):aZ P w K mg base bu 1 A.CO A.CQ ["self"] (aeB K A.bN A.a_ A.bK):=by
 refine T.VY.ok TZ (λvs H Q E h=>?_) (λaU Ar outer s H vs Q E hr h=>?_)
 ·obtain⟨x,dx,kp,ks,kk,p,r,b,Dx,ls,rfl,_⟩:=h
  rfl
 ·obtain⟨x,dx,kp,ks,kk,p,r,b,Dx,ls,rfl,hc,l1,q⟩:=h;have hn:=hc.n;have ho:=hc.o;unfold e8 at ho;refine⟨_,(aF (SG (z9 (i:=1) TZ.nd rfl (Or.inl rfl) (N:=["due"]) (nt:=1) (fv:=[]) (cW.of rfl rfl (by rfl) (by rfl) (by repeat (first | exact trivial | refine⟨rfl,?_⟩)) (by rfl) (by rfl) (by rfl) (by decide) (by decide +kernel)) rfl (Sx (cI (aa 0) rfl)) (λC s H fp=>(bI (i:=0) (show List.Nodup (["due"]:List Str) by decide +kernel) rfl (Or.inl rfl))) (λC s H fp=>jg) (λC s H fp=>(lW (K:=K) rfl (lW (K:=K) rfl (aa 0) rfl) rfl))))
   (aL (gq (aa 0) (bY (PV rfl) rfl T.yM boot_max (ah (cI (aa 0) rfl) (ah (aer rfl T.lY rfl (aa 1) (cI (aa 0) rfl)) aq))) rfl))),?_⟩
  refine SH Dx (c9 ls) (λob D i ys az H2=>∃(u:Option V),ys=(ls.take i).map (λy=>V.int y.1.q.at_)/\az = [u]/\H2 D=some (.lst ys)/\H2 Dx=some (.cS ob (.dK (c9 ls)))/\cu x Dx H H2/\H D=none/\H2 x=H x) (λQ q=>?_) hc.d hc.nf ?_ ?_ ?_ ?_
  ·wp_walk using T,ho;exact q
  ·intro ob D nD;have n1:Dx≠D:=cO hc.d nD;have n2:x≠D:=cO hc.o nD;have n3:=hc.ne;exact⟨none,rfl,rfl,aH,by rw[aI n1,aH],(cu.of (λ_ _ e=>e)).um.put nD,nD,by rw[aI n2,aI n3]⟩
  ·rintro ob D i ys az H2 ⟨u,rfl,rfl,e1,e2,e3,e4,e5⟩;exact⟨e1,gB (by simp only[List.length_map,List.length_take];lia),e2⟩
  ·rintro ob D i y ys az H2 N hN hy ⟨u,rfl,rfl,e1,e2,e3,e4,e5⟩;unfold c9 at hy;obtain⟨z,hz,rfl⟩:=fG hy;have hi:i<ls.length:=dM hz;have rZ:z=ls[i]:=by rw[List.getElem?_eq_getElem hi] at hz;exact(Option.some.inj hz).symm
   subst rZ;obtain⟨cZ,ap,l,ts,m,b',bH,hD⟩:=hc.uo e3 (hc.t _ (List.getElem_mem hi));have dF:=hD.o;have qo:=hD.a.o;unfold iW at dF;unfold fZ at qo;wp_walk using T,dF,qo;have n1:Dx≠D:=cO hc.d e4;have n2:x≠D:=cO hc.o e4;refine⟨e1,hN _ _ _ ⟨_,?_,rfl,aH,by rw[aI n1];exact e2,e3.put e4,e4,by rw[aI n2];exact e5⟩⟩
   rw[take_succ_get (List.getElem?_eq_getElem hi),List.map_append];rfl
  ·rintro ob D ys az H2 ⟨u,rfl,rfl,e1,e2,e3,e4,e5⟩;have n1:Dx≠D:=cO hc.d e4;have n3:=hc.ne;have lu:upd H2 Dx (.dK (c9 ls)) x=some (.ins A.bN dx [("keeping",V.ref kp),("plate",V.ref p),("ring",V.int r),("beat",V.int b),("left",V.ref Dx)]):=by rw[aI n3,e5];exact ho
   rw[wU,List.take_length] at e1;wp_walk using T,Sy,lu;refine⟨ls.map (λy=>y.1.q.at_),aE.of (by rw[aI (Ne.symm n1),List.map_map];exact e1),by rw[List.length_map];lia,λM hM hl=>?_⟩
   have bc:cu x Dx H (upd (upd H2 Dx (.dK (c9 ls))) x (.ins A.bN dx [("keeping",V.ref kp),("plate",V.ref p),("ring",V.int r),("beat",V.int (if b<M then M else b)),("left",V.ref Dx)])):=e3.um.Io
   refine q _ _ ⟨M,?_,λy hy=>hl _ (List.mem_map.mpr ⟨y,hy,rfl⟩),rfl⟩ bc (hc.step bc (.refl _) aH (by rw[aI (Ne.symm n3),aH]))
   obtain⟨y,hy,e⟩:=List.mem_map.mp hM;exact⟨y,hy,e⟩
theorem agP(T:Tx K mg A)(aA:au mg base A.bg A.aQ)(aB:au mg base A.bq A.aX)(aC:au mg base A.br A.aY):aZ P w K mg base bu 1 A.CT A.CU ["self", "number"] (aeC K A.bN A.a_ A.bK):=by
 refine T.V1.ok agc (λvs H Q E h=>?_) (λaU Ar outer s H vs Q E hr h=>?_)
 ·obtain⟨x,dx,kp,ks,kk,p,r,b,Dx,ls,n,ns,rfl,_⟩:=h
  rfl
 ·obtain⟨x,dx,kp,ks,kk,p,r,b,Dx,ls,n,ns,rfl,hc,hk,hn,q⟩:=h;have hu:=jF hr;have ho:=hc.o;unfold e8 at ho;have hkn:=hc.k.n;have hnk:n<kk.length:=dM hk;have agQ:n<ks.length:=by lia
  have zM:=List.getElem?_eq_getElem agQ;have Xp:=hc.k.t n _ ns zM hk;refine⟨_,(aL (bw (bY (Ah rfl) rfl T.rT boot_any (ah (gJ (N:=["other", "self"]) (nt:=1) (fv:=[0]) (cW.of rfl rfl (by rfl) (by rfl) (by repeat (first | exact trivial | refine⟨rfl,?_⟩)) (by rfl) (by rfl) (by rfl) (by decide) (by decide +kernel)) rfl (Ge (bM fj (cI (aa 0) rfl) (aa 1) (λ_ _=>rfl))) (λC s H fp=>(bI (i:=0) (show List.Nodup (["other", "self"]:List Str) by decide +kernel) rfl (Or.inl rfl))) (λC s H fp=>jg) (λC s H fp=>(O8 (GW hu (aa 0) (lW (K:=K) rfl (aa 1) rfl))))) aq)))),?_⟩
  walk_at "rdt";refine aex ks[n] (ns.map V.int) (λD i ys az H2=>∃(u:Option V),ys=((ns.take i).map (lR ls)).map V.bl/\az = [u,some (.ref x)]/\H2 D=some (.lst ys)/\aj H H2/\H D=none) (λQ q=>?_) (bD.of Xp) ?_ ?_ ?_ ?_
  ·wp_walk using T,ho;exact⟨_,aE.of hc.k.l,_,gA (by rw[List.getElem?_map,zM];rfl),q⟩
  ·intro D nD;exact⟨none,rfl,rfl,aH,aj.put nD,nD⟩
  ·rintro D i ys az H2 ⟨u,rfl,rfl,e1,e2,e3⟩;exact⟨e1,gB (by simp only[List.length_map,List.length_take];lia),bD.of (e2 _ _ Xp)⟩
  ·rintro D i y ys az H2 N hN hy ⟨u,rfl,rfl,e1,e2,e3⟩;obtain⟨m,hm,rfl⟩:=fG hy;have lu:=e2 _ _ ho;have hd2:=e2 _ _ hc.d;wp_walk using T,lu;refine⟨_,fY.k (k:=c8 m) hd2,e1,hN _ _ _ ⟨_,?_,rfl,aH,aj.put2 e2 e3,e3⟩⟩;rw[take_succ_get hm,List.map_append,List.map_append,SJ];rfl
  ·rintro D ys az H2 ⟨u,rfl,rfl,e1,e2,e3⟩;rw[List.length_map,List.take_length] at e1;refine⟨D,rfl,_,aE.of e1,?_⟩;have ea:(ns.map (lR ls)).any id=ns.any (lR ls):=by rw[List.any_map];rfl
   rw[ea];exact q H2 e2
theorem agR(T:Tx K mg A)(aA:au mg base A.bg A.aQ)(aB:au mg base A.bq A.aX)(aC:au mg base A.br A.aY):aZ P w K mg base bu 1 A.C1 A.C2 ["self", "rows", "taken", "told", "answers", "end"] (SQ A.eT):=by
 refine T.V_.ok agd (λvs H Q E h=>?_) (λaU Ar outer s H vs Q E hr h=>?_)
 ·obtain⟨x,dx,v1,v2,v3,v4,v5,rfl,_⟩:=h
  rfl
 ·obtain⟨x,dx,v1,v2,v3,v4,v5,rfl,hx,q⟩:=h;refine⟨_,(aF (gq (aa 0) (aa 1) rfl)
   (aF (gq (aa 0) (aa 2) rfl)
   (aF (gq (aa 0) (aa 3) rfl)
   (aF (gq (aa 0) (aa 4) rfl)
   (aL (gq (aa 0) (aa 5) rfl)))))),?_⟩
  wp_walk using T,hx;exact q
theorem agS(T:Tx K mg A)(aA:au mg base A.bg A.aQ)(aB:au mg base A.bq A.aX)(aC:au mg base A.br A.aY):aZ P w K mg base bu 1 A.C3 A.C4 ["rows"] (aeJ K):=by
 refine T.Lw.ok rM (λvs H Q E h=>?_) (λaU Ar outer s H vs Q E hr h=>?_)
 ·obtain⟨l,ts,z,rfl,_⟩:=h
  rfl
 ·obtain⟨l,ts,z,rfl,hz,z1,z5,q⟩:=h;have hu:=jF hr;have Xq:=hz.n;refine⟨_,(aF (bF (i:=1) rM.nd rfl (Or.inl rfl) vU)
   (aF (eV PassesOwn.never rfl (e9 (aa 0)) (jT rfl (dH (bI (i:=2) rM.nd rfl (Or.inl rfl)) (dH (bI (i:=3) rM.nd rfl (Or.inl rfl)) (dH (bI (i:=4) rM.nd rfl (Or.inl rfl)) (dH (bI (i:=5) rM.nd rfl (Or.inl rfl)) (dH (bI (i:=6) rM.nd rfl (Or.inl rfl)) jS))))))
   (aL (zU hu (aa 1) (aa 2) (aa 6) rfl)))
   (aL (bw (aa 1))))),?_⟩
  walk_at "rdt";intro kd oV;refine rl l (ts.map V.ref) (λi σ H'=>∃(u1 u2 u3 u4 u5:Option V) (kvs:List (Key×V)),σ = [some (.ref l),some (.ref kd),u1,u2,u3,u4,u5]/\aj H H'/\H' kd=some (.dK kvs)/\kvs.length<=i/\∀n:Int,(∃r∈z.take i,r.head? = some n)->∃e:Int,cL kvs (c8 n)=some (.int e)) (λQ q=>q) (aE.of (aj.put oV _ _ hz.l)) ⟨none,none,none,none,none,[],rfl,aj.put oV,aH,Nat.le_refl _,λn ⟨r,hr,_⟩=>by simp at hr⟩ (by rintro i σ H' _ ⟨_,_,_,_,_,_,rfl,s',_⟩;exact aE.of (s' _ _ hz.l)) ?_ ?_
  ·rintro i x σ H' N hN hx ⟨u1,u2,u3,u4,u5,kvs,rfl,s',hk,hl,hv⟩;obtain⟨t,ht,rfl⟩:=fG hx;have hi:i<z.length:=by rw[← Xq];exact dM ht
   have Mg:=List.getElem?_eq_getElem hi;have hT:=s' _ _ (hz.t i t _ ht Mg);obtain⟨q1,q2,q3,q4,q5,e5⟩:=SO (z5 _ (List.getElem_mem hi));rw[e5] at hT Mg;walk_at "rdt";refine⟨_,bD.of hT,rfl,_,_,rfl,_,_,rfl,_,_,rfl,_,_,rfl,_,_,rfl,rfl,?_⟩;refine⟨_,lD.k (k:=c8 q1) hk (by rw[pK];lia),hN _ _ ⟨_,_,_,_,_,_,rfl,aj.put2 s' oV,aH,?_,λn hn=>?_⟩⟩
   ·have:=Si kvs (c8 q1) (V.int q5);lia
   ·rw[zS];by_cases e:n=q1
    ·subst e;exact⟨q5,by simp⟩
    ·rw[if_neg (λz=>e (wR.mp z))];refine hv n ?_;rw[take_succ_get Mg] at hn;obtain⟨r,hr,hh⟩:=hn;rcases List.mem_append.mp hr with hr | hr
     ·exact⟨r,hr,hh⟩
     ·rw[List.mem_singleton.mp hr] at hh;exact absurd (Option.some.inj hh).symm e
  ·rintro σ H' ⟨u1,u2,u3,u4,u5,kvs,rfl,s',hk,hl,hv⟩;rw[List.length_map,Xq,List.take_length] at hv;walk_at "rdm";exact q kd kvs H' s' oV hk hv
theorem agT(T:Tx K mg A)(aA:au mg base A.bg A.aQ)(aB:au mg base A.bq A.aX)(aC:au mg base A.br A.aY):aZ P w K mg base bu 1 A.C5 A.C6 ["ask"] (aeK K A.a_):=by
 refine T.Lx.ok age (λvs H Q E h=>?_) (λaU Ar outer s H vs Q E hr h=>?_)
 ·obtain⟨a,q',m,b,dx,rfl,_⟩:=h
  rfl
 ·obtain⟨a,q',m,b,dx,rfl,ha,f0,f1,m0,m1,q⟩:=h;have qo:=ha.o;unfold fZ at qo;refine⟨_,(aL (bw (ada rfl T.rX rfl T.gZ rfl (ah (cI (aa 0) rfl) (ah (aR jt (cI (aa 0) rfl) (cI (aa 0) rfl)) aq))))),?_⟩;wp_walk using T,qo;exact⟨by lia,by lia,by lia,by lia,by lia,λl nl=>q l ((List.range (q'.first+q'.many - q'.first).toNat).map λ(k:Nat)=>q'.first+(k:Int)) _ (aj.put nl) nl (by rw[List.length_map,List.length_range];lia) (by rw[aH,List.map_map];rfl)⟩
theorem agU(T:Tx K mg A)(aA:au mg base A.bg A.aQ)(aB:au mg base A.bq A.aX)(aC:au mg base A.br A.aY):aZ P w K mg base bu 1 A.C9 A.C_ ["asks", "ends", "shelf"] (SV K A.a_):=by
 refine T.Lz.ok uz (λvs H Q E h=>?_) (λaU Ar outer s H vs Q E hr h=>?_)
 ·obtain⟨la,ps,qs,E',kvs,sh,rfl,_⟩:=h
  rfl
 ·obtain⟨la,ps,qs,E',kvs,sh,rfl,ha,q1,hq,hE,hv,q⟩:=h;have hu:=jF hr;have an:=ha.n;refine⟨_,(aF (bF (i:=3) uz.nd rfl (Or.inl rfl) (fF aq))
   (aF (bF (i:=4) uz.nd rfl (Or.inl rfl) (fF aq))
   (aF (bF (i:=5) uz.nd rfl (Or.inl rfl) (fF aq))
   (aF (eV PassesOwn.never rfl (vZ rfl T.qm (ah (aa 0) aq)) (jT rfl (dH (bI (i:=6) uz.nd rfl (Or.inl rfl)) (dH (bI (i:=7) uz.nd rfl (Or.inr rfl)) jS)))
   (aL (cF (cD eX (cI (aa 7) rfl) cQ (bA _)) gu (aL (cF (iJ (cI (aa 7) rfl)) gu (aL (dh (jE PySem.F.plainAttrs_list PySem.F.slot_list_append PySem.F.type_list_append lA (aa 3) (ah (abW hu (aa 1) (aa 6) (λ_ _=>rfl)) aq)))))))))
   (aL (bw (aa 3))))))),?_⟩
  walk_at "rdt";intro t1 n1 t2 n2 t3 n3;have s3:=((aj.put (o:=.lst []) n1).trans (aj.put (o:=.lst []) n2)).trans (aj.put (o:=.lst []) n3);have h1:upd (upd (upd H t1 (.lst [])) t2 (.lst [])) t3 (.lst []) t1=some (.lst []):=((aj.put (o:=.lst []) n2).trans (aj.put (o:=.lst []) n3)) _ _ aH;generalize upd (upd (upd H t1 (.lst [])) t2 (.lst [])) t3 (.lst [])=H1 at *
  refine re la (ps.map V.ref) (λk σ H'=>∃(x1 x2:Option V) (ns:List Int),σ = [some (.ref la),some (.ref E'),some (.int sh),some (.ref t1),some (.ref t2),some (.ref t3),x1,x2]/\aj H H'/\H' t1=some (.lst (ns.map V.int))/\ns.length<=k) (λQ q=>?_) (aE.of (s3 _ _ ha.l)) ⟨none,none,[],rfl,s3,h1,Nat.le_refl _⟩ (by rintro i σ H' _ ⟨_,_,_,rfl,s1,_⟩;exact aE.of (s1 _ _ ha.l)) ?_ ?_
  ·walk_at "rdm";exact q
  ·rintro k x σ H' T1 N hN hx ⟨x1,x2,ns,rfl,s1,ht,hl⟩ hT;have Xr:k<ps.length:=by have:=(List.getElem?_eq_some_iff.mp hx).1;simpa using this
   have hk:k<qs.length:=by lia
   have jv:=List.getElem?_eq_getElem hk;obtain⟨ap,m,b,dx,e1,a1⟩:=ha.at jv;rw[e1] at hx;cases hx;have s2:=s1.trans (aj.put (o:=.tup [.int (k:Int),.ref ap]) hT);refine lK (bD.of aH) rfl ?_;obtain⟨k1,k2⟩:=hq _ (List.getElem_mem hk);have a2:=(a1.same s2).o;unfold fZ at a2;rw[k1,k2] at a2;have nk:((Str.ofString "read"):Str)≠"rest" := HG (by decide)
   obtain⟨e,he⟩:=hv (k:Int) (by lia) (by lia)
   wp_walk using T,a2;have Xs:=aj.put (o:=.tup [.int (k:Int),.ref ap]) hT _ _ ht;refine⟨not_false,not_false,⟨_,aE.of Xs⟩,_,he▸fY.k (k:=c8 (k:Int)) (s2 _ _ hE),_,Xs,by rw[List.length_map];lia,hN _ _ ⟨_,_,ns++[e],rfl,aj.put2 s2 n1,by rw[aH,List.map_append];rfl,by rw[List.length_append,List.length_singleton];lia⟩⟩
  ·rintro σ H' ⟨x1,x2,ns,rfl,s1,ht,hl⟩;walk_at "rdm";exact q _ _ s1
theorem oX(T:Tx K mg A)(aA:au mg base A.bg A.aQ)(aB:au mg base A.bq A.aX)(aC:au mg base A.br A.aY):aZ P w K mg base bu 1 A.Df A.Dg ["_law_script", "_law_k"] (ji K):=by
 refine T.lX.ok agf (λvs H Q E h=>?_) (λaU Ar outer s H vs Q E hr h=>?_)
 ·obtain⟨a,ns,k,rfl,_⟩:=h
  rfl
 ·obtain⟨a,ns,k,rfl,hS,hl,hk,q⟩:=h;refine⟨_,(aF (kJ (eO gv (aa 1) (bY fK rfl T.dg boot_len (ah (aa 0) aq)) (bA _)) (aL (bw (bM fj (aa 0) (aa 1) (λ_ _=>rfl)))) bT)
   (aL (bw aD))),?_⟩
  walk_at "rdm";refine⟨_,.inl hS,cN (λbW=>⟨_,hS,_,jG hk (by simpa using bW),q⟩) λAm=>?_⟩
  have e:g8 ns k=0:=by
   unfold g8;rw[List.length_map] at Am;rw[List.getD_eq_getElem?_getD,List.getElem?_eq_none (by lia)];rfl
  rw[e] at q;exact q
theorem eU(T:Tx K mg A)(aA:au mg base A.bg A.aQ)(aB:au mg base A.bq A.aX)(aC:au mg base A.br A.aY):aZ P w K mg base bu 1 A.Dh A.Di ["_law_cell", "_law_k"] dW:=by
 refine T.dO.ok T4 (λvs H Q E h=>?_) (λaU Ar outer s H vs Q E hr h=>?_)
 ·obtain⟨c,k,rfl,_⟩:=h
  rfl
 ·obtain⟨c,k,rfl,hk0,hk1,q⟩:=h;refine⟨_,(aF (bF (i:=2) T4.nd rfl (Or.inl rfl) (aR jt (aR jt (aR rK (aR jt (aR AY (aa 0) (aR zJ aD aD)) aD) aD) (aR rK (aR rK (aa 1) (aa 1)) aD)) (aR rK (aa 1) aD)))
   (aL (bw (aR AY (aR rK (aR AY (aa 2) aD) aD) aD)))),?_⟩
  walk_at "rdm";exact⟨by decide,.inl ⟨by lia,by lia⟩,q⟩
theorem agV(T:Tx K mg A)(aA:au mg base A.bg A.aQ)(aB:au mg base A.bq A.aX)(aC:au mg base A.br A.aY):aZ P w K mg base bu 1 A.Dl A.Dm ["_law_zones_here"] (ac1 K):=by
 refine T.LB.ok A5 (λvs H Q E h=>?_) (λaU Ar outer s H vs Q E hr h=>?_)
 ·obtain⟨a,ts,z,rfl,_⟩:=h
  rfl
 ·obtain⟨a,ts,z,rfl,hz,ok,q⟩:=h;refine⟨_,(aF (bF (i:=1) A5.nd rfl (Or.inl rfl) (fF aq))
   (aF (eV PassesOwn.never rfl (e9 (aa 0)) (jT rfl (dH (bI (i:=2) A5.nd rfl (Or.inl rfl)) (dH (bI (i:=3) A5.nd rfl (Or.inl rfl)) jS)))
   (aL (dh (jE PySem.F.plainAttrs_list PySem.F.slot_list_extend PySem.F.type_list_extend zP (aa 1) (ah (aR zR (fF (ah (aa 3) aq)) (aa 2)) aq)))))
   (aL (bw (aa 1))))),?_⟩
  walk_at "rdm";refine λl hl=>?_;refine rl a (ts.map V.ref) (λi σ H'=>∃r c,σ = [some (.ref a),some (.ref l),r,c]/\aj H H'/\H' l=some (.lst ((counts (z.take i)).map V.int))) (λQ q=>q) (aj.put hl |>.seq hz.sq) ⟨none,none,rfl,aj.put hl,aH⟩ (by rintro i σ H' _ ⟨r,c,rfl,hs,_⟩;exact hs.seq hz.sq) ?_ ?_
  ·rintro i x σ H' N hN hx ⟨r,c,rfl,hs,h1⟩;obtain⟨t,p,rfl,hp,ht⟩:=hz.at hx;refine lK (bD.of (hs _ _ ht)) rfl ?_;obtain⟨g1,g2,g3,g4⟩:=ok.r p (get_mem hp);have g5:=Ro ok i;walk_at "rdm";refine⟨⟨_,aE.of h1⟩,λp1 fJ=>⟨by lia,by lia,by lia,λp2 lE=>?_⟩⟩
   have s1:=(aj.put (o:=.lst [V.int p.2]) fJ).trans (aj.put (o:=.lst (List.replicate p.1.toNat [V.int p.2]).flatten) lE);refine⟨_,s1 _ _ h1,?_,hN _ _ ⟨_,_,rfl,aj.put2 (hs.trans s1) hl,?_⟩⟩
   ·simp only[Ab,List.length_map,List.length_replicate];lia
   ·rw[aH,take_succ_get hp,Hj,List.map_append,Ab];simp[counts]
  ·rintro σ H' ⟨r,c,rfl,hs,h1⟩;walk_at "rdm";rw[lenZ hz.n,List.take_length] at h1;exact q _ _ hs hl h1
theorem Xu(T:Tx K mg A)(aA:au mg base A.bg A.aQ)(aB:au mg base A.bq A.aX)(aC:au mg base A.br A.aY):aZ P w K mg base bu 1 A.Dv A.Dw ["_law_taken"] (afd K):=by
 refine T.D4.ok Ky (λvs H Q E h=>?_) (λaU Ar outer s H vs Q E hr h=>?_)
 ·obtain⟨l,bs,rfl,_⟩:=h
  rfl
 ·obtain⟨l,bs,rfl,hl,aoi,q⟩:=h;have lZ:=hr.lg;refine⟨_,(aF (bF (i:=1) Ky.nd rfl (Or.inl rfl) (fF aq))
   (aF (eV PassesOwn.never rfl (sU rfl T.gZ (ah (bY fK rfl T.dg boot_len (ah (aa 0) aq)) aq)) (bI (i:=2) Ky.nd rfl (Or.inr rfl))
   (aL (dh (jE PySem.F.plainAttrs_list PySem.F.slot_list_append PySem.F.type_list_append lA (aa 1) (ah (bY tE rfl T.dg boot_len (ah (gJ (N:=["_law_beat", "_law_taken", "_law_k"]) (nt:=1) (fv:=[0,2]) (cW.of rfl rfl (by rfl) (by rfl) (by repeat (first | exact trivial | refine⟨rfl,?_⟩)) (by rfl) (by rfl) (by rfl) (by decide) (by decide +kernel)) rfl (e9 (GC GG (aa 0) (zN (aR jt (aa 2) aD)) Qo)) (λC s H fp=>(bI (i:=0) (show List.Nodup (["_law_beat", "_law_taken", "_law_k"]:List Str) by decide +kernel) rfl (Or.inl rfl))) (λC s H fp=>(nZ (cD gv (aa 0) (bM (xm (K:=K) rfl) (aa 1) (aa 2) (λ_ _=>rfl)) (bA _)))) (λC s H fp=>(aa 0))) aq)) aq)))))
   (aL (bw (aa 1))))),?_⟩
  walk_at "rdt";intro F nF;have sF:=aj.put (o:=.lst []) nF;refine Rq bs.length (λi σ H'=>∃(v2:Option V),σ = [some (V.ref l),some (V.ref F),v2]/\aj H H'/\H' F=some (.lst ((iG bs i).map V.int))) (λQ q=>?_) (by lia) ⟨none,rfl,sF,aH⟩ ?_ ?_
  ·walk_at "rdm";refine⟨_,.inl (aE.of (sF _ _ hl)),?_⟩;rw[List.length_map];exact q
  ·rintro i σ H1 N hN hi ⟨v2,rfl,s1,hF⟩;have ow:=s1 _ _ hl;walk_at "rdm";refine⟨⟨_,aE.of hF⟩,?_⟩;refine afg (.lst ((bs.drop (i+1)).map V.int)) (λQ' q'=>?_) λM nM=>?_
   ·walk_at "rdm";refine⟨_,aE.of ow,?_⟩;have e:=adO (bs.map V.int) (i+1);rw[show ((i:Int)+1)=((i+1:Nat):Int) by lia,e,← List.map_drop]
    exact q'
   have hM:=aH (H:=H1) (a:=M) (o:=.lst ((bs.drop (i+1)).map V.int));have sM:=aj.put (o:=.lst ((bs.drop (i+1)).map V.int)) nM;generalize upd H1 M (.lst ((bs.drop (i+1)).map V.int))=H2 at *
   have eg:bs[i]? = some (bs.getD i 0):=pL bs hi;refine iU M ((bs.drop (i+1)).map V.int) (λD k ys az H3=>∃(v:Option V),ys=(((bs.drop (i+1)).take k).filter λc=>decide (c<bs.getD i 0)).map V.int/\az = [v,some (V.ref l),some (V.int (i:Int))]/\H3 D=some (.lst ys)/\aj H2 H3/\H2 D=none) (λQ q=>q) (aE.of hM) ?_ ?_ ?_ ?_
   ·intro D hD;exact⟨none,rfl,rfl,aH,aj.put hD,hD⟩
   ·rintro D k ys az H3 ⟨v,rfl,rfl,e1,e2,e3⟩;have h1:=List.length_filter_le (λc=>decide (c<bs.getD i 0)) ((bs.drop (i+1)).take k);rw[List.length_take,List.length_drop] at h1;exact⟨e1,gB (by rw[List.length_map];lia),aE.of (e2 _ _ hM)⟩
   ·rintro D k x ys az H3 N2 uO hx' ⟨v,rfl,rfl,e1,e2,e3⟩;obtain⟨c,hc,rfl⟩:=fG hx';have st:=afi (b0:=bs.getD i 0) hc;walk_at "rdm";refine⟨_,aE.of (e2 _ _ (sM _ _ ow)),_,gA (v:=.int (bs.getD i 0)) (by rw[List.getElem?_map,eg];rfl),_,rfl,cN (λhq=>?_) λhq=>?_⟩
    ·rw[if_pos hq] at st;exact⟨e1,uO _ _ _ ⟨_,by rw[st,List.map_append];rfl,rfl,aH,aj.put2 e2 e3,e3⟩⟩
    ·rw[if_neg hq,List.append_nil] at st;exact uO _ _ _ ⟨_,by rw[st],rfl,e1,e2,e3⟩
   ·rintro D ys az H3 ⟨v,rfl,rfl,e1,e2,e3⟩;rw[List.length_map,List.take_length] at e1;have s3:=sM.trans e2;refine⟨D,rfl,_,.inl (aE.of e1),_,s3 _ _ hF,?_,hN _ _ ⟨_,rfl,aj.put2 (s1.trans s3) nF,?_⟩⟩
    ·have:(iG bs i).length=i:=by unfold iG;rw[List.length_map,List.length_range]
     refine Tp ?_;rw[List.length_map,this];lia
    ·rw[aH,afh,List.map_append,List.length_map];rfl
  ·rintro σ H1 ⟨v2,rfl,s1,hF⟩;walk_at "rdm";exact q F H1 s1 nF hF
theorem Xv(T:Tx K mg A)(aA:au mg base A.bg A.aQ)(aB:au mg base A.bq A.aX)(aC:au mg base A.br A.aY):aZ P w K mg base bu 1 A.Dy A.Dz ["_law_asks", "_law_taken"] (afe K A.a_):=by
 refine T.D5.ok xA (λvs H Q E h=>?_) (λaU Ar outer s H vs Q E hr h=>?_)
 ·obtain⟨la,l,ps,qs,bs,rfl,_⟩:=h
  rfl
 ·obtain⟨la,l,ps,qs,bs,rfl,ha,hl,bn,aoj,q⟩:=h;have lZ:=hr.lg;refine⟨_,(aF (bF (i:=2) xA.nd rfl (Or.inl rfl) aD)
   (aF (eV PassesOwn.never rfl (e9 (aa 1)) (bI (i:=3) xA.nd rfl (Or.inr rfl))
   (aF (bF (i:=4) xA.nd rfl (Or.inl rfl) (bY tE rfl T.dg boot_len (ah (gJ (N:=["_law_k", "_law_beat", "_law_taken", "_law_asks"]) (nt:=1) (fv:=[3,1,0]) (cW.of rfl rfl (by rfl) (by rfl) (by repeat (first | exact trivial | refine⟨rfl,?_⟩)) (by rfl) (by rfl) (by rfl) (by decide) (by decide +kernel)) rfl (sU rfl T.gZ (ah (bY fK rfl T.dg boot_len (ah (aa 0) aq)) aq)) (λC s H fp=>(bI (i:=0) (show List.Nodup (["_law_k", "_law_beat", "_law_taken", "_law_asks"]:List Str) by decide +kernel) rfl (Or.inl rfl))) (λC s H fp=>(nZ (PW.pt (FY (cD sX (j3 (K:=K) rfl (bM (xm (K:=K) rfl) (aa 3) (aa 0) (λ_ _=>rfl)) rfl) (aa 1) (bA _)) (FW (cD qK (bM (xm (K:=K) rfl) (aa 2) (aa 0) (λ_ _=>rfl)) (aa 1) (bA _))))))) (λC s H fp=>(aa 0))) aq)))
   (aL (bF (i:=2) xA.nd rfl (Or.inl rfl) (bY (PV rfl) rfl T.yM boot_max (ah (aa 2) (ah (aa 4) aq)))))))
   (aL (bw (aa 2))))),?_⟩
  walk_at "rdt";refine rl l (bs.map V.int) (λi σ H'=>∃(W:Int) (v3 v4:Option V),σ = [some (V.ref la),some (V.ref l),some (V.int W),v3,v4]/\aj H H'/\(∀c∈bs.take i,qd qs bs c<=W)/\((∀c∈bs,qd qs bs c<=2)->W<=2)/\0<=W) (λQ q=>q) (aE.of hl) ⟨0,none,none,rfl,aj.refl _,(λc hc=>by simp at hc),(λ_=>by decide),Int.le_refl _⟩ (by rintro i σ H' _ ⟨_,_,_,rfl,s',_⟩;exact aE.of (s' _ _ hl)) ?_ ?_
  ·rintro i y σ H5 N hN hy ⟨W,v3,v4,rfl,s5,w1,w2,w0⟩;obtain⟨c,sN,rfl⟩:=fG hy;have r9:=ha.same s5;have Xw:=s5 _ _ hl;have an:=ha.n;walk_at "rdt";refine Hs (qs.length:Int) (λD j ys az H6=>∃(u:Option V),ys=((List.range j).filter (jr qs bs c)).map (λ(k:Nat)=>V.int (k:Int))/\az = [u,some (V.int c),some (V.ref l),some (V.ref la)]/\H6 D=some (.lst ys)/\aj H5 H6/\H5 D=none/\j<=qs.length) (λQ q=>?_) (by lia) (by lia) ?_ ?_ ?_ ?_
   ·walk_at "rdm";refine⟨_,.inl (aE.of r9.l),?_⟩;rw[List.length_map,an];exact q
   ·intro D hD;exact⟨none,rfl,rfl,aH,aj.put hD,hD,Nat.zero_le _⟩
   ·rintro D j ys az H6 ⟨u,rfl,rfl,e1,e2,e3,e4⟩;have:=List.length_filter_le (jr qs bs c) (List.range j);rw[List.length_range] at this;exact⟨e1,gB (by rw[List.length_map];lia)⟩
   ·rintro D j ys az H6 N' yO hj ⟨u,rfl,rfl,e1,e2,e3,e4⟩;have hj:j<qs.length:=by lia
    obtain⟨x1,m1,b1,d1,g1,y1⟩:=(r9.same e2).at (List.getElem?_eq_getElem hj);have Xx:j<bs.length:=by lia
    have o1:=y1.o;unfold fZ at o1;have wi:=Tq (c:=c) (List.getElem?_eq_getElem hj) (List.getElem?_eq_getElem Xx);have ws:=ae9 (qs:=qs) (bs:=bs) (c:=c) (i:=j);rw[wi] at ws;walk_at "rdt";refine⟨_,aE.of (r9.same e2).l,_,gA g1,x1,rfl,_,_,_,o1,T.kN,T.qj,V.int qs[j].at_,by simp[List.lookup_cons,gi],_,rfl,cN (λc1=>⟨_,aE.of (e2 _ _ Xw),_,gA (v:=.int bs[j]) (by rw[List.getElem?_map,List.getElem?_eq_getElem Xx];rfl),_,rfl,cN (λc2=>?_) λc2=>?_⟩) λc1=>?_⟩
    ·rw[if_pos (decide_eq_true ⟨c1,c2⟩)] at ws;exact⟨e1,yO _ _ _ ⟨_,by rw[ws,List.map_append];rfl,rfl,aH,aj.put2 e2 e3,e3,by lia⟩⟩
    ·rw[if_neg (λz=>c2 (of_decide_eq_true z).2),List.append_nil] at ws;exact yO _ _ _ ⟨_,by rw[ws],rfl,e1,e2,e3,by lia⟩
    ·rw[if_neg (λz=>c1 (of_decide_eq_true z).1),List.append_nil] at ws;exact yO _ _ _ ⟨_,by rw[ws],rfl,e1,e2,e3,by lia⟩
   ·rintro D ys az H6 ⟨u,rfl,rfl,e1,e2,e3,e4⟩;refine⟨D,rfl,_,.inl (aE.of e1),?_⟩;rw[List.length_map,← List.countP_eq_length_filter,Int.toNat_natCast];have cm:c∈bs:=get_mem sN;have ew:(((List.range qs.length).countP (jr qs bs c):Nat):Int)=qd qs bs c:=rfl;rw[ew];refine hN _ _ ⟨_,_,_,rfl,s5.trans e2,λc2 h2=>?_,λh2=>?_,by split <;> lia⟩
    ·rw[take_succ_get sN] at h2;rcases List.mem_append.mp h2 with h2 | h2
     ·have:=w1 c2 h2;split <;> lia
     ·rw[List.mem_singleton.mp h2];split <;> lia
    ·have:=h2 c cm;have:=w2 h2;split <;> lia
  ·rintro σ H5 ⟨W,v3,v4,rfl,s5,w1,w2,w0⟩;walk_at "rdt";rw[List.length_map,List.take_length] at w1;exact q W H5 s5 w1 w2 w0
theorem Mh(T:Tx K mg A)(aA:au mg base A.bg A.aQ)(aB:au mg base A.bq A.aX)(aC:au mg base A.br A.aY):aZ P w K mg base bu 1 A.DA A.DB ["_law_asks", "_law_least", "_law_most"] (ae3 K A.a_):=by
 refine T.yy.ok agh (λvs H Q E h=>?_) (λaU Ar outer s H vs Q E hr h=>?_)
 ·obtain⟨la,ps,qs,lo,most,rfl,_⟩:=h
  rfl
 ·obtain⟨la,ps,qs,lo,most,rfl,ha,q1,q2,m1,hq,q⟩:=h;have lZ:=hr.lg;refine⟨_,(aF (cF (PW.pt (fE (jR (iJ (bY Aa rfl T.rW boot_isinstance (ah (aa 0) (ah (zy (v:=.ty "list") rfl T.rX boot_list rfl) aq))))) (gc (jR (aa5 sX sX (aa 1) (bY fK rfl T.dg boot_len (ah (aa 0) aq)) (aa 2)))))) (aL (bw i8)) bT)
   (aL (bw (bY (RI rfl) rfl T.yK boot_all (ah (gJ (N:=["_law_ask"]) (nt:=1) (fv:=[]) (cW.of rfl rfl (by rfl) (by rfl) (by repeat (first | exact trivial | refine⟨rfl,?_⟩)) (by rfl) (by rfl) (by rfl) (by decide) (by decide +kernel)) rfl (e9 (aa 0)) (λC s H fp=>(bI (i:=0) (show List.Nodup (["_law_ask"]:List Str) by decide +kernel) rfl (Or.inl rfl))) (λC s H fp=>jg) (λC s H fp=>(sQ (iN eX (lW (K:=K) rfl (aa 0) rfl) cQ (bA _)) (sO (iN (aeR lZ) (lW (K:=K) rfl (aa 0) rfl) (i9 aq) (bA _)))))) aq))))),?_⟩
  walk_at "rdt";have an:=ha.n;refine⟨_,g6.lst ha.l,true,rfl,?_⟩;refine⟨_,.inl (aE.of ha.l),?_⟩;rw[List.length_map,if_pos (by lia),if_neg (by lia)]
  refine iU la (ps.map V.ref) (λD i ys az H2=>∃(u:Option V),ys=(List.replicate i true).map V.bl/\i<=qs.length/\az = [u]/\H2 D=some (.lst ys)/\aj H H2/\H D=none) (λQ q=>q) (aE.of ha.l) ?_ ?_ ?_ ?_
  ·intro D nD;exact⟨none,rfl,Nat.zero_le _,rfl,aH,aj.put nD,nD⟩
  ·rintro D i ys az H2 ⟨u,rfl,hi,rfl,e1,e2,e3⟩;exact⟨e1,gB (by rw[List.length_map,List.length_replicate];lia),aE.of (e2 _ _ ha.l)⟩
  ·rintro D i y ys az H2 N hN hy ⟨u,rfl,hi,rfl,e1,e2,e3⟩;have gC:i<ps.length:=by have:=dM hy;simpa using this
   have hk:i<qs.length:=by lia
   obtain⟨ap,m,b,dx,g1,a1⟩:=ha.at (List.getElem?_eq_getElem hk);rw[g1] at hy;cases hy;obtain⟨k1,k3⟩:=hq _ (List.getElem_mem hk);have a2:=(a1.same e2).o;have hb:=(a1.same e2).bh;unfold fZ at a2;rw[k1] at a2;rw[k3] at hb;wp_walk using T,a2;intro pt npt;have sp:=aj.put (o:=.tup []) npt;refine⟨[],sp _ _ hb,[],rfl,sp _ _ e1,hN _ _ _ ⟨_,?_,by lia,rfl,aH,aj.put2 (e2.trans sp) e3,e3⟩⟩
   rw[List.replicate_succ',List.map_append];rfl
  ·rintro D ys az H2 ⟨u,rfl,hi,rfl,e1,e2,e3⟩;refine⟨D,rfl,_,aE.of e1,?_⟩;rw[List.all_replicate];simpa using q H2 e2
theorem agW(T:Tx K mg A)(aA:au mg base A.bg A.aQ)(aB:au mg base A.bq A.aX)(aC:au mg base A.br A.aY):aZ P w K mg base bu 2 A.A_ A.Ba ["behind"] (adh K):=by
 refine T.KA.ok A0 (λvs H Q E h=>?_) (λaU Ar outer s H vs Q E hr h=>?_)
 ·obtain⟨b,ns,rfl,_⟩:=h
  rfl
 ·obtain⟨b,ns,rfl,hS,hR,q⟩:=h;refine⟨_,(aF (bF (i:=1) A0.nd rfl (Or.inl rfl) (vJ vL aD))
   (aL (eV PassesOwn.never rfl (Ge (aa 0)) (bI (i:=2) A0.nd rfl (Or.inl rfl))
   (aF (dh (aW (uN T aA aB aC) (hr.mono (by decide)) rfl T.rR T.qi.kp T.rQ .nil aM (ah (aa 2) (ah (aR jt (aa 1) aD) (ah (iw (v:=.int 99) rfl T.W7 ⟨_,rfl⟩) (ah cQ aq))))))
   (aL (bF (i:=1) A0.nd rfl (Or.inl rfl) (aa 2))))))),?_⟩
  walk_at "rdm";refine rt b (ns.map V.int) (λi σ H'=>∃x,σ = [some (.ref b),some (.int (wz (-1) ns i)),x]/\H' = H) (λQ q=>q) hS ⟨none,rfl,rfl⟩ (by rintro i σ H' _ ⟨x,rfl,rfl⟩;exact hS) ?_ ?_
  ·rintro i x σ H' N hN hx ⟨x0,rfl,rfl⟩;obtain⟨n,hn,rfl⟩:=fG hx;have st:=hR.step hn;walk_at "rdm";exact⟨n,_,99,_,rfl,st.1,st.2,hN _ _ ⟨some (.int n),by rw[adf hn],rfl⟩⟩
  ·rintro σ H' ⟨x0,rfl,rfl⟩;walk_at "rdm";exact q
theorem agX(T:Tx K mg A)(aA:au mg base A.bg A.aQ)(aB:au mg base A.bq A.aX)(aC:au mg base A.br A.aY):aZ P w K mg base bu 2 A.xF A.uD ["dues"] (ad0 K A.a_ A.bK A.aY (cC fV) (cB "latest_of")):=by
 refine T.KR.HP TQ (λvs H Q E h=>?_) (λAr outer s H vs Q E hr h=>?_)
 ·obtain⟨D,ps,ds,rfl,_⟩:=h
  rfl
 ·obtain⟨D,ps,ds,rfl,hd,d1,fL,T0,q⟩:=h;have fq:=hd.n;have jJ:(Ar.deeper (envOfC "latest_of" (aN fV) s.heap.objs.size A.xF A.uD.code)).in1.depth<recursionLimit:=hr.depth;have yP:_+16<cLine:=Nat.lt_of_le_of_lt (Nat.add_le_add_left (by decide:16<=64) _) hr.units
  refine⟨_,(aF (z9 (i:=1) TQ.nd rfl (Or.inl rfl) (N:=["due"]) (nt:=1) (fv:=[]) (cW.of rfl rfl (by rfl) (by rfl) (by repeat (first | exact trivial | refine⟨rfl,?_⟩)) (by rfl) (by rfl) (by rfl) (by decide) (by decide +kernel)) rfl (e9 (pv 0)) (λC s H fp=>(bI (i:=0) (show List.Nodup (["due"]:List Str) by decide +kernel) rfl (Or.inl rfl))) (λC s H fp=>(nZ (cD Gk (j3 (K:=K) rfl (j3 (K:=K) rfl (pv 0) rfl) rfl) pe (bA _)))) (λC s H fp=>(pv 0)))
   (aF (cF (jR (vN (pv 1) (λ_=>rfl))) (aL (bw (aW (Xl T aA aB aC) (hr.mono (by decide)) rfl T.KO T.DQ.kp T.KN .nil aM (ah (pv 0) aq)))) bT)
   (aL (bw (dI (HX (c:=A.br) (P:=A.aY) (ps:=["due"]) (fs:=[]) (fv:=[]) rfl T.lY aC T.Xe (j4.of rfl rfl rfl rfl (by rfl) (by rfl) (by repeat (first | exact trivial | refine⟨rfl,?_⟩)) (by rfl) (by rfl) (by rfl) (by decide +kernel)) rfl rfl rfl (λ_ _ _ _=>rfl) (λf c2 s2 H2=>(i9 (ah (j3 (K:=K) rfl (j3 (K:=K) rfl (pv 0) rfl) rfl) (ah (j3 (K:=K) rfl (pv 0) rfl) aq)))) rfl jJ yP (pv 1)) rfl))))),?_⟩
  walk_at "rdt";refine iU D (ps.map V.ref) (λD2 i ys az H2=>∃(u:Option V) (as:List Addr),ys=as.map V.ref/\az = [u]/\H2 D2=some (.lst ys)/\aj H H2/\H D2=none/\j6 K A.a_ A.bK H as (gD (ds.take i))) (λQ q=>⟨_,rfl,q⟩) (aE.of hd.l) ?_ ?_ ?_ ?_
  ·intro D2 hD;exact⟨none,[],rfl,rfl,aH,aj.put hD,hD,j6.nil⟩
  ·rintro D2 i ys az H2 ⟨u,as,rfl,rfl,e1,e2,e3,e4⟩;have:=ad3 (ds.take i);rw[List.length_take] at this;exact⟨e1,gB (by rw[List.length_map,e4.n];lia),aE.of (e2 _ _ hd.l)⟩
  ·rintro D2 i x ys az H2 N hN hx ⟨u,as,rfl,rfl,e1,e2,e3,e4⟩;obtain⟨dp,gG,rfl⟩:=fG hx;have hi:i<ds.length:=by rw[← fq];exact dM gG
   have gK:=hd.t i dp ds[i] gG (List.getElem?_eq_getElem hi);refine(hd.same e2).el i dp ds[i] gG (List.getElem?_eq_getElem hi) λdx ap l ts m b' bH hD=>?_;have st:=ad4 hi;have dF:=hD.o;have hda:=hD.a.o;unfold iW at dF;wp_walk using T,dF,hda,fZ;generalize ds[i] = d at *
   cases hl:d.q.iA with
   | none =>
    rw[hl] at st;refine ite_no (by simp[lM]) (hN _ _ _ ⟨_,as,rfl,rfl,e1,e2,e3,?_⟩)
    rw[st];exact e4
   | some x =>
    rw[hl] at st;refine ite_yes (by simp[lM]) ⟨e1,hN _ _ _ ⟨_,as++[dp],by rw[List.map_append];rfl,rfl,aH,aj.put2 e2 e3,e3,?_⟩⟩
    rw[st];exact e4.snoc gK
  ·rintro D2 ys az H2 ⟨u,as,rfl,rfl,e1,e2,e3,e4⟩;rw[List.length_map,fq,List.take_length] at e4;refine⟨_,.inl ⟨_,aE.of e1,rfl⟩,cN (λh0=>?_) λh0=>?_⟩
   ·have hz:as = []:=by cases as with
     | nil=>rfl
     | cons _ _=>cases h0
    have hb:gD ds = []:=List.length_eq_zero_iff.mp (by rw[← e4.n,hz];rfl)
    exact⟨D,ps,ds,rfl,hd.same e2,d1,fL,λd H' s' mL=>q d H' (λb o e _=>s' _ _ (e2 _ _ e)) ((T0.same e2).same s') (ad6 hb mL)⟩
   ·have T2:=T0.same e2;have ha:0<as.length:=by cases as with
     | nil=>exact absurd rfl h0
     | cons _ _=>exact Nat.succ_pos _
    refine⟨D2,rfl,as,e1,ha,T2,wK (gD ds),λj a H3 hj sb tb=>?_,λi a H3 hi least sb tb=>?_⟩
    ·have kt:=(cA.of e2).trans (T2.jM sb);have iC:j<(gD ds).length:=by rw[← e4.n];exact dM hj
     obtain⟨dx,ap,l,ts,m,b',bH,hD⟩:=e4.t j a (gD ds)[j] hj (List.getElem?_eq_getElem iC);have qp:=hD.kt kt;have hm:=(List.mem_filter.mp (List.getElem_mem iC)).2;rw[H_ (List.getElem?_eq_getElem iC)];generalize (gD ds)[j] = d at *
     obtain⟨x,hx⟩:=Option.isSome_iff_exists.mp hm;refine⟨_,_,_,qp.o,T.oO,T.Ek,_,rfl,ap,rfl,_,_,_,qp.a.o,T.kN,T.yC,_,rfl,_,_,_,qp.o,T.oO,T.oR,_,rfl,λp np=>⟨?_,λ_ _ e _=>aj.put np _ _ e,tb.same (aj.put np)⟩⟩;rw[hx]
     rfl
    ·have kt:=(cA.of e2).trans (T2.jM sb);have iT:i<(gD ds).length:=by rw[← e4.n];exact dM hi
     obtain⟨dx,ap,l,ts,m,b',bH,hD⟩:=e4.t i a (gD ds)[i] hi (List.getElem?_eq_getElem iT);have qp:=hD.kt kt;rw[e4.n] at least;exact⟨_,_,_,qp.o,T.oO,T.oR,_,rfl,q _ H3 (λb o e ne=>sb _ _ (e2 _ _ e) ne) tb (ad5 (List.getElem?_eq_getElem iT) least)⟩
theorem agY(T:Tx K mg A)(aA:au mg base A.bg A.aQ)(aB:au mg base A.bq A.aX)(aC:au mg base A.br A.aY):aZ P w K mg base bu 2 A.uE A.Bx ["self", "plate", "ring", "beat", "dues"] (ad1 K A.a_ A.bK):=by
 refine T.Ut.ok afK (λvs H Q E h=>?_) (λaU Ar outer s H vs Q E hr h=>?_)
 ·obtain⟨x,p,r,b,D,ps,ds,rfl,_⟩:=h
  rfl
 ·obtain⟨x,p,r,b,D,ps,ds,rfl,hd,d1,fL,q⟩:=h;refine⟨_,(aL (bw (aW (Xl T aA aB aC) (hr.mono (by decide)) rfl T.KO T.DQ.kp T.KN .nil aM (ah (aa 4) aq)))),?_⟩
  walk_at "rdm";exact⟨D,ps,ds,rfl,hd,d1,fL,q⟩
theorem Mi(T:Tx K mg A)(aA:au mg base A.bg A.aQ)(aB:au mg base A.bq A.aX)(aC:au mg base A.br A.aY):aZ P w K mg base bu 2 A.BO A.BP ["inward", "ring", "dues"] (aeb K A.a_ A.bK):=by
 refine T.yu.ok afS (λvs H Q E h=>?_) (λaU Ar outer s H vs Q E hr h=>?_)
 ·obtain⟨i,r,D,ps,ds,rfl,_⟩:=h
  rfl
 ·obtain⟨i,r,D,ps,ds,rfl,hd,fL,hc,q⟩:=h;have fq:=hd.n;refine⟨_,(aF (cF (iJ (aa 0)) (aL (bw (gJ (N:=["due", "ring"]) (nt:=1) (fv:=[1]) (cW.of rfl rfl (by rfl) (by rfl) (by repeat (first | exact trivial | refine⟨rfl,?_⟩)) (by rfl) (by rfl) (by rfl) (by decide) (by decide +kernel)) rfl (e9 (aa 2)) (λC s H fp=>(bI (i:=0) (show List.Nodup (["due", "ring"]:List Str) by decide +kernel) rfl (Or.inl rfl))) (λC s H fp=>(nZ (cD qK (aW (L7 T aA aB aC) (hr.mono (by decide)) rfl T.DP T.yp.kp T.DO .nil aM (ah (aa 0) aq)) (aa 1) (bA _)))) (λC s H fp=>(aa 0))))) bT)
   (aL (bw (gJ (N:=["due", "ring"]) (nt:=1) (fv:=[1]) (cW.of rfl rfl (by rfl) (by rfl) (by repeat (first | exact trivial | refine⟨rfl,?_⟩)) (by rfl) (by rfl) (by rfl) (by decide) (by decide +kernel)) rfl (e9 (aa 2)) (λC s H fp=>(bI (i:=0) (show List.Nodup (["due", "ring"]:List Str) by decide +kernel) rfl (Or.inl rfl))) (λC s H fp=>(nZ (cD sX (aW (L7 T aA aB aC) (hr.mono (by decide)) rfl T.DP T.yp.kp T.DO .nil aM (ah (aa 0) aq)) (aa 1) (bA _)))) (λC s H fp=>(aa 0)))))),?_⟩
  walk_at "rdm";refine cN (λhi=>?_) λhi=>?_
  ·subst hi;refine iU D (ps.map V.ref) (λD2 k ys az H2=>∃(u:Option V) (as:List Addr),ys=as.map V.ref/\az = [u,some (.int r)]/\H2 D2=some (.lst ys)/\aj H H2/\H D2=none/\j6 K A.a_ A.bK H as (ff true r (ds.take k))) (λQ q=>q) (aE.of hd.l) ?_ ?_ ?_ ?_
   ·intro D2 hD;exact⟨none,[],rfl,rfl,aH,aj.put hD,hD,j6.nil⟩
   ·rintro D2 k ys az H2 ⟨u,as,rfl,rfl,e1,e2,e3,e4⟩;have:=AE true r (ds.take k);rw[List.length_take] at this;exact⟨e1,gB (by rw[List.length_map,e4.n];lia),aE.of (e2 _ _ hd.l)⟩
   ·rintro D2 k x ys az H2 N hN hx ⟨u,as,rfl,rfl,e1,e2,e3,e4⟩;obtain⟨dp,gG,rfl⟩:=fG hx;have hk:k<ds.length:=by rw[← fq];exact dM gG
    have gK:=hd.t k dp ds[k] gG (List.getElem?_eq_getElem hk);refine(hd.same e2).el k dp ds[k] gG (List.getElem?_eq_getElem hk) λdx ap l ts m b' bH hD=>?_;have st:=Sk (i:=true) (r:=r) hk;walk_at "rdm";refine⟨dp,ds[k],dx,ap,l,ts,m,b',bH,rfl,hD,hc _ (List.getElem_mem hk),_,rfl,cN (λh1=>?_) λh1=>?_⟩
    ·rw[if_pos (show mY true r ds[k] = true from decide_eq_true h1)] at st;refine⟨e1,hN _ _ _ ⟨_,as++[dp],by rw[List.map_append];rfl,rfl,aH,aj.put2 e2 e3,e3,?_⟩⟩
     rw[st];exact e4.snoc gK
    ·rw[if_neg (λz:mY true r ds[k] = true=>h1 (of_decide_eq_true z))] at st;refine hN _ _ _ ⟨_,as,rfl,rfl,e1,e2,e3,?_⟩;rw[st];exact e4
   ·rintro D2 ys az H2 ⟨u,as,rfl,rfl,e1,e2,e3,e4⟩;rw[List.length_map,fq,List.take_length] at e4;exact q D2 as H2 e2 e3 ⟨e1,e4.n,λi a d h1 h2=>let ⟨dx,ap,l,ts,m,b,bH,hD⟩:=e4.t i a d h1 h2;⟨dx,ap,l,ts,m,b,bH,hD.same e2⟩⟩
  replace hi:i=false:=by simpa using hi
  ·subst hi;refine iU D (ps.map V.ref) (λD2 k ys az H2=>∃(u:Option V) (as:List Addr),ys=as.map V.ref/\az = [u,some (.int r)]/\H2 D2=some (.lst ys)/\aj H H2/\H D2=none/\j6 K A.a_ A.bK H as (ff false r (ds.take k))) (λQ q=>q) (aE.of hd.l) ?_ ?_ ?_ ?_
   ·intro D2 hD;exact⟨none,[],rfl,rfl,aH,aj.put hD,hD,j6.nil⟩
   ·rintro D2 k ys az H2 ⟨u,as,rfl,rfl,e1,e2,e3,e4⟩;have:=AE false r (ds.take k);rw[List.length_take] at this;exact⟨e1,gB (by rw[List.length_map,e4.n];lia),aE.of (e2 _ _ hd.l)⟩
   ·rintro D2 k x ys az H2 N hN hx ⟨u,as,rfl,rfl,e1,e2,e3,e4⟩;obtain⟨dp,gG,rfl⟩:=fG hx;have hk:k<ds.length:=by rw[← fq];exact dM gG
    have gK:=hd.t k dp ds[k] gG (List.getElem?_eq_getElem hk);refine(hd.same e2).el k dp ds[k] gG (List.getElem?_eq_getElem hk) λdx ap l ts m b' bH hD=>?_;have st:=Sk (i:=false) (r:=r) hk;walk_at "rdm";refine⟨dp,ds[k],dx,ap,l,ts,m,b',bH,rfl,hD,hc _ (List.getElem_mem hk),_,rfl,cN (λh1=>?_) λh1=>?_⟩
    ·rw[if_pos (show mY false r ds[k] = true from decide_eq_true h1)] at st;refine⟨e1,hN _ _ _ ⟨_,as++[dp],by rw[List.map_append];rfl,rfl,aH,aj.put2 e2 e3,e3,?_⟩⟩
     rw[st];exact e4.snoc gK
    ·rw[if_neg (λz:mY false r ds[k] = true=>h1 (of_decide_eq_true z))] at st;refine hN _ _ _ ⟨_,as,rfl,rfl,e1,e2,e3,?_⟩;rw[st];exact e4
   ·rintro D2 ys az H2 ⟨u,as,rfl,rfl,e1,e2,e3,e4⟩;rw[List.length_map,fq,List.take_length] at e4;exact q D2 as H2 e2 e3 ⟨e1,e4.n,λi a d h1 h2=>let ⟨dx,ap,l,ts,m,b,bH,hD⟩:=e4.t i a d h1 h2;⟨dx,ap,l,ts,m,b,bH,hD.same e2⟩⟩
theorem Xy(T:Tx K mg A)(aA:au mg base A.bg A.aQ)(aB:au mg base A.bq A.aX)(aC:au mg base A.br A.aY):aZ P w K mg base bu 2 A.xK A.BS ["self", "calm"] (So K [A.bQ,A.bV]):=by
 refine T.UP.ok afT (λvs H Q E h=>?_) (λaU Ar outer s H vs Q E hr h=>?_)
 ·obtain⟨C,x,dx,c,rfl,_⟩:=h
  rfl
 ·obtain⟨C,x,dx,c,rfl,hC,hK,hx,q⟩:=h;refine⟨_,(aF (gq (aa 0) (aa 1) rfl)
   (aL (dh (tQ (aa 0) T.agu (L8 T aA aB aC) (hr.mono (by decide)) T.DU .nil aM)))),?_⟩
  wp_walk using hK.cl,hK.n1,hK.n2,hK.n3,hx;refine⟨hC,C,x,dx,c,_,rfl,hC,hK,aH,.inl rfl,λB H' nB sb hl=>q B H' ?_ (λb o e hb=>sb b o ((aI hb).trans e) hb) hl⟩;by_cases hb:B=x
  ·rw[hb,aH] at nB;cases nB
  ·rwa [aI hb] at nB
theorem agZ(T:Tx K mg A)(aA:au mg base A.bg A.aQ)(aB:au mg base A.bq A.aX)(aC:au mg base A.br A.aY):aZ P w K mg base bu 2 A.uH A.BW ["self", "dues"] (aev K A.a_ A.bK [A.bQ,A.bV]):=by
 refine T.US.ok afW (λvs H Q E h=>?_) (λaU Ar outer s H vs Q E hr h=>?_)
 ·obtain⟨C,x,dx,B,st,D,ps,ds,rfl,_⟩:=h
  rfl
 ·obtain⟨C,x,dx,B,st,D,ps,ds,rfl,hC,hK,hx,hd,fL,q⟩:=h;have fq:=hd.n;have hu:=jF hr;have l6:=hx.o;unfold jm at l6;refine⟨_,(aF (cF (jR (iJ (dI (aa 0) rfl))) (aL (bw (aa 1))) bT)
   (aF (pU (cF (jR (iJ (bY (Ah rfl) rfl T.rT boot_any (ah (gJ (N:=["due", "self"]) (nt:=1) (fv:=[0]) (cW.of rfl rfl (by rfl) (by rfl) (by repeat (first | exact trivial | refine⟨rfl,?_⟩)) (by rfl) (by rfl) (by rfl) (by decide) (by decide +kernel)) rfl (e9 (aa 1)) (λC s H fp=>(bI (i:=0) (show List.Nodup (["due", "self"]:List Str) by decide +kernel) rfl (Or.inl rfl))) (λC s H fp=>jg) (λC s H fp=>(O8 (GW hu (j3 (K:=K) rfl (aa 0) rfl) (j3 (K:=K) rfl (aa 1) rfl))))) aq)))) (aL (jB (aa 0) (aW (agB T aA aB aC) (hr.mono (by decide)) rfl T.UO T.K9.kp T.UN .nil aM (ah (aa 1) aq)) rfl)) bT))
   (aL (bw (gJ (N:=["due", "self"]) (nt:=1) (fv:=[0]) (cW.of rfl rfl (by rfl) (by rfl) (by repeat (first | exact trivial | refine⟨rfl,?_⟩)) (by rfl) (by rfl) (by rfl) (by decide) (by decide +kernel)) rfl (e9 (aa 1)) (λC s H fp=>(bI (i:=0) (show List.Nodup (["due", "self"]:List Str) by decide +kernel) rfl (Or.inl rfl))) (λC s H fp=>(nZ (aaR (GW hu (j3 (K:=K) rfl (aa 0) rfl) (j3 (K:=K) rfl (aa 1) rfl))))) (λC s H fp=>(aa 0))))))),?_⟩
  wp_walk using T,hK.cl,hK.n1,hK.n2,hK.n3,l6;refine cN (λh0=>?_) λh0=>?_
  ·refine q D ps B H (.inl rfl) (λ_ _ e _=>e) ?_ ?_
   ·unfold dZ;rw[if_neg (by rw[h0];simp)];exact hx
   ·unfold eN;rw[if_neg (by rw[h0];simp)];exact hd
  ·have hc:st.c=true:=by simpa using h0
   refine⟨λσ H1=>∃B',σ = [some (.ref x),some (.ref D)]/\(B' = B\/H B' = none)/\SameBut x H H1/\fz C H1 x (dZ st ds) dx B'/\fH K A.a_ A.bK H1 D ps ds,?_,?_⟩
   ·refine iU D (ps.map V.ref) (λD2 i ys az H2=>∃(u:Option V),ys=((ds.take i).map λd=>decide (d.n∈st.b)).map V.bl/\az = [u,some (.ref x)]/\H2 D2=some (.lst ys)/\aj H H2/\H D2=none) (λQ q=>q) (aE.of hd.l) ?_ ?_ ?_ ?_
    ·intro D2 hD;exact⟨none,rfl,rfl,aH,aj.put hD,hD⟩
    ·rintro D2 i ys az H2 ⟨u,rfl,rfl,e1,e2,e3⟩;exact⟨e1,gB (by simp only[List.length_map,List.length_take];lia),aE.of (e2 _ _ hd.l)⟩
    ·rintro D2 i y ys az H2 N hN hy ⟨u,rfl,rfl,e1,e2,e3⟩;obtain⟨dp,gG,rfl⟩:=fG hy;have hi:i<ds.length:=by rw[← fq];exact dM gG
     refine(hd.same e2).el i dp ds[i] gG (List.getElem?_eq_getElem hi) λcZ ap l ts m b' bH hD=>?_;have dF:=hD.o;have yQ:=e2 _ _ l6;obtain⟨kvs,k1,k2,k3⟩:=(hx.same e2).d;unfold iW at dF;wp_walk using T,hK.cl,hK.n1,hK.n2,hK.n3,dF,yQ;refine⟨_,fY.k (k:=c8 ds[i].n) k1,e1,hN _ _ _ ⟨_,?_,rfl,aH,aj.put2 e2 e3,e3⟩⟩;rw[take_succ_get (List.getElem?_eq_getElem hi),List.map_append,List.map_append,k3];rfl
    ·rintro D2 ys az H2 ⟨u,rfl,rfl,e1,e2,e3⟩;rw[List.length_map,fq,List.take_length] at e1;have yQ:=e2 _ _ l6;have ea:(ds.map λd=>decide (d.n∈st.b)).any id=ds.any λd=>decide (d.n∈st.b):=by rw[List.any_map];rfl
     refine⟨D2,rfl,_,aE.of e1,cN (λh1=>?_) λh1=>?_⟩
     ·rw[ea] at h1;refine⟨D,ps,ds,rfl,hd.same e2,fL,λBn kvs H3 s3 nB hB hl hv=>?_⟩;have Xz:=s3 _ _ yQ;have sb:SameBut x H (upd H3 x (.ins C dx [("calm",V.bl st.c),("inward",V.bl st.i),("batch",V.ref Bn)])):=(SameBut.of (e2.trans s3)).put;refine⟨_,_,_,Xz,hK.cl,hK.n3,by simp,Bn,rfl,.inr (e2.free nB),sb,⟨?_,kvs,?_,hl,?_⟩,hd.kt (hx.jM sb)⟩
      ·rw[aH];unfold dZ;rw[if_pos hc,if_neg (by rw[h1];simp)]
       rfl
      ·rw[aI (λz=>by rw[z,Xz] at hB;cases hB)];exact hB
      ·unfold dZ;rw[if_pos hc,if_neg (by rw[h1];simp)]
       exact hv
     ·rw[ea] at h1;refine⟨B,rfl,.inl rfl,SameBut.of e2,?_,hd.same e2⟩;unfold dZ;rw[if_pos hc,if_pos (by simpa using h1)]
      exact hx.same e2
   ·rintro σ H1 ⟨B',rfl,bB,sb,f9,bX⟩;have sN:(dZ st ds).c=true:=by
     unfold dZ;rw[if_pos hc];split
     ·exact hc
     ·exact hc
    have nu:=f9.o;unfold jm at nu;walk_at "rdm";have ql:=q;unfold eN at ql;rw[if_pos hc] at ql;generalize dZ st ds=Mj at *
    refine iU D (ps.map V.ref) (λD2 i ys az H2=>∃(u:Option V) (as:List Addr),ys=as.map V.ref/\az = [u,some (.ref x)]/\H2 D2=some (.lst ys)/\aj H1 H2/\H1 D2=none/\j6 K A.a_ A.bK H1 as ((ds.take i).filter λd=>decide (d.n∈Mj.b))) (λQ q=>q) (aE.of bX.l) ?_ ?_ ?_ ?_
    ·intro D2 hD;exact⟨none,[],rfl,rfl,aH,aj.put hD,hD,j6.nil⟩
    ·rintro D2 i ys az H2 ⟨u,as,rfl,rfl,e1,e2,e3,e4⟩;have:=List.length_filter_le (λd:Dr=>decide (d.n∈Mj.b)) (ds.take i);rw[List.length_take] at this;exact⟨e1,gB (by rw[List.length_map,e4.n];lia),aE.of (e2 _ _ bX.l)⟩
    ·rintro D2 i y ys az H2 N hN hy ⟨u,as,rfl,rfl,e1,e2,e3,e4⟩;obtain⟨dp,gG,rfl⟩:=fG hy;have hi:i<ds.length:=by rw[← fq];exact dM gG
     have gK:=bX.t i dp ds[i] gG (List.getElem?_eq_getElem hi);refine(bX.same e2).el i dp ds[i] gG (List.getElem?_eq_getElem hi) λcZ ap l ts m b' bH hD=>?_;have dF:=hD.o;have yQ:=e2 _ _ nu;obtain⟨kvs,k1,k2,k3⟩:=(f9.same e2).d;have et:=Ia (p:=λd:Dr=>decide (d.n∈Mj.b)) (List.getElem?_eq_getElem hi);unfold iW at dF;wp_walk using T,hK.cl,hK.n1,hK.n2,hK.n3,dF,yQ;refine⟨_,fY.k (k:=c8 ds[i].n) k1,cN (λh1=>?_) λh1=>?_⟩
     ·rw[k3] at h1;refine⟨e1,hN _ _ _ ⟨_,as++[dp],by rw[List.map_append];rfl,rfl,aH,aj.put2 e2 e3,e3,?_⟩⟩
      rw[et,if_pos h1];exact e4.snoc gK
     ·rw[k3] at h1;refine hN _ _ _ ⟨_,as,rfl,rfl,e1,e2,e3,?_⟩;rw[et,if_neg h1,List.append_nil];exact e4
    ·rintro D2 ys az H2 ⟨u,as,rfl,rfl,e1,e2,e3,e4⟩;rw[List.length_map,fq,List.take_length] at e4;exact ql D2 as B' H2 bB (sb.step e2) (f9.same e2) ⟨e1,e4.n,λi a d h1 h2=>let ⟨dx,ap,l,ts,m,b,bH,hD⟩:=e4.t i a d h1 h2;⟨dx,ap,l,ts,m,b,bH,hD.same e2⟩⟩
theorem ag0(T:Tx K mg A)(aA:au mg base A.bg A.aQ)(aB:au mg base A.bq A.aX)(aC:au mg base A.br A.aY):aZ P w K mg base bu 2 A.B5 A.B6 ["swing", "rings"] (acF K):=by
 refine T.Lh.ok TV (λvs H Q E h=>?_) (λaU Ar outer s H vs Q E hr h=>?_)
 ·obtain⟨a,sw,n,rfl,_⟩:=h
  rfl
 ·obtain⟨a,sw,n,rfl,hS,ok,hn,q⟩:=h;refine⟨_,(aF (kJ (eO uw (bY fK rfl T.dg boot_len (ah (aa 0) aq)) (aa 1) (bA _)) gu bT)
   (aF (cF (cD qJ (bM fj (aa 0) aD (λ_ _=>rfl)) aD (bA _)) gu bT)
   (aF (eV PassesOwn.never rfl (pB rfl T.gZ (ah aD (ah (aa 1) aq))) (bI (i:=2) TV.nd rfl (Or.inl rfl))
   (aF (cF (PW.pt (fE (cD gv (bM fj (aa 0) (aa 2) (λ_ _=>rfl)) aD (bA _)) (gc (cD k_ (bM fj (aa 0) (aa 2) (λ_ _=>rfl)) (iw (v:=.int 1000000000) rfl T.L3 ⟨_,rfl⟩) (bA _))))) gu bT)
   (aL (cF (cD gv (bM fj (aa 0) (aa 2) (λ_ _=>rfl)) (bM fj (aa 0) (aR lV (aa 2) aD) (λ_ _=>rfl)) (bA _)) gu bT))))
   (aL (dh (aW (agE T aA aB aC) (hr.mono (by decide)) rfl T.Va T.Li.kp T.U_ .nil aM (ah (aa 0) aq))))))),?_⟩
  walk_at "rdm";have hl:=ok.len;have h2:=ok.two;refine⟨_,.inl hS,by simpa using hl,_,hS,_,jG (by lia) (by lia),rfl,by rw[show (0:Int).toNat=0 from rfl,ok.z],?_⟩
  refine pM 1 n (λi σ H'=>∃r,σ = [some (.ref a),some (.int n),r]/\H' = H) (λQ q=>?_) (by lia) (by lia) (by lia) (by lia) ⟨none,rfl,rfl⟩ ?_ ?_
  ·walk_at "rdm";exact q
  ·rintro i σ H' N hN hi ⟨r,rfl,rfl⟩;walk_at "rdm";have e1:((1:Int)+(i:Int)).toNat=1+i:=by lia
   have e2:((1:Int)+(i:Int) - 1).toNat=1+i - 1:=by lia
   have g:=ok.pos (1+i) (by lia) (by lia)
   have g2:=ok.up (1+i) (by lia) (by lia)
   refine⟨_,hS,_,jG (by lia) (by lia),?_⟩
   walk_at "rdm";rw[e1];refine⟨by lia,_,hS,_,jG (by lia) (by lia),?_⟩
   walk_at "rdm";rw[e1];refine⟨by lia,_,hS,_,jG (by lia) (by lia),_,hS,_,jG (by lia) (by lia),?_⟩
   walk_at "rdm";rw[e1,e2];exact⟨by lia,hN _ _ ⟨_,rfl,rfl⟩⟩
  ·rintro σ H' ⟨r,rfl,rfl⟩;walk_at "rdm";exact⟨a,sw,n,rfl,hS,ok,hn,q⟩
theorem ag1(T:Tx K mg A)(aA:au mg base A.bg A.aQ)(aB:au mg base A.bq A.aX)(aC:au mg base A.br A.aY):aZ P w K mg base bu 2 A.xT A.Cn ["self", "ring", "place"] (acQ K [A.bx]):=by
 refine T.Vu.ok af4 (λvs H Q E h=>?_) (λaU Ar outer s H vs Q E hr h=>?_)
 ·obtain⟨C,p,P,fp,r,c,rfl,_⟩:=h
  rfl
 ·obtain⟨C,p,P,fp,r,c,rfl,hC,hP,h0,h1,h2,h3,h4,h5,h6,h7,q⟩:=h;obtain⟨dx,a1,a2,a3,a4,ts,fs,qq,h⟩:=id hP;refine⟨_,(aL (bw (aR dw (aR e_ (aR sV (aa 2) (mT (aa 0) T.L5 (Mc T aA aB aC) (hr.mono (by decide)) T.DV .nil aM (ah (aa 1) aq))) (aR rK (aa 1) (cI (aa 0) rfl))) (cI (aa 0) rfl)))),?_⟩
  wp_walk using h.o,h.f1,h.f2,h.f3,h.f4,h.f5,h.f6,h.m1,h.m2,h.m3,h.m4,h.m5,h.m6,h.m7,h.m8,h.m9,h.g9,h.iz,h.cp.cl,h.cp.n1,h.cp.n2,h.cp.n3,h.cp.n4,h.cp.n5,h.cp.n6;refine⟨hC,C,p,P,fp,r,rfl,hP,h0,h1,h3,h4,?_⟩;wp_walk using h.o,h.f1,h.f2,h.f3,h.f4,h.f5,h.f6,h.m1,h.m2,h.m3,h.m4,h.m5,h.m6,h.m7,h.m8,h.m9,h.g9,h.iz,h.cp.cl,h.cp.n1,h.cp.n2,h.cp.n3,h.cp.n4,h.cp.n5,h.cp.n6;exact⟨.inl ⟨by lia,by lia⟩,.inl ⟨by lia,by lia⟩,h7,q⟩
theorem ag2(T:Tx K mg A)(aA:au mg base A.bg A.aQ)(aB:au mg base A.bq A.aX)(aC:au mg base A.br A.aY):aZ P w K mg base bu 2 A.xX A.Cr ["self", "ring", "place"] (acT K [A.bx]):=by
 refine T.VG.ok af8 (λvs H Q E h=>?_) (λaU Ar outer s H vs Q E hr h=>?_)
 ·obtain⟨C,p,P,fp,r,c,rfl,_⟩:=h
  rfl
 ·obtain⟨C,p,P,fp,r,c,rfl,hC,hP,h0,h1,h2,h3,q⟩:=h;obtain⟨dx,a1,a2,a3,a4,ts,fs,qq,h⟩:=id hP;have hu:=jF hr;refine⟨_,(aF (cF (jR (iJ (mT (aa 0) T.agr (agK T aA aB aC) (hr.mono (by decide)) T.VB .nil aM (ah (aa 1) (ah (aa 2) aq))))) gu bT)
   (aL (bw (ab2 hu (cI (aa 0) rfl) (i9 (ah (aa 1) (ah (aa 2) aq))) ⟨rfl,rfl,rfl,rfl⟩)))),?_⟩
  wp_walk using h.o,h.f1,h.f2,h.f3,h.f4,h.f5,h.f6,h.m1,h.m2,h.m3,h.m4,h.m5,h.m6,h.m7,h.m8,h.m9,h.g9,h.iz,h.cp.cl,h.cp.n1,h.cp.n2,h.cp.n3,h.cp.n4,h.cp.n5,h.cp.n6;refine⟨hC,C,p,P,fp,r,c,rfl,hP,?_⟩;rw[decide_eq_true ⟨h0,h1,h2,h3⟩];wp_walk using h.o,h.f1,h.f2,h.f3,h.f4,h.f5,h.f6,h.m1,h.m2,h.m3,h.m4,h.m5,h.m6,h.m7,h.m8,h.m9,h.g9,h.iz,h.cp.cl,h.cp.n1,h.cp.n2,h.cp.n3,h.cp.n4,h.cp.n5,h.cp.n6;refine⟨by simp,.inr ⟨_,.inl h.cn⟩,λt nt=>⟨_,fY.t (k:=kT (r,c)) (aj.put nt _ _ h.cn) aH,q _ (aj.put nt)⟩⟩
theorem ag3(T:Tx K mg A)(aA:au mg base A.bg A.aQ)(aB:au mg base A.bq A.aX)(aC:au mg base A.br A.aY):aZ P w K mg base bu 2 A.Cs A.Ct ["plate", "ask"] (adK K [A.bx] A.a_):=by
 refine T.Ln.ok af9 (λvs H Q E h=>?_) (λaU Ar outer s H vs Q E hr h=>?_)
 ·obtain⟨C,p,ap,P,fp,q',m,b,dx,rfl,_⟩:=h
  rfl
 ·obtain⟨C,p,ap,P,fp,q',m,b,dx,rfl,hC,hP,ha,hf,hn,q⟩:=h;refine⟨_,(aL (bw (gJ (N:=["number", "plate"]) (nt:=1) (fv:=[0]) (cW.of rfl rfl (by rfl) (by rfl) (by repeat (first | exact trivial | refine⟨rfl,?_⟩)) (by rfl) (by rfl) (by rfl) (by decide) (by decide +kernel)) rfl (pB rfl T.gZ (ah (cI (aa 1) rfl) (ah (aR jt (cI (aa 1) rfl) (cI (aa 1) rfl)) aq))) (λC s H fp=>(bI (i:=0) (show List.Nodup (["number", "plate"]:List Str) by decide +kernel) rfl (Or.inl rfl))) (λC s H fp=>jg) (λC s H fp=>(mT (aa 1) T.ags (agL T aA aB aC) (hr.mono (by decide)) T.VE .nil aM (ah (aa 0) aq)))))),?_⟩
  wp_walk using T,ha.o;obtain⟨f0,m0,m1,fit⟩:=hf;refine Rr q'.first (q'.first+q'.many) (λD i ys az H2=>∃(u:Option V) (ts:List Addr),az = [u,some (.ref p)]/\ys=ts.map V.ref/\Zn H2 D ts ((P.nc.drop q'.first.toNat).take i)/\aj H H2/\H D=none/\i<=16) (λQ q=>?_) (by lia) (by lia) (by lia) (by lia) ?_ ?_ ?_ ?_
  ·wp_walk using T,ha.o
   try exact q
  ·intro D hD;exact⟨none,[],rfl,rfl,by rw[List.take_zero];exact Zn.start,aj.put hD,hD,by lia⟩
  ·rintro D i ys az H2 ⟨u,ts,rfl,rfl,g2,g3,g4,g5⟩;exact⟨g2.l,gB (by rw[List.length_map,g2.n,List.length_take];lia)⟩
  ·rintro D i ys az H2 N hN hi ⟨u,ts,rfl,rfl,g2,g3,g4,g5⟩;walk_at "rdm";obtain⟨Ml,a1,a2,a3,a4,uh,fs,qq,hA⟩:=hP.same g3;refine⟨C,Ml,fs,hA.o,hC,hA.m9,⟨C,p,P,fp,_,rfl,hP.same g3,by lia,by lia,λt q0 eq ht=>⟨g2.l,hN _ _ _ ⟨_,ts++[t],rfl,by rw[List.map_append];rfl,?_,aj.put2 g3 g4,g4,by lia⟩⟩⟩⟩
   rw[adJ f0 eq];exact g2.push ht
  ·rintro D ys az H2 ⟨u,ts,rfl,rfl,g2,g3,g4,g5⟩;rw[show (q'.first+q'.many - q'.first).toNat=q'.many.toNat by lia] at g2
   exact q _ _ _ g3 g4 g2
theorem ag4(T:Tx K mg A)(aA:au mg base A.bg A.aQ)(aB:au mg base A.bq A.aX)(aC:au mg base A.br A.aY):aZ P w K mg base bu 2 A.CH A.CI ["asks", "number"] (adx K A.a_):=by
 refine T.Lu.ok TY (λvs H Q E h=>?_) (λaU Ar outer s H vs Q E hr h=>?_)
 ·obtain⟨la,ps,qs,k,q',rfl,_⟩:=h
  rfl
 ·obtain⟨la,ps,qs,k,q',rfl,ha,hk,hn,bl,q⟩:=h;refine⟨_,(aF (bF (i:=2) TY.nd rfl (Or.inr rfl) (bM fj (aa 0) (aa 1) (λ_ _=>rfl)))
   (aL (bw (vP Qz rfl T.uM boot_tuple (ah (gJ (N:=["other", "ask", "asks"]) (nt:=1) (fv:=[2,0]) (cW.of rfl rfl (by rfl) (by rfl) (by repeat (first | exact trivial | refine⟨rfl,?_⟩)) (by rfl) (by rfl) (by rfl) (by decide) (by decide +kernel)) rfl (sU rfl T.gZ (ah (aa 1) aq)) (λC s H fp=>(bI (i:=0) (show List.Nodup (["other", "ask", "asks"]:List Str) by decide +kernel) rfl (Or.inl rfl))) (λC s H fp=>(nZ (PW.pt (fE (cD (adp (K:=K) rfl) (aa 0) (j3 (K:=K) rfl (aa 1) rfl) rfl) (gc (iJ (aW (agA T aA aB aC) (hr.mono (by decide)) rfl T.Uj T.KH.kp T.Ui .nil aM (ah (aa 1) (ah (bM (xm (K:=K) rfl) (aa 2) (aa 0) (λ_ _=>rfl)) aq))))))))) (λC s H fp=>(aa 0))) aq))))),?_⟩
  walk_at "rdt";obtain⟨p,m,b,dx,e1,a1⟩:=ha.at hk;have Mf:=(List.getElem?_eq_some_iff.mp hk).1;refine⟨_,aE.of ha.l,_,gA e1,?_⟩;obtain⟨pf,epf,hpf⟩:∃pf:Nat->Bool,Al qs k=((List.range k).filter pf).map (λ(j:Nat)=>(j:Int))/\∀(j:Nat) (q0:Ak),qs[j]? = some q0->pf j=(decide ((j:Int)∈q'.behind) || tV q' q0):=⟨_,rfl,λj q0 e=>by rw[hk,e]⟩
  have lfl:∀i,((List.range i).filter pf).length<=i:=λi=>by have:=List.length_filter_le pf (List.range i);simpa using this
  refine Hs (k:Int) (λD i ys az H2=>∃(u:Option V),ys=((List.range i).filter pf).map (λ(j:Nat)=>V.int (j:Int))/\az = [u,some (.ref p),some (.ref la)]/\H2=upd H D (.lst ys)/\H D=none/\i<=k) (λQ q=>?_) (by lia) (by lia) ?_ ?_ ?_ ?_
  ·walk_at "rdm";exact q
  ·intro D hD;exact⟨none,rfl,rfl,rfl,hD,Nat.zero_le _⟩
  ·rintro D i ys az H2 ⟨u,rfl,rfl,rfl,g3,g4⟩;exact⟨aH,gB (by rw[List.length_map];have:=lfl i;lia)⟩
  ·rintro D i ys az H2 N hN hi ⟨u,rfl,rfl,rfl,g3,g4⟩;have iT:i<k:=by simpa using hi
   have XA:i<qs.length:=by lia
   have s1:=aj.put (o:=HO.lst (((List.range i).filter pf).map (λ(j:Nat)=>V.int (j:Int)))) g3;have i6:=ha.same s1;have Mm:=a1.same s1;obtain⟨p0,m0,b0,Xo,e3,a2⟩:=i6.at (List.getElem?_eq_getElem XA);have Mn:=hpf i _ (List.getElem?_eq_getElem XA);have yes:pf i=true->((List.range i).filter pf).map (λ(j:Nat)=>V.int (j:Int))++[V.int (i:Int)] = ((List.range (i+1)).filter pf).map (λ(j:Nat)=>V.int (j:Int)):=λz=>by
    rw[List.range_succ,List.filter_append,List.map_append,show List.filter pf [i] = [i] by simp[z]];rfl
   have no:pf i=false->((List.range i).filter pf).map (λ(j:Nat)=>V.int (j:Int))=((List.range (i+1)).filter pf).map (λ(j:Nat)=>V.int (j:Int)):=λz=>by
    rw[List.range_succ,List.filter_append,show List.filter pf [i] = [] by simp[z],List.append_nil]
   walk_at "rdm";refine⟨_,_,_,Mm.o,T.kN,T.yD,_,rfl,_,rfl,_,.inr (bD.of Mm.bh),rfl,ado _,?_⟩;rw[RL];refine cN (λh1=>?_) (λh1=>⟨_,aE.of i6.l,_,gA e3,_,_,_,_,_,_,_,_,_,_,rfl,Mm,a2,_,rfl,cN (λh2=>⟨aH,?_⟩) (λh2=>?_)⟩)
   ·have z:pf i=true:=by rw[Mn,h1];rfl
    rw[yes z];exact hN _ _ _ ⟨_,rfl,rfl,rfl,g3,by lia⟩
   ·have z:pf i=true:=by rw[Mn,h2,Bool.or_true]
    rw[aaJ,yes z];exact hN _ _ _ ⟨_,rfl,rfl,rfl,g3,by lia⟩
   ·have z:pf i=false:=by
     rw[Mn];cases h3:tV q' qs[i] with
     | true=>exact absurd h3 h2
     | false=>simpa using h1
    rw[no z];exact hN _ _ _ ⟨_,rfl,rfl,rfl,g3,by lia⟩
  ·rintro D ys az H2 ⟨u,rfl,rfl,rfl,g3,g4⟩;simp only[Int.toNat_natCast] at *
   walk_at "rdm";have s1:=aj.put (o:=HO.lst (((List.range k).filter pf).map (λ(j:Nat)=>V.int (j:Int)))) g3;refine⟨_,.inl ⟨aE.of aH,λl hl=>q l _ (s1.trans (aj.put hl)) (s1.free hl) ?_⟩⟩;rw[aH,epf,List.map_map]
   rfl
theorem ag5(T:Tx K mg A)(aA:au mg base A.bg A.aQ)(aB:au mg base A.bq A.aX)(aC:au mg base A.br A.aY):aZ P w K mg base bu 2 A.CV A.CW ["self"] (aeD K A.bN A.a_ A.bK):=by
 refine T.V4.ok T3 (λvs H Q E h=>?_) (λaU Ar outer s H vs Q E hr h=>?_)
 ·obtain⟨x,dx,kp,ks,kk,p,r,b,Dx,ls,rfl,_⟩:=h
  rfl
 ·obtain⟨x,dx,kp,ks,kk,p,r,b,Dx,ls,rfl,hc,l1,hk,q⟩:=h;have hn:=hc.n;have ho:=hc.o;unfold e8 at ho;refine⟨_,(aF (dh (Qa (aa 0) T.oU T.V0 (agO T aA aB aC) (hr.mono (by decide)) T.VZ .nil aM))
   (aF (SG (z9 (i:=1) T3.nd rfl (Or.inl rfl) (N:=["due", "self"]) (nt:=1) (fv:=[0]) (cW.of rfl rfl (by rfl) (by rfl) (by repeat (first | exact trivial | refine⟨rfl,?_⟩)) (by rfl) (by rfl) (by rfl) (by decide) (by decide +kernel)) rfl (Sx (cI (aa 0) rfl)) (λC s H fp=>(bI (i:=0) (show List.Nodup (["due", "self"]:List Str) by decide +kernel) rfl (Or.inl rfl))) (λC s H fp=>(nZ (eO sX (lW (K:=K) rfl (lW (K:=K) rfl (aa 0) rfl) rfl) (lW (K:=K) rfl (aa 1) rfl) (bA _)))) (λC s H fp=>(aa 0))))
   (aL (bw (gJ (N:=["due", "self"]) (nt:=1) (fv:=[0]) (cW.of rfl rfl (by rfl) (by rfl) (by repeat (first | exact trivial | refine⟨rfl,?_⟩)) (by rfl) (by rfl) (by rfl) (by decide) (by decide +kernel)) rfl (e9 (aa 1)) (λC s H fp=>(bI (i:=0) (show List.Nodup (["due", "self"]:List Str) by decide +kernel) rfl (Or.inl rfl))) (λC s H fp=>(nZ (jR (iJ (P_ (aa 1) T.oU T.V3 (agP T aA aB aC) (hr.mono (by decide)) T.V2 .nil aM (ah (lW (K:=K) rfl (aa 0) rfl) aq)))))) (λC s H fp=>(aa 0))))))),?_⟩
  wp_walk using T,ho;refine⟨x,dx,kp,ks,kk,p,r,b,Dx,ls,rfl,hc,l1,λb2 H1 st s1 gO=>?_⟩;have uP:=gO.o;unfold e8 at uP;refine SH Dx (c9 ls) (λob D i ys az H2=>∃(u:Option V),ys=((ls.take i).filter λy=>decide (y.1.q.at_<=b2)).map (λy=>V.ref y.2)/\az = [u,some (.ref x)]/\H2 D=some (.lst ys)/\H2 Dx=some (.cS ob (.dK (c9 ls)))/\cu x Dx H1 H2/\H1 D=none/\H2 x=H1 x) (λQ q=>?_) gO.d hc.nf ?_ ?_ ?_ ?_
  ·wp_walk using T,uP;exact q
  ·intro ob D nD;have n1:Dx≠D:=cO gO.d nD;have n2:x≠D:=cO gO.o nD;have n3:=gO.ne;exact⟨none,rfl,rfl,aH,by rw[aI n1,aH],(cu.of (λ_ _ e=>e)).um.put nD,nD,by rw[aI n2,aI n3]⟩
  ·rintro ob D i ys az H2 ⟨u,rfl,rfl,e1,e2,e3,e4,e5⟩;have:=List.length_filter_le (λy:Dr×Addr=>decide (y.1.q.at_<=b2)) (ls.take i);rw[List.length_take] at this;exact⟨e1,gB (by rw[List.length_map];lia),e2⟩
  ·rintro ob D i y ys az H2 N hN hy ⟨u,rfl,rfl,e1,e2,e3,e4,e5⟩;unfold c9 at hy;obtain⟨z,hz,rfl⟩:=fG hy;have hi:i<ls.length:=dM hz;have rZ:z=ls[i]:=by rw[List.getElem?_eq_getElem hi] at hz;exact(Option.some.inj hz).symm
   subst rZ;obtain⟨cZ,ap,l,ts,m,b',bH,hD⟩:=gO.uo e3 (gO.t _ (List.getElem_mem hi));have dF:=hD.o;have qo:=hD.a.o;have lu:=e5.trans uP;unfold iW at dF;unfold fZ at qo;have n1:Dx≠D:=cO gO.d e4;have n2:x≠D:=cO gO.o e4;have et:=Ia (p:=λy:Dr×Addr=>decide (y.1.q.at_<=b2)) (List.getElem?_eq_getElem hi);wp_walk using T,dF,qo,lu;refine cN (λh1=>?_) λh1=>?_
   ·refine⟨e1,hN _ _ _ ⟨_,?_,rfl,aH,by rw[aI n1];exact e2,e3.put e4,e4,by rw[aI n2];exact e5⟩⟩
    rw[et,if_pos (by simpa using h1),List.map_append];rfl
   ·refine hN _ _ _ ⟨_,?_,rfl,e1,e2,e3,e4,e5⟩;rw[et,if_neg (by simpa using h1),List.append_nil]
  ·rintro ob D ys az H2 ⟨u,rfl,rfl,e1,e2,e3,e4,e5⟩;have n1:Dx≠D:=cO gO.d e4;have n3:=gO.ne;rw[wU,List.take_length] at e1;have s2:cu x Dx H1 (upd H2 Dx (.dK (c9 ls))):=e3.um;have j9:=gO.step s2 (.refl _) (by rw[aI n3,e5];exact gO.o) aH
   have qp:upd H2 Dx (.dK (c9 ls)) D=some (.lst ((ls.filter λy=>decide (y.1.q.at_<=b2)).map λy=>V.ref y.2)):=by rw[aI (Ne.symm n1)];exact e1
   generalize upd H2 Dx (.dK (c9 ls))=H3 at *
   walk_at "rdt";have ql:=q b2;unfold wV at ql;have XC:∀y∈ls.filter (λy=>decide (y.1.q.at_<=b2)),y∈ls:=λy hy=>(List.mem_filter.mp hy).1;have oq:=List.length_filter_le (λy:Dr×Addr=>decide (y.1.q.at_<=b2)) ls;generalize ls.filter (λy=>decide (y.1.q.at_<=b2))=kP at *
   refine iU D (kP.map λy=>V.ref y.2) (λD2 i ys az H4=>∃(u:Option V),ys=((kP.take i).filter λy => !((kk.getD y.1.n.toNat []).any (lR ls))).map (λy=>V.ref y.2)/\az = [u,some (.ref x)]/\H4 D2=some (.lst ys)/\aj H3 H4/\H3 D2=none) (λQ q=>q) (aE.of qp) ?_ ?_ ?_ ?_
   ·intro D2 nD;exact⟨none,rfl,rfl,aH,aj.put nD,nD⟩
   ·rintro D2 i ys az H4 ⟨u,rfl,rfl,g1,g2,g3⟩;have:=List.length_filter_le (λy:Dr×Addr => !((kk.getD y.1.n.toNat []).any (lR ls))) (kP.take i);rw[List.length_take] at this;exact⟨g1,gB (by rw[List.length_map];lia),aE.of (g2 _ _ qp)⟩
   ·rintro D2 i y ys az H4 N hN hy ⟨u,rfl,rfl,g1,g2,g3⟩;obtain⟨z,hz,rfl⟩:=fG hy;have hi:i<kP.length:=dM hz;have rZ:z=kP[i]:=by rw[List.getElem?_eq_getElem hi] at hz;exact(Option.some.inj hz).symm
    subst rZ;have XD:=XC _ (List.getElem_mem hi);have r_:=j9.same g2;obtain⟨cZ,ap,l,ts,m,b',bH,hD⟩:=r_.t _ XD;obtain⟨k0,k1⟩:=r_.kn _ XD;have dF:=hD.o;have XE:=r_.o;unfold iW at dF;unfold e8 at XE;have et:=Ia (p:=λy:Dr×Addr => !((kk.getD y.1.n.toNat []).any (lR ls))) (List.getElem?_eq_getElem hi);wp_walk using T,dF,XE;have Mf:kP[i].1.n.toNat<kk.length:=by lia
    have XF:kk[kP[i].1.n.toNat]? = some (kk.getD kP[i].1.n.toNat []):=by rw[List.getD_eq_getElem?_getD,List.getElem?_eq_getElem Mf];rfl
    have en:kP[i].1.n=((kP[i].1.n.toNat:Nat):Int):=by lia
    refine⟨x,dx,kp,ks,kk,p,r,b2,Dx,ls,kP[i].1.n.toNat,_,by rw[← en],r_,XF,hk _ (List.mem_of_getElem? XF),λH5 s5=>⟨_,rfl,cN (λh1=>?_) λh1=>?_⟩⟩
    ·refine⟨s5 _ _ g1,hN _ _ _ ⟨_,?_,rfl,aH,aj.put2 (g2.trans s5) g3,g3⟩⟩;rw[et,if_pos (by rw[h1];rfl),List.map_append];rfl
    ·refine hN _ _ _ ⟨_,?_,rfl,s5 _ _ g1,g2.trans s5,g3⟩;rw[et,if_neg (by simpa using h1),List.append_nil]
   ·rintro D2 ys az H4 ⟨u,rfl,rfl,g1,g2,g3⟩;have r_:=j9.same g2;rw[List.length_map,List.take_length] at g1;have s4:=(s1.trans s2).trans (cu.of g2);refine ql D2 H4 st s4 r_ (j9.free (s1.trans s2) g3) ⟨by rw[g1,List.map_map];rfl,by simp,λi p' d' h1 h2=>?_⟩
    rw[List.getElem?_map] at h1 h2;cases e:(kP.filter λy => !((kk.getD y.1.n.toNat []).any (lR ls)))[i]? with
    | none=>rw[e] at h1;cases h1
    | some y =>
     rw[e] at h1 h2;cases h1;cases h2;exact r_.t y (XC y (List.mem_filter.mp (List.mem_of_getElem? e)).1)
theorem ag6(T:Tx K mg A)(aA:au mg base A.bg A.aQ)(aB:au mg base A.bq A.aX)(aC:au mg base A.br A.aY):aZ P w K mg base bu 2 A.C7 A.C8 ["asks", "picks"] (SR K A.a_):=by
 refine T.Ly.ok xw (λvs H Q E h=>?_) (λaU Ar outer s H vs Q E hr h=>?_)
 ·obtain⟨la,ps,qs,pi,ns,rfl,_⟩:=h
  rfl
 ·obtain⟨la,ps,qs,pi,ns,rfl,ha,q1,hq,hp,n1,hn,q⟩:=h;have hu:=jF hr;have an:=ha.n;refine⟨_,(aF (bF (i:=2) xw.nd rfl (Or.inl rfl) (aR zR (fF (ah pe aq)) (bY fK rfl T.dg boot_len (ah (aa 0) aq))))
   (aF (bF (i:=3) xw.nd rfl (Or.inr rfl) vU)
   (aF (eV PassesOwn.never rfl (e9 (aa 1)) (bI (i:=4) xw.nd rfl (Or.inl rfl))
   (aF (bF (i:=5) xw.nd rfl (Or.inl rfl) (bM fj (aa 0) (aa 4) (λ_ _=>rfl)))
   (aL (cF (cD eX (dI (aa 5) rfl) cQ (bA _)) (aL (Pq (gJ (N:=["cell", "marks"]) (nt:=1) (fv:=[3]) (cW.of rfl rfl (by rfl) (by rfl) (by repeat (first | exact trivial | refine⟨rfl,?_⟩)) (by rfl) (by rfl) (by rfl) (by decide) (by decide +kernel)) rfl (e9 (aW (agT T aA aB aC) (hr.mono (by decide)) rfl T.We T.Lx.kp T.Wd .nil aM (ah (aa 5) aq))) (λC s H fp=>(bI (i:=0) (show List.Nodup (["cell", "marks"]:List Str) by decide +kernel) rfl (Or.inl rfl))) (λC s H fp=>jg) (λC s H fp=>(ab3 hu (aa 1) (aa 0) aD ⟨rfl,rfl,rfl,rfl⟩))) (Pp (aa 2) (aa 4) set_list))) gu))))
   (aL (bw (aa 2)))))),?_⟩
  walk_at "rdt";intro t1 m1;have s1:=aj.put (o:=.lst [V.aV]) m1;refine⟨_,.inl (aE.of (s1 _ _ ha.l)),by lia,by rw[List.length_map];lia,by rw[List.length_map];lia,λt2 m2 t3 m3=>?_⟩
  have s2:=aj.put (o:=.lst (List.replicate (((ps.map V.ref).length:Int)).toNat [V.aV]).flatten) m2;have s3:=aj.put (o:=.dK []) m3;have h2:=s3 _ _ (aH (H:=upd H t1 (.lst [V.aV])) (a:=t2) (o:=.lst (List.replicate (((ps.map V.ref).length:Int)).toNat [V.aV]).flatten));have h3:=aH (H:=upd (upd H t1 (.lst [V.aV])) t2 (.lst (List.replicate (((ps.map V.ref).length:Int)).toNat [V.aV]).flatten)) (a:=t3) (o:=.dK []);have s:=(s1.trans s2).trans s3;have m2':=s1.free m2;have m3':=(s1.trans s2).free m3;have hl:((List.replicate (((ps.map V.ref).length:Int)).toNat [V.aV]).flatten).length=qs.length:=by simp[an]
  generalize (List.replicate (((ps.map V.ref).length:Int)).toNat [V.aV]).flatten=xs at *
  generalize upd (upd (upd H t1 (.lst [V.aV])) t2 (.lst xs)) t3 (.dK [])=H3 at *
  refine rl pi (ns.map V.int) (λi σ H'=>∃(x1 x2:Option V) (xs:List V),σ = [some (.ref la),some (.ref pi),some (.ref t2),some (.ref t3),x1,x2]/\aj H H'/\H' t2=some (.lst xs)/\xs.length=qs.length/\H' t3=some (.dK [])) (λQ q=>q) (aE.of (s _ _ hp)) ⟨none,none,xs,rfl,s,h2,hl,h3⟩ (by rintro i σ H' _ ⟨_,_,_,rfl,s',_⟩;exact aE.of (s' _ _ hp)) ?_ ?_
  ·rintro i x σ H' N hN hx ⟨x1,x2,xs,rfl,s',g2,gl,g3⟩;obtain⟨n,hni,rfl⟩:=fG hx;obtain⟨n0,n9⟩:=hn n (List.mem_of_getElem? hni);have hk:n.toNat<qs.length:=by lia
   have jv:=List.getElem?_eq_getElem hk;obtain⟨ap,m,b,dx,e1,a1⟩:=(ha.same s').at jv;obtain⟨k1,k2,k3,k4,k5⟩:=hq _ (List.getElem_mem hk);have a2:=a1.o;unfold fZ at a2;rw[k1] at a2;have ei:gg (ps.map V.ref) n=some (.ref ap):=by have:=gA e1;rwa [show ((n.toNat:Nat):Int)=n by lia] at this
   walk_at "rdt";refine⟨_,aE.of (s' _ _ ha.l),_,ei,?_⟩;refine⟨ap,rfl,_,_,_,a2,T.kN,T.yz,_,rfl,rfl,rfl,?_⟩;refine SI ?_;walk_at "rdt";refine⟨ap,_,m,b,dx,rfl,a1,k2,k3,k4,k5,λl cs H4 s4 nl cl l8=>?_⟩;refine iU l (cs.map V.int) (λD i ys az H5=>∃(u:Option V),az = [u,some (.ref t3)]/\H5 D=some (.lst ys)/\ys.length<=i/\i<=cs.length/\aj H4 H5/\H4 D=none) (λQ q=>q) (aE.of l8) ?_ ?_ ?_ ?_
   ·intro D nD;exact⟨none,rfl,aH,Nat.le_refl _,Nat.zero_le _,aj.put nD,nD⟩
   ·rintro D i ys az H5 ⟨u,rfl,e1,e2,e3,e4,e5⟩;exact⟨e1,by rw[pK];lia,aE.of (e4 _ _ l8)⟩
   ·rintro D i y ys az H5 N hN hy ⟨u,rfl,e1,e2,e3,e4,e5⟩;obtain⟨c,hc,rfl⟩:=fG hy;have hi:=dM hc;have g5:=e4 _ _ (s4 _ _ g3);wp_walk using T,GY;exact⟨.inl ⟨_,.inl g5⟩,_,fY.k (k:=c8 c) g5,e1,hN _ _ _ ⟨_,rfl,aH,by rw[List.length_append,List.length_singleton];lia,by lia,aj.put2 e4 e5,e5⟩⟩
   ·rintro D ys az H5 ⟨u,rfl,e1,e2,e3,e4,e5⟩;have s5:=s4.trans e4;refine⟨xs,s5 _ _ g2,n.toNat,?_,hN _ _ ⟨_,_,_,rfl,aj.put2 (s'.trans s5) m2',aH,by rw[List.length_set];exact gl,?_⟩⟩
    ·unfold jD;rw[if_pos n0,if_pos (by lia)]
    ·rw[aI (λz=>by rw[z,g2] at g3;cases g3)]
     exact s5 _ _ g3
  ·rintro σ H' ⟨x1,x2,xs,rfl,s',g2,gl,g3⟩;walk_at "rdm";exact q _ _ s'
theorem ag7(T:Tx K mg A)(aA:au mg base A.bg A.aQ)(aB:au mg base A.bq A.aX)(aC:au mg base A.br A.aY):aZ P w K mg base bu 2 A.Dj A.Dk ["_law_a", "_law_b"] (ac0 K):=by
 refine T.LA.ok xy (λvs H Q E h=>?_) (λaU Ar outer s H vs Q E hr h=>?_)
 ·obtain⟨a,b,rfl,_⟩:=h
  rfl
 ·obtain⟨a,b,rfl,q⟩:=h;refine⟨_,(aF (cF (cD eX (aR dw (aW (eU T aA aB aC) (hr.mono (by decide)) rfl T.eG T.dO.kp T.eF .nil aM (ah (aa 1) (ah aD aq))) aD) aD (bA _)) (aL (bw (fF (ah (i9 (ah (aR e_ aD (aR dw (aW (eU T aA aB aC) (hr.mono (by decide)) rfl T.eG T.dO.kp T.eF .nil aM (ah (aa 0) (ah aD aq))) aD)) (ah (aR e_ aD (aR dw (aW (eU T aA aB aC) (hr.mono (by decide)) rfl T.eG T.dO.kp T.eF .nil aM (ah (aa 1) (ah aD aq))) aD)) aq))) aq)))) bT)
   (aF (bF (i:=2) xy.nd rfl (Or.inl rfl) (aR e_ aD (aR dw (aW (eU T aA aB aC) (hr.mono (by decide)) rfl T.eG T.dO.kp T.eF .nil aM (ah (aa 0) (ah aD aq))) aD)))
   (aF (cF (cD eX (aR dw (aW (eU T aA aB aC) (hr.mono (by decide)) rfl T.eG T.dO.kp T.eF .nil aM (ah (aa 0) (ah aD aq))) aD) aD (bA _)) (aL (bF (i:=2) xy.nd rfl (Or.inl rfl) aD)) bT)
   (aF (bF (i:=3) xy.nd rfl (Or.inl rfl) (fF (ah (i9 (ah (aR e_ aD (aR dw (aW (eU T aA aB aC) (hr.mono (by decide)) rfl T.eG T.dO.kp T.eF .nil aM (ah (aa 0) (ah aD aq))) aD)) (ah (aR e_ aD (aR dw (aW (eU T aA aB aC) (hr.mono (by decide)) rfl T.eG T.dO.kp T.eF .nil aM (ah (aa 1) (ah aD aq))) aD)) aq))) aq)))
   (aF (eV PassesOwn.never rfl (pB rfl T.gZ (ah aD (ah (aa 2) aq))) (bI (i:=4) xy.nd rfl (Or.inl rfl))
   (aL (dh (jE PySem.F.plainAttrs_list PySem.F.slot_list_append PySem.F.type_list_append lA (aa 3) (ah (i9 (ah (aR e_ aD (aR dw (aW (eU T aA aB aC) (hr.mono (by decide)) rfl T.eG T.dO.kp T.eF .nil aM (ah (aa 0) (ah (aR jt aD (aa 4)) aq))) aD)) (ah (aR e_ aD (aR dw (aW (eU T aA aB aC) (hr.mono (by decide)) rfl T.eG T.dO.kp T.eF .nil aM (ah (aa 1) (ah (aa 4) aq))) aD)) aq))) aq)))))
   (aL (bw (aa 3)))))))),?_⟩
  wp_walk using dW;have m3:0<=mix a 0 % 3/\mix a 0 % 3<3:=⟨Int.emod_nonneg _ (by decide),Int.emod_lt_of_pos _ (by decide)⟩
  refine cN (λh8=>?_) (λh8=>cN (λh9=>?_) (λh9=>?_))
  ·intro p hp l hl;have kD:l≠p:=(cO aH hl).symm;have jh:H l=none:=by rw[aI kD] at hl;exact hl
   refine q l [p] _ (aj.put2 (aj.put hp) jh) jh (by simpa using hp) ?_
   unfold qX;rw[if_pos h8];refine⟨aH,rfl,λi t x e1 e2=>?_⟩;cases i with
   | zero =>
    simp at e1 e2;subst e1 e2;rw[aI kD.symm,aH]
   | succ i=>simp at e1
  ·skip
   intro p hp l hl;have kD:l≠p:=(cO aH hl).symm;have jh:H l=none:=by rw[aI kD] at hl;exact hl
   have Mp:Zn (upd (upd H p (HO.tup [V.int (2+mix a 2 % 2),V.int (1+mix b 0 % 8)])) l (HO.lst [V.ref p])) l [p] [(2+mix a 2 % 2,1+mix b 0 % 8)]:=by
    refine⟨aH,rfl,λi t x e1 e2=>?_⟩;cases i with
    | zero =>
     simp at e1 e2;subst e1 e2;rw[aI kD.symm,aH]
    | succ i=>simp at e1
   refine pM 1 (5) (λj σ H'=>∃kk ts,σ = [some (.int a),some (.int b),some (.int (5)),some (.ref l),kk]/\aj H H'/\(∀t∈ts,H t=none)/\Zn H' l ts ((2+mix a 2 % 2,1+mix b 0 % 8)::(List.range j).map λ(k:Nat)=>(1+mix a (2+(1+(k:Int))) % 3,1+mix b (1+(k:Int)) % 8)))
    (λQ q=>?_) (by lia) (by lia) (by lia) (by lia) ⟨none,[p],rfl,aj.put2 (aj.put hp) jh,by simpa using hp,by simpa using Mp⟩ ?_ ?_
   ·walk_at "rdm";exact q
   ·rintro j σ H' N hN hj ⟨kk,ts,rfl,hs,ju,hz⟩;wp_walk using dW;refine⟨⟨_,hz.sq⟩,by lia,by lia,by lia,by lia,λp1 fJ=>⟨_,aj.put fJ _ _ hz.l,?_,hN _ _ ⟨_,ts++[p1],rfl,aj.put2 (hs.trans (aj.put fJ)) jh,?_,?_⟩⟩⟩
    ·have:=hz.n;simp only[List.length_map,List.length_cons,List.length_range] at this ⊢;lia
    ·intro t ht;rcases List.mem_append.mp ht with ht | ht
     ·exact ju t ht
     ·rw[List.mem_singleton.mp ht];exact hs.free fJ
    ·have:=hz.snoc fJ (1+mix a (2+(1+(j:Int))) % 3) (1+mix b (1+(j:Int)) % 8);rw[List.range_succ,List.map_append,← List.cons_append];exact this
   ·rintro σ H' ⟨kk,ts,rfl,hs,ju,hz⟩;walk_at "rdm";refine q _ ts _ hs jh ju ?_;unfold qX;rw[if_neg h8,if_pos h9];exact hz
  ·skip
   intro p hp l hl;have kD:l≠p:=(cO aH hl).symm;have jh:H l=none:=by rw[aI kD] at hl;exact hl
   have Mp:Zn (upd (upd H p (HO.tup [V.int (2+mix a 2 % 2),V.int (1+mix b 0 % 8)])) l (HO.lst [V.ref p])) l [p] [(2+mix a 2 % 2,1+mix b 0 % 8)]:=by
    refine⟨aH,rfl,λi t x e1 e2=>?_⟩;cases i with
    | zero =>
     simp at e1 e2;subst e1 e2;rw[aI kD.symm,aH]
    | succ i=>simp at e1
   refine pM 1 (1+mix a 0 % 3) (λj σ H'=>∃kk ts,σ = [some (.int a),some (.int b),some (.int (1+mix a 0 % 3)),some (.ref l),kk]/\aj H H'/\(∀t∈ts,H t=none)/\Zn H' l ts ((2+mix a 2 % 2,1+mix b 0 % 8)::(List.range j).map λ(k:Nat)=>(1+mix a (2+(1+(k:Int))) % 3,1+mix b (1+(k:Int)) % 8)))
    (λQ q=>?_) (by lia) (by lia) (by lia) (by lia) ⟨none,[p],rfl,aj.put2 (aj.put hp) jh,by simpa using hp,by simpa using Mp⟩ ?_ ?_
   ·walk_at "rdm";exact q
   ·rintro j σ H' N hN hj ⟨kk,ts,rfl,hs,ju,hz⟩;wp_walk using dW;refine⟨⟨_,hz.sq⟩,by lia,by lia,by lia,by lia,λp1 fJ=>⟨_,aj.put fJ _ _ hz.l,?_,hN _ _ ⟨_,ts++[p1],rfl,aj.put2 (hs.trans (aj.put fJ)) jh,?_,?_⟩⟩⟩
    ·have:=hz.n;simp only[List.length_map,List.length_cons,List.length_range] at this ⊢;lia
    ·intro t ht;rcases List.mem_append.mp ht with ht | ht
     ·exact ju t ht
     ·rw[List.mem_singleton.mp ht];exact hs.free fJ
    ·have:=hz.snoc fJ (1+mix a (2+(1+(j:Int))) % 3) (1+mix b (1+(j:Int)) % 8);rw[List.range_succ,List.map_append,← List.cons_append];exact this
   ·rintro σ H' ⟨kk,ts,rfl,hs,ju,hz⟩;walk_at "rdm";refine q _ ts _ hs jh ju ?_;unfold qX;rw[if_neg h8,if_neg h9];exact hz
theorem ag8(T:Tx K mg A)(aA:au mg base A.bg A.aQ)(aB:au mg base A.bq A.aX)(aC:au mg base A.br A.aY):aZ P w K mg base bu 2 A.Dn A.Dp ["_law_zones_here", "_law_cell"] (ac2 K):=by
 refine T.LC.ok rN (λvs H Q E h=>?_) (λaU Ar outer s H vs Q E hr h=>?_)
 ·obtain⟨a,ts,z,c,rfl,_⟩:=h
  rfl
 ·obtain⟨a,ts,z,c,rfl,hz,ok,q⟩:=h;refine⟨_,(aF (bF (i:=2) rN.nd rfl (Or.inl rfl) aD)
   (aF (eV PassesOwn.never rfl (e9 (aa 0)) (jT rfl (dH (bI (i:=3) rN.nd rfl (Or.inl rfl)) (dH (bI (i:=4) rN.nd rfl (Or.inl rfl)) jS)))
   (aL (bF (i:=2) rN.nd rfl (Or.inl rfl) (aR rK (aa 2) (aa 4)))))
   (aF (bF (i:=5) rN.nd rfl (Or.inl rfl) aD)
   (aF (cF (cD eX (aR dw (aW (eU T aA aB aC) (hr.mono (by decide)) rfl T.eG T.dO.kp T.eF .nil aM (ah (aa 1) (ah aD aq))) aD) aD (bA _)) (aL (bF (i:=5) rN.nd rfl (Or.inl rfl) (aR IK (aR zJ aD aD) (aa 2)))) bT)
   (aL (bw (aR sV (aa 2) (aR e_ aD (aR dw (aW (eU T aA aB aC) (hr.mono (by decide)) rfl T.eG T.dO.kp T.eF .nil aM (ah (aa 1) (ah aD aq))) (aa 5)))))))))),?_⟩
  wp_walk using dW;have Xw:=ok.l5;have bd:∀i,1<=fQ (z.take i)/\fQ (z.take i)<=777600000:=λi=>by
   have h1:=Ad (m:=60) (by decide) (z.take i) λp hp=>(ok.r p (List.mem_of_mem_take hp)).2.2
   have h2:=Ry (m:=60) (by decide) (show (z.take i).length<=5 by rw[List.length_take];lia)
   have e:(60:Int) ^ 5=777600000:=by decide
   lia
  refine rl a (ts.map V.ref) (λi σ H'=>∃r d,σ = [some (.ref a),some (.int c),some (.int (fQ (z.take i))),r,d,none]/\H' = H) (λQ q=>q) hz.sq ⟨none,none,rfl,rfl⟩ (by rintro i σ H' _ ⟨r,d,rfl,rfl⟩;exact hz.sq) ?_ ?_
  ·rintro i x σ H' N hN hx ⟨r,d,rfl,rfl⟩;obtain⟨t,p,rfl,hp,ht⟩:=hz.at hx;refine lK (bD.of ht) rfl ?_;walk_at "rdm";have:=bd i;refine⟨.inl ⟨by lia,by lia⟩,hN _ _ ⟨some (.int p.1),some (.int p.2),?_,rfl⟩⟩
   rw[take_succ_get hp,acX]
  ·rintro σ H' ⟨r,d,rfl,rfl⟩;rw[lenZ hz.n,List.take_length];have hb:=bd z.length;rw[List.take_length] at hb;wp_walk using dW;unfold qY at q;have hq:1<=1000000000 / fQ z:=(Int.le_ediv_iff_mul_le (by lia)).mpr (by lia)
   refine cN (λh=>?_) (λh=>?_)
   ·rw[if_pos h] at q;exact⟨by decide,by lia,by lia,by lia,.inl ⟨by lia,by lia⟩,q⟩
   ·rw[if_neg h] at q;exact⟨.inl ⟨by lia,by lia⟩,q⟩
theorem ag9(T:Tx K mg A)(aA:au mg base A.bg A.aQ)(aB:au mg base A.bq A.aX)(aC:au mg base A.br A.aY):aZ P w K mg base bu 2 A.Dq A.Ds ["_law_many", "_law_cell"] (ac3 K):=by
 refine T.LD.ok rO (λvs H Q E h=>?_) (λaU Ar outer s H vs Q E hr h=>?_)
 ·obtain⟨m,c,rfl,_⟩:=h
  rfl
 ·obtain⟨m,c,rfl,h2,h60,q⟩:=h;refine⟨_,(aF (cF (cD eX (aR dw (aW (eU T aA aB aC) (hr.mono (by decide)) rfl T.eG T.dO.kp T.eF .nil aM (ah (aa 1) (ah aD aq))) aD) aD (bA _)) (aF (bF (i:=2) rO.nd rfl (Or.inl rfl) (aR e_ aD (aR dw (aW (eU T aA aB aC) (hr.mono (by decide)) rfl T.eG T.dO.kp T.eF .nil aM (ah (aa 1) (ah aD aq))) aD)))
   (aF (cF (cD eX (aR dw (aW (eU T aA aB aC) (hr.mono (by decide)) rfl T.eG T.dO.kp T.eF .nil aM (ah (aa 1) (ah aD aq))) aD) aD (bA _)) (aL (bF (i:=2) rO.nd rfl (Or.inl rfl) (aR e_ aD (aR dw (aW (eU T aA aB aC) (hr.mono (by decide)) rfl T.eG T.dO.kp T.eF .nil aM (ah (aa 1) (ah aD aq))) (aR zJ aD aD))))) bT)
   (aF (bF (i:=3) rO.nd rfl (Or.inl rfl) (fF (ah aD (ah (aa 2) aq))))
   (aF (eV PassesOwn.never rfl (pB rfl T.gZ (ah aD (ah (aa 0) aq))) (bI (i:=4) rO.nd rfl (Or.inl rfl))
   (aF (bF (i:=2) rO.nd rfl (Or.inl rfl) (aR vK (aa 2) (aR zI (aR dw (aW (eU T aA aB aC) (hr.mono (by decide)) rfl T.eG T.dO.kp T.eF .nil aM (ah (aa 1) (ah (aR jt (aa 4) aD) aq))) (aR jt (aa 2) aD)) aD)))
   (aL (dh (jE PySem.F.plainAttrs_list PySem.F.slot_list_append PySem.F.type_list_append lA (aa 3) (ah (aR e_ (bM fj (aa 3) (vJ vL aD) (λ_ _=>rfl)) (aa 2)) aq))))))
   (aL (bw (aa 3))))))) bT)
   (aF (bF (i:=5) rO.nd rfl (Or.inr rfl) (aR e_ aD (aR dw (aW (eU T aA aB aC) (hr.mono (by decide)) rfl T.eG T.dO.kp T.eF .nil aM (ah (aa 1) (ah aD aq))) (aR zJ aD aD))))
   (aL (bw (aR QI (fF (ah aD aq)) (bY acp rfl T.Er boot_sorted (ah (gJ (N:=["_law_k", "_law_least", "_law_cell"]) (nt:=1) (fv:=[5,1]) (cW.of rfl rfl (by rfl) (by rfl) (by repeat (first | exact trivial | refine⟨rfl,?_⟩)) (by rfl) (by rfl) (by rfl) (by decide) (by decide +kernel)) rfl (pB rfl T.gZ (ah aD (ah (aa 0) aq))) (λC s H fp=>(bI (i:=0) (show List.Nodup (["_law_k", "_law_least", "_law_cell"]:List Str) by decide +kernel) rfl (Or.inl rfl))) (λC s H fp=>jg) (λC s H fp=>(aR e_ (aa 1) (aR dw (aW (eU T aA aB aC) (hr.mono (by decide)) rfl T.eG T.dO.kp T.eF .nil aM (ah (aa 2) (ah (aR jt (aa 0) aD) aq))) (aR jt (aa 1) aD))))) aq))))))),?_⟩
  wp_walk using dW;refine cN (λh8=>cN (λh9=>⟨by decide,?_⟩) (λh9=>?_)) (λh8=>⟨by decide,?_⟩)
  ·skip
   intro l hl;have kE:1<=1+mix c 1 % 10000000/\1+mix c 1 % 10000000<=10000000:=⟨by have:=Int.emod_nonneg (mix c 1) (show (10000000:Int)≠0 by decide);lia,by have:=Int.emod_lt_of_pos (mix c 1) (show (0:Int)<10000000 by decide);lia⟩
   generalize 1+mix c 1 % 10000000=s0 at kE ⊢;refine pM 2 m (λj σ H'=>∃kk,σ = [some (.int m),some (.int c),some (.int (fu c s0 j)),some (.ref l),kk,none]/\aj H H'/\H' l=some (.lst (((List.range (2+j)).map (gM c s0)).map V.int)))
    (λQ q=>?_) (by lia) (by lia) (by lia) (by lia) ⟨none,rfl,aj.put hl,?_⟩ ?_ ?_
   ·walk_at "rdm";exact q
   ·rw[aH];simp[List.range_succ,gM,fu]
   ·rintro j σ H' N hN hj ⟨kk,rfl,hs,h1⟩;have b:=qZ c kE.1 j;wp_walk using dW;refine⟨by lia,by lia,by lia,⟨_,aE.of h1⟩,_,aE.of h1,_,Rj (by simp;lia),?_⟩
    wp_walk using h1;refine⟨by simp;lia,hN _ _ ⟨some (.int (2+(j:Int))),?_,aj.put2 hs hl,?_⟩⟩
    ·rw[fu]
    ·rw[aH,← Nat.add_assoc,List.range_succ,List.map_append,List.map_append,List.length_range,_L.range_getD (by lia)]
     congr 4;simp only[List.map_cons,List.map_nil,List.cons.injEq,and_true,V.int.injEq];obtain⟨i,e⟩:∃i,2+j=i+1:=⟨1+j,by lia⟩
     rw[show 2+j - 1=1+j by lia,show 2+j=1+j+1 by lia,gM,show 1+j=j+1 by lia]
     rw[fu]
   ·rintro σ H' ⟨kk,rfl,hs,h1⟩;walk_at "rdm";have e:2+(m - 2).toNat=m.toNat:=by lia
    rw[e] at h1;have so:=Rw c kE.1 (show s0<=10000000 by lia) (n:=m.toNat) (by lia) (by lia)
    rw[show ((m.toNat:Nat):Int)=m by lia] at so
    exact q _ _ _ hs hl h1 so
  ·skip
   intro l hl;have kE:1<=1+mix c 1 % 1000/\1+mix c 1 % 1000<=1000:=⟨by have:=Int.emod_nonneg (mix c 1) (show (1000:Int)≠0 by decide);lia,by have:=Int.emod_lt_of_pos (mix c 1) (show (0:Int)<1000 by decide);lia⟩
   generalize 1+mix c 1 % 1000=s0 at kE ⊢;refine pM 2 m (λj σ H'=>∃kk,σ = [some (.int m),some (.int c),some (.int (fu c s0 j)),some (.ref l),kk,none]/\aj H H'/\H' l=some (.lst (((List.range (2+j)).map (gM c s0)).map V.int)))
    (λQ q=>?_) (by lia) (by lia) (by lia) (by lia) ⟨none,rfl,aj.put hl,?_⟩ ?_ ?_
   ·walk_at "rdm";exact q
   ·rw[aH];simp[List.range_succ,gM,fu]
   ·rintro j σ H' N hN hj ⟨kk,rfl,hs,h1⟩;have b:=qZ c kE.1 j;wp_walk using dW;refine⟨by lia,by lia,by lia,⟨_,aE.of h1⟩,_,aE.of h1,_,Rj (by simp;lia),?_⟩
    wp_walk using h1;refine⟨by simp;lia,hN _ _ ⟨some (.int (2+(j:Int))),?_,aj.put2 hs hl,?_⟩⟩
    ·rw[fu]
    ·rw[aH,← Nat.add_assoc,List.range_succ,List.map_append,List.map_append,List.length_range,_L.range_getD (by lia)]
     congr 4;simp only[List.map_cons,List.map_nil,List.cons.injEq,and_true,V.int.injEq];obtain⟨i,e⟩:∃i,2+j=i+1:=⟨1+j,by lia⟩
     rw[show 2+j - 1=1+j by lia,show 2+j=1+j+1 by lia,gM,show 1+j=j+1 by lia]
     rw[fu]
   ·rintro σ H' ⟨kk,rfl,hs,h1⟩;walk_at "rdm";have e:2+(m - 2).toNat=m.toNat:=by lia
    rw[e] at h1;have so:=Rw c kE.1 (show s0<=10000000 by lia) (n:=m.toNat) (by lia) (by lia)
    rw[show ((m.toNat:Nat):Int)=m by lia] at so
    exact q _ _ _ hs hl h1 so
  ·intro l0 gh;have hL:1<=1+mix c 1 % 100000000/\1+mix c 1 % 100000000<=100000000:=⟨by have:=Int.emod_nonneg (mix c 1) (show (100000000:Int)≠0 by decide);lia,by have:=Int.emod_lt_of_pos (mix c 1) (show (0:Int)<100000000 by decide);lia⟩
   generalize 1+mix c 1 % 100000000=L at hL ⊢;have s0:=aj.put (o:=.lst [V.int 0]) gh;refine Rr 1 m (λD i ys az H2=>∃ns:List Int,ys=ns.map V.int/\ns.length=i/\(∀x∈ns,L<=x/\x<=2*L)/\H2 D=some (.lst ys)/\aj (upd H l0 (.lst [V.int 0])) H2/\upd H l0 (.lst [V.int 0]) D=none/\i<=60/\∃u,az = [u,some (.int L),some (.int c)])
    (λQ q=>?_) (by lia) (by lia) (by lia) (by lia) ?_ ?_ ?_ ?_
   ·walk_at "rdm";exact q
   ·intro D hD;exact⟨[],rfl,rfl,(by intro x hx;cases hx),aH,aj.put hD,hD,by lia,none,rfl⟩
   ·rintro D i ys az H2 ⟨ns,rfl,e0,_,e1,e2,e3,e4,_⟩;exact⟨e1,gB (by rw[List.length_map];lia)⟩
   ·rintro D i ys az H2 N hN hi ⟨ns,rfl,e0,eb,e1,e2,e3,e4,u,rfl⟩;wp_walk using dW;have b1:=Int.emod_nonneg (mix c (1+(i:Int)+2)) (show L+1≠0 by lia)
    have b2:=Int.emod_lt_of_pos (mix c (1+(i:Int)+2)) (show 0<L+1 by lia)
    refine⟨by lia,by lia,by lia,e1,hN _ _ _ ⟨ns++[L+mix c (1+(i:Int)+2) % (L+1)],by rw[List.map_append];rfl,by simp[e0],?_,aH,aj.put2 e2 e3,e3,by lia,_,rfl⟩⟩
    intro x hx;rcases List.mem_append.mp hx with hx | hx
    ·exact eb x hx
    ·rw[List.mem_singleton.mp hx];generalize mix c (1+(i:Int)+2) % (L+1)=y at b1 b2 ⊢;lia
   ·rintro D ys az H2 ⟨ns,rfl,e0,eb,e1,e2,e3,e4,u,rfl⟩;walk_at "rdm";refine⟨ns,aE.of e1,by lia,λl iQ hl hp hs=>?_⟩
    have XG:=e2 _ _ aH;have dY:l0≠l:=cO XG hl;refine⟨[V.int 0],by rw[aI dY];exact XG,?_,λp lE=>?_⟩
    ·have:=hp.length_eq;simp;lia
    ·have gz:p≠l:=(cO aH lE).symm;have HS:H2 p=none:=by rw[aI gz] at lE;exact lE
     have hH:H p=none:=(s0.trans e2).free HS;have hHl:H l=none:=(s0.trans e2).free hl;have so:=acW hL.1 hL.2 (ns:=iQ) (λx hx=>eb x (hp.mem_iff.mp hx)) hs (by rw[hp.length_eq];lia)
     rw[hp.length_eq,show ((ns.length+1:Nat):Int)=m by lia] at so
     exact q p (0::iQ) _ (aj.put2 (aj.put2 (s0.trans e2) hHl) hH) hH (by rw[aH];rfl) so
theorem ag_(T:Tx K mg A)(aA:au mg base A.bg A.aQ)(aB:au mg base A.bq A.aX)(aC:au mg base A.br A.aY):aZ P w K mg base bu 3 A.Bb A.Bc ["first", "many", "at", "asker", "latest", "behind"] (adi K):=by
 refine T.KC.ok afB (λvs H Q E h=>?_) (λaU Ar outer s H vs Q E hr h=>?_)
 ·obtain⟨f,m,a,s',l,b,ns,rfl,_⟩:=h
  rfl
 ·obtain⟨f,m,a,s',l,b,ns,rfl,hB,hS,hR,q⟩:=h;refine⟨_,(aF (dh (aW (uN T aA aB aC) (hr.mono (by decide)) rfl T.rR T.qi.kp T.rQ .nil aM (ah (aa 0) (ah aD (ah (iw (v:=.int 1000000) rfl T.W3 ⟨_,rfl⟩) (ah cQ aq))))))
   (aF (dh (aW (uN T aA aB aC) (hr.mono (by decide)) rfl T.rR T.qi.kp T.rQ .nil aM (ah (aa 1) (ah aD (ah (iw (v:=.int 16) rfl T.W0 ⟨_,rfl⟩) (ah cQ aq))))))
   (aF (dh (aW (uN T aA aB aC) (hr.mono (by decide)) rfl T.rR T.qi.kp T.rQ .nil aM (ah (aa 2) (ah aD (ah (iw (v:=.int 1000000000000) rfl T.W4 ⟨_,rfl⟩) (ah cQ aq))))))
   (aF (dh (aW (uN T aA aB aC) (hr.mono (by decide)) rfl T.rR T.qi.kp T.rQ .nil aM (ah (aa 3) (ah aD (ah (iw (v:=.int 20) rfl T.W5 ⟨_,rfl⟩) (ah cQ aq))))))
   (aF (cF (cD Gk (aa 4) pe (bA _)) (aL (dh (aW (uN T aA aB aC) (hr.mono (by decide)) rfl T.rR T.qi.kp T.rQ .nil aM (ah (aa 4) (ah aD (ah (iw (v:=.int 10000000000000) rfl T.W6 ⟨_,rfl⟩) (ah cQ aq))))))) bT)
   (aL (dh (aW (agW T aA aB aC) (hr.mono (by decide)) rfl T.Ua T.KA.kp T.T_ .nil aM (ah (aa 5) aq))))))))),?_⟩
  walk_at "rdm";refine⟨_,_,_,_,rfl,hB.f0,hB.f1,_,_,_,_,rfl,hB.m0,hB.m1,_,_,_,_,rfl,hB.a0,hB.a1,_,_,_,_,rfl,hB.s0,hB.s1,?_⟩
  try dsimp only
  cases l with
  | none=>exact ite_no (by simp[lM]) ⟨b,ns,rfl,hS,hR,q⟩
  | some x=>exact ite_yes (by simp[lM]) ⟨x,0,10000000000000,_,rfl,(hB.l x rfl).1,(hB.l x rfl).2,b,ns,rfl,hS,hR,q⟩
theorem aha(T:Tx K mg A)(aA:au mg base A.bg A.aQ)(aB:au mg base A.bq A.aX)(aC:au mg base A.br A.aY):aZ P w K mg base bu 3 A.Bl A.Bm ["plate", "ring", "place", "beat"] (ac7 K [A.bx]):=by
 refine T.KI.ok afE (λvs H Q E h=>?_) (λaU Ar outer s H vs Q E hr h=>?_)
 ·obtain⟨C,p,P,fp,r,c,b,rfl,_⟩:=h
  rfl
 ·obtain⟨C,p,P,fp,r,c,b,rfl,hC,hP,ok,h0,h1,h5,h6,q⟩:=h;obtain⟨dx,a1,a2,a3,a4,ts,fs,qq,h⟩:=id hP;have Ez:=ok.c r.toNat (by lia)
  have hl:=ok.aJ;have hn:=ok.n1;refine⟨_,(aL (bw (aR e_ (aa 3) (aR dw (aR vK (mT (aa 0) T.agp (ag1 T aA aB aC) (hr.mono (by decide)) T.Vv .nil aM (ah (aa 1) (ah (aa 2) aq))) (aa 3)) (tQ (aa 0) T.L6 (Me T aA aB aC) (hr.mono (by decide)) T.DW .nil aM))))),?_⟩
  wp_walk using h.o,h.f1,h.f2,h.f3,h.f4,h.f5,h.f6,h.m1,h.m2,h.m3,h.m4,h.m5,h.m6,h.m7,h.m8,h.m9,h.g9,h.iz,h.cp.cl,h.cp.n1,h.cp.n2,h.cp.n3,h.cp.n4,h.cp.n5,h.cp.n6;refine⟨hC,C,p,P,fp,r,c,rfl,hC,hP,h0,h1,hn,by lia,Ez.2,h5,h6,by lia,?_⟩
  wp_walk using h.o,h.f1,h.f2,h.f3,h.f4,h.f5,h.f6,h.m1,h.m2,h.m3,h.m4,h.m5,h.m6,h.m7,h.m8,h.m9,h.g9,h.iz,h.cp.cl,h.cp.n1,h.cp.n2,h.cp.n3,h.cp.n4,h.cp.n5,h.cp.n6;refine⟨hC,C,p,P,fp,rfl,hP,?_⟩;walk_at "rdm";exact⟨by lia,q⟩
theorem ahb(T:Tx K mg A)(aA:au mg base A.bg A.aQ)(aB:au mg base A.bq A.aX)(aC:au mg base A.br A.aY):aZ P w K mg base bu 3 A.xJ A.BC ["self", "plate", "ring", "beat", "dues"] (ad2 K A.a_ A.bK A.aY (cC fV) (cB "latest_of")):=by
 refine T.UC.ok afO (λvs H Q E h=>?_) (λaU Ar outer s H vs Q E hr h=>?_)
 ·obtain⟨x,p,r,b,D,ps,ds,rfl,_⟩:=h
  rfl
 ·obtain⟨x,p,r,b,D,ps,ds,rfl,hd,d1,fL,T0,q⟩:=h;refine⟨_,(aL (bw (aW (agX T aA aB aC) (hr.mono (by decide)) rfl T.Us T.KR.kp T.Ur .nil aM (ah (aa 4) aq)))),?_⟩
  walk_at "rdm";exact⟨D,ps,ds,rfl,hd,d1,fL,T0,q⟩
theorem ahc(T:Tx K mg A)(aA:au mg base A.bg A.aQ)(aB:au mg base A.bq A.aX)(aC:au mg base A.br A.aY):aZ P w K mg base bu 3 A.Ce A.Cf ["self", "zones", "lap", "skew", "swing"] (acJ K):=by
 refine T.Vh.ok afY (λvs H Q E h=>?_) (λaU Ar outer s H vs Q E hr h=>?_)
 ·obtain⟨C,p,dx,za,sa,mS,z,aJ,dX,sw,rfl,_⟩:=h
  rfl
 ·obtain⟨C,p,dx,za,sa,mS,z,aJ,dX,sw,rfl,cp,hp,hz,ok,h1,h2,h3,h4,hd,hS,so,q⟩:=h;refine⟨_,(aF (dh (aW (agC T aA aB aC) (hr.mono (by decide)) rfl T.U5 T.Lf.kp T.U4 .nil aM (ah (aa 1) aq)))
   (aF (dh (aW (agD T aA aB aC) (hr.mono (by decide)) rfl T.U7 T.Lg.kp T.U6 .nil aM (ah (aa 1) (ah (aa 2) (ah (aa 3) aq)))))
   (aF (gq (aa 0) (aW (agF T aA aB aC) (hr.mono (by decide)) rfl T.Vc T.Lj.kp T.Vb .nil aM (ah (aa 1) aq)) rfl)
   (aF (dh (aW (ag0 T aA aB aC) (hr.mono (by decide)) rfl T.U9 T.Lh.kp T.U8 .nil aM (ah (aa 4) (ah (bY fK rfl T.dg boot_len (ah (cI (aa 0) rfl) aq)) aq))))
   (aF (gq (aa 0) (aa 2) rfl)
   (aF (gq (aa 0) (aa 3) rfl)
   (aF (gq (aa 0) (vP Qy rfl T.rX boot_list (ah (aa 4) aq)) rfl)
   (aF (gq (aa 0) (aW (agG T aA aB aC) (hr.mono (by decide)) rfl T.Ve T.Lk.kp T.Vd .nil aM (ah (cI (aa 0) rfl) (ah aD aq))) rfl)
   (aL (gq (aa 0) (aW (agH T aA aB aC) (hr.mono (by decide)) rfl T.Vg T.Ll.kp T.Vf .nil aM (ah (cI (aa 0) rfl) aq)) rfl)))))))))),?_⟩
  wp_walk using cp.cl,cp.n1,cp.n2,cp.n3,cp.n4,cp.n5,cp.n6;refine⟨za,mS,z,rfl,hz,ok,λH1 s1=>⟨za,mS,z,aJ,dX,rfl,hz.same s1,ok,h1,h2,h3,h4,hd,?_⟩⟩;refine⟨za,mS,z,rfl,hz.same s1,ok,λa1 H2 s2 n1 e1=>?_⟩;have lE:=(s1.trans s2) _ _ hp;have oY:a1≠p:=(cO (s1 _ _ hp) n1).symm;have cl:=n8 z λp hp=>(ok.r p hp).1;have aok:=ok.Hi;have c2:=ok.s2;have rm:SameBut p H H2:=.of (s1.trans s2);have fr1:H a1=none:=s1.free n1;wp_walk using cp.cl,cp.n1,cp.n2,cp.n3,cp.n4,cp.n5,cp.n6,lE;refine⟨_,.inl (aE.of ((aI oY).trans e1)),?_⟩;have XH:∀ {H':Hp},SameBut p H H'->aE K H' sa (sw.map V.int):=λ{H'} sb=>by
   rcases hS with(h | ⟨o,h⟩) | h
   ·exact .inl (.inl (sb _ _ h (sE h hp (by intro z;cases z))))
   ·exact .inl (.inr ⟨o,sb _ _ h (sE h hp (by intro z;cases z))⟩)
   ·exact .inr h
  refine⟨sa,sw,_,rfl,XH rm.put,?_,?_,?_⟩
  ·simpa only[List.length_map,cl] using so
  ·simp only[List.length_map];lia
  wp_walk using cp.cl,cp.n1,cp.n2,cp.n3,cp.n4,cp.n5,cp.n6;refine⟨_,.inl (XH rm.put),λa2 n2=>?_⟩;have nA:p≠a2:=cO aH n2;have XI:H2 a2=none:=by rw[aI nA.symm] at n2;exact n2
  wp_walk using cp.cl,cp.n1,cp.n2,cp.n3,cp.n4,cp.n5,cp.n6,aI nA;have na2:a1≠a2:=cO e1 XI;have nC:SameBut p H (upd (upd (upd H2 p (HO.ins C dx [(Str.ofString "ring_cells",V.ref a1),(Str.ofString "lap",V.int aJ),(Str.ofString "skew",V.int dX)])) a2 (HO.lst (List.map V.int sw))) p
   (HO.ins C dx [(Str.ofString "ring_cells",V.ref a1),(Str.ofString "lap",V.int aJ),(Str.ofString "skew",V.int dX),(Str.ofString "swing",V.ref a2)])):=(rm.put.step (aj.put n2)).put
  have Q8:=e1;have fr2:H a2=none:=(s1.trans s2).free XI;generalize Mq:upd (upd (upd H2 p _) a2 _) p _=H3 at nC ⊢;have p3:H3 p=some (HO.ins C dx [(Str.ofString "ring_cells",V.ref a1),(Str.ofString "lap",V.int aJ),(Str.ofString "skew",V.int dX),(Str.ofString "swing",V.ref a2)]):=by rw[← Mq,aH]
  have q1:H3 a1=some (.lst ((counts z).map V.int)):=by rw[← Mq,aI oY,aI na2,aI oY];exact e1
  have q2:H3 a2=some (.lst (sw.map V.int)):=by rw[← Mq,aI nA.symm,aH]
  have cm:∀c∈counts z,0<=c/\c<=1000:=λc hc=>by
   obtain⟨y,hy,rfl⟩:=n_ hc;have:=ok.r y hy;lia
  refine⟨a1,counts z,0,rfl,aE.of q1,by lia,cm,by decide,by decide,λa3 ts H4 s4 n3 yR z4=>?_⟩
  have p4:=s4 _ _ p3;have Mr:a3≠p:=(cO p3 n3).symm;have qH:H a3=none:=by
   cases e:H a3 with
   | none=>rfl
   | some o=>rw[nC _ _ e Mr] at n3;cases n3
  have Ms:∀t∈ts,t≠p:=λt ht=>(cO p3 (yR t ht)).symm;have frt:∀t∈ts,H t=none:=λt ht=>by
   cases e:H t with
   | none=>rfl
   | some o=>have:=nC _ _ e (Ms t ht);rw[yR t ht] at this;cases this
  wp_walk using cp.cl,cp.n1,cp.n2,cp.n3,cp.n4,cp.n5,cp.n6,p4;have z5:=z4.keep (H':=upd H4 p (HO.ins C dx [(Str.ofString "ring_cells",V.ref a1),(Str.ofString "lap",V.int aJ),(Str.ofString "skew",V.int dX),(Str.ofString "swing",V.ref a2),(Str.ofString "number_cells",V.ref a3)])) (aI Mr) λt ht=>aI (Ms t ht);have zl:(kC (counts z) 0).length<=1000000:=by
   have:=v_ (s:=0) (by decide) (counts z) 0 cm
   have e:(counts z).length<=120:=by lia
   unfold kC;lia
  refine⟨a3,ts,_,rfl,z5,zl,λa4 H5 s5 n4 e4=>?_⟩;have Mt:a4≠p:=(cO aH n4).symm;have sb5:SameBut p H H5:=((nC.step s4).put).step s5;have XJ:H4 a4=none:=by rw[aI Mt] at n4;exact n4
  have fr4:H a4=none:=by
   cases e:H a4 with
   | none=>rfl
   | some o=>rw[(nC.step s4) _ _ e Mt] at XJ;cases XJ
  wp_walk using cp.cl,cp.n1,cp.n2,cp.n3,cp.n4,cp.n5,cp.n6,s5 _ _ aH;refine q _ dx a1 a2 a3 a4 ts sb5.put ?_ aH (pN.lit cp aH ?_ ?_ ?_ ?_)
  ·intro b hb;simp only[List.mem_cons] at hb;rcases hb with rfl | rfl | rfl | rfl | hb
   ·exact fr1
   ·exact fr2
   ·exact qH
   ·exact fr4
   ·exact frt b hb
  ·rw[aI oY];exact s5 _ _ ((aI oY).trans (s4 _ _ q1))
  ·rw[aI nA.symm];exact s5 _ _ ((aI nA.symm).trans (s4 _ _ q2))
  ·exact(z5.same s5).keep (aI Mr) λt ht=>aI (Ms t ht)
  ·rw[aI Mt];exact e4
theorem XM(T:Tx K mg A)(aA:au mg base A.bg A.aQ)(aB:au mg base A.bq A.aX)(aC:au mg base A.br A.aY):aZ P w K mg base bu 3 A.Cu A.Cv ["plate", "number", "ask"] (adL K [A.bx] A.a_):=by
 refine T.DX.ok af_ (λvs H Q E h=>?_) (λaU Ar outer s H vs Q E hr h=>?_)
 ·obtain⟨C,p,ap,k,P,fp,q',m,b,dx,rfl,_⟩:=h
  rfl
 ·obtain⟨C,p,ap,k,P,fp,q',m,b,dx,rfl,hC,hP,ha,hf,hn,q⟩:=h;refine⟨_,(aL (adt rfl (bw (aW (ag3 T aA aB aC) (hr.mono (by decide)) rfl T.VL T.Ln.kp T.VJ .nil aM (ah (aa 0) (ah (aa 2) aq)))))),?_⟩
  walk_at "rdt";exact⟨C,p,ap,P,fp,q',m,b,dx,rfl,hC,hP,ha,hf,hn,q⟩
theorem yS(T:Tx K mg A)(aA:au mg base A.bg A.aQ)(aB:au mg base A.bq A.aX)(aC:au mg base A.br A.aY):aZ P w K mg base bu 4 A.Bg A.rP ["first", "many", "at", "asker", "latest", "behind"] (adm K A.a_):=by
 refine T.rS.ok TN (λvs H Q E h=>?_) (λaU Ar outer s H vs Q E hr h=>?_)
 ·obtain⟨f,m,a,s',l,bv,ns,rfl,_⟩:=h
  rfl
 ·obtain⟨f,m,a,s',l,bv,ns,rfl,hB,hv,hR,q⟩:=h;refine⟨_,(aF (bF (i:=6) TN.nd rfl (Or.inl rfl) (aW (agz T aA aB aC) (hr.mono (by decide)) rfl T.Ue T.KD.kp T.Ud .nil aM (ah (aa 5) aq)))
   (aF (dh (aW (ag_ T aA aB aC) (hr.mono (by decide)) rfl T.Uc T.KC.kp T.Ub .nil aM (ah (aa 0) (ah (aa 1) (ah (aa 2) (ah (aa 3) (ah (aa 4) (ah (aa 6) aq))))))))
   (aL (bw (qM T.WC (agy T aA aB aC) (hr.mono (by decide)) rfl T.WD T.T9 .nil aM (ah cQ (ah (aa 0) (ah (aa 1) (ah (i9 aq) (ah (aa 2) (ah (aa 3) (ah (aa 4) (ah (aa 6) (ah i8 aq)))))))))))))),?_⟩
  walk_at "rdt";refine⟨_,ns,rfl,hv,λb H1 s1 hb=>?_⟩;walk_at "rdt";refine⟨_,_,_,_,_,_,ns,rfl,hB,bD.of hb,hR,?_⟩;walk_at "rdt";intro mk nm x dx nx tU dY;refine⟨x,dx,_,_,_,_,_,_,_,_,_,rfl,aH,rfl,?_⟩;obtain⟨a1,a2,a3⟩:=ade (K:=K) (C:=A.a_) (q:=⟨"read",f,m,[],a,s',l,ns,false⟩) (s1.trans (aj.put nm)) nx tU dY aH (aj.put nm _ _ hb);exact q _ _ _ _ _ a1 a2 a3
theorem XN(T:Tx K mg A)(aA:au mg base A.bg A.aQ)(aB:au mg base A.bq A.aX)(aC:au mg base A.br A.aY):aZ P w K mg base bu 4 A.Bo A.Bp ["plate", "ring", "beat", "cells"] (ac8 K [A.bx]):=by
 refine T.DN.ok rL (λvs H Q E h=>?_) (λaU Ar outer s H vs Q E hr h=>?_)
 ·obtain⟨C,p,P,fp,r,b,ca,Af,cz,rfl,_⟩:=h
  rfl
 ·obtain⟨C,p,P,fp,r,b,ca,Af,cz,rfl,hC,hP,ok,r0,r1,hz,hq,hlen,q⟩:=h;have hsl:=ok.sw.len;refine⟨_,(aF (bF (i:=4) rL.nd rfl (Or.inl rfl) (fF aq))
   (aF (eV PassesOwn.never rfl (e9 (aa 3)) (jT rfl (dH (bI (i:=5) rL.nd rfl (Or.inl rfl)) (dH (bI (i:=6) rL.nd rfl (Or.inl rfl)) jS)))
   (aF (bF (i:=7) rL.nd rfl (Or.inl rfl) (aW (aha T aA aB aC) (hr.mono (by decide)) rfl T.Ul T.KI.kp T.Uk .nil aM (ah (aa 0) (ah (aa 5) (ah (aa 6) (ah (aR e_ (aa 2) (mT (aa 0) T.agq (agJ T aA aB aC) (hr.mono (by decide)) T.Vy .nil aM (ah (aa 1) (ah (aa 5) aq)))) aq))))))
   (aF (bF (i:=1) rL.nd rfl (Or.inl rfl) (aa 5))
   (aF (bF (i:=2) rL.nd rfl (Or.inl rfl) (aR e_ (aa 7) (mT (aa 0) T.L5 (Mc T aA aB aC) (hr.mono (by decide)) T.DV .nil aM (ah (aa 5) aq))))
   (aL (dh (jE PySem.F.plainAttrs_list PySem.F.slot_list_append PySem.F.type_list_append lA (aa 4) (ah (i9 (ah (aa 1) (ah (aa 6) (ah (aa 7) (ah (aa 2) aq))))) aq))))))))
   (aL (bw (aa 4))))),?_⟩
  walk_at "rdm";intro l hl;have sl:=aj.put (o:=.lst []) hl;refine rl ca (Af.map V.ref) (λi σ H'=>∃x y z ts,σ = [some (.ref p),some (.int (cE P (r,b) (cz.take i)).1),some (.int (cE P (r,b) (cz.take i)).2),some (.ref ca),some (.ref l),x,y,z]/\aj H H'/\(∀t∈ts,H t=none)/\i<=cz.length/\Zt H' l ts (gU P (r,b) (cz.take i))) (λQ q=>q) (sl.seq hz.sq)
   ⟨none,none,none,[],rfl,sl,(λ_ h=>nomatch h),Nat.zero_le _,Zt.start⟩ (by rintro i σ H' _ ⟨x,y,z,ts,rfl,hs,_⟩;exact hs.seq hz.sq) ?_ ?_
  ·rintro i x σ H' N hN hx ⟨x0,y0,z0,uh,rfl,hs,ju,hi,h1⟩;obtain⟨t,w,rfl,hw,ht⟩:=hz.at hx;have Ey:=dM hw;obtain⟨w0,w1,w2,w3⟩:=hq w (get_mem hw);have Ez:=ok.c w.1.toNat (by lia)
   obtain⟨e0,e1⟩:=Hw P (n:=P.rc.length) (cz.take i) (r,b) r0 r1 λq jC=>⟨(hq q (List.mem_of_mem_take jC)).1,(hq q (List.mem_of_mem_take jC)).2.1⟩;have es:cE P (r,b) (cz.take (i+1))=jH P (cE P (r,b) (cz.take i)) w:=by rw[take_succ_get hw,Ht]
   have ws:gU P (r,b) (cz.take (i+1))=gU P (r,b) (cz.take i)++[Ae P (cE P (r,b) (cz.take i)) w]:=by rw[take_succ_get hw,Hu]
   rw[es,ws] at hN;have wl:(gU P (r,b) (cz.take i)).length=i:=by rw[wm,List.length_take];lia
   generalize cE P (r,b) (cz.take i)=st at e0 e1 hN ⊢;generalize gU P (r,b) (cz.take i)=rows at h1 wl hN ⊢;refine lK (bD.of (hs _ _ ht)) rfl ?_;have uQ:=hP.same hs;obtain⟨dx,a1,a2,a3,a4,ts,fs,qq,h⟩:=id uQ;wp_walk using h.o,h.f1,h.f2,h.f3,h.f4,h.f5,h.f6,h.m1,h.m2,h.m3,h.m4,h.m5,h.m6,h.m7,h.m8,h.m9,h.g9,h.iz,h.cp.cl,h.cp.n1,h.cp.n2,h.cp.n3,h.cp.n4,h.cp.n5,h.cp.n6;refine⟨hC,C,p,P,fp,st.1,w.1,rfl,uQ,by lia,?_⟩
   wp_walk using h.o,h.f1,h.f2,h.f3,h.f4,h.f5,h.f6,h.m1,h.m2,h.m3,h.m4,h.m5,h.m6,h.m7,h.m8,h.m9,h.g9,h.iz,h.cp.cl,h.cp.n1,h.cp.n2,h.cp.n3,h.cp.n4,h.cp.n5,h.cp.n6;refine⟨C,p,P,fp,w.1,w.2,_,rfl,hC,uQ,ok,w0,w1,w2,w3,?_⟩;wp_walk using h.o,h.f1,h.f2,h.f3,h.f4,h.f5,h.f6,h.m1,h.m2,h.m3,h.m4,h.m5,h.m6,h.m7,h.m8,h.m9,h.g9,h.iz,h.cp.cl,h.cp.n1,h.cp.n2,h.cp.n3,h.cp.n4,h.cp.n5,h.cp.n6;refine⟨hC,C,p,P,fp,w.1,rfl,uQ,w0,w1,Ez.1,Ez.2,?_⟩;walk_at "rdm";refine⟨⟨_,aE.of h1.l⟩,λt1 n1=>?_⟩;have hn:=h1.n;have e2:=aj.put n1 (o:=.tup [V.int w.1,V.int w.2,V.int (iV P st w),V.int (jH P st w).2]) _ _ h1.l;refine⟨_,e2,by simp;lia,hN _ _ ⟨_,_,_,uh++[t1],rfl,aj.put2 (hs.trans (aj.put n1)) hl,?_,Ey,h1.snoc n1 (Ae P st w)⟩⟩
   intro t' l_;rcases List.mem_append.mp l_ with l_ | l_
   ·exact ju t' l_
   ·rw[List.mem_singleton.mp l_];exact hs.free n1
  ·rintro σ H' ⟨x0,y0,z0,uh,rfl,hs,ju,hi,h1⟩;walk_at "rdm";rw[lenZ hz.n,List.take_length] at h1;exact q _ _ _ hs hl ju h1
theorem EA(T:Tx K mg A)(aA:au mg base A.bg A.aQ)(aB:au mg base A.bq A.aX)(aC:au mg base A.br A.aY):aZ P w K mg base bu 4 A.xC A.uB ["ring", "dues"] (ad8 K A.a_ A.bK A.aQ (cC eS) (cB "nearest_of")):=by
 refine T.uJ.HP afH (λvs H Q E h=>?_) (λAr outer s H vs Q E hr h=>?_)
 ·obtain⟨r,D,ps,ds,P',b,rfl,_⟩:=h
  rfl
 ·obtain⟨r,D,ps,ds,P',b,rfl,hd,d1,fL,hc,T0,q⟩:=h;have fq:=hd.n;have jJ:(Ar.deeper (envOfC "nearest_of" (aN eS) s.heap.objs.size A.xC A.uB.code)).in1.depth<recursionLimit:=hr.depth;have yP:_+16<cLine:=Nat.lt_of_le_of_lt (Nat.add_le_add_left (by decide:16<=64) _) hr.units
  refine⟨_,(aL (bw (dI (HX (c:=A.bg) (P:=A.aQ) (ps:=["due"]) (fs:=["ring"]) (fv:=[0]) rfl T.lY aA T.Xc (j4.of rfl rfl rfl rfl (by rfl) (by rfl) (by repeat (first | exact trivial | refine⟨rfl,?_⟩)) (by rfl) (by rfl) (by rfl) (by decide +kernel)) rfl rfl rfl (λ_ _ _ _=>rfl) (λf c2 s2 H2=>(i9 (ah (bY PU rfl T.yJ boot_abs (ah (aR vK (aW (L7 T aA aB aC) ((hr.mono (by decide)).in1.deeper _) rfl T.DP T.yp.kp T.DO .nil aM (ah (pv 0) aq)) (pv 1)) aq)) (ah (j3 (K:=K) rfl (pv 0) rfl) aq)))) rfl jJ yP (pv 1)) rfl))),?_⟩
  walk_at "rdt";refine⟨ps,hd.l,by lia,T0,ug (j7 P' r b) ds,λj a H2 hj sb tb=>?_,λi a H2 hi least sb tb=>?_⟩
  ·have iC:j<ds.length:=by rw[← fq];exact dM hj
   refine(hd.kt (T0.jM sb)).el j a ds[j] hj (List.getElem?_eq_getElem iC) λdx ap l ts m b' bH hD=>?_;rw[AD (List.getElem?_eq_getElem iC)];refine⟨a,ds[j],dx,ap,l,ts,m,b',bH,rfl,hD,hc _ (List.getElem_mem iC),_,rfl,_,rfl,_,rfl,_,_,_,hD.o,T.oO,T.oR,_,rfl,λp np=>⟨?_,λ_ _ e _=>aj.put np _ _ e,tb.same (aj.put np)⟩⟩
   show [V.int _,V.int _] = [V.int _,V.int _];congr 2;unfold j7;dsimp only;split <;> lia
  ·have iT:i<ds.length:=by rw[← fq];exact dM hi
   refine(hd.kt (T0.jM sb)).el i a ds[i] hi (List.getElem?_eq_getElem iT) λdx ap l ts m b' bH hD=>?_;rw[fq] at least;exact⟨_,_,_,hD.o,T.oO,T.oR,_,rfl,q _ H2 sb tb (Sh (λ_=>rfl) (List.getElem?_eq_getElem iT) least)⟩
theorem ahd(T:Tx K mg A)(aA:au mg base A.bg A.aQ)(aB:au mg base A.bq A.aX)(aC:au mg base A.br A.aY):aZ P w K mg base bu 4 A.Cw A.Cy ["self", "plate", "number", "ask"] (adM K [A.bx] A.a_ A.bK):=by
 refine T.VM.ok aga (λvs H Q E h=>?_) (λaU Ar outer s H vs Q E hr h=>?_)
 ·obtain⟨C,p,pl,ap,dx,n,P,fp,q',m,b,bH,rfl,_⟩:=h
  rfl
 ·obtain⟨C,p,pl,ap,dx,n,P,fp,q',m,b,bH,rfl,hp,hC,hP,oY,nA,ha,hf,hn,q⟩:=h;refine⟨_,(aF (jB (aa 0) (aa 2) rfl)
   (aF (jB (aa 0) (aa 3) rfl)
   (aL (jB (aa 0) (aW (XM T aA aB aC) (hr.mono (by decide)) rfl T.Lq T.DX.kp T.Lo .nil aM (ah (aa 1) (ah (aa 2) (ah (aa 3) aq)))) rfl)))),?_⟩
  wp_walk using T,hp;have XO:ap≠p:=λe=>by
   have:=ha.o;rw[e,hp] at this;simp[fZ] at this
  have nm:m≠p:=λe=>by have:=ha.ms;rw[e,hp] at this;cases this
  have nb:b≠p:=λe=>by have:=ha.bh;rw[e,hp] at this;cases this
  have mh:bZ K C (upd H p (HO.ins A.bK dx [("number",V.int n),("ask",V.ref ap)])) pl P fp:=hP.keep (aI (Ne.symm oY)) λb hb=>aI (λe=>nA (e▸hb));have i6:eK K A.a_ (upd H p (HO.ins A.bK dx [("number",V.int n),("ask",V.ref ap)])) ap q' m b bH:=⟨(aI XO).trans ha.o,(aI nm).trans ha.ms,(aI nb).trans ha.bh⟩;have sb:SameBut p H (upd H p (HO.ins A.bK dx [("number",V.int n),("ask",V.ref ap)])):=(SameBut.of (aj.refl H)).put;have fJ:upd H p (HO.ins A.bK dx [("number",V.int n),("ask",V.ref ap)]) p=some (HO.ins A.bK dx [("number",V.int n),("ask",V.ref ap)]):=aH;generalize upd H p (HO.ins A.bK dx [("number",V.int n),("ask",V.ref ap)])=H1 at mh i6 sb fJ ⊢;refine⟨C,pl,ap,n,P,fp,q',m,b,bH,rfl,hC,mh,i6,hf,hn,λl ts H2 s2 nl hz=>⟨_,_,_,s2 _ _ fJ,T.oO,T.El,by simp,?_⟩⟩
  have jw:=i6.same s2;have Mu:l≠p:=cO fJ nl |>.symm
  have nlH:H l=none:=by
   cases e:H l with
   | none=>rfl
   | some o =>
    have:=sb l o e Mu;rw[nl] at this;cases this
  refine q l ts _ nlH (sb.step s2).put ⟨aH,⟨(aI XO).trans jw.o,(aI nm).trans jw.ms,(aI nb).trans jw.bh⟩,hz.keep (aI Mu) λt ht=>aI λe=>?_⟩
  obtain⟨i,hi,et⟩:=List.mem_iff_getElem.mp ht;have gC:i<(b_ P.nc q'.first q'.many).length:=by rw[← hz.n];exact hi
  have:=hz.t i t _ (by rw[← et];exact List.getElem?_eq_getElem hi) (List.getElem?_eq_getElem gC)
  rw[e,s2 _ _ fJ] at this;cases this
theorem ahe(T:Tx K mg A)(aA:au mg base A.bg A.aQ)(aB:au mg base A.bq A.aX)(aC:au mg base A.br A.aY):aZ P w K mg base bu 4 A.CJ A.CK ["plate", "asks"] (ady K [A.bx] A.a_):=by
 refine T.Lv.ok A4 (λvs H Q E h=>?_) (λaU Ar outer s H vs Q E hr h=>?_)
 ·obtain⟨C,p,la,P,fp,ps,qs,rfl,_⟩:=h
  rfl
 ·obtain⟨C,p,la,P,fp,ps,qs,rfl,hC,hP,hn,ha,ok,q⟩:=h;refine⟨_,(aF (bF (i:=2) A4.nd rfl (Or.inl rfl) (fF aq))
   (aF (eV PassesOwn.never rfl (vZ rfl T.qm (ah (aa 1) aq)) (jT rfl (dH (bI (i:=3) A4.nd rfl (Or.inl rfl)) (dH (bI (i:=4) A4.nd rfl (Or.inl rfl)) jS)))
   (aF (dh (aW (agM T aA aB aC) (hr.mono (by decide)) rfl T.VP T.Lr.kp T.VO .nil aM (ah (aa 1) (ah (aa 3) aq))))
   (aF (dh (aW (XM T aA aB aC) (hr.mono (by decide)) rfl T.Lq T.DX.kp T.Lo .nil aM (ah (aa 0) (ah (aa 3) (ah (aa 4) aq)))))
   (aF (dh (aW (agN T aA aB aC) (hr.mono (by decide)) rfl T.VR T.Ls.kp T.VQ .nil aM (ah (aa 1) (ah (aa 3) aq))))
   (aL (dh (jE PySem.F.plainAttrs_list PySem.F.slot_list_append PySem.F.type_list_append lA (aa 2) (ah (aW (ag4 T aA aB aC) (hr.mono (by decide)) rfl T.VT T.Lu.kp T.VS .nil aM (ah (aa 1) (ah (aa 3) aq))) aq))))))))
   (aL (bw (aa 2))))),?_⟩
  walk_at "rdt";intro l hl;have sl:=aj.put (o:=.lst []) hl;have on:=ok.n;have an:=ha.n;refine re la (ps.map V.ref) (λk σ H'=>∃(x1 x2:Option V) (us:List Addr),σ = [some (.ref p),some (.ref la),some (.ref l),x1,x2]/\aj H H'/\(∀t∈us,H t=none)/\Zt H' l us (jI qs k)) (λQ q=>?_) (aE.of (sl _ _ ha.l)) ⟨none,none,[],rfl,sl,(λ_ h=>nomatch h),Zt.start⟩ (by rintro i σ H' _ ⟨_,_,_,rfl,s1,_⟩;exact aE.of (s1 _ _ ha.l)) ?_ ?_
  ·walk_at "rdm";exact q
  ·rintro k x σ H' T1 N hN hx ⟨x1,x2,us,rfl,s1,hu,hz⟩ hT;have Xr:k<ps.length:=by have:=(List.getElem?_eq_some_iff.mp hx).1;simpa using this
   have hk:k<qs.length:=by lia
   have jv:=List.getElem?_eq_getElem hk;obtain⟨ap,m,b,dx,e1,a1⟩:=ha.at jv;rw[e1] at hx;cases hx;have s2:=s1.trans (aj.put (o:=.tup [.int (k:Int),.ref ap]) hT);refine lK (bD.of aH) rfl ?_;walk_at "rdm";have jw:=ha.same s2;have a2:=a1.same s2;have fk:=ok.fit k _ jv;refine⟨la,ps,qs,k,_,rfl,jw,jv,λq0 h0 e0=>?_,?_⟩
   ·have:=ok.up (k - 1) q0 qs[k] e0 (by rw[show k - 1+1=k by lia];exact jv)
    exact this
   refine⟨C,p,ap,_,P,fp,_,m,b,dx,rfl,hC,hP.same s2,a2,fk.1,hn,λ_ _ H3 s3 _ _=>?_⟩;have se:=s2.trans s3;have uR:=ha.same se;refine⟨la,ps,qs,k,_,rfl,uR,jv,fk.2,ok.bh k _ jv,⟨⟨_,aE.of (s3 _ _ (aj.put hT _ _ hz.l))⟩,?_⟩⟩;refine⟨la,ps,qs,k,_,rfl,uR,jv,on,fk.2,λt H4 s4 nt ht=>?_⟩;have uS:=((hz.same (aj.put (o:=.tup [.int (k:Int),.ref ap]) hT)).same s3).same s4;have zl:=uS.n;unfold jI at zl;rw[List.length_map,List.length_range] at zl;have s14:=se.trans s4;refine⟨_,uS.l,by rw[List.length_map];lia,hN _ _ ⟨_,_,us++[t],rfl,aj.put2 s14 hl,?_,?_⟩⟩
   ·intro t' l_;rcases List.mem_append.mp l_ with l_ | l_
    ·exact hu t' l_
    ·rw[List.mem_singleton.mp l_];exact se.free nt
   ·unfold jI;rw[List.range_succ,List.map_append];exact uS.adu ht
  ·rintro σ H' ⟨x1,x2,us,rfl,s1,hu,hz⟩;walk_at "rdm";rw[List.length_map,an] at hz;exact q _ _ _ s1 hl hu hz
theorem Mv(T:Tx K mg A)(aA:au mg base A.bg A.aQ)(aB:au mg base A.bq A.aX)(aC:au mg base A.br A.aY):aZ P w K mg base bu 4 A.Dt A.Du ["_law_word"] (afc K ⟨A.eo,A.eu,A.eB,A.eE,A.bQ,A.bV⟩):=by
 refine T.yx.ok agg (λvs H Q E h=>?_) (λaU Ar outer s H vs Q E hr h=>?_)
 ·obtain⟨w',rfl,_⟩:=h
  rfl
 ·obtain⟨w',rfl,q⟩:=h;have lZ:=hr.lg;refine⟨_,(aF (cF (cD eX (aa 0) cQ (bA _)) (aL (bw (AA T.WS rfl T.WT))) bT)
   (aF (cF (cD eX (aa 0) cQ (bA _)) (aL (bw (AA T.WU rfl T.WV))) bT)
   (aF (cF (cD eX (aa 0) cQ (bA _)) (aL (bw (AA T.WW rfl T.WX))) bT)
   (aF (cF (cD eX (aa 0) cQ (bA _)) (aL (bw (AA T.WY rfl T.WZ))) bT)
   (aF (cF (PW.pt (fE (cD eX (aa 0) cQ (bA _)) (gc (cD eX (aa 0) cQ (bA _))))) (aL (bw (qM T.WE (Xy T aA aB aC) (hr.mono (by decide)) rfl T.WG T.K_ .nil aM (ah (iN eX (aa 0) cQ (bA _)) aq)))) bT)
   (aL (bw (qM T.WH (Xy T aA aB aC) (hr.mono (by decide)) rfl T.WI T.K_ .nil aM (ah (iN eX (aa 0) cQ (bA _)) aq))))))))),?_⟩
  walk_at "rdt";have XQ:p5 K A.bQ:=⟨T.nq,T.D8,T.uK,T.D9⟩;have XR:p5 K A.bV:=⟨T.qk,T.D_,T.Ea,T.Eb⟩;have made:∀ {H3 H4:Hp} {x1 d1 C:Addr},H3 x1=none->H3 d1=none->SameBut x1 (upd (upd H3 d1 (.own x1)) x1 (.ins C d1 [])) H4->aj H3 H4:=λHE nd1 sb4 b o e=>by
   have e1:=cO e HE;have e2:=cO e nd1;exact sb4 b o (by rw[aI e1,aI e2];exact e) e1
  refine cN (λh1 x dx nx nd _=>?_) λh1=>cN (λh2 x dx nx nd _=>?_) λh2=>cN (λh3 x dx nx nd _=>?_) λh3=>cN (λh4 x dx nx nd _=>?_) λh4=>?_
  ·refine q x dx x _ (made nx nd (λ_ _ e _=>e)) nx ?_;rw[show d_ w' = .first by unfold d_;rw[if_pos h1]]
   exact aH
  ·refine q x dx x _ (made nx nd (λ_ _ e _=>e)) nx ?_;rw[show d_ w' = .near by unfold d_;rw[if_neg h1,if_pos h2]]
   exact aH
  ·refine q x dx x _ (made nx nd (λ_ _ e _=>e)) nx ?_;rw[show d_ w' = .iE by unfold d_;rw[if_neg h1,if_neg h2,if_pos h3]]
   exact aH
  ·refine q x dx x _ (made nx nd (λ_ _ e _=>e)) nx ?_;rw[show d_ w' = .iF by unfold d_;rw[if_neg h1,if_neg h2,if_neg h3,if_pos h4]]
   exact aH
  have li:(w' = "lift"\/w' = "calm lift")->∀(x dx:Addr),H x=none->H dx=none->dx≠x->So K [A.bQ,A.bV] [V.ref x,V.bl (decide (w' = "calm lift"))] (upd (upd H dx (HO.own x)) x (HO.ins A.bQ dx [])) (λv H2=>v=V.aV/\Q (V.ref x) H2) E0:=λh5 x dx nx nd _=>by
   refine⟨A.bQ,x,dx,_,rfl,by simp,XQ,aH,λB H' nB sb lt=>⟨rfl,q x dx B H' (made nx nd sb) nx ?_⟩⟩
   rw[show d_ w' = .li false by unfold d_;rw[if_neg h1,if_neg h2,if_neg h3,if_neg h4,if_pos h5],show jO w' = decide (w' = "calm lift") by unfold jO;rw[if_pos h5]]
   exact⟨A.bQ,.inl ⟨rfl,rfl⟩,XQ,lt⟩
  refine cN (λh5=>li (.inl h5)) λh5=>cN (λh6=>li (.inr h6)) λh6 x dx nx nd _=>?_;have h7:¬ (w' = "lift"\/w' = "calm lift"):=λz=>z.elim h5 h6;refine⟨A.bV,x,dx,_,rfl,by simp,XR,aH,λB H' nB sb lt=>⟨rfl,q x dx B H' (made nx nd sb) nx ?_⟩⟩
  rw[show d_ w' = .li true by unfold d_;rw[if_neg h1,if_neg h2,if_neg h3,if_neg h4,if_neg h7],show jO w' = decide (w' = "calm sweep") by unfold jO;rw[if_neg h7]]
  exact⟨A.bV,.inr ⟨rfl,rfl⟩,XR,lt⟩
theorem ahf(T:Tx K mg A)(aA:au mg base A.bg A.aQ)(aB:au mg base A.bq A.aX)(aC:au mg base A.br A.aY):aZ P w K mg base bu 5 A.Bv A.Bw ["plate", "ring", "beat", "due"] (ad9 K [A.bx] A.a_ A.bK):=by
 refine T.KP.ok afI (λvs H Q E h=>?_) (λaU Ar outer s H vs Q E hr h=>?_)
 ·obtain⟨C,p,P,fp,r,b,dp,d,dx,ap,l,ts,m,b',bH,rfl,_⟩:=h
  rfl
 ·obtain⟨C,p,P,fp,r,b,dp,d,dx,ap,l,ts,m,b',bH,rfl,hC,hP,ok,r0,r1,hD,d1,hc,q⟩:=h;have dF:=hD.o;unfold iW at dF;refine⟨_,(aL (bw (bM tD (bM qO (aW (XN T aA aB aC) (hr.mono (by decide)) rfl T.KL T.DN.kp T.KJ .nil aM (ah (aa 0) (ah (aa 1) (ah (aa 2) (ah (GC GG (cI (aa 3) rfl) Qo (zN aD)) aq))))) aD (λ_ _=>rfl)) aD (λ_ _=>rfl)))),?_⟩
  wp_walk using T,dF;have hn:=hD.c.n;have h0:ts[0]? = some (ts[0]'(by lia)):=List.getElem?_eq_getElem _
  have e0:d.c[0]? = some (bX d):=by unfold bX;rw[List.getD_eq_getElem?_getD,List.getElem?_eq_getElem (by lia)];rfl
  have ht:=hD.c.t 0 _ _ h0 e0;have t1:kq (ts.map V.ref) none (some 1) = [V.ref (ts[0]'(by lia))]:=by
   rw[show (some (1:Int))=some ((1:Nat):Int) from rfl,adN,List.take_one,List.head?_map,List.head?_eq_getElem?,h0];rfl
  refine⟨_,hD.c.sq,λp1 n1=>?_⟩;rw[t1];have s1:=aj.put (o:=.lst [V.ref (ts[0]'(by lia))]) n1
  refine⟨C,p,P,fp,r,b,p1,[ts[0]'(by lia)],[bX d],rfl,hC,hP.same s1,ok,r0,r1,⟨aH,rfl,λi t k i1 i2=>?_⟩,λk hk=>by rw[List.mem_singleton.mp hk];exact hc _ (get_mem e0),by simp,λl2 oA H2 s2 nl yR hz=>?_⟩
  ·cases i with
   | zero=>simp at i1 i2;subst i1 i2;exact s1 _ _ ht
   | succ i=>simp at i1
  ·obtain⟨u,hu,hu2⟩:=hz.at (i:=0) (by rw[wm];simp)
   exact⟨l2,rfl,_,aE.of hz.l,_,gA (j:=0) hu,u,rfl,_,bD.of hu2,_,rfl,q H2 (s1.trans s2)⟩
theorem ahg(T:Tx K mg A)(aA:au mg base A.bg A.aQ)(aB:au mg base A.bq A.aX)(aC:au mg base A.br A.aY):aZ P w K mg base bu 5 A.xG A.BA ["self", "plate", "ring", "beat", "dues"] (Sg K [A.bx] A.a_ A.bK A.aQ (cC eS) (cB "nearest_of") j7):=by
 refine T.Uy.ok afM (λvs H Q E h=>?_) (λaU Ar outer s H vs Q E hr h=>?_)
 ·obtain⟨x,C,p,P',fp,r,b,D,ps,ds,rfl,_⟩:=h
  rfl
 ·obtain⟨x,C,p,P',fp,r,b,D,ps,ds,rfl,hC,hP,ok,r0,r1,hd,d1,fL,hc,T0,q⟩:=h;refine⟨_,(aL (bw (aW (EA T aA aB aC) (hr.mono (by decide)) rfl T.yr T.uJ.kp T.yq .nil aM (ah (aa 2) (ah (aa 4) aq))))),?_⟩
  walk_at "rdm";exact⟨r,D,ps,ds,P',b,rfl,hd,d1,fL,λd h=>(hc d h).1,T0,q⟩
theorem XS(T:Tx K mg A)(aA:au mg base A.bg A.aQ)(aB:au mg base A.bq A.aX)(aC:au mg base A.br A.aY):aZ P w K mg base bu 5 A.BD A.BE ["plate"] (aes K [A.bx] A.a_):=by
 refine T.DR.ok afP (λvs H Q E h=>?_) (λaU Ar outer s H vs Q E hr h=>?_)
 ·obtain⟨C,p,P',fp,n,rfl,_⟩:=h
  rfl
 ·obtain⟨C,p,P',fp,n,rfl,hC,hP,hn,q⟩:=h;refine⟨_,(aL (bw (aW (yS T aA aB aC) (hr.mono (by decide)) rfl T.uI T.rS.kp T.Ug (show Vals [.int 0,.aV,.aV] [.int 0 A.Bh,.none,.none] from(.cons ⟨_,rfl⟩ (.cons rfl (.cons rfl .nil)))) aM (ah (mT (aa 0) T.agt (ag2 T aA aB aC) (hr.mono (by decide)) T.VH .nil aM (ah aD (ah aD aq))) (ah aD (ah aD aq)))))),?_⟩
  walk_at "rdt";obtain⟨dx,a1,a2,a3,a4,ts,fs,qq,hA⟩:=id hP;have r2:=hn.r2;have c1:=hn.c1;refine⟨C,dx,fs,hA.o,hC,hA.g9,C,p,P',fp,1,0,rfl,hC,hP,by lia,by lia,by lia,c1,λH1 s1=>?_⟩
  rw[hn.v];exact⟨n,1,0,0,none,.aV,[],rfl,⟨hn.n0,hn.n1,by lia,by lia,by lia,by lia,by lia,by lia,λx z=>nomatch z⟩,.inl ⟨rfl,rfl⟩,jZ.nil,λa mk b dx H2 s2 na ha=>q a mk b dx H2 (s1.trans s2) (s1.free na) ha⟩
theorem ahh(T:Tx K mg A)(aA:au mg base A.bg A.aQ)(aB:au mg base A.bq A.aX)(aC:au mg base A.br A.aY):aZ P w K mg base bu 5 A.BF A.BG ["count", "at", "asker"] (aet K A.a_):=by
 refine T.K5.ok afQ (λvs H Q E h=>?_) (λaU Ar outer s H vs Q E hr h=>?_)
 ·obtain⟨c,a,s',rfl,_⟩:=h
  rfl
 ·obtain⟨c,a,s',rfl,c0,c1,ab,q⟩:=h;refine⟨_,(aL (bw (gJ (N:=["each", "at", "asker"]) (nt:=1) (fv:=[1,2]) (cW.of rfl rfl (by rfl) (by rfl) (by repeat (first | exact trivial | refine⟨rfl,?_⟩)) (by rfl) (by rfl) (by rfl) (by decide) (by decide +kernel)) rfl (sU rfl T.gZ (ah (aa 0) aq)) (λC s H fp=>(bI (i:=0) (show List.Nodup (["each", "at", "asker"]:List Str) by decide +kernel) rfl (Or.inl rfl))) (λC s H fp=>jg) (λC s H fp=>(aW (yS T aA aB aC) (hr.mono (by decide)) rfl T.uI T.rS.kp T.Uh (show Vals [.aV,.aV] [.none,.none] from(.cons rfl (.cons rfl .nil))) aM (ah aD (ah aD (ah (aa 1) (ah (aa 2) aq))))))))),?_⟩
  walk_at "rdt";refine Hs c (λD i ys az H2=>∃(u:Option V) (ps:List Addr),ys=ps.map V.ref/\az = [u,some (.int a),some (.int s')]/\i<=1000/\aj H H2/\H D=none/\cj K A.a_ H2 D ps (List.replicate i (iX 0 a s'))) (λQ q=>by walk_at "rdm";exact q) (by lia) (by lia) (λD nD=>⟨none,[],rfl,rfl,Nat.zero_le _,aj.put nD,nD,⟨aH,rfl,λi p' q' e=>by simp at e⟩⟩) (by
   rintro D i ys az H2 ⟨u,ps,rfl,rfl,i1,s2,nD,hk⟩;have:=hk.n;rw[List.length_replicate] at this;exact⟨hk.l,by rw[List.length_map,pK];lia⟩) ?_ ?_
  ·rintro D i ys az H2 N hN hi ⟨u,ps,rfl,rfl,i1,s2,nD,hk⟩;walk_at "rdm";refine⟨0,1,a,s',none,.aV,[],rfl,ab,.inl ⟨rfl,rfl⟩,jZ.nil,λp mk b dx H3 s3 np ha=>?_⟩;have XT:=hk.same s3;refine⟨XT.l,hN _ _ _ ⟨_,ps++[p],by rw[List.map_append];rfl,rfl,by lia,aj.put2 (s2.trans s3) nD,nD,?_⟩⟩
   rw[List.replicate_succ'];exact XT.snoc ha
  ·rintro D ys az H2 ⟨u,ps,rfl,rfl,i1,s2,nD,hk⟩;exact q D ps H2 s2 nD hk
theorem ahi(T:Tx K mg A)(aA:au mg base A.bg A.aQ)(aB:au mg base A.bq A.aX)(aC:au mg base A.br A.aY):aZ P w K mg base bu 5 A.BJ A.BK ["plate"] (ae1 K [A.bx] A.a_):=by
 refine T.K7.ok xr (λvs H Q E h=>?_) (λaU Ar outer s H vs Q E hr h=>?_)
 ·obtain⟨C,p,P',fp,rfl,_⟩:=h
  rfl
 ·obtain⟨C,p,P',fp,rfl,hC,hP,r2,a1,a2,b1,b2,q⟩:=h;have lZ:=hr.lg;refine⟨_,(aF (bF (i:=1) xr.nd rfl (Or.inl rfl) (mT (aa 0) T.ago (agI T aA aB aC) (hr.mono (by decide)) T.Vo .nil aM (ah aD aq)))
   (aF (bF (i:=2) xr.nd rfl (Or.inl rfl) (fF aq))
   (aF (eV PassesOwn.never rfl (aeU rfl T.gZ (ah aD (ah (aa 1) (ah (iw (v:=.int 16) rfl T.L1 ⟨_,rfl⟩) aq)))) (bI (i:=3) xr.nd rfl (Or.inl rfl))
   (aF (bF (i:=4) xr.nd rfl (Or.inl rfl) (aR sV (aa 3) (mT (aa 0) T.L5 (Mc T aA aB aC) (hr.mono (by decide)) T.DV .nil aM (ah aD aq))))
   (aL (dh (jE PySem.F.plainAttrs_list PySem.F.slot_list_append PySem.F.type_list_append lA (aa 2) (ah (abo (yS T aA aB aC) (hr.mono (by decide)) rfl T.uI T.rS.kp T.Xf aM (ah (aa 3) (ah (bY (Gp rfl) rfl T.lY boot_min (ah (iw (v:=.int 16) rfl T.L1 ⟨_,rfl⟩) (ah (aR lV (aa 1) (aa 3)) aq))) (ah (aa 4) aq))) (abm (aa 4) abl)) aq))))))
   (aL (bw (aa 2)))))),?_⟩
  walk_at "rdt";obtain⟨dx,z1,z2,z3,z4,ts,fs,qq,hA⟩:=id hP;refine⟨C,dx,fs,hA.o,hC,hA.m3,C,p,P',fp,0,rfl,hP,by lia,by lia,λL nL=>?_⟩
  have eC:P'.rc.getD (0:Int).toNat 0=c0 P':=rfl;rw[eC];have sL:=aj.put (o:=.lst []) nL;refine rr3 0 (c0 P') 16 (λn i σ H'=>∃(v3 v4:Option V) (ps:List Addr),σ = [some (V.ref p),some (V.int (c0 P')),some (V.ref L),v3,v4]/\aj H H'/\cj K A.a_ H' L ps (gY P' i)) (λQ q=>?_) (by lia) (by lia) (by lia) (by lia) (by lia) (λn st=>⟨none,none,[],rfl,sL,⟨aH,rfl,λi p' q' e=>by simp at e⟩⟩) ?_ ?_
  ·walk_at "rdm";exact q
  ·rintro n st i σ H' N hN hi ⟨v3,v4,ps,rfl,s',hl⟩;have uQ:=hP.same s';have bW:=st.lt i hi;have o':=s' _ _ hA.o;walk_at "rdt";refine⟨C,dx,fs,o',hC,hA.m4,C,p,P',fp,0,rfl,uQ,by lia,by lia,by rw[eC];lia,by rw[eC];lia,?_⟩
   have Ho:=Int.mul_le_mul (show (i:Int)*16<=60 by lia) b2 b1 (by decide)
   have Mw:=Int.mul_nonneg (show 0<=(i:Int)*16 by lia) b1
   refine⟨cJ P',rfl,.inl ⟨by lia,by lia⟩,⟨_,aE.of hl.l⟩,?_⟩
   rw[Int.zero_add] at bW ⊢;rw[show (if c0 P' - (i:Int)*16<16 then c0 P' - (i:Int)*16 else 16)=min 16 (c0 P' - (i:Int)*16) by split <;> lia]
   refine⟨_,_,_,_,some ((i:Int)*16*cJ P'),.aV,[],rfl,⟨by lia,by lia,by lia,by lia,Mw,by lia,by lia,by lia,λx hx=>by cases hx;exact⟨Mw,by lia⟩⟩,.inl ⟨rfl,rfl⟩,jZ.nil,λap mk b p9 H2 s2 na yT=>?_⟩
   have zQ:=hl.same s2;have hn:=hl.n;unfold gY at hn;rw[List.length_map,List.length_range] at hn;have sb:=st.b;refine⟨_,zQ.l,by rw[List.length_map];lia,hN _ _ ⟨_,_,ps++[ap],rfl,aj.put2 (s'.trans s2) nL,?_⟩⟩
   unfold gY;rw[List.range_succ,List.map_append];exact zQ.snoc yT
  ·rintro n st σ H' ⟨v3,v4,ps,rfl,s',hl⟩;walk_at "rdt";exact q L ps n H' s' nL st hl
theorem ahj(T:Tx K mg A)(aA:au mg base A.bg A.aQ)(aB:au mg base A.bq A.aX)(aC:au mg base A.br A.aY):aZ P w K mg base bu 5 A.xM A.BX ["self", "ring", "dues"] (S2 K A.a_ A.bK A.bQ false A.aQ (cC eS) (cB "nearest_of")):=by
 refine T.UX.ok afX (λvs H Q E h=>?_) (λaU Ar outer s H vs Q E hr h=>?_)
 ·obtain⟨x,dx,B,st,r,D,ps,ds,P',b,rfl,_⟩:=h
  rfl
 ·obtain⟨x,dx,B,st,r,D,ps,ds,P',b,rfl,hx,hd,d1,fL,hc,T0,q⟩:=h;have l6:=hx.o;unfold jm at l6;refine⟨_,(aF (pU (cF (jR (vN (aW (Mi T aA aB aC) (hr.mono (by decide)) rfl T.DT T.yu.kp T.DS .nil aM (ah (dI (aa 0) rfl) (ah (aa 1) (ah (aa 2) aq)))) (λ_=>rfl))) (aL (jB (aa 0) (aaS (dI (aa 0) rfl)) rfl)) bT))
   (aL (bw (aW (EA T aA aB aC) (hr.mono (by decide)) rfl T.yr T.uJ.kp T.yq .nil aM (ah (aa 1) (ah (aW (Mi T aA aB aC) (hr.mono (by decide)) rfl T.DT T.yu.kp T.DS .nil aM (ah (dI (aa 0) rfl) (ah (aa 1) (ah (aa 2) aq)))) aq)))))),?_⟩
  wp_walk using T,l6;refine⟨λσ H1=>σ = [some (.ref x),some (.int r),some (.ref D)]/\bU x A.aQ H H1/\bR A.aQ (cC eS) (cB "nearest_of") H1/\fz A.bQ H1 x (lN st r ds) dx B/\fH K A.a_ A.bK H1 D ps ds,?_,?_⟩
  ·refine⟨st.i,r,D,ps,ds,rfl,hd,fL,hc,λD' ia H1 s1 XU bX=>?_⟩;have f9:=hx.same s1;have nu:=s1 _ _ l6;have hl:(ff st.i r ds).length=ia.length:=bX.n.symm;refine⟨_,.inl ⟨_,aE.of bX.l,rfl⟩,cN (λh0=>?_) λh0=>?_⟩
   ·have hz:(ff st.i r ds).length=0:=by
     rw[hl];cases ia with
     | nil=>rfl
     | cons _ _=>cases h0
    refine⟨_,_,_,nu,T.nq,T.uK,_,rfl,_,rfl,_,_,_,nu,T.nq,T.uK,by simp,rfl,?_,T0.same s1 |>.but (SameBut.of (aj.refl H1)).put nu,?_,?_⟩
    ·exact(bU.of (SameBut.of s1)).trans (bU.of (SameBut.of (aj.refl H1)).put)
    ·obtain⟨kvs,k1,k2⟩:=f9.d;refine⟨?_,kvs,?_,k2⟩
     ·rw[aH];unfold lN;rw[if_pos hz]
      rfl
     ·rw[aI (λz=>by rw[z,nu] at k1;cases k1)];exact k1
    ·exact(hd.same s1).kt (f9.jM (SameBut.of (aj.refl H1)).put)
   ·have hz:¬ (ff st.i r ds).length=0:=λz=>by
     rw[hl] at z;rw[List.length_eq_zero_iff.mp z] at h0;exact h0 rfl
    refine⟨rfl,bU.of (SameBut.of s1),T0.same s1,?_,hd.same s1⟩;unfold lN;rw[if_neg hz];exact f9
  ·rintro σ H1 ⟨rfl,kt,T1,f9,bX⟩;have nu:=f9.o;unfold jm at nu;wp_walk using T,nu;refine⟨_,r,D,ps,ds,rfl,bX,fL,hc,λD' ia H2 s2 XU hd2=>?_⟩;have:=AE (lN st r ds).i r ds;exact⟨r,D',ia,_,P',b,rfl,hd2,aed d1,by lia,λd h=>hc d (AF h),T1.same s2,λd H3 sb tb best=>q d H3 ((kt.trans (bU.of (SameBut.of s2))).trans (bU.tb sb)) tb ((f9.same s2).tab (T1.same s2) sb) best⟩
theorem ahk(T:Tx K mg A)(aA:au mg base A.bg A.aQ)(aB:au mg base A.bq A.aX)(aC:au mg base A.br A.aY):aZ P w K mg base bu 5 A.xN A.BY ["self", "ring", "dues"] (S2 K A.a_ A.bK A.bV true A.aQ (cC eS) (cB "nearest_of")):=by
 refine T.U0.ok TU (λvs H Q E h=>?_) (λaU Ar outer s H vs Q E hr h=>?_)
 ·obtain⟨x,dx,B,st,r,D,ps,ds,P',b,rfl,_⟩:=h
  rfl
 ·obtain⟨x,dx,B,st,r,D,ps,ds,P',b,rfl,hx,hd,d1,fL,hc,T0,q⟩:=h;refine⟨_,(aF (bF (i:=3) TU.nd rfl (Or.inl rfl) (aW (Mi T aA aB aC) (hr.mono (by decide)) rfl T.DT T.yu.kp T.DS .nil aM (ah i8 (ah (aa 1) (ah (aa 2) aq)))))
   (aF (cF (vN (aa 3) (λ_=>rfl)) (aL (bw (aW (EA T aA aB aC) (hr.mono (by decide)) rfl T.yr T.uJ.kp T.yq .nil aM (ah (aa 1) (ah (aa 3) aq))))) bT)
   (aL (bw (aW (EA T aA aB aC) (hr.mono (by decide)) rfl T.yr T.uJ.kp T.yq .nil aM (ah aD (ah (aa 2) aq))))))),?_⟩
  walk_at "rdm";refine⟨true,r,D,ps,ds,rfl,hd,fL,hc,λD' ia H1 s1 XU bX=>?_⟩;have hl:(ff true r ds).length=ia.length:=bX.n.symm;have le:=AE true r ds;have T1:=T0.same s1;unfold oB lP at q;rw[if_pos rfl,if_pos rfl] at q;refine⟨_,.inl ⟨_,aE.of bX.l,rfl⟩,cN (λh0=>?_) λh0=>?_⟩
  ·have hz:¬ (ff true r ds).length=0:=λz=>by
    rw[hl] at z;rw[List.length_eq_zero_iff.mp z] at h0;cases h0
   rw[if_neg hz,if_neg hz] at q;exact⟨r,D',ia,_,P',b,rfl,bX,by lia,by lia,λd h=>hc d (AF h),T1,λd H3 sb tb best=>q d H3 ((bU.of (SameBut.of s1)).trans (bU.tb sb)) tb ((hx.same s1).tab T1 sb) best⟩
  ·have hz:(ff true r ds).length=0:=by
    rw[hl];cases ia with
    | nil=>rfl
    | cons _ _=>exact absurd rfl h0
   rw[if_pos hz,if_pos hz] at q;exact⟨0,D,ps,ds,P',b,rfl,hd.same s1,d1,fL,hc,T1,λd H3 sb tb best=>q d H3 ((bU.of (SameBut.of s1)).trans (bU.tb sb)) tb ((hx.same s1).tab T1 sb) best⟩
theorem ahl(T:Tx K mg A)(aA:au mg base A.bg A.aQ)(aB:au mg base A.bq A.aX)(aC:au mg base A.br A.aY):aZ P w K mg base bu 5 A.CY A.CZ ["self", "number"] (aeE K [A.bx] A.bN A.a_ A.bK):=by
 refine T.V7.ok Kw (λvs H Q E h=>?_) (λaU Ar outer s H vs Q E hr h=>?_)
 ·obtain⟨C,x,dx,kp,ks,kk,p,P',fp,r,b,Dx,ls,y,rfl,_⟩:=h
  rfl
 ·obtain⟨C,x,dx,kp,ks,kk,p,P',fp,r,b,Dx,ls,y,rfl,hc,hy,hC,hP,pk,r0,r1,ci,c1,c2,q⟩:=h;have ho:=hc.o;unfold e8 at ho;have n3:=hc.ne;refine⟨_,(aF (bF (i:=2) Kw.nd rfl (Or.inl rfl) (ab4 (dI (pv 0) rfl) (pv 1) ⟨rfl,rfl,rfl,rfl⟩))
   (aF (z9 (i:=3) Kw.nd rfl (Or.inl rfl) (N:=["ring", "place", "begun", "ended", "number"]) (nt:=4) (fv:=[1]) (cW.of rfl rfl (by rfl) (by rfl) (by repeat (first | exact trivial | refine⟨rfl,?_⟩)) (by rfl) (by rfl) (by rfl) (by decide) (by decide +kernel)) rfl (e9 (aW (XN T aA aB aC) (hr.mono (by decide)) rfl T.KL T.DN.kp T.KJ .nil aM (ah (dI (pv 0) rfl) (ah (dI (pv 0) rfl) (ah (dI (pv 0) rfl) (ah (dI (pv 2) rfl) aq)))))) (λC s H fp=>(ac4 (K:=K) (n:=4) rfl rfl (dH (bI (i:=0) (show List.Nodup (["ring", "place", "begun", "ended", "number"]:List Str) by decide +kernel) rfl (Or.inl rfl)) (dH (bI (i:=1) (show List.Nodup (["ring", "place", "begun", "ended", "number"]:List Str) by decide +kernel) rfl (Or.inl rfl)) (dH (bI (i:=2) (show List.Nodup (["ring", "place", "begun", "ended", "number"]:List Str) by decide +kernel) rfl (Or.inl rfl)) (dH (bI (i:=3) (show List.Nodup (["ring", "place", "begun", "ended", "number"]:List Str) by decide +kernel) rfl (Or.inl rfl)) jS)))))) (λC s H fp=>jg) (λC s H fp=>(i9 (ah (pv 4) (ah (pv 0) (ah (pv 1) (ah (pv 2) (ah (pv 3) aq))))))))
   (aF (jB (pv 0) (bM tD (bM qO (pv 3) (vJ vL aD) (λ_ _=>rfl)) aD (λ_ _=>rfl)) rfl)
   (aF (jB (pv 0) (bM tD (bM qO (pv 3) (vJ vL aD) (λ_ _=>rfl)) aD (λ_ _=>rfl)) rfl)
   (aL (bw (pv 3))))))),?_⟩
  wp_walk using T,QZ,ho;refine⟨.inl ⟨_,.inl hc.d⟩,_,hc.d,c8 y.1.n,rfl,_,aeA hc.up hy,?_⟩;rw[SK];generalize ud:ls.filter (λz=>decide (z.1.n≠y.1.n))=dD at *
  have sub:dD.Sublist ls:=ud▸List.filter_sublist;have s1:cu x Dx H (upd H Dx (.dK (c9 dD))):=(cu.of (λ_ _ e=>e)).um;have gO:=hc.step s1 sub (by rw[aI n3];exact hc.o) aH
  have mh:=hc.Ip s1 hP;have hy1:=hc.uo s1 (hc.t y hy);generalize upd H Dx (.dK (c9 dD))=H1 at *
  obtain⟨cZ,ap,l,ts,m,b',bH,hD⟩:=hy1;have dF:=hD.o;unfold iW at dF;have uP:=gO.o;unfold e8 at uP;refine SI ?_;wp_walk using T,uP,dF;refine⟨C,p,P',fp,r,b,l,ts,y.1.c,rfl,hC,mh,pk,r0,r1,hD.c,ci,c2,λlw tw H2 s2 nlw _ hw=>?_⟩;have wl:=wm P' y.1.c (r,b);have w4:=Hv P' y.1.c (r,b);obtain⟨zs,wa,wb,we⟩:=aey P' (r,b) (xs:=y.1.c) (λz=>by rw[z] at c1;simp at c1)
  generalize gU P' (r,b) y.1.c=wy at *
  have XW:=hw.n;refine iU lw (tw.map V.ref) (λD i ys az H3=>∃(u1 u2 u3 u4:Option V) (us:List Addr),ys=us.map V.ref/\az = [u1,u2,u3,u4,some (.int y.1.n)]/\i<=wy.length/\Zt H3 D us ((wy.take i).map λrow=>y.1.n::row)/\aj H2 H3/\H2 D=none) (λQ q=>q) (aE.of hw.l) ?_ ?_ ?_ ?_
  ·intro D nD;exact⟨none,none,none,none,[],rfl,rfl,Nat.zero_le _,Zt.start,aj.put nD,nD⟩
  ·rintro D i ys az H3 ⟨u1,u2,u3,u4,us,rfl,rfl,hi,hz,s3,nD⟩;have:=hz.n;rw[List.length_map,List.length_take] at this;exact⟨hz.l,by rw[List.length_map,pK];lia,aE.of (s3 _ _ hw.l)⟩
  ·rintro D i v ys az H3 N hN hv ⟨u1,u2,u3,u4,us,rfl,rfl,hi,hz,s3,nD⟩;obtain⟨t,ht,rfl⟩:=fG hv;have gC:i<wy.length:=by rw[← XW];exact dM ht
   have pH:=List.getElem?_eq_getElem gC;have hT:=s3 _ _ (hw.t i t _ ht pH);obtain⟨q1,q2,q3,q4,e4⟩:=aez (w4 _ (List.getElem_mem gC));rw[e4] at hT pH;walk_at "rdt";refine⟨_,bD.of hT,rfl,_,_,rfl,_,_,rfl,_,_,rfl,_,_,rfl,rfl,λpt np=>?_⟩;have rZ:=hz.snoc np (y.1.n::[q1,q2,q3,q4]);refine⟨by rw[aI (cO hz.l np)];exact hz.l,hN _ _ _ ⟨_,_,_,_,us++[pt],by rw[List.map_append];rfl,rfl,by lia,?_,aj.put2 (s3.trans (aj.put np)) nD,nD⟩⟩
   rw[take_succ_get pH,List.map_append];exact rZ
  ·rintro D ys az H3 ⟨u1,u2,u3,u4,us,rfl,rfl,hi,hz,s3,nD⟩;rw[List.length_map,XW,List.take_length,we,List.map_append] at hz;obtain⟨XX,t,rfl,ht⟩:=hz.last;have XY:=s2.trans s3;have j9:=gO.same XY;have EB:=j9.o;unfold e8 at EB;have nDx:D≠x:=λz=>by have:=hz.l;rw[z,EB] at this;cases this
   have ntx:t≠x:=λz=>by rw[z,EB] at ht;cases ht
   have hl:gg ((XX++[t]).map V.ref) (-1)=some (.ref t):=by rw[List.map_append];exact Qu _ _
   refine⟨D,rfl,_,aE.of hz.l,_,hl,t,rfl,_,bD.of ht,_,gA (j:=1) rfl,_,_,_,EB,T.oU,T.Em,by simp,D,rfl,_,aE.of (by rw[aI nDx];exact hz.l),_,hl,t,rfl,_,bD.of (by rw[aI ntx];exact ht),_,gA (j:=4) rfl,T.oU,T.yE,by simp[gw,gi,Hh],?_⟩
   walk_at "rdm";have bc:cu x Dx H1 (upd H3 x (.ins A.bN dx (e8 kp p (cE P' (r,b) y.1.c).1 (cE P' (r,b) y.1.c).2 Dx))):=(cu.of XY).Io;refine q D (XX++[t]) _ (s1.trans bc) (gO.free s1 (s2.free nD)) (gO.step bc (.refl _) aH (by rw[aI (Ne.symm n3)];exact j9.d)) ?_
   have:=j9.zt (H':=upd H3 x (.ins A.bN dx (e8 kp p (cE P' (r,b) y.1.c).1 (cE P' (r,b) y.1.c).2 Dx))) ((cu.of (λ_ _ e=>e)).Io) hz;rw[we,List.map_append];exact this
theorem ahm(T:Tx K mg A)(aA:au mg base A.bg A.aQ)(aB:au mg base A.bq A.aX)(aC:au mg base A.br A.aY):aZ P w K mg base bu 5 A.DC A.DE ["_law_plate", "_law_cells"] (afj K A.bx A.a_):=by
 refine T.LJ.ok oM (λvs H Q E h=>?_) (λaU Ar outer s H vs Q E hr h=>?_)
 ·obtain⟨p,cl,P',fp,ns,rfl,_⟩:=h
  rfl
 ·obtain⟨p,cl,P',fp,ns,rfl,hP,n1,nM,l1,l2,hS,XZ,q⟩:=h;have lZ:=hr.lg;have hu:=jF hr;refine⟨_,(aF (bF (i:=2) oM.nd rfl (Or.inl rfl) (fF aq))
   (aF (bF (i:=3) oM.nd rfl (Or.inl rfl) aD)
   (aF (eV PassesOwn.never rfl (e9 (aa 1)) (bI (i:=4) oM.nd rfl (Or.inl rfl))
   (aF (d9 (bF (i:=5) oM.nd rfl (Or.inl rfl) (aR dw (aW (eU T aA aB aC) (hr.mono (by decide)) rfl T.eG T.dO.kp T.eF .nil aM (ah (aa 4) (ah aD aq))) (tQ (aa 0) T.Xk (Xn T aA aB aC) (hr.mono (by decide)) T.Lm .nil aM))))
   (aF (d9 (bF (i:=3) oM.nd rfl (Or.inl rfl) (aR e_ (aa 3) (aR sV (aR dw (aW (eU T aA aB aC) (hr.mono (by decide)) rfl T.eG T.dO.kp T.eF .nil aM (ah (aa 4) (ah aD aq))) aD) (aR dw (aW (eU T aA aB aC) (hr.mono (by decide)) rfl T.eG T.dO.kp T.eF .nil aM (ah (aa 4) (ah aD aq))) (aR e_ (aR zI (tQ (aa 0) T.L6 (Me T aA aB aC) (hr.mono (by decide)) T.DW .nil aM) aD) aD))))))
   (aF (d9 (bF (i:=6) oM.nd rfl (Or.inl rfl) (aR e_ aD (aR dw (aW (eU T aA aB aC) (hr.mono (by decide)) rfl T.eG T.dO.kp T.eF .nil aM (ah (aa 4) (ah aD aq))) (bY (Gp rfl) rfl T.lY boot_min (ah aD (ah (aR vK (tQ (aa 0) T.Xk (Xn T aA aB aC) (hr.mono (by decide)) T.Lm .nil aM) (aa 5)) aq)))))))
   (aF (d9 (bF (i:=7) oM.nd rfl (Or.inl rfl) pe))
   (aF (d9 (pU (cF (cD eX (aR dw (aW (eU T aA aB aC) (hr.mono (by decide)) rfl T.eG T.dO.kp T.eF .nil aM (ah (aa 4) (ah aD aq))) aD) aD (bA _)) (aL (bF (i:=7) oM.nd rfl (Or.inl rfl) (aR e_ (aa 3) (aR dw (aW (eU T aA aB aC) (hr.mono (by decide)) rfl T.eG T.dO.kp T.eF .nil aM (ah (aa 4) (ah aD aq))) aD)))) bT)))
   (aL (dh (jE PySem.F.plainAttrs_list PySem.F.slot_list_append PySem.F.type_list_append lA (aa 2) (ah (aW (yS T aA aB aC) (hr.mono (by decide)) rfl T.uI T.rS.kp T.KG (show Vals [.aV] [.none] from(.cons rfl .nil)) aM (ah (aa 5) (ah (aa 6) (ah (aa 3) (ah aD (ah (aa 7) aq)))))) aq))))))))))
   (aL (bw (aa 2)))))),?_⟩
  wp_walk using T,dW,ji;intro L nL;have sL:=aj.put (o:=.lst []) nL;refine rl cl (ns.map V.int) (λi σ H'=>∃(v4 v5 v6 v7:Option V) (x:Int) (ps:List Addr) (qs:List Ak),σ = [some (V.ref p),some (V.ref cl),some (V.ref L),some (V.int x),v4,v5,v6,v7]/\aj H H'/\cj K A.a_ H' L ps qs/\qs.length=i/\lU P' qs/\0<=x/\x<=(i:Int)*1000000000/\∀q∈qs,q.at_<=x) (λQ q=>q) (sL.seq hS) ⟨_,_,_,_,0,[],[],rfl,sL,⟨aH,rfl,λi p' q' e=>by simp at e⟩,rfl,⟨by simp,(λq h=>by simp at h),λi q q' e=>by simp at e⟩,Int.le_refl _,by simp,(λq h=>by simp at h)⟩ (by rintro i σ H' _ ⟨_,_,_,_,_,_,_,rfl,s',_⟩;exact s'.seq hS) ?_ ?_
  ·rintro i y σ H1 N hN hy ⟨v4,v5,v6,v7,x,ps,qs,rfl,s1,ha,en,fO,x0,x1,xq⟩;obtain⟨c,hc,rfl⟩:=fG hy;have hi:i<24:=by have:=dM hc;lia
   have mh:=hP.same s1;obtain⟨dx,z1,z2,z3,z4,ts,fs,qq,hA⟩:=id mh;dsimp only[nK,List.set];refine dN λM1 l1'=>?_;wp_walk using T,dW;refine⟨A.bx,dx,fs,hA.o,by simp,hA.m2,A.bx,p,P',fp,rfl,mh,_,rfl,by lia,l1' _ _ ?_⟩
   have f0:=Int.emod_nonneg (mix c 1) (show (P'.nc.length:Int)≠0 by lia)
   have f1:=Int.emod_lt_of_pos (mix c 1) (show (0:Int)<P'.nc.length by lia)
   generalize mix c 1 % (P'.nc.length:Int)=f at f0 f1 ⊢;refine dN λM2 l2'=>?_;wp_walk using T,dW;refine⟨A.bx,dx,fs,hA.o,by simp,hA.m5,A.bx,p,P',fp,rfl,mh,?_⟩
   have g0:=Int.emod_nonneg (mix c 2) (show (3:Int)≠0 by decide)
   have g1:=Int.emod_lt_of_pos (mix c 2) (show (0:Int)<3 by decide)
   have k0:=Int.emod_nonneg (mix c 3) (show P'.aJ / 2+1≠0 by lia)
   have k1:=Int.emod_lt_of_pos (mix c 3) (show 0<P'.aJ / 2+1 by lia)
   refine⟨_,rfl,by lia,.inl ⟨by lia,by lia⟩,l2' _ _ ?_⟩
   have p0:=Int.mul_nonneg g0 k0;have p1:=Int.mul_le_mul (show mix c 2 % 3<=2 by lia) (show mix c 3 % (P'.aJ / 2+1)<=P'.aJ / 2 by lia) k0 (by decide)
   obtain⟨x',FJ⟩:∃y,x+mix c 2 % 3*(mix c 3 % (P'.aJ / 2+1))=y:=⟨_,rfl⟩;rw[FJ];have y0:x<=x':=by lia
   have y1:x'<=((i+1:Nat):Int)*1000000000:=by
    have:x'<=x+P'.aJ:=by lia
    lia
   clear FJ p0 p1 k0 k1 g0 g1;refine dN λM3 l3'=>?_;wp_walk using T,dW;refine⟨A.bx,dx,fs,hA.o,by simp,hA.m2,A.bx,p,P',fp,rfl,mh,?_⟩
   have d1:0<(if (P'.nc.length:Int) - f<3 then(P'.nc.length:Int) - f else 3)/\(if (P'.nc.length:Int) - f<3 then(P'.nc.length:Int) - f else 3)<=3/\f+(if (P'.nc.length:Int) - f<3 then(P'.nc.length:Int) - f else 3)<=P'.nc.length:=by split <;> lia
   refine⟨_,rfl,d1.1,l3' _ _ ?_⟩;generalize (if (P'.nc.length:Int) - f<3 then(P'.nc.length:Int) - f else 3)=d at d1 ⊢
   have q0:=Int.emod_nonneg (mix c 4) (show d≠0 by lia)
   have q1:=Int.emod_lt_of_pos (mix c 4) (show 0<d by lia)
   obtain⟨my,em⟩:∃y,1+mix c 4 % d=y:=⟨_,rfl⟩;rw[em];have m1:1<=my/\my<=3/\f+my<=P'.nc.length:=by lia
   clear em q0 q1 d1;refine dN λM4 l4'=>?_;wp_walk using T,dW;refine l4' _ _ ?_;refine dN λM5 l5'=>?_;wp_walk using T,dW;have r0:=Int.emod_nonneg (mix c 6) (show (1000:Int)≠0 by decide)
   have r1:=Int.emod_lt_of_pos (mix c 6) (show (0:Int)<1000 by decide)
   refine⟨λσ H'=>∃o:Option Int,σ = [some (V.ref p),some (V.ref cl),some (V.ref L),some (V.int x'),some (V.int c),some (V.int f),some (V.int my),some (lM o)]/\H' = H1/\∀y,o=some y->0<=y/\y<=10000000000000,?_,?_⟩
   ·refine cN (λ_=>⟨some (x' + mix c 6 % 1000),rfl,rfl,λy hy=>by cases hy;exact⟨by lia,by lia⟩⟩) λ_=>⟨none,rfl,rfl,(λy hy=>nomatch hy)⟩
   ·rintro σ H' ⟨o,rfl,rfl,ob⟩;refine l5' _ _ ?_;wp_walk using T,dW;refine⟨⟨_,aE.of ha.l⟩,f,my,x',0,o,.aV,[],rfl,⟨f0,by lia,by lia,by lia,by lia,by lia,by lia,by lia,ob⟩,.inl ⟨rfl,rfl⟩,jZ.nil,λap mk b2 p9 H2 s2 na yT=>?_⟩
    have jw:=ha.same s2;have an:=ha.n;refine⟨_,jw.l,Tp (by rw[List.length_map];lia),hN _ _ ⟨_,_,_,_,x',ps++[ap],_,rfl,aj.put2 (s1.trans s2) nL,jw.snoc yT,by rw[List.length_append,List.length_singleton];lia,⟨by rw[List.length_append,List.length_singleton];lia,λq hq=>?_,λj q1 q2 e1 e2=>?_⟩,by lia,y1,λq hq=>?_⟩⟩
    ·rcases List.mem_append.mp hq with hq | hq
     ·exact fO.k q hq
     ·rw[List.mem_singleton.mp hq];exact⟨rfl,rfl,rfl,f0,m1.1,m1.2.1,m1.2.2⟩
    ·by_cases hj:j+1<qs.length
     ·rw[List.getElem?_append_left (by lia)] at e1
      rw[List.getElem?_append_left hj] at e2;exact fO.up j q1 q2 e1 e2
     ·have l2:=(List.getElem?_eq_some_iff.mp e2).1;rw[List.length_append,List.length_singleton] at l2;rw[List.getElem?_append_left (by lia)] at e1
      rw[List.getElem?_append_right (by lia),show j+1 - qs.length=0 by lia] at e2
      cases e2;have:=xq q1 (List.mem_of_getElem? e1)
      show q1.at_<=x';lia
    ·rcases List.mem_append.mp hq with hq | hq
     ·have:=xq q hq;lia
     ·rw[List.mem_singleton.mp hq];exact Int.le_refl _
  ·rintro σ H1 ⟨v4,v5,v6,v7,x,ps,qs,rfl,s1,ha,en,fO,x0,x1,xq⟩;walk_at "rdt";exact q L ps qs H1 s1 nL ha fO
theorem ahn(T:Tx K mg A)(aA:au mg base A.bg A.aQ)(aB:au mg base A.bq A.aX)(aC:au mg base A.br A.aY):aZ P w K mg base bu 5 A.DH A.DI ["_law_ask", "_law_beats"] (ae2 K A.a_):=by
 refine T.LL.ok Kz (λvs H Q E h=>?_) (λaU Ar outer s H vs Q E hr h=>?_)
 ·obtain⟨a,x,q0,m,b,dx,rfl,_⟩:=h
  rfl
 ·obtain⟨a,x,q0,m,b,dx,rfl,ha,ab,q⟩:=h;have lZ:=hr.lg;refine⟨_,(aF (bF (i:=2) Kz.nd rfl (Or.inl rfl) (dI (pv 0) rfl))
   (aF (pU (cF (cD Gk (pv 2) pe (bA _)) (aL (bF (i:=2) Kz.nd rfl (Or.inl rfl) (aR e_ (pv 2) (pv 1)))) bT))
   (aL (bw (aW (yS T aA aB aC) (hr.mono (by decide)) rfl T.uI T.rS.kp T.KG (show Vals [.aV] [.none] from(.cons rfl .nil)) aM (ah (dI (pv 0) rfl) (ah (dI (pv 0) rfl) (ah (aR e_ (dI (pv 0) rfl) (pv 1)) (ah (dI (pv 0) rfl) (ah (pv 2) aq)))))))))),?_⟩
  walk_at "rdt";have ao:=ha.o;unfold fZ at ao;refine⟨_,_,_,ao,T.kN,T.yC,lM q0.iA,by simp[List.lookup_cons,gi],?_⟩
  refine⟨λσ H1=>σ = [some (V.ref a),some (V.int x),some (lM (q0.iA.map (· + x)))]/\H1=H,?_,?_⟩
  ·cases q0.iA with
   | none=>exact ite_no (λz=>z rfl) ⟨rfl,rfl⟩
   | some y=>exact ite_yes (λz=>nomatch z) ⟨y,rfl,rfl,rfl⟩
  ·rintro σ H1 ⟨rfl,rfl⟩;wp_walk using T,ao;exact⟨_,_,_,_,_,.aV,[],rfl,ab,.inl ⟨rfl,rfl⟩,jZ.nil,λap mk b2 p9 H2 s2 na yT=>q ap mk b2 p9 H2 s2 na yT⟩
theorem aho(T:Tx K mg A)(aA:au mg base A.bg A.aQ)(aB:au mg base A.bq A.aX)(aC:au mg base A.br A.aY):aZ P w K mg base bu 6 A.BH A.BI ["plate", "most"] (aeu K [A.bx] A.a_):=by
 refine T.K6.ok afR (λvs H Q E h=>?_) (λaU Ar outer s H vs Q E hr h=>?_)
 ·obtain⟨C,p,P',fp,n,most,rfl,_⟩:=h
  rfl
 ·obtain⟨C,p,P',fp,n,most,rfl,hC,hP,hn,m0,m1,q⟩:=h;refine⟨_,(aL (bw (aR QI (fF (ah (aW (XS T aA aB aC) (hr.mono (by decide)) rfl T.K4 T.DR.kp T.K3 .nil aM (ah (aa 0) aq)) aq)) (aW (ahh T aA aB aC) (hr.mono (by decide)) rfl T.UG T.K5.kp T.UE .nil aM (ah (aR lV (aa 1) aD) (ah aD (ah aD aq))))))),?_⟩
  walk_at "rdt";refine⟨C,p,P',fp,n,rfl,hC,hP,hn,λa mk b dx H1 s1 na ha l1 Mx=>?_⟩;have s2:=aj.put (o:=.lst [V.ref a]) Mx;have h1:cj K A.a_ (upd H1 l1 (.lst [V.ref a])) l1 [a] [iX n 0 0]:=⟨aH,rfl,λi p' q' e1 e2=>by
   cases i with
   | zero=>cases e1;cases e2;exact⟨mk,b,dx,ha.same s2⟩
   | succ i=>simp at e1⟩
  refine⟨most - 1,0,0,rfl,by lia,by lia,⟨by lia,by lia,by lia,by lia,by lia,by lia,by lia,by lia,λx z=>nomatch z⟩,λl ps H2 s3 nl h2=>?_⟩
  have X0:=h1.same s3;refine⟨l,rfl,_,X0.l,_,h2.l,?_,λp3 n3=>?_⟩
  ·have:=h2.n;rw[List.length_replicate] at this;simp;lia
  ·exact q _ _ _ ((s1.trans s2).trans (s3.trans (aj.put n3))) (((s1.trans s2).trans s3).free n3) (X0.cat h2 n3)
theorem X3(T:Tx K mg A)(aA:au mg base A.bg A.aQ)(aB:au mg base A.bq A.aX)(aC:au mg base A.br A.aY):aZ P w K mg base bu 6 A.uG A.BV ["self", "plate", "ring", "beat", "dues"] (S3 K A.a_ A.bK A.bQ A.bV A.aQ (cC eS) (cB "nearest_of")):=by
 refine T.UR.ok afV (λvs H Q E h=>?_) (λaU Ar outer s H vs Q E hr h=>?_)
 ·obtain⟨C,x,dx,B,sw,st,p,r,b,D,ps,ds,P',rfl,_⟩:=h
  rfl
 ·obtain⟨C,x,dx,B,sw,st,p,r,b,D,ps,ds,P',rfl,hk,hK,hx,hd,d1,fL,hc,T0,q⟩:=h;have l6:=hx.o;unfold jm at l6;refine⟨_,(aL (bw (adU (aa 0) T.agw (ahj T aA aB aC) (hr.mono (by decide)) T.UY T.agx (ahk T aA aB aC) (hr.mono (by decide)) T.U1 aM (ah (aa 2) (ah (mT (aa 0) T.agv (agZ T aA aB aC) (hr.mono (by decide)) T.UT .nil aM (ah (aa 4) aq)) aq))))),?_⟩
  wp_walk using T,l6;have kt:=λ{H1:Hp} (sb:SameBut x H H1)=>bU.of (TP:=A.aQ) sb;have le:=aee st ds;rcases hk with⟨rfl,rfl⟩ | ⟨rfl,rfl⟩
  ·exact .inl ⟨by simp,by simp,A.bQ,x,dx,B,st,D,ps,ds,rfl,by simp,hK,hx,hd,fL,λD' ia B' H1 bB sb f9 bX=>⟨x,dx,B',dZ st ds,r,D',ia,eN st ds,P',b,rfl,f9,bX,Sl d1,by lia,λd h=>hc d (wL h),T0.but sb hx.o,λd H2 My T2 Mz best=>q d B' H2 bB ((kt sb).trans My) T2 Mz best⟩⟩
  ·exact .inr ⟨by simp,by simp,A.bV,x,dx,B,st,D,ps,ds,rfl,by simp,hK,hx,hd,fL,λD' ia B' H1 bB sb f9 bX=>⟨x,dx,B',dZ st ds,r,D',ia,eN st ds,P',b,rfl,f9,bX,Sl d1,by lia,λd h=>hc d (wL h),T0.but sb hx.o,λd H2 My T2 Mz best=>q d B' H2 bB ((kt sb).trans My) T2 Mz best⟩⟩
theorem ahp(T:Tx K mg A)(aA:au mg base A.bg A.aQ)(aB:au mg base A.bq A.aX)(aC:au mg base A.br A.aY):aZ P w K mg base bu 6 A.CM A.CN ["self", "plate", "asks", "ring"] (aeI K [A.bx] A.bN A.a_ A.bK):=by
 refine T.VW.ok Kv (λvs H Q E h=>?_) (λaU Ar outer s H vs Q E hr h=>?_)
 ·obtain⟨C,x,dx,p,la,P',fp,ps,qs,r,rfl,_⟩:=h
  rfl
 ·obtain⟨C,x,dx,p,la,P',fp,ps,qs,r,rfl,hx,hC,hP,pn,ha,ok,nr,q⟩:=h;have hu:=jF hr;refine⟨_,(aF (jB (aa 0) (aW (ahe T aA aB aC) (hr.mono (by decide)) rfl T.VV T.Lv.kp T.VU .nil aM (ah (aa 1) (ah (aa 2) aq))) rfl)
   (aF (jB (aa 0) (aa 1) rfl)
   (aF (jB (aa 0) (aa 3) rfl)
   (aF (jB (aa 0) aD rfl)
   (aF (jB (aa 0) vU rfl)
   (aL (eV PassesOwn.never rfl (vZ rfl T.qm (ah (aa 2) aq)) (jT rfl (dH (bI (i:=4) Kv.nd rfl (Or.inl rfl)) (dH (bI (i:=5) Kv.nd rfl (Or.inl rfl)) jS)))
   (aL (cF (cD qJ (dI (aa 5) rfl) cQ (bA _)) (aL (zU hu (dI (aa 0) rfl) (aa 4) (qM T.WL (ahd T aA aB aC) (hr.mono (by decide)) rfl T.WM T.VN .nil aM (ah (aa 1) (ah (aa 4) (ah (aa 5) aq)))) rfl)) bT))))))))),?_⟩
  walk_at "rdt";refine⟨C,p,la,P',fp,ps,qs,rfl,hC,hP,pn,ha,ok,λkp ks H1 s1 nk nks hz=>?_⟩;have f9:=s1 _ _ hx;wp_walk using T,f9;intro Dx EC;have xD:x≠Dx:=λz=>by rw[← z,aH] at EC;cases EC
  have nD:H1 Dx=none:=by rw[aI (Ne.symm xD)] at EC;exact EC
  refine⟨_,_,_,by rw[aI xD,aH],T.oU,T.En,by simp,?_⟩
  walk_at "rdm";have sb:SameBut x H1 (upd (upd (upd H1 x (.ins A.bN dx [("keeping",V.ref kp),("plate",V.ref p),("ring",V.int r),("beat",V.int 0)])) Dx (.dK [])) x (.ins A.bN dx (e8 kp p r 0 Dx))):=λc o e n=>by
   rw[aI n,aI (λz=>by rw[z,nD] at e;cases e),aI n];exact e
  have hc:bS K A.bN A.a_ A.bK (upd (upd (upd H1 x (.ins A.bN dx [("keeping",V.ref kp),("plate",V.ref p),("ring",V.int r),("beat",V.int 0)])) Dx (.dK [])) x (.ins A.bN dx (e8 kp p r 0 Dx))) x dx kp ks (jI qs qs.length) p r 0 Dx [] :=
   ⟨aH,aeF f9 sb hz,by rw[aI (Ne.symm xD),aH];rfl,(λ_ h=>nomatch h),List.Pairwise.nil,Nat.zero_le _,λ_ h=>nomatch h⟩
  show jU _ _ _ _ _ (upd (upd (upd H1 x (.ins A.bN dx [("keeping",V.ref kp),("plate",V.ref p),("ring",V.int r),("beat",V.int 0)])) Dx (.dK [])) x (.ins A.bN dx (e8 kp p r 0 Dx)));generalize upd (upd (upd H1 x (.ins A.bN dx [("keeping",V.ref kp),("plate",V.ref p),("ring",V.int r),("beat",V.int 0)])) Dx (.dK [])) x (.ins A.bN dx (e8 kp p r 0 Dx))=H2 at *
  have i6:=ha.same s1;have mh:=hP.same s1;have an:=ha.n;have on:=ok.n;have ol:(jI qs qs.length).length=qs.length:=by unfold jI;rw[List.length_map,List.length_range]
  refine re la (ps.map V.ref) (λk σ H'=>∃(x1 x2:Option V) (ls:List (Dr×Addr)),σ = [some (.ref x),some (.ref p),some (.ref la),some (.int r),x1,x2]/\SameBut x H1 H'/\bS K A.bN A.a_ A.bK H' x dx kp ks (jI qs qs.length) p r 0 Dx ls/\ls.map (·.1)=cy P'.nc 0 (qs.take k)) (λQ q=>?_) (aE.of (uq f9 sb i6.l)) ⟨none,none,[],rfl,sb,hc,rfl⟩ (by rintro i σ H' _ ⟨_,_,_,rfl,s1,_⟩;exact aE.of (uq f9 s1 i6.l)) ?_ ?_
  ·walk_at "rdm";exact q
  ·rintro k v σ H' T1 N hN hv ⟨x1,x2,ls,rfl,s2,kj,el⟩ hT;have Xr:k<ps.length:=by have:=(List.getElem?_eq_some_iff.mp hv).1;simpa using this
   have hk:k<qs.length:=by lia
   have jv:=List.getElem?_eq_getElem hk;obtain⟨ap,m,b,da,e1,a1⟩:=i6.at jv;rw[e1] at hv;cases hv;have s3:=aj.put (o:=.tup [.int (k:Int),.ref ap]) hT;refine lK (bD.of aH) rfl ?_;have j9:=kj.same s3;have se:=s2.step s3;generalize upd H' T1 (.tup [.int (k:Int),.ref ap])=H3 at *
   have a3:=aeG f9 se a1;have sf:=aeH f9 se mh;have nk:=nr _ (List.getElem_mem hk);have X4:=a3.o;unfold fZ at X4;wp_walk using T,X4;rw[if_pos nk];intro y dy ny ndy nn;have s4:aj H3 (upd (upd H3 dy (.own y)) y (.ins A.bK dy [])):=(aj.put ndy).trans (aj.put (by rw[aI (Ne.symm nn)];exact ny))
   have hy4:upd (upd H3 dy (.own y)) y (.ins A.bK dy []) y=some (.ins A.bK dy []):=aH;generalize upd (upd H3 dy (.own y)) y (.ins A.bK dy [])=H4 at *
   have ny1:y≠p:=λz=>by obtain⟨o,e⟩:=sf.here;rw[← z,ny] at e;cases e
   have ny2:y∉fp:=λz=>by obtain⟨o,e⟩:=sf.has z;rw[ny] at e;cases e
   refine⟨C,y,p,ap,dy,_,P',fp,_,m,b,da,rfl,hy4,hC,sf.same s4,ny1,ny2,a3.same s4,(ok.fit k _ jv).1,pn,λl ts H5 nl s5 hD=>?_⟩;have nG:aj H3 H5:=λc o e=>s5 _ _ (s4 _ _ e) (λz=>by rw[z,ny] at e;cases e)
   have MA:=j9.same nG;have X5:=MA.o;unfold e8 at X5;wp_walk using T,X5;have ll:ls.length=k:=by
    have:=congrArg List.length el;rw[List.length_map,Iq,List.length_take] at this;lia
   refine⟨_,lD.k (k:=c8 (k:Int)) MA.d (by rw[wU,pK];lia),hN _ _ ⟨_,_,ls++[(⟨(k:Int),qs[k],b_ P'.nc qs[k].first qs[k].many⟩,y)],rfl,?_,MA.add (y:=(⟨(k:Int),qs[k],b_ P'.nc qs[k].first qs[k].many⟩,y)) ⟨_,_,_,_,_,_,_,hD⟩ (by show (0:Int)<=(k:Int);lia) (by rw[ol];show (k:Int)<_;lia) (λz hz=>?_) (by lia),?_⟩⟩
   ·exact λc o e n=>by rw[aI (λz=>by rw[z,nD] at e;cases e)];exact nG _ _ (se _ _ e n)
   ·have hm:z.1∈cy P'.nc 0 (qs.take k):=el▸List.mem_map_of_mem hz;have:=(mZ _ _ _ _ hm).2;rw[List.length_take] at this
    show z.1.n<(k:Int);lia
   ·rw[List.map_append,el,take_succ_get jv,SN,List.length_take,Nat.min_eq_left (by lia),Nat.zero_add]
    rfl
  ·rintro σ H' ⟨x1,x2,ls,rfl,s2,kj,el⟩;rw[List.length_map,an,List.take_length] at el;have yU:SameBut x H H':=λc o e n=>s2 _ _ (s1 _ _ e) n;exact q kp ks Dx ls H' yU (s1.free nD) kj el
theorem ahq(T:Tx K mg A)(aA:au mg base A.bg A.aQ)(aB:au mg base A.bq A.aX)(aC:au mg base A.br A.aY):aZ P w K mg base bu 7 A.BL A.BN ["plate", "word", "most"] (afb K [A.bx] A.a_):=by
 refine T.K8.ok TR (λvs H Q E h=>?_) (λaU Ar outer s H vs Q E hr h=>?_)
 ·obtain⟨C,p,P',fp,n,most,w',rfl,_⟩:=h
  rfl
 ·obtain⟨C,p,P',fp,n,most,w',rfl,hC,hP,hn,m0,m1,a1,a2,b1,b2,we,qb,qe⟩:=h;have lZ:=hr.lg;refine⟨_,(aF (cF (cD GK (aa 1) (iw (v:=.ref A.qg) rfl T.Xg rfl) rfl) (aF (bF (i:=3) TR.nd rfl (Or.inl rfl) (FZ (cD eX (aa 1) cQ (bA _)) aD (aR lV (aa 2) aD)))
   (aL (bw (i9 (ah cQ (ah (aa 3) (ah (aW (aho T aA aB aC) (hr.mono (by decide)) rfl T.UI T.K6.kp T.UH .nil aM (ah (aa 0) (ah (aa 2) aq))) aq))))))) bT)
   (aF (cF (cD GK (aa 1) (iw (v:=.ref A.qh) rfl T.Xi rfl) rfl) (aL (bw (i9 (ah cQ (ah (fF (ah (aW (XS T aA aB aC) (hr.mono (by decide)) rfl T.K4 T.DR.kp T.K3 .nil aM (ah (aa 0) aq)) aq)) (ah (aW (ahi T aA aB aC) (hr.mono (by decide)) rfl T.UK T.K7.kp T.UJ .nil aM (ah (aa 0) aq)) (ah (tQ (aa 0) T.L6 (Me T aA aB aC) (hr.mono (by decide)) T.DW .nil aM) aq))))))) bT)
   gu)),?_⟩
  walk_at "rdt";refine⟨_,.inr T.Xh.sq,rfl,Sz _,?_⟩;rw[SA];refine cN (λh0=>?_) (λh0=>?_)
  ·have h0:w'∈fB:=of_decide_eq_true h0;have qb:=qb h0;refine cN (λh1=>?_) (λh1=>?_)
   ·rw[if_pos h1] at qb;exact⟨C,p,P',fp,n,most,rfl,hC,hP,hn,m0,m1,λl ps H1 s1 nl ha t nt=>qb t l ps _ (s1.trans (aj.put nt)) aH (ha.same (aj.put nt))⟩
   ·rw[if_neg h1] at qb;exact⟨C,p,P',fp,n,most,rfl,hC,hP,hn,m0,m1,λl ps H1 s1 nl ha t nt=>qb t l ps _ (s1.trans (aj.put nt)) aH (ha.same (aj.put nt))⟩
  ·have h0:w'∉fB:=λz=>h0 (decide_eq_true z);have q:=qe h0;refine⟨_,.inr T.Xj.sq,rfl,Sz _,by rw[SA];exact decide_eq_true (we h0),C,p,P',fp,n,rfl,hC,hP,hn,λar mk b dx H1 s1 na har l1 Mx=>?_⟩
   have sl:=aj.put (o:=.lst [V.ref ar]) Mx;have h1:cj K A.a_ (upd H1 l1 (.lst [V.ref ar])) l1 [ar] [iX n 0 0]:=⟨aH,rfl,λi p' q' e1 e2=>by
    cases i with
    | zero=>cases e1;cases e2;exact⟨mk,b,dx,har.same sl⟩
    | succ i=>simp at e1⟩
   have s2:=s1.trans sl;refine⟨C,p,P',fp,rfl,hC,hP.same s2,hn.r2,a1,a2,b1,b2,λl2 p2 m H2 s3 Mu st h2=>?_⟩;have X6:=hP.same (s2.trans s3);obtain⟨Ml,z1,z2,z3,z4,ts,fs,qq,hA⟩:=id X6;refine⟨C,Ml,fs,hA.o,hC,hA.m5,C,p,P',fp,rfl,X6,λt nt=>?_⟩;have MB:=aj.put (o:=.tup [.str "ever",.ref l1,.ref l2,.int P'.aJ]) nt;exact q t l1 [ar] l2 p2 m _ ((s2.trans s3).trans MB) aH st ((h1.same s3).same MB) (h2.same MB)
theorem ahr(T:Tx K mg A)(aA:au mg base A.bg A.aQ)(aB:au mg base A.bq A.aX)(aC:au mg base A.br A.aY):aZ P w K mg base bu 8 A.xE A.uC ["plate", "ring", "beat", "dues"] (ad_ K [A.bx] A.a_ A.bK A.aX (cC fU) (cB "soonest_of")):=by
 refine T.KQ.HP afJ (λvs H Q E h=>?_) (λAr outer s H vs Q E hr h=>?_)
 ·obtain⟨C,p,P',fp,r,b,D,ps,ds,rfl,_⟩:=h
  rfl
 ·obtain⟨C,p,P',fp,r,b,D,ps,ds,rfl,hC,hP,ok,r0,r1,hd,d1,fL,hc,T0,q⟩:=h;have fq:=hd.n;have jJ:(Ar.deeper (envOfC "soonest_of" (aN fU) s.heap.objs.size A.xE A.uC.code)).in1.depth<recursionLimit:=hr.depth;have yP:_+16<cLine:=Nat.lt_of_le_of_lt (Nat.add_le_add_left (by decide:16<=64) _) hr.units
  refine⟨_,(aL (bw (dI (HX (c:=A.bq) (P:=A.aX) (ps:=["due"]) (fs:=["plate", "ring", "beat"]) (fv:=[0,1,2]) rfl T.lY aB T.Xd (j4.of rfl rfl rfl rfl (by rfl) (by rfl) (by repeat (first | exact trivial | refine⟨rfl,?_⟩)) (by rfl) (by rfl) (by rfl) (by decide +kernel)) rfl rfl rfl (λ_ _ _ _=>rfl) (λf c2 s2 H2=>(i9 (ah (aW (ahf T aA aB aC) ((hr.mono (by decide)).in1.deeper _) rfl T.Uo T.KP.kp T.Um .nil aM (ah (pv 1) (ah (pv 2) (ah (pv 3) (ah (pv 0) aq))))) (ah (j3 (K:=K) rfl (pv 0) rfl) aq)))) rfl jJ yP (pv 3)) rfl))),?_⟩
  walk_at "rdt";refine⟨ps,hd.l,by lia,T0,ug (AB P' r b) ds,λj a H2 hj sb tb=>?_,λi a H2 hi least sb tb=>?_⟩
  ·have iC:j<ds.length:=by rw[← fq];exact dM hj
   have kt:=T0.jM sb;refine(hd.kt kt).el j a ds[j] hj (List.getElem?_eq_getElem iC) λdx ap l ts m b' bH hD=>?_;rw[AD (List.getElem?_eq_getElem iC)];obtain⟨c1,c2⟩:=hc _ (List.getElem_mem iC);refine⟨_,rfl,_,rfl,_,rfl,C,p,P',fp,r,b,a,ds[j],dx,ap,l,ts,m,b',bH,rfl,hC,hP.kt kt,ok,r0,r1,hD,c1,c2,λH3 s3=>?_⟩;exact⟨_,_,_,s3 _ _ hD.o,T.oO,T.oR,_,rfl,λp np=>⟨rfl,λ_ _ e _=>aj.put np _ _ (s3 _ _ e),(tb.same s3).same (aj.put np)⟩⟩
  ·have iT:i<ds.length:=by rw[← fq];exact dM hi
   refine(hd.kt (T0.jM sb)).el i a ds[i] hi (List.getElem?_eq_getElem iT) λdx ap l ts m b' bH hD=>?_;rw[fq] at least;exact⟨_,_,_,hD.o,T.oO,T.oR,_,rfl,q _ H2 sb tb (Sh (λ_=>rfl) (List.getElem?_eq_getElem iT) least)⟩
theorem ahs(T:Tx K mg A)(aA:au mg base A.bg A.aQ)(aB:au mg base A.bq A.aX)(aC:au mg base A.br A.aY):aZ P w K mg base bu 9 A.xH A.BB ["self", "plate", "ring", "beat", "dues"] (Sg K [A.bx] A.a_ A.bK A.aX (cC fU) (cB "soonest_of") AB):=by
 refine T.UA.ok afN (λvs H Q E h=>?_) (λaU Ar outer s H vs Q E hr h=>?_)
 ·obtain⟨x,C,p,P',fp,r,b,D,ps,ds,rfl,_⟩:=h
  rfl
 ·obtain⟨x,C,p,P',fp,r,b,D,ps,ds,rfl,hC,hP,ok,r0,r1,hd,d1,fL,hc,T0,q⟩:=h;refine⟨_,(aL (bw (aW (ahr T aA aB aC) (hr.mono (by decide)) rfl T.Uq T.KQ.kp T.Up .nil aM (ah (aa 1) (ah (aa 2) (ah (aa 3) (ah (aa 4) aq))))))),?_⟩
  walk_at "rdm";exact⟨C,p,P',fp,r,b,D,ps,ds,rfl,hC,hP,ok,r0,r1,hd,d1,fL,hc,T0,q⟩
theorem MC(T:Tx K mg A)(aA:au mg base A.bg A.aQ)(aB:au mg base A.bq A.aX)(aC:au mg base A.br A.aY):aZ P w K mg base bu 10 A.Dc A.De ["plate", "asks", "rule", "ring", "shelf"] (aeY K [A.bx] ⟨A.eo,A.eu,A.eB,A.eE,A.bQ,A.bV⟩ A.a_ A.eT ⟨(A.aQ,cC eS,cB "nearest_of"),(A.aX,cC fU,cB "soonest_of"),(A.aY,cC fV,cB "latest_of")⟩):=by
 refine T.yw.ok oK (λvs H Q E h=>?_) (λaU Ar outer s H vs Q E hr h=>?_)
 ·obtain⟨C,p,la,ru,dx,B,P',fp,ps,qs,o,st,J,rfl,_⟩:=h
  rfl
 ·obtain⟨C,p,la,ru,dx,B,P',fp,ps,qs,o,st,J,rfl,hC,hP,pk,pn,ha,ok,rd,jP,tb,j0,al,q⟩:=h;have hu:=jF hr;refine⟨_,(aF (bF (i:=5) oK.nd rfl (Or.inl rfl) (qM T.WN (ahp T aA aB aC) (hr.mono (by decide)) rfl T.WO T.VX .nil aM (ah (aa 0) (ah (aa 1) (ah (aa 3) aq)))))
   (aF (pU (dh (aeX (aa 2) (kG (.of T.yF T.KU (Ex T aA aB aC) (hr.mono (by decide)) T.yt) (kG (.of T.yG T.KW (Ex T aA aB aC) (hr.mono (by decide)) T.yt) (kG (.of T.yH T.KY (Ex T aA aB aC) (hr.mono (by decide)) T.yt) (kG (.of T.yI T.KZ (Ex T aA aB aC) (hr.mono (by decide)) T.yt) (kG (.of T.nq T.La (L8 T aA aB aC) (hr.mono (by decide)) T.DU) (kG (.of T.qk T.Lb (L8 T aA aB aC) (hr.mono (by decide)) T.DU) S0)))))) aM)))
   (aF (bF (i:=6) oK.nd rfl (Or.inl rfl) (fF aq))
   (aF (bF (i:=7) oK.nd rfl (Or.inl rfl) (fF aq))
   (aF (bF (i:=8) oK.nd rfl (Or.inl rfl) (aR zR (fF (ah pe aq)) (bY fK rfl T.dg boot_len (ah (aa 1) aq))))
   (aF (aaV PassesOwn.never (vN (cI (aa 5) rfl) (λ_=>rfl))
   (aF (bF (i:=9) oK.nd rfl (Or.inl rfl) (Qa (aa 5) T.oU T.V6 (ag5 T aA aB aC) (hr.mono (by decide)) T.V5 .nil aM))
   (aF (pU (bF (i:=10) oK.nd rfl (Or.inl rfl) (aeW (aa 2) (kG (.of T.yF T.KS (agY T aA aB aC) (hr.mono (by decide)) T.Uu) (kG (.of T.yG T.K0 (ahg T aA aB aC) (hr.mono (by decide)) T.Uz) (kG (.of T.yH T.K1 (ahs T aA aB aC) (hr.mono (by decide)) T.UB) (kG (.of T.yI T.K2 (ahb T aA aB aC) (hr.mono (by decide)) T.UD) (kG (.of T.nq T.Ld (X3 T aA aB aC) (hr.mono (by decide)) T.Lc) (kG (.of T.qk T.Le (X3 T aA aB aC) (hr.mono (by decide)) T.Lc) S0)))))) aM (ah (aa 0) (ah (cI (aa 5) rfl) (ah (cI (aa 5) rfl) (ah (aa 9) aq)))))))
   (aF (dh (jE PySem.F.plainAttrs_list PySem.F.slot_list_append PySem.F.type_list_append lA (aa 7) (ah (aa 10) aq)))
   (aF (Pq (dI (pv 5) rfl) (Pp (pv 8) (pv 10) set_list))
   (aL (dh (jE PySem.F.plainAttrs_list PySem.F.slot_list_extend PySem.F.type_list_extend zP (aa 6) (ah (P_ (aa 5) T.oU T.V9 (ahl T aA aB aC) (hr.mono (by decide)) T.V8 .nil aM (ah (aa 10) aq)) aq)))))))))
   (aF (bF (i:=11) oK.nd rfl (Or.inl rfl) (aW (agS T aA aB aC) (hr.mono (by decide)) rfl T.Wc T.Lw.kp T.Wb .nil aM (ah (aa 6) aq)))
   (aF (bF (i:=12) oK.nd rfl (Or.inl rfl) (FZ (vN (aa 6) (λ_=>rfl)) (bM tD (bM fj (aa 6) (vJ vL aD) (λ_ _=>rfl)) aD (λ_ _=>rfl)) aD))
   (aL (bw (qM T.WQ (agR T aA aB aC) (hr.mono (by decide)) rfl T.WR T.Wa .nil aM (ah (aa 6) (ah (aa 8) (ah (aW (agU T aA aB aC) (hr.mono (by decide)) rfl T.Wi T.Lz.kp T.Wh .nil aM (ah (aa 1) (ah (aa 11) (ah (aa 4) aq)))) (ah (aW (ag6 T aA aB aC) (hr.mono (by decide)) rfl T.Wg T.Ly.kp T.Wf .nil aM (ah (aa 1) (ah (aa 7) aq))) (ah (aa 12) aq)))))))))))))))),?_⟩
  walk_at "rdt";intro x dc nx ndc nn;have s1:aj H (upd (upd H dc (.own x)) x (.ins A.bN dc [])):=(aj.put ndc).trans (aj.put (by rw[aI (Ne.symm nn)];exact nx))
  have f9:upd (upd H dc (.own x)) x (.ins A.bN dc []) x=some (.ins A.bN dc []):=aH;generalize upd (upd H dc (.own x)) x (.ins A.bN dc [])=H1 at *
  refine⟨C,x,dc,p,la,P',fp,ps,qs,0,rfl,f9,hC,hP.same s1,pn,ha.same s1,ok,(λq hq=>by rw[(rd q hq).k];exact HG (by decide)),λkp ks Dx ls H2 sb nD hc el=>⟨rfl,?_⟩⟩
  have s2:aj H H2:=λc o e=>sb _ _ (s1 _ _ e) (λz=>by rw[z,nx] at e;cases e)
  have nDH:=s1.free nD;have nrx:ru≠x:=λz=>by obtain⟨_,_,e⟩:=jP.ins;rw[z,nx] at e;cases e
  refine⟨λσ H3=>∃B',σ = [some (V.ref p),some (V.ref la),some (V.ref ru),some (V.int 0),some (V.int 0),some (V.ref x),none,none,none,none,none,none,none]/\bU ru (iY.of ⟨(A.aQ,cC eS,cB "nearest_of"),(A.aX,cC fU,cB "soonest_of"),(A.aY,cC fV,cB "latest_of")⟩ o).1 H H3/\cA H H3/\gF (iY.of ⟨(A.aQ,cC eS,cB "nearest_of"),(A.aX,cC fU,cB "soonest_of"),(A.aY,cC fV,cB "latest_of")⟩ o) H3/\cX K ⟨A.eo,A.eu,A.eB,A.eE,A.bQ,A.bV⟩ o ⟨st.c,true,[]⟩ H3 ru dx B'/\B'≠Dx/\bS K A.bN A.a_ A.bK H3 x dc kp ks (jI qs qs.length) p 0 0 Dx ls,?_,?_⟩
  ·cases o with
   | first=>exact⟨A.eo,dx,[],s2 _ _ jP,rfl,_,.head _,ru,rfl,x,rfl,bU.of (SameBut.of s2),cA.of s2,tb.same s2,s2 _ _ jP,hc.ne,hc⟩
   | near=>exact⟨A.eu,dx,[],s2 _ _ jP,rfl,_,.tail _ (.head _),ru,rfl,x,rfl,bU.of (SameBut.of s2),cA.of s2,tb.same s2,s2 _ _ jP,hc.ne,hc⟩
   | iE=>exact⟨A.eB,dx,[],s2 _ _ jP,rfl,_,.tail _ (.tail _ (.head _)),ru,rfl,x,rfl,bU.of (SameBut.of s2),cA.of s2,tb.same s2,s2 _ _ jP,hc.ne,hc⟩
   | iF=>exact⟨A.eE,dx,[],s2 _ _ jP,rfl,_,.tail _ (.tail _ (.tail _ (.head _))),ru,rfl,x,rfl,bU.of (SameBut.of s2),cA.of s2,tb.same s2,s2 _ _ jP,hc.ne,hc⟩
   | li sw =>
    obtain⟨C',hk,hK,lt⟩:=jP;have yV:=lt.same s2;have mem:(C',AG K [A.bQ,A.bV])∈[(A.eo,wQ),(A.eu,wQ),(A.eB,wQ),(A.eE,wQ),(A.bQ,AG K [A.bQ,A.bV]),(A.bV,AG K [A.bQ,A.bV])]:=by
     rcases id hk with⟨e,_⟩ | ⟨e,_⟩ <;> rw[e]
     ·exact .tail _ (.tail _ (.tail _ (.tail _ (.head _))))
     ·exact .tail _ (.tail _ (.tail _ (.tail _ (.tail _ (.head _)))))
    exact⟨C',dx,_,yV.o,by simp[jm,List.lookup_cons,gi],_,mem,C',ru,dx,st.c,_,rfl,hk.mem,hK,yV.o,.inr ⟨_,_,rfl⟩,λB' H3 nB nC wu=>⟨B',rfl,λc u e n z=>nC _ _ (s2 _ _ e) n,(cA.of s2).trans (yV.jM nC),(tb.same s2).but nC yV.o,⟨C',hk,hK,wu⟩,(λz=>by rw[z,hc.d] at nB;cases nB),hc.kt (yV.jM nC)⟩⟩
  ·rintro σ H3 ⟨B',rfl,yW,uT,oZ,X7,nB3,j9⟩;walk_at "rdt";intro R nR Pk nP T0 nT0;have an:=ha.n;have on:=ok.n;have fR:=m_.of yW uT nR;have sR:=aj.put (o:=.lst []) nR;have fP:=m_.of yW uT (sR.free nP);have sP:=aj.put (o:=.lst []) nP;have ED:=aj.put (o:=.lst [V.aV]) nT0;have yX:=(sR.trans sP).trans ED;have MD:=(sP.trans ED) _ _ (aH (H:=H3) (a:=R) (o:=.lst []));have ME:=ED _ _ (aH (H:=upd H3 R (.lst [])) (a:=Pk) (o:=.lst []));have nRP:R≠Pk:=cO (aH (H:=H3) (a:=R) (o:=.lst [])) nP;generalize upd (upd (upd H3 R (.lst [])) Pk (.lst [])) T0 (.lst [V.aV])=H4 at *
   refine⟨_,.inl (aE.of (yX _ _ (uT.lst ha.l))),by lia,by rw[List.length_map];lia,by rw[List.length_map];lia,λTk nT=>?_⟩
   have et:(List.replicate (((ps.map V.ref).length:Int)).toNat [V.aV]).flatten=cH qs.length []:=by unfold cH;simp[an]
   rw[et];have fT:=m_.of yW uT (yX.free nT);have sT:=aj.put (o:=.lst (cH qs.length [])) nT;have nG:=yX.trans sT;have X8:=sT _ _ MD;have yY:=sT _ _ ME;have X_:upd H4 Tk (.lst (cH qs.length [])) Tk=some (.lst (cH qs.length [])):=aH;have nRT:R≠Tk:=cO MD nT;have nPT:Pk≠Tk:=cO ME nT;generalize upd H4 Tk (.lst (cH qs.length []))=H5 at *
   have I0:S4 K ⟨A.eo,A.eu,A.eB,A.eE,A.bQ,A.bV⟩ A.bN A.a_ A.bK (iY.of ⟨(A.aQ,cC eS,cB "nearest_of"),(A.aX,cC fU,cB "soonest_of"),(A.aY,cC fV,cB "latest_of")⟩ o) o P' qs J H H3 H5 ls ru dx B' x dc kp p Dx R Pk Tk ks (jI qs qs.length) 0 0 ls ⟨st.c,true,[]⟩ [] [] [] :=
    { kx:=yW.same nG,kt:=uT.trans (cA.of nG),tb:=oZ.same nG,rA:=X7.same nG,nB:=nB3,nx:=nrx,co:=j9.same nG,j:=(by rw[el];exact j0),fx:=nx,fd:=nDH,c3:=j9,bt:=(λc u e _ _ _=>nG _ _ e),sub:=.refl _,n3:=⟨nR,sR.free nP,yX.free nT⟩,fR:=fR,fP:=fP,fT:=fT,ne:=⟨nRP,nRT,nPT⟩,rr:=⟨X8,rfl,λi t r e=>(by simp at e)⟩,r5:=(λ_ h=>nomatch h),rl:=Nat.le_refl _,rh:=(λ_ h=>nomatch h),pP:=yY,tT:=X_,n:=(by have:=congrArg List.length el;rw[List.length_map,Iq] at this;simpa using this),all:=λd hd=>.inl (el▸hd),dr:=λy hy=>el▸List.mem_map_of_mem hy,tn:=(λ_ h=>nomatch h),r0:=Int.le_refl _,r1:=by have:=pk.n2;lia }
   generalize aol:ls=wZ at *
   refine aef λBd hBd=>?_;refine⟨λm σ H'=>∃(B:Addr) (r b:Int) (ls:List (Dr×Addr)) (st:Lt) (tk:List (Int×Int)) (ts:List Addr) (rows:List (List Int)) (u9 Yb MF MG:Option V),m=ls.length/\σ = [some (V.ref p),some (V.ref la),some (V.ref ru),some (V.int 0),some (V.int 0),some (V.ref x),some (V.ref R),some (V.ref Pk),some (V.ref Tk),u9,Yb,MF,MG]/\S4 K ⟨A.eo,A.eu,A.eB,A.eE,A.bQ,A.bV⟩ A.bN A.a_ A.bK (iY.of ⟨(A.aQ,cC eS,cB "nearest_of"),(A.aX,cC fU,cB "soonest_of"),(A.aY,cC fV,cB "latest_of")⟩ o) o P' qs J H H3 H' wZ ru dx B x dc kp p Dx R Pk Tk ks (jI qs qs.length) r b ls st tk ts rows,⟨_,_,_,_,wZ,_,_,_,_,none,none,none,none,rfl,rfl,I0⟩,?_⟩;clear I0 X8 yY X_ sT nG MD ME yX ED sP sR j9 X7 yW uT oZ;rintro m σ H6 ⟨B2,r2,b2,dD,fX,cU,oA,yZ,u9,Yb,MF,MG,rfl,rfl,I⟩;have MH:=I.co.o;unfold e8 at MH;wp_walk using T,MH;refine⟨_,.inr (.inr ⟨_,I.co.d,rfl⟩),cN (λh0=>?_) λh0=>?_⟩
   ·have hl:1<=dD.length:=by
     cases dD with
     | nil=>simp[c9] at h0
     | cons y l=>simp
    have kn:=aeP rd;refine⟨_,λ_ _ h=>h,hBd _ _ _ ?_⟩;wp_walk using T,MH;refine⟨x,dc,kp,ks,_,p,r2,b2,Dx,dD,rfl,I.co,hl,λns h=>by rw[kn ns h];simp,λb3 D H7 Yc qt MI nD hD=>?_⟩
    rw[aeQ kn] at hD;have kQ:=I.rA.jq I.co qt I.nx I.nB;have kx7:=I.kx.jq qt I.fx I.fd;have MJ:=I.kt.jq qt I.fx I.fd;have kR:=I.tb.jq I.co qt;have Yd:=MI.o;unfold e8 at Yd;have bX:1<=((dD.filter λy=>decide (y.1.q.at_<=b3)).map (·.1)).length:=by
     obtain⟨M,⟨y,hy,e⟩,_,e2⟩:=Yc;have:y∈dD.filter λy=>decide (y.1.q.at_<=b3):=List.mem_filter.mpr ⟨hy,decide_eq_true (by rw[e,e2];split <;> lia)⟩
     rw[List.length_map];exact List.length_pos_of_mem this
    have hd2:((dD.filter λy=>decide (y.1.q.at_<=b3)).map (·.1)).length<=100:=by
     have:=List.length_filter_le (λy:Dr×Addr=>decide (y.1.q.at_<=b3)) dD;have:=I.co.n;rw[List.length_map];lia
    have oq:∀y∈dD,ur P' y.1.q/\y.1.c=b_ P'.nc y.1.q.first y.1.q.many:=λy hy=>by
     obtain⟨a,b⟩:=rD _ _ _ _ (I.dr y hy);exact⟨rd _ a,b⟩
    have Ye:∀d∈(dD.filter λy=>decide (y.1.q.at_<=b3)).map (·.1),1<=d.c.length:=λd hd=>by
     obtain⟨y,hy,rfl⟩:=List.mem_map.mp hd;obtain⟨a,b⟩:=oq y (List.mem_filter.mp hy).1;have:=a.m0;rw[b,a.cn];lia
    wp_walk using T,Yd;refine⟨λσ H8=>∃(d:Dr) (bJ:Lt) (B':Addr),σ = [some (V.ref p),some (V.ref la),some (V.ref ru),some (V.int 0),some (V.int 0),some (V.ref x),some (V.ref R),some (V.ref Pk),some (V.ref Tk),some (V.ref D),some (V.int d.n),MF,MG]/\bU ru (iY.of ⟨(A.aQ,cC eS,cB "nearest_of"),(A.aX,cC fU,cB "soonest_of"),(A.aY,cC fV,cB "latest_of")⟩ o).1 H7 H8/\cA H7 H8/\gF (iY.of ⟨(A.aQ,cC eS,cB "nearest_of"),(A.aX,cC fU,cB "soonest_of"),(A.aY,cC fV,cB "latest_of")⟩ o) H8/\cX K ⟨A.eo,A.eu,A.eB,A.eE,A.bQ,A.bV⟩ o bJ H8 ru dx B'/\B'≠Dx/\AN o fX P' r2 b3 ((dD.filter λy=>decide (y.1.q.at_<=b3)).map (·.1)) d bJ,?_,?_⟩;have Yg:∀d∈(dD.filter λy=>decide (y.1.q.at_<=b3)).map (·.1),1<=d.c.length/\h_ P' d.c:=λd hd=>by
     refine⟨Ye d hd,?_⟩;obtain⟨y,hy,rfl⟩:=List.mem_map.mp hd;obtain⟨a,b⟩:=oq y (List.mem_filter.mp hy).1;rw[b];exact a.c
    ·cases o with
     | first=>exact⟨A.eo,dx,[],kQ,rfl,_,.head _,ru,p,r2,b3,D,_,_,rfl,hD,bX,hd2,λd H8 s8 best=>⟨d,fX,B2,rfl,bU.of (SameBut.of s8),cA.of s8,kR.same s8,s8 _ _ kQ,I.nB,best,rfl⟩⟩
     | near=>exact⟨A.eu,dx,[],kQ,rfl,_,.tail _ (.head _),ru,C,p,P',fp,r2,b3,D,_,_,rfl,hC,hP.kt MJ,pk,I.r0,I.r1,hD,bX,hd2,Yg,kR,λd H8 mj j_ best=>⟨d,fX,B2,rfl,bU.tb mj,kR.jM mj,j_,mj _ _ kQ (kR.ne kQ (λ_ z=>nomatch z)),I.nB,best,rfl⟩⟩
     | iE=>exact⟨A.eB,dx,[],kQ,rfl,_,.tail _ (.tail _ (.head _)),ru,C,p,P',fp,r2,b3,D,_,_,rfl,hC,hP.kt MJ,pk,I.r0,I.r1,hD,bX,hd2,Yg,kR,λd H8 mj j_ best=>⟨d,fX,B2,rfl,bU.tb mj,kR.jM mj,j_,mj _ _ kQ (kR.ne kQ (λ_ z=>nomatch z)),I.nB,best,rfl⟩⟩
     | iF=>exact⟨A.eE,dx,[],kQ,rfl,_,.tail _ (.tail _ (.tail _ (.head _))),ru,p,r2,b3,D,_,_,rfl,hD,bX,hd2,kR,λd H8 mj j_ best=>⟨d,fX,B2,rfl,bU.tb mj,kR.jM mj,j_,mj _ _ kQ (kR.ne kQ (λ_ z=>nomatch z)),I.nB,best,rfl⟩⟩
     | li sw =>
      obtain⟨C',hk,hK,lt⟩:=kQ;refine⟨C',dx,_,lt.o,by simp[jm,List.lookup_cons,gi],S3 K A.a_ A.bK A.bQ A.bV A.aQ (cC eS) (cB "nearest_of"),?_,C',ru,dx,B2,sw,fX,p,r2,b3,D,_,_,P',rfl,hk,hK,lt,hD,bX,hd2,Ye,kR,λd B' H8 bB EE j_ lt8 best=>⟨d,_,B',rfl,EE,lt.aeZ (let ⟨ps,e,_⟩:=kR;⟨ps,e⟩) EE,j_,⟨C',hk,hK,lt8⟩,nBD I.nB MI bB,rfl,best⟩⟩
      rcases id hk with⟨e,_⟩ | ⟨e,_⟩ <;> rw[e]
      ·exact .tail _ (.tail _ (.tail _ (.tail _ (.head _))))
      ·exact .tail _ (.tail _ (.tail _ (.tail _ (.tail _ (.head _)))))
    ·rintro σ H8 ⟨d,bJ,B',rfl,EE,su,j_,hr8,Yh,Yi⟩;have EF:=MI.kt su;have sy:=su.lst (I.co.lst qt I.pP) jL.ints;have EG:=su.lst (I.co.lst qt I.tT) (aeM _ _);have MK:=I.co.zt qt I.rr;have ML:Zt H8 R oA yZ:=⟨su.lst MK.l,MK.n,λi t r e1 e2=>su.tup (MK.t i t r e1 e2)⟩;obtain⟨Yj,Yk,Yl⟩:=I.ne;have bt8:=(I.bt.jq qt).kt su;obtain⟨y,hyf,ey⟩:=List.mem_map.mp Yi.mem;have hy:=(List.mem_filter.mp hyf).1;subst ey;have uU:=EF.o;have Ym:x≠Pk:=λz=>by rw[z,sy] at uU;cases uU
     have nxT:x≠Tk:=λz=>by rw[z,EG] at uU;cases uU
     have nDP:Dx≠Pk:=λz=>by have:=EF.d;rw[z,sy] at this;cases this
     have nDT:Dx≠Tk:=λz=>by have:=EF.d;rw[z,EG] at this;cases this
     obtain⟨yn0,Yn⟩:=mZ _ _ _ _ (I.dr y hy);simp only[Nat.zero_add] at Yn;walk_at "rdt";refine⟨⟨_,aE.of sy⟩,_,sy,by rw[List.length_map,List.length_map];have:=I.n;lia,?_⟩
     have Yo:upd H8 Pk (.lst (((cU.map (·.1)).map V.int)++[V.int y.1.n])) x=some (.ins A.bN dc (e8 kp p r2 b3 Dx)):=by rw[aI Ym];exact uU
     have MM:upd H8 Pk (.lst (((cU.map (·.1)).map V.int)++[V.int y.1.n])) Tk=some (.lst (cH qs.length cU)):=by rw[aI (Ne.symm Yl)];exact EG
     unfold e8 at Yo;refine⟨_,_,_,Yo,T.oU,T.yE,V.int b3,by simp[List.lookup_cons,gi],_,MM,y.1.n.toNat,by rw[rC];unfold jD;rw[if_pos (by lia),if_pos (by lia)],?_⟩
     rw[← aeL qs.length cU (y.1.n,b3)];have Yp:Zt (upd (upd H8 Pk (.lst (((cU.map (·.1)).map V.int)++[V.int y.1.n]))) Tk (.lst (cH qs.length (cU++[(y.1.n,b3)])))) R oA yZ:=⟨by rw[aI Yk,aI Yj];exact ML.l,ML.n,λi t r e1 e2=>by
      have:=ML.t i t r e1 e2;rw[aI (λz=>by rw[z,EG] at this;cases this),aI (λz=>by rw[z,sy] at this;cases this)];exact this⟩
     have Yq:upd (upd H8 Pk (.lst (((cU.map (·.1)).map V.int)++[V.int y.1.n]))) Tk (.lst (cH qs.length (cU++[(y.1.n,b3)]))) x=some (.ins A.bN dc (e8 kp p r2 b3 Dx)):=by rw[aI nxT,aI Ym];exact uU
     have aht:upd (upd H8 Pk (.lst (((cU.map (·.1)).map V.int)++[V.int y.1.n]))) Tk (.lst (cH qs.length (cU++[(y.1.n,b3)]))) Dx=some (.dK (c9 dD)):=by rw[aI nDT,aI nDP];exact EF.d
     have ahu:upd (upd H8 Pk (.lst (((cU.map (·.1)).map V.int)++[V.int y.1.n]))) Tk (.lst (cH qs.length (cU++[(y.1.n,b3)]))) Pk=some (.lst (((cU++[(y.1.n,b3)]).map (·.1)).map V.int)):=by rw[aI Yl,aH];simp
     have ahv:upd (upd H8 Pk (.lst (((cU.map (·.1)).map V.int)++[V.int y.1.n]))) Tk (.lst (cH qs.length (cU++[(y.1.n,b3)]))) Tk=some (.lst (cH qs.length (cU++[(y.1.n,b3)]))):=aH;have MN:kF x Dx H3 (upd (upd H8 Pk (.lst (((cU.map (·.1)).map V.int)++[V.int y.1.n]))) Tk (.lst (cH qs.length (cU++[(y.1.n,b3)])))):=(bt8.put I.n3.2.1).put I.n3.2.2;have ahw:bU ru (iY.of ⟨(A.aQ,cC eS,cB "nearest_of"),(A.aX,cC fU,cB "soonest_of"),(A.aY,cC fV,cB "latest_of")⟩ o).1 H (upd (upd H8 Pk (.lst (((cU.map (·.1)).map V.int)++[V.int y.1.n]))) Tk (.lst (cH qs.length (cU++[(y.1.n,b3)])))):=((kx7.trans EE).put I.fP).put I.fT;have Yr:cA H (upd (upd H8 Pk (.lst (((cU.map (·.1)).map V.int)++[V.int y.1.n]))) Tk (.lst (cH qs.length (cU++[(y.1.n,b3)])))):=((MJ.trans su).Iw I.fP).Iw I.fT;have ahx:gF (iY.of ⟨(A.aQ,cC eS,cB "nearest_of"),(A.aX,cC fU,cB "soonest_of"),(A.aY,cC fV,cB "latest_of")⟩ o) (upd (upd H8 Pk (.lst (((cU.map (·.1)).map V.int)++[V.int y.1.n]))) Tk (.lst (cH qs.length (cU++[(y.1.n,b3)])))):=(j_.jc sy).jc MM;have ahy:cX K ⟨A.eo,A.eu,A.eB,A.eE,A.bQ,A.bV⟩ o bJ (upd (upd H8 Pk (.lst (((cU.map (·.1)).map V.int)++[V.int y.1.n]))) Tk (.lst (cH qs.length (cU++[(y.1.n,b3)])))) ru dx B':=(hr8.jc sy).jc MM;generalize upd (upd H8 Pk (.lst (((cU.map (·.1)).map V.int)++[V.int y.1.n]))) Tk (.lst (cH qs.length (cU++[(y.1.n,b3)])))=Ys at *
     have uV:=I.c3.SW MN I.sub Yq aht;obtain⟨ya,yb⟩:=oq y hy;have ycn:y.1.c.length=y.1.q.many.toNat:=by rw[yb];exact ya.cn
     have ym0:=ya.m0;have ym1:=ya.m1;have MO:h_ P' y.1.c:=by rw[yb];exact ya.c
     have Yt:=Yq;unfold e8 at Yt;refine⟨⟨_,aE.of Yp.l⟩,_,_,Yt,by simp[List.lookup_cons,gi],C,x,dc,kp,ks,_,p,P',fp,r2,b3,Dx,dD,y,rfl,uV,hy,hC,hP.kt Yr,pk,I.r0,I.r1,MO,by lia,by lia,λl tw H11 o7 nl EH MP=>?_⟩
     have uW:=uV.zt o7 Yp;have wl:=wm P' y.1.c (r2,b3);have irn:=I.rr.n;have irl:=I.rl;have Yu:=I.n;have izn:=MP.n;rw[List.length_map] at izn;have fl:=aeO I.co.up hy;have MQ:(dD.filter λz=>decide (z.1.n≠y.1.n)).Sublist dD:=List.filter_sublist;have nxR:x≠R:=λz=>by have:=EH.o;rw[z,uW.l] at this;cases this
     have nDR:Dx≠R:=λz=>by have:=EH.d;rw[z,uW.l] at this;cases this
     refine⟨l,rfl,_,uW.l,_,MP.l,by rw[List.length_map,List.length_map];lia,_,?_,B',(cE P' (r2,b3) y.1.c).1,(cE P' (r2,b3) y.1.c).2,dD.filter (λz=>decide (z.1.n≠y.1.n)),rfl,bJ,cU++[(y.1.n,b3)],oA++tw,yZ++(gU P' (r2,b3) y.1.c).map (λrow=>y.1.n::row),?_⟩
     ·lia
     have sd:wW (dD.map (·.1)) b2 b3:=by
      obtain⟨M,⟨z,hz,e⟩,hm,e2⟩:=Yc;exact⟨M,⟨z.1,List.mem_map_of_mem hz,e⟩,λd hd=>by obtain⟨z,hz,rfl⟩:=List.mem_map.mp hd;exact hm z hz,e2⟩
     have jj:=al.go (dD.map (·.1)) r2 b2 fX cU b3 y.1 bJ I.j (λz=>by have:=congrArg List.length z;rw[List.length_map] at this;simp at this;rw[this] at hy;cases hy) sd (by rw[List.filter_map];exact Yi)
     rw[List.filter_map] at jj;have Yv:=Hw P' (n:=P'.rc.length) y.1.c (r2,b3) I.r0 I.r1 λq hq=>⟨(MO q hq).1,(MO q hq).2.1⟩;exact {
      kx:=(ahw.jq o7 I.fx I.fd).put I.fR,kt:=(Yr.jq o7 I.fx I.fd).Iw I.fR,tb:=(ahx.jq uV o7).jc uW.l,rA:=(ahy.jq uV o7 I.nx Yh).jc uW.l,nB:=Yh,nx:=I.nx,co:=I.c3.SW ((MN.jq o7).put I.n3.1) (MQ.trans I.sub) (by rw[aI nxR];exact EH.o) (by rw[aI nDR];exact EH.d),j:=jj,fx:=I.fx,fd:=I.fd,c3:=I.c3,bt:=(MN.jq o7).put I.n3.1,sub:=MQ.trans I.sub,n3:=I.n3,fR:=I.fR,fP:=I.fP,fT:=I.fT,ne:=I.ne,rr:=uW.cat MP,
      r5:=(λw hw=>by
       rcases List.mem_append.mp hw with hw | hw
       ·exact I.r5 w hw
       ·obtain⟨row,hr,rfl⟩:=List.mem_map.mp hw;rw[List.length_cons,Hv P' y.1.c (r2,b3) row hr]),
      rl:=(by rw[List.length_append,List.length_append,List.length_map,wl,List.length_singleton];lia),
      rh:=(λq hq=>by
       rcases List.mem_append.mp hq with hq | hq
       ·obtain⟨w,hw,e⟩:=I.rh q hq;exact⟨w,List.mem_append_left _ hw,e⟩
       ·rw[List.mem_singleton.mp hq];obtain⟨row,hr⟩:=List.exists_mem_of_length_pos (l:=gU P' (r2,b3) y.1.c) (by lia)
        exact⟨_,List.mem_append_right _ (List.mem_map_of_mem hr),rfl⟩),
      pP:=(by rw[aI (Ne.symm Yj)];exact uV.lst o7 ahu),tT:=(by rw[aI (Ne.symm Yk)];exact uV.lst o7 ahv),
      n:=(by rw[List.length_append,List.length_singleton];lia),
      all:=(λd hd=>by
       rcases I.all d hd with h | ⟨q',jC,e⟩
       ·by_cases e:d.n=y.1.n
        ·exact .inr ⟨(y.1.n,b3),List.mem_append_right _ (List.mem_singleton_self _),e.symm⟩
        ·obtain⟨z,hz,rfl⟩:=List.mem_map.mp h;exact .inl (List.mem_map_of_mem (List.mem_filter.mpr ⟨hz,decide_eq_true e⟩))
       ·exact .inr ⟨q',List.mem_append_left _ jC,e⟩),
      dr:=(λz hz=>I.dr z (MQ.subset hz)),
      tn:=(λq hq=>by
       rcases List.mem_append.mp hq with hq | hq
       ·exact I.tn q hq
       ·rw[List.mem_singleton.mp hq];exact⟨by simpa using yn0,Yn⟩),
      r0:=Yv.1,r1:=Yv.2 }
   ·have hl:dD = []:=by
     cases dD with
     | nil=>rfl
     | cons y l=>simp[c9] at h0
    subst hl;have Yu:=I.n;have irl:=I.rl;simp only[List.length_nil,Nat.add_zero] at Yu;refine⟨R,oA,yZ,rfl,I.rr,by lia,I.r5,λEd kvs H7 s7 nE hE hv=>?_⟩
    have fin:∀v5,SV K A.a_ [V.ref la,V.ref Ed,V.int 0] H7 (λx H1=>SR K A.a_ [V.ref la,V.ref Pk] H1 (λx_5 H1=>∀(uX dx:Addr),H1 uX=none->H1 dx=none->dx≠uX->SQ A.eT [V.ref uX,V.ref R,V.ref Tk,x,x_5,v5] (upd (upd H1 dx (HO.own uX)) uX (HO.ins A.eT dx [])) (λv H2=>v=V.aV/\Q (V.ref uX) H2) E0) E0) E0:=by
     intro v5;have uY:=(ha.kt I.kt).same s7;refine⟨la,ps,qs,Ed,kvs,0,rfl,uY,on,λq hq=>⟨(rd q hq).k,(rd q hq).e⟩,hE,λn n0 n1=>?_,λl H8 s8=>?_⟩
     ·obtain⟨d,hd,e⟩:=wX P'.nc qs 0 n.toNat (by lia)
      rcases I.all d hd with h | ⟨q',jC,e2⟩
      ·cases h
      ·refine hv n ?_;obtain⟨w',hw,e3⟩:=I.rh q' jC;exact⟨w',hw,by rw[e3,e2,e];congr 1;lia⟩
     ·refine⟨la,ps,qs,Pk,cU.map (·.1),rfl,uY.same s8,on,λq hq=>⟨(rd q hq).k,(rd q hq).f0,(rd q hq).f1,by have:=(rd q hq).m0;lia,(rd q hq).m1⟩,s8 _ _ (s7 _ _ I.pP),by rw[List.length_map];lia,λn hn=>?_,λl2 H9 s9 xx dd nxx ndd nnd=>⟨xx,dd,_,_,_,_,_,rfl,aH,rfl,?_⟩⟩
      ·obtain⟨q',jC,rfl⟩:=List.mem_map.mp hn;exact I.tn q' jC
      ·have sa:aj H6 H9:=(s7.trans s8).trans s9;have sb:∀u,aj H9 (upd (upd (upd H9 dd (.own xx)) xx (.ins A.eT dd [])) xx u):=λu c o e=>by
        have n1:c≠xx:=λz=>by rw[z,nxx] at e;cases e
        have n2:c≠dd:=λz=>by rw[z,ndd] at e;cases e
        rw[aI n1,aI n1,aI n2];exact e
       have sc:=λu=>sa.trans (sb u);exact q xx dd _ Tk _ _ _ r2 b2 fX cU dx B2 _ (I.kx.same (sc _)) (I.tb.same (sc _)) I.j (I.rA.same (sc _)) aH (sc _ _ _ I.tT)
    refine⟨_,.inl ⟨_,aE.of (s7 _ _ I.rr.l),rfl⟩,cN (λh1=>?_) λh1=>fin _⟩;have dY:yZ≠[]:=λz=>by
     have:=I.rr.n;rw[z] at this;have:oA = []:=List.length_eq_zero_iff.mp this;rw[this] at h1;simp at h1
    have hz:=I.rr.same s7;have hw5:=I.r5 _ (List.getLast_mem dY);obtain⟨g1,g2,g3,g4,g5,eg⟩:=SO hw5;rw[← List.dropLast_concat_getLast dY,eg] at hz;obtain⟨uh,t,rfl,ht⟩:=hz.last;exact⟨_,aE.of (s7 _ _ I.rr.l),_,by rw[List.map_append];exact Qu _ _,t,rfl,_,bD.of ht,_,gA (j:=4) rfl,fin _⟩
theorem ahz(T:Tx K mg A)(aA:au mg base A.bg A.aQ)(aB:au mg base A.bq A.aX)(aC:au mg base A.br A.aY):aZ P w K mg base bu 11 A.DF A.DG ["_law_plate", "_law_word", "_law_most", "_law_found", "_law_cells"] (afp K A.bx A.a_ ⟨(A.aQ,cC eS,cB "nearest_of"),(A.aX,cC fU,cB "soonest_of"),(A.aY,cC fV,cB "latest_of")⟩):=by
 refine T.LK.ok uA (λvs H Q E h=>?_) (λaU Ar outer s H vs Q E hr h=>?_)
 ·obtain⟨p,f,cl,l,w',most,n,P',fp,ps,ns,rfl,_⟩:=h
  rfl
 ·obtain⟨p,f,cl,l,w',most,n,P',fp,ps,ns,rfl,hP,bo,EI,l1,l2,xg,hf,ha,hw,hS,XZ,tb,lJ,q⟩:=h;have lZ:=hr.lg;have hu:=jF hr;have m2:=bo.m2;have m1:=bo.m1;have lb:=AW (n:=n) m2;refine⟨_,(aF (d9 (cF (PW.pt (fE (eO uw (bY fK rfl T.dg boot_len (ah (aa 3) aq)) aD (bA _)) (gc (cD qJ (bM iH (aa 3) aD (λ_ _=>rfl)) (bM qO (fF (ah (aR lV (aa 2) aD) (ah aD aq))) (vP adI rfl T.yL boot_int (ah (iN eX (aa 1) cQ (bA _)) aq)) (λ_ _=>rfl)) (bA _))))) (aL (bw i8)) bT))
   (aF (d9 (cF (PW.pt (fE (jR (iJ (aW (Mh T aA aB aC) (hr.mono (by decide)) rfl T.D7 T.yy.kp T.D6 .nil aM (ah (bM iH (aa 3) aD (λ_ _=>rfl)) (ah aD (ah (aa 2) aq)))))) (gc (iJ (bY (Ah rfl) rfl T.rT boot_any (ah (gJ (N:=["_law_ask"]) (nt:=1) (fv:=[]) (cW.of rfl rfl (by rfl) (by rfl) (by repeat (first | exact trivial | refine⟨rfl,?_⟩)) (by rfl) (by rfl) (by rfl) (by decide) (by decide +kernel)) rfl (e9 (bM iH (aa 3) aD (λ_ _=>rfl))) (λC s H fp=>(bI (i:=0) (show List.Nodup (["_law_ask"]:List Str) by decide +kernel) rfl (Or.inl rfl))) (λC s H fp=>jg) (λC s H fp=>(iN k_ (lW (K:=K) rfl (aa 0) rfl) aD (bA _)))) aq)))))) (aL (bw i8)) bT))
   (aF (d9 (bF (i:=5) uA.nd rfl (Or.inl rfl) (dI (aW (MC T aA aB aC) (hr.mono (by decide)) rfl T.DZ T.yw.kp T.DY (show Vals [.int 0,.int 0] [.int 0 A.xY,.int 0 A.xZ] from(.cons ⟨_,rfl⟩ (.cons ⟨_,rfl⟩ .nil))) aM (ah (aa 0) (ah (bM iH (aa 3) aD (λ_ _=>rfl)) (ah (aW (Mv T aA aB aC) (hr.mono (by decide)) rfl T.D3 T.yx.kp T.D0 .nil aM (ah (aa 1) aq)) aq)))) rfl)))
   (aF (d9 (cF (PW.pt (fE (eO uw (bY fK rfl T.dg boot_len (ah (aa 5) aq)) (bY tE rfl T.dg boot_len (ah (bM iH (aa 3) aD (λ_ _=>rfl)) aq)) (bA _)) (gc (cD qJ (bM qO (aW (Xu T aA aB aC) (hr.mono (by decide)) rfl T.LG T.D4.kp T.LF .nil aM (ah (aa 5) aq)) aD (λ_ _=>rfl)) (bM iH (aa 3) aD (λ_ _=>rfl)) (bA _))))) (aL (bw i8)) bT))
   (aF (d9 (bF (i:=6) uA.nd rfl (Or.inl rfl) (aW (ahm T aA aB aC) (hr.mono (by decide)) rfl T.Wu T.LJ.kp T.Ws .nil aM (ah (aa 0) (ah (aa 4) aq)))))
   (aF (d9 (bF (i:=5) uA.nd rfl (Or.inl rfl) (dI (aW (MC T aA aB aC) (hr.mono (by decide)) rfl T.DZ T.yw.kp T.DY (show Vals [.int 0,.int 0] [.int 0 A.xY,.int 0 A.xZ] from(.cons ⟨_,rfl⟩ (.cons ⟨_,rfl⟩ .nil))) aM (ah (aa 0) (ah (aa 6) (ah (aW (Mv T aA aB aC) (hr.mono (by decide)) rfl T.D3 T.yx.kp T.D0 .nil aM (ah (aa 1) aq)) aq)))) rfl)))
   (aF (d9 (bF (i:=7) uA.nd rfl (Or.inr rfl) (aW (Xv T aA aB aC) (hr.mono (by decide)) rfl T.LI T.D5.kp T.LH .nil aM (ah (aa 6) (ah (aa 5) aq)))))
   (aF (d9 (pU (cF (cD eX (aa 1) cQ (bA _)) (aL (bF (i:=7) uA.nd rfl (Or.inr rfl) aD)) bT)))
   (aL (bw (sQ (iN eX (bY fK rfl T.dg boot_len (ah (aa 5) aq)) (bY fK rfl T.dg boot_len (ah (aa 6) aq)) (bA _)) (sO (bY (RI rfl) rfl T.yK boot_all (ah (gJ (N:=["_law_many", "_law_waiting_here"]) (nt:=1) (fv:=[7]) (cW.of rfl rfl (by rfl) (by rfl) (by repeat (first | exact trivial | refine⟨rfl,?_⟩)) (by rfl) (by rfl) (by rfl) (by decide) (by decide +kernel)) rfl (e9 (aW (Xu T aA aB aC) (hr.mono (by decide)) rfl T.LG T.D4.kp T.LF .nil aM (ah (aa 5) aq))) (λC s H fp=>(bI (i:=0) (show List.Nodup (["_law_many", "_law_waiting_here"]:List Str) by decide +kernel) rfl (Or.inl rfl))) (λC s H fp=>jg) (λC s H fp=>(iN gv (aa 0) (aa 1) (bA _)))) aq)))))))))))))),?_⟩
  refine dN λN1 k1=>?_;walk_at "rdt";refine⟨_,.inr (bD.of hf),ite_no (by simp) ⟨_,bD.of hf,_,rfl,λp0 np0=>?_⟩⟩
  have s0:=aj.put (o:=.lst [V.int (most - 1),V.int 0]) np0;refine⟨_,aE.of aH,.int (if w' = "first" then 0 else most - 1),by split <;> rfl,rfl,ite_no (by simp) (k1 _ _ ?_)⟩
  generalize upd H p0 (.lst [V.int (most - 1),V.int 0])=H1 at s0 ⊢;have MR:=s0 _ _ hf;have i6:=ha.same s0;refine dN λN2 k2=>?_;walk_at "rdt";refine⟨_,bD.of MR,_,rfl,l,ps,_,1,most,rfl,i6,by lia,by lia,by lia,λq hq=>?_,λH2 s2=>⟨true,rfl,ite_no (by simp) ?_⟩⟩
  ·rcases rG hq with rfl | rfl <;> exact⟨rfl,rfl⟩
  have Yw:=s2 _ _ MR;have jw:=i6.same s2;have an:=ha.n;refine iU l (ps.map V.ref) (λD i ys az H3=>∃(u:Option V),ys=(List.replicate i false).map V.bl/\i<=ps.length/\az = [u]/\H3 D=some (.lst ys)/\aj H2 H3/\H2 D=none) (λQ q=>?_) (aE.of jw.l) ?_ ?_ ?_ ?_
  ·walk_at "rdm";exact⟨_,bD.of Yw,_,rfl,q⟩
  ·intro D nD;exact⟨none,rfl,Nat.zero_le _,rfl,aH,aj.put nD,nD⟩
  ·rintro D i ys az H3 ⟨u,rfl,hi,rfl,e1,e2,e3⟩;exact⟨e1,gB (by rw[List.length_map,List.length_replicate];lia),aE.of (e2 _ _ jw.l)⟩
  ·rintro D i y ys az H3 N hN hy ⟨u,rfl,hi,rfl,e1,e2,e3⟩;have gC:i<ps.length:=by have:=dM hy;simpa using this
   have hk:i<(gj n most).length:=by lia
   obtain⟨ap,mm,bb,dd,g1,y1⟩:=(jw.same e2).at (List.getElem?_eq_getElem hk);rw[g1] at hy;cases hy;have z0:(gj n most)[i].at_=0:=by rcases rG (List.getElem_mem hk) with e | e <;> rw[e] <;> rfl
   have o1:=y1.o;unfold fZ at o1;rw[z0] at o1;wp_walk using T,o1;refine⟨e1,hN _ _ _ ⟨_,?_,by lia,rfl,aH,aj.put2 e2 e3,e3⟩⟩
   rw[List.replicate_succ',List.map_append];rfl
  rintro D ys az H3 ⟨u,rfl,hi,rfl,e1,s3,e3⟩;refine⟨D,rfl,_,aE.of e1,ite_no (by simp) (k2 _ _ ?_)⟩
  have uZ:=(s0.trans s2).trans s3;have MS:=uZ _ _ hf;have uR:=ha.same uZ;have sf:=hP.same uZ;have Yx:=uZ.seq hS;have oZ:=tb.same uZ;clear e1 e3 s0 s2 s3 uZ hf MR Yw ha i6 jw hP hS tb hi;obtain⟨J,j0,al,je⟩:=bo.IJ hw;refine dN λN3 k3=>?_;walk_at "rdt";refine⟨_,bD.of MS,_,rfl,w',rfl,λru dx B H4 s4 EJ u4=>?_⟩;have u6:=oZ.same s4;refine⟨A.bx,p,l,ru,dx,B,P',fp,ps,_,d_ w',_,J,rfl,by simp,sf.same s4,bo.ok,bo.nM,uR.same s4,bo.kI,bo.rd,u4,u6.of _,j0,al,λx cZ w1 ta w3 w4 w5 r b bJ tk p9 B' H5 kx Yy j rA hx cT=>?_⟩
  obtain⟨b0,bs,et,elb,ec⟩:=je _ _ _ _ j;rw[et] at cT;refine⟨x,rfl,_,_,_,hx,T.Eo,T.uL,_,rfl,k3 _ _ ?_⟩;have t0:=u6.of (d_ w');have MT:=u4.tup t0 kx (s4 _ _ MS);have r9:=u4.kI t0 kx (uR.same s4);have yY:=u4.Ip t0 kx (sf.same s4);have y_:=u4.seq t0 kx (s4.seq Yx);have T5:=u6.step lJ.1 lJ.2.1 lJ.2.2 u4 kx Yy;clear t0 u4 kx Yy u6 oZ j rA hx MS uR sf Yx s4 EJ j0 al je et;refine dN λN4 k4=>?_;walk_at "rdt";have an5:=r9.n;obtain⟨r0,Yz⟩:∃r0,iG (b0::bs) (b0::bs).length=((bs.filter λc=>decide (c<b0)).length:Int)::r0:=by
   unfold iG;rw[List.length_cons,List.range_succ_eq_map,List.map_cons];exact⟨_,rfl⟩
  refine⟨_,.inl (aE.of cT),_,bD.of MT,_,rfl,_,rfl,_,.inl (aE.of r9.l),ite_no (by rw[List.length_map,List.length_map,List.length_cons];lia) ⟨ta,b0::bs,rfl,cT,by rw[List.length_cons];lia,λp1 H6 s6 oY fJ=>?_⟩⟩
  rw[Yz] at fJ;refine⟨_,rfl,_,aE.of fJ,_,jG (by decide) (by rw[List.length_cons];lia),_,bD.of (s6 _ _ MT),_,rfl,rfl,ite_no (λh=>h (congrArg V.int ec)) (k4 _ _ ?_)⟩
  have o8:=yY.same s6;have nH:=s6.seq y_;have T6:=T5.same s6;clear Yz fJ s6 oY MT cT yY y_ T5 ec elb r9;refine dN λN5 k5=>?_;walk_at "rdt";refine⟨p,cl,P',fp,ns,rfl,o8,xg,bo.nM,l1,l2,nH,XZ,λl7 YA qs H7 s7 nl7 uY EK=>k5 _ _ ?_⟩;have u7:=o8.same s7;have T7:=T6.same s7;have n7:=EK.n;clear o8 nH T6 s7 nl7;obtain⟨J,j0,al,je⟩:=lU.IJ (EK.rw bo.ok bo.hl EI) hw;refine dN λN6 k6=>?_;walk_at "rdt";refine⟨w',rfl,λru dx B H8 s8 EJ u8=>?_⟩;have j_:=T7.same s8;refine⟨A.bx,p,l7,ru,dx,B,P',fp,YA,_,d_ w',_,J,rfl,by simp,u7.same s8,bo.ok,bo.nM,uY.same s8,EK.kI,EK.rd EI bo.nM,u8,j_.of _,j0,al,λx cZ w1 MU w3 w4 w5 r b bJ tk p9 B' H9 kx tb9 j rA hx cT=>?_⟩
  obtain⟨kU,et,ahA,ew⟩:=je _ _ _ _ j;rw[et] at cT;refine⟨x,rfl,_,_,_,hx,T.Eo,T.uL,_,rfl,k6 _ _ ?_⟩;have EL:=u8.kI (j_.of (d_ w')) kx (uY.same s8);have an9:=EL.n;clear u8 kx tb9 j_ j rA hx s8 EJ j0 al je et u7 T7 uY;refine dN λN7 k7=>?_;walk_at "rdt";refine⟨l7,MU,YA,qs,kU,rfl,EL,cT,ahA,by lia,λW Ys MV hW _ _=>k7 _ _ ?_⟩
  have YB:=ew W hW;have ahB:=EL.same MV;have YC:=MV _ _ cT;clear EL cT MV ew hW;refine dN λN8 k8=>?_;walk_at "rdt";refine⟨λσ Hx=>σ = [some (V.ref p),some (V.str w'),some (V.int most),some (V.ref f),some (V.ref cl),some (V.ref MU),some (V.ref l7),some (V.int (if w' = "first" then 1 else W))]/\Hx=Ys,?_,?_⟩
  ·by_cases e:w' = "first"
   ·rw[if_pos e,if_pos e];exact⟨rfl,rfl⟩
   ·rw[if_neg e,if_neg e];exact⟨rfl,rfl⟩
  rintro _ _ ⟨rfl,rfl⟩;refine k8 _ _ ?_;clear k1 k2 k3 k4 k5 k6 k7 k8;generalize (if w' = "first" then 1 else W)=W2 at YB ⊢
  walk_at "rdt";refine⟨_,.inl (aE.of YC),_,.inl (aE.of ahB.l),?_⟩;rw[if_pos (by rw[List.length_map,List.length_map];lia)]
  refine afn (λl' H'=>H' l' = some (.lst ((iG kU kU.length).map V.int))) (λQ q=>?_) (λl' YD jh=>?_)
  ·walk_at "rdm";exact⟨MU,kU,rfl,YC,by lia,λl' H' _ _ h=>q _ _ h⟩
  have pl:=afo (bs:=kU) (n:=kU.length);refine iU l' ((iG kU kU.length).map V.int) (λD i ys az H3=>∃(u:Option V),ys=(List.replicate i true).map V.bl/\i<=kU.length/\az = [u,some (V.int W2)]/\H3 D=some (.lst ys)/\aj YD H3/\YD D=none) (λQ q=>q) (aE.of jh) ?_ ?_ ?_ ?_
  ·intro D nD;exact⟨none,rfl,Nat.zero_le _,rfl,aH,aj.put nD,nD⟩
  ·rintro D i ys az H3 ⟨u,rfl,hi,rfl,e1,e2,e3⟩;exact⟨e1,gB (by rw[List.length_map,List.length_replicate];lia),aE.of (e2 _ _ jh)⟩
  ·rintro D i y ys az H3 N hN hy ⟨u,rfl,hi,rfl,e1,e2,e3⟩;have gC:i<kU.length:=by have:=dM hy;rw[List.length_map,pl] at this;exact this
   rw[List.getElem?_map] at hy;obtain⟨v,ev,rfl⟩:=Option.map_eq_some_iff.mp hy;have lt:=YB v (List.mem_of_getElem? ev);walk_at "rdt";refine⟨e1,hN _ _ _ ⟨_,?_,by lia,rfl,aH,aj.put2 e2 e3,e3⟩⟩
   rw[List.replicate_succ',List.map_append,decide_eq_true lt];rfl
  rintro D ys az H3 ⟨u,rfl,hi,rfl,e1,s3,e3⟩;refine⟨D,rfl,_,aE.of e1,?_⟩;have al:(List.replicate (List.map V.int (iG kU kU.length)).length true).all id=true:=by
   rw[List.all_eq_true];intro z hz;exact List.eq_of_mem_replicate hz
  rw[al];exact q _
theorem ahC(T:Tx K mg A)(aA:au mg base A.bg A.aQ)(aB:au mg base A.bq A.aX)(aC:au mg base A.br A.aY):aZ P w K mg base bu 11 A.DJ A.DK ["_law_plate", "_law_word", "_law_most", "_law_found", "_law_times"] (afu K A.bx A.a_ ⟨(A.aQ,cC eS,cB "nearest_of"),(A.aX,cC fU,cB "soonest_of"),(A.aY,cC fV,cB "latest_of")⟩):=by
 refine T.LM.ok xB (λvs H Q E h=>?_) (λaU Ar outer s H vs Q E hr h=>?_)
 ·obtain⟨p,t,l1,l2,w',most,times,n1,n,P',fp,p1,p2,rfl,_⟩:=h
  rfl
 ·obtain⟨p,t,l1,l2,w',most,times,n1,n,P',fp,p1,p2,rfl,hP,ev,ht,h1,h2,t1,t2,m2,hw,tb,q⟩:=h;have lZ:=hr.lg;have hu:=jF hr;have a1:=h1.n;have a2:=h2.n;have nn:1<=n:=by
   have:=ev.st.ge;have:=ev.ca;by_cases z:n=0
   ·subst z;simp at *;lia
   ·lia
  have MW:(gY P' n).length=n:=by unfold gY;rw[List.length_map,List.length_range]
  rw[MW] at a2;have aom:1<=P'.aJ:=by
   have b1:=ev.b1;have:=Int.mul_le_mul_of_nonneg_right ev.ca (show 0<=cJ P' by lia)
   rw[Int.one_mul,ev.lp] at this;lia
  refine⟨_,(aF (d9 (cF (PW.pt (fE (eO uw (bY fK rfl T.dg boot_len (ah (aa 3) aq)) aD (bA _)) (fE (jR (iJ (aW (Mh T aA aB aC) (hr.mono (by decide)) rfl T.D7 T.yy.kp T.D6 .nil aM (ah (bM iH (aa 3) aD (λ_ _=>rfl)) (ah aD (ah aD aq)))))) (gc (jR (iJ (aW (Mh T aA aB aC) (hr.mono (by decide)) rfl T.D7 T.yy.kp T.D6 .nil aM (ah (bM iH (aa 3) aD (λ_ _=>rfl)) (ah aD (ah aD aq)))))))))) (aL (bw i8)) bT))
   (aF (d9 (cF (PW.pt (fE (jR (iJ (bY Aa rfl T.rW boot_isinstance (ah (bM iH (aa 3) aD (λ_ _=>rfl)) (ah (zy (v:=.ty "int") rfl T.yL boot_int rfl) aq))))) (fE (iJ (bY Aa rfl T.rW boot_isinstance (ah (bM iH (aa 3) aD (λ_ _=>rfl)) (ah (zy (v:=.ty "bool") rfl T.Ep boot_bool rfl) aq)))) (gc (cD gv (bM iH (aa 3) aD (λ_ _=>rfl)) aD (bA _)))))) (aL (bw i8)) bT))
   (aF (d9 (bF (i:=5) xB.nd rfl (Or.inl rfl) (vP Qy rfl T.rX boot_list (ah (bM iH (aa 3) aD (λ_ _=>rfl)) aq))))
   (aF (d9 (eV PassesOwn.never rfl (sU rfl T.gZ (ah (bY (Gp rfl) rfl T.lY boot_min (ah (aa 4) (ah (aR IK (aR lV aD (bY fK rfl T.dg boot_len (ah (aa 5) aq))) (bY tE rfl T.dg boot_len (ah (bM iH (aa 3) aD (λ_ _=>rfl)) aq))) aq))) aq)) (bI (i:=6) xB.nd rfl (Or.inr rfl))
   (aL (dh (jE PySem.F.plainAttrs_list PySem.F.slot_list_extend PySem.F.type_list_extend zP (aa 5) (ah (gJ (N:=["_law_ask", "_law_turn", "_law_found"]) (nt:=1) (fv:=[6,3]) (cW.of rfl rfl (by rfl) (by rfl) (by repeat (first | exact trivial | refine⟨rfl,?_⟩)) (by rfl) (by rfl) (by rfl) (by decide) (by decide +kernel)) rfl (e9 (bM iH (aa 3) aD (λ_ _=>rfl))) (λC s H fp=>(bI (i:=0) (show List.Nodup (["_law_ask", "_law_turn", "_law_found"]:List Str) by decide +kernel) rfl (Or.inl rfl))) (λC s H fp=>jg) (λC s H fp=>(aW (ahn T aA aB aC) (hr.mono (by decide)) rfl T.Wy T.LL.kp T.Wx .nil aM (ah (aa 0) (ah (aR sV (aa 1) (bM (TL (K:=K) rfl) (aa 2) aD (λ_ _=>rfl))) aq))))) aq))))))
   (aF (d9 (eV PassesOwn.never rfl (pB rfl T.gZ (ah aD (ah (bY fK rfl T.dg boot_len (ah (aa 5) aq)) aq))) (bI (i:=7) xB.nd rfl (Or.inl rfl))
   (aL (cF (cD gv (dI (bM fj (aa 5) (aa 7) (λ_ _=>rfl)) rfl) (dI (bM fj (aa 5) (aR lV (aa 7) aD) (λ_ _=>rfl)) rfl) (bA _)) (aL (bw i8)) bT))))
   (aF (d9 (bF (i:=8) xB.nd rfl (Or.inr rfl) (dI (aW (MC T aA aB aC) (hr.mono (by decide)) rfl T.DZ T.yw.kp T.DY (show Vals [.int 0,.int 0] [.int 0 A.xY,.int 0 A.xZ] from(.cons ⟨_,rfl⟩ (.cons ⟨_,rfl⟩ .nil))) aM (ah (aa 0) (ah (aa 5) (ah (aW (Mv T aA aB aC) (hr.mono (by decide)) rfl T.D3 T.yx.kp T.D0 .nil aM (ah (aa 1) aq)) aq)))) rfl)))
   (aF (d9 (cF (PW.pt (fE (eO uw (bY fK rfl T.dg boot_len (ah (aa 8) aq)) (bY fK rfl T.dg boot_len (ah (aa 5) aq)) (bA _)) (gc (iJ (bY (Ah rfl) rfl T.rT boot_any (ah (gJ (N:=["_law_beat", "_law_taken"]) (nt:=1) (fv:=[8]) (cW.of rfl rfl (by rfl) (by rfl) (by repeat (first | exact trivial | refine⟨rfl,?_⟩)) (by rfl) (by rfl) (by rfl) (by decide) (by decide +kernel)) rfl (e9 (aa 8)) (λC s H fp=>(bI (i:=0) (show List.Nodup (["_law_beat", "_law_taken"]:List Str) by decide +kernel) rfl (Or.inl rfl))) (λC s H fp=>jg) (λC s H fp=>(iN k_ (aa 0) (bM (xm (K:=K) rfl) (aa 1) aD (λ_ _=>rfl)) (bA _)))) aq)))))) (aL (bw i8)) bT))
   (aL (bw (iN sX (aW (Xv T aA aB aC) (hr.mono (by decide)) rfl T.LI T.D5.kp T.LH .nil aM (ah (aa 5) (ah (aa 8) aq))) (aa 2) (bA _))))))))))),?_⟩
  refine dN λN1 k1=>?_;walk_at "rdt";have a60:n<=60:=by have:=ev.st.lt (n - 1) (by lia);have:=ev.cb;lia
  have YE:=afr hw;refine⟨_,.inr (bD.of ht),ite_no (by simp) ⟨_,bD.of ht,_,rfl,l1,p1,_,1,40,rfl,h1,by simp,by simp,by decide,λq hq=>?_,λHa sa=>⟨true,rfl,ite_no (by simp) ⟨_,bD.of (sa _ _ ht),_,rfl,l2,p2,_,1,60,rfl,h2.same sa,by lia,by lia,by lia,afa,λHb sb=>⟨true,rfl,ite_no (by simp) (k1 _ _ ?_)⟩⟩⟩⟩⟩
  ·simp at hq;rw[hq];exact⟨rfl,rfl⟩
  have u_:=sa.trans sb
  replace ht:=u_ _ _ ht
  replace h1:=h1.same u_
  replace h2:=h2.same u_
  replace hP:=hP.same u_
  replace tb:=tb.same u_
  clear sa sb u_ k1;refine dN λN1 k1=>?_;walk_at "rdt";refine⟨_,bD.of ht,_,rfl,_,g6.int _,true,rfl,ite_no (by simp) ⟨_,bD.of ht,_,rfl,_,g6.int _,false,rfl,ite_no (by simp) ⟨_,bD.of ht,_,rfl,_,rfl,ite_no (by lia) (k1 _ _ ?_)⟩⟩⟩
  clear k1;refine dN λN1 k1=>?_;walk_at "rdt";refine⟨_,bD.of ht,_,rfl,l1,rfl,_,.inl (aE.of h1.l),λL nL=>k1 _ _ ?_⟩;have sL:=aj.put (o:=.lst (p1.map V.ref)) nL;have hL:cj K A.a_ (upd Hb L (.lst (p1.map V.ref))) L p1 (ir P' n1 n 0):=⟨aH,h1.n,λi p' q' e1 e2=>by
   obtain⟨m,b,d,z⟩:=h1.t i p' q' e1 e2;exact⟨m,b,d,z.same sL⟩⟩
  generalize upd Hb L (.lst (p1.map V.ref))=H1 at sL hL ⊢;refine dN λN2 k2=>?_;have rd:∃k:Nat,((if (100 - (p1.length:Int)) / n<times then(100 - (p1.length:Int)) / n else times)=(k:Int))/\(ir P' n1 n k).length<=100:=by
   have d0:0<=(100 - (p1.length:Int)) / n:=Int.ediv_nonneg (by simp at a1;lia) (by lia)
   have dm:=Int.ediv_mul_le (100 - (p1.length:Int)) (show (n:Int)≠0 by lia)
   generalize (100 - (p1.length:Int)) / n=x at d0 dm;refine⟨(if x<times then x else times).toNat,by split <;> lia,?_⟩
   show (rounds P' n _).length+1<=100;rw[AU];have:(((if x<times then x else times).toNat:Nat):Int)*n<=x*n:=Int.mul_le_mul_of_nonneg_right (by split <;> lia) (by lia)
   simp at a1;rw[a1] at dm;have c:((((if x<times then x else times).toNat)*n:Nat):Int)=(((if x<times then x else times).toNat:Nat):Int)*n:=by simp
   lia
  obtain⟨k,ek,YF⟩:=rd;refine Rq k (λτ σ H'=>∃(v6:Option V) (ps:List Addr),σ = [some (V.ref p),some (V.str w'),some (V.int most),some (V.ref t),some (V.int times),some (V.ref L),v6,none,none]/\aj Hb H'/\cj K A.a_ H' L ps (ir P' n1 n τ)) (λQ q=>?_) (by lia) ⟨none,_,rfl,sL,hL⟩ ?_ ?_
  ·walk_at "rdm";refine⟨_,.inl (aE.of hL.l),_,bD.of (sL _ _ ht),_,rfl,l2,rfl,_,.inl (aE.of (sL _ _ h2.l)),by rw[List.length_map];lia,by rw[List.length_map];have:=ev.st.b;lia,?_⟩
   rw[List.length_map,List.length_map,a2,ek];exact q
  ·rintro τ σ H2 N hN hτ ⟨v6,ps,rfl,s2,hl⟩;walk_at "rdm";refine⟨⟨_,aE.of hl.l⟩,?_⟩;have l3:(ir P' n1 n τ).length=τ*n+1:=by show (rounds P' n τ).length+1=_;rw[AU]
   have lk:(ir P' n1 n k).length=k*n+1:=by show (rounds P' n k).length+1=_;rw[AU]
   have nl:=hl.n;have lm:=Nat.mul_le_mul_right n (show τ<=k by lia)
   refine iU l2 (p2.map V.ref) (λD i ys az H3=>∃(u:Option V) (ds:List Addr),ys=ds.map V.ref/\i<=n/\az = [u,some (V.int (τ:Int)),some (V.ref t)]/\cj K A.a_ H3 D ds (((gY P' n).take i).map (p_ · ((τ:Int)*P'.aJ)))/\aj H2 H3/\H2 D=none) (λQ q=>?_) (aE.of (s2 _ _ h2.l)) ?_ ?_ ?_ ?_
   ·walk_at "rdm";exact⟨_,bD.of (s2 _ _ ht),_,rfl,q⟩
   ·intro D nD;exact⟨none,[],rfl,Nat.zero_le _,rfl,⟨aH,rfl,λi p' q' e1 _=>by cases e1⟩,aj.put nD,nD⟩
   ·rintro D i ys az H3 ⟨u,ds,rfl,hi,rfl,al,e2,e3⟩;have an:=al.n;rw[List.length_map,List.length_take] at an;exact⟨al.l,gB (by rw[List.length_map];lia),aE.of ((s2.trans e2) _ _ h2.l)⟩
   ·rintro D κ y ys az H3 N' yO hy ⟨u,ds,rfl,hi,rfl,vc,s3,e3⟩;obtain⟨a,YG,rfl⟩:=fG hy;have MX:κ<n:=by have:=dM YG;lia
    obtain⟨m,b,d,ha⟩:=h2.t κ a (kH P' κ) YG (by unfold gY;rw[List.getElem?_map,List.getElem?_range MX];rfl)
    obtain⟨c,e1,e2,e3',e4⟩:=ev.chunk MX;have cb:=ev.cb;have l9:=ev.l9;have b1:=ev.b1;have lp:=ev.lp;have bl:cJ P'<=P'.aJ:=by
     have:=Int.mul_le_mul_of_nonneg_right ev.ca (show 0<=cJ P' by lia)
     rw[Int.one_mul,lp] at this;exact this
    have YH:0<=P'.aJ:=by lia
    have Ho:=Int.mul_le_mul (show (κ:Int)*16<=60 by lia) (show cJ P'<=1000000000 by lia) (show 0<=cJ P' by lia) (by decide)
    have Mw:=Int.mul_nonneg (show 0<=(κ:Int)*16 by lia) (show 0<=cJ P' by lia)
    have aon:k<=100:=by
     have:=Nat.le_mul_of_pos_right k (show 0<n by lia)
     lia
    have ht1:=Int.mul_le_mul (show (τ:Int)<=100 by lia) l9 YH (by decide)
    have ht0:=Int.mul_nonneg (show 0<=(τ:Int) by lia) YH
    walk_at "rdm";have ab:wA ((κ:Int)*16) (min 16 (c0 P' - (κ:Int)*16)) ((κ:Int)*16*cJ P' + (τ:Int)*P'.aJ) 0 (some ((κ:Int)*16*cJ P' + (τ:Int)*P'.aJ)):=⟨by lia,by lia,by lia,by lia,by lia,by lia,by lia,by lia,λy hy=>by cases hy;exact⟨by lia,by lia⟩⟩
    refine⟨_,bD.of ((s2.trans s3) _ _ ht),_,rfl,_,rfl,.inl ⟨by lia,by lia⟩,a,_,kH P' κ,m,b,d,rfl,ha.same (s2.trans s3),ab,λa' m' b' d' H4 s4 na' ha'=>?_⟩
    have l8:=vc.same s4;have tks:=take_succ_get (l:=gY P' n) (i:=κ) (x:=kH P' κ) (by unfold gY;rw[List.getElem?_map,List.getElem?_range MX];rfl)
    refine⟨l8.l,yO _ _ _ ⟨_,ds++[a'],by rw[List.map_append];rfl,by lia,rfl,?_,aj.put2 (s3.trans s4) e3,e3⟩⟩
    rw[tks,List.map_append];exact l8.snoc ha'
   ·rintro D ys az H3 ⟨u,ds,rfl,hi,rfl,vc,s3,e3⟩;rw[List.length_map,a2,List.take_of_length_le (by rw[MW];lia)] at vc
    have nd:=vc.n;rw[List.length_map,MW] at nd;have l8:=hl.same s3;refine⟨D,rfl,_,l8.l,_,vc.l,?_,hN _ _ ⟨_,ps++ds,rfl,aj.put2 (s2.trans s3) nL,l8.app vc⟩⟩;rw[List.length_map,List.length_map];lia
  ·rintro σ H2 ⟨v6,ps,rfl,s2,hl⟩;refine k2 _ _ ?_;refine dN λN3 k3=>?_;have en:=hl.n;have up:=ev.up k;have kI:=ev.kI YF;have YI:=ev.rd k;have YJ:=ev.start k YE.2;have YK:=λo ho=>JE.along (o:=o) ho ev (ev.all k);have YL:=(ev.AO k).up;have MY:ir P' n1 n k=iX n1 0 0::rounds P' n k:=rfl;generalize rounds P' n k=rs at MY YL;generalize hqs:ir P' n1 n k=qs at *
   have q1:1<=qs.length:=by rw[← hqs];show 1<=(rounds P' n k).length+1;lia
   refine pM 1 qs.length (λi σ H'=>∃(v7:Option V),σ = [some (V.ref p),some (V.str w'),some (V.int most),some (V.ref t),some (V.int times),some (V.ref L),v6,v7,none]/\H' = H2) (λQ q=>?_) (by lia) (by lia) (by lia) (by lia) ⟨none,rfl,rfl⟩ ?_ ?_
   ·walk_at "rdm";refine⟨_,.inl (aE.of hl.l),?_⟩;rw[List.length_map,en];exact q
   ·rintro i σ H3 N hN hi ⟨v7,rfl,rfl⟩;have YM:i+1<qs.length:=by lia
    obtain⟨x1,m1,b1,d1,g1,y1⟩:=hl.at (List.getElem?_eq_getElem (show i<qs.length by lia))
    obtain⟨x2,m3,b2,d2,g2,y2⟩:=hl.at (List.getElem?_eq_getElem YM);have u:=up i _ _ (List.getElem?_eq_getElem (show i<qs.length by lia)) (List.getElem?_eq_getElem YM)
    have o1:=y1.o;have o2:=y2.o;unfold fZ at o1 o2;have ei:(1:Int)+(i:Int)=((i+1:Nat):Int):=by lia
    have ei2:((i+1:Nat):Int) - 1=(i:Int):=by lia
    walk_at "rdt";rw[show (1:Int)+(i:Int) - 1=(i:Int) by lia,show (1:Int)+(i:Int)=((i+1:Nat):Int) by lia]
    exact⟨_,aE.of hl.l,_,gA g2,x2,rfl,_,_,_,o2,T.kN,T.qj,V.int qs[i+1].at_,by simp[List.lookup_cons,gi],_,aE.of hl.l,_,gA g1,x1,rfl,_,_,_,o1,T.kN,T.qj,V.int qs[i].at_,by simp[List.lookup_cons,gi],_,rfl,_,rfl,ite_no (by lia) (hN _ _ ⟨_,rfl,rfl⟩)⟩
   rintro σ H3 ⟨v7,rfl,rfl⟩;refine k3 _ _ ?_;refine dN λN4 k4=>?_;walk_at "rdt";refine⟨w',rfl,λru dx B Hr sr EJ jP=>?_⟩;have oZ:=(tb.same (s2.trans sr)).of (d_ w');refine⟨A.bx,p,L,ru,dx,B,P',fp,ps,qs,d_ w',_,_,rfl,by simp,hP.same (s2.trans sr),ev.ok,ev.nM,hl.same sr,kI,YI,jP,oZ,YJ,YK _ YE.1,λx cZ w1 ta w3 w4 w5 r b bJ tk p9 B' H4 kx u6 j rA hx cT=>?_⟩
   obtain⟨b0,bs,et,lb,bf⟩:=j.ends q1;rw[et] at cT;refine⟨x,rfl,_,_,_,hx,T.Eo,T.uL,_,rfl,k4 _ _ ?_⟩;have l8:=jP.kI oZ kx (hl.same sr);clear kx u6 rA hx j jP oZ YJ YK YI kI hl s2 et sr;refine dN λN5 k5=>?_;walk_at "rdt";refine⟨_,.inl (aE.of cT),_,.inl (aE.of l8.l),ite_no (by rw[List.length_map,List.length_map,List.length_cons];lia) ?_⟩
   refine iU ta ((b0::bs).map V.int) (λD i ys az H5=>∃(u:Option V),ys=(List.replicate i false).map V.bl/\i<=qs.length/\az = [u,some (V.ref ta)]/\H5 D=some (.lst ys)/\aj H4 H5/\H4 D=none) (λQ q=>?_) (aE.of cT) ?_ ?_ ?_ ?_
   ·walk_at "rdm";exact q
   ·intro D nD;exact⟨none,rfl,Nat.zero_le _,rfl,aH,aj.put nD,nD⟩
   ·rintro D i ys az H5 ⟨u,rfl,hi,rfl,e1,e2,e3⟩;exact⟨e1,gB (by rw[List.length_map,List.length_replicate];lia),aE.of (e2 _ _ cT)⟩
   ·rintro D i y ys az H5 N hN hy ⟨u,rfl,hi,rfl,e1,e2,e3⟩;have gC:i<(b0::bs).length:=by have:=dM hy;rw[List.length_map] at this;exact this
    rw[List.length_cons] at gC;obtain⟨M,hM,rfl⟩:=fG hy;have le:M<=b0:=by
     rcases List.mem_cons.mp (List.mem_of_getElem? hM) with rfl | hM
     ·exact Int.le_refl _
     ·obtain⟨i,hi,e⟩:=List.getElem_of_mem hM;have:=(bf i M (by rw[List.getElem?_eq_getElem hi,e])).1
      lia
    walk_at "rdt";refine⟨_,aE.of (e2 _ _ cT),_,gA (j:=0) (v:=.int b0) rfl,_,rfl,e1,hN _ _ _ ⟨_,?_,by lia,rfl,aH,aj.put2 e2 e3,e3⟩⟩
    rw[List.replicate_succ',List.map_append,decide_eq_false (show ¬ b0<M by lia)];rfl
   rintro D ys az H5 ⟨u,rfl,hi,rfl,e1,s5,e3⟩;refine⟨D,rfl,_,aE.of e1,ite_no (by simp) (k5 _ _ ?_)⟩
   walk_at "rdt";refine⟨L,ta,ps,qs,b0::bs,rfl,l8.same s5,s5 _ _ cT,by rw[List.length_cons];lia,YF,λW H6 s6 _ h2' _=>?_⟩
   have w2:W<=2:=h2' λc _=>by
    have w2:=ae8 (q0:=iX n1 0 0) (c:=c) YL (by rw[← MY];exact bf) qs.length
    rw[← MY] at w2;unfold qd;lia
   refine⟨W,rfl,?_⟩;rw[decide_eq_true (show W<=most by lia)]
   exact q _
theorem ahD(T:Tx K mg A)(aA:au mg base A.bg A.aQ)(aB:au mg base A.bq A.aX)(aC:au mg base A.br A.aY):aZ P w K mg base bu 12 A.DL A.DM ["_law_script"] (An K [(A.bg,A.aQ),(A.bq,A.aX),(A.br,A.aY)]):=by
 refine T.WB.ok nh (λvs H Q E h=>?_) (λaU Ar outer s H vs Q E hr h=>?_)
 ·obtain⟨a,ns,rfl,_⟩:=h
  rfl
 ·obtain⟨a,ns,rfl,hS,hl,hT,q⟩:=h;have YN:=hT (A.bg,A.aQ) (by simp)
  have YO:=hT (A.bq,A.aX) (by simp)
  have Ay:=hT (A.br,A.aY) (by simp)
  have T0:lT (⟨(A.aQ,cC eS,cB "nearest_of"),(A.aX,cC fU,cB "soonest_of"),(A.aY,cC fV,cB "latest_of")⟩:iY) H:=⟨⟨#[],YN,trivial,.inl rfl⟩,⟨#[],YO,trivial,.inl rfl⟩,⟨#[],Ay,trivial,.inl rfl⟩⟩;have lZ:=hr.lg;have hu:=jF hr;clear YN YO Ay hT;refine⟨_,(aF (d9 (bF (i:=1) nh.nd rfl (Or.inl rfl) (aW (ag7 T aA aB aC) (hr.mono (by decide)) rfl T.Wk T.LA.kp T.Wj .nil aM (ah (aW (oX T aA aB aC) (hr.mono (by decide)) rfl T.nj T.lX.kp T.ni .nil aM (ah (aa 0) (ah aD aq))) (ah (aW (oX T aA aB aC) (hr.mono (by decide)) rfl T.nj T.lX.kp T.ni .nil aM (ah (aa 0) (ah aD aq))) aq)))))
   (aF (d9 (bF (i:=2) nh.nd rfl (Or.inl rfl) (aW (ag8 T aA aB aC) (hr.mono (by decide)) rfl T.Wo T.LC.kp T.Wn .nil aM (ah (aa 1) (ah (aW (oX T aA aB aC) (hr.mono (by decide)) rfl T.nj T.lX.kp T.ni .nil aM (ah (aa 0) (ah aD aq))) aq)))))
   (aF (d9 (bF (i:=3) nh.nd rfl (Or.inl rfl) (aR dw (aW (eU T aA aB aC) (hr.mono (by decide)) rfl T.eG T.dO.kp T.eF .nil aM (ah (aW (oX T aA aB aC) (hr.mono (by decide)) rfl T.nj T.lX.kp T.ni .nil aM (ah (aa 0) (ah aD aq))) (ah aD aq))) (aa 2))))
   (aF (d9 (bF (i:=4) nh.nd rfl (Or.inl rfl) (qM T.WJ (ahc T aA aB aC) (hr.mono (by decide)) rfl T.WK T.Vi .nil aM (ah (aa 1) (ah (aa 2) (ah (aa 3) (ah (aW (ag9 T aA aB aC) (hr.mono (by decide)) rfl T.Wr T.LD.kp T.Wq .nil aM (ah (bY tE rfl T.dg boot_len (ah (aW (agV T aA aB aC) (hr.mono (by decide)) rfl T.Wm T.LB.kp T.Wl .nil aM (ah (aa 1) aq)) aq)) (ah (aW (oX T aA aB aC) (hr.mono (by decide)) rfl T.nj T.lX.kp T.ni .nil aM (ah (aa 0) (ah aD aq))) aq))) aq)))))))
   (aF (d9 (bF (i:=5) nh.nd rfl (Or.inl rfl) (fF (ah cQ (ah cQ (ah cQ (ah cQ (ah cQ (ah cQ (ah cQ (ah cQ aq)))))))))))
   (aF (d9 (bF (i:=6) nh.nd rfl (Or.inl rfl) (bM qO (aa 5) (aR dw (aW (eU T aA aB aC) (hr.mono (by decide)) rfl T.eG T.dO.kp T.eF .nil aM (ah (aW (oX T aA aB aC) (hr.mono (by decide)) rfl T.nj T.lX.kp T.ni .nil aM (ah (aa 0) (ah aD aq))) (ah aD aq))) aD) (λ_ _=>rfl))))
   (aF (d9 (bF (i:=7) nh.nd rfl (Or.inl rfl) (aR e_ aD (aR dw (aW (eU T aA aB aC) (hr.mono (by decide)) rfl T.eG T.dO.kp T.eF .nil aM (ah (aW (oX T aA aB aC) (hr.mono (by decide)) rfl T.nj T.lX.kp T.ni .nil aM (ah (aa 0) (ah aD aq))) (ah aD aq))) aD))))
   (aF (d9 (pU (cF (cD eX (aR dw (aW (eU T aA aB aC) (hr.mono (by decide)) rfl T.eG T.dO.kp T.eF .nil aM (ah (aW (oX T aA aB aC) (hr.mono (by decide)) rfl T.nj T.lX.kp T.ni .nil aM (ah (aa 0) (ah aD aq))) (ah aD aq))) aD) aD (bA _)) (aL (bF (i:=7) nh.nd rfl (Or.inl rfl) aD)) bT)))
   (aF (d9 (bF (i:=8) nh.nd rfl (Or.inl rfl) (aW (ahq T aA aB aC) (hr.mono (by decide)) rfl T.UM T.K8.kp T.UL .nil aM (ah (aa 4) (ah (aa 6) (ah (aa 7) aq))))))
   (aF (d9 (cF (PW.pt (fE (jR (iJ (bY Aa rfl T.rW boot_isinstance (ah (aa 8) (ah (zy (v:=.ty "tuple") rfl T.uM boot_tuple rfl) aq))))) (gc (eO gv (bY fK rfl T.dg boot_len (ah (aa 8) aq)) aD (bA _))))) (aL (bw i8)) bT))
   (aF (cF (PW.pt (fE (cD eX (aa 6) cQ (bA _)) (fE (cD eX (aa 6) cQ (bA _)) (gc (cD eX (aa 6) cQ (bA _)))))) (aL (bw (sQ (iN eX (bM iH (aa 8) aD (λ_ _=>rfl)) cQ (bA _)) (sO (aW (ahz T aA aB aC) (hr.mono (by decide)) rfl T.Ww T.LK.kp T.Wv .nil aM (ah (aa 4) (ah (aa 6) (ah (aa 7) (ah (aa 8) (ah (GC GG (aa 0) (zN aD) (zN aD)) aq)))))))))) bT)
   (aL (bw (sQ (iN eX (bM iH (aa 8) aD (λ_ _=>rfl)) cQ (bA _)) (sO (aW (ahC T aA aB aC) (hr.mono (by decide)) rfl T.WA T.LM.kp T.Wz .nil aM (ah (aa 4) (ah (aa 6) (ah (aa 7) (ah (aa 8) (ah (aR e_ aD (aR dw (aW (eU T aA aB aC) (hr.mono (by decide)) rfl T.eG T.dO.kp T.eF .nil aM (ah (aW (oX T aA aB aC) (hr.mono (by decide)) rfl T.nj T.lX.kp T.ni .nil aM (ah (aa 0) (ah aD aq))) (ah aD aq))) aD)) aq))))))))))))))))))))),?_⟩
  refine dN λN1 g1=>?_;wp_walk using T,ji,dW;refine⟨ns,hS,hl,ns,hS,hl,?_⟩;refine⟨_,_,rfl,λza mS H1 s1 n1 yR hz=>g1 _ _ ?_⟩;have zl:=acY (g8 ns 0) (g8 ns 1);generalize qX (g8 ns 0) (g8 ns 1)=z at hz zl;clear g1;refine dN λN1 g1=>?_;wp_walk using T,ji,dW;refine⟨ns,s1.seq hS,hl,⟨za,mS,z,_,rfl,hz,zl.ok,g1 _ _ ?_⟩⟩;obtain⟨EM,EN,MZ⟩:=acZ zl (g8 ns 2);generalize qY z (g8 ns 2)=aJ at EM EN MZ ⊢;clear g1;refine dN λN1 g1=>?_;wp_walk using T,ji,dW;refine⟨ns,s1.seq hS,hl,by lia,?_⟩
  have k0:=Int.emod_nonneg (mix (g8 ns 3) 0) (show aJ≠0 by lia)
  have k1:=Int.emod_lt_of_pos (mix (g8 ns 3) 0) (show 0<aJ by lia)
  generalize mix (g8 ns 3) 0 % aJ=sk at k0 k1 ⊢;refine g1 _ _ ?_;clear g1;refine dN λN1 g1=>?_;wp_walk using T,ji,dW;refine⟨za,mS,z,rfl,hz,zl.ok,λca H2 s2 n2 hc=>?_⟩;have cl:=n8 z λp hp=>(zl.ok.r p hp).1;have Hy:=zl.sm;have c2:=zl.ok.s2;have yU:=s1.trans s2;have oW:=hz.same s2;refine⟨_,rfl,_,.inl (aE.of hc),ns,yU.seq hS,hl,?_⟩;refine⟨_,_,rfl,by rw[List.length_map];lia,by rw[List.length_map];lia,λsa sw H4 s4 n4 z_ so=>?_⟩
  rw[List.length_map,cl] at so;intro p dx np tU nd;have uS:=oW.same s4;have s5:=aj.put (o:=.own p) tU;have nA:upd H4 dx (.own p) p=none:=by rw[aI (Ne.symm nd)];exact np
  have s6:=s5.trans (aj.put (o:=.ins A.bx dx []) nA);refine⟨A.bx,p,dx,za,sa,mS,z,aJ,sk,sw,rfl,T.agn,aH,uS.same s6,zl.ok,EM,EN,k0,k1,MZ,aE.of (s6 _ _ z_),so,λH5 dxx a1 a2 a3 a4 M0 sb nfp hp5 hA=>⟨rfl,g1 _ _ ?_⟩⟩;have hP:bZ K A.bx H5 p (j8 z aJ sk sw) (a1::a2::a3::a4::M0):=⟨dxx,a1,a2,a3,a4,M0,_,rfl,hA⟩;have YQ:∀b o,H4 b=some o->H5 b=some o:=λb o e=>sb _ _ (s6 _ _ e) (cO e np);have M6:aj H H5:=λb o e=>YQ _ _ (s4 _ _ (yU _ _ e));have wo:pT z aJ sk sw:=⟨zl,EM,EN,MZ,k0,k1,so⟩;generalize a1::a2::a3::a4::M0=fp at hP;have y_:=M6.seq hS;have T5:=T0.same M6;clear g1 hA sb nfp hp5 YQ s6 nA s5 uS np tU nd n4 z_ s4 oW yU s2 hc n2 M6 T0 hS s1 hz n1 yR;refine dN λN1 g1=>?_;wp_walk using T,ji,dW;intro W nW;refine g1 _ _ ?_;have sW:=aj.put (o:=.lst ((fB++ig).map V.str)) nW;have hW:upd H5 W (.lst ((fB++ig).map V.str)) W=some (.lst ((fB++ig).map V.str)):=aH;have eW:upd H5 W (.lst [V.str "first",V.str "calm lift",V.str "calm sweep",V.str "nearest",V.str "soonest",V.str "latest",V.str "lift",V.str "sweep"])=upd H5 W (.lst ((fB++ig).map V.str)):=rfl
  rw[eW];generalize upd H5 W (.lst ((fB++ig).map V.str))=H6 at sW hW ⊢;have nH:=sW.seq y_;have o8:=hP.same sW;have T6:=T5.same sW;clear y_ hP T5 sW eW nW g1;refine dN λN1 g1=>?_;wp_walk using T,ji,dW;have m0:=Int.emod_nonneg (mix (g8 ns 5) 0) (show (8:Int)≠0 by decide)
  have m1:=Int.emod_lt_of_pos (mix (g8 ns 5) 0) (show (0:Int)<8 by decide)
  obtain⟨w',ew,hw⟩:=afs m0 m1;refine⟨ns,nH,hl,_,aE.of hW,_,ew,g1 _ _ ?_⟩;clear g1 m0 m1 ew hW;refine dN λN1 g1=>?_;wp_walk using T,ji,dW;have m0:=Int.emod_nonneg (mix (g8 ns 6) 0) (show (12:Int)≠0 by decide)
  have m1:=Int.emod_lt_of_pos (mix (g8 ns 6) 0) (show (0:Int)<12 by decide)
  refine⟨ns,nH,hl,g1 _ _ ?_⟩;clear g1;refine dN λN1 g1=>?_;wp_walk using T,ji,dW;refine⟨λσ Hx=>∃most:Int,σ = [some (V.ref a),some (V.ref za),some (V.int aJ),some (V.int sk),some (V.ref p),some (V.ref W),some (V.str w'),some (V.int most),none]/\Hx=H6/\2<=most/\most<=100,⟨ns,nH,hl,cN (λ_=>⟨40,rfl,rfl,by decide,by decide⟩) λ_=>⟨_,rfl,rfl,by lia,by lia⟩⟩,?_⟩
  rintro _ _ ⟨most,rfl,rfl,m2,YR⟩;refine g1 _ _ ?_;clear g1 m0 m1;refine dN λN1 g1=>?_;wp_walk using T,ji,dW;obtain⟨m0,_,st0⟩:=SX (i:=0) (j:=c0 (j8 z aJ sk sw)) (c:=16) (by lia) (by
   have cl:=n8 z λp hp=>(wo.zl.ok.r p hp).1;have c2:=wo.zl.ok.s2;obtain⟨y,hy,e⟩:=n_ (get_mem (pL (counts z) (show 0<(counts z).length by lia)))
   have:=wo.zl.ok.r y hy
   show (counts z).getD 0 0<=_;lia) (by decide) (by
   have cl:=n8 z λp hp=>(wo.zl.ok.r p hp).1;have c2:=wo.zl.ok.s2;obtain⟨y,hy,e⟩:=n_ (get_mem (pL (counts z) (show 0<(counts z).length by lia)))
   have:=wo.zl.ok.r y hy
   show 0<=(counts z).getD 0 0;lia)
  obtain⟨n1,vd⟩:=wo.ev st0;have b0:=vd.b1;obtain⟨n,bo⟩:=wo.bnd m2 YR;have en:=vd.nx.one bo.nx;subst en;have EI:=afm wo;have lJ:=And.intro T.Et (And.intro T.Eu T.Ew);have xg:1<=(j8 z aJ sk sw).nc.length:=by have:=bo.fit;have:=bo.n1;lia
  refine⟨A.bx,p,_,fp,n1,most,w',rfl,by simp,o8,bo.nx,m2,YR,vd.ca,vd.cb,by lia,vd.btl,λh=>hw.elim (absurd · h) And.left,λhb t l ps H7 s7 ht ha=>g1 _ _ ?_,λhb t l1 p1 l2 p2 m H7 s7 ht st i6 jw=>g1 _ _ ?_⟩
  ·have M7:=s7.seq nH;have u7:=o8.same s7;have T7:=T6.same s7;clear g1 nH o8 T6 s7;refine dN λN1 g1=>?_;wp_walk using T,ji,dW;refine⟨_,g6.tup ht,true,rfl,ite_no (by simp) ⟨_,.inr (bD.of ht),ite_no (by simp) (g1 _ _ ?_)⟩⟩
   clear g1;wp_walk using T,ji,dW;obtain⟨ms,e,el⟩:=aft ns;refine cN (λ_=>?_) λx1=>cN (λ_=>?_) λx2=>cN (λ_=>?_) λx3=>absurd (TF.mp hb) (λz=>z.elim x1 λz=>z.elim x2 x3)
   all_goals
    refine⟨_,bD.of ht,_,rfl,rfl,ite_yes rfl ⟨_,M7,λc nc=>?_⟩⟩;rw[e];have sc:=aj.put (o:=.lst (ms.map V.int)) nc;exact⟨p,t,c,l,w',most,n1,_,fp,ps,ms,rfl,u7.same sc,bo,EI,EM,EN,xg,sc _ _ ht,ha.same sc,hb,aE.of aH,el,T7.same sc,lJ,q⟩
  ·have M7:=s7.seq nH;have u7:=o8.same s7;have T7:=T6.same s7;clear g1 nH o8 T6 s7;refine dN λN1 g1=>?_;wp_walk using T,ji,dW;refine⟨_,g6.tup ht,true,rfl,ite_no (by simp) ⟨_,.inr (bD.of ht),ite_no (by simp) (g1 _ _ ?_)⟩⟩
   clear g1;obtain⟨n1',ev⟩:=wo.ev st;have en:=vd.nx.one ev.nx;subst en;have nb:¬ (w' = "first"\/w' = "calm lift"\/w' = "calm sweep"):=λz=>hb (TF.mpr z)
   have hwe:w'∈ig:=hw.elim (absurd · hb) And.left;have d0:=Int.emod_nonneg (mix (g8 ns 6) 2) (show (8:Int)≠0 by decide)
   have d1:=Int.emod_lt_of_pos (mix (g8 ns 6) 2) (show (0:Int)<8 by decide)
   wp_walk using T,ji,dW;refine ite_no (λz=>nb (.inl z)) (ite_no (λz=>nb (.inr (.inl z))) (ite_no (λz=>nb (.inr (.inr z))) ?_));refine⟨_,bD.of ht,_,rfl,rfl,ite_yes rfl ⟨ns,M7,hl,?_⟩⟩;exact⟨p,t,l1,l2,w',most,_,n1,m,_,fp,p1,p2,rfl,u7,ev,ht,i6,jw,by lia,by lia,m2,hwe,T7,q⟩
end
theorem sA{C:List Value->Prop}(h:C []):∀us:List Value,us.length=0->C us:=λ| [],_=>h
theorem dP{n:Nat}{C:List Value->Prop}(h:∀a us,us.length=n->C (a::us)):∀us:List Value,us.length=n+1->C us:=λ| a::us,e=>h a us (Nat.succ.inj e)
theorem zb{K:W.Frag}{fd:FuncData}{ps:List Str}{ds:List Value}(n:Nat)(e:n+ds.length=ps.length)(h:∀s,K.In s.heap->∀us:List Value,us.length=n->BindsTo s fd ⟨us,[]⟩ (ps.zip (us++ds))):Binds K fd ps ds:=λs us X hl=>h s X us (by rw[List.length_append] at hl;lia)
theorem fM{C:List Value->Prop}(h:∀a0,C [a0]):∀us:List Value,us.length=1->C us:=dP λa0=>sA (h a0)
theorem fD{C:List Value->Prop}(h:∀a0 a1,C [a0,a1]):∀us:List Value,us.length=2->C us:=dP λa0=>dP λa1=>sA (h a0 a1)
theorem jx{C:List Value->Prop}(h:∀a0 a1 a2,C [a0,a1,a2]):∀us:List Value,us.length=3->C us:=dP λa0=>dP λa1=>dP λa2=>sA (h a0 a1 a2)
theorem qu{C:List Value->Prop}(h:∀a0 a1 a2 a3,C [a0,a1,a2,a3]):∀us:List Value,us.length=4->C us:=dP λa0=>dP λa1=>dP λa2=>dP λa3=>sA (h a0 a1 a2 a3)
theorem o9{C:List Value->Prop}(h:∀a0 a1 a2 a3 a4,C [a0,a1,a2,a3,a4]):∀us:List Value,us.length=5->C us:=dP λa0=>dP λa1=>dP λa2=>dP λa3=>dP λa4=>sA (h a0 a1 a2 a3 a4)
theorem YS{C:List Value->Prop}(h:∀a0 a1 a2 a3 a4 a5,C [a0,a1,a2,a3,a4,a5]):∀us:List Value,us.length=6->C us:=dP λa0=>dP λa1=>dP λa2=>dP λa3=>dP λa4=>dP λa5=>sA (h a0 a1 a2 a3 a4 a5)
theorem ahE{C:List Value->Prop}(h:∀a0 a1 a2 a3 a4 a5 a6 a7 a8 a9,C [a0,a1,a2,a3,a4,a5,a6,a7,a8,a9]):∀us:List Value,us.length=10->C us:=dP λa0=>dP λa1=>dP λa2=>dP λa3=>dP λa4=>dP λa5=>dP λa6=>dP λa7=>dP λa8=>dP λa9=>sA (h a0 a1 a2 a3 a4 a5 a6 a7 a8 a9)
theorem all_mk{l:W.OpenLaw}{w:World}{K:W.Frag}{h:Heap}{mg:Str->Option Value}{fa:Addr}{EO M8 M9 M_ Na ER ve Nb Nc Nd Nf Ng ES Nh ET EU zc qw EV EW EX Ni Nj Nk Nl Nm Nn Np vf EY zd ze zf EZ E1 Nq Nr Nt Nu Nv Nx Ny E3 E4 E5 E6 E7 E8 E9 E_ Fb Fc Fd Nz NB Fe NC ND NF NG Ff Fg Fi Fj Fl Fo NH NI NJ NK Fp Fq NL NN NO NP NQ NR NS NT NU NV NW NY NZ N9 N_:Addr}{ahF zg ahG ahH YT ahI YU ahJ YV ahK Oa ahL ahM Ob ahN ahO Oc:Option Addr}{ahP ahQ ahR ahS ahT ahU ahV ahW ahX ahY:Array (Option Value)}{ahZ zh zj zm vg zo ah0 ah1 YW YX YY Ft YZ ah2 Y0 Y3 Y4 Fv Y5 ah3 Y6 Y7 Y8 Fw Y9 ah4 Od Oe Of Fx Og ah5 ah6 Oh Oi Oj Fy Ol ah7 ah8 Om Oo Oq Fz Ot:Value}{ah9 ah_ aia:Nat}{Ou Ov Ow:Tok}{Y_ ue uf Za Zb Zc Zd Ze Zf Zg Zh Zi Zj Zk Zl Zm Zo Zp Zq Zr Zu Zv Zw Zx Zy Zz ZA ZC ZD ZE ZF ZG ZI ZJ ZK ZM ZN ZO ZP ZQ ZR ZS ZT ZU ZV ZW ZX ZY ZZ Z0 Z1 Z2 Z3 Z4 Z5 Z6 Z7 Z8 Z9 Z_ aaa aab aac aad aae aaf aag aah aai aaj aak aal aam aan aao aap aaq:FuncData}{a_:Addr}{bQ:Addr}{bV:Addr}{bx:Addr}{bK:Addr}{bN:Addr}{eT:Addr}{gP:Addr}{eo:Addr}{eu:Addr}{eB:Addr}{eE:Addr}{x6:Tok}{x8:Tok}{x9:Tok}{x_:Tok}{yc:Tok}{yd:Tok}{yf:Tok}{yg:Tok}{yh:Tok}{yi:Tok}{yj:Tok}{yl:Tok}{ym:Tok}{bg aQ:Addr}{aib:Option Addr}{aar:Array Value}{aic:Array (Option Value)}{bq aX:Addr}{aid:Option Addr}{aas:Array Value}{aie:Array (Option Value)}{br aY:Addr}{aif:Option Addr}{aat:Array Value}{aih:Array (Option Value)}{qg:Addr}{aii:Option Addr}{aij:Nat}{aik:Array (Option Value)}{ail aim ain:Tok}{qh:Addr}{aio:Option Addr}{aip:Nat}{aiq:Array (Option Value)}{air ais ait aiu aiv:Tok}(X:K.In h)(G:h.Ns mainGlobals mg)(hfa:mg "law" = some (.ref fa))
  (aiw:W.nsIn K mainGlobals "BOUND_WORDS" = some (some (.ref qg)))
  (aix:K.lookup qg=some ⟨.type "tuple",aii,.seq #[.str "first" ail,.str "calm lift" aim,.str "calm sweep" ain] aij,aik⟩)
  (aiy:W.nsIn K mainGlobals "EVER_WORDS" = some (some (.ref qh)))
  (aiz:K.lookup qh=some ⟨.type "tuple",aio,.seq #[.str "nearest" air,.str "soonest" ais,.str "latest" ait,.str "lift" aiu,.str "sweep" aiv] aip,aiq⟩)
  (aiA:W.nsIn K mainGlobals "Ask" = some (some (.ref a_)))
  (aiB:W.nsIn K mainGlobals "Lift" = some (some (.ref bQ)))
  (aiC:W.nsIn K mainGlobals "Sweep" = some (some (.ref bV)))
  (aiD:W.nsIn K mainGlobals "Plate" = some (some (.ref bx)))
  (aiE:W.nsIn K mainGlobals "Due" = some (some (.ref bK)))
  (aiF:W.nsIn K mainGlobals "Course" = some (some (.ref bN)))
  (aiG:W.nsIn K mainGlobals "Played" = some (some (.ref eT)))
  (aiH:W.nsIn K mainGlobals "Rule" = some (some (.ref gP)))
  (aiI:W.nsIn K mainGlobals "First" = some (some (.ref eo)))
  (aiJ:W.nsIn K mainGlobals "Nearest" = some (some (.ref eu)))
  (aiK:W.nsIn K mainGlobals "Soonest" = some (some (.ref eB)))
  (aiL:W.nsIn K mainGlobals "Latest" = some (some (.ref eE)))
  (ax0:W.findIn K (.ref a_) "__init__" = some (some (.ref EO)))
  (ix0:W.isFn K (.ref EO)=true)
  (F0:aK K "__init__" "Ask.__init__" IP EO Y_)
  (ax1:W.nsIn K mainGlobals "check_between" = some (some (.ref M8)))
  (F1:aK K "check_between" "check_between" IQ M8 ue)
  (ax2:W.nsIn K mainGlobals "check_behind" = some (some (.ref M9)))
  (F2:aK K "check_behind" "check_behind" IS M9 uf)
  (ax3:W.nsIn K mainGlobals "check_fields" = some (some (.ref M_)))
  (F3:aK K "check_fields" "check_fields" IT M_ Za)
  (ax4:W.nsIn K mainGlobals "told_behind" = some (some (.ref Na)))
  (F4:aK K "told_behind" "told_behind" IU Na Zb)
  (ax5:W.nsIn K mainGlobals "reading" = some (some (.ref ER)))
  (lx5:K.lookup ER=some ⟨ahZ,ahF,.func (W.fnOf "reading" "reading" (fc iu) (dJ iu) (aN iu) (.ref ve) zh zj zm zg vg zo),ahP⟩)
  (FA:K.lookup ve=some ⟨ah0,ahG,.seq #[.int 0 Ou,.none,.none] ah9,ahQ⟩)
  (cx5:W.codeIn K vg "reading" = true)
  (kx5:W.keepIn K (.ref ER)=true)
  (ax6:W.nsIn K mainGlobals "clash" = some (some (.ref Nb)))
  (F6:aK K "clash" "clash" IV Nb Zc)
  (ax7:W.nsIn K mainGlobals "next_begin" = some (some (.ref Nc)))
  (F7:aK K "next_begin" "next_begin" IW Nc Zd)
  (ax8:W.nsIn K mainGlobals "way" = some (some (.ref Nd)))
  (F8:aK K "way" "way" IX Nd Ze)
  (ax9:W.nsIn K mainGlobals "ring_of" = some (some (.ref Nf)))
  (F9:aK K "ring_of" "ring_of" IY Nf Zf)
  (aiM:W.nsIn K mainGlobals "first_of" = some (some (.ref Ng)))
  (F10:aK K "first_of" "first_of" IZ Ng Zg)
  (aiN:W.nsIn K mainGlobals "nearest_of" = some (some (.ref ES)))
  (aiO:K.lookup ES=some ⟨ah1,ahH,.func (W.fnOf "nearest_of" "nearest_of" (fc eS) (dJ eS) (aN eS) .none YW YX YY YT Ft YZ),ahR⟩)
  (aiP:W.codeIn K Ft "nearest_of" = true)
  (aiQ:W.keepIn K (.ref ES)=true)
  (aiR:W.nsIn K mainGlobals "first_begin" = some (some (.ref Nh)))
  (F12:aK K "first_begin" "first_begin" I_ Nh Zh)
  (aiS:W.nsIn K mainGlobals "soonest_of" = some (some (.ref ET)))
  (aiT:K.lookup ET=some ⟨ah2,ahI,.func (W.fnOf "soonest_of" "soonest_of" (fc fU) (dJ fU) (aN fU) .none Y0 Y3 Y4 YU Fv Y5),ahS⟩)
  (aiU:W.codeIn K Fv "soonest_of" = true)
  (aiV:W.keepIn K (.ref ET)=true)
  (aiW:W.nsIn K mainGlobals "latest_of" = some (some (.ref EU)))
  (aiX:K.lookup EU=some ⟨ah3,ahJ,.func (W.fnOf "latest_of" "latest_of" (fc fV) (dJ fV) (aN fV) .none Y6 Y7 Y8 YV Fw Y9),ahT⟩)
  (aiY:W.codeIn K Fw "latest_of" = true)
  (aiZ:W.keepIn K (.ref EU)=true)
  (ai0:W.findIn K (.ref gP) "pick" = some (some (.ref zc)))
  (aau:W.isFn K (.ref zc)=true)
  (ai1:W.findIn K (.ref eo) "pick" = some (some (.ref zc)))
  (FD:aK K "pick" "Rule.pick" Ja zc Zi)
  (ai2:W.findIn K (.ref gP) "anew" = some (some (.ref qw)))
  (zp:W.isFn K (.ref qw)=true)
  (ai3:W.findIn K (.ref eo) "anew" = some (some (.ref qw)))
  (ai4:W.findIn K (.ref eu) "anew" = some (some (.ref qw)))
  (ai5:W.findIn K (.ref eB) "anew" = some (some (.ref qw)))
  (ai6:W.findIn K (.ref eE) "anew" = some (some (.ref qw)))
  (sC:aK K "anew" "Rule.anew" Jb qw Zj)
  (ai7:W.findIn K (.ref eu) "pick" = some (some (.ref EV)))
  (ai8:W.isFn K (.ref EV)=true)
  (Ox:aK K "pick" "Nearest.pick" Jc EV Zk)
  (ai9:W.findIn K (.ref eB) "pick" = some (some (.ref EW)))
  (ai_:W.isFn K (.ref EW)=true)
  (Oz:aK K "pick" "Soonest.pick" Jd EW Zl)
  (aja:W.findIn K (.ref eE) "pick" = some (some (.ref EX)))
  (ajb:W.isFn K (.ref EX)=true)
  (OA:aK K "pick" "Latest.pick" Je EX Zm)
  (ajc:W.nsIn K mainGlobals "read_of_next_ring" = some (some (.ref Ni)))
  (F20:aK K "read_of_next_ring" "read_of_next_ring" Jf Ni Zo)
  (ajd:W.nsIn K mainGlobals "reads_of_cell_0" = some (some (.ref Nj)))
  (F21:aK K "reads_of_cell_0" "reads_of_cell_0" Jg Nj Zp)
  (aje:W.nsIn K mainGlobals "bound_row" = some (some (.ref Nk)))
  (F22:aK K "bound_row" "bound_row" Jh Nk Zq)
  (ajf:W.nsIn K mainGlobals "round_of_ring_0" = some (some (.ref Nl)))
  (F23:aK K "round_of_ring_0" "round_of_ring_0" Ji Nl Zr)
  (ajg:W.nsIn K mainGlobals "settled" = some (some (.ref Nm)))
  (F24:aK K "settled" "settled" Jj Nm Zu)
  (ajh:W.nsIn K mainGlobals "that_way" = some (some (.ref Nn)))
  (F25:aK K "that_way" "that_way" Jk Nn Zv)
  (aji:W.nsIn K mainGlobals "batch_of" = some (some (.ref Np)))
  (F26:aK K "batch_of" "batch_of" Jl Np Zw)
  (ajj:W.findIn K (.ref bQ) "__init__" = some (some (.ref vf)))
  (aav:W.isFn K (.ref vf)=true)
  (ajk:W.findIn K (.ref bV) "__init__" = some (some (.ref vf)))
  (ajl:K.lookup vf=some ⟨ah4,ahK,.func (W.fnOf "__init__" "Lift.__init__" (fc kK) (dJ kK) (aN kK) (.ref EY) Od Oe Of Oa Fx Og),ahU⟩)
  (ajm:K.lookup EY=some ⟨ah5,ahL,.seq #[.bool false] ah_,ahV⟩)
  (ajn:W.codeIn K Fx "Lift.__init__" = true)
  (ajo:W.keepIn K (.ref vf)=true)
  (ajp:W.findIn K (.ref bQ) "anew" = some (some (.ref zd)))
  (aaw:W.isFn K (.ref zd)=true)
  (ajq:W.findIn K (.ref bV) "anew" = some (some (.ref zd)))
  (FE:aK K "anew" "Lift.anew" Jm zd Zx)
  (ajr:W.findIn K (.ref bQ) "pick" = some (some (.ref ze)))
  (aax:W.isFn K (.ref ze)=true)
  (ajs:W.findIn K (.ref bV) "pick" = some (some (.ref ze)))
  (FF:aK K "pick" "Lift.pick" Jo ze Zy)
  (ajt:W.findIn K (.ref bQ) "looked_at" = some (some (.ref zf)))
  (aay:W.isFn K (.ref zf)=true)
  (aju:W.findIn K (.ref bV) "looked_at" = some (some (.ref zf)))
  (FG:aK K "looked_at" "Lift.looked_at" Jp zf Zz)
  (ajv:W.findIn K (.ref bQ) "choose" = some (some (.ref EZ)))
  (ajw:W.isFn K (.ref EZ)=true)
  (OB:aK K "choose" "Lift.choose" Jq EZ ZA)
  (ajx:W.findIn K (.ref bV) "choose" = some (some (.ref E1)))
  (ajy:W.isFn K (.ref E1)=true)
  (OC:aK K "choose" "Sweep.choose" Jr E1 ZC)
  (ajz:W.nsIn K mainGlobals "check_zones" = some (some (.ref Nq)))
  (F33:aK K "check_zones" "check_zones" Js Nq ZD)
  (ajA:W.nsIn K mainGlobals "check_turning" = some (some (.ref Nr)))
  (F34:aK K "check_turning" "check_turning" Jt Nr ZE)
  (ajB:W.nsIn K mainGlobals "check_swing" = some (some (.ref Nt)))
  (F35:aK K "check_swing" "check_swing" Ju Nt ZF)
  (ajC:W.nsIn K mainGlobals "check_no_detour" = some (some (.ref Nu)))
  (F36:aK K "check_no_detour" "check_no_detour" Jv Nu ZG)
  (ajD:W.nsIn K mainGlobals "cells_by_ring" = some (some (.ref Nv)))
  (F37:aK K "cells_by_ring" "cells_by_ring" Jw Nv ZI)
  (ajE:W.nsIn K mainGlobals "cells_by_number" = some (some (.ref Nx)))
  (F38:aK K "cells_by_number" "cells_by_number" Jx Nx ZJ)
  (ajF:W.nsIn K mainGlobals "numbers_by_cell" = some (some (.ref Ny)))
  (F39:aK K "numbers_by_cell" "numbers_by_cell" Jy Ny ZK)
  (ajG:W.findIn K (.ref bx) "__init__" = some (some (.ref E3)))
  (ajH:W.isFn K (.ref E3)=true)
  (F40:aK K "__init__" "Plate.__init__" Jz E3 ZM)
  (ajI:W.findIn K (.ref bx) "rings" = some (some (.ref E4)))
  (ajJ:W.isFn K (.ref E4)=true)
  (OD:aK K "rings" "Plate.rings" JA E4 ZN)
  (ajK:W.findIn K (.ref bx) "total" = some (some (.ref E5)))
  (ajL:W.isFn K (.ref E5)=true)
  (OE:aK K "total" "Plate.total" JC E5 ZO)
  (ajM:W.findIn K (.ref bx) "cells_of" = some (some (.ref E6)))
  (ajN:W.isFn K (.ref E6)=true)
  (OF:aK K "cells_of" "Plate.cells_of" JD E6 ZP)
  (ajO:W.findIn K (.ref bx) "beats_of" = some (some (.ref E7)))
  (ajP:W.isFn K (.ref E7)=true)
  (OG:aK K "beats_of" "Plate.beats_of" JG E7 ZQ)
  (ajQ:W.findIn K (.ref bx) "lap_beats" = some (some (.ref E8)))
  (ajR:W.isFn K (.ref E8)=true)
  (OH:aK K "lap_beats" "Plate.lap_beats" JH E8 ZR)
  (ajS:W.findIn K (.ref bx) "begins" = some (some (.ref E9)))
  (ajT:W.isFn K (.ref E9)=true)
  (OI:aK K "begins" "Plate.begins" JI E9 ZS)
  (ajU:W.findIn K (.ref bx) "swing_of" = some (some (.ref E_)))
  (ajV:W.isFn K (.ref E_)=true)
  (OJ:aK K "swing_of" "Plate.swing_of" JJ E_ ZT)
  (ajW:W.findIn K (.ref bx) "has_cell" = some (some (.ref Fb)))
  (ajX:W.isFn K (.ref Fb)=true)
  (OL:aK K "has_cell" "Plate.has_cell" JK Fb ZU)
  (ajY:W.findIn K (.ref bx) "cell_at" = some (some (.ref Fc)))
  (ajZ:W.isFn K (.ref Fc)=true)
  (OM:aK K "cell_at" "Plate.cell_at" JM Fc ZV)
  (aj0:W.findIn K (.ref bx) "number_of" = some (some (.ref Fd)))
  (aj1:W.isFn K (.ref Fd)=true)
  (ON:aK K "number_of" "Plate.number_of" JO Fd ZW)
  (aj2:W.nsIn K mainGlobals "stretch" = some (some (.ref Nz)))
  (F51:aK K "stretch" "stretch" JP Nz ZX)
  (aj3:W.nsIn K mainGlobals "stretch_by_number" = some (some (.ref NB)))
  (F52:aK K "stretch_by_number" "stretch_by_number" JQ NB ZY)
  (aj4:W.findIn K (.ref bK) "__init__" = some (some (.ref Fe)))
  (aj5:W.isFn K (.ref Fe)=true)
  (F53:aK K "__init__" "Due.__init__" JR Fe ZZ)
  (aj6:W.nsIn K mainGlobals "check_beat" = some (some (.ref NC)))
  (F54:aK K "check_beat" "check_beat" JS NC Z0)
  (aj7:W.nsIn K mainGlobals "check_told" = some (some (.ref ND)))
  (F55:aK K "check_told" "check_told" JT ND Z1)
  (aj8:W.nsIn K mainGlobals "kept_behind" = some (some (.ref NF)))
  (F56:aK K "kept_behind" "kept_behind" JU NF Z2)
  (aj9:W.nsIn K mainGlobals "orders" = some (some (.ref NG)))
  (F57:aK K "orders" "orders" JV NG Z3)
  (aj_:W.findIn K (.ref bN) "__init__" = some (some (.ref Ff)))
  (aka:W.isFn K (.ref Ff)=true)
  (F58:aK K "__init__" "Course.__init__" JX Ff Z4)
  (akb:W.findIn K (.ref bN) "stay" = some (some (.ref Fg)))
  (akc:W.isFn K (.ref Fg)=true)
  (OO:aK K "stay" "Course.stay" JY Fg Z5)
  (akd:W.findIn K (.ref bN) "has_to_wait" = some (some (.ref Fi)))
  (ake:W.isFn K (.ref Fi)=true)
  (OP:aK K "has_to_wait" "Course.has_to_wait" JZ Fi Z6)
  (akf:W.findIn K (.ref bN) "ready" = some (some (.ref Fj)))
  (akg:W.isFn K (.ref Fj)=true)
  (OQ:aK K "ready" "Course.ready" J1 Fj Z7)
  (akh:W.findIn K (.ref bN) "take" = some (some (.ref Fl)))
  (aki:W.isFn K (.ref Fl)=true)
  (OR:aK K "take" "Course.take" J4 Fl Z8)
  (akj:W.findIn K (.ref eT) "__init__" = some (some (.ref Fo)))
  (akk:W.isFn K (.ref Fo)=true)
  (F63:aK K "__init__" "Played.__init__" J5 Fo Z9)
  (akl:W.nsIn K mainGlobals "last_ends" = some (some (.ref NH)))
  (F64:aK K "last_ends" "last_ends" J6 NH Z_)
  (akm:W.nsIn K mainGlobals "numbers_of" = some (some (.ref NI)))
  (F65:aK K "numbers_of" "numbers_of" J7 NI aaa)
  (akn:W.nsIn K mainGlobals "answers_of" = some (some (.ref NJ)))
  (F66:aK K "answers_of" "answers_of" J8 NJ aab)
  (ako:W.nsIn K mainGlobals "told_of" = some (some (.ref NK)))
  (F67:aK K "told_of" "told_of" J9 NK aac)
  (akp:W.nsIn K mainGlobals "play" = some (some (.ref Fp)))
  (akq:K.lookup Fp=some ⟨ah6,ahM,.func (W.fnOf "play" "play" (fc kL) (dJ kL) (aN kL) (.ref Fq) Oh Oi Oj Ob Fy Ol),ahW⟩)
  (akr:K.lookup Fq=some ⟨ah7,ahN,.seq #[.int 0 Ov,.int 0 Ow] aia,ahX⟩)
  (akt:W.codeIn K Fy "play" = true)
  (aku:W.keepIn K (.ref Fp)=true)
  (akv:W.nsIn K mainGlobals "_law_at" = some (some (.ref NL)))
  (F69:aK K "_law_at" "_law_at" J_ NL aad)
  (akw:W.nsIn K mainGlobals "_law_mix" = some (some (.ref NN)))
  (F70:aK K "_law_mix" "_law_mix" Ka NN aae)
  (akx:W.nsIn K mainGlobals "_law_zones" = some (some (.ref NO)))
  (F71:aK K "_law_zones" "_law_zones" Kc NO aaf)
  (aky:W.nsIn K mainGlobals "_law_counts" = some (some (.ref NP)))
  (F72:aK K "_law_counts" "_law_counts" Kd NP aag)
  (akz:W.nsIn K mainGlobals "_law_lap" = some (some (.ref NQ)))
  (F73:aK K "_law_lap" "_law_lap" Ke NQ aah)
  (akA:W.nsIn K mainGlobals "_law_swing" = some (some (.ref NR)))
  (F74:aK K "_law_swing" "_law_swing" Kf NR aai)
  (akB:W.nsIn K mainGlobals "_law_rule" = some (some (.ref NS)))
  (F75:aK K "_law_rule" "_law_rule" Kg NS aaj)
  (akC:W.nsIn K mainGlobals "_law_passed" = some (some (.ref NT)))
  (F76:aK K "_law_passed" "_law_passed" Kh NT aak)
  (akD:W.nsIn K mainGlobals "_law_waiting" = some (some (.ref NU)))
  (F77:aK K "_law_waiting" "_law_waiting" Kl NU aal)
  (akE:W.nsIn K mainGlobals "_law_reads" = some (some (.ref NV)))
  (F78:aK K "_law_reads" "_law_reads" Km NV aam)
  (akG:W.nsIn K mainGlobals "_law_row" = some (some (.ref NW)))
  (F79:aK K "_law_row" "_law_row" Kn NW aan)
  (akH:W.nsIn K mainGlobals "_law_bound" = some (some (.ref NY)))
  (F80:aK K "_law_bound" "_law_bound" Ko NY aao)
  (akI:W.nsIn K mainGlobals "_law_later" = some (some (.ref NZ)))
  (F81:aK K "_law_later" "_law_later" Kp NZ aap)
  (akJ:W.nsIn K mainGlobals "_law_ever" = some (some (.ref N9)))
  (F82:aK K "_law_ever" "_law_ever" Kq N9 aaq)
  (aaz:W.nsIn K mainGlobals "law" = some (some (.ref N_)))
  (akK:K.lookup N_=some ⟨ah8,ahO,.func (W.fnOf "law" "law" (fc kM) (dJ kM) (aN kM) .none Om Oo Oq Oc Fz Ot),ahY⟩)
  (akL:W.codeIn K Fz "law" = true)
  (akM:W.keepIn K (.ref N_)=true)
  (akN:W.plainGet K a_ Str.empty=true)
  (akO:W.hasDictIn K a_=true)
  (akP:W.plainOver K a_=true)
  (akQ:W.findIn K (.ref a_) "__setattr__" = some (some (.builtin "object.__setattr__")))
  (akR:W.makesIn K a_=true)
  (akS:W.keepIn K (.ref a_)=true)
  (yz:W.findIn K (.ref a_) "kind" = some none)
  (LN:W.findIn K (.ref a_) "first" = some none)
  (LO:W.findIn K (.ref a_) "many" = some none)
  (LQ:W.findIn K (.ref a_) "marks" = some none)
  (qj:W.findIn K (.ref a_) "at" = some none)
  (LR:W.findIn K (.ref a_) "asker" = some none)
  (yC:W.findIn K (.ref a_) "latest" = some none)
  (yD:W.findIn K (.ref a_) "behind" = some none)
  (LS:W.findIn K (.ref a_) "early" = some none)
  (akT:W.plainGet K bQ Str.empty=true)
  (akU:W.hasDictIn K bQ=true)
  (akV:W.plainOver K bQ=true)
  (akW:W.findIn K (.ref bQ) "__setattr__" = some (some (.builtin "object.__setattr__")))
  (akX:W.makesIn K bQ=true)
  (akY:W.keepIn K (.ref bQ)=true)
  (D8:W.findIn K (.ref bQ) "calm" = some none)
  (uK:W.findIn K (.ref bQ) "inward" = some none)
  (D9:W.findIn K (.ref bQ) "batch" = some none)
  (akZ:W.plainGet K bV Str.empty=true)
  (ak0:W.hasDictIn K bV=true)
  (ak1:W.plainOver K bV=true)
  (ak2:W.findIn K (.ref bV) "__setattr__" = some (some (.builtin "object.__setattr__")))
  (ak3:W.makesIn K bV=true)
  (ak4:W.keepIn K (.ref bV)=true)
  (D_:W.findIn K (.ref bV) "calm" = some none)
  (Ea:W.findIn K (.ref bV) "inward" = some none)
  (Eb:W.findIn K (.ref bV) "batch" = some none)
  (ak5:W.plainGet K bx Str.empty=true)
  (ak6:W.hasDictIn K bx=true)
  (ak7:W.plainOver K bx=true)
  (ak8:W.findIn K (.ref bx) "__setattr__" = some (some (.builtin "object.__setattr__")))
  (ak9:W.makesIn K bx=true)
  (ak_:W.keepIn K (.ref bx)=true)
  (Ec:W.findIn K (.ref bx) "ring_cells" = some none)
  (Ef:W.findIn K (.ref bx) "lap" = some none)
  (Eg:W.findIn K (.ref bx) "skew" = some none)
  (Eh:W.findIn K (.ref bx) "swing" = some none)
  (Ei:W.findIn K (.ref bx) "number_cells" = some none)
  (Ej:W.findIn K (.ref bx) "cell_numbers" = some none)
  (ala:W.plainGet K bK Str.empty=true)
  (alb:W.hasDictIn K bK=true)
  (alc:W.plainOver K bK=true)
  (ald:W.findIn K (.ref bK) "__setattr__" = some (some (.builtin "object.__setattr__")))
  (ale:W.makesIn K bK=true)
  (alf:W.keepIn K (.ref bK)=true)
  (oR:W.findIn K (.ref bK) "number" = some none)
  (Ek:W.findIn K (.ref bK) "ask" = some none)
  (El:W.findIn K (.ref bK) "cells" = some none)
  (alg:W.plainGet K bN Str.empty=true)
  (alh:W.hasDictIn K bN=true)
  (ali:W.plainOver K bN=true)
  (alj:W.findIn K (.ref bN) "__setattr__" = some (some (.builtin "object.__setattr__")))
  (alk:W.makesIn K bN=true)
  (alm:W.keepIn K (.ref bN)=true)
  (LU:W.findIn K (.ref bN) "keeping" = some none)
  (LV:W.findIn K (.ref bN) "plate" = some none)
  (Em:W.findIn K (.ref bN) "ring" = some none)
  (yE:W.findIn K (.ref bN) "beat" = some none)
  (En:W.findIn K (.ref bN) "left" = some none)
  (aln:W.plainGet K eT Str.empty=true)
  (alo:W.hasDictIn K eT=true)
  (alp:W.plainOver K eT=true)
  (alr:W.findIn K (.ref eT) "__setattr__" = some (some (.builtin "object.__setattr__")))
  (als:W.makesIn K eT=true)
  (alu:W.keepIn K (.ref eT)=true)
  (LW:W.findIn K (.ref eT) "rows" = some none)
  (uL:W.findIn K (.ref eT) "taken" = some none)
  (LX:W.findIn K (.ref eT) "told" = some none)
  (LY:W.findIn K (.ref eT) "answers" = some none)
  (LZ:W.findIn K (.ref eT) "end" = some none)
  (alv:W.plainGet K gP Str.empty=true)
  (alw:W.hasDictIn K gP=true)
  (alx:W.plainOver K gP=true)
  (aly:W.findIn K (.ref gP) "__setattr__" = some (some (.builtin "object.__setattr__")))
  (alz:W.makesIn K gP=true)
  (alA:W.keepIn K (.ref gP)=true)
  (alB:W.findIn K (.ref gP) "__init__" = some (some (.builtin "object.__init__")))
  (alC:W.plainGet K eo Str.empty=true)
  (alD:W.hasDictIn K eo=true)
  (alE:W.plainOver K eo=true)
  (alF:W.findIn K (.ref eo) "__setattr__" = some (some (.builtin "object.__setattr__")))
  (alG:W.makesIn K eo=true)
  (alH:W.keepIn K (.ref eo)=true)
  (alI:W.findIn K (.ref eo) "__init__" = some (some (.builtin "object.__init__")))
  (alJ:W.plainGet K eu Str.empty=true)
  (alK:W.hasDictIn K eu=true)
  (alL:W.plainOver K eu=true)
  (alM:W.findIn K (.ref eu) "__setattr__" = some (some (.builtin "object.__setattr__")))
  (alN:W.makesIn K eu=true)
  (alO:W.keepIn K (.ref eu)=true)
  (alP:W.findIn K (.ref eu) "__init__" = some (some (.builtin "object.__init__")))
  (alQ:W.plainGet K eB Str.empty=true)
  (alR:W.hasDictIn K eB=true)
  (alS:W.plainOver K eB=true)
  (alT:W.findIn K (.ref eB) "__setattr__" = some (some (.builtin "object.__setattr__")))
  (alU:W.makesIn K eB=true)
  (alV:W.keepIn K (.ref eB)=true)
  (alW:W.findIn K (.ref eB) "__init__" = some (some (.builtin "object.__init__")))
  (alX:W.plainGet K eE Str.empty=true)
  (alY:W.hasDictIn K eE=true)
  (alZ:W.plainOver K eE=true)
  (al0:W.findIn K (.ref eE) "__setattr__" = some (some (.builtin "object.__setattr__")))
  (al1:W.makesIn K eE=true)
  (al2:W.keepIn K (.ref eE)=true)
  (al3:W.findIn K (.ref eE) "__init__" = some (some (.builtin "object.__init__")))
  (al4:W.nsIn K mainGlobals "MOST_CELLS_asks" = some (some (.int 16 x6)))
  (al5:W.nsIn K mainGlobals "GREATEST_FIRST" = some (some (.int 1000000 x8)))
  (al6:W.nsIn K mainGlobals "GREATEST_AT" = some (some (.int 1000000000000 x9)))
  (al7:W.nsIn K mainGlobals "GREATEST_ASKER" = some (some (.int 20 x_)))
  (al8:W.nsIn K mainGlobals "GREATEST_LATEST" = some (some (.int 10000000000000 yc)))
  (al9:W.nsIn K mainGlobals "GREATEST_BEHIND" = some (some (.int 99 yd)))
  (al_:W.nsIn K mainGlobals "MOST_CELLS_settled" = some (some (.int 16 yf)))
  (ama:W.nsIn K mainGlobals "MOST_ZONES" = some (some (.int 5 yg)))
  (amb:W.nsIn K mainGlobals "MOST_RINGS_IN_ZONE" = some (some (.int 40 yh)))
  (amc:W.nsIn K mainGlobals "MOST_CELLS_IN_RING" = some (some (.int 60 yi)))
  (amd:W.nsIn K mainGlobals "LEAST_RINGS" = some (some (.int 2 yj)))
  (ame:W.nsIn K mainGlobals "MOST_RINGS" = some (some (.int 120 yl)))
  (amf:W.nsIn K mainGlobals "MOST_BEATS" = some (some (.int 1000000000 ym)))
  (yJ:W.nsIn K mainGlobals "abs" = some none)
  (yK:W.nsIn K mainGlobals "all" = some none)
  (rT:W.nsIn K mainGlobals "any" = some none)
  (Ep:W.nsIn K mainGlobals "bool" = some none)
  (L4:W.nsIn K mainGlobals "dict" = some none)
  (qm:W.nsIn K mainGlobals "enumerate" = some none)
  (yL:W.nsIn K mainGlobals "int" = some none)
  (rW:W.nsIn K mainGlobals "isinstance" = some none)
  (dg:W.nsIn K mainGlobals "len" = some none)
  (rX:W.nsIn K mainGlobals "list" = some none)
  (yM:W.nsIn K mainGlobals "max" = some none)
  (lY:W.nsIn K mainGlobals "min" = some none)
  (gZ:W.nsIn K mainGlobals "range" = some none)
  (Er:W.nsIn K mainGlobals "sorted" = some none)
  (Es:W.nsIn K mainGlobals "sum" = some none)
  (uM:W.nsIn K mainGlobals "tuple" = some none)
  (amg:Ft = .ref bg)
  (aoo:K.lookup bg=some ⟨.type "code",aib,.fields aar,aic⟩)
  (aop:aar[11]? = some (.ref aQ))
  (amh:W.codeHdIn K bg aQ=true)
  (ami:h.get? aQ=some (W.tabObj #[]))
  (amj:Fv = .ref bq)
  (aoq:K.lookup bq=some ⟨.type "code",aid,.fields aas,aie⟩)
  (aor:aas[11]? = some (.ref aX))
  (amk:W.codeHdIn K bq aX=true)
  (aml:h.get? aX=some (W.tabObj #[]))
  (amm:Fw = .ref br)
  (aos:K.lookup br=some ⟨.type "code",aif,.fields aat,aih⟩)
  (aot:aat[11]? = some (.ref aY))
  (amn:W.codeHdIn K br aY=true)
  (amo:h.get? aY=some (W.tabObj #[]))
  (Et:aQ≠aX)
  (Eu:aQ≠aY)
  (Ew:aX≠aY)
  : ∃(fd:FuncData) (tabs:List (Addr×Addr)),(∀(s:Shared) (v:Value),BindsTo s fd ⟨[v],[]⟩ [("_law_script",v)])/\W.TabsAt tabs h/\∀base:Heap,K.In base->base.Ns mainGlobals mg->(∀q∈tabs,au mg base q.1 q.2)->aZ l.prog w K mg base bu 12 fa fd ["_law_script"] (An K tabs):=by
 have e:=hfa.symm.trans (W.mg_of X G aaz);cases e;have F5:=HA (st:=iu) lx5 cx5 kx5;have F11:=fun_mk (st:=eS) aiO aiP aiQ;have F13:=fun_mk (st:=fU) aiT aiU aiV;have F14:=fun_mk (st:=fV) aiX aiY aiZ;have F27:=HA (st:=kK) ajl ajn ajo;have F68:=HA (st:=kL) akq akt aku;have F83:=fun_mk (st:=kM) akK akL akM;have b0:=F0.binds (ps:=["self", "kind", "first", "many", "marks", "at", "asker", "latest", "behind", "early"]) λ_ _ _ _ _ _=>ahE (λ_ _ _ _ _ _ _ _ _ _=>rfl)
 have b1:=F1.binds (ps:=["number", "least", "greatest", "words"]) λ_ _ _ _ _ _=>qu (λ_ _ _ _=>rfl);have b2:=F2.binds (ps:=["behind"]) λ_ _ _ _ _ _=>fM (λ_=>rfl)
 have b3:=F3.binds (ps:=["first", "many", "at", "asker", "latest", "behind"]) λ_ _ _ _ _ _=>YS (λ_ _ _ _ _ _=>rfl)
 have b4:=F4.binds (ps:=["behind"]) λ_ _ _ _ _ _=>fM (λ_=>rfl)
 have amq:Binds K (W.fnOf "reading" "reading" (fc iu) (dJ iu) (aN iu) (.ref ve) zh zj zm zg vg zo) ["first", "many", "at", "asker", "latest", "behind"] [.int 0 Ou,.none,.none]:=zb 3 rfl λs X=>jx λ_ _ _=>W.binds_K X rfl FA rfl rfl rfl
 have amr:Binds K (W.fnOf "reading" "reading" (fc iu) (dJ iu) (aN iu) (.ref ve) zh zj zm zg vg zo) ["first", "many", "at", "asker", "latest", "behind"] [.none,.none]:=zb 4 rfl λs X=>qu λ_ _ _ _=>W.binds_K X rfl FA rfl rfl rfl
 have ams:Binds K (W.fnOf "reading" "reading" (fc iu) (dJ iu) (aN iu) (.ref ve) zh zj zm zg vg zo) ["first", "many", "at", "asker", "latest", "behind"] [.none]:=zb 5 rfl λs X=>o9 λ_ _ _ _ _=>W.binds_K X rfl FA rfl rfl rfl
 have b6:=F6.binds (ps:=["one", "other"]) λ_ _ _ _ _ _=>fD (λ_ _=>rfl);have b7:=F7.binds (ps:=["plate", "ring", "place", "beat"]) λ_ _ _ _ _ _=>qu (λ_ _ _ _=>rfl);have b8:=F8.binds (ps:=["plate", "ring", "beat", "cells"]) λ_ _ _ _ _ _=>qu (λ_ _ _ _=>rfl);have b9:=F9.binds (ps:=["due"]) λ_ _ _ _ _ _=>fM (λ_=>rfl)
 have b10:=F10.binds (ps:=["dues"]) λ_ _ _ _ _ _=>fM (λ_=>rfl)
 have b11:=F11.binds (ps:=["ring", "dues"]) λ_ _ _ _ _ _=>fD (λ_ _=>rfl);have b12:=F12.binds (ps:=["plate", "ring", "beat", "due"]) λ_ _ _ _ _ _=>qu (λ_ _ _ _=>rfl);have b13:=F13.binds (ps:=["plate", "ring", "beat", "dues"]) λ_ _ _ _ _ _=>qu (λ_ _ _ _=>rfl);have b14:=F14.binds (ps:=["dues"]) λ_ _ _ _ _ _=>fM (λ_=>rfl)
 have b15:=FD.binds (ps:=["self", "plate", "ring", "beat", "dues"]) λ_ _ _ _ _ _=>o9 (λ_ _ _ _ _=>rfl);have b16:=sC.binds (ps:=["self"]) λ_ _ _ _ _ _=>fM (λ_=>rfl)
 have b17:=Ox.binds (ps:=["self", "plate", "ring", "beat", "dues"]) λ_ _ _ _ _ _=>o9 (λ_ _ _ _ _=>rfl);have b18:=Oz.binds (ps:=["self", "plate", "ring", "beat", "dues"]) λ_ _ _ _ _ _=>o9 (λ_ _ _ _ _=>rfl);have b19:=OA.binds (ps:=["self", "plate", "ring", "beat", "dues"]) λ_ _ _ _ _ _=>o9 (λ_ _ _ _ _=>rfl);have b20:=F20.binds (ps:=["plate"]) λ_ _ _ _ _ _=>fM (λ_=>rfl)
 have b21:=F21.binds (ps:=["count", "at", "asker"]) λ_ _ _ _ _ _=>jx (λ_ _ _=>rfl);have b22:=F22.binds (ps:=["plate", "most"]) λ_ _ _ _ _ _=>fD (λ_ _=>rfl);have b23:=F23.binds (ps:=["plate"]) λ_ _ _ _ _ _=>fM (λ_=>rfl)
 have b24:=F24.binds (ps:=["plate", "word", "most"]) λ_ _ _ _ _ _=>jx (λ_ _ _=>rfl);have b25:=F25.binds (ps:=["inward", "ring", "dues"]) λ_ _ _ _ _ _=>jx (λ_ _ _=>rfl);have b26:=F26.binds (ps:=["dues"]) λ_ _ _ _ _ _=>fM (λ_=>rfl)
 have amt:Binds K (W.fnOf "__init__" "Lift.__init__" (fc kK) (dJ kK) (aN kK) (.ref EY) Od Oe Of Oa Fx Og) ["self", "calm"] []:=zb 2 rfl λs X=>fD λ_ _=>W.binds_K X rfl ajm rfl rfl rfl;have b28:=FE.binds (ps:=["self"]) λ_ _ _ _ _ _=>fM (λ_=>rfl)
 have b29:=FF.binds (ps:=["self", "plate", "ring", "beat", "dues"]) λ_ _ _ _ _ _=>o9 (λ_ _ _ _ _=>rfl);have b30:=FG.binds (ps:=["self", "dues"]) λ_ _ _ _ _ _=>fD (λ_ _=>rfl);have b31:=OB.binds (ps:=["self", "ring", "dues"]) λ_ _ _ _ _ _=>jx (λ_ _ _=>rfl);have Ih:=OC.binds (ps:=["self", "ring", "dues"]) λ_ _ _ _ _ _=>jx (λ_ _ _=>rfl);have b33:=F33.binds (ps:=["zones"]) λ_ _ _ _ _ _=>fM (λ_=>rfl)
 have b34:=F34.binds (ps:=["zones", "lap", "skew"]) λ_ _ _ _ _ _=>jx (λ_ _ _=>rfl);have b35:=F35.binds (ps:=["swing", "rings"]) λ_ _ _ _ _ _=>fD (λ_ _=>rfl);have b36:=F36.binds (ps:=["swing"]) λ_ _ _ _ _ _=>fM (λ_=>rfl)
 have b37:=F37.binds (ps:=["zones"]) λ_ _ _ _ _ _=>fM (λ_=>rfl)
 have b38:=F38.binds (ps:=["ring_cells", "spares"]) λ_ _ _ _ _ _=>fD (λ_ _=>rfl);have b39:=F39.binds (ps:=["number_cells"]) λ_ _ _ _ _ _=>fM (λ_=>rfl)
 have b40:=F40.binds (ps:=["self", "zones", "lap", "skew", "swing"]) λ_ _ _ _ _ _=>o9 (λ_ _ _ _ _=>rfl);have b41:=OD.binds (ps:=["self"]) λ_ _ _ _ _ _=>fM (λ_=>rfl)
 have b42:=OE.binds (ps:=["self"]) λ_ _ _ _ _ _=>fM (λ_=>rfl)
 have b43:=OF.binds (ps:=["self", "ring"]) λ_ _ _ _ _ _=>fD (λ_ _=>rfl);have b44:=OG.binds (ps:=["self", "ring"]) λ_ _ _ _ _ _=>fD (λ_ _=>rfl);have b45:=OH.binds (ps:=["self"]) λ_ _ _ _ _ _=>fM (λ_=>rfl)
 have b46:=OI.binds (ps:=["self", "ring", "place"]) λ_ _ _ _ _ _=>jx (λ_ _ _=>rfl);have b47:=OJ.binds (ps:=["self", "ring", "other"]) λ_ _ _ _ _ _=>jx (λ_ _ _=>rfl);have b48:=OL.binds (ps:=["self", "ring", "place"]) λ_ _ _ _ _ _=>jx (λ_ _ _=>rfl);have b49:=OM.binds (ps:=["self", "number"]) λ_ _ _ _ _ _=>fD (λ_ _=>rfl);have b50:=ON.binds (ps:=["self", "ring", "place"]) λ_ _ _ _ _ _=>jx (λ_ _ _=>rfl);have b51:=F51.binds (ps:=["plate", "ask"]) λ_ _ _ _ _ _=>fD (λ_ _=>rfl);have b52:=F52.binds (ps:=["plate", "number", "ask"]) λ_ _ _ _ _ _=>jx (λ_ _ _=>rfl);have b53:=F53.binds (ps:=["self", "plate", "number", "ask"]) λ_ _ _ _ _ _=>qu (λ_ _ _ _=>rfl);have b54:=F54.binds (ps:=["asks", "number"]) λ_ _ _ _ _ _=>fD (λ_ _=>rfl);have b55:=F55.binds (ps:=["asks", "number"]) λ_ _ _ _ _ _=>fD (λ_ _=>rfl);have b56:=F56.binds (ps:=["asks", "number"]) λ_ _ _ _ _ _=>fD (λ_ _=>rfl);have b57:=F57.binds (ps:=["plate", "asks"]) λ_ _ _ _ _ _=>fD (λ_ _=>rfl);have b58:=F58.binds (ps:=["self", "plate", "asks", "ring"]) λ_ _ _ _ _ _=>qu (λ_ _ _ _=>rfl);have b59:=OO.binds (ps:=["self"]) λ_ _ _ _ _ _=>fM (λ_=>rfl)
 have b60:=OP.binds (ps:=["self", "number"]) λ_ _ _ _ _ _=>fD (λ_ _=>rfl);have b61:=OQ.binds (ps:=["self"]) λ_ _ _ _ _ _=>fM (λ_=>rfl)
 have b62:=OR.binds (ps:=["self", "number"]) λ_ _ _ _ _ _=>fD (λ_ _=>rfl);have b63:=F63.binds (ps:=["self", "rows", "taken", "told", "answers", "end"]) λ_ _ _ _ _ _=>YS (λ_ _ _ _ _ _=>rfl);have b64:=F64.binds (ps:=["rows"]) λ_ _ _ _ _ _=>fM (λ_=>rfl)
 have b65:=F65.binds (ps:=["ask"]) λ_ _ _ _ _ _=>fM (λ_=>rfl)
 have b66:=F66.binds (ps:=["asks", "picks"]) λ_ _ _ _ _ _=>fD (λ_ _=>rfl);have b67:=F67.binds (ps:=["asks", "ends", "shelf"]) λ_ _ _ _ _ _=>jx (λ_ _ _=>rfl);have amu:Binds K (W.fnOf "play" "play" (fc kL) (dJ kL) (aN kL) (.ref Fq) Oh Oi Oj Ob Fy Ol) ["plate", "asks", "rule", "ring", "shelf"] [.int 0 Ov,.int 0 Ow]:=zb 3 rfl λs X=>jx λ_ _ _=>W.binds_K X rfl akr rfl rfl rfl;have b69:=F69.binds (ps:=["_law_script", "_law_k"]) λ_ _ _ _ _ _=>fD (λ_ _=>rfl);have b70:=F70.binds (ps:=["_law_cell", "_law_k"]) λ_ _ _ _ _ _=>fD (λ_ _=>rfl);have b71:=F71.binds (ps:=["_law_a", "_law_b"]) λ_ _ _ _ _ _=>fD (λ_ _=>rfl);have b72:=F72.binds (ps:=["_law_zones_here"]) λ_ _ _ _ _ _=>fM (λ_=>rfl)
 have b73:=F73.binds (ps:=["_law_zones_here", "_law_cell"]) λ_ _ _ _ _ _=>fD (λ_ _=>rfl);have b74:=F74.binds (ps:=["_law_many", "_law_cell"]) λ_ _ _ _ _ _=>fD (λ_ _=>rfl);have b75:=F75.binds (ps:=["_law_word"]) λ_ _ _ _ _ _=>fM (λ_=>rfl)
 have b76:=F76.binds (ps:=["_law_taken"]) λ_ _ _ _ _ _=>fM (λ_=>rfl)
 have b77:=F77.binds (ps:=["_law_asks", "_law_taken"]) λ_ _ _ _ _ _=>fD (λ_ _=>rfl);have b78:=F78.binds (ps:=["_law_asks", "_law_least", "_law_most"]) λ_ _ _ _ _ _=>jx (λ_ _ _=>rfl);have b79:=F79.binds (ps:=["_law_plate", "_law_cells"]) λ_ _ _ _ _ _=>fD (λ_ _=>rfl);have b80:=F80.binds (ps:=["_law_plate", "_law_word", "_law_most", "_law_found", "_law_cells"]) λ_ _ _ _ _ _=>o9 (λ_ _ _ _ _=>rfl);have b81:=F81.binds (ps:=["_law_ask", "_law_beats"]) λ_ _ _ _ _ _=>fD (λ_ _=>rfl);have b82:=F82.binds (ps:=["_law_plate", "_law_word", "_law_most", "_law_found", "_law_times"]) λ_ _ _ _ _ _=>o9 (λ_ _ _ _ _=>rfl);have b83:=F83.binds (ps:=["_law_script"]) λ_ _ _ _ _ _=>fM (λ_=>rfl)
 let A:fW:={ A6:=EO,A7:=Y_,A8:=M8,A9:=ue,A_:=M9,Ba:=uf,Bb:=M_,Bc:=Za,Be:=Na,Bf:=Zb,Bg:=ER,rP:=(W.fnOf "reading" "reading" (fc iu) (dJ iu) (aN iu) (.ref ve) zh zj zm zg vg zo),Bh:=Ou,Bj:=Nb,Bk:=Zc,Bl:=Nc,Bm:=Zd,Bo:=Nd,Bp:=Ze,Bq:=Nf,Br:=Zf,Bs:=Ng,Bu:=Zg,xC:=ES,uB:=(W.fnOf "nearest_of" "nearest_of" (fc eS) (dJ eS) (aN eS) .none YW YX YY YT Ft YZ),Bv:=Nh,Bw:=Zh,xE:=ET,uC:=(W.fnOf "soonest_of" "soonest_of" (fc fU) (dJ fU) (aN fU) .none Y0 Y3 Y4 YU Fv Y5),xF:=EU,uD:=(W.fnOf "latest_of" "latest_of" (fc fV) (dJ fV) (aN fV) .none Y6 Y7 Y8 YV Fw Y9),uE:=zc,Bx:=Zi,oN:=qw,By:=Zj,xG:=EV,BA:=Zk,xH:=EW,BB:=Zl,xJ:=EX,BC:=Zm,BD:=Ni,BE:=Zo,BF:=Nj,BG:=Zp,BH:=Nk,BI:=Zq,BJ:=Nl,BK:=Zr,BL:=Nm,BN:=Zu,BO:=Nn,BP:=Zv,BQ:=Np,BR:=Zw,xK:=vf,BS:=(W.fnOf "__init__" "Lift.__init__" (fc kK) (dJ kK) (aN kK) (.ref EY) Od Oe Of Oa Fx Og),uF:=zd,BU:=Zx,uG:=ze,BV:=Zy,uH:=zf,BW:=Zz,xM:=EZ,BX:=ZA,xN:=E1,BY:=ZC,BZ:=Nq,B0:=ZD,B3:=Nr,B4:=ZE,B5:=Nt,B6:=ZF,B7:=Nu,B8:=ZG,B9:=Nv,B_:=ZI,Ca:=Nx,Cb:=ZJ,Cc:=Ny,Cd:=ZK,Ce:=E3,Cf:=ZM,xO:=E4,Cg:=ZN,xP:=E5,Ci:=ZO,xQ:=E6,Cj:=ZP,xR:=E7,Ck:=ZQ,xS:=E8,Cm:=ZR,xT:=E9,Cn:=ZS,xU:=E_,Co:=ZT,xV:=Fb,Cp:=ZU,xW:=Fc,Cq:=ZV,xX:=Fd,Cr:=ZW,Cs:=Nz,Ct:=ZX,Cu:=NB,Cv:=ZY,Cw:=Fe,Cy:=ZZ,Cz:=NC,CB:=Z0,CF:=ND,CG:=Z1,CH:=NF,CI:=Z2,CJ:=NG,CK:=Z3,CM:=Ff,CN:=Z4,CO:=Fg,CQ:=Z5,CT:=Fi,CU:=Z6,CV:=Fj,CW:=Z7,CY:=Fl,CZ:=Z8,C1:=Fo,C2:=Z9,C3:=NH,C4:=Z_,C5:=NI,C6:=aaa,C7:=NJ,C8:=aab,C9:=NK,C_:=aac,Dc:=Fp,De:=(W.fnOf "play" "play" (fc kL) (dJ kL) (aN kL) (.ref Fq) Oh Oi Oj Ob Fy Ol),xY:=Ov,xZ:=Ow,Df:=NL,Dg:=aad,Dh:=NN,Di:=aae,Dj:=NO,Dk:=aaf,Dl:=NP,Dm:=aag,Dn:=NQ,Dp:=aah,Dq:=NR,Ds:=aai,Dt:=NS,Du:=aaj,Dv:=NT,Dw:=aak,Dy:=NU,Dz:=aal,DA:=NV,DB:=aam,DC:=NW,DE:=aan,DF:=NY,DG:=aao,DH:=NZ,DI:=aap,DJ:=N9,DK:=aaq,DL:=fa,DM:=(W.fnOf "law" "law" (fc kM) (dJ kM) (aN kM) .none Om Oo Oq Oc Fz Ot),a_:=a_,bQ:=bQ,bV:=bV,bx:=bx,bK:=bK,bN:=bN,eT:=eT,gP:=gP,eo:=eo,eu:=eu,eB:=eB,eE:=eE,x6:=x6,x8:=x8,x9:=x9,x_:=x_,yc:=yc,yd:=yd,yf:=yf,yg:=yg,yh:=yh,yi:=yi,yj:=yj,yl:=yl,ym:=ym,bg:=bg,aQ:=aQ,bq:=bq,aX:=aX,br:=br,aY:=aY,qg:=qg,qh:=qh }
 have T:Tx K mg A:={ T8:=F0,T9:=b0,qi:=F1,rQ:=b1,rR:=W.mg_of X G ax1,KA:=F2,T_:=b2,Ua:=W.mg_of X G ax2,KC:=F3,Ub:=b3,Uc:=W.mg_of X G ax3,KD:=F4,Ud:=b4,Ue:=W.mg_of X G ax4,rS:=F5,Ug:=amq,Uh:=amr,KG:=ams,uI:=W.mg_of X G ax5,KH:=F6,Ui:=b6,Uj:=W.mg_of X G ax6,KI:=F7,Uk:=b7,Ul:=W.mg_of X G ax7,DN:=F8,KJ:=b8,KL:=W.mg_of X G ax8,yp:=F9,DO:=b9,DP:=W.mg_of X G ax9,DQ:=F10,KN:=b10,KO:=W.mg_of X G aiM,uJ:=F11,yq:=b11,yr:=W.mg_of X G aiN,KP:=F12,Um:=b12,Uo:=W.mg_of X G aiR,KQ:=F13,Up:=b13,Uq:=W.mg_of X G aiS,KR:=F14,Ur:=b14,Us:=W.mg_of X G aiW,Ut:=FD,Uu:=b15,Uv:=⟨ai0,aau,FD.kp⟩,KS:=⟨ai1,aau,FD.kp⟩,Uw:=sC,yt:=b16,Ux:=⟨ai2,zp,sC.kp⟩,KU:=⟨ai3,zp,sC.kp⟩,KW:=⟨ai4,zp,sC.kp⟩,KY:=⟨ai5,zp,sC.kp⟩,KZ:=⟨ai6,zp,sC.kp⟩,Uy:=Ox,Uz:=b17,K0:=⟨ai7,ai8,Ox.kp⟩,UA:=Oz,UB:=b18,K1:=⟨ai9,ai_,Oz.kp⟩,UC:=OA,UD:=b19,K2:=⟨aja,ajb,OA.kp⟩,DR:=F20,K3:=b20,K4:=W.mg_of X G ajc,K5:=F21,UE:=b21,UG:=W.mg_of X G ajd,K6:=F22,UH:=b22,UI:=W.mg_of X G aje,K7:=F23,UJ:=b23,UK:=W.mg_of X G ajf,K8:=F24,UL:=b24,UM:=W.mg_of X G ajg,yu:=F25,DS:=b25,DT:=W.mg_of X G ajh,K9:=F26,UN:=b26,UO:=W.mg_of X G aji,UP:=F27,K_:=amt,UQ:=FE,DU:=b28,La:=⟨ajp,aaw,FE.kp⟩,Lb:=⟨ajq,aaw,FE.kp⟩,UR:=FF,Lc:=b29,Ld:=⟨ajr,aax,FF.kp⟩,Le:=⟨ajs,aax,FF.kp⟩,US:=FG,UT:=b30,UU:=⟨ajt,aay,FG.kp⟩,UW:=⟨aju,aay,FG.kp⟩,UX:=OB,UY:=b31,UZ:=⟨ajv,ajw,OB.kp⟩,U0:=OC,U1:=Ih,U3:=⟨ajx,ajy,OC.kp⟩,Lf:=F33,U4:=b33,U5:=W.mg_of X G ajz,Lg:=F34,U6:=b34,U7:=W.mg_of X G ajA,Lh:=F35,U8:=b35,U9:=W.mg_of X G ajB,Li:=F36,U_:=b36,Va:=W.mg_of X G ajC,Lj:=F37,Vb:=b37,Vc:=W.mg_of X G ajD,Lk:=F38,Vd:=b38,Ve:=W.mg_of X G ajE,Ll:=F39,Vf:=b39,Vg:=W.mg_of X G ajF,Vh:=F40,Vi:=b40,Vj:=OD,agi:=b41,Vk:=⟨ajI,ajJ,OD.kp⟩,Vl:=OE,Lm:=b42,Vm:=⟨ajK,ajL,OE.kp⟩,Vn:=OF,Vo:=b43,Vp:=⟨ajM,ajN,OF.kp⟩,Vq:=OG,DV:=b44,Vr:=⟨ajO,ajP,OG.kp⟩,Vs:=OH,DW:=b45,Vt:=⟨ajQ,ajR,OH.kp⟩,Vu:=OI,Vv:=b46,Vw:=⟨ajS,ajT,OI.kp⟩,Vx:=OJ,Vy:=b47,Vz:=⟨ajU,ajV,OJ.kp⟩,VA:=OL,VB:=b48,VC:=⟨ajW,ajX,OL.kp⟩,VD:=OM,VE:=b49,VF:=⟨ajY,ajZ,OM.kp⟩,VG:=ON,VH:=b50,VI:=⟨aj0,aj1,ON.kp⟩,Ln:=F51,VJ:=b51,VL:=W.mg_of X G aj2,DX:=F52,Lo:=b52,Lq:=W.mg_of X G aj3,VM:=F53,VN:=b53,Lr:=F54,VO:=b54,VP:=W.mg_of X G aj6,Ls:=F55,VQ:=b55,VR:=W.mg_of X G aj7,Lu:=F56,VS:=b56,VT:=W.mg_of X G aj8,Lv:=F57,VU:=b57,VV:=W.mg_of X G aj9,VW:=F58,VX:=b58,VY:=OO,VZ:=b59,V0:=⟨akb,akc,OO.kp⟩,V1:=OP,V2:=b60,V3:=⟨akd,ake,OP.kp⟩,V4:=OQ,V5:=b61,V6:=⟨akf,akg,OQ.kp⟩,V7:=OR,V8:=b62,V9:=⟨akh,aki,OR.kp⟩,V_:=F63,Wa:=b63,Lw:=F64,Wb:=b64,Wc:=W.mg_of X G akl,Lx:=F65,Wd:=b65,We:=W.mg_of X G akm,Ly:=F66,Wf:=b66,Wg:=W.mg_of X G akn,Lz:=F67,Wh:=b67,Wi:=W.mg_of X G ako,yw:=F68,DY:=amu,DZ:=W.mg_of X G akp,lX:=F69,ni:=b69,nj:=W.mg_of X G akv,dO:=F70,eF:=b70,eG:=W.mg_of X G akw,LA:=F71,Wj:=b71,Wk:=W.mg_of X G akx,LB:=F72,Wl:=b72,Wm:=W.mg_of X G aky,LC:=F73,Wn:=b73,Wo:=W.mg_of X G akz,LD:=F74,Wq:=b74,Wr:=W.mg_of X G akA,yx:=F75,D0:=b75,D3:=W.mg_of X G akB,D4:=F76,LF:=b76,LG:=W.mg_of X G akC,D5:=F77,LH:=b77,LI:=W.mg_of X G akD,yy:=F78,D6:=b78,D7:=W.mg_of X G akE,LJ:=F79,Ws:=b79,Wu:=W.mg_of X G akG,LK:=F80,Wv:=b80,Ww:=W.mg_of X G akH,LL:=F81,Wx:=b81,Wy:=W.mg_of X G akI,LM:=F82,Wz:=b82,WA:=W.mg_of X G akJ,WB:=F83,agj:=b83,agk:=W.mg_of X G aaz,kN:=⟨akN,akO,akP,akQ⟩,WC:=⟨akR,ax0,ix0,akS⟩,WD:=W.mg_of X G aiA,yz:=yz,LN:=LN,LO:=LO,LQ:=LQ,qj:=qj,LR:=LR,yC:=yC,yD:=yD,LS:=LS,nq:=⟨akT,akU,akV,akW⟩,WE:=⟨akX,ajj,aav,akY⟩,WG:=W.mg_of X G aiB,D8:=D8,uK:=uK,D9:=D9,qk:=⟨akZ,ak0,ak1,ak2⟩,WH:=⟨ak3,ajk,aav,ak4⟩,WI:=W.mg_of X G aiC,D_:=D_,Ea:=Ea,Eb:=Eb,kO:=⟨ak5,ak6,ak7,ak8⟩,WJ:=⟨ak9,ajG,ajH,ak_⟩,WK:=W.mg_of X G aiD,Ec:=Ec,Ef:=Ef,Eg:=Eg,Eh:=Eh,Ei:=Ei,Ej:=Ej,oO:=⟨ala,alb,alc,ald⟩,WL:=⟨ale,aj4,aj5,alf⟩,WM:=W.mg_of X G aiE,oR:=oR,Ek:=Ek,El:=El,oU:=⟨alg,alh,ali,alj⟩,WN:=⟨alk,aj_,aka,alm⟩,WO:=W.mg_of X G aiF,LU:=LU,LV:=LV,Em:=Em,yE:=yE,En:=En,Eo:=⟨aln,alo,alp,alr⟩,WQ:=⟨als,akj,akk,alu⟩,WR:=W.mg_of X G aiG,LW:=LW,uL:=uL,LX:=LX,LY:=LY,LZ:=LZ,L0:=⟨alv,alw,alx,aly⟩,agl:=⟨alz,alB,alA⟩,agm:=W.mg_of X G aiH,yF:=⟨alC,alD,alE,alF⟩,WS:=⟨alG,alI,alH⟩,WT:=W.mg_of X G aiI,yG:=⟨alJ,alK,alL,alM⟩,WU:=⟨alN,alP,alO⟩,WV:=W.mg_of X G aiJ,yH:=⟨alQ,alR,alS,alT⟩,WW:=⟨alU,alW,alV⟩,WX:=W.mg_of X G aiK,yI:=⟨alX,alY,alZ,al0⟩,WY:=⟨al1,al3,al2⟩,WZ:=W.mg_of X G aiL,W0:=W.mg_of X G al4,W3:=W.mg_of X G al5,W4:=W.mg_of X G al6,W5:=W.mg_of X G al7,W6:=W.mg_of X G al8,W7:=W.mg_of X G al9,L1:=W.mg_of X G al_,W8:=W.mg_of X G ama,W9:=W.mg_of X G amb,W_:=W.mg_of X G amc,Xa:=W.mg_of X G amd,Xb:=W.mg_of X G ame,L3:=W.mg_of X G amf,yJ:=W.mg_none_of X G yJ,yK:=W.mg_none_of X G yK,rT:=W.mg_none_of X G rT,Ep:=W.mg_none_of X G Ep,L4:=W.mg_none_of X G L4,qm:=W.mg_none_of X G qm,yL:=W.mg_none_of X G yL,rW:=W.mg_none_of X G rW,dg:=W.mg_none_of X G dg,rX:=W.mg_none_of X G rX,yM:=W.mg_none_of X G yM,lY:=W.mg_none_of X G lY,gZ:=W.mg_none_of X G gZ,Er:=W.mg_none_of X G Er,Es:=W.mg_none_of X G Es,uM:=W.mg_none_of X G uM,Xc:=amg,Xd:=amj,Xe:=amm,Xf:=ae0 (λs a b c w X=>W.binds_K X rfl FA rfl rfl rfl) rfl,Xg:=W.mg_of X G aiw,Xh:=⟨_,_,_,aix,rfl,rfl,(show 3<=sizeLine by decide),(.cons ⟨_,rfl⟩ (.cons ⟨_,rfl⟩ (.cons ⟨_,rfl⟩ .nil)))⟩,Xi:=W.mg_of X G aiy,Xj:=⟨_,_,_,aiz,rfl,rfl,(show 5<=sizeLine by decide),(.cons ⟨_,rfl⟩ (.cons ⟨_,rfl⟩ (.cons ⟨_,rfl⟩ (.cons ⟨_,rfl⟩ (.cons ⟨_,rfl⟩ .nil)))))⟩,Et:=Et,Eu:=Eu,Ew:=Ew }
 have hT:W.TabsAt [(bg,aQ),(bq,aX),(br,aY)] h:=by
  intro q hq;simp only[List.mem_cons,List.not_mem_nil,or_false] at hq;rcases hq with rfl | rfl | rfl
  ·exact⟨W.codeHd_of_K X amh,ami⟩
  ·exact⟨W.codeHd_of_K X amk,aml⟩
  ·exact⟨W.codeHd_of_K X amn,amo⟩
 exact⟨(W.fnOf "law" "law" (fc kM) (dJ kM) (aN kM) .none Om Oo Oq Oc Fz Ot),[(bg,aQ),(bq,aX),(br,aY)],λs v=>.of_eq rfl,hT,λbase _ _ hL=>ahD T (hL (bg,aQ) (by simp)) (hL (bq,aX) (by simp)) (hL (br,aY) (by simp))⟩
end _W
/-! aou names are taken,so aov no fast copy is laid of the largest tables: the compiled file stays small -/
structure PySem.W.Fast:Prop where(tw10725671395507119524 tw1994053269280343038 tw1242372282193521963 tw10643433246574473580 tw11206626350774934767 tw12929634246551840804 tw13119875148363667525 tw17536848457581692820 tw11396612788089859203 tw5317395892315839929 tw4156469928018382274 tw12792204197073007888 tw15608567578340407338 tw4200023585496376652 tw8902102108217098498 tw1468669969210739531 tw10778450682407679701 tw7575175385562246367 tw15508512257801955873 tw2330820406839283174 tw18425513224712340393 tw197535540056844803 tw4515524411944617107 tw16515308576405403678 tw14128131946268754162 tw1265584436821313559 tw1583754992896741035 tw4572419349872534526 tw13036857557662655072 tw2490312566302063903 tw1260174070228750566 tw2486685414437368302 tw5176328362890005264 tw11374549414493814788 tw13198847088366350454 tw11661590906093081661 tw18409413523590472479 tw62538986041636548 tw18044248379362045116 tw9983607205080281806 tw10922770776519344138 tw10688516862637544947 tw12597290852203022151 tw1616574013602487621 tw3942329084740905678 tw11952496591535838181 tw15016578135421314070 tw16509453517942688340 tw8487619715741001824 tw16372855337712820836 tw13415849089822230850 tw16787758724851819108 tw14418916142625347394 tw3732628410534136628 tw10949611917840213344 tw9078970686571174728 tw11019833594267747873 tw12520320548150872842 tw13213881856591319119 tw5788335110430887600 tw15186891085940683068 tw13780125930825311350 tw1888933985909504267 tw16319168429462435663 tw16918787801895178046 tw12788965620433457369 tw3099080801915285981 tw13186146675545827799 tw6231773788110991802 tw11526897961515974634 tw17293372058476835116 tw463274279715072119 tw7700374737001979945 tw11494523342142983625 tw14473769935453676988 tw15445583530878924809 tw5719538289393033598 tw3341486338878163881 tw9085212794176177427 tw15089816700597910423 tw6736612883066822012 tw12079072123918715250 tw6155077869247129996 tw5743119990960708900 tw8408178802157111250 tw6462997673589527188 tw2759056551135040860 tw12050468185539270779 tw12378468647680398485 tw6584628733848426123 tw2938585483973734677 tw12086250980543439142 tw8659014520024293401 tw6208895759923180062 tw13314465633490130186 tw942327518574602329 tw436186783778539642 tw5400805671601263585 tw7364024801479962489 tw12836366387874233014 tw17074380814316230763 tw17555797998188349568 tw17411141981863322446 tw17905475833883773685 tw2253043737622780405 tw4183240504388917619 tw13798070300779361734 tw2182054932838962130 tw11447009637211497725 tw8736006212389574330 tw8048931796878460101 tw7114649338331035433 tw13126764413983430578 tw9755472918031640435 tw14068086689136716201 tw2338473492826365623 tw11523320467718759651 tw965350650226081910 tw7441173314899880669 tw8812363978929348130 tw10207475277934286721 tw15969748091806872606 tw3130161561699322517 tw4219557889175510884 tw1381197175828461205 tw7363688540190434999 tw3718392168274880932 tw2937983796043936361 tw3358093889337745080 tw5223926341629123792 tw4912233720329899992 tw3252541735390241160 tw12816624093996754698 tw1437165914290547219 tw5374462931112047004 tw16365187638221906674 tw1594731544345140690 tw8145233504260667752 tw2077025212710760206 tw2302804339804836466 tw8412648904214191430 tw8611589207163208972 tw10528054160776346957 tw1995401103745264359 tw2593416442933339797 tw12381035516461800200 tw8928117385180357774 tw16378877969869538628 tw14757896602815407523 tw4764810078694773721 tw17339936110604825582 tw12379605918572299429 tw3673411933004398884 tw16092591791233077570 tw3777108496671587843 tw2556822279615878631 tw16115324815803271093 tw6280742923122143117 tw33884945777323065 tw14684294056010233125 tw6281257462852842345 tw12131871915040340292 tw2557809487165769848 tw11301986023975885173 tw699593703941686427 tw12584967864560228317 tw2938699069940052219 tw6740463212952184186 tw8904919238019228944 tw17773250148917345953 tw7638260494290989205 tw5346933896482823603 tw7641332599868275475 tw6629314916262806648 tw11423375338633471890 tw15547257582710215492 tw4538311060546919 tw8238075021956436114 tw15518282041391735336 tw17298429732410819542 tw7982980831580366414 tw16180088128697321742 tw15305536120753613685 tw6961689319866399308 tw4805355575283102079 tw15140337332271405359 tw5518225620108630613 tw2654237484078265763 tw12441914491918275905 tw3902256899887429410 tw12154681404244109969 tw15136139187043297244 tw17217821273401777502 tw10876724343569729407 tw14857868181201446128 tw6169916588096185308 tw11709828764260745674 tw18352537209957917522 tw9592734399027451707 tw4143586951626377285 tw4983170133490611603 tw11893771955814475157 tw13368973967874212027 tw10103164885004477976 tw4157272926340236935 tw16120027414092520492 tw653001317306056341 tw2316717695069446433 tw1255634985973405559 tw3487269394795045503 tw10100807789919766888 tw7369379204345250569 tw13515677550668447242 tw9980363260569097713 tw7120254655893842964 tw1119413233683339969 tw6339163527635787521 tw2796760651388757833 tw10994536665065692092 tw32814649108587298 tw11382301298888298559 tw17143429298966386645 tw12188828869032976626 tw10894193585929249259 tw7666031830284814438 tw7291031532134345907 tw6488817040559705988 tw17436120133545389193 tw607426051340460341 tw16990548821374345564 tw16170744331822634423 tw15574428143672168028 tw17354613108769191994 tw13713504842752928159 tw16482447920670364870 tw3246615257722707938 tw2784781343975088450 tw15727402154190519850 tw10369966065500122868 tw374923346185285304 tw5380282786343572020 tw10640505859956124126 tw12374578149832849985 tw17674008291029624258 tw12117778480072466083 tw16757234666210982825 tw1217117747902677139 tw6557367303177503959 tw11978183356812532834 tw2901491582591470821 tw12001066750491167032 tw17133246894370560080 tw11819756902271382752 tw976362932851110596 tw14522059640534816950 tw13081339618200541322 tw8435366749645673710 tw12543506984054942589 tw452008513159360278 tw18113516511729119227 tw10400075604883068144 tw11866032268823622433 tw13179215855674670835 tw16873291287998398225 tw8627848942715921592 tw6704987799545128149 tw16774536358192467820 tw16757063820494114913 tw3156918917698487515 tw3939808642001433384 tw13519606088660281502 tw6668582277494399167 tw97322826064249770 tw17319476655663999909 tw16861506934820096311 tw7842917206499786529 tw7119041293050812256 tw16110069533852316531 tw4486233129687069555 tw7632556754688273947:True)
open PySem PySem.W PyProof.Rows
set_option maxHeartbeats 0 in
theorem PySem.Challenge.cw_armswing_k93_whole_waiting_settled_holds : PySem.Challenge.rw_armswing_k93_whole_waiting_settled.Holds := by
 w_on; o_law; k_head; (case hw => w_witness2)
 k_fill
 refine _L.walk_lawT (l := PySem.Challenge.rw_armswing_k93_whole_waiting_settled) (k := 12) (x := "_law_script") rfl rfl ⟨rfl, by decide, by decide⟩ (λw h Y => PySem.W.km_in_of Y) ?nt ?F
 case nt => intro w; first | k_is | rfl
 case F =>
  intro w mg fa h Y KX G hmg
  refine' _W.all_mk KX G hmg ?_ ?_ ?_ ?_ ?_ ?_ ?_ ?_ ?_ ?_ ?_ ?_ ?_ ?_ ?_ ?_ ?_ ?_ ?_ ?_ ?_ ?_ ?_ ?_ ?_ ?_ ?_ ?_ ?_ ?_ ?_ ?_ ?_ ?_ ?_ ?_ ?_ ?_ ?_ ?_ ?_ ?_ ?_ ?_ ?_ ?_ ?_ ?_ ?_ ?_ ?_ ?_ ?_ ?_ ?_ ?_ ?_ ?_ ?_ ?_ ?_ ?_ ?_ ?_ ?_ ?_ ?_ ?_ ?_ ?_ ?_ ?_ ?_ ?_ ?_ ?_ ?_ ?_ ?_ ?_ ?_ ?_ ?_ ?_ ?_ ?_ ?_ ?_ ?_ ?_ ?_ ?_ ?_ ?_ ?_ ?_ ?_ ?_ ?_ ?_ ?_ ?_ ?_ ?_ ?_ ?_ ?_ ?_ ?_ ?_ ?_ ?_ ?_ ?_ ?_ ?_ ?_ ?_ ?_ ?_ ?_ ?_ ?_ ?_ ?_ ?_ ?_ ?_ ?_ ?_ ?_ ?_ ?_ ?_ ?_ ?_ ?_ ?_ ?_ ?_ ?_ ?_ ?_ ?_ ?_ ?_ ?_ ?_ ?_ ?_ ?_ ?_ ?_ ?_ ?_ ?_ ?_ ?_ ?_ ?_ ?_ ?_ ?_ ?_ ?_ ?_ ?_ ?_ ?_ ?_ ?_ ?_ ?_ ?_ ?_ ?_ ?_ ?_ ?_ ?_ ?_ ?_ ?_ ?_ ?_ ?_ ?_ ?_ ?_ ?_ ?_ ?_ ?_ ?_ ?_ ?_ ?_ ?_ ?_ ?_ ?_ ?_ ?_ ?_ ?_ ?_ ?_ ?_ ?_ ?_ ?_ ?_ ?_ ?_ ?_ ?_ ?_ ?_ ?_ ?_ ?_ ?_ ?_ ?_ ?_ ?_ ?_ ?_ ?_ ?_ ?_ ?_ ?_ ?_ ?_ ?_ ?_ ?_ ?_ ?_ ?_ ?_ ?_ ?_ ?_ ?_ ?_ ?_ ?_ ?_ ?_ ?_ ?_ ?_ ?_ ?_ ?_ ?_ ?_ ?_ ?_ ?_ ?_ ?_ ?_ ?_ ?_ ?_ ?_ ?_ ?_ ?_ ?_ ?_ ?_ ?_ ?_ ?_ ?_ ?_ ?_ ?_ ?_ ?_ ?_ ?_ ?_ ?_ ?_ ?_ ?_ ?_ ?_ ?_ ?_ ?_ ?_ ?_ ?_ ?_ ?_ ?_ ?_ ?_ ?_ ?_ ?_ ?_ ?_ ?_ ?_ ?_ ?_ ?_ ?_ ?_ ?_ ?_ ?_ ?_ ?_ ?_ ?_ ?_ ?_ ?_ ?_ ?_ ?_ ?_ ?_ ?_ ?_ ?_ ?_ ?_ ?_ ?_ ?_ ?_ ?_ ?_ ?_ ?_ ?_ ?_ ?_ ?_ ?_ ?_ ?_ ?_ ?_ ?_ ?_ ?_ ?_ ?_ ?_ ?_ ?_ ?_ ?_ ?_ ?_ ?_ ?_ ?_ ?_ ?_ ?_ ?_ ?_ ?_ ?_ ?_ ?_ ?_ ?_ ?_ ?_ ?_ ?_ ?_ ?_ ?_ ?_ ?_ ?_ ?_ ?_ ?_ ?_ ?_ ?_ ?_ ?_ ?_
  all_goals (first | k_is | kit_is | k_exc | exact _L.fun_mk (by k_is) (by k_is) (by k_is) | rfl | exact PySem.W.km_tabs_of Y _ (by decide) | decide | decide +kernel | kernel_rfl | skip)

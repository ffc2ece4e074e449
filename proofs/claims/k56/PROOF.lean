import PyProof.Rows.All
import Wide.All
import OpenK.AllK
import Wide.FinOn
import Lean
import PyProof.EqAt
import PyProof.EqKinds
import PyProof.TupleCall
import PySem.Challenge.RW_armswing_k56_shares_come_to_it
set_option compiler.extract_closed false
set_option Elab.async false
set_option linter.all false
set_option maxRecDepth 100000
namespace _L
open PySem PySem.Spec PyProof.Rows
noncomputable abbrev Key:=Sum Int Str
noncomputable def mK:Key->Value->Bool
 | .inl k,v=>Value.isInt k v
 | .inr x,v=>Value.isStrOf x v
noncomputable def Vf(w:World):Key->Int
 | .inl k=>hashInt k
 | .inr x=>hashStr w x
theorem kC:∀ {k:Key} {v:Value},mK k v=true->(∃i t,k=Sum.inl i/\v=Value.int i t)\/(∃x t,k=Sum.inr x/\v=Value.str x t)
 | .inl i,v,h=>by
  obtain⟨t,e⟩:=Value.isInt_shape (k:=i) (v:=v) h;exact .inl ⟨i,t,rfl,e⟩
 | .inr x,v,h=>by
  obtain⟨t,e⟩:=Value.isStrOf_shape (x:=x) (v:=v) h;exact .inr ⟨x,t,rfl,e⟩
theorem Vg(i:Int)(t:Tok):mK (.inl i) (.int i t)=true:=by simp[mK,Value.isInt]
theorem Vh(x:Str)(t:Tok):mK (.inr x) (.str x t)=true:=by simp[mK,Value.isStrOf]
theorem Vi(a b:Int):decide ((Sum.inl a:Key)=Sum.inl b)=(a == b):=by
 by_cases e:a=b
 ·subst e;simp
 ·have h:¬ (Sum.inl a:Key)=Sum.inl b:=λq=>e (Sum.inl.inj q);rw[decide_eq_false h];exact(beq_eq_false_iff_ne.mpr e).symm
theorem Vj(a b:Str):decide ((Sum.inr a:Key)=Sum.inr b)=decide (a=b):=by
 by_cases e:a=b
 ·subst e;simp
 ·have h:¬ (Sum.inr a:Key)=Sum.inr b:=λq=>e (Sum.inr.inj q);rw[decide_eq_false h,decide_eq_false e]
theorem Vk(a:Int)(b:Str):decide ((Sum.inl a:Key)=Sum.inr b)=false:=decide_eq_false (λq=>nomatch q)
theorem Vl(a:Str)(b:Int):decide ((Sum.inr a:Key)=Sum.inl b)=false:=decide_eq_false (λq=>nomatch q)
noncomputable def eL(prog:Program)(w:World):PySem.KeyKind prog w Key where
 is:=mK
 hash:=Vf w
 inj:=λv a b ha hb=>by
  rcases kC ha with⟨i,t,rfl,rfl⟩ | ⟨x,t,rfl,rfl⟩
  ·rcases kC hb with⟨j,u,rfl,e⟩ | ⟨y,u,rfl,e⟩
   ·injection e with e1 _;rw[e1]
   ·exact nomatch e
  ·rcases kC hb with⟨j,u,rfl,e⟩ | ⟨y,u,rfl,e⟩
   ·exact nomatch e
   ·injection e with e1 _;rw[e1]
 byValue:=λk v h=>by
  rcases kC h with⟨i,t,rfl,rfl⟩ | ⟨x,t,rfl,rfl⟩ <;> rfl
 pyHash:=λhv h=>by
  rcases kC hv with⟨i,t,rfl,rfl⟩ | ⟨x,t,rfl,rfl⟩
  ·exact wpAny_pyHash_int h
  ·exact wpAny_pyHash_str h
 eqBool:=λhu hv h=>by
  rcases kC hu with⟨i,t,rfl,rfl⟩ | ⟨x,t,rfl,rfl⟩
  ·rcases kC hv with⟨j,u,rfl,rfl⟩ | ⟨y,u,rfl,rfl⟩
   ·rw[Vi] at h;exact wpAny_eqBool_int h
   ·rw[Vk] at h;exact SeqAt.EqAt.int_str i t y u _ _ _ _ h
  ·rcases kC hv with⟨j,u,rfl,rfl⟩ | ⟨y,u,rfl,rfl⟩
   ·rw[Vl] at h;exact SeqAt.EqAt.str_int x t j u _ _ _ _ h
   ·rw[Vj] at h;exact wpAny_eqBool_str h
 «strs» := λk x t v h=>by
  rcases kC h with⟨i,u,rfl,e⟩ | ⟨y,u,rfl,e⟩
  ·exact nomatch e
  ·injection e with e1 _;subst e1;cases v <;> rfl
theorem Vm(prog:Program)(w:World)(i:Int)(t:Tok):(eL prog w).is (.inl i) (.int i t)=true:=Vg i t
theorem Vn(prog:Program)(w:World)(x:Str)(t:Tok):(eL prog w).is (.inr x) (.str x t)=true:=Vh x t
inductive V where
 | aJ | bl (b:Bool) | int (i:Int) | str (x:Str) | fG (b:Array UInt8) | jt (b:UInt64) | ref (a:Addr) | ty (n:String)
 deriving DecidableEq
noncomputable def RelV:V->Value->Prop
 | .aJ,u=>u=Value.none
 | .bl b,u=>u=Value.bool b
 | .int i,u=>∃t,u=Value.int i t
 | .str x,u=>∃t,u=Value.str x t
 | .fG b,u=>∃t,u=Value.bytes b t
 | .jt b,u=>∃t,u=Value.float b t
 | .ref a,u=>u=Value.ref a
 | .ty n,u=>u=Value.type n
noncomputable abbrev Vals:List V->List Value->Prop:=Paired RelV
theorem Vals.length{xs:List V}{us:List Value}(r:Vals xs us):xs.length=us.length:=Paired.length r
theorem Vals.get:∀ {xs:List V} {us:List Value} {i:Nat} {x:V},Vals xs us->xs[i]? = some x->∃u,us[i]? = some u/\RelV x u
 | _,_,_,_,.nil,e=>by simp at e
 | _,_,0,_,.cons r _,e=>by simp at e;subst e;exact⟨_,rfl,r⟩
 | _,_,i+1,x,.cons _ t,e=>by
  obtain⟨u,h1,h2⟩:=Vals.get (i:=i) (x:=x) t (by simpa using e)
  exact⟨u,by simpa using h1,h2⟩
theorem Vals.set{x:V}{u:Value}(r:RelV x u):∀ {xs:List V} {us:List Value} (i:Nat),Vals xs us->Vals (xs.set i x) (us.set i u)
 | _,_,_,.nil=>.nil
 | _,_,0,.cons _ t=>.cons r t
 | _,_,i+1,.cons q t=>.cons q (Vals.set r i t)
theorem Vals.append{xs ys:List V}{us ws:List Value}(h:Vals xs us)(g:Vals ys ws):Vals (xs++ys) (us++ws):=by
 induction h with
 | nil=>exact g
 | cons r t ih=>exact .cons r ih
theorem Vals.take:∀ {xs:List V} {us:List Value} (n:Nat),Vals xs us->Vals (xs.take n) (us.take n)
 | _,_,0,_=>.nil
 | _,_,_+1,.nil=>.nil
 | _,_,n+1,.cons r t=>.cons r (Vals.take n t)
theorem Vals.drop:∀ {xs:List V} {us:List Value} (n:Nat),Vals xs us->Vals (xs.drop n) (us.drop n)
 | _,_,0,r=>r
 | _,_,_+1,.nil=>.nil
 | _,_,n+1,.cons _ t=>Vals.drop n t
noncomputable def fu:Option V->Option Value->Prop
 | some v,some u=>RelV v u
 | none,none=>True
 | _,_=>False
noncomputable def KV{κ:Type}:List (κ×V)->List (κ×Value)->Prop:=Paired λ(p:κ×V) (q:κ×Value)=>p.1=q.1/\RelV p.2 q.2
noncomputable def kV:Key->V
 | .inl i=>.int i
 | .inr x=>.str x
inductive HO where
 /-- a list -/
 | lst (xs:List V)
 /-- a tuple (never changes) -/
 | tup (xs:List V)
 /-- a dict whose keys are ints and texts;one whose keys are tuples of ints and texts (the empty one is both) -/
 | dK (kvs:List (Key×V)) | dT (kvs:List (List Key×V))
 /-- a set of ints: its members,its size -/
 | set (S:Int->Bool) (n:Nat)
 /-- an instance of the class at C,its dict at dx,its attributes -/
 | ins (C dx:Addr) (fs:List (Str×V))
 /-- the dict of the instance at x -/
 | own (x:Addr)
 /-- the dict of an exception -/
 | xd (fs:List (Str×V))
 /-- a bound method,f of x -/
 | met (f x:Addr)
 /-- a range object lo,lo+1,.. below hi -/
 | ug (lo hi:Int)
 /-- a thing that is known to the object (the script;a dict while a loop walks it): read,never written while it is so -/
 | bL (o:Obj) (u:HO)
 /-- a code object's table -/
 | gQ (ps:Array Value)
 /-- any other thing,by what is true of its one object (a def of one's own: SetO a S n:=HO.ext λh=>..) -/
 | ext (φ:Heap->Prop)
noncomputable abbrev Hp:=Addr->Option HO
noncomputable def upd(H:Hp)(a:Addr)(o:HO):Hp:=λb=>if b=a then some o else H b
theorem aD{H:Hp}{a:Addr}{o:HO}:upd H a o a=some o:=by unfold upd;rw[if_pos rfl]
theorem aC{H:Hp}{a b:Addr}{o:HO}(h:b≠a):upd H a o b=H b:=by unfold upd;rw[if_neg h]
theorem Vo{H:Hp}{a:Addr}{o u:HO}:upd (upd H a o) a u=upd H a u:=by
 funext b;unfold upd;split <;> rfl
theorem qp{H:Hp}{a b:Addr}{o u:HO}(h:H a=some o)(h':H b=some u)(d:o≠u):a≠b:=by
 intro e;subst e;rw[h] at h';exact d (Option.some.inj h')
theorem cj{H:Hp}{a b:Addr}{o:HO}(h:H a=some o)(h':H b=none):a≠b:=by
 intro e;subst e;rw[h] at h';cases h'
section
variable(P:Program)(w:World)
noncomputable def cN(H:Hp)(h:Heap)(a:Addr):HO->Prop
 | .lst xs=>xs.length<=sizeLine/\∃(aA:List Value) (n:Nat),Vals xs aA/\h.get? a=some { cls:=.type "list",data:=.seq aA.toArray n }
 | .tup xs=>xs.length<=sizeLine/\∃aA:List Value,Vals xs aA/\IsTup h a aA.toArray
 | .dK kvs=>kvs.length<=sizeLine/\(a == sysModules)=false/\∃vs,KV kvs vs/\h.DictOf (eL P w) a vs
 | .dT kvs=>kvs.length<=sizeLine/\(a == sysModules)=false/\∃xs:List (List Key×Addr×Value),
   Paired (λ(p:List Key×V) (q:List Key×Addr×Value)=>p.1=q.1/\H q.2.1=some (.tup (p.1.map kV))/\RelV p.2 q.2.2) kvs xs/\
   ∃o es ep,h.get? a=some o/\o.ExactDict/\o.data = .dict es ep/\es.toList=xs.map (entryOfKey (tupleKind (eL P w)))/\(xs.map (·.1)).Nodup
 | .set S n=>h.SetOf (intKind P w) a S n
 | .ins C dx fs=>H dx=some (.own a)/\fs.length<=1000/\dx≠a/\h.get? a=some (PySem.W.instObj C dx)/\
   ∃mA,h.Ns1 dx mA/\(∀f,fu (fs.lookup f) (mA f))/\PySem.Within mA (fs.map (·.1))
 | .own _=>∃o,h.get? a=some o
 | .xd fs=>∃mA,h.Ns1 a mA/\∀f,fu (fs.lookup f) (mA f)
 | .ug lo hi=>∃t u v,h.get? a=some { cls:=.type "range",data:=.fields #[.int lo t,.int hi u,.int 1 v] }
 | .bL o u=>h.get? a=some o/\cN H h a u
 | .gQ ps=>h.get? a=some { cls:=.none,data:=.fields ps }
 | .met f x=>h.get? a=some (PySem.W.methodObj (.ref f) (.ref x))
 | .ext φ=>φ h/\(∃o,h.get? a=some o)/\∀h1 h2:Heap,φ h1->(∀o,h1.get? a=some o->h2.get? a=some o)->φ h2
noncomputable def b5(H:Hp)(h:Heap):Prop:=∀a o,H a=some o->cN P w H h a o
end
section
variable{P:Program}{w:World}{H H':Hp}{h h':Heap}{a:Addr}{o:HO}
theorem cN.lt(x:cN P w H h a o):a<h.objs.size:=by
 cases o with
 | lst xs=>obtain⟨_,_,_,_,e⟩:=x;exact Heap.lt_size e
 | tup xs=>obtain⟨_,_,_,p⟩:=x;exact p.lt
 | dK kvs=>obtain⟨_,_,_,_,o,_,_,e,_⟩:=x;exact Heap.lt_size e
 | dT kvs=>obtain⟨_,_,_,_,o,_,_,e,_⟩:=x;exact Heap.lt_size e
 | set S n=>obtain⟨o,_,_,_,e,_⟩:=x;exact Heap.lt_size e
 | ins C dx fs=>obtain⟨_,_,_,e,_⟩:=x;exact Heap.lt_size e
 | own y=>obtain⟨_,e⟩:=x;exact Heap.lt_size e
 | xd fs=>obtain⟨_,⟨_,_,_,e,_⟩,_⟩:=x;exact Heap.lt_size e
 | ug lo hi=>obtain⟨_,_,_,e⟩:=x;exact Heap.lt_size e
 | bL ob u=>obtain⟨e,_⟩:=x;exact Heap.lt_size e
 | gQ ps=>exact Heap.lt_size (show h.get? a=some _ from x)
 | met f y=>exact Heap.lt_size (show h.get? a=some _ from x)
 | ext φ=>obtain⟨_,⟨_,e⟩,_⟩:=x;exact Heap.lt_size e
theorem Paired.JR{α β:Type}{F G:α->β->Prop}{JT:List α}{JU:List β}(h:Paired F JT JU)(f:∀a b,F a b->G a b):Paired G JT JU:=by
 induction h with
 | nil=>exact .nil
 | cons r t ih=>exact .cons (f _ _ r) ih
theorem cN.gR(x:cN P w H h a o)(k:∀b u,(b=a\/H b=some (.own a))->h.get? b=some u->h'.get? b=some u)
  (ho:∀b,H b=some (.own a)->H' b=some (.own a)) (ht:∀b xs,H b=some (.tup xs)->H' b=some (.tup xs)):cN P w H' h' a o:=by
 induction o with
 | lst xs=>obtain⟨z,aA,n,r,e⟩:=x;exact⟨z,aA,n,r,k _ _ (.inl rfl) e⟩
 | tup xs=>obtain⟨z,aA,r,ob,e,c⟩:=x;exact⟨z,aA,r,ob,k _ _ (.inl rfl) e,c⟩
 | dK kvs=>obtain⟨z,y,vs,r,ob,es,ep,e,c⟩:=x;exact⟨z,y,vs,r,ob,es,ep,k _ _ (.inl rfl) e,c⟩
 | dT kvs =>
  obtain⟨z,y,xs,r,ob,es,ep,e,c⟩:=x;exact⟨z,y,xs,Paired.JR r λp q z=>⟨z.1,ht _ _ z.2.1,z.2.2⟩,ob,es,ep,k _ _ (.inl rfl) e,c⟩
 | set S n=>obtain⟨ob,es,ep,t,e,c⟩:=x;exact⟨ob,es,ep,t,k _ _ (.inl rfl) e,c⟩
 | ins C dx fs =>
  obtain⟨d,z,ne,e,mA,⟨od,es,ep,e2,c⟩,r⟩:=x;exact⟨ho _ d,z,ne,k _ _ (.inl rfl) e,mA,⟨od,es,ep,k _ _ (.inr d) e2,c⟩,r⟩
 | own y=>obtain⟨ob,e⟩:=x;exact⟨ob,k _ _ (.inl rfl) e⟩
 | xd fs=>obtain⟨mA,⟨od,es,ep,e,c⟩,r⟩:=x;exact⟨mA,⟨od,es,ep,k _ _ (.inl rfl) e,c⟩,r⟩
 | ug lo hi=>obtain⟨t,u,v,e⟩:=x;exact⟨t,u,v,k _ _ (.inl rfl) e⟩
 | bL ob u ih=>obtain⟨e,q⟩:=x;exact⟨k _ _ (.inl rfl) e,ih q⟩
 | gQ ps =>
  have e:h.get? a=some { cls:=.none,data:=.fields ps }:=x
  show h'.get? a=some { cls:=.none,data:=.fields ps };exact k a _ (.inl rfl) e
 | met f y =>
  have e:h.get? a=some (PySem.W.methodObj (.ref f) (.ref y)):=x
  show h'.get? a=some (PySem.W.methodObj (.ref f) (.ref y));exact k a _ (.inl rfl) e
 | ext φ=>obtain⟨p,⟨o,e⟩,st⟩:=x;exact⟨st _ _ p λo q=>k _ _ (.inl rfl) q,⟨o,k _ _ (.inl rfl) e⟩,st⟩
theorem b5.lt(x:b5 P w H h)(e:H a=some o):a<h.objs.size:=(x a o e).lt
theorem b5.fresh(x:b5 P w H h)(e:h.objs.size<=a):H a=none:=by
 cases q:H a with
 | none=>rfl
 | some u=>exact absurd (Nat.lt_of_lt_of_le (x.lt q) e) (Nat.lt_irrefl _)
theorem b5.kept(x:b5 P w H h)(k:∀b u,h.get? b=some u->h'.get? b=some u):b5 P w H h':=λa o e =>
 (x a o e).gR (λb u _ q=>k b u q) (λ_ q=>q) λ_ _ q=>q
theorem b5.laid(x:b5 P w H h)(k:∀b u,h.get? b=some u->h'.get? b=some u)(hp:h.objs.size<=a)(new:cN P w (upd H a o) h' a o):b5 P w (upd H a o) h':=λb u e=>by
 have hn:=x.fresh hp;by_cases hb:b=a
 ·subst hb;rw[aD] at e;cases e;exact new
 ·rw[aC hb] at e;exact(x b u e).gR (λc v _ q=>k c v q) (λc q=>by rw[aC (cj q hn)];exact q) λc xs q=>by rw[aC (cj q hn)];exact q
end
noncomputable def Rd(H:Hp)(a:Addr)(u:HO):Prop:=H a=some u\/∃o,H a=some (.bL o u)
theorem Rd.ok{P:Program}{w:World}{H:Hp}{h:Heap}{a:Addr}{u:HO}(r:Rd H a u)(x:b5 P w H h):cN P w H h a u:=by
 rcases r with r | ⟨o,r⟩
 ·exact x a u r
 ·obtain⟨_,q⟩:=x a _ r;exact q
noncomputable def qq:Option HO->Prop
 | some (.lst _)=>True
 | some (.dK _)=>True
 | some (.dT _)=>True
 | some (.set _ _)=>True
 | some (.ins _ _ _)=>True
 | some (.ext _)=>True
 | _=>False
section
variable{P:Program}{w:World}{H:Hp}{h h':Heap}{x e:Addr}{o':HO}
theorem b5.write(ok:b5 P w H h)(mu:qq (H x))(he:e=x\/H e=some (.own x))(k:∀b u,b≠e->h.get? b=some u->h'.get? b=some u)(oF:∃u,h'.get? e=some u)
  (new:cN P w (upd H x o') h' x o'):b5 P w (upd H x o') h':=λb u q=>by
 have JV:∀c y,H c=some (.own y)->c≠x:=λc y r z=>by subst z;rw[r] at mu;exact mu
 have Vp:∀c xs,H c=some (.tup xs)->c≠x:=λc xs r z=>by subst z;rw[r] at mu;exact mu
 by_cases hb:b=x
 ·subst hb;rw[aD] at q;cases q;exact new
 ·rw[aC hb] at q;by_cases mL:b=e
  ·have q':H b=some (.own x):=by
    rcases he with z | z
    ·exact absurd (mL.trans z) hb
    ·rw[mL];exact z
   rw[q] at q';cases q';obtain⟨v,hv⟩:=oF;exact⟨v,by rw[mL];exact hv⟩
  ·refine(ok b u q).gR (λc v hc r=>k c v ?_ r) (λc r=>by rw[aC (JV c b r)];exact r) λc xs r=>by rw[aC (Vp c xs r)];exact r
   rcases hc with rfl | hc
   ·exact mL
   ·rintro rfl;rcases he with z | z
    ·exact JV c b hc z
    ·rw[hc] at z;cases z;exact hb rfl
end
structure Un(fs ex:List Addr)(H H':Hp)(h h':Heap):Prop where
 keep:∀b o,h.get? b=some o->H b=none->b∉fs->b∉ex->h'.get? b=some o
 slot:∀b o,h.get? b=some o->H b=none->b∈fs->b∉ex->∃sl,h'.get? b=some { o with slots:=sl }
 free:∀b o,h.get? b=some o->H b=none->b∉ex->H' b=none
 there:∀b o,h.get? b=some o->b∉ex->∃o',h'.get? b=some o'
 gS:∀b xs,H b=some (.tup xs)->H' b=some (.tup xs)
 gT:∀b o u,H b=some (.bL o u)->H' b=some (.bL o u)
 ir:∀b ps,H b=some (.gQ ps)->∃more,H' b=some (.gQ (ps++more))
section
variable{fs Vq ex ex':List Addr}{H H1 H2:Hp}{h h1 h2 h':Heap}{a x e:Addr}{o:HO}
theorem Un.any(u:Un fs ex H H1 h h1){b:Addr}{ob:Obj}(q:h.get? b=some ob)(n:H b=none)(hx:b∉ex):∃sl,h1.get? b=some { ob with slots:=sl }:=by
 by_cases hb:b∈fs
 ·exact u.slot b ob q n hb hx
 ·exact⟨ob.slots,u.keep b ob q n hb hx⟩
theorem Un.kept(k:∀b u,h.get? b=some u->h'.get? b=some u):Un fs ex H H h h' :=
 ⟨λb ob q _ _ _=>k b ob q,λb ob q _ _ _=>⟨ob.slots,k b ob q⟩,λ_ _ _ n _=>n,λb ob q _=>⟨ob,k b ob q⟩,λ_ _ q=>q,λ_ _ _ q=>q,λ_ ps q=>⟨#[],by rw[q];simp⟩⟩
theorem Un.refl:Un fs ex H H h h:=Un.kept λ_ _ q=>q
theorem Un.laid(k:∀b u,h.get? b=some u->h'.get? b=some u)(hp:h.objs.size<=a)(hn:H a=none):Un fs ex H (upd H a o) h h' where
 keep:=λb u q _ _ _=>k b u q
 slot:=λb u q _ _ _=>⟨u.slots,k b u q⟩
 free:=λb u q n _=>by rw[aC (Nat.ne_of_lt (Nat.lt_of_lt_of_le (Heap.lt_size q) hp))];exact n
 there:=λb u q _=>⟨u,k b u q⟩
 gS:=λb xs q=>by rw[aC (cj q hn)];exact q
 gT:=λb u xs q=>by rw[aC (cj q hn)];exact q
 ir:=λb ps q=>⟨#[],by rw[aC (cj q hn),q];simp⟩
theorem Un.write(mu:qq (H x))(he:e=x\/H e=some (.own x))(k:∀b u,b≠e->h.get? b=some u->h'.get? b=some u)(oF:∃u,h'.get? e=some u):Un fs ex H (upd H x o) h h':=by
 have hx:∀b,H b=none->b≠x:=λb n z=>by subst z;rw[n] at mu;exact mu
 have hb:∀b,H b=none->b≠e:=λb n z=>by
  subst z;rcases he with r | r
  ·exact hx b n r
  ·rw[n] at r;cases r
 have hm:∀b u,H b=some u->¬ qq (some u)->b≠x:=λb u q nm z=>by subst z;rw[q] at mu;exact nm mu
 refine⟨λb u q n _ _=>k b u (hb b n) q,λb u q n _ _=>⟨u.slots,k b u (hb b n) q⟩,λb u q n _=>by rw[aC (hx b n)];exact n,λb u q _=>?_,
  λb xs q=>by rw[aC (hm b _ q λz=>z)];exact q,λb u xs q=>by rw[aC (hm b _ q λz=>z)];exact q,λb ps q=>⟨#[],by rw[aC (hm b _ q λz=>z),q];simp⟩⟩
 by_cases mL:b=e
 ·subst mL;exact oF
 ·exact⟨u,k b u mL q⟩
end
noncomputable def uh(h:Heap)(H:Hp):List Addr:=(List.range h.objs.size).filter λa=>(H a).isSome
noncomputable def kD(h:Heap)(H:Hp):Heap:=PySem.W.hideAll h (uh h H)
theorem Vr(h:Heap)(H:Hp):(kD h H).objs.size=h.objs.size:=PySem.W.hideAll_size _ _
theorem Vs{h:Heap}{H:Hp}{b:Addr}{o:Obj}(e:h.get? b=some o)(n:H b=none):(kD h H).get? b=some o :=
 PySem.W.hideAll_get _ e λhm=>by
  have q:(H b).isSome=true:=(List.mem_filter.mp hm).2;rw[n] at q;simp at q
theorem Vt{h:Heap}{H:Hp}{b:Addr}{o:Obj}(e:(kD h H).get? b=some o):h.get? b=some o/\H b=none:=by
 have e':h.get? b=some o:=PySem.W.of_hideAll (uh h H) e;refine⟨e',?_⟩;cases q:H b with
 | none=>rfl
 | some x =>
  have hm:b∈uh h H:=List.mem_filter.mpr ⟨List.mem_range.mpr (Heap.lt_size e'),by simp[q]⟩
  have z:(kD h H).get? b=none:=PySem.W.hideAll_none (uh h H) hm;rw[z] at e;cases e
noncomputable def Vu(g h:Heap)(L:Addr):List (Addr×Obj):=(List.range h.objs.size).filterMap λa=>if a=L\/(g.get? a).isSome=true then none else(h.get? a).map λo=>(a,o)
noncomputable def rest(g h:Heap)(L d:Addr):List (Addr×Obj):=(Vu g h L).filter λp=>decide (p.1≠d)
structure Mod(K:PySem.W.Frag)(mg:Str->Option Value)(base:Heap):Prop where
 gU:K.In base
 glob:base.Ns mainGlobals mg
 blt:∃mb,base.Ns builtinsNs mb/\∀x:Str,x≠"__name__"->mb x=bootBuiltins x
 nolimit:base.NoLimit
structure Cx where
 prog:Program
 w:World
 K:PySem.W.Frag
 mg:Str->Option Value
 base:Heap
 A:Around
 N:List Str
 bB:Shared
 cT:Hp
 env:Env
 outer:List Env
 stack:List Env
 ex:List Addr
 fn:Str->Bool
 calm:Bool
 pn:List (Addr×Obj)
 xe:Value->Shared->Prop
noncomputable def b_(l:List Env):List Addr:=l.filterMap (·.frame)
noncomputable abbrev Cx.fs(X:Cx):List Addr:=b_ X.outer
noncomputable def BH(sc:Scope)(x:Str):Prop:=sc.names.lookup x=some .local\/sc.names.lookup x=some .cell\/sc.names.lookup x=some .free
noncomputable def Loc(sc:Scope)(x:Str):Prop:=sc.names.lookup x=some .local\/sc.names.lookup x=some .cell
noncomputable def Look(env:Env)(h:Heap)(m:Str->Option Value)(x:Str)(u:Value):Prop :=
 (env.kindOf x=some .local/\m x=some u)\/((env.kindOf x=some .cell\/env.kindOf x=some .free)/\∃c,env.cells.lookup x=some c/\h.IsCell c (some u))
structure Cx.Ok(X:Cx):Prop where
 mod:Mod X.K X.mg X.base
 kind:X.env.scope.kind = .function
 glob:X.env.globals=mainGlobals
 blt:X.env.builtins=builtinsNs
 above:X.bB.heap.objs.size<=X.env.locals
 inj:∀x y c,X.env.cells.lookup x=some c->X.env.cells.lookup y=some c->x=y
 has:∀x,(X.env.kindOf x=some .cell\/X.env.kindOf x=some .free)->∃c,X.env.cells.lookup x=some c
 mO:∀x c,X.fn x=true->X.env.cells.lookup x=some c->X.bB.heap.objs.size<=c
 hd:X.calm=true->X.A.handled=none
 frames:X.A.frames=some X.stack
 oG:X.stack=X.outer\/(X.stack=X.env::X.outer/\X.env.frame=some X.env.locals)
 oH:∀b∈X.ex,b≠X.env.locals/\∀x c,X.env.cells.lookup x=some c->c≠b
 bs:∀b o,X.base.get? b=some o->X.bB.heap.get? b=some o/\X.cT b=none
 iR:X.base.objs.size<=X.bB.heap.objs.size
 mQ:∀b o,X.base.get? b=some o->b∉X.ex
 mR:∀b∈X.ex,b∉X.fs
 fY:X.bB.heap.FunFrames X.base X.outer
 iS:∀b∈X.fs,X.cT b=none
structure Inv(X:Cx)(pins:List (Addr×Obj))(σ:List (Option V))(H:Hp)(s:Shared):Prop where
 ok:X.Ok
 os:s.os=X.bB.os
 bare:AllBare s.gens
 base:Un X.fs X.ex X.cT H X.bB.heap s.heap
 loc:∃m,s.heap.Ns X.env.locals m/\∀(i:Nat) (x:Str) (v:V),X.N[i]? = some x->σ[i]? = some (some v)->BH X.env.scope x->∃u,RelV v u/\Look X.env s.heap m x u
 cell:∀x c,X.env.cells.lookup x=some c->∃v,s.heap.IsCell c v
 free:H X.env.locals=none
 gz:∀x c,X.env.cells.lookup x=some c->H c=none
 pin:∀p∈X.pn++pins,s.heap.get? p.1=some p.2/\H p.1=none/\p.1≠X.env.locals/\p.1∉X.fs/\∀v,p.2.data≠.cell v
 aG:b5 X.prog X.w H s.heap
 len:σ.length=X.N.length
section
variable{X:Cx}{pins:List (Addr×Obj)}{σ:List (Option V)}{H H':Hp}{s:Shared}{h':Heap}
theorem Cx.Ok.Vv(ok:X.Ok){b:Addr}{o:Obj}(e:X.base.get? b=some o):b∉X.fs:=λhb=>by
 have:=(ok.fY.mem hb).1;rw[e] at this;cases this
theorem Inv.bs(I:Inv X pins σ H s):∀b o,X.base.get? b=some o->s.heap.get? b=some o/\H b=none:=λb o e =>
 ⟨I.base.keep b o (I.ok.bs b o e).1 (I.ok.bs b o e).2 (I.ok.Vv e) (I.ok.mQ b o e),I.base.free b o (I.ok.bs b o e).1 (I.ok.bs b o e).2 (I.ok.mQ b o e)⟩
theorem Inv.bk(I:Inv X pins σ H s):∀b o,X.base.get? b=some o->s.heap.get? b=some o:=λb o e=>(I.bs b o e).1
theorem Inv.mod(I:Inv X pins σ H s):Mod X.K X.mg X.base:=I.ok.mod
theorem Inv.cF(I:Inv X pins σ H s):X.K.In s.heap:=I.ok.mod.gU.keeps I.bk
theorem Inv.lt(I:Inv X pins σ H s):X.env.locals<s.heap.objs.size:=let ⟨_,hn,_⟩:=I.loc;hn.lt
theorem Inv.sz(I:Inv X pins σ H s):X.bB.heap.objs.size<=s.heap.objs.size:=Nat.le_trans I.ok.above (Nat.le_of_lt I.lt)
theorem Inv.Vw(I:Inv X pins σ H s){a:Addr}(h:s.heap.objs.size<=a):a∉X.fs:=λhb=>by
 obtain⟨_,o,ho,_⟩:=I.ok.fY.mem hb;exact absurd (Nat.lt_of_lt_of_le (Heap.lt_size ho) (Nat.le_trans I.sz h)) (Nat.lt_irrefl _)
theorem Inv.ju(I:Inv X pins σ H s):∀x c,X.env.cells.lookup x=some c->c≠X.env.locals:=λx c e z=>by
 obtain⟨v,o,ho,hd⟩:=I.cell x c e;obtain⟨m,⟨o',es,ep,jv,kE,_⟩,_⟩:=I.loc;rw[z,jv] at ho;cases ho;rw[kE] at hd;cases hd
theorem Inv.fY(I:Inv X pins σ H s):s.heap.FunFrames X.base X.outer:=by
 have all:∀(l:List Env),(∀b∈b_ l,b∈X.fs)->X.bB.heap.FunFrames X.base l->s.heap.FunFrames X.base l:=by
  intro l
  induction l with
  | nil=>intro _ _;trivial
  | cons env r ih =>
   intro hs hl;obtain⟨hk,⟨L,o,hf,hn,ho,hd⟩,hr⟩:=hl;have hL:L∈X.fs:=hs L (by unfold b_;rw[List.filterMap_cons,hf];exact List.mem_cons_self)
   obtain⟨sl,e⟩:=I.base.slot L o ho (I.ok.iS L hL) hL λz=>I.ok.mR L z hL;exact⟨hk,⟨L,_,hf,hn,e,hd⟩,ih (λb hb=>hs b (by unfold b_;rw[List.filterMap_cons,hf];exact List.mem_cons_of_mem _ hb)) hr⟩
 exact all X.outer (λ_ hb=>hb) I.ok.fY
theorem Inv.stack(I:Inv X pins σ H s):s.heap.FunFrames X.base X.stack:=by
 rcases I.ok.oG with e | ⟨e,hf⟩
 ·rw[e];exact I.fY
 ·rw[e];obtain⟨m,hn,_⟩:=I.loc;refine .cons (by rw[I.ok.kind];decide) hf hn ?_ I.fY
  exact Heap.get?_none_of_le (Nat.le_trans I.ok.iR I.ok.above)
theorem Inv.BI(I:Inv X pins σ H s):∀b∈b_ X.stack,b∈X.env.locals::X.fs:=λb hb=>by
 rcases I.ok.oG with e | ⟨e,hf⟩
 ·rw[e] at hb;exact List.mem_cons_of_mem _ hb
 ·rw[e] at hb;unfold b_ at hb;rw[List.filterMap_cons,hf] at hb;exact hb
theorem Inv.BJ(I:Inv X pins σ H s):∀b∈b_ X.stack,H b=none:=λb hb=>by
 rcases List.mem_cons.mp (I.BI b hb) with e | hb
 ·rw[e];exact I.free
 ·obtain⟨_,o,ho,_⟩:=I.ok.fY.mem hb;exact I.base.free b o ho (I.ok.iS b hb) λz=>I.ok.mR b z hb
theorem Inv.step{g':Array GenState}{t':Nat}{d':Drawn}{ch:List Addr}(I:Inv X pins σ H s)
  (jN:∀b∈ch,(b∈X.ex\/X.bB.heap.objs.size<=b)/\b≠X.env.locals/\(∀x c,X.env.cells.lookup x=some c->c≠b)/\∀p∈X.pn++pins,p.1≠b)
  (keep:∀b o,b≠X.env.locals->b∉X.fs->b∉ch->s.heap.get? b=some o->H b=none->h'.get? b=some o)
  (slot:∀b o,b≠X.env.locals->b∈X.fs->b∉ch->s.heap.get? b=some o->H b=none->∃sl,h'.get? b=some { o with slots:=sl }) (free:∀b o,b∉ch->s.heap.get? b=some o->H b=none->H' b=none)
  (there:∀b o,b∉ch->s.heap.get? b=some o->∃o',h'.get? b=some o')
  (gS:∀b xs,H b=some (.tup xs)->H' b=some (.tup xs)) (gT:∀b o u,H b=some (.bL o u)->H' b=some (.bL o u)) (ir:∀b ps,H b=some (.gQ ps)->∃more,H' b=some (.gQ (ps++more)))
  (ns:∀m,s.heap.Ns X.env.locals m->h'.Ns X.env.locals m) (aG:b5 X.prog X.w H' h') (hg:AllBare g') :
  Inv X pins σ H' { s with heap:=h',gens:=g',drawn:=d',toks:=t' }:=by
 have JW:∀b o,X.bB.heap.get? b=some o->b≠X.env.locals:=λb o e=>Nat.ne_of_lt (Nat.lt_of_lt_of_le (Heap.lt_size e) I.ok.above);have um:∀b o,X.bB.heap.get? b=some o->b∉X.ex->b∉ch:=λb o e hx hb=>by
  rcases(jN b hb).1 with z | z
  ·exact hx z
  ·exact absurd (Nat.lt_of_lt_of_le (Heap.lt_size e) z) (Nat.lt_irrefl _)
 have cellK:∀x c,X.env.cells.lookup x=some c->∀v,s.heap.IsCell c v->h'.IsCell c v:=λx c e v ⟨o,ho,hd⟩=>by
  have qt:c∉ch:=λz=>(jN c z).2.2.1 x c e rfl;by_cases hc:c∈X.fs
  ·obtain⟨sl,q⟩:=slot c o (I.ju x c e) hc qt ho (I.gz x c e);exact⟨_,q,hd⟩
  ·exact⟨o,keep c o (I.ju x c e) hc qt ho (I.gz x c e),hd⟩
 refine⟨I.ok,I.os,hg,⟨λb o e n hb hx=>?_,λb o e n hb hx=>?_,λb o e n hx=>?_,λb o e hx=>?_,λb xs e=>gS b xs (I.base.gS b xs e),λb o xs e=>gT b o xs (I.base.gT b o xs e),λb ps e=>?_⟩,?_,λx c e=>?_,?_,λx c e=>?_,λp hp=>?_,aG,I.len⟩
 ·exact keep b o (JW b o e) hb (um b o e hx) (I.base.keep b o e n hb hx) (I.base.free b o e n hx)
 ·obtain⟨sl,e1⟩:=I.base.slot b o e n hb hx;obtain⟨Vx,e2⟩:=slot b _ (JW b o e) hb (um b o e hx) e1 (I.base.free b o e n hx);exact⟨Vx,e2⟩
 ·obtain⟨o',e1⟩:=I.base.there b o e hx;exact free b o' (um b o e hx) e1 (I.base.free b o e n hx)
 ·obtain⟨o',e1⟩:=I.base.there b o e hx;exact there b o' (um b o e hx) e1
 ·obtain⟨m1,e1⟩:=I.base.ir b ps e;obtain⟨m2,e2⟩:=ir b _ e1;exact⟨m1++m2,by rw[e2,Array.append_assoc]⟩
 ·obtain⟨m,hn,hl⟩:=I.loc;refine⟨m,ns m hn,λi x v e1 e2 e3=>?_⟩;obtain⟨u,r,l⟩:=hl i x v e1 e2 e3;refine⟨u,r,?_⟩;rcases l with l | ⟨k,c,e,z⟩
  ·exact .inl l
  ·exact .inr ⟨k,c,e,cellK x c e _ z⟩
 ·obtain⟨v,z⟩:=I.cell x c e;exact⟨v,cellK x c e v z⟩
 ·obtain⟨m,⟨o,_,_,ho,_⟩,_⟩:=I.loc;exact free _ o (λz=>(jN _ z).2.1 rfl) ho I.free
 ·obtain⟨v,o,ho,hd⟩:=I.cell x c e;exact free c o (λz=>(jN c z).2.2.1 x c e rfl) ho (I.gz x c e)
 ·obtain⟨e,n,ne,nf,d⟩:=I.pin p hp;have qt:p.1∉ch:=λz=>(jN p.1 z).2.2.2 p hp rfl;exact⟨keep p.1 p.2 ne nf qt e n,free p.1 p.2 qt e n,ne,nf,d⟩
theorem Inv.un{t':Nat}(I:Inv X pins σ H s)(u:Un X.fs [] H H' s.heap h')(aG:b5 X.prog X.w H' h'):Inv X pins σ H' { s with heap:=h',toks:=t' }:=by
 obtain⟨m,⟨o,es,ep,ho,r⟩,_⟩:=id I.loc;obtain⟨sl,hL⟩:=u.any ho I.free (by simp)
 exact I.step (g':=s.gens) (d':=s.drawn) (ch:=[]) (λ_ z=>nomatch z) (λb o _ hb _ e n=>u.keep b o e n hb (by simp)) (λb o _ hb _ e n=>u.slot b o e n hb (by simp)) (λb o _ e n=>u.free b o e n (by simp)) (λb o _ e=>u.there b o e (by simp)) u.gS u.gT u.ir (λm' hm=>by
  obtain⟨o',BK,BL,jv,r'⟩:=hm;rw[ho] at jv;cases jv;exact⟨_,BK,BL,hL,r'⟩) aG I.bare
theorem Inv.call{g':Array GenState}{t':Nat}{d':Drawn}{ch:List Addr}(I:Inv X pins σ H s)(u:Un (b_ X.stack) ch H H' s.heap h')(aG:b5 X.prog X.w H' h')(hg:AllBare g')
  (jN:∀b∈ch,(b∈X.ex\/X.bB.heap.objs.size<=b)/\b≠X.env.locals/\(∀x c,X.env.cells.lookup x=some c->c≠b)/\∀p∈X.pn++pins,p.1≠b) :
  Inv X pins σ H' { s with heap:=h',gens:=g',drawn:=d',toks:=t' }:=by
 obtain⟨m,⟨o,es,ep,ho,r⟩,_⟩:=id I.loc;obtain⟨sl,hL⟩:=u.any ho I.free λz=>(jN _ z).2.1 rfl;exact I.step (ch:=ch) jN (λb o hL hb hc e n=>u.keep b o e n (λz=>(List.mem_cons.mp (I.BI b z)).elim hL hb) hc) (λb o _ _ hc e n=>u.any e n hc) (λb o hc e n=>u.free b o e n hc) (λb o hc e=>u.there b o e hc) u.gS u.gT u.ir (λm' hm=>by
  obtain⟨o',BK,BL,jv,r'⟩:=hm;rw[ho] at jv;cases jv;exact⟨_,BK,BL,hL,r'⟩) aG hg
theorem Inv.turned{t':Nat}{it:Addr}(I:Inv X pins σ H s)(k:∀b o,b≠it->s.heap.get? b=some o->h'.get? b=some o)(hn:H it=none)(hL:it≠X.env.locals)
  (h1:it∈X.ex\/X.bB.heap.objs.size<=it) (h2:∀x c,X.env.cells.lookup x=some c->c≠it) (h3:∀p∈X.pn++pins,p.1≠it):Inv X pins σ H { s with heap:=h',toks:=t' }:=by
 have qw:∀b u,H b=some u->b≠it:=λb u e z=>by rw[z,hn] at e;cases e
 refine I.step (g':=s.gens) (d':=s.drawn) (ch:=[it]) (λb hb=>?_) (λb o _ _ hc e _=>k b o (λz=>hc (by simp[z])) e) (λb o _ _ hc e _=>⟨o.slots,k b o (λz=>hc (by simp[z])) e⟩) (λ_ _ _ _ n=>n)
  (λb o hc e=>⟨o,k b o (λz=>hc (by simp[z])) e⟩) (λ_ _ e=>e) (λ_ _ _ e=>e) (λb ps e=>⟨#[],by rw[e];simp⟩) (λm hm=>?_) (λb u e=>?_) I.bare
 ·have e:b=it:=by simpa using hb
  subst e;exact⟨h1,hL,h2,h3⟩
 ·obtain⟨o,es,ep,ho,r⟩:=hm;exact⟨o,es,ep,k _ o (Ne.symm hL) ho,r⟩
 ·refine(I.aG b u e).gR (λc v hc q=>k c v ?_ q) (λ_ q=>q) λ_ _ q=>q;rcases hc with z | z
  ·rw[z];exact qw b u e
  ·exact qw c _ z
theorem Inv.tok(I:Inv X pins σ H s)(t:Nat):Inv X pins σ H { s with toks:=t }:=I.un (h':=s.heap) (t':=t) Un.refl I.aG
theorem Inv.kept{t':Nat}(I:Inv X pins σ H s)(k:∀b u,s.heap.get? b=some u->h'.get? b=some u):Inv X pins σ H { s with heap:=h',toks:=t' }:=I.un (Un.kept k) (I.aG.kept k)
theorem Inv.laid{a:Addr}{o:HO}{t':Nat}(I:Inv X pins σ H s)(k:∀b u,s.heap.get? b=some u->h'.get? b=some u)(hp:s.heap.objs.size<=a)(new:cN X.prog X.w (upd H a o) h' a o) :
  Inv X pins σ (upd H a o) { s with heap:=h',toks:=t' }:=I.un (Un.laid k hp (I.aG.fresh hp)) (I.aG.laid k hp new)
theorem Inv.write{x e:Addr}{o:HO}{t':Nat}(I:Inv X pins σ H s)(mu:qq (H x))(he:e=x\/H e=some (.own x))(k:∀b u,b≠e->s.heap.get? b=some u->h'.get? b=some u)(oF:∃u,h'.get? e=some u)
  (new:cN X.prog X.w (upd H x o) h' x o):Inv X pins σ (upd H x o) { s with heap:=h',toks:=t' }:=I.un (Un.write mu he k oF) (I.aG.write mu he k oF new)
theorem Inv.JX{JY:List (Addr×Obj)}(I:Inv X pins σ H s)(h:∀p∈JY,s.heap.get? p.1=some p.2/\H p.1=none/\p.1≠X.env.locals/\p.1∉X.fs/\∀v,p.2.data≠.cell v):Inv X JY σ H s :=
 ⟨I.ok,I.os,I.bare,I.base,I.loc,I.cell,I.free,I.gz,λp hp=>(List.mem_append.mp hp).elim (λz=>I.pin p (List.mem_append_left _ z)) (h p),I.aG,I.len⟩
theorem BN{N:List Str}(hN:N.Nodup){i j:Nat}{x:Str}(a:N[i]? = some x)(b:N[j]? = some x):i=j:=by
 obtain⟨h1,e1⟩:=List.getElem?_eq_some_iff.mp a;obtain⟨h2,e2⟩:=List.getElem?_eq_some_iff.mp b;exact(List.getElem_inj hN).mp (e1.trans e2.symm)
theorem JZ{M:Model}{A:Around}{E:Value->Shared->Prop}{i:Nat}{x:Str}{v:V}{u:Value}{Q:Unit->Shared->Prop}(I:Inv X pins σ H s)(hN:X.N.Nodup)(hi:X.N[i]? = some x)(hx:Loc X.env.scope x)(r:RelV v u)
  (h:∀s',Inv X pins (σ.set i (some v)) H s'->(∃a,Heap.SameBut a s.heap s'.heap/\(a=X.env.locals\/X.env.cells.lookup x=some a))->Q () s') (hf:X.fn x=true\/X.env.scope.names.lookup x=some .local:=by first | exact .inl rfl | exact .inr rfl | assumption):wpAny M A (storeName X.env x u) Q E s:=by
 obtain⟨m,hn,hl⟩:=id I.loc;have qx:(X.env.scope.kind == .class || (X.env.scope.kind == .module && X.env.locals != X.env.globals))=false:=by rw[I.ok.kind];rfl
 have J0:i<σ.length:=by rw[I.len];exact(List.getElem?_eq_some_iff.mp hi).1
 have ju:=I.ju;have tracked:∀ {a:Addr} {h':Heap},(∃o,s.heap.get? a=some o/\H a=none)->Heap.SameBut a s.heap h'->b5 X.prog X.w H h':=λ{a h'} ha hs b ob e=>by
  obtain⟨_,_,J1⟩:=ha;refine(I.aG b ob e).gR (λc w' hc q=>(hs.2 c ?_).trans q) (λ_ q=>q) λ_ _ q=>q;rintro rfl;rcases hc with rfl | hc
  ·rw[J1] at e;cases e
  ·rw[J1] at hc;cases hc
 rcases hx with hk | hk
 ·refine wpAny_storeName_local hk hn (λh' BO hs=>?_) qx;obtain⟨oL,_,_,BP,_⟩:=id hn;refine h _ ⟨I.ok,I.os,I.bare,⟨λb o e n hb hx=>?_,λb o e n hb hx=>?_,I.base.free,λb o e hx=>?_,I.base.gS,I.base.gT,I.base.ir⟩,⟨_,BO,λj y v' e1 e2 e3=>?_⟩,λy c e=>?_,I.free,I.gz,λp hp=>?_,tracked ⟨oL,BP,I.free⟩ hs,by simpa using I.len⟩ ⟨_,hs,.inl rfl⟩
  ·exact(hs.2 b (Nat.ne_of_lt (Nat.lt_of_lt_of_le (Heap.lt_size e) I.ok.above))).trans (I.base.keep b o e n hb hx)
  ·obtain⟨sl,e1⟩:=I.base.slot b o e n hb hx;exact⟨sl,(hs.2 b (Nat.ne_of_lt (Nat.lt_of_lt_of_le (Heap.lt_size e) I.ok.above))).trans e1⟩
  ·obtain⟨o',e1⟩:=I.base.there b o e hx;exact⟨o',(hs.2 b (Nat.ne_of_lt (Nat.lt_of_lt_of_le (Heap.lt_size e) I.ok.above))).trans e1⟩
  ·by_cases hj:j=i
   ·subst hj;rw[hi] at e1;cases e1;rw[List.getElem?_set_self J0] at e2;cases e2;exact⟨u,r,.inl ⟨hk,by simp⟩⟩
   ·rw[List.getElem?_set_ne (Ne.symm hj)] at e2;obtain⟨u',r',q⟩:=hl j y v' e1 e2 e3;refine⟨u',r',?_⟩;rcases q with⟨k,e⟩ | ⟨k,c,e,z⟩
    ·refine .inl ⟨k,?_⟩;have:y≠x:=λe=>hj (BN hN e1 (e▸hi));simp[this,e]
    ·exact .inr ⟨k,c,e,z.sameBut hs (ju y c e)⟩
  ·obtain⟨w',z⟩:=I.cell y c e;exact⟨w',z.sameBut hs (ju y c e)⟩
  ·obtain⟨e,n,ne,nf,d⟩:=I.pin p hp;exact⟨(hs.2 p.1 ne).trans e,n,ne,nf,d⟩
 ·have BQ:X.fn x=true:=by
   rcases hf with z | z
   ·exact z
   ·rw[z] at hk;cases hk
  obtain⟨c,hc⟩:=I.ok.has x (.inl hk);obtain⟨w',z⟩:=I.cell x c hc;refine wpAny_storeName_cell I.ok.kind hk hc z (λh' J2 hs=>?_);obtain⟨oc,J5,Vy⟩:=id z;refine h { s with heap:=h' } ⟨I.ok,I.os,I.bare,⟨λb o e n hb hx=>?_,λb o e n hb hx=>?_,I.base.free,λb o e hx=>?_,I.base.gS,I.base.gT,I.base.ir⟩,⟨m,hn.sameBut hs (Ne.symm (ju x c hc)),λj y v' e1 e2 e3=>?_⟩,λy c' e=>?_,I.free,I.gz,λp hp=>?_,tracked ⟨oc,J5,I.gz x c hc⟩ hs,by simpa using I.len⟩ ⟨c,hs,.inr hc⟩
  ·exact(hs.2 b (Nat.ne_of_lt (Nat.lt_of_lt_of_le (Heap.lt_size e) (I.ok.mO x c BQ hc)))).trans (I.base.keep b o e n hb hx)
  ·obtain⟨sl,e1⟩:=I.base.slot b o e n hb hx;exact⟨sl,(hs.2 b (Nat.ne_of_lt (Nat.lt_of_lt_of_le (Heap.lt_size e) (I.ok.mO x c BQ hc)))).trans e1⟩
  ·obtain⟨o',e1⟩:=I.base.there b o e hx;exact⟨o',(hs.2 b (Nat.ne_of_lt (Nat.lt_of_lt_of_le (Heap.lt_size e) (I.ok.mO x c BQ hc)))).trans e1⟩
  ·by_cases hj:j=i
   ·subst hj;rw[hi] at e1;cases e1;rw[List.getElem?_set_self J0] at e2;cases e2;exact⟨u,r,.inr ⟨.inl hk,c,hc,J2⟩⟩
   ·rw[List.getElem?_set_ne (Ne.symm hj)] at e2;obtain⟨u',r',q⟩:=hl j y v' e1 e2 e3;refine⟨u',r',?_⟩;rcases q with q | ⟨k,c',e,z'⟩
    ·exact .inl q
    ·refine .inr ⟨k,c',e,z'.sameBut hs ?_⟩;rintro rfl;exact hj (BN hN e1 (I.ok.inj _ _ _ e hc▸hi))
  ·by_cases uo:c' = c
   ·subst uo;exact⟨_,J2⟩
   ·obtain⟨w2,z2⟩:=I.cell y c' e;exact⟨w2,z2.sameBut hs uo⟩
  ·obtain⟨e,n,ne,nf,d⟩:=I.pin p hp;refine⟨(hs.2 p.1 ?_).trans e,n,ne,nf,d⟩;intro q;rw[q,J5] at e;have q':oc=p.2:=Option.some.inj e;exact d w' (by rw[← q'];exact Vy)
theorem BR{M:Model}{A:Around}{E:Value->Shared->Prop}{i:Nat}{x:Str}{v:V}{u:Value}{Q:Unit->Shared->Prop}(I:Inv X pins σ H s)(hN:X.N.Nodup)(hi:X.N[i]? = some x)(hx:Loc X.env.scope x)(r:RelV v u)
  (h:∀s',Inv X pins (σ.set i (some v)) H s'->Q () s') (hf:X.fn x=true\/X.env.scope.names.lookup x=some .local:=by first | exact .inl rfl | exact .inr rfl | assumption):wpAny M A (storeName X.env x u) Q E s :=
 JZ I hN hi hx r (λs' I' _=>h s' I') hf
theorem Inv.BS{s':Shared}{ch:List Addr}(I:Inv X pins σ H s)(ho:s'.os=s.os)(u:Un (b_ X.stack) ch H H' s.heap s'.heap)(aG:b5 X.prog X.w H' s'.heap)(hg:AllBare s'.gens)
  (jN:∀b∈ch,(b∈X.ex\/X.bB.heap.objs.size<=b)/\b≠X.env.locals/\(∀x c,X.env.cells.lookup x=some c->c≠b)/\∀p∈X.pn++pins,p.1≠b):Inv X pins σ H' s':=by
 obtain⟨h',g',d',t',o'⟩:=s';have e:o' = s.os:=ho;subst e;exact I.call (g':=g') (t':=t') (d':=d') u aG hg jN
end
noncomputable abbrev XK:=Value->Option Addr->Hp->Prop
noncomputable abbrev St:=List (Option V)
noncomputable abbrev VK:=V->Hp->Prop
noncomputable abbrev TE:=St->Hp->VK->Prop
noncomputable abbrev TT:=St->Hp->(Bool->Hp->Prop)->Prop
noncomputable abbrev TA:=St->Hp->(List V->Hp->Prop)->Prop
structure Ends where
 nx:St->Hp->Prop
 rt:VK
 bk:St->Hp->Prop:=λ_ _=>False
 ct:St->Hp->Prop:=λ_ _=>False
noncomputable abbrev TS:=Ends->St->Hp->Prop
noncomputable def EP(X:Cx)(pins:List (Addr×Obj))(σ:St)(Q:VK)(u:Value)(s':Shared):Prop:=∃v H',Inv X pins σ H' s'/\RelV v u/\Q v H'
noncomputable def TP(X:Cx)(pins:List (Addr×Obj))(σ:St)(Q:Bool->Hp->Prop)(b:Bool)(s':Shared):Prop:=∃H',Inv X pins σ H' s'/\Q b H'
noncomputable def AP(X:Cx)(pins:List (Addr×Obj))(σ:St)(Q:List V->Hp->Prop)(us:List Value)(s':Shared):Prop:=∃vs H',Inv X pins σ H' s'/\Vals vs us/\Q vs H'
noncomputable def SP(X:Cx)(pins:List (Addr×Obj))(D:Ends)(f:Flow)(s':Shared):Prop :=
 match f with
 | .next=>∃aO H',Inv X pins aO H' s'/\D.nx aO H'
 | .brk=>∃aO H',Inv X pins aO H' s'/\D.bk aO H'
 | .cont=>∃aO H',Inv X pins aO H' s'/\D.ct aO H'
 | .ret u=>∃v aO H',Inv X pins aO H' s'/\RelV v u/\D.rt v H'
noncomputable def PE(X:Cx)(e:Expr)(t:TE):Prop :=
 ∀(pins:List (Addr×Obj)) (s:Shared) (σ:St) (H:Hp) (Q:VK),Inv X pins σ H s->t σ H Q->wpAny (model X.prog X.w) X.A (eval e X.env) (EP X pins σ Q) X.xe s
noncomputable def PT(X:Cx)(e:Expr)(t:TT):Prop :=
 ∀(pins:List (Addr×Obj)) (s:Shared) (σ:St) (H:Hp) (Q:Bool->Hp->Prop),Inv X pins σ H s->t σ H Q->wpAny (model X.prog X.w) X.A (isTrue e X.env (eval e X.env)) (TP X pins σ Q) X.xe s
noncomputable def PW(X:Cx)(e:Expr)(t:TT):Prop :=
 ∀(whole:Sem Value) (pins:List (Addr×Obj)) (s:Shared) (σ:St) (H:Hp) (Q:Bool->Hp->Prop),Inv X pins σ H s->t σ H Q->wpAny (model X.prog X.w) X.A (isTrue e X.env whole) (TP X pins σ Q) X.xe s
theorem PW.pt{X:Cx}{e:Expr}{t:TT}(h:PW X e t):PT X e t:=h _
noncomputable def PA(X:Cx)(es:List Expr)(t:TA):Prop :=
 ∀(pos:Pos) (pins:List (Addr×Obj)) (s:Shared) (σ:St) (H:Hp) (Q:List V->Hp->Prop),Inv X pins σ H s->t σ H Q->wpAny (model X.prog X.w) X.A (spliced (backTo pos (starEach es X.env))) (AP X pins σ Q) X.xe s
noncomputable def PS(X:Cx)(st:Stmt)(t:TS):Prop :=
 ∀(pins:List (Addr×Obj)) (s:Shared) (σ:St) (H:Hp) (D:Ends),Inv X pins σ H s->t D σ H->wpAny (model X.prog X.w) X.A (exec st X.env) (SP X pins D) X.xe s
noncomputable def fz(X:Cx)(st:List Stmt)(t:TS):Prop :=
 ∀(pins:List (Addr×Obj)) (s:Shared) (σ:St) (H:Hp) (D:Ends),Inv X pins σ H s->t D σ H->wpAny (model X.prog X.w) X.A (execs st X.env) (SP X pins D) X.xe s
theorem aI{α:Type}{t:Sem α}{Q Q':α->Shared->Prop}{M:Model}{A:Around}{E:Value->Shared->Prop}{s:Shared}(h:wpAny M A t Q E s)(hQ:∀a s,Q a s->Q' a s):wpAny M A t Q' E s:=wpAny_mono h hQ λ_ _ x=>x
section
variable{X:Cx}
noncomputable def J6(i:Nat):TE:=λσ H Q=>∃v,σ[i]? = some (some v)/\Q v H
noncomputable def tC(v:V):TE:=λ_ H Q=>Q v H
theorem Vz{i:Nat}{x:Str}{pos:Pos}(hN:X.N[i]? = some x)(hv:BH X.env.scope x)(hd:(x == ("__debug__" : Str))=false:=by decide)(dM:(x == ("__classdict__" : Str))=false:=by decide):PE X (.Name x pos) (J6 i):=by
 intro pins s σ H Q I h;obtain⟨v,e,h⟩:=h;obtain⟨m,hn,hl⟩:=I.loc;obtain⟨u,r,l⟩:=hl i x v hN e hv;have fin:EP X pins σ Q u s:=⟨v,H,I,r,h⟩;rcases l with⟨hk,hm⟩ | ⟨hk,c,hc,J7⟩
 ·exact wpAny_Name (wpAny_loadName_local I.ok.kind hk hn hm fin) hd
 ·rcases hk with hk | hk
  ·exact wpAny_Name (wpAny_loadName_cell I.ok.kind hk hc J7 fin) hd
  ·exact wpAny_Name (wpAny_loadName_free I.ok.kind hk hc J7 fin dM) hd
theorem az{i j pos}:PE X (.Constant (.int i) j pos) (tC (.int i)):=λ_ _ _ H _ I h=>wpAny_Constant_int ⟨.int i,H,I.tok _,⟨_,rfl⟩,h⟩
theorem jO{b j pos}:PE X (.Constant (.bool b) j pos) (tC (.bl b)):=λ_ _ _ H _ I h=>Constant_bool ⟨.bl b,H,I,rfl,h⟩
theorem lA{j pos}:PE X (.Constant .none j pos) (tC .aJ):=λ_ _ _ H _ I h=>Constant_none ⟨.aJ,H,I,rfl,h⟩
theorem eN{x j pos}:PE X (.Constant (.str x) j pos) (tC (.str x)):=λ_ _ _ H _ I h=>Calls.Constant_str ⟨.str x,H,I.tok _,⟨_,rfl⟩,h⟩
noncomputable def Gl(X:Cx)(x:Str):Prop:=X.env.kindOf x=some .globalImplicit
theorem mS{E:Value->Shared->Prop}{pins:List (Addr×Obj)}{s:Shared}{σ:St}{H:Hp}{x:Str}{u:Value}{pos:Pos}{Q:Value->Shared->Prop}(I:Inv X pins σ H s)(hg:Gl X x)(hm:X.mg x=some u)(h:Q u s)
  (hd:(x == ("__debug__" : Str))=false:=by decide):wpAny (model X.prog X.w) X.A (eval (.Name x pos) X.env) Q E s :=
 Calls.Name_function_global I.ok.kind hg (Calls.loadGlobal_global (by rw[I.ok.glob];exact I.mod.glob.keeps I.bk) hm h) hd
theorem kF{E:Value->Shared->Prop}{pins:List (Addr×Obj)}{s:Shared}{σ:St}{H:Hp}{x:Str}{u:Value}{pos:Pos}{Q:Value->Shared->Prop}(I:Inv X pins σ H s)(hg:Gl X x)(hm:X.mg x=none)(hv:bootBuiltins x=some u)(h:Q u s)
  (hn:x≠"__name__" := by decide) (hd:(x == ("__debug__" : Str))=false:=by decide):wpAny (model X.prog X.w) X.A (eval (.Name x pos) X.env) Q E s:=by
 obtain⟨mb,h1,h2⟩:=I.mod.blt;exact Calls.Name_function_global I.ok.kind hg (Calls.loadGlobal_builtin (by rw[I.ok.glob];exact I.mod.glob.keeps I.bk) hm (by rw[I.ok.blt];exact h1.keeps I.bk) ((h2 x hn).trans hv) h) hd
theorem dN{x:Str}{v:V}{u:Value}{pos:Pos}(hg:Gl X x)(hm:X.mg x=some u)(r:RelV v u)(hd:(x == ("__debug__" : Str))=false:=by decide):PE X (.Name x pos) (tC v) :=
 λ_ _ _ H _ I h=>mS I hg hm ⟨v,H,I,r,h⟩ hd
theorem oJ{x:Str}{v:V}{u:Value}{pos:Pos}(hg:Gl X x)(hm:X.mg x=none)(hv:bootBuiltins x=some u)(r:RelV v u)(hn:x≠"__name__" := by decide)(hd:(x == ("__debug__" : Str))=false:=by decide):PE X (.Name x pos) (tC v) :=
 λ_ _ _ H _ I h=>kF I hg hm hv ⟨v,H,I,r,h⟩ hn hd
variable{a b:Expr}{ta tb:TE}{pos:Pos}
noncomputable def PC(X:Cx)(op:CmpOp)(a b:Expr)(t:TE):Prop :=
 ∀(pins:List (Addr×Obj)) (s:Shared) (σ:St) (H:Hp) (Q:VK),Inv X pins σ H s->t σ H Q->
  wpAny (model X.prog X.w) X.A (eval a X.env) (λv bE=>wpAny (model X.prog X.w) X.A (eval b X.env) (λu iu=>wpAny (model X.prog X.w) X.A (compareOp op v u) (EP X pins σ Q) X.xe iu) X.xe bE) X.xe s
theorem J8(b:Expr){op:CmpOp}(h:op≠.In)(h2:op≠.NotIn):behindInMarks op b=false:=by
 have e1:(op == CmpOp.In)=false:=by cases op <;> first | rfl | exact absurd rfl h
 have e2:(op == CmpOp.NotIn)=false:=by cases op <;> first | rfl | exact absurd rfl h2
 cases b <;> simp[behindInMarks,e1,e2]
noncomputable def tB(t:TE):TT:=λσ H Q=>t σ H λx H1=>∃c,x = .bl c/\Q c H1
theorem VA{op:CmpOp}{t:TE}(h:PC X op a b t)(h1:behindInMarks op b=false:=by first | exact J8 _ (by decide) (by decide) | rfl):PE X (.Compare a [op] [b] pos) t:=λpins s σ H Q I hw=>wpAny_Compare1 (h pins s σ H Q I hw) h1
theorem BU{op:CmpOp}{t:TE}(h:PC X op a b t)(h1:behindInMarks op b=false:=by first | exact J8 _ (by decide) (by decide) | rfl):PT X (.Compare a [op] [b] pos) (tB t):=by
 intro pins s σ H Q I hw;refine wpAny_isTrue_Compare1 (aI (h pins s σ H _ I hw) λv s1 h1=>aI h1 λu s2 h2=>aI h2 λc s3 ⟨x,H1,I1,r1,q1⟩=>?_) h1;obtain⟨d,rfl,q⟩:=q1;cases r1;exact wpAny_truthy_bool ⟨H1,I1,q⟩
theorem jP{e:Expr}{t:TE}(h:PE X e t)(he:∀whole,isTrue e X.env whole=(do let v ← whole;standAt e.pos;holding [v] (truthy v)):=by intro _;rfl):PT X e (tB t):=by
 intro pins s σ H Q I hw;refine isTrue_plain (aI (h pins s σ H _ I hw) λv s1 ⟨x,H1,I1,r1,q1⟩=>?_) (he _);obtain⟨d,rfl,q⟩:=q1;cases r1;exact wpAny_truthy_bool ⟨H1,I1,q⟩
variable{tA uq:TT}{rest:List Expr}
noncomputable def VB(t u:TT):TT:=λσ H Q=>t σ H λc H1=>if c=true then u σ H1 Q else Q false H1
noncomputable def VC(t u:TT):TT:=λσ H Q=>t σ H λc H1=>if c=true then Q true H1 else u σ H1 Q
noncomputable def VD(t:TT):TT:=λσ H Q=>t σ H λc H1=>Q (!c) H1
theorem BV(ha:PT X a tA):PW X (.BoolOp .And [a] pos) tA:=by
 intro wh pins s σ H Q I h;refine isTrue_and (aI (ha pins s σ H Q I h) λc s1 e=>?_);cases c with
 | true=>exact isTrue_and_nil e
 | false=>exact e
theorem eZ(ha:PT X a tA):PW X (.BoolOp .Or [a] pos) tA:=by
 intro wh pins s σ H Q I h;refine isTrue_or (aI (ha pins s σ H Q I h) λc s1 e=>?_);cases c with
 | false=>exact isTrue_or_nil e
 | true=>exact e
theorem BW(ha:PT X a tA)(hb:PW X (.BoolOp .And (b::rest) pos) uq):PW X (.BoolOp .And (a::b::rest) pos) (VB tA uq):=by
 intro wh pins s σ H Q I h;refine isTrue_and (aI (ha pins s σ H _ I h) λc s1 ⟨H1,I1,q1⟩=>?_);cases c with
 | true=>exact hb wh pins s1 σ H1 Q I1 q1
 | false=>exact⟨H1,I1,q1⟩
theorem dW(ha:PT X a tA)(hb:PW X (.BoolOp .Or (b::rest) pos) uq):PW X (.BoolOp .Or (a::b::rest) pos) (VC tA uq):=by
 intro wh pins s σ H Q I h;refine isTrue_or (aI (ha pins s σ H _ I h) λc s1 ⟨H1,I1,q1⟩=>?_);cases c with
 | true=>exact⟨H1,I1,q1⟩
 | false=>exact hb wh pins s1 σ H1 Q I1 q1
theorem mT(ha:PT X a tA):PT X (.UnaryOp .Not a pos) (VD tA):=by
 intro pins s σ H Q I h;exact isTrue_not (ha pins s σ H (λc H1=>Q (!c) H1) I h)
noncomputable def VE(ta tb:TE):TE:=λσ H Q=>ta σ H λx H1=>∃c,x = .bl c/\if c=true then tb σ H1 Q else Q (.bl false) H1
noncomputable def agz(ta tb:TE):TE:=λσ H Q=>ta σ H λx H1=>∃c,x = .bl c/\if c=true then Q (.bl true) H1 else tb σ H1 Q
noncomputable def VF(ta:TE):TE:=λσ H Q=>ta σ H λx H1=>∃c,x = .bl c/\Q (.bl (!c)) H1
theorem J9{op}{t:TE}(h:PE X a t):PE X (.BoolOp op [a] pos) t:=λpins s σ H Q I hw=>BoolOp_one (h pins s σ H Q I hw)
theorem BX(ha:PE X a ta)(hb:PE X (.BoolOp .And (b::rest) pos) tb):PE X (.BoolOp .And (a::b::rest) pos) (VE ta tb):=by
 intro pins s σ H Q I h;refine BoolOp_and (aI (ha pins s σ H _ I h) λv s1 ⟨x,H1,I1,r1,q1⟩=>?_);obtain⟨c,rfl,q1⟩:=q1;cases r1;refine wpAny_truthy_bool ?_;cases c with
 | true=>exact hb pins s1 σ H1 Q I1 q1
 | false=>exact⟨.bl false,H1,I1,rfl,q1⟩
theorem VG(ha:PE X a ta):PE X (.UnaryOp .Not a pos) (VF ta):=by
 intro pins s σ H Q I h;refine UnaryOp_ (aI (ha pins s σ H _ I h) λv s1 ⟨x,H1,I1,r1,q1⟩=>?_);obtain⟨c,rfl,q1⟩:=q1;cases r1;exact not_of (wpAny_truthy_bool ⟨.bl (!c),H1,I1,rfl,q1⟩)
noncomputable def VH(t:TT)(ta tb:TE):TE:=λσ H Q=>t σ H λc H1=>if c=true then ta σ H1 Q else tb σ H1 Q
theorem J_{c:Expr}(hc:PT X c tA)(ha:PE X a ta)(hb:PE X b tb):PE X (.IfExp c a b pos) (VH tA ta tb):=by
 intro pins s σ H Q I h;refine wpAny_IfExp (aI (hc pins s σ H _ I h) λd s1 ⟨H1,I1,q1⟩=>?_);cases d with
 | true=>exact ha pins s1 σ H1 Q I1 q1
 | false=>exact hb pins s1 σ H1 Q I1 q1
end
noncomputable def aE(K:PySem.W.Frag)(H:Hp)(a:Addr)(xs:List V):Prop :=
 Rd H a (.lst xs)\/
  ∃(o:Obj) (aA:Array Value) (n:Nat),K.lookup a=some o/\o.cls = .type "list"/\o.dict=none/\o.data = .seq aA n/\aA.size<=sizeLine/\Vals xs aA.toList
noncomputable def aQ(K:PySem.W.Frag)(H:Hp)(a:Addr)(xs:List V):Prop :=
 Rd H a (.tup xs)\/
  ∃(o:Obj) (aA:Array Value) (n:Nat),K.lookup a=some o/\o.cls = .type "tuple"/\o.data = .seq aA n/\aA.size<=sizeLine/\Vals xs aA.toList
noncomputable def VI:Value->Option V
 | .none=>some .aJ
 | .bool b=>some (.bl b)
 | .int i _=>some (.int i)
 | .str x _=>some (.str x)
 | .bytes b _=>some (.fG b)
 | .float b _=>some (.jt b)
 | .ref a=>some (.ref a)
 | .type n=>some (.ty n)
 | _=>none
theorem RelV.abs{x:V}{u:Value}(r:RelV x u):VI u=some x:=by
 cases x with
 | aJ=>cases r;rfl
 | bl _=>cases r;rfl
 | int _=>obtain⟨t,rfl⟩:=r;rfl
 | str _=>obtain⟨t,rfl⟩:=r;rfl
 | fG _=>obtain⟨t,rfl⟩:=r;rfl
 | jt _=>obtain⟨t,rfl⟩:=r;rfl
 | ref _=>cases r;rfl
 | ty _=>cases r;rfl
theorem RelV.inj{x y:V}{u:Value}(r:RelV x u)(q:RelV y u):x=y:=Option.some.inj (r.abs.symm.trans q.abs)
theorem Vals.inj{xs ys:List V}{us:List Value}(h:Vals xs us):Vals ys us->xs=ys:=by
 induction h generalizing ys with
 | nil=>intro g;cases g;rfl
 | cons r t ih=>intro g;cases g with
  | cons r' t'=>rw[r.inj r',ih t']
section
variable{X:Cx}{pins:List (Addr×Obj)}{σ:St}{H:Hp}{s:Shared}{a:Addr}{xs ys:List V}
theorem aE.of{K:PySem.W.Frag}(h:H a=some (.lst xs)):aE K H a xs:=.inl (.inl h)
theorem aQ.of{K:PySem.W.Frag}(h:H a=some (.tup xs)):aQ K H a xs:=.inl (.inl h)
theorem Inv.list(I:Inv X pins σ H s)(h:aE X.K H a xs):∃aA:List Value,Vals xs aA/\PlainL s.heap a aA.toArray/\xs.length<=sizeLine:=by
 rcases h with h | ⟨o,aA,n,hk,hc,hd,hs,hz,r⟩
 ·obtain⟨z,aA,n,r,e⟩:=h.ok I.aG;exact⟨aA,r,⟨_,n,e,rfl,rfl,rfl⟩,z⟩
 ·refine⟨aA.toList,r,⟨o,n,I.cF a o hk,hc,hd,by simpa using hs⟩,?_⟩
  have e:=r.length;simp only[Array.length_toList] at e;lia
theorem Inv.tuple(I:Inv X pins σ H s)(h:aQ X.K H a xs):∃aA:List Value,Vals xs aA/\IsTup s.heap a aA.toArray/\xs.length<=sizeLine:=by
 rcases h with h | ⟨o,aA,n,hk,hc,hs,hz,r⟩
 ·obtain⟨z,aA,r,p⟩:=h.ok I.aG;exact⟨aA,r,p,z⟩
 ·refine⟨aA.toList,r,⟨o,I.cF a o hk,hc,n,by simpa using hs⟩,?_⟩
  have e:=r.length;simp only[Array.length_toList] at e;lia
theorem Inv.Ka(I:Inv X pins σ H s)(h:aE X.K H a xs)(h':aE X.K H a ys):xs=ys:=by
 obtain⟨aA,r,⟨o,n,e,_,_,d⟩,_⟩:=I.list h;obtain⟨its',r',⟨o',n',e',_,_,d'⟩,_⟩:=I.list h';rw[e] at e';cases e';rw[d] at d';injection d' with d1 _;have:aA=its':=by simpa using congrArg Array.toList d1
 subst this;exact r.inj r'
theorem Inv.VJ(I:Inv X pins σ H s)(h:aQ X.K H a xs)(h':aQ X.K H a ys):xs=ys:=by
 obtain⟨aA,r,⟨o,e,_,n,d⟩,_⟩:=I.tuple h;obtain⟨its',r',⟨o',e',_,n',d'⟩,_⟩:=I.tuple h';rw[e] at e';cases e';rw[d] at d';injection d' with d1 _;have:aA=its':=by simpa using congrArg Array.toList d1
 subst this;exact r.inj r'
end
noncomputable abbrev Cx.iw(X:Cx)(E:Value->Shared->Prop):Cx:={ X with xe:=E }
noncomputable abbrev Cx.lB(X:Cx):Cx:=X.iw λ_ _=>False
theorem Cx.Ok.iw{X:Cx}(ok:X.Ok)(E:Value->Shared->Prop):(X.iw E).Ok :=
 ⟨ok.mod,ok.kind,ok.glob,ok.blt,ok.above,ok.inj,ok.has,ok.mO,ok.hd,ok.frames,ok.oG,ok.oH,ok.bs,ok.iR,ok.mQ,ok.mR,ok.fY,ok.iS⟩
theorem Cx.Ok.jw{X:Cx}{E:Value->Shared->Prop}(ok:(X.iw E).Ok):X.Ok :=
 ⟨ok.mod,ok.kind,ok.glob,ok.blt,ok.above,ok.inj,ok.has,ok.mO,ok.hd,ok.frames,ok.oG,ok.oH,ok.bs,ok.iR,ok.mQ,ok.mR,ok.fY,ok.iS⟩
section
variable{X:Cx}{pins:List (Addr×Obj)}{σ:St}{H:Hp}{s:Shared}{E:Value->Shared->Prop}
theorem Inv.iw(I:Inv X pins σ H s)(E:Value->Shared->Prop):Inv (X.iw E) pins σ H s:=⟨I.ok.iw E,I.os,I.bare,I.base,I.loc,I.cell,I.free,I.gz,I.pin,I.aG,I.len⟩
theorem Inv.jw(I:Inv (X.iw E) pins σ H s):Inv X pins σ H s:=⟨I.ok.jw,I.os,I.bare,I.base,I.loc,I.cell,I.free,I.gz,I.pin,I.aG,I.len⟩
theorem SP.jw{D:Ends}{f:Flow}{s':Shared}(h:SP (X.iw E) pins D f s'):SP X pins D f s':=by
 cases f with
 | next=>obtain⟨aO,H',I,q⟩:=h;exact⟨aO,H',I.jw,q⟩
 | brk=>obtain⟨aO,H',I,q⟩:=h;exact⟨aO,H',I.jw,q⟩
 | cont=>obtain⟨aO,H',I,q⟩:=h;exact⟨aO,H',I.jw,q⟩
 | ret u=>obtain⟨v,aO,H',I,r,q⟩:=h;exact⟨v,aO,H',I.jw,r,q⟩
theorem fz.lB{st:List Stmt}{t:TS}(h:fz X.lB st t):fz X st t:=λpins s σ H D I hw =>
 wpAny_mono (h pins s σ H D (I.iw _) hw) (λ_ _ q=>q.jw) λ_ _ z=>False.elim z
end
section
variable{X:Cx}{st:Stmt}{rest:List Stmt}{t u:TS}{e:Expr}{te:TE}{pos:Pos}
noncomputable def VL:TS:=λD σ H=>D.nx σ H
noncomputable def Kc(t u:TS):TS:=λD σ H=>t { D with nx:=u D } σ H
theorem bT:fz X [] VL:=λ_ _ σ H _ I h=>wpAny_execs_nil ⟨σ,H,I,h⟩
theorem aB(h1:PS X st t)(h2:fz X rest u):fz X (st::rest) (Kc t u):=by
 intro pins s σ H D I h;refine wpAny_execs_cons (aI (h1 pins s σ H { D with nx:=u D } I h) λf s1 q=>?_);cases f with
 | next =>
  obtain⟨aO,H',I',q⟩:=q;exact h2 pins s1 aO H' D I' q
 | ret v=>exact q
 | brk=>exact q
 | cont=>exact q
theorem aH(h1:PS X st t):fz X [st] t:=by
 intro pins s σ H D I h;refine wpAny_execs_cons (aI (h1 pins s σ H D I h) λf s1 q=>?_);cases f with
 | next=>exact wpAny_execs_nil q
 | ret v=>exact q
 | brk=>exact q
 | cont=>exact q
theorem Inv.quiet{pins:List (Addr×Obj)}{σ:St}{H:Hp}{s:Shared}(I:Inv X pins σ H s):interactive X.env=false:=by simp[interactive,I.ok.kind]
noncomputable def Kd(te:TE):TS:=λD σ H=>te σ H λ_ H1=>D.nx σ H1
theorem cH(he:PE X e te)(hs:swapsWith e none pos.line X.env=pure false:=by rfl):PS X (.Expr e pos) (Kd te):=by
 intro pins s σ H D I h;exact wpAny_Expr_any (aI (he pins s σ H _ I h) λv s1 ⟨x,H1,I1,r1,q1⟩=>⟨σ,H1,I1,q1⟩) I.quiet hs
noncomputable def VM(te:TE):TS:=λD σ H=>te σ H D.rt
theorem bx(he:PE X e te):PS X (.Return (some e) pos) (VM te):=by
 intro pins s σ H D I h;exact wpAny_Return_some (aI (he pins s σ H _ I h) λv s1 ⟨x,H1,I1,r1,q1⟩=>⟨x,σ,H1,I1,r1,q1⟩)
noncomputable def agA:TS:=λD _ H=>D.rt .aJ H
noncomputable def Ke(c:TT)(t u:TS):TS:=λD σ H=>c σ H λb H1=>if b=true then t D σ H1 else u D σ H1
theorem bM{c:Expr}{a b:List Stmt}{tc:TT}(hc:PT X c tc)(ha:fz X a t)(hb:fz X b u):PS X (.If c a b pos) (Ke tc t u):=by
 intro pins s σ H D I h;refine wpAny_If (aI (hc pins s σ H _ I h) λd s1 ⟨H1,I1,q1⟩=>?_);cases d with
 | true=>exact ha pins s1 σ H1 D I1 q1
 | false=>exact hb pins s1 σ H1 D I1 q1
noncomputable def VN:TS:=λ_ _ _=>False
theorem fB{dZ:List Stmt}:fz X dZ VN:=λ_ _ _ _ _ _ h=>h.elim
end
noncomputable abbrev TG:=V->St->Hp->(St->Hp->Prop)->Prop
noncomputable abbrev lC:=List V->St->Hp->(St->Hp->Prop)->Prop
noncomputable def PG(X:Cx)(target:Expr)(t:TG):Prop :=
 ∀(pins:List (Addr×Obj)) (s:Shared) (σ:St) (H:Hp) (v:V) (u:Value) (Q:St->Hp->Prop),Inv X pins σ H s->RelV v u->t v σ H Q->
  wpAny (model X.prog X.w) X.A (assign target X.env u) (λ_ s'=>∃aO H',Inv X pins aO H' s'/\Q aO H') X.xe s
noncomputable def oK(X:Cx)(ts:List Expr)(t:lC):Prop :=
 ∀(pins:List (Addr×Obj)) (s:Shared) (σ:St) (H:Hp) (vs:List V) (us:List Value) (Q:St->Hp->Prop),Inv X pins σ H s->Vals vs us->t vs σ H Q->
  wpAny (model X.prog X.w) X.A (assignInOrder ((assignEach ts X.env).map (·.2)) us) (λ_ s'=>∃aO H',Inv X pins aO H' s'/\Q aO H') X.xe s
noncomputable abbrev BY:=V->V->V->Hp->(Hp->Prop)->Prop
noncomputable def Kf(X:Cx)(t:BY):Prop :=
 ∀(pins:List (Addr×Obj)) (s:Shared) (σ:St) (H:Hp) (o i v:V) (ov iv u:Value) (Q:Hp->Prop),Inv X pins σ H s->RelV o ov->RelV i iv->RelV v u->t o i v H Q->
  wpAny (model X.prog X.w) X.A (setItem ov iv u) (λ_ s'=>∃H',Inv X pins σ H' s'/\Q H') X.xe s
section
variable{X:Cx}{pos:Pos}
noncomputable def lD(i:Nat):TG:=λv σ H Q=>Q (σ.set i (some v)) H
theorem aW{i:Nat}{x:Str}(hN:X.N.Nodup)(hi:X.N[i]? = some x)(hx:Loc X.env.scope x)(hf:X.fn x=true\/X.env.scope.names.lookup x=some .local:=by first | exact .inl rfl | exact .inr rfl | assumption):PG X (.Name x pos) (lD i):=by
 intro pins s σ H v u Q I r h;exact wpAny_assign_Name (BR I hN hi hx r (λs' I'=>⟨_,H,I',h⟩) hf)
noncomputable def Kg:lC:=λvs σ H Q=>vs = []/\Q σ H
noncomputable def BZ(t:TG)(u:lC):lC:=λvs σ H Q=>∃v r,vs=v::r/\t v σ H λaO H'=>u r aO H' Q
theorem e7:oK X [] Kg:=by
 intro pins s σ H vs us Q I r h;obtain⟨e,h⟩:=h;subst e;cases r;exact assignInOrder_nil ⟨σ,H,I,h⟩
theorem bN{e:Expr}{es:List Expr}{t:TG}{u:lC}(h1:PG X e t)(h2:oK X es u)
  (hs:(assignEach (e::es) X.env).map (·.2)=assign e X.env::(assignEach es X.env).map (·.2):=by rfl):oK X (e::es) (BZ t u):=by
 intro pins s σ H vs us Q I r h;obtain⟨v,vr,e1,h⟩:=h;subst e1;cases r with
 | cons r rr =>
  rw[hs];refine assignInOrder_cons (aI (h1 pins s σ H _ _ _ I r h) λ_ s1 ⟨dw,H1,I1,q1⟩=>?_);exact h2 pins s1 dw H1 _ _ Q I1 rr q1
noncomputable def B0(K:PySem.W.Frag)(n:Nat)(t:lC):TG:=λv σ H Q=>∃a xs,v = .ref a/\aQ K H a xs/\xs.length=n/\t xs σ H Q
theorem gi{es:List Expr}{k:Nat}{t:lC}{n:Nat}(hc:X.calm=true)(h:oK X es t)
  (hn:(assignEach es X.env).length=n:=by rfl) (jx:(assignEach es X.env).findIdx? (·.1)=none:=by rfl):PG X (.Tuple es k pos) (B0 X.K n t):=by
 intro pins s σ H v u Q I r hw;obtain⟨a,xs,e1,hq,hl,hw⟩:=hw;subst e1;cases r;obtain⟨aA,rv,ht,hz⟩:=I.tuple hq;refine assign_Tuple_tuple (I.ok.hd hc) ht (by simp[hn,← hl,rv.length]) jx λh' hx=>?_
 have I1:Inv X pins σ H { s with heap:=h' }:=I.kept (t':=s.toks) λb o e=>hx b o (Nat.ne_of_lt (Heap.lt_size e)) e;exact h pins _ σ H xs _ Q I1 (by simpa using rv) hw
noncomputable def VO(to ti:TE)(t:BY):TG:=λv σ H Q=>to σ H λo H1=>ti σ H1 λi H2=>t o i v H2 λH3=>Q σ H3
theorem Kh{o i:Expr}{to ti:TE}{t:BY}(ho:PE X o to)(hi:PE X i ti)(hs:Kf X t)
  (ha:∀v,assign (.Subscript o i pos) X.env v=(do
   let ov ← holding [v] (eval o X.env)
   let iv ← holding [v,ov] (eval i X.env)
   standAt pos
   holding [v,ov,iv] (setItem ov iv v)
   release [v,ov,iv] []):=by intro _;rfl):PG X (.Subscript o i pos) (VO to ti t):=by
 intro pins s σ H v u Q I r h;rw[ha];refine wpAny_bind (wpAny_holding (aI (ho pins s σ H _ I h) λov s1 ⟨x,H1,I1,r1,q1⟩=>?_));refine wpAny_bind (wpAny_holding (aI (hi pins s1 σ H1 _ I1 q1) λiv s2 ⟨y,H2,I2,r2,q2⟩=>?_));refine wpAny_bind (wpAny_standAt (wpAny_bind (wpAny_holding (aI (hs pins s2 σ H2 x y v ov iv u _ I2 r1 r2 r q2) λ_ s3 ⟨H3,I3,q3⟩=>?_))));exact wpAny_release ⟨σ,H3,I3,q3⟩
noncomputable def ur(te:TE)(g:TG):TS:=λD σ H=>te σ H λx H1=>g x σ H1 D.nx
theorem B3{tg e:Expr}{te:TE}{g:TG}(he:PE X e te)(hg:PG X tg g)(hs:swapsWithSole [tg] e pos.line X.env=pure false:=by rfl)(hw:swappedStores [tg] e X.env=pure none:=by rfl)
  (h1:(assignEach [tg] X.env).map (·.2) = [assign tg X.env]:=by rfl):PS X (.Assign [tg] e pos) (ur te g):=by
 intro pins s σ H D I h;refine wpAny_Assign_stores (aI (he pins s σ H _ I h) λv s1 ⟨x,H1,I1,r1,q1⟩=>?_) hs hw;rw[h1];exact aI (hg pins s1 σ H1 x v _ I1 r1 q1) λ_ s2 q=>q
theorem aT{i:Nat}{x:Str}{e:Expr}{te:TE}{pos':Pos}(hN:X.N.Nodup)(hi:X.N[i]? = some x)(hx:Loc X.env.scope x)(he:PE X e te)(hs:swapsWith e (some (.Name x pos')) pos.line X.env=pure false:=by rfl)(hf:X.fn x=true\/X.env.scope.names.lookup x=some .local:=by first | exact .inl rfl | exact .inr rfl | assumption) :
  PS X (.Assign [.Name x pos'] e pos) (ur te (lD i)):=by
 intro pins s σ H D I h;refine wpAny_Assign_Name (aI (he pins s σ H _ I h) λv s1 ⟨y,H1,I1,r1,q1⟩=>?_) hs;exact BR I1 hN hi hx r1 (λs2 I2=>⟨_,H1,I2,q1⟩) hf
end
section
variable{X:Cx}{pos:Pos}
noncomputable def B4(c:TT)(tb:TS):TS:=λD σ H=>∃W:Nat->St->Hp->Prop,(∃m,W m σ H)/\∀m σ H,W m σ H->
 c σ H λb H1=>if b=true then ∃N:St->Hp->Prop,(∀aO H',N aO H'->∃m',m' < m/\W m' aO H')/\tb { D with nx:=N,ct:=N,bk:=D.nx } σ H1 else D.nx σ H1
theorem Kl{c:Expr}{body:List Stmt}{tc:TT}{tb:TS}(hp:PassesOwn (model X.prog X.w) X.A X.env X.xe)(hc:PT X c tc)(hb:fz X body tb):PS X (.While c body [] pos) (B4 tc tb):=by
 intro pins s σ H D I h;obtain⟨W,⟨m0,w0⟩,turn⟩:=h;refine wpAny_While (codeAny_whileLoop (λn s'=>∃aO H',Inv X pins aO H' s'/\W n aO H') ?_ m0 ⟨σ,H,I,w0⟩);rintro n s1 ⟨dw,H1,I1,w1⟩;refine wpAny_passesOwn hp (aI (hc pins s1 dw H1 _ I1 (turn n dw H1 w1)) λb s2 ⟨H2,I2,q2⟩=>?_);cases b with
 | true =>
  obtain⟨N,hN,q2⟩:=q2;rw[if_pos rfl];refine wpAny_passesOwn hp (aI (hb pins s2 dw H2 _ I2 q2) λf s3 q3=>?_);cases f with
  | next =>
   obtain⟨gj,H3,I3,n3⟩:=q3;obtain⟨m',hm,w3⟩:=hN gj H3 n3;exact⟨m',hm,gj,H3,I3,w3⟩
  | cont =>
   obtain⟨gj,H3,I3,n3⟩:=q3;obtain⟨m',hm,w3⟩:=hN gj H3 n3;exact⟨m',hm,gj,H3,I3,w3⟩
  | brk=>exact q3
  | ret v=>exact q3
 | false =>
  rw[if_neg Bool.false_ne_true];exact wpAny_execs_nil ⟨dw,H2,I2,q2⟩
end
structure It where
 go:Nat->Hp->Prop
 kG:Nat->Hp->V->Hp->Prop
 stop:Nat->Hp->Prop
noncomputable def jQ(X:Cx)(pins:List (Addr×Obj))(H:Hp)(b:Addr):Prop :=
 H b=none/\b≠X.env.locals/\b∉X.fs/\(b∈X.ex\/X.bB.heap.objs.size<=b)/\(∀x c,X.env.cells.lookup x=some c->c≠b)/\∀p∈X.pn++pins,p.1≠b
theorem Inv.kH{X:Cx}{pins:List (Addr×Obj)}{σ:St}{H H':Hp}{s:Shared}{b:Addr}(I:Inv X pins σ H s)(hb:s.heap.objs.size<=b)(hn:H' b=none):jQ X pins H' b:=by
 refine⟨hn,Nat.ne_of_gt (Nat.lt_of_lt_of_le I.lt hb),I.Vw hb,.inr (Nat.le_trans I.sz hb),λx c e z=>?_,λp hp z=>?_⟩
 ·obtain⟨v,q⟩:=I.cell x c e;exact absurd (Nat.lt_of_lt_of_le q.lt (by rw[z];exact hb)) (Nat.lt_irrefl _)
 ·exact absurd (Nat.lt_of_lt_of_le (Heap.lt_size (I.pin p hp).1) (by rw[z];exact hb)) (Nat.lt_irrefl _)
structure Turn(P:Program)(w:World)(K:PySem.W.Frag)(tg:Expr)(J:It)(fp:List Addr)(it:Addr)(tn:Nat->Heap->Prop):Prop where
 mem:it∈fp
 obj:∀i h,tn i h->∀b∈fp,∃o,h.get? b=some o/\∀v,o.data≠.cell v
 keep:∀i h h',tn i h->(∀b∈fp,∀o,h.get? b=some o->h'.get? b=some o)->tn i h'
 item:∀(X:Cx),X.prog=P->X.w=w->X.K=K->X.calm=true->∀(i:Nat) (pins:List (Addr×Obj)) (s:Shared) (σ:St) (H:Hp) (E:Value->Shared->Prop),Inv X pins σ H s->(∀b∈fp,jQ X pins H b)->tn i s.heap->J.go i H->
  wpAny (model P w) X.A (pyNext (.ref it)) (λr s1=>∃u,r=some u/\
   wpAny (model P w) X.A (letOwnedTupleGo tg (.ref it) u) (λ_ s2=>∃x H',Inv X pins σ H' s2/\RelV x u/\J.kG i H x H'/\tn (i+1) s2.heap/\∀b∈fp,H' b=none) E s1) E s
 done:∀(X:Cx),X.prog=P->X.w=w->X.K=K->X.calm=true->∀(i:Nat) (pins:List (Addr×Obj)) (s:Shared) (σ:St) (H:Hp) (E:Value->Shared->Prop),Inv X pins σ H s->(∀b∈fp,jQ X pins H b)->tn i s.heap->J.stop i H->
  wpAny (model P w) X.A (pyNext (.ref it)) (λr s1=>r=none/\Inv X pins σ H s1) E s
 self:∀(A:Around) (i:Nat) (s:Shared) (Q:Value->Shared->Prop) (E:Value->Shared->Prop),tn i s.heap->Q (.ref it) s->wpAny (model P w) A (pyIter (.ref it)) Q E s
noncomputable abbrev TI:=St->Hp->(It->Hp->Prop)->Prop
noncomputable def Km(X:Cx)(pins:List (Addr×Obj))(σ:St)(tg:Expr)(R:It->Hp->Prop)(uv:Value)(s2:Shared):Prop :=
 ∃(it:Addr) (fp:List Addr) (tn:Nat->Heap->Prop) (J:It) (H':Hp),uv = .ref it/\Inv X pins σ H' s2/\Turn X.prog X.w X.K tg J fp it tn/\tn 0 s2.heap/\(∀b∈fp,jQ X pins H' b)/\R J H'
noncomputable def PI(X:Cx)(tg iter:Expr)(wi:TI):Prop :=
 ∀(pins:List (Addr×Obj)) (s:Shared) (σ:St) (H:Hp) (R:It->Hp->Prop),Inv X pins σ H s->wi σ H R->
  wpAny (model X.prog X.w) X.A (eval iter X.env) (λv s1=>wpAny (model X.prog X.w) X.A (pyIter v) (Km X pins σ tg R) X.xe s1) X.xe s
theorem qy{M:Model}{A:Around}{E:Value->Shared->Prop}{s:Shared}{tg:Expr}{it:Addr}{u:Value}{o:Obj}{n:String}{vs:Array Value}{Q:Unit->Shared->Prop}(ho:s.heap.get? it=some o)(hc:o.cls = .type n)(hd:o.data = .fields vs)
  (hn:["enumerate", "zip", "dict_itemiterator", "dict_reverseitemiterator", "odict_iterator", "itertools.zip_longest", "itertools.pairwise"].contains n=false) (hQ:Q () s):wpAny M A (letOwnedTupleGo tg (.ref it) u) Q E s:=by
 unfold letOwnedTupleGo;cases tg <;> first
  | exact wpAny_pure hQ
  | (cases u <;> first
    | exact wpAny_pure hQ
    | (refine wpAny_bind (wpAny_load ho ?_)
       rw[hc,hd]
       show wpAny M A (if (["enumerate", "zip", "dict_itemiterator", "dict_reverseitemiterator", "odict_iterator", "itertools.zip_longest", "itertools.pairwise"].contains n && vs[0]? == some (rawInt _))=true then _ else _) Q E s
       rw[if_neg (by intro h;rw[hn,Bool.false_and] at h;cases h)]
       exact wpAny_pure hQ))
noncomputable def qz(K:PySem.W.Frag)(a:Addr):It :=
 ⟨λi H=>∃xs x,aE K H a xs/\xs[i]? = some x,λi H x H'=>H' = H/\∀xs,aE K H a xs->xs[i]? = some x,λi H=>∃xs,aE K H a xs/\xs.length<=i⟩
noncomputable def qA(K:PySem.W.Frag)(a:Addr):It :=
 ⟨λi H=>∃xs x,aQ K H a xs/\xs[i]? = some x,λi H x H'=>H' = H/\∀xs,aQ K H a xs->xs[i]? = some x,λi H=>∃xs,aQ K H a xs/\xs.length<=i⟩
noncomputable def jR(lo:Int)(n:Nat):It:=⟨λi _=>i<n,λi H x H'=>H' = H/\x = .int (lo+i),λi _=>n<=i⟩
theorem VP{P:Program}{w:World}{K:PySem.W.Frag}{tg:Expr}(a it:Addr):Turn P w K tg (qz K a) [it] it (λi h=>h.IsListIter it a i) where
 mem:=by simp
 obj:=λi h st b hb=>by
  have e:b=it:=by simpa using hb
  subst e;obtain⟨o,e,c,d⟩:=st;exact⟨o,e,λv z=>by rw[d] at z;cases z⟩
 keep:=λi h h' st k=>st.at λo e=>k it (by simp) o e
 item:=by
  intro X hP hw hK hc i pins s σ H E I hf st hg;subst hP hw hK;obtain⟨xs,x,hq,hx⟩:=hg;obtain⟨aA,rv,p,hz⟩:=I.list hq;obtain⟨u,hu,ru⟩:=rv.get hx;obtain⟨f0,f1,f2,f3,f4,f5⟩:=hf it (by simp)
  refine wpAny_pyNext_list_item st p.isList (x:=u) (by simpa using hu) λh' e8 sb=>?_
  have I1:Inv X pins σ H { s with heap:=h' }:=I.turned (t':=s.toks) (λb o hb e=>(sb.2 b hb).trans e) f0 f1 f3 f4 f5;obtain⟨o,e,c,d⟩:=id e8;exact⟨u,rfl,qy (s:={ s with heap:=h' }) e c d (by decide) ⟨x,H,I1,ru,⟨rfl,λys hy=>by rw[I.Ka hy hq];exact hx⟩,e8,λb hb=>(hf b hb).1⟩⟩
 done:=by
  intro X hP hw hK hc i pins s σ H E I hf st hg;subst hP hw hK;obtain⟨xs,hq,hx⟩:=hg;obtain⟨aA,rv,p,hz⟩:=I.list hq;obtain⟨f0,f1,f2,f3,f4,f5⟩:=hf it (by simp)
  have hl:=rv.length;exact wpAny_pyNext_list_end (I.ok.hd hc) st p.isList (by simp;lia) λh' eb=>⟨rfl,I.turned (t':=s.toks) (λb o hb e=>eb b o hb e) f0 f1 f3 f4 f5⟩
 self:=λ_ _ _ _ _ st h=>wpAny_pyIter_listiter st h
theorem VQ{P:Program}{w:World}{K:PySem.W.Frag}{tg:Expr}(a it:Addr):Turn P w K tg (qA K a) [it] it (λi h=>h.IsTupleIter it a i) where
 mem:=by simp
 obj:=λi h st b hb=>by
  have e:b=it:=by simpa using hb
  subst e;obtain⟨o,e,c,d⟩:=st;exact⟨o,e,λv z=>by rw[d] at z;cases z⟩
 keep:=λi h h' st k=>st.at λo e=>k it (by simp) o e
 item:=by
  intro X hP hw hK hc i pins s σ H E I hf st hg;subst hP hw hK;obtain⟨xs,x,hq,hx⟩:=hg;obtain⟨aA,rv,p,hz⟩:=I.tuple hq;obtain⟨u,hu,ru⟩:=rv.get hx;obtain⟨f0,f1,f2,f3,f4,f5⟩:=hf it (by simp)
  refine wpAny_pyNext_tuple_item st (show s.heap.IsTuple a aA.toArray from p) (x:=u) (by simpa using hu) λh' e8 sb=>?_
  have I1:Inv X pins σ H { s with heap:=h' }:=I.turned (t':=s.toks) (λb o hb e=>(sb.2 b hb).trans e) f0 f1 f3 f4 f5;obtain⟨o,e,c,d⟩:=id e8;exact⟨u,rfl,qy (s:={ s with heap:=h' }) e c d (by decide) ⟨x,H,I1,ru,⟨rfl,λys hy=>by rw[I.VJ hy hq];exact hx⟩,e8,λb hb=>(hf b hb).1⟩⟩
 done:=by
  intro X hP hw hK hc i pins s σ H E I hf st hg;subst hP hw hK;obtain⟨xs,hq,hx⟩:=hg;obtain⟨aA,rv,p,hz⟩:=I.tuple hq;obtain⟨f0,f1,f2,f3,f4,f5⟩:=hf it (by simp)
  have hl:=rv.length;exact wpAny_pyNext_tuple_end (I.ok.hd hc) st (show s.heap.IsTuple a aA.toArray from p) (by simp;lia) λh' eb=>⟨rfl,I.turned (t':=s.toks) (λb o hb e=>eb b o hb e) f0 f1 f3 f4 f5⟩
 self:=λ_ _ _ _ _ st h=>wpAny_pyIter_tupleiter st h
theorem VR{P:Program}{w:World}{K:PySem.W.Frag}{tg:Expr}(it:Addr)(lo:Int)(n:Nat):Turn P w K tg (jR lo n) [it] it (λi h=>IsRangeIter h it (lo+(i:Nat)*1) ((n:Int) - (i:Nat)) 1) where
 mem:=by simp
 obj:=λi h st b hb=>by
  have e:b=it:=by simpa using hb
  subst e;exact⟨_,st,λv z=>by
   have z':Data.fields _=Data.cell v:=z;cases z'⟩
 keep:=λi h h' st k=>k it (by simp) _ st
 item:=by
  intro X hP hw hK hc i pins s σ H E I hf st hg;subst hP hw hK;obtain⟨f0,f1,f2,f3,f4,f5⟩:=hf it (by simp)
  have W:=Walks.range (prog:=X.prog) (w:=X.w) (I.ok.hd hc) it lo 1 n;refine W.item i s _ _ hg st λv h' tk hv e8 kk=>?_;obtain⟨t,rfl⟩:=hv;have I1:Inv X pins σ H { s with heap:=h',toks:=tk }:=I.turned (λb o hb e=>kk b o (by simpa using hb) e) f0 f1 f3 f4 f5
  refine⟨_,rfl,qy (s:={ s with heap:=h',toks:=tk }) (n := "range_iterator") e8 rfl rfl (by decide) ⟨.int (lo+i),H,I1,⟨t,?_⟩,⟨rfl,rfl⟩,e8,λb hb=>(hf b hb).1⟩⟩
  rw[Int.mul_one]
 done:=by
  intro X hP hw hK hc i pins s σ H E I hf st hg;subst hP hw hK;obtain⟨f0,f1,f2,f3,f4,f5⟩:=hf it (by simp)
  exact wpAny_pyNext_range_end (I.ok.hd hc) st (by have:n<=i:=hg;lia) λh' eb=>⟨rfl,I.turned (t':=s.toks) (λb o hb e=>eb b o hb e) f0 f1 f3 f4 f5⟩
 self:=λ_ _ _ _ _ st h=>wpAny_pyIter_rangeiter st h
section
variable{X:Cx}{tg:Expr}
noncomputable def mU(K:PySem.W.Frag)(tl:TE):TI:=λσ H R=>tl σ H λx H1=>∃a,x = .ref a/\(∃xs,aE K H1 a xs)/\R (qz K a) H1
noncomputable def B5(K:PySem.W.Frag)(tl:TE):TI:=λσ H R=>tl σ H λx H1=>∃a,x = .ref a/\(∃xs,aQ K H1 a xs)/\R (qA K a) H1
theorem e9{l:Expr}{tl:TE}(hl:PE X l tl):PI X tg l (mU X.K tl):=by
 intro pins s σ H R I h;refine aI (hl pins s σ H _ I h) λv s1 ⟨x,H1,I1,r1,q1⟩=>?_;obtain⟨a,e,⟨xs,hq⟩,q⟩:=q1;subst e;cases r1;obtain⟨aA,rv,p,hz⟩:=I1.list hq;refine wpAny_pyIter_list p.isList ?_;refine⟨s1.heap.objs.size,[s1.heap.objs.size],_,_,H1,rfl,I1.kept (t':=s1.toks) λb o e=>Heap.get?_push_of_some _ e,VP a _,⟨_,Heap.get?_push_size _ rfl,rfl,rfl⟩,λb hb=>?_,q⟩;have e:b=s1.heap.objs.size:=by simpa using hb
 subst e;exact I1.kH (Nat.le_refl _) (I1.aG.fresh (Nat.le_refl _))
theorem B6{l:Expr}{tl:TE}(hl:PE X l tl):PI X tg l (B5 X.K tl):=by
 intro pins s σ H R I h;refine aI (hl pins s σ H _ I h) λv s1 ⟨x,H1,I1,r1,q1⟩=>?_;obtain⟨a,e,⟨xs,hq⟩,q⟩:=q1;subst e;cases r1;obtain⟨aA,rv,p,hz⟩:=I1.tuple hq;refine wpAny_pyIter_tuple (show s1.heap.IsTuple a aA.toArray from p) ?_;refine⟨s1.heap.objs.size,[s1.heap.objs.size],_,_,H1,rfl,I1.kept (t':=s1.toks) λb o e=>Heap.get?_push_of_some _ e,VQ a _,⟨_,Heap.get?_push_size _ rfl,rfl,rfl⟩,λb hb=>?_,q⟩;have e:b=s1.heap.objs.size:=by simpa using hb
 subst e;exact I1.kH (Nat.le_refl _) (I1.aG.fresh (Nat.le_refl _))
theorem Kn{pins:List (Addr×Obj)}{σ:St}{H:Hp}{s:Shared}{R:It->Hp->Prop}{E:Value->Shared->Prop}{lo hi:Int}{t u v:Tok}{tk:Nat}(I:Inv X pins σ H s)(h1 : -(2 ^ 62)<=lo)(h2:lo<2 ^ 62)(h3 : -(2 ^ 62)<=hi)(h4:hi<2 ^ 62)
  (q:R (jR lo (hi - lo).toNat) H):wpAny (model X.prog X.w) X.A (pyIter (.ref s.heap.objs.size)) (Km X pins σ tg R) E { s with heap:=s.heap.push { cls:=.type "range",data:=.fields #[.int lo t,.int hi u,.int 1 v] },toks:=tk }:=by
 refine wpAny_pyIter_range (IsRange.new ..) (small_one h1 h2 h3 h4) ?_;have I1:Inv X pins σ H { s with heap:=s.heap.push { cls:=.type "range",data:=.fields #[.int lo t,.int hi u,.int 1 v] },toks:=tk }:=I.kept λb o e=>Heap.get?_push_of_some _ e;refine⟨(s.heap.push { cls:=.type "range",data:=.fields #[.int lo t,.int hi u,.int 1 v] }).objs.size,[(s.heap.push { cls:=.type "range",data:=.fields #[.int lo t,.int hi u,.int 1 v] }).objs.size],_,_,H,rfl,
  I1.kept (t':=tk) λb o e=>Heap.get?_push_of_some _ e,VR _ lo (hi - lo).toNat,?_,λb hb=>?_,q⟩
 ·have e1:lo+((0:Nat):Int)*1=lo:=by simp
  have e2:(((hi - lo).toNat:Nat):Int) - ((0:Nat):Int)=Builtin.Range.rangeSize lo hi 1:=by rw[rangeSize_one];split <;> lia
  show IsRangeIter _ _ (lo+((0:Nat):Int)*1) ((((hi - lo).toNat:Nat):Int) - ((0:Nat):Int)) 1;rw[e1,e2];exact Heap.get?_push_size _ rfl
 ·have e:b=(s.heap.push { cls:=.type "range",data:=.fields #[.int lo t,.int hi u,.int 1 v] }).objs.size:=by simpa using hb
  subst e;exact I1.kH (Nat.le_refl _) (I1.aG.fresh (Nat.le_refl _))
noncomputable def oM(ta:TA):TI:=λσ H R=>ta σ H λvs H1=>∃j:Int,vs = [.int j]/\-(2 ^ 62)<=j/\j<2 ^ 62/\R (jR 0 j.toNat) H1
noncomputable def qB(ta:TA):TI:=λσ H R=>ta σ H λvs H1=>∃i j:Int,vs = [.int i,.int j]/\(-(2 ^ 62)<=i/\i<2 ^ 62/\-(2 ^ 62)<=j/\j<2 ^ 62)/\R (jR i (j - i).toNat) H1
theorem iT{a:Expr}{ta:TA}{p pos:Pos}(hg:Gl X "range")(hm:X.mg "range" = none)(ha:PA X [a] ta)(hs:starEach [a] X.env = [(false,eval a X.env)]:=by rfl):PI X tg (.Call (.Name "range" p) [a] [] pos) (oM ta):=by
 intro pins s σ H R I h;refine Call_ (kF I hg hm boot_range (PyProof.Rows.callWith_type1 (aI (ha pos pins s σ H _ I h) λus s1 ⟨vs,H1,I1,r1,q1⟩=>?_) hs rfl));obtain⟨j,e,q1,q2,q⟩:=q1;subst e;cases r1 with
 | cons r rr =>
  cases rr;obtain⟨t,rfl⟩:=r;exact call_range_1 (Kn I1 (by lia) (by lia) q1 q2 (by simpa using q))
theorem qC{a b:Expr}{ta:TA}{p pos:Pos}(hg:Gl X "range")(hm:X.mg "range" = none)(ha:PA X [a,b] ta)(hs:starEach [a,b] X.env = [(false,eval a X.env),(false,eval b X.env)]:=by rfl)(iy:starEach [b] X.env = [(false,eval b X.env)]:=by rfl) :
  PI X tg (.Call (.Name "range" p) [a,b] [] pos) (qB ta):=by
 intro pins s σ H R I h;refine Call_ (kF I hg hm boot_range (PyProof.Rows.callWith_type1 (aI (ha pos pins s σ H _ I h) λus s1 ⟨vs,H1,I1,r1,q1⟩=>?_) (by rw[hs,iy]) (by rw[iy];rfl)))
 obtain⟨i,j,e,⟨q1,q2,q3,q4⟩,q⟩:=q1;subst e;cases r1 with
 | cons r rr =>
  cases rr with
  | cons r' rr =>
   cases rr;obtain⟨t,rfl⟩:=r;obtain⟨t',rfl⟩:=r';exact call_range_2 (Kn I1 q1 q2 q3 q4 q)
noncomputable def gW(wi:TI)(g:TG)(tb:TS):TS:=λD σ H=>wi σ H λJ H1=>∃W:Nat->Nat->St->Hp->Prop,(∃m,W 0 m σ H1)/\∀i m σ H,W i m σ H->
 (J.stop i H/\D.nx σ H)\/(J.go i H/\∃N:St->Hp->Prop,(∀aO H',N aO H'->∃m',m' < m/\W (i+1) m' aO H')/\∀x H',J.kG i H x H'->g x σ H' λau H2=>tb { D with nx:=N,ct:=N,bk:=D.nx } au H2)
noncomputable def qD(fp:List Addr)(h:Heap):List (Addr×Obj):=fp.filterMap λb=>(h.get? b).map λo=>(b,o)
theorem uw{fp:List Addr}{h:Heap}{b:Addr}{o:Obj}(hb:b∈fp)(e:h.get? b=some o):(b,o)∈qD fp h:=List.mem_filterMap.mpr ⟨b,hb,by rw[e];rfl⟩
theorem VS{fp:List Addr}{h:Heap}{p:Addr×Obj}(hp:p∈qD fp h):p.1∈fp/\h.get? p.1=some p.2:=by
 obtain⟨b,hb,e⟩:=List.mem_filterMap.mp hp;cases q:h.get? b with
 | none=>rw[q] at e;cases e
 | some o =>
  rw[q] at e;have e':(b,o)=p:=Option.some.inj e;subst e';exact⟨hb,q⟩
theorem Inv.pinned{pins:List (Addr×Obj)}{σ:St}{H:Hp}{s:Shared}{fp:List Addr}(I:Inv X pins σ H s)(hf:∀b∈fp,jQ X pins H b)(ho:∀b∈fp,∃o,s.heap.get? b=some o/\∀v,o.data≠.cell v):Inv X (pins++qD fp s.heap) σ H s :=
 I.JX λp hp=>(List.mem_append.mp hp).elim (λz=>I.pin p (List.mem_append_right _ z)) λz=>by
  obtain⟨hb,e⟩:=VS z;obtain⟨f0,f1,f2,_⟩:=hf p.1 hb;obtain⟨o,e',d⟩:=ho p.1 hb;rw[e] at e';cases e';exact⟨e,f0,f1,f2,d⟩
theorem Inv.qE{pins pl:List (Addr×Obj)}{σ:St}{H:Hp}{s:Shared}(I:Inv X (pins++pl) σ H s):Inv X pins σ H s:=I.JX λp hp=>I.pin p (List.mem_append_right _ (List.mem_append_left _ hp))
theorem cU{iter:Expr}{body:List Stmt}{wi:TI}{g:TG}{tb:TS}{pos:Pos}(hp:PassesOwn (model X.prog X.w) X.A X.env X.xe)(hc:X.calm=true)(hi:PI X tg iter wi)(hg:PG X tg g)(hb:fz X body tb)
  (hs:∀x,foldedSetIterable iter X.env x=pure x:=by intro _;rfl):PS X (.For tg iter body [] pos) (gW wi g tb):=by
 intro pins s σ H D I h;refine wpAny_For (aI (hi pins s σ H _ I h) λv s1 h1=>aI h1 λuv s2 h2=>?_) hs;obtain⟨it,fp,tn,J,H2,e,I2,T,gX,f2,W,⟨m0,w0⟩,turn⟩:=h2;subst e
 -- what stays true of the iterator's objects through the loop
 have mV:∀ {H':Hp},(∀b∈fp,H' b=none)->∀b∈fp,jQ X pins H' b:=λhn b hb=>⟨hn b hb,(f2 b hb).2⟩;refine codeAny_forLoop_any (λn s'=>∃i aO H',Inv X pins aO H' s'/\tn i s'.heap/\(∀b∈fp,H' b=none)/\W i n aO H') ?_ m0 ⟨0,σ,H2,I2,gX,λb hb=>(f2 b hb).1,w0⟩;rintro n s3 ⟨i,gj,H3,I3,qF,mW,w3⟩;rcases turn i n gj H3 w3 with⟨stop,qn⟩ | ⟨go,N,hN,step⟩
 ·refine wpAny_passesOwn hp (aI (T.done X rfl rfl rfl hc i pins s3 gj H3 X.xe I3 (mV mW) qF stop) λr s4 ⟨hr,I4⟩=>?_);subst hr;exact wpAny_execs_nil ⟨gj,H3,I4,qn⟩
 ·refine wpAny_passesOwn hp (aI (T.item X rfl rfl rfl hc i pins s3 gj H3 X.xe I3 (mV mW) qF go) λr s4 ⟨u,hr,h4⟩=>?_);subst hr;refine wpAny_passesOwn hp (aI h4 λ_ s5 ⟨x,H5,I5,r5,zz⟩=>?_);obtain⟨y5,mX,B7⟩:=zz;have B8:=I5.pinned (mV B7) (T.obj _ _ mX);refine wpAny_passesOwn hp (aI (hg _ s5 gj H5 x u _ B8 r5 (step x H5 y5)) λ_ s6 ⟨lE,H6,I6,q6⟩=>?_);refine wpAny_passesOwn hp (aI (hb _ s6 lE H6 _ I6 q6) λf s7 q7=>?_);have again:∀ {gY:St} {H7:Hp},Inv X (pins++qD fp s5.heap) gY H7 s7->N gY H7->∃m,m<n/\∃i aO H',Inv X pins aO H' s7/\tn i s7.heap/\(∀b∈fp,H' b=none)/\W i m aO H':=λ{gY H7} I7 n7=>by
   obtain⟨m',hm,w7⟩:=hN gY H7 n7;refine⟨m',hm,i+1,gY,H7,I7.qE,T.keep _ _ _ mX λb hb o e=>(I7.pin (b,o) (List.mem_append_right _ (List.mem_append_right _ (uw hb e)))).1,λb hb=>?_,w7⟩;obtain⟨o,e,d⟩:=T.obj _ _ mX b hb;exact(I7.pin (b,o) (List.mem_append_right _ (List.mem_append_right _ (uw hb e)))).2.1
  cases f with
  | next=>obtain⟨gY,H7,I7,n7⟩:=q7;exact again I7 n7
  | cont=>obtain⟨gY,H7,I7,n7⟩:=q7;exact again I7 n7
  | brk=>obtain⟨gY,H7,I7,q7⟩:=q7;exact⟨gY,H7,I7.qE,q7⟩
  | ret v=>obtain⟨x7,gY,H7,I7,r7,q7⟩:=q7;exact⟨x7,gY,H7,I7.qE,r7,q7⟩
end
theorem VT{K:PySem.W.Frag}{a:Addr}{xs:List V}{g:TG}{tb:TS}{D:Ends}{σ:St}{H:Hp}(Pv:Nat->St->Hp->Prop)(h0:Pv 0 σ H)(hl:∀i σ H,i<=xs.length->Pv i σ H->aE K H a xs)
  (hs:∀i x σ H,xs[i]? = some x->Pv i σ H->g x σ H λau H2=>tb { D with nx:=Pv (i+1),ct:=Pv (i+1),bk:=D.nx } au H2) (hd:∀σ H,Pv xs.length σ H->D.nx σ H) :
  ∃W:Nat->Nat->St->Hp->Prop,(∃m,W 0 m σ H)/\∀i m σ H,W i m σ H->
   ((qz K a).stop i H/\D.nx σ H)\/((qz K a).go i H/\∃N:St->Hp->Prop,(∀aO H',N aO H'->∃m',m' < m/\W (i+1) m' aO H')/\∀x H',(qz K a).kG i H x H'->g x σ H' λau H2=>tb { D with nx:=N,ct:=N,bk:=D.nx } au H2):=by
 refine⟨λi m σ H=>m=xs.length - i/\i<=xs.length/\Pv i σ H,⟨xs.length,by simp,Nat.zero_le _,h0⟩,?_⟩
 rintro i m σ H ⟨rfl,hi,p⟩;have q:=hl i σ H hi p;by_cases bU:i<xs.length
 ·refine .inr ⟨⟨xs,xs[i],q,by simp[bU]⟩,Pv (i+1),λaO H' p'=>⟨xs.length - (i+1),by lia,rfl,bU,p'⟩,λx H' y=>?_⟩
  obtain⟨e,y⟩:=y;subst e;exact hs i x σ _ (y xs q) p
 ·have e:i=xs.length:=by lia
  subst e;exact .inl ⟨⟨xs,q,Nat.le_refl _⟩,hd σ H p⟩
theorem VU{K:PySem.W.Frag}{a:Addr}{xs:List V}{g:TG}{tb:TS}{D:Ends}{σ:St}{H:Hp}(Pv:Nat->St->Hp->Prop)(h0:Pv 0 σ H)(hl:∀i σ H,i<=xs.length->Pv i σ H->aQ K H a xs)
  (hs:∀i x σ H,xs[i]? = some x->Pv i σ H->g x σ H λau H2=>tb { D with nx:=Pv (i+1),ct:=Pv (i+1),bk:=D.nx } au H2) (hd:∀σ H,Pv xs.length σ H->D.nx σ H) :
  ∃W:Nat->Nat->St->Hp->Prop,(∃m,W 0 m σ H)/\∀i m σ H,W i m σ H->
   ((qA K a).stop i H/\D.nx σ H)\/((qA K a).go i H/\∃N:St->Hp->Prop,(∀aO H',N aO H'->∃m',m' < m/\W (i+1) m' aO H')/\∀x H',(qA K a).kG i H x H'->g x σ H' λau H2=>tb { D with nx:=N,ct:=N,bk:=D.nx } au H2):=by
 refine⟨λi m σ H=>m=xs.length - i/\i<=xs.length/\Pv i σ H,⟨xs.length,by simp,Nat.zero_le _,h0⟩,?_⟩
 rintro i m σ H ⟨rfl,hi,p⟩;have q:=hl i σ H hi p;by_cases bU:i<xs.length
 ·refine .inr ⟨⟨xs,xs[i],q,by simp[bU]⟩,Pv (i+1),λaO H' p'=>⟨xs.length - (i+1),by lia,rfl,bU,p'⟩,λx H' y=>?_⟩
  obtain⟨e,y⟩:=y;subst e;exact hs i x σ _ (y xs q) p
 ·have e:i=xs.length:=by lia
  subst e;exact .inl ⟨⟨xs,q,Nat.le_refl _⟩,hd σ H p⟩
theorem B9{lo:Int}{n:Nat}{g:TG}{tb:TS}{D:Ends}{σ:St}{H:Hp}(Pv:Nat->St->Hp->Prop)(h0:Pv 0 σ H)
  (hs:∀i σ H,i<n->Pv i σ H->g (.int (lo+i)) σ H λau H2=>tb { D with nx:=Pv (i+1),ct:=Pv (i+1),bk:=D.nx } au H2) (hd:∀σ H,Pv n σ H->D.nx σ H) :
  ∃W:Nat->Nat->St->Hp->Prop,(∃m,W 0 m σ H)/\∀i m σ H,W i m σ H->
   ((jR lo n).stop i H/\D.nx σ H)\/((jR lo n).go i H/\∃N:St->Hp->Prop,(∀aO H',N aO H'->∃m',m' < m/\W (i+1) m' aO H')/\∀x H',(jR lo n).kG i H x H'->g x σ H' λau H2=>tb { D with nx:=N,ct:=N,bk:=D.nx } au H2):=by
 refine⟨λi m σ H=>m=n - i/\i<=n/\Pv i σ H,⟨n,by simp,Nat.zero_le _,h0⟩,?_⟩
 rintro i m σ H ⟨rfl,hi,p⟩;by_cases bU:i<n
 ·refine .inr ⟨bU,Pv (i+1),λaO H' p'=>⟨n - (i+1),by lia,rfl,bU,p'⟩,λx H' y=>?_⟩
  obtain⟨e,y⟩:=y;subst e y;exact hs i σ _ bU p
 ·have e:i=n:=by lia
  subst e;exact .inl ⟨Nat.le_refl _,hd σ H p⟩
noncomputable abbrev R2:=V->V->Hp->VK->Prop
noncomputable def cG(X:Cx)(f:Value->Value->Sem Value)(r:R2):Prop :=
 ∀(pins:List (Addr×Obj)) (s:Shared) (σ:St) (H:Hp) (x y:V) (v u:Value) (Q:VK),Inv X pins σ H s->RelV x v->RelV y u->r x y H Q->
  wpAny (model X.prog X.w) X.A (f v u) (EP X pins σ Q) X.xe s
noncomputable def B_(X:Cx)(f:Value->Sem Value)(r:V->Hp->VK->Prop):Prop :=
 ∀(pins:List (Addr×Obj)) (s:Shared) (σ:St) (H:Hp) (x:V) (v:Value) (Q:VK),Inv X pins σ H s->RelV x v->r x H Q->
  wpAny (model X.prog X.w) X.A (f v) (EP X pins σ Q) X.xe s
noncomputable def gk(X:Cx)(f:Value)(r:List V->Hp->VK->Prop):Prop :=
 ∀(pins:List (Addr×Obj)) (s:Shared) (σ:St) (H:Hp) (xs:List V) (us:List Value) (Q:VK),Inv X pins σ H s->Vals xs us->r xs H Q->
  wpAny (model X.prog X.w) X.A (call f us) (EP X pins σ Q) X.xe s
noncomputable def VV(X:Cx)(r:V->Hp->(Bool->Hp->Prop)->Prop):Prop :=
 ∀(pins:List (Addr×Obj)) (s:Shared) (σ:St) (H:Hp) (x:V) (v:Value) (Q:Bool->Hp->Prop),Inv X pins σ H s->RelV x v->r x H Q->
  wpAny (model X.prog X.w) X.A (truthy v) (TP X pins σ Q) X.xe s
noncomputable def ux(r:R2)(ta tb:TE):TE:=λσ H Q=>ta σ H λx H1=>tb σ H1 λy H2=>r x y H2 Q
noncomputable def VW(r:V->Hp->VK->Prop)(ta:TE):TE:=λσ H Q=>ta σ H λx H1=>r x H1 Q
noncomputable def rI(C:Int->Int->Prop)(g:Int->Int->V):R2:=λx y H Q=>∃i j,x = .int i/\y = .int j/\C i j/\Q (g i j) H
noncomputable def lF(g:Int->Int->V):R2:=λx y H Q=>∃i j,x = .int i/\y = .int j/\Q (g i j) H
noncomputable def rU(g:Int->V):V->Hp->VK->Prop:=λx H Q=>∃i,x = .int i/\Q (g i) H
section
variable{X:Cx}{a b c:Expr}{ta tb tc:TE}{pos:Pos}
theorem Ca(ha:PE X a ta)(hb:PE X b tb){pins:List (Addr×Obj)}{s:Shared}{σ:St}{H:Hp}{R:V->V->Hp->Prop}(I:Inv X pins σ H s)
  (h:ta σ H λx H1=>tb σ H1 λy H2=>R x y H2) {Q:Value->Shared->Prop} {f:Value->Value->Sem Value}
  (hf:∀v u s2 x y H2,Inv X pins σ H2 s2->RelV x v->RelV y u->R x y H2->wpAny (model X.prog X.w) X.A (f v u) Q X.xe s2) :
  wpAny (model X.prog X.w) X.A (eval a X.env) (λv bE=>wpAny (model X.prog X.w) X.A (eval b X.env) (λu iu=>wpAny (model X.prog X.w) X.A (f v u) Q X.xe iu) X.xe bE) X.xe s:=by
 refine aI (ha pins s σ H _ I h) λv s1 ⟨x,H1,I1,r1,q1⟩=>?_;refine aI (hb pins s1 σ H1 _ I1 q1) λu s2 ⟨y,H2,I2,r2,q2⟩=>?_;exact hf v u s2 x y H2 I2 r1 r2 q2
theorem aL{op:Operator}{r:R2}(ho:cG X (binaryOp op) r)(ha:PE X a ta)(hb:PE X b tb):PE X (.BinOp a op b pos) (ux r ta tb):=by
 intro pins s σ H Q I h;exact wpAny_BinOp (Ca ha hb I h λv u s2 x y H2 I2 rx ry q=>ho pins s2 σ H2 x y v u Q I2 rx ry q)
theorem mY{op:UnaryOp}{r:V->Hp->VK->Prop}(ho:B_ X (unaryOp op) r)(ha:PE X a ta):PE X (.UnaryOp op a pos) (VW r ta):=by
 intro pins s σ H Q I h;exact UnaryOp_ (aI (ha pins s σ H _ I h) λv s1 ⟨x,H1,I1,r1,q1⟩=>ho pins s1 σ H1 x v Q I1 r1 q1)
theorem uy{f:Value->Value->Sem Value}{C:Int->Int->Prop}{g:Int->Int->Int}
  (rule:∀(i j:Int) (t u:Tok) (s:Shared) (Q:Value->Shared->Prop) (E:Value->Shared->Prop),C i j->Q (.int (g i j) s.toks) { s with toks:=s.toks+1 }->wpAny (model X.prog X.w) X.A (f (.int i t) (.int j u)) Q E s) :
  cG X f (rI C λi j=>.int (g i j)):=by
 intro pins s σ H x y v u Q I rx ry h;obtain⟨i,j,rfl,rfl,hc,q⟩:=h;obtain⟨t,rfl⟩:=rx;obtain⟨t',rfl⟩:=ry;exact rule i j t t' s _ _ hc ⟨.int (g i j),H,I.tok _,⟨_,rfl⟩,q⟩
theorem Ko{f:Value->Value->Sem Value}{g:Int->Int->Int}
  (rule:∀(i j:Int) (t u:Tok) (s:Shared) (Q:Value->Shared->Prop) (E:Value->Shared->Prop),Q (.int (g i j) s.toks) { s with toks:=s.toks+1 }->wpAny (model X.prog X.w) X.A (f (.int i t) (.int j u)) Q E s) :
  cG X f (lF λi j=>.int (g i j)):=by
 intro pins s σ H x y v u Q I rx ry h;obtain⟨i,j,rfl,rfl,q⟩:=h;obtain⟨t,rfl⟩:=rx;obtain⟨t',rfl⟩:=ry;exact rule i j t t' s _ _ ⟨.int (g i j),H,I.tok _,⟨_,rfl⟩,q⟩
theorem uz{f:Value->Value->Sem Value}{g:Int->Int->Bool}
  (rule:∀(i j:Int) (t u:Tok) (s:Shared) (Q:Value->Shared->Prop) (E:Value->Shared->Prop),Q (.bool (g i j)) s->wpAny (model X.prog X.w) X.A (f (.int i t) (.int j u)) Q E s) :
  cG X f (lF λi j=>.bl (g i j)):=by
 intro pins s σ H x y v u Q I rx ry h;obtain⟨i,j,rfl,rfl,q⟩:=h;obtain⟨t,rfl⟩:=rx;obtain⟨t',rfl⟩:=ry;exact rule i j t t' s _ _ ⟨.bl (g i j),H,I,rfl,q⟩
noncomputable def VX(i j:Int):Prop:=0<j/\j<1073741824
noncomputable def VY(i j:Int):Prop:=0<=j/\j<=1000000/\i.natAbs<2 ^ 64
noncomputable def Cb(i j:Int):Prop:=(-(2 ^ 64)<i/\i<2 ^ 64)\/(-(2 ^ 64)<j/\j<2 ^ 64)
theorem Cb.ok{i j:Int}(h:Cb i j):IntMulOk i j:=by
 rcases h with⟨h1,h2⟩ | ⟨h1,h2⟩
 ·exact .of_left (intBits_le_64 h1 h2)
 ·exact .of_right (intBits_le_64 h1 h2)
theorem bI:cG X (binaryOp .Add) (lF λi j=>.int (i+j)):=Ko λ_ _ _ _ _ _ _ q=>add_int q
theorem jS:cG X (binaryOp .Sub) (lF λi j=>.int (i - j)):=Ko λ_ _ _ _ _ _ _ q=>sub_int q
theorem gm:cG X (binaryOp .Mult) (rI Cb λi j=>.int (i*j)):=uy λ_ _ _ _ _ _ _ hc q=>mul_int q hc.ok
theorem oN:cG X (binaryOp .FloorDiv) (rI VX λi j=>.int (i / j)):=uy λi j _ _ _ _ _ hc q=>by
 have h1:(0:Int)<j:=hc.1;have h2:j<1073741824:=hc.2;exact floordiv_int (by lia) (by rw[Int.fdiv_eq_ediv_of_nonneg i (by lia)];exact q) (.inl (PyProof.noPylong_small (by lia)))
theorem jT:cG X (binaryOp .Mod) (rI (λ_ j=>0<j) λi j=>.int (i % j)):=uy λi j _ _ _ _ _ hc q=>by
 have h1:(0:Int)<j:=hc;exact mod_int' (by lia) (by rw[Int.fmod_eq_emod_of_nonneg i (by lia)];exact q)
theorem Cc:cG X (binaryOp .Pow) (rI VY λi j=>.int (i ^ j.toNat)):=uy λ_ _ _ _ _ _ _ hc q=>pow_int_small hc.1 hc.2.1 hc.2.2 q
theorem VZ{f:Value->Sem Value}{g:Int->Int}
  (rule:∀(i:Int) (t:Tok) (s:Shared) (Q:Value->Shared->Prop) (E:Value->Shared->Prop),Q (.int (g i) s.toks) { s with toks:=s.toks+1 }->wpAny (model X.prog X.w) X.A (f (.int i t)) Q E s) :
  B_ X f (rU λi=>.int (g i)):=by
 intro pins s σ H x v Q I rx h;obtain⟨i,rfl,q⟩:=h;obtain⟨t,rfl⟩:=rx;exact rule i t s _ _ ⟨.int (g i),H,I.tok _,⟨_,rfl⟩,q⟩
theorem mZ:B_ X (unaryOp .USub) (rU λi=>.int (-i)):=VZ λ_ _ _ _ _ q=>neg_int q
end
noncomputable def jU:V->V->Bool
 | .aJ,.aJ=>true | .aJ,.int _=>true | .int _,.aJ=>true | .aJ,.bl _=>true | .bl _,.aJ=>true | .aJ,.str _=>true | .str _,.aJ=>true
 | .int _,.int _=>true | .bl _,.bl _=>true | .str _,.str _=>true | .fG _,.fG _=>true
 | .int _,.str _=>true | .str _,.int _=>true | .bl _,.str _=>true | .str _,.bl _=>true
 | _,_=>false
noncomputable def V0:R2:=λx y H Q=>jU x y=true/\Q (.bl (decide (x=y))) H
noncomputable def V1:R2:=λx y H Q=>jU x y=true/\Q (.bl (!decide (x=y))) H
theorem Kp{i j:Int}:decide (V.int i=V.int j)=(i == j):=by
 rw[Bool.eq_iff_iff];simp
theorem Kq{i j:Bool}:decide (V.bl i=V.bl j)=(i == j):=by
 rw[Bool.eq_iff_iff];simp
theorem Kr{i j:Str}:decide (V.str i=V.str j)=(i == j):=by
 rw[Bool.eq_iff_iff];simp
theorem Ks{i j:Array UInt8}:decide (V.fG i=V.fG j)=(i.toList == j.toList):=by
 rw[Bool.eq_iff_iff];cases i;cases j;simp
section
variable{X:Cx}{a b c:Expr}{ta tb tc:TE}{pos:Pos}
theorem cK{pins:List (Addr×Obj)}{σ:St}{H:Hp}{s:Shared}{Q:VK}{k k':Bool}(I:Inv X pins σ H s)(q:Q (.bl k) H)(e:k=k'):EP X pins σ Q (.bool k') s:=by
 subst e;exact⟨.bl k,H,I,rfl,q⟩
theorem lG:cG X (compareOp .Eq) V0:=by
 intro pins s σ H x y v u Q I rx ry h;obtain⟨hs,q⟩:=h;cases x with
 | aJ =>
  cases rx;cases y with
  | aJ=>cases ry;exact PySem.EqNone.eq_none_none (cK I q (by simp))
  | bl j=>cases ry;exact PySem.EqNone.eq_none_bool (cK I q (by simp))
  | int j=>obtain⟨t',rfl⟩:=ry;exact PySem.EqNone.eq_none_int (cK I q (by simp))
  | str j=>obtain⟨t',rfl⟩:=ry;exact PySem.EqNone.eq_none_str (cK I q (by simp))
  | _=>exact absurd (show false=true from hs) Bool.false_ne_true
 | bl i =>
  cases rx;cases y with
  | aJ=>cases ry;exact PySem.EqNone.eq_bool_none (cK I q (by simp))
  | bl j=>cases ry;exact eq_bool (cK I q Kq)
  | str j=>obtain⟨t',rfl⟩:=ry;exact PySem.EqMixed.eq_bool_str (cK I q (by simp))
  | _=>exact absurd (show false=true from hs) Bool.false_ne_true
 | int i =>
  obtain⟨t,rfl⟩:=rx;cases y with
  | aJ=>cases ry;exact PySem.EqNone.eq_int_none (cK I q (by simp))
  | int j=>obtain⟨t',rfl⟩:=ry;exact eq_int (cK I q Kp)
  | str j=>obtain⟨t',rfl⟩:=ry;exact PySem.EqMixed.eq_int_str (cK I q (by simp))
  | _=>exact absurd (show false=true from hs) Bool.false_ne_true
 | str i =>
  obtain⟨t,rfl⟩:=rx;cases y with
  | aJ=>cases ry;exact PySem.EqNone.eq_str_none (cK I q (by simp))
  | bl j=>cases ry;exact PySem.EqMixed.eq_str_bool (cK I q (by simp))
  | int j=>obtain⟨t',rfl⟩:=ry;exact PySem.EqMixed.eq_str_int (cK I q (by simp))
  | str j=>obtain⟨t',rfl⟩:=ry;exact eq_str (cK I q Kr)
  | _=>exact absurd (show false=true from hs) Bool.false_ne_true
 | fG i =>
  obtain⟨t,rfl⟩:=rx;cases y with
  | fG j=>obtain⟨t',rfl⟩:=ry;exact PySem.W.eq_bytes (cK I q Ks)
  | _=>exact absurd (show false=true from hs) Bool.false_ne_true
 | _=>cases y <;> exact absurd (show false=true from hs) Bool.false_ne_true
theorem iU:cG X (compareOp .NotEq) V1:=by
 intro pins s σ H x y v u Q I rx ry h;obtain⟨hs,q⟩:=h;cases x with
 | aJ =>
  cases rx;cases y with
  | aJ=>cases ry;exact PySem.EqNone.ne_none_none (cK I q (by simp))
  | bl j=>cases ry;exact PySem.EqNone.ne_none_bool (cK I q (by simp))
  | int j=>obtain⟨t',rfl⟩:=ry;exact PySem.EqNone.ne_none_int (cK I q (by simp))
  | str j=>obtain⟨t',rfl⟩:=ry;exact PySem.EqNone.ne_none_str (cK I q (by simp))
  | _=>exact absurd (show false=true from hs) Bool.false_ne_true
 | bl i =>
  cases rx;cases y with
  | aJ=>cases ry;exact PySem.EqNone.ne_bool_none (cK I q (by simp))
  | bl j=>cases ry;exact ne_bool (cK I q (congrArg not Kq))
  | str j=>obtain⟨t',rfl⟩:=ry;exact PySem.EqMixed.ne_bool_str (cK I q (by simp))
  | _=>exact absurd (show false=true from hs) Bool.false_ne_true
 | int i =>
  obtain⟨t,rfl⟩:=rx;cases y with
  | aJ=>cases ry;exact PySem.EqNone.ne_int_none (cK I q (by simp))
  | int j=>obtain⟨t',rfl⟩:=ry;exact ne_int (cK I q (congrArg not Kp))
  | str j=>obtain⟨t',rfl⟩:=ry;exact PySem.EqMixed.ne_int_str (cK I q (by simp))
  | _=>exact absurd (show false=true from hs) Bool.false_ne_true
 | str i =>
  obtain⟨t,rfl⟩:=rx;cases y with
  | aJ=>cases ry;exact PySem.EqNone.ne_str_none (cK I q (by simp))
  | bl j=>cases ry;exact PySem.EqMixed.ne_str_bool (cK I q (by simp))
  | int j=>obtain⟨t',rfl⟩:=ry;exact PySem.EqMixed.ne_str_int (cK I q (by simp))
  | str j=>obtain⟨t',rfl⟩:=ry;exact ne_str (cK I q (congrArg not Kr))
  | _=>exact absurd (show false=true from hs) Bool.false_ne_true
 | fG i =>
  obtain⟨t,rfl⟩:=rx;cases y with
  | fG j=>obtain⟨t',rfl⟩:=ry;exact PySem.W.ne_bytes (cK I q (congrArg not Ks))
  | _=>exact absurd (show false=true from hs) Bool.false_ne_true
 | _=>cases y <;> exact absurd (show false=true from hs) Bool.false_ne_true
theorem eO:cG X (compareOp .Lt) (lF λi j=>.bl (decide (i<j))):=uz λ_ _ _ _ _ _ _ q=>lt_int q
theorem uA:cG X (compareOp .LtE) (lF λi j=>.bl (decide (i<=j))):=uz λ_ _ _ _ _ _ _ q=>le_int q
theorem iz:cG X (compareOp .Gt) (lF λi j=>.bl (decide (j<i))):=uz λ_ _ _ _ _ _ _ q=>gt_int q
theorem uB:cG X (compareOp .GtE) (lF λi j=>.bl (decide (j<=i))):=uz λ_ _ _ _ _ _ _ q=>ge_int q
theorem Ku:cG X (compareOp .Is) (λx y H Q=>y = .aJ/\Q (.bl (decide (x = .aJ))) H):=by
 intro pins s σ H x y v u Q I rx ry h;obtain⟨rfl,q⟩:=h;cases ry;refine is_none_gen (cK I q ?_);cases x <;> first
  | (cases rx;rfl)
  | (obtain⟨t,rfl⟩:=rx;rfl)
theorem V2:cG X (compareOp .IsNot) (λx y H Q=>y = .aJ/\Q (.bl (!decide (x = .aJ))) H):=by
 intro pins s σ H x y v u Q I rx ry h;obtain⟨rfl,q⟩:=h;cases ry;refine isnot_none_gen (cK I q ?_);cases x <;> first
  | (cases rx;rfl)
  | (obtain⟨t,rfl⟩:=rx;rfl)
theorem bq(b:Expr){op:CmpOp}(h:op≠.In:=by decide)(h2:op≠.NotIn:=by decide):behindInMarks op b=false:=by
 have e1:(op == CmpOp.In)=false:=by cases op <;> first | rfl | exact absurd rfl h
 have e2:(op == CmpOp.NotIn)=false:=by cases op <;> first | rfl | exact absurd rfl h2
 cases b <;> simp[behindInMarks,e1,e2]
theorem Cd{op:CmpOp}{r:R2}(ho:cG X (compareOp op) r)(ha:PE X a ta)(hb:PE X b tb)(hm:behindInMarks op b=false):PE X (.Compare a [op] [b] pos) (ux r ta tb):=by
 intro pins s σ H Q I h;exact wpAny_Compare1 (Ca ha hb I h λv u s2 x y H2 I2 rx ry q=>ho pins s2 σ H2 x y v u Q I2 rx ry q) hm
noncomputable def Ce(t:TE):TT:=λσ H Q=>t σ H λx H'=>∃k,x = .bl k/\Q k H'
theorem br{op:CmpOp}{r:R2}(ho:cG X (compareOp op) r)(ha:PE X a ta)(hb:PE X b tb)(hm:behindInMarks op b=false):PT X (.Compare a [op] [b] pos) (Ce (ux r ta tb)):=by
 intro pins s σ H Q I h;refine wpAny_isTrue_Compare1 (aI (ha pins s σ H _ I h) λv s1 ⟨x,H1,I1,r1,q1⟩=>aI (hb pins s1 σ H1 _ I1 q1) λu s2 ⟨y,H2,I2,r2,q2⟩ =>
  aI (ho pins s2 σ H2 x y v u _ I2 r1 r2 q2) λc s3 ⟨z,H3,I3,r3,zz⟩=>?_) hm
 obtain⟨k,e,q3⟩:=zz;subst e;cases r3;exact wpAny_truthy_bool ⟨H3,I3,q3⟩
noncomputable def V3(r r':R2)(ta tb tc:TE):TE:=λσ H Q=>ta σ H λx H1=>tb σ H1 λy H2=>r x y H2 λz H3=>∃k,z = .bl k/\
 (if k=true then tc σ H3 λw' H4=>r' y w' H4 Q else Q (.bl false) H3)
theorem V4{op m_:CmpOp}{r r':R2}(ho:cG X (compareOp op) r)(jv:cG X (compareOp m_) r')(ha:PE X a ta)(hb:PE X b tb)(hc:PE X c tc)
  (hm:lastMarks [op,m_] [b,c] = false:=by with_unfolding_all rfl):PT X (.Compare a [op,m_] [b,c] pos) (Ce (V3 r r' ta tb tc)):=by
 intro pins s σ H Q I h;refine isTrue_chain (aI (ha pins s σ H _ I h) λv s1 ⟨x,H1,I1,r1,q1⟩=>test_link (aI (hb pins s1 σ H1 _ I1 q1) λu s2 ⟨y,H2,I2,r2,q2⟩ =>
  aI (ho pins s2 σ H2 x y v u _ I2 r1 r2 q2) λd s3 ⟨z,H3,I3,r3,zz⟩=>?_)) hm
 obtain⟨k,e,q3⟩:=zz;subst e;cases r3;refine wpAny_truthy_bool ?_;cases k with
 | false =>
  obtain⟨k',e',q'⟩:=q3;cases e';exact ite_ff ⟨H3,I3,q'⟩
 | true =>
  refine ite_tt (test_last (aI (hc pins s3 σ H3 _ I3 q3) λw' s4 ⟨z',H4,I4,r4,q4⟩=>aI (jv pins s4 σ H4 y z' u w' _ I4 r2 r4 q4) λd' s5 ⟨z2,H5,I5,r5,zz⟩=>?_));obtain⟨k2,e2,q5⟩:=zz;subst e2;cases r5;exact wpAny_truthy_bool ⟨H5,I5,q5⟩
noncomputable def Kv(K:PySem.W.Frag)(x:V)(H:Hp)(k:Bool):Prop :=
 match x with
 | .aJ=>k=false
 | .bl b=>k=b
 | .int i=>k=(i != 0)
 | .str y=>y.length<=sizeLine/\k=((y.length:Int) != 0)
 | .fG y=>y.size<=sizeLine/\k=((y.size:Int) != 0)
 | .ref p=>(∃xs,aE K H p xs/\k = !xs.isEmpty)\/(∃xs,aQ K H p xs/\k = !xs.isEmpty)\/∃kvs,H p=some (.dK kvs)/\k = !kvs.isEmpty
 | _=>False
theorem V5{κ:Type}{kvs:List (κ×V)}{vs:List (κ×Value)}(r:KV kvs vs):(!vs.isEmpty) = !kvs.isEmpty:=by
 cases r <;> rfl
theorem Kw{xs:List V}{aA:List Value}(r:Vals xs aA):(!aA.toArray.isEmpty) = !xs.isEmpty:=by
 cases r <;> simp
theorem qG:(sizeLine:Nat)<2 ^ 63:=by rw[sizeLine_eq];decide
theorem V6:VV X (λx H Q=>∃k,Kv X.K x H k/\Q k H):=by
 intro pins s σ H x v Q I rx h;obtain⟨k,e,q⟩:=h;have hl:=qG;have hs:sizeLine=16777216:=sizeLine_eq;cases x with
 | aJ =>
  cases rx;have e':k=false:=e;subst e';exact truthy_none ⟨H,I,q⟩
 | bl b =>
  cases rx;have e':k=b:=e;subst e';exact wpAny_truthy_bool ⟨H,I,q⟩
 | int i =>
  obtain⟨t,rfl⟩:=rx;have e':k=(i != 0):=e;subst e';exact PySem.P.truthy_int ⟨H,I,q⟩
 | str y =>
  obtain⟨t,rfl⟩:=rx;obtain⟨hy,e'⟩:y.length<=sizeLine/\k=((y.length:Int) != 0):=e;subst e';exact PySem.P.truthy_str (by lia) ⟨H,I.tok _,q⟩
 | fG y =>
  obtain⟨t,rfl⟩:=rx;obtain⟨hy,e'⟩:y.size<=sizeLine/\k=((y.size:Int) != 0):=e;subst e';exact PySem.W.truthy_bytes (by lia) ⟨H,I.tok _,q⟩
 | ref p =>
  cases rx;have e':(∃xs,aE X.K H p xs/\k = !xs.isEmpty)\/(∃xs,aQ X.K H p xs/\k = !xs.isEmpty)\/∃kvs,H p=some (.dK kvs)/\k = !kvs.isEmpty:=e;rcases e' with⟨xs,hx,e'⟩ | ⟨xs,hx,e'⟩ | ⟨kvs,hx,e'⟩
  ·subst e';obtain⟨aA,r,pl,hz⟩:=I.list hx;have hlen:=r.length;exact wpAny_truthy_list pl.isList (by simp only[List.size_toArray];lia) ⟨H,I.tok _,by rw[Kw r];exact q⟩
  ·subst e';obtain⟨aA,r,pl,hz⟩:=I.tuple hx;have hlen:=r.length;exact truthy_tuple pl (by simp only[List.size_toArray];lia) ⟨H,I.tok _,by rw[Kw r];exact q⟩
  ·subst e';obtain⟨hz,hS,vs,r,m⟩:kvs.length<=sizeLine/\(p == sysModules)=false/\∃vs,KV kvs vs/\s.heap.DictOf (eL X.prog X.w) p vs:=I.aG p _ hx;have hlen:kvs.length=vs.length:=Paired.length r;exact wpAny_truthy_dict hS m (by lia) ⟨H,I.tok _,by rw[V5 r];exact q⟩
 | _=>exact(show False from e).elim
theorem Ky(ha:PE X a ta)(he:∀whole,isTrue a X.env whole=(do let v ← whole;standAt a.pos;holding [v] (truthy v))) :
  PT X a (λσ H Q=>ta σ H λx H'=>∃k,Kv X.K x H' k/\Q k H'):=by
 intro pins s σ H Q I h;exact isTrue_plain (aI (ha pins s σ H _ I h) λv s1 ⟨x,H1,I1,r1,q1⟩=>V6 pins s1 σ H1 x v Q I1 r1 q1) (he _)
theorem vals1{x:V}{us:List Value}(r:Vals [x] us):∃u,us = [u]/\RelV x u:=by
 cases r with
 | cons r1 r2=>cases r2;exact⟨_,rfl,r1⟩
theorem vals2{x y:V}{us:List Value}(r:Vals [x,y] us):∃u w',us = [u,w']/\RelV x u/\RelV y w':=by
 cases r with
 | cons r1 r2 =>
  cases r2 with
  | cons r3 r4=>cases r4;exact⟨_,_,rfl,r1,r3⟩
theorem V7:gk X (.builtin "abs") (λxs H Q=>∃i,xs = [.int i]/\Q (.int (if i<0 then -i else i)) H):=by
 intro pins s σ H xs us Q I r h;obtain⟨i,rfl,q⟩:=h;obtain⟨u,rfl,t,rfl⟩:=vals1 r;exact call_abs_int λu tk=>⟨.int (if i<0 then -i else i),H,I.tok _,⟨_,rfl⟩,q⟩
theorem V8(hc:X.calm=true):gk X (.builtin "max") (λxs H Q=>∃i j,xs = [.int i,.int j]/\Q (.int (if j > i then j else i)) H):=by
 intro pins s σ H xs us Q I r h;obtain⟨i,j,rfl,q⟩:=h;obtain⟨u,w',rfl,⟨t,rfl⟩,⟨t',rfl⟩⟩:=vals2 r;refine max_two_ints (I.ok.hd hc) λh' tk k=>⟨_,H,I.kept k,?_,q⟩;by_cases hj:j > i
 ·rw[if_pos hj,if_pos hj];exact⟨_,rfl⟩
 ·rw[if_neg hj,if_neg hj];exact⟨_,rfl⟩
theorem V9(hc:X.calm=true):gk X (.builtin "min") (λxs H Q=>∃i j,xs = [.int i,.int j]/\Q (.int (if j<i then j else i)) H):=by
 intro pins s σ H xs us Q I r h;obtain⟨i,j,rfl,q⟩:=h;obtain⟨u,w',rfl,⟨t,rfl⟩,⟨t',rfl⟩⟩:=vals2 r;refine min_two_ints (I.ok.hd hc) λh' tk k=>⟨_,H,I.kept k,?_,q⟩;by_cases hj:j<i
 ·rw[if_pos hj,if_pos hj];exact⟨_,rfl⟩
 ·rw[if_neg hj,if_neg hj];exact⟨_,rfl⟩
end
structure ng(h:Heap)(x dx C:Addr)(mA:Str->Option Value):Prop where
 obj:h.get? x=some (PySem.W.instObj C dx)
 ns:h.Ns1 dx mA
 ne:dx≠x
theorem V_{h:Heap}{dx:Addr}{mA:Str->Option Value}(n:h.Ns1 dx mA):∃od,h.get? dx=some od/\∀name,PySem.W.lookIn name od=some (mA name):=by
 obtain⟨o,es,ep,ho,hd,hk,_,hm⟩:=n;refine⟨o,ho,λname=>?_⟩
 have e:=hm name;unfold nsFind findBy at e;rw[← Array.find?_toList] at e;unfold PySem.W.lookIn;rw[hd];dsimp only;split
 ·rename_i y q;rw[q] at e;exact congrArg some e
 ·rename_i q;rw[q] at e;have a:es.toList.any (·.refKey)=false:=by
   rw[List.any_eq_false];intro y hy;obtain⟨z,t,Wa⟩:=hk y (Array.mem_toList_iff.mp hy);simp[DictEntry.refKey,Wa]
  have a':¬ es.toList.any (·.refKey)=true:=by rw[a];exact Bool.false_ne_true
  rw[if_neg a'];exact congrArg some e
theorem ng.look{h:Heap}{x dx C:Addr}{mA:Str->Option Value}(I:ng h x dx C mA):∃od,PySem.W.InstAt h x (PySem.W.instObj C dx) C (some od)/\∀name,PySem.W.lookIn name od=some (mA name) :=
 let ⟨od,ho,hl⟩:=V_ I.ns
 ⟨od,⟨I.obj,rfl,rfl,ho⟩,hl⟩
section
variable{prog:Program}{w:World}{A:Around}{E:Value->Shared->Prop}{s:Shared}{K:PySem.W.Frag}{x dx C f:Addr}{mA:Str->Option Value}{name:Str}{v:Value}
theorem get_map{expr:Bool}{Q:Value->Shared->Prop}(X:K.In s.heap)(I:ng s.heap x dx C mA)(hg:PySem.W.plainGet K C name=true)(hh:PySem.W.hasDictIn K C=true)
  (ha:PySem.W.findIn K (.ref C) name=some none) (hv:mA name=some v) (Wb:PySem.W.handedIn v=true) (h:Q v { s with toks:=s.toks+1 }) :
  wpAny (model prog w) A (getAttr (.ref x) name expr) Q E s:=by
 obtain⟨od,J,hl⟩:=I.look;exact PySem.W.get_value X J (PySem.W.plainGet_of hg).1 (PySem.W.findObj_own hh ha rfl (by rw[hl,hv])) Wb h
theorem Wc{pl:Sem Bool}{Q:Value×List Value->Shared->Prop}(X:K.In s.heap)(I:ng s.heap x dx C mA)(hg:PySem.W.plainGet K C name=true)
  (hf:PySem.W.findIn K (.ref C) name=some (some (.ref f))) (ht:PySem.W.isFn K (.ref f)=true) (hv:mA name=none) (h:Q (.ref f,[.ref x]) s) :
  wpAny (model prog w) A (getMethod (.ref x) name pl) Q E s:=by
 obtain⟨od,J,hl⟩:=I.look;exact PySem.W.method_fn X J (PySem.W.plainGet_of hg).1 (PySem.W.plainGet_of hg).2 hf (beq_iff_eq.mp ht) (by show (PySem.W.lookIn name od).map (·.isSome)=some false;rw[hl,hv];rfl) h
theorem Wd{ns:List Str}{Q:Unit->Shared->Prop}(X:K.In s.heap)(I:ng s.heap x dx C mA)
  (hs:PySem.W.findIn K (.ref C) "__setattr__" = some (some (.builtin "object.__setattr__"))) (hp:PySem.W.plainOver K C=true) (ht:PySem.W.takerIn K C name=some none) (hh:PySem.W.hasDictIn K C=true)
  (hw:PySem.Within mA ns) (hsz:ns.length<=sizeLine)
  (h:∀h',ng h' x dx C (λy=>if y=name then some v else mA y)->Heap.SameBut dx s.heap h'->Q () { s with heap:=h',toks:=s.toks+2 }) :
  wpAny (model prog w) A (setAttr (.ref x) name v) Q E s:=by
 obtain⟨od,J,hl⟩:=I.look;refine PySem.W.set_plain X J hs (PySem.W.osa_open (s:={ s with toks:=s.toks+1 }) (r:=none) X J hp ht λb=>?_)
 obtain⟨cd,hc,kE⟩:=PySem.W.any_some hh;have hx:s.heap.get? x=some ⟨.ref C,some dx,.plain,#[]⟩:=I.obj;refine wpAny_bind (wpAny_pure (wpAny_bind (wpAny_bind (wpAny_loadPart hx (wpAny_bind (PySem.W.Looks.here (s:={ s with toks:=s.toks+1 }) (PySem.W.looks_clsIn X hc) ?_))))));rw[kE];refine wpAny_pure (a:=some dx) (wpAny_bind (wpAny_pure (wpAny_bind ?_)));refine wpAny_nsSet1 (s:={ s with toks:=s.toks+1 }) I.ns λh' uC iy=>?_;obtain⟨oD,esD,epD,We,Wf,Wg⟩:=uC.count (PySem.Within.cons name v hw);refine wpAny_bind (wpAny_lookBehind We (by rw[Wf];exact pastItsLine_dict (Nat.le_trans Wg (by rw[List.length_cons];lia))) ?_)
 exact wpAny_pure (h _ ⟨(iy.2 _ (Ne.symm I.ne)).trans I.obj,uC,I.ne⟩ iy)
theorem Wh{R:Result->Shared->Prop}{vs:List Value}{kw:List (Str×Value)}(X:K.In s.heap)(hm:PySem.W.makesIn K C=true)
  (hi:PySem.W.findIn K (.ref C) "__init__" = some (some (.ref f))) (hf:PySem.W.typeIn K (.ref f)=some (.type "function"))
  (h:codeAny (model prog w) (A.under (.builtin "type.__call__" ⟨.ref C::vs,kw⟩)) (.call (.ref f) ⟨.ref (s.heap.objs.size+1)::vs,kw⟩) (PySem.W.InitBack (s.heap.objs.size+1) R)
   { s with heap:=(s.heap.push PySem.W.emptyDict).push (PySem.W.instObj C s.heap.objs.size)}) :
  codeAny (model prog w) A (.call (.ref C) ⟨vs,kw⟩) R s:=by
 obtain⟨hh,g,d,t,os⟩:=s;exact PySem.W.make_core (PySem.W.makes_of X hm) (PySem.W.looks_findIn X hi) (λself=>PySem.W.bind_fn X self hf) (.inl rfl) h
end
noncomputable def fZ(f:Str)(v:V):List (Str×V)->List (Str×V)
 | []=>[(f,v)]
 | (g,x)::r=>if g=f then(g,v)::r else(g,x)::fZ f v r
theorem Kz(f g:Str)(v:V):∀fs:List (Str×V),(fZ f v fs).lookup g=if g=f then some v else fs.lookup g
 | []=>by
  show List.lookup g [(f,v)] = _;by_cases h:g=f
  ·have hb:(g == f)=true:=beq_iff_eq.mpr h;simp only[List.lookup,hb,if_pos h]
  ·have hb:(g == f)=false:=beq_eq_false_iff_ne.mpr h;simp only[List.lookup,hb,if_neg h]
 | (k,x)::r=>by
  have ih:=Kz f g v r;rw[show fZ f v ((k,x)::r)=(if k=f then(k,v)::r else(k,x)::fZ f v r) from rfl]
  by_cases hk:k=f
  ·rw[if_pos hk];by_cases h:g=k
   ·have hb:(g == k)=true:=beq_iff_eq.mpr h;simp only[List.lookup,hb,if_pos (h.trans hk)]
   ·have hb:(g == k)=false:=beq_eq_false_iff_ne.mpr h;simp only[List.lookup,hb,if_neg (λe:g=f=>h (e.trans hk.symm))]
  ·rw[if_neg hk];by_cases h:g=k
   ·have hb:(g == k)=true:=beq_iff_eq.mpr h;simp only[List.lookup,hb,if_neg (λe:g=f=>hk (h.symm.trans e))]
   ·have hb:(g == k)=false:=beq_eq_false_iff_ne.mpr h;simp only[List.lookup,hb];exact ih
theorem Cf(f:Str)(v:V):∀fs:List (Str×V),f∈(fZ f v fs).map (·.1)/\∀g,g∈fs.map (·.1)->g∈(fZ f v fs).map (·.1)
 | []=>⟨by simp[fZ],λg h=>by simp at h⟩
 | (k,x)::r=>by
  obtain⟨i1,i2⟩:=Cf f v r;rw[show fZ f v ((k,x)::r)=(if k=f then(k,v)::r else(k,x)::fZ f v r) from rfl]
  by_cases hk:k=f
  ·rw[if_pos hk];subst hk;exact⟨by simp,λg h=>by simpa using h⟩
  ·rw[if_neg hk];refine⟨?_,λg h=>?_⟩
   ·rw[List.map_cons];exact List.mem_cons_of_mem _ i1
   ·rw[List.map_cons] at h ⊢;rcases List.mem_cons.mp h with e | e
    ·exact List.mem_cons.mpr (.inl e)
    ·exact List.mem_cons_of_mem _ (i2 g e)
theorem KA(f:Str)(v:V):∀fs:List (Str×V),(fZ f v fs).length<=fs.length+1
 | []=>by simp[fZ]
 | (k,x)::r=>by
  have ih:=KA f v r;rw[show fZ f v ((k,x)::r)=(if k=f then(k,v)::r else(k,x)::fZ f v r) from rfl]
  by_cases hk:k=f
  ·rw[if_pos hk,List.length_cons,List.length_cons];lia
  ·rw[if_neg hk,List.length_cons,List.length_cons];lia
theorem fu.some_of{v:V}{o:Option Value}(r:fu (some v) o):∃u,o=some u/\RelV v u:=by
 cases o with
 | none=>exact(show False from r).elim
 | some u=>exact⟨u,rfl,r⟩
theorem fu.none_of{o:Option Value}(r:fu none o):o=none:=by
 cases o with
 | none=>rfl
 | some u=>exact(show False from r).elim
theorem Wi{v:V}{u:Value}(r:RelV v u):PySem.W.handedIn u=true:=by
 cases v with
 | aJ=>cases (show u=Value.none from r);rfl
 | bl b=>cases (show u=Value.bool b from r);rfl
 | int i=>obtain⟨t,e⟩:=(show ∃t,u=Value.int i t from r);cases e;rfl
 | str x=>obtain⟨t,e⟩:=(show ∃t,u=Value.str x t from r);cases e;rfl
 | fG b=>obtain⟨t,e⟩:=(show ∃t,u=Value.bytes b t from r);cases e;rfl
 | jt b=>obtain⟨t,e⟩:=(show ∃t,u=Value.float b t from r);cases e;rfl
 | ref a=>cases (show u=Value.ref a from r);rfl
 | ty n=>cases (show u=Value.type n from r);rfl
section
variable{P:Program}{w:World}{H H':Hp}{h h':Heap}{a C dx:Addr}{fs Vq:List (Str×V)}
theorem uD(aG:b5 P w H h)(e:H a=some (.ins C dx fs)):∃mA,ng h a dx C mA/\(∀f,fu (fs.lookup f) (mA f))/\PySem.Within mA (fs.map (·.1))/\fs.length<=1000/\H dx=some (.own a):=by
 obtain⟨d,z,ne,ob,mA,n,r,q⟩:=(show cN P w H h a (.ins C dx fs) from aG a _ e);exact⟨mA,⟨ob,n,ne⟩,r,q,z,d⟩
end
structure dO(K:PySem.W.Frag)(C:Addr):Prop where
 pg:PySem.W.plainGet K C Str.empty=true
 hd:PySem.W.hasDictIn K C=true
 po:PySem.W.plainOver K C=true
 sa:PySem.W.findIn K (.ref C) "__setattr__" = some (some (.builtin "object.__setattr__"))
theorem dO.get{K:PySem.W.Frag}{C:Addr}(c:dO K C)(f:Str):PySem.W.plainGet K C f=true:=c.pg
noncomputable def bO(K:PySem.W.Frag)(C:Addr)(f:Str):Prop:=PySem.W.findIn K (.ref C) f=some none
theorem bO.Wj{K:PySem.W.Frag}{C:Addr}{f:Str}(n:bO K C f):PySem.W.takerIn K C f=some none:=by
 unfold PySem.W.takerIn;rw[show PySem.W.findIn K (.ref C) f=some none from n]
 rfl
structure Meth(K:PySem.W.Frag)(C:Addr)(m:Str)(f:Addr):Prop where
 at_:PySem.W.findIn K (.ref C) m=some (some (.ref f))
 fn:PySem.W.isFn K (.ref f)=true
 kp:PySem.W.keepIn K (.ref f)=true
section
variable{X:Cx}{pins:List (Addr×Obj)}{σ:St}{H:Hp}{s:Shared}{a C dx:Addr}{fs:List (Str×V)}{f:Str}{v:V}{A:Around}{E:Value->Shared->Prop}
theorem Wk{b:Bool}{Q:Value->Shared->Prop}(I:Inv X pins σ H s)(e:H a=some (.ins C dx fs))(c:dO X.K C)(n:bO X.K C f)(l:fs.lookup f=some v)
  (h:∀u s',Inv X pins σ H s'->RelV v u->Q u s'):wpAny (model X.prog X.w) A (getAttr (.ref a) f b) Q E s:=by
 obtain⟨mA,O,r,_,_,_⟩:=uD I.aG e;obtain⟨u,hu,ru⟩:=fu.some_of (v:=v) (o:=mA f) (by rw[← l];exact r f)
 exact get_map I.cF O (c.get f) c.hd n hu (Wi ru) (h u _ (I.tok _) ru)
theorem uE{m:Str}{g:Addr}{pl:Sem Bool}{Q:Value×List Value->Shared->Prop}(I:Inv X pins σ H s)(e:H a=some (.ins C dx fs))(c:dO X.K C)(k:Meth X.K C m g)(l:fs.lookup m=none)
  (h:Q (.ref g,[.ref a]) s):wpAny (model X.prog X.w) A (getMethod (.ref a) m pl) Q E s:=by
 obtain⟨mA,O,r,_,_,_⟩:=uD I.aG e;have hn:mA m=none:=fu.none_of (by rw[← l];exact r m)
 exact Wc I.cF O (c.get m) k.at_ k.fn hn h
theorem Wl{y:V}{u:Value}{Q:Unit->Shared->Prop}(I:Inv X pins σ H s)(e:H a=some (.ins C dx fs))(c:dO X.K C)(n:bO X.K C f)(hl:fs.length<1000)(ry:RelV y u)
  (h:∀s',Inv X pins σ (upd H a (.ins C dx (fZ f y fs))) s'->Q () s'):wpAny (model X.prog X.w) A (setAttr (.ref a) f u) Q E s:=by
 obtain⟨mA,O,r,wi,_,ho⟩:=uD I.aG e;have hz:(fs.map (·.1)).length<=sizeLine:=by rw[List.length_map,sizeLine_eq];lia
 refine Wd I.cF O c.sa c.po n.Wj c.hd wi hz λh' O' sb=>h _ ?_;have hd:∃o,h'.get? dx=some o:=let ⟨o,_,_,e',_⟩:=O'.ns;⟨o,e'⟩
 refine I.write (x:=a) (e:=dx) (by rw[e];exact True.intro) (.inr ho) (λb q hb z=>(sb.2 b hb).trans z) hd ?_
 refine⟨by rw[aC O.ne];exact ho,?_,O.ne,O'.obj,_,O'.ns,λg=>?_,λg hg=>?_⟩
 ·have:=KA f y fs;lia
 ·show fu ((fZ f y fs).lookup g) (if g=f then some u else mA g)
  rw[Kz];by_cases q:g=f
  ·rw[if_pos q,if_pos q];exact ry
  ·rw[if_neg q,if_neg q];exact r g
 ·by_cases q:g=f
  ·rw[q];exact(Cf f y fs).1
  ·refine(Cf f y fs).2 g (wi g λz=>hg ?_)
   show (if g=f then some u else mA g)=none
   rw[if_neg q];exact z
theorem Inv.made(I:Inv X pins σ H s):Inv X pins σ (upd (upd H s.heap.objs.size (.own (s.heap.objs.size+1))) (s.heap.objs.size+1) (.ins C s.heap.objs.size []))
  { s with heap:=(s.heap.push PySem.W.emptyDict).push (PySem.W.instObj C s.heap.objs.size)}:=by
 have e1:(s.heap.push PySem.W.emptyDict).get? s.heap.objs.size=some PySem.W.emptyDict:=Heap.get?_push_size s.heap rfl;have e2:((s.heap.push PySem.W.emptyDict).push (PySem.W.instObj C s.heap.objs.size)).get? (s.heap.objs.size+1)=some (PySem.W.instObj C s.heap.objs.size):=by
  have:=Heap.get?_push_size (s.heap.push PySem.W.emptyDict) (o:=PySem.W.instObj C s.heap.objs.size) rfl;rwa [Heap.size_push] at this
 have e3:(s.heap.push PySem.W.emptyDict).Ns s.heap.objs.size (λ_=>none):=⟨PySem.W.emptyDict,#[],_,e1,rfl,(λe he=>absurd he (by simp)),λ_=>rfl⟩
 have I1:=I.laid (a:=s.heap.objs.size) (o:=.own (s.heap.objs.size+1)) (h':=s.heap.push PySem.W.emptyDict) (t':=s.toks) (λb u q=>Heap.get?_push_of_some _ q) (Nat.le_refl _) ⟨_,e1⟩;refine I1.laid (a:=s.heap.objs.size+1) (o:=.ins C s.heap.objs.size []) (t':=s.toks) (λb u q=>Heap.get?_push_of_some _ q) (Nat.le_of_eq (Heap.size_push _ _)) ?_;have ne:s.heap.objs.size≠s.heap.objs.size+1:=Nat.ne_of_lt (Nat.lt_succ_self _);refine⟨by rw[aC ne,aD],Nat.zero_le _,ne,e2,λ_=>none,(Heap.Ns1.of_empty e3).at λo q=>Heap.get?_push_of_some _ q,λ_=>True.intro,λy hy=>absurd rfl hy⟩
theorem Wm{prog:Program}{w:World}{env:Env}{e:Expr}{f:Str}{pos:Pos}{s:Shared}{Q:Value->Shared->Prop}(hb:attributeBase e f env (eval e env)=eval e env)
  (h:wpAny (model prog w) A (eval e env) (λo bE=>wpAny (model prog w) A (getAttr o f true) Q E bE) E s):wpAny (model prog w) A (eval (.Attribute e f pos) env) Q E s :=
 Attribute_any_ h (by rw[arm_eval_Attribute,hb])
end
noncomputable def KC(K:PySem.W.Frag)(ta:TE)(f:Str):TE:=λσ H Q=>ta σ H λx H1=>∃a C dx fs v,x = .ref a/\H1 a=some (.ins C dx fs)/\dO K C/\bO K C f/\fs.lookup f=some v/\Q v H1
noncomputable def Wn(K:PySem.W.Frag)(ta tv:TE)(f:Str):TS:=λD σ H=>tv σ H λy H1=>ta σ H1 λx H2=>∃a C dx fs,x = .ref a/\H2 a=some (.ins C dx fs)/\dO K C/\bO K C f/\fs.length<1000/\
 D.nx σ (upd H2 a (.ins C dx (fZ f y fs)))
section
variable{X:Cx}{o e value:Expr}{f:Str}{pos pos' Wo:Pos}{ta tv:TE}
theorem aU(he:PE X e ta)(hb:attributeBase e f X.env (eval e X.env)=eval e X.env):PE X (.Attribute e f pos) (KC X.K ta f):=by
 intro pins s σ H Q I h;refine Wm hb (aI (he pins s σ H _ I h) λu s1 ⟨x,H1,I1,rx,zz⟩=>?_);obtain⟨a,C,dx,fs,v,ex,ea,c,n,l,q⟩:=zz;subst ex;obtain rfl:u=Value.ref a:=rx;exact Wk I1 ea c n l λu' s2 I2 ru=>⟨v,H1,I2,ru,q⟩
theorem cg(ha:PE X o ta)(hv:PE X value tv)(hs:swapsWith value (some (.Attribute o f pos')) pos.line X.env=pure false):PS X (.Assign [.Attribute o f pos'] value pos) (Wn X.K ta tv f):=by
 intro pins s σ H D I h;refine plainObj_wpAny_Assign_Attribute (aI (hv pins s σ H _ I h) λu s1 ⟨y,H1,I1,ry,q⟩=>aI (ha pins s1 σ H1 _ I1 q) λov s2 ⟨x,H2,I2,rx,zz⟩=>?_) hs;obtain⟨a,C,dx,fs,ex,ea,c,n,l,q2⟩:=zz;subst ex;obtain rfl:ov=Value.ref a:=rx;exact Wl I2 ea c n l ry λs3 I3=>⟨σ,_,I3,q2⟩
end
section
variable{X:Cx}{pins:List (Addr×Obj)}{σ:St}{H:Hp}{s:Shared}{A:Around}{E:Value->Shared->Prop}{Q:Value->Shared->Prop}{c:Value}{b:Bool}
inductive fH (K:PySem.W.Frag) (H:Hp):V->Value->Prop where
 | aJ:fH K H .aJ (.type "NoneType")
 | bl (x:Bool):fH K H (.bl x) (.type "bool")
 | int (i:Int):fH K H (.int i) (.type "int")
 | str (x:Str):fH K H (.str x) (.type "str")
 | jt (x:UInt64):fH K H (.jt x) (.type "float")
 | lst {a:Addr} {xs:List V} (e:H a=some (.lst xs)):fH K H (.ref a) (.type "list")
 | bL {a:Addr} {o:Obj} {xs:List V} (e:H a=some (.bL o (.lst xs))):fH K H (.ref a) (.type "list")
 | tup {a:Addr} {xs:List V} (e:H a=some (.tup xs)):fH K H (.ref a) (.type "tuple")
 | dK {a:Addr} {kvs:List (Key×V)} (e:H a=some (.dK kvs)):fH K H (.ref a) (.type "dict")
 | dT {a:Addr} {kvs:List (List Key×V)} (e:H a=some (.dT kvs)):fH K H (.ref a) (.type "dict")
 | ins {a C dx:Addr} {fs:List (Str×V)} (e:H a=some (.ins C dx fs)) (cl:dO K C) (ha:PySem.W.findIn K (.ref C) "__class__" = some (some (.builtin "object.__class__")))
   (hn:PySem.W.specialIn K (.builtin "object.__class__") "__get__" = some (some (.builtin "getset_descriptor.__get__"))) (KG:PySem.W.takesIn K (.builtin "object.__class__")=some true)
   (hm:PySem.W.mroIn K C (.type "object")=some true):fH K H (.ref a) (.ref C)
theorem Wq{x:V}{u t:Value}(I:Inv X pins σ H s)(rx:RelV x u)(ty:fH X.K H x t)(e:PySem.W.kitOne X.K t c=some b)(h:∀tk,Q (.bool b) { s with toks:=tk }) :
  wpAny (model X.prog X.w) A (call (.builtin "isinstance") [u,c]) Q E s:=by
 cases ty with
 | aJ=>cases (show u=Value.none from rx);exact PySem.W.kia_one PySem.W.kitx_none I.cF True.intro e (λz=>nomatch z) h
 | bl y=>cases (show u=Value.bool y from rx);exact PySem.W.kia_one PySem.W.kitx_bool I.cF True.intro e (λz=>nomatch z) h
 | int i=>obtain⟨t,q⟩:=(show ∃t,u=Value.int i t from rx);cases q;exact PySem.W.kia_one PySem.W.kitx_int I.cF True.intro e (λz=>nomatch z) h
 | str y=>obtain⟨t,q⟩:=(show ∃t,u=Value.str y t from rx);cases q;exact PySem.W.kia_one PySem.W.kitx_str I.cF True.intro e (λz=>nomatch z) h
 | jt y=>obtain⟨t,q⟩:=(show ∃t,u=Value.float y t from rx);cases q;exact PySem.W.kia_one PySem.W.kitx_float I.cF True.intro e (λz=>nomatch z) h
 | @lst a xs ea =>
  cases (show u=Value.ref a from rx);obtain⟨_,_,n,_,h1⟩:=(show cN X.prog X.w H s.heap a (.lst xs) from I.aG a _ ea);exact PySem.W.kia_one PySem.W.kitx_list I.cF ⟨_,h1,rfl⟩ e (λz=>nomatch z) h
 | @bL a ob xs ea =>
  cases (show u=Value.ref a from rx);obtain⟨_,_,_,n,_,h1⟩:=(show cN X.prog X.w H s.heap a (.bL ob (.lst xs)) from I.aG a _ ea);exact PySem.W.kia_one PySem.W.kitx_list I.cF ⟨_,h1,rfl⟩ e (λz=>nomatch z) h
 | @tup a xs ea =>
  cases (show u=Value.ref a from rx);obtain⟨_,_,_,p⟩:=(show cN X.prog X.w H s.heap a (.tup xs) from I.aG a _ ea);obtain⟨o,h1,h2,_⟩:=p;exact PySem.W.kia_one PySem.W.kitx_tuple I.cF ⟨o,h1,h2⟩ e (λz=>nomatch z) h
 | @dK a kvs ea =>
  cases (show u=Value.ref a from rx);obtain⟨_,_,vs,_,p⟩:=(show cN X.prog X.w H s.heap a (.dK kvs) from I.aG a _ ea);obtain⟨o,es,ep,h1,h2,_⟩:=p;exact PySem.W.kia_one PySem.W.kitx_dict I.cF ⟨o,h1,h2.1⟩ e (λz=>nomatch z) h
 | @dT a kvs ea =>
  cases (show u=Value.ref a from rx);obtain⟨_,_,xs,_,o,es,ep,h1,h2,_⟩:=(show cN X.prog X.w H s.heap a (.dT kvs) from I.aG a _ ea);exact PySem.W.kia_one PySem.W.kitx_dict I.cF ⟨o,h1,h2.1⟩ e (λz=>nomatch z) h
 | @ins a C dx fs ea cl ha hn KG hm =>
  cases (show u=Value.ref a from rx);obtain⟨mA,O,_⟩:=uD I.aG ea;obtain⟨od,J,_⟩:=O.look;exact PySem.W.kia_one (PySem.W.kitx_own (cl.get _) cl.hd ha hn KG hm) I.cF J e (λz=>nomatch z) h
end
structure cy(k:Nat)(A:Around):Prop where
 hd:A.handled=none
 dp:A.depth+3*k+5<recursionLimit
 un:A.units+16*k+200<cLine
theorem cy.mono{j k:Nat}{A:Around}(r:cy k A)(h:j<=k):cy j A:=⟨r.hd,by have:=r.dp;lia,by have:=r.un;lia⟩
theorem cy.deeper{k:Nat}{A:Around}(r:cy (k+1) A)(env:Env):cy k (A.deeper env) :=
 ⟨r.hd,by have:=r.dp;show A.depth+1+3*k+5<_;lia,by have:=r.un;show A.units+3+16*k+200<_;lia⟩
theorem Wr{A:Around}{C:Addr}{us:List Value}{kw:List (Str×Value)}:(A.under (.builtin "type.__call__" ⟨.ref C::us,kw⟩)).depth=A.depth+1:=by
 first | rfl | simp[Around.under,Code.weight,Code.isCreation,Code.isGuard,Code.isCaller,Code.frames,Code.isFrame,guardIds]
theorem Ws{A:Around}{C:Addr}{us:List Value}{kw:List (Str×Value)}:(A.under (.builtin "type.__call__" ⟨.ref C::us,kw⟩)).units=A.units+1:=by
 first | rfl | simp[Around.under,Code.cUnits,Code.frames,Code.isFrame]
theorem cy.make{k:Nat}{A:Around}(r:cy (k+1) A)(C:Addr)(us:List Value)(kw:List (Str×Value)):cy k (A.under (.builtin "type.__call__" ⟨.ref C::us,kw⟩)) :=
 ⟨r.hd,by have:=r.dp;rw[Wr];lia,by have:=r.un;rw[Ws];lia⟩
theorem cy.depth{k:Nat}{A:Around}(r:cy k A):A.depth<recursionLimit:=by have:=r.dp;lia
theorem cy.units{k:Nat}{A:Around}(r:cy k A):A.units+64<cLine:=by have:=r.un;lia
theorem cy.Cg{k:Nat}{A:Around}(r:cy k A):A.units<cLine:=by have:=r.un;lia
noncomputable def Ci:TA:=λ_ H Q=>Q [] H
noncomputable def Wt(ta:TE)(tr:TA):TA:=λσ H Q=>ta σ H λx H1=>tr σ H1 λxs H2=>Q (x::xs) H2
section
variable{X:Cx}{e:Expr}{es:List Expr}{te:TE}{t:TA}{pos:Pos}
theorem aj:PA X [] Ci:=λ_ _ _ _ H Q I h=>Calls.spliced_nil ⟨[],H,I,.nil,h⟩
theorem aa(ha:PE X e te)(hr:PA X es t)(hs:starEach (e::es) X.env=(false,eval e X.env)::starEach es X.env:=by rfl):PA X (e::es) (Wt te t):=by
 intro pos pins s σ H Q I h;rw[hs]
 show wpAny _ _ (spliced ((false,eval e X.env)::backTo pos (starEach es X.env))) _ _ s;refine Calls.spliced_cons (aI (ha pins s σ H _ I h) λu s1 ⟨x,H1,I1,r1,q1⟩=>?_);exact aI (hr pos pins s1 σ H1 _ I1 q1) λus s2 ⟨xs,H2,I2,r2,q2⟩=>⟨x::xs,H2,I2,.cons r1 r2,q2⟩
noncomputable def Wu(t:TA):TE:=λσ H Q=>t σ H λxs H1=>xs.length<=sizeLine/\∀p,H1 p=none->Q (.ref p) (upd H1 p (.tup xs))
noncomputable def Wv(t:TA):TE:=λσ H Q=>t σ H λxs H1=>xs.length<=sizeLine/\∀p,H1 p=none->Q (.ref p) (upd H1 p (.lst xs))
theorem dP{x1}(h:PA X es t):PE X (.Tuple es x1 pos) (Wu t):=by
 intro pins s σ H Q I hq;refine wpAny_Tuple_spliced (aI (h pos pins s σ H _ I hq) λus s1 ⟨xs,H1,I1,r,z,q⟩=>⟨by rw[← r.length];exact z,?_⟩)
 have hf:H1 s1.heap.objs.size=none:=I1.aG.fresh (Nat.le_refl _);refine⟨.ref s1.heap.objs.size,upd H1 s1.heap.objs.size (.tup xs),I1.laid (t':=s1.toks) (λb u e=>Heap.get?_push_of_some _ e) (Nat.le_refl _) ?_,rfl,q _ hf⟩;exact⟨z,us,r,⟨_,Heap.get?_push_size _ rfl,rfl,_,rfl⟩⟩
theorem dz(h:PA X es t):PE X (.List es pos) (Wv t):=by
 intro pins s σ H Q I hq;refine wpAny_List_spliced (aI (h pos pins s σ H _ I hq) λus s1 ⟨xs,H1,I1,r,z,q⟩=>⟨by rw[← r.length];exact z,?_⟩)
 have hf:H1 s1.heap.objs.size=none:=I1.aG.fresh (Nat.le_refl _);refine⟨.ref s1.heap.objs.size,upd H1 s1.heap.objs.size (.lst xs),I1.laid (t':=s1.toks) (λb u e=>Heap.get?_push_of_some _ e) (Nat.le_refl _) ?_,rfl,q _ hf⟩;exact⟨z,us,0,r,Heap.get?_push_size _ rfl⟩
end
noncomputable abbrev Sp:=List V->Hp->VK->XK->Prop
noncomputable abbrev f9:=List Env->Hp->Shared->XK->Value->Shared->Prop
structure lH(P:Program)(w:World)(K:PySem.W.Frag)(mg:Str->Option Value)(base:Heap)(A:Around)(outer:List Env)(s:Shared)(H:Hp):Prop where
 frames:A.frames=some outer
 mod:Mod K mg base
 bs:∀b o,base.get? b=some o->s.heap.get? b=some o/\H b=none
 iR:base.objs.size<=s.heap.objs.size
 fY:s.heap.FunFrames base outer
 iS:∀b∈b_ outer,H b=none
 aG:b5 P w H s.heap
 bare:AllBare s.gens
noncomputable def CE(outer:List Env)(P:Program)(w:World)(H:Hp)(s:Shared)(Q:VK)(u:Value)(s':Shared):Prop :=
 ∃v H',s'.os=s.os/\AllBare s'.gens/\Un (b_ outer) [] H H' s.heap s'.heap/\b5 P w H' s'.heap/\RelV v u/\Q v H'
noncomputable def CR(CX:f9)(outer:List Env)(P:Program)(w:World)(H:Hp)(s:Shared)(Q:VK)(E:XK)(r:Result)(s':Shared):Prop :=
 match r with
 | .ok (.ret u)=>CE outer P w H s Q u s'
 | .ok _=>False
 | .error e=>CX outer H s E e s'
structure aR(P:Program)(w:World)(K:PySem.W.Frag)(mg:Str->Option Value)(base:Heap)(CX:f9)(k:Nat)(f:Addr)(fd:FuncData)(ps:List Str)(sp:Sp):Prop where
 len:∀vs H Q E,sp vs H Q E->vs.length=ps.length
 run:∀(A:Around) (outer:List Env) (s:Shared) (H:Hp) (args:Args) (us:List Value) (vs:List V) (Q:VK) (E:XK),cy k A->lH P w K mg base A outer s H->BindsTo s fd args (ps.zip us)->Vals vs us->sp vs H Q E->
  codeAny (model P w) A (.call (.ref f) args) (CR CX outer P w H s Q E) s
theorem lH.make{P:Program}{w:World}{K:PySem.W.Frag}{mg:Str->Option Value}{base:Heap}{A:Around}{outer:List Env}{s:Shared}{H:Hp}(e:lH P w K mg base A outer s H)(C:Addr)(us:List Value)(kw:List (Str×Value)) :
  lH P w K mg base (A.under (.builtin "type.__call__" ⟨.ref C::us,kw⟩)) outer s H:=⟨by first | exact e.frames | (simpa[Around.under,Code.envs,Code.isFrame,pushEnvs] using e.frames),e.mod,e.bs,e.iR,e.fY,e.iS,e.aG,e.bare⟩
section
variable{X:Cx}{pins:List (Addr×Obj)}{σ:St}{H:Hp}{s s':Shared}
theorem Inv.uF(I:Inv X pins σ H s):lH X.prog X.w X.K X.mg X.base X.A X.stack s H :=
 ⟨I.ok.frames,I.ok.mod,I.bs,Nat.le_trans I.ok.iR I.sz,I.stack,I.BJ,I.aG,I.bare⟩
theorem Inv.after{Q:VK}{u:Value}(I:Inv X pins σ H s)(h:CE X.stack X.prog X.w H s Q u s'):EP X pins σ Q u s':=by
 obtain⟨v,H',os,bare,un,aG,r,q⟩:=h;obtain⟨hh,g,d,t,Ww⟩:=s';obtain rfl:Ww=s.os:=os;exact⟨v,H',I.call (h':=hh) (g':=g) (d':=d) (t':=t) (ch:=[]) un aG bare (λb z=>absurd z (by simp)),r,q⟩
end
noncomputable def Cj(sp:Sp)(cA:List V)(E:XK)(t:TA):TE:=λσ H Q=>t σ H λvs H1=>sp (vs++cA) H1 Q E
noncomputable def KH(C:Addr)(m:Str)(sp:Sp)(cA:List V)(E:XK)(ta:TE)(t:TA):TE:=λσ H Q=>ta σ H λx H1=>∃a dx fs,x = .ref a/\H1 a=some (.ins C dx fs)/\fs.lookup m=none/\
 t σ H1 λvs H2=>sp (x::(vs++cA)) H2 Q E
noncomputable def Wx(C:Addr)(sp:Sp)(cA:List V)(E:XK)(t:TA):TE:=λσ H Q=>t σ H λvs H1=>∀x dx,H1 x=none->H1 dx=none->dx≠x->
 sp (.ref x::(vs++cA)) (upd (upd H1 dx (.own x)) x (.ins C dx [])) (λv H2=>v = .aJ/\Q (.ref x) H2) E
noncomputable def Binds(K:PySem.W.Frag)(fd:FuncData)(ps:List Str)(ds:List Value):Prop :=
 ∀(s:Shared) (us:List Value),K.In s.heap->(us++ds).length=ps.length->BindsTo s fd ⟨us,[]⟩ (ps.zip (us++ds))
theorem Binds.all{K:PySem.W.Frag}{fd:FuncData}{ps:List Str}(h:∀us:List Value,us.length=ps.length->bindArgs fd ⟨us,[]⟩=pure (ps.zip us)):Binds K fd ps []:=λs us _ hl=>by
 rw[List.append_nil] at hl ⊢;exact .of_eq (h us hl)
noncomputable def Passes(CX:f9)(X:Cx)(E:XK):Prop:=∀(pins:List (Addr×Obj)) (σ:St) (H:Hp) (s:Shared) (e:Value) (s':Shared),Inv X pins σ H s->CX X.stack H s E e s'->X.xe e s'
section
variable{X:Cx}{CX:f9}{k:Nat}{f C:Addr}{fd:FuncData}{ps:List Str}{sp:Sp}{cA:List V}{ds:List Value}{E:XK}{x m:Str}{p pos apos:Pos}{e o:Expr}{es:List Expr}{ta:TE}{t:TA}
theorem qH{pins:List (Addr×Obj)}{σ:St}{H:Hp}{s:Shared}{Q:VK}{us:List Value}{vs:List V}(F:aR X.prog X.w X.K X.mg X.base CX k f fd ps sp)(hr:cy k X.A)(hb:Binds X.K fd ps ds)(hd:Vals cA ds)(hx:Passes CX X E)
  (I:Inv X pins σ H s) (r:Vals vs us) (h:sp (vs++cA) H Q E):wpAny (model X.prog X.w) X.A (call (.ref f) us) (EP X pins σ Q) X.xe s:=by
 have r2:Vals (vs++cA) (us++ds):=r.append hd;have hl:(us++ds).length=ps.length:=by rw[← r2.length];exact F.len _ _ _ _ h
 refine wpAny_call (codeAny_mono (F.run X.A X.stack s H ⟨us,[]⟩ (us++ds) (vs++cA) Q E hr I.uF (hb s us I.cF hl) r2 h) λr s' hq=>?_);cases r with
 | error e=>exact hx pins σ H s e s' I hq
 | ok fl =>
  cases fl with
  | ret u=>exact I.after hq
  | next=>exact False.elim hq
  | brk=>exact False.elim hq
  | cont=>exact False.elim hq
theorem aP(F:aR X.prog X.w X.K X.mg X.base CX k f fd ps sp)(hr:cy k X.A)(hg:Gl X x)(hm:X.mg x=some (.ref f))(hk:PySem.W.keepIn X.K (.ref f)=true)(hb:Binds X.K fd ps ds)(hd:Vals cA ds)(hx:Passes CX X E)
  (ha:PA X (e::es) t) (gA:(x == ("__debug__" : Str))=false:=by decide) (he:starEach (e::es) X.env=(false,eval e X.env)::starEach es X.env:=by rfl) (e_:(backTo pos (starEach es X.env)).any (·.1)=false:=by rfl) :
  PE X (.Call (.Name x p) (e::es) [] pos) (Cj sp cA E t):=by
 intro pins s σ H Q I h;refine wpAny_Call_Name_kw (mS I hg hm ?_ gA);refine PySem.W.callWith_K (h₀:=X.base) I.ok.mod.gU hk (aI (ha pos pins s σ H _ I h) λus s1 ⟨vs,H1,I1,r,q⟩=>⟨I1.cF,?_⟩) he e_;exact qH F hr hb hd hx I1 r q
theorem qI{pl:Sem Bool}(he:PE X o ta)(c:dO X.K C)(hm:Meth X.K C m f)(F:aR X.prog X.w X.K X.mg X.base CX k f fd ps sp)(hr:cy k X.A)(hb:Binds X.K fd ps ds)(hd:Vals cA ds)(hx:Passes CX X E)(ha:PA X (e::es) t)
  (jx:starEach (e::es) X.env=(false,eval e X.env)::starEach es X.env:=by rfl) (e_:(backTo pos (starEach es X.env)).any (·.1)=false:=by rfl)
  (ht:eval (.Call (.Attribute o m apos) (e::es) [] pos) X.env=(do
   let ov ← eval o X.env
   standAt apos.atName
   let (f,first) ← holding [ov] (getMethod ov m pl)
   callWith pos f first (backTo pos (starEach (e::es) X.env)) (backToKw pos (keywordEach [] X.env))):=by rfl) :
  PE X (.Call (.Attribute o m apos) (e::es) [] pos) (KH C m sp cA E ta t):=by
 intro pins s σ H Q I h;refine PySem.W.methodCall_KW (pl:=pl) (aI (he pins s σ H _ I h) λu s1 ⟨x,H1,I1,rx,zz⟩=>?_) ht;obtain⟨a,dx,fs,ex,ea,l,q⟩:=zz;subst ex;obtain rfl:u=Value.ref a:=rx;refine uE I1 ea c hm l ?_;refine PySem.W.callWith_K (first:=[.ref a]) (h₀:=X.base) I.ok.mod.gU hm.kp (aI (ha pos pins s1 σ H1 _ I1 q) λus s2 ⟨vs,H2,I2,r,q2⟩=>⟨I2.cF,?_⟩) jx e_
 exact qH (us:=.ref a::us) (vs:=.ref a::vs) F hr hb hd hx I2 (.cons rfl r) q2
theorem uG{pl:Sem Bool}(he:PE X o ta)(c:dO X.K C)(hm:Meth X.K C m f)(F:aR X.prog X.w X.K X.mg X.base CX k f fd ps sp)(hr:cy k X.A)(hb:Binds X.K fd ps ds)(hd:Vals cA ds)(hx:Passes CX X E)
  (ht:eval (.Call (.Attribute o m apos) [] [] pos) X.env=(do
   let ov ← eval o X.env
   standAt apos.atName
   let (f,first) ← holding [ov] (getMethod ov m pl)
   callWith pos f first (backTo pos (starEach [] X.env)) (backToKw pos (keywordEach [] X.env))):=by rfl) :
  PE X (.Call (.Attribute o m apos) [] [] pos) (KH C m sp cA E ta Ci):=by
 intro pins s σ H Q I h;refine PySem.W.methodCall_KW (pl:=pl) (aI (he pins s σ H _ I h) λu s1 ⟨x,H1,I1,rx,zz⟩=>?_) ht;obtain⟨a,dx,fs,ex,ea,l,q⟩:=zz;subst ex;obtain rfl:u=Value.ref a:=rx;refine uE I1 ea c hm l ?_;exact PySem.W.callWith_K0 (first:=[.ref a]) I1.cF hm.kp (qH (us:=[.ref a]) (vs:=[.ref a]) F hr hb hd hx I1 (.cons rfl .nil) q)
structure Mk(K:PySem.W.Frag)(C f:Addr):Prop where
 makes:PySem.W.makesIn K C=true
 init:PySem.W.findIn K (.ref C) "__init__" = some (some (.ref f))
 fn:PySem.W.isFn K (.ref f)=true
 kp:PySem.W.keepIn K (.ref C)=true
theorem Wy{pins:List (Addr×Obj)}{σ:St}{H:Hp}{s:Shared}{Q:VK}{us:List Value}{vs:List V}(M:Mk X.K C f)(F:aR X.prog X.w X.K X.mg X.base CX k f fd ps sp)(hr:cy (k+1) X.A)(hb:Binds X.K fd ps ds)(hd:Vals cA ds)
  (hx:Passes CX X E) (I:Inv X pins σ H s) (r:Vals vs us)
  (h:∀x dx,H x=none->H dx=none->dx≠x->sp (.ref x::(vs++cA)) (upd (upd H dx (.own x)) x (.ins C dx [])) (λv H2=>v = .aJ/\Q (.ref x) H2) E) :
  wpAny (model X.prog X.w) X.A (call (.ref C) us) (EP X pins σ Q) X.xe s:=by
 have hq:=h (s.heap.objs.size+1) s.heap.objs.size (I.aG.fresh (Nat.le_succ _)) (I.aG.fresh (Nat.le_refl _)) (Nat.ne_of_lt (Nat.lt_succ_self _));have I2:=Inv.made (C:=C) I;have r2:Vals (V.ref (s.heap.objs.size+1)::(vs++cA)) (Value.ref (s.heap.objs.size+1)::(us++ds)):=.cons rfl (r.append hd);have hl:(Value.ref (s.heap.objs.size+1)::us++ds).length=ps.length:=by
  have e:=r2.length;rw[F.len _ _ _ _ hq] at e;exact e.symm
 refine wpAny_call (Wh (f:=f) I.cF M.makes M.init (beq_iff_eq.mp M.fn) (codeAny_mono (F.run _ X.stack _ _ ⟨Value.ref (s.heap.objs.size+1)::us,[]⟩ (Value.ref (s.heap.objs.size+1)::(us++ds)) _ _ E (hr.make C us [])
  (I2.uF.make C us []) (hb _ (Value.ref (s.heap.objs.size+1)::us) I2.cF hl) r2 hq) λr s' gZ=>?_))
 cases r with
 | error e=>exact hx pins σ _ _ e s' I2 gZ
 | ok fl =>
  cases fl with
  | ret u =>
   obtain⟨v,H',I3,rv,ev,q3⟩:=I2.after gZ;subst ev;exact⟨rv,⟨V.ref (s.heap.objs.size+1),H',I3,rfl,q3⟩⟩
  | next=>exact False.elim gZ
  | brk=>exact False.elim gZ
  | cont=>exact False.elim gZ
theorem oO(M:Mk X.K C f)(F:aR X.prog X.w X.K X.mg X.base CX k f fd ps sp)(hr:cy (k+1) X.A)(hg:Gl X x)(hm:X.mg x=some (.ref C))(hb:Binds X.K fd ps ds)(hd:Vals cA ds)(hx:Passes CX X E)
  (ha:PA X (e::es) t) (gA:(x == ("__debug__" : Str))=false:=by decide) (he:starEach (e::es) X.env=(false,eval e X.env)::starEach es X.env:=by rfl) (e_:(backTo pos (starEach es X.env)).any (·.1)=false:=by rfl) :
  PE X (.Call (.Name x p) (e::es) [] pos) (Wx C sp cA E t):=by
 intro pins s σ H Q I h;refine wpAny_Call_Name_kw (mS I hg hm ?_ gA);refine PySem.W.callWith_K (h₀:=X.base) I.ok.mod.gU M.kp (aI (ha pos pins s σ H _ I h) λus s1 ⟨vs,H1,I1,r,q⟩=>⟨I1.cF,?_⟩) he e_;exact Wy M F hr hb hd hx I1 r q
end
noncomputable def PK(X:Cx)(KI:List Keyword)(t:TA):Prop :=
 ∀(pos:Pos) (pins:List (Addr×Obj)) (s:Shared) (σ:St) (H:Hp) (Q:List V->Hp->Prop),Inv X pins σ H s->t σ H Q->wpAny (model X.prog X.w) X.A (evalAll ((backToKw pos (keywordEach KI X.env)).map (·.2))) (AP X pins σ Q) X.xe s
section
variable{X:Cx}{CX:f9}{k:Nat}{f C:Addr}{fd:FuncData}{ps ks:List Str}{sp:Sp}{E:XK}{x m:Str}{p pos apos agB:Pos}{e o:Expr}{es:List Expr}{KI:List Keyword}{te ta:TE}{t tk:TA}{nm:Option Str}
variable{g:List Value->List Value->List Value}{gV:List V->List V->List V}
end
structure aX(N P:List Str)(sc:Scope):Prop where
 kind:sc.kind = .function
 co:sc.isCoroutine=false
 gen:sc.isGenerator=false
 nd:N.Nodup
 pre:N.take P.length=P
 par:∀x∈P,sc.names.lookup x=some .local\/sc.names.lookup x=some .cell
 Wz:∀y∈sc.names,y.2≠.free
theorem KJ{kindOf:Str->Option NameKind}{x:Str}:∀ {binds:List (Str×Value)} {m:Str->Option Value},(∀v,(x,v)∉binds)->bindL kindOf binds m x=m x
 | [],_,_=>rfl
 | (n,v)::r,m,h=>by
  unfold bindL;rw[KJ λw hw=>h w (List.mem_cons_of_mem _ hw)];split
  ·have:x≠n:=by rintro rfl;exact h v List.mem_cons_self
   simp[this]
  ·rfl
theorem KL{kindOf:Str->Option NameKind}{x:Str}:∀ {binds:List (Str×Value)} {m:Str->Option Value},(∀v,(x,v)∉binds)->bindC kindOf binds m x=m x
 | [],_,_=>rfl
 | (n,v)::r,m,h=>by
  unfold bindC;rw[KL λw hw=>h w (List.mem_cons_of_mem _ hw)];split
  ·rfl
  ·have:x≠n:=by rintro rfl;exact h v List.mem_cons_self
   simp[this]
theorem KN{kindOf:Str->Option NameKind}{x:Str}{v:Value}:∀ {P:List Str} {vs:List Value} {i:Nat} {m:Str->Option Value},P.Nodup->P[i]? = some x->vs[i]? = some v->kindOf x=some .local->
  bindL kindOf (P.zip vs) m x=some v
 | [],_,_,_,_,h,_,_=>by simp at h
 | _::_,[],_,_,_,_,h,_=>by simp at h
 | p::P,w::vs,0,m,nd,h1,h2,hk=>by
  simp at h1 h2;subst h1;subst h2
  show bindL kindOf ((p,w)::P.zip vs) m p=_;unfold bindL;rw[KJ λv hv=>(List.nodup_cons.mp nd).1 (List.of_mem_zip hv).1,if_pos hk];simp
 | p::P,w::vs,i+1,m,nd,h1,h2,hk=>by
  show bindL kindOf ((p,w)::P.zip vs) m x=_;unfold bindL;exact KN (i:=i) (List.nodup_cons.mp nd).2 (by simpa using h1) (by simpa using h2) hk
theorem KO{kindOf:Str->Option NameKind}{x:Str}{v:Value}:∀ {P:List Str} {vs:List Value} {i:Nat} {m:Str->Option Value},P.Nodup->P[i]? = some x->vs[i]? = some v->kindOf x≠some .local->
  bindC kindOf (P.zip vs) m x=some v
 | [],_,_,_,_,h,_,_=>by simp at h
 | _::_,[],_,_,_,_,h,_=>by simp at h
 | p::P,w::vs,0,m,nd,h1,h2,hk=>by
  simp at h1 h2;subst h1;subst h2
  show bindC kindOf ((p,w)::P.zip vs) m p=_;unfold bindC;rw[KL λv hv=>(List.nodup_cons.mp nd).1 (List.of_mem_zip hv).1,if_neg hk];simp
 | p::P,w::vs,i+1,m,nd,h1,h2,hk=>by
  show bindC kindOf ((p,w)::P.zip vs) m x=_;unfold bindC;exact KO (i:=i) (List.nodup_cons.mp nd).2 (by simpa using h1) (by simpa using h2) hk
noncomputable def start(N:List Str)(vs:List V):St:=vs.map some++List.replicate (N.length - vs.length) none
noncomputable def gn(CX:f9)(P:Program)(w:World)(K:PySem.W.Frag)(mg:Str->Option Value)(base:Heap)(N:List Str)(qual:Str)(scope:Scope)(f:Addr)(cd:Value)(A:Around)(outer:List Env)(s:Shared)(H:Hp)(E:XK):Cx where
 prog:=P
 w:=w
 K:=K
 mg:=mg
 base:=base
 A:=A.deeper (envOfC qual scope s.heap.objs.size f cd)
 N:=N
 bB:=s
 cT:=H
 env:=envOfC qual scope s.heap.objs.size f cd
 outer:=outer
 stack:=envOfC qual scope s.heap.objs.size f cd::outer
 ex:=[]
 calm:=true
 fn:=λ_=>true
 pn:=[]
 xe:=λe s'=>wpAny (model P w) (A.deeper (envOfC qual scope s.heap.objs.size f cd)) (leaving (envOfC qual scope s.heap.objs.size f cd) e) (λ_ qJ=>CX outer H s E e qJ) (λe' qJ=>CX outer H s E e' qJ) s'
theorem KP{sc:Scope}{n:Nat}{x:Str}(h:sc.names.lookup x=some .cell):∃c,(cellsFrom n sc.names []).lookup x=some c:=by
 have q:=PySem.W.cellsFrom_some sc.names n [] (.inl h);exact Option.isSome_iff_exists.mp q
theorem KQ{CX:f9}{P:Program}{w:World}{K:PySem.W.Frag}{mg:Str->Option Value}{base:Heap}{N ps:List Str}{qual:Str}{scope:Scope}{f:Addr}{cd:Value}{A:Around}{outer:List Env}{s s1:Shared}{H:Hp}{E:XK}{us:List Value}{vs:List V}
  (S:aX N ps scope) (hd:A.handled=none) (e0:lH P w K mg base A outer s H) (hl:vs.length=ps.length) (r:Vals vs us)
  (x:InCallC s s.heap.objs.size (bindL (envOfC qual scope s.heap.objs.size f cd).kindOf (ps.zip us) λ_=>none) (cellsFrom (s.heap.objs.size+1) scope.names []) (bindC (envOfC qual scope s.heap.objs.size f cd).kindOf (ps.zip us) λ_=>none) s1) :
  Inv (gn CX P w K mg base N qual scope f cd A outer s H E) [] (start N vs) H s1:=by
 have e_:ps.length<=N.length:=by have:=congrArg List.length S.pre;rw[List.length_take] at this;lia
 obtain⟨h1,tk,rfl,hk⟩:=x.done;have qK:∀b:Addr,b∉(gn CX P w K mg base N qual scope f cd A outer s H E).ex:=λb z=>absurd (show b∈([]:List Addr) from z) (by simp)
 refine⟨⟨e0.mod,S.kind,rfl,rfl,Nat.le_refl _,λy z c h1 h2=>?_,λy hy=>?_,λy c _ h=>?_,λ_=>hd,Around.frames_deeper e0.frames,.inr ⟨rfl,rfl⟩,λb z=>absurd z (qK b),e0.bs,e0.iR,λb _ _=>qK b,λb z=>absurd z (qK b),e0.fY,e0.iS⟩,
  rfl,e0.bare,Un.kept hk,⟨_,x.toInCall.ns,λi y v h1 h2 h3=>?_⟩,λy c h=>⟨_,x.cell y c h⟩,e0.aG.fresh (Nat.le_refl _),λy c h=>?_,λp hp=>absurd (show p∈([]:List (Addr×Obj)) from hp) (by simp),e0.aG.kept hk,?_⟩
 ·exact name_of_addr x.apart (PySem.mem_of_lookup h1) (PySem.mem_of_lookup h2)
 ·have hy:scope.names.lookup y=some .cell\/scope.names.lookup y=some .free:=hy;rcases hy with hy | hy
  ·exact KP hy
  ·exact absurd rfl (S.Wz _ (PySem.mem_of_lookup hy))
 ·exact Nat.le_of_lt (x.above y c (PySem.mem_of_lookup h))
 ·have hi:i<vs.length:=by
   unfold start at h2;by_cases hi:i<vs.length
   ·exact hi
   ·rw[List.getElem?_append_right (by simpa using hi)] at h2
    rw[List.getElem?_replicate] at h2;split at h2 <;> cases h2
  have ha:vs[i]? = some v:=by
   unfold start at h2;rw[List.getElem?_append_left (by simpa using hi),List.getElem?_map] at h2
   cases e:vs[i]? with
   | none=>rw[e] at h2;cases h2
   | some a=>rw[e] at h2;cases h2;rfl
  obtain⟨u,hu,rv⟩:=r.get ha;have hp:ps[i]? = some y:=by
   rw[← S.pre,List.getElem?_take_of_lt (by lia)];exact h1
  have KR:ps.Nodup:=by rw[← S.pre];exact S.nd.sublist (List.take_sublist _ _)
  refine⟨u,rv,?_⟩;rcases S.par y (List.mem_of_getElem? hp) with k | k
  ·exact .inl ⟨k,KN KR hp hu k⟩
  ·obtain⟨c,e⟩:=KP (n:=s.heap.objs.size+1) k;refine .inr ⟨.inl k,c,e,?_⟩;have q:=x.cell y c e;rw[KO KR hp hu (by show scope.names.lookup y≠_;rw[k];decide)] at q
   exact q
 ·exact e0.aG.fresh (Nat.le_of_lt (x.above y c (PySem.mem_of_lookup h)))
 ·unfold start
  show _=N.length;rw[List.length_append,List.length_map,List.length_replicate];lia
theorem Ck{CX:f9}{P:Program}{w:World}{K:PySem.W.Frag}{mg:Str->Option Value}{base:Heap}{k:Nat}{f:Addr}{name qual:Str}{params:Arguments}{body:List Stmt}{scope:Scope}{dV kV doc pm aK ct oc:Value}{an od:Option Addr}
  {gq:Array (Option Value)} {N ps:List Str} {sp:Sp} (lk:K.lookup f=some ⟨oc,od,.func (PySem.W.fnOf name qual params body scope dV kV doc pm an aK ct),gq⟩) (dM:PySem.W.codeIn K aK qual=true) (S:aX N ps scope)
  (len:∀vs H Q E,sp vs H Q E->vs.length=ps.length)
  (kI:∀(A:Around) (outer:List Env) (s:Shared) (H:Hp) (vs:List V) (Q:VK) (E:XK),cy k (A.deeper (envOfC qual scope s.heap.objs.size f aK))->sp vs H Q E->
   ∃t,fz (gn CX P w K mg base N qual scope f aK A outer s H E) body t/\t { nx:=λ_ H'=>Q .aJ H',rt:=Q } (start N vs) H) :
  aR P w K mg base CX (k+1) f (PySem.W.fnOf name qual params body scope dV kV doc pm an aK ct) ps sp:=by
 refine⟨len,λA outer s H args us vs Q E hr e0 hb r gB=>?_⟩;have hl:=len _ _ _ _ gB;have KX:K.In s.heap:=e0.mod.gU.keeps λb o e=>(e0.bs b o e).1;have lim:s.heap.NoLimit:=e0.mod.nolimit.keeps λb o e=>(e0.bs b o e).1;have WA:∀y∈ps.zip us,scope.names.lookup y.1=some .local\/(scope.names.lookup y.1=some .cell/\((cellsFrom (s.heap.objs.size+1) scope.names []).lookup y.1).isSome=true):=λ⟨n,v⟩ hy=>by
  rcases S.par n (List.of_mem_zip hy).1 with q | q
  ·exact .inl q
  ·exact .inr ⟨q,PySem.W.cellsFrom_some _ _ _ (.inl q)⟩
 refine codeAny_call_function hr.depth (KX _ _ lk) rfl S.co S.gen rfl (PySem.W.codeRec_of KX dM) (hb _ _ _ _ ?_);refine wpAny_newFunctionEnv_cells S.kind WA λenv he s1 x=>?_;subst he;refine⟨lim.keeps x.toInCall.keep,codeAny_func ?_⟩;obtain⟨t,ht,hq⟩:=kI A outer s H vs Q E (hr.deeper _) gB;have I:Inv (gn CX P w K mg base N qual scope f aK A outer s H E) [] (start N vs) H s1:=KQ S hr.hd e0 hl r x;refine wpAny_mono (ht [] s1 (start N vs) H _ I hq) (λfl s' hs=>?_) λe s' hs=>hs;have fin:∀ {aO:St} {H':Hp} {v:V} {u:Value},Inv (gn CX P w K mg base N qual scope f aK A outer s H E) [] aO H' s'->RelV v u->Q v H'->CE outer P w H s Q u s' :=
  λ{aO H' v u} J rv q=>⟨v,H',J.os,J.bare,J.base,J.aG,rv,q⟩
 cases fl with
 | ret u =>
  obtain⟨v,aO,H',J,rv,q⟩:=hs;exact fin J rv q
 | next =>
  obtain⟨aO,H',J,q⟩:=hs;exact fin (v:=V.aJ) (u:=Value.none) J rfl q
 | brk =>
  obtain⟨_,_,_,q⟩:=hs;exact False.elim q
 | cont =>
  obtain⟨_,_,_,q⟩:=hs;exact False.elim q
section
variable{X:Cx}{x:Str}{p pos:Pos}{e:Expr}{es:List Expr}{t:TA}{id T:String}{r:List V->Hp->VK->Prop}
noncomputable def KS(r:List V->Hp->VK->Prop)(t:TA):TE:=λσ H Q=>t σ H λvs H1=>r vs H1 Q
theorem bX(hc:gk X (.builtin id) r)(hg:Gl X x)(hm:X.mg x=none)(hv:bootBuiltins x=some (.builtin id))(ha:PA X (e::es) t)(hn:x≠"__name__" := by decide)(gA:(x == ("__debug__" : Str))=false:=by decide)
  (he:starEach (e::es) X.env=(false,eval e X.env)::starEach es X.env:=by rfl) (e_:(backTo pos (starEach es X.env)).any (·.1)=false:=by rfl):PE X (.Call (.Name x p) (e::es) [] pos) (KS r t):=by
 intro pins s σ H Q I h;refine wpAny_Call_Name_kw (kF I hg hm hv ?_ hn gA);exact PyProof.Rows.callWith_builtin1 (aI (ha pos pins s σ H _ I h) λus s1 ⟨vs,H1,I1,r1,q1⟩=>hc pins s1 σ H1 vs us Q I1 r1 q1) he e_
theorem uH(hc:gk X (.type T) r)(hg:Gl X x)(hm:X.mg x=none)(hv:bootBuiltins x=some (.type T))(ha:PA X (e::es) t)(hn:x≠"__name__" := by decide)(gA:(x == ("__debug__" : Str))=false:=by decide)
  (he:starEach (e::es) X.env=(false,eval e X.env)::starEach es X.env:=by rfl) (e_:(backTo pos (starEach es X.env)).any (·.1)=false:=by rfl):PE X (.Call (.Name x p) (e::es) [] pos) (KS r t):=by
 intro pins s σ H Q I h;refine wpAny_Call_Name_kw (kF I hg hm hv ?_ hn gA);exact PyProof.Rows.callWith_type1 (aI (ha pos pins s σ H _ I h) λus s1 ⟨vs,H1,I1,r1,q1⟩=>hc pins s1 σ H1 vs us Q I1 r1 q1) he e_
end
end _L
namespace _H
open PySem PyProof.Rows
noncomputable def lexLt:List Int->List Int->Bool
 | [],[]=>false
 | [],_::_=>true
 | _::_,[]=>false
 | x::xs,y::ys=>if x=y then lexLt xs ys else decide (x<y)
section
open PySem.SeqAt
open PySem.AutoSeq1 (wpAny_loadPart')
open PySem.MeetsSeq PySem.MeetsSeq2 PySem.MeetsSeq3
end
section
variable{prog:Program}{w:World}{A:Around}{E:Value->Shared->Prop}{s:Shared}
noncomputable def cZ(n d:Nat):Option Int->Nat
 | none=>d
 | some v=>if v<0 then(v+(n:Int)).toNat else min v.toNat n
end
end _H
namespace _L
open PySem PySem.Spec PyProof.Rows
noncomputable abbrev TO:=St->Hp->(Option Int->Hp->Prop)->Prop
noncomputable def PO(X:Cx)(e:Option Expr)(t:TO):Prop :=
 ∀(pins:List (Addr×Obj)) (s:Shared) (σ:St) (H:Hp) (Q:Option Int->Hp->Prop),Inv X pins σ H s->t σ H Q->
  wpAny (model X.prog X.w) X.A (evalPart e X.env) (λu s'=>∃o H',Inv X pins σ H' s'/\IsPart u o/\Q o H') X.xe s
noncomputable def WB:TO:=λ_ H Q=>Q none H
noncomputable def WC(t:TE):TO:=λσ H Q=>t σ H λx H1=>∃i,x = .int i/\Q (some i) H1
theorem intsAre_of{ns:List Int}:∀ {us:List Value},Vals (ns.map V.int) us->IntsAre us ns:=by
 induction ns with
 | nil=>intro us r;rw[List.map_nil] at r;cases r;exact .nil
 | cons n ns ih =>
  intro us r;rw[List.map_cons] at r;cases r with
  | cons r1 r2 =>
   obtain⟨t,e⟩:=r1;subst e;exact .cons n t (ih r2)
section
variable{X:Cx}{e:Expr}{te:TE}{lo hi:Option Expr}{tl th:TO}{pos p2:Pos}
theorem KU:PO X none WB:=by
 intro pins s σ H Q I h;rw[evalPart_none];exact wpAny_pure ⟨none,H,I,.none,h⟩
theorem uI(h:PE X e te):PO X (some e) (WC te):=by
 intro pins s σ H Q I hw;rw[evalPart_some];refine aI (h pins s σ H _ I hw) λu s1 ⟨x,H1,I1,r1,q1⟩=>?_;obtain⟨i,rfl,q⟩:=q1;obtain⟨t,rfl⟩:=r1;exact⟨some i,H1,I1,.int i t,q⟩
noncomputable def KW(X:Cx)(r:V->Option Int->Option Int->Hp->VK->Prop):Prop :=
 ∀(pins:List (Addr×Obj)) (s:Shared) (σ:St) (H:Hp) (x:V) (v vl vu:Value) (lo hi:Option Int) (sl:Addr) (Q:VK),Inv X pins σ H s->RelV x v->s.heap.IsSliceOf sl vl vu .none->IsPart vl lo->IsPart vu hi->r x lo hi H Q->
  ∃T id,typeLookup (.type T) "__getitem__" = pure (some (.builtin id))/\s.TypeIs v T/\wpAny (model X.prog X.w) X.A (getItem v (.ref sl)) (EP X pins σ Q) X.xe s
noncomputable def WD(r:V->Option Int->Option Int->Hp->VK->Prop)(te:TE)(tl th:TO):TE:=λσ H Q=>te σ H λx H1=>tl σ H1 λl H2=>th σ H2 λu H3=>r x l u H3 Q
theorem Cm{r:V->Option Int->Option Int->Hp->VK->Prop}(hr:KW X r)(he:PE X e te)(hl:PO X lo tl)(hu:PO X hi th):PE X (.Subscript e (.Slice lo hi none p2) pos) (WD r te tl th):=by
 intro pins s σ H Q I h;refine Subscript_ (aI (he pins s σ H _ I h) λv s1 ⟨x,H1,I1,r1,q1⟩=>?_);refine wpAny_Slice (aI (hl pins s1 σ H1 _ I1 q1) λvl s2 ⟨l,H2,I2,pl,q2⟩=>aI (hu pins s2 σ H2 _ I2 q2) λvu s3 ⟨u,H3,I3,pu,q3⟩=>?_);rw[evalPart_none];refine wpAny_pure ?_;have I4:Inv X pins σ H3 { s3 with heap:=s3.heap.push { cls:=.type "slice",data:=.fields #[vl,vu,.none] }}:=I3.kept (t':=s3.toks) λb ob q=>Heap.get?_push_of_some _ q;obtain⟨T,id,hT,ht,hg⟩:=hr pins { s3 with heap:=s3.heap.push { cls:=.type "slice",data:=.fields #[vl,vu,.none] }} σ H3 x v vl vu l u s3.heap.objs.size Q I4 r1 (Heap.IsSliceOf.new ..) pl pu q3
 show wpAny (model X.prog X.w) X.A (subscriptTail e (.Slice lo hi none p2) v (.ref s3.heap.objs.size)) (EP X pins σ Q) X.xe { s3 with heap:=s3.heap.push { cls:=.type "slice",data:=.fields #[vl,vu,.none] }};exact tail_any (ops:=[.ref s3.heap.objs.size,v]) ht hT hg (by with_unfolding_all rfl)
noncomputable def iA(xs:List V)(lo hi:Option Int):List V:=(xs.drop (_H.cZ xs.length 0 lo)).take (_H.cZ xs.length xs.length hi - _H.cZ xs.length 0 lo)
theorem WE(xs:List V)(lo hi:Option Int):(iA xs lo hi).length<=xs.length:=by
 unfold iA;rw[List.length_take,List.length_drop];lia
noncomputable def agC(K:PySem.W.Frag):V->Option Int->Option Int->Hp->VK->Prop:=λx lo hi H Q=>∃a xs,x = .ref a/\aQ K H a xs/\
 ¬ (_H.cZ xs.length 0 lo=0/\_H.cZ xs.length xs.length hi=xs.length)/\∀p,H p=none->Q (.ref p) (upd H p (.tup (iA xs lo hi)))
noncomputable def agD(K:PySem.W.Frag):R2:=λx y H Q=>∃a b ns ms,x = .ref a/\y = .ref b/\aQ K H a (ns.map V.int)/\aQ K H b (ms.map V.int)/\Q (.bl (_H.lexLt ns ms)) H
noncomputable def agE(K:PySem.W.Frag):R2:=λx y H Q=>∃a b xs ys,x = .ref a/\y = .ref b/\aQ K H a xs/\aQ K H b ys/\xs≠[]/\xs.length+ys.length<=sizeLine/\
 (ys = []->Q (.ref a) H)/\(ys≠[]->∀p,H p=none->Q (.ref p) (upd H p (.tup (xs++ys))))
end
noncomputable def iB(n:Nat)(i:Int):Option Nat:=if 0<=i then(if i<n then some i.toNat else none) else if -(n:Int)<=i then some (i+n).toNat else none
noncomputable def ez{α:Type}(xs:List α)(i:Int):Option α:=(iB xs.length i).bind λj=>xs[j]?
theorem KY{n:Nat}{i:Int}{j:Nat}(h:iB n i=some j):seqIndex? i n=some j/\j<n/\-(n:Int)<=i/\i<n:=by
 unfold iB at h;by_cases h0:0<=i
 ·rw[if_pos h0] at h;by_cases h1:i<n
  ·rw[if_pos h1] at h;have e:i.toNat=j:=Option.some.inj h;exact⟨by rw[seqIndex_of h0 h1,e],by lia,by lia,h1⟩
  ·rw[if_neg h1] at h;cases h
 ·rw[if_neg h0] at h;by_cases h1 : -(n:Int)<=i
  ·rw[if_pos h1] at h;have e:(i+n).toNat=j:=Option.some.inj h;exact⟨by rw[seqIndex_neg (by lia) h1,e],by lia,h1,by lia⟩
  ·rw[if_neg h1] at h;cases h
theorem KZ{α:Type}{xs:List α}{i:Int}{v:α}(h:ez xs i=some v):∃j,seqIndex? i xs.length=some j/\xs[j]? = some v/\j<xs.length/\-(xs.length:Int)<=i/\i<xs.length:=by
 unfold ez at h;cases e:iB xs.length i with
 | none=>rw[e] at h;cases h
 | some j =>
  rw[e] at h;obtain⟨h1,h2,h3,h4⟩:=KY e;exact⟨j,h1,h,h2,h3,h4⟩
theorem dQ{α:Type}{xs:List α}{j:Nat}{v:α}(h:xs[j]? = some v):ez xs (j:Int)=some v:=by
 have hj:j<xs.length:=(List.getElem?_eq_some_iff.mp h).1;have e:iB xs.length (j:Int)=some j:=by
  unfold iB;rw[if_pos (by lia),if_pos (by lia)];simp
 unfold ez;rw[e];exact h
theorem Cn{α:Type}(xs:List α)(v:α):ez (xs++[v]) (-1)=some v:=by
 have hl:(xs++[v]).length=xs.length+1:=by simp
 have e:iB (xs++[v]).length (-1)=some xs.length:=by
  unfold iB;rw[hl,if_neg (by decide),if_pos (by lia)]
  congr 1;lia
 unfold ez;rw[e]
 show (xs++[v])[xs.length]? = some v;simp
noncomputable def WG(b:Expr):Prop:=∀o i,subscripted b false o i=operate [o,i] (getItem o i)
noncomputable def qL(X:Cx)(r:R2):Prop :=
 ∀(value slice:Expr) (pins:List (Addr×Obj)) (s:Shared) (σ:St) (H:Hp) (x y:V) (v u:Value) (Q:VK),Inv X pins σ H s->RelV x v->RelV y u->r x y H Q->
  subscripted slice false v u=operate [v,u] (getItem v u)->wpAny (model X.prog X.w) X.A (subscriptTail value slice v u) (EP X pins σ Q) X.xe s
noncomputable def WH(X:Cx)(id:String)(r:V->List V->Hp->VK->Prop):Prop :=
 ∀(pins:List (Addr×Obj)) (s:Shared) (σ:St) (H:Hp) (x:V) (xs:List V) (v:Value) (us:List Value) (Q:VK),Inv X pins σ H s->RelV x v->Vals xs us->r x xs H Q->
  wpAny (model X.prog X.w) X.A (call (.builtin id) (v::us)) (EP X pins σ Q) X.xe s
section
variable{X:Cx}{a b:Expr}{ta tb:TE}{pos:Pos}
theorem aZ{r:R2}(hr:qL X r)(ha:PE X a ta)(hb:PE X b tb)(hs:WG b):PE X (.Subscript a b pos) (ux r ta tb):=by
 intro pins s σ H Q I h;exact Subscript_ (Ca ha hb I h λv u s2 x y H2 I2 rx ry q=>hr a b pins s2 σ H2 x y v u Q I2 rx ry q (hs _ _))
noncomputable def K0(K:PySem.W.Frag):R2:=λx y H Q=>∃p xs i v,x = .ref p/\y = .int i/\aE K H p xs/\ez xs i=some v/\Q v H
noncomputable def K1(K:PySem.W.Frag):R2:=λx y H Q=>∃p xs i v,x = .ref p/\y = .int i/\aQ K H p xs/\ez xs i=some v/\Q v H
theorem bR:qL X (K0 X.K):=by
 intro value slice pins s σ H x y v u Q I rx ry h hs;obtain⟨p,xs,i,z,rfl,rfl,hq,he,q⟩:=h;cases rx;obtain⟨t,rfl⟩:=ry;obtain⟨aA,r,pl,hz⟩:=I.list hq;obtain⟨j,h1,h2,h3,h4,h5⟩:=KZ he;obtain⟨w,ew,gC⟩:=r.get h2;have hl:=r.length;have hn:=qG;have fin:EP X pins σ Q w s:=⟨z,H,I,gC,q⟩;by_cases h0:0<=i
 ·have hj:i.toNat=j:=by
   rw[seqIndex_of h0 h5] at h1;exact Option.some.inj h1
  exact item_listR pl.isList h0 (by lia) (by rw[hj];simpa using ew) fin hs
 ·have hj:(i+(aA.toArray.size:Int)).toNat=j:=by
   rw[seqIndex_neg (by lia) h4] at h1
   rw[List.size_toArray,← hl];exact Option.some.inj h1
  exact subscriptTail_builtinR (x:=w) pl.isList.typeIs slot_list_getitem.lookup
   (wpAny_getItem_list_neg (Q:=λr s'=>r=w/\EP X pins σ Q r s') pl.isList (by lia) (by rw[List.size_toArray] <;> lia) (by lia) (by rw[hj];simpa using ew) ⟨rfl,fin⟩) hs
theorem dR:qL X (K1 X.K):=by
 intro value slice pins s σ H x y v u Q I rx ry h hs;obtain⟨p,xs,i,z,rfl,rfl,hq,he,q⟩:=h;cases rx;obtain⟨t,rfl⟩:=ry;obtain⟨aA,r,pl,hz⟩:=I.tuple hq;obtain⟨j,h1,h2,h3,h4,h5⟩:=KZ he;obtain⟨w,ew,gC⟩:=r.get h2;have hl:=r.length;have hn:=qG;have fin:EP X pins σ Q w s:=⟨z,H,I,gC,q⟩;exact subscriptTail_builtinR (x:=w) pl.typeIs slot_tuple_getitem.lookup
  (getItem_tuple (j:=j) (Q:=λr s'=>r=w/\EP X pins σ Q r s') pl (by lia) (by lia) (by rw[List.size_toArray,← hl];exact h1) (by simpa using ew) ⟨rfl,fin⟩) hs
theorem WI(aA:List Value)(n j:Nat)(u:Value):Obj.mapSeq (·.setIfInBounds j u) { cls:=.type "list",data:=.seq aA.toArray n } = { cls:=.type "list",data:=.seq (aA.set j u).toArray n }:=by
 simp[Obj.mapSeq]
theorem Inv.lst{pins:List (Addr×Obj)}{σ:St}{H:Hp}{s:Shared}{p:Addr}{xs:List V}(I:Inv X pins σ H s)(h:H p=some (.lst xs)) :
  ∃(aA:List Value) (n:Nat),Vals xs aA/\s.heap.get? p=some { cls:=.type "list",data:=.seq aA.toArray n }/\xs.length<=sizeLine:=by
 obtain⟨z,aA,n,r,e⟩:=I.aG p _ h;exact⟨aA,n,r,e,z⟩
theorem Inv.WJ{pins:List (Addr×Obj)}{σ:St}{H:Hp}{s:Shared}{p:Addr}{xs ys:List V}{aA its':List Value}{n n':Nat}{f:Obj->Obj}(I:Inv X pins σ H s)(h:H p=some (.lst xs))
  (ho:s.heap.get? p=some { cls:=.type "list",data:=.seq aA.toArray n }) (hf:f { cls:=.type "list",data:=.seq aA.toArray n } = { cls:=.type "list",data:=.seq its'.toArray n' }) (r:Vals ys its') (hz:ys.length<=sizeLine) (t:Nat) :
  Inv X pins σ (upd H p (.lst ys)) { s with heap:=s.heap.update p f,toks:=t }:=by
 have e:(s.heap.update p f).get? p=some { cls:=.type "list",data:=.seq its'.toArray n' }:=by
  rw[Heap.get?_update_self f ho (by rw[hf] <;> rfl),hf]
 refine I.write (x:=p) (e:=p) (by rw[h];trivial) (.inl rfl) (λb u hb q=>(Heap.get?_update_other _ _ (Ne.symm hb)).trans q) ⟨_,e⟩ ?_
 exact⟨hz,its',n',r,e⟩
noncomputable def WK:V->V->V->Hp->(Hp->Prop)->Prop:=λo i v H Q=>∃p xs k j,o = .ref p/\i = .int k/\H p=some (.lst xs)/\iB xs.length k=some j/\Q (upd H p (.lst (xs.set j v)))
theorem set_list:Kf X WK:=by
 intro pins s σ H o i v ov iv u Q I ro ri rv h;obtain⟨p,xs,k,j,rfl,rfl,hp,hj,q⟩:=h;cases ro;obtain⟨t,rfl⟩:=ri;obtain⟨aA,n,r,ho,hz⟩:=I.lst hp;obtain⟨h1,h2,h3,h4⟩:=KY hj;have hl:=r.length;have hn:=qG;have I':Inv X pins σ (upd H p (.lst (xs.set j v))) { s with heap:=s.heap.update p (Obj.mapSeq (·.setIfInBounds j u))} :=
  I.WJ hp ho (WI aA n j u) (r.set rv j) (by rw[List.length_set];exact hz) s.toks
 by_cases h0:0<=k
 ·have hk:k.toNat=j:=by
   rw[seqIndex_of h0 h4] at h1;exact Option.some.inj h1
  exact PySem.W.ki_setAt ho h0 (by lia) (by rw[List.size_toArray,← hl];exact h4) (by rw[hk];exact⟨_,I',q⟩)
 ·have hk:(k+(aA.toArray.size:Int)).toNat=j:=by
   rw[seqIndex_neg (by lia) h3] at h1
   rw[List.size_toArray,← hl];exact Option.some.inj h1
  exact PySem.W.ki_setBack ho (by lia) (by rw[List.size_toArray,← hl];exact h3) (by lia) (by rw[hk];exact⟨_,I',q⟩)
theorem WL(lo hi:Option Int)(n:Nat):(sliceBounds lo hi none n).1=((_H.cZ n 0 lo:Nat):Int)/\(sliceBounds lo hi none n).2.1=((_H.cZ n n hi:Nat):Int)/\(sliceBounds lo hi none n).2.2=1:=by
 refine⟨?_,?_,rfl⟩
 ·cases lo with
  | none=>simp[sliceBounds,_H.cZ]
  | some i =>
   simp only[sliceBounds,_H.cZ,Option.getD_none,show (1:Int) > 0 by decide,if_true]
   by_cases h:i<0
   ·simp only[h,if_true] <;> lia
   ·simp only[h,if_false] <;> lia
 ·cases hi with
  | none=>simp[sliceBounds,_H.cZ]
  | some i =>
   simp only[sliceBounds,_H.cZ,Option.getD_none,show (1:Int) > 0 by decide,if_true]
   by_cases h:i<0
   ·simp only[h,if_true] <;> lia
   ·simp only[h,if_false] <;> lia
theorem WM(aA:List Value)(lo hi:Option Int):slicePick aA.toArray lo hi none=((aA.drop (_H.cZ aA.length 0 lo)).take (_H.cZ aA.length aA.length hi - _H.cZ aA.length 0 lo)).toArray:=by
 obtain⟨h1,h2,h3⟩:=WL lo hi aA.toArray.size;unfold slicePick;rw[h1,h2,h3];simp only[sliceRange_one,pick_run,List.size_toArray] <;> rfl
noncomputable def WN(K:PySem.W.Frag):V->Option Int->Option Int->Hp->VK->Prop:=λx lo hi H Q=>∃a xs,x = .ref a/\aE K H a xs/\∀p,H p=none->Q (.ref p) (upd H p (.lst (iA xs lo hi)))
theorem Co:KW X (WN X.K):=by
 intro pins s σ H x v vl vu lo hi sl Q I rx hs pl pu h;obtain⟨a,xs,rfl,hx,q⟩:=h;cases rx;obtain⟨aA,r,ht,hz⟩:=I.list hx;have hlen:=r.length;refine⟨"list",_,slot_list_getitem.lookup,ht.isList.typeIs,?_⟩;refine wpAny_getItem_list_slice ht.isList hs pl pu .none (by simp) ?_ (by rw[List.size_toArray] <;> lia)
 rw[WM,← hlen];refine⟨.ref s.heap.objs.size,_,I.laid (t':=s.toks) (o:=.lst (iA xs lo hi)) (λb ob q=>Heap.get?_push_of_some _ q) (Nat.le_refl _) ?_,rfl,q _ (I.aG.fresh (Nat.le_refl _))⟩;exact⟨Nat.le_trans (WE xs lo hi) hz,_,0,(r.drop (_H.cZ xs.length 0 lo)).take (_H.cZ xs.length xs.length hi - _H.cZ xs.length 0 lo),Heap.get?_push_size _ rfl⟩
noncomputable def jV:V->Bool
 | .aJ=>true
 | .bl _=>true
 | .int _=>true
 | .str _=>true
 | _=>false
noncomputable def iC:V->V->Bool
 | .aJ,.aJ=>true
 | .bl a,.bl b=>a == b
 | .bl a,.int b=>(if a then 1 else 0) == b
 | .int a,.bl b=>a == (if b then 1 else 0)
 | .int a,.int b=>a == b
 | .str a,.str b=>a == b
 | _,_=>false
theorem Cp{A:Around}{s:Shared}{y x:V}{u v:Value}(ry:RelV y u)(rx:RelV x v)(fy:jV y=true)(fx:jV x=true):SeqAt.EqAt A s u v (iC y x):=by
 cases y with
 | aJ =>
  cases ry;cases x with
  | aJ=>cases rx;exact SeqAt.EqAt.same _
  | bl b=>cases rx;exact SeqAt.EqAt.none_bool b
  | int b=>obtain⟨t,rfl⟩:=rx;exact SeqAt.EqAt.none_int b t
  | str b=>obtain⟨t,rfl⟩:=rx;exact SeqAt.EqAt.none_str b t
  | _=>exact absurd (show false=true from fx) Bool.false_ne_true
 | bl a =>
  cases ry;cases x with
  | aJ=>cases rx;exact SeqAt.EqAt.bool_none a
  | bl b=>cases rx;exact SeqAt.EqAt.bool_bool a b
  | int b=>obtain⟨t,rfl⟩:=rx;exact SeqAt.EqAt.bool_int a b t
  | str b=>obtain⟨t,rfl⟩:=rx;exact SeqAt.EqAt.bool_str a b t
  | _=>exact absurd (show false=true from fx) Bool.false_ne_true
 | int a =>
  obtain⟨t',rfl⟩:=ry;cases x with
  | aJ=>cases rx;exact SeqAt.EqAt.int_none a t'
  | bl b=>cases rx;exact SeqAt.EqAt.int_bool a t' b
  | int b=>obtain⟨t,rfl⟩:=rx;exact SeqAt.EqAt.int_int a t' b t
  | str b=>obtain⟨t,rfl⟩:=rx;exact SeqAt.EqAt.int_str a t' b t
  | _=>exact absurd (show false=true from fx) Bool.false_ne_true
 | str a =>
  obtain⟨t',rfl⟩:=ry;cases x with
  | aJ=>cases rx;exact SeqAt.EqAt.str_none a t'
  | bl b=>cases rx;exact SeqAt.EqAt.str_bool a t' b
  | int b=>obtain⟨t,rfl⟩:=rx;exact SeqAt.EqAt.str_int a t' b t
  | str b=>obtain⟨t,rfl⟩:=rx;exact SeqAt.EqAt.str_str a t' b t
  | _=>exact absurd (show false=true from fx) Bool.false_ne_true
 | _=>exact absurd (show false=true from fy) Bool.false_ne_true
noncomputable def gD(x:V)(u:Value):Bool:=match u with
 | .none=>iC .aJ x
 | .bool b=>iC (.bl b) x
 | .int i _=>iC (.int i) x
 | .str z _=>iC (.str z) x
 | _=>false
theorem K2{x y:V}{u:Value}(r:RelV y u)(f:jV y=true):gD x u=iC y x:=by
 cases y with
 | aJ=>cases r;rfl
 | bl b=>cases r;rfl
 | int i=>obtain⟨t,rfl⟩:=r;rfl
 | str z=>obtain⟨t,rfl⟩:=r;rfl
 | _=>exact absurd (show false=true from f) Bool.false_ne_true
theorem qM{x:V}:∀ {xs:List V} {us:List Value},Vals xs us->xs.all jV=true->us.any (gD x)=xs.any λy=>iC y x
 | _,_,.nil,_=>rfl
 | y::xs,u::us,.cons r t,f=>by
  rw[List.all_cons,Bool.and_eq_true] at f;rw[List.any_cons,List.any_cons,K2 r f.1,qM t f.2]
theorem qN{A:Around}{s:Shared}{x:V}{v:Value}(rx:RelV x v)(fx:jV x=true):∀ {xs:List V} {us:List Value},Vals xs us->xs.all jV=true->∀u∈us,SeqAt.EqAt A s u v (gD x u)
 | _,_,.nil,_=>λu hu=>by cases hu
 | y::xs,u::us,.cons r t,f=>λu' hu=>by
  rw[List.all_cons,Bool.and_eq_true] at f;rcases List.mem_cons.mp hu with rfl | hu
  ·rw[K2 r f.1];exact Cp r rx f.1 fx
  ·exact qN rx fx t f.2 u' hu
noncomputable def uJ(x:V)(xs:List V):Bool:=xs.any λy=>iC y x
noncomputable def uK(K:PySem.W.Frag)(neg:Bool):R2:=λx y H Q=>∃p xs,y = .ref p/\(aE K H p xs\/aQ K H p xs)/\jV x=true/\xs.all jV=true/\Q (.bl (if neg then !uJ x xs else uJ x xs)) H
theorem WO:cG X (compareOp .In) (uK X.K false):=by
 intro pins s σ H x y v u Q I rx ry h;obtain⟨p,xs,rfl,hq,fx,fs,q⟩:=h;cases ry;rcases hq with hq | hq
 ·obtain⟨aA,r,pl,hz⟩:=I.list hq;refine SeqAt.in_listAt (gD x) pl.isList (λw hw=>qN rx fx r fs w (by simpa using hw)) ⟨.bl _,H,I,rfl,?_⟩
  rw[show aA.toArray.any (gD x)=aA.any (gD x) by simp,qM r fs]
  exact q
 ·obtain⟨aA,r,pl,hz⟩:=I.tuple hq;refine SeqAt.in_tupleAt (gD x) pl (λw hw=>qN rx fx r fs w (by simpa using hw)) ⟨.bl _,H,I,rfl,?_⟩
  rw[show aA.toArray.any (gD x)=aA.any (gD x) by simp,qM r fs]
  exact q
theorem K3:cG X (compareOp .NotIn) (uK X.K true):=by
 intro pins s σ H x y v u Q I rx ry h;obtain⟨p,xs,rfl,hq,fx,fs,q⟩:=h;cases ry;rcases hq with hq | hq
 ·obtain⟨aA,r,pl,hz⟩:=I.list hq;refine SeqAt.notIn_listAt (gD x) pl.isList (λw hw=>qN rx fx r fs w (by simpa using hw)) ⟨.bl _,H,I,rfl,?_⟩
  rw[show aA.toArray.any (gD x)=aA.any (gD x) by simp,qM r fs]
  exact q
 ·obtain⟨aA,r,pl,hz⟩:=I.tuple hq;refine SeqAt.notIn_tupleAt (gD x) pl (λw hw=>qN rx fx r fs w (by simpa using hw)) ⟨.bl _,H,I,rfl,?_⟩
  rw[show aA.toArray.any (gD x)=aA.any (gD x) by simp,qM r fs]
  exact q
theorem eB:gk X (.builtin "len") (λxs H Q=>∃p ys,xs = [.ref p]/\(aE X.K H p ys\/aQ X.K H p ys)/\Q (.int ys.length) H):=by
 intro pins s σ H xs us Q I r h;obtain⟨p,ys,rfl,hq,q⟩:=h;obtain⟨u,rfl,rx⟩:=vals1 r;cases rx;have hn:=qG;rcases hq with hq | hq
 ·obtain⟨aA,r',pl,hz⟩:=I.list hq;have hlen:=r'.length;exact Calls.call_len_list pl.isList (by simp only[List.size_toArray] <;> lia) ⟨.int ys.length,H,I.tok _,⟨s.toks+1,by rw[List.size_toArray,hlen]⟩,q⟩
 ·obtain⟨aA,r',pl,hz⟩:=I.tuple hq;have hlen:=r'.length;exact len_tuple pl (by simp only[List.size_toArray] <;> lia) ⟨.int ys.length,H,I.tok _,⟨s.toks+1,by rw[List.size_toArray,hlen]⟩,q⟩
theorem K4:gk X (.type "list") (λxs H Q=>∃p ys,xs = [.ref p]/\(aE X.K H p ys\/aQ X.K H p ys)/\∀l,H l=none->Q (.ref l) (upd H l (.lst ys))):=by
 intro pins s σ H xs us Q I r h;obtain⟨p,ys,rfl,hq,q⟩:=h;obtain⟨u,rfl,rx⟩:=vals1 r;cases rx;have fin:∀(aA:List Value),Vals ys aA->ys.length<=sizeLine->∀(h':Heap) (c':Nat),(∀b o',s.heap.get? b=some o'->h'.get? b=some o')->
   h'.get? s.heap.objs.size=some { cls:=.type "list",dict:=none,data:=.seq aA.toArray c',slots := #[] }->EP X pins σ Q (.ref s.heap.objs.size) { s with heap:=h' }:=λaA r' hz h' c' kp e =>
  ⟨.ref s.heap.objs.size,_,I.laid (t':=s.toks) kp (Nat.le_refl _) (show cN X.prog X.w _ h' _ (.lst ys) from⟨hz,aA,c',r',e⟩),rfl,q _ (I.aG.fresh (Nat.le_refl _))⟩
 rcases hq with hq | hq
 ·obtain⟨aA,r',pl,hz⟩:=I.list hq;have hlen:=r'.length;obtain⟨o,ho,hc,n,hd⟩:=pl.isList;exact call_list_seq p (.inl rfl) ho hc hd (λh' c' kp e=>fin aA r' hz h' c' kp e) (by simp only[List.size_toArray] <;> lia)
 ·obtain⟨aA,r',pl,hz⟩:=I.tuple hq;have hlen:=r'.length;obtain⟨o,ho,hc,n,hd⟩:=pl;exact call_list_seq p (.inr rfl) ho hc hd (λh' c' kp e=>fin aA r' hz h' c' kp e) (by simp only[List.size_toArray] <;> lia)
theorem K5:gk X (.type "tuple") (λxs H Q=>∃p ys,xs = [.ref p]/\((aE X.K H p ys/\∀l,H l=none->Q (.ref l) (upd H l (.tup ys)))\/(aQ X.K H p ys/\Q (.ref p) H))):=by
 intro pins s σ H xs us Q I r h;obtain⟨p,ys,rfl,h⟩:=h;obtain⟨u,rfl,rx⟩:=vals1 r;cases rx;rcases h with⟨hq,q⟩ | ⟨hq,q⟩
 ·obtain⟨aA,r',pl,hz⟩:=I.list hq;have hlen:=r'.length;refine call_tuple_list pl.isList (λh' kp=>?_) (by simp only[List.size_toArray] <;> lia)
  have I1:Inv X pins σ H { s with heap:=h' }:=I.kept (t':=s.toks) kp;have I2:Inv X pins σ (upd H h'.objs.size (.tup ys)) { s with heap:=h'.push { cls:=.type "tuple",data:=.seq aA.toArray }} :=
   I1.laid (t':=s.toks) (λb o e=>Heap.get?_push_of_some _ e) (Nat.le_refl _) (show cN X.prog X.w _ _ _ (.tup ys) from⟨hz,aA,r',IsTup.new _ _⟩)
  exact⟨.ref h'.objs.size,_,I2,rfl,q _ (I1.aG.fresh (Nat.le_refl _))⟩
 ·obtain⟨aA,r',pl,hz⟩:=I.tuple hq;exact call_tuple_same pl ⟨.ref p,H,I,rfl,q⟩
noncomputable def uL(K:PySem.W.Frag)(T:String)(x:V)(H:Hp):Prop:=match x with
 | .str _=>T = "str"
 | .int _=>T = "int"
 | .ref p=>(T = "list"/\∃xs,aE K H p xs)\/(T = "tuple"/\∃o,K.lookup p=some o/\o.cls = .type "tuple"/\o.dict=none)\/
   (T = "dict"/\((∃kvs,H p=some (.dK kvs))\/∃kvs,H p=some (.dT kvs)))\/(T = "set"/\∃S n,H p=some (.set S n))
 | _=>False
theorem K6{pins:List (Addr×Obj)}{σ:St}{H:Hp}{s:Shared}{T:String}{x:V}{v:Value}(I:Inv X pins σ H s)(r:RelV x v)(ty:uL X.K T x H) :
  s.TypeIs v T/\∀a,v = .ref a->∃ob,s.heap.get? a=some ob/\ob.dict=none:=by
 cases x with
 | str z =>
  obtain⟨t,rfl⟩:=r;cases (show T = "str" from ty);exact⟨typeIs_str s z t,λ_ e=>nomatch e⟩
 | int i =>
  obtain⟨t,rfl⟩:=r;cases (show T = "int" from ty);exact⟨typeIs_int s i t,λ_ e=>nomatch e⟩
 | ref p =>
  cases r;rcases ty with⟨rfl,xs,hq⟩ | ⟨rfl,o,hk,hc,hd⟩ | ⟨rfl,hk⟩ | ⟨rfl,S,n,hk⟩
  ·obtain⟨aA,_,pl,_⟩:=I.list hq;refine⟨pl.isList.typeIs,λa e=>?_⟩;cases e;obtain⟨o,n,e,c,hd,_⟩:=pl;exact⟨o,e,hd⟩
  ·refine⟨⟨o,I.cF p o hk,hc⟩,λa e=>?_⟩;cases e;exact⟨o,I.cF _ o hk,hd⟩
  ·have z:∃o,s.heap.get? p=some o/\o.ExactDict:=by
    rcases hk with⟨kvs,hk⟩ | ⟨kvs,hk⟩
    ·obtain⟨_,_,_,_,o,_,_,e,ex,_⟩:=I.aG p _ hk;exact⟨o,e,ex⟩
    ·obtain⟨_,_,_,_,o,_,_,e,ex,_⟩:=I.aG p _ hk;exact⟨o,e,ex⟩
   obtain⟨o,e,ex⟩:=z;refine⟨⟨o,e,ex.1⟩,λa e2=>?_⟩;cases e2;exact⟨o,e,ex.2.1⟩
  ·obtain⟨o,_,_,_,e,ex,_⟩:=I.aG p _ hk;refine⟨⟨o,e,ex.1⟩,λa e2=>?_⟩;cases e2;exact⟨o,e,ex.2.1⟩
 | _=>exact False.elim ty
noncomputable def agF(K:PySem.W.Frag)(T:String)(r:V->List V->Hp->VK->Prop)(to:TE):TE:=λσ H Q=>to σ H λx H1=>uL K T x H1/\r x [] H1 Q
noncomputable def WQ(K:PySem.W.Frag)(T:String)(r:V->List V->Hp->VK->Prop)(to:TE)(t:TA):TE:=λσ H Q=>to σ H λx H1=>uL K T x H1/\t σ H1 λxs H2=>r x xs H2 Q
variable{o e:Expr}{es:List Expr}{to:TE}{t:TA}{name:Str}{apos cQ:Pos}{T id:String}{r:V->List V->Hp->VK->Prop}
theorem iV(pa:PlainAttrs T)(slot:Slot T name id)(WR:typeOf (.builtin id)=pure (.type "method_descriptor"))(hm:WH X id r)(ho:PE X o to)(ha:PA X (e::es) t)
  (Cq:attributeBase o name X.env (eval o X.env)=eval o X.env:=by rfl)
  (WS:((backTo cQ (starEach (e::es) X.env)).all (λx => !x.1) && (backToKw cQ (keywordEach [] X.env)).all (λx=>x.1.isSome)
   && decide ((e::es).length+([]:List Keyword).length+(if ([]:List Keyword).isEmpty then 0 else 1)<30))=true:=by rfl)
  (Cr:(apos.endLine == cQ.line)=true:=by rfl) (hs:starEach (e::es) X.env=(false,eval e X.env)::starEach es X.env:=by rfl) (hplain:(backTo cQ (starEach es X.env)).any (·.1)=false:=by rfl) :
  PE X (.Call (.Attribute o name apos) (e::es) [] cQ) (WQ X.K T r to t):=by
 intro pins s σ H Q I h;refine wpAny_Call_method_late Cq WS Cr rfl (aI (ho pins s σ H _ I h) λv s1 ⟨x,H1,I1,r1,zz⟩=>?_);obtain⟨ty,q1⟩:=zz;obtain⟨h1,h2⟩:=K6 I1 r1 ty;refine⟨T,id,pa,slot,WR,h1,h2,?_⟩;have hA:=ha cQ pins s1 σ H1 _ I1 q1;rw[hs] at hA ⊢;refine Calls.callWith_builtin (by show (false || (backTo cQ (starEach es X.env)).any (·.1))=false;rw[hplain] <;> rfl) (Calls.evalArgs_plain ?_)
 exact aI hA λus s2 ⟨vs,H2,I2,r2,q2⟩=>hm pins s2 σ H2 x vs v us Q I2 r1 r2 q2
end
noncomputable def K7(X:Cx)(id:String)(r:V->List V->Hp->VK->Prop):Prop :=
 ∀(pins:List (Addr×Obj)) (s:Shared) (σ:St) (H:Hp) (x:V) (xs:List V) (v:Value) (us:List Value) (Q:VK),Inv X pins σ H s->RelV x v->Vals xs us->r x xs H Q->
  wpAny (model X.prog X.w) X.A (call (.builtin id) (v::us)) (EP X pins σ Q) X.xe s
theorem Vals.one:∀ {x:V} {us:List Value},Vals [x] us->∃u,us = [u]/\RelV x u:=by
 intro x us h;cases h with
 | cons r t=>cases t;exact⟨_,rfl,r⟩
theorem Vals.rep{xs:List V}{us:List Value}(h:Vals xs us):∀k:Nat,Vals (List.replicate k xs).flatten (List.replicate k us).flatten
 | 0=>.nil
 | k+1=>by
  rw[List.replicate_succ,List.replicate_succ,List.flatten_cons,List.flatten_cons];exact Vals.append h (Vals.rep h k)
theorem foldl_rep(aA:List Value):∀(k:Nat) (acc:List Value),
  List.foldl (λx1 x2=>x1++x2) acc.toArray (List.replicate k aA.toArray)=(acc++(List.replicate k aA).flatten).toArray
 | 0,acc=>by simp
 | k+1,acc=>by
  have e:acc.toArray++aA.toArray=(acc++aA).toArray:=by simp
  have e2:(acc++aA)++(List.replicate k aA).flatten=acc++(List.replicate (k+1) aA).flatten:=by
   rw[List.replicate_succ,List.flatten_cons,List.append_assoc]
  rw[← e2,← foldl_rep aA k (acc++aA),← e,List.replicate_succ,List.foldl_cons]
section
variable{X:Cx}{pins:List (Addr×Obj)}{σ:St}{H:Hp}{s:Shared}{l b:Addr}{xs ys zs:List V}
theorem Inv.iD{aA its':List Value}{n:Nat}{f:Array Value->Array Value}{t':Nat}(I:Inv X pins σ H s)(hH:H l=some (.lst xs))
  (e:s.heap.get? l=some { cls:=.type "list",data:=.seq aA.toArray n }) (hf:f aA.toArray=its'.toArray) (hv:Vals ys its') (hz:ys.length<=sizeLine) :
  Inv X pins σ (upd H l (.lst ys)) { s with heap:=s.heap.update l (Obj.mapSeq f),toks:=t' }:=by
 have q:=PySem.IsL.update e f;rw[hf] at q;refine I.write (x:=l) (e:=l) (by rw[hH];exact trivial) (.inl rfl) (λb' u hb hu=>(Heap.get?_update_other s.heap (Obj.mapSeq f) (Ne.symm hb)).trans hu) ⟨_,q⟩ ?_
 exact⟨hz,its',_,hv,q⟩
theorem Inv.K8{aA:List Value}{t':Nat}(I:Inv X pins σ H s)(hv:Vals ys aA)(hz:ys.length<=sizeLine) :
  Inv X pins σ (upd H s.heap.objs.size (.lst ys)) { s with heap:=s.heap.push { cls:=.type "list",data:=.seq aA.toArray },toks:=t' } :=
 I.laid (λ_ _ q=>Heap.get?_push_of_some _ q) (Nat.le_refl _) ⟨hz,aA,0,hv,Heap.get?_push_size _ rfl⟩
theorem Inv.fresh(I:Inv X pins σ H s):H s.heap.objs.size=none:=I.aG.fresh (Nat.le_refl _)
theorem Inv.oR(I:Inv X pins σ H s)(hH:H l=some (.lst xs)):xs.length<=sizeLine/\∃(aA:List Value) (n:Nat),Vals xs aA/\xs.length=aA.length/\s.heap.get? l=some { cls:=.type "list",data:=.seq aA.toArray n }:=by
 obtain⟨z,aA,n,r,e⟩:=I.aG l _ hH;exact⟨z,aA,n,r,r.length,e⟩
theorem K9{n:Nat}(h:n<=sizeLine):Builtin.List.listTooLong n=false:=by
 unfold Builtin.List.listTooLong;exact decide_eq_false (by lia)
end
section
variable{X:Cx}
noncomputable def WT:V->List V->Hp->VK->Prop:=λx vs H Q=>∃l xs y,x = .ref l/\vs = [y]/\H l=some (.lst xs)/\xs.length<sizeLine/\Q .aJ (upd H l (.lst (xs++[y])))
theorem jW:K7 X "list.append" WT:=by
 intro pins s σ H x vs v us Q I rx rv h;obtain⟨l,xs,y,rfl,rfl,hH,hz,q⟩:=h;cases rx;obtain⟨u,rfl,ru⟩:=rv.one;obtain⟨z,aA,n,r,hl,e⟩:=I.oR hH;refine call_meets F.slot_list_append ⟨_,e,rfl⟩ F.entry_list_append (F.args_list_append_2 _ _) (PySem.list_append l aA.toArray n u (by rw[List.size_toArray];lia)) ⟨e,?_⟩
 refine⟨.aJ,_,I.iD (its':=aA++[u]) hH e (by simp) (r.append (.cons ru .nil)) ?_,rfl,q⟩
 rw[List.length_append,List.length_singleton];lia
noncomputable def WU:V->List V->Hp->VK->Prop:=λx vs H Q=>∃l b xs zs,x = .ref l/\vs = [.ref b]/\H l=some (.lst xs)/\H b=some (.lst zs)/\xs.length+zs.length<=sizeLine/\Q .aJ (upd H l (.lst (xs++zs)))
theorem Cs:K7 X "list.extend" WU:=by
 intro pins s σ H x vs v us Q I rx rv h;obtain⟨l,b,xs,zs,rfl,rfl,hH,hB,hz,q⟩:=h;cases rx;obtain⟨u,rfl,ru⟩:=rv.one;cases ru;obtain⟨z,aA,n,r,hl,e⟩:=I.oR hH;obtain⟨z2,fD,n2,r2,WV,e2⟩:=I.oR hB;have hsz:aA.toArray.size+fD.toArray.size<=sizeLine:=by rw[List.size_toArray,List.size_toArray];lia
 have Ct:¬ (!aA.toArray.isEmpty && Builtin.List.listTooLong (aA.toArray.size+fD.toArray.size))=true:=by
  rw[K9 hsz,Bool.and_false];exact Bool.false_ne_true
 refine call_meets F.slot_list_extend ⟨_,e,rfl⟩ F.entry_list_extend (F.args_list_extend_2 _ _)
  (AutoSeq1.list_extend_list_list_0 l aA.toArray n b fD.toArray n2 Ct (by rw[List.size_toArray];lia) (by lia)) ⟨e,e2,?_⟩
 refine⟨.aJ,_,I.iD (its':=aA++fD) hH e (by simp) (r.append r2) ?_,rfl,q⟩
 rw[List.length_append];lia
noncomputable def agG:V->List V->Hp->VK->Prop:=λx vs H Q=>∃l xs y,x = .ref l/\vs = []/\H l=some (.lst xs)/\xs[xs.length - 1]? = some y/\Q y (upd H l (.lst xs.dropLast))
noncomputable def agH:V->List V->Hp->VK->Prop:=λx vs H Q=>∃l xs,x = .ref l/\vs = []/\H l=some (.lst xs)/\Q .aJ (upd H l (.lst xs.reverse))
noncomputable def agI:V->List V->Hp->VK->Prop:=λx vs H Q=>∃l xs,x = .ref l/\vs = []/\H l=some (.lst xs)/\Q .aJ (upd H l (.lst []))
noncomputable def WW:R2:=λx y H Q=>∃l b xs zs,x = .ref l/\y = .ref b/\H l=some (.lst xs)/\H b=some (.lst zs)/\xs.length+zs.length<=sizeLine/\∀p,H p=none->Q (.ref p) (upd H p (.lst (xs++zs)))
theorem oU:cG X (binaryOp .Add) WW:=by
 intro pins s σ H x y v u Q I rx ry h;obtain⟨l,b,xs,zs,rfl,rfl,hH,hB,hz,q⟩:=h;cases rx;cases ry;obtain⟨z,aA,n,r,hl,e⟩:=I.oR hH;obtain⟨z2,fD,n2,r2,WV,e2⟩:=I.oR hB;refine PySem.P.add_list e e2 ?_ (by rw[List.size_toArray,List.size_toArray];lia)
 have ea:aA.toArray++fD.toArray=(aA++fD).toArray:=by simp
 rw[ea];exact⟨.ref _,_,I.K8 (t':=s.toks) (r.append r2) (by rw[List.length_append];lia),rfl,q _ I.fresh⟩
noncomputable def WX:R2:=λx y H Q=>∃l k xs,x = .ref l/\y = .int k/\H l=some (.lst xs)/\-(2 ^ 63)<=k/\k<2 ^ 63/\xs.length*k.toNat<=sizeLine/\
 ∀p,H p=none->Q (.ref p) (upd H p (.lst (List.replicate k.toNat xs).flatten))
theorem len_rep{α:Type}(xs:List α)(k:Nat):(List.replicate k xs).flatten.length=k*xs.length:=by
 induction k with
 | zero=>simp
 | succ k ih=>rw[List.replicate_succ,List.flatten_cons,List.length_append,ih,Nat.succ_mul,Nat.add_comm]
theorem uM:cG X (binaryOp .Mult) WX:=by
 intro pins s σ H x y v u Q I rx ry h;obtain⟨l,k,xs,rfl,rfl,hH,h1,h2,hz,q⟩:=h;cases rx;obtain⟨t,rfl⟩:=ry;obtain⟨z,aA,n,r,hl,e⟩:=I.oR hH;have hlen:aA.toArray.size*k.toNat<=sizeLine:=by rw[List.size_toArray,← hl];exact hz
 have WY:¬ aA.toArray.size*k.toNat > (2 ^ 63 - 1) / 8:=by
  have:(sizeLine:Nat)<=(2 ^ 63 - 1) / 8:=by decide
  lia
 have WZ:¬ (!Builtin.List.listFitsIndex k)=true:=by
  rw[fitsIndex_both h1 h2];exact Bool.false_ne_true
 have Ct:¬ Builtin.List.listTooLong (aA.toArray.size*k.toNat)=true:=by
  rw[K9 hlen];exact Bool.false_ne_true
 have W0:List.foldl (λx1 x2=>x1++x2) #[] (List.replicate (if aA.toArray.isEmpty=true then 0 else k.toNat) aA.toArray)=(List.replicate k.toNat aA).flatten.toArray:=by
  have f0:∀m:Nat,List.foldl (λx1 x2=>x1++x2) #[] (List.replicate m aA.toArray)=(List.replicate m aA).flatten.toArray:=λm=>by
   have:=foldl_rep aA m [];rw[List.nil_append] at this;exact this
  rw[f0];cases aA with
  | nil=>simp
  | cons a r'=>rw[if_neg (by simp)]
 refine wpAny_binaryOp_repeat_ref (T := "list") (U := "int") (by decide) ⟨_,e,rfl⟩ (λs'=>typeIs_int s' k t) noFill_list_mul F.fills_int_mul F.slot_int_rmul repeat_list F.slot_int_index.lookup
  (call_meets F.slot_int_rmul (typeIs_int s k t) F.entry_int_rmul (F.args_int_rmul_2 _ _) (int___rmul___int_list k t l aA.toArray n)
   ⟨e,rfl,⟨_,e,rfl⟩,call_meets F.slot_list_mul ⟨_,e,rfl⟩ F.entry_list_mul (F.args_list_mul_2 _ _) (AutoListH.list___mul___list_int_3 l aA.toArray n k t WZ WY Ct) ⟨e,?_⟩⟩)
 rw[W0];exact⟨.ref _,_,I.K8 (t':=s.toks) (r.rep k.toNat) (by rw[len_rep,Nat.mul_comm];exact hz),rfl,q _ I.fresh⟩
end
section
variable{prog:Program}{w:World}{A:Around}{E:Value->Shared->Prop}{s:Shared}
end
section
variable{X:Cx}
end
section
variable{κ:Type}[DecidableEq κ]
noncomputable def bF(kvs:List (κ×V))(k:κ):Option V:=(kvs.find? λkv=>decide (kv.1=k)).map (·.2)
noncomputable def putK(kvs:List (κ×V))(k:κ)(v:V):List (κ×V) :=
 if (kvs.any λkv=>decide (kv.1=k))=true then kvs.map (λkv=>if kv.1=k then(kv.1,v) else kv) else kvs++[(k,v)]
noncomputable def gF(kvs:List (κ×V))(k:κ):List (κ×V):=kvs.filter λkv=>decide (kv.1≠k)
theorem K_{k:κ}:bF ([]:List (κ×V)) k=none:=rfl
theorem jy{p:κ×V}{r:List (κ×V)}{k:κ}(e:p.1=k):bF (p::r) k=some p.2:=by simp[bF,List.find?_cons,e]
theorem jz{p:κ×V}{r:List (κ×V)}{k:κ}(e:¬ p.1=k):bF (p::r) k=bF r k:=by simp[bF,List.find?_cons,e]
theorem qO(k:κ):∀kvs:List (κ×V),(kvs.any λkv=>decide (kv.1=k))=(bF kvs k).isSome
 | []=>rfl
 | p::r=>by
  rw[List.any_cons];by_cases e:p.1=k
  ·simp only[jy e,decide_eq_true e,Bool.true_or,Option.isSome_some]
  ·rw[jz e,decide_eq_false e,Bool.false_or];exact qO k r
theorem La(k j:κ)(y:V):∀kvs:List (κ×V),bF (kvs.map λkv=>if kv.1=k then(kv.1,y) else kv) j=(bF kvs j).map λx=>if j=k then y else x
 | []=>rfl
 | p::r=>by
  have ih:=La k j y r;rw[List.map_cons];by_cases h:p.1=k
  ·rw[if_pos h];by_cases e:p.1=j
   ·rw[jy (p:=(p.1,y)) e,jy e,Option.map_some,if_pos (e.symm.trans h)]
   ·rw[jz (p:=(p.1,y)) e,jz e,ih]
  ·rw[if_neg h];by_cases e:p.1=j
   ·rw[jy (p:=p) e,jy e,Option.map_some,if_neg (λz=>h (e.trans z))]
   ·rw[jz (p:=p) e,jz e,ih]
theorem Lb(k j:κ)(y:V):∀kvs:List (κ×V),bF kvs k=none->bF (kvs++[(k,y)]) j=if j=k then some y else bF kvs j
 | [],_=>by
  by_cases e:k=j
  ·rw[if_pos e.symm];exact jy (p:=(k,y)) e
  ·rw[if_neg (λz=>e z.symm)];exact jz (p:=(k,y)) e
 | p::r,hn=>by
  rw[List.cons_append];have hk:¬ p.1=k:=λz=>by rw[jy z] at hn;cases hn
  rw[jz hk] at hn;have ih:=Lb k j y r hn;by_cases e:p.1=j
  ·rw[jy e,jy e,if_neg (λz=>hk (e.trans z))]
  ·rw[jz e,jz e,ih]
theorem qP(kvs:List (κ×V))(k j:κ)(y:V):bF (putK kvs k y) j=if j=k then some y else bF kvs j:=by
 unfold putK;by_cases a:(kvs.any λkv=>decide (kv.1=k))=true
 ·rw[if_pos a,La];rw[qO] at a;by_cases e:j=k
  ·obtain⟨x,hx⟩:=Option.isSome_iff_exists.mp a;rw[if_pos e,e,hx,Option.map_some,if_pos rfl]
  ·rw[if_neg e];cases bF kvs j with
   | none=>rfl
   | some x=>rw[Option.map_some,if_neg e]
 ·rw[if_neg a];refine Lb k j y kvs ?_;rw[qO] at a;cases q:bF kvs k with
  | none=>rfl
  | some x=>rw[q] at a;exact(a rfl).elim
theorem Cu(kvs:List (κ×V))(k:κ)(v:V):(putK kvs k v).length<=kvs.length+1:=by
 unfold putK;split
 ·rw[List.length_map];lia
 ·rw[List.length_append,List.length_cons,List.length_nil];lia
theorem W2{kvs:List (κ×V)}{k:κ}(v:V)(h:bF kvs k=none):putK kvs k v=kvs++[(k,v)]:=by
 unfold putK;rw[qO,h];exact if_neg (by decide)
theorem fu.qQ{o:Option V}{u:Option Value}(r:fu o u):o.isSome=u.isSome:=by
 cases o with
 | none=>cases u with
  | none=>rfl
  | some _=>exact(show False from r).elim
 | some _=>cases u with
  | none=>exact(show False from r).elim
  | some _=>rfl
theorem fu.getD{o:Option V}{u:Option Value}{d:V}{d':Value}(r:fu o u)(rd:RelV d d'):RelV (o.getD d) (u.getD d'):=by
 cases o with
 | none=>cases u with
  | none=>exact rd
  | some _=>exact(show False from r).elim
 | some _=>cases u with
  | none=>exact(show False from r).elim
  | some _=>exact r
theorem KV.val{kvs:List (κ×V)}{vs:List (κ×Value)}(r:KV kvs vs)(k:κ):fu (bF kvs k) (valueAt vs k):=by
 unfold KV at r
 induction r with
 | nil=>exact True.intro
 | @cons p q ps qs h t ih =>
  obtain⟨h1,h2⟩:=h;by_cases e:p.1=k
  ·have e':q.1=k:=h1.symm.trans e;have b:valueAt (q::qs) k=some q.2:=by simp[valueAt,List.find?_cons,e']
   rw[jy e,b];exact h2
  ·have e':¬ q.1=k:=λz=>e (h1.trans z);have b:valueAt (q::qs) k=valueAt qs k:=by simp[valueAt,List.find?_cons,e']
   rw[jz e,b];exact ih
theorem KV.any{kvs:List (κ×V)}{vs:List (κ×Value)}(r:KV kvs vs)(k:κ):(kvs.any λkv=>decide (kv.1=k))=vs.any λkv=>decide (kv.1=k):=by
 unfold KV at r
 induction r with
 | nil=>rfl
 | cons h t ih=>rw[List.any_cons,List.any_cons,ih,h.1]
theorem KV.Cv{kvs:List (κ×V)}{vs:List (κ×Value)}(r:KV kvs vs)(k:κ){y:V}{u:Value}(ry:RelV y u) :
  KV (kvs.map λkv=>if kv.1=k then(kv.1,y) else kv) (vs.map λkv=>if kv.1=k then(kv.1,u) else kv):=by
 unfold KV at r ⊢
 induction r with
 | nil=>exact .nil
 | @cons p q ps qs h t ih =>
  rw[List.map_cons,List.map_cons];refine .cons ?_ ih;obtain⟨h1,h2⟩:=h;by_cases e:p.1=k
  ·rw[if_pos e,if_pos (h1.symm.trans e)];exact⟨h1,ry⟩
  ·rw[if_neg e,if_neg (λz=>e (h1.trans z))];exact⟨h1,h2⟩
theorem KV.put{kvs:List (κ×V)}{vs:List (κ×Value)}(r:KV kvs vs)(k:κ){y:V}{u:Value}(ry:RelV y u):KV (putK kvs k y) (stored vs k u):=by
 unfold putK stored;rw[r.any k];by_cases e:(vs.any λkv=>decide (kv.1=k))=true
 ·rw[if_pos e,if_pos e];exact r.Cv k ry
 ·rw[if_neg e,if_neg e];exact Paired.snoc r ⟨rfl,ry⟩
theorem KV.drop{kvs:List (κ×V)}{vs:List (κ×Value)}(r:KV kvs vs)(k:κ):KV (gF kvs k) (without vs k):=by
 unfold KV at r ⊢;unfold gF without
 induction r with
 | nil=>exact .nil
 | @cons p q ps qs h t ih =>
  obtain⟨h1,h2⟩:=h;rw[List.filter_cons,List.filter_cons];by_cases e:p.1=k
  ·have a:¬ decide (p.1≠k)=true:=by simp[e]
   have b:¬ decide (q.1≠k)=true:=by simp[h1.symm.trans e]
   rw[if_neg a,if_neg b];exact ih
  ·have e':¬ q.1=k:=λz=>e (h1.trans z);have a:decide (p.1≠k)=true:=by simp[e]
   have b:decide (q.1≠k)=true:=by simp[e']
   rw[if_pos a,if_pos b];exact .cons ⟨h1,h2⟩ ih
theorem KV.length{kvs:List (κ×V)}{vs:List (κ×Value)}(r:KV kvs vs):kvs.length=vs.length:=Paired.length r
theorem W3(kvs:List (κ×V))(k:κ):(gF kvs k).length<=kvs.length:=List.length_filter_le _ _
end
theorem ni{P:Program}{w:World}{k:Key}{u:Value}(r:RelV (kV k) u):(eL P w).is k u=true:=by
 cases k with
 | inl i=>obtain⟨t,e⟩:=(show ∃t,u=Value.int i t from r);subst e;exact Vm P w i t
 | inr x=>obtain⟨t,e⟩:=(show ∃t,u=Value.str x t from r);subst e;exact Vn P w x t
theorem Lc{P:Program}{w:World}:∀ {ks:List Key} {us:List Value},Vals (ks.map kV) us->ItemsAre (eL P w) ks us
 | [],_,r=>by rw[List.map_nil] at r;cases r;exact .nil
 | k::ks,_,r=>by
  rw[List.map_cons] at r;cases r with
  | cons h t=>exact .cons (ni h) (Lc t)
noncomputable abbrev KT(H:Hp):List (List Key×V)->List (List Key×Addr×Value)->Prop:=Paired λp q=>p.1=q.1/\H q.2.1=some (.tup (p.1.map kV))/\RelV p.2 q.2.2
theorem KT.val{H:Hp}{kvs:List (List Key×V)}{xs:List (List Key×Addr×Value)}(r:KT H kvs xs)(k:List Key):fu (bF kvs k) ((atKey xs k).map (·.2)):=by
 induction r with
 | nil=>exact True.intro
 | @cons p q ps qs h t ih =>
  obtain⟨h1,_,h2⟩:=h;by_cases e:p.1=k
  ·have e':q.1=k:=h1.symm.trans e;have b:atKey (q::qs) k=some q.2:=by simp[atKey,List.find?_cons,e']
   rw[jy e,b];exact h2
  ·have e':¬ q.1=k:=λz=>e (h1.trans z);have b:atKey (q::qs) k=atKey qs k:=by simp[atKey,List.find?_cons,e']
   rw[jz e,b];exact ih
theorem KT.Cv{H:Hp}{kvs:List (List Key×V)}{xs:List (List Key×Addr×Value)}(r:KT H kvs xs)(k:List Key){y:V}{u:Value}(ry:RelV y u) :
  KT H (kvs.map λkv=>if kv.1=k then(kv.1,y) else kv) (xs.map (putAt k u)):=by
 induction r with
 | nil=>exact .nil
 | @cons p q ps qs h t ih =>
  rw[List.map_cons,List.map_cons];refine .cons ?_ ih;obtain⟨h1,h2,h3⟩:=h;unfold putAt;by_cases e:p.1=k
  ·rw[if_pos e,if_pos (h1.symm.trans e)];exact⟨h1,h2,ry⟩
  ·rw[if_neg e,if_neg (λz=>e (h1.trans z))];exact⟨h1,h2,h3⟩
theorem KT.put{H:Hp}{kvs:List (List Key×V)}{xs:List (List Key×Addr×Value)}(r:KT H kvs xs)(k:List Key){b:Addr}{y:V}{u:Value}(hb:H b=some (.tup (k.map kV)))(ry:RelV y u) :
  KT H (putK kvs k y) (storedH xs k b u):=by
 have e:(kvs.any λkv=>decide (kv.1=k))=(atKey xs k).isSome:=by
  rw[qO,(r.val k).qQ,Option.isSome_map]
 unfold putK storedH;rw[e];by_cases q:(atKey xs k).isSome=true
 ·rw[if_pos q,if_pos q];exact r.Cv k ry
 ·rw[if_neg q,if_neg q];exact Paired.snoc r ⟨rfl,hb,ry⟩
theorem KT.keeps{H H':Hp}{kvs:List (List Key×V)}{xs:List (List Key×Addr×Value)}(r:KT H kvs xs)(ht:∀b ys,H b=some (.tup ys)->H' b=some (.tup ys)):KT H' kvs xs :=
 Paired.JR r λ_ _ z=>⟨z.1,ht _ _ z.2.1,z.2.2⟩
section
variable{P:Program}{w:World}{H:Hp}{h:Heap}{a:Addr}
theorem Ld{u:HO}(ok:b5 P w H h)(e:Rd H a u):cN P w H h a u:=e.ok ok
theorem nq{kvs:List (Key×V)}(ok:b5 P w H h)(e:Rd H a (.dK kvs)):kvs.length<=sizeLine/\(a == sysModules)=false/\∃vs,KV kvs vs/\h.DictOf (eL P w) a vs :=
 show cN P w H h a (.dK kvs) from Ld ok e
theorem uN{kvs:List (Key×V)}(ok:b5 P w H h)(e:H a=some (.dK kvs)):kvs.length<=sizeLine/\(a == sysModules)=false/\∃vs,KV kvs vs/\h.DictOf (eL P w) a vs:=nq ok (.inl e)
theorem oV{ks:List Key}(ok:b5 P w H h)(e:H a=some (.tup (ks.map kV))):(tupleKind (eL P w)).is h ks a:=by
 obtain⟨_,aA,r,o,h1,h2,n,h3⟩:=(show cN P w H h a (.tup (ks.map kV)) from ok a _ e);exact⟨o,aA.toArray,n,h1,h2,h3,by simpa using Lc r⟩
theorem nu{kvs:List (List Key×V)}(ok:b5 P w H h)(e:Rd H a (.dT kvs)):kvs.length<=sizeLine/\(a == sysModules)=false/\
  ∃xs,KT H kvs xs/\h.DictOfH (tupleKind (eL P w)) a xs:=by
 obtain⟨z,y,xs,r,o,es,ep,h1,h2,h3,h4,h5⟩:=(show cN P w H h a (.dT kvs) from Ld ok e);refine⟨z,y,xs,r,o,es,ep,h1,h2,h3,h4,λx hx=>?_,h5⟩;have all:∀ {l:List (List Key×V)} {m:List (List Key×Addr×Value)},KT H l m->∀x∈m,(tupleKind (eL P w)).is h x.1 x.2.1:=by
  intro l m q
  induction q with
  | nil=>intro x hx;exact nomatch hx
  | @cons p q ps qs hq t ih =>
   intro x hx;rcases List.mem_cons.mp hx with e | hx
   ·subst e;exact oV ok (by rw[← hq.1];exact hq.2.1)
   ·exact ih x hx
 exact all r x hx
theorem W4{kvs:List (List Key×V)}(ok:b5 P w H h)(e:H a=some (.dT kvs)):kvs.length<=sizeLine/\(a == sysModules)=false/\
  ∃xs,KT H kvs xs/\h.DictOfH (tupleKind (eL P w)) a xs:=nu ok (.inl e)
end
noncomputable def fJ(H:Hp)(a:Addr)(y:V)(r:Option V):Prop :=
 (∃kvs k,Rd H a (.dK kvs)/\y=kV k/\r=bF kvs k)\/∃kvs k b,Rd H a (.dT kvs)/\y = .ref b/\H b=some (.tup (k.map kV))/\r=bF kvs k
noncomputable def jA(H:Hp)(a:Addr)(y v:V)(H':Hp):Prop :=
 (∃kvs k,H a=some (.dK kvs)/\y=kV k/\kvs.length<sizeLine/\H' = upd H a (.dK (putK kvs k v)))\/
 ∃kvs k b,H a=some (.dT kvs)/\y = .ref b/\H b=some (.tup (k.map kV))/\kvs.length<sizeLine/\H' = upd H a (.dT (putK kvs k v))
theorem fJ.k{H:Hp}{a:Addr}{kvs:List (Key×V)}{k:Key}(e:H a=some (.dK kvs)):fJ H a (kV k) (bF kvs k):=.inl ⟨kvs,k,.inl e,rfl,rfl⟩
theorem jA.k{H:Hp}{a:Addr}{kvs:List (Key×V)}{k:Key}{v:V}(e:H a=some (.dK kvs))(hl:kvs.length<sizeLine):jA H a (kV k) v (upd H a (.dK (putK kvs k v))):=.inl ⟨kvs,k,e,rfl,hl,rfl⟩
theorem jA.t{H:Hp}{a b:Addr}{kvs:List (List Key×V)}{k:List Key}{v:V}(e:H a=some (.dT kvs))(eb:H b=some (.tup (k.map kV)))(hl:kvs.length<sizeLine) :
  jA H a (.ref b) v (upd H a (.dT (putK kvs k v))):=.inr ⟨kvs,k,b,e,rfl,eb,hl,rfl⟩
section
variable{X:Cx}{pins:List (Addr×Obj)}{σ:St}{H:Hp}{s:Shared}{a:Addr}{y v:V}{u r:Value}{o:Option V}{A:Around}{E:Value->Shared->Prop}
theorem Inv.big(I:Inv X pins σ H s):sysModules<s.heap.objs.size:=by
 have h:mainGlobals<s.heap.objs.size:=(I.mod.glob.keeps I.bk).lt;exact Nat.lt_trans (by decide) h
theorem W5{Q:Value->Shared->Prop}(hu:A.units+1<cLine)(I:Inv X pins σ H s)(g:fJ H a y (some v))(ry:RelV y u)(h:∀w' s',Inv X pins σ H s'->RelV v w'->Q w' s') :
  wpAny (model X.prog X.w) A (getItem (.ref a) u) Q E s:=by
 rcases g with⟨kvs,k,e,ey,l⟩ | ⟨kvs,k,b,e,ey,eb,l⟩
 ·subst ey;obtain⟨z,hd,vs,rel,dd⟩:=nq I.aG e;obtain⟨w',hw,gC⟩:=fu.some_of (v:=v) (o:=valueAt vs k) (by rw[l];exact rel.val k)
  exact wpAny_getItem_of (ni ry) dd.mapOf hw (h w' _ (I.tok _) gC)
 ·subst ey;cases (show u=Value.ref b from ry);obtain⟨z,hd,xs,rel,dd⟩:=nu I.aG e;obtain⟨w',hw,gC⟩:=fu.some_of (v:=v) (o:=(atKey xs k).map (·.2)) (by rw[l];exact rel.val k)
  obtain⟨p,hp,kJ⟩:=Option.map_eq_some_iff.mp hw;refine wpAny_getItem_heap (tupleKind_room_in1 hu) (oV I.aG eb) dd hp ?_;rw[kJ];exact h w' _ (I.tok _) gC
theorem W6{Q:Value->Shared->Prop}(hu:A.units+1<cLine)(I:Inv X pins σ H s)(g:fJ H a y o)(ry:RelV y u)(h:∀s',Inv X pins σ H s'->Q (.bool o.isSome) s') :
  wpAny (model X.prog X.w) A (compareOp .In u (.ref a)) Q E s:=by
 rcases g with⟨kvs,k,e,ey,l⟩ | ⟨kvs,k,b,e,ey,eb,l⟩
 ·subst ey;obtain⟨z,hd,vs,rel,dd⟩:=nq I.aG e;refine wpAny_in_of (ni ry) hd dd.mapOf ?_;rw[← (rel.val k).qQ,← l];exact h _ (I.tok _)
 ·subst ey;cases (show u=Value.ref b from ry);obtain⟨z,hd,xs,rel,dd⟩:=nu I.aG e;refine wpAny_in_heap (tupleKind_room_in1 hu) (oV I.aG eb) hd dd ?_;have q:=(rel.val k).qQ;rw[Option.isSome_map] at q;rw[← q,← l];exact h _ (I.tok _)
theorem W7{Q:Value->Shared->Prop}(hu:A.units+1<cLine)(I:Inv X pins σ H s)(g:fJ H a y o)(ry:RelV y u)(h:∀s',Inv X pins σ H s'->Q (.bool (!o.isSome)) s') :
  wpAny (model X.prog X.w) A (compareOp .NotIn u (.ref a)) Q E s:=by
 rcases g with⟨kvs,k,e,ey,l⟩ | ⟨kvs,k,b,e,ey,eb,l⟩
 ·subst ey;obtain⟨z,hd,vs,rel,dd⟩:=nq I.aG e;refine wpAny_notIn_of (ni ry) hd dd.mapOf ?_;rw[← (rel.val k).qQ,← l];exact h _ (I.tok _)
 ·subst ey;cases (show u=Value.ref b from ry);obtain⟨z,hd,xs,rel,dd⟩:=nu I.aG e;refine wpAny_notIn_heap (tupleKind_room_in1 hu) (oV I.aG eb) hd dd ?_;have q:=(rel.val k).qQ;rw[Option.isSome_map] at q;rw[← q,← l];exact h _ (I.tok _)
theorem Cw{h':Heap}{t':Nat}{ob:HO}(I:Inv X pins σ H s)(mu:qq (H a))(hs:Heap.SameBut a s.heap h')(he:∃q,h'.get? a=some q)(new:cN X.prog X.w (upd H a ob) h' a ob) :
  Inv X pins σ (upd H a ob) { s with heap:=h',toks:=t' } :=
 I.write (x:=a) (e:=a) mu (.inl rfl) (λb q hb z=>(hs.2 b hb).trans z) he new
theorem Le{P:Program}{w:World}{H':Hp}{h':Heap}{kvs:List (Key×V)}{vs:List (Key×Value)}(z:kvs.length<=sizeLine)(hd:(a == sysModules)=false)(rel:KV kvs vs)(dd:h'.DictOf (eL P w) a vs) :
  cN P w H' h' a (.dK kvs):=⟨z,hd,vs,rel,dd⟩
theorem W8{H':Hp}{Q:Unit->Shared->Prop}(hu:A.units+1<cLine)(I:Inv X pins σ H s)(g:jA H a y v H')(ry:RelV y u)(rv:RelV v r)(h:∀s',Inv X pins σ H' s'->Q () s') :
  wpAny (model X.prog X.w) A (setItem (.ref a) u r) Q E s:=by
 rcases g with⟨kvs,k,e,ey,l,eH⟩ | ⟨kvs,k,b,e,ey,eb,l,eH⟩
 ·subst ey eH;obtain⟨z,hd,vs,rel,dd⟩:=uN I.aG e;have hz:vs.length<=sizeLine:=by rw[← rel.length];exact z
  have hl:(putK kvs k v).length<=sizeLine:=by have:=Cu kvs k v;lia
  refine wpAny_setItem_pairs (hsz:=hz) (ni ry) dd λh' nA hs=>h _ ?_;have he:∃q,h'.get? a=some q:=let ⟨q,_,_,hq,_⟩:=nA;⟨q,hq⟩
  exact Cw I (by rw[e];exact True.intro) hs he (Le hl hd (rel.put k rv) nA)
 ·subst ey eH;cases (show u=Value.ref b from ry);obtain⟨z,hd,xs,rel,dd⟩:=W4 I.aG e;have hz:xs.length<=sizeLine:=by rw[← Paired.length rel];exact z
  have hl:(putK kvs k v).length<=sizeLine:=by have:=Cu kvs k v;lia
  refine wpAny_setItem_heap (hsz:=hz) (tupleKind_room_in1 hu) (oV I.aG eb) dd λh' nA hs=>h _ ?_;obtain⟨q,es,ep,hq,h2,h3,h4,_,h5⟩:=nA;refine Cw I (by rw[e];exact True.intro) hs ⟨q,hq⟩ ⟨hl,hd,_,(rel.put k eb rv).keeps λc ys ec=>?_,q,es,ep,hq,h2,h3,h4,h5⟩
  rw[aC (qp ec e (λz=>nomatch z))];exact ec
end
section
variable{X:Cx}{pins:List (Addr×Obj)}{σ:St}{H:Hp}{s:Shared}{a:Addr}{kvs:List (Key×V)}{k:Key}{u:Value}{A:Around}{E:Value->Shared->Prop}
theorem W9{v:V}{more:List Value}{Q:Value->Shared->Prop}(I:Inv X pins σ H s)(e:H a=some (.dK kvs))(ry:RelV (kV k) u)(l:bF kvs k=some v)(hm:more = []\/∃x,more = [x])
  (h:∀w' s',Inv X pins σ (upd H a (.dK (gF kvs k))) s'->RelV v w'->Q w' s'):wpAny (model X.prog X.w) A (call (.builtin "dict.pop") (.ref a::u::more)) Q E s:=by
 obtain⟨z,hd,vs,rel,dd⟩:=uN I.aG e;obtain⟨w',hw,gC⟩:=fu.some_of (v:=v) (o:=valueAt vs k) (by rw[← l];exact rel.val k)
 have hp:(keyPart u).isSome=true:=by
  cases k with
  | inl i=>obtain⟨t,q⟩:=(show ∃t,u=Value.int i t from ry);subst q;rfl
  | inr x=>obtain⟨t,q⟩:=(show ∃t,u=Value.str x t from ry);subst q;rfl
 have ha:argsOk "dict.pop" ⟨.ref a::u::more,[]⟩:=by
  rcases hm with q | ⟨x,q⟩
  ·subst q;exact PySem.F.args_dict_pop_2 _ _
  ·subst q;exact PySem.F.args_dict_pop_3 _ _ _
 refine call_meetsIn PySem.F.slot_dict_pop dd.typeIs PySem.F.entry_dict_pop ha (meets_dict_pop_there (eL X.prog X.w) a (ni ry) more hm hp)
  ⟨vs,w',dd,by rw[← rel.length];exact z,hw,λh' nA hs=>h w' _ ?_ gC⟩
 have he:∃q,h'.get? a=some q:=let ⟨q,_,_,hq,_⟩:=nA;⟨q,hq⟩
 exact Cw I (by rw[e];exact True.intro) hs he (Le (Nat.le_trans (W3 kvs k) z) hd (rel.drop k) nA)
end
noncomputable def Lf(i:Expr):Prop:=∀ov iv,subscripted i false ov iv=operate [ov,iv] (getItem ov iv)
theorem W_{prog:Program}{w:World}{A:Around}{E:Value->Shared->Prop}{s:Shared}{env:Env}{value slice:Expr}{pos:Pos}{T id:String}{Q:Value->Shared->Prop}
  (hl:typeLookup (.type T) "__getitem__" = pure (some (.builtin id))) (hs:Lf slice)
  (h:wpAny (model prog w) A (eval value env) (λo bE=>wpAny (model prog w) A (eval slice env) (λi iu=>iu.TypeIs o T/\wpAny (model prog w) A (getItem o i) Q E iu) E bE) E s) :
  wpAny (model prog w) A (eval (.Subscript value slice pos) env) Q E s:=by
 refine Subscript_ (wpAny_mono h (λo bE jX=>wpAny_mono jX (λi iu nC=>?_) λ_ _ x=>x) λ_ _ x=>x);obtain⟨hT,nC⟩:=nC;unfold subscriptTail;refine wpAny_bind ?_;rw[getitemInPython_of_ne hT.not_modules];refine wpAny_bind (wpAny_specialOf hT hl ?_);have fin:wpAny (model prog w) A (subscripted slice false o i) (λr iW=>wpAny (model prog w) A (letTemporaryGo value o r >>= λ_=>pure r) Q E iW) E iu:=by
  rw[hs o i];exact wpAny_operating (wpAny_mono nC (λr iW uO=>wpAny_bind (wpAny_letTemporaryGo (wpAny_pure uO))) λ_ _ x=>x)
 first
  | exact wpAny_pure (wpAny_bind fin)
  | exact wpAny_bind (wpAny_pure (wpAny_bind fin))
  | exact wpAny_bind fin
theorem Xa{X:Cx}{pins:List (Addr×Obj)}{σ:St}{H:Hp}{s:Shared}{a:Addr}{y:V}{o:Option V}(I:Inv X pins σ H s)(g:fJ H a y o):s.TypeIs (.ref a) "dict" := by
 rcases g with⟨kvs,k,e,_,_⟩ | ⟨kvs,k,b,e,_,_,_⟩
 ·obtain⟨_,_,vs,_,dd⟩:=nq I.aG e;exact dd.typeIs
 ·obtain⟨_,_,xs,_,dd⟩:=nu I.aG e;exact dd.typeIs
noncomputable def Xb(td ty:TE):TE:=λσ H Q=>td σ H λx H1=>ty σ H1 λy H2=>∃a v,x = .ref a/\fJ H2 a y (some v)/\Q v H2
noncomputable def Xc(ty td:TE):TE:=λσ H Q=>ty σ H λy H1=>td σ H1 λx H2=>∃a o,x = .ref a/\fJ H2 a y o/\Q (.bl o.isSome) H2
noncomputable def Xd(ty td:TE):TE:=λσ H Q=>ty σ H λy H1=>td σ H1 λx H2=>∃a o,x = .ref a/\fJ H2 a y o/\Q (.bl (!o.isSome)) H2
noncomputable def Xe(td ty tv:TE):TS:=λD σ H=>tv σ H λv H1=>td σ H1 λx H2=>ty σ H2 λy H3=>∃a H4,x = .ref a/\jA H3 a y v H4/\D.nx σ H4
section
variable{X:Cx}{o i e value:Expr}{pos pos' Wo:Pos}{td ty tv:TE}
theorem Lg(hu:X.A.units+1<cLine)(ho:PE X o td)(hi:PE X i ty)(hs:Lf i):PE X (.Subscript o i pos) (Xb td ty):=by
 intro pins s σ H Q I h;refine W_ PySem.F.slot_dict_getitem.lookup hs (aI (ho pins s σ H _ I h) λu s1 ⟨x,H1,I1,rx,q1⟩=>aI (hi pins s1 σ H1 _ I1 q1) λiv s2 ⟨y,H2,I2,ry,zz⟩=>?_);obtain⟨a,v,ex,g,q2⟩:=zz;subst ex;obtain rfl:u=Value.ref a:=rx;exact⟨Xa I2 g,W5 hu I2 g ry λw' s3 I3 gC=>⟨v,H2,I3,gC,q2⟩⟩
theorem Lh(hu:X.A.units+1<cLine)(hi:PE X i ty)(ho:PE X o td):PC X .In i o (Xc ty td):=by
 intro pins s σ H Q I h;refine aI (hi pins s σ H _ I h) λiv s1 ⟨y,H1,I1,ry,q1⟩=>aI (ho pins s1 σ H1 _ I1 q1) λu s2 ⟨x,H2,I2,rx,zz⟩=>?_;obtain⟨a,ov,ex,g,q2⟩:=zz;subst ex;obtain rfl:u=Value.ref a:=rx;exact W6 hu I2 g ry λs3 I3=>⟨.bl ov.isSome,H2,I3,rfl,q2⟩
theorem Li(hu:X.A.units+1<cLine)(hi:PE X i ty)(ho:PE X o td):PC X .NotIn i o (Xd ty td):=by
 intro pins s σ H Q I h;refine aI (hi pins s σ H _ I h) λiv s1 ⟨y,H1,I1,ry,q1⟩=>aI (ho pins s1 σ H1 _ I1 q1) λu s2 ⟨x,H2,I2,rx,zz⟩=>?_;obtain⟨a,ov,ex,g,q2⟩:=zz;subst ex;obtain rfl:u=Value.ref a:=rx;exact W7 hu I2 g ry λs3 I3=>⟨.bl (!ov.isSome),H2,I3,rfl,q2⟩
theorem qR(hu:X.A.units+1<cLine)(ho:PE X o td)(hi:PE X i ty)(hv:PE X value tv)(hs:swapsWith value (some (.Subscript o i pos')) pos.line X.env=pure false) :
  PS X (.Assign [.Subscript o i pos'] value pos) (Xe td ty tv):=by
 intro pins s σ H D I h;refine wpAny_Assign_Subscript (aI (hv pins s σ H _ I h) λr s1 ⟨v,H1,I1,rv,q1⟩=>aI (ho pins s1 σ H1 _ I1 q1) λu s2 ⟨x,H2,I2,rx,q2⟩=>aI (hi pins s2 σ H2 _ I2 q2) λiv s3 ⟨y,H3,I3,ry,zz⟩=>?_) hs;obtain⟨a,H4,ex,g,q3⟩:=zz;subst ex;obtain rfl:u=Value.ref a:=rx;exact W8 hu I3 g ry rv λs4 I4=>⟨σ,H4,I4,q3⟩
end
theorem Xf{P:Program}{w:World}{H:Hp}(h:Heap)(hb:sysModules<h.objs.size):cN P w H (h.push { cls:=.type "dict",data:=.dict #[] }) h.objs.size (.dK []) :=
 ⟨Nat.zero_le _,beq_eq_false_iff_ne.mpr (Ne.symm (Nat.ne_of_lt hb)),[],.nil,Heap.DictOf.new h⟩
theorem Xg{P:Program}{w:World}{H:Hp}(h:Heap)(hb:sysModules<h.objs.size):cN P w H (h.push { cls:=.type "dict",data:=.dict #[] }) h.objs.size (.dT []) :=
 ⟨Nat.zero_le _,beq_eq_false_iff_ne.mpr (Ne.symm (Nat.ne_of_lt hb)),[],.nil,_,#[],0,Heap.get?_push_size _ rfl,⟨rfl,rfl,rfl⟩,rfl,rfl,List.nodup_nil⟩
noncomputable def Xh:TE:=λ_ H Q=>∀p,H p=none->Q (.ref p) (upd H p (.dK []))
noncomputable def Xi:TE:=λ_ H Q=>∀p,H p=none->Q (.ref p) (upd H p (.dT []))
section
variable{X:Cx}{pos:Pos}
theorem qT:PE X (.Dict [] [] pos) Xh:=λpins s σ H Q I h =>
 wpAny_Dict_empty ⟨.ref s.heap.objs.size,_,I.laid (a:=s.heap.objs.size) (o:=.dK []) (t':=s.toks) (λ_ _ q=>Heap.get?_push_of_some _ q) (Nat.le_refl _) (Xf s.heap I.big),rfl,h _ (I.aG.fresh (Nat.le_refl _))⟩
theorem Xj:PE X (.Dict [] [] pos) Xi:=λpins s σ H Q I h =>
 wpAny_Dict_empty ⟨.ref s.heap.objs.size,_,I.laid (a:=s.heap.objs.size) (o:=.dT []) (t':=s.toks) (λ_ _ q=>Heap.get?_push_of_some _ q) (Nat.le_refl _) (Xg s.heap I.big),rfl,h _ (I.aG.fresh (Nat.le_refl _))⟩
end
structure M1(X:Cx)(o:Expr)(m:Str)(apos:Pos)(e:Expr)(cQ:Pos):Prop where
 base:attributeBase o m X.env (eval o X.env)=eval o X.env
 Cy:((backTo cQ (starEach [e] X.env)).all (λx => !x.1) && (backToKw cQ (keywordEach [] X.env)).all (λx=>x.1.isSome)
  && decide (([e]:List Expr).length+([]:List Keyword).length+(if ([]:List Keyword).isEmpty then 0 else 1)<30))=true
 line:(apos.endLine == cQ.line)=true
 trees:backTo cQ (starEach [e] X.env) = [(false,eval e X.env)]
structure M2(X:Cx)(o:Expr)(m:Str)(apos:Pos)(e f:Expr)(cQ:Pos):Prop where
 base:attributeBase o m X.env (eval o X.env)=eval o X.env
 Cy:((backTo cQ (starEach [e,f] X.env)).all (λx => !x.1) && (backToKw cQ (keywordEach [] X.env)).all (λx=>x.1.isSome)
  && decide (([e,f]:List Expr).length+([]:List Keyword).length+(if ([]:List Keyword).isEmpty then 0 else 1)<30))=true
 line:(apos.endLine == cQ.line)=true
 trees:backTo cQ (starEach [e,f] X.env) = [(false,eval e X.env),(false,eval f X.env)]
noncomputable def uP(H:Hp)(a:Addr):Prop:=(∃kvs,Rd H a (.dK kvs))\/∃kvs,Rd H a (.dT kvs)
theorem Lj{X:Cx}{pins:List (Addr×Obj)}{σ:St}{H:Hp}{s:Shared}{a:Addr}(I:Inv X pins σ H s)(d:uP H a) :
  s.TypeIs (.ref a) "dict"/\(∀b,Value.ref a = .ref b->∃ob,s.heap.get? b=some ob/\ob.dict=none)/\(a == sysModules)=false:=by
 rcases d with⟨kvs,e⟩ | ⟨kvs,e⟩
 ·obtain⟨_,hd,vs,_,dd⟩:=nq I.aG e;refine⟨dd.typeIs,λb q=>?_,hd⟩;cases q;obtain⟨ob,_,_,h1,h2,_⟩:=dd;exact⟨ob,h1,h2.2.1⟩
 ·obtain⟨_,hd,xs,_,dd⟩:=nu I.aG e;refine⟨dd.typeIs,λb q=>?_,hd⟩;cases q;obtain⟨ob,_,_,h1,h2,_⟩:=dd;exact⟨ob,h1,h2.2.1⟩
section
variable{X:Cx}{pins:List (Addr×Obj)}{σ:St}{H:Hp}{s:Shared}{a:Addr}{y d:V}{u r:Value}{o:Option V}{A:Around}{E:Value->Shared->Prop}
theorem Xk{Q:Value->Shared->Prop}(hu:A.units+1<cLine)(I:Inv X pins σ H s)(g:fJ H a y o)(ry:RelV y u)(rd:RelV d r)(h:∀w' s',Inv X pins σ H s'->RelV (o.getD d) w'->Q w' s') :
  wpAny (model X.prog X.w) A (call (.builtin "dict.get") [.ref a,u,r]) Q E s:=by
 rcases g with⟨kvs,k,e,ey,l⟩ | ⟨kvs,k,b,e,ey,eb,l⟩
 ·subst ey;obtain⟨z,hd,vs,rel,dd⟩:=nq I.aG e;refine call_meetsIn PySem.F.slot_dict_get dd.typeIs PySem.F.entry_dict_get (PySem.F.args_dict_get_3 _ _ _) (meets_dict_get_default (eL X.prog X.w) a (ni ry) hd r) ⟨_,dd.mapOf,h _ _ (I.tok _) ?_⟩;rw[l];exact(rel.val k).getD rd
 ·subst ey;cases (show u=Value.ref b from ry);obtain⟨z,hd,xs,rel,dd⟩:=nu I.aG e;refine call_meetsIn PySem.F.slot_dict_get dd.typeIs PySem.F.entry_dict_get (PySem.F.args_dict_get_3 _ _ _) (meetsH_dict_get_default (tupleKind (eL X.prog X.w)) a b hd r) ⟨tupleKind_room_in1 hu,k,xs,oV I.aG eb,dd,h _ _ (I.tok _) ?_⟩;rw[l];exact(rel.val k).getD rd
end
noncomputable def agJ(td ty:TE):TE:=λσ H Q=>td σ H λx H1=>∃a,x = .ref a/\uP H1 a/\ty σ H1 λy H2=>∃o,fJ H2 a y o/\Q (o.getD .aJ) H2
noncomputable def Lk(td ty tx:TE):TE:=λσ H Q=>td σ H λx H1=>∃a,x = .ref a/\uP H1 a/\ty σ H1 λy H2=>tx σ H2 λz H3=>∃o,fJ H3 a y o/\Q (o.getD z) H3
noncomputable def Ll(td ty:TE):TE:=λσ H Q=>td σ H λx H1=>∃a,x = .ref a/\uP H1 a/\ty σ H1 λy H2=>∃kvs k v,H2 a=some (.dK kvs)/\y=kV k/\bF kvs k=some v/\Q v (upd H2 a (.dK (gF kvs k)))
section
variable{X:Cx}{o e f:Expr}{apos cQ:Pos}{td ty tx:TE}
theorem Lm(hu:X.A.units+1<cLine)(ho:PE X o td)(he:PE X e ty)(hf:PE X f tx)(m:M2 X o "get" apos e f cQ):PE X (.Call (.Attribute o "get" apos) [e,f] [] cQ) (Lk td ty tx):=by
 intro pins s σ H Q I h;refine wpAny_Call_method m.base m.Cy m.line PySem.F.plainAttrs_dict PySem.F.slot_dict_get PySem.F.type_dict_get (aI (ho pins s σ H _ I h) λu s1 ⟨x,H1,I1,rx,zz⟩=>?_);obtain⟨a,ex,d,q1⟩:=zz;subst ex;obtain rfl:u=Value.ref a:=rx;obtain⟨t1,t2,_⟩:=Lj I1 d;refine⟨t1,t2,?_⟩;rw[m.trees];refine Calls.callWith_builtin rfl (Calls.evalArgs_plain (Calls.spliced_cons (aI (he pins s1 σ H1 _ I1 q1) λiv s2 ⟨y,H2,I2,ry,q2⟩ =>
  Calls.spliced_cons (aI (hf pins s2 σ H2 _ I2 q2) λfv s3 ⟨z,H3,I3,rz,zz⟩=>Calls.spliced_nil ?_))))
 obtain⟨ov,g,q3⟩:=zz;exact Xk hu I3 g ry rz λw' s4 I4 gC=>⟨_,H3,I4,gC,q3⟩
theorem Xl(ho:PE X o td)(he:PE X e ty)(m:M1 X o "pop" apos e cQ):PE X (.Call (.Attribute o "pop" apos) [e] [] cQ) (Ll td ty):=by
 intro pins s σ H Q I h;refine wpAny_Call_method m.base m.Cy m.line PySem.F.plainAttrs_dict PySem.F.slot_dict_pop PySem.F.type_dict_pop (aI (ho pins s σ H _ I h) λu s1 ⟨x,H1,I1,rx,zz⟩=>?_);obtain⟨a,ex,d,q1⟩:=zz;subst ex;obtain rfl:u=Value.ref a:=rx;obtain⟨t1,t2,_⟩:=Lj I1 d;refine⟨t1,t2,?_⟩;rw[m.trees];refine Calls.callWith_builtin rfl (Calls.evalArgs_plain (Calls.spliced_cons (aI (he pins s1 σ H1 _ I1 q1) λiv s2 ⟨y,H2,I2,ry,zz⟩=>Calls.spliced_nil ?_)));obtain⟨kvs,k,v,ea,ey,l,q2⟩:=zz;subst ey;exact W9 I2 ea ry l (.inl rfl) λw' s3 I3 gC=>⟨v,_,I3,gC,q2⟩
end
section
variable{X:Cx}{pins:List (Addr×Obj)}{σ:St}{H:Hp}{s:Shared}{a:Addr}{kvs:List (Key×V)}{A:Around}{E:Value->Shared->Prop}
end
section
variable{X:Cx}{pins:List (Addr×Obj)}{σ:St}{H:Hp}{s:Shared}{a:Addr}{y:V}{u:Value}{A:Around}{E:Value->Shared->Prop}
end
end _L
namespace Ln
open PySem PySem.W PySem.Calls PyProof.Rows
theorem Xm{P:Params}{h:Heap}:∀(ns:List Int) (vs:List Value),WellAll P h vs (ns.map WData.int)->IntsAre vs ns:=by
 intro ns
 induction ns with
 | nil =>
  intro vs w;rw[List.map_nil] at w;cases w;exact .nil
 | cons n ns ih =>
  intro vs w;rw[List.map_cons] at w;cases w with
  | cons a b =>
   cases a;exact .cons _ _ (ih _ b)
theorem Xn{l:OpenLaw}{n:Nat}(hn:l.most=some n){P:Params}{h:Heap}{args:List WData}{vals:List Value}
  (uQ:l.row.toRowW.claim.pre args=true) (Cz:WellAll P h vals args) :
  ∃a vs ns,vals = [Value.ref a]/\args = [WData.list (ns.map WData.int)]/\h.get? a=some { cls:=.type "list",data:=.seq vs.toArray }/\IntsAre vs ns/\ns.length<=n:=by
 have uR:WShape.hasAll [] args [.list .int] = true:=(pre_splitW uQ).1;have hc:l.pre.holds [] { args:=args }=true:=(pre_splitW uQ).2;obtain⟨d,r,rfl,h1,h2⟩:=hasAllW_cons uR;obtain rfl:=hasAllW_nil h2;obtain⟨xs,rfl,h3⟩:=hasW_list h1;obtain⟨ns,rfl⟩:=items_int h3;have hlen:ns.length<=n:=by
  unfold OpenLaw.pre at hc;have h4:(WTm.not (.lt (.lit (.int (n:Int))) (.len (.arg 0)))).holds [] { args:=[.list (ns.map .int)] }=true:=by
   have h4:=(holds_andW hc).1;rw[hn] at h4;exact h4
  have h5:=condW_of h4 (w_not (w_lt w_lit (w_len_list (w_arg rfl))));rw[List.length_map] at h5;refine Nat.le_of_not_lt λq=>?_
  have q':(n:Int)<((ns.length:Nat):Int):=by lia
  first
   | (rw[decide_eq_true q'] at h5;exact absurd h5 (by decide))
   | (simp at h5;lia)
 cases Cz with
 | cons w1 w2 =>
  cases w2;cases w1 with
  | list ho Xo=>exact⟨_,_,ns,rfl,rfl,ho,Xm ns _ Xo,hlen⟩
theorem Xp(l:OpenLaw)(args:List WData):l.row.toRowW.claim.post args (.bool true) args=true :=
 postW_of (r:=l.row.toRowW) (X:=(true == true))
  (show WShape.has [] (.bool true) .bool=true by first | rfl | decide | simp[WShape.has,WShape.arms,WShape.armsAll])
  (show (WTm.eq .res (.lit (.bool true))).value [] { args:=args,res:=some (.bool true),after:=args }=some (.bool (true == true)) from w_eq_bool (w_res rfl) w_lit) rfl
theorem Xq{l:OpenLaw}{n:Nat}{q:Program}{loose:List Str}{XP:(Str->Option Value)->Heap->Prop}{YP:World->Heap->Prop}{d:DefRec}
  (hn:l.most=some n) (qU:d.params.defaults = [])
  (call:∀(w:World) (bB bE:Shared) (mg mb:Str->Option Value) (fa:Addr) (o:Obj) (pm cd doc:Value) (a:Addr) (vs:List Value) (ns:List Int),
   Ground q loose [] XP w bB mg mb bE.heap->YP w bE.heap->
   bE.heap.get? fa=some o->o.data = .func (docDef d.name d.params d.body d.scope pm cd doc)->bE.heap.CodeRec cd d.name->mg d.name=some (.ref fa)->
   bE.heap.get? a=some { cls:=.type "list",data:=.seq vs.toArray }->IntsAre vs ns->ns.length<=n->bE.gens = #[]->
   codeAny (model l.prog w) callerA (.call (.ref fa) ⟨[.ref a],[]⟩) (λr s'=>r = .ok (.ret (.bool true))/\OldK bE.heap s'.heap/\s'.os=bE.os/\AllBare s'.gens) bE) :
  WalkO q loose XP YP l.row.toRowW d [] (λf vs=>PySem.call f vs):=by
 intro w bB bE mg mb G Y fa o pm cd doc dV kV ho hd dM hD hmg hg args vals as uQ agK hrd Cz hlo;obtain rfl:dV = .none:=Dflts.none hD qU;obtain rfl:kV = .none:=Dflts.noKw hD;obtain⟨a,vs,ns,rfl,rfl,CB,hints,hlen⟩:=Xn hn uQ Cz;refine enter_call (codeAny_mono (call w bB bE mg mb fa o pm cd doc a vs ns G Y ho (fd_plain hd) dM hmg CB hints hlen hg) λr s' hq=>?_);obtain⟨rfl,h2,h3,h4⟩:=hq;exact⟨.inl ⟨.bool true,.bool true,[],rfl,λ_=>rfl,.bool true,Xp l _,λ_=>⟨List.Pairwise.nil,λ_ hm=>(nomatch hm)⟩⟩,h2,h3,h4⟩
section
variable{prog:Program}{w:World}{A:Around}{E:Value->Shared->Prop}{s:Shared}{K:Frag}
noncomputable def ledger(h:Heap)(L d:Addr):List (Addr×Obj):=(List.range h.objs.size).filterMap λa=>if a=L\/a=d then none else(h.get? a).map λo=>(a,o)
end
end Ln
namespace _L
open PySem PySem.Spec PyProof.Rows
theorem CF:∀ {vs:List Value} {ns:List Int},IntsAre vs ns->Vals (ns.map V.int) vs
 | _,_,.nil=>.nil
 | _,_,.cons n t h=>.cons ⟨t,rfl⟩ (CF h)
noncomputable def CG(H:Hp):Prop:=∀b,H b=none\/∃o xs,H b=some (.bL o (.lst xs))
theorem Xr{P:Program}{w:World}{K:PySem.W.Frag}{mg mb:Str->Option Value}{CX:f9}{k:Nat}{fa a:Addr}{fd:FuncData}{x:Str}{sp:Sp}{bE:Shared}{vs:List Value}{ns:List Int}
  (KX:K.In bE.heap) (uS:bE.heap.Ns mainGlobals mg) (hb:bE.heap.Ns builtinsNs mb) (Xs:∀x:Str,x≠"__name__"->mb x=bootBuiltins x) (Xu:bE.heap.NoLimit) (hg:bE.gens = #[])
  (ha:bE.heap.get? a=some { cls:=.type "list",data:=.seq vs.toArray }) (hi:IntsAre vs ns) (hl:ns.length<=sizeLine) (hr:cy k callerA)
  (F:∀base:Heap,K.In base->base.Ns mainGlobals mg->aR P w K mg base CX k fa fd [x] sp) (Xv:∀(s:Shared) (u:Value),BindsTo s fd ⟨[u],[]⟩ [(x,u)])
  (gB:∀H:Hp,CG H->aE K H a (ns.map V.int)->sp [.ref a] H (λv _=>v = .bl true) λ_ _ _=>False)
  (CH:∀H e s',CX [] H bE (λ_ _ _=>False) e s'->False) :
  codeAny (model P w) callerA (.call (.ref fa) ⟨[.ref a],[]⟩) (λr s'=>r = .ok (.ret (.bool true))/\OldK bE.heap s'.heap/\s'.os=bE.os/\AllBare s'.gens) bE:=by
 have rv:=CF hi;have Xw:=hi.length
 -- from an abstract heap in which nothing but the script may be tracked
 have core:∀H:Hp,CG H->aE K H a (ns.map V.int)->b5 P w H bE.heap->(∀b,H b≠none->b=a)->(H a≠none->K.lookup a=none)->
   codeAny (model P w) callerA (.call (.ref fa) ⟨[.ref a],[]⟩) (λr s'=>r = .ok (.ret (.bool true))/\OldK bE.heap s'.heap/\s'.os=bE.os/\AllBare s'.gens) bE:=by
  intro H hO hS aG hA hK;have Lo:∀ {b:Addr} {o:Obj},bE.heap.get? b=some o->H b=none->(kD bE.heap H).get? b=some o:=λe n=>Vs e n;have qK:∀ {b:Addr} {o:Obj} {es:Array DictEntry} {ep:Nat},bE.heap.get? b=some o->o.data = .dict es ep->H b=none:=λ{b o es ep} e d=>by
   cases q:H b with
   | none=>rfl
   | some u =>
    have e':b=a:=hA b (by rw[q];simp)
    subst e';rw[ha] at e;cases e;have d':Data.seq vs.toArray _=Data.dict es ep:=d;cases d'
  have uT:∀ {b:Addr} {m:Str->Option Value},bE.heap.Ns b m->(kD bE.heap H).Ns b m:=λ{b m} ⟨o,es,ep,e,d,r⟩=>⟨o,es,ep,Lo e (qK e d),d,r⟩;have Lq:K.In (kD bE.heap H):=λb o e=>Lo (KX b o e) (by
   cases q:H b with
   | none=>rfl
   | some u =>
    have e':b=a:=hA b (by rw[q];simp)
    subst e';rw[hK (by rw[q];simp)] at e;cases e)
  have hM:Mod K mg (kD bE.heap H):=⟨Lq,uT uS,⟨mb,uT hb,Xs⟩,let ⟨mc,h1,h2⟩:=Xu;⟨mc,uT h1,h2⟩⟩
  have e0:lH P w K mg (kD bE.heap H) callerA [] bE H:=⟨rfl,hM,λb o e=>Vt e,Nat.le_of_eq (Vr _ _),trivial,λb hb=>absurd (show b∈([]:List Addr) from hb) (by simp),aG,.of_eq hg⟩
  refine codeAny_mono ((F _ Lq (uT uS)).run callerA [] bE H ⟨[.ref a],[]⟩ [.ref a] [.ref a] _ _ hr e0 (Xv bE (.ref a)) (.cons rfl .nil) (gB H hO hS)) λr s' h=>?_;cases r with
  | error e=>exact(CH H e s' h).elim
  | ok fl =>
   cases fl with
   | next=>exact False.elim h
   | brk=>exact False.elim h
   | cont=>exact False.elim h
   | ret u =>
    obtain⟨v,H',os,bare,un,Xx,r',q⟩:=h;have q':v = .bl true:=q;subst q';obtain rfl:u=Value.bool true:=r';refine⟨rfl,OldK.of_keep λb o e=>?_,os,bare⟩;cases q:H b with
    | none=>exact un.keep b o e q (by intro z;exact absurd (show b∈([]:List Addr) from z) (by simp)) (by simp)
    | some u =>
     rcases hO b with z | ⟨ob,xs,z⟩
     ·rw[q] at z;cases z
     ·have z2:=un.gT b ob _ z;obtain⟨e1,_⟩:=aG b _ z;obtain⟨e2,_⟩:=Xx b _ z2;rw[e] at e1;cases e1;exact e2
 cases hk:K.lookup a with
 | some o =>
  -- the script is one of the module's own objects
  have e:=KX a o hk;rw[ha] at e;cases e;refine core (λ_=>none) (λ_=>.inl rfl) (.inr ⟨_,vs.toArray,_,hk,rfl,rfl,rfl,by rw[List.size_toArray,Xw];exact hl,by simpa using rv⟩) (λb u z=>by have z':(none:Option HO)=some u:=z;cases z') (λb z=>absurd rfl z) λz=>absurd rfl z
 | none =>
  refine core (λb=>if b=a then some (.bL { cls:=.type "list",data:=.seq vs.toArray } (.lst (ns.map V.int))) else none) (λb=>?_) (.inl (.inr ⟨{ cls:=.type "list",data:=.seq vs.toArray },if_pos rfl⟩)) (λb u z=>?_) (λb z=>?_) λ_=>hk
  ·by_cases hb:b=a
   ·exact .inr ⟨_,_,if_pos hb⟩
   ·exact .inl (if_neg hb)
  ·by_cases hb:b=a
   ·have z':=(if_pos hb).symm.trans z;cases z';subst hb;exact⟨ha,by rw[List.length_map];exact hl,vs,_,rv,ha⟩
   ·have z':=(if_neg hb).symm.trans z;cases z'
  ·by_cases hb:b=a
   ·exact hb
   ·exact absurd (if_neg hb) z
noncomputable abbrev KOf{K:PySem.W.Frag}{h:Heap}(_:K.In h):PySem.W.Frag:=K
theorem Xy{l:PySem.W.OpenLaw}{n k:Nat}{q:Program}{loose:List Str}{XP:(Str->Option Value)->Heap->Prop}{YP:World->Heap->Prop}{d:DefRec}{K:Params->PySem.W.Frag}{CX:World->f9}{sp:World->Sp}{x:Str}
  (hn:l.most=some n) (uC:n<=sizeLine) (qU:d.params.defaults = []) (hr:cy k callerA)
  (hY:∀(w:World) (h:Heap),YP w h->(K w.params).In h)
  (F:∀(w:World) (mg:Str->Option Value) (fa:Addr) (h:Heap),(K w.params).In h->h.Ns mainGlobals mg->mg d.name=some (.ref fa)->
   ∃fd:FuncData,(∀(s:Shared) (u:Value),BindsTo s fd ⟨[u],[]⟩ [(x,u)])/\
    ∀base:Heap,(K w.params).In base->base.Ns mainGlobals mg->aR l.prog w (K w.params) mg base (CX w) k fa fd [x] (sp w))
  (gB:∀(w:World) (H:Hp) (a:Addr) (ns:List Int),ns.length<=n->CG H->aE (K w.params) H a (ns.map V.int)->sp w [.ref a] H (λv _=>v = .bl true) λ_ _ _=>False)
  (CH:∀(w:World) (H:Hp) (s:Shared) (e:Value) (s':Shared),CX w [] H s (λ_ _ _=>False) e s'->False) :
  PySem.W.WalkO q loose XP YP l.row.toRowW d [] (λf vs=>PySem.call f vs):=by
 refine Ln.Xq hn qU λw bB bE mg mb fa o pm cd doc a vs ns G Y ho hd dM hmg CB hints hlen hg=>?_;have KX:=hY w _ Y;obtain⟨fd,hb,hF⟩:=F w mg fa _ KX G.T.g hmg;exact Xr KX G.T.g G.T.b G.T.builtins G.T.nolimit hg CB hints (Nat.le_trans hlen uC) hr hF hb (λH hO hS=>gB w H a ns hlen hO hS) λH e s'=>CH w H bE e s'
noncomputable def inClass(s:Stmt)(j:Nat):Stmt:=match s with
 | .ClassDef _ _ _ body _ _ _ _ _ _ _=>body.getD j (.Pass ⟨0,0,0,0⟩)
 | _=>.Pass ⟨0,0,0,0⟩
noncomputable def gr(s:Stmt):Arguments:=match s with
 | .FunctionDef _ a _ _ _ _ _ _ _ _=>a
 | _=>{ posonlyargs:=[],args:=[],vararg:=none,kwonlyargs:=[],kw_defaults:=[],kwarg:=none,defaults:=[] }
noncomputable def fc(s:Stmt):List Stmt:=match s with
 | .FunctionDef _ _ b _ _ _ _ _ _ _=>b
 | _=>[]
noncomputable def aN(s:Stmt):Scope:=match s with
 | .FunctionDef _ _ _ _ _ _ sc _ _ _=>sc
 | _=>{ kind:=.function,names:=[],isGenerator:=false,isCoroutine:=false }
noncomputable abbrev a_:f9:=λ_ _ _ _ _ _=>False
noncomputable abbrev E0:XK:=λ_ _ _=>False
theorem aM{X:Cx}:Passes a_ X E0:=λ_ _ _ _ _ _ _ h=>h.elim
structure aF(K:PySem.W.Frag)(x qual:Str)(st:Stmt)(f:Addr)(fd:FuncData):Prop where
 ex:∃(oc:Value) (od:Option Addr) (kV doc pm:Value) (an:Option Addr) (aK ct:Value) (gq:Array (Option Value)),
  fd=PySem.W.fnOf x qual (gr st) (fc st) (aN st) .none kV doc pm an aK ct/\K.lookup f=some ⟨oc,od,.func fd,gq⟩/\PySem.W.codeIn K aK qual=true
 kp:PySem.W.keepIn K (.ref f)=true
section
variable{P:Program}{w:World}{K:PySem.W.Frag}{mg:Str->Option Value}{base:Heap}
theorem aF.ok{x qual:Str}{st:Stmt}{f:Addr}{fd:FuncData}{N ps:List Str}{k:Nat}{sp:Sp}(F:aF K x qual st f fd)(S:aX N ps (aN st))(len:∀vs H Q E,sp vs H Q E->vs.length=ps.length)
  (kI:∀(aK:Value) (A:Around) (outer:List Env) (s:Shared) (H:Hp) (vs:List V) (Q:VK) (E:XK),cy k (A.deeper (envOfC qual (aN st) s.heap.objs.size f aK))->sp vs H Q E->
   ∃t,fz (gn a_ P w K mg base N qual (aN st) f aK A outer s H E).lB (fc st) t/\t { nx:=λ_ H'=>Q .aJ H',rt:=Q } (start N vs) H):aR P w K mg base a_ (k+1) f fd ps sp:=by
 obtain⟨oc,od,kV,doc,pm,an,aK,ct,gq,rfl,lk,dM⟩:=F.ex;refine Ck lk dM S len λA outer s H vs Q E hr gB=>?_;obtain⟨t,h,q⟩:=kI aK A outer s H vs Q E hr gB;exact⟨t,h.lB,q⟩
theorem aF.binds{x qual:Str}{st:Stmt}{f:Addr}{fd:FuncData}{ps:List Str}(F:aF K x qual st f fd)
  (h:∀(kV doc pm:Value) (an:Option Addr) (aK ct:Value) (us:List Value),us.length=ps.length->bindArgs (PySem.W.fnOf x qual (gr st) (fc st) (aN st) .none kV doc pm an aK ct) ⟨us,[]⟩=pure (ps.zip us)):Binds K fd ps []:=by
 obtain⟨oc,od,kV,doc,pm,an,aK,ct,gq,rfl,lk,dM⟩:=F.ex;exact .all (h kV doc pm an aK ct)
theorem fun_mk{x qual:Str}{st:Stmt}{f:Addr}{oc:Value}{od an:Option Addr}{gq:Array (Option Value)}{kV doc pm aK ct:Value}(l:K.lookup f=some ⟨oc,od,.func (PySem.W.fnOf x qual (gr st) (fc st) (aN st) .none kV doc pm an aK ct),gq⟩)
  (c:PySem.W.codeIn K aK qual=true) (k:PySem.W.keepIn K (.ref f)=true):aF K x qual st f (PySem.W.fnOf x qual (gr st) (fc st) (aN st) .none kV doc pm an aK ct):=⟨⟨oc,od,kV,doc,pm,an,aK,ct,gq,rfl,l,c⟩,k⟩
end
theorem iE{A:Around}{k:Nat}(hr:cy k A):A.units+1<cLine:=Nat.lt_of_le_of_lt (Nat.add_le_add_left (by decide:1<=64) _) hr.units
theorem fK{n:Nat}(h:n<=1000):n<sizeLine:=Nat.lt_of_le_of_lt h (by decide)
section
variable{X:Cx}
theorem pv(i:Nat){x:Str}{pos:Pos}(hN:X.N[i]? = some x:=by rfl)(hv:BH X.env.scope x:=by first | exact Or.inl rfl | exact Or.inr (Or.inl rfl) | exact Or.inr (Or.inr rfl))(hd:(x == ("__debug__" : Str))=false:=by decide)
  (dM:(x == ("__classdict__" : Str))=false:=by decide):PE X (.Name x pos) (J6 i):=Vz hN hv hd dM
end
theorem cO{c A B:Prop}[Decidable c](h1:c->A)(h2:¬ c->B):if c then A else B:=by
 by_cases h:c
 ·rw[if_pos h];exact h1 h
 ·rw[if_neg h];exact h2 h
noncomputable def ah(H H':Hp):Prop:=∀b o,H b=some o->H' b=some o
theorem ah.refl(H:Hp):ah H H:=λ_ _ h=>h
theorem ah.trans{H H1 H2:Hp}(a:ah H H1)(b:ah H1 H2):ah H H2:=λc o h=>b c o (a c o h)
theorem ah.free{H H':Hp}(e:ah H H'){l:Addr}(h:H' l=Option.none):H l=Option.none:=by
 cases q:H l with
 | none=>rfl
 | some o =>
  rw[e l o q] at h;cases h
theorem ah.seq{K:PySem.W.Frag}{H H':Hp}{a:Addr}{xs:List V}(e:ah H H')(h:aE K H a xs):aE K H' a xs:=by
 rcases h with(h | ⟨o,h⟩) | h
 ·exact .inl (.inl (e _ _ h))
 ·exact .inl (.inr ⟨o,e _ _ h⟩)
 ·exact .inr h
section
variable{κ:Type}[DecidableEq κ]
theorem Xz{p:κ×V}{r:List (κ×V)}{k:κ}(e:p.1=k):gF (p::r) k=gF r k:=by
 unfold gF;rw[List.filter_cons,if_neg (by simp[e])]
theorem Lr{p:κ×V}{r:List (κ×V)}{k:κ}(e:¬ p.1=k):gF (p::r) k=p::gF r k:=by
 unfold gF;rw[List.filter_cons,if_pos (by simp[e])]
theorem Ls:∀ {kvs:List (κ×V)} {k:κ},¬ k∈kvs.map (·.1)->gF kvs k=kvs
 | [],_,_=>rfl
 | p::r,k,h=>by
  have h':¬ k∈r.map (·.1):=λm=>by
   obtain⟨q,hq,e⟩:=List.mem_map.mp m;exact h (List.mem_map.mpr ⟨q,List.mem_cons.mpr (Or.inr hq),e⟩)
  rw[Lr λe=>h (List.mem_map.mpr ⟨p,List.mem_cons.mpr (Or.inl rfl),e⟩),Ls h']
theorem Lu:∀ {kvs:List (κ×V)} {k:κ},(kvs.map (·.1)).Nodup->k∈kvs.map (·.1)->(gF kvs k).length+1=kvs.length
 | [],_,_,m=>by simp at m
 | p::r,k,h,m=>by
  have h:(p.1::r.map (·.1)).Nodup:=h;have m:k=p.1\/k∈r.map (·.1):=List.mem_cons.mp m;obtain⟨h1,h2⟩:=List.nodup_cons.mp h;by_cases e:p.1=k
  ·subst e;rw[Xz rfl,Ls h1]
   all_goals rfl
  ·have m':k∈r.map (·.1):=m.resolve_left λz=>e z.symm;have q:=Lu h2 m';rw[Lr e,List.length_cons,List.length_cons];lia
end
end _L
set_option maxHeartbeats 4000000
namespace _L
open PySem PySem.Spec PyProof.Rows
section
variable{prog:Program}{w:World}{A:Around}{R:Result->Shared->Prop}{s:Shared}
theorem XA{elt target iter:Expr}{ifs:List Expr}{scope:Scope}{pos:Pos}{it acc:Value}{env:Env}(I:Nat->Shared->Prop)
  (turn:∀n s,I n s->wpAny (model prog w) A (pyNext it) (λr bE=>match r with
   | none=>R (.ok .next) bE
   | some v=>wpAny (model prog w) A (letOwnedTupleGo target it v) (λ_ Lv=>wpAny (model prog w) A (assign target env v) (λ_ iu =>
     wpAny (model prog w) A (forIn ifs true λc r=>if r=true then do let ok ← isTrue c env (eval c env);pure (ForInStep.yield ok) else pure (ForInStep.yield r)) (λok iW =>
      if ok=true then wpAny (model prog w) A (eval elt env) (λx uU =>
       wpAny (model prog w) A (call (.builtin "list.append") [acc,x]) (λ_ Lw=>∃m,m<n/\I m Lw) (λ_ _=>False) uU) (λ_ _=>False) iW
      else ∃m,m<n/\I m iW) (λ_ _=>False) iu) (λ_ _=>False) Lv) (λ_ _=>False) bE) (λ_ _=>False) s)
  (n:Nat) (h:I n s):codeAny (model prog w) A (.compLoop (.ListComp elt [⟨target,iter,ifs,0⟩] scope pos) 0 it acc env) R s:=by
 refine codeAny_loop rfl I (λn s hI=>?_) n h
 show wpAny _ A ((compTurn (.ListComp elt [⟨target,iter,ifs,0⟩] scope pos) 0 it acc env).onRaise (λx=>do noteFrame x env;theTreesLotGoes x)) _ _ s
 refine wpAny_noted ?_;rw[compTurn_list];refine wpAny_bind (wpAny_standAt (wpAny_bind (wpAny_mono (turn n s hI) (λr bE jX=>?_) λ_ _ h'=>h'.elim)));cases r with
 | none=>exact wpAny_pure jX
 | some v =>
  refine wpAny_bind (wpAny_mono jX (λ_ Lv XC=>?_) λ_ _ h'=>h'.elim);refine wpAny_bind (wpAny_mono XC (λ_ iu nC=>wpAny_bind (wpAny_mono nC (λok iW uO=>?_) λ_ _ h'=>h'.elim)) λ_ _ h'=>h'.elim);cases ok with
  | false=>exact wpAny_pure ⟨rfl,uO⟩
  | true =>
   exact wpAny_bind (wpAny_bind (wpAny_mono uO (λx uU XD=>wpAny_bind (wpAny_mono XD (λ_ Lw XE=>wpAny_pure (wpAny_pure ⟨rfl,XE⟩)) λ_ _ h'=>h'.elim)) λ_ _ h'=>h'.elim))
end
noncomputable def fL(X:Cx)(scope:Scope)(cl:List (Str×Addr))(N:List Str)(C:Addr)(s:Shared)(H:Hp)(fp:List Addr):Cx where
 prog:=X.prog
 w:=X.w
 K:=X.K
 mg:=X.mg
 base:=X.base
 A:=X.A
 N:=N
 bB:=s
 cT:=H
 env:=compEnvC scope cl C X.env
 outer:=X.stack
 stack:=X.stack
 ex:=fp
 fn:=λ_=>false
 calm:=X.calm
 pn:=[]
 xe:=λ_ _=>False
structure cL(X:Cx)(scope:Scope)(cl:List (Str×Addr))(N:List Str)(nt:Nat)(fv:List Nat):Prop where
 qV:closureFor scope X.env=pure cl
 kind:scope.kind = .function
 qW:∀y∈scope.names,y.2≠.cell
 names:∀y∈scope.names,y.2 = .local->scope.names.lookup y.1=some .local
 sub:∀p∈cl,X.env.cells.lookup p.1=some p.2
 has:∀y∈scope.names,y.2 = .free->∃c,cl.lookup y.1=some c
 free:fv.map (λj=>X.N[j]?)=(N.drop nt).map some
 fk:∀y∈N.drop nt,scope.names.lookup y=some .free/\X.env.scope.names.lookup y=some .cell
 le:nt<=N.length
 nd:N.Nodup
theorem uW{env:Env}:∀ {names:List (Str×NameKind)} {x:Str} {k:NameKind},
  (names.map λ(n,k)=>if (k == NameKind.free && env.scope.kind == .function && env.kindOf n == some .cell) then(n,NameKind.cell) else(n,k)).lookup x=some k->
  ∃k0,names.lookup x=some k0/\(k=k0\/(k0 = .free/\k = .cell))
 | [],_,_,h=>by simp at h
 | (n,k0)::r,x,k,h=>by
  have ih:=@uW env r x k;have h:List.lookup x ((if (k0 == NameKind.free && env.scope.kind == .function && env.kindOf n == some .cell)=true then(n,NameKind.cell) else(n,k0))::_)=_:=h
  cases hx:x == n with
  | true =>
   by_cases hc:(k0 == NameKind.free && env.scope.kind == .function && env.kindOf n == some .cell)=true
   ·rw[if_pos hc] at h;simp only[List.lookup_cons,hx,Option.some.injEq] at h;simp only[Bool.and_eq_true,beq_iff_eq] at hc;exact⟨k0,by simp[List.lookup_cons,hx],.inr ⟨hc.1.1,h.symm⟩⟩
   ·rw[if_neg hc] at h;simp only[List.lookup_cons,hx,Option.some.injEq] at h;exact⟨k0,by simp[List.lookup_cons,hx],.inl h.symm⟩
  | false =>
   have h':List.lookup x (r.map λ(n,k)=>if (k == NameKind.free && env.scope.kind == .function && env.kindOf n == some .cell) then(n,NameKind.cell) else(n,k))=some k:=by
    by_cases hc:(k0 == NameKind.free && env.scope.kind == .function && env.kindOf n == some .cell)=true
    ·rw[if_pos hc] at h;simpa only[List.lookup_cons,hx] using h
    ·rw[if_neg hc] at h;simpa only[List.lookup_cons,hx] using h
   obtain⟨q,e,z⟩:=ih h';exact⟨q,by simp only[List.lookup_cons,hx];exact e,z⟩
theorem uX{α:Type}{x:Str}{v:α}:∀ {l:List (Str×α)},l.lookup x=some v->(x,v)∈l:=λh=>PySem.mem_of_lookup h
section
variable{X:Cx}{pins:List (Addr×Obj)}{σ:St}{H:Hp}{s:Shared}{scope:Scope}{cl:List (Str×Addr)}{N:List Str}{nt:Nat}{fv:List Nat}{fp:List Addr}
theorem cL.cell(S:cL X scope cl N nt fv){x:Str}{c:Addr}(e:cl.lookup x=some c):X.env.cells.lookup x=some c:=S.sub (x,c) (uX e)
theorem cL.XF(S:cL X scope cl N nt fv){C:Addr}{x:Str}(h:(compEnvC scope cl C X.env).kindOf x=some .cell\/(compEnvC scope cl C X.env).kindOf x=some .free):scope.names.lookup x=some .free:=by
 have h:(scope.names.map λ(n,k)=>if (k == NameKind.free && X.env.scope.kind == .function && X.env.kindOf n == some .cell) then(n,NameKind.cell) else(n,k)).lookup x=some .cell\/
  (scope.names.map λ(n,k)=>if (k == NameKind.free && X.env.scope.kind == .function && X.env.kindOf n == some .cell) then(n,NameKind.cell) else(n,k)).lookup x=some .free:=h
 rcases h with h | h
 ·obtain⟨k0,e,z | ⟨z,_⟩⟩:=uW h
  ·exact absurd z.symm (S.qW _ (uX e))
  ·rw[z] at e;exact e
 ·obtain⟨k0,e,z | ⟨z,_⟩⟩:=uW h
  ·rw[← z] at e;exact e
  ·rw[z] at e;exact e
theorem cL.ok(S:cL X scope cl N nt fv)(I:Inv X pins σ H s)(hf:∀b∈fp,jQ X pins H b)(bU:∀b∈fp,b<s.heap.objs.size){C:Addr}(hC:s.heap.objs.size<=C) :
  (fL X scope cl N C s H fp).Ok where
 mod:=I.ok.mod
 kind:=S.kind
 glob:=I.ok.glob
 blt:=I.ok.blt
 above:=hC
 inj:=λx y c h1 h2=>I.ok.inj x y c (S.cell h1) (S.cell h2)
 has:=λx h=>by
  have e:=S.XF h;exact S.has _ (uX e) rfl
 mO:=λx c h _=>by cases (show false=true from h)
 hd:=I.ok.hd
 frames:=I.ok.frames
 oG:=.inl rfl
 oH:=λb hb=>⟨λz=>absurd (Nat.lt_of_lt_of_le (bU b hb) (by rw[z];exact hC)) (Nat.lt_irrefl _),λx c h=>(hf b hb).2.2.2.2.1 x c (S.cell h)⟩
 bs:=I.bs
 iR:=Nat.le_trans I.ok.iR I.sz
 mQ:=λb o e hb=>by
  rcases(hf b hb).2.2.2.1 with z | z
  ·exact I.ok.mQ b o e z
  ·exact absurd (Nat.lt_of_lt_of_le (Heap.lt_size e) (Nat.le_trans I.ok.iR z)) (Nat.lt_irrefl _)
 mR:=λb hb hm=>by
  rcases List.mem_cons.mp (I.BI b hm) with z | z
  ·exact(hf b hb).2.1 z
  ·exact(hf b hb).2.2.1 z
 fY:=I.stack
 iS:=I.BJ
noncomputable def iF(σ:St)(nt:Nat)(fv:List Nat):St:=List.replicate nt none++fv.map λj=>(σ[j]?).getD none
theorem cL.inv(S:cL X scope cl N nt fv)(I:Inv X pins σ H s)(hf:∀b∈fp,jQ X pins H b)(bU:∀b∈fp,b<s.heap.objs.size){h1:Heap}{tk:Nat}{D C:Addr}
  (hD:s.heap.objs.size<=D) (hC:s.heap.objs.size<=C) (uY:D≠C) (old:∀b o,s.heap.get? b=some o->h1.get? b=some o) (oW:h1.get? D=some { cls:=.type "list",data:=.seq #[] }) (uS:h1.Ns C λ_=>none) :
  Inv (fL X scope cl N C s H fp) [] (iF σ nt fv) (upd H D (.lst [])) { s with heap:=h1,toks:=tk }:=by
 have I1:Inv X pins σ (upd H D (.lst [])) { s with heap:=h1,toks:=tk }:=I.laid old hD ⟨Nat.zero_le _,[],0,.nil,oW⟩;have hlen:fv.length=(N.drop nt).length:=by simpa using congrArg List.length S.free
 refine⟨S.ok I hf bU hC,rfl,I.bare,Un.laid old hD (I.aG.fresh hD),⟨_,uS,λi x v e1 e2 e3=>?_⟩,λx c e=>?_,?_,λx c e=>?_,λp hp=>absurd (show p∈([]:List (Addr×Obj)) from hp) (by simp),I1.aG,?_⟩
 ·unfold iF at e2;have hi:nt<=i:=by
   by_cases h:nt<=i
   ·exact h
   ·rw[List.getElem?_append_left (by simp;lia),List.getElem?_replicate] at e2
    split at e2 <;> cases e2
  rw[List.getElem?_append_right (by simpa using hi)] at e2
  simp only[List.length_replicate,List.getElem?_map] at e2;cases hj:fv[i - nt]? with
  | none=>rw[hj] at e2;simp at e2
  | some j =>
   rw[hj] at e2;simp only[Option.map_some,Option.some.injEq] at e2;have hN:X.N[j]? = some x:=by
    have q:=congrArg (λl=>l[i - nt]?) S.free;simp only[List.getElem?_map,hj,Option.map_some,List.getElem?_drop] at q;rw[show nt+(i - nt)=i by lia] at q
    have Lx:N[i]? = some x:=e1;rw[Lx] at q;exact(Option.some.inj q)
   have XG:σ[j]? = some (some v):=by
    cases z:σ[j]? with
    | none=>rw[z] at e2;simp at e2
    | some y=>rw[z] at e2;simp at e2;rw[e2]
   have XH:x∈N.drop nt:=by
    refine List.mem_of_getElem? (i:=i - nt) ?_;rw[List.getElem?_drop,show nt+(i - nt)=i by lia];exact e1
   obtain⟨f1,f2⟩:=S.fk x XH;obtain⟨m,hn,hl⟩:=I1.loc;obtain⟨u,ru,lk⟩:=hl j x v hN XG (.inr (.inl f2));refine⟨u,ru,?_⟩;rcases lk with⟨k,_⟩ | ⟨_,c,ec,hc⟩
   ·have k:X.env.scope.names.lookup x=some .local:=k;rw[f2] at k;cases k
   ·obtain⟨c',e'⟩:=S.has _ (uX f1) rfl;have:=S.cell e';rw[ec] at this;cases this;refine .inr ⟨?_,c,e',hc⟩;rcases e3 with z | z | z
    ·obtain⟨k0,ek,q | ⟨_,q⟩⟩:=uW (show (scope.names.map λ(n,k)=>if (k == NameKind.free && X.env.scope.kind == .function && X.env.kindOf n == some .cell) then(n,NameKind.cell) else(n,k)).lookup x=some .local from z)
     ·rw[f1] at ek;cases ek;cases q
     ·cases q
    ·exact .inl z
    ·exact .inr z
 ·obtain⟨v,z⟩:=I1.cell x c (S.cell e);exact⟨v,z⟩
 ·show upd H D (.lst []) C=none;rw[aC (Ne.symm uY)];exact I.aG.fresh hC
 ·exact I1.gz x c (S.cell e)
 ·unfold iF
  show _=N.length;have:=S.le;simp only[List.length_append,List.length_replicate,List.length_map,List.length_drop] at hlen ⊢;lia
end
noncomputable def oX(X:Cx)(ifs:List Expr)(t:TT):Prop :=
 ∀(pins:List (Addr×Obj)) (s:Shared) (σ:St) (H:Hp) (Q:Bool->Hp->Prop),Inv X pins σ H s->t σ H Q->
  wpAny (model X.prog X.w) X.A (forIn ifs true λc r=>if r=true then do let ok ← isTrue c X.env (eval c X.env);pure (ForInStep.yield ok) else pure (ForInStep.yield r)) (TP X pins σ Q) X.xe s
noncomputable def XI:TT:=λ_ H Q=>Q true H
theorem gG{X:Cx}:oX X [] XI:=λpins s σ H Q I h=>wpAny_tests_nil ⟨H,I,h⟩
theorem uZ{X:Cx}{c:Expr}{t:TT}(hc:PT X c t):oX X [c] t:=λpins s σ H Q I h=>wpAny_tests_one (hc pins s σ H Q I h)
noncomputable def iX(wi:TI)(g:TG)(tt:TT)(te:TE)(nt:Nat)(fv:List Nat):TE:=λσ H Q=>wi σ H λJ H1=>∀D,H1 D=none->∃W:Nat->Nat->List V->St->Hp->Prop,
 (∃m,W 0 m [] (iF σ nt fv) (upd H1 D (.lst [])))/\∀i m ys au H2,W i m ys au H2->H2 D=some (.lst ys)/\ys.length<sizeLine/\
  ((J.stop i H2/\Q (.ref D) H2)\/(J.go i H2/\∀x H3,J.kG i H2 x H3->g x au H3 λbJ H4=>tt bJ H4 λb H5=>if b=true then te bJ H5 λv H6=>H6 D=some (.lst ys)/\∃m',m' < m/\W (i+1) m' (ys++[v]) bJ (upd H6 D (.lst (ys++[v])))
   else ∃m',m' < m/\W (i+1) m' ys bJ H5))
section
variable{X:Cx}{tg iter elt:Expr}{ifs:List Expr}{scope:Scope}{cl:List (Str×Addr)}{N:List Str}{nt:Nat}{fv:List Nat}{pos:Pos}{wi:TI}{g:TG}{tt:TT}{te:TE}
theorem Ly{pins:List (Addr×Obj)}{σ:St}{s2:Shared}{H2:Hp}{it:Addr}{fp:List Addr}{tn:Nat->Heap->Prop}{J:It}{Q:VK}{RR:Value->Addr->Result->Shared->Prop}{E:Value->Shared->Prop}
  (S:cL X scope cl N nt fv) (hc:X.calm=true)
  (hg:∀C s H fp,PG (fL X scope cl N C s H fp) tg g) (ht:∀C s H fp,oX (fL X scope cl N C s H fp) ifs tt) (he:∀C s H fp,PE (fL X scope cl N C s H fp) elt te)
  (I2:Inv X pins σ H2 s2) (T:Turn X.prog X.w X.K tg J fp it tn) (gX:tn 0 s2.heap) (f2:∀b∈fp,jQ X pins H2 b)
  (hq:∀D,H2 D=none->∃W:Nat->Nat->List V->St->Hp->Prop,
   (∃m,W 0 m [] (iF σ nt fv) (upd H2 D (.lst [])))/\∀i m ys au H2,W i m ys au H2->H2 D=some (.lst ys)/\ys.length<sizeLine/\
    ((J.stop i H2/\Q (.ref D) H2)\/(J.go i H2/\∀x H3,J.kG i H2 x H3->g x au H3 λbJ H4=>tt bJ H4 λb H5=>if b=true then te bJ H5 λv H6=>H6 D=some (.lst ys)/\∃m',m' < m/\W (i+1) m' (ys++[v]) bJ (upd H6 D (.lst (ys++[v])))
     else ∃m',m' < m/\W (i+1) m' ys bJ H5)))
  (XJ:∀(D C:Addr) (s':Shared) (H':Hp) (m':Str->Option Value),Inv X pins σ H' s'->s'.heap.Ns C m'->s2.heap.objs.size<=C->H' C=none->Q (.ref D) H'->RR (.ref D) C (.ok .next) s') :
  wpAny (model X.prog X.w) X.A (newList []) (λacc iW=>wpAny (model X.prog X.w) X.A (newFunctionEnv scope X.env.globals cl [] X.env.qual none .none (some X.env)) (λLz uU =>
   codeAny (model X.prog X.w) X.A (.compStart (.ListComp elt [⟨tg,iter,ifs,0⟩] scope pos) 0 (.ref it) acc { Lz with scope:=relabel scope X.env }) (RR acc Lz.locals) uU) E iW) E s2:=by
 refine wpAny_newObj_type (wpAny_newFunctionEnv S.qW (by intro y hy;simp at hy) (λjX CI u6=>?_) S.kind)
 dsimp only at CI u6 ⊢;generalize CJ:s2.heap.push { cls:=.type "list",dict:=none,data:=.seq ([]:List Value).toArray }=HH at CI u6 ⊢;have hC:HH.objs.size=s2.heap.objs.size+1:=by rw[← CJ,Heap.size_push]
 have uY:s2.heap.objs.size≠HH.objs.size:=by rw[hC];exact Nat.ne_of_lt (Nat.lt_succ_self _)
 have CK:s2.heap.objs.size<=HH.objs.size:=by rw[hC];exact Nat.le_succ _
 have old:∀b o,s2.heap.get? b=some o->jX.get? b=some o:=λb o e=>by
  have hb:b<s2.heap.objs.size:=Heap.lt_size e;exact u6.extBut b o (by rw[hC];exact Nat.ne_of_lt (Nat.lt_succ_of_lt hb)) (Heap.get?_push_of_some _ (CJ▸Heap.get?_push_of_some _ e))
 have oW:jX.get? s2.heap.objs.size=some { cls:=.type "list",data:=.seq #[] }:=u6.extBut _ _ uY (Heap.get?_push_of_some _ (CJ▸Heap.get?_push_size _ rfl));have bU:∀b∈fp,b<s2.heap.objs.size:=λb hb=>by
  obtain⟨o,e,_⟩:=T.obj 0 _ gX b hb;exact Heap.lt_size e
 have hD:H2 s2.heap.objs.size=none:=I2.aG.fresh (Nat.le_refl _);obtain⟨W,⟨m0,w0⟩,turn⟩:=hq _ hD;have qF:tn 0 jX:=T.keep _ _ _ gX λb _ o e=>old b o e;have I3:=S.inv I2 f2 bU (h1:=jX) (tk:=s2.toks+([]:List (Str×Value)).length) (D:=s2.heap.objs.size) (C:=HH.objs.size) (Nat.le_refl _) CK uY old oW (by simpa using CI)
 -- what stays true of the iterator's objects
 have nD:∀b∈fp,b≠s2.heap.objs.size:=λb hb=>Nat.ne_of_lt (bU b hb);have mV:∀ {H':Hp},(∀b∈fp,H' b=none)->∀b∈fp,jQ (fL X scope cl N HH.objs.size s2 H2 fp) [] H' b:=λ{H'} hn b hb=>by
  have ok:=S.ok I2 f2 bU CK;refine⟨hn b hb,(ok.oH b hb).1,ok.mR b hb,.inl hb,(ok.oH b hb).2,λp hp=>absurd (show p∈([]:List (Addr×Obj)) from hp) (by simp)⟩
 have loop:∀iW:Shared,iW = { s2 with heap:=jX,toks:=s2.toks+([]:List (Str×Value)).length }->
   codeAny (model X.prog X.w) X.A (.compLoop (.ListComp elt [⟨tg,iter,ifs,0⟩] scope pos) 0 (.ref it) (.ref s2.heap.objs.size) (compEnvC scope cl HH.objs.size X.env)) (RR (.ref s2.heap.objs.size) HH.objs.size) iW:=by
  rintro iW rfl;refine XA (λn s'=>∃i ys aO H',Inv (fL X scope cl N HH.objs.size s2 H2 fp) [] aO H' s'/\tn i s'.heap/\(∀b∈fp,H' b=none)/\W i n ys aO H') ?_ m0
   ⟨0,[],_,_,I3,qF,λb hb=>by rw[aC (nD b hb)];exact(f2 b hb).1,w0⟩
  rintro n s3 ⟨i,ys,gj,H3,J3,t3,mW,w3⟩;obtain⟨eD,XM,XN⟩:=turn i n ys gj H3 w3;rcases XN with⟨stop,qn⟩ | ⟨go,step⟩
  ·refine aI (T.done (fL X scope cl N HH.objs.size s2 H2 fp) rfl rfl rfl hc i [] s3 gj H3 (λ_ _=>False) J3 (mV mW) t3 stop) λr s4 ⟨hr,I4⟩=>?_;subst hr;have I5:Inv X pins σ H3 s4:=I2.BS (ch:=fp) I4.os I4.base I4.aG I4.bare λb hb=>⟨(f2 b hb).2.2.2.1,(f2 b hb).2.1,(f2 b hb).2.2.2.2.1,(f2 b hb).2.2.2.2.2⟩;obtain⟨m,hn,_⟩:=I4.loc;exact XJ _ _ s4 H3 m I5 hn CK I4.free qn
  ·refine aI (T.item (fL X scope cl N HH.objs.size s2 H2 fp) rfl rfl rfl hc i [] s3 gj H3 (λ_ _=>False) J3 (mV mW) t3 go) λr s4 ⟨u,hr,h4⟩=>?_;subst hr;refine aI h4 λ_ s5 ⟨x,H5,I5,r5,zz⟩=>?_;obtain⟨y5,mX,B7⟩:=zz;have B8:=I5.pinned (mV B7) (T.obj _ _ mX);refine aI (hg _ _ _ _ _ s5 gj H5 x u _ B8 r5 (step x H5 y5)) λ_ s6 ⟨lE,H6,I6,q6⟩=>?_;have LA:∀ {gY:St} {H7:Hp} {s7:Shared},Inv (fL X scope cl N HH.objs.size s2 H2 fp) ([]++qD fp s5.heap) gY H7 s7->tn (i+1) s7.heap/\∀b∈fp,H7 b=none:=λ{gY H7 s7} I7=>by
    refine⟨T.keep _ _ _ mX λb hb o e=>(I7.pin (b,o) (List.mem_append_right _ (List.mem_append_right _ (uw hb e)))).1,λb hb=>?_⟩;obtain⟨o,e,d⟩:=T.obj _ _ mX b hb;exact(I7.pin (b,o) (List.mem_append_right _ (List.mem_append_right _ (uw hb e)))).2.1
   refine aI (ht _ _ _ _ _ s6 lE H6 _ I6 q6) λb s7 ⟨H7,I7,q7⟩=>?_;cases b with
   | false =>
    obtain⟨m',hm,w7⟩:=q7;obtain⟨t7,n7⟩:=LA I7;exact⟨m',hm,i+1,ys,lE,H7,I7.qE,t7,n7,w7⟩
   | true =>
    refine aI (he _ _ _ _ _ s7 lE H7 _ I7 q7) λu8 s8 ⟨v8,H8,I8,r8,zz⟩=>?_;obtain⟨XO,m',hm,w8⟩:=zz;refine aI (jW (X:=fL X scope cl N HH.objs.size s2 H2 fp) _ s8 lE H8 (.ref s2.heap.objs.size) [v8] (.ref s2.heap.objs.size) [u8] (λ_ H9=>∃m',m' < n/\W (i+1) m' (ys++[v8]) lE H9) I8 rfl (.cons r8 .nil)
     ⟨s2.heap.objs.size,ys,v8,rfl,rfl,XO,XM,m',hm,w8⟩) λ_ s9 ⟨_,H9,I9,_,m9,XQ,w9⟩=>?_
    obtain⟨t9,n9⟩:=LA I9;exact⟨m9,XQ,i+1,ys++[v8],lE,H9,I9.qE,t9,n9,w9⟩
 exact codeAny_compStart_list (loop _ rfl) (T.self _ 0 _ _ _ qF (loop _ rfl))
theorem g7(S:cL X scope cl N nt fv)(hc:X.calm=true)(hi:PI X tg iter wi)
  (hg:∀C s H fp,PG (fL X scope cl N C s H fp) tg g) (ht:∀C s H fp,oX (fL X scope cl N C s H fp) ifs tt) (he:∀C s H fp,PE (fL X scope cl N C s H fp) elt te)
  (hs:∀x,foldedSetIterable iter X.env x=pure x:=by intro _;rfl):PE X (.ListComp elt [⟨tg,iter,ifs,0⟩] scope pos) (iX wi g tt te nt fv):=by
 intro pins s σ H Q I h;rw[eval_ListComp];refine wpAny_comprehension_free (use:=none) rfl hs S.qV S.kind S.names (aI (hi pins s σ H _ I h) λxv s1 h1=>aI h1 λuv s2 h2=>?_);obtain⟨it,fp,tn,J,H2,rfl,I2,T,gX,f2,hq⟩:=h2;refine Ly (RR:=λacc C=>compPost (model X.prog X.w) X.A X.xe none (EP X pins σ Q) acc C) S hc hg ht he I2 T gX f2 hq λD C s' H' m' I' hn hC fC q=>?_;refine⟨m',hn,λh' jY=>⟨.ref D,H',?_,rfl,q⟩⟩;have jB:=I2.kH hC fC;exact I'.turned (t':=s'.toks) (it:=C) (λb o hb e=>jY.extBut b o hb e) fC jB.2.1 jB.2.2.2.1 jB.2.2.2.2.1 jB.2.2.2.2.2
theorem qX{i:Nat}{y:Str}{py LB:Pos}(hN:X.N.Nodup)(jZ:X.N[i]? = some y)(hy:Loc X.env.scope y)(S:cL X scope cl N nt fv)(hc:X.calm=true)(hi:PI X tg iter wi)
  (hg:∀C s H fp,PG (fL X scope cl N C s H fp) tg g) (ht:∀C s H fp,oX (fL X scope cl N C s H fp) ifs tt) (he:∀C s H fp,PE (fL X scope cl N C s H fp) elt te)
  (CM:swapsWith (.ListComp elt [⟨tg,iter,ifs,0⟩] scope pos) (some (.Name y py)) LB.line X.env=pure true:=by rfl)
  (hs:∀x,foldedSetIterable iter X.env x=pure x:=by intro _;rfl) (hf:X.fn y=true\/X.env.scope.names.lookup y=some .local:=by first | exact .inl rfl | exact .inr rfl | assumption) :
  PS X (.Assign [.Name y py] (.ListComp elt [⟨tg,iter,ifs,0⟩] scope pos) LB) (ur (iX wi g tt te nt fv) (lD i)):=by
 intro pins s σ H D' I h;rw[exec_Assign_Name_used _ _ _ _ CM];refine wpAny_bind (wpAny_standAt (wpAny_bind ?_))
 show wpAny _ _ (do let _ ← comprehension (.ListComp elt [⟨tg,iter,ifs,0⟩] scope pos) scope X.env _ (newList []) false (eval iter X.env) (some (assign (.Name y py) X.env))) _ _ s
 refine wpAny_bind (wpAny_mono (wpAny_comprehension_free (use:=some (assign (.Name y py) X.env)) (Q:=λ_ s'=>SP X pins D' .next s') rfl hs S.qV S.kind S.names
  (aI (hi pins s σ H _ I h) λxv s1 h1=>aI h1 λuv s2 h2=>?_)) (λ_ s' hq=>wpAny_pure (wpAny_pure hq)) λ_ _ e=>e)
 obtain⟨it,fp,tn,J,H2,rfl,I2,T,gX,f2,hq⟩:=h2;refine Ly (RR:=λacc C=>compPost (model X.prog X.w) X.A X.xe (some (assign (.Name y py) X.env)) (λ_ s'=>SP X pins D' .next s') acc C) (Q:=λx H1=>lD i x σ H1 D'.nx) S hc hg ht he I2 T gX f2 hq λD C s' H' m' I' hn hC fC q=>?_;have jB:=I2.kH hC fC
 show wpAny _ _ (assign (.Name y py) X.env (.ref D)) _ _ _;refine wpAny_assign_Name (JZ I' hN jZ hy (v:=.ref D) rfl (λqJ XR ⟨a,XS,ha⟩=>?_) hf);have XT:C≠a:=by
  rcases ha with z | z
  ·rw[z];exact jB.2.1
  ·exact λe=>jB.2.2.2.2.1 y a z e.symm
 refine⟨m',hn.sameBut XS XT,λh' jY=>⟨_,H',?_,q⟩⟩;exact XR.turned (t':=qJ.toks) (it:=C) (λb o hb e=>jY.extBut b o hb e) fC jB.2.1 jB.2.2.2.1 jB.2.2.2.2.1 jB.2.2.2.2.2
end
noncomputable def qY(K:PySem.W.Frag)(a:Addr):It :=
 ⟨λi H=>∃xs x,aE K H a xs/\xs[i]? = some x,λi H v H'=>∃T x,H T=none/\v = .ref T/\(∀xs,aE K H a xs->xs[i]? = some x)/\H' = upd H T (.tup [.int i,x]),λi H=>∃xs,aE K H a xs/\xs.length<=i⟩
theorem XU{P:Program}{w:World}{K:PySem.W.Frag}{elts:List Expr}{x1}{tp:Pos}(a e it:Addr)(CN:e≠it) :
  Turn P w K (.Tuple elts x1 tp) (qY K a) [e,it] e (λi h=>(∃old,IsEnum h e it (i:Nat) old)/\h.IsListIter it a i) where
 mem:=by simp
 obj:=λi h st b hb=>by
  obtain⟨⟨old,he⟩,o,e1,c,d⟩:=st;rcases List.mem_cons.mp hb with z | hb
  ·rw[z];exact⟨_,he,λv z=>by
    have z':Data.fields _=Data.cell v:=z;cases z'⟩
  ·have e2:b=it:=by simpa using hb
   rw[e2];exact⟨o,e1,λv z=>by rw[d] at z;cases z⟩
 keep:=λi h h' st k=>by
  obtain⟨⟨old,he⟩,hi⟩:=st;exact⟨⟨old,k e (by simp) _ he⟩,hi.at λo q=>k it (by simp) o q⟩
 item:=by
  intro X hP hw hK hc i pins s σ H E I hf st hg;subst hP hw hK;obtain⟨xs,x,hq,hx⟩:=hg;obtain⟨aA,rv,p,hz⟩:=I.list hq;obtain⟨u,hu,ru⟩:=rv.get hx;obtain⟨⟨old,he⟩,hit⟩:=st;obtain⟨f0,f1,f2,f3,f4,f5⟩:=hf e (by simp)
  obtain⟨g0,g1,g2,g3,g4,g5⟩:=hf it (by simp)
  have LC:e<s.heap.objs.size:=Heap.lt_size he;have XW:it<s.heap.objs.size:=by obtain⟨_,z,_⟩:=hit;exact Heap.lt_size z
  refine wpAny_pyNext_enum_item he hit p.isList (x:=u) (by simpa using hu) CN λh' ho LD hT hsz hk=>?_
  refine⟨_,rfl,?_⟩;refine wpAny_letOwnedTupleGo_enum ho λoY LF jY=>?_
  replace jY:Heap.SameBut e h' oY:=jY
  -- two records have turned,a tuple is new
  have I1:Inv X pins σ H { s with heap:=(s.heap),toks:=s.toks+1 }:=I.tok _;have kk:∀b o,b∉[e,it]->s.heap.get? b=some o->oY.get? b=some o:=λb o hb q=>by
   have h1:b≠e:=λz=>hb (by simp[z])
   have h2:b≠it:=λz=>hb (by simp[z])
   exact jY.extBut b o h1 (hk b o h1 h2 q)
  have qw:∀b v,H b=some v->b∉[e,it]:=λb v q hb=>by
   rcases List.mem_cons.mp hb with z | hb
   ·rw[z,f0] at q;cases q
   ·have e2:b=it:=by simpa using hb
    rw[e2,g0] at q;cases q
  have LG:H s.heap.objs.size=none:=I.aG.fresh (Nat.le_refl _);have qZ:∀b v,H b=some v->b≠s.heap.objs.size:=λb v q z=>by rw[z,LG] at q;cases q
  have XX:oY.get? s.heap.objs.size=some { cls:=.type "tuple",data:=.seq #[.int (i:Nat) s.toks,u] }:=jY.extBut _ _ (Nat.ne_of_gt LC) hT;have agL:∃o,oY.get? e=some o:=⟨_,LF⟩;have agM:∃o,oY.get? it=some o:=by
   obtain⟨o,q,_⟩:=LD;exact⟨o,jY.extBut _ _ (Ne.symm CN) q⟩
  have I2:Inv X pins σ (upd H s.heap.objs.size (.tup [.int i,x])) { s with heap:=oY,toks:=s.toks+1 }:=by
   refine I.step (g':=s.gens) (d':=s.drawn) (ch:=[e,it]) (λb hb=>?_) (λb o _ _ hc q _=>kk b o hc q) (λb o _ _ hc q _=>⟨o.slots,kk b o hc q⟩) (λb o _ q n=>?_) (λb o hc q=>⟨o,kk b o hc q⟩)
    (λb ys q=>by rw[aC (qZ b _ q)];exact q) (λb o v q=>by rw[aC (qZ b _ q)];exact q) (λb ps q=>⟨#[],by rw[aC (qZ b _ q),q];simp⟩) (λm hm=>?_) (λb v q=>?_) I.bare
   ·rcases List.mem_cons.mp hb with z | hb
    ·rw[z];exact⟨f3,f1,f4,f5⟩
    ·have e2:b=it:=by simpa using hb
     rw[e2];exact⟨g3,g1,g4,g5⟩
   ·rw[aC (Nat.ne_of_lt (Heap.lt_size q))];exact n
   ·obtain⟨o,es,ep,q,r⟩:=hm;exact⟨o,es,ep,kk _ o (by
     intro hb;rcases List.mem_cons.mp hb with z | hb
     ·exact f1 z.symm
     ·exact g1 (by simpa using hb:X.env.locals=it).symm) q,r⟩
   ·by_cases hb:b=s.heap.objs.size
    ·subst hb;rw[aD] at q;cases q;refine⟨by show 2<=sizeLine;decide,[.int (i:Nat) s.toks,u],.cons ⟨_,rfl⟩ (.cons ru .nil),_,XX,rfl,_,rfl⟩
    ·rw[aC hb] at q;refine(I.aG b v q).gR (λc o uo z=>kk c o ?_ z) (λc z=>by rw[aC (qZ c _ z)];exact z) (λc ys z=>by rw[aC (qZ c _ z)];exact z)
     rcases uo with z2 | z2
     ·rw[z2];exact qw b v q
     ·exact qw c _ z2
  refine⟨.ref s.heap.objs.size,_,I2,rfl,⟨_,x,LG,rfl,λys hy=>by rw[I.Ka hy hq];exact hx,rfl⟩,⟨⟨u,?_⟩,?_⟩,λb hb=>?_⟩
  ·have z:((i+1:Nat):Int)=(i:Int)+1:=by lia
   rw[z];exact LF
  ·exact LD.at λo q=>jY.extBut _ _ (Ne.symm CN) q
  ·have bU:b<s.heap.objs.size:=by
    rcases List.mem_cons.mp hb with z | hb
    ·rw[z];exact LC
    ·rw[show b=it by simpa using hb];exact XW
   rw[aC (Nat.ne_of_lt bU)];exact(hf b hb).1
 done:=by
  intro X hP hw hK hc i pins s σ H E I hf st hg;subst hP hw hK;obtain⟨xs,hq,hx⟩:=hg;obtain⟨aA,rv,p,hz⟩:=I.list hq;obtain⟨⟨old,he⟩,hit⟩:=st;obtain⟨g0,g1,g2,g3,g4,g5⟩:=hf it (by simp)
  have hl:=rv.length;exact wpAny_pyNext_enum_end (I.ok.hd hc) he hit p.isList (by simp;lia) λh' eb=>⟨rfl,I.turned (t':=s.toks) (λb o hb e=>eb b o hb e) g0 g1 g3 g4 g5⟩
 self:=λ_ _ _ _ _ st h=>by
  obtain⟨⟨old,he⟩,_⟩:=st;exact wpAny_pyIter_enum he h
section
variable{X:Cx}
noncomputable def CO(K:PySem.W.Frag)(ta:TA):TI:=λσ H R=>ta σ H λvs H1=>∃a,vs = [.ref a]/\(∃xs,aE K H1 a xs)/\R (qY K a) H1
theorem q_{l:Expr}{ta:TA}{p pos tp:Pos}{elts:List Expr}{x1}(hg:Gl X "enumerate")(hm:X.mg "enumerate" = none)(hl:PA X [l] ta)(hs:starEach [l] X.env = [(false,eval l X.env)]:=by rfl) :
  PI X (.Tuple elts x1 tp) (.Call (.Name "enumerate" p) [l] [] pos) (CO X.K ta):=by
 intro pins s σ H R I h;refine Call_ (kF I hg hm boot_enumerate (PyProof.Rows.callWith_type1 (aI (hl pos pins s σ H _ I h) λus s1 ⟨vs,H1,I1,r1,q1⟩=>?_) hs rfl));obtain⟨a,e,⟨xs,hq⟩,q⟩:=q1;subst e;obtain⟨u,rfl,ru⟩:=vals1 r1;cases ru;obtain⟨aA,rv,p,hz⟩:=I1.list hq;refine call_enumerate_list p.isList λh' he hit hsz hk=>?_;have I2:Inv X pins σ H1 { s1 with heap:=h' }:=I1.kept (t':=s1.toks) hk;refine wpAny_pyIter_enum he ?_;have n1:H1 (s1.heap.objs.size+1)=none:=I1.aG.fresh (Nat.le_succ _);have n0:H1 s1.heap.objs.size=none:=I1.aG.fresh (Nat.le_refl _);refine⟨s1.heap.objs.size+1,[s1.heap.objs.size+1,s1.heap.objs.size],_,_,H1,rfl,I2,XU a _ _ (Nat.succ_ne_self _),⟨⟨_,he⟩,hit⟩,λb hb=>?_,q⟩;rcases List.mem_cons.mp hb with z | hb
 ·rw[z];exact I1.kH (Nat.le_succ _) n1
 ·rw[show b=s1.heap.objs.size by simpa using hb];exact I1.kH (Nat.le_refl _) n0
theorem XY{K:PySem.W.Frag}{a:Addr}{xs:List V}{g:TG}{tb:TS}{D:Ends}{σ:St}{H:Hp}(Pv:Nat->St->Hp->Prop)(h0:Pv 0 σ H)(hl:∀i σ H,i<=xs.length->Pv i σ H->aE K H a xs)
  (hs:∀i x σ H T,xs[i]? = some x->Pv i σ H->H T=none->g (.ref T) σ (upd H T (.tup [.int i,x])) λau H2=>tb { D with nx:=Pv (i+1),ct:=Pv (i+1),bk:=D.nx } au H2) (hd:∀σ H,Pv xs.length σ H->D.nx σ H) :
  ∃W:Nat->Nat->St->Hp->Prop,(∃m,W 0 m σ H)/\∀i m σ H,W i m σ H->
   ((qY K a).stop i H/\D.nx σ H)\/((qY K a).go i H/\∃N:St->Hp->Prop,(∀aO H',N aO H'->∃m',m' < m/\W (i+1) m' aO H')/\∀x H',(qY K a).kG i H x H'->g x σ H' λau H2=>tb { D with nx:=N,ct:=N,bk:=D.nx } au H2):=by
 refine⟨λi m σ H=>m=xs.length - i/\i<=xs.length/\Pv i σ H,⟨xs.length,by simp,Nat.zero_le _,h0⟩,?_⟩
 rintro i m σ H ⟨rfl,hi,p⟩;have q:=hl i σ H hi p;by_cases bU:i<xs.length
 ·refine .inr ⟨⟨xs,xs[i],q,by simp[bU]⟩,Pv (i+1),λaO H' p'=>⟨xs.length - (i+1),by lia,rfl,bU,p'⟩,λx H' y=>?_⟩
  obtain⟨T,z,hT,e,y,e2⟩:=y;subst e e2;exact hs i z σ H T (y xs q) p hT
 ·have e:i=xs.length:=by lia
  subst e;exact .inl ⟨⟨xs,q,Nat.le_refl _⟩,hd σ H p⟩
theorem CQ(hc:X.calm=true):gk X (.builtin "sum") (λxs H Q=>∃(p:Addr) (ns:List Int),xs = [.ref p]/\aE X.K H p (ns.map V.int)/\Q (.int ns.sum) H):=by
 intro pins s σ H xs us Q I r h;obtain⟨p,ns,rfl,hq,q⟩:=h;obtain⟨u,rfl,ru⟩:=vals1 r;cases ru;obtain⟨aA,rv,pl,hz⟩:=I.list hq;have hi:IntsAre aA ns:=intsAre_of rv;obtain⟨xs,hx⟩:=hi.allInts.items;have XZ:s.heap.IsList p (intItems xs):=hx▸pl.isList;refine sum_intListG (I.ok.hd hc) XZ λh' tk t' hk=>?_;have e1:ns=xs.toList.map (·.1):=by
  rw[← nums_intItems,← hx];exact(show numsOf aA.toArray.toList=ns from hi.numsOf).symm
 have e2:preSum (numAt xs) xs.size=ns.sum:=by
  rw[preSum_eq,List.take_of_length_le (by simp),e1]
 rw[e2];exact⟨.int ns.sum,H,I.kept hk,⟨t',rfl⟩,q⟩
theorem X0:gk X (.builtin "sorted") (λxs H Q=>∃(p:Addr) (ns:List Int),xs = [.ref p]/\aE X.K H p (ns.map V.int)/\ns.length<64/\
  ∀(l:Addr) (kK:List Int),H l=none->kK.Perm ns->kK.Pairwise (·<=·)->Q (.ref l) (upd H l (.lst (kK.map V.int)))):=by
 intro pins s σ H xs us Q I r h;obtain⟨p,ns,rfl,hq,X3,q⟩:=h;obtain⟨u,rfl,ru⟩:=vals1 r;cases ru;obtain⟨aA,rv,pl,hz⟩:=I.list hq;have hi:IntsAre aA ns:=intsAre_of rv;have hlen:=hi.length;refine sorted_ints pl.isList hi (by lia) λout kK a1 a2 a3=>?_
 obtain⟨e,he⟩:=sortedAll_at s.heap aA out;have hn:H (s.heap.objs.size+1)=none:=I.aG.fresh (Nat.le_succ _);refine⟨.ref (s.heap.objs.size+1),upd H (s.heap.objs.size+1) (.lst (kK.map V.int)),I.laid (t':=s.toks) (λb o q=>sortedAll_old q) (Nat.le_succ _) ?_,rfl,q _ kK hn a2 a3⟩;refine⟨?_,out.toList,e,CF a1,by simpa using he⟩
 rw[List.length_map,a2.length_eq];exact Nat.le_trans (Nat.le_of_lt X3) (by decide)
theorem rm:gk X (.builtin "isinstance") (λxs H Q=>∃x T t b,xs = [x,.ty T]/\fH X.K H x t/\PySem.W.kitOne X.K t (.type T)=some b/\Q (.bl b) H):=by
 intro pins s σ H xs us Q I r h;obtain⟨x,T,t,b,rfl,ty,e,q⟩:=h;obtain⟨u,v,rfl,ru,rv⟩:=vals2 r;cases (show v=Value.type T from rv);exact Wq I ru ty e λtk=>⟨.bl b,H,I.tok _,rfl,q⟩
theorem LH{A:Around}{s:Shared}{x:V}{u v:Value}(ru:RelV x u)(rv:RelV x v)(hx:∀b,x≠.jt b)(hb:∀b,x≠.fG b):SeqAt.EqAt A s u v true:=by
 cases x with
 | aJ=>cases ru;cases rv;exact SeqAt.EqAt.same _
 | bl b=>cases ru;cases rv;exact SeqAt.EqAt.same _
 | ref a=>cases ru;cases rv;exact SeqAt.EqAt.same _
 | ty n=>cases ru;cases rv;exact SeqAt.EqAt.same _
 | jt b=>exact absurd rfl (hx b)
 | int i =>
  have:=Cp (A:=A) (s:=s) ru rv rfl rfl;rwa [show iC (V.int i) (V.int i)=true by simp[iC]] at this
 | str z =>
  have:=Cp (A:=A) (s:=s) ru rv rfl rfl;rwa [show iC (V.str z) (V.str z)=true by simp[iC]] at this
 | fG z=>exact absurd rfl (hb z)
theorem X4(hu:X.A.units<cLine):cG X (compareOp .NotEq) (λx y H Q=>∃(a b:Addr) (xs:List V),x = .ref a/\y = .ref b/\aE X.K H a xs/\aE X.K H b xs/\(∀v∈xs,(∀b,v≠.jt b)/\∀b,v≠.fG b)/\Q (.bl false) H):=by
 rintro pins s σ H x y v u Q I rx ry ⟨a,b,xs,rfl,rfl,ha,hb,hv,q⟩;cases rx;cases ry;obtain⟨aA,r1,p1,z1⟩:=I.list ha;obtain⟨fD,r2,p2,z2⟩:=I.list hb;have l1:=r1.length;have l2:=r2.length;have e0:(!(List.range aA.toArray.size).all λ_=>true)=false:=by simp
 have fin:=SeqAt.RcNeAt.lists (A:=X.A) (s:=s) (e:=λ_=>true) p1.isList p2.isList (by simp;lia) hu (λj h1 h2=>?_) X.prog X.w X.xe (EP X pins σ Q) (by rw[e0];exact⟨.bl false,H,I,rfl,q⟩)
 ·exact fin
 ·have g1:aA[j]? = some aA.toArray[j]:=by
   rw[List.getElem_toArray,List.getElem?_eq_getElem (by simpa using h1)]
  have g2:fD[j]? = some fD.toArray[j]:=by
   rw[List.getElem_toArray,List.getElem?_eq_getElem (by simpa using h2)]
  have hj:j<xs.length:=by rw[l1];simpa using h1
  obtain⟨u1,q1,w1⟩:=r1.get (List.getElem?_eq_getElem hj);obtain⟨u2,q2,w2⟩:=r2.get (List.getElem?_eq_getElem hj);rw[g1] at q1;cases q1;rw[g2] at q2;cases q2;exact LH w1 w2 (hv _ (List.getElem_mem hj)).1 (hv _ (List.getElem_mem hj)).2
end
noncomputable def AllP{α:Type}(P:α->Prop):List α->Prop
 | []=>True
 | a::r=>P a/\AllP P r
theorem AllP.mem{α:Type}{P:α->Prop}:∀ {l:List α},AllP P l->∀a∈l,P a
 | _::_,h,a,hm=>by
  rcases List.mem_cons.mp hm with rfl | hm
  ·exact h.1
  ·exact AllP.mem h.2 a hm
theorem cL.of{X:Cx}{scope:Scope}{cl:List (Str×Addr)}{N:List Str}{nt:Nat}{fv:List Nat}(qV:closureFor scope X.env=pure cl)(kind:scope.kind = .function)
  (qW:(scope.names.all λy=>y.2 != .cell)=true) (names:(scope.names.all λy=>y.2 != .local || scope.names.lookup y.1 == some .local)=true)
  (sub:AllP (λp:Str×Addr=>X.env.cells.lookup p.1=some p.2) cl) (has:(scope.names.all λy=>y.2 != .free || (cl.lookup y.1).isSome)=true)
  (free:fv.map (λj=>X.N[j]?)=(N.drop nt).map some) (fk:((N.drop nt).all λy=>scope.names.lookup y == some .free && X.env.scope.names.lookup y == some .cell)=true) (le:nt<=N.length) (nd:N.Nodup) :
  cL X scope cl N nt fv where
 qV:=qV
 kind:=kind
 qW:=λy hy=>by have:=List.all_eq_true.mp qW y hy;simpa using this
 names:=λy hy hl=>by have:=List.all_eq_true.mp names y hy;simp[hl] at this;exact this
 sub:=sub.mem
 has:=λy hy hl=>by
  have:=List.all_eq_true.mp has y hy;rw[hl] at this;exact Option.isSome_iff_exists.mp (by simpa only[bne_self_eq_false,Bool.false_or] using this)
 free:=free
 fk:=λy hy=>by have:=List.all_eq_true.mp fk y hy;simpa using this
 le:=le
 nd:=nd
theorem agN{CX:f9}{P:Program}{w:World}{K:PySem.W.Frag}{mg:Str->Option Value}{base:Heap}{N:List Str}{qual:Str}{scope:Scope}{f:Addr}{cd:Value}{A:Around}{outer:List Env}{s:Shared}{H:Hp}{E:XK} :
  (gn CX P w K mg base N qual scope f cd A outer s H E).K=K:=rfl
theorem agO{X:Cx}{E:Value->Shared->Prop}:(X.iw E).K=X.K:=rfl
theorem agP{X:Cx}{scope:Scope}{cl:List (Str×Addr)}{N:List Str}{C:Addr}{s:Shared}{H:Hp}{fp:List Addr}:(fL X scope cl N C s H fp).K=X.K:=rfl
structure Zn(H:Hp)(a:Addr)(ts:List Addr)(z:List (Int×Int)):Prop where
 l:H a=some (.lst (ts.map V.ref))
 n:ts.length=z.length
 t:∀(i:Nat) (t:Addr) (p:Int×Int),ts[i]? = some t->z[i]? = some p->H t=some (.tup [.int p.1,.int p.2])
theorem Zn.same{H H':Hp}{a:Addr}{ts:List Addr}{z:List (Int×Int)}(h:Zn H a ts z)(e:ah H H'):Zn H' a ts z:=⟨e _ _ h.l,h.n,λi t p h1 h2=>e _ _ (h.t i t p h1 h2)⟩
theorem Zn.at{H:Hp}{a:Addr}{ts:List Addr}{z:List (Int×Int)}(h:Zn H a ts z){i:Nat}{x:V}(e:(ts.map V.ref)[i]? = some x):∃t p,x = .ref t/\z[i]? = some p/\H t=some (.tup [.int p.1,.int p.2]):=by
 rw[List.getElem?_map] at e;cases q:ts[i]? with
 | none=>rw[q] at e;cases e
 | some t =>
  rw[q] at e;have hi:i<z.length:=by rw[← h.n];exact(List.getElem?_eq_some_iff.mp q).1
  exact⟨t,z[i],(Option.some.inj e).symm,List.getElem?_eq_getElem hi,h.t i t _ q (List.getElem?_eq_getElem hi)⟩
noncomputable def CT(ns:List Int)(k:Int):Int:=ns.getD k.toNat 0
section
variable{K:PySem.W.Frag}{ta:TA}{tl:TE}{g:TG}{tb:TS}{D:Ends}{σ:St}{H:Hp}
theorem X5(n:Nat)(d7:∀Q:List V->Hp->Prop,Q [.int (n:Int)] H->ta σ H Q)(hn:n<1000000000)(Pv:Nat->St->Hp->Prop)(h0:Pv 0 σ H)
  (hs:∀i σ H,i<n->Pv i σ H->g (.int (i:Int)) σ H λau H2=>tb { D with nx:=Pv (i+1),ct:=Pv (i+1),bk:=D.nx } au H2) (hd:∀σ H,Pv n σ H->D.nx σ H):gW (oM ta) g tb D σ H:=by
 refine d7 _ ⟨n,rfl,by lia,by lia,?_⟩
 have e:((n:Int)).toNat=n:=by lia
 rw[e];refine B9 Pv h0 (λi σ H hi p=>?_) hd;have e2:(0:Int)+(i:Int)=i:=by lia
 rw[e2];exact hs i σ H hi p
theorem X6(lo hi:Int)(d7:∀Q:List V->Hp->Prop,Q [.int lo,.int hi] H->ta σ H Q)(b1 : -1000000000000<lo)(b2:lo<1000000000000)(b3 : -1000000000000<hi)(b4:hi<1000000000000)(Pv:Nat->St->Hp->Prop)(h0:Pv 0 σ H)
  (hs:∀i σ H,i<(hi - lo).toNat->Pv i σ H->g (.int (lo+(i:Int))) σ H λau H2=>tb { D with nx:=Pv (i+1),ct:=Pv (i+1),bk:=D.nx } au H2) (hd:∀σ H,Pv (hi - lo).toNat σ H->D.nx σ H):gW (qB ta) g tb D σ H :=
 d7 _ ⟨lo,hi,rfl,⟨by lia,by lia,by lia,by lia⟩,B9 Pv h0 hs hd⟩
theorem X7(a:Addr)(xs:List V)(jC:∀Q:VK,Q (.ref a) H->tl σ H Q)(eE:aE K H a xs)(Pv:Nat->St->Hp->Prop)(h0:Pv 0 σ H)(hl:∀i σ H,i<=xs.length->Pv i σ H->aE K H a xs)
  (hs:∀i x σ H,xs[i]? = some x->Pv i σ H->g x σ H λau H2=>tb { D with nx:=Pv (i+1),ct:=Pv (i+1),bk:=D.nx } au H2) (hd:∀σ H,Pv xs.length σ H->D.nx σ H):gW (mU K tl) g tb D σ H :=
 jC _ ⟨a,rfl,⟨xs,eE⟩,VT Pv h0 hl hs hd⟩
theorem X8(a:Addr)(xs:List V)(d7:∀Q:List V->Hp->Prop,Q [.ref a] H->ta σ H Q)(eE:aE K H a xs)(Pv:Nat->St->Hp->Prop)(h0:Pv 0 σ H)(hl:∀i σ H,i<=xs.length->Pv i σ H->aE K H a xs)
  (hs:∀i x σ H T,xs[i]? = some x->Pv i σ H->H T=none->g (.ref T) σ (upd H T (.tup [.int i,x])) λau H2=>tb { D with nx:=Pv (i+1),ct:=Pv (i+1),bk:=D.nx } au H2) (hd:∀σ H,Pv xs.length σ H->D.nx σ H):gW (CO K ta) g tb D σ H :=
 d7 _ ⟨a,rfl,⟨xs,eE⟩,XY Pv h0 hl hs hd⟩
variable{tt:TT}{te:TE}{nt:Nat}{fv:List Nat}{Q:VK}
noncomputable def NX(n i:Nat)(P:Prop):Prop:=∃m',m' < n - i/\m' = n - (i+1)/\i+1<=n/\P
theorem NX.of{n i:Nat}{P:Prop}(hi:i<n)(p:P):NX n i P:=⟨n - (i+1),by lia,rfl,hi,p⟩
theorem X_(lo hi:Int)(d7:∀Q:List V->Hp->Prop,Q [.int lo,.int hi] H->ta σ H Q)(b1 : -1000000000000<lo)(b2:lo<1000000000000)(b3 : -1000000000000<hi)(b4:hi<1000000000000)
  (Pv:Addr->Nat->List V->St->Hp->Prop) (h0:∀D,H D=none->Pv D 0 [] (iF σ nt fv) (upd H D (.lst []))) (hD:∀D i ys σ H,Pv D i ys σ H->H D=some (.lst ys)/\ys.length<sizeLine)
  (hs:∀D i ys au H2,i<(hi - lo).toNat->Pv D i ys au H2->g (.int (lo+(i:Int))) au H2 λbJ H4=>tt bJ H4 λb H5=>if b=true then te bJ H5 λv H6=>H6 D=some (.lst ys)/\NX (hi - lo).toNat i (Pv D (i+1) (ys++[v]) bJ (upd H6 D (.lst (ys++[v])))) else NX (hi - lo).toNat i (Pv D (i+1) ys bJ H5))
  (hd:∀D ys au H2,Pv D (hi - lo).toNat ys au H2->Q (.ref D) H2):iX (qB ta) g tt te nt fv σ H Q:=by
 refine d7 _ ⟨lo,hi,rfl,⟨by lia,by lia,by lia,by lia⟩,λD iY=>?_⟩
 refine⟨λi m ys au H2=>m=(hi - lo).toNat - i/\i<=(hi - lo).toNat/\Pv D i ys au H2,⟨_,rfl,Nat.zero_le _,h0 D iY⟩,?_⟩;rintro i m ys au H2 ⟨rfl,jZ,p⟩;obtain⟨d1,d2⟩:=hD D i ys au H2 p;refine⟨d1,d2,?_⟩;by_cases bU:i<(hi - lo).toNat
 ·refine .inr ⟨bU,λx H3 y=>?_⟩;obtain⟨e1,e2⟩:=y;subst e1 e2;exact hs D i ys au _ bU p
 ·have e:i=(hi - lo).toNat:=by lia
  subst e;exact .inl ⟨Nat.le_refl _,hd D ys au H2 p⟩
theorem Yb(a:Addr)(xs:List V)(jC:∀Q:VK,Q (.ref a) H->tl σ H Q)(eE:aE K H a xs)
  (Pv:Addr->Nat->List V->St->Hp->Prop) (h0:∀D,H D=none->Pv D 0 [] (iF σ nt fv) (upd H D (.lst []))) (hD:∀D i ys σ H,Pv D i ys σ H->H D=some (.lst ys)/\ys.length<sizeLine/\aE K H a xs)
  (hs:∀D i x ys au H2,xs[i]? = some x->Pv D i ys au H2->g x au H2 λbJ H4=>tt bJ H4 λb H5=>if b=true then te bJ H5 λv H6=>H6 D=some (.lst ys)/\NX xs.length i (Pv D (i+1) (ys++[v]) bJ (upd H6 D (.lst (ys++[v])))) else NX xs.length i (Pv D (i+1) ys bJ H5))
  (hd:∀D ys au H2,Pv D xs.length ys au H2->Q (.ref D) H2):iX (mU K tl) g tt te nt fv σ H Q:=by
 refine jC _ ⟨a,rfl,⟨xs,eE⟩,λD iY=>?_⟩;refine⟨λi m ys au H2=>m=xs.length - i/\i<=xs.length/\Pv D i ys au H2,⟨_,rfl,Nat.zero_le _,h0 D iY⟩,?_⟩;rintro i m ys au H2 ⟨rfl,jZ,p⟩;obtain⟨d1,d2,d3⟩:=hD D i ys au H2 p;refine⟨d1,d2,?_⟩;by_cases bU:i<xs.length
 ·refine .inr ⟨⟨xs,xs[i],d3,by simp[bU]⟩,λx H3 y=>?_⟩
  obtain⟨e1,e2⟩:=y;subst e1;exact hs D i x ys au _ (e2 xs d3) p
 ·have e:i=xs.length:=by lia
  subst e;exact .inl ⟨⟨xs,d3,Nat.le_refl _⟩,hd D ys au H2 p⟩
end
theorem iG{ns:List Int}{k:Int}(h0:0<=k)(h:k<(ns.length:Int)):ez (ns.map V.int) k=some (.int (ns.getD k.toNat 0)):=by
 have hk:k.toNat<ns.length:=by lia
 unfold ez iB;rw[if_pos h0,if_pos (by simpa using h)]
 simp[List.getD_eq_getElem?_getD,List.getElem?_eq_getElem hk]
theorem Yc{ns:List Int}(h:0<ns.length):ez (ns.map V.int) (-1)=some (.int (ns.getD (ns.length - 1) 0)):=by
 have hk:ns.length - 1<ns.length:=by lia
 unfold ez iB;rw[if_neg (by decide),if_pos (by simp;lia)]
 have e:(-1+((ns.map V.int).length:Int)).toNat=ns.length - 1:=by simp;lia
 rw[e];simp[List.getD_eq_getElem?_getD,List.getElem?_eq_getElem hk]
theorem CU(a b:String):(Str.ofString a=Str.ofString b)=(a=b):=by
 refine propext ⟨λh=>?_,λh=>by rw[h]⟩
 rw[Str.ofString_eq_toList,Str.ofString_eq_toList] at h;have h:a.toList.map Char.toNat=b.toList.map Char.toNat:=by
  injection h with h;exact Array.toList_inj.mpr h |> λz=>by simpa using h
 have inj:∀(x y:List Char),x.map Char.toNat=y.map Char.toNat->x=y:=by
  intro x
  induction x with
  | nil=>intro y h;cases y with | nil=>rfl | cons c r=>simp at h
  | cons c r ih =>
   intro y h;cases y with
   | nil=>simp at h
   | cons d q =>
    simp only[List.map_cons,List.cons.injEq] at h;rw[ih q h.2,Char.toNat_inj.mp h.1]
 exact String.ext (inj _ _ h)
theorem fM(a b:String):(Str.ofString a == Str.ofString b)=(a == b):=by
 by_cases h:a=b
 ·subst h;simp
 ·have h2:¬ Str.ofString a=Str.ofString b:=by rw[CU];exact h
  rw[beq_eq_false_iff_ne.mpr h,beq_eq_false_iff_ne.mpr h2]
structure oZ(z:List (Int×Int)):Prop where
 l1:1<=z.length
 l5:z.length<=5
 r:∀p∈z,1<=p.1/\p.1<=40/\1<=p.2/\p.2<=60
 s2:2<=(z.map (·.1)).sum
 CV:(z.map (·.1)).sum<=120
noncomputable def counts(z:List (Int×Int)):List Int:=z.flatMap λp=>List.replicate p.1.toNat p.2
structure SwOk(sw:List Int)(n:Int):Prop where
 len:(sw.length:Int)=n
 two:2<=n
 z:sw.getD 0 0=0
 pos:∀i:Nat,1<=i->i<sw.length->1<=sw.getD i 0/\sw.getD i 0<=1000000000
 up:∀i:Nat,1<=i->i<sw.length->sw.getD (i - 1) 0<=sw.getD i 0
 no:∀a b:Nat,1<=a->1<=b->a+b<sw.length->sw.getD (a+b) 0<=sw.getD a 0+sw.getD b 0
noncomputable def dX(s:Int):Nat->List Int->List (Int×Int)
 | _,[]=>[]
 | r,c::cs=>(List.range (c - s).toNat).map (λ(k:Nat)=>((r:Int),(k:Int)))++dX s (r+1) cs
noncomputable def kL(rc:List Int)(s:Int):List (Int×Int):=dX s 0 rc
noncomputable def kT(p:Int×Int):List Key:=[.inl p.1,.inl p.2]
noncomputable def f_:Nat->List (Int×Int)->List (List Key×V)->List (List Key×V)
 | _,[],acc=>acc
 | i,p::r,acc=>f_ (i+1) r (putK acc (kT p) (.int i))
noncomputable def rq(z:List (Int×Int)):List (List Key×V):=f_ 0 z []
theorem LI(s:Int):∀(xs ys:List Int) (r:Nat),dX s r (xs++ys)=dX s r xs++dX s (r+xs.length) ys
 | [],ys,r=>by simp[dX]
 | x::xs,ys,r=>by
  rw[List.cons_append,dX,dX,LI s xs ys (r+1),List.append_assoc,List.length_cons];congr 3;lia
theorem LJ:∀(xs ys:List (Int×Int)) (i:Nat) (acc:List (List Key×V)),f_ i (xs++ys) acc=f_ (i+xs.length) ys (f_ i xs acc)
 | [],ys,i,acc=>by simp[f_]
 | x::xs,ys,i,acc=>by
  rw[List.cons_append,f_,f_,LJ xs ys (i+1),List.length_cons];congr 1;lia
theorem LK:∀(xs:List (Int×Int)) (i:Nat) (acc:List (List Key×V)),(f_ i xs acc).length<=acc.length+xs.length
 | [],i,acc=>by simp[f_]
 | x::xs,i,acc=>by
  rw[f_];have h1:=LK xs (i+1) (putK acc (kT x) (.int i));have h2:=Cu acc (kT x) (.int i);rw[List.length_cons];lia
theorem LL(x y:List (Int×Int)):counts (x++y)=counts x++counts y:=by simp[counts]
theorem o7:∀(z:List (Int×Int)),(∀p∈z,1<=p.1)->((counts z).length:Int)=(z.map (·.1)).sum
 | [],_=>rfl
 | p::z,h=>by
  have ih:=o7 z λp hp=>h p (List.mem_cons_of_mem _ hp);have h1:=h p List.mem_cons_self;simp only[counts,List.flatMap_cons,List.length_append,List.length_replicate,List.map_cons,List.sum_cons] at ih ⊢;lia
theorem LM{z:List (Int×Int)}(ok:oZ z)(i:Nat):(counts (z.take i)).length<=120:=by
 have h0:=o7 z λp hp=>(ok.r p hp).1;have e:z=z.take i++z.drop i:=(List.take_append_drop i z).symm;have e2:(counts z).length=(counts (z.take i)).length+(counts (z.drop i)).length:=by
  rw[← List.length_append,← LL,List.take_append_drop]
 have:=ok.CV;lia
theorem rB{z:List (Int×Int)}{c:Int}(h:c∈counts z):∃p∈z,c=p.2:=by
 obtain⟨p,hp,hc⟩:=List.mem_flatMap.mp h;exact⟨p,hp,(List.mem_replicate.mp hc).2⟩
theorem u7{s:Int}(hs:0<=s):∀(rc:List Int) (r:Nat),(∀c∈rc,0<=c/\c<=1000)->(dX s r rc).length<=1000*rc.length
 | [],_,_=>by simp[dX]
 | c::rc,r,h=>by
  have ih:=u7 hs rc (r+1) λc hc=>h c (List.mem_cons_of_mem _ hc);have h1:=h c List.mem_cons_self;simp only[dX,List.length_append,List.length_map,List.length_range,List.length_cons];lia
theorem Yd{s:Int}(hs:0<=s){rc:List Int}(h:∀c∈rc,0<=c/\c<=1000)(i:Nat):(dX s 0 (rc.take i)).length<=1000*rc.length:=by
 have h1:=u7 hs (rc.take i) 0 λc hc=>h c (List.mem_of_mem_take hc);rw[List.length_take] at h1;have h2:1000*min i rc.length<=1000*rc.length:=Nat.mul_le_mul_left _ (Nat.min_le_right _ _);exact Nat.le_trans h1 h2
theorem kM:sizeLine=16777216:=by decide
theorem LN(n:Nat)(c:Int):(List.replicate n [V.int c]).flatten=(List.replicate n c).map V.int:=by
 induction n with
 | zero=>rfl
 | succ n ih=>rw[List.replicate_succ,List.flatten_cons,ih,List.replicate_succ,List.map_cons];rfl
theorem LO{α:Type}{l:List α}{i:Nat}{x:α}(h:l[i]? = some x):i<l.length:=(List.getElem?_eq_some_iff.mp h).1
theorem take_succ_get{α:Type}{l:List α}{i:Nat}{x:α}(h:l[i]? = some x):l.take (i+1)=l.take i++[x]:=by
 rw[List.take_add_one,h];rfl
theorem CW(l:List Int){i:Nat}(h:i<l.length):l[i]? = some (l.getD i 0):=by
 simp[List.getD_eq_getElem?_getD,List.getElem?_eq_getElem h]
theorem iH{α β:Type}{f:α->β}{l:List α}{i:Nat}{y:β}(h:(l.map f)[i]? = some y):∃x,l[i]? = some x/\y=f x:=by
 rw[List.getElem?_map] at h;cases e:l[i]? with
 | none=>rw[e] at h;cases h
 | some x=>rw[e] at h;exact⟨x,rfl,(Option.some.inj h).symm⟩
theorem get_mem{α:Type}{l:List α}{i:Nat}{x:α}(h:l[i]? = some x):x∈l:=List.mem_of_getElem? h
theorem gH{α:Type}{l:List α}{i:Nat}{x:α}(h:l[i]? = some x):i<l.length:=(List.getElem?_eq_some_iff.mp h).1
theorem ah.put{H:Hp}{a:Addr}{o:HO}(h:H a=none):ah H (upd H a o):=λb u e=>by rw[aC (cj e h)];exact e
theorem ah.put2{H H':Hp}{a:Addr}{o:HO}(s:ah H H')(h:H a=none):ah H (upd H' a o):=λb u e=>by rw[aC (cj e h)];exact s b u e
theorem Zn.sq{K:PySem.W.Frag}{H:Hp}{a:Addr}{ts:List Addr}{z:List (Int×Int)}(h:Zn H a ts z):aE K H a (ts.map V.ref):=aE.of h.l
section
variable{X:Cx}{K:PySem.W.Frag}
theorem Ye(h:X.K=K):qL X (K1 K):=h▸dR
theorem LP(h:X.K=K):qL X (K0 K):=h▸bR
end
section
variable{K:PySem.W.Frag}{ta:TA}{tl:TE}{g:TG}{tb:TS}{D:Ends}{σ:St}{H:Hp}
theorem rl(a:Addr)(xs:List V)(Pv:Nat->St->Hp->Prop)(jC:∀Q:VK,Q (.ref a) H->tl σ H Q)(eE:aE K H a xs)(h0:Pv 0 σ H)(hl:∀i σ H,i<=xs.length->Pv i σ H->aE K H a xs)
  (hs:∀i x σ H (N:St->Hp->Prop),(∀σ H,Pv (i+1) σ H->N σ H)->xs[i]? = some x->Pv i σ H->g x σ H λau H2=>tb { D with nx:=N,ct:=N,bk:=D.nx } au H2) (hd:∀σ H,Pv xs.length σ H->D.nx σ H):gW (mU K tl) g tb D σ H :=
 X7 a xs jC eE Pv h0 hl (λi x σ H hx p=>hs i x σ H _ (λ_ _ z=>z) hx p) hd
theorem CY(n:Nat)(Pv:Nat->St->Hp->Prop)(d7:∀Q:List V->Hp->Prop,Q [.int (n:Int)] H->ta σ H Q)(hn:n<1000000000)(h0:Pv 0 σ H)
  (hs:∀i σ H (N:St->Hp->Prop),(∀σ H,Pv (i+1) σ H->N σ H)->i<n->Pv i σ H->g (.int (i:Int)) σ H λau H2=>tb { D with nx:=N,ct:=N,bk:=D.nx } au H2) (hd:∀σ H,Pv n σ H->D.nx σ H):gW (oM ta) g tb D σ H :=
 X5 n d7 hn Pv h0 (λi σ H hx p=>hs i σ H _ (λ_ _ z=>z) hx p) hd
theorem u_(lo hi:Int)(Pv:Nat->St->Hp->Prop)(d7:∀Q:List V->Hp->Prop,Q [.int lo,.int hi] H->ta σ H Q)(b1 : -1000000000000<lo)(b2:lo<1000000000000)(b3 : -1000000000000<hi)(b4:hi<1000000000000)(h0:Pv 0 σ H)
  (hs:∀i σ H (N:St->Hp->Prop),(∀σ H,Pv (i+1) σ H->N σ H)->i<(hi - lo).toNat->Pv i σ H->g (.int (lo+(i:Int))) σ H λau H2=>tb { D with nx:=N,ct:=N,bk:=D.nx } au H2) (hd:∀σ H,Pv (hi - lo).toNat σ H->D.nx σ H):gW (qB ta) g tb D σ H :=
 X6 lo hi d7 b1 b2 b3 b4 Pv h0 (λi σ H hx p=>hs i σ H _ (λ_ _ z=>z) hx p) hd
theorem LQ(n:Int)(Pv:Nat->St->Hp->Prop)(d7:∀Q:List V->Hp->Prop,Q [.int n] H->ta σ H Q)(LR : -1000000000000<n)(hn:n<1000000000000)(h0:Pv 0 σ H)
  (hs:∀i σ H (N:St->Hp->Prop),(∀σ H,Pv (i+1) σ H->N σ H)->i<n.toNat->Pv i σ H->g (.int (i:Int)) σ H λau H2=>tb { D with nx:=N,ct:=N,bk:=D.nx } au H2) (hd:∀σ H,Pv n.toNat σ H->D.nx σ H):gW (oM ta) g tb D σ H:=by
 refine d7 _ ⟨n,rfl,by lia,by lia,?_⟩
 refine B9 Pv h0 (λi σ H hi p=>?_) hd;have e2:(0:Int)+(i:Int)=i:=by lia
 rw[e2];exact hs i σ H _ (λ_ _ z=>z) hi p
theorem re(a:Addr)(xs:List V)(Pv:Nat->St->Hp->Prop)(d7:∀Q:List V->Hp->Prop,Q [.ref a] H->ta σ H Q)(eE:aE K H a xs)(h0:Pv 0 σ H)(hl:∀i σ H,i<=xs.length->Pv i σ H->aE K H a xs)
  (hs:∀i x σ H T (N:St->Hp->Prop),(∀σ H,Pv (i+1) σ H->N σ H)->xs[i]? = some x->Pv i σ H->H T=none->g (.ref T) σ (upd H T (.tup [.int i,x])) λau H2=>tb { D with nx:=N,ct:=N,bk:=D.nx } au H2) (hd:∀σ H,Pv xs.length σ H->D.nx σ H):gW (CO K ta) g tb D σ H :=
 X8 a xs d7 eE Pv h0 hl (λi x σ H T hx p hT=>hs i x σ H T _ (λ_ _ z=>z) hx p hT) hd
variable{tt:TT}{te:TE}{nt:Nat}{fv:List Nat}{Q:VK}
theorem Yg(lo hi:Int)(Pv:Addr->Nat->List V->St->Hp->Prop)(d7:∀Q:List V->Hp->Prop,Q [.int lo,.int hi] H->ta σ H Q)(b1 : -1000000000000<lo)(b2:lo<1000000000000)(b3 : -1000000000000<hi)(b4:hi<1000000000000)
  (h0:∀D,H D=none->Pv D 0 [] (iF σ nt fv) (upd H D (.lst []))) (hD:∀D i ys σ H,Pv D i ys σ H->H D=some (.lst ys)/\ys.length<sizeLine)
  (hs:∀D i ys au H2 (N:List V->St->Hp->Prop),(∀ys σ H,Pv D (i+1) ys σ H->N ys σ H)->i<(hi - lo).toNat->Pv D i ys au H2->g (.int (lo+(i:Int))) au H2 λbJ H4=>tt bJ H4 λb H5=>if b=true then te bJ H5 λv H6=>H6 D=some (.lst ys)/\N (ys++[v]) bJ (upd H6 D (.lst (ys++[v]))) else N ys bJ H5)
  (hd:∀D ys au H2,Pv D (hi - lo).toNat ys au H2->Q (.ref D) H2):iX (qB ta) g tt te nt fv σ H Q :=
 X_ lo hi d7 b1 b2 b3 b4 Pv h0 hD (λD i ys au H2 hi p=>hs D i ys au H2 _ (λ_ _ _ z=>NX.of hi z) hi p) hd
theorem lJ(a:Addr)(xs:List V)(Pv:Addr->Nat->List V->St->Hp->Prop)(jC:∀Q:VK,Q (.ref a) H->tl σ H Q)(eE:aE K H a xs)
  (h0:∀D,H D=none->Pv D 0 [] (iF σ nt fv) (upd H D (.lst []))) (hD:∀D i ys σ H,Pv D i ys σ H->H D=some (.lst ys)/\ys.length<sizeLine/\aE K H a xs)
  (hs:∀D i x ys au H2 (N:List V->St->Hp->Prop),(∀ys σ H,Pv D (i+1) ys σ H->N ys σ H)->xs[i]? = some x->Pv D i ys au H2->g x au H2 λbJ H4=>tt bJ H4 λb H5=>if b=true then te bJ H5 λv H6=>H6 D=some (.lst ys)/\N (ys++[v]) bJ (upd H6 D (.lst (ys++[v]))) else N ys bJ H5)
  (hd:∀D ys au H2,Pv D xs.length ys au H2->Q (.ref D) H2):iX (mU K tl) g tt te nt fv σ H Q :=
 Yb a xs jC eE Pv h0 hD (λD i x ys au H2 hx p=>hs D i x ys au H2 _ (λ_ _ _ z=>NX.of (List.getElem?_eq_some_iff.mp hx).1 z) hx p) hd
end
theorem j3{K:PySem.W.Frag}{H:Hp}{σ:St}{t:Addr}{x y:V}{n i j:Nat}{Q:St->Hp->Prop}(h:aQ K H t [x,y])(hn:2=n)(q:Q ((σ.set i (some x)).set j (some y)) H):B0 K n (BZ (lD i) (BZ (lD j) Kg)) (.ref t) σ H Q :=
 ⟨t,[x,y],rfl,h,hn,x,[y],rfl,y,[],rfl,rfl,q⟩
theorem lenZ{ts:List Addr}{z:List (Int×Int)}(h:ts.length=z.length):(ts.map V.ref).length=z.length:=by simpa using h
theorem Zn.snoc{H:Hp}{l p:Addr}{ts:List Addr}{z:List (Int×Int)}(h:Zn H l ts z)(hp:H p=none)(a b:Int):Zn (upd (upd H p (.tup [.int a,.int b])) l (.lst (ts.map V.ref++[V.ref p]))) l (ts++[p]) (z++[(a,b)]):=by
 have vc:l≠p:=cj h.l hp;refine⟨by rw[aD,List.map_append];rfl,by simp[h.n],λi t q e1 e2=>?_⟩
 have hn:=h.n;by_cases hi:i<ts.length
 ·rw[List.getElem?_append_left hi] at e1;rw[List.getElem?_append_left (by lia)] at e2
  have ht:=h.t i t q e1 e2;rw[aC (qp ht h.l (by intro z;cases z)),aC (cj ht hp)]
  exact ht
 ·rw[List.getElem?_append_right (by lia)] at e1
  rw[List.getElem?_append_right (by lia)] at e2
  have fO:i - ts.length=0:=by
   have:=LO e1;simp at this;lia
  rw[fO] at e1;rw[← hn,fO] at e2;simp at e1 e2;subst e1 e2;rw[aC vc.symm,aD]
noncomputable def Yh(t:TS):TS:=λD σ H=>∃M:St->Hp->Prop,t { D with nx:=M } σ H/\∀dw H1,M dw H1->D.nx dw H1
theorem Yi{X:Cx}{st:Stmt}{t:TS}(h:PS X st t):PS X st (Yh t):=by
 rintro pins s σ H D I ⟨M,hM,k⟩;refine aI (h pins s σ H _ I hM) λf s1 q=>?_;cases f with
 | next=>obtain⟨dw,H1,I1,q⟩:=q;exact⟨dw,H1,I1,k _ _ q⟩
 | brk=>exact q
 | cont=>exact q
 | ret u=>exact q
noncomputable def Yj(K:PySem.W.Frag):Sp:=λvs H Q _=>∃(a:Addr) (ts:List Addr) (z:List (Int×Int)),vs = [.ref a]/\Zn H a ts z/\oZ z/\∀H',ah H H'->Q .aJ H'
noncomputable def Yk(K:PySem.W.Frag):Sp:=λvs H Q _=>∃(a:Addr) (ts:List Addr) (z:List (Int×Int)) (aq c7:Int),vs = [.ref a,.int aq,.int c7]/\Zn H a ts z/\oZ z/\1<=aq/\aq<=1000000000/\0<=c7/\c7<aq/\
 (∀p∈z,aq % p.2=0)/\Q .aJ H
noncomputable def Yl(K:PySem.W.Frag):Sp:=λvs H Q _=>∃(a:Addr) (sw:List Int) (n:Int),vs = [.ref a,.int n]/\aE K H a (sw.map V.int)/\SwOk sw n/\n<=1000/\Q .aJ H
noncomputable def Ym(K:PySem.W.Frag):Sp:=λvs H Q _=>∃(a:Addr) (sw:List Int) (n:Int),vs = [.ref a]/\aE K H a (sw.map V.int)/\SwOk sw n/\n<=1000/\Q .aJ H
noncomputable def Yn(K:PySem.W.Frag):Sp:=λvs H Q _=>∃(a:Addr) (ts:List Addr) (z:List (Int×Int)),vs = [.ref a]/\Zn H a ts z/\oZ z/\
 ∀l H',ah H H'->H l=none->H' l=some (.lst ((counts z).map V.int))->Q (.ref l) H'
noncomputable def Yo(K:PySem.W.Frag):Sp:=λvs H Q _=>∃(a:Addr) (rc:List Int) (s:Int),vs = [.ref a,.int s]/\aE K H a (rc.map V.int)/\rc.length<=1000/\(∀c∈rc,0<=c/\c<=1000)/\0<=s/\s<=1000/\
 ∀l ts H',ah H H'->H l=none->(∀t∈ts,H t=none)->Zn H' l ts (kL rc s)->Q (.ref l) H'
noncomputable def Yp(K:PySem.W.Frag):Sp:=λvs H Q _=>∃(a:Addr) (ts:List Addr) (z:List (Int×Int)),vs = [.ref a]/\Zn H a ts z/\z.length<=1000000/\
 ∀d H',ah H H'->H d=none->H' d=some (.dT (rq z))->Q (.ref d) H'
structure Pl where
 rc:List Int
 aq:Int
 c7:Int
 sw:List Int
 nc:List (Int×Int)
structure CP(K:PySem.W.Frag)(C:Addr):Prop where
 cl:dO K C
 n1:bO K C "ring_cells"
 n2:bO K C "lap"
 n3:bO K C "skew"
 n4:bO K C "swing"
 n5:bO K C "number_cells"
 n6:bO K C "cell_numbers"
noncomputable def rC(a1:Addr)(aq c7:Int)(a2 a3 a4:Addr):List (Str×V):=[("ring_cells",.ref a1),("lap",.int aq),("skew",.int c7),("swing",.ref a2),("number_cells",.ref a3),("cell_numbers",.ref a4)]
structure lK(K:PySem.W.Frag)(C:Addr)(H:Hp)(p:Addr)(P:Pl)(dx a1 a2 a3 a4:Addr)(ts:List Addr)(fs:List (Str×V)):Prop where
 cp:CP K C
 o:H p=some (.ins C dx fs)
 f1:fs.lookup ("ring_cells" : Str)=some (.ref a1)
 f2:fs.lookup ("lap" : Str)=some (.int P.aq)
 f3:fs.lookup ("skew" : Str)=some (.int P.c7)
 f4:fs.lookup ("swing" : Str)=some (.ref a2)
 f5:fs.lookup ("number_cells" : Str)=some (.ref a3)
 f6:fs.lookup ("cell_numbers" : Str)=some (.ref a4)
 m1:fs.lookup ("rings" : Str)=none
 m2:fs.lookup ("total" : Str)=none
 m3:fs.lookup ("cells_of" : Str)=none
 m4:fs.lookup ("beats_of" : Str)=none
 m5:fs.lookup ("lap_beats" : Str)=none
 m6:fs.lookup ("begins" : Str)=none
 m7:fs.lookup ("swing_of" : Str)=none
 m8:fs.lookup ("has_cell" : Str)=none
 m9:fs.lookup ("cell_at" : Str)=none
 iZ:fs.lookup ("number_of" : Str)=none
 i6:fs.lookup ("laid" : Str)=none
 rc:H a1=some (.lst (P.rc.map V.int))
 sw:H a2=some (.lst (P.sw.map V.int))
 nc:Zn H a3 ts P.nc
 cn:H a4=some (.dT (rq P.nc))
theorem lK.lit{K:PySem.W.Frag}{C:Addr}{H:Hp}{p:Addr}{P:Pl}{dx a1 a2 a3 a4:Addr}{ts:List Addr}(cp:CP K C)(o:H p=some (.ins C dx (rC a1 P.aq P.c7 a2 a3 a4)))(rc:H a1=some (.lst (P.rc.map V.int)))(sw:H a2=some (.lst (P.sw.map V.int)))
  (nc:Zn H a3 ts P.nc) (cn:H a4=some (.dT (rq P.nc))):lK K C H p P dx a1 a2 a3 a4 ts (rC a1 P.aq P.c7 a2 a3 a4):=by
 refine⟨cp,o,?_,?_,?_,?_,?_,?_,?_,?_,?_,?_,?_,?_,?_,?_,?_,?_,?_,rc,sw,nc,cn⟩ <;> simp[rC,List.lookup_cons,fM]
noncomputable def bV(K:PySem.W.Frag)(C:Addr)(H:Hp)(p:Addr)(P:Pl)(fp:List Addr):Prop:=∃dx a1 a2 a3 a4 ts fs,fp=a1::a2::a3::a4::ts/\lK K C H p P dx a1 a2 a3 a4 ts fs
theorem Zn.keep{H H':Hp}{a:Addr}{ts:List Addr}{z:List (Int×Int)}(h:Zn H a ts z)(ha:H' a=H a)(ht:∀t∈ts,H' t=H t):Zn H' a ts z :=
 ⟨ha.trans h.l,h.n,λi t p e1 e2=>(ht t (List.mem_of_getElem? e1)).trans (h.t i t p e1 e2)⟩
theorem Zn.has{H:Hp}{a:Addr}{ts:List Addr}{z:List (Int×Int)}(h:Zn H a ts z){t:Addr}(ht:t∈ts):∃o,H t=some o:=by
 obtain⟨i,hi,rfl⟩:=List.mem_iff_getElem.mp ht;have hz:i<z.length:=by rw[← h.n];exact hi
 exact⟨_,h.t i _ _ (List.getElem?_eq_getElem hi) (List.getElem?_eq_getElem hz)⟩
section
variable{K:PySem.W.Frag}{C:Addr}{H H':Hp}{p x:Addr}{P:Pl}{fp:List Addr}
theorem lK.move{dx a1 a2 a3 a4:Addr}{ts:List Addr}{fs:List (Str×V)}(h:lK K C H p P dx a1 a2 a3 a4 ts fs)(ho:H' p=H p)(h1:H' a1=H a1)(h2:H' a2=H a2)(h3:H' a3=H a3)(h4:H' a4=H a4)(ht:∀t∈ts,H' t=H t):lK K C H' p P dx a1 a2 a3 a4 ts fs :=
 { h with o:=ho.trans h.o,rc:=h1.trans h.rc,sw:=h2.trans h.sw,nc:=h.nc.keep h3 ht,cn:=h4.trans h.cn }
theorem bV.keep(h:bV K C H p P fp)(hp:H' p=H p)(e:∀b∈fp,H' b=H b):bV K C H' p P fp:=by
 obtain⟨dx,a1,a2,a3,a4,ts,fs,rfl,h⟩:=h;exact⟨dx,a1,a2,a3,a4,ts,fs,rfl,h.move hp (e a1 (by simp)) (e a2 (by simp)) (e a3 (by simp)) (e a4 (by simp)) λt ht=>e t (by simp[ht])⟩
theorem bV.has(h:bV K C H p P fp){b:Addr}(hb:b∈fp):∃o,H b=some o:=by
 obtain⟨dG,a1,a2,a3,a4,ts,fs,rfl,h⟩:=h;simp only[List.mem_cons] at hb;rcases hb with rfl | rfl | rfl | rfl | hb
 ·exact⟨_,h.rc⟩
 ·exact⟨_,h.sw⟩
 ·exact⟨_,h.nc.l⟩
 ·exact⟨_,h.cn⟩
 ·exact h.nc.has hb
theorem bV.here(h:bV K C H p P fp):∃o,H p=some o:=by
 obtain⟨dG,a1,a2,a3,a4,ts,fs,rfl,h⟩:=h;exact⟨_,h.o⟩
theorem bV.same(h:bV K C H p P fp)(s:ah H H'):bV K C H' p P fp:=by
 refine h.keep ?_ λb hb=>?_
 ·obtain⟨o,e⟩:=h.here;rw[e];exact s _ _ e
 ·obtain⟨o,e⟩:=h.has hb;rw[e];exact s _ _ e
noncomputable def SameBut(x:Addr)(H H':Hp):Prop:=∀b o,H b=some o->b≠x->H' b=some o
theorem SameBut.put{o:HO}(s:SameBut x H H'):SameBut x H (upd H' x o):=λb u e h=>by rw[aC h];exact s b u e h
theorem SameBut.step{H1 H2:Hp}(s:SameBut x H H1)(t:ah H1 H2):SameBut x H H2:=λb u e h=>t _ _ (s b u e h)
theorem SameBut.start{o:HO}:SameBut x H (upd H x o):=λb u e h=>by rw[aC h];exact e
theorem SameBut.of(s:ah H H'):SameBut x H H':=λb u e _=>s _ _ e
end
noncomputable def Yq(K:PySem.W.Frag):Sp:=λvs H Q _=>∃(C p dx za sa:Addr) (o8:List Addr) (z:List (Int×Int)) (aq c7:Int) (sw:List Int),vs = [.ref p,.ref za,.int aq,.int c7,.ref sa]/\CP K C/\H p=some (.ins C dx [])/\Zn H za o8 z/\oZ z/\
 1<=aq/\aq<=1000000000/\0<=c7/\c7<aq/\(∀p∈z,aq % p.2=0)/\aE K H sa (sw.map V.int)/\SwOk sw (z.map (·.1)).sum/\
 ∀H' dx a1 a2 a3 a4 ts,SameBut p H H'->(∀b∈a1::a2::a3::a4::ts,H b=none)->H' p=some (.ins C dx (rC a1 aq c7 a2 a3 a4))->lK K C H' p ⟨counts z,aq,c7,sw,kL (counts z) 0⟩ dx a1 a2 a3 a4 ts (rC a1 aq c7 a2 a3 a4)->Q .aJ H'
noncomputable def Yr(K:PySem.W.Frag):Sp:=λvs H Q _=>∃(C p:Addr) (P:Pl) (fp:List Addr) (i j:Int),vs = [.ref p,.int i,.int j]/\bV K C H p P fp/\(i - j).natAbs<P.sw.length/\Q (.int (P.sw.getD (i - j).natAbs 0)) H
noncomputable def Ys(K:PySem.W.Frag):Sp:=λvs H Q _=>∃(C p:Addr) (P:Pl) (fp:List Addr),vs = [.ref p]/\bV K C H p P fp/\Q (.int P.rc.length) H
noncomputable def Yt(K:PySem.W.Frag):Sp:=λvs H Q _=>∃(C p:Addr) (P:Pl) (fp:List Addr),vs = [.ref p]/\bV K C H p P fp/\Q (.int P.aq) H
noncomputable def Yu(K:PySem.W.Frag):Sp:=λvs H Q _=>∃(C p:Addr) (P:Pl) (fp:List Addr) (r:Int),vs = [.ref p,.int r]/\bV K C H p P fp/\0<=r/\r<P.rc.length/\0<P.rc.getD r.toNat 0/\P.rc.getD r.toNat 0<=1000/\Q (.int (P.aq / P.rc.getD r.toNat 0)) H
noncomputable def Yv(K:PySem.W.Frag)(cs:List Addr):Sp:=λvs H Q _=>∃(C p:Addr) (P:Pl) (fp:List Addr) (r c:Int),vs = [.ref p,.int r,.int c]/\C∈cs/\bV K C H p P fp/\0<=r/\r<P.rc.length/\P.rc.length<=1000/\0<P.rc.getD r.toNat 0/\P.rc.getD r.toNat 0<=1000/\
 0<=c/\c<=1000/\0<P.aq/\Q (.int ((c*(P.aq / P.rc.getD r.toNat 0)+r*P.c7) % P.aq)) H
noncomputable def Yw(K:PySem.W.Frag):Sp:=λvs H Q _=>∃(C p:Addr) (P:Pl) (fp:List Addr) (k:Int),vs = [.ref p,.int k]/\bV K C H p P fp/\0<=k/\k<P.nc.length/\∀t q,P.nc[k.toNat]? = some q->H t=some (.tup [.int q.1,.int q.2])->Q (.ref t) H
noncomputable def cV(z:List (Int×Int)):Int:=z.foldl (λp x=>p*x.2) 1
theorem range_getD{f:Nat->Int}{n i:Nat}(h:i<n):((List.range n).map f).getD i 0=f i:=by
 simp[List.getD_eq_getElem?_getD,h]
theorem Yx{L:Int}(h:1<=L)(h8:L<=100000000){ns:List Int}(hb:∀x∈ns,L<=x/\x<=2*L)(hp:ns.Pairwise (·<=·))(h1:1<=ns.length):SwOk (0::ns) ((ns.length+1:Nat):Int):=by
 have at_:∀i:Nat,1<=i->i<(0::ns).length->∃hi:i - 1<ns.length,(0::ns).getD i 0=ns[i - 1]:=λi h1 hi=>by
  obtain⟨j,rfl⟩:∃j,i=j+1:=⟨i - 1,by lia⟩
  have hj:j<ns.length:=by simpa using hi
  exact⟨hj,by simp[List.getD_eq_getElem?_getD,List.getElem?_eq_getElem hj]⟩
 refine⟨by simp,by lia,rfl,λi h1 hi=>?_,λi h1 hi=>?_,λa b ha vd ve=>?_⟩
 ·obtain⟨hj,e⟩:=at_ i h1 hi;have:=hb _ (List.getElem_mem hj);rw[e];lia
 ·obtain⟨hj,e⟩:=at_ i h1 hi;rw[e];by_cases h2:i=1
  ·subst h2;have:=hb _ (List.getElem_mem hj)
   show (0:Int)<=_;lia
  ·obtain⟨Yy,e2⟩:=at_ (i - 1) (by lia) (by lia)
   rw[e2];exact List.pairwise_iff_getElem.mp hp _ _ Yy hj (by lia)
 ·obtain⟨h1,e1⟩:=at_ (a+b) (by lia) ve
  obtain⟨h2,e2⟩:=at_ a ha (by lia)
  obtain⟨h3,e3⟩:=at_ b vd (by lia)
  have:=hb _ (List.getElem_mem h1);have:=hb _ (List.getElem_mem h2);have:=hb _ (List.getElem_mem h3);rw[e1,e2,e3];lia
structure ZL(z:List (Int×Int)):Prop where
 ok:oZ z
 pr:cV z<=32768
 sm:(z.map (·.1)).sum<=15
theorem prodF(z:List (Int×Int)):∀p:Int,z.foldl (λp x=>p*x.2) p=p*cV z:=by
 induction z with
 | nil=>intro p;simp[cV]
 | cons x z ih =>
  intro p;rw[cV,List.foldl_cons,List.foldl_cons,ih,ih (1*x.2),Int.one_mul,Int.mul_assoc]
theorem CZ(x:Int×Int)(z:List (Int×Int)):cV (x::z)=x.2*cV z:=by
 rw[cV,List.foldl_cons,prodF,Int.one_mul]
theorem Yz(x:Int×Int)(z:List (Int×Int)):cV (z++[x])=cV z*x.2:=by
 rw[cV,List.foldl_append];rfl
theorem vf{m:Int}(hm:1<=m):∀z:List (Int×Int),(∀p∈z,1<=p.2/\p.2<=m)->1<=cV z/\cV z<=m ^ z.length
 | [],_=>by simp[cV]
 | x::z,h=>by
  have ih:=vf hm z λp hp=>h p (List.mem_cons_of_mem _ hp);have hx:=h x List.mem_cons_self;rw[CZ,List.length_cons,Int.pow_succ,Int.mul_comm (m ^ z.length)];constructor
  ·have:=Int.mul_le_mul hx.1 ih.1 (by decide) (by lia)
   lia
  ·exact Int.mul_le_mul hx.2 ih.2 (by lia) (by lia)
theorem LS{x:Int×Int}:∀ {z:List (Int×Int)},x∈z->x.2 ∣ cV z
 | y::z,h=>by
  rw[CZ];rcases List.mem_cons.mp h with rfl | h
  ·exact Int.dvd_mul_right _ _
  ·exact Int.dvd_trans (LS h) (Int.dvd_mul_left _ _)
theorem LU{m:Int}(hm:1<=m){a b:Nat}(h:a<=b):m ^ a<=m ^ b:=by
 induction h with
 | refl=>exact Int.le_refl _
 | @step b h ih =>
  rw[Int.pow_succ];have h1:1<=m ^ b:=by
   clear ih h
   induction b with
   | zero=>simp
   | succ b ih =>
    rw[Int.pow_succ];have:=Int.mul_le_mul ih hm (by decide) (by lia)
    lia
  have:=Int.mul_le_mul (Int.le_refl (m ^ b)) hm (by decide) (by lia)
  lia
noncomputable def vg(K:PySem.W.Frag):Sp:=λvs H Q _=>∃(a:Addr) (ns:List Int),vs = [.ref a]/\aE K H a (ns.map V.int)/\ns.length<=63/\∀H',Q (.bl true) H'
theorem ite_no{c A B:Prop}[Decidable c](h:¬ c)(b:B):if c then A else B:=by rw[if_neg h];exact b
theorem ite_yes{c A B:Prop}[Decidable c](h:c)(a:A):if c then A else B:=by rw[if_pos h];exact a
section
variable{X:Cx}{CX:f9}{k:Nat}{f C:Addr}{fd:FuncData}{ps:List Str}{sp:Sp}{cA:List V}{ds:List Value}{E:XK}{x m:Str}{p pos apos:Pos}{e:Expr}{es:List Expr}{t:TA}
end
section
variable{X:Cx}
end
section
variable{X:Cx}{pins:List (Addr×Obj)}{σ:St}{H:Hp}{s:Shared}
end
section
variable{X:Cx}
end
section
variable{K:PySem.W.Frag}{ta:TA}{g:TG}{D:Ends}{σ:St}{H:Hp}{tt:TT}{te:TE}{nt:Nat}{fv:List Nat}{Q:VK}
end
theorem rD{X:Cx}{K:PySem.W.Frag}{pos:Pos}{es:List Expr}{k n:Nat}{t:lC}(hK:X.K=K)(hc:X.calm=true)(h:oK X es t)(hn:(assignEach es X.env).length=n:=by rfl)(jx:(assignEach es X.env).findIdx? (·.1)=none:=by rfl):PG X (.Tuple es k pos) (B0 K n t):=hK▸gi hc h hn jx
noncomputable def LV(cs:List Addr)(m:Str)(sp:Sp)(cA:List V)(E:XK)(ta:TE)(t:TA):TE:=λσ H Q=>ta σ H λx H1=>∃C a dx fs,x = .ref a/\H1 a=some (.ins C dx fs)/\C∈cs/\fs.lookup m=none/\t σ H1 λvs H2=>sp (x::(vs++cA)) H2 Q E
section
variable{X:Cx}{CX:f9}{k:Nat}{f:Addr}{cs:List Addr}{fd:FuncData}{ps:List Str}{sp:Sp}{cA:List V}{ds:List Value}{E:XK}{m:Str}{pos apos:Pos}{o e:Expr}{es:List Expr}{ta:TE}{t:TA}
theorem rE{pl:Sem Bool}(ho:PE X o ta)(hc:∀C∈cs,dO X.K C/\Meth X.K C m f)(F:aR X.prog X.w X.K X.mg X.base CX k f fd ps sp)(hr:cy k X.A)(hb:Binds X.K fd ps ds)(hd:Vals cA ds)(hx:Passes CX X E)(ha:PA X (e::es) t)
  (jx:starEach (e::es) X.env=(false,eval e X.env)::starEach es X.env:=by rfl) (e_:(backTo pos (starEach es X.env)).any (·.1)=false:=by rfl)
  (C1:eval (.Call (.Attribute o m apos) (e::es) [] pos) X.env=(do
   let ov ← eval o X.env
   standAt apos.atName
   let (f,first) ← holding [ov] (getMethod ov m pl)
   callWith pos f first (backTo pos (starEach (e::es) X.env)) (backToKw pos (keywordEach [] X.env))):=by rfl):PE X (.Call (.Attribute o m apos) (e::es) [] pos) (LV cs m sp cA E ta t):=by
 intro pins s σ H Q I h;refine PySem.W.methodCall_KW (pl:=pl) (aI (ho pins s σ H _ I h) λu s1 hz=>?_) C1;obtain⟨x,H1,I1,rx,C,a,dx,fs,ex,ea,hC,hl,q⟩:=hz;subst ex;cases (show u=Value.ref a from rx);obtain⟨c1,c2⟩:=hc C hC;refine uE I1 ea c1 c2 hl (PySem.W.callWith_K (first:=[.ref a]) (h₀:=X.base) I.ok.mod.gU c2.kp (aI (ha pos pins s1 σ H1 _ I1 q) λus s2 hw=>?_) jx e_)
 obtain⟨vs,H2,I2,r,q2⟩:=hw;exact⟨I2.cF,qH (us:=.ref a::us) (vs:=.ref a::vs) F hr hb hd hx I2 (.cons rfl r) q2⟩
theorem LW{pl:Sem Bool}(ho:PE X o ta)(hc:∀C∈cs,dO X.K C/\Meth X.K C m f)(F:aR X.prog X.w X.K X.mg X.base CX k f fd ps sp)(hr:cy k X.A)(hb:Binds X.K fd ps ds)(hd:Vals cA ds)(hx:Passes CX X E)
  (C1:eval (.Call (.Attribute o m apos) [] [] pos) X.env=(do
   let ov ← eval o X.env
   standAt apos.atName
   let (f,first) ← holding [ov] (getMethod ov m pl)
   callWith pos f first (backTo pos (starEach [] X.env)) (backToKw pos (keywordEach [] X.env))):=by rfl):PE X (.Call (.Attribute o m apos) [] [] pos) (LV cs m sp cA E ta Ci):=by
 intro pins s σ H Q I h;refine PySem.W.methodCall_KW (pl:=pl) (aI (ho pins s σ H _ I h) λu s1 hz=>?_) C1;obtain⟨x,H1,I1,rx,C,a,dx,fs,ex,ea,hC,hl,q⟩:=hz;subst ex;cases (show u=Value.ref a from rx);obtain⟨c1,c2⟩:=hc C hC;refine uE I1 ea c1 c2 hl (PySem.W.callWith_K0 (first:=[.ref a]) I1.cF c2.kp ?_)
 exact qH (us:=[.ref a]) (vs:=[.ref a]) F hr hb hd hx I1 (.cons rfl .nil) q
end
theorem YA{p q:Int×Int}(h:kT p=kT q):p=q:=by
 unfold kT at h;simp only[List.cons.injEq,Sum.inl.injEq,and_true] at h;exact Prod.ext h.1 h.2
theorem LX:∀(z:List (Int×Int)) (i:Nat) (acc:List (List Key×V)) (q:Int×Int),z.Nodup->(∀j:Nat,z[j]? = some q->bF (f_ i z acc) (kT q)=some (.int ((i+j:Nat):Int)))/\(q∉z->bF (f_ i z acc) (kT q)=bF acc (kT q))
 | [],i,acc,q,_=>⟨λj h=>by simp at h,λ_=>rfl⟩
 | x::z,i,acc,q,nd=>by
  obtain⟨hx,nd⟩:=List.nodup_cons.mp nd;have ih:=LX z (i+1) (putK acc (kT x) (.int i)) q nd;constructor
  ·intro j h;rw[f_];cases j with
   | zero =>
    simp at h;subst h;rw[ih.2 hx,qP,if_pos rfl];rfl
   | succ j =>
    rw[ih.1 j (by simpa using h)]
    congr 2;lia
  ·intro h;rw[f_,ih.2 λz=>h (List.mem_cons_of_mem _ z),qP,if_neg];intro e;exact h (YA e▸List.mem_cons_self)
theorem YB{z:List (Int×Int)}(nd:z.Nodup){j:Nat}{q:Int×Int}(h:z[j]? = some q):bF (rq z) (kT q)=some (.int (j:Int)):=by
 have:=(LX z 0 [] q nd).1 j h;rwa [Nat.zero_add] at this
theorem LY{s:Int}:∀ {rc:List Int} {r:Nat} {q:Int×Int},q∈dX s r rc↔∃j:Nat,j<rc.length/\q.1=((r+j:Nat):Int)/\0<=q.2/\q.2<rc.getD j 0 - s
 | [],r,q=>by simp[dX]
 | c::rc,r,q=>by
  rw[dX,List.mem_append,LY (rc:=rc) (r:=r+1)];constructor
  ·rintro(h | ⟨j,h1,h2,h3,h4⟩)
   ·obtain⟨k,hk,rfl⟩:=List.mem_map.mp h;rw[List.mem_range] at hk;exact⟨0,by simp,by simp,by dsimp only;lia,by simp only[List.getD_cons_zero];lia⟩
   ·exact⟨j+1,by simpa using h1,by rw[h2];congr 1;lia,h3,by simpa using h4⟩
  ·rintro⟨j,h1,h2,h3,h4⟩;cases j with
   | zero =>
    left;refine List.mem_map.mpr ⟨q.2.toNat,List.mem_range.mpr ?_,?_⟩
    ·simp only[List.getD_cons_zero] at h4;lia
    ·refine Prod.ext ?_ ?_
     ·rw[h2];simp
     ·dsimp only;lia
   | succ j =>
    right;exact⟨j,by simpa using h1,by rw[h2];congr 1;lia,h3,by simpa using h4⟩
theorem LZ{s:Int}:∀(rc:List Int) (r:Nat),(dX s r rc).Nodup
 | [],r=>List.nodup_nil
 | c::rc,r=>by
  rw[dX,List.nodup_append];refine⟨?_,LZ rc (r+1),?_⟩
  ·rw[List.nodup_iff_pairwise_ne,List.pairwise_map];refine List.Pairwise.imp ?_ (List.nodup_iff_pairwise_ne.mp List.nodup_range);intro a b h e;simp at e;lia
  ·intro x hx y hy e;subst e;obtain⟨k,_,rfl⟩:=List.mem_map.mp hx;obtain⟨j,_,h2,_⟩:=LY.mp hy;simp at h2;lia
section
variable{K:PySem.W.Frag}{C:Addr}{H H':Hp}{p:Addr}{P:Pl}{fp:List Addr}{mv:Addr}{ms:List V}
end
structure Zt(H:Hp)(a:Addr)(ts:List Addr)(z:List (List Int)):Prop where
 l:H a=some (.lst (ts.map V.ref))
 n:ts.length=z.length
 t:∀(i:Nat) (t:Addr) (r:List Int),ts[i]? = some t->z[i]? = some r->H t=some (.tup (r.map V.int))
section
variable{H H':Hp}{a:Addr}{ts:List Addr}{z:List (List Int)}
theorem Zt.same(h:Zt H a ts z)(e:ah H H'):Zt H' a ts z:=⟨e _ _ h.l,h.n,λi t p h1 h2=>e _ _ (h.t i t p h1 h2)⟩
theorem Zt.start{l:Addr}:Zt (upd H l (.lst [])) l [] []:=⟨aD,rfl,λi t r e=>by simp at e⟩
theorem Zt.snoc{l p:Addr}(h:Zt H l ts z)(hp:H p=none)(r:List Int):Zt (upd (upd H p (.tup (r.map V.int))) l (.lst (ts.map V.ref++[V.ref p]))) l (ts++[p]) (z++[r]):=by
 have vc:l≠p:=cj h.l hp;refine⟨by rw[aD,List.map_append];rfl,by simp[h.n],λi t q e1 e2=>?_⟩
 have hn:=h.n;by_cases hi:i<ts.length
 ·rw[List.getElem?_append_left hi] at e1;rw[List.getElem?_append_left (by lia)] at e2
  have ht:=h.t i t q e1 e2;rw[aC (qp ht h.l (by intro z;cases z)),aC (cj ht hp)]
  exact ht
 ·rw[List.getElem?_append_right (by lia)] at e1
  rw[List.getElem?_append_right (by lia)] at e2
  have fO:i - ts.length=0:=by
   have:=LO e1;simp at this;lia
  rw[fO] at e1;rw[← hn,fO] at e2;simp at e1 e2;subst e1 e2;rw[aC vc.symm,aD]
theorem Zn.start{l:Addr}:Zn (upd H l (.lst [])) l [] []:=⟨aD,rfl,λi t r e=>by simp at e⟩
end
section
variable{ta:TA}{g:TG}{tt:TT}{te:TE}{nt:Nat}{fv:List Nat}{Q:VK}{σ:St}{H:Hp}
theorem nF(n:Int)(Pv:Addr->Nat->List V->St->Hp->Prop)(d7:∀Q:List V->Hp->Prop,Q [.int n] H->ta σ H Q)(b1 : -1000000000000<n)(b2:n<1000000000000)
  (h0:∀D,H D=none->Pv D 0 [] (iF σ nt fv) (upd H D (.lst []))) (hD:∀D i ys σ H,Pv D i ys σ H->H D=some (.lst ys)/\ys.length<sizeLine)
  (hs:∀D i ys au H2 (N:List V->St->Hp->Prop),(∀ys σ H,Pv D (i+1) ys σ H->N ys σ H)->i<n.toNat->Pv D i ys au H2->g (.int (i:Int)) au H2 λbJ H4=>tt bJ H4 λb H5=>if b=true then te bJ H5 λv H6=>H6 D=some (.lst ys)/\N (ys++[v]) bJ (upd H6 D (.lst (ys++[v]))) else N ys bJ H5)
  (hd:∀D ys au H2,Pv D n.toNat ys au H2->Q (.ref D) H2):iX (oM ta) g tt te nt fv σ H Q:=by
 refine d7 _ ⟨n,rfl,by lia,by lia,λD iY=>?_⟩
 refine⟨λi m ys au H2=>m=n.toNat - i/\i<=n.toNat/\Pv D i ys au H2,⟨_,rfl,Nat.zero_le _,h0 D iY⟩,?_⟩;rintro i m ys au H2 ⟨rfl,jZ,p⟩;obtain⟨d1,d2⟩:=hD D i ys au H2 p;refine⟨d1,d2,?_⟩;by_cases bU:i<n.toNat
 ·refine .inr ⟨bU,λx H3 y=>?_⟩;obtain⟨e1,e2⟩:=y;subst e1 e2;have e2:(0:Int)+(i:Int)=i:=by lia
  rw[e2];exact hs D i ys au _ _ (λ_ _ _ z=>NX.of bU z) bU p
 ·have e:i=n.toNat:=by lia
  subst e;exact .inl ⟨Nat.le_refl _,hd D ys au H2 p⟩
end
structure jD(P:Pl):Prop where
 n2:2<=P.rc.length
 n1:P.rc.length<=1000
 c:∀i:Nat,i<P.rc.length->1<=P.rc.getD i 0/\P.rc.getD i 0<=1000
 aq:1<=P.aq
 sw:SwOk P.sw P.rc.length
noncomputable def C3(P:Pl)(r c:Int):Int:=(c*(P.aq / P.rc.getD r.toNat 0)+r*P.c7) % P.aq
noncomputable def vh(P:Pl)(r c b:Int):Int:=b+(C3 P r c - b) % P.aq
noncomputable def lM(P:Pl)(s q:Int×Int):Int:=vh P q.1 q.2 (s.2+P.sw.getD (s.1 - q.1).natAbs 0)
noncomputable def lN(P:Pl)(s q:Int×Int):Int×Int:=(q.1,lM P s q+P.aq / P.rc.getD q.1.toNat 0)
noncomputable def vj(P:Pl)(s q:Int×Int):List Int:=[q.1,q.2,lM P s q,(lN P s q).2]
noncomputable def cW(P:Pl):Int×Int->List (Int×Int)->Int×Int
 | s,[]=>s
 | s,q::r=>cW P (lN P s q) r
noncomputable def fE(P:Pl):Int×Int->List (Int×Int)->List (List Int)
 | _,[]=>[]
 | s,q::r=>vj P s q::fE P (lN P s q) r
theorem C4(P:Pl)(q:Int×Int):∀(xs:List (Int×Int)) (s:Int×Int),cW P s (xs++[q])=lN P (cW P s xs) q
 | [],s=>rfl
 | x::xs,s=>C4 P q xs (lN P s x)
theorem C5(P:Pl)(q:Int×Int):∀(xs:List (Int×Int)) (s:Int×Int),fE P s (xs++[q])=fE P s xs++[vj P (cW P s xs) q]
 | [],s=>rfl
 | x::xs,s=>by rw[List.cons_append,fE,C5 P q xs,fE];rfl
theorem vm(P:Pl):∀(xs:List (Int×Int)) (s:Int×Int),(fE P s xs).length=xs.length
 | [],s=>rfl
 | x::xs,s=>by rw[fE,List.length_cons,vm P xs,List.length_cons]
theorem C6(P:Pl):∀(xs:List (Int×Int)) (s:Int×Int) (r:List Int),r∈fE P s xs->r.length=4
 | [],s,r,h=>by cases h
 | x::xs,s,r,h=>by
  rcases List.mem_cons.mp h with rfl | hr
  ·rfl
  ·exact C6 P xs _ r hr
theorem C7(P:Pl){n:Int}:∀(xs:List (Int×Int)) (s:Int×Int),0<=s.1->s.1<n->(∀q∈xs,0<=q.1/\q.1<n)->0<=(cW P s xs).1/\(cW P s xs).1<n
 | [],s,h0,h1,_=>⟨h0,h1⟩
 | x::xs,s,h0,h1,h=>C7 P xs (lN P s x) (h x List.mem_cons_self).1 (h x List.mem_cons_self).2 λq hq=>h q (List.mem_cons_of_mem _ hq)
noncomputable def rF(P:Pl)(z:List (Int×Int)):Prop:=∀q∈z,0<=q.1/\q.1<P.rc.length/\0<=q.2/\q.2<=1000
noncomputable def YC(K:PySem.W.Frag)(cs:List Addr):Sp:=λvs H Q _=>∃(C p:Addr) (P:Pl) (fp:List Addr) (r c b:Int),vs = [.ref p,.int r,.int c,.int b]/\C∈cs/\bV K C H p P fp/\jD P/\0<=r/\r<P.rc.length/\0<=c/\c<=1000/\Q (.int (vh P r c b)) H
noncomputable def YD(K:PySem.W.Frag)(cs:List Addr):Sp:=λvs H Q _=>∃(C p:Addr) (P:Pl) (fp:List Addr) (r b:Int) (ca:Addr) (vn:List Addr) (cz:List (Int×Int)),vs = [.ref p,.int r,.int b,.ref ca]/\C∈cs/\bV K C H p P fp/\jD P/\0<=r/\r<P.rc.length/\
 Zn H ca vn cz/\rF P cz/\cz.length<=1000/\∀l ts H',ah H H'->H l=none->(∀t∈ts,H t=none)->Zt H' l ts (fE P (r,b) cz)->Q (.ref l) H'
theorem YE{z:List (Int×Int)}(zl:ZL z){aq sk:Int}{sw:List Int}{nc:List (Int×Int)}(l1:1<=aq)(so:SwOk sw (z.map (·.1)).sum):jD ⟨counts z,aq,sk,sw,nc⟩:=by
 have cl:=o7 z λp hp=>(zl.ok.r p hp).1;have L4:=zl.sm;have c2:=zl.ok.s2;refine⟨by dsimp only;lia,by dsimp only;lia,λi hi=>?_,l1,by dsimp only;rw[cl];exact so⟩
 obtain⟨y,hy,e⟩:=rB (get_mem (CW (counts z) hi));have:=zl.ok.r y hy;dsimp only;lia
section
variable{α:Type}{lt:α->α->Prop}
noncomputable def put(f:Nat->α)(k:Nat)(x:α):Nat->α:=λi=>if i=k then x else f i
end
noncomputable abbrev Th:=Int×List Int×Int
noncomputable def C8(a b:Th):Prop:=a.1<b.1\/(a.1=b.1/\(_H.lexLt a.2.1 b.2.1=true\/(a.2.1=b.2.1/\a.2.2<b.2.2)))
section
open PySem.SeqAt PySem.MeetsSeq PySem.MeetsSeq2 PySem.MeetsSeq3
open PySem.AutoSeq1 (wpAny_loadPart')
end
section
variable{prog:Program}{w:World}{A:Around}{E:Value->Shared->Prop}{s:Shared}
end
noncomputable def L5(H:Hp)(a:Addr)(t:Th):Prop:=∃p,H a=some (.tup [.int t.1,.ref p,.int t.2.2])/\H p=some (.tup (t.2.1.map V.int))
noncomputable instance (a b:Th):Decidable (C8 a b):=by unfold C8;infer_instance
section
variable{X:Cx}{pins:List (Addr×Obj)}{σ:St}{H:Hp}{s:Shared}
end
section
variable{X:Cx}
noncomputable abbrev Zs:=List (Addr×Th)
noncomputable def zV(zs:Zs):List V:=zs.map λz=>V.ref z.1
noncomputable def YF(H:Hp)(zs:Zs):Prop:=∀z,z∈zs->L5 H z.1 z.2
noncomputable def agQ:V->List V->Hp->VK->Prop:=λx vs H Q=>∃l a zs t,x = .ref l/\vs = [.ref a]/\H l=some (.lst (zV zs))/\YF H zs/\L5 H a t/\t∈zs.map (·.2)/\
 ∀(k:Nat) (h:k<zs.length),zs[k].2=t->Q .aJ (upd H l (.lst (zV (zs.eraseIdx k))))
end
noncomputable def L6(a b:Addr×Th):Prop:=C8 a.2 b.2
noncomputable instance (a b:Addr×Th):Decidable (L6 a b):=by unfold L6;infer_instance
section
variable{H H':Hp}{l a:Addr}{zs ys:Zs}{t:Th}{k:Nat}
end
structure rG(K:PySem.W.Frag)(x qual:Str)(st:Stmt)(f:Addr)(fd:FuncData):Prop where
 ex:∃(oc:Value) (od:Option Addr) (dV kV doc pm:Value) (an:Option Addr) (aK ct:Value) (gq:Array (Option Value)),
  fd=PySem.W.fnOf x qual (gr st) (fc st) (aN st) dV kV doc pm an aK ct/\K.lookup f=some ⟨oc,od,.func fd,gq⟩/\PySem.W.codeIn K aK qual=true
 kp:PySem.W.keepIn K (.ref f)=true
section
variable{P:Program}{w:World}{K:PySem.W.Frag}{mg:Str->Option Value}{base:Heap}
theorem rG.ok{x qual:Str}{st:Stmt}{f:Addr}{fd:FuncData}{N ps:List Str}{k:Nat}{sp:Sp}(F:rG K x qual st f fd)(S:aX N ps (aN st))(len:∀vs H Q E,sp vs H Q E->vs.length=ps.length)
  (kI:∀(aK:Value) (A:Around) (outer:List Env) (s:Shared) (H:Hp) (vs:List V) (Q:VK) (E:XK),cy k (A.deeper (envOfC qual (aN st) s.heap.objs.size f aK))->sp vs H Q E->
   ∃t,fz (gn a_ P w K mg base N qual (aN st) f aK A outer s H E).lB (fc st) t/\t { nx:=λ_ H'=>Q .aJ H',rt:=Q } (start N vs) H):aR P w K mg base a_ (k+1) f fd ps sp:=by
 obtain⟨oc,od,dV,kV,doc,pm,an,aK,ct,gq,rfl,lk,dM⟩:=F.ex;refine Ck lk dM S len λA outer s H vs Q E hr gB=>?_;obtain⟨t,h,q⟩:=kI aK A outer s H vs Q E hr gB;exact⟨t,h.lB,q⟩
theorem L8{x qual:Str}{st:Stmt}{f:Addr}{oc:Value}{od an:Option Addr}{gq:Array (Option Value)}{dV kV doc pm aK ct:Value}(l:K.lookup f=some ⟨oc,od,.func (PySem.W.fnOf x qual (gr st) (fc st) (aN st) dV kV doc pm an aK ct),gq⟩)
  (c:PySem.W.codeIn K aK qual=true) (k:PySem.W.keepIn K (.ref f)=true):rG K x qual st f (PySem.W.fnOf x qual (gr st) (fc st) (aN st) dV kV doc pm an aK ct):=⟨⟨oc,od,dV,kV,doc,pm,an,aK,ct,gq,rfl,l,c⟩,k⟩
end
section
variable{X:Cx}
theorem YG{xs:List Bool}{aA:List Value}(r:Vals (xs.map V.bl) aA):aA=xs.map Value.bool:=by
 induction xs generalizing aA with
 | nil=>cases r;rfl
 | cons b xs ih =>
  cases r with
  | cons r1 r2=>cases (show _=Value.bool b from r1);rw[ih r2];rfl
theorem YH(hc:X.calm=true):gk X (.builtin "any") (λxs H Q=>∃(p:Addr) (bs:List Bool),xs = [.ref p]/\aE X.K H p (bs.map V.bl)/\Q (.bl (bs.any id)) H):=by
 intro pins s σ H xs us Q I r h;obtain⟨p,bs,rfl,hq,q⟩:=h;obtain⟨u,rfl,ru⟩:=vals1 r;cases ru;obtain⟨aA,rv,pl,hz⟩:=I.list hq;have eb:=YG rv;subst eb;have YI:p<s.heap.objs.size:=by obtain⟨_,q1,_⟩:=pl.isList;exact Heap.lt_size q1
 refine call_any_walk (wpAny_pyIter_list pl.isList ?_);refine⟨s.heap.objs.size,[s.heap.objs.size,p],[s.heap.objs.size],(bs.map Value.bool).toArray.size,_,_,λi=>(bs[i]?).getD false,rfl,Walks.list (A:=X.A.in1) (I.ok.hd hc) _ p (Nat.ne_of_lt YI) (bs.map Value.bool).toArray,
  ⟨⟨_,Heap.get?_push_size _ rfl,rfl,rfl⟩,pl.isList.push _⟩,λi v s2 Q2 E2 YJ hw=>?_,λh' tk hk=>?_⟩
 ·have YK:(bs.map Value.bool)[i]? = some v:=by simpa using YJ
  obtain⟨b,eb,rfl⟩:=iH YK;simp only[eb,Option.getD_some] at hw;exact wpAny_truthy_bool hw
 ·have e:((List.range (bs.map Value.bool).toArray.size).any λi=>(bs[i]?).getD false)=bs.any id:=by
   rw[List.size_toArray,List.length_map];exact LSm.range_any bs
  rw[e];exact⟨.bl (bs.any id),H,I.kept (LSm.kept_iter hk),rfl,q⟩
noncomputable def YL(ta:TA):TE:=λσ H Q=>ta σ H λvs H1=>∃i j:Int,vs = [.int i,.int j]/\(-1000000000000<i/\i<1000000000000/\-1000000000000<j/\j<1000000000000)/\(j - i).toNat<=1000000/\
 ∀l,H1 l=none->Q (.ref l) (upd H1 l (.lst ((List.range (j - i).toNat).map λ(k:Nat)=>V.int (i+(k:Int)))))
theorem YM{F:Nat->V}{acc:Array Value}{n:Nat}(h:ItemsOf (λi v=>RelV (F i) v) acc n):Vals ((List.range n).map F) acc.toList:=by
 obtain⟨h1,h2⟩:=h;have:∀(m:Nat) (l:List Value) (k:Nat),l.length=m->(∀j v,l[j]? = some v->RelV (F (k+j)) v)->Vals ((List.range' k m).map F) l:=by
  intro m
  induction m with
  | zero=>intro l k hl _;rw[List.eq_nil_of_length_eq_zero hl];exact .nil
  | succ m ih =>
   intro l k hl hh;cases l with
   | nil=>cases hl
   | cons v l =>
    rw[List.range'_succ,List.map_cons];refine .cons (hh 0 v rfl) (ih l (k+1) (by simpa using hl) λj w hj=>?_)
    have:=hh (j+1) w (by simpa using hj)
    rwa [show k+(j+1)=k+1+j by lia] at this
 have e:=this n acc.toList 0 (by simpa using h1) λj v hj=>by rw[Nat.zero_add];exact h2 j v (by simpa using hj)
 rwa [← List.range_eq_range'] at e
theorem YN{a b:Expr}{ta:TA}{p p0 pos YO:Pos}(YQ:Gl X "list")(YR:X.mg "list" = none)(hg:Gl X "range")(hm:X.mg "range" = none)(hc:X.calm=true)(ha:PA X [a,b] ta)
  (hs:starEach [a,b] X.env = [(false,eval a X.env),(false,eval b X.env)]:=by rfl) (iy:starEach [b] X.env = [(false,eval b X.env)]:=by rfl)
  (vo:starEach [.Call (.Name "range" p) [a,b] [] pos] X.env = [(false,eval (.Call (.Name "range" p) [a,b] [] pos) X.env)]:=by rfl) :
  PE X (.Call (.Name "list" p0) [.Call (.Name "range" p) [a,b] [] pos] [] YO) (YL ta):=by
 intro pins s σ H Q I h;refine Call_ (kF I YQ YR boot_list (PyProof.Rows.callWith_type1 ?_ vo rfl));rw[vo];refine Calls.spliced_cons ?_;refine Call_ (kF I hg hm boot_range (PyProof.Rows.callWith_type1 (aI (ha pos pins s σ H _ I h) λus s1 ⟨vs,H1,I1,r1,q1⟩=>?_) (by rw[hs,iy]) (by rw[iy];rfl)))
 obtain⟨i,j,e,⟨b1,b2,b3,b4⟩,hn,q⟩:=q1;subst e;obtain⟨u,v,rfl,ru,rv⟩:=vals2 r1;obtain⟨t,rfl⟩:=ru;obtain⟨t',rfl⟩:=rv;refine call_range_2 ?_;refine Calls.spliced_nil ?_;have hr:=IsRange.new s1.heap i j 1 t t' s1.toks;have en:Builtin.Range.rangeSize i j 1=(((j - i).toNat:Nat):Int):=by rw[rangeSize_one];split <;> lia
 refine call_list_range (I.ok.hd hc) hr (small_one (by lia) (by lia) (by lia) (by lia)) en (by lia) λh' tk acc c hk hS oW=>?_
 have k2:∀b o,s1.heap.get? b=some o->h'.get? b=some o:=λb o e=>hk b o (Heap.get?_push_of_some _ e);have sz:(s1.heap.push { cls:=.type "range",data:=.fields #[.int i t,.int j t',.int 1 s1.toks] }).objs.size=s1.heap.objs.size+1:=by simp[Heap.push]
 rw[sz] at hS ⊢;have vl:Vals ((List.range (j - i).toNat).map λ(k:Nat)=>V.int (i+(k:Int))) acc.toList:=YM (F:=λ(k:Nat)=>V.int (i+(k:Int))) ⟨oW.1,λj' v hj=>by
  obtain⟨t,e⟩:=oW.2 j' v hj;exact⟨t,by rw[e];congr 1;lia⟩⟩
 refine⟨.ref (s1.heap.objs.size+1),upd H1 (s1.heap.objs.size+1) (.lst ((List.range (j - i).toNat).map λ(k:Nat)=>V.int (i+(k:Int)))),I1.laid k2 (Nat.le_succ _) ?_,rfl,q _ (I1.aG.fresh (Nat.le_succ _))⟩;refine⟨by rw[List.length_map,List.length_range,kM];lia,acc.toList,c,vl,by simpa using hS⟩
end
section
variable{X:Cx}
noncomputable def agR(K:PySem.W.Frag):R2:=λx y H Q=>∃l k xs,x = .ref l/\y = .int k/\H l=some (.tup xs)/\xs≠[]/\xs.length<=1000/\1<=k/\k<=1000/\∀p H',ah H H'->H' p=some (.tup (List.replicate k.toNat xs).flatten)->Q (.ref p) H'
end
structure Ak where
 kind:Str
 first:Int
 many:Int
 marks:List Int
 at_:Int
 aY:Int
 C9:Option Int
 behind:List Int
 early:Bool
noncomputable def o9:Option Int->V
 | none=>.aJ
 | some i=>.int i
noncomputable def fQ(q:Ak)(m b:Addr):List (Str×V):=[("kind",.str q.kind),("first",.int q.first),("many",.int q.many),("marks",.ref m),("at",.int q.at_),("asker",.int q.aY),("latest",o9 q.C9),("behind",.ref b),("early",.bl q.early)]
structure dH(K:PySem.W.Frag)(C:Addr)(H:Hp)(p:Addr)(q:Ak)(m b dx:Addr):Prop where
 o:H p=some (.ins C dx (fQ q m b))
 ms:H m=some (.tup (q.marks.map V.int))
 bh:H b=some (.tup (q.behind.map V.int))
theorem dH.same{K:PySem.W.Frag}{C:Addr}{H H':Hp}{p:Addr}{q:Ak}{m b dx:Addr}(h:dH K C H p q m b dx)(s:ah H H'):dH K C H' p q m b dx:=⟨s _ _ h.o,s _ _ h.ms,s _ _ h.bh⟩
theorem YS{K:PySem.W.Frag}{C:Addr}{H H1:Hp}{x dx m b:Addr}{q:Ak}(s:ah H H1)(nx:H1 x=none)(lO:H1 dx=none)(fh:dx≠x)(hm:H1 m=some (.tup (q.marks.map V.int)))(hb:H1 b=some (.tup (q.behind.map V.int))) :
  ah H (upd (upd (upd H1 dx (.own x)) x (.ins C dx [])) x (.ins C dx (fQ q m b)))/\H x=none/\dH K C (upd (upd (upd H1 dx (.own x)) x (.ins C dx [])) x (.ins C dx (fQ q m b))) x q m b dx:=by
 have s1:=ah.put (o:=.own x) lO;have YT:upd H1 dx (.own x) x=none:=by rw[aC (Ne.symm fh)];exact nx
 have s2:ah H1 (upd (upd (upd H1 dx (.own x)) x (.ins C dx [])) x (.ins C dx (fQ q m b))):=ah.put2 (s1.trans (ah.put YT)) nx;exact⟨s.trans s2,s.free nx,⟨aD,s2 _ _ hm,s2 _ _ hb⟩⟩
structure kO(ns:List Int):Prop where
 up:ns.Pairwise (· < ·)
 lo:∀n∈ns,0<=n
 hi:∀n∈ns,n<=99
theorem kO.nil:kO []:=⟨.nil,(λ_ h=>nomatch h),λ_ h=>nomatch h⟩
noncomputable def rH(x:Int)(ns:List Int)(i:Nat):Int:=if i=0 then x else ns.getD (i - 1) 0
theorem kO.step{ns:List Int}(h:kO ns){i:Nat}{n:Int}(e:ns[i]? = some n):rH (-1) ns i+1<=n/\n<=99:=by
 refine⟨?_,h.hi n (get_mem e)⟩;unfold rH;split
 ·have:=h.lo n (get_mem e);lia
 ·have hi:=gH e;obtain⟨h1,e1⟩:=List.getElem?_eq_some_iff.mp e;have e2:ns.getD (i - 1) 0=ns[i - 1]:=by simp[List.getD_eq_getElem?_getD,List.getElem?_eq_getElem (show i - 1<ns.length by lia)]
  have:=List.pairwise_iff_getElem.mp h.up (i - 1) i (by lia) h1 (by lia)
  rw[e2];lia
theorem YU{x:Int}{ns:List Int}{i:Nat}{n:Int}(e:ns[i]? = some n):rH x ns (i+1)=n:=by
 simp[rH,List.getD_eq_getElem?_getD,e]
noncomputable def L_(K:PySem.W.Frag)(H:Hp)(v:V)(ns:List Int):Prop:=(v = .aJ/\ns = [])\/∃a,v = .ref a/\(aE K H a (ns.map V.int)\/H a=some (.tup (ns.map V.int)))
structure vp(first many at_ aY:Int)(YV:Option Int):Prop where
 f0:0<=first
 f1:first<=1000000
 m0:1<=many
 m1:many<=16
 a0:0<=at_
 a1:at_<=1000000000000
 s0:0<=aY
 s1:aY<=20
 l:∀x,YV=some x->0<=x/\x<=10000000000000
noncomputable def YW:Sp:=λvs H Q _=>∃(n lo hi:Int) (w:Str),vs = [.int n,.int lo,.int hi,.str w]/\lo<=n/\n<=hi/\Q .aJ H
noncomputable def YX(K:PySem.W.Frag):Sp:=λvs H Q _=>∃(b:Addr) (ns:List Int),vs = [.ref b]/\aQ K H b (ns.map V.int)/\kO ns/\Q .aJ H
noncomputable def YY(K:PySem.W.Frag):Sp:=λvs H Q _=>∃(f m a s:Int) (l:Option Int) (b:Addr) (ns:List Int),vs = [.int f,.int m,.int a,.int s,o9 l,.ref b]/\vp f m a s l/\aQ K H b (ns.map V.int)/\kO ns/\Q .aJ H
noncomputable def YZ(K:PySem.W.Frag):Sp:=λvs H Q _=>∃(v:V) (ns:List Int),vs = [v]/\L_ K H v ns/\∀b H',ah H H'->H' b=some (.tup (ns.map V.int))->Q (.ref b) H'
noncomputable def Y0(C:Addr):Sp:=λvs H Q _=>∃(p dx:Addr) (v1 v2 v3 v4 v5 v6 v7 v8 v9:V),vs = [.ref p,v1,v2,v3,v4,v5,v6,v7,v8,v9]/\H p=some (.ins C dx [])/\
 Q .aJ (upd H p (.ins C dx [("kind",v1),("first",v2),("many",v3),("marks",v4),("at",v5),("asker",v6),("latest",v7),("behind",v8),("early",v9)]))
noncomputable def Y3(K:PySem.W.Frag)(C:Addr):Sp:=λvs H Q _=>∃(f m a s:Int) (l:Option Int) (bv:V) (ns:List Int),vs = [.int f,.int m,.int a,.int s,o9 l,bv]/\vp f m a s l/\L_ K H bv ns/\kO ns/\
 ∀p mk b dx H',ah H H'->H p=none->dH K C H' p ⟨"read",f,m,[],a,s,l,ns,false⟩ mk b dx->Q (.ref p) H'
noncomputable def o_(x y:Ak):Bool:=decide ((x.kind = "write"\/y.kind = "write")/\x.first<y.first+y.many/\y.first<x.first+x.many)
noncomputable def Y4(K:PySem.W.Frag)(C:Addr):Sp:=λvs H Q _=>∃(p r:Addr) (x y:Ak) (m b dx m' b' dG:Addr),vs = [.ref p,.ref r]/\dH K C H p x m b dx/\dH K C H r y m' b' dG/\Q (.bl (o_ x y)) H
theorem vq(n:Int):∀ms:List Int,uJ (.int n) (ms.map V.int)=decide (n∈ms)
 | []=>rfl
 | m::ms=>by
  have ih:=vq n ms;unfold uJ at ih ⊢;rw[List.map_cons,List.any_cons,ih,Bool.eq_iff_iff];simp only[iC,Bool.or_eq_true,beq_iff_eq,decide_eq_true_eq,List.mem_cons];constructor
  ·rintro(h | h)
   ·exact .inl h.symm
   ·exact .inr h
  ·rintro(h | h)
   ·exact .inl h.symm
   ·exact .inr h
theorem C_(ms:List Int):(ms.map V.int).all jV=true:=by simp[jV]
theorem Y5{X:Cx}{K:PySem.W.Frag}(h:X.K=K):cG X (compareOp .In) (uK K false):=h▸WO
theorem Y6{X:Cx}{K:PySem.W.Frag}(h:X.K=K):cG X (compareOp .NotIn) (uK K true):=h▸K3
section
variable{K:PySem.W.Frag}{tl:TE}{g:TG}{tb:TS}{D:Ends}{σ:St}{H:Hp}
theorem rt(a:Addr)(xs:List V)(Pv:Nat->St->Hp->Prop)(jC:∀Q:VK,Q (.ref a) H->tl σ H Q)(eE:aQ K H a xs)(h0:Pv 0 σ H)(hl:∀i σ H,i<=xs.length->Pv i σ H->aQ K H a xs)
  (hs:∀i x σ H (N:St->Hp->Prop),(∀σ H,Pv (i+1) σ H->N σ H)->xs[i]? = some x->Pv i σ H->g x σ H λau H2=>tb { D with nx:=N,ct:=N,bk:=D.nx } au H2) (hd:∀σ H,Pv xs.length σ H->D.nx σ H):gW (B5 K tl) g tb D σ H :=
 jC _ ⟨a,rfl,⟨xs,eE⟩,VU Pv h0 hl (λi x σ H hx p=>hs i x σ H _ (λ_ _ z=>z) hx p) hd⟩
end
noncomputable def f2(o:Obj):Option Value:=match o.data with
 | .fields vs=>vs[2]?
 | _=>none
noncomputable def Dk(h h':Heap):Prop:=∀(b:Nat) (o:Obj),h.objs[b]? = some o->∃o':Obj,h'.objs[b]? = some o'/\o'.dict=o.dict/\f2 o' = f2 o
theorem Dk.refl(h:Heap):Dk h h:=λ_ o e=>⟨o,e,rfl,rfl⟩
theorem Dk.push{h h':Heap}(k:Dk h h')(o:Obj):Dk h (h'.push o):=λb ob e=>by
 obtain⟨o',e',d⟩:=k b ob e;refine⟨o',?_,d⟩
 show (h'.objs.push o)[b]? = some o';rw[Array.getElem?_push];have:b<h'.objs.size:=(Array.getElem?_eq_some_iff.mp e').1;rw[if_neg (by lia)];exact e'
theorem Dk.upd{h h':Heap}(k:Dk h h'){a:Addr}{f:Obj->Obj}(hf:∀o,(f o).dict=o.dict/\f2 (f o)=f2 o):Dk h (h'.update a f):=λb ob e=>by
 obtain⟨o',e',d⟩:=k b ob e;by_cases hb:a=b
 ·subst hb;exact⟨f o',by show (h'.objs.modify a f)[a]? = _;rw[Array.getElem?_modify,if_pos rfl,e'];rfl,(hf o').1.trans d.1,(hf o').2.trans d.2⟩
 ·exact⟨o',by show (h'.objs.modify a f)[b]? = _;rw[Array.getElem?_modify,if_neg hb];exact e',d⟩
theorem Ma{h:Heap}{a:Addr}{o:Obj}(e:h.get? a=some o):h.objs[a]? = some o:=by
 unfold Heap.get? at e;split at e
 ·cases e
 ·exact e
theorem Dk.at{h h':Heap}(k:Dk h h'){a:Addr}{o o':Obj}(e:h.get? a=some o)(e':h'.get? a=some o'):o'.dict=o.dict/\f2 o' = f2 o:=by
 obtain⟨o2,q,d⟩:=k a o (Ma e);have:=Ma e';rw[q] at this;cases this;exact d
noncomputable def KD{α:Type}:Sem α->Prop
 | .pure _=>True
 | .raise _=>True
 | .unsupported _=>True
 | .finish _=>True
 | .rule _ k=>KD (k ())
 | .at _ k=>KD (k ())
 | .load _ _ k=>∀o,KD (k o)
 | .update _ _ f k=>(∀o,(f o).dict=o.dict/\f2 (f o)=f2 o)/\KD (k ())
 | .alloc _ k=>∀a,KD (k a)
 | .loadIfAlive _ k=>∀o,KD (k o)
 | .point _ k=>KD (k ())
 | .register _ _=>True
 | .fresh k=>∀t,KD (k t)
 | .ask k=>∀x,KD (k x)
 | .choose _ _ k=>∀n,KD (k n)
 | .os _ _ k=>∀r,KD (k r)
 | .call .. => False
 | .handled _ k=>∀x,KD (k x)
 | .newGen _ k=>∀n,KD (k n)
 | .genState _ k=>∀x,KD (k x)
 | .resume .. => False
 | .yield .. => True
 | .stack k=>∀x,KD (k x)
 | .fork .. => True
 | .thread k=>∀n,KD (k n)
 | .await .. => True
theorem KD.wp{α:Type}{M:Model}{Γ:PySem.Ctx}{Q:α->Pos->Shared->Prop}{E:Value->Pos->Shared->Prop}{h0:Heap}(t:Sem α):KD t->∀p (s:Shared),Dk h0 s.heap->Sem.wp M Γ t Q E p s->
  Sem.wp M Γ t (λa p s'=>Q a p s'/\Dk h0 s'.heap) (λe p s'=>E e p s'/\Dk h0 s'.heap) p s:=by
 induction t with
 | pure a=>exact λ_ p s d h=>by rw[Sem.wp] at h ⊢;exact⟨h,d⟩
 | raise e=>exact λ_ p s d h=>by rw[Sem.wp] at h ⊢;exact⟨h,d⟩
 | unsupported _=>exact λ_ p s d h=>by rw[Sem.wp] at h;exact h.elim
 | finish _=>exact λ_ p s d h=>by rw[Sem.wp] at h;exact h.elim
 | rule _ k ih=>exact λq p s d h=>by rw[Sem.wp] at h ⊢;exact ih () q p s d h
 | «at» _ k ih=>exact λq p s d h=>by rw[Sem.wp] at h ⊢;exact ih () q _ s d h
 | load a _ k ih=>exact λq p s d h=>by rw[Sem.wp] at h ⊢;obtain⟨o,e,h⟩:=h;exact⟨o,e,ih o (q o) p s d h⟩
 | update a _ f k ih=>exact λq p s d h=>by rw[Sem.wp] at h ⊢;exact⟨h.1,ih () q.2 p _ (d.upd q.1) h.2⟩
 | alloc o k ih=>exact λq p s d h=>by rw[Sem.wp] at h ⊢;exact ih _ (q _) p _ (d.push o) h
 | loadIfAlive a k ih=>exact λq p s d h=>by rw[Sem.wp] at h ⊢;exact ih _ (q _) p s d h
 | point _ k ih=>exact λq p s d h=>by rw[Sem.wp] at h ⊢;exact ih () q p s d h
 | register _ k ih=>exact λq p s d h=>by rw[Sem.wp] at h;exact h.elim
 | fresh k ih=>exact λq p s d h=>by rw[Sem.wp] at h ⊢;exact ih _ (q _) p _ d h
 | ask k ih=>exact λq p s d h=>by rw[Sem.wp] at h ⊢;exact ih _ (q _) p _ d h
 | choose src n k ih=>exact λq p s d h=>by rw[Sem.wp] at h ⊢;exact⟨h.1,ih _ (q _) p _ d h.2⟩
 | os r _ k ih=>exact λq p s d h=>by rw[Sem.wp] at h ⊢;exact ih _ (q _) p _ d h
 | call c hd g l k ih=>exact λq p s d h=>False.elim q
 | handled own k ih=>exact λq p s d h=>by rw[Sem.wp] at h ⊢;exact ih _ (q _) p _ d h
 | newGen c k ih=>exact λq p s d h=>by rw[Sem.wp] at h ⊢;exact ih _ (q _) p _ d h
 | genState g k ih=>exact λq p s d h=>by rw[Sem.wp] at h ⊢;obtain⟨o,e,h⟩:=h;exact⟨o,e,ih _ (q _) p s d h⟩
 | resume g r l k ih=>exact λq p s d h=>False.elim q
 | yield v g l k ih=>exact λq p s d h=>by rw[Sem.wp] at h;exact h.elim
 | stack k ih=>exact λq p s d h=>by rw[Sem.wp] at h ⊢;exact ih _ (q _) p _ d h
 | fork c k ih=>exact λq p s d h=>by rw[Sem.wp] at h;exact h.elim
 | thread k ih=>exact λq p s d h=>by rw[Sem.wp] at h ⊢;exact ih _ (q _) p _ d h
 | await a t d l k ih=>exact λq p s d h=>by rw[Sem.wp] at h;exact h.elim
theorem KD.any{α:Type}{M:Model}{A:Around}{t:Sem α}{Q:α->Shared->Prop}{E:Value->Shared->Prop}{s:Shared}(k:KD t)(h:wpAny M A t Q E s):wpAny M A t (λa s'=>Q a s'/\Dk s.heap s'.heap) (λe s'=>E e s'/\Dk s.heap s'.heap) s :=
 λΓ p Y7=>k.wp (h0:=s.heap) t p s (Dk.refl _) (h Γ p Y7)
theorem KD.bind{α β:Type}{f:α->Sem β}(hf:∀a,KD (f a)):∀(m:Sem α),KD m->KD (m >>= f):=by
 intro m
 show KD m->KD (Sem.bind m f)
 induction m with
 | pure a=>exact λ_=>hf a
 | raise e=>exact λ_=>trivial
 | unsupported _=>exact λ_=>trivial
 | finish _=>exact λ_=>trivial
 | rule _ k ih=>exact λq=>ih () q
 | «at» _ k ih=>exact λq=>ih () q
 | load a _ k ih=>exact λq o=>ih o (q o)
 | update a _ f k ih=>exact λq=>⟨q.1,ih () q.2⟩
 | alloc o k ih=>exact λq a=>ih a (q a)
 | loadIfAlive a k ih=>exact λq o=>ih o (q o)
 | point _ k ih=>exact λq=>ih () q
 | register _ k ih=>exact λq=>trivial
 | fresh k ih=>exact λq a=>ih a (q a)
 | ask k ih=>exact λq a=>ih a (q a)
 | choose src n k ih=>exact λq a=>ih a (q a)
 | os r _ k ih=>exact λq a=>ih a (q a)
 | call c hd g l k ih=>exact λq=>q
 | handled own k ih=>exact λq a=>ih a (q a)
 | newGen c k ih=>exact λq a=>ih a (q a)
 | genState g k ih=>exact λq a=>ih a (q a)
 | resume g r l k ih=>exact λq=>q
 | yield v g l k ih=>exact λq=>trivial
 | stack k ih=>exact λq a=>ih a (q a)
 | fork c k ih=>exact λq=>trivial
 | thread k ih=>exact λq a=>ih a (q a)
 | await a t d l k ih=>exact λq=>trivial
theorem KD.ite{α:Type}{c:Prop}[Decidable c]{a b:Sem α}(ha:KD a)(hb:KD b):KD (if c then a else b):=by split <;> assumption
theorem Dc{i:Nat}(hi:i≠2)(v:Value)(o:Obj):(Obj.mapFields (·.setIfInBounds i v) o).dict=o.dict/\f2 (Obj.mapFields (·.setIfInBounds i v) o)=f2 o:=by
 obtain⟨c,d,dt,sl⟩:=o;cases dt <;> first | exact⟨rfl,rfl⟩ | (refine⟨rfl,?_⟩;show (Array.setIfInBounds _ i v)[2]? = _;rw[Array.getElem?_setIfInBounds_ne hi];rfl)
theorem KD.then{α β:Type}{m:Sem α}{f:α->Sem β}(hm:KD m)(hf:∀a,KD (f a)):KD (m >>= f):=KD.bind hf m hm
theorem vt(v:Value)(i:Nat):KD (field v i):=by
 unfold field fieldsOf load;repeat' first | exact trivial | exact λ_=>trivial | assumption | exact⟨Dc (by assumption) _,trivial⟩ | exact⟨λ_=>⟨rfl,rfl⟩,trivial⟩ | refine KD.ite ?_ ?_ | refine KD.then ?_ λ_=>?_ | split
theorem De(v:Value){i:Nat}(hi:i≠2)(x:Value):KD (setField v i x):=by
 unfold setField updateField load update;repeat' first | exact trivial | exact λ_=>trivial | assumption | exact⟨Dc (by assumption) _,trivial⟩ | exact⟨λ_=>⟨rfl,rfl⟩,trivial⟩ | refine KD.ite ?_ ?_ | refine KD.then ?_ λ_=>?_ | split
theorem Df(e:Value)(f:Option Addr):KD (setFlight e f):=by
 have h1:=vt e 1;unfold setFlight;refine KD.then h1 λtb=>KD.ite ?_ ?_
 ·exact De _ (by decide) _
 ·trivial
theorem Mb:∀l,KD (readyFrames l)
 | []=>trivial
 | env::outer=>by
  have ih:=Mb outer;have hf:=λv i=>vt v i;unfold readyFrames;split
  ·refine KD.then (λ_=>trivial) λo=>?_
   refine KD.ite trivial ?_;refine KD.then ?_ λi=>KD.then ?_ λb=>?_
   ·unfold behindIsImport;refine KD.ite trivial (KD.ite trivial ?_);exact KD.then (hf _ _) λ_=>(trivial:KD (.pure _))
   ·unfold keptBack underTheClaimsCaller stack;split
    ·refine KD.ite trivial ?_;refine KD.then ?_ λ_=>(trivial:KD (.pure _));exact λ_=>trivial
    ·trivial
   ·refine KD.then (m:=update _ _) ⟨λ_=>⟨rfl,rfl⟩,trivial⟩ λ_=>?_
    exact ih
  ·trivial
theorem Y8(env:Env):KD (PySem.frameOf env):=by
 unfold PySem.frameOf;refine KD.then ?_ λl=>?_
 ·unfold frameEnvs stack;exact λ_=>trivial
 ·refine KD.then ?_ λa=>?_
  ·unfold frameObject;split
   ·trivial
   ·refine KD.then (Mb _) λ_=>?_
    trivial
  ·split <;> trivial
theorem Y9(ty:String)(vs:List Value):KD (newFields ty vs):=by
 unfold newFields newObj newObjAsIs alloc;repeat' first | exact trivial | exact λ_=>trivial | assumption | exact⟨Dc (by assumption) _,trivial⟩ | exact⟨λ_=>⟨rfl,rfl⟩,trivial⟩ | refine KD.ite ?_ ?_ | refine KD.then ?_ λ_=>?_ | split
theorem Y_(f:Addr)(b:Bool):KD (entryPlaceOf f b):=by
 unfold entryPlaceOf;refine KD.then (m:=stack) (λ_=>trivial) λl=>?_
 split <;> trivial
theorem Mc(e:Value)(env:Env):KD (noteFrame e env):=by
 have last:∀head f,KD (do setField e 1 (← EntryCells.newEntry head (← PySem.frameOf env) .none (rawInt f) .none (← entryPlaceOf f (head != .none)))):=λhead f =>
  KD.then (Y8 _) λa=>KD.then (Y_ _ _) λp=>KD.then (Y9 _ _) λx=>De _ (by decide) _
 unfold noteFrame;split
 ·refine KD.then (vt _ _) λhead=>?_
  refine KD.ite ?_ ?_
  ·refine KD.then (vt _ _) λx=>?_
   refine KD.ite trivial ?_;refine KD.then (De _ (by decide) _) λ_=>?_
   exact last _ _
  ·exact last _ _
 ·trivial
theorem Me(env:Env)(e:Value):KD (leaving env e):=KD.then (Mc _ _) λ_=>Df _ _
noncomputable def gb(h:Heap)(a:Addr)(od:Option Addr):Prop:=∃oe,h.get? a=some oe/\oe.dict=od.map (· / 2)/\(od.getD 0 % 2=0->f2 oe=some .none)
theorem gb.dk{h h':Heap}{a:Addr}{od:Option Addr}(x:gb h a od)(k:Dk h h')(th:∃o,h'.get? a=some o):gb h' a od :=
 let ⟨_,e,d,c⟩:=x;let ⟨o',e'⟩:=th;⟨o',e',(k.at e e').1.trans d,λy=>(k.at e e').2.trans (c y)⟩
section
variable{M:Model}{A:Around}{E:Value->Shared->Prop}{s:Shared}{base:Heap}{env:Env}{l outer:List Env}{L e:Addr}{cls a0:Value}{od:Option Addr}{Q:Unit->Shared->Prop}
theorem Za(rJ:A.frames=some (env::outer))(hf:env.frame=some L)(Dg:Heap.FlyingW base (env::outer) e cls a0 s.heap)(hd:gb s.heap e od)
  (hQ:∀h',Heap.FlyingW base outer e cls a0 h'->s.heap.UpToSlots h'->gb h' e od->Q () { s with heap:=h' }):wpAny M A (leaving env (.ref e)) Q E s:=by
 refine wpAny_mono ((Me env (.ref e)).any (wpAny_leaves_onW (E:=E) (Q:=λ_ s2=>∃h',Heap.FlyingW base outer e cls a0 h'/\s.heap.UpToSlots h'/\s2 = { s with heap:=h' }) rJ hf Dg λh' x1 x2=>⟨h',x1,x2,rfl⟩)) (λu s2 z=>?_) λ_ _ z=>z.1;obtain⟨⟨h',x1,x2,rfl⟩,k⟩:=z;obtain⟨o,q,_⟩:=x1.there;exact hQ h' x1 x2 (hd.dk k ⟨o,q⟩)
theorem Zb(rJ:A.frames=some (env::outer))(hf:env.frame=some L)(Dg:Heap.FlyingW base (env::outer) e cls a0 s.heap)(hd:gb s.heap e od)
  (hQ:∀h',Heap.HeldW base (env::outer) e cls a0 L h'->s.heap.UpToSlots h'->gb h' e od->Q () { s with heap:=h' }):wpAny M A (noteFrame (.ref e) env) Q E s:=by
 refine wpAny_mono ((Mc (.ref e) env).any (wpAny_looks_onW (E:=E) (Q:=λ_ s2=>∃h',Heap.HeldW base (env::outer) e cls a0 L h'/\s.heap.UpToSlots h'/\s2 = { s with heap:=h' }) rJ hf Dg λh' x1 x2=>⟨h',x1,x2,rfl⟩)) (λu s2 z=>?_) λ_ _ z=>z.1;obtain⟨⟨h',x1,x2,rfl⟩,k⟩:=z;obtain⟨o,q,_⟩:=x1.there;exact hQ h' x1 x2 (hd.dk k ⟨o,q⟩)
theorem Zc(hh:Heap.HeldW base l e cls a0 L s.heap)(hd:gb s.heap e od)
  (hQ:∀h',Heap.FlyingW base l e cls a0 h'->s.heap.UpToSlots h'->gb h' e od->Q () { s with heap:=h' }):wpAny M A (setFlight (.ref e) none) Q E s:=by
 refine wpAny_mono ((Df (.ref e) none).any (wpAny_landsW (E:=E) (Q:=λ_ s2=>∃h',Heap.FlyingW base l e cls a0 h'/\s.heap.UpToSlots h'/\s2 = { s with heap:=h' }) hh λh' x1 x2=>⟨h',x1,x2,rfl⟩)) (λu s2 z=>?_) λ_ _ z=>z.1;obtain⟨⟨h',x1,x2,rfl⟩,k⟩:=z;obtain⟨o,q,_⟩:=x1.there;exact hQ h' x1 x2 (hd.dk k ⟨o,q⟩)
theorem Zd(hh:Heap.FlyingW base l e cls a0 s.heap)(hd:gb s.heap e od)
  (hQ:∀h',Heap.FlyingW base l e cls a0 h'->s.heap.UpToSlots h'->gb h' e od->Q () { s with heap:=h' }):wpAny M A (setFlight (.ref e) none) Q E s:=by
 refine wpAny_mono ((Df (.ref e) none).any (lands_againW (E:=E) (Q:=λ_ s2=>∃h',Heap.FlyingW base l e cls a0 h'/\s.heap.UpToSlots h'/\s2 = { s with heap:=h' }) hh λh' x1 x2=>⟨h',x1,x2,rfl⟩)) (λu s2 z=>?_) λ_ _ z=>z.1;obtain⟨⟨h',x1,x2,rfl⟩,k⟩:=z;obtain⟨o,q,_⟩:=x1.there;exact hQ h' x1 x2 (hd.dk k ⟨o,q⟩)
theorem Ze{oe:Obj}{vs:Array Value}(rJ:A.frames=some (env::outer))(hf:env.frame=some L)(Zf:base.StaysIn s.heap)(hl:s.heap.FunFrames base (env::outer))(he:s.heap.get? e=some oe)(Mf:base.get? e=none)
  (Zg:oe.data = .fields vs) (h1:vs[1]? = some .none) (h0:vs[0]? = some a0) (hd:gb s.heap e od)
  (hQ:∀h',Heap.FlyingW base outer e oe.cls a0 h'->s.heap.UpToSlots h'->gb h' e od->Q () { s with heap:=h' }):wpAny M A (leaving env (.ref e)) Q E s:=by
 refine wpAny_mono ((Me env (.ref e)).any (wpAny_leaving_firstW (E:=E) (Q:=λ_ s2=>∃h',Heap.LeftW base (env::outer) e oe.cls a0 s.heap h'/\s2 = { s with heap:=h' }) rJ hl hf he Zf Mf Zg h1 h0 λh' x=>⟨h',x,rfl⟩)) (λu s2 z=>?_) λ_ _ z=>z.1;obtain⟨⟨h',⟨k1,⟨_,_,k2⟩,k3,k4⟩,rfl⟩,k⟩:=z;have fl:Heap.FlyingW base outer e oe.cls a0 h':=⟨k1,Mf,k2,k3⟩;obtain⟨o,q,_⟩:=fl.there;exact hQ h' fl k4 (hd.dk k ⟨o,q⟩)
end
theorem b5.there{P:Program}{w:World}{H:Hp}{h:Heap}{a:Addr}{o:HO}(x:b5 P w H h)(e:H a=some o):∃u,h.get? a=some u:=by
 have x:=x a o e;cases o with
 | lst xs=>obtain⟨_,_,_,_,e⟩:=x;exact⟨_,e⟩
 | tup xs=>obtain⟨_,_,_,ob,e,_⟩:=x;exact⟨_,e⟩
 | dK kvs=>obtain⟨_,_,_,_,o,_,_,e,_⟩:=x;exact⟨_,e⟩
 | dT kvs=>obtain⟨_,_,_,_,o,_,_,e,_⟩:=x;exact⟨_,e⟩
 | set S n=>obtain⟨o,_,_,_,e,_⟩:=x;exact⟨_,e⟩
 | ins C dx fs=>obtain⟨_,_,_,e,_⟩:=x;exact⟨_,e⟩
 | own y=>obtain⟨_,e⟩:=x;exact⟨_,e⟩
 | xd fs=>obtain⟨_,⟨_,_,_,e,_⟩,_⟩:=x;exact⟨_,e⟩
 | ug lo hi=>obtain⟨_,_,_,e⟩:=x;exact⟨_,e⟩
 | bL ob u=>obtain⟨e,_⟩:=x;exact⟨_,e⟩
 | gQ ps=>exact⟨_,(show h.get? a=some _ from x)⟩
 | met f y=>exact⟨_,(show h.get? a=some _ from x)⟩
 | ext φ=>obtain⟨_,⟨_,e⟩,_⟩:=x;exact⟨_,e⟩
structure Cut(base B:Heap)(outer:List Env)(H H':Hp)(h:Heap):Prop where
 stays:base.StaysIn B
 k1:∀b o,h.get? b=some o->H b=none->b∉b_ outer->B.get? b=some o
 k2:∀b u,H' b=some u->∃o,B.get? b=some o
 k3:∀b o,h.get? b=some o->b∉b_ outer->∃o',B.get? b=some o'
noncomputable def fj(P:Program)(w:World)(base:Heap):f9:=λouter H s E e s' =>
 ∃a C a0 H' B od,e = .ref a/\s'.os=s.os/\AllBare s'.gens/\Un (b_ outer) [] H H' s.heap s'.heap/\b5 P w H' s'.heap/\H' a=none/\s.heap.get? a=none/\
  Cut base B outer H H' s.heap/\Heap.FlyingW B outer a (.ref C) a0 s'.heap/\gb s'.heap a od/\E (.ref C) od H'
section
variable{P:Program}{w:World}{K:PySem.W.Frag}{mg:Str->Option Value}{base B:Heap}{N:List Str}{qual:Str}{scope:Scope}{f:Addr}{cd:Value}{A:Around}{outer:List Env}{bB sc s':Shared}{cT Hc H':Hp}{E:XK}
 {pins:List (Addr×Obj)} {σ:St} {a C:Addr} {a0:Value} {h':Heap} {od:Option Addr}
theorem Mg:b_ (envOfC qual scope bB.heap.objs.size f cd::outer)=bB.heap.objs.size::b_ outer:=rfl
theorem Mh(I:Inv (gn (fj P w base) P w K mg base N qual scope f cd A outer bB cT E) pins σ Hc sc)(u:Un (b_ (envOfC qual scope bB.heap.objs.size f cd::outer)) [] Hc H' sc.heap s'.heap)(ho:s'.os=sc.os)(hg:AllBare s'.gens)(aG:b5 P w H' s'.heap)
  (na:H' a=none) (nh:sc.heap.get? a=none) (c:Cut base B (envOfC qual scope bB.heap.objs.size f cd::outer) Hc H' sc.heap) (kB:B.StaysIn s'.heap) (eS:Heap.FlyingW B outer a (.ref C) a0 h') (up:s'.heap.UpToSlots h') (hd:gb h' a od) (hE:E (.ref C) od H') :
  fj P w base outer cT bB E (.ref a) { s' with heap:=h' }:=by
 have J:=I.BS ho u aG hg (λ_ z=>nomatch z);have bs:Un (b_ outer) [] cT Hc bB.heap sc.heap:=I.base;have rK:Un (b_ outer) [] cT H' bB.heap s'.heap:=J.base;have nl:∀b o,bB.heap.get? b=some o->b∉b_ outer->b∉b_ (envOfC qual scope bB.heap.objs.size f cd::outer):=λb o q n z=>by
  rw[Mg] at z;rcases List.mem_cons.mp z with e | z
  ·exact absurd (Heap.lt_size q) (by rw[e];exact Nat.lt_irrefl _)
  ·exact n z
 have k1:∀b o,bB.heap.get? b=some o->cT b=none->b∉b_ outer->B.get? b=some o:=λb o q n hb =>
  c.k1 b o (bs.keep b o q n hb (by simp)) (bs.free b o q n (by simp)) (nl b o q hb)
 have k3:∀b o,bB.heap.get? b=some o->b∉b_ outer->∃o',B.get? b=some o':=λb o q hb =>
  let ⟨o1,q1⟩:=bs.there b o q (by simp);c.k3 b o1 q1 (nl b o q hb)
 have sl:∀b o,bB.heap.get? b=some o->cT b=none->b∈b_ outer->∃sl,h'.get? b=some { o with slots:=sl }:=λb o q n hb=>by
  obtain⟨sl,q1⟩:=rK.slot b o q n hb (by simp)
  obtain⟨_,o2,q2,nf⟩:=I.ok.fY.mem hb;have q2:bB.heap.get? b=some o2:=q2;rw[q] at q2;cases q2;obtain⟨Dh,q3⟩:=up b _ q1 nf;exact⟨Dh,q3⟩
 refine⟨a,C,a0,H',B,od,rfl,J.os,hg,⟨λb o q n hb _=>eS.1 _ _ (k1 b o q n hb),λb o q n hb _=>sl b o q n hb,rK.free,λb o q _=>?_,rK.gS,rK.gT,rK.ir⟩,λb v e=>?_,na,?_,⟨c.stays,k1,c.k2,k3⟩,eS,hd,hE⟩
 ·by_cases hb:b∈b_ outer
  ·obtain⟨sl,q1⟩:=sl b o q (I.ok.iS b hb) hb;exact⟨_,q1⟩
  ·obtain⟨o',q1⟩:=k3 b o q hb;exact⟨o',eS.1 _ _ q1⟩
 ·refine(aG b v e).gR (λd z hd q=>?_) (λ_ q=>q) λ_ _ q=>q;have tr:∃v',H' d=some v':=by
   rcases hd with rfl | hd
   ·exact⟨_,e⟩
   ·exact⟨_,hd⟩
  obtain⟨v',e'⟩:=tr;obtain⟨o,q1⟩:=c.k2 d v' e';have:=kB d o q1;rw[q] at this;cases this;exact eS.1 _ _ q1
 ·cases q:bB.heap.get? a with
  | none=>rfl
  | some o =>
   obtain⟨o1,q1⟩:=bs.there a o q (by simp)
   rw[nh] at q1;cases q1
theorem rL:Passes (fj P w base) (gn (fj P w base) P w K mg base N qual scope f cd A outer bB cT E) E:=by
 intro pins σ H s e s' I hx;obtain⟨a,C,a0,H',B,od,rfl,ho,hg,u,aG,na,nh,c,eS,hd,hE⟩:=hx
 show wpAny _ _ (leaving _ _) _ _ _;exact Za I.ok.frames rfl eS hd λh' x1 x2 x3=>Mh I u ho hg aG na nh c eS.1 x1 x2 x3 hE
theorem Zh{h1:Heap}{vs:List Value}(I:Inv (gn (fj P w base) P w K mg base N qual scope f cd A outer bB cT E) pins σ Hc sc)(hx:Heap.MadeExcOf sc.heap h1 a (.ref C) vs)(hE:E (.ref C) none Hc) :
  (gn (fj P w base) P w K mg base N qual scope f cd A outer bB cT E).xe (.ref a) { sc with heap:=h1 }:=by
 show wpAny _ _ (leaving _ _) _ _ _;have fr:sc.heap.FunFrames base (envOfC qual scope bB.heap.objs.size f cd::outer):=I.stack;have free:∀b∈b_ (envOfC qual scope bB.heap.objs.size f cd::outer),Hc b=none:=λb hb=>by
  rw[Mg] at hb;rcases List.mem_cons.mp hb with rfl | hb
  ·exact I.free
  ·obtain⟨_,o,q,_⟩:=I.ok.fY.mem hb;exact I.base.free b o q (I.ok.iS b hb) (by simp[gn])
 have nb:∀b o,base.get? b=some o->b∉b_ (envOfC qual scope bB.heap.objs.size f cd::outer):=λb o q hm=>by
  have z:=(fr.mem hm).1;rw[q] at z;cases z
 have c:Cut base (PySem.W.hideAll sc.heap (b_ (envOfC qual scope bB.heap.objs.size f cd::outer))) (envOfC qual scope bB.heap.objs.size f cd::outer) Hc Hc sc.heap :=
  ⟨λb o q=>PySem.W.hideAll_get _ (I.bk b o q) (nb b o q),
   λb o q _ hb=>PySem.W.hideAll_get _ q hb,
   λb v e=>let ⟨o,q⟩:=I.aG.there e;⟨o,PySem.W.hideAll_get _ q λhm=>(Option.some_ne_none v (e.symm.trans (free b hm))).elim⟩,
   λb o q hb=>⟨o,PySem.W.hideAll_get _ q hb⟩⟩
 have na:Hc a=none:=by
  cases e:Hc a with
  | none=>rfl
  | some v =>
   obtain⟨o,q⟩:=I.aG.there e;rw[hx.new] at q;cases q
 obtain⟨t,he,htn,ht⟩:=hx.there;refine Ze (s:={ sc with heap:=h1 }) (e:=a) (oe:={ cls:=.ref C,data:=.fields #[.ref t,.none,.none,.none,.bool false,.none] }) (a0:=.ref t) I.ok.frames rfl (base:=PySem.W.hideAll sc.heap (b_ (envOfC qual scope bB.heap.objs.size f cd::outer))) (λb o q=>hx.keeps b o (PySem.W.of_hideAll _ q))
  ((PySem.W.funFrames_hide fr λenv he b hb=>List.mem_filterMap.mpr ⟨env,he,hb⟩).of_keeps λb o hb _=>⟨o,hx.keeps b o hb,rfl⟩) he ?_ rfl rfl rfl (od:=none) ⟨_,he,rfl,λ_=>rfl⟩ λh' x1 x2 x3=>?_
 ·cases q:(PySem.W.hideAll sc.heap (b_ (envOfC qual scope bB.heap.objs.size f cd::outer))).get? a with
  | none=>rfl
  | some o=>have:=PySem.W.of_hideAll _ q;rw[hx.new] at this;cases this
 exact Mh (s':={ sc with heap:=h1 }) I (Un.kept hx.keeps) rfl I.bare (I.aG.kept hx.keeps) na hx.new c (λb o q=>hx.keeps b o (PySem.W.of_hideAll _ q)) x1 x2 x3 hE
end
theorem Zi{K:PySem.W.Frag}{h₀:Heap}{C:Addr}{lP:List Value}{newId:String}(X:K.In h₀)(q:PySem.W.excIn K C lP newId=true) :
  ∃bm N nm q bs hdct sn sub ab col dd k0 k1 k2 k3 k5 mN,h₀.get? C=some (excClassObj nm q C N bs bm hdct sn sub ab col dd k0 k1 k2 k3 k5 newId)/\h₀.Ns N mN/\mN "__init__" = none/\OwnTail h₀ lP bm:=by
 unfold PySem.W.excIn at q;cases e:K.lookup C with
 | none=>rw[e] at q;cases q
 | some o =>
  rw[e] at q;split at q
  ·rename_i dd cd sl ho;cases ho;split at q
   ·rename_i C' bm k0 k1 k2 k3 n k5 hm hs;simp only[Bool.and_eq_true,beq_iff_eq,Bool.not_eq_true'] at q;obtain⟨⟨⟨⟨⟨c1,c2⟩,c3⟩,c4⟩,c5⟩,c6⟩:=q;obtain⟨nm,bs,mro,ns,qn,hd,sn,sub,ab,col,del⟩:=cd;obtain⟨l⟩:=sl;dsimp only at hm hs c3 c5 c6;subst c1 c2 hm c3 hs;exact⟨bm,ns,nm,qn,bs,hd,sn,sub,ab,col,dd,k0,k1,k2,k3,k5,_,X _ _ e,.of_isNs (PySem.W.isNs_of_in X c5),PySem.W.nsMap_none_of_in X c5 c6,PySem.W.tail_of_in X c4⟩
   ·cases q
  ·cases q
noncomputable def Makes(X:Cx)(E:XK):Prop:=∀(pins:List (Addr×Obj)) (σ:St) (H:Hp) (s:Shared) (a C:Addr) (vs:List Value) (h1:Heap),Inv X pins σ H s->Heap.MadeExcOf s.heap h1 a (.ref C) vs->E (.ref C) none H->X.xe (.ref a) { s with heap:=h1 }
noncomputable def Zj(C:Addr)(E:XK)(t:TA):TS:=λ_ σ H=>t σ H λvs H1=>vs.length<=sizeLine/\E (.ref C) none H1
section
variable{X:Cx}{E:XK}{x:Str}{C:Addr}{bm:List Value}{newId Zk B:String}{np cQ pos:Pos}{vv:Expr}{rest:List Expr}{t:TA}
theorem pe(hx:Makes X E)(hg:Gl X x)(hm:X.mg x=some (.ref C))(q:PySem.W.excIn X.K C bm newId=true)(FB:ExcBaseFacts B newId Zk bm)(hc:X.calm=true)(ha:PA X (vv::rest) t)
  (he:starEach (vv::rest) X.env=(false,eval vv X.env)::starEach rest X.env:=by rfl) (e_:(backTo cQ (starEach rest X.env)).any (·.1)=false:=by rfl) (gA:(x == ("__debug__" : Str))=false:=by rfl) :
  PS X (.Raise (some (.Call (.Name x np) (vv::rest) [] cQ)) none pos) (Zj C E t):=by
 intro pins s σ H D I h;obtain⟨tl,N,nm,q,bs,hdct,sn,sub,ab,col,dd,k0,k1,k2,k3,k5,mN,hC,hN,Di,T⟩:=Zi I.mod.gU q;refine wpAny_Raise_call_subT (C:=C) (nm:=nm) (q:=q) (N:=N) (bs:=bs) (bm:=tl) (hdct:=hdct) (sn:=sn) (sub:=sub) (ab:=ab) (col:=col) (dd:=dd) (k0:=k0) (k1:=k1) (k2:=k2) (k3:=k3) (k5:=k5)
  FB (mN:=mN) (T.hasType FB.hasBase) (I.ok.hd hc) (by rw[he];show (false || (backTo cQ (starEach rest X.env)).any (·.1))=false;rw[e_];rfl) Di (mS I hg hm ⟨rfl,?_⟩ gA)
 have hA:=ha cQ pins s σ H _ I h;rw[he] at hA ⊢;refine Calls.evalArgs_plain (wpAny_mono hA (λus iu nC=>?_) λ_ _ y=>y);obtain⟨vs,H1,J,r,hl,hE⟩:=nC;exact⟨rfl,by show us.length<=_;rw[← r.length];exact hl,J.bk _ _ hC,hN.keeps J.bk,T.keeps J.bk,λh' e mx=>hx pins σ H1 iu e C us h' J mx hE⟩
end
theorem Zl{base B:Heap}{l:List Env}{H H':Hp}{h h1 h':Heap}(u:Un (b_ l) [] H H' h h1)(c:Cut base B l H H' h)(kB:B.StaysIn h')(up:h1.UpToSlots h')(ff:∀b∈b_ l,H b=none/\∀o,h.get? b=some o->∀vs,o.data≠.fields vs) :
  Un (b_ l) [] H H' h h':=by
 have sl:∀b o,h.get? b=some o->H b=none->b∈b_ l->∃sl,h'.get? b=some { o with slots:=sl }:=λb o q n hb=>by
  obtain⟨sl,q1⟩:=u.slot b o q n hb (by simp)
  obtain⟨Dh,q3⟩:=up b _ q1 ((ff b hb).2 o q);exact⟨Dh,q3⟩
 refine⟨λb o q n hb _=>kB _ _ (c.k1 b o q n hb),λb o q n hb _=>sl b o q n hb,u.free,λb o q _=>?_,u.gS,u.gT,u.ir⟩;by_cases hb:b∈b_ l
 ·obtain⟨sl,q1⟩:=sl b o q (ff b hb).1 hb;exact⟨_,q1⟩
 ·obtain⟨o',q1⟩:=c.k3 b o q hb;exact⟨o',kB _ _ q1⟩
theorem Zm{P:Program}{w:World}{base B:Heap}{l:List Env}{H H':Hp}{h h1 h':Heap}(aG:b5 P w H' h1)(c:Cut base B l H H' h)(k1:B.StaysIn h1)(kB:B.StaysIn h'):b5 P w H' h':=λb v e=>by
 refine(aG b v e).gR (λd z hd q=>?_) (λ_ q=>q) λ_ _ q=>q;have tr:∃v',H' d=some v':=by
  rcases hd with rfl | hd
  ·exact⟨_,e⟩
  ·exact⟨_,hd⟩
 obtain⟨v',e'⟩:=tr;obtain⟨o,q1⟩:=c.k2 d v' e';have:=k1 d o q1;rw[q] at this;cases this;exact kB _ _ q1
section
variable{X:Cx}{pins:List (Addr×Obj)}{σ:St}{H H':Hp}{s s':Shared}{a C:Addr}{h':Heap}{E:XK}
theorem Inv.ff(I:Inv X pins σ H s):∀b∈b_ X.stack,H b=none/\∀o,s.heap.get? b=some o->∀vs,o.data≠.fields vs:=λb hb =>
 ⟨I.BJ b hb,λo q=>by
  obtain⟨_,o2,q2,nf⟩:=I.stack.mem hb;rw[q] at q2;cases q2;exact nf⟩
noncomputable def Cx.within(X:Cx)(e:Value):Cx:={ X with A:=X.A.mark (some e),calm:=false,xe:=λ_ _=>False }
theorem Inv.within(I:Inv X pins σ H s)(e:Value):Inv (X.within e) pins σ H s :=
 ⟨⟨I.ok.mod,I.ok.kind,I.ok.glob,I.ok.blt,I.ok.above,I.ok.inj,I.ok.has,I.ok.mO,(λz=>nomatch z),I.ok.frames,I.ok.oG,I.ok.oH,I.ok.bs,I.ok.iR,I.ok.mQ,I.ok.mR,I.ok.fY,I.ok.iS⟩,
  I.os,I.bare,I.base,I.loc,I.cell,I.free,I.gz,I.pin,I.aG,I.len⟩
theorem Inv.out{e:Value}(I:Inv (X.within e) pins σ H s)(ok:X.Ok):Inv X pins σ H s :=
 ⟨ok,I.os,I.bare,I.base,I.loc,I.cell,I.free,I.gz,I.pin,I.aG,I.len⟩
noncomputable def pq(a C:Addr):HO:=.ext λh=>∃o,h.get? a=some o/\o.cls = .ref C/\∃vs,o.data = .fields vs/\vs[2]? = some .none
noncomputable def pA(a C:Addr):Option Addr->HO
 | none=>pq a C
 | some k=>.ext λh=>∃o,h.get? a=some o/\o.cls = .ref C/\o.dict=some (k / 2)/\∃vs,o.data = .fields vs/\(k % 2=0->vs[2]? = some .none)
theorem Inv.Zo{φ:Heap->Prop}(I:Inv X pins σ H s)(n:H a=none)(e0:X.bB.heap.get? a=none)(nL:a≠X.env.locals)(nc:∀x c,X.env.cells.lookup x=some c->c≠a)(np:∀p∈X.pn++pins,p.1≠a)(h:φ s.heap)(th:∃o,s.heap.get? a=some o)
  (st:∀h1 h2:Heap,φ h1->(∀o,h1.get? a=some o->h2.get? a=some o)->φ h2):Inv X pins σ (upd H a (.ext φ)) s:=by
 have ne:∀b v,H b=some v->b≠a:=λb v q z=>by rw[z,n] at q;cases q
 have up:∀b v,H b=some v->upd H a (.ext φ) b=some v:=λb v q=>by rw[aC (ne b v q)];exact q
 have un:∀b,b≠a->H b=none->upd H a (.ext φ) b=none:=λb z q=>by rw[aC z];exact q
 refine⟨I.ok,I.os,I.bare,⟨I.base.keep,I.base.slot,λb o q n' hx=>un b (λz=>by rw[z,e0] at q;cases q) (I.base.free b o q n' hx),I.base.there,λb xs q=>up b _ (I.base.gS b xs q),λb o u q=>up b _ (I.base.gT b o u q),λb ps q=>let ⟨m,z⟩:=I.base.ir b ps q;⟨m,up b _ z⟩⟩,
  I.loc,I.cell,un _ (Ne.symm nL) I.free,λx c q=>un c (nc x c q) (I.gz x c q),λp hp=>let ⟨q1,q2,q3⟩:=I.pin p hp;⟨q1,un _ (np p hp) q2,q3⟩,λb v q=>?_,I.len⟩
 by_cases z:b=a
 ·subst z;rw[aD] at q;cases q;exact⟨h,th,st⟩
 ·rw[aC z] at q;exact(I.aG b v q).gR (λ_ _ _ e=>e) (λd e=>up d _ e) λd xs e=>up d _ e
end
noncomputable def XP(P:Program)(w:World)(base:Heap)(X:Cx)(pins:List (Addr×Obj))(σ:St)(E:XK)(e:Value)(s':Shared):Prop:=∃H1 s1,Inv X pins σ H1 s1/\fj P w base X.stack H1 s1 E e s'
noncomputable def Mi(X:Cx)(E:XK)(e:Expr)(t:TE):Prop :=
 ∀(pins:List (Addr×Obj)) (s:Shared) (σ:St) (H:Hp) (Q:VK),Inv X pins σ H s->t σ H Q->wpAny (model X.prog X.w) X.A (eval e X.env) (EP X pins σ Q) (XP X.prog X.w X.base X pins σ E) s
section
variable{X:Cx}{k:Nat}{f C:Addr}{fd:FuncData}{ps:List Str}{sp:Sp}{cA:List V}{ds:List Value}{E:XK}{x m:Str}{p pos apos:Pos}{e o:Expr}{es:List Expr}{ta:TE}{t:TA}
theorem Zp{pins:List (Addr×Obj)}{σ:St}{H:Hp}{s:Shared}{Q:VK}{us:List Value}{vs:List V}(F:aR X.prog X.w X.K X.mg X.base (fj X.prog X.w X.base) k f fd ps sp)(hr:cy k X.A)(hb:Binds X.K fd ps ds)(hd:Vals cA ds)
  (I:Inv X pins σ H s) (r:Vals vs us) (h:sp (vs++cA) H Q E):wpAny (model X.prog X.w) X.A (call (.ref f) us) (EP X pins σ Q) (XP X.prog X.w X.base X pins σ E) s:=by
 have r2:Vals (vs++cA) (us++ds):=r.append hd;refine wpAny_call (codeAny_mono (F.run X.A X.stack s H ⟨us,[]⟩ (us++ds) (vs++cA) Q E hr I.uF (hb s us I.cF (r2.length.symm.trans (F.len _ _ _ _ h))) r2 h) λr s' hq=>?_)
 match r,hq with
 | .error e,hq=>exact⟨H,s,I,hq⟩
 | .ok (.ret u),hq=>exact I.after hq
 | .ok .next,hq=>exact False.elim hq
 | .ok .brk,hq=>exact False.elim hq
 | .ok .cont,hq=>exact False.elim hq
theorem Mj(F:aR X.prog X.w X.K X.mg X.base (fj X.prog X.w X.base) k f fd ps sp)(hr:cy k X.A)(hg:Gl X x)(hm:X.mg x=some (.ref f))(hk:PySem.W.keepIn X.K (.ref f)=true)(hb:Binds X.K fd ps ds)(hd:Vals cA ds)
  (ha:PA X.lB (e::es) t) (gA:(x == ("__debug__" : Str))=false:=by decide) (he:starEach (e::es) X.env=(false,eval e X.env)::starEach es X.env:=by rfl) (e_:(backTo pos (starEach es X.env)).any (·.1)=false:=by rfl) :
  Mi X E (.Call (.Name x p) (e::es) [] pos) (Cj sp cA E t):=by
 intro pins s σ H Q I h;refine wpAny_Call_Name_kw (mS I hg hm ?_ gA);refine PySem.W.callWith_K (h₀:=X.base) I.ok.mod.gU hk (wpAny_mono (ha pos pins s σ H _ (I.iw _) h) (λus s1 ⟨vs,H1,I1,r,q⟩=>⟨I1.cF,?_⟩) λ_ _ z=>False.elim z) he e_;exact Zp F hr hb hd I1.jw r q
end
theorem vA{X:Cx}{P:Program}{w:World}{base:Heap}:Passes (fj P w base) X E0:=λ_ _ _ _ _ _ _ h=>by
 obtain⟨_,_,_,_,_,_,_,_,_,_,_,_,_,_,_,_,z⟩:=h;exact z.elim
theorem pB{P:Program}{w:World}{K:PySem.W.Frag}{mg:Str->Option Value}{base:Heap}{N:List Str}{qual:Str}{scope:Scope}{f:Addr}{cd:Value}{A:Around}{outer:List Env}{bB:Shared}{cT:Hp}{E:XK} :
  Makes (gn (fj P w base) P w K mg base N qual scope f cd A outer bB cT E) E:=λ_ _ _ _ _ _ _ _ I mx hE=>Zh I mx hE
theorem aF.nG{P:Program}{w:World}{K:PySem.W.Frag}{mg:Str->Option Value}{base:Heap}{x qual:Str}{st:Stmt}{f:Addr}{fd:FuncData}{N ps:List Str}{k:Nat}{sp:Sp}(F:aF K x qual st f fd)(S:aX N ps (aN st))(len:∀vs H Q E,sp vs H Q E->vs.length=ps.length)
  (kI:∀(aK:Value) (A:Around) (outer:List Env) (s:Shared) (H:Hp) (vs:List V) (Q:VK) (E:XK),cy k (A.deeper (envOfC qual (aN st) s.heap.objs.size f aK))->sp vs H Q E->
   ∃t,fz (gn (fj P w base) P w K mg base N qual (aN st) f aK A outer s H E) (fc st) t/\t { nx:=λ_ H'=>Q .aJ H',rt:=Q } (start N vs) H):aR P w K mg base (fj P w base) (k+1) f fd ps sp:=by
 obtain⟨oc,od,kV,doc,pm,an,aK,ct,gq,rfl,lk,dM⟩:=F.ex;exact Ck lk dM S len λA outer s H vs Q E hr gB=>kI aK A outer s H vs Q E hr gB
noncomputable def pC(X:Cx)(E:XK)(st:Stmt)(t:TS):Prop :=
 ∀(pins:List (Addr×Obj)) (s:Shared) (σ:St) (H:Hp) (D:Ends),Inv X pins σ H s->t D σ H->wpAny (model X.prog X.w) X.A (exec st X.env) (SP X pins D) (XP X.prog X.w X.base X pins σ E) s
section
variable{X:Cx}{E:XK}{e:Expr}{te:TE}{pos:Pos}
theorem Ml(he:Mi X E e te)(hs:swapsWith e none pos.line X.env=pure false:=by rfl):pC X E (.Expr e pos) (Kd te):=by
 intro pins s σ H D I h;exact wpAny_Expr_any (aI (he pins s σ H _ I h) λv s1 ⟨x,H1,I1,r1,q1⟩=>⟨σ,H1,I1,q1⟩) I.quiet hs
end
structure Fl(X:Cx)(pins:List (Addr×Obj))(σ:St)(a C:Addr)(a0:Value)(H1:Hp)(s1:Shared)(H':Hp)(B:Heap)(od:Option Addr)(s':Shared):Prop where
 I:Inv X pins σ H1 s1
 ho:s'.os=s1.os
 hg:AllBare s'.gens
 u:Un (b_ X.stack) [] H1 H' s1.heap s'.heap
 aG:b5 X.prog X.w H' s'.heap
 na:H' a=none
 nh:s1.heap.get? a=none
 c:Cut X.base B X.stack H1 H' s1.heap
 eS:Heap.FlyingW B X.stack a (.ref C) a0 s'.heap
 hd:gb s'.heap a od
section
variable{X:Cx}{pins:List (Addr×Obj)}{σ:St}{a C:Addr}{a0:Value}{H1 H':Hp}{s1 s':Shared}{B h':Heap}{od:Option Addr}
theorem Fl.move(x:Fl X pins σ a C a0 H1 s1 H' B od s')(eS:Heap.FlyingW B X.stack a (.ref C) a0 h')(up:s'.heap.UpToSlots h')(hd:gb h' a od):Fl X pins σ a C a0 H1 s1 H' B od { s' with heap:=h' } :=
 ⟨x.I,x.ho,x.hg,Zl x.u x.c eS.1 up x.I.ff,Zm x.aG x.c x.eS.1 eS.1,x.na,x.nh,x.c,eS,hd⟩
theorem Fl.inv(x:Fl X pins σ a C a0 H1 s1 H' B od s'):Inv X pins σ H' s':=x.I.BS x.ho x.u x.aG x.hg (λ_ z=>nomatch z)
theorem Fl.tracked(x:Fl X pins σ a C a0 H1 s1 H' B od s')(hex:X.ex = []):Inv X pins σ (upd H' a (pA a C od)) s':=by
 have no:∀b o,s1.heap.get? b=some o->b≠a:=λb o q z=>by rw[z,x.nh] at q;cases q
 obtain⟨m,⟨oL,_,_,BP,_⟩,_⟩:=x.I.loc;have f1:X.bB.heap.get? a=none:=by
  cases q:X.bB.heap.get? a with
  | none=>rfl
  | some o =>
   obtain⟨o1,q1⟩:=x.I.base.there a o q (by rw[hex];simp)
   rw[x.nh] at q1;cases q1
 have f2:∀y c,X.env.cells.lookup y=some c->c≠a:=λy c e=>by
  obtain⟨v,o,q,_⟩:=x.I.cell y c e;exact no _ _ q
 have tr:=λφ=>x.inv.Zo (φ:=φ) x.na f1 (Ne.symm (no _ _ BP)) f2 (λp hp=>no _ _ (x.I.pin p hp).1);have th:∃o,s'.heap.get? a=some o:=let ⟨o,q,_⟩:=x.eS.there;⟨o,q⟩
 cases od with
 | none =>
  refine tr _ ?_ th λh1 h2 ⟨o,q,z⟩ k=>⟨o,k o q,z⟩;obtain⟨o,vs,q,z,y,_⟩:=x.eS.first;obtain⟨o',q',z',c'⟩:=x.hd;rw[q] at q';cases q';refine⟨o,q,z,vs,y,?_⟩;have:=c' rfl;unfold _L.f2 at this;rw[y] at this;exact this
 | some d =>
  refine tr _ ?_ th λh1 h2 ⟨o,q,z⟩ k=>⟨o,k o q,z⟩;obtain⟨o,vs,q,z,y,_⟩:=x.eS.first;obtain⟨o',q',z',c'⟩:=x.hd;rw[q] at q';cases q';refine⟨o,q,z,z',vs,y,λhk=>?_⟩
  have:=c' hk;unfold _L.f2 at this;rw[y] at this;exact this
end
section
variable{X:Cx}{pins:List (Addr×Obj)}{σ:St}{H:Hp}{s:Shared}
theorem vB{M:Model}{A:Around}{E:Value->Shared->Prop}{i:Nat}{n:Str}{pos:Pos}{Q:Unit->Shared->Prop}(I:Inv X pins σ H s)(hN:X.N.Nodup)(hi:X.N[i]? = some n)(hk:X.env.kindOf n=some .local)
  (h:∀s',Inv X pins (σ.set i none) H s'->Q () s'):wpAny M A (do bindName X.env n .none;unbindBehindTheSuite X.env n pos) Q E s:=by
 obtain⟨m,hn,hl⟩:=id I.loc;have qx:(X.env.scope.kind == .class || (X.env.scope.kind == .module && X.env.locals != X.env.globals))=false:=by rw[I.ok.kind];rfl
 have ju:=I.ju;refine wpAny_nameGoes_keeps hk hn qx λh' v BO hs=>?_;have old:∀b o,X.bB.heap.get? b=some o->h'.get? b=s.heap.get? b:=λb o e=>hs.2 b (Nat.ne_of_lt (Nat.lt_of_lt_of_le (Heap.lt_size e) I.ok.above));refine h _ ⟨I.ok,I.os,I.bare,⟨λb o e n hb hx=>?_,λb o e n hb hx=>?_,I.base.free,λb o e hx=>?_,I.base.gS,I.base.gT,I.base.ir⟩,⟨_,BO,λj y v' e1 e2 e3=>?_⟩,λy c e=>?_,I.free,I.gz,λp hp=>?_,λb ob e=>?_,by simpa using I.len⟩
 ·exact(old b o e).trans (I.base.keep b o e n hb hx)
 ·obtain⟨sl,e1⟩:=I.base.slot b o e n hb hx;exact⟨sl,(old b o e).trans e1⟩
 ·obtain⟨o',e1⟩:=I.base.there b o e hx;exact⟨o',(old b o e).trans e1⟩
 ·by_cases hj:j=i
  ·subst hj;rw[List.getElem?_set] at e2;simp only[if_true] at e2;split at e2 <;> cases e2
  ·rw[List.getElem?_set_ne (Ne.symm hj)] at e2;obtain⟨u',r',q⟩:=hl j y v' e1 e2 e3;refine⟨u',r',?_⟩;rcases q with⟨k,e⟩ | ⟨k,c,e,z⟩
   ·refine .inl ⟨k,?_⟩;have:y≠n:=λe=>hj (BN hN e1 (e▸hi));simp[this,e]
   ·exact .inr ⟨k,c,e,z.sameBut hs (ju y c e)⟩
 ·obtain⟨w',z⟩:=I.cell y c e;exact⟨w',z.sameBut hs (ju y c e)⟩
 ·obtain⟨e,n,ne,nf,d⟩:=I.pin p hp;exact⟨(hs.2 p.1 ne).trans e,n,ne,nf,d⟩
 ·refine(I.aG b ob e).gR (λc w' hc q=>(hs.2 c ?_).trans q) (λ_ q=>q) λ_ _ q=>q;rintro rfl;rcases hc with z | hc
  ·rw[← z,I.free] at e;cases e
  ·rw[I.free] at hc;cases hc
end
noncomputable def mroIn(K:PySem.W.Frag)(C:Addr):List Value:=match K.lookup C with
 | some ⟨_,_,.cls cd,_⟩=>cd.mro
 | _=>[]
noncomputable def subIn(K:PySem.W.Frag)(C:Addr)(c:Value):Bool:=(mroIn K C).contains c
theorem j4{K:PySem.W.Frag}{C:Addr}{c:Value}{b:Bool}(h:PySem.W.mroIn K C c=some b):subIn K C c=b:=by
 unfold PySem.W.mroIn PySem.W.clsIn at h;unfold subIn mroIn;cases e:K.lookup C with
 | none=>rw[e] at h;cases h
 | some o =>
  rw[e] at h;obtain⟨c0,d0,dt,sl⟩:=o;cases dt <;> first | (cases h;done) | skip
  simp only[Option.bind_some] at h;split at h
  ·cases h
  ·exact Option.some.inj h
theorem Zq{K:PySem.W.Frag}{C:Addr}{c:Value}{b:Bool}(h:PySem.W.mroIn K C c=some b):(PySem.W.clsIn K C).isSome=true:=by
 unfold PySem.W.mroIn at h;cases e:PySem.W.clsIn K C with
 | none=>rw[e] at h;cases h
 | some cd=>rfl
noncomputable def vC(K:PySem.W.Frag)(C:Addr)(lP:List Value)(newId:String):Bool:=match K.lookup C with
 | some ⟨.type "type",_,.cls cd,sl⟩=>(match cd.mro,sl.toList with
  | .ref C'::bm,[_,_,_,_,some (.builtin n),_]=>C' == C && n == newId && !cd.hasDel && PySem.W.tailIn K lP bm && PySem.W.nsOkIn K cd.ns
  | _,_=>false)
 | _=>false
theorem Zr{K:PySem.W.Frag}{C:Addr}{lP:List Value}{newId:String}(q:PySem.W.excIn K C lP newId=true):vC K C lP newId=true:=by
 unfold PySem.W.excIn at q;unfold vC;cases e:K.lookup C with
 | none=>rw[e] at q;cases q
 | some o =>
  rw[e] at q;split at q
  ·rename_i dd cd sl ho;cases ho;split at q
   ·rename_i C' bm k0 k1 k2 k3 n k5 hm hs;simp only[Bool.and_eq_true] at q;simp only[hm,hs,Bool.and_eq_true];exact q.1
   ·cases q
  ·cases q
structure eF(K:PySem.W.Frag)(C:Addr):Prop where
 ex:∃bm id,vC K C bm id=true/\bm.contains (.type "BaseException")=true
theorem eF.of{K:PySem.W.Frag}{C:Addr}{bm:List Value}{id:String}(q:PySem.W.excIn K C bm id=true)(h:bm.contains (.type "BaseException")=true):eF K C:=⟨bm,id,Zr q,h⟩
theorem Mm{K:PySem.W.Frag}{h₀:Heap}{C:Addr}(X:K.In h₀)(x:eF K C) :
  ∃bm N nm q bs hdct sn sub ab col dd k0 k1 k2 k3 k5 newId,h₀.get? C=some (excClassObj nm q C N bs bm hdct sn sub ab col dd k0 k1 k2 k3 k5 newId)/\mroIn K C = .ref C::bm/\bm.contains (.type "BaseException")=true:=by
 obtain⟨lP,newId,q,hb⟩:=x.ex;unfold vC at q;unfold mroIn;cases e:K.lookup C with
 | none=>rw[e] at q;cases q
 | some o =>
  rw[e] at q;split at q
  ·rename_i dd cd sl ho;cases ho;split at q
   ·rename_i C' bm k0 k1 k2 k3 n k5 hm hs;simp only[Bool.and_eq_true,beq_iff_eq,Bool.not_eq_true'] at q;obtain⟨⟨⟨⟨c1,c2⟩,c3⟩,c4⟩,c5⟩:=q;obtain⟨nm,bs,mro,ns,qn,hd,sn,sub,ab,col,del⟩:=cd;obtain⟨l⟩:=sl;dsimp only at hm hs c3 c5;subst c1 c2 hm c3 hs;exact⟨bm,ns,nm,qn,bs,hd,sn,sub,ab,col,dd,k0,k1,k2,k3,k5,n,X _ _ e,rfl,(PySem.W.tail_of_in X c4).hasType hb⟩
   ·cases q
  ·cases q
theorem Zu{M:Model}{A:Around}{E:Value->Shared->Prop}{K:PySem.W.Frag}{s:Shared}{e C C2:Addr}{oe:Obj}{Q:Bool->Shared->Prop}(X:K.In s.heap)(x:eF K C)(y:eF K C2)(he:s.heap.get? e=some oe)(qx:oe.cls = .ref C)
  (hq:Q (subIn K C (.ref C2)) s):wpAny M A (excMatches (.ref e) (.ref C2)) Q E s:=by
 obtain⟨bm,N,nm,q,bs,hdct,sn,sub,ab,col,dd,k0,k1,k2,k3,k5,newId,hC,hm,_⟩:=Mm X x;obtain⟨Zv,N2,nm2,q2,bs2,agS,sn2,vD,ab2,agT,dd2,k02,Mn,k22,k32,k52,agU,Mp,Mq,vE⟩:=Mm X y;have Zw:(Value.ref C2::Zv).contains (.type "BaseException")=true:=by rw[List.contains_cons,vE,Bool.or_true]
 unfold subIn at hq;rw[hm] at hq;have f:=tc_notTuple;obtain⟨h,g,d,t,os⟩:=s;unfold excMatches
 repeat (first | (with_reducible refine wpAny_loadPart_at he ?_;rw[qx]) | with_reducible refine wpAny_loadPart_at Mp ?_ | (with_reducible refine wpAny_isSubtype_exc Mp ?_;rw[Zw]) | (with_reducible refine wpAny_isSubtype_exc hC ?_) | wp_step)
 all_goals first | exact hq | (cases hh:(Value.ref C::bm).contains (.ref C2) <;> (rw[hh] at hq;wp_walk;exact hq))
noncomputable abbrev TH:=Option Addr->Addr->Addr->Ends->St->Hp->Prop
noncomputable def PH(X:Cx)(hs:List ExceptHandler)(t:TH):Prop :=
 ∀(pins:List (Addr×Obj)) (σ:St) (a C:Addr) (a0:Value) (H1:Hp) (s1:Shared) (H':Hp) (B:Heap) (od:Option Addr) (s':Shared) (D:Ends) (E:Value->Shared->Prop),Fl X pins σ a C a0 H1 s1 H' B od s'->eF X.K C->t od C a D σ H'->
  wpAny (model X.prog X.w) X.A (handleBy (.ref a) X.env hs) (SP X pins D) E s'
theorem Zx{X:Cx}:PH X [] (λ_ _ _ _ _ _=>False):=λ_ _ _ _ _ _ _ _ _ _ _ _ _ _ _ h=>h.elim
noncomputable def Mr(i:Nat)(D:Ends):Ends:={ nx:=λσ H=>D.nx (σ.set i none) H,rt:=D.rt,bk:=λσ H=>D.bk (σ.set i none) H,ct:=λσ H=>D.ct (σ.set i none) H }
noncomputable def Zy(K:PySem.W.Frag)(C2:Addr)(i:Nat)(ts:Addr->TS)(t:TH):TH:=λod C a D σ H =>
 (subIn K C (.ref C2)=true/\ts a (Mr i D) (σ.set i (some (.ref a))) (upd H a (pA a C od)))\/(subIn K C (.ref C2)=false/\t od C a D σ H)
theorem ZA{X:Cx}{x n:Str}{np ZC:Pos}{Ms:Stmt}{Mt:List Stmt}{rest:List ExceptHandler}{C2:Addr}{i:Nat}{ts:Addr->TS}{t:TH}(hg:Gl X x)(hm:X.mg x=some (.ref C2))(y:eF X.K C2)(hN:X.N.Nodup)(hi:X.N[i]? = some n)
  (hk:X.env.kindOf n=some .local) (hex:X.ex = []) (hs:∀a,fz (X.within (.ref a)) (Ms::Mt) (ts a)) (hr:PH X rest t) (gA:(x == ("__debug__" : Str))=false:=by decide) :
  PH X (.ExceptHandler (some (.Name x np)) (some n) (Ms::Mt) ZC::rest) (Zy X.K C2 i ts t):=by
 intro pins σ a C a0 H1 s1 H' B od s' D E F xc h;obtain⟨ob,g8,ZD⟩:=F.eS.there;refine wpAny_handleBy_cons (codeAny_handlers_test (mS (X:=X.within (.ref a)) (F.inv.within (.ref a)) hg hm (Zu F.inv.cF xc y g8 ZD ?_) gA)) (by intro q;cases q)
 rcases h with⟨hb,h⟩ | ⟨hb,h⟩
 ·rw[hb];refine codeAny_handlers_suite_as (Zd F.eS F.hd λh6 ZE ZF ZG=>?_);have F6:=F.move ZE ZF ZG;refine BR (X:=X.within (.ref a)) (i:=i) (v:=V.ref a) ((F6.tracked hex).within (.ref a)) hN hi (.inl hk) rfl (λs2 I2=>?_) (.inr hk);refine wpAny_mono (hs a pins s2 _ _ (Mr i D) I2 h) (λf s3 q=>?_) λ_ _ z=>False.elim z;cases f with
  | next=>obtain⟨aO,H2,J,q⟩:=q;exact vB (J.out F.I.ok) hN hi hk λs4 J4=>⟨_,_,J4,q⟩
  | brk=>obtain⟨aO,H2,J,q⟩:=q;exact vB (J.out F.I.ok) hN hi hk λs4 J4=>⟨_,_,J4,q⟩
  | cont=>obtain⟨aO,H2,J,q⟩:=q;exact vB (J.out F.I.ok) hN hi hk λs4 J4=>⟨_,_,J4,q⟩
  | ret u=>obtain⟨v,aO,H2,J,r,q⟩:=q;exact vB (J.out F.I.ok) hN hi hk λs4 J4=>⟨v,_,_,J4,r,q⟩
 ·rw[hb];exact hr pins σ a C a0 H1 s1 H' B od s' D E F xc h
theorem agV{X:Cx}{e:Value}:(X.within e).K=X.K:=rfl
noncomputable def ZI(K:PySem.W.Frag)(th:TH)(D:Ends)(σ:St):XK:=λcls od H'=>∃C,cls = .ref C/\eF K C/\∀a,H' a=none->th od C a D σ H'
noncomputable def ZJ(K:PySem.W.Frag)(tb:XK->TS)(th:TH):TS:=λD σ H=>tb (ZI K th D σ) D σ H
theorem ZK{X:Cx}{st:Stmt}{h₀:ExceptHandler}{hs:List ExceptHandler}{pos:Pos}{tb:XK->TS}{th:TH}(jx:X.stack=X.env::X.outer)(hf:X.env.frame=some X.env.locals)(hb:∀E,pC X E st (tb E))(hh:PH X (h₀::hs) th) :
  PS X (.Try [st] (h₀::hs) [] [] pos) (ZJ X.K tb th):=by
 intro pins s σ H D I h;refine wpAny_Try_except (wpAny_execs_cons (wpAny_mono (hb _ pins s σ H D I h) (λf s1 q=>?_) λe s' z=>?_))
 ·cases f with
  | next=>exact wpAny_execs_nil (wpAny_execs_nil q)
  | ret v=>exact q
  | brk=>exact q
  | cont=>exact q
 ·obtain⟨H1,s1,I1,a,C,a0,H',B,od,rfl,ho,hg,u,aG,na,nh,c,eS,hd,C',eC,xc,hE⟩:=z;cases eC;have F:Fl X pins σ a C a0 H1 s1 H' B od s':=⟨I1,ho,hg,u,aG,na,nh,c,eS,hd⟩;have Mu:=eS;rw[jx] at Mu;refine Zb (by rw[I1.ok.frames,jx]) hf Mu hd λh4 held ZM ZN=>?_
  refine Zc held ZN λh5 Mv ZO ZQ=>?_;rw[← jx] at Mv;exact hh pins σ a C a0 H1 s1 H' B _ _ D _ (F.move Mv (ZM.trans ZO) ZQ) xc (hE a na)
end _L
namespace _L
open PySem PySem.Spec PyProof.Rows PySem.W PySem.Builtin.ObjectAttr PySem.Builtin.Getset_descriptor
section
variable{prog:Program}{w:World}{A:Around}{E:Value->Shared->Prop}{s:Shared}{K:Frag}{x D:Addr}{ox:Obj}{name:Str}
structure kP(K:Frag)(D:Addr):Prop where
 ga:findIn K (.ref D) "__getattribute__" = some (some (.builtin "BaseException.__getattribute__"))
 gt:findIn K (.ref D) "__getattr__" = some none
 mro:PySem.W.mroIn K D (.type "BaseException")=some true
 obj:PySem.W.mroIn K D (.type "object")=some true
 cl:findIn K (.ref D) "__class__" = some (some (.builtin "object.__class__"))
 sp:specialIn K (.builtin "object.__class__") "__get__" = some (some (.builtin "getset_descriptor.__get__"))
 tk:takesIn K (.builtin "object.__class__")=some true
theorem Mw{M:Model}{h:Heap}(hx:h.get? x=some ox)(hc:ox.cls = .ref D):Looks M h (typeOf (.ref x)) (.ref D):=hc▸(Looks.ld hx).andThen .now
theorem ZR{M:Model}{h:Heap}{a g:Value}(X:K.In h)(ha:findIn K (.ref D) name=some (some a))(hg:specialIn K a "__get__" = some (some g))(ht:takesIn K a=some true):Looks M h (find (.ref x) (.ref D) name) (.bind g a):=by
 have L1:=looks_findIn (M:=M) X ha;have _L:Looks M h (getOf (some a)) (some g):=looks_specialIn X hg;have L3:=looks_takesIn (M:=M) X ht;refine L1.andThen (_L.andThen ?_);refine Looks.andThen (a:=some (g,a)) ?_ (Looks.tag .now);unfold dataDescriptor?;refine L3.andThen ?_;exact .now
theorem ZS{g a:Value}{tk:Tok}{Q:Value->Shared->Prop}(T:Looks (model prog w) s.heap (typeOf (.ref x)) (.ref D))(L1:Looks (model prog w) s.heap (find (.ref x) (.ref D) name) (.bind g a))(h:wpAny (model prog w) A (call g [a,.ref x,.ref D]) Q E s) :
  wpAny (model prog w) A (Builtin.«object.__getattribute__» ⟨[.ref x,.str name tk],[]⟩) (λfin s'=>match fin with | .done (.ret v)=>Q v s' | _=>False) E s:=by
 obtain⟨hh,gg,d,t,os⟩:=s;refine wpAny_bind (wpAny_pure (wpAny_bind (wpAny_pure (wpAny_bind (T.at (wpAny_bind (L1.at ?_)))))))
 show wpAny _ _ (holding [a] (call g [a,.ref x,.ref D]) >>= ret) _ _ _;exact wpAny_bind (wpAny_holding (wpAny_mono h (λv s' z=>wpAny_pure z) λ_ _ z=>z))
theorem ZT{nameV:Value}{Q:Unit->Shared->Prop}(X:K.In s.heap)(T:Looks (model prog w) s.heap (typeOf (.ref x)) (.ref D))(G:kP K D)(hq:Q () s):wpAny (model prog w) A (checkBuiltinCall "BaseException.__getattribute__" ⟨[.ref x,nameV],[]⟩) Q E s:=by
 have hk:builtinKind "BaseException.__getattribute__" = some .slot:=by decide +kernel
 have ZU:splitId "BaseException.__getattribute__" = some ("BaseException", "__getattribute__"):=by decide +kernel
 obtain⟨hh,gg,d,t,os⟩:=s;have L1:=looks_mroIn (M:=model prog w) X G.mro;have ha:=F.args_bexc_ga (.ref x) nameV;simp only[checkBuiltinCall,hk,ZU];refine wpAny_bind ?_;unfold isInstance
 repeat (first | lk | wp_step)
 exact hq
theorem ZV{tk:Tok}{fill expr:Bool}{Q:Value->Shared->Prop}(X:K.In s.heap)(T:Looks (model prog w) s.heap (typeOf (.ref x)) (.ref D))(G:kP K D)
  (h:∀A,wpAny (model prog w) A (Builtin.«object.__getattribute__» ⟨[.ref x,.str name tk],[]⟩) (λfin s'=>match fin with | .done (.ret v)=>handedIn v=true/\Q v s' | _=>False) (λ_ _=>False) s) :
  wpAny (model prog w) A (getAttrBy (.ref x) (.str name tk) fill expr) Q E s:=by
 have f3:=F.attr_ValueError.ga.bind (.ref x);have ZW:(expr && onTheHeap (Value.builtin "BaseException.__getattribute__"))=false:=by cases expr <;> rfl
 have fU:(onTheHeap (Value.ref D) && Value.builtin "BaseException.__getattribute__" == Value.builtin "object.__getattribute__")=false:=by
  rw[show (Value.builtin "BaseException.__getattribute__" == Value.builtin "object.__getattribute__")=false from by decide +kernel];rfl
 have ZX:=λ{A:Around} {E:Value->Shared->Prop} {Q:Unit->Shared->Prop}=>ZT (prog:=prog) (w:=w) (A:=A) (E:=E) (nameV:=.str name tk) (Q:=Q) X T G;obtain⟨hh,gg,d,t,os⟩:=s;have L1:=looks_findIn (M:=model prog w) X G.ga;have _L:=looks_findIn (M:=model prog w) X G.gt;unfold getAttrBy;refine wpAny_holding (wpAny_bind (T.at (wpAny_bind (L1.at ?_))));simp only[fU,Bool.false_eq_true,if_false];unfold getAttrByItsOwn hookBefore;simp only[onTheHeap,if_true];refine wpAny_bind (_L.at (wpAny_bind (wpAny_attempt (wpAny_holding ?_))));unfold callGetattribute boundAndCalled;simp only[ZW,Bool.false_eq_true,if_false,f3];refine wpAny_bind (wpAny_pure (wpAny_call (codeAny_call_builtin F.attr_ValueError.ga.plain F.entry_bexc_ga (ZX (wpAny_mono (h _) (λfin s' z=>?_) λ_ _ z=>False.elim z)))));rcases fin with(_ | _ | _ | v) | _ <;> first | exact handed_on z.1 z.2 | exact z.elim
theorem ZY{R:Result->Shared->Prop}{tp:Value}(X:K.In s.heap)(L0:Looks (model prog w) s.heap (typeOf (.ref x)) (.ref D))(hm:PySem.W.mroIn K D (.type "object")=some true)
  (h:R (.ok (.ret (.ref D))) s):codeAny (model prog w) A (.call (.builtin "getset_descriptor.__get__") ⟨[.builtin "object.__class__",.ref x,tp],[]⟩) R s:=by
 obtain⟨hh,g,dr,t,os⟩:=s;have L1:=looks_mroIn (M:=model prog w) X hm;refine codeAny_call_builtin KF.slot_gs.plain KF.entry_gs (KF.slot_gs.check _ _ _ _ _ _ _ _ KF.type_class (KF.args_gs _ _ _) ?_);unfold Builtin.«getset_descriptor.__get__» descrGet;rw[dga_obj];refine wpAny_bind (wpAny_pure ?_);unfold descrGetter descrCheckInstance descrNameAndClass isInstance;simp only[KF.owner_class]
 repeat lk
 refine⟨Code.quiet_builtin _ (by decide +kernel),codeAny_builtin KF.entry_class ?_⟩
 unfold Builtin.«object.__class__» shownTypeOf
 repeat lk
 exact h
theorem ZZ{Q:Option Value->Shared->Prop}(X:K.In s.heap)(T:∀s':Shared,s'.heap=s.heap->Looks (model prog w) s'.heap (typeOf (.ref x)) (.ref D))(G:kP K D)(h:Q (some (.ref D)) { s with toks:=s.toks+1 }) :
  wpAny (model prog w) A (getAttr? (.ref x) "__class__") Q E s:=by
 unfold getAttr? getAttrBy?;refine wpAny_bind (wpAny_mkText (wpAny_bind (wpAny_attempt ?_)));refine ZV (s:={ s with toks:=s.toks+1 }) X (T _ rfl) G λA=>?_
 refine wpAny_mono (ZS (s:={ s with toks:=s.toks+1 }) (Q:=λv s'=>v = .ref D/\s' = { s with toks:=s.toks+1 }) (T _ rfl) (ZR X G.cl G.sp G.tk) (wpAny_call (ZY (s:={ s with toks:=s.toks+1 }) X (T _ rfl) G.obj ⟨rfl,rfl⟩))) (λfin s' z=>?_) λ_ _ z=>z;rcases fin with(_ | _ | _ | v) | _ <;> first | exact z.elim | (obtain⟨rfl,rfl⟩:=z;exact⟨rfl,wpAny_pure h⟩)
end
theorem Mx{K:Frag}{x D:Addr}(G:kP K D)(hc:(clsIn K D).isSome=true):KitX K (.ref x) (.ref D) (λh=>∃o,h.get? x=some o/\o.cls = .ref D) where
 ty:=λ_ _ _ ⟨o,h1,h2⟩=>Mw h1 h2
 it:=λ_ _ X _=>by
  obtain⟨cd,dM⟩:=Option.isSome_iff_exists.mp hc;unfold clsIn at dM;split at dM
  ·rename_i ho;intro A' Q' E' s' k q;unfold isType loadHead;exact wpAny_bind (wpAny_loadPart (k _ _ (X _ _ ho)) (wpAny_pure q))
  ·cases dM
 ne:=λh tp dd aA n sl X Z0=>by
  obtain⟨cd,dM⟩:=Option.isSome_iff_exists.mp hc;refine Bool.eq_false_iff.mpr λq=>?_
  have e:D=tp:=Value.ref.inj (beq_iff_eq.mp q);subst e;unfold clsIn at dM;split at dM
  ·rename_i ho;have z:=(X _ _ ho).symm.trans Z0;cases z
  ·cases dM
 ca:=λ{_ _ _ _ _ s} X ⟨o,h1,h2⟩ k=>ZZ X (λs' e=>by rw[e];exact Mw h1 h2) G k
section
variable{X:Cx}
theorem My{pins:List (Addr×Obj)}{σ:St}{H:Hp}{s:Shared}{a C:Addr}{od:Option Addr}(I:Inv X pins σ H s)(e:H a=some (pA a C od)):∃o,s.heap.get? a=some o/\o.cls = .ref C:=by
 cases od with
 | none =>
  obtain⟨⟨o,h1,h2,_⟩,_,_⟩:=(show cN X.prog X.w H s.heap a (pq a C) from I.aG a _ e);exact⟨o,h1,h2⟩
 | some d =>
  obtain⟨⟨o,h1,h2,_⟩,_,_⟩:=(show cN X.prog X.w H s.heap a (pA a C (some d)) from I.aG a _ e);exact⟨o,h1,h2⟩
theorem Z1:gk X (.builtin "isinstance") (λxs H Q=>∃a C c v b,xs = [.ref a,v]/\((∃C2,v = .ref C2/\c = .ref C2)\/(∃T,v = .ty T/\c = .type T))/\(∃od,H a=some (pA a C od))/\kP X.K C/\(clsIn X.K C).isSome=true/\kitOne X.K (.ref C) c=some b/\Q (.bl b) H):=by
 intro pins s σ H xs us Q I r h;obtain⟨a,C,c,v,b,rfl,hv,⟨od,ea⟩,G,hc,e,q⟩:=h;obtain⟨u,v',rfl,ru,rv⟩:=vals2 r;cases (show u=Value.ref a from ru);have ev:v' = c:=by
  rcases hv with⟨C2,rfl,rfl⟩ | ⟨T,rfl,rfl⟩
  ·exact rv
  ·exact rv
 subst ev;exact kia_one (Mx G hc) I.cF (My I ea) e (λz=>nomatch z) λtk=>⟨.bl b,H,I.tok _,rfl,q⟩
theorem Mz:gk X (.builtin "isinstance") (λxs H Q=>∃a C c v b,xs = [.ref a,v]/\((∃C2,v = .ref C2/\c = .ref C2)\/(∃T,v = .ty T/\c = .type T))/\H a=some (pq a C)/\kP X.K C/\(clsIn X.K C).isSome=true/\kitOne X.K (.ref C) c=some b/\Q (.bl b) H) :=
 λpins s σ H xs us Q I r ⟨a,C,c,v,b,e1,hv,ea,h⟩=>Z1 pins s σ H xs us Q I r ⟨a,C,c,v,b,e1,hv,⟨none,ea⟩,h⟩
end
end _L
namespace _L
open PySem PySem.Spec PyProof.Rows PySem.W
section
variable(key:Nat->Int)
noncomputable def kk(p:Array Nat)(i:Nat):Int:=key (p.getD i 0)
variable{key}{p:Array Nat}
end
section
variable{prog:Program}{w:World}{A:Around}{E:Value->Shared->Prop}{s:Shared}
end
section
variable{n:Nat}{p q:Array Nat}
end
end _L
namespace _L
open PySem PySem.Spec PyProof.Rows
theorem Dj{a b:String}(h:a≠b):(a:Str)≠(b:Str):=λe=>h (by rw[CU] at e;exact e)
theorem Z2{X:Cx}{st:Stmt}{h₀:ExceptHandler}{hs:List ExceptHandler}{pos:Pos}{t:TS}(hx:X.xe=λ_ _=>False)(hb:PS X st t):PS X (.Try [st] (h₀::hs) [] [] pos) t:=by
 intro pins s σ H D I h;refine wpAny_Try_except (wpAny_execs_cons (wpAny_mono (hb pins s σ H D I h) (λf s1 q=>?_) λe s' z=>?_))
 ·cases f with
  | next=>exact wpAny_execs_nil (wpAny_execs_nil q)
  | ret v=>exact q
  | brk=>exact q
  | cont=>exact q
 ·rw[hx] at z;exact False.elim z
theorem lQ{X:Cx}{K:PySem.W.Frag}{e:Expr}{f:Str}{pos:Pos}{ta:TE}(h:X.K=K)(he:PE X e ta)(hb:attributeBase e f X.env (eval e X.env)=eval e X.env):PE X (.Attribute e f pos) (KC K ta f):=h▸aU he hb
structure cM(K:PySem.W.Frag)(C:Addr)(H:Hp)(l:Addr)(ps:List Addr)(qs:List Ak):Prop where
 l:H l=some (.lst (ps.map V.ref))
 n:ps.length=qs.length
 t:∀(i:Nat) (p:Addr) (q:Ak),ps[i]? = some p->qs[i]? = some q->∃m b dx,dH K C H p q m b dx
section
variable{K:PySem.W.Frag}{C:Addr}{H H':Hp}{l:Addr}{ps:List Addr}{qs:List Ak}
theorem cM.same(h:cM K C H l ps qs)(s:ah H H'):cM K C H' l ps qs:=⟨s _ _ h.l,h.n,λi p q e1 e2=>let ⟨m,b,dx,z⟩:=h.t i p q e1 e2;⟨m,b,dx,z.same s⟩⟩
theorem cM.at(h:cM K C H l ps qs){i:Nat}{q:Ak}(e:qs[i]? = some q):∃p m b dx,(ps.map V.ref)[i]? = some (.ref p)/\dH K C H p q m b dx:=by
 have hi:i<ps.length:=by rw[h.n];exact(List.getElem?_eq_some_iff.mp e).1
 obtain⟨m,b,dx,z⟩:=h.t i ps[i] q (List.getElem?_eq_getElem hi) e;exact⟨ps[i],m,b,dx,by rw[List.getElem?_map,List.getElem?_eq_getElem hi];rfl,z⟩
theorem Zt.Z3{H:Hp}{l p:Addr}{ts:List Addr}{z:List (List Int)}(h:Zt H l ts z){r:List Int}(hp:H p=some (.tup (r.map V.int))):Zt (upd H l (.lst (ts.map V.ref++[V.ref p]))) l (ts++[p]) (z++[r]):=by
 have ne:∀ {t:Addr} {xs:List V},H t=some (.tup xs)->t≠l:=λe q=>by rw[q,h.l] at e;cases e
 refine⟨by rw[aD,List.map_append];rfl,by simp[h.n],λi t x e1 e2=>?_⟩
 by_cases hi:i<ts.length
 ·rw[List.getElem?_append_left hi] at e1;rw[List.getElem?_append_left (by rw[← h.n];exact hi)] at e2
  have:=h.t i t x e1 e2;rw[aC (ne this)];exact this
 ·rw[List.getElem?_append_right (by lia)] at e1
  rw[List.getElem?_append_right (by rw[← h.n];lia),← h.n] at e2
  have hj:i - ts.length=0:=by
   have:=(List.getElem?_eq_some_iff.mp e1).1;simp at this;lia
  rw[hj] at e1 e2;cases e1;cases e2;rw[aC (ne hp)];exact hp
structure vF(T:Int)(q:Ak):Prop where
 f0:0<=q.first
 m0:0<=q.many
 m1:q.many<=16
 fit:q.first+q.many<=T
noncomputable def Z4(K:PySem.W.Frag)(CA:Addr):Sp:=λvs H Q _=>∃(la:Addr) (ps:List Addr) (qs:List Ak) (k:Nat) (q:Ak),vs = [.ref la,.int (k:Int)]/\cM K CA H la ps qs/\qs[k]? = some q/\(∀q0,0<k->qs[k - 1]? = some q0->q0.at_<=q.at_)/\Q .aJ H
noncomputable def Z5(K:PySem.W.Frag)(CA:Addr):Sp:=λvs H Q _=>∃(la:Addr) (ps:List Addr) (qs:List Ak) (k:Nat) (q:Ak),vs = [.ref la,.int (k:Int)]/\cM K CA H la ps qs/\qs[k]? = some q/\q.behind.length<=1000/\(∀n∈q.behind,∃(j:Nat) (q0:Ak),n=(j:Int)/\j<k/\qs[j]? = some q0/\q0.kind≠"rest")/\Q .aJ H
noncomputable def vG(qs:List Ak)(k:Nat):List Int:=((List.range k).filter λ(j:Nat)=>match qs[k]?,qs[j]? with
 | some q,some q0=>decide ((j:Int)∈q.behind) || o_ q q0
 | _,_=>false).map λ(j:Nat)=>(j:Int)
noncomputable def Z6(K:PySem.W.Frag)(CA:Addr):Sp:=λvs H Q _=>∃(la:Addr) (ps:List Addr) (qs:List Ak) (k:Nat) (q:Ak),vs = [.ref la,.int (k:Int)]/\cM K CA H la ps qs/\qs[k]? = some q/\qs.length<=100/\q.behind.length<=1000/\
 ∀t H',ah H H'->H t=none->H' t=some (.tup ((vG qs k).map V.int))->Q (.ref t) H'
structure vH(T:Int)(qs:List Ak):Prop where
 n:qs.length<=100
 fit:∀(i:Nat) (q:Ak),qs[i]? = some q->vF T q/\q.behind.length<=1000
 up:∀(i:Nat) (q q':Ak),qs[i]? = some q->qs[i+1]? = some q'->q.at_<=q'.at_
 bh:∀(k:Nat) (q:Ak),qs[k]? = some q->∀n∈q.behind,∃(j:Nat) (q0:Ak),n=(j:Int)/\j<k/\qs[j]? = some q0/\q0.kind≠"rest"
noncomputable def g9(qs:List Ak)(n:Nat):List (List Int):=(List.range n).map (vG qs)
noncomputable def Z7(K:PySem.W.Frag)(cs:List Addr)(CA:Addr):Sp:=λvs H Q _=>∃(C p la:Addr) (P:Pl) (fp ps:List Addr) (qs:List Ak),vs = [.ref p,.ref la]/\C∈cs/\bV K C H p P fp/\P.nc.length<=1000000/\cM K CA H la ps qs/\vH P.nc.length qs/\
 ∀l ts H',ah H H'->H l=none->(∀t∈ts,H t=none)->Zt H' l ts (g9 qs qs.length)->Q (.ref l) H'
end
section
variable{X:Cx}{pins:List (Addr×Obj)}{σ:St}{H:Hp}{s:Shared}{scope:Scope}{cl:List (Str×Addr)}{ps fs:List Str}{fv:List Nat}{A:Around}{qual:Str}{f c':Addr}
noncomputable def Z8(σ:St)(vs:List V)(fv:List Nat):St:=vs.map some++fv.map λj=>(σ[j]?).getD none
end
noncomputable def Z9(c':Addr)(qual:Str):HO:=.ext λh=>h.CodeRec (.ref c') qual
noncomputable def lR(P:Addr)(pos:Pos)(qual:Str)(H:Hp):Prop:=∃ps,H P=some (.gQ ps)/\TriplesOk ps.toList/\(codeAmong pos ps.toList=none\/∃c',codeAmong pos ps.toList=some (.ref c')/\H c' = some (Z9 c' qual))
structure agW(mg:Str->Option Value)(base:Heap)(c P:Addr):Prop where
 hd:PySem.W.CodeHd base c P
 bm:∃bm ob,mg "__builtins__" = some (.ref bm)/\bm≠builtinsNs/\base.get? bm=some ob/\ob.cls = .type "module"/\ob.dict=some builtinsNs/\ob.data = .plain
section
variable{X:Cx}{pins:List (Addr×Obj)}{σ:St}{H:Hp}{s:Shared}{scope:Scope}{cl:List (Str×Addr)}{M:Model}{A:Around}{E:Value->Shared->Prop}{name qual:Str}{params:Arguments}{body:Expr}{pos:Pos}{firstLine:Nat}{c P:Addr}
end
end _L
namespace _L
open PySem PySem.Spec PyProof.Rows PySem.W
section
variable{prog:Program}{w:World}{A:Around}{E:Value->Shared->Prop}{s:Shared}
end
section
variable{X:Cx}{pins:List (Addr×Obj)}{σ:St}{H:Hp}{s:Shared}
variable{scope:Scope}{cl:List (Str×Addr)}{ps fs:List Str}{fv:List Nat}{A:Around}{qual name:Str}{f c' P kS:Addr}{params:Arguments}{body:Expr}{te:TE}{pm Z_:Value}{pos:Pos}{kv:Nat->Int×Int}{n:Nat}{H1:Hp}{m:Str->Option Value}
end
end _L
namespace _L
open PySem PySem.Spec PyProof.Rows
section
variable{M:Model}{prog:Program}{w:World}{A:Around}{E:Value->Shared->Prop}{s:Shared}
end
section
variable{prog:Program}{w:World}{A:Around}{E:Value->Shared->Prop}{s:Shared}
end
section
variable{X:Cx}
end
section
variable{prog:Program}{w:World}{A:Around}{E:Value->Shared->Prop}{s:Shared}{d it:Addr}{es:Array DictEntry}{ep i:Nat}
end
section
variable{X:Cx}
end
section
variable{P:Addr}{pos:Pos}{qual:Str}{H H1 H2:Hp}
end
noncomputable abbrev Us:=List (Addr×List Int)
noncomputable def uV(zs:Us):List V:=zs.map λz=>V.ref z.1
noncomputable def MA(H:Hp)(zs:Us):Prop:=∀z,z∈zs->H z.1=some (.tup (z.2.map V.int))
section
variable{X:Cx}{pins:List (Addr×Obj)}{σ:St}{H:Hp}{s:Shared}
end
section
variable{X:Cx}
noncomputable def agX(K:PySem.W.Frag)(neg:Bool):R2:=λx y H Q=>∃(a p:Addr) (c:List Int) (zs:Us),x = .ref a/\y = .ref p/\H a=some (.tup (c.map V.int))/\aE K H p (uV zs)/\MA H zs/\
 Q (.bl (if neg then !decide (c∈zs.map (·.2)) else decide (c∈zs.map (·.2)))) H
noncomputable def agY:V->List V->Hp->VK->Prop:=λx vs H Q=>∃(l a:Addr) (zs:Us) (c:List Int),x = .ref l/\vs = [.ref a]/\H l=some (.lst (uV zs))/\MA H zs/\H a=some (.tup (c.map V.int))/\c∈zs.map (·.2)/\
 ∀(k:Nat) (h:k<zs.length),zs[k].2=c->(∀m (hm:m<zs.length),m<k->zs[m].2≠c)->Q .aJ (upd H l (.lst (uV (zs.eraseIdx k))))
end
section
variable{K:PySem.W.Frag}{tl:TE}{g:TG}{tt:TT}{te:TE}{nt:Nat}{fv:List Nat}{Q:VK}{σ:St}{H:Hp}
theorem Zn.push{l t:Addr}{ts:List Addr}{z:List (Int×Int)}{c:Int×Int}(h:Zn H l ts z)(ht:H t=some (.tup [.int c.1,.int c.2])):Zn (upd H l (.lst (ts.map V.ref++[V.ref t]))) l (ts++[t]) (z++[c]):=by
 have ne:∀ {a:Addr} {xs:List V},H a=some (.tup xs)->a≠l:=λe q=>by rw[q,h.l] at e;cases e
 refine⟨by rw[aD,List.map_append];rfl,by simp[h.n],λi t' p e1 e2=>?_⟩
 by_cases hi:i<ts.length
 ·rw[List.getElem?_append_left hi] at e1;rw[List.getElem?_append_left (by rw[← h.n];exact hi)] at e2
  have:=h.t i t' p e1 e2;rw[aC (ne this)];exact this
 ·rw[List.getElem?_append_right (by lia)] at e1
  rw[List.getElem?_append_right (by rw[← h.n];lia),← h.n] at e2
  have hj:i - ts.length=0:=by
   have:=(List.getElem?_eq_some_iff.mp e1).1;simp at this;lia
  rw[hj] at e1 e2;cases e1;cases e2;rw[aC (ne ht)];exact ht
end
section
variable{X:Cx}
end
section
variable{X:Cx}{e st:Expr}{te ts:TE}{pos p2:Pos}
noncomputable def agZ(K:PySem.W.Frag)(te ts:TE):TE:=λσ H Q=>te σ H λx H1=>ts σ H1 λk H2=>∃a xs,x = .ref a/\k = .int (-1)/\aE K H2 a xs/\∀p,H2 p=none->Q (.ref p) (upd H2 p (.lst xs.reverse))
end
noncomputable def sumF(f:Nat->Int):Nat->Int
 | 0=>0
 | i+1=>sumF f i+f i
theorem MB{f:Nat->Int}(hd:∀i,f (i+1)<=f i)(a:Nat):∀b,f (a+b)<=f b
 | b=>by
  induction a with
  | zero=>rw[Nat.zero_add];exact Int.le_refl _
  | succ a ih=>rw[show a+1+b=a+b+1 by lia];exact Int.le_trans (hd _) ih
theorem MC{f:Nat->Int}(hd:∀i,f (i+1)<=f i)(a:Nat):∀b,sumF f (a+b)<=sumF f a+sumF f b
 | 0=>by simp[sumF]
 | b+1=>by
  have ih:=MC hd a b;have:=MB hd a b;rw[← Nat.add_assoc,sumF,sumF];lia
theorem MD{f:Nat->Int}(h1:1<=f 0)(hd:∀i,0<=f i/\f (i+1)<=f i):∀i:Nat,(1<=i->1<=sumF f i)/\0<=sumF f i/\sumF f i<=f 0*(i:Int)
 | 0=>by simp[sumF]
 | i+1=>by
  have ih:=MD h1 hd i;have h2:=(hd i).1;have h3:f i<=f 0:=MB (λi=>(hd i).2) i 0;have e:f 0*((i+1:Nat):Int)=f 0*(i:Int)+f 0:=by
   rw[show ((i+1:Nat):Int)=(i:Int)+1 by lia,Int.mul_add,Int.mul_one]
  refine⟨λ_=>?_,?_,?_⟩
  ·rw[sumF];by_cases hi:i=0
   ·subst hi;simp only[sumF];lia
   ·have:=ih.1 (by lia);lia
  ·rw[sumF];lia
  ·rw[sumF,e];lia
theorem aaa{f:Nat->Int}(h1:1<=f 0)(h7:f 0<=10000000)(hd:∀i,0<=f i/\f (i+1)<=f i){n:Nat}(h2:2<=n)(ag0:n<=100):SwOk ((List.range n).map (sumF f)) (n:Int):=by
 refine⟨by simp,by lia,by rw[range_getD (by lia)];rfl,λi vI hi=>?_,λi vI hi=>?_,λa b ha hb ve=>?_⟩
 ·rw[List.length_map,List.length_range] at hi;rw[range_getD hi];have:=MD h1 hd i;have e:f 0*(i:Int)<=10000000*(i:Int):=Int.mul_le_mul_of_nonneg_right h7 (by lia)
  have:=this.1 vI;lia
 ·rw[List.length_map,List.length_range] at hi;rw[range_getD hi,range_getD (by lia)]
  obtain⟨j,rfl⟩:∃j,i=j+1:=⟨i - 1,by lia⟩
  have:=(hd j).1;rw[sumF];show sumF f j<=_;lia
 ·rw[List.length_map,List.length_range] at ve;rw[range_getD ve,range_getD (by lia),range_getD (by lia)]
  exact MC (λi=>(hd i).2) a b
structure lT(z:List (Int×Int))(aq sk:Int)(sw:List Int):Prop where
 zl:ZL z
 l1:1<=aq
 l2:aq<=1000000000
 l3:∀p∈z,aq % p.2=0
 k0:0<=sk
 k1:sk<aq
 so:SwOk sw (z.map (·.1)).sum
noncomputable def plW(z:List (Int×Int))(aq sk:Int)(sw:List Int)(nc:List (Int×Int)):Pl:=⟨counts z,aq,sk,sw,nc⟩
theorem lT.pl{z:List (Int×Int)}{aq sk:Int}{sw:List Int}(h:lT z aq sk sw)(nc:List (Int×Int)):jD (plW z aq sk sw nc):=YE h.zl h.l1 h.so
structure ZP(z:List (Int×Int)):Prop where
 r:∀p∈z,1<=p.1/\p.1<=3/\1<=p.2/\p.2<=8
 s2:2<=(z.map (·.1)).sum
theorem ME:∀ {z:List (Int×Int)},(∀p∈z,1<=p.1/\p.1<=3)->0<=(z.map (·.1)).sum/\(z.map (·.1)).sum<=3*(z.length:Int)
 | [],_=>by simp
 | p::z,h=>by
  have ih:=ME λq hq=>h q (List.mem_cons_of_mem _ hq);have:=h p List.mem_cons_self;rw[List.map_cons,List.sum_cons,List.length_cons];lia
theorem ZP.snoc{z:List (Int×Int)}(h:ZP z){p:Int×Int}(hp:1<=p.1/\p.1<=3/\1<=p.2/\p.2<=8):ZP (z++[p]):=by
 refine⟨λq hq=>?_,?_⟩
 ·rcases List.mem_append.mp hq with hq | hq
  ·exact h.r q hq
  ·rw[List.mem_singleton.mp hq];exact hp
 ·have:=h.s2;rw[List.map_append,List.sum_append];simp;lia
theorem aab{z:List (Int×Int)}{i:Nat}{p:Int×Int}(h:z[i]? = some p):counts (z.take (i+1))=counts (z.take i)++List.replicate p.1.toNat p.2:=by
 rw[take_succ_get h];simp[counts]
theorem MF{z:List (Int×Int)}(zl:ZL z){x:Int}(h0:0<=x)(h1:x<900\/x<1000000000 / cV z):1<=cV z*(1+x)/\cV z*(1+x)<=1000000000/\∀p∈z,cV z*(1+x) % p.2=0:=by
 have hb:=vf (m:=60) (by decide) z λp hp=>(zl.ok.r p hp).2.2
 have hp:=zl.pr;have hm:∃m,1+x<=m/\cV z*m<=1000000000:=by
  rcases h1 with h1 | h1
  ·exact⟨900,by lia,by lia⟩
  ·exact⟨1000000000 / cV z,by lia,Int.mul_ediv_self_le (by lia)⟩
 obtain⟨m,m1,m2⟩:=hm;refine⟨?_,?_,λp hp=>Int.emod_eq_zero_of_dvd (Int.dvd_trans (LS hp) (Int.dvd_mul_right _ _))⟩
 ·have:=Int.mul_le_mul hb.1 (show 1<=1+x by lia) (by decide) (by lia);lia
 ·have:=Int.mul_le_mul (Int.le_refl (cV z)) m1 (by lia) (by lia);lia
theorem Zn.one{H:Hp}{l t:Addr}{c:Int×Int}(h:H t=some (.tup [.int c.1,.int c.2]))(nl:H l=none):Zn (upd H l (.lst [.ref t])) l [t] [c]:=by
 refine⟨aD,rfl,λi t' p e1 e2=>?_⟩;cases i with
 | zero =>
  simp at e1 e2;subst e1 e2;rw[aC (cj h nl)];exact h
 | succ i=>simp at e1
theorem MG(v:Int):∀k:Nat,(List.replicate k [V.int v]).flatten=(List.replicate k v).map V.int
 | 0=>rfl
 | k+1=>by rw[List.replicate_succ,List.flatten_cons,MG v k,List.replicate_succ,List.map_cons];rfl
noncomputable def dY(nc:List (Int×Int))(f m:Int):List (Int×Int):=(nc.drop f.toNat).take m.toNat
theorem aac{nc:List (Int×Int)}{f:Int}{i:Nat}{c:Int×Int}(h0:0<=f)(h:nc[(f+(i:Int)).toNat]? = some c):(nc.drop f.toNat).take (i+1)=(nc.drop f.toNat).take i++[c]:=by
 refine take_succ_get ?_;rw[List.getElem?_drop,show f.toNat+i=(f+(i:Int)).toNat by lia];exact h
noncomputable def aad(K:PySem.W.Frag)(cs:List Addr)(CA:Addr):Sp:=λvs H Q _=>∃(C p ap:Addr) (P:Pl) (fp:List Addr) (q:Ak) (m b dx:Addr),vs = [.ref p,.ref ap]/\C∈cs/\bV K C H p P fp/\dH K CA H ap q m b dx/\vF P.nc.length q/\P.nc.length<=1000000/\
 ∀l ts H',ah H H'->H l=none->Zn H' l ts (dY P.nc q.first q.many)->Q (.ref l) H'
noncomputable def aae(K:PySem.W.Frag)(cs:List Addr)(CA:Addr):Sp:=λvs H Q _=>∃(C p ap:Addr) (k:Int) (P:Pl) (fp:List Addr) (q:Ak) (m b dx:Addr),vs = [.ref p,.int k,.ref ap]/\C∈cs/\bV K C H p P fp/\dH K CA H ap q m b dx/\vF P.nc.length q/\P.nc.length<=1000000/\
 ∀l ts H',ah H H'->H l=none->Zn H' l ts (dY P.nc q.first q.many)->Q (.ref l) H'
structure Dr where
 n:Int
 q:Ak
 c:List (Int×Int)
noncomputable def j5(n:Int)(ap l:Addr):List (Str×V):=[("number",.int n),("ask",.ref ap),("cells",.ref l)]
structure iI(K:PySem.W.Frag)(CA CD:Addr)(H:Hp)(p:Addr)(d:Dr)(dx ap l:Addr)(ts:List Addr)(m b bY:Addr):Prop where
 o:H p=some (.ins CD dx (j5 d.n ap l))
 a:dH K CA H ap d.q m b bY
 c:Zn H l ts d.c
theorem iI.same{K:PySem.W.Frag}{CA CD:Addr}{H H':Hp}{p:Addr}{d:Dr}{dx ap l:Addr}{ts:List Addr}{m b bY:Addr}(h:iI K CA CD H p d dx ap l ts m b bY)(s:ah H H'):iI K CA CD H' p d dx ap l ts m b bY:=⟨s _ _ h.o,h.a.same s,h.c.same s⟩
noncomputable def aaf(K:PySem.W.Frag)(cs:List Addr)(CA CD:Addr):Sp:=λvs H Q _=>∃(C p pl ap dx:Addr) (n:Int) (P:Pl) (fp:List Addr) (q:Ak) (m b bY:Addr),vs = [.ref p,.ref pl,.int n,.ref ap]/\H p=some (.ins CD dx [])/\C∈cs/\bV K C H pl P fp/\p≠pl/\p∉fp/\dH K CA H ap q m b bY/\vF P.nc.length q/\P.nc.length<=1000000/\
 ∀l ts H',H l=none->SameBut p H H'->iI K CA CD H' p ⟨n,q,dY P.nc q.first q.many⟩ dx ap l ts m b bY->Q .aJ H'
structure lU(K:PySem.W.Frag)(CA CD:Addr)(H:Hp)(l:Addr)(ps:List Addr)(ds:List Dr):Prop where
 l:H l=some (.lst (ps.map V.ref))
 n:ps.length=ds.length
 t:∀(i:Nat) (p:Addr) (d:Dr),ps[i]? = some p->ds[i]? = some d->∃dx ap l ts m b bY,iI K CA CD H p d dx ap l ts m b bY
theorem lU.same{K:PySem.W.Frag}{CA CD:Addr}{H H':Hp}{l:Addr}{ps:List Addr}{ds:List Dr}(h:lU K CA CD H l ps ds)(s:ah H H'):lU K CA CD H' l ps ds :=
 ⟨s _ _ h.l,h.n,λi p d e1 e2=>let ⟨dx,ap,l,ts,m,b,bY,a⟩:=h.t i p d e1 e2;⟨dx,ap,l,ts,m,b,bY,a.same s⟩⟩
theorem aag(xs:List V)(k:Nat):iA xs none (some (k:Int))=xs.take k:=by
 unfold iA;have e:_H.cZ xs.length 0 none=0:=rfl;have e2:_H.cZ xs.length xs.length (some (k:Int))=min k xs.length:=by
  simp only[_H.cZ];rw[if_neg (by lia)];simp
 rw[e,e2,List.drop_zero,Nat.sub_zero];by_cases h:k<=xs.length
 ·rw[Nat.min_eq_left h]
 ·rw[Nat.min_eq_right (by lia),List.take_of_length_le (Nat.le_refl _),List.take_of_length_le (by lia)]
theorem aah(xs:List V)(k:Nat):iA xs (some (k:Int)) none=xs.drop k:=by
 unfold iA;have e:_H.cZ xs.length 0 (some (k:Int))=min k xs.length:=by
  simp only[_H.cZ];rw[if_neg (by lia)];simp
 have e2:_H.cZ xs.length xs.length none=xs.length:=by simp[_H.cZ]
 rw[e,e2,List.take_of_length_le (by simp)]
 by_cases h:k<=xs.length
 ·rw[Nat.min_eq_left h]
 ·rw[Nat.min_eq_right (by lia),List.drop_of_length_le (Nat.le_refl _),List.drop_of_length_le (by lia)]
theorem bg{N ps:List Str}{scope:Scope}(h:aX N ps scope:=by exact⟨rfl,rfl,rfl,by decide +kernel,rfl,by decide +kernel,by decide +kernel⟩):aX N ps scope:=h
class MH where
 nx:St->Hp->Prop
noncomputable def Later[c:MH](σ:St)(H:Hp):Prop:=c.nx σ H
noncomputable def aai(t:TS):TS:=λD σ H=>∃M:St->Hp->Prop,t { D with nx:=M } σ H/\∀dw H1,M dw H1->@Later ⟨D.nx⟩ dw H1
theorem nH{X:Cx}{st:Stmt}{t:TS}(h:PS X st t):PS X st (aai t):=Yi h
theorem ag1{c:MH}{x:Option V}{σ:St}{H:Hp}:@Later c (x::σ) H=c.nx (x::σ) H:=rfl
end _L
namespace _L
open PySem PySem.Spec PyProof.Rows PySem.W
section
variable{X:Cx}{pins:List (Addr×Obj)}{σ:St}{H:Hp}{s:Shared}
variable{scope:Scope}{cl:List (Str×Addr)}{ps fs:List Str}{fv:List Nat}{qual name:Str}{f c' P l S It:Addr}{params:Arguments}{body:Expr}{te:TE}{pm Z_:Value}{pos:Pos}{kv:Nat->List Int}{H1:Hp}{as:List Addr}
noncomputable def ag2(P:Addr)(pos:Pos)(qual:Str)(te:TE)(fv:List Nat)(tl:TE):TE:=λσ H Q=>tl σ H λx H1=>∃(l:Addr) (as:List Addr) (kv:Nat->List Int),x = .ref l/\H1 l=some (.lst (as.map V.ref))/\0<as.length/\lR P pos qual H1/\
 (∀(j:Nat) (a:Addr) (H2:Hp),as[j]? = some a->SameBut P H1 H2->lR P pos qual H2->te (Z8 σ [.ref a] fv) H2 λv H'=>∃k,v = .ref k/\H' k=some (.tup ((kv j).map V.int))/\SameBut P H2 H'/\lR P pos qual H')/\
 ∀(i:Nat) (a:Addr) (H':Hp),as[i]? = some a->(∀j,j<as.length->¬ _H.lexLt (kv j) (kv i)=true)->SameBut P H1 H'->lR P pos qual H'->Q (.ref a) H'
end
end _L
namespace _L
open PySem PySem.Spec PyProof.Rows
section
variable{X:Cx}{pins:List (Addr×Obj)}{σ:St}{H:Hp}{s:Shared}{scope:Scope}{cl:List (Str×Addr)}{N:List Str}{nt:Nat}{fv:List Nat}{fp:List Addr}
end
section
variable{X:Cx}{tg iter elt:Expr}{ifs:List Expr}{scope:Scope}{cl:List (Str×Addr)}{N:List Str}{nt:Nat}{fv:List Nat}{pos:Pos}{wi:TI}{g:TG}{tt:TT}{te:TE}
end
noncomputable def T1(m:Nat)(led:Bool):SetTable:={ mask:=7,place := #[m % 8],dummies := #[],finger:=0,led,moves:=0,plain:=true }
noncomputable def aaj(m n:Nat):Nat:=if n % 8=m % 8 then(5*(n % 8)+1) % 8 else n % 8
noncomputable def es2(m n:Nat)(y x:Value):Array (Int×Value):=if aaj m n<m % 8 then #[((n:Int),x),((m:Int),y)] else #[((m:Int),y),((n:Int),x)]
section
variable{prog:Program}{w:World}{A:Around}{E:Value->Shared->Prop}{s:Shared}{a:Addr}{es es1:Array (Int×Value)}{ep:Nat}{t t1:SetTable}{n:Int}{tk:Tok}
end
section
variable{prog:Program}{w:World}{A:Around}{R:Result->Shared->Prop}{s:Shared}{l I S:Addr}{m n:Nat}{tm tn:Tok}{led:Bool}
end
section
variable{prog:Program}{w:World}{A:Around}{E:Value->Shared->Prop}{s:Shared}
end
section
variable{prog:Program}{w:World}{A:Around}{E:Value->Shared->Prop}{s:Shared}{it d:Addr}{slot i n ep:Nat}{es:Array (Int×Value)}{t:SetTable}
end
section
variable{prog:Program}{w:World}{A:Around}{E:Value->Shared->Prop}{s:Shared}{d:Addr}{ep m n:Nat}{es:Array (Int×Value)}{tm tn:Tok}
noncomputable def aak(m n:Nat):List Int:=if m=n then [(m:Int)] else [(m:Int),(n:Int)]
end
section
variable{X:Cx}{e:Expr}{tl:TE}{p1 p2 p3 p4:Pos}
noncomputable def ag3(K:PySem.W.Frag)(tl:TE):TE:=λσ H Q=>tl σ H λx H1=>∃(l:Addr) (m n:Nat),x = .ref l/\aE K H1 l [.int (m:Int),.int (n:Int)]/\m<32/\n<32/\
 ∀(L:Addr) (ns:List Int),H1 L=none->ns.Perm (aak m n)->ns.Pairwise (·<=·)->Q (.ref L) (upd H1 L (.lst (ns.map V.int)))
end
noncomputable def ag4(C:Addr):TE:=λ_ H Q=>∀x dx,H x=none->H dx=none->dx≠x->Q (.ref x) (upd (upd H dx (.own x)) x (.ins C dx []))
section
variable{X:Cx}{C:Addr}{x:Str}{p pos:Pos}
end
noncomputable def ag5(Dl:List Addr)(rM:Sp)(Dm:List Addr)(Dn:Sp)(m:Str)(E:XK)(ta:TE)(t:TA):TE:=λσ H Q=>ta σ H λx H1=>∃C a dx fs,x = .ref a/\H1 a=some (.ins C dx fs)/\fs.lookup m=none/\
 ((C∈Dl/\t σ H1 λvs H2=>rM (x::(vs++[])) H2 Q E)\/(C∈Dm/\t σ H1 λvs H2=>Dn (x::(vs++[])) H2 Q E))
section
variable{X:Cx}{CX:f9}{k1 k2:Nat}{f1 f2:Addr}{Dl Dm:List Addr}{vJ vK:FuncData}{MI iJ:List Str}{rM Dn:Sp}{E:XK}{m:Str}{pos apos:Pos}{o e:Expr}{es:List Expr}{ta:TE}{t:TA}
end
noncomputable def kQ(ns:List Int)(k:Int):Int:=CT ns k+1009*k
noncomputable def bH(c t m:Int):Int:=(c+7)*(1327217885+715225739*t*t) % 2147483629 % m
theorem d8(c t:Int){m:Int}(h:0<m):0<=bH c t m/\bH c t m<m:=⟨Int.emod_nonneg _ (by lia),Int.emod_lt_of_pos _ h⟩
noncomputable def eT(K:PySem.W.Frag):Sp:=λvs H Q _=>∃(a:Addr) (ns:List Int) (k:Int),vs = [.ref a,.int k]/\aE K H a (ns.map V.int)/\ns.length<=63/\0<=k/\k<=1000/\Q (.int (kQ ns k)) H
noncomputable def bW:Sp:=λvs H Q _=>∃(c t m:Int),vs = [.int c,.int t,.int m]/\0<=t/\t<=1000/\0<m/\Q (.int (bH c t m)) H
noncomputable def gu(c s0:Int):Nat->Int
 | 0=>s0
 | i+1=>gu c s0 i - bH c (24+(1+(i:Int))) (gu c s0 i / 2+1)
theorem MJ(c:Int){s0:Int}(h:1<=s0):∀i,0<=gu c s0 i/\gu c s0 (i+1)<=gu c s0 i:=by
 have h0:∀i,0<=gu c s0 i:=λi=>by
  induction i with
  | zero=>simp only[gu];lia
  | succ i ih =>
   rw[gu];have:=(d8 c (24+(1+(i:Int))) (m:=gu c s0 i / 2+1) (by lia)).2
   lia
 intro i;refine⟨h0 i,?_⟩;have:=h0 i;rw[gu];have:=(d8 c (24+(1+(i:Int))) (m:=gu c s0 i / 2+1) (by lia)).1
 lia
noncomputable def aal(K:PySem.W.Frag):Sp:=λvs H Q _=>∃(c m:Int),vs = [.int c,.int m]/\2<=m/\m<=60/\∀l sw H',ah H H'->H l=none->H' l=some (.lst (sw.map V.int))->SwOk sw m->Q (.ref l) H'
noncomputable def aam(K:PySem.W.Frag):Sp:=λvs H Q _=>∃(c:Int),vs = [.int c]/\∀l ts z H',ah H H'->H l=none->Zn H' l ts z->ZL z->Q (.ref l) H'
theorem ZP.zl5{z:List (Int×Int)}(h:ZP z)(h1:1<=z.length)(h5:z.length<=5):ZL z:=by
 have s:=ME λp hp=>⟨(h.r p hp).1,(h.r p hp).2.1⟩;have s2:=h.s2;refine⟨⟨h1,by lia,λp hp=>?_,s2,by lia⟩,?_,by lia⟩
 ·have:=h.r p hp;lia
 ·have b:=(vf (m:=8) (by decide) z λp hp=>(h.r p hp).2.2).2
  have:=LU (m:=8) (by decide) h5
  have e:(8:Int) ^ 5=32768:=by decide
  lia
theorem aan{a b:Int}(a0:2<=a)(a1:a<=3)(b0:1<=b)(b1:b<=60):ZL [(a,b)]:=by
 refine⟨⟨by simp,by simp,?_,?_,?_⟩,?_,?_⟩
 ·intro p hp;rw[List.mem_singleton.mp hp];dsimp only;lia
 ·simp;lia
 ·simp;lia
 ·rw[CZ];simp[cV];lia
 ·simp;lia
section
variable{ta:TA}{g:TG}{tb:TS}{D:Ends}{σ:St}{H:Hp}
noncomputable def vL(j:Int)(g:TG)(tb:TS)(D:Ends)(σ:St)(H:Hp):Prop := -(2 ^ 62)<=j/\j<2 ^ 62/\∃W:Nat->Nat->St->Hp->Prop,(∃m,W 0 m σ H)/\∀i m σ H,W i m σ H->
 ((jR 0 j.toNat).stop i H/\D.nx σ H)\/((jR 0 j.toNat).go i H/\∃N:St->Hp->Prop,(∀aO H',N aO H'->∃m',m' < m/\W (i+1) m' aO H')/\∀x H',(jR 0 j.toNat).kG i H x H'->g x σ H' λau H2=>tb { D with nx:=N,ct:=N,bk:=D.nx } au H2)
theorem rrG(h:ta σ H λvs H1=>∃j:Int,vs = [.int j]/\vL j g tb D σ H1):gW (oM ta) g tb D σ H:=h
theorem vL.by(n:Int)(Pv:Nat->St->Hp->Prop)(LR : -1000000000000<n)(hn:n<1000000000000)(h0:Pv 0 σ H)
  (hs:∀i σ H (N:St->Hp->Prop),(∀σ H,Pv (i+1) σ H->N σ H)->i<n.toNat->Pv i σ H->g (.int (i:Int)) σ H λau H2=>tb { D with nx:=N,ct:=N,bk:=D.nx } au H2) (hd:∀σ H,Pv n.toNat σ H->D.nx σ H):vL n g tb D σ H:=by
 have h:=LQ (ta:=λ_ H Q=>Q [.int n] H) (g:=g) (tb:=tb) (D:=D) (σ:=σ) (H:=H) n Pv (λQ q=>q) LR hn h0 hs hd;obtain⟨j,e,h⟩:=h;cases e;exact h
end
structure aao(H:Hp)(t:Addr)(q:Ak)(m b:Addr):Prop where
 o:H t=some (.tup [.str q.kind,.int q.first,.int q.many,.ref m,.int q.at_,.int q.aY,o9 q.C9,.ref b,.bl q.early])
 ms:H m=some (.tup (q.marks.map V.int))
 bh:H b=some (.tup (q.behind.map V.int))
structure aap(total:Int)(q:Ak):Prop where
 k:q.kind = "rest"\/q.kind = "read"\/q.kind = "write"
 r:q.kind = "rest"->q=⟨"rest",0,0,[],q.at_,0,none,[],false⟩
 f0:q.kind≠"rest"->0<=q.first/\1<=q.many/\q.many<=16/\q.first+q.many<=total
 a0:0<=q.at_
 s0:0<=q.aY/\q.aY<=20
 l0:∀x,q.C9=some x->0<=x/\x<=10000000000000
 b0:kO q.behind
 m0:∀x∈q.marks,0<=x/\x<=1000000000
 mr:q.kind = "read"->q.marks = []/\q.early=false
 mw:q.kind = "write"->(q.marks.length:Int)=q.many
structure aaq(K:PySem.W.Frag)(CA CD:Addr)(H:Hp)(D t:Addr)(p:Dr)(tk d m b dx ap l:Addr)(ts:List Addr)(m' b' bY:Addr):Prop where
 o:H t=some (.tup [.int p.n,.ref tk,.ref d])
 k:aao H tk p.q m b
 d:iI K CA CD H d p dx ap l ts m' b' bY
 ne:l≠D
structure j6(K:PySem.W.Frag)(CA CD:Addr)(H:Hp)(D D':Addr)(ts:List Addr)(ps:List Dr):Prop where
 l:H D' = some (.lst (ts.map V.ref))
 n:ts.length=ps.length
 t:∀(i:Nat) (t:Addr) (p:Dr),ts[i]? = some t->ps[i]? = some p->∃tk d m b dx ap l ts m' b' bY,aaq K CA CD H D t p tk d m b dx ap l ts m' b' bY
section
variable{K:PySem.W.Frag}{CA CD:Addr}{H H':Hp}{D D' t:Addr}{ts:List Addr}{ps:List Dr}{p:Dr}
end
theorem Zn.iD{H:Hp}{l f:Addr}{xs ys:List V}{ts:List Addr}{z:List (Int×Int)}(h:Zn H l ts z)(hf:H f=some (.lst xs))(ne:f≠l):Zn (upd H f (.lst ys)) l ts z :=
 ⟨(aC ne.symm).trans h.l,h.n,λi t p e1 e2=>by
  have:=h.t i t p e1 e2;exact(aC (λz=>by rw[z,hf] at this;cases this)).trans this⟩
noncomputable def iK(fs:List (Str×V)):Bool:=(fs.lookup ("ring_cells" : Str)).isNone && ((fs.lookup ("inward" : Str)).isSome || (fs.lookup ("turn" : Str)).isSome)
noncomputable def g_(xs:List V):Prop:=∀i j,xs≠[.bl i,.bl j]
theorem g_.refs{ts:List Addr}:g_ (ts.map V.ref):=λi j e=>by
 cases ts with
 | nil=>cases e
 | cons t ts=>cases e
theorem g_.ints{ns:List Int}:g_ (ns.map V.int):=λi j e=>by
 cases ns with
 | nil=>cases e
 | cons t ts=>cases e
noncomputable def kR(o:HO):Prop:=(∀ps,o≠.gQ ps)/\(∀C dx fs,o = .ins C dx fs->iK fs=false)/\∀xs,o = .lst xs->g_ xs
theorem kR.of{o:HO}(h1:∀ps,o≠.gQ ps)(h2:∀C dx fs,o≠.ins C dx fs)(h3:∀xs,o≠.lst xs):kR o:=⟨h1,λ_ _ _ e=>absurd e (h2 _ _ _),λ_ e=>absurd e (h3 _)⟩
theorem kR.lst{xs:List V}(h:g_ xs):kR (.lst xs):=⟨(λ_ z=>nomatch z),(λ_ _ _ z=>nomatch z),λ_ e=>by cases e;exact h⟩
theorem kR.ins{C dx:Addr}{fs:List (Str×V)}(h:iK fs=false):kR (.ins C dx fs):=⟨(λ_ z=>nomatch z),(λ_ _ _ e=>by cases e;exact h),λ_ z=>nomatch z⟩
theorem aar:iK [] = false:=rfl
theorem MK{q:Ak}{m b:Addr}:iK (fQ q m b)=false:=by simp[iK,fQ,List.lookup_cons,fM]
theorem ML{n:Int}{ap l:Addr}:iK (j5 n ap l)=false:=by simp[iK,j5,List.lookup_cons,fM]
noncomputable def bZ(H H':Hp):Prop:=∀b o,H b=some o->kR o->H' b=some o
theorem bZ.of{H H':Hp}(s:ah H H'):bZ H H':=λ_ _ e _=>s _ _ e
theorem bZ.trans{H H1 H2:Hp}(s:bZ H H1)(t:bZ H1 H2):bZ H H2:=λ_ _ e n=>t _ _ (s _ _ e n) n
theorem bZ.tup{H H':Hp}(k:bZ H H'){a:Addr}{xs:List V}(e:H a=some (.tup xs)):H' a=some (.tup xs):=k _ _ e (.of (λ_ z=>nomatch z) (λ_ _ _ z=>nomatch z) λ_ z=>nomatch z)
theorem bZ.lst{H H':Hp}(k:bZ H H'){a:Addr}{xs:List V}(e:H a=some (.lst xs))(h:g_ xs:=by first | exact g_.refs | exact g_.ints | (intro i j z;cases z)):H' a=some (.lst xs):=k _ _ e (.lst h)
theorem bZ.ins{H H':Hp}(k:bZ H H'){a C dx:Addr}{fs:List (Str×V)}(e:H a=some (.ins C dx fs))(h:iK fs=false:=by exact aar):H' a=some (.ins C dx fs):=k _ _ e (.ins h)
theorem Zn.kt{H H':Hp}{l:Addr}{ts:List Addr}{z:List (Int×Int)}(h:Zn H l ts z)(k:bZ H H'):Zn H' l ts z:=⟨k.lst h.l,h.n,λi t p e1 e2=>k.tup (h.t i t p e1 e2)⟩
section
variable{K:PySem.W.Frag}{C CA CD:Addr}{H H':Hp}
theorem dH.kt{p:Addr}{q:Ak}{m b dx:Addr}(h:dH K C H p q m b dx)(k:bZ H H'):dH K C H' p q m b dx:=⟨k.ins h.o MK,k.tup h.ms,k.tup h.bh⟩
theorem iI.kt{p:Addr}{d:Dr}{dx ap l:Addr}{ts:List Addr}{m b bY:Addr}(h:iI K CA CD H p d dx ap l ts m b bY)(k:bZ H H'):iI K CA CD H' p d dx ap l ts m b bY:=⟨k.ins h.o ML,h.a.kt k,h.c.kt k⟩
theorem bV.kt{p:Addr}{P:Pl}{fp:List Addr}(h:bV K C H p P fp)(k:bZ H H'):bV K C H' p P fp:=by
 obtain⟨dx,a1,a2,a3,a4,ts,fs,e,h⟩:=h;exact⟨dx,a1,a2,a3,a4,ts,fs,e,{ h with o:=k.ins h.o (by simp[iK,h.f1]),rc:=k.lst h.rc,sw:=k.lst h.sw,nc:=h.nc.kt k,cn:=k _ _ h.cn (.of (λ_ z=>nomatch z) (λ_ _ _ z=>nomatch z) λ_ z=>nomatch z)}⟩
end
section
variable{K:PySem.W.Frag}{CA CD:Addr}{H:Hp}{as:List Addr}{bs:List Dr}
end
section
variable{K:PySem.W.Frag}{CA CD:Addr}{H H':Hp}{D:Addr}{as:List Addr}{bs:List Dr}
end
noncomputable def vM(d:Dr):Int×Int:=d.c.getD 0 (0,0)
end _L
namespace _L
open PySem PySem.Spec PyProof.Rows PySem.W
section
variable{prog:Program}{w:World}{A:Around}{E:Value->Shared->Prop}{s:Shared}{h₀:Heap}{L a kS:Addr}{m:Str->Option Value}{news:List (Addr×Obj)}{vs ks:List Value}
end
section
variable{X:Cx}{pins:List (Addr×Obj)}{σ:St}{H:Hp}{s:Shared}{m:Str->Option Value}{kS f:Addr}{kv:Nat->Int}{k:Nat}{fd:FuncData}{p:Str}{sp:Sp}{xs:List V}{A:Around}
end
section
variable{X:Cx}{pins:List (Addr×Obj)}{σ:St}{H:Hp}{s:Shared}{f:Addr}{kv:Nat->Int}{k:Nat}{fd:FuncData}{p:Str}{sp:Sp}{xs:List V}{l:Addr}
noncomputable def ag6(sp:Sp)(tl:TE):TE:=λσ H Q=>tl σ H λx H1=>∃(l:Addr) (xs:List V) (kv:Nat->Int),x = .ref l/\H1 l=some (.lst xs)/\xs.length<64/\(∀i j,i<xs.length->j<xs.length->kv i=kv j->i=j)/\
 (∀(j:Nat) (v:V),xs[j]? = some v->sp [v] H1 (λv' H'=>v' = .int (kv j)/\H' = H1) E0)/\
 ∀(D:Addr) (is:List Nat),H1 D=none->is.Perm (List.range xs.length)->(∀i j,i<j->j<xs.length->kv (is.getD i 0)<kv (is.getD j 0))->Q (.ref D) (upd H1 D (.lst (is.map λi=>xs.getD i .aJ)))
end
end _L
namespace _L
open PySem PySem.Spec PyProof.Rows
section
variable{X:Cx}
theorem aas(hu:X.A.units<cLine):cG X (compareOp .Eq) (λx y H Q=>∃(a b:Addr) (xs:List V),x = .ref a/\y = .ref b/\aE X.K H a xs/\aE X.K H b xs/\(∀v∈xs,(∀b,v≠.jt b)/\∀b,v≠.fG b)/\Q (.bl true) H):=by
 rintro pins s σ H x y v u Q I rx ry ⟨a,b,xs,rfl,rfl,ha,hb,hv,q⟩;cases rx;cases ry;obtain⟨aA,r1,p1,z1⟩:=I.list ha;obtain⟨fD,r2,p2,z2⟩:=I.list hb;have l1:=r1.length;have l2:=r2.length;have e0:((List.range aA.toArray.size).all λ_=>true)=true:=by simp
 have fin:=SeqAt.RcAt.lists (A:=X.A) (s:=s) (e:=λ_=>true) p1.isList p2.isList (by simp;lia) hu (λj h1 h2=>?_) X.prog X.w X.xe (EP X pins σ Q) (by rw[e0];exact⟨.bl true,H,I,rfl,q⟩)
 ·exact fin
 ·have g1:aA[j]? = some aA.toArray[j]:=by
   rw[List.getElem_toArray,List.getElem?_eq_getElem (by simpa using h1)]
  have g2:fD[j]? = some fD.toArray[j]:=by
   rw[List.getElem_toArray,List.getElem?_eq_getElem (by simpa using h2)]
  have hj:j<xs.length:=by rw[l1];simpa using h1
  obtain⟨u1,q1,w1⟩:=r1.get (List.getElem?_eq_getElem hj);obtain⟨u2,q2,w2⟩:=r2.get (List.getElem?_eq_getElem hj);rw[g1] at q1;cases q1;rw[g2] at q2;cases q2;exact LH w1 w2 (hv _ (List.getElem_mem hj)).1 (hv _ (List.getElem_mem hj)).2
end
noncomputable def bC(n:Int):Key:=.inl n
theorem Dp(kvs:List (Key×V))(k:Key)(v:V):(putK kvs k v).length<=kvs.length+1:=by
 unfold putK;split
 ·rw[List.length_map];lia
 ·rw[List.length_append];exact Nat.le_refl _
theorem MM{α:Type}{l:List α}{p:α->Bool}{i:Nat}{a:α}(h:l[i]? = some a):(l.take (i+1)).filter p=(l.take i).filter p++(if p a then [a] else []):=by
 rw[take_succ_get h,List.filter_append,List.filter_cons];split <;> rfl
noncomputable def liF(c i:Bool)(B:Addr):List (Str×V):=[("calm",.bl c),("inward",.bl i),("batch",.ref B)]
structure Lt where
 c:Bool
 i:Bool
 b:List Int
structure vN(C:Addr)(H:Hp)(x:Addr)(st:Lt)(dx B:Addr):Prop where
 o:H x=some (.ins C dx (liF st.c st.i B))
 d:∃kvs:List (Key×V),H B=some (.dK kvs)/\kvs.length<=1000/\∀n:Int,(bF kvs (bC n)).isSome=decide (n∈st.b)
section
variable{C:Addr}{H H':Hp}{x dx B:Addr}{st:Lt}
end
noncomputable def d0:Dr:=⟨0,⟨"",0,0,[],0,0,none,[],false⟩,[]⟩
section
variable{K:PySem.W.Frag}{CA CD:Addr}{H H':Hp}{D D':Addr}{ts h_:List Addr}{ps iJ:List Dr}
end
structure rN(nc:List (Int×Int))(ds ps:List Dr):Prop where
 nd:((ds++ps).map (·.n)).Nodup
 ok:∀p∈ds++ps,aap nc.length p.q/\p.q.kind≠"rest"/\p.q.at_<=1000000000000/\0<=p.n/\p.n<=99/\p.c=dY nc p.q.first p.q.many
 n32:ds.length+ps.length<=32
noncomputable def MN(K:PySem.W.Frag)(CA CD CL P:Addr)(pos:Pos)(qual:Str)(H6:Hp)(a p wt x1 d1:Addr)(nc:List (Int×Int))(m:Nat)(σ:St)(H':Hp):Prop :=
 ∃(Lp Dd:Addr) (fq:List Addr) (cR:List Dr) (fF:List Addr) (cS:List Dr) (i:Bool) (ring:Int) (B':Addr) (y8 y9 jE gc:Option V),σ = [some (.ref a),some (.ref p),some (.ref wt),some (.ref Lp),some (.ref x1),some (.bl i),some (.int ring),some (.ref Dd),y8,y9,jE,gc]/\
  bZ H6 H'/\lR P pos qual H'/\vN CL H' x1 ⟨false,i,[]⟩ d1 B'/\j6 K CA CD H' Lp Lp fq cR/\j6 K CA CD H' Dd Dd fF cS/\rN nc cS cR/\cS.length+cR.length=m
section
variable{K:PySem.W.Frag}{CA CD:Addr}{H:Hp}{D D':Addr}{ts:List Addr}{ps:List Dr}{X:Prop}
theorem lU.el(h:lU K CA CD H D ts ps)(i:Nat)(t:Addr)(p:Dr)(e1:ts[i]? = some t)(e2:ps[i]? = some p)(k:∀dx ap l tx m b bY,iI K CA CD H t p dx ap l tx m b bY->X):X :=
 let ⟨dx,ap,l,tx,m,b,bY,a⟩:=h.t i t p e1 e2;k dx ap l tx m b bY a
end
@[elab_as_elim] theorem MN.el{K:PySem.W.Frag}{CA CD CL P:Addr}{pos:Pos}{qual:Str}{H6:Hp}{a p wt x1 d1:Addr}{nc:List (Int×Int)}{m:Nat}{σ:St}{H':Hp}{X:St->Prop}(h:MN K CA CD CL P pos qual H6 a p wt x1 d1 nc m σ H')
  (k:∀(Lp Dd:Addr) (fq:List Addr) (cR:List Dr) (fF:List Addr) (cS:List Dr) (i:Bool) (ring:Int) (B':Addr) (y8 y9 jE gc:Option V),bZ H6 H'->lR P pos qual H'->vN CL H' x1 ⟨false,i,[]⟩ d1 B'->j6 K CA CD H' Lp Lp fq cR->j6 K CA CD H' Dd Dd fF cS->rN nc cS cR->cS.length+cR.length=m->X [some (.ref a),some (.ref p),some (.ref wt),some (.ref Lp),some (.ref x1),some (.bl i),some (.int ring),some (.ref Dd),y8,y9,jE,gc]):X σ:=by
 obtain⟨Lp,Dd,fq,cR,fF,cS,i,ring,B',y8,y9,jE,gc,rfl,kt,tb,hl,Dq,Ds,bo,hm⟩:=h;exact k Lp Dd fq cR fF cS i ring B' y8 y9 jE gc kt tb hl Dq Ds bo hm
noncomputable def MO(t:TS):TS:=λD σ H=>∀N:St->Hp->Prop,(∀dw H1,@Later ⟨D.nx⟩ dw H1->N dw H1)->t { D with nx:=N } σ H
theorem eU{X:Cx}{st:Stmt}{t:TS}(h:PS X st t):PS X st (MO t):=λpins s σ H D I q=>h pins s σ H D I (q D.nx λ_ _ z=>z)
theorem eV{t b:TS}{D:Ends}{σ:St}{H:Hp}(h:∀N:St->Hp->Prop,(∀dw H1,b D dw H1->N dw H1)->t { D with nx:=N } σ H):Kc (MO t) b D σ H:=λN hN=>h N hN
theorem aat{c:TT}{tb:TS}{D:Ends}{σ:St}{H:Hp}(h:∀B:TS,(∀D σ H,tb D σ H->B D σ H)->B4 c B D σ H):B4 c tb D σ H:=h tb λ_ _ _ z=>z
section
variable{H H1 H2:Hp}
end
section
variable{H H':Hp}{S:Addr}{i sw:Bool}
end
noncomputable def MP(K:PySem.W.Frag)(CA CD CR P:Addr)(pos:Pos)(qual:Str)(sw:Bool)(H6:Hp)(a p wt x1 d1 S:Addr)(nc:List (Int×Int))(m:Nat)(σ:St)(H':Hp):Prop :=
 ∃(Lp Dd Bt:Addr) (fq:List Addr) (cR:List Dr) (fF:List Addr) (cS:List Dr) (i:Bool) (bs:List Int) (ring:Int) (B':Addr) (y9 jE gc jF:Option V),σ = [some (.ref a),some (.ref p),some (.ref wt),some (.ref Lp),some (.ref x1),some (.ref S),some (.int ring),some (.ref Dd),some (.ref Bt),y9,jE,gc,jF]/\
  bZ H6 H'/\lR P pos qual H'/\vN CR H' x1 ⟨true,i,bs⟩ d1 B'/\H' S=some (.lst [.bl i,.bl sw])/\H' Bt=some (.lst (bs.map V.int))/\bs.length<=32/\j6 K CA CD H' Lp Lp fq cR/\j6 K CA CD H' Dd Dd fF cS/\rN nc cS cR/\cS.length+cR.length=m
@[elab_as_elim] theorem MP.el{K:PySem.W.Frag}{CA CD CR P:Addr}{pos:Pos}{qual:Str}{sw:Bool}{H6:Hp}{a p wt x1 d1 S:Addr}{nc:List (Int×Int)}{m:Nat}{σ:St}{H':Hp}{X:St->Prop}(h:MP K CA CD CR P pos qual sw H6 a p wt x1 d1 S nc m σ H')
  (k:∀(Lp Dd Bt:Addr) (fq:List Addr) (cR:List Dr) (fF:List Addr) (cS:List Dr) (i:Bool) (bs:List Int) (ring:Int) (B':Addr) (y9 jE gc jF:Option V),bZ H6 H'->lR P pos qual H'->vN CR H' x1 ⟨true,i,bs⟩ d1 B'->H' S=some (.lst [.bl i,.bl sw])->H' Bt=some (.lst (bs.map V.int))->bs.length<=32->j6 K CA CD H' Lp Lp fq cR->j6 K CA CD H' Dd Dd fF cS->rN nc cS cR->cS.length+cR.length=m->X [some (.ref a),some (.ref p),some (.ref wt),some (.ref Lp),some (.ref x1),some (.ref S),some (.int ring),some (.ref Dd),some (.ref Bt),y9,jE,gc,jF]):X σ:=by
 obtain⟨Lp,Dd,Bt,fq,cR,fF,cS,i,bs,ring,B',y9,jE,gc,jF,rfl,kt,tb,hl,hSt,hBt,Dt,Dq,Ds,bo,hm⟩:=h;exact k Lp Dd Bt fq cR fF cS i bs ring B' y9 jE gc jF kt tb hl hSt hBt Dt Dq Ds bo hm
section
variable{X:Cx}
noncomputable def ag7:V->List V->Hp->VK->Prop:=λx vs H Q=>∃l xs i y,x = .ref l/\vs = [.int i,y]/\H l=some (.lst xs)/\0<=i/\i<=(xs.length:Int)/\xs.length<1000/\Q .aJ (upd H l (.lst (xs.take i.toNat++y::xs.drop i.toNat)))
theorem aau{k:Key}{u:Value}(h:mK k u=true):RelV (kV k) u:=by
 cases k with
 | inl i=>obtain⟨t,e⟩:=PySem.Value.isInt_shape (show Value.isInt i u=true from h);exact⟨t,e⟩
 | inr x=>obtain⟨t,e⟩:=PySem.Value.isStrOf_shape (show Value.isStrOf x u=true from h);exact⟨t,e⟩
theorem KV.key:∀ {kvs:List (Key×V)} {vs:List (Key×Value)},KV kvs vs->∀ {i:Nat} {p:Key×V},kvs[i]? = some p->∃v,vs[i]? = some (p.1,v)
 | _,_,.nil,i,p,e=>by simp at e
 | _,_,.cons (b:=q) r t,0,p,e=>by
  cases e;exact⟨q.2,by rw[r.1];rfl⟩
 | _,_,.cons r t,i+1,p,e=>KV.key t (i:=i) e
theorem Inv.freeze{pins:List (Addr×Obj)}{σ:St}{H:Hp}{s:Shared}{a:Addr}{kvs:List (Key×V)}{ob:Obj}(I:Inv X pins σ H s)(e:H a=some (.dK kvs))(ho:s.heap.get? a=some ob):Inv X pins σ (upd H a (.bL ob (.dK kvs))) s:=by
 have ne:∀b v,H b=some v->(∀kvs,v≠.dK kvs)->upd H a (.bL ob (.dK kvs)) b=some v:=λb v q z=>by rw[aC (λw=>by rw[w,e] at q;cases q;exact z _ rfl)];exact q
 refine I.un (t':=s.toks) (h':=s.heap) ⟨λb o q n hb _=>q,λb o q n hb _=>⟨o.slots,q⟩,λb o q n _=>?_,λb o q _=>⟨o,q⟩,λb xs q=>ne b _ q (λ_ z=>nomatch z),λb o u q=>ne b _ q (λ_ z=>nomatch z),λb ps q=>⟨#[],by rw[ne b _ q (λ_ z=>nomatch z)];simp⟩⟩ λb v q=>?_
 ·rw[aC (λz=>by rw[z,e] at n;cases n)];exact n
 ·by_cases z:b=a
  ·subst z;rw[aD] at q;cases q;exact⟨ho,(I.aG b _ e).gR (λ_ _ _ e=>e) (λd q=>ne d _ q (λ_ z=>nomatch z)) (λd xs q=>ne d _ q (λ_ z=>nomatch z))⟩
  ·rw[aC z] at q;exact(I.aG b v q).gR (λ_ _ _ e=>e) (λd q=>ne d _ q λ_ z=>nomatch z) λd xs q=>ne d _ q λ_ z=>nomatch z
noncomputable def MQ(a:Addr)(ob:Obj)(kvs:List (Key×V)):It :=
 ⟨λi H=>H a=some (.bL ob (.dK kvs))/\i<kvs.length,λi H x H'=>H' = H/\∃p,kvs[i]? = some p/\x=kV p.1,λi H=>H a=some (.bL ob (.dK kvs))/\kvs.length<=i⟩
theorem vO{P:Program}{w:World}{H:Hp}{h:Heap}{a:Addr}{ob:Obj}{kvs:List (Key×V)}{es:Array DictEntry}{ep:Nat}(g8:ob.data = .dict es ep)(x:cN P w H h a (.bL ob (.dK kvs))) :
  ∃vs,KV kvs vs/\h.DictAt (eL P w) a vs ep:=by
 obtain⟨ho,_,_,vs,kv,o,es2,ep2,j7,c,d,r⟩:=x;rw[ho] at j7;cases j7;rw[g8] at d;cases d;exact⟨vs,kv,ob,es,ho,c,g8,r⟩
theorem aav{P:Program}{w:World}{K:PySem.W.Frag}{tg:Expr}(a it:Addr){ob:Obj}{kvs:List (Key×V)}{es:Array DictEntry}{ep:Nat}(g8:ob.data = .dict es ep) :
  Turn P w K tg (MQ a ob kvs) [it] it (λi h=>h.IsKeyIter it a i kvs.length ep) where
 mem:=by simp
 obj:=λi h st b hb=>by
  have e:b=it:=by simpa using hb
  subst e;obtain⟨o,e,c,d⟩:=st;exact⟨o,e,λv z=>by rw[d] at z;cases z⟩
 keep:=λi h h' st k=>let ⟨o,e,r⟩:=st;⟨o,k it (by simp) o e,r⟩
 item:=by
  intro X hP hw hK hc i pins s σ H E I hf st hg;subst hP hw hK;obtain⟨hq,hi⟩:=hg;obtain⟨vs,kv,da⟩:=vO g8 (I.aG a _ hq);have ek:kvs[i]? = some kvs[i]:=List.getElem?_eq_getElem hi;obtain⟨v,ev⟩:=kv.key ek;obtain⟨f0,f1,f2,f3,f4,f5⟩:=hf it (by simp)
  have hl:kvs.length=vs.length:=kv.length;refine wpAny_pyNext_dict_item (hl▸st) da ev λkey h' hk e8 sb=>?_;have I1:Inv X pins σ H { s with heap:=h' }:=I.turned (t':=s.toks) (λb o hb e=>(sb.2 b hb).trans e) f0 f1 f3 f4 f5;obtain⟨o,e,c,d⟩:=id e8;exact⟨key,rfl,qy (s:={ s with heap:=h' }) e c d (by decide) ⟨_,H,I1,aau hk,⟨rfl,kvs[i],ek,rfl⟩,hl▸e8,λb hb=>(hf b hb).1⟩⟩
 done:=by
  intro X hP hw hK hc i pins s σ H E I hf st hg;subst hP hw hK;obtain⟨hq,hi⟩:=hg;obtain⟨vs,kv,da⟩:=vO g8 (I.aG a _ hq);obtain⟨f0,f1,f2,f3,f4,f5⟩:=hf it (by simp)
  have hl:kvs.length=vs.length:=kv.length;exact wpAny_pyNext_dict_end (I.ok.hd hc) (hl▸st) da (List.getElem?_eq_none (by lia)) λh' eb=>⟨rfl,I.turned (t':=s.toks) (λb o hb e=>eb b o hb e) f0 f1 f3 f4 f5⟩
 self:=λA i s Q E st h=>by
  obtain⟨o,e,c,d⟩:=st;exact wpAny_pyIter_keyiter ⟨o,e,c,d⟩ h
noncomputable def MR(td:TE):TI:=λσ H R=>td σ H λx H1=>∃a kvs,x = .ref a/\H1 a=some (.dK kvs)/\∀ob,R (MQ a ob kvs) (upd H1 a (.bL ob (.dK kvs)))
theorem aaw{tg l:Expr}{td:TE}(hl:PE X l td):PI X tg l (MR td):=by
 intro pins s σ H R I h;refine aI (hl pins s σ H _ I h) λv s1 ⟨x,H1,I1,r1,q1⟩=>?_;obtain⟨a,kvs,e,hq,q⟩:=q1;subst e;cases r1;obtain⟨hz,hS,vs,kv,o,es,ep,ho,c,d,r⟩:=uN I1.aG hq;have ln:kvs.length=vs.length:=kv.length;refine wpAny_pyIter_dict (knd:=eL X.prog X.w) (kvs:=vs) (ep:=ep) hS ⟨o,es,ho,c,d,r⟩ ?_;have I2:=I1.freeze hq ho;have I3:=I2.kept (t':=s1.toks) (h':=s1.heap.push { cls:=.type "dict_keyiterator",data:=.fields #[.ref a,.int 0 0,.int vs.length 0,.int ep 0] }) λb o e=>Heap.get?_push_of_some _ e;refine⟨s1.heap.objs.size,[s1.heap.objs.size],_,_,_,rfl,I3,aav a _ d,⟨_,Heap.get?_push_size _ rfl,rfl,by rw[ln];rfl⟩,λb hb=>?_,q o⟩
 have e:b=s1.heap.objs.size:=by simpa using hb
 subst e;exact I2.kH (Nat.le_refl _) (I2.aG.fresh (Nat.le_refl _))
theorem aax{tl:TE}{g:TG}{tb:TS}{D:Ends}{σ:St}{H:Hp}(a:Addr)(kvs:List (Key×V))(Pv:Obj->Nat->St->Hp->Prop)(hi:∀Q:VK,Q (.ref a) H->tl σ H Q)(hq:H a=some (.dK kvs))(h0:∀ob,Pv ob 0 σ (upd H a (.bL ob (.dK kvs))))
  (st:∀ob i σ H,Pv ob i σ H->H a=some (.bL ob (.dK kvs)))
  (hb:∀ob i p σ H (N:St->Hp->Prop),(∀aO H',Pv ob (i+1) aO H'->N aO H')->kvs[i]? = some p->Pv ob i σ H->g (kV p.1) σ H λau H2=>tb { D with nx:=N,ct:=N,bk:=D.nx } au H2)
  (hn:∀ob σ H,Pv ob kvs.length σ H->D.nx σ H):gW (MR tl) g tb D σ H:=by
 refine hi _ ⟨a,kvs,rfl,hq,λob=>⟨λi m σ H=>m+i=kvs.length/\Pv ob i σ H,⟨kvs.length,by lia,h0 ob⟩,λi m σ H ⟨hm,hp⟩=>?_⟩⟩
 have hs:=st ob i σ H hp;by_cases hl:i<kvs.length
 ·refine .inr ⟨⟨hs,hl⟩,λaO H'=>Pv ob (i+1) aO H',λaO H' h=>⟨m - 1,by lia,by lia,h⟩,λx H' ⟨e1,p,e2,e3⟩=>?_⟩
  subst e1 e3;exact hb ob i p σ H' _ (λ_ _ h=>h) e2 hp
 ·refine .inl ⟨⟨hs,by lia⟩,hn ob σ H ?_⟩
  rw[show kvs.length=i by lia];exact hp
theorem aay{cs:List Addr}:∀ {us:List Value},Vals (cs.map V.ref) us->us=cs.map Value.ref:=by
 induction cs with
 | nil=>intro us h;cases h;rfl
 | cons c cs ih =>
  intro us h;cases h with
  | cons r t =>
   have r:_=Value.ref c:=r;rw[r,ih t];rfl
theorem aaz:gk X (.builtin "isinstance") (λxs H Q=>∃(a C p:Addr) (cs:List Addr) (b:Bool),xs = [.ref a,.ref p]/\H p=some (.tup (cs.map V.ref))/\(∃od,H a=some (pA a C od))/\kP X.K C/\(PySem.W.clsIn X.K C).isSome=true/\PySem.W.kitAny X.K (.ref C) (cs.map Value.ref)=some b/\Q (.bl b) H):=by
 intro pins s σ H xs us Q I r h;obtain⟨a,C,p,cs,b,rfl,hp,⟨od,ea⟩,G,hc,e,q⟩:=h;obtain⟨u,v,rfl,ru,rv⟩:=vals2 r;cases (show u=Value.ref a from ru);cases (show v=Value.ref p from rv);obtain⟨_,aA,rt,o,ho,lV,n,hd⟩:=I.aG p _ hp;have ei:=aay rt;obtain⟨oc,od,dt,sl⟩:=o;simp only at lV hd;subst lV hd ei;exact PySem.W.kia_tup (Mx G hc) I.cF (My I ea) ho e (λz=>nomatch z) λtk=>⟨.bl b,H,I.tok _,rfl,q⟩
theorem aaA:gk X (.builtin "isinstance") (λxs H Q=>∃(a C p:Addr) (cs:List Addr) (b:Bool),xs = [.ref a,.ref p]/\H p=some (.tup (cs.map V.ref))/\H a=some (pq a C)/\kP X.K C/\(PySem.W.clsIn X.K C).isSome=true/\PySem.W.kitAny X.K (.ref C) (cs.map Value.ref)=some b/\Q (.bl b) H) :=
 λpins s σ H xs us Q I r ⟨a,C,p,cs,b,e1,hp,ea,h⟩=>aaz pins s σ H xs us Q I r ⟨a,C,p,cs,b,e1,hp,⟨none,ea⟩,h⟩
end
structure Du(P:Program)(w:World)(K:PySem.W.Frag)(mg:Str->Option Value)(base:Heap)(k:Nat)(f:Addr)(fd:FuncData)(ps:List Str)(sp:Sp):Prop where
 len:∀vs H Q E,sp vs H Q E->vs.length=ps.length
 run:∀(A:Around) (outer:List Env) (s:Shared) (H:Hp) (args:Args) (us:List Value) (vs:List V) (Q:VK) (e:Value),cy k A->lH P w K mg base A outer s H->BindsTo s fd args (ps.zip us)->Vals vs us->sp vs H Q E0->
  codeAny (model P w) (A.mark (some e)) (.call (.ref f) args) (CR a_ outer P w H s Q E0) s
theorem aF.okW{P:Program}{w:World}{K:PySem.W.Frag}{mg:Str->Option Value}{base:Heap}{x qual:Str}{st:Stmt}{f:Addr}{fd:FuncData}{N ps:List Str}{k:Nat}{sp:Sp}(F:aF K x qual st f fd)(S:aX N ps (aN st))(len:∀vs H Q E,sp vs H Q E->vs.length=ps.length)
  (kI:∀(aK:Value) (A:Around) (outer:List Env) (s:Shared) (H:Hp) (vs:List V) (Q:VK) (e:Value),cy k (A.deeper (envOfC qual (aN st) s.heap.objs.size f aK))->sp vs H Q E0->
   ∃t,fz ((gn a_ P w K mg base N qual (aN st) f aK A outer s H E0).within e) (fc st) t/\t { nx:=λ_ H'=>Q .aJ H',rt:=Q } (start N vs) H):Du P w K mg base (k+1) f fd ps sp:=by
 obtain⟨oc,od,kV,doc,pm,an,aK,ct,gq,rfl,lk,dM⟩:=F.ex;refine⟨len,λA outer s H args us vs Q e hr e0 hb r gB=>?_⟩;have KX:K.In s.heap:=e0.mod.gU.keeps λb o q=>(e0.bs b o q).1;have lim:s.heap.NoLimit:=e0.mod.nolimit.keeps λb o q=>(e0.bs b o q).1;have two:∀y∈ps.zip us,(aN st).names.lookup y.1=some .local\/((aN st).names.lookup y.1=some .cell/\((cellsFrom (s.heap.objs.size+1) (aN st).names []).lookup y.1).isSome=true):=λ⟨n,v⟩ hy =>
  (S.par n (List.of_mem_zip hy).1).imp (λq=>q) λq=>⟨q,PySem.W.cellsFrom_some _ _ _ (.inl q)⟩
 refine codeAny_call_function (A:=A.mark (some e)) hr.depth (KX _ _ lk) rfl S.co S.gen rfl (PySem.W.codeRec_of KX dM) (hb _ _ _ _ ?_);refine wpAny_newFunctionEnv_cells S.kind two λenv he s1 x=>?_;subst he;refine⟨lim.keeps x.toInCall.keep,codeAny_func ?_⟩;obtain⟨t,ht,hq⟩:=kI aK A outer s H vs Q e (hr.deeper _) gB;have I:=(KQ (CX:=a_) (E:=E0) S hr.hd e0 (len _ _ _ _ gB) r x).within e;refine wpAny_mono (ht [] s1 (start N vs) H _ I hq) (λfl s' hs=>?_) λ_ _ z=>False.elim z;cases fl with
 | ret u=>obtain⟨v,aO,H',J,rv,q⟩:=hs;exact⟨v,H',J.os,J.bare,J.base,J.aG,rv,q⟩
 | next=>obtain⟨aO,H',J,q⟩:=hs;exact⟨V.aJ,H',J.os,J.bare,J.base,J.aG,rfl,q⟩
 | brk=>exact False.elim hs.choose_spec.choose_spec.2
 | cont=>exact False.elim hs.choose_spec.choose_spec.2
section
variable{X:Cx}{k:Nat}{f:Addr}{fd:FuncData}{ps:List Str}{sp:Sp}{x:Str}{p pos:Pos}{e:Expr}{es:List Expr}{t:TA}{a:Value}
theorem aaB(F:Du X.prog X.w X.K X.mg X.base k f fd ps sp)(hr:cy k X.A)(hg:Gl (X.within a) x)(hm:X.mg x=some (.ref f))(hk:PySem.W.keepIn X.K (.ref f)=true)(hb:Binds X.K fd ps [])(ha:PA (X.within a) (e::es) t)
  (gA:(x == ("__debug__" : Str))=false:=by decide) (he:starEach (e::es) X.env=(false,eval e X.env)::starEach es X.env:=by rfl) (e_:(backTo pos (starEach es X.env)).any (·.1)=false:=by rfl) :
  PE (X.within a) (.Call (.Name x p) (e::es) [] pos) (Cj sp [] E0 t):=by
 intro pins s σ H Q I h;refine wpAny_Call_Name_kw (mS I hg hm ?_ gA);refine PySem.W.callWith_K (h₀:=X.base) I.ok.mod.gU hk (wpAny_mono (ha pos pins s σ H _ I h) (λus s1 ⟨vs,H1,I1,r,q⟩=>⟨I1.cF,?_⟩) λ_ _ z=>z) he e_;have e1:=I1.uF;have q:sp (vs++[]) H1 Q E0:=q;rw[List.append_nil] at q;have vd:=hb s1 us I1.cF (by rw[List.append_nil];exact r.length.symm.trans (F.len _ _ _ _ q))
 rw[List.append_nil] at vd;refine wpAny_call (codeAny_mono (F.run X.A X.stack s1 H1 ⟨us,[]⟩ us vs Q a hr ⟨e1.frames,e1.mod,e1.bs,e1.iR,e1.fY,e1.iS,e1.aG,e1.bare⟩ vd r q) λr' s' hq=>?_)
 match r',hq with
 | .error e,hq=>exact False.elim hq
 | .ok (.ret u),hq=>exact I1.after hq
 | .ok .next,hq=>exact False.elim hq
 | .ok .brk,hq=>exact False.elim hq
 | .ok .cont,hq=>exact False.elim hq
end
noncomputable def fV(pl:Addr)(t u:Int):List (Str×V):=[("pairs",.ref pl),("turn",.int t),("used",.int u)]
structure c8(C:Addr)(H:Hp)(x:Addr)(sh:List (Int×Int))(t u:Int)(dx pl:Addr)(bA:List Addr):Prop where
 o:H x=some (.ins C dx (fV pl t u))
 p:Zn H pl bA sh
structure gv(z:List (Int×Int)):Prop where
 n1:1<=z.length
 n4:z.length<=4
 a:∀p∈z,0<=p.1/\p.1<=20/\1<=p.2/\p.2<=4
 nd:(z.map (·.1)).Nodup
section
variable{C:Addr}{H H':Hp}{x dx pl:Addr}{bA:List Addr}{sh:List (Int×Int)}{t u:Int}
theorem c8.same(h:c8 C H x sh t u dx pl bA)(s:ah H H'):c8 C H' x sh t u dx pl bA:=⟨s _ _ h.o,h.p.same s⟩
theorem aaC:iK (fV pl t u)=true:=by simp[iK,fV,List.lookup_cons,fM]
theorem c8.Dv(h:c8 C H x sh t u dx pl bA)(s:SameBut x H H'):bZ H H':=λb o e n=>s b o e λz=>by
 rw[z,h.o] at e;cases e;have:=n.2.1 _ _ _ rfl;rw[aaC] at this;cases this
end
theorem c8.iD{C:Addr}{H:Hp}{x dx pl f:Addr}{bA:List Addr}{sh:List (Int×Int)}{t u:Int}{xs ys:List V}(h:c8 C H x sh t u dx pl bA)(hf:H f=some (.lst xs))(ne:f≠pl):c8 C (upd H f (.lst ys)) x sh t u dx pl bA :=
 ⟨(aC (λz=>by have:=h.o;rw[z,hf] at this;cases this)).trans h.o,h.p.iD hf ne⟩
section
variable{K:PySem.W.Frag}{C CA CD:Addr}{H H':Hp}
end
noncomputable def nI(o:Option Int)(n:Int):Int:=match o with
 | none=>n
 | some m=>if n<m then n else m
noncomputable def eG(a:Int)(ds:List Dr):Option Int:=ds.foldl (λo d=>if d.q.aY=a then some (nI o d.n) else o) none
theorem MS{a:Int}{ds:List Dr}{d:Dr}:eG a (ds++[d])=if d.q.aY=a then some (nI (eG a ds) d.n) else eG a ds:=by
 unfold eG;rw[List.foldl_append];rfl
theorem aaD{a:Int}{ds:List Dr}{i:Nat}(hi:i<ds.length):eG a (ds.take (i+1))=if ds[i].q.aY=a then some (nI (eG a (ds.take i)) ds[i].n) else eG a (ds.take i):=by
 rw[take_succ_get (List.getElem?_eq_getElem hi),MS]
theorem pD{a:Int}(ds:List Dr):(eG a ds=none->∀d∈ds,d.q.aY≠a)/\∀n,eG a ds=some n->(∃d∈ds,d.q.aY=a/\d.n=n)/\∀d∈ds,d.q.aY=a->n<=d.n:=by
 rw[← List.reverse_reverse ds];generalize ds.reverse=r
 induction r with
 | nil=>exact⟨λ_ d h=>by simp at h,λn h=>by simp[eG] at h⟩
 | cons e r ih =>
  rw[List.reverse_cons,MS];obtain⟨i1,i2⟩:=ih;by_cases he:e.q.aY=a
  ·rw[if_pos he];refine⟨(λz=>nomatch z),λn hn=>?_⟩;cases hn;cases ho:eG a r.reverse with
   | none =>
    refine⟨⟨e,by simp,he,rfl⟩,λd hd ha=>?_⟩
    rcases List.mem_append.mp hd with h | h
    ·exact absurd ha (i1 ho d h)
    ·rw[List.mem_singleton.mp h];exact Int.le_refl _
   | some m =>
    obtain⟨⟨d0,h0,a0,n0⟩,hm⟩:=i2 m ho;have hle:∀d∈r.reverse++[e],d.q.aY=a->(if e.n<m then e.n else m)<=d.n:=λd hd ha=>by
     rcases List.mem_append.mp hd with h | h
     ·have:=hm d h ha;split <;> lia
     ·rw[List.mem_singleton.mp h];split <;> lia
    refine⟨?_,hle⟩;by_cases bU:e.n<m
    ·exact⟨e,by simp,he,by simp[nI,bU]⟩
    ·exact⟨d0,List.mem_append_left _ h0,a0,by simp[nI,bU,n0]⟩
  ·rw[if_neg he];refine⟨λz d hd=>?_,λn hn=>?_⟩
   ·rcases List.mem_append.mp hd with h | h
    ·exact i1 z d h
    ·rw[List.mem_singleton.mp h];exact he
   ·obtain⟨⟨d0,h0,a0,n0⟩,hm⟩:=i2 n hn;refine⟨⟨d0,List.mem_append_left _ h0,a0,n0⟩,λd hd ha=>?_⟩;rcases List.mem_append.mp hd with h | h
    ·exact hm d h ha
    ·rw[List.mem_singleton.mp h] at ha;exact absurd ha he
theorem vP{a:Int}{ds:List Dr}{d:Dr}(hd:d∈ds)(ha:d.q.aY=a):(eG a ds).isSome=true:=by
 cases h:eG a ds with
 | none=>exact absurd ha ((pD ds).1 h d hd)
 | some n=>rfl
theorem aaE{kvs:List (Key×V)}{k:Key}{v:V}{p:Key×V}(h:p∈putK kvs k v):(∃q∈kvs,q.1=p.1)\/p.1=k:=by
 unfold putK at h;split at h
 ·obtain⟨q,hq,e⟩:=List.mem_map.mp h;left;refine⟨q,hq,?_⟩;rw[← e];split <;> rfl
 ·rcases List.mem_append.mp h with h | h
  ·exact .inl ⟨p,h,rfl⟩
  ·rw[List.mem_singleton.mp h];exact .inr rfl
structure pF(ds:List Dr)(kvs:List (Key×V)):Prop where
 v:∀a:Int,bF kvs (bC a)=(eG a ds).map V.int
 k:∀p∈kvs,∃d∈ds,p.1=bC d.q.aY
noncomputable def bG(sh:List (Int×Int))(t:Int):Int:=(sh.getD t.toNat (0,0)).1
noncomputable def cX(sh:List (Int×Int))(t:Int):Int:=(sh.getD t.toNat (0,0)).2
theorem i7{sh:List (Int×Int)}{t:Int}(h0:0<=t)(h1:t<sh.length):sh[t.toNat]? = some (bG sh t,cX sh t):=by
 have:t.toNat<sh.length:=by lia
 unfold bG cX;rw[List.getD_eq_getElem?_getD,List.getElem?_eq_getElem this];rfl
theorem Zn.ti{H:Hp}{l:Addr}{ts:List Addr}{sh:List (Int×Int)}(h:Zn H l ts sh){t:Int}(h0:0<=t)(h1:t<sh.length):∃p,ez (ts.map V.ref) t=some (.ref p)/\H p=some (.tup [.int (bG sh t),.int (cX sh t)]):=by
 have hl:t.toNat<ts.length:=by rw[h.n];lia
 refine⟨ts[t.toNat],?_,h.t _ _ _ (List.getElem?_eq_getElem hl) (i7 h0 h1)⟩;have:ez (ts.map V.ref) ((t.toNat:Nat):Int)=some (.ref ts[t.toNat]):=dQ (by rw[List.getElem?_map,List.getElem?_eq_getElem hl];rfl)
 rwa [Int.toNat_of_nonneg h0] at this
structure lW(pr:Int->Prop)(sh:List (Int×Int))(t t':Int):Prop where
 ex:∃k:Nat,1<=k/\t' = (t+k) % sh.length/\pr (bG sh t')/\∀j:Nat,1<=j->j<k->¬ pr (bG sh ((t+j) % sh.length))
theorem lW.congr{pr Dw:Int->Prop}{sh:List (Int×Int)}{t t':Int}(e:∀a,pr a↔Dw a)(h:lW pr sh t t'):lW Dw sh t t':=by
 rw[show pr=Dw from funext λa=>propext (e a)] at h;exact h
structure i8(pr:Int->Prop)(sh:List (Int×Int))(t:Int)(m:Nat)(t':Int):Prop where
 ex:∃k k0:Nat,1<=k/\k<=k0/\m+k=k0/\t' = (t+k) % sh.length/\pr (bG sh ((t+k0) % sh.length))/\∀j:Nat,1<=j->j<k->¬ pr (bG sh ((t+j) % sh.length))
theorem i8.start{pr:Int->Prop}{sh:List (Int×Int)}{t:Int}(h0:0<=t)(h1:t<sh.length){p:Int×Int}(hp:p∈sh)(pp:pr p.1):∃m,i8 pr sh t m ((t+1) % sh.length):=by
 obtain⟨i,hi,rfl⟩:=List.mem_iff_getElem.mp hp;have ea:∀k0:Nat,(t+k0) % sh.length=(i:Int)->pr (bG sh ((t+k0) % sh.length)):=λk0 e=>by
  rw[e];unfold bG;rw[Int.toNat_natCast,List.getD_eq_getElem?_getD,List.getElem?_eq_getElem hi];exact pp
 by_cases hc:t<i
 ·refine⟨(i - t.toNat) - 1,1,i - t.toNat,Nat.le_refl _,by lia,by lia,by simp,ea _ ?_,λj a b=>by lia⟩
  rw[show t+((i - t.toNat:Nat):Int)=i by lia]
  exact Int.emod_eq_of_lt (by lia) (by lia)
 ·refine⟨(i+sh.length - t.toNat) - 1,1,i+sh.length - t.toNat,Nat.le_refl _,by lia,by lia,by simp,ea _ ?_,λj a b=>by lia⟩
  rw[show t+((i+sh.length - t.toNat:Nat):Int)=i+sh.length by lia,Int.add_emod_right]
  exact Int.emod_eq_of_lt (by lia) (by lia)
theorem i8.go{pr:Int->Prop}{sh:List (Int×Int)}{t:Int}{m:Nat}{t':Int}(h:i8 pr sh t m t')(np:¬ pr (bG sh t')):∃m',m' < m/\i8 pr sh t m' ((t' + 1) % sh.length):=by
 obtain⟨k,k0,k1,kk,hm,rfl,p0,nj⟩:=h.ex;have fh:k≠k0:=λe=>np (e▸p0);refine⟨m - 1,by lia,k+1,k0,by lia,by lia,by lia,?_,p0,λj a b=>?_⟩
 ·rw[Int.emod_add_emod,Int.add_assoc];rfl
 ·by_cases e:j=k
  ·rw[e];exact np
  ·exact nj j a (by lia)
theorem i8.stop{pr:Int->Prop}{sh:List (Int×Int)}{t:Int}{m:Nat}{t':Int}(h:i8 pr sh t m t')(p:pr (bG sh t')):lW pr sh t t':=by
 obtain⟨k,k0,k1,kk,hm,e,p0,nj⟩:=h.ex;exact⟨k,k1,e,p,nj⟩
theorem i8.bd{pr:Int->Prop}{sh:List (Int×Int)}{t:Int}{m:Nat}{t':Int}(h:i8 pr sh t m t')(n1:1<=sh.length):0<=t'/\t' < sh.length:=by
 obtain⟨k,k0,k1,kk,hm,rfl,_⟩:=h.ex;exact⟨Int.emod_nonneg _ (by lia),Int.emod_lt_of_pos _ (by lia)⟩
theorem lW.bd{pr:Int->Prop}{sh:List (Int×Int)}{t t':Int}(h:lW pr sh t t')(n1:1<=sh.length):0<=t'/\t' < sh.length:=by
 obtain⟨k,k1,rfl,_⟩:=h.ex;exact⟨Int.emod_nonneg _ (by lia),Int.emod_lt_of_pos _ (by lia)⟩
noncomputable def here(ds:List Dr)(a:Int):Prop:=(eG a ds).isSome=true
structure kU(sh:List (Int×Int))(ds:List Dr)(t u t' u':Int):Prop where
 y:cX sh t<=u\/¬ here ds (bG sh t)->lW (here ds) sh t t'/\u' = 1
 n:¬ (cX sh t<=u\/¬ here ds (bG sh t))->t' = t/\u' = u+1
theorem kU.bd{sh:List (Int×Int)}{ds:List Dr}{t u a b:Int}(x:kU sh ds t u a b)(ok:gv sh)(t0:0<=t)(t1:t<sh.length)(u0:0<=u):(0<=a/\a<sh.length)/\0<=b/\b<=cX sh a/\here ds (bG sh a):=by
 have pG:∀i:Int,0<=i->i<sh.length->1<=cX sh i:=λi h0 h1=>(ok.a _ (List.mem_of_getElem? (i7 h0 h1))).2.2.1;by_cases h:cX sh t<=u\/¬ here ds (bG sh t)
 ·obtain⟨x1,rfl⟩:=x.y h;have:=x1.bd ok.n1;have:=pG a this.1 this.2;exact⟨by assumption,by decide,by lia,let ⟨_,_,_,p,_⟩:=x1.ex;p⟩
 ·obtain⟨rfl,rfl⟩:=x.n h;refine⟨⟨t0,t1⟩,by lia,by lia,?_⟩
  exact Classical.not_not.mp λz=>h (.inr z)
theorem kU.bt{sh:List (Int×Int)}{ds:List Dr}{t u a b:Int}(x:kU sh ds t u a b)(ok:gv sh)(t0:0<=t)(t1:t<sh.length):0<=a/\a<sh.length/\here ds (bG sh a):=by
 by_cases h:cX sh t<=u\/¬ here ds (bG sh t)
 ·obtain⟨x1,rfl⟩:=x.y h;have:=x1.bd ok.n1;exact⟨this.1,this.2,let ⟨_,_,_,p,_⟩:=x1.ex;p⟩
 ·obtain⟨rfl,rfl⟩:=x.n h;exact⟨t0,t1,Classical.not_not.mp λz=>h (.inr z)⟩
noncomputable def aaF(X:Addr):Sp:=λvs H Q E=>∃(l:Addr) (ts:List Addr) (z:List (Int×Int)),vs = [.ref l]/\Zn H l ts z/\z.length<=1000/\(gv z->∀H',ah H H'->Q .aJ H')/\(¬ gv z->∀H',ah H H'->E (.ref X) none H')
noncomputable def aaG(C X:Addr):Sp:=λvs H Q E=>∃(x dx l:Addr) (ts:List Addr) (z:List (Int×Int)),vs = [.ref x,.ref l]/\H x=some (.ins C dx [])/\Zn H l ts z/\z.length<=1000/\(gv z->∀pl bA H',SameBut x H H'->H pl=none->c8 C H' x z 0 0 dx pl bA->Q .aJ H')/\(¬ gv z->∀H',ah H H'->E (.ref X) none H')
noncomputable def aaH(C:Addr):Sp:=λvs H Q _=>∃(x dx pl:Addr) (fs:List (Str×V)),vs = [.ref x]/\H x=some (.ins C dx fs)/\(fs = [(("pairs" : Str),V.ref pl)]\/∃t u,fs=fV pl t u)/\∀H',SameBut x H H'->H' x=some (.ins C dx (fV pl 0 0))->Q .aJ H'
noncomputable def aaI(K:PySem.W.Frag)(CA CD:Addr):Sp:=λvs H Q _=>∃(D:Addr) (ps:List Addr) (ds:List Dr),vs = [.ref D]/\lU K CA CD H D ps ds/\ds.length<=100/\
 ∀B kvs H',ah H H'->H B=none->H' B=some (.dK kvs)->kvs.length<=1000->pF ds kvs->Q (.ref B) H'
noncomputable def vQ(sh:List (Int×Int))(kvs:List (Key×V)):Prop:=∀p∈kvs,∃a∈sh.map (·.1),p.1=bC a
noncomputable def aaJ(C X:Addr):Sp:=λvs H Q E=>∃(x B dx pl:Addr) (bA:List Addr) (sh:List (Int×Int)) (t u:Int) (kvs:List (Key×V)),vs = [.ref x,.ref B]/\c8 C H x sh t u dx pl bA/\sh.length<=4/\H B=some (.dK kvs)/\(∀p∈kvs,∃a:Int,p.1=bC a)/\
 (vQ sh kvs->∀ob H',SameBut B H H'->H' B=some (.bL ob (.dK kvs))->Q .aJ H')/\(¬ vQ sh kvs->∀H',SameBut B H H'->E (.ref X) none H')
theorem aaK{kvs:List (Key×V)}{k:Key}(h:(bF kvs k).isSome=true):∃p∈kvs,p.1=k:=by
 unfold bF at h;rw[Option.isSome_map] at h;obtain⟨p,hp⟩:=Option.isSome_iff_exists.mp h;exact⟨p,List.mem_of_find?_eq_some hp,of_decide_eq_true (List.find?_some hp :)⟩
theorem pF.here{ds:List Dr}{kvs:List (Key×V)}(lo:pF ds kvs)(a:Int):(bF kvs (bC a)).isSome=true↔here ds a:=by
 unfold _L.here;rw[lo.v,Option.isSome_map]
theorem pF.known{ds:List Dr}{kvs:List (Key×V)}{sh:List (Int×Int)}(lo:pF ds kvs):vQ sh kvs↔∀d∈ds,d.q.aY∈sh.map (·.1):=by
 refine⟨λkn d hd=>?_,λh p hp=>let ⟨d,hd,e⟩:=lo.k p hp;⟨_,h d hd,e⟩⟩
 obtain⟨p,hp,e⟩:=aaK ((lo.here _).mpr (vP hd rfl));obtain⟨a,ha,e'⟩:=kn p hp;rw[e] at e';cases e';exact ha
theorem c8.but{C:Addr}{H H':Hp}{x dx pl B:Addr}{bA:List Addr}{sh:List (Int×Int)}{t u:Int}{kvs:List (Key×V)}(h:c8 C H x sh t u dx pl bA)(s:SameBut B H H')(hB:H B=some (.dK kvs)):c8 C H' x sh t u dx pl bA :=
 ⟨s _ _ h.o (λz=>by have:=h.o;rw[z,hB] at this;cases this),s _ _ h.p.l (λz=>by have:=h.p.l;rw[z,hB] at this;cases this),h.p.n,λi t p e1 e2=>s _ _ (h.p.t i t p e1 e2) (λz=>by have:=h.p.t i t p e1 e2;rw[z,hB] at this;cases this)⟩
theorem c8.set{C:Addr}{H H':Hp}{x dx pl:Addr}{bA:List Addr}{sh:List (Int×Int)}{t u t' u':Int}(h:c8 C H x sh t u dx pl bA)(s:SameBut x H H')(hx:H' x=some (.ins C dx (fV pl t' u'))):c8 C H' x sh t' u' dx pl bA :=
 ⟨hx,s _ _ h.p.l (λz=>by have:=h.p.l;rw[z,h.o] at this;cases this),h.p.n,λi t p e1 e2=>s _ _ (h.p.t i t p e1 e2) (λz=>by have:=h.p.t i t p e1 e2;rw[z,h.o] at this;cases this)⟩
noncomputable def aaL(C:Addr):Sp:=λvs H Q _=>∃(x B dx pl:Addr) (bA:List Addr) (sh:List (Int×Int)) (t u:Int) (kvs:List (Key×V)),vs = [.ref x,.ref B]/\c8 C H x sh t u dx pl bA/\0<=t/\t<sh.length/\sh.length<=4/\Rd H B (.dK kvs)/\(∃p∈sh,(bF kvs (bC p.1)).isSome=true)/\
 ∀t',lW (λa=>(bF kvs (bC a)).isSome=true) sh t t'->Q (.int t') H
noncomputable def aaM(K:PySem.W.Frag)(CA CD C X:Addr):Sp:=λvs H Q E=>∃(x p dx pl:Addr) (r b:Int) (bA:List Addr) (sh:List (Int×Int)) (t u:Int) (D:Addr) (ps:List Addr) (ds:List Dr),vs = [.ref x,.ref p,.int r,.int b,.ref D]/\c8 C H x sh t u dx pl bA/\gv sh/\0<=t/\t<sh.length/\lU K CA CD H D ps ds/\1<=ds.length/\ds.length<=100/\
 ((∀d∈ds,d.q.aY∈sh.map (·.1))->∀t' u' n H',SameBut x H H'->c8 C H' x sh t' u' dx pl bA->kU sh ds t u t' u'->eG (bG sh t') ds=some n->Q (.int n) H')/\
 (¬ (∀d∈ds,d.q.aY∈sh.map (·.1))->∀H',ah H H'->E (.ref X) none H')
structure Zz(H:Hp)(ts:List Addr)(z:List (Int×Int)):Prop where
 n:ts.length=z.length
 t:∀(i:Nat) (t:Addr) (p:Int×Int),ts[i]? = some t->z[i]? = some p->H t=some (.tup [.int p.1,.int p.2])
section
variable{H H':Hp}{l:Addr}{ts h_:List Addr}{z z2:List (Int×Int)}
theorem Zn.zz(h:Zn H l ts z):Zz H ts z:=⟨h.n,h.t⟩
theorem Zz.zn(h:Zz H ts z)(hl:H l=some (.lst (ts.map V.ref))):Zn H l ts z:=⟨hl,h.n,h.t⟩
theorem Zz.same(h:Zz H ts z)(s:ah H H'):Zz H' ts z:=⟨h.n,λi t p e1 e2=>s _ _ (h.t i t p e1 e2)⟩
theorem Zz.one{t:Addr}{a b:Int}(h:H t=some (.tup [.int a,.int b])):Zz H [t] [(a,b)]:=⟨rfl,λi t' p e1 e2=>by
 cases i with
 | zero=>cases e1;cases e2;exact h
 | succ i=>simp at e1⟩
theorem Zz.cat(h:Zz H ts z)(h2:Zz H h_ z2):Zz H (ts++h_) (z++z2):=by
 have hn:=h.n;refine⟨by simp[h.n,h2.n],λi t p e1 e2=>?_⟩
 by_cases hi:i<ts.length
 ·rw[List.getElem?_append_left hi] at e1;rw[List.getElem?_append_left (by lia)] at e2
  exact h.t i t p e1 e2
 ·rw[List.getElem?_append_right (by lia)] at e1
  rw[List.getElem?_append_right (by lia),← hn] at e2
  exact h2.t _ t p e1 e2
theorem Zz.take(h:Zz H ts z)(k:Nat):Zz H (ts.take k) (z.take k):=by
 refine⟨by simp[h.n],λi t p e1 e2=>?_⟩
 rw[List.getElem?_take] at e1 e2;split at e1
 ·rename_i hi;rw[if_pos hi] at e2;exact h.t i t p e1 e2
 ·cases e1
theorem Zz.drop(h:Zz H ts z)(k:Nat):Zz H (ts.drop k) (z.drop k):=by
 refine⟨by simp[h.n],λi t p e1 e2=>?_⟩
 rw[List.getElem?_drop] at e1 e2;exact h.t _ t p e1 e2
end
theorem aaN{xs:List V}{k:Nat}(hk:k<xs.length):iA xs (some (k:Int)) (some ((k:Int)+1))=(xs.drop k).take 1:=by
 have e:_H.cZ xs.length 0 (some (k:Int))=k:=by
  simp only[_H.cZ];rw[if_neg (by lia)];simp;lia
 have e2:_H.cZ xs.length xs.length (some ((k:Int)+1))=k+1:=by
  simp only[_H.cZ];rw[if_neg (by lia)];lia
 unfold iA;rw[e,e2,show k+1 - k=1 by lia]
structure aaO(H:Hp)(L:Addr)(bs:List Addr):Prop where
 l:H L=some (.lst (bs.map V.ref))
 n:bs.length<=4
 t:∀b∈bs,∃ts z,Zn H b ts z/\z.length<=1000/\¬ gv z
section
variable{K:PySem.W.Frag}{CA CD:Addr}{H H':Hp}{D D':Addr}{ts h_:List Addr}{ps iJ:List Dr}
end
structure MT(K:PySem.W.Frag)(CA CD CS:Addr)(H6:Hp)(shl:Addr)(dZ:List Addr)(x1 d1 pl:Addr)(bA:List Addr)(S:Addr)(sh:List (Int×Int))(nc:List (Int×Int))(m:Nat)(H':Hp)(Lp Dd:Addr)(fq:List Addr)(cR:List Dr)(fF:List Addr)(cS:List Dr)(t u:Int):Prop where
 kt:bZ H6 H'
 s:H' S=some (.lst [.int t,.int u])
 x:c8 CS H' x1 sh t u d1 pl bA
 t0:0<=t
 t1:t<sh.length
 u0:0<=u
 u1:u<=cX sh t
 pp:j6 K CA CD H' Lp Lp fq cR
 dd:j6 K CA CD H' Dd Dd fF cS
 bo:rN nc cS cR
 ak:∀p∈cS++cR,p.q.aY∈sh.map (·.1)
 hm:cS.length+cR.length=m
noncomputable def MU(K:PySem.W.Frag)(CA CD CS:Addr)(H6:Hp)(a p wt al shl:Addr)(dZ:List Addr)(st:Int)(hd x1 d1 pl:Addr)(bA:List Addr)(S:Addr)(sh:List (Int×Int))(nc:List (Int×Int))(m:Nat)(σ:St)(H':Hp):Prop :=
 ∃(Lp Dd:Addr) (fq:List Addr) (cR:List Dr) (fF:List Addr) (cS:List Dr) (t u:Int) (gc jF rO:Option V),σ = [some (.ref a),some (.ref p),some (.ref wt),some (.ref al),some (.ref shl),some (.ref Lp),some (.int st),some (.ref hd),some (.ref x1),some (.ref S),some (.ref Dd),gc,jF,rO]/\
  MT K CA CD CS H6 shl dZ x1 d1 pl bA S sh nc m H' Lp Dd fq cR fF cS t u
@[elab_as_elim] theorem MU.el{K:PySem.W.Frag}{CA CD CS:Addr}{H6:Hp}{a p wt al shl:Addr}{dZ:List Addr}{st:Int}{hd x1 d1 pl:Addr}{bA:List Addr}{S:Addr}{sh:List (Int×Int)}{nc:List (Int×Int)}{m:Nat}{σ:St}{H':Hp}{X:St->Prop}(h:MU K CA CD CS H6 a p wt al shl dZ st hd x1 d1 pl bA S sh nc m σ H')
  (k:∀(Lp Dd:Addr) (fq:List Addr) (cR:List Dr) (fF:List Addr) (cS:List Dr) (t u:Int) (gc jF rO:Option V),MT K CA CD CS H6 shl dZ x1 d1 pl bA S sh nc m H' Lp Dd fq cR fF cS t u->X [some (.ref a),some (.ref p),some (.ref wt),some (.ref al),some (.ref shl),some (.ref Lp),some (.int st),some (.ref hd),some (.ref x1),some (.ref S),some (.ref Dd),gc,jF,rO]):X σ:=by
 obtain⟨Lp,Dd,fq,cR,fF,cS,t,u,gc,jF,rO,rfl,f⟩:=h;exact k Lp Dd fq cR fF cS t u gc jF rO f
theorem aaP{f lp mo:Int}{n:Nat}(f0:0<=f)(l1:1<=lp)(l2:lp<=18)(n4:n<=4):((List.range n).map λ(k:Nat)=>(f+(k:Int)*lp) % 19+mo).Nodup:=by
 rw[List.nodup_iff_pairwise_ne,List.pairwise_map,List.pairwise_iff_getElem];intro i j hi hj hij;simp only[List.length_range] at hi hj;simp only[List.getElem_range];have:(i=0/\j=1)\/(i=0/\j=2)\/(i=0/\j=3)\/(i=1/\j=2)\/(i=1/\j=3)\/(i=2/\j=3):=by lia
 rcases this with⟨rfl,rfl⟩ | ⟨rfl,rfl⟩ | ⟨rfl,rfl⟩ | ⟨rfl,rfl⟩ | ⟨rfl,rfl⟩ | ⟨rfl,rfl⟩ <;> lia
theorem MV:∀(as l:List Int),l.Nodup->l.length<=(l.filter λx => !decide (x∈as)).length+as.length
 | [],l,_=>by rw[List.filter_eq_self.mpr (λx _=>by simp)];exact Nat.le_refl _
 | a::as,l,nd=>by
  have ih:=MV as l nd;have e:(l.filter λx => !decide (x∈a::as))=(l.filter λx => !decide (x∈as)).filter λx=>x != a:=by
   rw[List.filter_filter];refine List.filter_congr λx _=>?_;by_cases h:x=a <;> simp[h]
  have nd2:(l.filter λx => !decide (x∈as)).Nodup:=nd.sublist List.filter_sublist;rw[e,← nd2.erase_eq_filter,List.length_erase];rw[List.length_cons];split <;> lia
theorem aaQ(n:Nat):((List.range n).map λ(k:Nat)=>(k:Int)).Nodup:=by
 rw[List.nodup_iff_pairwise_ne,List.pairwise_map];exact List.pairwise_lt_range.imp λh e=>by lia
noncomputable def aaR:Sp:=λvs H Q _=>∃(c:Int),vs = [.int c]/\∀(l:Addr) (xs:List Int) (H':Hp),ah H H'->H l=none->H' l=some (.lst (xs.map V.int))->1<=xs.length->xs.length<=4->(∀x∈xs,0<=x/\x<=20)->xs.Nodup->Q (.ref l) H'
theorem KV.vl:∀ {kvs:List (Key×V)} {vs:List (Key×Value)},KV kvs vs->∀ {i:Nat} {p:Key×V},kvs[i]? = some p->∃k v,vs[i]? = some (k,v)/\RelV p.2 v
 | _,_,.nil,i,p,e=>by simp at e
 | _,_,.cons (b:=q) r t,0,p,e=>by
  cases e;exact⟨q.1,q.2,rfl,r.2⟩
 | _,_,.cons r t,i+1,p,e=>KV.vl t (i:=i) e
noncomputable def MW(a:Addr)(ob:Obj)(kvs:List (Key×V)):It :=
 ⟨λi H=>H a=some (.bL ob (.dK kvs))/\i<kvs.length,λi H x H'=>H' = H/\∃p,kvs[i]? = some p/\x=p.2,λi H=>H a=some (.bL ob (.dK kvs))/\kvs.length<=i⟩
theorem aaS{P:Program}{w:World}{K:PySem.W.Frag}{tg:Expr}(a it:Addr){ob:Obj}{kvs:List (Key×V)}{es:Array DictEntry}{ep:Nat}(g8:ob.data = .dict es ep) :
  Turn P w K tg (MW a ob kvs) [it] it (λi h=>h.IsValIter it a i kvs.length ep) where
 mem:=by simp
 obj:=λi h st b hb=>by
  have e:b=it:=by simpa using hb
  subst e;obtain⟨o,e,c,d⟩:=st;exact⟨o,e,λv z=>by rw[d] at z;cases z⟩
 keep:=λi h h' st k=>let ⟨o,e,r⟩:=st;⟨o,k it (by simp) o e,r⟩
 item:=by
  intro X hP hw hK hc i pins s σ H E I hf st hg;subst hP hw hK;obtain⟨hq,hi⟩:=hg;obtain⟨vs,kv,da⟩:=vO g8 (I.aG a _ hq);have ek:kvs[i]? = some kvs[i]:=List.getElem?_eq_getElem hi;obtain⟨k,v,ev,rv⟩:=kv.vl ek;obtain⟨f0,f1,f2,f3,f4,f5⟩:=hf it (by simp)
  have hl:kvs.length=vs.length:=kv.length;refine wpAny_pyNext_values_item (hl▸st) da ev λh' e8 sb=>?_;have I1:Inv X pins σ H { s with heap:=h' }:=I.turned (t':=s.toks) (λb o hb e=>(sb.2 b hb).trans e) f0 f1 f3 f4 f5;obtain⟨o,e,c,d⟩:=id e8;exact⟨v,rfl,qy (s:={ s with heap:=h' }) e c d (by decide) ⟨_,H,I1,rv,⟨rfl,kvs[i],ek,rfl⟩,hl▸e8,λb hb=>(hf b hb).1⟩⟩
 done:=by
  intro X hP hw hK hc i pins s σ H E I hf st hg;subst hP hw hK;obtain⟨hq,hi⟩:=hg;obtain⟨vs,kv,da⟩:=vO g8 (I.aG a _ hq);obtain⟨f0,f1,f2,f3,f4,f5⟩:=hf it (by simp)
  have hl:kvs.length=vs.length:=kv.length;exact wpAny_pyNext_values_end (I.ok.hd hc) (hl▸st) da (List.getElem?_eq_none (by lia)) λh' eb=>⟨rfl,I.turned (t':=s.toks) (λb o hb e=>eb b o hb e) f0 f1 f3 f4 f5⟩
 self:=λA i s Q E st h=>wpAny_pyIter_valiter st h
section
variable{X:Cx}{o:Expr}{to:TE}{apos cQ:Pos}{tg:Expr}
noncomputable def Dy(K:PySem.W.Frag)(td:TE):TI:=λσ H R=>td σ H λx H1=>∃a kvs,x = .ref a/\H1 a=some (.dK kvs)/\∀ob,R (MW a ob kvs) (upd H1 a (.bL ob (.dK kvs)))
theorem MX(ho:PE X o to)(Cq:attributeBase o "values" X.env (eval o X.env)=eval o X.env:=by rfl)(Cr:(apos.endLine == cQ.line)=true:=by rfl):PI X tg (.Call (.Attribute o "values" apos) [] [] cQ) (Dy X.K to):=by
 intro pins s σ H R I h;refine wpAny_Call_method0_late Cq Cr (aI (ho pins s σ H _ I h) λv s1 ⟨x,H1,I1,r1,q1⟩=>?_);obtain⟨a,kvs,e,hq,q⟩:=q1;subst e;have ty:uL X.K "dict" (.ref a) H1:=.inr (.inr (.inl ⟨rfl,.inl ⟨kvs,hq⟩⟩));obtain⟨h1,h2⟩:=K6 I1 r1 ty;refine⟨"dict", "dict.values",PySem.F.plainAttrs_dict,PySem.F.slot_dict_values,PySem.F.type_dict_values,h1,h2,Calls.callWith_builtin rfl (PySem.evalArgs_none ?_)⟩;cases r1;obtain⟨hz,hS,vs,kv,ob,es,ep,g8,c,d,r⟩:=uN I1.aG hq;have ln:kvs.length=vs.length:=kv.length;refine call_meetsIn PySem.F.slot_dict_values h1 PySem.F.entry_dict_values (PySem.F.args_dict_values_1 _) (meets_dict_values (eL X.prog X.w) a hS) ⟨⟨vs,ob,es,ep,g8,c,d,r⟩,?_⟩;have I2:=I1.freeze hq g8;have I3:=I2.kept (t':=s1.toks) (h':=s1.heap.push { cls:=.type "dict_values",data:=.fields #[.ref a] }) λb o e=>Heap.get?_push_of_some _ e;refine wpAny_pyIter_values (knd:=eL X.prog X.w) (kvs:=vs) (ep:=ep) ⟨_,Heap.get?_push_size _ rfl,rfl,rfl⟩ ⟨ob,es,Heap.get?_push_of_some _ g8,c,d,r⟩ ?_;have I4:=I3.kept (t':=s1.toks) (h':=(s1.heap.push { cls:=.type "dict_values",data:=.fields #[.ref a] }).push { cls:=.type "dict_valueiterator",data:=.fields #[.ref a,.int 0 0,.int vs.length 0,.int ep 0] }) λb o e=>Heap.get?_push_of_some _ e;refine⟨(s1.heap.push { cls:=.type "dict_values",data:=.fields #[.ref a] }).objs.size,[(s1.heap.push { cls:=.type "dict_values",data:=.fields #[.ref a] }).objs.size],_,_,_,rfl,I4,aaS a _ d,⟨_,Heap.get?_push_size _ rfl,rfl,by rw[ln];rfl⟩,λb hb=>?_,q ob⟩
 have e:b=(s1.heap.push { cls:=.type "dict_values",data:=.fields #[.ref a] }).objs.size:=by simpa using hb
 subst e;exact I3.kH (Nat.le_refl _) (I3.aG.fresh (Nat.le_refl _))
theorem Inv.aaT{pins:List (Addr×Obj)}{σ:St}{H:Hp}{s:Shared}{a:Addr}{kvs:List (Key×V)}{ob:Obj}(I:Inv X pins σ H s)(e:H a=some (.bL ob (.dK kvs)))(h0:∀o u,X.cT a≠some (.bL o u)):Inv X pins σ (upd H a (.dK kvs)) s:=by
 have up:∀b v,H b=some v->b≠a->upd H a (.dK kvs) b=some v:=λb v q n=>by rw[aC n];exact q
 have na:∀b v,H b=some v->(∀o u,v≠.bL o u)->b≠a:=λb v q n z=>by rw[z,e] at q;exact n _ _ (Option.some.inj q).symm
 have un:∀b,H b=none->upd H a (.dK kvs) b=none:=λb q=>by rw[aC (λz=>by rw[z,e] at q;cases q)];exact q
 refine⟨I.ok,I.os,I.bare,⟨I.base.keep,I.base.slot,λb o q n hx=>un b (I.base.free b o q n hx),I.base.there,λb xs q=>up b _ (I.base.gS b xs q) (na b _ (I.base.gS b xs q) λ_ _ z=>nomatch z),λb o u q=>up b _ (I.base.gT b o u q) (λz=>by rw[z] at q;exact h0 _ _ q),λb ps q=>let ⟨m,z⟩:=I.base.ir b ps q;⟨m,up b _ z (na b _ z λ_ _ y=>nomatch y)⟩⟩,
  I.loc,I.cell,un _ I.free,λx c q=>un c (I.gz x c q),λp hp=>let ⟨q1,q2,q3⟩:=I.pin p hp;⟨q1,un _ q2,q3⟩,λb v q=>?_,I.len⟩
 by_cases z:b=a
 ·subst z;rw[aD] at q;cases q;have x:=(I.aG b _ e).2;exact x.gR (λ_ _ _ e=>e) (λd q=>up d _ q (na d _ q λ_ _ z=>nomatch z)) (λd xs q=>up d _ q (na d _ q λ_ _ z=>nomatch z))
 ·rw[aC z] at q;exact(I.aG b v q).gR (λ_ _ _ e=>e) (λd q=>up d _ q (na d _ q λ_ _ z=>nomatch z)) λd xs q=>up d _ q (na d _ q λ_ _ z=>nomatch z)
noncomputable def aaU(cT:Hp)(t:TE):TE:=λσ H Q=>t σ H λv H1=>∃a ob kvs,H1 a=some (.bL ob (.dK kvs))/\(∀o u,cT a≠some (.bL o u))/\Q v (upd H1 a (.dK kvs))
end
theorem aaV{prog:Program}{w:World}{A:Around}{s:Shared}{a b:Int}{t u:Tok}{Q:Value->Shared->Prop}{E:Value->Shared->Prop}(h:Q (.bool (decide (a<b))) s):wpAny (model prog w) A (richCompare .Lt (.int a t) (.int b u)) Q E s :=
 CmpOf.ints_lt (P:=λi v=>(i=0/\v = .int a t)\/(i=1/\v = .int b u)) (λi=>if i=0 then a else b) (by
  rintro i v (⟨rfl,rfl⟩ | ⟨rfl,rfl⟩)
  ·exact⟨t,rfl⟩
  ·exact⟨u,rfl⟩) 0 1 _ _ s Q E (.inl ⟨rfl,rfl⟩) (.inr ⟨rfl,rfl⟩) h
theorem Dz:∀ {us:List Value} {ns:List Int},IntsAre us ns->∀ {j:Nat} {v:Value},us[j]? = some v->∃n t,ns[j]? = some n/\v = .int n t
 | _,_,.nil,j,v,e=>by simp at e
 | _,_,.cons n t r,0,v,e=>⟨n,t,rfl,by simpa using e.symm⟩
 | _,_,.cons n t r,j+1,v,e=>Dz r (j:=j) (by simpa using e)
noncomputable def nJ(ns:List Int)(j:Nat)(m:Int):Prop:=m∈ns.take j/\∀a∈ns.take j,m<=a
theorem nJ.step{ns:List Int}{j:Nat}{m v:Int}(h:nJ ns j m)(e:ns[j]? = some v):nJ ns (j+1) (if v<m then v else m):=by
 unfold nJ;rw[take_succ_get e];obtain⟨h1,h2⟩:=h;by_cases c:v<m
 ·rw[if_pos c];refine⟨by simp,λa ha=>?_⟩
  rcases List.mem_append.mp ha with ha | ha
  ·have:=h2 a ha;lia
  ·rw[List.mem_singleton.mp ha];exact Int.le_refl _
 ·rw[if_neg c];refine⟨List.mem_append_left _ h1,λa ha=>?_⟩;rcases List.mem_append.mp ha with ha | ha
  ·exact h2 a ha
  ·rw[List.mem_singleton.mp ha];lia
noncomputable def aaW(v:Value)(c:Nat):Obj:={ cls:=.type "list",dict:=none,data:=.seq #[v,v] c,slots := #[] }
section
variable{prog:Program}{w:World}{A:Around}{R:Result->Shared->Prop}{l I S:Addr}{us:List Value}{ns:List Int}{kw:List (Str×Value)}
theorem aaX(hh:A.handled=none)(vR:l≠I)(vU:S≠l)(pH:S≠I)(hi:IntsAre us ns):∀(k j:Nat) (s:Shared) (m:Int) (t:Tok) (c:Nat),j+k=us.length->
  s.heap.IsListIter I l j->s.heap.IsList l us.toArray->s.heap.get? S=some (aaW (.int m t) c)->nJ ns j m->
  (∀h' tk M t',nJ ns us.length M->(∀b o,b≠S->b≠I->s.heap.get? b=some o->h'.get? b=some o)->R (.ok (.ret (.int M t'))) { s with heap:=h',toks:=tk })->
  codeAny (model prog w) A (.builtin "min.loop" ⟨[.ref I,.none,.ref S],kw⟩) R s:=by
 have W:=Walks.list (prog:=prog) (w:=w) (A:=A.in1) hh I l vR us.toArray;have fS:S∉[I]:=by simpa using pH
 have nm:(toString "min" ++ toString ".loop" : String) = "min.loop" := by decide
 intro k
 induction k with
 | zero =>
  intro j s m t c hj hit hl hS lo hR;have hj:j=us.length:=hj;subst hj;refine codeAny_builtin F.entry_min_loop ?_;rw[Around.under_plainId F.plain_min_loop _]
  show wpAny _ A.in1 (seqItems? (.ref S) >>= _) _ _ _;apply wpAny_bind;refine wpAny_seqItems hS rfl ?_
  show wpAny _ A.in1 (tryCatch (pyNext (.ref I)) _ >>= _) _ _ _;apply wpAny_bind;refine wpAny_tryCatch (W.done s _ _ ⟨by simpa using hit,hl⟩ λh' tk kk=>?_)
  show wpAny _ A.in1 (updateSeq S (λ_ => #[]) >>= _) _ _ _;apply wpAny_bind;refine wpAny_updateSeq (kk S _ fS hS) rfl (wpAny_bind (wpAny_letGo (wpAny_pure ?_)));exact hR _ tk m t lo λb o b1 b2 e=>(Heap.get?_update_other _ _ (Ne.symm b1)).trans (kk b o (by simpa using b2) e)
 | succ k ih =>
  intro j s m t c hj hit hl hS lo hR;have jl:j<us.length:=by lia
  refine codeAny_builtin F.entry_min_loop ?_;rw[Around.under_plainId F.plain_min_loop _]
  show wpAny _ A.in1 (seqItems? (.ref S) >>= _) _ _ _;apply wpAny_bind;refine wpAny_seqItems hS rfl ?_
  show wpAny _ A.in1 (tryCatch (pyNext (.ref I)) _ >>= _) _ _ _;apply wpAny_bind;refine wpAny_tryCatch (W.item j s _ _ (by simpa using jl) ⟨hit,hl⟩ λv h' tk hP e8 kk=>?_)
  have ev:us[j]? = some v:=by simpa using hP
  obtain⟨n,tn,en,rfl⟩:∃n tn,ns[j]? = some n/\v = .int n tn:=Dz hi ev;have pI:=kk S _ fS hS;have vV:=lo.step en;have old:∀b o,b≠S->b≠I->s.heap.get? b=some o->h'.get? b=some o:=λb o _ b2 e=>kk b o (by simpa using b2) e
  show wpAny _ A.in1 (tryCatch (holding [.int n tn,.int n tn] (richCompare .Lt (.int n tn) (.int m t) >>= _)) _ >>= _) _ _ _;apply wpAny_bind;refine wpAny_tryCatch (wpAny_holding (wpAny_bind (aaV ?_)));refine wpAny_bind (wpAny_holding (wpAny_truthy_bool (wpAny_bind (wpAny_letGo (wpAny_pure ?_)))));by_cases hc:n<m
  ·rw[decide_eq_true hc,if_pos rfl];rw[if_pos hc] at vV;apply wpAny_bind;refine wpAny_updateSeq pI rfl (wpAny_bind (wpAny_letGo ?_));rw[nm];have gX:=W.frame (j+1) h' (h'.update S (Obj.mapSeq λ_ => #[.int n tn,.int n tn])) e8 λb hb o e=>(Heap.get?_update_other _ _ (λz:S=b=>by
    rw[← z] at hb;rcases List.mem_cons.mp hb with y | y
    ·exact pH y
    ·exact vU (List.mem_singleton.mp y))).trans e
   refine wpAny_pure ⟨plainId_quiet F.plain_min_loop _,ih (j+1) _ n tn _ (by lia) gX.1 gX.2 (Heap.get?_update_self _ pI rfl) vV λh2 cB M t2 a1 a2=>hR h2 cB M t2 a1 λb o b1 b2 e=>a2 b o b1 b2 ((Heap.get?_update_other _ _ (Ne.symm b1)).trans (old b o b1 b2 e))⟩
  ·rw[decide_eq_false hc,if_neg (by decide)]
   rw[if_neg hc] at vV;apply wpAny_bind;refine wpAny_letGo ?_;rw[nm];exact wpAny_pure ⟨plainId_quiet F.plain_min_loop _,ih (j+1) _ m t c (by lia) e8.1 e8.2 pI vV λh2 cB M t2 a1 a2=>hR h2 cB M t2 a1 λb o b1 b2 e=>a2 b o b1 b2 (old b o b1 b2 e)⟩
theorem aaY{n0:Int}{nr:List Int}(hh:A.handled=none)(vR:l≠I)(vU:S≠l)(pH:S≠I)(hi:IntsAre us (n0::nr)){s:Shared}{c:Nat}(hit:s.heap.IsListIter I l 0)(hl:s.heap.IsList l us.toArray)(hS:s.heap.get? S=some { cls:=.type "list",dict:=none,data:=.seq #[] c,slots := #[] })
  (hR:∀h' tk M t',nJ (n0::nr) us.length M->(∀b o,b≠S->b≠I->s.heap.get? b=some o->h'.get? b=some o)->R (.ok (.ret (.int M t'))) { s with heap:=h',toks:=tk }) :
  codeAny (model prog w) A (.builtin "min.loop" ⟨[.ref I,.none,.ref S],kw⟩) R s:=by
 have W:=Walks.list (prog:=prog) (w:=w) (A:=A.in1) hh I l vR us.toArray;have fS:S∉[I]:=by simpa using pH
 have nm:(toString "min" ++ toString ".loop" : String) = "min.loop" := by decide
 have ul:0<us.length:=by have:=hi.length;simp at this;lia
 refine codeAny_builtin F.entry_min_loop ?_;rw[Around.under_plainId F.plain_min_loop _]
 show wpAny _ A.in1 (seqItems? (.ref S) >>= _) _ _ _;apply wpAny_bind;refine wpAny_seqItems hS rfl ?_
 show wpAny _ A.in1 (tryCatch (pyNext (.ref I)) _ >>= _) _ _ _;apply wpAny_bind;refine wpAny_tryCatch (W.item 0 s _ _ (by simpa using ul) ⟨hit,hl⟩ λv h' tk hP e8 kk=>?_)
 have ev:us[0]? = some v:=by simpa using hP
 obtain⟨n,tn,en,rfl⟩:=Dz hi ev;cases en;have pI:=kk S _ fS hS
 show wpAny _ A.in1 (updateSeq S (λ_ => #[.int n0 tn,.int n0 tn]) >>= _) _ _ _;apply wpAny_bind;refine wpAny_updateSeq pI rfl ?_;rw[nm];have gX:=W.frame 1 h' (h'.update S (Obj.mapSeq λ_ => #[.int n0 tn,.int n0 tn])) e8 λb hb o e=>(Heap.get?_update_other _ _ (λz:S=b=>by
  rw[← z] at hb;rcases List.mem_cons.mp hb with y | y
  ·exact pH y
  ·exact vU (List.mem_singleton.mp y))).trans e
 exact wpAny_pure ⟨plainId_quiet F.plain_min_loop _,aaX hh vR vU pH hi (us.length - 1) 1 _ n0 tn _ (by lia) gX.1 gX.2 (Heap.get?_update_self _ pI rfl) ⟨by simp,λa ha=>by simp at ha;lia⟩ λh2 cB M t2 a1 a2=>hR h2 cB M t2 a1 λb o b1 b2 e=>a2 b o b1 b2 ((Heap.get?_update_other _ _ (Ne.symm b1)).trans (kk b o (by simpa using b2) e))⟩
end
section
variable{X:Cx}{e d:Expr}{tl td:TE}{p1 p4 kp:Pos}
theorem aaZ(a v:Value):argsOk "min" ⟨[a],[(Str.ofString "default",v)]⟩:=by unfold argsOk;kernel_rfl
noncomputable def MY(K:PySem.W.Frag)(tl td:TE):TE:=λσ H Q=>tl σ H λx H1=>∃(l:Addr) (ns:List Int),x = .ref l/\td σ H1 λ_ H2=>aE K H2 l (ns.map V.int)/\0<ns.length/\∀M,M∈ns->(∀a,a∈ns->M<=a)->Q (.int M) H2
theorem aa0(hg:Gl X "min")(hm:X.mg "min" = none)(hc:X.calm=true)(hl:PE X e tl)(hd:PE X d td)(hs:starEach [e] X.env = [(false,eval e X.env)]:=by rfl) :
  PE X (.Call (.Name "min" p1) [e] [⟨some "default",d,kp⟩] p4) (MY X.K tl td):=by
 intro pins s σ H Q I h;refine wpAny_Call_Name_kw (kF I hg hm boot_min (callWith_kw (he:=by rw[hs];rfl) (hplain:=by rw[hs];rfl) ?_))
 rw[hs];refine Calls.spliced_cons (aI (hl pins s σ H _ I h) λu s1 ⟨v,H1,I1,r1,q1⟩=>?_);obtain⟨l,ns,rfl,q1⟩:=q1;cases r1;refine Calls.spliced_nil (kws_cons (aI (hd pins s1 σ H1 _ I1 q1) λdv s2 ⟨_,H2,I2,_,hq,hn,q⟩=>kws_nil ?_));have hh:=I2.ok.hd hc;obtain⟨us,rv,pl,_⟩:=I2.list hq;have hi:IntsAre us ns:=intsAre_of rv;obtain⟨n0,nr,rfl⟩:=List.exists_cons_of_ne_nil (List.length_pos_iff.mp hn);have nm:(toString "min" ++ toString ".loop" : String) = "min.loop" := by decide
 refine kmk_tree PySem.F.kind_min PySem.F.plain_min PySem.F.entry_min (aaZ _ _) ?_
 show wpAny _ X.A.in1 (Builtin.Builtins.bindParams "min" ["key", "default"] 0 ⟨[],[(Str.ofString "default",dv)]⟩ >>= _) _ _ s2;refine wpAny_bind (wpAny_of_eq (show Builtin.Builtins.bindParams "min" ["key", "default"] 0 ⟨[],[(Str.ofString "default",dv)]⟩=pure [none,some dv] from rfl) (wpAny_bind (wpAny_pure ?_)));refine wpAny_bind (wpAny_pyIter_list pl.isList (wpAny_bind (wpAny_newList ?_ (Nat.zero_le _))));rw[nm];have k1:∀b o,s2.heap.get? b=some o->(s2.heap.push { cls:=.type "list_iterator",data:=.fields #[.ref l,.int 0 0] }).get? b=some o:=λb o e=>Heap.get?_push_of_some _ e;generalize hq1:s2.heap.push { cls:=.type "list_iterator",data:=.fields #[.ref l,.int 0 0] }=hp at k1 ⊢;have hI:hp.get? s2.heap.objs.size=some { cls:=.type "list_iterator",data:=.fields #[.ref l,.int 0 0] }:=hq1▸Heap.get?_push_size _ rfl;have lI:s2.heap.objs.size<hp.objs.size:=Heap.lt_size hI;have vW:=pl.isList;obtain⟨ol,gl,_⟩:=id vW;have ll:l<s2.heap.objs.size:=Heap.lt_size gl;refine wpAny_pure ⟨plainId_quiet F.plain_min_loop _,aaY (I:=s2.heap.objs.size) (S:=hp.objs.size) hh (Nat.ne_of_lt ll) (Nat.ne_of_gt (Nat.lt_trans ll lI)) (Nat.ne_of_gt lI) hi ⟨_,Heap.get?_push_of_some _ hI,rfl,rfl⟩ ((vW.at λo e=>Heap.get?_push_of_some _ (k1 _ _ e))) (Heap.get?_push_size _ rfl) λh' tk M t' lo old=>?_⟩;obtain⟨m1,m2⟩:=lo;have e:(n0::nr).take us.length=n0::nr:=List.take_of_length_le (by have:=hi.length;lia)
 rw[e] at m1 m2;refine⟨.int M,H2,I2.kept (t':=tk) λb o e=>old b o (λz=>?_) (λz=>?_) (Heap.get?_push_of_some _ (k1 b o e)),⟨_,rfl⟩,q M m1 m2⟩
 ·exact absurd (Nat.lt_trans (z▸Heap.lt_size e) lI) (Nat.lt_irrefl _)
 ·exact absurd (z▸Heap.lt_size e) (Nat.lt_irrefl _)
end
section
variable{X:Cx}{CX:f9}{k1 k2:Nat}{f1 f2:Addr}{Dl Dm:List Addr}{vJ vK:FuncData}{MI iJ:List Str}{rM Dn:Sp}{E:XK}{m:Str}{pos apos:Pos}{o:Expr}{ta:TE}
end
noncomputable def d9(f a s:Int):Ak:=⟨"read",f,1,[],a,s,none,[],false⟩
section
variable{K:PySem.W.Frag}{C:Addr}{H H':Hp}{l p D:Addr}{ps:List Addr}{qs:List Ak}{q:Ak}{m b dx:Addr}{xs ys:List V}
theorem dH.iD(hD:H D=some (.lst xs))(h:dH K C H p q m b dx):dH K C (upd H D (.lst ys)) p q m b dx :=
 ⟨by rw[aC (λz=>by have:=h.o;rw[z,hD] at this;cases this)];exact h.o,
  by rw[aC (λz=>by have:=h.ms;rw[z,hD] at this;cases this)];exact h.ms,
  by rw[aC (λz=>by have:=h.bh;rw[z,hD] at this;cases this)];exact h.bh⟩
theorem cM.snoc(h:cM K C H l ps qs)(ha:dH K C H p q m b dx):cM K C (upd H l (.lst (ps.map V.ref++[V.ref p]))) l (ps++[p]) (qs++[q]):=by
 refine⟨by rw[aD,List.map_append];rfl,by simp[h.n],λi p' q' e1 e2=>?_⟩
 have hn:=h.n;by_cases hi:i<ps.length
 ·rw[List.getElem?_append_left hi] at e1;rw[List.getElem?_append_left (by lia)] at e2
  obtain⟨m',b',dG,z⟩:=h.t i p' q' e1 e2;exact⟨m',b',dG,z.iD h.l⟩
 ·rw[List.getElem?_append_right (by lia)] at e1
  rw[List.getElem?_append_right (by lia)] at e2
  have fO:i - ps.length=0:=by
   have:=(List.getElem?_eq_some_iff.mp e1).1;simp at this;lia
  rw[fO] at e1;rw[← hn,fO] at e2;simp at e1 e2;subst e1 e2;exact⟨m,b,dx,ha.iD h.l⟩
theorem cM.cat{l2 l3:Addr}{iJ:List Addr}{rP:List Ak}(h:cM K C H l ps qs)(h2:cM K C H l2 iJ rP)(n:H l3=none):cM K C (upd H l3 (.lst (ps.map V.ref++iJ.map V.ref))) l3 (ps++iJ) (qs++rP):=by
 have s:=ah.put (o:=.lst (ps.map V.ref++iJ.map V.ref)) n;refine⟨by rw[aD,List.map_append],by simp[h.n,h2.n],λi p' q' e1 e2=>?_⟩
 have hn:=h.n;by_cases hi:i<ps.length
 ·rw[List.getElem?_append_left hi] at e1;rw[List.getElem?_append_left (by lia)] at e2
  obtain⟨m',b',dG,z⟩:=h.t i p' q' e1 e2;exact⟨m',b',dG,z.same s⟩
 ·rw[List.getElem?_append_right (by lia)] at e1
  rw[List.getElem?_append_right (by lia)] at e2
  rw[← hn] at e2;obtain⟨m',b',dG,z⟩:=h2.t _ p' q' e1 e2;exact⟨m',b',dG,z.same s⟩
end
structure MZ(P:Pl)(n:Int):Prop where
 r2:2<=P.rc.length
 c1:1<=P.rc.getD 1 0
 v:bF (rq P.nc) (kT (1,0))=some (.int n)
 n0:0<=n
 n1:n<=1000000
noncomputable def aa1(K:PySem.W.Frag)(CA:Addr):Sp:=λvs H Q _=>∃(c a s:Int),vs = [.int c,.int a,.int s]/\0<=c/\c<=1000/\vp 0 1 a s none/\
 ∀l ps H',ah H H'->H l=none->cM K CA H' l ps (List.replicate c.toNat (d9 0 a s))->Q (.ref l) H'
noncomputable def d_(x:Addr)(H H':Hp):Prop:=∀b o,H b=some o->b≠x->(∀ps,o≠.gQ ps)->H' b=some o
section
variable{x:Addr}{H H1 H2:Hp}
theorem d_.of(s:SameBut x H H1):d_ x H H1:=λ_ _ e n _=>s _ _ e n
theorem d_.trans(a:d_ x H H1)(b:d_ x H1 H2):d_ x H H2:=λ_ _ e n z=>b _ _ (a _ _ e n z) n z
end
theorem aa2{K:PySem.W.Frag}{cT H:Hp}{σ:St}{g:TG}{tt:TT}{te td:TE}{nt:Nat}{fv:List Nat}{Q:VK}(a:Addr)(kvs:List (Key×V))(Pv:Obj->Addr->Nat->List V->St->Hp->Prop)(DA:∀Q:VK,Q (.ref a) H->td σ H Q)(hq:H a=some (.dK kvs))(DC:∀o u,cT a≠some (.bL o u))
  (h0:∀ob D,H D=none->Pv ob D 0 [] (iF σ nt fv) (upd (upd H a (.bL ob (.dK kvs))) D (.lst []))) (hD:∀ob D i ys σ H,Pv ob D i ys σ H->H D=some (.lst ys)/\ys.length<sizeLine/\H a=some (.bL ob (.dK kvs)))
  (hs:∀ob D i x ys au H2 (N:List V->St->Hp->Prop),(∀ys σ H,Pv ob D (i+1) ys σ H->N ys σ H)->kvs[i]? = some x->Pv ob D i ys au H2->g x.2 au H2 λbJ H4=>tt bJ H4 λb H5=>if b=true then te bJ H5 λv H6=>H6 D=some (.lst ys)/\N (ys++[v]) bJ (upd H6 D (.lst (ys++[v]))) else N ys bJ H5)
  (hd:∀ob D ys au H2,Pv ob D kvs.length ys au H2->Q (.ref D) (upd H2 a (.dK kvs))):aaU cT (iX (Dy K td) g tt te nt fv) σ H Q:=by
 refine DA _ ⟨a,kvs,rfl,hq,λob D iY=>?_⟩;have na:D≠a:=λz=>by rw[z,aD] at iY;cases iY
 have hD1:H D=none:=by rw[aC na] at iY;exact iY
 refine⟨λi m ys au H2=>m=kvs.length - i/\i<=kvs.length/\Pv ob D i ys au H2,⟨_,rfl,Nat.zero_le _,h0 ob D hD1⟩,?_⟩;rintro i m ys au H2 ⟨rfl,jZ,p⟩;obtain⟨d1,d2,d3⟩:=hD ob D i ys au H2 p;refine⟨d1,d2,?_⟩;by_cases bU:i<kvs.length
 ·refine .inr ⟨⟨d3,bU⟩,λx H3 y=>?_⟩;obtain⟨e1,c,e2,e3⟩:=y;subst e1;subst e3;exact hs ob D i c ys au H3 (λDE aO H'=>∃m',m' < kvs.length - i/\m' = kvs.length - (i+1)/\i+1<=kvs.length/\Pv ob D (i+1) DE aO H') (λys σ H p=>⟨_,by lia,rfl,by lia,p⟩) e2 p
 ·have:i=kvs.length:=by lia
  subst this;exact .inl ⟨⟨d3,Nat.le_refl _⟩,a,ob,kvs,d3,DC,hd ob D ys au H2 p⟩
noncomputable def M0(cT:Hp)(t:TS):TS:=λD σ H=>t { D with nx:=λdw H1=>∃a ob kvs,H1 a=some (.bL ob (.dK kvs))/\(∀o u,cT a≠some (.bL o u))/\D.nx dw (upd H1 a (.dK kvs))} σ H
theorem M3{X:Cx}{st:Stmt}{t:TS}(h:PS X st t):PS X st (M0 X.cT t):=by
 intro pins s σ H D I q;refine aI (h pins s σ H _ I q) λf s1 z=>?_;cases f with
 | next =>
  obtain⟨dw,H1,I1,a,ob,kvs,e,h0,q1⟩:=z;exact⟨dw,_,I1.aaT e h0,q1⟩
 | ret v=>exact z
 | brk=>exact z
 | cont=>exact z
theorem M4{K:PySem.W.Frag}{cT H:Hp}{σ:St}{g:TG}{tt:TT}{te td:TE}{nt:Nat}{fv:List Nat}{E:Ends}{j:Nat}(a:Addr)(kvs:List (Key×V))(Pv:Obj->Addr->Nat->List V->St->Hp->Prop)(DA:∀Q:VK,Q (.ref a) H->td σ H Q)(hq:H a=some (.dK kvs))(DC:∀o u,cT a≠some (.bL o u))
  (h0:∀ob D,H D=none->Pv ob D 0 [] (iF σ nt fv) (upd (upd H a (.bL ob (.dK kvs))) D (.lst []))) (hD:∀ob D i ys σ H,Pv ob D i ys σ H->H D=some (.lst ys)/\ys.length<sizeLine/\H a=some (.bL ob (.dK kvs)))
  (hs:∀ob D i x ys au H2 (N:List V->St->Hp->Prop),(∀ys σ H,Pv ob D (i+1) ys σ H->N ys σ H)->kvs[i]? = some x->Pv ob D i ys au H2->g x.2 au H2 λbJ H4=>tt bJ H4 λb H5=>if b=true then te bJ H5 λv H6=>H6 D=some (.lst ys)/\N (ys++[v]) bJ (upd H6 D (.lst (ys++[v]))) else N ys bJ H5)
  (hd:∀ob D ys au H2,Pv ob D kvs.length ys au H2->E.nx (σ.set j (some (.ref D))) (upd H2 a (.dK kvs))):M0 cT (ur (iX (Dy K td) g tt te nt fv) (lD j)) E σ H :=
 aa2 (Q:=λv H'=>E.nx (σ.set j (some v)) H') a kvs Pv DA hq DC h0 hD hs hd
section
variable{K:PySem.W.Frag}{H:Hp}{σ:St}{g:TG}{tt:TT}{te tl:TE}{nt:Nat}{fv:List Nat}{Q:VK}
theorem aa3(a:Addr)(xs:List V)(Pv:Addr->Nat->List V->St->Hp->Prop)(jC:∀Q:VK,Q (.ref a) H->tl σ H Q)(eE:aQ K H a xs)
  (h0:∀D,H D=none->Pv D 0 [] (iF σ nt fv) (upd H D (.lst []))) (hD:∀D i ys σ H,Pv D i ys σ H->H D=some (.lst ys)/\ys.length<sizeLine/\aQ K H a xs)
  (hs:∀D i x ys au H2 (N:List V->St->Hp->Prop),(∀ys σ H,Pv D (i+1) ys σ H->N ys σ H)->xs[i]? = some x->Pv D i ys au H2->g x au H2 λbJ H4=>tt bJ H4 λb H5=>if b=true then te bJ H5 λv H6=>H6 D=some (.lst ys)/\N (ys++[v]) bJ (upd H6 D (.lst (ys++[v]))) else N ys bJ H5)
  (hd:∀D ys au H2,Pv D xs.length ys au H2->Q (.ref D) H2):iX (B5 K tl) g tt te nt fv σ H Q:=by
 refine jC _ ⟨a,rfl,⟨xs,eE⟩,λD iY=>?_⟩;refine⟨λi m ys au H2=>m=xs.length - i/\i<=xs.length/\Pv D i ys au H2,⟨_,rfl,Nat.zero_le _,h0 D iY⟩,?_⟩;rintro i m ys au H2 ⟨rfl,jZ,p⟩;obtain⟨d1,d2,d3⟩:=hD D i ys au H2 p;refine⟨d1,d2,?_⟩;by_cases bU:i<xs.length
 ·refine .inr ⟨⟨xs,xs[i],d3,by simp[bU]⟩,λx H3 y=>?_⟩
  obtain⟨e1,e2⟩:=y;subst e1;exact hs D i x ys au _ (λDE aO H'=>∃m',m' < xs.length - i/\m' = xs.length - (i+1)/\i+1<=xs.length/\Pv D (i+1) DE aO H') (λys σ H p=>⟨_,by lia,rfl,by lia,p⟩) (e2 xs d3) p
 ·have e:i=xs.length:=by lia
  subst e;exact .inl ⟨⟨xs,d3,Nat.le_refl _⟩,hd D ys au H2 p⟩
end
theorem M5{K:PySem.W.Frag}{H:Hp}{σ:St}{g:TG}{tt:TT}{te tl:TE}{nt:Nat}{fv:List Nat}{Q:VK}(h:tl σ H λv H1=>iX (mU K λ_ H' Q'=>Q' v H') g tt te nt fv σ H1 Q):iX (mU K tl) g tt te nt fv σ H Q:=h
theorem aa4(P:Pl)(s:Int×Int){xs:List (Int×Int)}(h:xs≠[]):∃zs a b,fE P s xs=zs++[[(cW P s xs).1,a,b,(cW P s xs).2]]:=by
 obtain⟨ys,q,rfl⟩:∃ys q,xs=ys++[q]:=⟨xs.dropLast,xs.getLast h,(List.dropLast_concat_getLast h).symm⟩;rw[C5,C4];exact⟨_,_,_,rfl⟩
theorem Zt.last{H:Hp}{l:Addr}{ts:List Addr}{z:List (List Int)}{r:List Int}(h:Zt H l ts (z++[r])):∃i9 t,ts=i9++[t]/\H t=some (.tup (r.map V.int)):=by
 have hn:=h.n;rw[List.length_append,List.length_singleton] at hn;have fh:ts≠[]:=λe=>by rw[e] at hn;simp at hn
 refine⟨ts.dropLast,ts.getLast fh,(List.dropLast_concat_getLast fh).symm,h.t z.length _ r ?_ (by simp)⟩
 rw[List.getLast_eq_getElem,List.getElem?_eq_getElem (by lia)]
 simp[hn]
theorem aa5{r:List Int}(h:r.length=4):∃a b c d,r = [a,b,c,d]:=by
 match r,h with
 | [a,b,c,d],_=>exact⟨a,b,c,d,rfl⟩
noncomputable def cC(ls:List (Dr×Addr)):List (Key×V):=ls.map λy=>(bC y.1.n,V.ref y.2)
noncomputable def jG(ls:List (Dr×Addr))(n:Int):Bool:=ls.any λy=>decide (y.1.n=n)
theorem rQ{a b:Int}:bC a=bC b↔a=b:=by unfold bC;exact⟨λz=>Sum.inl.inj z,λz=>by rw[z]⟩
theorem M6(ls:List (Dr×Addr))(n:Int):(bF (cC ls) (bC n)).isSome=jG ls n:=by
 induction ls with
 | nil=>rfl
 | cons y ls ih =>
  unfold bF cC jG at *
  rw[List.map_cons,List.find?_cons,List.any_cons];by_cases e:y.1.n=n
  ·subst e;simp
  ·have:¬ bC y.1.n=bC n:=λz=>e (rQ.mp z);simp only[this,e,decide_false,Bool.false_or];exact ih
theorem aa6{ls:List (Dr×Addr)}(up:ls.Pairwise λa b=>a.1.n<b.1.n){y:Dr×Addr}(hy:y∈ls):bF (cC ls) (bC y.1.n)=some (.ref y.2):=by
 induction ls with
 | nil=>cases hy
 | cons z ls ih =>
  rw[List.pairwise_cons] at up;unfold bF cC at *
  rw[List.map_cons,List.find?_cons];rcases List.mem_cons.mp hy with rfl | hy
  ·simp
  ·have:=up.1 y hy;have:¬ bC z.1.n=bC y.1.n:=λe=>by have:=rQ.mp e;lia
   simp only[this,decide_false];exact ih up.2 hy
theorem M7(ls:List (Dr×Addr))(n:Int):gF (cC ls) (bC n)=cC (ls.filter λy=>decide (y.1.n≠n)):=by
 unfold gF cC;rw[List.filter_map];congr 1;refine List.filter_congr λy _=>?_
 show decide (bC y.1.n≠bC n)=_;rw[decide_eq_decide];exact not_congr rQ
noncomputable def c9(kp p:Addr)(r b:Int)(Dx:Addr):List (Str×V):=[("keeping",.ref kp),("plate",.ref p),("ring",.int r),("beat",.int b),("left",.ref Dx)]
noncomputable def vX(K:PySem.W.Frag)(CA CD:Addr)(H:Hp)(y:Dr×Addr):Prop:=∃dx ap l ts m b bY,iI K CA CD H y.2 y.1 dx ap l ts m b bY
structure bD(K:PySem.W.Frag)(CC CA CD:Addr)(H:Hp)(x dx kp:Addr)(ks:List Addr)(kk:List (List Int))(p:Addr)(r b:Int)(Dx:Addr)(ls:List (Dr×Addr)):Prop where
 o:H x=some (.ins CC dx (c9 kp p r b Dx))
 k:Zt H kp ks kk
 d:H Dx=some (.dK (cC ls))
 t:∀y∈ls,vX K CA CD H y
 up:ls.Pairwise λa b=>a.1.n<b.1.n
 n:ls.length<=100
 kn:∀y∈ls,0<=y.1.n/\y.1.n<kk.length
noncomputable def bK(x Dx:Addr)(H H':Hp):Prop:=∀b o,H b=some o->b≠x->b≠Dx->H' b=some o
section
variable{K:PySem.W.Frag}{CC CA CD:Addr}{H H' H1:Hp}{x dx kp:Addr}{ks:List Addr}{kk:List (List Int)}{p:Addr}{r b:Int}{Dx:Addr}{ls:List (Dr×Addr)}
theorem bK.of(s:ah H H'):bK x Dx H H':=λ_ _ e _ _=>s _ _ e
theorem bK.trans(s:bK x Dx H H1)(t:bK x Dx H1 H'):bK x Dx H H':=λ_ _ e n1 n2=>t _ _ (s _ _ e n1 n2) n1 n2
theorem bK.DF{o:HO}(s:bK x Dx H H'):bK x Dx H (upd H' x o):=λ_ _ e n1 n2=>by rw[aC n1];exact s _ _ e n1 n2
theorem bK.pJ{o:HO}(s:bK x Dx H H'):bK x Dx H (upd H' Dx o):=λ_ _ e n1 n2=>by rw[aC n2];exact s _ _ e n1 n2
theorem bK.put{l:Addr}{o:HO}(s:bK x Dx H H')(n:H l=none):bK x Dx H (upd H' l o):=λ_ _ e n1 n2=>by rw[aC (λz=>by rw[z,n] at e;cases e)];exact s _ _ e n1 n2
theorem bD.nf(h:bD K CC CA CD H x dx kp ks kk p r b Dx ls):∀o u,H Dx≠some (.bL o u):=λo u z=>by rw[h.d] at z;cases z
theorem bD.ne(h:bD K CC CA CD H x dx kp ks kk p r b Dx ls):x≠Dx:=λz=>by have:=h.o;rw[z,h.d] at this;cases this
theorem rR:(cC ls).length=ls.length:=by simp[cC]
theorem bD.lst(h:bD K CC CA CD H x dx kp ks kk p r b Dx ls)(s:bK x Dx H H'){a:Addr}{xs:List V}(e:H a=some (.lst xs)):H' a=some (.lst xs) :=
 s _ _ e (λz=>by have:=h.o;rw[← z,e] at this;cases this) (λz=>by have:=h.d;rw[← z,e] at this;cases this)
theorem bD.tup(h:bD K CC CA CD H x dx kp ks kk p r b Dx ls)(s:bK x Dx H H'){a:Addr}{xs:List V}(e:H a=some (.tup xs)):H' a=some (.tup xs) :=
 s _ _ e (λz=>by have:=h.o;rw[← z,e] at this;cases this) (λz=>by have:=h.d;rw[← z,e] at this;cases this)
theorem bD.ins(h:bD K CC CA CD H x dx kp ks kk p r b Dx ls)(s:bK x Dx H H'){a C d:Addr}{fs:List (Str×V)}(e:H a=some (.ins C d fs))(n:fs.lookup ("keeping" : Str)=none):H' a=some (.ins C d fs) :=
 s _ _ e (λz=>by have:=h.o;rw[← z,e] at this;cases this;simp[c9,List.lookup_cons] at n) (λz=>by have:=h.d;rw[← z,e] at this;cases this)
theorem bD.zt(h:bD K CC CA CD H x dx kp ks kk p r b Dx ls)(s:bK x Dx H H'){a:Addr}{ts:List Addr}{z:List (List Int)}(e:Zt H a ts z):Zt H' a ts z:=⟨h.lst s e.l,e.n,λi t r e1 e2=>h.tup s (e.t i t r e1 e2)⟩
theorem bD.zn(h:bD K CC CA CD H x dx kp ks kk p r b Dx ls)(s:bK x Dx H H'){a:Addr}{ts:List Addr}{z:List (Int×Int)}(e:Zn H a ts z):Zn H' a ts z:=⟨h.lst s e.l,e.n,λi t r e1 e2=>h.tup s (e.t i t r e1 e2)⟩
theorem bD.ak(h:bD K CC CA CD H x dx kp ks kk p r b Dx ls)(s:bK x Dx H H'){a C m b2 d:Addr}{q:Ak}(e:dH K C H a q m b2 d):dH K C H' a q m b2 d:=⟨h.ins s e.o (by simp[fQ,List.lookup_cons,fM]),h.tup s e.ms,h.tup s e.bh⟩
theorem bD.du(h:bD K CC CA CD H x dx kp ks kk p r b Dx ls)(s:bK x Dx H H'){a d ap l m b2 bY:Addr}{y:Dr}{ts:List Addr}(e:iI K CA CD H a y d ap l ts m b2 bY):iI K CA CD H' a y d ap l ts m b2 bY:=⟨h.ins s e.o (by simp[j5,List.lookup_cons,fM]),h.ak s e.a,h.zn s e.c⟩
theorem bD.pK(h:bD K CC CA CD H x dx kp ks kk p r b Dx ls)(s:bK x Dx H H'){y:Dr×Addr}(e:vX K CA CD H y):vX K CA CD H' y:=let ⟨a,b,c,d,e,f,g,z⟩:=e;⟨a,b,c,d,e,f,g,h.du s z⟩
theorem bD.vY(h:bD K CC CA CD H x dx kp ks kk p r b Dx ls)(s:bK x Dx H H'){C a:Addr}{P:Pl}{fp:List Addr}(e:bV K C H a P fp):bV K C H' a P fp:=by
 obtain⟨dG,a1,a2,a3,a4,ts,fs,e,g⟩:=e;have f1:=g.f1;refine⟨dG,a1,a2,a3,a4,ts,fs,e,{ g with o:=s _ _ g.o (λz=>?_) (λz=>?_),rc:=h.lst s g.rc,sw:=h.lst s g.sw,nc:=h.zn s g.nc,cn:=s _ _ g.cn (λz=>?_) (λz=>?_)}⟩
 ·have:=h.o;rw[← z,g.o] at this;cases this;simp[c9,List.lookup_cons,fM] at f1
 ·have:=h.d;rw[← z,g.o] at this;cases this
 ·have:=h.o;rw[← z,g.cn] at this;cases this
 ·have:=h.d;rw[← z,g.cn] at this;cases this
theorem bD.step(h:bD K CC CA CD H x dx kp ks kk p r b Dx ls)(s:bK x Dx H H'){r2 b2:Int}{cD:List (Dr×Addr)}(sub:cD.Sublist ls)(o:H' x=some (.ins CC dx (c9 kp p r2 b2 Dx)))(d:H' Dx=some (.dK (cC cD))):bD K CC CA CD H' x dx kp ks kk p r2 b2 Dx cD :=
 ⟨o,h.zt s h.k,d,λy hy=>h.pK s (h.t y (sub.subset hy)),h.up.sublist sub,Nat.le_trans sub.length_le h.n,λy hy=>h.kn y (sub.subset hy)⟩
theorem bD.free(h:bD K CC CA CD H' x dx kp ks kk p r b Dx ls)(s:bK x Dx H H'){a:Addr}(n:H' a=none):H a=none:=by
 cases e:H a with
 | none=>rfl
 | some o =>
  have:=s _ _ e (λz=>by have:=h.o;rw[← z,n] at this;cases this) (λz=>by have:=h.d;rw[← z,n] at this;cases this)
  rw[n] at this;cases this
theorem bD.same(h:bD K CC CA CD H x dx kp ks kk p r b Dx ls)(s:ah H H'):bD K CC CA CD H' x dx kp ks kk p r b Dx ls:=h.step (bK.of s) (.refl _) (s _ _ h.o) (s _ _ h.d)
theorem bD.kt(h:bD K CC CA CD H x dx kp ks kk p r b Dx ls)(s:bZ H H'):bD K CC CA CD H' x dx kp ks kk p r b Dx ls :=
 ⟨s.ins h.o (by simp[iK,c9,List.lookup_cons,fM]),⟨s.lst h.k.l,h.k.n,λi t r e1 e2=>s.tup (h.k.t i t r e1 e2)⟩,s _ _ h.d (.of (λ_ z=>nomatch z) (λ_ _ _ z=>nomatch z) λ_ z=>nomatch z),λy hy=>let ⟨a,b,c,d,e,f,g,z⟩:=h.t y hy;⟨a,b,c,d,e,f,g,z.kt s⟩,h.up,h.n,h.kn⟩
end
noncomputable def M8(ls:List (Dr×Addr))(b b2:Int):Prop:=∃M,(∃y∈ls,y.1.q.at_=M)/\(∀y∈ls,M<=y.1.q.at_)/\b2=if b<M then M else b
noncomputable def aa7(K:PySem.W.Frag)(CC CA CD:Addr):Sp:=λvs H Q _=>∃(x dx kp:Addr) (ks:List Addr) (kk:List (List Int)) (p:Addr) (r b:Int) (Dx:Addr) (ls:List (Dr×Addr)),vs = [.ref x]/\bD K CC CA CD H x dx kp ks kk p r b Dx ls/\1<=ls.length/\
 ∀b2 H',M8 ls b b2->bK x Dx H H'->bD K CC CA CD H' x dx kp ks kk p r b2 Dx ls->Q .aJ H'
noncomputable def aa8(K:PySem.W.Frag)(CC CA CD:Addr):Sp:=λvs H Q _=>∃(x dx kp:Addr) (ks:List Addr) (kk:List (List Int)) (p:Addr) (r b:Int) (Dx:Addr) (ls:List (Dr×Addr)) (n:Nat) (ns:List Int),vs = [.ref x,.int (n:Int)]/\bD K CC CA CD H x dx kp ks kk p r b Dx ls/\kk[n]? = some ns/\ns.length<=1000/\
 ∀H',ah H H'->Q (.bl (ns.any (jG ls))) H'
noncomputable def rS(kk:List (List Int))(b:Int)(ls:List (Dr×Addr)):List (Dr×Addr):=(ls.filter λy=>decide (y.1.q.at_<=b)).filter λy => !((kk.getD y.1.n.toNat []).any (jG ls))
noncomputable def aa9(K:PySem.W.Frag)(CC CA CD:Addr):Sp:=λvs H Q _=>∃(x dx kp:Addr) (ks:List Addr) (kk:List (List Int)) (p:Addr) (r b:Int) (Dx:Addr) (ls:List (Dr×Addr)),vs = [.ref x]/\bD K CC CA CD H x dx kp ks kk p r b Dx ls/\1<=ls.length/\(∀ns∈kk,ns.length<=1000)/\
 ∀b2 D H',M8 ls b b2->bK x Dx H H'->bD K CC CA CD H' x dx kp ks kk p r b2 Dx ls->H D=none->lU K CA CD H' D ((rS kk b2 ls).map (·.2)) ((rS kk b2 ls).map (·.1))->Q (.ref D) H'
noncomputable def aa_(K:PySem.W.Frag)(cs:List Addr)(CC CA CD:Addr):Sp:=λvs H Q _=>∃(C x dx kp:Addr) (ks:List Addr) (kk:List (List Int)) (p:Addr) (P:Pl) (fp:List Addr) (r b:Int) (Dx:Addr) (ls:List (Dr×Addr)) (y:Dr×Addr),vs = [.ref x,.int y.1.n]/\bD K CC CA CD H x dx kp ks kk p r b Dx ls/\y∈ls/\
 C∈cs/\bV K C H p P fp/\jD P/\0<=r/\r<P.rc.length/\rF P y.1.c/\1<=y.1.c.length/\y.1.c.length<=1000/\
 ∀l ts H',bK x Dx H H'->H l=none->bD K CC CA CD H' x dx kp ks kk p (cW P (r,b) y.1.c).1 (cW P (r,b) y.1.c).2 Dx (ls.filter λz=>decide (z.1.n≠y.1.n))->Zt H' l ts ((fE P (r,b) y.1.c).map λrow=>y.1.n::row)->Q (.ref l) H'
noncomputable def cI(nc:List (Int×Int)):Nat->List Ak->List Dr
 | _,[]=>[]
 | k,q::r=>⟨(k:Int),q,dY nc q.first q.many⟩::cI nc (k+1) r
theorem M9(nc:List (Int×Int))(q:Ak):∀(qs:List Ak) (k:Nat),cI nc k (qs++[q])=cI nc k qs++[⟨((k+qs.length:Nat):Int),q,dY nc q.first q.many⟩]
 | [],k=>by simp[cI]
 | a::qs,k=>by
  have e:k+1+qs.length=k+(qs.length+1):=by lia
  simp[cI,M9 nc q qs (k+1),e]
theorem DG(nc:List (Int×Int)):∀(qs:List Ak) (k:Nat),(cI nc k qs).length=qs.length
 | [],k=>rfl
 | a::qs,k=>by simp[cI,DG nc qs (k+1)]
theorem pL(nc:List (Int×Int)):∀(qs:List Ak) (k:Nat) (d:Dr),d∈cI nc k qs->(k:Int)<=d.n/\d.n<((k+qs.length:Nat):Int)
 | [],k,d,h=>by cases h
 | a::qs,k,d,h=>by
  rcases List.mem_cons.mp h with rfl | h
  ·dsimp only;simp only[List.length_cons];lia
  ·have:=pL nc qs (k+1) d h;simp only[List.length_cons];lia
theorem M_{r:List Int}(h:r.length=5):∃a b c d e,r = [a,b,c,d,e]:=by
 match r,h with
 | [a,b,c,d,e],_=>exact⟨a,b,c,d,e,rfl⟩
section
variable{K:PySem.W.Frag}{CC CA CD:Addr}{H H':Hp}{x dx:Addr}
theorem pM(hx:H x=some (.ins CC dx []))(s:SameBut x H H'){a:Addr}{xs:List V}(e:H a=some (.lst xs)):H' a=some (.lst xs):=s _ _ e (λz=>by rw[z,hx] at e;cases e)
theorem vZ(hx:H x=some (.ins CC dx []))(s:SameBut x H H'){a:Addr}{xs:List V}(e:H a=some (.tup xs)):H' a=some (.tup xs):=s _ _ e (λz=>by rw[z,hx] at e;cases e)
theorem aba(hx:H x=some (.ins CC dx []))(s:SameBut x H H'){a:Addr}{ts:List Addr}{z:List (List Int)}(e:Zt H a ts z):Zt H' a ts z:=⟨pM hx s e.l,e.n,λi t r e1 e2=>vZ hx s (e.t i t r e1 e2)⟩
theorem abb(hx:H x=some (.ins CC dx []))(s:SameBut x H H'){a C m b d:Addr}{q:Ak}(e:dH K C H a q m b d):dH K C H' a q m b d:=⟨s _ _ e.o (λz=>by have:=e.o;rw[z,hx] at this;simp[fQ] at this),vZ hx s e.ms,vZ hx s e.bh⟩
theorem abd(hx:H x=some (.ins CC dx []))(s:SameBut x H H'){C a:Addr}{P:Pl}{fp:List Addr}(e:bV K C H a P fp):bV K C H' a P fp:=by
 obtain⟨dG,a1,a2,a3,a4,ts,fs,e,g⟩:=e;have f1:=g.f1;refine⟨dG,a1,a2,a3,a4,ts,fs,e,{ g with o:=s _ _ g.o (λz=>?_),rc:=pM hx s g.rc,sw:=pM hx s g.sw,nc:=⟨pM hx s g.nc.l,g.nc.n,λi t r e1 e2=>vZ hx s (g.nc.t i t r e1 e2)⟩,cn:=s _ _ g.cn (λz=>?_)}⟩
 ·have:=g.o;rw[z,hx] at this;cases this;simp at f1
 ·have:=g.cn;rw[z,hx] at this;cases this
end
section
variable{K:PySem.W.Frag}{CC CA CD:Addr}{H:Hp}{x dx kp:Addr}{ks:List Addr}{kk:List (List Int)}{p:Addr}{r b:Int}{Dx:Addr}{ls:List (Dr×Addr)}
theorem bD.add(h:bD K CC CA CD H x dx kp ks kk p r b Dx ls){y:Dr×Addr}(hy:vX K CA CD H y)(n0:0<=y.1.n)(n1:y.1.n<kk.length)(up:∀z∈ls,z.1.n<y.1.n)(hn:ls.length<100):bD K CC CA CD (upd H Dx (.dK (putK (cC ls) (bC y.1.n) (.ref y.2)))) x dx kp ks kk p r b Dx (ls++[y]):=by
 have s:bK x Dx H (upd H Dx (.dK (putK (cC ls) (bC y.1.n) (.ref y.2)))):=(bK.of (λ_ _ e=>e)).pJ;have nv:bF (cC ls) (bC y.1.n)=none:=by
  cases e:bF (cC ls) (bC y.1.n) with
  | none=>rfl
  | some v =>
   have:=M6 ls y.1.n;rw[e] at this;obtain⟨z,hz,e2⟩:=List.any_eq_true.mp this.symm;have:=of_decide_eq_true e2;have:=up z hz;lia
 refine⟨by rw[aC h.ne];exact h.o,h.zt s h.k,?_,λz hz=>?_,?_,by rw[List.length_append,List.length_singleton];lia,λz hz=>?_⟩
 ·rw[aD,W2 _ nv];unfold cC;rw[List.map_append];rfl
 ·rcases List.mem_append.mp hz with hz | hz
  ·exact h.pK s (h.t z hz)
  ·rw[List.mem_singleton.mp hz];exact h.pK s hy
 ·rw[List.pairwise_append];exact⟨h.up,List.pairwise_singleton _ _,λa ha c hc=>by rw[List.mem_singleton.mp hc];exact up a ha⟩
 ·rcases List.mem_append.mp hz with hz | hz
  ·exact h.kn z hz
  ·rw[List.mem_singleton.mp hz];exact⟨n0,n1⟩
end
noncomputable def abe(K:PySem.W.Frag)(cs:List Addr)(CC CA CD:Addr):Sp:=λvs H Q _=>∃(C x dx p la:Addr) (P:Pl) (fp ps:List Addr) (qs:List Ak) (r:Int),vs = [.ref x,.ref p,.ref la,.int r]/\H x=some (.ins CC dx [])/\C∈cs/\bV K C H p P fp/\P.nc.length<=1000000/\cM K CA H la ps qs/\vH P.nc.length qs/\(∀q∈qs,q.kind≠"rest")/\
 ∀kp ks Dx ls H',SameBut x H H'->H Dx=none->bD K CC CA CD H' x dx kp ks (g9 qs qs.length) p r 0 Dx ls->ls.map (·.1)=cI P.nc 0 qs->Q .aJ H'
noncomputable def Na(CP:Addr):Sp:=λvs H Q _=>∃(x dx:Addr) (v1 v2 v3 v4 v5:V),vs = [.ref x,v1,v2,v3,v4,v5]/\H x=some (.ins CP dx [])/\
 Q .aJ (upd H x (.ins CP dx [("rows",v1),("taken",v2),("told",v3),("answers",v4),("end",v5)]))
noncomputable def abf(K:PySem.W.Frag):Sp:=λvs H Q _=>∃(l:Addr) (ts:List Addr) (z:List (List Int)),vs = [.ref l]/\Zt H l ts z/\z.length<=100000/\(∀r∈z,r.length=5)/\
 ∀E kvs H',ah H H'->H E=none->H' E=some (.dK kvs)->(∀n:Int,(∃r∈z,r.head? = some n)->∃e:Int,bF kvs (bC n)=some (.int e))->Q (.ref E) H'
noncomputable def abg(K:PySem.W.Frag)(CA:Addr):Sp:=λvs H Q _=>∃(a:Addr) (q:Ak) (m b dx:Addr),vs = [.ref a]/\dH K CA H a q m b dx/\0<=q.first/\q.first<=1000000/\0<=q.many/\q.many<=16/\
 ∀l (ns:List Int) H',ah H H'->H l=none->ns.length=q.many.toNat->H' l=some (.lst (ns.map V.int))->Q (.ref l) H'
noncomputable def Nb(K:PySem.W.Frag)(CA:Addr):Sp:=λvs H Q _=>∃(la:Addr) (ps:List Addr) (qs:List Ak) (pi:Addr) (ns:List Int),vs = [.ref la,.ref pi]/\cM K CA H la ps qs/\qs.length<=100/\(∀q∈qs,q.kind = "read"/\0<=q.first/\q.first<=1000000/\0<=q.many/\q.many<=16)/\H pi=some (.lst (ns.map V.int))/\ns.length<=100/\(∀n∈ns,0<=n/\n<qs.length)/\
 ∀l H',ah H H'->Q (.ref l) H'
noncomputable def Nc(K:PySem.W.Frag)(CA:Addr):Sp:=λvs H Q _=>∃(la:Addr) (ps:List Addr) (qs:List Ak) (E:Addr) (kvs:List (Key×V)) (sh:Int),vs = [.ref la,.ref E,.int sh]/\cM K CA H la ps qs/\qs.length<=100/\(∀q∈qs,q.kind = "read"/\q.early=false)/\H E=some (.dK kvs)/\(∀n:Int,0<=n->n<qs.length->∃e:Int,bF kvs (bC n)=some (.int e))/\
 ∀l H',ah H H'->Q (.ref l) H'
structure v_(P:Pl)(q:Ak):Prop where
 k:q.kind = "read"
 e:q.early=false
 b:q.behind = []
 f0:0<=q.first
 f1:q.first<=1000000
 m0:1<=q.many
 m1:q.many<=16
 c:rF P (dY P.nc q.first q.many)
 cn:(dY P.nc q.first q.many).length=q.many.toNat
noncomputable def Nd(ds:List Dr)(b b2:Int):Prop:=∃M,(∃d∈ds,d.q.at_=M)/\(∀d∈ds,M<=d.q.at_)/\b2=if b<M then M else b
noncomputable def cJ(n:Nat)(tk:List (Int×Int)):List V:=tk.foldl (λxs p=>xs.set p.1.toNat (.int p.2)) (List.replicate n .aJ)
theorem abh(n:Nat)(tk:List (Int×Int))(p:Int×Int):cJ n (tk++[p])=(cJ n tk).set p.1.toNat (.int p.2):=by
 unfold cJ;rw[List.foldl_append];rfl
theorem DH(n:Nat)(tk:List (Int×Int)):(cJ n tk).length=n:=by
 unfold cJ
 suffices ∀xs:List V,(tk.foldl (λxs p=>xs.set p.1.toNat (.int p.2)) xs).length=xs.length by rw[this,List.length_replicate]
 induction tk with
 | nil=>intro xs;rfl
 | cons p tk ih=>intro xs;rw[List.foldl_cons,ih,List.length_set]
theorem abi(n:Nat)(tk:List (Int×Int)):g_ (cJ n tk):=by
 have h:∀v∈cJ n tk,v = .aJ\/∃i,v=V.int i:=by
  unfold cJ
  suffices ∀xs:List V,(∀v∈xs,v = .aJ\/∃i,v=V.int i)->∀v∈tk.foldl (λxs p=>xs.set p.1.toNat (.int p.2)) xs,v = .aJ\/∃i,v=V.int i from
   this _ λv hv=>.inl (List.eq_of_mem_replicate hv)
  induction tk with
  | nil=>intro xs h;exact h
  | cons p tk ih =>
   intro xs h;rw[List.foldl_cons];refine ih _ λv hv=>?_;rcases List.mem_or_eq_of_mem_set hv with hv | rfl
   ·exact h v hv
   ·exact .inr ⟨_,rfl⟩
 intro i j z;have:=h (.bl i) (by rw[z];simp)
 rcases this with e | ⟨_,e⟩ <;> cases e
noncomputable def abj(v1:V)(ta:Addr)(v3 v4 v5:V):List (Str×V):=[("rows",v1),("taken",.ref ta),("told",v3),("answers",v4),("end",v5)]
section
variable{K:PySem.W.Frag}{cf:List Addr}{CL CS CC CA CD:Addr}{o:Option Bool}{st:Lt}{H H' H1:Hp}{ru dx B x dc kp p Dx:Addr}{ks:List Addr}{kk:List (List Int)}{r b:Int}{ls:List (Dr×Addr)}{TP:Addr}{pos:Pos}{qual:Str}
theorem d_.same(k:d_ ru H H')(s:ah H' H1):d_ ru H H1:=λ_ _ e n z=>s _ _ (k _ _ e n z)
theorem d_.i_(k:d_ ru H H')(s:bK x Dx H' H1)(nx:H x=none)(nd:H Dx=none):d_ ru H H1:=λ_ _ e n z=>s _ _ (k _ _ e n z) (λw=>by rw[w,nx] at e;cases e) (λw=>by rw[w,nd] at e;cases e)
structure j8(ru:Addr)(H:Hp)(l:Addr):Prop where
 x:∀o,H l=some o->l≠ru->(∀ps,o≠.gQ ps)->False
 t:∀o,H l=some o->kR o->False
theorem j8.of(kx:d_ ru H H')(kt:bZ H H'){l:Addr}(n:H' l=none):j8 ru H l :=
 ⟨λo e n1 n2=>(by have:=kx _ _ e n1 n2;rw[n] at this;cases this),λo e n1=>(by have:=kt _ _ e n1;rw[n] at this;cases this)⟩
theorem d_.put{l:Addr}{u:HO}(k:d_ ru H H')(nl:j8 ru H l):d_ ru H (upd H' l u):=λc o e n z=>by
 by_cases w:c=l
 ·subst w;exact(nl.x o e n z).elim
 ·rw[aC w];exact k _ _ e n z
theorem bZ.putK{l:Addr}{u:HO}(k:bZ H H')(nl:j8 ru H l):bZ H (upd H' l u):=λc o e n=>by
 by_cases w:c=l
 ·subst w;exact(nl.t o e n).elim
 ·rw[aC w];exact k _ _ e n
theorem bZ.i_(k:bZ H H')(s:bK x Dx H' H1)(nx:H x=none)(nd:H Dx=none):bZ H H1:=λ_ _ e n=>s _ _ (k _ _ e n) (λw=>by rw[w,nx] at e;cases e) (λw=>by rw[w,nd] at e;cases e)
noncomputable def jc(x Dx:Addr)(H H':Hp):Prop:=∀b o,H b=some o->kR o->b≠x->b≠Dx->H' b=some o
theorem jc.i_(k:jc x Dx H H')(s:bK x Dx H' H1):jc x Dx H H1:=λ_ _ e n n1 n2=>s _ _ (k _ _ e n n1 n2) n1 n2
theorem jc.kt(k:jc x Dx H H')(s:bZ H' H1):jc x Dx H H1:=λ_ _ e n n1 n2=>s _ _ (k _ _ e n n1 n2) n
theorem jc.put{l:Addr}{u:HO}(k:jc x Dx H H')(nl:H l=none):jc x Dx H (upd H' l u):=λ_ _ e n n1 n2=>by rw[aC (λw=>by rw[w,nl] at e;cases e)];exact k _ _ e n n1 n2
theorem bD.Nf(h:bD K CC CA CD H x dc kp ks kk p r b Dx ls)(s:jc x Dx H H'){r2 b2:Int}{cD:List (Dr×Addr)}(sub:cD.Sublist ls)(o:H' x=some (.ins CC dc (c9 kp p r2 b2 Dx)))(d:H' Dx=some (.dK (cC cD))):bD K CC CA CD H' x dc kp ks kk p r2 b2 Dx cD:=by
 have hl:∀ {a:Addr} {xs:List V},H a=some (.lst xs)->g_ xs->H' a=some (.lst xs):=λ{a xs} e n=>s _ _ e (.lst n) (λz=>by have:=h.o;rw[← z,e] at this;cases this) (λz=>by have:=h.d;rw[← z,e] at this;cases this)
 have ht:∀ {a:Addr} {xs:List V},H a=some (.tup xs)->H' a=some (.tup xs):=λ{a xs} e=>s _ _ e (.of (λ_ z=>nomatch z) (λ_ _ _ z=>nomatch z) λ_ z=>nomatch z) (λz=>by have:=h.o;rw[← z,e] at this;cases this) (λz=>by have:=h.d;rw[← z,e] at this;cases this)
 have hi:∀ {a C d:Addr} {fs:List (Str×V)},H a=some (.ins C d fs)->iK fs=false->fs.lookup ("keeping" : Str)=none->H' a=some (.ins C d fs):=λ{a C d fs} e n1 n2=>s _ _ e (.ins n1) (λz=>by have:=h.o;rw[← z,e] at this;cases this;simp[c9,List.lookup_cons] at n2) (λz=>by have:=h.d;rw[← z,e] at this;cases this)
 refine⟨o,⟨hl h.k.l g_.refs,h.k.n,λi t r e1 e2=>ht (h.k.t i t r e1 e2)⟩,d,λy hy=>?_,h.up.sublist sub,Nat.le_trans sub.length_le h.n,λy hy=>h.kn y (sub.subset hy)⟩;obtain⟨dG,ap,l,ts,m,b',bY,g⟩:=h.t y (sub.subset hy);exact⟨dG,ap,l,ts,m,b',bY,hi g.o ML (by simp[j5,List.lookup_cons,fM]),⟨hi g.a.o MK (by simp[fQ,List.lookup_cons,fM]),ht g.a.ms,ht g.a.bh⟩,⟨hl g.c.l g_.refs,g.c.n,λi t r e1 e2=>ht (g.c.t i t r e1 e2)⟩⟩
end
theorem abk{ls:List (Dr×Addr)}(up:ls.Pairwise λa b=>a.1.n<b.1.n){y:Dr×Addr}(hy:y∈ls):(ls.filter λz=>decide (z.1.n≠y.1.n)).length+1=ls.length:=by
 have nd:((cC ls).map (·.1)).Nodup:=by
  unfold cC;rw[List.map_map,List.nodup_iff_pairwise_ne,List.pairwise_map];exact up.imp λ{a b} h z=>by
   have:=rQ.mp z;lia
 have:=Lu (k:=bC y.1.n) nd (by
  unfold cC;rw[List.map_map];exact List.mem_map.mpr ⟨y,hy,rfl⟩)
 rw[M7,rR,rR] at this;exact this
theorem cM.kt{K:PySem.W.Frag}{C:Addr}{H H':Hp}{l:Addr}{ps:List Addr}{qs:List Ak}(h:cM K C H l ps qs)(k:bZ H H'):cM K C H' l ps qs:=⟨k.lst h.l,h.n,λi p q e1 e2=>let ⟨m,b,dx,z⟩:=h.t i p q e1 e2;⟨m,b,dx,z.kt k⟩⟩
theorem rT(nc:List (Int×Int)):∀(qs:List Ak) (k i:Nat),i<qs.length->∃d∈cI nc k qs,d.n=((k+i:Nat):Int)
 | [],k,i,h=>by simp at h
 | q::qs,k,0,h=>⟨_,List.mem_cons_self ..,rfl⟩
 | q::qs,k,i+1,h=>by
  obtain⟨d,hd,e⟩:=rT nc qs (k+1) i (by simpa using h)
  exact⟨d,List.mem_cons_of_mem _ hd,by rw[e];congr 1;lia⟩
theorem DI(nc:List (Int×Int)):∀(qs:List Ak) (k:Nat) (d:Dr),d∈cI nc k qs->d.q∈qs/\d.c=dY nc d.q.first d.q.many
 | [],k,d,h=>by cases h
 | q::qs,k,d,h=>by
  rcases List.mem_cons.mp h with rfl | h
  ·exact⟨List.mem_cons_self ..,rfl⟩
  ·obtain⟨a,b⟩:=DI nc qs (k+1) d h;exact⟨List.mem_cons_of_mem _ a,b⟩
theorem abl{P:Pl}{qs:List Ak}(rd:∀q∈qs,v_ P q):∀ns∈g9 qs qs.length,ns = []:=by
 intro ns h;unfold g9 at h;obtain⟨k,hk,rfl⟩:=List.mem_map.mp h;unfold vG;rw[List.map_eq_nil_iff,List.filter_eq_nil_iff];intro j hj;have h1:=List.mem_range.mp hk;have h2:=List.mem_range.mp hj;have h3:j<qs.length:=by lia
 rw[List.getElem?_eq_getElem h1,List.getElem?_eq_getElem h3];have a:=rd _ (List.getElem_mem h1);have b:=rd _ (List.getElem_mem h3);have n6:((Str.ofString "read"):Str)≠"write" := Dj (by decide)
 simp[a.b,o_,a.k,b.k,n6]
theorem abm{kk:List (List Int)}(h:∀ns∈kk,ns = [])(b:Int)(ls:List (Dr×Addr)):rS kk b ls=ls.filter λy=>decide (y.1.q.at_<=b):=by
 unfold rS;refine List.filter_eq_self.mpr λy _=>?_;have:kk.getD y.1.n.toNat [] = []:=by
  rw[List.getD_eq_getElem?_getD];cases e:kk[y.1.n.toNat]? with
  | none=>rfl
  | some ns=>exact h ns (List.mem_of_getElem? e)
 rw[this];rfl
theorem Zt.cat{H:Hp}{R l:Addr}{ts tw:List Addr}{z z2:List (List Int)}(h:Zt H R ts z)(h2:Zt H l tw z2):Zt (upd H R (.lst (ts.map V.ref++tw.map V.ref))) R (ts++tw) (z++z2):=by
 have ne:∀ {t:Addr} {xs:List V},H t=some (.tup xs)->t≠R:=λe q=>by rw[q,h.l] at e;cases e
 have hn:=h.n;refine⟨by rw[aD,List.map_append],by simp[h.n,h2.n],λi t x e1 e2=>?_⟩
 by_cases hi:i<ts.length
 ·rw[List.getElem?_append_left hi] at e1;rw[List.getElem?_append_left (by lia)] at e2
  have:=h.t i t x e1 e2;rw[aC (ne this)];exact this
 ·rw[List.getElem?_append_right (by lia)] at e1
  rw[List.getElem?_append_right (by lia),← hn] at e2
  have:=h2.t _ t x e1 e2;rw[aC (ne this)];exact this
section
variable{X:Cx}
theorem Ng(hu:X.A.units<cLine):cG X (compareOp .NotEq) (λx y H Q=>∃(a b:Addr) (ns ms:List Int),x = .ref a/\y = .ref b/\H a=some (.tup (ns.map V.int))/\H b=some (.tup (ms.map V.int))/\Q (.bl (!decide (ns=ms))) H):=by
 rintro pins s σ H x y v u Q I rx ry ⟨p,q,ns,ms,rfl,rfl,h,h',hq⟩;cases rx;cases ry;obtain⟨aA,r1,q1,_⟩:=I.tuple (aQ.of (K:=X.K) h);obtain⟨fD,r2,q2,_⟩:=I.tuple (aQ.of (K:=X.K) h');have l1:ns.length=aA.length:=by have:=r1.length;simpa using this
 have l2:ms.length=fD.length:=by have:=r2.length;simpa using this
 have e0:((List.range (min aA.toArray.size fD.toArray.size)).all (λj=>decide (ns[j]? = ms[j]?)) && aA.toArray.size == fD.toArray.size)=decide (ns=ms):=by
  rw[Bool.eq_iff_iff];simp only[Bool.and_eq_true,List.all_eq_true,List.mem_range,decide_eq_true_eq,beq_iff_eq,List.size_toArray];constructor
  ·rintro⟨h1,h2⟩;refine List.ext_getElem? λj=>?_
   by_cases hj:j<min aA.length fD.length
   ·exact h1 j hj
   ·rw[List.getElem?_eq_none (by lia),List.getElem?_eq_none (by lia)]
  ·rintro rfl;exact⟨λ_ _=>rfl,by lia⟩
 have fin:=SeqAt.RcNeAt.tuples (A:=X.A) (s:=s) (e:=λj=>decide (ns[j]? = ms[j]?)) q1 q2 (by lia) (λj h1 h2=>?_)
 ·rw[e0] at fin;exact fin X.prog X.w _ _ ⟨.bl (!decide (ns=ms)),H,I,rfl,hq⟩
 ·have j1:j<ns.length:=by rw[l1];simpa using h1
  have j2:j<ms.length:=by rw[l2];simpa using h2
  obtain⟨u1,g1,w1⟩:=r1.get (show (ns.map V.int)[j]? = some (.int ns[j]) by simp[j1])
  obtain⟨u2,g2,w2⟩:=r2.get (show (ms.map V.int)[j]? = some (.int ms[j]) by simp[j2])
  have e1:aA.toArray[j] = u1:=by
   rw[List.getElem_toArray];exact Option.some.inj ((List.getElem?_eq_getElem (by simpa using h1)).symm.trans g1)
  have e2:fD.toArray[j] = u2:=by
   rw[List.getElem_toArray];exact Option.some.inj ((List.getElem?_eq_getElem (by simpa using h2)).symm.trans g2)
  obtain⟨t1,rfl⟩:=w1;obtain⟨t2,rfl⟩:=w2;rw[e1,e2];have:=SeqAt.EqAt.int_int (A:=X.A.in1) (s:=s) ns[j] t1 ms[j] t2;have e3:(ns[j] == ms[j])=decide (ns[j]? = ms[j]?):=by
   simp only[List.getElem?_eq_getElem j1,List.getElem?_eq_getElem j2,Option.some.injEq];rw[Bool.eq_iff_iff];simp
  rwa [e3] at this
end
section
variable{X:Cx}
end
noncomputable def lX(z:List (Int×Int))(aq sk:Int)(sw:List Int):Pl:=⟨counts z,aq,sk,sw,kL (counts z) 0⟩
noncomputable def abn(K:PySem.W.Frag)(C:Addr):Sp:=λvs H Q _=>∃(sc:Addr) (ns:List Int),vs = [.ref sc]/\aE K H sc (ns.map V.int)/\ns.length<=63/\
 ∀t p wt z aq sk sw fp H',ah H H'->H' t=some (.tup [.ref p,.ref wt])->bV K C H' p (lX z aq sk sw) fp->lT z aq sk sw->Q (.ref t) H'
noncomputable def abo(CX:Addr):Sp:=λvs H Q _=>∃(a:Addr),vs = [.ref a]/\H a=some (pq a CX)/\∀H',ah H H'->Q (.bl true) H'
theorem abp{rc:List Int}(h2:2<=rc.length)(hc:∀c∈rc,1<=c):∃n:Int,1<=n/\rc.getD 0 0=n/\(kL rc 0)[0]? = some (0,0)/\(kL rc 0)[n.toNat]? = some (1,0):=by
 match rc,h2 with
 | a::b::r,_ =>
  have ha:=hc a (by simp)
  have hb:=hc b (by simp)
  refine⟨a,ha,rfl,?_,?_⟩
  ·unfold kL;rw[dX,List.getElem?_append_left (by rw[List.length_map,List.length_range];lia),List.getElem?_map,List.getElem?_range (by lia)]
   rfl
  ·unfold kL;rw[dX,List.getElem?_append_right (by rw[List.length_map,List.length_range];lia),List.length_map,List.length_range,show a.toNat - (a - 0).toNat=0 by lia]
   rw[dX,List.getElem?_append_left (by rw[List.length_map,List.length_range];lia),List.getElem?_map,List.getElem?_range (by lia)]
   rfl
theorem Nh{nc:List (Int×Int)}{f:Int}{q:Int×Int}(h:nc[f.toNat]? = some q):dY nc f 1 = [q]:=by
 unfold dY;have hl:=(List.getElem?_eq_some_iff.mp h).1;rw[List.drop_eq_getElem_cons hl];have:=(List.getElem?_eq_some_iff.mp h).2;simp[this]
theorem abq{z:List (Int×Int)}{aq sk:Int}{sw:List Int}(h2:2<=(counts z).length)(hc:∀c∈counts z,1<=c/\c<=60):∃n,MZ (lX z aq sk sw) n/\1<=n/\n<=60/\dY (lX z aq sk sw).nc n 1 = [(1,0)]/\dY (lX z aq sk sw).nc 0 1 = [(0,0)]:=by
 obtain⟨n,n1,e0,c0,c1⟩:=abp h2 λc h=>(hc c h).1;have m0:(counts z).getD 0 0∈counts z:=by rw[show (counts z).getD 0 0=(counts z)[0]'(by lia) by simp[show 0<(counts z).length by lia]];exact List.getElem_mem _
 have m1:(counts z).getD 1 0∈counts z:=by rw[show (counts z).getD 1 0=(counts z)[1]'(by lia) by simp[show 1<(counts z).length by lia]];exact List.getElem_mem _
 rw[e0] at m0;have:=hc _ m0;refine⟨n,⟨h2,(hc _ m1).1,?_,by lia,by lia⟩,n1,this.2,Nh c1,Nh c0⟩
 have:=YB (LZ (counts z) 0) c1;rwa [show ((n.toNat:Nat):Int)=n by lia] at this
theorem Ni:∀(tk:List (Int×Int)) (xs:List V) (k:Int),0<=k->(∀q∈tk,0<=q.1)->k∉tk.map (·.1)->(tk.foldl (λxs p=>xs.set p.1.toNat (.int p.2)) xs)[k.toNat]? = xs[k.toNat]?
 | [],xs,k,_,_,_=>rfl
 | p::tk,xs,k,h0,hb,h=>by
  rw[List.map_cons,List.mem_cons,not_or] at h;have:=hb p (List.mem_cons_self ..);rw[List.foldl_cons,Ni tk _ k h0 (λq hq=>hb q (List.mem_cons_of_mem _ hq)) h.2,List.getElem?_set_ne (by lia)]
theorem Nj:∀(tk:List (Int×Int)) (xs:List V),(tk.map (·.1)).Nodup->(∀q∈tk,0<=q.1/\q.1<xs.length)->∀q∈tk,(tk.foldl (λxs p=>xs.set p.1.toNat (.int p.2)) xs)[q.1.toNat]? = some (.int q.2)
 | [],xs,_,_,q,h=>by cases h
 | p::tk,xs,nd,hb,q,h=>by
  rw[List.map_cons,List.nodup_cons] at nd;have bp:=hb p (List.mem_cons_self ..);rw[List.foldl_cons];rcases List.mem_cons.mp h with rfl | h
  ·rw[Ni tk _ _ bp.1 (λq hq=>(hb q (List.mem_cons_of_mem _ hq)).1) nd.1,List.getElem?_set_self (by lia)]
  ·exact Nj tk _ nd.2 (λq hq=>by rw[List.length_set];exact hb q (List.mem_cons_of_mem _ hq)) q h
theorem DJ{n:Nat}{tk:List (Int×Int)}(nd:(tk.map (·.1)).Nodup)(hb:∀q∈tk,0<=q.1/\q.1<n){q:Int×Int}(hq:q∈tk):(cJ n tk)[q.1.toNat]? = some (.int q.2) :=
 Nj tk _ nd (λq h=>by rw[List.length_replicate];exact hb q h) q hq
structure JB(all:List Dr)(m:Nat)(ds:List Dr)(b:Int)(tk:List (Int×Int)):Prop where
 nd:(tk.map (·.1)).Nodup
 bd:∀q∈tk,0<=q.1/\q.1<m
 al:∀d∈all,d∈ds\/∃q∈tk,q.1=d.n
 sb:∀d∈ds,d∈all
 dj:∀q∈tk,∀d∈ds,d.n≠q.1
 b0:0<=b
theorem JB.step{all:List Dr}{m:Nat}{ds:List Dr}{b b2 b3:Int}{tk:List (Int×Int)}(h:JB all m ds b tk)(ha:∀d∈all,0<=d.n/\d.n<m){d:Dr}(hd:d∈ds)(hb:0<=b3):JB all m (ds.filter λe=>decide (e.n≠d.n)) b3 (tk++[(d.n,b2)]) where
 nd:=by
  rw[List.map_append,List.nodup_append];refine⟨h.nd,by simp,λx hx y hy=>?_⟩
  obtain⟨q,hq,rfl⟩:=List.mem_map.mp hx;simp at hy;subst hy;exact λz=>h.dj q hq d hd z.symm
 bd:=λq hq=>by
  rcases List.mem_append.mp hq with hq | hq
  ·exact h.bd q hq
  ·rw[List.mem_singleton.mp hq];exact ha d (h.sb d hd)
 al:=λe he=>by
  rcases h.al e he with h1 | ⟨q,hq,e1⟩
  ·by_cases z:e.n=d.n
   ·exact .inr ⟨(d.n,b2),by simp,z.symm⟩
   ·exact .inl (List.mem_filter.mpr ⟨h1,decide_eq_true z⟩)
  ·exact .inr ⟨q,List.mem_append_left _ hq,e1⟩
 sb:=λe he=>h.sb e (List.mem_filter.mp he).1
 dj:=λq hq e he=>by
  obtain⟨h1,h2⟩:=List.mem_filter.mp he;rcases List.mem_append.mp hq with hq | hq
  ·exact h.dj q hq e h1
  ·rw[List.mem_singleton.mp hq];exact of_decide_eq_true h2
 b0:=hb
theorem Nk{P:Pl}(ok:jD P)(hl:∀i:Nat,i<P.rc.length->1<=P.aq / P.rc.getD i 0){s q:Int×Int}(s0:0<=s.1)(s1:s.1<P.rc.length)(q0:0<=q.1)(q1:q.1<P.rc.length):s.2+1<=(cW P s [q]).2:=by
 show s.2+1<=lM P s q+P.aq / P.rc.getD q.1.toNat 0;have h1:=hl q.1.toNat (by lia)
 have hs:0<=P.sw.getD (s.1 - q.1).natAbs 0:=by
  have l:=ok.sw.len;by_cases e:(s.1 - q.1).natAbs=0
  ·rw[e,ok.sw.z];exact Int.le_refl _
  ·have:=(ok.sw.pos (s.1 - q.1).natAbs (by lia) (by lia)).1
   lia
 unfold lM vh;have h2:=Int.emod_nonneg (C3 P q.1 q.2 - (s.2+P.sw.getD (s.1 - q.1).natAbs 0)) (show P.aq≠0 by have:=ok.aq;lia)
 lia
structure abr(P:Pl)(n most:Int):Prop where
 ok:jD P
 hl:∀i:Nat,i<P.rc.length->1<=P.aq / P.rc.getD i 0
 nx:MZ P n
 n1:1<=n
 c1:dY P.nc n 1 = [(1,0)]
 c0:dY P.nc 0 1 = [(0,0)]
 nM:P.nc.length<=1000000
 m2:2<=most
 m1:most<=100
section
variable{P:Pl}{n most:Int}
theorem JB.start{all:List Dr}{m:Nat}:JB all m all 0 []:=⟨by simp,λq h=>by(cases h),λd h=>.inl h,λd h=>h,λq h=>by(cases h),Int.le_refl _⟩
end
theorem all_ints:∀(xs:List V),(∀i:Nat,i<xs.length->∃b:Int,xs[i]? = some (.int b))->∃bs:List Int,xs=bs.map V.int
 | [],_=>⟨[],rfl⟩
 | x::xs,h=>by
  obtain⟨b,e⟩:=h 0 (by simp)
  obtain⟨bs,e2⟩:=all_ints xs λi hi=>by
   obtain⟨c,ec⟩:=h (i+1) (by simp;lia)
   exact⟨c,by simpa using ec⟩
  exact⟨b::bs,by simp at e;rw[e,e2];rfl⟩
theorem JB.ends{nc:List (Int×Int)}{qs:List Ak}{b:Int}{tk:List (Int×Int)}(h:JB (cI nc 0 qs) qs.length [] b tk):∃bs:List Int,cJ qs.length tk=bs.map V.int/\bs.length=qs.length/\∀(i:Nat) (c:Int),bs[i]? = some c->((i:Int),c)∈tk:=by
 have at_:∀i:Nat,i<qs.length->∃c,((i:Int),c)∈tk/\(cJ qs.length tk)[i]? = some (.int c):=λi hi=>by
  obtain⟨d,hd,e⟩:=rT nc qs 0 i hi;rcases h.al d hd with z | ⟨q,hq,e2⟩
  ·cases z
  ·have:=DJ h.nd h.bd hq;rw[e2,e,Nat.zero_add] at this;have eq:q=((i:Int),q.2):=Prod.ext (by rw[e2,e,Nat.zero_add]) rfl
   exact⟨q.2,eq▸hq,this⟩
 obtain⟨bs,eb⟩:=all_ints (cJ qs.length tk) λi hi=>by
  rw[DH] at hi;obtain⟨c,_,e⟩:=at_ i hi;exact⟨c,e⟩
 have hl:bs.length=qs.length:=by
  have:=congrArg List.length eb;rwa [DH,List.length_map,eq_comm] at this
 refine⟨bs,eb,hl,λi c e=>?_⟩;obtain⟨c',h1,e'⟩:=at_ i (by have:=(List.getElem?_eq_some_iff.mp e).1;lia)
 rw[eb,List.getElem?_map,e] at e';cases e';exact h1
theorem lT.bnd{z:List (Int×Int)}{aq sk:Int}{sw:List Int}(wo:lT z aq sk sw){most:Int}(m2:2<=most)(m1:most<=100):∃n,abr (lX z aq sk sw) n most:=by
 have cl:=o7 z λp hp=>(wo.zl.ok.r p hp).1;have L4:=wo.zl.sm;have c2:=wo.zl.ok.s2;have hc:∀c∈counts z,1<=c/\c<=60:=λc hc=>by
  obtain⟨p,hp,rfl⟩:=rB hc;exact(wo.zl.ok.r p hp).2.2
 obtain⟨n,nx,n1,n60,c1,c0⟩:=abq (aq:=aq) (sk:=sk) (sw:=sw) (show 2<=(counts z).length by lia) hc
 refine⟨n,wo.pl _,λi hi=>?_,nx,n1,c1,c0,?_,m2,m1⟩
 ·obtain⟨p,hp,e⟩:=rB (get_mem (CW (counts z) hi))
  show 1<=aq / (counts z).getD i 0;have nK:=wo.zl.ok.r p hp;have l3:=wo.l3 p hp;have l1:=wo.l1;rw[e];have hd:p.2*(aq / p.2)=aq:=by
   have:=Int.mul_ediv_add_emod aq p.2;lia
  by_cases z0:aq / p.2<=0
  ·have:=Int.mul_nonneg (show 0<=p.2 by lia) (show 0<=-(aq / p.2) by lia)
   rw[Int.mul_neg,hd] at this;lia
  ·lia
 ·have:=u7 (s:=0) (by decide) (counts z) 0 λc h=>by have:=hc c h;lia
  show (dX 0 0 (counts z)).length<=1000000;lia
section
variable{X:Cx}{a b c d:Expr}{ta tb tc td:TE}{pos:Pos}
noncomputable def abt(r r' r2:R2)(ta tb tc td:TE):TE:=λσ H Q=>ta σ H λx H1=>tb σ H1 λy H2=>r x y H2 λz H3=>∃k,z = .bl k/\
 (if k=true then tc σ H3 λw H4=>r' y w H4 λz2 H5=>∃k2,z2 = .bl k2/\(if k2=true then td σ H5 λv H6=>r2 w v H6 Q else Q (.bl false) H5) else Q (.bl false) H3)
theorem abu{op m_ DK:CmpOp}{r r' r2:R2}(ho:cG X (compareOp op) r)(jv:cG X (compareOp m_) r')(j7:cG X (compareOp DK) r2)(ha:PE X a ta)(hb:PE X b tb)(hc:PE X c tc)(hd:PE X d td)
  (hm:lastMarks [op,m_,DK] [b,c,d] = false:=by with_unfolding_all rfl):PT X (.Compare a [op,m_,DK] [b,c,d] pos) (Ce (abt r r' r2 ta tb tc td)):=by
 intro pins s σ H Q I h;refine isTrue_chain (aI (ha pins s σ H _ I h) λv s1 ⟨x,H1,I1,r1,q1⟩=>test_link (aI (hb pins s1 σ H1 _ I1 q1) λu s2 ⟨y,H2,I2,r2,q2⟩ =>
  aI (ho pins s2 σ H2 x y v u _ I2 r1 r2 q2) λd s3 ⟨z,H3,I3,r3,zz⟩=>?_)) hm
 obtain⟨k,e,q3⟩:=zz;subst e;cases r3;refine wpAny_truthy_bool ?_;cases k with
 | false =>
  obtain⟨k',e',q'⟩:=q3;cases e';exact ite_ff ⟨H3,I3,q'⟩
 | true =>
  refine ite_tt (test_link (aI (hc pins s3 σ H3 _ I3 q3) λw' s4 ⟨z',H4,I4,r4,q4⟩=>aI (jv pins s4 σ H4 y z' u w' _ I4 r2 r4 q4) λd' s5 ⟨z2,H5,I5,r5,zz⟩=>?_));obtain⟨k2,e2,q5⟩:=zz;subst e2;cases r5;refine wpAny_truthy_bool ?_;cases k2 with
  | false =>
   obtain⟨k',e',q'⟩:=q5;cases e';exact ite_ff ⟨H5,I5,q'⟩
  | true =>
   refine ite_tt (test_last (aI (hd pins s5 σ H5 _ I5 q5) λw2 s6 ⟨z6,H6,I6,r6,q6⟩=>aI (j7 pins s6 σ H6 z' z6 w' w2 _ I6 r4 r6 q6) λd' s7 ⟨z3,H7,I7,r7,zz⟩=>?_));obtain⟨k3,e3,q7⟩:=zz;subst e3;cases r7;exact wpAny_truthy_bool ⟨H7,I7,q7⟩
end
section
variable{X:Cx}{E:XK}{c:Expr}{tc:TT}{a b:Stmt}{t u:TS}{pos:Pos}
theorem Nl(h1:pC X E a t){pins:List (Addr×Obj)}{s:Shared}{σ:St}{H:Hp}{D:Ends}(I:Inv X pins σ H s)(h:t D σ H):wpAny (model X.prog X.w) X.A (execs [a] X.env) (SP X pins D) (XP X.prog X.w X.base X pins σ E) s:=by
 refine wpAny_execs_cons (aI (h1 pins s σ H D I h) λf s1 q=>?_);cases f with
 | next=>exact wpAny_execs_nil q
 | ret v=>exact q
 | brk=>exact q
 | cont=>exact q
theorem abv(hc:PT X.lB c tc)(ha:pC X E a t)(hb:pC X E b u):pC X E (.If c [a] [b] pos) (Ke tc t u):=by
 intro pins s σ H D I h;refine wpAny_If (wpAny_mono (hc pins s σ H _ (I.iw _) h) (λd s1 ⟨H1,I1,q1⟩=>?_) λ_ _ z=>False.elim z);cases d with
 | true=>exact Nl ha I1.jw q1
 | false=>exact Nl hb I1.jw q1
end
noncomputable def lY(z:List (Int×Int))(a:Int):Prop:=gv z/\a∈z.map (·.1)
noncomputable def abw(X:Addr):Sp:=λvs H Q E=>∃(l:Addr) (ts:List Addr) (z:List (Int×Int)) (a:Int),vs = [.ref l,.int a]/\Zn H l ts z/\z.length<=1000/\(lY z a->∀s H',ah H H'->(a,s)∈z->Q (.int s) H')/\(¬ lY z a->∀H',ah H H'->E (.ref X) none H')
noncomputable def abx:Sp:=λvs H Q _=>∃(s h:Int),vs = [.int s,.int h]/\1<=s/\s<=4/\0<=h/\h<=100/\Q (.int (h / s+1)) H
noncomputable def jH(z:List (Int×Int))(s h:Int):Int:=(h / s+1)*((z.map (·.2)).sum - s)
noncomputable def aby(X:Addr):Sp:=λvs H Q E=>∃(l:Addr) (ts:List Addr) (z:List (Int×Int)) (a h:Int),vs = [.ref l,.int a,.int h]/\Zn H l ts z/\z.length<=1000/\0<=h/\h<=3/\(lY z a->∀s H',ah H H'->(a,s)∈z->Q (.int (jH z s h)) H')/\(¬ lY z a->∀H',ah H H'->E (.ref X) none H')
noncomputable def eo(aq s h:Int)(z:List (Int×Int))(a:Int):List Ak:=z.flatMap λp=>if p.1=a then [] else List.replicate ((h / s+1)*p.2).toNat (d9 0 (s*aq) p.1)
noncomputable def cE(aq:Int)(z:List (Int×Int))(a s h:Int):List Ak:=List.replicate s.toNat (d9 0 0 a)++List.replicate (h+1).toNat (d9 0 (s*aq) a)++eo aq s h z a
noncomputable def abz(K:PySem.W.Frag)(cs:List Addr)(CA X:Addr):Sp:=λvs H Q E=>∃(C p l:Addr) (ts:List Addr) (z:List (Int×Int)) (a h:Int) (P:Pl) (fp:List Addr),vs = [.ref p,.ref l,.int a,.int h]/\C∈cs/\bV K C H p P fp/\1<=P.aq/\P.aq<=1000000000/\Zn H l ts z/\z.length<=1000/\0<=h/\h<=3/\
 (lY z a->∀t la ps s H',ah H H'->(a,s)∈z->H' t=some (.tup [.ref la,.int (s+h)])->cM K CA H' la ps (cE P.aq z a s h)->Q (.ref t) H')/\(¬ lY z a->∀H',ah H H'->E (.ref X) none H')
theorem wc{s h:Int}(s1:1<=s)(h0:0<=h)(h3:h<=3):0<=h / s/\h / s<=3:=by
 refine⟨Int.ediv_nonneg h0 (by lia),?_⟩
 have:=Int.ediv_le_self s h0;lia
theorem Nm{aq s h:Int}{z:List (Int×Int)}{a:Int}{p:Int×Int}:eo aq s h (z++[p]) a=eo aq s h z a++if p.1=a then [] else List.replicate ((h / s+1)*p.2).toNat (d9 0 (s*aq) p.1):=by
 unfold eo;rw[List.flatMap_append];simp
theorem Nn{T s:Int}(t0:0<=T)(t1:T<=3)(s1:1<=s)(s4:s<=4):0<=(T+1)*s/\(T+1)*s<=16:=by
 refine⟨Int.mul_nonneg (by lia) (by lia),?_⟩
 have:=Int.mul_le_mul (show T+1<=4 by lia) s4 (by lia) (by lia)
 lia
theorem DL{aq s h:Int}{a:Int}(s1:1<=s)(h0:0<=h)(h3:h<=3):∀(z:List (Int×Int)),(∀p∈z,1<=p.2/\p.2<=4)->(eo aq s h z a).length<=16*z.length
 | [],_=>by simp[eo]
 | p::z,hz=>by
  have ih:=DL (aq:=aq) (a:=a) s1 h0 h3 z λp hp=>hz p (List.mem_cons_of_mem _ hp);have d:=wc s1 h0 h3;have:=hz p List.mem_cons_self;have t:=Nn d.1 d.2 this.1 this.2;have e:eo aq s h (p::z) a=(if p.1=a then [] else List.replicate ((h / s+1)*p.2).toNat (d9 0 (s*aq) p.1))++eo aq s h z a:=by unfold eo;rw[List.flatMap_cons]
  rw[e,List.length_append,List.length_cons];split
  ·simp;lia
  ·rw[List.length_replicate];lia
section
variable{K:PySem.W.Frag}{CA:Addr}{H:Hp}{L l2:Addr}{ps iJ:List Addr}{qs rP:List Ak}
theorem cM.ext(h:cM K CA H L ps qs)(h2:cM K CA H l2 iJ rP):cM K CA (upd H L (.lst (ps.map V.ref++iJ.map V.ref))) L (ps++iJ) (qs++rP):=by
 have hn:=h.n;refine⟨by rw[aD,List.map_append],by simp[h.n,h2.n],λi p q e1 e2=>?_⟩
 by_cases hi:i<ps.length
 ·rw[List.getElem?_append_left hi] at e1;rw[List.getElem?_append_left (by lia)] at e2
  obtain⟨m,b,d,z⟩:=h.t i p q e1 e2;exact⟨m,b,d,z.iD h.l⟩
 ·rw[List.getElem?_append_right (by lia)] at e1
  rw[List.getElem?_append_right (by lia),← hn] at e2
  obtain⟨m,b,d,z⟩:=h2.t _ p q e1 e2;exact⟨m,b,d,z.iD h.l⟩
end
structure Np(P:Pl)(sh:List (Int×Int))(J:List Dr->Int->Int->Int->Int->List (Int×Int)->Prop):Prop where
 go:∀ds r b t u tk b2 d t' u',J ds r b t u tk->Nd ds b b2->kU sh (ds.filter λd=>decide (d.q.at_<=b2)) t u t' u'->d∈ds.filter (λd=>decide (d.q.at_<=b2))->eG (bG sh t') (ds.filter λd=>decide (d.q.at_<=b2))=some d.n->J (ds.filter λe=>decide (e.n≠d.n)) (cW P (r,b2) d.c).1 (cW P (r,b2) d.c).2 t' u' (tk++[(d.n,b2)])
noncomputable def abA(K:PySem.W.Frag)(cs:List Addr)(CA CS CP:Addr):Sp:=λvs H Q _=>∃(C p la ru dx pl:Addr) (bA:List Addr) (sh:List (Int×Int)) (t u:Int) (P:Pl) (fp ps:List Addr) (qs:List Ak) (J:List Dr->Int->Int->Int->Int->List (Int×Int)->Prop),
 vs = [.ref p,.ref la,.ref ru,.int 0,.int 0]/\C∈cs/\bV K C H p P fp/\jD P/\P.nc.length<=1000000/\cM K CA H la ps qs/\vH P.nc.length qs/\(∀q∈qs,v_ P q)/\c8 CS H ru sh t u dx pl bA/\gv sh/\(∀q∈qs,q.aY∈sh.map (·.1))/\
 J (cI P.nc 0 qs) 0 0 0 0 []/\Np P sh J/\
 ∀x dG v1 ta v3 v4 v5 r b t' u' tk H',d_ ru H H'->J [] r b t' u' tk->H' x=some (.ins CP dG (abj v1 ta v3 v4 v5))->H' ta=some (.lst (cJ qs.length tk))->Q (.ref x) H'
theorem DM{H:Hp}{a b:Addr}{o:HO}(h:H a=some o)(n:H b=none):b≠a:=λz=>by rw[z,h] at n;cases n
section
variable{K:PySem.W.Frag}{CS CC CA CD:Addr}{sh:List (Int×Int)}{t u:Int}{H H' H1:Hp}{ru dx pl x dc kp p Dx:Addr}{bA ks:List Addr}{kk:List (List Int)}{r b:Int}{ls:List (Dr×Addr)}
theorem c8.i_(h:c8 CS H ru sh t u dx pl bA)(c:bD K CC CA CD H x dc kp ks kk p r b Dx ls)(s:bK x Dx H H')(nx:ru≠x):c8 CS H' ru sh t u dx pl bA:=by
 have go:∀ {a:Addr} {o:HO},H a=some o->(∀C d fs,o≠.ins C d fs)->(∀k,o≠.dK k)->H' a=some o:=λ{a o} e n1 n2=>s _ _ e (λz=>by have:=c.o;rw[← z,e] at this;exact n1 _ _ _ (Option.some.inj this)) (λz=>by have:=c.d;rw[← z,e] at this;exact n2 _ (Option.some.inj this))
 exact⟨s _ _ h.o nx (λz=>by have:=c.d;rw[← z,h.o] at this;cases this),go h.p.l (λ_ _ _ z=>nomatch z) (λ_ z=>nomatch z),h.p.n,λi t p e1 e2=>go (h.p.t i t p e1 e2) (λ_ _ _ z=>nomatch z) (λ_ z=>nomatch z)⟩
end
structure Nq(K:PySem.W.Frag)(CS CC CA CD:Addr)(sh:List (Int×Int))(P:Pl)(qs:List Ak)(J:List Dr->Int->Int->Int->Int->List (Int×Int)->Prop)(H H3 H':Hp)(rW:List (Dr×Addr))(ru dx pl:Addr)(bA:List Addr)(x dc kp p Dx R Pk Tk:Addr)(ks:List Addr)(kk:List (List Int))(r b:Int)(ls:List (Dr×Addr))(t u:Int)(tk:List (Int×Int))(ts:List Addr)(rows:List (List Int)):Prop where
 kx:d_ ru H H'
 kt:bZ H H'
 rA:c8 CS H' ru sh t u dx pl bA
 t0:0<=t/\t<sh.length
 nx:ru≠x
 co:bD K CC CA CD H' x dc kp ks kk p r b Dx ls
 j:J (ls.map (·.1)) r b t u tk
 fx:H x=none
 fd:H Dx=none
 c3:bD K CC CA CD H3 x dc kp ks kk p 0 0 Dx rW
 bt:jc x Dx H3 H'
 sub:ls.Sublist rW
 n3:H3 R=none/\H3 Pk=none/\H3 Tk=none
 fR:j8 ru H R
 fP:j8 ru H Pk
 fT:j8 ru H Tk
 np:R≠pl/\Pk≠pl/\Tk≠pl
 ne:R≠Pk/\R≠Tk/\Pk≠Tk
 rr:Zt H' R ts rows
 r5:∀w∈rows,w.length=5
 rl:rows.length<=16*tk.length
 rh:∀q∈tk,∃w∈rows,w.head? = some q.1
 pP:H' Pk=some (.lst ((tk.map (·.1)).map V.int))
 tT:H' Tk=some (.lst (cJ qs.length tk))
 n:tk.length+ls.length=qs.length
 all:∀d∈cI P.nc 0 qs,d∈ls.map (·.1)\/∃q∈tk,q.1=d.n
 dr:∀y∈ls,y.1∈cI P.nc 0 qs
 tn:∀q∈tk,0<=q.1/\q.1<qs.length
 r0:0<=r
 r1:r<P.rc.length
noncomputable def eu(a:Int)(ds:List Dr):Nat:=ds.countP λd=>decide (d.q.aY=a)
theorem abB{a:Int}{ds:List Dr}(up:ds.Pairwise λa b=>a.n<b.n){d:Dr}(hd:d∈ds):eu a (ds.filter λe=>decide (e.n≠d.n))+(if d.q.aY=a then 1 else 0)=eu a ds:=by
 obtain⟨l1,l2,rfl⟩:=List.append_of_mem hd;rw[List.pairwise_append,List.pairwise_cons] at up;have f1:l1.filter (λe=>decide (e.n≠d.n))=l1:=List.filter_eq_self.mpr λe he=>by
  have:=up.2.2 e he d (List.mem_cons_self ..);exact decide_eq_true (by lia)
 have f2:l2.filter (λe=>decide (e.n≠d.n))=l2:=List.filter_eq_self.mpr λe he=>by
  have:=up.2.1.1 e he;exact decide_eq_true (by lia)
 unfold eu;rw[List.filter_append,List.filter_cons_of_neg (by simp),f1,f2,List.countP_append,List.countP_append,List.countP_cons]
 simp only[decide_eq_true_eq];lia
theorem DN{a:Int}{ds:List Dr}:0<eu a ds↔∃d∈ds,d.q.aY=a:=by
 unfold eu;rw[List.countP_pos_iff];simp
theorem DO{a:Int}{ds:List Dr}:here ds a↔0<eu a ds:=by
 rw[DN];constructor
 ·intro h;obtain⟨n,hn⟩:=Option.isSome_iff_exists.mp h;obtain⟨⟨d,hd,e,_⟩,_⟩:=(pD ds).2 n hn;exact⟨d,hd,e⟩
 ·rintro⟨d,hd,e⟩;exact vP hd e
theorem Nr{x y s:Int}(h:x*s<y*s)(hs:0<s):x<y:=Int.lt_of_mul_lt_mul_right h (by lia)
noncomputable def dI(n ia i:Int):Int:=(i - ia) % n
theorem wg{n ia i:Int}(hn:1<=n):0<=dI n ia i/\dI n ia i<n:=⟨Int.emod_nonneg _ (by lia),Int.emod_lt_of_pos _ (by lia)⟩
theorem rX{n ia:Int}:dI n ia ia=0:=by unfold dI;rw[Int.sub_self];exact Int.zero_emod _
theorem Nt{n ia i j:Int}(hi:0<=i/\i<n)(hj:0<=j/\j<n)(h:dI n ia i=dI n ia j):i=j:=by
 unfold dI at h;have e1:=Int.mul_ediv_add_emod (i - ia) n;have e2:=Int.mul_ediv_add_emod (j - ia) n;have e3:i - j=n*((i - ia) / n - (j - ia) / n):=by rw[Int.mul_sub];lia
 generalize (i - ia) / n - (j - ia) / n=k at e3;by_cases k0:k=0
 ·subst k0;simp at e3;lia
 ·exfalso
  by_cases kp:1<=k
  ·have:=Int.mul_le_mul_of_nonneg_left kp (show 0<=n by lia)
   lia
  ·have:=Int.mul_le_mul_of_nonneg_left (show k<=-1 by lia) (show 0<=n by lia)
   lia
theorem abC{n ia t:Int}(hn:1<=n):dI n ia ((t+1) % n)=if dI n ia t+1=n then 0 else dI n ia t+1:=by
 have b:=wg (ia:=ia) (i:=t) hn;have e:dI n ia ((t+1) % n)=(dI n ia t+1) % n:=by
  unfold dI;rw[Int.emod_sub_emod,Int.emod_add_emod];congr 1;lia
 rw[e];split
 ·rename_i h;rw[h,Int.emod_self]
 ·exact Int.emod_eq_of_lt (by lia) (by lia)
theorem abD{z:List (Int×Int)}{x:Int}(h:x∈z.map (·.1)):∃i:Int,0<=i/\i<z.length/\bG z i=x:=by
 obtain⟨p,hp,rfl⟩:=List.mem_map.mp h;obtain⟨i,hi,rfl⟩:=List.getElem_of_mem hp;refine⟨(i:Int),by lia,by lia,?_⟩
 unfold bG;rw[Int.toNat_natCast,List.getD_eq_getElem?_getD,List.getElem?_eq_getElem hi];rfl
theorem DP{z:List (Int×Int)}(nd:(z.map (·.1)).Nodup){i j:Int}(hi:0<=i/\i<z.length)(hj:0<=j/\j<z.length)(h:bG z i=bG z j):i=j:=by
 have e1:=i7 hi.1 hi.2;have e2:=i7 hj.1 hj.2;have f1:(z.map (·.1))[i.toNat]? = some (bG z i):=by rw[List.getElem?_map,e1];rfl
 have f2:(z.map (·.1))[j.toNat]? = some (bG z i):=by rw[List.getElem?_map,e2,h];rfl
 have:=(List.getElem?_inj (i:=i.toNat) (j:=j.toNat) (by rw[List.length_map];lia) nd).mp (f1.trans f2.symm)
 lia
theorem DQ{ds:List Dr}(up:ds.Pairwise λa b=>a.n<b.n){d e:Dr}(hd:d∈ds)(he:e∈ds)(h:d.n=e.n):d=e:=by
 obtain⟨l1,l2,rfl⟩:=List.append_of_mem hd;rw[List.pairwise_append,List.pairwise_cons] at up;rcases List.mem_append.mp he with he | he
 ·have:=up.2.2 e he d (List.mem_cons_self ..);lia
 ·rcases List.mem_cons.mp he with rfl | he
  ·rfl
  ·have:=up.2.1.1 e he;lia
structure jI(z:List (Int×Int))(a s h ia:Int):Prop where
 ok:gv z
 i0:0<=ia/\ia<z.length
 za:bG z ia=a
 zs:cX z ia=s
 s1:1<=s
 h0:0<=h
structure lZ(z:List (Int×Int))(a s h ia:Int)(ds:List Dr)(t u ρ:Int):Prop where
 t0:0<=t/\t<z.length
 u1:1<=u/\u<=cX z t
 r0:0<=ρ
 rt:t≠ia->ρ<h / s+1
 ra:t=ia->ρ<=h / s+1
 l6:∀i:Int,0<=i->i<z.length->i≠ia->(eu (bG z i) ds:Int)=(h / s+1 - ρ - (if dI z.length ia i<=dI z.length ia t then 1 else 0))*cX z i+(if i=t then cX z i - u else 0)
 own:(eu a ds:Int)=h+1 - ρ*s+(if t=ia then s - u else 0)
section
variable{z:List (Int×Int)}{a s h ia:Int}{ds:List Dr}{t u ρ:Int}
theorem jI.t1(W:jI z a s h ia):h / s*s<=h/\h<(h / s+1)*s:=by
 have s1:=W.s1;exact⟨Int.ediv_mul_le _ (by lia),Int.lt_ediv_add_one_mul_self _ (by lia)⟩
theorem jI.pG(W:jI z a s h ia){i:Int}(h0:0<=i)(h1:i<z.length):1<=cX z i:=(W.ok.a _ (List.mem_of_getElem? (i7 h0 h1))).2.2.1
theorem jI.wj(W:jI z a s h ia){i:Int}(h0:0<=i)(h1:i<z.length)(ne:i≠ia):1<=dI z.length ia i:=by
 have b:=wg (n:=z.length) (ia:=ia) (i:=i) (by lia)
 by_cases e:dI z.length ia i=0
 ·exact absurd (Nt ⟨h0,h1⟩ W.i0 (by rw[e,rX])) ne
 ·lia
theorem abE(kn:∀d∈ds,d.q.aY∈z.map (·.1))(h:∀i:Int,0<=i->i<z.length->eu (bG z i) ds=0):ds = []:=by
 cases ds with
 | nil=>rfl
 | cons d l =>
  obtain⟨i,h0,h1,e⟩:=abD (kn d (List.mem_cons_self ..));have:=h i h0 h1;have:0<eu (bG z i) (d::l):=DN.mpr ⟨d,List.mem_cons_self ..,e.symm⟩;lia
theorem lZ.done(g:lZ z a s h ia ds t u ρ)(W:jI z a s h ia)(kn:∀d∈ds,d.q.aY∈z.map (·.1))(et:t=ia)(er:ρ=h / s+1)(ha:eu a ds=0):ds = []:=by
 refine abE kn λi h0 h1=>?_;by_cases e:i=ia
 ·rw[e,W.za];exact ha
 ·have o:=g.l6 i h0 h1 e;have d:=W.wj h0 h1 e;rw[et,rX,if_neg (by lia),if_neg e,er,show h / s+1 - (h / s+1) - 0=0 by lia,Int.zero_mul] at o
  lia
theorem lZ.none(g:lZ z a s h ia ds t u ρ)(W:jI z a s h ia)(kn:∀d∈ds,d.q.aY∈z.map (·.1))(ha:eu a ds=0):ds = []:=by
 have o:=g.own;have T:=W.t1;have s1:=W.s1;rw[ha] at o;by_cases e:t=ia
 ·rw[if_pos e] at o;have ub:=g.u1;rw[e,W.zs] at ub;have r1:=g.ra e;refine g.done W kn e ?_ ha;have o':(0:Int)=h+1 - ρ*s+(s - u):=o;have:(h / s)*s<ρ*s:=by
   have:(h / s)*s<=h:=T.1;lia
  have:=Nr this (by lia)
  lia
 ·rw[if_neg e] at o;have r1:=g.rt e;have:ρ*s<=h / s*s:=Int.mul_le_mul_of_nonneg_right (by lia) (by lia)
  lia
theorem lZ.step(g:lZ z a s h ia ds t u ρ)(W:jI z a s h ia)(kn:∀d∈ds,d.q.aY∈z.map (·.1))(up:ds.Pairwise λa b=>a.n<b.n){t' u':Int}{d:Dr}(st:kU z ds t u t' u')(hd:d∈ds)(ln:eG (bG z t') ds=some d.n):∃DR,lZ z a s h ia (ds.filter λe=>decide (e.n≠d.n)) t' u' DR:=by
 have fh:ds≠[]:=λe=>by rw[e] at hd;cases hd
 have T:=W.t1;have s1:=W.s1;obtain⟨⟨d',kE,ea,en⟩,lst⟩:=(pD ds).2 _ ln;have e:=DQ up kE hd en;subst e;have dr:=λx:Int=>abB (a:=x) up hd;obtain⟨t0,t1⟩:=g.t0;obtain⟨u0,u1⟩:=g.u1;have nn:(1:Int)<=z.length:=by lia
 have inj:=λ{i j:Int} (hi:0<=i/\i<z.length) (hj:0<=j/\j<z.length)=>DP W.ok.nd hi hj;by_cases c:cX z t<=u\/¬ here ds (bG z t)
 ·obtain⟨nx,rfl⟩:=st.y c
  -- the turn is over
  have ue:u=cX z t:=by
   by_cases hu:u=cX z t
   ·exact hu
   ·exfalso
    rcases c with c | c
    ·lia
    ·rw[DO] at c;have c0:eu (bG z t) ds=0:=by lia
     by_cases et:t=ia
     ·rw[et,W.za] at c0;exact fh (g.none W kn c0)
     ·have o:=g.l6 t t0 t1 et;have r1:=g.rt et;rw[if_pos rfl,if_pos (Int.le_refl _),c0] at o;have:=Int.mul_nonneg (show 0<=h / s+1 - ρ - 1 by lia) (show 0<=cX z t by lia)
      lia
  have own:(eu a ds:Int)=h+1 - ρ*s:=by
   have o:=g.own;by_cases et:t=ia
   ·rw[if_pos et] at o;rw[et,W.zs] at ue;lia
   ·rw[if_neg et] at o;lia
  have l6:∀i:Int,0<=i->i<z.length->i≠ia->(eu (bG z i) ds:Int)=(h / s+1 - ρ - (if dI z.length ia i<=dI z.length ia t then 1 else 0))*cX z i:=λi h0 h1 ne=>by
   have o:=g.l6 i h0 h1 ne;by_cases ei:i=t
   ·rw[if_pos ei,ei,← ue] at o;rw[ei,← ue];lia
   ·rw[if_neg ei] at o;lia
  have pa:0<eu a ds:=by
   by_cases q:eu a ds=0
   ·exact absurd (g.none W kn q) fh
   ·lia
  have rlt:ρ<h / s+1:=Nr (s:=s) (by lia) (by lia)
  have b:=wg (n:=z.length) (ia:=ia) (i:=t) nn;have iL:0<=(t+1) % z.length/\(t+1) % z.length<z.length:=⟨Int.emod_nonneg _ (by lia),Int.emod_lt_of_pos _ (by lia)⟩
  have dn:=abC (ia:=ia) (t:=t) nn;have hr:here ds (bG z ((t+1) % z.length))->t' = (t+1) % z.length:=λhh=>by
   obtain⟨k,k1,ek,_,nk⟩:=nx.ex;by_cases k2:k=1
   ·rw[ek,k2];rfl
   ·exact absurd hh (nk 1 (Nat.le_refl _) (by lia))
  generalize (t+1) % z.length=i1 at iL dn hr;by_cases ei:i1=ia
  ·have wk:=hr (by rw[DO,ei,W.za];exact pa)
   rw[wk,ei,W.za] at ea;rw[wk,ei];rw[ei,rX] at dn;have dt:dI z.length ia t+1=z.length:=by
    by_cases q:dI z.length ia t+1=z.length
    ·exact q
    ·rw[if_neg q] at dn;lia
   refine⟨ρ+1,W.i0,⟨by lia,by rw[W.zs];lia⟩,by have:=g.r0;lia,λq=>absurd rfl q,λ_=>by lia,λi h0 h1 ne=>?_,?_⟩
   ·have o:=l6 i h0 h1 ne;have q:=dr (bG z i);rw[if_neg (λw=>ne (inj ⟨h0,h1⟩ W.i0 (by rw[W.za,← ea,w])))] at q
    have bi:=wg (n:=z.length) (ia:=ia) (i:=i) nn;rw[if_pos (by lia)] at o
    rw[rX,if_neg (by have:=W.wj h0 h1 ne;lia),if_neg ne,show h / s+1 - (ρ+1) - 0=h / s+1 - ρ - 1 by lia]
    lia
   ·have q:=dr a;rw[if_pos ea] at q;rw[if_pos rfl,Int.add_mul,Int.one_mul];lia
  ·have d1:=W.wj iL.1 iL.2 ei;have dt:dI z.length ia i1=dI z.length ia t+1:=by
    by_cases q:dI z.length ia t+1=z.length
    ·rw[if_pos q] at dn;lia
    ·rw[if_neg q] at dn;exact dn
   have o1:=l6 i1 iL.1 iL.2 ei;rw[if_neg (by lia),show h / s+1 - ρ - 0=(h / s+1 - ρ - 1)+1 by lia,Int.add_mul,Int.one_mul] at o1
   have p1:=Int.mul_nonneg (show 0<=h / s+1 - ρ - 1 by lia) (show 0<=cX z i1 by have:=W.pG iL.1 iL.2;lia)
   have pG:=W.pG iL.1 iL.2;have wk:=hr (by rw[DO];lia)
   subst wk;refine⟨ρ,iL,⟨Int.le_refl _,pG⟩,g.r0,λ_=>rlt,λq=>absurd q ei,λi h0 h1 ne=>?_,?_⟩
   ·have o:=l6 i h0 h1 ne;have q:=dr (bG z i);by_cases e2:i=t'
    ·subst e2;rw[if_pos ea] at q;rw[if_pos (Int.le_refl _),if_pos rfl];lia
    ·rw[if_neg (λw=>e2 (inj ⟨h0,h1⟩ iL (w.symm.trans ea)))] at q;have dne:dI z.length ia i≠dI z.length ia t':=λw=>e2 (Nt ⟨h0,h1⟩ iL w);rw[if_neg e2];by_cases e3:dI z.length ia i<=dI z.length ia t
     ·rw[if_pos e3] at o;rw[if_pos (by lia)]
      lia
     ·rw[if_neg e3] at o;rw[if_neg (by lia)]
      lia
   ·have q:=dr a;rw[if_neg (λw=>ei (inj iL W.i0 (by rw[W.za,← ea,w])))] at q
    rw[if_neg ei];lia
 ·obtain⟨rfl,rfl⟩:=st.n c;have cu:u<cX z t':=by
   by_cases q:u<cX z t'
   ·exact q
   ·exact absurd (.inl (by lia)) c
  refine⟨ρ,g.t0,⟨by lia,by lia⟩,g.r0,g.rt,g.ra,λi h0 h1 ne=>?_,?_⟩
  ·have o:=g.l6 i h0 h1 ne;have q:=dr (bG z i);by_cases ei:i=t'
   ·subst ei;rw[if_pos ea] at q;rw[if_pos rfl] at o ⊢;lia
   ·rw[if_neg (λw=>ei (inj ⟨h0,h1⟩ g.t0 (w.symm.trans ea)))] at q;rw[if_neg ei] at o ⊢;lia
  ·have o:=g.own;have q:=dr a;by_cases ei:t' = ia
   ·rw[ei,W.za] at ea;rw[if_pos ea] at q;rw[if_pos ei] at o ⊢;lia
   ·rw[if_neg (λw=>ei (inj g.t0 W.i0 (by rw[W.za,← ea,w])))] at q
    rw[if_neg ei] at o ⊢;lia
end
theorem emod_le{x l:Int}(hx:0<=x)(hl:0<l):x % l<=x:=by
 have:=Int.mul_ediv_add_emod x l;have:=Int.mul_nonneg (show 0<=l by lia) (Int.ediv_nonneg hx (show 0<=l by lia))
 lia
theorem read0{P:Pl}(ok:jD P){b j:Int}(b0:0<=b)(hb:b<=j*P.aq):(cW P (0,b) [(0,0)]).1=0/\(cW P (0,b) [(0,0)]).2<=(j+1)*P.aq:=by
 have l1:=ok.aq;refine⟨rfl,?_⟩
 show lM P (0,b) (0,0)+P.aq / P.rc.getD (0:Int).toNat 0<=_;have c1:P.aq / P.rc.getD (0:Int).toNat 0<=P.aq:=Int.ediv_le_self _ (by lia)
 have e:lM P (0,b) (0,0)=b+(0 - b) % P.aq:=by
  unfold lM vh C3
  show b+P.sw.getD 0 0+(_ - (b+P.sw.getD 0 0)) % P.aq=_;rw[ok.sw.z,Int.add_zero];simp
 have e2:(0 - b) % P.aq=(j*P.aq - b) % P.aq:=by
  rw[show j*P.aq - b=0 - b+j*P.aq by lia,Int.add_mul_emod_self_right]
 have:=emod_le (x:=j*P.aq - b) (l:=P.aq) (by lia) (by lia)
 rw[e,e2,Int.add_mul,Int.one_mul];lia
structure Nu(P:Pl)(z:List (Int×Int))(a s h ia:Int)(all:List Dr)(m:Nat):Prop where
 W:jI z a s h ia
 ok:jD P
 hl:∀i:Nat,i<P.rc.length->1<=P.aq / P.rc.getD i 0
 up:all.Pairwise λa b=>a.n<b.n
 ad:∀d∈all,0<=d.n/\d.n<m/\d.c = [(0,0)]/\d.q.aY∈z.map (·.1)/\(d.n<s->d.q.at_=0/\d.q.aY=a)/\(s<=d.n->d.q.at_=s*P.aq)/\(d.q.aY=a->d.n<=s+h)
 kh:∃d∈all,d.n=s+h/\d.q.aY=a
 has:∀j:Int,0<=j->j<s->∃d∈all,d.n=j
 c1:(eu a (all.filter λd=>decide (s<=d.n)):Int)=h+1
 c2:∀i:Int,0<=i->i<z.length->i≠ia->(eu (bG z i) (all.filter λd=>decide (s<=d.n)):Int)=(h / s+1)*cX z i
structure Ph1(P:Pl)(s ia:Int)(all ds:List Dr)(b t u:Int)(tk:List (Int×Int))(j:Int):Prop where
 j0:0<=j
 js:j<s
 e:ds=all.filter λd=>decide (j<=d.n)
 b:b<=j*P.aq
 s0:j=0->t=0/\u=0
 s1:1<=j->t=ia/\u=j
 q:∀q∈tk,q.1<s/\q.2<s*P.aq
structure Nv(P:Pl)(z:List (Int×Int))(a s h ia:Int)(ds:List Dr)(b t u:Int)(tk:List (Int×Int)):Prop where
 sn:∀d∈ds,s<=d.n
 g:∃ρ,lZ z a s h ia ds t u ρ
 l:(∃d∈ds,d.q.aY=a)->∃d∈ds,d.n=s+h
 q:∀q∈tk,q.1<s/\q.2<s*P.aq\/s<=q.1/\s*P.aq<=q.2/\q.2<b
structure JS(P:Pl)(z:List (Int×Int))(a s h ia:Int)(all:List Dr)(m:Nat)(ds:List Dr)(r b t u:Int)(tk:List (Int×Int)):Prop where
 jb:JB all m ds b tk
 up:ds.Pairwise λa b=>a.n<b.n
 r:r=0
 ph:(∃j,Ph1 P s ia all ds b t u tk j)\/Nv P z a s h ia ds b t u tk
 off:(¬ ∃e∈ds,e.n=s+h)->ds = []/\∃b0,(s+h,b0)∈tk/\∀q∈tk,q.1≠s+h->q.2<b0
theorem JS.along{P:Pl}{z:List (Int×Int)}{a s h ia:Int}{all:List Dr}{m:Nat}(G:Nu P z a s h ia all m):Np P z (JS P z a s h ia all m) where
 go:=λds r b t u tk b2 d t' u' J st l7 dm ln=>by
  have W:=G.W;have s1:=W.s1;have l1:=G.ok.aq;have h0:=W.h0;have b0:=J.jb.b0;have hd:=(List.mem_filter.mp dm).1;have had:=G.ad d (J.jb.sb d hd);have re:=J.r;subst re;rw[had.2.2.1];have Nx:=λ{b3:Int} (hb:0<=b3)=>J.jb.step (b2:=b2) (b3:=b3) (λd hd=>⟨(G.ad d hd).1,(G.ad d hd).2.1⟩) hd hb;have DS:=J.up.filter λe=>decide (e.n≠d.n);obtain⟨M,⟨y,hy,ey⟩,hM,eb⟩:=st;rcases J.ph with⟨j,ph⟩ | ph
  ·have j0:=ph.j0;have js:=ph.js;have bj:=ph.b;obtain⟨dj,Ny,enj⟩:=G.has j j0 js;have adj:=G.ad dj Ny;have Nz:=adj.2.2.2.2.1 (by lia)
   have NB:dj∈ds:=by rw[ph.e];exact List.mem_filter.mpr ⟨Ny,decide_eq_true (by lia)⟩
   have C0:j*P.aq+P.aq<=s*P.aq:=by
    have:=Int.mul_le_mul_of_nonneg_right (show j+1<=s by lia) (show 0<=P.aq by lia)
    rw[Int.add_mul,Int.one_mul] at this;exact this
   have e2:b2=b:=by
    have h1:=hM dj NB;have ya:=G.ad y (J.jb.sb y hy);by_cases q:y.n<s
    ·have:=(ya.2.2.2.2.1 q).1;rw[eb];split <;> lia
    ·have:=ya.2.2.2.2.2.1 (by lia)
     have:=Int.mul_nonneg (show 0<=s by lia) (show 0<=P.aq by lia)
     rw[eb];split <;> lia
   subst e2;have rd:∀e∈ds.filter (λd=>decide (d.q.at_<=b2)),e.n<s/\e.q.aY=a:=λe he=>by
    obtain⟨h1,h2⟩:=List.mem_filter.mp he;have h2:=of_decide_eq_true h2;have ea:=G.ad e (J.jb.sb e h1);by_cases q:e.n<s
    ·exact⟨q,(ea.2.2.2.2.1 q).2⟩
    ·have:=ea.2.2.2.2.2.1 (by lia)
     lia
   have NC:dj∈ds.filter (λd=>decide (d.q.at_<=b2)):=List.mem_filter.mpr ⟨NB,decide_eq_true (by lia)⟩
   have ha:here (ds.filter λd=>decide (d.q.at_<=b2)) a:=vP NC Nz.2;have tb:0<=t/\t<z.length:=by
    by_cases q:j=0
    ·have:=(ph.s0 q).1;have:=W.ok.n1;lia
    ·rw[(ph.s1 (by lia)).1];exact W.i0
   obtain⟨t0,t1,th⟩:=l7.bt W.ok tb.1 tb.2;obtain⟨⟨d',kE,DT,ND⟩,lst⟩:=(pD _).2 _ ln;have ta:bG z t' = a:=by rw[← DT];exact(rd d' kE).2
   have ti:t' = ia:=DP W.ok.nd ⟨t0,t1⟩ W.i0 (by rw[ta,W.za])
   have dn:d.n=j:=by
    have h1:=lst dj NC (by rw[ta];exact Nz.2)
    rw[ph.e] at hd;have:=of_decide_eq_true (List.mem_filter.mp hd).2;lia
   have uu:u' = j+1:=by
    by_cases q:j=0
    ·obtain⟨rfl,rfl⟩:=ph.s0 q;by_cases c:cX z 0<=0\/¬ here (ds.filter λd=>decide (d.q.at_<=b2)) (bG z 0)
     ·have:=(l7.y c).2;lia
     ·have:=(l7.n c).2;lia
    ·obtain⟨e1,e2⟩:=ph.s1 (by lia)
     have:=(l7.n (λc=>by
      rcases c with c | c
      ·rw[e1,W.zs] at c;lia
      ·rw[e1,W.za] at c;exact c ha)).2
     lia
   have r0:=read0 G.ok b0 bj;have pN:ds.filter (λe=>decide (e.n≠d.n))=all.filter λd=>decide (j+1<=d.n):=by
    rw[ph.e,List.filter_filter,dn];refine List.filter_congr λe _=>?_;rw[Bool.eq_iff_iff];simp only[Bool.and_eq_true,decide_eq_true_eq];lia
   have rY:=Nk G.ok G.hl (s:=(0,b2)) (q:=(0,0)) (Int.le_refl _) (by have:=G.ok.n2;show (0:Int)<_;lia) (Int.le_refl _) (by have:=G.ok.n2;show (0:Int)<_;lia)
   have rY:b2+1<=(cW P (0,b2) [(0,0)]).2:=rY;have tq:∀q∈tk++[(d.n,b2)],q.1<s/\q.2<s*P.aq:=λq hq=>by
    rcases List.mem_append.mp hq with hq | hq
    ·exact ph.q q hq
    ·rw[List.mem_singleton.mp hq];exact⟨by show d.n<s;lia,by show b2<_;lia⟩
   obtain⟨kd,DU,DV,NF⟩:=G.kh;have pO:kd∈ds.filter (λe=>decide (e.n≠d.n)):=by rw[pN];exact List.mem_filter.mpr ⟨DU,decide_eq_true (by lia)⟩
   refine⟨Nx (by lia),DS,r0.1,?_,λq=>absurd ⟨kd,pO,DV⟩ q⟩
   by_cases jn:j+1<s
   ·exact .inl ⟨j+1,by lia,jn,pN,r0.2,λq=>by lia,λ_=>⟨ti,uu⟩,tq⟩
   ·have je:j+1=s:=by lia
    rw[je] at pN;refine .inr ⟨λe he=>?_,⟨0,W.i0.imp (λq=>by rw[ti];exact q) (λq=>by rw[ti];exact q),⟨by lia,by rw[ti,W.zs];lia⟩,Int.le_refl _,λq=>absurd ti q,λ_=>by have:=Int.ediv_nonneg h0 (show 0<=s by lia);lia,λi i0 i1 ne=>?_,?_⟩,λ_=>⟨kd,pO,DV⟩,λq hq=>.inl (tq q hq)⟩
    ·rw[pN] at he;exact of_decide_eq_true (List.mem_filter.mp he).2
    ·rw[pN,G.c2 i i0 i1 ne,ti,rX,if_neg (by have:=W.wj i0 i1 ne;lia),if_neg ne,show h / s+1 - 0 - 0=h / s+1 by lia]
     lia
    ·rw[pN,G.c1,if_pos ti,Int.zero_mul];lia
  ·obtain⟨ρ,g⟩:=ph.g;have kn:∀d∈ds,d.q.aY∈z.map (·.1):=λd hd=>(G.ad d (J.jb.sb d hd)).2.2.2.1;have atC:∀d∈ds,d.q.at_=s*P.aq:=λd hd=>(G.ad d (J.jb.sb d hd)).2.2.2.2.2.1 (ph.sn d hd);have eM:M=s*P.aq:=by rw[← ey];exact atC y hy
   have b1:s*P.aq<=b2/\b<=b2:=by rw[eb,eM];split <;> lia
   have fl:ds.filter (λd=>decide (d.q.at_<=b2))=ds:=List.filter_eq_self.mpr λe he=>decide_eq_true (by rw[atC e he];exact b1.1)
   rw[fl] at l7 ln;obtain⟨DR,g'⟩:=g.step W kn J.up l7 hd ln;obtain⟨⟨d',kE,DT,ND⟩,lst⟩:=(pD _).2 _ ln;have ed:=DQ J.up kE hd ND;subst ed;have rY:=Nk G.ok G.hl (s:=(0,b2)) (q:=(0,0)) (Int.le_refl _) (by have:=G.ok.n2;show (0:Int)<_;lia) (Int.le_refl _) (by have:=G.ok.n2;show (0:Int)<_;lia)
   have rY:b2+1<=(cW P (0,b2) [(0,0)]).2:=rY;obtain⟨kd,DU,DV,NF⟩:=G.kh;have sub:∀e∈ds.filter (λe=>decide (e.n≠d'.n)),e∈ds/\e.n≠d'.n:=λe he=>⟨(List.mem_filter.mp he).1,of_decide_eq_true (List.mem_filter.mp he).2⟩;have gU:∃e∈ds,e.n=s+h:=Classical.byContradiction λq=>by
    rw[(J.off q).1] at hd;cases hd
   have NG:(∃e∈ds.filter (λe=>decide (e.n≠d'.n)),e.q.aY=a)->∃e∈ds.filter (λe=>decide (e.n≠d'.n)),e.n=s+h:=λ⟨e,he,ea⟩=>by
    obtain⟨e1,e2⟩:=sub e he;obtain⟨k,hk,ek⟩:=gU;by_cases q:d'.n=s+h
    ·exfalso
     have dk:=DQ G.up (J.jb.sb d' hd) DU (by lia)
     have h1:=lst e e1 (by rw[ea,← DT,dk,NF])
     have:=(G.ad e (J.jb.sb e e1)).2.2.2.2.2.2 ea;lia
    ·exact⟨k,List.mem_filter.mpr ⟨hk,decide_eq_true (by lia)⟩,ek⟩
   have tq:∀q∈tk,q.2<b2:=λq hq=>by
    rcases ph.q q hq with w | w <;> lia
   refine⟨Nx (by lia),DS,rfl,.inr ⟨λe he=>ph.sn e (sub e he).1,⟨DR,g'⟩,NG,λq hq=>?_⟩,λno=>?_⟩
   ·rcases List.mem_append.mp hq with hq | hq
    ·rcases ph.q q hq with w | w
     ·exact .inl w
     ·exact .inr ⟨w.1,w.2.1,by lia⟩
    ·rw[List.mem_singleton.mp hq];exact .inr ⟨ph.sn d' hd,b1.1,by show b2<_;lia⟩
   ·have c0:eu a (ds.filter λe=>decide (e.n≠d'.n))=0:=by
     by_cases q:eu a (ds.filter λe=>decide (e.n≠d'.n))=0
     ·exact q
     ·exact absurd (NG (DN.mp (by lia))) no
    refine⟨g'.none W (λe he=>kn e (sub e he).1) c0,b2,?_,λq hq q1=>?_⟩
    ·obtain⟨k,hk,ek⟩:=gU;have:d'.n=s+h:=Classical.byContradiction λw=>no ⟨k,List.mem_filter.mpr ⟨hk,decide_eq_true (by lia)⟩,ek⟩
     simp[this]
    ·rcases List.mem_append.mp hq with hq | hq
     ·exact tq q hq
     ·rw[List.mem_singleton.mp hq] at q1;obtain⟨k,hk,ek⟩:=gU;exact absurd (Classical.byContradiction λw=>no ⟨k,List.mem_filter.mpr ⟨hk,decide_eq_true (by lia)⟩,ek⟩) q1
structure iM(H:Hp)(l:Addr)(ts:List Addr)(qs:List Ak):Prop where
 l:H l=some (.lst (ts.map V.ref))
 n:ts.length=qs.length
 t:∀(i:Nat) (t:Addr) (q:Ak),ts[i]? = some t->qs[i]? = some q->∃e,H t=some (.tup [.str "read",.int q.first,.int q.many,.ref e,.int q.at_,.int q.aY])
theorem iM.same{H H':Hp}{l:Addr}{ts:List Addr}{qs:List Ak}(h:iM H l ts qs)(s:ah H H'):iM H' l ts qs:=⟨s _ _ h.l,h.n,λi t q e1 e2=>let ⟨e,z⟩:=h.t i t q e1 e2;⟨e,s _ _ z⟩⟩
theorem iM.last{H:Hp}{l:Addr}{ts:List Addr}{qs:List Ak}(h:iM H l ts qs)(h1:1<=qs.length):∃t q e,ez (ts.map V.ref) (-1)=some (.ref t)/\qs[qs.length - 1]? = some q/\H t=some (.tup [.str "read",.int q.first,.int q.many,.ref e,.int q.at_,.int q.aY]):=by
 have hn:=h.n;have fh:ts≠[]:=λz=>by rw[z] at hn;simp at hn;lia
 have hi:ts.length - 1<ts.length:=by lia
 have hj:qs.length - 1<qs.length:=by lia
 obtain⟨e,ht⟩:=h.t (qs.length - 1) (ts.getLast fh) qs[qs.length - 1] (by rw[← hn,List.getElem?_eq_getElem hi,List.getLast_eq_getElem]) (List.getElem?_eq_getElem hj)
 refine⟨ts.getLast fh,qs[qs.length - 1],e,?_,List.getElem?_eq_getElem hj,ht⟩;have z:ts.map V.ref=(ts.dropLast).map V.ref++[V.ref (ts.getLast fh)]:=by
  have:=congrArg (List.map V.ref) (List.dropLast_concat_getLast fh);rw[List.map_append] at this;exact this.symm
 rw[z];exact Cn _ _
theorem iM.snoc{H:Hp}{l t e:Addr}{ts:List Addr}{qs:List Ak}{q:Ak}(h:iM H l ts qs)(ht:H t=some (.tup [.str "read",.int q.first,.int q.many,.ref e,.int q.at_,.int q.aY])):iM (upd H l (.lst (ts.map V.ref++[V.ref t]))) l (ts++[t]) (qs++[q]):=by
 have hn:=h.n;have go:∀ {t':Addr} {xs:List V},H t' = some (.tup xs)->upd H l (.lst (ts.map V.ref++[V.ref t])) t' = some (.tup xs):=λ{t' xs} e=>by rw[aC (λz=>by rw[z,h.l] at e;cases e)];exact e
 refine⟨by rw[aD,List.map_append];rfl,by simp[h.n],λi t' q' e1 e2=>?_⟩
 by_cases hi:i<ts.length
 ·rw[List.getElem?_append_left hi] at e1;rw[List.getElem?_append_left (by lia)] at e2
  obtain⟨e',z⟩:=h.t i t' q' e1 e2;exact⟨e',go z⟩
 ·rw[List.getElem?_append_right (by lia)] at e1
  rw[List.getElem?_append_right (by lia),← hn] at e2
  have fO:i - ts.length=0:=by
   have:=(List.getElem?_eq_some_iff.mp e1).1;simp at this;lia
  rw[fO] at e1 e2;simp at e1 e2;subst e1 e2;exact⟨e,go ht⟩
noncomputable def abF(K:PySem.W.Frag)(CA:Addr):Sp:=λvs H Q _=>∃(t la:Addr) (ps:List Addr) (qs:List Ak) (k:Int),vs = [.ref t]/\H t=some (.tup [.ref la,.int k])/\cM K CA H la ps qs/\0<=k/\k<qs.length/\qs.length<=100/\(∀q∈qs,q.kind = "read"/\q.behind = [])/\(∀(i:Nat) (q q':Ak),qs[i]? = some q->qs[i+1]? = some q'->q.at_<=q'.at_)/\
 ∀l ts H',ah H H'->H l=none->iM H' l ts qs->Q (.ref l) H'
noncomputable def pQ(qs:List Ak)(bs:List Int)(k:Nat)(j:Nat):Bool:=match qs[k]?,qs[j]?,bs[k]?,bs[j]? with
 | some q,some q',some b,some b'=>decide (q.at_<=b'/\b' < b/\q'.aY=q.aY/\j<k)
 | _,_,_,_=>false
noncomputable def pR(qs:List Ak)(bs:List Int)(k:Nat)(j:Nat):Bool:=match qs[k]?,qs[j]?,bs[k]?,bs[j]? with
 | some q,some q',some b,some b'=>decide (q.at_<=b'/\b' < b/\q'.aY≠q.aY)
 | _,_,_,_=>false
theorem DW(f:Nat->Bool)(i:Nat):(List.range (i+1)).countP f=(List.range i).countP f+if f i=true then 1 else 0:=by
 rw[List.range_succ,List.countP_append,List.countP_singleton]
theorem NH{qs:List Ak}{bs:List Int}{k j:Nat}{q q':Ak}{b b':Int}(h1:qs[k]? = some q)(h2:qs[j]? = some q')(h3:bs[k]? = some b)(h4:bs[j]? = some b'):pQ qs bs k j=decide (q.at_<=b'/\b' < b/\q'.aY=q.aY/\j<k):=by
 unfold pQ;rw[h1,h2,h3,h4]
theorem NI{qs:List Ak}{bs:List Int}{k j:Nat}{q q':Ak}{b b':Int}(h1:qs[k]? = some q)(h2:qs[j]? = some q')(h3:bs[k]? = some b)(h4:bs[j]? = some b'):pR qs bs k j=decide (q.at_<=b'/\b' < b/\q'.aY≠q.aY):=by
 unfold pR;rw[h1,h2,h3,h4]
theorem jd{α:Type}{l:List α}{i:Nat}(h:i<l.length):∃x,l[i]? = some x:=⟨l[i],List.getElem?_eq_getElem h⟩
noncomputable def abG(K:PySem.W.Frag):Sp:=λvs H Q _=>∃(lr lt:Addr) (ts:List Addr) (qs:List Ak) (bs:List Int) (k:Nat),vs = [.ref lr,.ref lt,.int (k:Int)]/\iM H lr ts qs/\H lt=some (.lst (bs.map V.int))/\bs.length=qs.length/\qs.length<=100/\k<qs.length/\
 ∀t H',ah H H'->H' t=some (.tup [.int ((List.range qs.length).countP (pQ qs bs k):Nat),.int ((List.range qs.length).countP (pR qs bs k):Nat)])->Q (.ref t) H'
noncomputable def abH:Sp:=λvs H Q _=>∃(c:Int) (l:Addr) (ts:List Addr) (z:List (Int×Int)),vs = [.int c,.ref l]/\Zn H l ts z/\gv z/\∀l' i9 z' H',ah H H'->Zn H' l' i9 z'->z'.length<=1000->¬ gv z'->Q (.ref l') H'
noncomputable def abI(K:PySem.W.Frag)(C:Addr):Sp:=λvs H Q _=>∃(p l:Addr) (ts:List Addr) (z:List (Int×Int)) (a h:Int) (P:Pl) (fp:List Addr),vs = [.ref p,.ref l,.int a,.int h]/\bV K C H p P fp/\1<=P.aq/\P.aq<=1000000000/\Zn H l ts z/\z.length<=1000/\0<=h/\h<=3/\¬ lY z a/\∀H',ah H H'->Q (.bl true) H'
theorem DX(nc:List (Int×Int)):∀(qs:List Ak) (k:Nat),(cI nc k qs).Pairwise λa b=>a.n<b.n
 | [],k=>.nil
 | q::qs,k=>by
  refine List.Pairwise.cons (λd hd=>?_) (DX nc qs (k+1));have:=(pL nc qs (k+1) d hd).1
  show (k:Int)<d.n;lia
theorem DY(nc:List (Int×Int)):∀(qs:List Ak) (k:Nat) (d:Dr),d∈cI nc k qs->∃i:Nat,d.n=((k+i:Nat):Int)/\qs[i]? = some d.q/\d.c=dY nc d.q.first d.q.many
 | [],k,d,h=>by cases h
 | q::qs,k,d,h=>by
  rcases List.mem_cons.mp h with rfl | h
  ·exact⟨0,rfl,rfl,rfl⟩
  ·obtain⟨i,e1,e2,e3⟩:=DY nc qs (k+1) d h;exact⟨i+1,by rw[e1];congr 1;lia,e2,e3⟩
theorem NJ(nc:List (Int×Int)):∀(xs ys:List Ak) (k:Nat),cI nc k (xs++ys)=cI nc k xs++cI nc (k+xs.length) ys
 | [],ys,k=>rfl
 | q::xs,ys,k=>by
  show _::cI nc (k+1) (xs++ys)=_;rw[NJ nc xs ys (k+1)]
  show _=_::(cI nc (k+1) xs++cI nc (k+(xs.length+1)) ys);rw[show k+1+xs.length=k+(xs.length+1) by lia]
theorem DZ(nc:List (Int×Int))(x:Int):∀(qs:List Ak) (k:Nat),eu x (cI nc k qs)=qs.countP λq=>decide (q.aY=x)
 | [],k=>rfl
 | q::qs,k=>by
  have ih:=DZ nc x qs (k+1);unfold eu at *
  show List.countP _ (_::cI nc (k+1) qs)=_;rw[List.countP_cons,List.countP_cons,ih]
section
variable{aq s h a:Int}
theorem wm{z:List (Int×Int)}{p:Int×Int}:eo aq s h (p::z) a=(if p.1=a then [] else List.replicate ((h / s+1)*p.2).toNat (d9 0 (s*aq) p.1))++eo aq s h z a:=by
 unfold eo;rw[List.flatMap_cons]
theorem NK{z:List (Int×Int)}{q:Ak}(hq:q∈eo aq s h z a):∃p∈z,p.1≠a/\q=d9 0 (s*aq) p.1:=by
 unfold eo at hq;obtain⟨p,hp,h1⟩:=List.mem_flatMap.mp hq;by_cases e:p.1=a
 ·rw[if_pos e] at h1;cases h1
 ·rw[if_neg e] at h1;exact⟨p,hp,e,List.eq_of_mem_replicate h1⟩
theorem NL{x:Int}{z:List (Int×Int)}(hx:x∉z.map (·.1)\/x=a):(eo aq s h z a).countP (λq=>decide (q.aY=x))=0:=by
 rw[List.countP_eq_zero];intro q hq;obtain⟨p,hp,ne,rfl⟩:=NK hq;simp only[decide_eq_true_eq]
 show ¬ p.1=x;rcases hx with hx | rfl
 ·exact λe=>hx (e▸List.mem_map_of_mem hp)
 ·exact ne
theorem NN{x sx:Int}(hT:0<=h / s+1)(ne:x≠a):∀(z:List (Int×Int)),(z.map (·.1)).Nodup->(∀p∈z,0<=p.2)->(x,sx)∈z->((eo aq s h z a).countP (λq=>decide (q.aY=x)):Int)=(h / s+1)*sx
 | [],_,_,hm=>by cases hm
 | p::z,nd,h0,hm=>by
  rw[List.map_cons,List.nodup_cons] at nd;rw[wm,List.countP_append];rcases List.mem_cons.mp hm with rfl | hm
  ·rw[NL (.inl nd.1),if_neg ne,List.countP_replicate];have:0<=(h / s+1)*sx:=Int.mul_nonneg hT (h0 _ List.mem_cons_self);simp[d9];exact Int.max_eq_left this
  ·have ih:=NN hT ne z nd.2 (λp hp=>h0 p (List.mem_cons_of_mem _ hp)) hm;have px:¬ p.1=x:=λe=>nd.1 (e▸List.mem_map.mpr ⟨_,hm,rfl⟩);have z0:(if p.1=a then [] else List.replicate ((h / s+1)*p.2).toNat (d9 0 (s*aq) p.1)).countP (λq=>decide (q.aY=x))=0:=by
    rw[List.countP_eq_zero];intro q hq;split at hq
    ·cases hq
    ·rw[List.eq_of_mem_replicate hq];simp[d9,px]
   rw[z0];lia
theorem NO(hT:0<=h / s+1):∀(z:List (Int×Int)),(∀p∈z,0<=p.2)->a∉z.map (·.1)->((eo aq s h z a).length:Int)=(h / s+1)*(z.map (·.2)).sum
 | [],_,_=>by simp[eo]
 | p::z,h0,na=>by
  rw[List.map_cons,List.mem_cons,not_or] at na;have ih:=NO hT z (λp hp=>h0 p (List.mem_cons_of_mem _ hp)) na.2;have:=Int.mul_nonneg hT (h0 p List.mem_cons_self);rw[wm,if_neg (λe=>na.1 e.symm),List.length_append,List.length_replicate,List.map_cons,List.sum_cons,Int.mul_add];lia
theorem NP(hT:0<=h / s+1){sa:Int}:∀(z:List (Int×Int)),(z.map (·.1)).Nodup->(∀p∈z,0<=p.2)->(a,sa)∈z->((eo aq s h z a).length:Int)=(h / s+1)*((z.map (·.2)).sum - sa)
 | [],_,_,hm=>by cases hm
 | p::z,nd,h0,hm=>by
  rw[List.map_cons,List.nodup_cons] at nd;rcases List.mem_cons.mp hm with rfl | hm
  ·have:=NO (aq:=aq) hT z (λp hp=>h0 p (List.mem_cons_of_mem _ hp)) nd.1;rw[wm,if_pos rfl,List.nil_append,List.map_cons,List.sum_cons,show sa+(z.map (·.2)).sum - sa=(z.map (·.2)).sum by lia]
   exact this
  ·have ih:=NP hT z nd.2 (λp hp=>h0 p (List.mem_cons_of_mem _ hp)) hm;have px:¬ p.1=a:=λe=>nd.1 (e▸List.mem_map.mpr ⟨_,hm,rfl⟩);have:=Int.mul_nonneg hT (h0 p List.mem_cons_self);rw[wm,if_neg px,List.length_append,List.length_replicate,List.map_cons,List.sum_cons,show p.2+(z.map (·.2)).sum - sa=p.2+((z.map (·.2)).sum - sa) by lia,Int.mul_add]
   lia
end
theorem abJ{aq s h a:Int}{z:List (Int×Int)}(s0:0<=s)(h0:0<=h){i:Nat}{q:Ak}(e:(cE aq z a s h)[i]? = some q):((i:Int)<s->q=d9 0 0 a)/\(s<=i->(i:Int)<=s+h->q=d9 0 (s*aq) a)/\(s+h<i->∃p∈z,p.1≠a/\q=d9 0 (s*aq) p.1):=by
 unfold cE at e;refine⟨λh1=>?_,λh1 h2=>?_,λh1=>?_⟩
 ·rw[List.getElem?_append_left (by rw[List.length_append,List.length_replicate];lia),List.getElem?_append_left (by rw[List.length_replicate];lia)] at e
  exact List.eq_of_mem_replicate (List.mem_of_getElem? e)
 ·rw[List.getElem?_append_left (by rw[List.length_append,List.length_replicate,List.length_replicate];lia),List.getElem?_append_right (by rw[List.length_replicate];lia)] at e
  exact List.eq_of_mem_replicate (List.mem_of_getElem? e)
 ·rw[List.getElem?_append_right (by rw[List.length_append,List.length_replicate,List.length_replicate];lia)] at e
  exact NK (List.mem_of_getElem? e)
theorem rZ{aq s h a:Int}{z:List (Int×Int)}(s0:0<=s)(h0:0<=h):((cE aq z a s h).length:Int)=s+h+1+(eo aq s h z a).length:=by
 unfold cE;rw[List.length_append,List.length_append,List.length_replicate,List.length_replicate];lia
structure c_(P:Pl)(z:List (Int×Int))(a s h ia:Int):Prop where
 W:jI z a s h ia
 h3:h<=3
 ok:jD P
 hl:∀i:Nat,i<P.rc.length->1<=P.aq / P.rc.getD i 0
 c0:dY P.nc 0 1 = [(0,0)]
 nM:P.nc.length<=1000000
section
variable{P:Pl}{z:List (Int×Int)}{a s h ia:Int}
theorem c_.za(B:c_ P z a s h ia):(a,s)∈z:=by
 have:=List.mem_of_getElem? (i7 B.W.i0.1 B.W.i0.2);rwa [B.W.za,B.W.zs] at this
theorem c_.fit(B:c_ P z a s h ia):1<=P.nc.length:=by
 have e:=congrArg List.length B.c0;unfold dY at e;rw[List.length_take,List.length_drop] at e;have e:min 1 (P.nc.length - 0)=1:=e;lia
theorem c_.T0(B:c_ P z a s h ia):0<=h / s+1:=by
 have:=Int.ediv_nonneg B.W.h0 (show 0<=s by have:=B.W.s1;lia)
 lia
theorem c_.p0(B:c_ P z a s h ia):∀p∈z,0<=p.2:=λp hp=>by have:=(B.W.ok.a p hp).2.2.1;lia
theorem c_.ak(B:c_ P z a s h ia){i:Nat}{q:Ak}(e:(cE P.aq z a s h)[i]? = some q):∃c o:Int,q=d9 0 c o/\o∈z.map (·.1)/\((i:Int)<s->c=0)/\(s<=i->c=s*P.aq)/\((i:Int)<=s+h->o=a)/\(s+h<i->o≠a):=by
 have s1:=B.W.s1;have h0:=B.W.h0;obtain⟨x1,x2,x3⟩:=abJ (by lia) h0 e
 have am:a∈z.map (·.1):=List.mem_map.mpr ⟨_,B.za,rfl⟩;by_cases c1:(i:Int)<s
 ·exact⟨0,a,x1 c1,am,λ_=>rfl,λ_=>by lia,λ_=>rfl,λ_=>by lia⟩
 ·by_cases c2:(i:Int)<=s+h
  ·exact⟨s*P.aq,a,x2 (by lia) c2,am,λ_=>by lia,λ_=>rfl,λ_=>rfl,λ_=>by lia⟩
  ·obtain⟨p,hp,ne,e⟩:=x3 (by lia)
   exact⟨s*P.aq,p.1,e,List.mem_map_of_mem hp,λ_=>by lia,λ_=>rfl,λ_=>by lia,λ_=>ne⟩
theorem c_.len(B:c_ P z a s h ia):(cE P.aq z a s h).length<=100/\((cE P.aq z a s h).length:Int)=s+h+1+jH z s h:=by
 have s1:=B.W.s1;have h0:=B.W.h0;have h3:=B.h3;have n4:=B.W.ok.n4;have sa:=B.W.ok.a _ B.za;have l1:=rZ (aq:=P.aq) (z:=z) (a:=a) (show 0<=s by lia) h0
 have l2:=DL (aq:=P.aq) (a:=a) s1 h0 h3 z λp hp=>(B.W.ok.a p hp).2.2;have l3:=NP (aq:=P.aq) (a:=a) B.T0 z B.W.ok.nd B.p0 B.za;refine⟨by lia,?_⟩
 unfold jH;lia
theorem c_.rd(B:c_ P z a s h ia):∀q∈cE P.aq z a s h,v_ P q:=λq hq=>by
 obtain⟨i,hi,rfl⟩:=List.getElem_of_mem hq;obtain⟨c,o,e,_⟩:=B.ak (List.getElem?_eq_getElem hi);have n2:=B.ok.n2;rw[e];exact⟨rfl,rfl,rfl,by show (0:Int)<=0;decide,by show (0:Int)<=1000000;decide,by show (1:Int)<=1;decide,by show (1:Int)<=16;decide,by show rF P (dY P.nc 0 1);rw[B.c0];intro q hq;rw[List.mem_singleton.mp hq];exact⟨by decide,by show (0:Int)<_;lia,by decide,by decide⟩,by show (dY P.nc 0 1).length=1;rw[B.c0];rfl⟩
theorem c_.sorted(B:c_ P z a s h ia):∀(i:Nat) (q q':Ak),(cE P.aq z a s h)[i]? = some q->(cE P.aq z a s h)[i+1]? = some q'->q.at_<=q'.at_:=λi q q' e e'=>by
 obtain⟨c,o,rfl,_,h1,h2,_⟩:=B.ak e;obtain⟨c',o',rfl,_,vI,NQ,_⟩:=B.ak e'
 show c<=c';have:=Int.mul_nonneg (show 0<=s by have:=B.W.s1;lia) (show 0<=P.aq by have:=B.ok.aq;lia)
 by_cases q:(i:Int)<s
 ·rw[h1 q];by_cases q2:((i+1:Nat):Int)<s
  ·rw[vI q2];exact Int.le_refl _
  ·rw[NQ (by lia)];exact this
 ·rw[h2 (by lia),NQ (by lia)];exact Int.le_refl _
theorem c_.aks(B:c_ P z a s h ia):vH P.nc.length (cE P.aq z a s h):=by
 have hf:=B.fit;refine⟨B.len.1,λi q e=>?_,B.sorted,λk q e n hn=>?_⟩
 ·obtain⟨c,o,rfl,_⟩:=B.ak e;exact⟨⟨by show (0:Int)<=0;decide,by show (0:Int)<=1;decide,by show (1:Int)<=16;decide,by show (0:Int)+1<=_;lia⟩,by show 0<=1000;decide⟩
 ·obtain⟨c,o,rfl,_⟩:=B.ak e;cases hn
theorem c_.aY(B:c_ P z a s h ia):∀q∈cE P.aq z a s h,q.aY∈z.map (·.1):=λq hq=>by
 obtain⟨i,hi,rfl⟩:=List.getElem_of_mem hq;obtain⟨c,o,e,h1,_⟩:=B.ak (List.getElem?_eq_getElem hi);rw[e];exact h1
theorem c_.later(B:c_ P z a s h ia):(cI P.nc 0 (cE P.aq z a s h)).filter (λd=>decide (s<=d.n))=cI P.nc s.toNat (List.replicate (h+1).toNat (d9 0 (s*P.aq) a)++eo P.aq s h z a):=by
 have s1:=B.W.s1;unfold cE;rw[List.append_assoc,NJ,List.filter_append,List.length_replicate,Nat.zero_add,List.filter_eq_nil_iff.mpr (λd hd=>?_),List.nil_append,List.filter_eq_self.mpr (λd hd=>?_)]
 ·have:=(pL _ _ _ _ hd).1;exact decide_eq_true (by lia)
 ·have:=(pL _ _ _ _ hd).2;rw[List.length_replicate] at this;simp only[decide_eq_true_eq];lia
theorem c_.all(B:c_ P z a s h ia):Nu P z a s h ia (cI P.nc 0 (cE P.aq z a s h)) (cE P.aq z a s h).length where
 W:=B.W
 ok:=B.ok
 hl:=B.hl
 up:=DX _ _ _
 ad:=λd hd=>by
  obtain⟨i,e1,e2,e3⟩:=DY _ _ _ _ hd;obtain⟨c,o,e,h1,h2,h3,h4,h5⟩:=B.ak e2;have hi:=(List.getElem?_eq_some_iff.mp e2).1;rw[Nat.zero_add] at e1;refine⟨by lia,by lia,?_,?_,λq=>⟨?_,?_⟩,λq=>?_,λq=>?_⟩
  ·rw[e3,e];exact B.c0
  ·rw[e];exact h1
  ·rw[e];exact h2 (by lia)
  ·rw[e];exact h4 (by have:=B.W.h0;lia)
  ·rw[e];exact h3 (by lia)
  ·by_cases w:s+h<d.n
   ·rw[e] at q;exact absurd q (h5 (by lia))
   ·lia
 kh:=by
  have l:=B.len.2;have s1:=B.W.s1;have h0:=B.W.h0;have l1:=rZ (aq:=P.aq) (z:=z) (a:=a) (show 0<=s by lia) h0
  obtain⟨d,hd,e⟩:=rT P.nc (cE P.aq z a s h) 0 (s+h).toNat (by lia)
  rw[Nat.zero_add] at e;refine⟨d,hd,by lia,?_⟩
  obtain⟨i,e1,e2,e3⟩:=DY _ _ _ _ hd;obtain⟨c,o,e4,_,_,_,h4,_⟩:=B.ak e2;rw[e4];exact h4 (by lia)
 has:=λj j0 js=>by
  have s1:=B.W.s1;have h0:=B.W.h0;have l1:=rZ (aq:=P.aq) (z:=z) (a:=a) (show 0<=s by lia) h0
  obtain⟨d,hd,e⟩:=rT P.nc (cE P.aq z a s h) 0 j.toNat (by lia)
  exact⟨d,hd,by lia⟩
 c1:=by
  have h0:=B.W.h0;rw[B.later,DZ,List.countP_append,NL (.inr rfl),List.countP_replicate];simp[d9];lia
 c2:=λi i0 i1 ne=>by
  have xa:bG z i≠a:=λe=>ne (DP B.W.ok.nd ⟨i0,i1⟩ B.W.i0 (by rw[e,B.W.za]))
  have o:=NN (aq:=P.aq) (a:=a) B.T0 xa z B.W.ok.nd B.p0 (List.mem_of_getElem? (i7 i0 i1));rw[B.later,DZ,List.countP_append,List.countP_replicate,if_neg (show ¬ decide ((d9 0 (s*P.aq) a).aY=bG z i)=true from λe=>xa (show a=bG z i from of_decide_eq_true e).symm)];lia
theorem c_.start(B:c_ P z a s h ia):JS P z a s h ia (cI P.nc 0 (cE P.aq z a s h)) (cE P.aq z a s h).length (cI P.nc 0 (cE P.aq z a s h)) 0 0 0 0 []:=by
 have s1:=B.W.s1;obtain⟨d,hd,e,_⟩:=B.all.kh;refine⟨JB.start,DX _ _ _,rfl,.inl ⟨0,Int.le_refl _,by lia,(List.filter_eq_self.mpr λd hd=>decide_eq_true (B.all.ad d hd).1).symm,by rw[Int.zero_mul];exact Int.le_refl _,λ_=>⟨rfl,rfl⟩,λq=>by lia,λq hq=>by(cases hq)⟩,λq=>absurd ⟨d,hd,e⟩ q⟩
theorem D0(lo hi:Nat):∀m:Nat,(List.range m).countP (λj=>decide (lo<=j/\j<hi))=min hi m - min lo m
 | 0=>by simp
 | m+1=>by
  rw[DW,D0 lo hi m];by_cases c:lo<=m/\m<hi
  ·rw[if_pos (decide_eq_true c)];lia
  ·rw[if_neg (λq=>c (of_decide_eq_true q))];lia
theorem JS.ends(B:c_ P z a s h ia){r b t u:Int}{tk:List (Int×Int)}(J:JS P z a s h ia (cI P.nc 0 (cE P.aq z a s h)) (cE P.aq z a s h).length [] r b t u tk):∃bs:List Int,cJ (cE P.aq z a s h).length tk=bs.map V.int/\bs.length=(cE P.aq z a s h).length/\((List.range (cE P.aq z a s h).length).countP (pQ (cE P.aq z a s h) bs (s+h).toNat):Int)=h/\((List.range (cE P.aq z a s h).length).countP (pR (cE P.aq z a s h) bs (s+h).toNat):Int)=jH z s h:=by
 have s1:=B.W.s1;have h0:=B.W.h0;obtain⟨bs,e1,e2,e3⟩:=J.jb.ends;have l1:=rZ (aq:=P.aq) (z:=z) (a:=a) (show 0<=s by lia) h0
 have l2:=B.len.2;have ph:Nv P z a s h ia [] b t u tk:=by
  rcases J.ph with⟨j,ph⟩ | ph
  ·exfalso
   obtain⟨d,hd,e⟩:=B.all.has j ph.j0 ph.js;have:d∈([]:List Dr):=by rw[ph.e];exact List.mem_filter.mpr ⟨hd,decide_eq_true (by lia)⟩
   cases this
  ·exact ph
 obtain⟨_,b0,hb,bU⟩:=J.off (λ⟨e,he,_⟩=>by cases he)
 have hk:(s+h).toNat<bs.length:=by lia
 obtain⟨bk,ek⟩:=jd hk;have bke:bk=b0:=by
  have m:=e3 _ _ ek;rw[show (((s+h).toNat:Nat):Int)=s+h by lia] at m
  have x:=DJ J.jb.nd J.jb.bd m;have y:=DJ J.jb.nd J.jb.bd hb;rw[show ((s+h,bk):Int×Int).1=((s+h,b0):Int×Int).1 from rfl,y] at x;cases x;rfl
 obtain⟨qk,j9⟩:=jd (show (s+h).toNat<(cE P.aq z a s h).length by lia)
 obtain⟨ck,ok,rfl,_,k1,k2,k3,_⟩:=B.ak j9;have k2:=k2 (by lia)
 have k3:=(k3 (by lia)).symm
 subst k2;subst k3;have facts:∀j:Nat,j<(cE P.aq z a s h).length->∃c o bj,(cE P.aq z a s h)[j]? = some (d9 0 c o)/\bs[j]? = some bj/\((j:Int)<s->bj<s*P.aq)/\(s<=j->s*P.aq<=bj)/\((j:Int)≠s+h->bj<bk)/\((j:Int)<=s+h->o=a)/\(s+h<j->o≠a):=λj hj=>by
  obtain⟨q,eq⟩:=jd hj;obtain⟨bj,ej⟩:=jd (show j<bs.length by lia)
  obtain⟨c,o,rfl,_,g1,g2,g3,g4⟩:=B.ak eq;have m:=e3 _ _ ej;refine⟨c,o,bj,eq,ej,λw=>?_,λw=>?_,λw=>?_,g3,g4⟩
  ·rcases ph.q _ m with v | v
   ·exact v.2
   ·have v1:s<=(j:Int):=v.1;lia
  ·rcases ph.q _ m with v | v
   ·have v1:(j:Int)<s:=v.1;lia
   ·exact v.2.1
  ·rw[bke];exact bU _ m w
 refine⟨bs,e1,e2,?_,?_⟩
 ·rw[List.countP_congr (q:=λj=>decide (s.toNat<=j/\j<(s+h).toNat)) λj hj=>?_,D0]
  ·lia
  ·obtain⟨c,o,bj,f1,f2,f3,f4,f5,f6,f7⟩:=facts j (List.mem_range.mp hj);rw[NH j9 f1 ek f2];simp only[decide_eq_true_eq]
   show (s*P.aq<=bj/\bj<bk/\o=a/\j<(s+h).toNat)↔_;constructor
   ·intro q;refine⟨?_,q.2.2.2⟩;by_cases w:(j:Int)<s
    ·have:=f3 w;lia
    ·lia
   ·intro q;exact⟨f4 (by lia),f5 (by lia),f6 (by lia),q.2⟩
 ·rw[List.countP_congr (q:=λj=>decide ((s+h).toNat+1<=j/\j<(cE P.aq z a s h).length)) λj hj=>?_,D0]
  ·lia
  ·have hj:=List.mem_range.mp hj;obtain⟨c,o,bj,f1,f2,f3,f4,f5,f6,f7⟩:=facts j hj;rw[NI j9 f1 ek f2];simp only[decide_eq_true_eq]
   show (s*P.aq<=bj/\bj<bk/\o≠a)↔_;constructor
   ·intro q;refine⟨?_,hj⟩;by_cases w:(j:Int)<=s+h
    ·exact absurd (f6 w) q.2.2
    ·lia
   ·intro q;exact⟨f4 (by lia),f5 (by lia),f7 (by lia)⟩
end
noncomputable def dB(H H':Hp):Prop:=∀b o,H b=some o->(∀ps,o≠.gQ ps)->H' b=some o
section
variable{K:PySem.W.Frag}{H H1 H2:Hp}
theorem dB.of(s:ah H H1):dB H H1:=λ_ _ e _=>s _ _ e
theorem dB.trans(s:dB H H1)(t:dB H1 H2):dB H H2:=λ_ _ e n=>t _ _ (s _ _ e n) n
theorem dB.rule{ru:Addr}(s:ah H H1)(k:d_ ru H1 H2)(n:H ru=none):dB H H2:=λ_ _ e z=>k _ _ (s _ _ e) (λq=>by rw[q,n] at e;cases e) z
theorem dB.lst(k:dB H H1){a:Addr}{xs:List V}(e:H a=some (.lst xs)):H1 a=some (.lst xs):=k _ _ e (λ_ z=>nomatch z)
theorem dB.tup(k:dB H H1){a:Addr}{xs:List V}(e:H a=some (.tup xs)):H1 a=some (.tup xs):=k _ _ e (λ_ z=>nomatch z)
theorem dB.seq(k:dB H H1){a:Addr}{xs:List V}(h:aE K H a xs):aE K H1 a xs:=by
 rcases h with(h | ⟨o,h⟩) | h
 ·exact .inl (.inl (k.lst h))
 ·exact .inl (.inr ⟨o,k _ _ h (λ_ z=>nomatch z)⟩)
 ·exact .inr h
theorem dB.zn(k:dB H H1){l:Addr}{ts:List Addr}{z:List (Int×Int)}(h:Zn H l ts z):Zn H1 l ts z:=⟨k.lst h.l,h.n,λi t p e1 e2=>k.tup (h.t i t p e1 e2)⟩
theorem dB.rw(k:dB H H1){l:Addr}{ts:List Addr}{qs:List Ak}(h:iM H l ts qs):iM H1 l ts qs:=⟨k.lst h.l,h.n,λi t q e1 e2=>by
 obtain⟨e,z⟩:=h.t i t q e1 e2;exact⟨e,k.tup z⟩⟩
theorem dB.vY(k:dB H H1){C a:Addr}{P:Pl}{fp:List Addr}(e:bV K C H a P fp):bV K C H1 a P fp:=by
 obtain⟨dG,a1,a2,a3,a4,ts,fs,e,g⟩:=e;exact⟨dG,a1,a2,a3,a4,ts,fs,e,{ g with o:=k _ _ g.o (λ_ z=>nomatch z),rc:=k.lst g.rc,sw:=k.lst g.sw,nc:=k.zn g.nc,cn:=k _ _ g.cn (λ_ z=>nomatch z)}⟩
end
theorem NR{z:List (Int×Int)}(ok:gv z){a s s':Int}(h1:(a,s)∈z)(h2:(a,s')∈z):s=s':=by
 obtain⟨i,hi,e1⟩:=List.getElem_of_mem h1;obtain⟨j,hj,e2⟩:=List.getElem_of_mem h2;have f1:(z.map (·.1))[i]? = some a:=by rw[List.getElem?_map,List.getElem?_eq_getElem hi,e1];rfl
 have f2:(z.map (·.1))[j]? = some a:=by rw[List.getElem?_map,List.getElem?_eq_getElem hj,e2];rfl
 have:=(List.getElem?_inj (i:=i) (j:=j) (by rw[List.length_map];exact hi) ok.nd).mp (f1.trans f2.symm)
 subst this;rw[e1] at e2;cases e2;rfl
theorem lT.sb{z:List (Int×Int)}{aq sk:Int}{sw:List Int}(wo:lT z aq sk sw){sh:List (Int×Int)}{h ia:Int}(ok:gv sh)(h0:0<=h)(h3:h<=3)(i0:0<=ia/\ia<sh.length):c_ (lX z aq sk sw) sh (bG sh ia) (cX sh ia) h ia:=by
 obtain⟨n,b⟩:=wo.bnd (most:=2) (by decide) (by decide)
 exact⟨⟨ok,i0,rfl,rfl,(ok.a _ (List.mem_of_getElem? (i7 i0.1 i0.2))).2.2.1,h0⟩,h3,b.ok,b.hl,b.c0,b.nM⟩
end _L
namespace _W
open PySem _L PyProof.Rows
theorem sc1{i j:Int}:jU (.int i) (.int j)=true:=rfl
theorem sc2{i j:Str}:jU (.str i) (.str j)=true:=rfl
theorem sc3{i j:Bool}:jU (.bl i) (.bl j)=true:=rfl
theorem sc4: jU (.aJ) (.aJ)=true:=rfl
theorem sc5{i:Int}:jU (.aJ) (.int i)=true:=rfl
theorem sc6{i:Int}:jU (.int i) (.aJ)=true:=rfl
theorem sc7{i:Str}:jU (.aJ) (.str i)=true:=rfl
theorem sc8{i:Str}:jU (.str i) (.aJ)=true:=rfl
local macro_rules | `(tactic| wp_walk using $ts,*)=>do
 let a ← ("ag4 ag5 agD ag3 ag2 Z8 agC Lk ag7 agH MO ag6 agZ agE abt agX agY Zj ZJ ZI Zy Mr agV YL fQ agR agQ agG LV uK agF agI V3 aai ag1 WD WC WB WN WK and_assoc Vo HO.ins.injEq CU fM fZ String.reduceBEq List.lookup_cons List.lookup_nil aD HO.lst.injEq HO.dT.injEq HO.tup.injEq String.reduceEq false_and or_false false_or kM Xi Xh Xe Xb Xc Xd agJ Bool.not_eq_true' decide_eq_false_iff_not Classical.not_not VN if_false_left if_false_right XI VH iF List.length_map List.getElem?_nil Kc ur lD Kg BZ B0 VO J6 tC ux lF rI VW rU Ce tB Ke VM agA Kd KS Wt Ci Cj VL VB VC VD VE agz VF Wv Wu WQ uL WT WU WW WX K0 K1 V0 V1 sc1 sc2 sc3 sc4 sc5 sc6 sc7 sc8 Cb VX VY KC Wn KH Wx _L.start agN agO agP List.map_cons List.map_nil List.cons_append List.nil_append List.append_nil List.length_cons List.length_nil List.getElem?_cons_zero List.getElem?_cons_succ Option.some.injEq exists_eq_left exists_eq_left' exists_and_left exists_eq V.int.injEq V.ref.injEq V.bl.injEq V.ty.injEq V.str.injEq List.cons.injEq and_true true_and List.set_cons_zero List.set_cons_succ decide_eq_true_eq Nat.reduceSub Nat.reduceAdd List.replicate_succ List.replicate_zero List.replicate Int.reduceLT Int.reduceLE Int.reducePow Int.reduceToNat Int.reduceNeg Nat.reduceLT Nat.reduceLeDiff Nat.reducePow Int.reduceMul Int.reduceAdd Int.reduceSub and_self or_true true_or gt_iff_lt ge_iff_le if_true if_false Bool.false_eq_true reduceIte Nat.sub_self Nat.sub_zero".splitOn " ").toArray.mapM λx => `(Lean.Parser.Tactic.simpLemma| $(Lean.mkIdent x.toName):ident)
 let d:Array (Lean.TSyntax `term):=("T.kg T.ki T.mh T.QA T.kY T.QF T.tu T.GG T.GH T.GI T.nW T.z7 T.GJ T.tD T.GK T.GL T.tE T.tF T.z8 T.z9 T.z_ T.Aa T.Ab T.Ac T.GN T.GO T.Ad T.GP T.GQ T.Ae T.tG T.Af T.GR T.Ag T.GS T.GU T.GV".splitOn " ").toArray.map λx=>⟨Lean.mkIdent x.toName⟩
 let b ← (ts.getElems.flatMap λt=>if t.raw.getId == `T then d else #[t]).mapM λt => `(Lean.Parser.Tactic.simpLemma| $t:term)
 let c:=a++b
 `(tactic| simp (maxSteps:=4000000) only[$c,*])
local macro_rules | `(tactic| walk_at "rdm") => `(tactic| wp_walk using and_self)
seal fz PS PE PT PW PA PG oK PI PK PC PO oX
noncomputable def top(i:Nat):Stmt:=PySem.Challenge.pw_armswing_k56_shares_come_to_it.main.body.getD i (.Pass ⟨0,0,0,0⟩)
noncomputable abbrev D3:Stmt:=inClass (top 19) 0
noncomputable abbrev D4:Stmt:=top 20
noncomputable abbrev D5:Stmt:=top 21
noncomputable abbrev D7:Stmt:=top 22
noncomputable abbrev D8:Stmt:=top 23
noncomputable abbrev jf:Stmt:=top 24
noncomputable abbrev D9:Stmt:=top 25
noncomputable abbrev D_:Stmt:=top 27
noncomputable abbrev Ea:Stmt:=top 28
noncomputable abbrev Eb:Stmt:=top 36
noncomputable abbrev Ec:Stmt:=top 37
noncomputable abbrev Ef:Stmt:=inClass (top 38) 0
noncomputable abbrev Eg:Stmt:=inClass (top 38) 1
noncomputable abbrev Eh:Stmt:=inClass (top 38) 2
noncomputable abbrev Ei:Stmt:=inClass (top 38) 3
noncomputable abbrev Ej:Stmt:=inClass (top 38) 4
noncomputable abbrev Ek:Stmt:=top 40
noncomputable abbrev El:Stmt:=top 41
noncomputable abbrev Em:Stmt:=top 42
noncomputable abbrev En:Stmt:=top 43
noncomputable abbrev Eo:Stmt:=top 44
noncomputable abbrev Ep:Stmt:=top 52
noncomputable abbrev Er:Stmt:=top 53
noncomputable abbrev Es:Stmt:=top 54
noncomputable abbrev Et:Stmt:=top 55
noncomputable abbrev Eu:Stmt:=top 56
noncomputable abbrev Ew:Stmt:=top 57
noncomputable abbrev Ex:Stmt:=top 58
noncomputable abbrev Ey:Stmt:=inClass (top 59) 0
noncomputable abbrev Ez:Stmt:=inClass (top 59) 1
noncomputable abbrev EA:Stmt:=inClass (top 59) 4
noncomputable abbrev EB:Stmt:=inClass (top 59) 5
noncomputable abbrev EC:Stmt:=inClass (top 59) 6
noncomputable abbrev ED:Stmt:=inClass (top 59) 7
noncomputable abbrev EE:Stmt:=inClass (top 59) 9
noncomputable abbrev EF:Stmt:=top 61
noncomputable abbrev EG:Stmt:=top 62
noncomputable abbrev EH:Stmt:=inClass (top 63) 0
noncomputable abbrev EI:Stmt:=top 64
noncomputable abbrev EJ:Stmt:=top 65
noncomputable abbrev EK:Stmt:=top 66
noncomputable abbrev EL:Stmt:=top 67
noncomputable abbrev EM:Stmt:=inClass (top 69) 0
noncomputable abbrev EN:Stmt:=inClass (top 69) 1
noncomputable abbrev EO:Stmt:=inClass (top 69) 2
noncomputable abbrev ER:Stmt:=inClass (top 69) 3
noncomputable abbrev ES:Stmt:=inClass (top 69) 4
noncomputable abbrev ET:Stmt:=inClass (top 71) 0
noncomputable abbrev EU:Stmt:=top 72
noncomputable abbrev EV:Stmt:=top 73
noncomputable abbrev EW:Stmt:=top 74
noncomputable abbrev EX:Stmt:=top 75
noncomputable abbrev jg:Stmt:=top 76
noncomputable abbrev EY:Stmt:=top 78
noncomputable abbrev EZ:Stmt:=top 79
noncomputable abbrev E1:Stmt:=top 80
noncomputable abbrev E3:Stmt:=top 81
noncomputable abbrev E4:Stmt:=top 82
noncomputable abbrev E5:Stmt:=top 83
noncomputable abbrev E6:Stmt:=top 84
noncomputable abbrev E7:Stmt:=top 85
noncomputable abbrev E8:Stmt:=top 86
noncomputable abbrev E9:Stmt:=top 87
noncomputable abbrev E_:Stmt:=top 88
noncomputable abbrev jh:Stmt:=top 89
theorem abK:aX ["self", "kind", "first", "many", "marks", "at", "asker", "latest", "behind", "early"] ["self", "kind", "first", "many", "marks", "at", "asker", "latest", "behind", "early"] (aN D3):=bg
theorem abL:aX ["number", "least", "greatest", "words"] ["number", "least", "greatest", "words"] (aN D4):=bg
theorem wu:aX ["behind", "ahead", "number"] ["behind"] (aN D5):=bg
theorem abM:aX ["first", "many", "at", "asker", "latest", "behind"] ["first", "many", "at", "asker", "latest", "behind"] (aN D7):=bg
theorem abN:aX ["behind"] ["behind"] (aN D8):=bg
theorem NS:aX ["first", "many", "at", "asker", "latest", "behind", "others"] ["first", "many", "at", "asker", "latest", "behind"] (aN jf):=bg
theorem abO:aX ["one", "other"] ["one", "other"] (aN D9):=bg
theorem abP:aX ["plate", "ring", "place", "beat"] ["plate", "ring", "place", "beat"] (aN D_):=bg
theorem nN:aX ["plate", "ring", "beat", "cells", "rows", "other", "place", "begun"] ["plate", "ring", "beat", "cells"] (aN Ea):=bg
theorem wz:aX ["shares", "askers", "asker", "share"] ["shares"] (aN Eb):=bg
theorem wA:aX ["dues", "least", "due", "number"] ["dues"] (aN Ec):=bg
theorem abQ:aX ["self", "shares"] ["self", "shares"] (aN Ef):=bg
theorem abR:aX ["self"] ["self"] (aN Eg):=bg
theorem Fb:aX ["self", "plate", "ring", "beat", "dues", "least", "pair"] ["self", "plate", "ring", "beat", "dues"] (aN Eh):=bg
theorem Fc:aX ["self", "least", "known", "asker"] ["self", "least"] (aN Ei):=bg
theorem Fd:aX ["self", "least", "turn"] ["self", "least"] (aN Ej):=bg
theorem abS:aX ["count", "at", "asker"] ["count", "at", "asker"] (aN Ek):=bg
theorem Fe:aX ["shares", "asker", "other", "share"] ["shares", "asker"] (aN El):=bg
theorem abT:aX ["share", "ahead"] ["share", "ahead"] (aN Em):=bg
theorem Ff:aX ["shares", "asker", "ahead", "own", "in_all"] ["shares", "asker", "ahead"] (aN En):=bg
theorem pS:aX ["plate", "shares", "asker", "ahead", "own", "coming", "asks", "other", "share"] ["plate", "shares", "asker", "ahead"] (aN Eo):=bg
theorem wB:aX ["zones", "rings", "cells", "in_all"] ["zones"] (aN Ep):=bg
theorem Fg:aX ["zones", "lap", "skew", "rings", "cells"] ["zones", "lap", "skew"] (aN Er):=bg
theorem NT:aX ["swing", "rings", "far"] ["swing", "rings"] (aN Es):=bg
theorem Fi:aX ["swing", "far", "part"] ["swing"] (aN Et):=bg
theorem wC:aX ["zones", "counts", "rings", "cells"] ["zones"] (aN Eu):=bg
theorem r9:aX ["ring_cells", "spares", "cells", "ring", "count", "place"] ["ring_cells", "spares"] (aN Ew):=bg
theorem wD:aX ["number_cells", "numbers", "number", "cell"] ["number_cells"] (aN Ex):=bg
theorem abU:aX ["self", "zones", "lap", "skew", "swing"] ["self", "zones", "lap", "skew", "swing"] (aN Ey):=bg
theorem abV:aX ["self"] ["self"] (aN Ez):=bg
theorem abW:aX ["self", "ring"] ["self", "ring"] (aN EA):=bg
theorem abX:aX ["self"] ["self"] (aN EB):=bg
theorem abY:aX ["self", "ring", "place"] ["self", "ring", "place"] (aN EC):=bg
theorem abZ:aX ["self", "ring", "other"] ["self", "ring", "other"] (aN ED):=bg
theorem ab0:aX ["self", "number"] ["self", "number"] (aN EE):=bg
theorem ab1:aX ["plate", "ask"] ["plate", "ask"] (aN EF):=bg
theorem ab3:aX ["plate", "number", "ask", "e"] ["plate", "number", "ask"] (aN EG):=bg
theorem ab4:aX ["self", "plate", "number", "ask"] ["self", "plate", "number", "ask"] (aN EH):=bg
theorem ab5:aX ["asks", "number"] ["asks", "number"] (aN EI):=bg
theorem NU:aX ["asks", "number", "other"] ["asks", "number"] (aN EJ):=bg
theorem NV:aX ["asks", "number", "ask"] ["asks", "number"] (aN EK):=bg
theorem wF:aX ["plate", "asks", "kept", "number", "ask"] ["plate", "asks"] (aN EL):=bg
theorem Fj:aX ["self", "plate", "asks", "ring", "number", "ask"] ["self", "plate", "asks", "ring"] (aN EM):=bg
theorem NW:aX ["self", "comings"] ["self"] (aN EN):=bg
theorem ab6:aX ["self", "number"] ["self", "number"] (aN EO):=bg
theorem NY:aX ["self", "come"] ["self"] (aN ER):=bg
theorem Fo:aX ["self", "number", "due", "rows"] ["self", "number"] (aN ES):=bg
theorem ab7:aX ["self", "rows", "taken", "told", "answers", "end"] ["self", "rows", "taken", "told", "answers", "end"] (aN ET):=bg
theorem nO:aX ["rows", "ends", "number", "ring", "place", "begun", "ended"] ["rows"] (aN EU):=bg
theorem ab8:aX ["ask"] ["ask"] (aN EV):=bg
theorem r_:aX ["asks", "picks", "answers", "marks", "number", "ask"] ["asks", "picks"] (aN EW):=bg
theorem pT:aX ["asks", "ends", "shelf", "told", "early_ends", "shelf_ends", "number", "ask"] ["asks", "ends", "shelf"] (aN EX):=bg
theorem kW:aX ["plate", "asks", "rule", "ring", "shelf", "course", "rows", "picks", "taken", "dues", "number", "ends", "end"] ["plate", "asks", "rule", "ring", "shelf"] (aN jg):=bg
theorem ab9:aX ["_law_script", "_law_k"] ["_law_script", "_law_k"] (aN EY):=bg
theorem ab_:aX ["_law_cell_here", "_law_turn", "_law_many"] ["_law_cell_here", "_law_turn", "_law_many"] (aN EZ):=bg
theorem se:aX ["_law_cell_here", "_law_rings", "_law_step", "_law_swing_here", "_law_k"] ["_law_cell_here", "_law_rings"] (aN E1):=bg
theorem wG:aX ["_law_cell_here", "_law_zones_here", "_law_k"] ["_law_cell_here"] (aN E3):=bg
theorem iN:aX ["_law_script", "_law_zones_here", "_law_cell_here", "_law_product", "_law_counts", "_law_many", "_law_cells", "_law_lap", "_law_skew", "_law_swing_here"] ["_law_script"] (aN E4):=bg
theorem wH:aX ["_law_cell_here", "_law_first", "_law_leap", "_law_more"] ["_law_cell_here"] (aN E5):=bg
theorem NZ:aX ["_law_e", "_law_other"] ["_law_e"] (aN E6):=bg
theorem pU:aX ["_law_row", "_law_taken", "_law_k", "_law_own", "_law_others", "_law_j"] ["_law_row", "_law_taken", "_law_k"] (aN E7):=bg
theorem wI:aX ["_law_plate", "_law_shares", "_law_asker", "_law_ahead", "_law_bad_here", "_law_k", "_law_e"] ["_law_plate", "_law_shares", "_law_asker", "_law_ahead"] (aN E8):=bg
theorem wJ:aX ["_law_cell_here", "_law_shares", "_law_at", "_law_some", "_law_lists"] ["_law_cell_here", "_law_shares"] (aN E9):=bg
theorem Fp:aX ["_law_found", "_law_row", "_law_ask"] ["_law_found"] (aN E_):=bg
theorem gw:aX ["_law_script", "_law_plate", "_law_askers_here", "_law_shares", "_law_turn", "_law_cell_here", "_law_asker", "_law_own", "_law_ahead", "_law_whole", "_law_handed", "_law_bound", "_law_found", "_law_row", "_law_taken", "_law_stranger"] ["_law_script"] (aN jh):=bg
set_option genInjectivity false
set_option genSizeOf false
structure j_ where
 wK:Addr
 wL:FuncData
 wM:Addr
 wN:FuncData
 wO:Addr
 wQ:FuncData
 wR:Addr
 wU:FuncData
 wV:Addr
 wW:FuncData
 wX:Addr
 wY:FuncData
 acd:Tok
 wZ:Addr
 w6:FuncData
 w_:Addr
 xg:FuncData
 xh:Addr
 xj:FuncData
 xm:Addr
 xq:FuncData
 xr:Addr
 xu:FuncData
 xw:Addr
 xy:FuncData
 xA:Addr
 xB:FuncData
 xC:Addr
 xE:FuncData
 xF:Addr
 xG:FuncData
 xH:Addr
 xJ:FuncData
 xK:Addr
 xM:FuncData
 xN:Addr
 xO:FuncData
 xP:Addr
 xQ:FuncData
 xR:Addr
 xS:FuncData
 xT:Addr
 xU:FuncData
 xV:Addr
 xW:FuncData
 xX:Addr
 xY:FuncData
 xZ:Addr
 x6:FuncData
 x8:Addr
 x9:FuncData
 x_:Addr
 yc:FuncData
 yd:Addr
 yf:FuncData
 yg:Addr
 yh:FuncData
 yi:Addr
 yj:FuncData
 sf:Addr
 yl:FuncData
 su:Addr
 ym:FuncData
 sy:Addr
 yp:FuncData
 sC:Addr
 yq:FuncData
 sD:Addr
 yr:FuncData
 sE:Addr
 yt:FuncData
 yu:Addr
 yw:FuncData
 yx:Addr
 yy:FuncData
 yz:Addr
 yC:FuncData
 yD:Addr
 yE:FuncData
 yF:Addr
 yG:FuncData
 yH:Addr
 yI:FuncData
 yJ:Addr
 yK:FuncData
 yL:Addr
 yM:FuncData
 yN:Addr
 yO:FuncData
 yP:Addr
 yQ:FuncData
 yR:Addr
 yS:FuncData
 yT:Addr
 yU:FuncData
 yV:Addr
 yW:FuncData
 yX:Addr
 yY:FuncData
 yZ:Addr
 y_:FuncData
 zb:Addr
 zc:FuncData
 zd:Addr
 ze:FuncData
 zg:Addr
 zh:FuncData
 Fq:Tok
 Ft:Tok
 zj:Addr
 zm:FuncData
 zo:Addr
 zq:FuncData
 zu:Addr
 zw:FuncData
 zx:Addr
 zy:FuncData
 zA:Addr
 zB:FuncData
 zC:Addr
 zD:FuncData
 zE:Addr
 zF:FuncData
 zG:Addr
 zH:FuncData
 zI:Addr
 zJ:FuncData
 zK:Addr
 zL:FuncData
 zM:Addr
 zN:FuncData
 zO:Addr
 zP:FuncData
 bf:Addr
 bS:Addr
 bu:Addr
 bQ:Addr
 bw:Addr
 cY:Addr
 ji:Addr
 gI:Addr
 jk:Addr
 jm:Addr
 gJ:Addr
 jo:Addr
 aV:Addr
 gK:Addr
 gM:Addr
 gO:Addr
 sF:Tok
 sG:Tok
 sI:Tok
 sJ:Tok
 sM:Tok
 sN:Tok
 sO:Tok
 sQ:Tok
 sS:Tok
 sU:Tok
 sV:Tok
 sW:Tok
 sX:Tok
 sY:Tok
 sZ:Tok
structure Tx(K:W.Frag)(mg:Str->Option Value)(A:j_):Prop where
 N_:aF K "__init__" "Ask.__init__" D3 A.wK A.wL
 Oa:Binds K A.wL ["self", "kind", "first", "many", "marks", "at", "asker", "latest", "behind", "early"] []
 l8:aF K "check_between" "check_between" D4 A.wM A.wN
 nQ:Binds K A.wN ["number", "least", "greatest", "words"] []
 nU:mg "check_between" = some (.ref A.wM)
 Fv:aF K "check_behind" "check_behind" D5 A.wO A.wQ
 Ob:Binds K A.wQ ["behind"] []
 Oc:mg "check_behind" = some (.ref A.wO)
 Fw:aF K "check_fields" "check_fields" D7 A.wR A.wU
 Od:Binds K A.wU ["first", "many", "at", "asker", "latest", "behind"] []
 Oe:mg "check_fields" = some (.ref A.wR)
 Fx:aF K "told_behind" "told_behind" D8 A.wV A.wW
 Of:Binds K A.wW ["behind"] []
 Og:mg "told_behind" = some (.ref A.wV)
 Fy:rG K "reading" "reading" jf A.wX A.wY
 Oh:Binds K A.wY ["first", "many", "at", "asker", "latest", "behind"] [.none,.none]
 Oi:mg "reading" = some (.ref A.wX)
 Fz:aF K "clash" "clash" D9 A.wZ A.w6
 Oj:Binds K A.w6 ["one", "other"] []
 Ol:mg "clash" = some (.ref A.wZ)
 FA:aF K "next_begin" "next_begin" D_ A.w_ A.xg
 Om:Binds K A.xg ["plate", "ring", "place", "beat"] []
 Oo:mg "next_begin" = some (.ref A.w_)
 FD:aF K "way" "way" Ea A.xh A.xj
 Oq:Binds K A.xj ["plate", "ring", "beat", "cells"] []
 Ot:mg "way" = some (.ref A.xh)
 zQ:aF K "check_shares" "check_shares" Eb A.xm A.xq
 FE:Binds K A.xq ["shares"] []
 FF:mg "check_shares" = some (.ref A.xm)
 FG:aF K "least_by_asker" "least_by_asker" Ec A.xr A.xu
 Ou:Binds K A.xu ["dues"] []
 Ov:mg "least_by_asker" = some (.ref A.xr)
 Ow:aF K "__init__" "Shares.__init__" Ef A.xw A.xy
 Ox:Binds K A.xy ["self", "shares"] []
 Oz:aF K "anew" "Shares.anew" Eg A.xA A.xB
 FH:Binds K A.xB ["self"] []
 FI:Meth K A.bS "anew" A.xA
 OA:aF K "pick" "Shares.pick" Eh A.xC A.xE
 OB:Binds K A.xE ["self", "plate", "ring", "beat", "dues"] []
 OC:Meth K A.bS "pick" A.xC
 OD:aF K "check_askers" "Shares.check_askers" Ei A.xF A.xG
 OE:Binds K A.xG ["self", "least"] []
 OF:Meth K A.bS "check_askers" A.xF
 OG:aF K "next_turn" "Shares.next_turn" Ej A.xH A.xJ
 OH:Binds K A.xJ ["self", "least"] []
 OI:Meth K A.bS "next_turn" A.xH
 s_:aF K "reads_of_cell_0" "reads_of_cell_0" Ek A.xK A.xM
 zR:Binds K A.xM ["count", "at", "asker"] []
 zS:mg "reads_of_cell_0" = some (.ref A.xK)
 zT:aF K "share_of" "share_of" El A.xN A.xO
 FJ:Binds K A.xO ["shares", "asker"] []
 FL:mg "share_of" = some (.ref A.xN)
 zU:aF K "turns_of_others" "turns_of_others" Em A.xP A.xQ
 FN:Binds K A.xQ ["share", "ahead"] []
 FO:mg "turns_of_others" = some (.ref A.xP)
 zW:aF K "shares_bound" "shares_bound" En A.xR A.xS
 FP:Binds K A.xS ["shares", "asker", "ahead"] []
 FQ:mg "shares_bound" = some (.ref A.xR)
 zX:aF K "shares_row" "shares_row" Eo A.xT A.xU
 FT:Binds K A.xU ["plate", "shares", "asker", "ahead"] []
 FU:mg "shares_row" = some (.ref A.xT)
 FW:aF K "check_zones" "check_zones" Ep A.xV A.xW
 OJ:Binds K A.xW ["zones"] []
 OL:mg "check_zones" = some (.ref A.xV)
 FY:aF K "check_turning" "check_turning" Er A.xX A.xY
 OM:Binds K A.xY ["zones", "lap", "skew"] []
 ON:mg "check_turning" = some (.ref A.xX)
 FZ:aF K "check_swing" "check_swing" Es A.xZ A.x6
 OO:Binds K A.x6 ["swing", "rings"] []
 OP:mg "check_swing" = some (.ref A.xZ)
 F_:aF K "check_no_detour" "check_no_detour" Et A.x8 A.x9
 OQ:Binds K A.x9 ["swing"] []
 OR:mg "check_no_detour" = some (.ref A.x8)
 Ga:aF K "cells_by_ring" "cells_by_ring" Eu A.x_ A.yc
 OS:Binds K A.yc ["zones"] []
 OT:mg "cells_by_ring" = some (.ref A.x_)
 Gb:aF K "cells_by_number" "cells_by_number" Ew A.yd A.yf
 OU:Binds K A.yf ["ring_cells", "spares"] []
 OV:mg "cells_by_number" = some (.ref A.yd)
 Gd:aF K "numbers_by_cell" "numbers_by_cell" Ex A.yg A.yh
 OW:Binds K A.yh ["number_cells"] []
 OX:mg "numbers_by_cell" = some (.ref A.yg)
 OY:aF K "__init__" "Plate.__init__" Ey A.yi A.yj
 OZ:Binds K A.yj ["self", "zones", "lap", "skew", "swing"] []
 O0:aF K "rings" "Plate.rings" Ez A.sf A.yl
 ace:Binds K A.yl ["self"] []
 O1:Meth K A.bu "rings" A.sf
 O2:aF K "beats_of" "Plate.beats_of" EA A.su A.ym
 Ge:Binds K A.ym ["self", "ring"] []
 O3:Meth K A.bu "beats_of" A.su
 O4:aF K "lap_beats" "Plate.lap_beats" EB A.sy A.yp
 Gf:Binds K A.yp ["self"] []
 O5:Meth K A.bu "lap_beats" A.sy
 O6:aF K "begins" "Plate.begins" EC A.sC A.yq
 O7:Binds K A.yq ["self", "ring", "place"] []
 O8:Meth K A.bu "begins" A.sC
 O9:aF K "swing_of" "Plate.swing_of" ED A.sD A.yr
 O_:Binds K A.yr ["self", "ring", "other"] []
 Pa:Meth K A.bu "swing_of" A.sD
 Pb:aF K "cell_at" "Plate.cell_at" EE A.sE A.yt
 Pc:Binds K A.yt ["self", "number"] []
 Pd:Meth K A.bu "cell_at" A.sE
 Gg:aF K "stretch" "stretch" EF A.yu A.yw
 Pe:Binds K A.yw ["plate", "ask"] []
 Pf:mg "stretch" = some (.ref A.yu)
 zY:aF K "stretch_by_number" "stretch_by_number" EG A.yx A.yy
 Gh:Binds K A.yy ["plate", "number", "ask"] []
 Gi:mg "stretch_by_number" = some (.ref A.yx)
 Pg:aF K "__init__" "Due.__init__" EH A.yz A.yC
 Ph:Binds K A.yC ["self", "plate", "number", "ask"] []
 Gj:aF K "check_beat" "check_beat" EI A.yD A.yE
 Pj:Binds K A.yE ["asks", "number"] []
 Pn:mg "check_beat" = some (.ref A.yD)
 Gk:aF K "check_told" "check_told" EJ A.yF A.yG
 Po:Binds K A.yG ["asks", "number"] []
 Pp:mg "check_told" = some (.ref A.yF)
 Gm:aF K "kept_behind" "kept_behind" EK A.yH A.yI
 Pq:Binds K A.yI ["asks", "number"] []
 Pr:mg "kept_behind" = some (.ref A.yH)
 Gn:aF K "orders" "orders" EL A.yJ A.yK
 Pu:Binds K A.yK ["plate", "asks"] []
 Pw:mg "orders" = some (.ref A.yJ)
 Px:aF K "__init__" "Course.__init__" EM A.yL A.yM
 Py:Binds K A.yM ["self", "plate", "asks", "ring"] []
 Pz:aF K "stay" "Course.stay" EN A.yN A.yO
 PB:Binds K A.yO ["self"] []
 PD:Meth K A.bw "stay" A.yN
 PF:aF K "has_to_wait" "Course.has_to_wait" EO A.yP A.yQ
 PJ:Binds K A.yQ ["self", "number"] []
 PL:Meth K A.bw "has_to_wait" A.yP
 PM:aF K "ready" "Course.ready" ER A.yR A.yS
 PN:Binds K A.yS ["self"] []
 PR:Meth K A.bw "ready" A.yR
 PU:aF K "take" "Course.take" ES A.yT A.yU
 PV:Binds K A.yU ["self", "number"] []
 PX:Meth K A.bw "take" A.yT
 PY:aF K "__init__" "Played.__init__" ET A.yV A.yW
 PZ:Binds K A.yW ["self", "rows", "taken", "told", "answers", "end"] []
 Gp:aF K "last_ends" "last_ends" EU A.yX A.yY
 P0:Binds K A.yY ["rows"] []
 P1:mg "last_ends" = some (.ref A.yX)
 Gq:aF K "numbers_of" "numbers_of" EV A.yZ A.y_
 P4:Binds K A.y_ ["ask"] []
 P5:mg "numbers_of" = some (.ref A.yZ)
 Gr:aF K "answers_of" "answers_of" EW A.zb A.zc
 P6:Binds K A.zc ["asks", "picks"] []
 P7:mg "answers_of" = some (.ref A.zb)
 Gs:aF K "told_of" "told_of" EX A.zd A.ze
 P8:Binds K A.ze ["asks", "ends", "shelf"] []
 P9:mg "told_of" = some (.ref A.zd)
 Gu:rG K "play" "play" jg A.zg A.zh
 P_:Binds K A.zh ["plate", "asks", "rule", "ring", "shelf"] [.int 0 A.Fq,.int 0 A.Ft]
 Qa:mg "play" = some (.ref A.zg)
 kX:aF K "_law_cell" "_law_cell" EY A.zj A.zm
 l9:Binds K A.zm ["_law_script", "_law_k"] []
 l_:mg "_law_cell" = some (.ref A.zj)
 dh:aF K "_law_draw" "_law_draw" EZ A.zo A.zq
 dD:Binds K A.zq ["_law_cell_here", "_law_turn", "_law_many"] []
 dF:mg "_law_draw" = some (.ref A.zo)
 Gv:aF K "_law_swing" "_law_swing" E1 A.zu A.zw
 Qc:Binds K A.zw ["_law_cell_here", "_law_rings"] []
 Qd:mg "_law_swing" = some (.ref A.zu)
 Gw:aF K "_law_zones" "_law_zones" E3 A.zx A.zy
 Qe:Binds K A.zy ["_law_cell_here"] []
 Qf:mg "_law_zones" = some (.ref A.zx)
 Gx:aF K "_law_made_plate" "_law_made_plate" E4 A.zA A.zB
 Qg:Binds K A.zB ["_law_script"] []
 Qh:mg "_law_made_plate" = some (.ref A.zA)
 Gy:aF K "_law_askers" "_law_askers" E5 A.zC A.zD
 Qi:Binds K A.zD ["_law_cell_here"] []
 Qj:mg "_law_askers" = some (.ref A.zC)
 Gz:aF K "_law_no" "_law_no" E6 A.zE A.zF
 Qk:Binds K A.zF ["_law_e"] []
 Ql:mg "_law_no" = some (.ref A.zE)
 GA:aF K "_law_counted" "_law_counted" E7 A.zG A.zH
 Qm:Binds K A.zH ["_law_row", "_law_taken", "_law_k"] []
 Qn:mg "_law_counted" = some (.ref A.zG)
 zZ:aF K "_law_refused" "_law_refused" E8 A.zI A.zJ
 GB:Binds K A.zJ ["_law_plate", "_law_shares", "_law_asker", "_law_ahead"] []
 GC:mg "_law_refused" = some (.ref A.zI)
 GD:aF K "_law_bad" "_law_bad" E9 A.zK A.zL
 Qo:Binds K A.zL ["_law_cell_here", "_law_shares"] []
 Qp:mg "_law_bad" = some (.ref A.zK)
 GF:aF K "_law_rows" "_law_rows" E_ A.zM A.zN
 Qq:Binds K A.zN ["_law_found"] []
 Qs:mg "_law_rows" = some (.ref A.zM)
 Qt:aF K "law" "law" jh A.zO A.zP
 acf:Binds K A.zP ["_law_script"] []
 acg:mg "law" = some (.ref A.zO)
 kg:dO K A.bf
 Qu:Mk K A.bf A.wK
 Qv:mg "Ask" = some (.ref A.bf)
 tu:bO K A.bf "kind"
 GG:bO K A.bf "first"
 GH:bO K A.bf "many"
 GI:bO K A.bf "marks"
 nW:bO K A.bf "at"
 z7:bO K A.bf "asker"
 GJ:bO K A.bf "latest"
 tD:bO K A.bf "behind"
 GK:bO K A.bf "early"
 ki:dO K A.bS
 Qw:Mk K A.bS A.xw
 Qx:mg "Shares" = some (.ref A.bS)
 GL:bO K A.bS "pairs"
 tE:bO K A.bS "turn"
 tF:bO K A.bS "used"
 mh:dO K A.bu
 Qy:Mk K A.bu A.yi
 Qz:mg "Plate" = some (.ref A.bu)
 z8:bO K A.bu "ring_cells"
 z9:bO K A.bu "lap"
 z_:bO K A.bu "skew"
 Aa:bO K A.bu "swing"
 Ab:bO K A.bu "number_cells"
 Ac:bO K A.bu "cell_numbers"
 QA:dO K A.bQ
 QB:Mk K A.bQ A.yz
 QC:mg "Due" = some (.ref A.bQ)
 GN:bO K A.bQ "number"
 GO:bO K A.bQ "ask"
 Ad:bO K A.bQ "cells"
 kY:dO K A.bw
 QD:Mk K A.bw A.yL
 QE:mg "Course" = some (.ref A.bw)
 GP:bO K A.bw "keeping"
 GQ:bO K A.bw "plate"
 Ae:bO K A.bw "ring"
 tG:bO K A.bw "beat"
 Af:bO K A.bw "left"
 QF:dO K A.cY
 QG:Mk K A.cY A.yV
 QH:mg "Played" = some (.ref A.cY)
 GR:bO K A.cY "rows"
 Ag:bO K A.cY "taken"
 GS:bO K A.cY "told"
 GU:bO K A.cY "answers"
 GV:bO K A.cY "end"
 QI:mg "MOST_CELLS" = some (.int 16 A.sF)
 QJ:mg "GREATEST_FIRST" = some (.int 1000000 A.sG)
 QK:mg "GREATEST_AT" = some (.int 1000000000000 A.sI)
 QL:mg "GREATEST_ASKER_asks" = some (.int 20 A.sJ)
 QM:mg "GREATEST_LATEST" = some (.int 10000000000000 A.sM)
 QN:mg "GREATEST_BEHIND" = some (.int 99 A.sN)
 QO:mg "MOST_PAIRS" = some (.int 4 A.sO)
 QS:mg "GREATEST_ASKER_shares" = some (.int 20 A.sQ)
 QT:mg "GREATEST_SHARE" = some (.int 4 A.sS)
 QU:mg "MOST_ZONES" = some (.int 5 A.sU)
 QV:mg "MOST_RINGS_IN_ZONE" = some (.int 40 A.sV)
 QW:mg "MOST_CELLS_IN_RING" = some (.int 60 A.sW)
 QX:mg "LEAST_RINGS" = some (.int 2 A.sX)
 QY:mg "MOST_RINGS" = some (.int 120 A.sY)
 GW:mg "MOST_BEATS" = some (.int 1000000000 A.sZ)
 Ah:mg "abs" = none
 Ai:mg "any" = none
 tH:mg "bool" = none
 GX:mg "dict" = none
 mj:mg "enumerate" = none
 Aj:mg "int" = none
 jJ:mg "isinstance" = none
 dU:mg "len" = none
 nX:mg "list" = none
 Al:mg "max" = none
 tK:mg "min" = none
 eW:mg "range" = none
 Am:mg "sorted" = none
 pW:mg "sum" = none
 pX:mg "tuple" = none
 An:mg "ValueError" = none
 QZ:mg "ArmError" = some (.ref A.ji)
 Ao:W.excIn K A.ji [.type "ValueError",.type "Exception",.type "BaseException",.type "object"] "ValueError.__new__" = true
 Q0:eF K A.ji
 Q3:mg "NoPlate" = some (.ref A.gI)
 Aq:W.excIn K A.gI [.type "ValueError",.type "Exception",.type "BaseException",.type "object"] "ValueError.__new__" = true
 ach:eF K A.gI
 Q4:mg "NoCell" = some (.ref A.jk)
 Q5:mg "NoSpare" = some (.ref A.jm)
 Q6:mg "NoAsk" = some (.ref A.gJ)
 As:W.excIn K A.gJ [.type "ValueError",.type "Exception",.type "BaseException",.type "object"] "ValueError.__new__" = true
 aci:eF K A.gJ
 Q7:mg "NoOrder" = some (.ref A.jo)
 mq:mg "NoRule" = some (.ref A.aV)
 kj:W.excIn K A.aV [.type "ValueError",.type "Exception",.type "BaseException",.type "object"] "ValueError.__new__" = true
 Q8:eF K A.aV
 Au:kP K A.aV
 Av:(W.clsIn K A.aV).isSome=true
 GY:W.kitOne K (.ref A.aV) (.ref A.ji)=some true
 Q9:subIn K A.aV (.ref A.ji)=true
 Aw:W.kitOne K (.ref A.aV) (.ref A.gI)=some false
 acj:subIn K A.aV (.ref A.gI)=false
 Ax:W.kitOne K (.ref A.aV) (.ref A.jk)=some false
 ack:subIn K A.aV (.ref A.jk)=false
 Ay:W.kitOne K (.ref A.aV) (.ref A.jm)=some false
 acm:subIn K A.aV (.ref A.jm)=false
 Az:W.kitOne K (.ref A.aV) (.ref A.gJ)=some false
 acn:subIn K A.aV (.ref A.gJ)=false
 AA:W.kitOne K (.ref A.aV) (.ref A.jo)=some false
 aco:subIn K A.aV (.ref A.jo)=false
 AB:W.kitOne K (.ref A.aV) (.ref A.aV)=some true
 acp:subIn K A.aV (.ref A.aV)=true
 AD:W.kitOne K (.ref A.aV) (.ref A.gK)=some false
 acq:subIn K A.aV (.ref A.gK)=false
 AE:W.kitOne K (.ref A.aV) (.ref A.gM)=some false
 acr:subIn K A.aV (.ref A.gM)=false
 AF:W.kitOne K (.ref A.aV) (.ref A.gO)=some false
 acs:subIn K A.aV (.ref A.gO)=false
 AG:W.kitOne K (.ref A.aV) (.type "ValueError")=some true
 Q_:mg "TooMany" = some (.ref A.gK)
 AH:W.excIn K A.gK [.type "ValueError",.type "Exception",.type "BaseException",.type "object"] "ValueError.__new__" = true
 acu:eF K A.gK
 Ra:mg "NoLine" = some (.ref A.gM)
 AI:W.excIn K A.gM [.type "ValueError",.type "Exception",.type "BaseException",.type "object"] "ValueError.__new__" = true
 acv:eF K A.gM
 Rb:mg "NoBook" = some (.ref A.gO)
 AJ:W.excIn K A.gO [.type "ValueError",.type "Exception",.type "BaseException",.type "object"] "ValueError.__new__" = true
 acw:eF K A.gO
theorem Tx.acy{K:W.Frag}{mg:Str->Option Value}{A:j_}(T:Tx K mg A):CP K A.bu:=⟨T.mh,T.z8,T.z9,T.z_,T.Aa,T.Ab,T.Ac⟩
theorem Tx.ag8{K:W.Frag}{mg:Str->Option Value}{A:j_}(T:Tx K mg A):∀C∈[A.bu],dO K C/\Meth K C "rings" A.sf:=by
 intro C hC;simp only[List.mem_cons,List.not_mem_nil,or_false] at hC;rcases hC with rfl
 ·exact⟨T.mh,T.O1⟩
theorem Tx.Rc{K:W.Frag}{mg:Str->Option Value}{A:j_}(T:Tx K mg A):∀C∈[A.bu],dO K C/\Meth K C "beats_of" A.su:=by
 intro C hC;simp only[List.mem_cons,List.not_mem_nil,or_false] at hC;rcases hC with rfl
 ·exact⟨T.mh,T.O3⟩
theorem Tx.Rf{K:W.Frag}{mg:Str->Option Value}{A:j_}(T:Tx K mg A):∀C∈[A.bu],dO K C/\Meth K C "lap_beats" A.sy:=by
 intro C hC;simp only[List.mem_cons,List.not_mem_nil,or_false] at hC;rcases hC with rfl
 ·exact⟨T.mh,T.O5⟩
theorem Tx.acz{K:W.Frag}{mg:Str->Option Value}{A:j_}(T:Tx K mg A):∀C∈[A.bu],dO K C/\Meth K C "begins" A.sC:=by
 intro C hC;simp only[List.mem_cons,List.not_mem_nil,or_false] at hC;rcases hC with rfl
 ·exact⟨T.mh,T.O8⟩
theorem Tx.acA{K:W.Frag}{mg:Str->Option Value}{A:j_}(T:Tx K mg A):∀C∈[A.bu],dO K C/\Meth K C "swing_of" A.sD:=by
 intro C hC;simp only[List.mem_cons,List.not_mem_nil,or_false] at hC;rcases hC with rfl
 ·exact⟨T.mh,T.Pa⟩
theorem Tx.acB{K:W.Frag}{mg:Str->Option Value}{A:j_}(T:Tx K mg A):∀C∈[A.bu],dO K C/\Meth K C "cell_at" A.sE:=by
 intro C hC;simp only[List.mem_cons,List.not_mem_nil,or_false] at hC;rcases hC with rfl
 ·exact⟨T.mh,T.Pd⟩
local macro_rules | `(tactic| walk_at "rdt") => `(tactic| wp_walk using $(Lean.mkIdent `T))
section
variable{P:Program}{w:World}{K:W.Frag}{mg:Str->Option Value}{base:Heap}{A:j_}
theorem acC(T:Tx K mg A):aR P w K mg base a_ 1 A.wK A.wL ["self", "kind", "first", "many", "marks", "at", "asker", "latest", "behind", "early"] (Y0 A.bf):=by
 refine T.N_.ok abK (λvs H Q E h=>?_) (λaK Ar outer s H vs Q E hr h=>?_)
 ·obtain⟨p,dx,v1,v2,v3,v4,v5,v6,v7,v8,v9,rfl,_⟩:=h
  rfl
 ·obtain⟨p,dx,v1,v2,v3,v4,v5,v6,v7,v8,v9,rfl,hp,q⟩:=h;refine⟨_,(aB (cg (pv 0) (pv 1) rfl)
   (aB (cg (pv 0) (pv 2) rfl)
   (aB (cg (pv 0) (pv 3) rfl)
   (aB (cg (pv 0) (pv 4) rfl)
   (aB (cg (pv 0) (pv 5) rfl)
   (aB (cg (pv 0) (pv 6) rfl)
   (aB (cg (pv 0) (pv 7) rfl)
   (aB (cg (pv 0) (pv 8) rfl)
   (aH (cg (pv 0) (pv 9) rfl)))))))))),?_⟩
  wp_walk using T,hp;exact q
theorem pY(T:Tx K mg A):aR P w K mg base a_ 1 A.wM A.wN ["number", "least", "greatest", "words"] YW:=by
 refine T.l8.ok abL (λvs H Q E h=>?_) (λaK Ar outer s H vs Q E hr h=>?_)
 ·obtain⟨n,lo,hi,w,rfl,_⟩:=h
  rfl
 ·obtain⟨n,lo,hi,w,rfl,h1,h2,q⟩:=h;refine⟨_,(aH (bM (PW.pt (dW (br eO (pv 0) (pv 1) (bq _)) (eZ (br iz (pv 0) (pv 2) (bq _))))) fB bT)),?_⟩;walk_at "rdm";exact⟨by lia,by lia,q⟩
theorem acD(T:Tx K mg A):aR P w K mg base a_ 1 A.wV A.wW ["behind"] (YZ K):=by
 refine T.Fx.ok abN (λvs H Q E h=>?_) (λaK Ar outer s H vs Q E hr h=>?_)
 ·obtain⟨v,ns,rfl,_⟩:=h
  rfl
 ·obtain⟨v,ns,rfl,hv,q⟩:=h;refine⟨_,(aH (bx (J_ (br Ku (pv 0) lA (bq _)) (dP aj) (uH K5 rfl T.pX boot_tuple (aa (pv 0) aj))))),?_⟩;walk_at "rdm";rcases hv with⟨rfl,rfl⟩ | ⟨a,rfl,hS | hS⟩
  ·exact ite_yes rfl λt nt=>q t _ (ah.put nt) aD
  ·exact ite_no (by simp) ⟨a,rfl,_,.inl ⟨hS,λl nl=>q l _ (ah.put nl) aD⟩⟩
  ·exact ite_no (by simp) ⟨a,rfl,_,.inr ⟨aQ.of hS,q a _ (ah.refl _) hS⟩⟩
theorem acE(T:Tx K mg A):aR P w K mg base a_ 1 A.wZ A.w6 ["one", "other"] (Y4 K A.bf):=by
 refine T.Fz.ok abO (λvs H Q E h=>?_) (λaK Ar outer s H vs Q E hr h=>?_)
 ·obtain⟨p,r,x,y,m,b,dx,m',b',dG,rfl,_⟩:=h
  rfl
 ·obtain⟨p,r,x,y,m,b,dx,m',b',dG,rfl,hx,hy,q⟩:=h;refine⟨_,(aB (bM (PW.pt (BW (br iU (aU (pv 0) rfl) eN (bq _)) (BV (br iU (aU (pv 1) rfl) eN (bq _))))) (aH (bx jO)) bT)
   (aH (bx (BX (Cd eO (aU (pv 0) rfl) (aL bI (aU (pv 1) rfl) (aU (pv 1) rfl)) (bq _)) (J9 (Cd eO (aU (pv 1) rfl) (aL bI (aU (pv 0) rfl) (aU (pv 0) rfl)) (bq _))))))),?_⟩
  wp_walk using T,hx.o,hy.o;unfold o_ at q;by_cases k1:x.kind = "write" <;> by_cases k2:y.kind = "write" <;> by_cases k3:x.first<y.first+y.many <;> simpa[k1,k2,k3] using q
theorem Rg(T:Tx K mg A):aR P w K mg base (fj P w base) 1 A.xm A.xq ["shares"] (aaF A.aV):=by
 refine T.zQ.nG wz (λvs H Q E h=>?_) (λaK Ar outer s H vs Q E hr h=>?_)
 ·obtain⟨l,ts,z,rfl,_⟩:=h
  rfl
 ·obtain⟨l,ts,z,rfl,hz,zn,q1,q2⟩:=h;have hu:=iE hr;have zl:=hz.n;refine⟨_,(aB (bM (PW.pt (dW (br eO (bX eB rfl T.dU boot_len (aa (pv 0) aj)) az (bq _)) (eZ (br iz (bX eB rfl T.dU boot_len (aa (pv 0) aj)) (dN (v:=.int 4) rfl T.QO ⟨_,rfl⟩) (bq _))))) (aH (pe pB rfl T.mq T.kj PySem.F.excBase_ValueError rfl (aa eN aj))) bT)
   (aB (aT (i:=1) wz.nd rfl (Or.inl rfl) qT)
   (aH (cU PassesOwn.leaving rfl (e9 (pv 0)) (gi rfl (bN (aW (i:=2) wz.nd rfl (Or.inl rfl)) (bN (aW (i:=3) wz.nd rfl (Or.inl rfl)) e7)))
   (aB (bM (PW.pt (dW (br eO (pv 2) az (bq _)) (eZ (br iz (pv 2) (dN (v:=.int 20) rfl T.QS ⟨_,rfl⟩) (bq _))))) (aH (pe pB rfl T.mq T.kj PySem.F.excBase_ValueError rfl (aa eN aj))) bT)
   (aB (bM (BU (Lh hu (pv 2) (pv 1))) (aH (pe pB rfl T.mq T.kj PySem.F.excBase_ValueError rfl (aa eN aj))) bT)
   (aB (bM (PW.pt (dW (br eO (pv 3) az (bq _)) (eZ (br iz (pv 3) (dN (v:=.int 4) rfl T.QT ⟨_,rfl⟩) (bq _))))) (aH (pe pB rfl T.mq T.kj PySem.F.excBase_ValueError rfl (aa eN aj))) bT)
   (aH (qR hu (pv 1) (pv 2) (pv 3) rfl))))))))),?_⟩
  walk_at "rdt";refine⟨_,.inl hz.sq,?_⟩;rw[List.length_map,zl];refine cO (λh1=>q2 (λok=>by have:=ok.n1;lia) _ (λ_ _ e=>e)) λh1=>⟨_,.inl hz.sq,?_⟩
  rw[List.length_map,zl];refine cO (λh2=>q2 (λok=>by have:=ok.n4;lia) _ (λ_ _ e=>e)) λh2=>?_
  intro kd iO;refine rl l (ts.map V.ref) (λi σ H'=>∃(u v:Option V) (kvs:List (Key×V)),σ = [some (.ref l),some (.ref kd),u,v]/\ah H H'/\H' kd=some (.dK kvs)/\kvs.length<=i/\(∀a:Int,(bF kvs (bC a)).isSome=decide (a∈(z.take i).map (·.1)))/\(∀p∈z.take i,0<=p.1/\p.1<=20/\1<=p.2/\p.2<=4)/\((z.take i).map (·.1)).Nodup) (λQ q=>⟨_,rfl,q⟩) (ah.put iO |>.seq hz.sq) ⟨none,none,[],rfl,ah.put iO,aD,Nat.le_refl _,λa=>by simp[K_],(λ_ h=>by simp at h),by simp⟩ (by rintro i σ H' _ ⟨_,_,_,rfl,s',_⟩;exact s'.seq hz.sq) ?_ ?_
  ·rintro i x σ H' N hN hx ⟨u,v,kvs,rfl,s',hk,hl,hv,hb,nd⟩;obtain⟨t,p,rfl,hp,ht⟩:=(hz.same s').at hx;have hi:i<z.length:=gH hp;have tk:=take_succ_get hp;walk_at "rdm";refine⟨_,aQ.of ht,rfl,_,_,rfl,_,_,rfl,rfl,_,rfl,cO (λc1=>?_) λc1=>⟨_,rfl,cO (λc2=>?_) λc2=>?_⟩⟩
   ·exact q2 (λok=>by have:=ok.a p (get_mem hp);lia) _ s'
   ·exact q2 (λok=>by have:=ok.a p (get_mem hp);lia) _ s'
   refine⟨_,fJ.k (k:=bC p.1) hk,?_⟩;rw[hv];refine cO (λc3=>?_) λc3=>⟨_,rfl,cO (λc4=>?_) λc4=>⟨_,rfl,cO (λc5=>?_) λc5=>?_⟩⟩
   ·refine q2 (λok=>?_) _ s';have:=ok.nd;rw[← List.take_append_drop (i+1) z,tk,List.map_append,List.map_append] at this;have:=(List.nodup_append.mp (List.nodup_append.mp this).1).2.2 p.1 (by simpa using c3) p.1 (by simp)
    exact this rfl
   ·exact q2 (λok=>by have:=ok.a p (get_mem hp);lia) _ s'
   ·exact q2 (λok=>by have:=ok.a p (get_mem hp);lia) _ s'
   refine⟨_,jA.k (k:=bC p.1) hk (by rw[kM];lia),hN _ _ ⟨_,_,_,rfl,ah.put2 s' iO,aD,?_,λa=>?_,λy hy=>?_,?_⟩⟩
   ·have:=Dp kvs (bC p.1) (V.int p.2);lia
   ·rw[qP,tk,List.map_append];by_cases e:a=p.1
    ·subst e;simp
    ·rw[if_neg (by simpa[bC] using e),hv]
     simp[e]
   ·rw[tk] at hy;rcases List.mem_append.mp hy with hy | hy
    ·exact hb y hy
    ·rw[List.mem_singleton.mp hy];lia
   ·rw[tk,List.map_append,List.nodup_append];refine⟨nd,by simp,λa ha b vE e=>?_⟩
    subst e;simp only[List.map_cons,List.map_nil,List.mem_singleton] at vE;rw[vE] at ha;exact c3 (by simpa using ha)
  ·rintro σ H' ⟨u,v,kvs,rfl,s',hk,hl,hv,hb,nd⟩;rw[List.length_map,zl,List.take_length] at hb nd;exact q1 ⟨by lia,by lia,hb,nd⟩ H' s'
theorem acF(T:Tx K mg A):aR P w K mg base a_ 1 A.xr A.xu ["dues"] (aaI K A.bf A.bQ):=by
 refine T.FG.ok wA (λvs H Q E h=>?_) (λaK Ar outer s H vs Q E hr h=>?_)
 ·obtain⟨D,ps,ds,rfl,_⟩:=h
  rfl
 ·obtain⟨D,ps,ds,rfl,hd,kZ,q⟩:=h;have GZ:=hd.n;have hu:=iE hr;refine⟨_,(aB (aT (i:=1) wA.nd rfl (Or.inl rfl) qT)
   (aB (cU PassesOwn.never rfl (e9 (pv 0)) (aW (i:=2) wA.nd rfl (Or.inl rfl))
   (aB (aT (i:=3) wA.nd rfl (Or.inl rfl) (Lm hu (pv 1) (aU (aU (pv 2) rfl) rfl) (aU (pv 2) rfl) ⟨rfl,rfl,rfl,rfl⟩))
   (aH (qR hu (pv 1) (aU (aU (pv 2) rfl) rfl) (bX (V9 rfl) rfl T.tK boot_min (aa (pv 3) (aa (aU (pv 2) rfl) aj))) rfl))))
   (aH (bx (pv 1))))),?_⟩
  walk_at "rdt";intro kd iO;refine rl D (ps.map V.ref) (λi σ H'=>∃(u v:Option V) (kvs:List (Key×V)),σ = [some (.ref D),some (.ref kd),u,v]/\ah H H'/\H' kd=some (.dK kvs)/\kvs.length<=i/\pF (ds.take i) kvs) (λQ q=>⟨_,rfl,q⟩) (aE.of (ah.put iO _ _ hd.l)) ⟨none,none,[],rfl,ah.put iO,aD,Nat.le_refl _,⟨λa=>by simp[K_,eG],(λ_ h=>nomatch h)⟩⟩ (by rintro i σ H' _ ⟨_,_,_,rfl,s',_⟩;exact aE.of (s' _ _ hd.l)) ?_ ?_
  ·rintro i x σ H' N hN hx ⟨u,v,kvs,rfl,s',hk,hl,hv⟩;obtain⟨p,hp,rfl⟩:=iH hx;have hi:i<ds.length:=by rw[← GZ];exact gH hp
   refine(hd.same s').el i p ds[i] hp (List.getElem?_eq_getElem hi) λdx ap la ts m b bY hD=>?_;have ie:=hD.o;have jK:=hD.a.o;unfold j5 at ie;unfold fQ at jK;wp_walk using T,ie,jK;have hva:=hv.v ds[i].q.aY;refine⟨.inl ⟨_,.inl hk⟩,_,fJ.k (k:=bC ds[i].q.aY) hk,?_⟩;obtain⟨n0,e0,e1⟩:∃n0,(bF kvs (bC ds[i].q.aY)).getD (V.int ds[i].n)=V.int n0/\(if ds[i].n<n0 then ds[i].n else n0)=nI (eG ds[i].q.aY (ds.take i)) ds[i].n:=by
    rw[hva];cases eG ds[i].q.aY (ds.take i) with
    | none=>exact⟨_,rfl,by simp[nI]⟩
    | some m=>exact⟨m,rfl,rfl⟩
   refine⟨n0,e0,_,jA.k (k:=bC ds[i].q.aY) hk (by rw[kM];lia),hN _ _ ⟨_,_,_,rfl,ah.put2 s' iO,aD,?_,⟨λa=>?_,λy hy=>?_⟩⟩⟩
   ·have:=Dp kvs (bC ds[i].q.aY) (V.int (if ds[i].n<n0 then ds[i].n else n0))
    lia
   ·rw[qP,aaD hi,e1];by_cases e:a=ds[i].q.aY
    ·subst e;simp
    ·rw[if_neg (by simpa[bC] using e),if_neg (λz=>e z.symm)]
     exact hv.v a
   ·rw[take_succ_get (List.getElem?_eq_getElem hi)];rcases aaE hy with⟨y',hy,ey⟩ | hy
    ·obtain⟨d,vM,hd2⟩:=hv.k y' hy;exact⟨d,List.mem_append_left _ vM,ey▸hd2⟩
    ·exact⟨ds[i],List.mem_append_right _ (List.mem_singleton.mpr rfl),hy⟩
  ·rintro σ H' ⟨u,v,kvs,rfl,s',hk,hl,hv⟩;rw[List.length_map,GZ] at hl;rw[List.length_map,GZ,List.take_length] at hv;walk_at "rdm";exact q kd kvs H' s' iO hk (by lia) hv
theorem Rh(T:Tx K mg A):aR P w K mg base a_ 1 A.xA A.xB ["self"] (aaH A.bS):=by
 refine T.Oz.ok abR (λvs H Q E h=>?_) (λaK Ar outer s H vs Q E hr h=>?_)
 ·obtain⟨x,dx,pl,fs,rfl,_⟩:=h
  rfl
 ·obtain⟨x,dx,pl,fs,rfl,hx,hf,q⟩:=h;refine⟨_,(aB (cg (pv 0) az rfl)
   (aH (cg (pv 0) az rfl))),?_⟩
  rcases hf with rfl | ⟨t,u,rfl⟩
  ·wp_walk using T,hx,fV;exact q _ (λb o e hb=>by rw[aC hb];exact e) aD
  ·wp_walk using T,hx,fV;exact q _ (λb o e hb=>by rw[aC hb];exact e) aD
theorem acG(T:Tx K mg A):aR P w K mg base (fj P w base) 1 A.xF A.xG ["self", "least"] (aaJ A.bS A.aV):=by
 refine T.OD.nG Fc (λvs H Q E h=>?_) (λaK Ar outer s H vs Q E hr h=>?_)
 ·obtain⟨x,B,dx,pl,bA,sh,t,u,kvs,rfl,_⟩:=h
  rfl
 ·obtain⟨x,B,dx,pl,bA,sh,t,u,kvs,rfl,hx,n4,hB,hk,q1,q2⟩:=h;have hu:=iE hr;have pn:=hx.p.n;have mz:=hx.o;unfold fV at mz;refine⟨_,(aB (qX (i:=2) Fc.nd rfl (Or.inl rfl) (N:=["asker", "share"]) (nt:=2) (fv:=[]) (cL.of rfl rfl (by rfl) (by rfl) (by repeat (first | exact trivial | refine⟨rfl,?_⟩)) (by rfl) (by rfl) (by rfl) (by decide) (by decide +kernel)) rfl (e9 (aU (pv 0) rfl)) (λC s H fp=>(rD (K:=K) (n:=2) rfl rfl (bN (aW (i:=0) (show List.Nodup (["asker", "share"]:List Str) by decide +kernel) rfl (Or.inl rfl)) (bN (aW (i:=1) (show List.Nodup (["asker", "share"]:List Str) by decide +kernel) rfl (Or.inl rfl)) e7)))) (λC s H fp=>gG) (λC s H fp=>(pv 0)))
   (aH (cU PassesOwn.leaving rfl (aaw (pv 1)) (aW (i:=3) Fc.nd rfl (Or.inl rfl))
   (aH (bM (br K3 (pv 3) (pv 2) rfl) (aH (pe pB rfl T.mq T.kj PySem.F.excBase_ValueError rfl (aa eN aj))) bT))))),?_⟩
  wp_walk using T,mz;have Bx:B≠x:=λz=>by rw[z,mz] at hB;cases hB
  refine lJ pl (bA.map V.ref) (λD i ys au H2=>∃(u v:Option V),ys=((sh.take i).map (·.1)).map V.int/\au = [u,v]/\H2 D=some (.lst ys)/\ah H H2/\H D=none) (λQ q=>?_) hx.p.sq ?_ ?_ ?_ ?_
  ·wp_walk using T,mz;exact q
  ·intro D hD;exact⟨none,none,rfl,rfl,aD,ah.put hD,hD⟩
  ·rintro D i ys au H2 ⟨u',v',rfl,rfl,e1,e2,e3⟩;exact⟨e1,fK (by simp only[List.length_map,List.length_take];lia),(hx.p.same e2).sq⟩
  ·rintro D i y ys au H2 N hN hy ⟨u',v',rfl,rfl,e1,e2,e3⟩;obtain⟨pt,p,rfl,hp,ht⟩:=(hx.p.same e2).at hy;walk_at "rdm";refine⟨_,aQ.of ht,rfl,_,_,rfl,_,_,rfl,rfl,e1,hN _ _ _ ⟨_,_,?_,rfl,aD,ah.put2 e2 e3,e3⟩⟩;rw[take_succ_get hp,List.map_append,List.map_append];rfl
  ·rintro D ys au H2 ⟨u',v',rfl,rfl,e1,e2,e3⟩;rw[List.length_map,pn,List.take_length] at e1;have DB:B≠D:=λz=>by rw[z,e3] at hB;cases hB
   refine aax B kvs (λob i σ H'=>∃(v:Option V),σ = [some (.ref x),some (.ref B),some (.ref D),v]/\SameBut B H H'/\H' D=some (.lst ((sh.map (·.1)).map V.int))/\H' B=some (.bL ob (.dK kvs))/\vQ sh (kvs.take i)) (λQ q=>⟨_,rfl,q⟩) (e2 _ _ hB) (λob=>⟨none,rfl,λb o e hb=>by rw[aC hb];exact e2 _ _ e,by rw[aC (Ne.symm DB)];exact e1,aD,λp hp=>by simp at hp⟩) (by rintro ob i σ H' ⟨v,rfl,_,_,e,_⟩;exact e) ?_ ?_
   ·rintro ob i p σ H' N hN hp ⟨v,rfl,sb,hD,G0,tL⟩;obtain⟨a,ea⟩:=hk p (get_mem hp);have ev:kV p.1 = .int a:=by rw[ea];rfl
    have tk:=take_succ_get hp;wp_walk using ev;refine⟨_,.inl (aE.of hD),rfl,C_ _,?_⟩;rw[vq];refine cO (λh0=>q2 (λkn=>?_) _ sb) λh0=>hN _ _ ⟨_,rfl,sb,hD,G0,λy hy=>?_⟩
    ·obtain⟨a',mC,e'⟩:=kn p (get_mem hp);rw[ea] at e';cases e';exact of_decide_eq_false h0 mC
    ·rw[tk] at hy;rcases List.mem_append.mp hy with hy | hy
     ·exact tL y hy
     ·rw[List.mem_singleton.mp hy];exact⟨a,of_decide_eq_true (by simpa using h0),ea⟩
   ·rintro ob σ H' ⟨v,rfl,sb,hD,G0,tL⟩;rw[List.take_length] at tL;exact q1 tL ob H' sb G0
theorem acH(T:Tx K mg A):aR P w K mg base a_ 1 A.xH A.xJ ["self", "least"] (aaL A.bS):=by
 refine T.OG.ok Fd (λvs H Q E h=>?_) (λaK Ar outer s H vs Q E hr h=>?_)
 ·obtain⟨x,B,dx,pl,bA,sh,t,u,kvs,rfl,_⟩:=h
  rfl
 ·obtain⟨x,B,dx,pl,bA,sh,t,u,kvs,rfl,hx,t0,t1,n4,hB,⟨p,hp,pp⟩,q⟩:=h;have hu:=iE hr;have pn:=hx.p.n;have mz:=hx.o;unfold fV at mz;refine⟨_,(aB (aT (i:=2) Fd.nd rfl (Or.inl rfl) (aL jT (aL bI (aU (pv 0) rfl) az) (bX eB rfl T.dU boot_len (aa (aU (pv 0) rfl) aj))))
   (aB (Kl PassesOwn.never (BU (Li hu (aZ dR (aZ bR (aU (pv 0) rfl) (pv 2) (λ_ _=>rfl)) az (λ_ _=>rfl)) (pv 1)))
   (aH (aT (i:=2) Fd.nd rfl (Or.inl rfl) (aL jT (aL bI (pv 2) az) (bX eB rfl T.dU boot_len (aa (aU (pv 0) rfl) aj))))))
   (aH (bx (pv 2))))),?_⟩
  wp_walk using T,mz;refine⟨_,.inl hx.p.sq,by rw[List.length_map];lia,?_⟩
  rw[List.length_map,pn];obtain⟨m0,g0⟩:=i8.start (pr:=λa=>(bF kvs (bC a)).isSome=true) t0 t1 hp pp;refine⟨λm σ H'=>∃t':Int,σ = [some (.ref x),some (.ref B),some (.int t')]/\H' = H/\i8 (λa=>(bF kvs (bC a)).isSome=true) sh t m t',⟨m0,_,rfl,rfl,g0⟩,?_⟩;rintro m σ H' ⟨t',rfl,rfl,g⟩;obtain⟨b0,b1⟩:=g.bd (by lia)
  obtain⟨pt,e1,e2⟩:=hx.p.ti b0 b1;wp_walk using T,mz;refine⟨_,hx.p.sq,_,e1,pt,rfl,_,aQ.of e2,_,rfl,_,.inl ⟨kvs,bC _,hB,rfl,rfl⟩,cO (λh0=>?_) λh0=>?_⟩
  ·refine⟨λaO H2=>∃m',m' < m/\∃t':Int,aO = [some (.ref x),some (.ref B),some (.int t')]/\H2=H'/\i8 (λa=>(bF kvs (bC a)).isSome=true) sh t m' t',λ_ _ h=>h,?_⟩;obtain⟨m',hm,g'⟩:=g.go (by simpa using h0)
   refine⟨_,.inl hx.p.sq,by rw[List.length_map];lia,m',hm,_,rfl,rfl,?_⟩
   rw[List.length_map,pn];exact g'
  ·exact q t' (g.stop (Option.isSome_iff_ne_none.mpr (by simpa using h0)))
theorem Ri(T:Tx K mg A):aR P w K mg base a_ 1 A.xP A.xQ ["share", "ahead"] abx:=by
 refine T.zU.ok abT (λvs H Q E h=>?_) (λaK Ar outer s H vs Q E hr h=>?_)
 ·obtain⟨s',h',rfl,_⟩:=h
  rfl
 ·obtain⟨s',h',rfl,s1,s4,h0,h1,q⟩:=h;refine⟨_,(aH (bx (aL bI (aL oN (pv 1) (pv 0)) az))),?_⟩;walk_at "rdm";exact⟨by lia,by lia,q⟩
theorem acI(T:Tx K mg A):aR P w K mg base a_ 1 A.xV A.xW ["zones"] (Yj K):=by
 refine T.FW.ok wB (λvs H Q E h=>?_) (λaK Ar outer s H vs Q E hr h=>?_)
 ·obtain⟨a,ts,z,rfl,_⟩:=h
  rfl
 ·obtain⟨a,ts,z,rfl,hz,ok,q⟩:=h;refine⟨_,(aB (bM (PW.pt (dW (br eO (bX eB rfl T.dU boot_len (aa (pv 0) aj)) az (bq _)) (eZ (br iz (bX eB rfl T.dU boot_len (aa (pv 0) aj)) (dN (v:=.int 5) rfl T.QU ⟨_,rfl⟩) (bq _))))) fB bT)
   (aB (cU PassesOwn.never rfl (e9 (pv 0)) (gi rfl (bN (aW (i:=1) wB.nd rfl (Or.inl rfl)) (bN (aW (i:=2) wB.nd rfl (Or.inl rfl)) e7)))
   (aB (bM (PW.pt (dW (br eO (pv 1) az (bq _)) (eZ (br iz (pv 1) (dN (v:=.int 40) rfl T.QV ⟨_,rfl⟩) (bq _))))) fB bT)
   (aH (bM (PW.pt (dW (br eO (pv 2) az (bq _)) (eZ (br iz (pv 2) (dN (v:=.int 60) rfl T.QW ⟨_,rfl⟩) (bq _))))) fB bT))))
   (aB (aT (i:=3) wB.nd rfl (Or.inl rfl) (bX (CQ rfl) rfl T.pW boot_sum (aa (g7 (N:=["zone"]) (nt:=1) (fv:=[]) (cL.of rfl rfl (by rfl) (by rfl) (by repeat (first | exact trivial | refine⟨rfl,?_⟩)) (by rfl) (by rfl) (by rfl) (by decide) (by decide +kernel)) rfl (e9 (pv 0)) (λC s H fp=>(aW (i:=0) (show List.Nodup (["zone"]:List Str) by decide +kernel) rfl (Or.inl rfl))) (λC s H fp=>gG) (λC s H fp=>(aZ (Ye (K:=K) rfl) (pv 0) az (λ_ _=>rfl)))) aj)))
   (aH (bM (PW.pt (dW (br eO (pv 3) (dN (v:=.int 2) rfl T.QX ⟨_,rfl⟩) (bq _)) (eZ (br iz (pv 3) (dN (v:=.int 120) rfl T.QY ⟨_,rfl⟩) (bq _))))) fB bT))))),?_⟩
  walk_at "rdm";have hn:=hz.n;have l1:=ok.l1;have l5:=ok.l5;refine⟨_,.inl hz.sq,by simp only[List.length_map];lia,_,.inl hz.sq,by simp only[List.length_map];lia,?_⟩
  refine rl a (ts.map V.ref) (λi σ H'=>∃r c,σ = [some (.ref a),r,c,none]/\H' = H) (λQ q=>⟨_,rfl,q⟩) hz.sq ⟨none,none,rfl,rfl⟩ (by rintro i σ H' _ ⟨r,c,rfl,rfl⟩;exact hz.sq) ?_ ?_
  ·rintro i x σ H' N hN hx ⟨r,c,rfl,rfl⟩;obtain⟨t,p,rfl,hp,ht⟩:=hz.at hx;refine j3 (aQ.of ht) rfl ?_;walk_at "rdm";obtain⟨h1,h2,h3,h4⟩:=ok.r p (get_mem hp);exact⟨by lia,by lia,by lia,by lia,hN _ _ ⟨_,_,rfl,rfl⟩⟩
  ·rintro σ H' ⟨r,c,rfl,rfl⟩;walk_at "rdm";refine lJ a (ts.map V.ref) (λD i ys au H2=>ys=((z.take i).map λp=>V.int p.1)/\H2 D=some (.lst ys)/\ah H' H2/\H' D=none/\i<=z.length/\∃u,au = [u]) (λQ q=>⟨_,rfl,q⟩) hz.sq ?_ ?_ ?_ ?_
   ·intro D hD;exact⟨rfl,aD,ah.put hD,hD,Nat.zero_le _,_,rfl⟩
   ·rintro D i ys au H2 ⟨e,e1,e2,e3,e4,_⟩;refine⟨e1,?_,e2.seq hz.sq⟩;rw[e];refine fK ?_;simp only[List.length_map,List.length_take];lia
   ·rintro D i x ys au H2 N hN hx ⟨e,e1,e2,e3,e4,u,rfl⟩;obtain⟨t,p,rfl,hp,ht⟩:=hz.at hx;have hl:=gH hp;walk_at "rdm";refine⟨_,aQ.of (e2 _ _ ht),_,rfl,e1,hN _ _ _ ⟨?_,aD,ah.put2 e2 e3,e3,hl,_,rfl⟩⟩;rw[take_succ_get hp,List.map_append,e];rfl
   ·rintro D ys au H2 ⟨e,e1,e2,e3,e4,u,rfl⟩;have e5:ys=(z.map λp=>p.1).map V.int:=by
     rw[e,lenZ hz.n,List.take_length,List.map_map];rfl
    rw[e5] at e1;walk_at "rdm";have s2:=ok.s2;have s1:=ok.CV;exact⟨_,aE.of e1,by lia,by lia,q _ e2⟩
theorem acJ(T:Tx K mg A):aR P w K mg base a_ 1 A.xX A.xY ["zones", "lap", "skew"] (Yk K):=by
 refine T.FY.ok Fg (λvs H Q E h=>?_) (λaK Ar outer s H vs Q E hr h=>?_)
 ·obtain⟨a,ts,z,aq,c7,rfl,_⟩:=h
  rfl
 ·obtain⟨a,ts,z,aq,c7,rfl,hz,ok,h1,h2,h3,h4,hd,q⟩:=h;refine⟨_,(aB (bM (PW.pt (dW (br eO (pv 1) az (bq _)) (eZ (br iz (pv 1) (dN (v:=.int 1000000000) rfl T.GW ⟨_,rfl⟩) (bq _))))) fB bT)
   (aB (cU PassesOwn.never rfl (e9 (pv 0)) (gi rfl (bN (aW (i:=3) Fg.nd rfl (Or.inl rfl)) (bN (aW (i:=4) Fg.nd rfl (Or.inl rfl)) e7)))
   (aH (bM (br iU (aL jT (pv 1) (pv 4)) az (bq _)) fB bT)))
   (aH (bM (PW.pt (dW (br eO (pv 2) az (bq _)) (eZ (br uB (pv 2) (pv 1) (bq _))))) fB bT)))),?_⟩
  walk_at "rdm";refine⟨by lia,by lia,?_⟩
  refine rl a (ts.map V.ref) (λi σ H'=>∃r c,σ = [some (.ref a),some (.int aq),some (.int c7),r,c]/\H' = H) (λQ q=>⟨_,rfl,q⟩) hz.sq ⟨none,none,rfl,rfl⟩ (by rintro i σ H' _ ⟨r,c,rfl,rfl⟩;exact hz.sq) ?_ ?_
  ·rintro i x σ H' N hN hx ⟨r,c,rfl,rfl⟩;obtain⟨t,p,rfl,hp,ht⟩:=hz.at hx;refine j3 (aQ.of ht) rfl ?_;obtain⟨g1,g2,g3,g4⟩:=ok.r p (get_mem hp);have g5:=hd p (get_mem hp);walk_at "rdm";exact⟨by lia,g5,hN _ _ ⟨_,_,rfl,rfl⟩⟩
  ·rintro σ H' ⟨r,c,rfl,rfl⟩;walk_at "rdm";exact⟨by lia,by lia,q⟩
theorem acK(T:Tx K mg A):aR P w K mg base a_ 1 A.x8 A.x9 ["swing"] (Ym K):=by
 refine T.F_.ok Fi (λvs H Q E h=>?_) (λaK Ar outer s H vs Q E hr h=>?_)
 ·obtain⟨a,sw,n,rfl,_⟩:=h
  rfl
 ·obtain⟨a,sw,n,rfl,hS,ok,hn,q⟩:=h;refine⟨_,(aH (cU PassesOwn.never rfl (qC rfl T.eW (aa az (aa (bX eB rfl T.dU boot_len (aa (pv 0) aj)) aj))) (aW (i:=1) Fi.nd rfl (Or.inl rfl))
   (aH (cU PassesOwn.never rfl (qC rfl T.eW (aa az (aa (aL bI (aL oN (pv 1) az) az) aj))) (aW (i:=2) Fi.nd rfl (Or.inl rfl))
   (aH (bM (br iz (aZ bR (pv 0) (pv 1) (λ_ _=>rfl)) (aL bI (aZ bR (pv 0) (pv 2) (λ_ _=>rfl)) (aZ bR (pv 0) (aL jS (pv 1) (pv 2)) (λ_ _=>rfl))) (bq _)) fB bT)))))),?_⟩
  walk_at "rdm";have hl:=ok.len;have h2:=ok.two;refine u_ 2 (sw.length:Int) (λi σ H'=>∃r c,σ = [some (.ref a),r,c]/\H' = H) (λQ q=>?_) (by lia) (by lia) (by lia) (by lia) ⟨none,none,rfl,rfl⟩ ?_ ?_
  ·walk_at "rdm";refine⟨_,.inl hS,?_⟩;simpa using q
  ·rintro i σ H' N hN hi ⟨r,c,rfl,rfl⟩;walk_at "rdm";refine u_ 1 ((2+(i:Int)) / 2+1) (λj σ H2=>∃c,σ = [some (.ref a),some (.int (2+(i:Int))),c]/\H2=H') (λQ q=>?_) (by lia) (by lia) (by lia) (by lia) ⟨_,rfl,rfl⟩ ?_ ?_
   ·walk_at "rdm";exact q
   ·rintro j σ H2 N2 G1 hj ⟨c,rfl,rfl⟩;walk_at "rdm";have e1:((2:Int)+(i:Int)).toNat=(1+j)+(1+i - j):=by lia
    have e2:((1:Int)+(j:Int)).toNat=1+j:=by lia
    have e3:((2:Int)+(i:Int) - (1+(j:Int))).toNat=1+i - j:=by lia
    have g:=ok.no (1+j) (1+i - j) (by lia) (by lia) (by lia)
    refine⟨_,hS,_,iG (by lia) (by lia),_,hS,_,iG (by lia) (by lia),_,hS,_,iG (by lia) (by lia),?_⟩
    walk_at "rdm";rw[e1,e2,e3];exact⟨by lia,G1 _ _ ⟨_,rfl,rfl⟩⟩
   ·rintro σ H2 ⟨c,rfl,rfl⟩;exact hN _ _ ⟨_,_,rfl,rfl⟩
  ·rintro σ H' ⟨r,c,rfl,rfl⟩;exact q
theorem acL(T:Tx K mg A):aR P w K mg base a_ 1 A.x_ A.yc ["zones"] (Yn K):=by
 refine T.Ga.ok wC (λvs H Q E h=>?_) (λaK Ar outer s H vs Q E hr h=>?_)
 ·obtain⟨a,ts,z,rfl,_⟩:=h
  rfl
 ·obtain⟨a,ts,z,rfl,hz,ok,q⟩:=h;refine⟨_,(aB (aT (i:=1) wC.nd rfl (Or.inl rfl) (dz aj))
   (aB (cU PassesOwn.never rfl (e9 (pv 0)) (gi rfl (bN (aW (i:=2) wC.nd rfl (Or.inl rfl)) (bN (aW (i:=3) wC.nd rfl (Or.inl rfl)) e7)))
   (aH (cH (iV PySem.F.plainAttrs_list PySem.F.slot_list_extend PySem.F.type_list_extend Cs (pv 1) (aa (aL uM (dz (aa (pv 3) aj)) (pv 2)) aj)))))
   (aH (bx (pv 1))))),?_⟩
  walk_at "rdm";refine λl hl=>?_;refine rl a (ts.map V.ref) (λi σ H'=>∃r c,σ = [some (.ref a),some (.ref l),r,c]/\ah H H'/\H' l=some (.lst ((counts (z.take i)).map V.int))) (λQ q=>⟨_,rfl,q⟩) (ah.put hl |>.seq hz.sq) ⟨none,none,rfl,ah.put hl,aD⟩ (by rintro i σ H' _ ⟨r,c,rfl,hs,_⟩;exact hs.seq hz.sq) ?_ ?_
  ·rintro i x σ H' N hN hx ⟨r,c,rfl,hs,h1⟩;obtain⟨t,p,rfl,hp,ht⟩:=hz.at hx;refine j3 (aQ.of (hs _ _ ht)) rfl ?_;obtain⟨g1,g2,g3,g4⟩:=ok.r p (get_mem hp);have g5:=LM ok i;walk_at "rdm";refine⟨⟨_,aE.of h1⟩,λp1 nK=>⟨by lia,by lia,by lia,λp2 kJ=>?_⟩⟩
   have s1:=(ah.put (o:=.lst [V.int p.2]) nK).trans (ah.put (o:=.lst (List.replicate p.1.toNat [V.int p.2]).flatten) kJ);refine⟨_,s1 _ _ h1,?_,hN _ _ ⟨_,_,rfl,ah.put2 (hs.trans s1) hl,?_⟩⟩
   ·simp only[LN,List.length_map,List.length_replicate];lia
   ·rw[aD,take_succ_get hp,LL,List.map_append,LN];simp[counts]
  ·rintro σ H' ⟨r,c,rfl,hs,h1⟩;walk_at "rdm";rw[lenZ hz.n,List.take_length] at h1;exact q _ _ hs hl h1
theorem acM(T:Tx K mg A):aR P w K mg base a_ 1 A.yd A.yf ["ring_cells", "spares"] (Yo K):=by
 refine T.Gb.ok r9 (λvs H Q E h=>?_) (λaK Ar outer s H vs Q E hr h=>?_)
 ·obtain⟨a,rc,s,rfl,_⟩:=h
  rfl
 ·obtain⟨a,rc,s,rfl,hS,hl,hc,vo,G2,q⟩:=h;refine⟨_,(aB (aT (i:=2) r9.nd rfl (Or.inl rfl) (dz aj))
   (aB (cU PassesOwn.never rfl (q_ rfl T.mj (aa (pv 0) aj)) (gi rfl (bN (aW (i:=3) r9.nd rfl (Or.inl rfl)) (bN (aW (i:=4) r9.nd rfl (Or.inl rfl)) e7)))
   (aH (cU PassesOwn.never rfl (iT rfl T.eW (aa (aL jS (pv 4) (pv 1)) aj)) (aW (i:=5) r9.nd rfl (Or.inl rfl))
   (aH (cH (iV PySem.F.plainAttrs_list PySem.F.slot_list_append PySem.F.type_list_append jW (pv 2) (aa (dP (aa (pv 3) (aa (pv 5) aj))) aj)))))))
   (aH (bx (pv 2))))),?_⟩
  walk_at "rdm";refine λl eE=>?_;have lV:=Yd (s:=s) vo (λc hx=>hc c hx);refine re a (rc.map V.int) (λi σ H'=>∃r c pl ts,σ = [some (.ref a),some (.int s),some (.ref l),r,c,pl]/\ah H H'/\(∀t∈ts,H t=none)/\Zn H' l ts (dX s 0 (rc.take i))) (λQ q=>?_) (ah.put eE |>.seq hS)
   ⟨none,none,none,[],rfl,ah.put eE,(by intro t ht;cases ht),aD,rfl,by intro i t p h;simp at h⟩ (by rintro i σ H' _ ⟨r,c,pl,ts,rfl,hs,_⟩;exact hs.seq hS) ?_ ?_
  ·walk_at "rdm";exact q
  ·rintro i x σ H' T1 N hN hx ⟨r,c,pl,ts,rfl,hs,nY,hz⟩ hT;obtain⟨c0,G3,rfl⟩:=iH hx;obtain⟨g1,g2⟩:=hc c0 (get_mem G3);refine j3 (aQ.of aD) rfl ?_;walk_at "rdm";have Rj:=ah.put (o:=.tup [.int i,.int c0]) hT;refine LQ (c0 - s) (λj σ H2=>∃pl ts,σ = [some (.ref a),some (.int s),some (.ref l),some (.int i),some (.int c0),pl]/\ah H H2/\(∀t∈ts,H t=none)/\Zn H2 l ts (dX s 0 (rc.take i)++(List.range j).map λ(k:Nat)=>((i:Int),(k:Int)))) (λQ q=>?_) (by lia) (by lia) ?_ ?_ ?_
   ·walk_at "rdm";exact q
   ·exact⟨_,ts,rfl,hs.trans Rj,nY,by simpa using hz.same Rj⟩
   ·rintro j σ H2 N2 G1 hj ⟨pl,ts,rfl,iy,G4,mD⟩;walk_at "rdm";refine⟨⟨_,mD.sq⟩,λp hp=>⟨_,ah.put hp _ _ mD.l,?_,G1 _ _ ⟨_,ts++[p],rfl,ah.put2 (iy.trans (ah.put hp)) eE,?_,?_⟩⟩⟩
    ·have h1:=mD.n;have h2:=lV i;simp only[List.length_map,List.length_append,List.length_range] at h1 ⊢;lia
    ·intro t ht;rcases List.mem_append.mp ht with ht | ht
     ·exact G4 t ht
     ·rw[List.mem_singleton.mp ht];exact iy.free hp
    ·have:=mD.snoc hp (i:Int) (j:Int);rw[List.range_succ,List.map_append,← List.append_assoc];exact this
   ·rintro σ H2 ⟨pl,ts,rfl,iy,G4,mD⟩;refine hN _ _ ⟨_,_,_,ts,rfl,iy,G4,?_⟩;rw[take_succ_get G3,LI];have hi:=gH G3;simpa[dX,Nat.min_eq_left (Nat.le_of_lt hi)] using mD
  ·rintro σ H' ⟨r,c,pl,ts,rfl,hs,nY,hz⟩;walk_at "rdm";rw[List.length_map,List.take_length] at hz;exact q _ _ _ hs eE nY hz
theorem acN(T:Tx K mg A):aR P w K mg base a_ 1 A.yg A.yh ["number_cells"] (Yp K):=by
 refine T.Gd.ok wD (λvs H Q E h=>?_) (λaK Ar outer s H vs Q E hr h=>?_)
 ·obtain⟨a,ts,z,rfl,_⟩:=h
  rfl
 ·obtain⟨a,ts,z,rfl,hz,hlen,q⟩:=h;have hu:=iE hr;refine⟨_,(aB (aT (i:=1) wD.nd rfl (Or.inl rfl) Xj)
   (aB (cU PassesOwn.never rfl (q_ rfl T.mj (aa (pv 0) aj)) (gi rfl (bN (aW (i:=2) wD.nd rfl (Or.inl rfl)) (bN (aW (i:=3) wD.nd rfl (Or.inl rfl)) e7)))
   (aH (qR hu (pv 1) (pv 3) (pv 2) rfl)))
   (aH (bx (pv 1))))),?_⟩
  walk_at "rdm";refine λd hd=>?_;refine re a (ts.map V.ref) (λi σ H'=>∃r c,σ = [some (.ref a),some (.ref d),r,c]/\ah H H'/\i<=z.length/\H' d=some (.dT (f_ 0 (z.take i) []))) (λQ q=>?_) (ah.put hd |>.seq hz.sq)
   ⟨none,none,rfl,ah.put hd,Nat.zero_le _,aD⟩ (by rintro i σ H' _ ⟨r,c,rfl,hs,_⟩;exact hs.seq hz.sq) ?_ ?_
  ·walk_at "rdm";exact q
  ·rintro i x σ H' T1 N hN hx ⟨r,c,rfl,hs,hi,h1⟩ hT;obtain⟨t,p,rfl,hp,ht⟩:=hz.at hx;refine j3 (aQ.of aD) rfl ?_;walk_at "rdm";have G2:=hs.trans (ah.put (o:=.tup [.int i,.ref t]) hT);have hl:=LK (z.take i) 0 [];have AK:=gH hp;rw[List.length_take,List.length_nil] at hl;refine⟨_,jA.t (k:=kT p) (ah.put hT _ _ h1) (G2 _ _ ht) (by rw[kM];lia),hN _ _ ⟨_,_,rfl,ah.put2 G2 hd,AK,?_⟩⟩
   rw[aD,take_succ_get hp,LJ];simp[f_,Nat.min_eq_left (Nat.le_of_lt AK)]
  ·rintro σ H' ⟨r,c,rfl,hs,hi,h1⟩;walk_at "rdm";rw[lenZ hz.n,List.take_length] at h1;exact q _ _ hs hd h1
theorem ag9(T:Tx K mg A):aR P w K mg base a_ 1 A.sf A.yl ["self"] (Ys K):=by
 refine T.O0.ok abV (λvs H Q E h=>?_) (λaK Ar outer s H vs Q E hr h=>?_)
 ·obtain⟨C,p,P,fp,rfl,_⟩:=h
  rfl
 ·obtain⟨C,p,P,fp,rfl,hP,q⟩:=h;obtain⟨dx,a1,a2,a3,a4,ts,fs,rfl,h⟩:=hP;refine⟨_,(aH (bx (bX eB rfl T.dU boot_len (aa (aU (pv 0) rfl) aj)))),?_⟩;wp_walk using T,h.o,h.f1,h.f2,h.f3,h.f4,h.f5,h.f6,h.m1,h.m2,h.m3,h.m4,h.m5,h.m6,h.m7,h.m8,h.m9,h.iZ,h.i6,h.cp.cl,h.cp.n1,h.cp.n2,h.cp.n3,h.cp.n4,h.cp.n5,h.cp.n6;exact⟨_,.inl (aE.of h.rc),by simpa  using q⟩
theorem Rk(T:Tx K mg A):aR P w K mg base a_ 1 A.su A.ym ["self", "ring"] (Yu K):=by
 refine T.O2.ok abW (λvs H Q E h=>?_) (λaK Ar outer s H vs Q E hr h=>?_)
 ·obtain⟨C,p,P,fp,r,rfl,_⟩:=h
  rfl
 ·obtain⟨C,p,P,fp,r,rfl,hP,h0,h1,h2,h3,q⟩:=h;obtain⟨dx,a1,a2,a3,a4,ts,fs,rfl,h⟩:=hP;refine⟨_,(aH (bx (aL oN (aU (pv 0) rfl) (aZ bR (aU (pv 0) rfl) (pv 1) (λ_ _=>rfl))))),?_⟩;wp_walk using T,h.o,h.f1,h.f2,h.f3,h.f4,h.f5,h.f6,h.m1,h.m2,h.m3,h.m4,h.m5,h.m6,h.m7,h.m8,h.m9,h.iZ,h.i6,h.cp.cl,h.cp.n1,h.cp.n2,h.cp.n3,h.cp.n4,h.cp.n5,h.cp.n6;refine⟨_,aE.of h.rc,_,iG h0 h1,?_⟩;walk_at "rdm";exact⟨h2,by lia,q⟩
theorem Rl(T:Tx K mg A):aR P w K mg base a_ 1 A.sy A.yp ["self"] (Yt K):=by
 refine T.O4.ok abX (λvs H Q E h=>?_) (λaK Ar outer s H vs Q E hr h=>?_)
 ·obtain⟨C,p,P,fp,rfl,_⟩:=h
  rfl
 ·obtain⟨C,p,P,fp,rfl,hP,q⟩:=h;obtain⟨dx,a1,a2,a3,a4,ts,fs,rfl,h⟩:=hP;refine⟨_,(aH (bx (aU (pv 0) rfl))),?_⟩;wp_walk using T,h.o,h.f1,h.f2,h.f3,h.f4,h.f5,h.f6,h.m1,h.m2,h.m3,h.m4,h.m5,h.m6,h.m7,h.m8,h.m9,h.iZ,h.i6,h.cp.cl,h.cp.n1,h.cp.n2,h.cp.n3,h.cp.n4,h.cp.n5,h.cp.n6;exact q
theorem acO(T:Tx K mg A):aR P w K mg base a_ 1 A.sD A.yr ["self", "ring", "other"] (Yr K):=by
 refine T.O9.ok abZ (λvs H Q E h=>?_) (λaK Ar outer s H vs Q E hr h=>?_)
 ·obtain⟨C,p,P,fp,i,j,rfl,_⟩:=h
  rfl
 ·obtain⟨C,p,P,fp,i,j,rfl,hP,hi,q⟩:=h;obtain⟨dx,a1,a2,a3,a4,ts,fs,rfl,h⟩:=hP;refine⟨_,(aH (bx (aZ bR (aU (pv 0) rfl) (bX V7 rfl T.Ah boot_abs (aa (aL jS (pv 1) (pv 2)) aj)) (λ_ _=>rfl)))),?_⟩;wp_walk using T,h.o,h.f1,h.f2,h.f3,h.f4,h.f5,h.f6,h.m1,h.m2,h.m3,h.m4,h.m5,h.m6,h.m7,h.m8,h.m9,h.iZ,h.i6,h.cp.cl,h.cp.n1,h.cp.n2,h.cp.n3,h.cp.n4,h.cp.n5,h.cp.n6;refine⟨_,aE.of h.sw,_,iG (k:=if i - j<0 then -(i - j) else i - j) (by split <;> lia) (by split <;> lia),?_⟩
  have e:(if i - j<0 then -(i - j) else i - j).toNat=(i - j).natAbs:=by split <;> lia
  rw[e];exact q
theorem acP(T:Tx K mg A):aR P w K mg base a_ 1 A.sE A.yt ["self", "number"] (Yw K):=by
 refine T.Pb.ok ab0 (λvs H Q E h=>?_) (λaK Ar outer s H vs Q E hr h=>?_)
 ·obtain⟨C,p,P,fp,k,rfl,_⟩:=h
  rfl
 ·obtain⟨C,p,P,fp,k,rfl,hP,h0,h1,q⟩:=h;obtain⟨dx,a1,a2,a3,a4,ts,fs,rfl,h⟩:=hP;refine⟨_,(aB (bM (PW.pt (dW (br eO (pv 1) az (bq _)) (eZ (br uB (pv 1) (bX eB rfl T.dU boot_len (aa (aU (pv 0) rfl) aj)) (bq _))))) fB bT)
   (aH (bx (aZ bR (aU (pv 0) rfl) (pv 1) (λ_ _=>rfl))))),?_⟩
  wp_walk using h.o,h.f1,h.f2,h.f3,h.f4,h.f5,h.f6,h.m1,h.m2,h.m3,h.m4,h.m5,h.m6,h.m7,h.m8,h.m9,h.iZ,h.i6,h.cp.cl,h.cp.n1,h.cp.n2,h.cp.n3,h.cp.n4,h.cp.n5,h.cp.n6;have hn:=h.nc.n;refine⟨by lia,_,.inl h.nc.sq,by rw[List.length_map];lia,?_⟩
  have hk:k.toNat<ts.length:=by lia
  have g1:(ts.map V.ref)[k.toNat]? = some (V.ref ts[k.toNat]):=by simp[hk]
  obtain⟨t,q',e1,e2,e3⟩:=h.nc.at g1;have ek:k=(k.toNat:Int):=by lia
  refine⟨_,h.nc.sq,V.ref ts[k.toNat],?_,?_⟩
  ·have:=dQ g1;rwa [← ek] at this
  ·rw[e1];exact q t q' e2 e3
theorem acQ(T:Tx K mg A):aR P w K mg base a_ 1 A.yD A.yE ["asks", "number"] (Z4 K A.bf):=by
 refine T.Gj.ok ab5 (λvs H Q E h=>?_) (λaK Ar outer s H vs Q E hr h=>?_)
 ·obtain⟨la,ps,qs,k,q',rfl,_⟩:=h
  rfl
 ·obtain⟨la,ps,qs,k,q',rfl,ha,hk,up,q⟩:=h;refine⟨_,(aH (bM (PW.pt (BW (br iz (pv 1) az (bq _)) (BV (br eO (aU (aZ bR (pv 0) (pv 1) (λ_ _=>rfl)) rfl) (aU (aZ bR (pv 0) (aL jS (pv 1) az) (λ_ _=>rfl)) rfl) (bq _))))) fB bT)),?_⟩;walk_at "rdt";refine cO (λh0=>?_) (λh0=>q)
  obtain⟨p,m,b,dx,e1,a1⟩:=ha.at hk;have G5:=(List.getElem?_eq_some_iff.mp hk).1;have h1:k - 1<qs.length:=by lia
  obtain⟨p0,m0,b0,Rm,e2,a2⟩:=ha.at (List.getElem?_eq_getElem h1);have DS:=up _ (by lia) (List.getElem?_eq_getElem h1)
  have e2':ez (ps.map V.ref) ((k:Int) - 1)=some (.ref p0):=by
   have:=dQ e2;rwa [show ((k - 1:Nat):Int)=(k:Int) - 1 by lia] at this
  refine⟨_,aE.of ha.l,_,dQ e1,_,rfl,_,_,_,a1.o,T.kg,T.nW,_,rfl,_,aE.of ha.l,_,e2',_,rfl,_,_,_,a2.o,T.kg,T.nW,_,rfl,_,rfl,_,rfl,by lia,q⟩
theorem acR(T:Tx K mg A):aR P w K mg base a_ 1 A.yF A.yG ["asks", "number"] (Z5 K A.bf):=by
 refine T.Gk.ok NU (λvs H Q E h=>?_) (λaK Ar outer s H vs Q E hr h=>?_)
 ·obtain⟨la,ps,qs,k,q',rfl,_⟩:=h
  rfl
 ·obtain⟨la,ps,qs,k,q',rfl,ha,hk,bl,bh,q⟩:=h;refine⟨_,(aH (cU PassesOwn.never rfl (B6 (aU (aZ bR (pv 0) (pv 1) (λ_ _=>rfl)) rfl)) (aW (i:=2) NU.nd rfl (Or.inl rfl))
   (aH (bM (PW.pt (dW (br uB (pv 2) (pv 1) (bq _)) (eZ (br lG (aU (aZ bR (pv 0) (pv 2) (λ_ _=>rfl)) rfl) eN (bq _))))) fB bT)))),?_⟩
  walk_at "rdt";obtain⟨p,m,b,dx,e1,a1⟩:=ha.at hk;refine rt b (q'.behind.map V.int) (λi σ H'=>∃(x:Option V),σ = [some (.ref la),some (.int (k:Int)),x]/\H' = H) (λQ q=>?_) (aQ.of a1.bh) ⟨none,rfl,rfl⟩ (by rintro i σ H' _ ⟨_,rfl,rfl⟩;exact aQ.of a1.bh) ?_ ?_
  ·walk_at "rdm";exact⟨_,aE.of ha.l,_,dQ e1,_,rfl,_,_,_,a1.o,T.kg,T.tD,_,rfl,q⟩
  ·rintro i x σ H' N hN hx ⟨x0,rfl,rfl⟩;obtain⟨n,hn,rfl⟩:=iH hx;obtain⟨j,q0,rfl,hj,e2,kr⟩:=bh n (List.mem_of_getElem? hn);obtain⟨p0,m0,b0,Rm,e3,a2⟩:=ha.at e2;walk_at "rdm";exact⟨by lia,_,aE.of ha.l,_,dQ e3,_,rfl,_,_,_,a2.o,T.kg,T.tu,_,rfl,rfl,λz=>kr (V.str.inj z),hN _ _ ⟨_,rfl,rfl⟩⟩
  ·rintro σ H' ⟨x0,rfl,rfl⟩;exact q
theorem acS(T:Tx K mg A):aR P w K mg base a_ 1 A.yN A.yO ["self"] (aa7 K A.bw A.bf A.bQ):=by
 refine T.Pz.ok NW (λvs H Q E h=>?_) (λaK Ar outer s H vs Q E hr h=>?_)
 ·obtain⟨x,dx,kp,ks,kk,p,r,b,Dx,ls,rfl,_⟩:=h
  rfl
 ·obtain⟨x,dx,kp,ks,kk,p,r,b,Dx,ls,rfl,hc,l1,q⟩:=h;have hn:=hc.n;have ho:=hc.o;unfold c9 at ho;refine⟨_,(aB (M3 (qX (i:=1) NW.nd rfl (Or.inl rfl) (N:=["due"]) (nt:=1) (fv:=[]) (cL.of rfl rfl (by rfl) (by rfl) (by repeat (first | exact trivial | refine⟨rfl,?_⟩)) (by rfl) (by rfl) (by rfl) (by decide) (by decide +kernel)) rfl (MX (aU (pv 0) rfl)) (λC s H fp=>(aW (i:=0) (show List.Nodup (["due"]:List Str) by decide +kernel) rfl (Or.inl rfl))) (λC s H fp=>gG) (λC s H fp=>(lQ (K:=K) rfl (lQ (K:=K) rfl (pv 0) rfl) rfl))))
   (aH (cg (pv 0) (bX (V8 rfl) rfl T.Al boot_max (aa (aU (pv 0) rfl) (aa (aa0 rfl T.tK rfl (pv 1) (aU (pv 0) rfl)) aj))) rfl))),?_⟩
  refine M4 Dx (cC ls) (λob D i ys au H2=>∃(u:Option V),ys=(ls.take i).map (λy=>V.int y.1.q.at_)/\au = [u]/\H2 D=some (.lst ys)/\H2 Dx=some (.bL ob (.dK (cC ls)))/\bK x Dx H H2/\H D=none/\H2 x=H x) (λQ q=>?_) hc.d hc.nf ?_ ?_ ?_ ?_
  ·wp_walk using T,ho;exact q
  ·intro ob D nD;have n1:Dx≠D:=cj hc.d nD;have n2:x≠D:=cj hc.o nD;have n3:=hc.ne;exact⟨none,rfl,rfl,aD,by rw[aC n1,aD],(bK.of (λ_ _ e=>e)).pJ.put nD,nD,by rw[aC n2,aC n3]⟩
  ·rintro ob D i ys au H2 ⟨u,rfl,rfl,e1,e2,e3,e4,e5⟩;exact⟨e1,fK (by simp only[List.length_map,List.length_take];lia),e2⟩
  ·rintro ob D i y ys au H2 N hN hy ⟨u,rfl,rfl,e1,e2,e3,e4,e5⟩;unfold cC at hy;obtain⟨z,hz,rfl⟩:=iH hy;have hi:i<ls.length:=gH hz;have k_:z=ls[i]:=by rw[List.getElem?_eq_getElem hi] at hz;exact(Option.some.inj hz).symm
   subst k_;obtain⟨dG,ap,l,ts,m,b',bY,hD⟩:=hc.pK e3 (hc.t _ (List.getElem_mem hi));have ie:=hD.o;have jK:=hD.a.o;unfold j5 at ie;unfold fQ at jK;wp_walk using T,ie,jK;have n1:Dx≠D:=cj hc.d e4;have n2:x≠D:=cj hc.o e4;refine⟨e1,hN _ _ _ ⟨_,?_,rfl,aD,by rw[aC n1];exact e2,e3.put e4,e4,by rw[aC n2];exact e5⟩⟩
   rw[take_succ_get (List.getElem?_eq_getElem hi),List.map_append];rfl
  ·rintro ob D ys au H2 ⟨u,rfl,rfl,e1,e2,e3,e4,e5⟩;have n1:Dx≠D:=cj hc.d e4;have n3:=hc.ne;have j7:upd H2 Dx (.dK (cC ls)) x=some (.ins A.bw dx [("keeping",V.ref kp),("plate",V.ref p),("ring",V.int r),("beat",V.int b),("left",V.ref Dx)]):=by rw[aC n3,e5];exact ho
   rw[rR,List.take_length] at e1;wp_walk using T,MY,j7;refine⟨ls.map (λy=>y.1.q.at_),aE.of (by rw[aC (Ne.symm n1),List.map_map];exact e1),by rw[List.length_map];lia,λM hM hl=>?_⟩
   have bc:bK x Dx H (upd (upd H2 Dx (.dK (cC ls))) x (.ins A.bw dx [("keeping",V.ref kp),("plate",V.ref p),("ring",V.int r),("beat",V.int (if b<M then M else b)),("left",V.ref Dx)])):=e3.pJ.DF
   refine q _ _ ⟨M,?_,λy hy=>hl _ (List.mem_map.mpr ⟨y,hy,rfl⟩),rfl⟩ bc (hc.step bc (.refl _) aD (by rw[aC (Ne.symm n3),aD]))
   obtain⟨y,hy,e⟩:=List.mem_map.mp hM;exact⟨y,hy,e⟩
theorem acT(T:Tx K mg A):aR P w K mg base a_ 1 A.yP A.yQ ["self", "number"] (aa8 K A.bw A.bf A.bQ):=by
 refine T.PF.ok ab6 (λvs H Q E h=>?_) (λaK Ar outer s H vs Q E hr h=>?_)
 ·obtain⟨x,dx,kp,ks,kk,p,r,b,Dx,ls,n,ns,rfl,_⟩:=h
  rfl
 ·obtain⟨x,dx,kp,ks,kk,p,r,b,Dx,ls,n,ns,rfl,hc,hk,hn,q⟩:=h;have hu:=iE hr;have ho:=hc.o;unfold c9 at ho;have tL:=hc.k.n;have hnk:n<kk.length:=gH hk;have acU:n<ks.length:=by lia
  have Rn:=List.getElem?_eq_getElem acU;have Ro:=hc.k.t n _ ns Rn hk;refine⟨_,(aH (bx (bX (YH rfl) rfl T.Ai boot_any (aa (g7 (N:=["other", "self"]) (nt:=1) (fv:=[0]) (cL.of rfl rfl (by rfl) (by rfl) (by repeat (first | exact trivial | refine⟨rfl,?_⟩)) (by rfl) (by rfl) (by rfl) (by decide) (by decide +kernel)) rfl (B6 (aZ bR (aU (pv 0) rfl) (pv 1) (λ_ _=>rfl))) (λC s H fp=>(aW (i:=0) (show List.Nodup (["other", "self"]:List Str) by decide +kernel) rfl (Or.inl rfl))) (λC s H fp=>gG) (λC s H fp=>(VA (Lh hu (pv 0) (lQ (K:=K) rfl (pv 1) rfl))))) aj)))),?_⟩
  walk_at "rdt";refine aa3 ks[n] (ns.map V.int) (λD i ys au H2=>∃(u:Option V),ys=((ns.take i).map (jG ls)).map V.bl/\au = [u,some (.ref x)]/\H2 D=some (.lst ys)/\ah H H2/\H D=none) (λQ q=>?_) (aQ.of Ro) ?_ ?_ ?_ ?_
  ·wp_walk using T,ho;exact⟨_,aE.of hc.k.l,_,dQ (by rw[List.getElem?_map,Rn];rfl),q⟩
  ·intro D nD;exact⟨none,rfl,rfl,aD,ah.put nD,nD⟩
  ·rintro D i ys au H2 ⟨u,rfl,rfl,e1,e2,e3⟩;exact⟨e1,fK (by simp only[List.length_map,List.length_take];lia),aQ.of (e2 _ _ Ro)⟩
  ·rintro D i y ys au H2 N hN hy ⟨u,rfl,rfl,e1,e2,e3⟩;obtain⟨m,hm,rfl⟩:=iH hy;have j7:=e2 _ _ ho;have hd2:=e2 _ _ hc.d;wp_walk using T,j7;refine⟨_,fJ.k (k:=bC m) hd2,e1,hN _ _ _ ⟨_,?_,rfl,aD,ah.put2 e2 e3,e3⟩⟩;rw[take_succ_get hm,List.map_append,List.map_append,M6];rfl
  ·rintro D ys au H2 ⟨u,rfl,rfl,e1,e2,e3⟩;rw[List.length_map,List.take_length] at e1;refine⟨D,rfl,_,aE.of e1,?_⟩;have ea:(ns.map (jG ls)).any id=ns.any (jG ls):=by rw[List.any_map];rfl
   rw[ea];exact q H2 e2
theorem acV(T:Tx K mg A):aR P w K mg base a_ 1 A.yV A.yW ["self", "rows", "taken", "told", "answers", "end"] (Na A.cY):=by
 refine T.PY.ok ab7 (λvs H Q E h=>?_) (λaK Ar outer s H vs Q E hr h=>?_)
 ·obtain⟨x,dx,v1,v2,v3,v4,v5,rfl,_⟩:=h
  rfl
 ·obtain⟨x,dx,v1,v2,v3,v4,v5,rfl,hx,q⟩:=h;refine⟨_,(aB (cg (pv 0) (pv 1) rfl)
   (aB (cg (pv 0) (pv 2) rfl)
   (aB (cg (pv 0) (pv 3) rfl)
   (aB (cg (pv 0) (pv 4) rfl)
   (aH (cg (pv 0) (pv 5) rfl)))))),?_⟩
  wp_walk using T,hx;exact q
theorem acW(T:Tx K mg A):aR P w K mg base a_ 1 A.yX A.yY ["rows"] (abf K):=by
 refine T.Gp.ok nO (λvs H Q E h=>?_) (λaK Ar outer s H vs Q E hr h=>?_)
 ·obtain⟨l,ts,z,rfl,_⟩:=h
  rfl
 ·obtain⟨l,ts,z,rfl,hz,z1,z5,q⟩:=h;have hu:=iE hr;have Rp:=hz.n;refine⟨_,(aB (aT (i:=1) nO.nd rfl (Or.inl rfl) qT)
   (aB (cU PassesOwn.never rfl (e9 (pv 0)) (gi rfl (bN (aW (i:=2) nO.nd rfl (Or.inl rfl)) (bN (aW (i:=3) nO.nd rfl (Or.inl rfl)) (bN (aW (i:=4) nO.nd rfl (Or.inl rfl)) (bN (aW (i:=5) nO.nd rfl (Or.inl rfl)) (bN (aW (i:=6) nO.nd rfl (Or.inl rfl)) e7))))))
   (aH (qR hu (pv 1) (pv 2) (pv 6) rfl)))
   (aH (bx (pv 1))))),?_⟩
  walk_at "rdt";intro kd iO;refine rl l (ts.map V.ref) (λi σ H'=>∃(u1 u2 u3 u4 u5:Option V) (kvs:List (Key×V)),σ = [some (.ref l),some (.ref kd),u1,u2,u3,u4,u5]/\ah H H'/\H' kd=some (.dK kvs)/\kvs.length<=i/\∀n:Int,(∃r∈z.take i,r.head? = some n)->∃e:Int,bF kvs (bC n)=some (.int e)) (λQ q=>⟨_,rfl,q⟩) (aE.of (ah.put iO _ _ hz.l)) ⟨none,none,none,none,none,[],rfl,ah.put iO,aD,Nat.le_refl _,λn ⟨r,hr,_⟩=>by simp at hr⟩ (by rintro i σ H' _ ⟨_,_,_,_,_,_,rfl,s',_⟩;exact aE.of (s' _ _ hz.l)) ?_ ?_
  ·rintro i x σ H' N hN hx ⟨u1,u2,u3,u4,u5,kvs,rfl,s',hk,hl,hv⟩;obtain⟨t,ht,rfl⟩:=iH hx;have hi:i<z.length:=by rw[← Rp];exact gH ht
   have G6:=List.getElem?_eq_getElem hi;have hT:=s' _ _ (hz.t i t _ ht G6);obtain⟨q1,q2,q3,q4,q5,e5⟩:=M_ (z5 _ (List.getElem_mem hi));rw[e5] at hT G6;walk_at "rdt";refine⟨_,aQ.of hT,rfl,_,_,rfl,_,_,rfl,_,_,rfl,_,_,rfl,_,_,rfl,rfl,?_⟩;refine⟨_,jA.k (k:=bC q1) hk (by rw[kM];lia),hN _ _ ⟨_,_,_,_,_,_,rfl,ah.put2 s' iO,aD,?_,λn hn=>?_⟩⟩
   ·have:=Dp kvs (bC q1) (V.int q5);lia
   ·rw[qP];by_cases e:n=q1
    ·subst e;exact⟨q5,by simp⟩
    ·rw[if_neg (λz=>e (rQ.mp z))];refine hv n ?_;rw[take_succ_get G6] at hn;obtain⟨r,hr,hh⟩:=hn;rcases List.mem_append.mp hr with hr | hr
     ·exact⟨r,hr,hh⟩
     ·rw[List.mem_singleton.mp hr] at hh;exact absurd (Option.some.inj hh).symm e
  ·rintro σ H' ⟨u1,u2,u3,u4,u5,kvs,rfl,s',hk,hl,hv⟩;rw[List.length_map,Rp,List.take_length] at hv;walk_at "rdm";exact q kd kvs H' s' iO hk hv
theorem acX(T:Tx K mg A):aR P w K mg base a_ 1 A.yZ A.y_ ["ask"] (abg K A.bf):=by
 refine T.Gq.ok ab8 (λvs H Q E h=>?_) (λaK Ar outer s H vs Q E hr h=>?_)
 ·obtain⟨a,q',m,b,dx,rfl,_⟩:=h
  rfl
 ·obtain⟨a,q',m,b,dx,rfl,ha,f0,f1,m0,m1,q⟩:=h;have jK:=ha.o;unfold fQ at jK;refine⟨_,(aH (bx (YN rfl T.nX rfl T.eW rfl (aa (aU (pv 0) rfl) (aa (aL bI (aU (pv 0) rfl) (aU (pv 0) rfl)) aj))))),?_⟩;wp_walk using T,jK;exact⟨by lia,by lia,by lia,by lia,by lia,λl nl=>q l ((List.range (q'.first+q'.many - q'.first).toNat).map λ(k:Nat)=>q'.first+(k:Int)) _ (ah.put nl) nl (by rw[List.length_map,List.length_range];lia) (by rw[aD,List.map_map];rfl)⟩
theorem acY(T:Tx K mg A):aR P w K mg base a_ 1 A.zd A.ze ["asks", "ends", "shelf"] (Nc K A.bf):=by
 refine T.Gs.ok pT (λvs H Q E h=>?_) (λaK Ar outer s H vs Q E hr h=>?_)
 ·obtain⟨la,ps,qs,E',kvs,sh,rfl,_⟩:=h
  rfl
 ·obtain⟨la,ps,qs,E',kvs,sh,rfl,ha,q1,hq,hE,hv,q⟩:=h;have hu:=iE hr;have an:=ha.n;refine⟨_,(aB (aT (i:=3) pT.nd rfl (Or.inl rfl) (dz aj))
   (aB (aT (i:=4) pT.nd rfl (Or.inl rfl) (dz aj))
   (aB (aT (i:=5) pT.nd rfl (Or.inl rfl) (dz aj))
   (aB (cU PassesOwn.never rfl (q_ rfl T.mj (aa (pv 0) aj)) (gi rfl (bN (aW (i:=6) pT.nd rfl (Or.inl rfl)) (bN (aW (i:=7) pT.nd rfl (Or.inr rfl)) e7)))
   (aH (bM (br lG (aU (pv 7) rfl) eN (bq _)) fB (aH (bM (jP (aU (pv 7) rfl)) fB (aH (cH (iV PySem.F.plainAttrs_list PySem.F.slot_list_append PySem.F.type_list_append jW (pv 3) (aa (Lg hu (pv 1) (pv 6) (λ_ _=>rfl)) aj)))))))))
   (aH (bx (pv 3))))))),?_⟩
  walk_at "rdt";intro t1 n1 t2 n2 t3 n3;have s3:=((ah.put (o:=.lst []) n1).trans (ah.put (o:=.lst []) n2)).trans (ah.put (o:=.lst []) n3);have h1:upd (upd (upd H t1 (.lst [])) t2 (.lst [])) t3 (.lst []) t1=some (.lst []):=((ah.put (o:=.lst []) n2).trans (ah.put (o:=.lst []) n3)) _ _ aD;generalize upd (upd (upd H t1 (.lst [])) t2 (.lst [])) t3 (.lst [])=H1 at *
  refine re la (ps.map V.ref) (λk σ H'=>∃(x1 x2:Option V) (ns:List Int),σ = [some (.ref la),some (.ref E'),some (.int sh),some (.ref t1),some (.ref t2),some (.ref t3),x1,x2]/\ah H H'/\H' t1=some (.lst (ns.map V.int))/\ns.length<=k) (λQ q=>?_) (aE.of (s3 _ _ ha.l)) ⟨none,none,[],rfl,s3,h1,Nat.le_refl _⟩ (by rintro i σ H' _ ⟨_,_,_,rfl,s1,_⟩;exact aE.of (s1 _ _ ha.l)) ?_ ?_
  ·walk_at "rdm";exact q
  ·rintro k x σ H' T1 N hN hx ⟨x1,x2,ns,rfl,s1,ht,hl⟩ hT;have Rq:k<ps.length:=by have:=(List.getElem?_eq_some_iff.mp hx).1;simpa using this
   have hk:k<qs.length:=by lia
   have gP:=List.getElem?_eq_getElem hk;obtain⟨ap,m,b,dx,e1,a1⟩:=ha.at gP;rw[e1] at hx;cases hx;have s2:=s1.trans (ah.put (o:=.tup [.int (k:Int),.ref ap]) hT);refine j3 (aQ.of aD) rfl ?_;obtain⟨k1,k2⟩:=hq _ (List.getElem_mem hk);have a2:=(a1.same s2).o;unfold fQ at a2;rw[k1,k2] at a2;have nk:((Str.ofString "read"):Str)≠"rest" := Dj (by decide)
   obtain⟨e,he⟩:=hv (k:Int) (by lia) (by lia)
   wp_walk using T,a2;have Rr:=ah.put (o:=.tup [.int (k:Int),.ref ap]) hT _ _ ht;refine⟨not_false,not_false,⟨_,aE.of Rr⟩,_,he▸fJ.k (k:=bC (k:Int)) (s2 _ _ hE),_,Rr,by rw[List.length_map];lia,hN _ _ ⟨_,_,ns++[e],rfl,ah.put2 s2 n1,by rw[aD,List.map_append];rfl,by rw[List.length_append,List.length_singleton];lia⟩⟩
  ·rintro σ H' ⟨x1,x2,ns,rfl,s1,ht,hl⟩;walk_at "rdm";exact q _ _ s1
theorem nZ(T:Tx K mg A):aR P w K mg base a_ 1 A.zj A.zm ["_law_script", "_law_k"] (eT K):=by
 refine T.kX.ok ab9 (λvs H Q E h=>?_) (λaK Ar outer s H vs Q E hr h=>?_)
 ·obtain⟨a,ns,k,rfl,_⟩:=h
  rfl
 ·obtain⟨a,ns,k,rfl,hS,hl,k0,k1,q⟩:=h;refine⟨_,(aB (bM (br eO (pv 1) (bX eB rfl T.dU boot_len (aa (pv 0) aj)) (bq _)) (aH (bx (aL bI (aZ bR (pv 0) (pv 1) (λ_ _=>rfl)) (aL gm az (pv 1))))) bT)
   (aH (bx (aL gm az (pv 1))))),?_⟩
  walk_at "rdm";refine⟨_,.inl hS,cO (λh=>⟨_,hS,_,iG k0 (by simpa using h),?_⟩) λh=>?_⟩
  ·walk_at "rdm";exact q
  ·have e:CT ns k=0:=by
    unfold CT;rw[List.getD_eq_getElem?_getD,List.getElem?_eq_none (by simp at h;lia)];rfl
   unfold kQ at q;rw[e,Int.zero_add] at q;exact q
theorem dJ(T:Tx K mg A):aR P w K mg base a_ 1 A.zo A.zq ["_law_cell_here", "_law_turn", "_law_many"] bW:=by
 refine T.dh.ok ab_ (λvs H Q E h=>?_) (λaK Ar outer s H vs Q E hr h=>?_)
 ·obtain⟨c,t,m,rfl,_⟩:=h
  rfl
 ·obtain⟨c,t,m,rfl,t0,t1,m0,q⟩:=h;refine⟨_,(aH (bx (aL jT (aL jT (aL gm (aL bI (pv 0) az) (aL bI az (aL gm (aL gm az (pv 1)) (pv 1)))) az) (pv 2)))),?_⟩;walk_at "rdm";have a:=Int.mul_le_mul_of_nonneg_left t1 (show (0:Int)<=715225739 by decide)
  have a0:=Int.mul_nonneg (show (0:Int)<=715225739 by decide) t0
  have b:=Int.mul_le_mul a t1 t0 (by lia)
  have b0:=Int.mul_nonneg a0 t0;exact⟨.inr ⟨by lia,by lia⟩,.inr ⟨by lia,by lia⟩,m0,q⟩
theorem acZ(T:Tx K mg A):Du P w K mg base 1 A.zE A.zF ["_law_e"] (abo A.aV):=by
 refine T.Gz.okW NZ (λvs H Q E h=>?_) (λaK Ar outer s H vs Q e hr h=>?_)
 ·obtain⟨a,rfl,_⟩:=h
  rfl
 ·obtain⟨a,rfl,ha,q⟩:=h;refine⟨_,(aB (aT (i:=1) NZ.nd rfl (Or.inl rfl) (bX aaA rfl T.jJ boot_isinstance (aa (pv 0) (aa (dP (aa (dN (v:=.ref A.gI) rfl T.Q3 rfl) (aa (dN (v:=.ref A.jk) rfl T.Q4 rfl) (aa (dN (v:=.ref A.jm) rfl T.Q5 rfl) (aa (dN (v:=.ref A.gJ) rfl T.Q6 rfl) (aa (dN (v:=.ref A.jo) rfl T.Q7 rfl) (aa (dN (v:=.ref A.gK) rfl T.Q_ rfl) (aa (dN (v:=.ref A.gM) rfl T.Ra rfl) (aa (dN (v:=.ref A.gO) rfl T.Rb rfl) aj))))))))) aj))))
   (aH (bx (BX (bX Mz rfl T.jJ boot_isinstance (aa (pv 0) (aa (dN (v:=.ref A.aV) rfl T.mq rfl) aj))) (BX (bX Mz rfl T.jJ boot_isinstance (aa (pv 0) (aa (oJ (v:=.ty "ValueError") rfl T.An PyProof.Rows.Boot.«ValueError» rfl) aj))) (J9 (VG (pv 1)))))))),?_⟩
  walk_at "rdt";intro p np;have mC:=ah.put (o:=.tup [V.ref A.gI,V.ref A.jk,V.ref A.jm,V.ref A.gJ,V.ref A.jo,V.ref A.gK,V.ref A.gM,V.ref A.gO]) np _ _ ha;refine⟨A.aV,[A.gI,A.jk,A.jm,A.gJ,A.jo,A.gK,A.gM,A.gO],rfl,mC,T.Au,T.Av,false,?_,A.aV,_,.inl rfl,mC,T.Au,T.Av,true,T.AB,ite_yes rfl ⟨A.aV,_,.inr rfl,mC,T.Au,T.Av,true,T.AG,ite_yes rfl (q _ (ah.put np))⟩⟩;simp only[List.map_cons,List.map_nil,W.kitAny,T.Aw,T.Ax,T.Ay,T.Az,T.AA,T.AD,T.AE,T.AF]
theorem ac0(T:Tx K mg A):aR P w K mg base a_ 1 A.zG A.zH ["_law_row", "_law_taken", "_law_k"] (abG K):=by
 refine T.GA.ok pU (λvs H Q E h=>?_) (λaK Ar outer s H vs Q E hr h=>?_)
 ·obtain⟨lr,lt,ts,qs,bs,k,rfl,_⟩:=h
  rfl
 ·obtain⟨lr,lt,ts,qs,bs,k,rfl,mF,hb,bn,qn,kn,q⟩:=h;refine⟨_,(aB (aT (i:=3) pU.nd rfl (Or.inl rfl) az)
   (aB (aT (i:=4) pU.nd rfl (Or.inl rfl) az)
   (aB (cU PassesOwn.never rfl (iT rfl T.eW (aa (bX eB rfl T.dU boot_len (aa (pv 0) aj)) aj)) (aW (i:=5) pU.nd rfl (Or.inl rfl))
   (aH (bM (V4 uA eO (aZ dR (aZ bR (pv 0) (pv 2) (λ_ _=>rfl)) az (λ_ _=>rfl)) (aZ bR (pv 1) (pv 5) (λ_ _=>rfl)) (aZ bR (pv 1) (pv 2) (λ_ _=>rfl))) (aH (bM (br iU (aZ dR (aZ bR (pv 0) (pv 5) (λ_ _=>rfl)) az (λ_ _=>rfl)) (aZ dR (aZ bR (pv 0) (pv 2) (λ_ _=>rfl)) az (λ_ _=>rfl)) (bq _)) (aH (aT (i:=4) pU.nd rfl (Or.inl rfl) (aL bI (pv 4) az))) (aH (bM (br eO (pv 5) (pv 2) (bq _)) (aH (aT (i:=3) pU.nd rfl (Or.inl rfl) (aL bI (pv 3) az))) bT)))) bT)))
   (aH (bx (dP (aa (pv 3) (aa (pv 4) aj)))))))),?_⟩
  wp_walk using T,bW;refine CY qs.length (λi σ H'=>∃(u:Option V),σ = [some (V.ref lr),some (V.ref lt),some (V.int (k:Int)),some (V.int (((List.range i).countP (pQ qs bs k):Nat):Int)),some (V.int (((List.range i).countP (pR qs bs k):Nat):Int)),u]/\H' = H) (λQ q=>?_) (by lia) ⟨none,rfl,rfl⟩ ?_ ?_
  ·walk_at "rdm";exact⟨_,.inl (aE.of mF.l),by rw[List.length_map,mF.n];exact q⟩
  ·rintro i σ H' N hN hi ⟨u,rfl,rfl⟩;have rn:=mF.n;obtain⟨tk,pZ⟩:=jd (show k<ts.length by lia)
   obtain⟨ti,Rt⟩:=jd (show i<ts.length by lia)
   obtain⟨qk,j9⟩:=jd kn;obtain⟨qi,G7⟩:=jd hi;obtain⟨bk,G8⟩:=jd (show k<bs.length by lia)
   obtain⟨bi,G9⟩:=jd (show i<bs.length by lia)
   obtain⟨e1,hk⟩:=mF.t k tk qk pZ j9;obtain⟨e2,fO⟩:=mF.t i ti qi Rt G7;have co:=DW (pQ qs bs k) i;have ct:=DW (pR qs bs k) i;rw[NH j9 G7 G8 G9] at co;rw[NI j9 G7 G8 G9] at ct;simp only[decide_eq_true_eq] at co ct;walk_at "rdm";refine⟨_,aE.of mF.l,_,dQ (by rw[List.getElem?_map,pZ];rfl),tk,rfl,_,aQ.of hk,_,dQ (j:=4) rfl,_,aE.of hb,_,dQ (by rw[List.getElem?_map,G9];rfl),_,rfl,_,rfl,cO (λc1=>⟨_,aE.of hb,_,dQ (by rw[List.getElem?_map,G8];rfl),_,rfl,_,rfl,cO (λc2=>?_) λc2=>?_⟩) λc1=>?_⟩
   ·refine⟨_,aE.of mF.l,_,dQ (by rw[List.getElem?_map,Rt];rfl),ti,rfl,_,aQ.of fO,_,dQ (j:=5) rfl,_,aE.of mF.l,_,dQ (by rw[List.getElem?_map,pZ];rfl),tk,rfl,_,aQ.of hk,_,dQ (j:=5) rfl,rfl,cO (λc3=>?_) λc3=>?_⟩
    ·have c3:qi.aY≠qk.aY:=λz=>c3 (congrArg V.int z);rw[if_neg (λz=>c3 z.2.2.1)] at co;rw[if_pos ⟨c1,c2,c3⟩] at ct;exact hN _ _ ⟨_,by rw[co,ct];rfl,rfl⟩
    ·have c3:qi.aY=qk.aY:=by simpa using c3
     rw[if_neg (λz=>z.2.2 c3)] at ct;refine cO (λc4=>?_) λc4=>?_
     ·rw[if_pos ⟨c1,c2,c3,by lia⟩] at co
      exact hN _ _ ⟨_,by rw[co,ct];rfl,rfl⟩
     ·rw[if_neg (λz=>c4 (by have:=z.2.2.2;lia))] at co
      exact hN _ _ ⟨_,by rw[co,ct];rfl,rfl⟩
   ·rw[if_neg (λz=>c2 z.2.1)] at co ct;exact hN _ _ ⟨_,by rw[co,ct];rfl,rfl⟩
   ·rw[if_neg (λz=>c1 z.1)] at co ct;exact hN _ _ ⟨_,by rw[co,ct];rfl,rfl⟩
  ·rintro σ H' ⟨u,rfl,rfl⟩;walk_at "rdm";intro t nt;exact q t _ (ah.put nt) aD
theorem ac1(T:Tx K mg A):aR P w K mg base a_ 1 A.zM A.zN ["_law_found"] (abF K A.bf):=by
 refine T.GF.ok Fp (λvs H Q E h=>?_) (λaK Ar outer s H vs Q E hr h=>?_)
 ·obtain⟨t,la,ps,qs,k,rfl,_⟩:=h
  rfl
 ·obtain⟨t,la,ps,qs,k,rfl,ht,ha,k0,k1,ag_,qk,qu,q⟩:=h;have p6:=hr.Cg;refine⟨_,(aB (bM (PW.pt (dW (mT (jP (bX rm rfl T.jJ boot_isinstance (aa (pv 0) (aa (oJ (v:=.ty "tuple") rfl T.pX boot_tuple rfl) aj))))) (dW (br iU (bX eB rfl T.dU boot_len (aa (pv 0) aj)) az (bq _)) (eZ (mT (jP (bX rm rfl T.jJ boot_isinstance (aa (aZ dR (pv 0) az (λ_ _=>rfl)) (aa (oJ (v:=.ty "list") rfl T.nX boot_list rfl) aj))))))))) (aH (bx lA)) bT)
   (aB (bM (PW.pt (dW (jP (bX rm rfl T.jJ boot_isinstance (aa (aZ dR (pv 0) az (λ_ _=>rfl)) (aa (oJ (v:=.ty "bool") rfl T.tH boot_bool rfl) aj)))) (dW (mT (jP (bX rm rfl T.jJ boot_isinstance (aa (aZ dR (pv 0) az (λ_ _=>rfl)) (aa (oJ (v:=.ty "int") rfl T.Aj boot_int rfl) aj))))) (eZ (mT (abu uA eO uA az (aZ dR (pv 0) az (λ_ _=>rfl)) (bX eB rfl T.dU boot_len (aa (aZ dR (pv 0) az (λ_ _=>rfl)) aj)) az)))))) (aH (bx lA)) bT)
   (aB (aT (i:=1) Fp.nd rfl (Or.inl rfl) (dz aj))
   (aB (cU PassesOwn.never rfl (e9 (aZ dR (pv 0) az (λ_ _=>rfl))) (aW (i:=2) Fp.nd rfl (Or.inl rfl))
   (aB (nH (bM (PW.pt (dW (br iU (aU (pv 2) rfl) eN (bq _)) (dW (br (Ng p6) (aU (pv 2) rfl) (dP aj) (bq _)) (eZ (PW.pt (BW (br iz (bX eB rfl T.dU boot_len (aa (pv 1) aj)) az (bq _)) (BV (br eO (aU (pv 2) rfl) (aZ dR (aZ bR (pv 1) (mY mZ az) (λ_ _=>rfl)) az (λ_ _=>rfl)) (bq _))))))))) (aH (bx lA)) bT))
   (aH (cH (iV PySem.F.plainAttrs_list PySem.F.slot_list_append PySem.F.type_list_append jW (pv 1) (aa (dP (aa eN (aa (aU (pv 2) rfl) (aa (aU (pv 2) rfl) (aa (dP aj) (aa (aU (pv 2) rfl) (aa (aU (pv 2) rfl) aj))))))) aj))))))
   (aH (bx (pv 1))))))),?_⟩
  wp_walk using T,bW;refine⟨_,fH.tup ht,true,rfl,ite_no (by simp) ⟨_,.inr (aQ.of ht),ite_no (by simp) ⟨_,aQ.of ht,_,rfl,_,fH.lst ha.l,true,rfl,ite_no (by simp) ⟨_,aQ.of ht,_,rfl,_,fH.int _,false,rfl,ite_no (by simp) ⟨_,aQ.of ht,_,rfl,_,fH.int _,true,rfl,ite_no (by simp) ?_⟩⟩⟩⟩⟩
  have an:=ha.n;refine⟨_,aQ.of ht,_,rfl,_,rfl,ite_yes k0 ⟨_,aQ.of ht,_,rfl,_,rfl,_,.inl (aE.of ha.l),_,rfl,ite_yes (by rw[List.length_map];lia) (ite_no (by rw[List.length_map];lia) λL nL=>?_)⟩⟩
  have sL:=ah.put (o:=.lst []) nL;refine rl la (ps.map V.ref) (λi σ H'=>∃(v:Option V) (ts:List Addr),σ = [some (.ref t),some (.ref L),v]/\ah H H'/\iM H' L ts (qs.take i)) (λQ q=>?_) (aE.of (sL _ _ ha.l)) ⟨none,[],rfl,sL,⟨aD,rfl,λi t q e=>by simp at e⟩⟩ (by rintro i σ H' _ ⟨_,_,rfl,s',_⟩;exact aE.of (s' _ _ ha.l)) ?_ ?_
  ·walk_at "rdm";exact⟨_,aQ.of (sL _ _ ht),_,rfl,q⟩
  ·rintro i x σ H' N hN hx ⟨v,ts,rfl,s',hw⟩;have fO:i<ps.length:=by have:=gH hx;simpa using this
   have hk:i<qs.length:=by lia
   obtain⟨ap,m,b,dx,g1,a1⟩:=ha.at (List.getElem?_eq_getElem hk);rw[g1] at hx;cases hx;obtain⟨k1,k3⟩:=qk _ (List.getElem_mem hk);have a2:=(a1.same s').o;have hb:=(a1.same s').bh;have wn:=hw.n;rw[List.length_take,Nat.min_eq_left (by lia)] at wn
   unfold fQ at a2;rw[k1] at a2;rw[k3] at hb;wp_walk using T,a2;refine⟨λdw H1=>dw = [some (.ref t),some (.ref L),some (.ref ap)]/\ah H' H1,?_,?_⟩
   ·intro pt npt;have sp:=ah.put (o:=.tup []) npt;refine⟨[],sp _ _ hb,[],rfl,ite_no (by simp) ⟨_,.inl (aE.of (sp _ _ hw.l)),cO (λc1=>?_) λc1=>⟨rfl,sp⟩⟩⟩
    rw[List.length_map] at c1;obtain⟨tl,ql,el,at1,eq1,hl1⟩:=hw.last (by rw[List.length_take];lia)
    rw[List.length_take,Nat.min_eq_left (by lia),List.getElem?_take_of_lt (by lia)] at eq1
    have up:=qu (i - 1) ql qs[i] eq1 (by rw[show i - 1+1=i by lia];exact List.getElem?_eq_getElem hk)
    exact⟨_,_,_,sp _ _ a2,T.kg,T.nW,V.int qs[i].at_,by simp[List.lookup_cons,fM],_,aE.of (sp _ _ hw.l),_,at1,tl,rfl,_,aQ.of (sp _ _ hl1),_,dQ (j:=4) rfl,_,rfl,_,rfl,ite_no (by lia) ⟨rfl,sp⟩⟩
   ·rintro dw H1 ⟨rfl,sp⟩;have a3:=sp _ _ a2;have Ru:=hw.same sp;wp_walk using T,a3;refine⟨⟨_,aE.of Ru.l⟩,λe1 ne1=>?_⟩;have sq:=ah.put (o:=.tup []) ne1;refine⟨_,_,_,sq _ _ a3,T.kg,T.nW,V.int qs[i].at_,by simp[List.lookup_cons,fM],_,_,_,sq _ _ a3,T.kg,T.z7,V.int qs[i].aY,by simp[List.lookup_cons,fM],λt1 AL=>?_⟩
    have sr:=ah.put (o:=.tup [.str "read",.int qs[i].first,.int qs[i].many,.ref e1,.int qs[i].at_,.int qs[i].aY]) AL;have Rv:=(Ru.same sq).same sr;refine⟨_,Rv.l,fK (by rw[List.length_map];lia),hN _ _ ⟨_,ts++[t1],rfl,ah.put2 (((s'.trans sp).trans sq).trans sr) nL,?_⟩⟩
    rw[take_succ_get (List.getElem?_eq_getElem hk)];exact Rv.snoc aD
  ·rintro σ H' ⟨v,ts,rfl,s',hw⟩;walk_at "rdm";rw[List.length_map,an,List.take_length] at hw;exact q L ts H' s' nL hw
theorem ac2(T:Tx K mg A):aR P w K mg base a_ 2 A.wO A.wQ ["behind"] (YX K):=by
 refine T.Fv.ok wu (λvs H Q E h=>?_) (λaK Ar outer s H vs Q E hr h=>?_)
 ·obtain⟨b,ns,rfl,_⟩:=h
  rfl
 ·obtain⟨b,ns,rfl,hS,hR,q⟩:=h;refine⟨_,(aB (aT (i:=1) wu.nd rfl (Or.inl rfl) (mY mZ az))
   (aH (cU PassesOwn.never rfl (B6 (pv 0)) (aW (i:=2) wu.nd rfl (Or.inl rfl))
   (aB (cH (aP (pY T) (hr.mono (by decide)) rfl T.nU T.l8.kp T.nQ .nil aM (aa (pv 2) (aa (aL bI (pv 1) az) (aa (dN (v:=.int 99) rfl T.QN ⟨_,rfl⟩) (aa eN aj))))))
   (aH (aT (i:=1) wu.nd rfl (Or.inl rfl) (pv 2))))))),?_⟩
  walk_at "rdm";refine rt b (ns.map V.int) (λi σ H'=>∃x,σ = [some (.ref b),some (.int (rH (-1) ns i)),x]/\H' = H) (λQ q=>⟨_,rfl,q⟩) hS ⟨none,rfl,rfl⟩ (by rintro i σ H' _ ⟨x,rfl,rfl⟩;exact hS) ?_ ?_
  ·rintro i x σ H' N hN hx ⟨x0,rfl,rfl⟩;obtain⟨n,hn,rfl⟩:=iH hx;have st:=hR.step hn;walk_at "rdm";exact⟨n,_,99,_,rfl,st.1,st.2,hN _ _ ⟨some (.int n),by rw[YU hn],rfl⟩⟩
  ·rintro σ H' ⟨x0,rfl,rfl⟩;walk_at "rdm";exact q
theorem ac3(T:Tx K mg A):aR P w K mg base (fj P w base) 2 A.xw A.xy ["self", "shares"] (aaG A.bS A.aV):=by
 refine T.Ow.nG abQ (λvs H Q E h=>?_) (λaK Ar outer s H vs Q E hr h=>?_)
 ·obtain⟨x,dx,l,ts,z,rfl,_⟩:=h
  rfl
 ·obtain⟨x,dx,l,ts,z,rfl,hx,hz,zn,q1,q2⟩:=h;have zl:=hz.n;refine⟨_,(aB (cH (aP (Rg T) (hr.mono (by decide)) rfl T.FF T.zQ.kp T.FE .nil rL (aa (pv 1) aj)))
   (aB (cg (pv 0) (g7 (N:=["asker", "share"]) (nt:=2) (fv:=[]) (cL.of rfl rfl (by rfl) (by rfl) (by repeat (first | exact trivial | refine⟨rfl,?_⟩)) (by rfl) (by rfl) (by rfl) (by decide) (by decide +kernel)) rfl (e9 (pv 1)) (λC s H fp=>(rD (K:=K) (n:=2) rfl rfl (bN (aW (i:=0) (show List.Nodup (["asker", "share"]:List Str) by decide +kernel) rfl (Or.inl rfl)) (bN (aW (i:=1) (show List.Nodup (["asker", "share"]:List Str) by decide +kernel) rfl (Or.inl rfl)) e7)))) (λC s H fp=>gG) (λC s H fp=>(dP (aa (pv 0) (aa (pv 1) aj))))) rfl)
   (aH (cH (uG (pv 0) T.ki T.FI (Rh T) (hr.mono (by decide)) T.FH .nil aM))))),?_⟩
  walk_at "rdt";refine⟨l,ts,z,rfl,hz,zn,λok H1 s1=>?_,λno H1 s1=>q2 no H1 s1⟩;have fU:=s1 _ _ hx;have fW:=hz.same s1;refine lJ l (ts.map V.ref) (λD i ys au H2=>∃(u v:Option V) (as:List Addr),ys=as.map V.ref/\au = [u,v]/\Zn H2 D as (z.take i)/\ah H1 H2/\H1 D=none) (λQ q=>⟨_,rfl,q⟩) fW.sq ?_ ?_ ?_ ?_
  ·intro D hD;exact⟨none,none,[],rfl,rfl,Zn.start,ah.put hD,hD⟩
  ·rintro D i ys au H2 ⟨u',v',as,rfl,rfl,e1,e2,e3⟩;have:=ok.n4;have en:=e1.n;rw[List.length_take] at en;exact⟨e1.l,fK (by rw[List.length_map];lia),(fW.same e2).sq⟩
  ·rintro D i y ys au H2 N hN hy ⟨u',v',as,rfl,rfl,e1,e2,e3⟩;obtain⟨pt,p,rfl,hp,ht⟩:=(fW.same e2).at hy;walk_at "rdm";refine⟨_,aQ.of ht,rfl,_,_,rfl,_,_,rfl,rfl,λp1 gf=>⟨ah.put gf _ _ e1.l,hN _ _ _ ⟨_,_,as++[p1],by rw[List.map_append];rfl,rfl,?_,ah.put2 (e2.trans (ah.put gf)) e3,e3⟩⟩⟩
   rw[take_succ_get hp];exact e1.snoc gf _ _
  ·rintro D ys au H2 ⟨u',v',as,rfl,rfl,e1,e2,e3⟩;rw[List.length_map,zl,List.take_length] at e1;have jL:=e2 _ _ fU;have xD:x≠D:=λz=>by rw[z,e3] at fU;cases fU
   wp_walk using T,jL;refine⟨x,dx,D,_,rfl,aD,.inl rfl,λH3 sb tM=>?_⟩;have sx:SameBut x H2 H3:=λb o e hb=>sb b o (by rw[aC hb];exact e) hb
   refine q1 ok D as H3 (λb o e hb=>sx b o (e2 _ _ (s1 _ _ e)) hb) (s1.free e3) ⟨tM,sx _ _ e1.l (Ne.symm xD),e1.n,λi t p h1 h2=>sx _ _ (e1.t i t p h1 h2) (λz=>?_)⟩
   have:=e1.t i t p h1 h2;rw[z,jL] at this;cases this
theorem ac4(T:Tx K mg A):aR P w K mg base (fj P w base) 2 A.xC A.xE ["self", "plate", "ring", "beat", "dues"] (aaM K A.bf A.bQ A.bS A.aV):=by
 refine T.OA.nG Fb (λvs H Q E h=>?_) (λaK Ar outer s H vs Q E hr h=>?_)
 ·obtain⟨x,p,dx,pl,r,b,bA,sh,t,u,D,ps,ds,rfl,_⟩:=h
  rfl
 ·obtain⟨x,p,dx,pl,r,b,bA,sh,t,u,D,ps,ds,rfl,hx,ok,t0,t1,hd,d1,d33,q1,q2⟩:=h;have hu:=iE hr;have pn:=hx.p.n;refine⟨_,(aB (eU (aT (i:=5) Fb.nd rfl (Or.inl rfl) (aP (acF T) (hr.mono (by decide)) rfl T.Ov T.FG.kp T.Ou .nil aM (aa (pv 4) aj))))
   (aB (eU (cH (qI (pv 0) T.ki T.OF (acG T) (hr.mono (by decide)) T.OE .nil rL (aa (pv 5) aj))))
   (aB (eU (aT (i:=6) Fb.nd rfl (Or.inl rfl) (aZ bR (aU (pv 0) rfl) (aU (pv 0) rfl) (λ_ _=>rfl))))
   (aB (eU (nH (bM (PW.pt (dW (br uB (aU (pv 0) rfl) (aZ dR (pv 6) az (λ_ _=>rfl)) (bq _)) (eZ (BU (Li hu (aZ dR (pv 6) az (λ_ _=>rfl)) (pv 5)))))) (aB (cg (pv 0) (qI (pv 0) T.ki T.OI (acH T) (hr.mono (by decide)) T.OH .nil aM (aa (pv 5) aj)) rfl)
   (aH (cg (pv 0) az rfl))) bT)))
   (aB (eU (cg (pv 0) (aL bI (aU (pv 0) rfl) az) rfl))
   (aH (bx (Lg hu (pv 5) (aZ dR (aZ bR (aU (pv 0) rfl) (aU (pv 0) rfl) (λ_ _=>rfl)) az (λ_ _=>rfl)) (λ_ _=>rfl))))))))),?_⟩
  refine eV λN1 k1=>?_;walk_at "rdt";refine⟨D,ps,ds,rfl,hd,d33,λB kvs H1 s1 nB hB kl lo=>k1 _ _ ?_⟩;have fU:=hx.same s1;have Rw:=fU.o;unfold fV at Rw;refine eV λN2 k2=>?_;wp_walk using T,Rw;refine⟨x,B,dx,pl,bA,sh,t,u,kvs,rfl,fU,ok.n4,hB,λp hp=>let ⟨d,_,e⟩:=lo.k p hp;⟨_,e⟩,λkn ob H2 sb p7=>k2 _ _ ?_,λno H2 sb=>q2 (λz=>no (lo.known.mpr z)) H2 λb o e=>sb b o (s1 _ _ e) (λz=>by rw[z,nB] at e;cases e)⟩
  have Rx:=lo.known.mp kn;have s2:ah H H2:=λb o e=>sb b o (s1 _ _ e) (λz=>by rw[z,nB] at e;cases e)
  have jL:=fU.but sb hB;have mG:=jL.o;unfold fV at mG;obtain⟨pt,e1,e2⟩:=jL.p.ti t0 t1;have ptx:pt≠x:=λz=>by rw[z,mG] at e2;cases e2
  refine eV λN3 k3=>?_;wp_walk using T,mG;refine⟨_,jL.p.sq,_,e1,k3 _ _ ?_⟩;have dg:fJ H2 B (.int (bG sh t)) (bF kvs (bC (bG sh t))):=.inl ⟨kvs,bC _,.inr ⟨ob,p7⟩,rfl,rfl⟩;obtain⟨d,Ry⟩:∃d,d∈ds:=by
   cases ds with
   | nil=>simp at d1
   | cons d ds=>exact⟨d,by simp⟩
  have ex:∃p∈sh,(bF kvs (bC p.1)).isSome=true:=by
   obtain⟨p,hp,e⟩:=List.mem_map.mp (Rx d Ry);exact⟨p,hp,by rw[e];exact(lo.here _).mpr (vP Ry rfl)⟩
  refine eV λN4 k4=>?_;wp_walk using T,mG;refine⟨λσ H3=>∃t' u0,σ = [some (.ref x),some (.ref p),some (.int r),some (.int b),some (.ref D),some (.ref B),some (.ref pt)]/\SameBut x H2 H3/\H3 x=some (.ins A.bS dx (fV pl t' u0))/\kU sh ds t u t' (u0+1),⟨_,aQ.of e2,_,rfl,_,rfl,cO (λc1=>?_) λc1=>⟨_,aQ.of e2,_,rfl,_,dg,cO (λc2=>?_) λc2=>?_⟩⟩,?_⟩
  ·refine⟨x,B,dx,pl,bA,sh,t,u,kvs,rfl,jL,t0,t1,ok.n4,.inr ⟨ob,p7⟩,ex,λt' nt=>⟨_,_,_,mG,T.ki,T.tE,by simp,T.ki,T.tF,(show (3:Nat)<1000 by decide),t',0,rfl,SameBut.start,aD,⟨λ_=>⟨nt.congr lo.here,rfl⟩,λz=>absurd (.inl c1) z⟩⟩⟩
  ·refine⟨x,B,dx,pl,bA,sh,t,u,kvs,rfl,jL,t0,t1,ok.n4,.inr ⟨ob,p7⟩,ex,λt' nt=>⟨_,_,_,mG,T.ki,T.tE,by simp,T.ki,T.tF,(show (3:Nat)<1000 by decide),t',0,rfl,SameBut.start,aD,⟨λ_=>⟨nt.congr lo.here,rfl⟩,λz=>absurd (.inr λz=>by rw[(lo.here _).mpr z] at c2;cases c2) z⟩⟩⟩
  ·refine⟨t,u,rfl,(λb o e _=>e),mG,⟨λz=>?_,λ_=>⟨rfl,rfl⟩⟩⟩
   rcases z with z | z
   ·exact absurd z c1
   ·exact absurd ((lo.here _).mp (Option.isSome_iff_ne_none.mpr (by simpa using c2))) z
  ·rintro σ H3 ⟨t',u0,rfl,sx,tM,st⟩;refine k4 _ _ ?_;obtain⟨b0,b1,hh⟩:=st.bt ok t0 t1;obtain⟨n,hn⟩:=Option.isSome_iff_exists.mp hh;have p8:=(jL.set sx tM).set (t':=t') (u':=u0+1) SameBut.start aD;unfold fV at tM;refine eV λN5 k5=>?_;wp_walk using T,tM;refine k5 _ _ ?_;have G_:=p8.o;have AM:SameBut x H2 (upd H3 x (.ins A.bS dx (fV pl t' (u0+1)))):=λb o e hb=>by rw[aC hb];exact sx b o e hb
   unfold fV at p8 G_ AM;generalize upd H3 x _=H4 at p8 G_ AM ⊢;obtain⟨p4,e3,e4⟩:=p8.p.ti b0 b1;wp_walk using T,G_;have hB4:H4 B=some (.bL ob (.dK kvs)):=AM _ _ p7 (λz=>by rw[z,mG] at p7;cases p7)
   have hv:=lo.v (bG sh t');rw[hn] at hv;refine⟨_,p8.p.sq,_,e3,p4,rfl,_,aQ.of e4,_,rfl,_,.inl ⟨kvs,bC _,.inr ⟨ob,hB4⟩,rfl,hv.symm⟩,q1 Rx t' (u0+1) n H4 (λb o e hb=>AM b o (s2 _ _ e) hb) p8 st hn⟩
theorem Rz(T:Tx K mg A):aR P w K mg base (fj P w base) 2 A.xN A.xO ["shares", "asker"] (abw A.aV):=by
 refine T.zT.nG Fe (λvs H Q E h=>?_) (λaK Ar outer s H vs Q E hr h=>?_)
 ·obtain⟨l,ts,z,a,rfl,_⟩:=h
  rfl
 ·obtain⟨l,ts,z,a,rfl,hz,zn,q1,q2⟩:=h;refine⟨_,(aB (cH (aP (Rg T) (hr.mono (by decide)) rfl T.FF T.zQ.kp T.FE .nil rL (aa (pv 0) aj)))
   (aB (cU PassesOwn.leaving rfl (e9 (pv 0)) (gi rfl (bN (aW (i:=2) Fe.nd rfl (Or.inl rfl)) (bN (aW (i:=3) Fe.nd rfl (Or.inl rfl)) e7)))
   (aH (bM (br lG (pv 2) (pv 1) (bq _)) (aH (bx (pv 3))) bT)))
   (aH (pe pB rfl T.mq T.kj PySem.F.excBase_ValueError rfl (aa eN aj))))),?_⟩
  walk_at "rdt";refine⟨l,ts,z,rfl,hz,zn,λok H1 s1=>?_,λHf H1 s1=>q2 (λc=>Hf c.1) _ s1⟩;refine rl l (ts.map V.ref) (λi σ H'=>∃(u v:Option V),σ = [some (.ref l),some (.int a),u,v]/\ah H H'/\a∉(z.take i).map (·.1)) (λQ q=>⟨_,rfl,q⟩) (s1.seq hz.sq) ⟨none,none,rfl,s1,by simp⟩ (by rintro i σ H' _ ⟨_,_,rfl,s',_⟩;exact s'.seq hz.sq) ?_ ?_
  ·rintro i x σ H' N hN hx ⟨u,v,rfl,s',na⟩;obtain⟨t,p,rfl,hp,ht⟩:=(hz.same s').at hx;walk_at "rdm";refine⟨_,aQ.of ht,rfl,_,_,rfl,_,_,rfl,rfl,rfl,cO (λc1=>?_) λc1=>?_⟩
   ·have e:=V.int.inj c1;exact q1 ⟨ok,e▸List.mem_map_of_mem (get_mem hp)⟩ p.2 _ s' (e▸get_mem hp)
   ·refine hN _ _ ⟨_,_,rfl,s',?_⟩;rw[take_succ_get hp,List.map_append,List.mem_append,not_or];exact⟨na,λz=>c1 (congrArg V.int (List.mem_singleton.mp z).symm)⟩
  ·rintro σ H' ⟨u,v,rfl,s',na⟩;walk_at "rdm";rw[List.length_map,hz.n,List.take_length] at na;exact q2 (λc=>na c.2) _ s'
theorem ac5(T:Tx K mg A):aR P w K mg base a_ 2 A.xZ A.x6 ["swing", "rings"] (Yl K):=by
 refine T.FZ.ok NT (λvs H Q E h=>?_) (λaK Ar outer s H vs Q E hr h=>?_)
 ·obtain⟨a,sw,n,rfl,_⟩:=h
  rfl
 ·obtain⟨a,sw,n,rfl,hS,ok,hn,q⟩:=h;refine⟨_,(aB (bM (br iU (bX eB rfl T.dU boot_len (aa (pv 0) aj)) (pv 1) (bq _)) fB bT)
   (aB (bM (br iU (aZ bR (pv 0) az (λ_ _=>rfl)) az (bq _)) fB bT)
   (aB (cU PassesOwn.never rfl (qC rfl T.eW (aa az (aa (pv 1) aj))) (aW (i:=2) NT.nd rfl (Or.inl rfl))
   (aB (bM (PW.pt (dW (br eO (aZ bR (pv 0) (pv 2) (λ_ _=>rfl)) az (bq _)) (eZ (br iz (aZ bR (pv 0) (pv 2) (λ_ _=>rfl)) (dN (v:=.int 1000000000) rfl T.GW ⟨_,rfl⟩) (bq _))))) fB bT)
   (aH (bM (br eO (aZ bR (pv 0) (pv 2) (λ_ _=>rfl)) (aZ bR (pv 0) (aL jS (pv 2) az) (λ_ _=>rfl)) (bq _)) fB bT))))
   (aH (cH (aP (acK T) (hr.mono (by decide)) rfl T.OR T.F_.kp T.OQ .nil aM (aa (pv 0) aj))))))),?_⟩
  walk_at "rdm";have hl:=ok.len;have h2:=ok.two;refine⟨_,.inl hS,by simpa using hl,_,hS,_,iG (by lia) (by lia),rfl,by rw[show (0:Int).toNat=0 from rfl,ok.z],?_⟩
  refine u_ 1 n (λi σ H'=>∃r,σ = [some (.ref a),some (.int n),r]/\H' = H) (λQ q=>?_) (by lia) (by lia) (by lia) (by lia) ⟨none,rfl,rfl⟩ ?_ ?_
  ·walk_at "rdm";exact q
  ·rintro i σ H' N hN hi ⟨r,rfl,rfl⟩;walk_at "rdm";have e1:((1:Int)+(i:Int)).toNat=1+i:=by lia
   have e2:((1:Int)+(i:Int) - 1).toNat=1+i - 1:=by lia
   have g:=ok.pos (1+i) (by lia) (by lia)
   have g2:=ok.up (1+i) (by lia) (by lia)
   refine⟨_,hS,_,iG (by lia) (by lia),?_⟩
   walk_at "rdm";rw[e1];refine⟨by lia,_,hS,_,iG (by lia) (by lia),?_⟩
   walk_at "rdm";rw[e1];refine⟨by lia,_,hS,_,iG (by lia) (by lia),_,hS,_,iG (by lia) (by lia),?_⟩
   walk_at "rdm";rw[e1,e2];exact⟨by lia,hN _ _ ⟨_,rfl,rfl⟩⟩
  ·rintro σ H' ⟨r,rfl,rfl⟩;walk_at "rdm";exact⟨a,sw,n,rfl,hS,ok,hn,q⟩
theorem ac6(T:Tx K mg A):aR P w K mg base a_ 2 A.sC A.yq ["self", "ring", "place"] (Yv K [A.bu]):=by
 refine T.O6.ok abY (λvs H Q E h=>?_) (λaK Ar outer s H vs Q E hr h=>?_)
 ·obtain⟨C,p,P,fp,r,c,rfl,_⟩:=h
  rfl
 ·obtain⟨C,p,P,fp,r,c,rfl,hC,hP,h0,h1,h2,h3,h4,h5,h6,h7,q⟩:=h;obtain⟨dx,a1,a2,a3,a4,ts,fs,AN,h⟩:=id hP;refine⟨_,(aH (bx (aL jT (aL bI (aL gm (pv 2) (rE (pv 0) T.Rc (Rk T) (hr.mono (by decide)) T.Ge .nil aM (aa (pv 1) aj))) (aL gm (pv 1) (aU (pv 0) rfl))) (aU (pv 0) rfl)))),?_⟩
  wp_walk using h.o,h.f1,h.f2,h.f3,h.f4,h.f5,h.f6,h.m1,h.m2,h.m3,h.m4,h.m5,h.m6,h.m7,h.m8,h.m9,h.iZ,h.i6,h.cp.cl,h.cp.n1,h.cp.n2,h.cp.n3,h.cp.n4,h.cp.n5,h.cp.n6;refine⟨hC,C,p,P,fp,r,rfl,hP,h0,h1,h3,h4,?_⟩;wp_walk using h.o,h.f1,h.f2,h.f3,h.f4,h.f5,h.f6,h.m1,h.m2,h.m3,h.m4,h.m5,h.m6,h.m7,h.m8,h.m9,h.iZ,h.i6,h.cp.cl,h.cp.n1,h.cp.n2,h.cp.n3,h.cp.n4,h.cp.n5,h.cp.n6;exact⟨.inl ⟨by lia,by lia⟩,.inl ⟨by lia,by lia⟩,h7,q⟩
theorem ac7(T:Tx K mg A):aR P w K mg base a_ 2 A.yu A.yw ["plate", "ask"] (aad K [A.bu] A.bf):=by
 refine T.Gg.ok ab1 (λvs H Q E h=>?_) (λaK Ar outer s H vs Q E hr h=>?_)
 ·obtain⟨C,p,ap,P,fp,q',m,b,dx,rfl,_⟩:=h
  rfl
 ·obtain⟨C,p,ap,P,fp,q',m,b,dx,rfl,hC,hP,ha,hf,hn,q⟩:=h;refine⟨_,(aH (bx (g7 (N:=["number", "plate"]) (nt:=1) (fv:=[0]) (cL.of rfl rfl (by rfl) (by rfl) (by repeat (first | exact trivial | refine⟨rfl,?_⟩)) (by rfl) (by rfl) (by rfl) (by decide) (by decide +kernel)) rfl (qC rfl T.eW (aa (aU (pv 1) rfl) (aa (aL bI (aU (pv 1) rfl) (aU (pv 1) rfl)) aj))) (λC s H fp=>(aW (i:=0) (show List.Nodup (["number", "plate"]:List Str) by decide +kernel) rfl (Or.inl rfl))) (λC s H fp=>gG) (λC s H fp=>(rE (pv 1) T.acB (acP T) (hr.mono (by decide)) T.Pc .nil aM (aa (pv 0) aj)))))),?_⟩
  wp_walk using T,ha.o;obtain⟨f0,m0,m1,fit⟩:=hf;refine Yg q'.first (q'.first+q'.many) (λD i ys au H2=>∃(u:Option V) (ts:List Addr),au = [u,some (.ref p)]/\ys=ts.map V.ref/\Zn H2 D ts ((P.nc.drop q'.first.toNat).take i)/\ah H H2/\H D=none/\i<=16) (λQ q=>?_) (by lia) (by lia) (by lia) (by lia) ?_ ?_ ?_ ?_
  ·wp_walk using T,ha.o
   try exact q
  ·intro D hD;exact⟨none,[],rfl,rfl,by rw[List.take_zero];exact Zn.start,ah.put hD,hD,by lia⟩
  ·rintro D i ys au H2 ⟨u,ts,rfl,rfl,g2,g3,g4,g5⟩;exact⟨g2.l,fK (by rw[List.length_map,g2.n,List.length_take];lia)⟩
  ·rintro D i ys au H2 N hN hi ⟨u,ts,rfl,rfl,g2,g3,g4,g5⟩;walk_at "rdm";obtain⟨RA,a1,a2,a3,a4,i9,fs,AN,hA⟩:=hP.same g3;refine⟨C,RA,fs,hA.o,hC,hA.m9,⟨C,p,P,fp,_,rfl,hP.same g3,by lia,by lia,λt q0 eq ht=>⟨g2.l,hN _ _ _ ⟨_,ts++[t],rfl,by rw[List.map_append];rfl,?_,ah.put2 g3 g4,g4,by lia⟩⟩⟩⟩
   rw[aac f0 eq];exact g2.push ht
  ·rintro D ys au H2 ⟨u,ts,rfl,rfl,g2,g3,g4,g5⟩;rw[show (q'.first+q'.many - q'.first).toNat=q'.many.toNat by lia] at g2
   exact q _ _ _ g3 g4 g2
theorem ac8(T:Tx K mg A):aR P w K mg base a_ 2 A.yH A.yI ["asks", "number"] (Z6 K A.bf):=by
 refine T.Gm.ok NV (λvs H Q E h=>?_) (λaK Ar outer s H vs Q E hr h=>?_)
 ·obtain⟨la,ps,qs,k,q',rfl,_⟩:=h
  rfl
 ·obtain⟨la,ps,qs,k,q',rfl,ha,hk,hn,bl,q⟩:=h;refine⟨_,(aB (aT (i:=2) NV.nd rfl (Or.inr rfl) (aZ bR (pv 0) (pv 1) (λ_ _=>rfl)))
   (aH (bx (uH K5 rfl T.pX boot_tuple (aa (g7 (N:=["other", "ask", "asks"]) (nt:=1) (fv:=[2,0]) (cL.of rfl rfl (by rfl) (by rfl) (by repeat (first | exact trivial | refine⟨rfl,?_⟩)) (by rfl) (by rfl) (by rfl) (by decide) (by decide +kernel)) rfl (iT rfl T.eW (aa (pv 1) aj)) (λC s H fp=>(aW (i:=0) (show List.Nodup (["other", "ask", "asks"]:List Str) by decide +kernel) rfl (Or.inl rfl))) (λC s H fp=>(uZ (PW.pt (dW (br (Y5 (K:=K) rfl) (pv 0) (lQ (K:=K) rfl (pv 1) rfl) rfl) (eZ (jP (aP (acE T) (hr.mono (by decide)) rfl T.Ol T.Fz.kp T.Oj .nil aM (aa (pv 1) (aa (aZ (LP (K:=K) rfl) (pv 2) (pv 0) (λ_ _=>rfl)) aj))))))))) (λC s H fp=>(pv 0))) aj))))),?_⟩
  walk_at "rdt";obtain⟨p,m,b,dx,e1,a1⟩:=ha.at hk;have G5:=(List.getElem?_eq_some_iff.mp hk).1;refine⟨_,aE.of ha.l,_,dQ e1,?_⟩;obtain⟨pf,epf,hpf⟩:∃pf:Nat->Bool,vG qs k=((List.range k).filter pf).map (λ(j:Nat)=>(j:Int))/\∀(j:Nat) (q0:Ak),qs[j]? = some q0->pf j=(decide ((j:Int)∈q'.behind) || o_ q' q0):=⟨_,rfl,λj q0 e=>by rw[hk,e]⟩
  have lfl:∀i,((List.range i).filter pf).length<=i:=λi=>by have:=List.length_filter_le pf (List.range i);simpa using this
  refine nF (k:Int) (λD i ys au H2=>∃(u:Option V),ys=((List.range i).filter pf).map (λ(j:Nat)=>V.int (j:Int))/\au = [u,some (.ref p),some (.ref la)]/\H2=upd H D (.lst ys)/\H D=none/\i<=k) (λQ q=>?_) (by lia) (by lia) ?_ ?_ ?_ ?_
  ·walk_at "rdm";exact q
  ·intro D hD;exact⟨none,rfl,rfl,rfl,hD,Nat.zero_le _⟩
  ·rintro D i ys au H2 ⟨u,rfl,rfl,rfl,g3,g4⟩;exact⟨aD,fK (by rw[List.length_map];have:=lfl i;lia)⟩
  ·rintro D i ys au H2 N hN hi ⟨u,rfl,rfl,rfl,g3,g4⟩;have jZ:i<k:=by simpa using hi
   have RB:i<qs.length:=by lia
   have s1:=ah.put (o:=HO.lst (((List.range i).filter pf).map (λ(j:Nat)=>V.int (j:Int)))) g3;have iP:=ha.same s1;have Hg:=a1.same s1;obtain⟨p0,m0,b0,Rm,e3,a2⟩:=iP.at (List.getElem?_eq_getElem RB);have Hh:=hpf i _ (List.getElem?_eq_getElem RB);have yes:pf i=true->((List.range i).filter pf).map (λ(j:Nat)=>V.int (j:Int))++[V.int (i:Int)] = ((List.range (i+1)).filter pf).map (λ(j:Nat)=>V.int (j:Int)):=λz=>by
    rw[List.range_succ,List.filter_append,List.map_append,show List.filter pf [i] = [i] by simp[z]];rfl
   have no:pf i=false->((List.range i).filter pf).map (λ(j:Nat)=>V.int (j:Int))=((List.range (i+1)).filter pf).map (λ(j:Nat)=>V.int (j:Int)):=λz=>by
    rw[List.range_succ,List.filter_append,show List.filter pf [i] = [] by simp[z],List.append_nil]
   walk_at "rdm";refine⟨_,_,_,Hg.o,T.kg,T.tD,_,rfl,_,rfl,_,.inr (aQ.of Hg.bh),rfl,C_ _,?_⟩;rw[vq];refine cO (λh1=>?_) (λh1=>⟨_,aE.of iP.l,_,dQ e3,_,_,_,_,_,_,_,_,_,_,rfl,Hg,a2,_,rfl,cO (λh2=>⟨aD,?_⟩) (λh2=>?_)⟩)
   ·have z:pf i=true:=by rw[Hh,h1];rfl
    rw[yes z];exact hN _ _ _ ⟨_,rfl,rfl,rfl,g3,by lia⟩
   ·have z:pf i=true:=by rw[Hh,h2,Bool.or_true]
    rw[Vo,yes z];exact hN _ _ _ ⟨_,rfl,rfl,rfl,g3,by lia⟩
   ·have z:pf i=false:=by
     rw[Hh];cases h3:o_ q' qs[i] with
     | true=>exact absurd h3 h2
     | false=>simpa using h1
    rw[no z];exact hN _ _ _ ⟨_,rfl,rfl,rfl,g3,by lia⟩
  ·rintro D ys au H2 ⟨u,rfl,rfl,rfl,g3,g4⟩;simp only[Int.toNat_natCast] at *
   walk_at "rdm";have s1:=ah.put (o:=HO.lst (((List.range k).filter pf).map (λ(j:Nat)=>V.int (j:Int)))) g3;refine⟨_,.inl ⟨aE.of aD,λl hl=>q l _ (s1.trans (ah.put hl)) (s1.free hl) ?_⟩⟩;rw[aD,epf,List.map_map]
   rfl
theorem ac9(T:Tx K mg A):aR P w K mg base a_ 2 A.yR A.yS ["self"] (aa9 K A.bw A.bf A.bQ):=by
 refine T.PM.ok NY (λvs H Q E h=>?_) (λaK Ar outer s H vs Q E hr h=>?_)
 ·obtain⟨x,dx,kp,ks,kk,p,r,b,Dx,ls,rfl,_⟩:=h
  rfl
 ·obtain⟨x,dx,kp,ks,kk,p,r,b,Dx,ls,rfl,hc,l1,hk,q⟩:=h;have hn:=hc.n;have ho:=hc.o;unfold c9 at ho;refine⟨_,(aB (cH (uG (pv 0) T.kY T.PD (acS T) (hr.mono (by decide)) T.PB .nil aM))
   (aB (M3 (qX (i:=1) NY.nd rfl (Or.inl rfl) (N:=["due", "self"]) (nt:=1) (fv:=[0]) (cL.of rfl rfl (by rfl) (by rfl) (by repeat (first | exact trivial | refine⟨rfl,?_⟩)) (by rfl) (by rfl) (by rfl) (by decide) (by decide +kernel)) rfl (MX (aU (pv 0) rfl)) (λC s H fp=>(aW (i:=0) (show List.Nodup (["due", "self"]:List Str) by decide +kernel) rfl (Or.inl rfl))) (λC s H fp=>(uZ (br uA (lQ (K:=K) rfl (lQ (K:=K) rfl (pv 0) rfl) rfl) (lQ (K:=K) rfl (pv 1) rfl) (bq _)))) (λC s H fp=>(pv 0))))
   (aH (bx (g7 (N:=["due", "self"]) (nt:=1) (fv:=[0]) (cL.of rfl rfl (by rfl) (by rfl) (by repeat (first | exact trivial | refine⟨rfl,?_⟩)) (by rfl) (by rfl) (by rfl) (by decide) (by decide +kernel)) rfl (e9 (pv 1)) (λC s H fp=>(aW (i:=0) (show List.Nodup (["due", "self"]:List Str) by decide +kernel) rfl (Or.inl rfl))) (λC s H fp=>(uZ (mT (jP (qI (pv 1) T.kY T.PL (acT T) (hr.mono (by decide)) T.PJ .nil aM (aa (lQ (K:=K) rfl (pv 0) rfl) aj)))))) (λC s H fp=>(pv 0))))))),?_⟩
  wp_walk using T,ho;refine⟨x,dx,kp,ks,kk,p,r,b,Dx,ls,rfl,hc,l1,λb2 H1 st s1 fX=>?_⟩;have jq:=fX.o;unfold c9 at jq;refine M4 Dx (cC ls) (λob D i ys au H2=>∃(u:Option V),ys=((ls.take i).filter λy=>decide (y.1.q.at_<=b2)).map (λy=>V.ref y.2)/\au = [u,some (.ref x)]/\H2 D=some (.lst ys)/\H2 Dx=some (.bL ob (.dK (cC ls)))/\bK x Dx H1 H2/\H1 D=none/\H2 x=H1 x) (λQ q=>?_) fX.d hc.nf ?_ ?_ ?_ ?_
  ·wp_walk using T,jq;exact q
  ·intro ob D nD;have n1:Dx≠D:=cj fX.d nD;have n2:x≠D:=cj fX.o nD;have n3:=fX.ne;exact⟨none,rfl,rfl,aD,by rw[aC n1,aD],(bK.of (λ_ _ e=>e)).pJ.put nD,nD,by rw[aC n2,aC n3]⟩
  ·rintro ob D i ys au H2 ⟨u,rfl,rfl,e1,e2,e3,e4,e5⟩;have:=List.length_filter_le (λy:Dr×Addr=>decide (y.1.q.at_<=b2)) (ls.take i);rw[List.length_take] at this;exact⟨e1,fK (by rw[List.length_map];lia),e2⟩
  ·rintro ob D i y ys au H2 N hN hy ⟨u,rfl,rfl,e1,e2,e3,e4,e5⟩;unfold cC at hy;obtain⟨z,hz,rfl⟩:=iH hy;have hi:i<ls.length:=gH hz;have k_:z=ls[i]:=by rw[List.getElem?_eq_getElem hi] at hz;exact(Option.some.inj hz).symm
   subst k_;obtain⟨dG,ap,l,ts,m,b',bY,hD⟩:=fX.pK e3 (fX.t _ (List.getElem_mem hi));have ie:=hD.o;have jK:=hD.a.o;have j7:=e5.trans jq;unfold j5 at ie;unfold fQ at jK;have n1:Dx≠D:=cj fX.d e4;have n2:x≠D:=cj fX.o e4;have et:=MM (p:=λy:Dr×Addr=>decide (y.1.q.at_<=b2)) (List.getElem?_eq_getElem hi);wp_walk using T,ie,jK,j7;refine cO (λh1=>?_) λh1=>?_
   ·refine⟨e1,hN _ _ _ ⟨_,?_,rfl,aD,by rw[aC n1];exact e2,e3.put e4,e4,by rw[aC n2];exact e5⟩⟩
    rw[et,if_pos (by simpa using h1),List.map_append];rfl
   ·refine hN _ _ _ ⟨_,?_,rfl,e1,e2,e3,e4,e5⟩;rw[et,if_neg (by simpa using h1),List.append_nil]
  ·rintro ob D ys au H2 ⟨u,rfl,rfl,e1,e2,e3,e4,e5⟩;have n1:Dx≠D:=cj fX.d e4;have n3:=fX.ne;rw[rR,List.take_length] at e1;have s2:bK x Dx H1 (upd H2 Dx (.dK (cC ls))):=e3.pJ;have iQ:=fX.step s2 (.refl _) (by rw[aC n3,e5];exact fX.o) aD
   have RC:upd H2 Dx (.dK (cC ls)) D=some (.lst ((ls.filter λy=>decide (y.1.q.at_<=b2)).map λy=>V.ref y.2)):=by rw[aC (Ne.symm n1)];exact e1
   generalize upd H2 Dx (.dK (cC ls))=H3 at *
   walk_at "rdt";have ql:=q b2;unfold rS at ql;have RD:∀y∈ls.filter (λy=>decide (y.1.q.at_<=b2)),y∈ls:=λy hy=>(List.mem_filter.mp hy).1;have lV:=List.length_filter_le (λy:Dr×Addr=>decide (y.1.q.at_<=b2)) ls;generalize ls.filter (λy=>decide (y.1.q.at_<=b2))=jr at *
   refine lJ D (jr.map λy=>V.ref y.2) (λD2 i ys au H4=>∃(u:Option V),ys=((jr.take i).filter λy => !((kk.getD y.1.n.toNat []).any (jG ls))).map (λy=>V.ref y.2)/\au = [u,some (.ref x)]/\H4 D2=some (.lst ys)/\ah H3 H4/\H3 D2=none) (λQ q=>⟨_,rfl,q⟩) (aE.of RC) ?_ ?_ ?_ ?_
   ·intro D2 nD;exact⟨none,rfl,rfl,aD,ah.put nD,nD⟩
   ·rintro D2 i ys au H4 ⟨u,rfl,rfl,g1,g2,g3⟩;have:=List.length_filter_le (λy:Dr×Addr => !((kk.getD y.1.n.toNat []).any (jG ls))) (jr.take i);rw[List.length_take] at this;exact⟨g1,fK (by rw[List.length_map];lia),aE.of (g2 _ _ RC)⟩
   ·rintro D2 i y ys au H4 N hN hy ⟨u,rfl,rfl,g1,g2,g3⟩;obtain⟨z,hz,rfl⟩:=iH hy;have hi:i<jr.length:=gH hz;have k_:z=jr[i]:=by rw[List.getElem?_eq_getElem hi] at hz;exact(Option.some.inj hz).symm
    subst k_;have RE:=RD _ (List.getElem_mem hi);have n8:=iQ.same g2;obtain⟨dG,ap,l,ts,m,b',bY,hD⟩:=n8.t _ RE;obtain⟨k0,k1⟩:=n8.kn _ RE;have ie:=hD.o;have RG:=n8.o;unfold j5 at ie;unfold c9 at RG;have et:=MM (p:=λy:Dr×Addr => !((kk.getD y.1.n.toNat []).any (jG ls))) (List.getElem?_eq_getElem hi);wp_walk using T,ie,RG;have G5:jr[i].1.n.toNat<kk.length:=by lia
    have RH:kk[jr[i].1.n.toNat]? = some (kk.getD jr[i].1.n.toNat []):=by rw[List.getD_eq_getElem?_getD,List.getElem?_eq_getElem G5];rfl
    have en:jr[i].1.n=((jr[i].1.n.toNat:Nat):Int):=by lia
    refine⟨x,dx,kp,ks,kk,p,r,b2,Dx,ls,jr[i].1.n.toNat,_,by rw[← en],n8,RH,hk _ (List.mem_of_getElem? RH),λH5 s5=>⟨_,rfl,cO (λh1=>?_) λh1=>?_⟩⟩
    ·refine⟨s5 _ _ g1,hN _ _ _ ⟨_,?_,rfl,aD,ah.put2 (g2.trans s5) g3,g3⟩⟩;rw[et,if_pos (by rw[h1];rfl),List.map_append];rfl
    ·refine hN _ _ _ ⟨_,?_,rfl,s5 _ _ g1,g2.trans s5,g3⟩;rw[et,if_neg (by simpa using h1),List.append_nil]
   ·rintro D2 ys au H4 ⟨u,rfl,rfl,g1,g2,g3⟩;have n8:=iQ.same g2;rw[List.length_map,List.take_length] at g1;have s4:=(s1.trans s2).trans (bK.of g2);refine ql D2 H4 st s4 n8 (iQ.free (s1.trans s2) g3) ⟨by rw[g1,List.map_map];rfl,by simp,λi p' d' h1 h2=>?_⟩
    rw[List.getElem?_map] at h1 h2;cases e:(jr.filter λy => !((kk.getD y.1.n.toNat []).any (jG ls)))[i]? with
    | none=>rw[e] at h1;cases h1
    | some y =>
     rw[e] at h1 h2;cases h1;cases h2;exact n8.t y (RD y (List.mem_filter.mp (List.mem_of_getElem? e)).1)
theorem ac_(T:Tx K mg A):aR P w K mg base a_ 2 A.zb A.zc ["asks", "picks"] (Nb K A.bf):=by
 refine T.Gr.ok r_ (λvs H Q E h=>?_) (λaK Ar outer s H vs Q E hr h=>?_)
 ·obtain⟨la,ps,qs,pi,ns,rfl,_⟩:=h
  rfl
 ·obtain⟨la,ps,qs,pi,ns,rfl,ha,q1,hq,hp,n1,hn,q⟩:=h;have hu:=iE hr;have an:=ha.n;refine⟨_,(aB (aT (i:=2) r_.nd rfl (Or.inl rfl) (aL uM (dz (aa lA aj)) (bX eB rfl T.dU boot_len (aa (pv 0) aj))))
   (aB (aT (i:=3) r_.nd rfl (Or.inr rfl) qT)
   (aB (cU PassesOwn.never rfl (e9 (pv 1)) (aW (i:=4) r_.nd rfl (Or.inl rfl))
   (aB (aT (i:=5) r_.nd rfl (Or.inl rfl) (aZ bR (pv 0) (pv 4) (λ_ _=>rfl)))
   (aH (bM (br lG (aU (pv 5) rfl) eN (bq _)) (aH (B3 (g7 (N:=["cell", "marks"]) (nt:=1) (fv:=[3]) (cL.of rfl rfl (by rfl) (by rfl) (by repeat (first | exact trivial | refine⟨rfl,?_⟩)) (by rfl) (by rfl) (by rfl) (by decide) (by decide +kernel)) rfl (e9 (aP (acX T) (hr.mono (by decide)) rfl T.P5 T.Gq.kp T.P4 .nil aM (aa (pv 5) aj))) (λC s H fp=>(aW (i:=0) (show List.Nodup (["cell", "marks"]:List Str) by decide +kernel) rfl (Or.inl rfl))) (λC s H fp=>gG) (λC s H fp=>(Lm hu (pv 1) (pv 0) az ⟨rfl,rfl,rfl,rfl⟩))) (Kh (pv 2) (pv 4) set_list))) fB))))
   (aH (bx (pv 2)))))),?_⟩
  walk_at "rdt";intro t1 m1;have s1:=ah.put (o:=.lst [V.aJ]) m1;refine⟨_,.inl (aE.of (s1 _ _ ha.l)),by lia,by rw[List.length_map];lia,by rw[List.length_map];lia,λt2 m2 t3 m3=>?_⟩
  have s2:=ah.put (o:=.lst (List.replicate (((ps.map V.ref).length:Int)).toNat [V.aJ]).flatten) m2;have s3:=ah.put (o:=.dK []) m3;have h2:=s3 _ _ (aD (H:=upd H t1 (.lst [V.aJ])) (a:=t2) (o:=.lst (List.replicate (((ps.map V.ref).length:Int)).toNat [V.aJ]).flatten));have h3:=aD (H:=upd (upd H t1 (.lst [V.aJ])) t2 (.lst (List.replicate (((ps.map V.ref).length:Int)).toNat [V.aJ]).flatten)) (a:=t3) (o:=.dK []);have s:=(s1.trans s2).trans s3;have m2':=s1.free m2;have m3':=(s1.trans s2).free m3;have hl:((List.replicate (((ps.map V.ref).length:Int)).toNat [V.aJ]).flatten).length=qs.length:=by simp[an]
  generalize (List.replicate (((ps.map V.ref).length:Int)).toNat [V.aJ]).flatten=xs at *
  generalize upd (upd (upd H t1 (.lst [V.aJ])) t2 (.lst xs)) t3 (.dK [])=H3 at *
  refine rl pi (ns.map V.int) (λi σ H'=>∃(x1 x2:Option V) (xs:List V),σ = [some (.ref la),some (.ref pi),some (.ref t2),some (.ref t3),x1,x2]/\ah H H'/\H' t2=some (.lst xs)/\xs.length=qs.length/\H' t3=some (.dK [])) (λQ q=>⟨_,rfl,q⟩) (aE.of (s _ _ hp)) ⟨none,none,xs,rfl,s,h2,hl,h3⟩ (by rintro i σ H' _ ⟨_,_,_,rfl,s',_⟩;exact aE.of (s' _ _ hp)) ?_ ?_
  ·rintro i x σ H' N hN hx ⟨x1,x2,xs,rfl,s',g2,gl,g3⟩;obtain⟨n,Di,rfl⟩:=iH hx;obtain⟨n0,n9⟩:=hn n (List.mem_of_getElem? Di);have hk:n.toNat<qs.length:=by lia
   have gP:=List.getElem?_eq_getElem hk;obtain⟨ap,m,b,dx,e1,a1⟩:=(ha.same s').at gP;obtain⟨k1,k2,k3,k4,k5⟩:=hq _ (List.getElem_mem hk);have a2:=a1.o;unfold fQ at a2;rw[k1] at a2;have ei:ez (ps.map V.ref) n=some (.ref ap):=by have:=dQ e1;rwa [show ((n.toNat:Nat):Int)=n by lia] at this
   walk_at "rdt";refine⟨_,aE.of (s' _ _ ha.l),_,ei,?_⟩;refine⟨ap,rfl,_,_,_,a2,T.kg,T.tu,_,rfl,rfl,rfl,?_⟩;refine M5 ?_;walk_at "rdt";refine⟨ap,_,m,b,dx,rfl,a1,k2,k3,k4,k5,λl cs H4 s4 nl cl RI=>?_⟩;refine lJ l (cs.map V.int) (λD i ys au H5=>∃(u:Option V),au = [u,some (.ref t3)]/\H5 D=some (.lst ys)/\ys.length<=i/\i<=cs.length/\ah H4 H5/\H4 D=none) (λQ q=>q) (aE.of RI) ?_ ?_ ?_ ?_
   ·intro D nD;exact⟨none,rfl,aD,Nat.le_refl _,Nat.zero_le _,ah.put nD,nD⟩
   ·rintro D i ys au H5 ⟨u,rfl,e1,e2,e3,e4,e5⟩;exact⟨e1,by rw[kM];lia,aE.of (e4 _ _ RI)⟩
   ·rintro D i y ys au H5 N hN hy ⟨u,rfl,e1,e2,e3,e4,e5⟩;obtain⟨c,hc,rfl⟩:=iH hy;have hi:=gH hc;have g5:=e4 _ _ (s4 _ _ g3);wp_walk using T,Lk;exact⟨.inl ⟨_,.inl g5⟩,_,fJ.k (k:=bC c) g5,e1,hN _ _ _ ⟨_,rfl,aD,by rw[List.length_append,List.length_singleton];lia,by lia,ah.put2 e4 e5,e5⟩⟩
   ·rintro D ys au H5 ⟨u,rfl,e1,e2,e3,e4,e5⟩;have s5:=s4.trans e4;refine⟨xs,s5 _ _ g2,n.toNat,?_,hN _ _ ⟨_,_,_,rfl,ah.put2 (s'.trans s5) m2',aD,by rw[List.length_set];exact gl,?_⟩⟩
    ·unfold iB;rw[if_pos n0,if_pos (by lia)]
    ·rw[aC (λz=>by rw[z,g2] at g3;cases g3)]
     exact s5 _ _ g3
  ·rintro σ H' ⟨x1,x2,xs,rfl,s',g2,gl,g3⟩;walk_at "rdm";exact q _ _ s'
theorem ada(T:Tx K mg A):aR P w K mg base a_ 2 A.zu A.zw ["_law_cell_here", "_law_rings"] (aal K):=by
 refine T.Gv.ok se (λvs H Q E h=>?_) (λaK Ar outer s H vs Q E hr h=>?_)
 ·obtain⟨c,m,rfl,_⟩:=h
  rfl
 ·obtain⟨c,m,rfl,h2,h60,q⟩:=h;refine⟨_,(aB (aT (i:=2) se.nd rfl (Or.inr rfl) (aL bI az (aP (dJ T) (hr.mono (by decide)) rfl T.dF T.dh.kp T.dD .nil aM (aa (pv 0) (aa az (aa (aZ bR (dz (aa az (aa az (aa az (aa (aL Cc az az) aj))))) (aP (dJ T) (hr.mono (by decide)) rfl T.dF T.dh.kp T.dD .nil aM (aa (pv 0) (aa az (aa az aj)))) (λ_ _=>rfl)) aj))))))
   (aB (bM (br lG (aP (dJ T) (hr.mono (by decide)) rfl T.dF T.dh.kp T.dD .nil aM (aa (pv 0) (aa az (aa az aj)))) az (bq _)) (aH (bx (aL oU (dz (aa az aj)) (bX X0 rfl T.Am boot_sorted (aa (g7 (N:=["_law_k", "_law_step", "_law_cell_here"]) (nt:=1) (fv:=[2,0]) (cL.of rfl rfl (by rfl) (by rfl) (by repeat (first | exact trivial | refine⟨rfl,?_⟩)) (by rfl) (by rfl) (by rfl) (by decide) (by decide +kernel)) rfl (iT rfl T.eW (aa (aL jS (pv 1) az) aj)) (λC s H fp=>(aW (i:=0) (show List.Nodup (["_law_k", "_law_step", "_law_cell_here"]:List Str) by decide +kernel) rfl (Or.inl rfl))) (λC s H fp=>gG) (λC s H fp=>(aL bI (pv 1) (aP (dJ T) (hr.mono (by decide)) rfl T.dF T.dh.kp T.dD .nil aM (aa (pv 2) (aa (aL bI az (pv 0)) (aa (aL bI (pv 1) az) aj))))))) aj))))) bT)
   (aB (aT (i:=3) se.nd rfl (Or.inl rfl) (dz (aa az aj)))
   (aB (cU PassesOwn.never rfl (qC rfl T.eW (aa az (aa (pv 1) aj))) (aW (i:=4) se.nd rfl (Or.inl rfl))
   (aB (cH (iV PySem.F.plainAttrs_list PySem.F.slot_list_append PySem.F.type_list_append jW (pv 3) (aa (aL bI (aZ bR (pv 3) (mY mZ az) (λ_ _=>rfl)) (pv 2)) aj)))
   (aH (aT (i:=2) se.nd rfl (Or.inr rfl) (aL jS (pv 2) (aP (dJ T) (hr.mono (by decide)) rfl T.dF T.dh.kp T.dD .nil aM (aa (pv 0) (aa (aL bI az (pv 4)) (aa (aL bI (aL oN (pv 2) az) az) aj)))))))))
   (aH (bx (pv 3))))))),?_⟩
  wp_walk using bW;refine⟨by decide,λo1 AO=>?_⟩
  have sA:=ah.put (o:=.lst [V.int 3,V.int 40,V.int 1000,V.int 10000000]) AO;have jq:upd H o1 (.lst [V.int 3,V.int 40,V.int 1000,V.int 10000000]) o1=some (.lst [V.int 3,V.int 40,V.int 1000,V.int 10000000]):=aD;generalize upd H o1 (.lst [V.int 3,V.int 40,V.int 1000,V.int 10000000])=H1 at sA jq ⊢;obtain⟨x,hx,x0,x1⟩:∃x:Int,ez [V.int 3,V.int 40,V.int 1000,V.int 10000000] (bH c 22 4)=some (.int x)/\3<=x/\x<=10000000:=by
   have b:=d8 c 22 (m:=4) (by decide)
   have:bH c 22 4=0\/bH c 22 4=1\/bH c 22 4=2\/bH c 22 4=3:=by lia
   rcases this with e | e | e | e <;> rw[e] <;> exact⟨_,rfl,by decide,by decide⟩
  refine⟨_,aE.of jq,_,hx,_,rfl,by lia,?_⟩
  have Hi:=d8 c 21 (m:=x) (by lia)
  generalize hL:1+bH c 21 x=L;have L1:1<=L:=by lia
  have L7:L<=10000000:=by lia
  clear hL Hi hx;refine cO (λh8=>?_) λh8=>?_
  ·intro l0 eE;have s0:=ah.put (o:=.lst [V.int 0]) eE;refine nF (m - 1) (λD i ys au H2=>∃ns:List Int,ys=ns.map V.int/\ns.length=i/\(∀x∈ns,L<=x/\x<=2*L)/\H2 D=some (.lst ys)/\ah (upd H1 l0 (.lst [V.int 0])) H2/\upd H1 l0 (.lst [V.int 0]) D=none/\i<=60/\∃u,au = [u,some (.int L),some (.int c)])
    (λQ q=>?_) (by lia) (by lia) ?_ ?_ ?_ ?_
   ·walk_at "rdm";exact q
   ·intro D hD;exact⟨[],rfl,rfl,(by intro x hx;cases hx),aD,ah.put hD,hD,by lia,none,rfl⟩
   ·rintro D i ys au H2 ⟨ns,rfl,e0,_,e1,e2,e3,e4,_⟩;exact⟨e1,fK (by rw[List.length_map];lia)⟩
   ·rintro D i ys au H2 N hN hi ⟨ns,rfl,e0,eb,e1,e2,e3,e4,u,rfl⟩;wp_walk using bW;have b1:=d8 c (41+(i:Int)) (m:=L+1) (by lia)
    refine⟨by lia,by lia,by lia,e1,hN _ _ _ ⟨ns++[L+bH c (41+(i:Int)) (L+1)],by rw[List.map_append];rfl,by simp[e0],?_,aD,ah.put2 e2 e3,e3,by lia,_,rfl⟩⟩
    intro x hx;rcases List.mem_append.mp hx with hx | hx
    ·exact eb x hx
    ·rw[List.mem_singleton.mp hx];lia
   ·rintro D ys au H2 ⟨ns,rfl,e0,eb,e1,e2,e3,e4,u,rfl⟩
    try walk_at "rdm"
    refine⟨ns,aE.of e1,by lia,λl kK hl hp hs=>?_⟩
    have RJ:=e2 _ _ aD;have fh:l0≠l:=cj RJ hl;refine⟨[V.int 0],by rw[aC fh];exact RJ,?_,λp kJ=>?_⟩
    ·have:=hp.length_eq;simp;lia
    ·have e_:p≠l:=(cj aD kJ).symm;have hp':H2 p=none:=by rw[aC e_] at kJ;exact kJ
     have s2:=sA.trans (s0.trans e2);have hH:H p=none:=s2.free hp';have hHl:H l=none:=s2.free hl;have so:=Yx L1 (by lia) (ns:=kK) (λx hx=>eb x (hp.mem_iff.mp hx)) hs (by rw[hp.length_eq];lia)
     rw[hp.length_eq,show ((ns.length+1:Nat):Int)=m by lia] at so
     exact q p (0::kK) _ (ah.put2 (ah.put2 s2 hHl) hH) hH (by rw[aD];rfl) so
  ·intro l hl;have RK:H l=none:=sA.free hl;refine u_ 1 m (λj σ H'=>∃kk,σ = [some (.int c),some (.int m),some (.int (gu c L j)),some (.ref l),kk]/\ah H H'/\H' l=some (.lst (((List.range (1+j)).map (sumF (gu c L))).map V.int)))
    (λQ q=>?_) (by lia) (by lia) (by lia) (by lia) ⟨none,rfl,sA.trans (ah.put hl),?_⟩ ?_ ?_
   ·walk_at "rdm";exact q
   ·rw[aD];simp[List.range_succ,sumF,gu]
   ·rintro j σ H' N hN hj ⟨kk,rfl,hs,h1⟩;have b:=MJ c L1 j;wp_walk using bW;refine⟨⟨_,aE.of h1⟩,_,aE.of h1,_,Yc (by simp;lia),?_⟩
    wp_walk using h1,bW;refine⟨by rw[List.length_range];lia,by lia,by lia,by lia,hN _ _ ⟨some (.int (1+(j:Int))),?_,ah.put2 hs RK,?_⟩⟩
    ·rw[gu]
    ·rw[aD,show 1+(j+1)=1+j+1 by lia,List.range_succ,List.map_append,List.map_append,List.length_range,_L.range_getD (by lia)]
     congr 4;simp only[List.map_cons,List.map_nil,List.cons.injEq,and_true,V.int.injEq];rw[show 1+j - 1=j by lia,show 1+j=j+1 by lia,sumF]
   ·rintro σ H' ⟨kk,rfl,hs,h1⟩;walk_at "rdm";have e:1+(m - 1).toNat=m.toNat:=by lia
    rw[e] at h1;have so:=aaa (f:=gu c L) L1 L7 (MJ c L1) (n:=m.toNat) (by lia) (by lia)
    rw[show ((m.toNat:Nat):Int)=m by lia] at so
    exact q _ _ _ hs RK h1 so
theorem adb(T:Tx K mg A):aR P w K mg base a_ 2 A.zx A.zy ["_law_cell_here"] (aam K):=by
 refine T.Gw.ok wG (λvs H Q E h=>?_) (λaK Ar outer s H vs Q E hr h=>?_)
 ·obtain⟨c,rfl,_⟩:=h
  rfl
 ·obtain⟨c,rfl,q⟩:=h;refine⟨_,(aB (aT (i:=1) wG.nd rfl (Or.inl rfl) (dz (aa (dP (aa (aL bI az (aP (dJ T) (hr.mono (by decide)) rfl T.dF T.dh.kp T.dD .nil aM (aa (pv 0) (aa az (aa az aj))))) (aa (aL bI az (aP (dJ T) (hr.mono (by decide)) rfl T.dF T.dh.kp T.dD .nil aM (aa (pv 0) (aa az (aa az aj))))) aj))) aj)))
   (aB (cU PassesOwn.never rfl (iT rfl T.eW (aa (aZ bR (dz (aa az (aa az (aa az (aa az (aa az (aa az (aa az (aa az aj))))))))) (aP (dJ T) (hr.mono (by decide)) rfl T.dF T.dh.kp T.dD .nil aM (aa (pv 0) (aa az (aa az aj)))) (λ_ _=>rfl)) aj)) (aW (i:=2) wG.nd rfl (Or.inl rfl))
   (aH (cH (iV PySem.F.plainAttrs_list PySem.F.slot_list_append PySem.F.type_list_append jW (pv 1) (aa (dP (aa (aL bI az (aP (dJ T) (hr.mono (by decide)) rfl T.dF T.dh.kp T.dD .nil aM (aa (pv 0) (aa (aL bI az (pv 2)) (aa az aj))))) (aa (aL bI az (aP (dJ T) (hr.mono (by decide)) rfl T.dF T.dh.kp T.dD .nil aM (aa (pv 0) (aa (aL bI az (pv 2)) (aa az aj))))) aj))) aj)))))
   (aB (nH (bM (br lG (aP (dJ T) (hr.mono (by decide)) rfl T.dF T.dh.kp T.dD .nil aM (aa (pv 0) (aa az (aa az aj)))) az (bq _)) (aH (aT (i:=1) wG.nd rfl (Or.inl rfl) (dz (aa (dP (aa (aL bI az (aP (dJ T) (hr.mono (by decide)) rfl T.dF T.dh.kp T.dD .nil aM (aa (pv 0) (aa az (aa az aj))))) (aa (aL bI az (aP (dJ T) (hr.mono (by decide)) rfl T.dF T.dh.kp T.dD .nil aM (aa (pv 0) (aa az (aa az aj))))) aj))) aj)))) bT))
   (aH (bx (pv 1)))))),?_⟩
  wp_walk using bW;have y1:=d8 c 1 (m:=2) (by decide)
  have y2:=d8 c 2 (m:=8) (by decide)
  intro t0 RL l nl;have AQ:H l=none:=(ah.put RL).free nl;have Hj:=Zn.one (c:=(2+bH c 1 2,1+bH c 2 8)) (aD (H:=H) (a:=t0)) nl;have sA:ah H (upd (upd H t0 (.tup [V.int (2+bH c 1 2),V.int (1+bH c 2 8)])) l (.lst [V.ref t0])):=(ah.put RL).trans (ah.put nl);have RM:ZP [(2+bH c 1 2,1+bH c 2 8)]:=⟨λp hp=>by rw[List.mem_singleton.mp hp];dsimp only;exact⟨by lia,by lia,by lia,by lia⟩,by simp;lia⟩
  generalize upd (upd H t0 (.tup [V.int (2+bH c 1 2),V.int (1+bH c 2 8)])) l (.lst [V.ref t0])=H2 at Hj sA ⊢;generalize (2+bH c 1 2,1+bH c 2 8)=p0 at Hj RM;obtain⟨x,hx,x0,x1⟩:∃x:Int,ez [V.int 0,V.int 1,V.int 2,V.int 0,V.int 1,V.int 2,V.int 1,V.int 4] (bH c 3 8)=some (.int x)/\0<=x/\x<=4:=by
   have b:=d8 c 3 (m:=8) (by decide)
   have:bH c 3 8=0\/bH c 3 8=1\/bH c 3 8=2\/bH c 3 8=3\/bH c 3 8=4\/bH c 3 8=5\/bH c 3 8=6\/bH c 3 8=7:=by lia
   rcases this with e | e | e | e | e | e | e | e <;> rw[e] <;> exact⟨_,rfl,by decide,by decide⟩
  refine rrG ?_;wp_walk using bW;intro o1 AO;have s2:=sA.trans (ah.put (o:=.lst [V.int 0,V.int 1,V.int 2,V.int 0,V.int 1,V.int 2,V.int 1,V.int 4]) AO);have fW:=Hj.same (ah.put (o:=.lst [V.int 0,V.int 1,V.int 2,V.int 0,V.int 1,V.int 2,V.int 1,V.int 4]) AO);have jq:upd H2 o1 (.lst [V.int 0,V.int 1,V.int 2,V.int 0,V.int 1,V.int 2,V.int 1,V.int 4]) o1=some (.lst [V.int 0,V.int 1,V.int 2,V.int 0,V.int 1,V.int 2,V.int 1,V.int 4]):=aD;generalize upd H2 o1 (.lst [V.int 0,V.int 1,V.int 2,V.int 0,V.int 1,V.int 2,V.int 1,V.int 4])=H3 at s2 fW jq ⊢;refine⟨_,aE.of jq,_,hx,x,rfl,vL.by x (λi σ H'=>∃(kk:Option V) (ts:List Addr) (z:List (Int×Int)),σ = [some (.int c),some (.ref l),kk]/\ah H H'/\Zn H' l ts z/\ZP z/\z.length=i+1) (by lia) (by lia) ⟨none,[t0],[p0],rfl,s2,fW,RM,rfl⟩ ?_ ?_⟩
  ·rintro i σ H' N hN hi ⟨kk,ts,z,rfl,s',hz,zp,zn⟩;wp_walk using bW;have b1:=d8 c (4+(i:Int)) (m:=2) (by decide)
   have b2:=d8 c (9+(i:Int)) (m:=8) (by decide)
   refine⟨⟨_,hz.sq⟩,by lia,by lia,by lia,by lia,λp np=>⟨_,ah.put np _ _ hz.l,by rw[List.length_map,hz.n];lia,hN _ _ ⟨_,ts++[p],z++[(1+bH c (4+(i:Int)) 2,1+bH c (9+(i:Int)) 8)],rfl,ah.put2 (s'.trans (ah.put np)) AQ,hz.snoc np _ _,zp.snoc ⟨by dsimp only;lia,by dsimp only;lia,by dsimp only;lia,by dsimp only;lia⟩,by simp[zn]⟩⟩⟩
  ·rintro σ H' ⟨kk,ts,z,rfl,s',hz,zp,zn⟩;have zl:=zp.zl5 (by lia) (by lia)
   wp_walk using bW;have RN:=d8 c 15 (m:=60) (by decide)
   refine⟨λσ H2=>∃(l2:Addr) (h_:List Addr) (z2:List (Int×Int)),σ[1]? = some (some (.ref l2))/\ah H H2/\H l2=none/\Zn H2 l2 h_ z2/\ZL z2,cO (λ_=>λt1 AL l2 p9=>⟨l2,[t1],[_],rfl,s'.trans ((ah.put AL).trans (ah.put p9)),(s'.trans (ah.put AL)).free p9,Zn.one (c:=(2+bH c 1 2,1+bH c 15 60)) aD p9,aan (by lia) (by lia) (by lia) (by lia)⟩) λ_=>⟨l,ts,z,rfl,s',AQ,hz,zl⟩,?_⟩
   rintro σ H2 ⟨l2,h_,z2,e1,s2,n2,mD,zl2⟩;exact⟨_,e1,q l2 h_ z2 H2 s2 n2 mD zl2⟩
theorem ade(T:Tx K mg A):aR P w K mg base a_ 2 A.zC A.zD ["_law_cell_here"] aaR:=by
 refine T.Gy.ok wH (λvs H Q E h=>?_) (λaK Ar outer s H vs Q E hr h=>?_)
 ·obtain⟨c,rfl,_⟩:=h
  rfl
 ·obtain⟨c,rfl,q⟩:=h;refine⟨_,(aB (aT (i:=1) wH.nd rfl (Or.inr rfl) (aP (dJ T) (hr.mono (by decide)) rfl T.dF T.dh.kp T.dD .nil aM (aa (pv 0) (aa az (aa az aj)))))
   (aB (aT (i:=2) wH.nd rfl (Or.inr rfl) (aL bI az (aP (dJ T) (hr.mono (by decide)) rfl T.dF T.dh.kp T.dD .nil aM (aa (pv 0) (aa az (aa az aj))))))
   (aB (aT (i:=3) wH.nd rfl (Or.inr rfl) (aL gm az (aP (dJ T) (hr.mono (by decide)) rfl T.dF T.dh.kp T.dD .nil aM (aa (pv 0) (aa az (aa az aj))))))
   (aH (bx (g7 (N:=["_law_k", "_law_more", "_law_first", "_law_leap"]) (nt:=1) (fv:=[3,1,2]) (cL.of rfl rfl (by rfl) (by rfl) (by repeat (first | exact trivial | refine⟨rfl,?_⟩)) (by rfl) (by rfl) (by rfl) (by decide) (by decide +kernel)) rfl (iT rfl T.eW (aa (aL bI az (aP (dJ T) (hr.mono (by decide)) rfl T.dF T.dh.kp T.dD .nil aM (aa (pv 0) (aa az (aa az aj))))) aj)) (λC s H fp=>(aW (i:=0) (show List.Nodup (["_law_k", "_law_more", "_law_first", "_law_leap"]:List Str) by decide +kernel) rfl (Or.inl rfl))) (λC s H fp=>gG) (λC s H fp=>(aL bI (aL jT (aL bI (pv 2) (aL gm (pv 0) (pv 3))) az) (pv 1))))))))),?_⟩
  wp_walk using bW;have b1:=d8 c 71 (m:=19) (by decide)
  have b2:=d8 c 72 (m:=18) (by decide)
  have b3:=d8 c 73 (m:=2) (by decide)
  have b4:=d8 c 74 (m:=4) (by decide)
  generalize bH c 71 19=f at b1 ⊢;generalize vc:1+bH c 72 18=lp at ⊢;have RO:1<=lp/\lp<=18:=by lia
  generalize hmo:2*bH c 73 2=mo;have mo0:0<=mo/\mo<=2:=by lia
  refine nF (1+bH c 74 4) (λD i ys au H2=>∃(u:Option V) (xs:List Int),ys=xs.map V.int/\xs.length=i/\(∀x∈xs,0<=x/\x<=20)/\xs=(List.range i).map (λ(k:Nat)=>(f+(k:Int)*lp) % 19+mo)/\au = [u,some (.int mo),some (.int f),some (.int lp)]/\H2 D=some (.lst ys)/\ah H H2/\H D=none/\i<=4) (λQ q=>?_) (by lia) (by lia) ?_ ?_ ?_ ?_
  ·wp_walk using bW;exact q
  ·intro D hD;exact⟨none,[],rfl,rfl,(λ_ h=>nomatch h),rfl,rfl,aD,ah.put hD,hD,by lia⟩
  ·rintro D i ys au H2 ⟨u,xs,rfl,e0,eb,ex,rfl,e1,e2,e3,e4⟩;exact⟨e1,fK (by rw[List.length_map];lia)⟩
  ·rintro D i ys au H2 N hN hi ⟨u,xs,rfl,e0,eb,ex,rfl,e1,e2,e3,e4⟩;walk_at "rdm";have m0:=Int.emod_nonneg (f+(i:Int)*lp) (show (19:Int)≠0 by decide)
   have m1:=Int.emod_lt_of_pos (f+(i:Int)*lp) (show (0:Int)<19 by decide)
   refine⟨.inl ⟨by lia,by lia⟩,e1,hN _ _ _ ⟨_,xs++[(f+(i:Int)*lp) % 19+mo],by rw[List.map_append];rfl,by simp[e0],λx hx=>?_,by rw[ex,List.range_succ,List.map_append];rfl,rfl,aD,ah.put2 e2 e3,e3,by lia⟩⟩
   rcases List.mem_append.mp hx with hx | hx
   ·exact eb x hx
   ·rw[List.mem_singleton.mp hx];lia
  ·rintro D ys au H2 ⟨u,xs,rfl,e0,eb,ex,rfl,e1,e2,e3,e4⟩;exact q D xs H2 e2 e3 e1 (by lia) (by lia) eb (ex▸aaP b1.1 RO.1 RO.2 (by lia))
theorem adf(T:Tx K mg A):aR P w K mg base a_ 2 A.zK A.zL ["_law_cell_here", "_law_shares"] abH:=by
 refine T.GD.ok wJ (λvs H Q E h=>?_) (λaK Ar outer s H vs Q E hr h=>?_)
 ·obtain⟨c,l,ts,z,rfl,_⟩:=h
  rfl
 ·obtain⟨c,l,ts,z,rfl,hz,ok,q⟩:=h;refine⟨_,(aB (eU (aT (i:=2) wJ.nd rfl (Or.inl rfl) (aP (dJ T) (hr.mono (by decide)) rfl T.dF T.dh.kp T.dD .nil aM (aa (pv 0) (aa az (aa (bX eB rfl T.dU boot_len (aa (pv 1) aj)) aj))))))
   (aB (eU (aT (i:=3) wJ.nd rfl (Or.inl rfl) (aZ bR (dz (aa (dP (aa (mY mZ az) (aa az aj))) (aa (dP (aa az (aa az aj))) (aa (dP (aa (aZ dR (aZ bR (pv 1) (pv 2) (λ_ _=>rfl)) az (λ_ _=>rfl)) (aa az aj))) (aa (dP (aa (aZ dR (aZ bR (pv 1) (pv 2) (λ_ _=>rfl)) az (λ_ _=>rfl)) (aa az aj))) (aa (dP (aa (aL Cc az az) (aa az aj))) aj)))))) (aP (dJ T) (hr.mono (by decide)) rfl T.dF T.dh.kp T.dD .nil aM (aa (pv 0) (aa az (aa az aj)))) (λ_ _=>rfl))))
   (aB (eU (aT (i:=4) wJ.nd rfl (Or.inl rfl) (dz (aa (aL oU (aL oU (Cm Co (pv 1) KU (uI (pv 2))) (dz (aa (pv 3) aj))) (Cm Co (pv 1) (uI (aL bI (pv 2) az)) KU)) (aa (dz aj) (aa (aL oU (pv 1) (Cm Co (pv 1) (uI (pv 2)) (uI (aL bI (pv 2) az)))) (aa (g7 (N:=["_law_k"]) (nt:=1) (fv:=[]) (cL.of rfl rfl (by rfl) (by rfl) (by repeat (first | exact trivial | refine⟨rfl,?_⟩)) (by rfl) (by rfl) (by rfl) (by decide) (by decide +kernel)) rfl (iT rfl T.eW (aa az aj)) (λC s H fp=>(aW (i:=0) (show List.Nodup (["_law_k"]:List Str) by decide +kernel) rfl (Or.inl rfl))) (λC s H fp=>gG) (λC s H fp=>(dP (aa (pv 0) (aa az aj))))) aj)))))))
   (aH (bx (aZ bR (pv 4) (aP (dJ T) (hr.mono (by decide)) rfl T.dF T.dh.kp T.dD .nil aM (aa (pv 0) (aa az (aa az aj)))) (λ_ _=>rfl))))))),?_⟩
  have zn:=hz.n;have n1:=ok.n1;have n4:=ok.n4;refine eV λN1 k1=>?_;wp_walk using T,bW;have n_:=d8 c 92 (m:=(z.length:Int)) (by lia)
  obtain⟨k,hk⟩:∃k:Nat,bH c 92 (z.length:Int)=(k:Int):=⟨(bH c 92 (z.length:Int)).toNat,by lia⟩
  refine⟨_,.inl hz.sq,by rw[List.length_map];lia,?_⟩
  rw[List.length_map,zn,hk];rw[hk] at n_;refine k1 _ _ ?_;obtain⟨pt,c1,c2⟩:=hz.ti n_.1 n_.2;have mk:=ok.a _ (List.mem_of_getElem? (i7 n_.1 n_.2));have zk:=i7 n_.1 n_.2;rw[Int.toNat_natCast] at zk;generalize bG z k=ak at *
  generalize cX z k=sk at *
  refine eV λN2 k2=>?_;wp_walk using T,bW;intro p0 e0 p1 e1;have s0:=ah.put (o:=.tup [V.int (-1),V.int 1]) e0;have s1:=ah.put (o:=.tup [V.int 21,V.int 2]) e1;have AR:=s0.trans s1;refine⟨_,AR.seq hz.sq,_,c1,pt,rfl,_,aQ.of (AR _ _ c2),_,rfl,λp2 e2=>?_⟩;have s2:=ah.put (o:=.tup [V.int ak,V.int 0]) e2;have AS:=AR.trans s2;refine⟨_,AS.seq hz.sq,_,c1,pt,rfl,_,aQ.of (AS _ _ c2),_,rfl,λp3 e3=>?_⟩;refine⟨by decide,λp4 e4 p5 e5=>?_⟩
  have s3:=ah.put (o:=.tup [V.int ak,V.int 5]) e3;have s4:=ah.put (o:=.tup [V.int 100000000000000000000,V.int 1]) e4;have s5:=ah.put (o:=.lst [V.ref p0,V.ref p1,V.ref p2,V.ref p3,V.ref p4]) e5;have z0:=Zz.one (s5 _ _ (s4 _ _ (s3 _ _ (s2 _ _ (s1 _ _ aD)))));have z1:=Zz.one (s5 _ _ (s4 _ _ (s3 _ _ (s2 _ _ aD))));have z2:=Zz.one (s5 _ _ (s4 _ _ (s3 _ _ aD)));have z3:=Zz.one (s5 _ _ (s4 _ _ aD));have z4:=Zz.one (s5 _ _ aD);have bz:=(((z0.cat z1).cat z2).cat z3).cat z4;clear z0 z1 z2 z3 z4;have bn:=bz.zn (l:=p5) aD;have sH:=(((AS.trans s3).trans s4).trans s5);clear bz;have tN:=d8 c 93 (m:=5) (by decide)
  generalize upd _ p5 (.lst [V.ref p0,V.ref p1,V.ref p2,V.ref p3,V.ref p4])=H1 at bn sH ⊢;clear s0 s1 s2 s3 s4 s5 AR AS e0 e1 e2 e3 e4 e5;obtain⟨pb,eb,hb⟩:=bn.ti tN.1 (by simpa using tN.2)
  have nb:=List.mem_of_getElem? (i7 (sh:=[(-1,1)]++[(21,2)]++[(ak,0)]++[(ak,5)]++[(100000000000000000000,1)]) tN.1 (by simpa using tN.2))
  refine⟨_,bn.sq,_,eb,k2 _ _ ?_⟩;generalize bG _ (bH c 93 5)=b1 at hb nb;generalize cX _ (bH c 93 5)=b2 at hb nb;have nb:¬ (0<=b1/\b1<=20/\1<=b2/\b2<=4):=by
   simp only[List.mem_append,List.mem_singleton,Prod.mk.injEq] at nb;lia
  clear eb tN bn;have fW:=hz.same sH;have ec:iA (ts.map V.ref) (some ((k:Int)+1)) none=(ts.drop (k+1)).map V.ref:=by
   have:=aah (ts.map V.ref) (k+1);rw[List.map_drop];exact this
  refine eV λN3 k3=>?_;wp_walk using T,bW;refine⟨_,fW.sq,λq1 m1=>?_⟩;simp only[aag,← List.map_take];intro q2 m2;have t1:=ah.put (o:=.lst ((ts.take k).map V.ref)) m1;have t2:=t1.trans (ah.put (o:=.lst [V.ref pb]) m2);refine⟨_,ah.put m2 _ _ aD,by simp only[List.length_map,List.length_take];lia,λq3 m3=>?_⟩
  have t3:=t2.trans (ah.put (o:=.lst ((ts.take k).map V.ref++[V.ref pb])) m3);refine⟨_,(fW.same t3).sq,λq4 m4=>?_⟩;rw[ec];have t4:=t3.trans (ah.put (o:=.lst ((ts.drop (k+1)).map V.ref)) m4);refine⟨_,ah.put m4 _ _ aD,by simp only[List.length_map,List.length_take,List.length_drop,List.length_append,List.length_cons,List.length_nil];lia,λq5 m5 q6 m6=>?_⟩
  have t5:=t4.trans (ah.put (o:=.lst ((ts.take k).map V.ref++[V.ref pb]++(ts.drop (k+1)).map V.ref)) m5);have t6:=ah.put (o:=.lst []) m6;have hS:Zn _ q5 (ts.take k++[pb]++ts.drop (k+1)) (z.take k++[(b1,b2)]++z.drop (k+1)):=(Zz.zn (l:=q5) ((((fW.zz.take k).cat (Zz.one hb)).cat (fW.zz.drop (k+1))).same t5) (by rw[aD,List.map_append,List.map_append];rfl)).same t6
  have hE:Zn _ q6 [] []:=Zn.start (H:=upd (upd (upd (upd (upd H1 q1 (.lst ((ts.take k).map V.ref))) q2 (.lst [V.ref pb])) q3 (.lst ((ts.take k).map V.ref++[V.ref pb]))) q4 (.lst ((ts.drop (k+1)).map V.ref))) q5 (.lst ((ts.take k).map V.ref++[V.ref pb]++(ts.drop (k+1)).map V.ref))) (l:=q6);have oh:=t5.trans t6;generalize upd _ q6 (.lst [])=H6 at hS hE oh ⊢;clear t1 t2 t3 t4 t5 t6 m1 m2 m3 m4 m5 m6;have tO:=fW.same oh;have pO:k<ts.length:=by lia
  have e1:iA (ts.map V.ref) (some (k:Int)) (some ((k:Int)+1)) = [V.ref ts[k]]:=by
   rw[aaN (by rw[List.length_map];exact pO),List.drop_eq_getElem_cons (by rw[List.length_map];exact pO),List.getElem_map];rfl
  have RP:Zz H6 [ts[k]] [(ak,sk)]:=Zz.one (tO.t k _ _ (List.getElem?_eq_getElem pO) zk);refine⟨_,tO.sq,λq7 m7=>?_⟩;rw[e1];have t7:=ah.put (o:=.lst [V.ref ts[k]]) m7;refine⟨_,t7 _ _ tO.l,by simp only[List.length_map,List.length_cons,List.length_nil];lia,λq8 m8=>?_⟩
  have t8:=ah.put (o:=.lst (ts.map V.ref++[V.ref ts[k]])) m8;have tQ:=t7.trans t8;have hT:Zn _ q8 (ts++[ts[k]]) (z++[(ak,sk)]):=Zz.zn (l:=q8) ((tO.zz.cat RP).same tQ) (by rw[aD,List.map_append];rfl)
  have RQ:=oh.trans tQ;have RS:=hS.same tQ;have RT:=hE.same tQ;generalize upd _ q8 (.lst (ts.map V.ref++[V.ref ts[k]]))=H8 at hT RQ RS RT ⊢;clear t7 t8 tQ m7 m8 hS hE oh RP tO fW e1;refine nF 5 (λD i ys au H2=>∃(u:Option V) (as:List Addr) (zz:List (Int×Int)),ys=as.map V.ref/\au = [u]/\Zn H2 D as zz/\zz.length=i/\ah H8 H2/\H8 D=none/\i<=5) (λQ q=>q) (by lia) (by lia) ?_ ?_ ?_ ?_
  ·intro D hD;exact⟨none,[],[],rfl,rfl,Zn.start,rfl,ah.put hD,hD,by lia⟩
  ·rintro D i ys au H2 ⟨u,as,zz,rfl,rfl,g1,g2,g3,g4,g5⟩;exact⟨g1.l,fK (by rw[List.length_map,g1.n];lia)⟩
  ·rintro D i ys au H2 N hN hi ⟨u,as,zz,rfl,rfl,g1,g2,g3,g4,g5⟩;wp_walk using bW;exact λp np=>⟨ah.put np _ _ g1.l,hN _ _ _ ⟨_,as++[p],_,by rw[List.map_append];rfl,rfl,g1.snoc np _ _,by simp[g2],ah.put2 (g3.trans (ah.put np)) g4,g4,by lia⟩⟩
  ·rintro D ys au H9 ⟨u,as,zz,rfl,rfl,g1,g2,g3,g4,g5⟩;intro q9 m9;refine k3 _ _ ?_;have t9:=ah.put (o:=.lst [V.ref q5,V.ref q6,V.ref q8,V.ref D]) m9;have AU:=g3.trans t9;have d94:=d8 c 94 (m:=4) (by decide)
   have bad:aaO (upd H9 q9 (.lst [V.ref q5,V.ref q6,V.ref q8,V.ref D])) q9 [q5,q6,q8,D]:=by
    refine⟨aD,by simp,λb hb=>?_⟩
    simp only[List.mem_cons,List.not_mem_nil,or_false] at hb;rcases hb with rfl | rfl | rfl | rfl
    ·exact⟨_,_,RS.same AU,by simp only[List.length_take,List.length_drop,List.length_append,List.length_cons,List.length_nil];lia,λo=>nb (o.a (b1,b2) (by simp))⟩
    ·exact⟨_,_,RT.same AU,by decide,λo=>by have:=o.n1;simp at this⟩
    ·refine⟨_,_,hT.same AU,by simp only[List.length_append,List.length_cons,List.length_nil];lia,λo=>?_⟩
     have:=o.nd;rw[List.map_append,List.nodup_append] at this;exact this.2.2 ak (List.mem_map.mpr ⟨_,List.mem_of_getElem? zk,rfl⟩) ak (by simp) rfl
    ·exact⟨_,_,g1.same t9,by rw[g2];lia,λo=>by have:=o.n4;simp at g2;lia⟩
   have RU:=sH.trans (RQ.trans AU);generalize upd H9 q9 (.lst [V.ref q5,V.ref q6,V.ref q8,V.ref D])=Hl at bad RU ⊢;wp_walk using T,bW;obtain⟨b,eb,hb⟩:∃b,ez ([q5,q6,q8,D].map V.ref) (bH c 94 4)=some (.ref b)/\b∈[q5,q6,q8,D]:=by
    have hi:(bH c 94 4).toNat < [q5,q6,q8,D].length:=by simp only[List.length_cons,List.length_nil];lia
    refine⟨[q5,q6,q8,D][(bH c 94 4).toNat],?_,List.getElem_mem hi⟩;have:=dQ (xs:=[q5,q6,q8,D].map V.ref) (j:=(bH c 94 4).toNat) (v:=.ref [q5,q6,q8,D][(bH c 94 4).toNat]) (by rw[List.getElem?_map,List.getElem?_eq_getElem hi];rfl)
    rwa [Int.toNat_of_nonneg d94.1] at this
   obtain⟨i9,z',h1,h2,h3⟩:=bad.t b hb;exact⟨_,aE.of bad.l,_,eb,q b i9 z' _ RU h1 h2 h3⟩
theorem adg(T:Tx K mg A):aR P w K mg base a_ 3 A.wR A.wU ["first", "many", "at", "asker", "latest", "behind"] (YY K):=by
 refine T.Fw.ok abM (λvs H Q E h=>?_) (λaK Ar outer s H vs Q E hr h=>?_)
 ·obtain⟨f,m,a,s',l,b,ns,rfl,_⟩:=h
  rfl
 ·obtain⟨f,m,a,s',l,b,ns,rfl,hB,hS,hR,q⟩:=h;refine⟨_,(aB (cH (aP (pY T) (hr.mono (by decide)) rfl T.nU T.l8.kp T.nQ .nil aM (aa (pv 0) (aa az (aa (dN (v:=.int 1000000) rfl T.QJ ⟨_,rfl⟩) (aa eN aj))))))
   (aB (cH (aP (pY T) (hr.mono (by decide)) rfl T.nU T.l8.kp T.nQ .nil aM (aa (pv 1) (aa az (aa (dN (v:=.int 16) rfl T.QI ⟨_,rfl⟩) (aa eN aj))))))
   (aB (cH (aP (pY T) (hr.mono (by decide)) rfl T.nU T.l8.kp T.nQ .nil aM (aa (pv 2) (aa az (aa (dN (v:=.int 1000000000000) rfl T.QK ⟨_,rfl⟩) (aa eN aj))))))
   (aB (cH (aP (pY T) (hr.mono (by decide)) rfl T.nU T.l8.kp T.nQ .nil aM (aa (pv 3) (aa az (aa (dN (v:=.int 20) rfl T.QL ⟨_,rfl⟩) (aa eN aj))))))
   (aB (bM (br V2 (pv 4) lA (bq _)) (aH (cH (aP (pY T) (hr.mono (by decide)) rfl T.nU T.l8.kp T.nQ .nil aM (aa (pv 4) (aa az (aa (dN (v:=.int 10000000000000) rfl T.QM ⟨_,rfl⟩) (aa eN aj))))))) bT)
   (aH (cH (aP (ac2 T) (hr.mono (by decide)) rfl T.Oc T.Fv.kp T.Ob .nil aM (aa (pv 5) aj))))))))),?_⟩
  walk_at "rdm";refine⟨_,_,_,_,rfl,hB.f0,hB.f1,_,_,_,_,rfl,hB.m0,hB.m1,_,_,_,_,rfl,hB.a0,hB.a1,_,_,_,_,rfl,hB.s0,hB.s1,?_⟩
  try dsimp only
  cases l with
  | none=>exact ite_no (by simp[o9]) ⟨b,ns,rfl,hS,hR,q⟩
  | some x=>exact ite_yes (by simp[o9]) ⟨x,0,10000000000000,_,rfl,(hB.l x rfl).1,(hB.l x rfl).2,b,ns,rfl,hS,hR,q⟩
theorem adh(T:Tx K mg A):aR P w K mg base a_ 3 A.w_ A.xg ["plate", "ring", "place", "beat"] (YC K [A.bu]):=by
 refine T.FA.ok abP (λvs H Q E h=>?_) (λaK Ar outer s H vs Q E hr h=>?_)
 ·obtain⟨C,p,P,fp,r,c,b,rfl,_⟩:=h
  rfl
 ·obtain⟨C,p,P,fp,r,c,b,rfl,hC,hP,ok,h0,h1,h5,h6,q⟩:=h;obtain⟨dx,a1,a2,a3,a4,ts,fs,AN,h⟩:=id hP;have AV:=ok.c r.toNat (by lia)
  have hl:=ok.aq;have hn:=ok.n1;refine⟨_,(aH (bx (aL bI (pv 3) (aL jT (aL jS (rE (pv 0) T.acz (ac6 T) (hr.mono (by decide)) T.O7 .nil aM (aa (pv 1) (aa (pv 2) aj))) (pv 3)) (LW (pv 0) T.Rf (Rl T) (hr.mono (by decide)) T.Gf .nil aM))))),?_⟩
  wp_walk using h.o,h.f1,h.f2,h.f3,h.f4,h.f5,h.f6,h.m1,h.m2,h.m3,h.m4,h.m5,h.m6,h.m7,h.m8,h.m9,h.iZ,h.i6,h.cp.cl,h.cp.n1,h.cp.n2,h.cp.n3,h.cp.n4,h.cp.n5,h.cp.n6;refine⟨hC,C,p,P,fp,r,c,rfl,hC,hP,h0,h1,hn,by lia,AV.2,h5,h6,by lia,?_⟩
  wp_walk using h.o,h.f1,h.f2,h.f3,h.f4,h.f5,h.f6,h.m1,h.m2,h.m3,h.m4,h.m5,h.m6,h.m7,h.m8,h.m9,h.iZ,h.i6,h.cp.cl,h.cp.n1,h.cp.n2,h.cp.n3,h.cp.n4,h.cp.n5,h.cp.n6;refine⟨hC,C,p,P,fp,rfl,hP,?_⟩;walk_at "rdm";exact⟨by lia,q⟩
theorem RV(T:Tx K mg A):aR P w K mg base (fj P w base) 3 A.xR A.xS ["shares", "asker", "ahead"] (aby A.aV):=by
 refine T.zW.nG Ff (λvs H Q E h=>?_) (λaK Ar outer s H vs Q E hr h=>?_)
 ·obtain⟨l,ts,z,a,h,rfl,_⟩:=h
  rfl
 ·obtain⟨l,ts,z,a,h,rfl,hz,zn,h0,h3,q1,q2⟩:=h;refine⟨_,(aB (aT (i:=3) Ff.nd rfl (Or.inl rfl) (aP (Rz T) (hr.mono (by decide)) rfl T.FL T.zT.kp T.FJ .nil rL (aa (pv 0) (aa (pv 1) aj))))
   (aB (aT (i:=4) Ff.nd rfl (Or.inl rfl) (bX (CQ rfl) rfl T.pW boot_sum (aa (g7 (N:=["other", "share"]) (nt:=2) (fv:=[]) (cL.of rfl rfl (by rfl) (by rfl) (by repeat (first | exact trivial | refine⟨rfl,?_⟩)) (by rfl) (by rfl) (by rfl) (by decide) (by decide +kernel)) rfl (e9 (pv 0)) (λC s H fp=>(rD (K:=K) (n:=2) rfl rfl (bN (aW (i:=0) (show List.Nodup (["other", "share"]:List Str) by decide +kernel) rfl (Or.inl rfl)) (bN (aW (i:=1) (show List.Nodup (["other", "share"]:List Str) by decide +kernel) rfl (Or.inl rfl)) e7)))) (λC s H fp=>gG) (λC s H fp=>(pv 1))) aj)))
   (aH (bx (aL gm (aP (Ri T) (hr.mono (by decide)) rfl T.FO T.zU.kp T.FN .nil aM (aa (pv 3) (aa (pv 2) aj))) (aL jS (pv 4) (pv 3))))))),?_⟩
  walk_at "rdt";refine⟨l,ts,z,a,rfl,hz,zn,λhs s H1 s1 hm=>?_,λn H1 s1=>q2 n _ s1⟩;have fW:=hz.same s1;have sb:=hs.1.a _ hm;have zl:=hs.1.n4;have d:=wc (s:=s) (by lia) h0 h3
  refine lJ l (ts.map V.ref) (λD i ys au H2=>∃(v w:Option V),ys=((z.take i).map (·.2)).map V.int/\au = [v,w]/\H2 D=some (.lst ys)/\ah H1 H2/\H1 D=none) (λQ q=>⟨_,rfl,q⟩) fW.sq ?_ ?_ ?_ ?_
  ·intro D hD;exact⟨none,none,rfl,rfl,aD,ah.put hD,hD⟩
  ·rintro D i ys au H2 ⟨v,w,rfl,rfl,e1,e2,e3⟩;exact⟨e1,fK (by rw[List.length_map,List.length_map,List.length_take];lia),e2.seq fW.sq⟩
  ·rintro D i x ys au H2 N hN hx ⟨v,w,rfl,rfl,e1,e2,e3⟩;obtain⟨t,p,rfl,hp,ht⟩:=(fW.same e2).at hx;walk_at "rdm";exact⟨_,aQ.of ht,rfl,_,_,rfl,_,_,rfl,rfl,e1,hN _ _ _ ⟨_,_,by rw[take_succ_get hp,List.map_append,List.map_append];rfl,rfl,aD,ah.put2 e2 e3,e3⟩⟩
  ·rintro D ys au H2 ⟨v,w,rfl,rfl,e1,e2,e3⟩;rw[List.length_map,hz.n,List.take_length] at e1;exact⟨D,rfl,_,aE.of e1,s,h,rfl,by lia,by lia,h0,by lia,_,rfl,_,rfl,.inl ⟨by lia,by lia⟩,q1 hs s _ (s1.trans e2) hm⟩
theorem adi(T:Tx K mg A):aR P w K mg base a_ 3 A.yi A.yj ["self", "zones", "lap", "skew", "swing"] (Yq K):=by
 refine T.OY.ok abU (λvs H Q E h=>?_) (λaK Ar outer s H vs Q E hr h=>?_)
 ·obtain⟨C,p,dx,za,sa,o8,z,aq,c7,sw,rfl,_⟩:=h
  rfl
 ·obtain⟨C,p,dx,za,sa,o8,z,aq,c7,sw,rfl,cp,hp,hz,ok,h1,h2,h3,h4,hd,hS,so,q⟩:=h;refine⟨_,(aB (cH (aP (acI T) (hr.mono (by decide)) rfl T.OL T.FW.kp T.OJ .nil aM (aa (pv 1) aj)))
   (aB (cH (aP (acJ T) (hr.mono (by decide)) rfl T.ON T.FY.kp T.OM .nil aM (aa (pv 1) (aa (pv 2) (aa (pv 3) aj)))))
   (aB (cg (pv 0) (aP (acL T) (hr.mono (by decide)) rfl T.OT T.Ga.kp T.OS .nil aM (aa (pv 1) aj)) rfl)
   (aB (cH (aP (ac5 T) (hr.mono (by decide)) rfl T.OP T.FZ.kp T.OO .nil aM (aa (pv 4) (aa (bX eB rfl T.dU boot_len (aa (aU (pv 0) rfl) aj)) aj))))
   (aB (cg (pv 0) (pv 2) rfl)
   (aB (cg (pv 0) (pv 3) rfl)
   (aB (cg (pv 0) (uH K4 rfl T.nX boot_list (aa (pv 4) aj)) rfl)
   (aB (cg (pv 0) (aP (acM T) (hr.mono (by decide)) rfl T.OV T.Gb.kp T.OU .nil aM (aa (aU (pv 0) rfl) (aa az aj))) rfl)
   (aH (cg (pv 0) (aP (acN T) (hr.mono (by decide)) rfl T.OX T.Gd.kp T.OW .nil aM (aa (aU (pv 0) rfl) aj)) rfl)))))))))),?_⟩
  wp_walk using cp.cl,cp.n1,cp.n2,cp.n3,cp.n4,cp.n5,cp.n6;refine⟨za,o8,z,rfl,hz,ok,λH1 s1=>⟨za,o8,z,aq,c7,rfl,hz.same s1,ok,h1,h2,h3,h4,hd,?_⟩⟩;refine⟨za,o8,z,rfl,hz.same s1,ok,λa1 H2 s2 n1 e1=>?_⟩;have kJ:=(s1.trans s2) _ _ hp;have gf:a1≠p:=(cj (s1 _ _ hp) n1).symm;have cl:=o7 z λp hp=>(ok.r p hp).1;have aha:=ok.CV;have c2:=ok.s2;have Ho:SameBut p H H2:=.of (s1.trans s2);have fr1:H a1=none:=s1.free n1;wp_walk using cp.cl,cp.n1,cp.n2,cp.n3,cp.n4,cp.n5,cp.n6,kJ;refine⟨_,.inl (aE.of ((aC gf).trans e1)),?_⟩;have Hq:∀ {H':Hp},SameBut p H H'->aE K H' sa (sw.map V.int):=λ{H'} sb=>by
   rcases hS with(h | ⟨o,h⟩) | h
   ·exact .inl (.inl (sb _ _ h (qp h hp (by intro z;cases z))))
   ·exact .inl (.inr ⟨o,sb _ _ h (qp h hp (by intro z;cases z))⟩)
   ·exact .inr h
  refine⟨sa,sw,_,rfl,Hq Ho.put,?_,?_,?_⟩
  ·simpa only[List.length_map,cl] using so
  ·simp only[List.length_map];lia
  wp_walk using cp.cl,cp.n1,cp.n2,cp.n3,cp.n4,cp.n5,cp.n6;refine⟨_,.inl (Hq Ho.put),λa2 n2=>?_⟩;have oq:p≠a2:=cj aD n2;have RW:H2 a2=none:=by rw[aC oq.symm] at n2;exact n2
  wp_walk using cp.cl,cp.n1,cp.n2,cp.n3,cp.n4,cp.n5,cp.n6,aC oq;have na2:a1≠a2:=cj e1 RW;have kq:SameBut p H (upd (upd (upd H2 p (HO.ins C dx [(Str.ofString "ring_cells",V.ref a1),(Str.ofString "lap",V.int aq),(Str.ofString "skew",V.int c7)])) a2 (HO.lst (List.map V.int sw))) p
   (HO.ins C dx [(Str.ofString "ring_cells",V.ref a1),(Str.ofString "lap",V.int aq),(Str.ofString "skew",V.int c7),(Str.ofString "swing",V.ref a2)])):=(Ho.put.step (ah.put n2)).put
  have Lx:=e1;have fr2:H a2=none:=(s1.trans s2).free RW;generalize Hr:upd (upd (upd H2 p _) a2 _) p _=H3 at kq ⊢;have p3:H3 p=some (HO.ins C dx [(Str.ofString "ring_cells",V.ref a1),(Str.ofString "lap",V.int aq),(Str.ofString "skew",V.int c7),(Str.ofString "swing",V.ref a2)]):=by rw[← Hr,aD]
  have q1:H3 a1=some (.lst ((counts z).map V.int)):=by rw[← Hr,aC gf,aC na2,aC gf];exact e1
  have q2:H3 a2=some (.lst (sw.map V.int)):=by rw[← Hr,aC oq.symm,aD]
  have cm:∀c∈counts z,0<=c/\c<=1000:=λc hc=>by
   obtain⟨y,hy,rfl⟩:=rB hc;have:=ok.r y hy;lia
  refine⟨a1,counts z,0,rfl,aE.of q1,by lia,cm,by decide,by decide,λa3 ts H4 s4 n3 RX z4=>?_⟩
  have p4:=s4 _ _ p3;have Hs:a3≠p:=(cj p3 n3).symm;have mW:H a3=none:=by
   cases e:H a3 with
   | none=>rfl
   | some o=>rw[kq _ _ e Hs] at n3;cases n3
  have Ht:∀t∈ts,t≠p:=λt ht=>(cj p3 (RX t ht)).symm;have frt:∀t∈ts,H t=none:=λt ht=>by
   cases e:H t with
   | none=>rfl
   | some o=>have:=kq _ _ e (Ht t ht);rw[RX t ht] at this;cases this
  wp_walk using cp.cl,cp.n1,cp.n2,cp.n3,cp.n4,cp.n5,cp.n6,p4;have z5:=z4.keep (H':=upd H4 p (HO.ins C dx [(Str.ofString "ring_cells",V.ref a1),(Str.ofString "lap",V.int aq),(Str.ofString "skew",V.int c7),(Str.ofString "swing",V.ref a2),(Str.ofString "number_cells",V.ref a3)])) (aC Hs) λt ht=>aC (Ht t ht);have zl:(kL (counts z) 0).length<=1000000:=by
   have:=u7 (s:=0) (by decide) (counts z) 0 cm
   have e:(counts z).length<=120:=by lia
   unfold kL;lia
  refine⟨a3,ts,_,rfl,z5,zl,λa4 H5 s5 n4 e4=>?_⟩;have Hu:a4≠p:=(cj aD n4).symm;have sb5:SameBut p H H5:=((kq.step s4).put).step s5;have RY:H4 a4=none:=by rw[aC Hu] at n4;exact n4
  have fr4:H a4=none:=by
   cases e:H a4 with
   | none=>rfl
   | some o=>rw[(kq.step s4) _ _ e Hu] at RY;cases RY
  wp_walk using cp.cl,cp.n1,cp.n2,cp.n3,cp.n4,cp.n5,cp.n6,s5 _ _ aD;refine q _ dx a1 a2 a3 a4 ts sb5.put ?_ aD (lK.lit cp aD ?_ ?_ ?_ ?_)
  ·intro b hb;simp only[List.mem_cons] at hb;rcases hb with rfl | rfl | rfl | rfl | hb
   ·exact fr1
   ·exact fr2
   ·exact mW
   ·exact fr4
   ·exact frt b hb
  ·rw[aC gf];exact s5 _ _ ((aC gf).trans (s4 _ _ q1))
  ·rw[aC oq.symm];exact s5 _ _ ((aC oq.symm).trans (s4 _ _ q2))
  ·exact(z5.same s5).keep (aC Hs) λt ht=>aC (Ht t ht)
  ·rw[aC Hu];exact e4
theorem RZ(T:Tx K mg A):aR P w K mg base a_ 3 A.yx A.yy ["plate", "number", "ask"] (aae K [A.bu] A.bf):=by
 refine T.zY.ok ab3 (λvs H Q E h=>?_) (λaK Ar outer s H vs Q E hr h=>?_)
 ·obtain⟨C,p,ap,k,P,fp,q',m,b,dx,rfl,_⟩:=h
  rfl
 ·obtain⟨C,p,ap,k,P,fp,q',m,b,dx,rfl,hC,hP,ha,hf,hn,q⟩:=h;refine⟨_,(aH (Z2 rfl (bx (aP (ac7 T) (hr.mono (by decide)) rfl T.Pf T.Gg.kp T.Pe .nil aM (aa (pv 0) (aa (pv 2) aj)))))),?_⟩
  walk_at "rdt";exact⟨C,p,ap,P,fp,q',m,b,dx,rfl,hC,hP,ha,hf,hn,q⟩
theorem adk(T:Tx K mg A):aR P w K mg base a_ 4 A.wX A.wY ["first", "many", "at", "asker", "latest", "behind"] (Y3 K A.bf):=by
 refine T.Fy.ok NS (λvs H Q E h=>?_) (λaK Ar outer s H vs Q E hr h=>?_)
 ·obtain⟨f,m,a,s',l,bv,ns,rfl,_⟩:=h
  rfl
 ·obtain⟨f,m,a,s',l,bv,ns,rfl,hB,hv,hR,q⟩:=h;refine⟨_,(aB (aT (i:=6) NS.nd rfl (Or.inl rfl) (aP (acD T) (hr.mono (by decide)) rfl T.Og T.Fx.kp T.Of .nil aM (aa (pv 5) aj)))
   (aB (cH (aP (adg T) (hr.mono (by decide)) rfl T.Oe T.Fw.kp T.Od .nil aM (aa (pv 0) (aa (pv 1) (aa (pv 2) (aa (pv 3) (aa (pv 4) (aa (pv 6) aj))))))))
   (aH (bx (oO T.Qu (acC T) (hr.mono (by decide)) rfl T.Qv T.Oa .nil aM (aa eN (aa (pv 0) (aa (pv 1) (aa (dP aj) (aa (pv 2) (aa (pv 3) (aa (pv 4) (aa (pv 6) (aa jO aj)))))))))))))),?_⟩
  walk_at "rdt";refine⟨_,ns,rfl,hv,λb H1 s1 hb=>?_⟩;walk_at "rdt";refine⟨_,_,_,_,_,_,ns,rfl,hB,aQ.of hb,hR,?_⟩;walk_at "rdt";intro mk nm x dx nx lO fh;refine⟨x,dx,_,_,_,_,_,_,_,_,_,rfl,aD,rfl,?_⟩;obtain⟨a1,a2,a3⟩:=YS (K:=K) (C:=A.bf) (q:=⟨"read",f,m,[],a,s',l,ns,false⟩) (s1.trans (ah.put nm)) nx lO fh aD (ah.put nm _ _ hb);exact q _ _ _ _ _ a1 a2 a3
theorem adl(T:Tx K mg A):aR P w K mg base a_ 4 A.xh A.xj ["plate", "ring", "beat", "cells"] (YD K [A.bu]):=by
 refine T.FD.ok nN (λvs H Q E h=>?_) (λaK Ar outer s H vs Q E hr h=>?_)
 ·obtain⟨C,p,P,fp,r,b,ca,vn,cz,rfl,_⟩:=h
  rfl
 ·obtain⟨C,p,P,fp,r,b,ca,vn,cz,rfl,hC,hP,ok,r0,r1,hz,hq,hlen,q⟩:=h;have hsl:=ok.sw.len;refine⟨_,(aB (aT (i:=4) nN.nd rfl (Or.inl rfl) (dz aj))
   (aB (cU PassesOwn.never rfl (e9 (pv 3)) (gi rfl (bN (aW (i:=5) nN.nd rfl (Or.inl rfl)) (bN (aW (i:=6) nN.nd rfl (Or.inl rfl)) e7)))
   (aB (aT (i:=7) nN.nd rfl (Or.inl rfl) (aP (adh T) (hr.mono (by decide)) rfl T.Oo T.FA.kp T.Om .nil aM (aa (pv 0) (aa (pv 5) (aa (pv 6) (aa (aL bI (pv 2) (rE (pv 0) T.acA (acO T) (hr.mono (by decide)) T.O_ .nil aM (aa (pv 1) (aa (pv 5) aj)))) aj))))))
   (aB (aT (i:=1) nN.nd rfl (Or.inl rfl) (pv 5))
   (aB (aT (i:=2) nN.nd rfl (Or.inl rfl) (aL bI (pv 7) (rE (pv 0) T.Rc (Rk T) (hr.mono (by decide)) T.Ge .nil aM (aa (pv 5) aj))))
   (aH (cH (iV PySem.F.plainAttrs_list PySem.F.slot_list_append PySem.F.type_list_append jW (pv 4) (aa (dP (aa (pv 1) (aa (pv 6) (aa (pv 7) (aa (pv 2) aj))))) aj))))))))
   (aH (bx (pv 4))))),?_⟩
  walk_at "rdm";intro l hl;have sl:=ah.put (o:=.lst []) hl;refine rl ca (vn.map V.ref) (λi σ H'=>∃x y z ts,σ = [some (.ref p),some (.int (cW P (r,b) (cz.take i)).1),some (.int (cW P (r,b) (cz.take i)).2),some (.ref ca),some (.ref l),x,y,z]/\ah H H'/\(∀t∈ts,H t=none)/\i<=cz.length/\Zt H' l ts (fE P (r,b) (cz.take i))) (λQ q=>⟨_,rfl,q⟩) (sl.seq hz.sq)
   ⟨none,none,none,[],rfl,sl,(λ_ h=>nomatch h),Nat.zero_le _,Zt.start⟩ (by rintro i σ H' _ ⟨x,y,z,ts,rfl,hs,_⟩;exact hs.seq hz.sq) ?_ ?_
  ·rintro i x σ H' N hN hx ⟨x0,y0,z0,i9,rfl,hs,nY,hi,h1⟩;obtain⟨t,w,rfl,hw,ht⟩:=hz.at hx;have AK:=gH hw;obtain⟨w0,w1,w2,w3⟩:=hq w (get_mem hw);have AV:=ok.c w.1.toNat (by lia)
   obtain⟨e0,e1⟩:=C7 P (n:=P.rc.length) (cz.take i) (r,b) r0 r1 λq gZ=>⟨(hq q (List.mem_of_mem_take gZ)).1,(hq q (List.mem_of_mem_take gZ)).2.1⟩;have es:cW P (r,b) (cz.take (i+1))=lN P (cW P (r,b) (cz.take i)) w:=by rw[take_succ_get hw,C4]
   have ws:fE P (r,b) (cz.take (i+1))=fE P (r,b) (cz.take i)++[vj P (cW P (r,b) (cz.take i)) w]:=by rw[take_succ_get hw,C5]
   rw[es,ws] at hN;have wl:(fE P (r,b) (cz.take i)).length=i:=by rw[vm,List.length_take];lia
   generalize cW P (r,b) (cz.take i)=st at e0 e1 hN ⊢;generalize fE P (r,b) (cz.take i)=rows at h1 wl hN ⊢;refine j3 (aQ.of (hs _ _ ht)) rfl ?_;have AW:=hP.same hs;obtain⟨dx,a1,a2,a3,a4,ts,fs,AN,h⟩:=id AW;wp_walk using h.o,h.f1,h.f2,h.f3,h.f4,h.f5,h.f6,h.m1,h.m2,h.m3,h.m4,h.m5,h.m6,h.m7,h.m8,h.m9,h.iZ,h.i6,h.cp.cl,h.cp.n1,h.cp.n2,h.cp.n3,h.cp.n4,h.cp.n5,h.cp.n6;refine⟨hC,C,p,P,fp,st.1,w.1,rfl,AW,by lia,?_⟩
   wp_walk using h.o,h.f1,h.f2,h.f3,h.f4,h.f5,h.f6,h.m1,h.m2,h.m3,h.m4,h.m5,h.m6,h.m7,h.m8,h.m9,h.iZ,h.i6,h.cp.cl,h.cp.n1,h.cp.n2,h.cp.n3,h.cp.n4,h.cp.n5,h.cp.n6;refine⟨C,p,P,fp,w.1,w.2,_,rfl,hC,AW,ok,w0,w1,w2,w3,?_⟩;wp_walk using h.o,h.f1,h.f2,h.f3,h.f4,h.f5,h.f6,h.m1,h.m2,h.m3,h.m4,h.m5,h.m6,h.m7,h.m8,h.m9,h.iZ,h.i6,h.cp.cl,h.cp.n1,h.cp.n2,h.cp.n3,h.cp.n4,h.cp.n5,h.cp.n6;refine⟨hC,C,p,P,fp,w.1,rfl,AW,w0,w1,AV.1,AV.2,?_⟩;walk_at "rdm";refine⟨⟨_,aE.of h1.l⟩,λt1 n1=>?_⟩;have hn:=h1.n;have e2:=ah.put n1 (o:=.tup [V.int w.1,V.int w.2,V.int (lM P st w),V.int (lN P st w).2]) _ _ h1.l;refine⟨_,e2,by simp;lia,hN _ _ ⟨_,_,_,i9++[t1],rfl,ah.put2 (hs.trans (ah.put n1)) hl,?_,AK,h1.snoc n1 (vj P st w)⟩⟩
   intro t' jM;rcases List.mem_append.mp jM with jM | jM
   ·exact nY t' jM
   ·rw[List.mem_singleton.mp jM];exact hs.free n1
  ·rintro σ H' ⟨x0,y0,z0,i9,rfl,hs,nY,hi,h1⟩;walk_at "rdm";rw[lenZ hz.n,List.take_length] at h1;exact q _ _ _ hs hl nY h1
theorem adm(T:Tx K mg A):aR P w K mg base a_ 4 A.yz A.yC ["self", "plate", "number", "ask"] (aaf K [A.bu] A.bf A.bQ):=by
 refine T.Pg.ok ab4 (λvs H Q E h=>?_) (λaK Ar outer s H vs Q E hr h=>?_)
 ·obtain⟨C,p,pl,ap,dx,n,P,fp,q',m,b,bY,rfl,_⟩:=h
  rfl
 ·obtain⟨C,p,pl,ap,dx,n,P,fp,q',m,b,bY,rfl,hp,hC,hP,gf,oq,ha,hf,hn,q⟩:=h;refine⟨_,(aB (cg (pv 0) (pv 2) rfl)
   (aB (cg (pv 0) (pv 3) rfl)
   (aH (cg (pv 0) (aP (RZ T) (hr.mono (by decide)) rfl T.Gi T.zY.kp T.Gh .nil aM (aa (pv 1) (aa (pv 2) (aa (pv 3) aj)))) rfl)))),?_⟩
  wp_walk using T,hp;have R0:ap≠p:=λe=>by
   have:=ha.o;rw[e,hp] at this;simp[fQ] at this
  have nm:m≠p:=λe=>by have:=ha.ms;rw[e,hp] at this;cases this
  have nb:b≠p:=λe=>by have:=ha.bh;rw[e,hp] at this;cases this
  have lg:bV K C (upd H p (HO.ins A.bQ dx [("number",V.int n),("ask",V.ref ap)])) pl P fp:=hP.keep (aC (Ne.symm gf)) λb hb=>aC (λe=>oq (e▸hb));have iP:dH K A.bf (upd H p (HO.ins A.bQ dx [("number",V.int n),("ask",V.ref ap)])) ap q' m b bY:=⟨(aC R0).trans ha.o,(aC nm).trans ha.ms,(aC nb).trans ha.bh⟩;have sb:SameBut p H (upd H p (HO.ins A.bQ dx [("number",V.int n),("ask",V.ref ap)])):=(SameBut.of (ah.refl H)).put;have nK:upd H p (HO.ins A.bQ dx [("number",V.int n),("ask",V.ref ap)]) p=some (HO.ins A.bQ dx [("number",V.int n),("ask",V.ref ap)]):=aD;generalize upd H p (HO.ins A.bQ dx [("number",V.int n),("ask",V.ref ap)])=H1 at lg iP sb nK ⊢;refine⟨C,pl,ap,n,P,fp,q',m,b,bY,rfl,hC,lg,iP,hf,hn,λl ts H2 s2 nl hz=>⟨_,_,_,s2 _ _ nK,T.QA,T.Ad,by simp,?_⟩⟩
  have lq:=iP.same s2;have p9:l≠p:=cj nK nl |>.symm
  have AQ:H l=none:=by
   cases e:H l with
   | none=>rfl
   | some o =>
    have:=sb l o e p9;rw[nl] at this;cases this
  refine q l ts _ AQ (sb.step s2).put ⟨aD,⟨(aC R0).trans lq.o,(aC nm).trans lq.ms,(aC nb).trans lq.bh⟩,hz.keep (aC p9) λt ht=>aC λe=>?_⟩
  obtain⟨i,hi,et⟩:=List.mem_iff_getElem.mp ht;have fO:i<(dY P.nc q'.first q'.many).length:=by rw[← hz.n];exact hi
  have:=hz.t i t _ (by rw[← et];exact List.getElem?_eq_getElem hi) (List.getElem?_eq_getElem fO)
  rw[e,s2 _ _ nK] at this;cases this
theorem adn(T:Tx K mg A):aR P w K mg base a_ 4 A.yJ A.yK ["plate", "asks"] (Z7 K [A.bu] A.bf):=by
 refine T.Gn.ok wF (λvs H Q E h=>?_) (λaK Ar outer s H vs Q E hr h=>?_)
 ·obtain⟨C,p,la,P,fp,ps,qs,rfl,_⟩:=h
  rfl
 ·obtain⟨C,p,la,P,fp,ps,qs,rfl,hC,hP,hn,ha,ok,q⟩:=h;refine⟨_,(aB (aT (i:=2) wF.nd rfl (Or.inl rfl) (dz aj))
   (aB (cU PassesOwn.never rfl (q_ rfl T.mj (aa (pv 1) aj)) (gi rfl (bN (aW (i:=3) wF.nd rfl (Or.inl rfl)) (bN (aW (i:=4) wF.nd rfl (Or.inl rfl)) e7)))
   (aB (cH (aP (acQ T) (hr.mono (by decide)) rfl T.Pn T.Gj.kp T.Pj .nil aM (aa (pv 1) (aa (pv 3) aj))))
   (aB (cH (aP (RZ T) (hr.mono (by decide)) rfl T.Gi T.zY.kp T.Gh .nil aM (aa (pv 0) (aa (pv 3) (aa (pv 4) aj)))))
   (aB (cH (aP (acR T) (hr.mono (by decide)) rfl T.Pp T.Gk.kp T.Po .nil aM (aa (pv 1) (aa (pv 3) aj))))
   (aH (cH (iV PySem.F.plainAttrs_list PySem.F.slot_list_append PySem.F.type_list_append jW (pv 2) (aa (aP (ac8 T) (hr.mono (by decide)) rfl T.Pr T.Gm.kp T.Pq .nil aM (aa (pv 1) (aa (pv 3) aj))) aj))))))))
   (aH (bx (pv 2))))),?_⟩
  walk_at "rdt";intro l hl;have sl:=ah.put (o:=.lst []) hl;have on:=ok.n;have an:=ha.n;refine re la (ps.map V.ref) (λk σ H'=>∃(x1 x2:Option V) (us:List Addr),σ = [some (.ref p),some (.ref la),some (.ref l),x1,x2]/\ah H H'/\(∀t∈us,H t=none)/\Zt H' l us (g9 qs k)) (λQ q=>?_) (aE.of (sl _ _ ha.l)) ⟨none,none,[],rfl,sl,(λ_ h=>nomatch h),Zt.start⟩ (by rintro i σ H' _ ⟨_,_,_,rfl,s1,_⟩;exact aE.of (s1 _ _ ha.l)) ?_ ?_
  ·walk_at "rdm";exact q
  ·rintro k x σ H' T1 N hN hx ⟨x1,x2,us,rfl,s1,hu,hz⟩ hT;have Rq:k<ps.length:=by have:=(List.getElem?_eq_some_iff.mp hx).1;simpa using this
   have hk:k<qs.length:=by lia
   have gP:=List.getElem?_eq_getElem hk;obtain⟨ap,m,b,dx,e1,a1⟩:=ha.at gP;rw[e1] at hx;cases hx;have s2:=s1.trans (ah.put (o:=.tup [.int (k:Int),.ref ap]) hT);refine j3 (aQ.of aD) rfl ?_;walk_at "rdm";have lq:=ha.same s2;have a2:=a1.same s2;have fk:=ok.fit k _ gP;refine⟨la,ps,qs,k,_,rfl,lq,gP,λq0 h0 e0=>?_,?_⟩
   ·have:=ok.up (k - 1) q0 qs[k] e0 (by rw[show k - 1+1=k by lia];exact gP)
    exact this
   refine⟨C,p,ap,_,P,fp,_,m,b,dx,rfl,hC,hP.same s2,a2,fk.1,hn,λ_ _ H3 s3 _ _=>?_⟩;have ig:=s2.trans s3;have AX:=ha.same ig;refine⟨la,ps,qs,k,_,rfl,AX,gP,fk.2,ok.bh k _ gP,⟨⟨_,aE.of (s3 _ _ (ah.put hT _ _ hz.l))⟩,?_⟩⟩;refine⟨la,ps,qs,k,_,rfl,AX,gP,on,fk.2,λt H4 s4 nt ht=>?_⟩;have gh:=((hz.same (ah.put (o:=.tup [.int (k:Int),.ref ap]) hT)).same s3).same s4;have zl:=gh.n;unfold g9 at zl;rw[List.length_map,List.length_range] at zl;have ou:=ig.trans s4;refine⟨_,gh.l,by rw[List.length_map];lia,hN _ _ ⟨_,_,us++[t],rfl,ah.put2 ou hl,?_,?_⟩⟩
   ·intro t' jM;rcases List.mem_append.mp jM with jM | jM
    ·exact hu t' jM
    ·rw[List.mem_singleton.mp jM];exact ig.free nt
   ·unfold g9;rw[List.range_succ,List.map_append];exact gh.Z3 ht
  ·rintro σ H' ⟨x1,x2,us,rfl,s1,hu,hz⟩;walk_at "rdm";rw[List.length_map,an] at hz;exact q _ _ _ s1 hl hu hz
theorem Hv(T:Tx K mg A):aR P w K mg base a_ 5 A.xK A.xM ["count", "at", "asker"] (aa1 K A.bf):=by
 refine T.s_.ok abS (λvs H Q E h=>?_) (λaK Ar outer s H vs Q E hr h=>?_)
 ·obtain⟨c,a,s',rfl,_⟩:=h
  rfl
 ·obtain⟨c,a,s',rfl,c0,c1,ab,q⟩:=h;refine⟨_,(aH (bx (g7 (N:=["each", "at", "asker"]) (nt:=1) (fv:=[1,2]) (cL.of rfl rfl (by rfl) (by rfl) (by repeat (first | exact trivial | refine⟨rfl,?_⟩)) (by rfl) (by rfl) (by rfl) (by decide) (by decide +kernel)) rfl (iT rfl T.eW (aa (pv 0) aj)) (λC s H fp=>(aW (i:=0) (show List.Nodup (["each", "at", "asker"]:List Str) by decide +kernel) rfl (Or.inl rfl))) (λC s H fp=>gG) (λC s H fp=>(aP (adk T) (hr.mono (by decide)) rfl T.Oi T.Fy.kp T.Oh (show Vals [.aJ,.aJ] [.none,.none] from(.cons rfl (.cons rfl .nil))) aM (aa az (aa az (aa (pv 1) (aa (pv 2) aj))))))))),?_⟩
  walk_at "rdt";refine nF c (λD i ys au H2=>∃(u:Option V) (ps:List Addr),ys=ps.map V.ref/\au = [u,some (.int a),some (.int s')]/\i<=1000/\ah H H2/\H D=none/\cM K A.bf H2 D ps (List.replicate i (d9 0 a s'))) (λQ q=>by walk_at "rdm";exact q) (by lia) (by lia) (λD nD=>⟨none,[],rfl,rfl,Nat.zero_le _,ah.put nD,nD,⟨aD,rfl,λi p' q' e=>by simp at e⟩⟩) (by
   rintro D i ys au H2 ⟨u,ps,rfl,rfl,i1,s2,nD,hk⟩;have:=hk.n;rw[List.length_replicate] at this;exact⟨hk.l,by rw[List.length_map,kM];lia⟩) ?_ ?_
  ·rintro D i ys au H2 N hN hi ⟨u,ps,rfl,rfl,i1,s2,nD,hk⟩;walk_at "rdm";refine⟨0,1,a,s',none,.aJ,[],rfl,ab,.inl ⟨rfl,rfl⟩,kO.nil,λp mk b dx H3 s3 np ha=>?_⟩;have R1:=hk.same s3;refine⟨R1.l,hN _ _ _ ⟨_,ps++[p],by rw[List.map_append];rfl,rfl,by lia,ah.put2 (s2.trans s3) nD,nD,?_⟩⟩
   rw[List.replicate_succ'];exact R1.snoc ha
  ·rintro D ys au H2 ⟨u,ps,rfl,rfl,i1,s2,nD,hk⟩;exact q D ps H2 s2 nD hk
theorem ado(T:Tx K mg A):aR P w K mg base a_ 5 A.yT A.yU ["self", "number"] (aa_ K [A.bu] A.bw A.bf A.bQ):=by
 refine T.PU.ok Fo (λvs H Q E h=>?_) (λaK Ar outer s H vs Q E hr h=>?_)
 ·obtain⟨C,x,dx,kp,ks,kk,p,P',fp,r,b,Dx,ls,y,rfl,_⟩:=h
  rfl
 ·obtain⟨C,x,dx,kp,ks,kk,p,P',fp,r,b,Dx,ls,y,rfl,hc,hy,hC,hP,pk,r0,r1,ci,c1,c2,q⟩:=h;have ho:=hc.o;unfold c9 at ho;have n3:=hc.ne;refine⟨_,(aB (aT (i:=2) Fo.nd rfl (Or.inl rfl) (Xl (aU (pv 0) rfl) (pv 1) ⟨rfl,rfl,rfl,rfl⟩))
   (aB (qX (i:=3) Fo.nd rfl (Or.inl rfl) (N:=["ring", "place", "begun", "ended", "number"]) (nt:=4) (fv:=[1]) (cL.of rfl rfl (by rfl) (by rfl) (by repeat (first | exact trivial | refine⟨rfl,?_⟩)) (by rfl) (by rfl) (by rfl) (by decide) (by decide +kernel)) rfl (e9 (aP (adl T) (hr.mono (by decide)) rfl T.Ot T.FD.kp T.Oq .nil aM (aa (aU (pv 0) rfl) (aa (aU (pv 0) rfl) (aa (aU (pv 0) rfl) (aa (aU (pv 2) rfl) aj)))))) (λC s H fp=>(rD (K:=K) (n:=4) rfl rfl (bN (aW (i:=0) (show List.Nodup (["ring", "place", "begun", "ended", "number"]:List Str) by decide +kernel) rfl (Or.inl rfl)) (bN (aW (i:=1) (show List.Nodup (["ring", "place", "begun", "ended", "number"]:List Str) by decide +kernel) rfl (Or.inl rfl)) (bN (aW (i:=2) (show List.Nodup (["ring", "place", "begun", "ended", "number"]:List Str) by decide +kernel) rfl (Or.inl rfl)) (bN (aW (i:=3) (show List.Nodup (["ring", "place", "begun", "ended", "number"]:List Str) by decide +kernel) rfl (Or.inl rfl)) e7)))))) (λC s H fp=>gG) (λC s H fp=>(dP (aa (pv 4) (aa (pv 0) (aa (pv 1) (aa (pv 2) (aa (pv 3) aj))))))))
   (aB (cg (pv 0) (aZ dR (aZ bR (pv 3) (mY mZ az) (λ_ _=>rfl)) az (λ_ _=>rfl)) rfl)
   (aB (cg (pv 0) (aZ dR (aZ bR (pv 3) (mY mZ az) (λ_ _=>rfl)) az (λ_ _=>rfl)) rfl)
   (aH (bx (pv 3))))))),?_⟩
  wp_walk using T,Ll,ho;refine⟨.inl ⟨_,.inl hc.d⟩,_,hc.d,bC y.1.n,rfl,_,aa6 hc.up hy,?_⟩;rw[M7];generalize vW:ls.filter (λz=>decide (z.1.n≠y.1.n))=cD at *
  have sub:cD.Sublist ls:=vW▸List.filter_sublist;have s1:bK x Dx H (upd H Dx (.dK (cC cD))):=(bK.of (λ_ _ e=>e)).pJ;have fX:=hc.step s1 sub (by rw[aC n3];exact hc.o) aD
  have lg:=hc.vY s1 hP;have hy1:=hc.pK s1 (hc.t y hy);generalize upd H Dx (.dK (cC cD))=H1 at *
  obtain⟨dG,ap,l,ts,m,b',bY,hD⟩:=hy1;have ie:=hD.o;unfold j5 at ie;have jq:=fX.o;unfold c9 at jq;refine M5 ?_;wp_walk using T,jq,ie;refine⟨C,p,P',fp,r,b,l,ts,y.1.c,rfl,hC,lg,pk,r0,r1,hD.c,ci,c2,λlw tw H2 s2 nlw _ hw=>?_⟩;have wl:=vm P' y.1.c (r,b);have w4:=C6 P' y.1.c (r,b);obtain⟨zs,wa,wb,we⟩:=aa4 P' (r,b) (xs:=y.1.c) (λz=>by rw[z] at c1;simp at c1)
  generalize fE P' (r,b) y.1.c=wy at *
  have R3:=hw.n;refine lJ lw (tw.map V.ref) (λD i ys au H3=>∃(u1 u2 u3 u4:Option V) (us:List Addr),ys=us.map V.ref/\au = [u1,u2,u3,u4,some (.int y.1.n)]/\i<=wy.length/\Zt H3 D us ((wy.take i).map λrow=>y.1.n::row)/\ah H2 H3/\H2 D=none) (λQ q=>q) (aE.of hw.l) ?_ ?_ ?_ ?_
  ·intro D nD;exact⟨none,none,none,none,[],rfl,rfl,Nat.zero_le _,Zt.start,ah.put nD,nD⟩
  ·rintro D i ys au H3 ⟨u1,u2,u3,u4,us,rfl,rfl,hi,hz,s3,nD⟩;have:=hz.n;rw[List.length_map,List.length_take] at this;exact⟨hz.l,by rw[List.length_map,kM];lia,aE.of (s3 _ _ hw.l)⟩
  ·rintro D i v ys au H3 N hN hv ⟨u1,u2,u3,u4,us,rfl,rfl,hi,hz,s3,nD⟩;obtain⟨t,ht,rfl⟩:=iH hv;have fO:i<wy.length:=by rw[← R3];exact gH ht
   have Hw:=List.getElem?_eq_getElem fO;have hT:=s3 _ _ (hw.t i t _ ht Hw);obtain⟨q1,q2,q3,q4,e4⟩:=aa5 (w4 _ (List.getElem_mem fO));rw[e4] at hT Hw;walk_at "rdt";refine⟨_,aQ.of hT,rfl,_,_,rfl,_,_,rfl,_,_,rfl,_,_,rfl,rfl,λpt np=>?_⟩;have k_:=hz.snoc np (y.1.n::[q1,q2,q3,q4]);refine⟨by rw[aC (cj hz.l np)];exact hz.l,hN _ _ _ ⟨_,_,_,_,us++[pt],by rw[List.map_append];rfl,rfl,by lia,?_,ah.put2 (s3.trans (ah.put np)) nD,nD⟩⟩
   rw[take_succ_get Hw,List.map_append];exact k_
  ·rintro D ys au H3 ⟨u1,u2,u3,u4,us,rfl,rfl,hi,hz,s3,nD⟩;rw[List.length_map,R3,List.take_length,we,List.map_append] at hz;obtain⟨R4,t,rfl,ht⟩:=hz.last;have R5:=s2.trans s3;have iQ:=fX.same R5;have AY:=iQ.o;unfold c9 at AY;have nDx:D≠x:=λz=>by have:=hz.l;rw[z,AY] at this;cases this
   have ntx:t≠x:=λz=>by rw[z,AY] at ht;cases ht
   have hl:ez ((R4++[t]).map V.ref) (-1)=some (.ref t):=by rw[List.map_append];exact Cn _ _
   refine⟨D,rfl,_,aE.of hz.l,_,hl,t,rfl,_,aQ.of ht,_,dQ (j:=1) rfl,_,_,_,AY,T.kY,T.Ae,by simp,D,rfl,_,aE.of (by rw[aC nDx];exact hz.l),_,hl,t,rfl,_,aQ.of (by rw[aC ntx];exact ht),_,dQ (j:=4) rfl,T.kY,T.tG,by simp[fZ,fM,CU],?_⟩
   walk_at "rdm";have bc:bK x Dx H1 (upd H3 x (.ins A.bw dx (c9 kp p (cW P' (r,b) y.1.c).1 (cW P' (r,b) y.1.c).2 Dx))):=(bK.of R5).DF;refine q D (R4++[t]) _ (s1.trans bc) (fX.free s1 (s2.free nD)) (fX.step bc (.refl _) aD (by rw[aC (Ne.symm n3)];exact iQ.d)) ?_
   have:=iQ.zt (H':=upd H3 x (.ins A.bw dx (c9 kp p (cW P' (r,b) y.1.c).1 (cW P' (r,b) y.1.c).2 Dx))) ((bK.of (λ_ _ e=>e)).DF) hz;rw[we,List.map_append];exact this
theorem adp(T:Tx K mg A):aR P w K mg base a_ 5 A.zA A.zB ["_law_script"] (abn K A.bu):=by
 refine T.Gx.ok iN (λvs H Q E h=>?_) (λaK Ar outer s H vs Q E hr h=>?_)
 ·obtain⟨sc,ns,rfl,_⟩:=h
  rfl
 ·obtain⟨sc,ns,rfl,hS,lu,q⟩:=h;have hu:=iE hr;refine⟨_,(aB (aT (i:=1) iN.nd rfl (Or.inl rfl) (aP (adb T) (hr.mono (by decide)) rfl T.Qf T.Gw.kp T.Qe .nil aM (aa (aP (nZ T) (hr.mono (by decide)) rfl T.l_ T.kX.kp T.l9 .nil aM (aa (pv 0) (aa az aj))) aj)))
   (aB (aT (i:=2) iN.nd rfl (Or.inl rfl) (aP (nZ T) (hr.mono (by decide)) rfl T.l_ T.kX.kp T.l9 .nil aM (aa (pv 0) (aa az aj))))
   (aB (aT (i:=3) iN.nd rfl (Or.inl rfl) az)
   (aB (aT (i:=4) iN.nd rfl (Or.inl rfl) (dz aj))
   (aB (cU PassesOwn.never rfl (e9 (pv 1)) (gi rfl (bN (aW (i:=5) iN.nd rfl (Or.inl rfl)) (bN (aW (i:=6) iN.nd rfl (Or.inl rfl)) e7)))
   (aB (aT (i:=3) iN.nd rfl (Or.inl rfl) (aL gm (pv 3) (pv 6)))
   (aH (aT (i:=4) iN.nd rfl (Or.inl rfl) (aL oU (pv 4) (aL uM (dz (aa (pv 6) aj)) (pv 5)))))))
   (aB (aT (i:=7) iN.nd rfl (Or.inl rfl) (aL gm (pv 3) (aL bI az (aP (dJ T) (hr.mono (by decide)) rfl T.dF T.dh.kp T.dD .nil aM (aa (pv 2) (aa az (aa az aj)))))))
   (aB (nH (bM (br lG (aP (dJ T) (hr.mono (by decide)) rfl T.dF T.dh.kp T.dD .nil aM (aa (pv 2) (aa az (aa az aj)))) az (bq _)) (aH (aT (i:=7) iN.nd rfl (Or.inl rfl) (aL gm (pv 3) (aL bI az (aL jT (pv 2) (aL oN (aL Cc az az) (pv 3))))))) bT))
   (aB (aT (i:=8) iN.nd rfl (Or.inl rfl) (aL jT (aP (nZ T) (hr.mono (by decide)) rfl T.l_ T.kX.kp T.l9 .nil aM (aa (pv 0) (aa az aj))) (pv 7)))
   (aB (aT (i:=9) iN.nd rfl (Or.inl rfl) (aP (ada T) (hr.mono (by decide)) rfl T.Qd T.Gv.kp T.Qc .nil aM (aa (aP (nZ T) (hr.mono (by decide)) rfl T.l_ T.kX.kp T.l9 .nil aM (aa (pv 0) (aa az aj))) (aa (bX eB rfl T.dU boot_len (aa (pv 4) aj)) aj))))
   (aH (bx (dP (aa (oO T.Qy (adi T) (hr.mono (by decide)) rfl T.Qz T.OZ .nil aM (aa (pv 1) (aa (pv 7) (aa (pv 8) (aa (pv 9) aj))))) (aa (dP (aa (pv 4) (aa (pv 7) (aa (pv 8) (aa (pv 9) aj))))) aj)))))))))))))),?_⟩
  wp_walk using bW,eT;refine⟨ns,hS,lu,_,rfl,λl ts z H1 s1 nl hz zl=>⟨ns,s1.seq hS,lu,λc0 Hx=>?_⟩⟩;generalize kQ ns 1=c;have bd:∀i,1<=cV (z.take i)/\cV (z.take i)<=777600000:=λi=>by
   have h1:=vf (m:=60) (by decide) (z.take i) λp hp=>(zl.ok.r p (List.mem_of_mem_take hp)).2.2
   have h2:=LU (m:=60) (by decide) (show (z.take i).length<=5 by have:=zl.ok.l5;rw[List.length_take];lia)
   have e:(60:Int) ^ 5=777600000:=by decide
   lia
  refine rl l (ts.map V.ref) (λi σ H2=>∃(r d:Option V) (ca:Addr),σ = [some (.ref sc),some (.ref l),some (.int c),some (.int (cV (z.take i))),some (.ref ca),r,d,none,none,none]/\ah H1 H2/\H1 ca=none/\H2 ca=some (.lst ((counts (z.take i)).map V.int))) (λQ q=>⟨_,rfl,q⟩) (hz.same (ah.put Hx)).sq ⟨none,none,c0,rfl,ah.put Hx,Hx,aD⟩ (by rintro i σ H2 _ ⟨r,d,ca,rfl,s2,_⟩;exact(hz.same s2).sq) ?_ ?_
  ·rintro i x σ H2 N hN jL ⟨r,d,ca,rfl,s2,nca,tR⟩;obtain⟨t,p,rfl,hp,ht⟩:=(hz.same s2).at jL;refine j3 (aQ.of ht) rfl ?_;walk_at "rdm";have b:=bd i;have pr:=zl.ok.r p (get_mem hp);have cl:=LM zl.ok i;refine⟨.inl ⟨by lia,by lia⟩,λp1 n1=>⟨by lia,by lia,by lia,λp2 n2=>?_⟩⟩
   rw[MG];have sa1:=ah.put (o:=.lst [V.int p.2]) n1;have Hy:=sa1.trans (ah.put (o:=.lst ((List.replicate p.1.toNat p.2).map V.int)) n2);refine⟨_,Hy _ _ tR,by rw[List.length_map,List.length_map,List.length_replicate];lia,λp3 n3=>hN _ _ ⟨some (.int p.1),some (.int p.2),p3,?_,(s2.trans Hy).trans (ah.put n3),(s2.trans Hy).free n3,?_⟩⟩
   ·rw[take_succ_get hp,Yz]
   ·rw[aD,aab hp,List.map_append]
  ·rintro σ H2 ⟨r,d,ca,rfl,s2,nca,tR⟩;rw[lenZ hz.n,List.take_length] at tR ⊢;have hb:=bd z.length;rw[List.take_length] at hb;wp_walk using bW,eT;have y7:=d8 c 16 (m:=9) (by decide)
   have hq:1<=1000000000 / cV z:=(Int.le_ediv_iff_mul_le (by lia)).mpr (by lia)
   have R6:=Int.emod_nonneg c (show 1000000000 / cV z≠0 by lia)
   have R7:=Int.emod_lt_of_pos c (show 0<1000000000 / cV z by lia)
   have w1:=MF zl y7.1 (.inl (by lia))
   have w2:=MF zl R6 (.inr R7);refine⟨.inl ⟨by lia,by lia⟩,λσ H3=>∃aq,σ = [some (.ref sc),some (.ref l),some (.int c),some (.int (cV z)),some (.ref ca),r,d,some (.int aq),none,none]/\H3=H2/\1<=aq/\aq<=1000000000/\∀p∈z,aq % p.2=0,
    cO (λ_=>?_) (λ_=>⟨_,rfl,rfl,w1.1,w1.2.1,w1.2.2⟩),?_⟩
   ·exact⟨by decide,by lia,by lia,by lia,.inl ⟨by lia,by lia⟩,_,rfl,rfl,w2.1,w2.2.1,w2.2.2⟩
   ·rintro σ H3 ⟨aq,rfl,rfl,l1,l2,l3⟩;have cl:=o7 z λp hp=>(zl.ok.r p hp).1;have L4:=zl.sm;have c2:=zl.ok.s2;have cm:∀c∈counts z,1<=c/\c<=60:=λc hc=>by
     obtain⟨y,hy,rfl⟩:=rB hc;have:=zl.ok.r y hy;lia
    wp_walk using bW,eT;have p_:=s1.trans s2;have AZ:=p_.seq hS;refine⟨ns,AZ,lu,by lia,ns,AZ,lu,_,.inl (aE.of tR),_,_,rfl,by rw[List.length_map];lia,by rw[List.length_map];lia,λsa sw H4 s4 Hq CM so=>?_⟩
    rw[List.length_map,cl] at so;have k0:=Int.emod_nonneg (kQ ns 2) (show aq≠0 by lia)
    have k1:=Int.emod_lt_of_pos (kQ ns 2) (show 0<aq by lia)
    have ahb:=s4 _ _ tR;have ok:lT z aq (kQ ns 2 % aq) sw:=⟨zl,l1,l2,l3,k0,k1,so⟩;generalize kQ ns 2 % aq=sk at *
    intro x dx nx lO nxd;have ou:=(s1.trans s2).trans s4;have tU:=(hz.same s2).same s4;have rM:=ah.put (o:=.own x) lO;have gf:upd H4 dx (.own x) x=none:=by rw[aC (Ne.symm nxd)];exact nx
    have Hz:=rM.trans (ah.put (o:=.ins A.bu dx []) gf);refine⟨A.bu,x,dx,l,sa,ts,z,aq,sk,sw,rfl,T.acy,aD,tU.same Hz,zl.ok,ok.l1,ok.l2,ok.k0,ok.k1,ok.l3,aE.of (Hz _ _ CM),ok.so,λH6 dx1 b1 b2 b3 b4 R8 sb nf hp6 hA=>⟨rfl,λwt nwt t nt=>?_⟩⟩;have qa:ah H4 H6:=λb o e=>sb _ _ (Hz _ _ e) (cj e nx);have s6:=(ah.put (o:=.tup [V.ref ca,V.int aq,V.int sk,V.ref sa]) nwt).trans (ah.put (o:=.tup [V.ref x,V.ref wt]) nt);exact q t x wt z aq sk sw (b1::b2::b3::b4::R8) _ ((ou.trans qa).trans s6) aD (bV.same ⟨dx1,b1,b2,b3,b4,R8,_,rfl,hA⟩ s6) ok
theorem R9(T:Tx K mg A):aR P w K mg base (fj P w base) 6 A.xT A.xU ["plate", "shares", "asker", "ahead"] (abz K [A.bu] A.bf A.aV):=by
 refine T.zX.nG pS (λvs H Q E h=>?_) (λaK Ar outer s H vs Q E hr h=>?_)
 ·obtain⟨C,p,l,ts,z,a,h,P',fp,rfl,_⟩:=h
  rfl
 ·obtain⟨C,p,l,ts,z,a,h,P',fp,rfl,hC,hP,l1,l2,hz,zn,h0,h3,q1,q2⟩:=h;refine⟨_,(aB (aT (i:=4) pS.nd rfl (Or.inl rfl) (aP (Rz T) (hr.mono (by decide)) rfl T.FL T.zT.kp T.FJ .nil rL (aa (pv 1) (aa (pv 2) aj))))
   (aB (aT (i:=5) pS.nd rfl (Or.inl rfl) (aL gm (pv 4) (LW (pv 0) T.Rf (Rl T) (hr.mono (by decide)) T.Gf .nil aM)))
   (aB (aT (i:=6) pS.nd rfl (Or.inl rfl) (aL oU (aP (Hv T) (hr.mono (by decide)) rfl T.zS T.s_.kp T.zR .nil aM (aa (pv 4) (aa az (aa (pv 2) aj)))) (aP (Hv T) (hr.mono (by decide)) rfl T.zS T.s_.kp T.zR .nil aM (aa (aL bI (pv 3) az) (aa (pv 5) (aa (pv 2) aj))))))
   (aB (cU PassesOwn.leaving rfl (e9 (pv 1)) (gi rfl (bN (aW (i:=7) pS.nd rfl (Or.inl rfl)) (bN (aW (i:=8) pS.nd rfl (Or.inl rfl)) e7)))
   (aH (bM (br iU (pv 7) (pv 2) (bq _)) (aH (cH (iV PySem.F.plainAttrs_list PySem.F.slot_list_extend PySem.F.type_list_extend Cs (pv 6) (aa (aP (Hv T) (hr.mono (by decide)) rfl T.zS T.s_.kp T.zR .nil aM (aa (aL gm (aP (Ri T) (hr.mono (by decide)) rfl T.FO T.zU.kp T.FN .nil aM (aa (pv 4) (aa (pv 3) aj))) (pv 8)) (aa (pv 5) (aa (pv 7) aj)))) aj)))) bT)))
   (aH (bx (dP (aa (pv 6) (aa (aL bI (pv 4) (pv 3)) aj))))))))),?_⟩
  walk_at "rdt";refine⟨l,ts,z,a,rfl,hz,zn,λhs s H1 s1 hm=>?_,λn H1 s1=>q2 n _ s1⟩;have fW:=hz.same s1;have sb:=hs.1.a _ hm;have zl:=hs.1.n4;have d:=wc (s:=s) (by lia) h0 h3
  have lg:=hP.same s1;have c0:=Int.mul_nonneg (show 0<=s by lia) (show 0<=P'.aq by lia)
  have c1:=Int.mul_le_mul (show s<=4 by lia) l2 (show 0<=P'.aq by lia) (by lia)
  have ab:∀c o:Int,0<=c->c<=4*1000000000->0<=o->o<=20->vp 0 1 c o none:=λc o x1 x2 x3 x4=>⟨by lia,by lia,by lia,by lia,by lia,by lia,by lia,by lia,λx z=>nomatch z⟩
  obtain⟨RA,a1,a2,a3,a4,fq,fsp,AN,hA⟩:=id lg;refine⟨C,_,_,hA.o,hC,hA.m5,C,p,P',fp,rfl,lg,s,rfl,_,rfl,.inl ⟨by lia,by lia⟩,?_⟩
  refine⟨s,0,a,rfl,by lia,by lia,ab _ _ (by lia) (by lia) (by lia) (by lia),λk1 MI H2 t2 nk1 iP=>?_⟩
  refine⟨h+1,s*P'.aq,a,rfl,by lia,by lia,ab _ _ c0 c1 (by lia) (by lia),λk2 iJ H3 t3 nk2 lq=>?_⟩
  have R_:=iP.same t3;have n1:=iP.n;have n2:=lq.n;rw[List.length_replicate] at n1 n2;refine⟨k1,rfl,k2,rfl,_,R_.l,_,lq.l,by rw[List.length_map,List.length_map];lia,λL nL=>?_⟩
  have hL:=R_.cat lq nL;have ig:=(s1.trans (t2.trans t3));have HA:=hz.same ig;refine rl l (ts.map V.ref) (λi σ H'=>∃(u v:Option V) (ps:List Addr),σ = [some (.ref p),some (.ref l),some (.int a),some (.int h),some (.int s),some (.int (s*P'.aq)),some (.ref L),u,v]/\ah H3 H'/\cM K A.bf H' L ps (List.replicate s.toNat (d9 0 0 a)++List.replicate (h+1).toNat (d9 0 (s*P'.aq) a)++eo P'.aq s h (z.take i) a)) (λQ q=>⟨_,rfl,q⟩) ((ah.put nL).seq HA.sq) ⟨none,none,_,rfl,ah.put nL,by rw[show eo P'.aq s h (z.take 0) a = [] from rfl,List.append_nil];exact hL⟩ (by rintro i σ H' _ ⟨_,_,_,rfl,s',_⟩;exact s'.seq HA.sq) ?_ ?_
  ·rintro i x σ H' N hN hx ⟨u,v,ps,rfl,s',ha⟩;obtain⟨t,y,rfl,hy,ht⟩:=(HA.same s').at hx;have yb:=hs.1.a y (get_mem hy);have t4:=Nn d.1 d.2 yb.2.2.1 yb.2.2.2;have tk:=take_succ_get hy;have ol:=DL (aq:=P'.aq) (a:=a) (s:=s) (by lia) h0 h3 (z.take i) λp hp=>(hs.1.a p (List.mem_of_mem_take hp)).2.2
   rw[List.length_take] at ol;have an:=ha.n;simp only[List.length_append,List.length_replicate] at an;walk_at "rdm";refine⟨_,aQ.of ht,rfl,_,_,rfl,_,_,rfl,rfl,rfl,cO (λc2=>?_) λc2=>?_⟩
   ·have e:¬ y.1=a:=λz=>c2 (congrArg V.int z);refine⟨⟨_,aE.of ha.l⟩,s,h,rfl,by lia,by lia,h0,by lia,?_⟩
    refine⟨_,rfl,_,rfl,.inl ⟨by lia,by lia⟩,_,_,_,rfl,t4.1,by lia,ab _ _ c0 c1 yb.1 yb.2.1,λk4 ps4 H4 t5 nk4 qb=>?_⟩
    have mC:=ha.same t5;have n4:=qb.n;rw[List.length_replicate] at n4;refine⟨k4,rfl,_,mC.l,_,qb.l,by rw[List.length_map,List.length_map];lia,hN _ _ ⟨_,_,ps++ps4,rfl,ah.put2 (s'.trans t5) nL,?_⟩⟩
    rw[tk,Nm,if_neg e,← List.append_assoc];exact mC.ext qb
   ·have e:y.1=a:=by simpa using c2
    refine hN _ _ ⟨_,_,ps,rfl,s',?_⟩;rw[tk,Nm,if_pos e,List.append_nil];exact ha
  ·rintro σ H' ⟨u,v,ps,rfl,s',ha⟩;rw[List.length_map,hz.n,List.take_length] at ha;walk_at "rdm";intro t nt;have st:=ah.put (o:=.tup [.ref L,.int (s+h)]) nt;exact q1 hs t L ps s _ (ig.trans (s'.trans st)) hm aD (ha.same st)
theorem adq(T:Tx K mg A):aR P w K mg base a_ 6 A.yL A.yM ["self", "plate", "asks", "ring"] (abe K [A.bu] A.bw A.bf A.bQ):=by
 refine T.Px.ok Fj (λvs H Q E h=>?_) (λaK Ar outer s H vs Q E hr h=>?_)
 ·obtain⟨C,x,dx,p,la,P',fp,ps,qs,r,rfl,_⟩:=h
  rfl
 ·obtain⟨C,x,dx,p,la,P',fp,ps,qs,r,rfl,hx,hC,hP,pn,ha,ok,nr,q⟩:=h;have hu:=iE hr;refine⟨_,(aB (cg (pv 0) (aP (adn T) (hr.mono (by decide)) rfl T.Pw T.Gn.kp T.Pu .nil aM (aa (pv 1) (aa (pv 2) aj))) rfl)
   (aB (cg (pv 0) (pv 1) rfl)
   (aB (cg (pv 0) (pv 3) rfl)
   (aB (cg (pv 0) az rfl)
   (aB (cg (pv 0) qT rfl)
   (aH (cU PassesOwn.never rfl (q_ rfl T.mj (aa (pv 2) aj)) (gi rfl (bN (aW (i:=4) Fj.nd rfl (Or.inl rfl)) (bN (aW (i:=5) Fj.nd rfl (Or.inl rfl)) e7)))
   (aH (bM (br iU (aU (pv 5) rfl) eN (bq _)) (aH (qR hu (aU (pv 0) rfl) (pv 4) (oO T.QB (adm T) (hr.mono (by decide)) rfl T.QC T.Ph .nil aM (aa (pv 1) (aa (pv 4) (aa (pv 5) aj)))) rfl)) bT))))))))),?_⟩
  walk_at "rdt";refine⟨C,p,la,P',fp,ps,qs,rfl,hC,hP,pn,ha,ok,λkp ks H1 s1 nk nks hz=>?_⟩;have fU:=s1 _ _ hx;wp_walk using T,fU;intro Dx A0;have xD:x≠Dx:=λz=>by rw[← z,aD] at A0;cases A0
  have nD:H1 Dx=none:=by rw[aC (Ne.symm xD)] at A0;exact A0
  refine⟨_,_,_,by rw[aC xD,aD],T.kY,T.Af,by simp,?_⟩
  walk_at "rdm";have sb:SameBut x H1 (upd (upd (upd H1 x (.ins A.bw dx [("keeping",V.ref kp),("plate",V.ref p),("ring",V.int r),("beat",V.int 0)])) Dx (.dK [])) x (.ins A.bw dx (c9 kp p r 0 Dx))):=λc o e n=>by
   rw[aC n,aC (λz=>by rw[z,nD] at e;cases e),aC n];exact e
  have hc:bD K A.bw A.bf A.bQ (upd (upd (upd H1 x (.ins A.bw dx [("keeping",V.ref kp),("plate",V.ref p),("ring",V.int r),("beat",V.int 0)])) Dx (.dK [])) x (.ins A.bw dx (c9 kp p r 0 Dx))) x dx kp ks (g9 qs qs.length) p r 0 Dx [] :=
   ⟨aD,aba fU sb hz,by rw[aC (Ne.symm xD),aD];rfl,(λ_ h=>nomatch h),List.Pairwise.nil,Nat.zero_le _,λ_ h=>nomatch h⟩
  show gW _ _ _ _ _ (upd (upd (upd H1 x (.ins A.bw dx [("keeping",V.ref kp),("plate",V.ref p),("ring",V.int r),("beat",V.int 0)])) Dx (.dK [])) x (.ins A.bw dx (c9 kp p r 0 Dx)));generalize upd (upd (upd H1 x (.ins A.bw dx [("keeping",V.ref kp),("plate",V.ref p),("ring",V.int r),("beat",V.int 0)])) Dx (.dK [])) x (.ins A.bw dx (c9 kp p r 0 Dx))=H2 at *
  have iP:=ha.same s1;have lg:=hP.same s1;have an:=ha.n;have on:=ok.n;have ol:(g9 qs qs.length).length=qs.length:=by unfold g9;rw[List.length_map,List.length_range]
  refine re la (ps.map V.ref) (λk σ H'=>∃(x1 x2:Option V) (ls:List (Dr×Addr)),σ = [some (.ref x),some (.ref p),some (.ref la),some (.int r),x1,x2]/\SameBut x H1 H'/\bD K A.bw A.bf A.bQ H' x dx kp ks (g9 qs qs.length) p r 0 Dx ls/\ls.map (·.1)=cI P'.nc 0 (qs.take k)) (λQ q=>?_) (aE.of (pM fU sb iP.l)) ⟨none,none,[],rfl,sb,hc,rfl⟩ (by rintro i σ H' _ ⟨_,_,_,rfl,s1,_⟩;exact aE.of (pM fU s1 iP.l)) ?_ ?_
  ·walk_at "rdm";exact q
  ·rintro k v σ H' T1 N hN hv ⟨x1,x2,ls,rfl,s2,HB,el⟩ hT;have Rq:k<ps.length:=by have:=(List.getElem?_eq_some_iff.mp hv).1;simpa using this
   have hk:k<qs.length:=by lia
   have gP:=List.getElem?_eq_getElem hk;obtain⟨ap,m,b,da,e1,a1⟩:=iP.at gP;rw[e1] at hv;cases hv;have s3:=ah.put (o:=.tup [.int (k:Int),.ref ap]) hT;refine j3 (aQ.of aD) rfl ?_;have iQ:=HB.same s3;have ig:=s2.step s3;generalize upd H' T1 (.tup [.int (k:Int),.ref ap])=H3 at *
   have a3:=abb fU ig a1;have tV:=abd fU ig lg;have nk:=nr _ (List.getElem_mem hk);have Sa:=a3.o;unfold fQ at Sa;wp_walk using T,Sa;rw[if_pos nk];intro y dy ny ndy nn;have s4:ah H3 (upd (upd H3 dy (.own y)) y (.ins A.bQ dy [])):=(ah.put ndy).trans (ah.put (by rw[aC (Ne.symm nn)];exact ny))
   have hy4:upd (upd H3 dy (.own y)) y (.ins A.bQ dy []) y=some (.ins A.bQ dy []):=aD;generalize upd (upd H3 dy (.own y)) y (.ins A.bQ dy [])=H4 at *
   have ny1:y≠p:=λz=>by obtain⟨o,e⟩:=tV.here;rw[← z,ny] at e;cases e
   have ny2:y∉fp:=λz=>by obtain⟨o,e⟩:=tV.has z;rw[ny] at e;cases e
   refine⟨C,y,p,ap,dy,_,P',fp,_,m,b,da,rfl,hy4,hC,tV.same s4,ny1,ny2,a3.same s4,(ok.fit k _ gP).1,pn,λl ts H5 nl s5 hD=>?_⟩;have lz:ah H3 H5:=λc o e=>s5 _ _ (s4 _ _ e) (λz=>by rw[z,ny] at e;cases e)
   have HC:=iQ.same lz;have Sd:=HC.o;unfold c9 at Sd;wp_walk using T,Sd;have ll:ls.length=k:=by
    have:=congrArg List.length el;rw[List.length_map,DG,List.length_take] at this;lia
   refine⟨_,jA.k (k:=bC (k:Int)) HC.d (by rw[rR,kM];lia),hN _ _ ⟨_,_,ls++[(⟨(k:Int),qs[k],dY P'.nc qs[k].first qs[k].many⟩,y)],rfl,?_,HC.add (y:=(⟨(k:Int),qs[k],dY P'.nc qs[k].first qs[k].many⟩,y)) ⟨_,_,_,_,_,_,_,hD⟩ (by show (0:Int)<=(k:Int);lia) (by rw[ol];show (k:Int)<_;lia) (λz hz=>?_) (by lia),?_⟩⟩
   ·exact λc o e n=>by rw[aC (λz=>by rw[z,nD] at e;cases e)];exact lz _ _ (ig _ _ e n)
   ·have hm:z.1∈cI P'.nc 0 (qs.take k):=el▸List.mem_map_of_mem hz;have:=(pL _ _ _ _ hm).2;rw[List.length_take] at this
    show z.1.n<(k:Int);lia
   ·rw[List.map_append,el,take_succ_get gP,M9,List.length_take,Nat.min_eq_left (by lia),Nat.zero_add]
    rfl
  ·rintro σ H' ⟨x1,x2,ls,rfl,s2,HB,el⟩;rw[List.length_map,an,List.take_length] at el;have p_:SameBut x H H':=λc o e n=>s2 _ _ (s1 _ _ e) n;exact q kp ks Dx ls H' p_ (s1.free nD) HB el
theorem Se(T:Tx K mg A):aR P w K mg base a_ 7 A.zI A.zJ ["_law_plate", "_law_shares", "_law_asker", "_law_ahead"] (abI K A.bu):=by
 refine T.zZ.ok wI (λvs H Q E h=>?_) (λaK Ar outer s H vs Q E hr h=>?_)
 ·obtain⟨p,l,ts,z,a,h,P',fp,rfl,_⟩:=h
  rfl
 ·obtain⟨p,l,ts,z,a,h,P',fp,rfl,hP,l1,l2,hz,zn,h0,h3,nh,q⟩:=h;have p6:=hr.Cg;refine⟨_,(aB (aT (i:=4) wI.nd rfl (Or.inl rfl) (dz aj))
   (aB (cU PassesOwn.never rfl (iT rfl T.eW (aa az aj)) (aW (i:=5) wI.nd rfl (Or.inl rfl))
   (aH (ZK rfl rfl (λE=>(abv (br lG (pv 5) az (bq _)) (Ml (Mj (RV T) (hr.mono (by decide)) rfl T.FQ T.zW.kp T.FP .nil (aa (pv 1) (aa (pv 2) (aa (pv 3) aj))))) (Ml (Mj (R9 T) (hr.mono (by decide)) rfl T.FU T.zX.kp T.FT .nil (aa (pv 0) (aa (pv 1) (aa (pv 2) (aa (pv 3) aj))))))))
   (ZA (i:=6) rfl T.QZ T.Q0 wI.nd rfl rfl rfl (λa=>(aH (cH (iV PySem.F.plainAttrs_list PySem.F.slot_list_append PySem.F.type_list_append jW (pv 4) (aa (aaB (acZ T) (hr.mono (by decide)) rfl T.Ql T.Gz.kp T.Qk (aa (pv 6) aj)) aj))))) Zx))))
   (aH (bx (Cd (aas p6) (pv 4) (dz (aa jO (aa jO aj))) (bq _)))))),?_⟩
  wp_walk using T,bW;intro L nL;refine CY 2 (λi σ H'=>∃(v5 v6:Option V),σ = [some (V.ref p),some (V.ref l),some (V.int a),some (V.int h),some (V.ref L),v5,v6]/\ah H H'/\H' L=some (.lst ((List.replicate i true).map V.bl))) (λQ q=>q) (by decide) ⟨none,none,rfl,ah.put nL,aD⟩ ?_ ?_
  ·rintro i σ H' N hN hi ⟨v5,v6,rfl,s',hL⟩;walk_at "rdt";refine cO (λ_=>⟨l,ts,z,a,h,rfl,hz.same s',zn,h0,h3,λc=>absurd c nh,λ_ H1 s1=>?_⟩) λ_=>⟨A.bu,p,l,ts,z,a,h,P',fp,rfl,by simp,hP.same s',l1,l2,hz.same s',zn,h0,h3,λc=>absurd c nh,λ_ H1 s1=>?_⟩
   all_goals
    refine⟨A.aV,rfl,T.Q8,λa' ha=>.inl ⟨T.Q9,?_⟩⟩;walk_at "rdt";have sa:=s1.trans (ah.put (o:=pq a' A.aV) ha);refine⟨⟨_,aE.of (sa _ _ hL)⟩,a',rfl,aD,λH2 s2=>⟨_,(sa.trans s2) _ _ hL,fK (by simp;lia),hN _ _ ⟨_,_,rfl,ah.put2 ((s'.trans sa).trans s2) nL,?_⟩⟩⟩
    rw[aD,List.replicate_succ',List.map_append];rfl
  ·rintro σ H' ⟨v5,v6,rfl,s',hL⟩;walk_at "rdt";intro _L' nL2;have s2:=ah.put (o:=.lst [V.bl true,V.bl true]) nL2;exact⟨_,aE.of (s2 _ _ hL),aE.of aD,λv hv=>(by
    simp only[List.replicate,List.map_cons,List.map_nil,List.mem_cons,List.not_mem_nil,or_false,or_self] at hv;subst hv;exact⟨(λ_ z=>nomatch z),(λ_ z=>nomatch z)⟩),q _ (s'.trans s2)⟩
theorem ads(T:Tx K mg A):aR P w K mg base a_ 8 A.zg A.zh ["plate", "asks", "rule", "ring", "shelf"] (abA K [A.bu] A.bf A.bS A.cY):=by
 refine T.Gu.ok kW (λvs H Q E h=>?_) (λaK Ar outer s H vs Q E hr h=>?_)
 ·obtain⟨C,p,la,ru,dx,pl,bA,sh,t,u,P',fp,ps,qs,J,rfl,_⟩:=h
  rfl
 ·obtain⟨C,p,la,ru,dx,pl,bA,sh,t,u,P',fp,ps,qs,J,rfl,hC,hP,pk,pn,ha,ok,rd,Sf,HD,ask,j0,al,q⟩:=h;have hu:=iE hr;refine⟨_,(aB (aT (i:=5) kW.nd rfl (Or.inl rfl) (oO T.QD (adq T) (hr.mono (by decide)) rfl T.QE T.Py .nil aM (aa (pv 0) (aa (pv 1) (aa (pv 3) aj)))))
   (aB (nH (cH (uG (pv 2) T.ki T.FI (Rh T) (hr.mono (by decide)) T.FH .nil aM)))
   (aB (aT (i:=6) kW.nd rfl (Or.inl rfl) (dz aj))
   (aB (aT (i:=7) kW.nd rfl (Or.inl rfl) (dz aj))
   (aB (aT (i:=8) kW.nd rfl (Or.inl rfl) (aL uM (dz (aa lA aj)) (bX eB rfl T.dU boot_len (aa (pv 1) aj))))
   (aB (Kl PassesOwn.never (Ky (aU (pv 5) rfl) (λ_=>rfl))
   (aB (aT (i:=9) kW.nd rfl (Or.inl rfl) (uG (pv 5) T.kY T.PR (ac9 T) (hr.mono (by decide)) T.PN .nil aM))
   (aB (nH (aT (i:=10) kW.nd rfl (Or.inl rfl) (qI (pv 2) T.ki T.OC (ac4 T) (hr.mono (by decide)) T.OB .nil vA (aa (pv 0) (aa (aU (pv 5) rfl) (aa (aU (pv 5) rfl) (aa (pv 9) aj)))))))
   (aB (cH (iV PySem.F.plainAttrs_list PySem.F.slot_list_append PySem.F.type_list_append jW (pv 7) (aa (pv 10) aj)))
   (aB (B3 (aU (pv 5) rfl) (Kh (pv 8) (pv 10) set_list))
   (aH (cH (iV PySem.F.plainAttrs_list PySem.F.slot_list_extend PySem.F.type_list_extend Cs (pv 6) (aa (qI (pv 5) T.kY T.PX (ado T) (hr.mono (by decide)) T.PV .nil aM (aa (pv 10) aj)) aj)))))))))
   (aB (aT (i:=11) kW.nd rfl (Or.inl rfl) (aP (acW T) (hr.mono (by decide)) rfl T.P1 T.Gp.kp T.P0 .nil aM (aa (pv 6) aj)))
   (aB (aT (i:=12) kW.nd rfl (Or.inl rfl) (J_ (Ky (pv 6) (λ_=>rfl)) (aZ dR (aZ bR (pv 6) (mY mZ az) (λ_ _=>rfl)) az (λ_ _=>rfl)) az))
   (aH (bx (oO T.QG (acV T) (hr.mono (by decide)) rfl T.QH T.PZ .nil aM (aa (pv 6) (aa (pv 8) (aa (aP (acY T) (hr.mono (by decide)) rfl T.P9 T.Gs.kp T.P8 .nil aM (aa (pv 1) (aa (pv 11) (aa (pv 4) aj)))) (aa (aP (ac_ T) (hr.mono (by decide)) rfl T.P7 T.Gr.kp T.P6 .nil aM (aa (pv 1) (aa (pv 7) aj))) (aa (pv 12) aj)))))))))))))))),?_⟩
  walk_at "rdt";intro x dc nx ndc nn;have s1:ah H (upd (upd H dc (.own x)) x (.ins A.bw dc [])):=(ah.put ndc).trans (ah.put (by rw[aC (Ne.symm nn)];exact nx))
  have fU:upd (upd H dc (.own x)) x (.ins A.bw dc []) x=some (.ins A.bw dc []):=aD;generalize upd (upd H dc (.own x)) x (.ins A.bw dc [])=H1 at *
  refine⟨C,x,dc,p,la,P',fp,ps,qs,0,rfl,fU,hC,hP.same s1,pn,ha.same s1,ok,(λq hq=>by rw[(rd q hq).k];exact Dj (by decide)),λkp ks Dx ls H2 sb nD hc el=>⟨rfl,?_⟩⟩
  have s2:ah H H2:=λc o e=>sb _ _ (s1 _ _ e) (λz=>by rw[z,nx] at e;cases e)
  have nDH:=s1.free nD;have nrx:ru≠x:=λz=>by have e:=Sf.o;rw[z,nx] at e;cases e
  have tW:=Sf.same s2;refine⟨λσ H3=>σ = [some (V.ref p),some (V.ref la),some (V.ref ru),some (V.int 0),some (V.int 0),some (V.ref x),none,none,none,none,none,none,none]/\d_ ru H H3/\bZ H H3/\c8 A.bS H3 ru sh 0 0 dx pl bA/\bD K A.bw A.bf A.bQ H3 x dc kp ks (g9 qs qs.length) p 0 0 Dx ls,?_,?_⟩
  ·refine⟨dx,_,tW.o,by simp[fV,List.lookup_cons,fM],ru,dx,pl,_,rfl,tW.o,.inr ⟨_,_,rfl⟩,λH3 kq h3=>⟨rfl,λc u e n z=>kq _ _ (s2 _ _ e) n,(bZ.of s2).trans (tW.Dv kq),tW.set kq h3,hc.kt (tW.Dv kq)⟩⟩
  ·rintro σ H3 ⟨rfl,tX,qc,tY,iQ⟩;walk_at "rdt";intro R nR Pk nP T0 nT0;have an:=ha.n;have on:=ok.n;have fR:=j8.of tX qc nR;have sR:=ah.put (o:=.lst []) nR;have fP:=j8.of tX qc (sR.free nP);have sP:=ah.put (o:=.lst []) nP;have A1:=ah.put (o:=.lst [V.aJ]) nT0;have qd:=(sR.trans sP).trans A1;have HE:=(sP.trans A1) _ _ (aD (H:=H3) (a:=R) (o:=.lst []));have ow:=A1 _ _ (aD (H:=upd H3 R (.lst [])) (a:=Pk) (o:=.lst []));have nRP:R≠Pk:=cj (aD (H:=H3) (a:=R) (o:=.lst [])) nP;generalize upd (upd (upd H3 R (.lst [])) Pk (.lst [])) T0 (.lst [V.aJ])=H4 at *
   refine⟨_,.inl (aE.of (qd _ _ (qc.lst ha.l))),by lia,by rw[List.length_map];lia,by rw[List.length_map];lia,λTk nT=>?_⟩
   have et:(List.replicate (((ps.map V.ref).length:Int)).toNat [V.aJ]).flatten=cJ qs.length []:=by unfold cJ;simp[an]
   rw[et];have fT:=j8.of tX qc (qd.free nT);have sT:=ah.put (o:=.lst (cJ qs.length [])) nT;have lz:=qd.trans sT;have Sg:=sT _ _ HE;have Sh:=sT _ _ ow;have Si:upd H4 Tk (.lst (cJ qs.length [])) Tk=some (.lst (cJ qs.length [])):=aD;have nRT:R≠Tk:=cj HE nT;have nPT:Pk≠Tk:=cj ow nT;generalize upd H4 Tk (.lst (cJ qs.length []))=H5 at *
   have I0:Nq K A.bS A.bw A.bf A.bQ sh P' qs J H H3 H5 ls ru dx pl bA x dc kp p Dx R Pk Tk ks (g9 qs qs.length) 0 0 ls 0 0 [] [] [] :=
    { kx:=tX.same lz,kt:=qc.trans (bZ.of lz),rA:=tY.same lz,t0:=⟨Int.le_refl _,by have:=HD.n1;lia⟩,nx:=nrx,co:=iQ.same lz,j:=(by rw[el];exact j0),fx:=nx,fd:=nDH,c3:=iQ,bt:=(λc u e _ _ _=>lz _ _ e),sub:=.refl _,n3:=⟨nR,sR.free nP,qd.free nT⟩,fR:=fR,fP:=fP,fT:=fT,np:=⟨DM tY.p.l nR,DM tY.p.l (sR.free nP),DM tY.p.l (qd.free nT)⟩,ne:=⟨nRP,nRT,nPT⟩,rr:=⟨Sg,rfl,λi t r e=>(by simp at e)⟩,r5:=(λ_ h=>nomatch h),rl:=Nat.le_refl _,rh:=(λ_ h=>nomatch h),pP:=Sh,tT:=Si,n:=(by have:=congrArg List.length el;rw[List.length_map,DG] at this;simpa using this),all:=λd hd=>.inl (el▸hd),dr:=λy hy=>el▸List.mem_map_of_mem hy,tn:=(λ_ h=>nomatch h),r0:=Int.le_refl _,r1:=by have:=pk.n2;lia }
   generalize ahc:ls=rW at *
   refine aat λBd hBd=>?_;refine⟨λm σ H'=>∃(r b:Int) (ls:List (Dr×Addr)) (t u:Int) (tk:List (Int×Int)) (ts:List Addr) (rows:List (List Int)) (u9 Sj HF HG:Option V),m=ls.length/\σ = [some (V.ref p),some (V.ref la),some (V.ref ru),some (V.int 0),some (V.int 0),some (V.ref x),some (V.ref R),some (V.ref Pk),some (V.ref Tk),u9,Sj,HF,HG]/\Nq K A.bS A.bw A.bf A.bQ sh P' qs J H H3 H' rW ru dx pl bA x dc kp p Dx R Pk Tk ks (g9 qs qs.length) r b ls t u tk ts rows,⟨_,_,_,rW,_,_,_,_,_,none,none,none,none,rfl,rfl,I0⟩,?_⟩;clear I0 Sg Sh Si sT lz HE ow qd A1 sP sR iQ tY tX qc;rintro m σ H6 ⟨r2,b2,cD,t2,u2,cB,h_,tZ,u9,Sj,HF,HG,rfl,rfl,I⟩;have HJ:=I.co.o;unfold c9 at HJ;wp_walk using T,HJ;refine⟨_,.inr (.inr ⟨_,I.co.d,rfl⟩),cO (λh0=>?_) λh0=>?_⟩
   ·have hl:1<=cD.length:=by
     cases cD with
     | nil=>simp[cC] at h0
     | cons y l=>simp
    have kn:=abl rd;refine⟨_,λ_ _ h=>h,hBd _ _ _ ?_⟩;wp_walk using T,HJ;refine⟨x,dc,kp,ks,_,p,r2,b2,Dx,cD,rfl,I.co,hl,λns h=>by rw[kn ns h];simp,λb3 D H7 Sk oz Sl nD hD=>?_⟩
    rw[abm kn] at hD;have HK:=I.rA.i_ I.co oz I.nx;have kx7:=I.kx.i_ oz I.fx I.fd;have kt7:=I.kt.i_ oz I.fx I.fd;have Sm:=Sl.o;unfold c9 at Sm;have vM:1<=((cD.filter λy=>decide (y.1.q.at_<=b3)).map (·.1)).length:=by
     obtain⟨M,⟨y,hy,e⟩,_,e2⟩:=Sk;have:y∈cD.filter λy=>decide (y.1.q.at_<=b3):=List.mem_filter.mpr ⟨hy,decide_eq_true (by rw[e,e2];split <;> lia)⟩
     rw[List.length_map];exact List.length_pos_of_mem this
    have hd2:((cD.filter λy=>decide (y.1.q.at_<=b3)).map (·.1)).length<=100:=by
     have:=List.length_filter_le (λy:Dr×Addr=>decide (y.1.q.at_<=b3)) cD;have:=I.co.n;rw[List.length_map];lia
    have lV:∀y∈cD,v_ P' y.1.q/\y.1.c=dY P'.nc y.1.q.first y.1.q.many:=λy hy=>by
     obtain⟨a,b⟩:=DI _ _ _ _ (I.dr y hy);exact⟨rd _ a,b⟩
    have hdc:∀d∈(cD.filter λy=>decide (y.1.q.at_<=b3)).map (·.1),1<=d.c.length:=λd hd=>by
     obtain⟨y,hy,rfl⟩:=List.mem_map.mp hd;obtain⟨a,b⟩:=lV y (List.mem_filter.mp hy).1;have:=a.m0;rw[b,a.cn];lia
    wp_walk using T,Sm;refine⟨λσ H8=>∃(d:Dr) (t' u':Int),σ = [some (V.ref p),some (V.ref la),some (V.ref ru),some (V.int 0),some (V.int 0),some (V.ref x),some (V.ref R),some (V.ref Pk),some (V.ref Tk),some (V.ref D),some (V.int d.n),HF,HG]/\d_ ru H7 H8/\bZ H7 H8/\c8 A.bS H8 ru sh t' u' dx pl bA/\kU sh ((cD.filter λy=>decide (y.1.q.at_<=b3)).map (·.1)) t2 u2 t' u'/\d∈(cD.filter λy=>decide (y.1.q.at_<=b3)).map (·.1)/\eG (bG sh t') ((cD.filter λy=>decide (y.1.q.at_<=b3)).map (·.1))=some d.n,?_,?_⟩
    ·refine⟨dx,_,HK.o,by simp[fV,List.lookup_cons,fM],ru,p,dx,pl,r2,b3,bA,sh,t2,u2,D,_,_,rfl,HK,HD,I.t0.1,I.t0.2,hD,vM,hd2,λ_ t' u' n H8 So h8 l7 ln=>?_,λhn=>absurd (λd hd=>?_) hn⟩
     ·obtain⟨⟨d,hd,_,en⟩,_⟩:=(pD _).2 n ln;subst en;exact⟨d,t',u',rfl,d_.of So,HK.Dv So,h8,l7,hd,ln⟩
     ·obtain⟨y,hy,rfl⟩:=List.mem_map.mp hd;exact ask _ (DI _ _ _ _ (I.dr y (List.mem_filter.mp hy).1)).1
    ·rintro σ H8 ⟨d,t',u',rfl,kx8,oA,hr8,Sq,Ss,pkl⟩;have A2:=Sl.kt oA;have qe:=oA.lst (I.co.lst oz I.pP) g_.ints;have A3:=oA.lst (I.co.lst oz I.tT) (abi _ _);have HL:=I.co.zt oz I.rr;have HM:Zt H8 R h_ tZ:=⟨oA.lst HL.l,HL.n,λi t r e1 e2=>oA.tup (HL.t i t r e1 e2)⟩;obtain⟨Su,Sv,Sw⟩:=I.ne;have bt8:=(I.bt.i_ oz).kt oA;obtain⟨y,hyf,ey⟩:=List.mem_map.mp Ss;have hy:=(List.mem_filter.mp hyf).1;subst ey;have qg:=A2.o;have Sx:x≠Pk:=λz=>by rw[z,qe] at qg;cases qg
     have nxT:x≠Tk:=λz=>by rw[z,A3] at qg;cases qg
     have nDP:Dx≠Pk:=λz=>by have:=A2.d;rw[z,qe] at this;cases this
     have nDT:Dx≠Tk:=λz=>by have:=A2.d;rw[z,A3] at this;cases this
     obtain⟨yn0,Sy⟩:=pL _ _ _ _ (I.dr y hy);simp only[Nat.zero_add] at Sy;walk_at "rdt";refine⟨⟨_,aE.of qe⟩,_,qe,by rw[List.length_map,List.length_map];have:=I.n;lia,?_⟩
     have Sz:upd H8 Pk (.lst (((cB.map (·.1)).map V.int)++[V.int y.1.n])) x=some (.ins A.bw dc (c9 kp p r2 b3 Dx)):=by rw[aC Sx];exact qg
     have SA:upd H8 Pk (.lst (((cB.map (·.1)).map V.int)++[V.int y.1.n])) Tk=some (.lst (cJ qs.length cB)):=by rw[aC (Ne.symm Sw)];exact A3
     unfold c9 at Sz;refine⟨_,_,_,Sz,T.kY,T.tG,V.int b3,by simp[List.lookup_cons,fM],_,SA,y.1.n.toNat,by rw[DH];unfold iB;rw[if_pos (by lia),if_pos (by lia)],?_⟩
     rw[← abh qs.length cB (y.1.n,b3)];have SD:Zt (upd (upd H8 Pk (.lst (((cB.map (·.1)).map V.int)++[V.int y.1.n]))) Tk (.lst (cJ qs.length (cB++[(y.1.n,b3)])))) R h_ tZ:=⟨by rw[aC Sv,aC Su];exact HM.l,HM.n,λi t r e1 e2=>by
      have:=HM.t i t r e1 e2;rw[aC (λz=>by rw[z,A3] at this;cases this),aC (λz=>by rw[z,qe] at this;cases this)];exact this⟩
     have SE:upd (upd H8 Pk (.lst (((cB.map (·.1)).map V.int)++[V.int y.1.n]))) Tk (.lst (cJ qs.length (cB++[(y.1.n,b3)]))) x=some (.ins A.bw dc (c9 kp p r2 b3 Dx)):=by rw[aC nxT,aC Sx];exact qg
     have adt:upd (upd H8 Pk (.lst (((cB.map (·.1)).map V.int)++[V.int y.1.n]))) Tk (.lst (cJ qs.length (cB++[(y.1.n,b3)]))) Dx=some (.dK (cC cD)):=by rw[aC nDT,aC nDP];exact A2.d
     have adu:upd (upd H8 Pk (.lst (((cB.map (·.1)).map V.int)++[V.int y.1.n]))) Tk (.lst (cJ qs.length (cB++[(y.1.n,b3)]))) Pk=some (.lst (((cB++[(y.1.n,b3)]).map (·.1)).map V.int)):=by rw[aC Sw,aD];simp
     have adv:upd (upd H8 Pk (.lst (((cB.map (·.1)).map V.int)++[V.int y.1.n]))) Tk (.lst (cJ qs.length (cB++[(y.1.n,b3)]))) Tk=some (.lst (cJ qs.length (cB++[(y.1.n,b3)]))):=aD;have HN:jc x Dx H3 (upd (upd H8 Pk (.lst (((cB.map (·.1)).map V.int)++[V.int y.1.n]))) Tk (.lst (cJ qs.length (cB++[(y.1.n,b3)])))):=(bt8.put I.n3.2.1).put I.n3.2.2;have adw:d_ ru H (upd (upd H8 Pk (.lst (((cB.map (·.1)).map V.int)++[V.int y.1.n]))) Tk (.lst (cJ qs.length (cB++[(y.1.n,b3)])))):=((kx7.trans kx8).put I.fP).put I.fT;have SG:bZ H (upd (upd H8 Pk (.lst (((cB.map (·.1)).map V.int)++[V.int y.1.n]))) Tk (.lst (cJ qs.length (cB++[(y.1.n,b3)])))):=((kt7.trans oA).putK I.fP).putK I.fT;have adx:c8 A.bS (upd (upd H8 Pk (.lst (((cB.map (·.1)).map V.int)++[V.int y.1.n]))) Tk (.lst (cJ qs.length (cB++[(y.1.n,b3)])))) ru sh t' u' dx pl bA:=(hr8.iD qe I.np.2.1).iD SA I.np.2.2;generalize upd (upd H8 Pk (.lst (((cB.map (·.1)).map V.int)++[V.int y.1.n]))) Tk (.lst (cJ qs.length (cB++[(y.1.n,b3)])))=Hl at *
     have t_:=I.c3.Nf HN I.sub SE adt;obtain⟨ya,yb⟩:=lV y hy;have ycn:y.1.c.length=y.1.q.many.toNat:=by rw[yb];exact ya.cn
     have R6:=ya.m0;have R7:=ya.m1;have HP:rF P' y.1.c:=by rw[yb];exact ya.c
     have SH:=SE;unfold c9 at SH;refine⟨⟨_,aE.of SD.l⟩,_,_,SH,by simp[List.lookup_cons,fM],C,x,dc,kp,ks,_,p,P',fp,r2,b3,Dx,cD,y,rfl,t_,hy,hC,hP.kt SG,pk,I.r0,I.r1,HP,by lia,by lia,λl tw SI mH nl A4 HQ=>?_⟩
     have uc:=t_.zt mH SD;have wl:=vm P' y.1.c (r2,b3);have irn:=I.rr.n;have irl:=I.rl;have SJ:=I.n;have izn:=HQ.n;rw[List.length_map] at izn;have fl:=abk I.co.up hy;have vD:(cD.filter λz=>decide (z.1.n≠y.1.n)).Sublist cD:=List.filter_sublist;have nxR:x≠R:=λz=>by have:=A4.o;rw[z,uc.l] at this;cases this
     have nDR:Dx≠R:=λz=>by have:=A4.d;rw[z,uc.l] at this;cases this
     refine⟨l,rfl,_,uc.l,_,HQ.l,by rw[List.length_map,List.length_map];lia,_,?_,(cW P' (r2,b3) y.1.c).1,(cW P' (r2,b3) y.1.c).2,cD.filter (λz=>decide (z.1.n≠y.1.n)),rfl,t',u',cB++[(y.1.n,b3)],h_++tw,tZ++(fE P' (r2,b3) y.1.c).map (λrow=>y.1.n::row),?_⟩
     ·lia
     have sd:Nd (cD.map (·.1)) b2 b3:=by
      obtain⟨M,⟨z,hz,e⟩,hm,e2⟩:=Sk;exact⟨M,⟨z.1,List.mem_map_of_mem hz,e⟩,λd hd=>by obtain⟨z,hz,rfl⟩:=List.mem_map.mp hd;exact hm z hz,e2⟩
     have fm:(cD.map (·.1)).filter (λd=>decide (d.q.at_<=b3))=(cD.filter λy=>decide (y.1.q.at_<=b3)).map (·.1):=by rw[List.filter_map];rfl
     have jj:=al.go (cD.map (·.1)) r2 b2 t2 u2 cB b3 y.1 t' u' I.j sd (by rw[fm];exact Sq) (by rw[fm];exact Ss) (by rw[fm];exact pkl)
     rw[List.filter_map] at jj;have SK:=C7 P' (n:=P'.rc.length) y.1.c (r2,b3) I.r0 I.r1 λq hq=>⟨(HP q hq).1,(HP q hq).2.1⟩;exact {
      kx:=(adw.i_ mH I.fx I.fd).put I.fR,kt:=(SG.i_ mH I.fx I.fd).putK I.fR,rA:=(adx.i_ t_ mH I.nx).iD uc.l I.np.1,t0:=((λh=>⟨h.1,h.2.1⟩) (Sq.bt HD I.t0.1 I.t0.2)),nx:=I.nx,co:=I.c3.Nf ((HN.i_ mH).put I.n3.1) (vD.trans I.sub) (by rw[aC nxR];exact A4.o) (by rw[aC nDR];exact A4.d),j:=jj,fx:=I.fx,fd:=I.fd,c3:=I.c3,bt:=(HN.i_ mH).put I.n3.1,sub:=vD.trans I.sub,n3:=I.n3,fR:=I.fR,fP:=I.fP,fT:=I.fT,np:=I.np,ne:=I.ne,rr:=uc.cat HQ,
      r5:=(λw hw=>by
       rcases List.mem_append.mp hw with hw | hw
       ·exact I.r5 w hw
       ·obtain⟨row,hr,rfl⟩:=List.mem_map.mp hw;rw[List.length_cons,C6 P' y.1.c (r2,b3) row hr]),
      rl:=(by rw[List.length_append,List.length_append,List.length_map,wl,List.length_singleton];lia),
      rh:=(λq hq=>by
       rcases List.mem_append.mp hq with hq | hq
       ·obtain⟨w,hw,e⟩:=I.rh q hq;exact⟨w,List.mem_append_left _ hw,e⟩
       ·rw[List.mem_singleton.mp hq];obtain⟨row,hr⟩:=List.exists_mem_of_length_pos (l:=fE P' (r2,b3) y.1.c) (by lia)
        exact⟨_,List.mem_append_right _ (List.mem_map_of_mem hr),rfl⟩),
      pP:=(by rw[aC (Ne.symm Su)];exact t_.lst mH adu),tT:=(by rw[aC (Ne.symm Sv)];exact t_.lst mH adv),
      n:=(by rw[List.length_append,List.length_singleton];lia),
      all:=(λd hd=>by
       rcases I.all d hd with h | ⟨q',gZ,e⟩
       ·by_cases e:d.n=y.1.n
        ·exact .inr ⟨(y.1.n,b3),List.mem_append_right _ (List.mem_singleton_self _),e.symm⟩
        ·obtain⟨z,hz,rfl⟩:=List.mem_map.mp h;exact .inl (List.mem_map_of_mem (List.mem_filter.mpr ⟨hz,decide_eq_true e⟩))
       ·exact .inr ⟨q',List.mem_append_left _ gZ,e⟩),
      dr:=(λz hz=>I.dr z (vD.subset hz)),
      tn:=(λq hq=>by
       rcases List.mem_append.mp hq with hq | hq
       ·exact I.tn q hq
       ·rw[List.mem_singleton.mp hq];exact⟨by simpa using yn0,Sy⟩),
      r0:=SK.1,r1:=SK.2 }
   ·have hl:cD = []:=by
     cases cD with
     | nil=>rfl
     | cons y l=>simp[cC] at h0
    subst hl;have SJ:=I.n;have irl:=I.rl;simp only[List.length_nil,Nat.add_zero] at SJ;refine⟨R,h_,tZ,rfl,I.rr,by lia,I.r5,λEd kvs H7 s7 nE hE hv=>?_⟩
    have fin:∀v5,Nc K A.bf [V.ref la,V.ref Ed,V.int 0] H7 (λx H1=>Nb K A.bf [V.ref la,V.ref Pk] H1 (λx_5 H1=>∀(qh dx:Addr),H1 qh=none->H1 dx=none->dx≠qh->Na A.cY [V.ref qh,V.ref R,V.ref Tk,x,x_5,v5] (upd (upd H1 dx (HO.own qh)) qh (HO.ins A.cY dx [])) (λv H2=>v=V.aJ/\Q (V.ref qh) H2) E0) E0) E0:=by
     intro v5;have SM:=(ha.kt I.kt).same s7;refine⟨la,ps,qs,Ed,kvs,0,rfl,SM,on,λq hq=>⟨(rd q hq).k,(rd q hq).e⟩,hE,λn n0 n1=>?_,λl H8 s8=>?_⟩
     ·obtain⟨d,hd,e⟩:=rT P'.nc qs 0 n.toNat (by lia)
      rcases I.all d hd with h | ⟨q',gZ,e2⟩
      ·cases h
      ·refine hv n ?_;obtain⟨w',hw,e3⟩:=I.rh q' gZ;exact⟨w',hw,by rw[e3,e2,e];congr 1;lia⟩
     ·refine⟨la,ps,qs,Pk,cB.map (·.1),rfl,SM.same s8,on,λq hq=>⟨(rd q hq).k,(rd q hq).f0,(rd q hq).f1,by have:=(rd q hq).m0;lia,(rd q hq).m1⟩,s8 _ _ (s7 _ _ I.pP),by rw[List.length_map];lia,λn hn=>?_,λl2 H9 s9 xx dd nxx ndd nnd=>⟨xx,dd,_,_,_,_,_,rfl,aD,rfl,?_⟩⟩
      ·obtain⟨q',gZ,rfl⟩:=List.mem_map.mp hn;exact I.tn q' gZ
      ·have sa:ah H6 H9:=(s7.trans s8).trans s9;have sb:∀u,ah H9 (upd (upd (upd H9 dd (.own xx)) xx (.ins A.cY dd [])) xx u):=λu c o e=>by
        have n1:c≠xx:=λz=>by rw[z,nxx] at e;cases e
        have n2:c≠dd:=λz=>by rw[z,ndd] at e;cases e
        rw[aC n1,aC n1,aC n2];exact e
       have sc:=λu=>sa.trans (sb u);exact q xx dd _ Tk _ _ _ r2 b2 t2 u2 cB _ (I.kx.same (sc _)) I.j aD (sc _ _ _ I.tT)
    refine⟨_,.inl ⟨_,aE.of (s7 _ _ I.rr.l),rfl⟩,cO (λh1=>?_) λh1=>fin _⟩;have fh:tZ≠[]:=λz=>by
     have:=I.rr.n;rw[z] at this;have:h_ = []:=List.length_eq_zero_iff.mp this;rw[this] at h1;simp at h1
    have hz:=I.rr.same s7;have hw5:=I.r5 _ (List.getLast_mem fh);obtain⟨g1,g2,g3,g4,g5,eg⟩:=M_ hw5;rw[← List.dropLast_concat_getLast fh,eg] at hz;obtain⟨i9,t,rfl,ht⟩:=hz.last;exact⟨_,aE.of (s7 _ _ I.rr.l),_,by rw[List.map_append];exact Cn _ _,t,rfl,_,aQ.of ht,_,dQ (j:=4) rfl,fin _⟩
theorem ady(T:Tx K mg A):aR P w K mg base a_ 9 A.zO A.zP ["_law_script"] (vg K):=by
 refine T.Qt.ok gw (λvs H Q E h=>?_) (λaK Ar outer s H vs Q E hr h=>?_)
 ·obtain⟨a,ns,rfl,_⟩:=h
  rfl
 ·obtain⟨a,ns,rfl,hS,lu,q⟩:=h;have p6:=hr.Cg;refine⟨_,(aB (aT (i:=1) gw.nd rfl (Or.inl rfl) (aZ dR (aP (adp T) (hr.mono (by decide)) rfl T.Qh T.Gx.kp T.Qg .nil aM (aa (pv 0) aj)) az (λ_ _=>rfl)))
   (aB (aT (i:=2) gw.nd rfl (Or.inr rfl) (aP (ade T) (hr.mono (by decide)) rfl T.Qj T.Gy.kp T.Qi .nil aM (aa (aP (nZ T) (hr.mono (by decide)) rfl T.l_ T.kX.kp T.l9 .nil aM (aa (pv 0) (aa az aj))) aj)))
   (aB (qX (i:=3) gw.nd rfl (Or.inl rfl) (N:=["_law_k", "_law_askers_here", "_law_script"]) (nt:=1) (fv:=[2,0]) (cL.of rfl rfl (by rfl) (by rfl) (by repeat (first | exact trivial | refine⟨rfl,?_⟩)) (by rfl) (by rfl) (by rfl) (by decide) (by decide +kernel)) rfl (iT rfl T.eW (aa (bX eB rfl T.dU boot_len (aa (pv 2) aj)) aj)) (λC s H fp=>(aW (i:=0) (show List.Nodup (["_law_k", "_law_askers_here", "_law_script"]:List Str) by decide +kernel) rfl (Or.inl rfl))) (λC s H fp=>gG) (λC s H fp=>(dP (aa (aZ (LP (K:=K) rfl) (pv 1) (pv 0) (λ_ _=>rfl)) (aa (aL bI az (aP (dJ T) (hr.mono (by decide)) rfl T.dF T.dh.kp T.dD .nil aM (aa (aP (nZ T) (hr.mono (by decide)) rfl T.l_ T.kX.kp T.l9 .nil aM (aa (pv 2) (aa az aj))) (aa (aL bI az (pv 0)) (aa az aj))))) aj)))))
   (aB (cU PassesOwn.never rfl (iT rfl T.eW (aa az aj)) (aW (i:=4) gw.nd rfl (Or.inl rfl))
   (aB (eU (aT (i:=5) gw.nd rfl (Or.inl rfl) (aP (nZ T) (hr.mono (by decide)) rfl T.l_ T.kX.kp T.l9 .nil aM (aa (pv 0) (aa (aL bI az (pv 4)) aj)))))
   (aB (eU (B3 (aZ bR (pv 3) (aP (dJ T) (hr.mono (by decide)) rfl T.dF T.dh.kp T.dD .nil aM (aa (pv 5) (aa az (aa (bX eB rfl T.dU boot_len (aa (pv 3) aj)) aj)))) (λ_ _=>rfl)) (gi rfl (bN (aW (i:=6) gw.nd rfl (Or.inl rfl)) (bN (aW (i:=7) gw.nd rfl (Or.inl rfl)) e7)))))
   (aB (eU (aT (i:=8) gw.nd rfl (Or.inl rfl) (aP (dJ T) (hr.mono (by decide)) rfl T.dF T.dh.kp T.dD .nil aM (aa (pv 5) (aa az (aa az aj))))))
   (aB (eU (aT (i:=9) gw.nd rfl (Or.inl rfl) (bX (CQ rfl) rfl T.pW boot_sum (aa (g7 (N:=["_law_one", "_law_share"]) (nt:=2) (fv:=[]) (cL.of rfl rfl (by rfl) (by rfl) (by repeat (first | exact trivial | refine⟨rfl,?_⟩)) (by rfl) (by rfl) (by rfl) (by decide) (by decide +kernel)) rfl (e9 (pv 3)) (λC s H fp=>(rD (K:=K) (n:=2) rfl rfl (bN (aW (i:=0) (show List.Nodup (["_law_one", "_law_share"]:List Str) by decide +kernel) rfl (Or.inl rfl)) (bN (aW (i:=1) (show List.Nodup (["_law_one", "_law_share"]:List Str) by decide +kernel) rfl (Or.inl rfl)) e7)))) (λC s H fp=>gG) (λC s H fp=>(pv 1))) aj))))
   (aB (eU (aT (i:=10) gw.nd rfl (Or.inl rfl) (uH K4 rfl T.nX boot_list (aa (pv 3) aj))))
   (aB (eU (aT (i:=11) gw.nd rfl (Or.inl rfl) (aP (RV T) (hr.mono (by decide)) rfl T.FQ T.zW.kp T.FP .nil vA (aa (pv 10) (aa (pv 6) (aa (pv 8) aj))))))
   (aB (eU (bM (PW.pt (dW (jP (bX rm rfl T.jJ boot_isinstance (aa (pv 11) (aa (oJ (v:=.ty "bool") rfl T.tH boot_bool rfl) aj)))) (eZ (br iU (pv 11) (aL gm (aL bI (aL oN (pv 8) (pv 7)) az) (aL jS (pv 9) (pv 7))) (bq _))))) (aH (bx jO)) bT))
   (aB (eU (aT (i:=12) gw.nd rfl (Or.inl rfl) (aP (R9 T) (hr.mono (by decide)) rfl T.FU T.zX.kp T.FT .nil vA (aa (pv 1) (aa (pv 10) (aa (pv 6) (aa (pv 8) aj)))))))
   (aB (eU (aT (i:=13) gw.nd rfl (Or.inl rfl) (aP (ac1 T) (hr.mono (by decide)) rfl T.Qs T.GF.kp T.Qq .nil aM (aa (pv 12) aj))))
   (aB (eU (bM (PW.pt (dW (br Ku (pv 13) lA (bq _)) (dW (br (X4 p6) (pv 10) (pv 3) (bq _)) (eZ (br iU (aZ dR (aZ bR (pv 13) (aZ dR (pv 12) az (λ_ _=>rfl)) (λ_ _=>rfl)) az (λ_ _=>rfl)) (pv 6) (bq _)))))) (aH (bx jO)) bT))
   (aB (eU (aT (i:=14) gw.nd rfl (Or.inl rfl) (aU (aP (ads T) (hr.mono (by decide)) rfl T.Qa T.Gu.kp T.P_ (show Vals [.int 0,.int 0] [.int 0 A.Fq,.int 0 A.Ft] from(.cons ⟨_,rfl⟩ (.cons ⟨_,rfl⟩ .nil))) aM (aa (pv 1) (aa (aZ dR (pv 12) az (λ_ _=>rfl)) (aa (oO T.Qw (ac3 T) (hr.mono (by decide)) rfl T.Qx T.Ox .nil vA (aa (pv 3) aj)) aj)))) rfl)))
   (aB (eU (bM (br (Ng p6) (aP (ac0 T) (hr.mono (by decide)) rfl T.Qn T.GA.kp T.Qm .nil aM (aa (pv 13) (aa (pv 14) (aa (aZ dR (pv 12) az (λ_ _=>rfl)) aj)))) (dP (aa (pv 8) (aa (pv 11) aj))) (bq _)) (aH (bx jO)) bT))
   (aB (nH (aT (i:=15) gw.nd rfl (Or.inl rfl) (aZ bR (g7 (N:=["_law_one", "_law_askers_here"]) (nt:=1) (fv:=[2]) (cL.of rfl rfl (by rfl) (by rfl) (by repeat (first | exact trivial | refine⟨rfl,?_⟩)) (by rfl) (by rfl) (by rfl) (by decide) (by decide +kernel)) rfl (iT rfl T.eW (aa az aj)) (λC s H fp=>(aW (i:=0) (show List.Nodup (["_law_one", "_law_askers_here"]:List Str) by decide +kernel) rfl (Or.inl rfl))) (λC s H fp=>(uZ (br (Y6 (K:=K) rfl) (pv 0) (pv 1) rfl))) (λC s H fp=>(pv 0))) (aP (dJ T) (hr.mono (by decide)) rfl T.dF T.dh.kp T.dD .nil aM (aa (pv 5) (aa az (aa az aj)))) (λ_ _=>rfl))))
   (aB (eU (bM (mT (jP (aP (Se T) (hr.mono (by decide)) rfl T.GC T.zZ.kp T.GB .nil aM (aa (pv 1) (aa (pv 3) (aa (pv 15) (aa (pv 8) aj))))))) (aH (bx jO)) bT))
   (aH (bM (mT (jP (aP (Se T) (hr.mono (by decide)) rfl T.GC T.zZ.kp T.GB .nil aM (aa (pv 1) (aa (aP (adf T) (hr.mono (by decide)) rfl T.Qp T.GD.kp T.Qo .nil aM (aa (pv 5) (aa (pv 3) aj))) (aa (pv 6) (aa (pv 8) aj))))))) (aH (bx jO)) bT)))))))))))))))))
   (aH (bx jO)))))),?_⟩
  wp_walk using T,eT,bW;refine⟨a,ns,rfl,hS,lu,λt p wt z aq sk sw fp H1 s1 ht hP wo=>?_⟩;have HR:=s1.seq hS;refine⟨t,rfl,_,aQ.of ht,_,rfl,ns,HR,lu,_,rfl,λal as H2 s2 nal ha a1 a4 HS and=>?_⟩;have HU:=s2.seq HR;refine nF (as.length:Int) (λD i ys au H3=>∃(u:Option V) (dZ:List Addr) (zz:List (Int×Int)),ys=dZ.map V.ref/\au = [u,some (.ref al),some (.ref a)]/\Zn H3 D dZ zz/\zz.map (·.1)=as.take i/\(∀y∈zz,1<=y.2/\y.2<=4)/\ah H2 H3/\H2 D=none/\i<=4) (λQ q=>?_) (by lia) (by lia) ?_ ?_ ?_ ?_
  ·walk_at "rdm";refine⟨_,.inl (aE.of ha),?_⟩;rw[List.length_map];exact q
  ·intro D hD;exact⟨none,[],[],rfl,rfl,Zn.start,rfl,(λ_ h=>nomatch h),ah.put hD,hD,by lia⟩
  ·rintro D i ys au H3 ⟨u,dZ,zz,rfl,rfl,g1,g2,g3,g4,g5,g6⟩;have gl:=congrArg List.length g2;rw[List.length_map,List.length_take] at gl;exact⟨g1.l,fK (by rw[List.length_map,g1.n];lia)⟩
  ·rintro D i ys au H3 N hN hi ⟨u,dZ,zz,rfl,rfl,g1,g2,g3,g4,g5,g6⟩;have jZ:i<as.length:=by lia
   wp_walk using bW,eT;have b75:=d8 (kQ ns 5) (75+(i:Int)) (m:=4) (by decide)
   refine⟨_,aE.of (g4 _ _ ha),_,iG (by lia) (by lia),ns,g4.seq HU,lu,by lia,by lia,λp1 gf=>⟨ah.put gf _ _ g1.l,hN _ _ _ ⟨_,dZ++[p1],_,by rw[List.map_append];rfl,rfl,g1.snoc gf _ _,?_,λy hy=>?_,ah.put2 (g4.trans (ah.put gf)) g5,g5,by lia⟩⟩⟩
   ·rw[List.map_append,g2,take_succ_get (List.getElem?_eq_getElem jZ)];simp[jZ]
   ·rcases List.mem_append.mp hy with hy | hy
    ·exact g3 y hy
    ·rw[List.mem_singleton.mp hy];lia
  rintro shl ys au H3 ⟨u,dZ,sh,rfl,rfl,hz,zf,zs,s3,adz,_⟩;rw[Int.toNat_natCast,List.take_length] at zf;have ahd:sh.length=as.length:=by rw[← zf,List.length_map]
  have ok:gv sh:=⟨by lia,by lia,λy hy=>⟨(HS y.1 (zf▸List.mem_map_of_mem hy)).1,(HS y.1 (zf▸List.mem_map_of_mem hy)).2,(zs y hy).1,(zs y hy).2⟩,zf▸and⟩
  have AZ:=s3.seq HU;have tV:=hP.same (s2.trans s3);have AX:=s3 _ _ ha;clear hS HR HU hP ha s1 s2 s3 adz nal ht zs HS;refine CY 2 (λi σ H'=>∃(v4 v5 v6 v7 v8 v9 v10 v11 HV HW HX HY:Option V),σ = [some (.ref a),some (.ref p),some (.ref al),some (.ref shl),v4,v5,v6,v7,v8,v9,v10,v11,HV,HW,HX,HY]/\dB H3 H') (λQ q=>q) (by decide) ⟨_,_,_,_,_,_,_,_,_,_,_,_,rfl,dB.of (ah.refl _)⟩ ?_ ?_
  ·rintro i σ H4 N hN hi ⟨v4,v5,v6,v7,v8,v9,v10,v11,HV,HW,HX,HY,rfl,kn⟩;have HZ:=kn.seq AZ;have ow:=kn.vY tV;have gh:=kn.zn hz;have qb:=kn.lst AX;dsimp only[lD,List.set];refine eV λN1 k1=>?_;wp_walk using bW,eT;refine⟨ns,HZ,lu,by lia,by lia,k1 _ _ ?_⟩
   generalize kQ ns (6+(i:Int))=c;refine eV λN2 k2=>?_;wp_walk using bW,eT;have qj:=d8 c 31 (m:=(sh.length:Int)) (by have:=ok.n1;lia)
   obtain⟨ia,SN⟩:∃k:Int,bH c 31 (sh.length:Int)=k:=⟨_,rfl⟩;rw[SN] at qj;obtain⟨pt,ept,hpt⟩:=gh.ti qj.1 qj.2;refine⟨_,.inl gh.sq,by rw[List.length_map,gh.n];have:=ok.n1;lia,?_⟩
   rw[List.length_map,gh.n,SN];refine⟨_,gh.sq,_,ept,pt,rfl,_,aQ.of hpt,rfl,_,_,rfl,_,_,rfl,rfl,k2 _ _ ?_⟩;have mem:=List.mem_of_getElem? (i7 qj.1 qj.2);have mb:=ok.a _ mem;refine eV λN3 k3=>?_;wp_walk using bW,eT;refine k3 _ _ ?_;have kZ:=d8 c 32 (m:=4) (by decide)
   generalize bH c 32 4=h at kZ;have h3:h<=3:=by lia
   have B:=wo.sb ok kZ.1 h3 qj;generalize eao:bG sh ia=ao at *
   generalize eso:cX sh ia=so at *
   refine eV λN4 k4=>?_;wp_walk using bW,eT;refine lJ shl (dZ.map V.ref) (λD i ys au H5=>∃(v w:Option V),ys=((sh.take i).map (·.2)).map V.int/\au = [v,w]/\H5 D=some (.lst ys)/\ah H4 H5/\H4 D=none) (λQ q=>⟨_,rfl,q⟩) gh.sq ?_ ?_ ?_ ?_
   ·intro D hD;exact⟨none,none,rfl,rfl,aD,ah.put hD,hD⟩
   ·rintro D i ys au H2 ⟨v,w,rfl,rfl,e1,e2,e3⟩;exact⟨e1,fK (by rw[List.length_map,List.length_map,List.length_take];lia),e2.seq gh.sq⟩
   ·rintro D i x ys au H2 N hN hx ⟨v,w,rfl,rfl,e1,e2,e3⟩;obtain⟨t,y,rfl,hy,ht⟩:=(gh.same e2).at hx;walk_at "rdm";exact⟨_,aQ.of ht,rfl,_,_,rfl,_,_,rfl,rfl,e1,hN _ _ _ ⟨_,_,by rw[take_succ_get hy,List.map_append,List.map_append];rfl,rfl,aD,ah.put2 e2 e3,e3⟩⟩
   rintro D ys au H5 ⟨v,w,rfl,rfl,e1,H_,e3⟩;rw[List.length_map,gh.n,List.take_length] at e1;refine⟨D,rfl,_,aE.of e1,k4 _ _ ?_⟩;have tU:=gh.same H_;refine eV λN5 k5=>?_;wp_walk using bW,eT;refine⟨_,.inl tU.sq,λhd nhd=>k5 _ _ ?_⟩;have qa:=ah.put (o:=.lst (dZ.map V.ref)) nhd;have ud:Zn _ hd dZ sh:=(tU.zz.same qa).zn aD;generalize upd H5 hd (.lst (dZ.map V.ref))=H6 at qa ud ⊢;have SO:=H_.trans qa;refine eV λN6 k6=>?_;wp_walk using bW,eT;have has:lY sh ao:=⟨ok,List.mem_map.mpr ⟨_,mem,rfl⟩⟩;refine⟨hd,dZ,sh,ao,h,rfl,ud,by lia,kZ.1,h3,λ_ s' H7 A5 hm=>?_,λn=>absurd has n⟩
   have es:=NR ok hm mem;subst es;refine k6 _ _ ?_;have Ia:=SO.trans A5;refine eV λN7 k7=>?_;wp_walk using bW,eT;have sb:1<=s'/\s'<=4:=mb.2.2;have dv:=wc (s:=s') sb.1 kZ.1 h3;refine⟨_,fH.int _,false,rfl,ite_no (by simp) ⟨by lia,by lia,.inl ⟨by lia,by lia⟩,ite_no (by simp[jH]) (k7 _ _ ?_)⟩⟩
   refine eV λN8 k8=>?_;wp_walk using bW,eT;refine⟨A.bu,p,hd,dZ,sh,ao,h,_,fp,rfl,by simp,ow.same Ia,wo.l1,wo.l2,ud.same A5,by lia,kZ.1,h3,λ_ tf la ps s2 H8 Ib Mq A6 Ic=>?_,λn=>absurd has n⟩
   have es:=NR ok Mq hm;subst es;refine k8 _ _ ?_;have SQ:=Ia.trans Ib;have bl:=B.len;have bn:0<=jH sh s2 h:=by
    have:=rZ (aq:=(lX z aq sk sw).aq) (z:=sh) (a:=ao) (show 0<=s2 by lia) kZ.1
    lia
   refine eV λN9 k9=>?_;wp_walk using bW,eT;refine⟨tf,la,ps,_,s2+h,rfl,A6,Ic,by lia,by lia,bl.1,λq hq=>⟨(B.rd q hq).k,(B.rd q hq).b⟩,B.sorted,λlr A7 H9 qm nlr uf=>k9 _ _ ?_⟩
   have oB:=SQ.trans qm;refine eV λN10 k10=>?_;wp_walk using bW,eT;have kN:(s2+h).toNat<(cE (lX z aq sk sw).aq sh ao s2 h).length:=by lia
   have rn:=uf.n;obtain⟨tk,pZ⟩:=jd (show (s2+h).toNat<A7.length by lia)
   obtain⟨qk,j9⟩:=jd kN;obtain⟨ek,hk⟩:=uf.t _ tk qk pZ j9;obtain⟨ck,o,rfl,_,_,_,oa,_⟩:=B.ak j9;have oa:=(oa (by lia)).symm
   subst oa;have eK:(((s2+h).toNat:Nat):Int)=s2+h:=by lia
   have ati:ez (A7.map V.ref) (s2+h)=some (.ref tk):=by
    have:=dQ (xs:=A7.map V.ref) (j:=(s2+h).toNat) (v:=.ref tk) (by rw[List.getElem?_map,pZ];rfl)
    rwa [eK] at this
   refine ite_no (by simp) ⟨_,(ud.same (A5.trans (Ib.trans qm))).sq,(gh.same oB).sq,λv hv=>?_,_,aQ.of (qm _ _ A6),_,rfl,_,_,rfl,aE.of uf.l,_,ati,tk,rfl,_,aQ.of hk,_,dQ (j:=5) rfl,rfl,ite_no (by simp[d9]) (k10 _ _ ?_)⟩
   ·obtain⟨x,_,rfl⟩:=List.mem_map.mp hv;exact⟨(λ_ z=>nomatch z),(λ_ z=>nomatch z)⟩
   have Ie:=ow.same oB;have Ig:=gh.same oB;have SR:=oB _ _ qb;have hS9:=oB.seq HZ;have SS:=Ic.same qm;have Ih:=qm _ _ A6;have SV:=kn.trans (dB.of oB);clear H_ SO Ia SQ oB qa A5 Ib qm ud gh tU ow HZ qb Ic A6 e1 e3 kn;refine eV λN11 k11=>?_;wp_walk using T,bW,eT;refine⟨_,aQ.of Ih,_,rfl,λru dx A8 lO SW=>?_⟩;have sA:ah H9 (upd (upd H9 dx (.own ru)) ru (.ins A.bS dx [])):=(ah.put lO).trans (ah.put (by rw[aC (Ne.symm SW)];exact A8))
   refine⟨ru,dx,shl,dZ,sh,rfl,aD,Ig.same sA,by lia,λ_ pl bA Hl SX npl uR=>⟨rfl,?_⟩,λn=>absurd ok n⟩
   have A9:ah H9 Hl:=λb o e=>SX _ _ (sA _ _ e) (λz=>by rw[z,A8] at e;cases e)
   refine⟨A.bu,p,la,ru,dx,pl,bA,sh,0,0,_,fp,ps,_,_,rfl,by simp,Ie.same A9,B.ok,B.nM,SS.same A9,B.aks,B.rd,uR,ok,B.aY,B.start,JS.along B.all,λx dG w1 ta w3 w4 w5 r b t' u' tk' SI kx j hx d7=>?_⟩
   obtain⟨bs,eb,lb,SY,S0⟩:=JS.ends B j;rw[eb] at d7;refine⟨x,rfl,_,_,_,hx,T.QF,T.Ag,_,rfl,k11 _ _ ?_⟩;have A_:dB H9 SI:=dB.rule A9 kx A8;refine eV λN12 Mn=>?_;wp_walk using T,bW,eT;refine⟨_,aQ.of (A_.tup Ih),_,rfl,lr,ta,A7,_,bs,(s2+h).toNat,by rw[eK],A_.rw uf,d7,lb,bl.1,kN,λtc H12 p_ Ii=>?_⟩
   rw[SY,S0] at Ii;intro pc npc;have ig:=ah.put (o:=.tup [V.int h,V.int (jH sh s2 h)]) npc;refine⟨tc,rfl,[h,jH sh s2 h],ig _ _ Ii,[h,jH sh s2 h],rfl,ite_no (by simp) (Mn _ _ ?_)⟩
   have qo:=A_.trans (dB.of (p_.trans ig));generalize upd H12 pc (.tup [V.int h,V.int (jH sh s2 h)])=Ij at qo ⊢;have adA:=qo.vY Ie;have adB:=qo.zn Ig;have adC:=qo.lst SR;have kn3:=SV.trans qo;clear qo A_ p_ ig A9 SX sA uR npl A8 lO SW kx j hx d7 SY S0 eb Ii SV Ie Ig SR hS9 SS Ih uf hk;wp_walk using T,bW,eT;refine⟨λσ H5=>∃st:Int,σ = [some (V.ref a),some (V.ref p),some (V.ref al),some (V.ref shl),some (V.int (i:Int)),some (V.int c),some (V.int ao),some (V.int s2),some (V.int h),some (V.int (sh.map (·.2)).sum),some (V.ref hd),some (V.int (jH sh s2 h)),some (V.ref tf),some (V.ref lr),some (V.ref ta),some (.int st)]/\ah Ij H5/\st∉sh.map (·.1),?_,?_⟩
   ·refine nF 21 (λD6 i ys au H6=>∃(u:Option V) (xs:List Int),ys=xs.map V.int/\au = [u,some (.ref al)]/\H6 D6=some (.lst ys)/\xs=((List.range i).map λ(k:Nat)=>(k:Int)).filter (λx => !decide (x∈as))/\ah Ij H6/\Ij D6=none/\i<=21) (λQ q=>?_) (by decide) (by decide) ?_ ?_ ?_ ?_
    ·walk_at "rdm";exact q
    ·intro D6 hD;exact⟨none,[],rfl,rfl,aD,rfl,ah.put hD,hD,by lia⟩
    ·rintro D6 i ys au H6 ⟨u,xs,rfl,rfl,g1,g2,g3,g4,g5⟩;have gl:=congrArg List.length g2;have:=List.length_filter_le (λx => !decide (x∈as)) ((List.range i).map λ(k:Nat)=>(k:Int))
     rw[List.length_map,List.length_range] at this;exact⟨g1,fK (by rw[List.length_map];lia)⟩
    ·rintro D6 i ys au H6 N hN hi ⟨u,xs,rfl,rfl,g1,g2,g3,g4,g5⟩;walk_at "rdm";refine⟨_,.inl (aE.of (g3 _ _ adC)),rfl,C_ _,?_⟩;rw[vq];refine cO (λhm=>⟨g1,hN _ _ _ ⟨_,xs++[(i:Int)],by rw[List.map_append];rfl,rfl,aD,?_,ah.put2 g3 g4,g4,by lia⟩⟩) λhm=>hN _ _ _ ⟨_,xs,rfl,rfl,g1,?_,g3,g4,by lia⟩
     ·rw[List.range_succ,List.map_append,List.filter_append,← g2];simp[of_decide_eq_false hm]
     ·rw[List.range_succ,List.map_append,List.filter_append,← g2];simp[of_decide_eq_true (by simpa using hm:decide ((i:Int)∈as)=true)]
    ·rintro D6 ys au H6 ⟨u,xs,rfl,rfl,g1,g2,g3,g4,g5⟩;have nf:=MV as ((List.range (21:Int).toNat).map λ(k:Nat)=>(k:Int)) (aaQ _);rw[← g2,List.length_map,List.length_range] at nf;have nf:21<=xs.length+as.length:=nf;have d95:=d8 c 95 (m:=17) (by decide)
     refine⟨D6,rfl,_,aE.of g1,_,iG d95.1 (by lia),_,rfl,g3,?_⟩
     have hm:=get_mem (CW xs (show (bH c 95 17).toNat<xs.length by lia))
     rw[g2] at hm;obtain⟨h1,h2⟩:=List.mem_filter.mp hm;rw[← g2] at h2;rw[zf];simpa using h2
   rintro σ H14 ⟨st,rfl,ou,nst⟩;have S2:=adA.same ou;have S3:=adB.same ou;refine eV λN14 k14=>?_;wp_walk using T,bW,eT;refine⟨p,shl,dZ,sh,st,h,_,fp,rfl,S2,wo.l1,wo.l2,S3,by lia,kZ.1,h3,λx=>nst x.2,λH15 Ik=>⟨true,rfl,ite_no (by simp) (k14 _ _ ?_)⟩⟩
   wp_walk using T,bW,eT;refine⟨c,shl,dZ,sh,rfl,S3.same Ik,ok,λl' i9 z' H16 oh k_ zl' Hf=>⟨p,l',i9,z',ao,h,_,fp,rfl,S2.same (Ik.trans oh),wo.l1,wo.l2,k_,zl',kZ.1,h3,λx=>Hf x.1,λH17 s17=>⟨true,rfl,ite_no (by simp) (hN _ _ ⟨_,_,_,_,_,_,_,_,_,_,_,_,rfl,kn3.trans (dB.of (ou.trans (Ik.trans (oh.trans s17))))⟩)⟩⟩⟩
  ·rintro σ H' ⟨v4,v5,v6,v7,v8,v9,v10,v11,HV,HW,HX,HY,rfl,kn⟩;walk_at "rdm";exact q _
end
theorem oE{C:List Value->Prop}(h:C []):∀us:List Value,us.length=0->C us:=λ| [],_=>h
theorem cP{n:Nat}{C:List Value->Prop}(h:∀a us,us.length=n->C (a::us)):∀us:List Value,us.length=n+1->C us:=λ| a::us,e=>h a us (Nat.succ.inj e)
theorem S4{K:W.Frag}{fd:FuncData}{ps:List Str}{ds:List Value}(n:Nat)(e:n+ds.length=ps.length)(h:∀s,K.In s.heap->∀us:List Value,us.length=n->BindsTo s fd ⟨us,[]⟩ (ps.zip (us++ds))):Binds K fd ps ds:=λs us X hl=>h s X us (by rw[List.length_append] at hl;lia)
theorem eX{C:List Value->Prop}(h:∀a0,C [a0]):∀us:List Value,us.length=1->C us:=cP λa0=>oE (h a0)
theorem eY{C:List Value->Prop}(h:∀a0 a1,C [a0,a1]):∀us:List Value,us.length=2->C us:=cP λa0=>cP λa1=>oE (h a0 a1)
theorem ku{C:List Value->Prop}(h:∀a0 a1 a2,C [a0,a1,a2]):∀us:List Value,us.length=3->C us:=cP λa0=>cP λa1=>cP λa2=>oE (h a0 a1 a2)
theorem mJ{C:List Value->Prop}(h:∀a0 a1 a2 a3,C [a0,a1,a2,a3]):∀us:List Value,us.length=4->C us:=cP λa0=>cP λa1=>cP λa2=>cP λa3=>oE (h a0 a1 a2 a3)
theorem S5{C:List Value->Prop}(h:∀a0 a1 a2 a3 a4,C [a0,a1,a2,a3,a4]):∀us:List Value,us.length=5->C us:=cP λa0=>cP λa1=>cP λa2=>cP λa3=>cP λa4=>oE (h a0 a1 a2 a3 a4)
theorem S6{C:List Value->Prop}(h:∀a0 a1 a2 a3 a4 a5,C [a0,a1,a2,a3,a4,a5]):∀us:List Value,us.length=6->C us:=cP λa0=>cP λa1=>cP λa2=>cP λa3=>cP λa4=>cP λa5=>oE (h a0 a1 a2 a3 a4 a5)
theorem adD{C:List Value->Prop}(h:∀a0 a1 a2 a3 a4 a5 a6 a7 a8 a9,C [a0,a1,a2,a3,a4,a5,a6,a7,a8,a9]):∀us:List Value,us.length=10->C us:=cP λa0=>cP λa1=>cP λa2=>cP λa3=>cP λa4=>cP λa5=>cP λa6=>cP λa7=>cP λa8=>cP λa9=>oE (h a0 a1 a2 a3 a4 a5 a6 a7 a8 a9)
theorem all_mk{l:W.OpenLaw}{w:World}{K:W.Frag}{h:Heap}{mg:Str->Option Value}{fa:Addr}{Ba Il Im Io Ip Bb Bc Iq Ir Iu Iv Iw Be Bf Bg Bh Bj Iz IA IB IC ID IE IF IG II IJ IK IL Bk Bl Bm Bo Bp Bq Br IM IP Bs IQ IS IT IU Bu Bv Bw By BA BB IV IW IX IY BC BD IZ I_ Ja Jb Jc Jd Je Jf Jg Jh Ji Jj:Addr}{adE Jk adF adG Jl adH adI Jm:Option Addr}{adJ adK adL adM adN:Array (Option Value)}{adO Jo Jp Jq BE Jr adP adQ Js Jt Ju BF Jv adR adS Jw Jx Jy BG Jz:Value}{adT adU:Nat}{S7 JA JC:Tok}{S8 vJ vK S9 S_ Tc Td Te Tf Tg Ti Tj Tn To Tp Tq Tr Tt Tu Tv Tw Tz TF TJ TL TM TN TQ TR TU TV TX TY TZ T3 T4 T5 T6 T7 T8 T9 T_ Ua Ub Uc Ud Ue Ug Uh Ui Uj Uk Ul Um Uo Up Uq Ur Ut Uu Uv Uw:FuncData}{bf:Addr}{bS:Addr}{bu:Addr}{bQ:Addr}{bw:Addr}{cY:Addr}{ji:Addr}{gI:Addr}{jk:Addr}{jm:Addr}{gJ:Addr}{jo:Addr}{aV:Addr}{gK:Addr}{gM:Addr}{gO:Addr}{sF:Tok}{sG:Tok}{sI:Tok}{sJ:Tok}{sM:Tok}{sN:Tok}{sO:Tok}{sQ:Tok}{sS:Tok}{sU:Tok}{sV:Tok}{sW:Tok}{sX:Tok}{sY:Tok}{sZ:Tok}(X:K.In h)(G:h.Ns mainGlobals mg)(hfa:mg "law" = some (.ref fa))
  (adV:W.nsIn K mainGlobals "ArmError" = some (some (.ref ji)))
  (adW:W.nsIn K mainGlobals "NoPlate" = some (some (.ref gI)))
  (adX:W.nsIn K mainGlobals "NoCell" = some (some (.ref jk)))
  (adY:W.nsIn K mainGlobals "NoSpare" = some (some (.ref jm)))
  (adZ:W.nsIn K mainGlobals "NoAsk" = some (some (.ref gJ)))
  (ad0:W.nsIn K mainGlobals "NoOrder" = some (some (.ref jo)))
  (ad1:W.nsIn K mainGlobals "NoRule" = some (some (.ref aV)))
  (ad2:W.nsIn K mainGlobals "TooMany" = some (some (.ref gK)))
  (ad3:W.nsIn K mainGlobals "NoLine" = some (some (.ref gM)))
  (ad4:W.nsIn K mainGlobals "NoBook" = some (some (.ref gO)))
  (ad5:W.nsIn K mainGlobals "Ask" = some (some (.ref bf)))
  (ad6:W.nsIn K mainGlobals "Shares" = some (some (.ref bS)))
  (ad7:W.nsIn K mainGlobals "Plate" = some (some (.ref bu)))
  (ad8:W.nsIn K mainGlobals "Due" = some (some (.ref bQ)))
  (ad9:W.nsIn K mainGlobals "Course" = some (some (.ref bw)))
  (ad_:W.nsIn K mainGlobals "Played" = some (some (.ref cY)))
  (ax0:W.findIn K (.ref bf) "__init__" = some (some (.ref Ba)))
  (ix0:W.isFn K (.ref Ba)=true)
  (F0:aF K "__init__" "Ask.__init__" D3 Ba S8)
  (ax1:W.nsIn K mainGlobals "check_between" = some (some (.ref Il)))
  (F1:aF K "check_between" "check_between" D4 Il vJ)
  (ax2:W.nsIn K mainGlobals "check_behind" = some (some (.ref Im)))
  (F2:aF K "check_behind" "check_behind" D5 Im vK)
  (ax3:W.nsIn K mainGlobals "check_fields" = some (some (.ref Io)))
  (F3:aF K "check_fields" "check_fields" D7 Io S9)
  (ax4:W.nsIn K mainGlobals "told_behind" = some (some (.ref Ip)))
  (F4:aF K "told_behind" "told_behind" D8 Ip S_)
  (ax5:W.nsIn K mainGlobals "reading" = some (some (.ref Bb)))
  (lx5:K.lookup Bb=some ⟨adO,adE,.func (W.fnOf "reading" "reading" (gr jf) (fc jf) (aN jf) (.ref Bc) Jo Jp Jq Jk BE Jr),adJ⟩)
  (dx5:K.lookup Bc=some ⟨adP,adF,.seq #[.int 0 S7,.none,.none] adT,adK⟩)
  (cx5:W.codeIn K BE "reading" = true)
  (kx5:W.keepIn K (.ref Bb)=true)
  (ax6:W.nsIn K mainGlobals "clash" = some (some (.ref Iq)))
  (F6:aF K "clash" "clash" D9 Iq Tc)
  (ax7:W.nsIn K mainGlobals "next_begin" = some (some (.ref Ir)))
  (F7:aF K "next_begin" "next_begin" D_ Ir Td)
  (ax8:W.nsIn K mainGlobals "way" = some (some (.ref Iu)))
  (F8:aF K "way" "way" Ea Iu Te)
  (ax9:W.nsIn K mainGlobals "check_shares" = some (some (.ref Iv)))
  (F9:aF K "check_shares" "check_shares" Eb Iv Tf)
  (aea:W.nsIn K mainGlobals "least_by_asker" = some (some (.ref Iw)))
  (Ux:aF K "least_by_asker" "least_by_asker" Ec Iw Tg)
  (aeb:W.findIn K (.ref bS) "__init__" = some (some (.ref Be)))
  (aec:W.isFn K (.ref Be)=true)
  (Uy:aF K "__init__" "Shares.__init__" Ef Be Ti)
  (aed:W.findIn K (.ref bS) "anew" = some (some (.ref Bf)))
  (aee:W.isFn K (.ref Bf)=true)
  (JD:aF K "anew" "Shares.anew" Eg Bf Tj)
  (aef:W.findIn K (.ref bS) "pick" = some (some (.ref Bg)))
  (aeg:W.isFn K (.ref Bg)=true)
  (JE:aF K "pick" "Shares.pick" Eh Bg Tn)
  (aeh:W.findIn K (.ref bS) "check_askers" = some (some (.ref Bh)))
  (aei:W.isFn K (.ref Bh)=true)
  (JF:aF K "check_askers" "Shares.check_askers" Ei Bh To)
  (aej:W.findIn K (.ref bS) "next_turn" = some (some (.ref Bj)))
  (aek:W.isFn K (.ref Bj)=true)
  (JG:aF K "next_turn" "Shares.next_turn" Ej Bj Tp)
  (ael:W.nsIn K mainGlobals "reads_of_cell_0" = some (some (.ref Iz)))
  (Uz:aF K "reads_of_cell_0" "reads_of_cell_0" Ek Iz Tq)
  (aem:W.nsIn K mainGlobals "share_of" = some (some (.ref IA)))
  (UA:aF K "share_of" "share_of" El IA Tr)
  (aen:W.nsIn K mainGlobals "turns_of_others" = some (some (.ref IB)))
  (UB:aF K "turns_of_others" "turns_of_others" Em IB Tt)
  (aeo:W.nsIn K mainGlobals "shares_bound" = some (some (.ref IC)))
  (UC:aF K "shares_bound" "shares_bound" En IC Tu)
  (aep:W.nsIn K mainGlobals "shares_row" = some (some (.ref ID)))
  (UD:aF K "shares_row" "shares_row" Eo ID Tv)
  (aer:W.nsIn K mainGlobals "check_zones" = some (some (.ref IE)))
  (UE:aF K "check_zones" "check_zones" Ep IE Tw)
  (aes:W.nsIn K mainGlobals "check_turning" = some (some (.ref IF)))
  (UG:aF K "check_turning" "check_turning" Er IF Tz)
  (aet:W.nsIn K mainGlobals "check_swing" = some (some (.ref IG)))
  (UH:aF K "check_swing" "check_swing" Es IG TF)
  (aeu:W.nsIn K mainGlobals "check_no_detour" = some (some (.ref II)))
  (UI:aF K "check_no_detour" "check_no_detour" Et II TJ)
  (aev:W.nsIn K mainGlobals "cells_by_ring" = some (some (.ref IJ)))
  (UJ:aF K "cells_by_ring" "cells_by_ring" Eu IJ TL)
  (aew:W.nsIn K mainGlobals "cells_by_number" = some (some (.ref IK)))
  (UK:aF K "cells_by_number" "cells_by_number" Ew IK TM)
  (aex:W.nsIn K mainGlobals "numbers_by_cell" = some (some (.ref IL)))
  (UL:aF K "numbers_by_cell" "numbers_by_cell" Ex IL TN)
  (aey:W.findIn K (.ref bu) "__init__" = some (some (.ref Bk)))
  (aez:W.isFn K (.ref Bk)=true)
  (UM:aF K "__init__" "Plate.__init__" Ey Bk TQ)
  (aeA:W.findIn K (.ref bu) "rings" = some (some (.ref Bl)))
  (aeB:W.isFn K (.ref Bl)=true)
  (JH:aF K "rings" "Plate.rings" Ez Bl TR)
  (aeC:W.findIn K (.ref bu) "beats_of" = some (some (.ref Bm)))
  (aeD:W.isFn K (.ref Bm)=true)
  (JI:aF K "beats_of" "Plate.beats_of" EA Bm TU)
  (aeE:W.findIn K (.ref bu) "lap_beats" = some (some (.ref Bo)))
  (aeF:W.isFn K (.ref Bo)=true)
  (JJ:aF K "lap_beats" "Plate.lap_beats" EB Bo TV)
  (aeG:W.findIn K (.ref bu) "begins" = some (some (.ref Bp)))
  (aeH:W.isFn K (.ref Bp)=true)
  (JK:aF K "begins" "Plate.begins" EC Bp TX)
  (aeI:W.findIn K (.ref bu) "swing_of" = some (some (.ref Bq)))
  (aeJ:W.isFn K (.ref Bq)=true)
  (JL:aF K "swing_of" "Plate.swing_of" ED Bq TY)
  (aeK:W.findIn K (.ref bu) "cell_at" = some (some (.ref Br)))
  (aeL:W.isFn K (.ref Br)=true)
  (JM:aF K "cell_at" "Plate.cell_at" EE Br TZ)
  (aeM:W.nsIn K mainGlobals "stretch" = some (some (.ref IM)))
  (UN:aF K "stretch" "stretch" EF IM T3)
  (aeN:W.nsIn K mainGlobals "stretch_by_number" = some (some (.ref IP)))
  (UO:aF K "stretch_by_number" "stretch_by_number" EG IP T4)
  (aeO:W.findIn K (.ref bQ) "__init__" = some (some (.ref Bs)))
  (aeP:W.isFn K (.ref Bs)=true)
  (UP:aF K "__init__" "Due.__init__" EH Bs T5)
  (aeQ:W.nsIn K mainGlobals "check_beat" = some (some (.ref IQ)))
  (UQ:aF K "check_beat" "check_beat" EI IQ T6)
  (aeR:W.nsIn K mainGlobals "check_told" = some (some (.ref IS)))
  (UR:aF K "check_told" "check_told" EJ IS T7)
  (aeS:W.nsIn K mainGlobals "kept_behind" = some (some (.ref IT)))
  (US:aF K "kept_behind" "kept_behind" EK IT T8)
  (aeT:W.nsIn K mainGlobals "orders" = some (some (.ref IU)))
  (UT:aF K "orders" "orders" EL IU T9)
  (aeU:W.findIn K (.ref bw) "__init__" = some (some (.ref Bu)))
  (aeV:W.isFn K (.ref Bu)=true)
  (UU:aF K "__init__" "Course.__init__" EM Bu T_)
  (aeW:W.findIn K (.ref bw) "stay" = some (some (.ref Bv)))
  (aeX:W.isFn K (.ref Bv)=true)
  (JN:aF K "stay" "Course.stay" EN Bv Ua)
  (aeY:W.findIn K (.ref bw) "has_to_wait" = some (some (.ref Bw)))
  (aeZ:W.isFn K (.ref Bw)=true)
  (JO:aF K "has_to_wait" "Course.has_to_wait" EO Bw Ub)
  (ae0:W.findIn K (.ref bw) "ready" = some (some (.ref By)))
  (ae1:W.isFn K (.ref By)=true)
  (JP:aF K "ready" "Course.ready" ER By Uc)
  (ae2:W.findIn K (.ref bw) "take" = some (some (.ref BA)))
  (ae3:W.isFn K (.ref BA)=true)
  (JQ:aF K "take" "Course.take" ES BA Ud)
  (ae4:W.findIn K (.ref cY) "__init__" = some (some (.ref BB)))
  (ae5:W.isFn K (.ref BB)=true)
  (UW:aF K "__init__" "Played.__init__" ET BB Ue)
  (ae6:W.nsIn K mainGlobals "last_ends" = some (some (.ref IV)))
  (UX:aF K "last_ends" "last_ends" EU IV Ug)
  (ae7:W.nsIn K mainGlobals "numbers_of" = some (some (.ref IW)))
  (UY:aF K "numbers_of" "numbers_of" EV IW Uh)
  (ae8:W.nsIn K mainGlobals "answers_of" = some (some (.ref IX)))
  (UZ:aF K "answers_of" "answers_of" EW IX Ui)
  (ae9:W.nsIn K mainGlobals "told_of" = some (some (.ref IY)))
  (U0:aF K "told_of" "told_of" EX IY Uj)
  (ae_:W.nsIn K mainGlobals "play" = some (some (.ref BC)))
  (afa:K.lookup BC=some ⟨adQ,adG,.func (W.fnOf "play" "play" (gr jg) (fc jg) (aN jg) (.ref BD) Js Jt Ju Jl BF Jv),adL⟩)
  (afb:K.lookup BD=some ⟨adR,adH,.seq #[.int 0 JA,.int 0 JC] adU,adM⟩)
  (afc:W.codeIn K BF "play" = true)
  (afd:W.keepIn K (.ref BC)=true)
  (afe:W.nsIn K mainGlobals "_law_cell" = some (some (.ref IZ)))
  (U1:aF K "_law_cell" "_law_cell" EY IZ Uk)
  (afg:W.nsIn K mainGlobals "_law_draw" = some (some (.ref I_)))
  (U3:aF K "_law_draw" "_law_draw" EZ I_ Ul)
  (afh:W.nsIn K mainGlobals "_law_swing" = some (some (.ref Ja)))
  (U4:aF K "_law_swing" "_law_swing" E1 Ja Um)
  (afi:W.nsIn K mainGlobals "_law_zones" = some (some (.ref Jb)))
  (U5:aF K "_law_zones" "_law_zones" E3 Jb Uo)
  (afj:W.nsIn K mainGlobals "_law_made_plate" = some (some (.ref Jc)))
  (U6:aF K "_law_made_plate" "_law_made_plate" E4 Jc Up)
  (afk:W.nsIn K mainGlobals "_law_askers" = some (some (.ref Jd)))
  (U7:aF K "_law_askers" "_law_askers" E5 Jd Uq)
  (afl:W.nsIn K mainGlobals "_law_no" = some (some (.ref Je)))
  (U8:aF K "_law_no" "_law_no" E6 Je Ur)
  (afm:W.nsIn K mainGlobals "_law_counted" = some (some (.ref Jf)))
  (U9:aF K "_law_counted" "_law_counted" E7 Jf Ut)
  (afn:W.nsIn K mainGlobals "_law_refused" = some (some (.ref Jg)))
  (U_:aF K "_law_refused" "_law_refused" E8 Jg Uu)
  (afo:W.nsIn K mainGlobals "_law_bad" = some (some (.ref Jh)))
  (Va:aF K "_law_bad" "_law_bad" E9 Jh Uv)
  (afp:W.nsIn K mainGlobals "_law_rows" = some (some (.ref Ji)))
  (Vb:aF K "_law_rows" "_law_rows" E_ Ji Uw)
  (Vc:W.nsIn K mainGlobals "law" = some (some (.ref Jj)))
  (afq:K.lookup Jj=some ⟨adS,adI,.func (W.fnOf "law" "law" (gr jh) (fc jh) (aN jh) .none Jw Jx Jy Jm BG Jz),adN⟩)
  (afr:W.codeIn K BG "law" = true)
  (afs:W.keepIn K (.ref Jj)=true)
  (aft:W.plainGet K bf Str.empty=true)
  (afu:W.hasDictIn K bf=true)
  (afv:W.plainOver K bf=true)
  (afw:W.findIn K (.ref bf) "__setattr__" = some (some (.builtin "object.__setattr__")))
  (afx:W.makesIn K bf=true)
  (afy:W.keepIn K (.ref bf)=true)
  (tu:W.findIn K (.ref bf) "kind" = some none)
  (GG:W.findIn K (.ref bf) "first" = some none)
  (GH:W.findIn K (.ref bf) "many" = some none)
  (GI:W.findIn K (.ref bf) "marks" = some none)
  (nW:W.findIn K (.ref bf) "at" = some none)
  (z7:W.findIn K (.ref bf) "asker" = some none)
  (GJ:W.findIn K (.ref bf) "latest" = some none)
  (tD:W.findIn K (.ref bf) "behind" = some none)
  (GK:W.findIn K (.ref bf) "early" = some none)
  (afz:W.plainGet K bS Str.empty=true)
  (afA:W.hasDictIn K bS=true)
  (afB:W.plainOver K bS=true)
  (afC:W.findIn K (.ref bS) "__setattr__" = some (some (.builtin "object.__setattr__")))
  (afD:W.makesIn K bS=true)
  (afE:W.keepIn K (.ref bS)=true)
  (GL:W.findIn K (.ref bS) "pairs" = some none)
  (tE:W.findIn K (.ref bS) "turn" = some none)
  (tF:W.findIn K (.ref bS) "used" = some none)
  (afF:W.plainGet K bu Str.empty=true)
  (afG:W.hasDictIn K bu=true)
  (afH:W.plainOver K bu=true)
  (afI:W.findIn K (.ref bu) "__setattr__" = some (some (.builtin "object.__setattr__")))
  (afJ:W.makesIn K bu=true)
  (afK:W.keepIn K (.ref bu)=true)
  (z8:W.findIn K (.ref bu) "ring_cells" = some none)
  (z9:W.findIn K (.ref bu) "lap" = some none)
  (z_:W.findIn K (.ref bu) "skew" = some none)
  (Aa:W.findIn K (.ref bu) "swing" = some none)
  (Ab:W.findIn K (.ref bu) "number_cells" = some none)
  (Ac:W.findIn K (.ref bu) "cell_numbers" = some none)
  (afL:W.plainGet K bQ Str.empty=true)
  (afM:W.hasDictIn K bQ=true)
  (afN:W.plainOver K bQ=true)
  (afO:W.findIn K (.ref bQ) "__setattr__" = some (some (.builtin "object.__setattr__")))
  (afP:W.makesIn K bQ=true)
  (afQ:W.keepIn K (.ref bQ)=true)
  (GN:W.findIn K (.ref bQ) "number" = some none)
  (GO:W.findIn K (.ref bQ) "ask" = some none)
  (Ad:W.findIn K (.ref bQ) "cells" = some none)
  (afR:W.plainGet K bw Str.empty=true)
  (afS:W.hasDictIn K bw=true)
  (afT:W.plainOver K bw=true)
  (afU:W.findIn K (.ref bw) "__setattr__" = some (some (.builtin "object.__setattr__")))
  (afV:W.makesIn K bw=true)
  (afW:W.keepIn K (.ref bw)=true)
  (GP:W.findIn K (.ref bw) "keeping" = some none)
  (GQ:W.findIn K (.ref bw) "plate" = some none)
  (Ae:W.findIn K (.ref bw) "ring" = some none)
  (tG:W.findIn K (.ref bw) "beat" = some none)
  (Af:W.findIn K (.ref bw) "left" = some none)
  (afX:W.plainGet K cY Str.empty=true)
  (afY:W.hasDictIn K cY=true)
  (afZ:W.plainOver K cY=true)
  (af0:W.findIn K (.ref cY) "__setattr__" = some (some (.builtin "object.__setattr__")))
  (af1:W.makesIn K cY=true)
  (af2:W.keepIn K (.ref cY)=true)
  (GR:W.findIn K (.ref cY) "rows" = some none)
  (Ag:W.findIn K (.ref cY) "taken" = some none)
  (GS:W.findIn K (.ref cY) "told" = some none)
  (GU:W.findIn K (.ref cY) "answers" = some none)
  (GV:W.findIn K (.ref cY) "end" = some none)
  (af3:W.nsIn K mainGlobals "MOST_CELLS" = some (some (.int 16 sF)))
  (af4:W.nsIn K mainGlobals "GREATEST_FIRST" = some (some (.int 1000000 sG)))
  (af5:W.nsIn K mainGlobals "GREATEST_AT" = some (some (.int 1000000000000 sI)))
  (af6:W.nsIn K mainGlobals "GREATEST_ASKER_asks" = some (some (.int 20 sJ)))
  (af7:W.nsIn K mainGlobals "GREATEST_LATEST" = some (some (.int 10000000000000 sM)))
  (af8:W.nsIn K mainGlobals "GREATEST_BEHIND" = some (some (.int 99 sN)))
  (af9:W.nsIn K mainGlobals "MOST_PAIRS" = some (some (.int 4 sO)))
  (af_:W.nsIn K mainGlobals "GREATEST_ASKER_shares" = some (some (.int 20 sQ)))
  (aga:W.nsIn K mainGlobals "GREATEST_SHARE" = some (some (.int 4 sS)))
  (agb:W.nsIn K mainGlobals "MOST_ZONES" = some (some (.int 5 sU)))
  (agc:W.nsIn K mainGlobals "MOST_RINGS_IN_ZONE" = some (some (.int 40 sV)))
  (agd:W.nsIn K mainGlobals "MOST_CELLS_IN_RING" = some (some (.int 60 sW)))
  (age:W.nsIn K mainGlobals "LEAST_RINGS" = some (some (.int 2 sX)))
  (agf:W.nsIn K mainGlobals "MOST_RINGS" = some (some (.int 120 sY)))
  (agg:W.nsIn K mainGlobals "MOST_BEATS" = some (some (.int 1000000000 sZ)))
  (Ah:W.nsIn K mainGlobals "abs" = some none)
  (Ai:W.nsIn K mainGlobals "any" = some none)
  (tH:W.nsIn K mainGlobals "bool" = some none)
  (GX:W.nsIn K mainGlobals "dict" = some none)
  (mj:W.nsIn K mainGlobals "enumerate" = some none)
  (Aj:W.nsIn K mainGlobals "int" = some none)
  (jJ:W.nsIn K mainGlobals "isinstance" = some none)
  (dU:W.nsIn K mainGlobals "len" = some none)
  (nX:W.nsIn K mainGlobals "list" = some none)
  (Al:W.nsIn K mainGlobals "max" = some none)
  (tK:W.nsIn K mainGlobals "min" = some none)
  (eW:W.nsIn K mainGlobals "range" = some none)
  (Am:W.nsIn K mainGlobals "sorted" = some none)
  (pW:W.nsIn K mainGlobals "sum" = some none)
  (pX:W.nsIn K mainGlobals "tuple" = some none)
  (Ao:W.excIn K ji [.type "ValueError",.type "Exception",.type "BaseException",.type "object"] "ValueError.__new__" = true)
  (Aq:W.excIn K gI [.type "ValueError",.type "Exception",.type "BaseException",.type "object"] "ValueError.__new__" = true)
  (As:W.excIn K gJ [.type "ValueError",.type "Exception",.type "BaseException",.type "object"] "ValueError.__new__" = true)
  (kj:W.excIn K aV [.type "ValueError",.type "Exception",.type "BaseException",.type "object"] "ValueError.__new__" = true)
  (agh:W.findIn K (.ref aV) "__getattribute__" = some (some (.builtin "BaseException.__getattribute__")))
  (agi:W.findIn K (.ref aV) "__getattr__" = some none)
  (agj:W.mroIn K aV (.type "BaseException")=some true)
  (Vd:W.mroIn K aV (.type "object")=some true)
  (agk:W.findIn K (.ref aV) "__class__" = some (some (.builtin "object.__class__")))
  (AG:W.kitOne K (.ref aV) (.type "ValueError")=some true)
  (GY:W.kitOne K (.ref aV) (.ref ji)=some true)
  (agl:W.mroIn K aV (.ref ji)=some true)
  (Aw:W.kitOne K (.ref aV) (.ref gI)=some false)
  (agm:W.mroIn K aV (.ref gI)=some false)
  (Ax:W.kitOne K (.ref aV) (.ref jk)=some false)
  (agn:W.mroIn K aV (.ref jk)=some false)
  (Ay:W.kitOne K (.ref aV) (.ref jm)=some false)
  (ago:W.mroIn K aV (.ref jm)=some false)
  (Az:W.kitOne K (.ref aV) (.ref gJ)=some false)
  (agp:W.mroIn K aV (.ref gJ)=some false)
  (AA:W.kitOne K (.ref aV) (.ref jo)=some false)
  (agq:W.mroIn K aV (.ref jo)=some false)
  (AB:W.kitOne K (.ref aV) (.ref aV)=some true)
  (agr:W.mroIn K aV (.ref aV)=some true)
  (AD:W.kitOne K (.ref aV) (.ref gK)=some false)
  (ags:W.mroIn K aV (.ref gK)=some false)
  (AE:W.kitOne K (.ref aV) (.ref gM)=some false)
  (agt:W.mroIn K aV (.ref gM)=some false)
  (AF:W.kitOne K (.ref aV) (.ref gO)=some false)
  (agu:W.mroIn K aV (.ref gO)=some false)
  (AH:W.excIn K gK [.type "ValueError",.type "Exception",.type "BaseException",.type "object"] "ValueError.__new__" = true)
  (AI:W.excIn K gM [.type "ValueError",.type "Exception",.type "BaseException",.type "object"] "ValueError.__new__" = true)
  (AJ:W.excIn K gO [.type "ValueError",.type "Exception",.type "BaseException",.type "object"] "ValueError.__new__" = true)
  (agv:W.specialIn K (.builtin "object.__class__") "__get__" = some (some (.builtin "getset_descriptor.__get__")))
  (agw:W.takesIn K (.builtin "object.__class__")=some true)
  (An:W.nsIn K mainGlobals "ValueError" = some none)
  : ∃fd:FuncData,(∀(s:Shared) (v:Value),BindsTo s fd ⟨[v],[]⟩ [("_law_script",v)])/\∀base:Heap,K.In base->base.Ns mainGlobals mg->aR l.prog w K mg base a_ 9 fa fd ["_law_script"] (vg K):=by
 have e:=hfa.symm.trans (W.mg_of X G Vc);cases e;have F5:=L8 (st:=jf) lx5 cx5 kx5;have F52:=L8 (st:=jg) afa afc afd;have Ve:=fun_mk (st:=jh) afq afr afs;have b0:=F0.binds (ps:=["self", "kind", "first", "many", "marks", "at", "asker", "latest", "behind", "early"]) λ_ _ _ _ _ _=>adD (λ_ _ _ _ _ _ _ _ _ _=>rfl)
 have b1:=F1.binds (ps:=["number", "least", "greatest", "words"]) λ_ _ _ _ _ _=>mJ (λ_ _ _ _=>rfl);have b2:=F2.binds (ps:=["behind"]) λ_ _ _ _ _ _=>eX (λ_=>rfl)
 have b3:=F3.binds (ps:=["first", "many", "at", "asker", "latest", "behind"]) λ_ _ _ _ _ _=>S6 (λ_ _ _ _ _ _=>rfl)
 have b4:=F4.binds (ps:=["behind"]) λ_ _ _ _ _ _=>eX (λ_=>rfl)
 have agx:Binds K (W.fnOf "reading" "reading" (gr jf) (fc jf) (aN jf) (.ref Bc) Jo Jp Jq Jk BE Jr) ["first", "many", "at", "asker", "latest", "behind"] [.none,.none]:=S4 4 rfl λs X=>mJ λ_ _ _ _=>W.binds_K X rfl dx5 rfl rfl rfl
 have b6:=F6.binds (ps:=["one", "other"]) λ_ _ _ _ _ _=>eY (λ_ _=>rfl);have b7:=F7.binds (ps:=["plate", "ring", "place", "beat"]) λ_ _ _ _ _ _=>mJ (λ_ _ _ _=>rfl);have b8:=F8.binds (ps:=["plate", "ring", "beat", "cells"]) λ_ _ _ _ _ _=>mJ (λ_ _ _ _=>rfl);have b9:=F9.binds (ps:=["shares"]) λ_ _ _ _ _ _=>eX (λ_=>rfl)
 have b10:=Ux.binds (ps:=["dues"]) λ_ _ _ _ _ _=>eX (λ_=>rfl)
 have b11:=Uy.binds (ps:=["self", "shares"]) λ_ _ _ _ _ _=>eY (λ_ _=>rfl);have b12:=JD.binds (ps:=["self"]) λ_ _ _ _ _ _=>eX (λ_=>rfl)
 have b13:=JE.binds (ps:=["self", "plate", "ring", "beat", "dues"]) λ_ _ _ _ _ _=>S5 (λ_ _ _ _ _=>rfl);have b14:=JF.binds (ps:=["self", "least"]) λ_ _ _ _ _ _=>eY (λ_ _=>rfl);have RN:=JG.binds (ps:=["self", "least"]) λ_ _ _ _ _ _=>eY (λ_ _=>rfl);have b16:=Uz.binds (ps:=["count", "at", "asker"]) λ_ _ _ _ _ _=>ku (λ_ _ _=>rfl);have b17:=UA.binds (ps:=["shares", "asker"]) λ_ _ _ _ _ _=>eY (λ_ _=>rfl);have b18:=UB.binds (ps:=["share", "ahead"]) λ_ _ _ _ _ _=>eY (λ_ _=>rfl);have b19:=UC.binds (ps:=["shares", "asker", "ahead"]) λ_ _ _ _ _ _=>ku (λ_ _ _=>rfl);have b20:=UD.binds (ps:=["plate", "shares", "asker", "ahead"]) λ_ _ _ _ _ _=>mJ (λ_ _ _ _=>rfl);have Hi:=UE.binds (ps:=["zones"]) λ_ _ _ _ _ _=>eX (λ_=>rfl)
 have b22:=UG.binds (ps:=["zones", "lap", "skew"]) λ_ _ _ _ _ _=>ku (λ_ _ _=>rfl);have b23:=UH.binds (ps:=["swing", "rings"]) λ_ _ _ _ _ _=>eY (λ_ _=>rfl);have b24:=UI.binds (ps:=["swing"]) λ_ _ _ _ _ _=>eX (λ_=>rfl)
 have b25:=UJ.binds (ps:=["zones"]) λ_ _ _ _ _ _=>eX (λ_=>rfl)
 have b26:=UK.binds (ps:=["ring_cells", "spares"]) λ_ _ _ _ _ _=>eY (λ_ _=>rfl);have b27:=UL.binds (ps:=["number_cells"]) λ_ _ _ _ _ _=>eX (λ_=>rfl)
 have b28:=UM.binds (ps:=["self", "zones", "lap", "skew", "swing"]) λ_ _ _ _ _ _=>S5 (λ_ _ _ _ _=>rfl);have b29:=JH.binds (ps:=["self"]) λ_ _ _ _ _ _=>eX (λ_=>rfl)
 have b30:=JI.binds (ps:=["self", "ring"]) λ_ _ _ _ _ _=>eY (λ_ _=>rfl);have b31:=JJ.binds (ps:=["self"]) λ_ _ _ _ _ _=>eX (λ_=>rfl)
 have Dt:=JK.binds (ps:=["self", "ring", "place"]) λ_ _ _ _ _ _=>ku (λ_ _ _=>rfl);have b33:=JL.binds (ps:=["self", "ring", "other"]) λ_ _ _ _ _ _=>ku (λ_ _ _=>rfl);have b34:=JM.binds (ps:=["self", "number"]) λ_ _ _ _ _ _=>eY (λ_ _=>rfl);have b35:=UN.binds (ps:=["plate", "ask"]) λ_ _ _ _ _ _=>eY (λ_ _=>rfl);have b36:=UO.binds (ps:=["plate", "number", "ask"]) λ_ _ _ _ _ _=>ku (λ_ _ _=>rfl);have b37:=UP.binds (ps:=["self", "plate", "number", "ask"]) λ_ _ _ _ _ _=>mJ (λ_ _ _ _=>rfl);have b38:=UQ.binds (ps:=["asks", "number"]) λ_ _ _ _ _ _=>eY (λ_ _=>rfl);have b39:=UR.binds (ps:=["asks", "number"]) λ_ _ _ _ _ _=>eY (λ_ _=>rfl);have b40:=US.binds (ps:=["asks", "number"]) λ_ _ _ _ _ _=>eY (λ_ _=>rfl);have b41:=UT.binds (ps:=["plate", "asks"]) λ_ _ _ _ _ _=>eY (λ_ _=>rfl);have b42:=UU.binds (ps:=["self", "plate", "asks", "ring"]) λ_ _ _ _ _ _=>mJ (λ_ _ _ _=>rfl);have b43:=JN.binds (ps:=["self"]) λ_ _ _ _ _ _=>eX (λ_=>rfl)
 have b44:=JO.binds (ps:=["self", "number"]) λ_ _ _ _ _ _=>eY (λ_ _=>rfl);have b45:=JP.binds (ps:=["self"]) λ_ _ _ _ _ _=>eX (λ_=>rfl)
 have b46:=JQ.binds (ps:=["self", "number"]) λ_ _ _ _ _ _=>eY (λ_ _=>rfl);have b47:=UW.binds (ps:=["self", "rows", "taken", "told", "answers", "end"]) λ_ _ _ _ _ _=>S6 (λ_ _ _ _ _ _=>rfl);have b48:=UX.binds (ps:=["rows"]) λ_ _ _ _ _ _=>eX (λ_=>rfl)
 have b49:=UY.binds (ps:=["ask"]) λ_ _ _ _ _ _=>eX (λ_=>rfl)
 have b50:=UZ.binds (ps:=["asks", "picks"]) λ_ _ _ _ _ _=>eY (λ_ _=>rfl);have b51:=U0.binds (ps:=["asks", "ends", "shelf"]) λ_ _ _ _ _ _=>ku (λ_ _ _=>rfl);have agy:Binds K (W.fnOf "play" "play" (gr jg) (fc jg) (aN jg) (.ref BD) Js Jt Ju Jl BF Jv) ["plate", "asks", "rule", "ring", "shelf"] [.int 0 JA,.int 0 JC]:=S4 3 rfl λs X=>ku λ_ _ _=>W.binds_K X rfl afb rfl rfl rfl;have b53:=U1.binds (ps:=["_law_script", "_law_k"]) λ_ _ _ _ _ _=>eY (λ_ _=>rfl);have b54:=U3.binds (ps:=["_law_cell_here", "_law_turn", "_law_many"]) λ_ _ _ _ _ _=>ku (λ_ _ _=>rfl);have b55:=U4.binds (ps:=["_law_cell_here", "_law_rings"]) λ_ _ _ _ _ _=>eY (λ_ _=>rfl);have b56:=U5.binds (ps:=["_law_cell_here"]) λ_ _ _ _ _ _=>eX (λ_=>rfl)
 have b57:=U6.binds (ps:=["_law_script"]) λ_ _ _ _ _ _=>eX (λ_=>rfl)
 have b58:=U7.binds (ps:=["_law_cell_here"]) λ_ _ _ _ _ _=>eX (λ_=>rfl)
 have b59:=U8.binds (ps:=["_law_e"]) λ_ _ _ _ _ _=>eX (λ_=>rfl)
 have b60:=U9.binds (ps:=["_law_row", "_law_taken", "_law_k"]) λ_ _ _ _ _ _=>ku (λ_ _ _=>rfl);have b61:=U_.binds (ps:=["_law_plate", "_law_shares", "_law_asker", "_law_ahead"]) λ_ _ _ _ _ _=>mJ (λ_ _ _ _=>rfl);have b62:=Va.binds (ps:=["_law_cell_here", "_law_shares"]) λ_ _ _ _ _ _=>eY (λ_ _=>rfl);have b63:=Vb.binds (ps:=["_law_found"]) λ_ _ _ _ _ _=>eX (λ_=>rfl)
 have b64:=Ve.binds (ps:=["_law_script"]) λ_ _ _ _ _ _=>eX (λ_=>rfl)
 let A:j_:={ wK:=Ba,wL:=S8,wM:=Il,wN:=vJ,wO:=Im,wQ:=vK,wR:=Io,wU:=S9,wV:=Ip,wW:=S_,wX:=Bb,wY:=(W.fnOf "reading" "reading" (gr jf) (fc jf) (aN jf) (.ref Bc) Jo Jp Jq Jk BE Jr),acd:=S7,wZ:=Iq,w6:=Tc,w_:=Ir,xg:=Td,xh:=Iu,xj:=Te,xm:=Iv,xq:=Tf,xr:=Iw,xu:=Tg,xw:=Be,xy:=Ti,xA:=Bf,xB:=Tj,xC:=Bg,xE:=Tn,xF:=Bh,xG:=To,xH:=Bj,xJ:=Tp,xK:=Iz,xM:=Tq,xN:=IA,xO:=Tr,xP:=IB,xQ:=Tt,xR:=IC,xS:=Tu,xT:=ID,xU:=Tv,xV:=IE,xW:=Tw,xX:=IF,xY:=Tz,xZ:=IG,x6:=TF,x8:=II,x9:=TJ,x_:=IJ,yc:=TL,yd:=IK,yf:=TM,yg:=IL,yh:=TN,yi:=Bk,yj:=TQ,sf:=Bl,yl:=TR,su:=Bm,ym:=TU,sy:=Bo,yp:=TV,sC:=Bp,yq:=TX,sD:=Bq,yr:=TY,sE:=Br,yt:=TZ,yu:=IM,yw:=T3,yx:=IP,yy:=T4,yz:=Bs,yC:=T5,yD:=IQ,yE:=T6,yF:=IS,yG:=T7,yH:=IT,yI:=T8,yJ:=IU,yK:=T9,yL:=Bu,yM:=T_,yN:=Bv,yO:=Ua,yP:=Bw,yQ:=Ub,yR:=By,yS:=Uc,yT:=BA,yU:=Ud,yV:=BB,yW:=Ue,yX:=IV,yY:=Ug,yZ:=IW,y_:=Uh,zb:=IX,zc:=Ui,zd:=IY,ze:=Uj,zg:=BC,zh:=(W.fnOf "play" "play" (gr jg) (fc jg) (aN jg) (.ref BD) Js Jt Ju Jl BF Jv),Fq:=JA,Ft:=JC,zj:=IZ,zm:=Uk,zo:=I_,zq:=Ul,zu:=Ja,zw:=Um,zx:=Jb,zy:=Uo,zA:=Jc,zB:=Up,zC:=Jd,zD:=Uq,zE:=Je,zF:=Ur,zG:=Jf,zH:=Ut,zI:=Jg,zJ:=Uu,zK:=Jh,zL:=Uv,zM:=Ji,zN:=Uw,zO:=fa,zP:=(W.fnOf "law" "law" (gr jh) (fc jh) (aN jh) .none Jw Jx Jy Jm BG Jz),bf:=bf,bS:=bS,bu:=bu,bQ:=bQ,bw:=bw,cY:=cY,ji:=ji,gI:=gI,jk:=jk,jm:=jm,gJ:=gJ,jo:=jo,aV:=aV,gK:=gK,gM:=gM,gO:=gO,sF:=sF,sG:=sG,sI:=sI,sJ:=sJ,sM:=sM,sN:=sN,sO:=sO,sQ:=sQ,sS:=sS,sU:=sU,sV:=sV,sW:=sW,sX:=sX,sY:=sY,sZ:=sZ }
 have T:Tx K mg A:={ N_:=F0,Oa:=b0,l8:=F1,nQ:=b1,nU:=W.mg_of X G ax1,Fv:=F2,Ob:=b2,Oc:=W.mg_of X G ax2,Fw:=F3,Od:=b3,Oe:=W.mg_of X G ax3,Fx:=F4,Of:=b4,Og:=W.mg_of X G ax4,Fy:=F5,Oh:=agx,Oi:=W.mg_of X G ax5,Fz:=F6,Oj:=b6,Ol:=W.mg_of X G ax6,FA:=F7,Om:=b7,Oo:=W.mg_of X G ax7,FD:=F8,Oq:=b8,Ot:=W.mg_of X G ax8,zQ:=F9,FE:=b9,FF:=W.mg_of X G ax9,FG:=Ux,Ou:=b10,Ov:=W.mg_of X G aea,Ow:=Uy,Ox:=b11,Oz:=JD,FH:=b12,FI:=⟨aed,aee,JD.kp⟩,OA:=JE,OB:=b13,OC:=⟨aef,aeg,JE.kp⟩,OD:=JF,OE:=b14,OF:=⟨aeh,aei,JF.kp⟩,OG:=JG,OH:=RN,OI:=⟨aej,aek,JG.kp⟩,s_:=Uz,zR:=b16,zS:=W.mg_of X G ael,zT:=UA,FJ:=b17,FL:=W.mg_of X G aem,zU:=UB,FN:=b18,FO:=W.mg_of X G aen,zW:=UC,FP:=b19,FQ:=W.mg_of X G aeo,zX:=UD,FT:=b20,FU:=W.mg_of X G aep,FW:=UE,OJ:=Hi,OL:=W.mg_of X G aer,FY:=UG,OM:=b22,ON:=W.mg_of X G aes,FZ:=UH,OO:=b23,OP:=W.mg_of X G aet,F_:=UI,OQ:=b24,OR:=W.mg_of X G aeu,Ga:=UJ,OS:=b25,OT:=W.mg_of X G aev,Gb:=UK,OU:=b26,OV:=W.mg_of X G aew,Gd:=UL,OW:=b27,OX:=W.mg_of X G aex,OY:=UM,OZ:=b28,O0:=JH,ace:=b29,O1:=⟨aeA,aeB,JH.kp⟩,O2:=JI,Ge:=b30,O3:=⟨aeC,aeD,JI.kp⟩,O4:=JJ,Gf:=b31,O5:=⟨aeE,aeF,JJ.kp⟩,O6:=JK,O7:=Dt,O8:=⟨aeG,aeH,JK.kp⟩,O9:=JL,O_:=b33,Pa:=⟨aeI,aeJ,JL.kp⟩,Pb:=JM,Pc:=b34,Pd:=⟨aeK,aeL,JM.kp⟩,Gg:=UN,Pe:=b35,Pf:=W.mg_of X G aeM,zY:=UO,Gh:=b36,Gi:=W.mg_of X G aeN,Pg:=UP,Ph:=b37,Gj:=UQ,Pj:=b38,Pn:=W.mg_of X G aeQ,Gk:=UR,Po:=b39,Pp:=W.mg_of X G aeR,Gm:=US,Pq:=b40,Pr:=W.mg_of X G aeS,Gn:=UT,Pu:=b41,Pw:=W.mg_of X G aeT,Px:=UU,Py:=b42,Pz:=JN,PB:=b43,PD:=⟨aeW,aeX,JN.kp⟩,PF:=JO,PJ:=b44,PL:=⟨aeY,aeZ,JO.kp⟩,PM:=JP,PN:=b45,PR:=⟨ae0,ae1,JP.kp⟩,PU:=JQ,PV:=b46,PX:=⟨ae2,ae3,JQ.kp⟩,PY:=UW,PZ:=b47,Gp:=UX,P0:=b48,P1:=W.mg_of X G ae6,Gq:=UY,P4:=b49,P5:=W.mg_of X G ae7,Gr:=UZ,P6:=b50,P7:=W.mg_of X G ae8,Gs:=U0,P8:=b51,P9:=W.mg_of X G ae9,Gu:=F52,P_:=agy,Qa:=W.mg_of X G ae_,kX:=U1,l9:=b53,l_:=W.mg_of X G afe,dh:=U3,dD:=b54,dF:=W.mg_of X G afg,Gv:=U4,Qc:=b55,Qd:=W.mg_of X G afh,Gw:=U5,Qe:=b56,Qf:=W.mg_of X G afi,Gx:=U6,Qg:=b57,Qh:=W.mg_of X G afj,Gy:=U7,Qi:=b58,Qj:=W.mg_of X G afk,Gz:=U8,Qk:=b59,Ql:=W.mg_of X G afl,GA:=U9,Qm:=b60,Qn:=W.mg_of X G afm,zZ:=U_,GB:=b61,GC:=W.mg_of X G afn,GD:=Va,Qo:=b62,Qp:=W.mg_of X G afo,GF:=Vb,Qq:=b63,Qs:=W.mg_of X G afp,Qt:=Ve,acf:=b64,acg:=W.mg_of X G Vc,kg:=⟨aft,afu,afv,afw⟩,Qu:=⟨afx,ax0,ix0,afy⟩,Qv:=W.mg_of X G ad5,tu:=tu,GG:=GG,GH:=GH,GI:=GI,nW:=nW,z7:=z7,GJ:=GJ,tD:=tD,GK:=GK,ki:=⟨afz,afA,afB,afC⟩,Qw:=⟨afD,aeb,aec,afE⟩,Qx:=W.mg_of X G ad6,GL:=GL,tE:=tE,tF:=tF,mh:=⟨afF,afG,afH,afI⟩,Qy:=⟨afJ,aey,aez,afK⟩,Qz:=W.mg_of X G ad7,z8:=z8,z9:=z9,z_:=z_,Aa:=Aa,Ab:=Ab,Ac:=Ac,QA:=⟨afL,afM,afN,afO⟩,QB:=⟨afP,aeO,aeP,afQ⟩,QC:=W.mg_of X G ad8,GN:=GN,GO:=GO,Ad:=Ad,kY:=⟨afR,afS,afT,afU⟩,QD:=⟨afV,aeU,aeV,afW⟩,QE:=W.mg_of X G ad9,GP:=GP,GQ:=GQ,Ae:=Ae,tG:=tG,Af:=Af,QF:=⟨afX,afY,afZ,af0⟩,QG:=⟨af1,ae4,ae5,af2⟩,QH:=W.mg_of X G ad_,GR:=GR,Ag:=Ag,GS:=GS,GU:=GU,GV:=GV,QI:=W.mg_of X G af3,QJ:=W.mg_of X G af4,QK:=W.mg_of X G af5,QL:=W.mg_of X G af6,QM:=W.mg_of X G af7,QN:=W.mg_of X G af8,QO:=W.mg_of X G af9,QS:=W.mg_of X G af_,QT:=W.mg_of X G aga,QU:=W.mg_of X G agb,QV:=W.mg_of X G agc,QW:=W.mg_of X G agd,QX:=W.mg_of X G age,QY:=W.mg_of X G agf,GW:=W.mg_of X G agg,Ah:=W.mg_none_of X G Ah,Ai:=W.mg_none_of X G Ai,tH:=W.mg_none_of X G tH,GX:=W.mg_none_of X G GX,mj:=W.mg_none_of X G mj,Aj:=W.mg_none_of X G Aj,jJ:=W.mg_none_of X G jJ,dU:=W.mg_none_of X G dU,nX:=W.mg_none_of X G nX,Al:=W.mg_none_of X G Al,tK:=W.mg_none_of X G tK,eW:=W.mg_none_of X G eW,Am:=W.mg_none_of X G Am,pW:=W.mg_none_of X G pW,pX:=W.mg_none_of X G pX,QZ:=W.mg_of X G adV,Ao:=Ao,Q0:=eF.of Ao (by decide),Q3:=W.mg_of X G adW,Aq:=Aq,ach:=eF.of Aq (by decide),Q4:=W.mg_of X G adX,Q5:=W.mg_of X G adY,Q6:=W.mg_of X G adZ,As:=As,aci:=eF.of As (by decide),Q7:=W.mg_of X G ad0,mq:=W.mg_of X G ad1,kj:=kj,Q8:=eF.of kj (by decide),Au:=⟨agh,agi,agj,Vd,agk,agv,agw⟩,Av:=Zq Vd,AG:=AG,GY:=GY,Q9:=j4 agl,Aw:=Aw,acj:=j4 agm,Ax:=Ax,ack:=j4 agn,Ay:=Ay,acm:=j4 ago,Az:=Az,acn:=j4 agp,AA:=AA,aco:=j4 agq,AB:=AB,acp:=j4 agr,AD:=AD,acq:=j4 ags,AE:=AE,acr:=j4 agt,AF:=AF,acs:=j4 agu,Q_:=W.mg_of X G ad2,AH:=AH,acu:=eF.of AH (by decide),Ra:=W.mg_of X G ad3,AI:=AI,acv:=eF.of AI (by decide),Rb:=W.mg_of X G ad4,AJ:=AJ,acw:=eF.of AJ (by decide),An:=W.mg_none_of X G An }
 exact⟨(W.fnOf "law" "law" (gr jh) (fc jh) (aN jh) .none Jw Jx Jy Jm BG Jz),λs v=>.of_eq rfl,λbase _ _=>ady T⟩
theorem walk{l:W.OpenLaw}{q:Program}{loose:List Str}{XP:(Str->Option Value)->Heap->Prop}{YP:World->Heap->Prop}{d:DefRec}{K:Params->W.Frag}(hn:l.most=some 63)(qU:d.params.defaults = [])
  (hY:∀(w:World) (h:Heap),YP w h->(K w.params).In h)
  (F:∀(w:World) (mg:Str->Option Value) (fa:Addr) (h:Heap),(K w.params).In h->h.Ns mainGlobals mg->mg d.name=some (.ref fa)->
   ∃fd:FuncData,(∀(s:Shared) (u:Value),BindsTo s fd ⟨[u],[]⟩ [("_law_script",u)])/\∀base:Heap,(K w.params).In base->base.Ns mainGlobals mg->aR l.prog w (K w.params) mg base a_ 9 fa fd ["_law_script"] (vg (K w.params))) :
  W.WalkO q loose XP YP l.row.toRowW d [] (λf vs=>PySem.call f vs) :=
 _L.Xy (n:=63) (k:=9) (x := "_law_script") (CX:=λ_=>a_) (sp:=λw=>vg (K w.params)) hn (by decide) qU ⟨rfl,by decide,by decide⟩ hY F (λ_ _ a ns hl _ hS=>⟨a,ns,rfl,hS,hl,λ_=>rfl⟩) λ_ _ _ _ _ z=>z
end _W
/-! ahe names are taken,so ahf no fast copy is laid of the largest tables: the compiled file stays small -/
structure PySem.W.Fast:Prop where(tw10002807105924568443 tw10016484451996447349 tw10030978635155616444 tw10084513212683979598 tw10121226784595567493 tw10154207444269730533 tw1022639302753376800 tw10329488443123014685 tw10374353622530876645 tw10514193539629181304 tw1061591539401244739 tw10633638788334201443 tw10720679542273630234 tw1073872208074936729 tw10796029740624988383 tw10800011784267513803 tw10836646232382706030 tw10843214010724390973 tw1085594933634854612 tw10860882517445396943 tw10976201166524483708 tw10989832345422125750 tw11034706524584973929 tw11058828988949099285 tw11071080501933485725 tw11183531895188350475 tw11205053615463500462 tw11208453930047643046 tw11210462965956317722 tw11225324147921668304 tw1124874263329582134 tw11382598073077429450 tw11398528150728680733 tw11424027012905444271 tw11448578917219661856 tw1152079858613825007 tw11542093022447600136 tw1156228620480555501 tw11605403867779913955 tw11615592277994763546 tw11650964067120178805 tw11656847392937672227 tw11686924090355019874 tw11779588582315950964 tw11787144785958428661 tw11815429568805793123 tw1182444366752555065 tw11830794494242657516 tw11843564046462229945 tw11843708532860216644 tw11845340725255985367 tw11855740885674044608 tw11884724251135771622 tw11917985308594117027 tw11919465235870189240 tw11960954310961538836 tw11969709488674806998 tw11992647929250956077 tw12117940357494802033 tw12145280939161823989 tw12190193218865496679 tw12208034470249362848 tw12217938554829073561 tw12240488366890462033 tw1225167829372013181 tw1226717899991653209 tw1230736832647255947 tw12417398628373416035 tw12458613822421322920 tw12460587808090489879 tw12497240266486534071 tw12504205052844311696 tw12510963484279110130 tw12590915731489121661 tw12635638793838750422 tw12661903594922278741 tw12680780426904483805 tw1271072653090855003 tw12714598251769239481 tw12749623317970943482 tw1276976319053816118 tw12822191050264246876 tw1282902196114341211 tw12841068985703417624 tw1286371121587737636 tw12870320395728185 tw12927169289175537692 tw12944010265181721276 tw12947152530618060417 tw12954188524356509927 tw12971816661863415248 tw1297313036553783665 tw12978299404448878799 tw12991913255615484552 tw12992698337388013570 tw12995169567084703709 tw13005264621558595233 tw13022620532727092790 tw13069331821336677250 tw13081573122506688948 tw13092606600136073358 tw13093341217950706874 tw13112387573277110202 tw13133012713357063544 tw13193524002286230680 tw13212434009104592544 tw13214493653635374430 tw13217717066354303032 tw13229490013890546993 tw13247809329185802878 tw13263017407243087820 tw13305137988025250146 tw1343064599442052707 tw13444140270752695364 tw13508155962773621686 tw13537878807848034328 tw13571052283161072725 tw13594828426422074347 tw13605562681272531672 tw13636697376637708385 tw13657414379656937099 tw13698911986093700768 tw1372279180486528854 tw13727189873043406377 tw13756135181001287447 tw13775369334259394501 tw13805942654856281057 tw13812778590770118717 tw13825558056148792029 tw13869737511801386603 tw13926465023934693204 tw13928987640182759455 tw13942933376928156216 tw13951499557964428795 tw13958676829902702905 tw13969662030019120156 tw13993379239364459751 tw13996292982991559020 tw14123995102586251646 tw14149403173133755866 tw14166118838768249432 tw14239552226018881740 tw1424073407437004580 tw14316388654267142877 tw14326006254194188029 tw1433402039836499186 tw14348805005556972451 tw1437496337351026628 tw14388385623380843585 tw14393605282173057046 tw14458013862097558557 tw14470184447374894181 tw14479897627639178725 tw14499537592106964486 tw14517715641054030589 tw14636736239466682109 tw14651024516340075716 tw14654024638880615952 tw14678781525878898493 tw14679727526763062753 tw14694289634436871566 tw14697105287273018432 tw14705739261001190497 tw14810952139989172438 tw14828497617719435465 tw14945093408560273600 tw14948609910656984523 tw14952924831570399919 tw15026695911003200834 tw1503971170299629896 tw15059686593620741361 tw15152977169372526885 tw15200699912103098821 tw15219980578132002729 tw15257120760701543804 tw15272593337162608401 tw15277494682873213580 tw1530896915726878715 tw15333288887539330216 tw15350902626247772252 tw15379874805488003882 tw1540850871525127680 tw15412379669585273957 tw15527338578740251402 tw15598777894831787961 tw15644444686300220863 tw15646853842542221148 tw15657899377300134554 tw15817312282972329680 tw15905177799819951021 tw15907929247978452808 tw15912163194247460402 tw15917186749825025531 tw16020492146062046923 tw16028445847712476296 tw1609749126478993507 tw16160230200691208190 tw16175261141475295854 tw16189738148827995583 tw16203271002149614342 tw16204670706406303418 tw16204989213163717153 tw16261361287069230697 tw16388851751554348796 tw16395184169115670875 tw16415482387797821686 tw16424623422220603199 tw16426235195294026918 tw16439560494229775556 tw16445164544218972610 tw16517247685194044404 tw16545464040927507864 tw1656457548896327621 tw16571932901199024429 tw16669359272990061580 tw16685538736062326481 tw16691859916273917736 tw16790297060929375135 tw16794197257345715224 tw16799642816723881720 tw16808730260533104186 tw16811523217146803793 tw16826650468006618963 tw16859316670677770921 tw16861743277353413419 tw16938363229411355424 tw16991140869949758508 tw17027367411488871847 tw17068471825882658777 tw17081106891925517311 tw17099314610133435530 tw17134794537335600174 tw17163115112401172114 tw17213145779876100263 tw17236302598432522375 tw17382364216015950831 tw17442338104668021080 tw1745105886243602461 tw17474121219846858788 tw17479670794522736199 tw17540988755075353178 tw17604635364100910282 tw17664100174738317529 tw17675186976152290120 tw1768573626456757423 tw17711709040421393979 tw17749464919642999461 tw17780514383581464596 tw17796882254481352410 tw17800903433715882446 tw17805851425979408960 tw17817047057110121009 tw17829798011454107685 tw17855758095842473039 tw17872622198275561851 tw17921517015318861629 tw17941611563552289257 tw17942563881554713849 tw17961790460004320738 tw17976139845779991831 tw17982195172502564384 tw17984623185371213285 tw17996100523580306291 tw18086054142002414360 tw18103184427504601030 tw18111100351082459816 tw18123734925587773717 tw18133886995440287540 tw18159645378758225877 tw1817053295875445789 tw18179265316900142461 tw18202408375092708738 tw18227469556304917325 tw1838031753071346593 tw1838632588434597190 tw18394142337079183569 tw18436450618346780648 tw18438288166600788343 tw1850760660115171516 tw18620045865726569 tw1887298735778012721 tw1907883954238526189 tw1909347036743927185 tw1923288759468548679 tw1947266692356124721 tw1961307715821462654 tw1988038638708846906 tw2014170561118070235 tw20175498361654356 tw206871671946618579 tw2074985051831980066 tw2081625930851032413 tw2086695822834119453 tw2130153732993274218 tw2229866989234107183 tw2265389590202659652 tw2280030694331777265 tw2328970805857098539 tw2416192401932756636 tw2416365649158148106 tw2446516693901424830 tw248039203850968509 tw2499464147593341847 tw2510055374582625625 tw2515812387810397044 tw253641964919493933 tw2579052418346647919 tw2594511185133695432 tw2633328495781306052 tw2709544674680502317 tw2712382953414241476 tw2756354456648403752 tw2759318025120769449 tw2781810788144155851 tw2832403566633129390 tw2973704528194332210 tw301661999833530655 tw3072192723046245734 tw3091446803537362433 tw3100910437100417186 tw3143160286769096621 tw3146748353109554538 tw3153087673157077778 tw3157561111203196719 tw3216056664454578934 tw3258453207238228220 tw3289279980098688140 tw3309513227361107875 tw3312811370303191262 tw3321106061479294204 tw3351549610699904095 tw347634000922453544 tw3487691042820134890 tw3491915077830493499 tw3492289181020369360 tw3502911813991062885 tw3617084712288799069 tw3632974078931881062 tw3659905770116848997 tw3666634531530548442 tw3669756245509219532 tw3707019105091001407 tw371868815182896714 tw3726067040029048672 tw3785585635827403752 tw3787376770911508813 tw3844169433475865450 tw3878627798984461039 tw4018557935293465720 tw4052078108186454287 tw4060929965712513284 tw4061843356275797282 tw407025145689463734 tw4107890334294950239 tw4111943088268106671 tw4255942511225868328 tw4268416680040278124 tw4268466366539453597 tw4329423103686824816 tw4332626079146261828 tw4374242509912291534 tw4406286301671180213 tw4442435500488611222 tw4471260348021759215 tw4476611249357366093 tw4538074140010214043 tw4583459799125853768 tw461829936129893653 tw463011173440858910 tw4676564315249072715 tw4697461206173901854 tw4702559673418869913 tw4718509703608239932 tw4851521582767009509 tw485562099932448930 tw4855751293009547401 tw4867567849670837523 tw4886204916484628936 tw4915195255526762226 tw493604428863073428 tw4943613743522317157 tw4944840446708934759 tw5030775042129491927 tw5040875905366560548 tw5045500477239763214 tw5106272121471649050 tw5116673434726550502 tw5144705432444155910 tw5150482047443938893 tw5164956598084746043 tw5199327444832009337 tw5211356909445963948 tw5270600498405070226 tw5280330264595274318 tw5289034261361196620 tw5291060715550533075 tw5292096804400581023 tw5395889083288601607 tw5439813867726056364 tw5489838830103805429 tw5590077914137500770 tw5591006809581090646 tw5607611605110241717 tw5617262469067900445 tw5646692482912784172 tw5689850234600807558 tw5693158241780911503 tw5701914411893068257 tw5757294154430128915 tw5817502429226409375 tw588734837782376377 tw5951770989283945796 tw5958669491245212985 tw5966347443931696614 tw6010412765957873932 tw6016822363657186859 tw6030889605697855232 tw6042696317772282842 tw6047322004966259474 tw6113735112577620575 tw611418254984717640 tw615451286169064458 tw6195473368284882877 tw6200711777322735390 tw6286994968500908246 tw6292031320061406947 tw633658000358333265 tw6343877959784118514 tw6364973644943382876 tw6372624695152745110 tw637996404555751184 tw6413727107037844760 tw642114421063099492 tw642427671090120261 tw6488733540696317172 tw6538345745941227357 tw6567363465768656732 tw659843994665232804 tw6604370920793499406 tw6642297854462001523 tw6661142850902986274 tw6668098681239842001 tw6681678488821565850 tw6689730852723404783 tw6699515794991661596 tw6711028037964993597 tw6778987855940835336 tw6822751814484855388 tw683324232877052557 tw684572216467919096 tw6921716575578866321 tw6931858310520691010 tw6978683312594817834 tw7014871891737726328 tw7027167041726882957 tw7107759105972481160 tw7126394190882003817 tw7142799184172489995 tw7179429107721692306 tw7179962719896124478 tw7200014435962107724 tw7212207311103002967 tw723589788705876943 tw724871600553490699 tw7268846296111411563 tw7309589799431207914 tw7346153449647987211 tw7408757564079118621 tw7454400667845546585 tw7487381864661460857 tw7521495878678276544 tw7528480667905205410 tw7551287115183032373 tw7670569136311949383 tw7679155905253324618 tw7705758752918566207 tw7707283039337842447 tw7790310805260389361 tw7860174992876411894 tw786994260569589579 tw7875217318508518424 tw7879583743617453453 tw7910607570203216585 tw7932451157603796437 tw7939124510350473683 tw8049620378959289127 tw8068849371585237966 tw807386356967251525 tw8080608557047808803 tw8110628320067653933 tw812087488034466114 tw8139712092435696445 tw8173716484598021092 tw8192842470632505076 tw822967652479683919 tw8282967516149063059 tw8360865559872935620 tw8363034532645916049 tw8443139472664410255 tw8516606007188862167 tw8532485534484804361 tw8546795349858998559 tw8555136076917546454 tw8556045695355722104 tw8564142755420881597 tw8623037955403728617 tw8672099937184665675 tw8716948484825179118 tw872027976838731100 tw8728415272388245574 tw8779083066884177805 tw882002077493972150 tw8836170589906799608 tw8903327248298451439 tw8921963569326951358 tw8942635681875450081 tw8975683606514980902 tw8991741441111783294 tw9026526540143131857 tw905273715329616752 tw9076169856694071566 tw9194856944476665194 tw9222722488922275187 tw9239448428798700305 tw9312811375358159165 tw9411598929704720098 tw9415404139250033794 tw9466521963277270983 tw9520504488012865611 tw9572916178747215656 tw9596436543549668760 tw9689265759475238609 tw9699314085565331095 tw9707723594761682293 tw9734269253965856204 tw9758012940375994963 tw9815041684162282990 tw9818289561330840852 tw9842433215810507208 tw9898567398867292962 tw9953343291505730950:True)
open PySem PySem.W PyProof.Rows
set_option maxHeartbeats 0 in
theorem PySem.Challenge.cw_armswing_k56_shares_come_to_it_holds : PySem.Challenge.rw_armswing_k56_shares_come_to_it.Holds := by
 w_on; o_law; k_head; (case hw => w_witness2)
 k_fill
 refine _W.walk (l := PySem.Challenge.rw_armswing_k56_shares_come_to_it) rfl rfl (λw h Y => PySem.W.kIn_of Y) ?F
 case F =>
  intro w mg fa h KX G hmg
  refine' _W.all_mk KX G hmg ?_ ?_ ?_ ?_ ?_ ?_ ?_ ?_ ?_ ?_ ?_ ?_ ?_ ?_ ?_ ?_ ?_ ?_ ?_ ?_ ?_ ?_ ?_ ?_ ?_ ?_ ?_ ?_ ?_ ?_ ?_ ?_ ?_ ?_ ?_ ?_ ?_ ?_ ?_ ?_ ?_ ?_ ?_ ?_ ?_ ?_ ?_ ?_ ?_ ?_ ?_ ?_ ?_ ?_ ?_ ?_ ?_ ?_ ?_ ?_ ?_ ?_ ?_ ?_ ?_ ?_ ?_ ?_ ?_ ?_ ?_ ?_ ?_ ?_ ?_ ?_ ?_ ?_ ?_ ?_ ?_ ?_ ?_ ?_ ?_ ?_ ?_ ?_ ?_ ?_ ?_ ?_ ?_ ?_ ?_ ?_ ?_ ?_ ?_ ?_ ?_ ?_ ?_ ?_ ?_ ?_ ?_ ?_ ?_ ?_ ?_ ?_ ?_ ?_ ?_ ?_ ?_ ?_ ?_ ?_ ?_ ?_ ?_ ?_ ?_ ?_ ?_ ?_ ?_ ?_ ?_ ?_ ?_ ?_ ?_ ?_ ?_ ?_ ?_ ?_ ?_ ?_ ?_ ?_ ?_ ?_ ?_ ?_ ?_ ?_ ?_ ?_ ?_ ?_ ?_ ?_ ?_ ?_ ?_ ?_ ?_ ?_ ?_ ?_ ?_ ?_ ?_ ?_ ?_ ?_ ?_ ?_ ?_ ?_ ?_ ?_ ?_ ?_ ?_ ?_ ?_ ?_ ?_ ?_ ?_ ?_ ?_ ?_ ?_ ?_ ?_ ?_ ?_ ?_ ?_ ?_ ?_ ?_ ?_ ?_ ?_ ?_ ?_ ?_ ?_ ?_ ?_ ?_ ?_ ?_ ?_ ?_ ?_ ?_ ?_ ?_ ?_ ?_ ?_ ?_ ?_ ?_ ?_ ?_ ?_ ?_ ?_ ?_ ?_ ?_ ?_ ?_ ?_ ?_ ?_ ?_ ?_ ?_ ?_ ?_ ?_ ?_ ?_ ?_ ?_ ?_ ?_ ?_ ?_ ?_ ?_ ?_ ?_ ?_ ?_ ?_ ?_ ?_ ?_ ?_ ?_ ?_ ?_ ?_ ?_ ?_ ?_ ?_ ?_ ?_ ?_ ?_ ?_ ?_ ?_ ?_ ?_ ?_ ?_ ?_ ?_ ?_ ?_ ?_ ?_ ?_ ?_ ?_ ?_ ?_ ?_ ?_ ?_ ?_ ?_ ?_ ?_ ?_ ?_ ?_ ?_ ?_ ?_ ?_ ?_ ?_ ?_
  all_goals (first | k_is | kit_is | k_exc | exact _L.fun_mk (by k_is) (by k_is) (by k_is) | rfl | decide +kernel | kernel_rfl | skip)

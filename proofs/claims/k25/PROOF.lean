import PyProof.Rows.All
import Wide.All
import OpenK.AllK
import Wide.FinOn
import Lean
import PyProof.EqAt
import PyProof.EqKinds
import PyProof.TupleCall
import PySem.Challenge.RW_armswing_k25_orders_refused
set_option compiler.extract_closed false
set_option Elab.async false
set_option linter.all false
set_option maxRecDepth 100000
namespace _L
open PySem PySem.Spec PyProof.Rows
noncomputable abbrev Key:=Sum Int Str
noncomputable def l6:Key->Value->Bool
 | .inl k,v=>Value.isInt k v
 | .inr x,v=>Value.isStrOf x v
noncomputable def LB(w:World):Key->Int
 | .inl k=>hashInt k
 | .inr x=>hashStr w x
theorem i7:∀ {k:Key} {v:Value},l6 k v=true->(∃i t,k=Sum.inl i/\v=Value.int i t)\/(∃x t,k=Sum.inr x/\v=Value.str x t)
 | .inl i,v,h=>by
  obtain⟨t,e⟩:=Value.isInt_shape (k:=i) (v:=v) h;exact .inl ⟨i,t,rfl,e⟩
 | .inr x,v,h=>by
  obtain⟨t,e⟩:=Value.isStrOf_shape (x:=x) (v:=v) h;exact .inr ⟨x,t,rfl,e⟩
theorem LC(i:Int)(t:Tok):l6 (.inl i) (.int i t)=true:=by simp[l6,Value.isInt]
theorem LD(x:Str)(t:Tok):l6 (.inr x) (.str x t)=true:=by simp[l6,Value.isStrOf]
theorem LF(a b:Int):decide ((Sum.inl a:Key)=Sum.inl b)=(a == b):=by
 by_cases e:a=b
 ·subst e;simp
 ·have h:¬ (Sum.inl a:Key)=Sum.inl b:=λq=>e (Sum.inl.inj q);rw[decide_eq_false h];exact(beq_eq_false_iff_ne.mpr e).symm
theorem LG(a b:Str):decide ((Sum.inr a:Key)=Sum.inr b)=decide (a=b):=by
 by_cases e:a=b
 ·subst e;simp
 ·have h:¬ (Sum.inr a:Key)=Sum.inr b:=λq=>e (Sum.inr.inj q);rw[decide_eq_false h,decide_eq_false e]
theorem LH(a:Int)(b:Str):decide ((Sum.inl a:Key)=Sum.inr b)=false:=decide_eq_false (λq=>nomatch q)
theorem LI(a:Str)(b:Int):decide ((Sum.inr a:Key)=Sum.inl b)=false:=decide_eq_false (λq=>nomatch q)
noncomputable def fW(prog:Program)(w:World):PySem.KeyKind prog w Key where
 is:=l6
 hash:=LB w
 inj:=λv a b ha hb=>by
  rcases i7 ha with⟨i,t,rfl,rfl⟩ | ⟨x,t,rfl,rfl⟩
  ·rcases i7 hb with⟨j,u,rfl,e⟩ | ⟨y,u,rfl,e⟩
   ·injection e with e1 _;rw[e1]
   ·exact nomatch e
  ·rcases i7 hb with⟨j,u,rfl,e⟩ | ⟨y,u,rfl,e⟩
   ·exact nomatch e
   ·injection e with e1 _;rw[e1]
 byValue:=λk v h=>by
  rcases i7 h with⟨i,t,rfl,rfl⟩ | ⟨x,t,rfl,rfl⟩ <;> rfl
 pyHash:=λhv h=>by
  rcases i7 hv with⟨i,t,rfl,rfl⟩ | ⟨x,t,rfl,rfl⟩
  ·exact wpAny_pyHash_int h
  ·exact wpAny_pyHash_str h
 eqBool:=λhu hv h=>by
  rcases i7 hu with⟨i,t,rfl,rfl⟩ | ⟨x,t,rfl,rfl⟩
  ·rcases i7 hv with⟨j,u,rfl,rfl⟩ | ⟨y,u,rfl,rfl⟩
   ·rw[LF] at h;exact wpAny_eqBool_int h
   ·rw[LH] at h;exact SeqAt.EqAt.int_str i t y u _ _ _ _ h
  ·rcases i7 hv with⟨j,u,rfl,rfl⟩ | ⟨y,u,rfl,rfl⟩
   ·rw[LI] at h;exact SeqAt.EqAt.str_int x t j u _ _ _ _ h
   ·rw[LG] at h;exact wpAny_eqBool_str h
 «strs» := λk x t v h=>by
  rcases i7 h with⟨i,u,rfl,e⟩ | ⟨y,u,rfl,e⟩
  ·exact nomatch e
  ·injection e with e1 _;subst e1;cases v <;> rfl
theorem LJ(prog:Program)(w:World)(i:Int)(t:Tok):(fW prog w).is (.inl i) (.int i t)=true:=LC i t
theorem LK(prog:Program)(w:World)(x:Str)(t:Tok):(fW prog w).is (.inr x) (.str x t)=true:=LD x t
inductive V where
 | aH | bl (b:Bool) | int (i:Int) | str (x:Str) | gr (b:Array UInt8) | jG (b:UInt64) | ref (a:Addr) | ty (n:String)
 deriving DecidableEq
noncomputable def RelV:V->Value->Prop
 | .aH,u=>u=Value.none
 | .bl b,u=>u=Value.bool b
 | .int i,u=>∃t,u=Value.int i t
 | .str x,u=>∃t,u=Value.str x t
 | .gr b,u=>∃t,u=Value.bytes b t
 | .jG b,u=>∃t,u=Value.float b t
 | .ref a,u=>u=Value.ref a
 | .ty n,u=>u=Value.type n
noncomputable abbrev Vals:List V->List Value->Prop:=Paired RelV
theorem Vals.length{xs:List V}{us:List Value}(r:Vals xs us):xs.length=us.length:=Paired.length r
theorem Vals.get:∀ {xs:List V} {us:List Value} {i:Nat} {x:V},Vals xs us->xs[i]? = some x->∃u,us[i]? = some u/\RelV x u
 | _,_,_,_,.nil,e=>by simp at e
 | _,_,0,_,.cons r _,e=>by simp at e;subst e;exact⟨_,rfl,r⟩
 | _,_,i+1,x,.cons _ t,e=>by
  obtain⟨u,h1,h2⟩:=Vals.get (i:=i) (x:=x) t (by simpa using e)
  exact⟨u,by simpa using h1,h2⟩
theorem Vals.append:∀ {xs ys:List V} {us ws:List Value},Vals xs us->Vals ys ws->Vals (xs++ys) (us++ws)
 | _,_,_,_,.nil,s=>s
 | _,_,_,_,.cons r t,s=>.cons r (Vals.append t s)
theorem Vals.take:∀ {xs:List V} {us:List Value} (n:Nat),Vals xs us->Vals (xs.take n) (us.take n)
 | _,_,0,_=>.nil
 | _,_,_+1,.nil=>.nil
 | _,_,n+1,.cons r t=>.cons r (Vals.take n t)
theorem Vals.drop:∀ {xs:List V} {us:List Value} (n:Nat),Vals xs us->Vals (xs.drop n) (us.drop n)
 | _,_,0,r=>r
 | _,_,_+1,.nil=>.nil
 | _,_,n+1,.cons _ t=>Vals.drop n t
noncomputable def dI:Option V->Option Value->Prop
 | some v,some u=>RelV v u
 | none,none=>True
 | _,_=>False
noncomputable def KV{κ:Type}:List (κ×V)->List (κ×Value)->Prop:=Paired λ(p:κ×V) (q:κ×Value)=>p.1=q.1/\RelV p.2 q.2
noncomputable def kV:Key->V
 | .inl i=>.int i
 | .inr x=>.str x
inductive HO where
 /-- a list -/
 | lst (xs:List V)
 /-- a tuple (never changes) -/
 | tup (xs:List V)
 /-- a dict whose keys are ints and texts;one whose keys are tuples of ints and texts (the empty one is both) -/
 | dK (aE:List (Key×V)) | dT (aE:List (List Key×V))
 /-- a set of ints: its members,its size -/
 | set (S:Int->Bool) (n:Nat)
 /-- an instance of the class at C,its dict at dx,its attributes -/
 | ins (C dx:Addr) (fs:List (Str×V))
 /-- the dict of the instance at x -/
 | own (x:Addr)
 /-- the dict of an exception -/
 | xd (fs:List (Str×V))
 /-- a bound method,f of x -/
 | met (f x:Addr)
 /-- a range object lo,lo+1,.. below hi -/
 | rD (lo hi:Int)
 /-- a thing that is known to the object (the script;a dict while a loop walks it): read,never written while it is so -/
 | eF (o:Obj) (u:HO)
 /-- a code object's table -/
 | jH (ps:Array Value)
 /-- any other thing,by what is true of its one object (a def of one's own: SetO a S n:=HO.ext λh=>..) -/
 | ext (φ:Heap->Prop)
noncomputable abbrev Hp:=Addr->Option HO
noncomputable def upd(H:Hp)(a:Addr)(o:HO):Hp:=λb=>if b=a then some o else H b
theorem aq{H:Hp}{a:Addr}{o:HO}:upd H a o a=some o:=by unfold upd;rw[if_pos rfl]
theorem aG{H:Hp}{a b:Addr}{o:HO}(h:b≠a):upd H a o b=H b:=by unfold upd;rw[if_neg h]
theorem l7{H:Hp}{a:Addr}{o u:HO}:upd (upd H a o) a u=upd H a u:=by
 funext b;unfold upd;split <;> rfl
theorem iB{H:Hp}{a b:Addr}{o u:HO}(h:H a=some o)(h':H b=some u)(d:o≠u):a≠b:=by
 intro e;subst e;rw[h] at h';exact d (Option.some.inj h')
theorem cQ{H:Hp}{a b:Addr}{o:HO}(h:H a=some o)(h':H b=none):a≠b:=by
 intro e;subst e;rw[h] at h';cases h'
section
variable(P:Program)(w:World)
noncomputable def bQ(H:Hp)(h:Heap)(a:Addr):HO->Prop
 | .lst xs=>xs.length<=sizeLine/\∃(aB:List Value) (n:Nat),Vals xs aB/\h.get? a=some { cls:=.type "list",data:=.seq aB.toArray n }
 | .tup xs=>xs.length<=sizeLine/\∃aB:List Value,Vals xs aB/\IsTup h a aB.toArray
 | .dK aE=>aE.length<=sizeLine/\(a == sysModules)=false/\∃vs,KV aE vs/\h.DictOf (fW P w) a vs
 | .dT aE=>aE.length<=sizeLine/\(a == sysModules)=false/\∃xs:List (List Key×Addr×Value),
   Paired (λ(p:List Key×V) (q:List Key×Addr×Value)=>p.1=q.1/\H q.2.1=some (.tup (p.1.map kV))/\RelV p.2 q.2.2) aE xs/\
   ∃o es ep,h.get? a=some o/\o.ExactDict/\o.data = .dict es ep/\es.toList=xs.map (entryOfKey (tupleKind (fW P w)))/\(xs.map (·.1)).Nodup
 | .set S n=>h.SetOf (intKind P w) a S n
 | .ins C dx fs=>H dx=some (.own a)/\fs.length<=1000/\dx≠a/\h.get? a=some (PySem.W.instObj C dx)/\
   ∃mA,h.Ns1 dx mA/\(∀f,dI (fs.lookup f) (mA f))/\PySem.Within mA (fs.map (·.1))
 | .own _=>∃o,h.get? a=some o
 | .xd fs=>∃mA,h.Ns1 a mA/\∀f,dI (fs.lookup f) (mA f)
 | .rD lo hi=>∃t u v,h.get? a=some { cls:=.type "range",data:=.fields #[.int lo t,.int hi u,.int 1 v] }
 | .eF o u=>h.get? a=some o/\bQ H h a u
 | .jH ps=>h.get? a=some { cls:=.none,data:=.fields ps }
 | .met f x=>h.get? a=some (PySem.W.methodObj (.ref f) (.ref x))
 | .ext φ=>φ h/\(∃o,h.get? a=some o)/\∀h1 h2:Heap,φ h1->(∀o,h1.get? a=some o->h2.get? a=some o)->φ h2
noncomputable def bM(H:Hp)(h:Heap):Prop:=∀a o,H a=some o->bQ P w H h a o
end
section
variable{P:Program}{w:World}{H H':Hp}{h h':Heap}{a:Addr}{o:HO}
theorem bQ.lt(x:bQ P w H h a o):a<h.objs.size:=by
 cases o with
 | lst xs=>obtain⟨_,_,_,_,e⟩:=x;exact Heap.lt_size e
 | tup xs=>obtain⟨_,_,_,p⟩:=x;exact p.lt
 | dK aE=>obtain⟨_,_,_,_,o,_,_,e,_⟩:=x;exact Heap.lt_size e
 | dT aE=>obtain⟨_,_,_,_,o,_,_,e,_⟩:=x;exact Heap.lt_size e
 | set S n=>obtain⟨o,_,_,_,e,_⟩:=x;exact Heap.lt_size e
 | ins C dx fs=>obtain⟨_,_,_,e,_⟩:=x;exact Heap.lt_size e
 | own y=>obtain⟨_,e⟩:=x;exact Heap.lt_size e
 | xd fs=>obtain⟨_,⟨_,_,_,e,_⟩,_⟩:=x;exact Heap.lt_size e
 | rD lo hi=>obtain⟨_,_,_,e⟩:=x;exact Heap.lt_size e
 | eF ob u=>obtain⟨e,_⟩:=x;exact Heap.lt_size e
 | jH ps=>exact Heap.lt_size (show h.get? a=some _ from x)
 | met f y=>exact Heap.lt_size (show h.get? a=some _ from x)
 | ext φ=>obtain⟨_,⟨_,e⟩,_⟩:=x;exact Heap.lt_size e
theorem Paired.xB{α β:Type}{F G:α->β->Prop}:∀ {Dv:List α} {Dw:List β},Paired F Dv Dw->(∀a b,F a b->G a b)->Paired G Dv Dw
 | _,_,.nil,_=>.nil
 | _,_,.cons r t,f=>.cons (f _ _ r) (Paired.xB t f)
theorem bQ.e8(x:bQ P w H h a o)(k:∀b u,(b=a\/H b=some (.own a))->h.get? b=some u->h'.get? b=some u)
  (ho:∀b,H b=some (.own a)->H' b=some (.own a)) (ht:∀b xs,H b=some (.tup xs)->H' b=some (.tup xs)):bQ P w H' h' a o:=by
 induction o with
 | lst xs=>obtain⟨z,aB,n,r,e⟩:=x;exact⟨z,aB,n,r,k _ _ (.inl rfl) e⟩
 | tup xs=>obtain⟨z,aB,r,ob,e,c⟩:=x;exact⟨z,aB,r,ob,k _ _ (.inl rfl) e,c⟩
 | dK aE=>obtain⟨z,y,vs,r,ob,es,ep,e,c⟩:=x;exact⟨z,y,vs,r,ob,es,ep,k _ _ (.inl rfl) e,c⟩
 | dT aE =>
  obtain⟨z,y,xs,r,ob,es,ep,e,c⟩:=x;exact⟨z,y,xs,Paired.xB r λp q z=>⟨z.1,ht _ _ z.2.1,z.2.2⟩,ob,es,ep,k _ _ (.inl rfl) e,c⟩
 | set S n=>obtain⟨ob,es,ep,t,e,c⟩:=x;exact⟨ob,es,ep,t,k _ _ (.inl rfl) e,c⟩
 | ins C dx fs =>
  obtain⟨d,z,ne,e,mA,⟨od,es,ep,e2,c⟩,r⟩:=x;exact⟨ho _ d,z,ne,k _ _ (.inl rfl) e,mA,⟨od,es,ep,k _ _ (.inr d) e2,c⟩,r⟩
 | own y=>obtain⟨ob,e⟩:=x;exact⟨ob,k _ _ (.inl rfl) e⟩
 | xd fs=>obtain⟨mA,⟨od,es,ep,e,c⟩,r⟩:=x;exact⟨mA,⟨od,es,ep,k _ _ (.inl rfl) e,c⟩,r⟩
 | rD lo hi=>obtain⟨t,u,v,e⟩:=x;exact⟨t,u,v,k _ _ (.inl rfl) e⟩
 | eF ob u ih=>obtain⟨e,q⟩:=x;exact⟨k _ _ (.inl rfl) e,ih q⟩
 | jH ps =>
  have e:h.get? a=some { cls:=.none,data:=.fields ps }:=x
  show h'.get? a=some { cls:=.none,data:=.fields ps };exact k a _ (.inl rfl) e
 | met f y =>
  have e:h.get? a=some (PySem.W.methodObj (.ref f) (.ref y)):=x
  show h'.get? a=some (PySem.W.methodObj (.ref f) (.ref y));exact k a _ (.inl rfl) e
 | ext φ=>obtain⟨p,⟨o,e⟩,st⟩:=x;exact⟨st _ _ p λo q=>k _ _ (.inl rfl) q,⟨o,k _ _ (.inl rfl) e⟩,st⟩
theorem bM.lt(x:bM P w H h)(e:H a=some o):a<h.objs.size:=(x a o e).lt
theorem bM.fresh(x:bM P w H h)(e:h.objs.size<=a):H a=none:=by
 cases q:H a with
 | none=>rfl
 | some u=>exact absurd (Nat.lt_of_lt_of_le (x.lt q) e) (Nat.lt_irrefl _)
theorem bM.kept(x:bM P w H h)(k:∀b u,h.get? b=some u->h'.get? b=some u):bM P w H h':=λa o e =>
 (x a o e).e8 (λb u _ q=>k b u q) (λ_ q=>q) λ_ _ q=>q
theorem bM.laid(x:bM P w H h)(k:∀b u,h.get? b=some u->h'.get? b=some u)(hp:h.objs.size<=a)(new:bQ P w (upd H a o) h' a o):bM P w (upd H a o) h':=λb u e=>by
 have hn:=x.fresh hp;by_cases hb:b=a
 ·subst hb;rw[aq] at e;cases e;exact new
 ·rw[aG hb] at e;exact(x b u e).e8 (λc v _ q=>k c v q) (λc q=>by rw[aG (cQ q hn)];exact q) λc xs q=>by rw[aG (cQ q hn)];exact q
end
noncomputable def Rd(H:Hp)(a:Addr)(u:HO):Prop:=H a=some u\/∃o,H a=some (.eF o u)
theorem Rd.ok{P:Program}{w:World}{H:Hp}{h:Heap}{a:Addr}{u:HO}(r:Rd H a u)(x:bM P w H h):bQ P w H h a u:=by
 rcases r with r | ⟨o,r⟩
 ·exact x a u r
 ·obtain⟨_,q⟩:=x a _ r;exact q
noncomputable def nQ:Option HO->Prop
 | some (.lst _)=>True
 | some (.dK _)=>True
 | some (.dT _)=>True
 | some (.set _ _)=>True
 | some (.ins _ _ _)=>True
 | some (.ext _)=>True
 | _=>False
section
variable{P:Program}{w:World}{H:Hp}{h h':Heap}{x e:Addr}{o':HO}
theorem bM.write(ok:bM P w H h)(mu:nQ (H x))(he:e=x\/H e=some (.own x))(k:∀b u,b≠e->h.get? b=some u->h'.get? b=some u)(l8:∃u,h'.get? e=some u)
  (new:bQ P w (upd H x o') h' x o'):bM P w (upd H x o') h':=λb u q=>by
 have Dy:∀c y,H c=some (.own y)->c≠x:=λc y r z=>by subst z;rw[r] at mu;exact mu
 have LL:∀c xs,H c=some (.tup xs)->c≠x:=λc xs r z=>by subst z;rw[r] at mu;exact mu
 by_cases hb:b=x
 ·subst hb;rw[aq] at q;cases q;exact new
 ·rw[aG hb] at q;by_cases fX:b=e
  ·have q':H b=some (.own x):=by
    rcases he with z | z
    ·exact absurd (fX.trans z) hb
    ·rw[fX];exact z
   rw[q] at q';cases q';obtain⟨v,hv⟩:=l8;exact⟨v,by rw[fX];exact hv⟩
  ·refine(ok b u q).e8 (λc v hc r=>k c v ?_ r) (λc r=>by rw[aG (Dy c b r)];exact r) λc xs r=>by rw[aG (LL c xs r)];exact r
   rcases hc with rfl | hc
   ·exact fX
   ·rintro rfl;rcases he with z | z
    ·exact Dy c b hc z
    ·rw[hc] at z;cases z;exact hb rfl
end
structure Un(fs ex:List Addr)(H H':Hp)(h h':Heap):Prop where
 keep:∀b o,h.get? b=some o->H b=none->b∉fs->b∉ex->h'.get? b=some o
 slot:∀b o,h.get? b=some o->H b=none->b∈fs->b∉ex->∃sl,h'.get? b=some { o with slots:=sl }
 free:∀b o,h.get? b=some o->H b=none->b∉ex->H' b=none
 there:∀b o,h.get? b=some o->b∉ex->∃o',h'.get? b=some o'
 d9:∀b xs,H b=some (.tup xs)->H' b=some (.tup xs)
 dQ:∀b o u,H b=some (.eF o u)->H' b=some (.eF o u)
 d_:∀b ps,H b=some (.jH ps)->∃more,H' b=some (.jH (ps++more))
section
variable{fs LM ex X7:List Addr}{H H1 H2:Hp}{h h1 h2 h':Heap}{a x e:Addr}{o:HO}
theorem Un.any(u:Un fs ex H H1 h h1){b:Addr}{ob:Obj}(q:h.get? b=some ob)(n:H b=none)(hx:b∉ex):∃sl,h1.get? b=some { ob with slots:=sl }:=by
 by_cases hb:b∈fs
 ·exact u.slot b ob q n hb hx
 ·exact⟨ob.slots,u.keep b ob q n hb hx⟩
theorem Un.kept(k:∀b u,h.get? b=some u->h'.get? b=some u):Un fs ex H H h h' :=
 ⟨λb ob q _ _ _=>k b ob q,λb ob q _ _ _=>⟨ob.slots,k b ob q⟩,λ_ _ _ n _=>n,λb ob q _=>⟨ob,k b ob q⟩,λ_ _ q=>q,λ_ _ _ q=>q,λ_ ps q=>⟨#[],by rw[q];simp⟩⟩
theorem Un.refl:Un fs ex H H h h:=Un.kept λ_ _ q=>q
theorem Un.laid(k:∀b u,h.get? b=some u->h'.get? b=some u)(hp:h.objs.size<=a)(hn:H a=none):Un fs ex H (upd H a o) h h' where
 keep:=λb u q _ _ _=>k b u q
 slot:=λb u q _ _ _=>⟨u.slots,k b u q⟩
 free:=λb u q n _=>by rw[aG (Nat.ne_of_lt (Nat.lt_of_lt_of_le (Heap.lt_size q) hp))];exact n
 there:=λb u q _=>⟨u,k b u q⟩
 d9:=λb xs q=>by rw[aG (cQ q hn)];exact q
 dQ:=λb u xs q=>by rw[aG (cQ q hn)];exact q
 d_:=λb ps q=>⟨#[],by rw[aG (cQ q hn),q];simp⟩
theorem Un.write(mu:nQ (H x))(he:e=x\/H e=some (.own x))(k:∀b u,b≠e->h.get? b=some u->h'.get? b=some u)(l8:∃u,h'.get? e=some u):Un fs ex H (upd H x o) h h':=by
 have hx:∀b,H b=none->b≠x:=λb n z=>by subst z;rw[n] at mu;exact mu
 have hb:∀b,H b=none->b≠e:=λb n z=>by
  subst z;rcases he with r | r
  ·exact hx b n r
  ·rw[n] at r;cases r
 have hm:∀b u,H b=some u->¬ nQ (some u)->b≠x:=λb u q nm z=>by subst z;rw[q] at mu;exact nm mu
 refine⟨λb u q n _ _=>k b u (hb b n) q,λb u q n _ _=>⟨u.slots,k b u (hb b n) q⟩,λb u q n _=>by rw[aG (hx b n)];exact n,λb u q _=>?_,
  λb xs q=>by rw[aG (hm b _ q λz=>z)];exact q,λb u xs q=>by rw[aG (hm b _ q λz=>z)];exact q,λb ps q=>⟨#[],by rw[aG (hm b _ q λz=>z),q];simp⟩⟩
 by_cases fX:b=e
 ·subst fX;exact l8
 ·exact⟨u,k b u fX q⟩
end
noncomputable def rE(h:Heap)(H:Hp):List Addr:=(List.range h.objs.size).filter λa=>(H a).isSome
noncomputable def i8(h:Heap)(H:Hp):Heap:=PySem.W.hideAll h (rE h H)
theorem LN(h:Heap)(H:Hp):(i8 h H).objs.size=h.objs.size:=PySem.W.hideAll_size _ _
theorem LO{h:Heap}{H:Hp}{b:Addr}{o:Obj}(e:h.get? b=some o)(n:H b=none):(i8 h H).get? b=some o :=
 PySem.W.hideAll_get _ e λhm=>by
  have q:(H b).isSome=true:=(List.mem_filter.mp hm).2;rw[n] at q;simp at q
theorem LP{h:Heap}{H:Hp}{b:Addr}{o:Obj}(e:(i8 h H).get? b=some o):h.get? b=some o/\H b=none:=by
 have e':h.get? b=some o:=PySem.W.of_hideAll (rE h H) e;refine⟨e',?_⟩;cases q:H b with
 | none=>rfl
 | some x =>
  have hm:b∈rE h H:=List.mem_filter.mpr ⟨List.mem_range.mpr (Heap.lt_size e'),by simp[q]⟩
  have z:(i8 h H).get? b=none:=PySem.W.hideAll_none (rE h H) hm;rw[z] at e;cases e
noncomputable def LQ(g h:Heap)(L:Addr):List (Addr×Obj):=(List.range h.objs.size).filterMap λa=>if a=L\/(g.get? a).isSome=true then none else(h.get? a).map λo=>(a,o)
noncomputable def rest(g h:Heap)(L d:Addr):List (Addr×Obj):=(LQ g h L).filter λp=>decide (p.1≠d)
structure Mod(K:PySem.W.Frag)(mg:Str->Option Value)(base:Heap):Prop where
 i9:K.In base
 glob:base.Ns mainGlobals mg
 blt:∃mb,base.Ns builtinsNs mb/\∀x:Str,x≠"__name__"->mb x=bootBuiltins x
 nolimit:base.NoLimit
structure Cx where
 prog:Program
 w:World
 K:PySem.W.Frag
 mg:Str->Option Value
 base:Heap
 A:Around
 N:List Str
 aI:Shared
 cz:Hp
 env:Env
 outer:List Env
 stack:List Env
 ex:List Addr
 fn:Str->Bool
 calm:Bool
 pn:List (Addr×Obj)
 xe:Value->Shared->Prop
noncomputable def aY(l:List Env):List Addr:=l.filterMap (·.frame)
noncomputable abbrev Cx.fs(X:Cx):List Addr:=aY X.outer
noncomputable def xC(sc:Scope)(x:Str):Prop:=sc.names.lookup x=some .local\/sc.names.lookup x=some .cell\/sc.names.lookup x=some .free
noncomputable def Loc(sc:Scope)(x:Str):Prop:=sc.names.lookup x=some .local\/sc.names.lookup x=some .cell
noncomputable def Look(env:Env)(h:Heap)(m:Str->Option Value)(x:Str)(u:Value):Prop :=
 (env.kindOf x=some .local/\m x=some u)\/((env.kindOf x=some .cell\/env.kindOf x=some .free)/\∃c,env.cells.lookup x=some c/\h.IsCell c (some u))
structure Cx.Ok(X:Cx):Prop where
 mod:Mod X.K X.mg X.base
 kind:X.env.scope.kind = .function
 glob:X.env.globals=mainGlobals
 blt:X.env.builtins=builtinsNs
 above:X.aI.heap.objs.size<=X.env.locals
 inj:∀x y c,X.env.cells.lookup x=some c->X.env.cells.lookup y=some c->x=y
 has:∀x,(X.env.kindOf x=some .cell\/X.env.kindOf x=some .free)->∃c,X.env.cells.lookup x=some c
 kH:∀x c,X.fn x=true->X.env.cells.lookup x=some c->X.aI.heap.objs.size<=c
 hd:X.calm=true->X.A.handled=none
 frames:X.A.frames=some X.stack
 l9:X.stack=X.outer\/(X.stack=X.env::X.outer/\X.env.frame=some X.env.locals)
 jI:∀b∈X.ex,b≠X.env.locals/\∀x c,X.env.cells.lookup x=some c->c≠b
 bs:∀b o,X.base.get? b=some o->X.aI.heap.get? b=some o/\X.cz b=none
 gu:X.base.objs.size<=X.aI.heap.objs.size
 kI:∀b o,X.base.get? b=some o->b∉X.ex
 jJ:∀b∈X.ex,b∉X.fs
 dB:X.aI.heap.FunFrames X.base X.outer
 e9:∀b∈X.fs,X.cz b=none
structure Inv(X:Cx)(pins:List (Addr×Obj))(σ:List (Option V))(H:Hp)(s:Shared):Prop where
 ok:X.Ok
 os:s.os=X.aI.os
 bare:AllBare s.gens
 base:Un X.fs X.ex X.cz H X.aI.heap s.heap
 loc:∃m,s.heap.Ns X.env.locals m/\∀(i:Nat) (x:Str) (v:V),X.N[i]? = some x->σ[i]? = some (some v)->xC X.env.scope x->∃u,RelV v u/\Look X.env s.heap m x u
 cell:∀x c,X.env.cells.lookup x=some c->∃v,s.heap.IsCell c v
 free:H X.env.locals=none
 e_:∀x c,X.env.cells.lookup x=some c->H c=none
 pin:∀p∈X.pn++pins,s.heap.get? p.1=some p.2/\H p.1=none/\p.1≠X.env.locals/\p.1∉X.fs/\∀v,p.2.data≠.cell v
 aC:bM X.prog X.w H s.heap
 len:σ.length=X.N.length
section
variable{X:Cx}{pins:List (Addr×Obj)}{σ:List (Option V)}{H H':Hp}{s:Shared}{h':Heap}
theorem Cx.Ok.LR(ok:X.Ok){b:Addr}{o:Obj}(e:X.base.get? b=some o):b∉X.fs:=λhb=>by
 have:=(ok.dB.mem hb).1;rw[e] at this;cases this
theorem Inv.bs(I:Inv X pins σ H s):∀b o,X.base.get? b=some o->s.heap.get? b=some o/\H b=none:=λb o e =>
 ⟨I.base.keep b o (I.ok.bs b o e).1 (I.ok.bs b o e).2 (I.ok.LR e) (I.ok.kI b o e),I.base.free b o (I.ok.bs b o e).1 (I.ok.bs b o e).2 (I.ok.kI b o e)⟩
theorem Inv.bk(I:Inv X pins σ H s):∀b o,X.base.get? b=some o->s.heap.get? b=some o:=λb o e=>(I.bs b o e).1
theorem Inv.mod(I:Inv X pins σ H s):Mod X.K X.mg X.base:=I.ok.mod
theorem Inv.bN(I:Inv X pins σ H s):X.K.In s.heap:=I.ok.mod.i9.keeps I.bk
theorem Inv.lt(I:Inv X pins σ H s):X.env.locals<s.heap.objs.size:=let ⟨_,hn,_⟩:=I.loc;hn.lt
theorem Inv.sz(I:Inv X pins σ H s):X.aI.heap.objs.size<=s.heap.objs.size:=Nat.le_trans I.ok.above (Nat.le_of_lt I.lt)
theorem Inv.LS(I:Inv X pins σ H s){a:Addr}(h:s.heap.objs.size<=a):a∉X.fs:=λhb=>by
 obtain⟨_,o,ho,_⟩:=I.ok.dB.mem hb;exact absurd (Nat.lt_of_lt_of_le (Heap.lt_size ho) (Nat.le_trans I.sz h)) (Nat.lt_irrefl _)
theorem Inv.gQ(I:Inv X pins σ H s):∀x c,X.env.cells.lookup x=some c->c≠X.env.locals:=λx c e z=>by
 obtain⟨v,o,ho,hd⟩:=I.cell x c e;obtain⟨m,⟨o',es,ep,kJ,dj,_⟩,_⟩:=I.loc;rw[z,kJ] at ho;cases ho;rw[dj] at hd;cases hd
theorem Inv.dB(I:Inv X pins σ H s):s.heap.FunFrames X.base X.outer:=by
 have all:∀(l:List Env),(∀b∈aY l,b∈X.fs)->X.aI.heap.FunFrames X.base l->s.heap.FunFrames X.base l:=by
  intro l
  induction l with
  | nil=>intro _ _;trivial
  | cons env r ih =>
   intro hs hl;obtain⟨hk,⟨L,o,hf,hn,ho,hd⟩,hr⟩:=hl;have hL:L∈X.fs:=hs L (by unfold aY;rw[List.filterMap_cons,hf];exact List.mem_cons_self)
   obtain⟨sl,e⟩:=I.base.slot L o ho (I.ok.e9 L hL) hL λz=>I.ok.jJ L z hL;exact⟨hk,⟨L,_,hf,hn,e,hd⟩,ih (λb hb=>hs b (by unfold aY;rw[List.filterMap_cons,hf];exact List.mem_cons_of_mem _ hb)) hr⟩
 exact all X.outer (λ_ hb=>hb) I.ok.dB
theorem Inv.stack(I:Inv X pins σ H s):s.heap.FunFrames X.base X.stack:=by
 rcases I.ok.l9 with e | ⟨e,hf⟩
 ·rw[e];exact I.dB
 ·rw[e];obtain⟨m,hn,_⟩:=I.loc;refine .cons (by rw[I.ok.kind];decide) hf hn ?_ I.dB
  exact Heap.get?_none_of_le (Nat.le_trans I.ok.gu I.ok.above)
theorem Inv.xD(I:Inv X pins σ H s):∀b∈aY X.stack,b∈X.env.locals::X.fs:=λb hb=>by
 rcases I.ok.l9 with e | ⟨e,hf⟩
 ·rw[e] at hb;exact List.mem_cons_of_mem _ hb
 ·rw[e] at hb;unfold aY at hb;rw[List.filterMap_cons,hf] at hb;exact hb
theorem Inv.rF(I:Inv X pins σ H s):∀b∈aY X.stack,H b=none:=λb hb=>by
 rcases List.mem_cons.mp (I.xD b hb) with e | hb
 ·rw[e];exact I.free
 ·obtain⟨_,o,ho,_⟩:=I.ok.dB.mem hb;exact I.base.free b o ho (I.ok.e9 b hb) λz=>I.ok.jJ b z hb
theorem Inv.step{g':Array GenState}{t':Nat}{d':Drawn}{ch:List Addr}(I:Inv X pins σ H s)
  (iC:∀b∈ch,(b∈X.ex\/X.aI.heap.objs.size<=b)/\b≠X.env.locals/\(∀x c,X.env.cells.lookup x=some c->c≠b)/\∀p∈X.pn++pins,p.1≠b)
  (keep:∀b o,b≠X.env.locals->b∉X.fs->b∉ch->s.heap.get? b=some o->H b=none->h'.get? b=some o)
  (slot:∀b o,b≠X.env.locals->b∈X.fs->b∉ch->s.heap.get? b=some o->H b=none->∃sl,h'.get? b=some { o with slots:=sl }) (free:∀b o,b∉ch->s.heap.get? b=some o->H b=none->H' b=none)
  (there:∀b o,b∉ch->s.heap.get? b=some o->∃o',h'.get? b=some o')
  (d9:∀b xs,H b=some (.tup xs)->H' b=some (.tup xs)) (dQ:∀b o u,H b=some (.eF o u)->H' b=some (.eF o u)) (d_:∀b ps,H b=some (.jH ps)->∃more,H' b=some (.jH (ps++more)))
  (ns:∀m,s.heap.Ns X.env.locals m->h'.Ns X.env.locals m) (aC:bM X.prog X.w H' h') (hg:AllBare g') :
  Inv X pins σ H' { s with heap:=h',gens:=g',drawn:=d',toks:=t' }:=by
 have Dz:∀b o,X.aI.heap.get? b=some o->b≠X.env.locals:=λb o e=>Nat.ne_of_lt (Nat.lt_of_lt_of_le (Heap.lt_size e) I.ok.above);have rG:∀b o,X.aI.heap.get? b=some o->b∉X.ex->b∉ch:=λb o e hx hb=>by
  rcases(iC b hb).1 with z | z
  ·exact hx z
  ·exact absurd (Nat.lt_of_lt_of_le (Heap.lt_size e) z) (Nat.lt_irrefl _)
 have cellK:∀x c,X.env.cells.lookup x=some c->∀v,s.heap.IsCell c v->h'.IsCell c v:=λx c e v ⟨o,ho,hd⟩=>by
  have nR:c∉ch:=λz=>(iC c z).2.2.1 x c e rfl;by_cases hc:c∈X.fs
  ·obtain⟨sl,q⟩:=slot c o (I.gQ x c e) hc nR ho (I.e_ x c e);exact⟨_,q,hd⟩
  ·exact⟨o,keep c o (I.gQ x c e) hc nR ho (I.e_ x c e),hd⟩
 refine⟨I.ok,I.os,hg,⟨λb o e n hb hx=>?_,λb o e n hb hx=>?_,λb o e n hx=>?_,λb o e hx=>?_,λb xs e=>d9 b xs (I.base.d9 b xs e),λb o xs e=>dQ b o xs (I.base.dQ b o xs e),λb ps e=>?_⟩,?_,λx c e=>?_,?_,λx c e=>?_,λp hp=>?_,aC,I.len⟩
 ·exact keep b o (Dz b o e) hb (rG b o e hx) (I.base.keep b o e n hb hx) (I.base.free b o e n hx)
 ·obtain⟨sl,e1⟩:=I.base.slot b o e n hb hx;obtain⟨LU,e2⟩:=slot b _ (Dz b o e) hb (rG b o e hx) e1 (I.base.free b o e n hx);exact⟨LU,e2⟩
 ·obtain⟨o',e1⟩:=I.base.there b o e hx;exact free b o' (rG b o e hx) e1 (I.base.free b o e n hx)
 ·obtain⟨o',e1⟩:=I.base.there b o e hx;exact there b o' (rG b o e hx) e1
 ·obtain⟨m1,e1⟩:=I.base.d_ b ps e;obtain⟨m2,e2⟩:=d_ b _ e1;exact⟨m1++m2,by rw[e2,Array.append_assoc]⟩
 ·obtain⟨m,hn,hl⟩:=I.loc;refine⟨m,ns m hn,λi x v e1 e2 e3=>?_⟩;obtain⟨u,r,l⟩:=hl i x v e1 e2 e3;refine⟨u,r,?_⟩;rcases l with l | ⟨k,c,e,z⟩
  ·exact .inl l
  ·exact .inr ⟨k,c,e,cellK x c e _ z⟩
 ·obtain⟨v,z⟩:=I.cell x c e;exact⟨v,cellK x c e v z⟩
 ·obtain⟨m,⟨o,_,_,ho,_⟩,_⟩:=I.loc;exact free _ o (λz=>(iC _ z).2.1 rfl) ho I.free
 ·obtain⟨v,o,ho,hd⟩:=I.cell x c e;exact free c o (λz=>(iC c z).2.2.1 x c e rfl) ho (I.e_ x c e)
 ·obtain⟨e,n,ne,nf,d⟩:=I.pin p hp;have nR:p.1∉ch:=λz=>(iC p.1 z).2.2.2 p hp rfl;exact⟨keep p.1 p.2 ne nf nR e n,free p.1 p.2 nR e n,ne,nf,d⟩
theorem Inv.un{t':Nat}(I:Inv X pins σ H s)(u:Un X.fs [] H H' s.heap h')(aC:bM X.prog X.w H' h'):Inv X pins σ H' { s with heap:=h',toks:=t' }:=by
 obtain⟨m,⟨o,es,ep,ho,r⟩,_⟩:=id I.loc;obtain⟨sl,hL⟩:=u.any ho I.free (by simp)
 exact I.step (g':=s.gens) (d':=s.drawn) (ch:=[]) (λ_ z=>nomatch z) (λb o _ hb _ e n=>u.keep b o e n hb (by simp)) (λb o _ hb _ e n=>u.slot b o e n hb (by simp)) (λb o _ e n=>u.free b o e n (by simp)) (λb o _ e=>u.there b o e (by simp)) u.d9 u.dQ u.d_ (λm' hm=>by
  obtain⟨o',nU,rH,kJ,r'⟩:=hm;rw[ho] at kJ;cases kJ;exact⟨_,nU,rH,hL,r'⟩) aC I.bare
theorem Inv.call{g':Array GenState}{t':Nat}{d':Drawn}{ch:List Addr}(I:Inv X pins σ H s)(u:Un (aY X.stack) ch H H' s.heap h')(aC:bM X.prog X.w H' h')(hg:AllBare g')
  (iC:∀b∈ch,(b∈X.ex\/X.aI.heap.objs.size<=b)/\b≠X.env.locals/\(∀x c,X.env.cells.lookup x=some c->c≠b)/\∀p∈X.pn++pins,p.1≠b) :
  Inv X pins σ H' { s with heap:=h',gens:=g',drawn:=d',toks:=t' }:=by
 obtain⟨m,⟨o,es,ep,ho,r⟩,_⟩:=id I.loc;obtain⟨sl,hL⟩:=u.any ho I.free λz=>(iC _ z).2.1 rfl;exact I.step (ch:=ch) iC (λb o hL hb hc e n=>u.keep b o e n (λz=>(List.mem_cons.mp (I.xD b z)).elim hL hb) hc) (λb o _ _ hc e n=>u.any e n hc) (λb o hc e n=>u.free b o e n hc) (λb o hc e=>u.there b o e hc) u.d9 u.dQ u.d_ (λm' hm=>by
  obtain⟨o',nU,rH,kJ,r'⟩:=hm;rw[ho] at kJ;cases kJ;exact⟨_,nU,rH,hL,r'⟩) aC hg
theorem Inv.turned{t':Nat}{it:Addr}(I:Inv X pins σ H s)(k:∀b o,b≠it->s.heap.get? b=some o->h'.get? b=some o)(hn:H it=none)(hL:it≠X.env.locals)
  (h1:it∈X.ex\/X.aI.heap.objs.size<=it) (h2:∀x c,X.env.cells.lookup x=some c->c≠it) (h3:∀p∈X.pn++pins,p.1≠it):Inv X pins σ H { s with heap:=h',toks:=t' }:=by
 have nW:∀b u,H b=some u->b≠it:=λb u e z=>by rw[z,hn] at e;cases e
 refine I.step (g':=s.gens) (d':=s.drawn) (ch:=[it]) (λb hb=>?_) (λb o _ _ hc e _=>k b o (λz=>hc (by simp[z])) e) (λb o _ _ hc e _=>⟨o.slots,k b o (λz=>hc (by simp[z])) e⟩) (λ_ _ _ _ n=>n)
  (λb o hc e=>⟨o,k b o (λz=>hc (by simp[z])) e⟩) (λ_ _ e=>e) (λ_ _ _ e=>e) (λb ps e=>⟨#[],by rw[e];simp⟩) (λm hm=>?_) (λb u e=>?_) I.bare
 ·have e:b=it:=by simpa using hb
  subst e;exact⟨h1,hL,h2,h3⟩
 ·obtain⟨o,es,ep,ho,r⟩:=hm;exact⟨o,es,ep,k _ o (Ne.symm hL) ho,r⟩
 ·refine(I.aC b u e).e8 (λc v hc q=>k c v ?_ q) (λ_ q=>q) λ_ _ q=>q;rcases hc with z | z
  ·rw[z];exact nW b u e
  ·exact nW c _ z
theorem Inv.tok(I:Inv X pins σ H s)(t:Nat):Inv X pins σ H { s with toks:=t }:=I.un (h':=s.heap) (t':=t) Un.refl I.aC
theorem Inv.kept{t':Nat}(I:Inv X pins σ H s)(k:∀b u,s.heap.get? b=some u->h'.get? b=some u):Inv X pins σ H { s with heap:=h',toks:=t' }:=I.un (Un.kept k) (I.aC.kept k)
theorem Inv.laid{a:Addr}{o:HO}{t':Nat}(I:Inv X pins σ H s)(k:∀b u,s.heap.get? b=some u->h'.get? b=some u)(hp:s.heap.objs.size<=a)(new:bQ X.prog X.w (upd H a o) h' a o) :
  Inv X pins σ (upd H a o) { s with heap:=h',toks:=t' }:=I.un (Un.laid k hp (I.aC.fresh hp)) (I.aC.laid k hp new)
theorem Inv.write{x e:Addr}{o:HO}{t':Nat}(I:Inv X pins σ H s)(mu:nQ (H x))(he:e=x\/H e=some (.own x))(k:∀b u,b≠e->s.heap.get? b=some u->h'.get? b=some u)(l8:∃u,h'.get? e=some u)
  (new:bQ X.prog X.w (upd H x o) h' x o):Inv X pins σ (upd H x o) { s with heap:=h',toks:=t' }:=I.un (Un.write mu he k l8) (I.aC.write mu he k l8 new)
theorem Inv.DA{DB:List (Addr×Obj)}(I:Inv X pins σ H s)(h:∀p∈DB,s.heap.get? p.1=some p.2/\H p.1=none/\p.1≠X.env.locals/\p.1∉X.fs/\∀v,p.2.data≠.cell v):Inv X DB σ H s :=
 ⟨I.ok,I.os,I.bare,I.base,I.loc,I.cell,I.free,I.e_,λp hp=>(List.mem_append.mp hp).elim (λz=>I.pin p (List.mem_append_left _ z)) (h p),I.aC,I.len⟩
theorem xE{N:List Str}(hN:N.Nodup){i j:Nat}{x:Str}(a:N[i]? = some x)(b:N[j]? = some x):i=j:=by
 obtain⟨h1,e1⟩:=List.getElem?_eq_some_iff.mp a;obtain⟨h2,e2⟩:=List.getElem?_eq_some_iff.mp b;exact(List.getElem_inj hN).mp (e1.trans e2.symm)
theorem DC{M:Model}{A:Around}{E:Value->Shared->Prop}{i:Nat}{x:Str}{v:V}{u:Value}{Q:Unit->Shared->Prop}(I:Inv X pins σ H s)(hN:X.N.Nodup)(hi:X.N[i]? = some x)(hx:Loc X.env.scope x)(r:RelV v u)
  (h:∀s',Inv X pins (σ.set i (some v)) H s'->(∃a,Heap.SameBut a s.heap s'.heap/\(a=X.env.locals\/X.env.cells.lookup x=some a))->Q () s') (hf:X.fn x=true\/X.env.scope.names.lookup x=some .local:=by first | exact .inl rfl | exact .inr rfl | assumption):wpAny M A (storeName X.env x u) Q E s:=by
 obtain⟨m,hn,hl⟩:=id I.loc;have kK:(X.env.scope.kind == .class || (X.env.scope.kind == .module && X.env.locals != X.env.globals))=false:=by rw[I.ok.kind];rfl
 have DE:i<σ.length:=by rw[I.len];exact(List.getElem?_eq_some_iff.mp hi).1
 have gQ:=I.gQ;have tracked:∀ {a:Addr} {h':Heap},(∃o,s.heap.get? a=some o/\H a=none)->Heap.SameBut a s.heap h'->bM X.prog X.w H h':=λ{a h'} ha hs b ob e=>by
  obtain⟨_,_,DF⟩:=ha;refine(I.aC b ob e).e8 (λc w' hc q=>(hs.2 c ?_).trans q) (λ_ q=>q) λ_ _ q=>q;rintro rfl;rcases hc with rfl | hc
  ·rw[DF] at e;cases e
  ·rw[DF] at hc;cases hc
 rcases hx with hk | hk
 ·refine wpAny_storeName_local hk hn (λh' fc hs=>?_) kK;obtain⟨oL,_,_,iD,_⟩:=id hn;refine h _ ⟨I.ok,I.os,I.bare,⟨λb o e n hb hx=>?_,λb o e n hb hx=>?_,I.base.free,λb o e hx=>?_,I.base.d9,I.base.dQ,I.base.d_⟩,⟨_,fc,λj y v' e1 e2 e3=>?_⟩,λy c e=>?_,I.free,I.e_,λp hp=>?_,tracked ⟨oL,iD,I.free⟩ hs,by simpa using I.len⟩ ⟨_,hs,.inl rfl⟩
  ·exact(hs.2 b (Nat.ne_of_lt (Nat.lt_of_lt_of_le (Heap.lt_size e) I.ok.above))).trans (I.base.keep b o e n hb hx)
  ·obtain⟨sl,e1⟩:=I.base.slot b o e n hb hx;exact⟨sl,(hs.2 b (Nat.ne_of_lt (Nat.lt_of_lt_of_le (Heap.lt_size e) I.ok.above))).trans e1⟩
  ·obtain⟨o',e1⟩:=I.base.there b o e hx;exact⟨o',(hs.2 b (Nat.ne_of_lt (Nat.lt_of_lt_of_le (Heap.lt_size e) I.ok.above))).trans e1⟩
  ·by_cases hj:j=i
   ·subst hj;rw[hi] at e1;cases e1;rw[List.getElem?_set_self DE] at e2;cases e2;exact⟨u,r,.inl ⟨hk,by simp⟩⟩
   ·rw[List.getElem?_set_ne (Ne.symm hj)] at e2;obtain⟨u',r',q⟩:=hl j y v' e1 e2 e3;refine⟨u',r',?_⟩;rcases q with⟨k,e⟩ | ⟨k,c,e,z⟩
    ·refine .inl ⟨k,?_⟩;have:y≠x:=λe=>hj (xE hN e1 (e▸hi));simp[this,e]
    ·exact .inr ⟨k,c,e,z.sameBut hs (gQ y c e)⟩
  ·obtain⟨w',z⟩:=I.cell y c e;exact⟨w',z.sameBut hs (gQ y c e)⟩
  ·obtain⟨e,n,ne,nf,d⟩:=I.pin p hp;exact⟨(hs.2 p.1 ne).trans e,n,ne,nf,d⟩
 ·have xF:X.fn x=true:=by
   rcases hf with z | z
   ·exact z
   ·rw[z] at hk;cases hk
  obtain⟨c,hc⟩:=I.ok.has x (.inl hk);obtain⟨w',z⟩:=I.cell x c hc;refine wpAny_storeName_cell I.ok.kind hk hc z (λh' rJ hs=>?_);obtain⟨oc,DG,LV⟩:=id z;refine h { s with heap:=h' } ⟨I.ok,I.os,I.bare,⟨λb o e n hb hx=>?_,λb o e n hb hx=>?_,I.base.free,λb o e hx=>?_,I.base.d9,I.base.dQ,I.base.d_⟩,⟨m,hn.sameBut hs (Ne.symm (gQ x c hc)),λj y v' e1 e2 e3=>?_⟩,λy c' e=>?_,I.free,I.e_,λp hp=>?_,tracked ⟨oc,DG,I.e_ x c hc⟩ hs,by simpa using I.len⟩ ⟨c,hs,.inr hc⟩
  ·exact(hs.2 b (Nat.ne_of_lt (Nat.lt_of_lt_of_le (Heap.lt_size e) (I.ok.kH x c xF hc)))).trans (I.base.keep b o e n hb hx)
  ·obtain⟨sl,e1⟩:=I.base.slot b o e n hb hx;exact⟨sl,(hs.2 b (Nat.ne_of_lt (Nat.lt_of_lt_of_le (Heap.lt_size e) (I.ok.kH x c xF hc)))).trans e1⟩
  ·obtain⟨o',e1⟩:=I.base.there b o e hx;exact⟨o',(hs.2 b (Nat.ne_of_lt (Nat.lt_of_lt_of_le (Heap.lt_size e) (I.ok.kH x c xF hc)))).trans e1⟩
  ·by_cases hj:j=i
   ·subst hj;rw[hi] at e1;cases e1;rw[List.getElem?_set_self DE] at e2;cases e2;exact⟨u,r,.inr ⟨.inl hk,c,hc,rJ⟩⟩
   ·rw[List.getElem?_set_ne (Ne.symm hj)] at e2;obtain⟨u',r',q⟩:=hl j y v' e1 e2 e3;refine⟨u',r',?_⟩;rcases q with q | ⟨k,c',e,z'⟩
    ·exact .inl q
    ·refine .inr ⟨k,c',e,z'.sameBut hs ?_⟩;rintro rfl;exact hj (xE hN e1 (I.ok.inj _ _ _ e hc▸hi))
  ·by_cases rK:c' = c
   ·subst rK;exact⟨_,rJ⟩
   ·obtain⟨w2,z2⟩:=I.cell y c' e;exact⟨w2,z2.sameBut hs rK⟩
  ·obtain⟨e,n,ne,nf,d⟩:=I.pin p hp;refine⟨(hs.2 p.1 ?_).trans e,n,ne,nf,d⟩;intro q;rw[q,DG] at e;have q':oc=p.2:=Option.some.inj e;exact d w' (by rw[← q'];exact LV)
theorem nX{M:Model}{A:Around}{E:Value->Shared->Prop}{i:Nat}{x:Str}{v:V}{u:Value}{Q:Unit->Shared->Prop}(I:Inv X pins σ H s)(hN:X.N.Nodup)(hi:X.N[i]? = some x)(hx:Loc X.env.scope x)(r:RelV v u)
  (h:∀s',Inv X pins (σ.set i (some v)) H s'->Q () s') (hf:X.fn x=true\/X.env.scope.names.lookup x=some .local:=by first | exact .inl rfl | exact .inr rfl | assumption):wpAny M A (storeName X.env x u) Q E s :=
 DC I hN hi hx r (λs' I' _=>h s' I') hf
theorem Inv.kL{s':Shared}{ch:List Addr}(I:Inv X pins σ H s)(ho:s'.os=s.os)(u:Un (aY X.stack) ch H H' s.heap s'.heap)(aC:bM X.prog X.w H' s'.heap)(hg:AllBare s'.gens)
  (iC:∀b∈ch,(b∈X.ex\/X.aI.heap.objs.size<=b)/\b≠X.env.locals/\(∀x c,X.env.cells.lookup x=some c->c≠b)/\∀p∈X.pn++pins,p.1≠b):Inv X pins σ H' s':=by
 obtain⟨h',g',d',t',o'⟩:=s';have e:o' = s.os:=ho;subst e;exact I.call (g':=g') (t':=t') (d':=d') u aC hg iC
end
noncomputable abbrev XK:=Value->Option Addr->Hp->Prop
noncomputable abbrev St:=List (Option V)
noncomputable abbrev VK:=V->Hp->Prop
noncomputable abbrev TE:=St->Hp->VK->Prop
noncomputable abbrev TT:=St->Hp->(Bool->Hp->Prop)->Prop
noncomputable abbrev TA:=St->Hp->(List V->Hp->Prop)->Prop
structure Ends where
 nx:St->Hp->Prop
 rt:VK
 bk:St->Hp->Prop:=λ_ _=>False
 ct:St->Hp->Prop:=λ_ _=>False
noncomputable abbrev TS:=Ends->St->Hp->Prop
noncomputable def EP(X:Cx)(pins:List (Addr×Obj))(σ:St)(Q:VK)(u:Value)(s':Shared):Prop:=∃v H',Inv X pins σ H' s'/\RelV v u/\Q v H'
noncomputable def TP(X:Cx)(pins:List (Addr×Obj))(σ:St)(Q:Bool->Hp->Prop)(b:Bool)(s':Shared):Prop:=∃H',Inv X pins σ H' s'/\Q b H'
noncomputable def AP(X:Cx)(pins:List (Addr×Obj))(σ:St)(Q:List V->Hp->Prop)(us:List Value)(s':Shared):Prop:=∃vs H',Inv X pins σ H' s'/\Vals vs us/\Q vs H'
noncomputable def SP(X:Cx)(pins:List (Addr×Obj))(D:Ends)(f:Flow)(s':Shared):Prop :=
 match f with
 | .next=>∃aV H',Inv X pins aV H' s'/\D.nx aV H'
 | .brk=>∃aV H',Inv X pins aV H' s'/\D.bk aV H'
 | .cont=>∃aV H',Inv X pins aV H' s'/\D.ct aV H'
 | .ret u=>∃v aV H',Inv X pins aV H' s'/\RelV v u/\D.rt v H'
noncomputable def PE(X:Cx)(e:Expr)(t:TE):Prop :=
 ∀(pins:List (Addr×Obj)) (s:Shared) (σ:St) (H:Hp) (Q:VK),Inv X pins σ H s->t σ H Q->wpAny (model X.prog X.w) X.A (eval e X.env) (EP X pins σ Q) X.xe s
noncomputable def PT(X:Cx)(e:Expr)(t:TT):Prop :=
 ∀(pins:List (Addr×Obj)) (s:Shared) (σ:St) (H:Hp) (Q:Bool->Hp->Prop),Inv X pins σ H s->t σ H Q->wpAny (model X.prog X.w) X.A (isTrue e X.env (eval e X.env)) (TP X pins σ Q) X.xe s
noncomputable def PW(X:Cx)(e:Expr)(t:TT):Prop :=
 ∀(whole:Sem Value) (pins:List (Addr×Obj)) (s:Shared) (σ:St) (H:Hp) (Q:Bool->Hp->Prop),Inv X pins σ H s->t σ H Q->wpAny (model X.prog X.w) X.A (isTrue e X.env whole) (TP X pins σ Q) X.xe s
theorem PW.pt{X:Cx}{e:Expr}{t:TT}(h:PW X e t):PT X e t:=h _
noncomputable def PA(X:Cx)(es:List Expr)(t:TA):Prop :=
 ∀(pos:Pos) (pins:List (Addr×Obj)) (s:Shared) (σ:St) (H:Hp) (Q:List V->Hp->Prop),Inv X pins σ H s->t σ H Q->wpAny (model X.prog X.w) X.A (spliced (backTo pos (starEach es X.env))) (AP X pins σ Q) X.xe s
noncomputable def PS(X:Cx)(st:Stmt)(t:TS):Prop :=
 ∀(pins:List (Addr×Obj)) (s:Shared) (σ:St) (H:Hp) (D:Ends),Inv X pins σ H s->t D σ H->wpAny (model X.prog X.w) X.A (exec st X.env) (SP X pins D) X.xe s
noncomputable def eg(X:Cx)(st:List Stmt)(t:TS):Prop :=
 ∀(pins:List (Addr×Obj)) (s:Shared) (σ:St) (H:Hp) (D:Ends),Inv X pins σ H s->t D σ H->wpAny (model X.prog X.w) X.A (execs st X.env) (SP X pins D) X.xe s
theorem aQ{α:Type}{t:Sem α}{Q Q':α->Shared->Prop}{M:Model}{A:Around}{E:Value->Shared->Prop}{s:Shared}(h:wpAny M A t Q E s)(hQ:∀a s,Q a s->Q' a s):wpAny M A t Q' E s:=wpAny_mono h hQ λ_ _ x=>x
section
variable{X:Cx}
noncomputable def DH(i:Nat):TE:=λσ H Q=>∃v,σ[i]? = some (some v)/\Q v H
noncomputable def tC(v:V):TE:=λ_ H Q=>Q v H
theorem LW{i:Nat}{x:Str}{pos:Pos}(hN:X.N[i]? = some x)(hv:xC X.env.scope x)(hd:(x == ("__debug__" : Str))=false:=by decide)(cA:(x == ("__classdict__" : Str))=false:=by decide):PE X (.Name x pos) (DH i):=by
 intro pins s σ H Q I h;obtain⟨v,e,h⟩:=h;obtain⟨m,hn,hl⟩:=I.loc;obtain⟨u,r,l⟩:=hl i x v hN e hv;have fin:EP X pins σ Q u s:=⟨v,H,I,r,h⟩;rcases l with⟨hk,hm⟩ | ⟨hk,c,hc,DI⟩
 ·exact wpAny_Name (wpAny_loadName_local I.ok.kind hk hn hm fin) hd
 ·rcases hk with hk | hk
  ·exact wpAny_Name (wpAny_loadName_cell I.ok.kind hk hc DI fin) hd
  ·exact wpAny_Name (wpAny_loadName_free I.ok.kind hk hc DI fin cA) hd
theorem aj{i j pos}:PE X (.Constant (.int i) j pos) (tC (.int i)):=λ_ _ _ H _ I h=>wpAny_Constant_int ⟨.int i,H,I.tok _,⟨_,rfl⟩,h⟩
theorem fP{b j pos}:PE X (.Constant (.bool b) j pos) (tC (.bl b)):=λ_ _ _ H _ I h=>Constant_bool ⟨.bl b,H,I,rfl,h⟩
theorem kM{j pos}:PE X (.Constant .none j pos) (tC .aH):=λ_ _ _ H _ I h=>Constant_none ⟨.aH,H,I,rfl,h⟩
theorem bC{x j pos}:PE X (.Constant (.str x) j pos) (tC (.str x)):=λ_ _ _ H _ I h=>Calls.Constant_str ⟨.str x,H,I.tok _,⟨_,rfl⟩,h⟩
noncomputable def Gl(X:Cx)(x:Str):Prop:=X.env.kindOf x=some .globalImplicit
theorem i_{E:Value->Shared->Prop}{pins:List (Addr×Obj)}{s:Shared}{σ:St}{H:Hp}{x:Str}{u:Value}{pos:Pos}{Q:Value->Shared->Prop}(I:Inv X pins σ H s)(hg:Gl X x)(hm:X.mg x=some u)(h:Q u s)
  (hd:(x == ("__debug__" : Str))=false:=by decide):wpAny (model X.prog X.w) X.A (eval (.Name x pos) X.env) Q E s :=
 Calls.Name_function_global I.ok.kind hg (Calls.loadGlobal_global (by rw[I.ok.glob];exact I.mod.glob.keeps I.bk) hm h) hd
theorem l_{E:Value->Shared->Prop}{pins:List (Addr×Obj)}{s:Shared}{σ:St}{H:Hp}{x:Str}{u:Value}{pos:Pos}{Q:Value->Shared->Prop}(I:Inv X pins σ H s)(hg:Gl X x)(hm:X.mg x=none)(hv:bootBuiltins x=some u)(h:Q u s)
  (hn:x≠"__name__" := by decide) (hd:(x == ("__debug__" : Str))=false:=by decide):wpAny (model X.prog X.w) X.A (eval (.Name x pos) X.env) Q E s:=by
 obtain⟨mb,h1,h2⟩:=I.mod.blt;exact Calls.Name_function_global I.ok.kind hg (Calls.loadGlobal_builtin (by rw[I.ok.glob];exact I.mod.glob.keeps I.bk) hm (by rw[I.ok.blt];exact h1.keeps I.bk) ((h2 x hn).trans hv) h) hd
theorem dR{x:Str}{v:V}{u:Value}{pos:Pos}(hg:Gl X x)(hm:X.mg x=some u)(r:RelV v u)(hd:(x == ("__debug__" : Str))=false:=by decide):PE X (.Name x pos) (tC v) :=
 λ_ _ _ H _ I h=>i_ I hg hm ⟨v,H,I,r,h⟩ hd
theorem gv{x:Str}{v:V}{u:Value}{pos:Pos}(hg:Gl X x)(hm:X.mg x=none)(hv:bootBuiltins x=some u)(r:RelV v u)(hn:x≠"__name__" := by decide)(hd:(x == ("__debug__" : Str))=false:=by decide):PE X (.Name x pos) (tC v) :=
 λ_ _ _ H _ I h=>l_ I hg hm hv ⟨v,H,I,r,h⟩ hn hd
variable{a b:Expr}{ta tb:TE}{pos:Pos}
noncomputable def PC(X:Cx)(op:CmpOp)(a b:Expr)(t:TE):Prop :=
 ∀(pins:List (Addr×Obj)) (s:Shared) (σ:St) (H:Hp) (Q:VK),Inv X pins σ H s->t σ H Q->
  wpAny (model X.prog X.w) X.A (eval a X.env) (λv aO=>wpAny (model X.prog X.w) X.A (eval b X.env) (λu b_=>wpAny (model X.prog X.w) X.A (compareOp op v u) (EP X pins σ Q) X.xe b_) X.xe aO) X.xe s
noncomputable def tB(t:TE):TT:=λσ H Q=>t σ H λx H1=>∃c,x = .bl c/\Q c H1
theorem nY{e:Expr}{t:TE}(h:PE X e t)(he:∀whole,isTrue e X.env whole=(do let v ← whole;standAt e.pos;holding [v] (truthy v)):=by intro _;rfl):PT X e (tB t):=by
 intro pins s σ H Q I hw;refine isTrue_plain (aQ (h pins s σ H _ I hw) λv s1 ⟨x,H1,I1,r1,q1⟩=>?_) (he _);obtain⟨d,rfl,q⟩:=q1;cases r1;exact wpAny_truthy_bool ⟨H1,I1,q⟩
variable{tA rL:TT}{rest:List Expr}
noncomputable def LX(t u:TT):TT:=λσ H Q=>t σ H λc H1=>if c=true then u σ H1 Q else Q false H1
noncomputable def LY(t u:TT):TT:=λσ H Q=>t σ H λc H1=>if c=true then Q true H1 else u σ H1 Q
noncomputable def LZ(t:TT):TT:=λσ H Q=>t σ H λc H1=>Q (!c) H1
theorem jc(ha:PT X a tA):PW X (.BoolOp .And [a] pos) tA:=by
 intro wh pins s σ H Q I h;refine isTrue_and (aQ (ha pins s σ H Q I h) λc s1 e=>?_);cases c with
 | true=>exact isTrue_and_nil e
 | false=>exact e
theorem fh(ha:PT X a tA):PW X (.BoolOp .Or [a] pos) tA:=by
 intro wh pins s σ H Q I h;refine isTrue_or (aQ (ha pins s σ H Q I h) λc s1 e=>?_);cases c with
 | false=>exact isTrue_or_nil e
 | true=>exact e
theorem jd(ha:PT X a tA)(hb:PW X (.BoolOp .And (b::rest) pos) rL):PW X (.BoolOp .And (a::b::rest) pos) (LX tA rL):=by
 intro wh pins s σ H Q I h;refine isTrue_and (aQ (ha pins s σ H _ I h) λc s1 ⟨H1,I1,q1⟩=>?_);cases c with
 | true=>exact hb wh pins s1 σ H1 Q I1 q1
 | false=>exact⟨H1,I1,q1⟩
theorem eK(ha:PT X a tA)(hb:PW X (.BoolOp .Or (b::rest) pos) rL):PW X (.BoolOp .Or (a::b::rest) pos) (LY tA rL):=by
 intro wh pins s σ H Q I h;refine isTrue_or (aQ (ha pins s σ H _ I h) λc s1 ⟨H1,I1,q1⟩=>?_);cases c with
 | true=>exact⟨H1,I1,q1⟩
 | false=>exact hb wh pins s1 σ H1 Q I1 q1
theorem DJ(ha:PT X a tA):PT X (.UnaryOp .Not a pos) (LZ tA):=by
 intro pins s σ H Q I h;exact isTrue_not (ha pins s σ H (λc H1=>Q (!c) H1) I h)
noncomputable def L4(ta tb:TE):TE:=λσ H Q=>ta σ H λx H1=>∃c,x = .bl c/\if c=true then tb σ H1 Q else Q (.bl false) H1
noncomputable def X8(ta tb:TE):TE:=λσ H Q=>ta σ H λx H1=>∃c,x = .bl c/\if c=true then Q (.bl true) H1 else tb σ H1 Q
noncomputable def L5(ta:TE):TE:=λσ H Q=>ta σ H λx H1=>∃c,x = .bl c/\Q (.bl (!c)) H1
theorem nZ{op}{t:TE}(h:PE X a t):PE X (.BoolOp op [a] pos) t:=λpins s σ H Q I hw=>BoolOp_one (h pins s σ H Q I hw)
theorem n_(ha:PE X a ta)(hb:PE X (.BoolOp .And (b::rest) pos) tb):PE X (.BoolOp .And (a::b::rest) pos) (L4 ta tb):=by
 intro pins s σ H Q I h;refine BoolOp_and (aQ (ha pins s σ H _ I h) λv s1 ⟨x,H1,I1,r1,q1⟩=>?_);obtain⟨c,rfl,q1⟩:=q1;cases r1;refine wpAny_truthy_bool ?_;cases c with
 | true=>exact hb pins s1 σ H1 Q I1 q1
 | false=>exact⟨.bl false,H1,I1,rfl,q1⟩
theorem DK(ha:PE X a ta):PE X (.UnaryOp .Not a pos) (L5 ta):=by
 intro pins s σ H Q I h;refine UnaryOp_ (aQ (ha pins s σ H _ I h) λv s1 ⟨x,H1,I1,r1,q1⟩=>?_);obtain⟨c,rfl,q1⟩:=q1;cases r1;exact not_of (wpAny_truthy_bool ⟨.bl (!c),H1,I1,rfl,q1⟩)
noncomputable def L6(t:TT)(ta tb:TE):TE:=λσ H Q=>t σ H λc H1=>if c=true then ta σ H1 Q else tb σ H1 Q
theorem L7{c:Expr}(hc:PT X c tA)(ha:PE X a ta)(hb:PE X b tb):PE X (.IfExp c a b pos) (L6 tA ta tb):=by
 intro pins s σ H Q I h;refine wpAny_IfExp (aQ (hc pins s σ H _ I h) λd s1 ⟨H1,I1,q1⟩=>?_);cases d with
 | true=>exact ha pins s1 σ H1 Q I1 q1
 | false=>exact hb pins s1 σ H1 Q I1 q1
end
noncomputable def aD(K:PySem.W.Frag)(H:Hp)(a:Addr)(xs:List V):Prop :=
 Rd H a (.lst xs)\/
  ∃(o:Obj) (aB:Array Value) (n:Nat),K.lookup a=some o/\o.cls = .type "list"/\o.dict=none/\o.data = .seq aB n/\aB.size<=sizeLine/\Vals xs aB.toList
noncomputable def aJ(K:PySem.W.Frag)(H:Hp)(a:Addr)(xs:List V):Prop :=
 Rd H a (.tup xs)\/
  ∃(o:Obj) (aB:Array Value) (n:Nat),K.lookup a=some o/\o.cls = .type "tuple"/\o.data = .seq aB n/\aB.size<=sizeLine/\Vals xs aB.toList
noncomputable def L8:Value->Option V
 | .none=>some .aH
 | .bool b=>some (.bl b)
 | .int i _=>some (.int i)
 | .str x _=>some (.str x)
 | .bytes b _=>some (.gr b)
 | .float b _=>some (.jG b)
 | .ref a=>some (.ref a)
 | .type n=>some (.ty n)
 | _=>none
theorem RelV.abs{x:V}{u:Value}(r:RelV x u):L8 u=some x:=by
 cases x with
 | aH=>cases r;rfl
 | bl _=>cases r;rfl
 | int _=>obtain⟨t,rfl⟩:=r;rfl
 | str _=>obtain⟨t,rfl⟩:=r;rfl
 | gr _=>obtain⟨t,rfl⟩:=r;rfl
 | jG _=>obtain⟨t,rfl⟩:=r;rfl
 | ref _=>cases r;rfl
 | ty _=>cases r;rfl
theorem RelV.inj{x y:V}{u:Value}(r:RelV x u)(q:RelV y u):x=y:=Option.some.inj (r.abs.symm.trans q.abs)
theorem Vals.inj:∀ {xs ys:List V} {us:List Value},Vals xs us->Vals ys us->xs=ys
 | _,_,_,.nil,.nil=>rfl
 | _,_,_,.cons r t,.cons r' t'=>by rw[r.inj r',Vals.inj t t']
section
variable{X:Cx}{pins:List (Addr×Obj)}{σ:St}{H:Hp}{s:Shared}{a:Addr}{xs ys:List V}
theorem aD.of{K:PySem.W.Frag}(h:H a=some (.lst xs)):aD K H a xs:=.inl (.inl h)
theorem aJ.of{K:PySem.W.Frag}(h:H a=some (.tup xs)):aJ K H a xs:=.inl (.inl h)
theorem Inv.list(I:Inv X pins σ H s)(h:aD X.K H a xs):∃aB:List Value,Vals xs aB/\PlainL s.heap a aB.toArray/\xs.length<=sizeLine:=by
 rcases h with h | ⟨o,aB,n,hk,hc,hd,hs,hz,r⟩
 ·obtain⟨z,aB,n,r,e⟩:=h.ok I.aC;exact⟨aB,r,⟨_,n,e,rfl,rfl,rfl⟩,z⟩
 ·refine⟨aB.toList,r,⟨o,n,I.bN a o hk,hc,hd,by simpa using hs⟩,?_⟩
  have e:=r.length;simp only[Array.length_toList] at e;lia
theorem Inv.tuple(I:Inv X pins σ H s)(h:aJ X.K H a xs):∃aB:List Value,Vals xs aB/\IsTup s.heap a aB.toArray/\xs.length<=sizeLine:=by
 rcases h with h | ⟨o,aB,n,hk,hc,hs,hz,r⟩
 ·obtain⟨z,aB,r,p⟩:=h.ok I.aC;exact⟨aB,r,p,z⟩
 ·refine⟨aB.toList,r,⟨o,I.bN a o hk,hc,n,by simpa using hs⟩,?_⟩
  have e:=r.length;simp only[Array.length_toList] at e;lia
theorem Inv.DL(I:Inv X pins σ H s)(h:aD X.K H a xs)(h':aD X.K H a ys):xs=ys:=by
 obtain⟨aB,r,⟨o,n,e,_,_,d⟩,_⟩:=I.list h;obtain⟨its',r',⟨o',n',e',_,_,d'⟩,_⟩:=I.list h';rw[e] at e';cases e';rw[d] at d';injection d' with d1 _;have:aB=its':=by simpa using congrArg Array.toList d1
 subst this;exact r.inj r'
theorem Inv.L_(I:Inv X pins σ H s)(h:aJ X.K H a xs)(h':aJ X.K H a ys):xs=ys:=by
 obtain⟨aB,r,⟨o,e,_,n,d⟩,_⟩:=I.tuple h;obtain⟨its',r',⟨o',e',_,n',d'⟩,_⟩:=I.tuple h';rw[e] at e';cases e';rw[d] at d';injection d' with d1 _;have:aB=its':=by simpa using congrArg Array.toList d1
 subst this;exact r.inj r'
end
noncomputable abbrev Cx.fQ(X:Cx)(E:Value->Shared->Prop):Cx:={ X with xe:=E }
noncomputable abbrev Cx.iE(X:Cx):Cx:=X.fQ λ_ _=>False
theorem Cx.Ok.fQ{X:Cx}(ok:X.Ok)(E:Value->Shared->Prop):(X.fQ E).Ok :=
 ⟨ok.mod,ok.kind,ok.glob,ok.blt,ok.above,ok.inj,ok.has,ok.kH,ok.hd,ok.frames,ok.l9,ok.jI,ok.bs,ok.gu,ok.kI,ok.jJ,ok.dB,ok.e9⟩
theorem Cx.Ok.gw{X:Cx}{E:Value->Shared->Prop}(ok:(X.fQ E).Ok):X.Ok :=
 ⟨ok.mod,ok.kind,ok.glob,ok.blt,ok.above,ok.inj,ok.has,ok.kH,ok.hd,ok.frames,ok.l9,ok.jI,ok.bs,ok.gu,ok.kI,ok.jJ,ok.dB,ok.e9⟩
section
variable{X:Cx}{pins:List (Addr×Obj)}{σ:St}{H:Hp}{s:Shared}{E:Value->Shared->Prop}
theorem Inv.fQ(I:Inv X pins σ H s)(E:Value->Shared->Prop):Inv (X.fQ E) pins σ H s:=⟨I.ok.fQ E,I.os,I.bare,I.base,I.loc,I.cell,I.free,I.e_,I.pin,I.aC,I.len⟩
theorem Inv.gw(I:Inv (X.fQ E) pins σ H s):Inv X pins σ H s:=⟨I.ok.gw,I.os,I.bare,I.base,I.loc,I.cell,I.free,I.e_,I.pin,I.aC,I.len⟩
theorem SP.gw{D:Ends}{f:Flow}{s':Shared}(h:SP (X.fQ E) pins D f s'):SP X pins D f s':=by
 cases f with
 | next=>obtain⟨aV,H',I,q⟩:=h;exact⟨aV,H',I.gw,q⟩
 | brk=>obtain⟨aV,H',I,q⟩:=h;exact⟨aV,H',I.gw,q⟩
 | cont=>obtain⟨aV,H',I,q⟩:=h;exact⟨aV,H',I.gw,q⟩
 | ret u=>obtain⟨v,aV,H',I,r,q⟩:=h;exact⟨v,aV,H',I.gw,r,q⟩
theorem eg.iE{st:List Stmt}{t:TS}(h:eg X.iE st t):eg X st t:=λpins s σ H D I hw =>
 wpAny_mono (h pins s σ H D (I.fQ _) hw) (λ_ _ q=>q.gw) λ_ _ z=>False.elim z
end
section
variable{X:Cx}{st:Stmt}{rest:List Stmt}{t u:TS}{e:Expr}{te:TE}{pos:Pos}
noncomputable def Ma:TS:=λD σ H=>D.nx σ H
noncomputable def DM(t u:TS):TS:=λD σ H=>t { D with nx:=u D } σ H
theorem bz:eg X [] Ma:=λ_ _ σ H _ I h=>wpAny_execs_nil ⟨σ,H,I,h⟩
theorem az(h1:PS X st t)(h2:eg X rest u):eg X (st::rest) (DM t u):=by
 intro pins s σ H D I h;refine wpAny_execs_cons (aQ (h1 pins s σ H { D with nx:=u D } I h) λf s1 q=>?_);cases f with
 | next =>
  obtain⟨aV,H',I',q⟩:=q;exact h2 pins s1 aV H' D I' q
 | ret v=>exact q
 | brk=>exact q
 | cont=>exact q
theorem aF(h1:PS X st t):eg X [st] t:=by
 intro pins s σ H D I h;refine wpAny_execs_cons (aQ (h1 pins s σ H D I h) λf s1 q=>?_);cases f with
 | next=>exact wpAny_execs_nil q
 | ret v=>exact q
 | brk=>exact q
 | cont=>exact q
theorem Inv.quiet{pins:List (Addr×Obj)}{σ:St}{H:Hp}{s:Shared}(I:Inv X pins σ H s):interactive X.env=false:=by simp[interactive,I.ok.kind]
noncomputable def Mb(te:TE):TS:=λD σ H=>te σ H λ_ H1=>D.nx σ H1
theorem cg(he:PE X e te)(hs:swapsWith e none pos.line X.env=pure false:=by rfl):PS X (.Expr e pos) (Mb te):=by
 intro pins s σ H D I h;exact wpAny_Expr_any (aQ (he pins s σ H _ I h) λv s1 ⟨x,H1,I1,r1,q1⟩=>⟨σ,H1,I1,q1⟩) I.quiet hs
noncomputable def DN(te:TE):TS:=λD σ H=>te σ H D.rt
theorem bD(he:PE X e te):PS X (.Return (some e) pos) (DN te):=by
 intro pins s σ H D I h;exact wpAny_Return_some (aQ (he pins s σ H _ I h) λv s1 ⟨x,H1,I1,r1,q1⟩=>⟨x,σ,H1,I1,r1,q1⟩)
noncomputable def X_:TS:=λD _ H=>D.rt .aH H
noncomputable def Mc(c:TT)(t u:TS):TS:=λD σ H=>c σ H λb H1=>if b=true then t D σ H1 else u D σ H1
theorem bA{c:Expr}{a b:List Stmt}{tc:TT}(hc:PT X c tc)(ha:eg X a t)(hb:eg X b u):PS X (.If c a b pos) (Mc tc t u):=by
 intro pins s σ H D I h;refine wpAny_If (aQ (hc pins s σ H _ I h) λd s1 ⟨H1,I1,q1⟩=>?_);cases d with
 | true=>exact ha pins s1 σ H1 D I1 q1
 | false=>exact hb pins s1 σ H1 D I1 q1
noncomputable def Me:TS:=λ_ _ _=>False
theorem fY{xG:List Stmt}:eg X xG Me:=λ_ _ _ _ _ _ h=>h.elim
end
noncomputable abbrev TG:=V->St->Hp->(St->Hp->Prop)->Prop
noncomputable abbrev kN:=List V->St->Hp->(St->Hp->Prop)->Prop
noncomputable def PG(X:Cx)(target:Expr)(t:TG):Prop :=
 ∀(pins:List (Addr×Obj)) (s:Shared) (σ:St) (H:Hp) (v:V) (u:Value) (Q:St->Hp->Prop),Inv X pins σ H s->RelV v u->t v σ H Q->
  wpAny (model X.prog X.w) X.A (assign target X.env u) (λ_ s'=>∃aV H',Inv X pins aV H' s'/\Q aV H') X.xe s
noncomputable def oh(X:Cx)(ts:List Expr)(t:kN):Prop :=
 ∀(pins:List (Addr×Obj)) (s:Shared) (σ:St) (H:Hp) (vs:List V) (us:List Value) (Q:St->Hp->Prop),Inv X pins σ H s->Vals vs us->t vs σ H Q->
  wpAny (model X.prog X.w) X.A (assignInOrder ((assignEach ts X.env).map (·.2)) us) (λ_ s'=>∃aV H',Inv X pins aV H' s'/\Q aV H') X.xe s
noncomputable abbrev Mf:=V->V->V->Hp->(Hp->Prop)->Prop
section
variable{X:Cx}{pos:Pos}
noncomputable def kO(i:Nat):TG:=λv σ H Q=>Q (σ.set i (some v)) H
theorem bH{i:Nat}{x:Str}(hN:X.N.Nodup)(hi:X.N[i]? = some x)(hx:Loc X.env.scope x)(hf:X.fn x=true\/X.env.scope.names.lookup x=some .local:=by first | exact .inl rfl | exact .inr rfl | assumption):PG X (.Name x pos) (kO i):=by
 intro pins s σ H v u Q I r h;exact wpAny_assign_Name (nX I hN hi hx r (λs' I'=>⟨_,H,I',h⟩) hf)
noncomputable def DO:kN:=λvs σ H Q=>vs = []/\Q σ H
noncomputable def xH(t:TG)(u:kN):kN:=λvs σ H Q=>∃v r,vs=v::r/\t v σ H λaV H'=>u r aV H' Q
theorem jK:oh X [] DO:=by
 intro pins s σ H vs us Q I r h;obtain⟨e,h⟩:=h;subst e;cases r;exact assignInOrder_nil ⟨σ,H,I,h⟩
theorem fj{e:Expr}{es:List Expr}{t:TG}{u:kN}(h1:PG X e t)(h2:oh X es u)
  (hs:(assignEach (e::es) X.env).map (·.2)=assign e X.env::(assignEach es X.env).map (·.2):=by rfl):oh X (e::es) (xH t u):=by
 intro pins s σ H vs us Q I r h;obtain⟨v,vr,e1,h⟩:=h;subst e1;cases r with
 | cons r rr =>
  rw[hs];refine assignInOrder_cons (aQ (h1 pins s σ H _ _ _ I r h) λ_ s1 ⟨gR,H1,I1,q1⟩=>?_);exact h2 pins s1 gR H1 _ _ Q I1 rr q1
noncomputable def DP(K:PySem.W.Frag)(n:Nat)(t:kN):TG:=λv σ H Q=>∃a xs,v = .ref a/\aJ K H a xs/\xs.length=n/\t xs σ H Q
theorem jL{es:List Expr}{k:Nat}{t:kN}{n:Nat}(hc:X.calm=true)(h:oh X es t)
  (hn:(assignEach es X.env).length=n:=by rfl) (cC:(assignEach es X.env).findIdx? (·.1)=none:=by rfl):PG X (.Tuple es k pos) (DP X.K n t):=by
 intro pins s σ H v u Q I r hw;obtain⟨a,xs,e1,hq,hl,hw⟩:=hw;subst e1;cases r;obtain⟨aB,rv,ht,hz⟩:=I.tuple hq;refine assign_Tuple_tuple (I.ok.hd hc) ht (by simp[hn,← hl,rv.length]) cC λh' hx=>?_
 have I1:Inv X pins σ H { s with heap:=h' }:=I.kept (t':=s.toks) λb o e=>hx b o (Nat.ne_of_lt (Heap.lt_size e)) e;exact h pins _ σ H xs _ Q I1 (by simpa using rv) hw
noncomputable def Yb(to ti:TE)(t:Mf):TG:=λv σ H Q=>to σ H λo H1=>ti σ H1 λi H2=>t o i v H2 λH3=>Q σ H3
noncomputable def xJ(te:TE)(g:TG):TS:=λD σ H=>te σ H λx H1=>g x σ H1 D.nx
theorem aX{i:Nat}{x:Str}{e:Expr}{te:TE}{pos':Pos}(hN:X.N.Nodup)(hi:X.N[i]? = some x)(hx:Loc X.env.scope x)(he:PE X e te)(hs:swapsWith e (some (.Name x pos')) pos.line X.env=pure false:=by rfl)(hf:X.fn x=true\/X.env.scope.names.lookup x=some .local:=by first | exact .inl rfl | exact .inr rfl | assumption) :
  PS X (.Assign [.Name x pos'] e pos) (xJ te (kO i)):=by
 intro pins s σ H D I h;refine wpAny_Assign_Name (aQ (he pins s σ H _ I h) λv s1 ⟨y,H1,I1,r1,q1⟩=>?_) hs;exact nX I1 hN hi hx r1 (λs2 I2=>⟨_,H1,I2,q1⟩) hf
end
section
variable{X:Cx}{pos:Pos}
end
structure It where
 go:Nat->Hp->Prop
 iF:Nat->Hp->V->Hp->Prop
 stop:Nat->Hp->Prop
noncomputable def gz(X:Cx)(pins:List (Addr×Obj))(H:Hp)(b:Addr):Prop :=
 H b=none/\b≠X.env.locals/\b∉X.fs/\(b∈X.ex\/X.aI.heap.objs.size<=b)/\(∀x c,X.env.cells.lookup x=some c->c≠b)/\∀p∈X.pn++pins,p.1≠b
theorem Inv.je{X:Cx}{pins:List (Addr×Obj)}{σ:St}{H H':Hp}{s:Shared}{b:Addr}(I:Inv X pins σ H s)(hb:s.heap.objs.size<=b)(hn:H' b=none):gz X pins H' b:=by
 refine⟨hn,Nat.ne_of_gt (Nat.lt_of_lt_of_le I.lt hb),I.LS hb,.inr (Nat.le_trans I.sz hb),λx c e z=>?_,λp hp z=>?_⟩
 ·obtain⟨v,q⟩:=I.cell x c e;exact absurd (Nat.lt_of_lt_of_le q.lt (by rw[z];exact hb)) (Nat.lt_irrefl _)
 ·exact absurd (Nat.lt_of_lt_of_le (Heap.lt_size (I.pin p hp).1) (by rw[z];exact hb)) (Nat.lt_irrefl _)
structure Turn(P:Program)(w:World)(K:PySem.W.Frag)(tg:Expr)(J:It)(fp:List Addr)(it:Addr)(tn:Nat->Heap->Prop):Prop where
 mem:it∈fp
 obj:∀i h,tn i h->∀b∈fp,∃o,h.get? b=some o/\∀v,o.data≠.cell v
 keep:∀i h h',tn i h->(∀b∈fp,∀o,h.get? b=some o->h'.get? b=some o)->tn i h'
 item:∀(X:Cx),X.prog=P->X.w=w->X.K=K->X.calm=true->∀(i:Nat) (pins:List (Addr×Obj)) (s:Shared) (σ:St) (H:Hp) (E:Value->Shared->Prop),Inv X pins σ H s->(∀b∈fp,gz X pins H b)->tn i s.heap->J.go i H->
  wpAny (model P w) X.A (pyNext (.ref it)) (λr s1=>∃u,r=some u/\
   wpAny (model P w) X.A (letOwnedTupleGo tg (.ref it) u) (λ_ s2=>∃x H',Inv X pins σ H' s2/\RelV x u/\J.iF i H x H'/\tn (i+1) s2.heap/\∀b∈fp,H' b=none) E s1) E s
 done:∀(X:Cx),X.prog=P->X.w=w->X.K=K->X.calm=true->∀(i:Nat) (pins:List (Addr×Obj)) (s:Shared) (σ:St) (H:Hp) (E:Value->Shared->Prop),Inv X pins σ H s->(∀b∈fp,gz X pins H b)->tn i s.heap->J.stop i H->
  wpAny (model P w) X.A (pyNext (.ref it)) (λr s1=>r=none/\Inv X pins σ H s1) E s
 self:∀(A:Around) (i:Nat) (s:Shared) (Q:Value->Shared->Prop) (E:Value->Shared->Prop),tn i s.heap->Q (.ref it) s->wpAny (model P w) A (pyIter (.ref it)) Q E s
noncomputable abbrev TI:=St->Hp->(It->Hp->Prop)->Prop
noncomputable def DQ(X:Cx)(pins:List (Addr×Obj))(σ:St)(tg:Expr)(R:It->Hp->Prop)(oq:Value)(s2:Shared):Prop :=
 ∃(it:Addr) (fp:List Addr) (tn:Nat->Heap->Prop) (J:It) (H':Hp),oq = .ref it/\Inv X pins σ H' s2/\Turn X.prog X.w X.K tg J fp it tn/\tn 0 s2.heap/\(∀b∈fp,gz X pins H' b)/\R J H'
noncomputable def PI(X:Cx)(tg iter:Expr)(wi:TI):Prop :=
 ∀(pins:List (Addr×Obj)) (s:Shared) (σ:St) (H:Hp) (R:It->Hp->Prop),Inv X pins σ H s->wi σ H R->
  wpAny (model X.prog X.w) X.A (eval iter X.env) (λv s1=>wpAny (model X.prog X.w) X.A (pyIter v) (DQ X pins σ tg R) X.xe s1) X.xe s
theorem xK{M:Model}{A:Around}{E:Value->Shared->Prop}{s:Shared}{tg:Expr}{it:Addr}{u:Value}{o:Obj}{n:String}{vs:Array Value}{Q:Unit->Shared->Prop}(ho:s.heap.get? it=some o)(hc:o.cls = .type n)(hd:o.data = .fields vs)
  (hn:["enumerate", "zip", "dict_itemiterator", "dict_reverseitemiterator", "odict_iterator", "itertools.zip_longest", "itertools.pairwise"].contains n=false) (hQ:Q () s):wpAny M A (letOwnedTupleGo tg (.ref it) u) Q E s:=by
 unfold letOwnedTupleGo;cases tg <;> first
  | exact wpAny_pure hQ
  | (cases u <;> first
    | exact wpAny_pure hQ
    | (refine wpAny_bind (wpAny_load ho ?_)
       rw[hc,hd]
       show wpAny M A (if (["enumerate", "zip", "dict_itemiterator", "dict_reverseitemiterator", "odict_iterator", "itertools.zip_longest", "itertools.pairwise"].contains n && vs[0]? == some (rawInt _))=true then _ else _) Q E s
       rw[if_neg (by intro h;rw[hn,Bool.false_and] at h;cases h)]
       exact wpAny_pure hQ))
noncomputable def jM(K:PySem.W.Frag)(a:Addr):It :=
 ⟨λi H=>∃xs x,aD K H a xs/\xs[i]? = some x,λi H x H'=>H' = H/\∀xs,aD K H a xs->xs[i]? = some x,λi H=>∃xs,aD K H a xs/\xs.length<=i⟩
noncomputable def ou(K:PySem.W.Frag)(a:Addr):It :=
 ⟨λi H=>∃xs x,aJ K H a xs/\xs[i]? = some x,λi H x H'=>H' = H/\∀xs,aJ K H a xs->xs[i]? = some x,λi H=>∃xs,aJ K H a xs/\xs.length<=i⟩
noncomputable def kP(lo:Int)(n:Nat):It:=⟨λi _=>i<n,λi H x H'=>H' = H/\x = .int (lo+i),λi _=>n<=i⟩
theorem Mg{P:Program}{w:World}{K:PySem.W.Frag}{tg:Expr}(a it:Addr):Turn P w K tg (jM K a) [it] it (λi h=>h.IsListIter it a i) where
 mem:=by simp
 obj:=λi h st b hb=>by
  have e:b=it:=by simpa using hb
  subst e;obtain⟨o,e,c,d⟩:=st;exact⟨o,e,λv z=>by rw[d] at z;cases z⟩
 keep:=λi h h' st k=>st.at λo e=>k it (by simp) o e
 item:=by
  intro X hP hw hK hc i pins s σ H E I hf st hg;subst hP hw hK;obtain⟨xs,x,hq,hx⟩:=hg;obtain⟨aB,rv,p,hz⟩:=I.list hq;obtain⟨u,hu,ru⟩:=rv.get hx;obtain⟨f0,f1,f2,f3,f4,f5⟩:=hf it (by simp)
  refine wpAny_pyNext_list_item st p.isList (x:=u) (by simpa using hu) λh' jN sb=>?_
  have I1:Inv X pins σ H { s with heap:=h' }:=I.turned (t':=s.toks) (λb o hb e=>(sb.2 b hb).trans e) f0 f1 f3 f4 f5;obtain⟨o,e,c,d⟩:=id jN;exact⟨u,rfl,xK (s:={ s with heap:=h' }) e c d (by decide) ⟨x,H,I1,ru,⟨rfl,λys hy=>by rw[I.DL hy hq];exact hx⟩,jN,λb hb=>(hf b hb).1⟩⟩
 done:=by
  intro X hP hw hK hc i pins s σ H E I hf st hg;subst hP hw hK;obtain⟨xs,hq,hx⟩:=hg;obtain⟨aB,rv,p,hz⟩:=I.list hq;obtain⟨f0,f1,f2,f3,f4,f5⟩:=hf it (by simp)
  have hl:=rv.length;exact wpAny_pyNext_list_end (I.ok.hd hc) st p.isList (by simp;lia) λh' eb=>⟨rfl,I.turned (t':=s.toks) (λb o hb e=>eb b o hb e) f0 f1 f3 f4 f5⟩
 self:=λ_ _ _ _ _ st h=>wpAny_pyIter_listiter st h
theorem Mh{P:Program}{w:World}{K:PySem.W.Frag}{tg:Expr}(a it:Addr):Turn P w K tg (ou K a) [it] it (λi h=>h.IsTupleIter it a i) where
 mem:=by simp
 obj:=λi h st b hb=>by
  have e:b=it:=by simpa using hb
  subst e;obtain⟨o,e,c,d⟩:=st;exact⟨o,e,λv z=>by rw[d] at z;cases z⟩
 keep:=λi h h' st k=>st.at λo e=>k it (by simp) o e
 item:=by
  intro X hP hw hK hc i pins s σ H E I hf st hg;subst hP hw hK;obtain⟨xs,x,hq,hx⟩:=hg;obtain⟨aB,rv,p,hz⟩:=I.tuple hq;obtain⟨u,hu,ru⟩:=rv.get hx;obtain⟨f0,f1,f2,f3,f4,f5⟩:=hf it (by simp)
  refine wpAny_pyNext_tuple_item st (show s.heap.IsTuple a aB.toArray from p) (x:=u) (by simpa using hu) λh' jN sb=>?_
  have I1:Inv X pins σ H { s with heap:=h' }:=I.turned (t':=s.toks) (λb o hb e=>(sb.2 b hb).trans e) f0 f1 f3 f4 f5;obtain⟨o,e,c,d⟩:=id jN;exact⟨u,rfl,xK (s:={ s with heap:=h' }) e c d (by decide) ⟨x,H,I1,ru,⟨rfl,λys hy=>by rw[I.L_ hy hq];exact hx⟩,jN,λb hb=>(hf b hb).1⟩⟩
 done:=by
  intro X hP hw hK hc i pins s σ H E I hf st hg;subst hP hw hK;obtain⟨xs,hq,hx⟩:=hg;obtain⟨aB,rv,p,hz⟩:=I.tuple hq;obtain⟨f0,f1,f2,f3,f4,f5⟩:=hf it (by simp)
  have hl:=rv.length;exact wpAny_pyNext_tuple_end (I.ok.hd hc) st (show s.heap.IsTuple a aB.toArray from p) (by simp;lia) λh' eb=>⟨rfl,I.turned (t':=s.toks) (λb o hb e=>eb b o hb e) f0 f1 f3 f4 f5⟩
 self:=λ_ _ _ _ _ st h=>wpAny_pyIter_tupleiter st h
theorem Mi{P:Program}{w:World}{K:PySem.W.Frag}{tg:Expr}(it:Addr)(lo:Int)(n:Nat):Turn P w K tg (kP lo n) [it] it (λi h=>IsRangeIter h it (lo+(i:Nat)*1) ((n:Int) - (i:Nat)) 1) where
 mem:=by simp
 obj:=λi h st b hb=>by
  have e:b=it:=by simpa using hb
  subst e;exact⟨_,st,λv z=>by
   have z':Data.fields _=Data.cell v:=z;cases z'⟩
 keep:=λi h h' st k=>k it (by simp) _ st
 item:=by
  intro X hP hw hK hc i pins s σ H E I hf st hg;subst hP hw hK;obtain⟨f0,f1,f2,f3,f4,f5⟩:=hf it (by simp)
  have W:=Walks.range (prog:=X.prog) (w:=X.w) (I.ok.hd hc) it lo 1 n;refine W.item i s _ _ hg st λv h' tk hv jN kk=>?_;obtain⟨t,rfl⟩:=hv;have I1:Inv X pins σ H { s with heap:=h',toks:=tk }:=I.turned (λb o hb e=>kk b o (by simpa using hb) e) f0 f1 f3 f4 f5
  refine⟨_,rfl,xK (s:={ s with heap:=h',toks:=tk }) (n := "range_iterator") jN rfl rfl (by decide) ⟨.int (lo+i),H,I1,⟨t,?_⟩,⟨rfl,rfl⟩,jN,λb hb=>(hf b hb).1⟩⟩
  rw[Int.mul_one]
 done:=by
  intro X hP hw hK hc i pins s σ H E I hf st hg;subst hP hw hK;obtain⟨f0,f1,f2,f3,f4,f5⟩:=hf it (by simp)
  exact wpAny_pyNext_range_end (I.ok.hd hc) st (by have:n<=i:=hg;lia) λh' eb=>⟨rfl,I.turned (t':=s.toks) (λb o hb e=>eb b o hb e) f0 f1 f3 f4 f5⟩
 self:=λ_ _ _ _ _ st h=>wpAny_pyIter_rangeiter st h
section
variable{X:Cx}{tg:Expr}
noncomputable def mh(K:PySem.W.Frag)(tl:TE):TI:=λσ H R=>tl σ H λx H1=>∃a,x = .ref a/\(∃xs,aD K H1 a xs)/\R (jM K a) H1
noncomputable def xM(K:PySem.W.Frag)(tl:TE):TI:=λσ H R=>tl σ H λx H1=>∃a,x = .ref a/\(∃xs,aJ K H1 a xs)/\R (ou K a) H1
theorem fZ{l:Expr}{tl:TE}(hl:PE X l tl):PI X tg l (mh X.K tl):=by
 intro pins s σ H R I h;refine aQ (hl pins s σ H _ I h) λv s1 ⟨x,H1,I1,r1,q1⟩=>?_;obtain⟨a,e,⟨xs,hq⟩,q⟩:=q1;subst e;cases r1;obtain⟨aB,rv,p,hz⟩:=I1.list hq;refine wpAny_pyIter_list p.isList ?_;refine⟨s1.heap.objs.size,[s1.heap.objs.size],_,_,H1,rfl,I1.kept (t':=s1.toks) λb o e=>Heap.get?_push_of_some _ e,Mg a _,⟨_,Heap.get?_push_size _ rfl,rfl,rfl⟩,λb hb=>?_,q⟩;have e:b=s1.heap.objs.size:=by simpa using hb
 subst e;exact I1.je (Nat.le_refl _) (I1.aC.fresh (Nat.le_refl _))
theorem rM{l:Expr}{tl:TE}(hl:PE X l tl):PI X tg l (xM X.K tl):=by
 intro pins s σ H R I h;refine aQ (hl pins s σ H _ I h) λv s1 ⟨x,H1,I1,r1,q1⟩=>?_;obtain⟨a,e,⟨xs,hq⟩,q⟩:=q1;subst e;cases r1;obtain⟨aB,rv,p,hz⟩:=I1.tuple hq;refine wpAny_pyIter_tuple (show s1.heap.IsTuple a aB.toArray from p) ?_;refine⟨s1.heap.objs.size,[s1.heap.objs.size],_,_,H1,rfl,I1.kept (t':=s1.toks) λb o e=>Heap.get?_push_of_some _ e,Mh a _,⟨_,Heap.get?_push_size _ rfl,rfl,rfl⟩,λb hb=>?_,q⟩;have e:b=s1.heap.objs.size:=by simpa using hb
 subst e;exact I1.je (Nat.le_refl _) (I1.aC.fresh (Nat.le_refl _))
theorem DR{pins:List (Addr×Obj)}{σ:St}{H:Hp}{s:Shared}{R:It->Hp->Prop}{E:Value->Shared->Prop}{lo hi:Int}{t u v:Tok}{tk:Nat}(I:Inv X pins σ H s)(h1 : -(2 ^ 62)<=lo)(h2:lo<2 ^ 62)(h3 : -(2 ^ 62)<=hi)(h4:hi<2 ^ 62)
  (q:R (kP lo (hi - lo).toNat) H):wpAny (model X.prog X.w) X.A (pyIter (.ref s.heap.objs.size)) (DQ X pins σ tg R) E { s with heap:=s.heap.push { cls:=.type "range",data:=.fields #[.int lo t,.int hi u,.int 1 v] },toks:=tk }:=by
 refine wpAny_pyIter_range (IsRange.new ..) (small_one h1 h2 h3 h4) ?_;have I1:Inv X pins σ H { s with heap:=s.heap.push { cls:=.type "range",data:=.fields #[.int lo t,.int hi u,.int 1 v] },toks:=tk }:=I.kept λb o e=>Heap.get?_push_of_some _ e;refine⟨(s.heap.push { cls:=.type "range",data:=.fields #[.int lo t,.int hi u,.int 1 v] }).objs.size,[(s.heap.push { cls:=.type "range",data:=.fields #[.int lo t,.int hi u,.int 1 v] }).objs.size],_,_,H,rfl,
  I1.kept (t':=tk) λb o e=>Heap.get?_push_of_some _ e,Mi _ lo (hi - lo).toNat,?_,λb hb=>?_,q⟩
 ·have e1:lo+((0:Nat):Int)*1=lo:=by simp
  have e2:(((hi - lo).toNat:Nat):Int) - ((0:Nat):Int)=Builtin.Range.rangeSize lo hi 1:=by rw[rangeSize_one];split <;> lia
  show IsRangeIter _ _ (lo+((0:Nat):Int)*1) ((((hi - lo).toNat:Nat):Int) - ((0:Nat):Int)) 1;rw[e1,e2];exact Heap.get?_push_size _ rfl
 ·have e:b=(s.heap.push { cls:=.type "range",data:=.fields #[.int lo t,.int hi u,.int 1 v] }).objs.size:=by simpa using hb
  subst e;exact I1.je (Nat.le_refl _) (I1.aC.fresh (Nat.le_refl _))
noncomputable def ow(ta:TA):TI:=λσ H R=>ta σ H λvs H1=>∃j:Int,vs = [.int j]/\-(2 ^ 62)<=j/\j<2 ^ 62/\R (kP 0 j.toNat) H1
noncomputable def oz(ta:TA):TI:=λσ H R=>ta σ H λvs H1=>∃i j:Int,vs = [.int i,.int j]/\(-(2 ^ 62)<=i/\i<2 ^ 62/\-(2 ^ 62)<=j/\j<2 ^ 62)/\R (kP i (j - i).toNat) H1
theorem iG{a:Expr}{ta:TA}{p pos:Pos}(hg:Gl X "range")(hm:X.mg "range" = none)(ha:PA X [a] ta)(hs:starEach [a] X.env = [(false,eval a X.env)]:=by rfl):PI X tg (.Call (.Name "range" p) [a] [] pos) (ow ta):=by
 intro pins s σ H R I h;refine Call_ (l_ I hg hm boot_range (PyProof.Rows.callWith_type1 (aQ (ha pos pins s σ H _ I h) λus s1 ⟨vs,H1,I1,r1,q1⟩=>?_) hs rfl));obtain⟨j,e,q1,q2,q⟩:=q1;subst e;cases r1 with
 | cons r rr =>
  cases rr;obtain⟨t,rfl⟩:=r;exact call_range_1 (DR I1 (by lia) (by lia) q1 q2 (by simpa using q))
theorem kQ{a b:Expr}{ta:TA}{p pos:Pos}(hg:Gl X "range")(hm:X.mg "range" = none)(ha:PA X [a,b] ta)(hs:starEach [a,b] X.env = [(false,eval a X.env),(false,eval b X.env)]:=by rfl)(eo:starEach [b] X.env = [(false,eval b X.env)]:=by rfl) :
  PI X tg (.Call (.Name "range" p) [a,b] [] pos) (oz ta):=by
 intro pins s σ H R I h;refine Call_ (l_ I hg hm boot_range (PyProof.Rows.callWith_type1 (aQ (ha pos pins s σ H _ I h) λus s1 ⟨vs,H1,I1,r1,q1⟩=>?_) (by rw[hs,eo]) (by rw[eo];rfl)))
 obtain⟨i,j,e,⟨q1,q2,q3,q4⟩,q⟩:=q1;subst e;cases r1 with
 | cons r rr =>
  cases rr with
  | cons r' rr =>
   cases rr;obtain⟨t,rfl⟩:=r;obtain⟨t',rfl⟩:=r';exact call_range_2 (DR I1 q1 q2 q3 q4 q)
noncomputable def f9(wi:TI)(g:TG)(tb:TS):TS:=λD σ H=>wi σ H λJ H1=>∃W:Nat->Nat->St->Hp->Prop,(∃m,W 0 m σ H1)/\∀i m σ H,W i m σ H->
 (J.stop i H/\D.nx σ H)\/(J.go i H/\∃N:St->Hp->Prop,(∀aV H',N aV H'->∃m',m' < m/\W (i+1) m' aV H')/\∀x H',J.iF i H x H'->g x σ H' λau H2=>tb { D with nx:=N,ct:=N,bk:=D.nx } au H2)
noncomputable def mq(fp:List Addr)(h:Heap):List (Addr×Obj):=fp.filterMap λb=>(h.get? b).map λo=>(b,o)
theorem mw{fp:List Addr}{h:Heap}{b:Addr}{o:Obj}(hb:b∈fp)(e:h.get? b=some o):(b,o)∈mq fp h:=List.mem_filterMap.mpr ⟨b,hb,by rw[e];rfl⟩
theorem Mj{fp:List Addr}{h:Heap}{p:Addr×Obj}(hp:p∈mq fp h):p.1∈fp/\h.get? p.1=some p.2:=by
 obtain⟨b,hb,e⟩:=List.mem_filterMap.mp hp;cases q:h.get? b with
 | none=>rw[q] at e;cases e
 | some o =>
  rw[q] at e;have e':(b,o)=p:=Option.some.inj e;subst e';exact⟨hb,q⟩
theorem Inv.pinned{pins:List (Addr×Obj)}{σ:St}{H:Hp}{s:Shared}{fp:List Addr}(I:Inv X pins σ H s)(hf:∀b∈fp,gz X pins H b)(ho:∀b∈fp,∃o,s.heap.get? b=some o/\∀v,o.data≠.cell v):Inv X (pins++mq fp s.heap) σ H s :=
 I.DA λp hp=>(List.mem_append.mp hp).elim (λz=>I.pin p (List.mem_append_right _ z)) λz=>by
  obtain⟨hb,e⟩:=Mj z;obtain⟨f0,f1,f2,_⟩:=hf p.1 hb;obtain⟨o,e',d⟩:=ho p.1 hb;rw[e] at e';cases e';exact⟨e,f0,f1,f2,d⟩
theorem Inv.kR{pins pl:List (Addr×Obj)}{σ:St}{H:Hp}{s:Shared}(I:Inv X (pins++pl) σ H s):Inv X pins σ H s:=I.DA λp hp=>I.pin p (List.mem_append_right _ (List.mem_append_left _ hp))
theorem cR{iter:Expr}{body:List Stmt}{wi:TI}{g:TG}{tb:TS}{pos:Pos}(hp:PassesOwn (model X.prog X.w) X.A X.env X.xe)(hc:X.calm=true)(hi:PI X tg iter wi)(hg:PG X tg g)(hb:eg X body tb)
  (hs:∀x,foldedSetIterable iter X.env x=pure x:=by intro _;rfl):PS X (.For tg iter body [] pos) (f9 wi g tb):=by
 intro pins s σ H D I h;refine wpAny_For (aQ (hi pins s σ H _ I h) λv s1 h1=>aQ h1 λoq s2 h2=>?_) hs;obtain⟨it,fp,tn,J,H2,e,I2,T,f_,f2,W,⟨m0,w0⟩,turn⟩:=h2;subst e
 -- what stays true of the iterator's objects through the loop
 have gS:∀ {H':Hp},(∀b∈fp,H' b=none)->∀b∈fp,gz X pins H' b:=λhn b hb=>⟨hn b hb,(f2 b hb).2⟩;refine codeAny_forLoop_any (λn s'=>∃i aV H',Inv X pins aV H' s'/\tn i s'.heap/\(∀b∈fp,H' b=none)/\W i n aV H') ?_ m0 ⟨0,σ,H2,I2,f_,λb hb=>(f2 b hb).1,w0⟩;rintro n s3 ⟨i,fE,H3,I3,jO,gb,w3⟩;rcases turn i n fE H3 w3 with⟨stop,qn⟩ | ⟨go,N,hN,step⟩
 ·refine wpAny_passesOwn hp (aQ (T.done X rfl rfl rfl hc i pins s3 fE H3 X.xe I3 (gS gb) jO stop) λr s4 ⟨hr,I4⟩=>?_);subst hr;exact wpAny_execs_nil ⟨fE,H3,I4,qn⟩
 ·refine wpAny_passesOwn hp (aQ (T.item X rfl rfl rfl hc i pins s3 fE H3 X.xe I3 (gS gb) jO go) λr s4 ⟨u,hr,h4⟩=>?_);subst hr;refine wpAny_passesOwn hp (aQ h4 λ_ s5 ⟨x,H5,I5,r5,y5,gT,oA⟩=>?_);have oB:=I5.pinned (gS oA) (T.obj _ _ gT);refine wpAny_passesOwn hp (aQ (hg _ s5 fE H5 x u _ oB r5 (step x H5 y5)) λ_ s6 ⟨fF,H6,I6,q6⟩=>?_);refine wpAny_passesOwn hp (aQ (hb _ s6 fF H6 _ I6 q6) λf s7 q7=>?_);have again:∀ {eL:St} {H7:Hp},Inv X (pins++mq fp s5.heap) eL H7 s7->N eL H7->∃m,m<n/\∃i aV H',Inv X pins aV H' s7/\tn i s7.heap/\(∀b∈fp,H' b=none)/\W i m aV H':=λ{eL H7} I7 n7=>by
   obtain⟨m',hm,w7⟩:=hN eL H7 n7;refine⟨m',hm,i+1,eL,H7,I7.kR,T.keep _ _ _ gT λb hb o e=>(I7.pin (b,o) (List.mem_append_right _ (List.mem_append_right _ (mw hb e)))).1,λb hb=>?_,w7⟩;obtain⟨o,e,d⟩:=T.obj _ _ gT b hb;exact(I7.pin (b,o) (List.mem_append_right _ (List.mem_append_right _ (mw hb e)))).2.1
  cases f with
  | next=>obtain⟨eL,H7,I7,n7⟩:=q7;exact again I7 n7
  | cont=>obtain⟨eL,H7,I7,n7⟩:=q7;exact again I7 n7
  | brk=>obtain⟨eL,H7,I7,q7⟩:=q7;exact⟨eL,H7,I7.kR,q7⟩
  | ret v=>obtain⟨x7,eL,H7,I7,r7,q7⟩:=q7;exact⟨x7,eL,H7,I7.kR,r7,q7⟩
end
theorem DS{K:PySem.W.Frag}{a:Addr}{xs:List V}{g:TG}{tb:TS}{D:Ends}{σ:St}{H:Hp}(Pv:Nat->St->Hp->Prop)(h0:Pv 0 σ H)(hl:∀i σ H,i<=xs.length->Pv i σ H->aD K H a xs)
  (hs:∀i x σ H,xs[i]? = some x->Pv i σ H->g x σ H λau H2=>tb { D with nx:=Pv (i+1),ct:=Pv (i+1),bk:=D.nx } au H2) (hd:∀σ H,Pv xs.length σ H->D.nx σ H) :
  ∃W:Nat->Nat->St->Hp->Prop,(∃m,W 0 m σ H)/\∀i m σ H,W i m σ H->
   ((jM K a).stop i H/\D.nx σ H)\/((jM K a).go i H/\∃N:St->Hp->Prop,(∀aV H',N aV H'->∃m',m' < m/\W (i+1) m' aV H')/\∀x H',(jM K a).iF i H x H'->g x σ H' λau H2=>tb { D with nx:=N,ct:=N,bk:=D.nx } au H2):=by
 refine⟨λi m σ H=>m=xs.length - i/\i<=xs.length/\Pv i σ H,⟨xs.length,by simp,Nat.zero_le _,h0⟩,?_⟩
 rintro i m σ H ⟨rfl,hi,p⟩;have q:=hl i σ H hi p;by_cases bV:i<xs.length
 ·refine .inr ⟨⟨xs,xs[i],q,by simp[bV]⟩,Pv (i+1),λaV H' p'=>⟨xs.length - (i+1),by lia,rfl,bV,p'⟩,λx H' y=>?_⟩
  obtain⟨e,y⟩:=y;subst e;exact hs i x σ _ (y xs q) p
 ·have e:i=xs.length:=by lia
  subst e;exact .inl ⟨⟨xs,q,Nat.le_refl _⟩,hd σ H p⟩
theorem DT{K:PySem.W.Frag}{a:Addr}{xs:List V}{g:TG}{tb:TS}{D:Ends}{σ:St}{H:Hp}(Pv:Nat->St->Hp->Prop)(h0:Pv 0 σ H)(hl:∀i σ H,i<=xs.length->Pv i σ H->aJ K H a xs)
  (hs:∀i x σ H,xs[i]? = some x->Pv i σ H->g x σ H λau H2=>tb { D with nx:=Pv (i+1),ct:=Pv (i+1),bk:=D.nx } au H2) (hd:∀σ H,Pv xs.length σ H->D.nx σ H) :
  ∃W:Nat->Nat->St->Hp->Prop,(∃m,W 0 m σ H)/\∀i m σ H,W i m σ H->
   ((ou K a).stop i H/\D.nx σ H)\/((ou K a).go i H/\∃N:St->Hp->Prop,(∀aV H',N aV H'->∃m',m' < m/\W (i+1) m' aV H')/\∀x H',(ou K a).iF i H x H'->g x σ H' λau H2=>tb { D with nx:=N,ct:=N,bk:=D.nx } au H2):=by
 refine⟨λi m σ H=>m=xs.length - i/\i<=xs.length/\Pv i σ H,⟨xs.length,by simp,Nat.zero_le _,h0⟩,?_⟩
 rintro i m σ H ⟨rfl,hi,p⟩;have q:=hl i σ H hi p;by_cases bV:i<xs.length
 ·refine .inr ⟨⟨xs,xs[i],q,by simp[bV]⟩,Pv (i+1),λaV H' p'=>⟨xs.length - (i+1),by lia,rfl,bV,p'⟩,λx H' y=>?_⟩
  obtain⟨e,y⟩:=y;subst e;exact hs i x σ _ (y xs q) p
 ·have e:i=xs.length:=by lia
  subst e;exact .inl ⟨⟨xs,q,Nat.le_refl _⟩,hd σ H p⟩
theorem xN{lo:Int}{n:Nat}{g:TG}{tb:TS}{D:Ends}{σ:St}{H:Hp}(Pv:Nat->St->Hp->Prop)(h0:Pv 0 σ H)
  (hs:∀i σ H,i<n->Pv i σ H->g (.int (lo+i)) σ H λau H2=>tb { D with nx:=Pv (i+1),ct:=Pv (i+1),bk:=D.nx } au H2) (hd:∀σ H,Pv n σ H->D.nx σ H) :
  ∃W:Nat->Nat->St->Hp->Prop,(∃m,W 0 m σ H)/\∀i m σ H,W i m σ H->
   ((kP lo n).stop i H/\D.nx σ H)\/((kP lo n).go i H/\∃N:St->Hp->Prop,(∀aV H',N aV H'->∃m',m' < m/\W (i+1) m' aV H')/\∀x H',(kP lo n).iF i H x H'->g x σ H' λau H2=>tb { D with nx:=N,ct:=N,bk:=D.nx } au H2):=by
 refine⟨λi m σ H=>m=n - i/\i<=n/\Pv i σ H,⟨n,by simp,Nat.zero_le _,h0⟩,?_⟩
 rintro i m σ H ⟨rfl,hi,p⟩;by_cases bV:i<n
 ·refine .inr ⟨bV,Pv (i+1),λaV H' p'=>⟨n - (i+1),by lia,rfl,bV,p'⟩,λx H' y=>?_⟩
  obtain⟨e,y⟩:=y;subst e y;exact hs i σ _ bV p
 ·have e:i=n:=by lia
  subst e;exact .inl ⟨Nat.le_refl _,hd σ H p⟩
noncomputable abbrev R2:=V->V->Hp->VK->Prop
noncomputable def cT(X:Cx)(f:Value->Value->Sem Value)(r:R2):Prop :=
 ∀(pins:List (Addr×Obj)) (s:Shared) (σ:St) (H:Hp) (x y:V) (v u:Value) (Q:VK),Inv X pins σ H s->RelV x v->RelV y u->r x y H Q->
  wpAny (model X.prog X.w) X.A (f v u) (EP X pins σ Q) X.xe s
noncomputable def xO(X:Cx)(f:Value->Sem Value)(r:V->Hp->VK->Prop):Prop :=
 ∀(pins:List (Addr×Obj)) (s:Shared) (σ:St) (H:Hp) (x:V) (v:Value) (Q:VK),Inv X pins σ H s->RelV x v->r x H Q->
  wpAny (model X.prog X.w) X.A (f v) (EP X pins σ Q) X.xe s
noncomputable def gA(X:Cx)(f:Value)(r:List V->Hp->VK->Prop):Prop :=
 ∀(pins:List (Addr×Obj)) (s:Shared) (σ:St) (H:Hp) (xs:List V) (us:List Value) (Q:VK),Inv X pins σ H s->Vals xs us->r xs H Q->
  wpAny (model X.prog X.w) X.A (call f us) (EP X pins σ Q) X.xe s
noncomputable def rN(r:R2)(ta tb:TE):TE:=λσ H Q=>ta σ H λx H1=>tb σ H1 λy H2=>r x y H2 Q
noncomputable def Ml(r:V->Hp->VK->Prop)(ta:TE):TE:=λσ H Q=>ta σ H λx H1=>r x H1 Q
noncomputable def rI(C:Int->Int->Prop)(g:Int->Int->V):R2:=λx y H Q=>∃i j,x = .int i/\y = .int j/\C i j/\Q (g i j) H
noncomputable def kU(g:Int->Int->V):R2:=λx y H Q=>∃i j,x = .int i/\y = .int j/\Q (g i j) H
noncomputable def rU(g:Int->V):V->Hp->VK->Prop:=λx H Q=>∃i,x = .int i/\Q (g i) H
section
variable{X:Cx}{a b c:Expr}{ta tb tc:TE}{pos:Pos}
theorem xP(ha:PE X a ta)(hb:PE X b tb){pins:List (Addr×Obj)}{s:Shared}{σ:St}{H:Hp}{R:V->V->Hp->Prop}(I:Inv X pins σ H s)
  (h:ta σ H λx H1=>tb σ H1 λy H2=>R x y H2) {Q:Value->Shared->Prop} {f:Value->Value->Sem Value}
  (hf:∀v u s2 x y H2,Inv X pins σ H2 s2->RelV x v->RelV y u->R x y H2->wpAny (model X.prog X.w) X.A (f v u) Q X.xe s2) :
  wpAny (model X.prog X.w) X.A (eval a X.env) (λv aO=>wpAny (model X.prog X.w) X.A (eval b X.env) (λu b_=>wpAny (model X.prog X.w) X.A (f v u) Q X.xe b_) X.xe aO) X.xe s:=by
 refine aQ (ha pins s σ H _ I h) λv s1 ⟨x,H1,I1,r1,q1⟩=>?_;refine aQ (hb pins s1 σ H1 _ I1 q1) λu s2 ⟨y,H2,I2,r2,q2⟩=>?_;exact hf v u s2 x y H2 I2 r1 r2 q2
theorem aA{op:Operator}{r:R2}(ho:cT X (binaryOp op) r)(ha:PE X a ta)(hb:PE X b tb):PE X (.BinOp a op b pos) (rN r ta tb):=by
 intro pins s σ H Q I h;exact wpAny_BinOp (xP ha hb I h λv u s2 x y H2 I2 rx ry q=>ho pins s2 σ H2 x y v u Q I2 rx ry q)
theorem xQ{op:UnaryOp}{r:V->Hp->VK->Prop}(ho:xO X (unaryOp op) r)(ha:PE X a ta):PE X (.UnaryOp op a pos) (Ml r ta):=by
 intro pins s σ H Q I h;exact UnaryOp_ (aQ (ha pins s σ H _ I h) λv s1 ⟨x,H1,I1,r1,q1⟩=>ho pins s1 σ H1 x v Q I1 r1 q1)
theorem rO{f:Value->Value->Sem Value}{C:Int->Int->Prop}{g:Int->Int->Int}
  (rule:∀(i j:Int) (t u:Tok) (s:Shared) (Q:Value->Shared->Prop) (E:Value->Shared->Prop),C i j->Q (.int (g i j) s.toks) { s with toks:=s.toks+1 }->wpAny (model X.prog X.w) X.A (f (.int i t) (.int j u)) Q E s) :
  cT X f (rI C λi j=>.int (g i j)):=by
 intro pins s σ H x y v u Q I rx ry h;obtain⟨i,j,rfl,rfl,hc,q⟩:=h;obtain⟨t,rfl⟩:=rx;obtain⟨t',rfl⟩:=ry;exact rule i j t t' s _ _ hc ⟨.int (g i j),H,I.tok _,⟨_,rfl⟩,q⟩
theorem DU{f:Value->Value->Sem Value}{g:Int->Int->Int}
  (rule:∀(i j:Int) (t u:Tok) (s:Shared) (Q:Value->Shared->Prop) (E:Value->Shared->Prop),Q (.int (g i j) s.toks) { s with toks:=s.toks+1 }->wpAny (model X.prog X.w) X.A (f (.int i t) (.int j u)) Q E s) :
  cT X f (kU λi j=>.int (g i j)):=by
 intro pins s σ H x y v u Q I rx ry h;obtain⟨i,j,rfl,rfl,q⟩:=h;obtain⟨t,rfl⟩:=rx;obtain⟨t',rfl⟩:=ry;exact rule i j t t' s _ _ ⟨.int (g i j),H,I.tok _,⟨_,rfl⟩,q⟩
theorem xR{f:Value->Value->Sem Value}{g:Int->Int->Bool}
  (rule:∀(i j:Int) (t u:Tok) (s:Shared) (Q:Value->Shared->Prop) (E:Value->Shared->Prop),Q (.bool (g i j)) s->wpAny (model X.prog X.w) X.A (f (.int i t) (.int j u)) Q E s) :
  cT X f (kU λi j=>.bl (g i j)):=by
 intro pins s σ H x y v u Q I rx ry h;obtain⟨i,j,rfl,rfl,q⟩:=h;obtain⟨t,rfl⟩:=rx;obtain⟨t',rfl⟩:=ry;exact rule i j t t' s _ _ ⟨.bl (g i j),H,I,rfl,q⟩
noncomputable def Mm(i j:Int):Prop:=0<j/\j<1073741824
noncomputable def Mn(i j:Int):Prop:=0<=j/\j<=1000000/\i.natAbs<2 ^ 64
noncomputable def xS(i j:Int):Prop:=(-(2 ^ 64)<i/\i<2 ^ 64)\/(-(2 ^ 64)<j/\j<2 ^ 64)
theorem xS.ok{i j:Int}(h:xS i j):IntMulOk i j:=by
 rcases h with⟨h1,h2⟩ | ⟨h1,h2⟩
 ·exact .of_left (intBits_le_64 h1 h2)
 ·exact .of_right (intBits_le_64 h1 h2)
theorem bF:cT X (binaryOp .Add) (kU λi j=>.int (i+j)):=DU λ_ _ _ _ _ _ _ q=>add_int q
theorem dU:cT X (binaryOp .Sub) (kU λi j=>.int (i - j)):=DU λ_ _ _ _ _ _ _ q=>sub_int q
theorem jf:cT X (binaryOp .Mult) (rI xS λi j=>.int (i*j)):=rO λ_ _ _ _ _ _ _ hc q=>mul_int q hc.ok
theorem rP:cT X (binaryOp .FloorDiv) (rI Mm λi j=>.int (i / j)):=rO λi j _ _ _ _ _ hc q=>by
 have h1:(0:Int)<j:=hc.1;have h2:j<1073741824:=hc.2;exact floordiv_int (by lia) (by rw[Int.fdiv_eq_ediv_of_nonneg i (by lia)];exact q) (.inl (PyProof.noPylong_small (by lia)))
theorem bG:cT X (binaryOp .Mod) (rI (λ_ j=>0<j) λi j=>.int (i % j)):=rO λi j _ _ _ _ _ hc q=>by
 have h1:(0:Int)<j:=hc;exact mod_int' (by lia) (by rw[Int.fmod_eq_emod_of_nonneg i (by lia)];exact q)
theorem mz:cT X (binaryOp .Pow) (rI Mn λi j=>.int (i ^ j.toNat)):=rO λ_ _ _ _ _ _ _ hc q=>pow_int_small hc.1 hc.2.1 hc.2.2 q
theorem Mp{f:Value->Sem Value}{g:Int->Int}
  (rule:∀(i:Int) (t:Tok) (s:Shared) (Q:Value->Shared->Prop) (E:Value->Shared->Prop),Q (.int (g i) s.toks) { s with toks:=s.toks+1 }->wpAny (model X.prog X.w) X.A (f (.int i t)) Q E s) :
  xO X f (rU λi=>.int (g i)):=by
 intro pins s σ H x v Q I rx h;obtain⟨i,rfl,q⟩:=h;obtain⟨t,rfl⟩:=rx;exact rule i t s _ _ ⟨.int (g i),H,I.tok _,⟨_,rfl⟩,q⟩
theorem xT:xO X (unaryOp .USub) (rU λi=>.int (-i)):=Mp λ_ _ _ _ _ q=>neg_int q
end
noncomputable def iH:V->V->Bool
 | .aH,.aH=>true | .aH,.int _=>true | .int _,.aH=>true | .aH,.bl _=>true | .bl _,.aH=>true | .aH,.str _=>true | .str _,.aH=>true
 | .int _,.int _=>true | .bl _,.bl _=>true | .str _,.str _=>true | .gr _,.gr _=>true
 | .int _,.str _=>true | .str _,.int _=>true | .bl _,.str _=>true | .str _,.bl _=>true
 | _,_=>false
noncomputable def Mq:R2:=λx y H Q=>iH x y=true/\Q (.bl (decide (x=y))) H
noncomputable def Mr:R2:=λx y H Q=>iH x y=true/\Q (.bl (!decide (x=y))) H
theorem DV{i j:Int}:decide (V.int i=V.int j)=(i == j):=by
 rw[Bool.eq_iff_iff];simp
theorem DW{i j:Bool}:decide (V.bl i=V.bl j)=(i == j):=by
 rw[Bool.eq_iff_iff];simp
theorem DX{i j:Str}:decide (V.str i=V.str j)=(i == j):=by
 rw[Bool.eq_iff_iff];simp
theorem DY{i j:Array UInt8}:decide (V.gr i=V.gr j)=(i.toList == j.toList):=by
 rw[Bool.eq_iff_iff];cases i;cases j;simp
section
variable{X:Cx}{a b c:Expr}{ta tb tc:TE}{pos:Pos}
theorem cj{pins:List (Addr×Obj)}{σ:St}{H:Hp}{s:Shared}{Q:VK}{k k':Bool}(I:Inv X pins σ H s)(q:Q (.bl k) H)(e:k=k'):EP X pins σ Q (.bool k') s:=by
 subst e;exact⟨.bl k,H,I,rfl,q⟩
theorem b7:cT X (compareOp .Eq) Mq:=by
 intro pins s σ H x y v u Q I rx ry h;obtain⟨hs,q⟩:=h;cases x with
 | aH =>
  cases rx;cases y with
  | aH=>cases ry;exact PySem.EqNone.eq_none_none (cj I q (by simp))
  | bl j=>cases ry;exact PySem.EqNone.eq_none_bool (cj I q (by simp))
  | int j=>obtain⟨t',rfl⟩:=ry;exact PySem.EqNone.eq_none_int (cj I q (by simp))
  | str j=>obtain⟨t',rfl⟩:=ry;exact PySem.EqNone.eq_none_str (cj I q (by simp))
  | _=>exact absurd (show false=true from hs) Bool.false_ne_true
 | bl i =>
  cases rx;cases y with
  | aH=>cases ry;exact PySem.EqNone.eq_bool_none (cj I q (by simp))
  | bl j=>cases ry;exact eq_bool (cj I q DW)
  | str j=>obtain⟨t',rfl⟩:=ry;exact PySem.EqMixed.eq_bool_str (cj I q (by simp))
  | _=>exact absurd (show false=true from hs) Bool.false_ne_true
 | int i =>
  obtain⟨t,rfl⟩:=rx;cases y with
  | aH=>cases ry;exact PySem.EqNone.eq_int_none (cj I q (by simp))
  | int j=>obtain⟨t',rfl⟩:=ry;exact eq_int (cj I q DV)
  | str j=>obtain⟨t',rfl⟩:=ry;exact PySem.EqMixed.eq_int_str (cj I q (by simp))
  | _=>exact absurd (show false=true from hs) Bool.false_ne_true
 | str i =>
  obtain⟨t,rfl⟩:=rx;cases y with
  | aH=>cases ry;exact PySem.EqNone.eq_str_none (cj I q (by simp))
  | bl j=>cases ry;exact PySem.EqMixed.eq_str_bool (cj I q (by simp))
  | int j=>obtain⟨t',rfl⟩:=ry;exact PySem.EqMixed.eq_str_int (cj I q (by simp))
  | str j=>obtain⟨t',rfl⟩:=ry;exact eq_str (cj I q DX)
  | _=>exact absurd (show false=true from hs) Bool.false_ne_true
 | gr i =>
  obtain⟨t,rfl⟩:=rx;cases y with
  | gr j=>obtain⟨t',rfl⟩:=ry;exact PySem.W.eq_bytes (cj I q DY)
  | _=>exact absurd (show false=true from hs) Bool.false_ne_true
 | _=>cases y <;> exact absurd (show false=true from hs) Bool.false_ne_true
theorem fR:cT X (compareOp .NotEq) Mr:=by
 intro pins s σ H x y v u Q I rx ry h;obtain⟨hs,q⟩:=h;cases x with
 | aH =>
  cases rx;cases y with
  | aH=>cases ry;exact PySem.EqNone.ne_none_none (cj I q (by simp))
  | bl j=>cases ry;exact PySem.EqNone.ne_none_bool (cj I q (by simp))
  | int j=>obtain⟨t',rfl⟩:=ry;exact PySem.EqNone.ne_none_int (cj I q (by simp))
  | str j=>obtain⟨t',rfl⟩:=ry;exact PySem.EqNone.ne_none_str (cj I q (by simp))
  | _=>exact absurd (show false=true from hs) Bool.false_ne_true
 | bl i =>
  cases rx;cases y with
  | aH=>cases ry;exact PySem.EqNone.ne_bool_none (cj I q (by simp))
  | bl j=>cases ry;exact ne_bool (cj I q (congrArg not DW))
  | str j=>obtain⟨t',rfl⟩:=ry;exact PySem.EqMixed.ne_bool_str (cj I q (by simp))
  | _=>exact absurd (show false=true from hs) Bool.false_ne_true
 | int i =>
  obtain⟨t,rfl⟩:=rx;cases y with
  | aH=>cases ry;exact PySem.EqNone.ne_int_none (cj I q (by simp))
  | int j=>obtain⟨t',rfl⟩:=ry;exact ne_int (cj I q (congrArg not DV))
  | str j=>obtain⟨t',rfl⟩:=ry;exact PySem.EqMixed.ne_int_str (cj I q (by simp))
  | _=>exact absurd (show false=true from hs) Bool.false_ne_true
 | str i =>
  obtain⟨t,rfl⟩:=rx;cases y with
  | aH=>cases ry;exact PySem.EqNone.ne_str_none (cj I q (by simp))
  | bl j=>cases ry;exact PySem.EqMixed.ne_str_bool (cj I q (by simp))
  | int j=>obtain⟨t',rfl⟩:=ry;exact PySem.EqMixed.ne_str_int (cj I q (by simp))
  | str j=>obtain⟨t',rfl⟩:=ry;exact ne_str (cj I q (congrArg not DX))
  | _=>exact absurd (show false=true from hs) Bool.false_ne_true
 | gr i =>
  obtain⟨t,rfl⟩:=rx;cases y with
  | gr j=>obtain⟨t',rfl⟩:=ry;exact PySem.W.ne_bytes (cj I q (congrArg not DY))
  | _=>exact absurd (show false=true from hs) Bool.false_ne_true
 | _=>cases y <;> exact absurd (show false=true from hs) Bool.false_ne_true
theorem eN:cT X (compareOp .Lt) (kU λi j=>.bl (decide (i<j))):=xR λ_ _ _ _ _ _ _ q=>lt_int q
theorem gf:cT X (compareOp .Gt) (kU λi j=>.bl (decide (j<i))):=xR λ_ _ _ _ _ _ _ q=>gt_int q
theorem rQ:cT X (compareOp .GtE) (kU λi j=>.bl (decide (j<=i))):=xR λ_ _ _ _ _ _ _ q=>ge_int q
theorem xU:cT X (compareOp .Is) (λx y H Q=>y = .aH/\Q (.bl (decide (x = .aH))) H):=by
 intro pins s σ H x y v u Q I rx ry h;obtain⟨rfl,q⟩:=h;cases ry;refine is_none_gen (cj I q ?_);cases x <;> first
  | (cases rx;rfl)
  | (obtain⟨t,rfl⟩:=rx;rfl)
theorem Ms:cT X (compareOp .IsNot) (λx y H Q=>y = .aH/\Q (.bl (!decide (x = .aH))) H):=by
 intro pins s σ H x y v u Q I rx ry h;obtain⟨rfl,q⟩:=h;cases ry;refine isnot_none_gen (cj I q ?_);cases x <;> first
  | (cases rx;rfl)
  | (obtain⟨t,rfl⟩:=rx;rfl)
theorem aP(b:Expr){op:CmpOp}(h:op≠.In:=by decide)(h2:op≠.NotIn:=by decide):behindInMarks op b=false:=by
 have e1:(op == CmpOp.In)=false:=by cases op <;> first | rfl | exact absurd rfl h
 have e2:(op == CmpOp.NotIn)=false:=by cases op <;> first | rfl | exact absurd rfl h2
 cases b <;> simp[behindInMarks,e1,e2]
theorem jP{op:CmpOp}{r:R2}(ho:cT X (compareOp op) r)(ha:PE X a ta)(hb:PE X b tb)(hm:behindInMarks op b=false):PE X (.Compare a [op] [b] pos) (rN r ta tb):=by
 intro pins s σ H Q I h;exact wpAny_Compare1 (xP ha hb I h λv u s2 x y H2 I2 rx ry q=>ho pins s2 σ H2 x y v u Q I2 rx ry q) hm
noncomputable def Mt(t:TE):TT:=λσ H Q=>t σ H λx H'=>∃k,x = .bl k/\Q k H'
theorem aR{op:CmpOp}{r:R2}(ho:cT X (compareOp op) r)(ha:PE X a ta)(hb:PE X b tb)(hm:behindInMarks op b=false):PT X (.Compare a [op] [b] pos) (Mt (rN r ta tb)):=by
 intro pins s σ H Q I h;refine wpAny_isTrue_Compare1 (aQ (ha pins s σ H _ I h) λv s1 ⟨x,H1,I1,r1,q1⟩=>aQ (hb pins s1 σ H1 _ I1 q1) λu s2 ⟨y,H2,I2,r2,q2⟩ =>
  aQ (ho pins s2 σ H2 x y v u _ I2 r1 r2 q2) λc s3 ⟨z,H3,I3,r3,k,e,q3⟩=>?_) hm
 subst e;cases r3;exact wpAny_truthy_bool ⟨H3,I3,q3⟩
noncomputable def Yc(r r':R2)(ta tb tc:TE):TE:=λσ H Q=>ta σ H λx H1=>tb σ H1 λy H2=>r x y H2 λz H3=>∃k,z = .bl k/\
 (if k=true then tc σ H3 λw' H4=>r' y w' H4 Q else Q (.bl false) H3)
theorem rR:(sizeLine:Nat)<2 ^ 63:=by rw[sizeLine_eq];decide
theorem vals1{x:V}{us:List Value}(r:Vals [x] us):∃u,us = [u]/\RelV x u:=by
 cases r with
 | cons r1 r2=>cases r2;exact⟨_,rfl,r1⟩
theorem vals2{x y:V}{us:List Value}(r:Vals [x,y] us):∃u w',us = [u,w']/\RelV x u/\RelV y w':=by
 cases r with
 | cons r1 r2 =>
  cases r2 with
  | cons r3 r4=>cases r4;exact⟨_,_,rfl,r1,r3⟩
theorem DZ(hc:X.calm=true):gA X (.builtin "max") (λxs H Q=>∃i j,xs = [.int i,.int j]/\Q (.int (if j > i then j else i)) H):=by
 intro pins s σ H xs us Q I r h;obtain⟨i,j,rfl,q⟩:=h;obtain⟨u,w',rfl,⟨t,rfl⟩,⟨t',rfl⟩⟩:=vals2 r;refine max_two_ints (I.ok.hd hc) λh' tk k=>⟨_,H,I.kept k,?_,q⟩;by_cases hj:j > i
 ·rw[if_pos hj,if_pos hj];exact⟨_,rfl⟩
 ·rw[if_neg hj,if_neg hj];exact⟨_,rfl⟩
theorem xV(hc:X.calm=true):gA X (.builtin "min") (λxs H Q=>∃i j,xs = [.int i,.int j]/\Q (.int (if j<i then j else i)) H):=by
 intro pins s σ H xs us Q I r h;obtain⟨i,j,rfl,q⟩:=h;obtain⟨u,w',rfl,⟨t,rfl⟩,⟨t',rfl⟩⟩:=vals2 r;refine min_two_ints (I.ok.hd hc) λh' tk k=>⟨_,H,I.kept k,?_,q⟩;by_cases hj:j<i
 ·rw[if_pos hj,if_pos hj];exact⟨_,rfl⟩
 ·rw[if_neg hj,if_neg hj];exact⟨_,rfl⟩
end
structure kW(h:Heap)(x dx C:Addr)(mA:Str->Option Value):Prop where
 obj:h.get? x=some (PySem.W.instObj C dx)
 ns:h.Ns1 dx mA
 ne:dx≠x
theorem D0{h:Heap}{dx:Addr}{mA:Str->Option Value}(n:h.Ns1 dx mA):∃od,h.get? dx=some od/\∀name,PySem.W.lookIn name od=some (mA name):=by
 obtain⟨o,es,ep,ho,hd,hk,_,hm⟩:=n;refine⟨o,ho,λname=>?_⟩
 have e:=hm name;unfold nsFind findBy at e;rw[← Array.find?_toList] at e;unfold PySem.W.lookIn;rw[hd];dsimp only;split
 ·rename_i y q;rw[q] at e;exact congrArg some e
 ·rename_i q;rw[q] at e;have a:es.toList.any (·.refKey)=false:=by
   rw[List.any_eq_false];intro y hy;obtain⟨z,t,Mu⟩:=hk y (Array.mem_toList_iff.mp hy);simp[DictEntry.refKey,Mu]
  have a':¬ es.toList.any (·.refKey)=true:=by rw[a];exact Bool.false_ne_true
  rw[if_neg a'];exact congrArg some e
theorem kW.look{h:Heap}{x dx C:Addr}{mA:Str->Option Value}(I:kW h x dx C mA):∃od,PySem.W.InstAt h x (PySem.W.instObj C dx) C (some od)/\∀name,PySem.W.lookIn name od=some (mA name) :=
 let ⟨od,ho,hl⟩:=D0 I.ns
 ⟨od,⟨I.obj,rfl,rfl,ho⟩,hl⟩
section
variable{prog:Program}{w:World}{A:Around}{E:Value->Shared->Prop}{s:Shared}{K:PySem.W.Frag}{x dx C f:Addr}{mA:Str->Option Value}{name:Str}{v:Value}
theorem get_map{expr:Bool}{Q:Value->Shared->Prop}(X:K.In s.heap)(I:kW s.heap x dx C mA)(hg:PySem.W.plainGet K C name=true)(hh:PySem.W.hasDictIn K C=true)
  (ha:PySem.W.findIn K (.ref C) name=some none) (hv:mA name=some v) (Mv:PySem.W.handedIn v=true) (h:Q v { s with toks:=s.toks+1 }) :
  wpAny (model prog w) A (getAttr (.ref x) name expr) Q E s:=by
 obtain⟨od,J,hl⟩:=I.look;exact PySem.W.get_value X J (PySem.W.plainGet_of hg).1 (PySem.W.findObj_own hh ha rfl (by rw[hl,hv])) Mv h
theorem Mw{pl:Sem Bool}{Q:Value×List Value->Shared->Prop}(X:K.In s.heap)(I:kW s.heap x dx C mA)(hg:PySem.W.plainGet K C name=true)
  (hf:PySem.W.findIn K (.ref C) name=some (some (.ref f))) (ht:PySem.W.isFn K (.ref f)=true) (hv:mA name=none) (h:Q (.ref f,[.ref x]) s) :
  wpAny (model prog w) A (getMethod (.ref x) name pl) Q E s:=by
 obtain⟨od,J,hl⟩:=I.look;exact PySem.W.method_fn X J (PySem.W.plainGet_of hg).1 (PySem.W.plainGet_of hg).2 hf (beq_iff_eq.mp ht) (by show (PySem.W.lookIn name od).map (·.isSome)=some false;rw[hl,hv];rfl) h
theorem Mx{ns:List Str}{Q:Unit->Shared->Prop}(X:K.In s.heap)(I:kW s.heap x dx C mA)
  (hs:PySem.W.findIn K (.ref C) "__setattr__" = some (some (.builtin "object.__setattr__"))) (hp:PySem.W.plainOver K C=true) (ht:PySem.W.takerIn K C name=some none) (hh:PySem.W.hasDictIn K C=true)
  (hw:PySem.Within mA ns) (hsz:ns.length<=sizeLine)
  (h:∀h',kW h' x dx C (λy=>if y=name then some v else mA y)->Heap.SameBut dx s.heap h'->Q () { s with heap:=h',toks:=s.toks+2 }) :
  wpAny (model prog w) A (setAttr (.ref x) name v) Q E s:=by
 obtain⟨od,J,hl⟩:=I.look;refine PySem.W.set_plain X J hs (PySem.W.osa_open (s:={ s with toks:=s.toks+1 }) (r:=none) X J hp ht λb=>?_)
 obtain⟨cd,hc,dj⟩:=PySem.W.any_some hh;have hx:s.heap.get? x=some ⟨.ref C,some dx,.plain,#[]⟩:=I.obj;refine wpAny_bind (wpAny_pure (wpAny_bind (wpAny_bind (wpAny_loadPart hx (wpAny_bind (PySem.W.Looks.here (s:={ s with toks:=s.toks+1 }) (PySem.W.looks_clsIn X hc) ?_))))));rw[dj];refine wpAny_pure (a:=some dx) (wpAny_bind (wpAny_pure (wpAny_bind ?_)));refine wpAny_nsSet1 (s:={ s with toks:=s.toks+1 }) I.ns λh' iI eo=>?_;obtain⟨oD,D3,D4,oE,oF,oG⟩:=iI.count (PySem.Within.cons name v hw);refine wpAny_bind (wpAny_lookBehind oE (by rw[oF];exact pastItsLine_dict (Nat.le_trans oG (by rw[List.length_cons];lia))) ?_)
 exact wpAny_pure (h _ ⟨(eo.2 _ (Ne.symm I.ne)).trans I.obj,iI,I.ne⟩ eo)
theorem My{R:Result->Shared->Prop}{vs:List Value}{kw:List (Str×Value)}(X:K.In s.heap)(hm:PySem.W.makesIn K C=true)
  (hi:PySem.W.findIn K (.ref C) "__init__" = some (some (.ref f))) (hf:PySem.W.typeIn K (.ref f)=some (.type "function"))
  (h:codeAny (model prog w) (A.under (.builtin "type.__call__" ⟨.ref C::vs,kw⟩)) (.call (.ref f) ⟨.ref (s.heap.objs.size+1)::vs,kw⟩) (PySem.W.InitBack (s.heap.objs.size+1) R)
   { s with heap:=(s.heap.push PySem.W.emptyDict).push (PySem.W.instObj C s.heap.objs.size)}) :
  codeAny (model prog w) A (.call (.ref C) ⟨vs,kw⟩) R s:=by
 obtain⟨hh,g,d,t,os⟩:=s;exact PySem.W.make_core (PySem.W.makes_of X hm) (PySem.W.looks_findIn X hi) (λself=>PySem.W.bind_fn X self hf) (.inl rfl) h
end
noncomputable def cY(f:Str)(v:V):List (Str×V)->List (Str×V)
 | []=>[(f,v)]
 | (g,x)::r=>if g=f then(g,v)::r else(g,x)::cY f v r
theorem xW(f g:Str)(v:V):∀fs:List (Str×V),(cY f v fs).lookup g=if g=f then some v else fs.lookup g
 | []=>by
  show List.lookup g [(f,v)] = _;by_cases h:g=f
  ·have hb:(g == f)=true:=beq_iff_eq.mpr h;simp only[List.lookup,hb,if_pos h]
  ·have hb:(g == f)=false:=beq_eq_false_iff_ne.mpr h;simp only[List.lookup,hb,if_neg h]
 | (k,x)::r=>by
  have ih:=xW f g v r;rw[show cY f v ((k,x)::r)=(if k=f then(k,v)::r else(k,x)::cY f v r) from rfl]
  by_cases hk:k=f
  ·rw[if_pos hk];by_cases h:g=k
   ·have hb:(g == k)=true:=beq_iff_eq.mpr h;simp only[List.lookup,hb,if_pos (h.trans hk)]
   ·have hb:(g == k)=false:=beq_eq_false_iff_ne.mpr h;simp only[List.lookup,hb,if_neg (λe:g=f=>h (e.trans hk.symm))]
  ·rw[if_neg hk];by_cases h:g=k
   ·have hb:(g == k)=true:=beq_iff_eq.mpr h;simp only[List.lookup,hb,if_neg (λe:g=f=>hk (h.symm.trans e))]
   ·have hb:(g == k)=false:=beq_eq_false_iff_ne.mpr h;simp only[List.lookup,hb];exact ih
theorem xX(f:Str)(v:V):∀fs:List (Str×V),f∈(cY f v fs).map (·.1)/\∀g,g∈fs.map (·.1)->g∈(cY f v fs).map (·.1)
 | []=>⟨by simp[cY],λg h=>by simp at h⟩
 | (k,x)::r=>by
  obtain⟨i1,i2⟩:=xX f v r;rw[show cY f v ((k,x)::r)=(if k=f then(k,v)::r else(k,x)::cY f v r) from rfl]
  by_cases hk:k=f
  ·rw[if_pos hk];subst hk;exact⟨by simp,λg h=>by simpa using h⟩
  ·rw[if_neg hk];refine⟨?_,λg h=>?_⟩
   ·rw[List.map_cons];exact List.mem_cons_of_mem _ i1
   ·rw[List.map_cons] at h ⊢;rcases List.mem_cons.mp h with e | e
    ·exact List.mem_cons.mpr (.inl e)
    ·exact List.mem_cons_of_mem _ (i2 g e)
theorem D5(f:Str)(v:V):∀fs:List (Str×V),(cY f v fs).length<=fs.length+1
 | []=>by simp[cY]
 | (k,x)::r=>by
  have ih:=D5 f v r;rw[show cY f v ((k,x)::r)=(if k=f then(k,v)::r else(k,x)::cY f v r) from rfl]
  by_cases hk:k=f
  ·rw[if_pos hk,List.length_cons,List.length_cons];lia
  ·rw[if_neg hk,List.length_cons,List.length_cons];lia
theorem dI.some_of{v:V}{o:Option Value}(r:dI (some v) o):∃u,o=some u/\RelV v u:=by
 cases o with
 | none=>exact(show False from r).elim
 | some u=>exact⟨u,rfl,r⟩
theorem dI.none_of{o:Option Value}(r:dI none o):o=none:=by
 cases o with
 | none=>rfl
 | some u=>exact(show False from r).elim
theorem D6{v:V}{u:Value}(r:RelV v u):PySem.W.handedIn u=true:=by
 cases v with
 | aH=>cases (show u=Value.none from r);rfl
 | bl b=>cases (show u=Value.bool b from r);rfl
 | int i=>obtain⟨t,e⟩:=(show ∃t,u=Value.int i t from r);cases e;rfl
 | str x=>obtain⟨t,e⟩:=(show ∃t,u=Value.str x t from r);cases e;rfl
 | gr b=>obtain⟨t,e⟩:=(show ∃t,u=Value.bytes b t from r);cases e;rfl
 | jG b=>obtain⟨t,e⟩:=(show ∃t,u=Value.float b t from r);cases e;rfl
 | ref a=>cases (show u=Value.ref a from r);rfl
 | ty n=>cases (show u=Value.type n from r);rfl
section
variable{P:Program}{w:World}{H H':Hp}{h h':Heap}{a C dx:Addr}{fs LM:List (Str×V)}
theorem oH(aC:bM P w H h)(e:H a=some (.ins C dx fs)):∃mA,kW h a dx C mA/\(∀f,dI (fs.lookup f) (mA f))/\PySem.Within mA (fs.map (·.1))/\fs.length<=1000/\H dx=some (.own a):=by
 obtain⟨d,z,ne,ob,mA,n,r,q⟩:=(show bQ P w H h a (.ins C dx fs) from aC a _ e);exact⟨mA,⟨ob,n,ne⟩,r,q,z,d⟩
end
structure fS(K:PySem.W.Frag)(C:Addr):Prop where
 pg:PySem.W.plainGet K C Str.empty=true
 hd:PySem.W.hasDictIn K C=true
 po:PySem.W.plainOver K C=true
 sa:PySem.W.findIn K (.ref C) "__setattr__" = some (some (.builtin "object.__setattr__"))
theorem fS.get{K:PySem.W.Frag}{C:Addr}(c:fS K C)(f:Str):PySem.W.plainGet K C f=true:=c.pg
noncomputable def bW(K:PySem.W.Frag)(C:Addr)(f:Str):Prop:=PySem.W.findIn K (.ref C) f=some none
theorem bW.Mz{K:PySem.W.Frag}{C:Addr}{f:Str}(n:bW K C f):PySem.W.takerIn K C f=some none:=by
 unfold PySem.W.takerIn;rw[show PySem.W.findIn K (.ref C) f=some none from n]
 rfl
structure Meth(K:PySem.W.Frag)(C:Addr)(m:Str)(f:Addr):Prop where
 at_:PySem.W.findIn K (.ref C) m=some (some (.ref f))
 fn:PySem.W.isFn K (.ref f)=true
 kp:PySem.W.keepIn K (.ref f)=true
section
variable{X:Cx}{pins:List (Addr×Obj)}{σ:St}{H:Hp}{s:Shared}{a C dx:Addr}{fs:List (Str×V)}{f:Str}{v:V}{A:Around}{E:Value->Shared->Prop}
theorem MA{b:Bool}{Q:Value->Shared->Prop}(I:Inv X pins σ H s)(e:H a=some (.ins C dx fs))(c:fS X.K C)(n:bW X.K C f)(l:fs.lookup f=some v)
  (h:∀u s',Inv X pins σ H s'->RelV v u->Q u s'):wpAny (model X.prog X.w) A (getAttr (.ref a) f b) Q E s:=by
 obtain⟨mA,O,r,_,_,_⟩:=oH I.aC e;obtain⟨u,hu,ru⟩:=dI.some_of (v:=v) (o:=mA f) (by rw[← l];exact r f)
 exact get_map I.bN O (c.get f) c.hd n hu (D6 ru) (h u _ (I.tok _) ru)
theorem MB{m:Str}{g:Addr}{pl:Sem Bool}{Q:Value×List Value->Shared->Prop}(I:Inv X pins σ H s)(e:H a=some (.ins C dx fs))(c:fS X.K C)(k:Meth X.K C m g)(l:fs.lookup m=none)
  (h:Q (.ref g,[.ref a]) s):wpAny (model X.prog X.w) A (getMethod (.ref a) m pl) Q E s:=by
 obtain⟨mA,O,r,_,_,_⟩:=oH I.aC e;have hn:mA m=none:=dI.none_of (by rw[← l];exact r m)
 exact Mw I.bN O (c.get m) k.at_ k.fn hn h
theorem MC{y:V}{u:Value}{Q:Unit->Shared->Prop}(I:Inv X pins σ H s)(e:H a=some (.ins C dx fs))(c:fS X.K C)(n:bW X.K C f)(hl:fs.length<1000)(ry:RelV y u)
  (h:∀s',Inv X pins σ (upd H a (.ins C dx (cY f y fs))) s'->Q () s'):wpAny (model X.prog X.w) A (setAttr (.ref a) f u) Q E s:=by
 obtain⟨mA,O,r,wi,_,ho⟩:=oH I.aC e;have hz:(fs.map (·.1)).length<=sizeLine:=by rw[List.length_map,sizeLine_eq];lia
 refine Mx I.bN O c.sa c.po n.Mz c.hd wi hz λh' O' sb=>h _ ?_;have hd:∃o,h'.get? dx=some o:=let ⟨o,_,_,e',_⟩:=O'.ns;⟨o,e'⟩
 refine I.write (x:=a) (e:=dx) (by rw[e];exact True.intro) (.inr ho) (λb q hb z=>(sb.2 b hb).trans z) hd ?_
 refine⟨by rw[aG O.ne];exact ho,?_,O.ne,O'.obj,_,O'.ns,λg=>?_,λg hg=>?_⟩
 ·have:=D5 f y fs;lia
 ·show dI ((cY f y fs).lookup g) (if g=f then some u else mA g)
  rw[xW];by_cases q:g=f
  ·rw[if_pos q,if_pos q];exact ry
  ·rw[if_neg q,if_neg q];exact r g
 ·by_cases q:g=f
  ·rw[q];exact(xX f y fs).1
  ·refine(xX f y fs).2 g (wi g λz=>hg ?_)
   show (if g=f then some u else mA g)=none
   rw[if_neg q];exact z
theorem Inv.made(I:Inv X pins σ H s):Inv X pins σ (upd (upd H s.heap.objs.size (.own (s.heap.objs.size+1))) (s.heap.objs.size+1) (.ins C s.heap.objs.size []))
  { s with heap:=(s.heap.push PySem.W.emptyDict).push (PySem.W.instObj C s.heap.objs.size)}:=by
 have e1:(s.heap.push PySem.W.emptyDict).get? s.heap.objs.size=some PySem.W.emptyDict:=Heap.get?_push_size s.heap rfl;have e2:((s.heap.push PySem.W.emptyDict).push (PySem.W.instObj C s.heap.objs.size)).get? (s.heap.objs.size+1)=some (PySem.W.instObj C s.heap.objs.size):=by
  have:=Heap.get?_push_size (s.heap.push PySem.W.emptyDict) (o:=PySem.W.instObj C s.heap.objs.size) rfl;rwa [Heap.size_push] at this
 have e3:(s.heap.push PySem.W.emptyDict).Ns s.heap.objs.size (λ_=>none):=⟨PySem.W.emptyDict,#[],_,e1,rfl,(λe he=>absurd he (by simp)),λ_=>rfl⟩
 have I1:=I.laid (a:=s.heap.objs.size) (o:=.own (s.heap.objs.size+1)) (h':=s.heap.push PySem.W.emptyDict) (t':=s.toks) (λb u q=>Heap.get?_push_of_some _ q) (Nat.le_refl _) ⟨_,e1⟩;refine I1.laid (a:=s.heap.objs.size+1) (o:=.ins C s.heap.objs.size []) (t':=s.toks) (λb u q=>Heap.get?_push_of_some _ q) (Nat.le_of_eq (Heap.size_push _ _)) ?_;have ne:s.heap.objs.size≠s.heap.objs.size+1:=Nat.ne_of_lt (Nat.lt_succ_self _);refine⟨by rw[aG ne,aq],Nat.zero_le _,ne,e2,λ_=>none,(Heap.Ns1.of_empty e3).at λo q=>Heap.get?_push_of_some _ q,λ_=>True.intro,λy hy=>absurd rfl hy⟩
theorem D7{prog:Program}{w:World}{env:Env}{e:Expr}{f:Str}{pos:Pos}{s:Shared}{Q:Value->Shared->Prop}(hb:attributeBase e f env (eval e env)=eval e env)
  (h:wpAny (model prog w) A (eval e env) (λo aO=>wpAny (model prog w) A (getAttr o f true) Q E aO) E s):wpAny (model prog w) A (eval (.Attribute e f pos) env) Q E s :=
 Attribute_any_ h (by rw[arm_eval_Attribute,hb])
end
noncomputable def D8(K:PySem.W.Frag)(ta:TE)(f:Str):TE:=λσ H Q=>ta σ H λx H1=>∃a C dx fs v,x = .ref a/\H1 a=some (.ins C dx fs)/\fS K C/\bW K C f/\fs.lookup f=some v/\Q v H1
noncomputable def MD(K:PySem.W.Frag)(ta tv:TE)(f:Str):TS:=λD σ H=>tv σ H λy H1=>ta σ H1 λx H2=>∃a C dx fs,x = .ref a/\H2 a=some (.ins C dx fs)/\fS K C/\bW K C f/\fs.length<1000/\
 D.nx σ (upd H2 a (.ins C dx (cY f y fs)))
section
variable{X:Cx}{o e value:Expr}{f:Str}{pos pos' ME:Pos}{ta tv:TE}
theorem dm(he:PE X e ta)(hb:attributeBase e f X.env (eval e X.env)=eval e X.env):PE X (.Attribute e f pos) (D8 X.K ta f):=by
 intro pins s σ H Q I h;refine D7 hb (aQ (he pins s σ H _ I h) λu s1 ⟨x,H1,I1,rx,a,C,dx,fs,v,ex,ea,c,n,l,q⟩=>?_);subst ex;obtain rfl:u=Value.ref a:=rx;exact MA I1 ea c n l λu' s2 I2 ru=>⟨v,H1,I2,ru,q⟩
theorem fG(ha:PE X o ta)(hv:PE X value tv)(hs:swapsWith value (some (.Attribute o f pos')) pos.line X.env=pure false):PS X (.Assign [.Attribute o f pos'] value pos) (MD X.K ta tv f):=by
 intro pins s σ H D I h;refine plainObj_wpAny_Assign_Attribute (aQ (hv pins s σ H _ I h) λu s1 ⟨y,H1,I1,ry,q⟩=>aQ (ha pins s1 σ H1 _ I1 q) λov s2 ⟨x,H2,I2,rx,a,C,dx,fs,ex,ea,c,n,l,q2⟩=>?_) hs;subst ex;obtain rfl:ov=Value.ref a:=rx;exact MC I2 ea c n l ry λs3 I3=>⟨σ,_,I3,q2⟩
end
section
variable{X:Cx}{pins:List (Addr×Obj)}{σ:St}{H:Hp}{s:Shared}{A:Around}{E:Value->Shared->Prop}{Q:Value->Shared->Prop}{c:Value}{b:Bool}
inductive eO (K:PySem.W.Frag) (H:Hp):V->Value->Prop where
 | aH:eO K H .aH (.type "NoneType")
 | bl (x:Bool):eO K H (.bl x) (.type "bool")
 | int (i:Int):eO K H (.int i) (.type "int")
 | str (x:Str):eO K H (.str x) (.type "str")
 | jG (x:UInt64):eO K H (.jG x) (.type "float")
 | lst {a:Addr} {xs:List V} (e:H a=some (.lst xs)):eO K H (.ref a) (.type "list")
 | eF {a:Addr} {o:Obj} {xs:List V} (e:H a=some (.eF o (.lst xs))):eO K H (.ref a) (.type "list")
 | tup {a:Addr} {xs:List V} (e:H a=some (.tup xs)):eO K H (.ref a) (.type "tuple")
 | dK {a:Addr} {aE:List (Key×V)} (e:H a=some (.dK aE)):eO K H (.ref a) (.type "dict")
 | dT {a:Addr} {aE:List (List Key×V)} (e:H a=some (.dT aE)):eO K H (.ref a) (.type "dict")
 | ins {a C dx:Addr} {fs:List (Str×V)} (e:H a=some (.ins C dx fs)) (cl:fS K C) (ha:PySem.W.findIn K (.ref C) "__class__" = some (some (.builtin "object.__class__")))
   (hn:PySem.W.specialIn K (.builtin "object.__class__") "__get__" = some (some (.builtin "getset_descriptor.__get__"))) (rS:PySem.W.takesIn K (.builtin "object.__class__")=some true)
   (hm:PySem.W.mroIn K C (.type "object")=some true):eO K H (.ref a) (.ref C)
theorem MF{x:V}{u t:Value}(I:Inv X pins σ H s)(rx:RelV x u)(ty:eO X.K H x t)(e:PySem.W.kitOne X.K t c=some b)(h:∀tk,Q (.bool b) { s with toks:=tk }) :
  wpAny (model X.prog X.w) A (call (.builtin "isinstance") [u,c]) Q E s:=by
 cases ty with
 | aH=>cases (show u=Value.none from rx);exact PySem.W.kia_one PySem.W.kitx_none I.bN True.intro e (λz=>nomatch z) h
 | bl y=>cases (show u=Value.bool y from rx);exact PySem.W.kia_one PySem.W.kitx_bool I.bN True.intro e (λz=>nomatch z) h
 | int i=>obtain⟨t,q⟩:=(show ∃t,u=Value.int i t from rx);cases q;exact PySem.W.kia_one PySem.W.kitx_int I.bN True.intro e (λz=>nomatch z) h
 | str y=>obtain⟨t,q⟩:=(show ∃t,u=Value.str y t from rx);cases q;exact PySem.W.kia_one PySem.W.kitx_str I.bN True.intro e (λz=>nomatch z) h
 | jG y=>obtain⟨t,q⟩:=(show ∃t,u=Value.float y t from rx);cases q;exact PySem.W.kia_one PySem.W.kitx_float I.bN True.intro e (λz=>nomatch z) h
 | @lst a xs ea =>
  cases (show u=Value.ref a from rx);obtain⟨_,_,n,_,h1⟩:=(show bQ X.prog X.w H s.heap a (.lst xs) from I.aC a _ ea);exact PySem.W.kia_one PySem.W.kitx_list I.bN ⟨_,h1,rfl⟩ e (λz=>nomatch z) h
 | @eF a ob xs ea =>
  cases (show u=Value.ref a from rx);obtain⟨_,_,_,n,_,h1⟩:=(show bQ X.prog X.w H s.heap a (.eF ob (.lst xs)) from I.aC a _ ea);exact PySem.W.kia_one PySem.W.kitx_list I.bN ⟨_,h1,rfl⟩ e (λz=>nomatch z) h
 | @tup a xs ea =>
  cases (show u=Value.ref a from rx);obtain⟨_,_,_,p⟩:=(show bQ X.prog X.w H s.heap a (.tup xs) from I.aC a _ ea);obtain⟨o,h1,h2,_⟩:=p;exact PySem.W.kia_one PySem.W.kitx_tuple I.bN ⟨o,h1,h2⟩ e (λz=>nomatch z) h
 | @dK a aE ea =>
  cases (show u=Value.ref a from rx);obtain⟨_,_,vs,_,p⟩:=(show bQ X.prog X.w H s.heap a (.dK aE) from I.aC a _ ea);obtain⟨o,es,ep,h1,h2,_⟩:=p;exact PySem.W.kia_one PySem.W.kitx_dict I.bN ⟨o,h1,h2.1⟩ e (λz=>nomatch z) h
 | @dT a aE ea =>
  cases (show u=Value.ref a from rx);obtain⟨_,_,xs,_,o,es,ep,h1,h2,_⟩:=(show bQ X.prog X.w H s.heap a (.dT aE) from I.aC a _ ea);exact PySem.W.kia_one PySem.W.kitx_dict I.bN ⟨o,h1,h2.1⟩ e (λz=>nomatch z) h
 | @ins a C dx fs ea cl ha hn rS hm =>
  cases (show u=Value.ref a from rx);obtain⟨mA,O,_⟩:=oH I.aC ea;obtain⟨od,J,_⟩:=O.look;exact PySem.W.kia_one (PySem.W.kitx_own (cl.get _) cl.hd ha hn rS hm) I.bN J e (λz=>nomatch z) h
end
structure bY(k:Nat)(A:Around):Prop where
 hd:A.handled=none
 dp:A.depth+3*k+5<recursionLimit
 un:A.units+16*k+200<cLine
theorem bY.mono{j k:Nat}{A:Around}(r:bY k A)(h:j<=k):bY j A:=⟨r.hd,by have:=r.dp;lia,by have:=r.un;lia⟩
theorem bY.deeper{k:Nat}{A:Around}(r:bY (k+1) A)(env:Env):bY k (A.deeper env) :=
 ⟨r.hd,by have:=r.dp;show A.depth+1+3*k+5<_;lia,by have:=r.un;show A.units+3+16*k+200<_;lia⟩
theorem MG{A:Around}{C:Addr}{us:List Value}{kw:List (Str×Value)}:(A.under (.builtin "type.__call__" ⟨.ref C::us,kw⟩)).depth=A.depth+1:=by
 first | rfl | simp[Around.under,Code.weight,Code.isCreation,Code.isGuard,Code.isCaller,Code.frames,Code.isFrame,guardIds]
theorem MH{A:Around}{C:Addr}{us:List Value}{kw:List (Str×Value)}:(A.under (.builtin "type.__call__" ⟨.ref C::us,kw⟩)).units=A.units+1:=by
 first | rfl | simp[Around.under,Code.cUnits,Code.frames,Code.isFrame]
theorem bY.make{k:Nat}{A:Around}(r:bY (k+1) A)(C:Addr)(us:List Value)(kw:List (Str×Value)):bY k (A.under (.builtin "type.__call__" ⟨.ref C::us,kw⟩)) :=
 ⟨r.hd,by have:=r.dp;rw[MG];lia,by have:=r.un;rw[MH];lia⟩
theorem bY.depth{k:Nat}{A:Around}(r:bY k A):A.depth<recursionLimit:=by have:=r.dp;lia
theorem bY.units{k:Nat}{A:Around}(r:bY k A):A.units+64<cLine:=by have:=r.un;lia
theorem bY.MI{k:Nat}{A:Around}(r:bY k A):A.units<cLine:=by have:=r.un;lia
noncomputable def D9:TA:=λ_ H Q=>Q [] H
noncomputable def xY(ta:TE)(tr:TA):TA:=λσ H Q=>ta σ H λx H1=>tr σ H1 λxs H2=>Q (x::xs) H2
section
variable{X:Cx}{e:Expr}{es:List Expr}{te:TE}{t:TA}{pos:Pos}
theorem ao:PA X [] D9:=λ_ _ _ _ H Q I h=>Calls.spliced_nil ⟨[],H,I,.nil,h⟩
theorem aa(ha:PE X e te)(hr:PA X es t)(hs:starEach (e::es) X.env=(false,eval e X.env)::starEach es X.env:=by rfl):PA X (e::es) (xY te t):=by
 intro pos pins s σ H Q I h;rw[hs]
 show wpAny _ _ (spliced ((false,eval e X.env)::backTo pos (starEach es X.env))) _ _ s;refine Calls.spliced_cons (aQ (ha pins s σ H _ I h) λu s1 ⟨x,H1,I1,r1,q1⟩=>?_);exact aQ (hr pos pins s1 σ H1 _ I1 q1) λus s2 ⟨xs,H2,I2,r2,q2⟩=>⟨x::xs,H2,I2,.cons r1 r2,q2⟩
noncomputable def MJ(t:TA):TE:=λσ H Q=>t σ H λxs H1=>xs.length<=sizeLine/\∀p,H1 p=none->Q (.ref p) (upd H1 p (.tup xs))
noncomputable def D_(t:TA):TE:=λσ H Q=>t σ H λxs H1=>xs.length<=sizeLine/\∀p,H1 p=none->Q (.ref p) (upd H1 p (.lst xs))
theorem dg{x1}(h:PA X es t):PE X (.Tuple es x1 pos) (MJ t):=by
 intro pins s σ H Q I hq;refine wpAny_Tuple_spliced (aQ (h pos pins s σ H _ I hq) λus s1 ⟨xs,H1,I1,r,z,q⟩=>⟨by rw[← r.length];exact z,?_⟩)
 have hf:H1 s1.heap.objs.size=none:=I1.aC.fresh (Nat.le_refl _);refine⟨.ref s1.heap.objs.size,upd H1 s1.heap.objs.size (.tup xs),I1.laid (t':=s1.toks) (λb u e=>Heap.get?_push_of_some _ e) (Nat.le_refl _) ?_,rfl,q _ hf⟩;exact⟨z,us,r,⟨_,Heap.get?_push_size _ rfl,rfl,_,rfl⟩⟩
theorem cH(h:PA X es t):PE X (.List es pos) (D_ t):=by
 intro pins s σ H Q I hq;refine wpAny_List_spliced (aQ (h pos pins s σ H _ I hq) λus s1 ⟨xs,H1,I1,r,z,q⟩=>⟨by rw[← r.length];exact z,?_⟩)
 have hf:H1 s1.heap.objs.size=none:=I1.aC.fresh (Nat.le_refl _);refine⟨.ref s1.heap.objs.size,upd H1 s1.heap.objs.size (.lst xs),I1.laid (t':=s1.toks) (λb u e=>Heap.get?_push_of_some _ e) (Nat.le_refl _) ?_,rfl,q _ hf⟩;exact⟨z,us,0,r,Heap.get?_push_size _ rfl⟩
end
noncomputable abbrev Sp:=List V->Hp->VK->XK->Prop
noncomputable abbrev eS:=List Env->Hp->Shared->XK->Value->Shared->Prop
structure jQ(P:Program)(w:World)(K:PySem.W.Frag)(mg:Str->Option Value)(base:Heap)(A:Around)(outer:List Env)(s:Shared)(H:Hp):Prop where
 frames:A.frames=some outer
 mod:Mod K mg base
 bs:∀b o,base.get? b=some o->s.heap.get? b=some o/\H b=none
 gu:base.objs.size<=s.heap.objs.size
 dB:s.heap.FunFrames base outer
 e9:∀b∈aY outer,H b=none
 aC:bM P w H s.heap
 bare:AllBare s.gens
noncomputable def CE(outer:List Env)(P:Program)(w:World)(H:Hp)(s:Shared)(Q:VK)(u:Value)(s':Shared):Prop :=
 ∃v H',s'.os=s.os/\AllBare s'.gens/\Un (aY outer) [] H H' s.heap s'.heap/\bM P w H' s'.heap/\RelV v u/\Q v H'
noncomputable def CR(CX:eS)(outer:List Env)(P:Program)(w:World)(H:Hp)(s:Shared)(Q:VK)(E:XK)(r:Result)(s':Shared):Prop :=
 match r with
 | .ok (.ret u)=>CE outer P w H s Q u s'
 | .ok _=>False
 | .error e=>CX outer H s E e s'
structure a_(P:Program)(w:World)(K:PySem.W.Frag)(mg:Str->Option Value)(base:Heap)(CX:eS)(k:Nat)(f:Addr)(fd:FuncData)(ps:List Str)(sp:Sp):Prop where
 len:∀vs H Q E,sp vs H Q E->vs.length=ps.length
 run:∀(A:Around) (outer:List Env) (s:Shared) (H:Hp) (args:Args) (us:List Value) (vs:List V) (Q:VK) (E:XK),bY k A->jQ P w K mg base A outer s H->BindsTo s fd args (ps.zip us)->Vals vs us->sp vs H Q E->
  codeAny (model P w) A (.call (.ref f) args) (CR CX outer P w H s Q E) s
theorem a_.mono{P:Program}{w:World}{K:PySem.W.Frag}{mg:Str->Option Value}{base:Heap}{CX:eS}{j k:Nat}{f:Addr}{fd:FuncData}{ps:List Str}{sp:Sp}(F:a_ P w K mg base CX j f fd ps sp)(h:j<=k) :
  a_ P w K mg base CX k f fd ps sp:=⟨F.len,λA outer s H args us vs Q E hr=>F.run A outer s H args us vs Q E (hr.mono h)⟩
theorem jQ.make{P:Program}{w:World}{K:PySem.W.Frag}{mg:Str->Option Value}{base:Heap}{A:Around}{outer:List Env}{s:Shared}{H:Hp}(e:jQ P w K mg base A outer s H)(C:Addr)(us:List Value)(kw:List (Str×Value)) :
  jQ P w K mg base (A.under (.builtin "type.__call__" ⟨.ref C::us,kw⟩)) outer s H:=⟨by first | exact e.frames | (simpa[Around.under,Code.envs,Code.isFrame,pushEnvs] using e.frames),e.mod,e.bs,e.gu,e.dB,e.e9,e.aC,e.bare⟩
section
variable{X:Cx}{pins:List (Addr×Obj)}{σ:St}{H:Hp}{s s':Shared}
theorem Inv.oJ(I:Inv X pins σ H s):jQ X.prog X.w X.K X.mg X.base X.A X.stack s H :=
 ⟨I.ok.frames,I.ok.mod,I.bs,Nat.le_trans I.ok.gu I.sz,I.stack,I.rF,I.aC,I.bare⟩
theorem Inv.after{Q:VK}{u:Value}(I:Inv X pins σ H s)(h:CE X.stack X.prog X.w H s Q u s'):EP X pins σ Q u s':=by
 obtain⟨v,H',os,bare,un,aC,r,q⟩:=h;obtain⟨hh,g,d,t,MK⟩:=s';obtain rfl:MK=s.os:=os;exact⟨v,H',I.call (h':=hh) (g':=g) (d':=d) (t':=t) (ch:=[]) un aC bare (λb z=>absurd z (by simp)),r,q⟩
end
noncomputable def Ea(sp:Sp)(bq:List V)(E:XK)(t:TA):TE:=λσ H Q=>t σ H λvs H1=>sp (vs++bq) H1 Q E
noncomputable def Yd(C:Addr)(m:Str)(sp:Sp)(bq:List V)(E:XK)(ta:TE)(t:TA):TE:=λσ H Q=>ta σ H λx H1=>∃a dx fs,x = .ref a/\H1 a=some (.ins C dx fs)/\fs.lookup m=none/\
 t σ H1 λvs H2=>sp (x::(vs++bq)) H2 Q E
noncomputable def ML(C:Addr)(sp:Sp)(bq:List V)(E:XK)(t:TA):TE:=λσ H Q=>t σ H λvs H1=>∀x dx,H1 x=none->H1 dx=none->dx≠x->
 sp (.ref x::(vs++bq)) (upd (upd H1 dx (.own x)) x (.ins C dx [])) (λv H2=>v = .aH/\Q (.ref x) H2) E
noncomputable def Binds(K:PySem.W.Frag)(fd:FuncData)(ps:List Str)(ds:List Value):Prop :=
 ∀(s:Shared) (us:List Value),K.In s.heap->(us++ds).length=ps.length->BindsTo s fd ⟨us,[]⟩ (ps.zip (us++ds))
theorem Binds.all{K:PySem.W.Frag}{fd:FuncData}{ps:List Str}(h:∀us:List Value,us.length=ps.length->bindArgs fd ⟨us,[]⟩=pure (ps.zip us)):Binds K fd ps []:=λs us _ hl=>by
 rw[List.append_nil] at hl ⊢;exact .of_eq (h us hl)
noncomputable def Passes(CX:eS)(X:Cx)(E:XK):Prop:=∀(pins:List (Addr×Obj)) (σ:St) (H:Hp) (s:Shared) (e:Value) (s':Shared),Inv X pins σ H s->CX X.stack H s E e s'->X.xe e s'
section
variable{X:Cx}{CX:eS}{k:Nat}{f C:Addr}{fd:FuncData}{ps:List Str}{sp:Sp}{bq:List V}{ds:List Value}{E:XK}{x m:Str}{p pos apos:Pos}{e o:Expr}{es:List Expr}{ta:TE}{t:TA}
theorem MM{pins:List (Addr×Obj)}{σ:St}{H:Hp}{s:Shared}{Q:VK}{us:List Value}{vs:List V}(F:a_ X.prog X.w X.K X.mg X.base CX k f fd ps sp)(hr:bY k X.A)(hb:Binds X.K fd ps ds)(hd:Vals bq ds)(hx:Passes CX X E)
  (I:Inv X pins σ H s) (r:Vals vs us) (h:sp (vs++bq) H Q E):wpAny (model X.prog X.w) X.A (call (.ref f) us) (EP X pins σ Q) X.xe s:=by
 have r2:Vals (vs++bq) (us++ds):=r.append hd;have hl:(us++ds).length=ps.length:=by rw[← r2.length];exact F.len _ _ _ _ h
 refine wpAny_call (codeAny_mono (F.run X.A X.stack s H ⟨us,[]⟩ (us++ds) (vs++bq) Q E hr I.oJ (hb s us I.bN hl) r2 h) λr s' hq=>?_);cases r with
 | error e=>exact hx pins σ H s e s' I hq
 | ok fl =>
  cases fl with
  | ret u=>exact I.after hq
  | next=>exact False.elim hq
  | brk=>exact False.elim hq
  | cont=>exact False.elim hq
theorem aL(F:a_ X.prog X.w X.K X.mg X.base CX k f fd ps sp)(hr:bY k X.A)(hg:Gl X x)(hm:X.mg x=some (.ref f))(hk:PySem.W.keepIn X.K (.ref f)=true)(hb:Binds X.K fd ps ds)(hd:Vals bq ds)(hx:Passes CX X E)
  (ha:PA X (e::es) t) (dD:(x == ("__debug__" : Str))=false:=by decide) (he:starEach (e::es) X.env=(false,eval e X.env)::starEach es X.env:=by rfl) (dJ:(backTo pos (starEach es X.env)).any (·.1)=false:=by rfl) :
  PE X (.Call (.Name x p) (e::es) [] pos) (Ea sp bq E t):=by
 intro pins s σ H Q I h;refine wpAny_Call_Name_kw (i_ I hg hm ?_ dD);refine PySem.W.callWith_K (h₀:=X.base) I.ok.mod.i9 hk (aQ (ha pos pins s σ H _ I h) λus s1 ⟨vs,H1,I1,r,q⟩=>⟨I1.bN,?_⟩) he dJ;exact MM F hr hb hd hx I1 r q
structure Mk(K:PySem.W.Frag)(C f:Addr):Prop where
 makes:PySem.W.makesIn K C=true
 init:PySem.W.findIn K (.ref C) "__init__" = some (some (.ref f))
 fn:PySem.W.isFn K (.ref f)=true
 kp:PySem.W.keepIn K (.ref C)=true
theorem MN{pins:List (Addr×Obj)}{σ:St}{H:Hp}{s:Shared}{Q:VK}{us:List Value}{vs:List V}(M:Mk X.K C f)(F:a_ X.prog X.w X.K X.mg X.base CX k f fd ps sp)(hr:bY (k+1) X.A)(hb:Binds X.K fd ps ds)(hd:Vals bq ds)
  (hx:Passes CX X E) (I:Inv X pins σ H s) (r:Vals vs us)
  (h:∀x dx,H x=none->H dx=none->dx≠x->sp (.ref x::(vs++bq)) (upd (upd H dx (.own x)) x (.ins C dx [])) (λv H2=>v = .aH/\Q (.ref x) H2) E) :
  wpAny (model X.prog X.w) X.A (call (.ref C) us) (EP X pins σ Q) X.xe s:=by
 have hq:=h (s.heap.objs.size+1) s.heap.objs.size (I.aC.fresh (Nat.le_succ _)) (I.aC.fresh (Nat.le_refl _)) (Nat.ne_of_lt (Nat.lt_succ_self _));have I2:=Inv.made (C:=C) I;have r2:Vals (V.ref (s.heap.objs.size+1)::(vs++bq)) (Value.ref (s.heap.objs.size+1)::(us++ds)):=.cons rfl (r.append hd);have hl:(Value.ref (s.heap.objs.size+1)::us++ds).length=ps.length:=by
  have e:=r2.length;rw[F.len _ _ _ _ hq] at e;exact e.symm
 refine wpAny_call (My (f:=f) I.bN M.makes M.init (beq_iff_eq.mp M.fn) (codeAny_mono (F.run _ X.stack _ _ ⟨Value.ref (s.heap.objs.size+1)::us,[]⟩ (Value.ref (s.heap.objs.size+1)::(us++ds)) _ _ E (hr.make C us [])
  (I2.oJ.make C us []) (hb _ (Value.ref (s.heap.objs.size+1)::us) I2.bN hl) r2 hq) λr s' b8=>?_))
 cases r with
 | error e=>exact hx pins σ _ _ e s' I2 b8
 | ok fl =>
  cases fl with
  | ret u =>
   obtain⟨v,H',I3,rv,ev,q3⟩:=I2.after b8;subst ev;exact⟨rv,⟨V.ref (s.heap.objs.size+1),H',I3,rfl,q3⟩⟩
  | next=>exact False.elim b8
  | brk=>exact False.elim b8
  | cont=>exact False.elim b8
theorem rT(M:Mk X.K C f)(F:a_ X.prog X.w X.K X.mg X.base CX k f fd ps sp)(hr:bY (k+1) X.A)(hg:Gl X x)(hm:X.mg x=some (.ref C))(hb:Binds X.K fd ps ds)(hd:Vals bq ds)(hx:Passes CX X E)
  (ha:PA X (e::es) t) (dD:(x == ("__debug__" : Str))=false:=by decide) (he:starEach (e::es) X.env=(false,eval e X.env)::starEach es X.env:=by rfl) (dJ:(backTo pos (starEach es X.env)).any (·.1)=false:=by rfl) :
  PE X (.Call (.Name x p) (e::es) [] pos) (ML C sp bq E t):=by
 intro pins s σ H Q I h;refine wpAny_Call_Name_kw (i_ I hg hm ?_ dD);refine PySem.W.callWith_K (h₀:=X.base) I.ok.mod.i9 M.kp (aQ (ha pos pins s σ H _ I h) λus s1 ⟨vs,H1,I1,r,q⟩=>⟨I1.bN,?_⟩) he dJ;exact MN M F hr hb hd hx I1 r q
end
noncomputable def PK(X:Cx)(Eb:List Keyword)(t:TA):Prop :=
 ∀(pos:Pos) (pins:List (Addr×Obj)) (s:Shared) (σ:St) (H:Hp) (Q:List V->Hp->Prop),Inv X pins σ H s->t σ H Q->wpAny (model X.prog X.w) X.A (evalAll ((backToKw pos (keywordEach Eb X.env)).map (·.2))) (AP X pins σ Q) X.xe s
section
variable{X:Cx}{CX:eS}{k:Nat}{f C:Addr}{fd:FuncData}{ps ks:List Str}{sp:Sp}{E:XK}{x m:Str}{p pos apos Ye:Pos}{e o:Expr}{es:List Expr}{Eb:List Keyword}{te ta:TE}{t tk:TA}{nm:Option Str}
variable{g:List Value->List Value->List Value}{gV:List V->List V->List V}
end
structure bB(N P:List Str)(sc:Scope):Prop where
 kind:sc.kind = .function
 co:sc.isCoroutine=false
 gen:sc.isGenerator=false
 nd:N.Nodup
 pre:N.take P.length=P
 par:∀x∈P,sc.names.lookup x=some .local\/sc.names.lookup x=some .cell
 MO:∀y∈sc.names,y.2≠.free
theorem Ec{kindOf:Str->Option NameKind}{x:Str}:∀ {binds:List (Str×Value)} {m:Str->Option Value},(∀v,(x,v)∉binds)->bindL kindOf binds m x=m x
 | [],_,_=>rfl
 | (n,v)::r,m,h=>by
  unfold bindL;rw[Ec λw hw=>h w (List.mem_cons_of_mem _ hw)];split
  ·have:x≠n:=by rintro rfl;exact h v List.mem_cons_self
   simp[this]
  ·rfl
theorem Ed{kindOf:Str->Option NameKind}{x:Str}:∀ {binds:List (Str×Value)} {m:Str->Option Value},(∀v,(x,v)∉binds)->bindC kindOf binds m x=m x
 | [],_,_=>rfl
 | (n,v)::r,m,h=>by
  unfold bindC;rw[Ed λw hw=>h w (List.mem_cons_of_mem _ hw)];split
  ·rfl
  ·have:x≠n:=by rintro rfl;exact h v List.mem_cons_self
   simp[this]
theorem Ef{kindOf:Str->Option NameKind}{x:Str}{v:Value}:∀ {P:List Str} {vs:List Value} {i:Nat} {m:Str->Option Value},P.Nodup->P[i]? = some x->vs[i]? = some v->kindOf x=some .local->
  bindL kindOf (P.zip vs) m x=some v
 | [],_,_,_,_,h,_,_=>by simp at h
 | _::_,[],_,_,_,_,h,_=>by simp at h
 | p::P,w::vs,0,m,nd,h1,h2,hk=>by
  simp at h1 h2;subst h1;subst h2
  show bindL kindOf ((p,w)::P.zip vs) m p=_;unfold bindL;rw[Ec λv hv=>(List.nodup_cons.mp nd).1 (List.of_mem_zip hv).1,if_pos hk];simp
 | p::P,w::vs,i+1,m,nd,h1,h2,hk=>by
  show bindL kindOf ((p,w)::P.zip vs) m x=_;unfold bindL;exact Ef (i:=i) (List.nodup_cons.mp nd).2 (by simpa using h1) (by simpa using h2) hk
theorem Eg{kindOf:Str->Option NameKind}{x:Str}{v:Value}:∀ {P:List Str} {vs:List Value} {i:Nat} {m:Str->Option Value},P.Nodup->P[i]? = some x->vs[i]? = some v->kindOf x≠some .local->
  bindC kindOf (P.zip vs) m x=some v
 | [],_,_,_,_,h,_,_=>by simp at h
 | _::_,[],_,_,_,_,h,_=>by simp at h
 | p::P,w::vs,0,m,nd,h1,h2,hk=>by
  simp at h1 h2;subst h1;subst h2
  show bindC kindOf ((p,w)::P.zip vs) m p=_;unfold bindC;rw[Ed λv hv=>(List.nodup_cons.mp nd).1 (List.of_mem_zip hv).1,if_neg hk];simp
 | p::P,w::vs,i+1,m,nd,h1,h2,hk=>by
  show bindC kindOf ((p,w)::P.zip vs) m x=_;unfold bindC;exact Eg (i:=i) (List.nodup_cons.mp nd).2 (by simpa using h1) (by simpa using h2) hk
noncomputable def start(N:List Str)(vs:List V):St:=vs.map some++List.replicate (N.length - vs.length) none
noncomputable def fH(CX:eS)(P:Program)(w:World)(K:PySem.W.Frag)(mg:Str->Option Value)(base:Heap)(N:List Str)(qual:Str)(scope:Scope)(f:Addr)(cd:Value)(A:Around)(outer:List Env)(s:Shared)(H:Hp)(E:XK):Cx where
 prog:=P
 w:=w
 K:=K
 mg:=mg
 base:=base
 A:=A.deeper (envOfC qual scope s.heap.objs.size f cd)
 N:=N
 aI:=s
 cz:=H
 env:=envOfC qual scope s.heap.objs.size f cd
 outer:=outer
 stack:=envOfC qual scope s.heap.objs.size f cd::outer
 ex:=[]
 calm:=true
 fn:=λ_=>true
 pn:=[]
 xe:=λe s'=>wpAny (model P w) (A.deeper (envOfC qual scope s.heap.objs.size f cd)) (leaving (envOfC qual scope s.heap.objs.size f cd) e) (λ_ oK=>CX outer H s E e oK) (λe' oK=>CX outer H s E e' oK) s'
theorem Eh{sc:Scope}{n:Nat}{x:Str}(h:sc.names.lookup x=some .cell):∃c,(cellsFrom n sc.names []).lookup x=some c:=by
 have q:=PySem.W.cellsFrom_some sc.names n [] (.inl h);exact Option.isSome_iff_exists.mp q
theorem Ei{CX:eS}{P:Program}{w:World}{K:PySem.W.Frag}{mg:Str->Option Value}{base:Heap}{N ps:List Str}{qual:Str}{scope:Scope}{f:Addr}{cd:Value}{A:Around}{outer:List Env}{s s1:Shared}{H:Hp}{E:XK}{us:List Value}{vs:List V}
  (S:bB N ps scope) (hd:A.handled=none) (e0:jQ P w K mg base A outer s H) (hl:vs.length=ps.length) (r:Vals vs us)
  (x:InCallC s s.heap.objs.size (bindL (envOfC qual scope s.heap.objs.size f cd).kindOf (ps.zip us) λ_=>none) (cellsFrom (s.heap.objs.size+1) scope.names []) (bindC (envOfC qual scope s.heap.objs.size f cd).kindOf (ps.zip us) λ_=>none) s1) :
  Inv (fH CX P w K mg base N qual scope f cd A outer s H E) [] (start N vs) H s1:=by
 have dJ:ps.length<=N.length:=by have:=congrArg List.length S.pre;rw[List.length_take] at this;lia
 obtain⟨h1,tk,rfl,hk⟩:=x.done;have oM:∀b:Addr,b∉(fH CX P w K mg base N qual scope f cd A outer s H E).ex:=λb z=>absurd (show b∈([]:List Addr) from z) (by simp)
 refine⟨⟨e0.mod,S.kind,rfl,rfl,Nat.le_refl _,λy z c h1 h2=>?_,λy hy=>?_,λy c _ h=>?_,λ_=>hd,Around.frames_deeper e0.frames,.inr ⟨rfl,rfl⟩,λb z=>absurd z (oM b),e0.bs,e0.gu,λb _ _=>oM b,λb z=>absurd z (oM b),e0.dB,e0.e9⟩,
  rfl,e0.bare,Un.kept hk,⟨_,x.toInCall.ns,λi y v h1 h2 h3=>?_⟩,λy c h=>⟨_,x.cell y c h⟩,e0.aC.fresh (Nat.le_refl _),λy c h=>?_,λp hp=>absurd (show p∈([]:List (Addr×Obj)) from hp) (by simp),e0.aC.kept hk,?_⟩
 ·exact name_of_addr x.apart (PySem.mem_of_lookup h1) (PySem.mem_of_lookup h2)
 ·have hy:scope.names.lookup y=some .cell\/scope.names.lookup y=some .free:=hy;rcases hy with hy | hy
  ·exact Eh hy
  ·exact absurd rfl (S.MO _ (PySem.mem_of_lookup hy))
 ·exact Nat.le_of_lt (x.above y c (PySem.mem_of_lookup h))
 ·have hi:i<vs.length:=by
   unfold start at h2;by_cases hi:i<vs.length
   ·exact hi
   ·rw[List.getElem?_append_right (by simpa using hi)] at h2
    rw[List.getElem?_replicate] at h2;split at h2 <;> cases h2
  have ha:vs[i]? = some v:=by
   unfold start at h2;rw[List.getElem?_append_left (by simpa using hi),List.getElem?_map] at h2
   cases e:vs[i]? with
   | none=>rw[e] at h2;cases h2
   | some a=>rw[e] at h2;cases h2;rfl
  obtain⟨u,hu,rv⟩:=r.get ha;have hp:ps[i]? = some y:=by
   rw[← S.pre,List.getElem?_take_of_lt (by lia)];exact h1
  have Ej:ps.Nodup:=by rw[← S.pre];exact S.nd.sublist (List.take_sublist _ _)
  refine⟨u,rv,?_⟩;rcases S.par y (List.mem_of_getElem? hp) with k | k
  ·exact .inl ⟨k,Ef Ej hp hu k⟩
  ·obtain⟨c,e⟩:=Eh (n:=s.heap.objs.size+1) k;refine .inr ⟨.inl k,c,e,?_⟩;have q:=x.cell y c e;rw[Eg Ej hp hu (by show scope.names.lookup y≠_;rw[k];decide)] at q
   exact q
 ·exact e0.aC.fresh (Nat.le_of_lt (x.above y c (PySem.mem_of_lookup h)))
 ·unfold start
  show _=N.length;rw[List.length_append,List.length_map,List.length_replicate];lia
theorem xZ{CX:eS}{P:Program}{w:World}{K:PySem.W.Frag}{mg:Str->Option Value}{base:Heap}{k:Nat}{f:Addr}{name qual:Str}{params:Arguments}{body:List Stmt}{scope:Scope}{dV kV doc pm aM ct oc:Value}{an od:Option Addr}
  {eT:Array (Option Value)} {N ps:List Str} {sp:Sp} (lk:K.lookup f=some ⟨oc,od,.func (PySem.W.fnOf name qual params body scope dV kV doc pm an aM ct),eT⟩) (cA:PySem.W.codeIn K aM qual=true) (S:bB N ps scope)
  (len:∀vs H Q E,sp vs H Q E->vs.length=ps.length)
  (jg:∀(A:Around) (outer:List Env) (s:Shared) (H:Hp) (vs:List V) (Q:VK) (E:XK),bY k (A.deeper (envOfC qual scope s.heap.objs.size f aM))->sp vs H Q E->
   ∃t,eg (fH CX P w K mg base N qual scope f aM A outer s H E) body t/\t { nx:=λ_ H'=>Q .aH H',rt:=Q } (start N vs) H) :
  a_ P w K mg base CX (k+1) f (PySem.W.fnOf name qual params body scope dV kV doc pm an aM ct) ps sp:=by
 refine⟨len,λA outer s H args us vs Q E hr e0 hb r fJ=>?_⟩;have hl:=len _ _ _ _ fJ;have KX:K.In s.heap:=e0.mod.i9.keeps λb o e=>(e0.bs b o e).1;have lim:s.heap.NoLimit:=e0.mod.nolimit.keeps λb o e=>(e0.bs b o e).1;have MP:∀y∈ps.zip us,scope.names.lookup y.1=some .local\/(scope.names.lookup y.1=some .cell/\((cellsFrom (s.heap.objs.size+1) scope.names []).lookup y.1).isSome=true):=λ⟨n,v⟩ hy=>by
  rcases S.par n (List.of_mem_zip hy).1 with q | q
  ·exact .inl q
  ·exact .inr ⟨q,PySem.W.cellsFrom_some _ _ _ (.inl q)⟩
 refine codeAny_call_function hr.depth (KX _ _ lk) rfl S.co S.gen rfl (PySem.W.codeRec_of KX cA) (hb _ _ _ _ ?_);refine wpAny_newFunctionEnv_cells S.kind MP λenv he s1 x=>?_;subst he;refine⟨lim.keeps x.toInCall.keep,codeAny_func ?_⟩;obtain⟨t,ht,hq⟩:=jg A outer s H vs Q E (hr.deeper _) fJ;have I:Inv (fH CX P w K mg base N qual scope f aM A outer s H E) [] (start N vs) H s1:=Ei S hr.hd e0 hl r x;refine wpAny_mono (ht [] s1 (start N vs) H _ I hq) (λfl s' hs=>?_) λe s' hs=>hs;have fin:∀ {aV:St} {H':Hp} {v:V} {u:Value},Inv (fH CX P w K mg base N qual scope f aM A outer s H E) [] aV H' s'->RelV v u->Q v H'->CE outer P w H s Q u s' :=
  λ{aV H' v u} J rv q=>⟨v,H',J.os,J.bare,J.base,J.aC,rv,q⟩
 cases fl with
 | ret u =>
  obtain⟨v,aV,H',J,rv,q⟩:=hs;exact fin J rv q
 | next =>
  obtain⟨aV,H',J,q⟩:=hs;exact fin (v:=V.aH) (u:=Value.none) J rfl q
 | brk =>
  obtain⟨_,_,_,q⟩:=hs;exact False.elim q
 | cont =>
  obtain⟨_,_,_,q⟩:=hs;exact False.elim q
section
variable{X:Cx}{x:Str}{p pos:Pos}{e:Expr}{es:List Expr}{t:TA}{id T:String}{r:List V->Hp->VK->Prop}
noncomputable def Ek(r:List V->Hp->VK->Prop)(t:TA):TE:=λσ H Q=>t σ H λvs H1=>r vs H1 Q
theorem bI(hc:gA X (.builtin id) r)(hg:Gl X x)(hm:X.mg x=none)(hv:bootBuiltins x=some (.builtin id))(ha:PA X (e::es) t)(hn:x≠"__name__" := by decide)(dD:(x == ("__debug__" : Str))=false:=by decide)
  (he:starEach (e::es) X.env=(false,eval e X.env)::starEach es X.env:=by rfl) (dJ:(backTo pos (starEach es X.env)).any (·.1)=false:=by rfl):PE X (.Call (.Name x p) (e::es) [] pos) (Ek r t):=by
 intro pins s σ H Q I h;refine wpAny_Call_Name_kw (l_ I hg hm hv ?_ hn dD);exact PyProof.Rows.callWith_builtin1 (aQ (ha pos pins s σ H _ I h) λus s1 ⟨vs,H1,I1,r1,q1⟩=>hc pins s1 σ H1 vs us Q I1 r1 q1) he dJ
theorem iJ(hc:gA X (.type T) r)(hg:Gl X x)(hm:X.mg x=none)(hv:bootBuiltins x=some (.type T))(ha:PA X (e::es) t)(hn:x≠"__name__" := by decide)(dD:(x == ("__debug__" : Str))=false:=by decide)
  (he:starEach (e::es) X.env=(false,eval e X.env)::starEach es X.env:=by rfl) (dJ:(backTo pos (starEach es X.env)).any (·.1)=false:=by rfl):PE X (.Call (.Name x p) (e::es) [] pos) (Ek r t):=by
 intro pins s σ H Q I h;refine wpAny_Call_Name_kw (l_ I hg hm hv ?_ hn dD);exact PyProof.Rows.callWith_type1 (aQ (ha pos pins s σ H _ I h) λus s1 ⟨vs,H1,I1,r1,q1⟩=>hc pins s1 σ H1 vs us Q I1 r1 q1) he dJ
end
end _L
namespace _H
open PySem PyProof.Rows
noncomputable def lexLt:List Int->List Int->Bool
 | [],[]=>false
 | [],_::_=>true
 | _::_,[]=>false
 | x::xs,y::ys=>if x=y then lexLt xs ys else decide (x<y)
section
open PySem.SeqAt
open PySem.AutoSeq1 (wpAny_loadPart')
open PySem.MeetsSeq PySem.MeetsSeq2 PySem.MeetsSeq3
end
section
variable{prog:Program}{w:World}{A:Around}{E:Value->Shared->Prop}{s:Shared}
theorem MQ{t b:Addr}{vs ws:List Value}{Q:Value->Shared->Prop}(ht:IsTup s.heap t vs.toArray)(hb:IsTup s.heap b ws.toArray)(hv:vs≠[])
  (h1:ws = []->Q (.ref t) s) (h2:ws≠[]->Q (.ref s.heap.objs.size) { s with heap:=s.heap.push { cls:=.type "tuple",data:=.seq (vs++ws).toArray }})
  (hsz:vs.length+ws.length<=sizeLine):wpAny (model prog w) A (binaryOp .Add (.ref t) (.ref b)) Q E s:=by
 obtain⟨⟨cls,dd,data,sl⟩,ho,hc,n,hd⟩:=id ht;obtain⟨⟨Yg,x_,data2,jR⟩,rW,El,n2,hd2⟩:=id hb;simp only at hc hd El hd2;subst hc hd El hd2;have e:vs.toArray++ws.toArray=(vs++ws).toArray:=by simp
 by_cases hw:ws = []
 ·exact concat_meets ⟨_,ho,rfl⟩ ⟨_,rW,rfl⟩ noFill_tuple_add seq_tuple_add PySem.F.slot_tuple_add PySem.F.entry_tuple_add (PySem.F.args_tuple_add_2 _ _)
   (tuple_addW1 t b vs.toArray ws.toArray n n2 dd x_ sl jR (by simpa using hv) (by simp[hw])) ⟨ho,rW,h1 hw⟩
 ·refine concat_meets ⟨_,ho,rfl⟩ ⟨_,rW,rfl⟩ noFill_tuple_add seq_tuple_add PySem.F.slot_tuple_add PySem.F.entry_tuple_add (PySem.F.args_tuple_add_2 _ _)
   (tuple_addW2 t b vs.toArray ws.toArray n n2 dd x_ sl jR (by simpa using hv) (by simpa using hw) (by rw[List.size_toArray,List.size_toArray];exact hsz)) ⟨ho,rW,?_⟩
  rw[e];exact h2 hw
noncomputable def aW(n d:Nat):Option Int->Nat
 | none=>d
 | some v=>if v<0 then(v+(n:Int)).toNat else min v.toNat n
theorem MR(n d:Nat)(hd:d<=n)(o:Option Int):aW n d o<=n:=by
 cases o with
 | none=>exact hd
 | some v =>
  show (if v<0 then(v+(n:Int)).toNat else min v.toNat n)<=n
  by_cases hv:v<0
  ·rw[if_pos hv];lia
  ·rw[if_neg hv];exact Nat.min_le_right _ _
theorem Em(v:Int)(n d:Nat):(if v<0 then max (v+(n:Int)) 0 else min v (n:Int))=((aW n d (some v):Nat):Int):=by
 show (if v<0 then max (v+(n:Int)) 0 else min v (n:Int))=(((if v<0 then(v+(n:Int)).toNat else min v.toNat n):Nat):Int)
 by_cases hv:v<0
 ·simp only[if_pos hv];lia
 ·simp only[if_neg hv];lia
theorem MS(lo hi:Option Int)(n:Nat):Builtin.Slice.sliceAdjust lo hi 1 (n:Int)=(((aW n 0 lo:Nat):Int),((aW n n hi:Nat):Int)):=by
 have h1:¬ ((1:Int)<0):=by lia
 unfold Builtin.Slice.sliceAdjust;simp only[h1,if_false];refine Prod.ext ?_ ?_
 ·cases lo with
  | none=>rfl
  | some v=>exact Em v n 0
 ·cases hi with
  | none=>rfl
  | some v=>exact Em v n n
theorem MT(i j:Nat):Builtin.Slice.slicePlaces (i:Int) (j:Int) 1=j - i:=by
 unfold Builtin.Slice.slicePlaces;have h1:(1:Int) > 0:=by lia
 simp only[h1,if_true,Int.ediv_one];split <;> lia
theorem En{v:Value}{o:Option Int}{Q:Option Int->Shared->Prop}(p:IsPart v o)(h:Q o s):wpAny (model prog w) A (Builtin.Slice.slicePartIndex v) Q E s:=by
 cases p with
 | none=>exact slicePart_none h
 | int i t=>exact slicePart_int h
theorem MU{sl:Addr}{vl vu:Value}{lo hi:Option Int}{n:Nat}{Q:Int×Int×Nat->Shared->Prop}(hs:s.heap.IsSliceOf sl vl vu .none)(pl:IsPart vl lo)(pu:IsPart vu hi)
  (h:Q (((aW n 0 lo:Nat):Int),1,aW n n hi - aW n 0 lo) s):wpAny (model prog w) A (Builtin.Slice.sliceApplied (.ref sl) (pure (n:Int))) Q E s:=by
 obtain⟨os,oN,ya,rX⟩:=id hs;unfold Builtin.Slice.sliceApplied Builtin.Slice.sliceFields;refine wpAny_bind (wpAny_bind (wpAny_field oN rX (x:=vl) rfl (wpAny_bind (wpAny_field oN rX (x:=vu) rfl (wpAny_bind (wpAny_field oN rX (x:=.none) rfl (wpAny_pure ?_)))))));refine wpAny_bind (slicePart_none ?_)
 show wpAny _ _ (if ((1:Int) == 0)=true then _ else _) _ _ s
 rw[if_neg (by decide)]
 refine wpAny_bind (En pl (wpAny_bind (En pu (wpAny_bind (wpAny_pure ?_)))))
 show wpAny _ _ (match Builtin.Slice.sliceAdjust lo hi 1 (n:Int) with | (lo,hi)=>pure (lo,(1:Int),Builtin.Slice.slicePlaces lo hi 1)) _ _ s
 rw[MS lo hi n]
 show wpAny _ _ (pure (((aW n 0 lo:Nat):Int),(1:Int),Builtin.Slice.slicePlaces ((aW n 0 lo:Nat):Int) ((aW n n hi:Nat):Int) 1)) _ _ s;rw[MT];exact wpAny_pure h
theorem MV(xs:Array Value)(i k:Nat):((List.range k).filterMap λ(m:Nat)=>xs[((i:Int)+(m:Int)*1).toNat]?).toArray=((xs.toList.drop i).take k).toArray:=by
 have e:(λ(m:Nat)=>xs[((i:Int)+(m:Int)*1).toNat]?)=λm=>xs[i+m]? := by
  funext m
  have:((i:Int)+(m:Int)*1).toNat=i+m:=by lia
  rw[this]
 rw[e];have:=pick_run xs i k;rw[List.filterMap_map] at this;have e2:((λx=>xs[x]?) ∘ λx=>i+x)=λm=>xs[i+m]? := rfl;rw[e2] at this;rw[this]
theorem MW{t sl:Addr}{items:Array Value}{vl vu:Value}{lo hi:Option Int}{Q:Value->Shared->Prop}(ht:IsTup s.heap t items)(hs:s.heap.IsSliceOf sl vl vu .none)(pl:IsPart vl lo)(pu:IsPart vu hi)
  (hw:¬ (aW items.size 0 lo=0/\aW items.size items.size hi=items.size))
  (h:Q (.ref s.heap.objs.size) { s with heap:=s.heap.push { cls:=.type "tuple",data:=.seq ((items.toList.drop (aW items.size 0 lo)).take (aW items.size items.size hi - aW items.size 0 lo)).toArray }})
  (hsz:items.size<=sizeLine):wpAny (model prog w) A (getItem (.ref t) (.ref sl)) Q E s:=by
 have rY:sizeOk (.seq ((items.toList.drop (aW items.size 0 lo)).take (aW items.size items.size hi - aW items.size 0 lo)).toArray):=by
  show ((items.toList.drop (aW items.size 0 lo)).take (aW items.size items.size hi - aW items.size 0 lo)).toArray.size<=sizeLine;rw[List.size_toArray,List.length_take,List.length_drop,Array.length_toList];lia
 have hj:aW items.size items.size hi<=items.size:=MR _ _ (Nat.le_refl _) hi;obtain⟨os,oN,ya,rX⟩:=id hs;have MX:s.TypeIs (.ref sl) "slice" := ⟨os,oN,ya⟩;unfold getItem
 try with_reducible refine wpAny_holding ?_
 first | refine wpAny_bind (wpAny_pure ?_) | skip
 refine wpAny_bind (wpAny_sequenceKey ht.typeIs (by decide) ?_)
 refine wpAny_bind (wpAny_callSpecial?_slot (name:=Str.ofString "__getitem__") ht.typeIs PyProof.Rows.slot_tuple_getitem
  (wpAny_call_entry PyProof.Rows.slot_tuple_getitem ht.typeIs entry_tuple_getitem ?_ (args_tuple_getitem _ _)))
 show wpAny _ _ (Builtin.Tuple.tupleItemsOf (.ref t) >>= _) _ _ s;refine wpAny_bind (tupleItemsOf_ ht ?_);refine wpAny_bind (wpAny_typeOf MX ?_);rw[if_pos (by decide)]
 refine wpAny_bind (MU hs pl pu ?_);have oO:¬ ((((aW items.size 0 lo:Nat):Int) == 0 && (1:Int) == 1 && (aW items.size items.size hi - aW items.size 0 lo) == items.size)=true):=by
  intro q;rw[Bool.and_eq_true,Bool.and_eq_true] at q;have q1:((aW items.size 0 lo:Nat):Int)=0:=eq_of_beq q.1.1;have q2:aW items.size items.size hi - aW items.size 0 lo=items.size:=eq_of_beq q.2;exact hw ⟨by lia,by lia⟩
 show wpAny _ _ (if (((aW items.size 0 lo:Nat):Int) == 0 && (1:Int) == 1 && (aW items.size items.size hi - aW items.size 0 lo) == items.size)=true then _ else _) _ _ s
 rw[if_neg oO,MV]
 first
  | exact wpAny_bind (m:=Builtin.Tuple.tupleExact _) (wpAny_newObj_type (wpAny_pure ⟨_,rfl,wpAny_pure h⟩) rY)
  | exact wpAny_bind (m:=Builtin.Tuple.tupleExact _) (wpAny_newObj_type (wpAny_bind (wpAny_pure (wpAny_pure ⟨_,rfl,wpAny_pure h⟩))) rY)
  | exact wpAny_bind (wpAny_bind (m:=Builtin.Tuple.tupleExact _) (wpAny_newObj_type (wpAny_pure (wpAny_pure ⟨_,rfl,wpAny_pure h⟩)) rY))
  | exact wpAny_bind (wpAny_bind (m:=Builtin.Tuple.tupleExact _) (wpAny_newObj_type (wpAny_pure ⟨_,rfl,wpAny_pure h⟩) rY))
end
end _H
namespace _L
open PySem PySem.Spec PyProof.Rows
noncomputable abbrev TO:=St->Hp->(Option Int->Hp->Prop)->Prop
noncomputable def PO(X:Cx)(e:Option Expr)(t:TO):Prop :=
 ∀(pins:List (Addr×Obj)) (s:Shared) (σ:St) (H:Hp) (Q:Option Int->Hp->Prop),Inv X pins σ H s->t σ H Q->
  wpAny (model X.prog X.w) X.A (evalPart e X.env) (λu s'=>∃o H',Inv X pins σ H' s'/\IsPart u o/\Q o H') X.xe s
noncomputable def MY:TO:=λ_ H Q=>Q none H
noncomputable def MZ(t:TE):TO:=λσ H Q=>t σ H λx H1=>∃i,x = .int i/\Q (some i) H1
theorem intsAre_of{ns:List Int}:∀ {us:List Value},Vals (ns.map V.int) us->IntsAre us ns:=by
 induction ns with
 | nil=>intro us r;rw[List.map_nil] at r;cases r;exact .nil
 | cons n ns ih =>
  intro us r;rw[List.map_cons] at r;cases r with
  | cons r1 r2 =>
   obtain⟨t,e⟩:=r1;subst e;exact .cons n t (ih r2)
section
variable{X:Cx}{e:Expr}{te:TE}{lo hi:Option Expr}{tl th:TO}{pos p2:Pos}
theorem kX:PO X none MY:=by
 intro pins s σ H Q I h;rw[evalPart_none];exact wpAny_pure ⟨none,H,I,.none,h⟩
theorem gU(h:PE X e te):PO X (some e) (MZ te):=by
 intro pins s σ H Q I hw;rw[evalPart_some];refine aQ (h pins s σ H _ I hw) λu s1 ⟨x,H1,I1,r1,q1⟩=>?_;obtain⟨i,rfl,q⟩:=q1;obtain⟨t,rfl⟩:=r1;exact⟨some i,H1,I1,.int i t,q⟩
noncomputable def rZ(X:Cx)(r:V->Option Int->Option Int->Hp->VK->Prop):Prop :=
 ∀(pins:List (Addr×Obj)) (s:Shared) (σ:St) (H:Hp) (x:V) (v vl vu:Value) (lo hi:Option Int) (sl:Addr) (Q:VK),Inv X pins σ H s->RelV x v->s.heap.IsSliceOf sl vl vu .none->IsPart vl lo->IsPart vu hi->r x lo hi H Q->
  ∃T id,typeLookup (.type T) "__getitem__" = pure (some (.builtin id))/\s.TypeIs v T/\wpAny (model X.prog X.w) X.A (getItem v (.ref sl)) (EP X pins σ Q) X.xe s
noncomputable def M0(r:V->Option Int->Option Int->Hp->VK->Prop)(te:TE)(tl th:TO):TE:=λσ H Q=>te σ H λx H1=>tl σ H1 λl H2=>th σ H2 λu H3=>r x l u H3 Q
theorem jh{r:V->Option Int->Option Int->Hp->VK->Prop}(hr:rZ X r)(he:PE X e te)(hl:PO X lo tl)(hu:PO X hi th):PE X (.Subscript e (.Slice lo hi none p2) pos) (M0 r te tl th):=by
 intro pins s σ H Q I h;refine Subscript_ (aQ (he pins s σ H _ I h) λv s1 ⟨x,H1,I1,r1,q1⟩=>?_);refine wpAny_Slice (aQ (hl pins s1 σ H1 _ I1 q1) λvl s2 ⟨l,H2,I2,pl,q2⟩=>aQ (hu pins s2 σ H2 _ I2 q2) λvu s3 ⟨u,H3,I3,pu,q3⟩=>?_);rw[evalPart_none];refine wpAny_pure ?_;have I4:Inv X pins σ H3 { s3 with heap:=s3.heap.push { cls:=.type "slice",data:=.fields #[vl,vu,.none] }}:=I3.kept (t':=s3.toks) λb ob q=>Heap.get?_push_of_some _ q;obtain⟨T,id,hT,ht,hg⟩:=hr pins { s3 with heap:=s3.heap.push { cls:=.type "slice",data:=.fields #[vl,vu,.none] }} σ H3 x v vl vu l u s3.heap.objs.size Q I4 r1 (Heap.IsSliceOf.new ..) pl pu q3
 show wpAny (model X.prog X.w) X.A (subscriptTail e (.Slice lo hi none p2) v (.ref s3.heap.objs.size)) (EP X pins σ Q) X.xe { s3 with heap:=s3.heap.push { cls:=.type "slice",data:=.fields #[vl,vu,.none] }};exact tail_any (ops:=[.ref s3.heap.objs.size,v]) ht hT hg (by with_unfolding_all rfl)
noncomputable def dF(xs:List V)(lo hi:Option Int):List V:=(xs.drop (_H.aW xs.length 0 lo)).take (_H.aW xs.length xs.length hi - _H.aW xs.length 0 lo)
theorem Eo(xs:List V)(lo hi:Option Int):(dF xs lo hi).length<=xs.length:=by
 unfold dF;rw[List.length_take,List.length_drop];lia
noncomputable def Ep(K:PySem.W.Frag):V->Option Int->Option Int->Hp->VK->Prop:=λx lo hi H Q=>∃a xs,x = .ref a/\aJ K H a xs/\
 ¬ (_H.aW xs.length 0 lo=0/\_H.aW xs.length xs.length hi=xs.length)/\∀p,H p=none->Q (.ref p) (upd H p (.tup (dF xs lo hi)))
theorem oR:rZ X (Ep X.K):=by
 intro pins s σ H x v vl vu lo hi sl Q I rx hs pl pu h;obtain⟨a,xs,rfl,hx,hw,q⟩:=h;cases rx;obtain⟨aB,r,ht,hz⟩:=I.tuple hx;have hlen:aB.toArray.size=xs.length:=by rw[List.size_toArray];exact r.length.symm
 refine⟨"tuple",_,PyProof.Rows.slot_tuple_getitem.lookup,ht.typeIs,?_⟩;refine _H.MW ht hs pl pu (by rw[hlen];exact hw) ?_ (by rw[hlen];exact hz)
 rw[hlen];refine⟨.ref s.heap.objs.size,_,I.laid (t':=s.toks) (o:=.tup (dF xs lo hi)) (λb ob q=>Heap.get?_push_of_some _ q) (Nat.le_refl _) ?_,rfl,q _ (I.aC.fresh (Nat.le_refl _))⟩;exact⟨Nat.le_trans (Eo xs lo hi) hz,_,(r.drop (_H.aW xs.length 0 lo)).take (_H.aW xs.length xs.length hi - _H.aW xs.length 0 lo),IsTup.new _ _⟩
noncomputable def Er(K:PySem.W.Frag):R2:=λx y H Q=>∃a b xs ys,x = .ref a/\y = .ref b/\aJ K H a xs/\aJ K H b ys/\xs≠[]/\xs.length+ys.length<=sizeLine/\
 (ys = []->Q (.ref a) H)/\(ys≠[]->∀p,H p=none->Q (.ref p) (upd H p (.tup (xs++ys))))
theorem Vals.yc{xs:List V}{us:List Value}(r:Vals xs us):us = []↔xs = []:=by
 cases r with
 | nil=>simp
 | cons _ _=>simp
theorem mC:cT X (binaryOp .Add) (Er X.K):=by
 intro pins s σ H x y v u Q I rx ry h;obtain⟨a,b,xs,ys,rfl,rfl,ha,hb,hx,hz,q1,q2⟩:=h;cases rx;cases ry;obtain⟨aB,r1,p1,_⟩:=I.tuple ha;obtain⟨jS,r2,p2,_⟩:=I.tuple hb;refine _H.MQ p1 p2 (λz=>hx (r1.yc.mp z)) (λz=>⟨.ref a,H,I,rfl,q1 (r2.yc.mp z)⟩) (λz=>?_) (by rw[← r1.length,← r2.length];exact hz)
 refine⟨.ref s.heap.objs.size,_,I.laid (t':=s.toks) (o:=.tup (xs++ys)) (λb ob q=>Heap.get?_push_of_some _ q) (Nat.le_refl _) ?_,rfl,q2 (λw=>z (r2.yc.mpr w)) _ (I.aC.fresh (Nat.le_refl _))⟩;exact⟨by rw[List.length_append];exact hz,_,r1.append r2,IsTup.new _ _⟩
end
noncomputable def gW(n:Nat)(i:Int):Option Nat:=if 0<=i then(if i<n then some i.toNat else none) else if -(n:Int)<=i then some (i+n).toNat else none
noncomputable def eu{α:Type}(xs:List α)(i:Int):Option α:=(gW xs.length i).bind λj=>xs[j]?
theorem M1{n:Nat}{i:Int}{j:Nat}(h:gW n i=some j):seqIndex? i n=some j/\j<n/\-(n:Int)<=i/\i<n:=by
 unfold gW at h;by_cases h0:0<=i
 ·rw[if_pos h0] at h;by_cases h1:i<n
  ·rw[if_pos h1] at h;have e:i.toNat=j:=Option.some.inj h;exact⟨by rw[seqIndex_of h0 h1,e],by lia,by lia,h1⟩
  ·rw[if_neg h1] at h;cases h
 ·rw[if_neg h0] at h;by_cases h1 : -(n:Int)<=i
  ·rw[if_pos h1] at h;have e:(i+n).toNat=j:=Option.some.inj h;exact⟨by rw[seqIndex_neg (by lia) h1,e],by lia,h1,by lia⟩
  ·rw[if_neg h1] at h;cases h
theorem yd{α:Type}{xs:List α}{i:Int}{v:α}(h:eu xs i=some v):∃j,seqIndex? i xs.length=some j/\xs[j]? = some v/\j<xs.length/\-(xs.length:Int)<=i/\i<xs.length:=by
 unfold eu at h;cases e:gW xs.length i with
 | none=>rw[e] at h;cases h
 | some j =>
  rw[e] at h;obtain⟨h1,h2,h3,h4⟩:=M1 e;exact⟨j,h1,h,h2,h3,h4⟩
theorem cU{α:Type}{xs:List α}{j:Nat}{v:α}(h:xs[j]? = some v):eu xs (j:Int)=some v:=by
 have hj:j<xs.length:=(List.getElem?_eq_some_iff.mp h).1;have e:gW xs.length (j:Int)=some j:=by
  unfold gW;rw[if_pos (by lia),if_pos (by lia)];simp
 unfold eu;rw[e];exact h
noncomputable def M3(b:Expr):Prop:=∀o i,subscripted b false o i=operate [o,i] (getItem o i)
noncomputable def gX(X:Cx)(r:R2):Prop :=
 ∀(value slice:Expr) (pins:List (Addr×Obj)) (s:Shared) (σ:St) (H:Hp) (x y:V) (v u:Value) (Q:VK),Inv X pins σ H s->RelV x v->RelV y u->r x y H Q->
  subscripted slice false v u=operate [v,u] (getItem v u)->wpAny (model X.prog X.w) X.A (subscriptTail value slice v u) (EP X pins σ Q) X.xe s
noncomputable def M4(X:Cx)(id:String)(r:V->List V->Hp->VK->Prop):Prop :=
 ∀(pins:List (Addr×Obj)) (s:Shared) (σ:St) (H:Hp) (x:V) (xs:List V) (v:Value) (us:List Value) (Q:VK),Inv X pins σ H s->RelV x v->Vals xs us->r x xs H Q->
  wpAny (model X.prog X.w) X.A (call (.builtin id) (v::us)) (EP X pins σ Q) X.xe s
section
variable{X:Cx}{a b:Expr}{ta tb:TE}{pos:Pos}
theorem gX.or{r r':R2}(h:gX X r)(h':gX X r'):gX X (λx y H Q=>r x y H Q\/r' x y H Q):=by
 intro value slice pins s σ H x y v u Q I rx ry q hs;rcases q with q | q
 ·exact h value slice pins s σ H x y v u Q I rx ry q hs
 ·exact h' value slice pins s σ H x y v u Q I rx ry q hs
theorem aT{r:R2}(hr:gX X r)(ha:PE X a ta)(hb:PE X b tb)(hs:M3 b):PE X (.Subscript a b pos) (rN r ta tb):=by
 intro pins s σ H Q I h;exact Subscript_ (xP ha hb I h λv u s2 x y H2 I2 rx ry q=>hr a b pins s2 σ H2 x y v u Q I2 rx ry q (hs _ _))
noncomputable def r9(K:PySem.W.Frag):R2:=λx y H Q=>∃p xs i v,x = .ref p/\y = .int i/\aD K H p xs/\eu xs i=some v/\Q v H
noncomputable def r_(K:PySem.W.Frag):R2:=λx y H Q=>∃p xs i v,x = .ref p/\y = .int i/\aJ K H p xs/\eu xs i=some v/\Q v H
noncomputable def Es:R2:=λx y H Q=>∃z i c,x = .str z/\y = .int i/\z.length<=sizeLine/\eu z.cps.toList i=some c/\Q (.str ⟨#[c]⟩) H
theorem cD:gX X (r9 X.K):=by
 intro value slice pins s σ H x y v u Q I rx ry h hs;obtain⟨p,xs,i,z,rfl,rfl,hq,he,q⟩:=h;cases rx;obtain⟨t,rfl⟩:=ry;obtain⟨aB,r,pl,hz⟩:=I.list hq;obtain⟨j,h1,h2,h3,h4,h5⟩:=yd he;obtain⟨w,ew,yg⟩:=r.get h2;have hl:=r.length;have hn:=rR;have fin:EP X pins σ Q w s:=⟨z,H,I,yg,q⟩;by_cases h0:0<=i
 ·have hj:i.toNat=j:=by
   rw[seqIndex_of h0 h5] at h1;exact Option.some.inj h1
  exact item_listR pl.isList h0 (by lia) (by rw[hj];simpa using ew) fin hs
 ·have hj:(i+(aB.toArray.size:Int)).toNat=j:=by
   rw[seqIndex_neg (by lia) h4] at h1
   rw[List.size_toArray,← hl];exact Option.some.inj h1
  exact subscriptTail_builtinR (x:=w) pl.isList.typeIs slot_list_getitem.lookup
   (wpAny_getItem_list_neg (Q:=λr s'=>r=w/\EP X pins σ Q r s') pl.isList (by lia) (by rw[List.size_toArray] <;> lia) (by lia) (by rw[hj];simpa using ew) ⟨rfl,fin⟩) hs
theorem bR:gX X (r_ X.K):=by
 intro value slice pins s σ H x y v u Q I rx ry h hs;obtain⟨p,xs,i,z,rfl,rfl,hq,he,q⟩:=h;cases rx;obtain⟨t,rfl⟩:=ry;obtain⟨aB,r,pl,hz⟩:=I.tuple hq;obtain⟨j,h1,h2,h3,h4,h5⟩:=yd he;obtain⟨w,ew,yg⟩:=r.get h2;have hl:=r.length;have hn:=rR;have fin:EP X pins σ Q w s:=⟨z,H,I,yg,q⟩;exact subscriptTail_builtinR (x:=w) pl.typeIs slot_tuple_getitem.lookup
  (getItem_tuple (j:=j) (Q:=λr s'=>r=w/\EP X pins σ Q r s') pl (by lia) (by lia) (by rw[List.size_toArray,← hl];exact h1) (by simpa using ew) ⟨rfl,fin⟩) hs
theorem M5:gX X Es:=by
 intro value slice pins s σ H x y v u Q I rx ry h hs;obtain⟨z,i,c,rfl,rfl,hz,he,q⟩:=h;obtain⟨t,rfl⟩:=rx;obtain⟨t',rfl⟩:=ry;obtain⟨j,h1,h2,h3,h4,h5⟩:=yd he;have hl:z.cps.toList.length=z.length:=by simp[Str.length]
 rw[hl] at h1 h4 h5;have hn:=rR;exact tail_any (typeIs_str s z t) slot_str_getitem.lookup (getItem_str (c:=c) (by
  have e1:decide (i < -(2 ^ 63:Int))=false:=decide_eq_false (by lia)
  have e2:decide (i ≥ 2 ^ 63)=false:=decide_eq_false (by lia)
  rw[e1,e2,Bool.or_false]) (by rw[h1];simpa using h2) ⟨.str ⟨#[c]⟩,H,I.tok _,⟨_,rfl⟩,q⟩) hs
noncomputable def yh(K:PySem.W.Frag):R2:=λx y H Q=>r9 K x y H Q\/r_ K x y H Q\/Es x y H Q
theorem Et:gX X (yh X.K):=cD.or (bR.or M5)
noncomputable def Yh:V->V->V->Hp->(Hp->Prop)->Prop:=λo i v H Q=>∃p xs k j,o = .ref p/\i = .int k/\H p=some (.lst xs)/\gW xs.length k=some j/\Q (upd H p (.lst (xs.set j v)))
theorem M6(lo hi:Option Int)(n:Nat):(sliceBounds lo hi none n).1=((_H.aW n 0 lo:Nat):Int)/\(sliceBounds lo hi none n).2.1=((_H.aW n n hi:Nat):Int)/\(sliceBounds lo hi none n).2.2=1:=by
 refine⟨?_,?_,rfl⟩
 ·cases lo with
  | none=>simp[sliceBounds,_H.aW]
  | some i =>
   simp only[sliceBounds,_H.aW,Option.getD_none,show (1:Int) > 0 by decide,if_true]
   by_cases h:i<0
   ·simp only[h,if_true] <;> lia
   ·simp only[h,if_false] <;> lia
 ·cases hi with
  | none=>simp[sliceBounds,_H.aW]
  | some i =>
   simp only[sliceBounds,_H.aW,Option.getD_none,show (1:Int) > 0 by decide,if_true]
   by_cases h:i<0
   ·simp only[h,if_true] <;> lia
   ·simp only[h,if_false] <;> lia
theorem M7(aB:List Value)(lo hi:Option Int):slicePick aB.toArray lo hi none=((aB.drop (_H.aW aB.length 0 lo)).take (_H.aW aB.length aB.length hi - _H.aW aB.length 0 lo)).toArray:=by
 obtain⟨h1,h2,h3⟩:=M6 lo hi aB.toArray.size;unfold slicePick;rw[h1,h2,h3];simp only[sliceRange_one,pick_run,List.size_toArray] <;> rfl
noncomputable def M8(K:PySem.W.Frag):V->Option Int->Option Int->Hp->VK->Prop:=λx lo hi H Q=>∃a xs,x = .ref a/\aD K H a xs/\∀p,H p=none->Q (.ref p) (upd H p (.lst (dF xs lo hi)))
theorem yi:rZ X (M8 X.K):=by
 intro pins s σ H x v vl vu lo hi sl Q I rx hs pl pu h;obtain⟨a,xs,rfl,hx,q⟩:=h;cases rx;obtain⟨aB,r,ht,hz⟩:=I.list hx;have hlen:=r.length;refine⟨"list",_,slot_list_getitem.lookup,ht.isList.typeIs,?_⟩;refine wpAny_getItem_list_slice ht.isList hs pl pu .none (by simp) ?_ (by rw[List.size_toArray] <;> lia)
 rw[M7,← hlen];refine⟨.ref s.heap.objs.size,_,I.laid (t':=s.toks) (o:=.lst (dF xs lo hi)) (λb ob q=>Heap.get?_push_of_some _ q) (Nat.le_refl _) ?_,rfl,q _ (I.aC.fresh (Nat.le_refl _))⟩;exact⟨Nat.le_trans (Eo xs lo hi) hz,_,0,(r.drop (_H.aW xs.length 0 lo)).take (_H.aW xs.length xs.length hi - _H.aW xs.length 0 lo),Heap.get?_push_size _ rfl⟩
noncomputable def iK:V->Bool
 | .aH=>true
 | .bl _=>true
 | .int _=>true
 | .str _=>true
 | _=>false
noncomputable def ji:V->V->Bool
 | .aH,.aH=>true
 | .bl a,.bl b=>a == b
 | .bl a,.int b=>(if a then 1 else 0) == b
 | .int a,.bl b=>a == (if b then 1 else 0)
 | .int a,.int b=>a == b
 | .str a,.str b=>a == b
 | _,_=>false
theorem M9{A:Around}{s:Shared}{y x:V}{u v:Value}(ry:RelV y u)(rx:RelV x v)(fy:iK y=true)(fx:iK x=true):SeqAt.EqAt A s u v (ji y x):=by
 cases y with
 | aH =>
  cases ry;cases x with
  | aH=>cases rx;exact SeqAt.EqAt.same _
  | bl b=>cases rx;exact SeqAt.EqAt.none_bool b
  | int b=>obtain⟨t,rfl⟩:=rx;exact SeqAt.EqAt.none_int b t
  | str b=>obtain⟨t,rfl⟩:=rx;exact SeqAt.EqAt.none_str b t
  | _=>exact absurd (show false=true from fx) Bool.false_ne_true
 | bl a =>
  cases ry;cases x with
  | aH=>cases rx;exact SeqAt.EqAt.bool_none a
  | bl b=>cases rx;exact SeqAt.EqAt.bool_bool a b
  | int b=>obtain⟨t,rfl⟩:=rx;exact SeqAt.EqAt.bool_int a b t
  | str b=>obtain⟨t,rfl⟩:=rx;exact SeqAt.EqAt.bool_str a b t
  | _=>exact absurd (show false=true from fx) Bool.false_ne_true
 | int a =>
  obtain⟨t',rfl⟩:=ry;cases x with
  | aH=>cases rx;exact SeqAt.EqAt.int_none a t'
  | bl b=>cases rx;exact SeqAt.EqAt.int_bool a t' b
  | int b=>obtain⟨t,rfl⟩:=rx;exact SeqAt.EqAt.int_int a t' b t
  | str b=>obtain⟨t,rfl⟩:=rx;exact SeqAt.EqAt.int_str a t' b t
  | _=>exact absurd (show false=true from fx) Bool.false_ne_true
 | str a =>
  obtain⟨t',rfl⟩:=ry;cases x with
  | aH=>cases rx;exact SeqAt.EqAt.str_none a t'
  | bl b=>cases rx;exact SeqAt.EqAt.str_bool a t' b
  | int b=>obtain⟨t,rfl⟩:=rx;exact SeqAt.EqAt.str_int a t' b t
  | str b=>obtain⟨t,rfl⟩:=rx;exact SeqAt.EqAt.str_str a t' b t
  | _=>exact absurd (show false=true from fx) Bool.false_ne_true
 | _=>exact absurd (show false=true from fy) Bool.false_ne_true
noncomputable def jj(x:V)(u:Value):Bool:=match u with
 | .none=>ji .aH x
 | .bool b=>ji (.bl b) x
 | .int i _=>ji (.int i) x
 | .str z _=>ji (.str z) x
 | _=>false
theorem Eu{x y:V}{u:Value}(r:RelV y u)(f:iK y=true):jj x u=ji y x:=by
 cases y with
 | aH=>cases r;rfl
 | bl b=>cases r;rfl
 | int i=>obtain⟨t,rfl⟩:=r;rfl
 | str z=>obtain⟨t,rfl⟩:=r;rfl
 | _=>exact absurd (show false=true from f) Bool.false_ne_true
theorem yj{x:V}:∀ {xs:List V} {us:List Value},Vals xs us->xs.all iK=true->us.any (jj x)=xs.any λy=>ji y x
 | _,_,.nil,_=>rfl
 | y::xs,u::us,.cons r t,f=>by
  rw[List.all_cons,Bool.and_eq_true] at f;rw[List.any_cons,List.any_cons,Eu r f.1,yj t f.2]
theorem yl{A:Around}{s:Shared}{x:V}{v:Value}(rx:RelV x v)(fx:iK x=true):∀ {xs:List V} {us:List Value},Vals xs us->xs.all iK=true->∀u∈us,SeqAt.EqAt A s u v (jj x u)
 | _,_,.nil,_=>λu hu=>by cases hu
 | y::xs,u::us,.cons r t,f=>λu' hu=>by
  rw[List.all_cons,Bool.and_eq_true] at f;rcases List.mem_cons.mp hu with rfl | hu
  ·rw[Eu r f.1];exact M9 r rx f.1 fx
  ·exact yl rx fx t f.2 u' hu
noncomputable def se(x:V)(xs:List V):Bool:=xs.any λy=>ji y x
noncomputable def Ew(K:PySem.W.Frag)(neg:Bool):R2:=λx y H Q=>∃p xs,y = .ref p/\(aD K H p xs\/aJ K H p xs)/\iK x=true/\xs.all iK=true/\Q (.bl (if neg then !se x xs else se x xs)) H
theorem M_:cT X (compareOp .In) (Ew X.K false):=by
 intro pins s σ H x y v u Q I rx ry h;obtain⟨p,xs,rfl,hq,fx,fs,q⟩:=h;cases ry;rcases hq with hq | hq
 ·obtain⟨aB,r,pl,hz⟩:=I.list hq;refine SeqAt.in_listAt (jj x) pl.isList (λw hw=>yl rx fx r fs w (by simpa using hw)) ⟨.bl _,H,I,rfl,?_⟩
  rw[show aB.toArray.any (jj x)=aB.any (jj x) by simp,yj r fs]
  exact q
 ·obtain⟨aB,r,pl,hz⟩:=I.tuple hq;refine SeqAt.in_tupleAt (jj x) pl (λw hw=>yl rx fx r fs w (by simpa using hw)) ⟨.bl _,H,I,rfl,?_⟩
  rw[show aB.toArray.any (jj x)=aB.any (jj x) by simp,yj r fs]
  exact q
theorem dG:gA X (.builtin "len") (λxs H Q=>∃p ys,xs = [.ref p]/\(aD X.K H p ys\/aJ X.K H p ys)/\Q (.int ys.length) H):=by
 intro pins s σ H xs us Q I r h;obtain⟨p,ys,rfl,hq,q⟩:=h;obtain⟨u,rfl,rx⟩:=vals1 r;cases rx;have hn:=rR;rcases hq with hq | hq
 ·obtain⟨aB,r',pl,hz⟩:=I.list hq;have hlen:=r'.length;exact Calls.call_len_list pl.isList (by simp only[List.size_toArray] <;> lia) ⟨.int ys.length,H,I.tok _,⟨s.toks+1,by rw[List.size_toArray,hlen]⟩,q⟩
 ·obtain⟨aB,r',pl,hz⟩:=I.tuple hq;have hlen:=r'.length;exact len_tuple pl (by simp only[List.size_toArray] <;> lia) ⟨.int ys.length,H,I.tok _,⟨s.toks+1,by rw[List.size_toArray,hlen]⟩,q⟩
theorem ym:gA X (.type "list") (λxs H Q=>∃p ys,xs = [.ref p]/\(aD X.K H p ys\/aJ X.K H p ys)/\∀l,H l=none->Q (.ref l) (upd H l (.lst ys))):=by
 intro pins s σ H xs us Q I r h;obtain⟨p,ys,rfl,hq,q⟩:=h;obtain⟨u,rfl,rx⟩:=vals1 r;cases rx;have fin:∀(aB:List Value),Vals ys aB->ys.length<=sizeLine->∀(h':Heap) (c':Nat),(∀b o',s.heap.get? b=some o'->h'.get? b=some o')->
   h'.get? s.heap.objs.size=some { cls:=.type "list",dict:=none,data:=.seq aB.toArray c',slots := #[] }->EP X pins σ Q (.ref s.heap.objs.size) { s with heap:=h' }:=λaB r' hz h' c' kp e =>
  ⟨.ref s.heap.objs.size,_,I.laid (t':=s.toks) kp (Nat.le_refl _) (show bQ X.prog X.w _ h' _ (.lst ys) from⟨hz,aB,c',r',e⟩),rfl,q _ (I.aC.fresh (Nat.le_refl _))⟩
 rcases hq with hq | hq
 ·obtain⟨aB,r',pl,hz⟩:=I.list hq;have hlen:=r'.length;obtain⟨o,ho,hc,n,hd⟩:=pl.isList;exact call_list_seq p (.inl rfl) ho hc hd (λh' c' kp e=>fin aB r' hz h' c' kp e) (by simp only[List.size_toArray] <;> lia)
 ·obtain⟨aB,r',pl,hz⟩:=I.tuple hq;have hlen:=r'.length;obtain⟨o,ho,hc,n,hd⟩:=pl;exact call_list_seq p (.inr rfl) ho hc hd (λh' c' kp e=>fin aB r' hz h' c' kp e) (by simp only[List.size_toArray] <;> lia)
theorem kY:gA X (.type "tuple") (λxs H Q=>∃p ys,xs = [.ref p]/\((aD X.K H p ys/\∀l,H l=none->Q (.ref l) (upd H l (.tup ys)))\/(aJ X.K H p ys/\Q (.ref p) H))):=by
 intro pins s σ H xs us Q I r h;obtain⟨p,ys,rfl,h⟩:=h;obtain⟨u,rfl,rx⟩:=vals1 r;cases rx;rcases h with⟨hq,q⟩ | ⟨hq,q⟩
 ·obtain⟨aB,r',pl,hz⟩:=I.list hq;have hlen:=r'.length;refine call_tuple_list pl.isList (λh' kp=>?_) (by simp only[List.size_toArray] <;> lia)
  have I1:Inv X pins σ H { s with heap:=h' }:=I.kept (t':=s.toks) kp;have I2:Inv X pins σ (upd H h'.objs.size (.tup ys)) { s with heap:=h'.push { cls:=.type "tuple",data:=.seq aB.toArray }} :=
   I1.laid (t':=s.toks) (λb o e=>Heap.get?_push_of_some _ e) (Nat.le_refl _) (show bQ X.prog X.w _ _ _ (.tup ys) from⟨hz,aB,r',IsTup.new _ _⟩)
  exact⟨.ref h'.objs.size,_,I2,rfl,q _ (I1.aC.fresh (Nat.le_refl _))⟩
 ·obtain⟨aB,r',pl,hz⟩:=I.tuple hq;exact call_tuple_same pl ⟨.ref p,H,I,rfl,q⟩
noncomputable def yp(K:PySem.W.Frag)(T:String)(x:V)(H:Hp):Prop:=match x with
 | .str _=>T = "str"
 | .int _=>T = "int"
 | .ref p=>(T = "list"/\∃xs,aD K H p xs)\/(T = "tuple"/\∃o,K.lookup p=some o/\o.cls = .type "tuple"/\o.dict=none)\/
   (T = "dict"/\((∃aE,H p=some (.dK aE))\/∃aE,H p=some (.dT aE)))\/(T = "set"/\∃S n,H p=some (.set S n))
 | _=>False
theorem Na{pins:List (Addr×Obj)}{σ:St}{H:Hp}{s:Shared}{T:String}{x:V}{v:Value}(I:Inv X pins σ H s)(r:RelV x v)(ty:yp X.K T x H) :
  s.TypeIs v T/\∀a,v = .ref a->∃ob,s.heap.get? a=some ob/\ob.dict=none:=by
 cases x with
 | str z =>
  obtain⟨t,rfl⟩:=r;cases (show T = "str" from ty);exact⟨typeIs_str s z t,λ_ e=>nomatch e⟩
 | int i =>
  obtain⟨t,rfl⟩:=r;cases (show T = "int" from ty);exact⟨typeIs_int s i t,λ_ e=>nomatch e⟩
 | ref p =>
  cases r;rcases ty with⟨rfl,xs,hq⟩ | ⟨rfl,o,hk,hc,hd⟩ | ⟨rfl,hk⟩ | ⟨rfl,S,n,hk⟩
  ·obtain⟨aB,_,pl,_⟩:=I.list hq;refine⟨pl.isList.typeIs,λa e=>?_⟩;cases e;obtain⟨o,n,e,c,hd,_⟩:=pl;exact⟨o,e,hd⟩
  ·refine⟨⟨o,I.bN p o hk,hc⟩,λa e=>?_⟩;cases e;exact⟨o,I.bN _ o hk,hd⟩
  ·have z:∃o,s.heap.get? p=some o/\o.ExactDict:=by
    rcases hk with⟨aE,hk⟩ | ⟨aE,hk⟩
    ·obtain⟨_,_,_,_,o,_,_,e,ex,_⟩:=I.aC p _ hk;exact⟨o,e,ex⟩
    ·obtain⟨_,_,_,_,o,_,_,e,ex,_⟩:=I.aC p _ hk;exact⟨o,e,ex⟩
   obtain⟨o,e,ex⟩:=z;refine⟨⟨o,e,ex.1⟩,λa e2=>?_⟩;cases e2;exact⟨o,e,ex.2.1⟩
  ·obtain⟨o,_,_,_,e,ex,_⟩:=I.aC p _ hk;refine⟨⟨o,e,ex.1⟩,λa e2=>?_⟩;cases e2;exact⟨o,e,ex.2.1⟩
 | _=>exact False.elim ty
noncomputable def Yi(K:PySem.W.Frag)(T:String)(r:V->List V->Hp->VK->Prop)(to:TE):TE:=λσ H Q=>to σ H λx H1=>yp K T x H1/\r x [] H1 Q
noncomputable def Nb(K:PySem.W.Frag)(T:String)(r:V->List V->Hp->VK->Prop)(to:TE)(t:TA):TE:=λσ H Q=>to σ H λx H1=>yp K T x H1/\t σ H1 λxs H2=>r x xs H2 Q
variable{o e:Expr}{es:List Expr}{to:TE}{t:TA}{name:Str}{apos bX:Pos}{T id:String}{r:V->List V->Hp->VK->Prop}
theorem gY(pa:PlainAttrs T)(slot:Slot T name id)(Nc:typeOf (.builtin id)=pure (.type "method_descriptor"))(hm:M4 X id r)(ho:PE X o to)(ha:PA X (e::es) t)
  (jk:attributeBase o name X.env (eval o X.env)=eval o X.env:=by rfl)
  (Nd:((backTo bX (starEach (e::es) X.env)).all (λx => !x.1) && (backToKw bX (keywordEach [] X.env)).all (λx=>x.1.isSome)
   && decide ((e::es).length+([]:List Keyword).length+(if ([]:List Keyword).isEmpty then 0 else 1)<30))=true:=by rfl)
  (Nf:(apos.endLine == bX.line)=true:=by rfl) (hs:starEach (e::es) X.env=(false,eval e X.env)::starEach es X.env:=by rfl) (kZ:(backTo bX (starEach es X.env)).any (·.1)=false:=by rfl) :
  PE X (.Call (.Attribute o name apos) (e::es) [] bX) (Nb X.K T r to t):=by
 intro pins s σ H Q I h;refine wpAny_Call_method_late jk Nd Nf rfl (aQ (ho pins s σ H _ I h) λv s1 ⟨x,H1,I1,r1,ty,q1⟩=>?_);obtain⟨h1,h2⟩:=Na I1 r1 ty;refine⟨T,id,pa,slot,Nc,h1,h2,?_⟩;have hA:=ha bX pins s1 σ H1 _ I1 q1;rw[hs] at hA ⊢;refine Calls.callWith_builtin (by show (false || (backTo bX (starEach es X.env)).any (·.1))=false;rw[kZ] <;> rfl) (Calls.evalArgs_plain ?_)
 exact aQ hA λus s2 ⟨vs,H2,I2,r2,q2⟩=>hm pins s2 σ H2 x vs v us Q I2 r1 r2 q2
end
noncomputable def Ex(X:Cx)(id:String)(r:V->List V->Hp->VK->Prop):Prop :=
 ∀(pins:List (Addr×Obj)) (s:Shared) (σ:St) (H:Hp) (x:V) (xs:List V) (v:Value) (us:List Value) (Q:VK),Inv X pins σ H s->RelV x v->Vals xs us->r x xs H Q->
  wpAny (model X.prog X.w) X.A (call (.builtin id) (v::us)) (EP X pins σ Q) X.xe s
theorem Vals.one:∀ {x:V} {us:List Value},Vals [x] us->∃u,us = [u]/\RelV x u
 | _,_,.cons r .nil=>⟨_,rfl,r⟩
theorem Vals.rep{xs:List V}{us:List Value}(h:Vals xs us):∀k:Nat,Vals (List.replicate k xs).flatten (List.replicate k us).flatten
 | 0=>.nil
 | k+1=>by
  rw[List.replicate_succ,List.replicate_succ,List.flatten_cons,List.flatten_cons];exact Vals.append h (Vals.rep h k)
theorem foldl_rep(aB:List Value):∀(k:Nat) (acc:List Value),
  List.foldl (λx1 x2=>x1++x2) acc.toArray (List.replicate k aB.toArray)=(acc++(List.replicate k aB).flatten).toArray
 | 0,acc=>by simp
 | k+1,acc=>by
  have e:acc.toArray++aB.toArray=(acc++aB).toArray:=by simp
  have e2:(acc++aB)++(List.replicate k aB).flatten=acc++(List.replicate (k+1) aB).flatten:=by
   rw[List.replicate_succ,List.flatten_cons,List.append_assoc]
  rw[← e2,← foldl_rep aB k (acc++aB),← e,List.replicate_succ,List.foldl_cons]
section
variable{X:Cx}{pins:List (Addr×Obj)}{σ:St}{H:Hp}{s:Shared}{l b:Addr}{xs ys zs:List V}
theorem Inv.Ey{aB its':List Value}{n:Nat}{f:Array Value->Array Value}{t':Nat}(I:Inv X pins σ H s)(hH:H l=some (.lst xs))
  (e:s.heap.get? l=some { cls:=.type "list",data:=.seq aB.toArray n }) (hf:f aB.toArray=its'.toArray) (hv:Vals ys its') (hz:ys.length<=sizeLine) :
  Inv X pins σ (upd H l (.lst ys)) { s with heap:=s.heap.update l (Obj.mapSeq f),toks:=t' }:=by
 have q:=PySem.IsL.update e f;rw[hf] at q;refine I.write (x:=l) (e:=l) (by rw[hH];exact trivial) (.inl rfl) (λb' u hb hu=>(Heap.get?_update_other s.heap (Obj.mapSeq f) (Ne.symm hb)).trans hu) ⟨_,q⟩ ?_
 exact⟨hz,its',_,hv,q⟩
theorem Inv.Ez{aB:List Value}{t':Nat}(I:Inv X pins σ H s)(hv:Vals ys aB)(hz:ys.length<=sizeLine) :
  Inv X pins σ (upd H s.heap.objs.size (.lst ys)) { s with heap:=s.heap.push { cls:=.type "list",data:=.seq aB.toArray },toks:=t' } :=
 I.laid (λ_ _ q=>Heap.get?_push_of_some _ q) (Nat.le_refl _) ⟨hz,aB,0,hv,Heap.get?_push_size _ rfl⟩
theorem Inv.fresh(I:Inv X pins σ H s):H s.heap.objs.size=none:=I.aC.fresh (Nat.le_refl _)
theorem Inv.mD(I:Inv X pins σ H s)(hH:H l=some (.lst xs)):xs.length<=sizeLine/\∃(aB:List Value) (n:Nat),Vals xs aB/\xs.length=aB.length/\s.heap.get? l=some { cls:=.type "list",data:=.seq aB.toArray n }:=by
 obtain⟨z,aB,n,r,e⟩:=I.aC l _ hH;exact⟨z,aB,n,r,r.length,e⟩
theorem EA{n:Nat}(h:n<=sizeLine):Builtin.List.listTooLong n=false:=by
 unfold Builtin.List.listTooLong;exact decide_eq_false (by lia)
end
section
variable{X:Cx}
noncomputable def Ng:V->List V->Hp->VK->Prop:=λx vs H Q=>∃l xs y,x = .ref l/\vs = [y]/\H l=some (.lst xs)/\xs.length<sizeLine/\Q .aH (upd H l (.lst (xs++[y])))
theorem gZ:Ex X "list.append" Ng:=by
 intro pins s σ H x vs v us Q I rx rv h;obtain⟨l,xs,y,rfl,rfl,hH,hz,q⟩:=h;cases rx;obtain⟨u,rfl,ru⟩:=rv.one;obtain⟨z,aB,n,r,hl,e⟩:=I.mD hH;refine call_meets F.slot_list_append ⟨_,e,rfl⟩ F.entry_list_append (F.args_list_append_2 _ _) (PySem.list_append l aB.toArray n u (by rw[List.size_toArray];lia)) ⟨e,?_⟩
 refine⟨.aH,_,I.Ey (its':=aB++[u]) hH e (by simp) (r.append (.cons ru .nil)) ?_,rfl,q⟩
 rw[List.length_append,List.length_singleton];lia
noncomputable def Nh:V->List V->Hp->VK->Prop:=λx vs H Q=>∃l b xs zs,x = .ref l/\vs = [.ref b]/\H l=some (.lst xs)/\H b=some (.lst zs)/\xs.length+zs.length<=sizeLine/\Q .aH (upd H l (.lst (xs++zs)))
theorem EB:Ex X "list.extend" Nh:=by
 intro pins s σ H x vs v us Q I rx rv h;obtain⟨l,b,xs,zs,rfl,rfl,hH,hB,hz,q⟩:=h;cases rx;obtain⟨u,rfl,ru⟩:=rv.one;cases ru;obtain⟨z,aB,n,r,hl,e⟩:=I.mD hH;obtain⟨z2,jS,n2,r2,Ni,e2⟩:=I.mD hB;have hsz:aB.toArray.size+jS.toArray.size<=sizeLine:=by rw[List.size_toArray,List.size_toArray];lia
 have yq:¬ (!aB.toArray.isEmpty && Builtin.List.listTooLong (aB.toArray.size+jS.toArray.size))=true:=by
  rw[EA hsz,Bool.and_false];exact Bool.false_ne_true
 refine call_meets F.slot_list_extend ⟨_,e,rfl⟩ F.entry_list_extend (F.args_list_extend_2 _ _)
  (AutoSeq1.list_extend_list_list_0 l aB.toArray n b jS.toArray n2 yq (by rw[List.size_toArray];lia) (by lia)) ⟨e,e2,?_⟩
 refine⟨.aH,_,I.Ey (its':=aB++jS) hH e (by simp) (r.append r2) ?_,rfl,q⟩
 rw[List.length_append];lia
noncomputable def Yj:V->List V->Hp->VK->Prop:=λx vs H Q=>∃l xs y,x = .ref l/\vs = []/\H l=some (.lst xs)/\xs[xs.length - 1]? = some y/\Q y (upd H l (.lst xs.dropLast))
noncomputable def Yk:V->List V->Hp->VK->Prop:=λx vs H Q=>∃l xs,x = .ref l/\vs = []/\H l=some (.lst xs)/\Q .aH (upd H l (.lst []))
noncomputable def Nj:R2:=λx y H Q=>∃l b xs zs,x = .ref l/\y = .ref b/\H l=some (.lst xs)/\H b=some (.lst zs)/\xs.length+zs.length<=sizeLine/\∀p,H p=none->Q (.ref p) (upd H p (.lst (xs++zs)))
theorem mF:cT X (binaryOp .Add) Nj:=by
 intro pins s σ H x y v u Q I rx ry h;obtain⟨l,b,xs,zs,rfl,rfl,hH,hB,hz,q⟩:=h;cases rx;cases ry;obtain⟨z,aB,n,r,hl,e⟩:=I.mD hH;obtain⟨z2,jS,n2,r2,Ni,e2⟩:=I.mD hB;refine PySem.P.add_list e e2 ?_ (by rw[List.size_toArray,List.size_toArray];lia)
 have ea:aB.toArray++jS.toArray=(aB++jS).toArray:=by simp
 rw[ea];exact⟨.ref _,_,I.Ez (t':=s.toks) (r.append r2) (by rw[List.length_append];lia),rfl,q _ I.fresh⟩
noncomputable def Nk:R2:=λx y H Q=>∃l k xs,x = .ref l/\y = .int k/\H l=some (.lst xs)/\-(2 ^ 63)<=k/\k<2 ^ 63/\xs.length*k.toNat<=sizeLine/\
 ∀p,H p=none->Q (.ref p) (upd H p (.lst (List.replicate k.toNat xs).flatten))
theorem len_rep{α:Type}(xs:List α)(k:Nat):(List.replicate k xs).flatten.length=k*xs.length:=by
 induction k with
 | zero=>simp
 | succ k ih=>rw[List.replicate_succ,List.flatten_cons,List.length_append,ih,Nat.succ_mul,Nat.add_comm]
theorem EC:cT X (binaryOp .Mult) Nk:=by
 intro pins s σ H x y v u Q I rx ry h;obtain⟨l,k,xs,rfl,rfl,hH,h1,h2,hz,q⟩:=h;cases rx;obtain⟨t,rfl⟩:=ry;obtain⟨z,aB,n,r,hl,e⟩:=I.mD hH;have hlen:aB.toArray.size*k.toNat<=sizeLine:=by rw[List.size_toArray,← hl];exact hz
 have Nl:¬ aB.toArray.size*k.toNat > (2 ^ 63 - 1) / 8:=by
  have:(sizeLine:Nat)<=(2 ^ 63 - 1) / 8:=by decide
  lia
 have Nm:¬ (!Builtin.List.listFitsIndex k)=true:=by
  rw[fitsIndex_both h1 h2];exact Bool.false_ne_true
 have yq:¬ Builtin.List.listTooLong (aB.toArray.size*k.toNat)=true:=by
  rw[EA hlen];exact Bool.false_ne_true
 have Nn:List.foldl (λx1 x2=>x1++x2) #[] (List.replicate (if aB.toArray.isEmpty=true then 0 else k.toNat) aB.toArray)=(List.replicate k.toNat aB).flatten.toArray:=by
  have f0:∀m:Nat,List.foldl (λx1 x2=>x1++x2) #[] (List.replicate m aB.toArray)=(List.replicate m aB).flatten.toArray:=λm=>by
   have:=foldl_rep aB m [];rw[List.nil_append] at this;exact this
  rw[f0];cases aB with
  | nil=>simp
  | cons a r'=>rw[if_neg (by simp)]
 refine wpAny_binaryOp_repeat_ref (T := "list") (U := "int") (by decide) ⟨_,e,rfl⟩ (λs'=>typeIs_int s' k t) noFill_list_mul F.fills_int_mul F.slot_int_rmul repeat_list F.slot_int_index.lookup
  (call_meets F.slot_int_rmul (typeIs_int s k t) F.entry_int_rmul (F.args_int_rmul_2 _ _) (int___rmul___int_list k t l aB.toArray n)
   ⟨e,rfl,⟨_,e,rfl⟩,call_meets F.slot_list_mul ⟨_,e,rfl⟩ F.entry_list_mul (F.args_list_mul_2 _ _) (AutoListH.list___mul___list_int_3 l aB.toArray n k t Nm Nl yq) ⟨e,?_⟩⟩)
 rw[Nn];exact⟨.ref _,_,I.Ez (t':=s.toks) (r.rep k.toNat) (by rw[len_rep,Nat.mul_comm];exact hz),rfl,q _ I.fresh⟩
end
section
variable{prog:Program}{w:World}{A:Around}{E:Value->Shared->Prop}{s:Shared}
end
section
variable{X:Cx}
end
section
variable{κ:Type}[DecidableEq κ]
noncomputable def jl(aE:List (κ×V))(k:κ):Option V:=(aE.find? λkv=>decide (kv.1=k)).map (·.2)
noncomputable def putK(aE:List (κ×V))(k:κ)(v:V):List (κ×V) :=
 if (aE.any λkv=>decide (kv.1=k))=true then aE.map (λkv=>if kv.1=k then(kv.1,v) else kv) else aE++[(k,v)]
theorem ED{p:κ×V}{r:List (κ×V)}{k:κ}(e:p.1=k):jl (p::r) k=some p.2:=by simp[jl,List.find?_cons,e]
theorem EF{p:κ×V}{r:List (κ×V)}{k:κ}(e:¬ p.1=k):jl (p::r) k=jl r k:=by simp[jl,List.find?_cons,e]
theorem EG(k:κ):∀aE:List (κ×V),(aE.any λkv=>decide (kv.1=k))=(jl aE k).isSome
 | []=>rfl
 | p::r=>by
  rw[List.any_cons];by_cases e:p.1=k
  ·simp only[ED e,decide_eq_true e,Bool.true_or,Option.isSome_some]
  ·rw[EF e,decide_eq_false e,Bool.false_or];exact EG k r
theorem yr(aE:List (κ×V))(k:κ)(v:V):(putK aE k v).length<=aE.length+1:=by
 unfold putK;split
 ·rw[List.length_map];lia
 ·rw[List.length_append,List.length_cons,List.length_nil];lia
theorem dI.Np{o:Option V}{u:Option Value}(r:dI o u):o.isSome=u.isSome:=by
 cases o with
 | none=>cases u with
  | none=>rfl
  | some _=>exact(show False from r).elim
 | some _=>cases u with
  | none=>exact(show False from r).elim
  | some _=>rfl
theorem KV.any{aE:List (κ×V)}{vs:List (κ×Value)}(r:KV aE vs)(k:κ):(aE.any λkv=>decide (kv.1=k))=vs.any λkv=>decide (kv.1=k):=by
 unfold KV at r
 induction r with
 | nil=>rfl
 | cons h t ih=>rw[List.any_cons,List.any_cons,ih,h.1]
theorem KV.yt{aE:List (κ×V)}{vs:List (κ×Value)}(r:KV aE vs)(k:κ){y:V}{u:Value}(ry:RelV y u) :
  KV (aE.map λkv=>if kv.1=k then(kv.1,y) else kv) (vs.map λkv=>if kv.1=k then(kv.1,u) else kv):=by
 unfold KV at r ⊢
 induction r with
 | nil=>exact .nil
 | @cons p q ps qs h t ih =>
  rw[List.map_cons,List.map_cons];refine .cons ?_ ih;obtain⟨h1,h2⟩:=h;by_cases e:p.1=k
  ·rw[if_pos e,if_pos (h1.symm.trans e)];exact⟨h1,ry⟩
  ·rw[if_neg e,if_neg (λz=>e (h1.trans z))];exact⟨h1,h2⟩
theorem KV.put{aE:List (κ×V)}{vs:List (κ×Value)}(r:KV aE vs)(k:κ){y:V}{u:Value}(ry:RelV y u):KV (putK aE k y) (stored vs k u):=by
 unfold putK stored;rw[r.any k];by_cases e:(vs.any λkv=>decide (kv.1=k))=true
 ·rw[if_pos e,if_pos e];exact r.yt k ry
 ·rw[if_neg e,if_neg e];exact Paired.snoc r ⟨rfl,ry⟩
theorem KV.length{aE:List (κ×V)}{vs:List (κ×Value)}(r:KV aE vs):aE.length=vs.length:=Paired.length r
end
theorem EH{P:Program}{w:World}{k:Key}{u:Value}(r:RelV (kV k) u):(fW P w).is k u=true:=by
 cases k with
 | inl i=>obtain⟨t,e⟩:=(show ∃t,u=Value.int i t from r);subst e;exact LJ P w i t
 | inr x=>obtain⟨t,e⟩:=(show ∃t,u=Value.str x t from r);subst e;exact LK P w x t
theorem EI{P:Program}{w:World}:∀ {ks:List Key} {us:List Value},Vals (ks.map kV) us->ItemsAre (fW P w) ks us
 | [],_,r=>by rw[List.map_nil] at r;cases r;exact .nil
 | k::ks,_,r=>by
  rw[List.map_cons] at r;cases r with
  | cons h t=>exact .cons (EH h) (EI t)
noncomputable abbrev KT(H:Hp):List (List Key×V)->List (List Key×Addr×Value)->Prop:=Paired λp q=>p.1=q.1/\H q.2.1=some (.tup (p.1.map kV))/\RelV p.2 q.2.2
theorem KT.val{H:Hp}{aE:List (List Key×V)}{xs:List (List Key×Addr×Value)}(r:KT H aE xs)(k:List Key):dI (jl aE k) ((atKey xs k).map (·.2)):=by
 induction r with
 | nil=>exact True.intro
 | @cons p q ps qs h t ih =>
  obtain⟨h1,_,h2⟩:=h;by_cases e:p.1=k
  ·have e':q.1=k:=h1.symm.trans e;have b:atKey (q::qs) k=some q.2:=by simp[atKey,List.find?_cons,e']
   rw[ED e,b];exact h2
  ·have e':¬ q.1=k:=λz=>e (h1.trans z);have b:atKey (q::qs) k=atKey qs k:=by simp[atKey,List.find?_cons,e']
   rw[EF e,b];exact ih
theorem KT.yt{H:Hp}{aE:List (List Key×V)}{xs:List (List Key×Addr×Value)}(r:KT H aE xs)(k:List Key){y:V}{u:Value}(ry:RelV y u) :
  KT H (aE.map λkv=>if kv.1=k then(kv.1,y) else kv) (xs.map (putAt k u)):=by
 induction r with
 | nil=>exact .nil
 | @cons p q ps qs h t ih =>
  rw[List.map_cons,List.map_cons];refine .cons ?_ ih;obtain⟨h1,h2,h3⟩:=h;unfold putAt;by_cases e:p.1=k
  ·rw[if_pos e,if_pos (h1.symm.trans e)];exact⟨h1,h2,ry⟩
  ·rw[if_neg e,if_neg (λz=>e (h1.trans z))];exact⟨h1,h2,h3⟩
theorem KT.put{H:Hp}{aE:List (List Key×V)}{xs:List (List Key×Addr×Value)}(r:KT H aE xs)(k:List Key){b:Addr}{y:V}{u:Value}(hb:H b=some (.tup (k.map kV)))(ry:RelV y u) :
  KT H (putK aE k y) (storedH xs k b u):=by
 have e:(aE.any λkv=>decide (kv.1=k))=(atKey xs k).isSome:=by
  rw[EG,(r.val k).Np,Option.isSome_map]
 unfold putK storedH;rw[e];by_cases q:(atKey xs k).isSome=true
 ·rw[if_pos q,if_pos q];exact r.yt k ry
 ·rw[if_neg q,if_neg q];exact Paired.snoc r ⟨rfl,hb,ry⟩
theorem KT.keeps{H H':Hp}{aE:List (List Key×V)}{xs:List (List Key×Addr×Value)}(r:KT H aE xs)(ht:∀b ys,H b=some (.tup ys)->H' b=some (.tup ys)):KT H' aE xs :=
 Paired.xB r λ_ _ z=>⟨z.1,ht _ _ z.2.1,z.2.2⟩
section
variable{P:Program}{w:World}{H:Hp}{h:Heap}{a:Addr}
theorem EJ{u:HO}(ok:bM P w H h)(e:Rd H a u):bQ P w H h a u:=e.ok ok
theorem Nq{aE:List (Key×V)}(ok:bM P w H h)(e:Rd H a (.dK aE)):aE.length<=sizeLine/\(a == sysModules)=false/\∃vs,KV aE vs/\h.DictOf (fW P w) a vs :=
 show bQ P w H h a (.dK aE) from EJ ok e
theorem Nr{aE:List (Key×V)}(ok:bM P w H h)(e:H a=some (.dK aE)):aE.length<=sizeLine/\(a == sysModules)=false/\∃vs,KV aE vs/\h.DictOf (fW P w) a vs:=Nq ok (.inl e)
theorem EK{ks:List Key}(ok:bM P w H h)(e:H a=some (.tup (ks.map kV))):(tupleKind (fW P w)).is h ks a:=by
 obtain⟨_,aB,r,o,h1,h2,n,h3⟩:=(show bQ P w H h a (.tup (ks.map kV)) from ok a _ e);exact⟨o,aB.toArray,n,h1,h2,h3,by simpa using EI r⟩
theorem Nt{aE:List (List Key×V)}(ok:bM P w H h)(e:Rd H a (.dT aE)):aE.length<=sizeLine/\(a == sysModules)=false/\
  ∃xs,KT H aE xs/\h.DictOfH (tupleKind (fW P w)) a xs:=by
 obtain⟨z,y,xs,r,o,es,ep,h1,h2,h3,h4,h5⟩:=(show bQ P w H h a (.dT aE) from EJ ok e);refine⟨z,y,xs,r,o,es,ep,h1,h2,h3,h4,λx hx=>?_,h5⟩;have all:∀ {l:List (List Key×V)} {m:List (List Key×Addr×Value)},KT H l m->∀x∈m,(tupleKind (fW P w)).is h x.1 x.2.1:=by
  intro l m q
  induction q with
  | nil=>intro x hx;exact nomatch hx
  | @cons p q ps qs hq t ih =>
   intro x hx;rcases List.mem_cons.mp hx with e | hx
   ·subst e;exact EK ok (by rw[← hq.1];exact hq.2.1)
   ·exact ih x hx
 exact all r x hx
theorem Nu{aE:List (List Key×V)}(ok:bM P w H h)(e:H a=some (.dT aE)):aE.length<=sizeLine/\(a == sysModules)=false/\
  ∃xs,KT H aE xs/\h.DictOfH (tupleKind (fW P w)) a xs:=Nt ok (.inl e)
end
noncomputable def sf(H:Hp)(a:Addr)(y:V)(r:Option V):Prop :=
 (∃aE k,Rd H a (.dK aE)/\y=kV k/\r=jl aE k)\/∃aE k b,Rd H a (.dT aE)/\y = .ref b/\H b=some (.tup (k.map kV))/\r=jl aE k
noncomputable def oU(H:Hp)(a:Addr)(y v:V)(H':Hp):Prop :=
 (∃aE k,H a=some (.dK aE)/\y=kV k/\aE.length<sizeLine/\H' = upd H a (.dK (putK aE k v)))\/
 ∃aE k b,H a=some (.dT aE)/\y = .ref b/\H b=some (.tup (k.map kV))/\aE.length<sizeLine/\H' = upd H a (.dT (putK aE k v))
theorem oU.t{H:Hp}{a b:Addr}{aE:List (List Key×V)}{k:List Key}{v:V}(e:H a=some (.dT aE))(eb:H b=some (.tup (k.map kV)))(hl:aE.length<sizeLine) :
  oU H a (.ref b) v (upd H a (.dT (putK aE k v))):=.inr ⟨aE,k,b,e,rfl,eb,hl,rfl⟩
section
variable{X:Cx}{pins:List (Addr×Obj)}{σ:St}{H:Hp}{s:Shared}{a:Addr}{y v:V}{u r:Value}{o:Option V}{A:Around}{E:Value->Shared->Prop}
theorem Inv.big(I:Inv X pins σ H s):sysModules<s.heap.objs.size:=by
 have h:mainGlobals<s.heap.objs.size:=(I.mod.glob.keeps I.bk).lt;exact Nat.lt_trans (by decide) h
theorem EL{h':Heap}{t':Nat}{ob:HO}(I:Inv X pins σ H s)(mu:nQ (H a))(hs:Heap.SameBut a s.heap h')(he:∃q,h'.get? a=some q)(new:bQ X.prog X.w (upd H a ob) h' a ob) :
  Inv X pins σ (upd H a ob) { s with heap:=h',toks:=t' } :=
 I.write (x:=a) (e:=a) mu (.inl rfl) (λb q hb z=>(hs.2 b hb).trans z) he new
theorem Nv{P:Program}{w:World}{H':Hp}{h':Heap}{aE:List (Key×V)}{vs:List (Key×Value)}(z:aE.length<=sizeLine)(hd:(a == sysModules)=false)(rel:KV aE vs)(dd:h'.DictOf (fW P w) a vs) :
  bQ P w H' h' a (.dK aE):=⟨z,hd,vs,rel,dd⟩
theorem Nx{H':Hp}{Q:Unit->Shared->Prop}(hu:A.units+1<cLine)(I:Inv X pins σ H s)(g:oU H a y v H')(ry:RelV y u)(rv:RelV v r)(h:∀s',Inv X pins σ H' s'->Q () s') :
  wpAny (model X.prog X.w) A (setItem (.ref a) u r) Q E s:=by
 rcases g with⟨aE,k,e,ey,l,eH⟩ | ⟨aE,k,b,e,ey,eb,l,eH⟩
 ·subst ey eH;obtain⟨z,hd,vs,rel,dd⟩:=Nr I.aC e;have hz:vs.length<=sizeLine:=by rw[← rel.length];exact z
  have hl:(putK aE k v).length<=sizeLine:=by have:=yr aE k v;lia
  refine wpAny_setItem_pairs (hsz:=hz) (EH ry) dd λh' sr hs=>h _ ?_;have he:∃q,h'.get? a=some q:=let ⟨q,_,_,hq,_⟩:=sr;⟨q,hq⟩
  exact EL I (by rw[e];exact True.intro) hs he (Nv hl hd (rel.put k rv) sr)
 ·subst ey eH;cases (show u=Value.ref b from ry);obtain⟨z,hd,xs,rel,dd⟩:=Nu I.aC e;have hz:xs.length<=sizeLine:=by rw[← Paired.length rel];exact z
  have hl:(putK aE k v).length<=sizeLine:=by have:=yr aE k v;lia
  refine wpAny_setItem_heap (hsz:=hz) (tupleKind_room_in1 hu) (EK I.aC eb) dd λh' sr hs=>h _ ?_;obtain⟨q,es,ep,hq,h2,h3,h4,_,h5⟩:=sr;refine EL I (by rw[e];exact True.intro) hs ⟨q,hq⟩ ⟨hl,hd,_,(rel.put k eb rv).keeps λc ys ec=>?_,q,es,ep,hq,h2,h3,h4,h5⟩
  rw[aG (iB ec e (λz=>nomatch z))];exact ec
end
section
variable{X:Cx}{pins:List (Addr×Obj)}{σ:St}{H:Hp}{s:Shared}{a:Addr}{aE:List (Key×V)}{k:Key}{u:Value}{A:Around}{E:Value->Shared->Prop}
end
noncomputable def Yl(td ty:TE):TE:=λσ H Q=>td σ H λx H1=>ty σ H1 λy H2=>∃a v,x = .ref a/\sf H2 a y (some v)/\Q v H2
noncomputable def Ym(ty td:TE):TE:=λσ H Q=>ty σ H λy H1=>td σ H1 λx H2=>∃a o,x = .ref a/\sf H2 a y o/\Q (.bl o.isSome) H2
noncomputable def Yn(ty td:TE):TE:=λσ H Q=>ty σ H λy H1=>td σ H1 λx H2=>∃a o,x = .ref a/\sf H2 a y o/\Q (.bl (!o.isSome)) H2
noncomputable def Ny(td ty tv:TE):TS:=λD σ H=>tv σ H λv H1=>td σ H1 λx H2=>ty σ H2 λy H3=>∃a H4,x = .ref a/\oU H3 a y v H4/\D.nx σ H4
section
variable{X:Cx}{o i e value:Expr}{pos pos' ME:Pos}{td ty tv:TE}
theorem Nz(hu:X.A.units+1<cLine)(ho:PE X o td)(hi:PE X i ty)(hv:PE X value tv)(hs:swapsWith value (some (.Subscript o i pos')) pos.line X.env=pure false) :
  PS X (.Assign [.Subscript o i pos'] value pos) (Ny td ty tv):=by
 intro pins s σ H D I h;refine wpAny_Assign_Subscript (aQ (hv pins s σ H _ I h) λr s1 ⟨v,H1,I1,rv,q1⟩=>aQ (ho pins s1 σ H1 _ I1 q1) λu s2 ⟨x,H2,I2,rx,q2⟩=>aQ (hi pins s2 σ H2 _ I2 q2) λiv s3 ⟨y,H3,I3,ry,a,H4,ex,g,q3⟩=>?_) hs;subst ex;obtain rfl:u=Value.ref a:=rx;exact Nx hu I3 g ry rv λs4 I4=>⟨σ,H4,I4,q3⟩
end
theorem NB{P:Program}{w:World}{H:Hp}(h:Heap)(hb:sysModules<h.objs.size):bQ P w H (h.push { cls:=.type "dict",data:=.dict #[] }) h.objs.size (.dT []) :=
 ⟨Nat.zero_le _,beq_eq_false_iff_ne.mpr (Ne.symm (Nat.ne_of_lt hb)),[],.nil,_,#[],0,Heap.get?_push_size _ rfl,⟨rfl,rfl,rfl⟩,rfl,rfl,List.nodup_nil⟩
noncomputable def Yo:TE:=λ_ H Q=>∀p,H p=none->Q (.ref p) (upd H p (.dK []))
noncomputable def NC:TE:=λ_ H Q=>∀p,H p=none->Q (.ref p) (upd H p (.dT []))
section
variable{X:Cx}{pos:Pos}
theorem ND:PE X (.Dict [] [] pos) NC:=λpins s σ H Q I h =>
 wpAny_Dict_empty ⟨.ref s.heap.objs.size,_,I.laid (a:=s.heap.objs.size) (o:=.dT []) (t':=s.toks) (λ_ _ q=>Heap.get?_push_of_some _ q) (Nat.le_refl _) (NB s.heap I.big),rfl,h _ (I.aC.fresh (Nat.le_refl _))⟩
end
noncomputable def NF(H:Hp)(a:Addr):Prop:=(∃aE,Rd H a (.dK aE))\/∃aE,Rd H a (.dT aE)
section
variable{X:Cx}{pins:List (Addr×Obj)}{σ:St}{H:Hp}{s:Shared}{a:Addr}{y d:V}{u r:Value}{o:Option V}{A:Around}{E:Value->Shared->Prop}
end
noncomputable def Yp(td ty:TE):TE:=λσ H Q=>td σ H λx H1=>∃a,x = .ref a/\NF H1 a/\ty σ H1 λy H2=>∃o,sf H2 a y o/\Q (o.getD .aH) H2
section
variable{X:Cx}{o e f:Expr}{apos bX:Pos}{td ty tx:TE}
end
section
variable{X:Cx}{pins:List (Addr×Obj)}{σ:St}{H:Hp}{s:Shared}{a:Addr}{aE:List (Key×V)}{A:Around}{E:Value->Shared->Prop}
end
section
variable{X:Cx}{pins:List (Addr×Obj)}{σ:St}{H:Hp}{s:Shared}{a:Addr}{y:V}{u:Value}{A:Around}{E:Value->Shared->Prop}
end
end _L
namespace EM
open PySem PySem.W PySem.Calls PyProof.Rows
theorem NG{P:Params}{h:Heap}:∀(ns:List Int) (vs:List Value),WellAll P h vs (ns.map WData.int)->IntsAre vs ns:=by
 intro ns
 induction ns with
 | nil =>
  intro vs w;rw[List.map_nil] at w;cases w;exact .nil
 | cons n ns ih =>
  intro vs w;rw[List.map_cons] at w;cases w with
  | cons a b =>
   cases a;exact .cons _ _ (ih _ b)
theorem NH{l:OpenLaw}{n:Nat}(hn:l.most=some n){P:Params}{h:Heap}{args:List WData}{vals:List Value}
  (su:l.row.toRowW.claim.pre args=true) (yu:WellAll P h vals args) :
  ∃a vs ns,vals = [Value.ref a]/\args = [WData.list (ns.map WData.int)]/\h.get? a=some { cls:=.type "list",data:=.seq vs.toArray }/\IntsAre vs ns/\ns.length<=n:=by
 have NI:WShape.hasAll [] args [.list .int] = true:=(pre_splitW su).1;have hc:l.pre.holds [] { args:=args }=true:=(pre_splitW su).2;obtain⟨d,r,rfl,h1,h2⟩:=hasAllW_cons NI;obtain rfl:=hasAllW_nil h2;obtain⟨xs,rfl,h3⟩:=hasW_list h1;obtain⟨ns,rfl⟩:=items_int h3;have hlen:ns.length<=n:=by
  unfold OpenLaw.pre at hc;have h4:(WTm.not (.lt (.lit (.int (n:Int))) (.len (.arg 0)))).holds [] { args:=[.list (ns.map .int)] }=true:=by
   have h4:=(holds_andW hc).1;rw[hn] at h4;exact h4
  have h5:=condW_of h4 (w_not (w_lt w_lit (w_len_list (w_arg rfl))));rw[List.length_map] at h5;refine Nat.le_of_not_lt λq=>?_
  have q':(n:Int)<((ns.length:Nat):Int):=by lia
  first
   | (rw[decide_eq_true q'] at h5;exact absurd h5 (by decide))
   | (simp at h5;lia)
 cases yu with
 | cons w1 w2 =>
  cases w2;cases w1 with
  | list ho sy=>exact⟨_,_,ns,rfl,rfl,ho,NG ns _ sy,hlen⟩
theorem NJ(l:OpenLaw)(args:List WData):l.row.toRowW.claim.post args (.bool true) args=true :=
 postW_of (r:=l.row.toRowW) (X:=(true == true))
  (show WShape.has [] (.bool true) .bool=true by first | rfl | decide | simp[WShape.has,WShape.arms,WShape.armsAll])
  (show (WTm.eq .res (.lit (.bool true))).value [] { args:=args,res:=some (.bool true),after:=args }=some (.bool (true == true)) from w_eq_bool (w_res rfl) w_lit) rfl
theorem NK{l:OpenLaw}{n:Nat}{q:Program}{loose:List Str}{XP:(Str->Option Value)->Heap->Prop}{YP:World->Heap->Prop}{d:DefRec}
  (hn:l.most=some n) (oV:d.params.defaults = [])
  (call:∀(w:World) (aI aO:Shared) (mg mb:Str->Option Value) (fa:Addr) (o:Obj) (pm cd doc:Value) (a:Addr) (vs:List Value) (ns:List Int),
   Ground q loose [] XP w aI mg mb aO.heap->YP w aO.heap->
   aO.heap.get? fa=some o->o.data = .func (docDef d.name d.params d.body d.scope pm cd doc)->aO.heap.CodeRec cd d.name->mg d.name=some (.ref fa)->
   aO.heap.get? a=some { cls:=.type "list",data:=.seq vs.toArray }->IntsAre vs ns->ns.length<=n->aO.gens = #[]->
   codeAny (model l.prog w) callerA (.call (.ref fa) ⟨[.ref a],[]⟩) (λr s'=>r = .ok (.ret (.bool true))/\OldK aO.heap s'.heap/\s'.os=aO.os/\AllBare s'.gens) aO) :
  WalkO q loose XP YP l.row.toRowW d [] (λf vs=>PySem.call f vs):=by
 intro w aI aO mg mb G Y fa o pm cd doc dV kV ho hd cA hD hmg hg args vals as su Yq Yr yu Ys;obtain rfl:dV = .none:=Dflts.none hD oV;obtain rfl:kV = .none:=Dflts.noKw hD;obtain⟨a,vs,ns,rfl,rfl,yw,hints,hlen⟩:=NH hn su yu;refine enter_call (codeAny_mono (call w aI aO mg mb fa o pm cd doc a vs ns G Y ho (fd_plain hd) cA hmg yw hints hlen hg) λr s' hq=>?_);obtain⟨rfl,h2,h3,h4⟩:=hq;exact⟨.inl ⟨.bool true,.bool true,[],rfl,λ_=>rfl,.bool true,NJ l _,λ_=>⟨List.Pairwise.nil,λ_ hm=>(nomatch hm)⟩⟩,h2,h3,h4⟩
section
variable{prog:Program}{w:World}{A:Around}{E:Value->Shared->Prop}{s:Shared}{K:Frag}
noncomputable def ledger(h:Heap)(L d:Addr):List (Addr×Obj):=(List.range h.objs.size).filterMap λa=>if a=L\/a=d then none else(h.get? a).map λo=>(a,o)
end
end EM
namespace _L
open PySem PySem.Spec PyProof.Rows
theorem yx:∀ {vs:List Value} {ns:List Int},IntsAre vs ns->Vals (ns.map V.int) vs
 | _,_,.nil=>.nil
 | _,_,.cons n t h=>.cons ⟨t,rfl⟩ (yx h)
noncomputable def yy(H:Hp):Prop:=∀b,H b=none\/∃o xs,H b=some (.eF o (.lst xs))
theorem NL{P:Program}{w:World}{K:PySem.W.Frag}{mg mb:Str->Option Value}{CX:eS}{k:Nat}{fa a:Addr}{fd:FuncData}{x:Str}{sp:Sp}{aO:Shared}{vs:List Value}{ns:List Int}
  (KX:K.In aO.heap) (sA:aO.heap.Ns mainGlobals mg) (hb:aO.heap.Ns builtinsNs mb) (NN:∀x:Str,x≠"__name__"->mb x=bootBuiltins x) (NO:aO.heap.NoLimit) (hg:aO.gens = #[])
  (ha:aO.heap.get? a=some { cls:=.type "list",data:=.seq vs.toArray }) (hi:IntsAre vs ns) (hl:ns.length<=sizeLine) (hr:bY k callerA)
  (F:∀base:Heap,K.In base->base.Ns mainGlobals mg->a_ P w K mg base CX k fa fd [x] sp) (NP:∀(s:Shared) (u:Value),BindsTo s fd ⟨[u],[]⟩ [(x,u)])
  (fJ:∀H:Hp,yy H->aD K H a (ns.map V.int)->sp [.ref a] H (λv _=>v = .bl true) λ_ _ _=>False)
  (yz:∀H e s',CX [] H aO (λ_ _ _=>False) e s'->False) :
  codeAny (model P w) callerA (.call (.ref fa) ⟨[.ref a],[]⟩) (λr s'=>r = .ok (.ret (.bool true))/\OldK aO.heap s'.heap/\s'.os=aO.os/\AllBare s'.gens) aO:=by
 have rv:=yx hi;have NQ:=hi.length
 -- from an abstract heap in which nothing but the script may be tracked
 have core:∀H:Hp,yy H->aD K H a (ns.map V.int)->bM P w H aO.heap->(∀b,H b≠none->b=a)->(H a≠none->K.lookup a=none)->
   codeAny (model P w) callerA (.call (.ref fa) ⟨[.ref a],[]⟩) (λr s'=>r = .ok (.ret (.bool true))/\OldK aO.heap s'.heap/\s'.os=aO.os/\AllBare s'.gens) aO:=by
  intro H hO hS aC hA hK;have EN:∀ {b:Addr} {o:Obj},aO.heap.get? b=some o->H b=none->(i8 aO.heap H).get? b=some o:=λe n=>LO e n;have oM:∀ {b:Addr} {o:Obj} {es:Array DictEntry} {ep:Nat},aO.heap.get? b=some o->o.data = .dict es ep->H b=none:=λ{b o es ep} e d=>by
   cases q:H b with
   | none=>rfl
   | some u =>
    have e':b=a:=hA b (by rw[q];simp)
    subst e';rw[ha] at e;cases e;have d':Data.seq vs.toArray _=Data.dict es ep:=d;cases d'
  have sC:∀ {b:Addr} {m:Str->Option Value},aO.heap.Ns b m->(i8 aO.heap H).Ns b m:=λ{b m} ⟨o,es,ep,e,d,r⟩=>⟨o,es,ep,EN e (oM e d),d,r⟩;have EO:K.In (i8 aO.heap H):=λb o e=>EN (KX b o e) (by
   cases q:H b with
   | none=>rfl
   | some u =>
    have e':b=a:=hA b (by rw[q];simp)
    subst e';rw[hK (by rw[q];simp)] at e;cases e)
  have hM:Mod K mg (i8 aO.heap H):=⟨EO,sC sA,⟨mb,sC hb,NN⟩,let ⟨mc,h1,h2⟩:=NO;⟨mc,sC h1,h2⟩⟩
  have e0:jQ P w K mg (i8 aO.heap H) callerA [] aO H:=⟨rfl,hM,λb o e=>LP e,Nat.le_of_eq (LN _ _),trivial,λb hb=>absurd (show b∈([]:List Addr) from hb) (by simp),aC,.of_eq hg⟩
  refine codeAny_mono ((F _ EO (sC sA)).run callerA [] aO H ⟨[.ref a],[]⟩ [.ref a] [.ref a] _ _ hr e0 (NP aO (.ref a)) (.cons rfl .nil) (fJ H hO hS)) λr s' h=>?_;cases r with
  | error e=>exact(yz H e s' h).elim
  | ok fl =>
   cases fl with
   | next=>exact False.elim h
   | brk=>exact False.elim h
   | cont=>exact False.elim h
   | ret u =>
    obtain⟨v,H',os,bare,un,k6,r',q⟩:=h;have q':v = .bl true:=q;subst q';obtain rfl:u=Value.bool true:=r';refine⟨rfl,OldK.of_keep λb o e=>?_,os,bare⟩;cases q:H b with
    | none=>exact un.keep b o e q (by intro z;exact absurd (show b∈([]:List Addr) from z) (by simp)) (by simp)
    | some u =>
     rcases hO b with z | ⟨ob,xs,z⟩
     ·rw[q] at z;cases z
     ·have z2:=un.dQ b ob _ z;obtain⟨e1,_⟩:=aC b _ z;obtain⟨e2,_⟩:=k6 b _ z2;rw[e] at e1;cases e1;exact e2
 cases hk:K.lookup a with
 | some o =>
  -- the script is one of the module's own objects
  have e:=KX a o hk;rw[ha] at e;cases e;refine core (λ_=>none) (λ_=>.inl rfl) (.inr ⟨_,vs.toArray,_,hk,rfl,rfl,rfl,by rw[List.size_toArray,NQ];exact hl,by simpa using rv⟩) (λb u z=>by have z':(none:Option HO)=some u:=z;cases z') (λb z=>absurd rfl z) λz=>absurd rfl z
 | none =>
  refine core (λb=>if b=a then some (.eF { cls:=.type "list",data:=.seq vs.toArray } (.lst (ns.map V.int))) else none) (λb=>?_) (.inl (.inr ⟨{ cls:=.type "list",data:=.seq vs.toArray },if_pos rfl⟩)) (λb u z=>?_) (λb z=>?_) λ_=>hk
  ·by_cases hb:b=a
   ·exact .inr ⟨_,_,if_pos hb⟩
   ·exact .inl (if_neg hb)
  ·by_cases hb:b=a
   ·have z':=(if_pos hb).symm.trans z;cases z';subst hb;exact⟨ha,by rw[List.length_map];exact hl,vs,_,rv,ha⟩
   ·have z':=(if_neg hb).symm.trans z;cases z'
  ·by_cases hb:b=a
   ·exact hb
   ·exact absurd (if_neg hb) z
noncomputable abbrev Yt{K:PySem.W.Frag}{h:Heap}(_:K.In h):PySem.W.Frag:=K
theorem NR{l:PySem.W.OpenLaw}{n k:Nat}{q:Program}{loose:List Str}{XP:(Str->Option Value)->Heap->Prop}{YP:World->Heap->Prop}{d:DefRec}{K:Params->PySem.W.Frag}{CX:World->eS}{sp:World->Sp}{x:Str}
  (hn:l.most=some n) (iI:n<=sizeLine) (oV:d.params.defaults = []) (hr:bY k callerA)
  (hY:∀(w:World) (h:Heap),YP w h->(K w.params).In h)
  (F:∀(w:World) (mg:Str->Option Value) (fa:Addr) (h:Heap),(K w.params).In h->h.Ns mainGlobals mg->mg d.name=some (.ref fa)->
   ∃fd:FuncData,(∀(s:Shared) (u:Value),BindsTo s fd ⟨[u],[]⟩ [(x,u)])/\
    ∀base:Heap,(K w.params).In base->base.Ns mainGlobals mg->a_ l.prog w (K w.params) mg base (CX w) k fa fd [x] (sp w))
  (fJ:∀(w:World) (H:Hp) (a:Addr) (ns:List Int),ns.length<=n->yy H->aD (K w.params) H a (ns.map V.int)->sp w [.ref a] H (λv _=>v = .bl true) λ_ _ _=>False)
  (yz:∀(w:World) (H:Hp) (s:Shared) (e:Value) (s':Shared),CX w [] H s (λ_ _ _=>False) e s'->False) :
  PySem.W.WalkO q loose XP YP l.row.toRowW d [] (λf vs=>PySem.call f vs):=by
 refine EM.NK hn oV λw aI aO mg mb fa o pm cd doc a vs ns G Y ho hd cA hmg yw hints hlen hg=>?_;have KX:=hY w _ Y;obtain⟨fd,hb,hF⟩:=F w mg fa _ KX G.T.g hmg;exact NL KX G.T.g G.T.b G.T.builtins G.T.nolimit hg yw hints (Nat.le_trans hlen iI) hr hF hb (λH hO hS=>fJ w H a ns hlen hO hS) λH e s'=>yz w H aO e s'
noncomputable def inClass(s:Stmt)(j:Nat):Stmt:=match s with
 | .ClassDef _ _ _ body _ _ _ _ _ _ _=>body.getD j (.Pass ⟨0,0,0,0⟩)
 | _=>.Pass ⟨0,0,0,0⟩
noncomputable def dM(s:Stmt):Arguments:=match s with
 | .FunctionDef _ a _ _ _ _ _ _ _ _=>a
 | _=>{ posonlyargs:=[],args:=[],vararg:=none,kwonlyargs:=[],kw_defaults:=[],kwarg:=none,defaults:=[] }
noncomputable def cZ(s:Stmt):List Stmt:=match s with
 | .FunctionDef _ _ b _ _ _ _ _ _ _=>b
 | _=>[]
noncomputable def aU(s:Stmt):Scope:=match s with
 | .FunctionDef _ _ _ _ _ _ sc _ _ _=>sc
 | _=>{ kind:=.function,names:=[],isGenerator:=false,isCoroutine:=false }
noncomputable abbrev bw:eS:=λ_ _ _ _ _ _=>False
noncomputable abbrev E0:XK:=λ_ _ _=>False
theorem aK{X:Cx}:Passes bw X E0:=λ_ _ _ _ _ _ _ h=>h.elim
structure aN(K:PySem.W.Frag)(x qual:Str)(st:Stmt)(f:Addr)(fd:FuncData):Prop where
 ex:∃(oc:Value) (od:Option Addr) (kV doc pm:Value) (an:Option Addr) (aM ct:Value) (eT:Array (Option Value)),
  fd=PySem.W.fnOf x qual (dM st) (cZ st) (aU st) .none kV doc pm an aM ct/\K.lookup f=some ⟨oc,od,.func fd,eT⟩/\PySem.W.codeIn K aM qual=true
 kp:PySem.W.keepIn K (.ref f)=true
section
variable{P:Program}{w:World}{K:PySem.W.Frag}{mg:Str->Option Value}{base:Heap}
theorem aN.ok{x qual:Str}{st:Stmt}{f:Addr}{fd:FuncData}{N ps:List Str}{k:Nat}{sp:Sp}(F:aN K x qual st f fd)(S:bB N ps (aU st))(len:∀vs H Q E,sp vs H Q E->vs.length=ps.length)
  (jg:∀(aM:Value) (A:Around) (outer:List Env) (s:Shared) (H:Hp) (vs:List V) (Q:VK) (E:XK),bY k (A.deeper (envOfC qual (aU st) s.heap.objs.size f aM))->sp vs H Q E->
   ∃t,eg (fH bw P w K mg base N qual (aU st) f aM A outer s H E).iE (cZ st) t/\t { nx:=λ_ H'=>Q .aH H',rt:=Q } (start N vs) H):a_ P w K mg base bw (k+1) f fd ps sp:=by
 obtain⟨oc,od,kV,doc,pm,an,aM,ct,eT,rfl,lk,cA⟩:=F.ex;refine xZ lk cA S len λA outer s H vs Q E hr fJ=>?_;obtain⟨t,h,q⟩:=jg aM A outer s H vs Q E hr fJ;exact⟨t,h.iE,q⟩
theorem aN.binds{x qual:Str}{st:Stmt}{f:Addr}{fd:FuncData}{ps:List Str}(F:aN K x qual st f fd)
  (h:∀(kV doc pm:Value) (an:Option Addr) (aM ct:Value) (us:List Value),us.length=ps.length->bindArgs (PySem.W.fnOf x qual (dM st) (cZ st) (aU st) .none kV doc pm an aM ct) ⟨us,[]⟩=pure (ps.zip us)):Binds K fd ps []:=by
 obtain⟨oc,od,kV,doc,pm,an,aM,ct,eT,rfl,lk,cA⟩:=F.ex;exact .all (h kV doc pm an aM ct)
theorem fun_mk{x qual:Str}{st:Stmt}{f:Addr}{oc:Value}{od an:Option Addr}{eT:Array (Option Value)}{kV doc pm aM ct:Value}(l:K.lookup f=some ⟨oc,od,.func (PySem.W.fnOf x qual (dM st) (cZ st) (aU st) .none kV doc pm an aM ct),eT⟩)
  (c:PySem.W.codeIn K aM qual=true) (k:PySem.W.keepIn K (.ref f)=true):aN K x qual st f (PySem.W.fnOf x qual (dM st) (cZ st) (aU st) .none kV doc pm an aM ct):=⟨⟨oc,od,kV,doc,pm,an,aM,ct,eT,rfl,l,c⟩,k⟩
end
theorem ER{A:Around}{k:Nat}(hr:bY k A):A.units+1<cLine:=Nat.lt_of_le_of_lt (Nat.add_le_add_left (by decide:1<=64) _) hr.units
theorem gB{n:Nat}(h:n<=1000):n<sizeLine:=Nat.lt_of_le_of_lt h (by decide)
section
variable{X:Cx}
theorem pv(i:Nat){x:Str}{pos:Pos}(hN:X.N[i]? = some x:=by rfl)(hv:xC X.env.scope x:=by first | exact Or.inl rfl | exact Or.inr (Or.inl rfl) | exact Or.inr (Or.inr rfl))(hd:(x == ("__debug__" : Str))=false:=by decide)
  (cA:(x == ("__classdict__" : Str))=false:=by decide):PE X (.Name x pos) (DH i):=LW hN hv hd cA
end
theorem bu{c A B:Prop}[Decidable c](h1:c->A)(h2:¬ c->B):if c then A else B:=by
 by_cases h:c
 ·rw[if_pos h];exact h1 h
 ·rw[if_neg h];exact h2 h
noncomputable def ah(H H':Hp):Prop:=∀b o,H b=some o->H' b=some o
theorem ah.refl(H:Hp):ah H H:=λ_ _ h=>h
theorem ah.trans{H H1 H2:Hp}(a:ah H H1)(b:ah H1 H2):ah H H2:=λc o h=>b c o (a c o h)
theorem ah.free{H H':Hp}(e:ah H H'){l:Addr}(h:H' l=Option.none):H l=Option.none:=by
 cases q:H l with
 | none=>rfl
 | some o =>
  rw[e l o q] at h;cases h
theorem ah.seq{K:PySem.W.Frag}{H H':Hp}{a:Addr}{xs:List V}(e:ah H H')(h:aD K H a xs):aD K H' a xs:=by
 rcases h with(h | ⟨o,h⟩) | h
 ·exact .inl (.inl (e _ _ h))
 ·exact .inl (.inr ⟨o,e _ _ h⟩)
 ·exact .inr h
section
variable{κ:Type}[DecidableEq κ]
end
end _L
set_option maxHeartbeats 4000000
namespace _L
open PySem PySem.Spec PyProof.Rows
section
variable{prog:Program}{w:World}{A:Around}{R:Result->Shared->Prop}{s:Shared}
theorem NS{elt target iter:Expr}{ifs:List Expr}{scope:Scope}{pos:Pos}{it acc:Value}{env:Env}(I:Nat->Shared->Prop)
  (turn:∀n s,I n s->wpAny (model prog w) A (pyNext it) (λr aO=>match r with
   | none=>R (.ok .next) aO
   | some v=>wpAny (model prog w) A (letOwnedTupleGo target it v) (λ_ oW=>wpAny (model prog w) A (assign target env v) (λ_ b_ =>
     wpAny (model prog w) A (forIn ifs true λc r=>if r=true then do let ok ← isTrue c env (eval c env);pure (ForInStep.yield ok) else pure (ForInStep.yield r)) (λok cu =>
      if ok=true then wpAny (model prog w) A (eval elt env) (λx g_ =>
       wpAny (model prog w) A (call (.builtin "list.append") [acc,x]) (λ_ oX=>∃m,m<n/\I m oX) (λ_ _=>False) g_) (λ_ _=>False) cu
      else ∃m,m<n/\I m cu) (λ_ _=>False) b_) (λ_ _=>False) oW) (λ_ _=>False) aO) (λ_ _=>False) s)
  (n:Nat) (h:I n s):codeAny (model prog w) A (.compLoop (.ListComp elt [⟨target,iter,ifs,0⟩] scope pos) 0 it acc env) R s:=by
 refine codeAny_loop rfl I (λn s hI=>?_) n h
 show wpAny _ A ((compTurn (.ListComp elt [⟨target,iter,ifs,0⟩] scope pos) 0 it acc env).onRaise (λx=>do noteFrame x env;theTreesLotGoes x)) _ _ s
 refine wpAny_noted ?_;rw[compTurn_list];refine wpAny_bind (wpAny_standAt (wpAny_bind (wpAny_mono (turn n s hI) (λr aO cE=>?_) λ_ _ h'=>h'.elim)));cases r with
 | none=>exact wpAny_pure cE
 | some v =>
  refine wpAny_bind (wpAny_mono cE (λ_ oW yC=>?_) λ_ _ h'=>h'.elim);refine wpAny_bind (wpAny_mono yC (λ_ b_ fK=>wpAny_bind (wpAny_mono fK (λok cu jm=>?_) λ_ _ h'=>h'.elim)) λ_ _ h'=>h'.elim);cases ok with
  | false=>exact wpAny_pure ⟨rfl,jm⟩
  | true =>
   exact wpAny_bind (wpAny_bind (wpAny_mono jm (λx g_ yD=>wpAny_bind (wpAny_mono yD (λ_ oX yE=>wpAny_pure (wpAny_pure ⟨rfl,yE⟩)) λ_ _ h'=>h'.elim)) λ_ _ h'=>h'.elim))
end
noncomputable def cB(X:Cx)(scope:Scope)(cl:List (Str×Addr))(N:List Str)(C:Addr)(s:Shared)(H:Hp)(fp:List Addr):Cx where
 prog:=X.prog
 w:=X.w
 K:=X.K
 mg:=X.mg
 base:=X.base
 A:=X.A
 N:=N
 aI:=s
 cz:=H
 env:=compEnvC scope cl C X.env
 outer:=X.stack
 stack:=X.stack
 ex:=fp
 fn:=λ_=>false
 calm:=X.calm
 pn:=[]
 xe:=λ_ _=>False
structure cI(X:Cx)(scope:Scope)(cl:List (Str×Addr))(N:List Str)(nt:Nat)(fv:List Nat):Prop where
 mG:closureFor scope X.env=pure cl
 kind:scope.kind = .function
 mH:∀y∈scope.names,y.2≠.cell
 names:∀y∈scope.names,y.2 = .local->scope.names.lookup y.1=some .local
 sub:∀p∈cl,X.env.cells.lookup p.1=some p.2
 has:∀y∈scope.names,y.2 = .free->∃c,cl.lookup y.1=some c
 free:fv.map (λj=>X.N[j]?)=(N.drop nt).map some
 fk:∀y∈N.drop nt,scope.names.lookup y=some .free/\X.env.scope.names.lookup y=some .cell
 le:nt<=N.length
 nd:N.Nodup
theorem sD{env:Env}:∀ {names:List (Str×NameKind)} {x:Str} {k:NameKind},
  (names.map λ(n,k)=>if (k == NameKind.free && env.scope.kind == .function && env.kindOf n == some .cell) then(n,NameKind.cell) else(n,k)).lookup x=some k->
  ∃k0,names.lookup x=some k0/\(k=k0\/(k0 = .free/\k = .cell))
 | [],_,_,h=>by simp at h
 | (n,k0)::r,x,k,h=>by
  have ih:=@sD env r x k;have h:List.lookup x ((if (k0 == NameKind.free && env.scope.kind == .function && env.kindOf n == some .cell)=true then(n,NameKind.cell) else(n,k0))::_)=_:=h
  cases hx:x == n with
  | true =>
   by_cases hc:(k0 == NameKind.free && env.scope.kind == .function && env.kindOf n == some .cell)=true
   ·rw[if_pos hc] at h;simp only[List.lookup_cons,hx,Option.some.injEq] at h;simp only[Bool.and_eq_true,beq_iff_eq] at hc;exact⟨k0,by simp[List.lookup_cons,hx],.inr ⟨hc.1.1,h.symm⟩⟩
   ·rw[if_neg hc] at h;simp only[List.lookup_cons,hx,Option.some.injEq] at h;exact⟨k0,by simp[List.lookup_cons,hx],.inl h.symm⟩
  | false =>
   have h':List.lookup x (r.map λ(n,k)=>if (k == NameKind.free && env.scope.kind == .function && env.kindOf n == some .cell) then(n,NameKind.cell) else(n,k))=some k:=by
    by_cases hc:(k0 == NameKind.free && env.scope.kind == .function && env.kindOf n == some .cell)=true
    ·rw[if_pos hc] at h;simpa only[List.lookup_cons,hx] using h
    ·rw[if_neg hc] at h;simpa only[List.lookup_cons,hx] using h
   obtain⟨q,e,z⟩:=ih h';exact⟨q,by simp only[List.lookup_cons,hx];exact e,z⟩
theorem sE{α:Type}{x:Str}{v:α}:∀ {l:List (Str×α)},l.lookup x=some v->(x,v)∈l:=λh=>PySem.mem_of_lookup h
section
variable{X:Cx}{pins:List (Addr×Obj)}{σ:St}{H:Hp}{s:Shared}{scope:Scope}{cl:List (Str×Addr)}{N:List Str}{nt:Nat}{fv:List Nat}{fp:List Addr}
theorem cI.cell(S:cI X scope cl N nt fv){x:Str}{c:Addr}(e:cl.lookup x=some c):X.env.cells.lookup x=some c:=S.sub (x,c) (sE e)
theorem cI.NT(S:cI X scope cl N nt fv){C:Addr}{x:Str}(h:(compEnvC scope cl C X.env).kindOf x=some .cell\/(compEnvC scope cl C X.env).kindOf x=some .free):scope.names.lookup x=some .free:=by
 have h:(scope.names.map λ(n,k)=>if (k == NameKind.free && X.env.scope.kind == .function && X.env.kindOf n == some .cell) then(n,NameKind.cell) else(n,k)).lookup x=some .cell\/
  (scope.names.map λ(n,k)=>if (k == NameKind.free && X.env.scope.kind == .function && X.env.kindOf n == some .cell) then(n,NameKind.cell) else(n,k)).lookup x=some .free:=h
 rcases h with h | h
 ·obtain⟨k0,e,z | ⟨z,_⟩⟩:=sD h
  ·exact absurd z.symm (S.mH _ (sE e))
  ·rw[z] at e;exact e
 ·obtain⟨k0,e,z | ⟨z,_⟩⟩:=sD h
  ·rw[← z] at e;exact e
  ·rw[z] at e;exact e
theorem cI.ok(S:cI X scope cl N nt fv)(I:Inv X pins σ H s)(hf:∀b∈fp,gz X pins H b)(bV:∀b∈fp,b<s.heap.objs.size){C:Addr}(hC:s.heap.objs.size<=C) :
  (cB X scope cl N C s H fp).Ok where
 mod:=I.ok.mod
 kind:=S.kind
 glob:=I.ok.glob
 blt:=I.ok.blt
 above:=hC
 inj:=λx y c h1 h2=>I.ok.inj x y c (S.cell h1) (S.cell h2)
 has:=λx h=>by
  have e:=S.NT h;exact S.has _ (sE e) rfl
 kH:=λx c h _=>by cases (show false=true from h)
 hd:=I.ok.hd
 frames:=I.ok.frames
 l9:=.inl rfl
 jI:=λb hb=>⟨λz=>absurd (Nat.lt_of_lt_of_le (bV b hb) (by rw[z];exact hC)) (Nat.lt_irrefl _),λx c h=>(hf b hb).2.2.2.2.1 x c (S.cell h)⟩
 bs:=I.bs
 gu:=Nat.le_trans I.ok.gu I.sz
 kI:=λb o e hb=>by
  rcases(hf b hb).2.2.2.1 with z | z
  ·exact I.ok.kI b o e z
  ·exact absurd (Nat.lt_of_lt_of_le (Heap.lt_size e) (Nat.le_trans I.ok.gu z)) (Nat.lt_irrefl _)
 jJ:=λb hb hm=>by
  rcases List.mem_cons.mp (I.xD b hm) with z | z
  ·exact(hf b hb).2.1 z
  ·exact(hf b hb).2.2.1 z
 dB:=I.stack
 e9:=I.rF
noncomputable def h_(σ:St)(nt:Nat)(fv:List Nat):St:=List.replicate nt none++fv.map λj=>(σ[j]?).getD none
theorem cI.inv(S:cI X scope cl N nt fv)(I:Inv X pins σ H s)(hf:∀b∈fp,gz X pins H b)(bV:∀b∈fp,b<s.heap.objs.size){h1:Heap}{tk:Nat}{D C:Addr}
  (hD:s.heap.objs.size<=D) (hC:s.heap.objs.size<=C) (k7:D≠C) (old:∀b o,s.heap.get? b=some o->h1.get? b=some o) (oY:h1.get? D=some { cls:=.type "list",data:=.seq #[] }) (sA:h1.Ns C λ_=>none) :
  Inv (cB X scope cl N C s H fp) [] (h_ σ nt fv) (upd H D (.lst [])) { s with heap:=h1,toks:=tk }:=by
 have I1:Inv X pins σ (upd H D (.lst [])) { s with heap:=h1,toks:=tk }:=I.laid old hD ⟨Nat.zero_le _,[],0,.nil,oY⟩;have hlen:fv.length=(N.drop nt).length:=by simpa using congrArg List.length S.free
 refine⟨S.ok I hf bV hC,rfl,I.bare,Un.laid old hD (I.aC.fresh hD),⟨_,sA,λi x v e1 e2 e3=>?_⟩,λx c e=>?_,?_,λx c e=>?_,λp hp=>absurd (show p∈([]:List (Addr×Obj)) from hp) (by simp),I1.aC,?_⟩
 ·unfold h_ at e2;have hi:nt<=i:=by
   by_cases h:nt<=i
   ·exact h
   ·rw[List.getElem?_append_left (by simp;lia),List.getElem?_replicate] at e2
    split at e2 <;> cases e2
  rw[List.getElem?_append_right (by simpa using hi)] at e2
  simp only[List.length_replicate,List.getElem?_map] at e2;cases hj:fv[i - nt]? with
  | none=>rw[hj] at e2;simp at e2
  | some j =>
   rw[hj] at e2;simp only[Option.map_some,Option.some.injEq] at e2;have hN:X.N[j]? = some x:=by
    have q:=congrArg (λl=>l[i - nt]?) S.free;simp only[List.getElem?_map,hj,Option.map_some,List.getElem?_drop] at q;rw[show nt+(i - nt)=i by lia] at q
    have ES:N[i]? = some x:=e1;rw[ES] at q;exact(Option.some.inj q)
   have NU:σ[j]? = some (some v):=by
    cases z:σ[j]? with
    | none=>rw[z] at e2;simp at e2
    | some y=>rw[z] at e2;simp at e2;rw[e2]
   have NV:x∈N.drop nt:=by
    refine List.mem_of_getElem? (i:=i - nt) ?_;rw[List.getElem?_drop,show nt+(i - nt)=i by lia];exact e1
   obtain⟨f1,f2⟩:=S.fk x NV;obtain⟨m,hn,hl⟩:=I1.loc;obtain⟨u,ru,lk⟩:=hl j x v hN NU (.inr (.inl f2));refine⟨u,ru,?_⟩;rcases lk with⟨k,_⟩ | ⟨_,c,ec,hc⟩
   ·have k:X.env.scope.names.lookup x=some .local:=k;rw[f2] at k;cases k
   ·obtain⟨c',e'⟩:=S.has _ (sE f1) rfl;have:=S.cell e';rw[ec] at this;cases this;refine .inr ⟨?_,c,e',hc⟩;rcases e3 with z | z | z
    ·obtain⟨k0,ek,q | ⟨_,q⟩⟩:=sD (show (scope.names.map λ(n,k)=>if (k == NameKind.free && X.env.scope.kind == .function && X.env.kindOf n == some .cell) then(n,NameKind.cell) else(n,k)).lookup x=some .local from z)
     ·rw[f1] at ek;cases ek;cases q
     ·cases q
    ·exact .inl z
    ·exact .inr z
 ·obtain⟨v,z⟩:=I1.cell x c (S.cell e);exact⟨v,z⟩
 ·show upd H D (.lst []) C=none;rw[aG (Ne.symm k7)];exact I.aC.fresh hC
 ·exact I1.e_ x c (S.cell e)
 ·unfold h_
  show _=N.length;have:=S.le;simp only[List.length_append,List.length_replicate,List.length_map,List.length_drop] at hlen ⊢;lia
end
noncomputable def jT(X:Cx)(ifs:List Expr)(t:TT):Prop :=
 ∀(pins:List (Addr×Obj)) (s:Shared) (σ:St) (H:Hp) (Q:Bool->Hp->Prop),Inv X pins σ H s->t σ H Q->
  wpAny (model X.prog X.w) X.A (forIn ifs true λc r=>if r=true then do let ok ← isTrue c X.env (eval c X.env);pure (ForInStep.yield ok) else pure (ForInStep.yield r)) (TP X pins σ Q) X.xe s
noncomputable def NW:TT:=λ_ H Q=>Q true H
theorem oZ{X:Cx}:jT X [] NW:=λpins s σ H Q I h=>wpAny_tests_nil ⟨H,I,h⟩
theorem k8{X:Cx}{c:Expr}{t:TT}(hc:PT X c t):jT X [c] t:=λpins s σ H Q I h=>wpAny_tests_one (hc pins s σ H Q I h)
noncomputable def jU(wi:TI)(g:TG)(tt:TT)(te:TE)(nt:Nat)(fv:List Nat):TE:=λσ H Q=>wi σ H λJ H1=>∀D,H1 D=none->∃W:Nat->Nat->List V->St->Hp->Prop,
 (∃m,W 0 m [] (h_ σ nt fv) (upd H1 D (.lst [])))/\∀i m ys au H2,W i m ys au H2->H2 D=some (.lst ys)/\ys.length<sizeLine/\
  ((J.stop i H2/\Q (.ref D) H2)\/(J.go i H2/\∀x H3,J.iF i H2 x H3->g x au H3 λbS H4=>tt bS H4 λb H5=>if b=true then te bS H5 λv H6=>H6 D=some (.lst ys)/\∃m',m' < m/\W (i+1) m' (ys++[v]) bS (upd H6 D (.lst (ys++[v])))
   else ∃m',m' < m/\W (i+1) m' ys bS H5))
section
variable{X:Cx}{tg iter elt:Expr}{ifs:List Expr}{scope:Scope}{cl:List (Str×Addr)}{N:List Str}{nt:Nat}{fv:List Nat}{pos:Pos}{wi:TI}{g:TG}{tt:TT}{te:TE}
theorem ET{pins:List (Addr×Obj)}{σ:St}{s2:Shared}{H2:Hp}{it:Addr}{fp:List Addr}{tn:Nat->Heap->Prop}{J:It}{Q:VK}{RR:Value->Addr->Result->Shared->Prop}{E:Value->Shared->Prop}
  (S:cI X scope cl N nt fv) (hc:X.calm=true)
  (hg:∀C s H fp,PG (cB X scope cl N C s H fp) tg g) (ht:∀C s H fp,jT (cB X scope cl N C s H fp) ifs tt) (he:∀C s H fp,PE (cB X scope cl N C s H fp) elt te)
  (I2:Inv X pins σ H2 s2) (T:Turn X.prog X.w X.K tg J fp it tn) (f_:tn 0 s2.heap) (f2:∀b∈fp,gz X pins H2 b)
  (hq:∀D,H2 D=none->∃W:Nat->Nat->List V->St->Hp->Prop,
   (∃m,W 0 m [] (h_ σ nt fv) (upd H2 D (.lst [])))/\∀i m ys au H2,W i m ys au H2->H2 D=some (.lst ys)/\ys.length<sizeLine/\
    ((J.stop i H2/\Q (.ref D) H2)\/(J.go i H2/\∀x H3,J.iF i H2 x H3->g x au H3 λbS H4=>tt bS H4 λb H5=>if b=true then te bS H5 λv H6=>H6 D=some (.lst ys)/\∃m',m' < m/\W (i+1) m' (ys++[v]) bS (upd H6 D (.lst (ys++[v])))
     else ∃m',m' < m/\W (i+1) m' ys bS H5)))
  (yF:∀(D C:Addr) (s':Shared) (H':Hp) (m':Str->Option Value),Inv X pins σ H' s'->s'.heap.Ns C m'->s2.heap.objs.size<=C->H' C=none->Q (.ref D) H'->RR (.ref D) C (.ok .next) s') :
  wpAny (model X.prog X.w) X.A (newList []) (λacc cu=>wpAny (model X.prog X.w) X.A (newFunctionEnv scope X.env.globals cl [] X.env.qual none .none (some X.env)) (λmJ g_ =>
   codeAny (model X.prog X.w) X.A (.compStart (.ListComp elt [⟨tg,iter,ifs,0⟩] scope pos) 0 (.ref it) acc { mJ with scope:=relabel scope X.env }) (RR acc mJ.locals) g_) E cu) E s2:=by
 refine wpAny_newObj_type (wpAny_newFunctionEnv S.mH (by intro y hy;simp at hy) (λcE k9 jo=>?_) S.kind)
 dsimp only at k9 jo ⊢;generalize k_:s2.heap.push { cls:=.type "list",dict:=none,data:=.seq ([]:List Value).toArray }=HH at k9 jo ⊢;have hC:HH.objs.size=s2.heap.objs.size+1:=by rw[← k_,Heap.size_push]
 have k7:s2.heap.objs.size≠HH.objs.size:=by rw[hC];exact Nat.ne_of_lt (Nat.lt_succ_self _)
 have jV:s2.heap.objs.size<=HH.objs.size:=by rw[hC];exact Nat.le_succ _
 have old:∀b o,s2.heap.get? b=some o->cE.get? b=some o:=λb o e=>by
  have hb:b<s2.heap.objs.size:=Heap.lt_size e;exact jo.extBut b o (by rw[hC];exact Nat.ne_of_lt (Nat.lt_succ_of_lt hb)) (Heap.get?_push_of_some _ (k_▸Heap.get?_push_of_some _ e))
 have oY:cE.get? s2.heap.objs.size=some { cls:=.type "list",data:=.seq #[] }:=jo.extBut _ _ k7 (Heap.get?_push_of_some _ (k_▸Heap.get?_push_size _ rfl));have bV:∀b∈fp,b<s2.heap.objs.size:=λb hb=>by
  obtain⟨o,e,_⟩:=T.obj 0 _ f_ b hb;exact Heap.lt_size e
 have hD:H2 s2.heap.objs.size=none:=I2.aC.fresh (Nat.le_refl _);obtain⟨W,⟨m0,w0⟩,turn⟩:=hq _ hD;have jO:tn 0 cE:=T.keep _ _ _ f_ λb _ o e=>old b o e;have I3:=S.inv I2 f2 bV (h1:=cE) (tk:=s2.toks+([]:List (Str×Value)).length) (D:=s2.heap.objs.size) (C:=HH.objs.size) (Nat.le_refl _) jV k7 old oY (by simpa using k9)
 -- what stays true of the iterator's objects
 have nD:∀b∈fp,b≠s2.heap.objs.size:=λb hb=>Nat.ne_of_lt (bV b hb);have gS:∀ {H':Hp},(∀b∈fp,H' b=none)->∀b∈fp,gz (cB X scope cl N HH.objs.size s2 H2 fp) [] H' b:=λ{H'} hn b hb=>by
  have ok:=S.ok I2 f2 bV jV;refine⟨hn b hb,(ok.jI b hb).1,ok.jJ b hb,.inl hb,(ok.jI b hb).2,λp hp=>absurd (show p∈([]:List (Addr×Obj)) from hp) (by simp)⟩
 have loop:∀cu:Shared,cu = { s2 with heap:=cE,toks:=s2.toks+([]:List (Str×Value)).length }->
   codeAny (model X.prog X.w) X.A (.compLoop (.ListComp elt [⟨tg,iter,ifs,0⟩] scope pos) 0 (.ref it) (.ref s2.heap.objs.size) (compEnvC scope cl HH.objs.size X.env)) (RR (.ref s2.heap.objs.size) HH.objs.size) cu:=by
  rintro cu rfl;refine NS (λn s'=>∃i ys aV H',Inv (cB X scope cl N HH.objs.size s2 H2 fp) [] aV H' s'/\tn i s'.heap/\(∀b∈fp,H' b=none)/\W i n ys aV H') ?_ m0
   ⟨0,[],_,_,I3,jO,λb hb=>by rw[aG (nD b hb)];exact(f2 b hb).1,w0⟩
  rintro n s3 ⟨i,ys,fE,H3,J3,t3,gb,w3⟩;obtain⟨eD,yG,yH⟩:=turn i n ys fE H3 w3;rcases yH with⟨stop,qn⟩ | ⟨go,step⟩
  ·refine aQ (T.done (cB X scope cl N HH.objs.size s2 H2 fp) rfl rfl rfl hc i [] s3 fE H3 (λ_ _=>False) J3 (gS gb) t3 stop) λr s4 ⟨hr,I4⟩=>?_;subst hr;have I5:Inv X pins σ H3 s4:=I2.kL (ch:=fp) I4.os I4.base I4.aC I4.bare λb hb=>⟨(f2 b hb).2.2.2.1,(f2 b hb).2.1,(f2 b hb).2.2.2.2.1,(f2 b hb).2.2.2.2.2⟩;obtain⟨m,hn,_⟩:=I4.loc;exact yF _ _ s4 H3 m I5 hn jV I4.free qn
  ·refine aQ (T.item (cB X scope cl N HH.objs.size s2 H2 fp) rfl rfl rfl hc i [] s3 fE H3 (λ_ _=>False) J3 (gS gb) t3 go) λr s4 ⟨u,hr,h4⟩=>?_;subst hr;refine aQ h4 λ_ s5 ⟨x,H5,I5,r5,y5,gT,oA⟩=>?_;have oB:=I5.pinned (gS oA) (T.obj _ _ gT);refine aQ (hg _ _ _ _ _ s5 fE H5 x u _ oB r5 (step x H5 y5)) λ_ s6 ⟨fF,H6,I6,q6⟩=>?_;have o7:∀ {eL:St} {H7:Hp} {s7:Shared},Inv (cB X scope cl N HH.objs.size s2 H2 fp) ([]++mq fp s5.heap) eL H7 s7->tn (i+1) s7.heap/\∀b∈fp,H7 b=none:=λ{eL H7 s7} I7=>by
    refine⟨T.keep _ _ _ gT λb hb o e=>(I7.pin (b,o) (List.mem_append_right _ (List.mem_append_right _ (mw hb e)))).1,λb hb=>?_⟩;obtain⟨o,e,d⟩:=T.obj _ _ gT b hb;exact(I7.pin (b,o) (List.mem_append_right _ (List.mem_append_right _ (mw hb e)))).2.1
   refine aQ (ht _ _ _ _ _ s6 fF H6 _ I6 q6) λb s7 ⟨H7,I7,q7⟩=>?_;cases b with
   | false =>
    obtain⟨m',hm,w7⟩:=q7;obtain⟨t7,n7⟩:=o7 I7;exact⟨m',hm,i+1,ys,fF,H7,I7.kR,t7,n7,w7⟩
   | true =>
    refine aQ (he _ _ _ _ _ s7 fF H7 _ I7 q7) λu8 s8 ⟨v8,H8,I8,r8,yI,m',hm,w8⟩=>?_;refine aQ (gZ (X:=cB X scope cl N HH.objs.size s2 H2 fp) _ s8 fF H8 (.ref s2.heap.objs.size) [v8] (.ref s2.heap.objs.size) [u8] (λ_ H9=>∃m',m' < n/\W (i+1) m' (ys++[v8]) fF H9) I8 rfl (.cons r8 .nil)
     ⟨s2.heap.objs.size,ys,v8,rfl,rfl,yI,yG,m',hm,w8⟩) λ_ s9 ⟨_,H9,I9,_,m9,yJ,w9⟩=>?_
    obtain⟨t9,n9⟩:=o7 I9;exact⟨m9,yJ,i+1,ys++[v8],fF,H9,I9.kR,t9,n9,w9⟩
 exact codeAny_compStart_list (loop _ rfl) (T.self _ 0 _ _ _ jO (loop _ rfl))
theorem sF(S:cI X scope cl N nt fv)(hc:X.calm=true)(hi:PI X tg iter wi)
  (hg:∀C s H fp,PG (cB X scope cl N C s H fp) tg g) (ht:∀C s H fp,jT (cB X scope cl N C s H fp) ifs tt) (he:∀C s H fp,PE (cB X scope cl N C s H fp) elt te)
  (hs:∀x,foldedSetIterable iter X.env x=pure x:=by intro _;rfl):PE X (.ListComp elt [⟨tg,iter,ifs,0⟩] scope pos) (jU wi g tt te nt fv):=by
 intro pins s σ H Q I h;rw[eval_ListComp];refine wpAny_comprehension_free (use:=none) rfl hs S.mG S.kind S.names (aQ (hi pins s σ H _ I h) λxv s1 h1=>aQ h1 λoq s2 h2=>?_);obtain⟨it,fp,tn,J,H2,rfl,I2,T,f_,f2,hq⟩:=h2;refine ET (RR:=λacc C=>compPost (model X.prog X.w) X.A X.xe none (EP X pins σ Q) acc C) S hc hg ht he I2 T f_ f2 hq λD C s' H' m' I' hn hC fC q=>?_;refine⟨m',hn,λh' gC=>⟨.ref D,H',?_,rfl,q⟩⟩;have dW:=I2.je hC fC;exact I'.turned (t':=s'.toks) (it:=C) (λb o hb e=>gC.extBut b o hb e) fC dW.2.1 dW.2.2.2.1 dW.2.2.2.2.1 dW.2.2.2.2.2
theorem lg{i:Nat}{y:Str}{py EU:Pos}(hN:X.N.Nodup)(gD:X.N[i]? = some y)(hy:Loc X.env.scope y)(S:cI X scope cl N nt fv)(hc:X.calm=true)(hi:PI X tg iter wi)
  (hg:∀C s H fp,PG (cB X scope cl N C s H fp) tg g) (ht:∀C s H fp,jT (cB X scope cl N C s H fp) ifs tt) (he:∀C s H fp,PE (cB X scope cl N C s H fp) elt te)
  (sH:swapsWith (.ListComp elt [⟨tg,iter,ifs,0⟩] scope pos) (some (.Name y py)) EU.line X.env=pure true:=by rfl)
  (hs:∀x,foldedSetIterable iter X.env x=pure x:=by intro _;rfl) (hf:X.fn y=true\/X.env.scope.names.lookup y=some .local:=by first | exact .inl rfl | exact .inr rfl | assumption) :
  PS X (.Assign [.Name y py] (.ListComp elt [⟨tg,iter,ifs,0⟩] scope pos) EU) (xJ (jU wi g tt te nt fv) (kO i)):=by
 intro pins s σ H D' I h;rw[exec_Assign_Name_used _ _ _ _ sH];refine wpAny_bind (wpAny_standAt (wpAny_bind ?_))
 show wpAny _ _ (do let _ ← comprehension (.ListComp elt [⟨tg,iter,ifs,0⟩] scope pos) scope X.env _ (newList []) false (eval iter X.env) (some (assign (.Name y py) X.env))) _ _ s
 refine wpAny_bind (wpAny_mono (wpAny_comprehension_free (use:=some (assign (.Name y py) X.env)) (Q:=λ_ s'=>SP X pins D' .next s') rfl hs S.mG S.kind S.names
  (aQ (hi pins s σ H _ I h) λxv s1 h1=>aQ h1 λoq s2 h2=>?_)) (λ_ s' hq=>wpAny_pure (wpAny_pure hq)) λ_ _ e=>e)
 obtain⟨it,fp,tn,J,H2,rfl,I2,T,f_,f2,hq⟩:=h2;refine ET (RR:=λacc C=>compPost (model X.prog X.w) X.A X.xe (some (assign (.Name y py) X.env)) (λ_ s'=>SP X pins D' .next s') acc C) (Q:=λx H1=>kO i x σ H1 D'.nx) S hc hg ht he I2 T f_ f2 hq λD C s' H' m' I' hn hC fC q=>?_;have dW:=I2.je hC fC
 show wpAny _ _ (assign (.Name y py) X.env (.ref D)) _ _ _;refine wpAny_assign_Name (DC I' hN gD hy (v:=.ref D) rfl (λoK NY ⟨a,NZ,ha⟩=>?_) hf);have N1:C≠a:=by
  rcases ha with z | z
  ·rw[z];exact dW.2.1
  ·exact λe=>dW.2.2.2.2.1 y a z e.symm
 refine⟨m',hn.sameBut NZ N1,λh' gC=>⟨_,H',?_,q⟩⟩;exact NY.turned (t':=oK.toks) (it:=C) (λb o hb e=>gC.extBut b o hb e) fC dW.2.1 dW.2.2.2.1 dW.2.2.2.2.1 dW.2.2.2.2.2
end
noncomputable def o8(K:PySem.W.Frag)(a:Addr):It :=
 ⟨λi H=>∃xs x,aD K H a xs/\xs[i]? = some x,λi H v H'=>∃T x,H T=none/\v = .ref T/\(∀xs,aD K H a xs->xs[i]? = some x)/\H' = upd H T (.tup [.int i,x]),λi H=>∃xs,aD K H a xs/\xs.length<=i⟩
theorem N3{P:Program}{w:World}{K:PySem.W.Frag}{elts:List Expr}{x1}{tp:Pos}(a e it:Addr)(yK:e≠it) :
  Turn P w K (.Tuple elts x1 tp) (o8 K a) [e,it] e (λi h=>(∃old,IsEnum h e it (i:Nat) old)/\h.IsListIter it a i) where
 mem:=by simp
 obj:=λi h st b hb=>by
  obtain⟨⟨old,he⟩,o,e1,c,d⟩:=st;rcases List.mem_cons.mp hb with z | hb
  ·rw[z];exact⟨_,he,λv z=>by
    have z':Data.fields _=Data.cell v:=z;cases z'⟩
  ·have e2:b=it:=by simpa using hb
   rw[e2];exact⟨o,e1,λv z=>by rw[d] at z;cases z⟩
 keep:=λi h h' st k=>by
  obtain⟨⟨old,he⟩,hi⟩:=st;exact⟨⟨old,k e (by simp) _ he⟩,hi.at λo q=>k it (by simp) o q⟩
 item:=by
  intro X hP hw hK hc i pins s σ H E I hf st hg;subst hP hw hK;obtain⟨xs,x,hq,hx⟩:=hg;obtain⟨aB,rv,p,hz⟩:=I.list hq;obtain⟨u,hu,ru⟩:=rv.get hx;obtain⟨⟨old,he⟩,hit⟩:=st;obtain⟨f0,f1,f2,f3,f4,f5⟩:=hf e (by simp)
  obtain⟨g0,g1,g2,g3,g4,g5⟩:=hf it (by simp)
  have EV:e<s.heap.objs.size:=Heap.lt_size he;have N4:it<s.heap.objs.size:=by obtain⟨_,z,_⟩:=hit;exact Heap.lt_size z
  refine wpAny_pyNext_enum_item he hit p.isList (x:=u) (by simpa using hu) yK λh' ho EW hT hsz hk=>?_
  refine⟨_,rfl,?_⟩;refine wpAny_letOwnedTupleGo_enum ho λmK fq gC=>?_
  replace gC:Heap.SameBut e h' mK:=gC
  -- two records have turned,a tuple is new
  have I1:Inv X pins σ H { s with heap:=(s.heap),toks:=s.toks+1 }:=I.tok _;have kk:∀b o,b∉[e,it]->s.heap.get? b=some o->mK.get? b=some o:=λb o hb q=>by
   have h1:b≠e:=λz=>hb (by simp[z])
   have h2:b≠it:=λz=>hb (by simp[z])
   exact gC.extBut b o h1 (hk b o h1 h2 q)
  have nW:∀b v,H b=some v->b∉[e,it]:=λb v q hb=>by
   rcases List.mem_cons.mp hb with z | hb
   ·rw[z,f0] at q;cases q
   ·have e2:b=it:=by simpa using hb
    rw[e2,g0] at q;cases q
  have EY:H s.heap.objs.size=none:=I.aC.fresh (Nat.le_refl _);have o9:∀b v,H b=some v->b≠s.heap.objs.size:=λb v q z=>by rw[z,EY] at q;cases q
  have N5:mK.get? s.heap.objs.size=some { cls:=.type "tuple",data:=.seq #[.int (i:Nat) s.toks,u] }:=gC.extBut _ _ (Nat.ne_of_gt EV) hT;have Yu:∃o,mK.get? e=some o:=⟨_,fq⟩;have Yv:∃o,mK.get? it=some o:=by
   obtain⟨o,q,_⟩:=EW;exact⟨o,gC.extBut _ _ (Ne.symm yK) q⟩
  have I2:Inv X pins σ (upd H s.heap.objs.size (.tup [.int i,x])) { s with heap:=mK,toks:=s.toks+1 }:=by
   refine I.step (g':=s.gens) (d':=s.drawn) (ch:=[e,it]) (λb hb=>?_) (λb o _ _ hc q _=>kk b o hc q) (λb o _ _ hc q _=>⟨o.slots,kk b o hc q⟩) (λb o _ q n=>?_) (λb o hc q=>⟨o,kk b o hc q⟩)
    (λb ys q=>by rw[aG (o9 b _ q)];exact q) (λb o v q=>by rw[aG (o9 b _ q)];exact q) (λb ps q=>⟨#[],by rw[aG (o9 b _ q),q];simp⟩) (λm hm=>?_) (λb v q=>?_) I.bare
   ·rcases List.mem_cons.mp hb with z | hb
    ·rw[z];exact⟨f3,f1,f4,f5⟩
    ·have e2:b=it:=by simpa using hb
     rw[e2];exact⟨g3,g1,g4,g5⟩
   ·rw[aG (Nat.ne_of_lt (Heap.lt_size q))];exact n
   ·obtain⟨o,es,ep,q,r⟩:=hm;exact⟨o,es,ep,kk _ o (by
     intro hb;rcases List.mem_cons.mp hb with z | hb
     ·exact f1 z.symm
     ·exact g1 (by simpa using hb:X.env.locals=it).symm) q,r⟩
   ·by_cases hb:b=s.heap.objs.size
    ·subst hb;rw[aq] at q;cases q;refine⟨by show 2<=sizeLine;decide,[.int (i:Nat) s.toks,u],.cons ⟨_,rfl⟩ (.cons ru .nil),_,N5,rfl,_,rfl⟩
    ·rw[aG hb] at q;refine(I.aC b v q).e8 (λc o rK z=>kk c o ?_ z) (λc z=>by rw[aG (o9 c _ z)];exact z) (λc ys z=>by rw[aG (o9 c _ z)];exact z)
     rcases rK with z2 | z2
     ·rw[z2];exact nW b v q
     ·exact nW c _ z2
  refine⟨.ref s.heap.objs.size,_,I2,rfl,⟨_,x,EY,rfl,λys hy=>by rw[I.DL hy hq];exact hx,rfl⟩,⟨⟨u,?_⟩,?_⟩,λb hb=>?_⟩
  ·have z:((i+1:Nat):Int)=(i:Int)+1:=by lia
   rw[z];exact fq
  ·exact EW.at λo q=>gC.extBut _ _ (Ne.symm yK) q
  ·have bV:b<s.heap.objs.size:=by
    rcases List.mem_cons.mp hb with z | hb
    ·rw[z];exact EV
    ·rw[show b=it by simpa using hb];exact N4
   rw[aG (Nat.ne_of_lt bV)];exact(hf b hb).1
 done:=by
  intro X hP hw hK hc i pins s σ H E I hf st hg;subst hP hw hK;obtain⟨xs,hq,hx⟩:=hg;obtain⟨aB,rv,p,hz⟩:=I.list hq;obtain⟨⟨old,he⟩,hit⟩:=st;obtain⟨g0,g1,g2,g3,g4,g5⟩:=hf it (by simp)
  have hl:=rv.length;exact wpAny_pyNext_enum_end (I.ok.hd hc) he hit p.isList (by simp;lia) λh' eb=>⟨rfl,I.turned (t':=s.toks) (λb o hb e=>eb b o hb e) g0 g1 g3 g4 g5⟩
 self:=λ_ _ _ _ _ st h=>by
  obtain⟨⟨old,he⟩,_⟩:=st;exact wpAny_pyIter_enum he h
section
variable{X:Cx}
noncomputable def yL(K:PySem.W.Frag)(ta:TA):TI:=λσ H R=>ta σ H λvs H1=>∃a,vs = [.ref a]/\(∃xs,aD K H1 a xs)/\R (o8 K a) H1
theorem yM{l:Expr}{ta:TA}{p pos tp:Pos}{elts:List Expr}{x1}(hg:Gl X "enumerate")(hm:X.mg "enumerate" = none)(hl:PA X [l] ta)(hs:starEach [l] X.env = [(false,eval l X.env)]:=by rfl) :
  PI X (.Tuple elts x1 tp) (.Call (.Name "enumerate" p) [l] [] pos) (yL X.K ta):=by
 intro pins s σ H R I h;refine Call_ (l_ I hg hm boot_enumerate (PyProof.Rows.callWith_type1 (aQ (hl pos pins s σ H _ I h) λus s1 ⟨vs,H1,I1,r1,q1⟩=>?_) hs rfl));obtain⟨a,e,⟨xs,hq⟩,q⟩:=q1;subst e;obtain⟨u,rfl,ru⟩:=vals1 r1;cases ru;obtain⟨aB,rv,p,hz⟩:=I1.list hq;refine call_enumerate_list p.isList λh' he hit hsz hk=>?_;have I2:Inv X pins σ H1 { s1 with heap:=h' }:=I1.kept (t':=s1.toks) hk;refine wpAny_pyIter_enum he ?_;have n1:H1 (s1.heap.objs.size+1)=none:=I1.aC.fresh (Nat.le_succ _);have n0:H1 s1.heap.objs.size=none:=I1.aC.fresh (Nat.le_refl _);refine⟨s1.heap.objs.size+1,[s1.heap.objs.size+1,s1.heap.objs.size],_,_,H1,rfl,I2,N3 a _ _ (Nat.succ_ne_self _),⟨⟨_,he⟩,hit⟩,λb hb=>?_,q⟩;rcases List.mem_cons.mp hb with z | hb
 ·rw[z];exact I1.je (Nat.le_succ _) n1
 ·rw[show b=s1.heap.objs.size by simpa using hb];exact I1.je (Nat.le_refl _) n0
theorem N6{K:PySem.W.Frag}{a:Addr}{xs:List V}{g:TG}{tb:TS}{D:Ends}{σ:St}{H:Hp}(Pv:Nat->St->Hp->Prop)(h0:Pv 0 σ H)(hl:∀i σ H,i<=xs.length->Pv i σ H->aD K H a xs)
  (hs:∀i x σ H T,xs[i]? = some x->Pv i σ H->H T=none->g (.ref T) σ (upd H T (.tup [.int i,x])) λau H2=>tb { D with nx:=Pv (i+1),ct:=Pv (i+1),bk:=D.nx } au H2) (hd:∀σ H,Pv xs.length σ H->D.nx σ H) :
  ∃W:Nat->Nat->St->Hp->Prop,(∃m,W 0 m σ H)/\∀i m σ H,W i m σ H->
   ((o8 K a).stop i H/\D.nx σ H)\/((o8 K a).go i H/\∃N:St->Hp->Prop,(∀aV H',N aV H'->∃m',m' < m/\W (i+1) m' aV H')/\∀x H',(o8 K a).iF i H x H'->g x σ H' λau H2=>tb { D with nx:=N,ct:=N,bk:=D.nx } au H2):=by
 refine⟨λi m σ H=>m=xs.length - i/\i<=xs.length/\Pv i σ H,⟨xs.length,by simp,Nat.zero_le _,h0⟩,?_⟩
 rintro i m σ H ⟨rfl,hi,p⟩;have q:=hl i σ H hi p;by_cases bV:i<xs.length
 ·refine .inr ⟨⟨xs,xs[i],q,by simp[bV]⟩,Pv (i+1),λaV H' p'=>⟨xs.length - (i+1),by lia,rfl,bV,p'⟩,λx H' y=>?_⟩
  obtain⟨T,z,hT,e,y,e2⟩:=y;subst e e2;exact hs i z σ H T (y xs q) p hT
 ·have e:i=xs.length:=by lia
  subst e;exact .inl ⟨⟨xs,q,Nat.le_refl _⟩,hd σ H p⟩
theorem EZ(hc:X.calm=true):gA X (.builtin "sum") (λxs H Q=>∃(p:Addr) (ns:List Int),xs = [.ref p]/\aD X.K H p (ns.map V.int)/\Q (.int ns.sum) H):=by
 intro pins s σ H xs us Q I r h;obtain⟨p,ns,rfl,hq,q⟩:=h;obtain⟨u,rfl,ru⟩:=vals1 r;cases ru;obtain⟨aB,rv,pl,hz⟩:=I.list hq;have hi:IntsAre aB ns:=intsAre_of rv;obtain⟨xs,hx⟩:=hi.allInts.items;have fT:s.heap.IsList p (intItems xs):=hx▸pl.isList;refine sum_intListG (I.ok.hd hc) fT λh' tk t' hk=>?_;have e1:ns=xs.toList.map (·.1):=by
  rw[← nums_intItems,← hx];exact(show numsOf aB.toArray.toList=ns from hi.numsOf).symm
 have e2:preSum (numAt xs) xs.size=ns.sum:=by
  rw[preSum_eq,List.take_of_length_le (by simp),e1]
 rw[e2];exact⟨.int ns.sum,H,I.kept hk,⟨t',rfl⟩,q⟩
theorem N7:gA X (.builtin "sorted") (λxs H Q=>∃(p:Addr) (ns:List Int),xs = [.ref p]/\aD X.K H p (ns.map V.int)/\ns.length<64/\
  ∀(l:Addr) (jq:List Int),H l=none->jq.Perm ns->jq.Pairwise (·<=·)->Q (.ref l) (upd H l (.lst (jq.map V.int)))):=by
 intro pins s σ H xs us Q I r h;obtain⟨p,ns,rfl,hq,N8,q⟩:=h;obtain⟨u,rfl,ru⟩:=vals1 r;cases ru;obtain⟨aB,rv,pl,hz⟩:=I.list hq;have hi:IntsAre aB ns:=intsAre_of rv;have hlen:=hi.length;refine sorted_ints pl.isList hi (by lia) λout jq a1 a2 a3=>?_
 obtain⟨e,he⟩:=sortedAll_at s.heap aB out;have hn:H (s.heap.objs.size+1)=none:=I.aC.fresh (Nat.le_succ _);refine⟨.ref (s.heap.objs.size+1),upd H (s.heap.objs.size+1) (.lst (jq.map V.int)),I.laid (t':=s.toks) (λb o q=>sortedAll_old q) (Nat.le_succ _) ?_,rfl,q _ jq hn a2 a3⟩;refine⟨?_,out.toList,e,yx a1,by simpa using he⟩
 rw[List.length_map,a2.length_eq];exact Nat.le_trans (Nat.le_of_lt N8) (by decide)
theorem eO.N9{pins:List (Addr×Obj)}{σ:St}{H:Hp}{s:Shared}{x:V}{u t:Value}(I:Inv X pins σ H s)(rx:RelV x u)(ty:eO X.K H x t):∃Hh:Heap->Prop,PySem.W.KitX X.K u t Hh/\Hh s.heap/\u≠.builtin "__main__.__loader__#opaque" := by
 cases ty with
 | aH=>cases (show u=Value.none from rx);exact⟨_,PySem.W.kitx_none,True.intro,λz=>nomatch z⟩
 | bl y=>cases (show u=Value.bool y from rx);exact⟨_,PySem.W.kitx_bool,True.intro,λz=>nomatch z⟩
 | int i=>obtain⟨t,q⟩:=(show ∃t,u=Value.int i t from rx);cases q;exact⟨_,PySem.W.kitx_int,True.intro,λz=>nomatch z⟩
 | str y=>obtain⟨t,q⟩:=(show ∃t,u=Value.str y t from rx);cases q;exact⟨_,PySem.W.kitx_str,True.intro,λz=>nomatch z⟩
 | jG y=>obtain⟨t,q⟩:=(show ∃t,u=Value.float y t from rx);cases q;exact⟨_,PySem.W.kitx_float,True.intro,λz=>nomatch z⟩
 | @lst a xs ea =>
  cases (show u=Value.ref a from rx);obtain⟨_,_,n,_,h1⟩:=(show bQ X.prog X.w H s.heap a (.lst xs) from I.aC a _ ea);exact⟨_,PySem.W.kitx_list,⟨_,h1,rfl⟩,λz=>nomatch z⟩
 | @eF a ob xs ea =>
  cases (show u=Value.ref a from rx);obtain⟨_,_,_,n,_,h1⟩:=(show bQ X.prog X.w H s.heap a (.eF ob (.lst xs)) from I.aC a _ ea);exact⟨_,PySem.W.kitx_list,⟨_,h1,rfl⟩,λz=>nomatch z⟩
 | @tup a xs ea =>
  cases (show u=Value.ref a from rx);obtain⟨_,_,_,p⟩:=(show bQ X.prog X.w H s.heap a (.tup xs) from I.aC a _ ea);obtain⟨o,h1,h2,_⟩:=p;exact⟨_,PySem.W.kitx_tuple,⟨o,h1,h2⟩,λz=>nomatch z⟩
 | @dK a aE ea =>
  cases (show u=Value.ref a from rx);obtain⟨_,_,vs,_,p⟩:=(show bQ X.prog X.w H s.heap a (.dK aE) from I.aC a _ ea);obtain⟨o,es,ep,h1,h2,_⟩:=p;exact⟨_,PySem.W.kitx_dict,⟨o,h1,h2.1⟩,λz=>nomatch z⟩
 | @dT a aE ea =>
  cases (show u=Value.ref a from rx);obtain⟨_,_,xs,_,o,es,ep,h1,h2,_⟩:=(show bQ X.prog X.w H s.heap a (.dT aE) from I.aC a _ ea);exact⟨_,PySem.W.kitx_dict,⟨o,h1,h2.1⟩,λz=>nomatch z⟩
 | @ins a C dx fs ea cl ha hn rS hm =>
  cases (show u=Value.ref a from rx);obtain⟨mA,O,_⟩:=oH I.aC ea;obtain⟨od,J,_⟩:=O.look;exact⟨_,PySem.W.kitx_own (cl.get _) cl.hd ha hn rS hm,J,λz=>nomatch z⟩
theorem iL:gA X (.builtin "isinstance") (λxs H Q=>∃x T t b,xs = [x,.ty T]/\eO X.K H x t/\PySem.W.kitOne X.K t (.type T)=some b/\Q (.bl b) H):=by
 intro pins s σ H xs us Q I r h;obtain⟨x,T,t,b,rfl,ty,e,q⟩:=h;obtain⟨u,v,rfl,ru,rv⟩:=vals2 r;cases (show v=Value.type T from rv);exact MF I ru ty e λtk=>⟨.bl b,H,I.tok _,rfl,q⟩
theorem E3:∀ {Ts:List String} {us:List Value},Vals (Ts.map V.ty) us->us=Ts.map Value.type
 | [],_,.nil=>rfl
 | _::_,_,.cons r t=>by
  have r:_=Value.type _:=r;rw[r,E3 t];rfl
theorem N_:gA X (.builtin "isinstance") (λxs H Q=>∃(x:V) (p:Addr) (Ts:List String) (t:Value) (b:Bool),xs = [x,.ref p]/\H p=some (.tup (Ts.map V.ty))/\eO X.K H x t/\PySem.W.kitAny X.K t (Ts.map Value.type)=some b/\Q (.bl b) H):=by
 intro pins s σ H xs us Q I r h;obtain⟨x,p,Ts,t,b,rfl,hp,ty,e,q⟩:=h;obtain⟨u,v,rfl,ru,rv⟩:=vals2 r;cases (show v=Value.ref p from rv);obtain⟨Hh,Z,hh,ne⟩:=eO.N9 I ru ty;obtain⟨_,aB,rt,o,ho,hc,n,hd⟩:=I.aC p _ hp;have ei:=E3 rt;obtain⟨oc,od,dt,sl⟩:=o;simp only at hc hd;subst hc hd ei;exact PySem.W.kia_tup Z I.bN hh ho e ne λtk=>⟨.bl b,H,I.tok _,rfl,q⟩
end
noncomputable def AllP{α:Type}(P:α->Prop):List α->Prop
 | []=>True
 | a::r=>P a/\AllP P r
theorem AllP.mem{α:Type}{P:α->Prop}:∀ {l:List α},AllP P l->∀a∈l,P a
 | _::_,h,a,hm=>by
  rcases List.mem_cons.mp hm with rfl | hm
  ·exact h.1
  ·exact AllP.mem h.2 a hm
theorem cI.of{X:Cx}{scope:Scope}{cl:List (Str×Addr)}{N:List Str}{nt:Nat}{fv:List Nat}(mG:closureFor scope X.env=pure cl)(kind:scope.kind = .function)
  (mH:(scope.names.all λy=>y.2 != .cell)=true) (names:(scope.names.all λy=>y.2 != .local || scope.names.lookup y.1 == some .local)=true)
  (sub:AllP (λp:Str×Addr=>X.env.cells.lookup p.1=some p.2) cl) (has:(scope.names.all λy=>y.2 != .free || (cl.lookup y.1).isSome)=true)
  (free:fv.map (λj=>X.N[j]?)=(N.drop nt).map some) (fk:((N.drop nt).all λy=>scope.names.lookup y == some .free && X.env.scope.names.lookup y == some .cell)=true) (le:nt<=N.length) (nd:N.Nodup) :
  cI X scope cl N nt fv where
 mG:=mG
 kind:=kind
 mH:=λy hy=>by have:=List.all_eq_true.mp mH y hy;simpa using this
 names:=λy hy hl=>by have:=List.all_eq_true.mp names y hy;simp[hl] at this;exact this
 sub:=sub.mem
 has:=λy hy hl=>by
  have:=List.all_eq_true.mp has y hy;rw[hl] at this;exact Option.isSome_iff_exists.mp (by simpa only[bne_self_eq_false,Bool.false_or] using this)
 free:=free
 fk:=λy hy=>by have:=List.all_eq_true.mp fk y hy;simpa using this
 le:=le
 nd:=nd
theorem Yw{CX:eS}{P:Program}{w:World}{K:PySem.W.Frag}{mg:Str->Option Value}{base:Heap}{N:List Str}{qual:Str}{scope:Scope}{f:Addr}{cd:Value}{A:Around}{outer:List Env}{s:Shared}{H:Hp}{E:XK} :
  (fH CX P w K mg base N qual scope f cd A outer s H E).K=K:=rfl
theorem Yx{X:Cx}{E:Value->Shared->Prop}:(X.fQ E).K=X.K:=rfl
theorem Yy{X:Cx}{scope:Scope}{cl:List (Str×Addr)}{N:List Str}{C:Addr}{s:Shared}{H:Hp}{fp:List Addr}:(cB X scope cl N C s H fp).K=X.K:=rfl
structure Zn(H:Hp)(a:Addr)(ts:List Addr)(z:List (Int×Int)):Prop where
 l:H a=some (.lst (ts.map V.ref))
 n:ts.length=z.length
 t:∀(i:Nat) (t:Addr) (p:Int×Int),ts[i]? = some t->z[i]? = some p->H t=some (.tup [.int p.1,.int p.2])
theorem Zn.same{H H':Hp}{a:Addr}{ts:List Addr}{z:List (Int×Int)}(h:Zn H a ts z)(e:ah H H'):Zn H' a ts z:=⟨e _ _ h.l,h.n,λi t p h1 h2=>e _ _ (h.t i t p h1 h2)⟩
theorem Zn.at{H:Hp}{a:Addr}{ts:List Addr}{z:List (Int×Int)}(h:Zn H a ts z){i:Nat}{x:V}(e:(ts.map V.ref)[i]? = some x):∃t p,x = .ref t/\z[i]? = some p/\H t=some (.tup [.int p.1,.int p.2]):=by
 rw[List.getElem?_map] at e;cases q:ts[i]? with
 | none=>rw[q] at e;cases e
 | some t =>
  rw[q] at e;have hi:i<z.length:=by rw[← h.n];exact(List.getElem?_eq_some_iff.mp q).1
  exact⟨t,z[i],(Option.some.inj e).symm,List.getElem?_eq_getElem hi,h.t i t _ q (List.getElem?_eq_getElem hi)⟩
noncomputable def mix(c k:Int):Int:=((c % 1000000000000000+1)*48271+k*k*16807+k*7919) % 2147483647*69621 % 2147483629
noncomputable def gh(ns:List Int)(k:Int):Int:=ns.getD k.toNat 0
noncomputable def cF:Sp:=λvs H Q _=>∃c k:Int,vs = [.int c,.int k]/\0<=k/\k<100000/\Q (.int (mix c k)) H
noncomputable def o_(K:PySem.W.Frag):Sp:=λvs H Q _=>∃(a:Addr) (ns:List Int) (k:Int),vs = [.ref a,.int k]/\aD K H a (ns.map V.int)/\ns.length<=63/\0<=k/\Q (.int (gh ns k)) H
section
variable{K:PySem.W.Frag}{ta:TA}{tl:TE}{g:TG}{tb:TS}{D:Ends}{σ:St}{H:Hp}
theorem Oa(n:Nat)(dX:∀Q:List V->Hp->Prop,Q [.int (n:Int)] H->ta σ H Q)(hn:n<1000000000)(Pv:Nat->St->Hp->Prop)(h0:Pv 0 σ H)
  (hs:∀i σ H,i<n->Pv i σ H->g (.int (i:Int)) σ H λau H2=>tb { D with nx:=Pv (i+1),ct:=Pv (i+1),bk:=D.nx } au H2) (hd:∀σ H,Pv n σ H->D.nx σ H):f9 (ow ta) g tb D σ H:=by
 refine dX _ ⟨n,rfl,by lia,by lia,?_⟩
 have e:((n:Int)).toNat=n:=by lia
 rw[e];refine xN Pv h0 (λi σ H hi p=>?_) hd;have e2:(0:Int)+(i:Int)=i:=by lia
 rw[e2];exact hs i σ H hi p
theorem Ob(lo hi:Int)(dX:∀Q:List V->Hp->Prop,Q [.int lo,.int hi] H->ta σ H Q)(b1 : -1000000000000<lo)(b2:lo<1000000000000)(b3 : -1000000000000<hi)(b4:hi<1000000000000)(Pv:Nat->St->Hp->Prop)(h0:Pv 0 σ H)
  (hs:∀i σ H,i<(hi - lo).toNat->Pv i σ H->g (.int (lo+(i:Int))) σ H λau H2=>tb { D with nx:=Pv (i+1),ct:=Pv (i+1),bk:=D.nx } au H2) (hd:∀σ H,Pv (hi - lo).toNat σ H->D.nx σ H):f9 (oz ta) g tb D σ H :=
 dX _ ⟨lo,hi,rfl,⟨by lia,by lia,by lia,by lia⟩,xN Pv h0 hs hd⟩
theorem Oc(a:Addr)(xs:List V)(ia:∀Q:VK,Q (.ref a) H->tl σ H Q)(dw:aD K H a xs)(Pv:Nat->St->Hp->Prop)(h0:Pv 0 σ H)(hl:∀i σ H,i<=xs.length->Pv i σ H->aD K H a xs)
  (hs:∀i x σ H,xs[i]? = some x->Pv i σ H->g x σ H λau H2=>tb { D with nx:=Pv (i+1),ct:=Pv (i+1),bk:=D.nx } au H2) (hd:∀σ H,Pv xs.length σ H->D.nx σ H):f9 (mh K tl) g tb D σ H :=
 ia _ ⟨a,rfl,⟨xs,dw⟩,DS Pv h0 hl hs hd⟩
theorem Od(a:Addr)(xs:List V)(dX:∀Q:List V->Hp->Prop,Q [.ref a] H->ta σ H Q)(dw:aD K H a xs)(Pv:Nat->St->Hp->Prop)(h0:Pv 0 σ H)(hl:∀i σ H,i<=xs.length->Pv i σ H->aD K H a xs)
  (hs:∀i x σ H T,xs[i]? = some x->Pv i σ H->H T=none->g (.ref T) σ (upd H T (.tup [.int i,x])) λau H2=>tb { D with nx:=Pv (i+1),ct:=Pv (i+1),bk:=D.nx } au H2) (hd:∀σ H,Pv xs.length σ H->D.nx σ H):f9 (yL K ta) g tb D σ H :=
 dX _ ⟨a,rfl,⟨xs,dw⟩,N6 Pv h0 hl hs hd⟩
variable{tt:TT}{te:TE}{nt:Nat}{fv:List Nat}{Q:VK}
noncomputable def NX(n i:Nat)(P:Prop):Prop:=∃m',m' < n - i/\m' = n - (i+1)/\i+1<=n/\P
theorem NX.of{n i:Nat}{P:Prop}(hi:i<n)(p:P):NX n i P:=⟨n - (i+1),by lia,rfl,hi,p⟩
theorem Oe(lo hi:Int)(dX:∀Q:List V->Hp->Prop,Q [.int lo,.int hi] H->ta σ H Q)(b1 : -1000000000000<lo)(b2:lo<1000000000000)(b3 : -1000000000000<hi)(b4:hi<1000000000000)
  (Pv:Addr->Nat->List V->St->Hp->Prop) (h0:∀D,H D=none->Pv D 0 [] (h_ σ nt fv) (upd H D (.lst []))) (hD:∀D i ys σ H,Pv D i ys σ H->H D=some (.lst ys)/\ys.length<sizeLine)
  (hs:∀D i ys au H2,i<(hi - lo).toNat->Pv D i ys au H2->g (.int (lo+(i:Int))) au H2 λbS H4=>tt bS H4 λb H5=>if b=true then te bS H5 λv H6=>H6 D=some (.lst ys)/\NX (hi - lo).toNat i (Pv D (i+1) (ys++[v]) bS (upd H6 D (.lst (ys++[v])))) else NX (hi - lo).toNat i (Pv D (i+1) ys bS H5))
  (hd:∀D ys au H2,Pv D (hi - lo).toNat ys au H2->Q (.ref D) H2):jU (oz ta) g tt te nt fv σ H Q:=by
 refine dX _ ⟨lo,hi,rfl,⟨by lia,by lia,by lia,by lia⟩,λD pe=>?_⟩
 refine⟨λi m ys au H2=>m=(hi - lo).toNat - i/\i<=(hi - lo).toNat/\Pv D i ys au H2,⟨_,rfl,Nat.zero_le _,h0 D pe⟩,?_⟩;rintro i m ys au H2 ⟨rfl,gD,p⟩;obtain⟨d1,d2⟩:=hD D i ys au H2 p;refine⟨d1,d2,?_⟩;by_cases bV:i<(hi - lo).toNat
 ·refine .inr ⟨bV,λx H3 y=>?_⟩;obtain⟨e1,e2⟩:=y;subst e1 e2;exact hs D i ys au _ bV p
 ·have e:i=(hi - lo).toNat:=by lia
  subst e;exact .inl ⟨Nat.le_refl _,hd D ys au H2 p⟩
theorem Of(a:Addr)(xs:List V)(ia:∀Q:VK,Q (.ref a) H->tl σ H Q)(dw:aD K H a xs)
  (Pv:Addr->Nat->List V->St->Hp->Prop) (h0:∀D,H D=none->Pv D 0 [] (h_ σ nt fv) (upd H D (.lst []))) (hD:∀D i ys σ H,Pv D i ys σ H->H D=some (.lst ys)/\ys.length<sizeLine/\aD K H a xs)
  (hs:∀D i x ys au H2,xs[i]? = some x->Pv D i ys au H2->g x au H2 λbS H4=>tt bS H4 λb H5=>if b=true then te bS H5 λv H6=>H6 D=some (.lst ys)/\NX xs.length i (Pv D (i+1) (ys++[v]) bS (upd H6 D (.lst (ys++[v])))) else NX xs.length i (Pv D (i+1) ys bS H5))
  (hd:∀D ys au H2,Pv D xs.length ys au H2->Q (.ref D) H2):jU (mh K tl) g tt te nt fv σ H Q:=by
 refine ia _ ⟨a,rfl,⟨xs,dw⟩,λD pe=>?_⟩;refine⟨λi m ys au H2=>m=xs.length - i/\i<=xs.length/\Pv D i ys au H2,⟨_,rfl,Nat.zero_le _,h0 D pe⟩,?_⟩;rintro i m ys au H2 ⟨rfl,gD,p⟩;obtain⟨d1,d2,d3⟩:=hD D i ys au H2 p;refine⟨d1,d2,?_⟩;by_cases bV:i<xs.length
 ·refine .inr ⟨⟨xs,xs[i],d3,by simp[bV]⟩,λx H3 y=>?_⟩
  obtain⟨e1,e2⟩:=y;subst e1;exact hs D i x ys au _ (e2 xs d3) p
 ·have e:i=xs.length:=by lia
  subst e;exact .inl ⟨⟨xs,d3,Nat.le_refl _⟩,hd D ys au H2 p⟩
end
theorem iM{ns:List Int}{k:Int}(h0:0<=k)(h:k<(ns.length:Int)):eu (ns.map V.int) k=some (.int (ns.getD k.toNat 0)):=by
 have hk:k.toNat<ns.length:=by lia
 unfold eu gW;rw[if_pos h0,if_pos (by simpa using h)]
 simp[List.getD_eq_getElem?_getD,List.getElem?_eq_getElem hk]
theorem E4{ns:List Int}(h:0<ns.length):eu (ns.map V.int) (-1)=some (.int (ns.getD (ns.length - 1) 0)):=by
 have hk:ns.length - 1<ns.length:=by lia
 unfold eu gW;rw[if_neg (by decide),if_pos (by simp;lia)]
 have e:(-1+((ns.map V.int).length:Int)).toNat=ns.length - 1:=by simp;lia
 rw[e];simp[List.getD_eq_getElem?_getD,List.getElem?_eq_getElem hk]
theorem E5(a b:String):(Str.ofString a=Str.ofString b)=(a=b):=by
 refine propext ⟨λh=>?_,λh=>by rw[h]⟩
 rw[Str.ofString_eq_toList,Str.ofString_eq_toList] at h;have h:a.toList.map Char.toNat=b.toList.map Char.toNat:=by
  injection h with h;exact Array.toList_inj.mpr h |> λz=>by simpa using h
 have inj:∀(x y:List Char),x.map Char.toNat=y.map Char.toNat->x=y:=by
  intro x
  induction x with
  | nil=>intro y h;cases y with | nil=>rfl | cons c r=>simp at h
  | cons c r ih =>
   intro y h;cases y with
   | nil=>simp at h
   | cons d q =>
    simp only[List.map_cons,List.cons.injEq] at h;rw[ih q h.2,Char.toNat_inj.mp h.1]
 exact String.ext (inj _ _ h)
theorem mL(a b:String):(Str.ofString a == Str.ofString b)=(a == b):=by
 by_cases h:a=b
 ·subst h;simp
 ·have h2:¬ Str.ofString a=Str.ofString b:=by rw[E5];exact h
  rw[beq_eq_false_iff_ne.mpr h,beq_eq_false_iff_ne.mpr h2]
structure lu(z:List (Int×Int)):Prop where
 l1:1<=z.length
 l5:z.length<=5
 r:∀p∈z,1<=p.1/\p.1<=40/\1<=p.2/\p.2<=60
 s2:2<=(z.map (·.1)).sum
 yN:(z.map (·.1)).sum<=120
noncomputable def counts(z:List (Int×Int)):List Int:=z.flatMap λp=>List.replicate p.1.toNat p.2
structure SwOk(sw:List Int)(n:Int):Prop where
 len:(sw.length:Int)=n
 two:2<=n
 z:sw.getD 0 0=0
 pos:∀i:Nat,1<=i->i<sw.length->1<=sw.getD i 0/\sw.getD i 0<=1000000000
 up:∀i:Nat,1<=i->i<sw.length->sw.getD (i - 1) 0<=sw.getD i 0
 no:∀a b:Nat,1<=a->1<=b->a+b<sw.length->sw.getD (a+b) 0<=sw.getD a 0+sw.getD b 0
noncomputable def ez(s:Int):Nat->List Int->List (Int×Int)
 | _,[]=>[]
 | r,c::cs=>(List.range (c - s).toNat).map (λ(k:Nat)=>((r:Int),(k:Int)))++ez s (r+1) cs
noncomputable def lz(rc:List Int)(s:Int):List (Int×Int):=ez s 0 rc
noncomputable def kT(p:Int×Int):List Key:=[.inl p.1,.inl p.2]
noncomputable def gi:Nat->List (Int×Int)->List (List Key×V)->List (List Key×V)
 | _,[],acc=>acc
 | i,p::r,acc=>gi (i+1) r (putK acc (kT p) (.int i))
noncomputable def yO(z:List (Int×Int)):List (List Key×V):=gi 0 z []
theorem E6(s:Int):∀(xs ys:List Int) (r:Nat),ez s r (xs++ys)=ez s r xs++ez s (r+xs.length) ys
 | [],ys,r=>by simp[ez]
 | x::xs,ys,r=>by
  rw[List.cons_append,ez,ez,E6 s xs ys (r+1),List.append_assoc,List.length_cons];congr 3;lia
theorem E7:∀(xs ys:List (Int×Int)) (i:Nat) (acc:List (List Key×V)),gi i (xs++ys) acc=gi (i+xs.length) ys (gi i xs acc)
 | [],ys,i,acc=>by simp[gi]
 | x::xs,ys,i,acc=>by
  rw[List.cons_append,gi,gi,E7 xs ys (i+1),List.length_cons];congr 1;lia
theorem E8:∀(xs:List (Int×Int)) (i:Nat) (acc:List (List Key×V)),(gi i xs acc).length<=acc.length+xs.length
 | [],i,acc=>by simp[gi]
 | x::xs,i,acc=>by
  rw[gi];have h1:=E8 xs (i+1) (putK acc (kT x) (.int i));have h2:=yr acc (kT x) (.int i);rw[List.length_cons];lia
theorem yP(x y:List (Int×Int)):counts (x++y)=counts x++counts y:=by simp[counts]
theorem sI:∀(z:List (Int×Int)),(∀p∈z,1<=p.1)->((counts z).length:Int)=(z.map (·.1)).sum
 | [],_=>rfl
 | p::z,h=>by
  have ih:=sI z λp hp=>h p (List.mem_cons_of_mem _ hp);have h1:=h p List.mem_cons_self;simp only[counts,List.flatMap_cons,List.length_append,List.length_replicate,List.map_cons,List.sum_cons] at ih ⊢;lia
theorem E9{z:List (Int×Int)}(ok:lu z)(i:Nat):(counts (z.take i)).length<=120:=by
 have h0:=sI z λp hp=>(ok.r p hp).1;have e:z=z.take i++z.drop i:=(List.take_append_drop i z).symm;have e2:(counts z).length=(counts (z.take i)).length+(counts (z.drop i)).length:=by
  rw[← List.length_append,← yP,List.take_append_drop]
 have:=ok.yN;lia
theorem E_{z:List (Int×Int)}{c:Int}(h:c∈counts z):∃p∈z,c=p.2:=by
 obtain⟨p,hp,hc⟩:=List.mem_flatMap.mp h;exact⟨p,hp,(List.mem_replicate.mp hc).2⟩
theorem sJ{s:Int}(hs:0<=s):∀(rc:List Int) (r:Nat),(∀c∈rc,0<=c/\c<=1000)->(ez s r rc).length<=1000*rc.length
 | [],_,_=>by simp[ez]
 | c::rc,r,h=>by
  have ih:=sJ hs rc (r+1) λc hc=>h c (List.mem_cons_of_mem _ hc);have h1:=h c List.mem_cons_self;simp only[ez,List.length_append,List.length_map,List.length_range,List.length_cons];lia
theorem Og{s:Int}(hs:0<=s){rc:List Int}(h:∀c∈rc,0<=c/\c<=1000)(i:Nat):(ez s 0 (rc.take i)).length<=1000*rc.length:=by
 have h1:=sJ hs (rc.take i) 0 λc hc=>h c (List.mem_of_mem_take hc);rw[List.length_take] at h1;have h2:1000*min i rc.length<=1000*rc.length:=Nat.mul_le_mul_left _ (Nat.min_le_right _ _);exact Nat.le_trans h1 h2
theorem Oh:sizeLine=16777216:=by decide
theorem sL(n:Nat)(c:Int):(List.replicate n [V.int c]).flatten=(List.replicate n c).map V.int:=by
 induction n with
 | zero=>rfl
 | succ n ih=>rw[List.replicate_succ,List.flatten_cons,ih,List.replicate_succ,List.map_cons];rfl
theorem yQ{α:Type}{l:List α}{i:Nat}{x:α}(h:l[i]? = some x):i<l.length:=(List.getElem?_eq_some_iff.mp h).1
theorem take_succ_get{α:Type}{l:List α}{i:Nat}{x:α}(h:l[i]? = some x):l.take (i+1)=l.take i++[x]:=by
 rw[List.take_add_one,h];rfl
theorem gF{α β:Type}{f:α->β}{l:List α}{i:Nat}{y:β}(h:(l.map f)[i]? = some y):∃x,l[i]? = some x/\y=f x:=by
 rw[List.getElem?_map] at h;cases e:l[i]? with
 | none=>rw[e] at h;cases h
 | some x=>rw[e] at h;exact⟨x,rfl,(Option.some.inj h).symm⟩
theorem get_mem{α:Type}{l:List α}{i:Nat}{x:α}(h:l[i]? = some x):x∈l:=List.mem_of_getElem? h
theorem dY{α:Type}{l:List α}{i:Nat}{x:α}(h:l[i]? = some x):i<l.length:=(List.getElem?_eq_some_iff.mp h).1
theorem ah.put{H:Hp}{a:Addr}{o:HO}(h:H a=none):ah H (upd H a o):=λb u e=>by rw[aG (cQ e h)];exact e
theorem ah.put2{H H':Hp}{a:Addr}{o:HO}(s:ah H H')(h:H a=none):ah H (upd H' a o):=λb u e=>by rw[aG (cQ e h)];exact s b u e
theorem ah.Fb{K:PySem.W.Frag}{H H':Hp}{a:Addr}{xs:List V}(e:ah H H')(h:aJ K H a xs):aJ K H' a xs:=by
 rcases h with(h | ⟨o,h⟩) | h
 ·exact .inl (.inl (e _ _ h))
 ·exact .inl (.inr ⟨o,e _ _ h⟩)
 ·exact .inr h
theorem Zn.sq{K:PySem.W.Frag}{H:Hp}{a:Addr}{ts:List Addr}{z:List (Int×Int)}(h:Zn H a ts z):aD K H a (ts.map V.ref):=aD.of h.l
section
variable{X:Cx}{K:PySem.W.Frag}
theorem mO(h:X.K=K):gX X (r_ K):=h▸bR
theorem lA(h:X.K=K):gX X (r9 K):=h▸cD
end
section
variable{K:PySem.W.Frag}{ta:TA}{tl:TE}{g:TG}{tb:TS}{D:Ends}{σ:St}{H:Hp}
theorem rl(a:Addr)(xs:List V)(Pv:Nat->St->Hp->Prop)(ia:∀Q:VK,Q (.ref a) H->tl σ H Q)(dw:aD K H a xs)(h0:Pv 0 σ H)(hl:∀i σ H,i<=xs.length->Pv i σ H->aD K H a xs)
  (hs:∀i x σ H (N:St->Hp->Prop),(∀σ H,Pv (i+1) σ H->N σ H)->xs[i]? = some x->Pv i σ H->g x σ H λau H2=>tb { D with nx:=N,ct:=N,bk:=D.nx } au H2) (hd:∀σ H,Pv xs.length σ H->D.nx σ H):f9 (mh K tl) g tb D σ H :=
 Oc a xs ia dw Pv h0 hl (λi x σ H hx p=>hs i x σ H _ (λ_ _ z=>z) hx p) hd
theorem sM(n:Nat)(Pv:Nat->St->Hp->Prop)(dX:∀Q:List V->Hp->Prop,Q [.int (n:Int)] H->ta σ H Q)(hn:n<1000000000)(h0:Pv 0 σ H)
  (hs:∀i σ H (N:St->Hp->Prop),(∀σ H,Pv (i+1) σ H->N σ H)->i<n->Pv i σ H->g (.int (i:Int)) σ H λau H2=>tb { D with nx:=N,ct:=N,bk:=D.nx } au H2) (hd:∀σ H,Pv n σ H->D.nx σ H):f9 (ow ta) g tb D σ H :=
 Oa n dX hn Pv h0 (λi σ H hx p=>hs i σ H _ (λ_ _ z=>z) hx p) hd
theorem lB(lo hi:Int)(Pv:Nat->St->Hp->Prop)(dX:∀Q:List V->Hp->Prop,Q [.int lo,.int hi] H->ta σ H Q)(b1 : -1000000000000<lo)(b2:lo<1000000000000)(b3 : -1000000000000<hi)(b4:hi<1000000000000)(h0:Pv 0 σ H)
  (hs:∀i σ H (N:St->Hp->Prop),(∀σ H,Pv (i+1) σ H->N σ H)->i<(hi - lo).toNat->Pv i σ H->g (.int (lo+(i:Int))) σ H λau H2=>tb { D with nx:=N,ct:=N,bk:=D.nx } au H2) (hd:∀σ H,Pv (hi - lo).toNat σ H->D.nx σ H):f9 (oz ta) g tb D σ H :=
 Ob lo hi dX b1 b2 b3 b4 Pv h0 (λi σ H hx p=>hs i σ H _ (λ_ _ z=>z) hx p) hd
theorem Fc(n:Int)(Pv:Nat->St->Hp->Prop)(dX:∀Q:List V->Hp->Prop,Q [.int n] H->ta σ H Q)(Yz : -1000000000000<n)(hn:n<1000000000000)(h0:Pv 0 σ H)
  (hs:∀i σ H (N:St->Hp->Prop),(∀σ H,Pv (i+1) σ H->N σ H)->i<n.toNat->Pv i σ H->g (.int (i:Int)) σ H λau H2=>tb { D with nx:=N,ct:=N,bk:=D.nx } au H2) (hd:∀σ H,Pv n.toNat σ H->D.nx σ H):f9 (ow ta) g tb D σ H:=by
 refine dX _ ⟨n,rfl,by lia,by lia,?_⟩
 refine xN Pv h0 (λi σ H hi p=>?_) hd;have e2:(0:Int)+(i:Int)=i:=by lia
 rw[e2];exact hs i σ H _ (λ_ _ z=>z) hi p
theorem re(a:Addr)(xs:List V)(Pv:Nat->St->Hp->Prop)(dX:∀Q:List V->Hp->Prop,Q [.ref a] H->ta σ H Q)(dw:aD K H a xs)(h0:Pv 0 σ H)(hl:∀i σ H,i<=xs.length->Pv i σ H->aD K H a xs)
  (hs:∀i x σ H T (N:St->Hp->Prop),(∀σ H,Pv (i+1) σ H->N σ H)->xs[i]? = some x->Pv i σ H->H T=none->g (.ref T) σ (upd H T (.tup [.int i,x])) λau H2=>tb { D with nx:=N,ct:=N,bk:=D.nx } au H2) (hd:∀σ H,Pv xs.length σ H->D.nx σ H):f9 (yL K ta) g tb D σ H :=
 Od a xs dX dw Pv h0 hl (λi x σ H T hx p hT=>hs i x σ H T _ (λ_ _ z=>z) hx p hT) hd
noncomputable def sN(K:PySem.W.Frag)(a:Addr)(g:TG)(tb:TS)(D:Ends)(σ:St)(H:Hp):Prop:=(∃xs,aD K H a xs)/\∃W:Nat->Nat->St->Hp->Prop,(∃m,W 0 m σ H)/\∀i m σ H,W i m σ H->
 ((jM K a).stop i H/\D.nx σ H)\/((jM K a).go i H/\∃N:St->Hp->Prop,(∀aV H',N aV H'->∃m',m' < m/\W (i+1) m' aV H')/\∀x H',(jM K a).iF i H x H'->g x σ H' λau H2=>tb { D with nx:=N,ct:=N,bk:=D.nx } au H2)
theorem Oi(h:tl σ H λx H1=>∃a,x = .ref a/\sN K a g tb D σ H1):f9 (mh K tl) g tb D σ H:=h
theorem sN.by(a:Addr)(xs:List V)(Pv:Nat->St->Hp->Prop)(dw:aD K H a xs)(h0:Pv 0 σ H)(hl:∀i σ H,i<=xs.length->Pv i σ H->aD K H a xs)
  (hs:∀i x σ H (N:St->Hp->Prop),(∀σ H,Pv (i+1) σ H->N σ H)->xs[i]? = some x->Pv i σ H->g x σ H λau H2=>tb { D with nx:=N,ct:=N,bk:=D.nx } au H2) (hd:∀σ H,Pv xs.length σ H->D.nx σ H):sN K a g tb D σ H :=
 ⟨⟨xs,dw⟩,DS Pv h0 hl (λi x σ H hx p=>hs i x σ H _ (λ_ _ z=>z) hx p) hd⟩
variable{tt:TT}{te:TE}{nt:Nat}{fv:List Nat}{Q:VK}
theorem Fd(lo hi:Int)(Pv:Addr->Nat->List V->St->Hp->Prop)(dX:∀Q:List V->Hp->Prop,Q [.int lo,.int hi] H->ta σ H Q)(b1 : -1000000000000<lo)(b2:lo<1000000000000)(b3 : -1000000000000<hi)(b4:hi<1000000000000)
  (h0:∀D,H D=none->Pv D 0 [] (h_ σ nt fv) (upd H D (.lst []))) (hD:∀D i ys σ H,Pv D i ys σ H->H D=some (.lst ys)/\ys.length<sizeLine)
  (hs:∀D i ys au H2 (N:List V->St->Hp->Prop),(∀ys σ H,Pv D (i+1) ys σ H->N ys σ H)->i<(hi - lo).toNat->Pv D i ys au H2->g (.int (lo+(i:Int))) au H2 λbS H4=>tt bS H4 λb H5=>if b=true then te bS H5 λv H6=>H6 D=some (.lst ys)/\N (ys++[v]) bS (upd H6 D (.lst (ys++[v]))) else N ys bS H5)
  (hd:∀D ys au H2,Pv D (hi - lo).toNat ys au H2->Q (.ref D) H2):jU (oz ta) g tt te nt fv σ H Q :=
 Oe lo hi dX b1 b2 b3 b4 Pv h0 hD (λD i ys au H2 hi p=>hs D i ys au H2 _ (λ_ _ _ z=>NX.of hi z) hi p) hd
theorem pq(a:Addr)(xs:List V)(Pv:Addr->Nat->List V->St->Hp->Prop)(ia:∀Q:VK,Q (.ref a) H->tl σ H Q)(dw:aD K H a xs)
  (h0:∀D,H D=none->Pv D 0 [] (h_ σ nt fv) (upd H D (.lst []))) (hD:∀D i ys σ H,Pv D i ys σ H->H D=some (.lst ys)/\ys.length<sizeLine/\aD K H a xs)
  (hs:∀D i x ys au H2 (N:List V->St->Hp->Prop),(∀ys σ H,Pv D (i+1) ys σ H->N ys σ H)->xs[i]? = some x->Pv D i ys au H2->g x au H2 λbS H4=>tt bS H4 λb H5=>if b=true then te bS H5 λv H6=>H6 D=some (.lst ys)/\N (ys++[v]) bS (upd H6 D (.lst (ys++[v]))) else N ys bS H5)
  (hd:∀D ys au H2,Pv D xs.length ys au H2->Q (.ref D) H2):jU (mh K tl) g tt te nt fv σ H Q :=
 Of a xs ia dw Pv h0 hD (λD i x ys au H2 hx p=>hs D i x ys au H2 _ (λ_ _ _ z=>NX.of (List.getElem?_eq_some_iff.mp hx).1 z) hx p) hd
end
theorem jW{K:PySem.W.Frag}{H:Hp}{σ:St}{t:Addr}{x y:V}{n i j:Nat}{Q:St->Hp->Prop}(h:aJ K H t [x,y])(hn:2=n)(q:Q ((σ.set i (some x)).set j (some y)) H):DP K n (xH (kO i) (xH (kO j) DO)) (.ref t) σ H Q :=
 ⟨t,[x,y],rfl,h,hn,x,[y],rfl,y,[],rfl,rfl,q⟩
theorem lenZ{ts:List Addr}{z:List (Int×Int)}(h:ts.length=z.length):(ts.map V.ref).length=z.length:=by simpa using h
theorem Zn.snoc{H:Hp}{l p:Addr}{ts:List Addr}{z:List (Int×Int)}(h:Zn H l ts z)(hp:H p=none)(a b:Int):Zn (upd (upd H p (.tup [.int a,.int b])) l (.lst (ts.map V.ref++[V.ref p]))) l (ts++[p]) (z++[(a,b)]):=by
 have gG:l≠p:=cQ h.l hp;refine⟨by rw[aq,List.map_append];rfl,by simp[h.n],λi t q e1 e2=>?_⟩
 have hn:=h.n;by_cases hi:i<ts.length
 ·rw[List.getElem?_append_left hi] at e1;rw[List.getElem?_append_left (by lia)] at e2
  have ht:=h.t i t q e1 e2;rw[aG (iB ht h.l (by intro z;cases z)),aG (cQ ht hp)]
  exact ht
 ·rw[List.getElem?_append_right (by lia)] at e1
  rw[List.getElem?_append_right (by lia)] at e2
  have jt:i - ts.length=0:=by
   have:=yQ e1;simp at this;lia
  rw[jt] at e1;rw[← hn,jt] at e2;simp at e1 e2;subst e1 e2;rw[aG gG.symm,aq]
noncomputable def Oj(t:TS):TS:=λD σ H=>∃M:St->Hp->Prop,t { D with nx:=M } σ H/\∀gR H1,M gR H1->D.nx gR H1
theorem fU{X:Cx}{st:Stmt}{t:TS}(h:PS X st t):PS X st (Oj t):=by
 rintro pins s σ H D I ⟨M,hM,k⟩;refine aQ (h pins s σ H _ I hM) λf s1 q=>?_;cases f with
 | next=>obtain⟨gR,H1,I1,q⟩:=q;exact⟨gR,H1,I1,k _ _ q⟩
 | brk=>exact q
 | cont=>exact q
 | ret u=>exact q
noncomputable def Ol(K:PySem.W.Frag):Sp:=λvs H Q _=>∃(a:Addr) (ts:List Addr) (z:List (Int×Int)),vs = [.ref a]/\Zn H a ts z/\lu z/\∀H',ah H H'->Q .aH H'
noncomputable def Om(K:PySem.W.Frag):Sp:=λvs H Q _=>∃(a:Addr) (ts:List Addr) (z:List (Int×Int)) (bg cL:Int),vs = [.ref a,.int bg,.int cL]/\Zn H a ts z/\lu z/\1<=bg/\bg<=1000000000/\0<=cL/\cL<bg/\
 (∀p∈z,bg % p.2=0)/\Q .aH H
noncomputable def Oo(K:PySem.W.Frag):Sp:=λvs H Q _=>∃(a:Addr) (sw:List Int) (n:Int),vs = [.ref a,.int n]/\aD K H a (sw.map V.int)/\SwOk sw n/\n<=1000/\Q .aH H
noncomputable def Oq(K:PySem.W.Frag):Sp:=λvs H Q _=>∃(a:Addr) (sw:List Int) (n:Int),vs = [.ref a]/\aD K H a (sw.map V.int)/\SwOk sw n/\n<=1000/\Q .aH H
noncomputable def Fe(K:PySem.W.Frag):Sp:=λvs H Q _=>∃(a:Addr) (ts:List Addr) (z:List (Int×Int)),vs = [.ref a]/\Zn H a ts z/\lu z/\
 ∀l H',ah H H'->H l=none->H' l=some (.lst ((counts z).map V.int))->Q (.ref l) H'
noncomputable def Ot(K:PySem.W.Frag):Sp:=λvs H Q _=>∃(a:Addr) (rc:List Int) (s:Int),vs = [.ref a,.int s]/\aD K H a (rc.map V.int)/\rc.length<=1000/\(∀c∈rc,0<=c/\c<=1000)/\0<=s/\s<=1000/\
 ∀l ts H',ah H H'->H l=none->(∀t∈ts,H t=none)->Zn H' l ts (lz rc s)->Q (.ref l) H'
noncomputable def Ou(K:PySem.W.Frag):Sp:=λvs H Q _=>∃(a:Addr) (ts:List Addr) (z:List (Int×Int)),vs = [.ref a]/\Zn H a ts z/\z.length<=1000000/\
 ∀d H',ah H H'->H d=none->H' d=some (.dT (yO z))->Q (.ref d) H'
structure Pl where
 rc:List Int
 bg:Int
 cL:Int
 sw:List Int
 nc:List (Int×Int)
structure CP(K:PySem.W.Frag)(C:Addr):Prop where
 cl:fS K C
 n1:bW K C "ring_cells"
 n2:bW K C "lap"
 n3:bW K C "skew"
 n4:bW K C "swing"
 n5:bW K C "number_cells"
 n6:bW K C "cell_numbers"
noncomputable def pA(a1:Addr)(bg cL:Int)(a2 a3 a4:Addr):List (Str×V):=[("ring_cells",.ref a1),("lap",.int bg),("skew",.int cL),("swing",.ref a2),("number_cells",.ref a3),("cell_numbers",.ref a4)]
structure jX(K:PySem.W.Frag)(C:Addr)(H:Hp)(p:Addr)(P:Pl)(dx a1 a2 a3 a4:Addr)(ts:List Addr)(fs:List (Str×V)):Prop where
 cp:CP K C
 o:H p=some (.ins C dx fs)
 f1:fs.lookup ("ring_cells" : Str)=some (.ref a1)
 f2:fs.lookup ("lap" : Str)=some (.int P.bg)
 f3:fs.lookup ("skew" : Str)=some (.int P.cL)
 f4:fs.lookup ("swing" : Str)=some (.ref a2)
 f5:fs.lookup ("number_cells" : Str)=some (.ref a3)
 f6:fs.lookup ("cell_numbers" : Str)=some (.ref a4)
 m1:fs.lookup ("rings" : Str)=none
 m2:fs.lookup ("total" : Str)=none
 m3:fs.lookup ("cells_of" : Str)=none
 m4:fs.lookup ("beats_of" : Str)=none
 m5:fs.lookup ("lap_beats" : Str)=none
 m6:fs.lookup ("begins" : Str)=none
 m7:fs.lookup ("swing_of" : Str)=none
 m8:fs.lookup ("has_cell" : Str)=none
 m9:fs.lookup ("cell_at" : Str)=none
 Ff:fs.lookup ("number_of" : Str)=none
 Fg:fs.lookup ("laid" : Str)=none
 rc:H a1=some (.lst (P.rc.map V.int))
 sw:H a2=some (.lst (P.sw.map V.int))
 nc:Zn H a3 ts P.nc
 cn:H a4=some (.dT (yO P.nc))
theorem jX.lit{K:PySem.W.Frag}{C:Addr}{H:Hp}{p:Addr}{P:Pl}{dx a1 a2 a3 a4:Addr}{ts:List Addr}(cp:CP K C)(o:H p=some (.ins C dx (pA a1 P.bg P.cL a2 a3 a4)))(rc:H a1=some (.lst (P.rc.map V.int)))(sw:H a2=some (.lst (P.sw.map V.int)))
  (nc:Zn H a3 ts P.nc) (cn:H a4=some (.dT (yO P.nc))):jX K C H p P dx a1 a2 a3 a4 ts (pA a1 P.bg P.cL a2 a3 a4):=by
 refine⟨cp,o,?_,?_,?_,?_,?_,?_,?_,?_,?_,?_,?_,?_,?_,?_,?_,?_,?_,rc,sw,nc,cn⟩ <;> simp[pA,List.lookup_cons,mL]
noncomputable def eU(K:PySem.W.Frag)(C:Addr)(H:Hp)(p:Addr)(P:Pl)(fp:List Addr):Prop:=∃dx a1 a2 a3 a4 ts fs,fp=a1::a2::a3::a4::ts/\jX K C H p P dx a1 a2 a3 a4 ts fs
theorem Zn.keep{H H':Hp}{a:Addr}{ts:List Addr}{z:List (Int×Int)}(h:Zn H a ts z)(ha:H' a=H a)(ht:∀t∈ts,H' t=H t):Zn H' a ts z :=
 ⟨ha.trans h.l,h.n,λi t p e1 e2=>(ht t (List.mem_of_getElem? e1)).trans (h.t i t p e1 e2)⟩
theorem Zn.has{H:Hp}{a:Addr}{ts:List Addr}{z:List (Int×Int)}(h:Zn H a ts z){t:Addr}(ht:t∈ts):∃o,H t=some o:=by
 obtain⟨i,hi,rfl⟩:=List.mem_iff_getElem.mp ht;have hz:i<z.length:=by rw[← h.n];exact hi
 exact⟨_,h.t i _ _ (List.getElem?_eq_getElem hi) (List.getElem?_eq_getElem hz)⟩
section
variable{K:PySem.W.Frag}{C:Addr}{H H':Hp}{p x:Addr}{P:Pl}{fp:List Addr}
theorem jX.move{dx a1 a2 a3 a4:Addr}{ts:List Addr}{fs:List (Str×V)}(h:jX K C H p P dx a1 a2 a3 a4 ts fs)(ho:H' p=H p)(h1:H' a1=H a1)(h2:H' a2=H a2)(h3:H' a3=H a3)(h4:H' a4=H a4)(ht:∀t∈ts,H' t=H t):jX K C H' p P dx a1 a2 a3 a4 ts fs :=
 { h with o:=ho.trans h.o,rc:=h1.trans h.rc,sw:=h2.trans h.sw,nc:=h.nc.keep h3 ht,cn:=h4.trans h.cn }
theorem eU.keep(h:eU K C H p P fp)(hp:H' p=H p)(e:∀b∈fp,H' b=H b):eU K C H' p P fp:=by
 obtain⟨dx,a1,a2,a3,a4,ts,fs,rfl,h⟩:=h;exact⟨dx,a1,a2,a3,a4,ts,fs,rfl,h.move hp (e a1 (by simp)) (e a2 (by simp)) (e a3 (by simp)) (e a4 (by simp)) λt ht=>e t (by simp[ht])⟩
theorem eU.has(h:eU K C H p P fp){b:Addr}(hb:b∈fp):∃o,H b=some o:=by
 obtain⟨lC,a1,a2,a3,a4,ts,fs,rfl,h⟩:=h;simp only[List.mem_cons] at hb;rcases hb with rfl | rfl | rfl | rfl | hb
 ·exact⟨_,h.rc⟩
 ·exact⟨_,h.sw⟩
 ·exact⟨_,h.nc.l⟩
 ·exact⟨_,h.cn⟩
 ·exact h.nc.has hb
theorem eU.here(h:eU K C H p P fp):∃o,H p=some o:=by
 obtain⟨lC,a1,a2,a3,a4,ts,fs,rfl,h⟩:=h;exact⟨_,h.o⟩
theorem eU.same(h:eU K C H p P fp)(s:ah H H'):eU K C H' p P fp:=by
 refine h.keep ?_ λb hb=>?_
 ·obtain⟨o,e⟩:=h.here;rw[e];exact s _ _ e
 ·obtain⟨o,e⟩:=h.has hb;rw[e];exact s _ _ e
noncomputable def SameBut(x:Addr)(H H':Hp):Prop:=∀b o,H b=some o->b≠x->H' b=some o
theorem SameBut.put{o:HO}(s:SameBut x H H'):SameBut x H (upd H' x o):=λb u e h=>by rw[aG h];exact s b u e h
theorem SameBut.step{H1 H2:Hp}(s:SameBut x H H1)(t:ah H1 H2):SameBut x H H2:=λb u e h=>t _ _ (s b u e h)
theorem SameBut.of(s:ah H H'):SameBut x H H':=λb u e _=>s _ _ e
end
theorem Ov(ns:List Int)(lo hi:Option Int):∃ms:List Int,dF (ns.map V.int) lo hi=ms.map V.int/\ms.length<=ns.length:=by
 refine⟨(ns.drop (_H.aW (ns.map V.int).length 0 lo)).take (_H.aW (ns.map V.int).length (ns.map V.int).length hi - _H.aW (ns.map V.int).length 0 lo),?_,?_⟩
 ·unfold dF;rw[List.map_take,List.map_drop]
 ·rw[List.length_take,List.length_drop];lia
noncomputable def Ow(K:PySem.W.Frag):Sp:=λvs H Q _=>∃(C p dx za sa:Addr) (iN:List Addr) (z:List (Int×Int)) (bg cL:Int) (sw:List Int),vs = [.ref p,.ref za,.int bg,.int cL,.ref sa]/\CP K C/\H p=some (.ins C dx [])/\Zn H za iN z/\lu z/\
 1<=bg/\bg<=1000000000/\0<=cL/\cL<bg/\(∀p∈z,bg % p.2=0)/\aD K H sa (sw.map V.int)/\SwOk sw (z.map (·.1)).sum/\
 ∀H' dx a1 a2 a3 a4 ts,SameBut p H H'->(∀b∈a1::a2::a3::a4::ts,H b=none)->H' p=some (.ins C dx (pA a1 bg cL a2 a3 a4))->jX K C H' p ⟨counts z,bg,cL,sw,lz (counts z) 0⟩ dx a1 a2 a3 a4 ts (pA a1 bg cL a2 a3 a4)->Q .aH H'
noncomputable def Ox(K:PySem.W.Frag):Sp:=λvs H Q _=>∃(C p:Addr) (P:Pl) (fp:List Addr),vs = [.ref p]/\eU K C H p P fp/\Q (.int P.rc.length) H
inductive Dt where
 | aH | bl (b:Bool) | int (i:Int) | str (s:Str) | tup (xs:List Dt) | lst (xs:List Dt)
inductive Rep (H:Hp):Nat->V->Dt->Prop where
 | aH {n:Nat}:Rep H n .aH .aH
 | bl {n:Nat} (b:Bool):Rep H n (.bl b) (.bl b)
 | int {n:Nat} (i:Int):Rep H n (.int i) (.int i)
 | str {n:Nat} (s:Str):Rep H n (.str s) (.str s)
 | tup {n:Nat} {a:Addr} {xs:List V} {ds:List Dt} (h:H a=some (.tup xs)) (l:xs.length=ds.length) (hl:ds.length<=1000000) (r:∀(i:Nat) (x:V) (d:Dt),xs[i]? = some x->ds[i]? = some d->Rep H n x d):Rep H (n+1) (.ref a) (.tup ds)
 | lst {n:Nat} {a:Addr} {xs:List V} {ds:List Dt} (h:H a=some (.lst xs)) (l:xs.length=ds.length) (hl:ds.length<=1000000) (r:∀(i:Nat) (x:V) (d:Dt),xs[i]? = some x->ds[i]? = some d->Rep H n x d):Rep H (n+1) (.ref a) (.lst ds)
theorem Rep.same{H H':Hp}(s:ah H H'){n:Nat}{v:V}{d:Dt}(h:Rep H n v d):Rep H' n v d:=by
 induction h with
 | aH=>exact .aH
 | bl b=>exact .bl b
 | int i=>exact .int i
 | str x=>exact .str x
 | tup h l hl _ ih=>exact .tup (s _ _ h) l hl ih
 | lst h l hl _ ih=>exact .lst (s _ _ h) l hl ih
noncomputable def Fi:Nat->Sp
 | 0=>λ_ _ _ _=>False
 | n+1=>λvs H Q _=>∃(v1 v2:V) (d:Dt),vs = [v1,v2]/\Rep H n v1 d/\Rep H n v2 d/\∀H',ah H H'->Q (.bl true) H'
noncomputable def Oz(K:PySem.W.Frag):Sp:=Fi 5
noncomputable def lD(a b:Int):List (Int×Int) :=
 if mix b 9 % 8=0 then [(2+mix a 9 % 2,1+mix b 8 % 60)]
 else(2+mix a 2 % 2,1+mix b 0 % 8)::(List.range ((if mix a 1 % 9=0 then 5 else 1+mix a 0 % 3) - 1).toNat).map λ(k:Nat)=>(1+mix a (2+(1+(k:Int))) % 3,1+mix b (1+(k:Int)) % 8)
noncomputable def c7(z:List (Int×Int)):Int:=z.foldl (λp x=>p*x.2) 1
noncomputable def lE(z:List (Int×Int))(c:Int):Int:=c7 z*(1+mix c 1 % (if mix c 0 % 9=0 then 1000000000 / c7 z else 900))
noncomputable def cM(c s0:Int):Nat->Int
 | 0=>s0
 | i+1=>cM c s0 i - mix c (2+(i:Int)+2) % (cM c s0 i+1) / 2
noncomputable def dN(c s0:Int):Nat->Int
 | 0=>0
 | i+1=>dN c s0 i+cM c s0 i
theorem lF(c:Int){s0:Int}(h:1<=s0):∀i,1<=cM c s0 i/\cM c s0 i<=s0
 | 0=>⟨h,Int.le_refl _⟩
 | i+1=>by
  have ih:=lF c h i;have h1:=Int.emod_nonneg (mix c (2+(i:Int)+2)) (show cM c s0 i+1≠0 by lia)
  have h2:=Int.emod_lt_of_pos (mix c (2+(i:Int)+2)) (show 0<cM c s0 i+1 by lia)
  rw[cM];generalize mix c (2+(i:Int)+2) % (cM c s0 i+1)=m at h1 h2 ⊢;lia
theorem OA(c:Int){s0:Int}(h:1<=s0)(i:Nat):cM c s0 (i+1)<=cM c s0 i:=by
 have ih:=lF c h i;have h1:=Int.emod_nonneg (mix c (2+(i:Int)+2)) (show cM c s0 i+1≠0 by lia)
 rw[cM];generalize mix c (2+(i:Int)+2) % (cM c s0 i+1)=m at h1 ⊢;lia
theorem OB(c:Int){s0:Int}(h:1<=s0)(i:Nat):∀j,cM c s0 (i+j)<=cM c s0 j
 | 0=>by
  rw[Nat.add_zero];exact(lF c h i).2
 | j+1=>by
  have:∀k,cM c s0 (j+1+k)<=cM c s0 (j+1):=by
   intro k
   induction k with
   | zero=>exact Int.le_refl _
   | succ k ih=>exact Int.le_trans (OA c h (j+1+k)) ih
  rw[Nat.add_comm i (j+1)];exact this i
theorem Fj(c:Int){s0:Int}(h:1<=s0)(a:Nat):∀b,dN c s0 (a+b)<=dN c s0 a+dN c s0 b
 | 0=>by simp[dN]
 | b+1=>by
  have ih:=Fj c h a b;have:=OB c h a b;rw[← Nat.add_assoc,dN,dN];lia
theorem Fo(c:Int){s0:Int}(h:1<=s0):∀i:Nat,(i:Int)<=dN c s0 i/\dN c s0 i<=s0*(i:Int)
 | 0=>by simp[dN]
 | i+1=>by
  have ih:=Fo c h i;have h2:=lF c h i;have e:s0*((i+1:Nat):Int)=s0*(i:Int)+s0:=by
   rw[show ((i+1:Nat):Int)=(i:Int)+1 by lia,Int.mul_add,Int.mul_one]
  rw[dN,e];lia
theorem range_getD{f:Nat->Int}{n i:Nat}(h:i<n):((List.range n).map f).getD i 0=f i:=by
 simp[List.getD_eq_getElem?_getD,h]
theorem Fp(c:Int){s0:Int}(h:1<=s0)(h7:s0<=10000000){n:Nat}(h2:2<=n)(YA:n<=100):SwOk ((List.range n).map (dN c s0)) (n:Int):=by
 refine⟨by simp,by lia,by rw[range_getD (by lia)];rfl,λi h1 hi=>?_,λi h1 hi=>?_,λa b ha hb pB=>?_⟩
 ·rw[List.length_map,List.length_range] at hi;rw[range_getD hi];have:=Fo c h i;have e:s0*(i:Int)<=10000000*(i:Int):=Int.mul_le_mul_of_nonneg_right h7 (by lia)
  lia
 ·rw[List.length_map,List.length_range] at hi;rw[range_getD hi,range_getD (by lia)]
  obtain⟨j,rfl⟩:∃j,i=j+1:=⟨i - 1,by lia⟩
  have:=lF c h j;rw[dN];show dN c s0 j<=_;lia
 ·rw[List.length_map,List.length_range] at pB;rw[range_getD pB,range_getD (by lia),range_getD (by lia)]
  exact Fj c h a b
theorem OC{L:Int}(h:1<=L)(h8:L<=100000000){ns:List Int}(hb:∀x∈ns,L<=x/\x<=2*L)(hp:ns.Pairwise (·<=·))(h1:1<=ns.length):SwOk (0::ns) ((ns.length+1:Nat):Int):=by
 have at_:∀i:Nat,1<=i->i<(0::ns).length->∃hi:i - 1<ns.length,(0::ns).getD i 0=ns[i - 1]:=λi h1 hi=>by
  obtain⟨j,rfl⟩:∃j,i=j+1:=⟨i - 1,by lia⟩
  have hj:j<ns.length:=by simpa using hi
  exact⟨hj,by simp[List.getD_eq_getElem?_getD,List.getElem?_eq_getElem hj]⟩
 refine⟨by simp,by lia,rfl,λi h1 hi=>?_,λi h1 hi=>?_,λa b ha OD pB=>?_⟩
 ·obtain⟨hj,e⟩:=at_ i h1 hi;have:=hb _ (List.getElem_mem hj);rw[e];lia
 ·obtain⟨hj,e⟩:=at_ i h1 hi;rw[e];by_cases h2:i=1
  ·subst h2;have:=hb _ (List.getElem_mem hj)
   show (0:Int)<=_;lia
  ·obtain⟨sO,e2⟩:=at_ (i - 1) (by lia) (by lia)
   rw[e2];exact List.pairwise_iff_getElem.mp hp _ _ sO hj (by lia)
 ·obtain⟨h1,e1⟩:=at_ (a+b) (by lia) pB
  obtain⟨h2,e2⟩:=at_ a ha (by lia)
  obtain⟨h3,e3⟩:=at_ b OD (by lia)
  have:=hb _ (List.getElem_mem h1);have:=hb _ (List.getElem_mem h2);have:=hb _ (List.getElem_mem h3);rw[e1,e2,e3];lia
structure ZL(z:List (Int×Int)):Prop where
 ok:lu z
 pr:c7 z<=32768
 sm:(z.map (·.1)).sum<=15
theorem prodF(z:List (Int×Int)):∀p:Int,z.foldl (λp x=>p*x.2) p=p*c7 z:=by
 induction z with
 | nil=>intro p;simp[c7]
 | cons x z ih =>
  intro p;rw[c7,List.foldl_cons,List.foldl_cons,ih,ih (1*x.2),Int.one_mul,Int.mul_assoc]
theorem yR(x:Int×Int)(z:List (Int×Int)):c7 (x::z)=x.2*c7 z:=by
 rw[c7,List.foldl_cons,prodF,Int.one_mul]
theorem OE(x:Int×Int)(z:List (Int×Int)):c7 (z++[x])=c7 z*x.2:=by
 rw[c7,List.foldl_append];rfl
theorem sP{m:Int}(hm:1<=m):∀z:List (Int×Int),(∀p∈z,1<=p.2/\p.2<=m)->1<=c7 z/\c7 z<=m ^ z.length
 | [],_=>by simp[c7]
 | x::z,h=>by
  have ih:=sP hm z λp hp=>h p (List.mem_cons_of_mem _ hp);have hx:=h x List.mem_cons_self;rw[yR,List.length_cons,Int.pow_succ,Int.mul_comm (m ^ z.length)];constructor
  ·have:=Int.mul_le_mul hx.1 ih.1 (by decide) (by lia)
   lia
  ·exact Int.mul_le_mul hx.2 ih.2 (by lia) (by lia)
theorem Fq{x:Int×Int}:∀ {z:List (Int×Int)},x∈z->x.2 ∣ c7 z
 | y::z,h=>by
  rw[yR];rcases List.mem_cons.mp h with rfl | h
  ·exact Int.dvd_mul_right _ _
  ·exact Int.dvd_trans (Fq h) (Int.dvd_mul_left _ _)
theorem Ft{m:Int}(hm:1<=m){a b:Nat}(h:a<=b):m ^ a<=m ^ b:=by
 induction h with
 | refl=>exact Int.le_refl _
 | @step b h ih =>
  rw[Int.pow_succ];have h1:1<=m ^ b:=by
   clear ih h
   induction b with
   | zero=>simp
   | succ b ih =>
    rw[Int.pow_succ];have:=Int.mul_le_mul ih hm (by decide) (by lia)
    lia
  have:=Int.mul_le_mul (Int.le_refl (m ^ b)) hm (by decide) (by lia)
  lia
theorem Fv{f:Nat->Int}{lo hi:Int}(h:∀k,lo<=f k/\f k<=hi):∀n:Nat,lo*n<=((List.range n).map f).sum/\((List.range n).map f).sum<=hi*n
 | 0=>by simp
 | n+1=>by
  have ih:=Fv h n;have:=h n;rw[List.range_succ,List.map_append,List.sum_append];simp only[List.map_cons,List.map_nil,List.sum_cons,List.sum_nil];have e1:lo*((n+1:Nat):Int)=lo*n+lo:=by rw[show ((n+1:Nat):Int)=(n:Int)+1 by lia,Int.mul_add,Int.mul_one]
  have e2:hi*((n+1:Nat):Int)=hi*n+hi:=by rw[show ((n+1:Nat):Int)=(n:Int)+1 by lia,Int.mul_add,Int.mul_one]
  rw[e1,e2];lia
theorem OF(a b:Int):ZL (lD a b):=by
 unfold lD;by_cases h:mix b 9 % 8=0
 ·rw[if_pos h];have h1:0<=mix a 9 % 2/\mix a 9 % 2<2:=⟨Int.emod_nonneg _ (by decide),Int.emod_lt_of_pos _ (by decide)⟩
  have h2:0<=mix b 8 % 60/\mix b 8 % 60<60:=⟨Int.emod_nonneg _ (by decide),Int.emod_lt_of_pos _ (by decide)⟩
  refine⟨⟨by simp,by simp,?_,?_,?_⟩,?_,?_⟩
  ·intro p hp;rw[List.mem_singleton.mp hp];dsimp only;lia
  ·simp;lia
  ·simp;lia
  ·rw[yR];simp[c7];lia
  ·simp;lia
 ·rw[if_neg h];generalize hm:(if mix a 1 % 9=0 then(5:Int) else 1+mix a 0 % 3)=m
  have mQ:1<=m/\m<=5:=by
   have h1:0<=mix a 0 % 3/\mix a 0 % 3<3:=⟨Int.emod_nonneg _ (by decide),Int.emod_lt_of_pos _ (by decide)⟩
   rw[← hm];split <;> lia
  have h1:0<=mix a 2 % 2/\mix a 2 % 2<2:=⟨Int.emod_nonneg _ (by decide),Int.emod_lt_of_pos _ (by decide)⟩
  have h2:0<=mix b 0 % 8/\mix b 0 % 8<8:=⟨Int.emod_nonneg _ (by decide),Int.emod_lt_of_pos _ (by decide)⟩
  have h3:∀k:Nat,0<=mix a (2+(1+(k:Int))) % 3/\mix a (2+(1+(k:Int))) % 3<3:=λk=>⟨Int.emod_nonneg _ (by decide),Int.emod_lt_of_pos _ (by decide)⟩
  have h4:∀k:Nat,0<=mix b (1+(k:Int)) % 8/\mix b (1+(k:Int)) % 8<8:=λk=>⟨Int.emod_nonneg _ (by decide),Int.emod_lt_of_pos _ (by decide)⟩
  have sy:∀p∈((2+mix a 2 % 2,1+mix b 0 % 8)::(List.range (m - 1).toNat).map λ(k:Nat)=>(1+mix a (2+(1+(k:Int))) % 3,1+mix b (1+(k:Int)) % 8)),1<=p.1/\p.1<=3/\1<=p.2/\p.2<=8:=by
   intro p hp;rcases List.mem_cons.mp hp with rfl | hp
   ·dsimp only;lia
   ·obtain⟨k,_,rfl⟩:=List.mem_map.mp hp;have:=h3 k;have:=h4 k;dsimp only;lia
  have hlen:((2+mix a 2 % 2,1+mix b 0 % 8)::(List.range (m - 1).toNat).map λ(k:Nat)=>(1+mix a (2+(1+(k:Int))) % 3,1+mix b (1+(k:Int)) % 8)).length=m.toNat:=by
   simp;lia
  have YB:=Fv (f:=λ(k:Nat)=>1+mix a (2+(1+(k:Int))) % 3) (lo:=1) (hi:=3) (λk=>by have:=h3 k;lia) (m - 1).toNat
  have hs:(((2+mix a 2 % 2,1+mix b 0 % 8)::(List.range (m - 1).toNat).map λ(k:Nat)=>(1+mix a (2+(1+(k:Int))) % 3,1+mix b (1+(k:Int)) % 8)).map (·.1)).sum=2+mix a 2 % 2+((List.range (m - 1).toNat).map λ(k:Nat)=>1+mix a (2+(1+(k:Int))) % 3).sum:=by
   rw[List.map_cons,List.sum_cons,List.map_map];rfl
  refine⟨⟨by rw[hlen];lia,by rw[hlen];lia,λp hp=>?_,?_,?_⟩,?_,?_⟩
  ·have:=sy p hp;lia
  ·rw[hs];lia
  ·rw[hs];lia
  ·have hb:=(sP (m:=8) (by decide) _ λp hp=>(sy p hp).2.2).2
   rw[hlen] at hb;have:=Ft (m:=8) (by decide) (show m.toNat<=5 by lia)
   have e:(8:Int) ^ 5=32768:=by decide
   lia
  ·rw[hs];lia
theorem OG{z:List (Int×Int)}(h:ZL z)(c:Int):1<=lE z c/\lE z c<=1000000000/\∀p∈z,lE z c % p.2=0:=by
 have hb:=sP (m:=60) (by decide) z λp hp=>(h.ok.r p hp).2.2
 have hp:=h.pr;refine⟨?_,?_,λp hp=>Int.emod_eq_zero_of_dvd (Int.dvd_trans (Fq hp) (Int.dvd_mul_right _ _))⟩
 all_goals
  unfold lE;generalize hm:(if mix c 0 % 9=0 then 1000000000 / c7 z else 900)=m
  have mQ:1<=m/\c7 z*m<=1000000000:=by
   rw[← hm];split
   ·constructor
    ·exact(Int.le_ediv_iff_mul_le (by lia)).mpr (by lia)
    ·exact Int.mul_ediv_self_le (by lia)
   ·exact⟨by decide,by lia⟩
  have h1:=Int.emod_nonneg (mix c 1) (show m≠0 by lia)
  have h2:=Int.emod_lt_of_pos (mix c 1) (show 0<m by lia)
  generalize mix c 1 % m=x at h1 h2
  first
  | (have:=Int.mul_le_mul hb.1 (show 1<=1+x by lia) (by decide) (by lia);lia)
  | (have:=Int.mul_le_mul (Int.le_refl (c7 z)) (show 1+x<=m by lia) (by lia) (by lia);lia)
noncomputable def OH(K:PySem.W.Frag):Sp:=λvs H Q _=>∃(a b:Int),vs = [.int a,.int b]/\∀l ts H',ah H H'->H l=none->(∀t∈ts,H t=none)->Zn H' l ts (lD a b)->Q (.ref l) H'
noncomputable def OI(K:PySem.W.Frag):Sp:=Fe K
noncomputable def OJ(K:PySem.W.Frag):Sp:=λvs H Q _=>∃(a:Addr) (ts:List Addr) (z:List (Int×Int)) (c:Int),vs = [.ref a,.int c]/\Zn H a ts z/\lu z/\Q (.int (lE z c)) H
noncomputable def OL(K:PySem.W.Frag):Sp:=λvs H Q _=>∃(m c:Int),vs = [.int m,.int c]/\2<=m/\m<=60/\∀l sw H',ah H H'->H l=none->H' l=some (.lst (sw.map V.int))->SwOk sw m->Q (.ref l) H'
noncomputable def sQ(K:PySem.W.Frag):Sp:=λvs H Q _=>∃(a:Addr) (ns:List Int),vs = [.ref a]/\aD K H a (ns.map V.int)/\ns.length<=63/\∀H',Q (.bl true) H'
theorem ite_no{c A B:Prop}[Decidable c](h:¬ c)(b:B):if c then A else B:=by rw[if_neg h];exact b
theorem ite_yes{c A B:Prop}[Decidable c](h:c)(a:A):if c then A else B:=by rw[if_pos h];exact a
theorem Fw{K:PySem.W.Frag}{x y:V}{H:Hp}{Q:VK}(h:r9 K x y H Q):yh K x y H Q:=.inl h
theorem Fx{K:PySem.W.Frag}{x y:V}{H:Hp}{Q:VK}(h:r_ K x y H Q):yh K x y H Q:=.inr (.inl h)
theorem OM{n:Nat}(h:0<n):gW n (-1)=some (n - 1):=by
 unfold gW;rw[if_neg (by decide),if_pos (by lia)]
 congr 1;lia
noncomputable def gj(H:Hp)(n:Nat):List V->List Dt->Prop
 | [],[]=>True
 | v::vs,d::ds=>Rep H n v d/\gj H n vs ds
 | _,_=>False
theorem gj.len{H:Hp}{n:Nat}:∀ {vs:List V} {ds:List Dt},gj H n vs ds->vs.length=ds.length
 | [],[],_=>rfl
 | _::_,_::_,h=>by rw[List.length_cons,List.length_cons,gj.len h.2]
theorem gj.at{H:Hp}{n:Nat}:∀ {vs:List V} {ds:List Dt} {i:Nat} {x:V} {d:Dt},gj H n vs ds->vs[i]? = some x->ds[i]? = some d->Rep H n x d
 | _::_,_::_,0,_,_,h,e1,e2=>by simp at e1 e2;subst e1 e2;exact h.1
 | _::_,_::_,i+1,_,_,h,e1,e2=>gj.at (i:=i) h.2 (by simpa using e1) (by simpa using e2)
theorem Rep.ON{H:Hp}{n:Nat}{a:Addr}{xs:List V}{ds:List Dt}(h:H a=some (.tup xs))(r:gj H n xs ds)(hl:ds.length<=1000000:=by simp):Rep H (n+1) (.ref a) (.tup ds):=.tup h r.len hl λ_ _ _ e1 e2=>r.at e1 e2
theorem Rep.jY{H:Hp}{n:Nat}{a:Addr}{xs:List V}{ds:List Dt}(h:H a=some (.lst xs))(r:gj H n xs ds)(hl:ds.length<=1000000:=by simp):Rep H (n+1) (.ref a) (.lst ds):=.lst h r.len hl λ_ _ _ e1 e2=>r.at e1 e2
section
variable{X:Cx}{CX:eS}{k:Nat}{f C:Addr}{fd:FuncData}{ps:List Str}{sp:Sp}{bq:List V}{ds:List Value}{E:XK}{x m:Str}{p pos apos:Pos}{e:Expr}{es:List Expr}{t:TA}
end
section
variable{X:Cx}
end
section
variable{X:Cx}{pins:List (Addr×Obj)}{σ:St}{H:Hp}{s:Shared}
end
section
variable{X:Cx}
end
section
variable{K:PySem.W.Frag}{ta:TA}{g:TG}{D:Ends}{σ:St}{H:Hp}{tt:TT}{te:TE}{nt:Nat}{fv:List Nat}{Q:VK}
end
noncomputable def OO(cs:List Addr)(m:Str)(sp:Sp)(bq:List V)(E:XK)(ta:TE)(t:TA):TE:=λσ H Q=>ta σ H λx H1=>∃C a dx fs,x = .ref a/\H1 a=some (.ins C dx fs)/\C∈cs/\fs.lookup m=none/\t σ H1 λvs H2=>sp (x::(vs++bq)) H2 Q E
section
variable{X:Cx}{CX:eS}{k:Nat}{f:Addr}{cs:List Addr}{fd:FuncData}{ps:List Str}{sp:Sp}{bq:List V}{ds:List Value}{E:XK}{m:Str}{pos apos:Pos}{o e:Expr}{es:List Expr}{ta:TE}{t:TA}
end
section
variable{K:PySem.W.Frag}{C:Addr}{H H':Hp}{p:Addr}{P:Pl}{fp:List Addr}{mv:Addr}{ms:List V}
end
noncomputable def f2(o:Obj):Option Value:=match o.data with
 | .fields vs=>vs[2]?
 | _=>none
noncomputable def Dk(h h':Heap):Prop:=∀(b:Nat) (o:Obj),h.objs[b]? = some o->∃o':Obj,h'.objs[b]? = some o'/\o'.dict=o.dict/\f2 o' = f2 o
theorem Dk.refl(h:Heap):Dk h h:=λ_ o e=>⟨o,e,rfl,rfl⟩
theorem Dk.push{h h':Heap}(k:Dk h h')(o:Obj):Dk h (h'.push o):=λb ob e=>by
 obtain⟨o',e',d⟩:=k b ob e;refine⟨o',?_,d⟩
 show (h'.objs.push o)[b]? = some o';rw[Array.getElem?_push];have:b<h'.objs.size:=(Array.getElem?_eq_some_iff.mp e').1;rw[if_neg (by lia)];exact e'
theorem Dk.upd{h h':Heap}(k:Dk h h'){a:Addr}{f:Obj->Obj}(hf:∀o,(f o).dict=o.dict/\f2 (f o)=f2 o):Dk h (h'.update a f):=λb ob e=>by
 obtain⟨o',e',d⟩:=k b ob e;by_cases hb:a=b
 ·subst hb;exact⟨f o',by show (h'.objs.modify a f)[a]? = _;rw[Array.getElem?_modify,if_pos rfl,e'];rfl,(hf o').1.trans d.1,(hf o').2.trans d.2⟩
 ·exact⟨o',by show (h'.objs.modify a f)[b]? = _;rw[Array.getElem?_modify,if_neg hb];exact e',d⟩
theorem Fy{h:Heap}{a:Addr}{o:Obj}(e:h.get? a=some o):h.objs[a]? = some o:=by
 unfold Heap.get? at e;split at e
 ·cases e
 ·exact e
theorem Dk.at{h h':Heap}(k:Dk h h'){a:Addr}{o o':Obj}(e:h.get? a=some o)(e':h'.get? a=some o'):o'.dict=o.dict/\f2 o' = f2 o:=by
 obtain⟨o2,q,d⟩:=k a o (Fy e);have:=Fy e';rw[q] at this;cases this;exact d
noncomputable def KD{α:Type}:Sem α->Prop
 | .pure _=>True
 | .raise _=>True
 | .unsupported _=>True
 | .finish _=>True
 | .rule _ k=>KD (k ())
 | .at _ k=>KD (k ())
 | .load _ _ k=>∀o,KD (k o)
 | .update _ _ f k=>(∀o,(f o).dict=o.dict/\f2 (f o)=f2 o)/\KD (k ())
 | .alloc _ k=>∀a,KD (k a)
 | .loadIfAlive _ k=>∀o,KD (k o)
 | .point _ k=>KD (k ())
 | .register _ _=>True
 | .fresh k=>∀t,KD (k t)
 | .ask k=>∀x,KD (k x)
 | .choose _ _ k=>∀n,KD (k n)
 | .os _ _ k=>∀r,KD (k r)
 | .call .. => False
 | .handled _ k=>∀x,KD (k x)
 | .newGen _ k=>∀n,KD (k n)
 | .genState _ k=>∀x,KD (k x)
 | .resume .. => False
 | .yield .. => True
 | .stack k=>∀x,KD (k x)
 | .fork .. => True
 | .thread k=>∀n,KD (k n)
 | .await .. => True
theorem KD.wp{α:Type}{M:Model}{Γ:PySem.Ctx}{Q:α->Pos->Shared->Prop}{E:Value->Pos->Shared->Prop}{h0:Heap}(t:Sem α):KD t->∀p (s:Shared),Dk h0 s.heap->Sem.wp M Γ t Q E p s->
  Sem.wp M Γ t (λa p s'=>Q a p s'/\Dk h0 s'.heap) (λe p s'=>E e p s'/\Dk h0 s'.heap) p s:=by
 induction t with
 | pure a=>exact λ_ p s d h=>by rw[Sem.wp] at h ⊢;exact⟨h,d⟩
 | raise e=>exact λ_ p s d h=>by rw[Sem.wp] at h ⊢;exact⟨h,d⟩
 | unsupported _=>exact λ_ p s d h=>by rw[Sem.wp] at h;exact h.elim
 | finish _=>exact λ_ p s d h=>by rw[Sem.wp] at h;exact h.elim
 | rule _ k ih=>exact λq p s d h=>by rw[Sem.wp] at h ⊢;exact ih () q p s d h
 | «at» _ k ih=>exact λq p s d h=>by rw[Sem.wp] at h ⊢;exact ih () q _ s d h
 | load a _ k ih=>exact λq p s d h=>by rw[Sem.wp] at h ⊢;obtain⟨o,e,h⟩:=h;exact⟨o,e,ih o (q o) p s d h⟩
 | update a _ f k ih=>exact λq p s d h=>by rw[Sem.wp] at h ⊢;exact⟨h.1,ih () q.2 p _ (d.upd q.1) h.2⟩
 | alloc o k ih=>exact λq p s d h=>by rw[Sem.wp] at h ⊢;exact ih _ (q _) p _ (d.push o) h
 | loadIfAlive a k ih=>exact λq p s d h=>by rw[Sem.wp] at h ⊢;exact ih _ (q _) p s d h
 | point _ k ih=>exact λq p s d h=>by rw[Sem.wp] at h ⊢;exact ih () q p s d h
 | register _ k ih=>exact λq p s d h=>by rw[Sem.wp] at h;exact h.elim
 | fresh k ih=>exact λq p s d h=>by rw[Sem.wp] at h ⊢;exact ih _ (q _) p _ d h
 | ask k ih=>exact λq p s d h=>by rw[Sem.wp] at h ⊢;exact ih _ (q _) p _ d h
 | choose src n k ih=>exact λq p s d h=>by rw[Sem.wp] at h ⊢;exact⟨h.1,ih _ (q _) p _ d h.2⟩
 | os r _ k ih=>exact λq p s d h=>by rw[Sem.wp] at h ⊢;exact ih _ (q _) p _ d h
 | call c hd g l k ih=>exact λq p s d h=>False.elim q
 | handled own k ih=>exact λq p s d h=>by rw[Sem.wp] at h ⊢;exact ih _ (q _) p _ d h
 | newGen c k ih=>exact λq p s d h=>by rw[Sem.wp] at h ⊢;exact ih _ (q _) p _ d h
 | genState g k ih=>exact λq p s d h=>by rw[Sem.wp] at h ⊢;obtain⟨o,e,h⟩:=h;exact⟨o,e,ih _ (q _) p s d h⟩
 | resume g r l k ih=>exact λq p s d h=>False.elim q
 | yield v g l k ih=>exact λq p s d h=>by rw[Sem.wp] at h;exact h.elim
 | stack k ih=>exact λq p s d h=>by rw[Sem.wp] at h ⊢;exact ih _ (q _) p _ d h
 | fork c k ih=>exact λq p s d h=>by rw[Sem.wp] at h;exact h.elim
 | thread k ih=>exact λq p s d h=>by rw[Sem.wp] at h ⊢;exact ih _ (q _) p _ d h
 | await a t d l k ih=>exact λq p s d h=>by rw[Sem.wp] at h;exact h.elim
theorem KD.any{α:Type}{M:Model}{A:Around}{t:Sem α}{Q:α->Shared->Prop}{E:Value->Shared->Prop}{s:Shared}(k:KD t)(h:wpAny M A t Q E s):wpAny M A t (λa s'=>Q a s'/\Dk s.heap s'.heap) (λe s'=>E e s'/\Dk s.heap s'.heap) s :=
 λΓ p OP=>k.wp (h0:=s.heap) t p s (Dk.refl _) (h Γ p OP)
theorem KD.bind{α β:Type}{f:α->Sem β}(hf:∀a,KD (f a)):∀(m:Sem α),KD m->KD (m >>= f):=by
 intro m
 show KD m->KD (Sem.bind m f)
 induction m with
 | pure a=>exact λ_=>hf a
 | raise e=>exact λ_=>trivial
 | unsupported _=>exact λ_=>trivial
 | finish _=>exact λ_=>trivial
 | rule _ k ih=>exact λq=>ih () q
 | «at» _ k ih=>exact λq=>ih () q
 | load a _ k ih=>exact λq o=>ih o (q o)
 | update a _ f k ih=>exact λq=>⟨q.1,ih () q.2⟩
 | alloc o k ih=>exact λq a=>ih a (q a)
 | loadIfAlive a k ih=>exact λq o=>ih o (q o)
 | point _ k ih=>exact λq=>ih () q
 | register _ k ih=>exact λq=>trivial
 | fresh k ih=>exact λq a=>ih a (q a)
 | ask k ih=>exact λq a=>ih a (q a)
 | choose src n k ih=>exact λq a=>ih a (q a)
 | os r _ k ih=>exact λq a=>ih a (q a)
 | call c hd g l k ih=>exact λq=>q
 | handled own k ih=>exact λq a=>ih a (q a)
 | newGen c k ih=>exact λq a=>ih a (q a)
 | genState g k ih=>exact λq a=>ih a (q a)
 | resume g r l k ih=>exact λq=>q
 | yield v g l k ih=>exact λq=>trivial
 | stack k ih=>exact λq a=>ih a (q a)
 | fork c k ih=>exact λq=>trivial
 | thread k ih=>exact λq a=>ih a (q a)
 | await a t d l k ih=>exact λq=>trivial
theorem KD.ite{α:Type}{c:Prop}[Decidable c]{a b:Sem α}(ha:KD a)(hb:KD b):KD (if c then a else b):=by split <;> assumption
theorem yS{i:Nat}(hi:i≠2)(v:Value)(o:Obj):(Obj.mapFields (·.setIfInBounds i v) o).dict=o.dict/\f2 (Obj.mapFields (·.setIfInBounds i v) o)=f2 o:=by
 obtain⟨c,d,dt,sl⟩:=o;cases dt <;> first | exact⟨rfl,rfl⟩ | (refine⟨rfl,?_⟩;show (Array.setIfInBounds _ i v)[2]? = _;rw[Array.getElem?_setIfInBounds_ne hi];rfl)
theorem KD.then{α β:Type}{m:Sem α}{f:α->Sem β}(hm:KD m)(hf:∀a,KD (f a)):KD (m >>= f):=KD.bind hf m hm
theorem sR(v:Value)(i:Nat):KD (field v i):=by
 unfold field fieldsOf load;repeat' first | exact trivial | exact λ_=>trivial | assumption | exact⟨yS (by assumption) _,trivial⟩ | exact⟨λ_=>⟨rfl,rfl⟩,trivial⟩ | refine KD.ite ?_ ?_ | refine KD.then ?_ λ_=>?_ | split
theorem yT(v:Value){i:Nat}(hi:i≠2)(x:Value):KD (setField v i x):=by
 unfold setField updateField load update;repeat' first | exact trivial | exact λ_=>trivial | assumption | exact⟨yS (by assumption) _,trivial⟩ | exact⟨λ_=>⟨rfl,rfl⟩,trivial⟩ | refine KD.ite ?_ ?_ | refine KD.then ?_ λ_=>?_ | split
theorem pC(e:Value)(f:Option Addr):KD (setFlight e f):=by
 have h1:=sR e 1;unfold setFlight;refine KD.then h1 λtb=>KD.ite ?_ ?_
 ·exact yT _ (by decide) _
 ·trivial
theorem Fz:∀l,KD (readyFrames l)
 | []=>trivial
 | env::outer=>by
  have ih:=Fz outer;have hf:=λv i=>sR v i;unfold readyFrames;split
  ·refine KD.then (λ_=>trivial) λo=>?_
   refine KD.ite trivial ?_;refine KD.then ?_ λi=>KD.then ?_ λb=>?_
   ·unfold behindIsImport;refine KD.ite trivial (KD.ite trivial ?_);exact KD.then (hf _ _) λ_=>(trivial:KD (.pure _))
   ·unfold keptBack underTheClaimsCaller stack;split
    ·refine KD.ite trivial ?_;refine KD.then ?_ λ_=>(trivial:KD (.pure _));exact λ_=>trivial
    ·trivial
   ·refine KD.then (m:=update _ _) ⟨λ_=>⟨rfl,rfl⟩,trivial⟩ λ_=>?_
    exact ih
  ·trivial
theorem OQ(env:Env):KD (PySem.frameOf env):=by
 unfold PySem.frameOf;refine KD.then ?_ λl=>?_
 ·unfold frameEnvs stack;exact λ_=>trivial
 ·refine KD.then ?_ λa=>?_
  ·unfold frameObject;split
   ·trivial
   ·refine KD.then (Fz _) λ_=>?_
    trivial
  ·split <;> trivial
theorem OR(ty:String)(vs:List Value):KD (newFields ty vs):=by
 unfold newFields newObj newObjAsIs alloc;repeat' first | exact trivial | exact λ_=>trivial | assumption | exact⟨yS (by assumption) _,trivial⟩ | exact⟨λ_=>⟨rfl,rfl⟩,trivial⟩ | refine KD.ite ?_ ?_ | refine KD.then ?_ λ_=>?_ | split
theorem OS(f:Addr)(b:Bool):KD (entryPlaceOf f b):=by
 unfold entryPlaceOf;refine KD.then (m:=stack) (λ_=>trivial) λl=>?_
 split <;> trivial
theorem sS(e:Value)(env:Env):KD (noteFrame e env):=by
 have last:∀head f,KD (do setField e 1 (← EntryCells.newEntry head (← PySem.frameOf env) .none (rawInt f) .none (← entryPlaceOf f (head != .none)))):=λhead f =>
  KD.then (OQ _) λa=>KD.then (OS _ _) λp=>KD.then (OR _ _) λx=>yT _ (by decide) _
 unfold noteFrame;split
 ·refine KD.then (sR _ _) λhead=>?_
  refine KD.ite ?_ ?_
  ·refine KD.then (sR _ _) λx=>?_
   refine KD.ite trivial ?_;refine KD.then (yT _ (by decide) _) λ_=>?_
   exact last _ _
  ·exact last _ _
 ·trivial
theorem yU(env:Env)(e:Value):KD (leaving env e):=KD.then (sS _ _) λ_=>pC _ _
noncomputable def cy(h:Heap)(a:Addr)(od:Option Addr):Prop:=∃oe,h.get? a=some oe/\oe.dict=od.map (· / 2)/\∀k,od=some k->k % 2=0->f2 oe=some .none
theorem cy.dk{h h':Heap}{a:Addr}{od:Option Addr}(x:cy h a od)(k:Dk h h')(th:∃o,h'.get? a=some o):cy h' a od :=
 let ⟨_,e,d,c⟩:=x;let ⟨o',e'⟩:=th;⟨o',e',(k.at e e').1.trans d,λj z y=>(k.at e e').2.trans (c j z y)⟩
section
variable{M:Model}{A:Around}{E:Value->Shared->Prop}{s:Shared}{base:Heap}{env:Env}{l outer:List Env}{L e:Addr}{cls a0:Value}{od:Option Addr}{Q:Unit->Shared->Prop}
theorem OT(eV:A.frames=some (env::outer))(hf:env.frame=some L)(ju:Heap.FlyingW base (env::outer) e cls a0 s.heap)(hd:cy s.heap e od)
  (hQ:∀h',Heap.FlyingW base outer e cls a0 h'->s.heap.UpToSlots h'->cy h' e od->Q () { s with heap:=h' }):wpAny M A (leaving env (.ref e)) Q E s:=by
 refine wpAny_mono ((yU env (.ref e)).any (wpAny_leaves_onW (E:=E) (Q:=λ_ s2=>∃h',Heap.FlyingW base outer e cls a0 h'/\s.heap.UpToSlots h'/\s2 = { s with heap:=h' }) eV hf ju λh' x1 x2=>⟨h',x1,x2,rfl⟩)) (λu s2 z=>?_) λ_ _ z=>z.1;obtain⟨⟨h',x1,x2,rfl⟩,k⟩:=z;obtain⟨o,q,_⟩:=x1.there;exact hQ h' x1 x2 (hd.dk k ⟨o,q⟩)
theorem yV(eV:A.frames=some (env::outer))(hf:env.frame=some L)(ju:Heap.FlyingW base (env::outer) e cls a0 s.heap)(hd:cy s.heap e od)
  (hQ:∀h',Heap.HeldW base (env::outer) e cls a0 L h'->s.heap.UpToSlots h'->cy h' e od->Q () { s with heap:=h' }):wpAny M A (noteFrame (.ref e) env) Q E s:=by
 refine wpAny_mono ((sS (.ref e) env).any (wpAny_looks_onW (E:=E) (Q:=λ_ s2=>∃h',Heap.HeldW base (env::outer) e cls a0 L h'/\s.heap.UpToSlots h'/\s2 = { s with heap:=h' }) eV hf ju λh' x1 x2=>⟨h',x1,x2,rfl⟩)) (λu s2 z=>?_) λ_ _ z=>z.1;obtain⟨⟨h',x1,x2,rfl⟩,k⟩:=z;obtain⟨o,q,_⟩:=x1.there;exact hQ h' x1 x2 (hd.dk k ⟨o,q⟩)
theorem FA(hh:Heap.HeldW base l e cls a0 L s.heap)(hd:cy s.heap e od)
  (hQ:∀h',Heap.FlyingW base l e cls a0 h'->s.heap.UpToSlots h'->cy h' e od->Q () { s with heap:=h' }):wpAny M A (setFlight (.ref e) none) Q E s:=by
 refine wpAny_mono ((pC (.ref e) none).any (wpAny_landsW (E:=E) (Q:=λ_ s2=>∃h',Heap.FlyingW base l e cls a0 h'/\s.heap.UpToSlots h'/\s2 = { s with heap:=h' }) hh λh' x1 x2=>⟨h',x1,x2,rfl⟩)) (λu s2 z=>?_) λ_ _ z=>z.1;obtain⟨⟨h',x1,x2,rfl⟩,k⟩:=z;obtain⟨o,q,_⟩:=x1.there;exact hQ h' x1 x2 (hd.dk k ⟨o,q⟩)
theorem FD(hh:Heap.FlyingW base l e cls a0 s.heap)(hd:cy s.heap e od)
  (hQ:∀h',Heap.FlyingW base l e cls a0 h'->s.heap.UpToSlots h'->cy h' e od->Q () { s with heap:=h' }):wpAny M A (setFlight (.ref e) none) Q E s:=by
 refine wpAny_mono ((pC (.ref e) none).any (lands_againW (E:=E) (Q:=λ_ s2=>∃h',Heap.FlyingW base l e cls a0 h'/\s.heap.UpToSlots h'/\s2 = { s with heap:=h' }) hh λh' x1 x2=>⟨h',x1,x2,rfl⟩)) (λu s2 z=>?_) λ_ _ z=>z.1;obtain⟨⟨h',x1,x2,rfl⟩,k⟩:=z;obtain⟨o,q,_⟩:=x1.there;exact hQ h' x1 x2 (hd.dk k ⟨o,q⟩)
theorem OU{oe:Obj}{vs:Array Value}(eV:A.frames=some (env::outer))(hf:env.frame=some L)(jZ:base.StaysIn s.heap)(hl:s.heap.FunFrames base (env::outer))(he:s.heap.get? e=some oe)(jv:base.get? e=none)
  (ie:oe.data = .fields vs) (h1:vs[1]? = some .none) (h0:vs[0]? = some a0) (hd:cy s.heap e od)
  (hQ:∀h',Heap.FlyingW base outer e oe.cls a0 h'->s.heap.UpToSlots h'->cy h' e od->Q () { s with heap:=h' }):wpAny M A (leaving env (.ref e)) Q E s:=by
 refine wpAny_mono ((yU env (.ref e)).any (wpAny_leaving_firstW (E:=E) (Q:=λ_ s2=>∃h',Heap.LeftW base (env::outer) e oe.cls a0 s.heap h'/\s2 = { s with heap:=h' }) eV hl hf he jZ jv ie h1 h0 λh' x=>⟨h',x,rfl⟩)) (λu s2 z=>?_) λ_ _ z=>z.1;obtain⟨⟨h',⟨k1,⟨_,_,k2⟩,k3,k4⟩,rfl⟩,k⟩:=z;have fl:Heap.FlyingW base outer e oe.cls a0 h':=⟨k1,jv,k2,k3⟩;obtain⟨o,q,_⟩:=fl.there;exact hQ h' fl k4 (hd.dk k ⟨o,q⟩)
end
theorem bM.there{P:Program}{w:World}{H:Hp}{h:Heap}{a:Addr}{o:HO}(x:bM P w H h)(e:H a=some o):∃u,h.get? a=some u:=by
 have x:=x a o e;cases o with
 | lst xs=>obtain⟨_,_,_,_,e⟩:=x;exact⟨_,e⟩
 | tup xs=>obtain⟨_,_,_,ob,e,_⟩:=x;exact⟨_,e⟩
 | dK aE=>obtain⟨_,_,_,_,o,_,_,e,_⟩:=x;exact⟨_,e⟩
 | dT aE=>obtain⟨_,_,_,_,o,_,_,e,_⟩:=x;exact⟨_,e⟩
 | set S n=>obtain⟨o,_,_,_,e,_⟩:=x;exact⟨_,e⟩
 | ins C dx fs=>obtain⟨_,_,_,e,_⟩:=x;exact⟨_,e⟩
 | own y=>obtain⟨_,e⟩:=x;exact⟨_,e⟩
 | xd fs=>obtain⟨_,⟨_,_,_,e,_⟩,_⟩:=x;exact⟨_,e⟩
 | rD lo hi=>obtain⟨_,_,_,e⟩:=x;exact⟨_,e⟩
 | eF ob u=>obtain⟨e,_⟩:=x;exact⟨_,e⟩
 | jH ps=>exact⟨_,(show h.get? a=some _ from x)⟩
 | met f y=>exact⟨_,(show h.get? a=some _ from x)⟩
 | ext φ=>obtain⟨_,⟨_,e⟩,_⟩:=x;exact⟨_,e⟩
structure Cut(base B:Heap)(outer:List Env)(H H':Hp)(h:Heap):Prop where
 stays:base.StaysIn B
 k1:∀b o,h.get? b=some o->H b=none->b∉aY outer->B.get? b=some o
 k2:∀b u,H' b=some u->∃o,B.get? b=some o
 k3:∀b o,h.get? b=some o->b∉aY outer->∃o',B.get? b=some o'
noncomputable def dZ(P:Program)(w:World)(base:Heap):eS:=λouter H s E e s' =>
 ∃a C a0 H' B od,e = .ref a/\s'.os=s.os/\AllBare s'.gens/\Un (aY outer) [] H H' s.heap s'.heap/\bM P w H' s'.heap/\H' a=none/\s.heap.get? a=none/\
  Cut base B outer H H' s.heap/\Heap.FlyingW B outer a (.ref C) a0 s'.heap/\cy s'.heap a od/\E (.ref C) od H'
section
variable{P:Program}{w:World}{K:PySem.W.Frag}{mg:Str->Option Value}{base B:Heap}{N:List Str}{qual:Str}{scope:Scope}{f:Addr}{cd:Value}{A:Around}{outer:List Env}{aI sc s':Shared}{cz Hc H':Hp}{E:XK}
 {pins:List (Addr×Obj)} {σ:St} {a C:Addr} {a0:Value} {h':Heap} {od:Option Addr}
theorem yW:aY (envOfC qual scope aI.heap.objs.size f cd::outer)=aI.heap.objs.size::aY outer:=rfl
theorem OV(I:Inv (fH (dZ P w base) P w K mg base N qual scope f cd A outer aI cz E) pins σ Hc sc)(u:Un (aY (envOfC qual scope aI.heap.objs.size f cd::outer)) [] Hc H' sc.heap s'.heap)(ho:s'.os=sc.os)(hg:AllBare s'.gens)(aC:bM P w H' s'.heap)
  (na:H' a=none) (nh:sc.heap.get? a=none) (c:Cut base B (envOfC qual scope aI.heap.objs.size f cd::outer) Hc H' sc.heap) (kB:B.StaysIn s'.heap) (bZ:Heap.FlyingW B outer a (.ref C) a0 h') (up:s'.heap.UpToSlots h') (hd:cy h' a od) (hE:E (.ref C) od H') :
  dZ P w base outer cz aI E (.ref a) { s' with heap:=h' }:=by
 have J:=I.kL ho u aC hg (λ_ z=>nomatch z);have bs:Un (aY outer) [] cz Hc aI.heap sc.heap:=I.base;have gk:Un (aY outer) [] cz H' aI.heap s'.heap:=J.base;have nl:∀b o,aI.heap.get? b=some o->b∉aY outer->b∉aY (envOfC qual scope aI.heap.objs.size f cd::outer):=λb o q n z=>by
  rw[yW] at z;rcases List.mem_cons.mp z with e | z
  ·exact absurd (Heap.lt_size q) (by rw[e];exact Nat.lt_irrefl _)
  ·exact n z
 have k1:∀b o,aI.heap.get? b=some o->cz b=none->b∉aY outer->B.get? b=some o:=λb o q n hb =>
  c.k1 b o (bs.keep b o q n hb (by simp)) (bs.free b o q n (by simp)) (nl b o q hb)
 have k3:∀b o,aI.heap.get? b=some o->b∉aY outer->∃o',B.get? b=some o':=λb o q hb =>
  let ⟨o1,q1⟩:=bs.there b o q (by simp);c.k3 b o1 q1 (nl b o q hb)
 have sl:∀b o,aI.heap.get? b=some o->cz b=none->b∈aY outer->∃sl,h'.get? b=some { o with slots:=sl }:=λb o q n hb=>by
  obtain⟨sl,q1⟩:=gk.slot b o q n hb (by simp)
  obtain⟨_,o2,q2,nf⟩:=I.ok.dB.mem hb;have q2:aI.heap.get? b=some o2:=q2;rw[q] at q2;cases q2;obtain⟨jR,q3⟩:=up b _ q1 nf;exact⟨jR,q3⟩
 refine⟨a,C,a0,H',B,od,rfl,J.os,hg,⟨λb o q n hb _=>bZ.1 _ _ (k1 b o q n hb),λb o q n hb _=>sl b o q n hb,gk.free,λb o q _=>?_,gk.d9,gk.dQ,gk.d_⟩,λb v e=>?_,na,?_,⟨c.stays,k1,c.k2,k3⟩,bZ,hd,hE⟩
 ·by_cases hb:b∈aY outer
  ·obtain⟨sl,q1⟩:=sl b o q (I.ok.e9 b hb) hb;exact⟨_,q1⟩
  ·obtain⟨o',q1⟩:=k3 b o q hb;exact⟨o',bZ.1 _ _ q1⟩
 ·refine(aC b v e).e8 (λd z hd q=>?_) (λ_ q=>q) λ_ _ q=>q;have tr:∃v',H' d=some v':=by
   rcases hd with rfl | hd
   ·exact⟨_,e⟩
   ·exact⟨_,hd⟩
  obtain⟨v',e'⟩:=tr;obtain⟨o,q1⟩:=c.k2 d v' e';have:=kB d o q1;rw[q] at this;cases this;exact bZ.1 _ _ q1
 ·cases q:aI.heap.get? a with
  | none=>rfl
  | some o =>
   obtain⟨o1,q1⟩:=bs.there a o q (by simp)
   rw[nh] at q1;cases q1
theorem yX:Passes (dZ P w base) (fH (dZ P w base) P w K mg base N qual scope f cd A outer aI cz E) E:=by
 intro pins σ H s e s' I hx;obtain⟨a,C,a0,H',B,od,rfl,ho,hg,u,aC,na,nh,c,bZ,hd,hE⟩:=hx
 show wpAny _ _ (leaving _ _) _ _ _;exact OT I.ok.frames rfl bZ hd λh' x1 x2 x3=>OV I u ho hg aC na nh c bZ.1 x1 x2 x3 hE
end
noncomputable def YC(C:Addr)(E:XK)(t:TA):TS:=λ_ σ H=>t σ H λvs H1=>vs.length<=sizeLine/\E (.ref C) none H1
section
variable{X:Cx}{E:XK}{x:Str}{C:Addr}{bm:List Value}{newId d7 B:String}{np bX pos:Pos}{eB:Expr}{rest:List Expr}{t:TA}
end
theorem pD{base B:Heap}{l:List Env}{H H':Hp}{h h1 h':Heap}(u:Un (aY l) [] H H' h h1)(c:Cut base B l H H' h)(kB:B.StaysIn h')(up:h1.UpToSlots h')(ff:∀b∈aY l,H b=none/\∀o,h.get? b=some o->∀vs,o.data≠.fields vs) :
  Un (aY l) [] H H' h h':=by
 have sl:∀b o,h.get? b=some o->H b=none->b∈aY l->∃sl,h'.get? b=some { o with slots:=sl }:=λb o q n hb=>by
  obtain⟨sl,q1⟩:=u.slot b o q n hb (by simp)
  obtain⟨jR,q3⟩:=up b _ q1 ((ff b hb).2 o q);exact⟨jR,q3⟩
 refine⟨λb o q n hb _=>kB _ _ (c.k1 b o q n hb),λb o q n hb _=>sl b o q n hb,u.free,λb o q _=>?_,u.d9,u.dQ,u.d_⟩;by_cases hb:b∈aY l
 ·obtain⟨sl,q1⟩:=sl b o q (ff b hb).1 hb;exact⟨_,q1⟩
 ·obtain⟨o',q1⟩:=c.k3 b o q hb;exact⟨o',kB _ _ q1⟩
theorem pF{P:Program}{w:World}{base B:Heap}{l:List Env}{H H':Hp}{h h1 h':Heap}(aC:bM P w H' h1)(c:Cut base B l H H' h)(k1:B.StaysIn h1)(kB:B.StaysIn h'):bM P w H' h':=λb v e=>by
 refine(aC b v e).e8 (λd z hd q=>?_) (λ_ q=>q) λ_ _ q=>q;have tr:∃v',H' d=some v':=by
  rcases hd with rfl | hd
  ·exact⟨_,e⟩
  ·exact⟨_,hd⟩
 obtain⟨v',e'⟩:=tr;obtain⟨o,q1⟩:=c.k2 d v' e';have:=k1 d o q1;rw[q] at this;cases this;exact kB _ _ q1
section
variable{X:Cx}{pins:List (Addr×Obj)}{σ:St}{H H':Hp}{s s':Shared}{a C:Addr}{h':Heap}{E:XK}
theorem Inv.ff(I:Inv X pins σ H s):∀b∈aY X.stack,H b=none/\∀o,s.heap.get? b=some o->∀vs,o.data≠.fields vs:=λb hb =>
 ⟨I.rF b hb,λo q=>by
  obtain⟨_,o2,q2,nf⟩:=I.stack.mem hb;rw[q] at q2;cases q2;exact nf⟩
noncomputable def Cx.within(X:Cx)(e:Value):Cx:={ X with A:=X.A.mark (some e),calm:=false,xe:=λ_ _=>False }
theorem Inv.within(I:Inv X pins σ H s)(e:Value):Inv (X.within e) pins σ H s :=
 ⟨⟨I.ok.mod,I.ok.kind,I.ok.glob,I.ok.blt,I.ok.above,I.ok.inj,I.ok.has,I.ok.kH,(λz=>nomatch z),I.ok.frames,I.ok.l9,I.ok.jI,I.ok.bs,I.ok.gu,I.ok.kI,I.ok.jJ,I.ok.dB,I.ok.e9⟩,
  I.os,I.bare,I.base,I.loc,I.cell,I.free,I.e_,I.pin,I.aC,I.len⟩
theorem Inv.out{e:Value}(I:Inv (X.within e) pins σ H s)(ok:X.Ok):Inv X pins σ H s :=
 ⟨ok,I.os,I.bare,I.base,I.loc,I.cell,I.free,I.e_,I.pin,I.aC,I.len⟩
noncomputable def yY(a C:Addr):HO:=.ext λh=>∃o,h.get? a=some o/\o.cls = .ref C
noncomputable def eW(a C:Addr):Option Addr->HO
 | none=>yY a C
 | some k=>.ext λh=>∃o,h.get? a=some o/\o.cls = .ref C/\o.dict=some (k / 2)/\∃vs,o.data = .fields vs/\(k % 2=0->vs[2]? = some .none)
theorem YD{a C:Addr}:eW a C none=yY a C:=rfl
theorem Inv.OW{φ:Heap->Prop}(I:Inv X pins σ H s)(n:H a=none)(e0:X.aI.heap.get? a=none)(nL:a≠X.env.locals)(nc:∀x c,X.env.cells.lookup x=some c->c≠a)(np:∀p∈X.pn++pins,p.1≠a)(h:φ s.heap)(th:∃o,s.heap.get? a=some o)
  (st:∀h1 h2:Heap,φ h1->(∀o,h1.get? a=some o->h2.get? a=some o)->φ h2):Inv X pins σ (upd H a (.ext φ)) s:=by
 have ne:∀b v,H b=some v->b≠a:=λb v q z=>by rw[z,n] at q;cases q
 have up:∀b v,H b=some v->upd H a (.ext φ) b=some v:=λb v q=>by rw[aG (ne b v q)];exact q
 have un:∀b,b≠a->H b=none->upd H a (.ext φ) b=none:=λb z q=>by rw[aG z];exact q
 refine⟨I.ok,I.os,I.bare,⟨I.base.keep,I.base.slot,λb o q n' hx=>un b (λz=>by rw[z,e0] at q;cases q) (I.base.free b o q n' hx),I.base.there,λb xs q=>up b _ (I.base.d9 b xs q),λb o u q=>up b _ (I.base.dQ b o u q),λb ps q=>let ⟨m,z⟩:=I.base.d_ b ps q;⟨m,up b _ z⟩⟩,
  I.loc,I.cell,un _ (Ne.symm nL) I.free,λx c q=>un c (nc x c q) (I.e_ x c q),λp hp=>let ⟨q1,q2,q3⟩:=I.pin p hp;⟨q1,un _ (np p hp) q2,q3⟩,λb v q=>?_,I.len⟩
 by_cases z:b=a
 ·subst z;rw[aq] at q;cases q;exact⟨h,th,st⟩
 ·rw[aG z] at q;exact(I.aC b v q).e8 (λ_ _ _ e=>e) (λd e=>up d _ e) λd xs e=>up d _ e
end
noncomputable def XP(P:Program)(w:World)(base:Heap)(X:Cx)(pins:List (Addr×Obj))(σ:St)(E:XK)(e:Value)(s':Shared):Prop:=∃H1 s1,Inv X pins σ H1 s1/\dZ P w base X.stack H1 s1 E e s'
noncomputable def j0(X:Cx)(E:XK)(e:Expr)(t:TE):Prop :=
 ∀(pins:List (Addr×Obj)) (s:Shared) (σ:St) (H:Hp) (Q:VK),Inv X pins σ H s->t σ H Q->wpAny (model X.prog X.w) X.A (eval e X.env) (EP X pins σ Q) (XP X.prog X.w X.base X pins σ E) s
section
variable{X:Cx}{k:Nat}{f C:Addr}{fd:FuncData}{ps:List Str}{sp:Sp}{bq:List V}{ds:List Value}{E:XK}{x m:Str}{p pos apos:Pos}{e o:Expr}{es:List Expr}{ta:TE}{t:TA}
theorem FE{pins:List (Addr×Obj)}{σ:St}{H:Hp}{s:Shared}{Q:VK}{us:List Value}{vs:List V}(F:a_ X.prog X.w X.K X.mg X.base (dZ X.prog X.w X.base) k f fd ps sp)(hr:bY k X.A)(hb:Binds X.K fd ps ds)(hd:Vals bq ds)
  (I:Inv X pins σ H s) (r:Vals vs us) (h:sp (vs++bq) H Q E):wpAny (model X.prog X.w) X.A (call (.ref f) us) (EP X pins σ Q) (XP X.prog X.w X.base X pins σ E) s:=by
 have r2:Vals (vs++bq) (us++ds):=r.append hd;refine wpAny_call (codeAny_mono (F.run X.A X.stack s H ⟨us,[]⟩ (us++ds) (vs++bq) Q E hr I.oJ (hb s us I.bN (r2.length.symm.trans (F.len _ _ _ _ h))) r2 h) λr s' hq=>?_)
 match r,hq with
 | .error e,hq=>exact⟨H,s,I,hq⟩
 | .ok (.ret u),hq=>exact I.after hq
 | .ok .next,hq=>exact False.elim hq
 | .ok .brk,hq=>exact False.elim hq
 | .ok .cont,hq=>exact False.elim hq
theorem FF(F:a_ X.prog X.w X.K X.mg X.base (dZ X.prog X.w X.base) k f fd ps sp)(hr:bY k X.A)(hg:Gl X x)(hm:X.mg x=some (.ref f))(hk:PySem.W.keepIn X.K (.ref f)=true)(hb:Binds X.K fd ps ds)(hd:Vals bq ds)
  (ha:PA X.iE (e::es) t) (dD:(x == ("__debug__" : Str))=false:=by decide) (he:starEach (e::es) X.env=(false,eval e X.env)::starEach es X.env:=by rfl) (dJ:(backTo pos (starEach es X.env)).any (·.1)=false:=by rfl) :
  j0 X E (.Call (.Name x p) (e::es) [] pos) (Ea sp bq E t):=by
 intro pins s σ H Q I h;refine wpAny_Call_Name_kw (i_ I hg hm ?_ dD);refine PySem.W.callWith_K (h₀:=X.base) I.ok.mod.i9 hk (wpAny_mono (ha pos pins s σ H _ (I.fQ _) h) (λus s1 ⟨vs,H1,I1,r,q⟩=>⟨I1.bN,?_⟩) λ_ _ z=>False.elim z) he dJ;exact FE F hr hb hd I1.gw r q
end
theorem aN.mR{P:Program}{w:World}{K:PySem.W.Frag}{mg:Str->Option Value}{base:Heap}{x qual:Str}{st:Stmt}{f:Addr}{fd:FuncData}{N ps:List Str}{k:Nat}{sp:Sp}(F:aN K x qual st f fd)(S:bB N ps (aU st))(len:∀vs H Q E,sp vs H Q E->vs.length=ps.length)
  (jg:∀(aM:Value) (A:Around) (outer:List Env) (s:Shared) (H:Hp) (vs:List V) (Q:VK) (E:XK),bY k (A.deeper (envOfC qual (aU st) s.heap.objs.size f aM))->sp vs H Q E->
   ∃t,eg (fH (dZ P w base) P w K mg base N qual (aU st) f aM A outer s H E) (cZ st) t/\t { nx:=λ_ H'=>Q .aH H',rt:=Q } (start N vs) H):a_ P w K mg base (dZ P w base) (k+1) f fd ps sp:=by
 obtain⟨oc,od,kV,doc,pm,an,aM,ct,eT,rfl,lk,cA⟩:=F.ex;exact xZ lk cA S len λA outer s H vs Q E hr fJ=>jg aM A outer s H vs Q E hr fJ
noncomputable def sU(X:Cx)(E:XK)(st:Stmt)(t:TS):Prop :=
 ∀(pins:List (Addr×Obj)) (s:Shared) (σ:St) (H:Hp) (D:Ends),Inv X pins σ H s->t D σ H->wpAny (model X.prog X.w) X.A (exec st X.env) (SP X pins D) (XP X.prog X.w X.base X pins σ E) s
section
variable{X:Cx}{E:XK}{e:Expr}{te:TE}{pos:Pos}
theorem OX(he:j0 X E e te):sU X E (.Return (some e) pos) (DN te):=by
 intro pins s σ H D I h;exact wpAny_Return_some (aQ (he pins s σ H _ I h) λv s1 ⟨x,H1,I1,r1,q1⟩=>⟨x,σ,H1,I1,r1,q1⟩)
end
structure Fl(X:Cx)(pins:List (Addr×Obj))(σ:St)(a C:Addr)(a0:Value)(H1:Hp)(s1:Shared)(H':Hp)(B:Heap)(od:Option Addr)(s':Shared):Prop where
 I:Inv X pins σ H1 s1
 ho:s'.os=s1.os
 hg:AllBare s'.gens
 u:Un (aY X.stack) [] H1 H' s1.heap s'.heap
 aC:bM X.prog X.w H' s'.heap
 na:H' a=none
 nh:s1.heap.get? a=none
 c:Cut X.base B X.stack H1 H' s1.heap
 bZ:Heap.FlyingW B X.stack a (.ref C) a0 s'.heap
 hd:cy s'.heap a od
section
variable{X:Cx}{pins:List (Addr×Obj)}{σ:St}{a C:Addr}{a0:Value}{H1 H':Hp}{s1 s':Shared}{B h':Heap}{od:Option Addr}
theorem Fl.move(x:Fl X pins σ a C a0 H1 s1 H' B od s')(bZ:Heap.FlyingW B X.stack a (.ref C) a0 h')(up:s'.heap.UpToSlots h')(hd:cy h' a od):Fl X pins σ a C a0 H1 s1 H' B od { s' with heap:=h' } :=
 ⟨x.I,x.ho,x.hg,pD x.u x.c bZ.1 up x.I.ff,pF x.aC x.c x.bZ.1 bZ.1,x.na,x.nh,x.c,bZ,hd⟩
theorem Fl.inv(x:Fl X pins σ a C a0 H1 s1 H' B od s'):Inv X pins σ H' s':=x.I.kL x.ho x.u x.aC x.hg (λ_ z=>nomatch z)
theorem Fl.tracked(x:Fl X pins σ a C a0 H1 s1 H' B od s')(hex:X.ex = []):Inv X pins σ (upd H' a (eW a C od)) s':=by
 have no:∀b o,s1.heap.get? b=some o->b≠a:=λb o q z=>by rw[z,x.nh] at q;cases q
 obtain⟨m,⟨oL,_,_,iD,_⟩,_⟩:=x.I.loc;have f1:X.aI.heap.get? a=none:=by
  cases q:X.aI.heap.get? a with
  | none=>rfl
  | some o =>
   obtain⟨o1,q1⟩:=x.I.base.there a o q (by rw[hex];simp)
   rw[x.nh] at q1;cases q1
 have f2:∀y c,X.env.cells.lookup y=some c->c≠a:=λy c e=>by
  obtain⟨v,o,q,_⟩:=x.I.cell y c e;exact no _ _ q
 have tr:=λφ=>x.inv.OW (φ:=φ) x.na f1 (Ne.symm (no _ _ iD)) f2 (λp hp=>no _ _ (x.I.pin p hp).1);have th:∃o,s'.heap.get? a=some o:=let ⟨o,q,_⟩:=x.bZ.there;⟨o,q⟩
 cases od with
 | none=>exact tr _ x.bZ.there th λh1 h2 ⟨o,q,z⟩ k=>⟨o,k o q,z⟩
 | some d =>
  refine tr _ ?_ th λh1 h2 ⟨o,q,z⟩ k=>⟨o,k o q,z⟩;obtain⟨o,vs,q,z,y,_⟩:=x.bZ.first;obtain⟨o',q',z',c'⟩:=x.hd;rw[q] at q';cases q';refine⟨o,q,z,z',vs,y,λhk=>?_⟩
  have:=c' _ rfl hk;unfold _L.f2 at this;rw[y] at this;exact this
end
section
variable{X:Cx}{pins:List (Addr×Obj)}{σ:St}{H:Hp}{s:Shared}
theorem sV{M:Model}{A:Around}{E:Value->Shared->Prop}{i:Nat}{n:Str}{pos:Pos}{Q:Unit->Shared->Prop}(I:Inv X pins σ H s)(hN:X.N.Nodup)(hi:X.N[i]? = some n)(hk:X.env.kindOf n=some .local)
  (h:∀s',Inv X pins (σ.set i none) H s'->Q () s'):wpAny M A (do bindName X.env n .none;unbindBehindTheSuite X.env n pos) Q E s:=by
 obtain⟨m,hn,hl⟩:=id I.loc;have kK:(X.env.scope.kind == .class || (X.env.scope.kind == .module && X.env.locals != X.env.globals))=false:=by rw[I.ok.kind];rfl
 have gQ:=I.gQ;refine wpAny_nameGoes_keeps hk hn kK λh' v fc hs=>?_;have old:∀b o,X.aI.heap.get? b=some o->h'.get? b=s.heap.get? b:=λb o e=>hs.2 b (Nat.ne_of_lt (Nat.lt_of_lt_of_le (Heap.lt_size e) I.ok.above));refine h _ ⟨I.ok,I.os,I.bare,⟨λb o e n hb hx=>?_,λb o e n hb hx=>?_,I.base.free,λb o e hx=>?_,I.base.d9,I.base.dQ,I.base.d_⟩,⟨_,fc,λj y v' e1 e2 e3=>?_⟩,λy c e=>?_,I.free,I.e_,λp hp=>?_,λb ob e=>?_,by simpa using I.len⟩
 ·exact(old b o e).trans (I.base.keep b o e n hb hx)
 ·obtain⟨sl,e1⟩:=I.base.slot b o e n hb hx;exact⟨sl,(old b o e).trans e1⟩
 ·obtain⟨o',e1⟩:=I.base.there b o e hx;exact⟨o',(old b o e).trans e1⟩
 ·by_cases hj:j=i
  ·subst hj;rw[List.getElem?_set] at e2;simp only[if_true] at e2;split at e2 <;> cases e2
  ·rw[List.getElem?_set_ne (Ne.symm hj)] at e2;obtain⟨u',r',q⟩:=hl j y v' e1 e2 e3;refine⟨u',r',?_⟩;rcases q with⟨k,e⟩ | ⟨k,c,e,z⟩
   ·refine .inl ⟨k,?_⟩;have:y≠n:=λe=>hj (xE hN e1 (e▸hi));simp[this,e]
   ·exact .inr ⟨k,c,e,z.sameBut hs (gQ y c e)⟩
 ·obtain⟨w',z⟩:=I.cell y c e;exact⟨w',z.sameBut hs (gQ y c e)⟩
 ·obtain⟨e,n,ne,nf,d⟩:=I.pin p hp;exact⟨(hs.2 p.1 ne).trans e,n,ne,nf,d⟩
 ·refine(I.aC b ob e).e8 (λc w' hc q=>(hs.2 c ?_).trans q) (λ_ q=>q) λ_ _ q=>q;rintro rfl;rcases hc with z | hc
  ·rw[← z,I.free] at e;cases e
  ·rw[I.free] at hc;cases hc
end
noncomputable def mroIn(K:PySem.W.Frag)(C:Addr):List Value:=match K.lookup C with
 | some ⟨_,_,.cls cd,_⟩=>cd.mro
 | _=>[]
noncomputable def subIn(K:PySem.W.Frag)(C:Addr)(c:Value):Bool:=(mroIn K C).contains c
theorem j3{K:PySem.W.Frag}{C:Addr}{c:Value}{b:Bool}(h:PySem.W.mroIn K C c=some b):subIn K C c=b:=by
 unfold PySem.W.mroIn PySem.W.clsIn at h;unfold subIn mroIn;cases e:K.lookup C with
 | none=>rw[e] at h;cases h
 | some o =>
  rw[e] at h;obtain⟨c0,d0,dt,sl⟩:=o;cases dt <;> first | (cases h;done) | skip
  simp only[Option.bind_some] at h;split at h
  ·cases h
  ·exact Option.some.inj h
theorem FG{K:PySem.W.Frag}{C:Addr}{c:Value}{b:Bool}(h:PySem.W.mroIn K C c=some b):(PySem.W.clsIn K C).isSome=true:=by
 unfold PySem.W.mroIn at h;cases e:PySem.W.clsIn K C with
 | none=>rw[e] at h;cases h
 | some cd=>rfl
noncomputable def iO(K:PySem.W.Frag)(C:Addr)(cN:List Value)(newId:String):Bool:=match K.lookup C with
 | some ⟨.type "type",_,.cls cd,sl⟩=>(match cd.mro,sl.toList with
  | .ref C'::bm,[_,_,_,_,some (.builtin n),_]=>C' == C && n == newId && !cd.hasDel && PySem.W.tailIn K cN bm && PySem.W.nsOkIn K cd.ns
  | _,_=>false)
 | _=>false
theorem OY{K:PySem.W.Frag}{C:Addr}{cN:List Value}{newId:String}(q:PySem.W.excIn K C cN newId=true):iO K C cN newId=true:=by
 unfold PySem.W.excIn at q;unfold iO;cases e:K.lookup C with
 | none=>rw[e] at q;cases q
 | some o =>
  rw[e] at q;split at q
  ·rename_i dd cd sl ho;cases ho;split at q
   ·rename_i C' bm k0 k1 k2 k3 n k5 hm hs;simp only[Bool.and_eq_true] at q;simp only[hm,hs,Bool.and_eq_true];exact q.1
   ·cases q
  ·cases q
structure fu(K:PySem.W.Frag)(C:Addr):Prop where
 ex:∃bm id,iO K C bm id=true/\bm.contains (.type "BaseException")=true
theorem fu.of{K:PySem.W.Frag}{C:Addr}{bm:List Value}{id:String}(q:PySem.W.excIn K C bm id=true)(h:bm.contains (.type "BaseException")=true):fu K C:=⟨bm,id,OY q,h⟩
theorem FH{K:PySem.W.Frag}{h₀:Heap}{C:Addr}(X:K.In h₀)(x:fu K C) :
  ∃bm N nm q bs hdct sn sub ab col dd k0 k1 k2 k3 k5 newId,h₀.get? C=some (excClassObj nm q C N bs bm hdct sn sub ab col dd k0 k1 k2 k3 k5 newId)/\mroIn K C = .ref C::bm/\bm.contains (.type "BaseException")=true:=by
 obtain⟨cN,newId,q,hb⟩:=x.ex;unfold iO at q;unfold mroIn;cases e:K.lookup C with
 | none=>rw[e] at q;cases q
 | some o =>
  rw[e] at q;split at q
  ·rename_i dd cd sl ho;cases ho;split at q
   ·rename_i C' bm k0 k1 k2 k3 n k5 hm hs;simp only[Bool.and_eq_true,beq_iff_eq,Bool.not_eq_true'] at q;obtain⟨⟨⟨⟨c1,c2⟩,c3⟩,c4⟩,c5⟩:=q;obtain⟨nm,bs,mro,ns,qn,hd,sn,sub,ab,col,del⟩:=cd;obtain⟨l⟩:=sl;dsimp only at hm hs c3 c5;subst c1 c2 hm c3 hs;exact⟨bm,ns,nm,qn,bs,hd,sn,sub,ab,col,dd,k0,k1,k2,k3,k5,n,X _ _ e,rfl,(PySem.W.tail_of_in X c4).hasType hb⟩
   ·cases q
  ·cases q
theorem FI{M:Model}{A:Around}{E:Value->Shared->Prop}{K:PySem.W.Frag}{s:Shared}{e C C2:Addr}{oe:Obj}{Q:Bool->Shared->Prop}(X:K.In s.heap)(x:fu K C)(y:fu K C2)(he:s.heap.get? e=some oe)(kK:oe.cls = .ref C)
  (hq:Q (subIn K C (.ref C2)) s):wpAny M A (excMatches (.ref e) (.ref C2)) Q E s:=by
 obtain⟨bm,N,nm,q,bs,hdct,sn,sub,ab,col,dd,k0,k1,k2,k3,k5,newId,hC,hm,_⟩:=FH X x;obtain⟨OZ,N2,YE,q2,YF,YG,YH,YI,YJ,YK,x_,YL,YM,YN,YO,YQ,YR,pG,YS,yZ⟩:=FH X y;have mS:(Value.ref C2::OZ).contains (.type "BaseException")=true:=by rw[List.contains_cons,yZ,Bool.or_true]
 unfold subIn at hq;rw[hm] at hq;have f:=tc_notTuple;obtain⟨h,g,d,t,os⟩:=s;unfold excMatches
 repeat (first | (with_reducible refine wpAny_loadPart_at he ?_;rw[kK]) | with_reducible refine wpAny_loadPart_at pG ?_ | (with_reducible refine wpAny_isSubtype_exc pG ?_;rw[mS]) | (with_reducible refine wpAny_isSubtype_exc hC ?_) | wp_step)
 all_goals first | exact hq | (cases hh:(Value.ref C::bm).contains (.ref C2) <;> (rw[hh] at hq;wp_walk;exact hq))
noncomputable abbrev TH:=Option Addr->Addr->Addr->Ends->St->Hp->Prop
noncomputable def PH(X:Cx)(hs:List ExceptHandler)(t:TH):Prop :=
 ∀(pins:List (Addr×Obj)) (σ:St) (a C:Addr) (a0:Value) (H1:Hp) (s1:Shared) (H':Hp) (B:Heap) (od:Option Addr) (s':Shared) (D:Ends) (E:Value->Shared->Prop),Fl X pins σ a C a0 H1 s1 H' B od s'->fu X.K C->t od C a D σ H'->
  wpAny (model X.prog X.w) X.A (handleBy (.ref a) X.env hs) (SP X pins D) E s'
theorem FJ{X:Cx}:PH X [] (λ_ _ _ _ _ _=>False):=λ_ _ _ _ _ _ _ _ _ _ _ _ _ _ _ h=>h.elim
noncomputable def FL(i:Nat)(D:Ends):Ends:={ nx:=λσ H=>D.nx (σ.set i none) H,rt:=D.rt,bk:=λσ H=>D.bk (σ.set i none) H,ct:=λσ H=>D.ct (σ.set i none) H }
noncomputable def O0(K:PySem.W.Frag)(C2:Addr)(i:Nat)(ts:Addr->TS)(t:TH):TH:=λod C a D σ H =>
 (subIn K C (.ref C2)=true/\ts a (FL i D) (σ.set i (some (.ref a))) (upd H a (eW a C od)))\/(subIn K C (.ref C2)=false/\t od C a D σ H)
theorem FN{X:Cx}{x n:Str}{np pH:Pos}{b₀:Stmt}{FO:List Stmt}{rest:List ExceptHandler}{C2:Addr}{i:Nat}{ts:Addr->TS}{t:TH}(hg:Gl X x)(hm:X.mg x=some (.ref C2))(y:fu X.K C2)(hN:X.N.Nodup)(hi:X.N[i]? = some n)
  (hk:X.env.kindOf n=some .local) (hex:X.ex = []) (hs:∀a,eg (X.within (.ref a)) (b₀::FO) (ts a)) (hr:PH X rest t) (dD:(x == ("__debug__" : Str))=false:=by decide) :
  PH X (.ExceptHandler (some (.Name x np)) (some n) (b₀::FO) pH::rest) (O0 X.K C2 i ts t):=by
 intro pins σ a C a0 H1 s1 H' B od s' D E F xc h;obtain⟨ob,y9,y_⟩:=F.bZ.there;refine wpAny_handleBy_cons (codeAny_handlers_test (i_ (X:=X.within (.ref a)) (F.inv.within (.ref a)) hg hm (FI F.inv.bN xc y y9 y_ ?_) dD)) (by intro q;cases q)
 rcases h with⟨hb,h⟩ | ⟨hb,h⟩
 ·rw[hb];refine codeAny_handlers_suite_as (FD F.bZ F.hd λh6 zb pI mT=>?_);have F6:=F.move zb pI mT;refine nX (X:=X.within (.ref a)) (i:=i) (v:=V.ref a) ((F6.tracked hex).within (.ref a)) hN hi (.inl hk) rfl (λs2 I2=>?_) (.inr hk);refine wpAny_mono (hs a pins s2 _ _ (FL i D) I2 h) (λf s3 q=>?_) λ_ _ z=>False.elim z;cases f with
  | next=>obtain⟨aV,H2,J,q⟩:=q;exact sV (J.out F.I.ok) hN hi hk λs4 J4=>⟨_,_,J4,q⟩
  | brk=>obtain⟨aV,H2,J,q⟩:=q;exact sV (J.out F.I.ok) hN hi hk λs4 J4=>⟨_,_,J4,q⟩
  | cont=>obtain⟨aV,H2,J,q⟩:=q;exact sV (J.out F.I.ok) hN hi hk λs4 J4=>⟨_,_,J4,q⟩
  | ret u=>obtain⟨v,aV,H2,J,r,q⟩:=q;exact sV (J.out F.I.ok) hN hi hk λs4 J4=>⟨v,_,_,J4,r,q⟩
 ·rw[hb];exact hr pins σ a C a0 H1 s1 H' B od s' D E F xc h
theorem YT{X:Cx}{e:Value}:(X.within e).K=X.K:=rfl
noncomputable def O1(K:PySem.W.Frag)(th:TH)(D:Ends)(σ:St):XK:=λcls od H'=>∃C,cls = .ref C/\fu K C/\∀a,H' a=none->th od C a D σ H'
noncomputable def FP(K:PySem.W.Frag)(tb:XK->TS)(th:TH):TS:=λD σ H=>tb (O1 K th D σ) D σ H
theorem O2{X:Cx}{st:Stmt}{h₀:ExceptHandler}{hs:List ExceptHandler}{pos:Pos}{tb:XK->TS}{th:TH}(cC:X.stack=X.env::X.outer)(hf:X.env.frame=some X.env.locals)(hb:∀E,sU X E st (tb E))(hh:PH X (h₀::hs) th) :
  PS X (.Try [st] (h₀::hs) [] [] pos) (FP X.K tb th):=by
 intro pins s σ H D I h;refine wpAny_Try_except (wpAny_execs_cons (wpAny_mono (hb _ pins s σ H D I h) (λf s1 q=>?_) λe s' z=>?_))
 ·cases f with
  | next=>exact wpAny_execs_nil (wpAny_execs_nil q)
  | ret v=>exact q
  | brk=>exact q
  | cont=>exact q
 ·obtain⟨H1,s1,I1,a,C,a0,H',B,od,rfl,ho,hg,u,aC,na,nh,c,bZ,hd,C',eC,xc,hE⟩:=z;cases eC;have F:Fl X pins σ a C a0 H1 s1 H' B od s':=⟨I1,ho,hg,u,aC,na,nh,c,bZ,hd⟩;have j4:=bZ;rw[cC] at j4;refine yV (by rw[I1.ok.frames,cC]) hf j4 hd λh4 held j5 j6=>?_
  refine FA held j6 λh5 pJ pK j7=>?_;rw[← cC] at pJ;exact hh pins σ a C a0 H1 s1 H' B _ _ D _ (F.move pJ (j5.trans pK) j7) xc (hE a na)
end _L
namespace _L
open PySem PySem.Spec PyProof.Rows PySem.W PySem.Builtin.ObjectAttr PySem.Builtin.Getset_descriptor
section
variable{prog:Program}{w:World}{A:Around}{E:Value->Shared->Prop}{s:Shared}{K:Frag}{x D:Addr}{ox:Obj}{name:Str}
structure j8(K:Frag)(D:Addr):Prop where
 ga:findIn K (.ref D) "__getattribute__" = some (some (.builtin "BaseException.__getattribute__"))
 gt:findIn K (.ref D) "__getattr__" = some none
 mro:PySem.W.mroIn K D (.type "BaseException")=some true
 obj:PySem.W.mroIn K D (.type "object")=some true
 cl:findIn K (.ref D) "__class__" = some (some (.builtin "object.__class__"))
 sp:specialIn K (.builtin "object.__class__") "__get__" = some (some (.builtin "getset_descriptor.__get__"))
 tk:takesIn K (.builtin "object.__class__")=some true
theorem zc{M:Model}{h:Heap}(hx:h.get? x=some ox)(hc:ox.cls = .ref D):Looks M h (typeOf (.ref x)) (.ref D):=hc▸(Looks.ld hx).andThen .now
theorem O3{M:Model}{h:Heap}{a g:Value}(X:K.In h)(ha:findIn K (.ref D) name=some (some a))(hg:specialIn K a "__get__" = some (some g))(ht:takesIn K a=some true):Looks M h (find (.ref x) (.ref D) name) (.bind g a):=by
 have L1:=looks_findIn (M:=M) X ha;have _L:Looks M h (getOf (some a)) (some g):=looks_specialIn X hg;have L3:=looks_takesIn (M:=M) X ht;refine L1.andThen (_L.andThen ?_);refine Looks.andThen (a:=some (g,a)) ?_ (Looks.tag .now);unfold dataDescriptor?;refine L3.andThen ?_;exact .now
theorem O4{g a:Value}{tk:Tok}{Q:Value->Shared->Prop}(T:Looks (model prog w) s.heap (typeOf (.ref x)) (.ref D))(L1:Looks (model prog w) s.heap (find (.ref x) (.ref D) name) (.bind g a))(h:wpAny (model prog w) A (call g [a,.ref x,.ref D]) Q E s) :
  wpAny (model prog w) A (Builtin.«object.__getattribute__» ⟨[.ref x,.str name tk],[]⟩) (λfin s'=>match fin with | .done (.ret v)=>Q v s' | _=>False) E s:=by
 obtain⟨hh,gg,d,t,os⟩:=s;refine wpAny_bind (wpAny_pure (wpAny_bind (wpAny_pure (wpAny_bind (T.at (wpAny_bind (L1.at ?_)))))))
 show wpAny _ _ (holding [a] (call g [a,.ref x,.ref D]) >>= ret) _ _ _;exact wpAny_bind (wpAny_holding (wpAny_mono h (λv s' z=>wpAny_pure z) λ_ _ z=>z))
theorem O5{v:Value}{tk:Tok}{Q:Value->Shared->Prop}(T:Looks (model prog w) s.heap (typeOf (.ref x)) (.ref D))(L1:Looks (model prog w) s.heap (find (.ref x) (.ref D) name) (.value v))(h:Q v s) :
  wpAny (model prog w) A (Builtin.«object.__getattribute__» ⟨[.ref x,.str name tk],[]⟩) (λfin s'=>match fin with | .done (.ret v)=>Q v s' | _=>False) E s:=by
 obtain⟨hh,gg,d,t,os⟩:=s;exact wpAny_bind (wpAny_pure (wpAny_bind (wpAny_pure (wpAny_bind (T.at (wpAny_bind (L1.at (wpAny_pure h))))))))
theorem O6{nameV:Value}{Q:Unit->Shared->Prop}(X:K.In s.heap)(T:Looks (model prog w) s.heap (typeOf (.ref x)) (.ref D))(G:j8 K D)(hq:Q () s):wpAny (model prog w) A (checkBuiltinCall "BaseException.__getattribute__" ⟨[.ref x,nameV],[]⟩) Q E s:=by
 have hk:builtinKind "BaseException.__getattribute__" = some .slot:=by decide +kernel
 have O7:splitId "BaseException.__getattribute__" = some ("BaseException", "__getattribute__"):=by decide +kernel
 obtain⟨hh,gg,d,t,os⟩:=s;have L1:=looks_mroIn (M:=model prog w) X G.mro;have ha:=F.args_bexc_ga (.ref x) nameV;simp only[checkBuiltinCall,hk,O7];refine wpAny_bind ?_;unfold isInstance
 repeat (first | lk | wp_step)
 exact hq
theorem FQ{tk:Tok}{fill expr:Bool}{Q:Value->Shared->Prop}(X:K.In s.heap)(T:Looks (model prog w) s.heap (typeOf (.ref x)) (.ref D))(G:j8 K D)
  (h:∀A,wpAny (model prog w) A (Builtin.«object.__getattribute__» ⟨[.ref x,.str name tk],[]⟩) (λfin s'=>match fin with | .done (.ret v)=>handedIn v=true/\Q v s' | _=>False) (λ_ _=>False) s) :
  wpAny (model prog w) A (getAttrBy (.ref x) (.str name tk) fill expr) Q E s:=by
 have f3:=F.attr_ValueError.ga.bind (.ref x);have O8:(expr && onTheHeap (Value.builtin "BaseException.__getattribute__"))=false:=by cases expr <;> rfl
 have pL:(onTheHeap (Value.ref D) && Value.builtin "BaseException.__getattribute__" == Value.builtin "object.__getattribute__")=false:=by
  rw[show (Value.builtin "BaseException.__getattribute__" == Value.builtin "object.__getattribute__")=false from by decide +kernel];rfl
 have O9:=λ{A:Around} {E:Value->Shared->Prop} {Q:Unit->Shared->Prop}=>O6 (prog:=prog) (w:=w) (A:=A) (E:=E) (nameV:=.str name tk) (Q:=Q) X T G;obtain⟨hh,gg,d,t,os⟩:=s;have L1:=looks_findIn (M:=model prog w) X G.ga;have _L:=looks_findIn (M:=model prog w) X G.gt;unfold getAttrBy;refine wpAny_holding (wpAny_bind (T.at (wpAny_bind (L1.at ?_))));simp only[pL,Bool.false_eq_true,if_false];unfold getAttrByItsOwn hookBefore;simp only[onTheHeap,if_true];refine wpAny_bind (_L.at (wpAny_bind (wpAny_attempt (wpAny_holding ?_))));unfold callGetattribute boundAndCalled;simp only[O8,Bool.false_eq_true,if_false,f3];refine wpAny_bind (wpAny_pure (wpAny_call (codeAny_call_builtin F.attr_ValueError.ga.plain F.entry_bexc_ga (O9 (wpAny_mono (h _) (λfin s' z=>?_) λ_ _ z=>False.elim z)))));rcases fin with(_ | _ | _ | v) | _ <;> first | exact handed_on z.1 z.2 | exact z.elim
theorem O_{R:Result->Shared->Prop}{tp:Value}(X:K.In s.heap)(L0:Looks (model prog w) s.heap (typeOf (.ref x)) (.ref D))(hm:PySem.W.mroIn K D (.type "object")=some true)
  (h:R (.ok (.ret (.ref D))) s):codeAny (model prog w) A (.call (.builtin "getset_descriptor.__get__") ⟨[.builtin "object.__class__",.ref x,tp],[]⟩) R s:=by
 obtain⟨hh,g,dr,t,os⟩:=s;have L1:=looks_mroIn (M:=model prog w) X hm;refine codeAny_call_builtin KF.slot_gs.plain KF.entry_gs (KF.slot_gs.check _ _ _ _ _ _ _ _ KF.type_class (KF.args_gs _ _ _) ?_);unfold Builtin.«getset_descriptor.__get__» descrGet;rw[dga_obj];refine wpAny_bind (wpAny_pure ?_);unfold descrGetter descrCheckInstance descrNameAndClass isInstance;simp only[KF.owner_class]
 repeat lk
 refine⟨Code.quiet_builtin _ (by decide +kernel),codeAny_builtin KF.entry_class ?_⟩
 unfold Builtin.«object.__class__» shownTypeOf
 repeat lk
 exact h
theorem Pa{Q:Option Value->Shared->Prop}(X:K.In s.heap)(T:∀s':Shared,s'.heap=s.heap->Looks (model prog w) s'.heap (typeOf (.ref x)) (.ref D))(G:j8 K D)(h:Q (some (.ref D)) { s with toks:=s.toks+1 }) :
  wpAny (model prog w) A (getAttr? (.ref x) "__class__") Q E s:=by
 unfold getAttr? getAttrBy?;refine wpAny_bind (wpAny_mkText (wpAny_bind (wpAny_attempt ?_)));refine FQ (s:={ s with toks:=s.toks+1 }) X (T _ rfl) G λA=>?_
 refine wpAny_mono (O4 (s:={ s with toks:=s.toks+1 }) (Q:=λv s'=>v = .ref D/\s' = { s with toks:=s.toks+1 }) (T _ rfl) (O3 X G.cl G.sp G.tk) (wpAny_call (O_ (s:={ s with toks:=s.toks+1 }) X (T _ rfl) G.obj ⟨rfl,rfl⟩))) (λfin s' z=>?_) λ_ _ z=>z;rcases fin with(_ | _ | _ | v) | _ <;> first | exact z.elim | (obtain⟨rfl,rfl⟩:=z;exact⟨rfl,wpAny_pure h⟩)
end
theorem Pb{K:Frag}{x D:Addr}(G:j8 K D)(hc:(clsIn K D).isSome=true):KitX K (.ref x) (.ref D) (λh=>∃o,h.get? x=some o/\o.cls = .ref D) where
 ty:=λ_ _ _ ⟨o,h1,h2⟩=>zc h1 h2
 it:=λ_ _ X _=>by
  obtain⟨cd,cA⟩:=Option.isSome_iff_exists.mp hc;unfold clsIn at cA;split at cA
  ·rename_i ho;intro A' Q' E' s' k q;unfold isType loadHead;exact wpAny_bind (wpAny_loadPart (k _ _ (X _ _ ho)) (wpAny_pure q))
  ·cases cA
 ne:=λh tp dd aB n sl X iP=>by
  obtain⟨cd,cA⟩:=Option.isSome_iff_exists.mp hc;refine Bool.eq_false_iff.mpr λq=>?_
  have e:D=tp:=Value.ref.inj (beq_iff_eq.mp q);subst e;unfold clsIn at cA;split at cA
  ·rename_i ho;have z:=(X _ _ ho).symm.trans iP;cases z
  ·cases cA
 ca:=λ{_ _ _ _ _ s} X ⟨o,h1,h2⟩ k=>Pa X (λs' e=>by rw[e];exact zc h1 h2) G k
section
variable{X:Cx}
theorem Pc{pins:List (Addr×Obj)}{σ:St}{H:Hp}{s:Shared}{a C:Addr}{od:Option Addr}(I:Inv X pins σ H s)(e:H a=some (eW a C od)):∃o,s.heap.get? a=some o/\o.cls = .ref C:=by
 cases od with
 | none =>
  obtain⟨h,_,_⟩:=(show bQ X.prog X.w H s.heap a (yY a C) from I.aC a _ e);exact h
 | some d =>
  obtain⟨⟨o,h1,h2,_⟩,_,_⟩:=(show bQ X.prog X.w H s.heap a (eW a C (some d)) from I.aC a _ e);exact⟨o,h1,h2⟩
theorem sW:gA X (.builtin "isinstance") (λxs H Q=>∃a C c v b,xs = [.ref a,v]/\((∃C2,v = .ref C2/\c = .ref C2)\/(∃T,v = .ty T/\c = .type T))/\(∃od,H a=some (eW a C od))/\j8 X.K C/\(clsIn X.K C).isSome=true/\kitOne X.K (.ref C) c=some b/\Q (.bl b) H):=by
 intro pins s σ H xs us Q I r h;obtain⟨a,C,c,v,b,rfl,hv,⟨od,ea⟩,G,hc,e,q⟩:=h;obtain⟨u,v',rfl,ru,rv⟩:=vals2 r;cases (show u=Value.ref a from ru);have ev:v' = c:=by
  rcases hv with⟨C2,rfl,rfl⟩ | ⟨T,rfl,rfl⟩
  ·exact rv
  ·exact rv
 subst ev;exact kia_one (Pb G hc) I.bN (Pc I ea) e (λz=>nomatch z) λtk=>⟨.bl b,H,I.tok _,rfl,q⟩
end
end _L
namespace _L
open PySem PySem.Spec PyProof.Rows PySem.W
section
variable(key:Nat->Int)
noncomputable def kk(p:Array Nat)(i:Nat):Int:=key (p.getD i 0)
variable{key}{p:Array Nat}
end
section
variable{prog:Program}{w:World}{A:Around}{E:Value->Shared->Prop}{s:Shared}
end
section
variable{n:Nat}{p q:Array Nat}
end
end _L
namespace _L
open PySem PySem.Spec PyProof.Rows
section
variable{X:Cx}{pins:List (Addr×Obj)}{σ:St}{H:Hp}{s:Shared}{scope:Scope}{cl:List (Str×Addr)}{ps fs:List Str}{fv:List Nat}{A:Around}{qual:Str}{f c':Addr}
end
structure YU(mg:Str->Option Value)(base:Heap)(c P:Addr):Prop where
 hd:PySem.W.CodeHd base c P
 bm:∃bm ob,mg "__builtins__" = some (.ref bm)/\bm≠builtinsNs/\base.get? bm=some ob/\ob.cls = .type "module"/\ob.dict=some builtinsNs/\ob.data = .plain
section
variable{X:Cx}{pins:List (Addr×Obj)}{σ:St}{H:Hp}{s:Shared}{scope:Scope}{cl:List (Str×Addr)}{M:Model}{A:Around}{E:Value->Shared->Prop}{name qual:Str}{params:Arguments}{body:Expr}{pos:Pos}{firstLine:Nat}{c P:Addr}
end
end _L
namespace _L
open PySem PySem.Spec PyProof.Rows PySem.W
section
variable{prog:Program}{w:World}{A:Around}{E:Value->Shared->Prop}{s:Shared}
end
section
variable{X:Cx}{pins:List (Addr×Obj)}{σ:St}{H:Hp}{s:Shared}
variable{scope:Scope}{cl:List (Str×Addr)}{ps fs:List Str}{fv:List Nat}{A:Around}{qual name:Str}{f c' P kS:Addr}{params:Arguments}{body:Expr}{te:TE}{pm YV:Value}{pos:Pos}{kv:Nat->Int×Int}{n:Nat}{H1:Hp}{m:Str->Option Value}
end
end _L
namespace _L
open PySem PySem.Spec PyProof.Rows
section
variable{M:Model}{prog:Program}{w:World}{A:Around}{E:Value->Shared->Prop}{s:Shared}
end
section
variable{prog:Program}{w:World}{A:Around}{E:Value->Shared->Prop}{s:Shared}
end
section
variable{X:Cx}
end
section
variable{prog:Program}{w:World}{A:Around}{E:Value->Shared->Prop}{s:Shared}{d it:Addr}{es:Array DictEntry}{ep i:Nat}
end
section
variable{X:Cx}
end
section
variable{α:Type}{lt:α->α->Prop}
end
noncomputable abbrev Th:=Int×List Int×Int
noncomputable def zd(a b:Th):Prop:=a.1<b.1\/(a.1=b.1/\(_H.lexLt a.2.1 b.2.1=true\/(a.2.1=b.2.1/\a.2.2<b.2.2)))
section
open PySem.SeqAt PySem.MeetsSeq PySem.MeetsSeq2 PySem.MeetsSeq3
open PySem.AutoSeq1 (wpAny_loadPart')
end
section
variable{prog:Program}{w:World}{A:Around}{E:Value->Shared->Prop}{s:Shared}
end
noncomputable def FT(H:Hp)(a:Addr)(t:Th):Prop:=∃p,H a=some (.tup [.int t.1,.ref p,.int t.2.2])/\H p=some (.tup (t.2.1.map V.int))
noncomputable instance (a b:Th):Decidable (zd a b):=by unfold zd;infer_instance
section
variable{X:Cx}{pins:List (Addr×Obj)}{σ:St}{H:Hp}{s:Shared}
end
section
variable{X:Cx}
noncomputable abbrev Zs:=List (Addr×Th)
noncomputable def zV(zs:Zs):List V:=zs.map λz=>V.ref z.1
noncomputable def Pd(H:Hp)(zs:Zs):Prop:=∀z,z∈zs->FT H z.1 z.2
noncomputable def YW:V->List V->Hp->VK->Prop:=λx vs H Q=>∃l a zs t,x = .ref l/\vs = [.ref a]/\H l=some (.lst (zV zs))/\Pd H zs/\FT H a t/\t∈zs.map (·.2)/\
 ∀(k:Nat) (h:k<zs.length),zs[k].2=t->Q .aH (upd H l (.lst (zV (zs.eraseIdx k))))
end
structure Zt(H:Hp)(a:Addr)(ts:List Addr)(z:List (List Int)):Prop where
 l:H a=some (.lst (ts.map V.ref))
 n:ts.length=z.length
 t:∀(i:Nat) (t:Addr) (r:List Int),ts[i]? = some t->z[i]? = some r->H t=some (.tup (r.map V.int))
section
variable{H H':Hp}{a:Addr}{ts:List Addr}{z:List (List Int)}
theorem Zt.same(h:Zt H a ts z)(e:ah H H'):Zt H' a ts z:=⟨e _ _ h.l,h.n,λi t p h1 h2=>e _ _ (h.t i t p h1 h2)⟩
theorem Zt.start{l:Addr}:Zt (upd H l (.lst [])) l [] []:=⟨aq,rfl,λi t r e=>by simp at e⟩
theorem Zt.snoc{l p:Addr}(h:Zt H l ts z)(hp:H p=none)(r:List Int):Zt (upd (upd H p (.tup (r.map V.int))) l (.lst (ts.map V.ref++[V.ref p]))) l (ts++[p]) (z++[r]):=by
 have gG:l≠p:=cQ h.l hp;refine⟨by rw[aq,List.map_append];rfl,by simp[h.n],λi t q e1 e2=>?_⟩
 have hn:=h.n;by_cases hi:i<ts.length
 ·rw[List.getElem?_append_left hi] at e1;rw[List.getElem?_append_left (by lia)] at e2
  have ht:=h.t i t q e1 e2;rw[aG (iB ht h.l (by intro z;cases z)),aG (cQ ht hp)]
  exact ht
 ·rw[List.getElem?_append_right (by lia)] at e1
  rw[List.getElem?_append_right (by lia)] at e2
  have jt:i - ts.length=0:=by
   have:=yQ e1;simp at this;lia
  rw[jt] at e1;rw[← hn,jt] at e2;simp at e1 e2;subst e1 e2;rw[aG gG.symm,aq]
theorem gj.ints{n:Nat}:∀(r:List Int),gj H n (r.map V.int) (r.map Dt.int)
 | []=>trivial
 | i::r=>⟨.int i,gj.ints r⟩
theorem Zt.rep(h:Zt H a ts z)(hl:z.length<=1000000)(hr:∀r∈z,r.length<=1000000)(n:Nat):Rep H (n+2) (.ref a) (.lst (z.map λr=>.tup (r.map Dt.int))):=by
 refine .lst h.l (by simp[h.n]) (by simpa using hl) λi x d e1 e2=>?_
 obtain⟨t,et,rfl⟩:=gF e1;obtain⟨r,er,rfl⟩:=gF e2;exact Rep.ON (h.t i t r et er) (gj.ints r) (by rw[List.length_map];exact hr r (get_mem er))
theorem Zn.start{l:Addr}:Zn (upd H l (.lst [])) l [] []:=⟨aq,rfl,λi t r e=>by simp at e⟩
end
section
variable{ta:TA}{g:TG}{tt:TT}{te:TE}{nt:Nat}{fv:List Nat}{Q:VK}{σ:St}{H:Hp}
theorem pM(n:Int)(Pv:Addr->Nat->List V->St->Hp->Prop)(dX:∀Q:List V->Hp->Prop,Q [.int n] H->ta σ H Q)(b1 : -1000000000000<n)(b2:n<1000000000000)
  (h0:∀D,H D=none->Pv D 0 [] (h_ σ nt fv) (upd H D (.lst []))) (hD:∀D i ys σ H,Pv D i ys σ H->H D=some (.lst ys)/\ys.length<sizeLine)
  (hs:∀D i ys au H2 (N:List V->St->Hp->Prop),(∀ys σ H,Pv D (i+1) ys σ H->N ys σ H)->i<n.toNat->Pv D i ys au H2->g (.int (i:Int)) au H2 λbS H4=>tt bS H4 λb H5=>if b=true then te bS H5 λv H6=>H6 D=some (.lst ys)/\N (ys++[v]) bS (upd H6 D (.lst (ys++[v]))) else N ys bS H5)
  (hd:∀D ys au H2,Pv D n.toNat ys au H2->Q (.ref D) H2):jU (ow ta) g tt te nt fv σ H Q:=by
 refine dX _ ⟨n,rfl,by lia,by lia,λD pe=>?_⟩
 refine⟨λi m ys au H2=>m=n.toNat - i/\i<=n.toNat/\Pv D i ys au H2,⟨_,rfl,Nat.zero_le _,h0 D pe⟩,?_⟩;rintro i m ys au H2 ⟨rfl,gD,p⟩;obtain⟨d1,d2⟩:=hD D i ys au H2 p;refine⟨d1,d2,?_⟩;by_cases bV:i<n.toNat
 ·refine .inr ⟨bV,λx H3 y=>?_⟩;obtain⟨e1,e2⟩:=y;subst e1 e2;have e2:(0:Int)+(i:Int)=i:=by lia
  rw[e2];exact hs D i ys au _ _ (λ_ _ _ z=>NX.of bV z) bV p
 ·have e:i=n.toNat:=by lia
  subst e;exact .inl ⟨Nat.le_refl _,hd D ys au H2 p⟩
end
section
variable{P:Addr}{pos:Pos}{qual:Str}{H H1 H2:Hp}
end
structure j9(K:PySem.W.Frag)(x qual:Str)(st:Stmt)(f:Addr)(fd:FuncData):Prop where
 ex:∃(oc:Value) (od:Option Addr) (dV kV doc pm:Value) (an:Option Addr) (aM ct:Value) (eT:Array (Option Value)),
  fd=PySem.W.fnOf x qual (dM st) (cZ st) (aU st) dV kV doc pm an aM ct/\K.lookup f=some ⟨oc,od,.func fd,eT⟩/\PySem.W.codeIn K aM qual=true
 kp:PySem.W.keepIn K (.ref f)=true
section
variable{P:Program}{w:World}{K:PySem.W.Frag}{mg:Str->Option Value}{base:Heap}
theorem j9.ok{x qual:Str}{st:Stmt}{f:Addr}{fd:FuncData}{N ps:List Str}{k:Nat}{sp:Sp}(F:j9 K x qual st f fd)(S:bB N ps (aU st))(len:∀vs H Q E,sp vs H Q E->vs.length=ps.length)
  (jg:∀(aM:Value) (A:Around) (outer:List Env) (s:Shared) (H:Hp) (vs:List V) (Q:VK) (E:XK),bY k (A.deeper (envOfC qual (aU st) s.heap.objs.size f aM))->sp vs H Q E->
   ∃t,eg (fH bw P w K mg base N qual (aU st) f aM A outer s H E).iE (cZ st) t/\t { nx:=λ_ H'=>Q .aH H',rt:=Q } (start N vs) H):a_ P w K mg base bw (k+1) f fd ps sp:=by
 obtain⟨oc,od,dV,kV,doc,pm,an,aM,ct,eT,rfl,lk,cA⟩:=F.ex;refine xZ lk cA S len λA outer s H vs Q E hr fJ=>?_;obtain⟨t,h,q⟩:=jg aM A outer s H vs Q E hr fJ;exact⟨t,h.iE,q⟩
theorem ze{x qual:Str}{st:Stmt}{f:Addr}{oc:Value}{od an:Option Addr}{eT:Array (Option Value)}{dV kV doc pm aM ct:Value}(l:K.lookup f=some ⟨oc,od,.func (PySem.W.fnOf x qual (dM st) (cZ st) (aU st) dV kV doc pm an aM ct),eT⟩)
  (c:PySem.W.codeIn K aM qual=true) (k:PySem.W.keepIn K (.ref f)=true):j9 K x qual st f (PySem.W.fnOf x qual (dM st) (cZ st) (aU st) dV kV doc pm an aM ct):=⟨⟨oc,od,dV,kV,doc,pm,an,aM,ct,eT,rfl,l,c⟩,k⟩
end
section
variable{X:Cx}
noncomputable def YX(ta:TA):TE:=λσ H Q=>ta σ H λvs H1=>∃i j:Int,vs = [.int i,.int j]/\(-1000000000000<i/\i<1000000000000/\-1000000000000<j/\j<1000000000000)/\(j - i).toNat<=1000000/\
 ∀l,H1 l=none->Q (.ref l) (upd H1 l (.lst ((List.range (j - i).toNat).map λ(k:Nat)=>V.int (i+(k:Int)))))
end
structure Ak where
 kind:Str
 first:Int
 many:Int
 marks:List Int
 at_:Int
 cO:Int
 c8:Option Int
 behind:List Int
 early:Bool
noncomputable def dO:Option Int->V
 | none=>.aH
 | some i=>.int i
noncomputable def sX(q:Ak)(m b:Addr):List (Str×V):=[("kind",.str q.kind),("first",.int q.first),("many",.int q.many),("marks",.ref m),("at",.int q.at_),("asker",.int q.cO),("latest",dO q.c8),("behind",.ref b),("early",.bl q.early)]
structure eX(K:PySem.W.Frag)(C:Addr)(H:Hp)(p:Addr)(q:Ak)(m b dx:Addr):Prop where
 o:H p=some (.ins C dx (sX q m b))
 ms:H m=some (.tup (q.marks.map V.int))
 bh:H b=some (.tup (q.behind.map V.int))
theorem eX.same{K:PySem.W.Frag}{C:Addr}{H H':Hp}{p:Addr}{q:Ak}{m b dx:Addr}(h:eX K C H p q m b dx)(s:ah H H'):eX K C H' p q m b dx:=⟨s _ _ h.o,s _ _ h.ms,s _ _ h.bh⟩
theorem zf{K:PySem.W.Frag}{C:Addr}{H H1:Hp}{x dx m b:Addr}{q:Ak}(s:ah H H1)(nx:H1 x=none)(iQ:H1 dx=none)(jw:dx≠x)(hm:H1 m=some (.tup (q.marks.map V.int)))(hb:H1 b=some (.tup (q.behind.map V.int))) :
  ah H (upd (upd (upd H1 dx (.own x)) x (.ins C dx [])) x (.ins C dx (sX q m b)))/\H x=none/\eX K C (upd (upd (upd H1 dx (.own x)) x (.ins C dx [])) x (.ins C dx (sX q m b))) x q m b dx:=by
 have s1:=ah.put (o:=.own x) iQ;have Pe:upd H1 dx (.own x) x=none:=by rw[aG (Ne.symm jw)];exact nx
 have s2:ah H1 (upd (upd (upd H1 dx (.own x)) x (.ins C dx [])) x (.ins C dx (sX q m b))):=ah.put2 (s1.trans (ah.put Pe)) nx;exact⟨s.trans s2,s.free nx,⟨aq,s2 _ _ hm,s2 _ _ hb⟩⟩
structure cJ(ns:List Int):Prop where
 up:ns.Pairwise (· < ·)
 lo:∀n∈ns,0<=n
 hi:∀n∈ns,n<=99
theorem cJ.nil:cJ []:=⟨.nil,(λ_ h=>nomatch h),λ_ h=>nomatch h⟩
noncomputable def pN(x:Int)(ns:List Int)(i:Nat):Int:=if i=0 then x else ns.getD (i - 1) 0
theorem cJ.step{ns:List Int}(h:cJ ns){i:Nat}{n:Int}(e:ns[i]? = some n):pN (-1) ns i+1<=n/\n<=99:=by
 refine⟨?_,h.hi n (get_mem e)⟩;unfold pN;split
 ·have:=h.lo n (get_mem e);lia
 ·have hi:=dY e;obtain⟨h1,e1⟩:=List.getElem?_eq_some_iff.mp e;have e2:ns.getD (i - 1) 0=ns[i - 1]:=by simp[List.getD_eq_getElem?_getD,List.getElem?_eq_getElem (show i - 1<ns.length by lia)]
  have:=List.pairwise_iff_getElem.mp h.up (i - 1) i (by lia) h1 (by lia)
  rw[e2];lia
theorem Pf{x:Int}{ns:List Int}{i:Nat}{n:Int}(e:ns[i]? = some n):pN x ns (i+1)=n:=by
 simp[pN,List.getD_eq_getElem?_getD,e]
noncomputable def zg(K:PySem.W.Frag)(H:Hp)(v:V)(ns:List Int):Prop:=(v = .aH/\ns = [])\/∃a,v = .ref a/\(aD K H a (ns.map V.int)\/H a=some (.tup (ns.map V.int)))
structure j_(first many at_ cO:Int)(Pg:Option Int):Prop where
 f0:0<=first
 f1:first<=1000000
 m0:1<=many
 m1:many<=16
 a0:0<=at_
 a1:at_<=1000000000000
 s0:0<=cO
 s1:cO<=20
 l:∀x,Pg=some x->0<=x/\x<=10000000000000
noncomputable def Ph:Sp:=λvs H Q _=>∃(n lo hi:Int) (w:Str),vs = [.int n,.int lo,.int hi,.str w]/\lo<=n/\n<=hi/\Q .aH H
noncomputable def Pj(K:PySem.W.Frag):Sp:=λvs H Q _=>∃(b:Addr) (ns:List Int),vs = [.ref b]/\aJ K H b (ns.map V.int)/\cJ ns/\Q .aH H
noncomputable def Pk(K:PySem.W.Frag):Sp:=λvs H Q _=>∃(f m a s:Int) (l:Option Int) (b:Addr) (ns:List Int),vs = [.int f,.int m,.int a,.int s,dO l,.ref b]/\j_ f m a s l/\aJ K H b (ns.map V.int)/\cJ ns/\Q .aH H
noncomputable def Pn(K:PySem.W.Frag):Sp:=λvs H Q _=>∃(v:V) (ns:List Int),vs = [v]/\zg K H v ns/\∀b H',ah H H'->H' b=some (.tup (ns.map V.int))->Q (.ref b) H'
noncomputable def Po(C:Addr):Sp:=λvs H Q _=>∃(p dx:Addr) (v1 v2 v3 v4 v5 v6 v7 v8 v9:V),vs = [.ref p,v1,v2,v3,v4,v5,v6,v7,v8,v9]/\H p=some (.ins C dx [])/\
 Q .aH (upd H p (.ins C dx [("kind",v1),("first",v2),("many",v3),("marks",v4),("at",v5),("asker",v6),("latest",v7),("behind",v8),("early",v9)]))
noncomputable def Pp(K:PySem.W.Frag)(C:Addr):Sp:=λvs H Q _=>∃(f m a s:Int) (l:Option Int) (bv:V) (ns:List Int),vs = [.int f,.int m,.int a,.int s,dO l,bv]/\j_ f m a s l/\zg K H bv ns/\cJ ns/\
 ∀p mk b dx H',ah H H'->H p=none->eX K C H' p ⟨"read",f,m,[],a,s,l,ns,false⟩ mk b dx->Q (.ref p) H'
noncomputable def Pq(K:PySem.W.Frag)(C:Addr):Sp:=λvs H Q _=>∃(f a s:Int) (ma:Addr) (ms:List Int) (l:Option Int) (bv:V) (ns:List Int) (e:Bool),vs = [.int f,.ref ma,.int a,.int s,dO l,bv,.bl e]/\aD K H ma (ms.map V.int)/\(∀x∈ms,0<=x/\x<=1000000000)/\
 j_ f ms.length a s l/\zg K H bv ns/\cJ ns/\∀p mk b dx H',ah H H'->H p=none->eX K C H' p ⟨"write",f,ms.length,ms,a,s,l,ns,e⟩ mk b dx->Q (.ref p) H'
noncomputable def Pr(K:PySem.W.Frag)(C:Addr):Sp:=λvs H Q _=>∃(a:Int),vs = [.int a]/\0<=a/\a<=1000000000000/\∀p mk b dx H',ah H H'->H p=none->eX K C H' p ⟨"rest",0,0,[],a,0,none,[],false⟩ mk b dx->Q (.ref p) H'
noncomputable def kg(x y:Ak):Bool:=decide ((x.kind = "write"\/y.kind = "write")/\x.first<y.first+y.many/\y.first<x.first+x.many)
noncomputable def Pu(K:PySem.W.Frag)(C:Addr):Sp:=λvs H Q _=>∃(p r:Addr) (x y:Ak) (m b dx m' b' lC:Addr),vs = [.ref p,.ref r]/\eX K C H p x m b dx/\eX K C H r y m' b' lC/\Q (.bl (kg x y)) H
theorem zh(n:Int):∀ms:List Int,se (.int n) (ms.map V.int)=decide (n∈ms)
 | []=>rfl
 | m::ms=>by
  have ih:=zh n ms;unfold se at ih ⊢;rw[List.map_cons,List.any_cons,ih,Bool.eq_iff_iff];simp only[ji,Bool.or_eq_true,beq_iff_eq,decide_eq_true_eq,List.mem_cons];constructor
  ·rintro(h | h)
   ·exact .inl h.symm
   ·exact .inr h
  ·rintro(h | h)
   ·exact .inl h.symm
   ·exact .inr h
theorem FU(ms:List Int):(ms.map V.int).all iK=true:=by simp[iK]
theorem FW{X:Cx}{K:PySem.W.Frag}(h:X.K=K):cT X (compareOp .In) (Ew K false):=h▸M_
section
variable{K:PySem.W.Frag}{tl:TE}{g:TG}{tb:TS}{D:Ends}{σ:St}{H:Hp}
theorem rt(a:Addr)(xs:List V)(Pv:Nat->St->Hp->Prop)(ia:∀Q:VK,Q (.ref a) H->tl σ H Q)(dw:aJ K H a xs)(h0:Pv 0 σ H)(hl:∀i σ H,i<=xs.length->Pv i σ H->aJ K H a xs)
  (hs:∀i x σ H (N:St->Hp->Prop),(∀σ H,Pv (i+1) σ H->N σ H)->xs[i]? = some x->Pv i σ H->g x σ H λau H2=>tb { D with nx:=N,ct:=N,bk:=D.nx } au H2) (hd:∀σ H,Pv xs.length σ H->D.nx σ H):f9 (xM K tl) g tb D σ H :=
 ia _ ⟨a,rfl,⟨xs,dw⟩,DT Pv h0 hl (λi x σ H hx p=>hs i x σ H _ (λ_ _ z=>z) hx p) hd⟩
end
structure Sq where
 kind:Str
 first:Int
 many:Int
 marks:List Int
 at_:Int
 cO:Int
 c8:Option Int
 behind:List Int
structure eY(H:Hp)(t:Addr)(q:Sq)(m b:Addr):Prop where
 o:H t=some (.tup [.str q.kind,.int q.first,.int q.many,.ref m,.int q.at_,.int q.cO,dO q.c8,.ref b])
 ms:H m=some (.tup (q.marks.map V.int))
 bh:H b=some (.tup (q.behind.map V.int))
theorem eY.same{H H':Hp}{t:Addr}{q:Sq}{m b:Addr}(h:eY H t q m b)(s:ah H H'):eY H' t q m b:=⟨s _ _ h.o,s _ _ h.ms,s _ _ h.bh⟩
inductive fL (T:Int) (q:Sq):Prop where
 | rest (h1:q.kind = "rest") (h2:q.first=0) (h3:q.many=0) (h4:q.marks = []) (h5:q.cO=0) (h6:q.c8=none) (h7:q.behind = []) (h8:0<=q.at_) (h9:q.at_<=1000000000000)
 | read (h1:q.kind = "read") (h2:q.marks = []) (h3:j_ q.first q.many q.at_ q.cO q.c8) (h4:cJ q.behind) (h5:q.first+q.many<=T)
 | write (h1:q.kind = "write"\/q.kind = "early") (h2:(q.marks.length:Int)=q.many) (sY:∀x∈q.marks,0<=x/\x<=1000000000) (h3:j_ q.first q.many q.at_ q.cO q.c8) (h4:cJ q.behind) (h5:q.first+q.many<=T)
structure FY(T:Int)(os:List Int)(a:Int)(q:Sq):Prop where
 k:fL T q
 a0:a<=q.at_
 a1:q.at_<=a+1500000000
 bh:∀n∈q.behind,n∈os
noncomputable def pO:List V:=[.str "read",.str "read",.str "read",.str "read",.str "write",.str "write",.str "write",.str "write",.str "early",.str "early",.str "rest"]
theorem Pw{i:Int}(h0:0<=i)(h1:i<11):∃k:Str,eu pO i=some (.str k)/\(k = "rest"\/k = "read"\/k = "write"\/k = "early"):=by
 have:i=0\/i=1\/i=2\/i=3\/i=4\/i=5\/i=6\/i=7\/i=8\/i=9\/i=10:=by lia
 rcases this with rfl | rfl | rfl | rfl | rfl | rfl | rfl | rfl | rfl | rfl | rfl
 all_goals first
  | exact⟨"read",rfl,.inr (.inl rfl)⟩
  | exact⟨"write",rfl,.inr (.inr (.inl rfl))⟩
  | exact⟨"early",rfl,.inr (.inr (.inr rfl))⟩
  | exact⟨"rest",rfl,.inl rfl⟩
theorem Px{x y bg:Int}(h0:0<=x)(h1:x<4)(h2:0<=y)(h3:y<bg / 2+1)(h4:bg<=1000000000):0<=x*y/\x*y<=1500000000:=by
 have:x=0\/x=1\/x=2\/x=3:=by lia
 rcases this with rfl | rfl | rfl | rfl <;> lia
noncomputable def Py:Sp:=λvs H Q _=>∃(c m:Int),vs = [.int c,.int m]/\0<=m/\m<=16/\∀(l:Addr) (ms:List Int) (H':Hp),ah H H'->H l=none->H' l=some (.lst (ms.map V.int))->(ms.length:Int)=m->(∀x∈ms,0<=x/\x<=1000000000)->Q (.ref l) H'
noncomputable def Pz(K:PySem.W.Frag):Sp:=λvs H Q _=>∃(c T bg a:Int) (oa:Addr) (os:List Int),vs = [.int c,.int T,.int bg,.int a,.ref oa]/\1<=T/\T<=1000001/\1<=bg/\bg<=1000000000/\0<=a/\a<=900000000000/\H oa=some (.lst (os.map V.int))/\cJ os/\
 ∀t q m b H',ah H H'->H t=none->eY H' t q m b->FY T os a q->Q (.ref t) H'
theorem cJ.len{ns:List Int}(h:cJ ns):ns.length<=100:=by
 have key:∀(l:List Int) (k:Int),l.Pairwise (· < ·)->(∀n∈l,k<=n)->(∀n∈l,n<=99)->(l.length:Int)<=100 - k\/l = []:=by
  intro l
  induction l with
  | nil=>intro k _ _ _;exact .inr rfl
  | cons x l ih =>
   intro k hp h1 h2;obtain⟨hx,hp⟩:=List.pairwise_cons.mp hp;have a1:=h1 x List.mem_cons_self;have a2:=h2 x List.mem_cons_self;left;rcases ih (x+1) hp (λn hn=>hx n hn) λn hn=>h2 n (List.mem_cons_of_mem _ hn) with e | e
   ·rw[List.length_cons];lia
   ·rw[e];simp;lia
 rcases key ns 0 h.up h.lo h.hi with e | e
 ·lia
 ·rw[e];simp
theorem cJ.sub{ns ms:List Int}(h:cJ ns)(s:ms.Sublist ns):cJ ms:=⟨h.up.sublist s,λn hn=>h.lo n (s.subset hn),λn hn=>h.hi n (s.subset hn)⟩
structure cP(H:Hp)(l:Addr)(ts:List Addr)(qs:List Sq):Prop where
 l:H l=some (.lst (ts.map V.ref))
 n:ts.length=qs.length
 t:∀(i:Nat) (t:Addr) (q:Sq),ts[i]? = some t->qs[i]? = some q->∃m b,eY H t q m b
theorem cP.same{H H':Hp}{l:Addr}{ts:List Addr}{qs:List Sq}(h:cP H l ts qs)(s:ah H H'):cP H' l ts qs :=
 ⟨s _ _ h.l,h.n,λi t q e1 e2=>let ⟨m,b,z⟩:=h.t i t q e1 e2;⟨m,b,z.same s⟩⟩
theorem cP.at{H:Hp}{l:Addr}{ts:List Addr}{qs:List Sq}(h:cP H l ts qs){i:Nat}{q:Sq}(e:qs[i]? = some q):∃t m b,(ts.map V.ref)[i]? = some (.ref t)/\eY H t q m b:=by
 have hi:i<ts.length:=by rw[h.n];exact dY e
 obtain⟨m,b,z⟩:=h.t i ts[i] q (List.getElem?_eq_getElem hi) e;exact⟨ts[i],m,b,by simp[hi],z⟩
theorem cP.snoc{H H':Hp}{l t:Addr}{ts:List Addr}{qs:List Sq}{q:Sq}{m b:Addr}(h:cP H l ts qs)(s:ah H H')(z:eY H' t q m b):cP (upd H' l (.lst (ts.map V.ref++[V.ref t]))) l (ts++[t]) (qs++[q]):=by
 have hl:=s _ _ h.l;have hn:=h.n;have up:∀ {a:Addr} {xs:List V},H' a=some (.tup xs)->upd H' l (.lst (ts.map V.ref++[V.ref t])) a=some (.tup xs):=λ{a xs} e=>by
  rw[aG (iB e hl (λz=>nomatch z))];exact e
 refine⟨by rw[aq,List.map_append];rfl,by simp[hn],λi t' q' e1 e2=>?_⟩
 by_cases hi:i<ts.length
 ·rw[List.getElem?_append_left hi] at e1;rw[List.getElem?_append_left (by lia)] at e2
  obtain⟨m',b',z'⟩:=h.t i t' q' e1 e2;exact⟨m',b',up (s _ _ z'.o),up (s _ _ z'.ms),up (s _ _ z'.bh)⟩
 ·rw[List.getElem?_append_right (by lia)] at e1
  rw[List.getElem?_append_right (by lia)] at e2
  have jt:i - ts.length=0:=by
   have:=yQ e1;simp at this;lia
  rw[jt] at e1;rw[← hn,jt] at e2;simp at e1 e2;subst e1 e2;exact⟨m,b,up z.o,up z.ms,up z.bh⟩
noncomputable def ig(qs:List Sq)(n:Nat):List Int:=((List.range n).filter λi=>decide ((qs[i]?).map Sq.kind≠some "rest")).map λ(i:Nat)=>(i:Int)
noncomputable def pP(qs:List Sq):List Int:=ig qs qs.length
theorem FZ{qs:List Sq}{n:Nat}{q:Sq}(e:qs[n]? = some q):ig qs (n+1)=ig qs n++(if ¬ q.kind = "rest" then [(n:Int)] else []):=by
 unfold ig;rw[List.range_succ,List.filter_append,List.map_append];congr 1;by_cases h:q.kind = "rest"
 ·simp[e,h]
 ·simp[e,h]
theorem F_{qs:List Sq}{n:Nat}{x:Int}:x∈ig qs n↔∃i:Nat,i<n/\(qs[i]?).map Sq.kind≠some "rest"/\x=(i:Int):=by
 unfold ig;rw[List.mem_map];constructor
 ·rintro⟨i,hi,rfl⟩;rw[List.mem_filter] at hi;exact⟨i,List.mem_range.mp hi.1,of_decide_eq_true hi.2,rfl⟩
 ·rintro⟨i,h1,h2,rfl⟩;exact⟨i,List.mem_filter.mpr ⟨List.mem_range.mpr h1,decide_eq_true h2⟩,rfl⟩
theorem PB{qs:List Sq}{n:Nat}(h:n<=100):cJ (ig qs n):=by
 refine⟨?_,λx hx=>?_,λx hx=>?_⟩
 ·unfold ig;refine List.Pairwise.map _ (R:=(· < ·)) (λa b pB=>by lia) ?_
  exact List.Pairwise.filter _ List.pairwise_lt_range
 ·obtain⟨i,_,_,rfl⟩:=F_.mp hx;lia
 ·obtain⟨i,hi,_,rfl⟩:=F_.mp hx;lia
theorem PD(qs:List Sq)(n:Nat):(ig qs n).length<=n:=by
 unfold ig;rw[List.length_map];exact Nat.le_trans (List.length_filter_le _ _) (by simp)
structure lG(T:Int)(qs:List Sq):Prop where
 k:∀(i:Nat) (q:Sq),qs[i]? = some q->fL T q
 bh:∀(i:Nat) (q:Sq),qs[i]? = some q->∀n∈q.behind,n∈pP (qs.take i)
 up:∀(i:Nat) (q q':Sq),qs[i]? = some q->qs[i+1]? = some q'->q.at_<=q'.at_
theorem lG.snoc{T a:Int}{qs:List Sq}{q:Sq}(h:lG T qs)(ok:FY T (pP qs) a q)(hl:∀q0,qs[qs.length - 1]? = some q0->q0.at_=a):lG T (qs++[q]):=by
 have at_:∀(i:Nat) (x:Sq),(qs++[q])[i]? = some x->(i<qs.length/\qs[i]? = some x)\/(i=qs.length/\x=q):=λi x e=>by
  by_cases hi:i<qs.length
  ·rw[List.getElem?_append_left hi] at e;exact .inl ⟨hi,e⟩
  ·have:=dY e;rw[List.length_append,List.length_singleton] at this;have e2:i=qs.length:=by lia
   subst e2;rw[List.getElem?_append_right (Nat.le_refl _)] at e;simp at e;exact .inr ⟨rfl,e.symm⟩
 have tk:∀i:Nat,i<=qs.length->pP ((qs++[q]).take i)=pP (qs.take i):=λi hi=>by rw[List.take_append_of_le_length hi]
 refine⟨λi x e=>?_,λi x e=>?_,λi x y e1 e2=>?_⟩
 ·rcases at_ i x e with⟨_,e⟩ | ⟨_,rfl⟩
  ·exact h.k i x e
  ·exact ok.k
 ·rcases at_ i x e with⟨hi,e⟩ | ⟨rfl,rfl⟩
  ·rw[tk i (by lia)];exact h.bh i x e
  ·rw[tk _ (Nat.le_refl _),List.take_length];exact ok.bh
 ·rcases at_ i x e1 with⟨hi,f1⟩ | ⟨rfl,rfl⟩
  ·rcases at_ (i+1) y e2 with⟨hj,f2⟩ | ⟨hj,rfl⟩
   ·exact h.up i x y f1 f2
   ·have:=hl x (by rw[show qs.length - 1=i by lia];exact f1)
    rw[this];exact ok.a0
  ·have:=dY e2;rw[List.length_append,List.length_singleton] at this;lia
section
variable{X:Cx}
noncomputable def YY(K:PySem.W.Frag):R2:=λx y H Q=>∃l k xs,x = .ref l/\y = .int k/\H l=some (.tup xs)/\xs≠[]/\xs.length<=1000/\1<=k/\k<=1000/\∀p H',ah H H'->H' p=some (.tup (List.replicate k.toNat xs).flatten)->Q (.ref p) H'
end
noncomputable def bT(q:Sq):Ak:=⟨if q.kind = "early" then "write" else q.kind,q.first,q.many,q.marks,q.at_,q.cO,q.c8,q.behind,decide (q.kind = "early")⟩
theorem cK{a b:String}(h:a≠b):(a:Str)≠(b:Str):=λe=>h (by rw[E5] at e;exact e)
theorem PF{T:Int}{q:Sq}(h:q.kind = "rest")(k:fL T q):bT q=⟨"rest",0,0,[],q.at_,0,none,[],false⟩/\0<=q.at_/\q.at_<=1000000000000:=by
 cases k with
 | rest h1 h2 h3 h4 h5 h6 h7 h8 h9 =>
  refine⟨?_,h8,h9⟩;unfold bT;rw[h1,h2,h3,h4,h5,h6,h7,if_neg (cK (by decide)),decide_eq_false (cK (by decide))]
 | read h1=>rw[h] at h1;exact absurd h1 (cK (by decide))
 | write h1 =>
  rw[h] at h1;rcases h1 with z | z <;> exact absurd z (cK (by decide))
theorem PJ{T:Int}{q:Sq}(h:q.kind = "read")(k:fL T q):bT q=⟨"read",q.first,q.many,[],q.at_,q.cO,q.c8,q.behind,false⟩/\j_ q.first q.many q.at_ q.cO q.c8/\cJ q.behind:=by
 cases k with
 | rest h1=>rw[h] at h1;exact absurd h1 (cK (by decide))
 | read h1 h2 h3 h4 h5 =>
  refine⟨?_,h3,h4⟩;unfold bT;rw[h1,h2,if_neg (cK (by decide)),decide_eq_false (cK (by decide))]
 | write h1 =>
  rw[h] at h1;rcases h1 with z | z <;> exact absurd z (cK (by decide))
theorem PL{T:Int}{q:Sq}(n1:q.kind≠"rest")(n2:q.kind≠"read")(k:fL T q):bT q=⟨"write",q.first,q.marks.length,q.marks,q.at_,q.cO,q.c8,q.behind,decide (q.kind = "early")⟩/\j_ q.first q.marks.length q.at_ q.cO q.c8/\cJ q.behind/\∀x∈q.marks,0<=x/\x<=1000000000:=by
 cases k with
 | rest h1=>exact absurd h1 n1
 | read h1=>exact absurd h1 n2
 | write h1 h2 sY h3 h4 h5 =>
  refine⟨?_,by rw[h2];exact h3,h4,sY⟩
  unfold bT;rw[h2];rcases h1 with z | z
  ·rw[z,if_neg (cK (by decide))]
  ·rw[z,if_pos rfl]
noncomputable def PM(K:PySem.W.Frag)(C:Addr):Sp:=λvs H Q _=>∃(t:Addr) (q:Sq) (m b:Addr) (T:Int),vs = [.ref t]/\eY H t q m b/\fL T q/\∀p mk bb dx H',ah H H'->H p=none->eX K C H' p (bT q) mk bb dx->Q (.ref p) H'
theorem PN{X:Cx}{K:PySem.W.Frag}{e:Expr}{f:Str}{pos:Pos}{ta:TE}(h:X.K=K)(he:PE X e ta)(hb:attributeBase e f X.env (eval e X.env)=eval e X.env):PE X (.Attribute e f pos) (D8 K ta f):=h▸dm he hb
structure iR(K:PySem.W.Frag)(C:Addr)(H:Hp)(l:Addr)(ps:List Addr)(qs:List Ak):Prop where
 l:H l=some (.lst (ps.map V.ref))
 n:ps.length=qs.length
 t:∀(i:Nat) (p:Addr) (q:Ak),ps[i]? = some p->qs[i]? = some q->∃m b dx,eX K C H p q m b dx
section
variable{K:PySem.W.Frag}{C:Addr}{H H':Hp}{l:Addr}{ps:List Addr}{qs:List Ak}
theorem iR.same(h:iR K C H l ps qs)(s:ah H H'):iR K C H' l ps qs:=⟨s _ _ h.l,h.n,λi p q e1 e2=>let ⟨m,b,dx,z⟩:=h.t i p q e1 e2;⟨m,b,dx,z.same s⟩⟩
theorem iR.at(h:iR K C H l ps qs){i:Nat}{q:Ak}(e:qs[i]? = some q):∃p m b dx,(ps.map V.ref)[i]? = some (.ref p)/\eX K C H p q m b dx:=by
 have hi:i<ps.length:=by rw[h.n];exact(List.getElem?_eq_some_iff.mp e).1
 obtain⟨m,b,dx,z⟩:=h.t i ps[i] q (List.getElem?_eq_getElem hi) e;exact⟨ps[i],m,b,dx,by rw[List.getElem?_map,List.getElem?_eq_getElem hi];rfl,z⟩
theorem Zt.PR{H:Hp}{l p:Addr}{ts:List Addr}{z:List (List Int)}(h:Zt H l ts z){r:List Int}(hp:H p=some (.tup (r.map V.int))):Zt (upd H l (.lst (ts.map V.ref++[V.ref p]))) l (ts++[p]) (z++[r]):=by
 have ne:∀ {t:Addr} {xs:List V},H t=some (.tup xs)->t≠l:=λe q=>by rw[q,h.l] at e;cases e
 refine⟨by rw[aq,List.map_append];rfl,by simp[h.n],λi t x e1 e2=>?_⟩
 by_cases hi:i<ts.length
 ·rw[List.getElem?_append_left hi] at e1;rw[List.getElem?_append_left (by rw[← h.n];exact hi)] at e2
  have:=h.t i t x e1 e2;rw[aG (ne this)];exact this
 ·rw[List.getElem?_append_right (by lia)] at e1
  rw[List.getElem?_append_right (by rw[← h.n];lia),← h.n] at e2
  have hj:i - ts.length=0:=by
   have:=(List.getElem?_eq_some_iff.mp e1).1;simp at this;lia
  rw[hj] at e1 e2;cases e1;cases e2;rw[aG (ne hp)];exact hp
noncomputable def sZ(qs:List Ak)(k:Nat):List Int:=((List.range k).filter λ(j:Nat)=>match qs[k]?,qs[j]? with
 | some q,some q0=>decide ((j:Int)∈q.behind) || kg q q0
 | _,_=>false).map λ(j:Nat)=>(j:Int)
noncomputable def PU(K:PySem.W.Frag)(CA:Addr):Sp:=λvs H Q _=>∃(la:Addr) (ps:List Addr) (qs:List Ak) (k:Nat) (q:Ak),vs = [.ref la,.int (k:Int)]/\iR K CA H la ps qs/\qs[k]? = some q/\qs.length<=100/\q.behind.length<=1000/\
 ∀t H',ah H H'->H t=none->H' t=some (.tup ((sZ qs k).map V.int))->Q (.ref t) H'
noncomputable def mU(qs:List Ak)(n:Nat):List (List Int):=(List.range n).map (sZ qs)
noncomputable def lH(x y:Sq):Bool:=decide (¬ (x.kind = "rest"\/y.kind = "rest"\/(x.kind = "read"/\y.kind = "read"))/\x.first<y.first+y.many/\y.first<x.first+x.many)
noncomputable def PV:Sp:=λvs H Q _=>∃(t t':Addr) (x y:Sq) (m b m' b':Addr),vs = [.ref t,.ref t']/\eY H t x m b/\eY H t' y m' b'/\Q (.bl (lH x y)) H
noncomputable def fz(qs:List Sq)(k:Nat):List Int:=((List.range k).filter λ(j:Nat)=>match qs[k]?,qs[j]? with
 | some q,some q0=>lH q0 q || decide ((j:Int)∈q.behind)
 | _,_=>false).map λ(j:Nat)=>(j:Int)
noncomputable def PX:Sp:=λvs H Q _=>∃(la:Addr) (ts:List Addr) (qs:List Sq),vs = [.ref la]/\cP H la ts qs/\qs.length<=100/\(∀q∈qs,q.behind.length<=1000)/\∀l us H',ah H H'->H l=none->(∀t∈us,H t=none)->Zt H' l us ((List.range qs.length).map (fz qs))->Q (.ref l) H'
theorem Sq.kinds{T:Int}{q:Sq}(k:fL T q):q.kind = "rest"\/q.kind = "read"\/q.kind = "write"\/q.kind = "early" := by
 cases k with
 | rest h=>exact .inl h
 | read h=>exact .inr (.inl h)
 | write h=>exact .inr (.inr h)
theorem PY{T:Int}{x y:Sq}(hx:fL T x)(hy:fL T y):kg (bT x) (bT y)=lH y x:=by
 have rz:∀ {q:Sq},fL T q->q.kind = "rest"->q.first=0/\q.many=0:=λ{q} k h=>by
  cases k with
  | rest _ h2 h3=>exact⟨h2,h3⟩
  | read h1=>rw[h] at h1;exact absurd h1 (cK (by decide))
  | write h1=>rcases h1 with h1 | h1 <;> (rw[h] at h1;exact absurd h1 (cK (by decide)))
 have f0:∀ {q:Sq},fL T q->0<=q.first:=λ{q} k=>by
  cases k with
  | rest _ h2=>lia
  | read _ _ h3=>exact h3.f0
  | write _ _ _ h3=>exact h3.f0
 have n1:((Str.ofString "write"):Str)≠"rest" := cK (by decide)
 have n2:((Str.ofString "write"):Str)≠"read" := cK (by decide)
 have n3:((Str.ofString "early"):Str)≠"rest" := cK (by decide)
 have n4:((Str.ofString "early"):Str)≠"read" := cK (by decide)
 have n5:((Str.ofString "read"):Str)≠"rest" := cK (by decide)
 have n6:((Str.ofString "read"):Str)≠"write" := cK (by decide)
 have n7:((Str.ofString "rest"):Str)≠"write" := cK (by decide)
 have n8:((Str.ofString "rest"):Str)≠"early" := cK (by decide)
 have n9:((Str.ofString "read"):Str)≠"early" := cK (by decide)
 have na:((Str.ofString "rest"):Str)≠"read" := cK (by decide)
 have nb:((Str.ofString "write"):Str)≠"early" := cK (by decide)
 unfold kg lH bT;dsimp only;rw[decide_eq_decide];have xf:=f0 hx;have yf:=f0 hy;rcases Sq.kinds hx with kx | kx | kx | kx <;> rcases Sq.kinds hy with ky | ky | ky | ky <;> simp only[kx,ky,n1,n2,n3,n4,n5,n6,n7,n8,n9,na,nb,n1.symm,n5.symm,if_true,if_false,true_or,or_true,false_or,or_false,not_true,not_false_iff,true_and,false_and,and_true,and_false,and_self,or_self] <;>
  (try have z1:=rz hx kx) <;> (try have z2:=rz hy ky) <;> first | lia | (rw[iff_false];lia)
end
noncomputable abbrev Us:=List (Addr×List Int)
noncomputable def uV(zs:Us):List V:=zs.map λz=>V.ref z.1
noncomputable def Ga(H:Hp)(zs:Us):Prop:=∀z,z∈zs->H z.1=some (.tup (z.2.map V.int))
section
variable{X:Cx}{pins:List (Addr×Obj)}{σ:St}{H:Hp}{s:Shared}
end
section
variable{X:Cx}
noncomputable def YZ(K:PySem.W.Frag)(neg:Bool):R2:=λx y H Q=>∃(a p:Addr) (c:List Int) (zs:Us),x = .ref a/\y = .ref p/\H a=some (.tup (c.map V.int))/\aD K H p (uV zs)/\Ga H zs/\
 Q (.bl (if neg then !decide (c∈zs.map (·.2)) else decide (c∈zs.map (·.2)))) H
noncomputable def Y0:V->List V->Hp->VK->Prop:=λx vs H Q=>∃(l a:Addr) (zs:Us) (c:List Int),x = .ref l/\vs = [.ref a]/\H l=some (.lst (uV zs))/\Ga H zs/\H a=some (.tup (c.map V.int))/\c∈zs.map (·.2)/\
 ∀(k:Nat) (h:k<zs.length),zs[k].2=c->(∀m (hm:m<zs.length),m<k->zs[m].2≠c)->Q .aH (upd H l (.lst (uV (zs.eraseIdx k))))
end
section
variable{K:PySem.W.Frag}{tl:TE}{g:TG}{tt:TT}{te:TE}{nt:Nat}{fv:List Nat}{Q:VK}{σ:St}{H:Hp}
end
section
variable{prog:Program}{w:World}{A:Around}{E:Value->Shared->Prop}{h:Heap}{g:Array GenState}{d:Drawn}{t:Nat}{os:OsState}
variable{nm q:Str}{C N:Addr}{bs bm cN:List Value}{hdct:Bool}{sn:List Str}{sub:List Value}{ab:Bool}{col:Option Bool}{dd:Option Addr}{k0 k1 k2 k3 k5:Option Value}{B newId d7:String}
theorem PZ(F:ExcBaseFacts B newId d7 cN)(T:OwnTail h cN bm){mN:Str->Option Value}{rest:List Value}{fI:Addr}{oI:Obj}{Q:Fin->Shared->Prop}
  (hC:h.get? C=some (excClassObj nm q C N bs bm hdct sn sub ab col dd k0 k1 k2 k3 k5 newId)) (hn:h.Ns N mN) (hi:mN "__init__" = some (.ref fI)) (zj:h.get? fI=some oI) (lI:oI.cls = .type "function")
  (hq:∀h' e,Heap.MadeExcOf h h' e (.ref C) rest->wpAny (model prog w) A (call (.ref fI) (.ref e::rest)) (λr s'=>r = .none/\Q (.done (.ret (.ref e))) s') E ⟨h',g,d,t,os⟩) (hrest:rest.length<=sizeLine) :
  wpAny (model prog w) A (Builtin.«type.__call__» ⟨.ref C::rest,[]⟩) Q E ⟨h,g,d,t,os⟩:=by
 repeat (first | with_reducible refine wpAny_loadPart_at hC ?_ | with_reducible refine wpAny_madeBy_exc hC ?_ | wp_step)
 refine codeAny_call_builtin_code (Code.quiet_builtin _ F.quiet) (wpAny_check_new_subT F T hC ?_);refine codeAny_exc_new_subT F T hC ?_ hrest
 show wpAny _ _ _ _ _ _;generalize hh:(h.push { cls:=.type "tuple",data:=.seq rest.toArray }).push { cls:=.ref C,data:=.fields #[.ref h.objs.size,.none,.none,.none,.bool false,.none] }=h2;have keeps:∀b o,h.get? b=some o->h2.get? b=some o:=λb o e=>by rw[← hh];exact Heap.get?_push_of_some _ (Heap.get?_push_of_some _ e)
 have Gb:h2.get? (h.objs.size+1)=some { cls:=.ref C,data:=.fields #[.ref h.objs.size,.none,.none,.none,.bool false,.none] }:=by rw[← hh];heap_get
 have P0:h2.get? h.objs.size=some { cls:=.type "tuple",data:=.seq rest.toArray }:=by rw[← hh];exact Heap.get?_push_of_some _ (Heap.get?_push_at rfl rfl)
 have P1:(Value.ref C::bm).contains (.ref C)=true:=by simp
 have pG:=keeps _ _ hC;unfold isInstance
 repeat (first | with_reducible refine wpAny_loadPart_at Gb ?_ | (with_reducible refine wpAny_isSubtype_exc pG ?_;rw[P1]) | wp_step)
 show wpAny _ _ (typeLookup (.ref C) _) _ _ _;refine wpAny_typeLookup_tail pG (hn.keeps keeps) (T.keeps keeps) F.mroIs F.init.lookup ?_;rw[hi];refine wpAny_holding (wpAny_bind ?_);unfold bindSpecial;refine wpAny_bind (wpAny_typeOf (T := "function") ⟨_,keeps _ _ zj,lI⟩ ?_);rw[if_pos (by decide)]
 refine wpAny_pure (wpAny_bind (wpAny_mono (hq h2 (h.objs.size+1) ⟨keeps,Heap.get?_none_of_le (Nat.le_succ _),h.objs.size,Gb,Heap.get?_none_of_le (Nat.le_refl _),P0⟩) (λr s' hr=>?_) λ_ _ x=>x));obtain⟨rfl,hQ⟩:=hr;wp_walk;exact hQ
theorem Gd(F:ExcBaseFacts B newId d7 cN)(T:OwnTail h cN bm){mN:Str->Option Value}{rest:List Value}{fI:Addr}{oI:Obj}{Q:Value->Shared->Prop}
  (hC:h.get? C=some (excClassObj nm q C N bs bm hdct sn sub ab col dd k0 k1 k2 k3 k5 newId)) (hn:h.Ns N mN) (hi:mN "__init__" = some (.ref fI)) (zj:h.get? fI=some oI) (lI:oI.cls = .type "function")
  (hq:∀h' e,Heap.MadeExcOf h h' e (.ref C) rest->wpAny (model prog w) (A.under (.builtin "type.__call__" ⟨.ref C::rest,[]⟩)) (call (.ref fI) (.ref e::rest)) (λr s'=>r = .none/\Q (.ref e) s') E ⟨h',g,d,t,os⟩) (hrest:rest.length<=sizeLine) :
  wpAny (model prog w) A (call (.ref C) rest) Q E ⟨h,g,d,t,os⟩:=by
 have f1:=tc_lookup;have f2:=tc_bind (.ref C);have hT:(⟨h,g,d,t,os⟩:Shared).TypeIs (.ref C) "type" := ⟨_,hC,rfl⟩;refine wpAny_call (codeAny_of_tree ?_)
 show wpAny _ _ (callAny (.ref C) _) _ _ _
 repeat (any_goals (first | assumption | with_reducible refine wpAny_loadPart_at hC ?_ | wp_step))
 refine⟨rfl,?_⟩;refine codeAny_call_builtin_at (Code.quiet_builtin _ (by decide +kernel)) entry_typeCall (wpAny_check_type_call_sub hC (PZ (hrest:=hrest) F T hC hn hi zj lI λh' e hm=>?_))
 exact hq h' e hm
theorem P4{s:Shared}{M:Model}{env:Env}{x:Sem Value}{Q:Flow->Shared->Prop}(jk:bm.contains (.type "BaseException")=true)(hh:A.handled=none)
  (h:wpAny M A x (λv aO=>∃(e:Addr) (od:Option Addr) (vs:Array Value) (sl:Array (Option Value)),v = .ref e/\aO.heap.get? C=some (excClassObj nm q C N bs bm hdct sn sub ab col dd k0 k1 k2 k3 k5 newId)/\
   aO.heap.get? e=some { cls:=.ref C,dict:=od,data:=.fields vs,slots:=sl }/\vs[1]? = some .none/\E (.ref e) aO) E s) :
  wpAny M A (raiseStmt env (some x) none) Q E s:=by
 have mS:(Value.ref C::bm).contains (.type "BaseException")=true:=by rw[List.contains_cons,jk,Bool.or_true]
 unfold raiseStmt;refine wpAny_bind (wpAny_mono h (λv aO cE=>?_) λ_ _ x=>x);obtain⟨e,od,vs,sl,rfl,hC,he,h1,hE⟩:=cE;obtain⟨hp,g,d,tk,os⟩:=aO
 repeat (first | with_reducible refine wpAny_loadPart_at he ?_ | with_reducible refine wpAny_loadPart_at hC ?_ | (with_reducible refine wpAny_isSubtype_exc hC ?_;rw[mS]) | wp_step)
 rw[h1];exact wpAny_pure (by rw[if_neg (by decide)];exact wpAny_pure (wpAny_raiseNew_none hh hE))
end
end _L
namespace _L
open PySem PySem.W PySem.Builtin.ObjectAttr
noncomputable def mV(cN:List Value):List Value->Bool
 | []=>cN == []
 | v::r=>(v::r) == cN || match v with
  | .ref _=>mV cN r
  | _=>false
theorem Ge{self:Value}{s_:Str}{cN:List Value}(h:refuseLoop self s_ cN=pure ()):∀ {l:List Value},mV cN l=true->refuseLoop self s_ l=pure ()
 | [],e=>by have e:=beq_iff_eq.mp e;rw[e] at h;exact h
 | v::r,e=>by
  unfold mV at e;rcases Bool.or_eq_true_iff.mp e with q | q
  ·rw[beq_iff_eq.mp q];exact h
  ·cases v <;> first | (cases q;done) | (rw[refuseLoop_ref];exact Ge h q)
structure iS(K:Frag)(C:Addr):Prop where
 sa:findIn K (.ref C) "__setattr__" = some (some (.builtin "object.__setattr__"))
 hd:hasDictIn K C=true
 mro:PySem.W.mroIn K C (.type "object")=some true
 tl:(clsIn K C).any (λcd=>mV [.type "ValueError",.type "Exception",.type "BaseException",.type "object"] cd.mro)=true
section
variable{prog:Program}{w:World}{A:Around}{E:Value->Shared->Prop}{R:Result->Shared->Prop}{s:Shared}{K:Frag}{x C:Addr}{o:Obj}{name:Str}{v:Value}
theorem P5{tk:Tok}(X:K.In s.heap)(hx:s.heap.get? x=some o)(hc:o.cls = .ref C)(S:iS K C)(ht:findIn K (.ref C) name=some none)
  (h:wpAny (model prog w) A.in1 (storeInOwnDict (.ref x) (.ref C) (.str name tk) name v false)
   (λfin s'=>match fin with | .done f=>R (.ok f) s' | .again c'=>c'.quiet=true/\codeAny (model prog w) A c' R s') (λe s'=>R (.error e) s') s) :
  codeAny (model prog w) A (.call (.builtin "object.__setattr__") ⟨[.ref x,.str name tk,v],[]⟩) R s:=by
 have SF:=PySem.F.store_ValueError;obtain⟨cd,cA,ho⟩:=any_some S.tl;have T:Looks (model prog w) s.heap (typeOf (.ref x)) (.ref C):=hc▸(Looks.ld hx).andThen .now;have sub:Looks (model prog w) s.heap (isInstance (.ref x) (.type "object")) true:=T.andThen (looks_mroIn X S.mro);refine codeAny_call_builtin SF.slot.plain SF.entry (@check_slot (model prog w) _ _ s "object.__setattr__" "object" "__setattr__" (.ref x) [.str name tk,v] [] _ SF.kind SF.split sub (SF.args (.ref x) (.str name tk) v) ?_);have hm:Looks (model prog w) s.heap (mroOf (.ref C)) cd.mro:=(looks_clsIn X cA).andThen .now;have L3:Looks (model prog w) s.heap (storeTaker? none) none:=.now;rw[osa_eq,refuse_eq];refine wpAny_bind (wpAny_bind (T.here (wpAny_bind (hm.here ?_))));rw[Ge (SF.passes _) ho];refine wpAny_pure (wpAny_bind (T.here (wpAny_bind ((looks_findIn X ht).here (wpAny_bind (L3.here ?_))))));exact h
theorem Gf{Q:Unit->Shared->Prop}(X:K.In s.heap)(hx:s.heap.get? x=some o)(hc:o.cls = .ref C)(S:iS K C)(ht:findIn K (.ref C) name=some none)
  (h:wpAny (model prog w) A.in1 (storeInOwnDict (.ref x) (.ref C) (.str name s.toks) name v false)
   (λfin s'=>match fin with | .done (.ret _)=>Q () s' | _=>False) (λe s'=>False) { s with toks:=s.toks+1 }) :
  wpAny (model prog w) A (setAttr (.ref x) name v) Q E s:=by
 have T:Looks (model prog w) s.heap (typeOf (.ref x)) (.ref C):=hc▸(Looks.ld hx).andThen .now;refine wpAny_bind (wpAny_mkText (wpAny_bind (wpAny_bind (wpAny_bind (T _ _ _ _ (λ_ _ e=>e) (looks_findIn X S.sa _ _ _ _ (λ_ _ e=>e) (wpAny_holding ?_)))))));rw[PySem.F.store_object.slot.bind];refine wpAny_bind (wpAny_pure (wpAny_bind (wpAny_call (codeAny_mono (P5 (s:={ s with toks:=s.toks+1 }) (R:=λr s'=>match r with | .ok (.ret _)=>Q () s' | .ok _=>False | .error e=>False) X hx hc S ht (wpAny_mono h (λfin s' z=>?_) λ_ _ z=>z)) λr s' z=>?_))))
 ·rcases fin with(_ | _ | _ | v) | _ <;> first | exact z.elim | exact z
 ·rcases r with e | (v | _ | _ | _) <;> first | exact z.elim | exact wpAny_pure (wpAny_pure z)
theorem P6{Q:Unit->Shared->Prop}{vs:Array Value}{sl:Array (Option Value)}(X:K.In s.heap)(hx:s.heap.get? x=some { cls:=.ref C,dict:=none,data:=.fields vs,slots:=sl })(S:iS K C)(ht:findIn K (.ref C) name=some none)
  (h:∀h' d tk,d=s.heap.objs.size->h'.Ns1 d (λy=>if y=name then some v else none)->h'.get? x=some { cls:=.ref C,dict:=some d,data:=.fields vs,slots:=sl }->(∀b ob,b≠x->s.heap.get? b=some ob->h'.get? b=some ob)->Q () { s with heap:=h',toks:=tk }) :
  wpAny (model prog w) A (setAttr (.ref x) name v) Q E s:=by
 refine Gf X hx rfl S ht ?_;obtain⟨cd,cA,dj⟩:=any_some S.hd;obtain⟨hh,g,dr,t,os⟩:=s;have pL:hh.get? x=some { cls:=.ref C,dict:=none,data:=.fields vs,slots:=sl }:=hx;have Lc:=looks_clsIn (M:=model prog w) X cA;have Gg:(hh.push { cls:=.type "dict",data:=.dict #[] }).get? x=some { cls:=.ref C,dict:=none,data:=.fields vs,slots:=sl }:=Heap.get?_push_of_some _ pL;have Gh:x≠hh.objs.size:=Nat.ne_of_lt (Heap.lt_size pL);unfold storeInOwnDict ownDictForStores instanceDict;have eV:Obj.isFreed { cls:=.ref C,dict:=some hh.objs.size,data:=.fields vs,slots:=sl }=false:=rfl;refine wpAny_bind (wpAny_pure (wpAny_bind ?_));refine wpAny_bind (wpAny_loadPart pL (wpAny_bind (Lc.here (s:=⟨hh,g,dr,t+1,os⟩) ?_)));rw[dj]
 show wpAny _ _ (alloc _ >>= λd=>update x _ >>= λ_=>dictMade (.ref C) x d) _ _ _;refine wpAny_bind (wpAny_alloc (wpAny_bind (wpAny_update Gg (wpAny_pure ?_))));have P7:((hh.push { cls:=.type "dict",data:=.dict #[] }).update x λo=>{ cls:=o.cls,dict:=some hh.objs.size,data:=o.data,slots:=o.slots }).get? hh.objs.size=some { cls:=.type "dict",data:=.dict #[] } :=
  (Heap.get?_update_ne _ _ _ _ Gh.symm).trans (Heap.get?_push_at rfl rfl)
 have P8:((hh.push { cls:=.type "dict",data:=.dict #[] }).update x λo=>{ cls:=o.cls,dict:=some hh.objs.size,data:=o.data,slots:=o.slots }).Ns hh.objs.size (λ_=>none):=⟨_,#[],_,P7,rfl,λe he=>absurd he (by simp),λ_=>rfl⟩
 show wpAny _ _ (storeInDict hh.objs.size (.str name t) name v) _ _ _;unfold storeInDict newKeyGuard;refine wpAny_bind (wpAny_pure (wpAny_bind (wpAny_nsSet1 (Heap.Ns1.of_empty P8) λh' fc hs=>?_)));obtain⟨oD,D3,D4,oE,oF,oG⟩:=fc.count (Within.cons name v Within.nil);refine wpAny_bind (wpAny_lookBehind oE (by rw[oF];exact pastItsLine_dict (Nat.le_trans oG (by rw[List.length_cons,List.length_nil,sizeLine_eq];lia))) ?_)
 refine wpAny_pure (h h' hh.objs.size _ rfl fc ?_ λb ob hb e=>?_)
 ·exact(hs.2 x Gh).trans (Heap.get?_update_self _ Gg eV)
 ·exact(hs.2 b (Nat.ne_of_lt (Heap.lt_size e))).trans ((Heap.get?_update_ne _ _ _ _ hb).trans (Heap.get?_push_of_some _ e))
theorem P9{Q:Unit->Shared->Prop}{d:Addr}{mA:Str->Option Value}{ns:List Str}{vs:Array Value}{sl:Array (Option Value)}(X:K.In s.heap)(hx:s.heap.get? x=some { cls:=.ref C,dict:=some d,data:=.fields vs,slots:=sl })(S:iS K C)(ht:findIn K (.ref C) name=some none)
  (hn:s.heap.Ns1 d mA) (hw:Within mA ns) (hz:ns.length<1000)
  (h:∀h' tk,h'.Ns1 d (λy=>if y=name then some v else mA y)->(∀b,b≠d->h'.get? b=s.heap.get? b)->Q () { s with heap:=h',toks:=tk }) :
  wpAny (model prog w) A (setAttr (.ref x) name v) Q E s:=by
 refine Gf X hx rfl S ht ?_;obtain⟨cd,cA,dj⟩:=any_some S.hd;obtain⟨hh,g,dr,t,os⟩:=s;have Lc:=looks_clsIn (M:=model prog w) X cA;unfold storeInOwnDict ownDictForStores instanceDict;refine wpAny_bind (wpAny_pure (wpAny_bind ?_));refine wpAny_bind (wpAny_loadPart hx (wpAny_bind (Lc.here (s:=⟨hh,g,dr,t+1,os⟩) ?_)));rw[dj]
 show wpAny _ _ (pure (some d)) _ _ _;refine wpAny_pure ?_
 show wpAny _ _ (storeInDict d (.str name t) name v) _ _ _;unfold storeInDict newKeyGuard;refine wpAny_bind (wpAny_pure (wpAny_bind (wpAny_nsSet1 hn λh' fc hs=>?_)));obtain⟨oD,D3,D4,oE,oF,oG⟩:=fc.count (Within.cons name v hw);refine wpAny_bind (wpAny_lookBehind oE (by rw[oF];exact pastItsLine_dict (Nat.le_trans oG (by rw[List.length_cons,sizeLine_eq];lia))) ?_)
 exact wpAny_pure (h h' _ fc hs.2)
end
end _L
namespace _L
open PySem PySem.Spec PyProof.Rows
noncomputable def mW(K:PySem.W.Frag)(C fI:Addr):Bool:=match K.lookup C with
 | some ⟨_,_,.cls cd,_⟩=>PySem.W.nsIn K cd.ns "__init__" == some (some (.ref fI))
 | _=>false
theorem P_{K:PySem.W.Frag}{h:Heap}{N:Addr}{mg:Str->Option Value}{n:Str}{v:Value}(X:K.In h)(G:h.Ns N mg)(e:PySem.W.nsIn K N n=some (some v)):mg n=some v:=by
 obtain⟨o,es,ep,ho,hd,_,hf⟩:=G;unfold PySem.W.nsIn at e;split at e
 ·rename_i c d nU n' sl q;have:=X _ _ q;rw[ho] at this;cases this;cases hd;rw[← hf n];unfold nsFind findBy;rw[← Array.find?_toList];split at e
  ·rename_i y q';rw[q'];exact Option.some.inj e
  ·split at e <;> cases e
 ·cases e
theorem zm{K:PySem.W.Frag}{h₀:Heap}{C fI:Addr}{cN:List Value}{newId:String}(X:K.In h₀)(q:iO K C cN newId=true)(qi:mW K C fI=true) :
  ∃bm N nm q bs hdct sn sub ab col dd k0 k1 k2 k3 k5 mN,h₀.get? C=some (excClassObj nm q C N bs bm hdct sn sub ab col dd k0 k1 k2 k3 k5 newId)/\h₀.Ns N mN/\mN "__init__" = some (.ref fI)/\OwnTail h₀ cN bm:=by
 unfold iO at q;unfold mW at qi;cases e:K.lookup C with
 | none=>rw[e] at q;cases q
 | some o =>
  rw[e] at q qi;split at q
  ·rename_i dd cd sl ho;cases ho;split at q
   ·rename_i C' bm k0 k1 k2 k3 n k5 hm hs;simp only[Bool.and_eq_true,beq_iff_eq,Bool.not_eq_true'] at q qi;obtain⟨⟨⟨⟨c1,c2⟩,c3⟩,c4⟩,c5⟩:=q;obtain⟨nm,bs,mro,ns,qn,hd,sn,sub,ab,col,del⟩:=cd;obtain⟨l⟩:=sl;dsimp only at hm hs c3 c5 qi;subst c1 c2 hm c3 hs;have hN:h₀.Ns ns (h₀.nsMap ns):=.of_isNs (PySem.W.isNs_of_in X c5);exact⟨bm,ns,nm,qn,bs,hd,sn,sub,ab,col,dd,k0,k1,k2,k3,k5,_,X _ _ e,hN,P_ X hN qi,PySem.W.tail_of_in X c4⟩
   ·cases q
  ·cases q
noncomputable def cV(a C:Addr)(od:Option Addr):HO:=.ext λh=>∃(vs:Array Value) (sl:Array (Option Value)),h.get? a=some { cls:=.ref C,dict:=od,data:=.fields vs,slots:=sl }/\(vs[1]? = some .none/\vs[2]? = some .none/\4<vs.size)/\∃a0,vs[0]? = some a0
noncomputable def cW(d:Addr)(fs:List (Str×V)):HO:=.ext λh=>∃mA,h.Ns1 d mA/\∀f,dI (fs.lookup f) (mA f)
section
variable{P:Program}{w:World}{H:Hp}{h:Heap}{a C d:Addr}{od:Option Addr}{fs:List (Str×V)}
theorem tu{vs:Array Value}{sl:Array (Option Value)}{a0:Value}(e:h.get? a=some { cls:=.ref C,dict:=od,data:=.fields vs,slots:=sl })(h1:vs[1]? = some .none/\vs[2]? = some .none/\4<vs.size)(h0:vs[0]? = some a0):bQ P w H h a (cV a C od) :=
 ⟨⟨vs,sl,e,h1,a0,h0⟩,⟨_,e⟩,λ_ _ ⟨vs,sl,q,z⟩ k=>⟨vs,sl,k _ q,z⟩⟩
theorem Gi{mA:Str->Option Value}(n:h.Ns1 d mA)(r:∀f,dI (fs.lookup f) (mA f)):bQ P w H h d (cW d fs) :=
 ⟨⟨mA,n,r⟩,let ⟨o,_,_,e,_⟩:=n;⟨o,e⟩,λ_ _ ⟨mA,⟨o,es,ep,e,c⟩,r⟩ k=>⟨mA,⟨o,es,ep,k _ e,c⟩,r⟩⟩
theorem pQ(ok:bM P w H h)(e:H a=some (cV a C od)):∃(vs:Array Value) (sl:Array (Option Value)),h.get? a=some { cls:=.ref C,dict:=od,data:=.fields vs,slots:=sl }/\(vs[1]? = some .none/\vs[2]? = some .none/\4<vs.size)/\∃a0,vs[0]? = some a0:=by
 obtain⟨z,_,_⟩:=(show bQ P w H h a (cV a C od) from ok a _ e);exact z
theorem Gj(ok:bM P w H h)(e:H d=some (cW d fs)):∃mA,h.Ns1 d mA/\∀f,dI (fs.lookup f) (mA f):=by
 obtain⟨z,_,_⟩:=(show bQ P w H h d (cW d fs) from ok d _ e);exact z
end
theorem lookup_none{f:Str}:∀ {fs:List (Str×V)},f∉fs.map (·.1)->fs.lookup f=none
 | [],_=>rfl
 | (g,x)::r,h=>by
  rw[List.map_cons,List.mem_cons,not_or] at h;have hb:(f == g)=false:=beq_eq_false_iff_ne.mpr h.1;simp only[List.lookup,hb];exact lookup_none h.2
theorem Within.Qa{fs:List (Str×V)}{mA:Str->Option Value}(r:∀f,dI (fs.lookup f) (mA f)):PySem.Within mA (fs.map (·.1)):=λf h=>by
 by_cases m:f∈fs.map (·.1)
 ·exact m
 ·exact absurd (dI.none_of (by rw[← lookup_none m];exact r f)) h
section
variable{X:Cx}{pins:List (Addr×Obj)}{σ:St}{H:Hp}{s:Shared}{a C d:Addr}{od:Option Addr}{fs:List (Str×V)}{f:Str}{A:Around}{E:Value->Shared->Prop}
theorem Inv.zo{o:HO}(I:Inv X pins σ H s)(n:H a=none)(e0:X.aI.heap.get? a=none)(nL:a≠X.env.locals)(nc:∀x c,X.env.cells.lookup x=some c->c≠a)(np:∀p∈X.pn++pins,p.1≠a)(new:bQ X.prog X.w (upd H a o) s.heap a o):Inv X pins σ (upd H a o) s:=by
 have ne:∀b v,H b=some v->b≠a:=λb v q z=>by rw[z,n] at q;cases q
 have up:∀b v,H b=some v->upd H a o b=some v:=λb v q=>by rw[aG (ne b v q)];exact q
 have un:∀b,b≠a->H b=none->upd H a o b=none:=λb z q=>by rw[aG z];exact q
 refine⟨I.ok,I.os,I.bare,⟨I.base.keep,I.base.slot,λb o q n' hx=>un b (λz=>by rw[z,e0] at q;cases q) (I.base.free b o q n' hx),I.base.there,λb xs q=>up b _ (I.base.d9 b xs q),λb o u q=>up b _ (I.base.dQ b o u q),λb ps q=>let ⟨m,z⟩:=I.base.d_ b ps q;⟨m,up b _ z⟩⟩,
  I.loc,I.cell,un _ (Ne.symm nL) I.free,λx c q=>un c (nc x c q) (I.e_ x c q),λp hp=>let ⟨q1,q2,q3⟩:=I.pin p hp;⟨q1,un _ (np p hp) q2,q3⟩,λb v q=>?_,I.len⟩
 by_cases z:b=a
 ·subst z;rw[aq] at q;cases q;exact new
 ·rw[aG z] at q;exact(I.aC b v q).e8 (λ_ _ _ e=>e) (λd e=>up d _ e) λd xs e=>up d _ e
theorem Qc{y:V}{u:Value}{Q:Unit->Shared->Prop}(I:Inv X pins σ H s)(ea:H a=some (cV a C none))(S:iS X.K C)(n:bW X.K C f)(ry:RelV y u)
  (h:∀d s',H d=none->Inv X pins σ (upd (upd H a (cV a C (some d))) d (cW d [(f,y)])) s'->Q () s'):wpAny (model X.prog X.w) A (setAttr (.ref a) f u) Q E s:=by
 obtain⟨vs,sl,e,h1,a0,h0⟩:=pQ I.aC ea;refine P6 I.bN e S n λh' d tk ed hn pR kp=>?_;have nd:H d=none:=I.aC.fresh (by rw[ed];exact Nat.le_refl _)
 have da:d≠a:=λz=>by rw[z,ea] at nd;cases nd
 have old:∀b o,s.heap.get? b=some o->b≠d:=λb o q=>by rw[ed];exact Nat.ne_of_lt (Heap.lt_size q)
 have I1:Inv X pins σ (upd H a (cV a C (some d))) { s with heap:=h',toks:=tk }:=I.write (x:=a) (e:=a) (by rw[ea];exact True.intro) (.inl rfl) (λb o hb q=>kp b o hb q) ⟨_,pR⟩ (tu pR h1 h0)
 obtain⟨m,⟨oL,_,_,iD,_⟩,_⟩:=I.loc;refine h d _ nd (I1.zo (by rw[aG da];exact nd) ?_ (Ne.symm (old _ _ iD)) (λy c e=>?_) (λp hp=>old _ _ (I.pin p hp).1) (Gi hn λg=>?_))
 ·cases q:X.aI.heap.get? d with
  | none=>rfl
  | some o =>
   have h1:=Heap.lt_size q;have h2:=I.ok.above;have h3:=Heap.lt_size iD;rw[ed] at h1;exact absurd (Nat.lt_of_lt_of_le h1 h2) (Nat.lt_asymm h3)
 ·obtain⟨v,o,q,_⟩:=I.cell y c e;exact old _ _ q
 ·show dI (List.lookup g [(f,y)]) (if g=f then some u else none)
  by_cases q:g=f
  ·have hb:(g == f)=true:=beq_iff_eq.mpr q;simp only[List.lookup,hb,if_pos q];exact ry
  ·have hb:(g == f)=false:=beq_eq_false_iff_ne.mpr q;simp only[List.lookup,hb,if_neg q];exact True.intro
theorem Qd{y:V}{u:Value}{Q:Unit->Shared->Prop}(I:Inv X pins σ H s)(ea:H a=some (cV a C (some d)))(ed:H d=some (cW d fs))(S:iS X.K C)(n:bW X.K C f)(hl:fs.length<1000)(ry:RelV y u)
  (h:∀s',Inv X pins σ (upd H d (cW d (cY f y fs))) s'->Q () s'):wpAny (model X.prog X.w) A (setAttr (.ref a) f u) Q E s:=by
 obtain⟨vs,sl,e,h1,a0,h0⟩:=pQ I.aC ea;obtain⟨mA,hn,r⟩:=Gj I.aC ed;refine P9 I.bN e S n hn (Within.Qa r) (by rw[List.length_map];exact hl) λh' tk fc kp=>h _ ?_
 have dj:∃o,h'.get? d=some o:=let ⟨o,_,_,e',_⟩:=fc;⟨o,e'⟩
 refine I.write (x:=d) (e:=d) (by rw[ed];exact True.intro) (.inl rfl) (λb o hb q=>(kp b hb).trans q) dj (Gi fc λg=>?_)
 rw[xW];by_cases q:g=f
 ·rw[if_pos q,if_pos q];exact ry
 ·rw[if_neg q,if_neg q];exact r g
end
noncomputable def Qe(K:PySem.W.Frag)(ta tv:TE)(f:Str):TS:=λD σ H=>tv σ H λy H1=>ta σ H1 λx H2=>∃a C,x = .ref a/\H2 a=some (cV a C none)/\iS K C/\bW K C f/\∀d,H2 d=none->D.nx σ (upd (upd H2 a (cV a C (some d))) d (cW d [(f,y)]))
noncomputable def Qf(K:PySem.W.Frag)(ta tv:TE)(f:Str):TS:=λD σ H=>tv σ H λy H1=>ta σ H1 λx H2=>∃a C d fs,x = .ref a/\H2 a=some (cV a C (some d))/\H2 d=some (cW d fs)/\iS K C/\bW K C f/\fs.length<1000/\D.nx σ (upd H2 d (cW d (cY f y fs)))
section
variable{X:Cx}{o value:Expr}{f:Str}{pos pos':Pos}{ta tv:TE}
theorem zp(ha:PE X o ta)(hv:PE X value tv)(hs:swapsWith value (some (.Attribute o f pos')) pos.line X.env=pure false):PS X (.Assign [.Attribute o f pos'] value pos) (Qe X.K ta tv f):=by
 intro pins s σ H D I h;refine plainObj_wpAny_Assign_Attribute (aQ (hv pins s σ H _ I h) λu s1 ⟨y,H1,I1,ry,q⟩=>aQ (ha pins s1 σ H1 _ I1 q) λov s2 ⟨x,H2,I2,rx,a,C,ex,ea,S,n,q2⟩=>?_) hs;subst ex;obtain rfl:ov=Value.ref a:=rx;exact Qc I2 ea S n ry λd s3 nd I3=>⟨σ,_,I3,q2 d nd⟩
theorem zq(ha:PE X o ta)(hv:PE X value tv)(hs:swapsWith value (some (.Attribute o f pos')) pos.line X.env=pure false):PS X (.Assign [.Attribute o f pos'] value pos) (Qf X.K ta tv f):=by
 intro pins s σ H D I h;refine plainObj_wpAny_Assign_Attribute (aQ (hv pins s σ H _ I h) λu s1 ⟨y,H1,I1,ry,q⟩=>aQ (ha pins s1 σ H1 _ I1 q) λov s2 ⟨x,H2,I2,rx,a,C,d,fs,ex,ea,ed,S,n,l,q2⟩=>?_) hs;subst ex;obtain rfl:ov=Value.ref a:=rx;exact Qd I2 ea ed S n l ry λs3 I3=>⟨σ,_,I3,q2⟩
end
structure Gk(K:PySem.W.Frag)(C:Addr)(m:Str)(id:String):Prop where
 ga:PySem.W.specialIn K (.ref C) "__getattribute__" = some (some (.builtin "type.__getattribute__"))
 rd:PySem.W.readsIn K C (.type "type")=true
 at_:PySem.W.findCls K (.ref C) (.type "type") m=some (.val (.builtin id))
 hh:PySem.W.handedIn (.builtin id)=true
theorem Qg{M:Model}{A:Around}{E:Value->Shared->Prop}{s:Shared}{env:Env}{pos:Pos}{id:String}{first:List Value}{Q:Value->Shared->Prop}{e:Expr}{rest:List Expr}
  (h:wpAny M A (spliced (backTo pos (starEach (e::rest) env))) (λvs aO=>wpAny M A (call (.builtin id) (first++vs)) Q E aO) E s)
  (he:starEach (e::rest) env=(false,eval e env)::starEach rest env) (kZ:(backTo pos (starEach rest env)).any (·.1)=false) :
  wpAny M A (callWith pos (.builtin id) first (backTo pos (starEach (e::rest) env)) []) Q E s:=by
 rw[he] at h ⊢;exact PySem.W.callWith_of (P:=λ_=>True) (by show ((false || (backTo pos (starEach rest env)).any (·.1)) || false)=false;rw[kZ];rfl) (λh _=>⟨.machine,.inr (.inl rfl),.now⟩) (Calls.evalArgs_plain (wpAny_mono h (λvs aO z=>⟨trivial,z⟩) λ_ _ z=>z))
section
variable{prog:Program}{w:World}{A:Around}{E:Value->Shared->Prop}{h:Heap}{g:Array GenState}{d:Drawn}{t:Nat}{os:OsState}
variable{nm q:Str}{C N e:Addr}{bs bm cN:List Value}{hdct:Bool}{sn:List Str}{sub:List Value}{ab:Bool}{col:Option Bool}{dd:Option Addr}{k0 k1 k2 k3 k5:Option Value}{B newId d7:String}
theorem Qh(F:ExcBaseFacts B newId d7 cN)(T:OwnTail h cN bm){rest:List Value}{od:Option Addr}{vs:Array Value}{sl:Array (Option Value)}{a0:Value}{Q:Value->Shared->Prop}
  (hC:h.get? C=some (excClassObj nm q C N bs bm hdct sn sub ab col dd k0 k1 k2 k3 k5 newId)) (he:h.get? e=some { cls:=.ref C,dict:=od,data:=.fields vs,slots:=sl }) (h0:vs[0]? = some a0) (hrest:rest.length<=sizeLine)
  (hq:Q .none ⟨(h.push { cls:=.type "tuple",data:=.seq rest.toArray }).update e (Obj.mapFields (·.setIfInBounds 0 (.ref h.objs.size))),g,d,t,os⟩) :
  wpAny (model prog w) A (call (.builtin d7) (.ref e::rest)) Q E ⟨h,g,d,t,os⟩:=by
 refine wpAny_call (codeAny_call_builtin F.init.plain F.initEntry (wpAny_check_init_subT F T hC he rfl ?_));have hz:0<vs.size:=(Array.getElem?_eq_some_iff.mp h0).1;wp_walk;rw[h0];refine wpAny_pure (wpAny_bind (wpAny_setField (Heap.get?_push_of_some _ he) rfl hz ?_));cases a0 <;> (wp_walk;exact hq)
end
noncomputable def Qi(K:PySem.W.Frag)(bm:List Value)(newId:String)(t:TA):TE:=λσ H Q=>t σ H λvs H1=>∃a C fI ws,vs = .ref a::ws/\H1 a=some (cV a C none)/\iO K C bm newId=true/\mW K C fI=true/\ws.length<=sizeLine/\Q .aH H1
section
variable{X:Cx}{x:Str}{C0:Addr}{bm:List Value}{newId d7 B:String}{p pos apos:Pos}{e:Expr}{es:List Expr}{t:TA}
theorem zu{pl:Sem Bool}(hg:Gl X x)(hm:X.mg x=some (.ref C0))(c:Gk X.K C0 "__init__" d7)(FB:ExcBaseFacts B newId d7 bm)(ha:PA X (e::es) t)
  (cC:starEach (e::es) X.env=(false,eval e X.env)::starEach es X.env:=by rfl) (dJ:(backTo pos (starEach es X.env)).any (·.1)=false:=by rfl) (dD:(x == ("__debug__" : Str))=false:=by decide)
  (ht:eval (.Call (.Attribute (.Name x p) "__init__" apos) (e::es) [] pos) X.env=(do
   let ov ← eval (.Name x p) X.env
   standAt apos.atName
   let (f,first) ← holding [ov] (getMethod ov "__init__" pl)
   callWith pos f first (backTo pos (starEach (e::es) X.env)) (backToKw pos (keywordEach [] X.env))):=by rfl) :
  PE X (.Call (.Attribute (.Name x p) "__init__" apos) (e::es) [] pos) (Qi X.K bm newId t):=by
 intro pins s σ H Q I h;refine PySem.W.methodCall_KW (pl:=pl) (i_ I hg hm ?_ dD) ht;refine PySem.W.method_cls I.bN c.ga (PySem.W.cls_value I.bN c.rd c.at_ c.hh ?_);have I':=I.tok (s.toks+1);refine Qg (first:=[]) (aQ (ha pos pins _ σ H _ I' h) λus s2 ⟨vs,H2,I2,r,a,C,fI,ws,ev,ea,q,qi,hz,q2⟩=>?_) cC dJ
 subst ev;obtain⟨zw,sl,ex,h1,a0,h0⟩:=pQ I2.aC ea;obtain⟨tl,N,nm,qn,bs,hdct,sn,sub,ab,col,dd,k0,k1,k2,k3,k5,mN,hC,hN,hi,T⟩:=zm I2.bN q qi;cases r with
 | @cons _ u _ tw ru r =>
  obtain rfl:u=Value.ref a:=ru;obtain⟨hh,g,d,tk,os⟩:=s2;have eV:Obj.isFreed { cls:=.ref C,dict:=none,data:=.fields (zw.setIfInBounds 0 (.ref hh.objs.size)),slots:=sl }=false:=rfl;have pR:((hh.push { cls:=.type "tuple",data:=.seq tw.toArray }).update a (Obj.mapFields (·.setIfInBounds 0 (.ref hh.objs.size)))).get? a=some { cls:=.ref C,dict:=none,data:=.fields (zw.setIfInBounds 0 (.ref hh.objs.size)),slots:=sl } :=
   Heap.get?_update_self _ (Heap.get?_push_of_some _ ex) eV
  have I3:Inv X pins σ (upd H2 a (cV a C none)) ⟨(hh.push { cls:=.type "tuple",data:=.seq tw.toArray }).update a (Obj.mapFields (·.setIfInBounds 0 (.ref hh.objs.size))),g,d,tk,os⟩:=by
   refine I2.write (x:=a) (e:=a) (t':=tk) (by rw[ea];exact True.intro) (.inl rfl) (λb o hb q=>?_) ⟨_,pR⟩ (tu pR ?_ (a0:=.ref hh.objs.size) ?_)
   ·rw[Heap.get?_update_other _ _ (Ne.symm hb)];exact Heap.get?_push_of_some _ q
   ·rw[Array.getElem?_setIfInBounds_ne (by decide),Array.getElem?_setIfInBounds_ne (by decide),Array.size_setIfInBounds];exact h1
   ·have hz:0<zw.size:=(Array.getElem?_eq_some_iff.mp h0).1;simp[hz]
  have eH:upd H2 a (cV a C none)=H2:=by
   funext b
   by_cases z:b=a
   ·subst z;rw[aq];exact ea.symm
   ·exact aG z
  rw[eH] at I3;exact Qh FB T hC ex h0 (by rw[← r.length];exact hz) ⟨.aH,H2,I3,rfl,q2⟩
end
section
variable{prog:Program}{w:World}{A:Around}{E:Value->Shared->Prop}{s:Shared}{env:Env}
variable{nm q:Str}{C N:Addr}{bs bm cN:List Value}{hdct:Bool}{sn:List Str}{sub:List Value}{ab:Bool}{col:Option Bool}{dd:Option Addr}{k0 k1 k2 k3 k5:Option Value}{B newId d7:String}
noncomputable def Qj(C:Addr)(E:Value->Shared->Prop)(v:Value)(aO:Shared):Prop:=∃(e:Addr) (od:Option Addr) (vs:Array Value) (sl:Array (Option Value)),v = .ref e/\aO.heap.get? e=some { cls:=.ref C,dict:=od,data:=.fields vs,slots:=sl }/\vs[1]? = some .none/\E (.ref e) aO
theorem Qk{x:Str}{np bX pos:Pos}{args:List Expr}{Q:Flow->Shared->Prop}(jk:bm.contains (.type "BaseException")=true)(hh:A.handled=none)(kZ:(backTo bX (starEach args env)).any (·.1)=false)
  (h:wpAny (model prog w) A (eval (.Name x np) env) (λf aO=>f = .ref C/\wpAny (model prog w) A (evalArgs (.ref C) true (backTo bX (starEach args env)) [])
   (λa b_=>a.kw = []/\b_.heap.get? C=some (excClassObj nm q C N bs bm hdct sn sub ab col dd k0 k1 k2 k3 k5 newId)/\wpAny (model prog w) A (call (.ref C) a.pos) (λv cu=>cu.heap.get? C=some (excClassObj nm q C N bs bm hdct sn sub ab col dd k0 k1 k2 k3 k5 newId)/\Qj C E v cu) E b_) E aO) E s) :
  wpAny (model prog w) A (exec (.Raise (some (.Call (.Name x np) args [] bX)) none pos) env) Q E s:=by
 rw[arm_exec_Raise];refine wpAny_bind (wpAny_standAt (P4 (C:=C) (nm:=nm) (q:=q) (N:=N) (bs:=bs) (bm:=bm) (hdct:=hdct) (sn:=sn) (sub:=sub) (ab:=ab) (col:=col) (dd:=dd) (k0:=k0) (k1:=k1) (k2:=k2) (k3:=k3) (k5:=k5) (newId:=newId) jk hh (wpAny_bind (wpAny_mono (wpAny_Call_ofName (wpAny_mono h (λf aO cE=>?_) λ_ _ x=>x)) (λv cu jm=>wpAny_bind (wpAny_standAt (wpAny_pure jm))) λ_ _ x=>x))));obtain⟨rfl,cE⟩:=cE;unfold callWith;refine wpAny_bind (wpAny_holding (wpAny_mono cE (λa b_ fK=>wpAny_bind (wpAny_standAt ?_)) λ_ _ x=>x));obtain⟨apos,zx⟩:=a;obtain⟨zy,hC,fK⟩:=fK;obtain rfl:zx = []:=zy;obtain⟨hp,g,d,tk,os⟩:=b_;simp only[kZ];refine wpAny_bind (wpAny_keeperOf_exc hC ?_);refine wpAny_bind (wpAny_mono fK (λv cu z=>wpAny_bind (wpAny_holding (wpAny_point (wpAny_pure ?_)))) λ_ _ z=>z);obtain⟨lJ,e,od,vs,sl,rfl,he,h1,hE⟩:=z;exact⟨e,od,vs,sl,rfl,lJ,he,h1,hE⟩
end
noncomputable def iT(H:Hp)(a:Addr):Hp:=λb=>if b=a then none else H b
theorem pS{H:Hp}{a:Addr}:iT H a a=none:=by unfold iT;rw[if_pos rfl]
theorem pT{H:Hp}{a b:Addr}(h:b≠a):iT H a b=H b:=by unfold iT;rw[if_neg h]
theorem Inv.drop{X:Cx}{pins:List (Addr×Obj)}{σ:St}{H:Hp}{s:Shared}{a:Addr}{φ:Heap->Prop}(I:Inv X pins σ H s)(e:H a=some (.ext φ)):Inv X pins σ (iT H a) s:=by
 have ne:∀b v,H b=some v->(∀ψ,v≠.ext ψ)->b≠a:=λb v q n z=>by rw[z,e] at q;exact n φ (Option.some.inj q).symm
 have up:∀b v,H b=some v->(∀ψ,v≠.ext ψ)->iT H a b=some v:=λb v q n=>by rw[pT (ne b v q n)];exact q
 have un:∀b,H b=none->iT H a b=none:=λb q=>by
  by_cases z:b=a
  ·rw[z];exact pS
  ·rw[pT z];exact q
 refine⟨I.ok,I.os,I.bare,⟨I.base.keep,I.base.slot,λb o q n hx=>un b (I.base.free b o q n hx),I.base.there,λb xs q=>up b _ (I.base.d9 b xs q) (λ_ z=>nomatch z),λb o u q=>up b _ (I.base.dQ b o u q) (λ_ z=>nomatch z),λb ps q=>let ⟨m,z⟩:=I.base.d_ b ps q;⟨m,up b _ z (λ_ z=>nomatch z)⟩⟩,
  I.loc,I.cell,un _ I.free,λx c q=>un c (I.e_ x c q),λp hp=>let ⟨q1,q2,q3⟩:=I.pin p hp;⟨q1,un _ q2,q3⟩,λb v q=>?_,I.len⟩
 have hb:b≠a:=λz=>by rw[z,pS] at q;cases q
 rw[pT hb] at q;exact(I.aC b v q).e8 (λ_ _ _ e=>e) (λd e=>up d _ e λ_ z=>nomatch z) λd xs e=>up d _ e λ_ z=>nomatch z
noncomputable def Gm(X:Cx)(E:XK):Prop:=∀(pins:List (Addr×Obj)) (σ:St) (H:Hp) (s:Shared) (a C:Addr) (od:Option Addr) (vs:Array Value) (sl:Array (Option Value)) (a0:Value),Inv X pins σ H s->H a=none->X.aI.heap.get? a=none->
 s.heap.get? a=some { cls:=.ref C,dict:=od,data:=.fields vs,slots:=sl }->(vs[1]? = some .none/\vs[2]? = some .none/\4<vs.size)->vs[0]? = some a0->E (.ref C) (od.map (2 * ·)) H->X.xe (.ref a) s
section
variable{P:Program}{w:World}{K:PySem.W.Frag}{mg:Str->Option Value}{base:Heap}{N:List Str}{qual:Str}{scope:Scope}{f:Addr}{cd:Value}{A:Around}{outer:List Env}{aI:Shared}{cz:Hp}{E:XK}
theorem zz:Gm (fH (dZ P w base) P w K mg base N qual scope f cd A outer aI cz E) E:=by
 intro pins σ H' s' a C od vs sl a0 I na n0 he h1 h0 hE
 show wpAny _ _ (leaving _ _) _ _ _;have fr:s'.heap.FunFrames base (envOfC qual scope aI.heap.objs.size f cd::outer):=I.stack;have free:∀b∈aY (envOfC qual scope aI.heap.objs.size f cd::outer),H' b=none:=λb hb=>by
  rw[yW] at hb;rcases List.mem_cons.mp hb with rfl | hb
  ·exact I.free
  ·obtain⟨_,o,q,_⟩:=I.ok.dB.mem hb;exact I.base.free b o q (I.ok.e9 b hb) (by simp[fH])
 have n0:aI.heap.get? a=none:=n0;have ba:base.get? a=none:=by
  cases q:base.get? a with
  | none=>rfl
  | some o =>
   have:=(I.ok.bs a o q).1;exact absurd (n0.symm.trans this) (by intro z;cases z)
 have nb:∀b o,base.get? b=some o->b∉a::aY (envOfC qual scope aI.heap.objs.size f cd::outer):=λb o q hm=>by
  rcases List.mem_cons.mp hm with rfl | hm
  ·rw[ba] at q;cases q
  ·have z:=(fr.mem hm).1;rw[q] at z;cases z
 generalize hB:PySem.W.hideAll s'.heap (a::aY (envOfC qual scope aI.heap.objs.size f cd::outer))=B;have kB:∀b o,B.get? b=some o->s'.heap.get? b=some o:=λb o q=>by rw[← hB] at q;exact PySem.W.of_hideAll _ q
 have kA:∀b o,s'.heap.get? b=some o->b≠a->b∉aY (envOfC qual scope aI.heap.objs.size f cd::outer)->B.get? b=some o:=λb o q z hb=>by
  rw[← hB];exact PySem.W.hideAll_get _ q λhm=>(List.mem_cons.mp hm).elim z hb
 have st:base.StaysIn B:=λb o q=>by rw[← hB];exact PySem.W.hideAll_get _ (I.bk b o q) (nb b o q)
 have Ba:B.get? a=none:=by rw[← hB];exact PySem.W.hideAll_none _ (.head _)
 refine OU (s:=s') (e:=a) (base:=B) (a0:=a0) I.ok.frames rfl kB (by rw[← hB];exact PySem.W.funFrames_hide fr λenv he b hb=>.tail _ (List.mem_filterMap.mpr ⟨env,he,hb⟩)) he Ba rfl h1.1 h0 (od:=od.map (2 * ·)) ⟨_,he,by cases od <;> simp,λ_ _ _=>h1.2.1⟩ λh' bZ up hd=>?_
 have gk:Un (aY outer) [] cz H' aI.heap s'.heap:=I.base;have nl:∀b o,aI.heap.get? b=some o->b∉aY outer->b∉aY (envOfC qual scope aI.heap.objs.size f cd::outer):=λb o q n z=>by
  rw[yW] at z;rcases List.mem_cons.mp z with e | z
  ·exact absurd (Heap.lt_size q) (by rw[e];exact Nat.lt_irrefl _)
  ·exact n z
 have Gn:∀b o,aI.heap.get? b=some o->b≠a:=λb o q z=>by rw[z,n0] at q;cases q
 have k1:∀b o,aI.heap.get? b=some o->cz b=none->b∉aY outer->B.get? b=some o:=λb o q n hb=>kA b o (gk.keep b o q n hb (by simp)) (Gn b o q) (nl b o q hb)
 have k3:∀b o,aI.heap.get? b=some o->b∉aY outer->∃o',B.get? b=some o':=λb o q hb =>
  let ⟨o1,q1⟩:=gk.there b o q (by simp);⟨o1,kA b o1 q1 (Gn b o q) (nl b o q hb)⟩
 have k2:∀b u,H' b=some u->∃o,B.get? b=some o:=λb u e =>
  let ⟨o,q⟩:=I.aC.there e;⟨o,kA b o q (λz=>by rw[z,na] at e;cases e) λhm=>by rw[free b hm] at e;cases e⟩
 have slt:∀b o,aI.heap.get? b=some o->cz b=none->b∈aY outer->∃sl,h'.get? b=some { o with slots:=sl }:=λb o q n hb=>by
  obtain⟨sl,q1⟩:=gk.slot b o q n hb (by simp)
  obtain⟨_,o2,q2,nf⟩:=I.ok.dB.mem hb;have q2:aI.heap.get? b=some o2:=q2;rw[q] at q2;cases q2;obtain⟨jR,q3⟩:=up b _ q1 nf;exact⟨jR,q3⟩
 refine⟨a,C,a0,H',B,od.map (2 * ·),rfl,I.os,I.bare,⟨λb o q n hb _=>bZ.1 _ _ (k1 b o q n hb),λb o q n hb _=>slt b o q n hb,gk.free,λb o q _=>?_,gk.d9,gk.dQ,gk.d_⟩,λb v e=>?_,na,n0,⟨st,k1,k2,k3⟩,bZ,hd,hE⟩
 ·by_cases hb:b∈aY outer
  ·obtain⟨sl,q1⟩:=slt b o q (I.ok.e9 b hb) hb;exact⟨_,q1⟩
  ·obtain⟨o',q1⟩:=k3 b o q hb;exact⟨o',bZ.1 _ _ q1⟩
 ·refine(I.aC b v e).e8 (λd z hd q=>?_) (λ_ q=>q) λ_ _ q=>q;have tr:∃v',H' d=some v':=by
   rcases hd with rfl | hd
   ·exact⟨_,e⟩
   ·exact⟨_,hd⟩
  obtain⟨v',e'⟩:=tr;obtain⟨o,q1⟩:=k2 d v' e';have:=kB d o q1;rw[q] at this;cases this;exact bZ.1 _ _ q1
end
noncomputable def kh(C:Addr)(names:List Str):Sp:=λws H Q _=>∃a vs,ws = .ref a::vs/\vs.length=names.length/\H a=some (cV a C none)/\∀d,H d=none->Q .aH (upd (upd H a (cV a C (some d))) d (cW d (names.zip vs)))
structure pU(K:PySem.W.Frag)(C fI:Addr)(bm:List Value)(newId:String):Prop where
 ok:iO K C bm newId=true
 pW:mW K C fI=true
 fn:PySem.W.typeIn K (.ref fI)=some (.type "function")
noncomputable def Ql(C:Addr)(names:List Str)(bq:List V)(E:XK)(t:TA):TS:=λ_ σ H=>t σ H λvs H1=>vs.length<=sizeLine/\(vs++bq).length=names.length/\∀d,H1 d=none->E (.ref C) (some (2*d)) (upd H1 d (cW d (names.zip (vs++bq))))
section
variable{X:Cx}{E:XK}{x:Str}{C fI:Addr}{bm:List Value}{newId d7 B:String}{np bX pos:Pos}{eB:Expr}{rest:List Expr}{t:TA}{k:Nat}{fd:FuncData}{ps names:List Str}{bq:List V}{ds:List Value}
theorem zA(hx:Gm X E)(hg:Gl X x)(hm:X.mg x=some (.ref C))(q:pU X.K C fI bm newId)(FB:ExcBaseFacts B newId d7 bm)(hc:X.calm=true)(hex:X.ex = [])(F:a_ X.prog X.w X.K X.mg X.base bw k fI fd ps (kh C names))(hr:bY (k+1) X.A)(hb:Binds X.K fd ps ds)(hd:Vals bq ds)
  (ha:PA X (eB::rest) t) (he:starEach (eB::rest) X.env=(false,eval eB X.env)::starEach rest X.env:=by rfl) (dJ:(backTo bX (starEach rest X.env)).any (·.1)=false:=by rfl) (dD:(x == ("__debug__" : Str))=false:=by rfl) :
  PS X (.Raise (some (.Call (.Name x np) (eB::rest) [] bX)) none pos) (Ql C names bq E t):=by
 intro pins s σ H D I h;obtain⟨tl,N,nm,qn,bs,hdct,sn,sub,ab,col,dd,k0,k1,k2,k3,k5,mN,hC,hN,hi,T⟩:=zm I.mod.i9 q.ok q.pW;refine Qk (C:=C) (nm:=nm) (q:=qn) (N:=N) (bs:=bs) (bm:=tl) (hdct:=hdct) (sn:=sn) (sub:=sub) (ab:=ab) (col:=col) (dd:=dd) (k0:=k0) (k1:=k1) (k2:=k2) (k3:=k3) (k5:=k5) (newId:=newId)
  (T.hasType FB.hasBase) (I.ok.hd hc) (by rw[he];show (false || (backTo bX (starEach rest X.env)).any (·.1))=false;rw[dJ];rfl) (i_ I hg hm ⟨rfl,?_⟩ dD)
 have hA:=ha bX pins s σ H _ I h;rw[he] at hA ⊢;refine Calls.evalArgs_plain (wpAny_mono hA (λus b_ fK=>?_) λ_ _ y=>y);obtain⟨vs,H1,J,r,hl,hn,hE⟩:=fK;refine⟨rfl,J.bk _ _ hC,?_⟩
 show wpAny _ _ (call (.ref C) us) _ _ b_;obtain⟨oI,zB,lI⟩:∃oI,b_.heap.get? fI=some oI/\oI.cls = .type "function" := by
  obtain⟨o,ho,e⟩:=Option.map_eq_some_iff.mp q.fn;exact⟨o,J.bN _ _ ho,e⟩
 have zC:=λ(b:Addr) (z:b_.heap.get? b=none)=>(show H1 b=none from by
  cases e:H1 b with
  | none=>rfl
  | some v=>obtain⟨o,q⟩:=J.aC.there e;rw[z] at q;cases q)
 obtain⟨hp,g,dr,tk,os⟩:=b_;refine Gd FB (T.keeps J.bk) (J.bk _ _ hC) (hN.keeps J.bk) hi zB lI (λh' a mx=>?_) (by rw[← r.length];exact hl)
 have na:H1 a=none:=zC a mx.new;obtain⟨tp,zD,Qm,Qn⟩:=mx.there;have old:∀b o,hp.get? b=some o->b≠a:=λb o q z=>by rw[z,mx.new] at q;cases q
 obtain⟨m,⟨oL,_,_,iD,_⟩,_⟩:=id J.loc;have pX:X.aI.heap.get? a=none:=by
  cases q:X.aI.heap.get? a with
  | none=>rfl
  | some o =>
   obtain⟨o1,q1⟩:=J.base.there a o q (by rw[hex];simp)
   exact absurd rfl (old a o1 q1)
 have I2:Inv X pins σ H1 ⟨h',g,dr,tk,os⟩:=J.kept (t':=tk) mx.keeps;have I3:Inv X pins σ (upd H1 a (cV a C none)) ⟨h',g,dr,tk,os⟩:=I2.zo na pX (Ne.symm (old _ _ iD)) (λy c e=>by obtain⟨v,o,q,_⟩:=J.cell y c e;exact old _ _ q) (λp hp=>old _ _ (J.pin p hp).1) (tu zD ⟨rfl,rfl,(show (4:Nat)<6 by decide)⟩ (a0:=.ref tp) rfl)
 have r2:Vals (V.ref a::(vs++bq)) (Value.ref a::(us++ds)):=.cons rfl (r.append hd);have hq:kh C names (V.ref a::(vs++bq)) (upd H1 a (cV a C none)) (λv H2=>v = .aH/\∃d,H1 d=none/\d≠a/\H2=upd (upd (upd H1 a (cV a C none)) a (cV a C (some d))) d (cW d (names.zip (vs++bq)))) E0 :=
  ⟨a,_,rfl,hn,aq,λd nd=>⟨rfl,d,(by
   by_cases z:d=a
   ·rw[z,aq] at nd;cases nd
   ·rw[aG z] at nd;exact nd),(λz=>by rw[z,aq] at nd;cases nd),rfl⟩⟩
 refine wpAny_call (codeAny_mono (F.run _ X.stack _ _ ⟨Value.ref a::us,[]⟩ (Value.ref a::(us++ds)) _ _ E0 (hr.make C us []) (I3.oJ.make C us []) (hb _ (Value.ref a::us) I3.bN (r2.length.symm.trans (F.len _ _ _ _ hq))) r2 hq) λr s' b8=>?_)
 match r,b8 with
 | .error e,b8=>exact False.elim b8
 | .ok .next,b8=>exact False.elim b8
 | .ok .brk,b8=>exact False.elim b8
 | .ok .cont,b8=>exact False.elim b8
 | .ok (.ret u),b8 =>
  obtain⟨v,H',I4,rv,ev,d,nd,da,eH⟩:=I3.after b8;subst ev;have ea:H' a=some (cV a C (some d)):=by rw[eH,aG (Ne.symm da),aq]
  obtain⟨ws,sl,gx,g1,a0,g0⟩:=pQ I4.aC ea;refine⟨rv,I4.bk _ _ hC,a,some d,ws,sl,rfl,gx,g1.1,hx pins σ (iT H' a) s' a C (some d) ws sl a0 (I4.drop ea) pS pX gx g1 g0 ?_⟩;have:iT H' a=upd H1 d (cW d (names.zip (vs++bq))):=by
   funext b
   by_cases z:b=a
   ·subst z;rw[pS,aG (Ne.symm da)];exact na.symm
   ·rw[pT z,eH];by_cases y:b=d
    ·subst y;rw[aq,aq]
    ·rw[aG y,aG y,aG z,aG z]
  rw[this];exact hE d nd
end
structure Qo(K:PySem.W.Frag)(C:Addr):Prop where
 g:j8 K C
 hd:PySem.W.hasDictIn K C=true
noncomputable def Qp(K:PySem.W.Frag)(ta:TE)(f:Str):TE:=λσ H Q=>ta σ H λx H1=>∃a C k d fs v,x = .ref a/\H1 a=some (eW a C (some k))/\k / 2=d/\H1 d=some (cW d fs)/\Qo K C/\bW K C f/\fs.lookup f=some v/\Q v H1
section
variable{X:Cx}{e:Expr}{f:Str}{pos:Pos}{ta:TE}
theorem Gp{P:Program}{w:World}{H:Hp}{h:Heap}{a C k:Addr}(ok:bM P w H h)(e:H a=some (eW a C (some k))):∃o,h.get? a=some o/\o.cls = .ref C/\o.dict=some (k / 2)/\∃vs,o.data = .fields vs/\(k % 2=0->vs[2]? = some .none):=by
 obtain⟨z,_,_⟩:=(show bQ P w H h a (eW a C (some k)) from ok a _ e);exact z
theorem pY(he:PE X e ta)(hb:attributeBase e f X.env (eval e X.env)=eval e X.env):PE X (.Attribute e f pos) (Qp X.K ta f):=by
 intro pins s σ H Q I h;refine D7 hb (aQ (he pins s σ H _ I h) λu s1 ⟨x,H1,I1,rx,a,C,k,d,fs,v,ex,ea,Qq,ed,c,n,l,q⟩=>?_);subst ex;obtain rfl:u=Value.ref a:=rx;obtain⟨o,h1,h2,h3,vs,h4,_⟩:=Gp I1.aC ea;rw[Qq] at h3;obtain⟨mA,hn,r⟩:=Gj I1.aC ed;obtain⟨v',hv,rv⟩:=dI.some_of (v:=v) (o:=mA f) (by rw[← l];exact r f)
 obtain⟨od,ho,hl⟩:=D0 hn;unfold getAttr;refine wpAny_bind (wpAny_mkText ?_);have T:PySem.W.Looks (model X.prog X.w) s1.heap (typeOf (.ref a)) (.ref C):=zc h1 h2;have L:=PySem.W.looks_find (M:=model X.prog X.w) (x:=a) (name:=f) I1.bN (C:=C) (ox:=o) (od:=some od) ⟨h1,h2,by unfold PySem.W.notCls;rw[h4],by rw[h3];exact ho⟩ (PySem.W.findObj_own c.hd n rfl (by rw[hl,hv]))
 refine FQ (s:={ s1 with toks:=s1.toks+1 }) I1.bN T c.g λA=>?_
 refine O5 (s:={ s1 with toks:=s1.toks+1 }) (Q:=λv s'=>PySem.W.handedIn v=true/\EP X pins σ Q v s') T L ⟨D6 rv,⟨v,H1,I1.tok _,rv,q⟩⟩
end
section
variable{M:Model}{A:Around}{E:Value->Shared->Prop}{s:Shared}{B:Heap}{env:Env}{l outer:List Env}{L a:Addr}{cls a0 fl:Value}{od:Option Addr}{Q:Unit->Shared->Prop}
theorem Qs(eV:A.frames=some (env::outer))(hl:s.heap.FunFrames B (env::outer))(hf:env.frame=some L)(ht:s.heap.TracedAtW B a cls a0 fl)(jZ:B.StaysIn s.heap)(jv:B.get? a=none)
  (h:∀h',Heap.LeftW B (env::outer) a cls a0 s.heap h'->Q () { s with heap:=h' }):wpAny M A (leaving env (.ref a)) Q E s:=by
 by_cases ju:fl=rawInt L
 ·subst ju;unfold leaving;refine wpAny_bind (wpAny_noteFrame_againW hf ht (wpAny_setFlight_noneW jZ hl ht λh' k1 k2 k3 k4=>h h' ⟨k1,k2,k3,λb o hb hn=>⟨o.slots,k4 b o hb hn⟩⟩))
 ·obtain⟨oe,vs,T,oT,ts,he,⟨rfl,h0⟩,hd,h1,ir,iu,hT,d8,h3⟩:=ht;have nT:∀b o,s.heap.get? b=some o->(∀ws,o.data≠.fields ws)->b≠T:=λb o q n z=>by
   rw[z,hT] at q;cases q;exact n ts d8
  have ot:∀b,b≠T->(s.heap.update T (Obj.mapFields (·.setIfInBounds 3 Value.none))).get? b=s.heap.get? b:=λb z=>Heap.get?_update_other _ _ (Ne.symm z);have kb:B.StaysIn (s.heap.update T (Obj.mapFields (·.setIfInBounds 3 Value.none))):=λb o q=>(ot b (λz=>by rw[z,ir] at q;cases q)).trans (jZ b o q)
  have kf:(s.heap.update T (Obj.mapFields (·.setIfInBounds 3 Value.none))).FunFrames B (env::outer):=hl.of_keeps λb o q n=>⟨o,(ot b (nT b o q n)).trans q,rfl⟩;unfold leaving noteFrame;simp only[hf];refine wpAny_bind (wpAny_bind (wpAny_field he hd h1 ?_));rw[if_pos (show (Value.ref T != Value.none)=true by simp)]
  refine wpAny_bind (wpAny_field hT d8 h3 ?_);rw[if_neg (show ¬ ((fl == rawInt L)=true) by simpa using ju)]
  refine wpAny_bind (wpAny_setField hT d8 (Array.getElem?_eq_some_iff.mp h3).1 ?_);exact wpAny_newEntryW eV kf hf ((ot a (Ne.symm iu)).trans he) kb jv hd (Array.getElem?_eq_some_iff.mp h1).1 h0 λh' x=>h h' ⟨x.1,x.2.1,x.2.2.1,λb o q n=>x.2.2.2 b o ((ot b (nT b o q n)).trans q) n⟩
theorem Gq(hl:s.heap.FunFrames B l)(ht:s.heap.TracedAtW B a cls a0 fl)(jZ:B.StaysIn s.heap)(f:Option Addr)
  (h:∀h' pZ,B.StaysIn h'->h'.FunFrames B l->h'.TracedAtW B a cls a0 pZ->s.heap.UpToSlots h'->Q () { s with heap:=h' }):wpAny M A (setFlight (.ref a) f) Q E s:=by
 obtain⟨oe,vs,T,oT,ts,he,hc,hd,h1,ir,iu,hT,d8,h3⟩:=ht;have Gr:3<ts.size:=(Array.getElem?_eq_some_iff.mp h3).1;have nT:∀b o,s.heap.get? b=some o->(∀ws,o.data≠.fields ws)->b≠T:=λb o q n z=>by
  rw[z,hT] at q;cases q;exact n ts d8
 have ot:∀b,b≠T->(s.heap.update T (Obj.mapFields (·.setIfInBounds 3 (f.elim Value.none λf=>rawInt f)))).get? b=s.heap.get? b:=λb z=>Heap.get?_update_other _ _ (Ne.symm z);unfold setFlight;refine wpAny_bind (wpAny_field he hd h1 ?_);rw[if_pos (show (Value.ref T != Value.none)=true by simp)]
 refine wpAny_setField hT d8 Gr (h _ (f.elim Value.none λf=>rawInt f) (λb o q=>(ot b (λz=>by rw[z,ir] at q;cases q)).trans (jZ b o q)) (hl.of_keeps λb o q n=>⟨o,(ot b (nT b o q n)).trans q,rfl⟩) ?_ λb o q n=>⟨o.slots,(ot b (nT b o q n)).trans q⟩)
 exact⟨oe,vs,T,_,_,(ot a (Ne.symm iu)).trans he,hc,hd,h1,ir,iu,Heap.get?_update_self _ hT (Obj.isFreed_of_fields (Obj.data_mapFields d8 _)),Obj.data_mapFields d8 _,by simp[Gr]⟩
noncomputable def cX(B:Heap)(l:List Env)(a:Addr)(cls a0:Value)(h:Heap):Prop:=B.StaysIn h/\B.get? a=none/\h.FunFrames B l/\∃fl,h.TracedAtW B a cls a0 fl
theorem cX.there{h:Heap}(x:cX B l a cls a0 h):∃o,h.get? a=some o:=let ⟨_,_,_,_,t⟩:=x;let ⟨o,q,_⟩:=t.there;⟨o,q⟩
theorem cX.Qt{h:Heap}(x:Heap.HeldW B l a cls a0 L h):cX B l a cls a0 h:=⟨x.1,x.2.1,x.2.2.1,_,x.2.2.2⟩
theorem Qu(eV:A.frames=some (env::outer))(hf:env.frame=some L)(x:cX B (env::outer) a cls a0 s.heap)(hd:cy s.heap a od)
  (hQ:∀h',Heap.FlyingW B outer a cls a0 h'->s.heap.UpToSlots h'->cy h' a od->Q () { s with heap:=h' }):wpAny M A (leaving env (.ref a)) Q E s:=by
 obtain⟨x1,x2,x3,fl,x4⟩:=x;refine wpAny_mono ((yU env (.ref a)).any (Qs (E:=E) (Q:=λ_ s2=>∃h',Heap.LeftW B (env::outer) a cls a0 s.heap h'/\s2 = { s with heap:=h' }) eV x3 hf x4 x1 x2 λh' z=>⟨h',z,rfl⟩)) (λu s2 z=>?_) λ_ _ z=>z.1;obtain⟨⟨h',⟨k1,⟨_,_,k2⟩,k3,k4⟩,rfl⟩,k⟩:=z;have fl:Heap.FlyingW B outer a cls a0 h':=⟨k1,x2,k2,k3⟩;obtain⟨o,q,_⟩:=fl.there;exact hQ h' fl k4 (hd.dk k ⟨o,q⟩)
theorem Gs{α:Type}{s_:String}{R:α->Shared->Prop}(x:cX B l a cls a0 s.heap)(hd:cy s.heap a od)
  (hQ:∀h',cX B l a cls a0 h'->s.heap.UpToSlots h'->cy h' a od->E (.ref a) { s with heap:=h' }):wpAny M A (PySem.passOn s_ (.ref a) env:Sem α) R E s:=by
 obtain⟨x1,x2,x3,fl,x4⟩:=x;obtain⟨oe,vs,T,oT,ts,he,hc,ie,h1,_⟩:=id x4;unfold PySem.passOn;refine wpAny_bind (wpAny_field he ie h1 ?_);rw[if_neg (show ¬ ((Value.ref T == Value.none)=true) by simp)]
 refine wpAny_bind (wpAny_mono ((pC (.ref a) env.frame).any (Gq (E:=E) (Q:=λ_ s2=>∃h',cX B l a cls a0 h'/\s.heap.UpToSlots h'/\s2 = { s with heap:=h' }) x3 x4 x1 env.frame λh' pZ k1 k2 k3 k4=>⟨h',⟨k1,x2,k2,pZ,k3⟩,k4,rfl⟩)) (λu s2 z=>?_) λ_ _ z=>z.1);obtain⟨⟨h',y1,y2,rfl⟩,k⟩:=z;exact wpAny_throw (hQ h' y1 y2 (hd.dk k y1.there))
theorem Gu{B' h:Heap}(k:∀b,B.get? b=none->B'.get? b=none):∀ {l:List Env},h.FunFrames B l->h.FunFrames B' l
 | [],_=>trivial
 | _::_,⟨h1,⟨L,o,h2,h3,h4⟩,h5⟩=>⟨h1,⟨L,o,h2,k L h3,h4⟩,Gu k h5⟩
theorem cX.but{C:Addr}{h h':Heap}{m:Str->Option Value}(x:cX B l a cls a0 h)(hn:h.Ns C m)(sb:Heap.SameBut C h h')(hC:C∉aY l):cX (PySem.W.hideAll B [C]) l a cls a0 h':=by
 obtain⟨x1,x2,x3,fl,oe,vs,T,oT,ts,he,hc,hd,h1,ir,iu,hT,d8,h3⟩:=x;obtain⟨oc,es,ep,ec,dc,_⟩:=hn;have nC:∀ {b:Addr} {o:Obj} {ws:Array Value},h.get? b=some o->o.data = .fields ws->b≠C:=λq d z=>by rw[z,ec] at q;cases q;rw[dc] at d;cases d
 have less:∀b,B.get? b=none->(PySem.W.hideAll B [C]).get? b=none:=λb q=>by
  cases e:(PySem.W.hideAll B [C]).get? b with
  | none=>rfl
  | some o=>rw[PySem.W.of_hideAll _ e] at q;cases q
 refine⟨λb o q=>?_,less _ x2,?_,fl,oe,vs,T,oT,ts,(sb.2 a (nC he hd)).trans he,hc,hd,h1,less _ ir,iu,(sb.2 T (nC hT d8)).trans hT,d8,h3⟩
 ·have hb:b≠C:=λz=>by rw[z,PySem.W.hideAll_none _ (.head _)] at q;cases q
  exact(sb.2 b hb).trans (x1 b o (PySem.W.of_hideAll _ q))
 ·have:∀ {l:List Env},C∉aY l->h.FunFrames B l->h'.FunFrames B l:=by
   intro l
   induction l with
   | nil=>exact λ_ _=>trivial
   | cons e l ih =>
    rintro n ⟨g1,⟨L,o,g2,g3,g4,g5⟩,g6⟩;have n2:L≠C/\C∉aY l:=by
     constructor
     ·intro z;refine n (List.mem_filterMap.mpr ⟨e,.head _,by rw[g2,z]⟩)
     ·intro z;obtain⟨e',fq,q⟩:=List.mem_filterMap.mp z;exact n (List.mem_filterMap.mpr ⟨e',.tail _ fq,q⟩)
    exact⟨g1,⟨L,o,g2,g3,(sb.2 L n2.1).trans g4,g5⟩,ih n2.2 g6⟩
  exact Gu less (this hC x3)
end
structure lK(X:Cx)(E:XK)(a C:Addr)(a0:Value)(H':Hp)(B:Heap)(od:Option Addr)(s':Shared):Prop where
 os:s'.os=X.aI.os
 bare:AllBare s'.gens
 un:Un (aY X.outer) [] X.cz H' X.aI.heap s'.heap
 aC:bM X.prog X.w H' s'.heap
 na:H' a=none
 n0:X.aI.heap.get? a=none
 cut:Cut X.base B X.outer X.cz H' X.aI.heap
 zE:cX B X.stack a (.ref C) a0 s'.heap
 hd:cy s'.heap a od
 e:E (.ref C) od H'
noncomputable def tD(X:Cx)(E:XK):Prop:=∀a C a0 H' B od s',X.Ok->lK X E a C a0 H' B od s'->X.xe (.ref a) s'
theorem lK.move{X:Cx}{E:XK}{a C:Addr}{a0:Value}{H':Hp}{B h':Heap}{od:Option Addr}{s':Shared}(x:lK X E a C a0 H' B od s')(ok:X.Ok)(hl:cX B X.stack a (.ref C) a0 h')(up:s'.heap.UpToSlots h')(hd:cy h' a od):lK X E a C a0 H' B od { s' with heap:=h' } :=
 ⟨x.os,x.bare,pD x.un x.cut hl.1 up (λb hb=>⟨ok.e9 b hb,λo q=>by
  obtain⟨_,o2,q2,nf⟩:=ok.dB.mem hb;rw[q] at q2;cases q2;exact nf⟩),pF x.aC x.cut x.zE.1 hl.1,x.na,x.n0,x.cut,hl,hd,x.e⟩
theorem Gv{P:Program}{w:World}{K:PySem.W.Frag}{mg:Str->Option Value}{base:Heap}{N:List Str}{qual:Str}{scope:Scope}{f:Addr}{cd:Value}{A:Around}{outer:List Env}{aI:Shared}{cz:Hp}{E:XK} :
  tD (fH (dZ P w base) P w K mg base N qual scope f cd A outer aI cz E) E:=by
 intro a C a0 H' B od s' ok x
 show wpAny _ _ (leaving _ _) _ _ _;refine Qu ok.frames rfl x.zE x.hd λh' fl up hd=>?_;have ff:∀b∈aY outer,cz b=none/\∀o,aI.heap.get? b=some o->∀vs,o.data≠.fields vs:=λb hb=>⟨ok.e9 b hb,λo q=>by
  obtain⟨_,o2,q2,nf⟩:=ok.dB.mem hb;have q2:aI.heap.get? b=some o2:=q2;rw[q] at q2;cases q2;exact nf⟩
 exact⟨a,C,a0,H',B,od,rfl,x.os,x.bare,pD x.un x.cut fl.1 up ff,pF x.aC x.cut x.zE.1 fl.1,x.na,x.n0,x.cut,fl,hd,x.e⟩
section
variable{prog:Program}{w:World}{A:Around}{R:Result->Shared->Prop}{s:Shared}
theorem Qv{elt target iter:Expr}{ifs:List Expr}{scope:Scope}{pos:Pos}{it acc:Value}{env:Env}(I:Nat->Shared->Prop)(EX:Value->Shared->Prop)
  (turn:∀n s,I n s->wpAny (model prog w) A (pyNext it) (λr aO=>match r with
   | none=>R (.ok .next) aO
   | some v=>wpAny (model prog w) A (letOwnedTupleGo target it v) (λ_ oW=>wpAny (model prog w) A (assign target env v) (λ_ b_ =>
     wpAny (model prog w) A (forIn ifs true λc r=>if r=true then do let ok ← isTrue c env (eval c env);pure (ForInStep.yield ok) else pure (ForInStep.yield r)) (λok cu =>
      if ok=true then wpAny (model prog w) A (eval elt env) (λx g_ =>
       wpAny (model prog w) A (call (.builtin "list.append") [acc,x]) (λ_ oX=>∃m,m<n/\I m oX) (λ_ _=>False) g_) EX cu
      else ∃m,m<n/\I m cu) (λ_ _=>False) b_) (λ_ _=>False) oW) (λ_ _=>False) aO) (λ_ _=>False) s)
  (hX:∀x s',EX x s'->notedBy (model prog w) A env (λe s'=>R (.error e) s') x s') (n:Nat) (h:I n s):codeAny (model prog w) A (.compLoop (.ListComp elt [⟨target,iter,ifs,0⟩] scope pos) 0 it acc env) R s:=by
 refine codeAny_loop rfl I (λn s hI=>?_) n h
 show wpAny _ A ((compTurn (.ListComp elt [⟨target,iter,ifs,0⟩] scope pos) 0 it acc env).onRaise (λx=>do noteFrame x env;theTreesLotGoes x)) _ _ s
 refine wpAny_noted ?_;rw[compTurn_list];refine wpAny_bind (wpAny_standAt (wpAny_bind (wpAny_mono (turn n s hI) (λr aO cE=>?_) λ_ _ h'=>h'.elim)));cases r with
 | none=>exact wpAny_pure cE
 | some v =>
  refine wpAny_bind (wpAny_mono cE (λ_ oW yC=>?_) λ_ _ h'=>h'.elim);refine wpAny_bind (wpAny_mono yC (λ_ b_ fK=>wpAny_bind (wpAny_mono fK (λok cu jm=>?_) λ_ _ h'=>h'.elim)) λ_ _ h'=>h'.elim);cases ok with
  | false=>exact wpAny_pure ⟨rfl,jm⟩
  | true =>
   exact wpAny_bind (wpAny_bind (wpAny_mono jm (λx g_ yD=>wpAny_bind (wpAny_mono yD (λ_ oX yE=>wpAny_pure (wpAny_pure ⟨rfl,yE⟩)) λ_ _ h'=>h'.elim)) λx s' h'=>hX x s' h'))
end
section
variable{X:Cx}{tg iter elt:Expr}{ifs:List Expr}{scope:Scope}{cl:List (Str×Addr)}{N:List Str}{nt:Nat}{fv:List Nat}{pos:Pos}{wi:TI}{g:TG}{tt:TT}{te:TE}
theorem Qw{pins:List (Addr×Obj)}{σ:St}{s2:Shared}{H2:Hp}{it:Addr}{fp:List Addr}{tn:Nat->Heap->Prop}{J:It}{Q:VK}{RR:Value->Addr->Result->Shared->Prop}{E:Value->Shared->Prop}{EE:XK}
  (S:cI X scope cl N nt fv) (hc:X.calm=true)
  (hg:∀C s H fp,PG (cB X scope cl N C s H fp) tg g) (ht:∀C s H fp,jT (cB X scope cl N C s H fp) ifs tt) (he:∀C s H fp,j0 (cB X scope cl N C s H fp) EE elt te)
  (I2:Inv X pins σ H2 s2) (T:Turn X.prog X.w X.K tg J fp it tn) (f_:tn 0 s2.heap) (f2:∀b∈fp,gz X pins H2 b)
  (hq:∀D,H2 D=none->∃W:Nat->Nat->List V->St->Hp->Prop,
   (∃m,W 0 m [] (h_ σ nt fv) (upd H2 D (.lst [])))/\∀i m ys au H2,W i m ys au H2->H2 D=some (.lst ys)/\ys.length<sizeLine/\
    ((J.stop i H2/\Q (.ref D) H2)\/(J.go i H2/\∀x H3,J.iF i H2 x H3->g x au H3 λbS H4=>tt bS H4 λb H5=>if b=true then te bS H5 λv H6=>H6 D=some (.lst ys)/\∃m',m' < m/\W (i+1) m' (ys++[v]) bS (upd H6 D (.lst (ys++[v])))
     else ∃m',m' < m/\W (i+1) m' ys bS H5)))
  (yF:∀(D C:Addr) (s':Shared) (H':Hp) (m':Str->Option Value),Inv X pins σ H' s'->s'.heap.Ns C m'->s2.heap.objs.size<=C->H' C=none->Q (.ref D) H'->RR (.ref D) C (.ok .next) s')
  (Qx:∀(D C:Addr) (x:Value) (s1 s':Shared) (H1:Hp) (m':Str->Option Value),Inv X pins σ H1 s1->s1.heap.Ns C m'->s2.heap.objs.size<=C->H1 C=none->dZ X.prog X.w X.base X.stack H1 s1 EE x s'->notedBy (model X.prog X.w) X.A (compEnvC scope cl C X.env) (λe s'=>RR (.ref D) C (.error e) s') x s') :
  wpAny (model X.prog X.w) X.A (newList []) (λacc cu=>wpAny (model X.prog X.w) X.A (newFunctionEnv scope X.env.globals cl [] X.env.qual none .none (some X.env)) (λmJ g_ =>
   codeAny (model X.prog X.w) X.A (.compStart (.ListComp elt [⟨tg,iter,ifs,0⟩] scope pos) 0 (.ref it) acc { mJ with scope:=relabel scope X.env }) (RR acc mJ.locals) g_) E cu) E s2:=by
 refine wpAny_newObj_type (wpAny_newFunctionEnv S.mH (by intro y hy;simp at hy) (λcE k9 jo=>?_) S.kind)
 dsimp only at k9 jo ⊢;generalize k_:s2.heap.push { cls:=.type "list",dict:=none,data:=.seq ([]:List Value).toArray }=HH at k9 jo ⊢;have hC:HH.objs.size=s2.heap.objs.size+1:=by rw[← k_,Heap.size_push]
 have k7:s2.heap.objs.size≠HH.objs.size:=by rw[hC];exact Nat.ne_of_lt (Nat.lt_succ_self _)
 have jV:s2.heap.objs.size<=HH.objs.size:=by rw[hC];exact Nat.le_succ _
 have old:∀b o,s2.heap.get? b=some o->cE.get? b=some o:=λb o e=>by
  have hb:b<s2.heap.objs.size:=Heap.lt_size e;exact jo.extBut b o (by rw[hC];exact Nat.ne_of_lt (Nat.lt_succ_of_lt hb)) (Heap.get?_push_of_some _ (k_▸Heap.get?_push_of_some _ e))
 have oY:cE.get? s2.heap.objs.size=some { cls:=.type "list",data:=.seq #[] }:=jo.extBut _ _ k7 (Heap.get?_push_of_some _ (k_▸Heap.get?_push_size _ rfl));have bV:∀b∈fp,b<s2.heap.objs.size:=λb hb=>by
  obtain⟨o,e,_⟩:=T.obj 0 _ f_ b hb;exact Heap.lt_size e
 have hD:H2 s2.heap.objs.size=none:=I2.aC.fresh (Nat.le_refl _);obtain⟨W,⟨m0,w0⟩,turn⟩:=hq _ hD;have jO:tn 0 cE:=T.keep _ _ _ f_ λb _ o e=>old b o e;have I3:=S.inv I2 f2 bV (h1:=cE) (tk:=s2.toks+([]:List (Str×Value)).length) (D:=s2.heap.objs.size) (C:=HH.objs.size) (Nat.le_refl _) jV k7 old oY (by simpa using k9)
 -- what stays true of the iterator's objects
 have nD:∀b∈fp,b≠s2.heap.objs.size:=λb hb=>Nat.ne_of_lt (bV b hb);have gS:∀ {H':Hp},(∀b∈fp,H' b=none)->∀b∈fp,gz (cB X scope cl N HH.objs.size s2 H2 fp) [] H' b:=λ{H'} hn b hb=>by
  have ok:=S.ok I2 f2 bV jV;refine⟨hn b hb,(ok.jI b hb).1,ok.jJ b hb,.inl hb,(ok.jI b hb).2,λp hp=>absurd (show p∈([]:List (Addr×Obj)) from hp) (by simp)⟩
 have loop:∀cu:Shared,cu = { s2 with heap:=cE,toks:=s2.toks+([]:List (Str×Value)).length }->
   codeAny (model X.prog X.w) X.A (.compLoop (.ListComp elt [⟨tg,iter,ifs,0⟩] scope pos) 0 (.ref it) (.ref s2.heap.objs.size) (compEnvC scope cl HH.objs.size X.env)) (RR (.ref s2.heap.objs.size) HH.objs.size) cu:=by
  rintro cu rfl;refine Qv (λn s'=>∃i ys aV H',Inv (cB X scope cl N HH.objs.size s2 H2 fp) [] aV H' s'/\tn i s'.heap/\(∀b∈fp,H' b=none)/\W i n ys aV H') (λx s'=>∃pn aV,XP X.prog X.w X.base (cB X scope cl N HH.objs.size s2 H2 fp) pn aV EE x s') ?_ (λx s' hx=>?_) m0
   ⟨0,[],_,_,I3,jO,λb hb=>by rw[aG (nD b hb)];exact(f2 b hb).1,w0⟩
  rotate_left
  ·obtain⟨pn,aV,H1,s1,I1,cx⟩:=hx;have I5:Inv X pins σ H1 s1:=I2.kL (ch:=fp) I1.os I1.base I1.aC I1.bare λb hb=>⟨(f2 b hb).2.2.2.1,(f2 b hb).2.1,(f2 b hb).2.2.2.2.1,(f2 b hb).2.2.2.2.2⟩;obtain⟨m,hn,_⟩:=I1.loc;exact Qx _ _ x s1 s' H1 m I5 hn jV I1.free cx
  rintro n s3 ⟨i,ys,fE,H3,J3,t3,gb,w3⟩;obtain⟨eD,yG,yH⟩:=turn i n ys fE H3 w3;rcases yH with⟨stop,qn⟩ | ⟨go,step⟩
  ·refine aQ (T.done (cB X scope cl N HH.objs.size s2 H2 fp) rfl rfl rfl hc i [] s3 fE H3 (λ_ _=>False) J3 (gS gb) t3 stop) λr s4 ⟨hr,I4⟩=>?_;subst hr;have I5:Inv X pins σ H3 s4:=I2.kL (ch:=fp) I4.os I4.base I4.aC I4.bare λb hb=>⟨(f2 b hb).2.2.2.1,(f2 b hb).2.1,(f2 b hb).2.2.2.2.1,(f2 b hb).2.2.2.2.2⟩;obtain⟨m,hn,_⟩:=I4.loc;exact yF _ _ s4 H3 m I5 hn jV I4.free qn
  ·refine aQ (T.item (cB X scope cl N HH.objs.size s2 H2 fp) rfl rfl rfl hc i [] s3 fE H3 (λ_ _=>False) J3 (gS gb) t3 go) λr s4 ⟨u,hr,h4⟩=>?_;subst hr;refine aQ h4 λ_ s5 ⟨x,H5,I5,r5,y5,gT,oA⟩=>?_;have oB:=I5.pinned (gS oA) (T.obj _ _ gT);refine aQ (hg _ _ _ _ _ s5 fE H5 x u _ oB r5 (step x H5 y5)) λ_ s6 ⟨fF,H6,I6,q6⟩=>?_;have o7:∀ {eL:St} {H7:Hp} {s7:Shared},Inv (cB X scope cl N HH.objs.size s2 H2 fp) ([]++mq fp s5.heap) eL H7 s7->tn (i+1) s7.heap/\∀b∈fp,H7 b=none:=λ{eL H7 s7} I7=>by
    refine⟨T.keep _ _ _ gT λb hb o e=>(I7.pin (b,o) (List.mem_append_right _ (List.mem_append_right _ (mw hb e)))).1,λb hb=>?_⟩;obtain⟨o,e,d⟩:=T.obj _ _ gT b hb;exact(I7.pin (b,o) (List.mem_append_right _ (List.mem_append_right _ (mw hb e)))).2.1
   refine aQ (ht _ _ _ _ _ s6 fF H6 _ I6 q6) λb s7 ⟨H7,I7,q7⟩=>?_;cases b with
   | false =>
    obtain⟨m',hm,w7⟩:=q7;obtain⟨t7,n7⟩:=o7 I7;exact⟨m',hm,i+1,ys,fF,H7,I7.kR,t7,n7,w7⟩
   | true =>
    refine wpAny_mono (he _ _ _ _ _ s7 fF H7 _ I7 q7) (λu8 s8 ⟨v8,H8,I8,r8,yI,m',hm,w8⟩=>?_) λx s' z=>⟨_,_,z⟩;refine aQ (gZ (X:=cB X scope cl N HH.objs.size s2 H2 fp) _ s8 fF H8 (.ref s2.heap.objs.size) [v8] (.ref s2.heap.objs.size) [u8] (λ_ H9=>∃m',m' < n/\W (i+1) m' (ys++[v8]) fF H9) I8 rfl (.cons r8 .nil)
     ⟨s2.heap.objs.size,ys,v8,rfl,rfl,yI,yG,m',hm,w8⟩) λ_ s9 ⟨_,H9,I9,_,m9,yJ,w9⟩=>?_
    obtain⟨t9,n9⟩:=o7 I9;exact⟨m9,yJ,i+1,ys++[v8],fF,H9,I9.kR,t9,n9,w9⟩
 exact codeAny_compStart_list (loop _ rfl) (T.self _ 0 _ _ _ jO (loop _ rfl))
theorem Qy{E:XK}(hp:tD X E)(cC:X.stack=X.env::X.outer)(iU:X.env.frame=some X.env.locals)(hex:X.ex = [])(S:cI X scope cl N nt fv)(hc:X.calm=true)(hi:PI X tg iter wi)
  (hg:∀C s H fp,PG (cB X scope cl N C s H fp) tg g) (ht:∀C s H fp,jT (cB X scope cl N C s H fp) ifs tt) (he:∀C s H fp,j0 (cB X scope cl N C s H fp) E elt te)
  (hs:∀x,foldedSetIterable iter X.env x=pure x:=by intro _;rfl):PE X (.ListComp elt [⟨tg,iter,ifs,0⟩] scope pos) (jU wi g tt te nt fv):=by
 intro pins s σ H Q I h;rw[eval_ListComp];refine wpAny_comprehension_free (use:=none) rfl hs S.mG S.kind S.names (aQ (hi pins s σ H _ I h) λxv s1 h1=>aQ h1 λoq s2 h2=>?_);obtain⟨it,fp,tn,J,H2,rfl,I2,T,f_,f2,hq⟩:=h2;refine Qw (EE:=E) (RR:=λacc C=>compPost (model X.prog X.w) X.A X.xe none (EP X pins σ Q) acc C) S hc hg ht he I2 T f_ f2 hq (λD C s' H' m' I' hn hC fC q=>?_) λD C x s1 s' H1 m' I1 hn hC fC cx=>?_
 ·refine⟨m',hn,λh' gC=>⟨.ref D,H',?_,rfl,q⟩⟩;have dW:=I2.je hC fC;exact I'.turned (t':=s'.toks) (it:=C) (λb o hb e=>gC.extBut b o hb e) fC dW.2.1 dW.2.2.2.1 dW.2.2.2.2.1 dW.2.2.2.2.2
 ·obtain⟨a,C',a0,H',B,od,rfl,ho,zF,u,aC,na,nh,c,bZ,hd,hE⟩:=cx;have dW:=I2.je hC fC;have cS:C∉aY X.stack:=by
   rw[cC];intro z;obtain⟨e,fq,q⟩:=List.mem_filterMap.mp z;rcases List.mem_cons.mp fq with rfl | fq
   ·rw[iU] at q;exact dW.2.1 (Option.some.inj q).symm
   ·exact dW.2.2.1 (List.mem_filterMap.mpr ⟨e,fq,q⟩)
  show wpAny _ _ (noteFrame (.ref a) X.env) _ _ _;have j4:=bZ;rw[cC] at j4;refine yV (by rw[I1.ok.frames,cC]) iU j4 hd λh4 held j5 j6=>?_
  rw[← cC] at held;obtain⟨oC,es,ep,eC,dC,rC⟩:=hn;have BC:B.get? C=some oC:=c.k1 C oC eC fC cS;have Gw:h4.Ns C m':=⟨oC,es,ep,held.1 _ _ BC,dC,rC⟩;refine⟨m',Gw,λh' sb mJ Y3=>?_⟩;have hl:=(cX.Qt held).but Gw sb cS;have c0:X.aI.heap.objs.size<=C:=Nat.le_trans I2.sz hC;have J:=I1.kL ho u aC zF (λ_ z=>nomatch z);have JB:Un (aY X.outer) [] X.cz H' X.aI.heap s'.heap:=by have:=J.base;rw[hex] at this;exact this
  have IB:Un (aY X.outer) [] X.cz H1 X.aI.heap s1.heap:=by have:=I1.base;rw[hex] at this;exact this
  have nC:∀b o,X.aI.heap.get? b=some o->b≠C:=λb o q z=>absurd (Heap.lt_size q) (by rw[z];exact Nat.not_lt.mpr c0)
  have oL:∀b∈aY X.stack,b∉aY X.outer->X.aI.heap.objs.size<=b:=λb hb n=>by
   rw[cC] at hb;obtain⟨e,fq,q⟩:=List.mem_filterMap.mp hb;rcases List.mem_cons.mp fq with rfl | fq
   ·rw[iU] at q;cases q;exact I1.ok.above
   ·exact absurd (List.mem_filterMap.mpr ⟨e,fq,q⟩) n
  have nS:∀b o,X.aI.heap.get? b=some o->b∉aY X.outer->b∉aY X.stack:=λb o q n z=>absurd (Heap.lt_size q) (Nat.not_lt.mpr (oL b z n));have lJ:H' C=none:=u.free C oC eC fC (by simp)
  have mX:Cut X.base (PySem.W.hideAll B [C]) X.outer X.cz H' X.aI.heap:=by
   refine⟨λb o q=>PySem.W.hideAll_get _ (c.stays b o q) ?_,λb o q n hb=>PySem.W.hideAll_get _ (c.k1 b o (IB.keep b o q n hb (by simp)) (IB.free b o q n (by simp)) (nS b o q hb)) ?_,λb v e=>?_,λb o q hb=>?_⟩
   ·simpa using nC b o (I1.ok.bs b o q).1
   ·simpa using nC b o q
   ·obtain⟨o,q⟩:=c.k2 b v e;exact⟨o,PySem.W.hideAll_get _ q (by simpa using λz=>by rw[z,lJ] at e;cases e)⟩
   ·obtain⟨o1,q1⟩:=IB.there b o q (by simp)
    obtain⟨o',q'⟩:=c.k3 b o1 q1 (nS b o q hb);exact⟨o',PySem.W.hideAll_get _ q' (by simpa using nC b o q)⟩
  have dj:cy h' a od:=by
   obtain⟨oe,q,z⟩:=j6;obtain⟨o2,vs,_,_,_,g1,_,g3,_⟩:=held.2.2.2;rw[q] at g1;cases g1;refine⟨oe,(sb.2 a λz=>?_).trans q,z⟩;rw[z,held.1 _ _ BC] at q;cases q;rw[dC] at g3;cases g3
  have Qz:=pD u c held.1 j5 I1.ff;have J4:=I1.kL (s':={ s' with heap:=h4 }) ho Qz (pF aC c bZ.1 held.1) zF (λ_ z=>nomatch z);have lM:Un (aY X.outer) [] X.cz H' X.aI.heap h4:=by have:=J4.base;rw[hex] at this;exact this
  have jx:∀b o,X.aI.heap.get? b=some o->∀o',h4.get? b=some o'->h'.get? b=some o':=λb o q o' z=>(sb.2 b (nC b o q)).trans z;have x0:lK X E a C' a0 H' (PySem.W.hideAll B [C]) od { s' with heap:=h' }:=by
   refine⟨J4.os,zF,⟨λb o q n hb hx=>jx b o q o (lM.keep b o q n hb hx),λb o q n hb hx=>?_,lM.free,λb o q hx=>?_,lM.d9,lM.dQ,lM.d_⟩,λb v e=>?_,na,?_,mX,hl,dj,hE⟩
   ·obtain⟨sl,z⟩:=lM.slot b o q n hb hx;exact⟨sl,jx b o q _ z⟩
   ·obtain⟨o',z⟩:=lM.there b o q hx;exact⟨o',jx b o q _ z⟩
   ·refine(J4.aC b v e).e8 (λd z hd q=>(sb.2 d ?_).trans q) (λ_ q=>q) λ_ _ q=>q;intro y;rcases hd with y2 | hd
    ·rw[← y2,y] at e;rw[lJ] at e;cases e
    ·rw[y,lJ] at hd;cases hd
   ·cases q:X.aI.heap.get? a with
    | none=>rfl
    | some o =>
     obtain⟨o1,q1⟩:=IB.there a o q (by simp)
     rw[nh] at q1;cases q1
  exact Gs hl dj λh5 p7 pK j7=>hp a C' a0 H' _ od _ I1.ok (x0.move I1.ok p7 pK j7)
end
theorem QA:entryFor table "proto.unchain" = some Builtin.«proto.unchain» := entryFor_of_tree (by kernel_rfl)
theorem QB:plainId "proto.unchain" = true:=by decide +kernel
section
variable{prog:Program}{w:World}{A:Around}{E:Value->Shared->Prop}{s:Shared}{env:Env}
theorem QC{v:Value}{b:Addr}{ob:Obj}{ws:Array Value}{Q:Value->Shared->Prop}(hb:s.heap.get? b=some ob)(hd:ob.data = .fields ws)(h2:ws[2]? = some .none)(h:Q .none s) :
  wpAny (model prog w) A (runValue (.builtin "proto.unchain" ⟨[v,.ref b,.ref b,.bool false],[]⟩)) Q E s:=by
 refine wpAny_runValue (codeAny_builtin QA ?_);rw[Around.under_plainId QB _];unfold Builtin.«proto.unchain»;dsimp only;refine wpAny_bind (wpAny_field hb hd h2 ?_);rw[if_pos (show (Value.none == Value.none)=true from rfl)]
 show wpAny _ _ (ret Value.none) _ _ _;exact wpAny_pure h
variable{nm q:Str}{C N:Addr}{bs bm cN:List Value}{hdct:Bool}{sn:List Str}{sub:List Value}{ab:Bool}{col:Option Bool}{dd:Option Addr}{k0 k1 k2 k3 k5:Option Value}{B newId d7:String}
theorem QD{x c:Sem Value}{b:Addr}{Q:Flow->Shared->Prop}(jk:bm.contains (.type "BaseException")=true)(hh:A.handled=some (.ref b))(hc:∀s R E,R Value.none s->wpAny (model prog w) A c R E s)
  (h:wpAny (model prog w) A x (λv aO=>∃(e:Addr) (od:Option Addr) (vs:Array Value) (sl:Array (Option Value)) (ob:Obj) (ws:Array Value),v = .ref e/\aO.heap.get? C=some (excClassObj nm q C N bs bm hdct sn sub ab col dd k0 k1 k2 k3 k5 newId)/\
   aO.heap.get? e=some { cls:=.ref C,dict:=od,data:=.fields vs,slots:=sl }/\vs[1]? = some .none/\4<vs.size/\b≠e/\aO.heap.get? b=some ob/\ob.data = .fields ws/\ws[2]? = some .none/\
   ∀h' gH,Heap.SameBut e aO.heap h'->h'.get? e=some { cls:=.ref C,dict:=od,data:=.fields gH,slots:=sl }->gH[0]? = vs[0]?->gH[1]? = some .none->E (.ref e) { aO with heap:=h' }) E s) :
  wpAny (model prog w) A (raiseStmt env (some x) (some c)) Q E s:=by
 have mS:(Value.ref C::bm).contains (.type "BaseException")=true:=by rw[List.contains_cons,jk,Bool.or_true]
 unfold raiseStmt;refine wpAny_bind (wpAny_mono h (λv aO cE=>?_) λ_ _ x=>x);obtain⟨e,od,vs,sl,ob,ws,rfl,hC,he,h1,h4,fX,hb,dD,yZ,hE⟩:=cE;obtain⟨hp,g,d,tk,os⟩:=aO;refine wpAny_bind (wpAny_holding (hc _ _ _ ?_));generalize zG:@setField=SF
 repeat (first | with_reducible refine wpAny_loadPart_at he ?_ | with_reducible refine wpAny_loadPart_at hC ?_ | (with_reducible refine wpAny_isSubtype_exc hC ?_;rw[mS]) | wp_step)
 subst zG;refine wpAny_setField he rfl (by lia) ?_
 have mY:(hp.update e (Obj.mapFields (·.setIfInBounds 3 .none))).get? e=some { cls:=.ref C,dict:=od,data:=.fields (vs.setIfInBounds 3 .none),slots:=sl }:=Heap.get?_update_self _ he rfl;refine wpAny_bind (wpAny_setField mY rfl (by simp;lia) ?_)
 have mZ:((hp.update e (Obj.mapFields (·.setIfInBounds 3 .none))).update e (Obj.mapFields (·.setIfInBounds 4 (.bool true)))).get? e=some { cls:=.ref C,dict:=od,data:=.fields ((vs.setIfInBounds 3 .none).setIfInBounds 4 (.bool true)),slots:=sl }:=Heap.get?_update_self _ mY rfl;have sb:Heap.SameBut e hp ((hp.update e (Obj.mapFields (·.setIfInBounds 3 .none))).update e (Obj.mapFields (·.setIfInBounds 4 (.bool true)))):=(Heap.SameBut.update _ _ _).trans (Heap.SameBut.update _ _ _);have e1:((vs.setIfInBounds 3 .none).setIfInBounds 4 (.bool true))[1]? = some .none:=by
  rw[Array.getElem?_setIfInBounds_ne (by decide),Array.getElem?_setIfInBounds_ne (by decide)];exact h1
 have e0:((vs.setIfInBounds 3 .none).setIfInBounds 4 (.bool true))[0]? = vs[0]? := by
  rw[Array.getElem?_setIfInBounds_ne (by decide),Array.getElem?_setIfInBounds_ne (by decide)]
 have QE:C≠e:=λz=>by
  rw[z,he] at hC;unfold excClassObj at hC;cases hC
 have zH:=(sb.2 C QE).trans hC;have Gx:=(sb.2 b fX).trans hb;have sz:2<((vs.setIfInBounds 3 .none).setIfInBounds 4 (.bool true)).size:=by simp;lia
 generalize (vs.setIfInBounds 3 .none).setIfInBounds 4 (.bool true)=Y4 at mZ e1 e0 sz;generalize (hp.update e (Obj.mapFields (·.setIfInBounds 3 .none))).update e (Obj.mapFields (·.setIfInBounds 4 (.bool true)))=Y5 at mZ sb zH Gx ⊢;generalize QF:@raiseNew=RN;generalize zG:@setFlight=SF
 repeat (first | with_reducible refine wpAny_loadPart_at mZ ?_ | with_reducible refine wpAny_loadPart_at zH ?_ | (with_reducible refine wpAny_isSubtype_exc zH ?_;rw[mS]) | wp_step)
 subst zG;unfold setFlight;refine wpAny_bind (wpAny_field mZ rfl e1 ?_);rw[if_neg (by decide)]
 refine wpAny_pure ?_;subst QF;unfold raiseNew;refine wpAny_bind (wpAny_handled ?_);rw[hh];dsimp only;rw[if_pos (show (Value.ref b != Value.ref e)=true by simpa using fX)]
 refine wpAny_bind (wpAny_holding (QC Gx dD yZ ?_))
 show wpAny _ _ (setField (.ref e) 2 (.ref b) >>= _) _ _ _;refine wpAny_bind (wpAny_setField mZ rfl sz (wpAny_throw ?_));exact hE _ _ (sb.trans (Heap.SameBut.update _ _ _)) (Heap.get?_update_self _ mZ rfl) ((Array.getElem?_setIfInBounds_ne (by decide)).trans e0) ((Array.getElem?_setIfInBounds_ne (by decide)).trans e1)
end
noncomputable def QG(X:Cx)(pins:List (Addr×Obj))(σ:St)(C:Addr)(names:List Str)(bq:List V)(R:List V->Hp->Prop)(v:Value)(s:Shared):Prop :=
 ∃e H1 d vs ws sl a0,v = .ref e/\Inv X pins σ (upd H1 d (cW d (names.zip (vs++bq)))) s/\H1 e=none/\H1 d=none/\d≠e/\X.aI.heap.get? e=none/\
  s.heap.get? e=some { cls:=.ref C,dict:=some d,data:=.fields ws,slots:=sl }/\(ws[1]? = some .none/\ws[2]? = some .none/\4<ws.size)/\ws[0]? = some a0/\R vs H1
section
variable{X:Cx}{x:Str}{C fI:Addr}{bm tl bs:List Value}{newId d7 B:String}{np bX pos:Pos}{eB:Expr}{rest:List Expr}{t:TA}{k:Nat}{fd:FuncData}{ps names:List Str}{bq:List V}{ds:List Value}
 {N:Addr} {nm qn:Str} {hdct:Bool} {sn:List Str} {sub:List Value} {ab:Bool} {col:Option Bool} {dd:Option Addr} {k0 k1 k2 k3 k5:Option Value} {mN:Str->Option Value}
 {pins:List (Addr×Obj)} {s:Shared} {σ:St} {H:Hp} {R:List V->Hp->Prop} {E:Value->Shared->Prop}
end
noncomputable def Gy(a b:Addr×Th):Prop:=zd a.2 b.2
noncomputable instance (a b:Addr×Th):Decidable (Gy a b):=by unfold Gy;infer_instance
section
variable{H H':Hp}{l a:Addr}{zs ys:Zs}{t:Th}{k:Nat}
end
section
variable{X:Cx}
end
section
variable{X:Cx}{e st:Expr}{te ts:TE}{pos p2:Pos}
noncomputable def Y6(K:PySem.W.Frag)(te ts:TE):TE:=λσ H Q=>te σ H λx H1=>ts σ H1 λk H2=>∃a xs,x = .ref a/\k = .int (-1)/\aD K H2 a xs/\∀p,H2 p=none->Q (.ref p) (upd H2 p (.lst xs.reverse))
end
noncomputable def T1(m:Nat)(led:Bool):SetTable:={ mask:=7,place := #[m % 8],dummies := #[],finger:=0,led,moves:=0,plain:=true }
noncomputable def zI(m n:Nat):Nat:=if n % 8=m % 8 then(5*(n % 8)+1) % 8 else n % 8
noncomputable def T2(m n:Nat)(led:Bool):SetTable:={ mask:=7,place:=if zI m n<m % 8 then #[zI m n,m % 8] else #[m % 8,zI m n],dummies := #[],finger:=0,led,moves:=0,plain:=true }
section
variable{prog:Program}{w:World}{A:Around}{E:Value->Shared->Prop}{s:Shared}{a:Addr}{es Y7:Array (Int×Value)}{ep:Nat}{t t1:SetTable}{n:Int}{tk:Tok}
end
section
variable{prog:Program}{w:World}{A:Around}{R:Result->Shared->Prop}{s:Shared}{l I S:Addr}{m n:Nat}{tm tn:Tok}{led:Bool}
end
section
variable{prog:Program}{w:World}{A:Around}{E:Value->Shared->Prop}{s:Shared}
end
section
variable{prog:Program}{w:World}{A:Around}{E:Value->Shared->Prop}{s:Shared}{it d:Addr}{slot i n ep:Nat}{es:Array (Int×Value)}{t:SetTable}
end
section
variable{prog:Program}{w:World}{A:Around}{E:Value->Shared->Prop}{s:Shared}{d:Addr}{ep m n:Nat}{es:Array (Int×Value)}{tm tn:Tok}
end
section
variable{X:Cx}{e:Expr}{tl:TE}{p1 p2 p3 p4:Pos}
end
section
variable{X:Cx}{C:Addr}{x:Str}{p pos:Pos}
end
section
variable{X:Cx}{CX:eS}{k1 k2:Nat}{f1 f2:Addr}{Y8 Y9:List Addr}{zJ zK:FuncData}{Y_ Za:List Str}{Zb Zc:Sp}{E:XK}{m:Str}{pos apos:Pos}{o e:Expr}{es:List Expr}{ta:TE}{t:TA}
end
end _L
namespace _L
open PySem PySem.Spec PyProof.Rows PySem.W
section
variable{prog:Program}{w:World}{A:Around}{E:Value->Shared->Prop}{s:Shared}{h₀:Heap}{L a kS:Addr}{m:Str->Option Value}{news:List (Addr×Obj)}{vs ks:List Value}
end
section
variable{X:Cx}{pins:List (Addr×Obj)}{σ:St}{H:Hp}{s:Shared}{m:Str->Option Value}{kS f:Addr}{kv:Nat->Int}{k:Nat}{fd:FuncData}{p:Str}{sp:Sp}{xs:List V}{A:Around}
end
section
variable{X:Cx}{pins:List (Addr×Obj)}{σ:St}{H:Hp}{s:Shared}{f:Addr}{kv:Nat->Int}{k:Nat}{fd:FuncData}{p:Str}{sp:Sp}{xs:List V}{l:Addr}
noncomputable def Zd(sp:Sp)(tl:TE):TE:=λσ H Q=>tl σ H λx H1=>∃(l:Addr) (xs:List V) (kv:Nat->Int),x = .ref l/\H1 l=some (.lst xs)/\xs.length<64/\(∀i j,i<xs.length->j<xs.length->kv i=kv j->i=j)/\
 (∀(j:Nat) (v:V),xs[j]? = some v->sp [v] H1 (λv' H'=>v' = .int (kv j)/\H' = H1) E0)/\
 ∀(D:Addr) (is:List Nat),H1 D=none->is.Perm (List.range xs.length)->(∀i j,i<j->j<xs.length->kv (is.getD i 0)<kv (is.getD j 0))->Q (.ref D) (upd H1 D (.lst (is.map λi=>xs.getD i .aH)))
end
end _L
namespace _L
open PySem PySem.Spec PyProof.Rows
section
variable{X:Cx}
end
structure tE(P:Program)(w:World)(K:PySem.W.Frag)(mg:Str->Option Value)(base:Heap)(k:Nat)(f:Addr)(fd:FuncData)(ps:List Str)(sp:Sp):Prop where
 len:∀vs H Q E,sp vs H Q E->vs.length=ps.length
 run:∀(A:Around) (outer:List Env) (s:Shared) (H:Hp) (args:Args) (us:List Value) (vs:List V) (Q:VK) (e:Value),bY k A->jQ P w K mg base A outer s H->BindsTo s fd args (ps.zip us)->Vals vs us->sp vs H Q E0->
  codeAny (model P w) (A.mark (some e)) (.call (.ref f) args) (CR bw outer P w H s Q E0) s
section
variable{X:Cx}{k:Nat}{f:Addr}{fd:FuncData}{ps:List Str}{sp:Sp}{x:Str}{p pos:Pos}{e:Expr}{es:List Expr}{t:TA}{a:Value}
end
theorem j9.QH{P:Program}{w:World}{K:PySem.W.Frag}{mg:Str->Option Value}{base:Heap}{x qual:Str}{st:Stmt}{f:Addr}{fd:FuncData}{N ps:List Str}{k:Nat}{sp:Sp}(F:j9 K x qual st f fd)(S:bB N ps (aU st))(len:∀vs H Q E,sp vs H Q E->vs.length=ps.length)
  (jg:∀(aM:Value) (A:Around) (outer:List Env) (s:Shared) (H:Hp) (vs:List V) (Q:VK) (e:Value),bY k (A.deeper (envOfC qual (aU st) s.heap.objs.size f aM))->sp vs H Q E0->
   ∃t,eg ((fH bw P w K mg base N qual (aU st) f aM A outer s H E0).within e) (cZ st) t/\t { nx:=λ_ H'=>Q .aH H',rt:=Q } (start N vs) H):tE P w K mg base (k+1) f fd ps sp:=by
 obtain⟨oc,od,dV,kV,doc,pm,an,aM,ct,eT,rfl,lk,cA⟩:=F.ex;refine⟨len,λA outer s H args us vs Q e hr e0 hb r fJ=>?_⟩;have KX:K.In s.heap:=e0.mod.i9.keeps λb o q=>(e0.bs b o q).1;have lim:s.heap.NoLimit:=e0.mod.nolimit.keeps λb o q=>(e0.bs b o q).1;have two:∀y∈ps.zip us,(aU st).names.lookup y.1=some .local\/((aU st).names.lookup y.1=some .cell/\((cellsFrom (s.heap.objs.size+1) (aU st).names []).lookup y.1).isSome=true):=λ⟨n,v⟩ hy =>
  (S.par n (List.of_mem_zip hy).1).imp (λq=>q) λq=>⟨q,PySem.W.cellsFrom_some _ _ _ (.inl q)⟩
 refine codeAny_call_function (A:=A.mark (some e)) hr.depth (KX _ _ lk) rfl S.co S.gen rfl (PySem.W.codeRec_of KX cA) (hb _ _ _ _ ?_);refine wpAny_newFunctionEnv_cells S.kind two λenv he s1 x=>?_;subst he;refine⟨lim.keeps x.toInCall.keep,codeAny_func ?_⟩;obtain⟨t,ht,hq⟩:=jg aM A outer s H vs Q e (hr.deeper _) fJ;have I:=(Ei (CX:=bw) (E:=E0) S hr.hd e0 (len _ _ _ _ fJ) r x).within e;refine wpAny_mono (ht [] s1 (start N vs) H _ I hq) (λfl s' hs=>?_) λ_ _ z=>False.elim z;cases fl with
 | ret u=>obtain⟨v,aV,H',J,rv,q⟩:=hs;exact⟨v,H',J.os,J.bare,J.base,J.aC,rv,q⟩
 | next=>obtain⟨aV,H',J,q⟩:=hs;exact⟨V.aH,H',J.os,J.bare,J.base,J.aC,rfl,q⟩
 | brk=>exact False.elim hs.choose_spec.choose_spec.2
 | cont=>exact False.elim hs.choose_spec.choose_spec.2
section
variable{X:Cx}{x:Str}{C fI b₀:Addr}{bm tl bs:List Value}{newId d7 B:String}{np bX pos:Pos}{eB:Expr}{rest:List Expr}{t:TA}{k:Nat}{fd:FuncData}{ps names:List Str}{bq:List V}{ds:List Value}
 {N:Addr} {nm qn:Str} {hdct:Bool} {sn:List Str} {sub:List Value} {ab:Bool} {col:Option Bool} {dd:Option Addr} {k0 k1 k2 k3 k5:Option Value} {mN:Str->Option Value}
 {pins:List (Addr×Obj)} {s:Shared} {σ:St} {H:Hp} {R:List V->Hp->Prop} {E:Value->Shared->Prop}
theorem QI(hg:Gl (X.within (.ref b₀)) x)(hm:X.mg x=some (.ref C))(q:pU X.K C fI bm newId)(FB:ExcBaseFacts B newId d7 bm)(hex:X.ex = [])(F:tE X.prog X.w X.K X.mg X.base k fI fd ps (kh C names))(hr:bY (k+1) X.A)(hb:Binds X.K fd ps ds)(hd:Vals bq ds)
  (ha:PA (X.within (.ref b₀)) (eB::rest) t) (he:starEach (eB::rest) X.env=(false,eval eB X.env)::starEach rest X.env) (dD:(x == ("__debug__" : Str))=false)
  (hC:X.base.get? C=some (excClassObj nm qn C N bs tl hdct sn sub ab col dd k0 k1 k2 k3 k5 newId)) (hN:X.base.Ns N mN) (hi:mN "__init__" = some (.ref fI)) (T:OwnTail X.base bm tl)
  (I:Inv (X.within (.ref b₀)) pins σ H s) {P':Value->Shared->Prop} (hP:∀v s,QG (X.within (.ref b₀)) pins σ C names bq R v s->P' v s) (h:t σ H λvs H1=>vs.length<=sizeLine/\(vs++bq).length=names.length/\R vs H1) :
  wpAny (model X.prog X.w) (X.within (.ref b₀)).A (eval (.Name x np) X.env) (λf aO=>f = .ref C/\wpAny (model X.prog X.w) (X.within (.ref b₀)).A (evalArgs (.ref C) true (backTo bX (starEach (eB::rest) X.env)) [])
   (λa b_=>a.kw = []/\b_.heap.get? C=some (excClassObj nm qn C N bs tl hdct sn sub ab col dd k0 k1 k2 k3 k5 newId)/\wpAny (model X.prog X.w) (X.within (.ref b₀)).A (call (.ref C) a.pos) (λv cu=>cu.heap.get? C=some (excClassObj nm qn C N bs tl hdct sn sub ab col dd k0 k1 k2 k3 k5 newId)/\P' v cu) E b_) E aO) E s:=by
 refine i_ I hg hm ⟨rfl,?_⟩ dD;have hA:=ha bX pins s σ H _ I h;rw[show starEach (eB::rest) (X.within (.ref b₀)).env=(false,eval eB X.env)::starEach rest X.env from he] at hA;rw[he];refine Calls.evalArgs_plain (wpAny_mono hA (λus b_ fK=>?_) λ_ _ y=>False.elim y);obtain⟨vs,H1,J,r,hl,hn,hK⟩:=fK;refine⟨rfl,J.bk _ _ hC,?_⟩
 show wpAny _ _ (call (.ref C) us) _ _ b_;obtain⟨oI,zB,lI⟩:∃oI,b_.heap.get? fI=some oI/\oI.cls = .type "function" := by
  obtain⟨o,ho,e⟩:=Option.map_eq_some_iff.mp q.fn;exact⟨o,J.bN _ _ ho,e⟩
 have zC:=λ(b:Addr) (z:b_.heap.get? b=none)=>(show H1 b=none from by
  cases e:H1 b with
  | none=>rfl
  | some v=>obtain⟨o,q⟩:=J.aC.there e;rw[z] at q;cases q)
 obtain⟨hp,g,dr,tk,os⟩:=b_;refine Gd FB (T.keeps J.bk) (J.bk _ _ hC) (hN.keeps J.bk) hi zB lI (λh' a mx=>?_) (by rw[← r.length];exact hl)
 have na:H1 a=none:=zC a mx.new;obtain⟨tp,zD,Qm,Qn⟩:=mx.there;have old:∀b o,hp.get? b=some o->b≠a:=λb o q z=>by rw[z,mx.new] at q;cases q
 obtain⟨m,⟨oL,_,_,iD,_⟩,_⟩:=id J.loc;have pX:X.aI.heap.get? a=none:=by
  cases q:X.aI.heap.get? a with
  | none=>rfl
  | some o =>
   obtain⟨o1,q1⟩:=J.base.there a o q (by show a∉X.ex;rw[hex];simp)
   exact absurd rfl (old a o1 q1)
 have I2:Inv (X.within (.ref b₀)) pins σ H1 ⟨h',g,dr,tk,os⟩:=J.kept (t':=tk) mx.keeps;have I3:Inv (X.within (.ref b₀)) pins σ (upd H1 a (cV a C none)) ⟨h',g,dr,tk,os⟩:=I2.zo na pX (Ne.symm (old _ _ iD)) (λy c e=>by obtain⟨v,o,q,_⟩:=J.cell y c e;exact old _ _ q) (λp hp=>old _ _ (J.pin p hp).1) (tu zD ⟨rfl,rfl,(show (4:Nat)<6 by decide)⟩ (a0:=.ref tp) rfl)
 have r2:Vals (V.ref a::(vs++bq)) (Value.ref a::(us++ds)):=.cons rfl (r.append hd);have hq:kh C names (V.ref a::(vs++bq)) (upd H1 a (cV a C none)) (λv H2=>v = .aH/\∃d,H1 d=none/\d≠a/\H2=upd (upd (upd H1 a (cV a C none)) a (cV a C (some d))) d (cW d (names.zip (vs++bq)))) E0 :=
  ⟨a,_,rfl,hn,aq,λd nd=>⟨rfl,d,(by
   by_cases z:d=a
   ·rw[z,aq] at nd;cases nd
   ·rw[aG z] at nd;exact nd),(λz=>by rw[z,aq] at nd;cases nd),rfl⟩⟩
 refine wpAny_call (codeAny_mono (F.run (X.A.under (.builtin "type.__call__" ⟨.ref C::us,[]⟩)) X.stack _ _ ⟨Value.ref a::us,[]⟩ (Value.ref a::(us++ds)) _ _ (.ref b₀) (hr.make C us []) (let e1:=(I3.oJ.make C us []);⟨e1.frames,e1.mod,e1.bs,e1.gu,e1.dB,e1.e9,e1.aC,e1.bare⟩) (hb _ (Value.ref a::us) I3.bN (r2.length.symm.trans (F.len _ _ _ _ hq))) r2 hq) λr s' b8=>?_)
 match r,b8 with
 | .error e,b8=>exact False.elim b8
 | .ok .next,b8=>exact False.elim b8
 | .ok .brk,b8=>exact False.elim b8
 | .ok .cont,b8=>exact False.elim b8
 | .ok (.ret u),b8 =>
  obtain⟨v,H',I4,rv,ev,d,nd,da,eH⟩:=I3.after b8;subst ev;have ea:H' a=some (cV a C (some d)):=by rw[eH,aG (Ne.symm da),aq]
  obtain⟨ws,sl,gx,g1,a0,g0⟩:=pQ I4.aC ea;have:iT H' a=upd H1 d (cW d (names.zip (vs++bq))):=by
   funext b
   by_cases z:b=a
   ·subst z;rw[pS,aG (Ne.symm da)];exact na.symm
   ·rw[pT z,eH];by_cases y:b=d
    ·subst y;rw[aq,aq]
    ·rw[aG y,aG y,aG z,aG z]
  have I5:=I4.drop ea;rw[this] at I5;exact⟨rv,I4.bk _ _ hC,hP _ _ ⟨a,H1,d,vs,ws,sl,a0,rfl,I5,na,nd,da,pX,gx,g1,g0,hK⟩⟩
end
section
variable{M:Model}{A:Around}{E:Value->Shared->Prop}{s:Shared}{B:Heap}{env:Env}{l outer:List Env}{L a:Addr}{cls a0 fl:Value}{od:Option Addr}{Q:Unit->Shared->Prop}
theorem QJ{oe:Obj}{vs:Array Value}(eV:A.frames=some (env::outer))(hf:env.frame=some L)(jZ:B.StaysIn s.heap)(hl:s.heap.FunFrames B (env::outer))(he:s.heap.get? a=some oe)(jv:B.get? a=none)
  (ie:oe.data = .fields vs) (h1:vs[1]? = some .none) (h0:vs[0]? = some a0) (hd:cy s.heap a od)
  (hQ:∀h',cX B (env::outer) a oe.cls a0 h'->s.heap.UpToSlots h'->cy h' a od->Q () { s with heap:=h' }):wpAny M A (noteFrame (.ref a) env) Q E s:=by
 have key:wpAny M A (noteFrame (.ref a) env) (λ_ s2=>∃h',Heap.NotedW B (env::outer) a oe.cls a0 (rawInt L) s.heap h'/\s2 = { s with heap:=h' }) E s:=by
  unfold noteFrame;simp only[hf];refine wpAny_bind (wpAny_field he ie h1 ?_);rw[if_neg (by decide)]
  exact wpAny_entryW eV hl hf he jZ jv ie (Array.getElem?_eq_some_iff.mp h1).1 h0 λh' x=>⟨h',x,rfl⟩
 refine wpAny_mono ((sS (.ref a) env).any key) (λu s2 z=>?_) λ_ _ z=>z.1;obtain⟨⟨h',⟨k1,k2,k3,k4⟩,rfl⟩,k⟩:=z;have x:cX B (env::outer) a oe.cls a0 h':=⟨k1,jv,k2,_,k3⟩;exact hQ h' x k4 (hd.dk k x.there)
theorem QK(eV:A.frames=some (env::outer))(hf:env.frame=some L)(x:cX B (env::outer) a cls a0 s.heap)(hd:cy s.heap a od)
  (hQ:∀h',cX B (env::outer) a cls a0 h'->s.heap.UpToSlots h'->cy h' a od->Q () { s with heap:=h' }):wpAny M A (noteFrame (.ref a) env) Q E s:=by
 obtain⟨x1,x2,x3,fl,x4⟩:=x;by_cases ju:fl=rawInt L
 ·subst ju;exact wpAny_noteFrame_againW hf x4 (hQ s.heap ⟨x1,x2,x3,_,x4⟩ (Heap.UpToSlots.refl _) hd)
 ·have key:wpAny M A (noteFrame (.ref a) env) (λ_ s2=>∃h',cX B (env::outer) a cls a0 h'/\s.heap.UpToSlots h'/\s2 = { s with heap:=h' }) E s:=by
   obtain⟨oe,vs,T,oT,ts,he,⟨rfl,h0⟩,ie,h1,ir,iu,hT,d8,h3⟩:=x4;have nT:∀b o,s.heap.get? b=some o->(∀ws,o.data≠.fields ws)->b≠T:=λb o q n z=>by
    rw[z,hT] at q;cases q;exact n ts d8
   have ot:∀b,b≠T->(s.heap.update T (Obj.mapFields (·.setIfInBounds 3 Value.none))).get? b=s.heap.get? b:=λb z=>Heap.get?_update_other _ _ (Ne.symm z);have kb:B.StaysIn (s.heap.update T (Obj.mapFields (·.setIfInBounds 3 Value.none))):=λb o q=>(ot b (λz=>by rw[z,ir] at q;cases q)).trans (x1 b o q)
   have kf:(s.heap.update T (Obj.mapFields (·.setIfInBounds 3 Value.none))).FunFrames B (env::outer):=x3.of_keeps λb o q n=>⟨o,(ot b (nT b o q n)).trans q,rfl⟩;unfold noteFrame;simp only[hf];refine wpAny_bind (wpAny_field he ie h1 ?_);rw[if_pos (show (Value.ref T != Value.none)=true by simp)]
   refine wpAny_bind (wpAny_field hT d8 h3 ?_);rw[if_neg (show ¬ ((fl == rawInt L)=true) by simpa using ju)]
   refine wpAny_bind (wpAny_setField hT d8 (Array.getElem?_eq_some_iff.mp h3).1 ?_);exact wpAny_entryW eV kf hf ((ot a (Ne.symm iu)).trans he) kb x2 ie (Array.getElem?_eq_some_iff.mp h1).1 h0 λh' x=>⟨h',⟨x.1,x2,x.2.1,_,x.2.2.1⟩,λb o q n=>x.2.2.2 b o ((ot b (nT b o q n)).trans q) n,rfl⟩
  refine wpAny_mono ((sS (.ref a) env).any key) (λu s2 z=>?_) λ_ _ z=>z.1;obtain⟨⟨h',y1,y2,rfl⟩,k⟩:=z;exact hQ h' y1 y2 (hd.dk k y1.there)
theorem QL(x:cX B l a cls a0 s.heap)(hd:cy s.heap a od)
  (hQ:∀h',cX B l a cls a0 h'->s.heap.UpToSlots h'->cy h' a od->E (.ref a) { s with heap:=h' }):cameBackBy M A env E (.ref a) s:=by
 obtain⟨x1,x2,x3,fl,x4⟩:=x;obtain⟨oe,vs,T,oT,ts,he,hc,ie,h1,_⟩:=id x4;unfold cameBackBy;refine wpAny_bind (wpAny_field he ie h1 ?_);rw[if_neg (show ¬ ((Value.ref T == Value.none)=true) by simp)]
 refine wpAny_mono ((pC (.ref a) env.frame).any (Gq (E:=E) (Q:=λ_ s2=>∃h',cX B l a cls a0 h'/\s.heap.UpToSlots h'/\s2 = { s with heap:=h' }) x3 x4 x1 env.frame λh' pZ k1 k2 k3 k4=>⟨h',⟨k1,x2,k2,pZ,k3⟩,k4,rfl⟩)) (λu s2 z=>?_) λ_ _ z=>z.1;obtain⟨⟨h',y1,y2,rfl⟩,k⟩:=z;exact hQ h' y1 y2 (hd.dk k y1.there)
theorem cX.here{C:Addr}{h h':Heap}{m m':Str->Option Value}(x:cX B l a cls a0 h)(hn:h.Ns C m)(fc:h'.Ns C m')(sb:Heap.SameBut C h h')(hC:B.get? C=none):cX B l a cls a0 h':=by
 obtain⟨x1,x2,x3,fl,oe,vs,T,oT,ts,he,hc,hd,h1,ir,iu,hT,d8,h3⟩:=x;obtain⟨oc,es,ep,ec,dc,_⟩:=hn;obtain⟨QM,nU,rH,QN,QO,_⟩:=fc;have nC:∀ {b:Addr} {o:Obj} {ws:Array Value},h.get? b=some o->o.data = .fields ws->b≠C:=λq d z=>by rw[z,ec] at q;cases q;rw[dc] at d;cases d
 refine⟨λb o q=>(sb.2 b (λz=>by rw[z,hC] at q;cases q)).trans (x1 b o q),x2,?_,fl,oe,vs,T,oT,ts,(sb.2 a (nC he hd)).trans he,hc,hd,h1,ir,iu,(sb.2 T (nC hT d8)).trans hT,d8,h3⟩
 clear x1 x2 he hc hd h1 ir iu hT d8 h3
 induction l with
 | nil=>trivial
 | cons e l ih =>
  obtain⟨g1,⟨L,o,g2,g3,g4,g5⟩,g6⟩:=x3;refine⟨g1,?_,ih g6⟩;by_cases z:L=C
  ·subst z;exact⟨L,QM,g2,g3,QN,λws q=>by rw[QO] at q;cases q⟩
  ·exact⟨L,o,g2,g3,(sb.2 L z).trans g4,g5⟩
end
theorem Gz(d:Nat):(2*d+1) / 2=d:=by lia
theorem QS(d:Nat):(2*d+1) % 2=1:=by lia
theorem GA(d:Nat):2*d / 2=d:=by lia
theorem QT(d:Nat):2*d % 2=0:=by lia
section
variable{prog:Program}{w:World}{A:Around}{E:Value->Shared->Prop}{s:Shared}{env:Env}
variable{nm q:Str}{C N:Addr}{bs bm cN:List Value}{hdct:Bool}{sn:List Str}{sub:List Value}{ab:Bool}{col:Option Bool}{dd:Option Addr}{k0 k1 k2 k3 k5:Option Value}{B newId d7:String}
noncomputable def QU(C b:Addr)(E:Value->Shared->Prop)(v:Value)(aO:Shared):Prop:=∃(e:Addr) (od:Option Addr) (vs:Array Value) (sl:Array (Option Value)) (ob:Obj) (ws:Array Value),v = .ref e/\
 aO.heap.get? e=some { cls:=.ref C,dict:=od,data:=.fields vs,slots:=sl }/\vs[1]? = some .none/\4<vs.size/\b≠e/\aO.heap.get? b=some ob/\ob.data = .fields ws/\ws[2]? = some .none/\
 ∀h' gH,Heap.SameBut e aO.heap h'->h'.get? e=some { cls:=.ref C,dict:=od,data:=.fields gH,slots:=sl }->gH[0]? = vs[0]?->gH[1]? = some .none->E (.ref e) { aO with heap:=h' }
theorem QV{x:Str}{np bX pos kp:Pos}{j}{b:Addr}{args:List Expr}{Q:Flow->Shared->Prop}(jk:bm.contains (.type "BaseException")=true)(hh:A.handled=some (.ref b))(kZ:(backTo bX (starEach args env)).any (·.1)=false)
  (h:wpAny (model prog w) A (eval (.Name x np) env) (λf aO=>f = .ref C/\wpAny (model prog w) A (evalArgs (.ref C) true (backTo bX (starEach args env)) [])
   (λa b_=>a.kw = []/\b_.heap.get? C=some (excClassObj nm q C N bs bm hdct sn sub ab col dd k0 k1 k2 k3 k5 newId)/\wpAny (model prog w) A (call (.ref C) a.pos) (λv cu=>cu.heap.get? C=some (excClassObj nm q C N bs bm hdct sn sub ab col dd k0 k1 k2 k3 k5 newId)/\QU C b E v cu) E b_) E aO) E s) :
  wpAny (model prog w) A (exec (.Raise (some (.Call (.Name x np) args [] bX)) (some (.Constant .none j kp)) pos) env) Q E s:=by
 rw[arm_exec_Raise];refine wpAny_bind (wpAny_standAt (QD (C:=C) (nm:=nm) (q:=q) (N:=N) (bs:=bs) (bm:=bm) (hdct:=hdct) (sn:=sn) (sub:=sub) (ab:=ab) (col:=col) (dd:=dd) (k0:=k0) (k1:=k1) (k2:=k2) (k3:=k3) (k5:=k5) (newId:=newId) jk hh
  (λs R E hR=>wpAny_bind (Constant_none (wpAny_bind (wpAny_standAt (wpAny_pure hR))))) (wpAny_bind (wpAny_mono (wpAny_Call_ofName (wpAny_mono h (λf aO cE=>?_) λ_ _ x=>x)) (λv cu jm=>wpAny_bind (wpAny_standAt (wpAny_pure jm))) λ_ _ x=>x))))
 obtain⟨rfl,cE⟩:=cE;unfold callWith;refine wpAny_bind (wpAny_holding (wpAny_mono cE (λa b_ fK=>wpAny_bind (wpAny_standAt ?_)) λ_ _ x=>x));obtain⟨apos,zx⟩:=a;obtain⟨zy,hC,fK⟩:=fK;obtain rfl:zx = []:=zy;obtain⟨hp,g,d,tk,os⟩:=b_;simp only[kZ];refine wpAny_bind (wpAny_keeperOf_exc hC ?_);refine wpAny_bind (wpAny_mono fK (λv cu z=>wpAny_bind (wpAny_holding (wpAny_point (wpAny_pure ?_)))) λ_ _ z=>z);obtain⟨lJ,e,od,vs,sl,ob,ws,rfl,z⟩:=z;exact⟨e,od,vs,sl,ob,ws,rfl,lJ,z⟩
end
section
variable{X:Cx}{E:XK}{pins:List (Addr×Obj)}{σ:St}{Hx:Hp}{s3:Shared}{h':Heap}{e C d:Addr}{gH:Array Value}{sl:Array (Option Value)}{a0:Value}{i:Nat}{n:Str}{pH:Pos}{b₀:Addr}{E1 E2:Value->Shared->Prop}
theorem QW(hp:tD X E)(cC:X.stack=X.env::X.outer)(iU:X.env.frame=some X.env.locals)(hex:X.ex = [])(hk:X.env.kindOf n=some .local)(I:Inv X pins σ Hx s3)(sb:Heap.SameBut e s3.heap h')(ne:Hx e=none)(n0:X.aI.heap.get? e=none)
  (he:h'.get? e=some { cls:=.ref C,dict:=some d,data:=.fields gH,slots:=sl }) (mY:∃ws sl od,s3.heap.get? e=some { cls:=.ref C,dict:=od,data:=.fields ws,slots:=sl }) (h1:gH[1]? = some .none) (h0:gH[0]? = some a0) (hE:E (.ref C) (some (2*d+1)) Hx) :
  wpAny (model X.prog X.w) (X.within (.ref b₀)).A (noteFrame (.ref e) X.env) (λ_ QX=>wpAny (model X.prog X.w) (X.within (.ref b₀)).A (do bindName X.env n .none;unbindBehindTheSuite X.env n pH) (λ_ g_=>wpAny (model X.prog X.w) (X.within (.ref b₀)).A (PySem.passOn "try.except-as" (.ref e) X.env:Sem Flow) (λ_ _=>False)
   (notedBy (model X.prog X.w) (X.within (.ref b₀)).A X.env λx s'=>cameBackBy (model X.prog X.w) X.A X.env X.xe x s') g_) E1 QX) E2 { s3 with heap:=h' }:=by
 have gb:(X.within (.ref b₀)).A.frames=some (X.env::X.outer):=by rw[← cC];exact I.ok.frames
 obtain⟨Ze,Zf,Zg,mY⟩:=mY;have nb:∀b o,s3.heap.get? b=some o->(∀ws,o.data≠.fields ws)->b≠e:=λb o q nf z=>by
  rw[z,mY] at q;cases q;exact nf _ rfl
 have fr:h'.FunFrames X.base X.stack:=I.stack.of_keeps λb o q nf=>⟨o,(sb.2 b (nb b o q nf)).trans q,rfl⟩;have p8:∀b o,X.aI.heap.get? b=some o->b≠e:=λb o q z=>by rw[z,n0] at q;cases q
 have IB:Un (aY X.outer) [] X.cz Hx X.aI.heap s3.heap:=by have:=I.base;rw[hex] at this;exact this
 have oL:∀b∈aY X.stack,b∉aY X.outer->X.aI.heap.objs.size<=b:=λb hb nn=>by
  rw[cC] at hb;obtain⟨env,fq,q⟩:=List.mem_filterMap.mp hb;rcases List.mem_cons.mp fq with rfl | fq
  ·rw[iU] at q;cases q;exact I.ok.above
  ·exact absurd (List.mem_filterMap.mpr ⟨env,fq,q⟩) nn
 have nS:∀b o,X.aI.heap.get? b=some o->b∉aY X.outer->b∉aY X.stack:=λb o q nn z=>absurd (Heap.lt_size q) (Nat.not_lt.mpr (oL b z nn));have jx:∀b o,X.aI.heap.get? b=some o->∀o',s3.heap.get? b=some o'->h'.get? b=some o':=λb o q o' z=>(sb.2 b (p8 b o q)).trans z;generalize hB:PySem.W.hideAll h' (e::aY X.stack)=B;have kB:B.StaysIn h':=λb o q=>by rw[← hB] at q;exact PySem.W.of_hideAll _ q
 have kA:∀b o,h'.get? b=some o->b≠e->b∉aY X.stack->B.get? b=some o:=λb o q z hb=>by
  rw[← hB];exact PySem.W.hideAll_get _ q λhm=>(List.mem_cons.mp hm).elim z hb
 have Be:B.get? e=none:=by rw[← hB];exact PySem.W.hideAll_none _ (.head _)
 have GB:h'.FunFrames B X.stack:=by rw[← hB];exact PySem.W.funFrames_hide fr λenv jv b hb=>.tail _ (List.mem_filterMap.mpr ⟨env,jv,hb⟩)
 have mX:Cut X.base B X.outer X.cz Hx X.aI.heap:=by
  refine⟨λb o q=>?_,λb o q nn hb=>kA b o (jx b o q o (IB.keep b o q nn hb (by simp))) (p8 b o q) (nS b o q hb),λb v z=>?_,λb o q hb=>?_⟩
  ·have q0:=(I.ok.bs b o q).1;refine kA b o ((sb.2 b (p8 b o q0)).trans (I.bk b o q)) (p8 b o q0) λhm=>?_
   have z:=(I.stack.mem hm).1;rw[q] at z;cases z
  ·obtain⟨o,q⟩:=I.aC.there z;have fX:b≠e:=λy=>by rw[y,ne] at z;cases z
   exact⟨o,kA b o ((sb.2 b fX).trans q) fX λhm=>by rw[I.rF b hm] at z;cases z⟩
  ·obtain⟨o1,q1⟩:=IB.there b o q (by simp)
   exact⟨o1,kA b o1 (jx b o q o1 q1) (p8 b o q) (nS b o q hb)⟩
 have QY:Un (aY X.outer) [] X.cz Hx X.aI.heap h':=⟨λb o q nn hb hx=>jx b o q o (IB.keep b o q nn hb hx),λb o q nn hb hx=>let ⟨sl,z⟩:=IB.slot b o q nn hb hx;⟨sl,jx b o q _ z⟩,IB.free,λb o q hx=>let ⟨o',z⟩:=IB.there b o q hx;⟨o',jx b o q _ z⟩,IB.d9,IB.dQ,IB.d_⟩
 have k6:bM X.prog X.w Hx h':=λb v z=>(I.aC b v z).e8 (λd' _ dj q=>(sb.2 d' (λy=>by
  rcases dj with y2 | dj
  ·rw[← y2,y,ne] at z;cases z
  ·rw[y,ne] at dj;cases dj)).trans q) (λ_ q=>q) λ_ _ q=>q
 have QZ:cy h' e (some (2*d+1)):=⟨_,he,congrArg some (Gz d).symm,λk z y=>by cases z;exact absurd ((QS d).symm.trans y) (by decide)⟩
 rw[cC] at GB;refine QJ (s:={ s3 with heap:=h' }) gb iU kB GB he Be rfl h1 h0 QZ λh4 p9 j5 j6=>?_;rw[← cC] at p9;have Q0:∀b∈aY X.outer,X.cz b=none/\∀o,X.aI.heap.get? b=some o->∀vs,o.data≠.fields vs:=λb hb=>⟨I.ok.e9 b hb,λo q=>by
  obtain⟨_,o2,q2,nf⟩:=I.ok.dB.mem hb;rw[q] at q2;cases q2;exact nf⟩
 have x4:lK X E e C a0 Hx B (some (2*d+1)) { s3 with heap:=h4 }:=⟨I.os,I.bare,pD QY mX p9.1 j5 Q0,pF k6 mX kB p9.1,ne,n0,mX,p9,j6,hE⟩;obtain⟨m,hn,_⟩:=I.loc;have GC:X.env.locals≠e:=by
  obtain⟨oc,es,ep,ec,dc,_⟩:=hn;exact nb _ oc ec λws q=>by rw[dc] at q;cases q
 have fc:h'.Ns X.env.locals m:=by
  obtain⟨oc,es,ep,ec,dc,r⟩:=hn;exact⟨oc,es,ep,(sb.2 _ GC).trans ec,dc,r⟩
 have GD:h4.Ns X.env.locals m:=j5.ns fc;have kK:(X.env.scope.kind == .class || (X.env.scope.kind == .module && X.env.locals != X.env.globals))=false:=by rw[I.ok.kind];rfl
 have BL:B.get? X.env.locals=none:=by
  rw[← hB];refine PySem.W.hideAll_none _ (.tail _ ?_);rw[cC];exact List.mem_filterMap.mpr ⟨X.env,.head _,iU⟩
 refine wpAny_nameGoes_keeps (s:={ s3 with heap:=h4 }) hk GD kK λh5 v Q2 ki=>?_;have ki:Heap.SameBut X.env.locals h4 h5:=ki;have p7:=p9.here GD Q2 ki BL;have nL:∀b o,X.aI.heap.get? b=some o->b≠X.env.locals:=λb o q=>Nat.ne_of_lt (Nat.lt_of_lt_of_le (Heap.lt_size q) I.ok.above);have j7:cy h5 e (some (2*d+1)):=by
  obtain⟨oe,q,z⟩:=j6;exact⟨oe,(ki.2 e (Ne.symm GC)).trans q,z⟩
 have x5:lK X E e C a0 Hx B (some (2*d+1)) { s3 with heap:=h5,toks:=s3.toks+1 }:=by
  refine⟨I.os,I.bare,⟨λb o q nn hb hx=>(ki.2 b (nL b o q)).trans (x4.un.keep b o q nn hb hx),λb o q nn hb hx=>?_,x4.un.free,λb o q hx=>?_,x4.un.d9,x4.un.dQ,x4.un.d_⟩,λb v z=>?_,ne,n0,mX,p7,j7,hE⟩
  ·obtain⟨sl,z⟩:=x4.un.slot b o q nn hb hx;exact⟨sl,(ki.2 b (nL b o q)).trans z⟩
  ·obtain⟨o',z⟩:=x4.un.there b o q hx;exact⟨o',(ki.2 b (nL b o q)).trans z⟩
  ·refine(x4.aC b v z).e8 (λd' _ dj q=>(ki.2 d' (λy=>?_)).trans q) (λ_ q=>q) λ_ _ q=>q;rcases dj with y2 | dj
   ·rw[← y2,y,I.free] at z;cases z
   ·rw[y,I.free] at dj;cases dj
 refine Gs p7 j7 λh6 GF pI mT=>?_;have x6:=x5.move I.ok GF pI mT
 show wpAny _ _ (noteFrame (.ref e) X.env) _ _ _;have GH:=GF;rw[cC] at GH;refine QK gb iU GH mT λh7 zL lN GI=>?_;rw[← cC] at zL;have x7:=x6.move I.ok zL lN GI;exact QL zL GI λh8 Q3 Q4 Q5=>hp e C a0 Hx B _ _ I.ok (x7.move I.ok Q3 Q4 Q5)
end
noncomputable def tF(X:Cx)(hs:List ExceptHandler)(t:TH):Prop :=
 ∀(pins:List (Addr×Obj)) (σ:St) (a C:Addr) (a0:Value) (H1:Hp) (s1:Shared) (H':Hp) (B:Heap) (od:Option Addr) (s':Shared) (D:Ends),Fl X pins σ a C a0 H1 s1 H' B od s'->fu X.K C->t od C a D σ H'->
  wpAny (model X.prog X.w) X.A (handleBy (.ref a) X.env hs) (SP X pins D) X.xe s'
theorem PH.x{X:Cx}{hs:List ExceptHandler}{t:TH}(h:PH X hs t):tF X hs t:=λpins σ a C a0 H1 s1 H' B od s' D F xc z=>h pins σ a C a0 H1 s1 H' B od s' D _ F xc z
noncomputable def Q6(K:PySem.W.Frag)(C2:Addr)(i:Nat)(C:Addr)(names:List Str)(bq:List V)(E:XK)(ta:Addr->TA)(t:TH):TH:=λod C0 a D σ H =>
 (subIn K C0 (.ref C2)=true/\∃k,od=some k/\k % 2=0/\ta a (σ.set i (some (.ref a))) (upd H a (eW a C0 od)) λvs H1=>vs.length<=sizeLine/\(vs++bq).length=names.length/\H1 a=some (eW a C0 od)/\∀d,H1 d=none->E (.ref C) (some (2*d+1)) (upd H1 d (cW d (names.zip (vs++bq)))))\/
 (subIn K C0 (.ref C2)=false/\t od C0 a D σ H)
theorem Q7{X:Cx}{E:XK}{x n xc:Str}{np iV bX pos kp pH:Pos}{j}{eB:Expr}{rest:List Expr}{hs:List ExceptHandler}{C2 C fI:Addr}{bm:List Value}{newId d7 B:String}{i k:Nat}{fd:FuncData}{ps names:List Str}{bq:List V}{ds:List Value}{ta:Addr->TA}{t:TH}
  (hp:tD X E) (cC:X.stack=X.env::X.outer) (iU:X.env.frame=some X.env.locals) (hg:Gl X x) (hm:X.mg x=some (.ref C2)) (y:fu X.K C2) (hN:X.N.Nodup) (hi:X.N[i]? = some n) (hk:X.env.kindOf n=some .local) (hex:X.ex = [])
  (Q8:Gl X xc) (Q9:X.mg xc=some (.ref C)) (q:pU X.K C fI bm newId) (FB:ExcBaseFacts B newId d7 bm) (F:tE X.prog X.w X.K X.mg X.base k fI fd ps (kh C names)) (Q_:bY (k+1) X.A) (hb:Binds X.K fd ps ds) (hd:Vals bq ds)
  (ha:∀a,PA (X.within (.ref a)) (eB::rest) (ta a)) (hr:tF X hs t) (dD:(x == ("__debug__" : Str))=false:=by decide) (Ra:(xc == ("__debug__" : Str))=false:=by decide)
  (he:starEach (eB::rest) X.env=(false,eval eB X.env)::starEach rest X.env:=by rfl) (dJ:(backTo bX (starEach rest X.env)).any (·.1)=false:=by rfl) :
  tF X (.ExceptHandler (some (.Name x np)) (some n) [.Raise (some (.Call (.Name xc iV) (eB::rest) [] bX)) (some (.Constant .none j kp)) pos] pH::hs) (Q6 X.K C2 i C names bq E ta t):=by
 intro pins σ a C0 a0 H1 s1 H' B' od s' D F0 GJ h;obtain⟨ob,y9,y_⟩:=F0.bZ.there;refine wpAny_handleBy_cons (codeAny_handlers_test (i_ (X:=X.within (.ref a)) (F0.inv.within (.ref a)) hg hm (FI F0.inv.bN GJ y y9 y_ ?_) dD)) (by intro q;cases q)
 rcases h with⟨zM,k',rfl,Rb,h⟩ | ⟨zM,h⟩
 ·rw[zM];refine codeAny_handlers_suite_as (FD F0.bZ F0.hd λh6 zb pI mT=>?_);have F6:=F0.move zb pI mT;refine nX (X:=X.within (.ref a)) (i:=i) (v:=V.ref a) ((F6.tracked hex).within (.ref a)) hN hi (.inl hk) rfl (λs2 I2=>?_) (.inr hk);obtain⟨tl,N,nm,qn,bs,hdct,sn,sub,ab,col,dd,k0,k1,k2,k3,k5,mN,hC,Rc,gD,T⟩:=zm I2.mod.i9 q.ok q.pW;refine wpAny_execs_cons (QV (C:=C) (nm:=nm) (q:=qn) (N:=N) (bs:=bs) (bm:=tl) (hdct:=hdct) (sn:=sn) (sub:=sub) (ab:=ab) (col:=col) (dd:=dd) (k0:=k0) (k1:=k1) (k2:=k2) (k3:=k3) (k5:=k5) (newId:=newId) (b:=a)
   (T.hasType FB.hasBase) rfl (by rw[he];show (false || (backTo bX (starEach rest X.env)).any (·.1))=false;rw[dJ];rfl) ?_)
  refine QI (b₀:=a) (R:=λvs H1=>H1 a=some (eW a C0 (some k'))/\∀d,H1 d=none->E (.ref C) (some (2*d+1)) (upd H1 d (cW d (names.zip (vs++bq))))) Q8 Q9 q FB hex F Q_ hb hd (ha a) he Ra hC Rc gD T I2 (λv s3 M=>?_) h;obtain⟨e,H2,d,vs,ws,sl,a2,rfl,I3,ne,nd,de,Rf,gx,g1,g0,ea,hE⟩:=M;have Rg:a≠e:=λz=>by rw[← z,ea] at ne;cases ne
  have tG:(upd H2 d (cW d (names.zip (vs++bq)))) a=some (eW a C0 (some k')):=by
   rw[aG (cQ ea nd)];exact ea
  obtain⟨oa,go,_,_,va,gd,gc⟩:=Gp I3.aC tG;have Rh:(upd H2 d (cW d (names.zip (vs++bq)))) e=none:=by rw[aG (Ne.symm de)];exact ne
  refine⟨e,some d,ws,sl,oa,va,rfl,gx,g1.1,g1.2.2,Rg,go,gd,gc Rb,λh' gH sb Ri v0 v1=>?_⟩;exact QW hp cC iU hex hk (I3.out F0.I.ok) sb Rh Rf Ri ⟨_,_,_,gx⟩ v1 (v0.trans g0) (hE d nd)
 ·rw[zM];exact hr pins σ a C0 a0 H1 s1 H' B' od s' D F0 GJ h
theorem Rj{X:Cx}{st:Stmt}{h₀:ExceptHandler}{hs:List ExceptHandler}{pos:Pos}{tb:XK->TS}{th:TH}(cC:X.stack=X.env::X.outer)(hf:X.env.frame=some X.env.locals)(hb:∀E,sU X E st (tb E))(hh:tF X (h₀::hs) th) :
  PS X (.Try [st] (h₀::hs) [] [] pos) (FP X.K tb th):=by
 intro pins s σ H D I h;refine wpAny_Try_except (wpAny_execs_cons (wpAny_mono (hb _ pins s σ H D I h) (λf s1 q=>?_) λe s' z=>?_))
 ·cases f with
  | next=>exact wpAny_execs_nil (wpAny_execs_nil q)
  | ret v=>exact q
  | brk=>exact q
  | cont=>exact q
 ·obtain⟨H1,s1,I1,a,C,a0,H',B,od,rfl,ho,hg,u,aC,na,nh,c,bZ,hd,C',eC,xc,hE⟩:=z;cases eC;have F:Fl X pins σ a C a0 H1 s1 H' B od s':=⟨I1,ho,hg,u,aC,na,nh,c,bZ,hd⟩;have j4:=bZ;rw[cC] at j4;refine yV (by rw[I1.ok.frames,cC]) hf j4 hd λh4 held j5 j6=>?_
  refine FA held j6 λh5 pJ pK j7=>?_;rw[← cC] at pJ;exact hh pins σ a C a0 H1 s1 H' B _ _ D (F.move pJ (j5.trans pK) j7) xc (hE a na)
section
variable{X:Cx}{k:Nat}{f:Addr}{cs:List Addr}{fd:FuncData}{ps:List Str}{sp:Sp}{bq:List V}{ds:List Value}{E:XK}{m:Str}{pos apos:Pos}{e o:Expr}{es:List Expr}{ta:TE}{t:TA}
theorem Rk{pl:Sem Bool}(he:PE X.iE o ta)(hc:∀C∈cs,fS X.K C/\Meth X.K C m f)(F:a_ X.prog X.w X.K X.mg X.base (dZ X.prog X.w X.base) k f fd ps sp)(hr:bY k X.A)(hb:Binds X.K fd ps ds)(hd:Vals bq ds)(ha:PA X.iE (e::es) t)
  (cC:starEach (e::es) X.env=(false,eval e X.env)::starEach es X.env:=by rfl) (dJ:(backTo pos (starEach es X.env)).any (·.1)=false:=by rfl)
  (ht:eval (.Call (.Attribute o m apos) (e::es) [] pos) X.env=(do
   let ov ← eval o X.env
   standAt apos.atName
   let (f,first) ← holding [ov] (getMethod ov m pl)
   callWith pos f first (backTo pos (starEach (e::es) X.env)) (backToKw pos (keywordEach [] X.env))):=by rfl) :
  j0 X E (.Call (.Attribute o m apos) (e::es) [] pos) (OO cs m sp bq E ta t):=by
 intro pins s σ H Q I h;refine PySem.W.methodCall_KW (pl:=pl) (wpAny_mono (he pins s σ H _ (I.fQ _) h) (λu s1 hz=>?_) λ_ _ z=>False.elim z) ht;obtain⟨x,H1,I1,rx,C,a,dx,fs,ex,ea,hC,hl,q⟩:=hz;subst ex;obtain rfl:u=Value.ref a:=rx;obtain⟨c1,c2⟩:=hc C hC;refine MB I1.gw ea c1 c2 hl ?_;refine PySem.W.callWith_K (first:=[.ref a]) (h₀:=X.base) I.ok.mod.i9 c2.kp (wpAny_mono (ha pos pins s1 σ H1 _ I1 q) (λus s2 ⟨vs,H2,I2,r,q2⟩=>⟨I2.bN,?_⟩) λ_ _ z=>False.elim z) cC dJ
 exact FE (us:=.ref a::us) (vs:=.ref a::vs) F hr hb hd I2.gw (.cons rfl r) q2
end
noncomputable def GK(nc:List (Int×Int))(f m:Int):List (Int×Int):=(nc.drop f.toNat).take m.toNat
noncomputable def tH(H:Hp)(d:Addr)(c:Int)(ask:V):Prop:=H d=some (cW d [(("cell" : Str),.int c),(("ask" : Str),ask)])
noncomputable def Rl(K:PySem.W.Frag)(X:Addr):Sp:=λvs H Q E=>∃(C p:Addr) (P:Pl) (fp:List Addr) (k:Int),vs = [.ref p,.int k]/\eU K C H p P fp/\
 (0<=k->k<P.nc.length->∀t q,P.nc[k.toNat]? = some q->H t=some (.tup [.int q.1,.int q.2])->Q (.ref t) H)/\(¬ (0<=k/\k<P.nc.length)->∀d H',ah H H'->tH H' d k .aH->E (.ref X) (some (2*d)) H')
noncomputable def Rm(K:PySem.W.Frag)(cs:List Addr)(CA X:Addr):Sp:=λvs H Q E=>∃(C p ap:Addr) (P:Pl) (fp:List Addr) (q:Ak) (m b dx:Addr),vs = [.ref p,.ref ap]/\C∈cs/\eU K C H p P fp/\eX K CA H ap q m b dx/\0<=q.first/\q.first<=2000000/\0<=q.many/\q.many<=16/\P.nc.length<=1000000/\
 (q.first+q.many<=P.nc.length->∀l ts H',ah H H'->H l=none->Zn H' l ts (GK P.nc q.first q.many)->Q (.ref l) H')/\
 (P.nc.length<q.first+q.many->0<q.many/\∀d H',ah H H'->tH H' d (max q.first P.nc.length) .aH->E (.ref X) (some (2*d)) H')
noncomputable def Rn(K:PySem.W.Frag)(cs:List Addr)(CA X:Addr):Sp:=λvs H Q E=>∃(C p ap:Addr) (k:Int) (P:Pl) (fp:List Addr) (q:Ak) (m b dx:Addr),vs = [.ref p,.int k,.ref ap]/\C∈cs/\eU K C H p P fp/\eX K CA H ap q m b dx/\0<=q.first/\q.first<=2000000/\0<=q.many/\q.many<=16/\P.nc.length<=1000000/\
 (q.first+q.many<=P.nc.length->∀l ts H',ah H H'->H l=none->Zn H' l ts (GK P.nc q.first q.many)->Q (.ref l) H')/\
 (P.nc.length<q.first+q.many->0<q.many/\∀d H',ah H H'->tH H' d (max q.first P.nc.length) (.int k)->E (.ref X) (some (2*d+1)) H')
theorem Zn.pushX{H:Hp}{l t:Addr}{ts:List Addr}{z:List (Int×Int)}{c:Int×Int}(h:Zn H l ts z)(ht:H t=some (.tup [.int c.1,.int c.2])):Zn (upd H l (.lst (ts.map V.ref++[V.ref t]))) l (ts++[t]) (z++[c]):=by
 have ne:∀ {a:Addr} {xs:List V},H a=some (.tup xs)->a≠l:=λe q=>by rw[q,h.l] at e;cases e
 refine⟨by rw[aq,List.map_append];rfl,by simp[h.n],λi t' p e1 e2=>?_⟩
 by_cases hi:i<ts.length
 ·rw[List.getElem?_append_left hi] at e1;rw[List.getElem?_append_left (by rw[← h.n];exact hi)] at e2
  have:=h.t i t' p e1 e2;rw[aG (ne this)];exact this
 ·rw[List.getElem?_append_right (by lia)] at e1
  rw[List.getElem?_append_right (by rw[← h.n];lia),← h.n] at e2
  have hj:i - ts.length=0:=by
   have:=(List.getElem?_eq_some_iff.mp e1).1;simp at this;lia
  rw[hj] at e1 e2;cases e1;cases e2;rw[aG (ne ht)];exact ht
theorem Ro{nc:List (Int×Int)}{f:Int}{i:Nat}{c:Int×Int}(h0:0<=f)(e:nc[(f+(i:Int)).toNat]? = some c):(nc.drop f.toNat).take (i+1)=(nc.drop f.toNat).take i++[c]:=by
 have:(nc.drop f.toNat)[i]? = some c:=by
  rw[List.getElem?_drop,show f.toNat+i=(f+(i:Int)).toNat by lia];exact e
 exact take_succ_get this
noncomputable def tK(X:Cx)(E:XK)(es:List Expr)(t:TA):Prop :=
 ∀(pos:Pos) (pins:List (Addr×Obj)) (s:Shared) (σ:St) (H:Hp) (Q:List V->Hp->Prop),Inv X pins σ H s->t σ H Q->wpAny (model X.prog X.w) X.A (spliced (backTo pos (starEach es X.env))) (AP X pins σ Q) (XP X.prog X.w X.base X pins σ E) s
section
variable{X:Cx}{E:XK}{e:Expr}{es:List Expr}{te:TE}{t:TA}{pos:Pos}
theorem Rp(ha:j0 X E e te)(hs:starEach [e] X.env = [(false,eval e X.env)]:=by rfl):tK X E [e] (xY te D9):=by
 intro pos pins s σ H Q I h;rw[hs]
 show wpAny _ _ (spliced [(false,eval e X.env)]) _ _ s;refine Calls.spliced_cons (aQ (ha pins s σ H _ I h) λu s1 ⟨x,H1,I1,r1,q1⟩=>?_);exact Calls.spliced_nil ⟨[x],H1,I1,.cons r1 .nil,q1⟩
theorem Rq(ha:PE X.iE e te)(hr:tK X E es t)(hs:starEach (e::es) X.env=(false,eval e X.env)::starEach es X.env:=by rfl):tK X E (e::es) (xY te t):=by
 intro pos pins s σ H Q I h;rw[hs]
 show wpAny _ _ (spliced ((false,eval e X.env)::backTo pos (starEach es X.env))) _ _ s;refine Calls.spliced_cons (wpAny_mono (ha pins s σ H _ (I.fQ _) h) (λu s1 ⟨x,H1,I1,r1,q1⟩=>?_) λ_ _ z=>False.elim z);exact aQ (hr pos pins s1 σ H1 _ I1.gw q1) λus s2 ⟨xs,H2,I2,r2,q2⟩=>⟨x::xs,H2,I2,.cons r1 r2,q2⟩
theorem Rr(h:tK X E es t):j0 X E (.List es pos) (D_ t):=by
 intro pins s σ H Q I hq;refine wpAny_List_spliced (aQ (h pos pins s σ H _ I hq) λus s1 ⟨xs,H1,I1,r,z,q⟩=>⟨by rw[← r.length];exact z,?_⟩)
 have hf:H1 s1.heap.objs.size=none:=I1.aC.fresh (Nat.le_refl _);refine⟨.ref s1.heap.objs.size,upd H1 s1.heap.objs.size (.lst xs),I1.laid (t':=s1.toks) (λb u e=>Heap.get?_push_of_some _ e) (Nat.le_refl _) ?_,rfl,q _ hf⟩;exact⟨z,us,0,r,Heap.get?_push_size _ rfl⟩
theorem Rt{i:Nat}{x:Str}{pos':Pos}(hN:X.N.Nodup)(hi:X.N[i]? = some x)(hx:Loc X.env.scope x)(he:j0 X E e te)(hs:swapsWith e (some (.Name x pos')) pos.line X.env=pure false:=by rfl)
  (hf:X.fn x=true\/X.env.scope.names.lookup x=some .local:=by first | exact .inl rfl | exact .inr rfl | assumption):sU X E (.Assign [.Name x pos'] e pos) (xJ te (kO i)):=by
 intro pins s σ H D I h;refine wpAny_Assign_Name (aQ (he pins s σ H _ I h) λv s1 ⟨y,H1,I1,r1,q1⟩=>?_) hs;exact nX I1 hN hi hx r1 (λs2 I2=>⟨_,H1,I2,q1⟩) hf
end
noncomputable def zN(H:Hp)(d:Addr)(k o:Int):Prop:=H d=some (cW d [(("ask" : Str),.int k),(("other" : Str),.int o)])
inductive lO where
 | cell (c:Int) (k:Nat)
 | order (k:Nat) (o:Int)
noncomputable def zO(qs:List Ak)(o:Int):Bool:=match qs[o.toNat]? with
 | some q=>decide (q.kind = "rest")
 | none=>false
noncomputable def gm(qs:List Ak)(k:Nat)(q:Ak):Bool:=decide (0<k) && match qs[k - 1]? with
 | some q0=>decide (q.at_<q0.at_)
 | none=>false
noncomputable def eZ(qs:List Ak)(k:Nat)(o:Int):Bool:=decide ((k:Int)<=o) || zO qs o
noncomputable def iw(T:Int)(qs:List Ak)(k:Nat):Option lO:=match qs[k]? with
 | none=>none
 | some q=>if gm qs k q=true then some (.order k ((k:Int) - 1)) else if T<q.first+q.many then some (.cell (max q.first T) k) else(q.behind.find? (eZ qs k)).map (.order k)
noncomputable def fB(T:Int)(qs:List Ak):Nat->Option lO
 | 0=>none
 | n+1=>(fB T qs n).or (iw T qs n)
inductive zP (XC XO:Addr) (H:Hp):lO->Addr->Option Addr->Prop
 | cell {c:Int} {k:Nat} {d:Addr} (h:tH H d c (.int (k:Int))):zP XC XO H (.cell c k) XC (some (2*d+1))
 | order {k:Nat} {o:Int} {d:Addr} (h:zN H d (k:Int) o):zP XC XO H (.order k o) XO (some (2*d))
noncomputable def tL(q:Ak):Prop:=0<=q.first/\q.first<=2000000/\0<=q.many/\q.many<=16/\(q.many=0->q.first=0)/\q.behind.length<=1000/\∀n∈q.behind,0<=n
noncomputable def Ru(K:PySem.W.Frag)(CA X:Addr):Sp:=λvs H Q E=>∃(la:Addr) (ps:List Addr) (qs:List Ak) (k:Nat) (q:Ak),vs = [.ref la,.int (k:Int)]/\iR K CA H la ps qs/\qs[k]? = some q/\(gm qs k q=false->Q .aH H)/\(gm qs k q=true->∀d H',ah H H'->zN H' d (k:Int) ((k:Int) - 1)->E (.ref X) (some (2*d)) H')
noncomputable def Rv(K:PySem.W.Frag)(CA X:Addr):Sp:=λvs H Q E=>∃(la:Addr) (ps:List Addr) (qs:List Ak) (k:Nat) (q:Ak),vs = [.ref la,.int (k:Int)]/\iR K CA H la ps qs/\qs[k]? = some q/\tL q/\
 (q.behind.find? (eZ qs k)=none->Q .aH H)/\(∀o,q.behind.find? (eZ qs k)=some o->∀d H',ah H H'->zN H' d (k:Int) o->E (.ref X) (some (2*d)) H')
noncomputable def Rw(K:PySem.W.Frag)(cs:List Addr)(CA XC XO:Addr):Sp:=λvs H Q E=>∃(C p la:Addr) (P:Pl) (fp ps:List Addr) (qs:List Ak),vs = [.ref p,.ref la]/\C∈cs/\eU K C H p P fp/\P.nc.length<=1000000/\iR K CA H la ps qs/\qs.length<=100/\(∀q∈qs,tL q)/\
 (fB P.nc.length qs qs.length=none->∀l ts H',ah H H'->H l=none->(∀t∈ts,H t=none)->Zt H' l ts (mU qs qs.length)->Q (.ref l) H')/\
 (∀o,fB P.nc.length qs qs.length=some o->∀C od H',ah H H'->zP XC XO H' o C od->E (.ref C) od H')
theorem GL{T:Int}{qs:List Ak}{k:Nat}{q:Ak}(e:qs[k]? = some q)(h:gm qs k q=true):iw T qs k=some (.order k ((k:Int) - 1)):=by
 unfold iw;rw[e];dsimp only;rw[if_pos h]
theorem GN{T:Int}{qs:List Ak}{k:Nat}{q:Ak}(e:qs[k]? = some q)(h:gm qs k q=false)(h2:T<q.first+q.many):iw T qs k=some (.cell (max q.first T) k):=by
 unfold iw;rw[e];dsimp only;rw[if_neg (by rw[h];simp),if_pos h2]
theorem GO{T:Int}{qs:List Ak}{k:Nat}{q:Ak}(e:qs[k]? = some q)(h:gm qs k q=false)(h2:¬ T<q.first+q.many):iw T qs k=(q.behind.find? (eZ qs k)).map (.order k):=by
 unfold iw;rw[e];dsimp only;rw[if_neg (by rw[h];simp),if_neg h2]
theorem Rx{T:Int}{qs:List Ak}{k:Nat}{o:lO}(h:fB T qs k=some o):∀n,k<=n->fB T qs n=some o:=by
 intro n hn
 induction n with
 | zero =>
  have:k=0:=by lia
  subst this;exact h
 | succ n ih =>
  by_cases e:k=n+1
  ·rw[← e];exact h
  ·show (fB T qs n).or _=_;rw[ih (by lia)];rfl
theorem tM{T:Int}{qs:List Ak}{k n:Nat}{o:lO}(h0:fB T qs k=none)(h:iw T qs k=some o)(hn:k<n):fB T qs n=some o :=
 Rx (k:=k+1) (by show (fB T qs k).or _=_;rw[h0,h];rfl) n (by lia)
theorem GP{T:Int}{qs:List Ak}{k:Nat}(h0:fB T qs k=none)(h:iw T qs k=none):fB T qs (k+1)=none:=by
 show (fB T qs k).or _=_;rw[h0,h];rfl
theorem Ry{T:Int}{qs:List Sq}(ok:∀(i:Nat) (q:Sq),qs[i]? = some q->fL T q):mU (qs.map bT) qs.length=(List.range qs.length).map (fz qs):=by
 unfold mU;refine List.map_congr_left λk hk=>?_;have hk:=List.mem_range.mp hk;unfold sZ fz;congr 1;refine List.filter_congr λj hj=>?_;have hj:=List.mem_range.mp hj;have sO:j<qs.length:=by lia
 rw[List.getElem?_map,List.getElem?_map,List.getElem?_eq_getElem hk,List.getElem?_eq_getElem sO]
 show (decide ((j:Int)∈(bT qs[k]).behind) || kg (bT qs[k]) (bT qs[j]))=_
 rw[PY (ok k _ (List.getElem?_eq_getElem hk)) (ok j _ (List.getElem?_eq_getElem sO))];exact Bool.or_comm _ _
noncomputable def zQ(rows:List (List Int)):Option lO->Dt
 | none=>.lst [.str "told",.lst (rows.map λr=>.tup (r.map Dt.int))]
 | some (.cell c k)=>.lst [.str "cell",.int c,.int (k:Int),.bl true]
 | some (.order k o)=>.lst [.str "order",.int (k:Int),.int o,.bl true]
noncomputable def dh(q:Sq):Prop:=fL 2000000 q
theorem Rz{q:Sq}:(bT q).kind=("rest" : Str)↔q.kind=("rest" : Str):=by
 unfold bT;dsimp only;by_cases h:q.kind=("early" : Str)
 ·rw[if_pos h,h];exact⟨λz=>absurd z (cK (by decide)),λz=>absurd z (cK (by decide))⟩
 ·rw[if_neg h]
theorem dh.ak{q:Sq}(h:dh q):tL (bT q):=by
 have rb:∀ {ns:List Int},cJ ns->ns.length<=1000/\∀n∈ns,0<=n:=λ{ns} r=>⟨by have:=r.len;lia,r.lo⟩
 cases h with
 | rest h1 h2 h3 h4 h5 h6 h7=>exact⟨by show 0<=q.first;lia,by show q.first<=_;lia,by show 0<=q.many;lia,by show q.many<=_;lia,(λ_=>h2),by show q.behind.length<=_;rw[h7];simp,by show ∀n∈q.behind,_;rw[h7];simp⟩
 | read h1 h2 h3 h4 h5=>exact⟨h3.f0,by have:=h3.f1;show q.first<=_;lia,by have:=h3.m0;show 0<=q.many;lia,h3.m1,(λz=>by have:=h3.m0;have z:q.many=0:=z;lia),(rb h4).1,(rb h4).2⟩
 | write h1 h2 sY h3 h4 h5=>exact⟨h3.f0,by have:=h3.f1;show q.first<=_;lia,by have:=h3.m0;show 0<=q.many;lia,h3.m1,(λz=>by have:=h3.m0;have z:q.many=0:=z;lia),(rb h4).1,(rb h4).2⟩
noncomputable def RA(K:PySem.W.Frag)(cs:List Addr):Sp:=λvs H Q _=>∃(C p la:Addr) (P:Pl) (fp ts:List Addr) (qs:List Sq),vs = [.ref p,.ref la]/\C∈cs/\eU K C H p P fp/\P.nc.length<=1000000/\cP H la ts qs/\qs.length<=100/\(∀q∈qs,dh q)/\
 ∀l H',ah H H'->Rep H' 4 (.ref l) (zQ ((List.range qs.length).map (fz qs)) (fB P.nc.length (qs.map bT) qs.length))->Q (.ref l) H'
noncomputable def RB:Sp:=λvs H Q _=>∃(la:Addr) (T:Nat) (ts:List Addr) (qs:List Sq),vs = [.ref la,.int (T:Int)]/\cP H la ts qs/\qs.length<=100/\(∀q∈qs,dh q)/\
 ∀l H',ah H H'->Rep H' 4 (.ref l) (zQ ((List.range qs.length).map (fz qs)) (fB (T:Int) (qs.map bT) qs.length))->Q (.ref l) H'
noncomputable def RC(K:PySem.W.Frag):Sp:=λvs H Q _=>∃(la:Addr) (a:Nat) (so T c:Int) (ts:List Addr) (qs:List Sq),vs = [.ref la,.int (a:Int),.int so,.int T,.int c]/\cP H la ts qs/\qs.length<=40/\1<=a/\a<qs.length/\0<=so/\so<=2/\1<=T/\T<=100000/\(∀q∈qs,dh q)/\(so=2->∀q,qs[a]? = some q->q.kind≠"rest")/\
 ∀l tN tO H',ah H H'->H l=none->cP H' l tN tO->tO.length=qs.length->(∀q∈tO,dh q)->(∀(i:Nat) (q q':Sq),qs[i]? = some q->tO[i]? = some q'->q.kind≠"rest"->q'.kind≠"rest")->Q (.ref l) H'
noncomputable def tQ(H:Hp)(la:Addr)(a:Nat)(so T c:Int)(q0:Sq)(bf:Int)(σ:St)(H':Hp):Prop:=∃t q' m b x7 x8 x9 fV,σ = [some (V.ref la),some (V.int (a:Int)),some (V.int so),some (V.int T),some (V.int c),some (V.ref t),some (V.int bf),x7,x8,x9,fV]/\ah H H'/\eY H' t q' m b/\dh q'/\(q0.kind≠"rest"->q'.kind≠"rest")
theorem dh.at{q:Sq}(h:dh q):0<=q.at_/\q.at_<=1000000000000:=by
 cases h with
 | rest h1 h2 h3 h4 h5 h6 h7 h8 h9=>exact⟨h8,h9⟩
 | read h1 h2 h3=>exact⟨h3.a0,h3.a1⟩
 | write h1 h2 sY h3=>exact⟨h3.a0,h3.a1⟩
theorem dh.setAt{q:Sq}(h:dh q){x:Int}(h0:0<=x)(h1:x<=1000000000000):dh { q with at_:=x }:=by
 cases h with
 | rest g1 g2 g3 g4 g5 g6 g7 g8 g9=>exact .rest g1 g2 g3 g4 g5 g6 g7 h0 h1
 | read g1 g2 g3 g4 g5=>exact .read g1 g2 ⟨g3.f0,g3.f1,g3.m0,g3.m1,h0,h1,g3.s0,g3.s1,g3.l⟩ g4 g5
 | write g1 g2 m_ g3 g4 g5=>exact .write g1 g2 m_ ⟨g3.f0,g3.f1,g3.m0,g3.m1,h0,h1,g3.s0,g3.s1,g3.l⟩ g4 g5
theorem dh.bounds{q:Sq}(h:dh q):0<=q.cO/\q.cO<=20/\∀x,q.c8=some x->0<=x/\x<=10000000000000:=by
 cases h with
 | rest g1 g2 g3 g4 g5 g6=>rw[g5,g6];exact⟨by lia,by lia,(λ_ z=>nomatch z)⟩
 | read g1 g2 g3=>exact⟨g3.s0,g3.s1,g3.l⟩
 | write g1 g2 m_ g3=>exact⟨g3.s0,g3.s1,g3.l⟩
theorem dh.RD{q:Sq}(h:dh q)(nr:q.kind≠"rest"){ns:List Int}(r:cJ ns):dh { q with behind:=ns }:=by
 cases h with
 | rest g1=>exact absurd g1 nr
 | read g1 g2 g3 g4 g5=>exact .read g1 g2 g3 r g5
 | write g1 g2 m_ g3 g4 g5=>exact .write g1 g2 m_ g3 r g5
theorem GQ(xs:List V)(k:Nat):dF xs none (some (k:Int))=xs.take k:=by
 unfold dF;have e:_H.aW xs.length 0 none=0:=rfl;have e2:_H.aW xs.length xs.length (some (k:Int))=min k xs.length:=by
  simp only[_H.aW];rw[if_neg (by lia)];simp
 rw[e,e2,List.drop_zero,Nat.sub_zero];by_cases h:k<=xs.length
 ·rw[Nat.min_eq_left h]
 ·rw[Nat.min_eq_right (by lia),List.take_of_length_le (Nat.le_refl _),List.take_of_length_le (by lia)]
theorem RE(xs:List V)(k:Nat):dF xs (some (k:Int)) none=xs.drop k:=by
 unfold dF;have e:_H.aW xs.length 0 (some (k:Int))=min k xs.length:=by
  simp only[_H.aW];rw[if_neg (by lia)];simp
 have e2:_H.aW xs.length xs.length none=xs.length:=by simp[_H.aW]
 rw[e,e2,List.take_of_length_le (by simp)]
 by_cases h:k<=xs.length
 ·rw[Nat.min_eq_left h]
 ·rw[Nat.min_eq_right (by lia),List.drop_of_length_le (Nat.le_refl _),List.drop_of_length_le (by lia)]
theorem cJ.snoc{ns:List Int}(h:cJ ns){o:Int}(h1:∀n∈ns,n<o)(h2:0<=o)(h3:o<=99):cJ (ns++[o]):=by
 refine⟨List.pairwise_append.mpr ⟨h.up,List.pairwise_singleton _ _,λx hx y hy=>?_⟩,λn hn=>?_,λn hn=>?_⟩
 ·rw[List.mem_singleton.mp hy];exact h1 x hx
 ·rcases List.mem_append.mp hn with hn | hn
  ·exact h.lo n hn
  ·rw[List.mem_singleton.mp hn];exact h2
 ·rcases List.mem_append.mp hn with hn | hn
  ·exact h.hi n hn
  ·rw[List.mem_singleton.mp hn];exact h3
theorem cP.set{H H':Hp}{l l' t:Addr}{ts:List Addr}{qs:List Sq}{q:Sq}{m b:Addr}{a:Nat}(h:cP H l ts qs)(s:ah H H')(hz:eY H' t q m b)(e:H' l' = some (.lst ((ts.set a t).map V.ref))):cP H' l' (ts.set a t) (qs.set a q):=by
 refine⟨e,by rw[List.length_set,List.length_set];exact h.n,λi t' q' e1 e2=>?_⟩
 rw[List.getElem?_set] at e1 e2;by_cases hi:a=i
 ·subst hi;rw[if_pos rfl] at e1 e2;by_cases ha:a<ts.length
  ·rw[if_pos ha] at e1;rw[if_pos (by rw[← h.n];exact ha)] at e2
   cases e1;cases e2;exact⟨m,b,hz⟩
  ·rw[if_neg ha] at e1;exact nomatch e1
 ·rw[if_neg hi] at e1 e2;obtain⟨m',b',z⟩:=h.t i t' q' e1 e2;exact⟨m',b',z.same s⟩
theorem GR{ts:List Addr}{t:Addr}{a:Nat}(h:a<ts.length):dF (ts.map V.ref) none (some (a:Int))++[V.ref t]++dF (ts.map V.ref) (some ((a:Int)+1)) none=(ts.set a t).map V.ref:=by
 rw[GQ,show ((a:Int)+1)=((a+1:Nat):Int) by lia,RE,List.set_eq_take_append_cons_drop,if_pos h,List.map_append,List.map_cons,List.map_take,List.map_drop,List.append_assoc]
 rfl
theorem GS:¬(_H.aW 8 0 none=0/\_H.aW 8 8 (some 4)=8):=by decide
theorem GU:¬(_H.aW 8 0 (some 5)=0/\_H.aW 8 8 none=8):=by decide
theorem RG:¬(_H.aW 8 0 (some 4)=0/\_H.aW 8 8 (some 7)=8):=by decide
theorem RH:¬(_H.aW 8 0 none=0/\_H.aW 8 8 (some 7)=8):=by decide
theorem GV{X:Cx}{K:PySem.W.Frag}(h:X.K=K):rZ X (Ep K):=h▸oR
theorem GW{X:Cx}{K:PySem.W.Frag}(h:X.K=K):cT X (binaryOp .Add) (Er K):=h▸mC
noncomputable def RI(K:PySem.W.Frag):Sp:=λvs H Q _=>∃(ca:Addr) (cs:List Int) (T bg:Int),vs = [.ref ca,.int T,.int bg]/\aD K H ca (cs.map V.int)/\cs.length<=70/\1<=T/\T<=1000001/\1<=bg/\bg<=1000000000/\
 ∀l ts qs H',ah H H'->H l=none->cP H' l ts qs->lG T qs->qs.length=cs.length->(∀q,qs[qs.length - 1]? = some q->q.at_<=200000000000)->Q (.ref l) H'
theorem lG.most{T B:Int}{qs:List Sq}(h:lG T qs)(hl:∀q,qs[qs.length - 1]? = some q->q.at_<=B):∀q∈qs,q.at_<=B:=by
 have key:∀(j i:Nat) (q:Sq),qs[i]? = some q->i+j=qs.length - 1->q.at_<=B:=by
  intro j
  induction j with
  | zero=>intro i q e he;exact hl q (by rw[← he];exact e)
  | succ j ih =>
   intro i q e he;have hi:i+1<qs.length:=by lia
   have e2:=List.getElem?_eq_getElem hi;have:=h.up i q _ e e2;have:=ih (i+1) _ e2 (by lia)
   lia
 intro q hq;obtain⟨i,e⟩:=List.getElem?_of_mem hq;have:=dY e;exact key (qs.length - 1 - i) i q e (by lia)
theorem fL.up{T:Int}{q:Sq}(h:fL T q)(ht:T<=2000000):dh q:=by
 cases h with
 | rest g1 g2 g3 g4 g5 g6 g7 g8 g9=>exact .rest g1 g2 g3 g4 g5 g6 g7 g8 g9
 | read g1 g2 g3 g4 g5=>exact .read g1 g2 g3 g4 (by lia)
 | write g1 g2 m_ g3 g4 g5=>exact .write g1 g2 m_ g3 g4 (by lia)
theorem GX{s:Int}(hs:s=0):∀(rc:List Int) (r:Nat),(∀c∈rc,0<=c)->((ez s r rc).length:Int)=rc.sum
 | [],_,_=>by simp[ez]
 | c::rc,r,h=>by
  have ih:=GX hs rc (r+1) λc hc=>h c (List.mem_cons_of_mem _ hc);have h1:=h c List.mem_cons_self;simp only[ez,List.length_append,List.length_map,List.length_range,List.sum_cons];lia
noncomputable def KindsOk(qs us:List Sq):Prop:=∀(i:Nat) (q q':Sq),qs[i]? = some q->us[i]? = some q'->q.kind≠"rest"->q'.kind≠"rest"
theorem KindsOk.trans{qs us vs:List Sq}(h:KindsOk qs us)(h2:KindsOk us vs)(hl:us.length=qs.length):KindsOk qs vs:=λi q q' e1 e2 k=>by
 have hi:i<us.length:=by rw[hl];exact dY e1
 exact h2 i us[i] q' (List.getElem?_eq_getElem hi) e2 (h i q us[i] e1 (List.getElem?_eq_getElem hi) k)
structure iW(H:Hp)(R:Addr)(rs:List Addr)(qs:List Sq):Prop where
 l:H R=some (.lst (rs.map V.ref))
 t:∀(i:Nat) (r:Addr),rs[i]? = some r->r≠R/\∃ts us,cP H r ts us/\us.length=qs.length/\(∀q∈us,dh q)/\KindsOk qs us
theorem cP.putN{H:Hp}{r R:Addr}{ts:List Addr}{us:List Sq}{xs:List V}{o:HO}(h:cP H r ts us)(ne:r≠R)(hR:H R=some (.lst xs)):cP (upd H R o) r ts us:=by
 have up:∀ {a:Addr} {ys:List V},H a=some (.tup ys)->upd H R o a=some (.tup ys):=λ{a ys} e=>by
  rw[aG (iB e hR (λz=>nomatch z))];exact e
 exact⟨by rw[aG ne];exact h.l,h.n,λi t q e1 e2=>let ⟨m,b,z⟩:=h.t i t q e1 e2;⟨m,b,up z.o,up z.ms,up z.bh⟩⟩
theorem iW.same{H H':Hp}{R:Addr}{rs:List Addr}{qs:List Sq}(h:iW H R rs qs)(s:ah H H'):iW H' R rs qs :=
 ⟨s _ _ h.l,λi r e=>let ⟨n,ts,us,z,k⟩:=h.t i r e;⟨n,ts,us,z.same s,k⟩⟩
theorem iW.push{H H':Hp}{R l:Addr}{rs ts:List Addr}{qs us:List Sq}(h:iW H R rs qs)(s:ah H H')(nl:H l=none)(z:cP H' l ts us)(e:us.length=qs.length)(sv:∀q∈us,dh q)(k:KindsOk qs us):iW (upd H' R (.lst (rs.map V.ref++[V.ref l]))) R (rs++[l]) qs:=by
 have h':=h.same s;refine⟨by rw[aq,List.map_append];rfl,λi r ei=>?_⟩
 by_cases hi:i<rs.length
 ·rw[List.getElem?_append_left hi] at ei;obtain⟨n,tN,tw,z',k'⟩:=h'.t i r ei;exact⟨n,tN,tw,z'.putN n h'.l,k'⟩
 ·rw[List.getElem?_append_right (by lia)] at ei
  have hl:=dY ei;have h0:i - rs.length=0:=by simp at hl;lia
  rw[h0] at ei;cases ei;have ne:l≠R:=λz=>by rw[z,h.l] at nl;exact nomatch nl
  exact⟨ne,ts,us,z.putN ne h'.l,e,sv,k⟩
theorem RJ{K:PySem.W.Frag}{g:TG}{tb:TS}{D:Ends}{σ:St}{H:Hp}{tl:TE}(xs:List V)(Pv:Addr->Nat->St->Hp->Prop)(ia:∀Q:VK,(∀a,H a=none->Q (.ref a) (upd H a (.tup xs)))->tl σ H Q)(h0:∀a,H a=none->Pv a 0 σ (upd H a (.tup xs)))(hl:∀a i σ H,i<=xs.length->Pv a i σ H->aJ K H a xs)
  (hs:∀a i x σ H (N:St->Hp->Prop),(∀σ H,Pv a (i+1) σ H->N σ H)->xs[i]? = some x->Pv a i σ H->g x σ H λau H2=>tb { D with nx:=N,ct:=N,bk:=D.nx } au H2) (hd:∀a σ H,Pv a xs.length σ H->D.nx σ H):f9 (xM K tl) g tb D σ H :=
 ia _ λa ha=>⟨a,rfl,⟨xs,aJ.of aq⟩,DT (Pv a) (h0 a ha) (hl a) (λi x σ H hx p=>hs a i x σ H _ (λ_ _ z=>z) hx p) (hd a)⟩
theorem RK(xs:List V):(dF xs (some 6) (some 20)).length<=14:=by
 unfold dF;rw[List.length_take];have e1:_H.aW xs.length 0 (some 6)=min 6 xs.length:=by simp[_H.aW]
 have e2:_H.aW xs.length xs.length (some 20)=min 20 xs.length:=by simp[_H.aW]
 rw[e1,e2];lia
theorem GY:∀(l:List Int),(∀x∈l,1<=x)->(l.length:Int)<=l.sum
 | [],_=>by simp
 | x::l,h=>by
  have:=GY l λy hy=>h y (List.mem_cons_of_mem _ hy);have:=h x List.mem_cons_self;rw[List.sum_cons,List.length_cons];lia
noncomputable def lN(q:Sq):Sq:={ q with at_:=q.at_+7 }
theorem iW.first{H:Hp}{R D:Addr}{ts:List Addr}{qs:List Sq}(hR:H R=none)(hz:cP H D ts qs)(sv:∀q∈qs,dh q):iW (upd H R (.lst [V.ref D])) R [D] qs:=by
 refine⟨aq,λi r e=>?_⟩;cases i with
 | succ i=>exact nomatch e
 | zero =>
  cases e;exact⟨cQ hz.l hR,ts,qs,hz.same (ah.put hR),rfl,sv,λi q q' e1 e2 k=>by rw[e1] at e2;cases e2;exact k⟩
end _L
namespace _W
open PySem _L PyProof.Rows
theorem Zh{i j:Int}:iH (.int i) (.int j)=true:=rfl
theorem Zi{i j:Str}:iH (.str i) (.str j)=true:=rfl
theorem Zj{i j:Bool}:iH (.bl i) (.bl j)=true:=rfl
theorem Zk: iH (.aH) (.aH)=true:=rfl
theorem Zl{i:Int}:iH (.aH) (.int i)=true:=rfl
theorem Zm{i:Int}:iH (.int i) (.aH)=true:=rfl
theorem Zo{i:Str}:iH (.aH) (.str i)=true:=rfl
theorem Zp{i:Str}:iH (.str i) (.aH)=true:=rfl
local macro_rules | `(tactic| wp_walk using $ts,*)=>do
 let a ← ("Zd Y6 Er YZ Y0 YC FP O1 O0 FL YT YD Ql Qi Qe Qf Qp Q6 YX sX YY YW Yj Ep OO Ew Yi Yk Yc Oj M0 MZ MY M8 Yh and_assoc l7 HO.ins.injEq E5 mL cY String.reduceBEq List.lookup_cons List.lookup_nil aq HO.lst.injEq HO.dT.injEq HO.tup.injEq String.reduceEq false_and or_false false_or Oh NC Yo Ny Yl Ym Yn Yp Bool.not_eq_true' decide_eq_false_iff_not Classical.not_not Me if_false_left if_false_right NW L6 h_ List.length_map List.getElem?_nil DM xJ kO DO xH DP Yb DH tC rN kU rI Ml rU Mt tB Mc DN X_ Mb Ek xY D9 Ea Ma LX LY LZ L4 X8 L5 D_ MJ Nb yp Ng Nh Nj Nk r9 r_ Mq Mr Zh Zi Zj Zk Zl Zm Zo Zp xS Mm Mn D8 MD Yd ML _L.start Yw Yx Yy List.map_cons List.map_nil List.cons_append List.nil_append List.append_nil List.length_cons List.length_nil List.getElem?_cons_zero List.getElem?_cons_succ Option.some.injEq exists_eq_left exists_eq_left' exists_and_left exists_eq V.int.injEq V.ref.injEq V.bl.injEq V.ty.injEq V.str.injEq List.cons.injEq and_true true_and List.set_cons_zero List.set_cons_succ decide_eq_true_eq Nat.reduceSub Nat.reduceAdd List.replicate_succ List.replicate_zero List.replicate Int.reduceLT Int.reduceLE Int.reducePow Int.reduceToNat Int.reduceNeg Nat.reduceLT Nat.reduceLeDiff Nat.reducePow Int.reduceMul Int.reduceAdd Int.reduceSub and_self or_true true_or gt_iff_lt ge_iff_le if_true if_false Bool.false_eq_true reduceIte Nat.sub_self Nat.sub_zero".splitOn " ").toArray.mapM λx => `(Lean.Parser.Tactic.simpLemma| $(Lean.mkIdent x.toName):ident)
 let d:Array (Lean.TSyntax `term):=("T.nk T.wm T.wk T.Br T.Bs T.Bt T.qB T.Bu T.Bv T.qC T.Bw T.wu T.wz T.wA T.wB T.wC T.wD".splitOn " ").toArray.map λx=>⟨Lean.mkIdent x.toName⟩
 let b ← (ts.getElems.flatMap λt=>if t.raw.getId == `T then d else #[t]).mapM λt => `(Lean.Parser.Tactic.simpLemma| $t:term)
 let c:=a++b
 `(tactic| simp (maxSteps:=4000000) only[$c,*])
local macro_rules | `(tactic| walk_at "rdm") => `(tactic| wp_walk using and_self)
seal eg PS PE PT PW PA PG oh PI PK PC PO jT
noncomputable def top(i:Nat):Stmt:=PySem.Challenge.pw_armswing_k25_orders_refused.main.body.getD i (.Pass ⟨0,0,0,0⟩)
noncomputable abbrev fM:Stmt:=inClass (top 4) 0
noncomputable abbrev zR:Stmt:=inClass (top 6) 0
noncomputable abbrev zS:Stmt:=inClass (top 15) 0
noncomputable abbrev zT:Stmt:=top 16
noncomputable abbrev zU:Stmt:=top 17
noncomputable abbrev zW:Stmt:=top 18
noncomputable abbrev zX:Stmt:=top 19
noncomputable abbrev gI:Stmt:=top 20
noncomputable abbrev gJ:Stmt:=top 21
noncomputable abbrev zY:Stmt:=top 22
noncomputable abbrev zZ:Stmt:=top 23
noncomputable abbrev z3:Stmt:=top 25
noncomputable abbrev z6:Stmt:=top 26
noncomputable abbrev z7:Stmt:=top 27
noncomputable abbrev z8:Stmt:=top 28
noncomputable abbrev z9:Stmt:=top 29
noncomputable abbrev z_:Stmt:=top 30
noncomputable abbrev Aa:Stmt:=top 38
noncomputable abbrev Ab:Stmt:=top 39
noncomputable abbrev Ac:Stmt:=top 40
noncomputable abbrev Ad:Stmt:=top 41
noncomputable abbrev Ae:Stmt:=top 42
noncomputable abbrev Af:Stmt:=top 43
noncomputable abbrev Ag:Stmt:=top 44
noncomputable abbrev Ah:Stmt:=inClass (top 45) 0
noncomputable abbrev Ai:Stmt:=inClass (top 45) 1
noncomputable abbrev Aj:Stmt:=inClass (top 45) 9
noncomputable abbrev Al:Stmt:=top 47
noncomputable abbrev Am:Stmt:=top 48
noncomputable abbrev An:Stmt:=top 49
noncomputable abbrev Ao:Stmt:=top 50
noncomputable abbrev Aq:Stmt:=top 51
noncomputable abbrev As:Stmt:=top 52
noncomputable abbrev Au:Stmt:=top 53
noncomputable abbrev Av:Stmt:=top 54
noncomputable abbrev Aw:Stmt:=top 55
noncomputable abbrev Ax:Stmt:=top 56
noncomputable abbrev Ay:Stmt:=top 57
noncomputable abbrev Az:Stmt:=top 58
noncomputable abbrev AA:Stmt:=top 59
noncomputable abbrev AB:Stmt:=top 60
noncomputable abbrev AD:Stmt:=top 61
noncomputable abbrev AE:Stmt:=top 62
noncomputable abbrev gK:Stmt:=top 63
theorem GZ:bB ["self", "cell", "ask"] ["self", "cell", "ask"] (aU fM):=⟨rfl,rfl,rfl,by decide +kernel,rfl,by decide +kernel,by decide +kernel⟩
theorem RL:bB ["self", "ask", "other"] ["self", "ask", "other"] (aU zR):=⟨rfl,rfl,rfl,by decide +kernel,rfl,by decide +kernel,by decide +kernel⟩
theorem RM:bB ["self", "kind", "first", "many", "marks", "at", "asker", "latest", "behind", "early"] ["self", "kind", "first", "many", "marks", "at", "asker", "latest", "behind", "early"] (aU zS):=⟨rfl,rfl,rfl,by decide +kernel,rfl,by decide +kernel,by decide +kernel⟩
theorem RO:bB ["number", "least", "greatest", "words"] ["number", "least", "greatest", "words"] (aU zT):=⟨rfl,rfl,rfl,by decide +kernel,rfl,by decide +kernel,by decide +kernel⟩
theorem tR:bB ["behind", "ahead", "number"] ["behind"] (aU zU):=⟨rfl,rfl,rfl,by decide +kernel,rfl,by decide +kernel,by decide +kernel⟩
theorem RP:bB ["first", "many", "at", "asker", "latest", "behind"] ["first", "many", "at", "asker", "latest", "behind"] (aU zW):=⟨rfl,rfl,rfl,by decide +kernel,rfl,by decide +kernel,by decide +kernel⟩
theorem RQ:bB ["behind"] ["behind"] (aU zX):=⟨rfl,rfl,rfl,by decide +kernel,rfl,by decide +kernel,by decide +kernel⟩
theorem G0:bB ["first", "many", "at", "asker", "latest", "behind", "others"] ["first", "many", "at", "asker", "latest", "behind"] (aU gI):=⟨rfl,rfl,rfl,by decide +kernel,rfl,by decide +kernel,by decide +kernel⟩
theorem AF:bB ["first", "marks", "at", "asker", "latest", "behind", "early", "others", "mark"] ["first", "marks", "at", "asker", "latest", "behind", "early"] (aU gJ):=⟨rfl,rfl,rfl,by decide +kernel,rfl,by decide +kernel,by decide +kernel⟩
theorem RS:bB ["at"] ["at"] (aU zY):=⟨rfl,rfl,rfl,by decide +kernel,rfl,by decide +kernel,by decide +kernel⟩
theorem RT:bB ["one", "other"] ["one", "other"] (aU zZ):=⟨rfl,rfl,rfl,by decide +kernel,rfl,by decide +kernel,by decide +kernel⟩
theorem RU:bB ["plate", "ask"] ["plate", "ask"] (aU z3):=⟨rfl,rfl,rfl,by decide +kernel,rfl,by decide +kernel,by decide +kernel⟩
theorem G4:bB ["plate", "number", "ask", "e"] ["plate", "number", "ask"] (aU z6):=⟨rfl,rfl,rfl,by decide +kernel,rfl,by decide +kernel,by decide +kernel⟩
theorem RV:bB ["asks", "number"] ["asks", "number"] (aU z7):=⟨rfl,rfl,rfl,by decide +kernel,rfl,by decide +kernel,by decide +kernel⟩
theorem G5:bB ["asks", "number", "other"] ["asks", "number"] (aU z8):=⟨rfl,rfl,rfl,by decide +kernel,rfl,by decide +kernel,by decide +kernel⟩
theorem G6:bB ["asks", "number", "ask"] ["asks", "number"] (aU z9):=⟨rfl,rfl,rfl,by decide +kernel,rfl,by decide +kernel,by decide +kernel⟩
theorem tT:bB ["plate", "asks", "kept", "number", "ask"] ["plate", "asks"] (aU z_):=⟨rfl,rfl,rfl,by decide +kernel,rfl,by decide +kernel,by decide +kernel⟩
theorem tU:bB ["zones", "rings", "cells", "in_all"] ["zones"] (aU Aa):=⟨rfl,rfl,rfl,by decide +kernel,rfl,by decide +kernel,by decide +kernel⟩
theorem AG:bB ["zones", "lap", "skew", "rings", "cells"] ["zones", "lap", "skew"] (aU Ab):=⟨rfl,rfl,rfl,by decide +kernel,rfl,by decide +kernel,by decide +kernel⟩
theorem G7:bB ["swing", "rings", "far"] ["swing", "rings"] (aU Ac):=⟨rfl,rfl,rfl,by decide +kernel,rfl,by decide +kernel,by decide +kernel⟩
theorem AH:bB ["swing", "far", "part"] ["swing"] (aU Ad):=⟨rfl,rfl,rfl,by decide +kernel,rfl,by decide +kernel,by decide +kernel⟩
theorem tV:bB ["zones", "counts", "rings", "cells"] ["zones"] (aU Ae):=⟨rfl,rfl,rfl,by decide +kernel,rfl,by decide +kernel,by decide +kernel⟩
theorem p_:bB ["ring_cells", "spares", "cells", "ring", "count", "place"] ["ring_cells", "spares"] (aU Af):=⟨rfl,rfl,rfl,by decide +kernel,rfl,by decide +kernel,by decide +kernel⟩
theorem tW:bB ["number_cells", "numbers", "number", "cell"] ["number_cells"] (aU Ag):=⟨rfl,rfl,rfl,by decide +kernel,rfl,by decide +kernel,by decide +kernel⟩
theorem RW:bB ["self", "zones", "lap", "skew", "swing"] ["self", "zones", "lap", "skew", "swing"] (aU Ah):=⟨rfl,rfl,rfl,by decide +kernel,rfl,by decide +kernel,by decide +kernel⟩
theorem RX:bB ["self"] ["self"] (aU Ai):=⟨rfl,rfl,rfl,by decide +kernel,rfl,by decide +kernel,by decide +kernel⟩
theorem RY:bB ["self", "number"] ["self", "number"] (aU Aj):=⟨rfl,rfl,rfl,by decide +kernel,rfl,by decide +kernel,by decide +kernel⟩
theorem RZ:bB ["_law_script", "_law_k"] ["_law_script", "_law_k"] (aU Al):=⟨rfl,rfl,rfl,by decide +kernel,rfl,by decide +kernel,by decide +kernel⟩
theorem G8:bB ["_law_found", "_law_due_here", "_law_k"] ["_law_found", "_law_due_here"] (aU Am):=⟨rfl,rfl,rfl,by decide +kernel,rfl,by decide +kernel,by decide +kernel⟩
theorem G9:bB ["_law_cell", "_law_k", "_law_by"] ["_law_cell", "_law_k"] (aU An):=⟨rfl,rfl,rfl,by decide +kernel,rfl,by decide +kernel,by decide +kernel⟩
theorem qa:bB ["_law_a", "_law_b", "_law_many", "_law_zones_here", "_law_k"] ["_law_a", "_law_b"] (aU Ao):=⟨rfl,rfl,rfl,by decide +kernel,rfl,by decide +kernel,by decide +kernel⟩
theorem tX:bB ["_law_zones_here", "_law_counts_here", "_law_many", "_law_cells"] ["_law_zones_here"] (aU Aq):=⟨rfl,rfl,rfl,by decide +kernel,rfl,by decide +kernel,by decide +kernel⟩
theorem lP:bB ["_law_zones_here", "_law_cell", "_law_product", "_law_many", "_law_cells", "_law_most"] ["_law_zones_here", "_law_cell"] (aU As):=⟨rfl,rfl,rfl,by decide +kernel,rfl,by decide +kernel,by decide +kernel⟩
theorem lQ:bB ["_law_many", "_law_cell", "_law_step", "_law_swing_here", "_law_k", "_law_least"] ["_law_many", "_law_cell"] (aU Au):=⟨rfl,rfl,rfl,by decide +kernel,rfl,by decide +kernel,by decide +kernel⟩
theorem qb:bB ["_law_cell", "_law_many", "_law_marks_here", "_law_k", "_law_number"] ["_law_cell", "_law_many"] (aU Av):=⟨rfl,rfl,rfl,by decide +kernel,rfl,by decide +kernel,by decide +kernel⟩
theorem fO:bB ["_law_cell", "_law_total", "_law_lap_here", "_law_at_here", "_law_others", "_law_kind", "_law_first", "_law_many", "_law_asker", "_law_latest", "_law_behind", "_law_marks_here"] ["_law_cell", "_law_total", "_law_lap_here", "_law_at_here", "_law_others"] (aU Aw):=⟨rfl,rfl,rfl,by decide +kernel,rfl,by decide +kernel,by decide +kernel⟩
theorem ng:bB ["_law_cells", "_law_total", "_law_lap_here", "_law_specs_here", "_law_at_here", "_law_cell", "_law_others"] ["_law_cells", "_law_total", "_law_lap_here"] (aU Ax):=⟨rfl,rfl,rfl,by decide +kernel,rfl,by decide +kernel,by decide +kernel⟩
theorem R0:bB ["_law_spec_here"] ["_law_spec_here"] (aU Ay):=⟨rfl,rfl,rfl,by decide +kernel,rfl,by decide +kernel,by decide +kernel⟩
theorem R1:bB ["_law_one", "_law_other"] ["_law_one", "_law_other"] (aU Az):=⟨rfl,rfl,rfl,by decide +kernel,rfl,by decide +kernel,by decide +kernel⟩
theorem tY:bB ["_law_specs_here", "_law_found", "_law_k", "_law_ahead"] ["_law_specs_here"] (aU AA):=⟨rfl,rfl,rfl,by decide +kernel,rfl,by decide +kernel,by decide +kernel⟩
theorem gM:bB ["_law_specs_here", "_law_at_here", "_law_sort", "_law_total", "_law_cell", "_law_spec_here", "_law_before", "_law_first", "_law_rests", "_law_other", "_law_behind"] ["_law_specs_here", "_law_at_here", "_law_sort", "_law_total", "_law_cell"] (aU AB):=⟨rfl,rfl,rfl,by decide +kernel,rfl,by decide +kernel,by decide +kernel⟩
theorem tZ:bB ["_law_specs_here", "_law_total", "_law_k", "_law_spec_here", "_law_other"] ["_law_specs_here", "_law_total"] (aU AD):=⟨rfl,rfl,rfl,by decide +kernel,rfl,by decide +kernel,by decide +kernel⟩
theorem kj:bB ["_law_plate", "_law_specs_here", "_law_asks", "_law_found", "e"] ["_law_plate", "_law_specs_here"] (aU AE):=⟨rfl,rfl,rfl,by decide +kernel,rfl,by decide +kernel,by decide +kernel⟩
theorem fD:bB ["_law_script", "_law_zones_here", "_law_counts_here", "_law_lap_here", "_law_plate", "_law_total", "_law_specs_here", "_law_rows", "_law_k", "_law_cell", "_law_at_here", "_law_sort", "_law_row"] ["_law_script"] (aU gK):=⟨rfl,rfl,rfl,by decide +kernel,rfl,by decide +kernel,by decide +kernel⟩
set_option genInjectivity false
set_option genSizeOf false
structure ni where
 qc:Addr
 nj:FuncData
 t_:Addr
 uc:FuncData
 ud:Addr
 ue:FuncData
 uf:Addr
 ug:FuncData
 uh:Addr
 um:FuncData
 uo:Addr
 uq:FuncData
 ur:Addr
 uu:FuncData
 uv:Addr
 uw:FuncData
 R3:Tok
 ux:Addr
 uy:FuncData
 R4:Tok
 uz:Addr
 uA:FuncData
 uB:Addr
 uC:FuncData
 uD:Addr
 uE:FuncData
 uF:Addr
 uG:FuncData
 uH:Addr
 uI:FuncData
 uJ:Addr
 uK:FuncData
 uL:Addr
 uM:FuncData
 uN:Addr
 uO:FuncData
 uP:Addr
 uQ:FuncData
 uR:Addr
 uS:FuncData
 uT:Addr
 uU:FuncData
 uW:Addr
 uX:FuncData
 uY:Addr
 uZ:FuncData
 u0:Addr
 u5:FuncData
 u6:Addr
 u7:FuncData
 u9:Addr
 u_:FuncData
 qd:Addr
 vc:FuncData
 qg:Addr
 vd:FuncData
 ve:Addr
 vf:FuncData
 qh:Addr
 qj:FuncData
 vg:Addr
 vh:FuncData
 vj:Addr
 vm:FuncData
 vn:Addr
 vo:FuncData
 vp:Addr
 vq:FuncData
 vt:Addr
 vA:FuncData
 vB:Addr
 vC:FuncData
 vE:Addr
 vF:FuncData
 vG:Addr
 vH:FuncData
 vI:Addr
 vJ:FuncData
 vK:Addr
 vL:FuncData
 vM:Addr
 vN:FuncData
 vO:Addr
 vP:FuncData
 vQ:Addr
 vR:FuncData
 vU:Addr
 vV:FuncData
 vW:Addr
 vX:FuncData
 bx:Addr
 bO:Addr
 dz:Addr
 aZ:Addr
 e7:Addr
 br:Addr
 qk:Tok
 ql:Tok
 qm:Tok
 qo:Tok
 qp:Tok
 qq:Tok
 qt:Tok
 qu:Tok
 qw:Tok
 qx:Tok
 qy:Tok
 qz:Tok
 qA:Tok
structure Tx(K:W.Frag)(mg:Str->Option Value)(A:ni):Prop where
 AI:j9 K "__init__" "NoCell.__init__" fM A.qc A.nj
 G_:Binds K A.nj ["self", "cell", "ask"] [.none]
 Hf:Binds K A.nj ["self", "cell", "ask"] []
 Hg:aN K "__init__" "NoOrder.__init__" zR A.t_ A.uc
 AJ:Binds K A.uc ["self", "ask", "other"] []
 Hi:aN K "__init__" "Ask.__init__" zS A.ud A.ue
 vY:Binds K A.ue ["self", "kind", "first", "many", "marks", "at", "asker", "latest", "behind", "early"] []
 iX:aN K "check_between" "check_between" zT A.uf A.ug
 jy:Binds K A.ug ["number", "least", "greatest", "words"] []
 jz:mg "check_between" = some (.ref A.uf)
 AK:aN K "check_behind" "check_behind" zU A.uh A.um
 Hj:Binds K A.um ["behind"] []
 Hl:mg "check_behind" = some (.ref A.uh)
 vZ:aN K "check_fields" "check_fields" zW A.uo A.uq
 AL:Binds K A.uq ["first", "many", "at", "asker", "latest", "behind"] []
 AM:mg "check_fields" = some (.ref A.uo)
 v_:aN K "told_behind" "told_behind" zX A.ur A.uu
 AN:Binds K A.uu ["behind"] []
 AO:mg "told_behind" = some (.ref A.ur)
 AQ:j9 K "reading" "reading" gI A.uv A.uw
 Ho:Binds K A.uw ["first", "many", "at", "asker", "latest", "behind"] []
 Hq:mg "reading" = some (.ref A.uv)
 AR:j9 K "writing" "writing" gJ A.ux A.uy
 Hr:Binds K A.uy ["first", "marks", "at", "asker", "latest", "behind", "early"] []
 Hs:mg "writing" = some (.ref A.ux)
 AS:aN K "resting" "resting" zY A.uz A.uA
 Ht:Binds K A.uA ["at"] []
 Hu:mg "resting" = some (.ref A.uz)
 AU:aN K "clash" "clash" zZ A.uB A.uC
 Hv:Binds K A.uC ["one", "other"] []
 Hw:mg "clash" = some (.ref A.uB)
 AV:aN K "stretch" "stretch" z3 A.uD A.uE
 Hy:Binds K A.uE ["plate", "ask"] []
 Hz:mg "stretch" = some (.ref A.uD)
 AW:aN K "stretch_by_number" "stretch_by_number" z6 A.uF A.uG
 HA:Binds K A.uG ["plate", "number", "ask"] []
 HB:mg "stretch_by_number" = some (.ref A.uF)
 AX:aN K "check_beat" "check_beat" z7 A.uH A.uI
 HC:Binds K A.uI ["asks", "number"] []
 HD:mg "check_beat" = some (.ref A.uH)
 AY:aN K "check_told" "check_told" z8 A.uJ A.uK
 HE:Binds K A.uK ["asks", "number"] []
 HF:mg "check_told" = some (.ref A.uJ)
 AZ:aN K "kept_behind" "kept_behind" z9 A.uL A.uM
 HG:Binds K A.uM ["asks", "number"] []
 HJ:mg "kept_behind" = some (.ref A.uL)
 A0:aN K "orders" "orders" z_ A.uN A.uO
 HK:Binds K A.uO ["plate", "asks"] []
 HL:mg "orders" = some (.ref A.uN)
 A1:aN K "check_zones" "check_zones" Aa A.uP A.uQ
 HM:Binds K A.uQ ["zones"] []
 HN:mg "check_zones" = some (.ref A.uP)
 A2:aN K "check_turning" "check_turning" Ab A.uR A.uS
 HP:Binds K A.uS ["zones", "lap", "skew"] []
 HQ:mg "check_turning" = some (.ref A.uR)
 A3:aN K "check_swing" "check_swing" Ac A.uT A.uU
 HR:Binds K A.uU ["swing", "rings"] []
 HS:mg "check_swing" = some (.ref A.uT)
 A4:aN K "check_no_detour" "check_no_detour" Ad A.uW A.uX
 HU:Binds K A.uX ["swing"] []
 HV:mg "check_no_detour" = some (.ref A.uW)
 A5:aN K "cells_by_ring" "cells_by_ring" Ae A.uY A.uZ
 HW:Binds K A.uZ ["zones"] []
 HX:mg "cells_by_ring" = some (.ref A.uY)
 A6:aN K "cells_by_number" "cells_by_number" Af A.u0 A.u5
 HY:Binds K A.u5 ["ring_cells", "spares"] []
 HZ:mg "cells_by_number" = some (.ref A.u0)
 A7:aN K "numbers_by_cell" "numbers_by_cell" Ag A.u6 A.u7
 H_:Binds K A.u7 ["number_cells"] []
 Ia:mg "numbers_by_cell" = some (.ref A.u6)
 Ib:aN K "__init__" "Plate.__init__" Ah A.u9 A.u_
 Ic:Binds K A.u_ ["self", "zones", "lap", "skew", "swing"] []
 Ie:aN K "rings" "Plate.rings" Ai A.qd A.vc
 R5:Binds K A.vc ["self"] []
 Ig:Meth K A.bO "rings" A.qd
 Ih:aN K "cell_at" "Plate.cell_at" Aj A.qg A.vd
 Ii:Binds K A.vd ["self", "number"] []
 Ij:Meth K A.bO "cell_at" A.qg
 kq:aN K "_law_at" "_law_at" Al A.ve A.vf
 lR:Binds K A.vf ["_law_script", "_law_k"] []
 lT:mg "_law_at" = some (.ref A.ve)
 wc:aN K "_law_same" "_law_same" Am A.qh A.qj
 A8:Binds K A.qj ["_law_found", "_law_due_here"] []
 A9:mg "_law_same" = some (.ref A.qh)
 bJ:aN K "_law_mix" "_law_mix" An A.vg A.vh
 bK:Binds K A.vh ["_law_cell", "_law_k"] []
 bL:mg "_law_mix" = some (.ref A.vg)
 A_:aN K "_law_zones" "_law_zones" Ao A.vj A.vm
 Ik:Binds K A.vm ["_law_a", "_law_b"] []
 Il:mg "_law_zones" = some (.ref A.vj)
 Bb:aN K "_law_counts" "_law_counts" Aq A.vn A.vo
 Im:Binds K A.vo ["_law_zones_here"] []
 Io:mg "_law_counts" = some (.ref A.vn)
 Bc:aN K "_law_lap" "_law_lap" As A.vp A.vq
 Ip:Binds K A.vq ["_law_zones_here", "_law_cell"] []
 Iq:mg "_law_lap" = some (.ref A.vp)
 Bd:aN K "_law_swing" "_law_swing" Au A.vt A.vA
 Ir:Binds K A.vA ["_law_many", "_law_cell"] []
 Iu:mg "_law_swing" = some (.ref A.vt)
 Bf:aN K "_law_marks" "_law_marks" Av A.vB A.vC
 Iv:Binds K A.vC ["_law_cell", "_law_many"] []
 Iw:mg "_law_marks" = some (.ref A.vB)
 Bg:aN K "_law_spec" "_law_spec" Aw A.vE A.vF
 Iz:Binds K A.vF ["_law_cell", "_law_total", "_law_lap_here", "_law_at_here", "_law_others"] []
 IA:mg "_law_spec" = some (.ref A.vE)
 Bh:aN K "_law_specs" "_law_specs" Ax A.vG A.vH
 IC:Binds K A.vH ["_law_cells", "_law_total", "_law_lap_here"] []
 ID:mg "_law_specs" = some (.ref A.vG)
 Bj:aN K "_law_ask" "_law_ask" Ay A.vI A.vJ
 IE:Binds K A.vJ ["_law_spec_here"] []
 IF:mg "_law_ask" = some (.ref A.vI)
 Bk:aN K "_law_clashing" "_law_clashing" Az A.vK A.vL
 IG:Binds K A.vL ["_law_one", "_law_other"] []
 II:mg "_law_clashing" = some (.ref A.vK)
 Bl:aN K "_law_orders" "_law_orders" AA A.vM A.vN
 IJ:Binds K A.vN ["_law_specs_here"] []
 IK:mg "_law_orders" = some (.ref A.vM)
 we:aN K "_law_bent" "_law_bent" AB A.vO A.vP
 Bm:Binds K A.vP ["_law_specs_here", "_law_at_here", "_law_sort", "_law_total", "_law_cell"] []
 Bo:mg "_law_bent" = some (.ref A.vO)
 Bp:aN K "_law_due" "_law_due" AD A.vQ A.vR
 IL:Binds K A.vR ["_law_specs_here", "_law_total"] []
 IM:mg "_law_due" = some (.ref A.vQ)
 Bq:aN K "_law_asked" "_law_asked" AE A.vU A.vV
 IP:Binds K A.vV ["_law_plate", "_law_specs_here"] []
 IQ:mg "_law_asked" = some (.ref A.vU)
 IS:aN K "law" "law" gK A.vW A.vX
 R6:Binds K A.vX ["_law_script"] []
 R7:mg "law" = some (.ref A.vW)
 nk:fS K A.bx
 wg:Mk K A.bx A.ud
 wj:mg "Ask" = some (.ref A.bx)
 wk:bW K A.bx "kind"
 Br:bW K A.bx "first"
 Bs:bW K A.bx "many"
 Bt:bW K A.bx "marks"
 qB:bW K A.bx "at"
 Bu:bW K A.bx "asker"
 Bv:bW K A.bx "latest"
 qC:bW K A.bx "behind"
 Bw:bW K A.bx "early"
 wm:fS K A.bO
 IT:Mk K A.bO A.u9
 IU:mg "Plate" = some (.ref A.bO)
 wu:bW K A.bO "ring_cells"
 wz:bW K A.bO "lap"
 wA:bW K A.bO "skew"
 wB:bW K A.bO "swing"
 wC:bW K A.bO "number_cells"
 wD:bW K A.bO "cell_numbers"
 IV:mg "MOST_CELLS" = some (.int 16 A.qk)
 IW:mg "GREATEST_FIRST" = some (.int 1000000 A.ql)
 IX:mg "GREATEST_MARK" = some (.int 1000000000 A.qm)
 Bx:mg "GREATEST_AT" = some (.int 1000000000000 A.qo)
 IY:mg "GREATEST_ASKER" = some (.int 20 A.qp)
 IZ:mg "GREATEST_LATEST" = some (.int 10000000000000 A.qq)
 I0:mg "GREATEST_BEHIND" = some (.int 99 A.qt)
 I_:mg "MOST_ZONES" = some (.int 5 A.qu)
 Ja:mg "MOST_RINGS_IN_ZONE" = some (.int 40 A.qw)
 Jb:mg "MOST_CELLS_IN_RING" = some (.int 60 A.qx)
 Jc:mg "LEAST_RINGS" = some (.int 2 A.qy)
 Jd:mg "MOST_RINGS" = some (.int 120 A.qz)
 By:mg "MOST_BEATS" = some (.int 1000000000 A.qA)
 qD:mg "bool" = none
 nu:mg "enumerate" = none
 qE:mg "int" = none
 eE:mg "isinstance" = none
 c9:mg "len" = none
 jA:mg "list" = none
 qF:mg "max" = none
 nv:mg "min" = none
 dP:mg "range" = none
 wF:mg "sorted" = none
 qG:mg "str" = none
 qH:mg "sum" = none
 gn:mg "tuple" = none
 nA:mg "ArmError" = some (.ref A.dz)
 wG:W.excIn K A.dz [.type "ValueError",.type "Exception",.type "BaseException",.type "object"] "ValueError.__new__" = true
 R8:fu K A.dz
 wH:Gk K A.dz "__init__" "ValueError.__init__"
 nB:mg "NoCell" = some (.ref A.aZ)
 qI:fu K A.aZ
 lU:pU K A.aZ A.qc [.type "ValueError",.type "Exception",.type "BaseException",.type "object"] "ValueError.__new__"
 ku:iS K A.aZ
 lV:bW K A.aZ "cell"
 nF:bW K A.aZ "ask"
 nG:j8 K A.aZ
 BA:(W.clsIn K A.aZ).isSome=true
 wI:W.kitOne K (.ref A.aZ) (.ref A.dz)=some true
 R9:subIn K A.aZ (.ref A.dz)=true
 BB:W.kitOne K (.ref A.aZ) (.ref A.aZ)=some true
 BD:subIn K A.aZ (.ref A.aZ)=true
 wJ:W.kitOne K (.ref A.aZ) (.ref A.e7)=some false
 R_:subIn K A.aZ (.ref A.e7)=false
 BE:W.kitOne K (.ref A.aZ) (.ref A.br)=some false
 Je:subIn K A.aZ (.ref A.br)=false
 BF:W.kitOne K (.ref A.aZ) (.type "ValueError")=some true
 Jf:mg "NoAsk" = some (.ref A.e7)
 wK:W.excIn K A.e7 [.type "ValueError",.type "Exception",.type "BaseException",.type "object"] "ValueError.__new__" = true
 Sa:fu K A.e7
 wL:mg "NoOrder" = some (.ref A.br)
 BG:fu K A.br
 qJ:pU K A.br A.t_ [.type "ValueError",.type "Exception",.type "BaseException",.type "object"] "ValueError.__new__"
 qK:iS K A.br
 qL:bW K A.br "ask"
 qM:bW K A.br "other"
 qN:j8 K A.br
 BH:(W.clsIn K A.br).isSome=true
 wM:W.kitOne K (.ref A.br) (.ref A.dz)=some true
 Sd:subIn K A.br (.ref A.dz)=true
 wN:W.kitOne K (.ref A.br) (.ref A.aZ)=some false
 Se:subIn K A.br (.ref A.aZ)=false
 BI:W.kitOne K (.ref A.br) (.ref A.e7)=some false
 Sf:subIn K A.br (.ref A.e7)=false
 BJ:W.kitOne K (.ref A.br) (.ref A.br)=some true
 Jg:subIn K A.br (.ref A.br)=true
 BK:W.kitOne K (.ref A.br) (.type "ValueError")=some true
theorem Tx.Sg{K:W.Frag}{mg:Str->Option Value}{A:ni}(T:Tx K mg A):CP K A.bO:=⟨T.wm,T.wu,T.wz,T.wA,T.wB,T.wC,T.wD⟩
theorem Tx.Zq{K:W.Frag}{mg:Str->Option Value}{A:ni}(T:Tx K mg A):∀C∈[A.bO],fS K C/\Meth K C "rings" A.qd:=by
 intro C hC;simp only[List.mem_cons,List.not_mem_nil,or_false] at hC;rcases hC with rfl
 ·exact⟨T.wm,T.Ig⟩
theorem Tx.Sh{K:W.Frag}{mg:Str->Option Value}{A:ni}(T:Tx K mg A):∀C∈[A.bO],fS K C/\Meth K C "cell_at" A.qg:=by
 intro C hC;simp only[List.mem_cons,List.not_mem_nil,or_false] at hC;rcases hC with rfl
 ·exact⟨T.wm,T.Ij⟩
local macro_rules | `(tactic| walk_at "rdt") => `(tactic| wp_walk using $(Lean.mkIdent `T))
section
variable{P:Program}{w:World}{K:W.Frag}{mg:Str->Option Value}{base:Heap}{A:ni}
theorem Si(T:Tx K mg A):∀n,a_ P w K mg base bw (n+1) A.qh A.qj ["_law_found", "_law_due_here"] (Fi n):=by
 intro n
 induction n with
 | zero=>exact⟨λ_ _ _ _ h=>h.elim,λ_ _ _ _ _ _ _ _ _ _ _ _ _ h=>h.elim⟩
 | succ n ih =>
  refine T.wc.ok G8 (λvs H Q E h=>?_) (λaM Ar outer s H vs Q E hr h=>?_)
  ·obtain⟨v1,v2,d,rfl,_⟩:=h
   rfl
  ·obtain⟨v1,v2,d,rfl,r1,r2,q⟩:=h;have hu:=ER hr;refine⟨_,(az (bA (PW.pt (eK (aR fR (bI iL rfl T.eE boot_isinstance (aa (pv 1) (aa (gv (v:=.ty "tuple") rfl T.gn boot_tuple rfl) ao))) (bI iL rfl T.eE boot_isinstance (aa (pv 0) (aa (gv (v:=.ty "tuple") rfl T.gn boot_tuple rfl) ao))) (aP _)) (fh (aR fR (bI iL rfl T.eE boot_isinstance (aa (pv 1) (aa (gv (v:=.ty "list") rfl T.jA boot_list rfl) ao))) (bI iL rfl T.eE boot_isinstance (aa (pv 0) (aa (gv (v:=.ty "list") rfl T.jA boot_list rfl) ao))) (aP _))))) (aF (bD fP)) bz)
   (az (bA (nY (bI N_ rfl T.eE boot_isinstance (aa (pv 1) (aa (dg (aa (gv (v:=.ty "tuple") rfl T.gn boot_tuple rfl) (aa (gv (v:=.ty "list") rfl T.jA boot_list rfl) ao))) ao)))) (az (bA (aR fR (bI dG rfl T.c9 boot_len (aa (pv 0) ao)) (bI dG rfl T.c9 boot_len (aa (pv 1) ao)) (aP _)) (aF (bD fP)) bz)
   (az (cR PassesOwn.never rfl (iG rfl T.dP (aa (bI dG rfl T.c9 boot_len (aa (pv 1) ao)) ao)) (bH (i:=2) G8.nd rfl (Or.inl rfl))
   (aF (bA (DJ (nY (aL ih (hr.mono (by first | decide | lia)) rfl T.A9 T.wc.kp T.A8 .nil aK (aa (aT Et (pv 0) (pv 2) (λ_ _=>rfl)) (aa (aT Et (pv 1) (pv 2) (λ_ _=>rfl)) ao))))) (aF (bD fP)) bz)))
   (aF (bD fP)))) bz)
   (az (bA (aR xU (pv 1) kM (aP _)) (aF (bD (jP xU (pv 0) kM (aP _)))) bz)
   (az (bA (PW.pt (eK (aR fR (bI iL rfl T.eE boot_isinstance (aa (pv 1) (aa (gv (v:=.ty "bool") rfl T.qD boot_bool rfl) ao))) (bI iL rfl T.eE boot_isinstance (aa (pv 0) (aa (gv (v:=.ty "bool") rfl T.qD boot_bool rfl) ao))) (aP _)) (fh (aR fR (bI iL rfl T.eE boot_isinstance (aa (pv 1) (aa (gv (v:=.ty "str") rfl T.qG boot_str rfl) ao))) (bI iL rfl T.eE boot_isinstance (aa (pv 0) (aa (gv (v:=.ty "str") rfl T.qG boot_str rfl) ao))) (aP _))))) (aF (bD fP)) bz)
   (aF (bD (n_ (jP b7 (bI iL rfl T.eE boot_isinstance (aa (pv 1) (aa (gv (v:=.ty "int") rfl T.qE boot_int rfl) ao))) (bI iL rfl T.eE boot_isinstance (aa (pv 0) (aa (gv (v:=.ty "int") rfl T.qE boot_int rfl) ao))) (aP _)) (nZ (jP b7 (pv 0) (pv 1) (aP _)))))))))),?_⟩
   walk_at "rdm";cases r1 with
   | int i =>
    cases r2;refine⟨_,.int i,_,rfl,_,.int i,_,rfl,ite_no (by simp) ⟨_,.int i,_,rfl,_,.int i,_,rfl,ite_no (by simp) (λp hp=>⟨["tuple", "list"],rfl,_,.int i,_,rfl,ite_no (by decide) (ite_no (by simp) ?_)⟩)⟩⟩
    refine⟨_,.int i,_,rfl,_,.int i,_,rfl,ite_no (by simp) ⟨_,.int i,_,rfl,_,.int i,_,rfl,ite_no (by simp) ⟨_,.int i,_,rfl,_,.int i,_,rfl,ite_yes rfl ⟨rfl,?_⟩⟩⟩⟩
    have:=q _ (ah.put (o:=HO.tup [V.ty "tuple",V.ty "list"]) hp);simpa using this
   | bl i =>
    cases r2;refine⟨_,.bl i,_,rfl,_,.bl i,_,rfl,ite_no (by simp) ⟨_,.bl i,_,rfl,_,.bl i,_,rfl,ite_no (by simp) (λp hp=>⟨["tuple", "list"],rfl,_,.bl i,_,rfl,ite_no (by decide) (ite_no (by simp) ?_)⟩)⟩⟩
    refine⟨_,.bl i,_,rfl,_,.bl i,_,rfl,ite_no (by simp) ⟨_,.bl i,_,rfl,_,.bl i,_,rfl,ite_no (by simp) ⟨_,.bl i,_,rfl,_,.bl i,_,rfl,ite_yes rfl ⟨rfl,?_⟩⟩⟩⟩
    have:=q _ (ah.put (o:=HO.tup [V.ty "tuple",V.ty "list"]) hp);simpa using this
   | str i =>
    cases r2;refine⟨_,.str i,_,rfl,_,.str i,_,rfl,ite_no (by simp) ⟨_,.str i,_,rfl,_,.str i,_,rfl,ite_no (by simp) (λp hp=>⟨["tuple", "list"],rfl,_,.str i,_,rfl,ite_no (by decide) (ite_no (by simp) ?_)⟩)⟩⟩
    refine⟨_,.str i,_,rfl,_,.str i,_,rfl,ite_no (by simp) ⟨_,.str i,_,rfl,_,.str i,_,rfl,ite_no (by simp) ⟨_,.str i,_,rfl,_,.str i,_,rfl,ite_yes rfl ⟨rfl,?_⟩⟩⟩⟩
    have:=q _ (ah.put (o:=HO.tup [V.ty "tuple",V.ty "list"]) hp);simpa using this
   | aH =>
    cases r2;refine⟨_,.aH,_,rfl,_,.aH,_,rfl,ite_no (by simp) ⟨_,.aH,_,rfl,_,.aH,_,rfl,ite_no (by simp) (λp hp=>⟨["tuple", "list"],rfl,_,.aH,_,rfl,ite_no (by decide) (ite_yes rfl ?_)⟩)⟩⟩
    exact q _ (ah.put hp)
   | @lst _ a xs ds h l hl r =>
    cases r2 with
    | @lst _ a' qO _ h' l' fT r' =>
    refine⟨_,.lst h',_,rfl,_,.lst h,_,rfl,ite_no (by simp) ⟨_,.lst h',_,rfl,_,.lst h,_,rfl,ite_no (by simp) (λp hp=>⟨["tuple", "list"],rfl,_,.lst (ah.put hp _ _ h'),_,rfl,ite_yes (by decide) ?_⟩)⟩⟩
    have s0:=ah.put (o:=HO.tup [V.ty "tuple",V.ty "list"]) hp;refine⟨_,rfl,_,.inl (aD.of (s0 _ _ h)),_,rfl,_,.inl (aD.of (s0 _ _ h')),ite_no (by lia) ?_⟩
    refine sM ds.length (λi σ H'=>∃kk,σ = [some (.ref a),some (.ref a'),kk]/\ah H H') (λQ q=>?_) (by lia) ⟨none,rfl,s0⟩ ?_ ?_
    ·walk_at "rdm";refine⟨_,.inl (aD.of (s0 _ _ h')),?_⟩;rw[l'];exact q
    ·rintro i σ H' N hN hi ⟨kk,rfl,hs⟩;walk_at "rdm";have g1:xs[i]? = some xs[i]:=List.getElem?_eq_getElem (by lia)
     have g2:qO[i]? = some qO[i]:=List.getElem?_eq_getElem (by lia)
     have g3:ds[i]? = some ds[i]:=List.getElem?_eq_getElem hi;refine Fw ⟨_,_,_,_,rfl,rfl,aD.of (hs _ _ h),cU g1,Fw ⟨_,_,_,_,rfl,rfl,aD.of (hs _ _ h'),cU g2,⟨_,_,ds[i],rfl,(r i _ _ g1 g3).same hs,(r' i _ _ g2 g3).same hs,λH2 s2=>⟨true,rfl,?_⟩⟩⟩⟩;exact ite_no (by simp) (hN _ _ ⟨_,rfl,hs.trans s2⟩)
    ·rintro σ H' ⟨kk,rfl,hs⟩;walk_at "rdm";exact q _ hs
   | @tup _ a xs ds h l hl r =>
    cases r2 with
    | @tup _ a' qO _ h' l' fT r' =>
    refine⟨_,.tup h',_,rfl,_,.tup h,_,rfl,ite_no (by simp) ⟨_,.tup h',_,rfl,_,.tup h,_,rfl,ite_no (by simp) (λp hp=>⟨["tuple", "list"],rfl,_,.tup (ah.put hp _ _ h'),_,rfl,ite_yes (by decide) ?_⟩)⟩⟩
    have s0:=ah.put (o:=HO.tup [V.ty "tuple",V.ty "list"]) hp;refine⟨_,rfl,_,.inr (aJ.of (s0 _ _ h)),_,rfl,_,.inr (aJ.of (s0 _ _ h')),ite_no (by lia) ?_⟩
    refine sM ds.length (λi σ H'=>∃kk,σ = [some (.ref a),some (.ref a'),kk]/\ah H H') (λQ q=>?_) (by lia) ⟨none,rfl,s0⟩ ?_ ?_
    ·walk_at "rdm";refine⟨_,.inr (aJ.of (s0 _ _ h')),?_⟩;rw[l'];exact q
    ·rintro i σ H' N hN hi ⟨kk,rfl,hs⟩;walk_at "rdm";have g1:xs[i]? = some xs[i]:=List.getElem?_eq_getElem (by lia)
     have g2:qO[i]? = some qO[i]:=List.getElem?_eq_getElem (by lia)
     have g3:ds[i]? = some ds[i]:=List.getElem?_eq_getElem hi;refine Fx ⟨_,_,_,_,rfl,rfl,aJ.of (hs _ _ h),cU g1,Fx ⟨_,_,_,_,rfl,rfl,aJ.of (hs _ _ h'),cU g2,⟨_,_,ds[i],rfl,(r i _ _ g1 g3).same hs,(r' i _ _ g2 g3).same hs,λH2 s2=>⟨true,rfl,?_⟩⟩⟩⟩;exact ite_no (by simp) (hN _ _ ⟨_,rfl,hs.trans s2⟩)
    ·rintro σ H' ⟨kk,rfl,hs⟩;walk_at "rdm";exact q _ hs
theorem Sj(T:Tx K mg A):a_ P w K mg base bw 8 A.qh A.qj ["_law_found", "_law_due_here"] (Oz K):=(Si T 5).mono (by decide)
theorem Jh(T:Tx K mg A):a_ P w K mg base bw 1 A.qc A.nj ["self", "cell", "ask"] (kh A.aZ ["cell", "ask"]):=by
 refine T.AI.ok GZ (λvs H Q E h=>?_) (λaM Ar outer s H vs Q E hr h=>?_)
 ·obtain⟨a,us,rfl,l,_⟩:=h;exact congrArg (· + 1) l
 ·obtain⟨a,us,rfl,l,ha,q⟩:=h
  match us,l with
  | [x,y],_ =>
   refine⟨_,(az (cg (zu rfl T.nA T.wH PySem.F.excBase_ValueError (aa (pv 0) (aa (pv 1) (aa (pv 2) ao)))))
   (az (zp (pv 0) (pv 1) rfl)
   (aF (zq (pv 0) (pv 2) rfl)))),?_⟩
   walk_at "rdm";refine⟨_,ha,T.lU.ok,_,T.lU.pW,_,ha,T.ku,T.lV,λd nd=>?_⟩;have da:d≠a:=λz=>by rw[z,ha] at nd;cases nd
   refine⟨_,_,(aG da.symm).trans aq,_,aq,T.ku,T.nF,(show (1:Nat)<1000 by decide),?_⟩
   rw[l7,show cY (Str.ofString "ask") y [(Str.ofString "cell",x)] = [(Str.ofString "cell",x),(Str.ofString "ask",y)] by unfold cY;rw[if_neg (by decide)];rfl]
   exact q d nd
theorem Sk(T:Tx K mg A):tE P w K mg base 1 A.qc A.nj ["self", "cell", "ask"] (kh A.aZ ["cell", "ask"]):=by
 refine T.AI.QH GZ (λvs H Q E h=>?_) (λaM Ar outer s H vs Q E hr h=>?_)
 ·obtain⟨a,us,rfl,l,_⟩:=h;exact congrArg (· + 1) l
 ·obtain⟨a,us,rfl,l,ha,q⟩:=h
  match us,l with
  | [x,y],_ =>
   refine⟨_,(az (cg (zu rfl T.nA T.wH PySem.F.excBase_ValueError (aa (pv 0) (aa (pv 1) (aa (pv 2) ao)))))
   (az (zp (pv 0) (pv 1) rfl)
   (aF (zq (pv 0) (pv 2) rfl)))),?_⟩
   walk_at "rdm";refine⟨_,ha,T.lU.ok,_,T.lU.pW,_,ha,T.ku,T.lV,λd nd=>?_⟩;have da:d≠a:=λz=>by rw[z,ha] at nd;cases nd
   refine⟨_,_,(aG da.symm).trans aq,_,aq,T.ku,T.nF,(show (1:Nat)<1000 by decide),?_⟩
   rw[l7,show cY (Str.ofString "ask") y [(Str.ofString "cell",x)] = [(Str.ofString "cell",x),(Str.ofString "ask",y)] by unfold cY;rw[if_neg (by decide)];rfl]
   exact q d nd
theorem Ji(T:Tx K mg A):a_ P w K mg base bw 1 A.t_ A.uc ["self", "ask", "other"] (kh A.br ["ask", "other"]):=by
 refine T.Hg.ok RL (λvs H Q E h=>?_) (λaM Ar outer s H vs Q E hr h=>?_)
 ·obtain⟨a,us,rfl,l,_⟩:=h;exact congrArg (· + 1) l
 ·obtain⟨a,us,rfl,l,ha,q⟩:=h
  match us,l with
  | [x,y],_ =>
   refine⟨_,(az (cg (zu rfl T.nA T.wH PySem.F.excBase_ValueError (aa (pv 0) (aa (pv 1) (aa (pv 2) ao)))))
   (az (zp (pv 0) (pv 1) rfl)
   (aF (zq (pv 0) (pv 2) rfl)))),?_⟩
   walk_at "rdm";refine⟨_,ha,T.qJ.ok,_,T.qJ.pW,_,ha,T.qK,T.qL,λd nd=>?_⟩;have da:d≠a:=λz=>by rw[z,ha] at nd;cases nd
   refine⟨_,_,(aG da.symm).trans aq,_,aq,T.qK,T.qM,(show (1:Nat)<1000 by decide),?_⟩
   rw[l7,show cY (Str.ofString "other") y [(Str.ofString "ask",x)] = [(Str.ofString "ask",x),(Str.ofString "other",y)] by unfold cY;rw[if_neg (by decide)];rfl]
   exact q d nd
theorem BN(T:Tx K mg A):a_ P w K mg base bw 1 A.ud A.ue ["self", "kind", "first", "many", "marks", "at", "asker", "latest", "behind", "early"] (Po A.bx):=by
 refine T.Hi.ok RM (λvs H Q E h=>?_) (λaM Ar outer s H vs Q E hr h=>?_)
 ·obtain⟨p,dx,v1,v2,v3,v4,v5,v6,v7,v8,v9,rfl,_⟩:=h
  rfl
 ·obtain⟨p,dx,v1,v2,v3,v4,v5,v6,v7,v8,v9,rfl,hp,q⟩:=h;refine⟨_,(az (fG (pv 0) (pv 1) rfl)
   (az (fG (pv 0) (pv 2) rfl)
   (az (fG (pv 0) (pv 3) rfl)
   (az (fG (pv 0) (pv 4) rfl)
   (az (fG (pv 0) (pv 5) rfl)
   (az (fG (pv 0) (pv 6) rfl)
   (az (fG (pv 0) (pv 7) rfl)
   (az (fG (pv 0) (pv 8) rfl)
   (aF (fG (pv 0) (pv 9) rfl)))))))))),?_⟩
  wp_walk using T,hp;exact q
theorem wO(T:Tx K mg A):a_ P w K mg base bw 1 A.uf A.ug ["number", "least", "greatest", "words"] Ph:=by
 refine T.iX.ok RO (λvs H Q E h=>?_) (λaM Ar outer s H vs Q E hr h=>?_)
 ·obtain⟨n,lo,hi,w,rfl,_⟩:=h
  rfl
 ·obtain⟨n,lo,hi,w,rfl,h1,h2,q⟩:=h;refine⟨_,(aF (bA (PW.pt (eK (aR eN (pv 0) (pv 1) (aP _)) (fh (aR gf (pv 0) (pv 2) (aP _))))) fY bz)),?_⟩;walk_at "rdm";exact⟨by lia,by lia,q⟩
theorem Jj(T:Tx K mg A):a_ P w K mg base bw 1 A.ur A.uu ["behind"] (Pn K):=by
 refine T.v_.ok RQ (λvs H Q E h=>?_) (λaM Ar outer s H vs Q E hr h=>?_)
 ·obtain⟨v,ns,rfl,_⟩:=h
  rfl
 ·obtain⟨v,ns,rfl,hv,q⟩:=h;refine⟨_,(aF (bD (L7 (aR xU (pv 0) kM (aP _)) (dg ao) (iJ kY rfl T.gn boot_tuple (aa (pv 0) ao))))),?_⟩;walk_at "rdm";rcases hv with⟨rfl,rfl⟩ | ⟨a,rfl,hS | hS⟩
  ·exact ite_yes rfl λt nt=>q t _ (ah.put nt) aq
  ·exact ite_no (by simp) ⟨a,rfl,_,.inl ⟨hS,λl nl=>q l _ (ah.put nl) aq⟩⟩
  ·exact ite_no (by simp) ⟨a,rfl,_,.inr ⟨aJ.of hS,q a _ (ah.refl _) hS⟩⟩
theorem Sl(T:Tx K mg A):a_ P w K mg base bw 1 A.uB A.uC ["one", "other"] (Pu K A.bx):=by
 refine T.AU.ok RT (λvs H Q E h=>?_) (λaM Ar outer s H vs Q E hr h=>?_)
 ·obtain⟨p,r,x,y,m,b,dx,m',b',lC,rfl,_⟩:=h
  rfl
 ·obtain⟨p,r,x,y,m,b,dx,m',b',lC,rfl,hx,hy,q⟩:=h;refine⟨_,(az (bA (PW.pt (jd (aR fR (dm (pv 0) rfl) bC (aP _)) (jc (aR fR (dm (pv 1) rfl) bC (aP _))))) (aF (bD fP)) bz)
   (aF (bD (n_ (jP eN (dm (pv 0) rfl) (aA bF (dm (pv 1) rfl) (dm (pv 1) rfl)) (aP _)) (nZ (jP eN (dm (pv 1) rfl) (aA bF (dm (pv 0) rfl) (dm (pv 0) rfl)) (aP _))))))),?_⟩
  wp_walk using T,hx.o,hy.o;unfold kg at q;by_cases k1:x.kind = "write" <;> by_cases k2:y.kind = "write" <;> by_cases k3:x.first<y.first+y.many <;> simpa[k1,k2,k3] using q
theorem Sm(T:Tx K mg A):a_ P w K mg base bw 1 A.uP A.uQ ["zones"] (Ol K):=by
 refine T.A1.ok tU (λvs H Q E h=>?_) (λaM Ar outer s H vs Q E hr h=>?_)
 ·obtain⟨a,ts,z,rfl,_⟩:=h
  rfl
 ·obtain⟨a,ts,z,rfl,hz,ok,q⟩:=h;refine⟨_,(az (bA (PW.pt (eK (aR eN (bI dG rfl T.c9 boot_len (aa (pv 0) ao)) aj (aP _)) (fh (aR gf (bI dG rfl T.c9 boot_len (aa (pv 0) ao)) (dR (v:=.int 5) rfl T.I_ ⟨_,rfl⟩) (aP _))))) fY bz)
   (az (cR PassesOwn.never rfl (fZ (pv 0)) (jL rfl (fj (bH (i:=1) tU.nd rfl (Or.inl rfl)) (fj (bH (i:=2) tU.nd rfl (Or.inl rfl)) jK)))
   (az (bA (PW.pt (eK (aR eN (pv 1) aj (aP _)) (fh (aR gf (pv 1) (dR (v:=.int 40) rfl T.Ja ⟨_,rfl⟩) (aP _))))) fY bz)
   (aF (bA (PW.pt (eK (aR eN (pv 2) aj (aP _)) (fh (aR gf (pv 2) (dR (v:=.int 60) rfl T.Jb ⟨_,rfl⟩) (aP _))))) fY bz))))
   (az (aX (i:=3) tU.nd rfl (Or.inl rfl) (bI (EZ rfl) rfl T.qH boot_sum (aa (sF (N:=["zone"]) (nt:=1) (fv:=[]) (cI.of rfl rfl (by rfl) (by rfl) (by repeat (first | exact trivial | refine⟨rfl,?_⟩)) (by rfl) (by rfl) (by rfl) (by decide) (by decide +kernel)) rfl (fZ (pv 0)) (λC s H fp=>(bH (i:=0) (show List.Nodup (["zone"]:List Str) by decide +kernel) rfl (Or.inl rfl))) (λC s H fp=>oZ) (λC s H fp=>(aT (mO (K:=K) rfl) (pv 0) aj (λ_ _=>rfl)))) ao)))
   (aF (bA (PW.pt (eK (aR eN (pv 3) (dR (v:=.int 2) rfl T.Jc ⟨_,rfl⟩) (aP _)) (fh (aR gf (pv 3) (dR (v:=.int 120) rfl T.Jd ⟨_,rfl⟩) (aP _))))) fY bz))))),?_⟩
  walk_at "rdm";have hn:=hz.n;have l1:=ok.l1;have l5:=ok.l5;refine⟨_,.inl hz.sq,by simp only[List.length_map];lia,_,.inl hz.sq,by simp only[List.length_map];lia,?_⟩
  refine rl a (ts.map V.ref) (λi σ H'=>∃r c,σ = [some (.ref a),r,c,none]/\H' = H) (λQ q=>⟨_,rfl,q⟩) hz.sq ⟨none,none,rfl,rfl⟩ (by rintro i σ H' _ ⟨r,c,rfl,rfl⟩;exact hz.sq) ?_ ?_
  ·rintro i x σ H' N hN hx ⟨r,c,rfl,rfl⟩;obtain⟨t,p,rfl,hp,ht⟩:=hz.at hx;refine jW (aJ.of ht) rfl ?_;walk_at "rdm";obtain⟨h1,h2,h3,h4⟩:=ok.r p (get_mem hp);exact⟨by lia,by lia,by lia,by lia,hN _ _ ⟨_,_,rfl,rfl⟩⟩
  ·rintro σ H' ⟨r,c,rfl,rfl⟩;walk_at "rdm";refine pq a (ts.map V.ref) (λD i ys au H2=>ys=((z.take i).map λp=>V.int p.1)/\H2 D=some (.lst ys)/\ah H' H2/\H' D=none/\i<=z.length/\∃u,au = [u]) (λQ q=>⟨_,rfl,q⟩) hz.sq ?_ ?_ ?_ ?_
   ·intro D hD;exact⟨rfl,aq,ah.put hD,hD,Nat.zero_le _,_,rfl⟩
   ·rintro D i ys au H2 ⟨e,e1,e2,e3,e4,_⟩;refine⟨e1,?_,e2.seq hz.sq⟩;rw[e];refine gB ?_;simp only[List.length_map,List.length_take];lia
   ·rintro D i x ys au H2 N hN hx ⟨e,e1,e2,e3,e4,u,rfl⟩;obtain⟨t,p,rfl,hp,ht⟩:=hz.at hx;have hl:=dY hp;walk_at "rdm";refine⟨_,aJ.of (e2 _ _ ht),_,rfl,e1,hN _ _ _ ⟨?_,aq,ah.put2 e2 e3,e3,hl,_,rfl⟩⟩;rw[take_succ_get hp,List.map_append,e];rfl
   ·rintro D ys au H2 ⟨e,e1,e2,e3,e4,u,rfl⟩;have e5:ys=(z.map λp=>p.1).map V.int:=by
     rw[e,lenZ hz.n,List.take_length,List.map_map];rfl
    rw[e5] at e1;walk_at "rdm";have s2:=ok.s2;have s1:=ok.yN;exact⟨_,aD.of e1,by lia,by lia,q _ e2⟩
theorem So(T:Tx K mg A):a_ P w K mg base bw 1 A.uR A.uS ["zones", "lap", "skew"] (Om K):=by
 refine T.A2.ok AG (λvs H Q E h=>?_) (λaM Ar outer s H vs Q E hr h=>?_)
 ·obtain⟨a,ts,z,bg,cL,rfl,_⟩:=h
  rfl
 ·obtain⟨a,ts,z,bg,cL,rfl,hz,ok,h1,h2,h3,h4,hd,q⟩:=h;refine⟨_,(az (bA (PW.pt (eK (aR eN (pv 1) aj (aP _)) (fh (aR gf (pv 1) (dR (v:=.int 1000000000) rfl T.By ⟨_,rfl⟩) (aP _))))) fY bz)
   (az (cR PassesOwn.never rfl (fZ (pv 0)) (jL rfl (fj (bH (i:=3) AG.nd rfl (Or.inl rfl)) (fj (bH (i:=4) AG.nd rfl (Or.inl rfl)) jK)))
   (aF (bA (aR fR (aA bG (pv 1) (pv 4)) aj (aP _)) fY bz)))
   (aF (bA (PW.pt (eK (aR eN (pv 2) aj (aP _)) (fh (aR rQ (pv 2) (pv 1) (aP _))))) fY bz)))),?_⟩
  walk_at "rdm";refine⟨by lia,by lia,?_⟩
  refine rl a (ts.map V.ref) (λi σ H'=>∃r c,σ = [some (.ref a),some (.int bg),some (.int cL),r,c]/\H' = H) (λQ q=>⟨_,rfl,q⟩) hz.sq ⟨none,none,rfl,rfl⟩ (by rintro i σ H' _ ⟨r,c,rfl,rfl⟩;exact hz.sq) ?_ ?_
  ·rintro i x σ H' N hN hx ⟨r,c,rfl,rfl⟩;obtain⟨t,p,rfl,hp,ht⟩:=hz.at hx;refine jW (aJ.of ht) rfl ?_;obtain⟨g1,g2,g3,g4⟩:=ok.r p (get_mem hp);have g5:=hd p (get_mem hp);walk_at "rdm";exact⟨by lia,g5,hN _ _ ⟨_,_,rfl,rfl⟩⟩
  ·rintro σ H' ⟨r,c,rfl,rfl⟩;walk_at "rdm";exact⟨by lia,by lia,q⟩
theorem Ss(T:Tx K mg A):a_ P w K mg base bw 1 A.uW A.uX ["swing"] (Oq K):=by
 refine T.A4.ok AH (λvs H Q E h=>?_) (λaM Ar outer s H vs Q E hr h=>?_)
 ·obtain⟨a,sw,n,rfl,_⟩:=h
  rfl
 ·obtain⟨a,sw,n,rfl,hS,ok,hn,q⟩:=h;refine⟨_,(aF (cR PassesOwn.never rfl (kQ rfl T.dP (aa aj (aa (bI dG rfl T.c9 boot_len (aa (pv 0) ao)) ao))) (bH (i:=1) AH.nd rfl (Or.inl rfl))
   (aF (cR PassesOwn.never rfl (kQ rfl T.dP (aa aj (aa (aA bF (aA rP (pv 1) aj) aj) ao))) (bH (i:=2) AH.nd rfl (Or.inl rfl))
   (aF (bA (aR gf (aT cD (pv 0) (pv 1) (λ_ _=>rfl)) (aA bF (aT cD (pv 0) (pv 2) (λ_ _=>rfl)) (aT cD (pv 0) (aA dU (pv 1) (pv 2)) (λ_ _=>rfl))) (aP _)) fY bz)))))),?_⟩
  walk_at "rdm";have hl:=ok.len;have h2:=ok.two;refine lB 2 (sw.length:Int) (λi σ H'=>∃r c,σ = [some (.ref a),r,c]/\H' = H) (λQ q=>?_) (by lia) (by lia) (by lia) (by lia) ⟨none,none,rfl,rfl⟩ ?_ ?_
  ·walk_at "rdm";refine⟨_,.inl hS,?_⟩;simpa using q
  ·rintro i σ H' N hN hi ⟨r,c,rfl,rfl⟩;walk_at "rdm";refine lB 1 ((2+(i:Int)) / 2+1) (λj σ H2=>∃c,σ = [some (.ref a),some (.int (2+(i:Int))),c]/\H2=H') (λQ q=>?_) (by lia) (by lia) (by lia) (by lia) ⟨_,rfl,rfl⟩ ?_ ?_
   ·walk_at "rdm";exact q
   ·rintro j σ H2 N2 jB hj ⟨c,rfl,rfl⟩;walk_at "rdm";have e1:((2:Int)+(i:Int)).toNat=(1+j)+(1+i - j):=by lia
    have e2:((1:Int)+(j:Int)).toNat=1+j:=by lia
    have e3:((2:Int)+(i:Int) - (1+(j:Int))).toNat=1+i - j:=by lia
    have g:=ok.no (1+j) (1+i - j) (by lia) (by lia) (by lia)
    refine⟨_,hS,_,iM (by lia) (by lia),_,hS,_,iM (by lia) (by lia),_,hS,_,iM (by lia) (by lia),?_⟩
    walk_at "rdm";rw[e1,e2,e3];exact⟨by lia,jB _ _ ⟨_,rfl,rfl⟩⟩
   ·rintro σ H2 ⟨c,rfl,rfl⟩;exact hN _ _ ⟨_,_,rfl,rfl⟩
  ·rintro σ H' ⟨r,c,rfl,rfl⟩;exact q
theorem Su(T:Tx K mg A):a_ P w K mg base bw 1 A.uY A.uZ ["zones"] (Fe K):=by
 refine T.A5.ok tV (λvs H Q E h=>?_) (λaM Ar outer s H vs Q E hr h=>?_)
 ·obtain⟨a,ts,z,rfl,_⟩:=h
  rfl
 ·obtain⟨a,ts,z,rfl,hz,ok,q⟩:=h;refine⟨_,(az (aX (i:=1) tV.nd rfl (Or.inl rfl) (cH ao))
   (az (cR PassesOwn.never rfl (fZ (pv 0)) (jL rfl (fj (bH (i:=2) tV.nd rfl (Or.inl rfl)) (fj (bH (i:=3) tV.nd rfl (Or.inl rfl)) jK)))
   (aF (cg (gY PySem.F.plainAttrs_list PySem.F.slot_list_extend PySem.F.type_list_extend EB (pv 1) (aa (aA EC (cH (aa (pv 3) ao)) (pv 2)) ao)))))
   (aF (bD (pv 1))))),?_⟩
  walk_at "rdm";refine λl hl=>?_;refine rl a (ts.map V.ref) (λi σ H'=>∃r c,σ = [some (.ref a),some (.ref l),r,c]/\ah H H'/\H' l=some (.lst ((counts (z.take i)).map V.int))) (λQ q=>⟨_,rfl,q⟩) (ah.put hl |>.seq hz.sq) ⟨none,none,rfl,ah.put hl,aq⟩ (by rintro i σ H' _ ⟨r,c,rfl,hs,_⟩;exact hs.seq hz.sq) ?_ ?_
  ·rintro i x σ H' N hN hx ⟨r,c,rfl,hs,h1⟩;obtain⟨t,p,rfl,hp,ht⟩:=hz.at hx;refine jW (aJ.of (hs _ _ ht)) rfl ?_;obtain⟨g1,g2,g3,g4⟩:=ok.r p (get_mem hp);have g5:=E9 ok i;walk_at "rdm";refine⟨⟨_,aD.of h1⟩,λp1 cG=>⟨by lia,by lia,by lia,λp2 c_=>?_⟩⟩
   have s1:=(ah.put (o:=.lst [V.int p.2]) cG).trans (ah.put (o:=.lst (List.replicate p.1.toNat [V.int p.2]).flatten) c_);refine⟨_,s1 _ _ h1,?_,hN _ _ ⟨_,_,rfl,ah.put2 (hs.trans s1) hl,?_⟩⟩
   ·simp only[sL,List.length_map,List.length_replicate];lia
   ·rw[aq,take_succ_get hp,yP,List.map_append,sL];simp[counts]
  ·rintro σ H' ⟨r,c,rfl,hs,h1⟩;walk_at "rdm";rw[lenZ hz.n,List.take_length] at h1;exact q _ _ hs hl h1
theorem Sv(T:Tx K mg A):a_ P w K mg base bw 1 A.u0 A.u5 ["ring_cells", "spares"] (Ot K):=by
 refine T.A6.ok p_ (λvs H Q E h=>?_) (λaM Ar outer s H vs Q E hr h=>?_)
 ·obtain⟨a,rc,s,rfl,_⟩:=h
  rfl
 ·obtain⟨a,rc,s,rfl,hS,hl,hc,jC,nH,q⟩:=h;refine⟨_,(az (aX (i:=2) p_.nd rfl (Or.inl rfl) (cH ao))
   (az (cR PassesOwn.never rfl (yM rfl T.nu (aa (pv 0) ao)) (jL rfl (fj (bH (i:=3) p_.nd rfl (Or.inl rfl)) (fj (bH (i:=4) p_.nd rfl (Or.inl rfl)) jK)))
   (aF (cR PassesOwn.never rfl (iG rfl T.dP (aa (aA dU (pv 4) (pv 1)) ao)) (bH (i:=5) p_.nd rfl (Or.inl rfl))
   (aF (cg (gY PySem.F.plainAttrs_list PySem.F.slot_list_append PySem.F.type_list_append gZ (pv 2) (aa (dg (aa (pv 3) (aa (pv 5) ao))) ao)))))))
   (aF (bD (pv 2))))),?_⟩
  walk_at "rdm";refine λl dw=>?_;have Sw:=Og (s:=s) jC (λc hx=>hc c hx);refine re a (rc.map V.int) (λi σ H'=>∃r c pl ts,σ = [some (.ref a),some (.int s),some (.ref l),r,c,pl]/\ah H H'/\(∀t∈ts,H t=none)/\Zn H' l ts (ez s 0 (rc.take i))) (λQ q=>?_) (ah.put dw |>.seq hS)
   ⟨none,none,none,[],rfl,ah.put dw,(by intro t ht;cases ht),aq,rfl,by intro i t p h;simp at h⟩ (by rintro i σ H' _ ⟨r,c,pl,ts,rfl,hs,_⟩;exact hs.seq hS) ?_ ?_
  ·walk_at "rdm";exact q
  ·rintro i x σ H' T1 N hN hx ⟨r,c,pl,ts,rfl,hs,iy,hz⟩ hT;obtain⟨c0,BO,rfl⟩:=gF hx;obtain⟨g1,g2⟩:=hc c0 (get_mem BO);refine jW (aJ.of aq) rfl ?_;walk_at "rdm";have Jk:=ah.put (o:=.tup [.int i,.int c0]) hT;refine Fc (c0 - s) (λj σ H2=>∃pl ts,σ = [some (.ref a),some (.int s),some (.ref l),some (.int i),some (.int c0),pl]/\ah H H2/\(∀t∈ts,H t=none)/\Zn H2 l ts (ez s 0 (rc.take i)++(List.range j).map λ(k:Nat)=>((i:Int),(k:Int)))) (λQ q=>?_) (by lia) (by lia) ?_ ?_ ?_
   ·walk_at "rdm";exact q
   ·exact⟨_,ts,rfl,hs.trans Jk,iy,by simpa using hz.same Jk⟩
   ·rintro j σ H2 N2 jB hj ⟨pl,ts,rfl,eo,BP,gO⟩;walk_at "rdm";refine⟨⟨_,gO.sq⟩,λp hp=>⟨_,ah.put hp _ _ gO.l,?_,jB _ _ ⟨_,ts++[p],rfl,ah.put2 (eo.trans (ah.put hp)) dw,?_,?_⟩⟩⟩
    ·have h1:=gO.n;have h2:=Sw i;simp only[List.length_map,List.length_append,List.length_range] at h1 ⊢;lia
    ·intro t ht;rcases List.mem_append.mp ht with ht | ht
     ·exact BP t ht
     ·rw[List.mem_singleton.mp ht];exact eo.free hp
    ·have:=gO.snoc hp (i:Int) (j:Int);rw[List.range_succ,List.map_append,← List.append_assoc];exact this
   ·rintro σ H2 ⟨pl,ts,rfl,eo,BP,gO⟩;refine hN _ _ ⟨_,_,_,ts,rfl,eo,BP,?_⟩;rw[take_succ_get BO,E6];have hi:=dY BO;simpa[ez,Nat.min_eq_left (Nat.le_of_lt hi)] using gO
  ·rintro σ H' ⟨r,c,pl,ts,rfl,hs,iy,hz⟩;walk_at "rdm";rw[List.length_map,List.take_length] at hz;exact q _ _ _ hs dw iy hz
theorem Sx(T:Tx K mg A):a_ P w K mg base bw 1 A.u6 A.u7 ["number_cells"] (Ou K):=by
 refine T.A7.ok tW (λvs H Q E h=>?_) (λaM Ar outer s H vs Q E hr h=>?_)
 ·obtain⟨a,ts,z,rfl,_⟩:=h
  rfl
 ·obtain⟨a,ts,z,rfl,hz,hlen,q⟩:=h;have hu:=ER hr;refine⟨_,(az (aX (i:=1) tW.nd rfl (Or.inl rfl) ND)
   (az (cR PassesOwn.never rfl (yM rfl T.nu (aa (pv 0) ao)) (jL rfl (fj (bH (i:=2) tW.nd rfl (Or.inl rfl)) (fj (bH (i:=3) tW.nd rfl (Or.inl rfl)) jK)))
   (aF (Nz hu (pv 1) (pv 3) (pv 2) rfl)))
   (aF (bD (pv 1))))),?_⟩
  walk_at "rdm";refine λd hd=>?_;refine re a (ts.map V.ref) (λi σ H'=>∃r c,σ = [some (.ref a),some (.ref d),r,c]/\ah H H'/\i<=z.length/\H' d=some (.dT (gi 0 (z.take i) []))) (λQ q=>?_) (ah.put hd |>.seq hz.sq)
   ⟨none,none,rfl,ah.put hd,Nat.zero_le _,aq⟩ (by rintro i σ H' _ ⟨r,c,rfl,hs,_⟩;exact hs.seq hz.sq) ?_ ?_
  ·walk_at "rdm";exact q
  ·rintro i x σ H' T1 N hN hx ⟨r,c,rfl,hs,hi,h1⟩ hT;obtain⟨t,p,rfl,hp,ht⟩:=hz.at hx;refine jW (aJ.of aq) rfl ?_;walk_at "rdm";have nH:=hs.trans (ah.put (o:=.tup [.int i,.ref t]) hT);have hl:=E8 (z.take i) 0 [];have Jl:=dY hp;rw[List.length_take,List.length_nil] at hl;refine⟨_,oU.t (k:=kT p) (ah.put hT _ _ h1) (nH _ _ ht) (by rw[Oh];lia),hN _ _ ⟨_,_,rfl,ah.put2 nH hd,Jl,?_⟩⟩
   rw[aq,take_succ_get hp,E7];simp[gi,Nat.min_eq_left (Nat.le_of_lt Jl)]
  ·rintro σ H' ⟨r,c,rfl,hs,hi,h1⟩;walk_at "rdm";rw[lenZ hz.n,List.take_length] at h1;exact q _ _ hs hd h1
theorem Zr(T:Tx K mg A):a_ P w K mg base bw 1 A.qd A.vc ["self"] (Ox K):=by
 refine T.Ie.ok RX (λvs H Q E h=>?_) (λaM Ar outer s H vs Q E hr h=>?_)
 ·obtain⟨C,p,P,fp,rfl,_⟩:=h
  rfl
 ·obtain⟨C,p,P,fp,rfl,hP,q⟩:=h;obtain⟨dx,a1,a2,a3,a4,ts,fs,rfl,h⟩:=hP;refine⟨_,(aF (bD (bI dG rfl T.c9 boot_len (aa (dm (pv 0) rfl) ao)))),?_⟩;wp_walk using T,h.o,h.f1,h.f2,h.f3,h.f4,h.f5,h.f6,h.m1,h.m2,h.m3,h.m4,h.m5,h.m6,h.m7,h.m8,h.m9,h.Ff,h.Fg,h.cp.cl,h.cp.n1,h.cp.n2,h.cp.n3,h.cp.n4,h.cp.n5,h.cp.n6;exact⟨_,.inl (aD.of h.rc),by simpa  using q⟩
theorem Sy(T:Tx K mg A):a_ P w K mg base bw 1 A.ve A.vf ["_law_script", "_law_k"] (o_ K):=by
 refine T.kq.ok RZ (λvs H Q E h=>?_) (λaM Ar outer s H vs Q E hr h=>?_)
 ·obtain⟨a,ns,k,rfl,_⟩:=h
  rfl
 ·obtain⟨a,ns,k,rfl,hS,hl,hk,q⟩:=h;refine⟨_,(az (bA (aR eN (pv 1) (bI dG rfl T.c9 boot_len (aa (pv 0) ao)) (aP _)) (aF (bD (aT cD (pv 0) (pv 1) (λ_ _=>rfl)))) bz)
   (aF (bD aj))),?_⟩
  walk_at "rdm";refine⟨_,.inl hS,bu (λbV=>⟨_,hS,_,iM hk (by simpa using bV),q⟩) λSz=>?_⟩
  have e:gh ns k=0:=by
   unfold gh;rw[List.length_map] at Sz;rw[List.getD_eq_getElem?_getD,List.getElem?_eq_none (by lia)];rfl
  rw[e] at q;exact q
theorem lW(T:Tx K mg A):a_ P w K mg base bw 1 A.vg A.vh ["_law_cell", "_law_k"] cF:=by
 refine T.bJ.ok G9 (λvs H Q E h=>?_) (λaM Ar outer s H vs Q E hr h=>?_)
 ·obtain⟨c,k,rfl,_⟩:=h
  rfl
 ·obtain⟨c,k,rfl,Zu,Zv,q⟩:=h;refine⟨_,(az (aX (i:=2) G9.nd rfl (Or.inl rfl) (aA bF (aA bF (aA jf (aA bF (aA bG (pv 0) (aA mz aj aj)) aj) aj) (aA jf (aA jf (pv 1) (pv 1)) aj)) (aA jf (pv 1) aj)))
   (aF (bD (aA bG (aA jf (aA bG (pv 2) aj) aj) aj)))),?_⟩
  walk_at "rdm";exact⟨by decide,.inl ⟨by lia,by lia⟩,q⟩
theorem SA(T:Tx K mg A):a_ P w K mg base bw 1 A.vn A.vo ["_law_zones_here"] (OI K):=by
 refine T.Bb.ok tX (λvs H Q E h=>?_) (λaM Ar outer s H vs Q E hr h=>?_)
 ·obtain⟨a,ts,z,rfl,_⟩:=h
  rfl
 ·obtain⟨a,ts,z,rfl,hz,ok,q⟩:=h;refine⟨_,(az (aX (i:=1) tX.nd rfl (Or.inl rfl) (cH ao))
   (az (cR PassesOwn.never rfl (fZ (pv 0)) (jL rfl (fj (bH (i:=2) tX.nd rfl (Or.inl rfl)) (fj (bH (i:=3) tX.nd rfl (Or.inl rfl)) jK)))
   (aF (cg (gY PySem.F.plainAttrs_list PySem.F.slot_list_extend PySem.F.type_list_extend EB (pv 1) (aa (aA EC (cH (aa (pv 3) ao)) (pv 2)) ao)))))
   (aF (bD (pv 1))))),?_⟩
  walk_at "rdm";refine λl hl=>?_;refine rl a (ts.map V.ref) (λi σ H'=>∃r c,σ = [some (.ref a),some (.ref l),r,c]/\ah H H'/\H' l=some (.lst ((counts (z.take i)).map V.int))) (λQ q=>⟨_,rfl,q⟩) (ah.put hl |>.seq hz.sq) ⟨none,none,rfl,ah.put hl,aq⟩ (by rintro i σ H' _ ⟨r,c,rfl,hs,_⟩;exact hs.seq hz.sq) ?_ ?_
  ·rintro i x σ H' N hN hx ⟨r,c,rfl,hs,h1⟩;obtain⟨t,p,rfl,hp,ht⟩:=hz.at hx;refine jW (aJ.of (hs _ _ ht)) rfl ?_;obtain⟨g1,g2,g3,g4⟩:=ok.r p (get_mem hp);have g5:=E9 ok i;walk_at "rdm";refine⟨⟨_,aD.of h1⟩,λp1 cG=>⟨by lia,by lia,by lia,λp2 c_=>?_⟩⟩
   have s1:=(ah.put (o:=.lst [V.int p.2]) cG).trans (ah.put (o:=.lst (List.replicate p.1.toNat [V.int p.2]).flatten) c_);refine⟨_,s1 _ _ h1,?_,hN _ _ ⟨_,_,rfl,ah.put2 (hs.trans s1) hl,?_⟩⟩
   ·simp only[sL,List.length_map,List.length_replicate];lia
   ·rw[aq,take_succ_get hp,yP,List.map_append,sL];simp[counts]
  ·rintro σ H' ⟨r,c,rfl,hs,h1⟩;walk_at "rdm";rw[lenZ hz.n,List.take_length] at h1;exact q _ _ hs hl h1
theorem SD(T:Tx K mg A):a_ P w K mg base bw 1 A.vK A.vL ["_law_one", "_law_other"] PV:=by
 refine T.Bk.ok R1 (λvs H Q E h=>?_) (λaM Ar outer s H vs Q E hr h=>?_)
 ·obtain⟨t,t',x,y,m,b,m',b',rfl,_⟩:=h
  rfl
 ·obtain⟨t,t',x,y,m,b,m',b',rfl,hx,hy,q⟩:=h;refine⟨_,(az (bA (PW.pt (eK (aR b7 (aT bR (pv 0) aj (λ_ _=>rfl)) bC (aP _)) (eK (aR b7 (aT bR (pv 1) aj (λ_ _=>rfl)) bC (aP _)) (fh (PW.pt (jd (aR b7 (aT bR (pv 0) aj (λ_ _=>rfl)) bC (aP _)) (jc (aR b7 (aT bR (pv 1) aj (λ_ _=>rfl)) bC (aP _))))))))) (aF (bD fP)) bz)
   (aF (bD (n_ (jP eN (aT bR (pv 0) aj (λ_ _=>rfl)) (aA bF (aT bR (pv 1) aj (λ_ _=>rfl)) (aT bR (pv 1) aj (λ_ _=>rfl))) (aP _)) (nZ (jP eN (aT bR (pv 1) aj (λ_ _=>rfl)) (aA bF (aT bR (pv 0) aj (λ_ _=>rfl)) (aT bR (pv 0) aj (λ_ _=>rfl))) (aP _))))))),?_⟩
  walk_at "rdt";have h1:=aJ.of (K:=K) hx.o;have h2:=aJ.of (K:=K) hy.o;unfold lH at q;refine⟨_,h1,_,rfl,rfl,bu (λe1=>?_) λe1=>⟨_,h2,_,rfl,rfl,bu (λe2=>?_) λe2=>⟨_,h1,_,rfl,rfl,bu (λe3=>⟨_,h2,_,rfl,rfl,bu (λe4=>?_) λe4=>?_⟩) λe3=>?_⟩⟩⟩
  ·rw[decide_eq_false (λz=>z.1 (.inl (V.str.inj e1)))] at q;exact q
  ·rw[decide_eq_false (λz=>z.1 (.inr (.inl (V.str.inj e2))))] at q;exact q
  ·rw[decide_eq_false (λz=>z.1 (.inr (.inr ⟨V.str.inj e3,V.str.inj e4⟩)))] at q;exact q
  ·have oO:¬ (x.kind = "rest"\/y.kind = "rest"\/(x.kind = "read"/\y.kind = "read")):=by
    rintro(z | z | z)
    ·exact e1 (by rw[z])
    ·exact e2 (by rw[z])
    ·exact e4 (by rw[z.2])
   refine⟨_,h1,_,rfl,_,h2,_,rfl,_,h2,_,rfl,_,rfl,_,rfl,_,rfl,bu (λc1=>⟨_,h2,_,rfl,_,h1,_,rfl,_,h1,_,rfl,_,rfl,_,rfl,_,rfl,?_⟩) (λc1=>?_)⟩
   ·have e:decide (¬ (x.kind = "rest"\/y.kind = "rest"\/(x.kind = "read"/\y.kind = "read"))/\x.first<y.first+y.many/\y.first<x.first+x.many)=decide (y.first<x.first+x.many):=by
     rw[decide_eq_decide];exact⟨λz=>z.2.2,λz=>⟨oO,c1,z⟩⟩
    rw[e] at q;exact q
   ·rw[decide_eq_false (λz=>c1 z.2.1)] at q;exact q
  ·have oO:¬ (x.kind = "rest"\/y.kind = "rest"\/(x.kind = "read"/\y.kind = "read")):=by
    rintro(z | z | z)
    ·exact e1 (by rw[z])
    ·exact e2 (by rw[z])
    ·exact e3 (by rw[z.1])
   refine⟨_,h1,_,rfl,_,h2,_,rfl,_,h2,_,rfl,_,rfl,_,rfl,_,rfl,bu (λc1=>⟨_,h2,_,rfl,_,h1,_,rfl,_,h1,_,rfl,_,rfl,_,rfl,_,rfl,?_⟩) (λc1=>?_)⟩
   ·have e:decide (¬ (x.kind = "rest"\/y.kind = "rest"\/(x.kind = "read"/\y.kind = "read"))/\x.first<y.first+y.many/\y.first<x.first+x.many)=decide (y.first<x.first+x.many):=by
     rw[decide_eq_decide];exact⟨λz=>z.2.2,λz=>⟨oO,c1,z⟩⟩
    rw[e] at q;exact q
   ·rw[decide_eq_false (λz=>c1 z.2.1)] at q;exact q
theorem SE(T:Tx K mg A):a_ P w K mg base bw 2 A.uh A.um ["behind"] (Pj K):=by
 have iz:=wO (P:=P) (w:=w) (base:=base) T;refine T.AK.ok tR (λvs H Q E h=>?_) (λaM Ar outer s H vs Q E hr h=>?_)
 ·obtain⟨b,ns,rfl,_⟩:=h
  rfl
 ·obtain⟨b,ns,rfl,hS,hR,q⟩:=h;refine⟨_,(az (aX (i:=1) tR.nd rfl (Or.inl rfl) (xQ xT aj))
   (aF (cR PassesOwn.never rfl (rM (pv 0)) (bH (i:=2) tR.nd rfl (Or.inl rfl))
   (az (cg (aL iz (hr.mono (by first | decide | lia)) rfl T.jz T.iX.kp T.jy .nil aK (aa (pv 2) (aa (aA bF (pv 1) aj) (aa (dR (v:=.int 99) rfl T.I0 ⟨_,rfl⟩) (aa bC ao))))))
   (aF (aX (i:=1) tR.nd rfl (Or.inl rfl) (pv 2))))))),?_⟩
  walk_at "rdm";refine rt b (ns.map V.int) (λi σ H'=>∃x,σ = [some (.ref b),some (.int (pN (-1) ns i)),x]/\H' = H) (λQ q=>⟨_,rfl,q⟩) hS ⟨none,rfl,rfl⟩ (by rintro i σ H' _ ⟨x,rfl,rfl⟩;exact hS) ?_ ?_
  ·rintro i x σ H' N hN hx ⟨x0,rfl,rfl⟩;obtain⟨n,hn,rfl⟩:=gF hx;have st:=hR.step hn;walk_at "rdm";exact⟨n,_,99,_,rfl,st.1,st.2,hN _ _ ⟨some (.int n),by rw[Pf hn],rfl⟩⟩
  ·rintro σ H' ⟨x0,rfl,rfl⟩;walk_at "rdm";exact q
theorem SG(T:Tx K mg A):a_ P w K mg base bw 2 A.uL A.uM ["asks", "number"] (PU K A.bx):=by
 have SH:=Sl (P:=P) (w:=w) (base:=base) T;refine T.AZ.ok G6 (λvs H Q E h=>?_) (λaM Ar outer s H vs Q E hr h=>?_)
 ·obtain⟨la,ps,qs,k,q',rfl,_⟩:=h
  rfl
 ·obtain⟨la,ps,qs,k,q',rfl,ha,hk,hn,bl,q⟩:=h;refine⟨_,(az (aX (i:=2) G6.nd rfl (Or.inr rfl) (aT cD (pv 0) (pv 1) (λ_ _=>rfl)))
   (aF (bD (iJ kY rfl T.gn boot_tuple (aa (sF (N:=["other", "ask", "asks"]) (nt:=1) (fv:=[2,0]) (cI.of rfl rfl (by rfl) (by rfl) (by repeat (first | exact trivial | refine⟨rfl,?_⟩)) (by rfl) (by rfl) (by rfl) (by decide) (by decide +kernel)) rfl (iG rfl T.dP (aa (pv 1) ao)) (λC s H fp=>(bH (i:=0) (show List.Nodup (["other", "ask", "asks"]:List Str) by decide +kernel) rfl (Or.inl rfl))) (λC s H fp=>(k8 (PW.pt (eK (aR (FW (K:=K) rfl) (pv 0) (PN (K:=K) rfl (pv 1) rfl) rfl) (fh (nY (aL SH (hr.mono (by first | decide | lia)) rfl T.Hw T.AU.kp T.Hv .nil aK (aa (pv 1) (aa (aT (lA (K:=K) rfl) (pv 2) (pv 0) (λ_ _=>rfl)) ao))))))))) (λC s H fp=>(pv 0))) ao))))),?_⟩
  walk_at "rdt";obtain⟨p,m,b,dx,e1,a1⟩:=ha.at hk;have Jm:=(List.getElem?_eq_some_iff.mp hk).1;refine⟨_,aD.of ha.l,_,cU e1,?_⟩;obtain⟨pf,BQ,BR⟩:∃pf:Nat->Bool,sZ qs k=((List.range k).filter pf).map (λ(j:Nat)=>(j:Int))/\∀(j:Nat) (q0:Ak),qs[j]? = some q0->pf j=(decide ((j:Int)∈q'.behind) || kg q' q0):=⟨_,rfl,λj q0 e=>by rw[hk,e]⟩
  have BS:∀i,((List.range i).filter pf).length<=i:=λi=>by have:=List.length_filter_le pf (List.range i);simpa using this
  refine pM (k:Int) (λD i ys au H2=>∃(u:Option V),ys=((List.range i).filter pf).map (λ(j:Nat)=>V.int (j:Int))/\au = [u,some (.ref p),some (.ref la)]/\H2=upd H D (.lst ys)/\H D=none/\i<=k) (λQ q=>?_) (by lia) (by lia) ?_ ?_ ?_ ?_
  ·walk_at "rdm";exact q
  ·intro D hD;exact⟨none,rfl,rfl,rfl,hD,Nat.zero_le _⟩
  ·rintro D i ys au H2 ⟨u,rfl,rfl,rfl,g3,g4⟩;exact⟨aq,gB (by rw[List.length_map];have:=BS i;lia)⟩
  ·rintro D i ys au H2 N hN hi ⟨u,rfl,rfl,rfl,g3,g4⟩;have gD:i<k:=by simpa using hi
   have qP:i<qs.length:=by lia
   have s1:=ah.put (o:=HO.lst (((List.range i).filter pf).map (λ(j:Nat)=>V.int (j:Int)))) g3;have Jo:=ha.same s1;have lX:=a1.same s1;obtain⟨p0,m0,b0,qQ,e3,a2⟩:=Jo.at (List.getElem?_eq_getElem qP);have lY:=BR i _ (List.getElem?_eq_getElem qP);have yes:pf i=true->((List.range i).filter pf).map (λ(j:Nat)=>V.int (j:Int))++[V.int (i:Int)] = ((List.range (i+1)).filter pf).map (λ(j:Nat)=>V.int (j:Int)):=λz=>by
    rw[List.range_succ,List.filter_append,List.map_append,show List.filter pf [i] = [i] by simp[z]];rfl
   have no:pf i=false->((List.range i).filter pf).map (λ(j:Nat)=>V.int (j:Int))=((List.range (i+1)).filter pf).map (λ(j:Nat)=>V.int (j:Int)):=λz=>by
    rw[List.range_succ,List.filter_append,show List.filter pf [i] = [] by simp[z],List.append_nil]
   walk_at "rdm";refine⟨_,_,_,lX.o,T.nk,T.qC,_,rfl,_,rfl,_,.inr (aJ.of lX.bh),rfl,FU _,?_⟩;rw[zh];refine bu (λh1=>?_) (λh1=>⟨_,aD.of Jo.l,_,cU e3,_,_,_,_,_,_,_,_,_,_,rfl,lX,a2,_,rfl,bu (λh2=>⟨aq,?_⟩) (λh2=>?_)⟩)
   ·have z:pf i=true:=by rw[lY,h1];rfl
    rw[yes z];exact hN _ _ _ ⟨_,rfl,rfl,rfl,g3,by lia⟩
   ·have z:pf i=true:=by rw[lY,h2,Bool.or_true]
    rw[l7,yes z];exact hN _ _ _ ⟨_,rfl,rfl,rfl,g3,by lia⟩
   ·have z:pf i=false:=by
     rw[lY];cases h3:kg q' qs[i] with
     | true=>exact absurd h3 h2
     | false=>simpa using h1
    rw[no z];exact hN _ _ _ ⟨_,rfl,rfl,rfl,g3,by lia⟩
  ·rintro D ys au H2 ⟨u,rfl,rfl,rfl,g3,g4⟩;simp only[Int.toNat_natCast] at *
   walk_at "rdm";have s1:=ah.put (o:=HO.lst (((List.range k).filter pf).map (λ(j:Nat)=>V.int (j:Int)))) g3;refine⟨_,.inl ⟨aD.of aq,λl hl=>q l _ (s1.trans (ah.put hl)) (s1.free hl) ?_⟩⟩;rw[aq,BQ,List.map_map]
   rfl
theorem SI(T:Tx K mg A):a_ P w K mg base bw 2 A.uT A.uU ["swing", "rings"] (Oo K):=by
 have SJ:=Ss (P:=P) (w:=w) (base:=base) T;refine T.A3.ok G7 (λvs H Q E h=>?_) (λaM Ar outer s H vs Q E hr h=>?_)
 ·obtain⟨a,sw,n,rfl,_⟩:=h
  rfl
 ·obtain⟨a,sw,n,rfl,hS,ok,hn,q⟩:=h;refine⟨_,(az (bA (aR fR (bI dG rfl T.c9 boot_len (aa (pv 0) ao)) (pv 1) (aP _)) fY bz)
   (az (bA (aR fR (aT cD (pv 0) aj (λ_ _=>rfl)) aj (aP _)) fY bz)
   (az (cR PassesOwn.never rfl (kQ rfl T.dP (aa aj (aa (pv 1) ao))) (bH (i:=2) G7.nd rfl (Or.inl rfl))
   (az (bA (PW.pt (eK (aR eN (aT cD (pv 0) (pv 2) (λ_ _=>rfl)) aj (aP _)) (fh (aR gf (aT cD (pv 0) (pv 2) (λ_ _=>rfl)) (dR (v:=.int 1000000000) rfl T.By ⟨_,rfl⟩) (aP _))))) fY bz)
   (aF (bA (aR eN (aT cD (pv 0) (pv 2) (λ_ _=>rfl)) (aT cD (pv 0) (aA dU (pv 2) aj) (λ_ _=>rfl)) (aP _)) fY bz))))
   (aF (cg (aL SJ (hr.mono (by first | decide | lia)) rfl T.HV T.A4.kp T.HU .nil aK (aa (pv 0) ao))))))),?_⟩
  walk_at "rdm";have hl:=ok.len;have h2:=ok.two;refine⟨_,.inl hS,by simpa using hl,_,hS,_,iM (by lia) (by lia),rfl,by rw[show (0:Int).toNat=0 from rfl,ok.z],?_⟩
  refine lB 1 n (λi σ H'=>∃r,σ = [some (.ref a),some (.int n),r]/\H' = H) (λQ q=>?_) (by lia) (by lia) (by lia) (by lia) ⟨none,rfl,rfl⟩ ?_ ?_
  ·walk_at "rdm";exact q
  ·rintro i σ H' N hN hi ⟨r,rfl,rfl⟩;walk_at "rdm";have e1:((1:Int)+(i:Int)).toNat=1+i:=by lia
   have e2:((1:Int)+(i:Int) - 1).toNat=1+i - 1:=by lia
   have g:=ok.pos (1+i) (by lia) (by lia)
   have g2:=ok.up (1+i) (by lia) (by lia)
   refine⟨_,hS,_,iM (by lia) (by lia),?_⟩
   walk_at "rdm";rw[e1];refine⟨by lia,_,hS,_,iM (by lia) (by lia),?_⟩
   walk_at "rdm";rw[e1];refine⟨by lia,_,hS,_,iM (by lia) (by lia),_,hS,_,iM (by lia) (by lia),?_⟩
   walk_at "rdm";rw[e1,e2];exact⟨by lia,hN _ _ ⟨_,rfl,rfl⟩⟩
  ·rintro σ H' ⟨r,rfl,rfl⟩;walk_at "rdm";exact⟨a,sw,n,rfl,hS,ok,hn,q⟩
theorem SK(T:Tx K mg A):a_ P w K mg base bw 2 A.vj A.vm ["_law_a", "_law_b"] (OH K):=by
 have bE:=lW (P:=P) (w:=w) (base:=base) T;refine T.A_.ok qa (λvs H Q E h=>?_) (λaM Ar outer s H vs Q E hr h=>?_)
 ·obtain⟨a,b,rfl,_⟩:=h
  rfl
 ·obtain⟨a,b,rfl,q⟩:=h;refine⟨_,(az (bA (aR b7 (aA bG (aL bE (hr.mono (by first | decide | lia)) rfl T.bL T.bJ.kp T.bK .nil aK (aa (pv 1) (aa aj ao))) aj) aj (aP _)) (aF (bD (cH (aa (dg (aa (aA bF aj (aA bG (aL bE (hr.mono (by first | decide | lia)) rfl T.bL T.bJ.kp T.bK .nil aK (aa (pv 0) (aa aj ao))) aj)) (aa (aA bF aj (aA bG (aL bE (hr.mono (by first | decide | lia)) rfl T.bL T.bJ.kp T.bK .nil aK (aa (pv 1) (aa aj ao))) aj)) ao))) ao)))) bz)
   (az (aX (i:=2) qa.nd rfl (Or.inl rfl) (aA bF aj (aA bG (aL bE (hr.mono (by first | decide | lia)) rfl T.bL T.bJ.kp T.bK .nil aK (aa (pv 0) (aa aj ao))) aj)))
   (az (bA (aR b7 (aA bG (aL bE (hr.mono (by first | decide | lia)) rfl T.bL T.bJ.kp T.bK .nil aK (aa (pv 0) (aa aj ao))) aj) aj (aP _)) (aF (aX (i:=2) qa.nd rfl (Or.inl rfl) aj)) bz)
   (az (aX (i:=3) qa.nd rfl (Or.inl rfl) (cH (aa (dg (aa (aA bF aj (aA bG (aL bE (hr.mono (by first | decide | lia)) rfl T.bL T.bJ.kp T.bK .nil aK (aa (pv 0) (aa aj ao))) aj)) (aa (aA bF aj (aA bG (aL bE (hr.mono (by first | decide | lia)) rfl T.bL T.bJ.kp T.bK .nil aK (aa (pv 1) (aa aj ao))) aj)) ao))) ao)))
   (az (cR PassesOwn.never rfl (kQ rfl T.dP (aa aj (aa (pv 2) ao))) (bH (i:=4) qa.nd rfl (Or.inl rfl))
   (aF (cg (gY PySem.F.plainAttrs_list PySem.F.slot_list_append PySem.F.type_list_append gZ (pv 3) (aa (dg (aa (aA bF aj (aA bG (aL bE (hr.mono (by first | decide | lia)) rfl T.bL T.bJ.kp T.bK .nil aK (aa (pv 0) (aa (aA bF aj (pv 4)) ao))) aj)) (aa (aA bF aj (aA bG (aL bE (hr.mono (by first | decide | lia)) rfl T.bL T.bJ.kp T.bK .nil aK (aa (pv 1) (aa (pv 4) ao))) aj)) ao))) ao)))))
   (aF (bD (pv 3)))))))),?_⟩
  wp_walk using cF;have m3:0<=mix a 0 % 3/\mix a 0 % 3<3:=⟨Int.emod_nonneg _ (by decide),Int.emod_lt_of_pos _ (by decide)⟩
  refine bu (λh8=>?_) (λh8=>bu (λh9=>?_) (λh9=>?_))
  ·intro p hp l hl;have gG:l≠p:=(cQ aq hl).symm;have fT:H l=none:=by rw[aG gG] at hl;exact hl
   refine q l [p] _ (ah.put2 (ah.put hp) fT) fT (by simpa using hp) ?_
   unfold lD;rw[if_pos h8];refine⟨aq,rfl,λi t x e1 e2=>?_⟩;cases i with
   | zero =>
    simp at e1 e2;subst e1 e2;rw[aG gG.symm,aq]
   | succ i=>simp at e1
  ·skip
   intro p hp l hl;have gG:l≠p:=(cQ aq hl).symm;have fT:H l=none:=by rw[aG gG] at hl;exact hl
   have jD:Zn (upd (upd H p (HO.tup [V.int (2+mix a 2 % 2),V.int (1+mix b 0 % 8)])) l (HO.lst [V.ref p])) l [p] [(2+mix a 2 % 2,1+mix b 0 % 8)]:=by
    refine⟨aq,rfl,λi t x e1 e2=>?_⟩;cases i with
    | zero =>
     simp at e1 e2;subst e1 e2;rw[aG gG.symm,aq]
    | succ i=>simp at e1
   refine lB 1 (5) (λj σ H'=>∃kk ts,σ = [some (.int a),some (.int b),some (.int (5)),some (.ref l),kk]/\ah H H'/\(∀t∈ts,H t=none)/\Zn H' l ts ((2+mix a 2 % 2,1+mix b 0 % 8)::(List.range j).map λ(k:Nat)=>(1+mix a (2+(1+(k:Int))) % 3,1+mix b (1+(k:Int)) % 8)))
    (λQ q=>?_) (by lia) (by lia) (by lia) (by lia) ⟨none,[p],rfl,ah.put2 (ah.put hp) fT,by simpa using hp,by simpa using jD⟩ ?_ ?_
   ·walk_at "rdm";exact q
   ·rintro j σ H' N hN hj ⟨kk,ts,rfl,hs,iy,hz⟩;wp_walk using cF;refine⟨⟨_,hz.sq⟩,by lia,by lia,by lia,by lia,λp1 cG=>⟨_,ah.put cG _ _ hz.l,?_,hN _ _ ⟨_,ts++[p1],rfl,ah.put2 (hs.trans (ah.put cG)) fT,?_,?_⟩⟩⟩
    ·have:=hz.n;simp only[List.length_map,List.length_cons,List.length_range] at this ⊢;lia
    ·intro t ht;rcases List.mem_append.mp ht with ht | ht
     ·exact iy t ht
     ·rw[List.mem_singleton.mp ht];exact hs.free cG
    ·have:=hz.snoc cG (1+mix a (2+(1+(j:Int))) % 3) (1+mix b (1+(j:Int)) % 8);rw[List.range_succ,List.map_append,← List.cons_append];exact this
   ·rintro σ H' ⟨kk,ts,rfl,hs,iy,hz⟩;walk_at "rdm";refine q _ ts _ hs fT iy ?_;unfold lD;rw[if_neg h8,if_pos h9];exact hz
  ·skip
   intro p hp l hl;have gG:l≠p:=(cQ aq hl).symm;have fT:H l=none:=by rw[aG gG] at hl;exact hl
   have jD:Zn (upd (upd H p (HO.tup [V.int (2+mix a 2 % 2),V.int (1+mix b 0 % 8)])) l (HO.lst [V.ref p])) l [p] [(2+mix a 2 % 2,1+mix b 0 % 8)]:=by
    refine⟨aq,rfl,λi t x e1 e2=>?_⟩;cases i with
    | zero =>
     simp at e1 e2;subst e1 e2;rw[aG gG.symm,aq]
    | succ i=>simp at e1
   refine lB 1 (1+mix a 0 % 3) (λj σ H'=>∃kk ts,σ = [some (.int a),some (.int b),some (.int (1+mix a 0 % 3)),some (.ref l),kk]/\ah H H'/\(∀t∈ts,H t=none)/\Zn H' l ts ((2+mix a 2 % 2,1+mix b 0 % 8)::(List.range j).map λ(k:Nat)=>(1+mix a (2+(1+(k:Int))) % 3,1+mix b (1+(k:Int)) % 8)))
    (λQ q=>?_) (by lia) (by lia) (by lia) (by lia) ⟨none,[p],rfl,ah.put2 (ah.put hp) fT,by simpa using hp,by simpa using jD⟩ ?_ ?_
   ·walk_at "rdm";exact q
   ·rintro j σ H' N hN hj ⟨kk,ts,rfl,hs,iy,hz⟩;wp_walk using cF;refine⟨⟨_,hz.sq⟩,by lia,by lia,by lia,by lia,λp1 cG=>⟨_,ah.put cG _ _ hz.l,?_,hN _ _ ⟨_,ts++[p1],rfl,ah.put2 (hs.trans (ah.put cG)) fT,?_,?_⟩⟩⟩
    ·have:=hz.n;simp only[List.length_map,List.length_cons,List.length_range] at this ⊢;lia
    ·intro t ht;rcases List.mem_append.mp ht with ht | ht
     ·exact iy t ht
     ·rw[List.mem_singleton.mp ht];exact hs.free cG
    ·have:=hz.snoc cG (1+mix a (2+(1+(j:Int))) % 3) (1+mix b (1+(j:Int)) % 8);rw[List.range_succ,List.map_append,← List.cons_append];exact this
   ·rintro σ H' ⟨kk,ts,rfl,hs,iy,hz⟩;walk_at "rdm";refine q _ ts _ hs fT iy ?_;unfold lD;rw[if_neg h8,if_neg h9];exact hz
theorem SM(T:Tx K mg A):a_ P w K mg base bw 2 A.vp A.vq ["_law_zones_here", "_law_cell"] (OJ K):=by
 have bE:=lW (P:=P) (w:=w) (base:=base) T;refine T.Bc.ok lP (λvs H Q E h=>?_) (λaM Ar outer s H vs Q E hr h=>?_)
 ·obtain⟨a,ts,z,c,rfl,_⟩:=h
  rfl
 ·obtain⟨a,ts,z,c,rfl,hz,ok,q⟩:=h;refine⟨_,(az (aX (i:=2) lP.nd rfl (Or.inl rfl) aj)
   (az (cR PassesOwn.never rfl (fZ (pv 0)) (jL rfl (fj (bH (i:=3) lP.nd rfl (Or.inl rfl)) (fj (bH (i:=4) lP.nd rfl (Or.inl rfl)) jK)))
   (aF (aX (i:=2) lP.nd rfl (Or.inl rfl) (aA jf (pv 2) (pv 4)))))
   (az (aX (i:=5) lP.nd rfl (Or.inl rfl) aj)
   (az (bA (aR b7 (aA bG (aL bE (hr.mono (by first | decide | lia)) rfl T.bL T.bJ.kp T.bK .nil aK (aa (pv 1) (aa aj ao))) aj) aj (aP _)) (aF (aX (i:=5) lP.nd rfl (Or.inl rfl) (aA rP (aA mz aj aj) (pv 2)))) bz)
   (aF (bD (aA jf (pv 2) (aA bF aj (aA bG (aL bE (hr.mono (by first | decide | lia)) rfl T.bL T.bJ.kp T.bK .nil aK (aa (pv 1) (aa aj ao))) (pv 5)))))))))),?_⟩
  wp_walk using cF;have p7:=ok.l5;have bd:∀i,1<=c7 (z.take i)/\c7 (z.take i)<=777600000:=λi=>by
   have h1:=sP (m:=60) (by decide) (z.take i) λp hp=>(ok.r p (List.mem_of_mem_take hp)).2.2
   have h2:=Ft (m:=60) (by decide) (show (z.take i).length<=5 by rw[List.length_take];lia)
   have e:(60:Int) ^ 5=777600000:=by decide
   lia
  refine rl a (ts.map V.ref) (λi σ H'=>∃r d,σ = [some (.ref a),some (.int c),some (.int (c7 (z.take i))),r,d,none]/\H' = H) (λQ q=>⟨_,rfl,q⟩) hz.sq ⟨none,none,rfl,rfl⟩ (by rintro i σ H' _ ⟨r,d,rfl,rfl⟩;exact hz.sq) ?_ ?_
  ·rintro i x σ H' N hN hx ⟨r,d,rfl,rfl⟩;obtain⟨t,p,rfl,hp,ht⟩:=hz.at hx;refine jW (aJ.of ht) rfl ?_;walk_at "rdm";have:=bd i;refine⟨.inl ⟨by lia,by lia⟩,hN _ _ ⟨some (.int p.1),some (.int p.2),?_,rfl⟩⟩
   rw[take_succ_get hp,OE]
  ·rintro σ H' ⟨r,d,rfl,rfl⟩;rw[lenZ hz.n,List.take_length];have hb:=bd z.length;rw[List.take_length] at hb;wp_walk using cF;unfold lE at q;have hq:1<=1000000000 / c7 z:=(Int.le_ediv_iff_mul_le (by lia)).mpr (by lia)
   refine bu (λh=>?_) (λh=>?_)
   ·rw[if_pos h] at q;exact⟨by decide,by lia,by lia,by lia,.inl ⟨by lia,by lia⟩,q⟩
   ·rw[if_neg h] at q;exact⟨.inl ⟨by lia,by lia⟩,q⟩
theorem SN(T:Tx K mg A):a_ P w K mg base bw 2 A.vt A.vA ["_law_many", "_law_cell"] (OL K):=by
 have bE:=lW (P:=P) (w:=w) (base:=base) T;refine T.Bd.ok lQ (λvs H Q E h=>?_) (λaM Ar outer s H vs Q E hr h=>?_)
 ·obtain⟨m,c,rfl,_⟩:=h
  rfl
 ·obtain⟨m,c,rfl,h2,Zw,q⟩:=h;refine⟨_,(az (bA (aR b7 (aA bG (aL bE (hr.mono (by first | decide | lia)) rfl T.bL T.bJ.kp T.bK .nil aK (aa (pv 1) (aa aj ao))) aj) aj (aP _)) (az (aX (i:=2) lQ.nd rfl (Or.inl rfl) (aA bF aj (aA bG (aL bE (hr.mono (by first | decide | lia)) rfl T.bL T.bJ.kp T.bK .nil aK (aa (pv 1) (aa aj ao))) aj)))
   (az (bA (aR b7 (aA bG (aL bE (hr.mono (by first | decide | lia)) rfl T.bL T.bJ.kp T.bK .nil aK (aa (pv 1) (aa aj ao))) aj) aj (aP _)) (aF (aX (i:=2) lQ.nd rfl (Or.inl rfl) (aA bF aj (aA bG (aL bE (hr.mono (by first | decide | lia)) rfl T.bL T.bJ.kp T.bK .nil aK (aa (pv 1) (aa aj ao))) (aA mz aj aj))))) bz)
   (az (aX (i:=3) lQ.nd rfl (Or.inl rfl) (cH (aa aj (aa (pv 2) ao))))
   (az (cR PassesOwn.never rfl (kQ rfl T.dP (aa aj (aa (pv 0) ao))) (bH (i:=4) lQ.nd rfl (Or.inl rfl))
   (az (aX (i:=2) lQ.nd rfl (Or.inl rfl) (aA dU (pv 2) (aA rP (aA bG (aL bE (hr.mono (by first | decide | lia)) rfl T.bL T.bJ.kp T.bK .nil aK (aa (pv 1) (aa (aA bF (pv 4) aj) ao))) (aA bF (pv 2) aj)) aj)))
   (aF (cg (gY PySem.F.plainAttrs_list PySem.F.slot_list_append PySem.F.type_list_append gZ (pv 3) (aa (aA bF (aT cD (pv 3) (xQ xT aj) (λ_ _=>rfl)) (pv 2)) ao))))))
   (aF (bD (pv 3))))))) bz)
   (az (aX (i:=5) lQ.nd rfl (Or.inr rfl) (aA bF aj (aA bG (aL bE (hr.mono (by first | decide | lia)) rfl T.bL T.bJ.kp T.bK .nil aK (aa (pv 1) (aa aj ao))) (aA mz aj aj))))
   (aF (bD (aA mF (cH (aa aj ao)) (bI N7 rfl T.wF boot_sorted (aa (sF (N:=["_law_k", "_law_least", "_law_cell"]) (nt:=1) (fv:=[5,1]) (cI.of rfl rfl (by rfl) (by rfl) (by repeat (first | exact trivial | refine⟨rfl,?_⟩)) (by rfl) (by rfl) (by rfl) (by decide) (by decide +kernel)) rfl (kQ rfl T.dP (aa aj (aa (pv 0) ao))) (λC s H fp=>(bH (i:=0) (show List.Nodup (["_law_k", "_law_least", "_law_cell"]:List Str) by decide +kernel) rfl (Or.inl rfl))) (λC s H fp=>oZ) (λC s H fp=>(aA bF (pv 1) (aA bG (aL bE (hr.mono (by first | decide | lia)) rfl T.bL T.bJ.kp T.bK .nil aK (aa (pv 2) (aa (aA bF (pv 0) aj) ao))) (aA bF (pv 1) aj))))) ao))))))),?_⟩
  wp_walk using cF;refine bu (λh8=>bu (λh9=>⟨by decide,?_⟩) (λh9=>?_)) (λh8=>⟨by decide,?_⟩)
  ·skip
   intro l hl;have jC:1<=1+mix c 1 % 10000000/\1+mix c 1 % 10000000<=10000000:=⟨by have:=Int.emod_nonneg (mix c 1) (show (10000000:Int)≠0 by decide);lia,by have:=Int.emod_lt_of_pos (mix c 1) (show (0:Int)<10000000 by decide);lia⟩
   generalize 1+mix c 1 % 10000000=s0 at jC ⊢;refine lB 2 m (λj σ H'=>∃kk,σ = [some (.int m),some (.int c),some (.int (cM c s0 j)),some (.ref l),kk,none]/\ah H H'/\H' l=some (.lst (((List.range (2+j)).map (dN c s0)).map V.int)))
    (λQ q=>?_) (by lia) (by lia) (by lia) (by lia) ⟨none,rfl,ah.put hl,?_⟩ ?_ ?_
   ·walk_at "rdm";exact q
   ·rw[aq];simp[List.range_succ,dN,cM]
   ·rintro j σ H' N hN hj ⟨kk,rfl,hs,h1⟩;have b:=lF c jC.1 j;wp_walk using cF;refine⟨by lia,by lia,by lia,⟨_,aD.of h1⟩,_,aD.of h1,_,E4 (by simp;lia),?_⟩
    wp_walk using h1;refine⟨by simp;lia,hN _ _ ⟨some (.int (2+(j:Int))),?_,ah.put2 hs hl,?_⟩⟩
    ·rw[cM]
    ·rw[aq,← Nat.add_assoc,List.range_succ,List.map_append,List.map_append,List.length_range,_L.range_getD (by lia)]
     congr 4;simp only[List.map_cons,List.map_nil,List.cons.injEq,and_true,V.int.injEq];obtain⟨i,e⟩:∃i,2+j=i+1:=⟨1+j,by lia⟩
     rw[show 2+j - 1=1+j by lia,show 2+j=1+j+1 by lia,dN,show 1+j=j+1 by lia]
     rw[cM]
   ·rintro σ H' ⟨kk,rfl,hs,h1⟩;walk_at "rdm";have e:2+(m - 2).toNat=m.toNat:=by lia
    rw[e] at h1;have so:=Fp c jC.1 (show s0<=10000000 by lia) (n:=m.toNat) (by lia) (by lia)
    rw[show ((m.toNat:Nat):Int)=m by lia] at so
    exact q _ _ _ hs hl h1 so
  ·skip
   intro l hl;have jC:1<=1+mix c 1 % 1000/\1+mix c 1 % 1000<=1000:=⟨by have:=Int.emod_nonneg (mix c 1) (show (1000:Int)≠0 by decide);lia,by have:=Int.emod_lt_of_pos (mix c 1) (show (0:Int)<1000 by decide);lia⟩
   generalize 1+mix c 1 % 1000=s0 at jC ⊢;refine lB 2 m (λj σ H'=>∃kk,σ = [some (.int m),some (.int c),some (.int (cM c s0 j)),some (.ref l),kk,none]/\ah H H'/\H' l=some (.lst (((List.range (2+j)).map (dN c s0)).map V.int)))
    (λQ q=>?_) (by lia) (by lia) (by lia) (by lia) ⟨none,rfl,ah.put hl,?_⟩ ?_ ?_
   ·walk_at "rdm";exact q
   ·rw[aq];simp[List.range_succ,dN,cM]
   ·rintro j σ H' N hN hj ⟨kk,rfl,hs,h1⟩;have b:=lF c jC.1 j;wp_walk using cF;refine⟨by lia,by lia,by lia,⟨_,aD.of h1⟩,_,aD.of h1,_,E4 (by simp;lia),?_⟩
    wp_walk using h1;refine⟨by simp;lia,hN _ _ ⟨some (.int (2+(j:Int))),?_,ah.put2 hs hl,?_⟩⟩
    ·rw[cM]
    ·rw[aq,← Nat.add_assoc,List.range_succ,List.map_append,List.map_append,List.length_range,_L.range_getD (by lia)]
     congr 4;simp only[List.map_cons,List.map_nil,List.cons.injEq,and_true,V.int.injEq];obtain⟨i,e⟩:∃i,2+j=i+1:=⟨1+j,by lia⟩
     rw[show 2+j - 1=1+j by lia,show 2+j=1+j+1 by lia,dN,show 1+j=j+1 by lia]
     rw[cM]
   ·rintro σ H' ⟨kk,rfl,hs,h1⟩;walk_at "rdm";have e:2+(m - 2).toNat=m.toNat:=by lia
    rw[e] at h1;have so:=Fp c jC.1 (show s0<=10000000 by lia) (n:=m.toNat) (by lia) (by lia)
    rw[show ((m.toNat:Nat):Int)=m by lia] at so
    exact q _ _ _ hs hl h1 so
  ·intro l0 dw;have hL:1<=1+mix c 1 % 100000000/\1+mix c 1 % 100000000<=100000000:=⟨by have:=Int.emod_nonneg (mix c 1) (show (100000000:Int)≠0 by decide);lia,by have:=Int.emod_lt_of_pos (mix c 1) (show (0:Int)<100000000 by decide);lia⟩
   generalize 1+mix c 1 % 100000000=L at hL ⊢;have s0:=ah.put (o:=.lst [V.int 0]) dw;refine Fd 1 m (λD i ys au H2=>∃ns:List Int,ys=ns.map V.int/\ns.length=i/\(∀x∈ns,L<=x/\x<=2*L)/\H2 D=some (.lst ys)/\ah (upd H l0 (.lst [V.int 0])) H2/\upd H l0 (.lst [V.int 0]) D=none/\i<=60/\∃u,au = [u,some (.int L),some (.int c)])
    (λQ q=>?_) (by lia) (by lia) (by lia) (by lia) ?_ ?_ ?_ ?_
   ·walk_at "rdm";exact q
   ·intro D hD;exact⟨[],rfl,rfl,(by intro x hx;cases hx),aq,ah.put hD,hD,by lia,none,rfl⟩
   ·rintro D i ys au H2 ⟨ns,rfl,e0,_,e1,e2,e3,e4,_⟩;exact⟨e1,gB (by rw[List.length_map];lia)⟩
   ·rintro D i ys au H2 N hN hi ⟨ns,rfl,e0,eb,e1,e2,e3,e4,u,rfl⟩;wp_walk using cF;have b1:=Int.emod_nonneg (mix c (1+(i:Int)+2)) (show L+1≠0 by lia)
    have b2:=Int.emod_lt_of_pos (mix c (1+(i:Int)+2)) (show 0<L+1 by lia)
    refine⟨by lia,by lia,by lia,e1,hN _ _ _ ⟨ns++[L+mix c (1+(i:Int)+2) % (L+1)],by rw[List.map_append];rfl,by simp[e0],?_,aq,ah.put2 e2 e3,e3,by lia,_,rfl⟩⟩
    intro x hx;rcases List.mem_append.mp hx with hx | hx
    ·exact eb x hx
    ·rw[List.mem_singleton.mp hx];generalize mix c (1+(i:Int)+2) % (L+1)=y at b1 b2 ⊢;lia
   ·rintro D ys au H2 ⟨ns,rfl,e0,eb,e1,e2,e3,e4,u,rfl⟩;walk_at "rdm";refine⟨ns,aD.of e1,by lia,λl jq hl hp hs=>?_⟩
    have Jp:=e2 _ _ aq;have jw:l0≠l:=cQ Jp hl;refine⟨[V.int 0],by rw[aG jw];exact Jp,?_,λp c_=>?_⟩
    ·have:=hp.length_eq;simp;lia
    ·have dJ:p≠l:=(cQ aq c_).symm;have SO:H2 p=none:=by rw[aG dJ] at c_;exact c_
     have hH:H p=none:=(s0.trans e2).free SO;have SQ:H l=none:=(s0.trans e2).free hl;have so:=OC hL.1 hL.2 (ns:=jq) (λx hx=>eb x (hp.mem_iff.mp hx)) hs (by rw[hp.length_eq];lia)
     rw[hp.length_eq,show ((ns.length+1:Nat):Int)=m by lia] at so
     exact q p (0::jq) _ (ah.put2 (ah.put2 (s0.trans e2) SQ) hH) hH (by rw[aq];rfl) so
theorem SR(T:Tx K mg A):a_ P w K mg base bw 2 A.vB A.vC ["_law_cell", "_law_many"] Py:=by
 have bE:=lW (P:=P) (w:=w) (base:=base) T;refine T.Bf.ok qb (λvs H Q E h=>?_) (λaM Ar outer s H vs Q E hr h=>?_)
 ·obtain⟨c,m,rfl,_⟩:=h
  rfl
 ·obtain⟨c,m,rfl,m0,m1,q⟩:=h;refine⟨_,(az (aX (i:=2) qb.nd rfl (Or.inl rfl) (cH ao))
   (az (cR PassesOwn.never rfl (iG rfl T.dP (aa (pv 1) ao)) (bH (i:=3) qb.nd rfl (Or.inl rfl))
   (az (aX (i:=4) qb.nd rfl (Or.inl rfl) (aA bG (aL bE (hr.mono (by first | decide | lia)) rfl T.bL T.bJ.kp T.bK .nil aK (aa (pv 0) (aa (aA bF aj (pv 3)) ao))) (aA bF (aA mz aj aj) aj)))
   (az (fU (bA (aR b7 (aA bG (aL bE (hr.mono (by first | decide | lia)) rfl T.bL T.bJ.kp T.bK .nil aK (aa (pv 0) (aa (aA bF aj (pv 3)) ao))) aj) aj (aP _)) (aF (aX (i:=4) qb.nd rfl (Or.inl rfl) (aT cD (cH (aa aj (aa aj (aa (aA mz aj aj) ao)))) (aA bG (pv 4) aj) (λ_ _=>rfl)))) bz))
   (aF (cg (gY PySem.F.plainAttrs_list PySem.F.slot_list_append PySem.F.type_list_append gZ (pv 2) (aa (pv 4) ao)))))))
   (aF (bD (pv 2))))),?_⟩
  wp_walk using cF;intro l hl;have sl:=ah.put (o:=.lst []) hl;refine Fc m (λi σ H'=>∃x y ms,σ = [some (.int c),some (.int m),some (.ref l),x,y]/\ah H H'/\H' l=some (.lst (ms.map V.int))/\ms.length=i/\i<=16/\∀x∈ms,0<=x/\x<=1000000000) (λQ q=>?_) (by lia) (by lia) ⟨none,none,[],rfl,sl,aq,rfl,by lia,(λ_ h=>nomatch h)⟩ ?_ ?_
  ·walk_at "rdm";exact q
  ·rintro i σ H' N hN hi ⟨x,y,ms,rfl,hs,h1,h2,h3,h4⟩;wp_walk using cF;have j1:=Int.emod_nonneg (mix c (40+(i:Int))) (show (1000000001:Int)≠0 by decide)
   have j2:=Int.emod_lt_of_pos (mix c (40+(i:Int))) (show (0:Int)<1000000001 by decide)
   generalize mix c (40+(i:Int)) % 1000000001=n at j1 j2 ⊢;have k0:=Int.emod_nonneg n (show (3:Int)≠0 by decide)
   have k1:=Int.emod_lt_of_pos n (show (0:Int)<3 by decide)
   refine⟨by lia,by lia,by decide,by lia,by lia,λσ H2=>∃n,σ = [some (.int c),some (.int m),some (.ref l),some (.int (i:Int)),some (.int n)]/\ah H' H2/\0<=n/\n<=1000000000,bu (λ_=>⟨by decide,λp np=>?_⟩) (λ_=>⟨n,rfl,ah.refl _,j1,by lia⟩),?_⟩
   ·have e3:([V.int 0,V.int 1,V.int 1000000000]:List V) = [0,1,1000000000].map V.int:=rfl;refine⟨_,aD.of aq,_,by rw[e3];exact iM k0 (by simpa using k1),?_⟩
    refine⟨_,rfl,ah.put np,?_,?_⟩
    ·have:n % 3=0\/n % 3=1\/n % 3=2:=by lia
     rcases this with e | e | e <;> rw[e] <;> decide
    ·have:n % 3=0\/n % 3=1\/n % 3=2:=by lia
     rcases this with e | e | e <;> rw[e] <;> decide
   ·rintro σ H2 ⟨n,rfl,s2,n0,n1⟩;walk_at "rdm";have Jq:=s2 _ _ h1;refine⟨⟨_,aD.of Jq⟩,_,Jq,by rw[List.length_map];lia,hN _ _ ⟨_,_,ms++[n],rfl,ah.put2 (hs.trans s2) hl,by rw[aq,List.map_append];rfl,by simp[h2],by lia,?_⟩⟩
    intro x hx;rcases List.mem_append.mp hx with hx | hx
    ·exact h4 x hx
    ·rw[List.mem_singleton.mp hx];exact⟨n0,n1⟩
  ·rintro σ H' ⟨x,y,ms,rfl,hs,h1,h2,h3,h4⟩;walk_at "rdm";exact q _ _ _ hs hl h1 (by lia) h4
theorem SS(T:Tx K mg A):a_ P w K mg base bw 2 A.vM A.vN ["_law_specs_here"] PX:=by
 have SV:=SD (P:=P) (w:=w) (base:=base) T;refine T.Bl.ok tY (λvs H Q E h=>?_) (λaM Ar outer s H vs Q E hr h=>?_)
 ·obtain⟨la,ts,qs,rfl,_⟩:=h
  rfl
 ·obtain⟨la,ts,qs,rfl,hs,hn,hb,q⟩:=h;refine⟨_,(az (aX (i:=1) tY.nd rfl (Or.inl rfl) (cH ao))
   (az (cR PassesOwn.never rfl (iG rfl T.dP (aa (bI dG rfl T.c9 boot_len (aa (pv 0) ao)) ao)) (bH (i:=2) tY.nd rfl (Or.inr rfl))
   (az (lg (i:=3) tY.nd rfl (Or.inl rfl) (N:=["_law_j", "_law_specs_here", "_law_k"]) (nt:=1) (fv:=[0,2]) (cI.of rfl rfl (by rfl) (by rfl) (by repeat (first | exact trivial | refine⟨rfl,?_⟩)) (by rfl) (by rfl) (by rfl) (by decide) (by decide +kernel)) rfl (iG rfl T.dP (aa (pv 2) ao)) (λC s H fp=>(bH (i:=0) (show List.Nodup (["_law_j", "_law_specs_here", "_law_k"]:List Str) by decide +kernel) rfl (Or.inl rfl))) (λC s H fp=>(k8 (PW.pt (eK (nY (aL SV (hr.mono (by first | decide | lia)) rfl T.II T.Bk.kp T.IG .nil aK (aa (aT (lA (K:=K) rfl) (pv 1) (pv 0) (λ_ _=>rfl)) (aa (aT (lA (K:=K) rfl) (pv 1) (pv 2) (λ_ _=>rfl)) ao)))) (fh (aR (FW (K:=K) rfl) (pv 0) (aT (mO (K:=K) rfl) (aT (lA (K:=K) rfl) (pv 1) (pv 2) (λ_ _=>rfl)) aj (λ_ _=>rfl)) rfl)))))) (λC s H fp=>(pv 0)))
   (aF (cg (gY PySem.F.plainAttrs_list PySem.F.slot_list_append PySem.F.type_list_append gZ (pv 1) (aa (iJ kY rfl T.gn boot_tuple (aa (pv 3) ao)) ao))))))
   (aF (bD (pv 1))))),?_⟩
  walk_at "rdt";intro l hl;have sl:=ah.put (o:=.lst []) hl;refine sM qs.length (λk σ H'=>∃(x1 x2:Option V) (us:List Addr),σ = [some (.ref la),some (.ref l),x1,x2]/\ah H H'/\(∀t∈us,H t=none)/\Zt H' l us ((List.range k).map (fz qs))) (λQ q=>?_) (by lia) ⟨none,none,[],rfl,sl,(λ_ h=>nomatch h),Zt.start⟩ ?_ ?_
  ·walk_at "rdm";exact⟨_,.inl (aD.of (sl _ _ hs.l)),by rw[List.length_map,hs.n];exact q⟩
  ·rintro k σ H' N hN hk ⟨x1,x2,us,rfl,s1,hu,hz⟩;have nH:=hs.same s1;obtain⟨t,m,b,e1,a1⟩:=nH.at (List.getElem?_eq_getElem hk);have bl:=hb _ (List.getElem_mem hk);obtain⟨pf,BQ,BR⟩:∃pf:Nat->Bool,fz qs k=((List.range k).filter pf).map (λ(j:Nat)=>(j:Int))/\∀(j:Nat) (q0:Sq),qs[j]? = some q0->pf j=(lH q0 qs[k] || decide ((j:Int)∈qs[k].behind)):=⟨_,rfl,λj q0 e=>by rw[List.getElem?_eq_getElem hk,e]⟩
   have BS:∀i,((List.range i).filter pf).length<=i:=λi=>by have:=List.length_filter_le pf (List.range i);simpa using this
   walk_at "rdm";refine pM (k:Int) (λD i ys au H2=>∃(u:Option V),ys=((List.range i).filter pf).map (λ(j:Nat)=>V.int (j:Int))/\au = [u,some (.ref la),some (.int (k:Int))]/\H2=upd H' D (.lst ys)/\H' D=none/\i<=k) (λQ q=>?_) (by lia) (by lia) ?_ ?_ ?_ ?_
   ·walk_at "rdm";exact q
   ·intro D hD;exact⟨none,rfl,rfl,rfl,hD,Nat.zero_le _⟩
   ·rintro D i ys au H2 ⟨u,rfl,rfl,rfl,g3,g4⟩;exact⟨aq,gB (by rw[List.length_map];have:=BS i;lia)⟩
   ·rintro D i ys au H2 N2 jB hi ⟨u,rfl,rfl,rfl,g3,g4⟩;have gD:i<k:=by simpa using hi
    have qP:i<qs.length:=by lia
    have s2:=ah.put (o:=HO.lst (((List.range i).filter pf).map (λ(j:Nat)=>V.int (j:Int)))) g3;have eo:=nH.same s2;have lX:=a1.same s2;obtain⟨t0,m0,b0,e3,a2⟩:=eo.at (List.getElem?_eq_getElem qP);have lY:=BR i _ (List.getElem?_eq_getElem qP);have yes:pf i=true->((List.range i).filter pf).map (λ(j:Nat)=>V.int (j:Int))++[V.int (i:Int)] = ((List.range (i+1)).filter pf).map (λ(j:Nat)=>V.int (j:Int)):=λz=>by
     rw[List.range_succ,List.filter_append,List.map_append,show List.filter pf [i] = [i] by simp[z]];rfl
    have no:pf i=false->((List.range i).filter pf).map (λ(j:Nat)=>V.int (j:Int))=((List.range (i+1)).filter pf).map (λ(j:Nat)=>V.int (j:Int)):=λz=>by
     rw[List.range_succ,List.filter_append,show List.filter pf [i] = [] by simp[z],List.append_nil]
    walk_at "rdm";refine⟨_,aD.of eo.l,_,cU e3,_,aD.of eo.l,_,cU e1,_,_,_,_,_,_,_,_,rfl,a2,lX,_,rfl,bu (λh1=>⟨aq,?_⟩) (λh1=>?_)⟩
    ·have z:pf i=true:=by rw[lY,h1];rfl
     rw[l7,yes z];exact jB _ _ _ ⟨_,rfl,rfl,rfl,g3,by lia⟩
    ·refine⟨_,aD.of eo.l,_,cU e1,_,rfl,_,aJ.of lX.o,_,rfl,_,rfl,_,.inr (aJ.of lX.bh),rfl,FU _,?_⟩;rw[zh];refine bu (λh2=>⟨aq,?_⟩) (λh2=>?_)
     ·have z:pf i=true:=by rw[lY,h2,Bool.or_true]
      rw[l7,yes z];exact jB _ _ _ ⟨_,rfl,rfl,rfl,g3,by lia⟩
     ·have z:pf i=false:=by
       rw[lY];cases h3:lH qs[i] qs[k] with
       | true=>exact absurd h3 h1
       | false=>simpa using h2
      rw[no z];exact jB _ _ _ ⟨_,rfl,rfl,rfl,g3,by lia⟩
   ·rintro D ys au H2 ⟨u,rfl,rfl,rfl,g3,g4⟩;simp only[Int.toNat_natCast] at *
    walk_at "rdm";have s2:=ah.put (o:=HO.lst (((List.range k).filter pf).map (λ(j:Nat)=>V.int (j:Int)))) g3;have ex:((List.range k).filter pf).map (λ(j:Nat)=>V.int (j:Int))=(fz qs k).map V.int:=by rw[BQ,List.map_map];rfl
    have zl:=hz.n;rw[List.length_map,List.length_range] at zl;refine⟨⟨_,aD.of (s2 _ _ hz.l)⟩,_,.inl ⟨aD.of aq,λt1 wQ=>⟨_,ah.put wQ _ _ (s2 _ _ hz.l),by rw[List.length_map];lia,hN _ _ ⟨_,_,us++[t1],rfl,ah.put2 ((s1.trans s2).trans (ah.put wQ)) hl,?_,?_⟩⟩⟩⟩
    ·intro t' iA;rcases List.mem_append.mp iA with iA | iA
     ·exact hu t' iA
     ·rw[List.mem_singleton.mp iA];exact(s1.trans s2).free wQ
    ·rw[List.range_succ,List.map_append,ex];have:=(hz.same s2).snoc wQ (fz qs k);rw[ex] at this;exact this
  ·rintro σ H' ⟨x1,x2,us,rfl,s1,hu,hz⟩;walk_at "rdm";exact q _ _ _ s1 hl hu hz
theorem SW(T:Tx K mg A):a_ P w K mg base bw 2 A.vO A.vP ["_law_specs_here", "_law_at_here", "_law_sort", "_law_total", "_law_cell"] (RC K):=by
 have bE:=lW (P:=P) (w:=w) (base:=base) T;refine T.we.ok gM (λvs H Q E h=>?_) (λaM Ar outer s H vs Q E hr h=>?_)
 ·obtain⟨la,a,so,T',c,ts,qs,rfl,_⟩:=h
  rfl
 ·obtain⟨la,a,so,T',c,ts,qs,rfl,ha,on,a1,a2,s0,s2,t1,t2,sv,nr,q⟩:=h;refine⟨_,(az (aX (i:=5) gM.nd rfl (Or.inl rfl) (aT cD (pv 0) (pv 1) (λ_ _=>rfl)))
   (az (aX (i:=6) gM.nd rfl (Or.inl rfl) (aT bR (aT cD (pv 0) (aA dU (pv 1) aj) (λ_ _=>rfl)) aj (λ_ _=>rfl)))
   (az (fU (bA (PW.pt (jd (aR b7 (pv 2) aj (aP _)) (jc (aR gf (pv 6) aj (aP _))))) (aF (aX (i:=5) gM.nd rfl (Or.inl rfl) (aA mC (aA mC (jh oR (pv 5) kX (gU aj)) (dg (aa (aA dU (aA dU (pv 6) aj) (aA bG (aL bE (hr.mono (by first | decide | lia)) rfl T.bL T.bJ.kp T.bK .nil aK (aa (pv 4) (aa aj ao))) (pv 6))) ao))) (jh oR (pv 5) (gU aj) kX)))) bz))
   (az (fU (bA (aR b7 (pv 2) aj (aP _)) (az (aX (i:=7) gM.nd rfl (Or.inl rfl) (aA bF (aA dU (pv 3) aj) (aA bG (aL bE (hr.mono (by first | decide | lia)) rfl T.bL T.bJ.kp T.bK .nil aK (aa (pv 4) (aa aj ao))) aj)))
   (aF (aX (i:=5) gM.nd rfl (Or.inl rfl) (aA mC (aA mC (dg (aa bC (aa (pv 7) (aa (aA bF aj (bI (DZ rfl) rfl T.qF boot_max (aa aj (aa (aA dU (aA dU (pv 3) aj) (pv 7)) ao)))) (aa (dg ao) ao))))) (jh oR (pv 5) (gU aj) (gU aj))) (dg (aa (dg ao) ao)))))) bz))
   (az (fU (bA (aR b7 (pv 2) aj (aP _)) (az (lg (i:=8) gM.nd rfl (Or.inl rfl) (N:=["_law_k", "_law_specs_here"]) (nt:=1) (fv:=[0]) (cI.of rfl rfl (by rfl) (by rfl) (by repeat (first | exact trivial | refine⟨rfl,?_⟩)) (by rfl) (by rfl) (by rfl) (by decide) (by decide +kernel)) rfl (iG rfl T.dP (aa (pv 1) ao)) (λC s H fp=>(bH (i:=0) (show List.Nodup (["_law_k", "_law_specs_here"]:List Str) by decide +kernel) rfl (Or.inl rfl))) (λC s H fp=>(k8 (aR b7 (aT (mO (K:=K) rfl) (aT (lA (K:=K) rfl) (pv 1) (pv 0) (λ_ _=>rfl)) aj (λ_ _=>rfl)) bC (aP _)))) (λC s H fp=>(pv 0)))
   (az (aX (i:=9) gM.nd rfl (Or.inl rfl) (aA bF (pv 1) (aA bG (aL bE (hr.mono (by first | decide | lia)) rfl T.bL T.bJ.kp T.bK .nil aK (aa (pv 4) (aa aj ao))) (aA dU aj (pv 1)))))
   (az (fU (bA (PW.pt (jd (aR gf (bI dG rfl T.c9 boot_len (aa (pv 8) ao)) aj (aP _)) (jc (aR b7 (aA bG (aL bE (hr.mono (by first | decide | lia)) rfl T.bL T.bJ.kp T.bK .nil aK (aa (pv 4) (aa aj ao))) aj) aj (aP _))))) (aF (aX (i:=9) gM.nd rfl (Or.inl rfl) (aT cD (pv 8) (aA bG (aL bE (hr.mono (by first | decide | lia)) rfl T.bL T.bJ.kp T.bK .nil aK (aa (pv 4) (aa aj ao))) (bI dG rfl T.c9 boot_len (aa (pv 8) ao))) (λ_ _=>rfl)))) bz))
   (az (lg (i:=10) gM.nd rfl (Or.inl rfl) (N:=["_law_k", "_law_cell"]) (nt:=1) (fv:=[4]) (cI.of rfl rfl (by rfl) (by rfl) (by repeat (first | exact trivial | refine⟨rfl,?_⟩)) (by rfl) (by rfl) (by rfl) (by decide) (by decide +kernel)) rfl (iG rfl T.dP (aa (bI (xV rfl) rfl T.nv boot_min (aa (pv 1) (aa (pv 9) ao))) ao)) (λC s H fp=>(bH (i:=0) (show List.Nodup (["_law_k", "_law_cell"]:List Str) by decide +kernel) rfl (Or.inl rfl))) (λC s H fp=>(k8 (aR b7 (aA bG (aL bE (hr.mono (by first | decide | lia)) rfl T.bL T.bJ.kp T.bK .nil aK (aa (pv 1) (aa (aA bF aj (pv 0)) ao))) aj) aj (aP _)))) (λC s H fp=>(pv 0)))
   (az (lg (i:=10) gM.nd rfl (Or.inl rfl) (N:=["_law_k", "_law_specs_here"]) (nt:=1) (fv:=[0]) (cI.of rfl rfl (by rfl) (by rfl) (by repeat (first | exact trivial | refine⟨rfl,?_⟩)) (by rfl) (by rfl) (by rfl) (by decide) (by decide +kernel)) rfl (fZ (pv 10)) (λC s H fp=>(bH (i:=0) (show List.Nodup (["_law_k", "_law_specs_here"]:List Str) by decide +kernel) rfl (Or.inl rfl))) (λC s H fp=>(k8 (aR fR (aT (mO (K:=K) rfl) (aT (lA (K:=K) rfl) (pv 1) (pv 0) (λ_ _=>rfl)) aj (λ_ _=>rfl)) bC (aP _)))) (λC s H fp=>(pv 0)))
   (aF (aX (i:=5) gM.nd rfl (Or.inl rfl) (aA mC (jh oR (pv 5) kX (gU aj)) (dg (aa (iJ kY rfl T.gn boot_tuple (aa (aA mF (pv 10) (cH (aa (pv 9) ao))) ao)) ao)))))))))) bz))
   (aF (bD (aA mF (aA mF (jh yi (pv 0) kX (gU (pv 1))) (cH (aa (pv 5) ao))) (jh yi (pv 0) (gU (aA bF (pv 1) aj)) kX))))))))),?_⟩
  wp_walk using T,cF;have at_:∀j:Nat,(hj:j<qs.length)->∃t m b,(ts.map V.ref)[j]? = some (V.ref t)/\eY H t qs[j] m b:=λj hj=>by
   have qR:j<ts.length:=by rw[ha.n];exact hj
   obtain⟨m,b,w⟩:=ha.t j _ _ (List.getElem?_eq_getElem qR) (List.getElem?_eq_getElem hj);exact⟨_,m,b,by rw[List.getElem?_map,List.getElem?_eq_getElem qR];rfl,w⟩
  obtain⟨t,m,b,e1,hz⟩:=at_ a a2;obtain⟨t0,m0,b0,e2,jD⟩:=at_ (a - 1) (by lia)
  have qT:eu (ts.map V.ref) ((a:Int) - 1)=some (.ref t0):=by
   have:=cU e2;rwa [show ((a - 1:Nat):Int)=(a:Int) - 1 by lia] at this
  have Jr:=sv _ (List.getElem_mem a2);refine⟨_,aD.of ha.l,_,cU e1,_,aD.of ha.l,_,qT,_,rfl,_,aJ.of jD.o,_,rfl,tQ H la a so T' c qs[a] qs[a - 1].at_,?_,?_⟩
  ·have keep:tQ H la a so T' c qs[a] qs[a - 1].at_ [some (V.ref la),some (V.int (a:Int)),some (V.int so),some (V.int T'),some (V.int c),some (V.ref t),some (V.int qs[a - 1].at_),none,none,none,none] H:=⟨t,qs[a],m,b,none,none,none,none,rfl,ah.refl _,hz,Jr,λz=>z⟩
   refine bu (λe=>⟨_,rfl,bu (λhb=>⟨_,rfl,_,aJ.of hz.o,GS,λp hp=>⟨_,rfl,_,rfl,hb,λp1 cG=>?_⟩⟩) λ_=>keep⟩) λ_=>keep
   have s1:=ah.put (o:=HO.tup [.str qs[a].kind,.int qs[a].first,.int qs[a].many,.ref m]) hp;have s2:=ah.put (o:=HO.tup [V.int (qs[a - 1].at_ - 1 - mix c 1 % qs[a - 1].at_)]) cG;refine⟨_,aJ.of (s2 _ _ aq),_,aJ.of aq,List.cons_ne_nil _ _,(by show 4+1<=_;decide),λz=>absurd z (List.cons_ne_nil _ _),λ_ p2 c_=>?_⟩
   have s3:=ah.put (o:=HO.tup [.str qs[a].kind,.int qs[a].first,.int qs[a].many,.ref m,V.int (qs[a - 1].at_ - 1 - mix c 1 % qs[a - 1].at_)]) c_;have nI:=(s1.trans s2).trans s3;refine⟨_,rfl,_,aJ.of (nI _ _ hz.o),GU,λp3 gP=>?_⟩;have s4:=ah.put (o:=HO.tup [V.int qs[a].cO,dO qs[a].c8,.ref b]) gP;refine⟨_,aJ.of (s4 _ _ aq),_,aJ.of aq,List.cons_ne_nil _ _,(by show 5+3<=_;decide),λz=>absurd z (List.cons_ne_nil _ _),λ_ p4 iY=>?_⟩
   have s5:=ah.put (o:=HO.tup [.str qs[a].kind,.int qs[a].first,.int qs[a].many,.ref m,V.int (qs[a - 1].at_ - 1 - mix c 1 % qs[a - 1].at_),V.int qs[a].cO,dO qs[a].c8,.ref b]) iY;have ss:=(nI.trans s4).trans s5;have bnd:=(sv _ (List.getElem_mem (show a - 1<qs.length by lia))).at
   have m1:=Int.emod_nonneg (mix c 1) (show qs[a - 1].at_≠0 by lia)
   have m2:=Int.emod_lt_of_pos (mix c 1) hb;exact⟨p4,{ qs[a] with at_:=qs[a - 1].at_ - 1 - mix c 1 % qs[a - 1].at_ },m,b,none,none,none,none,rfl,ss,⟨aq,ss _ _ hz.ms,ss _ _ hz.bh⟩,Jr.setAt (by lia) (by lia),λz=>z⟩
  rintro _ H1 ⟨t,q1,m,b,x7,x8,x9,fV,rfl,sm,Js,qU,kr⟩;wp_walk using T,cF;refine⟨tQ H la a so T' c qs[a] qs[a - 1].at_,?_,?_⟩
  ·refine bu (λe p hp p1 cG=>?_) λ_=>⟨t,q1,m,b,x7,x8,x9,fV,rfl,sm,Js,qU,kr⟩
   have m1:=Int.emod_nonneg (mix c 2) (show (3:Int)≠0 by decide)
   have m2:=Int.emod_lt_of_pos (mix c 2) (show (0:Int)<3 by decide)
   rw[if_neg (show ¬ 0<T' - 1 - (T' - 1+mix c 2 % 3) by lia)] at *
   have s1:=ah.put (o:=HO.tup []) hp;have s2:=ah.put (o:=HO.tup [V.str (Str.ofString "read"),V.int (T' - 1+mix c 2 % 3),V.int (2+0),V.ref p]) cG;refine⟨_,aJ.of ((s1.trans s2) _ _ Js.o),RG,λp2 c_=>?_⟩;have s3:=ah.put (o:=HO.tup [.int q1.at_,.int q1.cO,dO q1.c8]) c_;refine⟨_,aJ.of (s3 _ _ aq),_,aJ.of aq,List.cons_ne_nil _ _,(by show 4+3<=_;decide),λz=>absurd z (List.cons_ne_nil _ _),λ_ p3 gP p4 iY p5 BU=>?_⟩
   have s4:=ah.put (o:=HO.tup [V.str (Str.ofString "read"),V.int (T' - 1+mix c 2 % 3),V.int (2+0),V.ref p,.int q1.at_,.int q1.cO,dO q1.c8]) gP;have s5:=ah.put (o:=HO.tup []) iY;have s6:=ah.put (o:=HO.tup [V.ref p4]) BU;refine⟨_,aJ.of (s6 _ _ (s5 _ _ aq)),_,aJ.of aq,List.cons_ne_nil _ _,(by show 7+1<=_;decide),λz=>absurd z (List.cons_ne_nil _ _),λ_ p6 SX=>?_⟩
   have s7:=ah.put (o:=HO.tup [V.str (Str.ofString "read"),V.int (T' - 1+mix c 2 % 3),V.int (2+0),V.ref p,.int q1.at_,.int q1.cO,dO q1.c8,V.ref p4]) SX;have ss:=((((s2.trans s3).trans s4).trans s5).trans s6).trans s7;have bn:=qU.bounds;have ba:=qU.at;exact⟨p6,⟨Str.ofString "read",T' - 1+mix c 2 % 3,2+0,[],q1.at_,q1.cO,q1.c8,[]⟩,p,p4,_,x8,x9,fV,rfl,sm.trans (s1.trans ss),⟨aq,ss _ _ aq,s7 _ _ (s6 _ _ aq)⟩,.read rfl rfl ⟨by show 0<=T' - 1+mix c 2 % 3;lia,by show T' - 1+mix c 2 % 3<=_;lia,by show (1:Int)<=2+0;lia,by show (2+0:Int)<=16;lia,ba.1,ba.2,bn.1,bn.2.1,bn.2.2⟩ cJ.nil (by show T' - 1+mix c 2 % 3+(2+0)<=_;lia),λ_=>cK (by decide)⟩
  rintro _ H2 ⟨t,q2,m,b,x7,x8,x9,fV,rfl,sm,gO,wR,kr⟩;wp_walk using T,cF;refine⟨tQ H la a so T' c qs[a] qs[a - 1].at_,?_,?_⟩
  ·refine bu (λe=>?_) λ_=>⟨t,q2,m,b,x7,x8,x9,fV,rfl,sm,gO,wR,kr⟩
   have Jt:q2.kind≠"rest" := kr (nr e _ (List.getElem?_eq_getElem a2));refine pM (a:Int) (λD i ys au H'=>∃(u:Option V) (is:List Int),ys=is.map V.int/\au = [u,some (.ref la)]/\H' D=some (.lst ys)/\ah H2 H'/\H2 D=none/\is.length<=i/\i<=a/\∀x∈is,0<=x/\x<(a:Int)) (λQ q=>?_) (by lia) (by lia) ?_ ?_ ?_ ?_
   ·walk_at "rdm";exact q
   ·intro D hD;exact⟨none,[],rfl,rfl,aq,ah.put hD,hD,Nat.le_refl _,Nat.zero_le _,λ_ z=>nomatch z⟩
   ·rintro D i ys au H' ⟨u,is,rfl,rfl,hD,s1,hn,hl,qV,hb⟩;exact⟨hD,gB (by rw[List.length_map];lia)⟩
   ·rintro D i ys au H' N hN hi ⟨u,is,rfl,rfl,hD,s1,hn,hl,qV,hb⟩;have gD:i<a:=by simpa using hi
    obtain⟨ti,mi,bi,ei,BV⟩:=at_ i (by lia)
    have SY:=BV.same (sm.trans s1);walk_at "rdm";refine⟨_,aD.of ((sm.trans s1) _ _ ha.l),_,cU ei,_,rfl,_,aJ.of SY.o,_,rfl,rfl,bu (λ_=>⟨hD,hN _ _ _ ⟨_,is++[(i:Int)],by simp,rfl,aq,s1.put2 hn,hn,by simp;lia,by lia,λx hx=>?_⟩⟩) λ_=>hN _ _ _ ⟨_,is,rfl,rfl,hD,s1,hn,by lia,by lia,hb⟩⟩
    rcases List.mem_append.mp hx with hx | hx
    ·exact hb x hx
    ·rw[List.mem_singleton.mp hx];lia
   ·rintro D ys au H' ⟨u,is,rfl,rfl,hD,s1,hn,hl,qV,hb⟩;have m1:=Int.emod_nonneg (mix c 3) (show (99 - (a:Int))≠0 by lia)
    have m2:=Int.emod_lt_of_pos (mix c 3) (show (0:Int)<99 - (a:Int) by lia)
    refine⟨by lia,λσ G=>∃(y8:Option V) (o:Int),σ = [some (V.ref la),some (V.int (a:Int)),some (V.int so),some (V.int T'),some (V.int c),some (V.ref t),some (V.int qs[a - 1].at_),x7,y8,some (V.int o),fV]/\0<=o/\o<=98/\ah H2 G,?_,?_⟩
    ·refine⟨_,rfl,_,.inl (aD.of hD),bu (λh1=>bu (λh2=>⟨_,rfl,_,.inl (aD.of hD),h1,_,rfl,_,aD.of hD,?_⟩) λ_=>⟨_,_,rfl,by lia,by lia,s1⟩) λ_=>⟨_,_,rfl,by lia,by lia,s1⟩⟩
     rw[List.length_map] at *
     have k1:=Int.emod_nonneg (mix c 5) (show (is.length:Int)≠0 by lia)
     have k2:=Int.emod_lt_of_pos (mix c 5) h1;obtain⟨j,ej⟩:=Int.eq_ofNat_of_zero_le k1;have hj:j<is.length:=by lia
     have:=hb _ (List.getElem_mem hj);exact⟨_,by rw[ej];exact cU (show (is.map V.int)[j]? = some (.int is[j]) by rw[List.getElem?_map,List.getElem?_eq_getElem hj];rfl),_,_,rfl,this.1,by lia,s1⟩
    ·rintro _ G ⟨y8,o,rfl,o1,o2,sG⟩;walk_at "rdm";have mo:(if o<(a:Int) then o else(a:Int))<=o/\(if o<(a:Int) then o else(a:Int))<=(a:Int)/\0<=(if o<(a:Int) then o else(a:Int)):=by split <;> lia
     refine pM (if o<(a:Int) then o else(a:Int)) (λD i ys au H'=>∃(u:Option V) (js:List Int),ys=js.map V.int/\au = [u,some (.int c)]/\H' D=some (.lst ys)/\ah G H'/\G D=none/\js.length<=i/\(i:Int)<=(if o<(a:Int) then o else(a:Int))/\js.Pairwise (· < ·)/\∀x∈js,0<=x/\x<(i:Int)) (λQ q=>?_) (by lia) (by lia) ?_ ?_ ?_ ?_
     ·walk_at "rdm";exact q
     ·intro D hD;exact⟨none,[],rfl,rfl,aq,ah.put hD,hD,Nat.le_refl _,by simpa using mo.2.2,.nil,λ_ z=>nomatch z⟩
     ·rintro D i ys au H' ⟨u,js,rfl,rfl,hD,s1,hn,hl,qV,hp,hb⟩;exact⟨hD,gB (by rw[List.length_map];lia)⟩
     ·rintro D i ys au H' N hN hi ⟨u,js,rfl,rfl,hD,s1,hn,hl,qV,hp,hb⟩;have gD:((i+1:Nat):Int)<=(if o<(a:Int) then o else(a:Int)):=by lia
      wp_walk using cF;refine⟨by lia,by lia,bu (λ_=>⟨hD,hN _ _ _ ⟨_,js++[(i:Int)],by simp,rfl,aq,s1.put2 hn,hn,by simp;lia,gD,?_,λx hx=>?_⟩⟩) λ_=>hN _ _ _ ⟨_,js,rfl,rfl,hD,s1,hn,by lia,gD,hp,λx hx=>?_⟩⟩
      ·refine List.pairwise_append.mpr ⟨hp,List.pairwise_singleton _ _,λx hx y hy=>?_⟩;rw[List.mem_singleton.mp hy];exact(hb x hx).2
      ·rcases List.mem_append.mp hx with hx | hx
       ·have:=hb x hx;lia
       ·rw[List.mem_singleton.mp hx];lia
      ·have:=hb x hx;lia
     ·rintro D ys au H' ⟨u,js,rfl,rfl,hD,s1,hn,hl,qV,hp,hb⟩;have jr:cJ js:=⟨hp,λn h=>(hb n h).1,λn h=>by have:=hb n h;lia⟩
      refine pq D (js.map V.int) (λD2 i ys au qW=>∃(u:Option V) (ks:List Int),ys=ks.map V.int/\au = [u,some (.ref la)]/\qW D2=some (.lst ys)/\ah H' qW/\H' D2=none/\ks.Sublist (js.take i)) (λQ q=>?_) (aD.of hD) ?_ ?_ ?_ ?_
      ·walk_at "rdm";exact q
      ·intro D2 jE;exact⟨none,[],rfl,rfl,aq,ah.put jE,jE,.slnil⟩
      ·rintro D2 i ys au qW ⟨u,ks,rfl,rfl,jE,s2,iI,sb⟩;exact⟨jE,gB (by rw[List.length_map];have:=sb.length_le;rw[List.length_take] at this;lia),aD.of (s2 _ _ hD)⟩
      ·rintro D2 i x ys au qW N hN hx ⟨u,ks,rfl,rfl,jE,s2,iI,sb⟩;rw[List.getElem?_map] at hx;obtain⟨j,ej,rfl⟩:=Option.map_eq_some_iff.mp hx;have jb:=hb j (List.mem_of_getElem? ej);obtain⟨jn,rfl⟩:=Int.eq_ofNat_of_zero_le jb.1;obtain⟨ti,mi,bi,ei,BV⟩:=at_ jn (by lia)
       have kC:=(sm.trans (sG.trans s1)).trans s2;have tk:js.take (i+1)=js.take i++[(jn:Int)]:=by rw[List.take_add_one,ej];rfl
       walk_at "rdm";refine⟨_,aD.of (kC _ _ ha.l),_,cU ei,_,rfl,_,aJ.of (BV.same kC).o,_,rfl,rfl,bu (λ_=>⟨jE,hN _ _ _ ⟨_,ks++[(jn:Int)],by simp,rfl,aq,s2.put2 iI,iI,?_⟩⟩) λ_=>hN _ _ _ ⟨_,ks,rfl,rfl,jE,s2,iI,?_⟩⟩
       ·rw[tk];exact sb.append (List.Sublist.refl _)
       ·rw[tk];exact sb.trans (List.sublist_append_left _ _)
      ·rintro D2 ys au qW ⟨u,ks,rfl,rfl,jE,s2,iI,sb⟩;have Ju:=sb.trans (List.take_sublist _ _);have rk:=jr.sub Ju;have ro:cJ (ks++[o]):=rk.snoc (λn hn=>by have:=hb n (Ju.subset hn);lia) o1 (by lia)
       have kC:=(sG.trans s1).trans s2;have jF:=gO.same kC;refine⟨_,aJ.of jF.o,RH,λp hp p1 cG=>?_⟩;have t1:=ah.put (o:=HO.tup [.str q2.kind,.int q2.first,.int q2.many,.ref m,.int q2.at_,.int q2.cO,dO q2.c8]) hp;have t2:=ah.put (o:=HO.lst [V.int o]) cG;have kl:=rk.len;refine⟨_,rfl,_,(t1.trans t2) _ _ jE,by rw[List.length_map];lia,λp2 c_=>?_⟩
       have t3:=ah.put (o:=HO.lst (ks.map V.int++[V.int o])) c_;refine⟨_,.inl ⟨aD.of aq,λl hl p3 gP=>?_⟩⟩;have t4:=ah.put (o:=HO.tup (ks.map V.int++[V.int o])) hl;have t5:=ah.put (o:=HO.tup [V.ref l]) gP;refine⟨_,aJ.of (t5 _ _ (t4 _ _ (t3 _ _ (t2 _ _ aq)))),_,aJ.of aq,List.cons_ne_nil _ _,(by show 7+1<=_;decide),λz=>absurd z (List.cons_ne_nil _ _),λ_ p4 iY=>?_⟩
       have t6:=ah.put (o:=HO.tup [.str q2.kind,.int q2.first,.int q2.many,.ref m,.int q2.at_,.int q2.cO,dO q2.c8,V.ref l]) iY;have tt:=((((t1.trans t2).trans t3).trans t4).trans t5).trans t6;exact⟨p4,{ q2 with behind:=ks++[o] },m,l,x7,_,_,_,rfl,(sm.trans kC).trans tt,⟨aq,tt _ _ jF.ms,by rw[List.map_append];exact t6 _ _ (t5 _ _ aq)⟩,wR.RD Jt ro,λ_=>Jt⟩
  rintro _ H3 ⟨t,q3,m,b,x7,x8,x9,fV,rfl,sm,S0,S2,kr⟩;wp_walk using T,cF;have ss:=sm;have Jv:a<ts.length:=by rw[ha.n];exact a2
  have ll:∀ {G:Hp},ah H3 G->G la=some (.lst (ts.map V.ref)):=λs=>s _ _ (sm _ _ ha.l);refine⟨_,aD.of (ll (ah.refl _)),λp hp p1 cG=>?_⟩;have s1:=ah.put (o:=HO.lst (dF (ts.map V.ref) none (some (a:Int)))) hp;have s2:=ah.put (o:=HO.lst [V.ref t]) cG;refine⟨_,s2 _ _ aq,(by rw[GQ,List.length_take,List.length_map];have:=ha.n;lia),λp2 c_=>?_⟩
  have s3:=ah.put (o:=HO.lst (dF (ts.map V.ref) none (some (a:Int))++[V.ref t])) c_;have nI:=(s1.trans s2).trans s3;refine⟨_,aD.of (ll nI),λp3 gP=>?_⟩;have s4:=ah.put (o:=HO.lst (dF (ts.map V.ref) (some ((a:Int)+1)) none)) gP;refine⟨_,s4 _ _ aq,?_,λp4 iY=>?_⟩
  ·rw[← List.length_append,GR Jv,List.length_map,List.length_set];have:=ha.n;lia
  ·have s5:=ah.put (o:=HO.lst (dF (ts.map V.ref) none (some (a:Int))++[V.ref t]++dF (ts.map V.ref) (some ((a:Int)+1)) none)) iY;have sx:=(nI.trans s4).trans s5;refine q p4 (ts.set a t) (qs.set a q3) _ (sm.trans sx) ((sm.trans (nI.trans s4)).free iY) (ha.set (sm.trans sx) (S0.same sx) (by rw[aq,GR Jv])) (List.length_set ..) (λq0 h0=>?_) (λi q0 q' e1 e2 k0=>?_)
   ·rcases List.mem_or_eq_of_mem_set h0 with h0 | h0
    ·exact sv _ h0
    ·rw[h0];exact S2
   ·rw[List.getElem?_set] at e2;by_cases hi:a=i
    ·subst hi;rw[if_pos rfl,if_pos a2] at e2;cases e2;rw[List.getElem?_eq_getElem a2] at e1;cases e1;exact kr k0
    ·rw[if_neg hi,e1] at e2;cases e2;exact k0
theorem Jw(T:Tx K mg A):a_ P w K mg base bw 3 A.uo A.uq ["first", "many", "at", "asker", "latest", "behind"] (Pk K):=by
 have iz:=wO (P:=P) (w:=w) (base:=base) T;have S3:=SE (P:=P) (w:=w) (base:=base) T;refine T.vZ.ok RP (λvs H Q E h=>?_) (λaM Ar outer s H vs Q E hr h=>?_)
 ·obtain⟨f,m,a,s',l,b,ns,rfl,_⟩:=h
  rfl
 ·obtain⟨f,m,a,s',l,b,ns,rfl,hB,hS,hR,q⟩:=h;refine⟨_,(az (cg (aL iz (hr.mono (by first | decide | lia)) rfl T.jz T.iX.kp T.jy .nil aK (aa (pv 0) (aa aj (aa (dR (v:=.int 1000000) rfl T.IW ⟨_,rfl⟩) (aa bC ao))))))
   (az (cg (aL iz (hr.mono (by first | decide | lia)) rfl T.jz T.iX.kp T.jy .nil aK (aa (pv 1) (aa aj (aa (dR (v:=.int 16) rfl T.IV ⟨_,rfl⟩) (aa bC ao))))))
   (az (cg (aL iz (hr.mono (by first | decide | lia)) rfl T.jz T.iX.kp T.jy .nil aK (aa (pv 2) (aa aj (aa (dR (v:=.int 1000000000000) rfl T.Bx ⟨_,rfl⟩) (aa bC ao))))))
   (az (cg (aL iz (hr.mono (by first | decide | lia)) rfl T.jz T.iX.kp T.jy .nil aK (aa (pv 3) (aa aj (aa (dR (v:=.int 20) rfl T.IY ⟨_,rfl⟩) (aa bC ao))))))
   (az (bA (aR Ms (pv 4) kM (aP _)) (aF (cg (aL iz (hr.mono (by first | decide | lia)) rfl T.jz T.iX.kp T.jy .nil aK (aa (pv 4) (aa aj (aa (dR (v:=.int 10000000000000) rfl T.IZ ⟨_,rfl⟩) (aa bC ao))))))) bz)
   (aF (cg (aL S3 (hr.mono (by first | decide | lia)) rfl T.Hl T.AK.kp T.Hj .nil aK (aa (pv 5) ao))))))))),?_⟩
  walk_at "rdm";refine⟨_,_,_,_,rfl,hB.f0,hB.f1,_,_,_,_,rfl,hB.m0,hB.m1,_,_,_,_,rfl,hB.a0,hB.a1,_,_,_,_,rfl,hB.s0,hB.s1,?_⟩
  try dsimp only
  cases l with
  | none=>exact ite_no (by simp[dO]) ⟨b,ns,rfl,hS,hR,q⟩
  | some x=>exact ite_yes (by simp[dO]) ⟨x,0,10000000000000,_,rfl,(hB.l x rfl).1,(hB.l x rfl).2,b,ns,rfl,hS,hR,q⟩
theorem S4(T:Tx K mg A):a_ P w K mg base bw 3 A.uz A.uA ["at"] (Pr K A.bx):=by
 have qX:=BN (P:=P) (w:=w) (base:=base) T;have iz:=wO (P:=P) (w:=w) (base:=base) T;refine T.AS.ok RS (λvs H Q E h=>?_) (λaM Ar outer s H vs Q E hr h=>?_)
 ·obtain⟨a,rfl,_⟩:=h
  rfl
 ·obtain⟨a,rfl,a0,a1,q⟩:=h;refine⟨_,(az (cg (aL iz (hr.mono (by first | decide | lia)) rfl T.jz T.iX.kp T.jy .nil aK (aa (pv 0) (aa aj (aa (dR (v:=.int 1000000000000) rfl T.Bx ⟨_,rfl⟩) (aa bC ao))))))
   (aF (bD (rT T.wg qX (hr.mono (by first | decide | lia)) rfl T.wj T.vY .nil aK (aa bC (aa aj (aa aj (aa (dg ao) (aa (pv 0) (aa aj (aa kM (aa (dg ao) (aa fP ao))))))))))))),?_⟩
  walk_at "rdt";refine⟨_,_,_,_,rfl,a0,a1,?_⟩
  try dsimp only
  intro m nm b nb x dx nx iQ jw;refine⟨x,dx,_,_,_,_,_,_,_,_,_,rfl,aq,rfl,?_⟩;obtain⟨a1,a2,a3⟩:=zf (K:=K) (C:=A.bx) (q:=⟨"rest",0,0,[],a,0,none,[],false⟩) ((ah.put nm).trans (ah.put nb)) nx iQ jw (ah.put nb _ _ aq) aq;exact q _ _ _ _ _ a1 a2 a3
theorem S5(T:Tx K mg A):a_ P w K mg base (dZ P w base) 3 A.uH A.uI ["asks", "number"] (Ru K A.bx A.br):=by
 have BW:=Ji (P:=P) (w:=w) (base:=base) T;refine T.AX.mR RV (λvs H Q E h=>?_) (λaM Ar outer s H vs Q E hr h=>?_)
 ·obtain⟨la,ps,qs,k,q',rfl,_⟩:=h
  rfl
 ·obtain⟨la,ps,qs,k,q',rfl,ha,hk,q,qe⟩:=h;refine⟨_,(aF (bA (PW.pt (jd (aR gf (pv 1) aj (aP _)) (jc (aR eN (dm (aT cD (pv 0) (pv 1) (λ_ _=>rfl)) rfl) (dm (aT cD (pv 0) (aA dU (pv 1) aj) (λ_ _=>rfl)) rfl) (aP _))))) (aF (zA (by exact zz) rfl T.wL T.qJ PySem.F.excBase_ValueError rfl rfl BW (hr.mono (by first | decide | lia)) T.AJ .nil (aa (pv 1) (aa (aA dU (pv 1) aj) ao)))) bz)),?_⟩
  walk_at "rdt";refine bu (λh0=>?_) (λh0=>q (by unfold gm;rw[decide_eq_false (by lia)];rfl))
  obtain⟨p,m,b,dx,e1,a1⟩:=ha.at hk;have Jm:=(List.getElem?_eq_some_iff.mp hk).1;have h1:k - 1<qs.length:=by lia
  obtain⟨p0,m0,b0,qQ,e2,a2⟩:=ha.at (List.getElem?_eq_getElem h1);have qT:eu (ps.map V.ref) ((k:Int) - 1)=some (.ref p0):=by
   have:=cU e2;rwa [show ((k - 1:Nat):Int)=(k:Int) - 1 by lia] at this
  have bb:gm qs k q' = decide (q'.at_<qs[k - 1].at_):=by
   unfold gm;rw[decide_eq_true (show 0<k by lia),List.getElem?_eq_getElem h1];rfl
  refine⟨_,aD.of ha.l,_,cU e1,_,rfl,_,_,_,a1.o,T.nk,T.qB,_,rfl,_,aD.of ha.l,_,qT,_,rfl,_,_,_,a2.o,T.nk,T.qB,_,rfl,_,rfl,_,rfl,?_⟩;refine bu (λh2=>λd nd=>qe (by rw[bb];exact decide_eq_true h2) d _ (ah.put nd) aq) λh2=>q (by rw[bb];exact decide_eq_false h2)
theorem S6(T:Tx K mg A):a_ P w K mg base (dZ P w base) 3 A.uJ A.uK ["asks", "number"] (Rv K A.bx A.br):=by
 have BW:=Ji (P:=P) (w:=w) (base:=base) T;refine T.AY.mR G5 (λvs H Q E h=>?_) (λaM Ar outer s H vs Q E hr h=>?_)
 ·obtain⟨la,ps,qs,k,q',rfl,_⟩:=h
  rfl
 ·obtain⟨la,ps,qs,k,q',rfl,ha,hk,av,q,qe⟩:=h;refine⟨_,(aF (cR PassesOwn.leaving rfl (rM (dm (aT cD (pv 0) (pv 1) (λ_ _=>rfl)) rfl)) (bH (i:=2) G5.nd rfl (Or.inl rfl))
   (aF (bA (PW.pt (eK (aR rQ (pv 2) (pv 1) (aP _)) (fh (aR b7 (dm (aT cD (pv 0) (pv 2) (λ_ _=>rfl)) rfl) bC (aP _))))) (aF (zA (by exact zz) rfl T.wL T.qJ PySem.F.excBase_ValueError rfl rfl BW (hr.mono (by first | decide | lia)) T.AJ .nil (aa (pv 1) (aa (pv 2) ao)))) bz)))),?_⟩
  walk_at "rdt";obtain⟨p,m,b,dx,e1,a1⟩:=ha.at hk;have Jm:=(List.getElem?_eq_some_iff.mp hk).1;refine rt b (q'.behind.map V.int) (λi σ H'=>∃(x:Option V),σ = [some (.ref la),some (.int (k:Int)),x]/\H' = H/\∀n∈q'.behind.take i,eZ qs k n=false) (λQ q=>?_) (aJ.of a1.bh) ⟨none,rfl,rfl,by simp⟩ (by rintro i σ H' _ ⟨_,rfl,rfl,_⟩;exact aJ.of a1.bh) ?_ ?_
  ·walk_at "rdm";exact⟨_,aD.of ha.l,_,cU e1,_,rfl,_,_,_,a1.o,T.nk,T.qC,_,rfl,q⟩
  ·rintro i x σ H' N hN hx ⟨x0,rfl,rfl,pre⟩;obtain⟨n,hn,rfl⟩:=gF hx;have n0:=av.2.2.2.2.2.2 n (get_mem hn);walk_at "rdm";have stop:eZ qs k n=true->q'.behind.find? (eZ qs k)=some n:=λtb=>by
    rw[List.find?_eq_some_iff_append];refine⟨tb,q'.behind.take i,q'.behind.drop (i+1),?_,λa ha=>by rw[pre a ha];rfl⟩
    have hi:=dY hn;rw[List.getElem?_eq_getElem hi] at hn;rw[← Option.some.inj hn,← List.drop_eq_getElem_cons hi,List.take_append_drop]
   have go:eZ qs k n=false->N [some (V.ref la),some (V.int (k:Int)),some (V.int n)] H':=λtb=>hN _ _ ⟨_,rfl,rfl,λa ha=>by
    rw[take_succ_get hn,List.mem_append] at ha;rcases ha with ha | ha
    ·exact pre a ha
    ·rw[List.mem_singleton.mp ha];exact tb⟩
   refine bu (λh1=>λd nd=>qe n (stop (by unfold eZ;rw[decide_eq_true h1];rfl)) d _ (ah.put nd) aq) λh1=>?_
   have hj:n.toNat<qs.length:=by lia
   obtain⟨p0,m0,b0,qQ,e3,a2⟩:=ha.at (List.getElem?_eq_getElem hj);have BX:eu (ps.map V.ref) n=some (.ref p0):=by
    have:=cU e3;rwa [show ((n.toNat:Nat):Int)=n by lia] at this
   have tb:eZ qs k n=decide (qs[n.toNat].kind = "rest"):=by
    unfold eZ zO;rw[decide_eq_false h1,List.getElem?_eq_getElem hj];rfl
   refine⟨_,aD.of ha.l,_,BX,_,rfl,_,_,_,a2.o,T.nk,T.wk,_,rfl,rfl,bu (λz=>λd nd=>qe n (stop (by rw[tb];exact decide_eq_true (V.str.inj z))) d _ (ah.put nd) aq) λz=>go (by rw[tb];exact decide_eq_false λw=>z (by rw[w]))⟩
  ·rintro σ H' ⟨x0,rfl,rfl,pre⟩;rw[List.length_map,List.take_length] at pre;exact q (List.find?_eq_none.mpr λn hn=>by rw[pre n hn];simp)
theorem S7(T:Tx K mg A):a_ P w K mg base bw 3 A.u9 A.u_ ["self", "zones", "lap", "skew", "swing"] (Ow K):=by
 have S8:=Sm (P:=P) (w:=w) (base:=base) T;have S9:=So (P:=P) (w:=w) (base:=base) T;have S_:=SI (P:=P) (w:=w) (base:=base) T;have Tc:=Su (P:=P) (w:=w) (base:=base) T;have Td:=Sv (P:=P) (w:=w) (base:=base) T;have Te:=Sx (P:=P) (w:=w) (base:=base) T;refine T.Ib.ok RW (λvs H Q E h=>?_) (λaM Ar outer s H vs Q E hr h=>?_)
 ·obtain⟨C,p,dx,za,sa,iN,z,bg,cL,sw,rfl,_⟩:=h
  rfl
 ·obtain⟨C,p,dx,za,sa,iN,z,bg,cL,sw,rfl,cp,hp,hz,ok,h1,h2,h3,h4,hd,hS,so,q⟩:=h;refine⟨_,(az (cg (aL S8 (hr.mono (by first | decide | lia)) rfl T.HN T.A1.kp T.HM .nil aK (aa (pv 1) ao)))
   (az (cg (aL S9 (hr.mono (by first | decide | lia)) rfl T.HQ T.A2.kp T.HP .nil aK (aa (pv 1) (aa (pv 2) (aa (pv 3) ao)))))
   (az (fG (pv 0) (aL Tc (hr.mono (by first | decide | lia)) rfl T.HX T.A5.kp T.HW .nil aK (aa (pv 1) ao)) rfl)
   (az (cg (aL S_ (hr.mono (by first | decide | lia)) rfl T.HS T.A3.kp T.HR .nil aK (aa (pv 4) (aa (bI dG rfl T.c9 boot_len (aa (dm (pv 0) rfl) ao)) ao))))
   (az (fG (pv 0) (pv 2) rfl)
   (az (fG (pv 0) (pv 3) rfl)
   (az (fG (pv 0) (iJ ym rfl T.jA boot_list (aa (pv 4) ao)) rfl)
   (az (fG (pv 0) (aL Td (hr.mono (by first | decide | lia)) rfl T.HZ T.A6.kp T.HY .nil aK (aa (dm (pv 0) rfl) (aa aj ao))) rfl)
   (aF (fG (pv 0) (aL Te (hr.mono (by first | decide | lia)) rfl T.Ia T.A7.kp T.H_ .nil aK (aa (dm (pv 0) rfl) ao)) rfl)))))))))),?_⟩
  wp_walk using cp.cl,cp.n1,cp.n2,cp.n3,cp.n4,cp.n5,cp.n6;refine⟨za,iN,z,rfl,hz,ok,λH1 s1=>⟨za,iN,z,bg,cL,rfl,hz.same s1,ok,h1,h2,h3,h4,hd,?_⟩⟩;refine⟨za,iN,z,rfl,hz.same s1,ok,λa1 H2 s2 n1 e1=>?_⟩;have c_:=(s1.trans s2) _ _ hp;have qY:a1≠p:=(cQ (s1 _ _ hp) n1).symm;have cl:=sI z λp hp=>(ok.r p hp).1;have Zx:=ok.yN;have c2:=ok.s2;have BY:SameBut p H H2:=.of (s1.trans s2);have Tf:H a1=none:=s1.free n1;wp_walk using cp.cl,cp.n1,cp.n2,cp.n3,cp.n4,cp.n5,cp.n6,c_;refine⟨_,.inl (aD.of ((aG qY).trans e1)),?_⟩;have Jx:∀ {H':Hp},SameBut p H H'->aD K H' sa (sw.map V.int):=λ{H'} sb=>by
   rcases hS with(h | ⟨o,h⟩) | h
   ·exact .inl (.inl (sb _ _ h (iB h hp (by intro z;cases z))))
   ·exact .inl (.inr ⟨o,sb _ _ h (iB h hp (by intro z;cases z))⟩)
   ·exact .inr h
  refine⟨sa,sw,_,rfl,Jx BY.put,?_,?_,?_⟩
  ·simpa only[List.length_map,cl] using so
  ·simp only[List.length_map];lia
  wp_walk using cp.cl,cp.n1,cp.n2,cp.n3,cp.n4,cp.n5,cp.n6;refine⟨_,.inl (Jx BY.put),λa2 n2=>?_⟩;have iV:p≠a2:=cQ aq n2;have Jy:H2 a2=none:=by rw[aG iV.symm] at n2;exact n2
  wp_walk using cp.cl,cp.n1,cp.n2,cp.n3,cp.n4,cp.n5,cp.n6,aG iV;have Tg:a1≠a2:=cQ e1 Jy;have qZ:SameBut p H (upd (upd (upd H2 p (HO.ins C dx [(Str.ofString "ring_cells",V.ref a1),(Str.ofString "lap",V.int bg),(Str.ofString "skew",V.int cL)])) a2 (HO.lst (List.map V.int sw))) p
   (HO.ins C dx [(Str.ofString "ring_cells",V.ref a1),(Str.ofString "lap",V.int bg),(Str.ofString "skew",V.int cL),(Str.ofString "swing",V.ref a2)])):=(BY.put.step (ah.put n2)).put
  have ES:=e1;have Ti:H a2=none:=(s1.trans s2).free Jy;generalize BZ:upd (upd (upd H2 p _) a2 _) p _=H3 at qZ ⊢;have p3:H3 p=some (HO.ins C dx [(Str.ofString "ring_cells",V.ref a1),(Str.ofString "lap",V.int bg),(Str.ofString "skew",V.int cL),(Str.ofString "swing",V.ref a2)]):=by rw[← BZ,aq]
  have q1:H3 a1=some (.lst ((counts z).map V.int)):=by rw[← BZ,aG qY,aG Tg,aG qY];exact e1
  have q2:H3 a2=some (.lst (sw.map V.int)):=by rw[← BZ,aG iV.symm,aq]
  have cm:∀c∈counts z,0<=c/\c<=1000:=λc hc=>by
   obtain⟨y,hy,rfl⟩:=E_ hc;have:=ok.r y hy;lia
  refine⟨a1,counts z,0,rfl,aD.of q1,by lia,cm,by decide,by decide,λa3 ts H4 s4 n3 wU z4=>?_⟩
  have p4:=s4 _ _ p3;have B0:a3≠p:=(cQ p3 n3).symm;have gb:H a3=none:=by
   cases e:H a3 with
   | none=>rfl
   | some o=>rw[qZ _ _ e B0] at n3;cases n3
  have B3:∀t∈ts,t≠p:=λt ht=>(cQ p3 (wU t ht)).symm;have Tj:∀t∈ts,H t=none:=λt ht=>by
   cases e:H t with
   | none=>rfl
   | some o=>have:=qZ _ _ e (B3 t ht);rw[wU t ht] at this;cases this
  wp_walk using cp.cl,cp.n1,cp.n2,cp.n3,cp.n4,cp.n5,cp.n6,p4;have z5:=z4.keep (H':=upd H4 p (HO.ins C dx [(Str.ofString "ring_cells",V.ref a1),(Str.ofString "lap",V.int bg),(Str.ofString "skew",V.int cL),(Str.ofString "swing",V.ref a2),(Str.ofString "number_cells",V.ref a3)])) (aG B0) λt ht=>aG (B3 t ht);have zl:(lz (counts z) 0).length<=1000000:=by
   have:=sJ (s:=0) (by decide) (counts z) 0 cm
   have e:(counts z).length<=120:=by lia
   unfold lz;lia
  refine⟨a3,ts,_,rfl,z5,zl,λa4 H5 s5 n4 e4=>?_⟩;have B4:a4≠p:=(cQ aq n4).symm;have Tn:SameBut p H H5:=((qZ.step s4).put).step s5;have Jz:H4 a4=none:=by rw[aG B4] at n4;exact n4
  have To:H a4=none:=by
   cases e:H a4 with
   | none=>rfl
   | some o=>rw[(qZ.step s4) _ _ e B4] at Jz;cases Jz
  wp_walk using cp.cl,cp.n1,cp.n2,cp.n3,cp.n4,cp.n5,cp.n6,s5 _ _ aq;refine q _ dx a1 a2 a3 a4 ts Tn.put ?_ aq (jX.lit cp aq ?_ ?_ ?_ ?_)
  ·intro b hb;simp only[List.mem_cons] at hb;rcases hb with rfl | rfl | rfl | rfl | hb
   ·exact Tf
   ·exact Ti
   ·exact gb
   ·exact To
   ·exact Tj b hb
  ·rw[aG qY];exact s5 _ _ ((aG qY).trans (s4 _ _ q1))
  ·rw[aG iV.symm];exact s5 _ _ ((aG iV.symm).trans (s4 _ _ q2))
  ·exact(z5.same s5).keep (aG B0) λt ht=>aG (B3 t ht)
  ·rw[aG B4];exact e4
theorem Tp(T:Tx K mg A):a_ P w K mg base (dZ P w base) 3 A.qg A.vd ["self", "number"] (Rl K A.aZ):=by
 have JA:=Jh (P:=P) (w:=w) (base:=base) T;refine T.Ih.mR RY (λvs H Q E h=>?_) (λaM Ar outer s H vs Q E hr h=>?_)
 ·obtain⟨C,p,P,fp,k,rfl,_⟩:=h
  rfl
 ·obtain⟨C,p,P,fp,k,rfl,hP,q,qe⟩:=h;obtain⟨dx,a1,a2,a3,a4,ts,fs,rfl,h⟩:=hP;refine⟨_,(az (bA (PW.pt (eK (aR eN (pv 1) aj (aP _)) (fh (aR rQ (pv 1) (bI dG rfl T.c9 boot_len (aa (dm (pv 0) rfl) ao)) (aP _))))) (aF (zA (by exact zz) rfl T.nB T.lU PySem.F.excBase_ValueError rfl rfl JA (hr.mono (by first | decide | lia)) T.G_ (show Vals [.aH] [.none] from(.cons rfl .nil)) (aa (pv 1) ao))) bz)
   (aF (bD (aT cD (dm (pv 0) rfl) (pv 1) (λ_ _=>rfl))))),?_⟩
  wp_walk using h.o,h.f1,h.f2,h.f3,h.f4,h.f5,h.f6,h.m1,h.m2,h.m3,h.m4,h.m5,h.m6,h.m7,h.m8,h.m9,h.Ff,h.Fg,h.cp.cl,h.cp.n1,h.cp.n2,h.cp.n3,h.cp.n4,h.cp.n5,h.cp.n6;have hn:=h.nc.n;refine bu (λh0=>λd nd=>qe (by lia) d _ (ah.put nd) aq) λh0=>⟨_,.inl h.nc.sq,?_⟩
  rw[List.length_map];refine bu (λh1=>λd nd=>qe (by lia) d _ (ah.put nd) aq) λh1=>?_
  have hk:k.toNat<ts.length:=by lia
  have g1:(ts.map V.ref)[k.toNat]? = some (V.ref ts[k.toNat]):=by simp[hk]
  obtain⟨t,q',e1,e2,e3⟩:=h.nc.at g1;have ek:k=(k.toNat:Int):=by lia
  refine⟨_,h.nc.sq,V.ref ts[k.toNat],?_,?_⟩
  ·have:=cU g1;rwa [← ek] at this
  ·rw[e1];exact q (by lia) (by lia) t q' e2 e3
theorem Tq(T:Tx K mg A):a_ P w K mg base bw 3 A.vE A.vF ["_law_cell", "_law_total", "_law_lap_here", "_law_at_here", "_law_others"] (Pz K):=by
 have bE:=lW (P:=P) (w:=w) (base:=base) T;have Tr:=SR (P:=P) (w:=w) (base:=base) T;refine T.Bg.ok fO (λvs H Q E h=>?_) (λaM Ar outer s H vs Q E hr h=>?_)
 ·obtain⟨c,T',bg,a,oa,os,rfl,_⟩:=h
  rfl
 ·obtain⟨c,T',bg,a,oa,os,rfl,t0,t1,l0,l1,a0,a1,ho,hR,q⟩:=h;refine⟨_,(az (aX (i:=5) fO.nd rfl (Or.inl rfl) (cH (aa bC (aa bC (aa bC (aa bC (aa bC (aa bC (aa bC (aa bC (aa bC (aa bC (aa bC ao)))))))))))))
   (az (aX (i:=5) fO.nd rfl (Or.inl rfl) (aT cD (pv 5) (aA bG (aL bE (hr.mono (by first | decide | lia)) rfl T.bL T.bJ.kp T.bK .nil aK (aa (pv 0) (aa aj ao))) aj) (λ_ _=>rfl)))
   (az (aX (i:=3) fO.nd rfl (Or.inl rfl) (aA bF (pv 3) (aA jf (aA bG (aL bE (hr.mono (by first | decide | lia)) rfl T.bL T.bJ.kp T.bK .nil aK (aa (pv 0) (aa aj ao))) aj) (aA bG (aL bE (hr.mono (by first | decide | lia)) rfl T.bL T.bJ.kp T.bK .nil aK (aa (pv 0) (aa aj ao))) (aA bF (aA rP (pv 2) aj) aj)))))
   (az (bA (aR b7 (pv 5) bC (aP _)) (aF (bD (dg (aa (pv 5) (aa aj (aa aj (aa (dg ao) (aa (pv 3) (aa aj (aa kM (aa (dg ao) ao))))))))))) bz)
   (az (aX (i:=6) fO.nd rfl (Or.inl rfl) (aA bG (aL bE (hr.mono (by first | decide | lia)) rfl T.bL T.bJ.kp T.bK .nil aK (aa (pv 0) (aa aj ao))) (pv 1)))
   (az (aX (i:=7) fO.nd rfl (Or.inl rfl) (aA bF aj (aA bG (aL bE (hr.mono (by first | decide | lia)) rfl T.bL T.bJ.kp T.bK .nil aK (aa (pv 0) (aa aj ao))) (bI (xV rfl) rfl T.nv boot_min (aa aj (aa (aA dU (pv 1) (pv 6)) ao))))))
   (az (fU (bA (aR b7 (aA bG (aL bE (hr.mono (by first | decide | lia)) rfl T.bL T.bJ.kp T.bK .nil aK (aa (pv 0) (aa aj ao))) aj) aj (aP _)) (aF (aX (i:=7) fO.nd rfl (Or.inl rfl) (bI (xV rfl) rfl T.nv boot_min (aa aj (aa (aA dU (pv 1) (pv 6)) ao))))) bz))
   (az (aX (i:=8) fO.nd rfl (Or.inl rfl) (aA bG (aL bE (hr.mono (by first | decide | lia)) rfl T.bL T.bJ.kp T.bK .nil aK (aa (pv 0) (aa aj ao))) aj))
   (az (fU (bA (aR b7 (aA bG (aL bE (hr.mono (by first | decide | lia)) rfl T.bL T.bJ.kp T.bK .nil aK (aa (pv 0) (aa aj ao))) aj) aj (aP _)) (aF (aX (i:=8) fO.nd rfl (Or.inl rfl) aj)) bz))
   (az (aX (i:=9) fO.nd rfl (Or.inl rfl) kM)
   (az (fU (bA (aR b7 (aA bG (aL bE (hr.mono (by first | decide | lia)) rfl T.bL T.bJ.kp T.bK .nil aK (aa (pv 0) (aa aj ao))) aj) aj (aP _)) (aF (aX (i:=9) fO.nd rfl (Or.inl rfl) (aA bF (pv 3) (aA bG (aL bE (hr.mono (by first | decide | lia)) rfl T.bL T.bJ.kp T.bK .nil aK (aa (pv 0) (aa aj ao))) (aA bF (aA jf aj (pv 2)) aj))))) bz))
   (az (aX (i:=10) fO.nd rfl (Or.inl rfl) (dg ao))
   (az (fU (bA (aR b7 (aA bG (aL bE (hr.mono (by first | decide | lia)) rfl T.bL T.bJ.kp T.bK .nil aK (aa (pv 0) (aa aj ao))) aj) aj (aP _)) (aF (aX (i:=10) fO.nd rfl (Or.inl rfl) (iJ kY rfl T.gn boot_tuple (aa (sF (N:=["_law_k", "_law_cell"]) (nt:=1) (fv:=[0]) (cI.of rfl rfl (by rfl) (by rfl) (by repeat (first | exact trivial | refine⟨rfl,?_⟩)) (by rfl) (by rfl) (by rfl) (by decide) (by decide +kernel)) rfl (fZ (pv 4)) (λC s H fp=>(bH (i:=0) (show List.Nodup (["_law_k", "_law_cell"]:List Str) by decide +kernel) rfl (Or.inl rfl))) (λC s H fp=>(k8 (aR b7 (aA bG (aL bE (hr.mono (by first | decide | lia)) rfl T.bL T.bJ.kp T.bK .nil aK (aa (pv 1) (aa (aA bF aj (pv 0)) ao))) aj) aj (aP _)))) (λC s H fp=>(pv 0))) ao)))) bz))
   (az (aX (i:=11) fO.nd rfl (Or.inl rfl) (dg ao))
   (az (fU (bA (aR fR (pv 5) bC (aP _)) (aF (aX (i:=11) fO.nd rfl (Or.inl rfl) (iJ kY rfl T.gn boot_tuple (aa (aL Tr (hr.mono (by first | decide | lia)) rfl T.Iw T.Bf.kp T.Iv .nil aK (aa (pv 0) (aa (pv 7) ao))) ao)))) bz))
   (aF (bD (dg (aa (pv 5) (aa (pv 6) (aa (pv 7) (aa (pv 11) (aa (pv 3) (aa (pv 8) (aa (pv 9) (aa (pv 10) ao)))))))))))))))))))))))))),?_⟩
  wp_walk using cF;have md:∀(x n:Int),0<n->0<=x % n/\x % n<n:=λx n h=>⟨Int.emod_nonneg _ (by lia),Int.emod_lt_of_pos _ h⟩
  intro kp Tt;obtain⟨k,ek,hk⟩:=Pw (md (mix c 10) 11 (by decide)).1 (md (mix c 10) 11 (by decide)).2
  have d1:=md (mix c 11) 4 (by decide)
  have d2:=md (mix c 12) (bg / 2+1) (by lia)
  refine⟨pO,aD.of aq,.str k,ek,by lia,.inl ⟨by lia,by lia⟩,rfl,?_⟩
  have d3:=Px d1.1 d1.2 d2.1 d2.2 l1;generalize mix c 11 % 4*(mix c 12 % (bg / 2+1))=st at d3 ⊢;have s1:=ah.put (o:=.lst pO) Tt;have eH:upd H kp (.lst pO)=upd H kp (HO.lst [V.str "read",V.str "read",V.str "read",V.str "read",V.str "write",V.str "write",V.str "write",V.str "write",V.str "early",V.str "early",V.str "rest"]):=rfl;rw[← eH];generalize upd H kp (.lst pO)=H1 at s1 ⊢;refine bu (λe=>?_) λe=>?_
  ·intro p1 n1 p2 n2 p3 n3;have s2:=(ah.put (o:=.tup []) n1).trans ((ah.put (o:=.tup []) n2).trans (ah.put (o:=.tup [V.str k,V.int 0,V.int 0,V.ref p1,V.int (a+st),V.int 0,V.aH,V.ref p2]) n3));have e':k = "rest" := V.str.inj e;refine q p3 ⟨k,0,0,[],a+st,0,none,[]⟩ p1 p2 _ (s1.trans s2) ((s1.trans ((ah.put n1).trans (ah.put n2))).free n3) ⟨aq,?_,?_⟩ ⟨.rest e' rfl rfl rfl rfl rfl rfl (by dsimp only;lia) (by dsimp only;lia),by dsimp only;lia,by dsimp only;lia,(λn h=>nomatch h)⟩
   ·exact ah.put n3 _ _ (ah.put n2 _ _ aq)
   ·exact ah.put n3 _ _ aq
  ·have Tu:k≠"rest" := λz=>e (by rw[z])
   have f:=md (mix c 13) T' (by lia)
   generalize mix c 13 % T' = fi at f ⊢;refine⟨by lia,by split <;> lia,λσ H'=>∃mn,σ = [some (.int c),some (.int T'),some (.int bg),some (.int (a+st)),some (.ref oa),some (.str k),some (.int fi),some (.int mn),none,none,none,none]/\H' = H1/\1<=mn/\mn<=16/\fi+mn<=T',bu (λ_=>⟨_,rfl,rfl,by split <;> lia,by split <;> lia,by split <;> lia⟩) (λ_=>?_),?_⟩
   ·have dd:(if T' - fi<4 then T' - fi else 4)<=4/\(if T' - fi<4 then T' - fi else 4)<=T' - fi/\0<(if T' - fi<4 then T' - fi else 4):=by split <;> lia
    generalize (if T' - fi<4 then T' - fi else 4)=d at dd ⊢
    have:=md (mix c 14) d dd.2.2;exact⟨_,rfl,rfl,by lia,by lia,by lia⟩
   rintro gR H2 ⟨mn,rfl,rfl,b1,b2,b3⟩;wp_walk using cF;have d4:=md (mix c 16) 4 (by decide)
   refine⟨λσ H'=>∃ak,σ = [some (.int c),some (.int T'),some (.int bg),some (.int (a+st)),some (.ref oa),some (.str k),some (.int fi),some (.int mn),some (.int ak),none,none,none]/\H' = H2/\0<=ak/\ak<=20,bu (λ_=>⟨20,rfl,rfl,by lia,by lia⟩) (λ_=>⟨_,rfl,rfl,by lia,by lia⟩),?_⟩
   rintro gR H3 ⟨ak,rfl,rfl,b4,b5⟩;wp_walk using cF;have d5:=md (mix c 19) (2*bg+1) (by lia)
   refine⟨λσ H'=>∃lt,σ = [some (.int c),some (.int T'),some (.int bg),some (.int (a+st)),some (.ref oa),some (.str k),some (.int fi),some (.int mn),some (.int ak),some (dO lt),none,none]/\H' = H3/\∀x,lt=some x->0<=x/\x<=10000000000000,bu (λ_=>⟨by lia,some _,rfl,rfl,λx hx=>by cases hx;lia⟩) (λ_=>⟨none,rfl,rfl,(λx hx=>nomatch hx)⟩),?_⟩
   rintro gR H4 ⟨lt,rfl,rfl,b6⟩;wp_walk using cF;intro bp Tv;have s4:=ah.put (o:=.tup []) Tv;have JC:upd H4 bp (.tup []) bp=some (.tup []):=aq;generalize upd H4 bp (.tup [])=H5 at s4 JC ⊢;have JD:=(s1.trans s4) _ _ ho;have eT:=hR.len;refine⟨λσ H'=>∃b bs,σ = [some (.int c),some (.int T'),some (.int bg),some (.int (a+st)),some (.ref oa),some (.str k),some (.int fi),some (.int mn),some (.int ak),some (dO lt),some (.ref b),none]/\ah H5 H'/\H' b=some (.tup (bs.map V.int))/\bs.Sublist os,bu (λ_=>?_) (λ_=>⟨bp,[],rfl,ah.refl _,JC,List.nil_sublist _⟩),?_⟩
   ·refine pq oa (os.map V.int) (λD i ys au H6=>∃(u:Option V) (bs:List Int),ys=bs.map V.int/\bs.Sublist (os.take i)/\au = [u,some (.int c)]/\H6 D=some (.lst ys)/\ah H5 H6/\H5 D=none) (λQ q=>⟨_,rfl,q⟩) (aD.of JD) ?_ ?_ ?_ ?_
    ·intro D hD;exact⟨none,[],rfl,List.nil_sublist _,rfl,aq,ah.put hD,hD⟩
    ·rintro D i ys au H6 ⟨u,bs,rfl,g1,rfl,g2,g3,g4⟩;have:=g1.length_le;rw[List.length_take] at this;exact⟨g2,gB (by rw[List.length_map];lia),aD.of (g3 _ _ JD)⟩
    ·rintro D i x ys au H6 N hN hx ⟨u,bs,rfl,g1,rfl,g2,g3,g4⟩;obtain⟨n,hn,rfl⟩:=gF hx;have Zy:=hR.lo n (get_mem hn);have Zz:=hR.hi n (get_mem hn);wp_walk using cF;refine⟨by lia,by lia,bu (λ_=>⟨g2,hN _ _ _ ⟨_,bs++[n],by rw[List.map_append];rfl,?_,rfl,aq,ah.put2 g3 g4,g4⟩⟩) λ_=>hN _ _ _ ⟨_,bs,rfl,?_,rfl,g2,g3,g4⟩⟩
     ·rw[take_succ_get hn];exact g1.append (List.Sublist.refl _)
     ·rw[take_succ_get hn];exact g1.trans (List.sublist_append_left _ _)
    ·rintro D ys au H6 ⟨u,bs,rfl,g1,rfl,g2,g3,g4⟩;rw[List.length_map,List.take_length] at g1;exact⟨D,rfl,_,.inl ⟨aD.of g2,λl nl=>⟨l,bs,rfl,g3.trans (ah.put nl),aq,g1⟩⟩⟩
   rintro gR H6 ⟨b,bs,rfl,s6,Tw,B5⟩;wp_walk using cF;intro mp Tz;have s7:=ah.put (o:=.tup []) Tz;have JE:upd H6 mp (.tup []) mp=some (.tup []):=aq;generalize upd H6 mp (.tup [])=H7 at s7 JE ⊢;refine⟨λσ H'=>∃mk ms,σ = [some (.int c),some (.int T'),some (.int bg),some (.int (a+st)),some (.ref oa),some (.str k),some (.int fi),some (.int mn),some (.int ak),some (dO lt),some (.ref b),some (.ref mk)]/\ah H7 H'/\H' mk=some (.tup (ms.map V.int))/\((k = "read"/\ms = [])\/(k≠"read"/\(ms.length:Int)=mn/\∀x∈ms,0<=x/\x<=1000000000)),bu (λB6=>?_) (λB6=>⟨mp,[],rfl,ah.refl _,JE,.inl ⟨Classical.not_not.mp B6,rfl⟩⟩),?_⟩
   ·exact⟨c,mn,rfl,by lia,b2,λl ms H8 s8 nl hl hlen nJ=>⟨l,rfl,_,.inl ⟨aD.of hl,λl2 q8=>⟨l2,ms,rfl,s8.trans (ah.put q8),aq,.inr ⟨B6,hlen,nJ⟩⟩⟩⟩⟩
   rintro gR H8 ⟨mk,ms,rfl,s8,TF,nJ⟩;wp_walk using cF;intro t nt;have s9:=(s4.trans s6).trans (s7.trans s8);have kC:=s1.trans s9;have B:j_ fi mn (a+st) ak lt:=⟨f.1,by lia,b1,b2,by lia,by lia,b4,b5,b6⟩
   refine q t ⟨k,fi,mn,ms,a+st,ak,lt,bs⟩ mk b _ (kC.trans (ah.put nt)) (kC.free nt) ⟨aq,ah.put nt _ _ TF,ah.put nt _ _ ((s7.trans s8) _ _ Tw)⟩ ⟨?_,by dsimp only;lia,by dsimp only;lia,λn hn=>B5.subset hn⟩
   rcases nJ with⟨h1,h2⟩ | ⟨h1,h2,h3⟩
   ·exact .read h1 h2 B (hR.sub B5) b3
   ·refine .write ?_ h2 h3 B (hR.sub B5) b3;rcases hk with z | z | z | z
    ·exact absurd z Tu
    ·exact absurd z h1
    ·exact .inl z
    ·exact .inr z
theorem TJ(T:Tx K mg A):a_ P w K mg base bw 3 A.vQ A.vR ["_law_specs_here", "_law_total"] RB:=by
 have TL:=SS (P:=P) (w:=w) (base:=base) T;refine T.Bp.ok tZ (λvs H Q E h=>?_) (λaM Ar outer s H vs Q E hr h=>?_)
 ·obtain⟨la,T',ts,qs,rfl,_⟩:=h
  rfl
 ·obtain⟨la,T',ts,qs,rfl,ha,on,sv,q⟩:=h;refine⟨_,(az (cR PassesOwn.never rfl (iG rfl T.dP (aa (bI dG rfl T.c9 boot_len (aa (pv 0) ao)) ao)) (bH (i:=2) tZ.nd rfl (Or.inl rfl))
   (az (aX (i:=3) tZ.nd rfl (Or.inl rfl) (aT cD (pv 0) (pv 2) (λ_ _=>rfl)))
   (az (fU (bA (PW.pt (jd (aR gf (pv 2) aj (aP _)) (jc (aR eN (aT bR (pv 3) aj (λ_ _=>rfl)) (aT bR (aT cD (pv 0) (aA dU (pv 2) aj) (λ_ _=>rfl)) aj (λ_ _=>rfl)) (aP _))))) (aF (bD (cH (aa bC (aa (pv 2) (aa (aA dU (pv 2) aj) (aa fP ao))))))) bz))
   (az (fU (bA (PW.pt (jd (aR fR (aT bR (pv 3) aj (λ_ _=>rfl)) bC (aP _)) (jc (aR gf (aA bF (aT bR (pv 3) aj (λ_ _=>rfl)) (aT bR (pv 3) aj (λ_ _=>rfl))) (pv 1) (aP _))))) (aF (bD (cH (aa bC (aa (bI (DZ rfl) rfl T.qF boot_max (aa (aT bR (pv 3) aj (λ_ _=>rfl)) (aa (pv 1) ao))) (aa (pv 2) (aa fP ao))))))) bz))
   (aF (cR PassesOwn.never rfl (rM (aT bR (pv 3) aj (λ_ _=>rfl))) (bH (i:=4) tZ.nd rfl (Or.inl rfl))
   (aF (bA (PW.pt (eK (aR rQ (pv 4) (pv 2) (aP _)) (fh (aR b7 (aT bR (aT cD (pv 0) (pv 4) (λ_ _=>rfl)) aj (λ_ _=>rfl)) bC (aP _))))) (aF (bD (cH (aa bC (aa (pv 2) (aa (pv 4) (aa fP ao))))))) bz))))))))
   (aF (bD (cH (aa bC (aa (aL TL (hr.mono (by first | decide | lia)) rfl T.IK T.Bl.kp T.IJ .nil aK (aa (pv 0) ao)) ao)))))),?_⟩
  walk_at "rdt";refine sM qs.length (λk σ H'=>∃x1 x2 x3,σ = [some (.ref la),some (.int (T':Int)),x1,x2,x3]/\ah H H'/\fB (T':Int) (qs.map bT) k=none) (λQ q=>?_) (by lia) ⟨none,none,none,rfl,ah.refl _,rfl⟩ ?_ ?_
  ·walk_at "rdm";refine⟨_,.inl (aD.of ha.l),?_⟩;simpa[ha.n] using q
  ·rintro k σ H' N hN hk ⟨x1,x2,x3,rfl,s1,fx⟩;have iZ:=List.getElem?_eq_getElem hk;have JF:k<ts.length:=by rw[ha.n];exact hk
   obtain⟨m,b,hz⟩:=ha.t k _ _ (List.getElem?_eq_getElem JF) iZ;have kD:=hz.same s1;have ll:aD K H' la (ts.map V.ref):=aD.of (s1 _ _ ha.l);have B7:(qs.map bT)[k]? = some (bT qs[k]):=by rw[List.getElem?_map,iZ];rfl
   have e1:(ts.map V.ref)[k]? = some (V.ref ts[k]):=by rw[List.getElem?_map,List.getElem?_eq_getElem JF];rfl
   have at_:∀j:Nat,(hj:j<qs.length)->∃t m b,(ts.map V.ref)[j]? = some (V.ref t)/\eY H' t qs[j] m b:=λj hj=>by
    have qR:j<ts.length:=by rw[ha.n];exact hj
    obtain⟨m,b,w⟩:=ha.t j _ _ (List.getElem?_eq_getElem qR) (List.getElem?_eq_getElem hj);exact⟨_,m,b,by rw[List.getElem?_map,List.getElem?_eq_getElem qR];rfl,w.same s1⟩
   have ret:∀(o:lO) (r:Addr) (H2:Hp),iw (T':Int) (qs.map bT) k=some o->ah H' H2->Rep H2 4 (.ref r) (zQ ((List.range qs.length).map (fz qs)) (some o))->Q (.ref r) H2:=λo r H2 st s2 rep=>q r H2 (s1.trans s2) (by rw[tM fx st hk];exact rep)
   have sk:=sv _ (List.getElem_mem hk);have i6:=sk.ak;walk_at "rdm";refine⟨_,ll,_,cU e1,λσ H1=>σ = [some (V.ref la),some (V.int (T':Int)),some (V.int (k:Int)),some (V.ref ts[k]),x3]/\H1=H'/\gm (qs.map bT) k (bT qs[k])=false,?_,?_⟩
   ·refine bu (λh0=>?_) (λh0=>⟨rfl,rfl,by unfold gm;rw[decide_eq_false (by lia)];rfl⟩)
    have h1:k - 1<qs.length:=by lia
    obtain⟨t0,m0,b0,e2,jD⟩:=at_ (k - 1) h1;have qT:eu (ts.map V.ref) ((k:Int) - 1)=some (.ref t0):=by
     have:=cU e2;rwa [show ((k - 1:Nat):Int)=(k:Int) - 1 by lia] at this
    have bb:gm (qs.map bT) k (bT qs[k])=decide (qs[k].at_<qs[k - 1].at_):=by
     unfold gm;rw[decide_eq_true (show 0<k by lia),List.getElem?_map,List.getElem?_eq_getElem h1];rfl
    refine⟨_,rfl,_,aJ.of kD.o,_,rfl,_,ll,_,qT,_,rfl,_,aJ.of jD.o,_,rfl,_,rfl,_,rfl,bu (λh2=>λr nr=>?_) λh2=>⟨rfl,rfl,by rw[bb];exact decide_eq_false h2⟩⟩
    exact ret _ r _ (GL B7 (by rw[bb];exact decide_eq_true h2)) (ah.put nr) (Rep.jY (n:=3) aq ⟨.str _,.int _,.int _,.bl _,trivial⟩)
   rintro _ H1 ⟨rfl,eH,bb⟩;rw[eH];clear eH H1;walk_at "rdm";refine⟨λσ H1=>σ = [some (V.ref la),some (V.int (T':Int)),some (V.int (k:Int)),some (V.ref ts[k]),x3]/\H1=H'/\¬ (T':Int)<qs[k].first+qs[k].many,?_,?_⟩
   ·refine⟨_,aJ.of kD.o,_,rfl,rfl,bu (λJG=>⟨_,aJ.of kD.o,_,rfl,_,aJ.of kD.o,_,rfl,_,rfl,_,rfl,bu (λh2=>⟨_,aJ.of kD.o,_,rfl,_,rfl,λr nr=>?_⟩) λh2=>⟨rfl,rfl,h2⟩⟩) λJG=>⟨rfl,rfl,?_⟩⟩
    ·have mx:(if qs[k].first<(T':Int) then(T':Int) else qs[k].first)=max qs[k].first (T':Int):=by split <;> lia
     rw[mx];exact ret _ r _ (GN B7 bb h2) (ah.put nr) (Rep.jY (n:=3) aq ⟨.str _,.int _,.int _,.bl _,trivial⟩)
    ·have kr:qs[k].kind = "rest" := V.str.inj (Classical.not_not.mp JG);cases sk with
     | rest h1 h2 h3=>rw[h2,h3];lia
     | read h1=>rw[kr] at h1;exact absurd h1 (cK (by decide))
     | write h1=>rcases h1 with h1 | h1 <;> (rw[kr] at h1;exact absurd h1 (cK (by decide)))
   rintro _ H1 ⟨rfl,eH,ft⟩;rw[eH];clear eH H1;have st:=GO (T:=(T':Int)) B7 bb ft;refine rt b (qs[k].behind.map V.int) (λi σ H2=>∃(x:Option V),σ = [some (.ref la),some (.int (T':Int)),some (.int (k:Int)),some (.ref ts[k]),x]/\H2=H'/\∀n∈qs[k].behind.take i,eZ (qs.map bT) k n=false) (λQ q=>?_) (aJ.of kD.bh) ⟨x3,rfl,rfl,by simp⟩ (by rintro i σ H' _ ⟨_,rfl,rfl,_⟩;exact aJ.of kD.bh) ?_ ?_
   ·walk_at "rdm";exact⟨_,aJ.of kD.o,_,rfl,q⟩
   ·rintro i x σ H2 N2 jB hx ⟨x0,rfl,rfl,pre⟩;obtain⟨n,hn,rfl⟩:=gF hx;have n0:=i6.2.2.2.2.2.2 n (get_mem hn);walk_at "rdm";have stop:eZ (qs.map bT) k n=true->iw (T':Int) (qs.map bT) k=some (.order k n):=λtb=>by
     have:qs[k].behind.find? (eZ (qs.map bT) k)=some n:=by
      rw[List.find?_eq_some_iff_append];refine⟨tb,qs[k].behind.take i,qs[k].behind.drop (i+1),?_,λa ha=>by rw[pre a ha];rfl⟩
      have hi:=dY hn;rw[List.getElem?_eq_getElem hi] at hn;rw[← Option.some.inj hn,← List.drop_eq_getElem_cons hi,List.take_append_drop]
     rw[st]
     show (qs[k].behind.find? _).map _=_;rw[this];rfl
    refine bu (λh1=>λr nr=>ret _ r _ (stop (by unfold eZ;rw[decide_eq_true h1];rfl)) (ah.put nr) (Rep.jY (n:=3) aq ⟨.str _,.int _,.int _,.bl _,trivial⟩)) λh1=>?_
    have hj:n.toNat<qs.length:=by lia
    obtain⟨t0,m0,b0,e3,jD⟩:=at_ n.toNat hj;have BX:eu (ts.map V.ref) n=some (.ref t0):=by
     have:=cU e3;rwa [show ((n.toNat:Nat):Int)=n by lia] at this
    have tb:eZ (qs.map bT) k n=decide (qs[n.toNat].kind = "rest"):=by
     unfold eZ zO;rw[decide_eq_false h1,List.getElem?_map,List.getElem?_eq_getElem hj]
     show (false || decide ((bT qs[n.toNat]).kind = "rest"))=_
     rw[Bool.false_or,decide_eq_decide];exact Rz
    refine⟨_,ll,_,BX,_,rfl,_,aJ.of jD.o,_,rfl,rfl,bu (λz=>λr nr=>ret _ r _ (stop (by rw[tb];exact decide_eq_true (V.str.inj z))) (ah.put nr) (Rep.jY (n:=3) aq ⟨.str _,.int _,.int _,.bl _,trivial⟩)) λz=>jB _ _ ⟨_,rfl,rfl,λa ha=>?_⟩⟩
    rw[take_succ_get hn,List.mem_append] at ha;rcases ha with ha | ha
    ·exact pre a ha
    ·rw[List.mem_singleton.mp ha,tb];exact decide_eq_false λw=>z (by rw[w])
   ·rintro σ H2 ⟨x0,rfl,rfl,pre⟩;rw[List.length_map,List.take_length] at pre;refine hN _ _ ⟨_,_,_,rfl,s1,GP fx ?_⟩;rw[st,List.find?_eq_none.mpr λn hn=>by rw[pre n hn];simp];rfl
  ·rintro σ H' ⟨x1,x2,x3,rfl,s1,fx⟩;walk_at "rdm";have B8:∀r∈(List.range qs.length).map (fz qs),r.length<=1000000:=λr hr=>by
    obtain⟨k,hk,rfl⟩:=List.mem_map.mp hr;have:=List.mem_range.mp hk;unfold fz;rw[List.length_map];refine Nat.le_trans (List.length_filter_le _ _) ?_;rw[List.length_range];lia
   have B9:((List.range qs.length).map (fz qs)).length<=1000000:=by rw[List.length_map,List.length_range];lia
   refine⟨la,ts,qs,rfl,ha.same s1,on,λq' b8=>(sv q' b8).ak.2.2.2.2.2.1,λl us H2 s2 nl TM hZ r nr=>?_⟩;refine q r _ (s1.trans (s2.trans (ah.put nr))) ?_;rw[fx];exact Rep.jY (n:=3) aq ⟨.str _,(hZ.same (ah.put nr)).rep B9 B8 1,trivial⟩
theorem TN(T:Tx K mg A):a_ P w K mg base bw 4 A.uv A.uw ["first", "many", "at", "asker", "latest", "behind"] (Pp K A.bx):=by
 have qX:=BN (P:=P) (w:=w) (base:=base) T;have B_:=Jw (P:=P) (w:=w) (base:=base) T;have Ca:=Jj (P:=P) (w:=w) (base:=base) T;refine T.AQ.ok G0 (λvs H Q E h=>?_) (λaM Ar outer s H vs Q E hr h=>?_)
 ·obtain⟨f,m,a,s',l,bv,ns,rfl,_⟩:=h
  rfl
 ·obtain⟨f,m,a,s',l,bv,ns,rfl,hB,hv,hR,q⟩:=h;refine⟨_,(az (aX (i:=6) G0.nd rfl (Or.inl rfl) (aL Ca (hr.mono (by first | decide | lia)) rfl T.AO T.v_.kp T.AN .nil aK (aa (pv 5) ao)))
   (az (cg (aL B_ (hr.mono (by first | decide | lia)) rfl T.AM T.vZ.kp T.AL .nil aK (aa (pv 0) (aa (pv 1) (aa (pv 2) (aa (pv 3) (aa (pv 4) (aa (pv 6) ao))))))))
   (aF (bD (rT T.wg qX (hr.mono (by first | decide | lia)) rfl T.wj T.vY .nil aK (aa bC (aa (pv 0) (aa (pv 1) (aa (dg ao) (aa (pv 2) (aa (pv 3) (aa (pv 4) (aa (pv 6) (aa fP ao)))))))))))))),?_⟩
  walk_at "rdt";refine⟨_,ns,rfl,hv,λb H1 s1 hb=>?_⟩;walk_at "rdt";refine⟨_,_,_,_,_,_,ns,rfl,hB,aJ.of hb,hR,?_⟩;walk_at "rdt";intro mk nm x dx nx iQ jw;refine⟨x,dx,_,_,_,_,_,_,_,_,_,rfl,aq,rfl,?_⟩;obtain⟨a1,a2,a3⟩:=zf (K:=K) (C:=A.bx) (q:=⟨"read",f,m,[],a,s',l,ns,false⟩) (s1.trans (ah.put nm)) nx iQ jw aq (ah.put nm _ _ hb);exact q _ _ _ _ _ a1 a2 a3
theorem TQ(T:Tx K mg A):a_ P w K mg base bw 4 A.ux A.uy ["first", "marks", "at", "asker", "latest", "behind", "early"] (Pq K A.bx):=by
 have qX:=BN (P:=P) (w:=w) (base:=base) T;have iz:=wO (P:=P) (w:=w) (base:=base) T;have B_:=Jw (P:=P) (w:=w) (base:=base) T;have Ca:=Jj (P:=P) (w:=w) (base:=base) T;refine T.AR.ok AF (λvs H Q E h=>?_) (λaM Ar outer s H vs Q E hr h=>?_)
 ·obtain⟨f,a,s',ma,ms,l,bv,ns,e,rfl,_⟩:=h
  rfl
 ·obtain⟨f,a,s',ma,ms,l,bv,ns,e,rfl,hm,nJ,hB,hv,hR,q⟩:=h;refine⟨_,(az (aX (i:=7) AF.nd rfl (Or.inl rfl) (aL Ca (hr.mono (by first | decide | lia)) rfl T.AO T.v_.kp T.AN .nil aK (aa (pv 5) ao)))
   (az (cg (aL B_ (hr.mono (by first | decide | lia)) rfl T.AM T.vZ.kp T.AL .nil aK (aa (pv 0) (aa (bI dG rfl T.c9 boot_len (aa (pv 1) ao)) (aa (pv 2) (aa (pv 3) (aa (pv 4) (aa (pv 7) ao))))))))
   (az (cR PassesOwn.never rfl (fZ (pv 1)) (bH (i:=8) AF.nd rfl (Or.inl rfl))
   (aF (cg (aL iz (hr.mono (by first | decide | lia)) rfl T.jz T.iX.kp T.jy .nil aK (aa (pv 8) (aa aj (aa (dR (v:=.int 1000000000) rfl T.IX ⟨_,rfl⟩) (aa bC ao))))))))
   (aF (bD (rT T.wg qX (hr.mono (by first | decide | lia)) rfl T.wj T.vY .nil aK (aa bC (aa (pv 0) (aa (bI dG rfl T.c9 boot_len (aa (pv 1) ao)) (aa (iJ kY rfl T.gn boot_tuple (aa (pv 1) ao)) (aa (pv 2) (aa (pv 3) (aa (pv 4) (aa (pv 7) (aa (pv 6) ao))))))))))))))),?_⟩
  walk_at "rdt";refine⟨_,ns,rfl,hv,λb H1 s1 hb=>?_⟩;walk_at "rdt";refine⟨_,.inl (s1.seq hm),?_⟩;simp only[List.length_map];refine⟨_,_,_,_,_,_,ns,rfl,hB,aJ.of hb,hR,?_⟩
  try dsimp only
  have mQ:=s1.seq hm;refine rl ma (ms.map V.int) (λi σ H'=>∃x,σ = [some (.int f),some (.ref ma),some (.int a),some (.int s'),some (dO l),some bv,some (.bl e),some (.ref b),x]/\H' = H1) (λQ q=>⟨_,rfl,q⟩) mQ ⟨none,rfl,rfl⟩ (by rintro i σ H' _ ⟨x,rfl,rfl⟩;exact mQ) ?_ ?_
  ·rintro i x σ H' N hN hx ⟨x0,rfl,rfl⟩;obtain⟨n,hn,rfl⟩:=gF hx;walk_at "rdm";exact⟨n,0,1000000000,_,rfl,(nJ n (get_mem hn)).1,(nJ n (get_mem hn)).2,hN _ _ ⟨_,rfl,rfl⟩⟩
  ·rintro σ H' ⟨x0,rfl,rfl⟩;walk_at "rdt";refine⟨_,.inl mQ,_,.inl ⟨mQ,λmk nm=>?_⟩⟩;intro x dx nx iQ jw;refine⟨x,dx,_,_,_,_,_,_,_,_,_,rfl,aq,rfl,?_⟩;simp only[List.length_map];obtain⟨a1,a2,a3⟩:=zf (K:=K) (C:=A.bx) (q:=⟨"write",f,ms.length,ms,a,s',l,ns,e⟩) (s1.trans (ah.put nm)) nx iQ jw aq (ah.put nm _ _ hb);exact q _ _ _ _ _ a1 a2 a3
theorem TR(T:Tx K mg A):a_ P w K mg base (dZ P w base) 4 A.uD A.uE ["plate", "ask"] (Rm K [A.bO] A.bx A.aZ):=by
 have TU:=Tp (P:=P) (w:=w) (base:=base) T;refine T.AV.mR RU (λvs H Q E h=>?_) (λaM Ar outer s H vs Q E hr h=>?_)
 ·obtain⟨C,p,ap,P,fp,q',m,b,dx,rfl,_⟩:=h
  rfl
 ·obtain⟨C,p,ap,P,fp,q',m,b,dx,rfl,hC,hP,ha,f0,f1,m0,m1,hn,q,qe⟩:=h;refine⟨_,(aF (bD (Qy (by exact Gv) rfl rfl rfl (N:=["number", "plate"]) (nt:=1) (fv:=[0]) (cI.of rfl rfl (by rfl) (by rfl) (by repeat (first | exact trivial | refine⟨rfl,?_⟩)) (by rfl) (by rfl) (by rfl) (by decide) (by decide +kernel)) rfl (kQ rfl T.dP (aa (dm (pv 1) rfl) (aa (aA bF (dm (pv 1) rfl) (dm (pv 1) rfl)) ao))) (λC s H fp=>(bH (i:=0) (show List.Nodup (["number", "plate"]:List Str) by decide +kernel) rfl (Or.inl rfl))) (λC s H fp=>oZ) (λC s H fp=>(Rk (pv 1) T.Sh TU (hr.mono (by first | decide | lia)) T.Ii .nil (aa (pv 0) ao)))))),?_⟩
  wp_walk using T,ha.o;refine Fd q'.first (q'.first+q'.many) (λD i ys au H2=>∃(u:Option V) (ts:List Addr),au = [u,some (.ref p)]/\ys=ts.map V.ref/\Zn H2 D ts ((P.nc.drop q'.first.toNat).take i)/\ah H H2/\H D=none/\i<=16/\(i=0\/q'.first+i<=P.nc.length)) (λQ q=>?_) (by lia) (by lia) (by lia) (by lia) ?_ ?_ ?_ ?_
  ·wp_walk using T,ha.o
   try exact q
  ·intro D hD;exact⟨none,[],rfl,rfl,by rw[List.take_zero];exact Zn.start,ah.put hD,hD,by lia,.inl rfl⟩
  ·rintro D i ys au H2 ⟨u,ts,rfl,rfl,g2,g3,g4,g5,g6⟩;exact⟨g2.l,gB (by rw[List.length_map,g2.n,List.length_take];lia)⟩
  ·rintro D i ys au H2 N hN hi ⟨u,ts,rfl,rfl,g2,g3,g4,g5,g6⟩;walk_at "rdm";obtain⟨TV,a1,a2,a3,a4,tN,fs,ZA,hA⟩:=hP.same g3;refine⟨C,TV,fs,hA.o,hC,hA.m9,⟨C,p,P,fp,_,rfl,hP.same g3,λk0 k1 t q0 eq ht=>⟨g2.l,hN _ _ _ ⟨_,ts++[t],rfl,by rw[List.map_append];rfl,?_,ah.put2 g3 g4,g4,by lia,.inr (by lia)⟩⟩,λno d H3 s3 nc=>?_⟩⟩
   ·rw[Ro f0 eq];exact g2.pushX ht
   ·refine(qe (by lia)).2 d H3 (g3.trans s3) ?_
    rw[show max q'.first (P.nc.length:Int)=q'.first+(i:Int) by lia]
    exact nc
  ·rintro D ys au H2 ⟨u,ts,rfl,rfl,g2,g3,g4,g5,g6⟩;rw[show (q'.first+q'.many - q'.first).toNat=q'.many.toNat by lia] at g2 g6
   refine q ?_ _ _ _ g3 g4 g2;rcases g6 with g6 | g6
   ·by_cases z:(P.nc.length:Int)<q'.first+q'.many
    ·have:=(qe z).1;lia
    ·lia
   ·lia
theorem TX(T:Tx K mg A):a_ P w K mg base bw 4 A.vG A.vH ["_law_cells", "_law_total", "_law_lap_here"] (RI K):=by
 have TY:=Tq (P:=P) (w:=w) (base:=base) T;refine T.Bh.ok ng (λvs H Q E h=>?_) (λaM Ar outer s H vs Q E hr h=>?_)
 ·obtain⟨ca,cs,T',bg,rfl,_⟩:=h
  rfl
 ·obtain⟨ca,cs,T',bg,rfl,hS,ya,t0,t1,l0,l1,q⟩:=h;refine⟨_,(az (aX (i:=3) ng.nd rfl (Or.inr rfl) (cH ao))
   (az (aX (i:=4) ng.nd rfl (Or.inl rfl) aj)
   (az (cR PassesOwn.never rfl (fZ (pv 0)) (bH (i:=5) ng.nd rfl (Or.inl rfl))
   (az (lg (i:=6) ng.nd rfl (Or.inl rfl) (N:=["_law_k", "_law_specs_here"]) (nt:=1) (fv:=[3]) (cI.of rfl rfl (by rfl) (by rfl) (by repeat (first | exact trivial | refine⟨rfl,?_⟩)) (by rfl) (by rfl) (by rfl) (by decide) (by decide +kernel)) rfl (iG rfl T.dP (aa (bI dG rfl T.c9 boot_len (aa (pv 3) ao)) ao)) (λC s H fp=>(bH (i:=0) (show List.Nodup (["_law_k", "_law_specs_here"]:List Str) by decide +kernel) rfl (Or.inl rfl))) (λC s H fp=>(k8 (aR fR (aT (mO (K:=K) rfl) (aT (lA (K:=K) rfl) (pv 1) (pv 0) (λ_ _=>rfl)) aj (λ_ _=>rfl)) bC (aP _)))) (λC s H fp=>(pv 0)))
   (az (cg (gY PySem.F.plainAttrs_list PySem.F.slot_list_append PySem.F.type_list_append gZ (pv 3) (aa (aL TY (hr.mono (by first | decide | lia)) rfl T.IA T.Bg.kp T.Iz .nil aK (aa (pv 5) (aa (pv 1) (aa (pv 2) (aa (pv 4) (aa (pv 6) ao)))))) ao)))
   (aF (aX (i:=4) ng.nd rfl (Or.inl rfl) (aT bR (aT cD (pv 3) (xQ xT aj) (λ_ _=>rfl)) aj (λ_ _=>rfl)))))))
   (aF (bD (pv 3)))))),?_⟩
  wp_walk using cF;intro l hl;have sl:=ah.put (o:=.lst []) hl;refine rl ca (cs.map V.int) (λi σ H'=>∃(x1 x2:Option V) (at_:Int) (ts:List Addr) (qs:List Sq),σ = [some (.ref ca),some (.int T'),some (.int bg),some (.ref l),some (.int at_),x1,x2]/\ah H H'/\cP H' l ts qs/\lG T' qs/\qs.length=i/\i<=70/\0<=at_/\at_<=1500000000*(i:Int)/\(∀q,qs[i - 1]? = some q->q.at_=at_)) (λQ q=>⟨_,rfl,q⟩) (sl.seq hS)
   ⟨none,none,0,[],[],rfl,sl,⟨aq,rfl,λi t q e=>by simp at e⟩,⟨λi q e=>by simp at e,λi q e=>by simp at e,λi q q' e=>by simp at e⟩,rfl,by lia,by lia,by lia,λq e=>by simp at e⟩ (by rintro i σ H' _ ⟨_,_,_,_,_,rfl,hs,_⟩;exact hs.seq hS) ?_ ?_
  ·rintro i x σ H' N hN hx ⟨x1,x2,at_,ts,qs,rfl,hs,hQ,aC,hlen,JH,a0,a1,nK⟩;obtain⟨c,rJ,rfl⟩:=gF hx;have hi:=dY rJ;walk_at "rdm";refine pM ((qs.length:Nat):Int) (λD j ys au H2=>∃u,ys=(ig qs j).map V.int/\au = [u,some (.ref l)]/\H2 D=some (.lst ys)/\ah H' H2/\H' D=none/\j<=70) (λQ q=>?_) (by lia) (by lia) ?_ ?_ ?_ ?_
   ·walk_at "rdm";exact⟨_,.inl (aD.of hQ.l),by rw[List.length_map,hQ.n];exact q⟩
   ·intro D hD;exact⟨none,rfl,rfl,aq,ah.put hD,hD,by lia⟩
   ·rintro D j ys au H2 ⟨u,rfl,rfl,g1,g2,g3,g4⟩;have:=PD qs j;exact⟨g1,gB (by rw[List.length_map];lia)⟩
   ·rintro D j ys au H2 N hN hj ⟨u,rfl,rfl,g1,g2,g3,g4⟩;have TZ:j<qs.length:=by lia
    have ej:qs[j]? = some qs[j]:=List.getElem?_eq_getElem TZ;obtain⟨t,m,b,et,z⟩:=(hQ.same g2).at ej;walk_at "rdm";refine⟨_,aD.of (hQ.same g2).l,_,cU et,t,rfl,_,aJ.of z.o,_,rfl,rfl,bu (λhk=>⟨g1,hN _ _ _ ⟨_,?_,rfl,aq,ah.put2 g2 g3,g3,by lia⟩⟩) λhk=>hN _ _ _ ⟨_,?_,rfl,g1,g2,g3,by lia⟩⟩
    ·rw[FZ ej,if_pos (λy=>hk (by rw[y])),List.map_append];rfl
    ·rw[FZ ej,if_neg (λy=>y (V.str.inj (Classical.not_not.mp hk))),List.append_nil]
   ·rintro D ys au H2 ⟨u,rfl,rfl,g1,g2,g3,g4⟩;rw[Int.toNat_natCast] at g1;have Cb:=hQ.same g2;refine⟨⟨_,aD.of Cb.l⟩,c,T',bg,at_,D,pP qs,rfl,t0,t1,l0,l1,a0,by lia,g1,PB (by lia),λt q m b H3 s3 nt hz k6=>?_⟩
    have e1:=s3 _ _ Cb.l;have T3:=Cb.snoc s3 hz;have hn:=hQ.n;have T4:upd H3 l (HO.lst (ts.map V.ref++[V.ref t])) t=H3 t:=aG (iB hz.o e1 (λz=>nomatch z));refine⟨_,e1,by rw[List.length_map];lia,_,aD.of aq,.ref t,?_,t,rfl,_,aJ.of (T4.trans hz.o),_,rfl,hN _ _ ⟨_,_,q.at_,ts++[t],qs++[q],rfl,?_,T3,aC.snoc k6 (by rw[hlen];exact nK),by simp[hlen],by lia,?_,?_,?_⟩⟩
    ·rw[show ts.map V.ref++[V.ref t] = (ts++[t]).map V.ref by simp]
     unfold eu;rw[OM (by simp)]
     simp
    ·exact ah.put2 ((hs.trans g2).trans s3) hl
    ·have:=k6.a0;lia
    ·have:=k6.a1;lia
    ·intro q0 e0;rw[show i+1 - 1=qs.length by lia,List.getElem?_append_right (Nat.le_refl _)] at e0
     simp at e0;rw[e0]
  ·rintro σ H' ⟨x1,x2,at_,ts,qs,rfl,hs,hQ,aC,hlen,JH,a0,a1,nK⟩;walk_at "rdm";rw[List.length_map] at hlen;exact q _ _ _ _ hs hl hQ aC hlen λq0 e0=>by rw[nK q0 (by rw[List.length_map,← hlen];exact e0)];rw[List.length_map] at a1 JH;lia
theorem T5(T:Tx K mg A):a_ P w K mg base (dZ P w base) 5 A.uF A.uG ["plate", "number", "ask"] (Rn K [A.bO] A.bx A.aZ):=by
 have JA:=Jh (P:=P) (w:=w) (base:=base) T;have T6:=TR (P:=P) (w:=w) (base:=base) T;have T7:=Sk (P:=P) (w:=w) (base:=base) T;refine T.AW.mR G4 (λvs H Q E h=>?_) (λaM Ar outer s H vs Q E hr h=>?_)
 ·obtain⟨C,p,ap,k,P,fp,q',m,b,dx,rfl,_⟩:=h
  rfl
 ·obtain⟨C,p,ap,k,P,fp,q',m,b,dx,rfl,hC,hP,ha,f0,f1,m0,m1,hn,q,qe⟩:=h;refine⟨_,(aF (Rj rfl rfl (λE=>(OX (FF T6 (hr.mono (by first | decide | lia)) rfl T.Hz T.AV.kp T.Hy .nil (aa (pv 0) (aa (pv 2) ao)))))
   (Q7 (i:=3) (by exact Gv) rfl rfl rfl T.nB T.qI G4.nd rfl rfl rfl rfl T.nB T.lU PySem.F.excBase_ValueError T7 (hr.mono (by first | decide | lia)) T.Hf .nil (λa=>(aa (pY (pv 3) rfl) (aa (pv 1) ao))) FJ.x))),?_⟩
  walk_at "rdt";refine⟨C,p,ap,P,fp,q',m,b,dx,rfl,hC,hP,ha,f0,f1,m0,m1,hn,q,λz=>⟨(qe z).1,λd H1 s1 nc=>?_⟩⟩;walk_at "rdt";refine⟨A.aZ,rfl,T.qI,λa ha=>.inl ⟨T.BD,QT d,_,_,rfl,[(("cell" : Str),.int (max q'.first (P.nc.length:Int))),(("ask" : Str),.aH)],?_,⟨T.nG,T.ku.hd⟩,T.lV,_,by simp only[List.lookup_cons,mL,String.reduceBEq];rfl,λd1 T8=>?_⟩⟩
  ·rw[GA];exact ah.put ha _ _ nc
  ·exact(qe z).2 d1 _ (s1.trans ((ah.put ha).trans (ah.put T8))) aq
theorem T9(T:Tx K mg A):a_ P w K mg base bw 5 A.vI A.vJ ["_law_spec_here"] (PM K A.bx):=by
 have T_:=TN (P:=P) (w:=w) (base:=base) T;have Ua:=TQ (P:=P) (w:=w) (base:=base) T;have Ub:=S4 (P:=P) (w:=w) (base:=base) T;refine T.Bj.ok R0 (λvs H Q E h=>?_) (λaM Ar outer s H vs Q E hr h=>?_)
 ·obtain⟨t,q',m,b,T',rfl,_⟩:=h
  rfl
 ·obtain⟨t,q',m,b,T',rfl,hz,hk,q⟩:=h;refine⟨_,(az (bA (aR b7 (aT bR (pv 0) aj (λ_ _=>rfl)) bC (aP _)) (aF (bD (aL Ub (hr.mono (by first | decide | lia)) rfl T.Hu T.AS.kp T.Ht .nil aK (aa (aT bR (pv 0) aj (λ_ _=>rfl)) ao)))) bz)
   (az (bA (aR b7 (aT bR (pv 0) aj (λ_ _=>rfl)) bC (aP _)) (aF (bD (aL T_ (hr.mono (by first | decide | lia)) rfl T.Hq T.AQ.kp T.Ho .nil aK (aa (aT bR (pv 0) aj (λ_ _=>rfl)) (aa (aT bR (pv 0) aj (λ_ _=>rfl)) (aa (aT bR (pv 0) aj (λ_ _=>rfl)) (aa (aT bR (pv 0) aj (λ_ _=>rfl)) (aa (aT bR (pv 0) aj (λ_ _=>rfl)) (aa (aT bR (pv 0) aj (λ_ _=>rfl)) ao))))))))) bz)
   (aF (bD (aL Ua (hr.mono (by first | decide | lia)) rfl T.Hs T.AR.kp T.Hr .nil aK (aa (aT bR (pv 0) aj (λ_ _=>rfl)) (aa (iJ ym rfl T.jA boot_list (aa (aT bR (pv 0) aj (λ_ _=>rfl)) ao)) (aa (aT bR (pv 0) aj (λ_ _=>rfl)) (aa (aT bR (pv 0) aj (λ_ _=>rfl)) (aa (aT bR (pv 0) aj (λ_ _=>rfl)) (aa (iJ ym rfl T.jA boot_list (aa (aT bR (pv 0) aj (λ_ _=>rfl)) ao)) (aa (jP b7 (aT bR (pv 0) aj (λ_ _=>rfl)) bC (aP _)) ao)))))))))))),?_⟩
  walk_at "rdt";have ht:=aJ.of (K:=K) hz.o;refine⟨_,ht,_,rfl,rfl,bu (λe=>?_) λe=>⟨_,ht,_,rfl,rfl,bu (λe2=>?_) λe2=>?_⟩⟩
  ·obtain⟨ea,a0,a1⟩:=PF (V.str.inj e) hk;rw[ea] at q;exact⟨_,ht,_,rfl,q'.at_,rfl,a0,a1,q⟩
  ·obtain⟨ea,hB,hR⟩:=PJ (V.str.inj e2) hk;rw[ea] at q;exact⟨_,ht,_,rfl,_,ht,_,rfl,_,ht,_,rfl,_,ht,_,rfl,_,ht,_,rfl,_,ht,_,rfl,_,_,_,_,q'.c8,_,q'.behind,rfl,hB,.inr ⟨b,rfl,.inr hz.bh⟩,hR,q⟩
  ·obtain⟨ea,hB,hR,hM⟩:=PL (λz=>e (by rw[z])) (λz=>e2 (by rw[z])) hk
   rw[ea] at q;have ed:decide (V.str q'.kind=V.str "early")=decide (q'.kind = "early"):=by simp only[V.str.injEq]
   refine⟨_,ht,_,rfl,_,ht,_,rfl,m,rfl,_,.inr (aJ.of hz.ms),λl1 Cc=>?_⟩;have s1:=ah.put (o:=.lst (q'.marks.map V.int)) Cc;have q9:=s1.Fb ht;refine⟨_,q9,_,rfl,_,q9,_,rfl,_,q9,_,rfl,_,q9,_,rfl,b,rfl,_,.inr (aJ.of (s1 _ _ hz.bh)),λl2 q8=>?_⟩;have s2:=ah.put (o:=.lst (q'.behind.map V.int)) q8;refine⟨_,s2.Fb q9,_,rfl,rfl,_,_,_,l1,q'.marks,q'.c8,_,q'.behind,_,rfl,aD.of (s2 _ _ aq),hM,hB,.inr ⟨l2,rfl,.inl (aD.of aq)⟩,hR,λp mk bb dx H' s np ha=>q p mk bb dx H' ((s1.trans s2).trans s) ((s1.trans s2).free np) (by rw[ed] at ha;exact ha)⟩
theorem Uc(T:Tx K mg A):a_ P w K mg base (dZ P w base) 6 A.uN A.uO ["plate", "asks"] (Rw K [A.bO] A.bx A.aZ A.br):=by
 have Ud:=T5 (P:=P) (w:=w) (base:=base) T;have Ue:=S5 (P:=P) (w:=w) (base:=base) T;have Ug:=S6 (P:=P) (w:=w) (base:=base) T;have Uh:=SG (P:=P) (w:=w) (base:=base) T;refine T.A0.mR tT (λvs H Q E h=>?_) (λaM Ar outer s H vs Q E hr h=>?_)
 ·obtain⟨C,p,la,P,fp,ps,qs,rfl,_⟩:=h
  rfl
 ·obtain⟨C,p,la,P,fp,ps,qs,rfl,hC,hP,hn,ha,on,av,q,qe⟩:=h;refine⟨_,(az (aX (i:=2) tT.nd rfl (Or.inl rfl) (cH ao))
   (az (cR PassesOwn.leaving rfl (yM rfl T.nu (aa (pv 1) ao)) (jL rfl (fj (bH (i:=3) tT.nd rfl (Or.inl rfl)) (fj (bH (i:=4) tT.nd rfl (Or.inl rfl)) jK)))
   (az (cg (aL Ue (hr.mono (by first | decide | lia)) rfl T.HD T.AX.kp T.HC .nil yX (aa (pv 1) (aa (pv 3) ao))))
   (az (cg (aL Ud (hr.mono (by first | decide | lia)) rfl T.HB T.AW.kp T.HA .nil yX (aa (pv 0) (aa (pv 3) (aa (pv 4) ao)))))
   (az (cg (aL Ug (hr.mono (by first | decide | lia)) rfl T.HF T.AY.kp T.HE .nil yX (aa (pv 1) (aa (pv 3) ao))))
   (aF (cg (gY PySem.F.plainAttrs_list PySem.F.slot_list_append PySem.F.type_list_append gZ (pv 2) (aa (aL Uh (hr.mono (by first | decide | lia)) rfl T.HJ T.AZ.kp T.HG .nil aK (aa (pv 1) (aa (pv 3) ao))) ao))))))))
   (aF (bD (pv 2))))),?_⟩
  walk_at "rdt";intro l hl;have sl:=ah.put (o:=.lst []) hl;have an:=ha.n;refine re la (ps.map V.ref) (λk σ H'=>∃(x1 x2:Option V) (us:List Addr),σ = [some (.ref p),some (.ref la),some (.ref l),x1,x2]/\ah H H'/\(∀t∈us,H t=none)/\Zt H' l us (mU qs k)/\fB (P.nc.length:Int) qs k=none) (λQ q=>?_) (aD.of (sl _ _ ha.l)) ⟨none,none,[],rfl,sl,(λ_ h=>nomatch h),Zt.start,rfl⟩ (by rintro i σ H' _ ⟨_,_,_,rfl,s1,_⟩;exact aD.of (s1 _ _ ha.l)) ?_ ?_
  ·walk_at "rdm";exact q
  ·rintro k x σ H' T1 N hN hx ⟨x1,x2,us,rfl,s1,hu,hz,fx⟩ hT;have ZC:k<ps.length:=by have:=(List.getElem?_eq_some_iff.mp hx).1;simpa using this
   have hk:k<qs.length:=by lia
   have iZ:=List.getElem?_eq_getElem hk;obtain⟨ap,m,b,dx,e1,a1⟩:=ha.at iZ;rw[e1] at hx;cases hx;have s2:=s1.trans (ah.put (o:=.tup [.int (k:Int),.ref ap]) hT);refine jW (aJ.of aq) rfl ?_;walk_at "rdm";have Ui:=ha.same s2;have a2:=a1.same s2;have i6:=av _ (List.getElem_mem hk);refine⟨la,ps,qs,k,_,rfl,Ui,iZ,λbb=>?_,λbb d H3 s3 no=>qe _ (tM fx (GL iZ bb) hk) _ _ _ (s2.trans s3) (.order no)⟩;refine⟨C,p,ap,_,P,fp,_,m,b,dx,rfl,hC,hP.same s2,a2,i6.1,i6.2.1,i6.2.2.1,i6.2.2.2.1,hn,λfit _ _ H3 s3 _ _=>?_,λz=>⟨by
    have:=i6.2.2.1;by_cases z0:qs[k].many=0
    ·have:=i6.2.2.2.2.1 z0;lia
    ·lia,λd H3 s3 nc=>qe _ (tM fx (GN iZ bb z) hk) _ _ _ (s2.trans s3) (.cell nc)⟩⟩
   have wV:=s2.trans s3;have tG:=ha.same wV;have st:=GO (T:=(P.nc.length:Int)) iZ bb (by lia)
   refine⟨la,ps,qs,k,_,rfl,tG,iZ,i6,λfn=>⟨⟨_,aD.of (s3 _ _ (ah.put hT _ _ hz.l))⟩,?_⟩,λo fo d H4 s4 no=>qe _ (tM fx (by rw[st,fo];rfl) hk) _ _ _ (wV.trans s4) (.order no)⟩
   refine⟨la,ps,qs,k,_,rfl,tG,iZ,on,i6.2.2.2.2.2.1,λt H4 s4 nt ht=>?_⟩;have jF:=((hz.same (ah.put (o:=.tup [.int (k:Int),.ref ap]) hT)).same s3).same s4;have zl:=jF.n;unfold mU at zl;rw[List.length_map,List.length_range] at zl;have Uj:=wV.trans s4;refine⟨_,jF.l,by rw[List.length_map];lia,hN _ _ ⟨_,_,us++[t],rfl,ah.put2 Uj hl,?_,?_,GP fx (by rw[st,fn];rfl)⟩⟩
   ·intro t' iA;rcases List.mem_append.mp iA with iA | iA
    ·exact hu t' iA
    ·rw[List.mem_singleton.mp iA];exact wV.free nt
   ·unfold mU;rw[List.range_succ,List.map_append];exact jF.PR ht
  ·rintro σ H' ⟨x1,x2,us,rfl,s1,hu,hz,fx⟩;walk_at "rdm";rw[List.length_map,an] at hz fx;exact q fx _ _ _ s1 hl hu hz
theorem Uk(T:Tx K mg A):a_ P w K mg base bw 7 A.vU A.vV ["_law_plate", "_law_specs_here"] (RA K [A.bO]):=by
 have Ul:=Uc (P:=P) (w:=w) (base:=base) T;have Um:=T9 (P:=P) (w:=w) (base:=base) T;refine T.Bq.ok kj (λvs H Q E h=>?_) (λaM Ar outer s H vs Q E hr h=>?_)
 ·obtain⟨C,p,la,P,fp,ts,qs,rfl,_⟩:=h
  rfl
 ·obtain⟨C,p,la,P,fp,ts,qs,rfl,hC,hP,hn,hq,on,sv,q⟩:=h;refine⟨_,(az (lg (i:=2) kj.nd rfl (Or.inl rfl) (N:=["_law_spec_here"]) (nt:=1) (fv:=[]) (cI.of rfl rfl (by rfl) (by rfl) (by repeat (first | exact trivial | refine⟨rfl,?_⟩)) (by rfl) (by rfl) (by rfl) (by decide) (by decide +kernel)) rfl (fZ (pv 1)) (λC s H fp=>(bH (i:=0) (show List.Nodup (["_law_spec_here"]:List Str) by decide +kernel) rfl (Or.inl rfl))) (λC s H fp=>oZ) (λC s H fp=>(aL Um (hr.mono (by first | decide | lia)) rfl T.IF T.Bj.kp T.IE .nil aK (aa (pv 0) ao))))
   (az (aX (i:=3) kj.nd rfl (Or.inl rfl) (cH ao))
   (az (O2 rfl rfl (λE=>(Rt (i:=3) kj.nd rfl (Or.inl rfl) (Rr (Rq bC (Rp (FF Ul (hr.mono (by first | decide | lia)) rfl T.HL T.A0.kp T.HK .nil (aa (pv 0) (aa (pv 2) ao))))))))
   (FN (i:=4) rfl T.wL T.BG kj.nd rfl rfl rfl (λa=>(aF (aX (i:=3) kj.nd rfl (Or.inl rfl) (cH (aa bC (aa (pY (pv 4) rfl) (aa (pY (pv 4) rfl) (aa (n_ (bI sW rfl T.eE boot_isinstance (aa (pv 4) (aa (dR (v:=.ref A.dz) rfl T.nA rfl) ao))) (nZ (DK (bI sW rfl T.eE boot_isinstance (aa (pv 4) (aa (dR (v:=.ref A.aZ) rfl T.nB rfl) ao)))))) ao)))))))) (FN (i:=4) rfl T.nB T.qI kj.nd rfl rfl rfl (λa=>(aF (aX (i:=3) kj.nd rfl (Or.inl rfl) (cH (aa bC (aa (pY (pv 4) rfl) (aa (pY (pv 4) rfl) (aa (n_ (bI sW rfl T.eE boot_isinstance (aa (pv 4) (aa (dR (v:=.ref A.dz) rfl T.nA rfl) ao))) (nZ (DK (bI sW rfl T.eE boot_isinstance (aa (pv 4) (aa (dR (v:=.ref A.e7) rfl T.Jf rfl) ao)))))) ao)))))))) FJ)))
   (aF (bD (pv 3)))))),?_⟩
  walk_at "rdt";have up:∀(H:Hp) (D:Addr) (xs:List V) (o:HO),H D=some (.lst xs)->∀p q m b dx,eX K A.bx H p q m b dx->eX K A.bx (upd H D o) p q m b dx:=λH D xs o hD p q m b dx h=>by
   have ne:∀ {a:Addr} {o':HO},H a=some o'->(∀xs,o'≠.lst xs)->a≠D:=λe n z=>n xs (by rw[z,hD] at e;exact(Option.some.inj e).symm)
   exact⟨by rw[aG (ne h.o (λ_ z=>by cases z))];exact h.o,by rw[aG (ne h.ms (λ_ z=>by cases z))];exact h.ms,by rw[aG (ne h.bh (λ_ z=>by cases z))];exact h.bh⟩
  refine pq la (ts.map V.ref) (λD i ys au H2=>∃(u:Option V) (ps:List Addr),ys=ps.map V.ref/\ps.length=i/\i<=qs.length/\au = [u]/\H2 D=some (.lst ys)/\ah H H2/\H D=none/\∀(j:Nat) (p:Addr) (q:Sq),ps[j]? = some p->qs[j]? = some q->∃m b dx,eX K A.bx H2 p (bT q) m b dx) (λQ q=>⟨_,rfl,q⟩) (aD.of hq.l) ?_ ?_ ?_ ?_
  ·intro D hD;exact⟨_,[],rfl,rfl,Nat.zero_le _,rfl,aq,ah.put hD,hD,λj p q e=>by cases e⟩
  ·rintro D i ys au H2 ⟨u,ps,rfl,e0,e1,rfl,e2,e3,e4,e5⟩;refine⟨e2,gB ?_,e3.seq (aD.of hq.l)⟩;rw[List.length_map];lia
  ·rintro D i x ys au H2 N hN hx ⟨u,ps,rfl,e0,e1,rfl,e2,e3,e4,e5⟩;obtain⟨t,ht,rfl⟩:=gF hx;have hi:i<qs.length:=by rw[← hq.n];exact dY ht
   have eq:=List.getElem?_eq_getElem hi;obtain⟨m,b,hz⟩:=hq.t i t qs[i] ht eq;have hk:=sv _ (List.getElem_mem hi);walk_at "rdm";refine⟨t,qs[i],m,b,_,rfl,hz.same e3,hk,λp mk bb dx H3 s3 np ha=>⟨s3 _ _ e2,hN _ _ _ ⟨_,ps++[p],by simp,by simp[e0],hi,rfl,aq,ah.put2 (e3.trans s3) e4,e4,λj p' q' f1 f2=>?_⟩⟩⟩
   by_cases hj:j<ps.length
   ·rw[List.getElem?_append_left hj] at f1;obtain⟨m',b',lC,z⟩:=e5 j p' q' f1 f2;exact⟨m',b',lC,up _ _ _ _ (s3 _ _ e2) _ _ _ _ _ (z.same s3)⟩
   ·rw[List.getElem?_append_right (by lia)] at f1
    have hl:=dY f1;have Cd:j - ps.length=0:=by simp at hl;lia
    rw[Cd] at f1;cases f1;have:j=i:=by lia
    rw[this,eq] at f2;cases f2;exact⟨mk,bb,dx,up _ _ _ _ (s3 _ _ e2) _ _ _ _ _ ha⟩
  ·rintro D ys au H2 ⟨u,ps,rfl,e0,e1,rfl,e2,e3,e4,e5⟩;rw[List.length_map,hq.n] at e0;have Uo:iR K A.bx H2 D ps (qs.map bT):=⟨e2,by rw[e0,List.length_map],λi p q f1 f2=>by
    obtain⟨q0,h0,rfl⟩:∃q0,qs[i]? = some q0/\bT q0=q:=by
     rw[List.getElem?_map] at f2;cases h:qs[i]? with
     | none=>rw[h] at f2;cases f2
     | some q0=>rw[h] at f2;exact⟨q0,rfl,Option.some.inj f2⟩
    exact e5 i p q0 f1 h0⟩
   have Up:∀q∈qs.map bT,tL q:=λq hm=>by
    obtain⟨q0,h0,rfl⟩:=List.mem_map.mp hm;exact(sv q0 h0).ak
   have lm:(qs.map bT).length=qs.length:=List.length_map ..;walk_at "rdt";intro l0 Uq;have t0:=ah.put (o:=.lst []) Uq;have B8:∀r∈(List.range qs.length).map (fz qs),r.length<=1000000:=λr hr=>by
    obtain⟨k,hk,rfl⟩:=List.mem_map.mp hr;have:=List.mem_range.mp hk;unfold fz;rw[List.length_map];refine Nat.le_trans (List.length_filter_le _ _) ?_;rw[List.length_range];lia
   have B9:((List.range qs.length).map (fz qs)).length<=1000000:=by rw[List.length_map,List.length_range];lia
   refine⟨C,p,D,P,fp,ps,_,rfl,hC,(hP.same e3).same t0,hn,Uo.same t0,by rw[lm];exact on,Up,λfx l us H4 s4 nl TM hZ r nr=>?_,λo fo Cx od H4 s4 X=>?_⟩
   ·rw[lm] at fx hZ;rw[Ry (T:=2000000) (λi q e=>sv q (get_mem e))] at hZ;refine q r _ (e3.trans (t0.trans (s4.trans (ah.put nr)))) ?_;rw[fx];exact Rep.jY (n:=3) aq ⟨.str _,(hZ.same (ah.put nr)).rep B9 B8 1,trivial⟩
   ·rw[lm] at fo;cases X with
    | @cell c k d h =>
     refine⟨A.aZ,rfl,T.qI,λa Ce=>.inr ⟨T.Je,.inl ⟨T.BD,?_⟩⟩⟩;walk_at "rdt";have g1:=ah.put (o:=eW a A.aZ (some (2*d+1))) Ce;have q_:upd H4 a (eW a A.aZ (some (2*d+1))) ((2*d+1) / 2)=some (cW ((2*d+1) / 2) [(("cell" : Str),.int c),(("ask" : Str),.int (k:Int))]):=by
      rw[Gz];exact g1 _ _ h
     refine⟨_,_,rfl,_,q_,⟨T.nG,T.ku.hd⟩,T.lV,.int c,by simp[List.lookup_cons,mL],_,_,rfl,_,q_,⟨T.nG,T.ku.hd⟩,T.nF,.int (k:Int),by simp[List.lookup_cons,mL],A.aZ,_,.inl rfl,⟨_,rfl⟩,T.nG,T.BA,true,T.wI,ite_yes rfl ?_⟩
     refine⟨A.aZ,_,.inl rfl,⟨_,rfl⟩,T.nG,T.BA,false,T.wJ,λr nr=>?_⟩;refine q r _ (e3.trans (t0.trans (s4.trans (g1.trans (ah.put nr))))) ?_;rw[fo];exact Rep.jY (n:=3) aq ⟨.str _,.int _,.int _,.bl _,trivial⟩
    | @order k o d h =>
     refine⟨A.br,rfl,T.BG,λa Ce=>.inl ⟨T.Jg,?_⟩⟩;walk_at "rdt";have g1:=ah.put (o:=eW a A.br (some (2*d))) Ce;have q_:upd H4 a (eW a A.br (some (2*d))) ((2*d) / 2)=some (cW ((2*d) / 2) [(("ask" : Str),.int (k:Int)),(("other" : Str),.int o)]):=by
      rw[GA];exact g1 _ _ h
     refine⟨_,_,rfl,_,q_,⟨T.qN,T.qK.hd⟩,T.qL,.int (k:Int),by simp[List.lookup_cons,mL],_,_,rfl,_,q_,⟨T.qN,T.qK.hd⟩,T.qM,.int o,by simp[List.lookup_cons,mL],A.br,_,.inl rfl,⟨_,rfl⟩,T.qN,T.BH,true,T.wM,ite_yes rfl ?_⟩
     refine⟨A.br,_,.inl rfl,⟨_,rfl⟩,T.qN,T.BH,false,T.wN,λr nr=>?_⟩;refine q r _ (e3.trans (t0.trans (s4.trans (g1.trans (ah.put nr))))) ?_;rw[fo];exact Rep.jY (n:=3) aq ⟨.str _,.int _,.int _,.bl _,trivial⟩
theorem Ur(T:Tx K mg A):a_ P w K mg base bw 9 A.vW A.vX ["_law_script"] (sQ K):=by
 have Ut:=S7 (P:=P) (w:=w) (base:=base) T;have nM:=Sy (P:=P) (w:=w) (base:=base) T;have Uu:=Sj (P:=P) (w:=w) (base:=base) T;have bE:=lW (P:=P) (w:=w) (base:=base) T;have Uv:=SK (P:=P) (w:=w) (base:=base) T;have Uw:=SA (P:=P) (w:=w) (base:=base) T;have Ux:=SM (P:=P) (w:=w) (base:=base) T;have Uy:=SN (P:=P) (w:=w) (base:=base) T;have Uz:=TX (P:=P) (w:=w) (base:=base) T;have JI:=SW (P:=P) (w:=w) (base:=base) T;have UA:=TJ (P:=P) (w:=w) (base:=base) T;have UB:=Uk (P:=P) (w:=w) (base:=base) T;refine T.IS.ok fD (λvs H Q E h=>?_) (λaM Ar outer s H vs Q E hr h=>?_)
 ·obtain⟨a,ns,rfl,_⟩:=h
  rfl
 ·obtain⟨a,ns,rfl,hS,hl,q⟩:=h;have ZD:=hr.MI;refine⟨_,(az (aX (i:=1) fD.nd rfl (Or.inl rfl) (aL Uv (hr.mono (by first | decide | lia)) rfl T.Il T.A_.kp T.Ik .nil aK (aa (aL nM (hr.mono (by first | decide | lia)) rfl T.lT T.kq.kp T.lR .nil aK (aa (pv 0) (aa aj ao))) (aa (aL nM (hr.mono (by first | decide | lia)) rfl T.lT T.kq.kp T.lR .nil aK (aa (pv 0) (aa aj ao))) ao))))
   (az (aX (i:=2) fD.nd rfl (Or.inl rfl) (aL Uw (hr.mono (by first | decide | lia)) rfl T.Io T.Bb.kp T.Im .nil aK (aa (pv 1) ao)))
   (az (aX (i:=3) fD.nd rfl (Or.inl rfl) (aL Ux (hr.mono (by first | decide | lia)) rfl T.Iq T.Bc.kp T.Ip .nil aK (aa (pv 1) (aa (aL nM (hr.mono (by first | decide | lia)) rfl T.lT T.kq.kp T.lR .nil aK (aa (pv 0) (aa aj ao))) ao))))
   (az (aX (i:=4) fD.nd rfl (Or.inl rfl) (rT T.IT Ut (hr.mono (by first | decide | lia)) rfl T.IU T.Ic .nil aK (aa (pv 1) (aa (pv 3) (aa aj (aa (aL Uy (hr.mono (by first | decide | lia)) rfl T.Iu T.Bd.kp T.Ir .nil aK (aa (bI dG rfl T.c9 boot_len (aa (pv 2) ao)) (aa (aL nM (hr.mono (by first | decide | lia)) rfl T.lT T.kq.kp T.lR .nil aK (aa (pv 0) (aa aj ao))) ao))) ao))))))
   (az (aX (i:=5) fD.nd rfl (Or.inl rfl) (bI (EZ rfl) rfl T.qH boot_sum (aa (pv 2) ao)))
   (az (aX (i:=6) fD.nd rfl (Or.inl rfl) (aL Uz (hr.mono (by first | decide | lia)) rfl T.ID T.Bh.kp T.IC .nil aK (aa (aA mF (cH (aa aj (aa aj ao))) (jh yi (pv 0) (gU aj) (gU aj))) (aa (pv 5) (aa (pv 3) ao)))))
   (az (lg (i:=6) fD.nd rfl (Or.inl rfl) (N:=["_law_spec_here"]) (nt:=1) (fv:=[]) (cI.of rfl rfl (by rfl) (by rfl) (by repeat (first | exact trivial | refine⟨rfl,?_⟩)) (by rfl) (by rfl) (by rfl) (by decide) (by decide +kernel)) rfl (fZ (pv 6)) (λC s H fp=>(bH (i:=0) (show List.Nodup (["_law_spec_here"]:List Str) by decide +kernel) rfl (Or.inl rfl))) (λC s H fp=>oZ) (λC s H fp=>(aA (GW (K:=K) rfl) (aA (GW (K:=K) rfl) (jh (GV (K:=K) rfl) (pv 0) kX (gU aj)) (dg (aa (aA bF (aT (mO (K:=K) rfl) (pv 0) aj (λ_ _=>rfl)) aj) ao))) (jh (GV (K:=K) rfl) (pv 0) (gU aj) kX))))
   (az (aX (i:=7) fD.nd rfl (Or.inl rfl) (cH (aa (pv 6) ao)))
   (az (cR PassesOwn.never rfl (rM (dg (aa aj (aa aj ao)))) (bH (i:=8) fD.nd rfl (Or.inl rfl))
   (az (aX (i:=9) fD.nd rfl (Or.inl rfl) (aL nM (hr.mono (by first | decide | lia)) rfl T.lT T.kq.kp T.lR .nil aK (aa (pv 0) (aa (pv 8) ao))))
   (az (aX (i:=10) fD.nd rfl (Or.inl rfl) (aA bF aj (aA bG (aL bE (hr.mono (by first | decide | lia)) rfl T.bL T.bJ.kp T.bK .nil aK (aa (pv 9) (aa aj ao))) (aA dU (bI dG rfl T.c9 boot_len (aa (pv 6) ao)) aj))))
   (az (fU (bA (PW.pt (jd (aR b7 (pv 8) aj (aP _)) (jc (aR b7 (aA bG (aL bE (hr.mono (by first | decide | lia)) rfl T.bL T.bJ.kp T.bK .nil aK (aa (pv 9) (aa aj ao))) aj) aj (aP _))))) (aF (aX (i:=10) fD.nd rfl (Or.inl rfl) (aA bF aj (aA bG (aL bE (hr.mono (by first | decide | lia)) rfl T.bL T.bJ.kp T.bK .nil aK (aa (aL nM (hr.mono (by first | decide | lia)) rfl T.lT T.kq.kp T.lR .nil aK (aa (pv 0) (aa aj ao))) (aa aj ao))) (aA dU (bI dG rfl T.c9 boot_len (aa (pv 6) ao)) aj))))) bz))
   (az (aX (i:=11) fD.nd rfl (Or.inl rfl) (aA bG (aL bE (hr.mono (by first | decide | lia)) rfl T.bL T.bJ.kp T.bK .nil aK (aa (pv 9) (aa aj ao))) aj))
   (az (fU (bA (PW.pt (jd (aR b7 (aT bR (aT cD (pv 6) (pv 10) (λ_ _=>rfl)) aj (λ_ _=>rfl)) bC (aP _)) (jc (aR b7 (pv 11) aj (aP _))))) (aF (aX (i:=11) fD.nd rfl (Or.inl rfl) aj)) bz))
   (az (cg (gY PySem.F.plainAttrs_list PySem.F.slot_list_append PySem.F.type_list_append gZ (pv 7) (aa (aL JI (hr.mono (by first | decide | lia)) rfl T.Bo T.we.kp T.Bm .nil aK (aa (pv 6) (aa (pv 10) (aa (pv 11) (aa (pv 5) (aa (pv 9) ao)))))) ao)))
   (aF (cg (gY PySem.F.plainAttrs_list PySem.F.slot_list_append PySem.F.type_list_append gZ (pv 7) (aa (aL JI (hr.mono (by first | decide | lia)) rfl T.Bo T.we.kp T.Bm .nil aK (aa (aT cD (pv 7) aj (λ_ _=>rfl)) (aa (pv 10) (aa (pv 11) (aa (pv 5) (aa (pv 9) ao)))))) ao)))))))))))
   (az (cR PassesOwn.never rfl (fZ (aA mF (pv 7) (cH (aa (pv 6) ao)))) (bH (i:=12) fD.nd rfl (Or.inl rfl))
   (aF (bA (DJ (nY (aL Uu (hr.mono (by first | decide | lia)) rfl T.A9 T.wc.kp T.A8 .nil aK (aa (aL UB (hr.mono (by first | decide | lia)) rfl T.IQ T.Bq.kp T.IP .nil aK (aa (pv 4) (aa (pv 12) ao))) (aa (aL UA (hr.mono (by first | decide | lia)) rfl T.IM T.Bp.kp T.IL .nil aK (aa (pv 12) (aa (pv 5) ao))) ao))))) (aF (bD fP)) bz)))
   (aF (bD fP)))))))))))),?_⟩
  wp_walk using T,o_,cF;refine⟨ns,hS,hl,ns,hS,hl,?_⟩;refine⟨_,_,rfl,λza iN H1 s1 n1 wU hz=>?_⟩;have zl:=OF (gh ns 0) (gh ns 1);generalize lD (gh ns 0) (gh ns 1)=z at hz zl;refine⟨za,iN,z,rfl,hz,zl.ok,λca H2 s2 n2 hc=>?_⟩;have cl:=sI z λp hp=>(zl.ok.r p hp).1;have ZE:=zl.sm;have c2:=zl.ok.s2;have wW:=s1.trans s2;refine⟨ns,wW.seq hS,hl,⟨za,iN,z,_,rfl,hz.same s2,zl.ok,?_⟩⟩;obtain⟨Cf,Cg,JJ⟩:=OG zl (gh ns 2);generalize lE z (gh ns 2)=bg at Cf Cg JJ ⊢;have gO:=hz.same s2;refine⟨_,rfl,_,.inl (aD.of hc),ns,wW.seq hS,hl,?_⟩;refine⟨_,_,rfl,by rw[List.length_map];lia,by rw[List.length_map];lia,λsa sw H4 s4 n4 sH so=>?_⟩
  rw[List.length_map,cl] at so;intro p dx np iQ nd;have jF:=gO.same s4;have s5:=ah.put (o:=.own p) iQ;have iV:upd H4 dx (.own p) p=none:=by rw[aG (Ne.symm nd)];exact np
  have s6:=s5.trans (ah.put (o:=.ins A.bO dx []) iV);refine⟨A.bO,p,dx,za,sa,iN,z,bg,0,sw,rfl,T.Sg,aq,jF.same s6,zl.ok,Cf,Cg,by lia,by lia,JJ,aD.of (s6 _ _ sH),so,λH5 UC a1 a2 a3 a4 JK sb UD BU hA=>⟨rfl,?_⟩⟩
  have hP:eU K A.bO H5 p _ (a1::a2::a3::a4::JK):=⟨UC,a1,a2,a3,a4,JK,_,rfl,hA⟩;have Ci:∀b o,H4 b=some o->H5 b=some o:=λb o e=>sb _ _ (s6 _ _ e) (cQ e np);have Cj:ah H H5:=λb o e=>Ci _ _ (s4 _ _ (wW _ _ e));have JL:=Ci _ _ (s4 _ _ hc);wp_walk using T,o_,cF;have bX:∀c∈counts z,1<=c/\c<=1000:=λc hc=>by
   obtain⟨y,hy,rfl⟩:=E_ hc;have:=zl.ok.r y hy;lia
  have nT:((lz (counts z) 0).length:Int)=(counts z).sum:=GX rfl (counts z) 0 λc hc=>by have:=(bX c hc).1;lia
  have UE:=GY (counts z) λc hc=>(bX c hc).1;have Ck:=sJ (s:=0) (by lia) (counts z) 0 λc hc=>⟨by have:=(bX c hc).1;lia,(bX c hc).2⟩
  have Ck:(lz (counts z) 0).length<=1000*(counts z).length:=Ck;generalize JM:(⟨counts z,bg,0,sw,lz (counts z) 0⟩:Pl)=PP at hP;have nP:(PP.nc.length:Int)=(counts z).sum:=by rw[← JM];exact nT
  refine⟨counts z,aD.of JL,λp1 cG=>?_⟩;rw[← nP];have T1:1<=PP.nc.length:=by lia
  have T2:PP.nc.length<=100000:=by lia
  clear JM nT UE Ck nP bX hA jF s5 s6 iV sb UD BU Ci JL np iQ nd;clear s4 n4 n1 n2 s1 s2 wW wU hz gO sH hc so;have u1:=ah.put (o:=HO.lst [V.int 5,V.int 8]) cG;obtain⟨ms,Cm,UG⟩:=Ov ns (some 6) (some 20);have ZF:ms.length<=14:=by have:=RK (ns.map V.int);rw[Cm,List.length_map] at this;exact this
  refine⟨_,(Cj.trans u1).seq hS,?_⟩;rw[Cm];intro p2 c_;have u2:=ah.put (o:=HO.lst (ms.map V.int)) c_;refine⟨_,u2 _ _ aq,by rw[List.length_map];show 2+ms.length<=_;lia,λp3 gP=>?_⟩
  have u3:=ah.put (o:=HO.lst ([V.int 5,V.int 8]++ms.map V.int)) gP;refine⟨p3,5::8::ms,_,bg,rfl,aD.of aq,by simp;lia,by lia,by lia,Cf,Cg,λsl xG qs H7 s7 n7 hq Cn lq nK=>?_⟩
  have JN:=(((Cj.trans u1).trans u2).trans u3).trans s7;have JO:=hP.same (((u1.trans u2).trans u3).trans s7);have nq:qs.length=ms.length+2:=lq;have mo:=Cn.most nK;have wX:∀q∈qs.map lN,dh q:=λq b8=>by
   obtain⟨q0,h0,rfl⟩:=List.mem_map.mp b8;obtain⟨i,ei⟩:=List.getElem?_of_mem h0;have v:=(Cn.k i q0 ei).up (by lia)
   have:=mo q0 h0;have:=v.at;exact v.setAt (by lia) (by lia)
  clear u1 u2 u3 cG c_ gP n7 s7 hP Cj Cn nK mo lq UG Cm;refine pq sl (xG.map V.ref) (λD i ys au H2=>∃(u:Option V) (ps:List Addr),ys=ps.map V.ref/\ps.length=i/\i<=qs.length/\au = [u]/\H2 D=some (.lst ys)/\ah H7 H2/\H7 D=none/\∀(j:Nat) (t:Addr) (q:Sq),ps[j]? = some t->qs[j]? = some q->∃m b,eY H2 t (lN q) m b) (λQ q=>⟨_,rfl,q⟩) (aD.of hq.l) ?_ ?_ ?_ ?_
  ·intro D hD;exact⟨_,[],rfl,rfl,Nat.zero_le _,rfl,aq,ah.put hD,hD,λj p q e=>by cases e⟩
  ·rintro D i ys au H2 ⟨u,ps,rfl,e0,e1,rfl,e2,e3,e4,e5⟩;refine⟨e2,gB ?_,e3.seq (aD.of hq.l)⟩;rw[List.length_map];lia
  ·rintro D i x ys au H2 N hN hx ⟨u,ps,rfl,e0,e1,rfl,e2,e3,e4,e5⟩;obtain⟨t,ht,rfl⟩:=gF hx;have hi:i<qs.length:=by rw[← hq.n];exact dY ht
   have eq:=List.getElem?_eq_getElem hi;obtain⟨m,b,hz⟩:=hq.t i t qs[i] ht eq
   replace hz:=hz.same e3
   walk_at "rdm";refine⟨_,aJ.of hz.o,GS,λp hp=>?_⟩;have v1:=ah.put (o:=HO.tup [.str qs[i].kind,.int qs[i].first,.int qs[i].many,.ref m]) hp;refine⟨_,aJ.of (v1 _ _ hz.o),_,rfl,_,rfl,λp1 cG=>?_⟩;have v2:=ah.put (o:=HO.tup [V.int (qs[i].at_+7)]) cG;refine⟨_,aJ.of (v2 _ _ aq),_,aJ.of aq,List.cons_ne_nil _ _,(by show 4+1<=_;decide),λz=>absurd z (List.cons_ne_nil _ _),λ_ p2 c_=>?_⟩
   have v3:=ah.put (o:=HO.tup [.str qs[i].kind,.int qs[i].first,.int qs[i].many,.ref m,V.int (qs[i].at_+7)]) c_;have JP:=(v1.trans v2).trans v3;refine⟨_,aJ.of (JP _ _ hz.o),GU,λp3 gP=>?_⟩;have v4:=ah.put (o:=HO.tup [V.int qs[i].cO,dO qs[i].c8,.ref b]) gP;refine⟨_,aJ.of (v4 _ _ aq),_,aJ.of aq,List.cons_ne_nil _ _,(by show 5+3<=_;decide),λz=>absurd z (List.cons_ne_nil _ _),λ_ p4 iY=>?_⟩
   have v5:=ah.put (o:=HO.tup [.str qs[i].kind,.int qs[i].first,.int qs[i].many,.ref m,V.int (qs[i].at_+7),V.int qs[i].cO,dO qs[i].c8,.ref b]) iY;have vv:=(JP.trans v4).trans v5;have vD:=vv _ _ e2;have up:∀ {G:Hp} {t:Addr} {q:Sq} {m b:Addr} {xs:List V} {o:HO},G D=some (.lst xs)->eY G t q m b->eY (upd G D o) t q m b:=λ{G t q m b xs o} hD h=>by
    have ne:∀ {a:Addr} {ys:List V},G a=some (.tup ys)->a≠D:=λe=>iB e hD (λz=>nomatch z);exact⟨by rw[aG (ne h.o)];exact h.o,by rw[aG (ne h.ms)];exact h.ms,by rw[aG (ne h.bh)];exact h.bh⟩
   refine⟨vD,hN _ _ _ ⟨_,ps++[p4],by simp,by simp[e0],hi,rfl,aq,ah.put2 (e3.trans vv) e4,e4,λj p' q' f1 f2=>?_⟩⟩
   by_cases hj:j<ps.length
   ·rw[List.getElem?_append_left hj] at f1;obtain⟨m',b',z⟩:=e5 j p' q' f1 f2;exact⟨m',b',up vD (z.same vv)⟩
   ·rw[List.getElem?_append_right (by lia)] at f1
    have hl:=dY f1;have Cd:j - ps.length=0:=by simp at hl;lia
    rw[Cd] at f1;cases f1;have:j=i:=by lia
    rw[this,eq] at f2;cases f2;exact⟨m,b,up vD ⟨aq,vv _ _ hz.ms,vv _ _ hz.bh⟩⟩
  ·rintro D ys au H2 ⟨u,ps,rfl,e0,e1,rfl,e2,e3,e4,e5⟩;rw[List.length_map,hq.n] at e0;have rm:cP H2 D ps (qs.map lN):=⟨e2,by rw[e0,List.length_map],λi t q f1 f2=>by
    rw[List.getElem?_map] at f2;obtain⟨q0,h0,rfl⟩:=Option.map_eq_some_iff.mp f2;exact e5 i t q0 f1 h0⟩
   have n7:(qs.map lN).length=ms.length+2:=by rw[List.length_map];exact nq
   have UH:=JO.same e3;have UI:=JN.trans e3;generalize qs.map lN=us at rm n7 wX;clear hq e5 e4 e3 e1 e0 nq JO JN;intro R hR;refine RJ [.int 4,.int 5] (λtp i σ G=>∃(x8 x9 fV nN:Option V) (rs:List Addr),σ = [some (V.ref a),some (V.ref za),some (V.ref ca),some (V.int bg),some (V.ref p),some (V.int (PP.nc.length:Int)),some (V.ref D),some (V.ref R),x8,x9,fV,nN,none]/\ah H2 G/\iW G R rs us/\rs.length=1+2*i/\i<=2/\G tp=some (.tup [.int 4,.int 5])) (λQ q=>?_) ?_ ?_ ?_ ?_
   ·walk_at "rdm";exact q
   ·intro tp iP;exact⟨none,none,none,none,[D],rfl,(ah.put hR).trans (ah.put iP),(iW.first hR rm wX).same (ah.put iP),rfl,by lia,aq⟩
   ·rintro tp i σ G _ ⟨x8,x9,fV,nN,rs,rfl,sG,kE,JQ,i2,iP⟩;exact aJ.of iP
   ·rintro tp i x σ G N hN hx ⟨x8,x9,fV,nN,rs,rfl,sG,kE,JQ,i2,iP⟩;obtain⟨k,rfl,k0⟩:∃k:Int,x = .int k/\0<=k:=by
     cases i with
     | zero=>cases hx;exact⟨4,rfl,by lia⟩
     | succ i=>cases i with
      | zero=>cases hx;exact⟨5,rfl,by lia⟩
      | succ i=>exact nomatch hx
    have jt:i<2:=dY hx;wp_walk using o_,cF;have ZG:(ps.map V.ref).length=us.length:=by rw[List.length_map,rm.n]
    have JR:=UI.trans sG;have kF:=rm.same sG;have Co:∀v:Int,∃j:Nat,1+mix v 7 % (((ps.map V.ref).length:Int) - 1)=(j:Int)/\1<=j/\j<us.length:=λv=>by
     have m1:=Int.emod_nonneg (mix v 7) (show (((ps.map V.ref).length:Int) - 1)≠0 by lia)
     have m2:=Int.emod_lt_of_pos (mix v 7) (show 0<(((ps.map V.ref).length:Int) - 1) by lia)
     exact⟨(1+mix v 7 % (((ps.map V.ref).length:Int) - 1)).toNat,by lia,by lia,by lia⟩
    refine⟨ns,JR.seq hS,hl,k0,_,.inl (aD.of kF.l),by lia,λσ G'=>∃j:Nat,σ = [some (V.ref a),some (V.ref za),some (V.ref ca),some (V.int bg),some (V.ref p),some (V.int (PP.nc.length:Int)),some (V.ref D),some (V.ref R),some (V.int k),some (V.int (gh ns k)),some (V.int (j:Int)),nN,none]/\G' = G/\1<=j/\j<us.length,?_,?_⟩
    ·obtain⟨j,ej,j1,j2⟩:=Co (gh ns k);refine bu (λ_=>bu (λ_=>⟨ns,JR.seq hS,hl,_,.inl (aD.of kF.l),by lia,?_⟩) λ_=>⟨j,by rw[ej],rfl,j1,j2⟩) λ_=>⟨j,by rw[ej],rfl,j1,j2⟩
     obtain⟨j,ej,j1,j2⟩:=Co (gh ns 4);exact⟨j,by rw[ej],rfl,j1,j2⟩
    rintro _ G' ⟨j,rfl,eG,j1,j2⟩;rw[eG];clear eG G' Co;generalize gh ns k=c;have m1:=Int.emod_nonneg (mix c 8) (show (3:Int)≠0 by decide)
    have m2:=Int.emod_lt_of_pos (mix c 8) (show (0:Int)<3 by decide)
    wp_walk using o_,cF;obtain⟨tj,mj,bj,ej,UJ⟩:=kF.at (List.getElem?_eq_getElem j2);refine⟨λσ G'=>∃so:Int,σ = [some (V.ref a),some (V.ref za),some (V.ref ca),some (V.int bg),some (V.ref p),some (V.int (PP.nc.length:Int)),some (V.ref D),some (V.ref R),some (V.int k),some (V.int c),some (V.int (j:Int)),some (V.int so),none]/\G' = G/\0<=so/\so<=2/\(so=2->∀q,us[j]? = some q->q.kind≠"rest"),?_,?_⟩
    ·refine⟨_,aD.of kF.l,_,cU ej,_,rfl,_,aJ.of UJ.o,_,rfl,rfl,bu (λh1=>bu (λh2=>⟨0,rfl,rfl,by lia,by lia,λz=>by lia⟩) λh2=>⟨_,rfl,rfl,m1,by lia,λz=>absurd z h2⟩) λh1=>⟨_,rfl,rfl,m1,by lia,λ_ q e=>?_⟩⟩
     rw[List.getElem?_eq_getElem j2] at e;cases e;exact λz=>h1 (by rw[z])
    rintro _ G' ⟨so,rfl,eG,JS,JT,JU⟩;rw[eG];clear eG G';walk_at "rdm";have neT:tp≠R:=iB iP kE.l (λz=>nomatch z);refine⟨⟨_,aD.of kE.l⟩,D,j,so,_,c,ps,us,rfl,kF,by lia,j1,j2,JS,JT,by lia,by lia,wX,JU,λl1 ZI gq G1 t1 Cc z1 UK qU UL=>?_⟩
    have JV:=kE.push t1 Cc z1 UK qU UL;have UM:ah H2 (upd G1 R (.lst (rs.map V.ref++[V.ref l1]))):=ah.put2 (sG.trans t1) hR;have h1:1<(rs++[l1]).length:=by rw[List.length_append,List.length_singleton];lia
    have ea:(rs.map V.ref++[V.ref l1])[1]? = some (V.ref ((rs++[l1])[1])):=by
     rw[show rs.map V.ref++[V.ref l1] = (rs++[l1]).map V.ref by simp,List.getElem?_map,List.getElem?_eq_getElem h1];rfl
    obtain⟨n1,UN,UO,zr,JW,UP,JX⟩:=JV.t 1 _ (List.getElem?_eq_getElem h1);refine⟨_,t1 _ _ kE.l,by rw[List.length_map];lia,⟨_,aD.of aq⟩,_,aD.of aq,_,cU ea,_,j,so,_,c,UN,UO,rfl,zr,by lia,j1,by lia,JS,JT,by lia,by lia,UP,λz q e=>JX j us[j] q (List.getElem?_eq_getElem j2) e (JU z _ (List.getElem?_eq_getElem j2)),λl2 ZJ dH G2 t2 q8 z2 ln2 wR UQ=>?_⟩
    have JY:=JV.push t2 q8 z2 (ln2.trans JW) wR (JX.trans UQ JW);rw[List.map_append] at JY;exact⟨_,t2 _ _ aq,by rw[List.length_append,List.length_map,List.length_singleton];lia,hN _ _ ⟨_,_,_,_,_,rfl,ah.put2 (UM.trans t2) hR,JY,by rw[List.length_append,List.length_append,List.length_singleton,List.length_singleton];lia,by lia,by rw[aG neT];exact t2 _ _ (by rw[aG neT];exact t1 _ _ iP)⟩⟩
   ·rintro tp σ G ⟨x8,x9,fV,nN,rs,rfl,sG,kE,JQ,i2,iP⟩
    show DM _ _ _ _ _;walk_at "rdm";refine Oi ?_;walk_at "rdm";intro p1 cG;have g1:=ah.put (o:=HO.lst [V.ref D]) cG;refine⟨_,(kE.same g1).l,by rw[List.length_map];lia,λp2 c_=>?_⟩
    have g2:=ah.put (o:=HO.lst (rs.map V.ref++[V.ref D])) c_;have JZ:=g1.trans g2;have eo:=sG.trans JZ;have J0:=UH.same eo;have kF:=rm.same eo;have J1:=kE.same JZ;have Cp:upd (upd G p1 (HO.lst [V.ref D])) p2 (HO.lst (rs.map V.ref++[V.ref D])) p2=some (HO.lst (rs.map V.ref++[V.ref D])):=aq;generalize upd (upd G p1 (HO.lst [V.ref D])) p2 (HO.lst (rs.map V.ref++[V.ref D]))=GG at J0 kF J1 Cp;refine sN.by p2 (rs.map V.ref++[V.ref D]) (λi σ G'=>∃(Cq:Option V),σ = [some (V.ref a),some (V.ref za),some (V.ref ca),some (V.int bg),some (V.ref p),some (V.int (PP.nc.length:Int)),some (V.ref D),some (V.ref R),x8,x9,fV,nN,Cq]/\ah GG G') (aD.of Cp) ⟨none,rfl,ah.refl _⟩ (by rintro i σ G' _ ⟨_,rfl,s⟩;exact s.seq (aD.of Cp)) ?_ ?_
    ·rintro i x σ G' N hN hx ⟨Cq,rfl,sx⟩;obtain⟨r,ts,vs,rfl,z,lv,sv⟩:∃(r:Addr) (ts:List Addr) (vs:List Sq),x = .ref r/\cP GG r ts vs/\vs.length=us.length/\∀q∈vs,dh q:=by
      rw[show rs.map V.ref++[V.ref D] = (rs++[D]).map V.ref by simp] at hx
      obtain⟨r,hr,rfl⟩:=gF hx;by_cases hi:i<rs.length
      ·rw[List.getElem?_append_left hi] at hr;obtain⟨_,ts,vs,z,lv,sv,_⟩:=J1.t i r hr;exact⟨r,ts,vs,rfl,z,lv,sv⟩
      ·rw[List.getElem?_append_right (by lia)] at hr
       have hl:=dY hr;have h0:i - rs.length=0:=by simp at hl;lia
       rw[h0] at hr;cases hr;exact⟨D,ps,us,rfl,kF,rfl,wX⟩
     walk_at "rdm";refine⟨A.bO,p,r,PP,_,ts,vs,rfl,by simp,J0.same sx,by lia,z.same sx,by lia,sv,λl1 G1 t1 r1=>⟨r,PP.nc.length,ts,vs,rfl,z.same (sx.trans t1),by lia,sv,λl2 G2 t2 r2=>⟨_,_,_,rfl,r1.same t2,r2,λG3 t3=>⟨true,rfl,ite_no (by decide) (hN _ _ ⟨_,rfl,((sx.trans t1).trans t2).trans t3⟩)⟩⟩⟩⟩
    ·rintro σ G' ⟨Cq,rfl,sx⟩;walk_at "rdm";exact q _
end
theorem kG{C:List Value->Prop}(h:C []):∀us:List Value,us.length=0->C us:=λ| [],_=>h
theorem bU{n:Nat}{C:List Value->Prop}(h:∀a us,us.length=n->C (a::us)):∀us:List Value,us.length=n+1->C us:=λ| a::us,e=>h a us (Nat.succ.inj e)
theorem wY{K:W.Frag}{fd:FuncData}{ps:List Str}{ds:List Value}(n:Nat)(e:n+ds.length=ps.length)(h:∀s,K.In s.heap->∀us:List Value,us.length=n->BindsTo s fd ⟨us,[]⟩ (ps.zip (us++ds))):Binds K fd ps ds:=λs us X hl=>h s X us (by rw[List.length_append] at hl;lia)
theorem gq{C:List Value->Prop}(h:∀a0,C [a0]):∀us:List Value,us.length=1->C us:=bU λa0=>kG (h a0)
theorem dH{C:List Value->Prop}(h:∀a0 a1,C [a0,a1]):∀us:List Value,us.length=2->C us:=bU λa0=>bU λa1=>kG (h a0 a1)
theorem rq{C:List Value->Prop}(h:∀a0 a1 a2,C [a0,a1,a2]):∀us:List Value,us.length=3->C us:=bU λa0=>bU λa1=>bU λa2=>kG (h a0 a1 a2)
theorem UR{C:List Value->Prop}(h:∀a0 a1 a2 a3,C [a0,a1,a2,a3]):∀us:List Value,us.length=4->C us:=bU λa0=>bU λa1=>bU λa2=>bU λa3=>kG (h a0 a1 a2 a3)
theorem Cr{C:List Value->Prop}(h:∀a0 a1 a2 a3 a4,C [a0,a1,a2,a3,a4]):∀us:List Value,us.length=5->C us:=bU λa0=>bU λa1=>bU λa2=>bU λa3=>bU λa4=>kG (h a0 a1 a2 a3 a4)
theorem J2{C:List Value->Prop}(h:∀a0 a1 a2 a3 a4 a5,C [a0,a1,a2,a3,a4,a5]):∀us:List Value,us.length=6->C us:=bU λa0=>bU λa1=>bU λa2=>bU λa3=>bU λa4=>bU λa5=>kG (h a0 a1 a2 a3 a4 a5)
theorem US{C:List Value->Prop}(h:∀a0 a1 a2 a3 a4 a5 a6,C [a0,a1,a2,a3,a4,a5,a6]):∀us:List Value,us.length=7->C us:=bU λa0=>bU λa1=>bU λa2=>bU λa3=>bU λa4=>bU λa5=>bU λa6=>kG (h a0 a1 a2 a3 a4 a5 a6)
theorem UT{C:List Value->Prop}(h:∀a0 a1 a2 a3 a4 a5 a6 a7 a8 a9,C [a0,a1,a2,a3,a4,a5,a6,a7,a8,a9]):∀us:List Value,us.length=10->C us:=bU λa0=>bU λa1=>bU λa2=>bU λa3=>bU λa4=>bU λa5=>bU λa6=>bU λa7=>bU λa8=>bU λa9=>kG (h a0 a1 a2 a3 a4 a5 a6 a7 a8 a9)
theorem all_mk{l:W.OpenLaw}{w:World}{K:W.Frag}{h:Heap}{mg:Str->Option Value}{fa:Addr}{lZ rA nO wZ Cs Ct Cu Cv w4 w5 w6 w_ Cw Cy Cz CB CC CD CF CG CH CI CJ CK CL CM CN xg xh xj CO CQ CS CT CU CV CW CY CZ C1 C3 C4 C5 C6 C7 C8 C9:Addr}{UU xm UW UX C_ UY UZ Dc U0 U1 Dd:Option Addr}{U3 U4 U5 U6 U7 U8 U9:Array (Option Value)}{U_ xq xr xu rB xw Va Vb De Df Dg xx Dh Vc Vd Di Dj Dl xy Dm Ve Vf Dn Dp Dq xA Dr:Value}{Vg Vh Vi:Nat}{J5 J6:Tok}{zJ zK J7 J8 J9 J_ Ka Kc Kd Ke Kf Kg Kh Kl Km Kn Ko Kp Kq Kr Ks Ku Kv Kw Ky Kz KA KC KG KH KI KJ KL KN KO KP KQ KR KS KU:FuncData}{bx:Addr}{bO:Addr}{dz:Addr}{aZ:Addr}{e7:Addr}{br:Addr}{qk:Tok}{ql:Tok}{qm:Tok}{qo:Tok}{qp:Tok}{qq:Tok}{qt:Tok}{qu:Tok}{qw:Tok}{qx:Tok}{qy:Tok}{qz:Tok}{qA:Tok}(X:K.In h)(G:h.Ns mainGlobals mg)(Vj:mg "law" = some (.ref fa))
  (Vk:W.nsIn K mainGlobals "ArmError" = some (some (.ref dz)))
  (Vl:W.nsIn K mainGlobals "NoCell" = some (some (.ref aZ)))
  (Vm:W.nsIn K mainGlobals "NoAsk" = some (some (.ref e7)))
  (Vn:W.nsIn K mainGlobals "NoOrder" = some (some (.ref br)))
  (Vo:W.nsIn K mainGlobals "Ask" = some (some (.ref bx)))
  (Vp:W.nsIn K mainGlobals "Plate" = some (some (.ref bO)))
  (ZK:W.findIn K (.ref aZ) "__init__" = some (some (.ref lZ)))
  (ZM:W.isFn K (.ref lZ)=true)
  (Vq:K.lookup lZ=some ⟨U_,UU,.func (W.fnOf "__init__" "NoCell.__init__" (dM fM) (cZ fM) (aU fM) (.ref rA) xq xr xu xm rB xw),U3⟩)
  (qQ:K.lookup rA=some ⟨Va,UW,.seq #[.none] Vg,U4⟩)
  (Vr:W.codeIn K rB "NoCell.__init__" = true)
  (Vs:W.keepIn K (.ref lZ)=true)
  (ZN:W.findIn K (.ref br) "__init__" = some (some (.ref nO)))
  (ZO:W.isFn K (.ref nO)=true)
  (F1:aN K "__init__" "NoOrder.__init__" zR nO zJ)
  (Vt:W.findIn K (.ref bx) "__init__" = some (some (.ref wZ)))
  (Vu:W.isFn K (.ref wZ)=true)
  (F2:aN K "__init__" "Ask.__init__" zS wZ zK)
  (Vv:W.nsIn K mainGlobals "check_between" = some (some (.ref Cs)))
  (F3:aN K "check_between" "check_between" zT Cs J7)
  (Vw:W.nsIn K mainGlobals "check_behind" = some (some (.ref Ct)))
  (F4:aN K "check_behind" "check_behind" zU Ct J8)
  (Vx:W.nsIn K mainGlobals "check_fields" = some (some (.ref Cu)))
  (F5:aN K "check_fields" "check_fields" zW Cu J9)
  (Vy:W.nsIn K mainGlobals "told_behind" = some (some (.ref Cv)))
  (F6:aN K "told_behind" "told_behind" zX Cv J_)
  (Vz:W.nsIn K mainGlobals "reading" = some (some (.ref w4)))
  (VA:K.lookup w4=some ⟨Vb,UX,.func (W.fnOf "reading" "reading" (dM gI) (cZ gI) (aU gI) (.ref w5) De Df Dg C_ xx Dh),U5⟩)
  (VB:K.lookup w5=some ⟨Vc,UY,.seq #[.int 0 J5,.none,.none] Vh,U6⟩)
  (VC:W.codeIn K xx "reading" = true)
  (VD:W.keepIn K (.ref w4)=true)
  (VE:W.nsIn K mainGlobals "writing" = some (some (.ref w6)))
  (VF:K.lookup w6=some ⟨Vd,UZ,.func (W.fnOf "writing" "writing" (dM gJ) (cZ gJ) (aU gJ) (.ref w_) Di Dj Dl Dc xy Dm),U7⟩)
  (VG:K.lookup w_=some ⟨Ve,U0,.seq #[.int 0 J6,.none,.none,.bool false] Vi,U8⟩)
  (VH:W.codeIn K xy "writing" = true)
  (VI:W.keepIn K (.ref w6)=true)
  (VJ:W.nsIn K mainGlobals "resting" = some (some (.ref Cw)))
  (F9:aN K "resting" "resting" zY Cw Ka)
  (VL:W.nsIn K mainGlobals "clash" = some (some (.ref Cy)))
  (KW:aN K "clash" "clash" zZ Cy Kc)
  (VM:W.nsIn K mainGlobals "stretch" = some (some (.ref Cz)))
  (KY:aN K "stretch" "stretch" z3 Cz Kd)
  (VN:W.nsIn K mainGlobals "stretch_by_number" = some (some (.ref CB)))
  (KZ:aN K "stretch_by_number" "stretch_by_number" z6 CB Ke)
  (VO:W.nsIn K mainGlobals "check_beat" = some (some (.ref CC)))
  (K0:aN K "check_beat" "check_beat" z7 CC Kf)
  (VP:W.nsIn K mainGlobals "check_told" = some (some (.ref CD)))
  (K1:aN K "check_told" "check_told" z8 CD Kg)
  (VQ:W.nsIn K mainGlobals "kept_behind" = some (some (.ref CF)))
  (K2:aN K "kept_behind" "kept_behind" z9 CF Kh)
  (VR:W.nsIn K mainGlobals "orders" = some (some (.ref CG)))
  (K3:aN K "orders" "orders" z_ CG Kl)
  (VS:W.nsIn K mainGlobals "check_zones" = some (some (.ref CH)))
  (K4:aN K "check_zones" "check_zones" Aa CH Km)
  (VT:W.nsIn K mainGlobals "check_turning" = some (some (.ref CI)))
  (K5:aN K "check_turning" "check_turning" Ab CI Kn)
  (VU:W.nsIn K mainGlobals "check_swing" = some (some (.ref CJ)))
  (K6:aN K "check_swing" "check_swing" Ac CJ Ko)
  (VV:W.nsIn K mainGlobals "check_no_detour" = some (some (.ref CK)))
  (K7:aN K "check_no_detour" "check_no_detour" Ad CK Kp)
  (VW:W.nsIn K mainGlobals "cells_by_ring" = some (some (.ref CL)))
  (K8:aN K "cells_by_ring" "cells_by_ring" Ae CL Kq)
  (VX:W.nsIn K mainGlobals "cells_by_number" = some (some (.ref CM)))
  (K9:aN K "cells_by_number" "cells_by_number" Af CM Kr)
  (VY:W.nsIn K mainGlobals "numbers_by_cell" = some (some (.ref CN)))
  (K_:aN K "numbers_by_cell" "numbers_by_cell" Ag CN Ks)
  (VZ:W.findIn K (.ref bO) "__init__" = some (some (.ref xg)))
  (V0:W.isFn K (.ref xg)=true)
  (La:aN K "__init__" "Plate.__init__" Ah xg Ku)
  (V1:W.findIn K (.ref bO) "rings" = some (some (.ref xh)))
  (V2:W.isFn K (.ref xh)=true)
  (Ds:aN K "rings" "Plate.rings" Ai xh Kv)
  (V3:W.findIn K (.ref bO) "cell_at" = some (some (.ref xj)))
  (V4:W.isFn K (.ref xj)=true)
  (Du:aN K "cell_at" "Plate.cell_at" Aj xj Kw)
  (V5:W.nsIn K mainGlobals "_law_at" = some (some (.ref CO)))
  (Lb:aN K "_law_at" "_law_at" Al CO Ky)
  (V6:W.nsIn K mainGlobals "_law_same" = some (some (.ref CQ)))
  (Ld:aN K "_law_same" "_law_same" Am CQ Kz)
  (V7:W.nsIn K mainGlobals "_law_mix" = some (some (.ref CS)))
  (Le:aN K "_law_mix" "_law_mix" An CS KA)
  (V8:W.nsIn K mainGlobals "_law_zones" = some (some (.ref CT)))
  (Lf:aN K "_law_zones" "_law_zones" Ao CT KC)
  (V9:W.nsIn K mainGlobals "_law_counts" = some (some (.ref CU)))
  (Lg:aN K "_law_counts" "_law_counts" Aq CU KG)
  (V_:W.nsIn K mainGlobals "_law_lap" = some (some (.ref CV)))
  (Lh:aN K "_law_lap" "_law_lap" As CV KH)
  (Wa:W.nsIn K mainGlobals "_law_swing" = some (some (.ref CW)))
  (Li:aN K "_law_swing" "_law_swing" Au CW KI)
  (Wb:W.nsIn K mainGlobals "_law_marks" = some (some (.ref CY)))
  (Lj:aN K "_law_marks" "_law_marks" Av CY KJ)
  (Wc:W.nsIn K mainGlobals "_law_spec" = some (some (.ref CZ)))
  (Lk:aN K "_law_spec" "_law_spec" Aw CZ KL)
  (Wd:W.nsIn K mainGlobals "_law_specs" = some (some (.ref C1)))
  (Ll:aN K "_law_specs" "_law_specs" Ax C1 KN)
  (We:W.nsIn K mainGlobals "_law_ask" = some (some (.ref C3)))
  (Lm:aN K "_law_ask" "_law_ask" Ay C3 KO)
  (Wf:W.nsIn K mainGlobals "_law_clashing" = some (some (.ref C4)))
  (Ln:aN K "_law_clashing" "_law_clashing" Az C4 KP)
  (Wg:W.nsIn K mainGlobals "_law_orders" = some (some (.ref C5)))
  (Lo:aN K "_law_orders" "_law_orders" AA C5 KQ)
  (Wh:W.nsIn K mainGlobals "_law_bent" = some (some (.ref C6)))
  (Lp:aN K "_law_bent" "_law_bent" AB C6 KR)
  (Wi:W.nsIn K mainGlobals "_law_due" = some (some (.ref C7)))
  (Lq:aN K "_law_due" "_law_due" AD C7 KS)
  (Wj:W.nsIn K mainGlobals "_law_asked" = some (some (.ref C8)))
  (Lr:aN K "_law_asked" "_law_asked" AE C8 KU)
  (Ls:W.nsIn K mainGlobals "law" = some (some (.ref C9)))
  (Wk:K.lookup C9=some ⟨Vf,U1,.func (W.fnOf "law" "law" (dM gK) (cZ gK) (aU gK) .none Dn Dp Dq Dd xA Dr),U9⟩)
  (Wl:W.codeIn K xA "law" = true)
  (Wm:W.keepIn K (.ref C9)=true)
  (Wn:W.plainGet K bx Str.empty=true)
  (Wo:W.hasDictIn K bx=true)
  (Wq:W.plainOver K bx=true)
  (Wr:W.findIn K (.ref bx) "__setattr__" = some (some (.builtin "object.__setattr__")))
  (Ws:W.makesIn K bx=true)
  (Wt:W.keepIn K (.ref bx)=true)
  (wk:W.findIn K (.ref bx) "kind" = some none)
  (Br:W.findIn K (.ref bx) "first" = some none)
  (Bs:W.findIn K (.ref bx) "many" = some none)
  (Bt:W.findIn K (.ref bx) "marks" = some none)
  (qB:W.findIn K (.ref bx) "at" = some none)
  (Bu:W.findIn K (.ref bx) "asker" = some none)
  (Bv:W.findIn K (.ref bx) "latest" = some none)
  (qC:W.findIn K (.ref bx) "behind" = some none)
  (Bw:W.findIn K (.ref bx) "early" = some none)
  (Wu:W.plainGet K bO Str.empty=true)
  (Wv:W.hasDictIn K bO=true)
  (Ww:W.plainOver K bO=true)
  (Wx:W.findIn K (.ref bO) "__setattr__" = some (some (.builtin "object.__setattr__")))
  (Wy:W.makesIn K bO=true)
  (Wz:W.keepIn K (.ref bO)=true)
  (wu:W.findIn K (.ref bO) "ring_cells" = some none)
  (wz:W.findIn K (.ref bO) "lap" = some none)
  (wA:W.findIn K (.ref bO) "skew" = some none)
  (wB:W.findIn K (.ref bO) "swing" = some none)
  (wC:W.findIn K (.ref bO) "number_cells" = some none)
  (wD:W.findIn K (.ref bO) "cell_numbers" = some none)
  (WA:W.nsIn K mainGlobals "MOST_CELLS" = some (some (.int 16 qk)))
  (WB:W.nsIn K mainGlobals "GREATEST_FIRST" = some (some (.int 1000000 ql)))
  (WC:W.nsIn K mainGlobals "GREATEST_MARK" = some (some (.int 1000000000 qm)))
  (WD:W.nsIn K mainGlobals "GREATEST_AT" = some (some (.int 1000000000000 qo)))
  (WE:W.nsIn K mainGlobals "GREATEST_ASKER" = some (some (.int 20 qp)))
  (WG:W.nsIn K mainGlobals "GREATEST_LATEST" = some (some (.int 10000000000000 qq)))
  (WH:W.nsIn K mainGlobals "GREATEST_BEHIND" = some (some (.int 99 qt)))
  (WI:W.nsIn K mainGlobals "MOST_ZONES" = some (some (.int 5 qu)))
  (WJ:W.nsIn K mainGlobals "MOST_RINGS_IN_ZONE" = some (some (.int 40 qw)))
  (WK:W.nsIn K mainGlobals "MOST_CELLS_IN_RING" = some (some (.int 60 qx)))
  (WL:W.nsIn K mainGlobals "LEAST_RINGS" = some (some (.int 2 qy)))
  (WM:W.nsIn K mainGlobals "MOST_RINGS" = some (some (.int 120 qz)))
  (WN:W.nsIn K mainGlobals "MOST_BEATS" = some (some (.int 1000000000 qA)))
  (qD:W.nsIn K mainGlobals "bool" = some none)
  (nu:W.nsIn K mainGlobals "enumerate" = some none)
  (qE:W.nsIn K mainGlobals "int" = some none)
  (eE:W.nsIn K mainGlobals "isinstance" = some none)
  (c9:W.nsIn K mainGlobals "len" = some none)
  (jA:W.nsIn K mainGlobals "list" = some none)
  (qF:W.nsIn K mainGlobals "max" = some none)
  (nv:W.nsIn K mainGlobals "min" = some none)
  (dP:W.nsIn K mainGlobals "range" = some none)
  (wF:W.nsIn K mainGlobals "sorted" = some none)
  (qG:W.nsIn K mainGlobals "str" = some none)
  (qH:W.nsIn K mainGlobals "sum" = some none)
  (gn:W.nsIn K mainGlobals "tuple" = some none)
  (WO:W.specialIn K (.ref dz) "__getattribute__" = some (some (.builtin "type.__getattribute__")))
  (WQ:W.readsIn K dz (.type "type")=true)
  (WR:W.findCls K (.ref dz) (.type "type") "__init__" = some (.val (.builtin "ValueError.__init__")))
  (wG:W.excIn K dz [.type "ValueError",.type "Exception",.type "BaseException",.type "object"] "ValueError.__new__" = true)
  (Lu:iO K aZ [.type "ValueError",.type "Exception",.type "BaseException",.type "object"] "ValueError.__new__" = true)
  (WS:mW K aZ lZ=true)
  (WT:W.typeIn K (.ref lZ)=some (.type "function"))
  (WU:W.findIn K (.ref aZ) "__setattr__" = some (some (.builtin "object.__setattr__")))
  (WV:W.hasDictIn K aZ=true)
  (WW:W.mroIn K aZ (.type "object")=some true)
  (WX:(W.clsIn K aZ).any (λcd=>mV [.type "ValueError",.type "Exception",.type "BaseException",.type "object"] cd.mro)=true)
  (lV:W.findIn K (.ref aZ) "cell" = some none)
  (nF:W.findIn K (.ref aZ) "ask" = some none)
  (WY:W.findIn K (.ref aZ) "__getattribute__" = some (some (.builtin "BaseException.__getattribute__")))
  (WZ:W.findIn K (.ref aZ) "__getattr__" = some none)
  (W0:W.mroIn K aZ (.type "BaseException")=some true)
  (Lv:W.mroIn K aZ (.type "object")=some true)
  (W2:W.findIn K (.ref aZ) "__class__" = some (some (.builtin "object.__class__")))
  (BF:W.kitOne K (.ref aZ) (.type "ValueError")=some true)
  (wI:W.kitOne K (.ref aZ) (.ref dz)=some true)
  (W3:W.mroIn K aZ (.ref dz)=some true)
  (BB:W.kitOne K (.ref aZ) (.ref aZ)=some true)
  (W4:W.mroIn K aZ (.ref aZ)=some true)
  (wJ:W.kitOne K (.ref aZ) (.ref e7)=some false)
  (W5:W.mroIn K aZ (.ref e7)=some false)
  (BE:W.kitOne K (.ref aZ) (.ref br)=some false)
  (W6:W.mroIn K aZ (.ref br)=some false)
  (wK:W.excIn K e7 [.type "ValueError",.type "Exception",.type "BaseException",.type "object"] "ValueError.__new__" = true)
  (Lw:iO K br [.type "ValueError",.type "Exception",.type "BaseException",.type "object"] "ValueError.__new__" = true)
  (W7:mW K br nO=true)
  (W8:W.typeIn K (.ref nO)=some (.type "function"))
  (W9:W.findIn K (.ref br) "__setattr__" = some (some (.builtin "object.__setattr__")))
  (W_:W.hasDictIn K br=true)
  (Xa:W.mroIn K br (.type "object")=some true)
  (Xb:(W.clsIn K br).any (λcd=>mV [.type "ValueError",.type "Exception",.type "BaseException",.type "object"] cd.mro)=true)
  (qL:W.findIn K (.ref br) "ask" = some none)
  (qM:W.findIn K (.ref br) "other" = some none)
  (Xc:W.findIn K (.ref br) "__getattribute__" = some (some (.builtin "BaseException.__getattribute__")))
  (Xd:W.findIn K (.ref br) "__getattr__" = some none)
  (Xe:W.mroIn K br (.type "BaseException")=some true)
  (Lx:W.mroIn K br (.type "object")=some true)
  (Xf:W.findIn K (.ref br) "__class__" = some (some (.builtin "object.__class__")))
  (BK:W.kitOne K (.ref br) (.type "ValueError")=some true)
  (wM:W.kitOne K (.ref br) (.ref dz)=some true)
  (Xg:W.mroIn K br (.ref dz)=some true)
  (wN:W.kitOne K (.ref br) (.ref aZ)=some false)
  (Xh:W.mroIn K br (.ref aZ)=some false)
  (BI:W.kitOne K (.ref br) (.ref e7)=some false)
  (Xi:W.mroIn K br (.ref e7)=some false)
  (BJ:W.kitOne K (.ref br) (.ref br)=some true)
  (Xj:W.mroIn K br (.ref br)=some true)
  (Ly:W.specialIn K (.builtin "object.__class__") "__get__" = some (some (.builtin "getset_descriptor.__get__")))
  (Lz:W.takesIn K (.builtin "object.__class__")=some true)
  : ∃fd:FuncData,(∀(s:Shared) (v:Value),BindsTo s fd ⟨[v],[]⟩ [("_law_script",v)])/\∀base:Heap,K.In base->base.Ns mainGlobals mg->a_ l.prog w K mg base bw 9 fa fd ["_law_script"] (sQ K):=by
 have e:=Vj.symm.trans (W.mg_of X G Ls);cases e;have F0:=ze (st:=fM) Vq Vr Vs;have F7:=ze (st:=gI) VA VC VD;have F8:=ze (st:=gJ) VF VH VI;have LA:=fun_mk (st:=gK) Wk Wl Wm;have Xk:Binds K (W.fnOf "__init__" "NoCell.__init__" (dM fM) (cZ fM) (aU fM) (.ref rA) xq xr xu xm rB xw) ["self", "cell", "ask"] [.none]:=wY 2 rfl λs X=>dH λ_ _=>W.binds_K X rfl qQ rfl rfl rfl;have Xl:Binds K (W.fnOf "__init__" "NoCell.__init__" (dM fM) (cZ fM) (aU fM) (.ref rA) xq xr xu xm rB xw) ["self", "cell", "ask"] []:=wY 3 rfl λs X=>rq λ_ _ _=>W.binds_K X rfl qQ rfl rfl rfl;have b1:=F1.binds (ps:=["self", "ask", "other"]) λ_ _ _ _ _ _=>rq (λ_ _ _=>rfl);have b2:=F2.binds (ps:=["self", "kind", "first", "many", "marks", "at", "asker", "latest", "behind", "early"]) λ_ _ _ _ _ _=>UT (λ_ _ _ _ _ _ _ _ _ _=>rfl)
 have b3:=F3.binds (ps:=["number", "least", "greatest", "words"]) λ_ _ _ _ _ _=>UR (λ_ _ _ _=>rfl);have b4:=F4.binds (ps:=["behind"]) λ_ _ _ _ _ _=>gq (λ_=>rfl)
 have b5:=F5.binds (ps:=["first", "many", "at", "asker", "latest", "behind"]) λ_ _ _ _ _ _=>J2 (λ_ _ _ _ _ _=>rfl)
 have b6:=F6.binds (ps:=["behind"]) λ_ _ _ _ _ _=>gq (λ_=>rfl)
 have Xm:Binds K (W.fnOf "reading" "reading" (dM gI) (cZ gI) (aU gI) (.ref w5) De Df Dg C_ xx Dh) ["first", "many", "at", "asker", "latest", "behind"] []:=wY 6 rfl λs X=>J2 λ_ _ _ _ _ _=>W.binds_K X rfl VB rfl rfl rfl
 have Xn:Binds K (W.fnOf "writing" "writing" (dM gJ) (cZ gJ) (aU gJ) (.ref w_) Di Dj Dl Dc xy Dm) ["first", "marks", "at", "asker", "latest", "behind", "early"] []:=wY 7 rfl λs X=>US λ_ _ _ _ _ _ _=>W.binds_K X rfl VG rfl rfl rfl
 have b9:=F9.binds (ps:=["at"]) λ_ _ _ _ _ _=>gq (λ_=>rfl)
 have Xo:=KW.binds (ps:=["one", "other"]) λ_ _ _ _ _ _=>dH (λ_ _=>rfl);have Xp:=KY.binds (ps:=["plate", "ask"]) λ_ _ _ _ _ _=>dH (λ_ _=>rfl);have Xq:=KZ.binds (ps:=["plate", "number", "ask"]) λ_ _ _ _ _ _=>rq (λ_ _ _=>rfl);have Xr:=K0.binds (ps:=["asks", "number"]) λ_ _ _ _ _ _=>dH (λ_ _=>rfl);have Xs:=K1.binds (ps:=["asks", "number"]) λ_ _ _ _ _ _=>dH (λ_ _=>rfl);have Xu:=K2.binds (ps:=["asks", "number"]) λ_ _ _ _ _ _=>dH (λ_ _=>rfl);have Xv:=K3.binds (ps:=["plate", "asks"]) λ_ _ _ _ _ _=>dH (λ_ _=>rfl);have Xw:=K4.binds (ps:=["zones"]) λ_ _ _ _ _ _=>gq (λ_=>rfl)
 have Xx:=K5.binds (ps:=["zones", "lap", "skew"]) λ_ _ _ _ _ _=>rq (λ_ _ _=>rfl);have Xy:=K6.binds (ps:=["swing", "rings"]) λ_ _ _ _ _ _=>dH (λ_ _=>rfl);have Xz:=K7.binds (ps:=["swing"]) λ_ _ _ _ _ _=>gq (λ_=>rfl)
 have XA:=K8.binds (ps:=["zones"]) λ_ _ _ _ _ _=>gq (λ_=>rfl)
 have XD:=K9.binds (ps:=["ring_cells", "spares"]) λ_ _ _ _ _ _=>dH (λ_ _=>rfl);have XE:=K_.binds (ps:=["number_cells"]) λ_ _ _ _ _ _=>gq (λ_=>rfl)
 have XF:=La.binds (ps:=["self", "zones", "lap", "skew", "swing"]) λ_ _ _ _ _ _=>Cr (λ_ _ _ _ _=>rfl);have XG:=Ds.binds (ps:=["self"]) λ_ _ _ _ _ _=>gq (λ_=>rfl)
 have XH:=Du.binds (ps:=["self", "number"]) λ_ _ _ _ _ _=>dH (λ_ _=>rfl);have XI:=Lb.binds (ps:=["_law_script", "_law_k"]) λ_ _ _ _ _ _=>dH (λ_ _=>rfl);have XJ:=Ld.binds (ps:=["_law_found", "_law_due_here"]) λ_ _ _ _ _ _=>dH (λ_ _=>rfl);have XM:=Le.binds (ps:=["_law_cell", "_law_k"]) λ_ _ _ _ _ _=>dH (λ_ _=>rfl);have XN:=Lf.binds (ps:=["_law_a", "_law_b"]) λ_ _ _ _ _ _=>dH (λ_ _=>rfl);have XQ:=Lg.binds (ps:=["_law_zones_here"]) λ_ _ _ _ _ _=>gq (λ_=>rfl)
 have XR:=Lh.binds (ps:=["_law_zones_here", "_law_cell"]) λ_ _ _ _ _ _=>dH (λ_ _=>rfl);have XS:=Li.binds (ps:=["_law_many", "_law_cell"]) λ_ _ _ _ _ _=>dH (λ_ _=>rfl);have XT:=Lj.binds (ps:=["_law_cell", "_law_many"]) λ_ _ _ _ _ _=>dH (λ_ _=>rfl);have XU:=Lk.binds (ps:=["_law_cell", "_law_total", "_law_lap_here", "_law_at_here", "_law_others"]) λ_ _ _ _ _ _=>Cr (λ_ _ _ _ _=>rfl);have XW:=Ll.binds (ps:=["_law_cells", "_law_total", "_law_lap_here"]) λ_ _ _ _ _ _=>rq (λ_ _ _=>rfl);have XX:=Lm.binds (ps:=["_law_spec_here"]) λ_ _ _ _ _ _=>gq (λ_=>rfl)
 have XY:=Ln.binds (ps:=["_law_one", "_law_other"]) λ_ _ _ _ _ _=>dH (λ_ _=>rfl);have XZ:=Lo.binds (ps:=["_law_specs_here"]) λ_ _ _ _ _ _=>gq (λ_=>rfl)
 have X0:=Lp.binds (ps:=["_law_specs_here", "_law_at_here", "_law_sort", "_law_total", "_law_cell"]) λ_ _ _ _ _ _=>Cr (λ_ _ _ _ _=>rfl);have X3:=Lq.binds (ps:=["_law_specs_here", "_law_total"]) λ_ _ _ _ _ _=>dH (λ_ _=>rfl);have X4:=Lr.binds (ps:=["_law_plate", "_law_specs_here"]) λ_ _ _ _ _ _=>dH (λ_ _=>rfl);have X5:=LA.binds (ps:=["_law_script"]) λ_ _ _ _ _ _=>gq (λ_=>rfl)
 let A:ni:={ qc:=lZ,nj:=(W.fnOf "__init__" "NoCell.__init__" (dM fM) (cZ fM) (aU fM) (.ref rA) xq xr xu xm rB xw),t_:=nO,uc:=zJ,ud:=wZ,ue:=zK,uf:=Cs,ug:=J7,uh:=Ct,um:=J8,uo:=Cu,uq:=J9,ur:=Cv,uu:=J_,uv:=w4,uw:=(W.fnOf "reading" "reading" (dM gI) (cZ gI) (aU gI) (.ref w5) De Df Dg C_ xx Dh),R3:=J5,ux:=w6,uy:=(W.fnOf "writing" "writing" (dM gJ) (cZ gJ) (aU gJ) (.ref w_) Di Dj Dl Dc xy Dm),R4:=J6,uz:=Cw,uA:=Ka,uB:=Cy,uC:=Kc,uD:=Cz,uE:=Kd,uF:=CB,uG:=Ke,uH:=CC,uI:=Kf,uJ:=CD,uK:=Kg,uL:=CF,uM:=Kh,uN:=CG,uO:=Kl,uP:=CH,uQ:=Km,uR:=CI,uS:=Kn,uT:=CJ,uU:=Ko,uW:=CK,uX:=Kp,uY:=CL,uZ:=Kq,u0:=CM,u5:=Kr,u6:=CN,u7:=Ks,u9:=xg,u_:=Ku,qd:=xh,vc:=Kv,qg:=xj,vd:=Kw,ve:=CO,vf:=Ky,qh:=CQ,qj:=Kz,vg:=CS,vh:=KA,vj:=CT,vm:=KC,vn:=CU,vo:=KG,vp:=CV,vq:=KH,vt:=CW,vA:=KI,vB:=CY,vC:=KJ,vE:=CZ,vF:=KL,vG:=C1,vH:=KN,vI:=C3,vJ:=KO,vK:=C4,vL:=KP,vM:=C5,vN:=KQ,vO:=C6,vP:=KR,vQ:=C7,vR:=KS,vU:=C8,vV:=KU,vW:=fa,vX:=(W.fnOf "law" "law" (dM gK) (cZ gK) (aU gK) .none Dn Dp Dq Dd xA Dr),bx:=bx,bO:=bO,dz:=dz,aZ:=aZ,e7:=e7,br:=br,qk:=qk,ql:=ql,qm:=qm,qo:=qo,qp:=qp,qq:=qq,qt:=qt,qu:=qu,qw:=qw,qx:=qx,qy:=qy,qz:=qz,qA:=qA }
 have T:Tx K mg A:={ AI:=F0,G_:=Xk,Hf:=Xl,Hg:=F1,AJ:=b1,Hi:=F2,vY:=b2,iX:=F3,jy:=b3,jz:=W.mg_of X G Vv,AK:=F4,Hj:=b4,Hl:=W.mg_of X G Vw,vZ:=F5,AL:=b5,AM:=W.mg_of X G Vx,v_:=F6,AN:=b6,AO:=W.mg_of X G Vy,AQ:=F7,Ho:=Xm,Hq:=W.mg_of X G Vz,AR:=F8,Hr:=Xn,Hs:=W.mg_of X G VE,AS:=F9,Ht:=b9,Hu:=W.mg_of X G VJ,AU:=KW,Hv:=Xo,Hw:=W.mg_of X G VL,AV:=KY,Hy:=Xp,Hz:=W.mg_of X G VM,AW:=KZ,HA:=Xq,HB:=W.mg_of X G VN,AX:=K0,HC:=Xr,HD:=W.mg_of X G VO,AY:=K1,HE:=Xs,HF:=W.mg_of X G VP,AZ:=K2,HG:=Xu,HJ:=W.mg_of X G VQ,A0:=K3,HK:=Xv,HL:=W.mg_of X G VR,A1:=K4,HM:=Xw,HN:=W.mg_of X G VS,A2:=K5,HP:=Xx,HQ:=W.mg_of X G VT,A3:=K6,HR:=Xy,HS:=W.mg_of X G VU,A4:=K7,HU:=Xz,HV:=W.mg_of X G VV,A5:=K8,HW:=XA,HX:=W.mg_of X G VW,A6:=K9,HY:=XD,HZ:=W.mg_of X G VX,A7:=K_,H_:=XE,Ia:=W.mg_of X G VY,Ib:=La,Ic:=XF,Ie:=Ds,R5:=XG,Ig:=⟨V1,V2,Ds.kp⟩,Ih:=Du,Ii:=XH,Ij:=⟨V3,V4,Du.kp⟩,kq:=Lb,lR:=XI,lT:=W.mg_of X G V5,wc:=Ld,A8:=XJ,A9:=W.mg_of X G V6,bJ:=Le,bK:=XM,bL:=W.mg_of X G V7,A_:=Lf,Ik:=XN,Il:=W.mg_of X G V8,Bb:=Lg,Im:=XQ,Io:=W.mg_of X G V9,Bc:=Lh,Ip:=XR,Iq:=W.mg_of X G V_,Bd:=Li,Ir:=XS,Iu:=W.mg_of X G Wa,Bf:=Lj,Iv:=XT,Iw:=W.mg_of X G Wb,Bg:=Lk,Iz:=XU,IA:=W.mg_of X G Wc,Bh:=Ll,IC:=XW,ID:=W.mg_of X G Wd,Bj:=Lm,IE:=XX,IF:=W.mg_of X G We,Bk:=Ln,IG:=XY,II:=W.mg_of X G Wf,Bl:=Lo,IJ:=XZ,IK:=W.mg_of X G Wg,we:=Lp,Bm:=X0,Bo:=W.mg_of X G Wh,Bp:=Lq,IL:=X3,IM:=W.mg_of X G Wi,Bq:=Lr,IP:=X4,IQ:=W.mg_of X G Wj,IS:=LA,R6:=X5,R7:=W.mg_of X G Ls,nk:=⟨Wn,Wo,Wq,Wr⟩,wg:=⟨Ws,Vt,Vu,Wt⟩,wj:=W.mg_of X G Vo,wk:=wk,Br:=Br,Bs:=Bs,Bt:=Bt,qB:=qB,Bu:=Bu,Bv:=Bv,qC:=qC,Bw:=Bw,wm:=⟨Wu,Wv,Ww,Wx⟩,IT:=⟨Wy,VZ,V0,Wz⟩,IU:=W.mg_of X G Vp,wu:=wu,wz:=wz,wA:=wA,wB:=wB,wC:=wC,wD:=wD,IV:=W.mg_of X G WA,IW:=W.mg_of X G WB,IX:=W.mg_of X G WC,Bx:=W.mg_of X G WD,IY:=W.mg_of X G WE,IZ:=W.mg_of X G WG,I0:=W.mg_of X G WH,I_:=W.mg_of X G WI,Ja:=W.mg_of X G WJ,Jb:=W.mg_of X G WK,Jc:=W.mg_of X G WL,Jd:=W.mg_of X G WM,By:=W.mg_of X G WN,qD:=W.mg_none_of X G qD,nu:=W.mg_none_of X G nu,qE:=W.mg_none_of X G qE,eE:=W.mg_none_of X G eE,c9:=W.mg_none_of X G c9,jA:=W.mg_none_of X G jA,qF:=W.mg_none_of X G qF,nv:=W.mg_none_of X G nv,dP:=W.mg_none_of X G dP,wF:=W.mg_none_of X G wF,qG:=W.mg_none_of X G qG,qH:=W.mg_none_of X G qH,gn:=W.mg_none_of X G gn,nA:=W.mg_of X G Vk,wG:=wG,R8:=fu.of wG (by decide),wH:=⟨WO,WQ,WR,by decide⟩,nB:=W.mg_of X G Vl,qI:=⟨_,_,Lu,by decide⟩,lU:=⟨Lu,WS,WT⟩,ku:=⟨WU,WV,WW,WX⟩,lV:=lV,nF:=nF,nG:=⟨WY,WZ,W0,Lv,W2,Ly,Lz⟩,BA:=FG Lv,BF:=BF,wI:=wI,R9:=j3 W3,BB:=BB,BD:=j3 W4,wJ:=wJ,R_:=j3 W5,BE:=BE,Je:=j3 W6,Jf:=W.mg_of X G Vm,wK:=wK,Sa:=fu.of wK (by decide),wL:=W.mg_of X G Vn,BG:=⟨_,_,Lw,by decide⟩,qJ:=⟨Lw,W7,W8⟩,qK:=⟨W9,W_,Xa,Xb⟩,qL:=qL,qM:=qM,qN:=⟨Xc,Xd,Xe,Lx,Xf,Ly,Lz⟩,BH:=FG Lx,BK:=BK,wM:=wM,Sd:=j3 Xg,wN:=wN,Se:=j3 Xh,BI:=BI,Sf:=j3 Xi,BJ:=BJ,Jg:=j3 Xj }
 exact⟨(W.fnOf "law" "law" (dM gK) (cZ gK) (aU gK) .none Dn Dp Dq Dd xA Dr),λs v=>.of_eq rfl,λbase _ _=>Ur T⟩
theorem walk{l:W.OpenLaw}{q:Program}{loose:List Str}{XP:(Str->Option Value)->Heap->Prop}{YP:World->Heap->Prop}{d:DefRec}{K:Params->W.Frag}(hn:l.most=some 63)(oV:d.params.defaults = [])
  (hY:∀(w:World) (h:Heap),YP w h->(K w.params).In h)
  (F:∀(w:World) (mg:Str->Option Value) (fa:Addr) (h:Heap),(K w.params).In h->h.Ns mainGlobals mg->mg d.name=some (.ref fa)->
   ∃fd:FuncData,(∀(s:Shared) (u:Value),BindsTo s fd ⟨[u],[]⟩ [("_law_script",u)])/\∀base:Heap,(K w.params).In base->base.Ns mainGlobals mg->a_ l.prog w (K w.params) mg base bw 9 fa fd ["_law_script"] (sQ (K w.params))) :
  W.WalkO q loose XP YP l.row.toRowW d [] (λf vs=>PySem.call f vs) :=
 _L.NR (n:=63) (k:=9) (x := "_law_script") (CX:=λ_=>bw) (sp:=λw=>sQ (K w.params)) hn (by decide) oV ⟨rfl,by decide,by decide⟩ hY F (λ_ _ a ns hl _ hS=>⟨a,ns,rfl,hS,hl,λ_=>rfl⟩) λ_ _ _ _ _ z=>z
end _W
/-! ZP names are taken,so ZQ no fast copy is laid of X6 largest tables: X6 compiled file stays small -/
structure PySem.W.Fast:Prop where(tw12748814693039359380 tw7200248332891705343 tw14513794535901065407 tw16596742730418280985 tw1030645733457940492 tw13350854841885848573 tw6559520036752413621 tw8512664945983849389 tw9893755676484041019 tw15273772869145824941 tw16384003574924316610 tw1110424909996548708 tw11581031951475556747 tw1972911471457635689 tw11050497364057222500 tw11685026477440308252 tw8543720116515643445 tw10112734866161465703 tw2608941300605644388 tw18241624940246484913 tw1067995836104639431 tw14016529038491218774 tw16317972737226315179 tw8878626171668571911 tw3513966346010090252 tw6557520809538228824 tw10106889598982354463 tw16475215679806232553 tw16858296263658169288 tw11661097395294822470 tw10745229133326813876 tw18408828920572863775 tw7729630719564338509 tw11854538203009951893 tw11989418200165283477 tw10036002996290769365 tw11231546448392671673 tw9247815931495105570 tw18328630773698916257 tw17587742700865964207 tw5524101111419920604 tw6481976228952441695 tw14880925896353714837 tw16165541035168330529 tw6233224462874467133 tw17606355502561867289 tw5098792469553807330 tw3351349326505528601 tw16215487193933591885 tw5517468388597146968 tw2253514065964407081 tw5927918687465541324 tw7395749683025030177 tw5453573824679001332 tw836680410359264616 tw9173445880810965703 tw16040539468125584396 tw9380760017613554867 tw15028567579187848820 tw680000395769554506 tw14541538912474502866 tw2856755517779395112 tw15186331141727289818 tw9817405136690252442 tw9344566173232300882 tw15214545912138887180 tw4693559798925596366 tw7200376505667538433 tw16501281923157495433 tw6324404669620872939 tw16869653299785631483 tw11888226433919056736 tw10702976105109272134 tw428635019083593913 tw16383000586394679697 tw13787258500101332087 tw5801272068911142008 tw17826765511382398581 tw7217870774437894590 tw16189584971484889974 tw5105647930985580044 tw3473713617902208843 tw8173728231534402183 tw6018733407582279830 tw4146556708049027555 tw1147567530667087488 tw12223677963921616430 tw7139743030240062172 tw14263393517498371702 tw6485199324351413259 tw17473750177695651881 tw12166867759538511446 tw15384779358294308640 tw18188353689366354960 tw14316634869406275967 tw9171786106456208586 tw8067576106432636108 tw18095304128061766293 tw9419805508748234850 tw4947358589888440981 tw4417180758284978893 tw2483381667511354793 tw17160889824299419639 tw6928355775503765937 tw14473678805008106653 tw5155166153855331990 tw12834201796478027011 tw9528375447774625026 tw13402271927850434607 tw4691002319108336247 tw2228744558222630614 tw6818258735546271675 tw28332807659299489 tw9959269245625428912 tw16631106312590697208 tw1350862163530497527 tw771005184582557650 tw17178966348592306422 tw12665600894853234925 tw5822142557591372794 tw17027083323654164264 tw3416426779415206449 tw2669606190724916973 tw10373605027296671369 tw8314362749788485753 tw11367203621545049404 tw9364416762454567986 tw13423417328119165221 tw5676520986461188948 tw1442419857729170736 tw6814629938672782882 tw8473220054706352042 tw2709464894906172029 tw3919622014064562912 tw12566806218575969838 tw448426781719371033 tw11852485729227005951 tw8648376193594562255 tw16937943738047843952 tw6897392678747352432 tw6411888598730094015 tw6245535420446150999 tw12359221828245890353 tw9481191266965673926 tw12812805973929521311 tw8428034844009906200 tw3576729695585465759 tw17345893596435461864 tw2000139617742388496 tw800710948124878760 tw13656796647976809691 tw3530730500295869736 tw2506118687049331103 tw13476971293088604083 tw1374786769387183238 tw197394748254978717 tw1780074249089440213 tw9687339102562196149 tw828518954596411164 tw12721246506275387883 tw9555213480664042292 tw10306014218022712870 tw10849166129251751986 tw17541422243013715540 tw4642989488017746184 tw5433729976176999941 tw4812147469803433545 tw12064445656712736420 tw14613738711327615324 tw6767588952562809210 tw7728271359928833496 tw10621913668701728578 tw14800200676856574662 tw6263959996233210200 tw15038043540681341368 tw17262861377075176591 tw2126591550307660367 tw9167817005202825710 tw8863898980485084297 tw5691047013322024557 tw15985562840204529752 tw14510178628407491209 tw16824437624300821992 tw1945749270428985775 tw437602095499710947 tw15836899751398421230 tw13833122622701643898 tw12039286412939840867 tw2156987651027488904 tw16476596168197326546 tw3228427453449436354 tw5871256070245107035 tw14066885910255553987 tw12008071391249641467 tw13121009369978621570 tw10120728793269384278 tw949319635133350014 tw1385948293387578665 tw12086188775307823216 tw17671172692531496136 tw114944541383659946 tw689035538855379385 tw14105854219529255951 tw7413652543401415205 tw5915723395747102090 tw17118243546341808620 tw3173088643627128372 tw12083636703808775034 tw3425169371022645873 tw12499822942899315945 tw16748362270403072609 tw4798483840272932134 tw13992422901259662739 tw8706908760235435940 tw1318434379314645780 tw14586184678244787092 tw18009163138657246918 tw16487600081805934685 tw15676317491455648383 tw6636080144143351450 tw342899940309597059 tw16942874669913201696 tw11735768427984334204 tw8641627731501930857 tw8643934260893423771 tw12516018034960617162 tw10386521054526237707 tw14663968975687528782 tw1024638733788295780 tw2822495899002680848 tw12645796958804292009 tw15820448546769161743 tw12724416423280550372 tw15967766147243341769 tw7128325457558742379 tw10075831227402003427 tw11940085069549066065 tw17470569034468455574 tw6337520908142007282 tw8308095110229804464 tw14028968655445532031 tw763259211696027665 tw8794119370486479209 tw2156042057977700715 tw7202391141427826794 tw10959574237992317207 tw11732417468232329218 tw11381196188350417404 tw9326461939331802703 tw499588801624227964 tw14991306027888923253 tw18326334882295115855 tw3519121382111495169 tw3248217840625500782 tw11199744309976481673 tw7620277343254138842 tw15226460754832944326 tw7320584175304755524 tw1358747322389573537 tw14681193164447132861 tw13792029763885664143 tw18189008653765547538 tw13922731657670223868 tw6042998680351274447 tw7209578142564351016 tw10409958883669075279 tw17788048173852634829 tw5481592975441481510 tw12601336347532744673 tw10647697893958831739 tw6495325325138759311 tw46262159934461887 tw4174317182199158873 tw9665934919100824117 tw14713555562637645900 tw1352975801729199273 tw4763829716968104203 tw6132474469892367648 tw16549004266840214179 tw7790293234966468817:True)
open PySem PySem.W PyProof.Rows
set_option maxHeartbeats 0 in
theorem PySem.Challenge.cw_armswing_k25_orders_refused_holds : PySem.Challenge.rw_armswing_k25_orders_refused.Holds := by
 w_on; o_law; k_head; (case hw => w_witness2)
 k_fill
 refine _W.walk (l := PySem.Challenge.rw_armswing_k25_orders_refused) rfl rfl (λw h Y => PySem.W.kIn_of Y) ?F
 case F =>
  intro w mg fa h KX G hmg
  refine' _W.all_mk KX G hmg ?_ ?_ ?_ ?_ ?_ ?_ ?_ ?_ ?_ ?_ ?_ ?_ ?_ ?_ ?_ ?_ ?_ ?_ ?_ ?_ ?_ ?_ ?_ ?_ ?_ ?_ ?_ ?_ ?_ ?_ ?_ ?_ ?_ ?_ ?_ ?_ ?_ ?_ ?_ ?_ ?_ ?_ ?_ ?_ ?_ ?_ ?_ ?_ ?_ ?_ ?_ ?_ ?_ ?_ ?_ ?_ ?_ ?_ ?_ ?_ ?_ ?_ ?_ ?_ ?_ ?_ ?_ ?_ ?_ ?_ ?_ ?_ ?_ ?_ ?_ ?_ ?_ ?_ ?_ ?_ ?_ ?_ ?_ ?_ ?_ ?_ ?_ ?_ ?_ ?_ ?_ ?_ ?_ ?_ ?_ ?_ ?_ ?_ ?_ ?_ ?_ ?_ ?_ ?_ ?_ ?_ ?_ ?_ ?_ ?_ ?_ ?_ ?_ ?_ ?_ ?_ ?_ ?_ ?_ ?_ ?_ ?_ ?_ ?_ ?_ ?_ ?_ ?_ ?_ ?_ ?_ ?_ ?_ ?_ ?_ ?_ ?_ ?_ ?_ ?_ ?_ ?_ ?_ ?_ ?_ ?_ ?_ ?_ ?_ ?_ ?_ ?_ ?_ ?_ ?_ ?_ ?_ ?_ ?_ ?_ ?_ ?_ ?_ ?_ ?_ ?_ ?_ ?_ ?_ ?_ ?_ ?_ ?_ ?_ ?_ ?_ ?_ ?_ ?_ ?_ ?_ ?_ ?_ ?_ ?_ ?_ ?_ ?_ ?_ ?_ ?_ ?_ ?_ ?_ ?_ ?_ ?_ ?_ ?_ ?_ ?_ ?_ ?_ ?_ ?_ ?_ ?_ ?_ ?_ ?_ ?_ ?_ ?_ ?_ ?_ ?_ ?_
  all_goals (first | k_is | kit_is | k_exc | exact _L.fun_mk (by k_is) (by k_is) (by k_is) | rfl | decide +kernel | kernel_rfl | skip)

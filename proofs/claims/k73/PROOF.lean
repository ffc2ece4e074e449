import PyProof.Rows.All
import Wide.All
import OpenK.AllK
import Wide.FinOn
import Lean
import PyProof.EqAt
import PyProof.EqKinds
import PyProof.TupleCall
import PySem.Challenge.RW_armswing_k73_lines_read
set_option compiler.extract_closed false
set_option Elab.async false
set_option linter.all false
set_option maxRecDepth 100000
namespace _L
open PySem PySem.Spec PyProof.Rows
noncomputable abbrev Key:=Sum Int Str
noncomputable def xw:Key->Value->Bool
 | .inl k,v=>Value.isInt k v
 | .inr x,v=>Value.isStrOf x v
noncomputable def CL(w:World):Key->Int
 | .inl k=>hashInt k
 | .inr x=>hashStr w x
theorem fX:∀ {k:Key} {v:Value},xw k v=true->(∃i t,k=Sum.inl i/\v=Value.int i t)\/(∃x t,k=Sum.inr x/\v=Value.str x t)
 | .inl i,v,h=>by
  obtain⟨t,e⟩:=Value.isInt_shape (k:=i) (v:=v) h;exact .inl ⟨i,t,rfl,e⟩
 | .inr x,v,h=>by
  obtain⟨t,e⟩:=Value.isStrOf_shape (x:=x) (v:=v) h;exact .inr ⟨x,t,rfl,e⟩
theorem CM(a b:Int):decide ((Sum.inl a:Key)=Sum.inl b)=(a == b):=by
 by_cases e:a=b
 ·subst e;simp
 ·have h:¬ (Sum.inl a:Key)=Sum.inl b:=λq=>e (Sum.inl.inj q);rw[decide_eq_false h];exact(beq_eq_false_iff_ne.mpr e).symm
theorem CN(a b:Str):decide ((Sum.inr a:Key)=Sum.inr b)=decide (a=b):=by
 by_cases e:a=b
 ·subst e;simp
 ·have h:¬ (Sum.inr a:Key)=Sum.inr b:=λq=>e (Sum.inr.inj q);rw[decide_eq_false h,decide_eq_false e]
theorem CO(a:Int)(b:Str):decide ((Sum.inl a:Key)=Sum.inr b)=false:=decide_eq_false (λq=>nomatch q)
theorem CP(a:Str)(b:Int):decide ((Sum.inr a:Key)=Sum.inl b)=false:=decide_eq_false (λq=>nomatch q)
noncomputable def qE(prog:Program)(w:World):PySem.KeyKind prog w Key where
 is:=xw
 hash:=CL w
 inj:=λv a b ha hb=>by
  rcases fX ha with⟨i,t,rfl,rfl⟩ | ⟨x,t,rfl,rfl⟩
  ·rcases fX hb with⟨j,u,rfl,e⟩ | ⟨y,u,rfl,e⟩
   ·injection e with e1 _;rw[e1]
   ·exact nomatch e
  ·rcases fX hb with⟨j,u,rfl,e⟩ | ⟨y,u,rfl,e⟩
   ·exact nomatch e
   ·injection e with e1 _;rw[e1]
 byValue:=λk v h=>by
  rcases fX h with⟨i,t,rfl,rfl⟩ | ⟨x,t,rfl,rfl⟩ <;> rfl
 pyHash:=λhv h=>by
  rcases fX hv with⟨i,t,rfl,rfl⟩ | ⟨x,t,rfl,rfl⟩
  ·exact wpAny_pyHash_int h
  ·exact wpAny_pyHash_str h
 eqBool:=λhu hv h=>by
  rcases fX hu with⟨i,t,rfl,rfl⟩ | ⟨x,t,rfl,rfl⟩
  ·rcases fX hv with⟨j,u,rfl,rfl⟩ | ⟨y,u,rfl,rfl⟩
   ·rw[CM] at h;exact wpAny_eqBool_int h
   ·rw[CO] at h;exact SeqAt.EqAt.int_str i t y u _ _ _ _ h
  ·rcases fX hv with⟨j,u,rfl,rfl⟩ | ⟨y,u,rfl,rfl⟩
   ·rw[CP] at h;exact SeqAt.EqAt.str_int x t j u _ _ _ _ h
   ·rw[CN] at h;exact wpAny_eqBool_str h
 «strs» := λk x t v h=>by
  rcases fX h with⟨i,u,rfl,e⟩ | ⟨y,u,rfl,e⟩
  ·exact nomatch e
  ·injection e with e1 _;subst e1;cases v <;> rfl
inductive V where
 | aB | bl (b:Bool) | int (i:Int) | str (x:Str) | cM (b:Array UInt8) | fq (b:UInt64) | ref (a:Addr) | ty (n:String)
 deriving DecidableEq
noncomputable def RelV:V->Value->Prop
 | .aB,u=>u=Value.none
 | .bl b,u=>u=Value.bool b
 | .int i,u=>∃t,u=Value.int i t
 | .str x,u=>∃t,u=Value.str x t
 | .cM b,u=>∃t,u=Value.bytes b t
 | .fq b,u=>∃t,u=Value.float b t
 | .ref a,u=>u=Value.ref a
 | .ty n,u=>u=Value.type n
noncomputable abbrev Vals:List V->List Value->Prop:=Paired RelV
theorem Vals.length{xs:List V}{us:List Value}(r:Vals xs us):xs.length=us.length:=Paired.length r
theorem Vals.get:∀ {xs:List V} {us:List Value} {i:Nat} {x:V},Vals xs us->xs[i]? = some x->∃u,us[i]? = some u/\RelV x u
 | _,_,_,_,.nil,e=>by simp at e
 | _,_,0,_,.cons r _,e=>by simp at e;subst e;exact⟨_,rfl,r⟩
 | _,_,i+1,x,.cons _ t,e=>by
  obtain⟨u,h1,h2⟩:=Vals.get (i:=i) (x:=x) t (by simpa using e)
  exact⟨u,by simpa using h1,h2⟩
theorem Vals.append:∀ {xs ys:List V} {us ws:List Value},Vals xs us->Vals ys ws->Vals (xs++ys) (us++ws)
 | _,_,_,_,.nil,s=>s
 | _,_,_,_,.cons r t,s=>.cons r (Vals.append t s)
theorem Vals.take:∀ {xs:List V} {us:List Value} (n:Nat),Vals xs us->Vals (xs.take n) (us.take n)
 | _,_,0,_=>.nil
 | _,_,_+1,.nil=>.nil
 | _,_,n+1,.cons r t=>.cons r (Vals.take n t)
theorem Vals.drop:∀ {xs:List V} {us:List Value} (n:Nat),Vals xs us->Vals (xs.drop n) (us.drop n)
 | _,_,0,r=>r
 | _,_,_+1,.nil=>.nil
 | _,_,n+1,.cons _ t=>Vals.drop n t
noncomputable def fu:Option V->Option Value->Prop
 | some v,some u=>RelV v u
 | none,none=>True
 | _,_=>False
noncomputable def KV{κ:Type}:List (κ×V)->List (κ×Value)->Prop:=Paired λ(p:κ×V) (q:κ×Value)=>p.1=q.1/\RelV p.2 q.2
noncomputable def kV:Key->V
 | .inl i=>.int i
 | .inr x=>.str x
inductive HO where
 /-- a list -/
 | lst (xs:List V)
 /-- a tuple (never changes) -/
 | tup (xs:List V)
 /-- a dict whose keys are ints and texts;one whose keys are tuples of ints and texts (the empty one is both) -/
 | dK (aN:List (Key×V)) | dT (aN:List (List Key×V))
 /-- a set of ints: its members,its size -/
 | set (S:Int->Bool) (n:Nat)
 /-- an instance of the class at C,its dict at dx,its attributes -/
 | ins (C dx:Addr) (fs:List (Str×V))
 /-- the dict of the instance at x -/
 | own (x:Addr)
 /-- the dict of an exception -/
 | xd (fs:List (Str×V))
 /-- a bound method,f of x -/
 | met (f x:Addr)
 /-- a range object lo,lo+1,.. below hi -/
 | qF (lo hi:Int)
 /-- a thing that is known to the object (the script;a dict while a loop walks it): read,never written while it is so -/
 | c9 (o:Obj) (u:HO)
 /-- a code object's table -/
 | gW (ps:Array Value)
 /-- any other thing,by what is true of its one object (a def of one's own: SetO a S n:=HO.ext λh=>..) -/
 | ext (φ:Heap->Prop)
noncomputable abbrev Hp:=Addr->Option HO
noncomputable def upd(H:Hp)(a:Addr)(o:HO):Hp:=λb=>if b=a then some o else H b
theorem aA{H:Hp}{a:Addr}{o:HO}:upd H a o a=some o:=by unfold upd;rw[if_pos rfl]
theorem bC{H:Hp}{a b:Addr}{o:HO}(h:b≠a):upd H a o b=H b:=by unfold upd;rw[if_neg h]
theorem M7{H:Hp}{a:Addr}{o u:HO}:upd (upd H a o) a u=upd H a u:=by
 funext b;unfold upd;split <;> rfl
theorem dJ{H:Hp}{a b:Addr}{o:HO}(h:H a=some o)(h':H b=none):a≠b:=by
 intro e;subst e;rw[h] at h';cases h'
section
variable(P:Program)(w:World)
noncomputable def cz(H:Hp)(h:Heap)(a:Addr):HO->Prop
 | .lst xs=>xs.length<=sizeLine/\∃(ao:List Value) (n:Nat),Vals xs ao/\h.get? a=some { cls:=.type "list",data:=.seq ao.toArray n }
 | .tup xs=>xs.length<=sizeLine/\∃ao:List Value,Vals xs ao/\IsTup h a ao.toArray
 | .dK aN=>aN.length<=sizeLine/\(a == sysModules)=false/\∃vs,KV aN vs/\h.DictOf (qE P w) a vs
 | .dT aN=>aN.length<=sizeLine/\(a == sysModules)=false/\∃xs:List (List Key×Addr×Value),
   Paired (λ(p:List Key×V) (q:List Key×Addr×Value)=>p.1=q.1/\H q.2.1=some (.tup (p.1.map kV))/\RelV p.2 q.2.2) aN xs/\
   ∃o es ep,h.get? a=some o/\o.ExactDict/\o.data = .dict es ep/\es.toList=xs.map (entryOfKey (tupleKind (qE P w)))/\(xs.map (·.1)).Nodup
 | .set S n=>h.SetOf (intKind P w) a S n
 | .ins C dx fs=>H dx=some (.own a)/\fs.length<=1000/\dx≠a/\h.get? a=some (PySem.W.instObj C dx)/\
   ∃mA,h.Ns1 dx mA/\(∀f,fu (fs.lookup f) (mA f))/\PySem.Within mA (fs.map (·.1))
 | .own _=>∃o,h.get? a=some o
 | .xd fs=>∃mA,h.Ns1 a mA/\∀f,fu (fs.lookup f) (mA f)
 | .qF lo hi=>∃t u v,h.get? a=some { cls:=.type "range",data:=.fields #[.int lo t,.int hi u,.int 1 v] }
 | .c9 o u=>h.get? a=some o/\cz H h a u
 | .gW ps=>h.get? a=some { cls:=.none,data:=.fields ps }
 | .met f x=>h.get? a=some (PySem.W.methodObj (.ref f) (.ref x))
 | .ext φ=>φ h/\(∃o,h.get? a=some o)/\∀h1 h2:Heap,φ h1->(∀o,h1.get? a=some o->h2.get? a=some o)->φ h2
noncomputable def bR(H:Hp)(h:Heap):Prop:=∀a o,H a=some o->cz P w H h a o
end
section
variable{P:Program}{w:World}{H H':Hp}{h h':Heap}{a:Addr}{o:HO}
theorem cz.lt(x:cz P w H h a o):a<h.objs.size:=by
 cases o with
 | lst xs=>obtain⟨_,_,_,_,e⟩:=x;exact Heap.lt_size e
 | tup xs=>obtain⟨_,_,_,p⟩:=x;exact p.lt
 | dK aN=>obtain⟨_,_,_,_,o,_,_,e,_⟩:=x;exact Heap.lt_size e
 | dT aN=>obtain⟨_,_,_,_,o,_,_,e,_⟩:=x;exact Heap.lt_size e
 | set S n=>obtain⟨o,_,_,_,e,_⟩:=x;exact Heap.lt_size e
 | ins C dx fs=>obtain⟨_,_,_,e,_⟩:=x;exact Heap.lt_size e
 | own y=>obtain⟨_,e⟩:=x;exact Heap.lt_size e
 | xd fs=>obtain⟨_,⟨_,_,_,e,_⟩,_⟩:=x;exact Heap.lt_size e
 | qF lo hi=>obtain⟨_,_,_,e⟩:=x;exact Heap.lt_size e
 | c9 ob u=>obtain⟨e,_⟩:=x;exact Heap.lt_size e
 | gW ps=>exact Heap.lt_size (show h.get? a=some _ from x)
 | met f y=>exact Heap.lt_size (show h.get? a=some _ from x)
 | ext φ=>obtain⟨_,⟨_,e⟩,_⟩:=x;exact Heap.lt_size e
theorem Paired.xx{α β:Type}{F G:α->β->Prop}:∀ {l₁:List α} {l₂:List β},Paired F l₁ l₂->(∀a b,F a b->G a b)->Paired G l₁ l₂
 | _,_,.nil,_=>.nil
 | _,_,.cons r t,f=>.cons (f _ _ r) (Paired.xx t f)
theorem cz.jv(x:cz P w H h a o)(k:∀b u,(b=a\/H b=some (.own a))->h.get? b=some u->h'.get? b=some u)
  (ho:∀b,H b=some (.own a)->H' b=some (.own a)) (ht:∀b xs,H b=some (.tup xs)->H' b=some (.tup xs)):cz P w H' h' a o:=by
 induction o with
 | lst xs=>obtain⟨z,ao,n,r,e⟩:=x;exact⟨z,ao,n,r,k _ _ (.inl rfl) e⟩
 | tup xs=>obtain⟨z,ao,r,ob,e,c⟩:=x;exact⟨z,ao,r,ob,k _ _ (.inl rfl) e,c⟩
 | dK aN=>obtain⟨z,y,vs,r,ob,es,ep,e,c⟩:=x;exact⟨z,y,vs,r,ob,es,ep,k _ _ (.inl rfl) e,c⟩
 | dT aN =>
  obtain⟨z,y,xs,r,ob,es,ep,e,c⟩:=x;exact⟨z,y,xs,Paired.xx r λp q z=>⟨z.1,ht _ _ z.2.1,z.2.2⟩,ob,es,ep,k _ _ (.inl rfl) e,c⟩
 | set S n=>obtain⟨ob,es,ep,t,e,c⟩:=x;exact⟨ob,es,ep,t,k _ _ (.inl rfl) e,c⟩
 | ins C dx fs =>
  obtain⟨d,z,ne,e,mA,⟨od,es,ep,e2,c⟩,r⟩:=x;exact⟨ho _ d,z,ne,k _ _ (.inl rfl) e,mA,⟨od,es,ep,k _ _ (.inr d) e2,c⟩,r⟩
 | own y=>obtain⟨ob,e⟩:=x;exact⟨ob,k _ _ (.inl rfl) e⟩
 | xd fs=>obtain⟨mA,⟨od,es,ep,e,c⟩,r⟩:=x;exact⟨mA,⟨od,es,ep,k _ _ (.inl rfl) e,c⟩,r⟩
 | qF lo hi=>obtain⟨t,u,v,e⟩:=x;exact⟨t,u,v,k _ _ (.inl rfl) e⟩
 | c9 ob u ih=>obtain⟨e,q⟩:=x;exact⟨k _ _ (.inl rfl) e,ih q⟩
 | gW ps =>
  have e:h.get? a=some { cls:=.none,data:=.fields ps }:=x
  show h'.get? a=some { cls:=.none,data:=.fields ps };exact k a _ (.inl rfl) e
 | met f y =>
  have e:h.get? a=some (PySem.W.methodObj (.ref f) (.ref y)):=x
  show h'.get? a=some (PySem.W.methodObj (.ref f) (.ref y));exact k a _ (.inl rfl) e
 | ext φ=>obtain⟨p,⟨o,e⟩,st⟩:=x;exact⟨st _ _ p λo q=>k _ _ (.inl rfl) q,⟨o,k _ _ (.inl rfl) e⟩,st⟩
theorem bR.lt(x:bR P w H h)(e:H a=some o):a<h.objs.size:=(x a o e).lt
theorem bR.fresh(x:bR P w H h)(e:h.objs.size<=a):H a=none:=by
 cases q:H a with
 | none=>rfl
 | some u=>exact absurd (Nat.lt_of_lt_of_le (x.lt q) e) (Nat.lt_irrefl _)
theorem bR.kept(x:bR P w H h)(k:∀b u,h.get? b=some u->h'.get? b=some u):bR P w H h':=λa o e =>
 (x a o e).jv (λb u _ q=>k b u q) (λ_ q=>q) λ_ _ q=>q
theorem bR.laid(x:bR P w H h)(k:∀b u,h.get? b=some u->h'.get? b=some u)(hp:h.objs.size<=a)(new:cz P w (upd H a o) h' a o):bR P w (upd H a o) h':=λb u e=>by
 have hn:=x.fresh hp;by_cases hb:b=a
 ·subst hb;rw[aA] at e;cases e;exact new
 ·rw[bC hb] at e;exact(x b u e).jv (λc v _ q=>k c v q) (λc q=>by rw[bC (dJ q hn)];exact q) λc xs q=>by rw[bC (dJ q hn)];exact q
end
noncomputable def Rd(H:Hp)(a:Addr)(u:HO):Prop:=H a=some u\/∃o,H a=some (.c9 o u)
theorem Rd.ok{P:Program}{w:World}{H:Hp}{h:Heap}{a:Addr}{u:HO}(r:Rd H a u)(x:bR P w H h):cz P w H h a u:=by
 rcases r with r | ⟨o,r⟩
 ·exact x a u r
 ·obtain⟨_,q⟩:=x a _ r;exact q
noncomputable def lg:Option HO->Prop
 | some (.lst _)=>True
 | some (.dK _)=>True
 | some (.dT _)=>True
 | some (.set _ _)=>True
 | some (.ins _ _ _)=>True
 | some (.ext _)=>True
 | _=>False
section
variable{P:Program}{w:World}{H:Hp}{h h':Heap}{x e:Addr}{o':HO}
theorem bR.write(ok:bR P w H h)(mu:lg (H x))(he:e=x\/H e=some (.own x))(k:∀b u,b≠e->h.get? b=some u->h'.get? b=some u)(iF:∃u,h'.get? e=some u)
  (new:cz P w (upd H x o') h' x o'):bR P w (upd H x o') h':=λb u q=>by
 have xy:∀c y,H c=some (.own y)->c≠x:=λc y r z=>by subst z;rw[r] at mu;exact mu
 have CQ:∀c xs,H c=some (.tup xs)->c≠x:=λc xs r z=>by subst z;rw[r] at mu;exact mu
 by_cases hb:b=x
 ·subst hb;rw[aA] at q;cases q;exact new
 ·rw[bC hb] at q;by_cases gX:b=e
  ·have q':H b=some (.own x):=by
    rcases he with z | z
    ·exact absurd (gX.trans z) hb
    ·rw[gX];exact z
   rw[q] at q';cases q';obtain⟨v,hv⟩:=iF;exact⟨v,by rw[gX];exact hv⟩
  ·refine(ok b u q).jv (λc v hc r=>k c v ?_ r) (λc r=>by rw[bC (xy c b r)];exact r) λc xs r=>by rw[bC (CQ c xs r)];exact r
   rcases hc with rfl | hc
   ·exact gX
   ·rintro rfl;rcases he with z | z
    ·exact xy c b hc z
    ·rw[hc] at z;cases z;exact hb rfl
end
structure Un(fs ex:List Addr)(H H':Hp)(h h':Heap):Prop where
 keep:∀b o,h.get? b=some o->H b=none->b∉fs->b∉ex->h'.get? b=some o
 slot:∀b o,h.get? b=some o->H b=none->b∈fs->b∉ex->∃sl,h'.get? b=some { o with slots:=sl }
 free:∀b o,h.get? b=some o->H b=none->b∉ex->H' b=none
 there:∀b o,h.get? b=some o->b∉ex->∃o',h'.get? b=some o'
 gz:∀b xs,H b=some (.tup xs)->H' b=some (.tup xs)
 fY:∀b o u,H b=some (.c9 o u)->H' b=some (.c9 o u)
 gA:∀b ps,H b=some (.gW ps)->∃more,H' b=some (.gW (ps++more))
section
variable{fs CS ex M8:List Addr}{H H1 H2:Hp}{h h1 h2 h':Heap}{a x e:Addr}{o:HO}
theorem Un.any(u:Un fs ex H H1 h h1){b:Addr}{ob:Obj}(q:h.get? b=some ob)(n:H b=none)(hx:b∉ex):∃sl,h1.get? b=some { ob with slots:=sl }:=by
 by_cases hb:b∈fs
 ·exact u.slot b ob q n hb hx
 ·exact⟨ob.slots,u.keep b ob q n hb hx⟩
theorem Un.kept(k:∀b u,h.get? b=some u->h'.get? b=some u):Un fs ex H H h h' :=
 ⟨λb ob q _ _ _=>k b ob q,λb ob q _ _ _=>⟨ob.slots,k b ob q⟩,λ_ _ _ n _=>n,λb ob q _=>⟨ob,k b ob q⟩,λ_ _ q=>q,λ_ _ _ q=>q,λ_ ps q=>⟨#[],by rw[q];simp⟩⟩
theorem Un.refl:Un fs ex H H h h:=Un.kept λ_ _ q=>q
theorem Un.laid(k:∀b u,h.get? b=some u->h'.get? b=some u)(hp:h.objs.size<=a)(hn:H a=none):Un fs ex H (upd H a o) h h' where
 keep:=λb u q _ _ _=>k b u q
 slot:=λb u q _ _ _=>⟨u.slots,k b u q⟩
 free:=λb u q n _=>by rw[bC (Nat.ne_of_lt (Nat.lt_of_lt_of_le (Heap.lt_size q) hp))];exact n
 there:=λb u q _=>⟨u,k b u q⟩
 gz:=λb xs q=>by rw[bC (dJ q hn)];exact q
 fY:=λb u xs q=>by rw[bC (dJ q hn)];exact q
 gA:=λb ps q=>⟨#[],by rw[bC (dJ q hn),q];simp⟩
theorem Un.write(mu:lg (H x))(he:e=x\/H e=some (.own x))(k:∀b u,b≠e->h.get? b=some u->h'.get? b=some u)(iF:∃u,h'.get? e=some u):Un fs ex H (upd H x o) h h':=by
 have hx:∀b,H b=none->b≠x:=λb n z=>by subst z;rw[n] at mu;exact mu
 have hb:∀b,H b=none->b≠e:=λb n z=>by
  subst z;rcases he with r | r
  ·exact hx b n r
  ·rw[n] at r;cases r
 have hm:∀b u,H b=some u->¬ lg (some u)->b≠x:=λb u q nm z=>by subst z;rw[q] at mu;exact nm mu
 refine⟨λb u q n _ _=>k b u (hb b n) q,λb u q n _ _=>⟨u.slots,k b u (hb b n) q⟩,λb u q n _=>by rw[bC (hx b n)];exact n,λb u q _=>?_,
  λb xs q=>by rw[bC (hm b _ q λz=>z)];exact q,λb u xs q=>by rw[bC (hm b _ q λz=>z)];exact q,λb ps q=>⟨#[],by rw[bC (hm b _ q λz=>z),q];simp⟩⟩
 by_cases gX:b=e
 ·subst gX;exact iF
 ·exact⟨u,k b u gX q⟩
end
noncomputable def lq(h:Heap)(H:Hp):List Addr:=(List.range h.objs.size).filter λa=>(H a).isSome
noncomputable def fZ(h:Heap)(H:Hp):Heap:=PySem.W.hideAll h (lq h H)
theorem CT(h:Heap)(H:Hp):(fZ h H).objs.size=h.objs.size:=PySem.W.hideAll_size _ _
theorem CU{h:Heap}{H:Hp}{b:Addr}{o:Obj}(e:h.get? b=some o)(n:H b=none):(fZ h H).get? b=some o :=
 PySem.W.hideAll_get _ e λhm=>by
  have q:(H b).isSome=true:=(List.mem_filter.mp hm).2;rw[n] at q;simp at q
theorem CV{h:Heap}{H:Hp}{b:Addr}{o:Obj}(e:(fZ h H).get? b=some o):h.get? b=some o/\H b=none:=by
 have e':h.get? b=some o:=PySem.W.of_hideAll (lq h H) e;refine⟨e',?_⟩;cases q:H b with
 | none=>rfl
 | some x =>
  have hm:b∈lq h H:=List.mem_filter.mpr ⟨List.mem_range.mpr (Heap.lt_size e'),by simp[q]⟩
  have z:(fZ h H).get? b=none:=PySem.W.hideAll_none (lq h H) hm;rw[z] at e;cases e
noncomputable def CY(g h:Heap)(L:Addr):List (Addr×Obj):=(List.range h.objs.size).filterMap λa=>if a=L\/(g.get? a).isSome=true then none else(h.get? a).map λo=>(a,o)
noncomputable def rest(g h:Heap)(L d:Addr):List (Addr×Obj):=(CY g h L).filter λp=>decide (p.1≠d)
structure Mod(K:PySem.W.Frag)(mg:Str->Option Value)(base:Heap):Prop where
 jw:K.In base
 glob:base.Ns mainGlobals mg
 blt:∃mb,base.Ns builtinsNs mb/\∀x:Str,x≠"__name__"->mb x=bootBuiltins x
 nolimit:base.NoLimit
structure Cx where
 prog:Program
 w:World
 K:PySem.W.Frag
 mg:Str->Option Value
 base:Heap
 A:Around
 N:List Str
 bS:Shared
 gY:Hp
 env:Env
 outer:List Env
 stack:List Env
 ex:List Addr
 fn:Str->Bool
 calm:Bool
 pn:List (Addr×Obj)
 xe:Value->Shared->Prop
noncomputable def c_(l:List Env):List Addr:=l.filterMap (·.frame)
noncomputable abbrev Cx.fs(X:Cx):List Addr:=c_ X.outer
noncomputable def qG(sc:Scope)(x:Str):Prop:=sc.names.lookup x=some .local\/sc.names.lookup x=some .cell\/sc.names.lookup x=some .free
noncomputable def Loc(sc:Scope)(x:Str):Prop:=sc.names.lookup x=some .local\/sc.names.lookup x=some .cell
noncomputable def Look(env:Env)(h:Heap)(m:Str->Option Value)(x:Str)(u:Value):Prop :=
 (env.kindOf x=some .local/\m x=some u)\/((env.kindOf x=some .cell\/env.kindOf x=some .free)/\∃c,env.cells.lookup x=some c/\h.IsCell c (some u))
structure Cx.Ok(X:Cx):Prop where
 mod:Mod X.K X.mg X.base
 kind:X.env.scope.kind = .function
 glob:X.env.globals=mainGlobals
 blt:X.env.builtins=builtinsNs
 above:X.bS.heap.objs.size<=X.env.locals
 inj:∀x y c,X.env.cells.lookup x=some c->X.env.cells.lookup y=some c->x=y
 has:∀x,(X.env.kindOf x=some .cell\/X.env.kindOf x=some .free)->∃c,X.env.cells.lookup x=some c
 iG:∀x c,X.fn x=true->X.env.cells.lookup x=some c->X.bS.heap.objs.size<=c
 hd:X.calm=true->X.A.handled=none
 frames:X.A.frames=some X.stack
 jx:X.stack=X.outer\/(X.stack=X.env::X.outer/\X.env.frame=some X.env.locals)
 jy:∀b∈X.ex,b≠X.env.locals/\∀x c,X.env.cells.lookup x=some c->c≠b
 bs:∀b o,X.base.get? b=some o->X.bS.heap.get? b=some o/\X.gY b=none
 fz:X.base.objs.size<=X.bS.heap.objs.size
 iH:∀b o,X.base.get? b=some o->b∉X.ex
 iI:∀b∈X.ex,b∉X.fs
 dM:X.bS.heap.FunFrames X.base X.outer
 gB:∀b∈X.fs,X.gY b=none
structure Inv(X:Cx)(pins:List (Addr×Obj))(σ:List (Option V))(H:Hp)(s:Shared):Prop where
 ok:X.Ok
 os:s.os=X.bS.os
 bare:AllBare s.gens
 base:Un X.fs X.ex X.gY H X.bS.heap s.heap
 loc:∃m,s.heap.Ns X.env.locals m/\∀(i:Nat) (x:Str) (v:V),X.N[i]? = some x->σ[i]? = some (some v)->qG X.env.scope x->∃u,RelV v u/\Look X.env s.heap m x u
 cell:∀x c,X.env.cells.lookup x=some c->∃v,s.heap.IsCell c v
 free:H X.env.locals=none
 fB:∀x c,X.env.cells.lookup x=some c->H c=none
 pin:∀p∈X.pn++pins,s.heap.get? p.1=some p.2/\H p.1=none/\p.1≠X.env.locals/\p.1∉X.fs/\∀v,p.2.data≠.cell v
 aJ:bR X.prog X.w H s.heap
 len:σ.length=X.N.length
section
variable{X:Cx}{pins:List (Addr×Obj)}{σ:List (Option V)}{H H':Hp}{s:Shared}{h':Heap}
theorem Cx.Ok.CZ(ok:X.Ok){b:Addr}{o:Obj}(e:X.base.get? b=some o):b∉X.fs:=λhb=>by
 have:=(ok.dM.mem hb).1;rw[e] at this;cases this
theorem Inv.bs(I:Inv X pins σ H s):∀b o,X.base.get? b=some o->s.heap.get? b=some o/\H b=none:=λb o e =>
 ⟨I.base.keep b o (I.ok.bs b o e).1 (I.ok.bs b o e).2 (I.ok.CZ e) (I.ok.iH b o e),I.base.free b o (I.ok.bs b o e).1 (I.ok.bs b o e).2 (I.ok.iH b o e)⟩
theorem Inv.bk(I:Inv X pins σ H s):∀b o,X.base.get? b=some o->s.heap.get? b=some o:=λb o e=>(I.bs b o e).1
theorem Inv.mod(I:Inv X pins σ H s):Mod X.K X.mg X.base:=I.ok.mod
theorem Inv.bT(I:Inv X pins σ H s):X.K.In s.heap:=I.ok.mod.jw.keeps I.bk
theorem Inv.lt(I:Inv X pins σ H s):X.env.locals<s.heap.objs.size:=let ⟨_,hn,_⟩:=I.loc;hn.lt
theorem Inv.sz(I:Inv X pins σ H s):X.bS.heap.objs.size<=s.heap.objs.size:=Nat.le_trans I.ok.above (Nat.le_of_lt I.lt)
theorem Inv.C1(I:Inv X pins σ H s){a:Addr}(h:s.heap.objs.size<=a):a∉X.fs:=λhb=>by
 obtain⟨_,o,ho,_⟩:=I.ok.dM.mem hb;exact absurd (Nat.lt_of_lt_of_le (Heap.lt_size ho) (Nat.le_trans I.sz h)) (Nat.lt_irrefl _)
theorem Inv.gZ(I:Inv X pins σ H s):∀x c,X.env.cells.lookup x=some c->c≠X.env.locals:=λx c e z=>by
 obtain⟨v,o,ho,hd⟩:=I.cell x c e;obtain⟨m,⟨o',es,ep,g4,qH,_⟩,_⟩:=I.loc;rw[z,g4] at ho;cases ho;rw[qH] at hd;cases hd
theorem Inv.dM(I:Inv X pins σ H s):s.heap.FunFrames X.base X.outer:=by
 have all:∀(l:List Env),(∀b∈c_ l,b∈X.fs)->X.bS.heap.FunFrames X.base l->s.heap.FunFrames X.base l:=by
  intro l
  induction l with
  | nil=>intro _ _;trivial
  | cons env r ih =>
   intro hs hl;obtain⟨hk,⟨L,o,hf,hn,ho,hd⟩,hr⟩:=hl;have hL:L∈X.fs:=hs L (by unfold c_;rw[List.filterMap_cons,hf];exact List.mem_cons_self)
   obtain⟨sl,e⟩:=I.base.slot L o ho (I.ok.gB L hL) hL λz=>I.ok.iI L z hL;exact⟨hk,⟨L,_,hf,hn,e,hd⟩,ih (λb hb=>hs b (by unfold c_;rw[List.filterMap_cons,hf];exact List.mem_cons_of_mem _ hb)) hr⟩
 exact all X.outer (λ_ hb=>hb) I.ok.dM
theorem Inv.stack(I:Inv X pins σ H s):s.heap.FunFrames X.base X.stack:=by
 rcases I.ok.jx with e | ⟨e,hf⟩
 ·rw[e];exact I.dM
 ·rw[e];obtain⟨m,hn,_⟩:=I.loc;refine .cons (by rw[I.ok.kind];decide) hf hn ?_ I.dM
  exact Heap.get?_none_of_le (Nat.le_trans I.ok.fz I.ok.above)
theorem Inv.qI(I:Inv X pins σ H s):∀b∈c_ X.stack,b∈X.env.locals::X.fs:=λb hb=>by
 rcases I.ok.jx with e | ⟨e,hf⟩
 ·rw[e] at hb;exact List.mem_cons_of_mem _ hb
 ·rw[e] at hb;unfold c_ at hb;rw[List.filterMap_cons,hf] at hb;exact hb
theorem Inv.xA(I:Inv X pins σ H s):∀b∈c_ X.stack,H b=none:=λb hb=>by
 rcases List.mem_cons.mp (I.qI b hb) with e | hb
 ·rw[e];exact I.free
 ·obtain⟨_,o,ho,_⟩:=I.ok.dM.mem hb;exact I.base.free b o ho (I.ok.gB b hb) λz=>I.ok.iI b z hb
theorem Inv.step{g':Array GenState}{t':Nat}{d':Drawn}{ch:List Addr}(I:Inv X pins σ H s)
  (fD:∀b∈ch,(b∈X.ex\/X.bS.heap.objs.size<=b)/\b≠X.env.locals/\(∀x c,X.env.cells.lookup x=some c->c≠b)/\∀p∈X.pn++pins,p.1≠b)
  (keep:∀b o,b≠X.env.locals->b∉X.fs->b∉ch->s.heap.get? b=some o->H b=none->h'.get? b=some o)
  (slot:∀b o,b≠X.env.locals->b∈X.fs->b∉ch->s.heap.get? b=some o->H b=none->∃sl,h'.get? b=some { o with slots:=sl }) (free:∀b o,b∉ch->s.heap.get? b=some o->H b=none->H' b=none)
  (there:∀b o,b∉ch->s.heap.get? b=some o->∃o',h'.get? b=some o')
  (gz:∀b xs,H b=some (.tup xs)->H' b=some (.tup xs)) (fY:∀b o u,H b=some (.c9 o u)->H' b=some (.c9 o u)) (gA:∀b ps,H b=some (.gW ps)->∃more,H' b=some (.gW (ps++more)))
  (ns:∀m,s.heap.Ns X.env.locals m->h'.Ns X.env.locals m) (aJ:bR X.prog X.w H' h') (hg:AllBare g') :
  Inv X pins σ H' { s with heap:=h',gens:=g',drawn:=d',toks:=t' }:=by
 have xB:∀b o,X.bS.heap.get? b=some o->b≠X.env.locals:=λb o e=>Nat.ne_of_lt (Nat.lt_of_lt_of_le (Heap.lt_size e) I.ok.above);have lu:∀b o,X.bS.heap.get? b=some o->b∉X.ex->b∉ch:=λb o e hx hb=>by
  rcases(fD b hb).1 with z | z
  ·exact hx z
  ·exact absurd (Nat.lt_of_lt_of_le (Heap.lt_size e) z) (Nat.lt_irrefl _)
 have cellK:∀x c,X.env.cells.lookup x=some c->∀v,s.heap.IsCell c v->h'.IsCell c v:=λx c e v ⟨o,ho,hd⟩=>by
  have jz:c∉ch:=λz=>(fD c z).2.2.1 x c e rfl;by_cases hc:c∈X.fs
  ·obtain⟨sl,q⟩:=slot c o (I.gZ x c e) hc jz ho (I.fB x c e);exact⟨_,q,hd⟩
  ·exact⟨o,keep c o (I.gZ x c e) hc jz ho (I.fB x c e),hd⟩
 refine⟨I.ok,I.os,hg,⟨λb o e n hb hx=>?_,λb o e n hb hx=>?_,λb o e n hx=>?_,λb o e hx=>?_,λb xs e=>gz b xs (I.base.gz b xs e),λb o xs e=>fY b o xs (I.base.fY b o xs e),λb ps e=>?_⟩,?_,λx c e=>?_,?_,λx c e=>?_,λp hp=>?_,aJ,I.len⟩
 ·exact keep b o (xB b o e) hb (lu b o e hx) (I.base.keep b o e n hb hx) (I.base.free b o e n hx)
 ·obtain⟨sl,e1⟩:=I.base.slot b o e n hb hx;obtain⟨C2,e2⟩:=slot b _ (xB b o e) hb (lu b o e hx) e1 (I.base.free b o e n hx);exact⟨C2,e2⟩
 ·obtain⟨o',e1⟩:=I.base.there b o e hx;exact free b o' (lu b o e hx) e1 (I.base.free b o e n hx)
 ·obtain⟨o',e1⟩:=I.base.there b o e hx;exact there b o' (lu b o e hx) e1
 ·obtain⟨m1,e1⟩:=I.base.gA b ps e;obtain⟨m2,e2⟩:=gA b _ e1;exact⟨m1++m2,by rw[e2,Array.append_assoc]⟩
 ·obtain⟨m,hn,hl⟩:=I.loc;refine⟨m,ns m hn,λi x v e1 e2 e3=>?_⟩;obtain⟨u,r,l⟩:=hl i x v e1 e2 e3;refine⟨u,r,?_⟩;rcases l with l | ⟨k,c,e,z⟩
  ·exact .inl l
  ·exact .inr ⟨k,c,e,cellK x c e _ z⟩
 ·obtain⟨v,z⟩:=I.cell x c e;exact⟨v,cellK x c e v z⟩
 ·obtain⟨m,⟨o,_,_,ho,_⟩,_⟩:=I.loc;exact free _ o (λz=>(fD _ z).2.1 rfl) ho I.free
 ·obtain⟨v,o,ho,hd⟩:=I.cell x c e;exact free c o (λz=>(fD c z).2.2.1 x c e rfl) ho (I.fB x c e)
 ·obtain⟨e,n,ne,nf,d⟩:=I.pin p hp;have jz:p.1∉ch:=λz=>(fD p.1 z).2.2.2 p hp rfl;exact⟨keep p.1 p.2 ne nf jz e n,free p.1 p.2 jz e n,ne,nf,d⟩
theorem Inv.un{t':Nat}(I:Inv X pins σ H s)(u:Un X.fs [] H H' s.heap h')(aJ:bR X.prog X.w H' h'):Inv X pins σ H' { s with heap:=h',toks:=t' }:=by
 obtain⟨m,⟨o,es,ep,ho,r⟩,_⟩:=id I.loc;obtain⟨sl,hL⟩:=u.any ho I.free (by simp)
 exact I.step (g':=s.gens) (d':=s.drawn) (ch:=[]) (λ_ z=>nomatch z) (λb o _ hb _ e n=>u.keep b o e n hb (by simp)) (λb o _ hb _ e n=>u.slot b o e n hb (by simp)) (λb o _ e n=>u.free b o e n (by simp)) (λb o _ e=>u.there b o e (by simp)) u.gz u.fY u.gA (λm' hm=>by
  obtain⟨o',cQ,fE,g4,r'⟩:=hm;rw[ho] at g4;cases g4;exact⟨_,cQ,fE,hL,r'⟩) aJ I.bare
theorem Inv.call{g':Array GenState}{t':Nat}{d':Drawn}{ch:List Addr}(I:Inv X pins σ H s)(u:Un (c_ X.stack) ch H H' s.heap h')(aJ:bR X.prog X.w H' h')(hg:AllBare g')
  (fD:∀b∈ch,(b∈X.ex\/X.bS.heap.objs.size<=b)/\b≠X.env.locals/\(∀x c,X.env.cells.lookup x=some c->c≠b)/\∀p∈X.pn++pins,p.1≠b) :
  Inv X pins σ H' { s with heap:=h',gens:=g',drawn:=d',toks:=t' }:=by
 obtain⟨m,⟨o,es,ep,ho,r⟩,_⟩:=id I.loc;obtain⟨sl,hL⟩:=u.any ho I.free λz=>(fD _ z).2.1 rfl;exact I.step (ch:=ch) fD (λb o hL hb hc e n=>u.keep b o e n (λz=>(List.mem_cons.mp (I.qI b z)).elim hL hb) hc) (λb o _ _ hc e n=>u.any e n hc) (λb o hc e n=>u.free b o e n hc) (λb o hc e=>u.there b o e hc) u.gz u.fY u.gA (λm' hm=>by
  obtain⟨o',cQ,fE,g4,r'⟩:=hm;rw[ho] at g4;cases g4;exact⟨_,cQ,fE,hL,r'⟩) aJ hg
theorem Inv.turned{t':Nat}{it:Addr}(I:Inv X pins σ H s)(k:∀b o,b≠it->s.heap.get? b=some o->h'.get? b=some o)(hn:H it=none)(hL:it≠X.env.locals)
  (h1:it∈X.ex\/X.bS.heap.objs.size<=it) (h2:∀x c,X.env.cells.lookup x=some c->c≠it) (h3:∀p∈X.pn++pins,p.1≠it):Inv X pins σ H { s with heap:=h',toks:=t' }:=by
 have xC:∀b u,H b=some u->b≠it:=λb u e z=>by rw[z,hn] at e;cases e
 refine I.step (g':=s.gens) (d':=s.drawn) (ch:=[it]) (λb hb=>?_) (λb o _ _ hc e _=>k b o (λz=>hc (by simp[z])) e) (λb o _ _ hc e _=>⟨o.slots,k b o (λz=>hc (by simp[z])) e⟩) (λ_ _ _ _ n=>n)
  (λb o hc e=>⟨o,k b o (λz=>hc (by simp[z])) e⟩) (λ_ _ e=>e) (λ_ _ _ e=>e) (λb ps e=>⟨#[],by rw[e];simp⟩) (λm hm=>?_) (λb u e=>?_) I.bare
 ·have e:b=it:=by simpa using hb
  subst e;exact⟨h1,hL,h2,h3⟩
 ·obtain⟨o,es,ep,ho,r⟩:=hm;exact⟨o,es,ep,k _ o (Ne.symm hL) ho,r⟩
 ·refine(I.aJ b u e).jv (λc v hc q=>k c v ?_ q) (λ_ q=>q) λ_ _ q=>q;rcases hc with z | z
  ·rw[z];exact xC b u e
  ·exact xC c _ z
theorem Inv.tok(I:Inv X pins σ H s)(t:Nat):Inv X pins σ H { s with toks:=t }:=I.un (h':=s.heap) (t':=t) Un.refl I.aJ
theorem Inv.kept{t':Nat}(I:Inv X pins σ H s)(k:∀b u,s.heap.get? b=some u->h'.get? b=some u):Inv X pins σ H { s with heap:=h',toks:=t' }:=I.un (Un.kept k) (I.aJ.kept k)
theorem Inv.laid{a:Addr}{o:HO}{t':Nat}(I:Inv X pins σ H s)(k:∀b u,s.heap.get? b=some u->h'.get? b=some u)(hp:s.heap.objs.size<=a)(new:cz X.prog X.w (upd H a o) h' a o) :
  Inv X pins σ (upd H a o) { s with heap:=h',toks:=t' }:=I.un (Un.laid k hp (I.aJ.fresh hp)) (I.aJ.laid k hp new)
theorem Inv.write{x e:Addr}{o:HO}{t':Nat}(I:Inv X pins σ H s)(mu:lg (H x))(he:e=x\/H e=some (.own x))(k:∀b u,b≠e->s.heap.get? b=some u->h'.get? b=some u)(iF:∃u,h'.get? e=some u)
  (new:cz X.prog X.w (upd H x o) h' x o):Inv X pins σ (upd H x o) { s with heap:=h',toks:=t' }:=I.un (Un.write mu he k iF) (I.aJ.write mu he k iF new)
theorem Inv.xD{xE:List (Addr×Obj)}(I:Inv X pins σ H s)(h:∀p∈xE,s.heap.get? p.1=some p.2/\H p.1=none/\p.1≠X.env.locals/\p.1∉X.fs/\∀v,p.2.data≠.cell v):Inv X xE σ H s :=
 ⟨I.ok,I.os,I.bare,I.base,I.loc,I.cell,I.free,I.fB,λp hp=>(List.mem_append.mp hp).elim (λz=>I.pin p (List.mem_append_left _ z)) (h p),I.aJ,I.len⟩
theorem xF{N:List Str}(hN:N.Nodup){i j:Nat}{x:Str}(a:N[i]? = some x)(b:N[j]? = some x):i=j:=by
 obtain⟨h1,e1⟩:=List.getElem?_eq_some_iff.mp a;obtain⟨h2,e2⟩:=List.getElem?_eq_some_iff.mp b;exact(List.getElem_inj hN).mp (e1.trans e2.symm)
theorem xG{M:Model}{A:Around}{E:Value->Shared->Prop}{i:Nat}{x:Str}{v:V}{u:Value}{Q:Unit->Shared->Prop}(I:Inv X pins σ H s)(hN:X.N.Nodup)(hi:X.N[i]? = some x)(hx:Loc X.env.scope x)(r:RelV v u)
  (h:∀s',Inv X pins (σ.set i (some v)) H s'->(∃a,Heap.SameBut a s.heap s'.heap/\(a=X.env.locals\/X.env.cells.lookup x=some a))->Q () s') (hf:X.fn x=true\/X.env.scope.names.lookup x=some .local:=by first | exact .inl rfl | exact .inr rfl | assumption):wpAny M A (storeName X.env x u) Q E s:=by
 obtain⟨m,hn,hl⟩:=id I.loc;have C3:(X.env.scope.kind == .class || (X.env.scope.kind == .module && X.env.locals != X.env.globals))=false:=by rw[I.ok.kind];rfl
 have xH:i<σ.length:=by rw[I.len];exact(List.getElem?_eq_some_iff.mp hi).1
 have gZ:=I.gZ;have tracked:∀ {a:Addr} {h':Heap},(∃o,s.heap.get? a=some o/\H a=none)->Heap.SameBut a s.heap h'->bR X.prog X.w H h':=λ{a h'} ha hs b ob e=>by
  obtain⟨_,_,xJ⟩:=ha;refine(I.aJ b ob e).jv (λc w' hc q=>(hs.2 c ?_).trans q) (λ_ q=>q) λ_ _ q=>q;rintro rfl;rcases hc with rfl | hc
  ·rw[xJ] at e;cases e
  ·rw[xJ] at hc;cases hc
 rcases hx with hk | hk
 ·refine wpAny_storeName_local hk hn (λh' cI hs=>?_) C3;obtain⟨oL,_,_,g5,_⟩:=id hn;refine h _ ⟨I.ok,I.os,I.bare,⟨λb o e n hb hx=>?_,λb o e n hb hx=>?_,I.base.free,λb o e hx=>?_,I.base.gz,I.base.fY,I.base.gA⟩,⟨_,cI,λj y v' e1 e2 e3=>?_⟩,λy c e=>?_,I.free,I.fB,λp hp=>?_,tracked ⟨oL,g5,I.free⟩ hs,by simpa using I.len⟩ ⟨_,hs,.inl rfl⟩
  ·exact(hs.2 b (Nat.ne_of_lt (Nat.lt_of_lt_of_le (Heap.lt_size e) I.ok.above))).trans (I.base.keep b o e n hb hx)
  ·obtain⟨sl,e1⟩:=I.base.slot b o e n hb hx;exact⟨sl,(hs.2 b (Nat.ne_of_lt (Nat.lt_of_lt_of_le (Heap.lt_size e) I.ok.above))).trans e1⟩
  ·obtain⟨o',e1⟩:=I.base.there b o e hx;exact⟨o',(hs.2 b (Nat.ne_of_lt (Nat.lt_of_lt_of_le (Heap.lt_size e) I.ok.above))).trans e1⟩
  ·by_cases hj:j=i
   ·subst hj;rw[hi] at e1;cases e1;rw[List.getElem?_set_self xH] at e2;cases e2;exact⟨u,r,.inl ⟨hk,by simp⟩⟩
   ·rw[List.getElem?_set_ne (Ne.symm hj)] at e2;obtain⟨u',r',q⟩:=hl j y v' e1 e2 e3;refine⟨u',r',?_⟩;rcases q with⟨k,e⟩ | ⟨k,c,e,z⟩
    ·refine .inl ⟨k,?_⟩;have:y≠x:=λe=>hj (xF hN e1 (e▸hi));simp[this,e]
    ·exact .inr ⟨k,c,e,z.sameBut hs (gZ y c e)⟩
  ·obtain⟨w',z⟩:=I.cell y c e;exact⟨w',z.sameBut hs (gZ y c e)⟩
  ·obtain⟨e,n,ne,nf,d⟩:=I.pin p hp;exact⟨(hs.2 p.1 ne).trans e,n,ne,nf,d⟩
 ·have qJ:X.fn x=true:=by
   rcases hf with z | z
   ·exact z
   ·rw[z] at hk;cases hk
  obtain⟨c,hc⟩:=I.ok.has x (.inl hk);obtain⟨w',z⟩:=I.cell x c hc;refine wpAny_storeName_cell I.ok.kind hk hc z (λh' qK hs=>?_);obtain⟨oc,xK,C4⟩:=id z;refine h { s with heap:=h' } ⟨I.ok,I.os,I.bare,⟨λb o e n hb hx=>?_,λb o e n hb hx=>?_,I.base.free,λb o e hx=>?_,I.base.gz,I.base.fY,I.base.gA⟩,⟨m,hn.sameBut hs (Ne.symm (gZ x c hc)),λj y v' e1 e2 e3=>?_⟩,λy c' e=>?_,I.free,I.fB,λp hp=>?_,tracked ⟨oc,xK,I.fB x c hc⟩ hs,by simpa using I.len⟩ ⟨c,hs,.inr hc⟩
  ·exact(hs.2 b (Nat.ne_of_lt (Nat.lt_of_lt_of_le (Heap.lt_size e) (I.ok.iG x c qJ hc)))).trans (I.base.keep b o e n hb hx)
  ·obtain⟨sl,e1⟩:=I.base.slot b o e n hb hx;exact⟨sl,(hs.2 b (Nat.ne_of_lt (Nat.lt_of_lt_of_le (Heap.lt_size e) (I.ok.iG x c qJ hc)))).trans e1⟩
  ·obtain⟨o',e1⟩:=I.base.there b o e hx;exact⟨o',(hs.2 b (Nat.ne_of_lt (Nat.lt_of_lt_of_le (Heap.lt_size e) (I.ok.iG x c qJ hc)))).trans e1⟩
  ·by_cases hj:j=i
   ·subst hj;rw[hi] at e1;cases e1;rw[List.getElem?_set_self xH] at e2;cases e2;exact⟨u,r,.inr ⟨.inl hk,c,hc,qK⟩⟩
   ·rw[List.getElem?_set_ne (Ne.symm hj)] at e2;obtain⟨u',r',q⟩:=hl j y v' e1 e2 e3;refine⟨u',r',?_⟩;rcases q with q | ⟨k,c',e,z'⟩
    ·exact .inl q
    ·refine .inr ⟨k,c',e,z'.sameBut hs ?_⟩;rintro rfl;exact hj (xF hN e1 (I.ok.inj _ _ _ e hc▸hi))
  ·by_cases xM:c' = c
   ·subst xM;exact⟨_,qK⟩
   ·obtain⟨w2,z2⟩:=I.cell y c' e;exact⟨w2,z2.sameBut hs xM⟩
  ·obtain⟨e,n,ne,nf,d⟩:=I.pin p hp;refine⟨(hs.2 p.1 ?_).trans e,n,ne,nf,d⟩;intro q;rw[q,xK] at e;have q':oc=p.2:=Option.some.inj e;exact d w' (by rw[← q'];exact C4)
theorem xN{M:Model}{A:Around}{E:Value->Shared->Prop}{i:Nat}{x:Str}{v:V}{u:Value}{Q:Unit->Shared->Prop}(I:Inv X pins σ H s)(hN:X.N.Nodup)(hi:X.N[i]? = some x)(hx:Loc X.env.scope x)(r:RelV v u)
  (h:∀s',Inv X pins (σ.set i (some v)) H s'->Q () s') (hf:X.fn x=true\/X.env.scope.names.lookup x=some .local:=by first | exact .inl rfl | exact .inr rfl | assumption):wpAny M A (storeName X.env x u) Q E s :=
 xG I hN hi hx r (λs' I' _=>h s' I') hf
theorem Inv.C5{s':Shared}{ch:List Addr}(I:Inv X pins σ H s)(ho:s'.os=s.os)(u:Un (c_ X.stack) ch H H' s.heap s'.heap)(aJ:bR X.prog X.w H' s'.heap)(hg:AllBare s'.gens)
  (fD:∀b∈ch,(b∈X.ex\/X.bS.heap.objs.size<=b)/\b≠X.env.locals/\(∀x c,X.env.cells.lookup x=some c->c≠b)/\∀p∈X.pn++pins,p.1≠b):Inv X pins σ H' s':=by
 obtain⟨h',g',d',t',o'⟩:=s';have e:o' = s.os:=ho;subst e;exact I.call (g':=g') (t':=t') (d':=d') u aJ hg fD
end
noncomputable abbrev XK:=Value->Option Addr->Hp->Prop
noncomputable abbrev St:=List (Option V)
noncomputable abbrev VK:=V->Hp->Prop
noncomputable abbrev TE:=St->Hp->VK->Prop
noncomputable abbrev TT:=St->Hp->(Bool->Hp->Prop)->Prop
noncomputable abbrev TA:=St->Hp->(List V->Hp->Prop)->Prop
structure Ends where
 nx:St->Hp->Prop
 rt:VK
 bk:St->Hp->Prop:=λ_ _=>False
 ct:St->Hp->Prop:=λ_ _=>False
noncomputable abbrev TS:=Ends->St->Hp->Prop
noncomputable def EP(X:Cx)(pins:List (Addr×Obj))(σ:St)(Q:VK)(u:Value)(s':Shared):Prop:=∃v H',Inv X pins σ H' s'/\RelV v u/\Q v H'
noncomputable def TP(X:Cx)(pins:List (Addr×Obj))(σ:St)(Q:Bool->Hp->Prop)(b:Bool)(s':Shared):Prop:=∃H',Inv X pins σ H' s'/\Q b H'
noncomputable def AP(X:Cx)(pins:List (Addr×Obj))(σ:St)(Q:List V->Hp->Prop)(us:List Value)(s':Shared):Prop:=∃vs H',Inv X pins σ H' s'/\Vals vs us/\Q vs H'
noncomputable def SP(X:Cx)(pins:List (Addr×Obj))(D:Ends)(f:Flow)(s':Shared):Prop :=
 match f with
 | .next=>∃aG H',Inv X pins aG H' s'/\D.nx aG H'
 | .brk=>∃aG H',Inv X pins aG H' s'/\D.bk aG H'
 | .cont=>∃aG H',Inv X pins aG H' s'/\D.ct aG H'
 | .ret u=>∃v aG H',Inv X pins aG H' s'/\RelV v u/\D.rt v H'
noncomputable def PE(X:Cx)(e:Expr)(t:TE):Prop :=
 ∀(pins:List (Addr×Obj)) (s:Shared) (σ:St) (H:Hp) (Q:VK),Inv X pins σ H s->t σ H Q->wpAny (model X.prog X.w) X.A (eval e X.env) (EP X pins σ Q) X.xe s
noncomputable def PT(X:Cx)(e:Expr)(t:TT):Prop :=
 ∀(pins:List (Addr×Obj)) (s:Shared) (σ:St) (H:Hp) (Q:Bool->Hp->Prop),Inv X pins σ H s->t σ H Q->wpAny (model X.prog X.w) X.A (isTrue e X.env (eval e X.env)) (TP X pins σ Q) X.xe s
noncomputable def PW(X:Cx)(e:Expr)(t:TT):Prop :=
 ∀(whole:Sem Value) (pins:List (Addr×Obj)) (s:Shared) (σ:St) (H:Hp) (Q:Bool->Hp->Prop),Inv X pins σ H s->t σ H Q->wpAny (model X.prog X.w) X.A (isTrue e X.env whole) (TP X pins σ Q) X.xe s
theorem PW.pt{X:Cx}{e:Expr}{t:TT}(h:PW X e t):PT X e t:=h _
noncomputable def PA(X:Cx)(es:List Expr)(t:TA):Prop :=
 ∀(pos:Pos) (pins:List (Addr×Obj)) (s:Shared) (σ:St) (H:Hp) (Q:List V->Hp->Prop),Inv X pins σ H s->t σ H Q->wpAny (model X.prog X.w) X.A (spliced (backTo pos (starEach es X.env))) (AP X pins σ Q) X.xe s
noncomputable def PS(X:Cx)(st:Stmt)(t:TS):Prop :=
 ∀(pins:List (Addr×Obj)) (s:Shared) (σ:St) (H:Hp) (D:Ends),Inv X pins σ H s->t D σ H->wpAny (model X.prog X.w) X.A (exec st X.env) (SP X pins D) X.xe s
noncomputable def cR(X:Cx)(st:List Stmt)(t:TS):Prop :=
 ∀(pins:List (Addr×Obj)) (s:Shared) (σ:St) (H:Hp) (D:Ends),Inv X pins σ H s->t D σ H->wpAny (model X.prog X.w) X.A (execs st X.env) (SP X pins D) X.xe s
theorem aK{α:Type}{t:Sem α}{Q Q':α->Shared->Prop}{M:Model}{A:Around}{E:Value->Shared->Prop}{s:Shared}(h:wpAny M A t Q E s)(hQ:∀a s,Q a s->Q' a s):wpAny M A t Q' E s:=wpAny_mono h hQ λ_ _ x=>x
section
variable{X:Cx}
noncomputable def xO(i:Nat):TE:=λσ H Q=>∃v,σ[i]? = some (some v)/\Q v H
noncomputable def tC(v:V):TE:=λ_ H Q=>Q v H
theorem C6{i:Nat}{x:Str}{pos:Pos}(hN:X.N[i]? = some x)(hv:qG X.env.scope x)(hd:(x == ("__debug__" : Str))=false:=by decide)(dN:(x == ("__classdict__" : Str))=false:=by decide):PE X (.Name x pos) (xO i):=by
 intro pins s σ H Q I h;obtain⟨v,e,h⟩:=h;obtain⟨m,hn,hl⟩:=I.loc;obtain⟨u,r,l⟩:=hl i x v hN e hv;have fin:EP X pins σ Q u s:=⟨v,H,I,r,h⟩;rcases l with⟨hk,hm⟩ | ⟨hk,c,hc,xP⟩
 ·exact wpAny_Name (wpAny_loadName_local I.ok.kind hk hn hm fin) hd
 ·rcases hk with hk | hk
  ·exact wpAny_Name (wpAny_loadName_cell I.ok.kind hk hc xP fin) hd
  ·exact wpAny_Name (wpAny_loadName_free I.ok.kind hk hc xP fin dN) hd
theorem aj{i j pos}:PE X (.Constant (.int i) j pos) (tC (.int i)):=λ_ _ _ H _ I h=>wpAny_Constant_int ⟨.int i,H,I.tok _,⟨_,rfl⟩,h⟩
theorem dc{b j pos}:PE X (.Constant (.bool b) j pos) (tC (.bl b)):=λ_ _ _ H _ I h=>Constant_bool ⟨.bl b,H,I,rfl,h⟩
theorem dh{j pos}:PE X (.Constant .none j pos) (tC .aB):=λ_ _ _ H _ I h=>Constant_none ⟨.aB,H,I,rfl,h⟩
theorem aM{x j pos}:PE X (.Constant (.str x) j pos) (tC (.str x)):=λ_ _ _ H _ I h=>Calls.Constant_str ⟨.str x,H,I.tok _,⟨_,rfl⟩,h⟩
noncomputable def Gl(X:Cx)(x:Str):Prop:=X.env.kindOf x=some .globalImplicit
theorem qL{E:Value->Shared->Prop}{pins:List (Addr×Obj)}{s:Shared}{σ:St}{H:Hp}{x:Str}{u:Value}{pos:Pos}{Q:Value->Shared->Prop}(I:Inv X pins σ H s)(hg:Gl X x)(hm:X.mg x=some u)(h:Q u s)
  (hd:(x == ("__debug__" : Str))=false:=by decide):wpAny (model X.prog X.w) X.A (eval (.Name x pos) X.env) Q E s :=
 Calls.Name_function_global I.ok.kind hg (Calls.loadGlobal_global (by rw[I.ok.glob];exact I.mod.glob.keeps I.bk) hm h) hd
theorem iJ{E:Value->Shared->Prop}{pins:List (Addr×Obj)}{s:Shared}{σ:St}{H:Hp}{x:Str}{u:Value}{pos:Pos}{Q:Value->Shared->Prop}(I:Inv X pins σ H s)(hg:Gl X x)(hm:X.mg x=none)(hv:bootBuiltins x=some u)(h:Q u s)
  (hn:x≠"__name__" := by decide) (hd:(x == ("__debug__" : Str))=false:=by decide):wpAny (model X.prog X.w) X.A (eval (.Name x pos) X.env) Q E s:=by
 obtain⟨mb,h1,h2⟩:=I.mod.blt;exact Calls.Name_function_global I.ok.kind hg (Calls.loadGlobal_builtin (by rw[I.ok.glob];exact I.mod.glob.keeps I.bk) hm (by rw[I.ok.blt];exact h1.keeps I.bk) ((h2 x hn).trans hv) h) hd
theorem fF{x:Str}{v:V}{u:Value}{pos:Pos}(hg:Gl X x)(hm:X.mg x=some u)(r:RelV v u)(hd:(x == ("__debug__" : Str))=false:=by decide):PE X (.Name x pos) (tC v) :=
 λ_ _ _ H _ I h=>qL I hg hm ⟨v,H,I,r,h⟩ hd
theorem iK{x:Str}{v:V}{u:Value}{pos:Pos}(hg:Gl X x)(hm:X.mg x=none)(hv:bootBuiltins x=some u)(r:RelV v u)(hn:x≠"__name__" := by decide)(hd:(x == ("__debug__" : Str))=false:=by decide):PE X (.Name x pos) (tC v) :=
 λ_ _ _ H _ I h=>iJ I hg hm hv ⟨v,H,I,r,h⟩ hn hd
variable{a b:Expr}{ta tb:TE}{pos:Pos}
noncomputable def PC(X:Cx)(op:CmpOp)(a b:Expr)(t:TE):Prop :=
 ∀(pins:List (Addr×Obj)) (s:Shared) (σ:St) (H:Hp) (Q:VK),Inv X pins σ H s->t σ H Q->
  wpAny (model X.prog X.w) X.A (eval a X.env) (λv aQ=>wpAny (model X.prog X.w) X.A (eval b X.env) (λu f9=>wpAny (model X.prog X.w) X.A (compareOp op v u) (EP X pins σ Q) X.xe f9) X.xe aQ) X.xe s
noncomputable def tB(t:TE):TT:=λσ H Q=>t σ H λx H1=>∃c,x = .bl c/\Q c H1
theorem dO{e:Expr}{t:TE}(h:PE X e t)(he:∀whole,isTrue e X.env whole=(do let v ← whole;standAt e.pos;holding [v] (truthy v)):=by intro _;rfl):PT X e (tB t):=by
 intro pins s σ H Q I hw;refine isTrue_plain (aK (h pins s σ H _ I hw) λv s1 ⟨x,H1,I1,r1,q1⟩=>?_) (he _);obtain⟨d,rfl,q⟩:=q1;cases r1;exact wpAny_truthy_bool ⟨H1,I1,q⟩
variable{tA lz:TT}{rest:List Expr}
noncomputable def C7(t u:TT):TT:=λσ H Q=>t σ H λc H1=>if c=true then u σ H1 Q else Q false H1
noncomputable def C8(t u:TT):TT:=λσ H Q=>t σ H λc H1=>if c=true then Q true H1 else u σ H1 Q
noncomputable def C9(t:TT):TT:=λσ H Q=>t σ H λc H1=>Q (!c) H1
theorem xQ(ha:PT X a tA):PW X (.BoolOp .And [a] pos) tA:=by
 intro wh pins s σ H Q I h;refine isTrue_and (aK (ha pins s σ H Q I h) λc s1 e=>?_);cases c with
 | true=>exact isTrue_and_nil e
 | false=>exact e
theorem g6(ha:PT X a tA):PW X (.BoolOp .Or [a] pos) tA:=by
 intro wh pins s σ H Q I h;refine isTrue_or (aK (ha pins s σ H Q I h) λc s1 e=>?_);cases c with
 | false=>exact isTrue_or_nil e
 | true=>exact e
theorem xR(ha:PT X a tA)(hb:PW X (.BoolOp .And (b::rest) pos) lz):PW X (.BoolOp .And (a::b::rest) pos) (C7 tA lz):=by
 intro wh pins s σ H Q I h;refine isTrue_and (aK (ha pins s σ H _ I h) λc s1 ⟨H1,I1,q1⟩=>?_);cases c with
 | true=>exact hb wh pins s1 σ H1 Q I1 q1
 | false=>exact⟨H1,I1,q1⟩
theorem f_(ha:PT X a tA)(hb:PW X (.BoolOp .Or (b::rest) pos) lz):PW X (.BoolOp .Or (a::b::rest) pos) (C8 tA lz):=by
 intro wh pins s σ H Q I h;refine isTrue_or (aK (ha pins s σ H _ I h) λc s1 ⟨H1,I1,q1⟩=>?_);cases c with
 | true=>exact⟨H1,I1,q1⟩
 | false=>exact hb wh pins s1 σ H1 Q I1 q1
theorem fG(ha:PT X a tA):PT X (.UnaryOp .Not a pos) (C9 tA):=by
 intro pins s σ H Q I h;exact isTrue_not (ha pins s σ H (λc H1=>Q (!c) H1) I h)
noncomputable def C_(ta tb:TE):TE:=λσ H Q=>ta σ H λx H1=>∃c,x = .bl c/\if c=true then tb σ H1 Q else Q (.bl false) H1
noncomputable def M9(ta tb:TE):TE:=λσ H Q=>ta σ H λx H1=>∃c,x = .bl c/\if c=true then Q (.bl true) H1 else tb σ H1 Q
noncomputable def Dc(ta:TE):TE:=λσ H Q=>ta σ H λx H1=>∃c,x = .bl c/\Q (.bl (!c)) H1
theorem lA{op}{t:TE}(h:PE X a t):PE X (.BoolOp op [a] pos) t:=λpins s σ H Q I hw=>BoolOp_one (h pins s σ H Q I hw)
theorem lB(ha:PE X a ta)(hb:PE X (.BoolOp .And (b::rest) pos) tb):PE X (.BoolOp .And (a::b::rest) pos) (C_ ta tb):=by
 intro pins s σ H Q I h;refine BoolOp_and (aK (ha pins s σ H _ I h) λv s1 ⟨x,H1,I1,r1,q1⟩=>?_);obtain⟨c,rfl,q1⟩:=q1;cases r1;refine wpAny_truthy_bool ?_;cases c with
 | true=>exact hb pins s1 σ H1 Q I1 q1
 | false=>exact⟨.bl false,H1,I1,rfl,q1⟩
theorem Dd(ha:PE X a ta):PE X (.UnaryOp .Not a pos) (Dc ta):=by
 intro pins s σ H Q I h;refine UnaryOp_ (aK (ha pins s σ H _ I h) λv s1 ⟨x,H1,I1,r1,q1⟩=>?_);obtain⟨c,rfl,q1⟩:=q1;cases r1;exact not_of (wpAny_truthy_bool ⟨.bl (!c),H1,I1,rfl,q1⟩)
noncomputable def De(t:TT)(ta tb:TE):TE:=λσ H Q=>t σ H λc H1=>if c=true then ta σ H1 Q else tb σ H1 Q
theorem g7{c:Expr}(hc:PT X c tA)(ha:PE X a ta)(hb:PE X b tb):PE X (.IfExp c a b pos) (De tA ta tb):=by
 intro pins s σ H Q I h;refine wpAny_IfExp (aK (hc pins s σ H _ I h) λd s1 ⟨H1,I1,q1⟩=>?_);cases d with
 | true=>exact ha pins s1 σ H1 Q I1 q1
 | false=>exact hb pins s1 σ H1 Q I1 q1
end
noncomputable def au(K:PySem.W.Frag)(H:Hp)(a:Addr)(xs:List V):Prop :=
 Rd H a (.lst xs)\/
  ∃(o:Obj) (ao:Array Value) (n:Nat),K.lookup a=some o/\o.cls = .type "list"/\o.dict=none/\o.data = .seq ao n/\ao.size<=sizeLine/\Vals xs ao.toList
noncomputable def aC(K:PySem.W.Frag)(H:Hp)(a:Addr)(xs:List V):Prop :=
 Rd H a (.tup xs)\/
  ∃(o:Obj) (ao:Array Value) (n:Nat),K.lookup a=some o/\o.cls = .type "tuple"/\o.data = .seq ao n/\ao.size<=sizeLine/\Vals xs ao.toList
noncomputable def Df:Value->Option V
 | .none=>some .aB
 | .bool b=>some (.bl b)
 | .int i _=>some (.int i)
 | .str x _=>some (.str x)
 | .bytes b _=>some (.cM b)
 | .float b _=>some (.fq b)
 | .ref a=>some (.ref a)
 | .type n=>some (.ty n)
 | _=>none
theorem RelV.abs{x:V}{u:Value}(r:RelV x u):Df u=some x:=by
 cases x with
 | aB=>cases r;rfl
 | bl _=>cases r;rfl
 | int _=>obtain⟨t,rfl⟩:=r;rfl
 | str _=>obtain⟨t,rfl⟩:=r;rfl
 | cM _=>obtain⟨t,rfl⟩:=r;rfl
 | fq _=>obtain⟨t,rfl⟩:=r;rfl
 | ref _=>cases r;rfl
 | ty _=>cases r;rfl
theorem RelV.inj{x y:V}{u:Value}(r:RelV x u)(q:RelV y u):x=y:=Option.some.inj (r.abs.symm.trans q.abs)
theorem Vals.inj:∀ {xs ys:List V} {us:List Value},Vals xs us->Vals ys us->xs=ys
 | _,_,_,.nil,.nil=>rfl
 | _,_,_,.cons r t,.cons r' t'=>by rw[r.inj r',Vals.inj t t']
section
variable{X:Cx}{pins:List (Addr×Obj)}{σ:St}{H:Hp}{s:Shared}{a:Addr}{xs ys:List V}
theorem au.of{K:PySem.W.Frag}(h:H a=some (.lst xs)):au K H a xs:=.inl (.inl h)
theorem aC.of{K:PySem.W.Frag}(h:H a=some (.tup xs)):aC K H a xs:=.inl (.inl h)
theorem Inv.list(I:Inv X pins σ H s)(h:au X.K H a xs):∃ao:List Value,Vals xs ao/\PlainL s.heap a ao.toArray/\xs.length<=sizeLine:=by
 rcases h with h | ⟨o,ao,n,hk,hc,hd,hs,hz,r⟩
 ·obtain⟨z,ao,n,r,e⟩:=h.ok I.aJ;exact⟨ao,r,⟨_,n,e,rfl,rfl,rfl⟩,z⟩
 ·refine⟨ao.toList,r,⟨o,n,I.bT a o hk,hc,hd,by simpa using hs⟩,?_⟩
  have e:=r.length;simp only[Array.length_toList] at e;lia
theorem Inv.tuple(I:Inv X pins σ H s)(h:aC X.K H a xs):∃ao:List Value,Vals xs ao/\IsTup s.heap a ao.toArray/\xs.length<=sizeLine:=by
 rcases h with h | ⟨o,ao,n,hk,hc,hs,hz,r⟩
 ·obtain⟨z,ao,r,p⟩:=h.ok I.aJ;exact⟨ao,r,p,z⟩
 ·refine⟨ao.toList,r,⟨o,I.bT a o hk,hc,n,by simpa using hs⟩,?_⟩
  have e:=r.length;simp only[Array.length_toList] at e;lia
theorem Inv.Dg(I:Inv X pins σ H s)(h:au X.K H a xs)(h':au X.K H a ys):xs=ys:=by
 obtain⟨ao,r,⟨o,n,e,_,_,d⟩,_⟩:=I.list h;obtain⟨its',r',⟨o',n',e',_,_,d'⟩,_⟩:=I.list h';rw[e] at e';cases e';rw[d] at d';injection d' with d1 _;have:ao=its':=by simpa using congrArg Array.toList d1
 subst this;exact r.inj r'
theorem Inv.Dh(I:Inv X pins σ H s)(h:aC X.K H a xs)(h':aC X.K H a ys):xs=ys:=by
 obtain⟨ao,r,⟨o,e,_,n,d⟩,_⟩:=I.tuple h;obtain⟨its',r',⟨o',e',_,n',d'⟩,_⟩:=I.tuple h';rw[e] at e';cases e';rw[d] at d';injection d' with d1 _;have:ao=its':=by simpa using congrArg Array.toList d1
 subst this;exact r.inj r'
end
noncomputable abbrev Cx.eS(X:Cx)(E:Value->Shared->Prop):Cx:={ X with xe:=E }
noncomputable abbrev Cx.iL(X:Cx):Cx:=X.eS λ_ _=>False
theorem Cx.Ok.eS{X:Cx}(ok:X.Ok)(E:Value->Shared->Prop):(X.eS E).Ok :=
 ⟨ok.mod,ok.kind,ok.glob,ok.blt,ok.above,ok.inj,ok.has,ok.iG,ok.hd,ok.frames,ok.jx,ok.jy,ok.bs,ok.fz,ok.iH,ok.iI,ok.dM,ok.gB⟩
theorem Cx.Ok.gC{X:Cx}{E:Value->Shared->Prop}(ok:(X.eS E).Ok):X.Ok :=
 ⟨ok.mod,ok.kind,ok.glob,ok.blt,ok.above,ok.inj,ok.has,ok.iG,ok.hd,ok.frames,ok.jx,ok.jy,ok.bs,ok.fz,ok.iH,ok.iI,ok.dM,ok.gB⟩
section
variable{X:Cx}{pins:List (Addr×Obj)}{σ:St}{H:Hp}{s:Shared}{E:Value->Shared->Prop}
theorem Inv.eS(I:Inv X pins σ H s)(E:Value->Shared->Prop):Inv (X.eS E) pins σ H s:=⟨I.ok.eS E,I.os,I.bare,I.base,I.loc,I.cell,I.free,I.fB,I.pin,I.aJ,I.len⟩
theorem Inv.gC(I:Inv (X.eS E) pins σ H s):Inv X pins σ H s:=⟨I.ok.gC,I.os,I.bare,I.base,I.loc,I.cell,I.free,I.fB,I.pin,I.aJ,I.len⟩
theorem SP.gC{D:Ends}{f:Flow}{s':Shared}(h:SP (X.eS E) pins D f s'):SP X pins D f s':=by
 cases f with
 | next=>obtain⟨aG,H',I,q⟩:=h;exact⟨aG,H',I.gC,q⟩
 | brk=>obtain⟨aG,H',I,q⟩:=h;exact⟨aG,H',I.gC,q⟩
 | cont=>obtain⟨aG,H',I,q⟩:=h;exact⟨aG,H',I.gC,q⟩
 | ret u=>obtain⟨v,aG,H',I,r,q⟩:=h;exact⟨v,aG,H',I.gC,r,q⟩
theorem cR.iL{st:List Stmt}{t:TS}(h:cR X.iL st t):cR X st t:=λpins s σ H D I hw =>
 wpAny_mono (h pins s σ H D (I.eS _) hw) (λ_ _ q=>q.gC) λ_ _ z=>False.elim z
end
section
variable{X:Cx}{st:Stmt}{rest:List Stmt}{t u:TS}{e:Expr}{te:TE}{pos:Pos}
noncomputable def Di:TS:=λD σ H=>D.nx σ H
noncomputable def Dj(t u:TS):TS:=λD σ H=>t { D with nx:=u D } σ H
theorem bx:cR X [] Di:=λ_ _ σ H _ I h=>wpAny_execs_nil ⟨σ,H,I,h⟩
theorem az(h1:PS X st t)(h2:cR X rest u):cR X (st::rest) (Dj t u):=by
 intro pins s σ H D I h;refine wpAny_execs_cons (aK (h1 pins s σ H { D with nx:=u D } I h) λf s1 q=>?_);cases f with
 | next =>
  obtain⟨aG,H',I',q⟩:=q;exact h2 pins s1 aG H' D I' q
 | ret v=>exact q
 | brk=>exact q
 | cont=>exact q
theorem aF(h1:PS X st t):cR X [st] t:=by
 intro pins s σ H D I h;refine wpAny_execs_cons (aK (h1 pins s σ H D I h) λf s1 q=>?_);cases f with
 | next=>exact wpAny_execs_nil q
 | ret v=>exact q
 | brk=>exact q
 | cont=>exact q
theorem Inv.quiet{pins:List (Addr×Obj)}{σ:St}{H:Hp}{s:Shared}(I:Inv X pins σ H s):interactive X.env=false:=by simp[interactive,I.ok.kind]
noncomputable def Dk(te:TE):TS:=λD σ H=>te σ H λ_ H1=>D.nx σ H1
theorem bX(he:PE X e te)(hs:swapsWith e none pos.line X.env=pure false:=by rfl):PS X (.Expr e pos) (Dk te):=by
 intro pins s σ H D I h;exact wpAny_Expr_any (aK (he pins s σ H _ I h) λv s1 ⟨x,H1,I1,r1,q1⟩=>⟨σ,H1,I1,q1⟩) I.quiet hs
noncomputable def Dl(te:TE):TS:=λD σ H=>te σ H D.rt
theorem aX(he:PE X e te):PS X (.Return (some e) pos) (Dl te):=by
 intro pins s σ H D I h;exact wpAny_Return_some (aK (he pins s σ H _ I h) λv s1 ⟨x,H1,I1,r1,q1⟩=>⟨x,σ,H1,I1,r1,q1⟩)
noncomputable def M_:TS:=λD _ H=>D.rt .aB H
noncomputable def Dm(c:TT)(t u:TS):TS:=λD σ H=>c σ H λb H1=>if b=true then t D σ H1 else u D σ H1
theorem bu{c:Expr}{a b:List Stmt}{tc:TT}(hc:PT X c tc)(ha:cR X a t)(hb:cR X b u):PS X (.If c a b pos) (Dm tc t u):=by
 intro pins s σ H D I h;refine wpAny_If (aK (hc pins s σ H _ I h) λd s1 ⟨H1,I1,q1⟩=>?_);cases d with
 | true=>exact ha pins s1 σ H1 D I1 q1
 | false=>exact hb pins s1 σ H1 D I1 q1
noncomputable def Dn:TS:=λ_ _ _=>False
theorem lC{Dp:List Stmt}:cR X Dp Dn:=λ_ _ _ _ _ _ h=>h.elim
end
noncomputable abbrev TG:=V->St->Hp->(St->Hp->Prop)->Prop
noncomputable abbrev jA:=List V->St->Hp->(St->Hp->Prop)->Prop
noncomputable def PG(X:Cx)(target:Expr)(t:TG):Prop :=
 ∀(pins:List (Addr×Obj)) (s:Shared) (σ:St) (H:Hp) (v:V) (u:Value) (Q:St->Hp->Prop),Inv X pins σ H s->RelV v u->t v σ H Q->
  wpAny (model X.prog X.w) X.A (assign target X.env u) (λ_ s'=>∃aG H',Inv X pins aG H' s'/\Q aG H') X.xe s
noncomputable def Dq(X:Cx)(ts:List Expr)(t:jA):Prop :=
 ∀(pins:List (Addr×Obj)) (s:Shared) (σ:St) (H:Hp) (vs:List V) (us:List Value) (Q:St->Hp->Prop),Inv X pins σ H s->Vals vs us->t vs σ H Q->
  wpAny (model X.prog X.w) X.A (assignInOrder ((assignEach ts X.env).map (·.2)) us) (λ_ s'=>∃aG H',Inv X pins aG H' s'/\Q aG H') X.xe s
noncomputable abbrev Dr:=V->V->V->Hp->(Hp->Prop)->Prop
section
variable{X:Cx}{pos:Pos}
noncomputable def lD(i:Nat):TG:=λv σ H Q=>Q (σ.set i (some v)) H
theorem d_{i:Nat}{x:Str}(hN:X.N.Nodup)(hi:X.N[i]? = some x)(hx:Loc X.env.scope x)(hf:X.fn x=true\/X.env.scope.names.lookup x=some .local:=by first | exact .inl rfl | exact .inr rfl | assumption):PG X (.Name x pos) (lD i):=by
 intro pins s σ H v u Q I r h;exact wpAny_assign_Name (xN I hN hi hx r (λs' I'=>⟨_,H,I',h⟩) hf)
noncomputable def Na:jA:=λvs σ H Q=>vs = []/\Q σ H
noncomputable def Nb(t:TG)(u:jA):jA:=λvs σ H Q=>∃v r,vs=v::r/\t v σ H λaG H'=>u r aG H' Q
noncomputable def Nc(K:PySem.W.Frag)(n:Nat)(t:jA):TG:=λv σ H Q=>∃a xs,v = .ref a/\aC K H a xs/\xs.length=n/\t xs σ H Q
noncomputable def Nd(to ti:TE)(t:Dr):TG:=λv σ H Q=>to σ H λo H1=>ti σ H1 λi H2=>t o i v H2 λH3=>Q σ H3
noncomputable def xS(te:TE)(g:TG):TS:=λD σ H=>te σ H λx H1=>g x σ H1 D.nx
theorem aU{i:Nat}{x:Str}{e:Expr}{te:TE}{pos':Pos}(hN:X.N.Nodup)(hi:X.N[i]? = some x)(hx:Loc X.env.scope x)(he:PE X e te)(hs:swapsWith e (some (.Name x pos')) pos.line X.env=pure false:=by rfl)(hf:X.fn x=true\/X.env.scope.names.lookup x=some .local:=by first | exact .inl rfl | exact .inr rfl | assumption) :
  PS X (.Assign [.Name x pos'] e pos) (xS te (lD i)):=by
 intro pins s σ H D I h;refine wpAny_Assign_Name (aK (he pins s σ H _ I h) λv s1 ⟨y,H1,I1,r1,q1⟩=>?_) hs;exact xN I1 hN hi hx r1 (λs2 I2=>⟨_,H1,I2,q1⟩) hf
end
section
variable{X:Cx}{pos:Pos}
noncomputable def Ds(c:TT)(tb:TS):TS:=λD σ H=>∃W:Nat->St->Hp->Prop,(∃m,W m σ H)/\∀m σ H,W m σ H->
 c σ H λb H1=>if b=true then ∃N:St->Hp->Prop,(∀aG H',N aG H'->∃m',m' < m/\W m' aG H')/\tb { D with nx:=N,ct:=N,bk:=D.nx } σ H1 else D.nx σ H1
theorem Dt{c:Expr}{body:List Stmt}{tc:TT}{tb:TS}(hp:PassesOwn (model X.prog X.w) X.A X.env X.xe)(hc:PT X c tc)(hb:cR X body tb):PS X (.While c body [] pos) (Ds tc tb):=by
 intro pins s σ H D I h;obtain⟨W,⟨m0,w0⟩,turn⟩:=h;refine wpAny_While (codeAny_whileLoop (λn s'=>∃aG H',Inv X pins aG H' s'/\W n aG H') ?_ m0 ⟨σ,H,I,w0⟩);rintro n s1 ⟨gb,H1,I1,w1⟩;refine wpAny_passesOwn hp (aK (hc pins s1 gb H1 _ I1 (turn n gb H1 w1)) λb s2 ⟨H2,I2,q2⟩=>?_);cases b with
 | true =>
  obtain⟨N,hN,q2⟩:=q2;rw[if_pos rfl];refine wpAny_passesOwn hp (aK (hb pins s2 gb H2 _ I2 q2) λf s3 q3=>?_);cases f with
  | next =>
   obtain⟨cS,H3,I3,n3⟩:=q3;obtain⟨m',hm,w3⟩:=hN cS H3 n3;exact⟨m',hm,cS,H3,I3,w3⟩
  | cont =>
   obtain⟨cS,H3,I3,n3⟩:=q3;obtain⟨m',hm,w3⟩:=hN cS H3 n3;exact⟨m',hm,cS,H3,I3,w3⟩
  | brk=>exact q3
  | ret v=>exact q3
 | false =>
  rw[if_neg Bool.false_ne_true];exact wpAny_execs_nil ⟨gb,H2,I2,q2⟩
end
structure It where
 go:Nat->Hp->Prop
 gD:Nat->Hp->V->Hp->Prop
 stop:Nat->Hp->Prop
noncomputable def fH(X:Cx)(pins:List (Addr×Obj))(H:Hp)(b:Addr):Prop :=
 H b=none/\b≠X.env.locals/\b∉X.fs/\(b∈X.ex\/X.bS.heap.objs.size<=b)/\(∀x c,X.env.cells.lookup x=some c->c≠b)/\∀p∈X.pn++pins,p.1≠b
theorem Inv.iM{X:Cx}{pins:List (Addr×Obj)}{σ:St}{H H':Hp}{s:Shared}{b:Addr}(I:Inv X pins σ H s)(hb:s.heap.objs.size<=b)(hn:H' b=none):fH X pins H' b:=by
 refine⟨hn,Nat.ne_of_gt (Nat.lt_of_lt_of_le I.lt hb),I.C1 hb,.inr (Nat.le_trans I.sz hb),λx c e z=>?_,λp hp z=>?_⟩
 ·obtain⟨v,q⟩:=I.cell x c e;exact absurd (Nat.lt_of_lt_of_le q.lt (by rw[z];exact hb)) (Nat.lt_irrefl _)
 ·exact absurd (Nat.lt_of_lt_of_le (Heap.lt_size (I.pin p hp).1) (by rw[z];exact hb)) (Nat.lt_irrefl _)
structure Turn(P:Program)(w:World)(K:PySem.W.Frag)(tg:Expr)(J:It)(fp:List Addr)(it:Addr)(tn:Nat->Heap->Prop):Prop where
 mem:it∈fp
 obj:∀i h,tn i h->∀b∈fp,∃o,h.get? b=some o/\∀v,o.data≠.cell v
 keep:∀i h h',tn i h->(∀b∈fp,∀o,h.get? b=some o->h'.get? b=some o)->tn i h'
 item:∀(X:Cx),X.prog=P->X.w=w->X.K=K->X.calm=true->∀(i:Nat) (pins:List (Addr×Obj)) (s:Shared) (σ:St) (H:Hp) (E:Value->Shared->Prop),Inv X pins σ H s->(∀b∈fp,fH X pins H b)->tn i s.heap->J.go i H->
  wpAny (model P w) X.A (pyNext (.ref it)) (λr s1=>∃u,r=some u/\
   wpAny (model P w) X.A (letOwnedTupleGo tg (.ref it) u) (λ_ s2=>∃x H',Inv X pins σ H' s2/\RelV x u/\J.gD i H x H'/\tn (i+1) s2.heap/\∀b∈fp,H' b=none) E s1) E s
 done:∀(X:Cx),X.prog=P->X.w=w->X.K=K->X.calm=true->∀(i:Nat) (pins:List (Addr×Obj)) (s:Shared) (σ:St) (H:Hp) (E:Value->Shared->Prop),Inv X pins σ H s->(∀b∈fp,fH X pins H b)->tn i s.heap->J.stop i H->
  wpAny (model P w) X.A (pyNext (.ref it)) (λr s1=>r=none/\Inv X pins σ H s1) E s
 self:∀(A:Around) (i:Nat) (s:Shared) (Q:Value->Shared->Prop) (E:Value->Shared->Prop),tn i s.heap->Q (.ref it) s->wpAny (model P w) A (pyIter (.ref it)) Q E s
noncomputable abbrev TI:=St->Hp->(It->Hp->Prop)->Prop
noncomputable def xT(X:Cx)(pins:List (Addr×Obj))(σ:St)(tg:Expr)(R:It->Hp->Prop)(lE:Value)(s2:Shared):Prop :=
 ∃(it:Addr) (fp:List Addr) (tn:Nat->Heap->Prop) (J:It) (H':Hp),lE = .ref it/\Inv X pins σ H' s2/\Turn X.prog X.w X.K tg J fp it tn/\tn 0 s2.heap/\(∀b∈fp,fH X pins H' b)/\R J H'
noncomputable def PI(X:Cx)(tg iter:Expr)(wi:TI):Prop :=
 ∀(pins:List (Addr×Obj)) (s:Shared) (σ:St) (H:Hp) (R:It->Hp->Prop),Inv X pins σ H s->wi σ H R->
  wpAny (model X.prog X.w) X.A (eval iter X.env) (λv s1=>wpAny (model X.prog X.w) X.A (pyIter v) (xT X pins σ tg R) X.xe s1) X.xe s
theorem qM{M:Model}{A:Around}{E:Value->Shared->Prop}{s:Shared}{tg:Expr}{it:Addr}{u:Value}{o:Obj}{n:String}{vs:Array Value}{Q:Unit->Shared->Prop}(ho:s.heap.get? it=some o)(hc:o.cls = .type n)(hd:o.data = .fields vs)
  (hn:["enumerate", "zip", "dict_itemiterator", "dict_reverseitemiterator", "odict_iterator", "itertools.zip_longest", "itertools.pairwise"].contains n=false) (hQ:Q () s):wpAny M A (letOwnedTupleGo tg (.ref it) u) Q E s:=by
 unfold letOwnedTupleGo;cases tg <;> first
  | exact wpAny_pure hQ
  | (cases u <;> first
    | exact wpAny_pure hQ
    | (refine wpAny_bind (wpAny_load ho ?_)
       rw[hc,hd]
       show wpAny M A (if (["enumerate", "zip", "dict_itemiterator", "dict_reverseitemiterator", "odict_iterator", "itertools.zip_longest", "itertools.pairwise"].contains n && vs[0]? == some (rawInt _))=true then _ else _) Q E s
       rw[if_neg (by intro h;rw[hn,Bool.false_and] at h;cases h)]
       exact wpAny_pure hQ))
noncomputable def gF(K:PySem.W.Frag)(a:Addr):It :=
 ⟨λi H=>∃xs x,au K H a xs/\xs[i]? = some x,λi H x H'=>H' = H/\∀xs,au K H a xs->xs[i]? = some x,λi H=>∃xs,au K H a xs/\xs.length<=i⟩
noncomputable def jB(K:PySem.W.Frag)(a:Addr):It :=
 ⟨λi H=>∃xs x,aC K H a xs/\xs[i]? = some x,λi H x H'=>H' = H/\∀xs,aC K H a xs->xs[i]? = some x,λi H=>∃xs,aC K H a xs/\xs.length<=i⟩
noncomputable def iN(lo:Int)(n:Nat):It:=⟨λi _=>i<n,λi H x H'=>H' = H/\x = .int (lo+i),λi _=>n<=i⟩
theorem Du{P:Program}{w:World}{K:PySem.W.Frag}{tg:Expr}(a it:Addr):Turn P w K tg (gF K a) [it] it (λi h=>h.IsListIter it a i) where
 mem:=by simp
 obj:=λi h st b hb=>by
  have e:b=it:=by simpa using hb
  subst e;obtain⟨o,e,c,d⟩:=st;exact⟨o,e,λv z=>by rw[d] at z;cases z⟩
 keep:=λi h h' st k=>st.at λo e=>k it (by simp) o e
 item:=by
  intro X hP hw hK hc i pins s σ H E I hf st hg;subst hP hw hK;obtain⟨xs,x,hq,hx⟩:=hg;obtain⟨ao,rv,p,hz⟩:=I.list hq;obtain⟨u,hu,ru⟩:=rv.get hx;obtain⟨f0,f1,f2,f3,f4,f5⟩:=hf it (by simp)
  refine wpAny_pyNext_list_item st p.isList (x:=u) (by simpa using hu) λh' eg sb=>?_
  have I1:Inv X pins σ H { s with heap:=h' }:=I.turned (t':=s.toks) (λb o hb e=>(sb.2 b hb).trans e) f0 f1 f3 f4 f5;obtain⟨o,e,c,d⟩:=id eg;exact⟨u,rfl,qM (s:={ s with heap:=h' }) e c d (by decide) ⟨x,H,I1,ru,⟨rfl,λys hy=>by rw[I.Dg hy hq];exact hx⟩,eg,λb hb=>(hf b hb).1⟩⟩
 done:=by
  intro X hP hw hK hc i pins s σ H E I hf st hg;subst hP hw hK;obtain⟨xs,hq,hx⟩:=hg;obtain⟨ao,rv,p,hz⟩:=I.list hq;obtain⟨f0,f1,f2,f3,f4,f5⟩:=hf it (by simp)
  have hl:=rv.length;exact wpAny_pyNext_list_end (I.ok.hd hc) st p.isList (by simp;lia) λh' eb=>⟨rfl,I.turned (t':=s.toks) (λb o hb e=>eb b o hb e) f0 f1 f3 f4 f5⟩
 self:=λ_ _ _ _ _ st h=>wpAny_pyIter_listiter st h
theorem Dv{P:Program}{w:World}{K:PySem.W.Frag}{tg:Expr}(a it:Addr):Turn P w K tg (jB K a) [it] it (λi h=>h.IsTupleIter it a i) where
 mem:=by simp
 obj:=λi h st b hb=>by
  have e:b=it:=by simpa using hb
  subst e;obtain⟨o,e,c,d⟩:=st;exact⟨o,e,λv z=>by rw[d] at z;cases z⟩
 keep:=λi h h' st k=>st.at λo e=>k it (by simp) o e
 item:=by
  intro X hP hw hK hc i pins s σ H E I hf st hg;subst hP hw hK;obtain⟨xs,x,hq,hx⟩:=hg;obtain⟨ao,rv,p,hz⟩:=I.tuple hq;obtain⟨u,hu,ru⟩:=rv.get hx;obtain⟨f0,f1,f2,f3,f4,f5⟩:=hf it (by simp)
  refine wpAny_pyNext_tuple_item st (show s.heap.IsTuple a ao.toArray from p) (x:=u) (by simpa using hu) λh' eg sb=>?_
  have I1:Inv X pins σ H { s with heap:=h' }:=I.turned (t':=s.toks) (λb o hb e=>(sb.2 b hb).trans e) f0 f1 f3 f4 f5;obtain⟨o,e,c,d⟩:=id eg;exact⟨u,rfl,qM (s:={ s with heap:=h' }) e c d (by decide) ⟨x,H,I1,ru,⟨rfl,λys hy=>by rw[I.Dh hy hq];exact hx⟩,eg,λb hb=>(hf b hb).1⟩⟩
 done:=by
  intro X hP hw hK hc i pins s σ H E I hf st hg;subst hP hw hK;obtain⟨xs,hq,hx⟩:=hg;obtain⟨ao,rv,p,hz⟩:=I.tuple hq;obtain⟨f0,f1,f2,f3,f4,f5⟩:=hf it (by simp)
  have hl:=rv.length;exact wpAny_pyNext_tuple_end (I.ok.hd hc) st (show s.heap.IsTuple a ao.toArray from p) (by simp;lia) λh' eb=>⟨rfl,I.turned (t':=s.toks) (λb o hb e=>eb b o hb e) f0 f1 f3 f4 f5⟩
 self:=λ_ _ _ _ _ st h=>wpAny_pyIter_tupleiter st h
theorem Dw{P:Program}{w:World}{K:PySem.W.Frag}{tg:Expr}(it:Addr)(lo:Int)(n:Nat):Turn P w K tg (iN lo n) [it] it (λi h=>IsRangeIter h it (lo+(i:Nat)*1) ((n:Int) - (i:Nat)) 1) where
 mem:=by simp
 obj:=λi h st b hb=>by
  have e:b=it:=by simpa using hb
  subst e;exact⟨_,st,λv z=>by
   have z':Data.fields _=Data.cell v:=z;cases z'⟩
 keep:=λi h h' st k=>k it (by simp) _ st
 item:=by
  intro X hP hw hK hc i pins s σ H E I hf st hg;subst hP hw hK;obtain⟨f0,f1,f2,f3,f4,f5⟩:=hf it (by simp)
  have W:=Walks.range (prog:=X.prog) (w:=X.w) (I.ok.hd hc) it lo 1 n;refine W.item i s _ _ hg st λv h' tk hv eg kk=>?_;obtain⟨t,rfl⟩:=hv;have I1:Inv X pins σ H { s with heap:=h',toks:=tk }:=I.turned (λb o hb e=>kk b o (by simpa using hb) e) f0 f1 f3 f4 f5
  refine⟨_,rfl,qM (s:={ s with heap:=h',toks:=tk }) (n := "range_iterator") eg rfl rfl (by decide) ⟨.int (lo+i),H,I1,⟨t,?_⟩,⟨rfl,rfl⟩,eg,λb hb=>(hf b hb).1⟩⟩
  rw[Int.mul_one]
 done:=by
  intro X hP hw hK hc i pins s σ H E I hf st hg;subst hP hw hK;obtain⟨f0,f1,f2,f3,f4,f5⟩:=hf it (by simp)
  exact wpAny_pyNext_range_end (I.ok.hd hc) st (by have:n<=i:=hg;lia) λh' eb=>⟨rfl,I.turned (t':=s.toks) (λb o hb e=>eb b o hb e) f0 f1 f3 f4 f5⟩
 self:=λ_ _ _ _ _ st h=>wpAny_pyIter_rangeiter st h
section
variable{X:Cx}{tg:Expr}
noncomputable def gG(K:PySem.W.Frag)(tl:TE):TI:=λσ H R=>tl σ H λx H1=>∃a,x = .ref a/\(∃xs,au K H1 a xs)/\R (gF K a) H1
noncomputable def qN(K:PySem.W.Frag)(tl:TE):TI:=λσ H R=>tl σ H λx H1=>∃a,x = .ref a/\(∃xs,aC K H1 a xs)/\R (jB K a) H1
theorem lF{l:Expr}{tl:TE}(hl:PE X l tl):PI X tg l (gG X.K tl):=by
 intro pins s σ H R I h;refine aK (hl pins s σ H _ I h) λv s1 ⟨x,H1,I1,r1,q1⟩=>?_;obtain⟨a,e,⟨xs,hq⟩,q⟩:=q1;subst e;cases r1;obtain⟨ao,rv,p,hz⟩:=I1.list hq;refine wpAny_pyIter_list p.isList ?_;refine⟨s1.heap.objs.size,[s1.heap.objs.size],_,_,H1,rfl,I1.kept (t':=s1.toks) λb o e=>Heap.get?_push_of_some _ e,Du a _,⟨_,Heap.get?_push_size _ rfl,rfl,rfl⟩,λb hb=>?_,q⟩;have e:b=s1.heap.objs.size:=by simpa using hb
 subst e;exact I1.iM (Nat.le_refl _) (I1.aJ.fresh (Nat.le_refl _))
theorem iO{l:Expr}{tl:TE}(hl:PE X l tl):PI X tg l (qN X.K tl):=by
 intro pins s σ H R I h;refine aK (hl pins s σ H _ I h) λv s1 ⟨x,H1,I1,r1,q1⟩=>?_;obtain⟨a,e,⟨xs,hq⟩,q⟩:=q1;subst e;cases r1;obtain⟨ao,rv,p,hz⟩:=I1.tuple hq;refine wpAny_pyIter_tuple (show s1.heap.IsTuple a ao.toArray from p) ?_;refine⟨s1.heap.objs.size,[s1.heap.objs.size],_,_,H1,rfl,I1.kept (t':=s1.toks) λb o e=>Heap.get?_push_of_some _ e,Dv a _,⟨_,Heap.get?_push_size _ rfl,rfl,rfl⟩,λb hb=>?_,q⟩;have e:b=s1.heap.objs.size:=by simpa using hb
 subst e;exact I1.iM (Nat.le_refl _) (I1.aJ.fresh (Nat.le_refl _))
theorem Dy{pins:List (Addr×Obj)}{σ:St}{H:Hp}{s:Shared}{R:It->Hp->Prop}{E:Value->Shared->Prop}{lo hi:Int}{t u v:Tok}{tk:Nat}(I:Inv X pins σ H s)(h1 : -(2 ^ 62)<=lo)(h2:lo<2 ^ 62)(h3 : -(2 ^ 62)<=hi)(h4:hi<2 ^ 62)
  (q:R (iN lo (hi - lo).toNat) H):wpAny (model X.prog X.w) X.A (pyIter (.ref s.heap.objs.size)) (xT X pins σ tg R) E { s with heap:=s.heap.push { cls:=.type "range",data:=.fields #[.int lo t,.int hi u,.int 1 v] },toks:=tk }:=by
 refine wpAny_pyIter_range (IsRange.new ..) (small_one h1 h2 h3 h4) ?_;have I1:Inv X pins σ H { s with heap:=s.heap.push { cls:=.type "range",data:=.fields #[.int lo t,.int hi u,.int 1 v] },toks:=tk }:=I.kept λb o e=>Heap.get?_push_of_some _ e;refine⟨(s.heap.push { cls:=.type "range",data:=.fields #[.int lo t,.int hi u,.int 1 v] }).objs.size,[(s.heap.push { cls:=.type "range",data:=.fields #[.int lo t,.int hi u,.int 1 v] }).objs.size],_,_,H,rfl,
  I1.kept (t':=tk) λb o e=>Heap.get?_push_of_some _ e,Dw _ lo (hi - lo).toNat,?_,λb hb=>?_,q⟩
 ·have e1:lo+((0:Nat):Int)*1=lo:=by simp
  have e2:(((hi - lo).toNat:Nat):Int) - ((0:Nat):Int)=Builtin.Range.rangeSize lo hi 1:=by rw[rangeSize_one];split <;> lia
  show IsRangeIter _ _ (lo+((0:Nat):Int)*1) ((((hi - lo).toNat:Nat):Int) - ((0:Nat):Int)) 1;rw[e1,e2];exact Heap.get?_push_size _ rfl
 ·have e:b=(s.heap.push { cls:=.type "range",data:=.fields #[.int lo t,.int hi u,.int 1 v] }).objs.size:=by simpa using hb
  subst e;exact I1.iM (Nat.le_refl _) (I1.aJ.fresh (Nat.le_refl _))
noncomputable def qO(ta:TA):TI:=λσ H R=>ta σ H λvs H1=>∃j:Int,vs = [.int j]/\-(2 ^ 62)<=j/\j<2 ^ 62/\R (iN 0 j.toNat) H1
theorem qP{a:Expr}{ta:TA}{p pos:Pos}(hg:Gl X "range")(hm:X.mg "range" = none)(ha:PA X [a] ta)(hs:starEach [a] X.env = [(false,eval a X.env)]:=by rfl):PI X tg (.Call (.Name "range" p) [a] [] pos) (qO ta):=by
 intro pins s σ H R I h;refine Call_ (iJ I hg hm boot_range (PyProof.Rows.callWith_type1 (aK (ha pos pins s σ H _ I h) λus s1 ⟨vs,H1,I1,r1,q1⟩=>?_) hs rfl));obtain⟨j,e,q1,q2,q⟩:=q1;subst e;cases r1 with
 | cons r rr =>
  cases rr;obtain⟨t,rfl⟩:=r;exact call_range_1 (Dy I1 (by lia) (by lia) q1 q2 (by simpa using q))
noncomputable def eo(wi:TI)(g:TG)(tb:TS):TS:=λD σ H=>wi σ H λJ H1=>∃W:Nat->Nat->St->Hp->Prop,(∃m,W 0 m σ H1)/\∀i m σ H,W i m σ H->
 (J.stop i H/\D.nx σ H)\/(J.go i H/\∃N:St->Hp->Prop,(∀aG H',N aG H'->∃m',m' < m/\W (i+1) m' aG H')/\∀x H',J.gD i H x H'->g x σ H' λaq H2=>tb { D with nx:=N,ct:=N,bk:=D.nx } aq H2)
noncomputable def jC(fp:List Addr)(h:Heap):List (Addr×Obj):=fp.filterMap λb=>(h.get? b).map λo=>(b,o)
theorem lG{fp:List Addr}{h:Heap}{b:Addr}{o:Obj}(hb:b∈fp)(e:h.get? b=some o):(b,o)∈jC fp h:=List.mem_filterMap.mpr ⟨b,hb,by rw[e];rfl⟩
theorem Dz{fp:List Addr}{h:Heap}{p:Addr×Obj}(hp:p∈jC fp h):p.1∈fp/\h.get? p.1=some p.2:=by
 obtain⟨b,hb,e⟩:=List.mem_filterMap.mp hp;cases q:h.get? b with
 | none=>rw[q] at e;cases e
 | some o =>
  rw[q] at e;have e':(b,o)=p:=Option.some.inj e;subst e';exact⟨hb,q⟩
theorem Inv.pinned{pins:List (Addr×Obj)}{σ:St}{H:Hp}{s:Shared}{fp:List Addr}(I:Inv X pins σ H s)(hf:∀b∈fp,fH X pins H b)(ho:∀b∈fp,∃o,s.heap.get? b=some o/\∀v,o.data≠.cell v):Inv X (pins++jC fp s.heap) σ H s :=
 I.xD λp hp=>(List.mem_append.mp hp).elim (λz=>I.pin p (List.mem_append_right _ z)) λz=>by
  obtain⟨hb,e⟩:=Dz z;obtain⟨f0,f1,f2,_⟩:=hf p.1 hb;obtain⟨o,e',d⟩:=ho p.1 hb;rw[e] at e';cases e';exact⟨e,f0,f1,f2,d⟩
theorem Inv.jD{pins pl:List (Addr×Obj)}{σ:St}{H:Hp}{s:Shared}(I:Inv X (pins++pl) σ H s):Inv X pins σ H s:=I.xD λp hp=>I.pin p (List.mem_append_right _ (List.mem_append_left _ hp))
theorem jE{iter:Expr}{body:List Stmt}{wi:TI}{g:TG}{tb:TS}{pos:Pos}(hp:PassesOwn (model X.prog X.w) X.A X.env X.xe)(hc:X.calm=true)(hi:PI X tg iter wi)(hg:PG X tg g)(hb:cR X body tb)
  (hs:∀x,foldedSetIterable iter X.env x=pure x:=by intro _;rfl):PS X (.For tg iter body [] pos) (eo wi g tb):=by
 intro pins s σ H D I h;refine wpAny_For (aK (hi pins s σ H _ I h) λv s1 h1=>aK h1 λlE s2 h2=>?_) hs;obtain⟨it,fp,tn,J,H2,e,I2,T,dP,f2,W,⟨m0,w0⟩,turn⟩:=h2;subst e
 -- what stays true of the iterator's objects through the loop
 have g8:∀ {H':Hp},(∀b∈fp,H' b=none)->∀b∈fp,fH X pins H' b:=λhn b hb=>⟨hn b hb,(f2 b hb).2⟩;refine codeAny_forLoop_any (λn s'=>∃i aG H',Inv X pins aG H' s'/\tn i s'.heap/\(∀b∈fp,H' b=none)/\W i n aG H') ?_ m0 ⟨0,σ,H2,I2,dP,λb hb=>(f2 b hb).1,w0⟩;rintro n s3 ⟨i,cS,H3,I3,jF,jG,w3⟩;rcases turn i n cS H3 w3 with⟨stop,qn⟩ | ⟨go,N,hN,step⟩
 ·refine wpAny_passesOwn hp (aK (T.done X rfl rfl rfl hc i pins s3 cS H3 X.xe I3 (g8 jG) jF stop) λr s4 ⟨hr,I4⟩=>?_);subst hr;exact wpAny_execs_nil ⟨cS,H3,I4,qn⟩
 ·refine wpAny_passesOwn hp (aK (T.item X rfl rfl rfl hc i pins s3 cS H3 X.xe I3 (g8 jG) jF go) λr s4 ⟨u,hr,h4⟩=>?_);subst hr;refine wpAny_passesOwn hp (aK h4 λ_ s5 ⟨x,H5,I5,r5,y5,g9,qQ⟩=>?_);have qR:=I5.pinned (g8 qQ) (T.obj _ _ g9);refine wpAny_passesOwn hp (aK (hg _ s5 cS H5 x u _ qR r5 (step x H5 y5)) λ_ s6 ⟨gH,H6,I6,q6⟩=>?_);refine wpAny_passesOwn hp (aK (hb _ s6 gH H6 _ I6 q6) λf s7 q7=>?_);have again:∀ {dj:St} {H7:Hp},Inv X (pins++jC fp s5.heap) dj H7 s7->N dj H7->∃m,m<n/\∃i aG H',Inv X pins aG H' s7/\tn i s7.heap/\(∀b∈fp,H' b=none)/\W i m aG H':=λ{dj H7} I7 n7=>by
   obtain⟨m',hm,w7⟩:=hN dj H7 n7;refine⟨m',hm,i+1,dj,H7,I7.jD,T.keep _ _ _ g9 λb hb o e=>(I7.pin (b,o) (List.mem_append_right _ (List.mem_append_right _ (lG hb e)))).1,λb hb=>?_,w7⟩;obtain⟨o,e,d⟩:=T.obj _ _ g9 b hb;exact(I7.pin (b,o) (List.mem_append_right _ (List.mem_append_right _ (lG hb e)))).2.1
  cases f with
  | next=>obtain⟨dj,H7,I7,n7⟩:=q7;exact again I7 n7
  | cont=>obtain⟨dj,H7,I7,n7⟩:=q7;exact again I7 n7
  | brk=>obtain⟨dj,H7,I7,q7⟩:=q7;exact⟨dj,H7,I7.jD,q7⟩
  | ret v=>obtain⟨x7,dj,H7,I7,r7,q7⟩:=q7;exact⟨x7,dj,H7,I7.jD,r7,q7⟩
end
theorem xU{K:PySem.W.Frag}{a:Addr}{xs:List V}{g:TG}{tb:TS}{D:Ends}{σ:St}{H:Hp}(Pv:Nat->St->Hp->Prop)(h0:Pv 0 σ H)(hl:∀i σ H,i<=xs.length->Pv i σ H->au K H a xs)
  (hs:∀i x σ H,xs[i]? = some x->Pv i σ H->g x σ H λaq H2=>tb { D with nx:=Pv (i+1),ct:=Pv (i+1),bk:=D.nx } aq H2) (hd:∀σ H,Pv xs.length σ H->D.nx σ H) :
  ∃W:Nat->Nat->St->Hp->Prop,(∃m,W 0 m σ H)/\∀i m σ H,W i m σ H->
   ((gF K a).stop i H/\D.nx σ H)\/((gF K a).go i H/\∃N:St->Hp->Prop,(∀aG H',N aG H'->∃m',m' < m/\W (i+1) m' aG H')/\∀x H',(gF K a).gD i H x H'->g x σ H' λaq H2=>tb { D with nx:=N,ct:=N,bk:=D.nx } aq H2):=by
 refine⟨λi m σ H=>m=xs.length - i/\i<=xs.length/\Pv i σ H,⟨xs.length,by simp,Nat.zero_le _,h0⟩,?_⟩
 rintro i m σ H ⟨rfl,hi,p⟩;have q:=hl i σ H hi p;by_cases bD:i<xs.length
 ·refine .inr ⟨⟨xs,xs[i],q,by simp[bD]⟩,Pv (i+1),λaG H' p'=>⟨xs.length - (i+1),by lia,rfl,bD,p'⟩,λx H' y=>?_⟩
  obtain⟨e,y⟩:=y;subst e;exact hs i x σ _ (y xs q) p
 ·have e:i=xs.length:=by lia
  subst e;exact .inl ⟨⟨xs,q,Nat.le_refl _⟩,hd σ H p⟩
theorem DA{K:PySem.W.Frag}{a:Addr}{xs:List V}{g:TG}{tb:TS}{D:Ends}{σ:St}{H:Hp}(Pv:Nat->St->Hp->Prop)(h0:Pv 0 σ H)(hl:∀i σ H,i<=xs.length->Pv i σ H->aC K H a xs)
  (hs:∀i x σ H,xs[i]? = some x->Pv i σ H->g x σ H λaq H2=>tb { D with nx:=Pv (i+1),ct:=Pv (i+1),bk:=D.nx } aq H2) (hd:∀σ H,Pv xs.length σ H->D.nx σ H) :
  ∃W:Nat->Nat->St->Hp->Prop,(∃m,W 0 m σ H)/\∀i m σ H,W i m σ H->
   ((jB K a).stop i H/\D.nx σ H)\/((jB K a).go i H/\∃N:St->Hp->Prop,(∀aG H',N aG H'->∃m',m' < m/\W (i+1) m' aG H')/\∀x H',(jB K a).gD i H x H'->g x σ H' λaq H2=>tb { D with nx:=N,ct:=N,bk:=D.nx } aq H2):=by
 refine⟨λi m σ H=>m=xs.length - i/\i<=xs.length/\Pv i σ H,⟨xs.length,by simp,Nat.zero_le _,h0⟩,?_⟩
 rintro i m σ H ⟨rfl,hi,p⟩;have q:=hl i σ H hi p;by_cases bD:i<xs.length
 ·refine .inr ⟨⟨xs,xs[i],q,by simp[bD]⟩,Pv (i+1),λaG H' p'=>⟨xs.length - (i+1),by lia,rfl,bD,p'⟩,λx H' y=>?_⟩
  obtain⟨e,y⟩:=y;subst e;exact hs i x σ _ (y xs q) p
 ·have e:i=xs.length:=by lia
  subst e;exact .inl ⟨⟨xs,q,Nat.le_refl _⟩,hd σ H p⟩
theorem DB{lo:Int}{n:Nat}{g:TG}{tb:TS}{D:Ends}{σ:St}{H:Hp}(Pv:Nat->St->Hp->Prop)(h0:Pv 0 σ H)
  (hs:∀i σ H,i<n->Pv i σ H->g (.int (lo+i)) σ H λaq H2=>tb { D with nx:=Pv (i+1),ct:=Pv (i+1),bk:=D.nx } aq H2) (hd:∀σ H,Pv n σ H->D.nx σ H) :
  ∃W:Nat->Nat->St->Hp->Prop,(∃m,W 0 m σ H)/\∀i m σ H,W i m σ H->
   ((iN lo n).stop i H/\D.nx σ H)\/((iN lo n).go i H/\∃N:St->Hp->Prop,(∀aG H',N aG H'->∃m',m' < m/\W (i+1) m' aG H')/\∀x H',(iN lo n).gD i H x H'->g x σ H' λaq H2=>tb { D with nx:=N,ct:=N,bk:=D.nx } aq H2):=by
 refine⟨λi m σ H=>m=n - i/\i<=n/\Pv i σ H,⟨n,by simp,Nat.zero_le _,h0⟩,?_⟩
 rintro i m σ H ⟨rfl,hi,p⟩;by_cases bD:i<n
 ·refine .inr ⟨bD,Pv (i+1),λaG H' p'=>⟨n - (i+1),by lia,rfl,bD,p'⟩,λx H' y=>?_⟩
  obtain⟨e,y⟩:=y;subst e y;exact hs i σ _ bD p
 ·have e:i=n:=by lia
  subst e;exact .inl ⟨Nat.le_refl _,hd σ H p⟩
noncomputable abbrev R2:=V->V->Hp->VK->Prop
noncomputable def bU(X:Cx)(f:Value->Value->Sem Value)(r:R2):Prop :=
 ∀(pins:List (Addr×Obj)) (s:Shared) (σ:St) (H:Hp) (x y:V) (v u:Value) (Q:VK),Inv X pins σ H s->RelV x v->RelV y u->r x y H Q->
  wpAny (model X.prog X.w) X.A (f v u) (EP X pins σ Q) X.xe s
noncomputable def qT(X:Cx)(f:Value->Sem Value)(r:V->Hp->VK->Prop):Prop :=
 ∀(pins:List (Addr×Obj)) (s:Shared) (σ:St) (H:Hp) (x:V) (v:Value) (Q:VK),Inv X pins σ H s->RelV x v->r x H Q->
  wpAny (model X.prog X.w) X.A (f v) (EP X pins σ Q) X.xe s
noncomputable def fJ(X:Cx)(f:Value)(r:List V->Hp->VK->Prop):Prop :=
 ∀(pins:List (Addr×Obj)) (s:Shared) (σ:St) (H:Hp) (xs:List V) (us:List Value) (Q:VK),Inv X pins σ H s->Vals xs us->r xs H Q->
  wpAny (model X.prog X.w) X.A (call f us) (EP X pins σ Q) X.xe s
noncomputable def DC(X:Cx)(r:V->Hp->(Bool->Hp->Prop)->Prop):Prop :=
 ∀(pins:List (Addr×Obj)) (s:Shared) (σ:St) (H:Hp) (x:V) (v:Value) (Q:Bool->Hp->Prop),Inv X pins σ H s->RelV x v->r x H Q->
  wpAny (model X.prog X.w) X.A (truthy v) (TP X pins σ Q) X.xe s
noncomputable def lH(r:R2)(ta tb:TE):TE:=λσ H Q=>ta σ H λx H1=>tb σ H1 λy H2=>r x y H2 Q
noncomputable def DE(r:V->Hp->VK->Prop)(ta:TE):TE:=λσ H Q=>ta σ H λx H1=>r x H1 Q
noncomputable def rI(C:Int->Int->Prop)(g:Int->Int->V):R2:=λx y H Q=>∃i j,x = .int i/\y = .int j/\C i j/\Q (g i j) H
noncomputable def iP(g:Int->Int->V):R2:=λx y H Q=>∃i j,x = .int i/\y = .int j/\Q (g i j) H
noncomputable def rU(g:Int->V):V->Hp->VK->Prop:=λx H Q=>∃i,x = .int i/\Q (g i) H
section
variable{X:Cx}{a b c:Expr}{ta tb tc:TE}{pos:Pos}
theorem qU(ha:PE X a ta)(hb:PE X b tb){pins:List (Addr×Obj)}{s:Shared}{σ:St}{H:Hp}{R:V->V->Hp->Prop}(I:Inv X pins σ H s)
  (h:ta σ H λx H1=>tb σ H1 λy H2=>R x y H2) {Q:Value->Shared->Prop} {f:Value->Value->Sem Value}
  (hf:∀v u s2 x y H2,Inv X pins σ H2 s2->RelV x v->RelV y u->R x y H2->wpAny (model X.prog X.w) X.A (f v u) Q X.xe s2) :
  wpAny (model X.prog X.w) X.A (eval a X.env) (λv aQ=>wpAny (model X.prog X.w) X.A (eval b X.env) (λu f9=>wpAny (model X.prog X.w) X.A (f v u) Q X.xe f9) X.xe aQ) X.xe s:=by
 refine aK (ha pins s σ H _ I h) λv s1 ⟨x,H1,I1,r1,q1⟩=>?_;refine aK (hb pins s1 σ H1 _ I1 q1) λu s2 ⟨y,H2,I2,r2,q2⟩=>?_;exact hf v u s2 x y H2 I2 r1 r2 q2
theorem aL{op:Operator}{r:R2}(ho:bU X (binaryOp op) r)(ha:PE X a ta)(hb:PE X b tb):PE X (.BinOp a op b pos) (lH r ta tb):=by
 intro pins s σ H Q I h;exact wpAny_BinOp (qU ha hb I h λv u s2 x y H2 I2 rx ry q=>ho pins s2 σ H2 x y v u Q I2 rx ry q)
theorem DF{op:UnaryOp}{r:V->Hp->VK->Prop}(ho:qT X (unaryOp op) r)(ha:PE X a ta):PE X (.UnaryOp op a pos) (DE r ta):=by
 intro pins s σ H Q I h;exact UnaryOp_ (aK (ha pins s σ H _ I h) λv s1 ⟨x,H1,I1,r1,q1⟩=>ho pins s1 σ H1 x v Q I1 r1 q1)
theorem lI{f:Value->Value->Sem Value}{C:Int->Int->Prop}{g:Int->Int->Int}
  (rule:∀(i j:Int) (t u:Tok) (s:Shared) (Q:Value->Shared->Prop) (E:Value->Shared->Prop),C i j->Q (.int (g i j) s.toks) { s with toks:=s.toks+1 }->wpAny (model X.prog X.w) X.A (f (.int i t) (.int j u)) Q E s) :
  bU X f (rI C λi j=>.int (g i j)):=by
 intro pins s σ H x y v u Q I rx ry h;obtain⟨i,j,rfl,rfl,hc,q⟩:=h;obtain⟨t,rfl⟩:=rx;obtain⟨t',rfl⟩:=ry;exact rule i j t t' s _ _ hc ⟨.int (g i j),H,I.tok _,⟨_,rfl⟩,q⟩
theorem xV{f:Value->Value->Sem Value}{g:Int->Int->Int}
  (rule:∀(i j:Int) (t u:Tok) (s:Shared) (Q:Value->Shared->Prop) (E:Value->Shared->Prop),Q (.int (g i j) s.toks) { s with toks:=s.toks+1 }->wpAny (model X.prog X.w) X.A (f (.int i t) (.int j u)) Q E s) :
  bU X f (iP λi j=>.int (g i j)):=by
 intro pins s σ H x y v u Q I rx ry h;obtain⟨i,j,rfl,rfl,q⟩:=h;obtain⟨t,rfl⟩:=rx;obtain⟨t',rfl⟩:=ry;exact rule i j t t' s _ _ ⟨.int (g i j),H,I.tok _,⟨_,rfl⟩,q⟩
theorem xW{f:Value->Value->Sem Value}{g:Int->Int->Bool}
  (rule:∀(i j:Int) (t u:Tok) (s:Shared) (Q:Value->Shared->Prop) (E:Value->Shared->Prop),Q (.bool (g i j)) s->wpAny (model X.prog X.w) X.A (f (.int i t) (.int j u)) Q E s) :
  bU X f (iP λi j=>.bl (g i j)):=by
 intro pins s σ H x y v u Q I rx ry h;obtain⟨i,j,rfl,rfl,q⟩:=h;obtain⟨t,rfl⟩:=rx;obtain⟨t',rfl⟩:=ry;exact rule i j t t' s _ _ ⟨.bl (g i j),H,I,rfl,q⟩
noncomputable def DG(i j:Int):Prop:=0<j/\j<1073741824
noncomputable def DH(i j:Int):Prop:=0<=j/\j<=1000000/\i.natAbs<2 ^ 64
noncomputable def qV(i j:Int):Prop:=(-(2 ^ 64)<i/\i<2 ^ 64)\/(-(2 ^ 64)<j/\j<2 ^ 64)
theorem qV.ok{i j:Int}(h:qV i j):IntMulOk i j:=by
 rcases h with⟨h1,h2⟩ | ⟨h1,h2⟩
 ·exact .of_left (intBits_le_64 h1 h2)
 ·exact .of_right (intBits_le_64 h1 h2)
theorem cN:bU X (binaryOp .Add) (iP λi j=>.int (i+j)):=xV λ_ _ _ _ _ _ _ q=>add_int q
theorem DI:bU X (binaryOp .Sub) (iP λi j=>.int (i - j)):=xV λ_ _ _ _ _ _ _ q=>sub_int q
theorem jH:bU X (binaryOp .Mult) (rI qV λi j=>.int (i*j)):=lI λ_ _ _ _ _ _ _ hc q=>mul_int q hc.ok
theorem DJ:bU X (binaryOp .FloorDiv) (rI DG λi j=>.int (i / j)):=lI λi j _ _ _ _ _ hc q=>by
 have h1:(0:Int)<j:=hc.1;have h2:j<1073741824:=hc.2;exact floordiv_int (by lia) (by rw[Int.fdiv_eq_ediv_of_nonneg i (by lia)];exact q) (.inl (PyProof.noPylong_small (by lia)))
theorem bY:bU X (binaryOp .Mod) (rI (λ_ j=>0<j) λi j=>.int (i % j)):=lI λi j _ _ _ _ _ hc q=>by
 have h1:(0:Int)<j:=hc;exact mod_int' (by lia) (by rw[Int.fmod_eq_emod_of_nonneg i (by lia)];exact q)
theorem g_:bU X (binaryOp .Pow) (rI DH λi j=>.int (i ^ j.toNat)):=lI λ_ _ _ _ _ _ _ hc q=>pow_int_small hc.1 hc.2.1 hc.2.2 q
theorem DK{f:Value->Sem Value}{g:Int->Int}
  (rule:∀(i:Int) (t:Tok) (s:Shared) (Q:Value->Shared->Prop) (E:Value->Shared->Prop),Q (.int (g i) s.toks) { s with toks:=s.toks+1 }->wpAny (model X.prog X.w) X.A (f (.int i t)) Q E s) :
  qT X f (rU λi=>.int (g i)):=by
 intro pins s σ H x v Q I rx h;obtain⟨i,rfl,q⟩:=h;obtain⟨t,rfl⟩:=rx;exact rule i t s _ _ ⟨.int (g i),H,I.tok _,⟨_,rfl⟩,q⟩
theorem DL:qT X (unaryOp .USub) (rU λi=>.int (-i)):=DK λ_ _ _ _ _ q=>neg_int q
end
noncomputable def eT:V->V->Bool
 | .aB,.aB=>true | .aB,.int _=>true | .int _,.aB=>true | .aB,.bl _=>true | .bl _,.aB=>true | .aB,.str _=>true | .str _,.aB=>true
 | .int _,.int _=>true | .bl _,.bl _=>true | .str _,.str _=>true | .cM _,.cM _=>true
 | .int _,.str _=>true | .str _,.int _=>true | .bl _,.str _=>true | .str _,.bl _=>true
 | _,_=>false
noncomputable def DM:R2:=λx y H Q=>eT x y=true/\Q (.bl (decide (x=y))) H
noncomputable def DN:R2:=λx y H Q=>eT x y=true/\Q (.bl (!decide (x=y))) H
theorem xX{i j:Int}:decide (V.int i=V.int j)=(i == j):=by
 rw[Bool.eq_iff_iff];simp
theorem xY{i j:Bool}:decide (V.bl i=V.bl j)=(i == j):=by
 rw[Bool.eq_iff_iff];simp
theorem xZ{i j:Str}:decide (V.str i=V.str j)=(i == j):=by
 rw[Bool.eq_iff_iff];simp
theorem x8{i j:Array UInt8}:decide (V.cM i=V.cM j)=(i.toList == j.toList):=by
 rw[Bool.eq_iff_iff];cases i;cases j;simp
section
variable{X:Cx}{a b c:Expr}{ta tb tc:TE}{pos:Pos}
theorem bB{pins:List (Addr×Obj)}{σ:St}{H:Hp}{s:Shared}{Q:VK}{k k':Bool}(I:Inv X pins σ H s)(q:Q (.bl k) H)(e:k=k'):EP X pins σ Q (.bool k') s:=by
 subst e;exact⟨.bl k,H,I,rfl,q⟩
theorem cE:bU X (compareOp .Eq) DM:=by
 intro pins s σ H x y v u Q I rx ry h;obtain⟨hs,q⟩:=h;cases x with
 | aB =>
  cases rx;cases y with
  | aB=>cases ry;exact PySem.EqNone.eq_none_none (bB I q (by simp))
  | bl j=>cases ry;exact PySem.EqNone.eq_none_bool (bB I q (by simp))
  | int j=>obtain⟨t',rfl⟩:=ry;exact PySem.EqNone.eq_none_int (bB I q (by simp))
  | str j=>obtain⟨t',rfl⟩:=ry;exact PySem.EqNone.eq_none_str (bB I q (by simp))
  | _=>exact absurd (show false=true from hs) Bool.false_ne_true
 | bl i =>
  cases rx;cases y with
  | aB=>cases ry;exact PySem.EqNone.eq_bool_none (bB I q (by simp))
  | bl j=>cases ry;exact eq_bool (bB I q xY)
  | str j=>obtain⟨t',rfl⟩:=ry;exact PySem.EqMixed.eq_bool_str (bB I q (by simp))
  | _=>exact absurd (show false=true from hs) Bool.false_ne_true
 | int i =>
  obtain⟨t,rfl⟩:=rx;cases y with
  | aB=>cases ry;exact PySem.EqNone.eq_int_none (bB I q (by simp))
  | int j=>obtain⟨t',rfl⟩:=ry;exact eq_int (bB I q xX)
  | str j=>obtain⟨t',rfl⟩:=ry;exact PySem.EqMixed.eq_int_str (bB I q (by simp))
  | _=>exact absurd (show false=true from hs) Bool.false_ne_true
 | str i =>
  obtain⟨t,rfl⟩:=rx;cases y with
  | aB=>cases ry;exact PySem.EqNone.eq_str_none (bB I q (by simp))
  | bl j=>cases ry;exact PySem.EqMixed.eq_str_bool (bB I q (by simp))
  | int j=>obtain⟨t',rfl⟩:=ry;exact PySem.EqMixed.eq_str_int (bB I q (by simp))
  | str j=>obtain⟨t',rfl⟩:=ry;exact eq_str (bB I q xZ)
  | _=>exact absurd (show false=true from hs) Bool.false_ne_true
 | cM i =>
  obtain⟨t,rfl⟩:=rx;cases y with
  | cM j=>obtain⟨t',rfl⟩:=ry;exact PySem.W.eq_bytes (bB I q x8)
  | _=>exact absurd (show false=true from hs) Bool.false_ne_true
 | _=>cases y <;> exact absurd (show false=true from hs) Bool.false_ne_true
theorem eU:bU X (compareOp .NotEq) DN:=by
 intro pins s σ H x y v u Q I rx ry h;obtain⟨hs,q⟩:=h;cases x with
 | aB =>
  cases rx;cases y with
  | aB=>cases ry;exact PySem.EqNone.ne_none_none (bB I q (by simp))
  | bl j=>cases ry;exact PySem.EqNone.ne_none_bool (bB I q (by simp))
  | int j=>obtain⟨t',rfl⟩:=ry;exact PySem.EqNone.ne_none_int (bB I q (by simp))
  | str j=>obtain⟨t',rfl⟩:=ry;exact PySem.EqNone.ne_none_str (bB I q (by simp))
  | _=>exact absurd (show false=true from hs) Bool.false_ne_true
 | bl i =>
  cases rx;cases y with
  | aB=>cases ry;exact PySem.EqNone.ne_bool_none (bB I q (by simp))
  | bl j=>cases ry;exact ne_bool (bB I q (congrArg not xY))
  | str j=>obtain⟨t',rfl⟩:=ry;exact PySem.EqMixed.ne_bool_str (bB I q (by simp))
  | _=>exact absurd (show false=true from hs) Bool.false_ne_true
 | int i =>
  obtain⟨t,rfl⟩:=rx;cases y with
  | aB=>cases ry;exact PySem.EqNone.ne_int_none (bB I q (by simp))
  | int j=>obtain⟨t',rfl⟩:=ry;exact ne_int (bB I q (congrArg not xX))
  | str j=>obtain⟨t',rfl⟩:=ry;exact PySem.EqMixed.ne_int_str (bB I q (by simp))
  | _=>exact absurd (show false=true from hs) Bool.false_ne_true
 | str i =>
  obtain⟨t,rfl⟩:=rx;cases y with
  | aB=>cases ry;exact PySem.EqNone.ne_str_none (bB I q (by simp))
  | bl j=>cases ry;exact PySem.EqMixed.ne_str_bool (bB I q (by simp))
  | int j=>obtain⟨t',rfl⟩:=ry;exact PySem.EqMixed.ne_str_int (bB I q (by simp))
  | str j=>obtain⟨t',rfl⟩:=ry;exact ne_str (bB I q (congrArg not xZ))
  | _=>exact absurd (show false=true from hs) Bool.false_ne_true
 | cM i =>
  obtain⟨t,rfl⟩:=rx;cases y with
  | cM j=>obtain⟨t',rfl⟩:=ry;exact PySem.W.ne_bytes (bB I q (congrArg not x8))
  | _=>exact absurd (show false=true from hs) Bool.false_ne_true
 | _=>cases y <;> exact absurd (show false=true from hs) Bool.false_ne_true
theorem lJ:bU X (compareOp .Lt) (iP λi j=>.bl (decide (i<j))):=xW λ_ _ _ _ _ _ _ q=>lt_int q
theorem x9:bU X (compareOp .Gt) (iP λi j=>.bl (decide (j<i))):=xW λ_ _ _ _ _ _ _ q=>gt_int q
theorem DO:bU X (compareOp .In) (λx y H Q=>∃i j,x = .str i/\y = .str j/\Q (.bl (!(Builtin.Str.occurrences j i 0 j.length 1).isEmpty)) H):=by
 intro pins s σ H x y v u Q I rx ry h;obtain⟨i,j,rfl,rfl,q⟩:=h;obtain⟨t,rfl⟩:=rx;obtain⟨t',rfl⟩:=ry;exact in_str (bB I q rfl)
theorem x_:bU X (compareOp .Is) (λx y H Q=>y = .aB/\Q (.bl (decide (x = .aB))) H):=by
 intro pins s σ H x y v u Q I rx ry h;obtain⟨rfl,q⟩:=h;cases ry;refine is_none_gen (bB I q ?_);cases x <;> first
  | (cases rx;rfl)
  | (obtain⟨t,rfl⟩:=rx;rfl)
theorem iQ:bU X (compareOp .IsNot) (λx y H Q=>y = .aB/\Q (.bl (!decide (x = .aB))) H):=by
 intro pins s σ H x y v u Q I rx ry h;obtain⟨rfl,q⟩:=h;cases ry;refine isnot_none_gen (bB I q ?_);cases x <;> first
  | (cases rx;rfl)
  | (obtain⟨t,rfl⟩:=rx;rfl)
theorem aR(b:Expr){op:CmpOp}(h:op≠.In:=by decide)(h2:op≠.NotIn:=by decide):behindInMarks op b=false:=by
 have e1:(op == CmpOp.In)=false:=by cases op <;> first | rfl | exact absurd rfl h
 have e2:(op == CmpOp.NotIn)=false:=by cases op <;> first | rfl | exact absurd rfl h2
 cases b <;> simp[behindInMarks,e1,e2]
theorem h_{op:CmpOp}{r:R2}(ho:bU X (compareOp op) r)(ha:PE X a ta)(hb:PE X b tb)(hm:behindInMarks op b=false):PE X (.Compare a [op] [b] pos) (lH r ta tb):=by
 intro pins s σ H Q I h;exact wpAny_Compare1 (qU ha hb I h λv u s2 x y H2 I2 rx ry q=>ho pins s2 σ H2 x y v u Q I2 rx ry q) hm
noncomputable def DP(t:TE):TT:=λσ H Q=>t σ H λx H'=>∃k,x = .bl k/\Q k H'
theorem a_{op:CmpOp}{r:R2}(ho:bU X (compareOp op) r)(ha:PE X a ta)(hb:PE X b tb)(hm:behindInMarks op b=false):PT X (.Compare a [op] [b] pos) (DP (lH r ta tb)):=by
 intro pins s σ H Q I h;refine wpAny_isTrue_Compare1 (aK (ha pins s σ H _ I h) λv s1 ⟨x,H1,I1,r1,q1⟩=>aK (hb pins s1 σ H1 _ I1 q1) λu s2 ⟨y,H2,I2,r2,q2⟩ =>
  aK (ho pins s2 σ H2 x y v u _ I2 r1 r2 q2) λc s3 ⟨z,H3,I3,r3,k,e,q3⟩=>?_) hm
 subst e;cases r3;exact wpAny_truthy_bool ⟨H3,I3,q3⟩
noncomputable def Nf(r r':R2)(ta tb tc:TE):TE:=λσ H Q=>ta σ H λx H1=>tb σ H1 λy H2=>r x y H2 λz H3=>∃k,z = .bl k/\
 (if k=true then tc σ H3 λw' H4=>r' y w' H4 Q else Q (.bl false) H3)
noncomputable def qW(K:PySem.W.Frag)(x:V)(H:Hp)(k:Bool):Prop :=
 match x with
 | .aB=>k=false
 | .bl b=>k=b
 | .int i=>k=(i != 0)
 | .str y=>y.length<=sizeLine/\k=((y.length:Int) != 0)
 | .cM y=>y.size<=sizeLine/\k=((y.size:Int) != 0)
 | .ref p=>(∃xs,au K H p xs/\k = !xs.isEmpty)\/(∃xs,aC K H p xs/\k = !xs.isEmpty)\/∃aN,H p=some (.dK aN)/\k = !aN.isEmpty
 | _=>False
theorem DQ{κ:Type}{aN:List (κ×V)}{vs:List (κ×Value)}(r:KV aN vs):(!vs.isEmpty) = !aN.isEmpty:=by
 cases r <;> rfl
theorem ya{xs:List V}{ao:List Value}(r:Vals xs ao):(!ao.toArray.isEmpty) = !xs.isEmpty:=by
 cases r <;> simp
theorem iR:(sizeLine:Nat)<2 ^ 63:=by rw[sizeLine_eq];decide
theorem DR:DC X (λx H Q=>∃k,qW X.K x H k/\Q k H):=by
 intro pins s σ H x v Q I rx h;obtain⟨k,e,q⟩:=h;have hl:=iR;have hs:sizeLine=16777216:=sizeLine_eq;cases x with
 | aB =>
  cases rx;have e':k=false:=e;subst e';exact truthy_none ⟨H,I,q⟩
 | bl b =>
  cases rx;have e':k=b:=e;subst e';exact wpAny_truthy_bool ⟨H,I,q⟩
 | int i =>
  obtain⟨t,rfl⟩:=rx;have e':k=(i != 0):=e;subst e';exact PySem.P.truthy_int ⟨H,I,q⟩
 | str y =>
  obtain⟨t,rfl⟩:=rx;obtain⟨hy,e'⟩:y.length<=sizeLine/\k=((y.length:Int) != 0):=e;subst e';exact PySem.P.truthy_str (by lia) ⟨H,I.tok _,q⟩
 | cM y =>
  obtain⟨t,rfl⟩:=rx;obtain⟨hy,e'⟩:y.size<=sizeLine/\k=((y.size:Int) != 0):=e;subst e';exact PySem.W.truthy_bytes (by lia) ⟨H,I.tok _,q⟩
 | ref p =>
  cases rx;have e':(∃xs,au X.K H p xs/\k = !xs.isEmpty)\/(∃xs,aC X.K H p xs/\k = !xs.isEmpty)\/∃aN,H p=some (.dK aN)/\k = !aN.isEmpty:=e;rcases e' with⟨xs,hx,e'⟩ | ⟨xs,hx,e'⟩ | ⟨aN,hx,e'⟩
  ·subst e';obtain⟨ao,r,pl,hz⟩:=I.list hx;have hlen:=r.length;exact wpAny_truthy_list pl.isList (by simp only[List.size_toArray];lia) ⟨H,I.tok _,by rw[ya r];exact q⟩
  ·subst e';obtain⟨ao,r,pl,hz⟩:=I.tuple hx;have hlen:=r.length;exact truthy_tuple pl (by simp only[List.size_toArray];lia) ⟨H,I.tok _,by rw[ya r];exact q⟩
  ·subst e';obtain⟨hz,hS,vs,r,m⟩:aN.length<=sizeLine/\(p == sysModules)=false/\∃vs,KV aN vs/\s.heap.DictOf (qE X.prog X.w) p vs:=I.aJ p _ hx;have hlen:aN.length=vs.length:=Paired.length r;exact wpAny_truthy_dict hS m (by lia) ⟨H,I.tok _,by rw[DQ r];exact q⟩
 | _=>exact(show False from e).elim
theorem DS(ha:PE X a ta)(he:∀whole,isTrue a X.env whole=(do let v ← whole;standAt a.pos;holding [v] (truthy v))) :
  PT X a (λσ H Q=>ta σ H λx H'=>∃k,qW X.K x H' k/\Q k H'):=by
 intro pins s σ H Q I h;exact isTrue_plain (aK (ha pins s σ H _ I h) λv s1 ⟨x,H1,I1,r1,q1⟩=>DR pins s1 σ H1 x v Q I1 r1 q1) (he _)
theorem vals1{x:V}{us:List Value}(r:Vals [x] us):∃u,us = [u]/\RelV x u:=by
 cases r with
 | cons r1 r2=>cases r2;exact⟨_,rfl,r1⟩
theorem vals2{x y:V}{us:List Value}(r:Vals [x,y] us):∃u w',us = [u,w']/\RelV x u/\RelV y w':=by
 cases r with
 | cons r1 r2 =>
  cases r2 with
  | cons r3 r4=>cases r4;exact⟨_,_,rfl,r1,r3⟩
theorem eV:fJ X (.type "str") (λxs H Q=>∃i,xs = [.int i]/\i.natAbs.log2<1920/\Q (.str (toString i)) H):=by
 intro pins s σ H xs us Q I r h;obtain⟨i,rfl,hz,q⟩:=h;obtain⟨u,rfl,t,rfl⟩:=vals1 r;exact PySem.P.str_of_int hz ⟨.str _,H,I.tok _,⟨_,rfl⟩,q⟩
end
structure ia(h:Heap)(x dx C:Addr)(mA:Str->Option Value):Prop where
 obj:h.get? x=some (PySem.W.instObj C dx)
 ns:h.Ns1 dx mA
 ne:dx≠x
theorem DT{h:Heap}{dx:Addr}{mA:Str->Option Value}(n:h.Ns1 dx mA):∃od,h.get? dx=some od/\∀name,PySem.W.lookIn name od=some (mA name):=by
 obtain⟨o,es,ep,ho,hd,hk,_,hm⟩:=n;refine⟨o,ho,λname=>?_⟩
 have e:=hm name;unfold nsFind findBy at e;rw[← Array.find?_toList] at e;unfold PySem.W.lookIn;rw[hd];dsimp only;split
 ·rename_i y q;rw[q] at e;exact congrArg some e
 ·rename_i q;rw[q] at e;have a:es.toList.any (·.refKey)=false:=by
   rw[List.any_eq_false];intro y hy;obtain⟨z,t,jI⟩:=hk y (Array.mem_toList_iff.mp hy);simp[DictEntry.refKey,jI]
  have a':¬ es.toList.any (·.refKey)=true:=by rw[a];exact Bool.false_ne_true
  rw[if_neg a'];exact congrArg some e
theorem ia.look{h:Heap}{x dx C:Addr}{mA:Str->Option Value}(I:ia h x dx C mA):∃od,PySem.W.InstAt h x (PySem.W.instObj C dx) C (some od)/\∀name,PySem.W.lookIn name od=some (mA name) :=
 let ⟨od,ho,hl⟩:=DT I.ns
 ⟨od,⟨I.obj,rfl,rfl,ho⟩,hl⟩
section
variable{prog:Program}{w:World}{A:Around}{E:Value->Shared->Prop}{s:Shared}{K:PySem.W.Frag}{x dx C f:Addr}{mA:Str->Option Value}{name:Str}{v:Value}
theorem get_map{expr:Bool}{Q:Value->Shared->Prop}(X:K.In s.heap)(I:ia s.heap x dx C mA)(hg:PySem.W.plainGet K C name=true)(hh:PySem.W.hasDictIn K C=true)
  (ha:PySem.W.findIn K (.ref C) name=some none) (hv:mA name=some v) (DU:PySem.W.handedIn v=true) (h:Q v { s with toks:=s.toks+1 }) :
  wpAny (model prog w) A (getAttr (.ref x) name expr) Q E s:=by
 obtain⟨od,J,hl⟩:=I.look;exact PySem.W.get_value X J (PySem.W.plainGet_of hg).1 (PySem.W.findObj_own hh ha rfl (by rw[hl,hv])) DU h
theorem DV{pl:Sem Bool}{Q:Value×List Value->Shared->Prop}(X:K.In s.heap)(I:ia s.heap x dx C mA)(hg:PySem.W.plainGet K C name=true)
  (hf:PySem.W.findIn K (.ref C) name=some (some (.ref f))) (ht:PySem.W.isFn K (.ref f)=true) (hv:mA name=none) (h:Q (.ref f,[.ref x]) s) :
  wpAny (model prog w) A (getMethod (.ref x) name pl) Q E s:=by
 obtain⟨od,J,hl⟩:=I.look;exact PySem.W.method_fn X J (PySem.W.plainGet_of hg).1 (PySem.W.plainGet_of hg).2 hf (beq_iff_eq.mp ht) (by show (PySem.W.lookIn name od).map (·.isSome)=some false;rw[hl,hv];rfl) h
theorem DW{ns:List Str}{Q:Unit->Shared->Prop}(X:K.In s.heap)(I:ia s.heap x dx C mA)
  (hs:PySem.W.findIn K (.ref C) "__setattr__" = some (some (.builtin "object.__setattr__"))) (hp:PySem.W.plainOver K C=true) (ht:PySem.W.takerIn K C name=some none) (hh:PySem.W.hasDictIn K C=true)
  (hw:PySem.Within mA ns) (iS:ns.length<=sizeLine)
  (h:∀h',ia h' x dx C (λy=>if y=name then some v else mA y)->Heap.SameBut dx s.heap h'->Q () { s with heap:=h',toks:=s.toks+2 }) :
  wpAny (model prog w) A (setAttr (.ref x) name v) Q E s:=by
 obtain⟨od,J,hl⟩:=I.look;refine PySem.W.set_plain X J hs (PySem.W.osa_open (s:={ s with toks:=s.toks+1 }) (r:=none) X J hp ht λb=>?_)
 obtain⟨cd,hc,qH⟩:=PySem.W.any_some hh;have hx:s.heap.get? x=some ⟨.ref C,some dx,.plain,#[]⟩:=I.obj;refine wpAny_bind (wpAny_pure (wpAny_bind (wpAny_bind (wpAny_loadPart hx (wpAny_bind (PySem.W.Looks.here (s:={ s with toks:=s.toks+1 }) (PySem.W.looks_clsIn X hc) ?_))))));rw[qH];refine wpAny_pure (a:=some dx) (wpAny_bind (wpAny_pure (wpAny_bind ?_)));refine wpAny_nsSet1 (s:={ s with toks:=s.toks+1 }) I.ns λh' jJ yc=>?_;obtain⟨oD,Ng,Nh,DX,DY,DZ⟩:=jJ.count (PySem.Within.cons name v hw);refine wpAny_bind (wpAny_lookBehind DX (by rw[DY];exact pastItsLine_dict (Nat.le_trans DZ (by rw[List.length_cons];lia))) ?_)
 exact wpAny_pure (h _ ⟨(yc.2 _ (Ne.symm I.ne)).trans I.obj,jJ,I.ne⟩ yc)
theorem D0{R:Result->Shared->Prop}{vs:List Value}{kw:List (Str×Value)}(X:K.In s.heap)(hm:PySem.W.makesIn K C=true)
  (hi:PySem.W.findIn K (.ref C) "__init__" = some (some (.ref f))) (hf:PySem.W.typeIn K (.ref f)=some (.type "function"))
  (h:codeAny (model prog w) (A.under (.builtin "type.__call__" ⟨.ref C::vs,kw⟩)) (.call (.ref f) ⟨.ref (s.heap.objs.size+1)::vs,kw⟩) (PySem.W.InitBack (s.heap.objs.size+1) R)
   { s with heap:=(s.heap.push PySem.W.emptyDict).push (PySem.W.instObj C s.heap.objs.size)}) :
  codeAny (model prog w) A (.call (.ref C) ⟨vs,kw⟩) R s:=by
 obtain⟨hh,g,d,t,os⟩:=s;exact PySem.W.make_core (PySem.W.makes_of X hm) (PySem.W.looks_findIn X hi) (λself=>PySem.W.bind_fn X self hf) (.inl rfl) h
end
noncomputable def cO(f:Str)(v:V):List (Str×V)->List (Str×V)
 | []=>[(f,v)]
 | (g,x)::r=>if g=f then(g,v)::r else(g,x)::cO f v r
theorem yd(f g:Str)(v:V):∀fs:List (Str×V),(cO f v fs).lookup g=if g=f then some v else fs.lookup g
 | []=>by
  show List.lookup g [(f,v)] = _;by_cases h:g=f
  ·have hb:(g == f)=true:=beq_iff_eq.mpr h;simp only[List.lookup,hb,if_pos h]
  ·have hb:(g == f)=false:=beq_eq_false_iff_ne.mpr h;simp only[List.lookup,hb,if_neg h]
 | (k,x)::r=>by
  have ih:=yd f g v r;rw[show cO f v ((k,x)::r)=(if k=f then(k,v)::r else(k,x)::cO f v r) from rfl]
  by_cases hk:k=f
  ·rw[if_pos hk];by_cases h:g=k
   ·have hb:(g == k)=true:=beq_iff_eq.mpr h;simp only[List.lookup,hb,if_pos (h.trans hk)]
   ·have hb:(g == k)=false:=beq_eq_false_iff_ne.mpr h;simp only[List.lookup,hb,if_neg (λe:g=f=>h (e.trans hk.symm))]
  ·rw[if_neg hk];by_cases h:g=k
   ·have hb:(g == k)=true:=beq_iff_eq.mpr h;simp only[List.lookup,hb,if_neg (λe:g=f=>hk (h.symm.trans e))]
   ·have hb:(g == k)=false:=beq_eq_false_iff_ne.mpr h;simp only[List.lookup,hb];exact ih
theorem qX(f:Str)(v:V):∀fs:List (Str×V),f∈(cO f v fs).map (·.1)/\∀g,g∈fs.map (·.1)->g∈(cO f v fs).map (·.1)
 | []=>⟨by simp[cO],λg h=>by simp at h⟩
 | (k,x)::r=>by
  obtain⟨i1,i2⟩:=qX f v r;rw[show cO f v ((k,x)::r)=(if k=f then(k,v)::r else(k,x)::cO f v r) from rfl]
  by_cases hk:k=f
  ·rw[if_pos hk];subst hk;exact⟨by simp,λg h=>by simpa using h⟩
  ·rw[if_neg hk];refine⟨?_,λg h=>?_⟩
   ·rw[List.map_cons];exact List.mem_cons_of_mem _ i1
   ·rw[List.map_cons] at h ⊢;rcases List.mem_cons.mp h with e | e
    ·exact List.mem_cons.mpr (.inl e)
    ·exact List.mem_cons_of_mem _ (i2 g e)
theorem yf(f:Str)(v:V):∀fs:List (Str×V),(cO f v fs).length<=fs.length+1
 | []=>by simp[cO]
 | (k,x)::r=>by
  have ih:=yf f v r;rw[show cO f v ((k,x)::r)=(if k=f then(k,v)::r else(k,x)::cO f v r) from rfl]
  by_cases hk:k=f
  ·rw[if_pos hk,List.length_cons,List.length_cons];lia
  ·rw[if_neg hk,List.length_cons,List.length_cons];lia
theorem fu.some_of{v:V}{o:Option Value}(r:fu (some v) o):∃u,o=some u/\RelV v u:=by
 cases o with
 | none=>exact(show False from r).elim
 | some u=>exact⟨u,rfl,r⟩
theorem fu.none_of{o:Option Value}(r:fu none o):o=none:=by
 cases o with
 | none=>rfl
 | some u=>exact(show False from r).elim
theorem D3{v:V}{u:Value}(r:RelV v u):PySem.W.handedIn u=true:=by
 cases v with
 | aB=>cases (show u=Value.none from r);rfl
 | bl b=>cases (show u=Value.bool b from r);rfl
 | int i=>obtain⟨t,e⟩:=(show ∃t,u=Value.int i t from r);cases e;rfl
 | str x=>obtain⟨t,e⟩:=(show ∃t,u=Value.str x t from r);cases e;rfl
 | cM b=>obtain⟨t,e⟩:=(show ∃t,u=Value.bytes b t from r);cases e;rfl
 | fq b=>obtain⟨t,e⟩:=(show ∃t,u=Value.float b t from r);cases e;rfl
 | ref a=>cases (show u=Value.ref a from r);rfl
 | ty n=>cases (show u=Value.type n from r);rfl
section
variable{P:Program}{w:World}{H H':Hp}{h h':Heap}{a C dx:Addr}{fs CS:List (Str×V)}
theorem lK(aJ:bR P w H h)(e:H a=some (.ins C dx fs)):∃mA,ia h a dx C mA/\(∀f,fu (fs.lookup f) (mA f))/\PySem.Within mA (fs.map (·.1))/\fs.length<=1000/\H dx=some (.own a):=by
 obtain⟨d,z,ne,ob,mA,n,r,q⟩:=(show cz P w H h a (.ins C dx fs) from aJ a _ e);exact⟨mA,⟨ob,n,ne⟩,r,q,z,d⟩
end
structure ez(K:PySem.W.Frag)(C:Addr):Prop where
 pg:PySem.W.plainGet K C Str.empty=true
 hd:PySem.W.hasDictIn K C=true
 po:PySem.W.plainOver K C=true
 sa:PySem.W.findIn K (.ref C) "__setattr__" = some (some (.builtin "object.__setattr__"))
theorem ez.get{K:PySem.W.Frag}{C:Addr}(c:ez K C)(f:Str):PySem.W.plainGet K C f=true:=c.pg
noncomputable def cP(K:PySem.W.Frag)(C:Addr)(f:Str):Prop:=PySem.W.findIn K (.ref C) f=some none
theorem cP.D4{K:PySem.W.Frag}{C:Addr}{f:Str}(n:cP K C f):PySem.W.takerIn K C f=some none:=by
 unfold PySem.W.takerIn;rw[show PySem.W.findIn K (.ref C) f=some none from n]
 rfl
structure Meth(K:PySem.W.Frag)(C:Addr)(m:Str)(f:Addr):Prop where
 at_:PySem.W.findIn K (.ref C) m=some (some (.ref f))
 fn:PySem.W.isFn K (.ref f)=true
 kp:PySem.W.keepIn K (.ref f)=true
section
variable{X:Cx}{pins:List (Addr×Obj)}{σ:St}{H:Hp}{s:Shared}{a C dx:Addr}{fs:List (Str×V)}{f:Str}{v:V}{A:Around}{E:Value->Shared->Prop}
theorem D5{b:Bool}{Q:Value->Shared->Prop}(I:Inv X pins σ H s)(e:H a=some (.ins C dx fs))(c:ez X.K C)(n:cP X.K C f)(l:fs.lookup f=some v)
  (h:∀u s',Inv X pins σ H s'->RelV v u->Q u s'):wpAny (model X.prog X.w) A (getAttr (.ref a) f b) Q E s:=by
 obtain⟨mA,O,r,_,_,_⟩:=lK I.aJ e;obtain⟨u,hu,ru⟩:=fu.some_of (v:=v) (o:=mA f) (by rw[← l];exact r f)
 exact get_map I.bT O (c.get f) c.hd n hu (D3 ru) (h u _ (I.tok _) ru)
theorem yg{m:Str}{g:Addr}{pl:Sem Bool}{Q:Value×List Value->Shared->Prop}(I:Inv X pins σ H s)(e:H a=some (.ins C dx fs))(c:ez X.K C)(k:Meth X.K C m g)(l:fs.lookup m=none)
  (h:Q (.ref g,[.ref a]) s):wpAny (model X.prog X.w) A (getMethod (.ref a) m pl) Q E s:=by
 obtain⟨mA,O,r,_,_,_⟩:=lK I.aJ e;have hn:mA m=none:=fu.none_of (by rw[← l];exact r m)
 exact DV I.bT O (c.get m) k.at_ k.fn hn h
theorem D6{y:V}{u:Value}{Q:Unit->Shared->Prop}(I:Inv X pins σ H s)(e:H a=some (.ins C dx fs))(c:ez X.K C)(n:cP X.K C f)(hl:fs.length<1000)(ry:RelV y u)
  (h:∀s',Inv X pins σ (upd H a (.ins C dx (cO f y fs))) s'->Q () s'):wpAny (model X.prog X.w) A (setAttr (.ref a) f u) Q E s:=by
 obtain⟨mA,O,r,wi,_,ho⟩:=lK I.aJ e;have hz:(fs.map (·.1)).length<=sizeLine:=by rw[List.length_map,sizeLine_eq];lia
 refine DW I.bT O c.sa c.po n.D4 c.hd wi hz λh' O' sb=>h _ ?_;have hd:∃o,h'.get? dx=some o:=let ⟨o,_,_,e',_⟩:=O'.ns;⟨o,e'⟩
 refine I.write (x:=a) (e:=dx) (by rw[e];exact True.intro) (.inr ho) (λb q hb z=>(sb.2 b hb).trans z) hd ?_
 refine⟨by rw[bC O.ne];exact ho,?_,O.ne,O'.obj,_,O'.ns,λg=>?_,λg hg=>?_⟩
 ·have:=yf f y fs;lia
 ·show fu ((cO f y fs).lookup g) (if g=f then some u else mA g)
  rw[yd];by_cases q:g=f
  ·rw[if_pos q,if_pos q];exact ry
  ·rw[if_neg q,if_neg q];exact r g
 ·by_cases q:g=f
  ·rw[q];exact(qX f y fs).1
  ·refine(qX f y fs).2 g (wi g λz=>hg ?_)
   show (if g=f then some u else mA g)=none
   rw[if_neg q];exact z
theorem Inv.made(I:Inv X pins σ H s):Inv X pins σ (upd (upd H s.heap.objs.size (.own (s.heap.objs.size+1))) (s.heap.objs.size+1) (.ins C s.heap.objs.size []))
  { s with heap:=(s.heap.push PySem.W.emptyDict).push (PySem.W.instObj C s.heap.objs.size)}:=by
 have e1:(s.heap.push PySem.W.emptyDict).get? s.heap.objs.size=some PySem.W.emptyDict:=Heap.get?_push_size s.heap rfl;have e2:((s.heap.push PySem.W.emptyDict).push (PySem.W.instObj C s.heap.objs.size)).get? (s.heap.objs.size+1)=some (PySem.W.instObj C s.heap.objs.size):=by
  have:=Heap.get?_push_size (s.heap.push PySem.W.emptyDict) (o:=PySem.W.instObj C s.heap.objs.size) rfl;rwa [Heap.size_push] at this
 have e3:(s.heap.push PySem.W.emptyDict).Ns s.heap.objs.size (λ_=>none):=⟨PySem.W.emptyDict,#[],_,e1,rfl,(λe he=>absurd he (by simp)),λ_=>rfl⟩
 have I1:=I.laid (a:=s.heap.objs.size) (o:=.own (s.heap.objs.size+1)) (h':=s.heap.push PySem.W.emptyDict) (t':=s.toks) (λb u q=>Heap.get?_push_of_some _ q) (Nat.le_refl _) ⟨_,e1⟩;refine I1.laid (a:=s.heap.objs.size+1) (o:=.ins C s.heap.objs.size []) (t':=s.toks) (λb u q=>Heap.get?_push_of_some _ q) (Nat.le_of_eq (Heap.size_push _ _)) ?_;have ne:s.heap.objs.size≠s.heap.objs.size+1:=Nat.ne_of_lt (Nat.lt_succ_self _);refine⟨by rw[bC ne,aA],Nat.zero_le _,ne,e2,λ_=>none,(Heap.Ns1.of_empty e3).at λo q=>Heap.get?_push_of_some _ q,λ_=>True.intro,λy hy=>absurd rfl hy⟩
theorem D7{prog:Program}{w:World}{env:Env}{e:Expr}{f:Str}{pos:Pos}{s:Shared}{Q:Value->Shared->Prop}(hb:attributeBase e f env (eval e env)=eval e env)
  (h:wpAny (model prog w) A (eval e env) (λo aQ=>wpAny (model prog w) A (getAttr o f true) Q E aQ) E s):wpAny (model prog w) A (eval (.Attribute e f pos) env) Q E s :=
 Attribute_any_ h (by rw[arm_eval_Attribute,hb])
end
noncomputable def D8(K:PySem.W.Frag)(ta:TE)(f:Str):TE:=λσ H Q=>ta σ H λx H1=>∃a C dx fs v,x = .ref a/\H1 a=some (.ins C dx fs)/\ez K C/\cP K C f/\fs.lookup f=some v/\Q v H1
noncomputable def D9(K:PySem.W.Frag)(ta tv:TE)(f:Str):TS:=λD σ H=>tv σ H λy H1=>ta σ H1 λx H2=>∃a C dx fs,x = .ref a/\H2 a=some (.ins C dx fs)/\ez K C/\cP K C f/\fs.length<1000/\
 D.nx σ (upd H2 a (.ins C dx (cO f y fs)))
section
variable{X:Cx}{o e value:Expr}{f:Str}{pos pos' D_:Pos}{ta tv:TE}
theorem bg(he:PE X e ta)(hb:attributeBase e f X.env (eval e X.env)=eval e X.env):PE X (.Attribute e f pos) (D8 X.K ta f):=by
 intro pins s σ H Q I h;refine D7 hb (aK (he pins s σ H _ I h) λu s1 ⟨x,H1,I1,rx,a,C,dx,fs,v,ex,ea,c,n,l,q⟩=>?_);subst ex;obtain rfl:u=Value.ref a:=rx;exact D5 I1 ea c n l λu' s2 I2 ru=>⟨v,H1,I2,ru,q⟩
theorem dQ(ha:PE X o ta)(hv:PE X value tv)(hs:swapsWith value (some (.Attribute o f pos')) pos.line X.env=pure false):PS X (.Assign [.Attribute o f pos'] value pos) (D9 X.K ta tv f):=by
 intro pins s σ H D I h;refine plainObj_wpAny_Assign_Attribute (aK (hv pins s σ H _ I h) λu s1 ⟨y,H1,I1,ry,q⟩=>aK (ha pins s1 σ H1 _ I1 q) λov s2 ⟨x,H2,I2,rx,a,C,dx,fs,ex,ea,c,n,l,q2⟩=>?_) hs;subst ex;obtain rfl:ov=Value.ref a:=rx;exact D6 I2 ea c n l ry λs3 I3=>⟨σ,_,I3,q2⟩
end
section
variable{X:Cx}{pins:List (Addr×Obj)}{σ:St}{H:Hp}{s:Shared}{A:Around}{E:Value->Shared->Prop}{Q:Value->Shared->Prop}{c:Value}{b:Bool}
inductive dR (K:PySem.W.Frag) (H:Hp):V->Value->Prop where
 | aB:dR K H .aB (.type "NoneType")
 | bl (x:Bool):dR K H (.bl x) (.type "bool")
 | int (i:Int):dR K H (.int i) (.type "int")
 | str (x:Str):dR K H (.str x) (.type "str")
 | fq (x:UInt64):dR K H (.fq x) (.type "float")
 | lst {a:Addr} {xs:List V} (e:H a=some (.lst xs)):dR K H (.ref a) (.type "list")
 | c9 {a:Addr} {o:Obj} {xs:List V} (e:H a=some (.c9 o (.lst xs))):dR K H (.ref a) (.type "list")
 | tup {a:Addr} {xs:List V} (e:H a=some (.tup xs)):dR K H (.ref a) (.type "tuple")
 | dK {a:Addr} {aN:List (Key×V)} (e:H a=some (.dK aN)):dR K H (.ref a) (.type "dict")
 | dT {a:Addr} {aN:List (List Key×V)} (e:H a=some (.dT aN)):dR K H (.ref a) (.type "dict")
 | ins {a C dx:Addr} {fs:List (Str×V)} (e:H a=some (.ins C dx fs)) (cl:ez K C) (ha:PySem.W.findIn K (.ref C) "__class__" = some (some (.builtin "object.__class__")))
   (hn:PySem.W.specialIn K (.builtin "object.__class__") "__get__" = some (some (.builtin "getset_descriptor.__get__"))) (yh:PySem.W.takesIn K (.builtin "object.__class__")=some true)
   (hm:PySem.W.mroIn K C (.type "object")=some true):dR K H (.ref a) (.ref C)
theorem Ea{x:V}{u t:Value}(I:Inv X pins σ H s)(rx:RelV x u)(ty:dR X.K H x t)(e:PySem.W.kitOne X.K t c=some b)(h:∀tk,Q (.bool b) { s with toks:=tk }) :
  wpAny (model X.prog X.w) A (call (.builtin "isinstance") [u,c]) Q E s:=by
 cases ty with
 | aB=>cases (show u=Value.none from rx);exact PySem.W.kia_one PySem.W.kitx_none I.bT True.intro e (λz=>nomatch z) h
 | bl y=>cases (show u=Value.bool y from rx);exact PySem.W.kia_one PySem.W.kitx_bool I.bT True.intro e (λz=>nomatch z) h
 | int i=>obtain⟨t,q⟩:=(show ∃t,u=Value.int i t from rx);cases q;exact PySem.W.kia_one PySem.W.kitx_int I.bT True.intro e (λz=>nomatch z) h
 | str y=>obtain⟨t,q⟩:=(show ∃t,u=Value.str y t from rx);cases q;exact PySem.W.kia_one PySem.W.kitx_str I.bT True.intro e (λz=>nomatch z) h
 | fq y=>obtain⟨t,q⟩:=(show ∃t,u=Value.float y t from rx);cases q;exact PySem.W.kia_one PySem.W.kitx_float I.bT True.intro e (λz=>nomatch z) h
 | @lst a xs ea =>
  cases (show u=Value.ref a from rx);obtain⟨_,_,n,_,h1⟩:=(show cz X.prog X.w H s.heap a (.lst xs) from I.aJ a _ ea);exact PySem.W.kia_one PySem.W.kitx_list I.bT ⟨_,h1,rfl⟩ e (λz=>nomatch z) h
 | @c9 a ob xs ea =>
  cases (show u=Value.ref a from rx);obtain⟨_,_,_,n,_,h1⟩:=(show cz X.prog X.w H s.heap a (.c9 ob (.lst xs)) from I.aJ a _ ea);exact PySem.W.kia_one PySem.W.kitx_list I.bT ⟨_,h1,rfl⟩ e (λz=>nomatch z) h
 | @tup a xs ea =>
  cases (show u=Value.ref a from rx);obtain⟨_,_,_,p⟩:=(show cz X.prog X.w H s.heap a (.tup xs) from I.aJ a _ ea);obtain⟨o,h1,h2,_⟩:=p;exact PySem.W.kia_one PySem.W.kitx_tuple I.bT ⟨o,h1,h2⟩ e (λz=>nomatch z) h
 | @dK a aN ea =>
  cases (show u=Value.ref a from rx);obtain⟨_,_,vs,_,p⟩:=(show cz X.prog X.w H s.heap a (.dK aN) from I.aJ a _ ea);obtain⟨o,es,ep,h1,h2,_⟩:=p;exact PySem.W.kia_one PySem.W.kitx_dict I.bT ⟨o,h1,h2.1⟩ e (λz=>nomatch z) h
 | @dT a aN ea =>
  cases (show u=Value.ref a from rx);obtain⟨_,_,xs,_,o,es,ep,h1,h2,_⟩:=(show cz X.prog X.w H s.heap a (.dT aN) from I.aJ a _ ea);exact PySem.W.kia_one PySem.W.kitx_dict I.bT ⟨o,h1,h2.1⟩ e (λz=>nomatch z) h
 | @ins a C dx fs ea cl ha hn yh hm =>
  cases (show u=Value.ref a from rx);obtain⟨mA,O,_⟩:=lK I.aJ ea;obtain⟨od,J,_⟩:=O.look;exact PySem.W.kia_one (PySem.W.kitx_own (cl.get _) cl.hd ha hn yh hm) I.bT J e (λz=>nomatch z) h
end
structure bK(k:Nat)(A:Around):Prop where
 hd:A.handled=none
 dp:A.depth+3*k+5<recursionLimit
 un:A.units+16*k+200<cLine
theorem bK.mono{j k:Nat}{A:Around}(r:bK k A)(h:j<=k):bK j A:=⟨r.hd,by have:=r.dp;lia,by have:=r.un;lia⟩
theorem bK.deeper{k:Nat}{A:Around}(r:bK (k+1) A)(env:Env):bK k (A.deeper env) :=
 ⟨r.hd,by have:=r.dp;show A.depth+1+3*k+5<_;lia,by have:=r.un;show A.units+3+16*k+200<_;lia⟩
theorem Eb{A:Around}{C:Addr}{us:List Value}{kw:List (Str×Value)}:(A.under (.builtin "type.__call__" ⟨.ref C::us,kw⟩)).depth=A.depth+1:=by
 first | rfl | simp[Around.under,Code.weight,Code.isCreation,Code.isGuard,Code.isCaller,Code.frames,Code.isFrame,guardIds]
theorem Ec{A:Around}{C:Addr}{us:List Value}{kw:List (Str×Value)}:(A.under (.builtin "type.__call__" ⟨.ref C::us,kw⟩)).units=A.units+1:=by
 first | rfl | simp[Around.under,Code.cUnits,Code.frames,Code.isFrame]
theorem bK.make{k:Nat}{A:Around}(r:bK (k+1) A)(C:Addr)(us:List Value)(kw:List (Str×Value)):bK k (A.under (.builtin "type.__call__" ⟨.ref C::us,kw⟩)) :=
 ⟨r.hd,by have:=r.dp;rw[Eb];lia,by have:=r.un;rw[Ec];lia⟩
theorem bK.depth{k:Nat}{A:Around}(r:bK k A):A.depth<recursionLimit:=by have:=r.dp;lia
theorem bK.units{k:Nat}{A:Around}(r:bK k A):A.units+64<cLine:=by have:=r.un;lia
theorem bK.qY{k:Nat}{A:Around}(r:bK k A):A.units<cLine:=by have:=r.un;lia
noncomputable def qZ:TA:=λ_ H Q=>Q [] H
noncomputable def yi(ta:TE)(tr:TA):TA:=λσ H Q=>ta σ H λx H1=>tr σ H1 λxs H2=>Q (x::xs) H2
section
variable{X:Cx}{e:Expr}{es:List Expr}{te:TE}{t:TA}{pos:Pos}
theorem ak:PA X [] qZ:=λ_ _ _ _ H Q I h=>Calls.spliced_nil ⟨[],H,I,.nil,h⟩
theorem aa(ha:PE X e te)(hr:PA X es t)(hs:starEach (e::es) X.env=(false,eval e X.env)::starEach es X.env:=by rfl):PA X (e::es) (yi te t):=by
 intro pos pins s σ H Q I h;rw[hs]
 show wpAny _ _ (spliced ((false,eval e X.env)::backTo pos (starEach es X.env))) _ _ s;refine Calls.spliced_cons (aK (ha pins s σ H _ I h) λu s1 ⟨x,H1,I1,r1,q1⟩=>?_);exact aK (hr pos pins s1 σ H1 _ I1 q1) λus s2 ⟨xs,H2,I2,r2,q2⟩=>⟨x::xs,H2,I2,.cons r1 r2,q2⟩
noncomputable def Ed(t:TA):TE:=λσ H Q=>t σ H λxs H1=>xs.length<=sizeLine/\∀p,H1 p=none->Q (.ref p) (upd H1 p (.tup xs))
noncomputable def Ef(t:TA):TE:=λσ H Q=>t σ H λxs H1=>xs.length<=sizeLine/\∀p,H1 p=none->Q (.ref p) (upd H1 p (.lst xs))
theorem eW{x1}(h:PA X es t):PE X (.Tuple es x1 pos) (Ed t):=by
 intro pins s σ H Q I hq;refine wpAny_Tuple_spliced (aK (h pos pins s σ H _ I hq) λus s1 ⟨xs,H1,I1,r,z,q⟩=>⟨by rw[← r.length];exact z,?_⟩)
 have hf:H1 s1.heap.objs.size=none:=I1.aJ.fresh (Nat.le_refl _);refine⟨.ref s1.heap.objs.size,upd H1 s1.heap.objs.size (.tup xs),I1.laid (t':=s1.toks) (λb u e=>Heap.get?_push_of_some _ e) (Nat.le_refl _) ?_,rfl,q _ hf⟩;exact⟨z,us,r,⟨_,Heap.get?_push_size _ rfl,rfl,_,rfl⟩⟩
theorem bL(h:PA X es t):PE X (.List es pos) (Ef t):=by
 intro pins s σ H Q I hq;refine wpAny_List_spliced (aK (h pos pins s σ H _ I hq) λus s1 ⟨xs,H1,I1,r,z,q⟩=>⟨by rw[← r.length];exact z,?_⟩)
 have hf:H1 s1.heap.objs.size=none:=I1.aJ.fresh (Nat.le_refl _);refine⟨.ref s1.heap.objs.size,upd H1 s1.heap.objs.size (.lst xs),I1.laid (t':=s1.toks) (λb u e=>Heap.get?_push_of_some _ e) (Nat.le_refl _) ?_,rfl,q _ hf⟩;exact⟨z,us,0,r,Heap.get?_push_size _ rfl⟩
end
noncomputable abbrev Sp:=List V->Hp->VK->XK->Prop
noncomputable abbrev cW:=List Env->Hp->Shared->XK->Value->Shared->Prop
structure ie(P:Program)(w:World)(K:PySem.W.Frag)(mg:Str->Option Value)(base:Heap)(A:Around)(outer:List Env)(s:Shared)(H:Hp):Prop where
 frames:A.frames=some outer
 mod:Mod K mg base
 bs:∀b o,base.get? b=some o->s.heap.get? b=some o/\H b=none
 fz:base.objs.size<=s.heap.objs.size
 dM:s.heap.FunFrames base outer
 gB:∀b∈c_ outer,H b=none
 aJ:bR P w H s.heap
 bare:AllBare s.gens
noncomputable def CE(outer:List Env)(P:Program)(w:World)(H:Hp)(s:Shared)(Q:VK)(u:Value)(s':Shared):Prop :=
 ∃v H',s'.os=s.os/\AllBare s'.gens/\Un (c_ outer) [] H H' s.heap s'.heap/\bR P w H' s'.heap/\RelV v u/\Q v H'
noncomputable def CR(CX:cW)(outer:List Env)(P:Program)(w:World)(H:Hp)(s:Shared)(Q:VK)(E:XK)(r:Result)(s':Shared):Prop :=
 match r with
 | .ok (.ret u)=>CE outer P w H s Q u s'
 | .ok _=>False
 | .error e=>CX outer H s E e s'
structure aV(P:Program)(w:World)(K:PySem.W.Frag)(mg:Str->Option Value)(base:Heap)(CX:cW)(k:Nat)(f:Addr)(fd:FuncData)(ps:List Str)(sp:Sp):Prop where
 len:∀vs H Q E,sp vs H Q E->vs.length=ps.length
 run:∀(A:Around) (outer:List Env) (s:Shared) (H:Hp) (args:Args) (us:List Value) (vs:List V) (Q:VK) (E:XK),bK k A->ie P w K mg base A outer s H->BindsTo s fd args (ps.zip us)->Vals vs us->sp vs H Q E->
  codeAny (model P w) A (.call (.ref f) args) (CR CX outer P w H s Q E) s
theorem ie.make{P:Program}{w:World}{K:PySem.W.Frag}{mg:Str->Option Value}{base:Heap}{A:Around}{outer:List Env}{s:Shared}{H:Hp}(e:ie P w K mg base A outer s H)(C:Addr)(us:List Value)(kw:List (Str×Value)) :
  ie P w K mg base (A.under (.builtin "type.__call__" ⟨.ref C::us,kw⟩)) outer s H:=⟨by first | exact e.frames | (simpa[Around.under,Code.envs,Code.isFrame,pushEnvs] using e.frames),e.mod,e.bs,e.fz,e.dM,e.gB,e.aJ,e.bare⟩
section
variable{X:Cx}{pins:List (Addr×Obj)}{σ:St}{H:Hp}{s s':Shared}
theorem Inv.yj(I:Inv X pins σ H s):ie X.prog X.w X.K X.mg X.base X.A X.stack s H :=
 ⟨I.ok.frames,I.ok.mod,I.bs,Nat.le_trans I.ok.fz I.sz,I.stack,I.xA,I.aJ,I.bare⟩
theorem Inv.after{Q:VK}{u:Value}(I:Inv X pins σ H s)(h:CE X.stack X.prog X.w H s Q u s'):EP X pins σ Q u s':=by
 obtain⟨v,H',os,bare,un,aJ,r,q⟩:=h;obtain⟨hh,g,d,t,Eg⟩:=s';obtain rfl:Eg=s.os:=os;exact⟨v,H',I.call (h':=hh) (g':=g) (d':=d) (t':=t) (ch:=[]) un aJ bare (λb z=>absurd z (by simp)),r,q⟩
end
noncomputable def Eh(sp:Sp)(bM:List V)(E:XK)(t:TA):TE:=λσ H Q=>t σ H λvs H1=>sp (vs++bM) H1 Q E
noncomputable def yl(C:Addr)(m:Str)(sp:Sp)(bM:List V)(E:XK)(ta:TE)(t:TA):TE:=λσ H Q=>ta σ H λx H1=>∃a dx fs,x = .ref a/\H1 a=some (.ins C dx fs)/\fs.lookup m=none/\
 t σ H1 λvs H2=>sp (x::(vs++bM)) H2 Q E
noncomputable def Ei(C:Addr)(sp:Sp)(bM:List V)(E:XK)(t:TA):TE:=λσ H Q=>t σ H λvs H1=>∀x dx,H1 x=none->H1 dx=none->dx≠x->
 sp (.ref x::(vs++bM)) (upd (upd H1 dx (.own x)) x (.ins C dx [])) (λv H2=>v = .aB/\Q (.ref x) H2) E
noncomputable def Binds(K:PySem.W.Frag)(fd:FuncData)(ps:List Str)(ds:List Value):Prop :=
 ∀(s:Shared) (us:List Value),K.In s.heap->(us++ds).length=ps.length->BindsTo s fd ⟨us,[]⟩ (ps.zip (us++ds))
theorem Binds.all{K:PySem.W.Frag}{fd:FuncData}{ps:List Str}(h:∀us:List Value,us.length=ps.length->bindArgs fd ⟨us,[]⟩=pure (ps.zip us)):Binds K fd ps []:=λs us _ hl=>by
 rw[List.append_nil] at hl ⊢;exact .of_eq (h us hl)
noncomputable def Passes(CX:cW)(X:Cx)(E:XK):Prop:=∀(pins:List (Addr×Obj)) (σ:St) (H:Hp) (s:Shared) (e:Value) (s':Shared),Inv X pins σ H s->CX X.stack H s E e s'->X.xe e s'
section
variable{X:Cx}{CX:cW}{k:Nat}{f C:Addr}{fd:FuncData}{ps:List Str}{sp:Sp}{bM:List V}{ds:List Value}{E:XK}{x m:Str}{p pos apos:Pos}{e o:Expr}{es:List Expr}{ta:TE}{t:TA}
theorem q8{pins:List (Addr×Obj)}{σ:St}{H:Hp}{s:Shared}{Q:VK}{us:List Value}{vs:List V}(F:aV X.prog X.w X.K X.mg X.base CX k f fd ps sp)(hr:bK k X.A)(hb:Binds X.K fd ps ds)(hd:Vals bM ds)(hx:Passes CX X E)
  (I:Inv X pins σ H s) (r:Vals vs us) (h:sp (vs++bM) H Q E):wpAny (model X.prog X.w) X.A (call (.ref f) us) (EP X pins σ Q) X.xe s:=by
 have r2:Vals (vs++bM) (us++ds):=r.append hd;have hl:(us++ds).length=ps.length:=by rw[← r2.length];exact F.len _ _ _ _ h
 refine wpAny_call (codeAny_mono (F.run X.A X.stack s H ⟨us,[]⟩ (us++ds) (vs++bM) Q E hr I.yj (hb s us I.bT hl) r2 h) λr s' hq=>?_);cases r with
 | error e=>exact hx pins σ H s e s' I hq
 | ok fl =>
  cases fl with
  | ret u=>exact I.after hq
  | next=>exact False.elim hq
  | brk=>exact False.elim hq
  | cont=>exact False.elim hq
theorem aZ(F:aV X.prog X.w X.K X.mg X.base CX k f fd ps sp)(hr:bK k X.A)(hg:Gl X x)(hm:X.mg x=some (.ref f))(hk:PySem.W.keepIn X.K (.ref f)=true)(hb:Binds X.K fd ps ds)(hd:Vals bM ds)(hx:Passes CX X E)
  (ha:PA X (e::es) t) (ig:(x == ("__debug__" : Str))=false:=by decide) (he:starEach (e::es) X.env=(false,eval e X.env)::starEach es X.env:=by rfl) (dU:(backTo pos (starEach es X.env)).any (·.1)=false:=by rfl) :
  PE X (.Call (.Name x p) (e::es) [] pos) (Eh sp bM E t):=by
 intro pins s σ H Q I h;refine wpAny_Call_Name_kw (qL I hg hm ?_ ig);refine PySem.W.callWith_K (h₀:=X.base) I.ok.mod.jw hk (aK (ha pos pins s σ H _ I h) λus s1 ⟨vs,H1,I1,r,q⟩=>⟨I1.bT,?_⟩) he dU;exact q8 F hr hb hd hx I1 r q
theorem fK{pl:Sem Bool}(he:PE X o ta)(c:ez X.K C)(hm:Meth X.K C m f)(F:aV X.prog X.w X.K X.mg X.base CX k f fd ps sp)(hr:bK k X.A)(hb:Binds X.K fd ps ds)(hd:Vals bM ds)(hx:Passes CX X E)(ha:PA X (e::es) t)
  (Ej:starEach (e::es) X.env=(false,eval e X.env)::starEach es X.env:=by rfl) (dU:(backTo pos (starEach es X.env)).any (·.1)=false:=by rfl)
  (ht:eval (.Call (.Attribute o m apos) (e::es) [] pos) X.env=(do
   let ov ← eval o X.env
   standAt apos.atName
   let (f,first) ← holding [ov] (getMethod ov m pl)
   callWith pos f first (backTo pos (starEach (e::es) X.env)) (backToKw pos (keywordEach [] X.env))):=by rfl) :
  PE X (.Call (.Attribute o m apos) (e::es) [] pos) (yl C m sp bM E ta t):=by
 intro pins s σ H Q I h;refine PySem.W.methodCall_KW (pl:=pl) (aK (he pins s σ H _ I h) λu s1 ⟨x,H1,I1,rx,a,dx,fs,ex,ea,l,q⟩=>?_) ht;subst ex;obtain rfl:u=Value.ref a:=rx;refine yg I1 ea c hm l ?_;refine PySem.W.callWith_K (first:=[.ref a]) (h₀:=X.base) I.ok.mod.jw hm.kp (aK (ha pos pins s1 σ H1 _ I1 q) λus s2 ⟨vs,H2,I2,r,q2⟩=>⟨I2.bT,?_⟩) Ej dU
 exact q8 (us:=.ref a::us) (vs:=.ref a::vs) F hr hb hd hx I2 (.cons rfl r) q2
theorem cJ{pl:Sem Bool}(he:PE X o ta)(c:ez X.K C)(hm:Meth X.K C m f)(F:aV X.prog X.w X.K X.mg X.base CX k f fd ps sp)(hr:bK k X.A)(hb:Binds X.K fd ps ds)(hd:Vals bM ds)(hx:Passes CX X E)
  (ht:eval (.Call (.Attribute o m apos) [] [] pos) X.env=(do
   let ov ← eval o X.env
   standAt apos.atName
   let (f,first) ← holding [ov] (getMethod ov m pl)
   callWith pos f first (backTo pos (starEach [] X.env)) (backToKw pos (keywordEach [] X.env))):=by rfl) :
  PE X (.Call (.Attribute o m apos) [] [] pos) (yl C m sp bM E ta qZ):=by
 intro pins s σ H Q I h;refine PySem.W.methodCall_KW (pl:=pl) (aK (he pins s σ H _ I h) λu s1 ⟨x,H1,I1,rx,a,dx,fs,ex,ea,l,q⟩=>?_) ht;subst ex;obtain rfl:u=Value.ref a:=rx;refine yg I1 ea c hm l ?_;exact PySem.W.callWith_K0 (first:=[.ref a]) I1.bT hm.kp (q8 (us:=[.ref a]) (vs:=[.ref a]) F hr hb hd hx I1 (.cons rfl .nil) q)
structure Mk(K:PySem.W.Frag)(C f:Addr):Prop where
 makes:PySem.W.makesIn K C=true
 init:PySem.W.findIn K (.ref C) "__init__" = some (some (.ref f))
 fn:PySem.W.isFn K (.ref f)=true
 kp:PySem.W.keepIn K (.ref C)=true
theorem Ek{pins:List (Addr×Obj)}{σ:St}{H:Hp}{s:Shared}{Q:VK}{us:List Value}{vs:List V}(M:Mk X.K C f)(F:aV X.prog X.w X.K X.mg X.base CX k f fd ps sp)(hr:bK (k+1) X.A)(hb:Binds X.K fd ps ds)(hd:Vals bM ds)
  (hx:Passes CX X E) (I:Inv X pins σ H s) (r:Vals vs us)
  (h:∀x dx,H x=none->H dx=none->dx≠x->sp (.ref x::(vs++bM)) (upd (upd H dx (.own x)) x (.ins C dx [])) (λv H2=>v = .aB/\Q (.ref x) H2) E) :
  wpAny (model X.prog X.w) X.A (call (.ref C) us) (EP X pins σ Q) X.xe s:=by
 have hq:=h (s.heap.objs.size+1) s.heap.objs.size (I.aJ.fresh (Nat.le_succ _)) (I.aJ.fresh (Nat.le_refl _)) (Nat.ne_of_lt (Nat.lt_succ_self _));have I2:=Inv.made (C:=C) I;have r2:Vals (V.ref (s.heap.objs.size+1)::(vs++bM)) (Value.ref (s.heap.objs.size+1)::(us++ds)):=.cons rfl (r.append hd);have hl:(Value.ref (s.heap.objs.size+1)::us++ds).length=ps.length:=by
  have e:=r2.length;rw[F.len _ _ _ _ hq] at e;exact e.symm
 refine wpAny_call (D0 (f:=f) I.bT M.makes M.init (beq_iff_eq.mp M.fn) (codeAny_mono (F.run _ X.stack _ _ ⟨Value.ref (s.heap.objs.size+1)::us,[]⟩ (Value.ref (s.heap.objs.size+1)::(us++ds)) _ _ E (hr.make C us [])
  (I2.yj.make C us []) (hb _ (Value.ref (s.heap.objs.size+1)::us) I2.bT hl) r2 hq) λr s' jK=>?_))
 cases r with
 | error e=>exact hx pins σ _ _ e s' I2 jK
 | ok fl =>
  cases fl with
  | ret u =>
   obtain⟨v,H',I3,rv,ev,q3⟩:=I2.after jK;subst ev;exact⟨rv,⟨V.ref (s.heap.objs.size+1),H',I3,rfl,q3⟩⟩
  | next=>exact False.elim jK
  | brk=>exact False.elim jK
  | cont=>exact False.elim jK
theorem lM(M:Mk X.K C f)(F:aV X.prog X.w X.K X.mg X.base CX k f fd ps sp)(hr:bK (k+1) X.A)(hg:Gl X x)(hm:X.mg x=some (.ref C))(hb:Binds X.K fd ps ds)(hd:Vals bM ds)(hx:Passes CX X E)
  (ha:PA X (e::es) t) (ig:(x == ("__debug__" : Str))=false:=by decide) (he:starEach (e::es) X.env=(false,eval e X.env)::starEach es X.env:=by rfl) (dU:(backTo pos (starEach es X.env)).any (·.1)=false:=by rfl) :
  PE X (.Call (.Name x p) (e::es) [] pos) (Ei C sp bM E t):=by
 intro pins s σ H Q I h;refine wpAny_Call_Name_kw (qL I hg hm ?_ ig);refine PySem.W.callWith_K (h₀:=X.base) I.ok.mod.jw M.kp (aK (ha pos pins s σ H _ I h) λus s1 ⟨vs,H1,I1,r,q⟩=>⟨I1.bT,?_⟩) he dU;exact Ek M F hr hb hd hx I1 r q
end
noncomputable def PK(X:Cx)(jL:List Keyword)(t:TA):Prop :=
 ∀(pos:Pos) (pins:List (Addr×Obj)) (s:Shared) (σ:St) (H:Hp) (Q:List V->Hp->Prop),Inv X pins σ H s->t σ H Q->wpAny (model X.prog X.w) X.A (evalAll ((backToKw pos (keywordEach jL X.env)).map (·.2))) (AP X pins σ Q) X.xe s
section
variable{X:Cx}{CX:cW}{k:Nat}{f C:Addr}{fd:FuncData}{ps ks:List Str}{sp:Sp}{E:XK}{x m:Str}{p pos apos Ni:Pos}{e o:Expr}{es:List Expr}{jL:List Keyword}{te ta:TE}{t tk:TA}{nm:Option Str}
variable{g:List Value->List Value->List Value}{gV:List V->List V->List V}
end
structure bq(N P:List Str)(sc:Scope):Prop where
 kind:sc.kind = .function
 co:sc.isCoroutine=false
 gen:sc.isGenerator=false
 nd:N.Nodup
 pre:N.take P.length=P
 par:∀x∈P,sc.names.lookup x=some .local\/sc.names.lookup x=some .cell
 El:∀y∈sc.names,y.2≠.free
theorem ym{kindOf:Str->Option NameKind}{x:Str}:∀ {binds:List (Str×Value)} {m:Str->Option Value},(∀v,(x,v)∉binds)->bindL kindOf binds m x=m x
 | [],_,_=>rfl
 | (n,v)::r,m,h=>by
  unfold bindL;rw[ym λw hw=>h w (List.mem_cons_of_mem _ hw)];split
  ·have:x≠n:=by rintro rfl;exact h v List.mem_cons_self
   simp[this]
  ·rfl
theorem yp{kindOf:Str->Option NameKind}{x:Str}:∀ {binds:List (Str×Value)} {m:Str->Option Value},(∀v,(x,v)∉binds)->bindC kindOf binds m x=m x
 | [],_,_=>rfl
 | (n,v)::r,m,h=>by
  unfold bindC;rw[yp λw hw=>h w (List.mem_cons_of_mem _ hw)];split
  ·rfl
  ·have:x≠n:=by rintro rfl;exact h v List.mem_cons_self
   simp[this]
theorem yq{kindOf:Str->Option NameKind}{x:Str}{v:Value}:∀ {P:List Str} {vs:List Value} {i:Nat} {m:Str->Option Value},P.Nodup->P[i]? = some x->vs[i]? = some v->kindOf x=some .local->
  bindL kindOf (P.zip vs) m x=some v
 | [],_,_,_,_,h,_,_=>by simp at h
 | _::_,[],_,_,_,_,h,_=>by simp at h
 | p::P,w::vs,0,m,nd,h1,h2,hk=>by
  simp at h1 h2;subst h1;subst h2
  show bindL kindOf ((p,w)::P.zip vs) m p=_;unfold bindL;rw[ym λv hv=>(List.nodup_cons.mp nd).1 (List.of_mem_zip hv).1,if_pos hk];simp
 | p::P,w::vs,i+1,m,nd,h1,h2,hk=>by
  show bindL kindOf ((p,w)::P.zip vs) m x=_;unfold bindL;exact yq (i:=i) (List.nodup_cons.mp nd).2 (by simpa using h1) (by simpa using h2) hk
theorem yr{kindOf:Str->Option NameKind}{x:Str}{v:Value}:∀ {P:List Str} {vs:List Value} {i:Nat} {m:Str->Option Value},P.Nodup->P[i]? = some x->vs[i]? = some v->kindOf x≠some .local->
  bindC kindOf (P.zip vs) m x=some v
 | [],_,_,_,_,h,_,_=>by simp at h
 | _::_,[],_,_,_,_,h,_=>by simp at h
 | p::P,w::vs,0,m,nd,h1,h2,hk=>by
  simp at h1 h2;subst h1;subst h2
  show bindC kindOf ((p,w)::P.zip vs) m p=_;unfold bindC;rw[yp λv hv=>(List.nodup_cons.mp nd).1 (List.of_mem_zip hv).1,if_neg hk];simp
 | p::P,w::vs,i+1,m,nd,h1,h2,hk=>by
  show bindC kindOf ((p,w)::P.zip vs) m x=_;unfold bindC;exact yr (i:=i) (List.nodup_cons.mp nd).2 (by simpa using h1) (by simpa using h2) hk
noncomputable def start(N:List Str)(vs:List V):St:=vs.map some++List.replicate (N.length - vs.length) none
noncomputable def gI(CX:cW)(P:Program)(w:World)(K:PySem.W.Frag)(mg:Str->Option Value)(base:Heap)(N:List Str)(qual:Str)(scope:Scope)(f:Addr)(cd:Value)(A:Around)(outer:List Env)(s:Shared)(H:Hp)(E:XK):Cx where
 prog:=P
 w:=w
 K:=K
 mg:=mg
 base:=base
 A:=A.deeper (envOfC qual scope s.heap.objs.size f cd)
 N:=N
 bS:=s
 gY:=H
 env:=envOfC qual scope s.heap.objs.size f cd
 outer:=outer
 stack:=envOfC qual scope s.heap.objs.size f cd::outer
 ex:=[]
 calm:=true
 fn:=λ_=>true
 pn:=[]
 xe:=λe s'=>wpAny (model P w) (A.deeper (envOfC qual scope s.heap.objs.size f cd)) (leaving (envOfC qual scope s.heap.objs.size f cd) e) (λ_ jM=>CX outer H s E e jM) (λe' jM=>CX outer H s E e' jM) s'
theorem yt{sc:Scope}{n:Nat}{x:Str}(h:sc.names.lookup x=some .cell):∃c,(cellsFrom n sc.names []).lookup x=some c:=by
 have q:=PySem.W.cellsFrom_some sc.names n [] (.inl h);exact Option.isSome_iff_exists.mp q
theorem Em{CX:cW}{P:Program}{w:World}{K:PySem.W.Frag}{mg:Str->Option Value}{base:Heap}{N ps:List Str}{qual:Str}{scope:Scope}{f:Addr}{cd:Value}{A:Around}{outer:List Env}{s s1:Shared}{H:Hp}{E:XK}{us:List Value}{vs:List V}
  (S:bq N ps scope) (hd:A.handled=none) (e0:ie P w K mg base A outer s H) (hl:vs.length=ps.length) (r:Vals vs us)
  (x:InCallC s s.heap.objs.size (bindL (envOfC qual scope s.heap.objs.size f cd).kindOf (ps.zip us) λ_=>none) (cellsFrom (s.heap.objs.size+1) scope.names []) (bindC (envOfC qual scope s.heap.objs.size f cd).kindOf (ps.zip us) λ_=>none) s1) :
  Inv (gI CX P w K mg base N qual scope f cd A outer s H E) [] (start N vs) H s1:=by
 have dU:ps.length<=N.length:=by have:=congrArg List.length S.pre;rw[List.length_take] at this;lia
 obtain⟨h1,tk,rfl,hk⟩:=x.done;have jN:∀b:Addr,b∉(gI CX P w K mg base N qual scope f cd A outer s H E).ex:=λb z=>absurd (show b∈([]:List Addr) from z) (by simp)
 refine⟨⟨e0.mod,S.kind,rfl,rfl,Nat.le_refl _,λy z c h1 h2=>?_,λy hy=>?_,λy c _ h=>?_,λ_=>hd,Around.frames_deeper e0.frames,.inr ⟨rfl,rfl⟩,λb z=>absurd z (jN b),e0.bs,e0.fz,λb _ _=>jN b,λb z=>absurd z (jN b),e0.dM,e0.gB⟩,
  rfl,e0.bare,Un.kept hk,⟨_,x.toInCall.ns,λi y v h1 h2 h3=>?_⟩,λy c h=>⟨_,x.cell y c h⟩,e0.aJ.fresh (Nat.le_refl _),λy c h=>?_,λp hp=>absurd (show p∈([]:List (Addr×Obj)) from hp) (by simp),e0.aJ.kept hk,?_⟩
 ·exact name_of_addr x.apart (PySem.mem_of_lookup h1) (PySem.mem_of_lookup h2)
 ·have hy:scope.names.lookup y=some .cell\/scope.names.lookup y=some .free:=hy;rcases hy with hy | hy
  ·exact yt hy
  ·exact absurd rfl (S.El _ (PySem.mem_of_lookup hy))
 ·exact Nat.le_of_lt (x.above y c (PySem.mem_of_lookup h))
 ·have hi:i<vs.length:=by
   unfold start at h2;by_cases hi:i<vs.length
   ·exact hi
   ·rw[List.getElem?_append_right (by simpa using hi)] at h2
    rw[List.getElem?_replicate] at h2;split at h2 <;> cases h2
  have ha:vs[i]? = some v:=by
   unfold start at h2;rw[List.getElem?_append_left (by simpa using hi),List.getElem?_map] at h2
   cases e:vs[i]? with
   | none=>rw[e] at h2;cases h2
   | some a=>rw[e] at h2;cases h2;rfl
  obtain⟨u,hu,rv⟩:=r.get ha;have hp:ps[i]? = some y:=by
   rw[← S.pre,List.getElem?_take_of_lt (by lia)];exact h1
  have yu:ps.Nodup:=by rw[← S.pre];exact S.nd.sublist (List.take_sublist _ _)
  refine⟨u,rv,?_⟩;rcases S.par y (List.mem_of_getElem? hp) with k | k
  ·exact .inl ⟨k,yq yu hp hu k⟩
  ·obtain⟨c,e⟩:=yt (n:=s.heap.objs.size+1) k;refine .inr ⟨.inl k,c,e,?_⟩;have q:=x.cell y c e;rw[yr yu hp hu (by show scope.names.lookup y≠_;rw[k];decide)] at q
   exact q
 ·exact e0.aJ.fresh (Nat.le_of_lt (x.above y c (PySem.mem_of_lookup h)))
 ·unfold start
  show _=N.length;rw[List.length_append,List.length_map,List.length_replicate];lia
theorem yw{CX:cW}{P:Program}{w:World}{K:PySem.W.Frag}{mg:Str->Option Value}{base:Heap}{k:Nat}{f:Addr}{name qual:Str}{params:Arguments}{body:List Stmt}{scope:Scope}{dV kV doc pm aH ct oc:Value}{an od:Option Addr}
  {dm:Array (Option Value)} {N ps:List Str} {sp:Sp} (lk:K.lookup f=some ⟨oc,od,.func (PySem.W.fnOf name qual params body scope dV kV doc pm an aH ct),dm⟩) (dN:PySem.W.codeIn K aH qual=true) (S:bq N ps scope)
  (len:∀vs H Q E,sp vs H Q E->vs.length=ps.length)
  (jO:∀(A:Around) (outer:List Env) (s:Shared) (H:Hp) (vs:List V) (Q:VK) (E:XK),bK k (A.deeper (envOfC qual scope s.heap.objs.size f aH))->sp vs H Q E->
   ∃t,cR (gI CX P w K mg base N qual scope f aH A outer s H E) body t/\t { nx:=λ_ H'=>Q .aB H',rt:=Q } (start N vs) H) :
  aV P w K mg base CX (k+1) f (PySem.W.fnOf name qual params body scope dV kV doc pm an aH ct) ps sp:=by
 refine⟨len,λA outer s H args us vs Q E hr e0 hb r fL=>?_⟩;have hl:=len _ _ _ _ fL;have KX:K.In s.heap:=e0.mod.jw.keeps λb o e=>(e0.bs b o e).1;have lim:s.heap.NoLimit:=e0.mod.nolimit.keeps λb o e=>(e0.bs b o e).1;have En:∀y∈ps.zip us,scope.names.lookup y.1=some .local\/(scope.names.lookup y.1=some .cell/\((cellsFrom (s.heap.objs.size+1) scope.names []).lookup y.1).isSome=true):=λ⟨n,v⟩ hy=>by
  rcases S.par n (List.of_mem_zip hy).1 with q | q
  ·exact .inl q
  ·exact .inr ⟨q,PySem.W.cellsFrom_some _ _ _ (.inl q)⟩
 refine codeAny_call_function hr.depth (KX _ _ lk) rfl S.co S.gen rfl (PySem.W.codeRec_of KX dN) (hb _ _ _ _ ?_);refine wpAny_newFunctionEnv_cells S.kind En λenv he s1 x=>?_;subst he;refine⟨lim.keeps x.toInCall.keep,codeAny_func ?_⟩;obtain⟨t,ht,hq⟩:=jO A outer s H vs Q E (hr.deeper _) fL;have I:Inv (gI CX P w K mg base N qual scope f aH A outer s H E) [] (start N vs) H s1:=Em S hr.hd e0 hl r x;refine wpAny_mono (ht [] s1 (start N vs) H _ I hq) (λfl s' hs=>?_) λe s' hs=>hs;have fin:∀ {aG:St} {H':Hp} {v:V} {u:Value},Inv (gI CX P w K mg base N qual scope f aH A outer s H E) [] aG H' s'->RelV v u->Q v H'->CE outer P w H s Q u s' :=
  λ{aG H' v u} J rv q=>⟨v,H',J.os,J.bare,J.base,J.aJ,rv,q⟩
 cases fl with
 | ret u =>
  obtain⟨v,aG,H',J,rv,q⟩:=hs;exact fin J rv q
 | next =>
  obtain⟨aG,H',J,q⟩:=hs;exact fin (v:=V.aB) (u:=Value.none) J rfl q
 | brk =>
  obtain⟨_,_,_,q⟩:=hs;exact False.elim q
 | cont =>
  obtain⟨_,_,_,q⟩:=hs;exact False.elim q
section
variable{X:Cx}{x:Str}{p pos:Pos}{e:Expr}{es:List Expr}{t:TA}{id T:String}{r:List V->Hp->VK->Prop}
noncomputable def yx(r:List V->Hp->VK->Prop)(t:TA):TE:=λσ H Q=>t σ H λvs H1=>r vs H1 Q
theorem dW(hc:fJ X (.builtin id) r)(hg:Gl X x)(hm:X.mg x=none)(hv:bootBuiltins x=some (.builtin id))(ha:PA X (e::es) t)(hn:x≠"__name__" := by decide)(ig:(x == ("__debug__" : Str))=false:=by decide)
  (he:starEach (e::es) X.env=(false,eval e X.env)::starEach es X.env:=by rfl) (dU:(backTo pos (starEach es X.env)).any (·.1)=false:=by rfl):PE X (.Call (.Name x p) (e::es) [] pos) (yx r t):=by
 intro pins s σ H Q I h;refine wpAny_Call_Name_kw (iJ I hg hm hv ?_ hn ig);exact PyProof.Rows.callWith_builtin1 (aK (ha pos pins s σ H _ I h) λus s1 ⟨vs,H1,I1,r1,q1⟩=>hc pins s1 σ H1 vs us Q I1 r1 q1) he dU
theorem cF(hc:fJ X (.type T) r)(hg:Gl X x)(hm:X.mg x=none)(hv:bootBuiltins x=some (.type T))(ha:PA X (e::es) t)(hn:x≠"__name__" := by decide)(ig:(x == ("__debug__" : Str))=false:=by decide)
  (he:starEach (e::es) X.env=(false,eval e X.env)::starEach es X.env:=by rfl) (dU:(backTo pos (starEach es X.env)).any (·.1)=false:=by rfl):PE X (.Call (.Name x p) (e::es) [] pos) (yx r t):=by
 intro pins s σ H Q I h;refine wpAny_Call_Name_kw (iJ I hg hm hv ?_ hn ig);exact PyProof.Rows.callWith_type1 (aK (ha pos pins s σ H _ I h) λus s1 ⟨vs,H1,I1,r1,q1⟩=>hc pins s1 σ H1 vs us Q I1 r1 q1) he dU
end
end _L
namespace _H
open PySem PyProof.Rows
noncomputable def lexLt:List Int->List Int->Bool
 | [],[]=>false
 | [],_::_=>true
 | _::_,[]=>false
 | x::xs,y::ys=>if x=y then lexLt xs ys else decide (x<y)
section
open PySem.SeqAt
open PySem.AutoSeq1 (wpAny_loadPart')
open PySem.MeetsSeq PySem.MeetsSeq2 PySem.MeetsSeq3
end
section
variable{prog:Program}{w:World}{A:Around}{E:Value->Shared->Prop}{s:Shared}
noncomputable def cA(n d:Nat):Option Int->Nat
 | none=>d
 | some v=>if v<0 then(v+(n:Int)).toNat else min v.toNat n
theorem q9(n d:Nat):cA n d none=d:=rfl
theorem q_(n d k:Nat):cA n d (some (k:Int))=min k n:=by
 show (if (k:Int)<0 then((k:Int)+(n:Int)).toNat else min (k:Int).toNat n)=min k n
 rw[if_neg (by lia),Int.toNat_natCast]
end
end _H
namespace _L
open PySem PySem.Spec PyProof.Rows
noncomputable abbrev TO:=St->Hp->(Option Int->Hp->Prop)->Prop
noncomputable def PO(X:Cx)(e:Option Expr)(t:TO):Prop :=
 ∀(pins:List (Addr×Obj)) (s:Shared) (σ:St) (H:Hp) (Q:Option Int->Hp->Prop),Inv X pins σ H s->t σ H Q->
  wpAny (model X.prog X.w) X.A (evalPart e X.env) (λu s'=>∃o H',Inv X pins σ H' s'/\IsPart u o/\Q o H') X.xe s
noncomputable def Eo:TO:=λ_ H Q=>Q none H
noncomputable def Ep(t:TE):TO:=λσ H Q=>t σ H λx H1=>∃i,x = .int i/\Q (some i) H1
section
variable{X:Cx}{e:Expr}{te:TE}{lo hi:Option Expr}{tl th:TO}{pos p2:Pos}
theorem lN:PO X none Eo:=by
 intro pins s σ H Q I h;rw[evalPart_none];exact wpAny_pure ⟨none,H,I,.none,h⟩
theorem lO(h:PE X e te):PO X (some e) (Ep te):=by
 intro pins s σ H Q I hw;rw[evalPart_some];refine aK (h pins s σ H _ I hw) λu s1 ⟨x,H1,I1,r1,q1⟩=>?_;obtain⟨i,rfl,q⟩:=q1;obtain⟨t,rfl⟩:=r1;exact⟨some i,H1,I1,.int i t,q⟩
noncomputable def yy(X:Cx)(r:V->Option Int->Option Int->Hp->VK->Prop):Prop :=
 ∀(pins:List (Addr×Obj)) (s:Shared) (σ:St) (H:Hp) (x:V) (v vl vu:Value) (lo hi:Option Int) (sl:Addr) (Q:VK),Inv X pins σ H s->RelV x v->s.heap.IsSliceOf sl vl vu .none->IsPart vl lo->IsPart vu hi->r x lo hi H Q->
  ∃T id,typeLookup (.type T) "__getitem__" = pure (some (.builtin id))/\s.TypeIs v T/\wpAny (model X.prog X.w) X.A (getItem v (.ref sl)) (EP X pins σ Q) X.xe s
noncomputable def Er(r:V->Option Int->Option Int->Hp->VK->Prop)(te:TE)(tl th:TO):TE:=λσ H Q=>te σ H λx H1=>tl σ H1 λl H2=>th σ H2 λu H3=>r x l u H3 Q
theorem lP{r:V->Option Int->Option Int->Hp->VK->Prop}(hr:yy X r)(he:PE X e te)(hl:PO X lo tl)(hu:PO X hi th):PE X (.Subscript e (.Slice lo hi none p2) pos) (Er r te tl th):=by
 intro pins s σ H Q I h;refine Subscript_ (aK (he pins s σ H _ I h) λv s1 ⟨x,H1,I1,r1,q1⟩=>?_);refine wpAny_Slice (aK (hl pins s1 σ H1 _ I1 q1) λvl s2 ⟨l,H2,I2,pl,q2⟩=>aK (hu pins s2 σ H2 _ I2 q2) λvu s3 ⟨u,H3,I3,pu,q3⟩=>?_);rw[evalPart_none];refine wpAny_pure ?_;have I4:Inv X pins σ H3 { s3 with heap:=s3.heap.push { cls:=.type "slice",data:=.fields #[vl,vu,.none] }}:=I3.kept (t':=s3.toks) λb ob q=>Heap.get?_push_of_some _ q;obtain⟨T,id,hT,ht,hg⟩:=hr pins { s3 with heap:=s3.heap.push { cls:=.type "slice",data:=.fields #[vl,vu,.none] }} σ H3 x v vl vu l u s3.heap.objs.size Q I4 r1 (Heap.IsSliceOf.new ..) pl pu q3
 show wpAny (model X.prog X.w) X.A (subscriptTail e (.Slice lo hi none p2) v (.ref s3.heap.objs.size)) (EP X pins σ Q) X.xe { s3 with heap:=s3.heap.push { cls:=.type "slice",data:=.fields #[vl,vu,.none] }};exact tail_any (ops:=[.ref s3.heap.objs.size,v]) ht hT hg (by with_unfolding_all rfl)
noncomputable def dX(xs:List V)(lo hi:Option Int):List V:=(xs.drop (_H.cA xs.length 0 lo)).take (_H.cA xs.length xs.length hi - _H.cA xs.length 0 lo)
theorem Es(xs:List V)(lo hi:Option Int):(dX xs lo hi).length<=xs.length:=by
 unfold dX;rw[List.length_take,List.length_drop];lia
noncomputable def Nj(K:PySem.W.Frag):R2:=λx y H Q=>∃a b xs ys,x = .ref a/\y = .ref b/\aC K H a xs/\aC K H b ys/\xs≠[]/\xs.length+ys.length<=sizeLine/\
 (ys = []->Q (.ref a) H)/\(ys≠[]->∀p,H p=none->Q (.ref p) (upd H p (.tup (xs++ys))))
end
noncomputable def gJ(n:Nat)(i:Int):Option Nat:=if 0<=i then(if i<n then some i.toNat else none) else if -(n:Int)<=i then some (i+n).toNat else none
noncomputable def eB{α:Type}(xs:List α)(i:Int):Option α:=(gJ xs.length i).bind λj=>xs[j]?
theorem Et{n:Nat}{i:Int}{j:Nat}(h:gJ n i=some j):seqIndex? i n=some j/\j<n/\-(n:Int)<=i/\i<n:=by
 unfold gJ at h;by_cases h0:0<=i
 ·rw[if_pos h0] at h;by_cases h1:i<n
  ·rw[if_pos h1] at h;have e:i.toNat=j:=Option.some.inj h;exact⟨by rw[seqIndex_of h0 h1,e],by lia,by lia,h1⟩
  ·rw[if_neg h1] at h;cases h
 ·rw[if_neg h0] at h;by_cases h1 : -(n:Int)<=i
  ·rw[if_pos h1] at h;have e:(i+n).toNat=j:=Option.some.inj h;exact⟨by rw[seqIndex_neg (by lia) h1,e],by lia,h1,by lia⟩
  ·rw[if_neg h1] at h;cases h
theorem rm{α:Type}{xs:List α}{i:Int}{v:α}(h:eB xs i=some v):∃j,seqIndex? i xs.length=some j/\xs[j]? = some v/\j<xs.length/\-(xs.length:Int)<=i/\i<xs.length:=by
 unfold eB at h;cases e:gJ xs.length i with
 | none=>rw[e] at h;cases h
 | some j =>
  rw[e] at h;obtain⟨h1,h2,h3,h4⟩:=Et e;exact⟨j,h1,h,h2,h3,h4⟩
theorem lQ{α:Type}{xs:List α}{j:Nat}{v:α}(h:xs[j]? = some v):eB xs (j:Int)=some v:=by
 have hj:j<xs.length:=(List.getElem?_eq_some_iff.mp h).1;have e:gJ xs.length (j:Int)=some j:=by
  unfold gJ;rw[if_pos (by lia),if_pos (by lia)];simp
 unfold eB;rw[e];exact h
noncomputable def Eu(b:Expr):Prop:=∀o i,subscripted b false o i=operate [o,i] (getItem o i)
noncomputable def jP(X:Cx)(r:R2):Prop :=
 ∀(value slice:Expr) (pins:List (Addr×Obj)) (s:Shared) (σ:St) (H:Hp) (x y:V) (v u:Value) (Q:VK),Inv X pins σ H s->RelV x v->RelV y u->r x y H Q->
  subscripted slice false v u=operate [v,u] (getItem v u)->wpAny (model X.prog X.w) X.A (subscriptTail value slice v u) (EP X pins σ Q) X.xe s
noncomputable def lR(X:Cx)(id:String)(r:V->List V->Hp->VK->Prop):Prop :=
 ∀(pins:List (Addr×Obj)) (s:Shared) (σ:St) (H:Hp) (x:V) (xs:List V) (v:Value) (us:List Value) (Q:VK),Inv X pins σ H s->RelV x v->Vals xs us->r x xs H Q->
  wpAny (model X.prog X.w) X.A (call (.builtin id) (v::us)) (EP X pins σ Q) X.xe s
section
variable{X:Cx}{a b:Expr}{ta tb:TE}{pos:Pos}
theorem aE{r:R2}(hr:jP X r)(ha:PE X a ta)(hb:PE X b tb)(hs:Eu b):PE X (.Subscript a b pos) (lH r ta tb):=by
 intro pins s σ H Q I h;exact Subscript_ (qU ha hb I h λv u s2 x y H2 I2 rx ry q=>hr a b pins s2 σ H2 x y v u Q I2 rx ry q (hs _ _))
noncomputable def yz(K:PySem.W.Frag):R2:=λx y H Q=>∃p xs i v,x = .ref p/\y = .int i/\au K H p xs/\eB xs i=some v/\Q v H
noncomputable def Ew(K:PySem.W.Frag):R2:=λx y H Q=>∃p xs i v,x = .ref p/\y = .int i/\aC K H p xs/\eB xs i=some v/\Q v H
noncomputable def Ex:R2:=λx y H Q=>∃z i c,x = .str z/\y = .int i/\z.length<=sizeLine/\eB z.cps.toList i=some c/\Q (.str ⟨#[c]⟩) H
theorem bO:jP X (yz X.K):=by
 intro value slice pins s σ H x y v u Q I rx ry h hs;obtain⟨p,xs,i,z,rfl,rfl,hq,he,q⟩:=h;cases rx;obtain⟨t,rfl⟩:=ry;obtain⟨ao,r,pl,hz⟩:=I.list hq;obtain⟨j,h1,h2,h3,h4,h5⟩:=rm he;obtain⟨w,ew,rq⟩:=r.get h2;have hl:=r.length;have hn:=iR;have fin:EP X pins σ Q w s:=⟨z,H,I,rq,q⟩;by_cases h0:0<=i
 ·have hj:i.toNat=j:=by
   rw[seqIndex_of h0 h5] at h1;exact Option.some.inj h1
  exact item_listR pl.isList h0 (by lia) (by rw[hj];simpa using ew) fin hs
 ·have hj:(i+(ao.toArray.size:Int)).toNat=j:=by
   rw[seqIndex_neg (by lia) h4] at h1
   rw[List.size_toArray,← hl];exact Option.some.inj h1
  exact subscriptTail_builtinR (x:=w) pl.isList.typeIs slot_list_getitem.lookup
   (wpAny_getItem_list_neg (Q:=λr s'=>r=w/\EP X pins σ Q r s') pl.isList (by lia) (by rw[List.size_toArray] <;> lia) (by lia) (by rw[hj];simpa using ew) ⟨rfl,fin⟩) hs
theorem aY:jP X (Ew X.K):=by
 intro value slice pins s σ H x y v u Q I rx ry h hs;obtain⟨p,xs,i,z,rfl,rfl,hq,he,q⟩:=h;cases rx;obtain⟨t,rfl⟩:=ry;obtain⟨ao,r,pl,hz⟩:=I.tuple hq;obtain⟨j,h1,h2,h3,h4,h5⟩:=rm he;obtain⟨w,ew,rq⟩:=r.get h2;have hl:=r.length;have hn:=iR;have fin:EP X pins σ Q w s:=⟨z,H,I,rq,q⟩;exact subscriptTail_builtinR (x:=w) pl.typeIs slot_tuple_getitem.lookup
  (getItem_tuple (j:=j) (Q:=λr s'=>r=w/\EP X pins σ Q r s') pl (by lia) (by lia) (by rw[List.size_toArray,← hl];exact h1) (by simpa using ew) ⟨rfl,fin⟩) hs
theorem Ey:jP X Ex:=by
 intro value slice pins s σ H x y v u Q I rx ry h hs;obtain⟨z,i,c,rfl,rfl,hz,he,q⟩:=h;obtain⟨t,rfl⟩:=rx;obtain⟨t',rfl⟩:=ry;obtain⟨j,h1,h2,h3,h4,h5⟩:=rm he;have hl:z.cps.toList.length=z.length:=by simp[Str.length]
 rw[hl] at h1 h4 h5;have hn:=iR;exact tail_any (typeIs_str s z t) slot_str_getitem.lookup (getItem_str (c:=c) (by
  have e1:decide (i < -(2 ^ 63:Int))=false:=decide_eq_false (by lia)
  have e2:decide (i ≥ 2 ^ 63)=false:=decide_eq_false (by lia)
  rw[e1,e2,Bool.or_false]) (by rw[h1];simpa using h2) ⟨.str ⟨#[c]⟩,H,I.tok _,⟨_,rfl⟩,q⟩) hs
noncomputable def Nk:V->V->V->Hp->(Hp->Prop)->Prop:=λo i v H Q=>∃p xs k j,o = .ref p/\i = .int k/\H p=some (.lst xs)/\gJ xs.length k=some j/\Q (upd H p (.lst (xs.set j v)))
theorem Ez(lo hi:Option Int)(n:Nat):(sliceBounds lo hi none n).1=((_H.cA n 0 lo:Nat):Int)/\(sliceBounds lo hi none n).2.1=((_H.cA n n hi:Nat):Int)/\(sliceBounds lo hi none n).2.2=1:=by
 refine⟨?_,?_,rfl⟩
 ·cases lo with
  | none=>simp[sliceBounds,_H.cA]
  | some i =>
   simp only[sliceBounds,_H.cA,Option.getD_none,show (1:Int) > 0 by decide,if_true]
   by_cases h:i<0
   ·simp only[h,if_true] <;> lia
   ·simp only[h,if_false] <;> lia
 ·cases hi with
  | none=>simp[sliceBounds,_H.cA]
  | some i =>
   simp only[sliceBounds,_H.cA,Option.getD_none,show (1:Int) > 0 by decide,if_true]
   by_cases h:i<0
   ·simp only[h,if_true] <;> lia
   ·simp only[h,if_false] <;> lia
theorem EA(ao:List Value)(lo hi:Option Int):slicePick ao.toArray lo hi none=((ao.drop (_H.cA ao.length 0 lo)).take (_H.cA ao.length ao.length hi - _H.cA ao.length 0 lo)).toArray:=by
 obtain⟨h1,h2,h3⟩:=Ez lo hi ao.toArray.size;unfold slicePick;rw[h1,h2,h3];simp only[sliceRange_one,pick_run,List.size_toArray] <;> rfl
noncomputable def EB(K:PySem.W.Frag):V->Option Int->Option Int->Hp->VK->Prop:=λx lo hi H Q=>∃a xs,x = .ref a/\au K H a xs/\∀p,H p=none->Q (.ref p) (upd H p (.lst (dX xs lo hi)))
theorem lT:yy X (EB X.K):=by
 intro pins s σ H x v vl vu lo hi sl Q I rx hs pl pu h;obtain⟨a,xs,rfl,hx,q⟩:=h;cases rx;obtain⟨ao,r,ht,hz⟩:=I.list hx;have hlen:=r.length;refine⟨"list",_,slot_list_getitem.lookup,ht.isList.typeIs,?_⟩;refine wpAny_getItem_list_slice ht.isList hs pl pu .none (by simp) ?_ (by rw[List.size_toArray] <;> lia)
 rw[EA,← hlen];refine⟨.ref s.heap.objs.size,_,I.laid (t':=s.toks) (o:=.lst (dX xs lo hi)) (λb ob q=>Heap.get?_push_of_some _ q) (Nat.le_refl _) ?_,rfl,q _ (I.aJ.fresh (Nat.le_refl _))⟩;exact⟨Nat.le_trans (Es xs lo hi) hz,_,0,(r.drop (_H.cA xs.length 0 lo)).take (_H.cA xs.length xs.length hi - _H.cA xs.length 0 lo),Heap.get?_push_size _ rfl⟩
noncomputable def lU:V->Bool
 | .aB=>true
 | .bl _=>true
 | .int _=>true
 | .str _=>true
 | _=>false
noncomputable def iT:V->V->Bool
 | .aB,.aB=>true
 | .bl a,.bl b=>a == b
 | .bl a,.int b=>(if a then 1 else 0) == b
 | .int a,.bl b=>a == (if b then 1 else 0)
 | .int a,.int b=>a == b
 | .str a,.str b=>a == b
 | _,_=>false
theorem yC{A:Around}{s:Shared}{y x:V}{u v:Value}(ry:RelV y u)(rx:RelV x v)(fy:lU y=true)(fx:lU x=true):SeqAt.EqAt A s u v (iT y x):=by
 cases y with
 | aB =>
  cases ry;cases x with
  | aB=>cases rx;exact SeqAt.EqAt.same _
  | bl b=>cases rx;exact SeqAt.EqAt.none_bool b
  | int b=>obtain⟨t,rfl⟩:=rx;exact SeqAt.EqAt.none_int b t
  | str b=>obtain⟨t,rfl⟩:=rx;exact SeqAt.EqAt.none_str b t
  | _=>exact absurd (show false=true from fx) Bool.false_ne_true
 | bl a =>
  cases ry;cases x with
  | aB=>cases rx;exact SeqAt.EqAt.bool_none a
  | bl b=>cases rx;exact SeqAt.EqAt.bool_bool a b
  | int b=>obtain⟨t,rfl⟩:=rx;exact SeqAt.EqAt.bool_int a b t
  | str b=>obtain⟨t,rfl⟩:=rx;exact SeqAt.EqAt.bool_str a b t
  | _=>exact absurd (show false=true from fx) Bool.false_ne_true
 | int a =>
  obtain⟨t',rfl⟩:=ry;cases x with
  | aB=>cases rx;exact SeqAt.EqAt.int_none a t'
  | bl b=>cases rx;exact SeqAt.EqAt.int_bool a t' b
  | int b=>obtain⟨t,rfl⟩:=rx;exact SeqAt.EqAt.int_int a t' b t
  | str b=>obtain⟨t,rfl⟩:=rx;exact SeqAt.EqAt.int_str a t' b t
  | _=>exact absurd (show false=true from fx) Bool.false_ne_true
 | str a =>
  obtain⟨t',rfl⟩:=ry;cases x with
  | aB=>cases rx;exact SeqAt.EqAt.str_none a t'
  | bl b=>cases rx;exact SeqAt.EqAt.str_bool a t' b
  | int b=>obtain⟨t,rfl⟩:=rx;exact SeqAt.EqAt.str_int a t' b t
  | str b=>obtain⟨t,rfl⟩:=rx;exact SeqAt.EqAt.str_str a t' b t
  | _=>exact absurd (show false=true from fx) Bool.false_ne_true
 | _=>exact absurd (show false=true from fy) Bool.false_ne_true
noncomputable def yD(x:V)(xs:List V):Bool:=xs.any λy=>iT y x
noncomputable def Nl(K:PySem.W.Frag)(neg:Bool):R2:=λx y H Q=>∃p xs,y = .ref p/\(au K H p xs\/aC K H p xs)/\lU x=true/\xs.all lU=true/\Q (.bl (if neg then !yD x xs else yD x xs)) H
theorem lV:fJ X (.builtin "len") (λxs H Q=>∃p ys,xs = [.ref p]/\(au X.K H p ys\/aC X.K H p ys)/\Q (.int ys.length) H):=by
 intro pins s σ H xs us Q I r h;obtain⟨p,ys,rfl,hq,q⟩:=h;obtain⟨u,rfl,rx⟩:=vals1 r;cases rx;have hn:=iR;rcases hq with hq | hq
 ·obtain⟨ao,r',pl,hz⟩:=I.list hq;have hlen:=r'.length;exact Calls.call_len_list pl.isList (by simp only[List.size_toArray] <;> lia) ⟨.int ys.length,H,I.tok _,⟨s.toks+1,by rw[List.size_toArray,hlen]⟩,q⟩
 ·obtain⟨ao,r',pl,hz⟩:=I.tuple hq;have hlen:=r'.length;exact len_tuple pl (by simp only[List.size_toArray] <;> lia) ⟨.int ys.length,H,I.tok _,⟨s.toks+1,by rw[List.size_toArray,hlen]⟩,q⟩
theorem yE:fJ X (.builtin "len") (λxs H Q=>∃z,xs = [.str z]/\z.length<=sizeLine/\Q (.int z.length) H):=by
 intro pins s σ H xs us Q I r h;obtain⟨z,rfl,hz,q⟩:=h;obtain⟨u,rfl,t,rfl⟩:=vals1 r;have hn:=iR;exact len_str (by lia) ⟨.int z.length,H,I.tok _,⟨_,rfl⟩,q⟩
theorem rz:fJ X (.type "list") (λxs H Q=>∃p ys,xs = [.ref p]/\(au X.K H p ys\/aC X.K H p ys)/\∀l,H l=none->Q (.ref l) (upd H l (.lst ys))):=by
 intro pins s σ H xs us Q I r h;obtain⟨p,ys,rfl,hq,q⟩:=h;obtain⟨u,rfl,rx⟩:=vals1 r;cases rx;have fin:∀(ao:List Value),Vals ys ao->ys.length<=sizeLine->∀(h':Heap) (c':Nat),(∀b o',s.heap.get? b=some o'->h'.get? b=some o')->
   h'.get? s.heap.objs.size=some { cls:=.type "list",dict:=none,data:=.seq ao.toArray c',slots := #[] }->EP X pins σ Q (.ref s.heap.objs.size) { s with heap:=h' }:=λao r' hz h' c' kp e =>
  ⟨.ref s.heap.objs.size,_,I.laid (t':=s.toks) kp (Nat.le_refl _) (show cz X.prog X.w _ h' _ (.lst ys) from⟨hz,ao,c',r',e⟩),rfl,q _ (I.aJ.fresh (Nat.le_refl _))⟩
 rcases hq with hq | hq
 ·obtain⟨ao,r',pl,hz⟩:=I.list hq;have hlen:=r'.length;obtain⟨o,ho,hc,n,hd⟩:=pl.isList;exact call_list_seq p (.inl rfl) ho hc hd (λh' c' kp e=>fin ao r' hz h' c' kp e) (by simp only[List.size_toArray] <;> lia)
 ·obtain⟨ao,r',pl,hz⟩:=I.tuple hq;have hlen:=r'.length;obtain⟨o,ho,hc,n,hd⟩:=pl;exact call_list_seq p (.inr rfl) ho hc hd (λh' c' kp e=>fin ao r' hz h' c' kp e) (by simp only[List.size_toArray] <;> lia)
theorem lW:fJ X (.type "tuple") (λxs H Q=>∃p ys,xs = [.ref p]/\((au X.K H p ys/\∀l,H l=none->Q (.ref l) (upd H l (.tup ys)))\/(aC X.K H p ys/\Q (.ref p) H))):=by
 intro pins s σ H xs us Q I r h;obtain⟨p,ys,rfl,h⟩:=h;obtain⟨u,rfl,rx⟩:=vals1 r;cases rx;rcases h with⟨hq,q⟩ | ⟨hq,q⟩
 ·obtain⟨ao,r',pl,hz⟩:=I.list hq;have hlen:=r'.length;refine call_tuple_list pl.isList (λh' kp=>?_) (by simp only[List.size_toArray] <;> lia)
  have I1:Inv X pins σ H { s with heap:=h' }:=I.kept (t':=s.toks) kp;have I2:Inv X pins σ (upd H h'.objs.size (.tup ys)) { s with heap:=h'.push { cls:=.type "tuple",data:=.seq ao.toArray }} :=
   I1.laid (t':=s.toks) (λb o e=>Heap.get?_push_of_some _ e) (Nat.le_refl _) (show cz X.prog X.w _ _ _ (.tup ys) from⟨hz,ao,r',IsTup.new _ _⟩)
  exact⟨.ref h'.objs.size,_,I2,rfl,q _ (I1.aJ.fresh (Nat.le_refl _))⟩
 ·obtain⟨ao,r',pl,hz⟩:=I.tuple hq;exact call_tuple_same pl ⟨.ref p,H,I,rfl,q⟩
noncomputable def rA(K:PySem.W.Frag)(T:String)(x:V)(H:Hp):Prop:=match x with
 | .str _=>T = "str"
 | .int _=>T = "int"
 | .ref p=>(T = "list"/\∃xs,au K H p xs)\/(T = "tuple"/\∃o,K.lookup p=some o/\o.cls = .type "tuple"/\o.dict=none)\/
   (T = "dict"/\((∃aN,H p=some (.dK aN))\/∃aN,H p=some (.dT aN)))\/(T = "set"/\∃S n,H p=some (.set S n))
 | _=>False
theorem EC{pins:List (Addr×Obj)}{σ:St}{H:Hp}{s:Shared}{T:String}{x:V}{v:Value}(I:Inv X pins σ H s)(r:RelV x v)(ty:rA X.K T x H) :
  s.TypeIs v T/\∀a,v = .ref a->∃ob,s.heap.get? a=some ob/\ob.dict=none:=by
 cases x with
 | str z =>
  obtain⟨t,rfl⟩:=r;cases (show T = "str" from ty);exact⟨typeIs_str s z t,λ_ e=>nomatch e⟩
 | int i =>
  obtain⟨t,rfl⟩:=r;cases (show T = "int" from ty);exact⟨typeIs_int s i t,λ_ e=>nomatch e⟩
 | ref p =>
  cases r;rcases ty with⟨rfl,xs,hq⟩ | ⟨rfl,o,hk,hc,hd⟩ | ⟨rfl,hk⟩ | ⟨rfl,S,n,hk⟩
  ·obtain⟨ao,_,pl,_⟩:=I.list hq;refine⟨pl.isList.typeIs,λa e=>?_⟩;cases e;obtain⟨o,n,e,c,hd,_⟩:=pl;exact⟨o,e,hd⟩
  ·refine⟨⟨o,I.bT p o hk,hc⟩,λa e=>?_⟩;cases e;exact⟨o,I.bT _ o hk,hd⟩
  ·have z:∃o,s.heap.get? p=some o/\o.ExactDict:=by
    rcases hk with⟨aN,hk⟩ | ⟨aN,hk⟩
    ·obtain⟨_,_,_,_,o,_,_,e,ex,_⟩:=I.aJ p _ hk;exact⟨o,e,ex⟩
    ·obtain⟨_,_,_,_,o,_,_,e,ex,_⟩:=I.aJ p _ hk;exact⟨o,e,ex⟩
   obtain⟨o,e,ex⟩:=z;refine⟨⟨o,e,ex.1⟩,λa e2=>?_⟩;cases e2;exact⟨o,e,ex.2.1⟩
  ·obtain⟨o,_,_,_,e,ex,_⟩:=I.aJ p _ hk;refine⟨⟨o,e,ex.1⟩,λa e2=>?_⟩;cases e2;exact⟨o,e,ex.2.1⟩
 | _=>exact False.elim ty
noncomputable def Nn(K:PySem.W.Frag)(T:String)(r:V->List V->Hp->VK->Prop)(to:TE):TE:=λσ H Q=>to σ H λx H1=>rA K T x H1/\r x [] H1 Q
noncomputable def ED(K:PySem.W.Frag)(T:String)(r:V->List V->Hp->VK->Prop)(to:TE)(t:TA):TE:=λσ H Q=>to σ H λx H1=>rA K T x H1/\t σ H1 λxs H2=>r x xs H2 Q
variable{o e:Expr}{es:List Expr}{to:TE}{t:TA}{name:Str}{apos fM:Pos}{T id:String}{r:V->List V->Hp->VK->Prop}
theorem dY(pa:PlainAttrs T)(slot:Slot T name id)(EE:typeOf (.builtin id)=pure (.type "method_descriptor"))(hm:lR X id r)(ho:PE X o to)(ha:PA X (e::es) t)
  (EF:attributeBase o name X.env (eval o X.env)=eval o X.env:=by rfl)
  (EG:((backTo fM (starEach (e::es) X.env)).all (λx => !x.1) && (backToKw fM (keywordEach [] X.env)).all (λx=>x.1.isSome)
   && decide ((e::es).length+([]:List Keyword).length+(if ([]:List Keyword).isEmpty then 0 else 1)<30))=true:=by rfl)
  (EH:(apos.endLine == fM.line)=true:=by rfl) (hs:starEach (e::es) X.env=(false,eval e X.env)::starEach es X.env:=by rfl) (EI:(backTo fM (starEach es X.env)).any (·.1)=false:=by rfl) :
  PE X (.Call (.Attribute o name apos) (e::es) [] fM) (ED X.K T r to t):=by
 intro pins s σ H Q I h;refine wpAny_Call_method_late EF EG EH rfl (aK (ho pins s σ H _ I h) λv s1 ⟨x,H1,I1,r1,ty,q1⟩=>?_);obtain⟨h1,h2⟩:=EC I1 r1 ty;refine⟨T,id,pa,slot,EE,h1,h2,?_⟩;have hA:=ha fM pins s1 σ H1 _ I1 q1;rw[hs] at hA ⊢;refine Calls.callWith_builtin (by show (false || (backTo fM (starEach es X.env)).any (·.1))=false;rw[EI] <;> rfl) (Calls.evalArgs_plain ?_)
 exact aK hA λus s2 ⟨vs,H2,I2,r2,q2⟩=>hm pins s2 σ H2 x vs v us Q I2 r1 r2 q2
end
noncomputable def yF(X:Cx)(id:String)(r:V->List V->Hp->VK->Prop):Prop :=
 ∀(pins:List (Addr×Obj)) (s:Shared) (σ:St) (H:Hp) (x:V) (xs:List V) (v:Value) (us:List Value) (Q:VK),Inv X pins σ H s->RelV x v->Vals xs us->r x xs H Q->
  wpAny (model X.prog X.w) X.A (call (.builtin id) (v::us)) (EP X pins σ Q) X.xe s
theorem Vals.one:∀ {x:V} {us:List Value},Vals [x] us->∃u,us = [u]/\RelV x u
 | _,_,.cons r .nil=>⟨_,rfl,r⟩
section
variable{X:Cx}{pins:List (Addr×Obj)}{σ:St}{H:Hp}{s:Shared}{l b:Addr}{xs ys zs:List V}
theorem Inv.yG{ao its':List Value}{n:Nat}{f:Array Value->Array Value}{t':Nat}(I:Inv X pins σ H s)(hH:H l=some (.lst xs))
  (e:s.heap.get? l=some { cls:=.type "list",data:=.seq ao.toArray n }) (hf:f ao.toArray=its'.toArray) (hv:Vals ys its') (hz:ys.length<=sizeLine) :
  Inv X pins σ (upd H l (.lst ys)) { s with heap:=s.heap.update l (Obj.mapSeq f),toks:=t' }:=by
 have q:=PySem.IsL.update e f;rw[hf] at q;refine I.write (x:=l) (e:=l) (by rw[hH];exact trivial) (.inl rfl) (λb' u hb hu=>(Heap.get?_update_other s.heap (Obj.mapSeq f) (Ne.symm hb)).trans hu) ⟨_,q⟩ ?_
 exact⟨hz,its',_,hv,q⟩
theorem Inv.EJ{ao:List Value}{t':Nat}(I:Inv X pins σ H s)(hv:Vals ys ao)(hz:ys.length<=sizeLine) :
  Inv X pins σ (upd H s.heap.objs.size (.lst ys)) { s with heap:=s.heap.push { cls:=.type "list",data:=.seq ao.toArray },toks:=t' } :=
 I.laid (λ_ _ q=>Heap.get?_push_of_some _ q) (Nat.le_refl _) ⟨hz,ao,0,hv,Heap.get?_push_size _ rfl⟩
theorem Inv.fresh(I:Inv X pins σ H s):H s.heap.objs.size=none:=I.aJ.fresh (Nat.le_refl _)
theorem Inv.iU(I:Inv X pins σ H s)(hH:H l=some (.lst xs)):xs.length<=sizeLine/\∃(ao:List Value) (n:Nat),Vals xs ao/\xs.length=ao.length/\s.heap.get? l=some { cls:=.type "list",data:=.seq ao.toArray n }:=by
 obtain⟨z,ao,n,r,e⟩:=I.aJ l _ hH;exact⟨z,ao,n,r,r.length,e⟩
theorem EK{n:Nat}(h:n<=sizeLine):Builtin.List.listTooLong n=false:=by
 unfold Builtin.List.listTooLong;exact decide_eq_false (by lia)
end
section
variable{X:Cx}
noncomputable def EL:V->List V->Hp->VK->Prop:=λx vs H Q=>∃l xs y,x = .ref l/\vs = [y]/\H l=some (.lst xs)/\xs.length<sizeLine/\Q .aB (upd H l (.lst (xs++[y])))
theorem jQ:yF X "list.append" EL:=by
 intro pins s σ H x vs v us Q I rx rv h;obtain⟨l,xs,y,rfl,rfl,hH,hz,q⟩:=h;cases rx;obtain⟨u,rfl,ru⟩:=rv.one;obtain⟨z,ao,n,r,hl,e⟩:=I.iU hH;refine call_meets F.slot_list_append ⟨_,e,rfl⟩ F.entry_list_append (F.args_list_append_2 _ _) (PySem.list_append l ao.toArray n u (by rw[List.size_toArray];lia)) ⟨e,?_⟩
 refine⟨.aB,_,I.yG (its':=ao++[u]) hH e (by simp) (r.append (.cons ru .nil)) ?_,rfl,q⟩
 rw[List.length_append,List.length_singleton];lia
noncomputable def EM:V->List V->Hp->VK->Prop:=λx vs H Q=>∃l b xs zs,x = .ref l/\vs = [.ref b]/\H l=some (.lst xs)/\H b=some (.lst zs)/\xs.length+zs.length<=sizeLine/\Q .aB (upd H l (.lst (xs++zs)))
theorem rB:yF X "list.extend" EM:=by
 intro pins s σ H x vs v us Q I rx rv h;obtain⟨l,b,xs,zs,rfl,rfl,hH,hB,hz,q⟩:=h;cases rx;obtain⟨u,rfl,ru⟩:=rv.one;cases ru;obtain⟨z,ao,n,r,hl,e⟩:=I.iU hH;obtain⟨z2,bZ,n2,r2,lX,e2⟩:=I.iU hB;have iS:ao.toArray.size+bZ.toArray.size<=sizeLine:=by rw[List.size_toArray,List.size_toArray];lia
 have EN:¬ (!ao.toArray.isEmpty && Builtin.List.listTooLong (ao.toArray.size+bZ.toArray.size))=true:=by
  rw[EK iS,Bool.and_false];exact Bool.false_ne_true
 refine call_meets F.slot_list_extend ⟨_,e,rfl⟩ F.entry_list_extend (F.args_list_extend_2 _ _)
  (AutoSeq1.list_extend_list_list_0 l ao.toArray n b bZ.toArray n2 EN (by rw[List.size_toArray];lia) (by lia)) ⟨e,e2,?_⟩
 refine⟨.aB,_,I.yG (its':=ao++bZ) hH e (by simp) (r.append r2) ?_,rfl,q⟩
 rw[List.length_append];lia
noncomputable def Np:V->List V->Hp->VK->Prop:=λx vs H Q=>∃l xs y,x = .ref l/\vs = []/\H l=some (.lst xs)/\xs[xs.length - 1]? = some y/\Q y (upd H l (.lst xs.dropLast))
noncomputable def Nq:V->List V->Hp->VK->Prop:=λx vs H Q=>∃l xs,x = .ref l/\vs = []/\H l=some (.lst xs)/\Q .aB (upd H l (.lst []))
noncomputable def EO:R2:=λx y H Q=>∃l b xs zs,x = .ref l/\y = .ref b/\H l=some (.lst xs)/\H b=some (.lst zs)/\xs.length+zs.length<=sizeLine/\∀p,H p=none->Q (.ref p) (upd H p (.lst (xs++zs)))
theorem dZ:bU X (binaryOp .Add) EO:=by
 intro pins s σ H x y v u Q I rx ry h;obtain⟨l,b,xs,zs,rfl,rfl,hH,hB,hz,q⟩:=h;cases rx;cases ry;obtain⟨z,ao,n,r,hl,e⟩:=I.iU hH;obtain⟨z2,bZ,n2,r2,lX,e2⟩:=I.iU hB;refine PySem.P.add_list e e2 ?_ (by rw[List.size_toArray,List.size_toArray];lia)
 have ea:ao.toArray++bZ.toArray=(ao++bZ).toArray:=by simp
 rw[ea];exact⟨.ref _,_,I.EJ (t':=s.toks) (r.append r2) (by rw[List.length_append];lia),rfl,q _ I.fresh⟩
noncomputable def Nr:R2:=λx y H Q=>∃l k xs,x = .ref l/\y = .int k/\H l=some (.lst xs)/\-(2 ^ 63)<=k/\k<2 ^ 63/\xs.length*k.toNat<=sizeLine/\
 ∀p,H p=none->Q (.ref p) (upd H p (.lst (List.replicate k.toNat xs).flatten))
end
section
variable{prog:Program}{w:World}{A:Around}{E:Value->Shared->Prop}{s:Shared}
end
section
variable{X:Cx}
end
section
variable{κ:Type}[DecidableEq κ]
noncomputable def yH(aN:List (κ×V))(k:κ):Option V:=(aN.find? λkv=>decide (kv.1=k)).map (·.2)
noncomputable def putK(aN:List (κ×V))(k:κ)(v:V):List (κ×V) :=
 if (aN.any λkv=>decide (kv.1=k))=true then aN.map (λkv=>if kv.1=k then(kv.1,v) else kv) else aN++[(k,v)]
end
section
variable{P:Program}{w:World}{H:Hp}{h:Heap}{a:Addr}
end
noncomputable def lY(H:Hp)(a:Addr)(y:V)(r:Option V):Prop :=
 (∃aN k,Rd H a (.dK aN)/\y=kV k/\r=yH aN k)\/∃aN k b,Rd H a (.dT aN)/\y = .ref b/\H b=some (.tup (k.map kV))/\r=yH aN k
noncomputable def ER(H:Hp)(a:Addr)(y v:V)(H':Hp):Prop :=
 (∃aN k,H a=some (.dK aN)/\y=kV k/\aN.length<sizeLine/\H' = upd H a (.dK (putK aN k v)))\/
 ∃aN k b,H a=some (.dT aN)/\y = .ref b/\H b=some (.tup (k.map kV))/\aN.length<sizeLine/\H' = upd H a (.dT (putK aN k v))
section
variable{X:Cx}{pins:List (Addr×Obj)}{σ:St}{H:Hp}{s:Shared}{a:Addr}{y v:V}{u r:Value}{o:Option V}{A:Around}{E:Value->Shared->Prop}
end
section
variable{X:Cx}{pins:List (Addr×Obj)}{σ:St}{H:Hp}{s:Shared}{a:Addr}{aN:List (Key×V)}{k:Key}{u:Value}{A:Around}{E:Value->Shared->Prop}
end
noncomputable def Nt(td ty:TE):TE:=λσ H Q=>td σ H λx H1=>ty σ H1 λy H2=>∃a v,x = .ref a/\lY H2 a y (some v)/\Q v H2
noncomputable def Nu(ty td:TE):TE:=λσ H Q=>ty σ H λy H1=>td σ H1 λx H2=>∃a o,x = .ref a/\lY H2 a y o/\Q (.bl o.isSome) H2
noncomputable def Nv(ty td:TE):TE:=λσ H Q=>ty σ H λy H1=>td σ H1 λx H2=>∃a o,x = .ref a/\lY H2 a y o/\Q (.bl (!o.isSome)) H2
noncomputable def Nx(td ty tv:TE):TS:=λD σ H=>tv σ H λv H1=>td σ H1 λx H2=>ty σ H2 λy H3=>∃a H4,x = .ref a/\ER H3 a y v H4/\D.nx σ H4
section
variable{X:Cx}{o i e value:Expr}{pos pos' D_:Pos}{td ty tv:TE}
end
noncomputable def Ny:TE:=λ_ H Q=>∀p,H p=none->Q (.ref p) (upd H p (.dK []))
noncomputable def Nz:TE:=λ_ H Q=>∀p,H p=none->Q (.ref p) (upd H p (.dT []))
section
variable{X:Cx}{pos:Pos}
end
noncomputable def ES(H:Hp)(a:Addr):Prop:=(∃aN,Rd H a (.dK aN))\/∃aN,Rd H a (.dT aN)
section
variable{X:Cx}{pins:List (Addr×Obj)}{σ:St}{H:Hp}{s:Shared}{a:Addr}{y d:V}{u r:Value}{o:Option V}{A:Around}{E:Value->Shared->Prop}
end
noncomputable def NC(td ty:TE):TE:=λσ H Q=>td σ H λx H1=>∃a,x = .ref a/\ES H1 a/\ty σ H1 λy H2=>∃o,lY H2 a y o/\Q (o.getD .aB) H2
section
variable{X:Cx}{o e f:Expr}{apos fM:Pos}{td ty tx:TE}
end
section
variable{X:Cx}{pins:List (Addr×Obj)}{σ:St}{H:Hp}{s:Shared}{a:Addr}{aN:List (Key×V)}{A:Around}{E:Value->Shared->Prop}
end
section
variable{X:Cx}{pins:List (Addr×Obj)}{σ:St}{H:Hp}{s:Shared}{a:Addr}{y:V}{u:Value}{A:Around}{E:Value->Shared->Prop}
end
end _L
namespace yI
open PySem PySem.W PySem.Calls PyProof.Rows
theorem ET{P:Params}{h:Heap}:∀(ns:List Int) (vs:List Value),WellAll P h vs (ns.map WData.int)->IntsAre vs ns:=by
 intro ns
 induction ns with
 | nil =>
  intro vs w;rw[List.map_nil] at w;cases w;exact .nil
 | cons n ns ih =>
  intro vs w;rw[List.map_cons] at w;cases w with
  | cons a b =>
   cases a;exact .cons _ _ (ih _ b)
theorem EU{l:OpenLaw}{n:Nat}(hn:l.most=some n){P:Params}{h:Heap}{args:List WData}{vals:List Value}
  (lZ:l.row.toRowW.claim.pre args=true) (rC:WellAll P h vals args) :
  ∃a vs ns,vals = [Value.ref a]/\args = [WData.list (ns.map WData.int)]/\h.get? a=some { cls:=.type "list",data:=.seq vs.toArray }/\IntsAre vs ns/\ns.length<=n:=by
 have br:WShape.hasAll [] args [.list .int] = true:=(pre_splitW lZ).1;have hc:l.pre.holds [] { args:=args }=true:=(pre_splitW lZ).2;obtain⟨d,r,rfl,h1,h2⟩:=hasAllW_cons br;obtain rfl:=hasAllW_nil h2;obtain⟨xs,rfl,h3⟩:=hasW_list h1;obtain⟨ns,rfl⟩:=items_int h3;have hlen:ns.length<=n:=by
  unfold OpenLaw.pre at hc;have h4:(WTm.not (.lt (.lit (.int (n:Int))) (.len (.arg 0)))).holds [] { args:=[.list (ns.map .int)] }=true:=by
   have h4:=(holds_andW hc).1;rw[hn] at h4;exact h4
  have h5:=condW_of h4 (w_not (w_lt w_lit (w_len_list (w_arg rfl))));rw[List.length_map] at h5;refine Nat.le_of_not_lt λq=>?_
  have q':(n:Int)<((ns.length:Nat):Int):=by lia
  first
   | (rw[decide_eq_true q'] at h5;exact absurd h5 (by decide))
   | (simp at h5;lia)
 cases rC with
 | cons w1 w2 =>
  cases w2;cases w1 with
  | list ho EV=>exact⟨_,_,ns,rfl,rfl,ho,ET ns _ EV,hlen⟩
theorem EW(l:OpenLaw)(args:List WData):l.row.toRowW.claim.post args (.bool true) args=true :=
 postW_of (r:=l.row.toRowW) (X:=(true == true))
  (show WShape.has [] (.bool true) .bool=true by first | rfl | decide | simp[WShape.has,WShape.arms,WShape.armsAll])
  (show (WTm.eq .res (.lit (.bool true))).value [] { args:=args,res:=some (.bool true),after:=args }=some (.bool (true == true)) from w_eq_bool (w_res rfl) w_lit) rfl
theorem EX{l:OpenLaw}{n:Nat}{q:Program}{loose:List Str}{XP:(Str->Option Value)->Heap->Prop}{YP:World->Heap->Prop}{d:DefRec}
  (hn:l.most=some n) (jR:d.params.defaults = [])
  (call:∀(w:World) (bS aQ:Shared) (mg mb:Str->Option Value) (fa:Addr) (o:Obj) (pm cd doc:Value) (a:Addr) (vs:List Value) (ns:List Int),
   Ground q loose [] XP w bS mg mb aQ.heap->YP w aQ.heap->
   aQ.heap.get? fa=some o->o.data = .func (docDef d.name d.params d.body d.scope pm cd doc)->aQ.heap.CodeRec cd d.name->mg d.name=some (.ref fa)->
   aQ.heap.get? a=some { cls:=.type "list",data:=.seq vs.toArray }->IntsAre vs ns->ns.length<=n->aQ.gens = #[]->
   codeAny (model l.prog w) callerA (.call (.ref fa) ⟨[.ref a],[]⟩) (λr s'=>r = .ok (.ret (.bool true))/\OldK aQ.heap s'.heap/\s'.os=aQ.os/\AllBare s'.gens) aQ) :
  WalkO q loose XP YP l.row.toRowW d [] (λf vs=>PySem.call f vs):=by
 intro w bS aQ mg mb G Y fa o pm cd doc dV kV ho hd dN hD hmg hg args vals as lZ rD ND rC NF;obtain rfl:dV = .none:=Dflts.none hD jR;obtain rfl:kV = .none:=Dflts.noKw hD;obtain⟨a,vs,ns,rfl,rfl,rE,hints,hlen⟩:=EU hn lZ rC;refine enter_call (codeAny_mono (call w bS aQ mg mb fa o pm cd doc a vs ns G Y ho (fd_plain hd) dN hmg rE hints hlen hg) λr s' hq=>?_);obtain⟨rfl,h2,h3,h4⟩:=hq;exact⟨.inl ⟨.bool true,.bool true,[],rfl,λ_=>rfl,.bool true,EW l _,λ_=>⟨List.Pairwise.nil,λ_ hm=>(nomatch hm)⟩⟩,h2,h3,h4⟩
section
variable{prog:Program}{w:World}{A:Around}{E:Value->Shared->Prop}{s:Shared}{K:Frag}
noncomputable def ledger(h:Heap)(L d:Addr):List (Addr×Obj):=(List.range h.objs.size).filterMap λa=>if a=L\/a=d then none else(h.get? a).map λo=>(a,o)
end
end yI
namespace _L
open PySem PySem.Spec PyProof.Rows
theorem rF:∀ {vs:List Value} {ns:List Int},IntsAre vs ns->Vals (ns.map V.int) vs
 | _,_,.nil=>.nil
 | _,_,.cons n t h=>.cons ⟨t,rfl⟩ (rF h)
noncomputable def rG(H:Hp):Prop:=∀b,H b=none\/∃o xs,H b=some (.c9 o (.lst xs))
theorem EY{P:Program}{w:World}{K:PySem.W.Frag}{mg mb:Str->Option Value}{CX:cW}{k:Nat}{fa a:Addr}{fd:FuncData}{x:Str}{sp:Sp}{aQ:Shared}{vs:List Value}{ns:List Int}
  (KX:K.In aQ.heap) (l5:aQ.heap.Ns mainGlobals mg) (hb:aQ.heap.Ns builtinsNs mb) (EZ:∀x:Str,x≠"__name__"->mb x=bootBuiltins x) (E1:aQ.heap.NoLimit) (hg:aQ.gens = #[])
  (ha:aQ.heap.get? a=some { cls:=.type "list",data:=.seq vs.toArray }) (hi:IntsAre vs ns) (hl:ns.length<=sizeLine) (hr:bK k callerA)
  (F:∀base:Heap,K.In base->base.Ns mainGlobals mg->aV P w K mg base CX k fa fd [x] sp) (E3:∀(s:Shared) (u:Value),BindsTo s fd ⟨[u],[]⟩ [(x,u)])
  (fL:∀H:Hp,rG H->au K H a (ns.map V.int)->sp [.ref a] H (λv _=>v = .bl true) λ_ _ _=>False)
  (rH:∀H e s',CX [] H aQ (λ_ _ _=>False) e s'->False) :
  codeAny (model P w) callerA (.call (.ref fa) ⟨[.ref a],[]⟩) (λr s'=>r = .ok (.ret (.bool true))/\OldK aQ.heap s'.heap/\s'.os=aQ.os/\AllBare s'.gens) aQ:=by
 have rv:=rF hi;have E4:=hi.length
 -- from an abstract heap in which nothing but the script may be tracked
 have core:∀H:Hp,rG H->au K H a (ns.map V.int)->bR P w H aQ.heap->(∀b,H b≠none->b=a)->(H a≠none->K.lookup a=none)->
   codeAny (model P w) callerA (.call (.ref fa) ⟨[.ref a],[]⟩) (λr s'=>r = .ok (.ret (.bool true))/\OldK aQ.heap s'.heap/\s'.os=aQ.os/\AllBare s'.gens) aQ:=by
  intro H hO hS aJ hA hK;have yJ:∀ {b:Addr} {o:Obj},aQ.heap.get? b=some o->H b=none->(fZ aQ.heap H).get? b=some o:=λe n=>CU e n;have jN:∀ {b:Addr} {o:Obj} {es:Array DictEntry} {ep:Nat},aQ.heap.get? b=some o->o.data = .dict es ep->H b=none:=λ{b o es ep} e d=>by
   cases q:H b with
   | none=>rfl
   | some u =>
    have e':b=a:=hA b (by rw[q];simp)
    subst e';rw[ha] at e;cases e;have d':Data.seq vs.toArray _=Data.dict es ep:=d;cases d'
  have l6:∀ {b:Addr} {m:Str->Option Value},aQ.heap.Ns b m->(fZ aQ.heap H).Ns b m:=λ{b m} ⟨o,es,ep,e,d,r⟩=>⟨o,es,ep,yJ e (jN e d),d,r⟩;have yK:K.In (fZ aQ.heap H):=λb o e=>yJ (KX b o e) (by
   cases q:H b with
   | none=>rfl
   | some u =>
    have e':b=a:=hA b (by rw[q];simp)
    subst e';rw[hK (by rw[q];simp)] at e;cases e)
  have hM:Mod K mg (fZ aQ.heap H):=⟨yK,l6 l5,⟨mb,l6 hb,EZ⟩,let ⟨mc,h1,h2⟩:=E1;⟨mc,l6 h1,h2⟩⟩
  have e0:ie P w K mg (fZ aQ.heap H) callerA [] aQ H:=⟨rfl,hM,λb o e=>CV e,Nat.le_of_eq (CT _ _),trivial,λb hb=>absurd (show b∈([]:List Addr) from hb) (by simp),aJ,.of_eq hg⟩
  refine codeAny_mono ((F _ yK (l6 l5)).run callerA [] aQ H ⟨[.ref a],[]⟩ [.ref a] [.ref a] _ _ hr e0 (E3 aQ (.ref a)) (.cons rfl .nil) (fL H hO hS)) λr s' h=>?_;cases r with
  | error e=>exact(rH H e s' h).elim
  | ok fl =>
   cases fl with
   | next=>exact False.elim h
   | brk=>exact False.elim h
   | cont=>exact False.elim h
   | ret u =>
    obtain⟨v,H',os,bare,un,E5,r',q⟩:=h;have q':v = .bl true:=q;subst q';obtain rfl:u=Value.bool true:=r';refine⟨rfl,OldK.of_keep λb o e=>?_,os,bare⟩;cases q:H b with
    | none=>exact un.keep b o e q (by intro z;exact absurd (show b∈([]:List Addr) from z) (by simp)) (by simp)
    | some u =>
     rcases hO b with z | ⟨ob,xs,z⟩
     ·rw[q] at z;cases z
     ·have z2:=un.fY b ob _ z;obtain⟨e1,_⟩:=aJ b _ z;obtain⟨e2,_⟩:=E5 b _ z2;rw[e] at e1;cases e1;exact e2
 cases hk:K.lookup a with
 | some o =>
  -- the script is one of the module's own objects
  have e:=KX a o hk;rw[ha] at e;cases e;refine core (λ_=>none) (λ_=>.inl rfl) (.inr ⟨_,vs.toArray,_,hk,rfl,rfl,rfl,by rw[List.size_toArray,E4];exact hl,by simpa using rv⟩) (λb u z=>by have z':(none:Option HO)=some u:=z;cases z') (λb z=>absurd rfl z) λz=>absurd rfl z
 | none =>
  refine core (λb=>if b=a then some (.c9 { cls:=.type "list",data:=.seq vs.toArray } (.lst (ns.map V.int))) else none) (λb=>?_) (.inl (.inr ⟨{ cls:=.type "list",data:=.seq vs.toArray },if_pos rfl⟩)) (λb u z=>?_) (λb z=>?_) λ_=>hk
  ·by_cases hb:b=a
   ·exact .inr ⟨_,_,if_pos hb⟩
   ·exact .inl (if_neg hb)
  ·by_cases hb:b=a
   ·have z':=(if_pos hb).symm.trans z;cases z';subst hb;exact⟨ha,by rw[List.length_map];exact hl,vs,_,rv,ha⟩
   ·have z':=(if_neg hb).symm.trans z;cases z'
  ·by_cases hb:b=a
   ·exact hb
   ·exact absurd (if_neg hb) z
noncomputable abbrev NG{K:PySem.W.Frag}{h:Heap}(_:K.In h):PySem.W.Frag:=K
theorem E6{l:PySem.W.OpenLaw}{n k:Nat}{q:Program}{loose:List Str}{XP:(Str->Option Value)->Heap->Prop}{YP:World->Heap->Prop}{d:DefRec}{K:Params->PySem.W.Frag}{CX:World->cW}{sp:World->Sp}{x:Str}
  (hn:l.most=some n) (jJ:n<=sizeLine) (jR:d.params.defaults = []) (hr:bK k callerA)
  (hY:∀(w:World) (h:Heap),YP w h->(K w.params).In h)
  (F:∀(w:World) (mg:Str->Option Value) (fa:Addr) (h:Heap),(K w.params).In h->h.Ns mainGlobals mg->mg d.name=some (.ref fa)->
   ∃fd:FuncData,(∀(s:Shared) (u:Value),BindsTo s fd ⟨[u],[]⟩ [(x,u)])/\
    ∀base:Heap,(K w.params).In base->base.Ns mainGlobals mg->aV l.prog w (K w.params) mg base (CX w) k fa fd [x] (sp w))
  (fL:∀(w:World) (H:Hp) (a:Addr) (ns:List Int),ns.length<=n->rG H->au (K w.params) H a (ns.map V.int)->sp w [.ref a] H (λv _=>v = .bl true) λ_ _ _=>False)
  (rH:∀(w:World) (H:Hp) (s:Shared) (e:Value) (s':Shared),CX w [] H s (λ_ _ _=>False) e s'->False) :
  PySem.W.WalkO q loose XP YP l.row.toRowW d [] (λf vs=>PySem.call f vs):=by
 refine yI.EX hn jR λw bS aQ mg mb fa o pm cd doc a vs ns G Y ho hd dN hmg rE hints hlen hg=>?_;have KX:=hY w _ Y;obtain⟨fd,hb,hF⟩:=F w mg fa _ KX G.T.g hmg;exact EY KX G.T.g G.T.b G.T.builtins G.T.nolimit hg rE hints (Nat.le_trans hlen jJ) hr hF hb (λH hO hS=>fL w H a ns hlen hO hS) λH e s'=>rH w H aQ e s'
noncomputable def inClass(s:Stmt)(j:Nat):Stmt:=match s with
 | .ClassDef _ _ _ body _ _ _ _ _ _ _=>body.getD j (.Pass ⟨0,0,0,0⟩)
 | _=>.Pass ⟨0,0,0,0⟩
noncomputable def cT(s:Stmt):Arguments:=match s with
 | .FunctionDef _ a _ _ _ _ _ _ _ _=>a
 | _=>{ posonlyargs:=[],args:=[],vararg:=none,kwonlyargs:=[],kw_defaults:=[],kwarg:=none,defaults:=[] }
noncomputable def cK(s:Stmt):List Stmt:=match s with
 | .FunctionDef _ _ b _ _ _ _ _ _ _=>b
 | _=>[]
noncomputable def aO(s:Stmt):Scope:=match s with
 | .FunctionDef _ _ _ _ _ _ sc _ _ _=>sc
 | _=>{ kind:=.function,names:=[],isGenerator:=false,isCoroutine:=false }
noncomputable abbrev bf:cW:=λ_ _ _ _ _ _=>False
noncomputable abbrev E0:XK:=λ_ _ _=>False
theorem aD{X:Cx}:Passes bf X E0:=λ_ _ _ _ _ _ _ h=>h.elim
structure aI(K:PySem.W.Frag)(x qual:Str)(st:Stmt)(f:Addr)(fd:FuncData):Prop where
 ex:∃(oc:Value) (od:Option Addr) (kV doc pm:Value) (an:Option Addr) (aH ct:Value) (dm:Array (Option Value)),
  fd=PySem.W.fnOf x qual (cT st) (cK st) (aO st) .none kV doc pm an aH ct/\K.lookup f=some ⟨oc,od,.func fd,dm⟩/\PySem.W.codeIn K aH qual=true
 kp:PySem.W.keepIn K (.ref f)=true
section
variable{P:Program}{w:World}{K:PySem.W.Frag}{mg:Str->Option Value}{base:Heap}
theorem aI.ok{x qual:Str}{st:Stmt}{f:Addr}{fd:FuncData}{N ps:List Str}{k:Nat}{sp:Sp}(F:aI K x qual st f fd)(S:bq N ps (aO st))(len:∀vs H Q E,sp vs H Q E->vs.length=ps.length)
  (jO:∀(aH:Value) (A:Around) (outer:List Env) (s:Shared) (H:Hp) (vs:List V) (Q:VK) (E:XK),bK k (A.deeper (envOfC qual (aO st) s.heap.objs.size f aH))->sp vs H Q E->
   ∃t,cR (gI bf P w K mg base N qual (aO st) f aH A outer s H E).iL (cK st) t/\t { nx:=λ_ H'=>Q .aB H',rt:=Q } (start N vs) H):aV P w K mg base bf (k+1) f fd ps sp:=by
 obtain⟨oc,od,kV,doc,pm,an,aH,ct,dm,rfl,lk,dN⟩:=F.ex;refine yw lk dN S len λA outer s H vs Q E hr fL=>?_;obtain⟨t,h,q⟩:=jO aH A outer s H vs Q E hr fL;exact⟨t,h.iL,q⟩
theorem aI.binds{x qual:Str}{st:Stmt}{f:Addr}{fd:FuncData}{ps:List Str}(F:aI K x qual st f fd)
  (h:∀(kV doc pm:Value) (an:Option Addr) (aH ct:Value) (us:List Value),us.length=ps.length->bindArgs (PySem.W.fnOf x qual (cT st) (cK st) (aO st) .none kV doc pm an aH ct) ⟨us,[]⟩=pure (ps.zip us)):Binds K fd ps []:=by
 obtain⟨oc,od,kV,doc,pm,an,aH,ct,dm,rfl,lk,dN⟩:=F.ex;exact .all (h kV doc pm an aH ct)
theorem fun_mk{x qual:Str}{st:Stmt}{f:Addr}{oc:Value}{od an:Option Addr}{dm:Array (Option Value)}{kV doc pm aH ct:Value}(l:K.lookup f=some ⟨oc,od,.func (PySem.W.fnOf x qual (cT st) (cK st) (aO st) .none kV doc pm an aH ct),dm⟩)
  (c:PySem.W.codeIn K aH qual=true) (k:PySem.W.keepIn K (.ref f)=true):aI K x qual st f (PySem.W.fnOf x qual (cT st) (cK st) (aO st) .none kV doc pm an aH ct):=⟨⟨oc,od,kV,doc,pm,an,aH,ct,dm,rfl,l,c⟩,k⟩
end
theorem ir{n:Nat}(h:n<=1000):n<sizeLine:=Nat.lt_of_le_of_lt h (by decide)
section
variable{X:Cx}
theorem pv(i:Nat){x:Str}{pos:Pos}(hN:X.N[i]? = some x:=by rfl)(hv:qG X.env.scope x:=by first | exact Or.inl rfl | exact Or.inr (Or.inl rfl) | exact Or.inr (Or.inr rfl))(hd:(x == ("__debug__" : Str))=false:=by decide)
  (dN:(x == ("__classdict__" : Str))=false:=by decide):PE X (.Name x pos) (xO i):=C6 hN hv hd dN
end
theorem b5{c A B:Prop}[Decidable c](h1:c->A)(h2:¬ c->B):if c then A else B:=by
 by_cases h:c
 ·rw[if_pos h];exact h1 h
 ·rw[if_neg h];exact h2 h
noncomputable def ah(H H':Hp):Prop:=∀b o,H b=some o->H' b=some o
theorem ah.refl(H:Hp):ah H H:=λ_ _ h=>h
theorem ah.trans{H H1 H2:Hp}(a:ah H H1)(b:ah H1 H2):ah H H2:=λc o h=>b c o (a c o h)
theorem ah.free{H H':Hp}(e:ah H H'){l:Addr}(h:H' l=Option.none):H l=Option.none:=by
 cases q:H l with
 | none=>rfl
 | some o =>
  rw[e l o q] at h;cases h
theorem ah.seq{K:PySem.W.Frag}{H H':Hp}{a:Addr}{xs:List V}(e:ah H H')(h:au K H a xs):au K H' a xs:=by
 rcases h with(h | ⟨o,h⟩) | h
 ·exact .inl (.inl (e _ _ h))
 ·exact .inl (.inr ⟨o,e _ _ h⟩)
 ·exact .inr h
section
variable{κ:Type}[DecidableEq κ]
end
end _L
set_option maxHeartbeats 4000000
namespace _L
open PySem PySem.Spec PyProof.Rows
section
variable{prog:Program}{w:World}{A:Around}{R:Result->Shared->Prop}{s:Shared}
theorem E7{elt target iter:Expr}{ifs:List Expr}{scope:Scope}{pos:Pos}{it acc:Value}{env:Env}(I:Nat->Shared->Prop)
  (turn:∀n s,I n s->wpAny (model prog w) A (pyNext it) (λr aQ=>match r with
   | none=>R (.ok .next) aQ
   | some v=>wpAny (model prog w) A (letOwnedTupleGo target it v) (λ_ yL=>wpAny (model prog w) A (assign target env v) (λ_ f9 =>
     wpAny (model prog w) A (forIn ifs true λc r=>if r=true then do let ok ← isTrue c env (eval c env);pure (ForInStep.yield ok) else pure (ForInStep.yield r)) (λok gc =>
      if ok=true then wpAny (model prog w) A (eval elt env) (λx l7 =>
       wpAny (model prog w) A (call (.builtin "list.append") [acc,x]) (λ_ yM=>∃m,m<n/\I m yM) (λ_ _=>False) l7) (λ_ _=>False) gc
      else ∃m,m<n/\I m gc) (λ_ _=>False) f9) (λ_ _=>False) yL) (λ_ _=>False) aQ) (λ_ _=>False) s)
  (n:Nat) (h:I n s):codeAny (model prog w) A (.compLoop (.ListComp elt [⟨target,iter,ifs,0⟩] scope pos) 0 it acc env) R s:=by
 refine codeAny_loop rfl I (λn s hI=>?_) n h
 show wpAny _ A ((compTurn (.ListComp elt [⟨target,iter,ifs,0⟩] scope pos) 0 it acc env).onRaise (λx=>do noteFrame x env;theTreesLotGoes x)) _ _ s
 refine wpAny_noted ?_;rw[compTurn_list];refine wpAny_bind (wpAny_standAt (wpAny_bind (wpAny_mono (turn n s hI) (λr aQ gK=>?_) λ_ _ h'=>h'.elim)));cases r with
 | none=>exact wpAny_pure gK
 | some v =>
  refine wpAny_bind (wpAny_mono gK (λ_ yL E8=>?_) λ_ _ h'=>h'.elim);refine wpAny_bind (wpAny_mono E8 (λ_ f9 E9=>wpAny_bind (wpAny_mono E9 (λok gc yN=>?_) λ_ _ h'=>h'.elim)) λ_ _ h'=>h'.elim);cases ok with
  | false=>exact wpAny_pure ⟨rfl,yN⟩
  | true =>
   exact wpAny_bind (wpAny_bind (wpAny_mono yN (λx l7 E_=>wpAny_bind (wpAny_mono E_ (λ_ yM Fb=>wpAny_pure (wpAny_pure ⟨rfl,Fb⟩)) λ_ _ h'=>h'.elim)) λ_ _ h'=>h'.elim))
end
noncomputable def cL(X:Cx)(scope:Scope)(cl:List (Str×Addr))(N:List Str)(C:Addr)(s:Shared)(H:Hp)(fp:List Addr):Cx where
 prog:=X.prog
 w:=X.w
 K:=X.K
 mg:=X.mg
 base:=X.base
 A:=X.A
 N:=N
 bS:=s
 gY:=H
 env:=compEnvC scope cl C X.env
 outer:=X.stack
 stack:=X.stack
 ex:=fp
 fn:=λ_=>false
 calm:=X.calm
 pn:=[]
 xe:=λ_ _=>False
structure cB(X:Cx)(scope:Scope)(cl:List (Str×Addr))(N:List Str)(nt:Nat)(fv:List Nat):Prop where
 jS:closureFor scope X.env=pure cl
 kind:scope.kind = .function
 jT:∀y∈scope.names,y.2≠.cell
 names:∀y∈scope.names,y.2 = .local->scope.names.lookup y.1=some .local
 sub:∀p∈cl,X.env.cells.lookup p.1=some p.2
 has:∀y∈scope.names,y.2 = .free->∃c,cl.lookup y.1=some c
 free:fv.map (λj=>X.N[j]?)=(N.drop nt).map some
 fk:∀y∈N.drop nt,scope.names.lookup y=some .free/\X.env.scope.names.lookup y=some .cell
 le:nt<=N.length
 nd:N.Nodup
theorem l8{env:Env}:∀ {names:List (Str×NameKind)} {x:Str} {k:NameKind},
  (names.map λ(n,k)=>if (k == NameKind.free && env.scope.kind == .function && env.kindOf n == some .cell) then(n,NameKind.cell) else(n,k)).lookup x=some k->
  ∃k0,names.lookup x=some k0/\(k=k0\/(k0 = .free/\k = .cell))
 | [],_,_,h=>by simp at h
 | (n,k0)::r,x,k,h=>by
  have ih:=@l8 env r x k;have h:List.lookup x ((if (k0 == NameKind.free && env.scope.kind == .function && env.kindOf n == some .cell)=true then(n,NameKind.cell) else(n,k0))::_)=_:=h
  cases hx:x == n with
  | true =>
   by_cases hc:(k0 == NameKind.free && env.scope.kind == .function && env.kindOf n == some .cell)=true
   ·rw[if_pos hc] at h;simp only[List.lookup_cons,hx,Option.some.injEq] at h;simp only[Bool.and_eq_true,beq_iff_eq] at hc;exact⟨k0,by simp[List.lookup_cons,hx],.inr ⟨hc.1.1,h.symm⟩⟩
   ·rw[if_neg hc] at h;simp only[List.lookup_cons,hx,Option.some.injEq] at h;exact⟨k0,by simp[List.lookup_cons,hx],.inl h.symm⟩
  | false =>
   have h':List.lookup x (r.map λ(n,k)=>if (k == NameKind.free && env.scope.kind == .function && env.kindOf n == some .cell) then(n,NameKind.cell) else(n,k))=some k:=by
    by_cases hc:(k0 == NameKind.free && env.scope.kind == .function && env.kindOf n == some .cell)=true
    ·rw[if_pos hc] at h;simpa only[List.lookup_cons,hx] using h
    ·rw[if_neg hc] at h;simpa only[List.lookup_cons,hx] using h
   obtain⟨q,e,z⟩:=ih h';exact⟨q,by simp only[List.lookup_cons,hx];exact e,z⟩
theorem l9{α:Type}{x:Str}{v:α}:∀ {l:List (Str×α)},l.lookup x=some v->(x,v)∈l:=λh=>PySem.mem_of_lookup h
section
variable{X:Cx}{pins:List (Addr×Obj)}{σ:St}{H:Hp}{s:Shared}{scope:Scope}{cl:List (Str×Addr)}{N:List Str}{nt:Nat}{fv:List Nat}{fp:List Addr}
theorem cB.cell(S:cB X scope cl N nt fv){x:Str}{c:Addr}(e:cl.lookup x=some c):X.env.cells.lookup x=some c:=S.sub (x,c) (l9 e)
theorem cB.Fc(S:cB X scope cl N nt fv){C:Addr}{x:Str}(h:(compEnvC scope cl C X.env).kindOf x=some .cell\/(compEnvC scope cl C X.env).kindOf x=some .free):scope.names.lookup x=some .free:=by
 have h:(scope.names.map λ(n,k)=>if (k == NameKind.free && X.env.scope.kind == .function && X.env.kindOf n == some .cell) then(n,NameKind.cell) else(n,k)).lookup x=some .cell\/
  (scope.names.map λ(n,k)=>if (k == NameKind.free && X.env.scope.kind == .function && X.env.kindOf n == some .cell) then(n,NameKind.cell) else(n,k)).lookup x=some .free:=h
 rcases h with h | h
 ·obtain⟨k0,e,z | ⟨z,_⟩⟩:=l8 h
  ·exact absurd z.symm (S.jT _ (l9 e))
  ·rw[z] at e;exact e
 ·obtain⟨k0,e,z | ⟨z,_⟩⟩:=l8 h
  ·rw[← z] at e;exact e
  ·rw[z] at e;exact e
theorem cB.ok(S:cB X scope cl N nt fv)(I:Inv X pins σ H s)(hf:∀b∈fp,fH X pins H b)(bD:∀b∈fp,b<s.heap.objs.size){C:Addr}(hC:s.heap.objs.size<=C) :
  (cL X scope cl N C s H fp).Ok where
 mod:=I.ok.mod
 kind:=S.kind
 glob:=I.ok.glob
 blt:=I.ok.blt
 above:=hC
 inj:=λx y c h1 h2=>I.ok.inj x y c (S.cell h1) (S.cell h2)
 has:=λx h=>by
  have e:=S.Fc h;exact S.has _ (l9 e) rfl
 iG:=λx c h _=>by cases (show false=true from h)
 hd:=I.ok.hd
 frames:=I.ok.frames
 jx:=.inl rfl
 jy:=λb hb=>⟨λz=>absurd (Nat.lt_of_lt_of_le (bD b hb) (by rw[z];exact hC)) (Nat.lt_irrefl _),λx c h=>(hf b hb).2.2.2.2.1 x c (S.cell h)⟩
 bs:=I.bs
 fz:=Nat.le_trans I.ok.fz I.sz
 iH:=λb o e hb=>by
  rcases(hf b hb).2.2.2.1 with z | z
  ·exact I.ok.iH b o e z
  ·exact absurd (Nat.lt_of_lt_of_le (Heap.lt_size e) (Nat.le_trans I.ok.fz z)) (Nat.lt_irrefl _)
 iI:=λb hb hm=>by
  rcases List.mem_cons.mp (I.qI b hm) with z | z
  ·exact(hf b hb).2.1 z
  ·exact(hf b hb).2.2.1 z
 dM:=I.stack
 gB:=I.xA
noncomputable def fO(σ:St)(nt:Nat)(fv:List Nat):St:=List.replicate nt none++fv.map λj=>(σ[j]?).getD none
theorem cB.inv(S:cB X scope cl N nt fv)(I:Inv X pins σ H s)(hf:∀b∈fp,fH X pins H b)(bD:∀b∈fp,b<s.heap.objs.size){h1:Heap}{tk:Nat}{D C:Addr}
  (hD:s.heap.objs.size<=D) (hC:s.heap.objs.size<=C) (l_:D≠C) (old:∀b o,s.heap.get? b=some o->h1.get? b=some o) (gM:h1.get? D=some { cls:=.type "list",data:=.seq #[] }) (l5:h1.Ns C λ_=>none) :
  Inv (cL X scope cl N C s H fp) [] (fO σ nt fv) (upd H D (.lst [])) { s with heap:=h1,toks:=tk }:=by
 have I1:Inv X pins σ (upd H D (.lst [])) { s with heap:=h1,toks:=tk }:=I.laid old hD ⟨Nat.zero_le _,[],0,.nil,gM⟩;have hlen:fv.length=(N.drop nt).length:=by simpa using congrArg List.length S.free
 refine⟨S.ok I hf bD hC,rfl,I.bare,Un.laid old hD (I.aJ.fresh hD),⟨_,l5,λi x v e1 e2 e3=>?_⟩,λx c e=>?_,?_,λx c e=>?_,λp hp=>absurd (show p∈([]:List (Addr×Obj)) from hp) (by simp),I1.aJ,?_⟩
 ·unfold fO at e2;have hi:nt<=i:=by
   by_cases h:nt<=i
   ·exact h
   ·rw[List.getElem?_append_left (by simp;lia),List.getElem?_replicate] at e2
    split at e2 <;> cases e2
  rw[List.getElem?_append_right (by simpa using hi)] at e2
  simp only[List.length_replicate,List.getElem?_map] at e2;cases hj:fv[i - nt]? with
  | none=>rw[hj] at e2;simp at e2
  | some j =>
   rw[hj] at e2;simp only[Option.map_some,Option.some.injEq] at e2;have hN:X.N[j]? = some x:=by
    have q:=congrArg (λl=>l[i - nt]?) S.free;simp only[List.getElem?_map,hj,Option.map_some,List.getElem?_drop] at q;rw[show nt+(i - nt)=i by lia] at q
    have Fd:N[i]? = some x:=e1;rw[Fd] at q;exact(Option.some.inj q)
   have Fe:σ[j]? = some (some v):=by
    cases z:σ[j]? with
    | none=>rw[z] at e2;simp at e2
    | some y=>rw[z] at e2;simp at e2;rw[e2]
   have Ff:x∈N.drop nt:=by
    refine List.mem_of_getElem? (i:=i - nt) ?_;rw[List.getElem?_drop,show nt+(i - nt)=i by lia];exact e1
   obtain⟨f1,f2⟩:=S.fk x Ff;obtain⟨m,hn,hl⟩:=I1.loc;obtain⟨u,ru,lk⟩:=hl j x v hN Fe (.inr (.inl f2));refine⟨u,ru,?_⟩;rcases lk with⟨k,_⟩ | ⟨_,c,ec,hc⟩
   ·have k:X.env.scope.names.lookup x=some .local:=k;rw[f2] at k;cases k
   ·obtain⟨c',e'⟩:=S.has _ (l9 f1) rfl;have:=S.cell e';rw[ec] at this;cases this;refine .inr ⟨?_,c,e',hc⟩;rcases e3 with z | z | z
    ·obtain⟨k0,ek,q | ⟨_,q⟩⟩:=l8 (show (scope.names.map λ(n,k)=>if (k == NameKind.free && X.env.scope.kind == .function && X.env.kindOf n == some .cell) then(n,NameKind.cell) else(n,k)).lookup x=some .local from z)
     ·rw[f1] at ek;cases ek;cases q
     ·cases q
    ·exact .inl z
    ·exact .inr z
 ·obtain⟨v,z⟩:=I1.cell x c (S.cell e);exact⟨v,z⟩
 ·show upd H D (.lst []) C=none;rw[bC (Ne.symm l_)];exact I.aJ.fresh hC
 ·exact I1.fB x c (S.cell e)
 ·unfold fO
  show _=N.length;have:=S.le;simp only[List.length_append,List.length_replicate,List.length_map,List.length_drop] at hlen ⊢;lia
end
noncomputable def iW(X:Cx)(ifs:List Expr)(t:TT):Prop :=
 ∀(pins:List (Addr×Obj)) (s:Shared) (σ:St) (H:Hp) (Q:Bool->Hp->Prop),Inv X pins σ H s->t σ H Q->
  wpAny (model X.prog X.w) X.A (forIn ifs true λc r=>if r=true then do let ok ← isTrue c X.env (eval c X.env);pure (ForInStep.yield ok) else pure (ForInStep.yield r)) (TP X pins σ Q) X.xe s
noncomputable def Fg:TT:=λ_ H Q=>Q true H
theorem iX{X:Cx}:iW X [] Fg:=λpins s σ H Q I h=>wpAny_tests_nil ⟨H,I,h⟩
theorem Fi{X:Cx}{c:Expr}{t:TT}(hc:PT X c t):iW X [c] t:=λpins s σ H Q I h=>wpAny_tests_one (hc pins s σ H Q I h)
noncomputable def eX(wi:TI)(g:TG)(tt:TT)(te:TE)(nt:Nat)(fv:List Nat):TE:=λσ H Q=>wi σ H λJ H1=>∀D,H1 D=none->∃W:Nat->Nat->List V->St->Hp->Prop,
 (∃m,W 0 m [] (fO σ nt fv) (upd H1 D (.lst [])))/\∀i m ys aq H2,W i m ys aq H2->H2 D=some (.lst ys)/\ys.length<sizeLine/\
  ((J.stop i H2/\Q (.ref D) H2)\/(J.go i H2/\∀x H3,J.gD i H2 x H3->g x aq H3 λbA H4=>tt bA H4 λb H5=>if b=true then te bA H5 λv H6=>H6 D=some (.lst ys)/\∃m',m' < m/\W (i+1) m' (ys++[v]) bA (upd H6 D (.lst (ys++[v])))
   else ∃m',m' < m/\W (i+1) m' ys bA H5))
section
variable{X:Cx}{tg iter elt:Expr}{ifs:List Expr}{scope:Scope}{cl:List (Str×Addr)}{N:List Str}{nt:Nat}{fv:List Nat}{pos:Pos}{wi:TI}{g:TG}{tt:TT}{te:TE}
theorem yO{pins:List (Addr×Obj)}{σ:St}{s2:Shared}{H2:Hp}{it:Addr}{fp:List Addr}{tn:Nat->Heap->Prop}{J:It}{Q:VK}{RR:Value->Addr->Result->Shared->Prop}{E:Value->Shared->Prop}
  (S:cB X scope cl N nt fv) (hc:X.calm=true)
  (hg:∀C s H fp,PG (cL X scope cl N C s H fp) tg g) (ht:∀C s H fp,iW (cL X scope cl N C s H fp) ifs tt) (he:∀C s H fp,PE (cL X scope cl N C s H fp) elt te)
  (I2:Inv X pins σ H2 s2) (T:Turn X.prog X.w X.K tg J fp it tn) (dP:tn 0 s2.heap) (f2:∀b∈fp,fH X pins H2 b)
  (hq:∀D,H2 D=none->∃W:Nat->Nat->List V->St->Hp->Prop,
   (∃m,W 0 m [] (fO σ nt fv) (upd H2 D (.lst [])))/\∀i m ys aq H2,W i m ys aq H2->H2 D=some (.lst ys)/\ys.length<sizeLine/\
    ((J.stop i H2/\Q (.ref D) H2)\/(J.go i H2/\∀x H3,J.gD i H2 x H3->g x aq H3 λbA H4=>tt bA H4 λb H5=>if b=true then te bA H5 λv H6=>H6 D=some (.lst ys)/\∃m',m' < m/\W (i+1) m' (ys++[v]) bA (upd H6 D (.lst (ys++[v])))
     else ∃m',m' < m/\W (i+1) m' ys bA H5)))
  (Fj:∀(D C:Addr) (s':Shared) (H':Hp) (m':Str->Option Value),Inv X pins σ H' s'->s'.heap.Ns C m'->s2.heap.objs.size<=C->H' C=none->Q (.ref D) H'->RR (.ref D) C (.ok .next) s') :
  wpAny (model X.prog X.w) X.A (newList []) (λacc gc=>wpAny (model X.prog X.w) X.A (newFunctionEnv scope X.env.globals cl [] X.env.qual none .none (some X.env)) (λyP l7 =>
   codeAny (model X.prog X.w) X.A (.compStart (.ListComp elt [⟨tg,iter,ifs,0⟩] scope pos) 0 (.ref it) acc { yP with scope:=relabel scope X.env }) (RR acc yP.locals) l7) E gc) E s2:=by
 refine wpAny_newObj_type (wpAny_newFunctionEnv S.jT (by intro y hy;simp at hy) (λgK rJ mh=>?_) S.kind)
 dsimp only at rJ mh ⊢;generalize rK:s2.heap.push { cls:=.type "list",dict:=none,data:=.seq ([]:List Value).toArray }=HH at rJ mh ⊢;have hC:HH.objs.size=s2.heap.objs.size+1:=by rw[← rK,Heap.size_push]
 have l_:s2.heap.objs.size≠HH.objs.size:=by rw[hC];exact Nat.ne_of_lt (Nat.lt_succ_self _)
 have rL:s2.heap.objs.size<=HH.objs.size:=by rw[hC];exact Nat.le_succ _
 have old:∀b o,s2.heap.get? b=some o->gK.get? b=some o:=λb o e=>by
  have hb:b<s2.heap.objs.size:=Heap.lt_size e;exact mh.extBut b o (by rw[hC];exact Nat.ne_of_lt (Nat.lt_succ_of_lt hb)) (Heap.get?_push_of_some _ (rK▸Heap.get?_push_of_some _ e))
 have gM:gK.get? s2.heap.objs.size=some { cls:=.type "list",data:=.seq #[] }:=mh.extBut _ _ l_ (Heap.get?_push_of_some _ (rK▸Heap.get?_push_size _ rfl));have bD:∀b∈fp,b<s2.heap.objs.size:=λb hb=>by
  obtain⟨o,e,_⟩:=T.obj 0 _ dP b hb;exact Heap.lt_size e
 have hD:H2 s2.heap.objs.size=none:=I2.aJ.fresh (Nat.le_refl _);obtain⟨W,⟨m0,w0⟩,turn⟩:=hq _ hD;have jF:tn 0 gK:=T.keep _ _ _ dP λb _ o e=>old b o e;have I3:=S.inv I2 f2 bD (h1:=gK) (tk:=s2.toks+([]:List (Str×Value)).length) (D:=s2.heap.objs.size) (C:=HH.objs.size) (Nat.le_refl _) rL l_ old gM (by simpa using rJ)
 -- what stays true of the iterator's objects
 have nD:∀b∈fp,b≠s2.heap.objs.size:=λb hb=>Nat.ne_of_lt (bD b hb);have g8:∀ {H':Hp},(∀b∈fp,H' b=none)->∀b∈fp,fH (cL X scope cl N HH.objs.size s2 H2 fp) [] H' b:=λ{H'} hn b hb=>by
  have ok:=S.ok I2 f2 bD rL;refine⟨hn b hb,(ok.jy b hb).1,ok.iI b hb,.inl hb,(ok.jy b hb).2,λp hp=>absurd (show p∈([]:List (Addr×Obj)) from hp) (by simp)⟩
 have loop:∀gc:Shared,gc = { s2 with heap:=gK,toks:=s2.toks+([]:List (Str×Value)).length }->
   codeAny (model X.prog X.w) X.A (.compLoop (.ListComp elt [⟨tg,iter,ifs,0⟩] scope pos) 0 (.ref it) (.ref s2.heap.objs.size) (compEnvC scope cl HH.objs.size X.env)) (RR (.ref s2.heap.objs.size) HH.objs.size) gc:=by
  rintro gc rfl;refine E7 (λn s'=>∃i ys aG H',Inv (cL X scope cl N HH.objs.size s2 H2 fp) [] aG H' s'/\tn i s'.heap/\(∀b∈fp,H' b=none)/\W i n ys aG H') ?_ m0
   ⟨0,[],_,_,I3,jF,λb hb=>by rw[bC (nD b hb)];exact(f2 b hb).1,w0⟩
  rintro n s3 ⟨i,ys,cS,H3,J3,t3,jG,w3⟩;obtain⟨eD,Fl,Fo⟩:=turn i n ys cS H3 w3;rcases Fo with⟨stop,qn⟩ | ⟨go,step⟩
  ·refine aK (T.done (cL X scope cl N HH.objs.size s2 H2 fp) rfl rfl rfl hc i [] s3 cS H3 (λ_ _=>False) J3 (g8 jG) t3 stop) λr s4 ⟨hr,I4⟩=>?_;subst hr;have I5:Inv X pins σ H3 s4:=I2.C5 (ch:=fp) I4.os I4.base I4.aJ I4.bare λb hb=>⟨(f2 b hb).2.2.2.1,(f2 b hb).2.1,(f2 b hb).2.2.2.2.1,(f2 b hb).2.2.2.2.2⟩;obtain⟨m,hn,_⟩:=I4.loc;exact Fj _ _ s4 H3 m I5 hn rL I4.free qn
  ·refine aK (T.item (cL X scope cl N HH.objs.size s2 H2 fp) rfl rfl rfl hc i [] s3 cS H3 (λ_ _=>False) J3 (g8 jG) t3 go) λr s4 ⟨u,hr,h4⟩=>?_;subst hr;refine aK h4 λ_ s5 ⟨x,H5,I5,r5,y5,g9,qQ⟩=>?_;have qR:=I5.pinned (g8 qQ) (T.obj _ _ g9);refine aK (hg _ _ _ _ _ s5 cS H5 x u _ qR r5 (step x H5 y5)) λ_ s6 ⟨gH,H6,I6,q6⟩=>?_;have yQ:∀ {dj:St} {H7:Hp} {s7:Shared},Inv (cL X scope cl N HH.objs.size s2 H2 fp) ([]++jC fp s5.heap) dj H7 s7->tn (i+1) s7.heap/\∀b∈fp,H7 b=none:=λ{dj H7 s7} I7=>by
    refine⟨T.keep _ _ _ g9 λb hb o e=>(I7.pin (b,o) (List.mem_append_right _ (List.mem_append_right _ (lG hb e)))).1,λb hb=>?_⟩;obtain⟨o,e,d⟩:=T.obj _ _ g9 b hb;exact(I7.pin (b,o) (List.mem_append_right _ (List.mem_append_right _ (lG hb e)))).2.1
   refine aK (ht _ _ _ _ _ s6 gH H6 _ I6 q6) λb s7 ⟨H7,I7,q7⟩=>?_;cases b with
   | false =>
    obtain⟨m',hm,w7⟩:=q7;obtain⟨t7,n7⟩:=yQ I7;exact⟨m',hm,i+1,ys,gH,H7,I7.jD,t7,n7,w7⟩
   | true =>
    refine aK (he _ _ _ _ _ s7 gH H7 _ I7 q7) λu8 s8 ⟨v8,H8,I8,r8,Fp,m',hm,w8⟩=>?_;refine aK (jQ (X:=cL X scope cl N HH.objs.size s2 H2 fp) _ s8 gH H8 (.ref s2.heap.objs.size) [v8] (.ref s2.heap.objs.size) [u8] (λ_ H9=>∃m',m' < n/\W (i+1) m' (ys++[v8]) gH H9) I8 rfl (.cons r8 .nil)
     ⟨s2.heap.objs.size,ys,v8,rfl,rfl,Fp,Fl,m',hm,w8⟩) λ_ s9 ⟨_,H9,I9,_,m9,Fq,w9⟩=>?_
    obtain⟨t9,n9⟩:=yQ I9;exact⟨m9,Fq,i+1,ys++[v8],gH,H9,I9.jD,t9,n9,w9⟩
 exact codeAny_compStart_list (loop _ rfl) (T.self _ 0 _ _ _ jF (loop _ rfl))
theorem iY(S:cB X scope cl N nt fv)(hc:X.calm=true)(hi:PI X tg iter wi)
  (hg:∀C s H fp,PG (cL X scope cl N C s H fp) tg g) (ht:∀C s H fp,iW (cL X scope cl N C s H fp) ifs tt) (he:∀C s H fp,PE (cL X scope cl N C s H fp) elt te)
  (hs:∀x,foldedSetIterable iter X.env x=pure x:=by intro _;rfl):PE X (.ListComp elt [⟨tg,iter,ifs,0⟩] scope pos) (eX wi g tt te nt fv):=by
 intro pins s σ H Q I h;rw[eval_ListComp];refine wpAny_comprehension_free (use:=none) rfl hs S.jS S.kind S.names (aK (hi pins s σ H _ I h) λxv s1 h1=>aK h1 λlE s2 h2=>?_);obtain⟨it,fp,tn,J,H2,rfl,I2,T,dP,f2,hq⟩:=h2;refine yO (RR:=λacc C=>compPost (model X.prog X.w) X.A X.xe none (EP X pins σ Q) acc C) S hc hg ht he I2 T dP f2 hq λD C s' H' m' I' hn hC fC q=>?_;refine⟨m',hn,λh' iZ=>⟨.ref D,H',?_,rfl,q⟩⟩;have eY:=I2.iM hC fC;exact I'.turned (t':=s'.toks) (it:=C) (λb o hb e=>iZ.extBut b o hb e) fC eY.2.1 eY.2.2.2.1 eY.2.2.2.2.1 eY.2.2.2.2.2
theorem Ft{i:Nat}{y:Str}{py yR:Pos}(hN:X.N.Nodup)(eZ:X.N[i]? = some y)(hy:Loc X.env.scope y)(S:cB X scope cl N nt fv)(hc:X.calm=true)(hi:PI X tg iter wi)
  (hg:∀C s H fp,PG (cL X scope cl N C s H fp) tg g) (ht:∀C s H fp,iW (cL X scope cl N C s H fp) ifs tt) (he:∀C s H fp,PE (cL X scope cl N C s H fp) elt te)
  (Fv:swapsWith (.ListComp elt [⟨tg,iter,ifs,0⟩] scope pos) (some (.Name y py)) yR.line X.env=pure true:=by rfl)
  (hs:∀x,foldedSetIterable iter X.env x=pure x:=by intro _;rfl) (hf:X.fn y=true\/X.env.scope.names.lookup y=some .local:=by first | exact .inl rfl | exact .inr rfl | assumption) :
  PS X (.Assign [.Name y py] (.ListComp elt [⟨tg,iter,ifs,0⟩] scope pos) yR) (xS (eX wi g tt te nt fv) (lD i)):=by
 intro pins s σ H D' I h;rw[exec_Assign_Name_used _ _ _ _ Fv];refine wpAny_bind (wpAny_standAt (wpAny_bind ?_))
 show wpAny _ _ (do let _ ← comprehension (.ListComp elt [⟨tg,iter,ifs,0⟩] scope pos) scope X.env _ (newList []) false (eval iter X.env) (some (assign (.Name y py) X.env))) _ _ s
 refine wpAny_bind (wpAny_mono (wpAny_comprehension_free (use:=some (assign (.Name y py) X.env)) (Q:=λ_ s'=>SP X pins D' .next s') rfl hs S.jS S.kind S.names
  (aK (hi pins s σ H _ I h) λxv s1 h1=>aK h1 λlE s2 h2=>?_)) (λ_ s' hq=>wpAny_pure (wpAny_pure hq)) λ_ _ e=>e)
 obtain⟨it,fp,tn,J,H2,rfl,I2,T,dP,f2,hq⟩:=h2;refine yO (RR:=λacc C=>compPost (model X.prog X.w) X.A X.xe (some (assign (.Name y py) X.env)) (λ_ s'=>SP X pins D' .next s') acc C) (Q:=λx H1=>lD i x σ H1 D'.nx) S hc hg ht he I2 T dP f2 hq λD C s' H' m' I' hn hC fC q=>?_;have eY:=I2.iM hC fC
 show wpAny _ _ (assign (.Name y py) X.env (.ref D)) _ _ _;refine wpAny_assign_Name (xG I' hN eZ hy (v:=.ref D) rfl (λjM Fw ⟨a,Fx,ha⟩=>?_) hf);have Fy:C≠a:=by
  rcases ha with z | z
  ·rw[z];exact eY.2.1
  ·exact λe=>eY.2.2.2.2.1 y a z e.symm
 refine⟨m',hn.sameBut Fx Fy,λh' iZ=>⟨_,H',?_,q⟩⟩;exact Fw.turned (t':=jM.toks) (it:=C) (λb o hb e=>iZ.extBut b o hb e) fC eY.2.1 eY.2.2.2.1 eY.2.2.2.2.1 eY.2.2.2.2.2
end
section
variable{X:Cx}
theorem i6:fJ X (.builtin "isinstance") (λxs H Q=>∃x T t b,xs = [x,.ty T]/\dR X.K H x t/\PySem.W.kitOne X.K t (.type T)=some b/\Q (.bl b) H):=by
 intro pins s σ H xs us Q I r h;obtain⟨x,T,t,b,rfl,ty,e,q⟩:=h;obtain⟨u,v,rfl,ru,rv⟩:=vals2 r;cases (show v=Value.type T from rv);exact Ea I ru ty e λtk=>⟨.bl b,H,I.tok _,rfl,q⟩
theorem Fz{A:Around}{s:Shared}{x:V}{u v:Value}(ru:RelV x u)(rv:RelV x v)(hx:∀b,x≠.fq b)(hb:∀b,x≠.cM b):SeqAt.EqAt A s u v true:=by
 cases x with
 | aB=>cases ru;cases rv;exact SeqAt.EqAt.same _
 | bl b=>cases ru;cases rv;exact SeqAt.EqAt.same _
 | ref a=>cases ru;cases rv;exact SeqAt.EqAt.same _
 | ty n=>cases ru;cases rv;exact SeqAt.EqAt.same _
 | fq b=>exact absurd rfl (hx b)
 | int i =>
  have:=yC (A:=A) (s:=s) ru rv rfl rfl;rwa [show iT (V.int i) (V.int i)=true by simp[iT]] at this
 | str z =>
  have:=yC (A:=A) (s:=s) ru rv rfl rfl;rwa [show iT (V.str z) (V.str z)=true by simp[iT]] at this
 | cM z=>exact absurd rfl (hb z)
theorem FA(hu:X.A.units<cLine):bU X (compareOp .NotEq) (λx y H Q=>∃(a b:Addr) (xs:List V),x = .ref a/\y = .ref b/\au X.K H a xs/\au X.K H b xs/\(∀v∈xs,(∀b,v≠.fq b)/\∀b,v≠.cM b)/\Q (.bl false) H):=by
 rintro pins s σ H x y v u Q I rx ry ⟨a,b,xs,rfl,rfl,ha,hb,hv,q⟩;cases rx;cases ry;obtain⟨ao,r1,p1,z1⟩:=I.list ha;obtain⟨bZ,r2,p2,z2⟩:=I.list hb;have l1:=r1.length;have l2:=r2.length;have e0:(!(List.range ao.toArray.size).all λ_=>true)=false:=by simp
 have fin:=SeqAt.RcNeAt.lists (A:=X.A) (s:=s) (e:=λ_=>true) p1.isList p2.isList (by simp;lia) hu (λj h1 h2=>?_) X.prog X.w X.xe (EP X pins σ Q) (by rw[e0];exact⟨.bl false,H,I,rfl,q⟩)
 ·exact fin
 ·have g1:ao[j]? = some ao.toArray[j]:=by
   rw[List.getElem_toArray,List.getElem?_eq_getElem (by simpa using h1)]
  have g2:bZ[j]? = some bZ.toArray[j]:=by
   rw[List.getElem_toArray,List.getElem?_eq_getElem (by simpa using h2)]
  have hj:j<xs.length:=by rw[l1];simpa using h1
  obtain⟨u1,q1,w1⟩:=r1.get (List.getElem?_eq_getElem hj);obtain⟨u2,q2,w2⟩:=r2.get (List.getElem?_eq_getElem hj);rw[g1] at q1;cases q1;rw[g2] at q2;cases q2;exact Fz w1 w2 (hv _ (List.getElem_mem hj)).1 (hv _ (List.getElem_mem hj)).2
end
noncomputable def AllP{α:Type}(P:α->Prop):List α->Prop
 | []=>True
 | a::r=>P a/\AllP P r
theorem AllP.mem{α:Type}{P:α->Prop}:∀ {l:List α},AllP P l->∀a∈l,P a
 | _::_,h,a,hm=>by
  rcases List.mem_cons.mp hm with rfl | hm
  ·exact h.1
  ·exact AllP.mem h.2 a hm
theorem cB.of{X:Cx}{scope:Scope}{cl:List (Str×Addr)}{N:List Str}{nt:Nat}{fv:List Nat}(jS:closureFor scope X.env=pure cl)(kind:scope.kind = .function)
  (jT:(scope.names.all λy=>y.2 != .cell)=true) (names:(scope.names.all λy=>y.2 != .local || scope.names.lookup y.1 == some .local)=true)
  (sub:AllP (λp:Str×Addr=>X.env.cells.lookup p.1=some p.2) cl) (has:(scope.names.all λy=>y.2 != .free || (cl.lookup y.1).isSome)=true)
  (free:fv.map (λj=>X.N[j]?)=(N.drop nt).map some) (fk:((N.drop nt).all λy=>scope.names.lookup y == some .free && X.env.scope.names.lookup y == some .cell)=true) (le:nt<=N.length) (nd:N.Nodup) :
  cB X scope cl N nt fv where
 jS:=jS
 kind:=kind
 jT:=λy hy=>by have:=List.all_eq_true.mp jT y hy;simpa using this
 names:=λy hy hl=>by have:=List.all_eq_true.mp names y hy;simp[hl] at this;exact this
 sub:=sub.mem
 has:=λy hy hl=>by
  have:=List.all_eq_true.mp has y hy;rw[hl] at this;exact Option.isSome_iff_exists.mp (by simpa only[bne_self_eq_false,Bool.false_or] using this)
 free:=free
 fk:=λy hy=>by have:=List.all_eq_true.mp fk y hy;simpa using this
 le:=le
 nd:=nd
theorem NH{CX:cW}{P:Program}{w:World}{K:PySem.W.Frag}{mg:Str->Option Value}{base:Heap}{N:List Str}{qual:Str}{scope:Scope}{f:Addr}{cd:Value}{A:Around}{outer:List Env}{s:Shared}{H:Hp}{E:XK} :
  (gI CX P w K mg base N qual scope f cd A outer s H E).K=K:=rfl
theorem NI{X:Cx}{E:Value->Shared->Prop}:(X.eS E).K=X.K:=rfl
theorem NJ{X:Cx}{scope:Scope}{cl:List (Str×Addr)}{N:List Str}{C:Addr}{s:Shared}{H:Hp}{fp:List Addr}:(cL X scope cl N C s H fp).K=X.K:=rfl
noncomputable def rM(ns:List Int)(k:Int):Int:=ns.getD k.toNat 0
noncomputable def rN(K:PySem.W.Frag):Sp:=λvs H Q _=>∃(a:Addr) (ns:List Int) (k:Int),vs = [.ref a,.int k]/\au K H a (ns.map V.int)/\ns.length<=63/\0<=k/\Q (.int (rM ns k)) H
section
variable{K:PySem.W.Frag}{ta:TA}{tl:TE}{g:TG}{tb:TS}{D:Ends}{σ:St}{H:Hp}
theorem FD(a:Addr)(xs:List V)(cX:∀Q:VK,Q (.ref a) H->tl σ H Q)(cY:au K H a xs)(Pv:Nat->St->Hp->Prop)(h0:Pv 0 σ H)(hl:∀i σ H,i<=xs.length->Pv i σ H->au K H a xs)
  (hs:∀i x σ H,xs[i]? = some x->Pv i σ H->g x σ H λaq H2=>tb { D with nx:=Pv (i+1),ct:=Pv (i+1),bk:=D.nx } aq H2) (hd:∀σ H,Pv xs.length σ H->D.nx σ H):eo (gG K tl) g tb D σ H :=
 cX _ ⟨a,rfl,⟨xs,cY⟩,xU Pv h0 hl hs hd⟩
variable{tt:TT}{te:TE}{nt:Nat}{fv:List Nat}{Q:VK}
noncomputable def NX(n i:Nat)(P:Prop):Prop:=∃m',m' < n - i/\m' = n - (i+1)/\i+1<=n/\P
theorem NX.of{n i:Nat}{P:Prop}(hi:i<n)(p:P):NX n i P:=⟨n - (i+1),by lia,rfl,hi,p⟩
theorem FE(a:Addr)(xs:List V)(cX:∀Q:VK,Q (.ref a) H->tl σ H Q)(cY:au K H a xs)
  (Pv:Addr->Nat->List V->St->Hp->Prop) (h0:∀D,H D=none->Pv D 0 [] (fO σ nt fv) (upd H D (.lst []))) (hD:∀D i ys σ H,Pv D i ys σ H->H D=some (.lst ys)/\ys.length<sizeLine/\au K H a xs)
  (hs:∀D i x ys aq H2,xs[i]? = some x->Pv D i ys aq H2->g x aq H2 λbA H4=>tt bA H4 λb H5=>if b=true then te bA H5 λv H6=>H6 D=some (.lst ys)/\NX xs.length i (Pv D (i+1) (ys++[v]) bA (upd H6 D (.lst (ys++[v])))) else NX xs.length i (Pv D (i+1) ys bA H5))
  (hd:∀D ys aq H2,Pv D xs.length ys aq H2->Q (.ref D) H2):eX (gG K tl) g tt te nt fv σ H Q:=by
 refine cX _ ⟨a,rfl,⟨xs,cY⟩,λD iu=>?_⟩;refine⟨λi m ys aq H2=>m=xs.length - i/\i<=xs.length/\Pv D i ys aq H2,⟨_,rfl,Nat.zero_le _,h0 D iu⟩,?_⟩;rintro i m ys aq H2 ⟨rfl,eZ,p⟩;obtain⟨d1,d2,d3⟩:=hD D i ys aq H2 p;refine⟨d1,d2,?_⟩;by_cases bD:i<xs.length
 ·refine .inr ⟨⟨xs,xs[i],d3,by simp[bD]⟩,λx H3 y=>?_⟩
  obtain⟨e1,e2⟩:=y;subst e1;exact hs D i x ys aq _ (e2 xs d3) p
 ·have e:i=xs.length:=by lia
  subst e;exact .inl ⟨⟨xs,d3,Nat.le_refl _⟩,hd D ys aq H2 p⟩
end
theorem rO{ns:List Int}{k:Int}(h0:0<=k)(h:k<(ns.length:Int)):eB (ns.map V.int) k=some (.int (ns.getD k.toNat 0)):=by
 have hk:k.toNat<ns.length:=by lia
 unfold eB gJ;rw[if_pos h0,if_pos (by simpa using h)]
 simp[List.getD_eq_getElem?_getD,List.getElem?_eq_getElem hk]
theorem FF(a b:String):(Str.ofString a=Str.ofString b)=(a=b):=by
 refine propext ⟨λh=>?_,λh=>by rw[h]⟩
 rw[Str.ofString_eq_toList,Str.ofString_eq_toList] at h;have h:a.toList.map Char.toNat=b.toList.map Char.toNat:=by
  injection h with h;exact Array.toList_inj.mpr h |> λz=>by simpa using h
 have inj:∀(x y:List Char),x.map Char.toNat=y.map Char.toNat->x=y:=by
  intro x
  induction x with
  | nil=>intro y h;cases y with | nil=>rfl | cons c r=>simp at h
  | cons c r ih =>
   intro y h;cases y with
   | nil=>simp at h
   | cons d q =>
    simp only[List.map_cons,List.cons.injEq] at h;rw[ih q h.2,Char.toNat_inj.mp h.1]
 exact String.ext (inj _ _ h)
theorem NK(a b:String):(Str.ofString a == Str.ofString b)=(a == b):=by
 by_cases h:a=b
 ·subst h;simp
 ·have h2:¬ Str.ofString a=Str.ofString b:=by rw[FF];exact h
  rw[beq_eq_false_iff_ne.mpr h,beq_eq_false_iff_ne.mpr h2]
theorem NL:sizeLine=16777216:=by decide
theorem take_succ_get{α:Type}{l:List α}{i:Nat}{x:α}(h:l[i]? = some x):l.take (i+1)=l.take i++[x]:=by
 rw[List.take_add_one,h];rfl
theorem e7{α β:Type}{f:α->β}{l:List α}{i:Nat}{y:β}(h:(l.map f)[i]? = some y):∃x,l[i]? = some x/\y=f x:=by
 rw[List.getElem?_map] at h;cases e:l[i]? with
 | none=>rw[e] at h;cases h
 | some x=>rw[e] at h;exact⟨x,rfl,(Option.some.inj h).symm⟩
theorem get_mem{α:Type}{l:List α}{i:Nat}{x:α}(h:l[i]? = some x):x∈l:=List.mem_of_getElem? h
theorem jU{α:Type}{l:List α}{i:Nat}{x:α}(h:l[i]? = some x):i<l.length:=(List.getElem?_eq_some_iff.mp h).1
theorem ah.put{H:Hp}{a:Addr}{o:HO}(h:H a=none):ah H (upd H a o):=λb u e=>by rw[bC (dJ e h)];exact e
theorem ah.put2{H H':Hp}{a:Addr}{o:HO}(s:ah H H')(h:H a=none):ah H (upd H' a o):=λb u e=>by rw[bC (dJ e h)];exact s b u e
section
variable{X:Cx}{K:PySem.W.Frag}
theorem mj(h:X.K=K):jP X (yz K):=h▸bO
end
section
variable{K:PySem.W.Frag}{ta:TA}{tl:TE}{g:TG}{tb:TS}{D:Ends}{σ:St}{H:Hp}
theorem rl(a:Addr)(xs:List V)(Pv:Nat->St->Hp->Prop)(cX:∀Q:VK,Q (.ref a) H->tl σ H Q)(cY:au K H a xs)(h0:Pv 0 σ H)(hl:∀i σ H,i<=xs.length->Pv i σ H->au K H a xs)
  (hs:∀i x σ H (N:St->Hp->Prop),(∀σ H,Pv (i+1) σ H->N σ H)->xs[i]? = some x->Pv i σ H->g x σ H λaq H2=>tb { D with nx:=N,ct:=N,bk:=D.nx } aq H2) (hd:∀σ H,Pv xs.length σ H->D.nx σ H):eo (gG K tl) g tb D σ H :=
 FD a xs cX cY Pv h0 hl (λi x σ H hx p=>hs i x σ H _ (λ_ _ z=>z) hx p) hd
theorem FG(n:Int)(Pv:Nat->St->Hp->Prop)(rP:∀Q:List V->Hp->Prop,Q [.int n] H->ta σ H Q)(NN : -1000000000000<n)(hn:n<1000000000000)(h0:Pv 0 σ H)
  (hs:∀i σ H (N:St->Hp->Prop),(∀σ H,Pv (i+1) σ H->N σ H)->i<n.toNat->Pv i σ H->g (.int (i:Int)) σ H λaq H2=>tb { D with nx:=N,ct:=N,bk:=D.nx } aq H2) (hd:∀σ H,Pv n.toNat σ H->D.nx σ H):eo (qO ta) g tb D σ H:=by
 refine rP _ ⟨n,rfl,by lia,by lia,?_⟩
 refine DB Pv h0 (λi σ H hi p=>?_) hd;have e2:(0:Int)+(i:Int)=i:=by lia
 rw[e2];exact hs i σ H _ (λ_ _ z=>z) hi p
noncomputable def mq(K:PySem.W.Frag)(a:Addr)(g:TG)(tb:TS)(D:Ends)(σ:St)(H:Hp):Prop:=(∃xs,au K H a xs)/\∃W:Nat->Nat->St->Hp->Prop,(∃m,W 0 m σ H)/\∀i m σ H,W i m σ H->
 ((gF K a).stop i H/\D.nx σ H)\/((gF K a).go i H/\∃N:St->Hp->Prop,(∀aG H',N aG H'->∃m',m' < m/\W (i+1) m' aG H')/\∀x H',(gF K a).gD i H x H'->g x σ H' λaq H2=>tb { D with nx:=N,ct:=N,bk:=D.nx } aq H2)
theorem FH(h:tl σ H λx H1=>∃a,x = .ref a/\mq K a g tb D σ H1):eo (gG K tl) g tb D σ H:=h
theorem mq.by(a:Addr)(xs:List V)(Pv:Nat->St->Hp->Prop)(cY:au K H a xs)(h0:Pv 0 σ H)(hl:∀i σ H,i<=xs.length->Pv i σ H->au K H a xs)
  (hs:∀i x σ H (N:St->Hp->Prop),(∀σ H,Pv (i+1) σ H->N σ H)->xs[i]? = some x->Pv i σ H->g x σ H λaq H2=>tb { D with nx:=N,ct:=N,bk:=D.nx } aq H2) (hd:∀σ H,Pv xs.length σ H->D.nx σ H):mq K a g tb D σ H :=
 ⟨⟨xs,cY⟩,xU Pv h0 hl (λi x σ H hx p=>hs i x σ H _ (λ_ _ z=>z) hx p) hd⟩
variable{tt:TT}{te:TE}{nt:Nat}{fv:List Nat}{Q:VK}
theorem FI(a:Addr)(xs:List V)(Pv:Addr->Nat->List V->St->Hp->Prop)(cX:∀Q:VK,Q (.ref a) H->tl σ H Q)(cY:au K H a xs)
  (h0:∀D,H D=none->Pv D 0 [] (fO σ nt fv) (upd H D (.lst []))) (hD:∀D i ys σ H,Pv D i ys σ H->H D=some (.lst ys)/\ys.length<sizeLine/\au K H a xs)
  (hs:∀D i x ys aq H2 (N:List V->St->Hp->Prop),(∀ys σ H,Pv D (i+1) ys σ H->N ys σ H)->xs[i]? = some x->Pv D i ys aq H2->g x aq H2 λbA H4=>tt bA H4 λb H5=>if b=true then te bA H5 λv H6=>H6 D=some (.lst ys)/\N (ys++[v]) bA (upd H6 D (.lst (ys++[v]))) else N ys bA H5)
  (hd:∀D ys aq H2,Pv D xs.length ys aq H2->Q (.ref D) H2):eX (gG K tl) g tt te nt fv σ H Q :=
 FE a xs cX cY Pv h0 hD (λD i x ys aq H2 hx p=>hs D i x ys aq H2 _ (λ_ _ _ z=>NX.of (List.getElem?_eq_some_iff.mp hx).1 z) hx p) hd
end
noncomputable def FJ(t:TS):TS:=λD σ H=>∃M:St->Hp->Prop,t { D with nx:=M } σ H/\∀gb H1,M gb H1->D.nx gb H1
theorem cu{X:Cx}{st:Stmt}{t:TS}(h:PS X st t):PS X st (FJ t):=by
 rintro pins s σ H D I ⟨M,hM,k⟩;refine aK (h pins s σ H _ I hM) λf s1 q=>?_;cases f with
 | next=>obtain⟨gb,H1,I1,q⟩:=q;exact⟨gb,H1,I1,k _ _ q⟩
 | brk=>exact q
 | cont=>exact q
 | ret u=>exact q
structure Pl where
 rc:List Int
 NO:Int
 NP:Int
 sw:List Int
 nc:List (Int×Int)
section
variable{K:PySem.W.Frag}{C:Addr}{H H':Hp}{p x:Addr}{P:Pl}{fp:List Addr}
noncomputable def SameBut(x:Addr)(H H':Hp):Prop:=∀b o,H b=some o->b≠x->H' b=some o
theorem SameBut.put{o:HO}(s:SameBut x H H'):SameBut x H (upd H' x o):=λb u e h=>by rw[bC h];exact s b u e h
theorem SameBut.step{H1 H2:Hp}(s:SameBut x H H1)(t:ah H1 H2):SameBut x H H2:=λb u e h=>t _ _ (s b u e h)
theorem SameBut.start{o:HO}:SameBut x H (upd H x o):=λb u e h=>by rw[bC h];exact e
theorem SameBut.of(s:ah H H'):SameBut x H H':=λb u e _=>s _ _ e
end
theorem yS(ns:List Int)(lo hi:Option Int):∃ms:List Int,dX (ns.map V.int) lo hi=ms.map V.int/\ms.length<=ns.length:=by
 refine⟨(ns.drop (_H.cA (ns.map V.int).length 0 lo)).take (_H.cA (ns.map V.int).length (ns.map V.int).length hi - _H.cA (ns.map V.int).length 0 lo),?_,?_⟩
 ·unfold dX;rw[List.map_take,List.map_drop]
 ·rw[List.length_take,List.length_drop];lia
noncomputable def mw(K:PySem.W.Frag):Sp:=λvs H Q _=>∃(a:Addr) (ns:List Int),vs = [.ref a]/\au K H a (ns.map V.int)/\ns.length<=63/\∀H',Q (.bl true) H'
theorem ite_no{c A B:Prop}[Decidable c](h:¬ c)(b:B):if c then A else B:=by rw[if_neg h];exact b
theorem ite_yes{c A B:Prop}[Decidable c](h:c)(a:A):if c then A else B:=by rw[if_pos h];exact a
section
variable{X:Cx}{CX:cW}{k:Nat}{f C:Addr}{fd:FuncData}{ps:List Str}{sp:Sp}{bM:List V}{ds:List Value}{E:XK}{x m:Str}{p pos apos:Pos}{e:Expr}{es:List Expr}{t:TA}
end
section
variable{X:Cx}
end
section
variable{X:Cx}{pins:List (Addr×Obj)}{σ:St}{H:Hp}{s:Shared}
end
section
variable{X:Cx}
end
section
variable{K:PySem.W.Frag}{ta:TA}{g:TG}{D:Ends}{σ:St}{H:Hp}{tt:TT}{te:TE}{nt:Nat}{fv:List Nat}{Q:VK}
end
noncomputable def NQ(cs:List Addr)(m:Str)(sp:Sp)(bM:List V)(E:XK)(ta:TE)(t:TA):TE:=λσ H Q=>ta σ H λx H1=>∃C a dx fs,x = .ref a/\H1 a=some (.ins C dx fs)/\C∈cs/\fs.lookup m=none/\t σ H1 λvs H2=>sp (x::(vs++bM)) H2 Q E
section
variable{X:Cx}{CX:cW}{k:Nat}{f:Addr}{cs:List Addr}{fd:FuncData}{ps:List Str}{sp:Sp}{bM:List V}{ds:List Value}{E:XK}{m:Str}{pos apos:Pos}{o e:Expr}{es:List Expr}{ta:TE}{t:TA}
end
section
variable{K:PySem.W.Frag}{C:Addr}{H H':Hp}{p:Addr}{P:Pl}{fp:List Addr}{mv:Addr}{ms:List V}
end
section
variable{H H':Hp}{a:Addr}{ts:List Addr}{z:List (List Int)}
end
section
variable{ta:TA}{g:TG}{tt:TT}{te:TE}{nt:Nat}{fv:List Nat}{Q:VK}{σ:St}{H:Hp}
theorem yT(n:Int)(Pv:Addr->Nat->List V->St->Hp->Prop)(rP:∀Q:List V->Hp->Prop,Q [.int n] H->ta σ H Q)(b1 : -1000000000000<n)(b2:n<1000000000000)
  (h0:∀D,H D=none->Pv D 0 [] (fO σ nt fv) (upd H D (.lst []))) (hD:∀D i ys σ H,Pv D i ys σ H->H D=some (.lst ys)/\ys.length<sizeLine)
  (hs:∀D i ys aq H2 (N:List V->St->Hp->Prop),(∀ys σ H,Pv D (i+1) ys σ H->N ys σ H)->i<n.toNat->Pv D i ys aq H2->g (.int (i:Int)) aq H2 λbA H4=>tt bA H4 λb H5=>if b=true then te bA H5 λv H6=>H6 D=some (.lst ys)/\N (ys++[v]) bA (upd H6 D (.lst (ys++[v]))) else N ys bA H5)
  (hd:∀D ys aq H2,Pv D n.toNat ys aq H2->Q (.ref D) H2):eX (qO ta) g tt te nt fv σ H Q:=by
 refine rP _ ⟨n,rfl,by lia,by lia,λD iu=>?_⟩
 refine⟨λi m ys aq H2=>m=n.toNat - i/\i<=n.toNat/\Pv D i ys aq H2,⟨_,rfl,Nat.zero_le _,h0 D iu⟩,?_⟩;rintro i m ys aq H2 ⟨rfl,eZ,p⟩;obtain⟨d1,d2⟩:=hD D i ys aq H2 p;refine⟨d1,d2,?_⟩;by_cases bD:i<n.toNat
 ·refine .inr ⟨bD,λx H3 y=>?_⟩;obtain⟨e1,e2⟩:=y;subst e1 e2;have e2:(0:Int)+(i:Int)=i:=by lia
  rw[e2];exact hs D i ys aq _ _ (λ_ _ _ z=>NX.of bD z) bD p
 ·have e:i=n.toNat:=by lia
  subst e;exact .inl ⟨Nat.le_refl _,hd D ys aq H2 p⟩
end
structure jV(K:PySem.W.Frag)(x qual:Str)(st:Stmt)(f:Addr)(fd:FuncData):Prop where
 ex:∃(oc:Value) (od:Option Addr) (dV kV doc pm:Value) (an:Option Addr) (aH ct:Value) (dm:Array (Option Value)),
  fd=PySem.W.fnOf x qual (cT st) (cK st) (aO st) dV kV doc pm an aH ct/\K.lookup f=some ⟨oc,od,.func fd,dm⟩/\PySem.W.codeIn K aH qual=true
 kp:PySem.W.keepIn K (.ref f)=true
section
variable{P:Program}{w:World}{K:PySem.W.Frag}{mg:Str->Option Value}{base:Heap}
theorem jV.ok{x qual:Str}{st:Stmt}{f:Addr}{fd:FuncData}{N ps:List Str}{k:Nat}{sp:Sp}(F:jV K x qual st f fd)(S:bq N ps (aO st))(len:∀vs H Q E,sp vs H Q E->vs.length=ps.length)
  (jO:∀(aH:Value) (A:Around) (outer:List Env) (s:Shared) (H:Hp) (vs:List V) (Q:VK) (E:XK),bK k (A.deeper (envOfC qual (aO st) s.heap.objs.size f aH))->sp vs H Q E->
   ∃t,cR (gI bf P w K mg base N qual (aO st) f aH A outer s H E).iL (cK st) t/\t { nx:=λ_ H'=>Q .aB H',rt:=Q } (start N vs) H):aV P w K mg base bf (k+1) f fd ps sp:=by
 obtain⟨oc,od,dV,kV,doc,pm,an,aH,ct,dm,rfl,lk,dN⟩:=F.ex;refine yw lk dN S len λA outer s H vs Q E hr fL=>?_;obtain⟨t,h,q⟩:=jO aH A outer s H vs Q E hr fL;exact⟨t,h.iL,q⟩
theorem yU{x qual:Str}{st:Stmt}{f:Addr}{oc:Value}{od an:Option Addr}{dm:Array (Option Value)}{dV kV doc pm aH ct:Value}(l:K.lookup f=some ⟨oc,od,.func (PySem.W.fnOf x qual (cT st) (cK st) (aO st) dV kV doc pm an aH ct),dm⟩)
  (c:PySem.W.codeIn K aH qual=true) (k:PySem.W.keepIn K (.ref f)=true):jV K x qual st f (PySem.W.fnOf x qual (cT st) (cK st) (aO st) dV kV doc pm an aH ct):=⟨⟨oc,od,dV,kV,doc,pm,an,aH,ct,dm,rfl,l,c⟩,k⟩
end
section
variable{X:Cx}
theorem FL{xs:List Bool}{ao:List Value}(r:Vals (xs.map V.bl) ao):ao=xs.map Value.bool:=by
 induction xs generalizing ao with
 | nil=>cases r;rfl
 | cons b xs ih =>
  cases r with
  | cons r1 r2=>cases (show _=Value.bool b from r1);rw[ih r2];rfl
theorem FN(hc:X.calm=true):fJ X (.builtin "all") (λxs H Q=>∃(p:Addr) (bs:List Bool),xs = [.ref p]/\au X.K H p (bs.map V.bl)/\Q (.bl (bs.all id)) H):=by
 intro pins s σ H xs us Q I r h;obtain⟨p,bs,rfl,hq,q⟩:=h;obtain⟨u,rfl,ru⟩:=vals1 r;cases ru;obtain⟨ao,rv,pl,hz⟩:=I.list hq;have eb:=FL rv;subst eb;have FO:p<s.heap.objs.size:=by obtain⟨_,q1,_⟩:=pl.isList;exact Heap.lt_size q1
 refine call_all_walk (wpAny_pyIter_list pl.isList ?_);refine⟨s.heap.objs.size,[s.heap.objs.size,p],[s.heap.objs.size],(bs.map Value.bool).toArray.size,_,_,λi=>(bs[i]?).getD true,rfl,Walks.list (A:=X.A.in1) (I.ok.hd hc) _ p (Nat.ne_of_lt FO) (bs.map Value.bool).toArray,
  ⟨⟨_,Heap.get?_push_size _ rfl,rfl,rfl⟩,pl.isList.push _⟩,λi v s2 Q2 E2 FP hw=>?_,λh' tk hk=>?_⟩
 ·have FQ:(bs.map Value.bool)[i]? = some v:=by simpa using FP
  obtain⟨b,eb,rfl⟩:=e7 FQ;simp only[eb,Option.getD_some] at hw;exact wpAny_truthy_bool hw
 ·have e:((List.range (bs.map Value.bool).toArray.size).all λi=>(bs[i]?).getD true)=bs.all id:=by
   rw[List.size_toArray,List.length_map];exact LSm.range_all bs
  rw[e];exact⟨.bl (bs.all id),H,I.kept (LSm.kept_iter hk),rfl,q⟩
noncomputable def NR(ta:TA):TE:=λσ H Q=>ta σ H λvs H1=>∃i j:Int,vs = [.int i,.int j]/\(-1000000000000<i/\i<1000000000000/\-1000000000000<j/\j<1000000000000)/\(j - i).toNat<=1000000/\
 ∀l,H1 l=none->Q (.ref l) (upd H1 l (.lst ((List.range (j - i).toNat).map λ(k:Nat)=>V.int (i+(k:Int)))))
end
structure Ak where
 kind:Str
 first:Int
 many:Int
 marks:List Int
 at_:Int
 cC:Int
 e8:Option Int
 behind:List Int
 early:Bool
noncomputable def b6:Option Int->V
 | none=>.aB
 | some i=>.int i
noncomputable def mz(q:Ak)(m b:Addr):List (Str×V):=[("kind",.str q.kind),("first",.int q.first),("many",.int q.many),("marks",.ref m),("at",.int q.at_),("asker",.int q.cC),("latest",b6 q.e8),("behind",.ref b),("early",.bl q.early)]
structure cU(K:PySem.W.Frag)(C:Addr)(H:Hp)(p:Addr)(q:Ak)(m b dx:Addr):Prop where
 o:H p=some (.ins C dx (mz q m b))
 ms:H m=some (.tup (q.marks.map V.int))
 bh:H b=some (.tup (q.behind.map V.int))
theorem cU.same{K:PySem.W.Frag}{C:Addr}{H H':Hp}{p:Addr}{q:Ak}{m b dx:Addr}(h:cU K C H p q m b dx)(s:ah H H'):cU K C H' p q m b dx:=⟨s _ _ h.o,s _ _ h.ms,s _ _ h.bh⟩
theorem mC{K:PySem.W.Frag}{C:Addr}{H H1:Hp}{x dx m b:Addr}{q:Ak}(s:ah H H1)(nx:H1 x=none)(e9:H1 dx=none)(cG:dx≠x)(hm:H1 m=some (.tup (q.marks.map V.int)))(hb:H1 b=some (.tup (q.behind.map V.int))) :
  ah H (upd (upd (upd H1 dx (.own x)) x (.ins C dx [])) x (.ins C dx (mz q m b)))/\H x=none/\cU K C (upd (upd (upd H1 dx (.own x)) x (.ins C dx [])) x (.ins C dx (mz q m b))) x q m b dx:=by
 have s1:=ah.put (o:=.own x) e9;have FT:upd H1 dx (.own x) x=none:=by rw[bC (Ne.symm cG)];exact nx
 have s2:ah H1 (upd (upd (upd H1 dx (.own x)) x (.ins C dx [])) x (.ins C dx (mz q m b))):=ah.put2 (s1.trans (ah.put FT)) nx;exact⟨s.trans s2,s.free nx,⟨aA,s2 _ _ hm,s2 _ _ hb⟩⟩
structure d7(ns:List Int):Prop where
 up:ns.Pairwise (· < ·)
 lo:∀n∈ns,0<=n
 hi:∀n∈ns,n<=99
noncomputable def jW(x:Int)(ns:List Int)(i:Nat):Int:=if i=0 then x else ns.getD (i - 1) 0
theorem d7.step{ns:List Int}(h:d7 ns){i:Nat}{n:Int}(e:ns[i]? = some n):jW (-1) ns i+1<=n/\n<=99:=by
 refine⟨?_,h.hi n (get_mem e)⟩;unfold jW;split
 ·have:=h.lo n (get_mem e);lia
 ·have hi:=jU e;obtain⟨h1,e1⟩:=List.getElem?_eq_some_iff.mp e;have e2:ns.getD (i - 1) 0=ns[i - 1]:=by simp[List.getD_eq_getElem?_getD,List.getElem?_eq_getElem (show i - 1<ns.length by lia)]
  have:=List.pairwise_iff_getElem.mp h.up (i - 1) i (by lia) h1 (by lia)
  rw[e2];lia
theorem FU{x:Int}{ns:List Int}{i:Nat}{n:Int}(e:ns[i]? = some n):jW x ns (i+1)=n:=by
 simp[jW,List.getD_eq_getElem?_getD,e]
noncomputable def i7(K:PySem.W.Frag)(H:Hp)(v:V)(ns:List Int):Prop:=(v = .aB/\ns = [])\/∃a,v = .ref a/\(au K H a (ns.map V.int)\/H a=some (.tup (ns.map V.int)))
structure gf(first many at_ cC:Int)(FW:Option Int):Prop where
 f0:0<=first
 f1:first<=1000000
 m0:1<=many
 m1:many<=16
 a0:0<=at_
 a1:at_<=1000000000000
 s0:0<=cC
 s1:cC<=20
 l:∀x,FW=some x->0<=x/\x<=10000000000000
noncomputable def FY:Sp:=λvs H Q _=>∃(n lo hi:Int) (w:Str),vs = [.int n,.int lo,.int hi,.str w]/\lo<=n/\n<=hi/\Q .aB H
noncomputable def FZ(K:PySem.W.Frag):Sp:=λvs H Q _=>∃(b:Addr) (ns:List Int),vs = [.ref b]/\aC K H b (ns.map V.int)/\d7 ns/\Q .aB H
noncomputable def F_(K:PySem.W.Frag):Sp:=λvs H Q _=>∃(f m a s:Int) (l:Option Int) (b:Addr) (ns:List Int),vs = [.int f,.int m,.int a,.int s,b6 l,.ref b]/\gf f m a s l/\aC K H b (ns.map V.int)/\d7 ns/\Q .aB H
noncomputable def Ga(K:PySem.W.Frag):Sp:=λvs H Q _=>∃(v:V) (ns:List Int),vs = [v]/\i7 K H v ns/\∀b H',ah H H'->H' b=some (.tup (ns.map V.int))->Q (.ref b) H'
noncomputable def Gb(C:Addr):Sp:=λvs H Q _=>∃(p dx:Addr) (v1 v2 v3 v4 v5 v6 v7 v8 v9:V),vs = [.ref p,v1,v2,v3,v4,v5,v6,v7,v8,v9]/\H p=some (.ins C dx [])/\
 Q .aB (upd H p (.ins C dx [("kind",v1),("first",v2),("many",v3),("marks",v4),("at",v5),("asker",v6),("latest",v7),("behind",v8),("early",v9)]))
noncomputable def Gd(K:PySem.W.Frag)(C:Addr):Sp:=λvs H Q _=>∃(f m a s:Int) (l:Option Int) (bv:V) (ns:List Int),vs = [.int f,.int m,.int a,.int s,b6 l,bv]/\gf f m a s l/\i7 K H bv ns/\d7 ns/\
 ∀p mk b dx H',ah H H'->H p=none->cU K C H' p ⟨"read",f,m,[],a,s,l,ns,false⟩ mk b dx->Q (.ref p) H'
noncomputable def Ge(K:PySem.W.Frag)(C:Addr):Sp:=λvs H Q _=>∃(a:Int),vs = [.int a]/\0<=a/\a<=1000000000000/\∀p mk b dx H',ah H H'->H p=none->cU K C H' p ⟨"rest",0,0,[],a,0,none,[],false⟩ mk b dx->Q (.ref p) H'
section
variable{K:PySem.W.Frag}{tl:TE}{g:TG}{tb:TS}{D:Ends}{σ:St}{H:Hp}
theorem rt(a:Addr)(xs:List V)(Pv:Nat->St->Hp->Prop)(cX:∀Q:VK,Q (.ref a) H->tl σ H Q)(cY:aC K H a xs)(h0:Pv 0 σ H)(hl:∀i σ H,i<=xs.length->Pv i σ H->aC K H a xs)
  (hs:∀i x σ H (N:St->Hp->Prop),(∀σ H,Pv (i+1) σ H->N σ H)->xs[i]? = some x->Pv i σ H->g x σ H λaq H2=>tb { D with nx:=N,ct:=N,bk:=D.nx } aq H2) (hd:∀σ H,Pv xs.length σ H->D.nx σ H):eo (qN K tl) g tb D σ H :=
 cX _ ⟨a,rfl,⟨xs,cY⟩,DA Pv h0 hl (λi x σ H hx p=>hs i x σ H _ (λ_ _ z=>z) hx p) hd⟩
end
noncomputable def f2(o:Obj):Option Value:=match o.data with
 | .fields vs=>vs[2]?
 | _=>none
noncomputable def Gf(h:Heap)(a:Addr)(od:Option Addr):Prop:=∃oe,h.get? a=some oe/\oe.dict=od.map (· / 2)/\∀k,od=some k->k % 2=0->f2 oe=some .none
section
variable{M:Model}{A:Around}{E:Value->Shared->Prop}{s:Shared}{base:Heap}{env:Env}{l outer:List Env}{L e:Addr}{cls a0:Value}{od:Option Addr}{Q:Unit->Shared->Prop}
end
structure Cut(base B:Heap)(outer:List Env)(H H':Hp)(h:Heap):Prop where
 stays:base.StaysIn B
 k1:∀b o,h.get? b=some o->H b=none->b∉c_ outer->B.get? b=some o
 k2:∀b u,H' b=some u->∃o,B.get? b=some o
 k3:∀b o,h.get? b=some o->b∉c_ outer->∃o',B.get? b=some o'
noncomputable def Gg(P:Program)(w:World)(base:Heap):cW:=λouter H s E e s' =>
 ∃a C a0 H' B od,e = .ref a/\s'.os=s.os/\AllBare s'.gens/\Un (c_ outer) [] H H' s.heap s'.heap/\bR P w H' s'.heap/\H' a=none/\s.heap.get? a=none/\
  Cut base B outer H H' s.heap/\Heap.FlyingW B outer a (.ref C) a0 s'.heap/\Gf s'.heap a od/\E (.ref C) od H'
section
variable{P:Program}{w:World}{K:PySem.W.Frag}{mg:Str->Option Value}{base B:Heap}{N:List Str}{qual:Str}{scope:Scope}{f:Addr}{cd:Value}{A:Around}{outer:List Env}{bS sc s':Shared}{gY Hc H':Hp}{E:XK}
 {pins:List (Addr×Obj)} {σ:St} {a C:Addr} {a0:Value} {h':Heap} {od:Option Addr}
end
section
variable{X:Cx}{E:XK}{x:Str}{C:Addr}{bm:List Value}{newId jX B:String}{np fM pos:Pos}{Gh:Expr}{rest:List Expr}{t:TA}
end
section
variable{X:Cx}{pins:List (Addr×Obj)}{σ:St}{H H':Hp}{s s':Shared}{a C:Addr}{h':Heap}{E:XK}
end
noncomputable def XP(P:Program)(w:World)(base:Heap)(X:Cx)(pins:List (Addr×Obj))(σ:St)(E:XK)(e:Value)(s':Shared):Prop:=∃H1 s1,Inv X pins σ H1 s1/\Gg P w base X.stack H1 s1 E e s'
section
variable{X:Cx}{k:Nat}{f C:Addr}{fd:FuncData}{ps:List Str}{sp:Sp}{bM:List V}{ds:List Value}{E:XK}{x m:Str}{p pos apos:Pos}{e o:Expr}{es:List Expr}{ta:TE}{t:TA}
end
section
variable{X:Cx}{E:XK}{e:Expr}{te:TE}{pos:Pos}
end
section
variable{X:Cx}{pins:List (Addr×Obj)}{σ:St}{a C:Addr}{a0:Value}{H1 H':Hp}{s1 s':Shared}{B h':Heap}{od:Option Addr}
end
section
variable{X:Cx}{pins:List (Addr×Obj)}{σ:St}{H:Hp}{s:Shared}
end
noncomputable def mroIn(K:PySem.W.Frag)(C:Addr):List Value:=match K.lookup C with
 | some ⟨_,_,.cls cd,_⟩=>cd.mro
 | _=>[]
noncomputable def rQ(K:PySem.W.Frag)(C:Addr)(iw:List Value)(newId:String):Bool:=match K.lookup C with
 | some ⟨.type "type",_,.cls cd,sl⟩=>(match cd.mro,sl.toList with
  | .ref C'::bm,[_,_,_,_,some (.builtin n),_]=>C' == C && n == newId && !cd.hasDel && PySem.W.tailIn K iw bm && PySem.W.nsOkIn K cd.ns
  | _,_=>false)
 | _=>false
theorem Gi{K:PySem.W.Frag}{C:Addr}{iw:List Value}{newId:String}(q:PySem.W.excIn K C iw newId=true):rQ K C iw newId=true:=by
 unfold PySem.W.excIn at q;unfold rQ;cases e:K.lookup C with
 | none=>rw[e] at q;cases q
 | some o =>
  rw[e] at q;split at q
  ·rename_i dd cd sl ho;cases ho;split at q
   ·rename_i C' bm k0 k1 k2 k3 n k5 hm hs;simp only[Bool.and_eq_true] at q;simp only[hm,hs,Bool.and_eq_true];exact q.1
   ·cases q
  ·cases q
structure yV(K:PySem.W.Frag)(C:Addr):Prop where
 ex:∃bm id,rQ K C bm id=true/\bm.contains (.type "BaseException")=true
theorem yV.of{K:PySem.W.Frag}{C:Addr}{bm:List Value}{id:String}(q:PySem.W.excIn K C bm id=true)(h:bm.contains (.type "BaseException")=true):yV K C:=⟨bm,id,Gi q,h⟩
end _L
namespace _L
open PySem PySem.Spec PyProof.Rows PySem.W PySem.Builtin.ObjectAttr PySem.Builtin.Getset_descriptor
section
variable{prog:Program}{w:World}{A:Around}{E:Value->Shared->Prop}{s:Shared}{K:Frag}{x D:Addr}{ox:Obj}{name:Str}
end
section
variable{X:Cx}
end
end _L
namespace _L
open PySem PySem.Spec PyProof.Rows PySem.W
section
variable(key:Nat->Int)
noncomputable def kk(p:Array Nat)(i:Nat):Int:=key (p.getD i 0)
variable{key}{p:Array Nat}
end
section
variable{prog:Program}{w:World}{A:Around}{E:Value->Shared->Prop}{s:Shared}
end
section
variable{n:Nat}{p q:Array Nat}
end
end _L
namespace _L
open PySem PySem.Spec PyProof.Rows
section
variable{X:Cx}
noncomputable def NS(K:PySem.W.Frag):R2:=λx y H Q=>∃l k xs,x = .ref l/\y = .int k/\H l=some (.tup xs)/\xs≠[]/\xs.length<=1000/\1<=k/\k<=1000/\∀p H',ah H H'->H' p=some (.tup (List.replicate k.toNat xs).flatten)->Q (.ref p) H'
end
section
variable{K:PySem.W.Frag}{C:Addr}{H H':Hp}{l:Addr}{ps:List Addr}{qs:List Ak}
end
section
variable{X:Cx}{pins:List (Addr×Obj)}{σ:St}{H:Hp}{s:Shared}{scope:Scope}{cl:List (Str×Addr)}{ps fs:List Str}{fv:List Nat}{A:Around}{qual:Str}{f c':Addr}
end
structure NT(mg:Str->Option Value)(base:Heap)(c P:Addr):Prop where
 hd:PySem.W.CodeHd base c P
 bm:∃bm ob,mg "__builtins__" = some (.ref bm)/\bm≠builtinsNs/\base.get? bm=some ob/\ob.cls = .type "module"/\ob.dict=some builtinsNs/\ob.data = .plain
section
variable{X:Cx}{pins:List (Addr×Obj)}{σ:St}{H:Hp}{s:Shared}{scope:Scope}{cl:List (Str×Addr)}{M:Model}{A:Around}{E:Value->Shared->Prop}{name qual:Str}{params:Arguments}{body:Expr}{pos:Pos}{firstLine:Nat}{c P:Addr}
end
end _L
namespace _L
open PySem PySem.Spec PyProof.Rows PySem.W
section
variable{prog:Program}{w:World}{A:Around}{E:Value->Shared->Prop}{s:Shared}
end
section
variable{X:Cx}{pins:List (Addr×Obj)}{σ:St}{H:Hp}{s:Shared}
variable{scope:Scope}{cl:List (Str×Addr)}{ps fs:List Str}{fv:List Nat}{A:Around}{qual name:Str}{f c' P kS:Addr}{params:Arguments}{body:Expr}{te:TE}{pm NU:Value}{pos:Pos}{kv:Nat->Int×Int}{n:Nat}{H1:Hp}{m:Str->Option Value}
end
end _L
namespace _L
open PySem PySem.Spec PyProof.Rows
section
variable{M:Model}{prog:Program}{w:World}{A:Around}{E:Value->Shared->Prop}{s:Shared}
end
section
variable{prog:Program}{w:World}{A:Around}{E:Value->Shared->Prop}{s:Shared}
end
section
variable{X:Cx}
end
section
variable{prog:Program}{w:World}{A:Around}{E:Value->Shared->Prop}{s:Shared}{d it:Addr}{es:Array DictEntry}{ep i:Nat}
end
section
variable{X:Cx}
end
section
variable{α:Type}{lt:α->α->Prop}
noncomputable def put(f:Nat->α)(k:Nat)(x:α):Nat->α:=λi=>if i=k then x else f i
end
noncomputable abbrev Th:=Int×List Int×Int
noncomputable def rR(a b:Th):Prop:=a.1<b.1\/(a.1=b.1/\(_H.lexLt a.2.1 b.2.1=true\/(a.2.1=b.2.1/\a.2.2<b.2.2)))
section
open PySem.SeqAt PySem.MeetsSeq PySem.MeetsSeq2 PySem.MeetsSeq3
open PySem.AutoSeq1 (wpAny_loadPart')
end
section
variable{prog:Program}{w:World}{A:Around}{E:Value->Shared->Prop}{s:Shared}
end
noncomputable def yW(H:Hp)(a:Addr)(t:Th):Prop:=∃p,H a=some (.tup [.int t.1,.ref p,.int t.2.2])/\H p=some (.tup (t.2.1.map V.int))
noncomputable instance (a b:Th):Decidable (rR a b):=by unfold rR;infer_instance
section
variable{X:Cx}{pins:List (Addr×Obj)}{σ:St}{H:Hp}{s:Shared}
end
section
variable{X:Cx}
theorem Gj(hu:X.A.units+16<cLine):bU X (compareOp .Eq) (λx y H Q=>∃a b xs,x = .ref a/\y = .ref b/\au X.K H a xs/\au X.K H b []/\Q (.bl xs.isEmpty) H):=by
 rintro pins s σ H x y v u Q I rx ry ⟨a,b,xs,rfl,rfl,ha,hb,q⟩;cases rx;cases ry;obtain⟨ao,r1,p1,z1⟩:=I.list ha;obtain⟨bZ,r2,p2,z2⟩:=I.list hb;cases r2;cases r1 with
 | nil =>
  have fin:=SeqAt.RcAt.lists (A:=X.A) (s:=s) (e:=λ_=>true) p1.isList p2.isList rfl (by lia) (λj h1 h2=>absurd (show j<0 from h1) (by lia))
  exact fin X.prog X.w _ _ ⟨.bl true,H,I,rfl,q⟩
 | cons r t =>
  have fin:=SeqAt.RcAt.lists_lengths (A:=X.A) (s:=s) p1.isList p2.isList (by simp) (by lia)
  exact fin X.prog X.w _ _ ⟨.bl false,H,I,rfl,q⟩
noncomputable abbrev Zs:=List (Addr×Th)
noncomputable def zV(zs:Zs):List V:=zs.map λz=>V.ref z.1
noncomputable def Gk(H:Hp)(zs:Zs):Prop:=∀z,z∈zs->yW H z.1 z.2
noncomputable def NV:V->List V->Hp->VK->Prop:=λx vs H Q=>∃l a zs t,x = .ref l/\vs = [.ref a]/\H l=some (.lst (zV zs))/\Gk H zs/\yW H a t/\t∈zs.map (·.2)/\
 ∀(k:Nat) (h:k<zs.length),zs[k].2=t->Q .aB (upd H l (.lst (zV (zs.eraseIdx k))))
end
section
variable{P:Addr}{pos:Pos}{qual:Str}{H H1 H2:Hp}
end
noncomputable abbrev Us:=List (Addr×List Int)
noncomputable def uV(zs:Us):List V:=zs.map λz=>V.ref z.1
noncomputable def yX(H:Hp)(zs:Us):Prop:=∀z,z∈zs->H z.1=some (.tup (z.2.map V.int))
section
variable{X:Cx}{pins:List (Addr×Obj)}{σ:St}{H:Hp}{s:Shared}
end
section
variable{X:Cx}
noncomputable def NW(K:PySem.W.Frag)(neg:Bool):R2:=λx y H Q=>∃(a p:Addr) (c:List Int) (zs:Us),x = .ref a/\y = .ref p/\H a=some (.tup (c.map V.int))/\au K H p (uV zs)/\yX H zs/\
 Q (.bl (if neg then !decide (c∈zs.map (·.2)) else decide (c∈zs.map (·.2)))) H
noncomputable def NY:V->List V->Hp->VK->Prop:=λx vs H Q=>∃(l a:Addr) (zs:Us) (c:List Int),x = .ref l/\vs = [.ref a]/\H l=some (.lst (uV zs))/\yX H zs/\H a=some (.tup (c.map V.int))/\c∈zs.map (·.2)/\
 ∀(k:Nat) (h:k<zs.length),zs[k].2=c->(∀m (hm:m<zs.length),m<k->zs[m].2≠c)->Q .aB (upd H l (.lst (uV (zs.eraseIdx k))))
end
section
variable{K:PySem.W.Frag}{tl:TE}{g:TG}{tt:TT}{te:TE}{nt:Nat}{fv:List Nat}{Q:VK}{σ:St}{H:Hp}
end
noncomputable def yY(a b:Addr×Th):Prop:=rR a.2 b.2
noncomputable instance (a b:Addr×Th):Decidable (yY a b):=by unfold yY;infer_instance
section
variable{H H':Hp}{l a:Addr}{zs ys:Zs}{t:Th}{k:Nat}
end
section
variable{X:Cx}
end
theorem yZ{α:Type}:∀r:List α,(List.range r.length).filterMap (λk=>r[k]?)=r
 | []=>rfl
 | x::r=>by
  rw[List.length_cons,List.range_succ_eq_map,List.filterMap_cons]
  show x::_=_;rw[List.filterMap_map];exact congrArg (x :: ·) (yZ r)
section
variable{X:Cx}{e st:Expr}{te ts:TE}{pos p2:Pos}
noncomputable def NZ(K:PySem.W.Frag)(te ts:TE):TE:=λσ H Q=>te σ H λx H1=>ts σ H1 λk H2=>∃a xs,x = .ref a/\k = .int (-1)/\au K H2 a xs/\∀p,H2 p=none->Q (.ref p) (upd H2 p (.lst xs.reverse))
end
noncomputable def T1(m:Nat)(led:Bool):SetTable:={ mask:=7,place := #[m % 8],dummies := #[],finger:=0,led,moves:=0,plain:=true }
noncomputable def mD(m n:Nat):Nat:=if n % 8=m % 8 then(5*(n % 8)+1) % 8 else n % 8
noncomputable def T2(m n:Nat)(led:Bool):SetTable:={ mask:=7,place:=if mD m n<m % 8 then #[mD m n,m % 8] else #[m % 8,mD m n],dummies := #[],finger:=0,led,moves:=0,plain:=true }
noncomputable def cH(m n:Nat)(y x:Value):Array (Int×Value):=if mD m n<m % 8 then #[((n:Int),x),((m:Int),y)] else #[((m:Int),y),((n:Int),x)]
noncomputable def bE(es:Array (Int×Value))(ep:Nat)(t:SetTable):Obj:={ cls:=.type "set",dict:=none,data:=.set es ep t }
section
variable{prog:Program}{w:World}{A:Around}{E:Value->Shared->Prop}{s:Shared}{a:Addr}{es bH:Array (Int×Value)}{ep:Nat}{t t1:SetTable}{n:Int}{tk:Tok}
end
section
variable{prog:Program}{w:World}{A:Around}{R:Result->Shared->Prop}{s:Shared}{l I S:Addr}{m n:Nat}{tm tn:Tok}{led:Bool}
theorem y9{a b:Int}{t:Tok}:(intKind prog w).is a (.int b t)=decide (a=b):=KeyKind.is_eq_decide (intKind_is _ _ _ _) a
end
noncomputable def cZ(xs:Array Nat):Prop:=∀i k:Nat,i<k->k<xs.size->xs.getD i 0<xs.getD k 0
theorem Gm{xs:Array Nat}{i:Nat}(h:i<xs.size)(a b:Nat):xs.getD i a=xs.getD i b:=by simp[Array.getD,h]
theorem rS{xs:Array Nat}{j:Nat}(hR:cZ xs):∀(fuel lo hi:Nat),lo<=hi->hi<=xs.size->hi - lo<=fuel->(∀k,k<lo->xs.getD k 0<j)->(∀k,hi<=k->k<xs.size->j<=xs.getD k 0)->
  (∀k,k<SetTable.below.go xs j fuel lo hi->xs.getD k 0<j)/\(∀k,SetTable.below.go xs j fuel lo hi<=k->k<xs.size->j<=xs.getD k 0)/\SetTable.below.go xs j fuel lo hi<=xs.size
 | 0,lo,hi,h1,h2,h3,a,b=>by
  have e:SetTable.below.go xs j 0 lo hi=lo:=rfl;rw[e];exact⟨a,λk hk=>b k (by lia),by lia⟩
 | fuel+1,lo,hi,h1,h2,h3,a,b=>by
  have e:SetTable.below.go xs j (fuel+1) lo hi=if lo<hi then(if xs.getD ((lo+hi) / 2) j<j then SetTable.below.go xs j fuel ((lo+hi) / 2+1) hi else SetTable.below.go xs j fuel lo ((lo+hi) / 2)) else lo:=rfl
  rw[e];by_cases h0:lo<hi
  ·have hm:(lo+hi) / 2<xs.size:=by lia
   rw[if_pos h0,Gm hm j 0];by_cases h4:xs.getD ((lo+hi) / 2) 0<j
   ·rw[if_pos h4];refine rS hR fuel _ hi (by lia) h2 (by lia) (λk hk=>?_) b
    by_cases e_:k=(lo+hi) / 2
    ·rw[e_];exact h4
    ·have:=hR k ((lo+hi) / 2) (by lia) hm;lia
   ·rw[if_neg h4];refine rS hR fuel lo _ (by lia) (by lia) (by lia) a λk hk hs=>?_
    by_cases e_:k=(lo+hi) / 2
    ·rw[e_];lia
    ·have:=hR ((lo+hi) / 2) k (by lia) hs;lia
  ·rw[if_neg h0];exact⟨a,λk hk=>b k (by lia),by lia⟩
theorem jY{xs:Array Nat}(hR:cZ xs)(j:Nat):(∀k,k<SetTable.below xs j->xs.getD k 0<j)/\(∀k,SetTable.below xs j<=k->k<xs.size->j<=xs.getD k 0)/\SetTable.below xs j<=xs.size :=
 rS hR xs.size 0 xs.size (Nat.zero_le _) (Nat.le_refl _) (Nat.le_refl _) (λk hk=>by lia) λk hk hs=>by lia
theorem below_at{xs:Array Nat}(hR:cZ xs){i:Nat}(hi:i<xs.size):SetTable.below xs (xs.getD i 0)=i:=by
 obtain⟨a,b,c⟩:=jY hR (xs.getD i 0);rcases Nat.lt_trichotomy (SetTable.below xs (xs.getD i 0)) i with h | h | h
 ·have:=b _ (Nat.le_refl _) (by lia);have:=hR _ _ h hi;lia
 ·exact h
 ·have:=a _ h;lia
theorem Gn{xs:Array Nat}(hR:cZ xs){i:Nat}(hi:i<xs.size):SetTable.below xs (xs.getD i 0+1)=i+1:=by
 obtain⟨a,b,c⟩:=jY hR (xs.getD i 0+1);rcases Nat.lt_trichotomy (SetTable.below xs (xs.getD i 0+1)) (i+1) with h | h | h
 ·have:=b i (by lia) hi;lia
 ·exact h
 ·have:=a (i+1) h;have:=hR i (i+1) (by lia) (by lia);lia
theorem Gp{xs:Array Nat}(hR:cZ xs):SetTable.below xs 0=0:=by
 obtain⟨a,b,c⟩:=jY hR 0;rcases Nat.eq_zero_or_pos (SetTable.below xs 0) with h | h
 ·exact h
 ·have:=a 0 h;lia
theorem i8(xs:Array Nat)(i:Nat):xs.getD i 0=xs.toList.getD i 0:=by
 rw[List.getD_eq_getElem?_getD,Array.getElem?_toList,Array.getD_eq_getD_getElem?]
theorem rT{l:List Nat}:cZ l.toArray↔l.Pairwise (· < ·):=by
 rw[List.pairwise_iff_getElem];constructor
 ·intro h i j hi hj Gq;have:=h i j Gq (by simpa using hj)
  rw[i8,i8] at this;simpa[List.getD_eq_getElem?_getD,hi,hj] using this
 ·intro h i k Gr hk;have iy:k<l.length:=by simpa using hk
  have:=h i k (by lia) iy Gr
  rw[i8,i8];simpa[List.getD_eq_getElem?_getD,iy,show i<l.length by lia] using this
theorem Gs{xs:Array Nat}(hR:cZ xs){j:Nat}(hj:j∉xs.toList):cZ (SetTable.insertAt xs (SetTable.below xs j) j):=by
 obtain⟨a,b,c⟩:=jY hR j;have hl:xs.toList.Pairwise (· < ·):=rT.mp (by simpa using hR)
 rw[← Array.toArray_toList (xs:=SetTable.insertAt xs (SetTable.below xs j) j),rT,SetTable.toList_insertAt];rw[List.pairwise_append];have rW:∀x∈xs.toList.take (SetTable.below xs j),x<j:=λx hx=>by
  obtain⟨k,hk,rfl⟩:=List.mem_iff_getElem.mp hx;rw[List.length_take] at hk;have:=a k (by lia)
  rw[i8] at this;rw[List.getElem_take];rw[List.getD_eq_getElem?_getD,List.getElem?_eq_getElem (by lia)] at this
  exact this
 have y_:∀x∈xs.toList.drop (SetTable.below xs j),j<x:=λx hx=>by
  have hm:=List.mem_of_mem_drop hx;obtain⟨k,hk,rfl⟩:=List.mem_iff_getElem.mp hx;rw[List.length_drop] at hk;have:=b (SetTable.below xs j+k) (by lia) (by simp at hk;lia)
  rw[i8] at this;rw[List.getElem_drop] at hm ⊢;have e:xs.toList.getD (SetTable.below xs j+k) 0=xs.toList[SetTable.below xs j+k]:=by
   rw[List.getD_eq_getElem?_getD,List.getElem?_eq_getElem (by simp at hk ⊢;lia)];rfl
  rw[e] at this;rcases Nat.lt_or_ge j xs.toList[SetTable.below xs j+k] with h | h
  ·exact h
  ·exact absurd (by rw[show j=xs.toList[SetTable.below xs j+k] by lia];exact hm) hj
 refine⟨hl.sublist (List.take_sublist _ _),List.pairwise_cons.mpr ⟨y_,hl.sublist (List.drop_sublist _ _)⟩,λx hx y hy=>?_⟩;have:=rW x hx;rcases List.mem_cons.mp hy with rfl | hy
 ·exact this
 ·have:=y_ y hy;lia
theorem za{t:SetTable}(hd:t.dummies = #[]){j:Nat}(hj:j∉t.place.toList):t.slot j = .empty:=by
 have e:t.slot j=if (t.place[SetTable.below t.place j]? == some j)=true then .live (SetTable.below t.place j) else if SetTable.has t.dummies j=true then .dummy else .empty:=rfl
 rw[e,if_neg,if_neg]
 ·rw[hd];simp[SetTable.has,SetTable.below,SetTable.below.go]
 ·intro h;have h:=eq_of_beq h;exact hj (List.mem_of_getElem? (by rw[Array.getElem?_toList];exact h))
theorem Gu{t:SetTable}(hR:cZ t.place){j:Nat}(hj:j∈t.place.toList):∃i,t.slot j = .live i:=by
 have e:t.slot j=if (t.place[SetTable.below t.place j]? == some j)=true then .live (SetTable.below t.place j) else if SetTable.has t.dummies j=true then .dummy else .empty:=rfl
 obtain⟨k,hk,rfl⟩:=List.mem_iff_getElem.mp hj;have iy:k<t.place.size:=by simpa using hk
 have e2:t.place.getD k 0=t.place.toList[k]:=by simp[Array.getD,iy]
 have:=below_at hR iy;rw[e2] at this;exact⟨_,by rw[e,if_pos (by rw[this];simp)]⟩
noncomputable def rX(t:SetTable)(q:Option SetTable.Met):Prop:=∃j,q=some (.empty j none)/\j∉t.place.toList/\j<=t.mask
noncomputable def gg(mask:Nat)(x:Nat×Nat):SetTable.Probe:={ j:=x.1,more:=SetTable.runEnd mask x.1 - x.1,i:=x.1,perturb:=x.2,dummy:=none }
theorem zb{t:SetTable}(hd:t.dummies = #[])(hR:cZ t.place){h:Int}(fuel:Nat)(p:SetTable.Probe)(hp:p.dummy=none)(hj:p.j<=t.mask) :
  rX t (SetTable.probe.go t (λ_=>h+1) h (fuel+1) p)\/SetTable.probe.go t (λ_=>h+1) h (fuel+1) p=SetTable.probe.go t (λ_=>h+1) h fuel (t.advance p):=by
 have e:SetTable.probe.go t (λ_=>h+1) h (fuel+1) p=match t.slot p.j with
  | .empty=>some (.empty p.j p.dummy)
  | .dummy=>SetTable.probe.go t (λ_=>h+1) h fuel (t.advance { p with dummy:=some p.j })
  | .live i=>if (h+1 == h)=true then some (.candidate p.j i (t.advance p)) else SetTable.probe.go t (λ_=>h+1) h fuel (t.advance p):=rfl
 by_cases hm:p.j∈t.place.toList
 ·obtain⟨i,hi⟩:=Gu hR hm;right;rw[e,hi];dsimp only;rw[if_neg];intro z;have:=eq_of_beq z;lia
 ·left;rw[e,za hd hm,hp];exact⟨p.j,rfl,hm,hj⟩
theorem zc{t:SetTable}(hd:t.dummies = #[])(hR:cZ t.place){h:Int}:∀(r fuel:Nat) (p:SetTable.Probe),p.dummy=none->p.more=r->p.j+r<=t.mask->r+1<=fuel->
  rX t (SetTable.probe.go t (λ_=>h+1) h fuel p)\/SetTable.probe.go t (λ_=>h+1) h fuel p=SetTable.probe.go t (λ_=>h+1) h (fuel - (r+1)) (gg t.mask (SetTable.leap t.mask p.i p.perturb))
 | 0,fuel,p,hp,hm,hj,hf=>by
  obtain⟨f,rfl⟩:∃f,fuel=f+1:=⟨fuel - 1,by lia⟩
  rcases zb hd hR f p hp (by lia) with z | z
  ·exact .inl z
  ·right;rw[z];have e:t.advance p=gg t.mask (SetTable.leap t.mask p.i p.perturb):=by
    unfold SetTable.advance;rw[hm,if_neg (by decide)]
    unfold gg;rw[← hp]
   rw[e];rfl
 | r+1,fuel,p,hp,hm,hj,hf=>by
  obtain⟨f,rfl⟩:∃f,fuel=f+1:=⟨fuel - 1,by lia⟩
  rcases zb hd hR f p hp (by lia) with z | z
  ·exact .inl z
  ·rw[z];have e:t.advance p = { j:=p.j+1,more:=p.more - 1,i:=p.i,perturb:=p.perturb,dummy:=p.dummy }:=by
    unfold SetTable.advance;rw[if_pos (by lia)]
   rw[e];rcases zc hd hR (h:=h) r f { j:=p.j+1,more:=p.more - 1,i:=p.i,perturb:=p.perturb,dummy:=p.dummy } hp (by dsimp only;lia) (by dsimp only;lia) (by lia) with y | y
   ·exact .inl y
   ·right;rw[y];congr 1;lia
noncomputable def chain(mask:Nat):Nat->Nat×Nat->Nat×Nat
 | 0,x=>x
 | m+1,x=>chain mask m (SetTable.leap mask x.1 x.2)
theorem zd(mask i:Nat)(h:i<=mask):SetTable.runEnd mask i - i<=9/\i+(SetTable.runEnd mask i - i)<=mask:=by
 unfold SetTable.runEnd;split <;> lia
theorem rY(mask i p:Nat):(SetTable.leap mask i p).1<=mask:=by
 have:(SetTable.leap mask i p).1<mask+1:=Nat.mod_lt _ (by lia)
 lia
theorem ze{t:SetTable}(hd:t.dummies = #[])(hR:cZ t.place){h:Int}:∀(m fuel:Nat) (x:Nat×Nat),x.1<=t.mask->(chain t.mask m x).1∉t.place.toList->10*m<fuel->rX t (SetTable.probe.go t (λ_=>h+1) h fuel (gg t.mask x))
 | 0,fuel,x,hx,hm,hf=>by
  obtain⟨f,rfl⟩:∃f,fuel=f+1:=⟨fuel - 1,by lia⟩
  have e:SetTable.probe.go t (λ_=>h+1) h (f+1) (gg t.mask x)=match t.slot x.1 with
   | .empty=>some (.empty x.1 none)
   | .dummy=>SetTable.probe.go t (λ_=>h+1) h f (t.advance { gg t.mask x with dummy:=some x.1 })
   | .live i=>if (h+1 == h)=true then some (.candidate x.1 i (t.advance (gg t.mask x))) else SetTable.probe.go t (λ_=>h+1) h f (t.advance (gg t.mask x)):=rfl
  have hm:x.1∉t.place.toList:=hm;rw[e,za hd hm];exact⟨x.1,rfl,hm,hx⟩
 | m+1,fuel,x,hx,hm,hf=>by
  obtain⟨r1,r2⟩:=zd t.mask x.1 hx;rcases zc hd hR (h:=h) (SetTable.runEnd t.mask x.1 - x.1) fuel (gg t.mask x) rfl rfl r2 (by lia) with z | z
  ·exact z
  ·rw[z];exact ze hd hR m _ _ (rY _ _ _) hm (by lia)
theorem jZ(mask:Nat):∀(a b:Nat) (x:Nat×Nat),chain mask (a+b) x=chain mask b (chain mask a x)
 | 0,b,x=>by rw[Nat.zero_add];rfl
 | a+1,b,x=>by
  rw[show a+1+b=(a+b)+1 by lia]
  exact jZ mask a b _
theorem rZ(mask:Nat):∀(m:Nat) (x:Nat×Nat),(chain mask m x).2=x.2 / 32 ^ m
 | 0,x=>by simp[chain]
 | m+1,x=>by
  show (chain mask m (SetTable.leap mask x.1 x.2)).2=_;rw[rZ mask m,show (SetTable.leap mask x.1 x.2).2=x.2 / 32 from rfl,Nat.div_div_eq_div_mul,Nat.pow_succ,Nat.mul_comm]
theorem zf(mask:Nat):∀(m:Nat) (x:Nat×Nat),x.1<=mask->(chain mask m x).1<=mask
 | 0,_,h=>h
 | m+1,x,_=>zf mask m _ (rY _ _ _)
noncomputable def i9(mask:Nat):Nat->Nat->List Nat
 | 0,_=>[]
 | n+1,s=>s::i9 mask n ((s*5+1) % (mask+1))
theorem zg(mask:Nat):∀(n s:Nat) (v:Nat),v∈i9 mask n s->∃k,k<n/\(chain mask k (s,0)).1=v
 | 0,_,_,h=>by simp[i9] at h
 | n+1,s,v,h=>by
  rcases List.mem_cons.mp h with rfl | h
  ·exact⟨0,by lia,rfl⟩
  ·obtain⟨k,hk,e⟩:=zg mask n _ v h;refine⟨k+1,by lia,?_⟩
   have e2:SetTable.leap mask s 0=((s*5+1) % (mask+1),0):=by unfold SetTable.leap;simp
   show (chain mask k (SetTable.leap mask s 0)).1=v;rw[e2];exact e
noncomputable def d8(mask:Nat):Bool:=((List.range (mask+1)).all λf=>(i9 mask (mask+1) 0).contains f) && ((chain mask (mask+1) (0,0)).1 == 0)
theorem Gv:d8 7=true:=by decide +kernel
theorem zh:d8 31=true:=by decide +kernel
theorem zj:d8 127=true:=by decide +kernel
theorem zl{mask:Nat}(m s:Nat):chain mask m (s,0)=((chain mask m (s,0)).1,0):=by
 have:=rZ mask m (s,0);rw[Nat.zero_div] at this;exact Prod.ext rfl this
theorem Gw{mask:Nat}(h:d8 mask=true){s f:Nat}(hs:s<=mask)(hf:f<=mask):∃k,k<mask+1/\(chain mask k (s,0)).1=f:=by
 unfold d8 at h;rw[Bool.and_eq_true] at h;have all:∀v,v<=mask->∃k,k<mask+1/\(chain mask k (0,0)).1=v:=λv hv=>by
  have:=List.all_eq_true.mp h.1 v (List.mem_range.mpr (by lia))
  exact zg mask (mask+1) 0 v (by simpa using this)
 have back:=eq_of_beq h.2;obtain⟨a,ha,ea⟩:=all s hs;obtain⟨b,hb,eb⟩:=all f hf;have pa:=zl (mask:=mask) a 0;rw[ea] at pa;by_cases fP:a<=b
 ·refine⟨b - a,by lia,?_⟩
  rw[← pa,← jZ,show a+(b - a)=b by lia];exact eb
 ·refine⟨mask+1 - a+b,by lia,?_⟩
  rw[← pa,← jZ,show a+(mask+1 - a+b)=(mask+1)+b by lia,jZ,zl (mask+1) 0,back];exact eb
theorem reach{mask:Nat}(h:d8 mask=true){x:Nat×Nat}(hx:x.1<=mask)(hp:x.2<2 ^ 64){f:Nat}(hf:f<=mask):∃m,m<mask+15/\(chain mask m x).1=f:=by
 have z:(chain mask 13 x).2=0:=by
  rw[rZ];exact Nat.div_eq_of_lt (Nat.lt_trans hp (by decide))
 obtain⟨k,hk,e⟩:=Gw h (zf mask 13 x hx) hf;refine⟨13+k,by lia,?_⟩
 rw[jZ,show chain mask 13 x=((chain mask 13 x).1,0) from Prod.ext rfl z];exact e
theorem zm(h:Int):SetTable.bits h<2 ^ 64:=by
 unfold SetTable.bits;have:=Int.emod_lt_of_pos h (show (0:Int)<2 ^ 64 by decide)
 have:=Int.emod_nonneg h (show (2 ^ 64:Int)≠0 by decide)
 lia
theorem Gx{ps:List Nat}{mask:Nat}(hn:ps.length<=mask):∃f,f<=mask/\f∉ps:=by
 apply Classical.byContradiction;intro h;have sub:List.range (mask+1) ⊆ ps:=λv hv=>by
  apply Classical.byContradiction;intro z;exact h ⟨v,by have:=List.mem_range.mp hv;lia,z⟩
 have:=(List.nodup_range (n:=mask+1)).length_le_of_subset sub;rw[List.length_range] at this;lia
theorem Gy{t:SetTable}(hd:t.dummies = #[])(hR:cZ t.place)(ho:d8 t.mask=true)(hn:t.place.size<=t.mask)(h:Int):∃j,t.freeSlot h=some (j,false)/\j∉t.place.toList/\j<=t.mask:=by
 obtain⟨f,hf,hm⟩:=Gx (ps:=t.place.toList) (mask:=t.mask) (by simpa using hn)
 have hx:SetTable.bits h % (t.mask+1)<=t.mask:=by have:=Nat.mod_lt (SetTable.bits h) (show 0<t.mask+1 by lia);lia
 obtain⟨m,dw,e⟩:=reach ho (x:=(SetTable.bits h % (t.mask+1),SetTable.bits h)) hx (zm h) hf;obtain⟨j,e1,e2,e3⟩:=ze hd hR (h:=h) m (10*SetTable.turns t.mask) (SetTable.bits h % (t.mask+1),SetTable.bits h) hx (by rw[e];exact hm) (by unfold SetTable.turns;lia)
 refine⟨j,?_,e2,e3⟩;have e4:t.probe (λ_=>h+1) h (t.probeStart h)=some (.empty j none):=e1;unfold SetTable.freeSlot;rw[e4]
 rfl
noncomputable def j0(owner:Array (Option Nat))(j:Nat):Bool:=(owner.getD j (some 0)).isNone
theorem zo{mask:Nat}{owner:Array (Option Nat)}:∀(m fuel:Nat) (x:Nat×Nat),m<fuel->x.1<=mask->j0 owner (chain mask m x).1=true->∃j,SetTable.layClean.free mask owner fuel x.1 x.2=some j/\j0 owner j=true
 | m,0,_,h,_,_=>by lia
 | m,fuel+1,x,h,hx,hf=>by
  have e:SetTable.layClean.free mask owner (fuel+1) x.1 x.2=match List.find? (λk=>(owner.getD (x.1+k) (some 0)).isNone) (List.range (SetTable.runEnd mask x.1+1 - x.1)) with
   | some k=>some (x.1+k)
   | none=>SetTable.layClean.free mask owner fuel (SetTable.leap mask x.1 x.2).1 (SetTable.leap mask x.1 x.2).2:=rfl
  rw[e];cases hk:List.find? (λk=>(owner.getD (x.1+k) (some 0)).isNone) (List.range (SetTable.runEnd mask x.1+1 - x.1)) with
  | some k =>
   have:=List.find?_some hk;exact⟨x.1+k,rfl,this⟩
  | none =>
   cases m with
   | zero =>
    have:=List.find?_eq_none.mp hk 0 (List.mem_range.mpr (by have:=zd mask x.1 hx;unfold SetTable.runEnd;split <;> lia))
    exact absurd hf this
   | succ m=>exact zo m fuel _ (by lia) (rY _ _ _) hf
theorem Gz{l:List (Option Nat)}:(l.filterMap id).length=l.length\/none∈l:=by
 induction l with
 | nil=>left;rfl
 | cons a l ih =>
  cases a with
  | none=>right;simp
  | some a =>
   rcases ih with h | h
   ·left;simp[h]
   ·right;simp[h]
theorem zp{k:Nat}:∀ {l:List (Option Nat)} {j:Nat},l[j]? = some none->((l.set j (some k)).filterMap id).Perm (k::l.filterMap id)
 | [],_,h=>by simp at h
 | a::l,0,h=>by
  simp at h;subst h;simp
 | a::l,j+1,h=>by
  have ih:=zp (k:=k) (l:=l) (j:=j) (by simpa using h)
  cases a with
  | none=>simpa using ih
  | some a =>
   show ((some a::l.set j (some k)).filterMap id).Perm (k::(some a::l).filterMap id);simp only[List.filterMap_cons,id];exact(ih.cons a).trans (List.Perm.swap k a _)
structure i_(mask:Nat)(owner:Array (Option Nat))(k:Nat):Prop where
 sz:owner.size=mask+1
 pm:(owner.toList.filterMap id).Perm (List.range k)
theorem GA{mask:Nat}{owner:Array (Option Nat)}{k:Nat}(h:i_ mask owner k)(ho:d8 mask=true)(hk:k<=mask)(hs:Int) :
  ∃j,SetTable.layClean.free mask owner (SetTable.turns mask) (SetTable.bits hs % (mask+1)) (SetTable.bits hs)=some j/\i_ mask (owner.setIfInBounds j (some k)) (k+1):=by
 have hl:=h.pm.length_eq;rw[List.length_range] at hl;have hn:none∈owner.toList:=by
  rcases Gz (l:=owner.toList) with z | z
  ·rw[hl,Array.length_toList,h.sz] at z;lia
  ·exact z
 obtain⟨f,hf,ef⟩:=List.mem_iff_getElem.mp hn;rw[Array.length_toList,h.sz] at hf;have ff:j0 owner f=true:=by
  unfold j0;rw[Array.getD_eq_getD_getElem?,← Array.getElem?_toList,List.getElem?_eq_getElem (by simpa[h.sz] using hf),ef];rfl
 have hx:SetTable.bits hs % (mask+1)<=mask:=by have:=Nat.mod_lt (SetTable.bits hs) (show 0<mask+1 by lia);lia
 obtain⟨m,dw,e⟩:=reach ho (x:=(SetTable.bits hs % (mask+1),SetTable.bits hs)) hx (zm hs) (f:=f) (by lia)
 obtain⟨j,e1,e2⟩:=zo m (SetTable.turns mask) (SetTable.bits hs % (mask+1),SetTable.bits hs) dw hx (by rw[e];exact ff)
 refine⟨j,e1,by rw[Array.size_setIfInBounds];exact h.sz,?_⟩
 have e3:owner.toList[j]? = some none:=by
  unfold j0 at e2;rw[Array.getD_eq_getD_getElem?,← Array.getElem?_toList] at e2;cases q:owner.toList[j]? with
  | none=>rw[q] at e2;simp at e2
  | some v =>
   rw[q] at e2;cases v with
   | none=>rfl
   | some v=>simp at e2
 rw[Array.toList_setIfInBounds,List.range_succ];exact(zp e3).trans ((h.pm.cons k).trans (List.perm_append_comm (l₁:=[k])))
theorem zq{mask:Nat}(ho:d8 mask=true):∀(hs:List Int) (owner:Array (Option Nat)) (k:Nat),i_ mask owner k->k+hs.length<=mask->
  ∃ow,hs.foldl (λ(acc:Option (Array (Option Nat)×Nat)) h=>do
    let __x ← acc
    match __x with
     | (owner,k)=>do
      let j ← SetTable.layClean.free mask owner (SetTable.turns mask) (SetTable.bits h % (mask+1)) (SetTable.bits h)
      pure (owner.setIfInBounds j (some k),k+1)) (some (owner,k))=some (ow,k+hs.length)/\i_ mask ow (k+hs.length)
 | [],owner,k,h,hk=>⟨owner,rfl,h⟩
 | x::hs,owner,k,h,hk=>by
  rw[List.length_cons] at hk;obtain⟨j,e,h2⟩:=GA h ho (by lia) x
  obtain⟨ow,e2,h3⟩:=zq ho hs _ (k+1) h2 (by lia)
  refine⟨ow,?_,by rw[List.length_cons,show k+(hs.length+1)=k+1+hs.length by lia];exact h3⟩
  rw[List.foldl_cons,List.length_cons,show k+(hs.length+1)=k+1+hs.length by lia,← e2]
  show List.foldl _ ((SetTable.layClean.free mask owner (SetTable.turns mask) (SetTable.bits x % (mask+1)) (SetTable.bits x)) >>= λj=>pure (owner.setIfInBounds j (some k),k+1)) hs=_;rw[e]
  rfl
theorem GB{mask:Nat}(ho:d8 mask=true)(hs:Array Int)(hn:hs.size<=mask):∃ow,SetTable.layClean mask hs=some ow/\i_ mask ow hs.size:=by
 have h0:i_ mask (Array.replicate (mask+1) none) 0:=⟨by simp,by simp⟩
 obtain⟨ow,e,h⟩:=zq ho hs.toList _ 0 h0 (by simpa using hn)
 refine⟨ow,?_,by simpa using h⟩
 unfold SetTable.layClean;rw[← Array.foldl_toList];rw[show (hs.toList.foldl _ (some (Array.replicate (mask+1) none,0)))=some (ow,0+hs.toList.length) from e]
 rfl
theorem mF(g:Nat->Option Nat):∀l:List Nat,((l.filterMap λj=>(g j).map λx=>(j,x)).map (·.1)).Sublist l
 | []=>.slnil
 | j::l=>by
  rw[List.filterMap_cons];cases g j with
  | none=>exact(mF g l).cons j
  | some v=>exact(mF g l).cons₂ j
theorem mG(g:Nat->Option Nat):∀l:List Nat,(l.filterMap λj=>(g j).map λx=>(j,x)).map (·.2)=l.filterMap g
 | []=>rfl
 | j::l=>by
  rw[List.filterMap_cons,List.filterMap_cons];cases g j with
  | none=>exact mG g l
  | some v=>simp only[Option.map_some,List.map_cons,mG g l]
theorem GC{mask finger moves:Nat}{led plain:Bool}(ho:d8 mask=true)(hs:Array Int)(hn:hs.size<=mask):∃ps order,SetTable.laid mask finger moves led plain hs=some ({ mask:=mask,place:=ps,dummies := #[],finger:=finger,led:=led,moves:=moves,plain:=plain },order)/\
  cZ ps/\ps.size=hs.size/\order.toList.Perm (List.range hs.size)/\∀p∈ps.toList,p<=mask:=by
 obtain⟨ow,e,h⟩:=GB ho hs hn;have eO:(List.range (mask+1)).filterMap (λj=>ow.getD j none)=ow.toList.filterMap id:=by
  have:ow.toList=(List.range (mask+1)).map λj=>ow.getD j none:=by
   apply List.ext_getElem
   ·simp[h.sz]
   ·intro i h1 h2;simp at h1;simp[Array.getD,h1]
  rw[this,List.filterMap_map];rfl
 refine⟨(((List.range (mask+1)).filterMap λj=>(ow.getD j none).map λx=>(j,x)).map (·.1)).toArray,(((List.range (mask+1)).filterMap λj=>(ow.getD j none).map λx=>(j,x)).map (·.2)).toArray,?_,?_,?_,?_,?_⟩
 ·unfold SetTable.laid;rw[e];rfl
 ·rw[rT];exact(List.pairwise_lt_range (n:=mask+1)).sublist (mF _ _)
 ·have:=h.pm.length_eq;rw[← eO,← mG,List.length_map,List.length_range] at this;simpa using this
 ·rw[List.toList_toArray,mG,eO];exact h.pm
 ·intro p hp;rw[List.toList_toArray] at hp;have:=List.mem_range.mp ((mF _ _).subset hp);lia
structure gO(led:Bool)(t:SetTable)(n:Nat):Prop where
 j3:t.dummies = #[]
 rise:cZ t.place
 sz:t.place.size=n
 j4:t.mask=7\/t.mask=31\/t.mask=127
 pl:t.plain=true
 ld:t.led=led
 pre:n<=60/\(n=0\/(n - 1)*5<t.mask*3)
structure jc(led:Bool)(t:SetTable)(n:Nat):Prop extends gO led t n where
 room:n*5<t.mask*3
theorem gO.i9{led:Bool}{t:SetTable}{n:Nat}(h:gO led t n):d8 t.mask=true:=by
 rcases h.j4 with e | e | e <;> rw[e]
 ·exact Gv
 ·exact zh
 ·exact zj
theorem gO.fits{led:Bool}{t:SetTable}{n:Nat}(h:gO led t n):t.fits n=true:=by
 unfold SetTable.fits SetTable.fill;rw[h.sz,h.j3];have:=h.pre;rcases h.j4 with e | e | e <;> rw[e] at this ⊢ <;> simp <;> lia
theorem GD(led:Bool):jc led (.fresh 0 0 led) 0:=⟨⟨rfl,λi k _ h=>absurd h (by simp[SetTable.fresh]),rfl,.inl rfl,rfl,rfl,⟨by lia,.inl rfl⟩⟩,by show 0*5<7*3;decide⟩
theorem GF{led:Bool}{t:SetTable}{n:Nat}(h:jc led t n){es:Array (Int×Value)}(he:es.size=n)(hn:n<60)(hs:Int)(x:Value) :
  ∃bH t1,layNew t es hs x=(bH,t1,false,false)/\bH.toList.Perm (es.toList++[(hs,x)])/\gO led t1 (n+1):=by
 have zu:t.mask<7\/7<=t.mask:=by lia
 have m7:7<=t.mask:=by rcases h.j4 with e | e | e <;> lia
 have hr:=h.room;obtain⟨j,e1,e2,e3⟩:=Gy h.j3 h.rise h.i9 (by rw[h.sz];lia) hs
 have pe:t.put j=({ t with place:=SetTable.insertAt t.place (SetTable.below t.place j) j,dummies := #[] },SetTable.below t.place j):=by
  have e0:SetTable.has #[] j=false:=by simp[SetTable.has,SetTable.below,SetTable.below.go]
  unfold SetTable.put;simp only[h.j3,e0];simp
 have bl:=(jY h.rise j).2.2;have U:gO led { t with place:=SetTable.insertAt t.place (SetTable.below t.place j) j,dummies := #[] } (n+1):=by
  refine⟨rfl,Gs h.rise e2,?_,h.j4,h.pl,h.ld,⟨by lia,.inr hr⟩⟩
  have:=(SetTable.insertAt_perm t.place (SetTable.below t.place j) j).length_eq;rw[Array.length_toList] at this;rw[this];simp[h.sz]
 have pm:(SetTable.insertAt es (SetTable.below t.place j) (hs,x)).toList.Perm (es.toList++[(hs,x)]):=by
  refine(SetTable.insertAt_perm es _ _).trans ?_;rw[Array.toList_push]
 have r9:(SetTable.insertAt es (SetTable.below t.place j) (hs,x)).size=n+1:=by
  have:=pm.length_eq;rw[Array.length_toList] at this;rw[this];simp[he]
 refine⟨_,_,?_,pm,U⟩;unfold layNew;rw[e1];dsimp only;rw[pe];dsimp only;unfold SetTable.orStandIn;rw[r9,U.fits]
 rfl
theorem GG{α:Type}(es:Array α):(List.range es.size).filterMap (λi=>es[i]?)=es.toList:=by
 have e:=yZ es.toList;simpa using e
theorem GH{led:Bool}{t:SetTable}{n:Nat}(h:gO led t n){es:Array (Int×Value)}(he:es.size=n)(hf:t.tooFull=true) :
  ∃cH t2,relayAll t es (SetTable.grown es.size)=(cH,t2,false)/\cH.toList.Perm es.toList/\jc led t2 n:=by
 have hp:=h.pre;have N1:t.mask*3<=n*5:=by
  unfold SetTable.tooFull SetTable.fill at hf;rw[h.sz,h.j3] at hf;simpa using hf
 obtain⟨mk,zu,r_⟩:∃mk,SetTable.sizeAbove (SetTable.grown n) - 1=mk/\(mk=31\/mk=127)/\n*5<mk*3:=by
  rcases h.j4 with e | e | e
  ·have:n=5:=by lia
   subst this;exact⟨31,by decide,.inl rfl,by decide⟩
  ·have:n=19:=by lia
   subst this;exact⟨127,by decide,.inr rfl,by decide⟩
  ·lia
 have ho:d8 mk=true:=by
  rcases r_.1 with e | e <;> rw[e]
  ·exact zh
  ·exact zj
 obtain⟨ps,order,e1,r1,r2,r3,r4⟩:=GC (mask:=mk) (finger:=t.finger) (moves:=t.movedTo mk) (led:=t.led) (plain:=t.plain) ho (es.map λx=>x.1) (by rw[Array.size_map,he];lia)
 rw[Array.size_map,he] at r2 r3;have U:jc led { mask:=mk,place:=ps,dummies := #[],finger:=t.finger,led:=t.led,moves:=t.movedTo mk,plain:=t.plain } n:=⟨⟨rfl,r1,r2,.inr r_.1,h.pl,h.ld,⟨hp.1,.inr (by show (n - 1)*5<mk*3;lia)⟩⟩,r_.2⟩
 have pm:(order.filterMap λx=>es[x]?).toList.Perm es.toList:=by
  rw[Array.toList_filterMap];have:=r3.filterMap λx=>es[x]?
  rw[← he,GG] at this;exact this
 have sz:(order.filterMap λx=>es[x]?).size=n:=by
  have:=pm.length_eq;rw[Array.length_toList,Array.length_toList,he] at this;exact this
 refine⟨_,_,?_,pm,U⟩;unfold relayAll SetTable.relaid;rw[he,zu,e1];dsimp only;rw[sz,U.fits,if_pos];unfold coversAll;rw[Bool.and_true];exact List.isPerm_iff.mpr r3
noncomputable def bz(w:World):Bool:=w.params.followText "set-order"
section
variable{prog:Program}{w:World}{A:Around}{E:Value->Shared->Prop}{s:Shared}
theorem GI(a:Value){Q₁:Value->Shared->Prop}
  (h:Q₁ (.ref s.heap.objs.size) { s with heap:=s.heap.push (bE #[] 0 (.fresh 0 0 (!bz w)))}) :
  codeAny (model prog w) A (.call (.builtin "set.__new__") ⟨[.type "set",a],[]⟩) (wants Q₁ E) s:=by
 refine codeAny_of_tree ?_
 show wpAny _ A.in1 (do checkBuiltinCall "set.__new__" ⟨[.type "set",a],[]⟩;again (.builtin "set.__new__" ⟨[.type "set",a],[]⟩)) _ _ s
 refine wpAny_bind (wpAny_of_eq (F.newCall_set_1 a) (wpAny_pure ⟨plainId_quiet F.plain_set_new _,codeAny_builtin F.entry_set_new ?_⟩));rw[Around.under_plainId F.plain_set_new _];unfold Builtin.«set.__new__» Builtin.Frozenset.newClass;have GJ:=sub_set_self;obtain⟨hp,g,d,tk,os⟩:=s;dsimp only;wp_walk;refine wpAny_askSetting (wpAny_pure ?_);dsimp only;simp only[newObj];refine wpAny_bind (wpAny_alloc (wpAny_pure ?_));exact wpAny_pure h
end
theorem jd:Slot "set_iterator" "__next__" "set_iterator.__next__" :=
 .of (owner := "set_iterator") (n := "__next__") (by rw[typeLookup_type,builtinLookup_eq_fast];kernel_rfl) (by decide +kernel) (by decide +kernel) (by decide +kernel)
  (by first | exact .inl (by decide +kernel) | exact .inr (by decide +kernel)) (by rw[isSubtype_type];kernel_rfl)
theorem zw:entryFor table "set_iterator.__next__" = some Builtin.«set_iterator.__next__» := entryFor_of_tree (by kernel_rfl)
theorem zx:Manifest.owners.lookup (String.ofList ['r','o','t','a','r','e','t','i','_','t','e','s'].reverse)=some Manifest.sig_set_iterator:=by kernel_rfl
theorem zy(a:Value):argsOk "set_iterator.__next__" ⟨[a],[]⟩:=by
 unfold argsOk;rw[signature?_of (id := "set_iterator.__next__") (n:=['_','_','t','x','e','n','_','_']) (o:=['r','o','t','a','r','e','t','i','_','t','e','s']) (by kernel_rfl) zx];kernel_rfl
theorem zz:Slot "set_iterator" "__iter__" "set_iterator.__iter__" :=
 .of (owner := "set_iterator") (n := "__iter__") (by rw[typeLookup_type,builtinLookup_eq_fast];kernel_rfl) (by decide +kernel) (by decide +kernel) (by decide +kernel)
  (by first | exact .inl (by decide +kernel) | exact .inr (by decide +kernel)) (by rw[isSubtype_type];kernel_rfl)
theorem GK:entryFor table "set_iterator.__iter__" = some Builtin.«dict_keyiterator.__iter__» :=
 entryFor_alias (id' := "dict_keyiterator.__iter__") (by kernel_rfl) rfl (by decide +kernel) (by kernel_rfl)
theorem GL(a:Value):argsOk "set_iterator.__iter__" ⟨[a],[]⟩:=by
 unfold argsOk;rw[signature?_of (id := "set_iterator.__iter__") (n:=['_','_','r','e','t','i','_','_']) (o:=['r','o','t','a','r','e','t','i','_','t','e','s']) (by kernel_rfl) zx];kernel_rfl
theorem GN:entryFor table "set.__iter__" = some Builtin.«frozenset.__iter__» :=
 entryFor_alias (id' := "frozenset.__iter__") (by kernel_rfl) rfl (by decide +kernel) (by kernel_rfl)
theorem GO:typeLookup (.type "set") "__len__" = pure (some (.builtin "set.__len__")):=by rw[typeLookup_type,builtinLookup_eq_fast];kernel_rfl
noncomputable def fQ(h:Heap)(it d:Addr)(slot i n ep:Nat):Prop:=∃o,h.get? it=some o/\o.cls = .type "set_iterator"/\o.data = .fields #[rawInt slot,rawInt i,.ref d,rawInt n,rawInt ep]
section
variable{prog:Program}{w:World}{A:Around}{E:Value->Shared->Prop}{s:Shared}{it d:Addr}{slot i n ep:Nat}{es:Array (Int×Value)}{t:SetTable}
theorem fQ.typeIs(h:fQ s.heap it d slot i n ep):s.TypeIs (.ref it) "set_iterator" := let ⟨o,h1,h2,_⟩:=h;⟨o,h1,h2⟩
theorem fQ.at{h h':Heap}(x:fQ h it d slot i n ep)(e:∀o,h.get? it=some o->h'.get? it=some o):fQ h' it d slot i n ep:=let ⟨o,ho,r⟩:=x;⟨o,e _ ho,r⟩
theorem GP{Q:Value->Shared->Prop}(hit:fQ s.heap it d slot i n ep)(h:Q (.ref it) s):wpAny (model prog w) A (pyIter (.ref it)) Q E s:=by
 refine wpAny_pyIter_slot hit.typeIs zz (wpAny_call_entry zz hit.typeIs GK ?_ (GL _))
 show wpAny _ _ (ret (.ref it)) _ _ s;exact wpAny_pure ⟨_,rfl, "set_iterator",_,hit.typeIs,jd.lookup,h⟩
theorem GQ{Q:Value->Shared->Prop}(ho:s.heap.get? d=some (bE es ep t))(hf:t.fits es.size=true)(hp:t.plain=true)
  (q:Q (.ref s.heap.objs.size) { s with heap:=s.heap.push { cls:=.type "set_iterator",data:=.fields #[rawInt 0,rawInt 0,.ref d,rawInt es.size,rawInt ep] }}):wpAny (model prog w) A (pyIter (.ref d)) Q E s:=by
 have hT:s.TypeIs (.ref d) "set" := ⟨_,ho,rfl⟩;refine wpAny_pyIter_slot hT PySem.F.slot_set_iter (wpAny_call_entry PySem.F.slot_set_iter hT GN ?_ (PySem.F.args_set_iter_1 _));unfold Builtin.«frozenset.__iter__» Builtin.Frozenset.slot0 slotArgs;simp only[List.isEmpty_nil,Bool.not_true,Bool.false_eq_true,↓reduceIte,bind_assoc,List.length_nil,bne_self_eq_false];unfold Builtin.Frozenset.addrOf Builtin.Frozenset.sizeOf;refine wpAny_bind (wpAny_pure ?_)
 try dsimp only
 refine wpAny_bind (wpAny_pure ?_);refine wpAny_bind (wpAny_bind (wpAny_setEntries_of ho rfl hf (wpAny_pure ?_)));refine wpAny_bind ?_;unfold setDrawn;refine wpAny_bind (wpAny_setState_of ho rfl hf ?_);dsimp only;unfold setsByText;refine wpAny_bind (wpAny_bind (wpAny_askSetting (wpAny_pure (wpAny_pure ?_))));refine wpAny_ite_split (λfP=>absurd fP ?_) (λ_=>?_)
 ·show ¬ ((!bz w && (!t.plain && decide (es.size > 1)))=true);rw[hp];simp
 refine wpAny_bind (wpAny_pure (wpAny_bind (wpAny_setEpoch_of ho rfl hf ?_)));unfold newFields;refine wpAny_bind (wpAny_newObj_type (wpAny_pure ⟨_,rfl, "set_iterator",_,⟨_,Heap.get?_push_size _ rfl,rfl⟩,jd.lookup,?_⟩));exact q
noncomputable def c7(w:World)(d:Addr)(ep:Nat)(es:Array (Int×Value)):Array (Int×Value):=if bz w then pickOrder (w.params.setOrder d ep) es else es
noncomputable def slotAt(w:World)(t:SetTable)(i:Nat):Nat:=if bz w then 0 else if i=0 then 0 else t.place.getD (i - 1) 0+1
theorem GR(hf:t.fits es.size=true):t.place.size=es.size:=by
 simp only[SetTable.fits,Bool.and_eq_true,beq_iff_eq] at hf;exact hf.1
theorem GS{Q:Option (Value×Nat)->Shared->Prop}(ho:s.heap.get? d=some (bE es ep t))(hf:t.fits es.size=true)(hp:t.plain=true)(fR:t.led = !bz w)(fS:bz w=false->SetTable.below t.place (slotAt w t i)=i)
  (hi:i<es.size) {x:Int×Value} (hx:(c7 w d ep es)[i]? = some x) (q:Q (some (x.2,slotAt w t (i+1))) s):wpAny (model prog w) A (setNext d (slotAt w t i) i ep) Q E s:=by
 unfold setNext;refine wpAny_bind (wpAny_setState_of ho rfl hf ?_);dsimp only;unfold setsByText;refine wpAny_bind (wpAny_bind (wpAny_askSetting (wpAny_pure ?_)))
 show wpAny _ _ (if bz w=true then _ else _) _ _ _
 cases hb:bz w with
 | true =>
  rw[if_pos rfl,if_neg (by simp)]
  refine wpAny_bind ?_;unfold setWalk;refine wpAny_bind (wpAny_setState_of ho rfl hf ?_);dsimp only;unfold setsByText;refine wpAny_bind (wpAny_bind (wpAny_askSetting (wpAny_pure ?_)))
  show wpAny _ _ (if bz w=true then _ else _) _ _ _
  rw[hb,if_pos rfl];refine wpAny_bind (wpAny_askSetting (wpAny_pure (wpAny_pure ?_)));have j5:(pickOrder (w.params.setOrder d ep) es)[i]? = some x:=by unfold c7 at hx;rw[hb,if_pos rfl] at hx;exact hx
  have e1:slotAt w t (i+1)=slotAt w t i:=by unfold slotAt;rw[hb];rfl
  show Q (((pickOrder (w.params.setOrder d ep) es)[i]?).map λe=>(e.2,slotAt w t i)) s;rw[j5,← e1];exact q
 | false =>
  rw[if_neg (by simp)]
  refine wpAny_ite_split (λfP=>absurd fP ?_) (λ_=>?_)
  ·show ¬ ((!t.plain && decide (es.size > 1))=true);rw[hp];simp
  refine wpAny_bind ?_
  show wpAny _ _ (if (!t.led && !es.isEmpty)=true then unsupported _ else pure ()) _ _ _
  rw[if_neg (by rw[fR,hb];simp)]
  refine wpAny_pure (wpAny_pure ?_);have j5:es[i]? = some x:=by unfold c7 at hx;rw[hb,if_neg (by simp)] at hx;exact hx
  have dU:i<t.place.size:=by rw[GR hf];exact hi
  have e1:slotAt w t (i+1)=t.place[i] + 1:=by
   unfold slotAt;rw[hb,if_neg (by simp),if_neg (by lia),Nat.add_sub_cancel]
   simp[dU]
  rw[fS hb,j5,Array.getElem?_eq_getElem dU];rw[e1] at q;exact q
theorem GU{Q:Option (Value×Nat)->Shared->Prop}(ho:s.heap.get? d=some (bE es ep t))(hf:t.fits es.size=true)(hp:t.plain=true)(fR:t.led = !bz w)(fS:bz w=false->SetTable.below t.place (slotAt w t es.size)=es.size)
  (hn:(c7 w d ep es).size=es.size) (q:Q none s):wpAny (model prog w) A (setNext d (slotAt w t es.size) es.size ep) Q E s:=by
 unfold setNext;refine wpAny_bind (wpAny_setState_of ho rfl hf ?_);dsimp only;unfold setsByText;refine wpAny_bind (wpAny_bind (wpAny_askSetting (wpAny_pure ?_)))
 show wpAny _ _ (if bz w=true then _ else _) _ _ _
 cases hb:bz w with
 | true =>
  rw[if_pos rfl,if_neg (by simp)]
  refine wpAny_bind ?_;unfold setWalk;refine wpAny_bind (wpAny_setState_of ho rfl hf ?_);dsimp only;unfold setsByText;refine wpAny_bind (wpAny_bind (wpAny_askSetting (wpAny_pure ?_)))
  show wpAny _ _ (if bz w=true then _ else _) _ _ _
  rw[hb,if_pos rfl];refine wpAny_bind (wpAny_askSetting (wpAny_pure (wpAny_pure ?_)));have j5:(pickOrder (w.params.setOrder d ep) es)[es.size]? = none:=by
   unfold c7 at hn;rw[hb,if_pos rfl] at hn;rw[Array.getElem?_eq_none];lia
  show Q (((pickOrder (w.params.setOrder d ep) es)[es.size]?).map λe=>(e.2,slotAt w t es.size)) s;rw[j5];exact q
 | false =>
  rw[if_neg (by simp)]
  refine wpAny_ite_split (λfP=>absurd fP ?_) (λ_=>?_)
  ·show ¬ ((!t.plain && decide (es.size > 1))=true);rw[hp];simp
  refine wpAny_bind ?_
  show wpAny _ _ (if (!t.led && !es.isEmpty)=true then unsupported _ else pure ()) _ _ _
  rw[if_neg (by rw[fR,hb];simp)]
  refine wpAny_pure (wpAny_pure ?_);rw[fS hb,Array.getElem?_eq_none (Nat.le_refl _)];exact q
theorem GV{Q:Option Value->Shared->Prop}(hit:fQ s.heap it d (slotAt w t i) i es.size ep)(ho:s.heap.get? d=some (bE es ep t))(hf:t.fits es.size=true)(hp:t.plain=true)(fR:t.led = !bz w)(fS:bz w=false->SetTable.below t.place (slotAt w t i)=i)
  (hi:i<es.size) {x:Int×Value} (hx:(c7 w d ep es)[i]? = some x)
  (q:∀h',fQ h' it d (slotAt w t (i+1)) (i+1) es.size ep->Heap.SameBut it s.heap h'->Q (some x.2) { s with heap:=h' }):wpAny (model prog w) A (pyNext (.ref it)) Q E s:=by
 obtain⟨o,je,hc,hd⟩:=id hit;unfold pyNext;refine wpAny_bind (wpAny_attempt (wpAny_callSpecial?_slot (name:=Str.ofString "__next__") hit.typeIs jd
  (wpAny_call_entry jd hit.typeIs zw ?_ (zy _))))
 unfold Builtin.«set_iterator.__next__» slotArgs;simp only[List.isEmpty_nil,Bool.not_true,Bool.false_eq_true,↓reduceIte,bind_assoc,List.length_nil,bne_self_eq_false];refine wpAny_bind (wpAny_pure ?_);refine wpAny_bind (wpAny_fieldsOf je hd ?_);dsimp only[rawInt];refine wpAny_bind (wpAny_setEntries_of ho rfl hf ?_);rw[if_neg (by simp)]
 simp only[Int.toNat_natCast];refine wpAny_bind (GS ho hf hp fR fS hi hx ?_);dsimp only;refine wpAny_bind (wpAny_setField je hd (by simp) ?_)
 have zA:=Heap.get?_update_self (Obj.mapFields (·.setIfInBounds 0 (rawInt (slotAt w t (i+1):Int)))) je (Obj.isFreed_of_fields (Obj.data_mapFields hd _));have iz:=Obj.data_mapFields hd (·.setIfInBounds 0 (rawInt (slotAt w t (i+1):Int)));refine wpAny_bind (wpAny_setField zA iz (by simp) ?_)
 have GW:=Heap.get?_update_self (Obj.mapFields (·.setIfInBounds 1 (rawInt ((i:Int)+1)))) zA (Obj.isFreed_of_fields (Obj.data_mapFields iz _));have hd2:=Obj.data_mapFields iz (·.setIfInBounds 1 (rawInt ((i:Int)+1)));refine wpAny_pure ⟨_,rfl,wpAny_pure (q _ ⟨_,GW,?_,?_⟩ ?_)⟩
 ·exact((Obj.cls_mapFields ..).trans (Obj.cls_mapFields ..)).trans hc
 ·rw[hd2];simp[rawInt]
 ·exact(Heap.SameBut.update ..).trans (Heap.SameBut.update ..)
theorem GX{Q:Option Value->Shared->Prop}(hh:A.handled=none)(hit:fQ s.heap it d (slotAt w t es.size) es.size es.size ep)(ho:s.heap.get? d=some (bE es ep t))(hf:t.fits es.size=true)(hp:t.plain=true)(fR:t.led = !bz w)(fS:bz w=false->SetTable.below t.place (slotAt w t es.size)=es.size)
  (hn:(c7 w d ep es).size=es.size) (q:∀h',Heap.ExtBut it s.heap h'->Q none { s with heap:=h' }):wpAny (model prog w) A (pyNext (.ref it)) Q E s:=by
 obtain⟨o,je,hc,hd⟩:=id hit;unfold pyNext;refine wpAny_bind (wpAny_attempt (wpAny_callSpecial?_slot (name:=Str.ofString "__next__") hit.typeIs jd
  (wpAny_call_entry jd hit.typeIs zw ?_ (zy _))))
 unfold Builtin.«set_iterator.__next__» slotArgs;simp only[List.isEmpty_nil,Bool.not_true,Bool.false_eq_true,↓reduceIte,bind_assoc,List.length_nil,bne_self_eq_false];refine wpAny_bind (wpAny_pure ?_);refine wpAny_bind (wpAny_fieldsOf je hd ?_);dsimp only[rawInt];refine wpAny_bind (wpAny_setEntries_of ho rfl hf ?_);rw[if_neg (by simp)]
 simp only[Int.toNat_natCast];refine wpAny_bind (GU ho hf hp fR fS hn ?_);dsimp only;refine wpAny_bind (wpAny_setField je hd (by simp) ?_)
 refine wpAny_bind ?_;simp only[newExc,newTuple];refine wpAny_bind (wpAny_newObj_type ?_ (by size_fits))
 refine wpAny_bind (m:=firstArgMember _ _) (wpAny_of_eq (a:=Value.none) (by first | rfl | (simp only[firstArgMember];rfl)) ?_)
 refine wpAny_newObj_type ?_ (by size_fits)
 simp only[raiseNew];refine wpAny_bind (wpAny_handled ?_);rw[show A.in1.handled=none from hh];refine wpAny_bind (wpAny_pure (wpAny_throw ?_));refine wpAny_bind (wpAny_isInstance (T := "StopIteration") (b:=true) ⟨_,Heap.get?_push_size _ rfl,rfl⟩ isSubtype_stop ?_);exact wpAny_pure (q _ (((Heap.SameBut.update ..).extBut.push _).push _))
structure j6(w:World)(d:Addr)(es:Array (Int×Value))(ep:Nat)(t:SetTable):Prop where
 hf:t.fits es.size=true
 hp:t.plain=true
 fR:t.led = !bz w
 fS:bz w=false->∀i,i<=es.size->SetTable.below t.place (slotAt w t i)=i
 hn:(c7 w d ep es).size=es.size
theorem GY(hh:A.handled=none)(I:Addr)(cG:d≠I)(ok:j6 w d es ep t):Walks prog w A I [I,d] [I] es.size (λi v=>∃e,(c7 w d ep es)[i]? = some e/\v=e.2) (λi h=>fQ h I d (slotAt w t i) i es.size ep/\h.get? d=some (bE es ep t)) where
 sub:=λb hb=>by simp at hb;simp[hb]
 frame:=λ_ _ _ st hk=>⟨st.1.at λo e=>hk I (by simp) o e,hk d (by simp) _ st.2⟩
 item:=λi s Q E hi st hQ=>by
  have j7:i<(c7 w d ep es).size:=by rw[ok.hn];exact hi
  exact GV st.1 st.2 ok.hf ok.hp ok.fR (λhb=>ok.fS hb i (Nat.le_of_lt hi)) hi (Array.getElem?_eq_getElem j7) λh' GZ iZ=>hQ _ h' s.toks ⟨_,Array.getElem?_eq_getElem j7,rfl⟩ ⟨GZ,iZ.extBut d _ cG st.2⟩ λb o hb e=>iZ.extBut b o (λh=>hb (by simp[h])) e
 done:=λs Q E st hQ=>GX hh st.1 st.2 ok.hf ok.hp ok.fR (λhb=>ok.fS hb _ (Nat.le_refl _)) ok.hn λh' G0=>hQ h' s.toks λb o hb e=>G0 b o (λh=>hb (by simp[h])) e
 self:=λ_ _ _ _ st hQ=>GP st.1 hQ
theorem G1{Q:Bool->Shared->Prop}(hT:s.TypeIs (.ref d) "set")(h:Q false s):wpAny (model prog w) A (Builtin.List.listLengthHint (.ref d)) Q E s:=by
 unfold Builtin.List.listLengthHint;refine wpAny_bind (wpAny_specialOf hT GO ?_);generalize zB:("set.__len__" : String)=G2
 wp_delta
 rw[show splitId G2=some ("set", "__len__") from by subst zB;decide +kernel]
 subst zB;refine wpAny_bind (wpAny_isInstance (T := "set") (b:=true) hT (by rw[isSubtype_type];kernel_rfl) ?_)
 refine wpAny_ite_split (λfP=>absurd fP (by decide)) (λ_=>?_)
 refine wpAny_ite_split (λ_=>?_) (λfP=>absurd (by decide +kernel) fP)
 refine wpAny_bind (wpAny_typeOf hT ?_);exact wpAny_pure h
theorem G3(ok:j6 w d es ep t):PySem.W.KdlSrc prog w "set" d d es.size (λi v=>∃e,(c7 w d ep es)[i]? = some e/\v=e.2) (λh=>h.get? d=some (bE es ep t)) where
 type:=λ_ hm=>⟨_,hm,rfl⟩
 there:=λ_ hm=>⟨Heap.lt_size hm,Heap.lt_size hm⟩
 keep:=λ_ _ hm hk=>hk d (.inl rfl) _ hm
 notList:=by decide
 notTuple:=by decide
 hint:=λ_ _ _ _ hm hq=>G1 ⟨_,hm,rfl⟩ hq
 iter:=λ_ s hh hm=>⟨_,_,(λ_ _ hq=>GQ hm ok.hf ok.hp hq),GY hh _ (Nat.ne_of_lt (Heap.lt_size hm)) ok,⟨⟨_,Heap.get?_push_size _ rfl,rfl,by unfold slotAt;cases bz w <;> rfl⟩,Heap.get?_push_of_some _ hm⟩⟩
end
noncomputable def Tab(ps:List Nat)(led:Bool):SetTable:={ mask:=7,place:=ps.toArray,dummies := #[],finger:=0,led,moves:=0,plain:=true }
noncomputable def G4:List Nat->Bool
 | []=>true
 | [a]=>decide (a<8)
 | [a,b]=>decide (a<b) && decide (b<8)
 | [a,b,c]=>decide (a<b) && decide (b<c) && decide (c<8)
 | _=>false
noncomputable def jf(ps:List Nat)(n:Nat)(led:Bool):Bool:=match (Tab ps led).freeSlot (Int.ofNat n) with
 | some (i,false)=>Nat.blt i 8 && ps.all λa => !(Nat.beq a i)
 | _=>false
noncomputable def se(ps:List Nat)(i:Nat):Bool:=G4 (SetTable.insertAt ps.toArray (SetTable.below ps.toArray i) i).toList && Nat.ble (SetTable.below ps.toArray i) ps.length
theorem c0:((List.range 192).all λn=>jf [] n true && jf [] n false)=true:=by decide +kernel
theorem c1:((List.range 8).all λa=>(List.range 192).all λn=>jf [a] n true && jf [a] n false)=true:=by decide +kernel
theorem c2:((List.range 8).all λa=>(List.range 8).all λb => !(Nat.blt a b) || (List.range 192).all λn=>jf [a,b] n true && jf [a,b] n false)=true:=by decide +kernel
theorem d0:((List.range 8).all λi=>se [] i)=true:=by decide +kernel
theorem d1:((List.range 8).all λa=>(List.range 8).all λi=>Nat.beq a i || se [a] i)=true:=by decide +kernel
theorem d2:((List.range 8).all λa=>(List.range 8).all λb=>(List.range 8).all λi => !(Nat.blt a b) || Nat.beq a i || Nat.beq b i || se [a,b] i)=true:=by decide +kernel
noncomputable def mH(ps:List Nat):Bool:=(List.range (ps.length+1)).all λi=>SetTable.below ps.toArray (if i=0 then 0 else ps.toArray.getD (i - 1) 0+1) == i
theorem e3:((List.range 8).all λa=>(List.range 8).all λb=>(List.range 8).all λc=>mH [] && mH [a] && (!(Nat.blt a b) || mH [a,b]) && (!(Nat.blt a b) || !(Nat.blt b c) || mH [a,b,c]))=true:=by decide +kernel
section
variable{prog:Program}{w:World}{A:Around}{R:Result->Shared->Prop}{l I S:Addr}{led:Bool}{xs:List (Nat×Tok)}
end
theorem zC{α:Type}(next:Nat->Nat):∀(fuel k:Nat) (left:List α) (out:Array α),left.length=fuel->(pickOrder.go next fuel k left out).toList.Perm (out.toList++left)
 | 0,k,left,out,h=>by
  rw[List.length_eq_zero_iff.mp h,List.append_nil];exact .refl _
 | fuel+1,k,left,out,h=>by
  have hj:next k % left.length<left.length:=Nat.mod_lt _ (by lia)
  unfold pickOrder.go;rw[List.getElem?_eq_getElem hj];dsimp only;refine(zC next fuel (k+1) (left.eraseIdx (next k % left.length)) _ (by rw[List.length_eraseIdx,if_pos hj];lia)).trans ?_
  rw[Array.toList_push,List.append_assoc];refine List.Perm.append_left _ ?_;generalize next k % left.length=j at hj;rw[List.singleton_append,List.eraseIdx_eq_take_drop_succ];refine(List.perm_middle (a:=left[j]) (l₁:=left.take j) (l₂:=left.drop (j+1))).symm.trans ?_;rw[← List.drop_eq_getElem_cons hj,List.take_append_drop]
section
variable{prog:Program}{w:World}{A:Around}{E:Value->Shared->Prop}{s:Shared}{d:Addr}{ep m n:Nat}{es:Array (Int×Value)}{tm tn:Tok}
theorem zD:(c7 w d ep es).toList.Perm es.toList:=by
 unfold c7;split
 ·exact zC _ _ _ _ _ (by simp)
 ·exact .refl _
theorem G5:∀ {vs ws:List Value},vs.Perm ws->∀ {ns:List Int},IntsAre ws ns->∃dz,IntsAre vs dz/\dz.Perm ns:=by
 intro vs ws h
 induction h with
 | nil=>intro ns hi;exact⟨ns,hi,.refl _⟩
 | cons x _ ih =>
  intro ns hi;cases hi with
  | cons _ _ hi =>
   obtain⟨dz,a,b⟩:=ih hi;exact⟨_,.cons _ _ a,b.cons _⟩
 | swap x y l =>
  intro ns hi;cases hi with
  | cons _ _ hi =>
   cases hi with
   | cons _ _ hi=>exact⟨_,.cons _ _ (.cons _ _ hi),.swap ..⟩
 | trans _ _ G6 G7 =>
  intro ns hi;obtain⟨n2,a,b⟩:=G7 hi;obtain⟨n1,c,e⟩:=G6 a;exact⟨n1,c,e.trans b⟩
end
section
variable{prog:Program}{w:World}{A:Around}{E:Value->Shared->Prop}{h:Heap}{g:Array GenState}{d:Drawn}{t:Nat}{os:OsState}
variable{nm q:Str}{C N:Addr}{bs bm iw:List Value}{zE:Bool}{sn:List Str}{sub:List Value}{ab:Bool}{col:Option Bool}{dd:Option Addr}{k0 k1 k2 k3 k5:Option Value}{B newId jX:String}
end
end _L
namespace _L
open PySem PySem.W PySem.Builtin.ObjectAttr
section
variable{prog:Program}{w:World}{A:Around}{E:Value->Shared->Prop}{R:Result->Shared->Prop}{s:Shared}{K:Frag}{x C:Addr}{o:Obj}{name:Str}{v:Value}
end
end _L
namespace _L
open PySem PySem.Spec PyProof.Rows
section
variable{P:Program}{w:World}{H:Hp}{h:Heap}{a C d:Addr}{od:Option Addr}{fs:List (Str×V)}
end
section
variable{X:Cx}{pins:List (Addr×Obj)}{σ:St}{H:Hp}{s:Shared}{a C d:Addr}{od:Option Addr}{fs:List (Str×V)}{f:Str}{A:Around}{E:Value->Shared->Prop}
end
section
variable{X:Cx}{o value:Expr}{f:Str}{pos pos':Pos}{ta tv:TE}
end
section
variable{prog:Program}{w:World}{A:Around}{E:Value->Shared->Prop}{h:Heap}{g:Array GenState}{d:Drawn}{t:Nat}{os:OsState}
variable{nm q:Str}{C N e:Addr}{bs bm iw:List Value}{zE:Bool}{sn:List Str}{sub:List Value}{ab:Bool}{col:Option Bool}{dd:Option Addr}{k0 k1 k2 k3 k5:Option Value}{B newId jX:String}
end
section
variable{X:Cx}{x:Str}{C0:Addr}{bm:List Value}{newId jX B:String}{p pos apos:Pos}{e:Expr}{es:List Expr}{t:TA}
end
section
variable{prog:Program}{w:World}{A:Around}{E:Value->Shared->Prop}{s:Shared}{env:Env}
variable{nm q:Str}{C N:Addr}{bs bm iw:List Value}{zE:Bool}{sn:List Str}{sub:List Value}{ab:Bool}{col:Option Bool}{dd:Option Addr}{k0 k1 k2 k3 k5:Option Value}{B newId jX:String}
end
section
variable{P:Program}{w:World}{K:PySem.W.Frag}{mg:Str->Option Value}{base:Heap}{N:List Str}{qual:Str}{scope:Scope}{f:Addr}{cd:Value}{A:Around}{outer:List Env}{bS:Shared}{gY:Hp}{E:XK}
end
section
variable{X:Cx}{E:XK}{x:Str}{C fI:Addr}{bm:List Value}{newId jX B:String}{np fM pos:Pos}{Gh:Expr}{rest:List Expr}{t:TA}{k:Nat}{fd:FuncData}{ps names:List Str}{bM:List V}{ds:List Value}
end
section
variable{X:Cx}{e:Expr}{f:Str}{pos:Pos}{ta:TE}
end
section
variable{X:Cx}{e:Expr}{tl:TE}{p1 p2 p3 p4:Pos}
end
section
variable{X:Cx}{tg:Expr}
end
section
variable{K:PySem.W.Frag}{g:TG}{σ:St}{H:Hp}{ta:TA}{tt:TT}{te:TE}{nt:Nat}{fv:List Nat}{Q:VK}
end
section
variable{prog:Program}{w:World}{A:Around}{E:Value->Shared->Prop}{s:Shared}
end
section
variable{prog:Program}{w:World}{A:Around}{E:Value->Shared->Prop}{s:Shared}{d:Addr}{ep:Nat}{es:Array (Int×Value)}
end
section
variable{X:Cx}{e:Expr}{tl:TE}{p1 p2 p3 p4:Pos}
end
end _L
namespace _L
open PySem PyProof.Rows
section
variable{prog:Program}{w:World}{A:Around}{E:Value->Shared->Prop}{s:Shared}
end
section
variable{R:Keyed->Keyed->Prop}{A B O:List Keyed}{i j:Nat}
end
section
variable{R:Keyed->Keyed->Prop}{A B:List Keyed}{a b out:Array Keyed}{i j k:Nat}{x:Keyed}
end
section
variable{prog:Program}{w:World}{A:Around}{E:Value->Shared->Prop}{s:Shared}
end
section
variable{a b out:Array Keyed}{na nb t:Nat}{x:Keyed}
end
section
variable{prog:Program}{w:World}{A:Around}{E:Value->Shared->Prop}{s:Shared}
end
section
variable{prog:Program}{w:World}{A:Around}{E:Value->Shared->Prop}{s:Shared}
end
section
variable{sf r:Array Keyed}{pd:Array (Nat×Nat×Nat)}{lo n:Nat}{st:SortSt}{xs:Array Keyed}
end
section
variable{prog:Program}{w:World}{A:Around}{E:Value->Shared->Prop}{s:Shared}{sf r:Array Keyed}{pd:Array (Nat×Nat×Nat)}{lo:Nat}
end
section
variable{prog:Program}{w:World}{A:Around}{E:Value->Shared->Prop}{s:Shared}{sf r:Array Keyed}{pd:Array (Nat×Nat×Nat)}{lo:Nat}
end
section
variable{prog:Program}{w:World}{A:Around}{E:Value->Shared->Prop}{s:Shared}{sf:Array Keyed}
end
end _L
namespace _L
open PySem PySem.Spec PyProof.Rows
section
variable{prog:Program}{w:World}{A:Around}{E:Value->Shared->Prop}{s:Shared}
end
section
variable{X:Cx}
end
noncomputable def eI(prog:Program)(w:World)(x:Int×Tok):Int×Value:=((intKind prog w).hash x.1,.int x.1 x.2)
noncomputable def c8(prog:Program)(w:World)(led:Bool)(ms:List Int)(es:Array (Int×Value))(t:SetTable):Prop :=
 jc led t es.size/\∃xs:List (Int×Tok),es.toList.Perm (xs.map (eI prog w))/\(xs.map (·.1)).Nodup/\(∀n,n∈xs.map (·.1)↔n∈ms)/\xs.length<=ms.length
section
variable{prog:Program}{w:World}{A:Around}{E:Value->Shared->Prop}{s:Shared}{a:Addr}{es bH cH:Array (Int×Value)}{ep:Nat}{t t1 t2:SetTable}{n:Int}{tk:Tok}{led:Bool}{ms:List Int}
theorem zF{Q:Bool->Shared->Prop}(ho:s.heap.get? a=some (bE es ep t))(hf:t.fits es.size=true)(gh:ElemsOf (intKind prog w) es.toList)(hb:es.size<100)(sq:∀e∈es.toList,(intKind prog w).is n e.2=false)
  (hl:layNew t es ((intKind prog w).hash n) (.int n tk)=(bH,t1,false,false)) (hp:t1.plain=true) (N2:bH.size<100) (hr:t1.tooFull=true->relayAll t1 bH (SetTable.grown bH.size)=(cH,t2,false)/\cH.size<100)
  (h:∀h',Heap.SameBut a s.heap h'->(t1.tooFull=false->h'.get? a=some (bE bH (ep+1) t1))->(t1.tooFull=true->h'.get? a=some (bE cH (ep+2) t2))->Q true { s with heap:=h' }):wpAny (model prog w) A (setAddHashed a (.int n tk) ((intKind prog w).hash n)) Q E s:=by
 have jI:(intKind prog w).is n (.int n tk)=true:=intKind_is _ _ _ _;have mJ:(Value.int n tk).scannable=true:=rfl;unfold setAddHashed setAddHashedIn;refine wpAny_holding (wpAny_bind (wpAny_setState_of ho rfl hf ?_));dsimp only;rw[byScan_of mJ (by unfold scanBound;lia) gh]
 simp only[↓reduceIte];unfold setAddByScan;refine wpAny_bind ?_;refine wpAny_bind (wpAny_rule ?_);refine wpAny_bind (wpAny_setScan_of jI ho rfl hf gh ?_);rw[List.findIdx?_eq_none_iff.mpr sq];dsimp only;rw[hl];dsimp only;refine wpAny_bind (wpAny_pure ?_);rw[if_pos hp,hashByValue_scannable 8 mJ];refine wpAny_bind (wpAny_pure ?_);simp only[plainKind,if_true];refine wpAny_bind (wpAny_storeSet_of ho rfl ?_ (fits_of_scanBound (by unfold scanBound;lia)))
 have hg:(s.heap.update a (Obj.putSet bH t1)).get? a=some (bE bH (ep+1) t1):=by
  have:=Heap.get?_update_self (Obj.putSet bH t1) ho (by rw[putSet_of bH t1 (es:=es) (ep:=ep) (t:=t) rfl];rfl)
  rw[putSet_of bH t1 (es:=es) (ep:=ep) (t:=t) rfl] at this;exact this
 cases fc:t1.tooFull with
 | false =>
  simp only[Bool.and_false,Bool.false_eq_true,if_false];exact wpAny_pure (wpAny_pure (h _ (Heap.SameBut.update _ _ _) (λ_=>hg) (λz=>by rw[fc] at z;cases z)))
 | true =>
  obtain⟨sr,j8⟩:=hr fc;simp only[Bool.not_false,Bool.and_true,if_true];rw[sr];dsimp only;refine wpAny_bind (wpAny_pure ?_);refine wpAny_bind (wpAny_storeSet_of (s:={ s with heap:=s.heap.update a (Obj.putSet bH t1)}) hg rfl ?_ (fits_of_scanBound (by unfold scanBound;lia)))
  have G8:((s.heap.update a (Obj.putSet bH t1)).update a (Obj.putSet cH t2)).get? a=some (bE cH (ep+2) t2):=by
   have:=Heap.get?_update_self (Obj.putSet cH t2) hg (by rw[putSet_of cH t2 (es:=bH) (ep:=ep+1) (t:=t1) rfl];rfl)
   rw[putSet_of cH t2 (es:=bH) (ep:=ep+1) (t:=t1) rfl] at this;exact this
  exact wpAny_pure (wpAny_pure (h _ ((Heap.SameBut.update _ _ _).trans (Heap.SameBut.update _ _ _)) (λz=>by rw[fc] at z;cases z) (λ_=>G8)))
theorem G9{Q:Bool->Shared->Prop}(ho:s.heap.get? a=some (bE es ep t))(hf:t.fits es.size=true)(gh:ElemsOf (intKind prog w) es.toList)(hb:es.size<100)(G_:∃e∈es.toList,(intKind prog w).is n e.2=true)
  (h:Q false s):wpAny (model prog w) A (setAddHashed a (.int n tk) ((intKind prog w).hash n)) Q E s:=by
 have jI:(intKind prog w).is n (.int n tk)=true:=intKind_is _ _ _ _;have mJ:(Value.int n tk).scannable=true:=rfl;unfold setAddHashed setAddHashedIn;refine wpAny_holding (wpAny_bind (wpAny_setState_of ho rfl hf ?_));dsimp only;rw[byScan_of mJ (by unfold scanBound;lia) gh]
 simp only[↓reduceIte];unfold setAddByScan;refine wpAny_bind ?_;refine wpAny_bind (wpAny_rule ?_);refine wpAny_bind (wpAny_setScan_of jI ho rfl hf gh ?_);cases hr:List.findIdx? (λe=>(intKind prog w).is n e.2) es.toList with
 | some j=>exact wpAny_pure (wpAny_pure h)
 | none =>
  obtain⟨e,he,hp⟩:=G_;have:=List.findIdx?_eq_none_iff.mp hr e he;rw[hp] at this;cases this
theorem c8.el(h:c8 prog w led ms es t):ElemsOf (intKind prog w) es.toList:=λe he=>by
 obtain⟨_,xs,p,_⟩:=h;obtain⟨x,hx,rfl⟩:=List.mem_map.mp (p.mem_iff.mp he);exact⟨⟨x.1,intKind_is _ _ _ _,rfl⟩,rfl⟩
theorem c8.size(h:c8 prog w led ms es t):es.size<=ms.length:=by
 obtain⟨_,xs,p,_,_,hl⟩:=h;have:=p.length_eq;rw[Array.length_toList,List.length_map] at this;lia
theorem c8.add{Q:Bool->Shared->Prop}(h:c8 prog w led ms es t)(ho:s.heap.get? a=some (bE es ep t))(iA:ms.length<60)
  (q:∀b h' cQ fE t',Heap.SameBut a s.heap h'->h'.get? a=some (bE cQ fE t')->c8 prog w led (ms++[n]) cQ t'->Q b { s with heap:=h' }):wpAny (model prog w) A (setAddHashed a (.int n tk) ((intKind prog w).hash n)) Q E s:=by
 have iS:=h.size;have gh:=h.el;obtain⟨hT,xs,p,nd,mem,hl⟩:=id h;have hf:=hT.fits;by_cases hm:n∈ms
 ·have hx:=(mem n).mpr hm;refine G9 ho hf gh (by lia) ?_ (q false s.heap es ep t (Heap.SameBut.refl _ _) ho ⟨hT,xs,p,nd,λk=>?_,by rw[List.length_append];lia⟩)
  ·obtain⟨x,gP,rfl⟩:=List.mem_map.mp hx;exact⟨eI prog w x,p.mem_iff.mpr (List.mem_map_of_mem gP),intKind_is _ _ _ _⟩
  ·rw[List.mem_append,List.mem_singleton,mem k];constructor
   ·exact .inl
   ·rintro(z | rfl)
    ·exact z
    ·exact hm
 ·have hx:n∉xs.map (·.1):=λz=>hm ((mem n).mp z);obtain⟨bH,t1,rD,p1,U1⟩:=GF hT rfl (by lia) ((intKind prog w).hash n) (.int n tk)
  have r9:bH.size=es.size+1:=by
   have:=p1.length_eq;simpa using this
  rw[← r9] at U1;have P1:bH.toList.Perm ((xs++[(n,tk)]).map (eI prog w)):=by
   rw[List.map_append];exact p1.trans (p.append_right _)
  have fin:∀cQ t',jc led t' cQ.size->cQ.toList.Perm bH.toList->c8 prog w led (ms++[n]) cQ t':=λcQ t' Hf p'=>by
   refine⟨Hf,xs++[(n,tk)],p'.trans P1,?_,λk=>?_,by simp;lia⟩
   ·rw[List.map_append,List.nodup_append];refine⟨nd,by simp,λu hu v hv=>?_⟩
    rintro rfl;rw[List.map_singleton,List.mem_singleton] at hv;subst hv;exact hx hu
   ·rw[List.map_append,List.mem_append,List.mem_append,mem k];simp
  cases fc:t1.tooFull with
  | false =>
   have room:bH.size*5<t1.mask*3:=by
    unfold SetTable.tooFull SetTable.fill at fc;rw[U1.j3,U1.sz] at fc;simpa using fc
   refine zF (cH:=bH) (t2:=t1) ho hf gh (by lia) (λe he=>?_) rD U1.pl (by lia) (λz=>by rw[fc] at z;cases z) λh' sb g1 g2=>q true h' bH (ep+1) t1 sb (g1 fc) (fin bH t1 ⟨U1,room⟩ (.refl _))
   obtain⟨x,gP,rfl⟩:=List.mem_map.mp (p.mem_iff.mp he)
   show (intKind prog w).is n (.int x.1 x.2)=false;rw[y9,decide_eq_false_iff_not];rintro rfl;exact hx (List.mem_map_of_mem gP)
  | true =>
   obtain⟨cH,t2,hr,p2,T2⟩:=GH U1 rfl fc;have Hg:cH.size=bH.size:=by
    have:=p2.length_eq;simpa using this
   rw[← Hg] at T2;refine zF (cH:=cH) (t2:=t2) ho hf gh (by lia) (λe he=>?_) rD U1.pl (by lia) (λ_=>⟨hr,by lia⟩) λh' sb g1 g2=>q true h' cH (ep+2) t2 sb (g2 fc) (fin cH t2 T2 p2)
   obtain⟨x,gP,rfl⟩:=List.mem_map.mp (p.mem_iff.mp he)
   show (intKind prog w).is n (.int x.1 x.2)=false;rw[y9,decide_eq_false_iff_not];rintro rfl;exact hx (List.mem_map_of_mem gP)
theorem c8.ok{d:Addr}(h:c8 prog w (!bz w) ms es t):j6 w d es ep t:=by
 obtain⟨hT,_⟩:=h;refine⟨hT.fits,hT.pl,hT.ld,λhb i hi=>?_,?_⟩
 ·unfold slotAt;rw[hb];simp only[Bool.false_eq_true,if_false];have hs:=hT.sz;split
  ·rename_i h0;rw[h0];exact Gp hT.rise
  ·rename_i h0;have:=Gn hT.rise (i:=i - 1) (by lia)
   rw[this];lia
 ·have:=(zD (w:=w) (d:=d) (ep:=ep) (es:=es)).length_eq;simpa using this
end
section
variable{prog:Program}{w:World}{A:Around}{R:Result->Shared->Prop}{l I S:Addr}{led:Bool}{xs:List (Int×Tok)}
noncomputable def iV(x:Int×Tok):Value:=.int x.1 x.2
theorem Hh(hh:A.handled=none)(iA:xs.length<=60)(Hi:l≠I)(su:S≠I)(Hj:S≠l):∀(k i:Nat) (s:Shared) (es:Array (Int×Value)) (t:SetTable) (ep:Nat),i+k=xs.length->
  s.heap.IsListIter I l i->s.heap.IsList l (xs.map iV).toArray->s.heap.get? S=some (bE es ep t)->c8 prog w led ((xs.take i).map (·.1)) es t->
  (∀h' tk es t ep,(∀b o,b≠S->b≠I->s.heap.get? b=some o->h'.get? b=some o)->h'.get? S=some (bE es ep t)->c8 prog w led (xs.map (·.1)) es t->R (.ok (.ret .none)) { s with heap:=h',toks:=tk })->
  codeAny (model prog w) A (.builtin "set.update.loop" ⟨[.ref S,.ref I],[]⟩) R s:=by
 have W:=Walks.list (prog:=prog) (w:=w) (A:=A.in1) hh I l Hi (xs.map iV).toArray;intro k
 induction k with
 | zero =>
  intro i s es t ep hi hit hl hS st hR;refine codeAny_builtin F.entry_set_update_loop ?_;rw[Around.under_plainId F.plain_set_update_loop _]
  show wpAny _ A.in1 (pyNext (.ref I) >>= _) _ _ _;have eZ:i=xs.length:=hi;subst eZ;have hz:((xs.map iV).toArray).size=xs.length:=by simp
  refine wpAny_bind (W.done _ _ _ ⟨by rw[hz];exact hit,hl⟩ λh5 t5 k5=>?_)
  show wpAny _ A.in1 (ret Value.none) _ _ _;rw[List.take_length] at st;exact wpAny_pure (hR h5 t5 es t ep (λb o hb hI e=>k5 b o (by simpa using hI) e) (k5 S _ (by simpa using su) hS) st)
 | succ k ih =>
  intro i s es t ep hi hit hl hS st hR;have eZ:i<xs.length:=by lia
  refine codeAny_builtin F.entry_set_update_loop ?_;rw[Around.under_plainId F.plain_set_update_loop _]
  show wpAny _ A.in1 (pyNext (.ref I) >>= _) _ _ s;refine wpAny_bind (W.item i s _ _ (by simpa using eZ) ⟨hit,hl⟩ λv h1 t1 hP Hl k1=>?_)
  have Ho:v = .int xs[i].1 xs[i].2:=by
   have:(xs.map iV)[i]? = some v:=by simpa using hP
   rw[List.getElem?_map,List.getElem?_eq_getElem eZ] at this;exact(Option.some.inj this).symm
  subst Ho;have Hq:=k1 S _ (by simpa using su) hS
  show wpAny _ A.in1 (holding [Value.int xs[i].1 xs[i].2] (setAdd S (.int xs[i].1 xs[i].2)) >>= _) _ _ _;refine wpAny_bind (wpAny_holding ?_);unfold setAdd;refine wpAny_holding ?_;refine wpAny_bind ((intKind prog w).pyHash (k:=xs[i].1) (intKind_is _ _ _ _) ?_);refine st.add (s:={ s with heap:=h1,toks:=t1+1 }) Hq (by rw[List.length_map,List.length_take];lia) λb h2 bH N3 Hr dB mK eg=>?_
  have dP:h2.IsListIter I l (i+1)/\h2.IsList l (xs.map iV).toArray:=W.frame (i+1) h1 h2 Hl λb hb o e=>(dB.2 b (λz=>by
   rw[z] at hb;rcases List.mem_cons.mp hb with q | q
   ·exact su q
   ·exact Hj (List.mem_singleton.mp q))).trans e
  refine wpAny_pure ⟨plainId_quiet F.plain_set_update_loop _,?_⟩;refine ih (i+1) _ bH Hr _ (by lia) dP.1 dP.2 mK ?_ λh' tk cQ t' fE kp j9 Hs=>hR h' tk cQ t' fE (λb o hb hI e=>kp b o hb hI ((dB.2 b hb).trans (k1 b o (by simpa using hI) e))) j9 Hs
  rw[take_succ_get (List.getElem?_eq_getElem eZ),List.map_append];exact eg
end
section
variable{prog:Program}{w:World}{A:Around}{E:Value->Shared->Prop}{s:Shared}
theorem Ht{l:Addr}{xs:List (Int×Tok)}{Q:Value->Shared->Prop}(hh:A.handled=none)(iA:xs.length<=60)(hl:s.heap.IsList l (xs.map iV).toArray)
  (h:∀(h':Heap) (tk:Nat) (es:Array (Int×Value)) (ep:Nat) (t:SetTable),h'.get? s.heap.objs.size=some (bE es ep t)->c8 prog w (!bz w) (xs.map (·.1)) es t->
   (∀b o,b<s.heap.objs.size->s.heap.get? b=some o->h'.get? b=some o)->Q (.ref s.heap.objs.size) { s with heap:=h',toks:=tk }) :
  wpAny (model prog w) A (call (.type "set") [.ref l]) Q E s:=by
 obtain⟨c,tl,N4⟩:=F.called_set.mro;have N5:=F.called_set.made;have GJ:=F.called_set.sub;refine wpAny_call (codeAny_of_tree ?_)
 show wpAny _ _ (callAny (.type "set") _) _ _ _;refine wpAny_pure ⟨Code.quiet_builtin _ (by decide +kernel),codeAny_builtin F.entry_type_call ?_⟩
 rw[Around.under_plain (weight_type_call_type "set" [.ref l] []) rfl];have h1:=F.called_set.notType;have h2:=F.called_set.canCreate;have N6:=F.typeCall_set_1 (.ref l)
 repeat (any_goals (first | assumption | wp_step))
 refine codeAny_mono (GI (.ref l) (E:=E) (Q₁:=λobj aQ=>obj = .ref s.heap.objs.size/\aQ = { s with heap:=s.heap.push (bE #[] 0 (.fresh 0 0 (!bz w)))}) ⟨rfl,rfl⟩) λr aQ hr=>?_;cases r with
 | error e=>exact hr
 | ok fl =>
  cases fl with
  | ret obj =>
   obtain⟨rfl,rfl⟩:=hr;have hS:(s.heap.push (bE #[] 0 (.fresh 0 0 (!bz w)))).get? s.heap.objs.size=some (bE #[] 0 (.fresh 0 0 (!bz w))):=Heap.get?_push_size _ rfl;have hT:Shared.TypeIs { s with heap:=s.heap.push (bE #[] 0 (.fresh 0 0 (!bz w)))} (.ref s.heap.objs.size) "set" := ⟨_,hS,rfl⟩;have N7:=F.called_set.init.lookup;have N8:=F.called_set.init.bind (.ref s.heap.objs.size)
   repeat (any_goals (first | assumption | wp_step))
   refine codeAny_mono (codeAny_call_builtin (R:=wants (λr f9=>r = .none/\∃h' tk,f9 = { s with heap:=h',toks:=tk }/\
     (∃es ep t,h'.get? s.heap.objs.size=some (bE es ep t)/\c8 prog w (!bz w) (xs.map (·.1)) es t)/\
     (∀b o,b<s.heap.objs.size->s.heap.get? b=some o->h'.get? b=some o)) E) F.called_set.init.plain F.entry_set_init (check_set_init_1 hT ?_)) λHu f9 sy=>?_
   ·obtain⟨ol,zG,zH,nl,mL⟩:=hl;obtain⟨N9,Hv,N_,Hw⟩:=ol;simp only at zH mL;subst zH;subst mL;have Hx:(s.heap.push (bE #[] 0 (.fresh 0 0 (!bz w)))).get? l=some { cls:=.type "list",dict:=Hv,data:=.seq (xs.map iV).toArray nl,slots:=Hw }:=Heap.get?_push_of_some _ zG;have Oa:=F.sub_list_set;have Ob:=F.sub_list_frozenset;have cG:(Value.type "list" == Value.type "dict")=false:=by decide
    have zI:(s.heap.push (bE #[] 0 (.fresh 0 0 (!bz w)))).IsList l (xs.map iV).toArray:=⟨_,Hx,rfl,nl,rfl⟩;unfold Builtin.«set.__init__» noKeywords Builtin.Frozenset.updateFrom;generalize Hy:pyIter=PI;wp_walk;subst Hy;refine wpAny_pyIter_list zI ?_;refine wpAny_bind (wpAny_runValue ?_);have zJ:l<s.heap.objs.size:=Heap.lt_size zG;have Hz:A.in1.in1.in1.handled=none:=by simp[hh]
    have hz:(s.heap.push (bE #[] 0 (.fresh 0 0 (!bz w)))).objs.size=s.heap.objs.size+1:=Heap.size_push ..;have HA:l≠(s.heap.push (bE #[] 0 (.fresh 0 0 (!bz w)))).objs.size:=by rw[hz];exact Nat.ne_of_lt (Nat.lt_succ_of_lt zJ)
    refine Hh (A:=A.in1.in1) (led := !bz w) (xs:=xs) (l:=l) (I:=(s.heap.push (bE #[] 0 (.fresh 0 0 (!bz w)))).objs.size) (S:=s.heap.objs.size) Hz iA HA (by rw[hz];exact Nat.ne_of_lt (Nat.lt_succ_self _)) (Nat.ne_of_gt zJ) xs.length 0 _ #[] (.fresh 0 0 (!bz w)) 0 (Nat.zero_add _) ?_ ?_ ?_ ⟨GD _,[],.refl _,.nil,λn=>by simp,by simp⟩ ?_
    ·exact⟨_,Heap.get?_push_size _ rfl,rfl,rfl⟩
    ·exact zI.push _
    ·exact Heap.get?_push_of_some _ hS
    intro h' HB cQ zK fE k' j9 sC
    show wpAny _ _ _ _ _ _;refine wpAny_pure ?_
    show wpAny _ _ (ret Value.none) _ _ _;refine wpAny_pure ⟨rfl,h',HB,rfl,⟨cQ,fE,zK,j9,sC⟩,λb o hb e=>?_⟩;exact k' b o (Nat.ne_of_lt hb) (by rw[hz];exact Nat.ne_of_lt (Nat.lt_succ_of_lt hb)) (Heap.get?_push_of_some _ (Heap.get?_push_of_some _ e))
   ·cases Hu with
    | error e=>exact sy
    | ok HC =>
     cases HC with
     | ret r =>
      obtain⟨rfl,h',tk,rfl,⟨cQ,fE,zK,j9,sC⟩,iy⟩:=sy
      repeat (any_goals (first | assumption | wp_step))
      exact h _ _ _ _ _ j9 sC iy
     | _=>exact sy.elim
  | _=>exact hr.elim
end
section
variable{prog:Program}{w:World}{A:Around}{E:Value->Shared->Prop}{s:Shared}{d:Addr}{ep:Nat}{es:Array (Int×Value)}
theorem HD{S:Addr}{t:SetTable}{R:Result->Shared->Prop}(hh:A.handled=none)(ok:j6 w d es ep t)(hd:s.heap.get? d=some (bE es ep t))(hn:es.size<=60)(cG:S≠d)(hS:s.heap.get? S=some { cls:=.type "list",data:=.seq #[] })
  (hR:∀(h':Heap) (tk:Nat) (acc:Array Value) (c:Nat),(∀b o,b≠S->s.heap.get? b=some o->h'.get? b=some o)->h'.get? S=some { cls:=.type "list",dict:=none,data:=.seq acc c,slots := #[] }->acc.toList=(c7 w d ep es).toList.map (·.2)->R (.ok (.ret (.ref S))) { s with heap:=h',toks:=tk }) :
  codeAny (model prog w) A (.builtin "list.__iadd__" ⟨[.ref S,.ref d],[]⟩) R s:=by
 refine codeAny_builtin PySem.F.entry_list_iadd ?_;rw[Around.under_plainId PySem.F.plain_list_iadd _];refine PySem.W.kdl_extend (G3 ok) hh hd S cG cG (.ref S) 0 hS (λh' tk acc c hk hS gM=>hR h' tk acc c hk hS ?_) (by rw[sizeLine_eq];lia)
 refine List.ext_getElem? λi=>?_
 have iS:=gM.1;have jJ:=ok.hn;by_cases hi:i<es.size
 ·have j7:i<acc.size:=by rw[iS];exact hi
  obtain⟨e,e1,e2⟩:=gM.2 i acc[i] (Array.getElem?_eq_getElem j7);rw[Array.getElem?_toList,Array.getElem?_eq_getElem j7,List.getElem?_map,Array.getElem?_toList,e1,e2];rfl
 ·rw[List.getElem?_eq_none (by rw[Array.length_toList];lia),List.getElem?_eq_none (by rw[List.length_map,Array.length_toList];lia)]
theorem HE{t:SetTable}{Q:List Value->Shared->Prop}(hh:A.handled=none)(ok:j6 w d es ep t)(hd:s.heap.get? d=some (bE es ep t))(hn:es.size<=60)
  (hQ:∀(h':Heap) (tk:Nat) (vs:List Value),(∀b o,s.heap.get? b=some o->h'.get? b=some o)->s.heap.objs.size<h'.objs.size->vs=((c7 w d ep es).toList.map (·.2))->Q vs { s with heap:=h',toks:=tk }) :
  wpAny (model prog w) A (collect (.ref d)) Q E s:=by
 unfold collect;refine wpAny_bind (wpAny_runValue (codeAny_builtin PySem.F.entry_proto_collect ?_));rw[Around.under_plainId PySem.F.plain_proto_collect _];show wpAny _ A.in1 (newList [] >>= λl=>again (.builtin "list.__iadd__" ⟨[l,.ref d],[]⟩)) _ _ s;have mL:d<s.heap.objs.size:=Heap.lt_size hd;refine wpAny_bind (wpAny_newObj_type (wpAny_pure ⟨plainId_quiet PySem.F.plain_list_iadd _,HD hh ok (Heap.get?_push_of_some _ hd) hn (Nat.ne_of_gt mL) (Heap.get?_push_size _ rfl) λh' tk acc c hk hS gM=>?_⟩))
 show wpAny _ A (load s.heap.objs.size >>= _) _ _ _;exact wpAny_bind (wpAny_load hS (wpAny_pure (hQ h' tk acc.toList (λb o e=>hk b o (Nat.ne_of_lt (Heap.lt_size e)) (Heap.get?_push_of_some _ e)) (Heap.lt_size hS) gM)))
theorem zL:∀xs:List (Int×Tok),IntsAre ((xs.map (eI prog w)).map (·.2)) (xs.map (·.1))
 | []=>.nil
 | x::xs=>.cons _ _ (zL xs)
theorem HF{Q:Value->Shared->Prop}{ms:List Int}{t:SetTable}(hh:A.handled=none)(iA:ms.length<=60)(st:c8 prog w (!bz w) ms es t)(hd:s.heap.get? d=some (bE es ep t))
  (h:∀(L:Addr) (h':Heap) (tk:Nat) (out:Array Value) (dz:List Int) (e:Nat),s.heap.objs.size<=L->h'.get? L=some (seqObj "list" out e)->(∀b o,s.heap.get? b=some o->h'.get? b=some o)->IntsAre out.toList dz->dz.Nodup->(∀n,n∈dz↔n∈ms)->dz.length<=ms.length->dz.Pairwise (·<=·)->Q (.ref L) { s with heap:=h',toks:=tk }) :
  wpAny (model prog w) A (call (.builtin "sorted") [.ref d]) Q E s:=by
 refine Calls.call_function_entry kind_sorted plain_sorted entry_sorted (args_sorted1 _) ?_;unfold Builtin.«sorted»;refine wpAny_bind (m:=checkCount "sorted" 1 1 _) (wpAny_pure ?_);have iS:=st.size;refine wpAny_bind (HE hh st.ok hd (by lia) λh1 t1 vs k1 z1 HG=>?_)
 obtain⟨_,xs,p,nd,mem,cY⟩:=st;obtain⟨ns,hi,hp⟩:=G5 (((zD (w:=w) (d:=d) (ep:=ep) (es:=es)).trans p).map (·.2)) (zL xs);rw[← HG] at hi;have hl:vs.length=ns.length:=hi.length;have lX:ns.length<=60:=by rw[hp.length_eq,List.length_map];lia
 refine wpAny_bind (wpAny_newList ?_ (by rw[sizeLine_eq];lia))
 have g5:(h1.push (seqObj "list" vs.toArray 0)).get? h1.objs.size=some (seqObj "list" vs.toArray 0):=Heap.get?_push_size _ rfl
 show wpAny _ _ _ _ _ { s with heap:=h1.push (seqObj "list" vs.toArray 0),toks:=t1 };refine wpAny_bind (wpAny_holding (wpAny_call_entry slot_list_sort ⟨_,g5,rfl⟩ entry_list_sort (list_sort_tree g5 hi (by lia) λout dz a1 a2 a3=>⟨_,rfl,?_⟩) (args_list_sort _)))
 obtain⟨e,he⟩:=sortedHeap_at (out:=out) g5;have a4:=a2.trans hp;refine wpAny_pure ⟨_,rfl,h h1.objs.size _ _ out dz e (Nat.le_of_lt z1) he (λb o q=>?_) a1 (a4.nodup_iff.mpr nd) (λn=>(a4.mem_iff).trans (mem n)) (by rw[a4.length_eq,List.length_map];exact cY) a3⟩
 have q1:=k1 b o q;have hb:=Heap.lt_size q1;rw[sortedHeap_old (Nat.ne_of_lt hb) (by rw[size_push'];exact Nat.lt_succ_of_lt hb)]
 exact Heap.get?_push_of_some _ q1
end
section
variable{X:Cx}{e:Expr}{tl:TE}{p1 p2 p3 p4:Pos}
noncomputable def HJ(K:PySem.W.Frag)(tl:TE):TE:=λσ H Q=>tl σ H λx H1=>∃(l:Addr) (ms:List Int),x = .ref l/\au K H1 l (ms.map V.int)/\ms.length<=60/\
 ∀(L:Addr) (ns:List Int),H1 L=none->ns.Nodup->(∀n,n∈ns↔n∈ms)->ns.length<=ms.length->ns.Pairwise (·<=·)->Q (.ref L) (upd H1 L (.lst (ns.map V.int)))
theorem zM:∀ {ms:List Int} {us:List Value},Vals (ms.map V.int) us->∃xs:List (Int×Tok),us=xs.map iV/\xs.map (·.1)=ms
 | [],_,.nil=>⟨[],rfl,rfl⟩
 | m::ms,_,.cons ⟨t,e⟩ r=>by
  obtain⟨xs,e1,e2⟩:=zM r;exact⟨(m,t)::xs,by rw[e,e1];rfl,by rw[List.map_cons,e2]⟩
theorem HK(HL:Gl X "sorted")(HM:X.mg "sorted" = none)(HN:Gl X "set")(HP:X.mg "set" = none)(hc:X.calm=true)(hl:PE X e tl)
  (hs:starEach [e] X.env = [(false,eval e X.env)]:=by rfl) (zN:starEach [.Call (.Name "set" p2) [e] [] p3] X.env = [(false,eval (.Call (.Name "set" p2) [e] [] p3) X.env)]:=by rfl) :
  PE X (.Call (.Name "sorted" p1) [.Call (.Name "set" p2) [e] [] p3] [] p4) (HJ X.K tl):=by
 intro pins s σ H Q I h;refine wpAny_Call_Name_kw (iJ I HL HM boot_sorted (PyProof.Rows.callWith_builtin1 ?_ (by rw[zN];rfl) (by rfl)))
 rw[zN];refine Calls.spliced_cons ?_
 let R:List V->Hp->Prop:=λvs H1=>match vs with
  | [x]=>∃(l:Addr) (ms:List Int),x = .ref l/\au X.K H1 l (ms.map V.int)/\ms.length<=60/\
   ∀(L:Addr) (ns:List Int),H1 L=none->ns.Nodup->(∀n,n∈ns↔n∈ms)->ns.length<=ms.length->ns.Pairwise (·<=·)->Q (.ref L) (upd H1 L (.lst (ns.map V.int)))
  | _=>False
 have h':yi tl qZ σ H R:=h;refine Call_ (iJ I HN HP (show bootBuiltins "set" = some (.type "set") by decide +kernel) (PyProof.Rows.callWith_type1 (aK ((aa hl ak (hs:=hs)) p3 pins s σ H R I h') λus s1 ⟨vs,H1,I1,r1,q1⟩=>?_) (by rw[hs];rfl) (by rfl)))
 cases r1 with
 | nil=>exact q1.elim
 | cons ru r1 =>
 cases r1 with
 | cons _ _=>exact q1.elim
 | nil =>
 obtain⟨l,ms,rfl,hq,iA,q⟩:=q1;cases ru;obtain⟨ao,rv,pl,_⟩:=I1.list hq;obtain⟨xs,rfl,rfl⟩:=zM rv;have hh:=I1.ok.hd hc;have HQ:xs.length<=60:=by simpa using iA
 refine Ht hh HQ pl.isList λh2 t2 es ep tb mK dP k2=>Calls.spliced_nil ?_;have HR:∀b o,s1.heap.get? b=some o->h2.get? b=some o:=λb o e=>k2 b o (Heap.lt_size e) e;refine HF (s:={ s1 with heap:=h2,toks:=t2 }) hh iA dP mK λL h3 t3 out dz e' hL g5 k3 a1 a2 a3 a4 a5=>?_;have bD:s1.heap.objs.size<=L:=Nat.le_trans (Nat.le_of_lt (Heap.lt_size mK)) hL;have HS:H1 L=none:=I1.aJ.fresh bD;refine⟨.ref L,upd H1 L (.lst (dz.map V.int)),I1.laid (t':=t3) (λb o q=>k3 b o (HR b o q)) bD ?_,rfl,q L dz HS a2 a3 a4 a5⟩;refine⟨?_,out.toList,e',rF a1,by simpa using g5⟩
 rw[List.length_map];rw[sizeLine_eq];lia
end
section
variable{X:Cx}
end
theorem sD:∀ {ys:List Str} {us:List Value},Vals (ys.map V.str) us->StrsAre us ys
 | [],_,.nil=>.nil
 | y::ys,_,.cons ⟨t,e⟩ r=>by rw[e];exact .cons y t (sD r)
section
variable{X:Cx}
noncomputable def rJoin(K:PySem.W.Frag):V->List V->Hp->VK->Prop:=λx vs H Q=>∃(sep:Str) (l:Addr) (ys:List Str),x = .str sep/\vs = [.ref l]/\au K H l (ys.map V.str)/\(ys.map (·.length)).sum+ys.length*sep.length<=16777216/\Q (.str (Txt.join sep ys)) H
theorem sE:lR X "str.join" (rJoin X.K):=by
 rintro pins s σ H x vs v us Q I rx rv ⟨sep,l,ys,rfl,rfl,hq,hn,q⟩;obtain⟨t,rfl⟩:=rx;obtain⟨u,rfl,ru⟩:=rv.one;cases ru;obtain⟨ao,r,pl,_⟩:=I.list hq;exact join_list pl.isList (sD r) hn λt' k=>⟨.str _,H,I.tok _,⟨_,rfl⟩,q⟩
noncomputable def HU:V->List V->Hp->VK->Prop:=λx vs H Q=>∃(z sep:Str),x = .str z/\vs = [.str sep]/\(sep.length == 0)=false/\z.length+2<=sizeLine/\(Txt.split z sep).length<=sizeLine/\∀l,H l=none->Q (.ref l) (upd H l (.lst ((Txt.split z sep).map V.str)))
theorem zO:∀(tk:Nat) (xs:List Str),Vals (xs.map V.str) (strsFrom tk xs)
 | _,[]=>.nil
 | tk,x::xs=>.cons ⟨_,rfl⟩ (zO (tk+1) xs)
theorem zP:lR X "str.split" HU:=by
 rintro pins s σ H x vs v us Q I rx rv ⟨z,sep,rfl,rfl,h0,hz,hp,q⟩;obtain⟨t,rfl⟩:=rx;obtain⟨u,rfl,ru⟩:=rv.one;obtain⟨t2,rfl⟩:=ru;have ty:s.TypeIs (.str z t) "str" := typeIs_str s z t;have one:∀(e:Txt.split z sep = [z]),EP X pins σ Q (.ref s.heap.objs.size) { s with heap:=s.heap.push { cls:=.type "list",data:=.seq #[.str z t] }}:=λe=>by
  refine⟨.ref _,upd H s.heap.objs.size (.lst ((Txt.split z sep).map V.str)),I.laid (t':=s.toks) (λb o e=>Heap.get?_push_of_some _ e) (Nat.le_refl _) ?_,rfl,q _ (I.aJ.fresh (Nat.le_refl _))⟩;rw[e];exact⟨by rw[sizeLine_eq];simp,[.str z t],0,.cons ⟨_,rfl⟩ .nil,Heap.get?_push_size _ rfl⟩
 by_cases c1:(decide (z.length<sep.length) || decide (Builtin.Str.strKind z<Builtin.Str.strKind sep))=true
 ·refine call_meets F.slot_str_split ty F.entry_str_split (F.args_str_split_2 _ _) (meets_str_split_cannot_occur z sep t t2 c1) ?_;exact one (by unfold Txt.split;rw[if_pos c1])
 ·have Oc:=Bool.not_eq_true _▸c1;by_cases c2:(Builtin.Str.occurrences z sep 0 z.length (z.length+1)).isEmpty=true
  ·refine call_meets F.slot_str_split ty F.entry_str_split (F.args_str_split_2 _ _) (meets_str_split_not_found z sep t t2 (by simpa using c1) h0 c2) ?_
   exact one (by unfold Txt.split;rw[if_neg c1,if_pos c2])
  ·have e:Txt.split z sep=Builtin.Str.partsBetween z (Builtin.Str.occurrences z sep 0 z.length (z.length+1)) sep.length:=by unfold Txt.split;rw[if_neg c1,if_neg c2]
   rw[e] at hp;refine call_meets F.slot_str_split ty F.entry_str_split (F.args_str_split_2 _ _) (meets_str_split_sep z sep t t2 (by simpa using c1) h0 (by simpa using c2) (by lia) hp) ?_
   refine⟨.ref _,upd H s.heap.objs.size (.lst ((Txt.split z sep).map V.str)),I.laid (λb o e=>Heap.get?_push_of_some _ e) (Nat.le_refl _) ?_,rfl,q _ (I.aJ.fresh (Nat.le_refl _))⟩;rw[e];exact⟨by rw[List.length_map];exact hp,_,0,zO _ _,Heap.get?_push_size _ rfl⟩
theorem HV:fJ X (.type "int") (λxs H Q=>∃(z:Str) (n:Int),xs = [.str z]/\intText? z=some n/\z.length<=640/\Q (.int n) H):=by
 rintro pins s σ H xs us Q I r ⟨z,n,rfl,e,hl,q⟩;obtain⟨u,rfl,ru⟩:=vals1 r;obtain⟨t,rfl⟩:=ru;exact PySem.W.KIN.call_text e hl ⟨.int n,H,I.tok _,⟨_,rfl⟩,q⟩
noncomputable def zQ(x:Str):It:=⟨λi _=>i<x.cps.size,λi H v H'=>H' = H/\∃c,x.cps[i]? = some c/\v = .str ⟨#[c]⟩,λi _=>i=x.cps.size⟩
theorem HW{M:Model}{A:Around}{E:Value->Shared->Prop}{s:Shared}{tg:Expr}{it:Addr}{z:Str}{t:Tok}{Q:Unit->Shared->Prop}(hQ:Q () s):wpAny M A (letOwnedTupleGo tg (.ref it) (.str z t)) Q E s:=by
 unfold letOwnedTupleGo;cases tg <;> exact wpAny_pure hQ
theorem zR(x:Str):strIterType x = "str_ascii_iterator"\/strIterType x = "str_iterator" := by
 unfold strIterType;split
 ·exact .inl rfl
 ·exact .inr rfl
theorem zS{P:Program}{w:World}{A:Around}(hh:A.handled=none)(it:Addr)(x:Str)(t:Tok):Walks P w A it [it] [it] x.cps.size (SignAt x) λi h=>h.IsStrIter it (strIterType x) x t i:=by
 rcases zR x with e | e <;> rw[e]
 ·exact Walks.strAscii hh it x t
 ·exact Walks.strWide hh it x t
theorem HX{P:Program}{w:World}{K:PySem.W.Frag}{tg:Expr}(it:Addr)(x:Str)(t:Tok):Turn P w K tg (zQ x) [it] it (λi h=>h.IsStrIter it (strIterType x) x t i) where
 mem:=by simp
 obj:=λi h st b hb=>by
  have e:b=it:=by simpa using hb
  subst e;obtain⟨o,e,_,d⟩:=st;exact⟨o,e,λv z=>by rw[d] at z;cases z⟩
 keep:=λi h h' ⟨o,e,c,d⟩ k=>⟨o,k it (by simp) o e,c,d⟩
 item:=by
  intro X hP hw hK hc i pins s σ H E I hf st hg;subst hP hw hK;obtain⟨f0,f1,f2,f3,f4,f5⟩:=hf it (by simp)
  refine(zS (I.ok.hd hc) it x t).item i s _ _ hg st λv h' tk hv eg kk=>?_;obtain⟨c,t',HY,rfl⟩:=hv;have I1:Inv X pins σ H { s with heap:=h',toks:=tk }:=I.turned (λb o hb e=>kk b o (by simpa using hb) e) f0 f1 f3 f4 f5
  exact⟨_,rfl,HW ⟨.str ⟨#[c]⟩,H,I1,⟨t',rfl⟩,⟨rfl,c,HY,rfl⟩,eg,λb hb=>(hf b hb).1⟩⟩
 done:=by
  intro X hP hw hK hc i pins s σ H E I hf st hg;subst hP hw hK;obtain⟨f0,f1,f2,f3,f4,f5⟩:=hf it (by simp)
  have hg:i=x.cps.size:=hg;subst hg;exact(zS (I.ok.hd hc) it x t).done s _ _ st λh' tk kk=>⟨rfl,I.turned (λb o hb e=>kk b o (by simpa using hb) e) f0 f1 f3 f4 f5⟩
 self:=λA i s Q E st hQ=>by
  rcases zR x with e | e <;> rw[e] at st
  ·exact wpAny_pyIter_striter_ascii st hQ
  ·exact wpAny_pyIter_striter_wide st hQ
variable{tg:Expr}
noncomputable def zT(tl:TE):TI:=λσ H R=>tl σ H λx H1=>∃z,x = .str z/\R (zQ z) H1
theorem HZ{l:Expr}{tl:TE}(hl:PE X l tl):PI X tg l (zT tl):=by
 intro pins s σ H R I h;refine aK (hl pins s σ H _ I h) λv s1 ⟨x,H1,I1,r1,q1⟩=>?_;obtain⟨z,e,q⟩:=q1;subst e;obtain⟨t,rfl⟩:=r1;refine wpAny_pyIter_strU ?_;refine⟨s1.heap.objs.size,[s1.heap.objs.size],_,_,H1,rfl,I1.kept (t':=s1.toks) λb o e=>Heap.get?_push_of_some _ e,HX _ z t,⟨_,Heap.get?_push_size _ rfl,rfl,rfl⟩,λb hb=>?_,q⟩;have e:b=s1.heap.objs.size:=by simpa using hb
 subst e;exact I1.iM (Nat.le_refl _) (I1.aJ.fresh (Nat.le_refl _))
theorem H_{H:Hp}{σ:St}{g:TG}{tt:TT}{te tl:TE}{nt:Nat}{fv:List Nat}{Q:VK}(z:Str)(Pv:Addr->Nat->List V->St->Hp->Prop)(cX:∀Q:VK,Q (.str z) H->tl σ H Q)
  (h0:∀D,H D=none->Pv D 0 [] (fO σ nt fv) (upd H D (.lst []))) (hD:∀D i ys σ H,Pv D i ys σ H->H D=some (.lst ys)/\ys.length<sizeLine)
  (hs:∀D i c ys aq H2 (N:List V->St->Hp->Prop),(∀ys σ H,Pv D (i+1) ys σ H->N ys σ H)->z.cps[i]? = some c->Pv D i ys aq H2->g (.str ⟨#[c]⟩) aq H2 λbA H4=>tt bA H4 λb H5=>if b=true then te bA H5 λv H6=>H6 D=some (.lst ys)/\N (ys++[v]) bA (upd H6 D (.lst (ys++[v]))) else N ys bA H5)
  (hd:∀D ys aq H2,Pv D z.cps.size ys aq H2->Q (.ref D) H2):eX (zT tl) g tt te nt fv σ H Q:=by
 refine cX _ ⟨z,rfl,λD iu=>?_⟩;refine⟨λi m ys aq H2=>m=z.cps.size - i/\i<=z.cps.size/\Pv D i ys aq H2,⟨_,rfl,Nat.zero_le _,h0 D iu⟩,?_⟩;rintro i m ys aq H2 ⟨rfl,eZ,p⟩;obtain⟨d1,d2⟩:=hD D i ys aq H2 p;refine⟨d1,d2,?_⟩;by_cases bD:i<z.cps.size
 ·refine .inr ⟨bD,λx H3 y=>?_⟩;obtain⟨e1,c,e2,e3⟩:=y;subst e1;subst e3;exact hs D i c ys aq H3 (λsF aG H'=>∃m',m' < z.cps.size - i/\m' = z.cps.size - (i+1)/\i+1<=z.cps.size/\Pv D (i+1) sF aG H') (λys σ H p=>⟨_,by lia,rfl,by lia,p⟩) e2 p
 ·have:i=z.cps.size:=by lia
  subst this;exact .inl ⟨rfl,hd D ys aq H2 p⟩
noncomputable def sG(x:Str):Value->Bool
 | .str z _=>z == x
 | _=>false
noncomputable def Ia:V->List V->Hp->VK->Prop:=λo vs H Q=>∃(l:Addr) (ys:List Str) (x:Str) (j:Nat),o = .ref l/\vs = [.str x]/\H l=some (.lst (ys.map V.str))/\ys[j]? = some x/\(∀m,m<j->ys[m]?≠some x)/\Q (.int j) H
theorem Ib:lR X "list.index" Ia:=by
 rintro pins s σ H o vs v us Q I rx rv ⟨l,ys,x,j,rfl,rfl,hH,hj,hm,q⟩;cases rx;obtain⟨u,rfl,ru⟩:=rv.one;obtain⟨t,rfl⟩:=ru;obtain⟨z,ao,n,r,hl,e⟩:=I.iU hH;have sa:=sD r;have at_:∀(k:Nat) (hk:k<ao.length),∃y t,ao[k] = .str y t/\ys[k]? = some y:=λk hk=>by
  have e_:k<(ys.map V.str).length:=by rw[hl];exact hk
  obtain⟨u,hu,ru⟩:=r.get (List.getElem?_eq_getElem e_);rw[List.getElem?_eq_getElem hk] at hu;cases hu;rw[List.getElem_map] at ru;obtain⟨t,e⟩:=ru;exact⟨_,t,e,List.getElem?_eq_getElem (by simpa using e_)⟩
 have zU:j<ao.length:=by
  have:=(List.getElem?_eq_some_iff.mp hj).1;rw[← hl,List.length_map];exact this
 have hz:ao.length<=sizeLine:=by rw[← hl];exact z
 rw[sizeLine_eq] at hz;refine call_meets F.slot_list_index ⟨_,e,rfl⟩ F.entry_list_index (F.args_list_index_2 _ _) (SeqAt.list_indexAt l ao.toArray n none #[] (.str x t) (sG x) j (by simpa using zU) (by lia) ?_ λm dw Ic=>?_) ⟨e,λy hy=>?_,⟨.int j,H,I.tok _,⟨_,rfl⟩,q⟩⟩
 ·obtain⟨y,t',e1,e2⟩:=at_ j zU;rw[hj] at e2;cases e2;rw[List.getElem_toArray,e1];simp[sG]
 ·obtain⟨y,t',e1,e2⟩:=at_ m (by simpa using dw)
  rw[List.getElem_toArray,e1];have:=hm m Ic;rw[e2] at this;simp only[sG,beq_eq_false_iff_ne];intro z;exact this (by rw[z])
 ·have Ie:y∈ao:=by simpa using hy
  obtain⟨k,hk,rfl⟩:=List.mem_iff_getElem.mp Ie;obtain⟨y,t',e1,e2⟩:=at_ k hk;rw[e1];exact SeqAt.EqAt.str_str y t' x t
noncomputable def j_(w1 w2:TI):TI:=λσ H R=>w1 σ H R\/w2 σ H R
theorem zW{l:Expr}{w1 w2:TI}(h1:PI X tg l w1)(h2:PI X tg l w2):PI X tg l (j_ w1 w2):=λpins s σ H R I h=>h.elim (h1 pins s σ H R I) (h2 pins s σ H R I)
theorem Ig{w1 w2:TI}{g:TG}{tb:TS}{D:Ends}{σ:St}{H:Hp}(h:eo w1 g tb D σ H):eo (j_ w1 w2) g tb D σ H:=Or.inl h
theorem Ih{w1 w2:TI}{g:TG}{tb:TS}{D:Ends}{σ:St}{H:Hp}(h:eo w2 g tb D σ H):eo (j_ w1 w2) g tb D σ H:=Or.inr h
theorem Ii{w1 w2:TI}{g:TG}{tt:TT}{te:TE}{nt:Nat}{fv:List Nat}{σ:St}{H:Hp}{Q:VK}(h:eX w1 g tt te nt fv σ H Q):eX (j_ w1 w2) g tt te nt fv σ H Q:=Or.inl h
theorem Ij{w1 w2:TI}{g:TG}{tt:TT}{te:TE}{nt:Nat}{fv:List Nat}{σ:St}{H:Hp}{Q:VK}(h:eX w2 g tt te nt fv σ H Q):eX (j_ w1 w2) g tt te nt fv σ H Q:=Or.inr h
end
noncomputable def dg(n:Nat):List Nat:=(Nat.toDigits 10 n).map Char.toNat
theorem zX:∀k:Fin 10,(Nat.digitChar k.val).toNat=48+k.val:=by decide
theorem jg(n:Nat):dg n=if n<10 then [48+n] else dg (n / 10)++[48+n % 10]:=by
 unfold dg;rw[Nat.toDigits_eq_if (by decide)]
 split
 ·rename_i h;have:=zX ⟨n,h⟩;simp only[List.map_cons,List.map_nil];rw[← this]
 ·have:=zX ⟨n % 10,Nat.mod_lt _ (by decide)⟩
  simp only[List.map_append,List.map_cons,List.map_nil];rw[← this]
theorem zY(n:Nat):NumText.AllDigits (dg n):=by
 induction n using Nat.strongRecOn with
 | _ n ih =>
  rw[jg];split
  ·intro c hc;rw[List.mem_singleton.mp hc];lia
  ·intro c hc;rcases List.mem_append.mp hc with h | h
   ·exact ih (n / 10) (by lia) c h
   ·rw[List.mem_singleton.mp h];lia
theorem Ik(n:Nat):NumText.digitsVal (dg n)=n:=by
 induction n using Nat.strongRecOn with
 | _ n ih =>
  rw[jg];split
  ·simp[NumText.digitsVal]
  ·rw[NumText.digitsVal_snoc,ih (n / 10) (by lia)];lia
theorem Il(n:Nat):dg n≠[]:=by
 rw[jg];split <;> simp
theorem Im(n:Nat)(h:0<n):∃c r,dg n=c::r/\49<=c:=by
 induction n using Nat.strongRecOn with
 | _ n ih =>
  rw[jg];split
  ·exact⟨_,_,rfl,by lia⟩
  ·obtain⟨c,r,e,hc⟩:=ih (n / 10) (by lia) (by lia)
   exact⟨c,r++[48+n % 10],by rw[e];rfl,hc⟩
theorem Io(k:Nat):∀n:Nat,n<10 ^ (k+1)->(dg n).length<=k+1:=by
 induction k with
 | zero =>
  intro n h;rw[jg,if_pos (by lia)];simp
 | succ k ih =>
  intro n h;rw[jg];split
  ·simp
  ·have:=ih (n / 10) (by rw[Nat.pow_succ] at h;lia)
   simp only[List.length_append,List.length_cons,List.length_nil];lia
noncomputable def tx(n:Int):Str:=Str.ofString (toString n)
theorem kg{n:Int}(h:0<=n):(tx n).cps.toList=dg n.toNat:=by
 obtain⟨m,rfl⟩:=Int.eq_ofNat_of_zero_le h;have:tx (m:Int) = { cps:=(dg m).toArray }:=text_ofNat m;rw[this];simp
noncomputable def isNum(w:Str):Bool:=decide (1<=w.length) && decide (w.length<=15) && !(decide (w.cps[0]? = some 48) && decide (w≠(Str.ofString "0"))) && w.cps.toList.all λc=>decide (48<=c/\c<=57)
noncomputable def nv(w:Str):Int:=(NumText.digitsVal w.cps.toList:Int)
theorem zZ(w:Str):w.length=w.cps.toList.length:=by rw[Array.length_toList];rfl
theorem sH{n:Int}(h:0<=n)(h2:n<1000000000000000):1<=(tx n).length/\(tx n).length<=15:=by
 rw[zZ,kg h];have:=Io 14 n.toNat (by lia)
 have:=List.length_pos_iff.mpr (Il n.toNat);lia
theorem fT{n:Int}(h:0<=n)(h2:n<1000000000000000):isNum (tx n)=true:=by
 obtain⟨l1,l2⟩:=sH h h2;unfold isNum;have a:((tx n).cps.toList.all λc=>decide (48<=c/\c<=57))=true:=by
  rw[kg h,List.all_eq_true];intro c hc;exact decide_eq_true (zY _ c hc)
 rw[a,decide_eq_true l1,decide_eq_true l2];simp only[Bool.and_true,Bool.true_and,Bool.not_eq_true',Bool.and_eq_false_iff,decide_eq_false_iff_not];by_cases h0:n=0
 ·right;rw[h0];intro z;exact z (by decide)
 ·left;obtain⟨c,r,e,hc⟩:=Im n.toNat (by lia)
  rw[← Array.getElem?_toList,kg h,e];simp;lia
theorem Ip{w:Str}(h:isNum w=true):intText? w=some (nv w)/\w.length<=15:=by
 unfold isNum at h;simp only[Bool.and_eq_true,decide_eq_true_eq,List.all_eq_true] at h;obtain⟨⟨⟨l1,l2⟩,_⟩,a⟩:=h;refine⟨intText_digits (λc hc=>a c hc) ?_ (by lia),l2⟩
 intro z;rw[zZ,z] at l1;simp at l1
theorem gi{n:Int}(h:0<=n):nv (tx n)=n:=by
 unfold nv;rw[kg h,Ik];lia
theorem Iq{n:Int}(h:0<=n):32∉(tx n).cps.toList:=by
 rw[kg h];intro z;have:=zY _ _ z;lia
noncomputable def blank:Str:=Str.ofString " "
theorem sI:blank.cps.toList = [32]:=by decide
noncomputable def jh(ws:List Str):Prop:=∀w∈ws,32∉w.cps.toList
theorem kh(x y:Str):(x++y).cps.toList=x.cps.toList++y.cps.toList:=Array.toList_append
theorem z0:∀ {a b x y:List Nat},32∉a->32∉b->a++32::x=b++32::y->a=b/\x=y
 | [],[],x,y,_,_,h=>⟨rfl,by simpa using h⟩
 | [],c::b,x,y,_,hb,h=>by
  simp at h;exact absurd (by rw[← h.1];simp) hb
 | c::a,[],x,y,ha,_,h=>by
  simp at h;exact absurd (by rw[h.1];simp) ha
 | c::a,d::b,x,y,ha,hb,h=>by
  simp at h ha hb;obtain⟨e1,e2⟩:=z0 (a:=a) (b:=b) ha.2 hb.2 h.2;exact⟨by rw[h.1,e1],e2⟩
theorem z3{x y:Str}(h:x.cps.toList=y.cps.toList):x=y:=by
 cases x;cases y;simp at h;rw[h]
theorem z4:∀ {vs ws:List Str},vs≠[]->ws≠[]->jh vs->jh ws->blank.join vs=blank.join ws->vs=ws
 | [],_,h,_,_,_,_=>absurd rfl h
 | _,[],_,h,_,_,_=>absurd rfl h
 | [v],[w],_,_,_,_,e=>by rw[join_one,join_one] at e;rw[e]
 | [v],w::w2::r,_,_,hv,_,e=>by
  rw[join_one,join_cons_cons] at e;refine absurd ?_ (hv v (by simp))
  rw[e,kh,kh,sI];simp
 | v::v2::r,[w],_,_,_,hw,e=>by
  rw[join_one,join_cons_cons] at e;refine absurd ?_ (hw w (by simp))
  rw[← e,kh,kh,sI];simp
 | v::v2::r,w::w2::r2,_,_,hv,hw,e=>by
  rw[join_cons_cons,join_cons_cons] at e;have e2:=congrArg (λ(z:Str)=>z.cps.toList) e;simp only[kh,sI,List.append_assoc,List.singleton_append] at e2;obtain⟨e3,e4⟩:=z0 (hv v (by simp)) (hw w (by simp)) e2
  have ih:=z4 (vs:=v2::r) (ws:=w2::r2) (by simp) (by simp) (λx hx=>hv x (List.mem_cons_of_mem _ hx)) (λx hx=>hw x (List.mem_cons_of_mem _ hx)) (z3 e4)
  rw[z3 e3,ih]
theorem join_eq(ws:List Str):Txt.join blank ws=blank.join ws:=StrLaws.glued_eq_join blank ws
theorem sJ{ws:List Str}(h:ws≠[])(hf:jh ws):Txt.split (Txt.join blank ws) blank=ws:=by
 have e:blank=⟨#[32]⟩:=by decide
 have e1:=StrLaws.join_split (Txt.join blank ws) blank;have e2:jh (Txt.split (Txt.join blank ws) blank):=λp hp=>StrLaws.split_free (Txt.join blank ws) 32 p (by rw[← e];exact hp)
 have e3:=split_pos (Txt.join blank ws) blank;exact z4 (λz=>by rw[z] at e3;simp at e3) h e2 hf (by rw[e1,join_eq])
structure bI(C:Addr)(H:Hp)(p dx l:Addr)(ws:List Str)(k:Nat):Prop where
 o:H p=some (.ins C dx [("words",.ref l),("passed",.int (k:Int))])
 w:H l=some (.lst (ws.map V.str))
noncomputable def cD(ws:List Str)(k:Nat):V:=match ws[k]? with
 | some w=>.str w
 | none=>.aB
noncomputable def d9(ws:List Str)(k:Nat):Bool:=match ws[k]? with
 | some w=>isNum w
 | none=>false
noncomputable def Short(ws:List Str):Prop:=ws.length<=200/\∀w∈ws,w.length<=1000
noncomputable def Ir:Sp:=λvs H Q _=>∃(w:Str),vs = [.str w]/\w.length<=1000/\∀H',ah H H'->Q (.bl (isNum w)) H'
noncomputable def Iu(C:Addr):Sp:=λvs H Q _=>∃(p dx:Addr) (ws:List Str),vs = [.ref p,.str (Txt.join blank ws)]/\H p=some (.ins C dx [])/\ws≠[]/\jh ws/\Short ws/\∀l H',SameBut p H H'->H l=none->bI C H' p dx l ws 0->Q .aB H'
noncomputable def Iv(K:PySem.W.Frag)(C:Addr):Sp:=λvs H Q _=>∃(p dx l:Addr) (ws:List Str) (k:Nat),vs = [.ref p]/\bI C H p dx l ws k/\Q (cD ws k) H
noncomputable def Iw(K:PySem.W.Frag)(C:Addr):Sp:=λvs H Q _=>∃(p dx l:Addr) (ws:List Str) (k:Nat),vs = [.ref p]/\bI C H p dx l ws k/\Short ws/\∀H',ah H H'->Q (.bl (d9 ws k)) H'
noncomputable def Iz(K:PySem.W.Frag)(C:Addr):Sp:=λvs H Q _=>∃(p dx l:Addr) (ws:List Str) (k:Nat) (w:Str),vs = [.ref p,.str w]/\bI C H p dx l ws k/\ws[k]? = some w/\∀H',SameBut p H H'->bI C H' p dx l ws (k+1)->Q .aB H'
noncomputable def IA(K:PySem.W.Frag)(C:Addr):Sp:=λvs H Q _=>∃(p dx l:Addr) (ws:List Str) (k:Nat) (w:Str),vs = [.ref p]/\bI C H p dx l ws k/\Short ws/\ws[k]? = some w/\isNum w=true/\∀H',SameBut p H H'->bI C H' p dx l ws (k+1)->Q (.int (nv w)) H'
noncomputable def IB(K:PySem.W.Frag)(C:Addr):Sp:=λvs H Q _=>∃(p dx l:Addr) (ws:List Str) (k n:Nat),vs = [.ref p]/\bI C H p dx l ws k/\Short ws/\1<=n/\k+n<=ws.length/\(∀i,i<n->d9 ws (k+i)=true)/\d9 ws (k+n)=false/\
 ∀r H',SameBut p H H'->H r=none->bI C H' p dx l ws (k+n)->H' r=some (.lst ((((ws.drop k).take n).map nv).map V.int))->Q (.ref r) H'
noncomputable def IC(K:PySem.W.Frag)(C:Addr):Sp:=λvs H Q _=>∃(p dx l:Addr) (ws:List Str) (k:Nat) (w x:Str),vs = [.ref p,.str w]/\bI C H p dx l ws k/\Short ws/\ws[k]? = some w/\ws[k+1]? = some x/\isNum x=true/\∀H',SameBut p H H'->bI C H' p dx l ws (k+2)->Q (.int (nv x)) H'
noncomputable def ID(K:PySem.W.Frag)(C:Addr):Sp:=λvs H Q _=>∃(p dx l:Addr) (ws:List Str),vs = [.ref p]/\bI C H p dx l ws ws.length/\Q .aB H
noncomputable def bN(fo la:Option Int)(bh:List Int):List Str :=
 (match fo with | some a=>[(Str.ofString "for"),tx a] | none=>[])++((match la with | some a=>[(Str.ofString "by"),tx a] | none=>[])++(if bh = [] then [] else(Str.ofString "behind")::bh.map tx))
noncomputable def Nm(n:Int):Prop:=0<=n/\n<1000000000000000
noncomputable def IE(K:PySem.W.Frag)(C:Addr):Sp:=λvs H Q _=>∃(p dx l:Addr) (ws:List Str) (k:Nat) (fo la:Option Int) (bh:List Int),vs = [.ref p]/\bI C H p dx l ws k/\Short ws/\k<=ws.length/\ws.drop k=bN fo la bh/\(∀a,fo=some a->Nm a)/\(∀a,la=some a->Nm a)/\(∀a∈bh,Nm a)/\
 ∀t bv H',SameBut p H H'->(∃o,H' p=some o)->H' t=some (.tup [.int (fo.getD 0),b6 la,bv])->i7 K H' bv bh->Q (.ref t) H'
theorem IF{w:Str}(h:w.length<1):isNum w=false:=by
 unfold isNum;rw[decide_eq_false (by lia)];rfl
theorem IG{w:Str}(h:15<w.length):isNum w=false:=by
 unfold isNum;rw[decide_eq_false (p:=w.length<=15) (by lia),Bool.and_false];rfl
theorem II{c:Nat}(h:(⟨#[c]⟩:Str)=Str.ofString "0"):c=48:=by
 have e:Str.ofString "0" = ⟨#[48]⟩:=by decide
 rw[e] at h;simpa using h
theorem IJ{c:Nat}(h:c=48):(⟨#[c]⟩:Str)=Str.ofString "0" := by
 rw[h];decide
theorem IK{w:Str}(h:w.cps[0]? = some 48)(h2:¬ w=Str.ofString "0"):isNum w=false:=by
 unfold isNum;rw[decide_eq_true h,decide_eq_true (p:=w≠Str.ofString "0") h2];simp
theorem IL{w:Str}(h1:1<=w.length)(h2:w.length<=15)(h3:w.cps[0]? = some 48->w=Str.ofString "0"):isNum w=w.cps.toList.all (id ∘ λc=>decide (48<=c/\c<=57)):=by
 unfold isNum;rw[decide_eq_true h1,decide_eq_true h2];have:(decide (w.cps[0]? = some 48) && decide (w≠Str.ofString "0"))=false:=by
  by_cases e:w.cps[0]? = some 48
  ·rw[decide_eq_false (p:=w≠Str.ofString "0") (λz=>z (h3 e)),Bool.and_false]
  ·rw[decide_eq_false e,Bool.false_and]
 rw[this]
 rfl
theorem IM(c:Nat):decide (c∈(Str.ofString "0123456789").cps.toList)=decide (48<=c/\c<=57):=by
 have e:(Str.ofString "0123456789").cps.toList = [48,49,50,51,52,53,54,55,56,57]:=by decide
 rw[e];congr 1;simp only[List.mem_cons,List.not_mem_nil,or_false];apply propext
 omega -- keep
theorem Short.join{ws:List Str}(h:Short ws):(Txt.join blank ws).length<=300000:=by
 have e:=StrLaws.join_length_le blank ws;rw[← join_eq] at e;have s:∀l:List Str,(∀w∈l,w.length<=1000)->(l.map (λx=>x.length)).sum<=1000*l.length:=by
  intro l
  induction l with
  | nil=>intro _;simp
  | cons a l ih =>
   intro h;have h1:=ih λw hw=>h w (List.mem_cons_of_mem _ hw);have h2:=h a (by simp)
   rw[List.map_cons,List.sum_cons,List.length_cons];lia
 have s1:=s ws h.2;have b:blank.length=1:=by decide
 have h1:=h.1;rw[b] at e;lia
theorem bI.ne{C:Addr}{H:Hp}{p dx l:Addr}{ws:List Str}{k:Nat}(h:bI C H p dx l ws k):l≠p:=λz=>by
 have:=h.w;rw[z,h.o] at this;cases this
theorem bI.put{C:Addr}{H:Hp}{p dx l:Addr}{ws:List Str}{k:Nat}(h:bI C H p dx l ws k){v:Int}{k':Nat}(e:v=(k':Int)):bI C (upd H p (.ins C dx [("words",.ref l),("passed",.int v)])) p dx l ws k':=⟨by rw[aA,e],by rw[bC h.ne];exact h.w⟩
theorem bI.same{C:Addr}{H H':Hp}{p dx l:Addr}{ws:List Str}{k:Nat}(h:bI C H p dx l ws k)(s:ah H H'):bI C H' p dx l ws k:=⟨s _ _ h.o,s _ _ h.w⟩
theorem SameBut.tr{H H1 H2:Hp}{x:Addr}(a:SameBut x H H1)(b:SameBut x H1 H2):SameBut x H H2:=λc o e h=>b c o (a c o e h) h
theorem SameBut.back{H H1:Hp}{x r:Addr}(a:SameBut x H H1)(n:H1 r=none)(h:∃o,H1 x=some o):H r=none:=by
 cases e:H r with
 | none=>rfl
 | some o =>
  by_cases z:r=x
  ·obtain⟨o',h'⟩:=h;rw[z,h'] at n;cases n
  ·rw[a _ _ e z] at n;cases n
theorem sM{ws:List Str}{k:Nat}{w:Str}(h:ws[k]? = some w):cD ws k = .str w:=by unfold cD;rw[h]
theorem z5{ws:List Str}{k:Nat}(h:ws.length<=k):cD ws k = .aB:=by unfold cD;rw[List.getElem?_eq_none h]
theorem sN{ws:List Str}{k:Nat}{w:Str}(h:ws[k]? = some w):d9 ws k=isNum w:=by unfold d9;rw[h]
theorem z6{ws:List Str}{k:Nat}(h:d9 ws k=true):∃w,ws[k]? = some w/\isNum w=true:=by
 unfold d9 at h;cases e:ws[k]? with
 | none=>rw[e] at h;cases h
 | some w=>rw[e] at h;exact⟨w,rfl,h⟩
theorem sO(ws:List Str)(k:Nat):cD ws k=cD (ws.drop k) 0:=by
 unfold cD;rw[List.getElem?_drop,Nat.add_zero]
theorem sP(ws:List Str)(k i:Nat):d9 ws (k+i)=d9 (ws.drop k) i:=by
 unfold d9;rw[List.getElem?_drop]
theorem ki{ws r:List Str}{k:Nat}{x:Str}(h:ws.drop k=x::r):ws[k]? = some x/\ws.drop (k+1)=r/\k+1<=ws.length:=by
 have e:(ws.drop k)[0]? = some x:=by rw[h];rfl
 rw[List.getElem?_drop,Nat.add_zero] at e;refine⟨e,?_,(List.getElem?_eq_some_iff.mp e).1⟩;have:ws.drop (k+1)=(ws.drop k).drop 1:=by rw[List.drop_drop]
 rw[this,h];rfl
theorem mO(ws:List Str)(k:Nat)(w:Str):eT (cD ws k) (.str w)=true:=by
 unfold cD;cases ws[k]? <;> rfl
theorem z7{bh:List Int}(h:∀a∈bh,Nm a):(bh.map tx).map nv=bh:=by
 rw[List.map_map]
 conv=>rhs;rw[← List.map_id bh]
 exact List.map_congr_left λa ha=>gi (h a ha).1
theorem z8{bh:List Int}(h:∀a∈bh,Nm a){r:List Str}{i:Nat}(hi:i<bh.length):d9 (bh.map tx++r) i=true:=by
 have e:(bh.map tx++r)[i]? = some (tx bh[i]):=by
  rw[List.getElem?_append_left (by simpa using hi),List.getElem?_map,List.getElem?_eq_getElem hi];rfl
 rw[sN e];have:=h _ (List.getElem_mem hi);exact fT this.1 this.2
noncomputable def kw(q:Ak):Str:=if q.early=true then Str.ofString "early" else q.kind
noncomputable def bV(q:Ak):List Str:=if q.kind=Str.ofString "rest" then [] else if q.kind=Str.ofString "read" then [tx q.first,tx q.many] else tx q.first::q.marks.map tx
noncomputable def aW(q:Ak)(fo:Option Int):List Str:=kw q::(bV q++(Str.ofString "at" :: tx q.at_::bN fo q.e8 q.behind))
inductive cg:Ak->Prop
 | rd (f m a s:Int) (l:Option Int) (ns:List Int):gf f m a s l->d7 ns->ns.length<=100->cg ⟨Str.ofString "read",f,m,[],a,s,l,ns,false⟩
 | wr (f a s:Int) (ms:List Int) (l:Option Int) (ns:List Int) (e:Bool):gf f ms.length a s l->(∀x∈ms,0<=x/\x<=1000000000)->d7 ns->ns.length<=100->cg ⟨Str.ofString "write",f,ms.length,ms,a,s,l,ns,e⟩
 | rs (a:Int):0<=a->a<=1000000000000->cg ⟨Str.ofString "rest",0,0,[],a,0,none,[],false⟩
noncomputable def gj(q:Ak)(fo:Option Int):Prop:=fo.getD 0=q.cC
noncomputable def IP(K:PySem.W.Frag)(CW CA:Addr):Sp:=λvs H Q _=>∃(p dx l:Addr) (f m a s:Int) (la:Option Int) (ns:List Int) (fo:Option Int),vs = [.ref p]/\bI CW H p dx l (aW ⟨Str.ofString "read",f,m,[],a,s,la,ns,false⟩ fo) 0/\Short (aW ⟨Str.ofString "read",f,m,[],a,s,la,ns,false⟩ fo)/\gf f m a s la/\d7 ns/\fo.getD 0=s/\
 ∀r mk b cy H',SameBut p H H'->H r=none->cU K CA H' r ⟨Str.ofString "read",f,m,[],a,s,la,ns,false⟩ mk b cy->Q (.ref r) H'
noncomputable def IQ(K:PySem.W.Frag)(CW CA:Addr):Sp:=λvs H Q _=>∃(p dx l:Addr) (f a s:Int) (ms:List Int) (la:Option Int) (ns:List Int) (e:Bool) (fo:Option Int),vs = [.ref p,.bl e]/\bI CW H p dx l (aW ⟨Str.ofString "write",f,ms.length,ms,a,s,la,ns,e⟩ fo) 0/\Short (aW ⟨Str.ofString "write",f,ms.length,ms,a,s,la,ns,e⟩ fo)/\gf f ms.length a s la/\(∀x∈ms,0<=x/\x<=1000000000)/\d7 ns/\fo.getD 0=s/\
 ∀r mk b cy H',SameBut p H H'->H r=none->cU K CA H' r ⟨Str.ofString "write",f,ms.length,ms,a,s,la,ns,e⟩ mk b cy->Q (.ref r) H'
noncomputable def IS(K:PySem.W.Frag)(CW CA:Addr):Sp:=λvs H Q _=>∃(p dx l:Addr) (a:Int),vs = [.ref p]/\bI CW H p dx l [Str.ofString "rest",Str.ofString "at",tx a] 0/\0<=a/\a<=1000000000000/\
 ∀r mk b cy H',SameBut p H H'->H r=none->cU K CA H' r ⟨Str.ofString "rest",0,0,[],a,0,none,[],false⟩ mk b cy->Q (.ref r) H'
noncomputable def IT(K:PySem.W.Frag)(CA:Addr):Sp:=λvs H Q _=>∃(q:Ak) (fo:Option Int),vs = [.str (Txt.join blank (aW q fo))]/\cg q/\gj q fo/\(q.kind=Str.ofString "rest"->fo=none)/\∀r mk b cy H',ah H H'->H r=none->cU K CA H' r q mk b cy->Q (.ref r) H'
theorem gf.nm{f m a s:Int}{l:Option Int}(h:gf f m a s l):Nm f/\Nm m/\Nm a/\Nm s/\∀x,l=some x->Nm x:=by
 have h1:=h.f0;have h2:=h.f1;have h3:=h.m0;have h4:=h.m1;have h5:=h.a0;have h6:=h.a1;have h7:=h.s0;have h8:=h.s1;refine⟨⟨h1,by lia⟩,⟨by lia,by lia⟩,⟨h5,by lia⟩,⟨h7,by lia⟩,λx e=>?_⟩
 have:=h.l x e;exact⟨this.1,by lia⟩
theorem d7.nm{ns:List Int}(h:d7 ns):∀a∈ns,Nm a:=λa ha=>by
 have:=h.lo a ha;have:=h.hi a ha;exact⟨by lia,by lia⟩
noncomputable def IU(K:PySem.W.Frag)(C:Addr):Sp:=λvs H Q _=>∃(f a s:Int) (ma:Addr) (ms:List Int) (l:Option Int) (bv:V) (ns:List Int) (e:Bool),vs = [.int f,.ref ma,.int a,.int s,b6 l,bv,.bl e]/\(au K H ma (ms.map V.int)\/H ma=some (.tup (ms.map V.int)))/\(∀x∈ms,0<=x/\x<=1000000000)/\
 gf f ms.length a s l/\i7 K H bv ns/\d7 ns/\∀p mk b dx H',ah H H'->H p=none->cU K C H' p ⟨"write",f,ms.length,ms,a,s,l,ns,e⟩ mk b dx->Q (.ref p) H'
theorem sQ(f m a s:Int)(la:Option Int)(ns:List Int)(fo:Option Int):aW ⟨Str.ofString "read",f,m,[],a,s,la,ns,false⟩ fo=Str.ofString "read" :: tx f::tx m::Str.ofString "at" :: tx a::bN fo la ns:=by
 unfold aW kw bV;dsimp only;rw[if_neg (by decide),if_neg (by decide),if_pos rfl];rfl
theorem sR(f a s:Int)(ms:List Int)(la:Option Int)(ns:List Int)(e:Bool)(fo:Option Int):aW ⟨Str.ofString "write",f,ms.length,ms,a,s,la,ns,e⟩ fo=(if e=true then Str.ofString "early" else Str.ofString "write")::tx f::(ms.map tx++(Str.ofString "at" :: tx a::bN fo la ns)):=by
 unfold aW kw bV;dsimp only;rw[if_neg (c:=Str.ofString "write" = Str.ofString "rest") (by decide),if_neg (c:=Str.ofString "write" = Str.ofString "read") (by decide)];rfl
theorem z9(a:Int):aW ⟨Str.ofString "rest",0,0,[],a,0,none,[],false⟩ none = [Str.ofString "rest",Str.ofString "at",tx a]:=by
 unfold aW kw bV;dsimp only;rw[if_neg (by decide),if_pos rfl];rfl
theorem IV{a:Int}(h:0<=a)(h1:a<=1000000000000):Short [Str.ofString "rest",Str.ofString "at",tx a]:=by
 refine⟨by simp,λw hw=>?_⟩
 have:=sH h (by lia)
 simp only[List.mem_cons,List.not_mem_nil,or_false] at hw;rcases hw with rfl | rfl | rfl
 ·decide
 ·decide
 ·lia
theorem z_:isNum (Str.ofString "at")=false:=by decide
noncomputable def jL:List Str:=[Str.ofString "read",Str.ofString "write",Str.ofString "early",Str.ofString "rest",Str.ofString "at",Str.ofString "for",Str.ofString "by",Str.ofString "behind"]
noncomputable def mQ(w:Str):Prop:=(∃n,Nm n/\w=tx n)\/w∈jL
theorem mQ.ok{w:Str}(h:mQ w):32∉w.cps.toList/\w.length<=15:=by
 rcases h with⟨n,hn,rfl⟩ | h
 ·exact⟨Iq hn.1,(sH hn.1 hn.2).2⟩
 ·have:(jL.all λw=>decide (32∉w.cps.toList) && decide (w.length<=15))=true:=by decide
  have:=List.all_eq_true.mp this w h;simpa using this
theorem sS{fo la:Option Int}{bh:List Int}(h1:∀a,fo=some a->Nm a)(h2:∀a,la=some a->Nm a)(h3:∀a∈bh,Nm a):∀w∈bN fo la bh,mQ w:=by
 intro w hw;unfold bN at hw;rcases List.mem_append.mp hw with hw | hw
 ·cases fo with
  | none=>simp at hw
  | some a =>
   simp only[List.mem_cons,List.not_mem_nil,or_false] at hw;rcases hw with rfl | rfl
   ·exact .inr (by decide)
   ·exact .inl ⟨a,h1 a rfl,rfl⟩
 rcases List.mem_append.mp hw with hw | hw
 ·cases la with
  | none=>simp at hw
  | some a =>
   simp only[List.mem_cons,List.not_mem_nil,or_false] at hw;rcases hw with rfl | rfl
   ·exact .inr (by decide)
   ·exact .inl ⟨a,h2 a rfl,rfl⟩
 ·split at hw
  ·simp at hw
  ·rcases List.mem_cons.mp hw with rfl | hw
   ·exact .inr (by decide)
   ·obtain⟨a,ha,rfl⟩:=List.mem_map.mp hw;exact .inl ⟨a,h3 a ha,rfl⟩
theorem sU(fo la:Option Int)(bh:List Int):(bN fo la bh).length<=5+bh.length:=by
 unfold bN;cases fo <;> cases la <;> by_cases h:bh = [] <;> simp[h] <;> lia
theorem sV{q:Ak}{fo:Option Int}(ok:cg q)(bJ:gj q fo):(∀w∈aW q fo,mQ w)/\(aW q fo).length<=200:=by
 unfold gj at bJ;cases ok with
 | rd f m a s l ns hB hR hl =>
  obtain⟨n1,n2,n3,n4,n5⟩:=hB.nm;have hf:∀x,fo=some x->Nm x:=λx e=>by rw[e] at bJ;have:x=s:=bJ;rw[this];exact n4
  rw[sQ];have:=sU fo l ns;refine⟨λw hw=>?_,by simp;lia⟩
  simp only[List.mem_cons] at hw;rcases hw with rfl | rfl | rfl | rfl | rfl | hw
  ·exact .inr (by decide)
  ·exact .inl ⟨_,n1,rfl⟩
  ·exact .inl ⟨_,n2,rfl⟩
  ·exact .inr (by decide)
  ·exact .inl ⟨_,n3,rfl⟩
  ·exact sS hf n5 hR.nm w hw
 | wr f a s ms l ns e hB bQ hR hl =>
  obtain⟨n1,n2,n3,n4,n5⟩:=hB.nm;have hf:∀x,fo=some x->Nm x:=λx e=>by rw[e] at bJ;have:x=s:=bJ;rw[this];exact n4
  rw[sR];have:=sU fo l ns;have IW:=hB.m1;refine⟨λw hw=>?_,by simp;lia⟩
  simp only[List.mem_cons,List.mem_append] at hw;rcases hw with rfl | rfl | hw | rfl | rfl | hw
  ·right;split <;> decide
  ·exact .inl ⟨_,n1,rfl⟩
  ·obtain⟨x,hx,rfl⟩:=List.mem_map.mp hw;have:=bQ x hx;exact .inl ⟨x,⟨this.1,by lia⟩,rfl⟩
  ·exact .inr (by decide)
  ·exact .inl ⟨_,n3,rfl⟩
  ·exact sS hf n5 hR.nm w hw
 | rs a h0 h1 =>
  have hf:∀x,fo=some x->Nm x:=λx e=>by rw[e] at bJ;have:x=0:=bJ;rw[this];exact⟨by decide,by decide⟩
  have el:aW ⟨Str.ofString "rest",0,0,[],a,0,none,[],false⟩ fo=Str.ofString "rest" :: Str.ofString "at" :: tx a::bN fo none []:=by
   unfold aW kw bV;dsimp only;rw[if_neg (by decide),if_pos rfl];rfl
  rw[el];have:=sU fo none [];refine⟨λw hw=>?_,by simp at this ⊢;lia⟩
  simp only[List.mem_cons] at hw;rcases hw with rfl | rfl | rfl | hw
  ·exact .inr (by decide)
  ·exact .inr (by decide)
  ·exact .inl ⟨_,⟨h0,by lia⟩,rfl⟩
  ·exact sS hf (by simp) (by simp) w hw
theorem ji{q:Ak}{fo:Option Int}(ok:cg q)(bJ:gj q fo):Short (aW q fo):=⟨(sV ok bJ).2,λw hw=>by have:=((sV ok bJ).1 w hw).ok.2;lia⟩
theorem Aa{q:Ak}{fo:Option Int}(ok:cg q)(bJ:gj q fo):jh (aW q fo):=λw hw=>((sV ok bJ).1 w hw).ok.1
noncomputable def nums(q:Ak):List Int:=if q.kind=Str.ofString "rest" then [] else if q.kind=Str.ofString "read" then [q.first,q.many] else q.first::q.marks
theorem sW(q:Ak):bV q=(nums q).map tx:=by
 unfold bV nums;split
 ·rfl
 ·split <;> rfl
noncomputable def dD(q:Ak):Option Int:=if q.cC=0 then none else some q.cC
noncomputable def IX(K:PySem.W.Frag):Sp:=λvs H Q _=>∃(a:Addr) (ns:List Int),vs = [.ref a]/\(au K H a (ns.map V.int)\/H a=some (.tup (ns.map V.int)))/\ns.length<=900/\(∀n∈ns,Nm n)/\∀r H',ah H H'->H r=none->H' r=some (.lst ((ns.map tx).map V.str))->Q (.ref r) H'
noncomputable def IY(K:PySem.W.Frag)(C:Addr):Sp:=λvs H Q _=>∃(p:Addr) (q:Ak) (mk b dx:Addr),vs = [.ref p]/\cU K C H p q mk b dx/\Q (.str (kw q)) H
noncomputable def IZ(K:PySem.W.Frag)(C:Addr):Sp:=λvs H Q _=>∃(p:Addr) (q:Ak) (mk b dx:Addr),vs = [.ref p]/\cU K C H p q mk b dx/\q.marks.length<=100/\∀r H',ah H H'->H r=none->H' r=some (.lst ((nums q).map V.int))->Q (.ref r) H'
noncomputable def I0(K:PySem.W.Frag)(C:Addr):Sp:=λvs H Q _=>∃(p:Addr) (q:Ak) (mk b dx:Addr),vs = [.ref p]/\cU K C H p q mk b dx/\cg q/\∀H',ah H H'->Q (.str (Txt.join blank (aW q (dD q)))) H'
section
variable{K:PySem.W.Frag}{H:Hp}{σ:St}{g:TG}{tt:TT}{te tl:TE}{nt:Nat}{fv:List Nat}{Q:VK}
theorem mR(a:Addr)(xs:List V)(Pv:Addr->Nat->List V->St->Hp->Prop)(cX:∀Q:VK,Q (.ref a) H->tl σ H Q)(cY:aC K H a xs)
  (h0:∀D,H D=none->Pv D 0 [] (fO σ nt fv) (upd H D (.lst []))) (hD:∀D i ys σ H,Pv D i ys σ H->H D=some (.lst ys)/\ys.length<sizeLine/\aC K H a xs)
  (hs:∀D i x ys aq H2 (N:List V->St->Hp->Prop),(∀ys σ H,Pv D (i+1) ys σ H->N ys σ H)->xs[i]? = some x->Pv D i ys aq H2->g x aq H2 λbA H4=>tt bA H4 λb H5=>if b=true then te bA H5 λv H6=>H6 D=some (.lst ys)/\N (ys++[v]) bA (upd H6 D (.lst (ys++[v]))) else N ys bA H5)
  (hd:∀D ys aq H2,Pv D xs.length ys aq H2->Q (.ref D) H2):eX (qN K tl) g tt te nt fv σ H Q:=by
 refine cX _ ⟨a,rfl,⟨xs,cY⟩,λD iu=>?_⟩;refine⟨λi m ys aq H2=>m=xs.length - i/\i<=xs.length/\Pv D i ys aq H2,⟨_,rfl,Nat.zero_le _,h0 D iu⟩,?_⟩;rintro i m ys aq H2 ⟨rfl,eZ,p⟩;obtain⟨d1,d2,d3⟩:=hD D i ys aq H2 p;refine⟨d1,d2,?_⟩;by_cases bD:i<xs.length
 ·refine .inr ⟨⟨xs,xs[i],d3,by simp[bD]⟩,λx H3 y=>?_⟩
  obtain⟨e1,e2⟩:=y;subst e1;exact hs D i x ys aq _ (λsF aG H'=>∃m',m' < xs.length - i/\m' = xs.length - (i+1)/\i+1<=xs.length/\Pv D (i+1) sF aG H') (λys σ H p=>⟨_,by lia,rfl,by lia,p⟩) (e2 xs d3) p
 ·have e:i=xs.length:=by lia
  subst e;exact .inl ⟨⟨xs,d3,Nat.le_refl _⟩,hd D ys aq H2 p⟩
end
theorem eE{n:Int}(h:Nm n):n.natAbs.log2<1920:=by
 by_cases h0:n.natAbs=0
 ·rw[h0];decide
 ·have h1:=h.1;have h2:=h.2;have:n.natAbs<2 ^ 50:=by lia
  have:=(Nat.log2_lt h0).mpr this;lia
theorem ah.back{H H':Hp}(s:ah H H'){p:Addr}(n:H' p=none):H p=none:=by
 cases e:H p with
 | none=>rfl
 | some o=>rw[s _ _ e] at n;cases n
structure mS(q:Ak):Prop where
 nl:(nums q).length<=20
 nn:∀n∈nums q,Nm n
 ml:q.marks.length<=100
 Ab:Nm q.at_
 Ac:Nm q.cC
 la:∀x,q.e8=some x->Nm x
 bh:∀n∈q.behind,Nm n
 bl:q.behind.length<=100
theorem cg.facts{q:Ak}(ok:cg q):mS q:=by
 cases ok with
 | rd f m a s l ns hB hR hl =>
  obtain⟨n1,n2,n3,n4,n5⟩:=hB.nm;have e:nums ⟨Str.ofString "read",f,m,[],a,s,l,ns,false⟩ = [f,m]:=by
   unfold nums;dsimp only;rw[if_neg (by decide),if_pos rfl]
  refine⟨by rw[e];simp,λn hn=>?_,by simp,n3,n4,n5,hR.nm,hl⟩
  rw[e] at hn;simp only[List.mem_cons,List.not_mem_nil,or_false] at hn;rcases hn with rfl | rfl
  ·exact n1
  ·exact n2
 | wr f a s ms l ns e hB bQ hR hl =>
  obtain⟨n1,n2,n3,n4,n5⟩:=hB.nm;have IW:=hB.m1;have en:nums ⟨Str.ofString "write",f,ms.length,ms,a,s,l,ns,e⟩=f::ms:=by
   unfold nums;dsimp only;rw[if_neg (by decide),if_neg (by decide)]
  refine⟨by rw[en];simp;lia,λn hn=>?_,by dsimp only;lia,n3,n4,n5,hR.nm,hl⟩
  rw[en] at hn;rcases List.mem_cons.mp hn with rfl | hn
  ·exact n1
  ·have:=bQ n hn;exact⟨this.1,by lia⟩
 | rs a h0 h1 =>
  have en:nums ⟨Str.ofString "rest",0,0,[],a,0,none,[],false⟩ = []:=by
   unfold nums;dsimp only;rw[if_pos rfl]
  exact⟨by rw[en];simp,λn hn=>by(rw[en] at hn;simp at hn),by simp,(show Nm a from⟨h0,by lia⟩),(show Nm 0 from⟨by decide,by decide⟩),by simp,by simp,by simp⟩
noncomputable def W0(q:Ak):List Str:=kw q::(bV q++[Str.ofString "at",tx q.at_])
noncomputable def W1(q:Ak):List Str:=W0 q++(match dD q with | some a=>[(Str.ofString "for"),tx a] | none=>[])
noncomputable def W2(q:Ak):List Str:=W1 q++(match q.e8 with | some a=>[(Str.ofString "by"),tx a] | none=>[])
noncomputable def W3(q:Ak):List Str:=W2 q++(if q.behind = [] then [] else(Str.ofString "behind")::q.behind.map tx)
theorem Ad(q:Ak):W3 q=aW q (dD q):=by
 unfold W3 W2 W1 W0 aW bN;simp only[List.cons_append,List.append_assoc,List.nil_append]
theorem sX{q:Ak}(h:mS q):(W0 q).length<=30:=by
 unfold W0;have:=h.nl;rw[sW];simp;lia
theorem sY{q:Ak}(h:mS q):(W1 q).length<=40:=by
 have:=sX h;unfold W1;cases dD q <;> simp <;> lia
theorem Ae{q:Ak}(h:mS q):(W2 q).length<=50:=by
 have:=sY h;unfold W2;cases q.e8 <;> simp <;> lia
theorem sZ(q:Ak):gj q (dD q):=by
 unfold gj dD;split
 ·rename_i h;rw[h];rfl
 ·rfl
theorem Short.sum{ws:List Str}(h:Short ws):(ws.map (·.length)).sum+ws.length*blank.length<=16777216:=by
 have s:∀l:List Str,(∀w∈l,w.length<=1000)->(l.map (λx=>x.length)).sum<=1000*l.length:=by
  intro l
  induction l with
  | nil=>intro _;simp
  | cons a l ih =>
   intro h;have h1:=ih λw hw=>h w (List.mem_cons_of_mem _ hw);have h2:=h a (by simp)
   rw[List.map_cons,List.sum_cons,List.length_cons];lia
 have s1:=s ws h.2;have b:blank.length=1:=by decide
 have h1:=h.1;rw[b];lia
theorem I_{K:PySem.W.Frag}{H:Hp}{b:Addr}{xs:List V}(h:aC K H b xs):qW K (.ref b) H (!xs.isEmpty):=.inr (.inl ⟨xs,h,rfl⟩)
structure Ja(xs:List Int)(n:Nat):Prop where
 len:xs.length=n
 bd:∀x∈xs,0<=x/\x<2147483647
noncomputable def Jb:Sp:=λvs H Q _=>∃(c m:Int),vs = [.int c,.int m]/\0<=m/\m<=100/\∀(l:Addr) (ns:List Int) (H':Hp),ah H H'->H l=none->H' l=some (.lst (ns.map V.int))->Ja ns m.toNat->Q (.ref l) H'
structure iB(H:Hp)(t:Addr)(q:Ak)(m b:Addr):Prop where
 o:H t=some (.tup [.str (kw q),.int q.first,.int q.many,.ref m,.int q.at_,.int q.cC,b6 q.e8,.ref b])
 ms:H m=some (.tup (q.marks.map V.int))
 bh:H b=some (.tup (q.behind.map V.int))
theorem iB.same{H H':Hp}{t m b:Addr}{q:Ak}(h:iB H t q m b)(s:ah H H'):iB H' t q m b:=⟨s _ _ h.o,s _ _ h.ms,s _ _ h.bh⟩
noncomputable def Jc:Sp:=λvs H Q _=>∃(c:Int),vs = [.int c]/\∀t m b q H',ah H H'->H t=none->iB H' t q m b->cg q->Q (.ref t) H'
noncomputable def Jd:Sp:=λvs H Q _=>∃(t m b:Addr) (q:Ak),vs = [.ref t]/\iB H t q m b/\cg q/\∀H',ah H H'->Q (.str (Txt.join blank (aW q (dD q)))) H'
noncomputable def Je:Sp:=λvs H Q _=>∃(i:Int),vs = [.int i]/\Q (.bl true) H
noncomputable def Jf:Sp:=λvs H Q _=>∃(a:Addr) (ns:List Int),vs = [.ref a]/\H a=some (.tup (ns.map V.int))/\ns.length<=900/\∀H',ah H H'->Q (.bl true) H'
theorem Jg{ns:List Int}(h:1<=ns.length):dX (ns.map V.int) (some 1) none=(ns.drop 1).map V.int:=by
 have e:dX (ns.map V.int) (some ((1:Nat):Int)) none=((ns.map V.int).drop (min 1 (ns.map V.int).length)).take ((ns.map V.int).length - min 1 (ns.map V.int).length):=by
  unfold dX;rw[_H.q9,_H.q_]
 have e2:min 1 (ns.map V.int).length=1:=by rw[List.length_map];lia
 rw[e2] at e;rw[show (some (1:Int))=some ((1:Nat):Int) from rfl,e,List.take_of_length_le (by rw[List.length_drop];lia),List.map_drop]
section
variable{X:Cx}
theorem Af(hu:X.A.units<cLine):bU X (compareOp .NotEq) (λx y H Q=>∃(a b:Addr) (ns ms:List Int),x = .ref a/\y = .ref b/\H a=some (.tup (ns.map V.int))/\H b=some (.tup (ms.map V.int))/\Q (.bl (!decide (ns=ms))) H):=by
 rintro pins s σ H x y v u Q I rx ry ⟨p,q,ns,ms,rfl,rfl,h,h',hq⟩;cases rx;cases ry;obtain⟨ao,r1,q1,_⟩:=I.tuple (aC.of (K:=X.K) h);obtain⟨bZ,r2,q2,_⟩:=I.tuple (aC.of (K:=X.K) h');have l1:ns.length=ao.length:=by have:=r1.length;simpa using this
 have l2:ms.length=bZ.length:=by have:=r2.length;simpa using this
 have e0:((List.range (min ao.toArray.size bZ.toArray.size)).all (λj=>decide (ns[j]? = ms[j]?)) && ao.toArray.size == bZ.toArray.size)=decide (ns=ms):=by
  rw[Bool.eq_iff_iff];simp only[Bool.and_eq_true,List.all_eq_true,List.mem_range,decide_eq_true_eq,beq_iff_eq,List.size_toArray];constructor
  ·rintro⟨h1,h2⟩;refine List.ext_getElem? λj=>?_
   by_cases hj:j<min ao.length bZ.length
   ·exact h1 j hj
   ·rw[List.getElem?_eq_none (by lia),List.getElem?_eq_none (by lia)]
  ·rintro rfl;exact⟨λ_ _=>rfl,by lia⟩
 have fin:=SeqAt.RcNeAt.tuples (A:=X.A) (s:=s) (e:=λj=>decide (ns[j]? = ms[j]?)) q1 q2 (by lia) (λj h1 h2=>?_)
 ·rw[e0] at fin;exact fin X.prog X.w _ _ ⟨.bl (!decide (ns=ms)),H,I,rfl,hq⟩
 ·have j1:j<ns.length:=by rw[l1];simpa using h1
  have j2:j<ms.length:=by rw[l2];simpa using h2
  obtain⟨u1,g1,w1⟩:=r1.get (show (ns.map V.int)[j]? = some (.int ns[j]) by simp[j1])
  obtain⟨u2,g2,w2⟩:=r2.get (show (ms.map V.int)[j]? = some (.int ms[j]) by simp[j2])
  have e1:ao.toArray[j] = u1:=by
   rw[List.getElem_toArray];exact Option.some.inj ((List.getElem?_eq_getElem (by simpa using h1)).symm.trans g1)
  have e2:bZ.toArray[j] = u2:=by
   rw[List.getElem_toArray];exact Option.some.inj ((List.getElem?_eq_getElem (by simpa using h2)).symm.trans g2)
  obtain⟨t1,rfl⟩:=w1;obtain⟨t2,rfl⟩:=w2;rw[e1,e2];have:=SeqAt.EqAt.int_int (A:=X.A.in1) (s:=s) ns[j] t1 ms[j] t2;have e3:(ns[j] == ms[j])=decide (ns[j]? = ms[j]?):=by
   simp only[List.getElem?_eq_getElem j1,List.getElem?_eq_getElem j2,Option.some.injEq];rw[Bool.eq_iff_iff];simp
  rwa [e3] at this
theorem Jh(hu:X.A.units<cLine):bU X (compareOp .Eq) (λx y H Q=>∃(a b:Addr) (ns ms:List Int),x = .ref a/\y = .ref b/\H a=some (.tup (ns.map V.int))/\H b=some (.tup (ms.map V.int))/\Q (.bl (decide (ns=ms))) H):=by
 rintro pins s σ H x y v u Q I rx ry ⟨p,q,ns,ms,rfl,rfl,h,h',hq⟩;cases rx;cases ry;obtain⟨ao,r1,q1,_⟩:=I.tuple (aC.of (K:=X.K) h);obtain⟨bZ,r2,q2,_⟩:=I.tuple (aC.of (K:=X.K) h');have l1:ns.length=ao.length:=by have:=r1.length;simpa using this
 have l2:ms.length=bZ.length:=by have:=r2.length;simpa using this
 have e0:((List.range (min ao.toArray.size bZ.toArray.size)).all (λj=>decide (ns[j]? = ms[j]?)) && ao.toArray.size == bZ.toArray.size)=decide (ns=ms):=by
  rw[Bool.eq_iff_iff];simp only[Bool.and_eq_true,List.all_eq_true,List.mem_range,decide_eq_true_eq,beq_iff_eq,List.size_toArray];constructor
  ·rintro⟨h1,h2⟩;refine List.ext_getElem? λj=>?_
   by_cases hj:j<min ao.length bZ.length
   ·exact h1 j hj
   ·rw[List.getElem?_eq_none (by lia),List.getElem?_eq_none (by lia)]
  ·rintro rfl;exact⟨λ_ _=>rfl,by lia⟩
 have fin:=SeqAt.RcAt.tuples (A:=X.A) (s:=s) (e:=λj=>decide (ns[j]? = ms[j]?)) q1 q2 (by lia) (λj h1 h2=>?_)
 ·rw[e0] at fin;exact fin X.prog X.w _ _ ⟨.bl (decide (ns=ms)),H,I,rfl,hq⟩
 ·have j1:j<ns.length:=by rw[l1];simpa using h1
  have j2:j<ms.length:=by rw[l2];simpa using h2
  obtain⟨u1,g1,w1⟩:=r1.get (show (ns.map V.int)[j]? = some (.int ns[j]) by simp[j1])
  obtain⟨u2,g2,w2⟩:=r2.get (show (ms.map V.int)[j]? = some (.int ms[j]) by simp[j2])
  have e1:ao.toArray[j] = u1:=by
   rw[List.getElem_toArray];exact Option.some.inj ((List.getElem?_eq_getElem (by simpa using h1)).symm.trans g1)
  have e2:bZ.toArray[j] = u2:=by
   rw[List.getElem_toArray];exact Option.some.inj ((List.getElem?_eq_getElem (by simpa using h2)).symm.trans g2)
  obtain⟨t1,rfl⟩:=w1;obtain⟨t2,rfl⟩:=w2;rw[e1,e2];have:=SeqAt.EqAt.int_int (A:=X.A.in1) (s:=s) ns[j] t1 ms[j] t2;have e3:(ns[j] == ms[j])=decide (ns[j]? = ms[j]?):=by
   simp only[List.getElem?_eq_getElem j1,List.getElem?_eq_getElem j2,Option.some.injEq];rw[Bool.eq_iff_iff];simp
  rwa [e3] at this
end
theorem mT{q:Ak}(ok:cg q):kw q=Str.ofString "rest"↔q.kind=Str.ofString "rest" := by
 cases ok with
 | rd f m a s l ns hB hR hl=>unfold kw;dsimp only;rw[if_neg (by decide)]
 | wr f a s ms l ns e hB bQ hR hl =>
  unfold kw;dsimp only;cases e
  ·rw[if_neg (by decide)]
  ·rw[if_pos rfl];exact⟨λz=>absurd z (by decide),λz=>absurd z (by decide)⟩
 | rs a h0 h1=>unfold kw;dsimp only;rw[if_neg (by decide)]
theorem s_{q:Ak}(ok:cg q):kw q=Str.ofString "read"↔q.kind=Str.ofString "read" := by
 cases ok with
 | rd f m a s l ns hB hR hl=>unfold kw;dsimp only;rw[if_neg (by decide)]
 | wr f a s ms l ns e hB bQ hR hl =>
  unfold kw;dsimp only;cases e
  ·rw[if_neg (by decide)]
  ·rw[if_pos rfl];exact⟨λz=>absurd z (by decide),λz=>absurd z (by decide)⟩
 | rs a h0 h1=>unfold kw;dsimp only;rw[if_neg (by decide)]
noncomputable def NA(q:Ak):List Str:=if q.kind=Str.ofString "rest" then [kw q] else [kw q,tx q.first]
noncomputable def NB(q:Ak):List Str:=if q.kind=Str.ofString "read" then NA q++[tx q.many] else NA q
theorem Ji{q:Ak}(ok:cg q):NB q++q.marks.map tx++[Str.ofString "at",tx q.at_] = W0 q:=by
 cases ok with
 | rd f m a s l ns hB hR hl =>
  unfold NB NA W0 bV;dsimp only;rw[if_pos rfl,if_neg (by decide),if_neg (by decide),if_pos rfl];simp
 | wr f a s ms l ns e hB bQ hR hl =>
  unfold NB NA W0 bV;dsimp only;rw[if_neg (by decide),if_neg (by decide),if_neg (by decide),if_neg (by decide)];simp
 | rs a h0 h1 =>
  unfold NB NA W0 bV;dsimp only;rw[if_neg (by decide),if_pos rfl,if_pos rfl];simp
theorem Jj(q:Ak):(NA q).length<=2/\(NB q).length<=3:=by
 unfold NB NA;constructor
 ·split <;> simp
 ·split <;> split <;> simp
theorem cg.fm{q:Ak}(ok:cg q):Nm q.first/\Nm q.many/\∀x∈q.marks,Nm x:=by
 cases ok with
 | rd f m a s l ns hB hR hl=>exact⟨hB.nm.1,hB.nm.2.1,λx hx=>nomatch hx⟩
 | wr f a s ms l ns e hB bQ hR hl=>exact⟨hB.nm.1,hB.nm.2.1,λx hx=>by have:=bQ x hx;exact⟨this.1,by lia⟩⟩
 | rs a h0 h1=>exact⟨(show Nm 0 from⟨by decide,by decide⟩),(show Nm 0 from⟨by decide,by decide⟩),λx hx=>nomatch hx⟩
noncomputable def jj(H:Hp)(t:Addr)(ws:List Str):St->Hp->Prop:=λσ H'=>∃l,σ = [some (.ref t),some (.ref l)]/\ah H H'/\H l=none/\H' l=some (.lst (ws.map V.str))
theorem Ag{xs:List V}{j:Int}(h0:0<=j)(h1:j<xs.length):∃v,eB xs j=some v/\v∈xs:=by
 obtain⟨n,rfl⟩:=Int.eq_ofNat_of_zero_le h0;have hn:n<xs.length:=by lia
 exact⟨xs[n],lQ (List.getElem?_eq_getElem hn),List.getElem_mem hn⟩
noncomputable def Ah(kd:Str):Prop:=kd=Str.ofString "read"\/kd=Str.ofString "write"\/kd=Str.ofString "early"\/kd=Str.ofString "rest"
theorem kj(P:Int->Prop)(xs:List Int)(h:∀x∈xs,P x){j:Int}(h0:0<=j)(h1:j<xs.length):∃v,eB (xs.map V.int) j=some (.int v)/\P v:=by
 refine⟨_,rO h0 h1,?_⟩;have hn:j.toNat<xs.length:=by lia
 rw[List.getD_eq_getElem?_getD,List.getElem?_eq_getElem hn];exact h _ (List.getElem_mem hn)
theorem Jk{ns ms:List Int}(nd:ns.Nodup)(mem:∀n,n∈ns↔n∈ms)(up:ns.Pairwise (·<=·))(b:∀x∈ms,0<=x/\x<=99):d7 ns :=
 ⟨(up.and nd).imp λ⟨h1,h2⟩=>by have h2:_≠_:=h2;lia,λn hn=>(b n ((mem n).mp hn)).1,λn hn=>(b n ((mem n).mp hn)).2⟩
theorem mU(f a s:Int)(ms:List Int)(l:Option Int)(ns:List Int)(e:Bool):kw ⟨Str.ofString "write",f,ms.length,ms,a,s,l,ns,e⟩=if e=true then Str.ofString "early" else Str.ofString "write" := rfl
theorem mV(f m a s:Int)(l:Option Int)(ns:List Int):kw ⟨Str.ofString "read",f,m,[],a,s,l,ns,false⟩=Str.ofString "read" := if_neg (show ¬ false=true by decide)
noncomputable def Jl(K:PySem.W.Frag)(C:Addr):Sp:=λvs H Q _=>∃(t m b:Addr) (q:Ak) (c:Int),vs = [.ref t,.int c]/\iB H t q m b/\cg q/\∀p mk bb dx H',ah H H'->H p=none->cU K C H' p q mk bb dx->Q (.ref p) H'
noncomputable def Jm(K:PySem.W.Frag)(C:Addr):Sp:=λvs H Q _=>∃(p t m b:Addr) (q:Ak) (mk bb dx:Addr),vs = [.ref p,.ref t]/\cU K C H p q mk bb dx/\iB H t q m b/\cg q/\∀H',ah H H'->Q (.bl true) H'
theorem Jo{K:PySem.W.Frag}{tl:TE}{g:TG}{tb:TS}{D:Ends}{σ:St}{H:Hp}(o:HO)(cX:∀Q:VK,(∀p,H p=none->Q (.ref p) (upd H p o))->tl σ H Q)(h:∀p,H p=none->eo (gG K (λ_ H Q=>Q (.ref p) H)) g tb D σ (upd H p o)):eo (gG K tl) g tb D σ H:=cX _ λp hp=>h p hp
theorem tu(q:Ak)(fo:Option Int):aW q fo=W0 q++bN fo q.e8 q.behind:=by
 unfold W0 aW;simp only[List.cons_append,List.append_assoc,List.nil_append]
theorem Ai(q:Ak):(W0 q).length=(bV q).length+3:=by unfold W0;simp
theorem Jp(la:Option Int)(bh:List Int):bN (some 0) la bh = [Str.ofString "for",Str.ofString "0"]++bN none la bh:=by
 unfold bN;have:tx 0=Str.ofString "0" := by decide
 show [Str.ofString "for",tx 0]++_=_;rw[this];rfl
theorem Jq{q:Ak}(ok:cg q):kw q≠Str.ofString "at" := by
 cases ok with
 | rd f m a s l ns hB hR hl=>rw[mV];decide
 | wr f a s ms l ns e hB bQ hR hl=>rw[mU];cases e <;> decide
 | rs a h0 h1=>unfold kw;dsimp only;rw[if_neg (by decide)];decide
theorem Jr(q:Ak)(fo:Option Int):(aW q fo)[(bV q).length+1]? = some (Str.ofString "at"):=by
 unfold aW;rw[List.getElem?_cons_succ,List.getElem?_append_right (Nat.le_refl _),Nat.sub_self];rfl
theorem Js{q:Ak}(ok:cg q)(fo:Option Int):∀m,m<(bV q).length+1->(aW q fo)[m]?≠some (Str.ofString "at"):=by
 intro m hm z;unfold aW at z;cases m with
 | zero=>exact Jq ok (by simpa using z)
 | succ m =>
  rw[List.getElem?_cons_succ,List.getElem?_append_left (by lia),sW] at z
  obtain⟨n,hn,e⟩:=List.mem_map.mp (List.mem_of_getElem? z);have h1:=ok.facts.nn n hn;have h2:=fT h1.1 h1.2;rw[e,z_] at h2;cases h2
theorem Jt{xs:List V}{k:Nat}(h:k<=xs.length):dX xs none (some (k:Int))=xs.take k:=by
 unfold dX;rw[_H.q9,_H.q_];simp only[List.drop_zero,Nat.sub_zero];rw[Nat.min_eq_left h]
theorem Ju{xs:List V}{k:Nat}(h:k<=xs.length):dX xs (some (k:Int)) none=xs.drop k:=by
 unfold dX;rw[_H.q9,_H.q_];rw[Nat.min_eq_left h,List.take_of_length_le (by rw[List.length_drop];lia)]
theorem Jv{q:Ak}:(aW q none).take ((bV q).length+3)++[Str.ofString "for",Str.ofString "0"]++(aW q none).drop ((bV q).length+3)=aW q (some 0):=by
 rw[tu,tu,← Ai,List.take_left,List.drop_left,Jp,List.append_assoc]
theorem Jw{q:Ak}{fo:Option Int}(ok:cg q)(bJ:gj q fo):Txt.split (Txt.join blank (aW q fo)) blank=aW q fo:=sJ (List.cons_ne_nil _ _) (Aa ok bJ)
end _L
namespace _W
open PySem _L PyProof.Rows
theorem Od{i j:Int}:eT (.int i) (.int j)=true:=rfl
theorem Oe{i j:Str}:eT (.str i) (.str j)=true:=rfl
theorem Of{i j:Bool}:eT (.bl i) (.bl j)=true:=rfl
theorem Og: eT (.aB) (.aB)=true:=rfl
theorem Oh{i:Int}:eT (.aB) (.int i)=true:=rfl
theorem Oi{i:Int}:eT (.int i) (.aB)=true:=rfl
theorem Oj{i:Str}:eT (.aB) (.str i)=true:=rfl
theorem Ol{i:Str}:eT (.str i) (.aB)=true:=rfl
local macro_rules | `(tactic| wp_walk using $ts,*)=>do
 let a ← ("HJ NZ Nj NW NY NR mz NS NV Np NQ Nl Nn Nq Nf FJ Er Ep Eo EB Nk and_assoc M7 HO.ins.injEq FF NK cO String.reduceBEq List.lookup_cons List.lookup_nil aA HO.lst.injEq HO.dT.injEq HO.tup.injEq String.reduceEq false_and or_false false_or NL Nz Ny Nx Nt Nu Nv NC Bool.not_eq_true' decide_eq_false_iff_not Classical.not_not Dn if_false_left if_false_right Fg De fO List.length_map List.getElem?_nil Dj xS lD Na Nb Nc Nd xO tC lH iP rI DE rU DP tB Dm Dl M_ Dk yx yi qZ Eh Di C7 C8 C9 C_ M9 Dc Ef Ed ED rA EL EM EO Nr yz Ew DM DN Od Oe Of Og Oh Oi Oj Ol qV DG DH D8 D9 yl Ei _L.start NH NI NJ List.map_cons List.map_nil List.cons_append List.nil_append List.append_nil List.length_cons List.length_nil List.getElem?_cons_zero List.getElem?_cons_succ Option.some.injEq exists_eq_left exists_eq_left' exists_and_left exists_eq V.int.injEq V.ref.injEq V.bl.injEq V.ty.injEq V.str.injEq List.cons.injEq and_true true_and List.set_cons_zero List.set_cons_succ decide_eq_true_eq Nat.reduceSub Nat.reduceAdd List.replicate_succ List.replicate_zero List.replicate Int.reduceLT Int.reduceLE Int.reducePow Int.reduceToNat Int.reduceNeg Nat.reduceLT Nat.reduceLeDiff Nat.reducePow Int.reduceMul Int.reduceAdd Int.reduceSub and_self or_true true_or gt_iff_lt ge_iff_le if_true if_false Bool.false_eq_true reduceIte Nat.sub_self Nat.sub_zero".splitOn " ").toArray.mapM λx => `(Lean.Parser.Tactic.simpLemma| $(Lean.mkIdent x.toName):ident)
 let d:Array (Lean.TSyntax `term):=("T.dF T.bw T.vn T.vo T.vp T.iD T.p8 T.kQ T.p9 T.gS T.vq T.kR T.gr".splitOn " ").toArray.map λx=>⟨Lean.mkIdent x.toName⟩
 let b ← (ts.getElems.flatMap λt=>if t.raw.getId == `T then d else #[t]).mapM λt => `(Lean.Parser.Tactic.simpLemma| $t:term)
 let c:=a++b
 `(tactic| simp (maxSteps:=4000000) only[$c,*])
local macro_rules | `(tactic| walk_at "rdm") => `(tactic| wp_walk using and_self)
seal cR PS PE PT PW PA PG Dq PI PK PC PO iW
noncomputable def top(i:Nat):Stmt:=PySem.Challenge.pw_armswing_k73_lines_read.main.body.getD i (.Pass ⟨0,0,0,0⟩)
noncomputable abbrev tw:Stmt:=inClass (top 12) 0
noncomputable abbrev tD:Stmt:=top 13
noncomputable abbrev tE:Stmt:=top 14
noncomputable abbrev tF:Stmt:=top 15
noncomputable abbrev tG:Stmt:=top 16
noncomputable abbrev eF:Stmt:=top 17
noncomputable abbrev eG:Stmt:=top 18
noncomputable abbrev tH:Stmt:=top 19
noncomputable abbrev tK:Stmt:=top 23
noncomputable abbrev tL:Stmt:=inClass (top 24) 0
noncomputable abbrev tM:Stmt:=inClass (top 24) 1
noncomputable abbrev tN:Stmt:=inClass (top 24) 2
noncomputable abbrev tO:Stmt:=inClass (top 24) 3
noncomputable abbrev tQ:Stmt:=inClass (top 24) 4
noncomputable abbrev tR:Stmt:=inClass (top 24) 5
noncomputable abbrev tT:Stmt:=inClass (top 24) 6
noncomputable abbrev tU:Stmt:=inClass (top 24) 7
noncomputable abbrev tV:Stmt:=top 25
noncomputable abbrev tW:Stmt:=top 26
noncomputable abbrev tX:Stmt:=top 27
noncomputable abbrev tY:Stmt:=top 28
noncomputable abbrev tZ:Stmt:=top 29
noncomputable abbrev t_:Stmt:=top 30
noncomputable abbrev uc:Stmt:=top 31
noncomputable abbrev ud:Stmt:=top 32
noncomputable abbrev ue:Stmt:=top 33
noncomputable abbrev uf:Stmt:=top 35
noncomputable abbrev ug:Stmt:=top 36
noncomputable abbrev uh:Stmt:=top 37
noncomputable abbrev um:Stmt:=top 38
noncomputable abbrev uo:Stmt:=top 39
noncomputable abbrev uq:Stmt:=top 40
noncomputable abbrev ur:Stmt:=top 41
noncomputable abbrev uu:Stmt:=top 42
noncomputable abbrev eH:Stmt:=top 43
theorem Jx:bq ["self", "kind", "first", "many", "marks", "at", "asker", "latest", "behind", "early"] ["self", "kind", "first", "many", "marks", "at", "asker", "latest", "behind", "early"] (aO tw):=⟨rfl,rfl,rfl,by decide +kernel,rfl,by decide +kernel,by decide +kernel⟩
theorem Jy:bq ["number", "least", "greatest", "words"] ["number", "least", "greatest", "words"] (aO tD):=⟨rfl,rfl,rfl,by decide +kernel,rfl,by decide +kernel,by decide +kernel⟩
theorem mW:bq ["behind", "ahead", "number"] ["behind"] (aO tE):=⟨rfl,rfl,rfl,by decide +kernel,rfl,by decide +kernel,by decide +kernel⟩
theorem Jz:bq ["first", "many", "at", "asker", "latest", "behind"] ["first", "many", "at", "asker", "latest", "behind"] (aO tF):=⟨rfl,rfl,rfl,by decide +kernel,rfl,by decide +kernel,by decide +kernel⟩
theorem JA:bq ["behind"] ["behind"] (aO tG):=⟨rfl,rfl,rfl,by decide +kernel,rfl,by decide +kernel,by decide +kernel⟩
theorem Aj:bq ["first", "many", "at", "asker", "latest", "behind", "others"] ["first", "many", "at", "asker", "latest", "behind"] (aO eF):=⟨rfl,rfl,rfl,by decide +kernel,rfl,by decide +kernel,by decide +kernel⟩
theorem uv:bq ["first", "marks", "at", "asker", "latest", "behind", "early", "others", "mark"] ["first", "marks", "at", "asker", "latest", "behind", "early"] (aO eG):=⟨rfl,rfl,rfl,by decide +kernel,rfl,by decide +kernel,by decide +kernel⟩
theorem JB:bq ["at"] ["at"] (aO tH):=⟨rfl,rfl,rfl,by decide +kernel,rfl,by decide +kernel,by decide +kernel⟩
theorem JC:bq ["word"] ["word"] (aO tK):=⟨rfl,rfl,rfl,by decide +kernel,rfl,by decide +kernel,by decide +kernel⟩
theorem JD:bq ["self", "line"] ["self", "line"] (aO tL):=⟨rfl,rfl,rfl,by decide +kernel,rfl,by decide +kernel,by decide +kernel⟩
theorem JE:bq ["self"] ["self"] (aO tM):=⟨rfl,rfl,rfl,by decide +kernel,rfl,by decide +kernel,by decide +kernel⟩
theorem JF:bq ["self"] ["self"] (aO tN):=⟨rfl,rfl,rfl,by decide +kernel,rfl,by decide +kernel,by decide +kernel⟩
theorem JG:bq ["self", "word"] ["self", "word"] (aO tO):=⟨rfl,rfl,rfl,by decide +kernel,rfl,by decide +kernel,by decide +kernel⟩
theorem JH:bq ["self"] ["self"] (aO tQ):=⟨rfl,rfl,rfl,by decide +kernel,rfl,by decide +kernel,by decide +kernel⟩
theorem Al:bq ["self", "numbers"] ["self"] (aO tR):=⟨rfl,rfl,rfl,by decide +kernel,rfl,by decide +kernel,by decide +kernel⟩
theorem JI:bq ["self", "word"] ["self", "word"] (aO tT):=⟨rfl,rfl,rfl,by decide +kernel,rfl,by decide +kernel,by decide +kernel⟩
theorem JJ:bq ["self"] ["self"] (aO tU):=⟨rfl,rfl,rfl,by decide +kernel,rfl,by decide +kernel,by decide +kernel⟩
theorem kq:bq ["words", "asker", "latest", "behind"] ["words"] (aO tV):=⟨rfl,rfl,rfl,by decide +kernel,rfl,by decide +kernel,by decide +kernel⟩
theorem ku:bq ["words", "first", "many", "at", "more"] ["words"] (aO tW):=⟨rfl,rfl,rfl,by decide +kernel,rfl,by decide +kernel,by decide +kernel⟩
theorem kB:bq ["words", "early", "first", "marks", "at", "more"] ["words", "early"] (aO tX):=⟨rfl,rfl,rfl,by decide +kernel,rfl,by decide +kernel,by decide +kernel⟩
theorem Am:bq ["words", "at"] ["words"] (aO tY):=⟨rfl,rfl,rfl,by decide +kernel,rfl,by decide +kernel,by decide +kernel⟩
theorem uw:bq ["line", "words", "kind"] ["line"] (aO tZ):=⟨rfl,rfl,rfl,by decide +kernel,rfl,by decide +kernel,by decide +kernel⟩
theorem JK:bq ["numbers"] ["numbers"] (aO t_):=⟨rfl,rfl,rfl,by decide +kernel,rfl,by decide +kernel,by decide +kernel⟩
theorem JL:bq ["ask"] ["ask"] (aO uc):=⟨rfl,rfl,rfl,by decide +kernel,rfl,by decide +kernel,by decide +kernel⟩
theorem JM:bq ["ask"] ["ask"] (aO ud):=⟨rfl,rfl,rfl,by decide +kernel,rfl,by decide +kernel,by decide +kernel⟩
theorem An:bq ["ask", "words"] ["ask"] (aO ue):=⟨rfl,rfl,rfl,by decide +kernel,rfl,by decide +kernel,by decide +kernel⟩
theorem JN:bq ["_law_script", "_law_k"] ["_law_script", "_law_k"] (aO uf):=⟨rfl,rfl,rfl,by decide +kernel,rfl,by decide +kernel,by decide +kernel⟩
theorem kC:bq ["_law_cell", "_law_many", "_law_found", "_law_number", "_law_k"] ["_law_cell", "_law_many"] (aO ug):=⟨rfl,rfl,rfl,by decide +kernel,rfl,by decide +kernel,by decide +kernel⟩
theorem fU:bq ["_law_cell", "_law_xs", "_law_kind", "_law_at", "_law_first", "_law_many", "_law_marks", "_law_latest", "_law_some"] ["_law_cell"] (aO uh):=⟨rfl,rfl,rfl,by decide +kernel,rfl,by decide +kernel,by decide +kernel⟩
theorem jk:bq ["_law_one", "_law_words"] ["_law_one"] (aO um):=⟨rfl,rfl,rfl,by decide +kernel,rfl,by decide +kernel,by decide +kernel⟩
theorem JO:bq ["_law_found"] ["_law_found"] (aO uo):=⟨rfl,rfl,rfl,by decide +kernel,rfl,by decide +kernel,by decide +kernel⟩
theorem JP:bq ["_law_found"] ["_law_found"] (aO uq):=⟨rfl,rfl,rfl,by decide +kernel,rfl,by decide +kernel,by decide +kernel⟩
theorem mX:bq ["_law_ask", "_law_one", "_law_kind", "_law_number"] ["_law_ask", "_law_one"] (aO ur):=⟨rfl,rfl,rfl,by decide +kernel,rfl,by decide +kernel,by decide +kernel⟩
theorem kD:bq ["_law_one", "_law_cell", "_law_behind", "_law_marks"] ["_law_one", "_law_cell"] (aO uu):=⟨rfl,rfl,rfl,by decide +kernel,rfl,by decide +kernel,by decide +kernel⟩
theorem iC:bq ["_law_script", "_law_cell", "_law_one", "_law_line", "_law_found", "_law_words", "_law_at"] ["_law_script"] (aO eH):=⟨rfl,rfl,rfl,by decide +kernel,rfl,by decide +kernel,by decide +kernel⟩
set_option genInjectivity false
set_option genSizeOf false
structure ux where
 mY:Addr
 mZ:FuncData
 m5:Addr
 m6:FuncData
 m8:Addr
 m_:FuncData
 ng:Addr
 nh:FuncData
 ni:Addr
 nj:FuncData
 nk:Addr
 nq:FuncData
 JQ:Tok
 nu:Addr
 nA:FuncData
 JR:Tok
 nB:Addr
 nC:FuncData
 nF:Addr
 nG:FuncData
 nH:Addr
 nI:FuncData
 nJ:Addr
 nK:FuncData
 nM:Addr
 nN:FuncData
 nO:Addr
 nP:FuncData
 nQ:Addr
 nR:FuncData
 nT:Addr
 nU:FuncData
 nW:Addr
 nX:FuncData
 nY:Addr
 nZ:FuncData
 n8:Addr
 n_:FuncData
 oh:Addr
 oq:FuncData
 ou:Addr
 oz:FuncData
 oA:Addr
 oB:FuncData
 oE:Addr
 oF:FuncData
 oG:Addr
 oH:FuncData
 oJ:Addr
 oK:FuncData
 oM:Addr
 oN:FuncData
 oO:Addr
 oR:FuncData
 oU:Addr
 oV:FuncData
 oW:Addr
 oX:FuncData
 oY:Addr
 oZ:FuncData
 o7:Addr
 o8:FuncData
 o9:Addr
 o_:FuncData
 pq:Addr
 pA:FuncData
 pB:Addr
 pC:FuncData
 pD:Addr
 pF:FuncData
 pG:Addr
 pH:FuncData
 aT:Addr
 aP:Addr
 kE:Tok
 kF:Tok
 kG:Tok
 kH:Tok
 kI:Tok
 kJ:Tok
 kK:Tok
 kL:Tok
 kM:Tok
structure Tx(K:W.Frag)(mg:Str->Option Value)(A:ux):Prop where
 Ao:aI K "__init__" "Ask.__init__" tw A.mY A.mZ
 pI:Binds K A.mZ ["self", "kind", "first", "many", "marks", "at", "asker", "latest", "behind", "early"] []
 fV:aI K "check_between" "check_between" tD A.m5 A.m6
 gk:Binds K A.m6 ["number", "least", "greatest", "words"] []
 gm:mg "check_between" = some (.ref A.m5)
 uy:aI K "check_behind" "check_behind" tE A.m8 A.m_
 Aq:Binds K A.m_ ["behind"] []
 As:mg "check_behind" = some (.ref A.m8)
 pJ:aI K "check_fields" "check_fields" tF A.ng A.nh
 uz:Binds K A.nh ["first", "many", "at", "asker", "latest", "behind"] []
 uA:mg "check_fields" = some (.ref A.ng)
 pK:aI K "told_behind" "told_behind" tG A.ni A.nj
 uB:Binds K A.nj ["behind"] []
 uC:mg "told_behind" = some (.ref A.ni)
 pL:jV K "reading" "reading" eF A.nk A.nq
 uD:Binds K A.nq ["first", "many", "at", "asker", "latest", "behind"] []
 uE:mg "reading" = some (.ref A.nk)
 pM:jV K "writing" "writing" eG A.nu A.nA
 uF:Binds K A.nA ["first", "marks", "at", "asker", "latest", "behind", "early"] []
 uG:mg "writing" = some (.ref A.nu)
 pN:aI K "resting" "resting" tH A.nB A.nC
 uH:Binds K A.nC ["at"] []
 uI:mg "resting" = some (.ref A.nB)
 uJ:aI K "is_number" "is_number" tK A.nF A.nG
 Au:Binds K A.nG ["word"] []
 Av:mg "is_number" = some (.ref A.nF)
 Aw:aI K "__init__" "Words.__init__" tL A.nH A.nI
 Ax:Binds K A.nI ["self", "line"] []
 Ay:aI K "upcoming" "Words.upcoming" tM A.nJ A.nK
 gn:Binds K A.nK ["self"] []
 gq:Meth K A.aP "upcoming" A.nJ
 Az:aI K "has_number" "Words.has_number" tN A.nM A.nN
 uK:Binds K A.nN ["self"] []
 uL:Meth K A.aP "has_number" A.nM
 AA:aI K "take_word" "Words.take_word" tO A.nO A.nP
 pO:Binds K A.nP ["self", "word"] []
 pP:Meth K A.aP "take_word" A.nO
 AB:aI K "take_number" "Words.take_number" tQ A.nQ A.nR
 kN:Binds K A.nR ["self"] []
 kO:Meth K A.aP "take_number" A.nQ
 AD:aI K "take_numbers" "Words.take_numbers" tR A.nT A.nU
 uM:Binds K A.nU ["self"] []
 uN:Meth K A.aP "take_numbers" A.nT
 AE:aI K "take_number_behind" "Words.take_number_behind" tT A.nW A.nX
 gQ:Binds K A.nX ["self", "word"] []
 gR:Meth K A.aP "take_number_behind" A.nW
 AF:aI K "take_end" "Words.take_end" tU A.nY A.nZ
 uO:Binds K A.nZ ["self"] []
 uP:Meth K A.aP "take_end" A.nY
 pQ:aI K "take_more" "take_more" tV A.n8 A.n_
 uQ:Binds K A.n_ ["words"] []
 uR:mg "take_more" = some (.ref A.n8)
 uS:aI K "read_of" "read_of" tW A.oh A.oq
 AG:Binds K A.oq ["words"] []
 AH:mg "read_of" = some (.ref A.oh)
 uT:aI K "write_of" "write_of" tX A.ou A.oz
 AI:Binds K A.oz ["words", "early"] []
 AJ:mg "write_of" = some (.ref A.ou)
 uU:aI K "rest_of" "rest_of" tY A.oA A.oB
 AK:Binds K A.oB ["words"] []
 AL:mg "rest_of" = some (.ref A.oA)
 pR:aI K "read_line" "read_line" tZ A.oE A.oF
 uW:Binds K A.oF ["line"] []
 uX:mg "read_line" = some (.ref A.oE)
 pS:aI K "written" "written" t_ A.oG A.oH
 uY:Binds K A.oH ["numbers"] []
 uZ:mg "written" = some (.ref A.oG)
 u5:aI K "kind_word" "kind_word" uc A.oJ A.oK
 AM:Binds K A.oK ["ask"] []
 AN:mg "kind_word" = some (.ref A.oJ)
 u6:aI K "kind_numbers" "kind_numbers" ud A.oM A.oN
 AO:Binds K A.oN ["ask"] []
 AQ:mg "kind_numbers" = some (.ref A.oM)
 u7:aI K "shown" "shown" ue A.oO A.oR
 AR:Binds K A.oR ["ask"] []
 AS:mg "shown" = some (.ref A.oO)
 u9:aI K "_law_cell_at" "_law_cell_at" uf A.oU A.oV
 AU:Binds K A.oV ["_law_script", "_law_k"] []
 AV:mg "_law_cell_at" = some (.ref A.oU)
 pT:aI K "_law_stream" "_law_stream" ug A.oW A.oX
 u_:Binds K A.oX ["_law_cell", "_law_many"] []
 vc:mg "_law_stream" = some (.ref A.oW)
 vd:aI K "_law_drawn" "_law_drawn" uh A.oY A.oZ
 AW:Binds K A.oZ ["_law_cell"] []
 AX:mg "_law_drawn" = some (.ref A.oY)
 ve:aI K "_law_text" "_law_text" um A.o7 A.o8
 AY:Binds K A.o8 ["_law_one"] []
 AZ:mg "_law_text" = some (.ref A.o7)
 kP:aI K "_law_whole" "_law_whole" uo A.o9 A.o_
 pU:Binds K A.o_ ["_law_found"] []
 pW:mg "_law_whole" = some (.ref A.o9)
 pX:aI K "_law_numbers" "_law_numbers" uq A.pq A.pA
 vf:Binds K A.pA ["_law_found"] []
 vg:mg "_law_numbers" = some (.ref A.pq)
 pY:aI K "_law_same" "_law_same" ur A.pB A.pC
 vh:Binds K A.pC ["_law_ask", "_law_one"] []
 vj:mg "_law_same" = some (.ref A.pB)
 vm:aI K "_law_made" "_law_made" uu A.pD A.pF
 A0:Binds K A.pF ["_law_one", "_law_cell"] []
 A1:mg "_law_made" = some (.ref A.pD)
 A2:aI K "law" "law" eH A.pG A.pH
 JS:Binds K A.pH ["_law_script"] []
 JT:mg "law" = some (.ref A.pG)
 dF:ez K A.aT
 pZ:Mk K A.aT A.mY
 p7:mg "Ask" = some (.ref A.aT)
 vn:cP K A.aT "kind"
 vo:cP K A.aT "first"
 vp:cP K A.aT "many"
 iD:cP K A.aT "marks"
 p8:cP K A.aT "at"
 kQ:cP K A.aT "asker"
 p9:cP K A.aT "latest"
 gS:cP K A.aT "behind"
 vq:cP K A.aT "early"
 bw:ez K A.aP
 A3:Mk K A.aP A.nH
 A4:mg "Words" = some (.ref A.aP)
 kR:cP K A.aP "words"
 gr:cP K A.aP "passed"
 A5:mg "MOST_CELLS" = some (.int 16 A.kE)
 A6:mg "GREATEST_FIRST" = some (.int 1000000 A.kF)
 A7:mg "GREATEST_MARK" = some (.int 1000000000 A.kG)
 vt:mg "GREATEST_AT" = some (.int 1000000000000 A.kH)
 A8:mg "GREATEST_ASKER" = some (.int 20 A.kI)
 A9:mg "GREATEST_LATEST" = some (.int 10000000000000 A.kJ)
 A_:mg "GREATEST_BEHIND" = some (.int 99 A.kK)
 Ba:mg "FIGURES" = some (.str (PySem.Str.ofString "0123456789") A.kL)
 Bb:mg "MOST_FIGURES" = some (.int 15 A.kM)
 p_:mg "all" = none
 kT:mg "bool" = none
 kU:mg "int" = none
 gu:mg "isinstance" = none
 gv:mg "len" = none
 jl:mg "list" = none
 jm:mg "range" = none
 qa:mg "set" = none
 qb:mg "sorted" = none
 cV:mg "str" = none
 gT:mg "tuple" = none
local macro_rules | `(tactic| walk_at "rdt") => `(tactic| wp_walk using $(Lean.mkIdent `T))
section
variable{P:Program}{w:World}{K:W.Frag}{mg:Str->Option Value}{base:Heap}{A:ux}
theorem vv(T:Tx K mg A):aV P w K mg base bf 1 A.mY A.mZ ["self", "kind", "first", "many", "marks", "at", "asker", "latest", "behind", "early"] (Gb A.aT):=by
 refine T.Ao.ok Jx (λvs H Q E h=>?_) (λaH Ar outer s H vs Q E hr h=>?_)
 ·obtain⟨p,dx,v1,v2,v3,v4,v5,v6,v7,v8,v9,rfl,_⟩:=h
  rfl
 ·obtain⟨p,dx,v1,v2,v3,v4,v5,v6,v7,v8,v9,rfl,hp,q⟩:=h;refine⟨_,(az (dQ (pv 0) (pv 1) rfl)
   (az (dQ (pv 0) (pv 2) rfl)
   (az (dQ (pv 0) (pv 3) rfl)
   (az (dQ (pv 0) (pv 4) rfl)
   (az (dQ (pv 0) (pv 5) rfl)
   (az (dQ (pv 0) (pv 6) rfl)
   (az (dQ (pv 0) (pv 7) rfl)
   (az (dQ (pv 0) (pv 8) rfl)
   (aF (dQ (pv 0) (pv 9) rfl)))))))))),?_⟩
  wp_walk using T,hp;exact q
theorem qc(T:Tx K mg A):aV P w K mg base bf 1 A.m5 A.m6 ["number", "least", "greatest", "words"] FY:=by
 refine T.fV.ok Jy (λvs H Q E h=>?_) (λaH Ar outer s H vs Q E hr h=>?_)
 ·obtain⟨n,lo,hi,w,rfl,_⟩:=h
  rfl
 ·obtain⟨n,lo,hi,w,rfl,h1,h2,q⟩:=h;refine⟨_,(aF (bu (PW.pt (f_ (a_ lJ (pv 0) (pv 1) (aR _)) (g6 (a_ x9 (pv 0) (pv 2) (aR _))))) lC bx)),?_⟩;walk_at "rdm";exact⟨by lia,by lia,q⟩
theorem Bc(T:Tx K mg A):aV P w K mg base bf 1 A.ni A.nj ["behind"] (Ga K):=by
 refine T.pK.ok JA (λvs H Q E h=>?_) (λaH Ar outer s H vs Q E hr h=>?_)
 ·obtain⟨v,ns,rfl,_⟩:=h
  rfl
 ·obtain⟨v,ns,rfl,hv,q⟩:=h;refine⟨_,(aF (aX (g7 (a_ x_ (pv 0) dh (aR _)) (eW ak) (cF lW rfl T.gT boot_tuple (aa (pv 0) ak))))),?_⟩;walk_at "rdm";rcases hv with⟨rfl,rfl⟩ | ⟨a,rfl,hS | hS⟩
  ·exact ite_yes rfl λt nt=>q t _ (ah.put nt) aA
  ·exact ite_no (by simp) ⟨a,rfl,_,.inl ⟨hS,λl nl=>q l _ (ah.put nl) aA⟩⟩
  ·exact ite_no (by simp) ⟨a,rfl,_,.inr ⟨aC.of hS,q a _ (ah.refl _) hS⟩⟩
theorem JU(T:Tx K mg A):aV P w K mg base bf 1 A.nF A.nG ["word"] Ir:=by
 refine T.uJ.ok JC (λvs H Q E h=>?_) (λaH Ar outer s H vs Q E hr h=>?_)
 ·obtain⟨w,rfl,_⟩:=h
  rfl
 ·obtain⟨w,rfl,hl,q⟩:=h;refine⟨_,(az (bu (PW.pt (f_ (a_ lJ (dW yE rfl T.gv boot_len (aa (pv 0) ak)) aj (aR _)) (g6 (a_ x9 (dW yE rfl T.gv boot_len (aa (pv 0) ak)) (fF (v:=.int 15) rfl T.Bb ⟨_,rfl⟩) (aR _))))) (aF (aX dc)) bx)
   (az (bu (PW.pt (xR (a_ cE (aE Ey (pv 0) aj (λ_ _=>rfl)) aM (aR _)) (xQ (a_ eU (pv 0) aM (aR _))))) (aF (aX dc)) bx)
   (aF (aX (dW (FN rfl) rfl T.p_ boot_all (aa (iY (N:=["sign"]) (nt:=1) (fv:=[]) (cB.of rfl rfl (by rfl) (by rfl) (by repeat (first | exact trivial | refine⟨rfl,?_⟩)) (by rfl) (by rfl) (by rfl) (by decide) (by decide +kernel)) rfl (HZ (pv 0)) (λC s H fp=>(d_ (i:=0) (show List.Nodup (["sign"]:List Str) by decide +kernel) rfl (Or.inl rfl))) (λC s H fp=>iX) (λC s H fp=>(h_ DO (pv 0) (fF (v:=.str (PySem.Str.ofString "0123456789")) rfl T.Ba ⟨_,rfl⟩) rfl))) ak)))))),?_⟩
  walk_at "rdm";have l0:w.length<=16777216:=by lia
  refine⟨l0,b5 (λh=>?_) λh1=>⟨l0,b5 (λh=>?_) λh2=>?_⟩⟩
  ·rw[← IF (w:=w) (by lia)];exact q _ (ah.refl _)
  ·rw[← IG (w:=w) (by lia)];exact q _ (ah.refl _)
  ·obtain⟨c,hc⟩:∃c,w.cps[0]? = some c:=by
    have:0<w.cps.size:=by have:w.length=w.cps.size:=rfl;lia
    exact⟨_,Array.getElem?_eq_getElem this⟩
   refine⟨w,0,c,rfl,rfl,l0,lQ (j:=0) (by rw[Array.getElem?_toList];exact hc),rfl,?_⟩
   refine b5 (λh3=>b5 (λh4=>?_) λh4=>?x) λh3=>?y
   ·rw[← IK (w:=w) (by rw[hc];have:=V.str.inj h3;exact congrArg some (II this)) h4];exact q _ (ah.refl _)
   all_goals
    refine H_ w (λD i ys aq H2=>ys=(w.cps.toList.take i).map (λc=>V.bl (decide (48<=c/\c<=57)))/\H2 D=some (.lst ys)/\ah H H2/\H D=none/\i<=w.cps.size/\∃u,aq = [u]) (λQ q=>⟨_,rfl,q⟩) ?_ ?_ ?_ ?_
    ·intro D hD;exact⟨rfl,aA,ah.put hD,hD,Nat.zero_le _,_,rfl⟩
    ·rintro D i ys aq H2 ⟨rfl,e1,e2,e3,e4,_⟩;refine⟨e1,ir ?_⟩;rw[List.length_map,List.length_take];have:w.cps.toList.length=w.length:=by rw[Array.length_toList];rfl
     lia
    ·rintro D i cc ys aq H2 N hN hx ⟨rfl,e1,e2,e3,e4,u,rfl⟩;walk_at "rdm";rw[StrLaws.found_one,IM];refine⟨e1,hN _ _ _ ⟨?_,aA,ah.put2 e2 e3,e3,?_,_,rfl⟩⟩
     ·rw[take_succ_get (by rw[Array.getElem?_toList];exact hx),List.map_append];rfl
     ·have:=(Array.getElem?_eq_some_iff.mp hx).1;lia
    ·rintro D ys aq H2 ⟨rfl,e1,e2,e3,e4,u,rfl⟩;rw[← Array.length_toList,List.take_length] at e1;refine⟨D,rfl,w.cps.toList.map (λc=>decide (48<=c/\c<=57)),?_,?_⟩
     ·rw[List.map_map];exact au.of e1
     ·rw[List.all_map,← IL (w:=w) (by lia) (by lia) (by rw[hc];first | exact λ_=>Classical.byContradiction h4 | exact λz=>absurd (congrArg V.str (IJ (Option.some.inj z))) h3)]
      exact q _ e2
theorem JV(T:Tx K mg A):aV P w K mg base bf 1 A.nH A.nI ["self", "line"] (Iu A.aP):=by
 refine T.Aw.ok JD (λvs H Q E h=>?_) (λaH Ar outer s H vs Q E hr h=>?_)
 ·obtain⟨p,dx,ws,rfl,_⟩:=h
  rfl
 ·obtain⟨p,dx,ws,rfl,hp,cG,hf,br,q⟩:=h;refine⟨_,(az (dQ (pv 0) (dY PySem.F.plainAttrs_str PySem.F.slot_str_split PySem.F.type_str_split zP (pv 1) (aa aM ak)) rfl)
   (aF (dQ (pv 0) aj rfl))),?_⟩
  walk_at "rdm";have j1:=br.join;have j2:=br.1;refine⟨_,blank,rfl,rfl,by decide,by rw[sizeLine_eq];lia,by rw[sJ cG hf,sizeLine_eq];lia,λl nl=>?_⟩
  rw[sJ cG hf];exact⟨A.aP,dx,[],ah.put nl _ _ hp,T.bw,T.kR,by simp,T.bw,T.gr,by simp[cO],q l _ (SameBut.put (SameBut.of (ah.put nl))) nl ⟨aA,by rw[bC (λz=>by rw[z] at nl;rw[nl] at hp;cases hp)];exact aA⟩⟩
theorem kW(T:Tx K mg A):aV P w K mg base bf 1 A.nJ A.nK ["self"] (Iv K A.aP):=by
 refine T.Ay.ok JE (λvs H Q E h=>?_) (λaH Ar outer s H vs Q E hr h=>?_)
 ·obtain⟨p,dx,l,ws,k,rfl,_⟩:=h
  rfl
 ·obtain⟨p,dx,l,ws,k,rfl,hw,q⟩:=h;refine⟨_,(aF (aX (g7 (a_ lJ (bg (pv 0) rfl) (dW lV rfl T.gv boot_len (aa (bg (pv 0) rfl) ak)) (aR _)) (aE bO (bg (pv 0) rfl) (bg (pv 0) rfl) (λ_ _=>rfl)) dh))),?_⟩;wp_walk using T,hw.o;refine⟨_,.inl (au.of hw.w),?_⟩;rw[List.length_map];unfold cD at q;refine b5 (λh=>?_) λh=>?_
  ·have hk:k<ws.length:=by lia
   rw[List.getElem?_eq_getElem hk] at q;exact⟨_,au.of hw.w,_,lQ (by rw[List.getElem?_map,List.getElem?_eq_getElem hk];rfl),q⟩
  ·rw[List.getElem?_eq_none (by lia)] at q
   exact q
theorem JW(T:Tx K mg A):aV P w K mg base bf 1 A.oG A.oH ["numbers"] (IX K):=by
 refine T.pS.ok JK (λvs H Q E h=>?_) (λaH Ar outer s H vs Q E hr h=>?_)
 ·obtain⟨a,ns,rfl,_⟩:=h
  rfl
 ·obtain⟨a,ns,rfl,hs,hl,hn,q⟩:=h;refine⟨_,(aF (aX (iY (N:=["number"]) (nt:=1) (fv:=[]) (cB.of rfl rfl (by rfl) (by rfl) (by repeat (first | exact trivial | refine⟨rfl,?_⟩)) (by rfl) (by rfl) (by rfl) (by decide) (by decide +kernel)) rfl (zW (lF (pv 0)) (iO (pv 0))) (λC s H fp=>(d_ (i:=0) (show List.Nodup (["number"]:List Str) by decide +kernel) rfl (Or.inl rfl))) (λC s H fp=>iX) (λC s H fp=>(cF eV rfl T.cV boot_str (aa (pv 0) ak)))))),?_⟩
  walk_at "rdt";rcases hs with hs | hs
  ·refine Ii (FI a (ns.map V.int) (λD i ys aq H2=>ys=((ns.take i).map tx).map V.str/\H2 D=some (.lst ys)/\ah H H2/\H D=none/\i<=ns.length/\∃u,aq = [u]) (λQ q=>⟨_,rfl,q⟩) hs ?_ ?_ ?_ ?_)
   ·intro D hD;exact⟨rfl,aA,ah.put hD,hD,Nat.zero_le _,_,rfl⟩
   ·rintro D i ys aq H2 ⟨rfl,e1,e2,e3,e4,_⟩;refine⟨e1,ir ?_,e2.seq hs⟩;rw[List.length_map,List.length_map,List.length_take];lia
   ·rintro D i x ys aq H2 N hN hx ⟨rfl,e1,e2,e3,e4,u,rfl⟩;obtain⟨n,cI,rfl⟩:=e7 hx;walk_at "rdm";refine⟨eE (hn n (get_mem cI)),e1,hN _ _ _ ⟨?_,aA,ah.put2 e2 e3,e3,jU cI,_,rfl⟩⟩;rw[take_succ_get cI,List.map_append,List.map_append];rfl
   ·rintro D ys aq H2 ⟨rfl,e1,e2,e3,e4,u,rfl⟩;rw[List.length_map,List.take_length] at e1;exact q D _ e2 e3 e1
  ·refine Ij (mR a (ns.map V.int) (λD i ys aq H2=>ys=((ns.take i).map tx).map V.str/\H2 D=some (.lst ys)/\ah H H2/\H D=none/\i<=ns.length/\∃u,aq = [u]) (λQ q=>⟨_,rfl,q⟩) (aC.of hs) ?_ ?_ ?_ ?_)
   ·intro D hD;exact⟨rfl,aA,ah.put hD,hD,Nat.zero_le _,_,rfl⟩
   ·rintro D i ys aq H2 ⟨rfl,e1,e2,e3,e4,_⟩;refine⟨e1,ir ?_,aC.of (e2 _ _ hs)⟩;rw[List.length_map,List.length_map,List.length_take];lia
   ·rintro D i x ys aq H2 N hN hx ⟨rfl,e1,e2,e3,e4,u,rfl⟩;obtain⟨n,cI,rfl⟩:=e7 hx;walk_at "rdm";refine⟨eE (hn n (get_mem cI)),e1,hN _ _ _ ⟨?_,aA,ah.put2 e2 e3,e3,jU cI,_,rfl⟩⟩;rw[take_succ_get cI,List.map_append,List.map_append];rfl
   ·rintro D ys aq H2 ⟨rfl,e1,e2,e3,e4,u,rfl⟩;rw[List.length_map,List.take_length] at e1;exact q D _ e2 e3 e1
theorem JX(T:Tx K mg A):aV P w K mg base bf 1 A.oJ A.oK ["ask"] (IY K A.aT):=by
 refine T.u5.ok JL (λvs H Q E h=>?_) (λaH Ar outer s H vs Q E hr h=>?_)
 ·obtain⟨p,q,mk,b,dx,rfl,_⟩:=h
  rfl
 ·obtain⟨p,q,mk,b,dx,rfl,ha,k⟩:=h;refine⟨_,(aF (aX (g7 (dO (bg (pv 0) rfl)) aM (bg (pv 0) rfl)))),?_⟩;wp_walk using T,ha.o;unfold kw at k;split at k
  ·rename_i h;rw[if_pos h];exact k
  ·rename_i h;rw[if_neg h];exact k
theorem JY(T:Tx K mg A):aV P w K mg base bf 1 A.oM A.oN ["ask"] (IZ K A.aT):=by
 refine T.u6.ok JM (λvs H Q E h=>?_) (λaH Ar outer s H vs Q E hr h=>?_)
 ·obtain⟨p,q,mk,b,dx,rfl,_⟩:=h
  rfl
 ·obtain⟨p,q,mk,b,dx,rfl,ha,hm,k⟩:=h;refine⟨_,(az (bu (a_ cE (bg (pv 0) rfl) aM (aR _)) (aF (aX (bL ak))) bx)
   (aF (aX (g7 (a_ cE (bg (pv 0) rfl) aM (aR _)) (bL (aa (bg (pv 0) rfl) (aa (bg (pv 0) rfl) ak))) (aL dZ (bL (aa (bg (pv 0) rfl) ak)) (cF rz rfl T.jl boot_list (aa (bg (pv 0) rfl) ak))))))),?_⟩
  wp_walk using T,ha.o;unfold nums at k;refine b5 (λh=>?_) λh=>b5 (λh2=>?_) λh2=>?_
  ·intro r nr;rw[if_pos h] at k;exact k r _ (ah.put nr) nr aA
  ·intro r nr;rw[if_neg h,if_pos h2] at k;exact k r _ (ah.put nr) nr aA
  ·intro p1 n1;rw[if_neg h,if_neg h2] at k;refine⟨_,_,_,ah.put n1 _ _ ha.o,T.dF,T.iD,_,rfl,_,rfl,_,.inr (aC.of (ah.put n1 _ _ ha.ms)),λl nl=>⟨_,ah.put nl _ _ aA,?_,λr nr=>k r _ ((ah.put n1).trans ((ah.put nl).trans (ah.put nr))) (((ah.put n1).trans (ah.put nl)).back nr) ?_⟩⟩
   ·simp;lia
   ·rw[aA];rfl
theorem JZ(T:Tx K mg A):aV P w K mg base bf 1 A.oU A.oV ["_law_script", "_law_k"] (rN K):=by
 refine T.u9.ok JN (λvs H Q E h=>?_) (λaH Ar outer s H vs Q E hr h=>?_)
 ·obtain⟨a,ns,k,rfl,_⟩:=h
  rfl
 ·obtain⟨a,ns,k,rfl,hS,hl,hk,q⟩:=h;refine⟨_,(az (bu (a_ lJ (pv 1) (dW lV rfl T.gv boot_len (aa (pv 0) ak)) (aR _)) (aF (aX (aE bO (pv 0) (pv 1) (λ_ _=>rfl)))) bx)
   (aF (aX aj))),?_⟩
  walk_at "rdm";refine⟨_,.inl hS,b5 (λbD=>⟨_,hS,_,rO hk (by simpa using bD),q⟩) λJ0=>?_⟩
  have e:rM ns k=0:=by
   unfold rM;rw[List.length_map] at J0;rw[List.getD_eq_getElem?_getD,List.getElem?_eq_none (by lia)];rfl
  rw[e] at q;exact q
theorem Bd(T:Tx K mg A):aV P w K mg base bf 1 A.oW A.oX ["_law_cell", "_law_many"] Jb:=by
 refine T.pT.ok kC (λvs H Q E h=>?_) (λaH Ar outer s H vs Q E hr h=>?_)
 ·obtain⟨c,m,rfl,_⟩:=h
  rfl
 ·obtain⟨c,m,rfl,m0,m1,q⟩:=h;refine⟨_,(az (aU (i:=2) kC.nd rfl (Or.inl rfl) (bL ak))
   (az (aU (i:=3) kC.nd rfl (Or.inl rfl) (aL cN (aL bY (pv 0) aj) aj))
   (az (jE PassesOwn.never rfl (qP rfl T.jm (aa (aL cN (pv 1) aj) ak)) (d_ (i:=4) kC.nd rfl (Or.inl rfl))
   (az (aU (i:=3) kC.nd rfl (Or.inl rfl) (aL bY (aL cN (aL cN (aL jH (pv 3) (pv 3)) (aL jH aj (pv 3))) (pv 4)) aj))
   (aF (bX (dY PySem.F.plainAttrs_list PySem.F.slot_list_append PySem.F.type_list_append jQ (pv 2) (aa (pv 3) ak))))))
   (aF (aX (lP lT (pv 2) (lO aj) lN)))))),?_⟩
  walk_at "rdm";intro p hp;refine FG (m+1) (λi σ H'=>∃(x4:Option V) (nn:Int) (ns:List Int),σ = [some (.int c),some (.int m),some (.ref p),some (.int nn),x4]/\H' = upd H p (.lst (ns.map V.int))/\ns.length=i/\0<=nn/\nn<2147531918/\∀x∈ns,0<=x/\x<2147483647) (λQ q=>?_) (by lia) (by lia) ⟨none,_,[],rfl,rfl,rfl,by lia,by lia,λ_ h=>nomatch h⟩ ?_ ?_
  ·walk_at "rdm";exact q
  ·rintro i σ H' N hN hi ⟨x4,nn,ns,rfl,rfl,hn,n0,n1,nb⟩;walk_at "rdm";have k0:=Int.emod_nonneg (nn*nn+48271*nn+(i:Int)) (show (2147483647:Int)≠0 by decide)
   have k1:=Int.emod_lt_of_pos (nn*nn+48271*nn+(i:Int)) (show (0:Int)<2147483647 by decide)
   refine⟨.inl ⟨by lia,by lia⟩,⟨_,au.of aA⟩,by lia,hN _ _ ⟨_,_,ns++[(nn*nn+48271*nn+(i:Int)) % 2147483647],rfl,?_,by simp[hn],k0,by lia,λx hx=>?_⟩⟩
   ·rw[List.map_append];rfl
   ·rcases List.mem_append.mp hx with hx | hx
    ·exact nb x hx
    ·rw[List.mem_singleton.mp hx];exact⟨k0,k1⟩
  ·rintro σ H' ⟨x4,nn,ns,rfl,rfl,hn,n0,n1,nb⟩;walk_at "rdm";refine⟨_,au.of aA,λl hl=>?_⟩;have J1:l≠p:=(dJ aA hl).symm;have Be:H l=none:=by rw[bC J1] at hl;exact hl
   refine q l (ns.drop 1) _ (ah.put2 (ah.put hp) Be) Be ?_ ⟨by rw[List.length_drop];lia,λx hx=>nb x (List.mem_of_mem_drop hx)⟩
   rw[aA,Jg (by lia)]
theorem J2(T:Tx K mg A):aV P w K mg base bf 1 A.o7 A.o8 ["_law_one"] Jd:=by
 refine T.ve.ok jk (λvs H Q E h=>?_) (λaH Ar outer s H vs Q E hr h=>?_)
 ·obtain⟨t,m,b,q,rfl,_⟩:=h
  rfl
 ·obtain⟨t,m,b,q,rfl,ha,ok,k⟩:=h;have jo:=hr.qY;refine⟨_,(az (aU (i:=1) jk.nd rfl (Or.inl rfl) (bL (aa (aE aY (pv 0) aj (λ_ _=>rfl)) ak)))
   (az (cu (bu (a_ eU (aE aY (pv 0) aj (λ_ _=>rfl)) aM (aR _)) (aF (bX (dY PySem.F.plainAttrs_list PySem.F.slot_list_append PySem.F.type_list_append jQ (pv 1) (aa (cF eV rfl T.cV boot_str (aa (aE aY (pv 0) aj (λ_ _=>rfl)) ak)) ak)))) bx))
   (az (cu (bu (a_ cE (aE aY (pv 0) aj (λ_ _=>rfl)) aM (aR _)) (aF (bX (dY PySem.F.plainAttrs_list PySem.F.slot_list_append PySem.F.type_list_append jQ (pv 1) (aa (cF eV rfl T.cV boot_str (aa (aE aY (pv 0) aj (λ_ _=>rfl)) ak)) ak)))) bx))
   (az (cu (aU (i:=1) jk.nd rfl (Or.inl rfl) (aL dZ (aL dZ (pv 1) (iY (N:=["_law_mark"]) (nt:=1) (fv:=[]) (cB.of rfl rfl (by rfl) (by rfl) (by repeat (first | exact trivial | refine⟨rfl,?_⟩)) (by rfl) (by rfl) (by rfl) (by decide) (by decide +kernel)) rfl (iO (aE aY (pv 0) aj (λ_ _=>rfl))) (λC s H fp=>(d_ (i:=0) (show List.Nodup (["_law_mark"]:List Str) by decide +kernel) rfl (Or.inl rfl))) (λC s H fp=>iX) (λC s H fp=>(cF eV rfl T.cV boot_str (aa (pv 0) ak))))) (bL (aa aM (aa (cF eV rfl T.cV boot_str (aa (aE aY (pv 0) aj (λ_ _=>rfl)) ak)) ak))))))
   (az (cu (bu (a_ eU (aE aY (pv 0) aj (λ_ _=>rfl)) aj (aR _)) (aF (aU (i:=1) jk.nd rfl (Or.inl rfl) (aL dZ (pv 1) (bL (aa aM (aa (cF eV rfl T.cV boot_str (aa (aE aY (pv 0) aj (λ_ _=>rfl)) ak)) ak)))))) bx))
   (az (cu (bu (a_ iQ (aE aY (pv 0) aj (λ_ _=>rfl)) dh (aR _)) (aF (aU (i:=1) jk.nd rfl (Or.inl rfl) (aL dZ (pv 1) (bL (aa aM (aa (cF eV rfl T.cV boot_str (aa (aE aY (pv 0) aj (λ_ _=>rfl)) ak)) ak)))))) bx))
   (az (cu (bu (a_ (Af jo) (aE aY (pv 0) aj (λ_ _=>rfl)) (eW ak) (aR _)) (aF (aU (i:=1) jk.nd rfl (Or.inl rfl) (aL dZ (aL dZ (pv 1) (bL (aa aM ak))) (iY (N:=["_law_number"]) (nt:=1) (fv:=[]) (cB.of rfl rfl (by rfl) (by rfl) (by repeat (first | exact trivial | refine⟨rfl,?_⟩)) (by rfl) (by rfl) (by rfl) (by decide) (by decide +kernel)) rfl (iO (aE aY (pv 0) aj (λ_ _=>rfl))) (λC s H fp=>(d_ (i:=0) (show List.Nodup (["_law_number"]:List Str) by decide +kernel) rfl (Or.inl rfl))) (λC s H fp=>iX) (λC s H fp=>(cF eV rfl T.cV boot_str (aa (pv 0) ak))))))) bx))
   (aF (aX (dY PySem.F.plainAttrs_str PySem.F.slot_str_join PySem.F.type_str_join sE aM (aa (pv 1) ak))))))))))),?_⟩
  walk_at "rdt";have F:=ok.facts;obtain⟨m1,m2,m3⟩:=ok.fm;obtain⟨b1,b2⟩:=Jj q;have l0:=sX F;have l1:=sY F;have l2:=Ae F;refine⟨_,aC.of ha.o,_,rfl,λp np=>?_⟩;refine⟨jj H t (NA q),?_,?_⟩
  ·have bW:=ha.same (ah.put (o:=.lst [V.str (kw q)]) np);refine⟨_,aC.of bW.o,_,rfl,rfl,b5 (λg=>?_) λg=>?_⟩
   ·refine⟨⟨_,au.of aA⟩,_,aC.of bW.o,_,rfl,_,rfl,eE m1,p,rfl,ah.put np,np,?_⟩;rw[aA];unfold NA;rw[if_neg λz=>g (congrArg V.str ((mT ok).mpr z))];rfl
   ·refine⟨p,rfl,ah.put np,np,?_⟩;rw[aA];unfold NA;rw[if_pos ((mT ok).mp (V.str.inj (Classical.byContradiction g)))];rfl
  rintro σ H1 ⟨l,rfl,s1,nl,h1⟩;have bW:=ha.same s1;walk_at "rdt";refine⟨jj H t (NB q),?_,?_⟩
  ·refine⟨_,aC.of bW.o,_,rfl,rfl,b5 (λg=>?_) λg=>?_⟩
   ·refine⟨⟨_,au.of h1⟩,_,aC.of bW.o,_,rfl,_,rfl,eE m2,_,h1,by simp;lia,l,rfl,ah.put2 s1 nl,nl,?_⟩
    rw[aA];unfold NB;rw[if_pos ((s_ ok).mp (V.str.inj g)),List.map_append];rfl
   ·refine⟨l,rfl,s1,nl,?_⟩;unfold NB;rw[if_neg λz=>g (congrArg V.str ((s_ ok).mpr z))];exact h1
  rintro σ H1 ⟨l,rfl,s1,nl,h1⟩;have bW:=ha.same s1;walk_at "rdt";refine⟨jj H t (W0 q),?_,?_⟩
  ·refine mR m (q.marks.map V.int) (λD i ys aq H2=>ys=((q.marks.take i).map tx).map V.str/\H2 D=some (.lst ys)/\ah H1 H2/\H1 D=none/\i<=q.marks.length/\∃u,aq = [u]) (λQ k=>?_) (aC.of bW.ms) ?_ ?_ ?_ ?_
   ·walk_at "rdm";exact⟨_,aC.of bW.o,_,rfl,k⟩
   ·intro D hD;exact⟨rfl,aA,ah.put hD,hD,Nat.zero_le _,_,rfl⟩
   ·rintro D i ys aq H2 ⟨rfl,e1,e2,e3,e4,_⟩;refine⟨e1,ir ?_,aC.of (e2 _ _ bW.ms)⟩;have:=F.ml;rw[List.length_map,List.length_map,List.length_take];lia
   ·rintro D i x ys aq H2 N hN hx ⟨rfl,e1,e2,e3,e4,u,rfl⟩;obtain⟨n,cI,rfl⟩:=e7 hx;walk_at "rdm";refine⟨eE (m3 n (get_mem cI)),e1,hN _ _ _ ⟨?_,aA,ah.put2 e2 e3,e3,jU cI,_,rfl⟩⟩;rw[take_succ_get cI,List.map_append,List.map_append];rfl
   ·rintro D ys aq H2 ⟨rfl,e1,e2,e3,e4,u,rfl⟩;rw[List.length_map,List.take_length] at e1;have ml:=F.ml;refine⟨D,rfl,_,e2 _ _ h1,_,e1,by simp;lia,λp2 n2=>?_⟩
    have qd:=bW.same (e2.trans (ah.put (o:=.lst ((NB q).map V.str++(q.marks.map tx).map V.str)) n2));refine⟨_,aC.of qd.o,_,rfl,_,rfl,eE F.Ab,λp3 n3=>⟨_,ah.put n3 _ _ aA,by simp;lia,λp4 n4=>?_⟩⟩
    have sa:=s1.trans (e2.trans ((ah.put n2).trans (ah.put (o:=.lst [V.str (Str.ofString "at"),V.str (tx q.at_)]) n3)));refine⟨p4,rfl,sa.trans (ah.put n4),sa.back n4,?_⟩;rw[aA,← Ji ok,List.map_append,List.map_append];rfl
  rintro σ H1 ⟨l,rfl,s1,nl,h1⟩;have bW:=ha.same s1;walk_at "rdt";refine⟨jj H t (W1 q),?_,?_⟩
  ·refine⟨_,aC.of bW.o,_,rfl,rfl,b5 (λg=>?_) λg=>?_⟩
   ·have e:dD q=some q.cC:=if_neg λz=>g (by rw[z])
    refine⟨_,aC.of bW.o,_,rfl,_,rfl,eE F.Ac,λp2 n2=>⟨_,ah.put n2 _ _ h1,by simp;lia,λp3 n3=>?_⟩⟩
    have sa:=s1.trans (ah.put (o:=.lst [V.str (Str.ofString "for"),V.str (tx q.cC)]) n2);refine⟨p3,rfl,sa.trans (ah.put n3),sa.back n3,?_⟩;rw[aA];unfold W1;rw[e,List.map_append];rfl
   ·have e:dD q=none:=if_pos (V.int.inj (Classical.byContradiction g));refine⟨l,rfl,s1,nl,?_⟩;unfold W1;rw[e,List.append_nil];exact h1
  rintro σ H1 ⟨l,rfl,s1,nl,h1⟩;have bW:=ha.same s1;walk_at "rdt";refine⟨jj H t (W2 q),?_,?_⟩
  ·refine⟨_,aC.of bW.o,_,rfl,?_⟩;cases el:q.e8 with
   | none =>
    rw[if_neg (show ¬ ¬ b6 none=V.aB from λz=>z rfl)];refine⟨l,rfl,s1,nl,?_⟩;unfold W2;rw[el,List.append_nil];exact h1
   | some x =>
    rw[if_pos (show ¬ b6 (some x)=V.aB from λz=>V.noConfusion z)];refine⟨_,aC.of bW.o,_,rfl,x,by rw[el];rfl,eE (F.la x el),λp2 n2=>⟨_,ah.put n2 _ _ h1,by simp;lia,λp3 n3=>?_⟩⟩
    have sa:=s1.trans (ah.put (o:=.lst [V.str (Str.ofString "by"),V.str (tx x)]) n2)
    refine⟨p3,rfl,sa.trans (ah.put n3),sa.back n3,?_⟩;rw[aA];unfold W2;rw[el,List.map_append];rfl
  rintro σ H1 ⟨l,rfl,s1,nl,h1⟩;have bW:=ha.same s1;walk_at "rdt";refine⟨jj H t (W3 q),?_,?_⟩
  ·refine⟨_,aC.of bW.o,_,rfl,λp2 n2=>⟨b,rfl,q.behind,ah.put n2 _ _ bW.bh,[],rfl,b5 (λg=>λp3 n3=>⟨_,ah.put n3 _ _ (ah.put n2 _ _ h1),by simp;lia,λp4 n4=>?_⟩) λg=>?_⟩⟩
   ·have t4:=(ah.put (o:=.tup []) n2).trans ((ah.put (o:=.lst [V.str (Str.ofString "behind")]) n3).trans (ah.put (o:=.lst ((W2 q).map V.str++[V.str (Str.ofString "behind")])) n4));have s4:=s1.trans t4;have eK:=bW.same t4;have h4:=aA (H:=upd (upd H1 p2 (.tup [])) p3 (.lst [V.str (Str.ofString "behind")])) (a:=p4) (o:=.lst ((W2 q).map V.str++[V.str (Str.ofString "behind")]));generalize upd (upd (upd H1 p2 (.tup [])) p3 (.lst [V.str (Str.ofString "behind")])) p4 (.lst ((W2 q).map V.str++[V.str (Str.ofString "behind")]))=H4 at *
    have bl:=F.bl;refine mR b (q.behind.map V.int) (λD i ys aq H2=>ys=((q.behind.take i).map tx).map V.str/\H2 D=some (.lst ys)/\ah H4 H2/\H4 D=none/\i<=q.behind.length/\∃u,aq = [u]) (λQ k=>?_) (aC.of eK.bh) ?_ ?_ ?_ ?_
    ·walk_at "rdm";exact⟨_,aC.of eK.o,_,rfl,k⟩
    ·intro D hD;exact⟨rfl,aA,ah.put hD,hD,Nat.zero_le _,_,rfl⟩
    ·rintro D i ys aq H2 ⟨rfl,e1,e2,e3,e4,_⟩;refine⟨e1,ir ?_,aC.of (e2 _ _ eK.bh)⟩;rw[List.length_map,List.length_map,List.length_take];lia
    ·rintro D i x ys aq H2 N hN hx ⟨rfl,e1,e2,e3,e4,u,rfl⟩;obtain⟨n,cI,rfl⟩:=e7 hx;walk_at "rdm";refine⟨eE (F.bh n (get_mem cI)),e1,hN _ _ _ ⟨?_,aA,ah.put2 e2 e3,e3,jU cI,_,rfl⟩⟩;rw[take_succ_get cI,List.map_append,List.map_append];rfl
    ·rintro D ys aq H2 ⟨rfl,e1,e2,e3,e4,u,rfl⟩;rw[List.length_map,List.take_length] at e1;refine⟨D,rfl,_,e2 _ _ h4,_,e1,by simp;lia,λp5 n5=>⟨p5,rfl,s4.trans (e2.trans (ah.put n5)),(s4.trans e2).back n5,?_⟩⟩
     rw[aA];unfold W3;rw[if_neg g];simp
   ·refine⟨l,rfl,s1.trans (ah.put n2),nl,?_⟩;unfold W3;rw[if_pos (Classical.byContradiction g),List.append_nil];exact ah.put n2 _ _ h1
  rintro σ H1 ⟨l,rfl,s1,nl,h1⟩;walk_at "rdt";rw[Ad] at h1;exact⟨blank,l,_,rfl,rfl,au.of h1,(ji ok (sZ q)).sum,k _ s1⟩
theorem Bf(T:Tx K mg A):aV P w K mg base bf 1 A.o9 A.o_ ["_law_found"] Je:=by
 refine T.kP.ok JO (λvs H Q E h=>?_) (λaH Ar outer s H vs Q E hr h=>?_)
 ·obtain⟨i,rfl,_⟩:=h
  rfl
 ·obtain⟨i,rfl,q⟩:=h;refine⟨_,(aF (aX (lB (dW i6 rfl T.gu boot_isinstance (aa (pv 0) (aa (iK (v:=.ty "int") rfl T.kU boot_int rfl) ak))) (lA (Dd (dW i6 rfl T.gu boot_isinstance (aa (pv 0) (aa (iK (v:=.ty "bool") rfl T.kT boot_bool rfl) ak)))))))),?_⟩;walk_at "rdt";exact⟨_,.int i,_,rfl,ite_yes rfl ⟨_,.int i,_,rfl,q⟩⟩
theorem J4(T:Tx K mg A):aV P w K mg base bf 2 A.m8 A.m_ ["behind"] (FZ K):=by
 have fh:=qc (P:=P) (w:=w) (base:=base) T;refine T.uy.ok mW (λvs H Q E h=>?_) (λaH Ar outer s H vs Q E hr h=>?_)
 ·obtain⟨b,ns,rfl,_⟩:=h
  rfl
 ·obtain⟨b,ns,rfl,hS,hR,q⟩:=h;refine⟨_,(az (aU (i:=1) mW.nd rfl (Or.inl rfl) (DF DL aj))
   (aF (jE PassesOwn.never rfl (iO (pv 0)) (d_ (i:=2) mW.nd rfl (Or.inl rfl))
   (az (bX (aZ fh (hr.mono (by first | decide | lia)) rfl T.gm T.fV.kp T.gk .nil aD (aa (pv 2) (aa (aL cN (pv 1) aj) (aa (fF (v:=.int 99) rfl T.A_ ⟨_,rfl⟩) (aa aM ak))))))
   (aF (aU (i:=1) mW.nd rfl (Or.inl rfl) (pv 2))))))),?_⟩
  walk_at "rdm";refine rt b (ns.map V.int) (λi σ H'=>∃x,σ = [some (.ref b),some (.int (jW (-1) ns i)),x]/\H' = H) (λQ q=>⟨_,rfl,q⟩) hS ⟨none,rfl,rfl⟩ (by rintro i σ H' _ ⟨x,rfl,rfl⟩;exact hS) ?_ ?_
  ·rintro i x σ H' N hN hx ⟨x0,rfl,rfl⟩;obtain⟨n,hn,rfl⟩:=e7 hx;have st:=hR.step hn;walk_at "rdm";exact⟨n,_,99,_,rfl,st.1,st.2,hN _ _ ⟨some (.int n),by rw[FU hn],rfl⟩⟩
  ·rintro σ H' ⟨x0,rfl,rfl⟩;walk_at "rdm";exact q
theorem Bg(T:Tx K mg A):aV P w K mg base bf 2 A.nM A.nN ["self"] (Iw K A.aP):=by
 have J5:=JU (P:=P) (w:=w) (base:=base) T;have eL:=kW (P:=P) (w:=w) (base:=base) T;refine T.Az.ok JF (λvs H Q E h=>?_) (λaH Ar outer s H vs Q E hr h=>?_)
 ·obtain⟨p,dx,l,ws,k,rfl,_⟩:=h
  rfl
 ·obtain⟨p,dx,l,ws,k,rfl,hw,br,q⟩:=h;refine⟨_,(aF (aX (lB (h_ iQ (cJ (pv 0) T.bw T.gq eL (hr.mono (by first | decide | lia)) T.gn .nil aD) dh (aR _)) (lA (aZ J5 (hr.mono (by first | decide | lia)) rfl T.Av T.uJ.kp T.Au .nil aD (aa (cJ (pv 0) T.bw T.gq eL (hr.mono (by first | decide | lia)) T.gn .nil aD) ak)))))),?_⟩
  wp_walk using T,hw.o;refine⟨p,dx,l,ws,k,rfl,hw,?_⟩;unfold d9 at q;cases hk:ws[k]? with
  | none =>
   rw[hk] at q;rw[z5 (List.getElem?_eq_none_iff.mp hk),if_neg (by simp)]
   exact q _ (ah.refl _)
  | some w =>
   rw[hk] at q;rw[sM hk,if_pos (by simp)]
   exact⟨dx,_,hw.o,rfl,p,dx,l,ws,k,rfl,hw,w,by rw[sM hk],br.2 w (List.mem_of_getElem? hk),q⟩
theorem vA(T:Tx K mg A):aV P w K mg base bf 2 A.nO A.nP ["self", "word"] (Iz K A.aP):=by
 have eL:=kW (P:=P) (w:=w) (base:=base) T;refine T.AA.ok JG (λvs H Q E h=>?_) (λaH Ar outer s H vs Q E hr h=>?_)
 ·obtain⟨p,dx,l,ws,k,w,rfl,_⟩:=h
  rfl
 ·obtain⟨p,dx,l,ws,k,w,rfl,hw,hk,q⟩:=h;refine⟨_,(az (bu (a_ eU (cJ (pv 0) T.bw T.gq eL (hr.mono (by first | decide | lia)) T.gn .nil aD) (pv 1) (aR _)) lC bx)
   (aF (dQ (pv 0) (aL cN (bg (pv 0) rfl) aj) rfl))),?_⟩
  wp_walk using T,hw.o;refine⟨p,dx,l,ws,k,rfl,hw,?_⟩;rw[sM hk];exact⟨rfl,rfl,A.aP,dx,_,hw.o,T.bw,T.gr,_,rfl,_,rfl,A.aP,dx,_,hw.o,T.bw,T.gr,by simp,q _ SameBut.start (hw.put rfl)⟩
theorem Bh(T:Tx K mg A):aV P w K mg base bf 2 A.nY A.nZ ["self"] (ID K A.aP):=by
 have eL:=kW (P:=P) (w:=w) (base:=base) T;refine T.AF.ok JJ (λvs H Q E h=>?_) (λaH Ar outer s H vs Q E hr h=>?_)
 ·obtain⟨p,dx,l,ws,rfl,_⟩:=h
  rfl
 ·obtain⟨p,dx,l,ws,rfl,hw,q⟩:=h;refine⟨_,(aF (bu (a_ iQ (cJ (pv 0) T.bw T.gq eL (hr.mono (by first | decide | lia)) T.gn .nil aD) dh (aR _)) lC bx)),?_⟩
  wp_walk using T,hw.o;exact⟨p,dx,l,ws,ws.length,rfl,hw,z5 (Nat.le_refl _),q⟩
theorem J6(T:Tx K mg A):aV P w K mg base bf 2 A.oO A.oR ["ask"] (I0 K A.aT):=by
 have Bj:=JW (P:=P) (w:=w) (base:=base) T;have J7:=JX (P:=P) (w:=w) (base:=base) T;have J8:=JY (P:=P) (w:=w) (base:=base) T;refine T.u7.ok An (λvs H Q E h=>?_) (λaH Ar outer s H vs Q E hr h=>?_)
 ·obtain⟨p,q,mk,b,dx,rfl,_⟩:=h
  rfl
 ·obtain⟨p,q,mk,b,dx,rfl,ha,ok,k⟩:=h;refine⟨_,(az (aU (i:=1) An.nd rfl (Or.inl rfl) (aL dZ (aL dZ (bL (aa (aZ J7 (hr.mono (by first | decide | lia)) rfl T.AN T.u5.kp T.AM .nil aD (aa (pv 0) ak)) ak)) (aZ Bj (hr.mono (by first | decide | lia)) rfl T.uZ T.pS.kp T.uY .nil aD (aa (aZ J8 (hr.mono (by first | decide | lia)) rfl T.AQ T.u6.kp T.AO .nil aD (aa (pv 0) ak)) ak))) (bL (aa aM (aa (cF eV rfl T.cV boot_str (aa (bg (pv 0) rfl) ak)) ak)))))
   (az (cu (bu (a_ eU (bg (pv 0) rfl) aj (aR _)) (aF (bX (dY PySem.F.plainAttrs_list PySem.F.slot_list_extend PySem.F.type_list_extend rB (pv 1) (aa (bL (aa aM (aa (cF eV rfl T.cV boot_str (aa (bg (pv 0) rfl) ak)) ak))) ak)))) bx))
   (az (cu (bu (a_ iQ (bg (pv 0) rfl) dh (aR _)) (aF (bX (dY PySem.F.plainAttrs_list PySem.F.slot_list_extend PySem.F.type_list_extend rB (pv 1) (aa (bL (aa aM (aa (cF eV rfl T.cV boot_str (aa (bg (pv 0) rfl) ak)) ak))) ak)))) bx))
   (az (cu (bu (DS (bg (pv 0) rfl) (λ_=>rfl)) (aF (bX (dY PySem.F.plainAttrs_list PySem.F.slot_list_extend PySem.F.type_list_extend rB (pv 1) (aa (aL dZ (bL (aa aM ak)) (aZ Bj (hr.mono (by first | decide | lia)) rfl T.uZ T.pS.kp T.uY .nil aD (aa (bg (pv 0) rfl) ak))) ak)))) bx))
   (aF (aX (dY PySem.F.plainAttrs_str PySem.F.slot_str_join PySem.F.type_str_join sE aM (aa (pv 1) ak)))))))),?_⟩
  wp_walk using T,ha.o;have F:=ok.facts;refine⟨p,q,mk,b,dx,rfl,ha,λp1 n1=>?_⟩;have s1:=ah.put (o:=.lst [V.str (kw q)]) n1;refine⟨p,q,mk,b,dx,rfl,ha.same s1,F.ml,λr H2 s2 nr hr=>?_⟩;refine⟨r,nums q,rfl,.inl (au.of hr),by have:=F.nl;lia,F.nn,λr2 H3 s3 J9 j8=>?_⟩
  have jq:=s1.trans (s2.trans s3);refine⟨r2,rfl,_,s3 _ _ (s2 _ _ aA),_,j8,by have:=F.nl;simp;lia,λp2 n2=>?_⟩
  refine⟨_,_,_,ah.put n2 _ _ (jq _ _ ha.o),T.dF,T.p8,_,rfl,_,rfl,eE F.Ab,λp3 n3=>⟨_,ah.put n3 _ _ aA,by have:=F.nl;simp;lia,λp4 n4=>?_⟩⟩
  have s4:=jq.trans ((ah.put n2).trans (ah.put (o:=.lst [V.str (Str.ofString "at"),V.str (tx q.at_)]) n3));have vB:=s4.back n4;have e0:([V.str (kw q)]++((nums q).map tx).map V.str)++[V.str (Str.ofString "at"),V.str (tx q.at_)] = (W0 q).map V.str:=by
   unfold W0;rw[sW];simp
  have s5:=s4.trans (ah.put (o:=.lst ((W0 q).map V.str)) n4);have dG:=ha.same s5;have l0:=sX F;have l1:=sY F;have l2:=Ae F;refine⟨λσ H'=>σ = [some (.ref p),some (.ref p4)]/\ah H H'/\H' p4=some (.lst ((W1 q).map V.str)),?_,?_⟩
  ·show ∃_,_;rw[show ([V.str (kw q)]++((nums q).map tx).map V.str)++[V.str (Str.ofString "at"),V.str (Str.ofString (toString q.at_))] = (W0 q).map V.str from e0];refine⟨_,_,_,dG.o,T.dF,T.kQ,_,rfl,?_⟩;have h4:∀h:Hp,h=upd (upd (upd H3 p2 (HO.lst ([V.str (kw q)]++List.map V.str (List.map tx (nums q))))) p3 (HO.lst [V.str (Str.ofString "at"),V.str (Str.ofString (toString q.at_))])) p4 (HO.lst (List.map V.str (W0 q)))->ah H h/\h p4=some (.lst ((W0 q).map V.str)):=λh e=>⟨by rw[e];exact s5,by rw[e];exact aA⟩
   generalize upd (upd (upd H3 p2 (HO.lst ([V.str (kw q)]++List.map V.str (List.map tx (nums q))))) p3 (HO.lst [V.str (Str.ofString "at"),V.str (Str.ofString (toString q.at_))])) p4 (HO.lst (List.map V.str (W0 q)))=H5 at *
   obtain⟨s6,h6⟩:=h4 _ rfl;have dH:=ha.same s6;refine⟨rfl,b5 (λg=>?_) λg=>?_⟩
   ·refine⟨⟨_,au.of h6⟩,_,_,_,dH.o,T.dF,T.kQ,_,rfl,_,rfl,eE F.Ac,λp5 n5=>⟨_,ah.put n5 _ _ h6,by simp;lia,rfl,ah.put2 (s6.trans (ah.put n5)) vB,?_⟩⟩
    have e:dD q=some q.cC:=if_neg λz=>g (by rw[z])
    rw[aA];unfold W1;rw[e,List.map_append];rfl
   ·have e:dD q=none:=if_pos (Classical.byContradiction λz=>g λy=>z (V.int.inj y));refine⟨rfl,s6,?_⟩;unfold W1;rw[e,List.append_nil];exact h6
  rintro σ H5 ⟨rfl,s6,h6⟩;clear s5 dG s4 jq s1 s2 s3 n4 n3 n2 J9 nr n1 j8;have dH:=ha.same s6;wp_walk using T,dH.o;refine⟨λσ H'=>σ = [some (.ref p),some (.ref p4)]/\ah H H'/\H' p4=some (.lst ((W2 q).map V.str)),?_,?_⟩
  ·cases el:q.e8 with
   | none =>
    rw[if_neg (show ¬ ¬ b6 none=V.aB from λz=>z rfl)];refine⟨rfl,s6,?_⟩;unfold W2;rw[el,List.append_nil];exact h6
   | some x =>
    rw[if_pos (show ¬ b6 (some x)=V.aB from λz=>V.noConfusion z)];refine⟨⟨_,au.of h6⟩,?_⟩;refine⟨x,rfl,eE (F.la x el),λp5 n5=>⟨_,ah.put n5 _ _ h6,by simp;lia,rfl,ah.put2 (s6.trans (ah.put n5)) vB,?_⟩⟩
    rw[aA];unfold W2;rw[el,List.map_append];rfl
  rintro σ H5 ⟨rfl,s6,h6⟩;have dH:=ha.same s6;wp_walk using T,dH.o;refine⟨λσ H'=>σ = [some (.ref p),some (.ref p4)]/\ah H H'/\H' p4=some (.lst ((W3 q).map V.str)),?_,?_⟩
  ·refine⟨_,I_ (aC.of dH.bh),?_⟩;cases eb:q.behind with
   | nil =>
    rw[if_neg (by simp)]
    refine⟨rfl,s6,?_⟩;unfold W3;rw[if_pos eb,List.append_nil];exact h6
   | cons y ys =>
    rw[if_pos (by simp)]
    refine⟨⟨_,au.of h6⟩,λp5 n5=>?_⟩;have t5:=ah.put (o:=.lst [V.str (Str.ofString "behind")]) n5;have bl:=F.bl;refine⟨_,_,_,t5 _ _ dH.o,T.dF,T.gS,_,rfl,b,q.behind,rfl,.inr (t5 _ _ dH.bh),by lia,F.bh,λr H6 s7 nr hr=>⟨r,rfl,_,s7 _ _ aA,_,hr,by simp;lia,λp6 n6=>⟨_,ah.put n6 _ _ (s7 _ _ (t5 _ _ h6)),by simp;lia,rfl,ah.put2 (s6.trans (t5.trans (s7.trans (ah.put n6)))) vB,?_⟩⟩⟩
    rw[aA];unfold W3;rw[if_neg (by rw[eb];simp),List.map_append];rfl
  rintro σ H5 ⟨rfl,s6,h6⟩;walk_at "rdt";rw[Ad] at h6;have sh:=ji ok (sZ q);exact⟨blank,p4,_,rfl,rfl,au.of h6,sh.sum,k _ s6⟩
theorem J_(T:Tx K mg A):aV P w K mg base bf 2 A.oY A.oZ ["_law_cell"] Jc:=by
 have vC:=Bd (P:=P) (w:=w) (base:=base) T;refine T.vd.ok fU (λvs H Q E h=>?_) (λaH Ar outer s H vs Q E hr h=>?_)
 ·obtain⟨c,rfl,_⟩:=h
  rfl
 ·obtain⟨c,rfl,k⟩:=h;refine⟨_,(az (aU (i:=1) fU.nd rfl (Or.inr rfl) (aZ vC (hr.mono (by first | decide | lia)) rfl T.vc T.pT.kp T.u_ .nil aD (aa (pv 0) (aa aj ak))))
   (az (cu (aU (i:=2) fU.nd rfl (Or.inl rfl) (aE bO (bL (aa aM (aa aM (aa aM (aa aM (aa aM (aa aM ak))))))) (aL bY (aE bO (pv 1) aj (λ_ _=>rfl)) aj) (λ_ _=>rfl))))
   (az (cu (aU (i:=3) fU.nd rfl (Or.inl rfl) (aE bO (bL (aa (aL bY (aE bO (pv 1) aj (λ_ _=>rfl)) aj) (aa (aL bY (pv 0) (aL cN (aL g_ aj aj) aj)) (aa (aL g_ aj aj) ak)))) (aL bY (aE bO (pv 1) aj (λ_ _=>rfl)) aj) (λ_ _=>rfl))))
   (az (bu (a_ cE (pv 2) aM (aR _)) (aF (aX (eW (aa (pv 2) (aa aj (aa aj (aa (eW ak) (aa (pv 3) (aa aj (aa dh (aa (eW ak) ak))))))))))) bx)
   (az (cu (aU (i:=4) fU.nd rfl (Or.inl rfl) (aE bO (bL (aa (aL bY (aE bO (pv 1) aj (λ_ _=>rfl)) aj) (aa (aL bY (aE bO (pv 1) aj (λ_ _=>rfl)) (aL cN (aL g_ aj aj) aj)) (aa (aL g_ aj aj) ak)))) (aL bY (aE bO (pv 1) aj (λ_ _=>rfl)) aj) (λ_ _=>rfl))))
   (az (cu (aU (i:=5) fU.nd rfl (Or.inl rfl) (aE bO (bL (aa (aL cN aj (aL bY (aE bO (pv 1) aj (λ_ _=>rfl)) aj)) (aa (aL cN aj (aL bY (aE bO (pv 1) aj (λ_ _=>rfl)) aj)) (aa aj ak)))) (aL bY (aE bO (pv 1) aj (λ_ _=>rfl)) aj) (λ_ _=>rfl))))
   (az (aU (i:=6) fU.nd rfl (Or.inl rfl) (eW ak))
   (az (cu (bu (a_ eU (pv 2) aM (aR _)) (aF (aU (i:=6) fU.nd rfl (Or.inl rfl) (cF lW rfl T.gT boot_tuple (aa (iY (N:=["_law_j", "_law_cell", "_law_xs"]) (nt:=1) (fv:=[0,1]) (cB.of rfl rfl (by rfl) (by rfl) (by repeat (first | exact trivial | refine⟨rfl,?_⟩)) (by rfl) (by rfl) (by rfl) (by decide) (by decide +kernel)) rfl (qP rfl T.jm (aa (pv 5) ak)) (λC s H fp=>(d_ (i:=0) (show List.Nodup (["_law_j", "_law_cell", "_law_xs"]:List Str) by decide +kernel) rfl (Or.inl rfl))) (λC s H fp=>iX) (λC s H fp=>(aL bY (aL cN (aL jH (aE (mj (K:=K) rfl) (pv 2) aj (λ_ _=>rfl)) (aL cN (pv 0) aj)) (pv 1)) (aE (mj (K:=K) rfl) (bL (aa aj (aa (aL cN (aL g_ aj aj) aj) ak))) (aL bY (aE (mj (K:=K) rfl) (pv 2) aj (λ_ _=>rfl)) aj) (λ_ _=>rfl))))) ak)))) bx))
   (az (cu (aU (i:=7) fU.nd rfl (Or.inl rfl) (aE bO (bL (aa dh (aa (aL bY (aE bO (pv 1) aj (λ_ _=>rfl)) aj) (aa (aL bY (aL jH (aE bO (pv 1) aj (λ_ _=>rfl)) aj) (aL cN (aL g_ aj aj) aj)) (aa (aL g_ aj aj) ak))))) (aL bY (aE bO (pv 1) aj (λ_ _=>rfl)) aj) (λ_ _=>rfl))))
   (az (cu (Ft (i:=8) fU.nd rfl (Or.inl rfl) (N:=["_law_j", "_law_xs"]) (nt:=1) (fv:=[1]) (cB.of rfl rfl (by rfl) (by rfl) (by repeat (first | exact trivial | refine⟨rfl,?_⟩)) (by rfl) (by rfl) (by rfl) (by decide) (by decide +kernel)) rfl (qP rfl T.jm (aa (aL jH (aL bY (aE bO (pv 1) aj (λ_ _=>rfl)) aj) (aL bY (aL DJ (aE bO (pv 1) aj (λ_ _=>rfl)) aj) aj)) ak)) (λC s H fp=>(d_ (i:=0) (show List.Nodup (["_law_j", "_law_xs"]:List Str) by decide +kernel) rfl (Or.inl rfl))) (λC s H fp=>iX) (λC s H fp=>(aL bY (aE (mj (K:=K) rfl) (pv 1) (aL cN aj (pv 0)) (λ_ _=>rfl)) aj))))
   (aF (aX (eW (aa (pv 2) (aa (pv 4) (aa (pv 5) (aa (pv 6) (aa (pv 3) (aa (aE bO (bL (aa aj (aa aj (aa aj (aa (aL bY (aE bO (pv 1) aj (λ_ _=>rfl)) aj) ak))))) (aL bY (aE bO (pv 1) aj (λ_ _=>rfl)) aj) (λ_ _=>rfl)) (aa (pv 7) (aa (cF lW rfl T.gT boot_tuple (aa (HK rfl T.qb rfl T.qa rfl (pv 8)) ak)) ak))))))))))))))))))))),?_⟩
  walk_at "rdt";refine⟨c,24,rfl,by decide,by decide,λxa xs H1 s1 nx hx ok=>?_⟩
  have ln:xs.length=24:=ok.len;have ix:∀i:Nat,i<24->eB (xs.map V.int) (i:Int)=some (.int (xs.getD i 0)):=λi hi=>by
   have:=rO (ns:=xs) (k:=(i:Int)) (by lia) (by lia)
   simpa using this
  have md:∀(i:Nat) (k:Int),0<k->0<=xs.getD i 0 % k/\xs.getD i 0 % k<k:=λi k hk=>⟨Int.emod_nonneg _ (by lia),Int.emod_lt_of_pos _ hk⟩
  refine⟨λσ H'=>∃kd,σ = [some (.int c),some (.ref xa),some (.str kd),none,none,none,none,none,none]/\ah H H'/\H' xa=some (.lst (xs.map V.int))/\Ah kd,?_,?_⟩
  ·intro p np;have t1:=ah.put (o:=HO.lst [V.str (Str.ofString "read"),V.str (Str.ofString "write"),V.str (Str.ofString "early"),V.str (Str.ofString "rest"),V.str (Str.ofString "read"),V.str (Str.ofString "write")]) np;obtain⟨m0,m1⟩:=md 0 6 (by decide)
   obtain⟨v,e1,e2⟩:=Ag (xs:=[V.str (Str.ofString "read"),V.str (Str.ofString "write"),V.str (Str.ofString "early"),V.str (Str.ofString "rest"),V.str (Str.ofString "read"),V.str (Str.ofString "write")]) m0 (by simpa using m1)
   have hk:∃kd,v = .str kd/\Ah kd:=by
    simp only[List.mem_cons,List.not_mem_nil,or_false] at e2;rcases e2 with rfl | rfl | rfl | rfl | rfl | rfl
    ·exact⟨_,rfl,.inl rfl⟩
    ·exact⟨_,rfl,.inr (.inl rfl)⟩
    ·exact⟨_,rfl,.inr (.inr (.inl rfl))⟩
    ·exact⟨_,rfl,.inr (.inr (.inr rfl))⟩
    ·exact⟨_,rfl,.inl rfl⟩
    ·exact⟨_,rfl,.inr (.inl rfl)⟩
   obtain⟨kd,rfl,hk⟩:=hk;exact⟨xa,rfl,_,au.of (t1 _ _ hx),_,ix 0 (by decide),_,rfl,_,au.of aA,_,e1,kd,rfl,s1.trans t1,t1 _ _ hx,hk⟩
  clear hx s1;rintro σ H1 ⟨kd,rfl,s1,hx,hk⟩;walk_at "rdt";refine⟨λσ H'=>∃a,σ = [some (.int c),some (.ref xa),some (.str kd),some (.int a),none,none,none,none,none]/\ah H H'/\H' xa=some (.lst (xs.map V.int))/\0<=a/\a<=1000000000000,?_,?_⟩
  ·refine⟨_,au.of hx,_,ix 1 (by decide),_,rfl,by decide,by decide,λp np=>?_⟩
   have t1:=ah.put (o:=HO.lst [V.int (xs.getD 1 0 % 100),V.int (c % 1000000000001),V.int 1000000000000]) np;obtain⟨m0,m1⟩:=md 2 3 (by decide)
   obtain⟨q0,q1⟩:=md 1 100 (by decide)
   have c0:=Int.emod_nonneg c (show (1000000000001:Int)≠0 by decide)
   have c1:=Int.emod_lt_of_pos c (show (0:Int)<1000000000001 by decide)
   obtain⟨v,e1,e2⟩:=kj (λa=>0<=a/\a<=1000000000000) [xs.getD 1 0 % 100,c % 1000000000001,1000000000000] (by
    intro x hx;simp only[List.mem_cons,List.not_mem_nil,or_false] at hx;rcases hx with rfl | rfl | rfl <;> lia) m0 (by simpa using m1)
   exact⟨_,au.of (t1 _ _ hx),_,ix 2 (by decide),_,rfl,_,au.of aA,_,e1,v,rfl,s1.trans t1,t1 _ _ hx,e2.1,e2.2⟩
  clear hx s1;rintro σ H1 ⟨a,rfl,s1,hx,a0,a1⟩;walk_at "rdt";refine b5 (λg=>?_) λg=>?_
  ·intro p np p1 n1 p2 n2;have t1:=ah.put (o:=HO.tup []) np;have t2:=ah.put (o:=HO.tup []) n1;have t3:=ah.put (o:=HO.tup [V.str kd,V.int 0,V.int 0,V.ref p,V.int a,V.int 0,V.aB,V.ref p1]) n2;have sa:=s1.trans (t1.trans t2);have g2:=g;refine k p2 p p1 ⟨Str.ofString "rest",0,0,[],a,0,none,[],false⟩ _ (sa.trans t3) (sa.back n2) ⟨?_,t3 _ _ (t2 _ _ aA),t3 _ _ aA⟩ (.rs a a0 a1);rw[aA,g2]
   show _=some (HO.tup [V.str (kw _),_,_,_,_,_,_,_]);rw[show kw ⟨Str.ofString "rest",0,0,[],a,0,none,[],false⟩=Str.ofString "rest" from if_neg (show ¬ false=true by decide)]
   rfl
  refine⟨λσ H'=>∃f,σ = [some (.int c),some (.ref xa),some (.str kd),some (.int a),some (.int f),none,none,none,none]/\ah H H'/\H' xa=some (.lst (xs.map V.int))/\0<=f/\f<=1000000,?_,?_⟩
  ·refine⟨_,au.of hx,_,ix 3 (by decide),_,rfl,_,au.of hx,_,ix 3 (by decide),by decide,_,rfl,by decide,λp np=>?_⟩
   have t1:=ah.put (o:=HO.lst [V.int (xs.getD 3 0 % 100),V.int (xs.getD 3 0 % 1000001),V.int 1000000]) np;obtain⟨m0,m1⟩:=md 4 3 (by decide)
   obtain⟨q0,q1⟩:=md 3 100 (by decide)
   obtain⟨c0,c1⟩:=md 3 1000001 (by decide)
   obtain⟨v,e1,e2⟩:=kj (λa=>0<=a/\a<=1000000) [xs.getD 3 0 % 100,xs.getD 3 0 % 1000001,1000000] (by
    intro x hx;simp only[List.mem_cons,List.not_mem_nil,or_false] at hx;rcases hx with rfl | rfl | rfl <;> lia) m0 (by simpa using m1)
   exact⟨_,au.of (t1 _ _ hx),_,ix 4 (by decide),_,rfl,_,au.of aA,_,e1,v,rfl,s1.trans t1,t1 _ _ hx,e2.1,e2.2⟩
  clear hx s1;rintro σ H1 ⟨f,rfl,s1,hx,f0,f1⟩;walk_at "rdt";refine⟨λσ H'=>∃m,σ = [some (.int c),some (.ref xa),some (.str kd),some (.int a),some (.int f),some (.int m),none,none,none]/\ah H H'/\H' xa=some (.lst (xs.map V.int))/\1<=m/\m<=16,?_,?_⟩
  ·refine⟨_,au.of hx,_,ix 5 (by decide),_,rfl,_,au.of hx,_,ix 5 (by decide),_,rfl,λp np=>?_⟩
   have t1:=ah.put (o:=HO.lst [V.int (1+xs.getD 5 0 % 3),V.int (1+xs.getD 5 0 % 16),V.int 16]) np;obtain⟨m0,m1⟩:=md 6 3 (by decide)
   obtain⟨q0,q1⟩:=md 5 3 (by decide)
   obtain⟨c0,c1⟩:=md 5 16 (by decide)
   obtain⟨v,e1,e2⟩:=kj (λa=>1<=a/\a<=16) [1+xs.getD 5 0 % 3,1+xs.getD 5 0 % 16,16] (by
    intro x hx;simp only[List.mem_cons,List.not_mem_nil,or_false] at hx;rcases hx with rfl | rfl | rfl <;> lia) m0 (by simpa using m1)
   exact⟨_,au.of (t1 _ _ hx),_,ix 6 (by decide),_,rfl,_,au.of aA,_,e1,v,rfl,s1.trans t1,t1 _ _ hx,e2.1,e2.2⟩
  clear hx s1;rintro σ H1 ⟨m,rfl,s1,hx,m0,m1⟩;walk_at "rdt";intro pm nm;refine⟨λσ H'=>∃ma ms,σ = [some (.int c),some (.ref xa),some (.str kd),some (.int a),some (.int f),some (.int m),some (.ref ma),none,none]/\ah H H'/\H' xa=some (.lst (xs.map V.int))/\H' ma=some (.tup (ms.map V.int))/\(kd=Str.ofString "read"->ms = [])/\(kd≠Str.ofString "read"->(ms.length:Int)=m/\∀x∈ms,0<=x/\x<=1000000000),?_,?_⟩
  ·have t0:=ah.put (o:=HO.tup []) nm;refine b5 (λg1=>?_) λg1=>?_
   ·have gP:=t0 _ _ hx;have s2:=s1.trans t0;generalize upd H1 pm (HO.tup [])=H2 at *
    refine yT m (λD j ys aq H3=>∃(u:Option V) (ms:List Int),ys=ms.map V.int/\ms.length=j/\(∀x∈ms,0<=x/\x<=1000000000)/\aq = [u,some (.int c),some (.ref xa)]/\H3 D=some (.lst ys)/\ah H2 H3/\H2 D=none/\j<=16) (λQ k=>?_) (by lia) (by lia) ?_ ?_ ?_ ?_
    ·walk_at "rdm";exact k
    ·intro D hD;exact⟨none,[],rfl,rfl,λ_ h=>(nomatch h),rfl,aA,ah.put hD,hD,by lia⟩
    ·rintro D j ys aq H3 ⟨u,ms,rfl,e1,e2,rfl,e3,e4,e5,e6⟩;exact⟨e3,ir (by rw[List.length_map];lia)⟩
    ·rintro D j ys aq H3 N hN hj ⟨u,ms,rfl,e1,e2,rfl,e3,e4,e5,e6⟩;walk_at "rdm";have Bk:=e4 _ _ gP;refine⟨_,au.of Bk,_,ix 7 (by decide),_,rfl,.inr ⟨by lia,by lia⟩,by decide,λp np=>?_⟩
     have t1:=ah.put (o:=HO.lst [V.int 10,V.int 1000000001]) np;obtain⟨d0,d1⟩:=md 8 2 (by decide)
     obtain⟨v,ep,pv⟩:=kj (λx=>0<x/\x<=1000000001) [10,1000000001] (by
      intro x hx;simp only[List.mem_cons,List.not_mem_nil,or_false] at hx;rcases hx with rfl | rfl <;> decide) d0 (by simpa using d1)
     have y0:=Int.emod_nonneg (xs.getD 7 0*((j:Int)+1)+c) (show v≠0 by lia)
     have y1:=Int.emod_lt_of_pos (xs.getD 7 0*((j:Int)+1)+c) pv.1;refine⟨_,au.of (t1 _ _ Bk),_,ix 8 (by decide),_,rfl,_,au.of aA,_,ep,v,rfl,pv.1,t1 _ _ e3,hN _ _ _ ⟨_,ms++[(xs.getD 7 0*((j:Int)+1)+c) % v],by rw[List.map_append];rfl,by rw[List.length_append,e1];rfl,λx hx=>?_,rfl,aA,ah.put2 (e4.trans t1) e5,e5,by lia⟩⟩
     rcases List.mem_append.mp hx with hx | hx
     ·exact e2 x hx
     ·rw[List.mem_singleton.mp hx];lia
    ·rintro D ys aq H3 ⟨u,ms,rfl,e1,e2,rfl,e3,e4,e5,e6⟩;refine⟨D,rfl,_,.inl ⟨au.of e3,λl nl=>⟨l,ms,rfl,s2.trans (e4.trans (ah.put nl)),ah.put nl _ _ (e4 _ _ gP),aA,λz=>absurd z g1,λ_=>⟨by lia,e2⟩⟩⟩⟩
   ·exact⟨pm,[],rfl,s1.trans t0,t0 _ _ hx,aA,λ_=>rfl,λz=>absurd z (λy=>g1 y)⟩
  clear hx s1;rintro σ H1 ⟨ma,ms,rfl,s1,hx,hm,Ka,sr⟩;walk_at "rdt";refine⟨λσ H'=>∃la,σ = [some (.int c),some (.ref xa),some (.str kd),some (.int a),some (.int f),some (.int m),some (.ref ma),some (b6 la),none]/\ah H H'/\H' xa=some (.lst (xs.map V.int))/\H' ma=some (.tup (ms.map V.int))/\∀x,la=some x->0<=x/\x<=10000000000000,?_,?_⟩
  ·refine⟨_,au.of hx,_,ix 9 (by decide),_,rfl,_,au.of hx,_,ix 9 (by decide),_,rfl,by decide,by decide,λp np=>?_⟩
   have t1:=ah.put (o:=HO.lst [V.aB,V.int (xs.getD 9 0 % 100),V.int (xs.getD 9 0*48271 % 10000000000001),V.int 10000000000000]) np;obtain⟨d0,d1⟩:=md 10 4 (by decide)
   obtain⟨q0,q1⟩:=md 9 100 (by decide)
   have c0:=Int.emod_nonneg (xs.getD 9 0*48271) (show (10000000000001:Int)≠0 by decide)
   have c1:=Int.emod_lt_of_pos (xs.getD 9 0*48271) (show (0:Int)<10000000000001 by decide)
   obtain⟨v,e1,e2⟩:=Ag (xs:=[V.aB,V.int (xs.getD 9 0 % 100),V.int (xs.getD 9 0*48271 % 10000000000001),V.int 10000000000000]) d0 (by simpa using d1)
   have e_:∃la:Option Int,v=b6 la/\∀x,la=some x->0<=x/\x<=10000000000000:=by
    simp only[List.mem_cons,List.not_mem_nil,or_false] at e2;rcases e2 with rfl | rfl | rfl | rfl
    ·exact⟨none,rfl,λx z=>nomatch z⟩
    ·exact⟨some _,rfl,λx z=>by cases z;lia⟩
    ·exact⟨some _,rfl,λx z=>by cases z;lia⟩
    ·exact⟨some _,rfl,λx z=>by cases z;lia⟩
   obtain⟨la,rfl,qe⟩:=e_;exact⟨_,au.of (t1 _ _ hx),_,ix 10 (by decide),_,rfl,_,au.of aA,_,e1,la,rfl,s1.trans t1,t1 _ _ hx,t1 _ _ hm,qe⟩
  clear hx s1 hm;rintro σ H1 ⟨la,rfl,s1,hx,hm,qe⟩;walk_at "rdt";refine⟨λσ H'=>∃(sa:Addr) (ns:List Int),σ = [some (.int c),some (.ref xa),some (.str kd),some (.int a),some (.int f),some (.int m),some (.ref ma),some (b6 la),some (.ref sa)]/\ah H H'/\H' xa=some (.lst (xs.map V.int))/\H' ma=some (.tup (ms.map V.int))/\H' sa=some (.lst (ns.map V.int))/\ns.length<=9/\∀x∈ns,0<=x/\x<=99,?_,?_⟩
  ·obtain⟨u0,u1⟩:=md 11 4 (by decide)
   have w0:=Int.emod_nonneg (xs.getD 11 0 / 4) (show (4:Int)≠0 by decide)
   have w1:=Int.emod_lt_of_pos (xs.getD 11 0 / 4) (show (0:Int)<4 by decide)
   have n9:xs.getD 11 0 % 4*(xs.getD 11 0 / 4 % 4)<=9:=by
    have:=Int.mul_le_mul (show xs.getD 11 0 % 4<=3 by lia) (show xs.getD 11 0 / 4 % 4<=3 by lia) w0 (by decide)
    lia
   have n0:=Int.mul_nonneg u0 w0;refine yT (xs.getD 11 0 % 4*(xs.getD 11 0 / 4 % 4)) (λD j ys aq H3=>∃(u:Option V) (ns:List Int),ys=ns.map V.int/\ns.length=j/\(∀x∈ns,0<=x/\x<=99)/\aq = [u,some (.ref xa)]/\H3 D=some (.lst ys)/\ah H1 H3/\H1 D=none/\j<=9) (λQ k=>?_) (by lia) (by lia) ?_ ?_ ?_ ?_
   ·walk_at "rdm";exact⟨_,au.of hx,_,ix 11 (by decide),_,rfl,_,au.of hx,_,ix 11 (by decide),_,rfl,.inl ⟨by lia,by lia⟩,k⟩
   ·intro D hD;exact⟨none,[],rfl,rfl,λ_ h=>(nomatch h),rfl,aA,ah.put hD,hD,by lia⟩
   ·rintro D j ys aq H3 ⟨u,ns,rfl,e1,e2,rfl,e3,e4,e5,e6⟩;exact⟨e3,ir (by rw[List.length_map];lia)⟩
   ·rintro D j ys aq H3 N hN hj ⟨u,ns,rfl,e1,e2,rfl,e3,e4,e5,e6⟩;walk_at "rdm";obtain⟨y0,y1⟩:=md (12+j) 100 (by decide)
    refine⟨_,au.of (e4 _ _ hx),_,(by rw[show (12+(j:Int))=((12+j:Nat):Int) by lia];exact ix (12+j) (by lia)),_,rfl,e3,hN _ _ _ ⟨_,ns++[xs.getD (12+j) 0 % 100],by rw[List.map_append];rfl,by rw[List.length_append,e1];rfl,λx hx=>?_,rfl,aA,ah.put2 e4 e5,e5,by lia⟩⟩
    rcases List.mem_append.mp hx with hx | hx
    ·exact e2 x hx
    ·rw[List.mem_singleton.mp hx];lia
   ·rintro D ys aq H3 ⟨u,ns,rfl,e1,e2,rfl,e3,e4,e5,e6⟩;exact⟨D,ns,rfl,s1.trans e4,e4 _ _ hx,e4 _ _ hm,e3,by lia,e2⟩
  clear hx s1 hm;rintro σ H1 ⟨sa,ns,rfl,s1,hx,hm,hs,nl,nb⟩;walk_at "rdt";refine⟨_,au.of hx,_,ix 22 (by decide),_,rfl,λp np=>?_⟩
  have t1:=ah.put (o:=HO.lst [V.int 0,V.int 0,V.int 20,V.int (xs.getD 22 0 % 21)]) np;obtain⟨d0,d1⟩:=md 23 4 (by decide)
  obtain⟨q0,q1⟩:=md 22 21 (by decide)
  obtain⟨v,e1,e2⟩:=kj (λa=>0<=a/\a<=20) [0,0,20,xs.getD 22 0 % 21] (by
   intro x hx;simp only[List.mem_cons,List.not_mem_nil,or_false] at hx;rcases hx with rfl | rfl | rfl | rfl <;> lia) d0 (by simpa using d1)
  refine⟨_,au.of (t1 _ _ hx),_,ix 23 (by decide),_,rfl,_,au.of aA,_,e1,ns,au.of (t1 _ _ hs),by lia,λL bs nL nd mem bl up=>?_⟩
  have hR:=Jk nd mem up nb;have t2:=ah.put (o:=HO.lst (bs.map V.int)) nL;refine⟨_,.inl ⟨au.of aA,λl nl=>λp1 n1=>?_⟩⟩;have t3:=ah.put (o:=HO.tup (bs.map V.int)) nl;have t4:=ah.put (o:=HO.tup [V.str kd,V.int f,V.int m,V.ref ma,V.int a,V.int v,b6 la,V.ref l]) n1;have s3:=s1.trans (t1.trans (t2.trans t3));have Bl:=t4 _ _ (t3 _ _ (t2 _ _ (t1 _ _ hm)));by_cases g1:kd=Str.ofString "read"
  ·have em:=Ka g1;subst em;refine k p1 ma l ⟨Str.ofString "read",f,m,[],a,v,la,bs,false⟩ _ (s3.trans t4) (s3.back n1) ⟨?_,Bl,t4 _ _ aA⟩ (.rd f m a v la bs ⟨f0,f1,m0,m1,a0,a1,e2.1,e2.2,qe⟩ hR (by lia))
   rw[aA,mV,g1]
  ·obtain⟨h1,h2⟩:=sr g1;subst h1;refine k p1 ma l ⟨Str.ofString "write",f,ms.length,ms,a,v,la,bs,decide (kd=Str.ofString "early")⟩ _ (s3.trans t4) (s3.back n1) ⟨?_,Bl,t4 _ _ aA⟩ (.wr f a v ms la bs _ ⟨f0,f1,m0,m1,a0,a1,e2.1,e2.2,qe⟩ h2 hR (by lia))
   rw[aA,mU];rcases hk with z | z | z | z
   ·exact absurd z g1
   ·rw[z,if_neg (by decide)]
   ·rw[z,if_pos (by decide)]
   ·exact absurd z g
theorem Kc(T:Tx K mg A):aV P w K mg base bf 2 A.pq A.pA ["_law_found"] Jf:=by
 have qg:=Bf (P:=P) (w:=w) (base:=base) T;refine T.pX.ok JP (λvs H Q E h=>?_) (λaH Ar outer s H vs Q E hr h=>?_)
 ·obtain⟨a,ns,rfl,_⟩:=h
  rfl
 ·obtain⟨a,ns,rfl,ha,hl,q⟩:=h;have Kd:_+16<cLine:=Nat.lt_of_le_of_lt (Nat.add_le_add_left (by decide:16<=64) _) hr.units
  refine⟨_,(aF (aX (lB (dW i6 rfl T.gu boot_isinstance (aa (pv 0) (aa (iK (v:=.ty "tuple") rfl T.gT boot_tuple rfl) ak))) (lA (h_ (Gj Kd) (iY (N:=["_law_one"]) (nt:=1) (fv:=[]) (cB.of rfl rfl (by rfl) (by rfl) (by repeat (first | exact trivial | refine⟨rfl,?_⟩)) (by rfl) (by rfl) (by rfl) (by decide) (by decide +kernel)) rfl (iO (pv 0)) (λC s H fp=>(d_ (i:=0) (show List.Nodup (["_law_one"]:List Str) by decide +kernel) rfl (Or.inl rfl))) (λC s H fp=>(Fi (fG (dO (aZ qg (hr.mono (by first | decide | lia)) rfl T.pW T.kP.kp T.pU .nil aD (aa (pv 0) ak)))))) (λC s H fp=>(pv 0))) (bL ak) (aR _)))))),?_⟩
  walk_at "rdt";refine⟨_,.tup ha,_,rfl,ite_yes rfl ?_⟩;refine mR a (ns.map V.int) (λD i ys aq H2=>ys = []/\H2 D=some (.lst ys)/\ah H H2/\H D=none/\∃u,aq = [u]) (λQ q=>⟨_,rfl,q⟩) (aC.of ha) ?_ ?_ ?_ ?_
  ·intro D hD;exact⟨rfl,aA,ah.put hD,hD,_,rfl⟩
  ·rintro D i ys aq H2 ⟨rfl,e1,e2,e3,_⟩;exact⟨e1,by decide,aC.of (e2 _ _ ha)⟩
  ·rintro D i x ys aq H2 N hN hx ⟨rfl,e1,e2,e3,u,rfl⟩;obtain⟨n,cI,rfl⟩:=e7 hx;walk_at "rdt";exact⟨n,rfl,_,rfl,ite_no (by simp) (hN _ _ _ ⟨rfl,e1,e2,e3,_,rfl⟩)⟩
  ·rintro D ys aq H2 ⟨rfl,e1,e2,e3,u,rfl⟩;intro p np;exact⟨D,rfl,_,au.of (ah.put np _ _ e1),au.of aA,q _ (e2.trans (ah.put np))⟩
theorem Bm(T:Tx K mg A):aV P w K mg base bf 3 A.ng A.nh ["first", "many", "at", "asker", "latest", "behind"] (F_ K):=by
 have fh:=qc (P:=P) (w:=w) (base:=base) T;have Ke:=J4 (P:=P) (w:=w) (base:=base) T;refine T.pJ.ok Jz (λvs H Q E h=>?_) (λaH Ar outer s H vs Q E hr h=>?_)
 ·obtain⟨f,m,a,s',l,b,ns,rfl,_⟩:=h
  rfl
 ·obtain⟨f,m,a,s',l,b,ns,rfl,hB,hS,hR,q⟩:=h;refine⟨_,(az (bX (aZ fh (hr.mono (by first | decide | lia)) rfl T.gm T.fV.kp T.gk .nil aD (aa (pv 0) (aa aj (aa (fF (v:=.int 1000000) rfl T.A6 ⟨_,rfl⟩) (aa aM ak))))))
   (az (bX (aZ fh (hr.mono (by first | decide | lia)) rfl T.gm T.fV.kp T.gk .nil aD (aa (pv 1) (aa aj (aa (fF (v:=.int 16) rfl T.A5 ⟨_,rfl⟩) (aa aM ak))))))
   (az (bX (aZ fh (hr.mono (by first | decide | lia)) rfl T.gm T.fV.kp T.gk .nil aD (aa (pv 2) (aa aj (aa (fF (v:=.int 1000000000000) rfl T.vt ⟨_,rfl⟩) (aa aM ak))))))
   (az (bX (aZ fh (hr.mono (by first | decide | lia)) rfl T.gm T.fV.kp T.gk .nil aD (aa (pv 3) (aa aj (aa (fF (v:=.int 20) rfl T.A8 ⟨_,rfl⟩) (aa aM ak))))))
   (az (bu (a_ iQ (pv 4) dh (aR _)) (aF (bX (aZ fh (hr.mono (by first | decide | lia)) rfl T.gm T.fV.kp T.gk .nil aD (aa (pv 4) (aa aj (aa (fF (v:=.int 10000000000000) rfl T.A9 ⟨_,rfl⟩) (aa aM ak))))))) bx)
   (aF (bX (aZ Ke (hr.mono (by first | decide | lia)) rfl T.As T.uy.kp T.Aq .nil aD (aa (pv 5) ak))))))))),?_⟩
  walk_at "rdm";refine⟨_,_,_,_,rfl,hB.f0,hB.f1,_,_,_,_,rfl,hB.m0,hB.m1,_,_,_,_,rfl,hB.a0,hB.a1,_,_,_,_,rfl,hB.s0,hB.s1,?_⟩
  try dsimp only
  cases l with
  | none=>exact ite_no (by simp[b6]) ⟨b,ns,rfl,hS,hR,q⟩
  | some x=>exact ite_yes (by simp[b6]) ⟨x,0,10000000000000,_,rfl,(hB.l x rfl).1,(hB.l x rfl).2,b,ns,rfl,hS,hR,q⟩
theorem Bo(T:Tx K mg A):aV P w K mg base bf 3 A.nB A.nC ["at"] (Ge K A.aT):=by
 have kX:=vv (P:=P) (w:=w) (base:=base) T;have fh:=qc (P:=P) (w:=w) (base:=base) T;refine T.pN.ok JB (λvs H Q E h=>?_) (λaH Ar outer s H vs Q E hr h=>?_)
 ·obtain⟨a,rfl,_⟩:=h
  rfl
 ·obtain⟨a,rfl,a0,a1,q⟩:=h;refine⟨_,(az (bX (aZ fh (hr.mono (by first | decide | lia)) rfl T.gm T.fV.kp T.gk .nil aD (aa (pv 0) (aa aj (aa (fF (v:=.int 1000000000000) rfl T.vt ⟨_,rfl⟩) (aa aM ak))))))
   (aF (aX (lM T.pZ kX (hr.mono (by first | decide | lia)) rfl T.p7 T.pI .nil aD (aa aM (aa aj (aa aj (aa (eW ak) (aa (pv 0) (aa aj (aa dh (aa (eW ak) (aa dc ak))))))))))))),?_⟩
  walk_at "rdt";refine⟨_,_,_,_,rfl,a0,a1,?_⟩
  try dsimp only
  intro m nm b nb x dx nx e9 cG;refine⟨x,dx,_,_,_,_,_,_,_,_,_,rfl,aA,rfl,?_⟩;obtain⟨a1,a2,a3⟩:=mC (K:=K) (C:=A.aT) (q:=⟨"rest",0,0,[],a,0,none,[],false⟩) ((ah.put nm).trans (ah.put nb)) nx e9 cG (ah.put nb _ _ aA) aA;exact q _ _ _ _ _ a1 a2 a3
theorem vD(T:Tx K mg A):aV P w K mg base bf 3 A.nQ A.nR ["self"] (IA K A.aP):=by
 have vE:=Bg (P:=P) (w:=w) (base:=base) T;refine T.AB.ok JH (λvs H Q E h=>?_) (λaH Ar outer s H vs Q E hr h=>?_)
 ·obtain⟨p,dx,l,ws,k,w,rfl,_⟩:=h
  rfl
 ·obtain⟨p,dx,l,ws,k,w,rfl,hw,br,hk,hn,q⟩:=h;refine⟨_,(az (bu (fG (dO (cJ (pv 0) T.bw T.uL vE (hr.mono (by first | decide | lia)) T.uK .nil aD))) lC bx)
   (az (dQ (pv 0) (aL cN (bg (pv 0) rfl) aj) rfl)
   (aF (aX (cF HV rfl T.kU boot_int (aa (aE bO (bg (pv 0) rfl) (aL DI (bg (pv 0) rfl) aj) (λ_ _=>rfl)) ak)))))),?_⟩
  wp_walk using T,hw.o;refine⟨p,dx,l,ws,k,rfl,hw,br,λH1 s1=>⟨_,rfl,?_⟩⟩;have bF:=hw.same s1;rw[sN hk,hn];refine⟨by decide,A.aP,dx,_,bF.o,T.bw,T.gr,_,rfl,_,rfl,A.aP,dx,_,bF.o,T.bw,T.gr,by simp,T.bw,T.kR,_,rfl,T.bw,T.gr,_,rfl,_,rfl,_,rfl,_,au.of (by rw[bC bF.ne];exact bF.w),?_⟩
  have e:((k:Int)+1) - 1=(k:Int):=by lia
  rw[e];obtain⟨t1,t2⟩:=Ip hn;exact⟨_,lQ (by rw[List.getElem?_map,hk];rfl),_,rfl,_,t1,by lia,q _ (SameBut.put (SameBut.of s1)) (bF.put rfl)⟩
theorem Bp(T:Tx K mg A):aV P w K mg base bf 4 A.nk A.nq ["first", "many", "at", "asker", "latest", "behind"] (Gd K A.aT):=by
 have kX:=vv (P:=P) (w:=w) (base:=base) T;have vF:=Bm (P:=P) (w:=w) (base:=base) T;have vG:=Bc (P:=P) (w:=w) (base:=base) T;refine T.pL.ok Aj (λvs H Q E h=>?_) (λaH Ar outer s H vs Q E hr h=>?_)
 ·obtain⟨f,m,a,s',l,bv,ns,rfl,_⟩:=h
  rfl
 ·obtain⟨f,m,a,s',l,bv,ns,rfl,hB,hv,hR,q⟩:=h;refine⟨_,(az (aU (i:=6) Aj.nd rfl (Or.inl rfl) (aZ vG (hr.mono (by first | decide | lia)) rfl T.uC T.pK.kp T.uB .nil aD (aa (pv 5) ak)))
   (az (bX (aZ vF (hr.mono (by first | decide | lia)) rfl T.uA T.pJ.kp T.uz .nil aD (aa (pv 0) (aa (pv 1) (aa (pv 2) (aa (pv 3) (aa (pv 4) (aa (pv 6) ak))))))))
   (aF (aX (lM T.pZ kX (hr.mono (by first | decide | lia)) rfl T.p7 T.pI .nil aD (aa aM (aa (pv 0) (aa (pv 1) (aa (eW ak) (aa (pv 2) (aa (pv 3) (aa (pv 4) (aa (pv 6) (aa dc ak)))))))))))))),?_⟩
  walk_at "rdt";refine⟨_,ns,rfl,hv,λb H1 s1 hb=>?_⟩;walk_at "rdt";refine⟨_,_,_,_,_,_,ns,rfl,hB,aC.of hb,hR,?_⟩;walk_at "rdt";intro mk nm x dx nx e9 cG;refine⟨x,dx,_,_,_,_,_,_,_,_,_,rfl,aA,rfl,?_⟩;obtain⟨a1,a2,a3⟩:=mC (K:=K) (C:=A.aT) (q:=⟨"read",f,m,[],a,s',l,ns,false⟩) (s1.trans (ah.put nm)) nx e9 cG aA (ah.put nm _ _ hb);exact q _ _ _ _ _ a1 a2 a3
theorem Bq(T:Tx K mg A):aV P w K mg base bf 4 A.nu A.nA ["first", "marks", "at", "asker", "latest", "behind", "early"] (IU K A.aT):=by
 have kX:=vv (P:=P) (w:=w) (base:=base) T;have fh:=qc (P:=P) (w:=w) (base:=base) T;have vF:=Bm (P:=P) (w:=w) (base:=base) T;have vG:=Bc (P:=P) (w:=w) (base:=base) T;refine T.pM.ok uv (λvs H Q E h=>?_) (λaH Ar outer s H vs Q E hr h=>?_)
 ·obtain⟨f,a,s',ma,ms,l,bv,ns,e,rfl,_⟩:=h
  rfl
 ·obtain⟨f,a,s',ma,ms,l,bv,ns,e,rfl,hm,bQ,hB,hv,hR,q⟩:=h;refine⟨_,(az (aU (i:=7) uv.nd rfl (Or.inl rfl) (aZ vG (hr.mono (by first | decide | lia)) rfl T.uC T.pK.kp T.uB .nil aD (aa (pv 5) ak)))
   (az (bX (aZ vF (hr.mono (by first | decide | lia)) rfl T.uA T.pJ.kp T.uz .nil aD (aa (pv 0) (aa (dW lV rfl T.gv boot_len (aa (pv 1) ak)) (aa (pv 2) (aa (pv 3) (aa (pv 4) (aa (pv 7) ak))))))))
   (az (jE PassesOwn.never rfl (zW (lF (pv 1)) (iO (pv 1))) (d_ (i:=8) uv.nd rfl (Or.inl rfl))
   (aF (bX (aZ fh (hr.mono (by first | decide | lia)) rfl T.gm T.fV.kp T.gk .nil aD (aa (pv 8) (aa aj (aa (fF (v:=.int 1000000000) rfl T.A7 ⟨_,rfl⟩) (aa aM ak))))))))
   (aF (aX (lM T.pZ kX (hr.mono (by first | decide | lia)) rfl T.p7 T.pI .nil aD (aa aM (aa (pv 0) (aa (dW lV rfl T.gv boot_len (aa (pv 1) ak)) (aa (cF lW rfl T.gT boot_tuple (aa (pv 1) ak)) (aa (pv 2) (aa (pv 3) (aa (pv 4) (aa (pv 7) (aa (pv 6) ak))))))))))))))),?_⟩
  walk_at "rdt";refine⟨_,ns,rfl,hv,λb H1 s1 hb=>?_⟩;walk_at "rdt";rcases hm with hm | hm
  ·refine⟨_,.inl (s1.seq hm),?_⟩;simp only[List.length_map];refine⟨_,_,_,_,_,_,ns,rfl,hB,aC.of hb,hR,?_⟩
   try dsimp only
   have dw:=s1.seq hm;refine Ig (rl ma (ms.map V.int) (λi σ H'=>∃x,σ = [some (.int f),some (.ref ma),some (.int a),some (.int s'),some (b6 l),some bv,some (.bl e),some (.ref b),x]/\H' = H1) (λQ q=>⟨_,rfl,q⟩) dw ⟨none,rfl,rfl⟩ (by rintro i σ H' _ ⟨x,rfl,rfl⟩;exact dw) ?_ ?_)
   ·rintro i x σ H' N hN hx ⟨x0,rfl,rfl⟩;obtain⟨n,hn,rfl⟩:=e7 hx;walk_at "rdm";exact⟨n,0,1000000000,_,rfl,(bQ n (get_mem hn)).1,(bQ n (get_mem hn)).2,hN _ _ ⟨_,rfl,rfl⟩⟩
   ·rintro σ H' ⟨x0,rfl,rfl⟩;walk_at "rdt";refine⟨_,.inl dw,_,.inl ⟨dw,λmk nm=>?_⟩⟩;intro x dx nx e9 cG;refine⟨x,dx,_,_,_,_,_,_,_,_,_,rfl,aA,rfl,?_⟩;simp only[List.length_map];obtain⟨a1,a2,a3⟩:=mC (K:=K) (C:=A.aT) (q:=⟨"write",f,ms.length,ms,a,s',l,ns,e⟩) (s1.trans (ah.put nm)) nx e9 cG aA (ah.put nm _ _ hb);exact q _ _ _ _ _ a1 a2 a3
  ·refine⟨_,.inr (aC.of (s1 _ _ hm)),?_⟩;simp only[List.length_map];refine⟨_,_,_,_,_,_,ns,rfl,hB,aC.of hb,hR,?_⟩
   try dsimp only
   have dw:=aC.of (K:=K) (s1 _ _ hm);refine Ih (rt ma (ms.map V.int) (λi σ H'=>∃x,σ = [some (.int f),some (.ref ma),some (.int a),some (.int s'),some (b6 l),some bv,some (.bl e),some (.ref b),x]/\H' = H1) (λQ q=>⟨_,rfl,q⟩) dw ⟨none,rfl,rfl⟩ (by rintro i σ H' _ ⟨x,rfl,rfl⟩;exact dw) ?_ ?_)
   ·rintro i x σ H' N hN hx ⟨x0,rfl,rfl⟩;obtain⟨n,hn,rfl⟩:=e7 hx;walk_at "rdm";exact⟨n,0,1000000000,_,rfl,(bQ n (get_mem hn)).1,(bQ n (get_mem hn)).2,hN _ _ ⟨_,rfl,rfl⟩⟩
   ·rintro σ H' ⟨x0,rfl,rfl⟩;walk_at "rdt";refine⟨_,.inr dw,_,.inr ⟨dw,?_⟩⟩;intro x dx nx e9 cG;refine⟨x,dx,_,_,_,_,_,_,_,_,_,rfl,aA,rfl,?_⟩;simp only[List.length_map];obtain⟨a1,a2,a3⟩:=mC (K:=K) (C:=A.aT) (q:=⟨"write",f,ms.length,ms,a,s',l,ns,e⟩) s1 nx e9 cG (s1 _ _ hm) hb;exact q _ _ _ _ _ a1 a2 a3
theorem Br(T:Tx K mg A):aV P w K mg base bf 4 A.nT A.nU ["self"] (IB K A.aP):=by
 have vE:=Bg (P:=P) (w:=w) (base:=base) T;have jr:=vD (P:=P) (w:=w) (base:=base) T;refine T.AD.ok Al (λvs H Q E h=>?_) (λaH Ar outer s H vs Q E hr h=>?_)
 ·obtain⟨p,dx,l,ws,k,n,rfl,_⟩:=h
  rfl
 ·obtain⟨p,dx,l,ws,k,n,rfl,hw,br,n1,kn,hy,sq,q⟩:=h;refine⟨_,(az (aU (i:=1) Al.nd rfl (Or.inl rfl) (bL (aa (cJ (pv 0) T.bw T.kO jr (hr.mono (by first | decide | lia)) T.kN .nil aD) ak)))
   (az (Dt PassesOwn.never (dO (cJ (pv 0) T.bw T.uL vE (hr.mono (by first | decide | lia)) T.uK .nil aD))
   (aF (bX (dY PySem.F.plainAttrs_list PySem.F.slot_list_append PySem.F.type_list_append jQ (pv 1) (aa (cJ (pv 0) T.bw T.kO jr (hr.mono (by first | decide | lia)) T.kN .nil aD) ak)))))
   (aF (aX (pv 1))))),?_⟩
  wp_walk using T,hw.o;obtain⟨w0,Bs,Kf⟩:=z6 (hy 0 (by lia))
  refine⟨p,dx,l,ws,k,w0,rfl,hw,br,Bs,Kf,λH1 eN bF r nr=>?_⟩;have vH:=eN.back nr ⟨_,bF.o⟩;have rp:r≠p:=λz=>by rw[z,bF.o] at nr;cases nr
  have Bt:∀j,k+j<ws.length->∀w,ws[k+j]? = some w->(ws.drop k).take (j+1)=(ws.drop k).take j++[w]:=λj hj w hw=>take_succ_get (by rw[List.getElem?_drop];exact hw)
  refine⟨λm σ H'=>∃j,m=n - j/\1<=j/\j<=n/\σ = [some (.ref p),some (.ref r)]/\SameBut p H H'/\bI A.aP H' p dx l ws (k+j)/\H' r=some (.lst ((((ws.drop k).take j).map nv).map V.int)),⟨n - 1,1,rfl,Nat.le_refl _,n1,rfl,SameBut.step eN (ah.put nr),bF.same (ah.put nr),?_⟩,?_⟩
  ·have:=Bt 0 (by lia) w0 Bs
   rw[aA,this];rfl
  ·rintro m σ H' ⟨j,rfl,j1,jn,rfl,sb,vI,vJ⟩;walk_at "rdt";refine⟨dx,_,vI.o,rfl,p,dx,l,ws,k+j,rfl,vI,br,λH2 s2=>⟨_,rfl,?_⟩⟩;have b_:=vI.same s2;refine b5 (λhc=>?_) λhc=>?_
   ·have Om:j<n:=by
     rcases Nat.lt_or_ge j n with h | h
     ·exact h
     ·rw[show j=n by lia,sq] at hc;cases hc
    obtain⟨w1,kY,Kg⟩:=z6 hc;have rW:=(List.getElem?_eq_some_iff.mp kY).1;refine⟨λaG H'=>aG = [some (.ref p),some (.ref r)]/\SameBut p H H'/\bI A.aP H' p dx l ws (k+j+1)/\H' r=some (.lst ((((ws.drop k).take (j+1)).map nv).map V.int)),?_,⟨_,au.of (s2 _ _ vJ)⟩,dx,_,b_.o,rfl,p,dx,l,ws,k+j,w1,rfl,b_,br,kY,Kg,λH3 fj dI=>?_⟩
    ·rintro aG H' ⟨e1,e2,e3,e4⟩;exact⟨n - (j+1),by lia,j+1,rfl,by lia,by lia,e1,e2,e3,e4⟩
    ·have Bu:=fj _ _ (s2 _ _ vJ) rp;refine⟨_,Bu,?_,rfl,?_,?_,?_⟩
     ·have h1:=br.1;rw[List.length_map,List.length_map,List.length_take,List.length_drop];lia
     ·exact λb o e z=>by
       have e1:=fj _ _ (s2 _ _ (sb _ _ e z)) z;rw[bC (dJ e vH)];exact e1
     ·exact⟨by rw[bC (Ne.symm rp)];exact dI.o,by rw[bC (λz=>by have:=dI.w;rw[z,Bu] at this;have l0:=hw.w;rw[z,vH] at l0;cases l0)];exact dI.w⟩
     ·rw[aA,Bt j rW w1 kY,List.map_append,List.map_append];rfl
   ·have Kh:j=n:=by
     rcases Nat.lt_or_ge j n with h | h
     ·exact absurd (hy j h) hc
     ·lia
    subst Kh;exact q r _ (SameBut.step sb s2) vH b_ (s2 _ _ vJ)
theorem qh(T:Tx K mg A):aV P w K mg base bf 4 A.nW A.nX ["self", "word"] (IC K A.aP):=by
 have kZ:=vA (P:=P) (w:=w) (base:=base) T;have jr:=vD (P:=P) (w:=w) (base:=base) T;refine T.AE.ok JI (λvs H Q E h=>?_) (λaH Ar outer s H vs Q E hr h=>?_)
 ·obtain⟨p,dx,l,ws,k,w,x,rfl,_⟩:=h
  rfl
 ·obtain⟨p,dx,l,ws,k,w,x,rfl,hw,br,hk,e_,hn,q⟩:=h;refine⟨_,(az (bX (fK (pv 0) T.bw T.pP kZ (hr.mono (by first | decide | lia)) T.pO .nil aD (aa (pv 1) ak)))
   (aF (aX (cJ (pv 0) T.bw T.kO jr (hr.mono (by first | decide | lia)) T.kN .nil aD)))),?_⟩
  wp_walk using T,hw.o;exact⟨p,dx,l,ws,k,w,rfl,hw,hk,λH1 sb bF=>⟨dx,_,bF.o,rfl,p,dx,l,ws,k+1,x,rfl,bF,br,e_,hn,λH2 dB b_=>q _ (sb.tr dB) b_⟩⟩
theorem Bv(T:Tx K mg A):aV P w K mg base bf 5 A.n8 A.n_ ["words"] (IE K A.aP):=by
 have eL:=kW (P:=P) (w:=w) (base:=base) T;have kZ:=vA (P:=P) (w:=w) (base:=base) T;have vK:=Br (P:=P) (w:=w) (base:=base) T;have fW:=qh (P:=P) (w:=w) (base:=base) T;have vL:=Bh (P:=P) (w:=w) (base:=base) T;refine T.pQ.ok kq (λvs H Q E h=>?_) (λaH Ar outer s H vs Q E hr h=>?_)
 ·obtain⟨p,dx,l,ws,k,fo,la,bh,rfl,_⟩:=h
  rfl
 ·obtain⟨p,dx,l,ws,k,fo,la,bh,rfl,hw,br,hk,hd,nf,nl,nb,q⟩:=h;refine⟨_,(az (cu (aU (i:=1) kq.nd rfl (Or.inl rfl) (g7 (a_ cE (cJ (pv 0) T.bw T.gq eL (hr.mono (by first | decide | lia)) T.gn .nil aD) aM (aR _)) (fK (pv 0) T.bw T.gR fW (hr.mono (by first | decide | lia)) T.gQ .nil aD (aa aM ak)) aj)))
   (az (cu (aU (i:=2) kq.nd rfl (Or.inl rfl) (g7 (a_ cE (cJ (pv 0) T.bw T.gq eL (hr.mono (by first | decide | lia)) T.gn .nil aD) aM (aR _)) (fK (pv 0) T.bw T.gR fW (hr.mono (by first | decide | lia)) T.gQ .nil aD (aa aM ak)) dh)))
   (az (aU (i:=3) kq.nd rfl (Or.inl rfl) dh)
   (az (cu (bu (a_ cE (cJ (pv 0) T.bw T.gq eL (hr.mono (by first | decide | lia)) T.gn .nil aD) aM (aR _)) (az (bX (fK (pv 0) T.bw T.pP kZ (hr.mono (by first | decide | lia)) T.pO .nil aD (aa aM ak)))
   (aF (aU (i:=3) kq.nd rfl (Or.inl rfl) (cJ (pv 0) T.bw T.uN vK (hr.mono (by first | decide | lia)) T.uM .nil aD)))) bx))
   (az (bX (cJ (pv 0) T.bw T.uP vL (hr.mono (by first | decide | lia)) T.uO .nil aD))
   (aF (aX (eW (aa (pv 1) (aa (pv 2) (aa (pv 3) ak))))))))))),?_⟩
  wp_walk using T,hw.o;refine⟨λσ H1=>∃k1,σ = [some (.ref p),some (.int (fo.getD 0)),none,none]/\SameBut p H H1/\bI A.aP H1 p dx l ws k1/\k1<=ws.length/\ws.drop k1=bN none la bh,?_,?_⟩
  ·refine⟨p,dx,l,ws,k,rfl,hw,mO _ _ _,?_⟩;rw[sO,hd];cases fo with
   | some a =>
    have na:=nf a rfl;rw[if_pos (show cD (bN (some a) la bh) 0=V.str (Str.ofString "for") from rfl)];obtain⟨c1,c2,c3⟩:=ki (show ws.drop k=Str.ofString "for" :: tx a::bN none la bh from hd);obtain⟨c4,c5,c6⟩:=ki c2;refine⟨dx,_,hw.o,rfl,p,dx,l,ws,k,_,tx a,rfl,hw,br,c1,c4,fT na.1 na.2,λH1 sb bF=>⟨k+2,?_,sb,bF,c6,c5⟩⟩;rw[gi na.1];rfl
   | none =>
    have ne:¬ cD (bN none la bh) 0=V.str (Str.ofString "for"):=by
     cases la with
     | some a=>exact λz=>absurd (V.str.inj z) (by decide)
     | none =>
      cases bh with
      | nil=>exact λz=>V.noConfusion z
      | cons b bh=>exact λz=>absurd (V.str.inj z) (by decide)
    rw[if_neg ne];exact⟨k,rfl,SameBut.of (ah.refl _),hw,hk,hd⟩
  rintro σ H1 ⟨k1,rfl,eN,bF,kY,iz⟩;wp_walk using T,bF.o;refine⟨λσ H2=>∃k2,σ = [some (.ref p),some (.int (fo.getD 0)),some (b6 la),none]/\SameBut p H H2/\bI A.aP H2 p dx l ws k2/\k2<=ws.length/\ws.drop k2=bN none none bh,?_,?_⟩
  ·refine⟨p,dx,l,ws,k1,rfl,bF,mO _ _ _,?_⟩;rw[sO,iz];cases la with
   | some a =>
    have na:=nl a rfl;rw[if_pos (show cD (bN none (some a) bh) 0=V.str (Str.ofString "by") from rfl)]
    obtain⟨c1,c2,c3⟩:=ki (show ws.drop k1=Str.ofString "by" :: tx a::bN none none bh from iz)
    obtain⟨c4,c5,c6⟩:=ki c2;refine⟨dx,_,bF.o,rfl,p,dx,l,ws,k1,_,tx a,rfl,bF,br,c1,c4,fT na.1 na.2,λH2 sb b_=>⟨k1+2,?_,eN.tr sb,b_,c6,c5⟩⟩;rw[gi na.1];rfl
   | none =>
    have ne:¬ cD (bN none none bh) 0=V.str (Str.ofString "by"):=by
     cases bh with
     | nil=>exact λz=>V.noConfusion z
     | cons b bh=>exact λz=>absurd (V.str.inj z) (by decide)
    rw[if_neg ne];exact⟨k1,rfl,eN,bF,kY,iz⟩
  rintro σ H2 ⟨k2,rfl,dB,b_,e_,hd2⟩;wp_walk using T,b_.o;refine⟨λσ H3=>∃bv,σ = [some (.ref p),some (.int (fo.getD 0)),some (b6 la),some bv]/\SameBut p H H3/\bI A.aP H3 p dx l ws ws.length/\i7 K H3 bv bh,?_,?_⟩
  ·refine⟨p,dx,l,ws,k2,rfl,b_,mO _ _ _,?_⟩;rw[sO,hd2];cases bh with
   | nil =>
    rw[if_neg (show ¬ cD (bN none none []) 0=V.str (Str.ofString "behind") from λz=>V.noConfusion z)];have e:k2=ws.length:=by
     have:=List.drop_eq_nil_iff.mp (show ws.drop k2 = [] from hd2);lia
    subst e;exact⟨.aB,rfl,dB,b_,.inl ⟨rfl,rfl⟩⟩
   | cons b bh =>
    rw[if_pos (show cD (bN none none (b::bh)) 0=V.str (Str.ofString "behind") from rfl)];obtain⟨c1,c2,c3⟩:=ki (show ws.drop k2=Str.ofString "behind" :: (b::bh).map tx from hd2);have len:k2+1+(b::bh).length=ws.length:=by
     have:=congrArg List.length c2;rw[List.length_drop,List.length_map] at this;lia
    refine⟨dx,_,b_.o,rfl,p,dx,l,ws,k2,_,rfl,b_,c1,λH3 fj dI=>⟨dx,_,dI.o,rfl,p,dx,l,ws,k2+1,(b::bh).length,rfl,dI,br,by simp,by lia,λi hi=>?_,?_,λr H4 jt nr Kl k6=>⟨.ref r,rfl,(dB.tr fj).tr jt,by rw[← len];exact Kl,.inr ⟨r,rfl,.inl ?_⟩⟩⟩⟩
    ·rw[sP,c2];have:=z8 (r:=[]) nb hi;rwa [List.append_nil] at this
    ·unfold d9;rw[List.getElem?_eq_none (by lia)]
    ·rw[c2,List.take_of_length_le (by simp),z7 nb] at k6
     exact au.of k6
  rintro σ H3 ⟨bv,rfl,fj,dI,k7⟩;wp_walk using T,dI.o;refine⟨p,dx,l,ws,rfl,dI,λt nt=>q t bv _ (SameBut.step fj (ah.put nt)) ⟨_,ah.put nt _ _ dI.o⟩ aA ?_⟩;rcases k7 with z | ⟨a,e,z⟩
  ·exact .inl z
  ·exact .inr ⟨a,e,z.elim (λz=>.inl ((ah.put nt).seq z)) λz=>.inr (ah.put nt _ _ z)⟩
theorem Km(T:Tx K mg A):aV P w K mg base bf 5 A.oA A.oB ["words"] (IS K A.aP A.aT):=by
 have vM:=Bo (P:=P) (w:=w) (base:=base) T;have kZ:=vA (P:=P) (w:=w) (base:=base) T;have fW:=qh (P:=P) (w:=w) (base:=base) T;have vL:=Bh (P:=P) (w:=w) (base:=base) T;refine T.uU.ok Am (λvs H Q E h=>?_) (λaH Ar outer s H vs Q E hr h=>?_)
 ·obtain⟨p,dx,l,a,rfl,_⟩:=h
  rfl
 ·obtain⟨p,dx,l,a,rfl,hw,a0,a1,q⟩:=h;refine⟨_,(az (bX (fK (pv 0) T.bw T.pP kZ (hr.mono (by first | decide | lia)) T.pO .nil aD (aa aM ak)))
   (az (aU (i:=1) Am.nd rfl (Or.inl rfl) (fK (pv 0) T.bw T.gR fW (hr.mono (by first | decide | lia)) T.gQ .nil aD (aa aM ak)))
   (az (bX (cJ (pv 0) T.bw T.uP vL (hr.mono (by first | decide | lia)) T.uO .nil aD))
   (aF (aX (aZ vM (hr.mono (by first | decide | lia)) rfl T.uI T.pN.kp T.uH .nil aD (aa (pv 1) ak))))))),?_⟩
  wp_walk using T,hw.o;have br:=IV a0 a1;refine⟨p,dx,l,_,0,_,rfl,hw,rfl,λH1 eN bF=>⟨dx,_,bF.o,rfl,p,dx,l,_,1,_,tx a,rfl,bF,br,rfl,rfl,fT a0 (by lia),λH2 dB b_=>⟨dx,_,b_.o,rfl,p,dx,l,_,rfl,b_,?_⟩⟩⟩
  exact⟨a,by rw[gi a0],a0,a1,λr mk b cy H' s n hA=>q r mk b cy H' ((eN.tr dB).step s) ((eN.tr dB).back n ⟨_,b_.o⟩) hA⟩
theorem Kn(T:Tx K mg A):aV P w K mg base bf 5 A.pD A.pF ["_law_one", "_law_cell"] (Jl K A.aT):=by
 have vN:=Bp (P:=P) (w:=w) (base:=base) T;have vO:=Bq (P:=P) (w:=w) (base:=base) T;have vM:=Bo (P:=P) (w:=w) (base:=base) T;refine T.vm.ok kD (λvs H Q E h=>?_) (λaH Ar outer s H vs Q E hr h=>?_)
 ·obtain⟨t,m,b,q,c,rfl,_⟩:=h
  rfl
 ·obtain⟨t,m,b,q,c,rfl,ha,ok,k⟩:=h;refine⟨_,(az (bu (a_ cE (aE aY (pv 0) aj (λ_ _=>rfl)) aM (aR _)) (aF (aX (aZ vM (hr.mono (by first | decide | lia)) rfl T.uI T.pN.kp T.uH .nil aD (aa (aE aY (pv 0) aj (λ_ _=>rfl)) ak)))) bx)
   (az (aU (i:=2) kD.nd rfl (Or.inl rfl) (aE aY (pv 0) aj (λ_ _=>rfl)))
   (az (aU (i:=3) kD.nd rfl (Or.inl rfl) (aE aY (pv 0) aj (λ_ _=>rfl)))
   (az (cu (bu (a_ cE (aL bY (pv 1) aj) aj (aR _)) (az (aU (i:=2) kD.nd rfl (Or.inl rfl) (cF rz rfl T.jl boot_list (aa (pv 2) ak)))
   (aF (aU (i:=3) kD.nd rfl (Or.inl rfl) (cF rz rfl T.jl boot_list (aa (pv 3) ak))))) bx))
   (az (bu (a_ cE (aE aY (pv 0) aj (λ_ _=>rfl)) aM (aR _)) (aF (aX (aZ vN (hr.mono (by first | decide | lia)) rfl T.uE T.pL.kp T.uD .nil aD (aa (aE aY (pv 0) aj (λ_ _=>rfl)) (aa (aE aY (pv 0) aj (λ_ _=>rfl)) (aa (aE aY (pv 0) aj (λ_ _=>rfl)) (aa (aE aY (pv 0) aj (λ_ _=>rfl)) (aa (aE aY (pv 0) aj (λ_ _=>rfl)) (aa (pv 2) ak))))))))) bx)
   (aF (aX (aZ vO (hr.mono (by first | decide | lia)) rfl T.uG T.pM.kp T.uF .nil aD (aa (aE aY (pv 0) aj (λ_ _=>rfl)) (aa (pv 3) (aa (aE aY (pv 0) aj (λ_ _=>rfl)) (aa (aE aY (pv 0) aj (λ_ _=>rfl)) (aa (aE aY (pv 0) aj (λ_ _=>rfl)) (aa (pv 2) (aa (h_ cE (aE aY (pv 0) aj (λ_ _=>rfl)) aM (aR _)) ak))))))))))))))),?_⟩
  walk_at "rdt";refine⟨_,aC.of ha.o,_,rfl,rfl,b5 (λg=>?_) λg=>?_⟩
  ·have g2:=(mT ok).mp (V.str.inj g);cases ok with
   | rd f m' a s0 la ns hB hR hl=>exact absurd g2 (show ¬ Str.ofString "read" = Str.ofString "rest" by decide)
   | wr f a s0 ms la ns e hB bQ hR hl=>exact absurd g2 (show ¬ Str.ofString "write" = Str.ofString "rest" by decide)
   | rs a h0 h1=>exact⟨_,aC.of ha.o,_,rfl,a,rfl,h0,h1,k⟩
  refine⟨_,aC.of ha.o,_,rfl,_,aC.of ha.o,_,rfl,?_⟩;refine⟨λσ H'=>∃ba ma,σ = [some (.ref t),some (.int c),some (.ref ba),some (.ref ma)]/\ah H H'/\i7 K H' (.ref ba) q.behind/\(au K H' ma (q.marks.map V.int)\/H' ma=some (.tup (q.marks.map V.int))),?_,?_⟩
  ·refine b5 (λg1=>?_) λg1=>⟨b,m,rfl,ah.refl _,.inr ⟨b,rfl,.inr ha.bh⟩,.inr ha.ms⟩;refine⟨b,rfl,_,.inr (aC.of ha.bh),λl nl=>⟨m,rfl,_,.inr (aC.of (ah.put nl _ _ ha.ms)),λl1 n1=>⟨l,l1,rfl,(ah.put nl).trans (ah.put n1),.inr ⟨l,rfl,.inl (au.of (ah.put n1 _ _ aA))⟩,.inl (au.of aA)⟩⟩⟩
  rintro σ H1 ⟨ba,ma,rfl,s1,hb,hm⟩;have bW:=ha.same s1;walk_at "rdt";refine⟨_,aC.of bW.o,_,rfl,rfl,b5 (λg1=>?_) λg1=>?_⟩
  ·have g2:=(s_ ok).mp (V.str.inj g1);have T1:=aC.of (K:=K) bW.o;cases ok with
   | wr f a s0 ms la ns e hB bQ hR hl=>exact absurd g2 (show ¬ Str.ofString "write" = Str.ofString "read" by decide)
   | rs a h0 h1=>exact absurd g2 (show ¬ Str.ofString "rest" = Str.ofString "read" by decide)
   | rd f m' a s0 la ns hB hR hl=>exact⟨_,T1,_,rfl,_,T1,_,rfl,_,T1,_,rfl,_,T1,_,rfl,_,T1,_,rfl,f,m',a,s0,la,.ref ba,ns,rfl,hB,hb,hR,λp mk bb dx H' s2 n hA=>k p mk bb dx H' (s1.trans s2) (s1.back n) hA⟩
  ·have T1:=aC.of (K:=K) bW.o;cases ok with
   | rs a h0 h1=>exact absurd rfl g
   | rd f m' a s0 la ns hB hR hl=>exact absurd (congrArg V.str (mV f m' a s0 la ns)) g1
   | wr f a s0 ms la ns e hB bQ hR hl =>
    have ee:decide (V.str (kw ⟨Str.ofString "write",f,ms.length,ms,a,s0,la,ns,e⟩)=V.str (Str.ofString "early"))=e:=by
     rw[mU];cases e <;> decide
    exact⟨_,T1,_,rfl,_,T1,_,rfl,_,T1,_,rfl,_,T1,_,rfl,_,T1,_,rfl,rfl,f,a,s0,ma,ms,la,.ref ba,ns,e,by rw[ee],hm,bQ,hB,hb,hR,λp mk bb dx H' s2 n hA=>k p mk bb dx H' (s1.trans s2) (s1.back n) hA⟩
theorem Ko(T:Tx K mg A):aV P w K mg base bf 6 A.oh A.oq ["words"] (IP K A.aP A.aT):=by
 have vN:=Bp (P:=P) (w:=w) (base:=base) T;have jr:=vD (P:=P) (w:=w) (base:=base) T;have fW:=qh (P:=P) (w:=w) (base:=base) T;have vP:=Bv (P:=P) (w:=w) (base:=base) T;refine T.uS.ok ku (λvs H Q E h=>?_) (λaH Ar outer s H vs Q E hr h=>?_)
 ·obtain⟨p,dx,l,f,m,a,s0,la,ns,fo,rfl,_⟩:=h
  rfl
 ·obtain⟨p,dx,l,f,m,a,s0,la,ns,fo,rfl,hw,br,hB,hR,bJ,q⟩:=h;refine⟨_,(az (aU (i:=1) ku.nd rfl (Or.inl rfl) (fK (pv 0) T.bw T.gR fW (hr.mono (by first | decide | lia)) T.gQ .nil aD (aa aM ak)))
   (az (aU (i:=2) ku.nd rfl (Or.inl rfl) (cJ (pv 0) T.bw T.kO jr (hr.mono (by first | decide | lia)) T.kN .nil aD))
   (az (aU (i:=3) ku.nd rfl (Or.inl rfl) (fK (pv 0) T.bw T.gR fW (hr.mono (by first | decide | lia)) T.gQ .nil aD (aa aM ak)))
   (az (aU (i:=4) ku.nd rfl (Or.inl rfl) (aZ vP (hr.mono (by first | decide | lia)) rfl T.uR T.pQ.kp T.uQ .nil aD (aa (pv 0) ak)))
   (aF (aX (aZ vN (hr.mono (by first | decide | lia)) rfl T.uE T.pL.kp T.uD .nil aD (aa (pv 1) (aa (pv 2) (aa (pv 3) (aa (aE aY (pv 4) aj (λ_ _=>rfl)) (aa (aE aY (pv 4) aj (λ_ _=>rfl)) (aa (aE aY (pv 4) aj (λ_ _=>rfl)) ak))))))))))))),?_⟩
  wp_walk using T,hw.o;rw[sQ] at hw br;obtain⟨n1,n2,n3,n4,n5⟩:=hB.nm;refine⟨p,dx,l,_,0,_,tx f,rfl,hw,br,rfl,rfl,fT n1.1 n1.2,λH1 eN bF=>⟨dx,_,bF.o,rfl,p,dx,l,_,2,tx m,rfl,bF,br,rfl,fT n2.1 n2.2,λH2 dB b_=>⟨dx,_,b_.o,rfl,p,dx,l,_,3,_,tx a,rfl,b_,br,rfl,rfl,fT n3.1 n3.2,λH3 fj dI=>?_⟩⟩⟩;refine⟨p,dx,l,_,5,fo,la,ns,rfl,dI,br,by simp,rfl,λx e=>?_,n5,hR.nm,λt bv H4 jt vQ ht k7=>⟨t,rfl,_,aC.of ht,_,rfl,t,rfl,_,aC.of ht,_,rfl,t,rfl,_,aC.of ht,_,rfl,?_⟩⟩
  ·rw[e] at bJ;have:x=s0:=bJ;rw[this];exact n4
  ·have k8:=((eN.tr dB).tr fj).tr jt;exact⟨f,m,a,s0,la,bv,ns,by rw[gi n1.1,gi n2.1,gi n3.1,bJ],hB,k7,hR,λr mk b cy H' s n hA=>q r mk b cy H' (k8.step s) (k8.back n vQ) hA⟩
theorem Kp(T:Tx K mg A):aV P w K mg base bf 6 A.ou A.oz ["words", "early"] (IQ K A.aP A.aT):=by
 have vO:=Bq (P:=P) (w:=w) (base:=base) T;have vK:=Br (P:=P) (w:=w) (base:=base) T;have fW:=qh (P:=P) (w:=w) (base:=base) T;have vP:=Bv (P:=P) (w:=w) (base:=base) T;refine T.uT.ok kB (λvs H Q E h=>?_) (λaH Ar outer s H vs Q E hr h=>?_)
 ·obtain⟨p,dx,l,f,a,s0,ms,la,ns,e,fo,rfl,_⟩:=h
  rfl
 ·obtain⟨p,dx,l,f,a,s0,ms,la,ns,e,fo,rfl,hw,br,hB,bQ,hR,bJ,q⟩:=h;refine⟨_,(az (aU (i:=2) kB.nd rfl (Or.inl rfl) (fK (pv 0) T.bw T.gR fW (hr.mono (by first | decide | lia)) T.gQ .nil aD (aa (g7 (dO (pv 1)) aM aM) ak)))
   (az (aU (i:=3) kB.nd rfl (Or.inl rfl) (cJ (pv 0) T.bw T.uN vK (hr.mono (by first | decide | lia)) T.uM .nil aD))
   (az (aU (i:=4) kB.nd rfl (Or.inl rfl) (fK (pv 0) T.bw T.gR fW (hr.mono (by first | decide | lia)) T.gQ .nil aD (aa aM ak)))
   (az (aU (i:=5) kB.nd rfl (Or.inl rfl) (aZ vP (hr.mono (by first | decide | lia)) rfl T.uR T.pQ.kp T.uQ .nil aD (aa (pv 0) ak)))
   (aF (aX (aZ vO (hr.mono (by first | decide | lia)) rfl T.uG T.pM.kp T.uF .nil aD (aa (pv 2) (aa (pv 3) (aa (pv 4) (aa (aE aY (pv 5) aj (λ_ _=>rfl)) (aa (aE aY (pv 5) aj (λ_ _=>rfl)) (aa (aE aY (pv 5) aj (λ_ _=>rfl)) (aa (pv 1) ak)))))))))))))),?_⟩
  wp_walk using T,hw.o;rw[sR] at hw br;obtain⟨n1,n2,n3,n4,n5⟩:=hB.nm;have nm:∀x∈ms,Nm x:=λx hx=>by have:=bQ x hx;exact⟨this.1,by lia⟩
  have m1:=hB.m0;refine b5 (λhe=>?x1) λhe=>?x2
  case' x1=>rw[if_pos he] at hw br
  case' x2=>rw[if_neg he] at hw br
  all_goals
   refine⟨p,dx,l,_,0,_,tx f,rfl,hw,br,rfl,rfl,fT n1.1 n1.2,λH1 eN bF=>⟨dx,_,bF.o,rfl,p,dx,l,_,2,ms.length,rfl,bF,br,by lia,?_,λi hi=>?_,?_,λr H2 dB nr b_ j8=>⟨dx,_,b_.o,rfl,p,dx,l,_,2+ms.length,_,tx a,rfl,b_,br,?_,?_,fT n3.1 n3.2,λH3 fj dI=>?_⟩⟩⟩
   ·simp;lia
   ·rw[sP];exact z8 nm hi
   ·rw[sP];have:(ms.map tx++(Str.ofString "at" :: tx a::bN fo la ns))[ms.length]? = some (Str.ofString "at"):=by
     rw[List.getElem?_append_right (by simp)];simp
    exact(sN this).trans z_
   ·rw[show 2+ms.length=(ms.length+1)+1 by lia,List.getElem?_cons_succ,List.getElem?_cons_succ]
    rw[List.getElem?_append_right (by simp)];simp
   ·rw[show 2+ms.length+1=(ms.length+1+1)+1 by lia,List.getElem?_cons_succ,List.getElem?_cons_succ]
    rw[List.getElem?_append_right (by simp)];simp
   ·refine⟨p,dx,l,_,2+ms.length+2,fo,la,ns,rfl,dI,br,by simp;lia,?_,λx e=>?_,n5,hR.nm,λt bv H4 jt vQ ht k7=>⟨t,rfl,_,aC.of ht,_,rfl,t,rfl,_,aC.of ht,_,rfl,t,rfl,_,aC.of ht,_,rfl,?_⟩⟩
    ·rw[show 2+ms.length+2=(ms.length+2)+1+1 by lia,List.drop_succ_cons,List.drop_succ_cons,List.drop_append,List.drop_of_length_le (by simp)]
     simp
    ·rw[e] at bJ;have:x=s0:=bJ;rw[this];exact n4
    ·have k8:=((eN.tr dB).tr fj).tr jt;have rp:r≠p:=λz=>by rw[z,bF.o] at nr;cases nr
     have k6:=jt _ _ (fj _ _ j8 rp) rp;have el:∀c:Str,(List.drop 2 (c::tx f::(ms.map tx++(Str.ofString "at" :: tx a::bN fo la ns)))).take ms.length=ms.map tx:=by
      intro c
      show (ms.map tx++(Str.ofString "at" :: tx a::bN fo la ns)).take ms.length=ms.map tx;rw[List.take_append_of_le_length (by simp),List.take_of_length_le (by simp)]
     rw[el,z7 nm] at k6;exact⟨f,a,s0,r,ms,la,bv,ns,e,by rw[gi n1.1,gi n3.1,bJ],.inl (au.of k6),bQ,hB,k7,hR,λr' mk b cy H' s n hA=>q r' mk b cy H' (k8.step s) (k8.back n vQ) hA⟩
theorem Kq(T:Tx K mg A):aV P w K mg base bf 7 A.oE A.oF ["line"] (IT K A.aT):=by
 have Kr:=JV (P:=P) (w:=w) (base:=base) T;have eL:=kW (P:=P) (w:=w) (base:=base) T;have Ks:=Ko (P:=P) (w:=w) (base:=base) T;have Ku:=Kp (P:=P) (w:=w) (base:=base) T;have Kv:=Km (P:=P) (w:=w) (base:=base) T;refine T.pR.ok uw (λvs H Q E h=>?_) (λaH Ar outer s H vs Q E hr h=>?_)
 ·obtain⟨q,fo,rfl,_⟩:=h
  rfl
 ·obtain⟨q,fo,rfl,ok,bJ,Kw,k⟩:=h;refine⟨_,(az (aU (i:=1) uw.nd rfl (Or.inl rfl) (lM T.A3 Kr (hr.mono (by first | decide | lia)) rfl T.A4 T.Ax .nil aD (aa (pv 0) ak)))
   (az (aU (i:=2) uw.nd rfl (Or.inl rfl) (cJ (pv 1) T.bw T.gq eL (hr.mono (by first | decide | lia)) T.gn .nil aD))
   (az (bu (a_ cE (pv 2) aM (aR _)) (aF (aX (aZ Ks (hr.mono (by first | decide | lia)) rfl T.AH T.uS.kp T.AG .nil aD (aa (pv 1) ak)))) bx)
   (az (bu (PW.pt (f_ (a_ cE (pv 2) aM (aR _)) (g6 (a_ cE (pv 2) aM (aR _))))) (aF (aX (aZ Ku (hr.mono (by first | decide | lia)) rfl T.AJ T.uT.kp T.AI .nil aD (aa (pv 1) (aa (h_ cE (pv 2) aM (aR _)) ak))))) bx)
   (aF (aX (aZ Kv (hr.mono (by first | decide | lia)) rfl T.AL T.uU.kp T.AK .nil aD (aa (pv 1) ak)))))))),?_⟩
  walk_at "rdt";intro x dx nx e9 cG;refine⟨x,dx,aW q fo,rfl,aA,List.cons_ne_nil _ _,Aa ok bJ,ji ok bJ,λl H2 sb nl hw=>⟨rfl,dx,_,hw.o,rfl,x,dx,l,_,0,rfl,hw,?_⟩⟩;have fin:∀H',SameBut x H2 H'->ah H H':=λH' gw b o e=>gw _ _ (sb _ _ (by rw[bC (dJ e nx),bC (dJ e e9)];exact e) (dJ e nx)) (dJ e nx)
  have aB:∀r,H2 r=none->H r=none:=λr n=>by
   cases e:H r with
   | none=>rfl
   | some o=>rw[fin H2 (SameBut.of (ah.refl _)) _ _ e] at n;cases n
  have br:=ji ok bJ;refine⟨mO _ _ _,?_⟩;cases ok with
  | rd f m a s0 la ns hB hR hl =>
   rw[if_pos (show cD (aW _ fo) 0=V.str (Str.ofString "read") by rw[sQ];rfl)]
   exact⟨x,dx,l,f,m,a,s0,la,ns,fo,rfl,hw,br,hB,hR,bJ,λr mk b cy H' gw n hA=>k r mk b cy H' (fin _ gw) (aB r n) hA⟩
  | wr f a s0 ms la ns e hB bQ hR hl =>
   have eu:cD (aW ⟨Str.ofString "write",f,ms.length,ms,a,s0,la,ns,e⟩ fo) 0=V.str (if e=true then Str.ofString "early" else Str.ofString "write"):=by rw[sR];rfl
   rw[eu];cases e with
   | true =>
    rw[if_pos rfl,if_neg (by decide)]
    refine⟨rfl,?_⟩;rw[if_neg (by decide)]
    refine⟨rfl,?_⟩;rw[if_pos rfl];exact⟨rfl,x,dx,l,f,a,s0,ms,la,ns,true,fo,by rw[decide_eq_true rfl],hw,br,hB,bQ,hR,bJ,λr mk b cy H' gw n hA=>k r mk b cy H' (fin _ gw) (aB r n) hA⟩
   | false =>
    rw[if_neg (c:=false=true) (by decide),if_neg (by decide)]
    refine⟨rfl,?_⟩;rw[if_pos rfl];exact⟨rfl,x,dx,l,f,a,s0,ms,la,ns,false,fo,by rw[decide_eq_false (by decide)],hw,br,hB,bQ,hR,bJ,λr mk b cy H' gw n hA=>k r mk b cy H' (fin _ gw) (aB r n) hA⟩
  | rs a h0 h1 =>
   have:=Kw rfl;subst this;rw[z9] at hw;have eu:cD (aW ⟨Str.ofString "rest",0,0,[],a,0,none,[],false⟩ none) 0=V.str (Str.ofString "rest"):=by rw[z9];rfl
   rw[eu,if_neg (by decide)]
   refine⟨rfl,?_⟩;rw[if_neg (by decide)]
   refine⟨rfl,?_⟩;rw[if_neg (by decide)]
   exact⟨x,dx,l,a,rfl,hw,h0,h1,λr mk b cy H' gw n hA=>k r mk b cy H' (fin _ gw) (aB r n) hA⟩
theorem Ky(T:Tx K mg A):aV P w K mg base bf 8 A.pB A.pC ["_law_ask", "_law_one"] (Jm K A.aT):=by
 have qg:=Bf (P:=P) (w:=w) (base:=base) T;have Bw:=Kc (P:=P) (w:=w) (base:=base) T;refine T.pY.ok mX (λvs H Q E h=>?_) (λaH Ar outer s H vs Q E hr h=>?_)
 ·obtain⟨p,t,m,b,q,mk,bb,dx,rfl,_⟩:=h
  rfl
 ·obtain⟨p,t,m,b,q,mk,bb,dx,rfl,ha,hl,ok,k⟩:=h;have jo:=hr.qY;refine⟨_,(az (aU (i:=2) mX.nd rfl (Or.inl rfl) (aE aY (pv 1) aj (λ_ _=>rfl)))
   (az (cu (bu (a_ cE (pv 2) aM (aR _)) (aF (aU (i:=2) mX.nd rfl (Or.inl rfl) aM)) bx))
   (az (bu (PW.pt (f_ (fG (dO (dW i6 rfl T.gu boot_isinstance (aa (bg (pv 0) rfl) (aa (iK (v:=.ty "str") rfl T.cV boot_str rfl) ak))))) (f_ (a_ eU (bg (pv 0) rfl) (pv 2) (aR _)) (g6 (fG (dO (dW i6 rfl T.gu boot_isinstance (aa (bg (pv 0) rfl) (aa (iK (v:=.ty "bool") rfl T.kT boot_bool rfl) ak))))))))) (aF (aX dc)) bx)
   (az (bu (a_ eU (bg (pv 0) rfl) (h_ cE (aE aY (pv 1) aj (λ_ _=>rfl)) aM (aR _)) (aR _)) (aF (aX dc)) bx)
   (az (jE PassesOwn.never rfl (lF (bL (aa (bg (pv 0) rfl) (aa (bg (pv 0) rfl) (aa (bg (pv 0) rfl) (aa (bg (pv 0) rfl) ak)))))) (d_ (i:=3) mX.nd rfl (Or.inl rfl))
   (aF (bu (fG (dO (aZ qg (hr.mono (by first | decide | lia)) rfl T.pW T.kP.kp T.pU .nil aD (aa (pv 3) ak)))) (aF (aX dc)) bx)))
   (az (bu (a_ (FA jo) (bL (aa (bg (pv 0) rfl) (aa (bg (pv 0) rfl) (aa (bg (pv 0) rfl) (aa (bg (pv 0) rfl) ak))))) (bL (aa (aE aY (pv 1) aj (λ_ _=>rfl)) (aa (aE aY (pv 1) aj (λ_ _=>rfl)) (aa (aE aY (pv 1) aj (λ_ _=>rfl)) (aa (aE aY (pv 1) aj (λ_ _=>rfl)) ak))))) (aR _)) (aF (aX dc)) bx)
   (az (bu (a_ x_ (aE aY (pv 1) aj (λ_ _=>rfl)) dh (aR _)) (aF (bu (a_ iQ (bg (pv 0) rfl) dh (aR _)) (aF (aX dc)) bx)) (aF (bu (PW.pt (f_ (fG (dO (aZ qg (hr.mono (by first | decide | lia)) rfl T.pW T.kP.kp T.pU .nil aD (aa (bg (pv 0) rfl) ak)))) (g6 (a_ eU (bg (pv 0) rfl) (aE aY (pv 1) aj (λ_ _=>rfl)) (aR _))))) (aF (aX dc)) bx)))
   (az (bu (PW.pt (f_ (fG (dO (aZ Bw (hr.mono (by first | decide | lia)) rfl T.vg T.pX.kp T.vf .nil aD (aa (bg (pv 0) rfl) ak)))) (g6 (a_ (Af jo) (bg (pv 0) rfl) (aE aY (pv 1) aj (λ_ _=>rfl)) (aR _))))) (aF (aX dc)) bx)
   (aF (aX (lB (aZ Bw (hr.mono (by first | decide | lia)) rfl T.vg T.pX.kp T.vf .nil aD (aa (bg (pv 0) rfl) ak)) (lA (h_ (Jh jo) (bg (pv 0) rfl) (aE aY (pv 1) aj (λ_ _=>rfl)) (aR _)))))))))))))),?_⟩
  wp_walk using T,ha.o;have kk:(kw q=Str.ofString "early"->q.kind=Str.ofString "write")/\(kw q≠Str.ofString "early"->kw q=q.kind)/\decide (kw q=Str.ofString "early")=q.early:=by
   cases ok with
   | rd f m' a s0 la ns hB hR hl=>rw[mV];exact⟨λz=>absurd z (by decide),λ_=>rfl,(show decide (Str.ofString "read" = Str.ofString "early")=false by decide)⟩
   | wr f a s0 ms la ns e hB bQ hR hl =>
    rw[mU];cases e with
    | true=>exact⟨λ_=>rfl,λz=>absurd rfl z,(show decide ((if true=true then Str.ofString "early" else Str.ofString "write")=Str.ofString "early")=true by decide)⟩
    | false=>exact⟨λ_=>rfl,λ_=>rfl,(show decide ((if false=true then Str.ofString "early" else Str.ofString "write")=Str.ofString "early")=false by decide)⟩
   | rs a h0 h1=>exact⟨λz=>absurd z (show ¬ (if false=true then Str.ofString "early" else Str.ofString "rest")=Str.ofString "early" by decide),λ_=>rfl,(show decide ((if false=true then Str.ofString "early" else Str.ofString "rest")=Str.ofString "early")=false by decide)⟩
  refine⟨_,aC.of hl.o,_,rfl,rfl,λσ H'=>σ = [some (.ref p),some (.ref t),some (.str q.kind),none]/\H' = H,?_,?_⟩
  ·refine b5 (λg=>⟨by rw[kk.1 (V.str.inj g)],rfl⟩) λg=>⟨by rw[kk.2.1 λz=>g (congrArg V.str z)],rfl⟩
  rintro σ H1 ⟨rfl,rfl⟩;wp_walk using T,ha.o;have F:=ok.facts;refine⟨_,.str _,_,rfl,ite_no (by simp) (ite_no (by simp) ⟨_,.bl _,_,rfl,ite_no (by simp) ⟨_,aC.of hl.o,_,rfl,rfl,ite_no ?_ ?_⟩⟩)⟩
  ·intro z;apply z;rw[← kk.2.2];exact Bool.eq_iff_iff.mpr (by simp only[decide_eq_true_eq];exact⟨λy=>congrArg V.str y,λy=>V.str.inj y⟩)
  refine Jo (.lst ([q.first,q.many,q.at_,q.cC].map V.int)) (λQ' q'=>?_) λp1 n1=>?_
  ·wp_walk using T,ha.o;exact q'
  have s1:=ah.put (o:=.lst ([q.first,q.many,q.at_,q.cC].map V.int)) n1;refine rl p1 ([q.first,q.many,q.at_,q.cC].map V.int) (λi σ H'=>∃x,σ = [some (.ref p),some (.ref t),some (.str q.kind),x]/\ah (upd H1 p1 (.lst ([q.first,q.many,q.at_,q.cC].map V.int))) H') (λQ q=>q) (au.of aA) ⟨none,rfl,ah.refl _⟩ ?_ ?_ ?_
  ·rintro i σ H' _ ⟨x,rfl,e⟩;exact au.of (e _ _ aA)
  ·rintro i x σ H' N hN hx ⟨x0,rfl,e⟩;obtain⟨n,hn,rfl⟩:=e7 hx;walk_at "rdt";exact⟨n,rfl,_,rfl,ite_no (by simp) (hN _ _ ⟨_,rfl,e⟩)⟩
  ·rintro σ H2 ⟨x,rfl,e⟩;have s2:=s1.trans e;have qd:=ha.same s2;have lX:=hl.same s2;wp_walk using T,qd.o;intro p2 n2;have t2:=ah.put (o:=.lst [V.int q.first,V.int q.many,V.int q.at_,V.int q.cC]) n2;have k9:=lX.same t2;refine⟨_,aC.of k9.o,_,rfl,_,aC.of k9.o,_,rfl,_,aC.of k9.o,_,rfl,_,aC.of k9.o,_,rfl,λp3 n3=>?_⟩;have t3:=ah.put (o:=.lst [V.int q.first,V.int q.many,V.int q.at_,V.int q.cC]) n3;have qi:=k9.same t3;have eK:=(qd.same t2).same t3;have s4:=s2.trans (t2.trans t3);refine⟨_,au.of (t3 _ _ aA),au.of aA,λv hv=>?_,_,aC.of qi.o,_,rfl,?_⟩
   ·simp only[List.mem_cons,List.not_mem_nil,or_false] at hv;rcases hv with rfl | rfl | rfl | rfl <;> exact⟨λ_=>V.noConfusion,λ_=>V.noConfusion⟩
   generalize upd (upd H2 p2 (.lst [V.int q.first,V.int q.many,V.int q.at_,V.int q.cC])) p3 (.lst [V.int q.first,V.int q.many,V.int q.at_,V.int q.cC])=H4 at *
   cases el:q.e8 with
   | none =>
    rw[if_pos (show b6 none=V.aB from rfl)];wp_walk using T,eK.o;rw[if_neg (show ¬ ¬ b6 q.e8=V.aB by rw[el];exact λz=>z rfl)]
    refine⟨mk,q.marks,rfl,eK.ms,by have:=F.ml;lia,λH5 s5=>⟨true,rfl,ite_no (by simp) ?_⟩⟩
    have dG:=eK.same s5;have iE:=qi.same s5;refine⟨_,_,_,dG.o,T.dF,T.iD,_,rfl,_,aC.of iE.o,_,rfl,mk,rfl,m,rfl,_,dG.ms,_,iE.ms,ite_no (by simp) ?_⟩
    refine⟨_,_,_,dG.o,T.dF,T.gS,_,rfl,bb,q.behind,rfl,dG.bh,by have:=F.bl;lia,λH6 s6=>?_⟩
    have dH:=dG.same s6;have k_:=iE.same s6;refine⟨true,rfl,ite_yes rfl ⟨_,_,_,dH.o,T.dF,T.gS,_,rfl,_,aC.of k_.o,_,rfl,bb,rfl,b,rfl,_,dH.bh,_,k_.bh,?_⟩⟩;rw[decide_eq_true rfl];exact k _ (s4.trans (s5.trans s6))
   | some x =>
    rw[if_neg (show ¬ b6 (some x)=V.aB from λz=>V.noConfusion z)];wp_walk using T,eK.o;refine⟨x,by rw[el];rfl,true,rfl,ite_no (by simp) ⟨_,_,_,eK.o,T.dF,T.p9,_,rfl,_,aC.of qi.o,_,rfl,by rw[el];rfl,ite_no (by simp) ⟨_,_,_,eK.o,T.dF,T.iD,_,rfl,?_⟩⟩⟩
    refine⟨mk,q.marks,rfl,eK.ms,by have:=F.ml;lia,λH5 s5=>⟨true,rfl,ite_no (by simp) ?_⟩⟩
    have dG:=eK.same s5;have iE:=qi.same s5;refine⟨_,_,_,dG.o,T.dF,T.iD,_,rfl,_,aC.of iE.o,_,rfl,mk,rfl,m,rfl,_,dG.ms,_,iE.ms,ite_no (by simp) ?_⟩
    refine⟨_,_,_,dG.o,T.dF,T.gS,_,rfl,bb,q.behind,rfl,dG.bh,by have:=F.bl;lia,λH6 s6=>?_⟩
    have dH:=dG.same s6;have k_:=iE.same s6;refine⟨true,rfl,ite_yes rfl ⟨_,_,_,dH.o,T.dF,T.gS,_,rfl,_,aC.of k_.o,_,rfl,bb,rfl,b,rfl,_,dH.bh,_,k_.bh,?_⟩⟩;rw[decide_eq_true rfl];exact k _ (s4.trans (s5.trans s6))
theorem Kz(T:Tx K mg A):aV P w K mg base bf 9 A.pG A.pH ["_law_script"] (mw K):=by
 have Bx:=Kq (P:=P) (w:=w) (base:=base) T;have KA:=J6 (P:=P) (w:=w) (base:=base) T;have KC:=JZ (P:=P) (w:=w) (base:=base) T;have vC:=Bd (P:=P) (w:=w) (base:=base) T;have KD:=J_ (P:=P) (w:=w) (base:=base) T;have KG:=J2 (P:=P) (w:=w) (base:=base) T;have By:=Ky (P:=P) (w:=w) (base:=base) T;have KH:=Kn (P:=P) (w:=w) (base:=base) T;refine T.A2.ok iC (λvs H Q E h=>?_) (λaH Ar outer s H vs Q E hr h=>?_)
 ·obtain⟨a,ns,rfl,_⟩:=h
  rfl
 ·obtain⟨a,ns,rfl,hS,hl,q⟩:=h;have jo:=hr.qY;refine⟨_,(az (jE PassesOwn.never rfl (lF (aL dZ (aZ vC (hr.mono (by first | decide | lia)) rfl T.vc T.pT.kp T.u_ .nil aD (aa (aZ KC (hr.mono (by first | decide | lia)) rfl T.AV T.u9.kp T.AU .nil aD (aa (pv 0) (aa aj ak))) (aa aj ak))) (lP lT (pv 0) lN (lO aj)))) (d_ (i:=1) iC.nd rfl (Or.inl rfl))
   (az (aU (i:=2) iC.nd rfl (Or.inl rfl) (aZ KD (hr.mono (by first | decide | lia)) rfl T.AX T.vd.kp T.AW .nil aD (aa (pv 1) ak)))
   (az (aU (i:=3) iC.nd rfl (Or.inl rfl) (aZ KG (hr.mono (by first | decide | lia)) rfl T.AZ T.ve.kp T.AY .nil aD (aa (pv 2) ak)))
   (az (aU (i:=4) iC.nd rfl (Or.inl rfl) (aZ KA (hr.mono (by first | decide | lia)) rfl T.AS T.u7.kp T.AR .nil aD (aa (aZ KH (hr.mono (by first | decide | lia)) rfl T.A1 T.vm.kp T.A0 .nil aD (aa (pv 2) (aa (pv 1) ak))) ak)))
   (az (bu (PW.pt (f_ (fG (dO (dW i6 rfl T.gu boot_isinstance (aa (pv 4) (aa (iK (v:=.ty "str") rfl T.cV boot_str rfl) ak))))) (f_ (a_ eU (pv 4) (pv 3) (aR _)) (g6 (fG (dO (aZ By (hr.mono (by first | decide | lia)) rfl T.vj T.pY.kp T.vh .nil aD (aa (aZ Bx (hr.mono (by first | decide | lia)) rfl T.uX T.pR.kp T.uW .nil aD (aa (pv 3) ak)) (aa (pv 2) ak))))))))) (aF (aX dc)) bx)
   (aF (bu (PW.pt (xR (a_ eU (aE aY (pv 2) aj (λ_ _=>rfl)) aM (aR _)) (xQ (a_ cE (aE aY (pv 2) aj (λ_ _=>rfl)) aj (aR _))))) (az (aU (i:=5) iC.nd rfl (Or.inl rfl) (dY PySem.F.plainAttrs_str PySem.F.slot_str_split PySem.F.type_str_split zP (pv 3) (aa aM ak)))
   (az (aU (i:=6) iC.nd rfl (Or.inl rfl) (aL cN (dY PySem.F.plainAttrs_list PySem.F.slot_list_index PySem.F.type_list_index Ib (pv 5) (aa aM ak)) aj))
   (aF (bu (fG (dO (aZ By (hr.mono (by first | decide | lia)) rfl T.vj T.pY.kp T.vh .nil aD (aa (aZ Bx (hr.mono (by first | decide | lia)) rfl T.uX T.pR.kp T.uW .nil aD (aa (dY PySem.F.plainAttrs_str PySem.F.slot_str_join PySem.F.type_str_join sE aM (aa (aL dZ (aL dZ (lP lT (pv 5) lN (lO (pv 6))) (bL (aa aM (aa aM ak)))) (lP lT (pv 5) (lO (pv 6)) lN)) ak)) ak)) (aa (pv 2) ak))))) (aF (aX dc)) bx)))) bx)))))))
   (aF (aX dc))),?_⟩
  wp_walk using T,rN;refine FH ?_;wp_walk using T,rN;refine⟨ns,hS,hl,_,_,rfl,by decide,by decide,λl0 xs H1 s1 Oo h0 KI=>?_⟩
  refine⟨_,s1.seq hS,λl1 BA=>⟨_,rfl,_,ah.put BA _ _ h0,?_,λl2 BB=>?_⟩⟩
  ·obtain⟨ms,e,el⟩:=yS ns none (some 40);have:=KI.len;rw[e];simp;lia
  obtain⟨ms,e,el⟩:=yS ns none (some 40);rw[e] at BB ⊢;have s9:=(ah.put (o:=HO.lst (ms.map V.int)) BA).trans (ah.put (o:=HO.lst (xs.map V.int++ms.map V.int)) BB);rw[← List.map_append] at s9 ⊢;have h9:=aA (H:=upd H1 l1 (HO.lst (ms.map V.int))) (a:=l2) (o:=HO.lst ((xs++ms).map V.int));generalize xs++ms=cs at s9 h9 ⊢;generalize upd (upd H1 l1 (HO.lst (ms.map V.int))) l2 (HO.lst (cs.map V.int))=H9 at s9 h9 ⊢;refine mq.by l2 (cs.map V.int) (λi σ H'=>∃x1 x2 x3 x4 x5 x6,σ = [some (.ref a),x1,x2,x3,x4,x5,x6]/\ah H9 H') (au.of h9) ⟨_,_,_,_,_,_,rfl,ah.refl _⟩ (by rintro i σ H' _ ⟨_,_,_,_,_,_,rfl,s⟩;exact au.of (s _ _ h9)) ?_ ?_
  ·rintro i x σ KJ N hN hx ⟨y1,y2,y3,y4,y5,y6,rfl,BC⟩;obtain⟨c,qK,rfl⟩:=e7 hx;walk_at "rdt";refine⟨c,rfl,λt m b qq Oq KL nt ha ok=>⟨t,m,b,qq,rfl,ha,ok,λOt vR=>⟨t,m,b,qq,c,rfl,ha.same vR,ok,λp mk bb dx Ou jq np hp=>⟨p,qq,mk,bb,dx,rfl,hp,ok,λOv BD=>?_⟩⟩⟩⟩;have BE:=ha.same (vR.trans (jq.trans BD));have fo:=sZ qq;have fr:qq.kind=Str.ofString "rest"->dD qq=none:=λz=>by
    cases ok with
    | rd f m' a s0 la ns hB hR hl=>exact absurd z (show ¬ Str.ofString "read" = Str.ofString "rest" by decide)
    | wr f a s0 ms la ns e hB bQ hR hl=>exact absurd z (show ¬ Str.ofString "write" = Str.ofString "rest" by decide)
    | rs a h0 h1=>rfl
   refine⟨_,.str _,true,rfl,ite_no (by decide) ⟨rfl,ite_no (λz=>z rfl) ⟨qq,dD qq,rfl,ok,fo,fr,λr KN b2 KO Ow vU nr KP=>⟨r,t,m,b,qq,KN,b2,KO,rfl,KP,BE.same vU,ok,λBF BG=>⟨true,rfl,ite_no (by decide) ?_⟩⟩⟩⟩⟩
   have vV:=(BE.same vU).same BG;have sA:=BC.trans (KL.trans (vR.trans (jq.trans (BD.trans (vU.trans BG)))));refine⟨t,rfl,_,aC.of vV.o,_,rfl,rfl,b5 (λg1=>⟨t,rfl,_,aC.of vV.o,_,rfl,rfl,b5 (λg2=>?_) λ_=>hN _ _ ⟨_,_,_,_,_,_,rfl,sA⟩⟩) λ_=>hN _ _ ⟨_,_,_,_,_,_,rfl,sA⟩⟩;have en:dD qq=none:=if_pos (V.int.inj g2);rw[en] at fo;rw[en];have l1:=ji ok fo;have Ox:=l1.join;have l3:=l1.1;have sp:=Jw ok fo;refine⟨trivial,_,blank,rfl,rfl,by decide,by rw[sizeLine_eq];lia,by rw[sp,sizeLine_eq];lia,λl nl=>?_⟩
   rw[sp];have sL:=ah.put (o:=HO.lst ((aW qq none).map V.str)) nl;refine⟨⟨_,au.of aA⟩,l,aW qq none,_,_,rfl,rfl,aA,Jr qq none,Js ok none,?_⟩;have hL:=aA (H:=BF) (a:=l) (o:=HO.lst ((aW qq none).map V.str));generalize upd BF l (HO.lst ((aW qq none).map V.str))=Oz at sL hL ⊢;have ei:(((bV qq).length+1:Nat):Int)+2=(((bV qq).length+3:Nat):Int):=by lia
   have BH:(bV qq).length+3<=((aW qq none).map V.str).length:=by
    rw[List.length_map,tu,List.length_append,Ai];lia
   refine⟨_,rfl,?_⟩;rw[ei];refine⟨l,rfl,_,au.of hL,?_⟩;rw[Jt BH];intro p1 n1 p2 n2;have t2:=(ah.put (o:=HO.lst (((aW qq none).map V.str).take ((bV qq).length+3))) n1).trans (ah.put (o:=HO.lst [V.str (Str.ofString "for"),V.str (Str.ofString "0")]) n2);refine⟨_,ah.put n2 _ _ aA,by rw[List.length_take,List.length_map];lia,λp3 n3=>?_⟩
   have t3:=t2.trans (ah.put (o:=HO.lst (((aW qq none).map V.str).take ((bV qq).length+3)++[V.str (Str.ofString "for"),V.str (Str.ofString "0")])) n3);refine⟨l,rfl,_,au.of (t3 _ _ hL),?_⟩;rw[Ju BH];intro p4 n4;have t4:=t3.trans (ah.put (o:=HO.lst (((aW qq none).map V.str).drop ((bV qq).length+3))) n4);refine⟨_,ah.put n4 _ _ aA,by simp;lia,λp5 n5=>?_⟩
   have KQ:(((aW qq none).map V.str).take ((bV qq).length+3)++[V.str (Str.ofString "for"),V.str (Str.ofString "0")])++((aW qq none).map V.str).drop ((bV qq).length+3)=(aW qq (some 0)).map V.str:=by
    rw[← Jv,List.map_append,List.map_append,List.map_take,List.map_drop];rfl
   rw[KQ];have t5:=t4.trans (ah.put (o:=HO.lst ((aW qq (some 0)).map V.str)) n5);have BI:gj qq (some 0):=(V.int.inj g2).symm;have kr:qq.kind=Str.ofString "rest"->some (0:Int)=none:=λz=>absurd (congrArg V.str ((mT ok).mpr z)) g1;refine⟨blank,p5,_,rfl,rfl,au.of aA,(ji ok BI).sum,qq,some 0,rfl,ok,BI,kr,λr3 KR b3 KS OA BJ OB KU=>⟨r3,t,m,b,qq,KR,b3,KS,rfl,KU,((vV.same sL).same t5).same BJ,ok,λOC KW=>⟨true,rfl,ite_no (by decide) (hN _ _ ⟨_,_,_,_,_,_,rfl,sA.trans (sL.trans (t5.trans (BJ.trans KW)))⟩)⟩⟩⟩
  ·rintro σ KJ ⟨_,_,_,_,_,_,rfl,BC⟩;walk_at "rdm";exact q _
end
theorem ju{C:List Value->Prop}(h:C []):∀us:List Value,us.length=0->C us:=λ| [],_=>h
theorem bG{n:Nat}{C:List Value->Prop}(h:∀a us,us.length=n->C (a::us)):∀us:List Value,us.length=n+1->C us:=λ| a::us,e=>h a us (Nat.succ.inj e)
theorem BK{K:W.Frag}{fd:FuncData}{ps:List Str}{ds:List Value}(n:Nat)(e:n+ds.length=ps.length)(h:∀s,K.In s.heap->∀us:List Value,us.length=n->BindsTo s fd ⟨us,[]⟩ (ps.zip (us++ds))):Binds K fd ps ds:=λs us X hl=>h s X us (by rw[List.length_append] at hl;lia)
theorem cj{C:List Value->Prop}(h:∀a0,C [a0]):∀us:List Value,us.length=1->C us:=bG λa0=>ju (h a0)
theorem gU{C:List Value->Prop}(h:∀a0 a1,C [a0,a1]):∀us:List Value,us.length=2->C us:=bG λa0=>bG λa1=>ju (h a0 a1)
theorem KY{C:List Value->Prop}(h:∀a0 a1 a2 a3,C [a0,a1,a2,a3]):∀us:List Value,us.length=4->C us:=bG λa0=>bG λa1=>bG λa2=>bG λa3=>ju (h a0 a1 a2 a3)
theorem BL{C:List Value->Prop}(h:∀a0 a1 a2 a3 a4 a5,C [a0,a1,a2,a3,a4,a5]):∀us:List Value,us.length=6->C us:=bG λa0=>bG λa1=>bG λa2=>bG λa3=>bG λa4=>bG λa5=>ju (h a0 a1 a2 a3 a4 a5)
theorem KZ{C:List Value->Prop}(h:∀a0 a1 a2 a3 a4 a5 a6,C [a0,a1,a2,a3,a4,a5,a6]):∀us:List Value,us.length=7->C us:=bG λa0=>bG λa1=>bG λa2=>bG λa3=>bG λa4=>bG λa5=>bG λa6=>ju (h a0 a1 a2 a3 a4 a5 a6)
theorem K0{C:List Value->Prop}(h:∀a0 a1 a2 a3 a4 a5 a6 a7 a8 a9,C [a0,a1,a2,a3,a4,a5,a6,a7,a8,a9]):∀us:List Value,us.length=10->C us:=bG λa0=>bG λa1=>bG λa2=>bG λa3=>bG λa4=>bG λa5=>bG λa6=>bG λa7=>bG λa8=>bG λa9=>ju (h a0 a1 a2 a3 a4 a5 a6 a7 a8 a9)
theorem all_mk{l:W.OpenLaw}{w:World}{K:W.Frag}{h:Heap}{mg:Str->Option Value}{fa:Addr}{qj vW vX vY vZ qk ql qm qo v_ wc qp qt qu qw qx qy qz qA we wg wj wk wm wu wz wA wB wC wD wF wG wH wI wJ wK wL:Addr}{K1 wM K2 K3 wN K4 K5 wO:Option Addr}{K6 K7 K8 K9 K_:Array (Option Value)}{La wQ wR wU qB wV Lb Lc wW wX wY qC wZ Ld Le w4 w5 w6 qD w_:Value}{Lf Lg:Nat}{BN BO:Tok}{BP BQ BR BS BU BV BW BX BY BZ B0 B3 B4 B5 B6 B7 B8 B9 B_ Ca Cb Cc Cd Ce Cf Cg Ci Cj Ck Cm Cn Co:FuncData}{aT:Addr}{aP:Addr}{kE:Tok}{kF:Tok}{kG:Tok}{kH:Tok}{kI:Tok}{kJ:Tok}{kK:Tok}{kL:Tok}{kM:Tok}(X:K.In h)(G:h.Ns mainGlobals mg)(Lh:mg "law" = some (.ref fa))
  (Li:W.nsIn K mainGlobals "Ask" = some (some (.ref aT)))
  (Lj:W.nsIn K mainGlobals "Words" = some (some (.ref aP)))
  (Lk:W.findIn K (.ref aT) "__init__" = some (some (.ref qj)))
  (Ll:W.isFn K (.ref qj)=true)
  (F0:aI K "__init__" "Ask.__init__" tw qj BP)
  (Lm:W.nsIn K mainGlobals "check_between" = some (some (.ref vW)))
  (F1:aI K "check_between" "check_between" tD vW BQ)
  (Ln:W.nsIn K mainGlobals "check_behind" = some (some (.ref vX)))
  (F2:aI K "check_behind" "check_behind" tE vX BR)
  (Lo:W.nsIn K mainGlobals "check_fields" = some (some (.ref vY)))
  (F3:aI K "check_fields" "check_fields" tF vY BS)
  (Lp:W.nsIn K mainGlobals "told_behind" = some (some (.ref vZ)))
  (F4:aI K "told_behind" "told_behind" tG vZ BU)
  (Lq:W.nsIn K mainGlobals "reading" = some (some (.ref qk)))
  (Lr:K.lookup qk=some ⟨La,K1,.func (W.fnOf "reading" "reading" (cT eF) (cK eF) (aO eF) (.ref ql) wQ wR wU wM qB wV),K6⟩)
  (Ls:K.lookup ql=some ⟨Lb,K2,.seq #[.int 0 BN,.none,.none] Lf,K7⟩)
  (Lu:W.codeIn K qB "reading" = true)
  (Lv:W.keepIn K (.ref qk)=true)
  (Lw:W.nsIn K mainGlobals "writing" = some (some (.ref qm)))
  (Lx:K.lookup qm=some ⟨Lc,K3,.func (W.fnOf "writing" "writing" (cT eG) (cK eG) (aO eG) (.ref qo) wW wX wY wN qC wZ),K8⟩)
  (Ly:K.lookup qo=some ⟨Ld,K4,.seq #[.int 0 BO,.none,.none,.bool false] Lg,K9⟩)
  (Lz:W.codeIn K qC "writing" = true)
  (LA:W.keepIn K (.ref qm)=true)
  (LB:W.nsIn K mainGlobals "resting" = some (some (.ref v_)))
  (F7:aI K "resting" "resting" tH v_ BV)
  (LC:W.nsIn K mainGlobals "is_number" = some (some (.ref wc)))
  (F8:aI K "is_number" "is_number" tK wc BW)
  (LD:W.findIn K (.ref aP) "__init__" = some (some (.ref qp)))
  (LF:W.isFn K (.ref qp)=true)
  (F9:aI K "__init__" "Words.__init__" tL qp BX)
  (LG:W.findIn K (.ref aP) "upcoming" = some (some (.ref qt)))
  (LH:W.isFn K (.ref qt)=true)
  (xg:aI K "upcoming" "Words.upcoming" tM qt BY)
  (LI:W.findIn K (.ref aP) "has_number" = some (some (.ref qu)))
  (LJ:W.isFn K (.ref qu)=true)
  (xh:aI K "has_number" "Words.has_number" tN qu BZ)
  (LK:W.findIn K (.ref aP) "take_word" = some (some (.ref qw)))
  (LL:W.isFn K (.ref qw)=true)
  (xj:aI K "take_word" "Words.take_word" tO qw B0)
  (LM:W.findIn K (.ref aP) "take_number" = some (some (.ref qx)))
  (LN:W.isFn K (.ref qx)=true)
  (xm:aI K "take_number" "Words.take_number" tQ qx B3)
  (LO:W.findIn K (.ref aP) "take_numbers" = some (some (.ref qy)))
  (LP:W.isFn K (.ref qy)=true)
  (xq:aI K "take_numbers" "Words.take_numbers" tR qy B4)
  (LQ:W.findIn K (.ref aP) "take_number_behind" = some (some (.ref qz)))
  (LR:W.isFn K (.ref qz)=true)
  (xr:aI K "take_number_behind" "Words.take_number_behind" tT qz B5)
  (LS:W.findIn K (.ref aP) "take_end" = some (some (.ref qA)))
  (LU:W.isFn K (.ref qA)=true)
  (xu:aI K "take_end" "Words.take_end" tU qA B6)
  (LV:W.nsIn K mainGlobals "take_more" = some (some (.ref we)))
  (Cp:aI K "take_more" "take_more" tV we B7)
  (LW:W.nsIn K mainGlobals "read_of" = some (some (.ref wg)))
  (Cq:aI K "read_of" "read_of" tW wg B8)
  (LX:W.nsIn K mainGlobals "write_of" = some (some (.ref wj)))
  (Cr:aI K "write_of" "write_of" tX wj B9)
  (LY:W.nsIn K mainGlobals "rest_of" = some (some (.ref wk)))
  (Cs:aI K "rest_of" "rest_of" tY wk B_)
  (LZ:W.nsIn K mainGlobals "read_line" = some (some (.ref wm)))
  (Ct:aI K "read_line" "read_line" tZ wm Ca)
  (L0:W.nsIn K mainGlobals "written" = some (some (.ref wu)))
  (Cu:aI K "written" "written" t_ wu Cb)
  (L1:W.nsIn K mainGlobals "kind_word" = some (some (.ref wz)))
  (Cv:aI K "kind_word" "kind_word" uc wz Cc)
  (L3:W.nsIn K mainGlobals "kind_numbers" = some (some (.ref wA)))
  (Cw:aI K "kind_numbers" "kind_numbers" ud wA Cd)
  (L4:W.nsIn K mainGlobals "shown" = some (some (.ref wB)))
  (Cy:aI K "shown" "shown" ue wB Ce)
  (L5:W.nsIn K mainGlobals "_law_cell_at" = some (some (.ref wC)))
  (Cz:aI K "_law_cell_at" "_law_cell_at" uf wC Cf)
  (L6:W.nsIn K mainGlobals "_law_stream" = some (some (.ref wD)))
  (CB:aI K "_law_stream" "_law_stream" ug wD Cg)
  (L7:W.nsIn K mainGlobals "_law_drawn" = some (some (.ref wF)))
  (CC:aI K "_law_drawn" "_law_drawn" uh wF Ci)
  (L8:W.nsIn K mainGlobals "_law_text" = some (some (.ref wG)))
  (CD:aI K "_law_text" "_law_text" um wG Cj)
  (L_:W.nsIn K mainGlobals "_law_whole" = some (some (.ref wH)))
  (CF:aI K "_law_whole" "_law_whole" uo wH Ck)
  (Ma:W.nsIn K mainGlobals "_law_numbers" = some (some (.ref wI)))
  (CG:aI K "_law_numbers" "_law_numbers" uq wI Cm)
  (Mb:W.nsIn K mainGlobals "_law_same" = some (some (.ref wJ)))
  (CH:aI K "_law_same" "_law_same" ur wJ Cn)
  (Mc:W.nsIn K mainGlobals "_law_made" = some (some (.ref wK)))
  (CI:aI K "_law_made" "_law_made" uu wK Co)
  (CJ:W.nsIn K mainGlobals "law" = some (some (.ref wL)))
  (Me:K.lookup wL=some ⟨Le,K5,.func (W.fnOf "law" "law" (cT eH) (cK eH) (aO eH) .none w4 w5 w6 wO qD w_),K_⟩)
  (Mf:W.codeIn K qD "law" = true)
  (Mg:W.keepIn K (.ref wL)=true)
  (Mh:W.plainGet K aT Str.empty=true)
  (Mi:W.hasDictIn K aT=true)
  (Mj:W.plainOver K aT=true)
  (Ml:W.findIn K (.ref aT) "__setattr__" = some (some (.builtin "object.__setattr__")))
  (Mm:W.makesIn K aT=true)
  (Mn:W.keepIn K (.ref aT)=true)
  (vn:W.findIn K (.ref aT) "kind" = some none)
  (vo:W.findIn K (.ref aT) "first" = some none)
  (vp:W.findIn K (.ref aT) "many" = some none)
  (iD:W.findIn K (.ref aT) "marks" = some none)
  (p8:W.findIn K (.ref aT) "at" = some none)
  (kQ:W.findIn K (.ref aT) "asker" = some none)
  (p9:W.findIn K (.ref aT) "latest" = some none)
  (gS:W.findIn K (.ref aT) "behind" = some none)
  (vq:W.findIn K (.ref aT) "early" = some none)
  (Mp:W.plainGet K aP Str.empty=true)
  (Mq:W.hasDictIn K aP=true)
  (Mr:W.plainOver K aP=true)
  (Ms:W.findIn K (.ref aP) "__setattr__" = some (some (.builtin "object.__setattr__")))
  (Mt:W.makesIn K aP=true)
  (Mu:W.keepIn K (.ref aP)=true)
  (kR:W.findIn K (.ref aP) "words" = some none)
  (gr:W.findIn K (.ref aP) "passed" = some none)
  (Mv:W.nsIn K mainGlobals "MOST_CELLS" = some (some (.int 16 kE)))
  (Mw:W.nsIn K mainGlobals "GREATEST_FIRST" = some (some (.int 1000000 kF)))
  (Mx:W.nsIn K mainGlobals "GREATEST_MARK" = some (some (.int 1000000000 kG)))
  (My:W.nsIn K mainGlobals "GREATEST_AT" = some (some (.int 1000000000000 kH)))
  (Mz:W.nsIn K mainGlobals "GREATEST_ASKER" = some (some (.int 20 kI)))
  (MA:W.nsIn K mainGlobals "GREATEST_LATEST" = some (some (.int 10000000000000 kJ)))
  (MB:W.nsIn K mainGlobals "GREATEST_BEHIND" = some (some (.int 99 kK)))
  (MC:W.nsIn K mainGlobals "FIGURES" = some (some (.str (PySem.Str.ofString "0123456789") kL)))
  (MD:W.nsIn K mainGlobals "MOST_FIGURES" = some (some (.int 15 kM)))
  (p_:W.nsIn K mainGlobals "all" = some none)
  (kT:W.nsIn K mainGlobals "bool" = some none)
  (kU:W.nsIn K mainGlobals "int" = some none)
  (gu:W.nsIn K mainGlobals "isinstance" = some none)
  (gv:W.nsIn K mainGlobals "len" = some none)
  (jl:W.nsIn K mainGlobals "list" = some none)
  (jm:W.nsIn K mainGlobals "range" = some none)
  (qa:W.nsIn K mainGlobals "set" = some none)
  (qb:W.nsIn K mainGlobals "sorted" = some none)
  (cV:W.nsIn K mainGlobals "str" = some none)
  (gT:W.nsIn K mainGlobals "tuple" = some none)
  : ∃fd:FuncData,(∀(s:Shared) (v:Value),BindsTo s fd ⟨[v],[]⟩ [("_law_script",v)])/\∀base:Heap,K.In base->base.Ns mainGlobals mg->aV l.prog w K mg base bf 9 fa fd ["_law_script"] (mw K):=by
 have e:=Lh.symm.trans (W.mg_of X G CJ);cases e;have F5:=yU (st:=eF) Lr Lu Lv;have F6:=yU (st:=eG) Lx Lz LA;have CK:=fun_mk (st:=eH) Me Mf Mg;have b0:=F0.binds (ps:=["self", "kind", "first", "many", "marks", "at", "asker", "latest", "behind", "early"]) λ_ _ _ _ _ _=>K0 (λ_ _ _ _ _ _ _ _ _ _=>rfl)
 have b1:=F1.binds (ps:=["number", "least", "greatest", "words"]) λ_ _ _ _ _ _=>KY (λ_ _ _ _=>rfl);have b2:=F2.binds (ps:=["behind"]) λ_ _ _ _ _ _=>cj (λ_=>rfl)
 have b3:=F3.binds (ps:=["first", "many", "at", "asker", "latest", "behind"]) λ_ _ _ _ _ _=>BL (λ_ _ _ _ _ _=>rfl)
 have b4:=F4.binds (ps:=["behind"]) λ_ _ _ _ _ _=>cj (λ_=>rfl)
 have ME:Binds K (W.fnOf "reading" "reading" (cT eF) (cK eF) (aO eF) (.ref ql) wQ wR wU wM qB wV) ["first", "many", "at", "asker", "latest", "behind"] []:=BK 6 rfl λs X=>BL λ_ _ _ _ _ _=>W.binds_K X rfl Ls rfl rfl rfl
 have MF:Binds K (W.fnOf "writing" "writing" (cT eG) (cK eG) (aO eG) (.ref qo) wW wX wY wN qC wZ) ["first", "marks", "at", "asker", "latest", "behind", "early"] []:=BK 7 rfl λs X=>KZ λ_ _ _ _ _ _ _=>W.binds_K X rfl Ly rfl rfl rfl
 have b7:=F7.binds (ps:=["at"]) λ_ _ _ _ _ _=>cj (λ_=>rfl)
 have b8:=F8.binds (ps:=["word"]) λ_ _ _ _ _ _=>cj (λ_=>rfl)
 have b9:=F9.binds (ps:=["self", "line"]) λ_ _ _ _ _ _=>gU (λ_ _=>rfl);have MG:=xg.binds (ps:=["self"]) λ_ _ _ _ _ _=>cj (λ_=>rfl)
 have MH:=xh.binds (ps:=["self"]) λ_ _ _ _ _ _=>cj (λ_=>rfl)
 have MI:=xj.binds (ps:=["self", "word"]) λ_ _ _ _ _ _=>gU (λ_ _=>rfl);have MJ:=xm.binds (ps:=["self"]) λ_ _ _ _ _ _=>cj (λ_=>rfl)
 have MK:=xq.binds (ps:=["self"]) λ_ _ _ _ _ _=>cj (λ_=>rfl)
 have ML:=xr.binds (ps:=["self", "word"]) λ_ _ _ _ _ _=>gU (λ_ _=>rfl);have MM:=xu.binds (ps:=["self"]) λ_ _ _ _ _ _=>cj (λ_=>rfl)
 have MN:=Cp.binds (ps:=["words"]) λ_ _ _ _ _ _=>cj (λ_=>rfl)
 have MO:=Cq.binds (ps:=["words"]) λ_ _ _ _ _ _=>cj (λ_=>rfl)
 have MP:=Cr.binds (ps:=["words", "early"]) λ_ _ _ _ _ _=>gU (λ_ _=>rfl);have MQ:=Cs.binds (ps:=["words"]) λ_ _ _ _ _ _=>cj (λ_=>rfl)
 have MR:=Ct.binds (ps:=["line"]) λ_ _ _ _ _ _=>cj (λ_=>rfl)
 have MS:=Cu.binds (ps:=["numbers"]) λ_ _ _ _ _ _=>cj (λ_=>rfl)
 have MT:=Cv.binds (ps:=["ask"]) λ_ _ _ _ _ _=>cj (λ_=>rfl)
 have MU:=Cw.binds (ps:=["ask"]) λ_ _ _ _ _ _=>cj (λ_=>rfl)
 have MV:=Cy.binds (ps:=["ask"]) λ_ _ _ _ _ _=>cj (λ_=>rfl)
 have MW:=Cz.binds (ps:=["_law_script", "_law_k"]) λ_ _ _ _ _ _=>gU (λ_ _=>rfl);have MX:=CB.binds (ps:=["_law_cell", "_law_many"]) λ_ _ _ _ _ _=>gU (λ_ _=>rfl);have MY:=CC.binds (ps:=["_law_cell"]) λ_ _ _ _ _ _=>cj (λ_=>rfl)
 have MZ:=CD.binds (ps:=["_law_one"]) λ_ _ _ _ _ _=>cj (λ_=>rfl)
 have M0:=CF.binds (ps:=["_law_found"]) λ_ _ _ _ _ _=>cj (λ_=>rfl)
 have M1:=CG.binds (ps:=["_law_found"]) λ_ _ _ _ _ _=>cj (λ_=>rfl)
 have M3:=CH.binds (ps:=["_law_ask", "_law_one"]) λ_ _ _ _ _ _=>gU (λ_ _=>rfl);have M4:=CI.binds (ps:=["_law_one", "_law_cell"]) λ_ _ _ _ _ _=>gU (λ_ _=>rfl);have M5:=CK.binds (ps:=["_law_script"]) λ_ _ _ _ _ _=>cj (λ_=>rfl)
 let A:ux:={ mY:=qj,mZ:=BP,m5:=vW,m6:=BQ,m8:=vX,m_:=BR,ng:=vY,nh:=BS,ni:=vZ,nj:=BU,nk:=qk,nq:=(W.fnOf "reading" "reading" (cT eF) (cK eF) (aO eF) (.ref ql) wQ wR wU wM qB wV),JQ:=BN,nu:=qm,nA:=(W.fnOf "writing" "writing" (cT eG) (cK eG) (aO eG) (.ref qo) wW wX wY wN qC wZ),JR:=BO,nB:=v_,nC:=BV,nF:=wc,nG:=BW,nH:=qp,nI:=BX,nJ:=qt,nK:=BY,nM:=qu,nN:=BZ,nO:=qw,nP:=B0,nQ:=qx,nR:=B3,nT:=qy,nU:=B4,nW:=qz,nX:=B5,nY:=qA,nZ:=B6,n8:=we,n_:=B7,oh:=wg,oq:=B8,ou:=wj,oz:=B9,oA:=wk,oB:=B_,oE:=wm,oF:=Ca,oG:=wu,oH:=Cb,oJ:=wz,oK:=Cc,oM:=wA,oN:=Cd,oO:=wB,oR:=Ce,oU:=wC,oV:=Cf,oW:=wD,oX:=Cg,oY:=wF,oZ:=Ci,o7:=wG,o8:=Cj,o9:=wH,o_:=Ck,pq:=wI,pA:=Cm,pB:=wJ,pC:=Cn,pD:=wK,pF:=Co,pG:=fa,pH:=(W.fnOf "law" "law" (cT eH) (cK eH) (aO eH) .none w4 w5 w6 wO qD w_),aT:=aT,aP:=aP,kE:=kE,kF:=kF,kG:=kG,kH:=kH,kI:=kI,kJ:=kJ,kK:=kK,kL:=kL,kM:=kM }
 have T:Tx K mg A:={ Ao:=F0,pI:=b0,fV:=F1,gk:=b1,gm:=W.mg_of X G Lm,uy:=F2,Aq:=b2,As:=W.mg_of X G Ln,pJ:=F3,uz:=b3,uA:=W.mg_of X G Lo,pK:=F4,uB:=b4,uC:=W.mg_of X G Lp,pL:=F5,uD:=ME,uE:=W.mg_of X G Lq,pM:=F6,uF:=MF,uG:=W.mg_of X G Lw,pN:=F7,uH:=b7,uI:=W.mg_of X G LB,uJ:=F8,Au:=b8,Av:=W.mg_of X G LC,Aw:=F9,Ax:=b9,Ay:=xg,gn:=MG,gq:=⟨LG,LH,xg.kp⟩,Az:=xh,uK:=MH,uL:=⟨LI,LJ,xh.kp⟩,AA:=xj,pO:=MI,pP:=⟨LK,LL,xj.kp⟩,AB:=xm,kN:=MJ,kO:=⟨LM,LN,xm.kp⟩,AD:=xq,uM:=MK,uN:=⟨LO,LP,xq.kp⟩,AE:=xr,gQ:=ML,gR:=⟨LQ,LR,xr.kp⟩,AF:=xu,uO:=MM,uP:=⟨LS,LU,xu.kp⟩,pQ:=Cp,uQ:=MN,uR:=W.mg_of X G LV,uS:=Cq,AG:=MO,AH:=W.mg_of X G LW,uT:=Cr,AI:=MP,AJ:=W.mg_of X G LX,uU:=Cs,AK:=MQ,AL:=W.mg_of X G LY,pR:=Ct,uW:=MR,uX:=W.mg_of X G LZ,pS:=Cu,uY:=MS,uZ:=W.mg_of X G L0,u5:=Cv,AM:=MT,AN:=W.mg_of X G L1,u6:=Cw,AO:=MU,AQ:=W.mg_of X G L3,u7:=Cy,AR:=MV,AS:=W.mg_of X G L4,u9:=Cz,AU:=MW,AV:=W.mg_of X G L5,pT:=CB,u_:=MX,vc:=W.mg_of X G L6,vd:=CC,AW:=MY,AX:=W.mg_of X G L7,ve:=CD,AY:=MZ,AZ:=W.mg_of X G L8,kP:=CF,pU:=M0,pW:=W.mg_of X G L_,pX:=CG,vf:=M1,vg:=W.mg_of X G Ma,pY:=CH,vh:=M3,vj:=W.mg_of X G Mb,vm:=CI,A0:=M4,A1:=W.mg_of X G Mc,A2:=CK,JS:=M5,JT:=W.mg_of X G CJ,dF:=⟨Mh,Mi,Mj,Ml⟩,pZ:=⟨Mm,Lk,Ll,Mn⟩,p7:=W.mg_of X G Li,vn:=vn,vo:=vo,vp:=vp,iD:=iD,p8:=p8,kQ:=kQ,p9:=p9,gS:=gS,vq:=vq,bw:=⟨Mp,Mq,Mr,Ms⟩,A3:=⟨Mt,LD,LF,Mu⟩,A4:=W.mg_of X G Lj,kR:=kR,gr:=gr,A5:=W.mg_of X G Mv,A6:=W.mg_of X G Mw,A7:=W.mg_of X G Mx,vt:=W.mg_of X G My,A8:=W.mg_of X G Mz,A9:=W.mg_of X G MA,A_:=W.mg_of X G MB,Ba:=W.mg_of X G MC,Bb:=W.mg_of X G MD,p_:=W.mg_none_of X G p_,kT:=W.mg_none_of X G kT,kU:=W.mg_none_of X G kU,gu:=W.mg_none_of X G gu,gv:=W.mg_none_of X G gv,jl:=W.mg_none_of X G jl,jm:=W.mg_none_of X G jm,qa:=W.mg_none_of X G qa,qb:=W.mg_none_of X G qb,cV:=W.mg_none_of X G cV,gT:=W.mg_none_of X G gT };exact⟨(W.fnOf "law" "law" (cT eH) (cK eH) (aO eH) .none w4 w5 w6 wO qD w_),λs v=>.of_eq rfl,λbase _ _=>Kz T⟩
theorem walk{l:W.OpenLaw}{q:Program}{loose:List Str}{XP:(Str->Option Value)->Heap->Prop}{YP:World->Heap->Prop}{d:DefRec}{K:Params->W.Frag}(hn:l.most=some 63)(jR:d.params.defaults = [])
  (hY:∀(w:World) (h:Heap),YP w h->(K w.params).In h)
  (F:∀(w:World) (mg:Str->Option Value) (fa:Addr) (h:Heap),(K w.params).In h->h.Ns mainGlobals mg->mg d.name=some (.ref fa)->
   ∃fd:FuncData,(∀(s:Shared) (u:Value),BindsTo s fd ⟨[u],[]⟩ [("_law_script",u)])/\∀base:Heap,(K w.params).In base->base.Ns mainGlobals mg->aV l.prog w (K w.params) mg base bf 9 fa fd ["_law_script"] (mw (K w.params))) :
  W.WalkO q loose XP YP l.row.toRowW d [] (λf vs=>PySem.call f vs) :=
 _L.E6 (n:=63) (k:=9) (x := "_law_script") (CX:=λ_=>bf) (sp:=λw=>mw (K w.params)) hn (by decide) jR ⟨rfl,by decide,by decide⟩ hY F (λ_ _ a ns hl _ hS=>⟨a,ns,rfl,hS,hl,λ_=>rfl⟩) λ_ _ _ _ _ z=>z
end _W
/-! OD names are taken,so OE no fast copy is laid of M6 largest tables: M6 compiled file stays small -/
structure PySem.W.Fast:Prop where(tw2314987045169392136 tw3776281088441620038 tw808594427624179533 tw13449218471218089134 tw15651308962927521973 tw5194560554948234087 tw18005538894839462952 tw8413692626247403250 tw13390505297364437344 tw8876357844088371798 tw14765189785956941733 tw9240700402475001548 tw5304174937092673414 tw5826761463743663994 tw17266945977006425049 tw2768377085499892774 tw3063152826627499714 tw8077346524198676767 tw1442567268264003867 tw13854694668366637027 tw3691389532855364030 tw10859772956735817343 tw17983155748502969084 tw9045061945749123654 tw14701587903298200120 tw15586200201021673905 tw5363625043880312075 tw4727960480598764472 tw10396636637578780539 tw4847008070739178048 tw4687081401237732545 tw3464724229432879989 tw4647781370736378013 tw12110421519403817966 tw4006660913038425572 tw7656629450887730941 tw12186366126226501419 tw18244514227421242822 tw313045473703968879 tw3696320663391737924 tw14067138788821674058 tw15541868678924851051 tw12175863049910172559 tw11857799592441333220 tw16499256718590668110 tw536966084440634352 tw16342374029952310412 tw11438728345205430244 tw8671961474531755224 tw1176079781851120710 tw14542883923297763159 tw6380887937805150605 tw13063340190192119260 tw12139809902809634109 tw12991292479531771473 tw12504455314620736990 tw12947754717191186290 tw5709485182012951883 tw6708728132296031025 tw12383422680230088618 tw15997718386623247208 tw16565430755676178424 tw2941380351973853935 tw9924293571267576850 tw8787263637216696639 tw9185997100064474412 tw7660762077623786547 tw15167850207378344738 tw6247331708288043435 tw7779383113100682420 tw7903878824694875692 tw7373701825331476655 tw15900754476646500482 tw13310054371314505772 tw9029354330916473403 tw8735514318971039431 tw7846906707988693949 tw10302944451634929843 tw2547326056319338288 tw6502731168939665423 tw5040604903187997215 tw6134586686905910593 tw18215796499543455635 tw3542047873296567864 tw792388004132965140 tw8954168417235795633 tw16141245980641212157 tw3777924766312483932 tw1290881878170895462 tw961077009719709175 tw16834709148309124476 tw6660532858976307601 tw6040445944921111260 tw5198577989669654688 tw13284714633735328238 tw2943028646801598957 tw17345133224516350187 tw10950586409117923615 tw9472753010451769789 tw9222284180038139392 tw4059040949836921909 tw10224510644719039318 tw7099090422542621071 tw14356273566365404999 tw10746729566968779972 tw9968652342244075563 tw2216276650356874036 tw14855120297270498982 tw7446224602403220925 tw12330305950978353508 tw16872291435602570236 tw15124136669987987040 tw6175652651418860980 tw1631831671418959623 tw8440108330465415957 tw4316891269846048371 tw1189208283343103099 tw6088912777873587485 tw6905977582901038567 tw14938121850679331965 tw10907838072054344670 tw2783680792336383348 tw16825777764842377501 tw16213693732481991675 tw10940708110298501420 tw9581240996173552869 tw9143204948861528305 tw4253204332035840966 tw12960954877527796377 tw3550301139934809143 tw17595572900783793341 tw2548248832917612652 tw11582768532194743735 tw3529488208690552619 tw894069529555687268 tw5714995587552493981 tw228515001917964346 tw16823233345830482112 tw15812752858797395761 tw13381965651933723383 tw16577489724376765885 tw11028204996224460460 tw4644151216768442969 tw10095471551821659373 tw14330454024911494595 tw8093024244217273631 tw12224525763277906434 tw7651159066299884373 tw11693426656557290715 tw9022356360691224189 tw8173067832259193909 tw17084274708952742553 tw3966981213247683988 tw3231020030100038388 tw15486774024305981007 tw16633820566703292916 tw7030221810356744433 tw16107062799198958564 tw7916529474094460993 tw5720933290967558837 tw7324313173936708645 tw13266991041760979391 tw9002537031118284442 tw1753414827800027949 tw15220793469113243550 tw10547784564331362895 tw5285013302512096555 tw3343603778994606987 tw10020722317046831747 tw8058446271527993263 tw9550840225726106035 tw7288786498581256325 tw13490648679035088458 tw14216075417953255261 tw9514274903161739937 tw12799552922553845396 tw10231473962976364130 tw16673448025350138426 tw15080525048051427932 tw3038253985213942588 tw16041524813363568908 tw4398922239694397768 tw14690315876243288056 tw6729323095075777392 tw58816071831623794 tw3094136767017603094 tw15448425594526995759 tw5272449633420677478 tw5127519960794110623 tw15230498684912470770 tw563712171148435111 tw1884478341613837768 tw7247141346008294408 tw6297880351492625045 tw10950100707156887355 tw9881969279709268625 tw17939758853111364915 tw7956831548141272759 tw11539970936618104530 tw16013354696131994098 tw10556602372787376857 tw6300536652436901346 tw5662566383629953910 tw11251824854386319454 tw382398909981787454 tw8644995659165057285 tw2814038874565564067 tw11687255802396705389 tw1428038181666223631 tw4440983979672910018 tw16377100610307442056 tw14785056079096440444 tw7768564246216056916 tw16789360989977415872 tw17808179967776738310 tw10303356051662978960 tw18311938496738370086 tw5694855043052781686 tw782047880978014404 tw16197790478252937784 tw18160994513769175210 tw12935175854229578619 tw4056604423932659964 tw6095318623475908948 tw15724545220408213529 tw12402025274302090653 tw15174060982955340869 tw14020822146678002042 tw5325822472928226125 tw6791202496133452090 tw4316126515544472855 tw9890841635857677443 tw18443853929923173899 tw9769041529735683120 tw9338106893032206486 tw13053764816621270174 tw16144544201137202597 tw10629951969595942536 tw9251062028298524762 tw9573516980286272568 tw14215443973151397162 tw7036037988979996718 tw7141408093157082825 tw11713558190176727430 tw14648625268817694551 tw9272065380863402636 tw18317848034699744703 tw68218779143639812 tw3247408448633028419 tw2976709288718776181 tw7624392079035260133 tw7845608026647568147 tw8114481825594084984 tw17070292415280246129 tw16821548063650283459 tw4105451009624861541 tw4552146546089821218 tw17814266687748610027 tw12346406834262990212 tw7148395147340763789 tw16275622952560825786 tw15104293983068808597 tw15516631147794020936 tw1024183066767377260 tw3975794425812333745 tw7315036174039693821 tw2811454918477294069 tw217085473478953791 tw3474613576326248881 tw11441104368810825899 tw12610995561796253566 tw6829595194023011892 tw2501443033254616387 tw2821165005530583144 tw14552224537307709621 tw3065899614710439996 tw10048098258258362493 tw10233909228704795528 tw5429304325401731060 tw2625076160944220326:True)
open PySem PySem.W PyProof.Rows
set_option maxHeartbeats 0 in
theorem PySem.Challenge.cw_armswing_k73_lines_read_holds : PySem.Challenge.rw_armswing_k73_lines_read.Holds := by
 w_on; o_law; k_head; (case hw => w_witness2)
 k_fill
 refine _W.walk (l := PySem.Challenge.rw_armswing_k73_lines_read) rfl rfl (λw h Y => PySem.W.kIn_of Y) ?F
 case F =>
  intro w mg fa h KX G hmg
  refine' _W.all_mk KX G hmg ?_ ?_ ?_ ?_ ?_ ?_ ?_ ?_ ?_ ?_ ?_ ?_ ?_ ?_ ?_ ?_ ?_ ?_ ?_ ?_ ?_ ?_ ?_ ?_ ?_ ?_ ?_ ?_ ?_ ?_ ?_ ?_ ?_ ?_ ?_ ?_ ?_ ?_ ?_ ?_ ?_ ?_ ?_ ?_ ?_ ?_ ?_ ?_ ?_ ?_ ?_ ?_ ?_ ?_ ?_ ?_ ?_ ?_ ?_ ?_ ?_ ?_ ?_ ?_ ?_ ?_ ?_ ?_ ?_ ?_ ?_ ?_ ?_ ?_ ?_ ?_ ?_ ?_ ?_ ?_ ?_ ?_ ?_ ?_ ?_ ?_ ?_ ?_ ?_ ?_ ?_ ?_ ?_ ?_ ?_ ?_ ?_ ?_ ?_ ?_ ?_ ?_ ?_ ?_ ?_ ?_ ?_ ?_ ?_ ?_ ?_ ?_ ?_ ?_ ?_ ?_ ?_ ?_ ?_ ?_ ?_ ?_ ?_ ?_ ?_ ?_ ?_ ?_ ?_ ?_ ?_ ?_
  all_goals (first | k_is | kit_is | k_exc | exact _L.fun_mk (by k_is) (by k_is) (by k_is) | rfl | decide +kernel | kernel_rfl | skip)

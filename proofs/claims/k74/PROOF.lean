import PyProof.Rows.All
import Wide.All
import OpenK.AllK
import Wide.FinOn
import Lean
import PyProof.EqAt
import PyProof.EqKinds
import PyProof.TupleCall
import PySem.Challenge.RW_armswing_k74_lines_refused
set_option compiler.extract_closed false
set_option Elab.async false
set_option linter.all false
set_option maxRecDepth 100000
namespace _L
open PySem PySem.Spec PyProof.Rows
noncomputable abbrev Key:=Sum Int Str
noncomputable def BI:Key->Value->Bool
 | .inl k,v=>Value.isInt k v
 | .inr x,v=>Value.isStrOf x v
noncomputable def IL(w:World):Key->Int
 | .inl k=>hashInt k
 | .inr x=>hashStr w x
theorem iR:∀ {k:Key} {v:Value},BI k v=true->(∃i t,k=Sum.inl i/\v=Value.int i t)\/(∃x t,k=Sum.inr x/\v=Value.str x t)
 | .inl i,v,h=>by
  obtain⟨t,e⟩:=Value.isInt_shape (k:=i) (v:=v) h;exact .inl ⟨i,t,rfl,e⟩
 | .inr x,v,h=>by
  obtain⟨t,e⟩:=Value.isStrOf_shape (x:=x) (v:=v) h;exact .inr ⟨x,t,rfl,e⟩
theorem IM(a b:Int):decide ((Sum.inl a:Key)=Sum.inl b)=(a == b):=by
 by_cases e:a=b
 ·subst e;simp
 ·have h:¬ (Sum.inl a:Key)=Sum.inl b:=λq=>e (Sum.inl.inj q);rw[decide_eq_false h];exact(beq_eq_false_iff_ne.mpr e).symm
theorem IP(a b:Str):decide ((Sum.inr a:Key)=Sum.inr b)=decide (a=b):=by
 by_cases e:a=b
 ·subst e;simp
 ·have h:¬ (Sum.inr a:Key)=Sum.inr b:=λq=>e (Sum.inr.inj q);rw[decide_eq_false h,decide_eq_false e]
theorem IQ(a:Int)(b:Str):decide ((Sum.inl a:Key)=Sum.inr b)=false:=decide_eq_false (λq=>nomatch q)
theorem IS(a:Str)(b:Int):decide ((Sum.inr a:Key)=Sum.inl b)=false:=decide_eq_false (λq=>nomatch q)
noncomputable def BJ(prog:Program)(w:World):PySem.KeyKind prog w Key where
 is:=BI
 hash:=IL w
 inj:=λv a b ha hb=>by
  rcases iR ha with⟨i,t,rfl,rfl⟩ | ⟨x,t,rfl,rfl⟩
  ·rcases iR hb with⟨j,u,rfl,e⟩ | ⟨y,u,rfl,e⟩
   ·injection e with e1 _;rw[e1]
   ·exact nomatch e
  ·rcases iR hb with⟨j,u,rfl,e⟩ | ⟨y,u,rfl,e⟩
   ·exact nomatch e
   ·injection e with e1 _;rw[e1]
 byValue:=λk v h=>by
  rcases iR h with⟨i,t,rfl,rfl⟩ | ⟨x,t,rfl,rfl⟩ <;> rfl
 pyHash:=λhv h=>by
  rcases iR hv with⟨i,t,rfl,rfl⟩ | ⟨x,t,rfl,rfl⟩
  ·exact wpAny_pyHash_int h
  ·exact wpAny_pyHash_str h
 eqBool:=λhu hv h=>by
  rcases iR hu with⟨i,t,rfl,rfl⟩ | ⟨x,t,rfl,rfl⟩
  ·rcases iR hv with⟨j,u,rfl,rfl⟩ | ⟨y,u,rfl,rfl⟩
   ·rw[IM] at h;exact wpAny_eqBool_int h
   ·rw[IQ] at h;exact SeqAt.EqAt.int_str i t y u _ _ _ _ h
  ·rcases iR hv with⟨j,u,rfl,rfl⟩ | ⟨y,u,rfl,rfl⟩
   ·rw[IS] at h;exact SeqAt.EqAt.str_int x t j u _ _ _ _ h
   ·rw[IP] at h;exact wpAny_eqBool_str h
 «strs» := λk x t v h=>by
  rcases iR h with⟨i,u,rfl,e⟩ | ⟨y,u,rfl,e⟩
  ·exact nomatch e
  ·injection e with e1 _;subst e1;cases v <;> rfl
inductive V where
 | aF | bl (b:Bool) | int (i:Int) | str (x:Str) | eY (b:Array UInt8) | iw (b:UInt64) | ref (a:Addr) | ty (n:String)
 deriving DecidableEq
noncomputable def RelV:V->Value->Prop
 | .aF,u=>u=Value.none
 | .bl b,u=>u=Value.bool b
 | .int i,u=>∃t,u=Value.int i t
 | .str x,u=>∃t,u=Value.str x t
 | .eY b,u=>∃t,u=Value.bytes b t
 | .iw b,u=>∃t,u=Value.float b t
 | .ref a,u=>u=Value.ref a
 | .ty n,u=>u=Value.type n
noncomputable abbrev Vals:List V->List Value->Prop:=Paired RelV
theorem Vals.length{xs:List V}{us:List Value}(r:Vals xs us):xs.length=us.length:=Paired.length r
theorem Vals.get:∀ {xs:List V} {us:List Value} {i:Nat} {x:V},Vals xs us->xs[i]? = some x->∃u,us[i]? = some u/\RelV x u
 | _,_,_,_,.nil,e=>by simp at e
 | _,_,0,_,.cons r _,e=>by simp at e;subst e;exact⟨_,rfl,r⟩
 | _,_,i+1,x,.cons _ t,e=>by
  obtain⟨u,h1,h2⟩:=Vals.get (i:=i) (x:=x) t (by simpa using e)
  exact⟨u,by simpa using h1,h2⟩
theorem Vals.append:∀ {xs ys:List V} {us ws:List Value},Vals xs us->Vals ys ws->Vals (xs++ys) (us++ws)
 | _,_,_,_,.nil,s=>s
 | _,_,_,_,.cons r t,s=>.cons r (Vals.append t s)
theorem Vals.take:∀ {xs:List V} {us:List Value} (n:Nat),Vals xs us->Vals (xs.take n) (us.take n)
 | _,_,0,_=>.nil
 | _,_,_+1,.nil=>.nil
 | _,_,n+1,.cons r t=>.cons r (Vals.take n t)
theorem Vals.drop:∀ {xs:List V} {us:List Value} (n:Nat),Vals xs us->Vals (xs.drop n) (us.drop n)
 | _,_,0,r=>r
 | _,_,_+1,.nil=>.nil
 | _,_,n+1,.cons _ t=>Vals.drop n t
noncomputable def iy:Option V->Option Value->Prop
 | some v,some u=>RelV v u
 | none,none=>True
 | _,_=>False
noncomputable def KV{κ:Type}:List (κ×V)->List (κ×Value)->Prop:=Paired λ(p:κ×V) (q:κ×Value)=>p.1=q.1/\RelV p.2 q.2
noncomputable def kV:Key->V
 | .inl i=>.int i
 | .inr x=>.str x
inductive HO where
 /-- a list -/
 | lst (xs:List V)
 /-- a tuple (never changes) -/
 | tup (xs:List V)
 /-- a dict whose keys are ints and texts;one whose keys are tuples of ints and texts (the empty one is both) -/
 | dK (br:List (Key×V)) | dT (br:List (List Key×V))
 /-- a set of ints: its members,its size -/
 | set (S:Int->Bool) (n:Nat)
 /-- an instance of the class at C,its dict at dx,its attributes -/
 | ins (C dx:Addr) (fs:List (Str×V))
 /-- the dict of the instance at x -/
 | own (x:Addr)
 /-- the dict of an exception -/
 | xd (fs:List (Str×V))
 /-- a bound method,f of x -/
 | met (f x:Addr)
 /-- a range object lo,lo+1,.. below hi -/
 | qb (lo hi:Int)
 /-- a thing that is known to the object (the script;a dict while a loop walks it): read,never written while it is so -/
 | eZ (o:Obj) (u:HO)
 /-- a code object's table -/
 | jD (ps:Array Value)
 /-- any other thing,by what is true of its one object (a def of one's own: SetO a S n:=HO.ext λh=>..) -/
 | ext (φ:Heap->Prop)
noncomputable abbrev Hp:=Addr->Option HO
noncomputable def upd(H:Hp)(a:Addr)(o:HO):Hp:=λb=>if b=a then some o else H b
theorem aq{H:Hp}{a:Addr}{o:HO}:upd H a o a=some o:=by unfold upd;rw[if_pos rfl]
theorem bF{H:Hp}{a b:Addr}{o:HO}(h:b≠a):upd H a o b=H b:=by unfold upd;rw[if_neg h]
theorem Vc{H:Hp}{a:Addr}{o u:HO}:upd (upd H a o) a u=upd H a u:=by
 funext b;unfold upd;split <;> rfl
theorem fO{H:Hp}{a b:Addr}{o:HO}(h:H a=some o)(h':H b=none):a≠b:=by
 intro e;subst e;rw[h] at h';cases h'
section
variable(P:Program)(w:World)
noncomputable def cR(H:Hp)(h:Heap)(a:Addr):HO->Prop
 | .lst xs=>xs.length<=sizeLine/\∃(aB:List Value) (n:Nat),Vals xs aB/\h.get? a=some { cls:=.type "list",data:=.seq aB.toArray n }
 | .tup xs=>xs.length<=sizeLine/\∃aB:List Value,Vals xs aB/\IsTup h a aB.toArray
 | .dK br=>br.length<=sizeLine/\(a == sysModules)=false/\∃vs,KV br vs/\h.DictOf (BJ P w) a vs
 | .dT br=>br.length<=sizeLine/\(a == sysModules)=false/\∃xs:List (List Key×Addr×Value),
   Paired (λ(p:List Key×V) (q:List Key×Addr×Value)=>p.1=q.1/\H q.2.1=some (.tup (p.1.map kV))/\RelV p.2 q.2.2) br xs/\
   ∃o es ep,h.get? a=some o/\o.ExactDict/\o.data = .dict es ep/\es.toList=xs.map (entryOfKey (tupleKind (BJ P w)))/\(xs.map (·.1)).Nodup
 | .set S n=>h.SetOf (intKind P w) a S n
 | .ins C dx fs=>H dx=some (.own a)/\fs.length<=1000/\dx≠a/\h.get? a=some (PySem.W.instObj C dx)/\
   ∃mA,h.Ns1 dx mA/\(∀f,iy (fs.lookup f) (mA f))/\PySem.Within mA (fs.map (·.1))
 | .own _=>∃o,h.get? a=some o
 | .xd fs=>∃mA,h.Ns1 a mA/\∀f,iy (fs.lookup f) (mA f)
 | .qb lo hi=>∃t u v,h.get? a=some { cls:=.type "range",data:=.fields #[.int lo t,.int hi u,.int 1 v] }
 | .eZ o u=>h.get? a=some o/\cR H h a u
 | .jD ps=>h.get? a=some { cls:=.none,data:=.fields ps }
 | .met f x=>h.get? a=some (PySem.W.methodObj (.ref f) (.ref x))
 | .ext φ=>φ h/\(∃o,h.get? a=some o)/\∀h1 h2:Heap,φ h1->(∀o,h1.get? a=some o->h2.get? a=some o)->φ h2
noncomputable def bV(H:Hp)(h:Heap):Prop:=∀a o,H a=some o->cR P w H h a o
end
section
variable{P:Program}{w:World}{H H':Hp}{h h':Heap}{a:Addr}{o:HO}
theorem cR.lt(x:cR P w H h a o):a<h.objs.size:=by
 cases o with
 | lst xs=>obtain⟨_,_,_,_,e⟩:=x;exact Heap.lt_size e
 | tup xs=>obtain⟨_,_,_,p⟩:=x;exact p.lt
 | dK br=>obtain⟨_,_,_,_,o,_,_,e,_⟩:=x;exact Heap.lt_size e
 | dT br=>obtain⟨_,_,_,_,o,_,_,e,_⟩:=x;exact Heap.lt_size e
 | set S n=>obtain⟨o,_,_,_,e,_⟩:=x;exact Heap.lt_size e
 | ins C dx fs=>obtain⟨_,_,_,e,_⟩:=x;exact Heap.lt_size e
 | own y=>obtain⟨_,e⟩:=x;exact Heap.lt_size e
 | xd fs=>obtain⟨_,⟨_,_,_,e,_⟩,_⟩:=x;exact Heap.lt_size e
 | qb lo hi=>obtain⟨_,_,_,e⟩:=x;exact Heap.lt_size e
 | eZ ob u=>obtain⟨e,_⟩:=x;exact Heap.lt_size e
 | jD ps=>exact Heap.lt_size (show h.get? a=some _ from x)
 | met f y=>exact Heap.lt_size (show h.get? a=some _ from x)
 | ext φ=>obtain⟨_,⟨_,e⟩,_⟩:=x;exact Heap.lt_size e
theorem Paired.BK{α β:Type}{F G:α->β->Prop}:∀ {l₁:List α} {l₂:List β},Paired F l₁ l₂->(∀a b,F a b->G a b)->Paired G l₁ l₂
 | _,_,.nil,_=>.nil
 | _,_,.cons r t,f=>.cons (f _ _ r) (Paired.BK t f)
theorem cR.iS(x:cR P w H h a o)(k:∀b u,(b=a\/H b=some (.own a))->h.get? b=some u->h'.get? b=some u)
  (ho:∀b,H b=some (.own a)->H' b=some (.own a)) (ht:∀b xs,H b=some (.tup xs)->H' b=some (.tup xs)):cR P w H' h' a o:=by
 induction o with
 | lst xs=>obtain⟨z,aB,n,r,e⟩:=x;exact⟨z,aB,n,r,k _ _ (.inl rfl) e⟩
 | tup xs=>obtain⟨z,aB,r,ob,e,c⟩:=x;exact⟨z,aB,r,ob,k _ _ (.inl rfl) e,c⟩
 | dK br=>obtain⟨z,y,vs,r,ob,es,ep,e,c⟩:=x;exact⟨z,y,vs,r,ob,es,ep,k _ _ (.inl rfl) e,c⟩
 | dT br =>
  obtain⟨z,y,xs,r,ob,es,ep,e,c⟩:=x;exact⟨z,y,xs,Paired.BK r λp q z=>⟨z.1,ht _ _ z.2.1,z.2.2⟩,ob,es,ep,k _ _ (.inl rfl) e,c⟩
 | set S n=>obtain⟨ob,es,ep,t,e,c⟩:=x;exact⟨ob,es,ep,t,k _ _ (.inl rfl) e,c⟩
 | ins C dx fs =>
  obtain⟨d,z,ne,e,mA,⟨od,es,ep,e2,c⟩,r⟩:=x;exact⟨ho _ d,z,ne,k _ _ (.inl rfl) e,mA,⟨od,es,ep,k _ _ (.inr d) e2,c⟩,r⟩
 | own y=>obtain⟨ob,e⟩:=x;exact⟨ob,k _ _ (.inl rfl) e⟩
 | xd fs=>obtain⟨mA,⟨od,es,ep,e,c⟩,r⟩:=x;exact⟨mA,⟨od,es,ep,k _ _ (.inl rfl) e,c⟩,r⟩
 | qb lo hi=>obtain⟨t,u,v,e⟩:=x;exact⟨t,u,v,k _ _ (.inl rfl) e⟩
 | eZ ob u ih=>obtain⟨e,q⟩:=x;exact⟨k _ _ (.inl rfl) e,ih q⟩
 | jD ps =>
  have e:h.get? a=some { cls:=.none,data:=.fields ps }:=x
  show h'.get? a=some { cls:=.none,data:=.fields ps };exact k a _ (.inl rfl) e
 | met f y =>
  have e:h.get? a=some (PySem.W.methodObj (.ref f) (.ref y)):=x
  show h'.get? a=some (PySem.W.methodObj (.ref f) (.ref y));exact k a _ (.inl rfl) e
 | ext φ=>obtain⟨p,⟨o,e⟩,st⟩:=x;exact⟨st _ _ p λo q=>k _ _ (.inl rfl) q,⟨o,k _ _ (.inl rfl) e⟩,st⟩
theorem bV.lt(x:bV P w H h)(e:H a=some o):a<h.objs.size:=(x a o e).lt
theorem bV.fresh(x:bV P w H h)(e:h.objs.size<=a):H a=none:=by
 cases q:H a with
 | none=>rfl
 | some u=>exact absurd (Nat.lt_of_lt_of_le (x.lt q) e) (Nat.lt_irrefl _)
theorem bV.kept(x:bV P w H h)(k:∀b u,h.get? b=some u->h'.get? b=some u):bV P w H h':=λa o e =>
 (x a o e).iS (λb u _ q=>k b u q) (λ_ q=>q) λ_ _ q=>q
theorem bV.laid(x:bV P w H h)(k:∀b u,h.get? b=some u->h'.get? b=some u)(hp:h.objs.size<=a)(new:cR P w (upd H a o) h' a o):bV P w (upd H a o) h':=λb u e=>by
 have hn:=x.fresh hp;by_cases hb:b=a
 ·subst hb;rw[aq] at e;cases e;exact new
 ·rw[bF hb] at e;exact(x b u e).iS (λc v _ q=>k c v q) (λc q=>by rw[bF (fO q hn)];exact q) λc xs q=>by rw[bF (fO q hn)];exact q
end
noncomputable def Rd(H:Hp)(a:Addr)(u:HO):Prop:=H a=some u\/∃o,H a=some (.eZ o u)
theorem Rd.ok{P:Program}{w:World}{H:Hp}{h:Heap}{a:Addr}{u:HO}(r:Rd H a u)(x:bV P w H h):cR P w H h a u:=by
 rcases r with r | ⟨o,r⟩
 ·exact x a u r
 ·obtain⟨_,q⟩:=x a _ r;exact q
noncomputable def qc:Option HO->Prop
 | some (.lst _)=>True
 | some (.dK _)=>True
 | some (.dT _)=>True
 | some (.set _ _)=>True
 | some (.ins _ _ _)=>True
 | some (.ext _)=>True
 | _=>False
section
variable{P:Program}{w:World}{H:Hp}{h h':Heap}{x e:Addr}{o':HO}
theorem bV.write(ok:bV P w H h)(mu:qc (H x))(he:e=x\/H e=some (.own x))(k:∀b u,b≠e->h.get? b=some u->h'.get? b=some u)(lG:∃u,h'.get? e=some u)
  (new:cR P w (upd H x o') h' x o'):bV P w (upd H x o') h':=λb u q=>by
 have BL:∀c y,H c=some (.own y)->c≠x:=λc y r z=>by subst z;rw[r] at mu;exact mu
 have IT:∀c xs,H c=some (.tup xs)->c≠x:=λc xs r z=>by subst z;rw[r] at mu;exact mu
 by_cases hb:b=x
 ·subst hb;rw[aq] at q;cases q;exact new
 ·rw[bF hb] at q;by_cases kh:b=e
  ·have q':H b=some (.own x):=by
    rcases he with z | z
    ·exact absurd (kh.trans z) hb
    ·rw[kh];exact z
   rw[q] at q';cases q';obtain⟨v,hv⟩:=lG;exact⟨v,by rw[kh];exact hv⟩
  ·refine(ok b u q).iS (λc v hc r=>k c v ?_ r) (λc r=>by rw[bF (BL c b r)];exact r) λc xs r=>by rw[bF (IT c xs r)];exact r
   rcases hc with rfl | hc
   ·exact kh
   ·rintro rfl;rcases he with z | z
    ·exact BL c b hc z
    ·rw[hc] at z;cases z;exact hb rfl
end
structure Un(fs ex:List Addr)(H H':Hp)(h h':Heap):Prop where
 keep:∀b o,h.get? b=some o->H b=none->b∉fs->b∉ex->h'.get? b=some o
 slot:∀b o,h.get? b=some o->H b=none->b∈fs->b∉ex->∃sl,h'.get? b=some { o with slots:=sl }
 free:∀b o,h.get? b=some o->H b=none->b∉ex->H' b=none
 there:∀b o,h.get? b=some o->b∉ex->∃o',h'.get? b=some o'
 fY:∀b xs,H b=some (.tup xs)->H' b=some (.tup xs)
 fP:∀b o u,H b=some (.eZ o u)->H' b=some (.eZ o u)
 fZ:∀b ps,H b=some (.jD ps)->∃more,H' b=some (.jD (ps++more))
section
variable{fs IU ex Vd:List Addr}{H H1 H2:Hp}{h h1 h2 h':Heap}{a x e:Addr}{o:HO}
theorem Un.any(u:Un fs ex H H1 h h1){b:Addr}{ob:Obj}(q:h.get? b=some ob)(n:H b=none)(hx:b∉ex):∃sl,h1.get? b=some { ob with slots:=sl }:=by
 by_cases hb:b∈fs
 ·exact u.slot b ob q n hb hx
 ·exact⟨ob.slots,u.keep b ob q n hb hx⟩
theorem Un.kept(k:∀b u,h.get? b=some u->h'.get? b=some u):Un fs ex H H h h' :=
 ⟨λb ob q _ _ _=>k b ob q,λb ob q _ _ _=>⟨ob.slots,k b ob q⟩,λ_ _ _ n _=>n,λb ob q _=>⟨ob,k b ob q⟩,λ_ _ q=>q,λ_ _ _ q=>q,λ_ ps q=>⟨#[],by rw[q];simp⟩⟩
theorem Un.refl:Un fs ex H H h h:=Un.kept λ_ _ q=>q
theorem Un.laid(k:∀b u,h.get? b=some u->h'.get? b=some u)(hp:h.objs.size<=a)(hn:H a=none):Un fs ex H (upd H a o) h h' where
 keep:=λb u q _ _ _=>k b u q
 slot:=λb u q _ _ _=>⟨u.slots,k b u q⟩
 free:=λb u q n _=>by rw[bF (Nat.ne_of_lt (Nat.lt_of_lt_of_le (Heap.lt_size q) hp))];exact n
 there:=λb u q _=>⟨u,k b u q⟩
 fY:=λb xs q=>by rw[bF (fO q hn)];exact q
 fP:=λb u xs q=>by rw[bF (fO q hn)];exact q
 fZ:=λb ps q=>⟨#[],by rw[bF (fO q hn),q];simp⟩
theorem Un.write(mu:qc (H x))(he:e=x\/H e=some (.own x))(k:∀b u,b≠e->h.get? b=some u->h'.get? b=some u)(lG:∃u,h'.get? e=some u):Un fs ex H (upd H x o) h h':=by
 have hx:∀b,H b=none->b≠x:=λb n z=>by subst z;rw[n] at mu;exact mu
 have hb:∀b,H b=none->b≠e:=λb n z=>by
  subst z;rcases he with r | r
  ·exact hx b n r
  ·rw[n] at r;cases r
 have hm:∀b u,H b=some u->¬ qc (some u)->b≠x:=λb u q nm z=>by subst z;rw[q] at mu;exact nm mu
 refine⟨λb u q n _ _=>k b u (hb b n) q,λb u q n _ _=>⟨u.slots,k b u (hb b n) q⟩,λb u q n _=>by rw[bF (hx b n)];exact n,λb u q _=>?_,
  λb xs q=>by rw[bF (hm b _ q λz=>z)];exact q,λb u xs q=>by rw[bF (hm b _ q λz=>z)];exact q,λb ps q=>⟨#[],by rw[bF (hm b _ q λz=>z),q];simp⟩⟩
 by_cases kh:b=e
 ·subst kh;exact lG
 ·exact⟨u,k b u kh q⟩
end
noncomputable def qd(h:Heap)(H:Hp):List Addr:=(List.range h.objs.size).filter λa=>(H a).isSome
noncomputable def iT(h:Heap)(H:Hp):Heap:=PySem.W.hideAll h (qd h H)
theorem IV(h:Heap)(H:Hp):(iT h H).objs.size=h.objs.size:=PySem.W.hideAll_size _ _
theorem IW{h:Heap}{H:Hp}{b:Addr}{o:Obj}(e:h.get? b=some o)(n:H b=none):(iT h H).get? b=some o :=
 PySem.W.hideAll_get _ e λhm=>by
  have q:(H b).isSome=true:=(List.mem_filter.mp hm).2;rw[n] at q;simp at q
theorem IX{h:Heap}{H:Hp}{b:Addr}{o:Obj}(e:(iT h H).get? b=some o):h.get? b=some o/\H b=none:=by
 have e':h.get? b=some o:=PySem.W.of_hideAll (qd h H) e;refine⟨e',?_⟩;cases q:H b with
 | none=>rfl
 | some x =>
  have hm:b∈qd h H:=List.mem_filter.mpr ⟨List.mem_range.mpr (Heap.lt_size e'),by simp[q]⟩
  have z:(iT h H).get? b=none:=PySem.W.hideAll_none (qd h H) hm;rw[z] at e;cases e
noncomputable def IY(g h:Heap)(L:Addr):List (Addr×Obj):=(List.range h.objs.size).filterMap λa=>if a=L\/(g.get? a).isSome=true then none else(h.get? a).map λo=>(a,o)
noncomputable def rest(g h:Heap)(L d:Addr):List (Addr×Obj):=(IY g h L).filter λp=>decide (p.1≠d)
structure Mod(K:PySem.W.Frag)(mg:Str->Option Value)(base:Heap):Prop where
 ki:K.In base
 glob:base.Ns mainGlobals mg
 blt:∃mb,base.Ns builtinsNs mb/\∀x:Str,x≠"__name__"->mb x=bootBuiltins x
 nolimit:base.NoLimit
structure Cx where
 prog:Program
 w:World
 K:PySem.W.Frag
 mg:Str->Option Value
 base:Heap
 A:Around
 N:List Str
 aZ:Shared
 dM:Hp
 env:Env
 outer:List Env
 stack:List Env
 ex:List Addr
 fn:Str->Bool
 calm:Bool
 pn:List (Addr×Obj)
 xe:Value->Shared->Prop
noncomputable def bH(l:List Env):List Addr:=l.filterMap (·.frame)
noncomputable abbrev Cx.fs(X:Cx):List Addr:=bH X.outer
noncomputable def v_(sc:Scope)(x:Str):Prop:=sc.names.lookup x=some .local\/sc.names.lookup x=some .cell\/sc.names.lookup x=some .free
noncomputable def Loc(sc:Scope)(x:Str):Prop:=sc.names.lookup x=some .local\/sc.names.lookup x=some .cell
noncomputable def Look(env:Env)(h:Heap)(m:Str->Option Value)(x:Str)(u:Value):Prop :=
 (env.kindOf x=some .local/\m x=some u)\/((env.kindOf x=some .cell\/env.kindOf x=some .free)/\∃c,env.cells.lookup x=some c/\h.IsCell c (some u))
structure Cx.Ok(X:Cx):Prop where
 mod:Mod X.K X.mg X.base
 kind:X.env.scope.kind = .function
 glob:X.env.globals=mainGlobals
 blt:X.env.builtins=builtinsNs
 above:X.aZ.heap.objs.size<=X.env.locals
 inj:∀x y c,X.env.cells.lookup x=some c->X.env.cells.lookup y=some c->x=y
 has:∀x,(X.env.kindOf x=some .cell\/X.env.kindOf x=some .free)->∃c,X.env.cells.lookup x=some c
 kq:∀x c,X.fn x=true->X.env.cells.lookup x=some c->X.aZ.heap.objs.size<=c
 hd:X.calm=true->X.A.handled=none
 frames:X.A.frames=some X.stack
 lH:X.stack=X.outer\/(X.stack=X.env::X.outer/\X.env.frame=some X.env.locals)
 jE:∀b∈X.ex,b≠X.env.locals/\∀x c,X.env.cells.lookup x=some c->c≠b
 bs:∀b o,X.base.get? b=some o->X.aZ.heap.get? b=some o/\X.dM b=none
 gG:X.base.objs.size<=X.aZ.heap.objs.size
 ku:∀b o,X.base.get? b=some o->b∉X.ex
 jF:∀b∈X.ex,b∉X.fs
 eK:X.aZ.heap.FunFrames X.base X.outer
 gH:∀b∈X.fs,X.dM b=none
structure Inv(X:Cx)(pins:List (Addr×Obj))(σ:List (Option V))(H:Hp)(s:Shared):Prop where
 ok:X.Ok
 os:s.os=X.aZ.os
 bare:AllBare s.gens
 base:Un X.fs X.ex X.dM H X.aZ.heap s.heap
 loc:∃m,s.heap.Ns X.env.locals m/\∀(i:Nat) (x:Str) (v:V),X.N[i]? = some x->σ[i]? = some (some v)->v_ X.env.scope x->∃u,RelV v u/\Look X.env s.heap m x u
 cell:∀x c,X.env.cells.lookup x=some c->∃v,s.heap.IsCell c v
 free:H X.env.locals=none
 fF:∀x c,X.env.cells.lookup x=some c->H c=none
 pin:∀p∈X.pn++pins,s.heap.get? p.1=some p.2/\H p.1=none/\p.1≠X.env.locals/\p.1∉X.fs/\∀v,p.2.data≠.cell v
 aG:bV X.prog X.w H s.heap
 len:σ.length=X.N.length
section
variable{X:Cx}{pins:List (Addr×Obj)}{σ:List (Option V)}{H H':Hp}{s:Shared}{h':Heap}
theorem Cx.Ok.IZ(ok:X.Ok){b:Addr}{o:Obj}(e:X.base.get? b=some o):b∉X.fs:=λhb=>by
 have:=(ok.eK.mem hb).1;rw[e] at this;cases this
theorem Inv.bs(I:Inv X pins σ H s):∀b o,X.base.get? b=some o->s.heap.get? b=some o/\H b=none:=λb o e =>
 ⟨I.base.keep b o (I.ok.bs b o e).1 (I.ok.bs b o e).2 (I.ok.IZ e) (I.ok.ku b o e),I.base.free b o (I.ok.bs b o e).1 (I.ok.bs b o e).2 (I.ok.ku b o e)⟩
theorem Inv.bk(I:Inv X pins σ H s):∀b o,X.base.get? b=some o->s.heap.get? b=some o:=λb o e=>(I.bs b o e).1
theorem Inv.mod(I:Inv X pins σ H s):Mod X.K X.mg X.base:=I.ok.mod
theorem Inv.cu(I:Inv X pins σ H s):X.K.In s.heap:=I.ok.mod.ki.keeps I.bk
theorem Inv.lt(I:Inv X pins σ H s):X.env.locals<s.heap.objs.size:=let ⟨_,hn,_⟩:=I.loc;hn.lt
theorem Inv.sz(I:Inv X pins σ H s):X.aZ.heap.objs.size<=s.heap.objs.size:=Nat.le_trans I.ok.above (Nat.le_of_lt I.lt)
theorem Inv.I0(I:Inv X pins σ H s){a:Addr}(h:s.heap.objs.size<=a):a∉X.fs:=λhb=>by
 obtain⟨_,o,ho,_⟩:=I.ok.eK.mem hb;exact absurd (Nat.lt_of_lt_of_le (Heap.lt_size ho) (Nat.le_trans I.sz h)) (Nat.lt_irrefl _)
theorem Inv.gI(I:Inv X pins σ H s):∀x c,X.env.cells.lookup x=some c->c≠X.env.locals:=λx c e z=>by
 obtain⟨v,o,ho,hd⟩:=I.cell x c e;obtain⟨m,⟨o',es,ep,kC,wc,_⟩,_⟩:=I.loc;rw[z,kC] at ho;cases ho;rw[wc] at hd;cases hd
theorem Inv.eK(I:Inv X pins σ H s):s.heap.FunFrames X.base X.outer:=by
 have all:∀(l:List Env),(∀b∈bH l,b∈X.fs)->X.aZ.heap.FunFrames X.base l->s.heap.FunFrames X.base l:=by
  intro l
  induction l with
  | nil=>intro _ _;trivial
  | cons env r ih =>
   intro hs hl;obtain⟨hk,⟨L,o,hf,hn,ho,hd⟩,hr⟩:=hl;have hL:L∈X.fs:=hs L (by unfold bH;rw[List.filterMap_cons,hf];exact List.mem_cons_self)
   obtain⟨sl,e⟩:=I.base.slot L o ho (I.ok.gH L hL) hL λz=>I.ok.jF L z hL;exact⟨hk,⟨L,_,hf,hn,e,hd⟩,ih (λb hb=>hs b (by unfold bH;rw[List.filterMap_cons,hf];exact List.mem_cons_of_mem _ hb)) hr⟩
 exact all X.outer (λ_ hb=>hb) I.ok.eK
theorem Inv.stack(I:Inv X pins σ H s):s.heap.FunFrames X.base X.stack:=by
 rcases I.ok.lH with e | ⟨e,hf⟩
 ·rw[e];exact I.eK
 ·rw[e];obtain⟨m,hn,_⟩:=I.loc;refine .cons (by rw[I.ok.kind];decide) hf hn ?_ I.eK
  exact Heap.get?_none_of_le (Nat.le_trans I.ok.gG I.ok.above)
theorem Inv.we(I:Inv X pins σ H s):∀b∈bH X.stack,b∈X.env.locals::X.fs:=λb hb=>by
 rcases I.ok.lH with e | ⟨e,hf⟩
 ·rw[e] at hb;exact List.mem_cons_of_mem _ hb
 ·rw[e] at hb;unfold bH at hb;rw[List.filterMap_cons,hf] at hb;exact hb
theorem Inv.wg(I:Inv X pins σ H s):∀b∈bH X.stack,H b=none:=λb hb=>by
 rcases List.mem_cons.mp (I.we b hb) with e | hb
 ·rw[e];exact I.free
 ·obtain⟨_,o,ho,_⟩:=I.ok.eK.mem hb;exact I.base.free b o ho (I.ok.gH b hb) λz=>I.ok.jF b z hb
theorem Inv.step{g':Array GenState}{t':Nat}{d':Drawn}{ch:List Addr}(I:Inv X pins σ H s)
  (iz:∀b∈ch,(b∈X.ex\/X.aZ.heap.objs.size<=b)/\b≠X.env.locals/\(∀x c,X.env.cells.lookup x=some c->c≠b)/\∀p∈X.pn++pins,p.1≠b)
  (keep:∀b o,b≠X.env.locals->b∉X.fs->b∉ch->s.heap.get? b=some o->H b=none->h'.get? b=some o)
  (slot:∀b o,b≠X.env.locals->b∈X.fs->b∉ch->s.heap.get? b=some o->H b=none->∃sl,h'.get? b=some { o with slots:=sl }) (free:∀b o,b∉ch->s.heap.get? b=some o->H b=none->H' b=none)
  (there:∀b o,b∉ch->s.heap.get? b=some o->∃o',h'.get? b=some o')
  (fY:∀b xs,H b=some (.tup xs)->H' b=some (.tup xs)) (fP:∀b o u,H b=some (.eZ o u)->H' b=some (.eZ o u)) (fZ:∀b ps,H b=some (.jD ps)->∃more,H' b=some (.jD (ps++more)))
  (ns:∀m,s.heap.Ns X.env.locals m->h'.Ns X.env.locals m) (aG:bV X.prog X.w H' h') (hg:AllBare g') :
  Inv X pins σ H' { s with heap:=h',gens:=g',drawn:=d',toks:=t' }:=by
 have BN:∀b o,X.aZ.heap.get? b=some o->b≠X.env.locals:=λb o e=>Nat.ne_of_lt (Nat.lt_of_lt_of_le (Heap.lt_size e) I.ok.above);have qe:∀b o,X.aZ.heap.get? b=some o->b∉X.ex->b∉ch:=λb o e hx hb=>by
  rcases(iz b hb).1 with z | z
  ·exact hx z
  ·exact absurd (Nat.lt_of_lt_of_le (Heap.lt_size e) z) (Nat.lt_irrefl _)
 have cellK:∀x c,X.env.cells.lookup x=some c->∀v,s.heap.IsCell c v->h'.IsCell c v:=λx c e v ⟨o,ho,hd⟩=>by
  have mW:c∉ch:=λz=>(iz c z).2.2.1 x c e rfl;by_cases hc:c∈X.fs
  ·obtain⟨sl,q⟩:=slot c o (I.gI x c e) hc mW ho (I.fF x c e);exact⟨_,q,hd⟩
  ·exact⟨o,keep c o (I.gI x c e) hc mW ho (I.fF x c e),hd⟩
 refine⟨I.ok,I.os,hg,⟨λb o e n hb hx=>?_,λb o e n hb hx=>?_,λb o e n hx=>?_,λb o e hx=>?_,λb xs e=>fY b xs (I.base.fY b xs e),λb o xs e=>fP b o xs (I.base.fP b o xs e),λb ps e=>?_⟩,?_,λx c e=>?_,?_,λx c e=>?_,λp hp=>?_,aG,I.len⟩
 ·exact keep b o (BN b o e) hb (qe b o e hx) (I.base.keep b o e n hb hx) (I.base.free b o e n hx)
 ·obtain⟨sl,e1⟩:=I.base.slot b o e n hb hx;obtain⟨I_,e2⟩:=slot b _ (BN b o e) hb (qe b o e hx) e1 (I.base.free b o e n hx);exact⟨I_,e2⟩
 ·obtain⟨o',e1⟩:=I.base.there b o e hx;exact free b o' (qe b o e hx) e1 (I.base.free b o e n hx)
 ·obtain⟨o',e1⟩:=I.base.there b o e hx;exact there b o' (qe b o e hx) e1
 ·obtain⟨m1,e1⟩:=I.base.fZ b ps e;obtain⟨m2,e2⟩:=fZ b _ e1;exact⟨m1++m2,by rw[e2,Array.append_assoc]⟩
 ·obtain⟨m,hn,hl⟩:=I.loc;refine⟨m,ns m hn,λi x v e1 e2 e3=>?_⟩;obtain⟨u,r,l⟩:=hl i x v e1 e2 e3;refine⟨u,r,?_⟩;rcases l with l | ⟨k,c,e,z⟩
  ·exact .inl l
  ·exact .inr ⟨k,c,e,cellK x c e _ z⟩
 ·obtain⟨v,z⟩:=I.cell x c e;exact⟨v,cellK x c e v z⟩
 ·obtain⟨m,⟨o,_,_,ho,_⟩,_⟩:=I.loc;exact free _ o (λz=>(iz _ z).2.1 rfl) ho I.free
 ·obtain⟨v,o,ho,hd⟩:=I.cell x c e;exact free c o (λz=>(iz c z).2.2.1 x c e rfl) ho (I.fF x c e)
 ·obtain⟨e,n,ne,nf,d⟩:=I.pin p hp;have mW:p.1∉ch:=λz=>(iz p.1 z).2.2.2 p hp rfl;exact⟨keep p.1 p.2 ne nf mW e n,free p.1 p.2 mW e n,ne,nf,d⟩
theorem Inv.un{t':Nat}(I:Inv X pins σ H s)(u:Un X.fs [] H H' s.heap h')(aG:bV X.prog X.w H' h'):Inv X pins σ H' { s with heap:=h',toks:=t' }:=by
 obtain⟨m,⟨o,es,ep,ho,r⟩,_⟩:=id I.loc;obtain⟨sl,hL⟩:=u.any ho I.free (by simp)
 exact I.step (g':=s.gens) (d':=s.drawn) (ch:=[]) (λ_ z=>nomatch z) (λb o _ hb _ e n=>u.keep b o e n hb (by simp)) (λb o _ hb _ e n=>u.slot b o e n hb (by simp)) (λb o _ e n=>u.free b o e n (by simp)) (λb o _ e=>u.there b o e (by simp)) u.fY u.fP u.fZ (λm' hm=>by
  obtain⟨o',cU,e7,kC,r'⟩:=hm;rw[ho] at kC;cases kC;exact⟨_,cU,e7,hL,r'⟩) aG I.bare
theorem Inv.call{g':Array GenState}{t':Nat}{d':Drawn}{ch:List Addr}(I:Inv X pins σ H s)(u:Un (bH X.stack) ch H H' s.heap h')(aG:bV X.prog X.w H' h')(hg:AllBare g')
  (iz:∀b∈ch,(b∈X.ex\/X.aZ.heap.objs.size<=b)/\b≠X.env.locals/\(∀x c,X.env.cells.lookup x=some c->c≠b)/\∀p∈X.pn++pins,p.1≠b) :
  Inv X pins σ H' { s with heap:=h',gens:=g',drawn:=d',toks:=t' }:=by
 obtain⟨m,⟨o,es,ep,ho,r⟩,_⟩:=id I.loc;obtain⟨sl,hL⟩:=u.any ho I.free λz=>(iz _ z).2.1 rfl;exact I.step (ch:=ch) iz (λb o hL hb hc e n=>u.keep b o e n (λz=>(List.mem_cons.mp (I.we b z)).elim hL hb) hc) (λb o _ _ hc e n=>u.any e n hc) (λb o hc e n=>u.free b o e n hc) (λb o hc e=>u.there b o e hc) u.fY u.fP u.fZ (λm' hm=>by
  obtain⟨o',cU,e7,kC,r'⟩:=hm;rw[ho] at kC;cases kC;exact⟨_,cU,e7,hL,r'⟩) aG hg
theorem Inv.turned{t':Nat}{it:Addr}(I:Inv X pins σ H s)(k:∀b o,b≠it->s.heap.get? b=some o->h'.get? b=some o)(hn:H it=none)(hL:it≠X.env.locals)
  (h1:it∈X.ex\/X.aZ.heap.objs.size<=it) (h2:∀x c,X.env.cells.lookup x=some c->c≠it) (h3:∀p∈X.pn++pins,p.1≠it):Inv X pins σ H { s with heap:=h',toks:=t' }:=by
 have BO:∀b u,H b=some u->b≠it:=λb u e z=>by rw[z,hn] at e;cases e
 refine I.step (g':=s.gens) (d':=s.drawn) (ch:=[it]) (λb hb=>?_) (λb o _ _ hc e _=>k b o (λz=>hc (by simp[z])) e) (λb o _ _ hc e _=>⟨o.slots,k b o (λz=>hc (by simp[z])) e⟩) (λ_ _ _ _ n=>n)
  (λb o hc e=>⟨o,k b o (λz=>hc (by simp[z])) e⟩) (λ_ _ e=>e) (λ_ _ _ e=>e) (λb ps e=>⟨#[],by rw[e];simp⟩) (λm hm=>?_) (λb u e=>?_) I.bare
 ·have e:b=it:=by simpa using hb
  subst e;exact⟨h1,hL,h2,h3⟩
 ·obtain⟨o,es,ep,ho,r⟩:=hm;exact⟨o,es,ep,k _ o (Ne.symm hL) ho,r⟩
 ·refine(I.aG b u e).iS (λc v hc q=>k c v ?_ q) (λ_ q=>q) λ_ _ q=>q;rcases hc with z | z
  ·rw[z];exact BO b u e
  ·exact BO c _ z
theorem Inv.tok(I:Inv X pins σ H s)(t:Nat):Inv X pins σ H { s with toks:=t }:=I.un (h':=s.heap) (t':=t) Un.refl I.aG
theorem Inv.kept{t':Nat}(I:Inv X pins σ H s)(k:∀b u,s.heap.get? b=some u->h'.get? b=some u):Inv X pins σ H { s with heap:=h',toks:=t' }:=I.un (Un.kept k) (I.aG.kept k)
theorem Inv.laid{a:Addr}{o:HO}{t':Nat}(I:Inv X pins σ H s)(k:∀b u,s.heap.get? b=some u->h'.get? b=some u)(hp:s.heap.objs.size<=a)(new:cR X.prog X.w (upd H a o) h' a o) :
  Inv X pins σ (upd H a o) { s with heap:=h',toks:=t' }:=I.un (Un.laid k hp (I.aG.fresh hp)) (I.aG.laid k hp new)
theorem Inv.write{x e:Addr}{o:HO}{t':Nat}(I:Inv X pins σ H s)(mu:qc (H x))(he:e=x\/H e=some (.own x))(k:∀b u,b≠e->s.heap.get? b=some u->h'.get? b=some u)(lG:∃u,h'.get? e=some u)
  (new:cR X.prog X.w (upd H x o) h' x o):Inv X pins σ (upd H x o) { s with heap:=h',toks:=t' }:=I.un (Un.write mu he k lG) (I.aG.write mu he k lG new)
theorem Inv.BP{BQ:List (Addr×Obj)}(I:Inv X pins σ H s)(h:∀p∈BQ,s.heap.get? p.1=some p.2/\H p.1=none/\p.1≠X.env.locals/\p.1∉X.fs/\∀v,p.2.data≠.cell v):Inv X BQ σ H s :=
 ⟨I.ok,I.os,I.bare,I.base,I.loc,I.cell,I.free,I.fF,λp hp=>(List.mem_append.mp hp).elim (λz=>I.pin p (List.mem_append_left _ z)) (h p),I.aG,I.len⟩
theorem wj{N:List Str}(hN:N.Nodup){i j:Nat}{x:Str}(a:N[i]? = some x)(b:N[j]? = some x):i=j:=by
 obtain⟨h1,e1⟩:=List.getElem?_eq_some_iff.mp a;obtain⟨h2,e2⟩:=List.getElem?_eq_some_iff.mp b;exact(List.getElem_inj hN).mp (e1.trans e2.symm)
theorem BR{M:Model}{A:Around}{E:Value->Shared->Prop}{i:Nat}{x:Str}{v:V}{u:Value}{Q:Unit->Shared->Prop}(I:Inv X pins σ H s)(hN:X.N.Nodup)(hi:X.N[i]? = some x)(hx:Loc X.env.scope x)(r:RelV v u)
  (h:∀s',Inv X pins (σ.set i (some v)) H s'->(∃a,Heap.SameBut a s.heap s'.heap/\(a=X.env.locals\/X.env.cells.lookup x=some a))->Q () s') (hf:X.fn x=true\/X.env.scope.names.lookup x=some .local:=by first | exact .inl rfl | exact .inr rfl | assumption):wpAny M A (storeName X.env x u) Q E s:=by
 obtain⟨m,hn,hl⟩:=id I.loc;have mX:(X.env.scope.kind == .class || (X.env.scope.kind == .module && X.env.locals != X.env.globals))=false:=by rw[I.ok.kind];rfl
 have BS:i<σ.length:=by rw[I.len];exact(List.getElem?_eq_some_iff.mp hi).1
 have gI:=I.gI;have tracked:∀ {a:Addr} {h':Heap},(∃o,s.heap.get? a=some o/\H a=none)->Heap.SameBut a s.heap h'->bV X.prog X.w H h':=λ{a h'} ha hs b ob e=>by
  obtain⟨_,_,BU⟩:=ha;refine(I.aG b ob e).iS (λc w' hc q=>(hs.2 c ?_).trans q) (λ_ q=>q) λ_ _ q=>q;rintro rfl;rcases hc with rfl | hc
  ·rw[BU] at e;cases e
  ·rw[BU] at hc;cases hc
 rcases hx with hk | hk
 ·refine wpAny_storeName_local hk hn (λh' cI hs=>?_) mX;obtain⟨oL,_,_,gJ,_⟩:=id hn;refine h _ ⟨I.ok,I.os,I.bare,⟨λb o e n hb hx=>?_,λb o e n hb hx=>?_,I.base.free,λb o e hx=>?_,I.base.fY,I.base.fP,I.base.fZ⟩,⟨_,cI,λj y v' e1 e2 e3=>?_⟩,λy c e=>?_,I.free,I.fF,λp hp=>?_,tracked ⟨oL,gJ,I.free⟩ hs,by simpa using I.len⟩ ⟨_,hs,.inl rfl⟩
  ·exact(hs.2 b (Nat.ne_of_lt (Nat.lt_of_lt_of_le (Heap.lt_size e) I.ok.above))).trans (I.base.keep b o e n hb hx)
  ·obtain⟨sl,e1⟩:=I.base.slot b o e n hb hx;exact⟨sl,(hs.2 b (Nat.ne_of_lt (Nat.lt_of_lt_of_le (Heap.lt_size e) I.ok.above))).trans e1⟩
  ·obtain⟨o',e1⟩:=I.base.there b o e hx;exact⟨o',(hs.2 b (Nat.ne_of_lt (Nat.lt_of_lt_of_le (Heap.lt_size e) I.ok.above))).trans e1⟩
  ·by_cases hj:j=i
   ·subst hj;rw[hi] at e1;cases e1;rw[List.getElem?_set_self BS] at e2;cases e2;exact⟨u,r,.inl ⟨hk,by simp⟩⟩
   ·rw[List.getElem?_set_ne (Ne.symm hj)] at e2;obtain⟨u',r',q⟩:=hl j y v' e1 e2 e3;refine⟨u',r',?_⟩;rcases q with⟨k,e⟩ | ⟨k,c,e,z⟩
    ·refine .inl ⟨k,?_⟩;have:y≠x:=λe=>hj (wj hN e1 (e▸hi));simp[this,e]
    ·exact .inr ⟨k,c,e,z.sameBut hs (gI y c e)⟩
  ·obtain⟨w',z⟩:=I.cell y c e;exact⟨w',z.sameBut hs (gI y c e)⟩
  ·obtain⟨e,n,ne,nf,d⟩:=I.pin p hp;exact⟨(hs.2 p.1 ne).trans e,n,ne,nf,d⟩
 ·have wk:X.fn x=true:=by
   rcases hf with z | z
   ·exact z
   ·rw[z] at hk;cases hk
  obtain⟨c,hc⟩:=I.ok.has x (.inl hk);obtain⟨w',z⟩:=I.cell x c hc;refine wpAny_storeName_cell I.ok.kind hk hc z (λh' wm hs=>?_);obtain⟨oc,BV,Ja⟩:=id z;refine h { s with heap:=h' } ⟨I.ok,I.os,I.bare,⟨λb o e n hb hx=>?_,λb o e n hb hx=>?_,I.base.free,λb o e hx=>?_,I.base.fY,I.base.fP,I.base.fZ⟩,⟨m,hn.sameBut hs (Ne.symm (gI x c hc)),λj y v' e1 e2 e3=>?_⟩,λy c' e=>?_,I.free,I.fF,λp hp=>?_,tracked ⟨oc,BV,I.fF x c hc⟩ hs,by simpa using I.len⟩ ⟨c,hs,.inr hc⟩
  ·exact(hs.2 b (Nat.ne_of_lt (Nat.lt_of_lt_of_le (Heap.lt_size e) (I.ok.kq x c wk hc)))).trans (I.base.keep b o e n hb hx)
  ·obtain⟨sl,e1⟩:=I.base.slot b o e n hb hx;exact⟨sl,(hs.2 b (Nat.ne_of_lt (Nat.lt_of_lt_of_le (Heap.lt_size e) (I.ok.kq x c wk hc)))).trans e1⟩
  ·obtain⟨o',e1⟩:=I.base.there b o e hx;exact⟨o',(hs.2 b (Nat.ne_of_lt (Nat.lt_of_lt_of_le (Heap.lt_size e) (I.ok.kq x c wk hc)))).trans e1⟩
  ·by_cases hj:j=i
   ·subst hj;rw[hi] at e1;cases e1;rw[List.getElem?_set_self BS] at e2;cases e2;exact⟨u,r,.inr ⟨.inl hk,c,hc,wm⟩⟩
   ·rw[List.getElem?_set_ne (Ne.symm hj)] at e2;obtain⟨u',r',q⟩:=hl j y v' e1 e2 e3;refine⟨u',r',?_⟩;rcases q with q | ⟨k,c',e,z'⟩
    ·exact .inl q
    ·refine .inr ⟨k,c',e,z'.sameBut hs ?_⟩;rintro rfl;exact hj (wj hN e1 (I.ok.inj _ _ _ e hc▸hi))
  ·by_cases BW:c' = c
   ·subst BW;exact⟨_,wm⟩
   ·obtain⟨w2,z2⟩:=I.cell y c' e;exact⟨w2,z2.sameBut hs BW⟩
  ·obtain⟨e,n,ne,nf,d⟩:=I.pin p hp;refine⟨(hs.2 p.1 ?_).trans e,n,ne,nf,d⟩;intro q;rw[q,BV] at e;have q':oc=p.2:=Option.some.inj e;exact d w' (by rw[← q'];exact Ja)
theorem wu{M:Model}{A:Around}{E:Value->Shared->Prop}{i:Nat}{x:Str}{v:V}{u:Value}{Q:Unit->Shared->Prop}(I:Inv X pins σ H s)(hN:X.N.Nodup)(hi:X.N[i]? = some x)(hx:Loc X.env.scope x)(r:RelV v u)
  (h:∀s',Inv X pins (σ.set i (some v)) H s'->Q () s') (hf:X.fn x=true\/X.env.scope.names.lookup x=some .local:=by first | exact .inl rfl | exact .inr rfl | assumption):wpAny M A (storeName X.env x u) Q E s :=
 BR I hN hi hx r (λs' I' _=>h s' I') hf
theorem Inv.qg{s':Shared}{ch:List Addr}(I:Inv X pins σ H s)(ho:s'.os=s.os)(u:Un (bH X.stack) ch H H' s.heap s'.heap)(aG:bV X.prog X.w H' s'.heap)(hg:AllBare s'.gens)
  (iz:∀b∈ch,(b∈X.ex\/X.aZ.heap.objs.size<=b)/\b≠X.env.locals/\(∀x c,X.env.cells.lookup x=some c->c≠b)/\∀p∈X.pn++pins,p.1≠b):Inv X pins σ H' s':=by
 obtain⟨h',g',d',t',o'⟩:=s';have e:o' = s.os:=ho;subst e;exact I.call (g':=g') (t':=t') (d':=d') u aG hg iz
end
noncomputable abbrev XK:=Value->Option Addr->Hp->Prop
noncomputable abbrev St:=List (Option V)
noncomputable abbrev VK:=V->Hp->Prop
noncomputable abbrev TE:=St->Hp->VK->Prop
noncomputable abbrev TT:=St->Hp->(Bool->Hp->Prop)->Prop
noncomputable abbrev TA:=St->Hp->(List V->Hp->Prop)->Prop
structure Ends where
 nx:St->Hp->Prop
 rt:VK
 bk:St->Hp->Prop:=λ_ _=>False
 ct:St->Hp->Prop:=λ_ _=>False
noncomputable abbrev TS:=Ends->St->Hp->Prop
noncomputable def EP(X:Cx)(pins:List (Addr×Obj))(σ:St)(Q:VK)(u:Value)(s':Shared):Prop:=∃v H',Inv X pins σ H' s'/\RelV v u/\Q v H'
noncomputable def TP(X:Cx)(pins:List (Addr×Obj))(σ:St)(Q:Bool->Hp->Prop)(b:Bool)(s':Shared):Prop:=∃H',Inv X pins σ H' s'/\Q b H'
noncomputable def AP(X:Cx)(pins:List (Addr×Obj))(σ:St)(Q:List V->Hp->Prop)(us:List Value)(s':Shared):Prop:=∃vs H',Inv X pins σ H' s'/\Vals vs us/\Q vs H'
noncomputable def SP(X:Cx)(pins:List (Addr×Obj))(D:Ends)(f:Flow)(s':Shared):Prop :=
 match f with
 | .next=>∃aJ H',Inv X pins aJ H' s'/\D.nx aJ H'
 | .brk=>∃aJ H',Inv X pins aJ H' s'/\D.bk aJ H'
 | .cont=>∃aJ H',Inv X pins aJ H' s'/\D.ct aJ H'
 | .ret u=>∃v aJ H',Inv X pins aJ H' s'/\RelV v u/\D.rt v H'
noncomputable def PE(X:Cx)(e:Expr)(t:TE):Prop :=
 ∀(pins:List (Addr×Obj)) (s:Shared) (σ:St) (H:Hp) (Q:VK),Inv X pins σ H s->t σ H Q->wpAny (model X.prog X.w) X.A (eval e X.env) (EP X pins σ Q) X.xe s
noncomputable def PT(X:Cx)(e:Expr)(t:TT):Prop :=
 ∀(pins:List (Addr×Obj)) (s:Shared) (σ:St) (H:Hp) (Q:Bool->Hp->Prop),Inv X pins σ H s->t σ H Q->wpAny (model X.prog X.w) X.A (isTrue e X.env (eval e X.env)) (TP X pins σ Q) X.xe s
noncomputable def PW(X:Cx)(e:Expr)(t:TT):Prop :=
 ∀(whole:Sem Value) (pins:List (Addr×Obj)) (s:Shared) (σ:St) (H:Hp) (Q:Bool->Hp->Prop),Inv X pins σ H s->t σ H Q->wpAny (model X.prog X.w) X.A (isTrue e X.env whole) (TP X pins σ Q) X.xe s
theorem PW.pt{X:Cx}{e:Expr}{t:TT}(h:PW X e t):PT X e t:=h _
noncomputable def PA(X:Cx)(es:List Expr)(t:TA):Prop :=
 ∀(pos:Pos) (pins:List (Addr×Obj)) (s:Shared) (σ:St) (H:Hp) (Q:List V->Hp->Prop),Inv X pins σ H s->t σ H Q->wpAny (model X.prog X.w) X.A (spliced (backTo pos (starEach es X.env))) (AP X pins σ Q) X.xe s
noncomputable def PS(X:Cx)(st:Stmt)(t:TS):Prop :=
 ∀(pins:List (Addr×Obj)) (s:Shared) (σ:St) (H:Hp) (D:Ends),Inv X pins σ H s->t D σ H->wpAny (model X.prog X.w) X.A (exec st X.env) (SP X pins D) X.xe s
noncomputable def dY(X:Cx)(st:List Stmt)(t:TS):Prop :=
 ∀(pins:List (Addr×Obj)) (s:Shared) (σ:St) (H:Hp) (D:Ends),Inv X pins σ H s->t D σ H->wpAny (model X.prog X.w) X.A (execs st X.env) (SP X pins D) X.xe s
theorem aL{α:Type}{t:Sem α}{Q Q':α->Shared->Prop}{M:Model}{A:Around}{E:Value->Shared->Prop}{s:Shared}(h:wpAny M A t Q E s)(hQ:∀a s,Q a s->Q' a s):wpAny M A t Q' E s:=wpAny_mono h hQ λ_ _ x=>x
section
variable{X:Cx}
noncomputable def BX(i:Nat):TE:=λσ H Q=>∃v,σ[i]? = some (some v)/\Q v H
noncomputable def tC(v:V):TE:=λ_ H Q=>Q v H
theorem Jb{i:Nat}{x:Str}{pos:Pos}(hN:X.N[i]? = some x)(hv:v_ X.env.scope x)(hd:(x == ("__debug__" : Str))=false:=by decide)(cM:(x == ("__classdict__" : Str))=false:=by decide):PE X (.Name x pos) (BX i):=by
 intro pins s σ H Q I h;obtain⟨v,e,h⟩:=h;obtain⟨m,hn,hl⟩:=I.loc;obtain⟨u,r,l⟩:=hl i x v hN e hv;have fin:EP X pins σ Q u s:=⟨v,H,I,r,h⟩;rcases l with⟨hk,hm⟩ | ⟨hk,c,hc,BY⟩
 ·exact wpAny_Name (wpAny_loadName_local I.ok.kind hk hn hm fin) hd
 ·rcases hk with hk | hk
  ·exact wpAny_Name (wpAny_loadName_cell I.ok.kind hk hc BY fin) hd
  ·exact wpAny_Name (wpAny_loadName_free I.ok.kind hk hc BY fin cM) hd
theorem aj{i j pos}:PE X (.Constant (.int i) j pos) (tC (.int i)):=λ_ _ _ H _ I h=>wpAny_Constant_int ⟨.int i,H,I.tok _,⟨_,rfl⟩,h⟩
theorem dw{b j pos}:PE X (.Constant (.bool b) j pos) (tC (.bl b)):=λ_ _ _ H _ I h=>Constant_bool ⟨.bl b,H,I,rfl,h⟩
theorem bX{j pos}:PE X (.Constant .none j pos) (tC .aF):=λ_ _ _ H _ I h=>Constant_none ⟨.aF,H,I,rfl,h⟩
theorem aE{x j pos}:PE X (.Constant (.str x) j pos) (tC (.str x)):=λ_ _ _ H _ I h=>Calls.Constant_str ⟨.str x,H,I.tok _,⟨_,rfl⟩,h⟩
noncomputable def Gl(X:Cx)(x:Str):Prop:=X.env.kindOf x=some .globalImplicit
theorem lI{E:Value->Shared->Prop}{pins:List (Addr×Obj)}{s:Shared}{σ:St}{H:Hp}{x:Str}{u:Value}{pos:Pos}{Q:Value->Shared->Prop}(I:Inv X pins σ H s)(hg:Gl X x)(hm:X.mg x=some u)(h:Q u s)
  (hd:(x == ("__debug__" : Str))=false:=by decide):wpAny (model X.prog X.w) X.A (eval (.Name x pos) X.env) Q E s :=
 Calls.Name_function_global I.ok.kind hg (Calls.loadGlobal_global (by rw[I.ok.glob];exact I.mod.glob.keeps I.bk) hm h) hd
theorem iU{E:Value->Shared->Prop}{pins:List (Addr×Obj)}{s:Shared}{σ:St}{H:Hp}{x:Str}{u:Value}{pos:Pos}{Q:Value->Shared->Prop}(I:Inv X pins σ H s)(hg:Gl X x)(hm:X.mg x=none)(hv:bootBuiltins x=some u)(h:Q u s)
  (hn:x≠"__name__" := by decide) (hd:(x == ("__debug__" : Str))=false:=by decide):wpAny (model X.prog X.w) X.A (eval (.Name x pos) X.env) Q E s:=by
 obtain⟨mb,h1,h2⟩:=I.mod.blt;exact Calls.Name_function_global I.ok.kind hg (Calls.loadGlobal_builtin (by rw[I.ok.glob];exact I.mod.glob.keeps I.bk) hm (by rw[I.ok.blt];exact h1.keeps I.bk) ((h2 x hn).trans hv) h) hd
theorem eL{x:Str}{v:V}{u:Value}{pos:Pos}(hg:Gl X x)(hm:X.mg x=some u)(r:RelV v u)(hd:(x == ("__debug__" : Str))=false:=by decide):PE X (.Name x pos) (tC v) :=
 λ_ _ _ H _ I h=>lI I hg hm ⟨v,H,I,r,h⟩ hd
theorem lJ{x:Str}{v:V}{u:Value}{pos:Pos}(hg:Gl X x)(hm:X.mg x=none)(hv:bootBuiltins x=some u)(r:RelV v u)(hn:x≠"__name__" := by decide)(hd:(x == ("__debug__" : Str))=false:=by decide):PE X (.Name x pos) (tC v) :=
 λ_ _ _ H _ I h=>iU I hg hm hv ⟨v,H,I,r,h⟩ hn hd
variable{a b:Expr}{ta tb:TE}{pos:Pos}
noncomputable def PC(X:Cx)(op:CmpOp)(a b:Expr)(t:TE):Prop :=
 ∀(pins:List (Addr×Obj)) (s:Shared) (σ:St) (H:Hp) (Q:VK),Inv X pins σ H s->t σ H Q->
  wpAny (model X.prog X.w) X.A (eval a X.env) (λv a_=>wpAny (model X.prog X.w) X.A (eval b X.env) (λu fG=>wpAny (model X.prog X.w) X.A (compareOp op v u) (EP X pins σ Q) X.xe fG) X.xe a_) X.xe s
noncomputable def tB(t:TE):TT:=λσ H Q=>t σ H λx H1=>∃c,x = .bl c/\Q c H1
theorem f9{e:Expr}{t:TE}(h:PE X e t)(he:∀whole,isTrue e X.env whole=(do let v ← whole;standAt e.pos;holding [v] (truthy v)):=by intro _;rfl):PT X e (tB t):=by
 intro pins s σ H Q I hw;refine isTrue_plain (aL (h pins s σ H _ I hw) λv s1 ⟨x,H1,I1,r1,q1⟩=>?_) (he _);obtain⟨d,rfl,q⟩:=q1;cases r1;exact wpAny_truthy_bool ⟨H1,I1,q⟩
variable{tA qh:TT}{rest:List Expr}
noncomputable def Jc(t u:TT):TT:=λσ H Q=>t σ H λc H1=>if c=true then u σ H1 Q else Q false H1
noncomputable def Jd(t u:TT):TT:=λσ H Q=>t σ H λc H1=>if c=true then Q true H1 else u σ H1 Q
noncomputable def Je(t:TT):TT:=λσ H Q=>t σ H λc H1=>Q (!c) H1
theorem qi(ha:PT X a tA):PW X (.BoolOp .And [a] pos) tA:=by
 intro wh pins s σ H Q I h;refine isTrue_and (aL (ha pins s σ H Q I h) λc s1 e=>?_);cases c with
 | true=>exact isTrue_and_nil e
 | false=>exact e
theorem fQ(ha:PT X a tA):PW X (.BoolOp .Or [a] pos) tA:=by
 intro wh pins s σ H Q I h;refine isTrue_or (aL (ha pins s σ H Q I h) λc s1 e=>?_);cases c with
 | false=>exact isTrue_or_nil e
 | true=>exact e
theorem qj(ha:PT X a tA)(hb:PW X (.BoolOp .And (b::rest) pos) qh):PW X (.BoolOp .And (a::b::rest) pos) (Jc tA qh):=by
 intro wh pins s σ H Q I h;refine isTrue_and (aL (ha pins s σ H _ I h) λc s1 ⟨H1,I1,q1⟩=>?_);cases c with
 | true=>exact hb wh pins s1 σ H1 Q I1 q1
 | false=>exact⟨H1,I1,q1⟩
theorem dz(ha:PT X a tA)(hb:PW X (.BoolOp .Or (b::rest) pos) qh):PW X (.BoolOp .Or (a::b::rest) pos) (Jd tA qh):=by
 intro wh pins s σ H Q I h;refine isTrue_or (aL (ha pins s σ H _ I h) λc s1 ⟨H1,I1,q1⟩=>?_);cases c with
 | true=>exact⟨H1,I1,q1⟩
 | false=>exact hb wh pins s1 σ H1 Q I1 q1
theorem iW(ha:PT X a tA):PT X (.UnaryOp .Not a pos) (Je tA):=by
 intro pins s σ H Q I h;exact isTrue_not (ha pins s σ H (λc H1=>Q (!c) H1) I h)
noncomputable def Jf(ta tb:TE):TE:=λσ H Q=>ta σ H λx H1=>∃c,x = .bl c/\if c=true then tb σ H1 Q else Q (.bl false) H1
noncomputable def Ve(ta tb:TE):TE:=λσ H Q=>ta σ H λx H1=>∃c,x = .bl c/\if c=true then Q (.bl true) H1 else tb σ H1 Q
noncomputable def Jg(ta:TE):TE:=λσ H Q=>ta σ H λx H1=>∃c,x = .bl c/\Q (.bl (!c)) H1
theorem mY{op}{t:TE}(h:PE X a t):PE X (.BoolOp op [a] pos) t:=λpins s σ H Q I hw=>BoolOp_one (h pins s σ H Q I hw)
theorem mZ(ha:PE X a ta)(hb:PE X (.BoolOp .And (b::rest) pos) tb):PE X (.BoolOp .And (a::b::rest) pos) (Jf ta tb):=by
 intro pins s σ H Q I h;refine BoolOp_and (aL (ha pins s σ H _ I h) λv s1 ⟨x,H1,I1,r1,q1⟩=>?_);obtain⟨c,rfl,q1⟩:=q1;cases r1;refine wpAny_truthy_bool ?_;cases c with
 | true=>exact hb pins s1 σ H1 Q I1 q1
 | false=>exact⟨.bl false,H1,I1,rfl,q1⟩
theorem Jh(ha:PE X a ta):PE X (.UnaryOp .Not a pos) (Jg ta):=by
 intro pins s σ H Q I h;refine UnaryOp_ (aL (ha pins s σ H _ I h) λv s1 ⟨x,H1,I1,r1,q1⟩=>?_);obtain⟨c,rfl,q1⟩:=q1;cases r1;exact not_of (wpAny_truthy_bool ⟨.bl (!c),H1,I1,rfl,q1⟩)
noncomputable def Ji(t:TT)(ta tb:TE):TE:=λσ H Q=>t σ H λc H1=>if c=true then ta σ H1 Q else tb σ H1 Q
theorem m5{c:Expr}(hc:PT X c tA)(ha:PE X a ta)(hb:PE X b tb):PE X (.IfExp c a b pos) (Ji tA ta tb):=by
 intro pins s σ H Q I h;refine wpAny_IfExp (aL (hc pins s σ H _ I h) λd s1 ⟨H1,I1,q1⟩=>?_);cases d with
 | true=>exact ha pins s1 σ H1 Q I1 q1
 | false=>exact hb pins s1 σ H1 Q I1 q1
end
noncomputable def ao(K:PySem.W.Frag)(H:Hp)(a:Addr)(xs:List V):Prop :=
 Rd H a (.lst xs)\/
  ∃(o:Obj) (aB:Array Value) (n:Nat),K.lookup a=some o/\o.cls = .type "list"/\o.dict=none/\o.data = .seq aB n/\aB.size<=sizeLine/\Vals xs aB.toList
noncomputable def aK(K:PySem.W.Frag)(H:Hp)(a:Addr)(xs:List V):Prop :=
 Rd H a (.tup xs)\/
  ∃(o:Obj) (aB:Array Value) (n:Nat),K.lookup a=some o/\o.cls = .type "tuple"/\o.data = .seq aB n/\aB.size<=sizeLine/\Vals xs aB.toList
noncomputable def Jj:Value->Option V
 | .none=>some .aF
 | .bool b=>some (.bl b)
 | .int i _=>some (.int i)
 | .str x _=>some (.str x)
 | .bytes b _=>some (.eY b)
 | .float b _=>some (.iw b)
 | .ref a=>some (.ref a)
 | .type n=>some (.ty n)
 | _=>none
theorem RelV.abs{x:V}{u:Value}(r:RelV x u):Jj u=some x:=by
 cases x with
 | aF=>cases r;rfl
 | bl _=>cases r;rfl
 | int _=>obtain⟨t,rfl⟩:=r;rfl
 | str _=>obtain⟨t,rfl⟩:=r;rfl
 | eY _=>obtain⟨t,rfl⟩:=r;rfl
 | iw _=>obtain⟨t,rfl⟩:=r;rfl
 | ref _=>cases r;rfl
 | ty _=>cases r;rfl
theorem RelV.inj{x y:V}{u:Value}(r:RelV x u)(q:RelV y u):x=y:=Option.some.inj (r.abs.symm.trans q.abs)
theorem Vals.inj:∀ {xs ys:List V} {us:List Value},Vals xs us->Vals ys us->xs=ys
 | _,_,_,.nil,.nil=>rfl
 | _,_,_,.cons r t,.cons r' t'=>by rw[r.inj r',Vals.inj t t']
section
variable{X:Cx}{pins:List (Addr×Obj)}{σ:St}{H:Hp}{s:Shared}{a:Addr}{xs ys:List V}
theorem ao.of{K:PySem.W.Frag}(h:H a=some (.lst xs)):ao K H a xs:=.inl (.inl h)
theorem aK.of{K:PySem.W.Frag}(h:H a=some (.tup xs)):aK K H a xs:=.inl (.inl h)
theorem Inv.list(I:Inv X pins σ H s)(h:ao X.K H a xs):∃aB:List Value,Vals xs aB/\PlainL s.heap a aB.toArray/\xs.length<=sizeLine:=by
 rcases h with h | ⟨o,aB,n,hk,hc,hd,hs,hz,r⟩
 ·obtain⟨z,aB,n,r,e⟩:=h.ok I.aG;exact⟨aB,r,⟨_,n,e,rfl,rfl,rfl⟩,z⟩
 ·refine⟨aB.toList,r,⟨o,n,I.cu a o hk,hc,hd,by simpa using hs⟩,?_⟩
  have e:=r.length;simp only[Array.length_toList] at e;lia
theorem Inv.tuple(I:Inv X pins σ H s)(h:aK X.K H a xs):∃aB:List Value,Vals xs aB/\IsTup s.heap a aB.toArray/\xs.length<=sizeLine:=by
 rcases h with h | ⟨o,aB,n,hk,hc,hs,hz,r⟩
 ·obtain⟨z,aB,r,p⟩:=h.ok I.aG;exact⟨aB,r,p,z⟩
 ·refine⟨aB.toList,r,⟨o,I.cu a o hk,hc,n,by simpa using hs⟩,?_⟩
  have e:=r.length;simp only[Array.length_toList] at e;lia
theorem Inv.Jk(I:Inv X pins σ H s)(h:ao X.K H a xs)(h':ao X.K H a ys):xs=ys:=by
 obtain⟨aB,r,⟨o,n,e,_,_,d⟩,_⟩:=I.list h;obtain⟨its',r',⟨o',n',e',_,_,d'⟩,_⟩:=I.list h';rw[e] at e';cases e';rw[d] at d';injection d' with d1 _;have:aB=its':=by simpa using congrArg Array.toList d1
 subst this;exact r.inj r'
theorem Inv.Jl(I:Inv X pins σ H s)(h:aK X.K H a xs)(h':aK X.K H a ys):xs=ys:=by
 obtain⟨aB,r,⟨o,e,_,n,d⟩,_⟩:=I.tuple h;obtain⟨its',r',⟨o',e',_,n',d'⟩,_⟩:=I.tuple h';rw[e] at e';cases e';rw[d] at d';injection d' with d1 _;have:aB=its':=by simpa using congrArg Array.toList d1
 subst this;exact r.inj r'
end
noncomputable abbrev Cx.f_(X:Cx)(E:Value->Shared->Prop):Cx:={ X with xe:=E }
noncomputable abbrev Cx.m6(X:Cx):Cx:=X.f_ λ_ _=>False
theorem Cx.Ok.f_{X:Cx}(ok:X.Ok)(E:Value->Shared->Prop):(X.f_ E).Ok :=
 ⟨ok.mod,ok.kind,ok.glob,ok.blt,ok.above,ok.inj,ok.has,ok.kq,ok.hd,ok.frames,ok.lH,ok.jE,ok.bs,ok.gG,ok.ku,ok.jF,ok.eK,ok.gH⟩
theorem Cx.Ok.iX{X:Cx}{E:Value->Shared->Prop}(ok:(X.f_ E).Ok):X.Ok :=
 ⟨ok.mod,ok.kind,ok.glob,ok.blt,ok.above,ok.inj,ok.has,ok.kq,ok.hd,ok.frames,ok.lH,ok.jE,ok.bs,ok.gG,ok.ku,ok.jF,ok.eK,ok.gH⟩
section
variable{X:Cx}{pins:List (Addr×Obj)}{σ:St}{H:Hp}{s:Shared}{E:Value->Shared->Prop}
theorem Inv.f_(I:Inv X pins σ H s)(E:Value->Shared->Prop):Inv (X.f_ E) pins σ H s:=⟨I.ok.f_ E,I.os,I.bare,I.base,I.loc,I.cell,I.free,I.fF,I.pin,I.aG,I.len⟩
theorem Inv.iX(I:Inv (X.f_ E) pins σ H s):Inv X pins σ H s:=⟨I.ok.iX,I.os,I.bare,I.base,I.loc,I.cell,I.free,I.fF,I.pin,I.aG,I.len⟩
theorem SP.iX{D:Ends}{f:Flow}{s':Shared}(h:SP (X.f_ E) pins D f s'):SP X pins D f s':=by
 cases f with
 | next=>obtain⟨aJ,H',I,q⟩:=h;exact⟨aJ,H',I.iX,q⟩
 | brk=>obtain⟨aJ,H',I,q⟩:=h;exact⟨aJ,H',I.iX,q⟩
 | cont=>obtain⟨aJ,H',I,q⟩:=h;exact⟨aJ,H',I.iX,q⟩
 | ret u=>obtain⟨v,aJ,H',I,r,q⟩:=h;exact⟨v,aJ,H',I.iX,r,q⟩
theorem dY.m6{st:List Stmt}{t:TS}(h:dY X.m6 st t):dY X st t:=λpins s σ H D I hw =>
 wpAny_mono (h pins s σ H D (I.f_ _) hw) (λ_ _ q=>q.iX) λ_ _ z=>False.elim z
end
section
variable{X:Cx}{st:Stmt}{rest:List Stmt}{t u:TS}{e:Expr}{te:TE}{pos:Pos}
noncomputable def Jm:TS:=λD σ H=>D.nx σ H
noncomputable def Jo(t u:TS):TS:=λD σ H=>t { D with nx:=u D } σ H
theorem bf:dY X [] Jm:=λ_ _ σ H _ I h=>wpAny_execs_nil ⟨σ,H,I,h⟩
theorem az(h1:PS X st t)(h2:dY X rest u):dY X (st::rest) (Jo t u):=by
 intro pins s σ H D I h;refine wpAny_execs_cons (aL (h1 pins s σ H { D with nx:=u D } I h) λf s1 q=>?_);cases f with
 | next =>
  obtain⟨aJ,H',I',q⟩:=q;exact h2 pins s1 aJ H' D I' q
 | ret v=>exact q
 | brk=>exact q
 | cont=>exact q
theorem aD(h1:PS X st t):dY X [st] t:=by
 intro pins s σ H D I h;refine wpAny_execs_cons (aL (h1 pins s σ H D I h) λf s1 q=>?_);cases f with
 | next=>exact wpAny_execs_nil q
 | ret v=>exact q
 | brk=>exact q
 | cont=>exact q
theorem Inv.quiet{pins:List (Addr×Obj)}{σ:St}{H:Hp}{s:Shared}(I:Inv X pins σ H s):interactive X.env=false:=by simp[interactive,I.ok.kind]
noncomputable def Jp(te:TE):TS:=λD σ H=>te σ H λ_ H1=>D.nx σ H1
theorem cJ(he:PE X e te)(hs:swapsWith e none pos.line X.env=pure false:=by rfl):PS X (.Expr e pos) (Jp te):=by
 intro pins s σ H D I h;exact wpAny_Expr_any (aL (he pins s σ H _ I h) λv s1 ⟨x,H1,I1,r1,q1⟩=>⟨σ,H1,I1,q1⟩) I.quiet hs
noncomputable def BZ(te:TE):TS:=λD σ H=>te σ H D.rt
theorem aV(he:PE X e te):PS X (.Return (some e) pos) (BZ te):=by
 intro pins s σ H D I h;exact wpAny_Return_some (aL (he pins s σ H _ I h) λv s1 ⟨x,H1,I1,r1,q1⟩=>⟨x,σ,H1,I1,r1,q1⟩)
noncomputable def Vf:TS:=λD _ H=>D.rt .aF H
noncomputable def Jq(c:TT)(t u:TS):TS:=λD σ H=>c σ H λb H1=>if b=true then t D σ H1 else u D σ H1
theorem aY{c:Expr}{a b:List Stmt}{tc:TT}(hc:PT X c tc)(ha:dY X a t)(hb:dY X b u):PS X (.If c a b pos) (Jq tc t u):=by
 intro pins s σ H D I h;refine wpAny_If (aL (hc pins s σ H _ I h) λd s1 ⟨H1,I1,q1⟩=>?_);cases d with
 | true=>exact ha pins s1 σ H1 D I1 q1
 | false=>exact hb pins s1 σ H1 D I1 q1
noncomputable def Vg:TS:=λ_ _ _=>False
end
noncomputable abbrev TG:=V->St->Hp->(St->Hp->Prop)->Prop
noncomputable abbrev m8:=List V->St->Hp->(St->Hp->Prop)->Prop
noncomputable def PG(X:Cx)(target:Expr)(t:TG):Prop :=
 ∀(pins:List (Addr×Obj)) (s:Shared) (σ:St) (H:Hp) (v:V) (u:Value) (Q:St->Hp->Prop),Inv X pins σ H s->RelV v u->t v σ H Q->
  wpAny (model X.prog X.w) X.A (assign target X.env u) (λ_ s'=>∃aJ H',Inv X pins aJ H' s'/\Q aJ H') X.xe s
noncomputable def Jr(X:Cx)(ts:List Expr)(t:m8):Prop :=
 ∀(pins:List (Addr×Obj)) (s:Shared) (σ:St) (H:Hp) (vs:List V) (us:List Value) (Q:St->Hp->Prop),Inv X pins σ H s->Vals vs us->t vs σ H Q->
  wpAny (model X.prog X.w) X.A (assignInOrder ((assignEach ts X.env).map (·.2)) us) (λ_ s'=>∃aJ H',Inv X pins aJ H' s'/\Q aJ H') X.xe s
noncomputable abbrev Js:=V->V->V->Hp->(Hp->Prop)->Prop
section
variable{X:Cx}{pos:Pos}
noncomputable def qk(i:Nat):TG:=λv σ H Q=>Q (σ.set i (some v)) H
theorem eN{i:Nat}{x:Str}(hN:X.N.Nodup)(hi:X.N[i]? = some x)(hx:Loc X.env.scope x)(hf:X.fn x=true\/X.env.scope.names.lookup x=some .local:=by first | exact .inl rfl | exact .inr rfl | assumption):PG X (.Name x pos) (qk i):=by
 intro pins s σ H v u Q I r h;exact wpAny_assign_Name (wu I hN hi hx r (λs' I'=>⟨_,H,I',h⟩) hf)
noncomputable def Vh:m8:=λvs σ H Q=>vs = []/\Q σ H
noncomputable def Vi(t:TG)(u:m8):m8:=λvs σ H Q=>∃v r,vs=v::r/\t v σ H λaJ H'=>u r aJ H' Q
noncomputable def Vj(K:PySem.W.Frag)(n:Nat)(t:m8):TG:=λv σ H Q=>∃a xs,v = .ref a/\aK K H a xs/\xs.length=n/\t xs σ H Q
noncomputable def Vk(to ti:TE)(t:Js):TG:=λv σ H Q=>to σ H λo H1=>ti σ H1 λi H2=>t o i v H2 λH3=>Q σ H3
noncomputable def B0(te:TE)(g:TG):TS:=λD σ H=>te σ H λx H1=>g x σ H1 D.nx
theorem aU{i:Nat}{x:Str}{e:Expr}{te:TE}{pos':Pos}(hN:X.N.Nodup)(hi:X.N[i]? = some x)(hx:Loc X.env.scope x)(he:PE X e te)(hs:swapsWith e (some (.Name x pos')) pos.line X.env=pure false:=by rfl)(hf:X.fn x=true\/X.env.scope.names.lookup x=some .local:=by first | exact .inl rfl | exact .inr rfl | assumption) :
  PS X (.Assign [.Name x pos'] e pos) (B0 te (qk i)):=by
 intro pins s σ H D I h;refine wpAny_Assign_Name (aL (he pins s σ H _ I h) λv s1 ⟨y,H1,I1,r1,q1⟩=>?_) hs;exact wu I1 hN hi hx r1 (λs2 I2=>⟨_,H1,I2,q1⟩) hf
end
section
variable{X:Cx}{pos:Pos}
noncomputable def Jt(c:TT)(tb:TS):TS:=λD σ H=>∃W:Nat->St->Hp->Prop,(∃m,W m σ H)/\∀m σ H,W m σ H->
 c σ H λb H1=>if b=true then ∃N:St->Hp->Prop,(∀aJ H',N aJ H'->∃m',m' < m/\W m' aJ H')/\tb { D with nx:=N,ct:=N,bk:=D.nx } σ H1 else D.nx σ H1
theorem B3{c:Expr}{body:List Stmt}{tc:TT}{tb:TS}(hp:PassesOwn (model X.prog X.w) X.A X.env X.xe)(hc:PT X c tc)(hb:dY X body tb):PS X (.While c body [] pos) (Jt tc tb):=by
 intro pins s σ H D I h;obtain⟨W,⟨m0,w0⟩,turn⟩:=h;refine wpAny_While (codeAny_whileLoop (λn s'=>∃aJ H',Inv X pins aJ H' s'/\W n aJ H') ?_ m0 ⟨σ,H,I,w0⟩);rintro n s1 ⟨iY,H1,I1,w1⟩;refine wpAny_passesOwn hp (aL (hc pins s1 iY H1 _ I1 (turn n iY H1 w1)) λb s2 ⟨H2,I2,q2⟩=>?_);cases b with
 | true =>
  obtain⟨N,hN,q2⟩:=q2;rw[if_pos rfl];refine wpAny_passesOwn hp (aL (hb pins s2 iY H2 _ I2 q2) λf s3 q3=>?_);cases f with
  | next =>
   obtain⟨cV,H3,I3,n3⟩:=q3;obtain⟨m',hm,w3⟩:=hN cV H3 n3;exact⟨m',hm,cV,H3,I3,w3⟩
  | cont =>
   obtain⟨cV,H3,I3,n3⟩:=q3;obtain⟨m',hm,w3⟩:=hN cV H3 n3;exact⟨m',hm,cV,H3,I3,w3⟩
  | brk=>exact q3
  | ret v=>exact q3
 | false =>
  rw[if_neg Bool.false_ne_true];exact wpAny_execs_nil ⟨iY,H2,I2,q2⟩
end
structure It where
 go:Nat->Hp->Prop
 gK:Nat->Hp->V->Hp->Prop
 stop:Nat->Hp->Prop
noncomputable def e8(X:Cx)(pins:List (Addr×Obj))(H:Hp)(b:Addr):Prop :=
 H b=none/\b≠X.env.locals/\b∉X.fs/\(b∈X.ex\/X.aZ.heap.objs.size<=b)/\(∀x c,X.env.cells.lookup x=some c->c≠b)/\∀p∈X.pn++pins,p.1≠b
theorem Inv.jG{X:Cx}{pins:List (Addr×Obj)}{σ:St}{H H':Hp}{s:Shared}{b:Addr}(I:Inv X pins σ H s)(hb:s.heap.objs.size<=b)(hn:H' b=none):e8 X pins H' b:=by
 refine⟨hn,Nat.ne_of_gt (Nat.lt_of_lt_of_le I.lt hb),I.I0 hb,.inr (Nat.le_trans I.sz hb),λx c e z=>?_,λp hp z=>?_⟩
 ·obtain⟨v,q⟩:=I.cell x c e;exact absurd (Nat.lt_of_lt_of_le q.lt (by rw[z];exact hb)) (Nat.lt_irrefl _)
 ·exact absurd (Nat.lt_of_lt_of_le (Heap.lt_size (I.pin p hp).1) (by rw[z];exact hb)) (Nat.lt_irrefl _)
structure Turn(P:Program)(w:World)(K:PySem.W.Frag)(tg:Expr)(J:It)(fp:List Addr)(it:Addr)(tn:Nat->Heap->Prop):Prop where
 mem:it∈fp
 obj:∀i h,tn i h->∀b∈fp,∃o,h.get? b=some o/\∀v,o.data≠.cell v
 keep:∀i h h',tn i h->(∀b∈fp,∀o,h.get? b=some o->h'.get? b=some o)->tn i h'
 item:∀(X:Cx),X.prog=P->X.w=w->X.K=K->X.calm=true->∀(i:Nat) (pins:List (Addr×Obj)) (s:Shared) (σ:St) (H:Hp) (E:Value->Shared->Prop),Inv X pins σ H s->(∀b∈fp,e8 X pins H b)->tn i s.heap->J.go i H->
  wpAny (model P w) X.A (pyNext (.ref it)) (λr s1=>∃u,r=some u/\
   wpAny (model P w) X.A (letOwnedTupleGo tg (.ref it) u) (λ_ s2=>∃x H',Inv X pins σ H' s2/\RelV x u/\J.gK i H x H'/\tn (i+1) s2.heap/\∀b∈fp,H' b=none) E s1) E s
 done:∀(X:Cx),X.prog=P->X.w=w->X.K=K->X.calm=true->∀(i:Nat) (pins:List (Addr×Obj)) (s:Shared) (σ:St) (H:Hp) (E:Value->Shared->Prop),Inv X pins σ H s->(∀b∈fp,e8 X pins H b)->tn i s.heap->J.stop i H->
  wpAny (model P w) X.A (pyNext (.ref it)) (λr s1=>r=none/\Inv X pins σ H s1) E s
 self:∀(A:Around) (i:Nat) (s:Shared) (Q:Value->Shared->Prop) (E:Value->Shared->Prop),tn i s.heap->Q (.ref it) s->wpAny (model P w) A (pyIter (.ref it)) Q E s
noncomputable abbrev TI:=St->Hp->(It->Hp->Prop)->Prop
noncomputable def B4(X:Cx)(pins:List (Addr×Obj))(σ:St)(tg:Expr)(R:It->Hp->Prop)(kD:Value)(s2:Shared):Prop :=
 ∃(it:Addr) (fp:List Addr) (tn:Nat->Heap->Prop) (J:It) (H':Hp),kD = .ref it/\Inv X pins σ H' s2/\Turn X.prog X.w X.K tg J fp it tn/\tn 0 s2.heap/\(∀b∈fp,e8 X pins H' b)/\R J H'
noncomputable def PI(X:Cx)(tg iter:Expr)(wi:TI):Prop :=
 ∀(pins:List (Addr×Obj)) (s:Shared) (σ:St) (H:Hp) (R:It->Hp->Prop),Inv X pins σ H s->wi σ H R->
  wpAny (model X.prog X.w) X.A (eval iter X.env) (λv s1=>wpAny (model X.prog X.w) X.A (pyIter v) (B4 X pins σ tg R) X.xe s1) X.xe s
theorem ql{M:Model}{A:Around}{E:Value->Shared->Prop}{s:Shared}{tg:Expr}{it:Addr}{u:Value}{o:Obj}{n:String}{vs:Array Value}{Q:Unit->Shared->Prop}(ho:s.heap.get? it=some o)(hc:o.cls = .type n)(hd:o.data = .fields vs)
  (hn:["enumerate", "zip", "dict_itemiterator", "dict_reverseitemiterator", "odict_iterator", "itertools.zip_longest", "itertools.pairwise"].contains n=false) (hQ:Q () s):wpAny M A (letOwnedTupleGo tg (.ref it) u) Q E s:=by
 unfold letOwnedTupleGo;cases tg <;> first
  | exact wpAny_pure hQ
  | (cases u <;> first
    | exact wpAny_pure hQ
    | (refine wpAny_bind (wpAny_load ho ?_)
       rw[hc,hd]
       show wpAny M A (if (["enumerate", "zip", "dict_itemiterator", "dict_reverseitemiterator", "odict_iterator", "itertools.zip_longest", "itertools.pairwise"].contains n && vs[0]? == some (rawInt _))=true then _ else _) Q E s
       rw[if_neg (by intro h;rw[hn,Bool.false_and] at h;cases h)]
       exact wpAny_pure hQ))
noncomputable def jH(K:PySem.W.Frag)(a:Addr):It :=
 ⟨λi H=>∃xs x,ao K H a xs/\xs[i]? = some x,λi H x H'=>H' = H/\∀xs,ao K H a xs->xs[i]? = some x,λi H=>∃xs,ao K H a xs/\xs.length<=i⟩
noncomputable def m_(K:PySem.W.Frag)(a:Addr):It :=
 ⟨λi H=>∃xs x,aK K H a xs/\xs[i]? = some x,λi H x H'=>H' = H/\∀xs,aK K H a xs->xs[i]? = some x,λi H=>∃xs,aK K H a xs/\xs.length<=i⟩
noncomputable def iZ(lo:Int)(n:Nat):It:=⟨λi _=>i<n,λi H x H'=>H' = H/\x = .int (lo+i),λi _=>n<=i⟩
theorem Ju{P:Program}{w:World}{K:PySem.W.Frag}{tg:Expr}(a it:Addr):Turn P w K tg (jH K a) [it] it (λi h=>h.IsListIter it a i) where
 mem:=by simp
 obj:=λi h st b hb=>by
  have e:b=it:=by simpa using hb
  subst e;obtain⟨o,e,c,d⟩:=st;exact⟨o,e,λv z=>by rw[d] at z;cases z⟩
 keep:=λi h h' st k=>st.at λo e=>k it (by simp) o e
 item:=by
  intro X hP hw hK hc i pins s σ H E I hf st hg;subst hP hw hK;obtain⟨xs,x,hq,hx⟩:=hg;obtain⟨aB,rv,p,hz⟩:=I.list hq;obtain⟨u,hu,ru⟩:=rv.get hx;obtain⟨f0,f1,f2,f3,f4,f5⟩:=hf it (by simp)
  refine wpAny_pyNext_list_item st p.isList (x:=u) (by simpa using hu) λh' dN sb=>?_
  have I1:Inv X pins σ H { s with heap:=h' }:=I.turned (t':=s.toks) (λb o hb e=>(sb.2 b hb).trans e) f0 f1 f3 f4 f5;obtain⟨o,e,c,d⟩:=id dN;exact⟨u,rfl,ql (s:={ s with heap:=h' }) e c d (by decide) ⟨x,H,I1,ru,⟨rfl,λys hy=>by rw[I.Jk hy hq];exact hx⟩,dN,λb hb=>(hf b hb).1⟩⟩
 done:=by
  intro X hP hw hK hc i pins s σ H E I hf st hg;subst hP hw hK;obtain⟨xs,hq,hx⟩:=hg;obtain⟨aB,rv,p,hz⟩:=I.list hq;obtain⟨f0,f1,f2,f3,f4,f5⟩:=hf it (by simp)
  have hl:=rv.length;exact wpAny_pyNext_list_end (I.ok.hd hc) st p.isList (by simp;lia) λh' eb=>⟨rfl,I.turned (t':=s.toks) (λb o hb e=>eb b o hb e) f0 f1 f3 f4 f5⟩
 self:=λ_ _ _ _ _ st h=>wpAny_pyIter_listiter st h
theorem Jv{P:Program}{w:World}{K:PySem.W.Frag}{tg:Expr}(a it:Addr):Turn P w K tg (m_ K a) [it] it (λi h=>h.IsTupleIter it a i) where
 mem:=by simp
 obj:=λi h st b hb=>by
  have e:b=it:=by simpa using hb
  subst e;obtain⟨o,e,c,d⟩:=st;exact⟨o,e,λv z=>by rw[d] at z;cases z⟩
 keep:=λi h h' st k=>st.at λo e=>k it (by simp) o e
 item:=by
  intro X hP hw hK hc i pins s σ H E I hf st hg;subst hP hw hK;obtain⟨xs,x,hq,hx⟩:=hg;obtain⟨aB,rv,p,hz⟩:=I.tuple hq;obtain⟨u,hu,ru⟩:=rv.get hx;obtain⟨f0,f1,f2,f3,f4,f5⟩:=hf it (by simp)
  refine wpAny_pyNext_tuple_item st (show s.heap.IsTuple a aB.toArray from p) (x:=u) (by simpa using hu) λh' dN sb=>?_
  have I1:Inv X pins σ H { s with heap:=h' }:=I.turned (t':=s.toks) (λb o hb e=>(sb.2 b hb).trans e) f0 f1 f3 f4 f5;obtain⟨o,e,c,d⟩:=id dN;exact⟨u,rfl,ql (s:={ s with heap:=h' }) e c d (by decide) ⟨x,H,I1,ru,⟨rfl,λys hy=>by rw[I.Jl hy hq];exact hx⟩,dN,λb hb=>(hf b hb).1⟩⟩
 done:=by
  intro X hP hw hK hc i pins s σ H E I hf st hg;subst hP hw hK;obtain⟨xs,hq,hx⟩:=hg;obtain⟨aB,rv,p,hz⟩:=I.tuple hq;obtain⟨f0,f1,f2,f3,f4,f5⟩:=hf it (by simp)
  have hl:=rv.length;exact wpAny_pyNext_tuple_end (I.ok.hd hc) st (show s.heap.IsTuple a aB.toArray from p) (by simp;lia) λh' eb=>⟨rfl,I.turned (t':=s.toks) (λb o hb e=>eb b o hb e) f0 f1 f3 f4 f5⟩
 self:=λ_ _ _ _ _ st h=>wpAny_pyIter_tupleiter st h
theorem Jw{P:Program}{w:World}{K:PySem.W.Frag}{tg:Expr}(it:Addr)(lo:Int)(n:Nat):Turn P w K tg (iZ lo n) [it] it (λi h=>IsRangeIter h it (lo+(i:Nat)*1) ((n:Int) - (i:Nat)) 1) where
 mem:=by simp
 obj:=λi h st b hb=>by
  have e:b=it:=by simpa using hb
  subst e;exact⟨_,st,λv z=>by
   have z':Data.fields _=Data.cell v:=z;cases z'⟩
 keep:=λi h h' st k=>k it (by simp) _ st
 item:=by
  intro X hP hw hK hc i pins s σ H E I hf st hg;subst hP hw hK;obtain⟨f0,f1,f2,f3,f4,f5⟩:=hf it (by simp)
  have W:=Walks.range (prog:=X.prog) (w:=X.w) (I.ok.hd hc) it lo 1 n;refine W.item i s _ _ hg st λv h' tk hv dN kk=>?_;obtain⟨t,rfl⟩:=hv;have I1:Inv X pins σ H { s with heap:=h',toks:=tk }:=I.turned (λb o hb e=>kk b o (by simpa using hb) e) f0 f1 f3 f4 f5
  refine⟨_,rfl,ql (s:={ s with heap:=h',toks:=tk }) (n := "range_iterator") dN rfl rfl (by decide) ⟨.int (lo+i),H,I1,⟨t,?_⟩,⟨rfl,rfl⟩,dN,λb hb=>(hf b hb).1⟩⟩
  rw[Int.mul_one]
 done:=by
  intro X hP hw hK hc i pins s σ H E I hf st hg;subst hP hw hK;obtain⟨f0,f1,f2,f3,f4,f5⟩:=hf it (by simp)
  exact wpAny_pyNext_range_end (I.ok.hd hc) st (by have:n<=i:=hg;lia) λh' eb=>⟨rfl,I.turned (t':=s.toks) (λb o hb e=>eb b o hb e) f0 f1 f3 f4 f5⟩
 self:=λ_ _ _ _ _ st h=>wpAny_pyIter_rangeiter st h
section
variable{X:Cx}{tg:Expr}
noncomputable def lK(K:PySem.W.Frag)(tl:TE):TI:=λσ H R=>tl σ H λx H1=>∃a,x = .ref a/\(∃xs,ao K H1 a xs)/\R (jH K a) H1
noncomputable def wz(K:PySem.W.Frag)(tl:TE):TI:=λσ H R=>tl σ H λx H1=>∃a,x = .ref a/\(∃xs,aK K H1 a xs)/\R (m_ K a) H1
theorem qm{l:Expr}{tl:TE}(hl:PE X l tl):PI X tg l (lK X.K tl):=by
 intro pins s σ H R I h;refine aL (hl pins s σ H _ I h) λv s1 ⟨x,H1,I1,r1,q1⟩=>?_;obtain⟨a,e,⟨xs,hq⟩,q⟩:=q1;subst e;cases r1;obtain⟨aB,rv,p,hz⟩:=I1.list hq;refine wpAny_pyIter_list p.isList ?_;refine⟨s1.heap.objs.size,[s1.heap.objs.size],_,_,H1,rfl,I1.kept (t':=s1.toks) λb o e=>Heap.get?_push_of_some _ e,Ju a _,⟨_,Heap.get?_push_size _ rfl,rfl,rfl⟩,λb hb=>?_,q⟩;have e:b=s1.heap.objs.size:=by simpa using hb
 subst e;exact I1.jG (Nat.le_refl _) (I1.aG.fresh (Nat.le_refl _))
theorem lM{l:Expr}{tl:TE}(hl:PE X l tl):PI X tg l (wz X.K tl):=by
 intro pins s σ H R I h;refine aL (hl pins s σ H _ I h) λv s1 ⟨x,H1,I1,r1,q1⟩=>?_;obtain⟨a,e,⟨xs,hq⟩,q⟩:=q1;subst e;cases r1;obtain⟨aB,rv,p,hz⟩:=I1.tuple hq;refine wpAny_pyIter_tuple (show s1.heap.IsTuple a aB.toArray from p) ?_;refine⟨s1.heap.objs.size,[s1.heap.objs.size],_,_,H1,rfl,I1.kept (t':=s1.toks) λb o e=>Heap.get?_push_of_some _ e,Jv a _,⟨_,Heap.get?_push_size _ rfl,rfl,rfl⟩,λb hb=>?_,q⟩;have e:b=s1.heap.objs.size:=by simpa using hb
 subst e;exact I1.jG (Nat.le_refl _) (I1.aG.fresh (Nat.le_refl _))
theorem Jx{pins:List (Addr×Obj)}{σ:St}{H:Hp}{s:Shared}{R:It->Hp->Prop}{E:Value->Shared->Prop}{lo hi:Int}{t u v:Tok}{tk:Nat}(I:Inv X pins σ H s)(h1 : -(2 ^ 62)<=lo)(h2:lo<2 ^ 62)(h3 : -(2 ^ 62)<=hi)(h4:hi<2 ^ 62)
  (q:R (iZ lo (hi - lo).toNat) H):wpAny (model X.prog X.w) X.A (pyIter (.ref s.heap.objs.size)) (B4 X pins σ tg R) E { s with heap:=s.heap.push { cls:=.type "range",data:=.fields #[.int lo t,.int hi u,.int 1 v] },toks:=tk }:=by
 refine wpAny_pyIter_range (IsRange.new ..) (small_one h1 h2 h3 h4) ?_;have I1:Inv X pins σ H { s with heap:=s.heap.push { cls:=.type "range",data:=.fields #[.int lo t,.int hi u,.int 1 v] },toks:=tk }:=I.kept λb o e=>Heap.get?_push_of_some _ e;refine⟨(s.heap.push { cls:=.type "range",data:=.fields #[.int lo t,.int hi u,.int 1 v] }).objs.size,[(s.heap.push { cls:=.type "range",data:=.fields #[.int lo t,.int hi u,.int 1 v] }).objs.size],_,_,H,rfl,
  I1.kept (t':=tk) λb o e=>Heap.get?_push_of_some _ e,Jw _ lo (hi - lo).toNat,?_,λb hb=>?_,q⟩
 ·have e1:lo+((0:Nat):Int)*1=lo:=by simp
  have e2:(((hi - lo).toNat:Nat):Int) - ((0:Nat):Int)=Builtin.Range.rangeSize lo hi 1:=by rw[rangeSize_one];split <;> lia
  show IsRangeIter _ _ (lo+((0:Nat):Int)*1) ((((hi - lo).toNat:Nat):Int) - ((0:Nat):Int)) 1;rw[e1,e2];exact Heap.get?_push_size _ rfl
 ·have e:b=(s.heap.push { cls:=.type "range",data:=.fields #[.int lo t,.int hi u,.int 1 v] }).objs.size:=by simpa using hb
  subst e;exact I1.jG (Nat.le_refl _) (I1.aG.fresh (Nat.le_refl _))
noncomputable def wA(ta:TA):TI:=λσ H R=>ta σ H λvs H1=>∃j:Int,vs = [.int j]/\-(2 ^ 62)<=j/\j<2 ^ 62/\R (iZ 0 j.toNat) H1
theorem wB{a:Expr}{ta:TA}{p pos:Pos}(hg:Gl X "range")(hm:X.mg "range" = none)(ha:PA X [a] ta)(hs:starEach [a] X.env = [(false,eval a X.env)]:=by rfl):PI X tg (.Call (.Name "range" p) [a] [] pos) (wA ta):=by
 intro pins s σ H R I h;refine Call_ (iU I hg hm boot_range (PyProof.Rows.callWith_type1 (aL (ha pos pins s σ H _ I h) λus s1 ⟨vs,H1,I1,r1,q1⟩=>?_) hs rfl));obtain⟨j,e,q1,q2,q⟩:=q1;subst e;cases r1 with
 | cons r rr =>
  cases rr;obtain⟨t,rfl⟩:=r;exact call_range_1 (Jx I1 (by lia) (by lia) q1 q2 (by simpa using q))
noncomputable def jI(wi:TI)(g:TG)(tb:TS):TS:=λD σ H=>wi σ H λJ H1=>∃W:Nat->Nat->St->Hp->Prop,(∃m,W 0 m σ H1)/\∀i m σ H,W i m σ H->
 (J.stop i H/\D.nx σ H)\/(J.go i H/\∃N:St->Hp->Prop,(∀aJ H',N aJ H'->∃m',m' < m/\W (i+1) m' aJ H')/\∀x H',J.gK i H x H'->g x σ H' λau H2=>tb { D with nx:=N,ct:=N,bk:=D.nx } au H2)
noncomputable def lN(fp:List Addr)(h:Heap):List (Addr×Obj):=fp.filterMap λb=>(h.get? b).map λo=>(b,o)
theorem lO{fp:List Addr}{h:Heap}{b:Addr}{o:Obj}(hb:b∈fp)(e:h.get? b=some o):(b,o)∈lN fp h:=List.mem_filterMap.mpr ⟨b,hb,by rw[e];rfl⟩
theorem Jy{fp:List Addr}{h:Heap}{p:Addr×Obj}(hp:p∈lN fp h):p.1∈fp/\h.get? p.1=some p.2:=by
 obtain⟨b,hb,e⟩:=List.mem_filterMap.mp hp;cases q:h.get? b with
 | none=>rw[q] at e;cases e
 | some o =>
  rw[q] at e;have e':(b,o)=p:=Option.some.inj e;subst e';exact⟨hb,q⟩
theorem Inv.pinned{pins:List (Addr×Obj)}{σ:St}{H:Hp}{s:Shared}{fp:List Addr}(I:Inv X pins σ H s)(hf:∀b∈fp,e8 X pins H b)(ho:∀b∈fp,∃o,s.heap.get? b=some o/\∀v,o.data≠.cell v):Inv X (pins++lN fp s.heap) σ H s :=
 I.BP λp hp=>(List.mem_append.mp hp).elim (λz=>I.pin p (List.mem_append_right _ z)) λz=>by
  obtain⟨hb,e⟩:=Jy z;obtain⟨f0,f1,f2,_⟩:=hf p.1 hb;obtain⟨o,e',d⟩:=ho p.1 hb;rw[e] at e';cases e';exact⟨e,f0,f1,f2,d⟩
theorem Inv.kE{pins pl:List (Addr×Obj)}{σ:St}{H:Hp}{s:Shared}(I:Inv X (pins++pl) σ H s):Inv X pins σ H s:=I.BP λp hp=>I.pin p (List.mem_append_right _ (List.mem_append_left _ hp))
theorem lP{iter:Expr}{body:List Stmt}{wi:TI}{g:TG}{tb:TS}{pos:Pos}(hp:PassesOwn (model X.prog X.w) X.A X.env X.xe)(hc:X.calm=true)(hi:PI X tg iter wi)(hg:PG X tg g)(hb:dY X body tb)
  (hs:∀x,foldedSetIterable iter X.env x=pure x:=by intro _;rfl):PS X (.For tg iter body [] pos) (jI wi g tb):=by
 intro pins s σ H D I h;refine wpAny_For (aL (hi pins s σ H _ I h) λv s1 h1=>aL h1 λkD s2 h2=>?_) hs;obtain⟨it,fp,tn,J,H2,e,I2,T,cN,f2,W,⟨m0,w0⟩,turn⟩:=h2;subst e
 -- what stays true of the iterator's objects through the loop
 have gM:∀ {H':Hp},(∀b∈fp,H' b=none)->∀b∈fp,e8 X pins H' b:=λhn b hb=>⟨hn b hb,(f2 b hb).2⟩;refine codeAny_forLoop_any (λn s'=>∃i aJ H',Inv X pins aJ H' s'/\tn i s'.heap/\(∀b∈fp,H' b=none)/\W i n aJ H') ?_ m0 ⟨0,σ,H2,I2,cN,λb hb=>(f2 b hb).1,w0⟩;rintro n s3 ⟨i,cV,H3,I3,jJ,jK,w3⟩;rcases turn i n cV H3 w3 with⟨stop,qn⟩ | ⟨go,N,hN,step⟩
 ·refine wpAny_passesOwn hp (aL (T.done X rfl rfl rfl hc i pins s3 cV H3 X.xe I3 (gM jK) jJ stop) λr s4 ⟨hr,I4⟩=>?_);subst hr;exact wpAny_execs_nil ⟨cV,H3,I4,qn⟩
 ·refine wpAny_passesOwn hp (aL (T.item X rfl rfl rfl hc i pins s3 cV H3 X.xe I3 (gM jK) jJ go) λr s4 ⟨u,hr,h4⟩=>?_);subst hr;refine wpAny_passesOwn hp (aL h4 λ_ s5 ⟨x,H5,I5,r5,y5,gO,ng⟩=>?_);have ni:=I5.pinned (gM ng) (T.obj _ _ gO);refine wpAny_passesOwn hp (aL (hg _ s5 cV H5 x u _ ni r5 (step x H5 y5)) λ_ s6 ⟨e9,H6,I6,q6⟩=>?_);refine wpAny_passesOwn hp (aL (hb _ s6 e9 H6 _ I6 q6) λf s7 q7=>?_);have again:∀ {dZ:St} {H7:Hp},Inv X (pins++lN fp s5.heap) dZ H7 s7->N dZ H7->∃m,m<n/\∃i aJ H',Inv X pins aJ H' s7/\tn i s7.heap/\(∀b∈fp,H' b=none)/\W i m aJ H':=λ{dZ H7} I7 n7=>by
   obtain⟨m',hm,w7⟩:=hN dZ H7 n7;refine⟨m',hm,i+1,dZ,H7,I7.kE,T.keep _ _ _ gO λb hb o e=>(I7.pin (b,o) (List.mem_append_right _ (List.mem_append_right _ (lO hb e)))).1,λb hb=>?_,w7⟩;obtain⟨o,e,d⟩:=T.obj _ _ gO b hb;exact(I7.pin (b,o) (List.mem_append_right _ (List.mem_append_right _ (lO hb e)))).2.1
  cases f with
  | next=>obtain⟨dZ,H7,I7,n7⟩:=q7;exact again I7 n7
  | cont=>obtain⟨dZ,H7,I7,n7⟩:=q7;exact again I7 n7
  | brk=>obtain⟨dZ,H7,I7,q7⟩:=q7;exact⟨dZ,H7,I7.kE,q7⟩
  | ret v=>obtain⟨x7,dZ,H7,I7,r7,q7⟩:=q7;exact⟨x7,dZ,H7,I7.kE,r7,q7⟩
end
theorem B5{K:PySem.W.Frag}{a:Addr}{xs:List V}{g:TG}{tb:TS}{D:Ends}{σ:St}{H:Hp}(Pv:Nat->St->Hp->Prop)(h0:Pv 0 σ H)(hl:∀i σ H,i<=xs.length->Pv i σ H->ao K H a xs)
  (hs:∀i x σ H,xs[i]? = some x->Pv i σ H->g x σ H λau H2=>tb { D with nx:=Pv (i+1),ct:=Pv (i+1),bk:=D.nx } au H2) (hd:∀σ H,Pv xs.length σ H->D.nx σ H) :
  ∃W:Nat->Nat->St->Hp->Prop,(∃m,W 0 m σ H)/\∀i m σ H,W i m σ H->
   ((jH K a).stop i H/\D.nx σ H)\/((jH K a).go i H/\∃N:St->Hp->Prop,(∀aJ H',N aJ H'->∃m',m' < m/\W (i+1) m' aJ H')/\∀x H',(jH K a).gK i H x H'->g x σ H' λau H2=>tb { D with nx:=N,ct:=N,bk:=D.nx } au H2):=by
 refine⟨λi m σ H=>m=xs.length - i/\i<=xs.length/\Pv i σ H,⟨xs.length,by simp,Nat.zero_le _,h0⟩,?_⟩
 rintro i m σ H ⟨rfl,hi,p⟩;have q:=hl i σ H hi p;by_cases bC:i<xs.length
 ·refine .inr ⟨⟨xs,xs[i],q,by simp[bC]⟩,Pv (i+1),λaJ H' p'=>⟨xs.length - (i+1),by lia,rfl,bC,p'⟩,λx H' y=>?_⟩
  obtain⟨e,y⟩:=y;subst e;exact hs i x σ _ (y xs q) p
 ·have e:i=xs.length:=by lia
  subst e;exact .inl ⟨⟨xs,q,Nat.le_refl _⟩,hd σ H p⟩
theorem Jz{K:PySem.W.Frag}{a:Addr}{xs:List V}{g:TG}{tb:TS}{D:Ends}{σ:St}{H:Hp}(Pv:Nat->St->Hp->Prop)(h0:Pv 0 σ H)(hl:∀i σ H,i<=xs.length->Pv i σ H->aK K H a xs)
  (hs:∀i x σ H,xs[i]? = some x->Pv i σ H->g x σ H λau H2=>tb { D with nx:=Pv (i+1),ct:=Pv (i+1),bk:=D.nx } au H2) (hd:∀σ H,Pv xs.length σ H->D.nx σ H) :
  ∃W:Nat->Nat->St->Hp->Prop,(∃m,W 0 m σ H)/\∀i m σ H,W i m σ H->
   ((m_ K a).stop i H/\D.nx σ H)\/((m_ K a).go i H/\∃N:St->Hp->Prop,(∀aJ H',N aJ H'->∃m',m' < m/\W (i+1) m' aJ H')/\∀x H',(m_ K a).gK i H x H'->g x σ H' λau H2=>tb { D with nx:=N,ct:=N,bk:=D.nx } au H2):=by
 refine⟨λi m σ H=>m=xs.length - i/\i<=xs.length/\Pv i σ H,⟨xs.length,by simp,Nat.zero_le _,h0⟩,?_⟩
 rintro i m σ H ⟨rfl,hi,p⟩;have q:=hl i σ H hi p;by_cases bC:i<xs.length
 ·refine .inr ⟨⟨xs,xs[i],q,by simp[bC]⟩,Pv (i+1),λaJ H' p'=>⟨xs.length - (i+1),by lia,rfl,bC,p'⟩,λx H' y=>?_⟩
  obtain⟨e,y⟩:=y;subst e;exact hs i x σ _ (y xs q) p
 ·have e:i=xs.length:=by lia
  subst e;exact .inl ⟨⟨xs,q,Nat.le_refl _⟩,hd σ H p⟩
theorem JA{lo:Int}{n:Nat}{g:TG}{tb:TS}{D:Ends}{σ:St}{H:Hp}(Pv:Nat->St->Hp->Prop)(h0:Pv 0 σ H)
  (hs:∀i σ H,i<n->Pv i σ H->g (.int (lo+i)) σ H λau H2=>tb { D with nx:=Pv (i+1),ct:=Pv (i+1),bk:=D.nx } au H2) (hd:∀σ H,Pv n σ H->D.nx σ H) :
  ∃W:Nat->Nat->St->Hp->Prop,(∃m,W 0 m σ H)/\∀i m σ H,W i m σ H->
   ((iZ lo n).stop i H/\D.nx σ H)\/((iZ lo n).go i H/\∃N:St->Hp->Prop,(∀aJ H',N aJ H'->∃m',m' < m/\W (i+1) m' aJ H')/\∀x H',(iZ lo n).gK i H x H'->g x σ H' λau H2=>tb { D with nx:=N,ct:=N,bk:=D.nx } au H2):=by
 refine⟨λi m σ H=>m=n - i/\i<=n/\Pv i σ H,⟨n,by simp,Nat.zero_le _,h0⟩,?_⟩
 rintro i m σ H ⟨rfl,hi,p⟩;by_cases bC:i<n
 ·refine .inr ⟨bC,Pv (i+1),λaJ H' p'=>⟨n - (i+1),by lia,rfl,bC,p'⟩,λx H' y=>?_⟩
  obtain⟨e,y⟩:=y;subst e y;exact hs i σ _ bC p
 ·have e:i=n:=by lia
  subst e;exact .inl ⟨Nat.le_refl _,hd σ H p⟩
noncomputable abbrev R2:=V->V->Hp->VK->Prop
noncomputable def bU(X:Cx)(f:Value->Value->Sem Value)(r:R2):Prop :=
 ∀(pins:List (Addr×Obj)) (s:Shared) (σ:St) (H:Hp) (x y:V) (v u:Value) (Q:VK),Inv X pins σ H s->RelV x v->RelV y u->r x y H Q->
  wpAny (model X.prog X.w) X.A (f v u) (EP X pins σ Q) X.xe s
noncomputable def wC(X:Cx)(f:Value->Sem Value)(r:V->Hp->VK->Prop):Prop :=
 ∀(pins:List (Addr×Obj)) (s:Shared) (σ:St) (H:Hp) (x:V) (v:Value) (Q:VK),Inv X pins σ H s->RelV x v->r x H Q->
  wpAny (model X.prog X.w) X.A (f v) (EP X pins σ Q) X.xe s
noncomputable def gP(X:Cx)(f:Value)(r:List V->Hp->VK->Prop):Prop :=
 ∀(pins:List (Addr×Obj)) (s:Shared) (σ:St) (H:Hp) (xs:List V) (us:List Value) (Q:VK),Inv X pins σ H s->Vals xs us->r xs H Q->
  wpAny (model X.prog X.w) X.A (call f us) (EP X pins σ Q) X.xe s
noncomputable def qo(r:R2)(ta tb:TE):TE:=λσ H Q=>ta σ H λx H1=>tb σ H1 λy H2=>r x y H2 Q
noncomputable def JB(r:V->Hp->VK->Prop)(ta:TE):TE:=λσ H Q=>ta σ H λx H1=>r x H1 Q
noncomputable def rI(C:Int->Int->Prop)(g:Int->Int->V):R2:=λx y H Q=>∃i j,x = .int i/\y = .int j/\C i j/\Q (g i j) H
noncomputable def kF(g:Int->Int->V):R2:=λx y H Q=>∃i j,x = .int i/\y = .int j/\Q (g i j) H
noncomputable def rU(g:Int->V):V->Hp->VK->Prop:=λx H Q=>∃i,x = .int i/\Q (g i) H
section
variable{X:Cx}{a b c:Expr}{ta tb tc:TE}{pos:Pos}
theorem wD(ha:PE X a ta)(hb:PE X b tb){pins:List (Addr×Obj)}{s:Shared}{σ:St}{H:Hp}{R:V->V->Hp->Prop}(I:Inv X pins σ H s)
  (h:ta σ H λx H1=>tb σ H1 λy H2=>R x y H2) {Q:Value->Shared->Prop} {f:Value->Value->Sem Value}
  (hf:∀v u s2 x y H2,Inv X pins σ H2 s2->RelV x v->RelV y u->R x y H2->wpAny (model X.prog X.w) X.A (f v u) Q X.xe s2) :
  wpAny (model X.prog X.w) X.A (eval a X.env) (λv a_=>wpAny (model X.prog X.w) X.A (eval b X.env) (λu fG=>wpAny (model X.prog X.w) X.A (f v u) Q X.xe fG) X.xe a_) X.xe s:=by
 refine aL (ha pins s σ H _ I h) λv s1 ⟨x,H1,I1,r1,q1⟩=>?_;refine aL (hb pins s1 σ H1 _ I1 q1) λu s2 ⟨y,H2,I2,r2,q2⟩=>?_;exact hf v u s2 x y H2 I2 r1 r2 q2
theorem aA{op:Operator}{r:R2}(ho:bU X (binaryOp op) r)(ha:PE X a ta)(hb:PE X b tb):PE X (.BinOp a op b pos) (qo r ta tb):=by
 intro pins s σ H Q I h;exact wpAny_BinOp (wD ha hb I h λv u s2 x y H2 I2 rx ry q=>ho pins s2 σ H2 x y v u Q I2 rx ry q)
theorem qp{op:UnaryOp}{r:V->Hp->VK->Prop}(ho:wC X (unaryOp op) r)(ha:PE X a ta):PE X (.UnaryOp op a pos) (JB r ta):=by
 intro pins s σ H Q I h;exact UnaryOp_ (aL (ha pins s σ H _ I h) λv s1 ⟨x,H1,I1,r1,q1⟩=>ho pins s1 σ H1 x v Q I1 r1 q1)
theorem qt{f:Value->Value->Sem Value}{C:Int->Int->Prop}{g:Int->Int->Int}
  (rule:∀(i j:Int) (t u:Tok) (s:Shared) (Q:Value->Shared->Prop) (E:Value->Shared->Prop),C i j->Q (.int (g i j) s.toks) { s with toks:=s.toks+1 }->wpAny (model X.prog X.w) X.A (f (.int i t) (.int j u)) Q E s) :
  bU X f (rI C λi j=>.int (g i j)):=by
 intro pins s σ H x y v u Q I rx ry h;obtain⟨i,j,rfl,rfl,hc,q⟩:=h;obtain⟨t,rfl⟩:=rx;obtain⟨t',rfl⟩:=ry;exact rule i j t t' s _ _ hc ⟨.int (g i j),H,I.tok _,⟨_,rfl⟩,q⟩
theorem B6{f:Value->Value->Sem Value}{g:Int->Int->Int}
  (rule:∀(i j:Int) (t u:Tok) (s:Shared) (Q:Value->Shared->Prop) (E:Value->Shared->Prop),Q (.int (g i j) s.toks) { s with toks:=s.toks+1 }->wpAny (model X.prog X.w) X.A (f (.int i t) (.int j u)) Q E s) :
  bU X f (kF λi j=>.int (g i j)):=by
 intro pins s σ H x y v u Q I rx ry h;obtain⟨i,j,rfl,rfl,q⟩:=h;obtain⟨t,rfl⟩:=rx;obtain⟨t',rfl⟩:=ry;exact rule i j t t' s _ _ ⟨.int (g i j),H,I.tok _,⟨_,rfl⟩,q⟩
theorem wF{f:Value->Value->Sem Value}{g:Int->Int->Bool}
  (rule:∀(i j:Int) (t u:Tok) (s:Shared) (Q:Value->Shared->Prop) (E:Value->Shared->Prop),Q (.bool (g i j)) s->wpAny (model X.prog X.w) X.A (f (.int i t) (.int j u)) Q E s) :
  bU X f (kF λi j=>.bl (g i j)):=by
 intro pins s σ H x y v u Q I rx ry h;obtain⟨i,j,rfl,rfl,q⟩:=h;obtain⟨t,rfl⟩:=rx;obtain⟨t',rfl⟩:=ry;exact rule i j t t' s _ _ ⟨.bl (g i j),H,I,rfl,q⟩
noncomputable def JC(i j:Int):Prop:=0<j/\j<1073741824
noncomputable def JD(i j:Int):Prop:=0<=j/\j<=1000000/\i.natAbs<2 ^ 64
noncomputable def wG(i j:Int):Prop:=(-(2 ^ 64)<i/\i<2 ^ 64)\/(-(2 ^ 64)<j/\j<2 ^ 64)
theorem wG.ok{i j:Int}(h:wG i j):IntMulOk i j:=by
 rcases h with⟨h1,h2⟩ | ⟨h1,h2⟩
 ·exact .of_left (intBits_le_64 h1 h2)
 ·exact .of_right (intBits_le_64 h1 h2)
theorem bQ:bU X (binaryOp .Add) (kF λi j=>.int (i+j)):=B6 λ_ _ _ _ _ _ _ q=>add_int q
theorem B7:bU X (binaryOp .Sub) (kF λi j=>.int (i - j)):=B6 λ_ _ _ _ _ _ _ q=>sub_int q
theorem nj:bU X (binaryOp .Mult) (rI wG λi j=>.int (i*j)):=qt λ_ _ _ _ _ _ _ hc q=>mul_int q hc.ok
theorem wH:bU X (binaryOp .FloorDiv) (rI JC λi j=>.int (i / j)):=qt λi j _ _ _ _ _ hc q=>by
 have h1:(0:Int)<j:=hc.1;have h2:j<1073741824:=hc.2;exact floordiv_int (by lia) (by rw[Int.fdiv_eq_ediv_of_nonneg i (by lia)];exact q) (.inl (PyProof.noPylong_small (by lia)))
theorem bI:bU X (binaryOp .Mod) (rI (λ_ j=>0<j) λi j=>.int (i % j)):=qt λi j _ _ _ _ _ hc q=>by
 have h1:(0:Int)<j:=hc;exact mod_int' (by lia) (by rw[Int.fmod_eq_emod_of_nonneg i (by lia)];exact q)
theorem gQ:bU X (binaryOp .Pow) (rI JD λi j=>.int (i ^ j.toNat)):=qt λ_ _ _ _ _ _ _ hc q=>pow_int_small hc.1 hc.2.1 hc.2.2 q
theorem JE{f:Value->Sem Value}{g:Int->Int}
  (rule:∀(i:Int) (t:Tok) (s:Shared) (Q:Value->Shared->Prop) (E:Value->Shared->Prop),Q (.int (g i) s.toks) { s with toks:=s.toks+1 }->wpAny (model X.prog X.w) X.A (f (.int i t)) Q E s) :
  wC X f (rU λi=>.int (g i)):=by
 intro pins s σ H x v Q I rx h;obtain⟨i,rfl,q⟩:=h;obtain⟨t,rfl⟩:=rx;exact rule i t s _ _ ⟨.int (g i),H,I.tok _,⟨_,rfl⟩,q⟩
theorem qu:wC X (unaryOp .USub) (rU λi=>.int (-i)):=JE λ_ _ _ _ _ q=>neg_int q
end
noncomputable def gR:V->V->Bool
 | .aF,.aF=>true | .aF,.int _=>true | .int _,.aF=>true | .aF,.bl _=>true | .bl _,.aF=>true | .aF,.str _=>true | .str _,.aF=>true
 | .int _,.int _=>true | .bl _,.bl _=>true | .str _,.str _=>true | .eY _,.eY _=>true
 | .int _,.str _=>true | .str _,.int _=>true | .bl _,.str _=>true | .str _,.bl _=>true
 | _,_=>false
noncomputable def JF:R2:=λx y H Q=>gR x y=true/\Q (.bl (decide (x=y))) H
noncomputable def JG:R2:=λx y H Q=>gR x y=true/\Q (.bl (!decide (x=y))) H
theorem B8{i j:Int}:decide (V.int i=V.int j)=(i == j):=by
 rw[Bool.eq_iff_iff];simp
theorem B9{i j:Bool}:decide (V.bl i=V.bl j)=(i == j):=by
 rw[Bool.eq_iff_iff];simp
theorem B_{i j:Str}:decide (V.str i=V.str j)=(i == j):=by
 rw[Bool.eq_iff_iff];simp
theorem Ca{i j:Array UInt8}:decide (V.eY i=V.eY j)=(i.toList == j.toList):=by
 rw[Bool.eq_iff_iff];cases i;cases j;simp
section
variable{X:Cx}{a b c:Expr}{ta tb tc:TE}{pos:Pos}
theorem bS{pins:List (Addr×Obj)}{σ:St}{H:Hp}{s:Shared}{Q:VK}{k k':Bool}(I:Inv X pins σ H s)(q:Q (.bl k) H)(e:k=k'):EP X pins σ Q (.bool k') s:=by
 subst e;exact⟨.bl k,H,I,rfl,q⟩
theorem cD:bU X (compareOp .Eq) JF:=by
 intro pins s σ H x y v u Q I rx ry h;obtain⟨hs,q⟩:=h;cases x with
 | aF =>
  cases rx;cases y with
  | aF=>cases ry;exact PySem.EqNone.eq_none_none (bS I q (by simp))
  | bl j=>cases ry;exact PySem.EqNone.eq_none_bool (bS I q (by simp))
  | int j=>obtain⟨t',rfl⟩:=ry;exact PySem.EqNone.eq_none_int (bS I q (by simp))
  | str j=>obtain⟨t',rfl⟩:=ry;exact PySem.EqNone.eq_none_str (bS I q (by simp))
  | _=>exact absurd (show false=true from hs) Bool.false_ne_true
 | bl i =>
  cases rx;cases y with
  | aF=>cases ry;exact PySem.EqNone.eq_bool_none (bS I q (by simp))
  | bl j=>cases ry;exact eq_bool (bS I q B9)
  | str j=>obtain⟨t',rfl⟩:=ry;exact PySem.EqMixed.eq_bool_str (bS I q (by simp))
  | _=>exact absurd (show false=true from hs) Bool.false_ne_true
 | int i =>
  obtain⟨t,rfl⟩:=rx;cases y with
  | aF=>cases ry;exact PySem.EqNone.eq_int_none (bS I q (by simp))
  | int j=>obtain⟨t',rfl⟩:=ry;exact eq_int (bS I q B8)
  | str j=>obtain⟨t',rfl⟩:=ry;exact PySem.EqMixed.eq_int_str (bS I q (by simp))
  | _=>exact absurd (show false=true from hs) Bool.false_ne_true
 | str i =>
  obtain⟨t,rfl⟩:=rx;cases y with
  | aF=>cases ry;exact PySem.EqNone.eq_str_none (bS I q (by simp))
  | bl j=>cases ry;exact PySem.EqMixed.eq_str_bool (bS I q (by simp))
  | int j=>obtain⟨t',rfl⟩:=ry;exact PySem.EqMixed.eq_str_int (bS I q (by simp))
  | str j=>obtain⟨t',rfl⟩:=ry;exact eq_str (bS I q B_)
  | _=>exact absurd (show false=true from hs) Bool.false_ne_true
 | eY i =>
  obtain⟨t,rfl⟩:=rx;cases y with
  | eY j=>obtain⟨t',rfl⟩:=ry;exact PySem.W.eq_bytes (bS I q Ca)
  | _=>exact absurd (show false=true from hs) Bool.false_ne_true
 | _=>cases y <;> exact absurd (show false=true from hs) Bool.false_ne_true
theorem gb:bU X (compareOp .NotEq) JG:=by
 intro pins s σ H x y v u Q I rx ry h;obtain⟨hs,q⟩:=h;cases x with
 | aF =>
  cases rx;cases y with
  | aF=>cases ry;exact PySem.EqNone.ne_none_none (bS I q (by simp))
  | bl j=>cases ry;exact PySem.EqNone.ne_none_bool (bS I q (by simp))
  | int j=>obtain⟨t',rfl⟩:=ry;exact PySem.EqNone.ne_none_int (bS I q (by simp))
  | str j=>obtain⟨t',rfl⟩:=ry;exact PySem.EqNone.ne_none_str (bS I q (by simp))
  | _=>exact absurd (show false=true from hs) Bool.false_ne_true
 | bl i =>
  cases rx;cases y with
  | aF=>cases ry;exact PySem.EqNone.ne_bool_none (bS I q (by simp))
  | bl j=>cases ry;exact ne_bool (bS I q (congrArg not B9))
  | str j=>obtain⟨t',rfl⟩:=ry;exact PySem.EqMixed.ne_bool_str (bS I q (by simp))
  | _=>exact absurd (show false=true from hs) Bool.false_ne_true
 | int i =>
  obtain⟨t,rfl⟩:=rx;cases y with
  | aF=>cases ry;exact PySem.EqNone.ne_int_none (bS I q (by simp))
  | int j=>obtain⟨t',rfl⟩:=ry;exact ne_int (bS I q (congrArg not B8))
  | str j=>obtain⟨t',rfl⟩:=ry;exact PySem.EqMixed.ne_int_str (bS I q (by simp))
  | _=>exact absurd (show false=true from hs) Bool.false_ne_true
 | str i =>
  obtain⟨t,rfl⟩:=rx;cases y with
  | aF=>cases ry;exact PySem.EqNone.ne_str_none (bS I q (by simp))
  | bl j=>cases ry;exact PySem.EqMixed.ne_str_bool (bS I q (by simp))
  | int j=>obtain⟨t',rfl⟩:=ry;exact PySem.EqMixed.ne_str_int (bS I q (by simp))
  | str j=>obtain⟨t',rfl⟩:=ry;exact ne_str (bS I q (congrArg not B_))
  | _=>exact absurd (show false=true from hs) Bool.false_ne_true
 | eY i =>
  obtain⟨t,rfl⟩:=rx;cases y with
  | eY j=>obtain⟨t',rfl⟩:=ry;exact PySem.W.ne_bytes (bS I q (congrArg not Ca))
  | _=>exact absurd (show false=true from hs) Bool.false_ne_true
 | _=>cases y <;> exact absurd (show false=true from hs) Bool.false_ne_true
theorem kG:bU X (compareOp .Lt) (kF λi j=>.bl (decide (i<j))):=wF λ_ _ _ _ _ _ _ q=>lt_int q
theorem gc:bU X (compareOp .Gt) (kF λi j=>.bl (decide (j<i))):=wF λ_ _ _ _ _ _ _ q=>gt_int q
theorem JH:bU X (compareOp .GtE) (kF λi j=>.bl (decide (j<=i))):=wF λ_ _ _ _ _ _ _ q=>ge_int q
theorem JI:bU X (compareOp .In) (λx y H Q=>∃i j,x = .str i/\y = .str j/\Q (.bl (!(Builtin.Str.occurrences j i 0 j.length 1).isEmpty)) H):=by
 intro pins s σ H x y v u Q I rx ry h;obtain⟨i,j,rfl,rfl,q⟩:=h;obtain⟨t,rfl⟩:=rx;obtain⟨t',rfl⟩:=ry;exact in_str (bS I q rfl)
theorem lQ:bU X (compareOp .Is) (λx y H Q=>y = .aF/\Q (.bl (decide (x = .aF))) H):=by
 intro pins s σ H x y v u Q I rx ry h;obtain⟨rfl,q⟩:=h;cases ry;refine is_none_gen (bS I q ?_);cases x <;> first
  | (cases rx;rfl)
  | (obtain⟨t,rfl⟩:=rx;rfl)
theorem kH:bU X (compareOp .IsNot) (λx y H Q=>y = .aF/\Q (.bl (!decide (x = .aF))) H):=by
 intro pins s σ H x y v u Q I rx ry h;obtain⟨rfl,q⟩:=h;cases ry;refine isnot_none_gen (bS I q ?_);cases x <;> first
  | (cases rx;rfl)
  | (obtain⟨t,rfl⟩:=rx;rfl)
theorem aH(b:Expr){op:CmpOp}(h:op≠.In:=by decide)(h2:op≠.NotIn:=by decide):behindInMarks op b=false:=by
 have e1:(op == CmpOp.In)=false:=by cases op <;> first | rfl | exact absurd rfl h
 have e2:(op == CmpOp.NotIn)=false:=by cases op <;> first | rfl | exact absurd rfl h2
 cases b <;> simp[behindInMarks,e1,e2]
theorem jL{op:CmpOp}{r:R2}(ho:bU X (compareOp op) r)(ha:PE X a ta)(hb:PE X b tb)(hm:behindInMarks op b=false):PE X (.Compare a [op] [b] pos) (qo r ta tb):=by
 intro pins s σ H Q I h;exact wpAny_Compare1 (wD ha hb I h λv u s2 x y H2 I2 rx ry q=>ho pins s2 σ H2 x y v u Q I2 rx ry q) hm
noncomputable def JJ(t:TE):TT:=λσ H Q=>t σ H λx H'=>∃k,x = .bl k/\Q k H'
theorem aM{op:CmpOp}{r:R2}(ho:bU X (compareOp op) r)(ha:PE X a ta)(hb:PE X b tb)(hm:behindInMarks op b=false):PT X (.Compare a [op] [b] pos) (JJ (qo r ta tb)):=by
 intro pins s σ H Q I h;refine wpAny_isTrue_Compare1 (aL (ha pins s σ H _ I h) λv s1 ⟨x,H1,I1,r1,q1⟩=>aL (hb pins s1 σ H1 _ I1 q1) λu s2 ⟨y,H2,I2,r2,q2⟩ =>
  aL (ho pins s2 σ H2 x y v u _ I2 r1 r2 q2) λc s3 ⟨z,H3,I3,r3,k,e,q3⟩=>?_) hm
 subst e;cases r3;exact wpAny_truthy_bool ⟨H3,I3,q3⟩
noncomputable def Vl(r r':R2)(ta tb tc:TE):TE:=λσ H Q=>ta σ H λx H1=>tb σ H1 λy H2=>r x y H2 λz H3=>∃k,z = .bl k/\
 (if k=true then tc σ H3 λw' H4=>r' y w' H4 Q else Q (.bl false) H3)
theorem nk:(sizeLine:Nat)<2 ^ 63:=by rw[sizeLine_eq];decide
theorem vals1{x:V}{us:List Value}(r:Vals [x] us):∃u,us = [u]/\RelV x u:=by
 cases r with
 | cons r1 r2=>cases r2;exact⟨_,rfl,r1⟩
theorem vals2{x y:V}{us:List Value}(r:Vals [x,y] us):∃u w',us = [u,w']/\RelV x u/\RelV y w':=by
 cases r with
 | cons r1 r2 =>
  cases r2 with
  | cons r3 r4=>cases r4;exact⟨_,_,rfl,r1,r3⟩
theorem jM:gP X (.type "str") (λxs H Q=>∃i,xs = [.int i]/\i.natAbs.log2<1920/\Q (.str (toString i)) H):=by
 intro pins s σ H xs us Q I r h;obtain⟨i,rfl,hz,q⟩:=h;obtain⟨u,rfl,t,rfl⟩:=vals1 r;exact PySem.P.str_of_int hz ⟨.str _,H,I.tok _,⟨_,rfl⟩,q⟩
end
structure kI(h:Heap)(x dx C:Addr)(mA:Str->Option Value):Prop where
 obj:h.get? x=some (PySem.W.instObj C dx)
 ns:h.Ns1 dx mA
 ne:dx≠x
theorem JK{h:Heap}{dx:Addr}{mA:Str->Option Value}(n:h.Ns1 dx mA):∃od,h.get? dx=some od/\∀name,PySem.W.lookIn name od=some (mA name):=by
 obtain⟨o,es,ep,ho,hd,hk,_,hm⟩:=n;refine⟨o,ho,λname=>?_⟩
 have e:=hm name;unfold nsFind findBy at e;rw[← Array.find?_toList] at e;unfold PySem.W.lookIn;rw[hd];dsimp only;split
 ·rename_i y q;rw[q] at e;exact congrArg some e
 ·rename_i q;rw[q] at e;have a:es.toList.any (·.refKey)=false:=by
   rw[List.any_eq_false];intro y hy;obtain⟨z,t,nq⟩:=hk y (Array.mem_toList_iff.mp hy);simp[DictEntry.refKey,nq]
  have a':¬ es.toList.any (·.refKey)=true:=by rw[a];exact Bool.false_ne_true
  rw[if_neg a'];exact congrArg some e
theorem kI.look{h:Heap}{x dx C:Addr}{mA:Str->Option Value}(I:kI h x dx C mA):∃od,PySem.W.InstAt h x (PySem.W.instObj C dx) C (some od)/\∀name,PySem.W.lookIn name od=some (mA name) :=
 let ⟨od,ho,hl⟩:=JK I.ns
 ⟨od,⟨I.obj,rfl,rfl,ho⟩,hl⟩
section
variable{prog:Program}{w:World}{A:Around}{E:Value->Shared->Prop}{s:Shared}{K:PySem.W.Frag}{x dx C f:Addr}{mA:Str->Option Value}{name:Str}{v:Value}
theorem get_map{expr:Bool}{Q:Value->Shared->Prop}(X:K.In s.heap)(I:kI s.heap x dx C mA)(hg:PySem.W.plainGet K C name=true)(hh:PySem.W.hasDictIn K C=true)
  (ha:PySem.W.findIn K (.ref C) name=some none) (hv:mA name=some v) (JL:PySem.W.handedIn v=true) (h:Q v { s with toks:=s.toks+1 }) :
  wpAny (model prog w) A (getAttr (.ref x) name expr) Q E s:=by
 obtain⟨od,J,hl⟩:=I.look;exact PySem.W.get_value X J (PySem.W.plainGet_of hg).1 (PySem.W.findObj_own hh ha rfl (by rw[hl,hv])) JL h
theorem JM{pl:Sem Bool}{Q:Value×List Value->Shared->Prop}(X:K.In s.heap)(I:kI s.heap x dx C mA)(hg:PySem.W.plainGet K C name=true)
  (hf:PySem.W.findIn K (.ref C) name=some (some (.ref f))) (ht:PySem.W.isFn K (.ref f)=true) (hv:mA name=none) (h:Q (.ref f,[.ref x]) s) :
  wpAny (model prog w) A (getMethod (.ref x) name pl) Q E s:=by
 obtain⟨od,J,hl⟩:=I.look;exact PySem.W.method_fn X J (PySem.W.plainGet_of hg).1 (PySem.W.plainGet_of hg).2 hf (beq_iff_eq.mp ht) (by show (PySem.W.lookIn name od).map (·.isSome)=some false;rw[hl,hv];rfl) h
theorem JN{ns:List Str}{Q:Unit->Shared->Prop}(X:K.In s.heap)(I:kI s.heap x dx C mA)
  (hs:PySem.W.findIn K (.ref C) "__setattr__" = some (some (.builtin "object.__setattr__"))) (hp:PySem.W.plainOver K C=true) (ht:PySem.W.takerIn K C name=some none) (hh:PySem.W.hasDictIn K C=true)
  (hw:PySem.Within mA ns) (lR:ns.length<=sizeLine)
  (h:∀h',kI h' x dx C (λy=>if y=name then some v else mA y)->Heap.SameBut dx s.heap h'->Q () { s with heap:=h',toks:=s.toks+2 }) :
  wpAny (model prog w) A (setAttr (.ref x) name v) Q E s:=by
 obtain⟨od,J,hl⟩:=I.look;refine PySem.W.set_plain X J hs (PySem.W.osa_open (s:={ s with toks:=s.toks+1 }) (r:=none) X J hp ht λb=>?_)
 obtain⟨cd,hc,wc⟩:=PySem.W.any_some hh;have hx:s.heap.get? x=some ⟨.ref C,some dx,.plain,#[]⟩:=I.obj;refine wpAny_bind (wpAny_pure (wpAny_bind (wpAny_bind (wpAny_loadPart hx (wpAny_bind (PySem.W.Looks.here (s:={ s with toks:=s.toks+1 }) (PySem.W.looks_clsIn X hc) ?_))))));rw[wc];refine wpAny_pure (a:=some dx) (wpAny_bind (wpAny_pure (wpAny_bind ?_)));refine wpAny_nsSet1 (s:={ s with toks:=s.toks+1 }) I.ns λh' nu Cb=>?_;obtain⟨oD,Vm,Vn,JO,JP,JQ⟩:=nu.count (PySem.Within.cons name v hw);refine wpAny_bind (wpAny_lookBehind JO (by rw[JP];exact pastItsLine_dict (Nat.le_trans JQ (by rw[List.length_cons];lia))) ?_)
 exact wpAny_pure (h _ ⟨(Cb.2 _ (Ne.symm I.ne)).trans I.obj,nu,I.ne⟩ Cb)
theorem JR{R:Result->Shared->Prop}{vs:List Value}{kw:List (Str×Value)}(X:K.In s.heap)(hm:PySem.W.makesIn K C=true)
  (hi:PySem.W.findIn K (.ref C) "__init__" = some (some (.ref f))) (hf:PySem.W.typeIn K (.ref f)=some (.type "function"))
  (h:codeAny (model prog w) (A.under (.builtin "type.__call__" ⟨.ref C::vs,kw⟩)) (.call (.ref f) ⟨.ref (s.heap.objs.size+1)::vs,kw⟩) (PySem.W.InitBack (s.heap.objs.size+1) R)
   { s with heap:=(s.heap.push PySem.W.emptyDict).push (PySem.W.instObj C s.heap.objs.size)}) :
  codeAny (model prog w) A (.call (.ref C) ⟨vs,kw⟩) R s:=by
 obtain⟨hh,g,d,t,os⟩:=s;exact PySem.W.make_core (PySem.W.makes_of X hm) (PySem.W.looks_findIn X hi) (λself=>PySem.W.bind_fn X self hf) (.inl rfl) h
end
noncomputable def d7(f:Str)(v:V):List (Str×V)->List (Str×V)
 | []=>[(f,v)]
 | (g,x)::r=>if g=f then(g,v)::r else(g,x)::d7 f v r
theorem Cc(f g:Str)(v:V):∀fs:List (Str×V),(d7 f v fs).lookup g=if g=f then some v else fs.lookup g
 | []=>by
  show List.lookup g [(f,v)] = _;by_cases h:g=f
  ·have hb:(g == f)=true:=beq_iff_eq.mpr h;simp only[List.lookup,hb,if_pos h]
  ·have hb:(g == f)=false:=beq_eq_false_iff_ne.mpr h;simp only[List.lookup,hb,if_neg h]
 | (k,x)::r=>by
  have ih:=Cc f g v r;rw[show d7 f v ((k,x)::r)=(if k=f then(k,v)::r else(k,x)::d7 f v r) from rfl]
  by_cases hk:k=f
  ·rw[if_pos hk];by_cases h:g=k
   ·have hb:(g == k)=true:=beq_iff_eq.mpr h;simp only[List.lookup,hb,if_pos (h.trans hk)]
   ·have hb:(g == k)=false:=beq_eq_false_iff_ne.mpr h;simp only[List.lookup,hb,if_neg (λe:g=f=>h (e.trans hk.symm))]
  ·rw[if_neg hk];by_cases h:g=k
   ·have hb:(g == k)=true:=beq_iff_eq.mpr h;simp only[List.lookup,hb,if_neg (λe:g=f=>hk (h.symm.trans e))]
   ·have hb:(g == k)=false:=beq_eq_false_iff_ne.mpr h;simp only[List.lookup,hb];exact ih
theorem wI(f:Str)(v:V):∀fs:List (Str×V),f∈(d7 f v fs).map (·.1)/\∀g,g∈fs.map (·.1)->g∈(d7 f v fs).map (·.1)
 | []=>⟨by simp[d7],λg h=>by simp at h⟩
 | (k,x)::r=>by
  obtain⟨i1,i2⟩:=wI f v r;rw[show d7 f v ((k,x)::r)=(if k=f then(k,v)::r else(k,x)::d7 f v r) from rfl]
  by_cases hk:k=f
  ·rw[if_pos hk];subst hk;exact⟨by simp,λg h=>by simpa using h⟩
  ·rw[if_neg hk];refine⟨?_,λg h=>?_⟩
   ·rw[List.map_cons];exact List.mem_cons_of_mem _ i1
   ·rw[List.map_cons] at h ⊢;rcases List.mem_cons.mp h with e | e
    ·exact List.mem_cons.mpr (.inl e)
    ·exact List.mem_cons_of_mem _ (i2 g e)
theorem Cd(f:Str)(v:V):∀fs:List (Str×V),(d7 f v fs).length<=fs.length+1
 | []=>by simp[d7]
 | (k,x)::r=>by
  have ih:=Cd f v r;rw[show d7 f v ((k,x)::r)=(if k=f then(k,v)::r else(k,x)::d7 f v r) from rfl]
  by_cases hk:k=f
  ·rw[if_pos hk,List.length_cons,List.length_cons];lia
  ·rw[if_neg hk,List.length_cons,List.length_cons];lia
theorem iy.some_of{v:V}{o:Option Value}(r:iy (some v) o):∃u,o=some u/\RelV v u:=by
 cases o with
 | none=>exact(show False from r).elim
 | some u=>exact⟨u,rfl,r⟩
theorem iy.none_of{o:Option Value}(r:iy none o):o=none:=by
 cases o with
 | none=>rfl
 | some u=>exact(show False from r).elim
theorem JS{v:V}{u:Value}(r:RelV v u):PySem.W.handedIn u=true:=by
 cases v with
 | aF=>cases (show u=Value.none from r);rfl
 | bl b=>cases (show u=Value.bool b from r);rfl
 | int i=>obtain⟨t,e⟩:=(show ∃t,u=Value.int i t from r);cases e;rfl
 | str x=>obtain⟨t,e⟩:=(show ∃t,u=Value.str x t from r);cases e;rfl
 | eY b=>obtain⟨t,e⟩:=(show ∃t,u=Value.bytes b t from r);cases e;rfl
 | iw b=>obtain⟨t,e⟩:=(show ∃t,u=Value.float b t from r);cases e;rfl
 | ref a=>cases (show u=Value.ref a from r);rfl
 | ty n=>cases (show u=Value.type n from r);rfl
section
variable{P:Program}{w:World}{H H':Hp}{h h':Heap}{a C dx:Addr}{fs IU:List (Str×V)}
theorem qw(aG:bV P w H h)(e:H a=some (.ins C dx fs)):∃mA,kI h a dx C mA/\(∀f,iy (fs.lookup f) (mA f))/\PySem.Within mA (fs.map (·.1))/\fs.length<=1000/\H dx=some (.own a):=by
 obtain⟨d,z,ne,ob,mA,n,r,q⟩:=(show cR P w H h a (.ins C dx fs) from aG a _ e);exact⟨mA,⟨ob,n,ne⟩,r,q,z,d⟩
end
structure gf(K:PySem.W.Frag)(C:Addr):Prop where
 pg:PySem.W.plainGet K C Str.empty=true
 hd:PySem.W.hasDictIn K C=true
 po:PySem.W.plainOver K C=true
 sa:PySem.W.findIn K (.ref C) "__setattr__" = some (some (.builtin "object.__setattr__"))
theorem gf.get{K:PySem.W.Frag}{C:Addr}(c:gf K C)(f:Str):PySem.W.plainGet K C f=true:=c.pg
noncomputable def d8(K:PySem.W.Frag)(C:Addr)(f:Str):Prop:=PySem.W.findIn K (.ref C) f=some none
theorem d8.JT{K:PySem.W.Frag}{C:Addr}{f:Str}(n:d8 K C f):PySem.W.takerIn K C f=some none:=by
 unfold PySem.W.takerIn;rw[show PySem.W.findIn K (.ref C) f=some none from n]
 rfl
structure Meth(K:PySem.W.Frag)(C:Addr)(m:Str)(f:Addr):Prop where
 at_:PySem.W.findIn K (.ref C) m=some (some (.ref f))
 fn:PySem.W.isFn K (.ref f)=true
 kp:PySem.W.keepIn K (.ref f)=true
section
variable{X:Cx}{pins:List (Addr×Obj)}{σ:St}{H:Hp}{s:Shared}{a C dx:Addr}{fs:List (Str×V)}{f:Str}{v:V}{A:Around}{E:Value->Shared->Prop}
theorem JU{b:Bool}{Q:Value->Shared->Prop}(I:Inv X pins σ H s)(e:H a=some (.ins C dx fs))(c:gf X.K C)(n:d8 X.K C f)(l:fs.lookup f=some v)
  (h:∀u s',Inv X pins σ H s'->RelV v u->Q u s'):wpAny (model X.prog X.w) A (getAttr (.ref a) f b) Q E s:=by
 obtain⟨mA,O,r,_,_,_⟩:=qw I.aG e;obtain⟨u,hu,ru⟩:=iy.some_of (v:=v) (o:=mA f) (by rw[← l];exact r f)
 exact get_map I.cu O (c.get f) c.hd n hu (JS ru) (h u _ (I.tok _) ru)
theorem Ce{m:Str}{g:Addr}{pl:Sem Bool}{Q:Value×List Value->Shared->Prop}(I:Inv X pins σ H s)(e:H a=some (.ins C dx fs))(c:gf X.K C)(k:Meth X.K C m g)(l:fs.lookup m=none)
  (h:Q (.ref g,[.ref a]) s):wpAny (model X.prog X.w) A (getMethod (.ref a) m pl) Q E s:=by
 obtain⟨mA,O,r,_,_,_⟩:=qw I.aG e;have hn:mA m=none:=iy.none_of (by rw[← l];exact r m)
 exact JM I.cu O (c.get m) k.at_ k.fn hn h
theorem JV{y:V}{u:Value}{Q:Unit->Shared->Prop}(I:Inv X pins σ H s)(e:H a=some (.ins C dx fs))(c:gf X.K C)(n:d8 X.K C f)(hl:fs.length<1000)(ry:RelV y u)
  (h:∀s',Inv X pins σ (upd H a (.ins C dx (d7 f y fs))) s'->Q () s'):wpAny (model X.prog X.w) A (setAttr (.ref a) f u) Q E s:=by
 obtain⟨mA,O,r,wi,_,ho⟩:=qw I.aG e;have hz:(fs.map (·.1)).length<=sizeLine:=by rw[List.length_map,sizeLine_eq];lia
 refine JN I.cu O c.sa c.po n.JT c.hd wi hz λh' O' sb=>h _ ?_;have hd:∃o,h'.get? dx=some o:=let ⟨o,_,_,e',_⟩:=O'.ns;⟨o,e'⟩
 refine I.write (x:=a) (e:=dx) (by rw[e];exact True.intro) (.inr ho) (λb q hb z=>(sb.2 b hb).trans z) hd ?_
 refine⟨by rw[bF O.ne];exact ho,?_,O.ne,O'.obj,_,O'.ns,λg=>?_,λg hg=>?_⟩
 ·have:=Cd f y fs;lia
 ·show iy ((d7 f y fs).lookup g) (if g=f then some u else mA g)
  rw[Cc];by_cases q:g=f
  ·rw[if_pos q,if_pos q];exact ry
  ·rw[if_neg q,if_neg q];exact r g
 ·by_cases q:g=f
  ·rw[q];exact(wI f y fs).1
  ·refine(wI f y fs).2 g (wi g λz=>hg ?_)
   show (if g=f then some u else mA g)=none
   rw[if_neg q];exact z
theorem Inv.made(I:Inv X pins σ H s):Inv X pins σ (upd (upd H s.heap.objs.size (.own (s.heap.objs.size+1))) (s.heap.objs.size+1) (.ins C s.heap.objs.size []))
  { s with heap:=(s.heap.push PySem.W.emptyDict).push (PySem.W.instObj C s.heap.objs.size)}:=by
 have e1:(s.heap.push PySem.W.emptyDict).get? s.heap.objs.size=some PySem.W.emptyDict:=Heap.get?_push_size s.heap rfl;have e2:((s.heap.push PySem.W.emptyDict).push (PySem.W.instObj C s.heap.objs.size)).get? (s.heap.objs.size+1)=some (PySem.W.instObj C s.heap.objs.size):=by
  have:=Heap.get?_push_size (s.heap.push PySem.W.emptyDict) (o:=PySem.W.instObj C s.heap.objs.size) rfl;rwa [Heap.size_push] at this
 have e3:(s.heap.push PySem.W.emptyDict).Ns s.heap.objs.size (λ_=>none):=⟨PySem.W.emptyDict,#[],_,e1,rfl,(λe he=>absurd he (by simp)),λ_=>rfl⟩
 have I1:=I.laid (a:=s.heap.objs.size) (o:=.own (s.heap.objs.size+1)) (h':=s.heap.push PySem.W.emptyDict) (t':=s.toks) (λb u q=>Heap.get?_push_of_some _ q) (Nat.le_refl _) ⟨_,e1⟩;refine I1.laid (a:=s.heap.objs.size+1) (o:=.ins C s.heap.objs.size []) (t':=s.toks) (λb u q=>Heap.get?_push_of_some _ q) (Nat.le_of_eq (Heap.size_push _ _)) ?_;have ne:s.heap.objs.size≠s.heap.objs.size+1:=Nat.ne_of_lt (Nat.lt_succ_self _);refine⟨by rw[bF ne,aq],Nat.zero_le _,ne,e2,λ_=>none,(Heap.Ns1.of_empty e3).at λo q=>Heap.get?_push_of_some _ q,λ_=>True.intro,λy hy=>absurd rfl hy⟩
theorem JW{prog:Program}{w:World}{env:Env}{e:Expr}{f:Str}{pos:Pos}{s:Shared}{Q:Value->Shared->Prop}(hb:attributeBase e f env (eval e env)=eval e env)
  (h:wpAny (model prog w) A (eval e env) (λo a_=>wpAny (model prog w) A (getAttr o f true) Q E a_) E s):wpAny (model prog w) A (eval (.Attribute e f pos) env) Q E s :=
 Attribute_any_ h (by rw[arm_eval_Attribute,hb])
end
noncomputable def JX(K:PySem.W.Frag)(ta:TE)(f:Str):TE:=λσ H Q=>ta σ H λx H1=>∃a C dx fs v,x = .ref a/\H1 a=some (.ins C dx fs)/\gf K C/\d8 K C f/\fs.lookup f=some v/\Q v H1
noncomputable def JY(K:PySem.W.Frag)(ta tv:TE)(f:Str):TS:=λD σ H=>tv σ H λy H1=>ta σ H1 λx H2=>∃a C dx fs,x = .ref a/\H2 a=some (.ins C dx fs)/\gf K C/\d8 K C f/\fs.length<1000/\
 D.nx σ (upd H2 a (.ins C dx (d7 f y fs)))
section
variable{X:Cx}{o e value:Expr}{f:Str}{pos pos' JZ:Pos}{ta tv:TE}
theorem cE(he:PE X e ta)(hb:attributeBase e f X.env (eval e X.env)=eval e X.env):PE X (.Attribute e f pos) (JX X.K ta f):=by
 intro pins s σ H Q I h;refine JW hb (aL (he pins s σ H _ I h) λu s1 ⟨x,H1,I1,rx,a,C,dx,fs,v,ex,ea,c,n,l,q⟩=>?_);subst ex;obtain rfl:u=Value.ref a:=rx;exact JU I1 ea c n l λu' s2 I2 ru=>⟨v,H1,I2,ru,q⟩
theorem fR(ha:PE X o ta)(hv:PE X value tv)(hs:swapsWith value (some (.Attribute o f pos')) pos.line X.env=pure false):PS X (.Assign [.Attribute o f pos'] value pos) (JY X.K ta tv f):=by
 intro pins s σ H D I h;refine plainObj_wpAny_Assign_Attribute (aL (hv pins s σ H _ I h) λu s1 ⟨y,H1,I1,ry,q⟩=>aL (ha pins s1 σ H1 _ I1 q) λov s2 ⟨x,H2,I2,rx,a,C,dx,fs,ex,ea,c,n,l,q2⟩=>?_) hs;subst ex;obtain rfl:ov=Value.ref a:=rx;exact JV I2 ea c n l ry λs3 I3=>⟨σ,_,I3,q2⟩
end
section
variable{X:Cx}{pins:List (Addr×Obj)}{σ:St}{H:Hp}{s:Shared}{A:Around}{E:Value->Shared->Prop}{Q:Value->Shared->Prop}{c:Value}{b:Bool}
inductive fS (K:PySem.W.Frag) (H:Hp):V->Value->Prop where
 | aF:fS K H .aF (.type "NoneType")
 | bl (x:Bool):fS K H (.bl x) (.type "bool")
 | int (i:Int):fS K H (.int i) (.type "int")
 | str (x:Str):fS K H (.str x) (.type "str")
 | iw (x:UInt64):fS K H (.iw x) (.type "float")
 | lst {a:Addr} {xs:List V} (e:H a=some (.lst xs)):fS K H (.ref a) (.type "list")
 | eZ {a:Addr} {o:Obj} {xs:List V} (e:H a=some (.eZ o (.lst xs))):fS K H (.ref a) (.type "list")
 | tup {a:Addr} {xs:List V} (e:H a=some (.tup xs)):fS K H (.ref a) (.type "tuple")
 | dK {a:Addr} {br:List (Key×V)} (e:H a=some (.dK br)):fS K H (.ref a) (.type "dict")
 | dT {a:Addr} {br:List (List Key×V)} (e:H a=some (.dT br)):fS K H (.ref a) (.type "dict")
 | ins {a C dx:Addr} {fs:List (Str×V)} (e:H a=some (.ins C dx fs)) (cl:gf K C) (ha:PySem.W.findIn K (.ref C) "__class__" = some (some (.builtin "object.__class__")))
   (hn:PySem.W.specialIn K (.builtin "object.__class__") "__get__" = some (some (.builtin "getset_descriptor.__get__"))) (Cf:PySem.W.takesIn K (.builtin "object.__class__")=some true)
   (hm:PySem.W.mroIn K C (.type "object")=some true):fS K H (.ref a) (.ref C)
theorem J0{x:V}{u t:Value}(I:Inv X pins σ H s)(rx:RelV x u)(ty:fS X.K H x t)(e:PySem.W.kitOne X.K t c=some b)(h:∀tk,Q (.bool b) { s with toks:=tk }) :
  wpAny (model X.prog X.w) A (call (.builtin "isinstance") [u,c]) Q E s:=by
 cases ty with
 | aF=>cases (show u=Value.none from rx);exact PySem.W.kia_one PySem.W.kitx_none I.cu True.intro e (λz=>nomatch z) h
 | bl y=>cases (show u=Value.bool y from rx);exact PySem.W.kia_one PySem.W.kitx_bool I.cu True.intro e (λz=>nomatch z) h
 | int i=>obtain⟨t,q⟩:=(show ∃t,u=Value.int i t from rx);cases q;exact PySem.W.kia_one PySem.W.kitx_int I.cu True.intro e (λz=>nomatch z) h
 | str y=>obtain⟨t,q⟩:=(show ∃t,u=Value.str y t from rx);cases q;exact PySem.W.kia_one PySem.W.kitx_str I.cu True.intro e (λz=>nomatch z) h
 | iw y=>obtain⟨t,q⟩:=(show ∃t,u=Value.float y t from rx);cases q;exact PySem.W.kia_one PySem.W.kitx_float I.cu True.intro e (λz=>nomatch z) h
 | @lst a xs ea =>
  cases (show u=Value.ref a from rx);obtain⟨_,_,n,_,h1⟩:=(show cR X.prog X.w H s.heap a (.lst xs) from I.aG a _ ea);exact PySem.W.kia_one PySem.W.kitx_list I.cu ⟨_,h1,rfl⟩ e (λz=>nomatch z) h
 | @eZ a ob xs ea =>
  cases (show u=Value.ref a from rx);obtain⟨_,_,_,n,_,h1⟩:=(show cR X.prog X.w H s.heap a (.eZ ob (.lst xs)) from I.aG a _ ea);exact PySem.W.kia_one PySem.W.kitx_list I.cu ⟨_,h1,rfl⟩ e (λz=>nomatch z) h
 | @tup a xs ea =>
  cases (show u=Value.ref a from rx);obtain⟨_,_,_,p⟩:=(show cR X.prog X.w H s.heap a (.tup xs) from I.aG a _ ea);obtain⟨o,h1,h2,_⟩:=p;exact PySem.W.kia_one PySem.W.kitx_tuple I.cu ⟨o,h1,h2⟩ e (λz=>nomatch z) h
 | @dK a br ea =>
  cases (show u=Value.ref a from rx);obtain⟨_,_,vs,_,p⟩:=(show cR X.prog X.w H s.heap a (.dK br) from I.aG a _ ea);obtain⟨o,es,ep,h1,h2,_⟩:=p;exact PySem.W.kia_one PySem.W.kitx_dict I.cu ⟨o,h1,h2.1⟩ e (λz=>nomatch z) h
 | @dT a br ea =>
  cases (show u=Value.ref a from rx);obtain⟨_,_,xs,_,o,es,ep,h1,h2,_⟩:=(show cR X.prog X.w H s.heap a (.dT br) from I.aG a _ ea);exact PySem.W.kia_one PySem.W.kitx_dict I.cu ⟨o,h1,h2.1⟩ e (λz=>nomatch z) h
 | @ins a C dx fs ea cl ha hn Cf hm =>
  cases (show u=Value.ref a from rx);obtain⟨mA,O,_⟩:=qw I.aG ea;obtain⟨od,J,_⟩:=O.look;exact PySem.W.kia_one (PySem.W.kitx_own (cl.get _) cl.hd ha hn Cf hm) I.cu J e (λz=>nomatch z) h
end
structure bY(k:Nat)(A:Around):Prop where
 hd:A.handled=none
 dp:A.depth+3*k+5<recursionLimit
 un:A.units+16*k+200<cLine
theorem bY.mono{j k:Nat}{A:Around}(r:bY k A)(h:j<=k):bY j A:=⟨r.hd,by have:=r.dp;lia,by have:=r.un;lia⟩
theorem bY.deeper{k:Nat}{A:Around}(r:bY (k+1) A)(env:Env):bY k (A.deeper env) :=
 ⟨r.hd,by have:=r.dp;show A.depth+1+3*k+5<_;lia,by have:=r.un;show A.units+3+16*k+200<_;lia⟩
theorem J7{A:Around}{C:Addr}{us:List Value}{kw:List (Str×Value)}:(A.under (.builtin "type.__call__" ⟨.ref C::us,kw⟩)).depth=A.depth+1:=by
 first | rfl | simp[Around.under,Code.weight,Code.isCreation,Code.isGuard,Code.isCaller,Code.frames,Code.isFrame,guardIds]
theorem J8{A:Around}{C:Addr}{us:List Value}{kw:List (Str×Value)}:(A.under (.builtin "type.__call__" ⟨.ref C::us,kw⟩)).units=A.units+1:=by
 first | rfl | simp[Around.under,Code.cUnits,Code.frames,Code.isFrame]
theorem bY.make{k:Nat}{A:Around}(r:bY (k+1) A)(C:Addr)(us:List Value)(kw:List (Str×Value)):bY k (A.under (.builtin "type.__call__" ⟨.ref C::us,kw⟩)) :=
 ⟨r.hd,by have:=r.dp;rw[J7];lia,by have:=r.un;rw[J8];lia⟩
theorem bY.depth{k:Nat}{A:Around}(r:bY k A):A.depth<recursionLimit:=by have:=r.dp;lia
theorem bY.units{k:Nat}{A:Around}(r:bY k A):A.units+64<cLine:=by have:=r.un;lia
theorem bY.kJ{k:Nat}{A:Around}(r:bY k A):A.units<cLine:=by have:=r.un;lia
noncomputable def nA:TA:=λ_ H Q=>Q [] H
noncomputable def qx(ta:TE)(tr:TA):TA:=λσ H Q=>ta σ H λx H1=>tr σ H1 λxs H2=>Q (x::xs) H2
section
variable{X:Cx}{e:Expr}{es:List Expr}{te:TE}{t:TA}{pos:Pos}
theorem ak:PA X [] nA:=λ_ _ _ _ H Q I h=>Calls.spliced_nil ⟨[],H,I,.nil,h⟩
theorem aa(ha:PE X e te)(hr:PA X es t)(hs:starEach (e::es) X.env=(false,eval e X.env)::starEach es X.env:=by rfl):PA X (e::es) (qx te t):=by
 intro pos pins s σ H Q I h;rw[hs]
 show wpAny _ _ (spliced ((false,eval e X.env)::backTo pos (starEach es X.env))) _ _ s;refine Calls.spliced_cons (aL (ha pins s σ H _ I h) λu s1 ⟨x,H1,I1,r1,q1⟩=>?_);exact aL (hr pos pins s1 σ H1 _ I1 q1) λus s2 ⟨xs,H2,I2,r2,q2⟩=>⟨x::xs,H2,I2,.cons r1 r2,q2⟩
noncomputable def J9(t:TA):TE:=λσ H Q=>t σ H λxs H1=>xs.length<=sizeLine/\∀p,H1 p=none->Q (.ref p) (upd H1 p (.tup xs))
noncomputable def Cg(t:TA):TE:=λσ H Q=>t σ H λxs H1=>xs.length<=sizeLine/\∀p,H1 p=none->Q (.ref p) (upd H1 p (.lst xs))
theorem dB{x1}(h:PA X es t):PE X (.Tuple es x1 pos) (J9 t):=by
 intro pins s σ H Q I hq;refine wpAny_Tuple_spliced (aL (h pos pins s σ H _ I hq) λus s1 ⟨xs,H1,I1,r,z,q⟩=>⟨by rw[← r.length];exact z,?_⟩)
 have hf:H1 s1.heap.objs.size=none:=I1.aG.fresh (Nat.le_refl _);refine⟨.ref s1.heap.objs.size,upd H1 s1.heap.objs.size (.tup xs),I1.laid (t':=s1.toks) (λb u e=>Heap.get?_push_of_some _ e) (Nat.le_refl _) ?_,rfl,q _ hf⟩;exact⟨z,us,r,⟨_,Heap.get?_push_size _ rfl,rfl,_,rfl⟩⟩
theorem bG(h:PA X es t):PE X (.List es pos) (Cg t):=by
 intro pins s σ H Q I hq;refine wpAny_List_spliced (aL (h pos pins s σ H _ I hq) λus s1 ⟨xs,H1,I1,r,z,q⟩=>⟨by rw[← r.length];exact z,?_⟩)
 have hf:H1 s1.heap.objs.size=none:=I1.aG.fresh (Nat.le_refl _);refine⟨.ref s1.heap.objs.size,upd H1 s1.heap.objs.size (.lst xs),I1.laid (t':=s1.toks) (λb u e=>Heap.get?_push_of_some _ e) (Nat.le_refl _) ?_,rfl,q _ hf⟩;exact⟨z,us,0,r,Heap.get?_push_size _ rfl⟩
end
noncomputable abbrev Sp:=List V->Hp->VK->XK->Prop
noncomputable abbrev eS:=List Env->Hp->Shared->XK->Value->Shared->Prop
structure kK(P:Program)(w:World)(K:PySem.W.Frag)(mg:Str->Option Value)(base:Heap)(A:Around)(outer:List Env)(s:Shared)(H:Hp):Prop where
 frames:A.frames=some outer
 mod:Mod K mg base
 bs:∀b o,base.get? b=some o->s.heap.get? b=some o/\H b=none
 gG:base.objs.size<=s.heap.objs.size
 eK:s.heap.FunFrames base outer
 gH:∀b∈bH outer,H b=none
 aG:bV P w H s.heap
 bare:AllBare s.gens
noncomputable def CE(outer:List Env)(P:Program)(w:World)(H:Hp)(s:Shared)(Q:VK)(u:Value)(s':Shared):Prop :=
 ∃v H',s'.os=s.os/\AllBare s'.gens/\Un (bH outer) [] H H' s.heap s'.heap/\bV P w H' s'.heap/\RelV v u/\Q v H'
noncomputable def CR(CX:eS)(outer:List Env)(P:Program)(w:World)(H:Hp)(s:Shared)(Q:VK)(E:XK)(r:Result)(s':Shared):Prop :=
 match r with
 | .ok (.ret u)=>CE outer P w H s Q u s'
 | .ok _=>False
 | .error e=>CX outer H s E e s'
structure bg(P:Program)(w:World)(K:PySem.W.Frag)(mg:Str->Option Value)(base:Heap)(CX:eS)(k:Nat)(f:Addr)(fd:FuncData)(ps:List Str)(sp:Sp):Prop where
 len:∀vs H Q E,sp vs H Q E->vs.length=ps.length
 run:∀(A:Around) (outer:List Env) (s:Shared) (H:Hp) (args:Args) (us:List Value) (vs:List V) (Q:VK) (E:XK),bY k A->kK P w K mg base A outer s H->BindsTo s fd args (ps.zip us)->Vals vs us->sp vs H Q E->
  codeAny (model P w) A (.call (.ref f) args) (CR CX outer P w H s Q E) s
theorem kK.make{P:Program}{w:World}{K:PySem.W.Frag}{mg:Str->Option Value}{base:Heap}{A:Around}{outer:List Env}{s:Shared}{H:Hp}(e:kK P w K mg base A outer s H)(C:Addr)(us:List Value)(kw:List (Str×Value)) :
  kK P w K mg base (A.under (.builtin "type.__call__" ⟨.ref C::us,kw⟩)) outer s H:=⟨by first | exact e.frames | (simpa[Around.under,Code.envs,Code.isFrame,pushEnvs] using e.frames),e.mod,e.bs,e.gG,e.eK,e.gH,e.aG,e.bare⟩
section
variable{X:Cx}{pins:List (Addr×Obj)}{σ:St}{H:Hp}{s s':Shared}
theorem Inv.wJ(I:Inv X pins σ H s):kK X.prog X.w X.K X.mg X.base X.A X.stack s H :=
 ⟨I.ok.frames,I.ok.mod,I.bs,Nat.le_trans I.ok.gG I.sz,I.stack,I.wg,I.aG,I.bare⟩
theorem Inv.after{Q:VK}{u:Value}(I:Inv X pins σ H s)(h:CE X.stack X.prog X.w H s Q u s'):EP X pins σ Q u s':=by
 obtain⟨v,H',os,bare,un,aG,r,q⟩:=h;obtain⟨hh,g,d,t,J_⟩:=s';obtain rfl:J_=s.os:=os;exact⟨v,H',I.call (h':=hh) (g':=g) (d':=d) (t':=t) (ch:=[]) un aG bare (λb z=>absurd z (by simp)),r,q⟩
end
noncomputable def Ci(sp:Sp)(bN:List V)(E:XK)(t:TA):TE:=λσ H Q=>t σ H λvs H1=>sp (vs++bN) H1 Q E
noncomputable def Cj(C:Addr)(m:Str)(sp:Sp)(bN:List V)(E:XK)(ta:TE)(t:TA):TE:=λσ H Q=>ta σ H λx H1=>∃a dx fs,x = .ref a/\H1 a=some (.ins C dx fs)/\fs.lookup m=none/\
 t σ H1 λvs H2=>sp (x::(vs++bN)) H2 Q E
noncomputable def Ka(C:Addr)(sp:Sp)(bN:List V)(E:XK)(t:TA):TE:=λσ H Q=>t σ H λvs H1=>∀x dx,H1 x=none->H1 dx=none->dx≠x->
 sp (.ref x::(vs++bN)) (upd (upd H1 dx (.own x)) x (.ins C dx [])) (λv H2=>v = .aF/\Q (.ref x) H2) E
noncomputable def Binds(K:PySem.W.Frag)(fd:FuncData)(ps:List Str)(ds:List Value):Prop :=
 ∀(s:Shared) (us:List Value),K.In s.heap->(us++ds).length=ps.length->BindsTo s fd ⟨us,[]⟩ (ps.zip (us++ds))
theorem Binds.all{K:PySem.W.Frag}{fd:FuncData}{ps:List Str}(h:∀us:List Value,us.length=ps.length->bindArgs fd ⟨us,[]⟩=pure (ps.zip us)):Binds K fd ps []:=λs us _ hl=>by
 rw[List.append_nil] at hl ⊢;exact .of_eq (h us hl)
noncomputable def Passes(CX:eS)(X:Cx)(E:XK):Prop:=∀(pins:List (Addr×Obj)) (σ:St) (H:Hp) (s:Shared) (e:Value) (s':Shared),Inv X pins σ H s->CX X.stack H s E e s'->X.xe e s'
section
variable{X:Cx}{CX:eS}{k:Nat}{f C:Addr}{fd:FuncData}{ps:List Str}{sp:Sp}{bN:List V}{ds:List Value}{E:XK}{x m:Str}{p pos apos:Pos}{e o:Expr}{es:List Expr}{ta:TE}{t:TA}
theorem wK{pins:List (Addr×Obj)}{σ:St}{H:Hp}{s:Shared}{Q:VK}{us:List Value}{vs:List V}(F:bg X.prog X.w X.K X.mg X.base CX k f fd ps sp)(hr:bY k X.A)(hb:Binds X.K fd ps ds)(hd:Vals bN ds)(hx:Passes CX X E)
  (I:Inv X pins σ H s) (r:Vals vs us) (h:sp (vs++bN) H Q E):wpAny (model X.prog X.w) X.A (call (.ref f) us) (EP X pins σ Q) X.xe s:=by
 have r2:Vals (vs++bN) (us++ds):=r.append hd;have hl:(us++ds).length=ps.length:=by rw[← r2.length];exact F.len _ _ _ _ h
 refine wpAny_call (codeAny_mono (F.run X.A X.stack s H ⟨us,[]⟩ (us++ds) (vs++bN) Q E hr I.wJ (hb s us I.cu hl) r2 h) λr s' hq=>?_);cases r with
 | error e=>exact hx pins σ H s e s' I hq
 | ok fl =>
  cases fl with
  | ret u=>exact I.after hq
  | next=>exact False.elim hq
  | brk=>exact False.elim hq
  | cont=>exact False.elim hq
theorem bu(F:bg X.prog X.w X.K X.mg X.base CX k f fd ps sp)(hr:bY k X.A)(hg:Gl X x)(hm:X.mg x=some (.ref f))(hk:PySem.W.keepIn X.K (.ref f)=true)(hb:Binds X.K fd ps ds)(hd:Vals bN ds)(hx:Passes CX X E)
  (ha:PA X (e::es) t) (e_:(x == ("__debug__" : Str))=false:=by decide) (he:starEach (e::es) X.env=(false,eval e X.env)::starEach es X.env:=by rfl) (d9:(backTo pos (starEach es X.env)).any (·.1)=false:=by rfl) :
  PE X (.Call (.Name x p) (e::es) [] pos) (Ci sp bN E t):=by
 intro pins s σ H Q I h;refine wpAny_Call_Name_kw (lI I hg hm ?_ e_);refine PySem.W.callWith_K (h₀:=X.base) I.ok.mod.ki hk (aL (ha pos pins s σ H _ I h) λus s1 ⟨vs,H1,I1,r,q⟩=>⟨I1.cu,?_⟩) he d9;exact wK F hr hb hd hx I1 r q
theorem iA{pl:Sem Bool}(he:PE X o ta)(c:gf X.K C)(hm:Meth X.K C m f)(F:bg X.prog X.w X.K X.mg X.base CX k f fd ps sp)(hr:bY k X.A)(hb:Binds X.K fd ps ds)(hd:Vals bN ds)(hx:Passes CX X E)(ha:PA X (e::es) t)
  (nB:starEach (e::es) X.env=(false,eval e X.env)::starEach es X.env:=by rfl) (d9:(backTo pos (starEach es X.env)).any (·.1)=false:=by rfl)
  (ht:eval (.Call (.Attribute o m apos) (e::es) [] pos) X.env=(do
   let ov ← eval o X.env
   standAt apos.atName
   let (f,first) ← holding [ov] (getMethod ov m pl)
   callWith pos f first (backTo pos (starEach (e::es) X.env)) (backToKw pos (keywordEach [] X.env))):=by rfl) :
  PE X (.Call (.Attribute o m apos) (e::es) [] pos) (Cj C m sp bN E ta t):=by
 intro pins s σ H Q I h;refine PySem.W.methodCall_KW (pl:=pl) (aL (he pins s σ H _ I h) λu s1 ⟨x,H1,I1,rx,a,dx,fs,ex,ea,l,q⟩=>?_) ht;subst ex;obtain rfl:u=Value.ref a:=rx;refine Ce I1 ea c hm l ?_;refine PySem.W.callWith_K (first:=[.ref a]) (h₀:=X.base) I.ok.mod.ki hm.kp (aL (ha pos pins s1 σ H1 _ I1 q) λus s2 ⟨vs,H2,I2,r,q2⟩=>⟨I2.cu,?_⟩) nB d9
 exact wK (us:=.ref a::us) (vs:=.ref a::vs) F hr hb hd hx I2 (.cons rfl r) q2
theorem dO{pl:Sem Bool}(he:PE X o ta)(c:gf X.K C)(hm:Meth X.K C m f)(F:bg X.prog X.w X.K X.mg X.base CX k f fd ps sp)(hr:bY k X.A)(hb:Binds X.K fd ps ds)(hd:Vals bN ds)(hx:Passes CX X E)
  (ht:eval (.Call (.Attribute o m apos) [] [] pos) X.env=(do
   let ov ← eval o X.env
   standAt apos.atName
   let (f,first) ← holding [ov] (getMethod ov m pl)
   callWith pos f first (backTo pos (starEach [] X.env)) (backToKw pos (keywordEach [] X.env))):=by rfl) :
  PE X (.Call (.Attribute o m apos) [] [] pos) (Cj C m sp bN E ta nA):=by
 intro pins s σ H Q I h;refine PySem.W.methodCall_KW (pl:=pl) (aL (he pins s σ H _ I h) λu s1 ⟨x,H1,I1,rx,a,dx,fs,ex,ea,l,q⟩=>?_) ht;subst ex;obtain rfl:u=Value.ref a:=rx;refine Ce I1 ea c hm l ?_;exact PySem.W.callWith_K0 (first:=[.ref a]) I1.cu hm.kp (wK (us:=[.ref a]) (vs:=[.ref a]) F hr hb hd hx I1 (.cons rfl .nil) q)
structure Mk(K:PySem.W.Frag)(C f:Addr):Prop where
 makes:PySem.W.makesIn K C=true
 init:PySem.W.findIn K (.ref C) "__init__" = some (some (.ref f))
 fn:PySem.W.isFn K (.ref f)=true
 kp:PySem.W.keepIn K (.ref C)=true
theorem Kc{pins:List (Addr×Obj)}{σ:St}{H:Hp}{s:Shared}{Q:VK}{us:List Value}{vs:List V}(M:Mk X.K C f)(F:bg X.prog X.w X.K X.mg X.base CX k f fd ps sp)(hr:bY (k+1) X.A)(hb:Binds X.K fd ps ds)(hd:Vals bN ds)
  (hx:Passes CX X E) (I:Inv X pins σ H s) (r:Vals vs us)
  (h:∀x dx,H x=none->H dx=none->dx≠x->sp (.ref x::(vs++bN)) (upd (upd H dx (.own x)) x (.ins C dx [])) (λv H2=>v = .aF/\Q (.ref x) H2) E) :
  wpAny (model X.prog X.w) X.A (call (.ref C) us) (EP X pins σ Q) X.xe s:=by
 have hq:=h (s.heap.objs.size+1) s.heap.objs.size (I.aG.fresh (Nat.le_succ _)) (I.aG.fresh (Nat.le_refl _)) (Nat.ne_of_lt (Nat.lt_succ_self _));have I2:=Inv.made (C:=C) I;have r2:Vals (V.ref (s.heap.objs.size+1)::(vs++bN)) (Value.ref (s.heap.objs.size+1)::(us++ds)):=.cons rfl (r.append hd);have hl:(Value.ref (s.heap.objs.size+1)::us++ds).length=ps.length:=by
  have e:=r2.length;rw[F.len _ _ _ _ hq] at e;exact e.symm
 refine wpAny_call (JR (f:=f) I.cu M.makes M.init (beq_iff_eq.mp M.fn) (codeAny_mono (F.run _ X.stack _ _ ⟨Value.ref (s.heap.objs.size+1)::us,[]⟩ (Value.ref (s.heap.objs.size+1)::(us++ds)) _ _ E (hr.make C us [])
  (I2.wJ.make C us []) (hb _ (Value.ref (s.heap.objs.size+1)::us) I2.cu hl) r2 hq) λr s' nC=>?_))
 cases r with
 | error e=>exact hx pins σ _ _ e s' I2 nC
 | ok fl =>
  cases fl with
  | ret u =>
   obtain⟨v,H',I3,rv,ev,q3⟩:=I2.after nC;subst ev;exact⟨rv,⟨V.ref (s.heap.objs.size+1),H',I3,rfl,q3⟩⟩
  | next=>exact False.elim nC
  | brk=>exact False.elim nC
  | cont=>exact False.elim nC
theorem qy(M:Mk X.K C f)(F:bg X.prog X.w X.K X.mg X.base CX k f fd ps sp)(hr:bY (k+1) X.A)(hg:Gl X x)(hm:X.mg x=some (.ref C))(hb:Binds X.K fd ps ds)(hd:Vals bN ds)(hx:Passes CX X E)
  (ha:PA X (e::es) t) (e_:(x == ("__debug__" : Str))=false:=by decide) (he:starEach (e::es) X.env=(false,eval e X.env)::starEach es X.env:=by rfl) (d9:(backTo pos (starEach es X.env)).any (·.1)=false:=by rfl) :
  PE X (.Call (.Name x p) (e::es) [] pos) (Ka C sp bN E t):=by
 intro pins s σ H Q I h;refine wpAny_Call_Name_kw (lI I hg hm ?_ e_);refine PySem.W.callWith_K (h₀:=X.base) I.ok.mod.ki M.kp (aL (ha pos pins s σ H _ I h) λus s1 ⟨vs,H1,I1,r,q⟩=>⟨I1.cu,?_⟩) he d9;exact Kc M F hr hb hd hx I1 r q
end
noncomputable def PK(X:Cx)(nF:List Keyword)(t:TA):Prop :=
 ∀(pos:Pos) (pins:List (Addr×Obj)) (s:Shared) (σ:St) (H:Hp) (Q:List V->Hp->Prop),Inv X pins σ H s->t σ H Q->wpAny (model X.prog X.w) X.A (evalAll ((backToKw pos (keywordEach nF X.env)).map (·.2))) (AP X pins σ Q) X.xe s
section
variable{X:Cx}{CX:eS}{k:Nat}{f C:Addr}{fd:FuncData}{ps ks:List Str}{sp:Sp}{E:XK}{x m:Str}{p pos apos Vo:Pos}{e o:Expr}{es:List Expr}{nF:List Keyword}{te ta:TE}{t tk:TA}{nm:Option Str}
variable{g:List Value->List Value->List Value}{gV:List V->List V->List V}
end
structure bD(N P:List Str)(sc:Scope):Prop where
 kind:sc.kind = .function
 co:sc.isCoroutine=false
 gen:sc.isGenerator=false
 nd:N.Nodup
 pre:N.take P.length=P
 par:∀x∈P,sc.names.lookup x=some .local\/sc.names.lookup x=some .cell
 Kd:∀y∈sc.names,y.2≠.free
theorem Ck{kindOf:Str->Option NameKind}{x:Str}:∀ {binds:List (Str×Value)} {m:Str->Option Value},(∀v,(x,v)∉binds)->bindL kindOf binds m x=m x
 | [],_,_=>rfl
 | (n,v)::r,m,h=>by
  unfold bindL;rw[Ck λw hw=>h w (List.mem_cons_of_mem _ hw)];split
  ·have:x≠n:=by rintro rfl;exact h v List.mem_cons_self
   simp[this]
  ·rfl
theorem Cm{kindOf:Str->Option NameKind}{x:Str}:∀ {binds:List (Str×Value)} {m:Str->Option Value},(∀v,(x,v)∉binds)->bindC kindOf binds m x=m x
 | [],_,_=>rfl
 | (n,v)::r,m,h=>by
  unfold bindC;rw[Cm λw hw=>h w (List.mem_cons_of_mem _ hw)];split
  ·rfl
  ·have:x≠n:=by rintro rfl;exact h v List.mem_cons_self
   simp[this]
theorem Cn{kindOf:Str->Option NameKind}{x:Str}{v:Value}:∀ {P:List Str} {vs:List Value} {i:Nat} {m:Str->Option Value},P.Nodup->P[i]? = some x->vs[i]? = some v->kindOf x=some .local->
  bindL kindOf (P.zip vs) m x=some v
 | [],_,_,_,_,h,_,_=>by simp at h
 | _::_,[],_,_,_,_,h,_=>by simp at h
 | p::P,w::vs,0,m,nd,h1,h2,hk=>by
  simp at h1 h2;subst h1;subst h2
  show bindL kindOf ((p,w)::P.zip vs) m p=_;unfold bindL;rw[Ck λv hv=>(List.nodup_cons.mp nd).1 (List.of_mem_zip hv).1,if_pos hk];simp
 | p::P,w::vs,i+1,m,nd,h1,h2,hk=>by
  show bindL kindOf ((p,w)::P.zip vs) m x=_;unfold bindL;exact Cn (i:=i) (List.nodup_cons.mp nd).2 (by simpa using h1) (by simpa using h2) hk
theorem Co{kindOf:Str->Option NameKind}{x:Str}{v:Value}:∀ {P:List Str} {vs:List Value} {i:Nat} {m:Str->Option Value},P.Nodup->P[i]? = some x->vs[i]? = some v->kindOf x≠some .local->
  bindC kindOf (P.zip vs) m x=some v
 | [],_,_,_,_,h,_,_=>by simp at h
 | _::_,[],_,_,_,_,h,_=>by simp at h
 | p::P,w::vs,0,m,nd,h1,h2,hk=>by
  simp at h1 h2;subst h1;subst h2
  show bindC kindOf ((p,w)::P.zip vs) m p=_;unfold bindC;rw[Cm λv hv=>(List.nodup_cons.mp nd).1 (List.of_mem_zip hv).1,if_neg hk];simp
 | p::P,w::vs,i+1,m,nd,h1,h2,hk=>by
  show bindC kindOf ((p,w)::P.zip vs) m x=_;unfold bindC;exact Co (i:=i) (List.nodup_cons.mp nd).2 (by simpa using h1) (by simpa using h2) hk
noncomputable def start(N:List Str)(vs:List V):St:=vs.map some++List.replicate (N.length - vs.length) none
noncomputable def fc(CX:eS)(P:Program)(w:World)(K:PySem.W.Frag)(mg:Str->Option Value)(base:Heap)(N:List Str)(qual:Str)(scope:Scope)(f:Addr)(cd:Value)(A:Around)(outer:List Env)(s:Shared)(H:Hp)(E:XK):Cx where
 prog:=P
 w:=w
 K:=K
 mg:=mg
 base:=base
 A:=A.deeper (envOfC qual scope s.heap.objs.size f cd)
 N:=N
 aZ:=s
 dM:=H
 env:=envOfC qual scope s.heap.objs.size f cd
 outer:=outer
 stack:=envOfC qual scope s.heap.objs.size f cd::outer
 ex:=[]
 calm:=true
 fn:=λ_=>true
 pn:=[]
 xe:=λe s'=>wpAny (model P w) (A.deeper (envOfC qual scope s.heap.objs.size f cd)) (leaving (envOfC qual scope s.heap.objs.size f cd) e) (λ_ nG=>CX outer H s E e nG) (λe' nG=>CX outer H s E e' nG) s'
theorem Cp{sc:Scope}{n:Nat}{x:Str}(h:sc.names.lookup x=some .cell):∃c,(cellsFrom n sc.names []).lookup x=some c:=by
 have q:=PySem.W.cellsFrom_some sc.names n [] (.inl h);exact Option.isSome_iff_exists.mp q
theorem Ke{CX:eS}{P:Program}{w:World}{K:PySem.W.Frag}{mg:Str->Option Value}{base:Heap}{N ps:List Str}{qual:Str}{scope:Scope}{f:Addr}{cd:Value}{A:Around}{outer:List Env}{s s1:Shared}{H:Hp}{E:XK}{us:List Value}{vs:List V}
  (S:bD N ps scope) (hd:A.handled=none) (e0:kK P w K mg base A outer s H) (hl:vs.length=ps.length) (r:Vals vs us)
  (x:InCallC s s.heap.objs.size (bindL (envOfC qual scope s.heap.objs.size f cd).kindOf (ps.zip us) λ_=>none) (cellsFrom (s.heap.objs.size+1) scope.names []) (bindC (envOfC qual scope s.heap.objs.size f cd).kindOf (ps.zip us) λ_=>none) s1) :
  Inv (fc CX P w K mg base N qual scope f cd A outer s H E) [] (start N vs) H s1:=by
 have d9:ps.length<=N.length:=by have:=congrArg List.length S.pre;rw[List.length_take] at this;lia
 obtain⟨h1,tk,rfl,hk⟩:=x.done;have nH:∀b:Addr,b∉(fc CX P w K mg base N qual scope f cd A outer s H E).ex:=λb z=>absurd (show b∈([]:List Addr) from z) (by simp)
 refine⟨⟨e0.mod,S.kind,rfl,rfl,Nat.le_refl _,λy z c h1 h2=>?_,λy hy=>?_,λy c _ h=>?_,λ_=>hd,Around.frames_deeper e0.frames,.inr ⟨rfl,rfl⟩,λb z=>absurd z (nH b),e0.bs,e0.gG,λb _ _=>nH b,λb z=>absurd z (nH b),e0.eK,e0.gH⟩,
  rfl,e0.bare,Un.kept hk,⟨_,x.toInCall.ns,λi y v h1 h2 h3=>?_⟩,λy c h=>⟨_,x.cell y c h⟩,e0.aG.fresh (Nat.le_refl _),λy c h=>?_,λp hp=>absurd (show p∈([]:List (Addr×Obj)) from hp) (by simp),e0.aG.kept hk,?_⟩
 ·exact name_of_addr x.apart (PySem.mem_of_lookup h1) (PySem.mem_of_lookup h2)
 ·have hy:scope.names.lookup y=some .cell\/scope.names.lookup y=some .free:=hy;rcases hy with hy | hy
  ·exact Cp hy
  ·exact absurd rfl (S.Kd _ (PySem.mem_of_lookup hy))
 ·exact Nat.le_of_lt (x.above y c (PySem.mem_of_lookup h))
 ·have hi:i<vs.length:=by
   unfold start at h2;by_cases hi:i<vs.length
   ·exact hi
   ·rw[List.getElem?_append_right (by simpa using hi)] at h2
    rw[List.getElem?_replicate] at h2;split at h2 <;> cases h2
  have ha:vs[i]? = some v:=by
   unfold start at h2;rw[List.getElem?_append_left (by simpa using hi),List.getElem?_map] at h2
   cases e:vs[i]? with
   | none=>rw[e] at h2;cases h2
   | some a=>rw[e] at h2;cases h2;rfl
  obtain⟨u,hu,rv⟩:=r.get ha;have hp:ps[i]? = some y:=by
   rw[← S.pre,List.getElem?_take_of_lt (by lia)];exact h1
  have Cq:ps.Nodup:=by rw[← S.pre];exact S.nd.sublist (List.take_sublist _ _)
  refine⟨u,rv,?_⟩;rcases S.par y (List.mem_of_getElem? hp) with k | k
  ·exact .inl ⟨k,Cn Cq hp hu k⟩
  ·obtain⟨c,e⟩:=Cp (n:=s.heap.objs.size+1) k;refine .inr ⟨.inl k,c,e,?_⟩;have q:=x.cell y c e;rw[Co Cq hp hu (by show scope.names.lookup y≠_;rw[k];decide)] at q
   exact q
 ·exact e0.aG.fresh (Nat.le_of_lt (x.above y c (PySem.mem_of_lookup h)))
 ·unfold start
  show _=N.length;rw[List.length_append,List.length_map,List.length_replicate];lia
theorem wL{CX:eS}{P:Program}{w:World}{K:PySem.W.Frag}{mg:Str->Option Value}{base:Heap}{k:Nat}{f:Addr}{name qual:Str}{params:Arguments}{body:List Stmt}{scope:Scope}{dV kV doc pm aN ct oc:Value}{an od:Option Addr}
  {fh:Array (Option Value)} {N ps:List Str} {sp:Sp} (lk:K.lookup f=some ⟨oc,od,.func (PySem.W.fnOf name qual params body scope dV kV doc pm an aN ct),fh⟩) (cM:PySem.W.codeIn K aN qual=true) (S:bD N ps scope)
  (len:∀vs H Q E,sp vs H Q E->vs.length=ps.length)
  (kL:∀(A:Around) (outer:List Env) (s:Shared) (H:Hp) (vs:List V) (Q:VK) (E:XK),bY k (A.deeper (envOfC qual scope s.heap.objs.size f aN))->sp vs H Q E->
   ∃t,dY (fc CX P w K mg base N qual scope f aN A outer s H E) body t/\t { nx:=λ_ H'=>Q .aF H',rt:=Q } (start N vs) H) :
  bg P w K mg base CX (k+1) f (PySem.W.fnOf name qual params body scope dV kV doc pm an aN ct) ps sp:=by
 refine⟨len,λA outer s H args us vs Q E hr e0 hb r gh=>?_⟩;have hl:=len _ _ _ _ gh;have KX:K.In s.heap:=e0.mod.ki.keeps λb o e=>(e0.bs b o e).1;have lim:s.heap.NoLimit:=e0.mod.nolimit.keeps λb o e=>(e0.bs b o e).1;have Kf:∀y∈ps.zip us,scope.names.lookup y.1=some .local\/(scope.names.lookup y.1=some .cell/\((cellsFrom (s.heap.objs.size+1) scope.names []).lookup y.1).isSome=true):=λ⟨n,v⟩ hy=>by
  rcases S.par n (List.of_mem_zip hy).1 with q | q
  ·exact .inl q
  ·exact .inr ⟨q,PySem.W.cellsFrom_some _ _ _ (.inl q)⟩
 refine codeAny_call_function hr.depth (KX _ _ lk) rfl S.co S.gen rfl (PySem.W.codeRec_of KX cM) (hb _ _ _ _ ?_);refine wpAny_newFunctionEnv_cells S.kind Kf λenv he s1 x=>?_;subst he;refine⟨lim.keeps x.toInCall.keep,codeAny_func ?_⟩;obtain⟨t,ht,hq⟩:=kL A outer s H vs Q E (hr.deeper _) gh;have I:Inv (fc CX P w K mg base N qual scope f aN A outer s H E) [] (start N vs) H s1:=Ke S hr.hd e0 hl r x;refine wpAny_mono (ht [] s1 (start N vs) H _ I hq) (λfl s' hs=>?_) λe s' hs=>hs;have fin:∀ {aJ:St} {H':Hp} {v:V} {u:Value},Inv (fc CX P w K mg base N qual scope f aN A outer s H E) [] aJ H' s'->RelV v u->Q v H'->CE outer P w H s Q u s' :=
  λ{aJ H' v u} J rv q=>⟨v,H',J.os,J.bare,J.base,J.aG,rv,q⟩
 cases fl with
 | ret u =>
  obtain⟨v,aJ,H',J,rv,q⟩:=hs;exact fin J rv q
 | next =>
  obtain⟨aJ,H',J,q⟩:=hs;exact fin (v:=V.aF) (u:=Value.none) J rfl q
 | brk =>
  obtain⟨_,_,_,q⟩:=hs;exact False.elim q
 | cont =>
  obtain⟨_,_,_,q⟩:=hs;exact False.elim q
section
variable{X:Cx}{x:Str}{p pos:Pos}{e:Expr}{es:List Expr}{t:TA}{id T:String}{r:List V->Hp->VK->Prop}
noncomputable def Cr(r:List V->Hp->VK->Prop)(t:TA):TE:=λσ H Q=>t σ H λvs H1=>r vs H1 Q
theorem bO(hc:gP X (.builtin id) r)(hg:Gl X x)(hm:X.mg x=none)(hv:bootBuiltins x=some (.builtin id))(ha:PA X (e::es) t)(hn:x≠"__name__" := by decide)(e_:(x == ("__debug__" : Str))=false:=by decide)
  (he:starEach (e::es) X.env=(false,eval e X.env)::starEach es X.env:=by rfl) (d9:(backTo pos (starEach es X.env)).any (·.1)=false:=by rfl):PE X (.Call (.Name x p) (e::es) [] pos) (Cr r t):=by
 intro pins s σ H Q I h;refine wpAny_Call_Name_kw (iU I hg hm hv ?_ hn e_);exact PyProof.Rows.callWith_builtin1 (aL (ha pos pins s σ H _ I h) λus s1 ⟨vs,H1,I1,r1,q1⟩=>hc pins s1 σ H1 vs us Q I1 r1 q1) he d9
theorem d_(hc:gP X (.type T) r)(hg:Gl X x)(hm:X.mg x=none)(hv:bootBuiltins x=some (.type T))(ha:PA X (e::es) t)(hn:x≠"__name__" := by decide)(e_:(x == ("__debug__" : Str))=false:=by decide)
  (he:starEach (e::es) X.env=(false,eval e X.env)::starEach es X.env:=by rfl) (d9:(backTo pos (starEach es X.env)).any (·.1)=false:=by rfl):PE X (.Call (.Name x p) (e::es) [] pos) (Cr r t):=by
 intro pins s σ H Q I h;refine wpAny_Call_Name_kw (iU I hg hm hv ?_ hn e_);exact PyProof.Rows.callWith_type1 (aL (ha pos pins s σ H _ I h) λus s1 ⟨vs,H1,I1,r1,q1⟩=>hc pins s1 σ H1 vs us Q I1 r1 q1) he d9
end
end _L
namespace _H
open PySem PyProof.Rows
noncomputable def lexLt:List Int->List Int->Bool
 | [],[]=>false
 | [],_::_=>true
 | _::_,[]=>false
 | x::xs,y::ys=>if x=y then lexLt xs ys else decide (x<y)
section
open PySem.SeqAt
open PySem.AutoSeq1 (wpAny_loadPart')
open PySem.MeetsSeq PySem.MeetsSeq2 PySem.MeetsSeq3
end
section
variable{prog:Program}{w:World}{A:Around}{E:Value->Shared->Prop}{s:Shared}
theorem Kg{t b:Addr}{vs ws:List Value}{Q:Value->Shared->Prop}(ht:IsTup s.heap t vs.toArray)(hb:IsTup s.heap b ws.toArray)(hv:vs≠[])
  (h1:ws = []->Q (.ref t) s) (h2:ws≠[]->Q (.ref s.heap.objs.size) { s with heap:=s.heap.push { cls:=.type "tuple",data:=.seq (vs++ws).toArray }})
  (lR:vs.length+ws.length<=sizeLine):wpAny (model prog w) A (binaryOp .Add (.ref t) (.ref b)) Q E s:=by
 obtain⟨⟨cls,dd,data,sl⟩,ho,hc,n,hd⟩:=id ht;obtain⟨⟨Vp,wM,data2,lT⟩,fj,qz,n2,hd2⟩:=id hb;simp only at hc hd qz hd2;subst hc hd qz hd2;have e:vs.toArray++ws.toArray=(vs++ws).toArray:=by simp
 by_cases hw:ws = []
 ·exact concat_meets ⟨_,ho,rfl⟩ ⟨_,fj,rfl⟩ noFill_tuple_add seq_tuple_add PySem.F.slot_tuple_add PySem.F.entry_tuple_add (PySem.F.args_tuple_add_2 _ _)
   (tuple_addW1 t b vs.toArray ws.toArray n n2 dd wM sl lT (by simpa using hv) (by simp[hw])) ⟨ho,fj,h1 hw⟩
 ·refine concat_meets ⟨_,ho,rfl⟩ ⟨_,fj,rfl⟩ noFill_tuple_add seq_tuple_add PySem.F.slot_tuple_add PySem.F.entry_tuple_add (PySem.F.args_tuple_add_2 _ _)
   (tuple_addW2 t b vs.toArray ws.toArray n n2 dd wM sl lT (by simpa using hv) (by simpa using hw) (by rw[List.size_toArray,List.size_toArray];exact lR)) ⟨ho,fj,?_⟩
  rw[e];exact h2 hw
noncomputable def c7(n d:Nat):Option Int->Nat
 | none=>d
 | some v=>if v<0 then(v+(n:Int)).toNat else min v.toNat n
theorem qA(n d:Nat):c7 n d none=d:=rfl
theorem jN(n d k:Nat):c7 n d (some (k:Int))=min k n:=by
 show (if (k:Int)<0 then((k:Int)+(n:Int)).toNat else min (k:Int).toNat n)=min k n
 rw[if_neg (by lia),Int.toNat_natCast]
end
end _H
namespace _L
open PySem PySem.Spec PyProof.Rows
noncomputable abbrev TO:=St->Hp->(Option Int->Hp->Prop)->Prop
noncomputable def PO(X:Cx)(e:Option Expr)(t:TO):Prop :=
 ∀(pins:List (Addr×Obj)) (s:Shared) (σ:St) (H:Hp) (Q:Option Int->Hp->Prop),Inv X pins σ H s->t σ H Q->
  wpAny (model X.prog X.w) X.A (evalPart e X.env) (λu s'=>∃o H',Inv X pins σ H' s'/\IsPart u o/\Q o H') X.xe s
noncomputable def Kh:TO:=λ_ H Q=>Q none H
noncomputable def Kl(t:TE):TO:=λσ H Q=>t σ H λx H1=>∃i,x = .int i/\Q (some i) H1
section
variable{X:Cx}{e:Expr}{te:TE}{lo hi:Option Expr}{tl th:TO}{pos p2:Pos}
theorem c8:PO X none Kh:=by
 intro pins s σ H Q I h;rw[evalPart_none];exact wpAny_pure ⟨none,H,I,.none,h⟩
theorem cy(h:PE X e te):PO X (some e) (Kl te):=by
 intro pins s σ H Q I hw;rw[evalPart_some];refine aL (h pins s σ H _ I hw) λu s1 ⟨x,H1,I1,r1,q1⟩=>?_;obtain⟨i,rfl,q⟩:=q1;obtain⟨t,rfl⟩:=r1;exact⟨some i,H1,I1,.int i t,q⟩
noncomputable def wN(X:Cx)(r:V->Option Int->Option Int->Hp->VK->Prop):Prop :=
 ∀(pins:List (Addr×Obj)) (s:Shared) (σ:St) (H:Hp) (x:V) (v vl vu:Value) (lo hi:Option Int) (sl:Addr) (Q:VK),Inv X pins σ H s->RelV x v->s.heap.IsSliceOf sl vl vu .none->IsPart vl lo->IsPart vu hi->r x lo hi H Q->
  ∃T id,typeLookup (.type T) "__getitem__" = pure (some (.builtin id))/\s.TypeIs v T/\wpAny (model X.prog X.w) X.A (getItem v (.ref sl)) (EP X pins σ Q) X.xe s
noncomputable def Km(r:V->Option Int->Option Int->Hp->VK->Prop)(te:TE)(tl th:TO):TE:=λσ H Q=>te σ H λx H1=>tl σ H1 λl H2=>th σ H2 λu H3=>r x l u H3 Q
theorem cK{r:V->Option Int->Option Int->Hp->VK->Prop}(hr:wN X r)(he:PE X e te)(hl:PO X lo tl)(hu:PO X hi th):PE X (.Subscript e (.Slice lo hi none p2) pos) (Km r te tl th):=by
 intro pins s σ H Q I h;refine Subscript_ (aL (he pins s σ H _ I h) λv s1 ⟨x,H1,I1,r1,q1⟩=>?_);refine wpAny_Slice (aL (hl pins s1 σ H1 _ I1 q1) λvl s2 ⟨l,H2,I2,pl,q2⟩=>aL (hu pins s2 σ H2 _ I2 q2) λvu s3 ⟨u,H3,I3,pu,q3⟩=>?_);rw[evalPart_none];refine wpAny_pure ?_;have I4:Inv X pins σ H3 { s3 with heap:=s3.heap.push { cls:=.type "slice",data:=.fields #[vl,vu,.none] }}:=I3.kept (t':=s3.toks) λb ob q=>Heap.get?_push_of_some _ q;obtain⟨T,id,hT,ht,hg⟩:=hr pins { s3 with heap:=s3.heap.push { cls:=.type "slice",data:=.fields #[vl,vu,.none] }} σ H3 x v vl vu l u s3.heap.objs.size Q I4 r1 (Heap.IsSliceOf.new ..) pl pu q3
 show wpAny (model X.prog X.w) X.A (subscriptTail e (.Slice lo hi none p2) v (.ref s3.heap.objs.size)) (EP X pins σ Q) X.xe { s3 with heap:=s3.heap.push { cls:=.type "slice",data:=.fields #[vl,vu,.none] }};exact tail_any (ops:=[.ref s3.heap.objs.size,v]) ht hT hg (by with_unfolding_all rfl)
noncomputable def cW(xs:List V)(lo hi:Option Int):List V:=(xs.drop (_H.c7 xs.length 0 lo)).take (_H.c7 xs.length xs.length hi - _H.c7 xs.length 0 lo)
theorem Kn(xs:List V)(lo hi:Option Int):(cW xs lo hi).length<=xs.length:=by
 unfold cW;rw[List.length_take,List.length_drop];lia
noncomputable def Ko(K:PySem.W.Frag):R2:=λx y H Q=>∃a b xs ys,x = .ref a/\y = .ref b/\aK K H a xs/\aK K H b ys/\xs≠[]/\xs.length+ys.length<=sizeLine/\
 (ys = []->Q (.ref a) H)/\(ys≠[]->∀p,H p=none->Q (.ref p) (upd H p (.tup (xs++ys))))
theorem Vals.wO{xs:List V}{us:List Value}(r:Vals xs us):us = []↔xs = []:=by
 cases r with
 | nil=>simp
 | cons _ _=>simp
theorem Cs:bU X (binaryOp .Add) (Ko X.K):=by
 intro pins s σ H x y v u Q I rx ry h;obtain⟨a,b,xs,ys,rfl,rfl,ha,hb,hx,hz,q1,q2⟩:=h;cases rx;cases ry;obtain⟨aB,r1,p1,_⟩:=I.tuple ha;obtain⟨cX,r2,p2,_⟩:=I.tuple hb;refine _H.Kg p1 p2 (λz=>hx (r1.wO.mp z)) (λz=>⟨.ref a,H,I,rfl,q1 (r2.wO.mp z)⟩) (λz=>?_) (by rw[← r1.length,← r2.length];exact hz)
 refine⟨.ref s.heap.objs.size,_,I.laid (t':=s.toks) (o:=.tup (xs++ys)) (λb ob q=>Heap.get?_push_of_some _ q) (Nat.le_refl _) ?_,rfl,q2 (λw=>z (r2.wO.mpr w)) _ (I.aG.fresh (Nat.le_refl _))⟩;exact⟨by rw[List.length_append];exact hz,_,r1.append r2,IsTup.new _ _⟩
end
noncomputable def iB(n:Nat)(i:Int):Option Nat:=if 0<=i then(if i<n then some i.toNat else none) else if -(n:Int)<=i then some (i+n).toNat else none
noncomputable def c9{α:Type}(xs:List α)(i:Int):Option α:=(iB xs.length i).bind λj=>xs[j]?
theorem Kp{n:Nat}{i:Int}{j:Nat}(h:iB n i=some j):seqIndex? i n=some j/\j<n/\-(n:Int)<=i/\i<n:=by
 unfold iB at h;by_cases h0:0<=i
 ·rw[if_pos h0] at h;by_cases h1:i<n
  ·rw[if_pos h1] at h;have e:i.toNat=j:=Option.some.inj h;exact⟨by rw[seqIndex_of h0 h1,e],by lia,by lia,h1⟩
  ·rw[if_neg h1] at h;cases h
 ·rw[if_neg h0] at h;by_cases h1 : -(n:Int)<=i
  ·rw[if_pos h1] at h;have e:(i+n).toNat=j:=Option.some.inj h;exact⟨by rw[seqIndex_neg (by lia) h1,e],by lia,h1,by lia⟩
  ·rw[if_neg h1] at h;cases h
theorem wQ{α:Type}{xs:List α}{i:Int}{v:α}(h:c9 xs i=some v):∃j,seqIndex? i xs.length=some j/\xs[j]? = some v/\j<xs.length/\-(xs.length:Int)<=i/\i<xs.length:=by
 unfold c9 at h;cases e:iB xs.length i with
 | none=>rw[e] at h;cases h
 | some j =>
  rw[e] at h;obtain⟨h1,h2,h3,h4⟩:=Kp e;exact⟨j,h1,h,h2,h3,h4⟩
theorem gi{α:Type}{xs:List α}{j:Nat}{v:α}(h:xs[j]? = some v):c9 xs (j:Int)=some v:=by
 have hj:j<xs.length:=(List.getElem?_eq_some_iff.mp h).1;have e:iB xs.length (j:Int)=some j:=by
  unfold iB;rw[if_pos (by lia),if_pos (by lia)];simp
 unfold c9;rw[e];exact h
theorem Kq{α:Type}(xs:List α)(v:α):c9 (xs++[v]) (-1)=some v:=by
 have hl:(xs++[v]).length=xs.length+1:=by simp
 have e:iB (xs++[v]).length (-1)=some xs.length:=by
  unfold iB;rw[hl,if_neg (by decide),if_pos (by lia)]
  congr 1;lia
 unfold c9;rw[e]
 show (xs++[v])[xs.length]? = some v;simp
noncomputable def Kr(b:Expr):Prop:=∀o i,subscripted b false o i=operate [o,i] (getItem o i)
noncomputable def nI(X:Cx)(r:R2):Prop :=
 ∀(value slice:Expr) (pins:List (Addr×Obj)) (s:Shared) (σ:St) (H:Hp) (x y:V) (v u:Value) (Q:VK),Inv X pins σ H s->RelV x v->RelV y u->r x y H Q->
  subscripted slice false v u=operate [v,u] (getItem v u)->wpAny (model X.prog X.w) X.A (subscriptTail value slice v u) (EP X pins σ Q) X.xe s
noncomputable def qB(X:Cx)(id:String)(r:V->List V->Hp->VK->Prop):Prop :=
 ∀(pins:List (Addr×Obj)) (s:Shared) (σ:St) (H:Hp) (x:V) (xs:List V) (v:Value) (us:List Value) (Q:VK),Inv X pins σ H s->RelV x v->Vals xs us->r x xs H Q->
  wpAny (model X.prog X.w) X.A (call (.builtin id) (v::us)) (EP X pins σ Q) X.xe s
section
variable{X:Cx}{a b:Expr}{ta tb:TE}{pos:Pos}
theorem aC{r:R2}(hr:nI X r)(ha:PE X a ta)(hb:PE X b tb)(hs:Kr b):PE X (.Subscript a b pos) (qo r ta tb):=by
 intro pins s σ H Q I h;exact Subscript_ (wD ha hb I h λv u s2 x y H2 I2 rx ry q=>hr a b pins s2 σ H2 x y v u Q I2 rx ry q (hs _ _))
noncomputable def Ct(K:PySem.W.Frag):R2:=λx y H Q=>∃p xs i v,x = .ref p/\y = .int i/\ao K H p xs/\c9 xs i=some v/\Q v H
noncomputable def Ks(K:PySem.W.Frag):R2:=λx y H Q=>∃p xs i v,x = .ref p/\y = .int i/\aK K H p xs/\c9 xs i=some v/\Q v H
noncomputable def Ku:R2:=λx y H Q=>∃z i c,x = .str z/\y = .int i/\z.length<=sizeLine/\c9 z.cps.toList i=some c/\Q (.str ⟨#[c]⟩) H
theorem aW:nI X (Ct X.K):=by
 intro value slice pins s σ H x y v u Q I rx ry h hs;obtain⟨p,xs,i,z,rfl,rfl,hq,he,q⟩:=h;cases rx;obtain⟨t,rfl⟩:=ry;obtain⟨aB,r,pl,hz⟩:=I.list hq;obtain⟨j,h1,h2,h3,h4,h5⟩:=wQ he;obtain⟨w,ew,wR⟩:=r.get h2;have hl:=r.length;have hn:=nk;have fin:EP X pins σ Q w s:=⟨z,H,I,wR,q⟩;by_cases h0:0<=i
 ·have hj:i.toNat=j:=by
   rw[seqIndex_of h0 h5] at h1;exact Option.some.inj h1
  exact item_listR pl.isList h0 (by lia) (by rw[hj];simpa using ew) fin hs
 ·have hj:(i+(aB.toArray.size:Int)).toNat=j:=by
   rw[seqIndex_neg (by lia) h4] at h1
   rw[List.size_toArray,← hl];exact Option.some.inj h1
  exact subscriptTail_builtinR (x:=w) pl.isList.typeIs slot_list_getitem.lookup
   (wpAny_getItem_list_neg (Q:=λr s'=>r=w/\EP X pins σ Q r s') pl.isList (by lia) (by rw[List.size_toArray] <;> lia) (by lia) (by rw[hj];simpa using ew) ⟨rfl,fin⟩) hs
theorem bE:nI X (Ks X.K):=by
 intro value slice pins s σ H x y v u Q I rx ry h hs;obtain⟨p,xs,i,z,rfl,rfl,hq,he,q⟩:=h;cases rx;obtain⟨t,rfl⟩:=ry;obtain⟨aB,r,pl,hz⟩:=I.tuple hq;obtain⟨j,h1,h2,h3,h4,h5⟩:=wQ he;obtain⟨w,ew,wR⟩:=r.get h2;have hl:=r.length;have hn:=nk;have fin:EP X pins σ Q w s:=⟨z,H,I,wR,q⟩;exact subscriptTail_builtinR (x:=w) pl.typeIs slot_tuple_getitem.lookup
  (getItem_tuple (j:=j) (Q:=λr s'=>r=w/\EP X pins σ Q r s') pl (by lia) (by lia) (by rw[List.size_toArray,← hl];exact h1) (by simpa using ew) ⟨rfl,fin⟩) hs
theorem wU:nI X Ku:=by
 intro value slice pins s σ H x y v u Q I rx ry h hs;obtain⟨z,i,c,rfl,rfl,hz,he,q⟩:=h;obtain⟨t,rfl⟩:=rx;obtain⟨t',rfl⟩:=ry;obtain⟨j,h1,h2,h3,h4,h5⟩:=wQ he;have hl:z.cps.toList.length=z.length:=by simp[Str.length]
 rw[hl] at h1 h4 h5;have hn:=nk;exact tail_any (typeIs_str s z t) slot_str_getitem.lookup (getItem_str (c:=c) (by
  have e1:decide (i < -(2 ^ 63:Int))=false:=decide_eq_false (by lia)
  have e2:decide (i ≥ 2 ^ 63)=false:=decide_eq_false (by lia)
  rw[e1,e2,Bool.or_false]) (by rw[h1];simpa using h2) ⟨.str ⟨#[c]⟩,H,I.tok _,⟨_,rfl⟩,q⟩) hs
noncomputable def Vq:V->V->V->Hp->(Hp->Prop)->Prop:=λo i v H Q=>∃p xs k j,o = .ref p/\i = .int k/\H p=some (.lst xs)/\iB xs.length k=some j/\Q (upd H p (.lst (xs.set j v)))
theorem Kv(lo hi:Option Int)(n:Nat):(sliceBounds lo hi none n).1=((_H.c7 n 0 lo:Nat):Int)/\(sliceBounds lo hi none n).2.1=((_H.c7 n n hi:Nat):Int)/\(sliceBounds lo hi none n).2.2=1:=by
 refine⟨?_,?_,rfl⟩
 ·cases lo with
  | none=>simp[sliceBounds,_H.c7]
  | some i =>
   simp only[sliceBounds,_H.c7,Option.getD_none,show (1:Int) > 0 by decide,if_true]
   by_cases h:i<0
   ·simp only[h,if_true] <;> lia
   ·simp only[h,if_false] <;> lia
 ·cases hi with
  | none=>simp[sliceBounds,_H.c7]
  | some i =>
   simp only[sliceBounds,_H.c7,Option.getD_none,show (1:Int) > 0 by decide,if_true]
   by_cases h:i<0
   ·simp only[h,if_true] <;> lia
   ·simp only[h,if_false] <;> lia
theorem Kw(aB:List Value)(lo hi:Option Int):slicePick aB.toArray lo hi none=((aB.drop (_H.c7 aB.length 0 lo)).take (_H.c7 aB.length aB.length hi - _H.c7 aB.length 0 lo)).toArray:=by
 obtain⟨h1,h2,h3⟩:=Kv lo hi aB.toArray.size;unfold slicePick;rw[h1,h2,h3];simp only[sliceRange_one,pick_run,List.size_toArray] <;> rfl
noncomputable def Ky(K:PySem.W.Frag):V->Option Int->Option Int->Hp->VK->Prop:=λx lo hi H Q=>∃a xs,x = .ref a/\ao K H a xs/\∀p,H p=none->Q (.ref p) (upd H p (.lst (cW xs lo hi)))
theorem dP:wN X (Ky X.K):=by
 intro pins s σ H x v vl vu lo hi sl Q I rx hs pl pu h;obtain⟨a,xs,rfl,hx,q⟩:=h;cases rx;obtain⟨aB,r,ht,hz⟩:=I.list hx;have hlen:=r.length;refine⟨"list",_,slot_list_getitem.lookup,ht.isList.typeIs,?_⟩;refine wpAny_getItem_list_slice ht.isList hs pl pu .none (by simp) ?_ (by rw[List.size_toArray] <;> lia)
 rw[Kw,← hlen];refine⟨.ref s.heap.objs.size,_,I.laid (t':=s.toks) (o:=.lst (cW xs lo hi)) (λb ob q=>Heap.get?_push_of_some _ q) (Nat.le_refl _) ?_,rfl,q _ (I.aG.fresh (Nat.le_refl _))⟩;exact⟨Nat.le_trans (Kn xs lo hi) hz,_,0,(r.drop (_H.c7 xs.length 0 lo)).take (_H.c7 xs.length xs.length hi - _H.c7 xs.length 0 lo),Heap.get?_push_size _ rfl⟩
noncomputable def iC:V->Bool
 | .aF=>true
 | .bl _=>true
 | .int _=>true
 | .str _=>true
 | _=>false
noncomputable def fq:V->V->Bool
 | .aF,.aF=>true
 | .bl a,.bl b=>a == b
 | .bl a,.int b=>(if a then 1 else 0) == b
 | .int a,.bl b=>a == (if b then 1 else 0)
 | .int a,.int b=>a == b
 | .str a,.str b=>a == b
 | _,_=>false
theorem qC{A:Around}{s:Shared}{y x:V}{u v:Value}(ry:RelV y u)(rx:RelV x v)(fy:iC y=true)(fx:iC x=true):SeqAt.EqAt A s u v (fq y x):=by
 cases y with
 | aF =>
  cases ry;cases x with
  | aF=>cases rx;exact SeqAt.EqAt.same _
  | bl b=>cases rx;exact SeqAt.EqAt.none_bool b
  | int b=>obtain⟨t,rfl⟩:=rx;exact SeqAt.EqAt.none_int b t
  | str b=>obtain⟨t,rfl⟩:=rx;exact SeqAt.EqAt.none_str b t
  | _=>exact absurd (show false=true from fx) Bool.false_ne_true
 | bl a =>
  cases ry;cases x with
  | aF=>cases rx;exact SeqAt.EqAt.bool_none a
  | bl b=>cases rx;exact SeqAt.EqAt.bool_bool a b
  | int b=>obtain⟨t,rfl⟩:=rx;exact SeqAt.EqAt.bool_int a b t
  | str b=>obtain⟨t,rfl⟩:=rx;exact SeqAt.EqAt.bool_str a b t
  | _=>exact absurd (show false=true from fx) Bool.false_ne_true
 | int a =>
  obtain⟨t',rfl⟩:=ry;cases x with
  | aF=>cases rx;exact SeqAt.EqAt.int_none a t'
  | bl b=>cases rx;exact SeqAt.EqAt.int_bool a t' b
  | int b=>obtain⟨t,rfl⟩:=rx;exact SeqAt.EqAt.int_int a t' b t
  | str b=>obtain⟨t,rfl⟩:=rx;exact SeqAt.EqAt.int_str a t' b t
  | _=>exact absurd (show false=true from fx) Bool.false_ne_true
 | str a =>
  obtain⟨t',rfl⟩:=ry;cases x with
  | aF=>cases rx;exact SeqAt.EqAt.str_none a t'
  | bl b=>cases rx;exact SeqAt.EqAt.str_bool a t' b
  | int b=>obtain⟨t,rfl⟩:=rx;exact SeqAt.EqAt.str_int a t' b t
  | str b=>obtain⟨t,rfl⟩:=rx;exact SeqAt.EqAt.str_str a t' b t
  | _=>exact absurd (show false=true from fx) Bool.false_ne_true
 | _=>exact absurd (show false=true from fy) Bool.false_ne_true
noncomputable def i6(x:V)(u:Value):Bool:=match u with
 | .none=>fq .aF x
 | .bool b=>fq (.bl b) x
 | .int i _=>fq (.int i) x
 | .str z _=>fq (.str z) x
 | _=>false
theorem Cu{x y:V}{u:Value}(r:RelV y u)(f:iC y=true):i6 x u=fq y x:=by
 cases y with
 | aF=>cases r;rfl
 | bl b=>cases r;rfl
 | int i=>obtain⟨t,rfl⟩:=r;rfl
 | str z=>obtain⟨t,rfl⟩:=r;rfl
 | _=>exact absurd (show false=true from f) Bool.false_ne_true
theorem wV{x:V}:∀ {xs:List V} {us:List Value},Vals xs us->xs.all iC=true->us.any (i6 x)=xs.any λy=>fq y x
 | _,_,.nil,_=>rfl
 | y::xs,u::us,.cons r t,f=>by
  rw[List.all_cons,Bool.and_eq_true] at f;rw[List.any_cons,List.any_cons,Cu r f.1,wV t f.2]
theorem wW{A:Around}{s:Shared}{x:V}{v:Value}(rx:RelV x v)(fx:iC x=true):∀ {xs:List V} {us:List Value},Vals xs us->xs.all iC=true->∀u∈us,SeqAt.EqAt A s u v (i6 x u)
 | _,_,.nil,_=>λu hu=>by cases hu
 | y::xs,u::us,.cons r t,f=>λu' hu=>by
  rw[List.all_cons,Bool.and_eq_true] at f;rcases List.mem_cons.mp hu with rfl | hu
  ·rw[Cu r f.1];exact qC r rx f.1 fx
  ·exact wW rx fx t f.2 u' hu
noncomputable def Cv(x:V)(xs:List V):Bool:=xs.any λy=>fq y x
noncomputable def Kz(K:PySem.W.Frag)(neg:Bool):R2:=λx y H Q=>∃p xs,y = .ref p/\(ao K H p xs\/aK K H p xs)/\iC x=true/\xs.all iC=true/\Q (.bl (if neg then !Cv x xs else Cv x xs)) H
theorem KA:bU X (compareOp .NotIn) (Kz X.K true):=by
 intro pins s σ H x y v u Q I rx ry h;obtain⟨p,xs,rfl,hq,fx,fs,q⟩:=h;cases ry;rcases hq with hq | hq
 ·obtain⟨aB,r,pl,hz⟩:=I.list hq;refine SeqAt.notIn_listAt (i6 x) pl.isList (λw hw=>wW rx fx r fs w (by simpa using hw)) ⟨.bl _,H,I,rfl,?_⟩
  rw[show aB.toArray.any (i6 x)=aB.any (i6 x) by simp,wV r fs]
  exact q
 ·obtain⟨aB,r,pl,hz⟩:=I.tuple hq;refine SeqAt.notIn_tupleAt (i6 x) pl (λw hw=>wW rx fx r fs w (by simpa using hw)) ⟨.bl _,H,I,rfl,?_⟩
  rw[show aB.toArray.any (i6 x)=aB.any (i6 x) by simp,wV r fs]
  exact q
theorem KC:bU X (compareOp .NotIn) (λx y H Q=>∃i j,x = .str i/\y = .str j/\Q (.bl (!(!(Builtin.Str.occurrences j i 0 j.length 1).isEmpty))) H):=by
 intro pins s σ H x y v u Q I rx ry h;obtain⟨i,j,rfl,rfl,q⟩:=h;obtain⟨t,rfl⟩:=rx;obtain⟨t',rfl⟩:=ry;exact notIn_str ⟨.bl _,H,I,rfl,q⟩
theorem eg:gP X (.builtin "len") (λxs H Q=>∃p ys,xs = [.ref p]/\(ao X.K H p ys\/aK X.K H p ys)/\Q (.int ys.length) H):=by
 intro pins s σ H xs us Q I r h;obtain⟨p,ys,rfl,hq,q⟩:=h;obtain⟨u,rfl,rx⟩:=vals1 r;cases rx;have hn:=nk;rcases hq with hq | hq
 ·obtain⟨aB,r',pl,hz⟩:=I.list hq;have hlen:=r'.length;exact Calls.call_len_list pl.isList (by simp only[List.size_toArray] <;> lia) ⟨.int ys.length,H,I.tok _,⟨s.toks+1,by rw[List.size_toArray,hlen]⟩,q⟩
 ·obtain⟨aB,r',pl,hz⟩:=I.tuple hq;have hlen:=r'.length;exact len_tuple pl (by simp only[List.size_toArray] <;> lia) ⟨.int ys.length,H,I.tok _,⟨s.toks+1,by rw[List.size_toArray,hlen]⟩,q⟩
theorem nJ:gP X (.builtin "len") (λxs H Q=>∃z,xs = [.str z]/\z.length<=sizeLine/\Q (.int z.length) H):=by
 intro pins s σ H xs us Q I r h;obtain⟨z,rfl,hz,q⟩:=h;obtain⟨u,rfl,t,rfl⟩:=vals1 r;have hn:=nk;exact len_str (by lia) ⟨.int z.length,H,I.tok _,⟨_,rfl⟩,q⟩
theorem kM:gP X (.type "tuple") (λxs H Q=>∃p ys,xs = [.ref p]/\((ao X.K H p ys/\∀l,H l=none->Q (.ref l) (upd H l (.tup ys)))\/(aK X.K H p ys/\Q (.ref p) H))):=by
 intro pins s σ H xs us Q I r h;obtain⟨p,ys,rfl,h⟩:=h;obtain⟨u,rfl,rx⟩:=vals1 r;cases rx;rcases h with⟨hq,q⟩ | ⟨hq,q⟩
 ·obtain⟨aB,r',pl,hz⟩:=I.list hq;have hlen:=r'.length;refine call_tuple_list pl.isList (λh' kp=>?_) (by simp only[List.size_toArray] <;> lia)
  have I1:Inv X pins σ H { s with heap:=h' }:=I.kept (t':=s.toks) kp;have I2:Inv X pins σ (upd H h'.objs.size (.tup ys)) { s with heap:=h'.push { cls:=.type "tuple",data:=.seq aB.toArray }} :=
   I1.laid (t':=s.toks) (λb o e=>Heap.get?_push_of_some _ e) (Nat.le_refl _) (show cR X.prog X.w _ _ _ (.tup ys) from⟨hz,aB,r',IsTup.new _ _⟩)
  exact⟨.ref h'.objs.size,_,I2,rfl,q _ (I1.aG.fresh (Nat.le_refl _))⟩
 ·obtain⟨aB,r',pl,hz⟩:=I.tuple hq;exact call_tuple_same pl ⟨.ref p,H,I,rfl,q⟩
noncomputable def wX(K:PySem.W.Frag)(T:String)(x:V)(H:Hp):Prop:=match x with
 | .str _=>T = "str"
 | .int _=>T = "int"
 | .ref p=>(T = "list"/\∃xs,ao K H p xs)\/(T = "tuple"/\∃o,K.lookup p=some o/\o.cls = .type "tuple"/\o.dict=none)\/
   (T = "dict"/\((∃br,H p=some (.dK br))\/∃br,H p=some (.dT br)))\/(T = "set"/\∃S n,H p=some (.set S n))
 | _=>False
theorem Cw{pins:List (Addr×Obj)}{σ:St}{H:Hp}{s:Shared}{T:String}{x:V}{v:Value}(I:Inv X pins σ H s)(r:RelV x v)(ty:wX X.K T x H) :
  s.TypeIs v T/\∀a,v = .ref a->∃ob,s.heap.get? a=some ob/\ob.dict=none:=by
 cases x with
 | str z =>
  obtain⟨t,rfl⟩:=r;cases (show T = "str" from ty);exact⟨typeIs_str s z t,λ_ e=>nomatch e⟩
 | int i =>
  obtain⟨t,rfl⟩:=r;cases (show T = "int" from ty);exact⟨typeIs_int s i t,λ_ e=>nomatch e⟩
 | ref p =>
  cases r;rcases ty with⟨rfl,xs,hq⟩ | ⟨rfl,o,hk,hc,hd⟩ | ⟨rfl,hk⟩ | ⟨rfl,S,n,hk⟩
  ·obtain⟨aB,_,pl,_⟩:=I.list hq;refine⟨pl.isList.typeIs,λa e=>?_⟩;cases e;obtain⟨o,n,e,c,hd,_⟩:=pl;exact⟨o,e,hd⟩
  ·refine⟨⟨o,I.cu p o hk,hc⟩,λa e=>?_⟩;cases e;exact⟨o,I.cu _ o hk,hd⟩
  ·have z:∃o,s.heap.get? p=some o/\o.ExactDict:=by
    rcases hk with⟨br,hk⟩ | ⟨br,hk⟩
    ·obtain⟨_,_,_,_,o,_,_,e,ex,_⟩:=I.aG p _ hk;exact⟨o,e,ex⟩
    ·obtain⟨_,_,_,_,o,_,_,e,ex,_⟩:=I.aG p _ hk;exact⟨o,e,ex⟩
   obtain⟨o,e,ex⟩:=z;refine⟨⟨o,e,ex.1⟩,λa e2=>?_⟩;cases e2;exact⟨o,e,ex.2.1⟩
  ·obtain⟨o,_,_,_,e,ex,_⟩:=I.aG p _ hk;refine⟨⟨o,e,ex.1⟩,λa e2=>?_⟩;cases e2;exact⟨o,e,ex.2.1⟩
 | _=>exact False.elim ty
noncomputable def KG(K:PySem.W.Frag)(T:String)(r:V->List V->Hp->VK->Prop)(to:TE):TE:=λσ H Q=>to σ H λx H1=>wX K T x H1/\r x [] H1 Q
noncomputable def KH(K:PySem.W.Frag)(T:String)(r:V->List V->Hp->VK->Prop)(to:TE)(t:TA):TE:=λσ H Q=>to σ H λx H1=>wX K T x H1/\t σ H1 λxs H2=>r x xs H2 Q
variable{o e:Expr}{es:List Expr}{to:TE}{t:TA}{name:Str}{apos dQ:Pos}{T id:String}{r:V->List V->Hp->VK->Prop}
theorem KI(pa:PlainAttrs T)(slot:Slot T name id)(wY:typeOf (.builtin id)=pure (.type "method_descriptor"))(hm:qB X id r)(ho:PE X o to)
  (wZ:attributeBase o name X.env (eval o X.env)=eval o X.env:=by rfl) (w4:(apos.endLine == dQ.line)=true:=by rfl):PE X (.Call (.Attribute o name apos) [] [] dQ) (KG X.K T r to):=by
 intro pins s σ H Q I h;refine wpAny_Call_method0_late wZ w4 (aL (ho pins s σ H _ I h) λv s1 ⟨x,H1,I1,r1,ty,q1⟩=>?_);obtain⟨h1,h2⟩:=Cw I1 r1 ty;exact⟨T,id,pa,slot,wY,h1,h2,Calls.callWith_builtin rfl (PySem.evalArgs_none (hm pins s1 σ H1 x [] v [] Q I1 r1 .nil q1))⟩
theorem gj(pa:PlainAttrs T)(slot:Slot T name id)(wY:typeOf (.builtin id)=pure (.type "method_descriptor"))(hm:qB X id r)(ho:PE X o to)(ha:PA X (e::es) t)
  (wZ:attributeBase o name X.env (eval o X.env)=eval o X.env:=by rfl)
  (KJ:((backTo dQ (starEach (e::es) X.env)).all (λx => !x.1) && (backToKw dQ (keywordEach [] X.env)).all (λx=>x.1.isSome)
   && decide ((e::es).length+([]:List Keyword).length+(if ([]:List Keyword).isEmpty then 0 else 1)<30))=true:=by rfl)
  (w4:(apos.endLine == dQ.line)=true:=by rfl) (hs:starEach (e::es) X.env=(false,eval e X.env)::starEach es X.env:=by rfl) (KL:(backTo dQ (starEach es X.env)).any (·.1)=false:=by rfl) :
  PE X (.Call (.Attribute o name apos) (e::es) [] dQ) (KH X.K T r to t):=by
 intro pins s σ H Q I h;refine wpAny_Call_method_late wZ KJ w4 rfl (aL (ho pins s σ H _ I h) λv s1 ⟨x,H1,I1,r1,ty,q1⟩=>?_);obtain⟨h1,h2⟩:=Cw I1 r1 ty;refine⟨T,id,pa,slot,wY,h1,h2,?_⟩;have hA:=ha dQ pins s1 σ H1 _ I1 q1;rw[hs] at hA ⊢;refine Calls.callWith_builtin (by show (false || (backTo dQ (starEach es X.env)).any (·.1))=false;rw[KL] <;> rfl) (Calls.evalArgs_plain ?_)
 exact aL hA λus s2 ⟨vs,H2,I2,r2,q2⟩=>hm pins s2 σ H2 x vs v us Q I2 r1 r2 q2
end
noncomputable def Cy(X:Cx)(id:String)(r:V->List V->Hp->VK->Prop):Prop :=
 ∀(pins:List (Addr×Obj)) (s:Shared) (σ:St) (H:Hp) (x:V) (xs:List V) (v:Value) (us:List Value) (Q:VK),Inv X pins σ H s->RelV x v->Vals xs us->r x xs H Q->
  wpAny (model X.prog X.w) X.A (call (.builtin id) (v::us)) (EP X pins σ Q) X.xe s
theorem Vals.one:∀ {x:V} {us:List Value},Vals [x] us->∃u,us = [u]/\RelV x u
 | _,_,.cons r .nil=>⟨_,rfl,r⟩
theorem Vals.zero:∀ {us:List Value},Vals [] us->us = []
 | _,.nil=>rfl
theorem Vals.reverse{xs:List V}{us:List Value}(h:Vals xs us):Vals xs.reverse us.reverse:=by
 induction h with
 | nil=>exact .nil
 | cons r t ih=>rw[List.reverse_cons,List.reverse_cons];exact Vals.append ih (.cons r .nil)
section
variable{X:Cx}{pins:List (Addr×Obj)}{σ:St}{H:Hp}{s:Shared}{l b:Addr}{xs ys zs:List V}
theorem Inv.Cz{aB its':List Value}{n:Nat}{f:Array Value->Array Value}{t':Nat}(I:Inv X pins σ H s)(hH:H l=some (.lst xs))
  (e:s.heap.get? l=some { cls:=.type "list",data:=.seq aB.toArray n }) (hf:f aB.toArray=its'.toArray) (hv:Vals ys its') (hz:ys.length<=sizeLine) :
  Inv X pins σ (upd H l (.lst ys)) { s with heap:=s.heap.update l (Obj.mapSeq f),toks:=t' }:=by
 have q:=PySem.IsL.update e f;rw[hf] at q;refine I.write (x:=l) (e:=l) (by rw[hH];exact trivial) (.inl rfl) (λb' u hb hu=>(Heap.get?_update_other s.heap (Obj.mapSeq f) (Ne.symm hb)).trans hu) ⟨_,q⟩ ?_
 exact⟨hz,its',_,hv,q⟩
theorem Inv.KN{aB:List Value}{t':Nat}(I:Inv X pins σ H s)(hv:Vals ys aB)(hz:ys.length<=sizeLine) :
  Inv X pins σ (upd H s.heap.objs.size (.lst ys)) { s with heap:=s.heap.push { cls:=.type "list",data:=.seq aB.toArray },toks:=t' } :=
 I.laid (λ_ _ q=>Heap.get?_push_of_some _ q) (Nat.le_refl _) ⟨hz,aB,0,hv,Heap.get?_push_size _ rfl⟩
theorem Inv.fresh(I:Inv X pins σ H s):H s.heap.objs.size=none:=I.aG.fresh (Nat.le_refl _)
theorem Inv.qD(I:Inv X pins σ H s)(hH:H l=some (.lst xs)):xs.length<=sizeLine/\∃(aB:List Value) (n:Nat),Vals xs aB/\xs.length=aB.length/\s.heap.get? l=some { cls:=.type "list",data:=.seq aB.toArray n }:=by
 obtain⟨z,aB,n,r,e⟩:=I.aG l _ hH;exact⟨z,aB,n,r,r.length,e⟩
end
section
variable{X:Cx}
noncomputable def KO:V->List V->Hp->VK->Prop:=λx vs H Q=>∃l xs y,x = .ref l/\vs = [y]/\H l=some (.lst xs)/\xs.length<sizeLine/\Q .aF (upd H l (.lst (xs++[y])))
theorem i7:Cy X "list.append" KO:=by
 intro pins s σ H x vs v us Q I rx rv h;obtain⟨l,xs,y,rfl,rfl,hH,hz,q⟩:=h;cases rx;obtain⟨u,rfl,ru⟩:=rv.one;obtain⟨z,aB,n,r,hl,e⟩:=I.qD hH;refine call_meets F.slot_list_append ⟨_,e,rfl⟩ F.entry_list_append (F.args_list_append_2 _ _) (PySem.list_append l aB.toArray n u (by rw[List.size_toArray];lia)) ⟨e,?_⟩
 refine⟨.aF,_,I.Cz (its':=aB++[u]) hH e (by simp) (r.append (.cons ru .nil)) ?_,rfl,q⟩
 rw[List.length_append,List.length_singleton];lia
noncomputable def Vr:V->List V->Hp->VK->Prop:=λx vs H Q=>∃l b xs zs,x = .ref l/\vs = [.ref b]/\H l=some (.lst xs)/\H b=some (.lst zs)/\xs.length+zs.length<=sizeLine/\Q .aF (upd H l (.lst (xs++zs)))
noncomputable def Vs:V->List V->Hp->VK->Prop:=λx vs H Q=>∃l xs y,x = .ref l/\vs = []/\H l=some (.lst xs)/\xs[xs.length - 1]? = some y/\Q y (upd H l (.lst xs.dropLast))
noncomputable def KP:V->List V->Hp->VK->Prop:=λx vs H Q=>∃l xs,x = .ref l/\vs = []/\H l=some (.lst xs)/\Q .aF (upd H l (.lst xs.reverse))
theorem KQ:Cy X "list.reverse" KP:=by
 intro pins s σ H x vs v us Q I rx rv h;obtain⟨l,xs,rfl,rfl,hH,q⟩:=h;cases rx;have KR:=rv.zero;subst KR;obtain⟨z,aB,n,r,hl,e⟩:=I.qD hH;refine call_meets F.slot_list_reverse ⟨_,e,rfl⟩ F.entry_list_reverse (F.args_list_reverse_1 _) (AutoSeq1.list_reverse_list_0 l aB.toArray n (by rw[List.size_toArray];lia)) ⟨e,?_⟩
 refine⟨.aF,_,I.Cz (its':=aB.reverse) hH e (by simp) r.reverse ?_,rfl,q⟩
 rw[List.length_reverse];lia
noncomputable def Vt:V->List V->Hp->VK->Prop:=λx vs H Q=>∃l xs,x = .ref l/\vs = []/\H l=some (.lst xs)/\Q .aF (upd H l (.lst []))
noncomputable def KS:R2:=λx y H Q=>∃l b xs zs,x = .ref l/\y = .ref b/\H l=some (.lst xs)/\H b=some (.lst zs)/\xs.length+zs.length<=sizeLine/\∀p,H p=none->Q (.ref p) (upd H p (.lst (xs++zs)))
theorem dD:bU X (binaryOp .Add) KS:=by
 intro pins s σ H x y v u Q I rx ry h;obtain⟨l,b,xs,zs,rfl,rfl,hH,hB,hz,q⟩:=h;cases rx;cases ry;obtain⟨z,aB,n,r,hl,e⟩:=I.qD hH;obtain⟨z2,cX,n2,r2,fT,e2⟩:=I.qD hB;refine PySem.P.add_list e e2 ?_ (by rw[List.size_toArray,List.size_toArray];lia)
 have ea:aB.toArray++cX.toArray=(aB++cX).toArray:=by simp
 rw[ea];exact⟨.ref _,_,I.KN (t':=s.toks) (r.append r2) (by rw[List.length_append];lia),rfl,q _ I.fresh⟩
noncomputable def Vu:R2:=λx y H Q=>∃l k xs,x = .ref l/\y = .int k/\H l=some (.lst xs)/\-(2 ^ 63)<=k/\k<2 ^ 63/\xs.length*k.toNat<=sizeLine/\
 ∀p,H p=none->Q (.ref p) (upd H p (.lst (List.replicate k.toNat xs).flatten))
end
section
variable{prog:Program}{w:World}{A:Around}{E:Value->Shared->Prop}{s:Shared}
end
section
variable{X:Cx}
end
section
variable{κ:Type}[DecidableEq κ]
noncomputable def CB(br:List (κ×V))(k:κ):Option V:=(br.find? λkv=>decide (kv.1=k)).map (·.2)
noncomputable def putK(br:List (κ×V))(k:κ)(v:V):List (κ×V) :=
 if (br.any λkv=>decide (kv.1=k))=true then br.map (λkv=>if kv.1=k then(kv.1,v) else kv) else br++[(k,v)]
end
section
variable{P:Program}{w:World}{H:Hp}{h:Heap}{a:Addr}
end
noncomputable def qE(H:Hp)(a:Addr)(y:V)(r:Option V):Prop :=
 (∃br k,Rd H a (.dK br)/\y=kV k/\r=CB br k)\/∃br k b,Rd H a (.dT br)/\y = .ref b/\H b=some (.tup (k.map kV))/\r=CB br k
noncomputable def KU(H:Hp)(a:Addr)(y v:V)(H':Hp):Prop :=
 (∃br k,H a=some (.dK br)/\y=kV k/\br.length<sizeLine/\H' = upd H a (.dK (putK br k v)))\/
 ∃br k b,H a=some (.dT br)/\y = .ref b/\H b=some (.tup (k.map kV))/\br.length<sizeLine/\H' = upd H a (.dT (putK br k v))
section
variable{X:Cx}{pins:List (Addr×Obj)}{σ:St}{H:Hp}{s:Shared}{a:Addr}{y v:V}{u r:Value}{o:Option V}{A:Around}{E:Value->Shared->Prop}
end
section
variable{X:Cx}{pins:List (Addr×Obj)}{σ:St}{H:Hp}{s:Shared}{a:Addr}{br:List (Key×V)}{k:Key}{u:Value}{A:Around}{E:Value->Shared->Prop}
end
noncomputable def Vv(td ty:TE):TE:=λσ H Q=>td σ H λx H1=>ty σ H1 λy H2=>∃a v,x = .ref a/\qE H2 a y (some v)/\Q v H2
noncomputable def Vw(ty td:TE):TE:=λσ H Q=>ty σ H λy H1=>td σ H1 λx H2=>∃a o,x = .ref a/\qE H2 a y o/\Q (.bl o.isSome) H2
noncomputable def Vx(ty td:TE):TE:=λσ H Q=>ty σ H λy H1=>td σ H1 λx H2=>∃a o,x = .ref a/\qE H2 a y o/\Q (.bl (!o.isSome)) H2
noncomputable def Vy(td ty tv:TE):TS:=λD σ H=>tv σ H λv H1=>td σ H1 λx H2=>ty σ H2 λy H3=>∃a H4,x = .ref a/\KU H3 a y v H4/\D.nx σ H4
section
variable{X:Cx}{o i e value:Expr}{pos pos' JZ:Pos}{td ty tv:TE}
end
noncomputable def Vz:TE:=λ_ H Q=>∀p,H p=none->Q (.ref p) (upd H p (.dK []))
noncomputable def VA:TE:=λ_ H Q=>∀p,H p=none->Q (.ref p) (upd H p (.dT []))
section
variable{X:Cx}{pos:Pos}
end
noncomputable def KW(H:Hp)(a:Addr):Prop:=(∃br,Rd H a (.dK br))\/∃br,Rd H a (.dT br)
section
variable{X:Cx}{pins:List (Addr×Obj)}{σ:St}{H:Hp}{s:Shared}{a:Addr}{y d:V}{u r:Value}{o:Option V}{A:Around}{E:Value->Shared->Prop}
end
noncomputable def VB(td ty:TE):TE:=λσ H Q=>td σ H λx H1=>∃a,x = .ref a/\KW H1 a/\ty σ H1 λy H2=>∃o,qE H2 a y o/\Q (o.getD .aF) H2
section
variable{X:Cx}{o e f:Expr}{apos dQ:Pos}{td ty tx:TE}
end
section
variable{X:Cx}{pins:List (Addr×Obj)}{σ:St}{H:Hp}{s:Shared}{a:Addr}{br:List (Key×V)}{A:Around}{E:Value->Shared->Prop}
end
section
variable{X:Cx}{pins:List (Addr×Obj)}{σ:St}{H:Hp}{s:Shared}{a:Addr}{y:V}{u:Value}{A:Around}{E:Value->Shared->Prop}
end
end _L
namespace CC
open PySem PySem.W PySem.Calls PyProof.Rows
theorem KY{P:Params}{h:Heap}:∀(ns:List Int) (vs:List Value),WellAll P h vs (ns.map WData.int)->IntsAre vs ns:=by
 intro ns
 induction ns with
 | nil =>
  intro vs w;rw[List.map_nil] at w;cases w;exact .nil
 | cons n ns ih =>
  intro vs w;rw[List.map_cons] at w;cases w with
  | cons a b =>
   cases a;exact .cons _ _ (ih _ b)
theorem KZ{l:OpenLaw}{n:Nat}(hn:l.most=some n){P:Params}{h:Heap}{args:List WData}{vals:List Value}
  (qF:l.row.toRowW.claim.pre args=true) (w5:WellAll P h vals args) :
  ∃a vs ns,vals = [Value.ref a]/\args = [WData.list (ns.map WData.int)]/\h.get? a=some { cls:=.type "list",data:=.seq vs.toArray }/\IntsAre vs ns/\ns.length<=n:=by
 have dR:WShape.hasAll [] args [.list .int] = true:=(pre_splitW qF).1;have hc:l.pre.holds [] { args:=args }=true:=(pre_splitW qF).2;obtain⟨d,r,rfl,h1,h2⟩:=hasAllW_cons dR;obtain rfl:=hasAllW_nil h2;obtain⟨xs,rfl,h3⟩:=hasW_list h1;obtain⟨ns,rfl⟩:=items_int h3;have hlen:ns.length<=n:=by
  unfold OpenLaw.pre at hc;have h4:(WTm.not (.lt (.lit (.int (n:Int))) (.len (.arg 0)))).holds [] { args:=[.list (ns.map .int)] }=true:=by
   have h4:=(holds_andW hc).1;rw[hn] at h4;exact h4
  have h5:=condW_of h4 (w_not (w_lt w_lit (w_len_list (w_arg rfl))));rw[List.length_map] at h5;refine Nat.le_of_not_lt λq=>?_
  have q':(n:Int)<((ns.length:Nat):Int):=by lia
  first
   | (rw[decide_eq_true q'] at h5;exact absurd h5 (by decide))
   | (simp at h5;lia)
 cases w5 with
 | cons w1 w2 =>
  cases w2;cases w1 with
  | list ho qG=>exact⟨_,_,ns,rfl,rfl,ho,KY ns _ qG,hlen⟩
theorem K0(l:OpenLaw)(args:List WData):l.row.toRowW.claim.post args (.bool true) args=true :=
 postW_of (r:=l.row.toRowW) (X:=(true == true))
  (show WShape.has [] (.bool true) .bool=true by first | rfl | decide | simp[WShape.has,WShape.arms,WShape.armsAll])
  (show (WTm.eq .res (.lit (.bool true))).value [] { args:=args,res:=some (.bool true),after:=args }=some (.bool (true == true)) from w_eq_bool (w_res rfl) w_lit) rfl
theorem K1{l:OpenLaw}{n:Nat}{q:Program}{loose:List Str}{XP:(Str->Option Value)->Heap->Prop}{YP:World->Heap->Prop}{d:DefRec}
  (hn:l.most=some n) (nK:d.params.defaults = [])
  (call:∀(w:World) (aZ a_:Shared) (mg mb:Str->Option Value) (fa:Addr) (o:Obj) (pm cd doc:Value) (a:Addr) (vs:List Value) (ns:List Int),
   Ground q loose [] XP w aZ mg mb a_.heap->YP w a_.heap->
   a_.heap.get? fa=some o->o.data = .func (docDef d.name d.params d.body d.scope pm cd doc)->a_.heap.CodeRec cd d.name->mg d.name=some (.ref fa)->
   a_.heap.get? a=some { cls:=.type "list",data:=.seq vs.toArray }->IntsAre vs ns->ns.length<=n->a_.gens = #[]->
   codeAny (model l.prog w) callerA (.call (.ref fa) ⟨[.ref a],[]⟩) (λr s'=>r = .ok (.ret (.bool true))/\OldK a_.heap s'.heap/\s'.os=a_.os/\AllBare s'.gens) a_) :
  WalkO q loose XP YP l.row.toRowW d [] (λf vs=>PySem.call f vs):=by
 intro w aZ a_ mg mb G Y fa o pm cd doc dV kV ho hd cM hD hmg hg args vals as qF w6 VC w5 VD;obtain rfl:dV = .none:=Dflts.none hD nK;obtain rfl:kV = .none:=Dflts.noKw hD;obtain⟨a,vs,ns,rfl,rfl,w_,hints,hlen⟩:=KZ hn qF w5;refine enter_call (codeAny_mono (call w aZ a_ mg mb fa o pm cd doc a vs ns G Y ho (fd_plain hd) cM hmg w_ hints hlen hg) λr s' hq=>?_);obtain⟨rfl,h2,h3,h4⟩:=hq;exact⟨.inl ⟨.bool true,.bool true,[],rfl,λ_=>rfl,.bool true,K0 l _,λ_=>⟨List.Pairwise.nil,λ_ hm=>(nomatch hm)⟩⟩,h2,h3,h4⟩
section
variable{prog:Program}{w:World}{A:Around}{E:Value->Shared->Prop}{s:Shared}{K:Frag}
noncomputable def ledger(h:Heap)(L d:Addr):List (Addr×Obj):=(List.range h.objs.size).filterMap λa=>if a=L\/a=d then none else(h.get? a).map λo=>(a,o)
end
end CC
namespace _L
open PySem PySem.Spec PyProof.Rows
theorem qH:∀ {vs:List Value} {ns:List Int},IntsAre vs ns->Vals (ns.map V.int) vs
 | _,_,.nil=>.nil
 | _,_,.cons n t h=>.cons ⟨t,rfl⟩ (qH h)
noncomputable def xg(H:Hp):Prop:=∀b,H b=none\/∃o xs,H b=some (.eZ o (.lst xs))
theorem K2{P:Program}{w:World}{K:PySem.W.Frag}{mg mb:Str->Option Value}{CX:eS}{k:Nat}{fa a:Addr}{fd:FuncData}{x:Str}{sp:Sp}{a_:Shared}{vs:List Value}{ns:List Int}
  (KX:K.In a_.heap) (qI:a_.heap.Ns mainGlobals mg) (hb:a_.heap.Ns builtinsNs mb) (K3:∀x:Str,x≠"__name__"->mb x=bootBuiltins x) (K4:a_.heap.NoLimit) (hg:a_.gens = #[])
  (ha:a_.heap.get? a=some { cls:=.type "list",data:=.seq vs.toArray }) (hi:IntsAre vs ns) (hl:ns.length<=sizeLine) (hr:bY k callerA)
  (F:∀base:Heap,K.In base->base.Ns mainGlobals mg->bg P w K mg base CX k fa fd [x] sp) (K5:∀(s:Shared) (u:Value),BindsTo s fd ⟨[u],[]⟩ [(x,u)])
  (gh:∀H:Hp,xg H->ao K H a (ns.map V.int)->sp [.ref a] H (λv _=>v = .bl true) λ_ _ _=>False)
  (xh:∀H e s',CX [] H a_ (λ_ _ _=>False) e s'->False) :
  codeAny (model P w) callerA (.call (.ref fa) ⟨[.ref a],[]⟩) (λr s'=>r = .ok (.ret (.bool true))/\OldK a_.heap s'.heap/\s'.os=a_.os/\AllBare s'.gens) a_:=by
 have rv:=qH hi;have K6:=hi.length
 -- from an abstract heap in which nothing but the script may be tracked
 have core:∀H:Hp,xg H->ao K H a (ns.map V.int)->bV P w H a_.heap->(∀b,H b≠none->b=a)->(H a≠none->K.lookup a=none)->
   codeAny (model P w) callerA (.call (.ref fa) ⟨[.ref a],[]⟩) (λr s'=>r = .ok (.ret (.bool true))/\OldK a_.heap s'.heap/\s'.os=a_.os/\AllBare s'.gens) a_:=by
  intro H hO hS aG hA hK;have CD:∀ {b:Addr} {o:Obj},a_.heap.get? b=some o->H b=none->(iT a_.heap H).get? b=some o:=λe n=>IW e n;have nH:∀ {b:Addr} {o:Obj} {es:Array DictEntry} {ep:Nat},a_.heap.get? b=some o->o.data = .dict es ep->H b=none:=λ{b o es ep} e d=>by
   cases q:H b with
   | none=>rfl
   | some u =>
    have e':b=a:=hA b (by rw[q];simp)
    subst e';rw[ha] at e;cases e;have d':Data.seq vs.toArray _=Data.dict es ep:=d;cases d'
  have qJ:∀ {b:Addr} {m:Str->Option Value},a_.heap.Ns b m->(iT a_.heap H).Ns b m:=λ{b m} ⟨o,es,ep,e,d,r⟩=>⟨o,es,ep,CD e (nH e d),d,r⟩;have CF:K.In (iT a_.heap H):=λb o e=>CD (KX b o e) (by
   cases q:H b with
   | none=>rfl
   | some u =>
    have e':b=a:=hA b (by rw[q];simp)
    subst e';rw[hK (by rw[q];simp)] at e;cases e)
  have hM:Mod K mg (iT a_.heap H):=⟨CF,qJ qI,⟨mb,qJ hb,K3⟩,let ⟨mc,h1,h2⟩:=K4;⟨mc,qJ h1,h2⟩⟩
  have e0:kK P w K mg (iT a_.heap H) callerA [] a_ H:=⟨rfl,hM,λb o e=>IX e,Nat.le_of_eq (IV _ _),trivial,λb hb=>absurd (show b∈([]:List Addr) from hb) (by simp),aG,.of_eq hg⟩
  refine codeAny_mono ((F _ CF (qJ qI)).run callerA [] a_ H ⟨[.ref a],[]⟩ [.ref a] [.ref a] _ _ hr e0 (K5 a_ (.ref a)) (.cons rfl .nil) (gh H hO hS)) λr s' h=>?_;cases r with
  | error e=>exact(xh H e s' h).elim
  | ok fl =>
   cases fl with
   | next=>exact False.elim h
   | brk=>exact False.elim h
   | cont=>exact False.elim h
   | ret u =>
    obtain⟨v,H',os,bare,un,K7,r',q⟩:=h;have q':v = .bl true:=q;subst q';obtain rfl:u=Value.bool true:=r';refine⟨rfl,OldK.of_keep λb o e=>?_,os,bare⟩;cases q:H b with
    | none=>exact un.keep b o e q (by intro z;exact absurd (show b∈([]:List Addr) from z) (by simp)) (by simp)
    | some u =>
     rcases hO b with z | ⟨ob,xs,z⟩
     ·rw[q] at z;cases z
     ·have z2:=un.fP b ob _ z;obtain⟨e1,_⟩:=aG b _ z;obtain⟨e2,_⟩:=K7 b _ z2;rw[e] at e1;cases e1;exact e2
 cases hk:K.lookup a with
 | some o =>
  -- the script is one of the module's own objects
  have e:=KX a o hk;rw[ha] at e;cases e;refine core (λ_=>none) (λ_=>.inl rfl) (.inr ⟨_,vs.toArray,_,hk,rfl,rfl,rfl,by rw[List.size_toArray,K6];exact hl,by simpa using rv⟩) (λb u z=>by have z':(none:Option HO)=some u:=z;cases z') (λb z=>absurd rfl z) λz=>absurd rfl z
 | none =>
  refine core (λb=>if b=a then some (.eZ { cls:=.type "list",data:=.seq vs.toArray } (.lst (ns.map V.int))) else none) (λb=>?_) (.inl (.inr ⟨{ cls:=.type "list",data:=.seq vs.toArray },if_pos rfl⟩)) (λb u z=>?_) (λb z=>?_) λ_=>hk
  ·by_cases hb:b=a
   ·exact .inr ⟨_,_,if_pos hb⟩
   ·exact .inl (if_neg hb)
  ·by_cases hb:b=a
   ·have z':=(if_pos hb).symm.trans z;cases z';subst hb;exact⟨ha,by rw[List.length_map];exact hl,vs,_,rv,ha⟩
   ·have z':=(if_neg hb).symm.trans z;cases z'
  ·by_cases hb:b=a
   ·exact hb
   ·exact absurd (if_neg hb) z
noncomputable abbrev VE{K:PySem.W.Frag}{h:Heap}(_:K.In h):PySem.W.Frag:=K
theorem K8{l:PySem.W.OpenLaw}{n k:Nat}{q:Program}{loose:List Str}{XP:(Str->Option Value)->Heap->Prop}{YP:World->Heap->Prop}{d:DefRec}{K:Params->PySem.W.Frag}{CX:World->eS}{sp:World->Sp}{x:Str}
  (hn:l.most=some n) (nu:n<=sizeLine) (nK:d.params.defaults = []) (hr:bY k callerA)
  (hY:∀(w:World) (h:Heap),YP w h->(K w.params).In h)
  (F:∀(w:World) (mg:Str->Option Value) (fa:Addr) (h:Heap),(K w.params).In h->h.Ns mainGlobals mg->mg d.name=some (.ref fa)->
   ∃fd:FuncData,(∀(s:Shared) (u:Value),BindsTo s fd ⟨[u],[]⟩ [(x,u)])/\
    ∀base:Heap,(K w.params).In base->base.Ns mainGlobals mg->bg l.prog w (K w.params) mg base (CX w) k fa fd [x] (sp w))
  (gh:∀(w:World) (H:Hp) (a:Addr) (ns:List Int),ns.length<=n->xg H->ao (K w.params) H a (ns.map V.int)->sp w [.ref a] H (λv _=>v = .bl true) λ_ _ _=>False)
  (xh:∀(w:World) (H:Hp) (s:Shared) (e:Value) (s':Shared),CX w [] H s (λ_ _ _=>False) e s'->False) :
  PySem.W.WalkO q loose XP YP l.row.toRowW d [] (λf vs=>PySem.call f vs):=by
 refine CC.K1 hn nK λw aZ a_ mg mb fa o pm cd doc a vs ns G Y ho hd cM hmg w_ hints hlen hg=>?_;have KX:=hY w _ Y;obtain⟨fd,hb,hF⟩:=F w mg fa _ KX G.T.g hmg;exact K2 KX G.T.g G.T.b G.T.builtins G.T.nolimit hg w_ hints (Nat.le_trans hlen nu) hr hF hb (λH hO hS=>gh w H a ns hlen hO hS) λH e s'=>xh w H a_ e s'
noncomputable def inClass(s:Stmt)(j:Nat):Stmt:=match s with
 | .ClassDef _ _ _ body _ _ _ _ _ _ _=>body.getD j (.Pass ⟨0,0,0,0⟩)
 | _=>.Pass ⟨0,0,0,0⟩
noncomputable def eT(s:Stmt):Arguments:=match s with
 | .FunctionDef _ a _ _ _ _ _ _ _ _=>a
 | _=>{ posonlyargs:=[],args:=[],vararg:=none,kwonlyargs:=[],kw_defaults:=[],kwarg:=none,defaults:=[] }
noncomputable def dF(s:Stmt):List Stmt:=match s with
 | .FunctionDef _ _ b _ _ _ _ _ _ _=>b
 | _=>[]
noncomputable def aX(s:Stmt):Scope:=match s with
 | .FunctionDef _ _ _ _ _ _ sc _ _ _=>sc
 | _=>{ kind:=.function,names:=[],isGenerator:=false,isCoroutine:=false }
noncomputable abbrev cz:eS:=λ_ _ _ _ _ _=>False
noncomputable abbrev E0:XK:=λ_ _ _=>False
theorem bB{X:Cx}:Passes cz X E0:=λ_ _ _ _ _ _ _ h=>h.elim
structure aO(K:PySem.W.Frag)(x qual:Str)(st:Stmt)(f:Addr)(fd:FuncData):Prop where
 ex:∃(oc:Value) (od:Option Addr) (kV doc pm:Value) (an:Option Addr) (aN ct:Value) (fh:Array (Option Value)),
  fd=PySem.W.fnOf x qual (eT st) (dF st) (aX st) .none kV doc pm an aN ct/\K.lookup f=some ⟨oc,od,.func fd,fh⟩/\PySem.W.codeIn K aN qual=true
 kp:PySem.W.keepIn K (.ref f)=true
section
variable{P:Program}{w:World}{K:PySem.W.Frag}{mg:Str->Option Value}{base:Heap}
theorem aO.ok{x qual:Str}{st:Stmt}{f:Addr}{fd:FuncData}{N ps:List Str}{k:Nat}{sp:Sp}(F:aO K x qual st f fd)(S:bD N ps (aX st))(len:∀vs H Q E,sp vs H Q E->vs.length=ps.length)
  (kL:∀(aN:Value) (A:Around) (outer:List Env) (s:Shared) (H:Hp) (vs:List V) (Q:VK) (E:XK),bY k (A.deeper (envOfC qual (aX st) s.heap.objs.size f aN))->sp vs H Q E->
   ∃t,dY (fc cz P w K mg base N qual (aX st) f aN A outer s H E).m6 (dF st) t/\t { nx:=λ_ H'=>Q .aF H',rt:=Q } (start N vs) H):bg P w K mg base cz (k+1) f fd ps sp:=by
 obtain⟨oc,od,kV,doc,pm,an,aN,ct,fh,rfl,lk,cM⟩:=F.ex;refine wL lk cM S len λA outer s H vs Q E hr gh=>?_;obtain⟨t,h,q⟩:=kL aN A outer s H vs Q E hr gh;exact⟨t,h.m6,q⟩
theorem aO.binds{x qual:Str}{st:Stmt}{f:Addr}{fd:FuncData}{ps:List Str}(F:aO K x qual st f fd)
  (h:∀(kV doc pm:Value) (an:Option Addr) (aN ct:Value) (us:List Value),us.length=ps.length->bindArgs (PySem.W.fnOf x qual (eT st) (dF st) (aX st) .none kV doc pm an aN ct) ⟨us,[]⟩=pure (ps.zip us)):Binds K fd ps []:=by
 obtain⟨oc,od,kV,doc,pm,an,aN,ct,fh,rfl,lk,cM⟩:=F.ex;exact .all (h kV doc pm an aN ct)
theorem fun_mk{x qual:Str}{st:Stmt}{f:Addr}{oc:Value}{od an:Option Addr}{fh:Array (Option Value)}{kV doc pm aN ct:Value}(l:K.lookup f=some ⟨oc,od,.func (PySem.W.fnOf x qual (eT st) (dF st) (aX st) .none kV doc pm an aN ct),fh⟩)
  (c:PySem.W.codeIn K aN qual=true) (k:PySem.W.keepIn K (.ref f)=true):aO K x qual st f (PySem.W.fnOf x qual (eT st) (dF st) (aX st) .none kV doc pm an aN ct):=⟨⟨oc,od,kV,doc,pm,an,aN,ct,fh,rfl,l,c⟩,k⟩
end
theorem gS{n:Nat}(h:n<=1000):n<sizeLine:=Nat.lt_of_le_of_lt h (by decide)
section
variable{X:Cx}
theorem pv(i:Nat){x:Str}{pos:Pos}(hN:X.N[i]? = some x:=by rfl)(hv:v_ X.env.scope x:=by first | exact Or.inl rfl | exact Or.inr (Or.inl rfl) | exact Or.inr (Or.inr rfl))(hd:(x == ("__debug__" : Str))=false:=by decide)
  (cM:(x == ("__classdict__" : Str))=false:=by decide):PE X (.Name x pos) (BX i):=Jb hN hv hd cM
end
theorem aT{c A B:Prop}[Decidable c](h1:c->A)(h2:¬ c->B):if c then A else B:=by
 by_cases h:c
 ·rw[if_pos h];exact h1 h
 ·rw[if_neg h];exact h2 h
noncomputable def ah(H H':Hp):Prop:=∀b o,H b=some o->H' b=some o
theorem ah.refl(H:Hp):ah H H:=λ_ _ h=>h
theorem ah.trans{H H1 H2:Hp}(a:ah H H1)(b:ah H1 H2):ah H H2:=λc o h=>b c o (a c o h)
theorem ah.free{H H':Hp}(e:ah H H'){l:Addr}(h:H' l=Option.none):H l=Option.none:=by
 cases q:H l with
 | none=>rfl
 | some o =>
  rw[e l o q] at h;cases h
theorem ah.seq{K:PySem.W.Frag}{H H':Hp}{a:Addr}{xs:List V}(e:ah H H')(h:ao K H a xs):ao K H' a xs:=by
 rcases h with(h | ⟨o,h⟩) | h
 ·exact .inl (.inl (e _ _ h))
 ·exact .inl (.inr ⟨o,e _ _ h⟩)
 ·exact .inr h
section
variable{κ:Type}[DecidableEq κ]
end
end _L
set_option maxHeartbeats 4000000
namespace _L
open PySem PySem.Spec PyProof.Rows
section
variable{prog:Program}{w:World}{A:Around}{R:Result->Shared->Prop}{s:Shared}
theorem CG{elt target iter:Expr}{ifs:List Expr}{scope:Scope}{pos:Pos}{it acc:Value}{env:Env}(I:Nat->Shared->Prop)
  (turn:∀n s,I n s->wpAny (model prog w) A (pyNext it) (λr a_=>match r with
   | none=>R (.ok .next) a_
   | some v=>wpAny (model prog w) A (letOwnedTupleGo target it v) (λ_ CH=>wpAny (model prog w) A (assign target env v) (λ_ fG =>
     wpAny (model prog w) A (forIn ifs true λc r=>if r=true then do let ok ← isTrue c env (eval c env);pure (ForInStep.yield ok) else pure (ForInStep.yield r)) (λok fu =>
      if ok=true then wpAny (model prog w) A (eval elt env) (λx lU =>
       wpAny (model prog w) A (call (.builtin "list.append") [acc,x]) (λ_ CI=>∃m,m<n/\I m CI) (λ_ _=>False) lU) (λ_ _=>False) fu
      else ∃m,m<n/\I m fu) (λ_ _=>False) fG) (λ_ _=>False) CH) (λ_ _=>False) a_) (λ_ _=>False) s)
  (n:Nat) (h:I n s):codeAny (model prog w) A (.compLoop (.ListComp elt [⟨target,iter,ifs,0⟩] scope pos) 0 it acc env) R s:=by
 refine codeAny_loop rfl I (λn s hI=>?_) n h
 show wpAny _ A ((compTurn (.ListComp elt [⟨target,iter,ifs,0⟩] scope pos) 0 it acc env).onRaise (λx=>do noteFrame x env;theTreesLotGoes x)) _ _ s
 refine wpAny_noted ?_;rw[compTurn_list];refine wpAny_bind (wpAny_standAt (wpAny_bind (wpAny_mono (turn n s hI) (λr a_ fH=>?_) λ_ _ h'=>h'.elim)));cases r with
 | none=>exact wpAny_pure fH
 | some v =>
  refine wpAny_bind (wpAny_mono fH (λ_ CH K9=>?_) λ_ _ h'=>h'.elim);refine wpAny_bind (wpAny_mono K9 (λ_ fG xj=>wpAny_bind (wpAny_mono xj (λok fu CJ=>?_) λ_ _ h'=>h'.elim)) λ_ _ h'=>h'.elim);cases ok with
  | false=>exact wpAny_pure ⟨rfl,CJ⟩
  | true =>
   exact wpAny_bind (wpAny_bind (wpAny_mono CJ (λx lU K_=>wpAny_bind (wpAny_mono K_ (λ_ CI La=>wpAny_pure (wpAny_pure ⟨rfl,La⟩)) λ_ _ h'=>h'.elim)) λ_ _ h'=>h'.elim))
end
noncomputable def bZ(X:Cx)(scope:Scope)(cl:List (Str×Addr))(N:List Str)(C:Addr)(s:Shared)(H:Hp)(fp:List Addr):Cx where
 prog:=X.prog
 w:=X.w
 K:=X.K
 mg:=X.mg
 base:=X.base
 A:=X.A
 N:=N
 aZ:=s
 dM:=H
 env:=compEnvC scope cl C X.env
 outer:=X.stack
 stack:=X.stack
 ex:=fp
 fn:=λ_=>false
 calm:=X.calm
 pn:=[]
 xe:=λ_ _=>False
structure cF(X:Cx)(scope:Scope)(cl:List (Str×Addr))(N:List Str)(nt:Nat)(fv:List Nat):Prop where
 lV:closureFor scope X.env=pure cl
 kind:scope.kind = .function
 lW:∀y∈scope.names,y.2≠.cell
 names:∀y∈scope.names,y.2 = .local->scope.names.lookup y.1=some .local
 sub:∀p∈cl,X.env.cells.lookup p.1=some p.2
 has:∀y∈scope.names,y.2 = .free->∃c,cl.lookup y.1=some c
 free:fv.map (λj=>X.N[j]?)=(N.drop nt).map some
 fk:∀y∈N.drop nt,scope.names.lookup y=some .free/\X.env.scope.names.lookup y=some .cell
 le:nt<=N.length
 nd:N.Nodup
theorem qK{env:Env}:∀ {names:List (Str×NameKind)} {x:Str} {k:NameKind},
  (names.map λ(n,k)=>if (k == NameKind.free && env.scope.kind == .function && env.kindOf n == some .cell) then(n,NameKind.cell) else(n,k)).lookup x=some k->
  ∃k0,names.lookup x=some k0/\(k=k0\/(k0 = .free/\k = .cell))
 | [],_,_,h=>by simp at h
 | (n,k0)::r,x,k,h=>by
  have ih:=@qK env r x k;have h:List.lookup x ((if (k0 == NameKind.free && env.scope.kind == .function && env.kindOf n == some .cell)=true then(n,NameKind.cell) else(n,k0))::_)=_:=h
  cases hx:x == n with
  | true =>
   by_cases hc:(k0 == NameKind.free && env.scope.kind == .function && env.kindOf n == some .cell)=true
   ·rw[if_pos hc] at h;simp only[List.lookup_cons,hx,Option.some.injEq] at h;simp only[Bool.and_eq_true,beq_iff_eq] at hc;exact⟨k0,by simp[List.lookup_cons,hx],.inr ⟨hc.1.1,h.symm⟩⟩
   ·rw[if_neg hc] at h;simp only[List.lookup_cons,hx,Option.some.injEq] at h;exact⟨k0,by simp[List.lookup_cons,hx],.inl h.symm⟩
  | false =>
   have h':List.lookup x (r.map λ(n,k)=>if (k == NameKind.free && env.scope.kind == .function && env.kindOf n == some .cell) then(n,NameKind.cell) else(n,k))=some k:=by
    by_cases hc:(k0 == NameKind.free && env.scope.kind == .function && env.kindOf n == some .cell)=true
    ·rw[if_pos hc] at h;simpa only[List.lookup_cons,hx] using h
    ·rw[if_neg hc] at h;simpa only[List.lookup_cons,hx] using h
   obtain⟨q,e,z⟩:=ih h';exact⟨q,by simp only[List.lookup_cons,hx];exact e,z⟩
theorem qL{α:Type}{x:Str}{v:α}:∀ {l:List (Str×α)},l.lookup x=some v->(x,v)∈l:=λh=>PySem.mem_of_lookup h
section
variable{X:Cx}{pins:List (Addr×Obj)}{σ:St}{H:Hp}{s:Shared}{scope:Scope}{cl:List (Str×Addr)}{N:List Str}{nt:Nat}{fv:List Nat}{fp:List Addr}
theorem cF.cell(S:cF X scope cl N nt fv){x:Str}{c:Addr}(e:cl.lookup x=some c):X.env.cells.lookup x=some c:=S.sub (x,c) (qL e)
theorem cF.Lb(S:cF X scope cl N nt fv){C:Addr}{x:Str}(h:(compEnvC scope cl C X.env).kindOf x=some .cell\/(compEnvC scope cl C X.env).kindOf x=some .free):scope.names.lookup x=some .free:=by
 have h:(scope.names.map λ(n,k)=>if (k == NameKind.free && X.env.scope.kind == .function && X.env.kindOf n == some .cell) then(n,NameKind.cell) else(n,k)).lookup x=some .cell\/
  (scope.names.map λ(n,k)=>if (k == NameKind.free && X.env.scope.kind == .function && X.env.kindOf n == some .cell) then(n,NameKind.cell) else(n,k)).lookup x=some .free:=h
 rcases h with h | h
 ·obtain⟨k0,e,z | ⟨z,_⟩⟩:=qK h
  ·exact absurd z.symm (S.lW _ (qL e))
  ·rw[z] at e;exact e
 ·obtain⟨k0,e,z | ⟨z,_⟩⟩:=qK h
  ·rw[← z] at e;exact e
  ·rw[z] at e;exact e
theorem cF.ok(S:cF X scope cl N nt fv)(I:Inv X pins σ H s)(hf:∀b∈fp,e8 X pins H b)(bC:∀b∈fp,b<s.heap.objs.size){C:Addr}(hC:s.heap.objs.size<=C) :
  (bZ X scope cl N C s H fp).Ok where
 mod:=I.ok.mod
 kind:=S.kind
 glob:=I.ok.glob
 blt:=I.ok.blt
 above:=hC
 inj:=λx y c h1 h2=>I.ok.inj x y c (S.cell h1) (S.cell h2)
 has:=λx h=>by
  have e:=S.Lb h;exact S.has _ (qL e) rfl
 kq:=λx c h _=>by cases (show false=true from h)
 hd:=I.ok.hd
 frames:=I.ok.frames
 lH:=.inl rfl
 jE:=λb hb=>⟨λz=>absurd (Nat.lt_of_lt_of_le (bC b hb) (by rw[z];exact hC)) (Nat.lt_irrefl _),λx c h=>(hf b hb).2.2.2.2.1 x c (S.cell h)⟩
 bs:=I.bs
 gG:=Nat.le_trans I.ok.gG I.sz
 ku:=λb o e hb=>by
  rcases(hf b hb).2.2.2.1 with z | z
  ·exact I.ok.ku b o e z
  ·exact absurd (Nat.lt_of_lt_of_le (Heap.lt_size e) (Nat.le_trans I.ok.gG z)) (Nat.lt_irrefl _)
 jF:=λb hb hm=>by
  rcases List.mem_cons.mp (I.we b hm) with z | z
  ·exact(hf b hb).2.1 z
  ·exact(hf b hb).2.2.1 z
 eK:=I.stack
 gH:=I.wg
noncomputable def iD(σ:St)(nt:Nat)(fv:List Nat):St:=List.replicate nt none++fv.map λj=>(σ[j]?).getD none
theorem cF.inv(S:cF X scope cl N nt fv)(I:Inv X pins σ H s)(hf:∀b∈fp,e8 X pins H b)(bC:∀b∈fp,b<s.heap.objs.size){h1:Heap}{tk:Nat}{D C:Addr}
  (hD:s.heap.objs.size<=D) (hC:s.heap.objs.size<=C) (kN:D≠C) (old:∀b o,s.heap.get? b=some o->h1.get? b=some o) (iE:h1.get? D=some { cls:=.type "list",data:=.seq #[] }) (qI:h1.Ns C λ_=>none) :
  Inv (bZ X scope cl N C s H fp) [] (iD σ nt fv) (upd H D (.lst [])) { s with heap:=h1,toks:=tk }:=by
 have I1:Inv X pins σ (upd H D (.lst [])) { s with heap:=h1,toks:=tk }:=I.laid old hD ⟨Nat.zero_le _,[],0,.nil,iE⟩;have hlen:fv.length=(N.drop nt).length:=by simpa using congrArg List.length S.free
 refine⟨S.ok I hf bC hC,rfl,I.bare,Un.laid old hD (I.aG.fresh hD),⟨_,qI,λi x v e1 e2 e3=>?_⟩,λx c e=>?_,?_,λx c e=>?_,λp hp=>absurd (show p∈([]:List (Addr×Obj)) from hp) (by simp),I1.aG,?_⟩
 ·unfold iD at e2;have hi:nt<=i:=by
   by_cases h:nt<=i
   ·exact h
   ·rw[List.getElem?_append_left (by simp;lia),List.getElem?_replicate] at e2
    split at e2 <;> cases e2
  rw[List.getElem?_append_right (by simpa using hi)] at e2
  simp only[List.length_replicate,List.getElem?_map] at e2;cases hj:fv[i - nt]? with
  | none=>rw[hj] at e2;simp at e2
  | some j =>
   rw[hj] at e2;simp only[Option.map_some,Option.some.injEq] at e2;have hN:X.N[j]? = some x:=by
    have q:=congrArg (λl=>l[i - nt]?) S.free;simp only[List.getElem?_map,hj,Option.map_some,List.getElem?_drop] at q;rw[show nt+(i - nt)=i by lia] at q
    have Lc:N[i]? = some x:=e1;rw[Lc] at q;exact(Option.some.inj q)
   have Ld:σ[j]? = some (some v):=by
    cases z:σ[j]? with
    | none=>rw[z] at e2;simp at e2
    | some y=>rw[z] at e2;simp at e2;rw[e2]
   have Le:x∈N.drop nt:=by
    refine List.mem_of_getElem? (i:=i - nt) ?_;rw[List.getElem?_drop,show nt+(i - nt)=i by lia];exact e1
   obtain⟨f1,f2⟩:=S.fk x Le;obtain⟨m,hn,hl⟩:=I1.loc;obtain⟨u,ru,lk⟩:=hl j x v hN Ld (.inr (.inl f2));refine⟨u,ru,?_⟩;rcases lk with⟨k,_⟩ | ⟨_,c,ec,hc⟩
   ·have k:X.env.scope.names.lookup x=some .local:=k;rw[f2] at k;cases k
   ·obtain⟨c',e'⟩:=S.has _ (qL f1) rfl;have:=S.cell e';rw[ec] at this;cases this;refine .inr ⟨?_,c,e',hc⟩;rcases e3 with z | z | z
    ·obtain⟨k0,ek,q | ⟨_,q⟩⟩:=qK (show (scope.names.map λ(n,k)=>if (k == NameKind.free && X.env.scope.kind == .function && X.env.kindOf n == some .cell) then(n,NameKind.cell) else(n,k)).lookup x=some .local from z)
     ·rw[f1] at ek;cases ek;cases q
     ·cases q
    ·exact .inl z
    ·exact .inr z
 ·obtain⟨v,z⟩:=I1.cell x c (S.cell e);exact⟨v,z⟩
 ·show upd H D (.lst []) C=none;rw[bF (Ne.symm kN)];exact I.aG.fresh hC
 ·exact I1.fF x c (S.cell e)
 ·unfold iD
  show _=N.length;have:=S.le;simp only[List.length_append,List.length_replicate,List.length_map,List.length_drop] at hlen ⊢;lia
end
noncomputable def jO(X:Cx)(ifs:List Expr)(t:TT):Prop :=
 ∀(pins:List (Addr×Obj)) (s:Shared) (σ:St) (H:Hp) (Q:Bool->Hp->Prop),Inv X pins σ H s->t σ H Q->
  wpAny (model X.prog X.w) X.A (forIn ifs true λc r=>if r=true then do let ok ← isTrue c X.env (eval c X.env);pure (ForInStep.yield ok) else pure (ForInStep.yield r)) (TP X pins σ Q) X.xe s
noncomputable def Lf:TT:=λ_ H Q=>Q true H
theorem nM{X:Cx}:jO X [] Lf:=λpins s σ H Q I h=>wpAny_tests_nil ⟨H,I,h⟩
theorem nN{X:Cx}{c:Expr}{t:TT}(hc:PT X c t):jO X [c] t:=λpins s σ H Q I h=>wpAny_tests_one (hc pins s σ H Q I h)
noncomputable def i8(wi:TI)(g:TG)(tt:TT)(te:TE)(nt:Nat)(fv:List Nat):TE:=λσ H Q=>wi σ H λJ H1=>∀D,H1 D=none->∃W:Nat->Nat->List V->St->Hp->Prop,
 (∃m,W 0 m [] (iD σ nt fv) (upd H1 D (.lst [])))/\∀i m ys au H2,W i m ys au H2->H2 D=some (.lst ys)/\ys.length<sizeLine/\
  ((J.stop i H2/\Q (.ref D) H2)\/(J.go i H2/\∀x H3,J.gK i H2 x H3->g x au H3 λbR H4=>tt bR H4 λb H5=>if b=true then te bR H5 λv H6=>H6 D=some (.lst ys)/\∃m',m' < m/\W (i+1) m' (ys++[v]) bR (upd H6 D (.lst (ys++[v])))
   else ∃m',m' < m/\W (i+1) m' ys bR H5))
section
variable{X:Cx}{tg iter elt:Expr}{ifs:List Expr}{scope:Scope}{cl:List (Str×Addr)}{N:List Str}{nt:Nat}{fv:List Nat}{pos:Pos}{wi:TI}{g:TG}{tt:TT}{te:TE}
theorem CK{pins:List (Addr×Obj)}{σ:St}{s2:Shared}{H2:Hp}{it:Addr}{fp:List Addr}{tn:Nat->Heap->Prop}{J:It}{Q:VK}{RR:Value->Addr->Result->Shared->Prop}{E:Value->Shared->Prop}
  (S:cF X scope cl N nt fv) (hc:X.calm=true)
  (hg:∀C s H fp,PG (bZ X scope cl N C s H fp) tg g) (ht:∀C s H fp,jO (bZ X scope cl N C s H fp) ifs tt) (he:∀C s H fp,PE (bZ X scope cl N C s H fp) elt te)
  (I2:Inv X pins σ H2 s2) (T:Turn X.prog X.w X.K tg J fp it tn) (cN:tn 0 s2.heap) (f2:∀b∈fp,e8 X pins H2 b)
  (hq:∀D,H2 D=none->∃W:Nat->Nat->List V->St->Hp->Prop,
   (∃m,W 0 m [] (iD σ nt fv) (upd H2 D (.lst [])))/\∀i m ys au H2,W i m ys au H2->H2 D=some (.lst ys)/\ys.length<sizeLine/\
    ((J.stop i H2/\Q (.ref D) H2)\/(J.go i H2/\∀x H3,J.gK i H2 x H3->g x au H3 λbR H4=>tt bR H4 λb H5=>if b=true then te bR H5 λv H6=>H6 D=some (.lst ys)/\∃m',m' < m/\W (i+1) m' (ys++[v]) bR (upd H6 D (.lst (ys++[v])))
     else ∃m',m' < m/\W (i+1) m' ys bR H5)))
  (xm:∀(D C:Addr) (s':Shared) (H':Hp) (m':Str->Option Value),Inv X pins σ H' s'->s'.heap.Ns C m'->s2.heap.objs.size<=C->H' C=none->Q (.ref D) H'->RR (.ref D) C (.ok .next) s') :
  wpAny (model X.prog X.w) X.A (newList []) (λacc fu=>wpAny (model X.prog X.w) X.A (newFunctionEnv scope X.env.globals cl [] X.env.qual none .none (some X.env)) (λnO lU =>
   codeAny (model X.prog X.w) X.A (.compStart (.ListComp elt [⟨tg,iter,ifs,0⟩] scope pos) 0 (.ref it) acc { nO with scope:=relabel scope X.env }) (RR acc nO.locals) lU) E fu) E s2:=by
 refine wpAny_newObj_type (wpAny_newFunctionEnv S.lW (by intro y hy;simp at hy) (λfH kO i9=>?_) S.kind)
 dsimp only at kO i9 ⊢;generalize kP:s2.heap.push { cls:=.type "list",dict:=none,data:=.seq ([]:List Value).toArray }=HH at kO i9 ⊢;have hC:HH.objs.size=s2.heap.objs.size+1:=by rw[← kP,Heap.size_push]
 have kN:s2.heap.objs.size≠HH.objs.size:=by rw[hC];exact Nat.ne_of_lt (Nat.lt_succ_self _)
 have kQ:s2.heap.objs.size<=HH.objs.size:=by rw[hC];exact Nat.le_succ _
 have old:∀b o,s2.heap.get? b=some o->fH.get? b=some o:=λb o e=>by
  have hb:b<s2.heap.objs.size:=Heap.lt_size e;exact i9.extBut b o (by rw[hC];exact Nat.ne_of_lt (Nat.lt_succ_of_lt hb)) (Heap.get?_push_of_some _ (kP▸Heap.get?_push_of_some _ e))
 have iE:fH.get? s2.heap.objs.size=some { cls:=.type "list",data:=.seq #[] }:=i9.extBut _ _ kN (Heap.get?_push_of_some _ (kP▸Heap.get?_push_size _ rfl));have bC:∀b∈fp,b<s2.heap.objs.size:=λb hb=>by
  obtain⟨o,e,_⟩:=T.obj 0 _ cN b hb;exact Heap.lt_size e
 have hD:H2 s2.heap.objs.size=none:=I2.aG.fresh (Nat.le_refl _);obtain⟨W,⟨m0,w0⟩,turn⟩:=hq _ hD;have jJ:tn 0 fH:=T.keep _ _ _ cN λb _ o e=>old b o e;have I3:=S.inv I2 f2 bC (h1:=fH) (tk:=s2.toks+([]:List (Str×Value)).length) (D:=s2.heap.objs.size) (C:=HH.objs.size) (Nat.le_refl _) kQ kN old iE (by simpa using kO)
 -- what stays true of the iterator's objects
 have nD:∀b∈fp,b≠s2.heap.objs.size:=λb hb=>Nat.ne_of_lt (bC b hb);have gM:∀ {H':Hp},(∀b∈fp,H' b=none)->∀b∈fp,e8 (bZ X scope cl N HH.objs.size s2 H2 fp) [] H' b:=λ{H'} hn b hb=>by
  have ok:=S.ok I2 f2 bC kQ;refine⟨hn b hb,(ok.jE b hb).1,ok.jF b hb,.inl hb,(ok.jE b hb).2,λp hp=>absurd (show p∈([]:List (Addr×Obj)) from hp) (by simp)⟩
 have loop:∀fu:Shared,fu = { s2 with heap:=fH,toks:=s2.toks+([]:List (Str×Value)).length }->
   codeAny (model X.prog X.w) X.A (.compLoop (.ListComp elt [⟨tg,iter,ifs,0⟩] scope pos) 0 (.ref it) (.ref s2.heap.objs.size) (compEnvC scope cl HH.objs.size X.env)) (RR (.ref s2.heap.objs.size) HH.objs.size) fu:=by
  rintro fu rfl;refine CG (λn s'=>∃i ys aJ H',Inv (bZ X scope cl N HH.objs.size s2 H2 fp) [] aJ H' s'/\tn i s'.heap/\(∀b∈fp,H' b=none)/\W i n ys aJ H') ?_ m0
   ⟨0,[],_,_,I3,jJ,λb hb=>by rw[bF (nD b hb)];exact(f2 b hb).1,w0⟩
  rintro n s3 ⟨i,ys,cV,H3,J3,t3,jK,w3⟩;obtain⟨eD,xq,xr⟩:=turn i n ys cV H3 w3;rcases xr with⟨stop,qn⟩ | ⟨go,step⟩
  ·refine aL (T.done (bZ X scope cl N HH.objs.size s2 H2 fp) rfl rfl rfl hc i [] s3 cV H3 (λ_ _=>False) J3 (gM jK) t3 stop) λr s4 ⟨hr,I4⟩=>?_;subst hr;have I5:Inv X pins σ H3 s4:=I2.qg (ch:=fp) I4.os I4.base I4.aG I4.bare λb hb=>⟨(f2 b hb).2.2.2.1,(f2 b hb).2.1,(f2 b hb).2.2.2.2.1,(f2 b hb).2.2.2.2.2⟩;obtain⟨m,hn,_⟩:=I4.loc;exact xm _ _ s4 H3 m I5 hn kQ I4.free qn
  ·refine aL (T.item (bZ X scope cl N HH.objs.size s2 H2 fp) rfl rfl rfl hc i [] s3 cV H3 (λ_ _=>False) J3 (gM jK) t3 go) λr s4 ⟨u,hr,h4⟩=>?_;subst hr;refine aL h4 λ_ s5 ⟨x,H5,I5,r5,y5,gO,ng⟩=>?_;have ni:=I5.pinned (gM ng) (T.obj _ _ gO);refine aL (hg _ _ _ _ _ s5 cV H5 x u _ ni r5 (step x H5 y5)) λ_ s6 ⟨e9,H6,I6,q6⟩=>?_;have nP:∀ {dZ:St} {H7:Hp} {s7:Shared},Inv (bZ X scope cl N HH.objs.size s2 H2 fp) ([]++lN fp s5.heap) dZ H7 s7->tn (i+1) s7.heap/\∀b∈fp,H7 b=none:=λ{dZ H7 s7} I7=>by
    refine⟨T.keep _ _ _ gO λb hb o e=>(I7.pin (b,o) (List.mem_append_right _ (List.mem_append_right _ (lO hb e)))).1,λb hb=>?_⟩;obtain⟨o,e,d⟩:=T.obj _ _ gO b hb;exact(I7.pin (b,o) (List.mem_append_right _ (List.mem_append_right _ (lO hb e)))).2.1
   refine aL (ht _ _ _ _ _ s6 e9 H6 _ I6 q6) λb s7 ⟨H7,I7,q7⟩=>?_;cases b with
   | false =>
    obtain⟨m',hm,w7⟩:=q7;obtain⟨t7,n7⟩:=nP I7;exact⟨m',hm,i+1,ys,e9,H7,I7.kE,t7,n7,w7⟩
   | true =>
    refine aL (he _ _ _ _ _ s7 e9 H7 _ I7 q7) λu8 s8 ⟨v8,H8,I8,r8,xu,m',hm,w8⟩=>?_;refine aL (i7 (X:=bZ X scope cl N HH.objs.size s2 H2 fp) _ s8 e9 H8 (.ref s2.heap.objs.size) [v8] (.ref s2.heap.objs.size) [u8] (λ_ H9=>∃m',m' < n/\W (i+1) m' (ys++[v8]) e9 H9) I8 rfl (.cons r8 .nil)
     ⟨s2.heap.objs.size,ys,v8,rfl,rfl,xu,xq,m',hm,w8⟩) λ_ s9 ⟨_,H9,I9,_,m9,xw,w9⟩=>?_
    obtain⟨t9,n9⟩:=nP I9;exact⟨m9,xw,i+1,ys++[v8],e9,H9,I9.kE,t9,n9,w9⟩
 exact codeAny_compStart_list (loop _ rfl) (T.self _ 0 _ _ _ jJ (loop _ rfl))
theorem jP(S:cF X scope cl N nt fv)(hc:X.calm=true)(hi:PI X tg iter wi)
  (hg:∀C s H fp,PG (bZ X scope cl N C s H fp) tg g) (ht:∀C s H fp,jO (bZ X scope cl N C s H fp) ifs tt) (he:∀C s H fp,PE (bZ X scope cl N C s H fp) elt te)
  (hs:∀x,foldedSetIterable iter X.env x=pure x:=by intro _;rfl):PE X (.ListComp elt [⟨tg,iter,ifs,0⟩] scope pos) (i8 wi g tt te nt fv):=by
 intro pins s σ H Q I h;rw[eval_ListComp];refine wpAny_comprehension_free (use:=none) rfl hs S.lV S.kind S.names (aL (hi pins s σ H _ I h) λxv s1 h1=>aL h1 λkD s2 h2=>?_);obtain⟨it,fp,tn,J,H2,rfl,I2,T,cN,f2,hq⟩:=h2;refine CK (RR:=λacc C=>compPost (model X.prog X.w) X.A X.xe none (EP X pins σ Q) acc C) S hc hg ht he I2 T cN f2 hq λD C s' H' m' I' hn hC fC q=>?_;refine⟨m',hn,λh' jQ=>⟨.ref D,H',?_,rfl,q⟩⟩;have eU:=I2.jG hC fC;exact I'.turned (t':=s'.toks) (it:=C) (λb o hb e=>jQ.extBut b o hb e) fC eU.2.1 eU.2.2.2.1 eU.2.2.2.2.1 eU.2.2.2.2.2
theorem Lg{i:Nat}{y:Str}{py CL:Pos}(hN:X.N.Nodup)(eo:X.N[i]? = some y)(hy:Loc X.env.scope y)(S:cF X scope cl N nt fv)(hc:X.calm=true)(hi:PI X tg iter wi)
  (hg:∀C s H fp,PG (bZ X scope cl N C s H fp) tg g) (ht:∀C s H fp,jO (bZ X scope cl N C s H fp) ifs tt) (he:∀C s H fp,PE (bZ X scope cl N C s H fp) elt te)
  (Lh:swapsWith (.ListComp elt [⟨tg,iter,ifs,0⟩] scope pos) (some (.Name y py)) CL.line X.env=pure true:=by rfl)
  (hs:∀x,foldedSetIterable iter X.env x=pure x:=by intro _;rfl) (hf:X.fn y=true\/X.env.scope.names.lookup y=some .local:=by first | exact .inl rfl | exact .inr rfl | assumption) :
  PS X (.Assign [.Name y py] (.ListComp elt [⟨tg,iter,ifs,0⟩] scope pos) CL) (B0 (i8 wi g tt te nt fv) (qk i)):=by
 intro pins s σ H D' I h;rw[exec_Assign_Name_used _ _ _ _ Lh];refine wpAny_bind (wpAny_standAt (wpAny_bind ?_))
 show wpAny _ _ (do let _ ← comprehension (.ListComp elt [⟨tg,iter,ifs,0⟩] scope pos) scope X.env _ (newList []) false (eval iter X.env) (some (assign (.Name y py) X.env))) _ _ s
 refine wpAny_bind (wpAny_mono (wpAny_comprehension_free (use:=some (assign (.Name y py) X.env)) (Q:=λ_ s'=>SP X pins D' .next s') rfl hs S.lV S.kind S.names
  (aL (hi pins s σ H _ I h) λxv s1 h1=>aL h1 λkD s2 h2=>?_)) (λ_ s' hq=>wpAny_pure (wpAny_pure hq)) λ_ _ e=>e)
 obtain⟨it,fp,tn,J,H2,rfl,I2,T,cN,f2,hq⟩:=h2;refine CK (RR:=λacc C=>compPost (model X.prog X.w) X.A X.xe (some (assign (.Name y py) X.env)) (λ_ s'=>SP X pins D' .next s') acc C) (Q:=λx H1=>qk i x σ H1 D'.nx) S hc hg ht he I2 T cN f2 hq λD C s' H' m' I' hn hC fC q=>?_;have eU:=I2.jG hC fC
 show wpAny _ _ (assign (.Name y py) X.env (.ref D)) _ _ _;refine wpAny_assign_Name (BR I' hN eo hy (v:=.ref D) rfl (λnG Li ⟨a,Lj,ha⟩=>?_) hf);have Lk:C≠a:=by
  rcases ha with z | z
  ·rw[z];exact eU.2.1
  ·exact λe=>eU.2.2.2.2.1 y a z e.symm
 refine⟨m',hn.sameBut Lj Lk,λh' jQ=>⟨_,H',?_,q⟩⟩;exact Li.turned (t':=nG.toks) (it:=C) (λb o hb e=>jQ.extBut b o hb e) fC eU.2.1 eU.2.2.2.1 eU.2.2.2.2.1 eU.2.2.2.2.2
end
section
variable{X:Cx}
theorem nQ:gP X (.builtin "isinstance") (λxs H Q=>∃x T t b,xs = [x,.ty T]/\fS X.K H x t/\PySem.W.kitOne X.K t (.type T)=some b/\Q (.bl b) H):=by
 intro pins s σ H xs us Q I r h;obtain⟨x,T,t,b,rfl,ty,e,q⟩:=h;obtain⟨u,v,rfl,ru,rv⟩:=vals2 r;cases (show v=Value.type T from rv);exact J0 I ru ty e λtk=>⟨.bl b,H,I.tok _,rfl,q⟩
theorem Ll{A:Around}{s:Shared}{x:V}{u v:Value}(ru:RelV x u)(rv:RelV x v)(hx:∀b,x≠.iw b)(hb:∀b,x≠.eY b):SeqAt.EqAt A s u v true:=by
 cases x with
 | aF=>cases ru;cases rv;exact SeqAt.EqAt.same _
 | bl b=>cases ru;cases rv;exact SeqAt.EqAt.same _
 | ref a=>cases ru;cases rv;exact SeqAt.EqAt.same _
 | ty n=>cases ru;cases rv;exact SeqAt.EqAt.same _
 | iw b=>exact absurd rfl (hx b)
 | int i =>
  have:=qC (A:=A) (s:=s) ru rv rfl rfl;rwa [show fq (V.int i) (V.int i)=true by simp[fq]] at this
 | str z =>
  have:=qC (A:=A) (s:=s) ru rv rfl rfl;rwa [show fq (V.str z) (V.str z)=true by simp[fq]] at this
 | eY z=>exact absurd rfl (hb z)
theorem Lm(hu:X.A.units<cLine):bU X (compareOp .NotEq) (λx y H Q=>∃(a b:Addr) (xs:List V),x = .ref a/\y = .ref b/\ao X.K H a xs/\ao X.K H b xs/\(∀v∈xs,(∀b,v≠.iw b)/\∀b,v≠.eY b)/\Q (.bl false) H):=by
 rintro pins s σ H x y v u Q I rx ry ⟨a,b,xs,rfl,rfl,ha,hb,hv,q⟩;cases rx;cases ry;obtain⟨aB,r1,p1,z1⟩:=I.list ha;obtain⟨cX,r2,p2,z2⟩:=I.list hb;have l1:=r1.length;have l2:=r2.length;have e0:(!(List.range aB.toArray.size).all λ_=>true)=false:=by simp
 have fin:=SeqAt.RcNeAt.lists (A:=X.A) (s:=s) (e:=λ_=>true) p1.isList p2.isList (by simp;lia) hu (λj h1 h2=>?_) X.prog X.w X.xe (EP X pins σ Q) (by rw[e0];exact⟨.bl false,H,I,rfl,q⟩)
 ·exact fin
 ·have g1:aB[j]? = some aB.toArray[j]:=by
   rw[List.getElem_toArray,List.getElem?_eq_getElem (by simpa using h1)]
  have g2:cX[j]? = some cX.toArray[j]:=by
   rw[List.getElem_toArray,List.getElem?_eq_getElem (by simpa using h2)]
  have hj:j<xs.length:=by rw[l1];simpa using h1
  obtain⟨u1,q1,w1⟩:=r1.get (List.getElem?_eq_getElem hj);obtain⟨u2,q2,w2⟩:=r2.get (List.getElem?_eq_getElem hj);rw[g1] at q1;cases q1;rw[g2] at q2;cases q2;exact Ll w1 w2 (hv _ (List.getElem_mem hj)).1 (hv _ (List.getElem_mem hj)).2
end
noncomputable def AllP{α:Type}(P:α->Prop):List α->Prop
 | []=>True
 | a::r=>P a/\AllP P r
theorem AllP.mem{α:Type}{P:α->Prop}:∀ {l:List α},AllP P l->∀a∈l,P a
 | _::_,h,a,hm=>by
  rcases List.mem_cons.mp hm with rfl | hm
  ·exact h.1
  ·exact AllP.mem h.2 a hm
theorem cF.of{X:Cx}{scope:Scope}{cl:List (Str×Addr)}{N:List Str}{nt:Nat}{fv:List Nat}(lV:closureFor scope X.env=pure cl)(kind:scope.kind = .function)
  (lW:(scope.names.all λy=>y.2 != .cell)=true) (names:(scope.names.all λy=>y.2 != .local || scope.names.lookup y.1 == some .local)=true)
  (sub:AllP (λp:Str×Addr=>X.env.cells.lookup p.1=some p.2) cl) (has:(scope.names.all λy=>y.2 != .free || (cl.lookup y.1).isSome)=true)
  (free:fv.map (λj=>X.N[j]?)=(N.drop nt).map some) (fk:((N.drop nt).all λy=>scope.names.lookup y == some .free && X.env.scope.names.lookup y == some .cell)=true) (le:nt<=N.length) (nd:N.Nodup) :
  cF X scope cl N nt fv where
 lV:=lV
 kind:=kind
 lW:=λy hy=>by have:=List.all_eq_true.mp lW y hy;simpa using this
 names:=λy hy hl=>by have:=List.all_eq_true.mp names y hy;simp[hl] at this;exact this
 sub:=sub.mem
 has:=λy hy hl=>by
  have:=List.all_eq_true.mp has y hy;rw[hl] at this;exact Option.isSome_iff_exists.mp (by simpa only[bne_self_eq_false,Bool.false_or] using this)
 free:=free
 fk:=λy hy=>by have:=List.all_eq_true.mp fk y hy;simpa using this
 le:=le
 nd:=nd
theorem VF{CX:eS}{P:Program}{w:World}{K:PySem.W.Frag}{mg:Str->Option Value}{base:Heap}{N:List Str}{qual:Str}{scope:Scope}{f:Addr}{cd:Value}{A:Around}{outer:List Env}{s:Shared}{H:Hp}{E:XK} :
  (fc CX P w K mg base N qual scope f cd A outer s H E).K=K:=rfl
theorem VG{X:Cx}{E:Value->Shared->Prop}:(X.f_ E).K=X.K:=rfl
theorem VH{X:Cx}{scope:Scope}{cl:List (Str×Addr)}{N:List Str}{C:Addr}{s:Shared}{H:Hp}{fp:List Addr}:(bZ X scope cl N C s H fp).K=X.K:=rfl
noncomputable def xx(ns:List Int)(k:Int):Int:=ns.getD k.toNat 0
noncomputable def xy(K:PySem.W.Frag):Sp:=λvs H Q _=>∃(a:Addr) (ns:List Int) (k:Int),vs = [.ref a,.int k]/\ao K H a (ns.map V.int)/\ns.length<=63/\0<=k/\Q (.int (xx ns k)) H
section
variable{K:PySem.W.Frag}{ta:TA}{tl:TE}{g:TG}{tb:TS}{D:Ends}{σ:St}{H:Hp}
theorem Ln(a:Addr)(xs:List V)(gT:∀Q:VK,Q (.ref a) H->tl σ H Q)(gU:ao K H a xs)(Pv:Nat->St->Hp->Prop)(h0:Pv 0 σ H)(hl:∀i σ H,i<=xs.length->Pv i σ H->ao K H a xs)
  (hs:∀i x σ H,xs[i]? = some x->Pv i σ H->g x σ H λau H2=>tb { D with nx:=Pv (i+1),ct:=Pv (i+1),bk:=D.nx } au H2) (hd:∀σ H,Pv xs.length σ H->D.nx σ H):jI (lK K tl) g tb D σ H :=
 gT _ ⟨a,rfl,⟨xs,gU⟩,B5 Pv h0 hl hs hd⟩
variable{tt:TT}{te:TE}{nt:Nat}{fv:List Nat}{Q:VK}
noncomputable def NX(n i:Nat)(P:Prop):Prop:=∃m',m' < n - i/\m' = n - (i+1)/\i+1<=n/\P
theorem NX.of{n i:Nat}{P:Prop}(hi:i<n)(p:P):NX n i P:=⟨n - (i+1),by lia,rfl,hi,p⟩
end
theorem nR{ns:List Int}{k:Int}(h0:0<=k)(h:k<(ns.length:Int)):c9 (ns.map V.int) k=some (.int (ns.getD k.toNat 0)):=by
 have hk:k.toNat<ns.length:=by lia
 unfold c9 iB;rw[if_pos h0,if_pos (by simpa using h)]
 simp[List.getD_eq_getElem?_getD,List.getElem?_eq_getElem hk]
theorem Lo(a b:String):(Str.ofString a=Str.ofString b)=(a=b):=by
 refine propext ⟨λh=>?_,λh=>by rw[h]⟩
 rw[Str.ofString_eq_toList,Str.ofString_eq_toList] at h;have h:a.toList.map Char.toNat=b.toList.map Char.toNat:=by
  injection h with h;exact Array.toList_inj.mpr h |> λz=>by simpa using h
 have inj:∀(x y:List Char),x.map Char.toNat=y.map Char.toNat->x=y:=by
  intro x
  induction x with
  | nil=>intro y h;cases y with | nil=>rfl | cons c r=>simp at h
  | cons c r ih =>
   intro y h;cases y with
   | nil=>simp at h
   | cons d q =>
    simp only[List.map_cons,List.cons.injEq] at h;rw[ih q h.2,Char.toNat_inj.mp h.1]
 exact String.ext (inj _ _ h)
theorem VI(a b:String):(Str.ofString a == Str.ofString b)=(a == b):=by
 by_cases h:a=b
 ·subst h;simp
 ·have h2:¬ Str.ofString a=Str.ofString b:=by rw[Lo];exact h
  rw[beq_eq_false_iff_ne.mpr h,beq_eq_false_iff_ne.mpr h2]
theorem VJ:sizeLine=16777216:=by decide
theorem take_succ_get{α:Type}{l:List α}{i:Nat}{x:α}(h:l[i]? = some x):l.take (i+1)=l.take i++[x]:=by
 rw[List.take_add_one,h];rfl
theorem gk{α β:Type}{f:α->β}{l:List α}{i:Nat}{y:β}(h:(l.map f)[i]? = some y):∃x,l[i]? = some x/\y=f x:=by
 rw[List.getElem?_map] at h;cases e:l[i]? with
 | none=>rw[e] at h;cases h
 | some x=>rw[e] at h;exact⟨x,rfl,(Option.some.inj h).symm⟩
theorem get_mem{α:Type}{l:List α}{i:Nat}{x:α}(h:l[i]? = some x):x∈l:=List.mem_of_getElem? h
theorem gW{α:Type}{l:List α}{i:Nat}{x:α}(h:l[i]? = some x):i<l.length:=(List.getElem?_eq_some_iff.mp h).1
theorem ah.put{H:Hp}{a:Addr}{o:HO}(h:H a=none):ah H (upd H a o):=λb u e=>by rw[bF (fO e h)];exact e
theorem ah.put2{H H':Hp}{a:Addr}{o:HO}(s:ah H H')(h:H a=none):ah H (upd H' a o):=λb u e=>by rw[bF (fO e h)];exact s b u e
section
variable{X:Cx}{K:PySem.W.Frag}
theorem nT(h:X.K=K):nI X (Ct K):=h▸aW
end
section
variable{K:PySem.W.Frag}{ta:TA}{tl:TE}{g:TG}{tb:TS}{D:Ends}{σ:St}{H:Hp}
theorem rl(a:Addr)(xs:List V)(Pv:Nat->St->Hp->Prop)(gT:∀Q:VK,Q (.ref a) H->tl σ H Q)(gU:ao K H a xs)(h0:Pv 0 σ H)(hl:∀i σ H,i<=xs.length->Pv i σ H->ao K H a xs)
  (hs:∀i x σ H (N:St->Hp->Prop),(∀σ H,Pv (i+1) σ H->N σ H)->xs[i]? = some x->Pv i σ H->g x σ H λau H2=>tb { D with nx:=N,ct:=N,bk:=D.nx } au H2) (hd:∀σ H,Pv xs.length σ H->D.nx σ H):jI (lK K tl) g tb D σ H :=
 Ln a xs gT gU Pv h0 hl (λi x σ H hx p=>hs i x σ H _ (λ_ _ z=>z) hx p) hd
theorem Lp(n:Int)(Pv:Nat->St->Hp->Prop)(nU:∀Q:List V->Hp->Prop,Q [.int n] H->ta σ H Q)(VL : -1000000000000<n)(hn:n<1000000000000)(h0:Pv 0 σ H)
  (hs:∀i σ H (N:St->Hp->Prop),(∀σ H,Pv (i+1) σ H->N σ H)->i<n.toNat->Pv i σ H->g (.int (i:Int)) σ H λau H2=>tb { D with nx:=N,ct:=N,bk:=D.nx } au H2) (hd:∀σ H,Pv n.toNat σ H->D.nx σ H):jI (wA ta) g tb D σ H:=by
 refine nU _ ⟨n,rfl,by lia,by lia,?_⟩
 refine JA Pv h0 (λi σ H hi p=>?_) hd;have e2:(0:Int)+(i:Int)=i:=by lia
 rw[e2];exact hs i σ H _ (λ_ _ z=>z) hi p
noncomputable def lX(K:PySem.W.Frag)(a:Addr)(g:TG)(tb:TS)(D:Ends)(σ:St)(H:Hp):Prop:=(∃xs,ao K H a xs)/\∃W:Nat->Nat->St->Hp->Prop,(∃m,W 0 m σ H)/\∀i m σ H,W i m σ H->
 ((jH K a).stop i H/\D.nx σ H)\/((jH K a).go i H/\∃N:St->Hp->Prop,(∀aJ H',N aJ H'->∃m',m' < m/\W (i+1) m' aJ H')/\∀x H',(jH K a).gK i H x H'->g x σ H' λau H2=>tb { D with nx:=N,ct:=N,bk:=D.nx } au H2)
theorem CM(h:tl σ H λx H1=>∃a,x = .ref a/\lX K a g tb D σ H1):jI (lK K tl) g tb D σ H:=h
theorem lX.by(a:Addr)(xs:List V)(Pv:Nat->St->Hp->Prop)(gU:ao K H a xs)(h0:Pv 0 σ H)(hl:∀i σ H,i<=xs.length->Pv i σ H->ao K H a xs)
  (hs:∀i x σ H (N:St->Hp->Prop),(∀σ H,Pv (i+1) σ H->N σ H)->xs[i]? = some x->Pv i σ H->g x σ H λau H2=>tb { D with nx:=N,ct:=N,bk:=D.nx } au H2) (hd:∀σ H,Pv xs.length σ H->D.nx σ H):lX K a g tb D σ H :=
 ⟨⟨xs,gU⟩,B5 Pv h0 hl (λi x σ H hx p=>hs i x σ H _ (λ_ _ z=>z) hx p) hd⟩
variable{tt:TT}{te:TE}{nt:Nat}{fv:List Nat}{Q:VK}
end
noncomputable def Lq(t:TS):TS:=λD σ H=>∃M:St->Hp->Prop,t { D with nx:=M } σ H/\∀iY H1,M iY H1->D.nx iY H1
theorem b6{X:Cx}{st:Stmt}{t:TS}(h:PS X st t):PS X st (Lq t):=by
 rintro pins s σ H D I ⟨M,hM,k⟩;refine aL (h pins s σ H _ I hM) λf s1 q=>?_;cases f with
 | next=>obtain⟨iY,H1,I1,q⟩:=q;exact⟨iY,H1,I1,k _ _ q⟩
 | brk=>exact q
 | cont=>exact q
 | ret u=>exact q
structure Pl where
 rc:List Int
 VM:Int
 VN:Int
 sw:List Int
 nc:List (Int×Int)
section
variable{K:PySem.W.Frag}{C:Addr}{H H':Hp}{p x:Addr}{P:Pl}{fp:List Addr}
noncomputable def SameBut(x:Addr)(H H':Hp):Prop:=∀b o,H b=some o->b≠x->H' b=some o
theorem SameBut.put{o:HO}(s:SameBut x H H'):SameBut x H (upd H' x o):=λb u e h=>by rw[bF h];exact s b u e h
theorem SameBut.step{H1 H2:Hp}(s:SameBut x H H1)(t:ah H1 H2):SameBut x H H2:=λb u e h=>t _ _ (s b u e h)
theorem SameBut.start{o:HO}:SameBut x H (upd H x o):=λb u e h=>by rw[bF h];exact e
theorem SameBut.of(s:ah H H'):SameBut x H H':=λb u e _=>s _ _ e
end
theorem CN(ns:List Int)(lo hi:Option Int):∃ms:List Int,cW (ns.map V.int) lo hi=ms.map V.int/\ms.length<=ns.length:=by
 refine⟨(ns.drop (_H.c7 (ns.map V.int).length 0 lo)).take (_H.c7 (ns.map V.int).length (ns.map V.int).length hi - _H.c7 (ns.map V.int).length 0 lo),?_,?_⟩
 ·unfold cW;rw[List.map_take,List.map_drop]
 ·rw[List.length_take,List.length_drop];lia
noncomputable def qM(K:PySem.W.Frag):Sp:=λvs H Q _=>∃(a:Addr) (ns:List Int),vs = [.ref a]/\ao K H a (ns.map V.int)/\ns.length<=63/\∀H',Q (.bl true) H'
theorem ite_no{c A B:Prop}[Decidable c](h:¬ c)(b:B):if c then A else B:=by rw[if_neg h];exact b
theorem ite_yes{c A B:Prop}[Decidable c](h:c)(a:A):if c then A else B:=by rw[if_pos h];exact a
section
variable{X:Cx}{CX:eS}{k:Nat}{f C:Addr}{fd:FuncData}{ps:List Str}{sp:Sp}{bN:List V}{ds:List Value}{E:XK}{x m:Str}{p pos apos:Pos}{e:Expr}{es:List Expr}{t:TA}
end
section
variable{X:Cx}
end
section
variable{X:Cx}{pins:List (Addr×Obj)}{σ:St}{H:Hp}{s:Shared}
end
section
variable{X:Cx}
end
section
variable{K:PySem.W.Frag}{ta:TA}{g:TG}{D:Ends}{σ:St}{H:Hp}{tt:TT}{te:TE}{nt:Nat}{fv:List Nat}{Q:VK}
end
noncomputable def VO(cs:List Addr)(m:Str)(sp:Sp)(bN:List V)(E:XK)(ta:TE)(t:TA):TE:=λσ H Q=>ta σ H λx H1=>∃C a dx fs,x = .ref a/\H1 a=some (.ins C dx fs)/\C∈cs/\fs.lookup m=none/\t σ H1 λvs H2=>sp (x::(vs++bN)) H2 Q E
section
variable{X:Cx}{CX:eS}{k:Nat}{f:Addr}{cs:List Addr}{fd:FuncData}{ps:List Str}{sp:Sp}{bN:List V}{ds:List Value}{E:XK}{m:Str}{pos apos:Pos}{o e:Expr}{es:List Expr}{ta:TE}{t:TA}
end
section
variable{K:PySem.W.Frag}{C:Addr}{H H':Hp}{p:Addr}{P:Pl}{fp:List Addr}{mv:Addr}{ms:List V}
end
section
variable{H H':Hp}{a:Addr}{ts:List Addr}{z:List (List Int)}
end
section
variable{ta:TA}{g:TG}{tt:TT}{te:TE}{nt:Nat}{fv:List Nat}{Q:VK}{σ:St}{H:Hp}
theorem CO(n:Int)(Pv:Addr->Nat->List V->St->Hp->Prop)(nU:∀Q:List V->Hp->Prop,Q [.int n] H->ta σ H Q)(b1 : -1000000000000<n)(b2:n<1000000000000)
  (h0:∀D,H D=none->Pv D 0 [] (iD σ nt fv) (upd H D (.lst []))) (hD:∀D i ys σ H,Pv D i ys σ H->H D=some (.lst ys)/\ys.length<sizeLine)
  (hs:∀D i ys au H2 (N:List V->St->Hp->Prop),(∀ys σ H,Pv D (i+1) ys σ H->N ys σ H)->i<n.toNat->Pv D i ys au H2->g (.int (i:Int)) au H2 λbR H4=>tt bR H4 λb H5=>if b=true then te bR H5 λv H6=>H6 D=some (.lst ys)/\N (ys++[v]) bR (upd H6 D (.lst (ys++[v]))) else N ys bR H5)
  (hd:∀D ys au H2,Pv D n.toNat ys au H2->Q (.ref D) H2):i8 (wA ta) g tt te nt fv σ H Q:=by
 refine nU _ ⟨n,rfl,by lia,by lia,λD kR=>?_⟩
 refine⟨λi m ys au H2=>m=n.toNat - i/\i<=n.toNat/\Pv D i ys au H2,⟨_,rfl,Nat.zero_le _,h0 D kR⟩,?_⟩;rintro i m ys au H2 ⟨rfl,eo,p⟩;obtain⟨d1,d2⟩:=hD D i ys au H2 p;refine⟨d1,d2,?_⟩;by_cases bC:i<n.toNat
 ·refine .inr ⟨bC,λx H3 y=>?_⟩;obtain⟨e1,e2⟩:=y;subst e1 e2;have e2:(0:Int)+(i:Int)=i:=by lia
  rw[e2];exact hs D i ys au _ _ (λ_ _ _ z=>NX.of bC z) bC p
 ·have e:i=n.toNat:=by lia
  subst e;exact .inl ⟨Nat.le_refl _,hd D ys au H2 p⟩
end
structure nW(K:PySem.W.Frag)(x qual:Str)(st:Stmt)(f:Addr)(fd:FuncData):Prop where
 ex:∃(oc:Value) (od:Option Addr) (dV kV doc pm:Value) (an:Option Addr) (aN ct:Value) (fh:Array (Option Value)),
  fd=PySem.W.fnOf x qual (eT st) (dF st) (aX st) dV kV doc pm an aN ct/\K.lookup f=some ⟨oc,od,.func fd,fh⟩/\PySem.W.codeIn K aN qual=true
 kp:PySem.W.keepIn K (.ref f)=true
section
variable{P:Program}{w:World}{K:PySem.W.Frag}{mg:Str->Option Value}{base:Heap}
theorem CP{x qual:Str}{st:Stmt}{f:Addr}{oc:Value}{od an:Option Addr}{fh:Array (Option Value)}{dV kV doc pm aN ct:Value}(l:K.lookup f=some ⟨oc,od,.func (PySem.W.fnOf x qual (eT st) (dF st) (aX st) dV kV doc pm an aN ct),fh⟩)
  (c:PySem.W.codeIn K aN qual=true) (k:PySem.W.keepIn K (.ref f)=true):nW K x qual st f (PySem.W.fnOf x qual (eT st) (dF st) (aX st) dV kV doc pm an aN ct):=⟨⟨oc,od,dV,kV,doc,pm,an,aN,ct,fh,rfl,l,c⟩,k⟩
end
section
variable{X:Cx}
theorem Lr{xs:List Bool}{aB:List Value}(r:Vals (xs.map V.bl) aB):aB=xs.map Value.bool:=by
 induction xs generalizing aB with
 | nil=>cases r;rfl
 | cons b xs ih =>
  cases r with
  | cons r1 r2=>cases (show _=Value.bool b from r1);rw[ih r2];rfl
theorem Ls(hc:X.calm=true):gP X (.builtin "all") (λxs H Q=>∃(p:Addr) (bs:List Bool),xs = [.ref p]/\ao X.K H p (bs.map V.bl)/\Q (.bl (bs.all id)) H):=by
 intro pins s σ H xs us Q I r h;obtain⟨p,bs,rfl,hq,q⟩:=h;obtain⟨u,rfl,ru⟩:=vals1 r;cases ru;obtain⟨aB,rv,pl,hz⟩:=I.list hq;have eb:=Lr rv;subst eb;have Lu:p<s.heap.objs.size:=by obtain⟨_,q1,_⟩:=pl.isList;exact Heap.lt_size q1
 refine call_all_walk (wpAny_pyIter_list pl.isList ?_);refine⟨s.heap.objs.size,[s.heap.objs.size,p],[s.heap.objs.size],(bs.map Value.bool).toArray.size,_,_,λi=>(bs[i]?).getD true,rfl,Walks.list (A:=X.A.in1) (I.ok.hd hc) _ p (Nat.ne_of_lt Lu) (bs.map Value.bool).toArray,
  ⟨⟨_,Heap.get?_push_size _ rfl,rfl,rfl⟩,pl.isList.push _⟩,λi v s2 Q2 E2 Lv hw=>?_,λh' tk hk=>?_⟩
 ·have Lw:(bs.map Value.bool)[i]? = some v:=by simpa using Lv
  obtain⟨b,eb,rfl⟩:=gk Lw;simp only[eb,Option.getD_some] at hw;exact wpAny_truthy_bool hw
 ·have e:((List.range (bs.map Value.bool).toArray.size).all λi=>(bs[i]?).getD true)=bs.all id:=by
   rw[List.size_toArray,List.length_map];exact LSm.range_all bs
  rw[e];exact⟨.bl (bs.all id),H,I.kept (LSm.kept_iter hk),rfl,q⟩
noncomputable def VP(ta:TA):TE:=λσ H Q=>ta σ H λvs H1=>∃i j:Int,vs = [.int i,.int j]/\(-1000000000000<i/\i<1000000000000/\-1000000000000<j/\j<1000000000000)/\(j - i).toNat<=1000000/\
 ∀l,H1 l=none->Q (.ref l) (upd H1 l (.lst ((List.range (j - i).toNat).map λ(k:Nat)=>V.int (i+(k:Int)))))
end
structure Ak where
 kind:Str
 first:Int
 many:Int
 marks:List Int
 at_:Int
 cO:Int
 eV:Option Int
 behind:List Int
 early:Bool
noncomputable def b_:Option Int->V
 | none=>.aF
 | some i=>.int i
noncomputable def qN(q:Ak)(m b:Addr):List (Str×V):=[("kind",.str q.kind),("first",.int q.first),("many",.int q.many),("marks",.ref m),("at",.int q.at_),("asker",.int q.cO),("latest",b_ q.eV),("behind",.ref b),("early",.bl q.early)]
structure gm(K:PySem.W.Frag)(C:Addr)(H:Hp)(p:Addr)(q:Ak)(m b dx:Addr):Prop where
 o:H p=some (.ins C dx (qN q m b))
 ms:H m=some (.tup (q.marks.map V.int))
 bh:H b=some (.tup (q.behind.map V.int))
theorem gm.same{K:PySem.W.Frag}{C:Addr}{H H':Hp}{p:Addr}{q:Ak}{m b dx:Addr}(h:gm K C H p q m b dx)(s:ah H H'):gm K C H' p q m b dx:=⟨s _ _ h.o,s _ _ h.ms,s _ _ h.bh⟩
theorem xA{K:PySem.W.Frag}{C:Addr}{H H1:Hp}{x dx m b:Addr}{q:Ak}(s:ah H H1)(nx:H1 x=none)(i_:H1 dx=none)(eu:dx≠x)(hm:H1 m=some (.tup (q.marks.map V.int)))(hb:H1 b=some (.tup (q.behind.map V.int))) :
  ah H (upd (upd (upd H1 dx (.own x)) x (.ins C dx [])) x (.ins C dx (qN q m b)))/\H x=none/\gm K C (upd (upd (upd H1 dx (.own x)) x (.ins C dx [])) x (.ins C dx (qN q m b))) x q m b dx:=by
 have s1:=ah.put (o:=.own x) i_;have Lx:upd H1 dx (.own x) x=none:=by rw[bF (Ne.symm eu)];exact nx
 have s2:ah H1 (upd (upd (upd H1 dx (.own x)) x (.ins C dx [])) x (.ins C dx (qN q m b))):=ah.put2 (s1.trans (ah.put Lx)) nx;exact⟨s.trans s2,s.free nx,⟨aq,s2 _ _ hm,s2 _ _ hb⟩⟩
structure cP(ns:List Int):Prop where
 up:ns.Pairwise (· < ·)
 lo:∀n∈ns,0<=n
 hi:∀n∈ns,n<=99
noncomputable def jR(x:Int)(ns:List Int)(i:Nat):Int:=if i=0 then x else ns.getD (i - 1) 0
theorem cP.step{ns:List Int}(h:cP ns){i:Nat}{n:Int}(e:ns[i]? = some n):jR (-1) ns i+1<=n/\n<=99:=by
 refine⟨?_,h.hi n (get_mem e)⟩;unfold jR;split
 ·have:=h.lo n (get_mem e);lia
 ·have hi:=gW e;obtain⟨h1,e1⟩:=List.getElem?_eq_some_iff.mp e;have e2:ns.getD (i - 1) 0=ns[i - 1]:=by simp[List.getD_eq_getElem?_getD,List.getElem?_eq_getElem (show i - 1<ns.length by lia)]
  have:=List.pairwise_iff_getElem.mp h.up (i - 1) i (by lia) h1 (by lia)
  rw[e2];lia
theorem qO{x:Int}{ns:List Int}{i:Nat}{n:Int}(e:ns[i]? = some n):jR x ns (i+1)=n:=by
 simp[jR,List.getD_eq_getElem?_getD,e]
noncomputable def nX(K:PySem.W.Frag)(H:Hp)(v:V)(ns:List Int):Prop:=(v = .aF/\ns = [])\/∃a,v = .ref a/\(ao K H a (ns.map V.int)\/H a=some (.tup (ns.map V.int)))
structure fU(first many at_ cO:Int)(Ly:Option Int):Prop where
 f0:0<=first
 f1:first<=1000000
 m0:1<=many
 m1:many<=16
 a0:0<=at_
 a1:at_<=1000000000000
 s0:0<=cO
 s1:cO<=20
 l:∀x,Ly=some x->0<=x/\x<=10000000000000
noncomputable def Lz(K:PySem.W.Frag):Sp:=λvs H Q _=>∃(v:V) (ns:List Int),vs = [v]/\nX K H v ns/\∀b H',ah H H'->H' b=some (.tup (ns.map V.int))->Q (.ref b) H'
noncomputable def LA(C:Addr):Sp:=λvs H Q _=>∃(p dx:Addr) (v1 v2 v3 v4 v5 v6 v7 v8 v9:V),vs = [.ref p,v1,v2,v3,v4,v5,v6,v7,v8,v9]/\H p=some (.ins C dx [])/\
 Q .aF (upd H p (.ins C dx [("kind",v1),("first",v2),("many",v3),("marks",v4),("at",v5),("asker",v6),("latest",v7),("behind",v8),("early",v9)]))
section
variable{K:PySem.W.Frag}{tl:TE}{g:TG}{tb:TS}{D:Ends}{σ:St}{H:Hp}
theorem rt(a:Addr)(xs:List V)(Pv:Nat->St->Hp->Prop)(gT:∀Q:VK,Q (.ref a) H->tl σ H Q)(gU:aK K H a xs)(h0:Pv 0 σ H)(hl:∀i σ H,i<=xs.length->Pv i σ H->aK K H a xs)
  (hs:∀i x σ H (N:St->Hp->Prop),(∀σ H,Pv (i+1) σ H->N σ H)->xs[i]? = some x->Pv i σ H->g x σ H λau H2=>tb { D with nx:=N,ct:=N,bk:=D.nx } au H2) (hd:∀σ H,Pv xs.length σ H->D.nx σ H):jI (wz K tl) g tb D σ H :=
 gT _ ⟨a,rfl,⟨xs,gU⟩,Jz Pv h0 hl (λi x σ H hx p=>hs i x σ H _ (λ_ _ z=>z) hx p) hd⟩
end
noncomputable def f2(o:Obj):Option Value:=match o.data with
 | .fields vs=>vs[2]?
 | _=>none
noncomputable def Dk(h h':Heap):Prop:=∀(b:Nat) (o:Obj),h.objs[b]? = some o->∃o':Obj,h'.objs[b]? = some o'/\o'.dict=o.dict/\f2 o' = f2 o
theorem Dk.refl(h:Heap):Dk h h:=λ_ o e=>⟨o,e,rfl,rfl⟩
theorem Dk.push{h h':Heap}(k:Dk h h')(o:Obj):Dk h (h'.push o):=λb ob e=>by
 obtain⟨o',e',d⟩:=k b ob e;refine⟨o',?_,d⟩
 show (h'.objs.push o)[b]? = some o';rw[Array.getElem?_push];have:b<h'.objs.size:=(Array.getElem?_eq_some_iff.mp e').1;rw[if_neg (by lia)];exact e'
theorem Dk.upd{h h':Heap}(k:Dk h h'){a:Addr}{f:Obj->Obj}(hf:∀o,(f o).dict=o.dict/\f2 (f o)=f2 o):Dk h (h'.update a f):=λb ob e=>by
 obtain⟨o',e',d⟩:=k b ob e;by_cases hb:a=b
 ·subst hb;exact⟨f o',by show (h'.objs.modify a f)[a]? = _;rw[Array.getElem?_modify,if_pos rfl,e'];rfl,(hf o').1.trans d.1,(hf o').2.trans d.2⟩
 ·exact⟨o',by show (h'.objs.modify a f)[b]? = _;rw[Array.getElem?_modify,if_neg hb];exact e',d⟩
theorem CQ{h:Heap}{a:Addr}{o:Obj}(e:h.get? a=some o):h.objs[a]? = some o:=by
 unfold Heap.get? at e;split at e
 ·cases e
 ·exact e
theorem Dk.at{h h':Heap}(k:Dk h h'){a:Addr}{o o':Obj}(e:h.get? a=some o)(e':h'.get? a=some o'):o'.dict=o.dict/\f2 o' = f2 o:=by
 obtain⟨o2,q,d⟩:=k a o (CQ e);have:=CQ e';rw[q] at this;cases this;exact d
noncomputable def KD{α:Type}:Sem α->Prop
 | .pure _=>True
 | .raise _=>True
 | .unsupported _=>True
 | .finish _=>True
 | .rule _ k=>KD (k ())
 | .at _ k=>KD (k ())
 | .load _ _ k=>∀o,KD (k o)
 | .update _ _ f k=>(∀o,(f o).dict=o.dict/\f2 (f o)=f2 o)/\KD (k ())
 | .alloc _ k=>∀a,KD (k a)
 | .loadIfAlive _ k=>∀o,KD (k o)
 | .point _ k=>KD (k ())
 | .register _ _=>True
 | .fresh k=>∀t,KD (k t)
 | .ask k=>∀x,KD (k x)
 | .choose _ _ k=>∀n,KD (k n)
 | .os _ _ k=>∀r,KD (k r)
 | .call .. => False
 | .handled _ k=>∀x,KD (k x)
 | .newGen _ k=>∀n,KD (k n)
 | .genState _ k=>∀x,KD (k x)
 | .resume .. => False
 | .yield .. => True
 | .stack k=>∀x,KD (k x)
 | .fork .. => True
 | .thread k=>∀n,KD (k n)
 | .await .. => True
theorem KD.wp{α:Type}{M:Model}{Γ:PySem.Ctx}{Q:α->Pos->Shared->Prop}{E:Value->Pos->Shared->Prop}{h0:Heap}(t:Sem α):KD t->∀p (s:Shared),Dk h0 s.heap->Sem.wp M Γ t Q E p s->
  Sem.wp M Γ t (λa p s'=>Q a p s'/\Dk h0 s'.heap) (λe p s'=>E e p s'/\Dk h0 s'.heap) p s:=by
 induction t with
 | pure a=>exact λ_ p s d h=>by rw[Sem.wp] at h ⊢;exact⟨h,d⟩
 | raise e=>exact λ_ p s d h=>by rw[Sem.wp] at h ⊢;exact⟨h,d⟩
 | unsupported _=>exact λ_ p s d h=>by rw[Sem.wp] at h;exact h.elim
 | finish _=>exact λ_ p s d h=>by rw[Sem.wp] at h;exact h.elim
 | rule _ k ih=>exact λq p s d h=>by rw[Sem.wp] at h ⊢;exact ih () q p s d h
 | «at» _ k ih=>exact λq p s d h=>by rw[Sem.wp] at h ⊢;exact ih () q _ s d h
 | load a _ k ih=>exact λq p s d h=>by rw[Sem.wp] at h ⊢;obtain⟨o,e,h⟩:=h;exact⟨o,e,ih o (q o) p s d h⟩
 | update a _ f k ih=>exact λq p s d h=>by rw[Sem.wp] at h ⊢;exact⟨h.1,ih () q.2 p _ (d.upd q.1) h.2⟩
 | alloc o k ih=>exact λq p s d h=>by rw[Sem.wp] at h ⊢;exact ih _ (q _) p _ (d.push o) h
 | loadIfAlive a k ih=>exact λq p s d h=>by rw[Sem.wp] at h ⊢;exact ih _ (q _) p s d h
 | point _ k ih=>exact λq p s d h=>by rw[Sem.wp] at h ⊢;exact ih () q p s d h
 | register _ k ih=>exact λq p s d h=>by rw[Sem.wp] at h;exact h.elim
 | fresh k ih=>exact λq p s d h=>by rw[Sem.wp] at h ⊢;exact ih _ (q _) p _ d h
 | ask k ih=>exact λq p s d h=>by rw[Sem.wp] at h ⊢;exact ih _ (q _) p _ d h
 | choose src n k ih=>exact λq p s d h=>by rw[Sem.wp] at h ⊢;exact⟨h.1,ih _ (q _) p _ d h.2⟩
 | os r _ k ih=>exact λq p s d h=>by rw[Sem.wp] at h ⊢;exact ih _ (q _) p _ d h
 | call c hd g l k ih=>exact λq p s d h=>False.elim q
 | handled own k ih=>exact λq p s d h=>by rw[Sem.wp] at h ⊢;exact ih _ (q _) p _ d h
 | newGen c k ih=>exact λq p s d h=>by rw[Sem.wp] at h ⊢;exact ih _ (q _) p _ d h
 | genState g k ih=>exact λq p s d h=>by rw[Sem.wp] at h ⊢;obtain⟨o,e,h⟩:=h;exact⟨o,e,ih _ (q _) p s d h⟩
 | resume g r l k ih=>exact λq p s d h=>False.elim q
 | yield v g l k ih=>exact λq p s d h=>by rw[Sem.wp] at h;exact h.elim
 | stack k ih=>exact λq p s d h=>by rw[Sem.wp] at h ⊢;exact ih _ (q _) p _ d h
 | fork c k ih=>exact λq p s d h=>by rw[Sem.wp] at h;exact h.elim
 | thread k ih=>exact λq p s d h=>by rw[Sem.wp] at h ⊢;exact ih _ (q _) p _ d h
 | await a t d l k ih=>exact λq p s d h=>by rw[Sem.wp] at h;exact h.elim
theorem KD.any{α:Type}{M:Model}{A:Around}{t:Sem α}{Q:α->Shared->Prop}{E:Value->Shared->Prop}{s:Shared}(k:KD t)(h:wpAny M A t Q E s):wpAny M A t (λa s'=>Q a s'/\Dk s.heap s'.heap) (λe s'=>E e s'/\Dk s.heap s'.heap) s :=
 λΓ p LB=>k.wp (h0:=s.heap) t p s (Dk.refl _) (h Γ p LB)
theorem KD.bind{α β:Type}{f:α->Sem β}(hf:∀a,KD (f a)):∀(m:Sem α),KD m->KD (m >>= f):=by
 intro m
 show KD m->KD (Sem.bind m f)
 induction m with
 | pure a=>exact λ_=>hf a
 | raise e=>exact λ_=>trivial
 | unsupported _=>exact λ_=>trivial
 | finish _=>exact λ_=>trivial
 | rule _ k ih=>exact λq=>ih () q
 | «at» _ k ih=>exact λq=>ih () q
 | load a _ k ih=>exact λq o=>ih o (q o)
 | update a _ f k ih=>exact λq=>⟨q.1,ih () q.2⟩
 | alloc o k ih=>exact λq a=>ih a (q a)
 | loadIfAlive a k ih=>exact λq o=>ih o (q o)
 | point _ k ih=>exact λq=>ih () q
 | register _ k ih=>exact λq=>trivial
 | fresh k ih=>exact λq a=>ih a (q a)
 | ask k ih=>exact λq a=>ih a (q a)
 | choose src n k ih=>exact λq a=>ih a (q a)
 | os r _ k ih=>exact λq a=>ih a (q a)
 | call c hd g l k ih=>exact λq=>q
 | handled own k ih=>exact λq a=>ih a (q a)
 | newGen c k ih=>exact λq a=>ih a (q a)
 | genState g k ih=>exact λq a=>ih a (q a)
 | resume g r l k ih=>exact λq=>q
 | yield v g l k ih=>exact λq=>trivial
 | stack k ih=>exact λq a=>ih a (q a)
 | fork c k ih=>exact λq=>trivial
 | thread k ih=>exact λq a=>ih a (q a)
 | await a t d l k ih=>exact λq=>trivial
theorem KD.ite{α:Type}{c:Prop}[Decidable c]{a b:Sem α}(ha:KD a)(hb:KD b):KD (if c then a else b):=by split <;> assumption
theorem xB{i:Nat}(hi:i≠2)(v:Value)(o:Obj):(Obj.mapFields (·.setIfInBounds i v) o).dict=o.dict/\f2 (Obj.mapFields (·.setIfInBounds i v) o)=f2 o:=by
 obtain⟨c,d,dt,sl⟩:=o;cases dt <;> first | exact⟨rfl,rfl⟩ | (refine⟨rfl,?_⟩;show (Array.setIfInBounds _ i v)[2]? = _;rw[Array.getElem?_setIfInBounds_ne hi];rfl)
theorem KD.then{α β:Type}{m:Sem α}{f:α->Sem β}(hm:KD m)(hf:∀a,KD (f a)):KD (m >>= f):=KD.bind hf m hm
theorem qP(v:Value)(i:Nat):KD (field v i):=by
 unfold field fieldsOf load;repeat' first | exact trivial | exact λ_=>trivial | assumption | exact⟨xB (by assumption) _,trivial⟩ | exact⟨λ_=>⟨rfl,rfl⟩,trivial⟩ | refine KD.ite ?_ ?_ | refine KD.then ?_ λ_=>?_ | split
theorem xC(v:Value){i:Nat}(hi:i≠2)(x:Value):KD (setField v i x):=by
 unfold setField updateField load update;repeat' first | exact trivial | exact λ_=>trivial | assumption | exact⟨xB (by assumption) _,trivial⟩ | exact⟨λ_=>⟨rfl,rfl⟩,trivial⟩ | refine KD.ite ?_ ?_ | refine KD.then ?_ λ_=>?_ | split
theorem xD(e:Value)(f:Option Addr):KD (setFlight e f):=by
 have h1:=qP e 1;unfold setFlight;refine KD.then h1 λtb=>KD.ite ?_ ?_
 ·exact xC _ (by decide) _
 ·trivial
theorem CS:∀l,KD (readyFrames l)
 | []=>trivial
 | env::outer=>by
  have ih:=CS outer;have hf:=λv i=>qP v i;unfold readyFrames;split
  ·refine KD.then (λ_=>trivial) λo=>?_
   refine KD.ite trivial ?_;refine KD.then ?_ λi=>KD.then ?_ λb=>?_
   ·unfold behindIsImport;refine KD.ite trivial (KD.ite trivial ?_);exact KD.then (hf _ _) λ_=>(trivial:KD (.pure _))
   ·unfold keptBack underTheClaimsCaller stack;split
    ·refine KD.ite trivial ?_;refine KD.then ?_ λ_=>(trivial:KD (.pure _));exact λ_=>trivial
    ·trivial
   ·refine KD.then (m:=update _ _) ⟨λ_=>⟨rfl,rfl⟩,trivial⟩ λ_=>?_
    exact ih
  ·trivial
theorem LC(env:Env):KD (PySem.frameOf env):=by
 unfold PySem.frameOf;refine KD.then ?_ λl=>?_
 ·unfold frameEnvs stack;exact λ_=>trivial
 ·refine KD.then ?_ λa=>?_
  ·unfold frameObject;split
   ·trivial
   ·refine KD.then (CS _) λ_=>?_
    trivial
  ·split <;> trivial
theorem LD(ty:String)(vs:List Value):KD (newFields ty vs):=by
 unfold newFields newObj newObjAsIs alloc;repeat' first | exact trivial | exact λ_=>trivial | assumption | exact⟨xB (by assumption) _,trivial⟩ | exact⟨λ_=>⟨rfl,rfl⟩,trivial⟩ | refine KD.ite ?_ ?_ | refine KD.then ?_ λ_=>?_ | split
theorem LF(f:Addr)(b:Bool):KD (entryPlaceOf f b):=by
 unfold entryPlaceOf;refine KD.then (m:=stack) (λ_=>trivial) λl=>?_
 split <;> trivial
theorem CT(e:Value)(env:Env):KD (noteFrame e env):=by
 have last:∀head f,KD (do setField e 1 (← EntryCells.newEntry head (← PySem.frameOf env) .none (rawInt f) .none (← entryPlaceOf f (head != .none)))):=λhead f =>
  KD.then (LC _) λa=>KD.then (LF _ _) λp=>KD.then (LD _ _) λx=>xC _ (by decide) _
 unfold noteFrame;split
 ·refine KD.then (qP _ _) λhead=>?_
  refine KD.ite ?_ ?_
  ·refine KD.then (qP _ _) λx=>?_
   refine KD.ite trivial ?_;refine KD.then (xC _ (by decide) _) λ_=>?_
   exact last _ _
  ·exact last _ _
 ·trivial
theorem CU(env:Env)(e:Value):KD (leaving env e):=KD.then (CT _ _) λ_=>xD _ _
noncomputable def ez(h:Heap)(a:Addr)(od:Option Addr):Prop:=∃oe,h.get? a=some oe/\oe.dict=od.map (· / 2)/\(od.getD 0 % 2=0->f2 oe=some .none)
theorem ez.dk{h h':Heap}{a:Addr}{od:Option Addr}(x:ez h a od)(k:Dk h h')(th:∃o,h'.get? a=some o):ez h' a od :=
 let ⟨_,e,d,c⟩:=x;let ⟨o',e'⟩:=th;⟨o',e',(k.at e e').1.trans d,λy=>(k.at e e').2.trans (c y)⟩
section
variable{M:Model}{A:Around}{E:Value->Shared->Prop}{s:Shared}{base:Heap}{env:Env}{l outer:List Env}{L e:Addr}{cls a0:Value}{od:Option Addr}{Q:Unit->Shared->Prop}
theorem LG(jc:A.frames=some (env::outer))(hf:env.frame=some L)(xE:Heap.FlyingW base (env::outer) e cls a0 s.heap)(hd:ez s.heap e od)
  (hQ:∀h',Heap.FlyingW base outer e cls a0 h'->s.heap.UpToSlots h'->ez h' e od->Q () { s with heap:=h' }):wpAny M A (leaving env (.ref e)) Q E s:=by
 refine wpAny_mono ((CU env (.ref e)).any (wpAny_leaves_onW (E:=E) (Q:=λ_ s2=>∃h',Heap.FlyingW base outer e cls a0 h'/\s.heap.UpToSlots h'/\s2 = { s with heap:=h' }) jc hf xE λh' x1 x2=>⟨h',x1,x2,rfl⟩)) (λu s2 z=>?_) λ_ _ z=>z.1;obtain⟨⟨h',x1,x2,rfl⟩,k⟩:=z;obtain⟨o,q,_⟩:=x1.there;exact hQ h' x1 x2 (hd.dk k ⟨o,q⟩)
theorem LH(jc:A.frames=some (env::outer))(hf:env.frame=some L)(xE:Heap.FlyingW base (env::outer) e cls a0 s.heap)(hd:ez s.heap e od)
  (hQ:∀h',Heap.HeldW base (env::outer) e cls a0 L h'->s.heap.UpToSlots h'->ez h' e od->Q () { s with heap:=h' }):wpAny M A (noteFrame (.ref e) env) Q E s:=by
 refine wpAny_mono ((CT (.ref e) env).any (wpAny_looks_onW (E:=E) (Q:=λ_ s2=>∃h',Heap.HeldW base (env::outer) e cls a0 L h'/\s.heap.UpToSlots h'/\s2 = { s with heap:=h' }) jc hf xE λh' x1 x2=>⟨h',x1,x2,rfl⟩)) (λu s2 z=>?_) λ_ _ z=>z.1;obtain⟨⟨h',x1,x2,rfl⟩,k⟩:=z;obtain⟨o,q,_⟩:=x1.there;exact hQ h' x1 x2 (hd.dk k ⟨o,q⟩)
theorem LI(hh:Heap.HeldW base l e cls a0 L s.heap)(hd:ez s.heap e od)
  (hQ:∀h',Heap.FlyingW base l e cls a0 h'->s.heap.UpToSlots h'->ez h' e od->Q () { s with heap:=h' }):wpAny M A (setFlight (.ref e) none) Q E s:=by
 refine wpAny_mono ((xD (.ref e) none).any (wpAny_landsW (E:=E) (Q:=λ_ s2=>∃h',Heap.FlyingW base l e cls a0 h'/\s.heap.UpToSlots h'/\s2 = { s with heap:=h' }) hh λh' x1 x2=>⟨h',x1,x2,rfl⟩)) (λu s2 z=>?_) λ_ _ z=>z.1;obtain⟨⟨h',x1,x2,rfl⟩,k⟩:=z;obtain⟨o,q,_⟩:=x1.there;exact hQ h' x1 x2 (hd.dk k ⟨o,q⟩)
theorem LJ(hh:Heap.FlyingW base l e cls a0 s.heap)(hd:ez s.heap e od)
  (hQ:∀h',Heap.FlyingW base l e cls a0 h'->s.heap.UpToSlots h'->ez h' e od->Q () { s with heap:=h' }):wpAny M A (setFlight (.ref e) none) Q E s:=by
 refine wpAny_mono ((xD (.ref e) none).any (lands_againW (E:=E) (Q:=λ_ s2=>∃h',Heap.FlyingW base l e cls a0 h'/\s.heap.UpToSlots h'/\s2 = { s with heap:=h' }) hh λh' x1 x2=>⟨h',x1,x2,rfl⟩)) (λu s2 z=>?_) λ_ _ z=>z.1;obtain⟨⟨h',x1,x2,rfl⟩,k⟩:=z;obtain⟨o,q,_⟩:=x1.there;exact hQ h' x1 x2 (hd.dk k ⟨o,q⟩)
theorem LK{oe:Obj}{vs:Array Value}(jc:A.frames=some (env::outer))(hf:env.frame=some L)(LL:base.StaysIn s.heap)(hl:s.heap.FunFrames base (env::outer))(he:s.heap.get? e=some oe)(CV:base.get? e=none)
  (LM:oe.data = .fields vs) (h1:vs[1]? = some .none) (h0:vs[0]? = some a0) (hd:ez s.heap e od)
  (hQ:∀h',Heap.FlyingW base outer e oe.cls a0 h'->s.heap.UpToSlots h'->ez h' e od->Q () { s with heap:=h' }):wpAny M A (leaving env (.ref e)) Q E s:=by
 refine wpAny_mono ((CU env (.ref e)).any (wpAny_leaving_firstW (E:=E) (Q:=λ_ s2=>∃h',Heap.LeftW base (env::outer) e oe.cls a0 s.heap h'/\s2 = { s with heap:=h' }) jc hl hf he LL CV LM h1 h0 λh' x=>⟨h',x,rfl⟩)) (λu s2 z=>?_) λ_ _ z=>z.1;obtain⟨⟨h',⟨k1,⟨_,_,k2⟩,k3,k4⟩,rfl⟩,k⟩:=z;have fl:Heap.FlyingW base outer e oe.cls a0 h':=⟨k1,CV,k2,k3⟩;obtain⟨o,q,_⟩:=fl.there;exact hQ h' fl k4 (hd.dk k ⟨o,q⟩)
end
theorem bV.there{P:Program}{w:World}{H:Hp}{h:Heap}{a:Addr}{o:HO}(x:bV P w H h)(e:H a=some o):∃u,h.get? a=some u:=by
 have x:=x a o e;cases o with
 | lst xs=>obtain⟨_,_,_,_,e⟩:=x;exact⟨_,e⟩
 | tup xs=>obtain⟨_,_,_,ob,e,_⟩:=x;exact⟨_,e⟩
 | dK br=>obtain⟨_,_,_,_,o,_,_,e,_⟩:=x;exact⟨_,e⟩
 | dT br=>obtain⟨_,_,_,_,o,_,_,e,_⟩:=x;exact⟨_,e⟩
 | set S n=>obtain⟨o,_,_,_,e,_⟩:=x;exact⟨_,e⟩
 | ins C dx fs=>obtain⟨_,_,_,e,_⟩:=x;exact⟨_,e⟩
 | own y=>obtain⟨_,e⟩:=x;exact⟨_,e⟩
 | xd fs=>obtain⟨_,⟨_,_,_,e,_⟩,_⟩:=x;exact⟨_,e⟩
 | qb lo hi=>obtain⟨_,_,_,e⟩:=x;exact⟨_,e⟩
 | eZ ob u=>obtain⟨e,_⟩:=x;exact⟨_,e⟩
 | jD ps=>exact⟨_,(show h.get? a=some _ from x)⟩
 | met f y=>exact⟨_,(show h.get? a=some _ from x)⟩
 | ext φ=>obtain⟨_,⟨_,e⟩,_⟩:=x;exact⟨_,e⟩
structure Cut(base B:Heap)(outer:List Env)(H H':Hp)(h:Heap):Prop where
 stays:base.StaysIn B
 k1:∀b o,h.get? b=some o->H b=none->b∉bH outer->B.get? b=some o
 k2:∀b u,H' b=some u->∃o,B.get? b=some o
 k3:∀b o,h.get? b=some o->b∉bH outer->∃o',B.get? b=some o'
noncomputable def cg(P:Program)(w:World)(base:Heap):eS:=λouter H s E e s' =>
 ∃a C a0 H' B od,e = .ref a/\s'.os=s.os/\AllBare s'.gens/\Un (bH outer) [] H H' s.heap s'.heap/\bV P w H' s'.heap/\H' a=none/\s.heap.get? a=none/\
  Cut base B outer H H' s.heap/\Heap.FlyingW B outer a (.ref C) a0 s'.heap/\ez s'.heap a od/\E (.ref C) od H'
section
variable{P:Program}{w:World}{K:PySem.W.Frag}{mg:Str->Option Value}{base B:Heap}{N:List Str}{qual:Str}{scope:Scope}{f:Addr}{cd:Value}{A:Around}{outer:List Env}{aZ sc s':Shared}{dM Hc H':Hp}{E:XK}
 {pins:List (Addr×Obj)} {σ:St} {a C:Addr} {a0:Value} {h':Heap} {od:Option Addr}
theorem CY:bH (envOfC qual scope aZ.heap.objs.size f cd::outer)=aZ.heap.objs.size::bH outer:=rfl
theorem CZ(I:Inv (fc (cg P w base) P w K mg base N qual scope f cd A outer aZ dM E) pins σ Hc sc)(u:Un (bH (envOfC qual scope aZ.heap.objs.size f cd::outer)) [] Hc H' sc.heap s'.heap)(ho:s'.os=sc.os)(hg:AllBare s'.gens)(aG:bV P w H' s'.heap)
  (na:H' a=none) (nh:sc.heap.get? a=none) (c:Cut base B (envOfC qual scope aZ.heap.objs.size f cd::outer) Hc H' sc.heap) (kB:B.StaysIn s'.heap) (cY:Heap.FlyingW B outer a (.ref C) a0 h') (up:s'.heap.UpToSlots h') (hd:ez h' a od) (hE:E (.ref C) od H') :
  cg P w base outer dM aZ E (.ref a) { s' with heap:=h' }:=by
 have J:=I.qg ho u aG hg (λ_ z=>nomatch z);have bs:Un (bH outer) [] dM Hc aZ.heap sc.heap:=I.base;have nY:Un (bH outer) [] dM H' aZ.heap s'.heap:=J.base;have nl:∀b o,aZ.heap.get? b=some o->b∉bH outer->b∉bH (envOfC qual scope aZ.heap.objs.size f cd::outer):=λb o q n z=>by
  rw[CY] at z;rcases List.mem_cons.mp z with e | z
  ·exact absurd (Heap.lt_size q) (by rw[e];exact Nat.lt_irrefl _)
  ·exact n z
 have k1:∀b o,aZ.heap.get? b=some o->dM b=none->b∉bH outer->B.get? b=some o:=λb o q n hb =>
  c.k1 b o (bs.keep b o q n hb (by simp)) (bs.free b o q n (by simp)) (nl b o q hb)
 have k3:∀b o,aZ.heap.get? b=some o->b∉bH outer->∃o',B.get? b=some o':=λb o q hb =>
  let ⟨o1,q1⟩:=bs.there b o q (by simp);c.k3 b o1 q1 (nl b o q hb)
 have sl:∀b o,aZ.heap.get? b=some o->dM b=none->b∈bH outer->∃sl,h'.get? b=some { o with slots:=sl }:=λb o q n hb=>by
  obtain⟨sl,q1⟩:=nY.slot b o q n hb (by simp)
  obtain⟨_,o2,q2,nf⟩:=I.ok.eK.mem hb;have q2:aZ.heap.get? b=some o2:=q2;rw[q] at q2;cases q2;obtain⟨lT,q3⟩:=up b _ q1 nf;exact⟨lT,q3⟩
 refine⟨a,C,a0,H',B,od,rfl,J.os,hg,⟨λb o q n hb _=>cY.1 _ _ (k1 b o q n hb),λb o q n hb _=>sl b o q n hb,nY.free,λb o q _=>?_,nY.fY,nY.fP,nY.fZ⟩,λb v e=>?_,na,?_,⟨c.stays,k1,c.k2,k3⟩,cY,hd,hE⟩
 ·by_cases hb:b∈bH outer
  ·obtain⟨sl,q1⟩:=sl b o q (I.ok.gH b hb) hb;exact⟨_,q1⟩
  ·obtain⟨o',q1⟩:=k3 b o q hb;exact⟨o',cY.1 _ _ q1⟩
 ·refine(aG b v e).iS (λd z hd q=>?_) (λ_ q=>q) λ_ _ q=>q;have tr:∃v',H' d=some v':=by
   rcases hd with rfl | hd
   ·exact⟨_,e⟩
   ·exact⟨_,hd⟩
  obtain⟨v',e'⟩:=tr;obtain⟨o,q1⟩:=c.k2 d v' e';have:=kB d o q1;rw[q] at this;cases this;exact cY.1 _ _ q1
 ·cases q:aZ.heap.get? a with
  | none=>rfl
  | some o =>
   obtain⟨o1,q1⟩:=bs.there a o q (by simp)
   rw[nh] at q1;cases q1
theorem bJ:Passes (cg P w base) (fc (cg P w base) P w K mg base N qual scope f cd A outer aZ dM E) E:=by
 intro pins σ H s e s' I hx;obtain⟨a,C,a0,H',B,od,rfl,ho,hg,u,aG,na,nh,c,cY,hd,hE⟩:=hx
 show wpAny _ _ (leaving _ _) _ _ _;exact LG I.ok.frames rfl cY hd λh' x1 x2 x3=>CZ I u ho hg aG na nh c cY.1 x1 x2 x3 hE
theorem LN{h1:Heap}{vs:List Value}(I:Inv (fc (cg P w base) P w K mg base N qual scope f cd A outer aZ dM E) pins σ Hc sc)(hx:Heap.MadeExcOf sc.heap h1 a (.ref C) vs)(hE:E (.ref C) none Hc) :
  (fc (cg P w base) P w K mg base N qual scope f cd A outer aZ dM E).xe (.ref a) { sc with heap:=h1 }:=by
 show wpAny _ _ (leaving _ _) _ _ _;have fr:sc.heap.FunFrames base (envOfC qual scope aZ.heap.objs.size f cd::outer):=I.stack;have free:∀b∈bH (envOfC qual scope aZ.heap.objs.size f cd::outer),Hc b=none:=λb hb=>by
  rw[CY] at hb;rcases List.mem_cons.mp hb with rfl | hb
  ·exact I.free
  ·obtain⟨_,o,q,_⟩:=I.ok.eK.mem hb;exact I.base.free b o q (I.ok.gH b hb) (by simp[fc])
 have nb:∀b o,base.get? b=some o->b∉bH (envOfC qual scope aZ.heap.objs.size f cd::outer):=λb o q hm=>by
  have z:=(fr.mem hm).1;rw[q] at z;cases z
 have c:Cut base (PySem.W.hideAll sc.heap (bH (envOfC qual scope aZ.heap.objs.size f cd::outer))) (envOfC qual scope aZ.heap.objs.size f cd::outer) Hc Hc sc.heap :=
  ⟨λb o q=>PySem.W.hideAll_get _ (I.bk b o q) (nb b o q),
   λb o q _ hb=>PySem.W.hideAll_get _ q hb,
   λb v e=>let ⟨o,q⟩:=I.aG.there e;⟨o,PySem.W.hideAll_get _ q λhm=>(Option.some_ne_none v (e.symm.trans (free b hm))).elim⟩,
   λb o q hb=>⟨o,PySem.W.hideAll_get _ q hb⟩⟩
 have na:Hc a=none:=by
  cases e:Hc a with
  | none=>rfl
  | some v =>
   obtain⟨o,q⟩:=I.aG.there e;rw[hx.new] at q;cases q
 obtain⟨t,he,VQ,ht⟩:=hx.there;refine LK (s:={ sc with heap:=h1 }) (e:=a) (oe:={ cls:=.ref C,data:=.fields #[.ref t,.none,.none,.none,.bool false,.none] }) (a0:=.ref t) I.ok.frames rfl (base:=PySem.W.hideAll sc.heap (bH (envOfC qual scope aZ.heap.objs.size f cd::outer))) (λb o q=>hx.keeps b o (PySem.W.of_hideAll _ q))
  ((PySem.W.funFrames_hide fr λenv he b hb=>List.mem_filterMap.mpr ⟨env,he,hb⟩).of_keeps λb o hb _=>⟨o,hx.keeps b o hb,rfl⟩) he ?_ rfl rfl rfl (od:=none) ⟨_,he,rfl,λ_=>rfl⟩ λh' x1 x2 x3=>?_
 ·cases q:(PySem.W.hideAll sc.heap (bH (envOfC qual scope aZ.heap.objs.size f cd::outer))).get? a with
  | none=>rfl
  | some o=>have:=PySem.W.of_hideAll _ q;rw[hx.new] at this;cases this
 exact CZ (s':={ sc with heap:=h1 }) I (Un.kept hx.keeps) rfl I.bare (I.aG.kept hx.keeps) na hx.new c (λb o q=>hx.keeps b o (PySem.W.of_hideAll _ q)) x1 x2 x3 hE
end
theorem LO{K:PySem.W.Frag}{h₀:Heap}{C:Addr}{fV:List Value}{newId:String}(X:K.In h₀)(q:PySem.W.excIn K C fV newId=true) :
  ∃bm N nm q bs hdct sn sub ab col dd k0 k1 k2 k3 k5 mN,h₀.get? C=some (excClassObj nm q C N bs bm hdct sn sub ab col dd k0 k1 k2 k3 k5 newId)/\h₀.Ns N mN/\mN "__init__" = none/\OwnTail h₀ fV bm:=by
 unfold PySem.W.excIn at q;cases e:K.lookup C with
 | none=>rw[e] at q;cases q
 | some o =>
  rw[e] at q;split at q
  ·rename_i dd cd sl ho;cases ho;split at q
   ·rename_i C' bm k0 k1 k2 k3 n k5 hm hs;simp only[Bool.and_eq_true,beq_iff_eq,Bool.not_eq_true'] at q;obtain⟨⟨⟨⟨⟨c1,c2⟩,c3⟩,c4⟩,c5⟩,c6⟩:=q;obtain⟨nm,bs,mro,ns,qn,hd,sn,sub,ab,col,del⟩:=cd;obtain⟨l⟩:=sl;dsimp only at hm hs c3 c5 c6;subst c1 c2 hm c3 hs;exact⟨bm,ns,nm,qn,bs,hd,sn,sub,ab,col,dd,k0,k1,k2,k3,k5,_,X _ _ e,.of_isNs (PySem.W.isNs_of_in X c5),PySem.W.nsMap_none_of_in X c5 c6,PySem.W.tail_of_in X c4⟩
   ·cases q
  ·cases q
noncomputable def Makes(X:Cx)(E:XK):Prop:=∀(pins:List (Addr×Obj)) (σ:St) (H:Hp) (s:Shared) (a C:Addr) (vs:List Value) (h1:Heap),Inv X pins σ H s->Heap.MadeExcOf s.heap h1 a (.ref C) vs->E (.ref C) none H->X.xe (.ref a) { s with heap:=h1 }
noncomputable def LP(C:Addr)(E:XK)(t:TA):TS:=λ_ σ H=>t σ H λvs H1=>vs.length<=sizeLine/\E (.ref C) none H1
section
variable{X:Cx}{E:XK}{x:Str}{C:Addr}{bm:List Value}{newId iF B:String}{np dQ pos:Pos}{kT:Expr}{rest:List Expr}{t:TA}
theorem qQ(hx:Makes X E)(hg:Gl X x)(hm:X.mg x=some (.ref C))(q:PySem.W.excIn X.K C bm newId=true)(FB:ExcBaseFacts B newId iF bm)(hc:X.calm=true)(ha:PA X (kT::rest) t)
  (he:starEach (kT::rest) X.env=(false,eval kT X.env)::starEach rest X.env:=by rfl) (d9:(backTo dQ (starEach rest X.env)).any (·.1)=false:=by rfl) (e_:(x == ("__debug__" : Str))=false:=by rfl) :
  PS X (.Raise (some (.Call (.Name x np) (kT::rest) [] dQ)) none pos) (LP C E t):=by
 intro pins s σ H D I h;obtain⟨tl,N,nm,q,bs,hdct,sn,sub,ab,col,dd,k0,k1,k2,k3,k5,mN,hC,hN,LQ,T⟩:=LO I.mod.ki q;refine wpAny_Raise_call_subT (C:=C) (nm:=nm) (q:=q) (N:=N) (bs:=bs) (bm:=tl) (hdct:=hdct) (sn:=sn) (sub:=sub) (ab:=ab) (col:=col) (dd:=dd) (k0:=k0) (k1:=k1) (k2:=k2) (k3:=k3) (k5:=k5)
  FB (mN:=mN) (T.hasType FB.hasBase) (I.ok.hd hc) (by rw[he];show (false || (backTo dQ (starEach rest X.env)).any (·.1))=false;rw[d9];rfl) LQ (lI I hg hm ⟨rfl,?_⟩ e_)
 have hA:=ha dQ pins s σ H _ I h;rw[he] at hA ⊢;refine Calls.evalArgs_plain (wpAny_mono hA (λus fG xj=>?_) λ_ _ y=>y);obtain⟨vs,H1,J,r,hl,hE⟩:=xj;exact⟨rfl,by show us.length<=_;rw[← r.length];exact hl,J.bk _ _ hC,hN.keeps J.bk,T.keeps J.bk,λh' e mx=>hx pins σ H1 fG e C us h' J mx hE⟩
end
theorem LR{base B:Heap}{l:List Env}{H H':Hp}{h h1 h':Heap}(u:Un (bH l) [] H H' h h1)(c:Cut base B l H H' h)(kB:B.StaysIn h')(up:h1.UpToSlots h')(ff:∀b∈bH l,H b=none/\∀o,h.get? b=some o->∀vs,o.data≠.fields vs) :
  Un (bH l) [] H H' h h':=by
 have sl:∀b o,h.get? b=some o->H b=none->b∈bH l->∃sl,h'.get? b=some { o with slots:=sl }:=λb o q n hb=>by
  obtain⟨sl,q1⟩:=u.slot b o q n hb (by simp)
  obtain⟨lT,q3⟩:=up b _ q1 ((ff b hb).2 o q);exact⟨lT,q3⟩
 refine⟨λb o q n hb _=>kB _ _ (c.k1 b o q n hb),λb o q n hb _=>sl b o q n hb,u.free,λb o q _=>?_,u.fY,u.fP,u.fZ⟩;by_cases hb:b∈bH l
 ·obtain⟨sl,q1⟩:=sl b o q (ff b hb).1 hb;exact⟨_,q1⟩
 ·obtain⟨o',q1⟩:=c.k3 b o q hb;exact⟨o',kB _ _ q1⟩
theorem LS{P:Program}{w:World}{base B:Heap}{l:List Env}{H H':Hp}{h h1 h':Heap}(aG:bV P w H' h1)(c:Cut base B l H H' h)(k1:B.StaysIn h1)(kB:B.StaysIn h'):bV P w H' h':=λb v e=>by
 refine(aG b v e).iS (λd z hd q=>?_) (λ_ q=>q) λ_ _ q=>q;have tr:∃v',H' d=some v':=by
  rcases hd with rfl | hd
  ·exact⟨_,e⟩
  ·exact⟨_,hd⟩
 obtain⟨v',e'⟩:=tr;obtain⟨o,q1⟩:=c.k2 d v' e';have:=k1 d o q1;rw[q] at this;cases this;exact kB _ _ q1
section
variable{X:Cx}{pins:List (Addr×Obj)}{σ:St}{H H':Hp}{s s':Shared}{a C:Addr}{h':Heap}{E:XK}
theorem Inv.ff(I:Inv X pins σ H s):∀b∈bH X.stack,H b=none/\∀o,s.heap.get? b=some o->∀vs,o.data≠.fields vs:=λb hb =>
 ⟨I.wg b hb,λo q=>by
  obtain⟨_,o2,q2,nf⟩:=I.stack.mem hb;rw[q] at q2;cases q2;exact nf⟩
noncomputable def Cx.within(X:Cx)(e:Value):Cx:={ X with A:=X.A.mark (some e),calm:=false,xe:=λ_ _=>False }
theorem Inv.within(I:Inv X pins σ H s)(e:Value):Inv (X.within e) pins σ H s :=
 ⟨⟨I.ok.mod,I.ok.kind,I.ok.glob,I.ok.blt,I.ok.above,I.ok.inj,I.ok.has,I.ok.kq,(λz=>nomatch z),I.ok.frames,I.ok.lH,I.ok.jE,I.ok.bs,I.ok.gG,I.ok.ku,I.ok.jF,I.ok.eK,I.ok.gH⟩,
  I.os,I.bare,I.base,I.loc,I.cell,I.free,I.fF,I.pin,I.aG,I.len⟩
theorem Inv.out{e:Value}(I:Inv (X.within e) pins σ H s)(ok:X.Ok):Inv X pins σ H s :=
 ⟨ok,I.os,I.bare,I.base,I.loc,I.cell,I.free,I.fF,I.pin,I.aG,I.len⟩
noncomputable def jS(a C:Addr):HO:=.ext λh=>∃o,h.get? a=some o/\o.cls = .ref C/\∃vs,o.data = .fields vs/\vs[2]? = some .none
noncomputable def gX(a C:Addr):Option Addr->HO
 | none=>jS a C
 | some k=>.ext λh=>∃o,h.get? a=some o/\o.cls = .ref C/\o.dict=some (k / 2)/\∃vs,o.data = .fields vs/\(k % 2=0->vs[2]? = some .none)
theorem Inv.LU{φ:Heap->Prop}(I:Inv X pins σ H s)(n:H a=none)(e0:X.aZ.heap.get? a=none)(nL:a≠X.env.locals)(nc:∀x c,X.env.cells.lookup x=some c->c≠a)(np:∀p∈X.pn++pins,p.1≠a)(h:φ s.heap)(th:∃o,s.heap.get? a=some o)
  (st:∀h1 h2:Heap,φ h1->(∀o,h1.get? a=some o->h2.get? a=some o)->φ h2):Inv X pins σ (upd H a (.ext φ)) s:=by
 have ne:∀b v,H b=some v->b≠a:=λb v q z=>by rw[z,n] at q;cases q
 have up:∀b v,H b=some v->upd H a (.ext φ) b=some v:=λb v q=>by rw[bF (ne b v q)];exact q
 have un:∀b,b≠a->H b=none->upd H a (.ext φ) b=none:=λb z q=>by rw[bF z];exact q
 refine⟨I.ok,I.os,I.bare,⟨I.base.keep,I.base.slot,λb o q n' hx=>un b (λz=>by rw[z,e0] at q;cases q) (I.base.free b o q n' hx),I.base.there,λb xs q=>up b _ (I.base.fY b xs q),λb o u q=>up b _ (I.base.fP b o u q),λb ps q=>let ⟨m,z⟩:=I.base.fZ b ps q;⟨m,up b _ z⟩⟩,
  I.loc,I.cell,un _ (Ne.symm nL) I.free,λx c q=>un c (nc x c q) (I.fF x c q),λp hp=>let ⟨q1,q2,q3⟩:=I.pin p hp;⟨q1,un _ (np p hp) q2,q3⟩,λb v q=>?_,I.len⟩
 by_cases z:b=a
 ·subst z;rw[aq] at q;cases q;exact⟨h,th,st⟩
 ·rw[bF z] at q;exact(I.aG b v q).iS (λ_ _ _ e=>e) (λd e=>up d _ e) λd xs e=>up d _ e
end
noncomputable def XP(P:Program)(w:World)(base:Heap)(X:Cx)(pins:List (Addr×Obj))(σ:St)(E:XK)(e:Value)(s':Shared):Prop:=∃H1 s1,Inv X pins σ H1 s1/\cg P w base X.stack H1 s1 E e s'
noncomputable def qR(X:Cx)(E:XK)(e:Expr)(t:TE):Prop :=
 ∀(pins:List (Addr×Obj)) (s:Shared) (σ:St) (H:Hp) (Q:VK),Inv X pins σ H s->t σ H Q->wpAny (model X.prog X.w) X.A (eval e X.env) (EP X pins σ Q) (XP X.prog X.w X.base X pins σ E) s
section
variable{X:Cx}{k:Nat}{f C:Addr}{fd:FuncData}{ps:List Str}{sp:Sp}{bN:List V}{ds:List Value}{E:XK}{x m:Str}{p pos apos:Pos}{e o:Expr}{es:List Expr}{ta:TE}{t:TA}
theorem LV{pins:List (Addr×Obj)}{σ:St}{H:Hp}{s:Shared}{Q:VK}{us:List Value}{vs:List V}(F:bg X.prog X.w X.K X.mg X.base (cg X.prog X.w X.base) k f fd ps sp)(hr:bY k X.A)(hb:Binds X.K fd ps ds)(hd:Vals bN ds)
  (I:Inv X pins σ H s) (r:Vals vs us) (h:sp (vs++bN) H Q E):wpAny (model X.prog X.w) X.A (call (.ref f) us) (EP X pins σ Q) (XP X.prog X.w X.base X pins σ E) s:=by
 have r2:Vals (vs++bN) (us++ds):=r.append hd;refine wpAny_call (codeAny_mono (F.run X.A X.stack s H ⟨us,[]⟩ (us++ds) (vs++bN) Q E hr I.wJ (hb s us I.cu (r2.length.symm.trans (F.len _ _ _ _ h))) r2 h) λr s' hq=>?_)
 match r,hq with
 | .error e,hq=>exact⟨H,s,I,hq⟩
 | .ok (.ret u),hq=>exact I.after hq
 | .ok .next,hq=>exact False.elim hq
 | .ok .brk,hq=>exact False.elim hq
 | .ok .cont,hq=>exact False.elim hq
theorem LW(F:bg X.prog X.w X.K X.mg X.base (cg X.prog X.w X.base) k f fd ps sp)(hr:bY k X.A)(hg:Gl X x)(hm:X.mg x=some (.ref f))(hk:PySem.W.keepIn X.K (.ref f)=true)(hb:Binds X.K fd ps ds)(hd:Vals bN ds)
  (ha:PA X.m6 (e::es) t) (e_:(x == ("__debug__" : Str))=false:=by decide) (he:starEach (e::es) X.env=(false,eval e X.env)::starEach es X.env:=by rfl) (d9:(backTo pos (starEach es X.env)).any (·.1)=false:=by rfl) :
  qR X E (.Call (.Name x p) (e::es) [] pos) (Ci sp bN E t):=by
 intro pins s σ H Q I h;refine wpAny_Call_Name_kw (lI I hg hm ?_ e_);refine PySem.W.callWith_K (h₀:=X.base) I.ok.mod.ki hk (wpAny_mono (ha pos pins s σ H _ (I.f_ _) h) (λus s1 ⟨vs,H1,I1,r,q⟩=>⟨I1.cu,?_⟩) λ_ _ z=>False.elim z) he d9;exact LV F hr hb hd I1.iX r q
end
theorem qT{P:Program}{w:World}{K:PySem.W.Frag}{mg:Str->Option Value}{base:Heap}{N:List Str}{qual:Str}{scope:Scope}{f:Addr}{cd:Value}{A:Around}{outer:List Env}{aZ:Shared}{dM:Hp}{E:XK} :
  Makes (fc (cg P w base) P w K mg base N qual scope f cd A outer aZ dM E) E:=λ_ _ _ _ _ _ _ _ I mx hE=>LN I mx hE
theorem aO.eB{P:Program}{w:World}{K:PySem.W.Frag}{mg:Str->Option Value}{base:Heap}{x qual:Str}{st:Stmt}{f:Addr}{fd:FuncData}{N ps:List Str}{k:Nat}{sp:Sp}(F:aO K x qual st f fd)(S:bD N ps (aX st))(len:∀vs H Q E,sp vs H Q E->vs.length=ps.length)
  (kL:∀(aN:Value) (A:Around) (outer:List Env) (s:Shared) (H:Hp) (vs:List V) (Q:VK) (E:XK),bY k (A.deeper (envOfC qual (aX st) s.heap.objs.size f aN))->sp vs H Q E->
   ∃t,dY (fc (cg P w base) P w K mg base N qual (aX st) f aN A outer s H E) (dF st) t/\t { nx:=λ_ H'=>Q .aF H',rt:=Q } (start N vs) H):bg P w K mg base (cg P w base) (k+1) f fd ps sp:=by
 obtain⟨oc,od,kV,doc,pm,an,aN,ct,fh,rfl,lk,cM⟩:=F.ex;exact wL lk cM S len λA outer s H vs Q E hr gh=>kL aN A outer s H vs Q E hr gh
noncomputable def C1(X:Cx)(E:XK)(st:Stmt)(t:TS):Prop :=
 ∀(pins:List (Addr×Obj)) (s:Shared) (σ:St) (H:Hp) (D:Ends),Inv X pins σ H s->t D σ H->wpAny (model X.prog X.w) X.A (exec st X.env) (SP X pins D) (XP X.prog X.w X.base X pins σ E) s
section
variable{X:Cx}{E:XK}{e:Expr}{te:TE}{pos:Pos}
theorem LX(he:qR X E e te):C1 X E (.Return (some e) pos) (BZ te):=by
 intro pins s σ H D I h;exact wpAny_Return_some (aL (he pins s σ H _ I h) λv s1 ⟨x,H1,I1,r1,q1⟩=>⟨x,σ,H1,I1,r1,q1⟩)
end
structure Fl(X:Cx)(pins:List (Addr×Obj))(σ:St)(a C:Addr)(a0:Value)(H1:Hp)(s1:Shared)(H':Hp)(B:Heap)(od:Option Addr)(s':Shared):Prop where
 I:Inv X pins σ H1 s1
 ho:s'.os=s1.os
 hg:AllBare s'.gens
 u:Un (bH X.stack) [] H1 H' s1.heap s'.heap
 aG:bV X.prog X.w H' s'.heap
 na:H' a=none
 nh:s1.heap.get? a=none
 c:Cut X.base B X.stack H1 H' s1.heap
 cY:Heap.FlyingW B X.stack a (.ref C) a0 s'.heap
 hd:ez s'.heap a od
section
variable{X:Cx}{pins:List (Addr×Obj)}{σ:St}{a C:Addr}{a0:Value}{H1 H':Hp}{s1 s':Shared}{B h':Heap}{od:Option Addr}
theorem Fl.move(x:Fl X pins σ a C a0 H1 s1 H' B od s')(cY:Heap.FlyingW B X.stack a (.ref C) a0 h')(up:s'.heap.UpToSlots h')(hd:ez h' a od):Fl X pins σ a C a0 H1 s1 H' B od { s' with heap:=h' } :=
 ⟨x.I,x.ho,x.hg,LR x.u x.c cY.1 up x.I.ff,LS x.aG x.c x.cY.1 cY.1,x.na,x.nh,x.c,cY,hd⟩
theorem Fl.inv(x:Fl X pins σ a C a0 H1 s1 H' B od s'):Inv X pins σ H' s':=x.I.qg x.ho x.u x.aG x.hg (λ_ z=>nomatch z)
theorem Fl.tracked(x:Fl X pins σ a C a0 H1 s1 H' B od s')(hex:X.ex = []):Inv X pins σ (upd H' a (gX a C od)) s':=by
 have no:∀b o,s1.heap.get? b=some o->b≠a:=λb o q z=>by rw[z,x.nh] at q;cases q
 obtain⟨m,⟨oL,_,_,gJ,_⟩,_⟩:=x.I.loc;have f1:X.aZ.heap.get? a=none:=by
  cases q:X.aZ.heap.get? a with
  | none=>rfl
  | some o =>
   obtain⟨o1,q1⟩:=x.I.base.there a o q (by rw[hex];simp)
   rw[x.nh] at q1;cases q1
 have f2:∀y c,X.env.cells.lookup y=some c->c≠a:=λy c e=>by
  obtain⟨v,o,q,_⟩:=x.I.cell y c e;exact no _ _ q
 have tr:=λφ=>x.inv.LU (φ:=φ) x.na f1 (Ne.symm (no _ _ gJ)) f2 (λp hp=>no _ _ (x.I.pin p hp).1);have th:∃o,s'.heap.get? a=some o:=let ⟨o,q,_⟩:=x.cY.there;⟨o,q⟩
 cases od with
 | none =>
  refine tr _ ?_ th λh1 h2 ⟨o,q,z⟩ k=>⟨o,k o q,z⟩;obtain⟨o,vs,q,z,y,_⟩:=x.cY.first;obtain⟨o',q',z',c'⟩:=x.hd;rw[q] at q';cases q';refine⟨o,q,z,vs,y,?_⟩;have:=c' rfl;unfold _L.f2 at this;rw[y] at this;exact this
 | some d =>
  refine tr _ ?_ th λh1 h2 ⟨o,q,z⟩ k=>⟨o,k o q,z⟩;obtain⟨o,vs,q,z,y,_⟩:=x.cY.first;obtain⟨o',q',z',c'⟩:=x.hd;rw[q] at q';cases q';refine⟨o,q,z,z',vs,y,λhk=>?_⟩
  have:=c' hk;unfold _L.f2 at this;rw[y] at this;exact this
end
section
variable{X:Cx}{pins:List (Addr×Obj)}{σ:St}{H:Hp}{s:Shared}
theorem qU{M:Model}{A:Around}{E:Value->Shared->Prop}{i:Nat}{n:Str}{pos:Pos}{Q:Unit->Shared->Prop}(I:Inv X pins σ H s)(hN:X.N.Nodup)(hi:X.N[i]? = some n)(hk:X.env.kindOf n=some .local)
  (h:∀s',Inv X pins (σ.set i none) H s'->Q () s'):wpAny M A (do bindName X.env n .none;unbindBehindTheSuite X.env n pos) Q E s:=by
 obtain⟨m,hn,hl⟩:=id I.loc;have mX:(X.env.scope.kind == .class || (X.env.scope.kind == .module && X.env.locals != X.env.globals))=false:=by rw[I.ok.kind];rfl
 have gI:=I.gI;refine wpAny_nameGoes_keeps hk hn mX λh' v cI hs=>?_;have old:∀b o,X.aZ.heap.get? b=some o->h'.get? b=s.heap.get? b:=λb o e=>hs.2 b (Nat.ne_of_lt (Nat.lt_of_lt_of_le (Heap.lt_size e) I.ok.above));refine h _ ⟨I.ok,I.os,I.bare,⟨λb o e n hb hx=>?_,λb o e n hb hx=>?_,I.base.free,λb o e hx=>?_,I.base.fY,I.base.fP,I.base.fZ⟩,⟨_,cI,λj y v' e1 e2 e3=>?_⟩,λy c e=>?_,I.free,I.fF,λp hp=>?_,λb ob e=>?_,by simpa using I.len⟩
 ·exact(old b o e).trans (I.base.keep b o e n hb hx)
 ·obtain⟨sl,e1⟩:=I.base.slot b o e n hb hx;exact⟨sl,(old b o e).trans e1⟩
 ·obtain⟨o',e1⟩:=I.base.there b o e hx;exact⟨o',(old b o e).trans e1⟩
 ·by_cases hj:j=i
  ·subst hj;rw[List.getElem?_set] at e2;simp only[if_true] at e2;split at e2 <;> cases e2
  ·rw[List.getElem?_set_ne (Ne.symm hj)] at e2;obtain⟨u',r',q⟩:=hl j y v' e1 e2 e3;refine⟨u',r',?_⟩;rcases q with⟨k,e⟩ | ⟨k,c,e,z⟩
   ·refine .inl ⟨k,?_⟩;have:y≠n:=λe=>hj (wj hN e1 (e▸hi));simp[this,e]
   ·exact .inr ⟨k,c,e,z.sameBut hs (gI y c e)⟩
 ·obtain⟨w',z⟩:=I.cell y c e;exact⟨w',z.sameBut hs (gI y c e)⟩
 ·obtain⟨e,n,ne,nf,d⟩:=I.pin p hp;exact⟨(hs.2 p.1 ne).trans e,n,ne,nf,d⟩
 ·refine(I.aG b ob e).iS (λc w' hc q=>(hs.2 c ?_).trans q) (λ_ q=>q) λ_ _ q=>q;rintro rfl;rcases hc with z | hc
  ·rw[← z,I.free] at e;cases e
  ·rw[I.free] at hc;cases hc
end
noncomputable def mroIn(K:PySem.W.Frag)(C:Addr):List Value:=match K.lookup C with
 | some ⟨_,_,.cls cd,_⟩=>cd.mro
 | _=>[]
noncomputable def subIn(K:PySem.W.Frag)(C:Addr)(c:Value):Bool:=(mroIn K C).contains c
theorem fJ{K:PySem.W.Frag}{C:Addr}{c:Value}{b:Bool}(h:PySem.W.mroIn K C c=some b):subIn K C c=b:=by
 unfold PySem.W.mroIn PySem.W.clsIn at h;unfold subIn mroIn;cases e:K.lookup C with
 | none=>rw[e] at h;cases h
 | some o =>
  rw[e] at h;obtain⟨c0,d0,dt,sl⟩:=o;cases dt <;> first | (cases h;done) | skip
  simp only[Option.bind_some] at h;split at h
  ·cases h
  ·exact Option.some.inj h
theorem C3{K:PySem.W.Frag}{C:Addr}{c:Value}{b:Bool}(h:PySem.W.mroIn K C c=some b):(PySem.W.clsIn K C).isSome=true:=by
 unfold PySem.W.mroIn at h;cases e:PySem.W.clsIn K C with
 | none=>rw[e] at h;cases h
 | some cd=>rfl
noncomputable def qV(K:PySem.W.Frag)(C:Addr)(fV:List Value)(newId:String):Bool:=match K.lookup C with
 | some ⟨.type "type",_,.cls cd,sl⟩=>(match cd.mro,sl.toList with
  | .ref C'::bm,[_,_,_,_,some (.builtin n),_]=>C' == C && n == newId && !cd.hasDel && PySem.W.tailIn K fV bm && PySem.W.nsOkIn K cd.ns
  | _,_=>false)
 | _=>false
theorem LY{K:PySem.W.Frag}{C:Addr}{fV:List Value}{newId:String}(q:PySem.W.excIn K C fV newId=true):qV K C fV newId=true:=by
 unfold PySem.W.excIn at q;unfold qV;cases e:K.lookup C with
 | none=>rw[e] at q;cases q
 | some o =>
  rw[e] at q;split at q
  ·rename_i dd cd sl ho;cases ho;split at q
   ·rename_i C' bm k0 k1 k2 k3 n k5 hm hs;simp only[Bool.and_eq_true] at q;simp only[hm,hs,Bool.and_eq_true];exact q.1
   ·cases q
  ·cases q
structure c_(K:PySem.W.Frag)(C:Addr):Prop where
 ex:∃bm id,qV K C bm id=true/\bm.contains (.type "BaseException")=true
theorem c_.of{K:PySem.W.Frag}{C:Addr}{bm:List Value}{id:String}(q:PySem.W.excIn K C bm id=true)(h:bm.contains (.type "BaseException")=true):c_ K C:=⟨bm,id,LY q,h⟩
theorem C4{K:PySem.W.Frag}{h₀:Heap}{C:Addr}(X:K.In h₀)(x:c_ K C) :
  ∃bm N nm q bs hdct sn sub ab col dd k0 k1 k2 k3 k5 newId,h₀.get? C=some (excClassObj nm q C N bs bm hdct sn sub ab col dd k0 k1 k2 k3 k5 newId)/\mroIn K C = .ref C::bm/\bm.contains (.type "BaseException")=true:=by
 obtain⟨fV,newId,q,hb⟩:=x.ex;unfold qV at q;unfold mroIn;cases e:K.lookup C with
 | none=>rw[e] at q;cases q
 | some o =>
  rw[e] at q;split at q
  ·rename_i dd cd sl ho;cases ho;split at q
   ·rename_i C' bm k0 k1 k2 k3 n k5 hm hs;simp only[Bool.and_eq_true,beq_iff_eq,Bool.not_eq_true'] at q;obtain⟨⟨⟨⟨c1,c2⟩,c3⟩,c4⟩,c5⟩:=q;obtain⟨nm,bs,mro,ns,qn,hd,sn,sub,ab,col,del⟩:=cd;obtain⟨l⟩:=sl;dsimp only at hm hs c3 c5;subst c1 c2 hm c3 hs;exact⟨bm,ns,nm,qn,bs,hd,sn,sub,ab,col,dd,k0,k1,k2,k3,k5,n,X _ _ e,rfl,(PySem.W.tail_of_in X c4).hasType hb⟩
   ·cases q
  ·cases q
theorem LZ{M:Model}{A:Around}{E:Value->Shared->Prop}{K:PySem.W.Frag}{s:Shared}{e C C2:Addr}{oe:Obj}{Q:Bool->Shared->Prop}(X:K.In s.heap)(x:c_ K C)(y:c_ K C2)(he:s.heap.get? e=some oe)(mX:oe.cls = .ref C)
  (hq:Q (subIn K C (.ref C2)) s):wpAny M A (excMatches (.ref e) (.ref C2)) Q E s:=by
 obtain⟨bm,N,nm,q,bs,hdct,sn,sub,ab,col,dd,k0,k1,k2,k3,k5,newId,hC,hm,_⟩:=C4 X x;obtain⟨L4,N2,VR,q2,VS,VT,VU,VV,VW,VX,wM,VY,VZ,V0,V1,V2,V3,C5,V4,jT⟩:=C4 X y;have L5:(Value.ref C2::L4).contains (.type "BaseException")=true:=by rw[List.contains_cons,jT,Bool.or_true]
 unfold subIn at hq;rw[hm] at hq;have f:=tc_notTuple;obtain⟨h,g,d,t,os⟩:=s;unfold excMatches
 repeat (first | (with_reducible refine wpAny_loadPart_at he ?_;rw[mX]) | with_reducible refine wpAny_loadPart_at C5 ?_ | (with_reducible refine wpAny_isSubtype_exc C5 ?_;rw[L5]) | (with_reducible refine wpAny_isSubtype_exc hC ?_) | wp_step)
 all_goals first | exact hq | (cases hh:(Value.ref C::bm).contains (.ref C2) <;> (rw[hh] at hq;wp_walk;exact hq))
noncomputable abbrev TH:=Option Addr->Addr->Addr->Ends->St->Hp->Prop
noncomputable def PH(X:Cx)(hs:List ExceptHandler)(t:TH):Prop :=
 ∀(pins:List (Addr×Obj)) (σ:St) (a C:Addr) (a0:Value) (H1:Hp) (s1:Shared) (H':Hp) (B:Heap) (od:Option Addr) (s':Shared) (D:Ends) (E:Value->Shared->Prop),Fl X pins σ a C a0 H1 s1 H' B od s'->c_ X.K C->t od C a D σ H'->
  wpAny (model X.prog X.w) X.A (handleBy (.ref a) X.env hs) (SP X pins D) E s'
theorem L6{X:Cx}:PH X [] (λ_ _ _ _ _ _=>False):=λ_ _ _ _ _ _ _ _ _ _ _ _ _ _ _ h=>h.elim
noncomputable def C6(i:Nat)(D:Ends):Ends:={ nx:=λσ H=>D.nx (σ.set i none) H,rt:=D.rt,bk:=λσ H=>D.bk (σ.set i none) H,ct:=λσ H=>D.ct (σ.set i none) H }
noncomputable def L7(K:PySem.W.Frag)(C2:Addr)(i:Nat)(ts:Addr->TS)(t:TH):TH:=λod C a D σ H =>
 (subIn K C (.ref C2)=true/\ts a (C6 i D) (σ.set i (some (.ref a))) (upd H a (gX a C od)))\/(subIn K C (.ref C2)=false/\t od C a D σ H)
theorem L8{X:Cx}{x n:Str}{np C7:Pos}{qW:Stmt}{C8:List Stmt}{rest:List ExceptHandler}{C2:Addr}{i:Nat}{ts:Addr->TS}{t:TH}(hg:Gl X x)(hm:X.mg x=some (.ref C2))(y:c_ X.K C2)(hN:X.N.Nodup)(hi:X.N[i]? = some n)
  (hk:X.env.kindOf n=some .local) (hex:X.ex = []) (hs:∀a,dY (X.within (.ref a)) (qW::C8) (ts a)) (hr:PH X rest t) (e_:(x == ("__debug__" : Str))=false:=by decide) :
  PH X (.ExceptHandler (some (.Name x np)) (some n) (qW::C8) C7::rest) (L7 X.K C2 i ts t):=by
 intro pins σ a C a0 H1 s1 H' B od s' D E F xc h;obtain⟨ob,lY,L_⟩:=F.cY.there;refine wpAny_handleBy_cons (codeAny_handlers_test (lI (X:=X.within (.ref a)) (F.inv.within (.ref a)) hg hm (LZ F.inv.cu xc y lY L_ ?_) e_)) (by intro q;cases q)
 rcases h with⟨hb,h⟩ | ⟨hb,h⟩
 ·rw[hb];refine codeAny_handlers_suite_as (LJ F.cY F.hd λh6 Ma Mb Mc=>?_);have F6:=F.move Ma Mb Mc;refine wu (X:=X.within (.ref a)) (i:=i) (v:=V.ref a) ((F6.tracked hex).within (.ref a)) hN hi (.inl hk) rfl (λs2 I2=>?_) (.inr hk);refine wpAny_mono (hs a pins s2 _ _ (C6 i D) I2 h) (λf s3 q=>?_) λ_ _ z=>False.elim z;cases f with
  | next=>obtain⟨aJ,H2,J,q⟩:=q;exact qU (J.out F.I.ok) hN hi hk λs4 J4=>⟨_,_,J4,q⟩
  | brk=>obtain⟨aJ,H2,J,q⟩:=q;exact qU (J.out F.I.ok) hN hi hk λs4 J4=>⟨_,_,J4,q⟩
  | cont=>obtain⟨aJ,H2,J,q⟩:=q;exact qU (J.out F.I.ok) hN hi hk λs4 J4=>⟨_,_,J4,q⟩
  | ret u=>obtain⟨v,aJ,H2,J,r,q⟩:=q;exact qU (J.out F.I.ok) hN hi hk λs4 J4=>⟨v,_,_,J4,r,q⟩
 ·rw[hb];exact hr pins σ a C a0 H1 s1 H' B od s' D E F xc h
theorem V5{X:Cx}{e:Value}:(X.within e).K=X.K:=rfl
noncomputable def Me(K:PySem.W.Frag)(th:TH)(D:Ends)(σ:St):XK:=λcls od H'=>∃C,cls = .ref C/\c_ K C/\∀a,H' a=none->th od C a D σ H'
noncomputable def Mf(K:PySem.W.Frag)(tb:XK->TS)(th:TH):TS:=λD σ H=>tb (Me K th D σ) D σ H
theorem Mg{X:Cx}{st:Stmt}{h₀:ExceptHandler}{hs:List ExceptHandler}{pos:Pos}{tb:XK->TS}{th:TH}(nB:X.stack=X.env::X.outer)(hf:X.env.frame=some X.env.locals)(hb:∀E,C1 X E st (tb E))(hh:PH X (h₀::hs) th) :
  PS X (.Try [st] (h₀::hs) [] [] pos) (Mf X.K tb th):=by
 intro pins s σ H D I h;refine wpAny_Try_except (wpAny_execs_cons (wpAny_mono (hb _ pins s σ H D I h) (λf s1 q=>?_) λe s' z=>?_))
 ·cases f with
  | next=>exact wpAny_execs_nil (wpAny_execs_nil q)
  | ret v=>exact q
  | brk=>exact q
  | cont=>exact q
 ·obtain⟨H1,s1,I1,a,C,a0,H',B,od,rfl,ho,hg,u,aG,na,nh,c,cY,hd,C',eC,xc,hE⟩:=z;cases eC;have F:Fl X pins σ a C a0 H1 s1 H' B od s':=⟨I1,ho,hg,u,aG,na,nh,c,cY,hd⟩;have C9:=cY;rw[nB] at C9;refine LH (by rw[I1.ok.frames,nB]) hf C9 hd λh4 held Mh Mi=>?_
  refine LI held Mi λh5 C_ Mj Ml=>?_;rw[← nB] at C_;exact hh pins σ a C a0 H1 s1 H' B _ _ D _ (F.move C_ (Mh.trans Mj) Ml) xc (hE a na)
end _L
namespace _L
open PySem PySem.Spec PyProof.Rows PySem.W PySem.Builtin.ObjectAttr PySem.Builtin.Getset_descriptor
section
variable{prog:Program}{w:World}{A:Around}{E:Value->Shared->Prop}{s:Shared}{K:Frag}{x D:Addr}{ox:Obj}{name:Str}
structure jU(K:Frag)(D:Addr):Prop where
 ga:findIn K (.ref D) "__getattribute__" = some (some (.builtin "BaseException.__getattribute__"))
 gt:findIn K (.ref D) "__getattr__" = some none
 mro:PySem.W.mroIn K D (.type "BaseException")=some true
 obj:PySem.W.mroIn K D (.type "object")=some true
 cl:findIn K (.ref D) "__class__" = some (some (.builtin "object.__class__"))
 sp:specialIn K (.builtin "object.__class__") "__get__" = some (some (.builtin "getset_descriptor.__get__"))
 tk:takesIn K (.builtin "object.__class__")=some true
theorem Dc{M:Model}{h:Heap}(hx:h.get? x=some ox)(hc:ox.cls = .ref D):Looks M h (typeOf (.ref x)) (.ref D):=hc▸(Looks.ld hx).andThen .now
theorem Mm{M:Model}{h:Heap}{a g:Value}(X:K.In h)(ha:findIn K (.ref D) name=some (some a))(hg:specialIn K a "__get__" = some (some g))(ht:takesIn K a=some true):Looks M h (find (.ref x) (.ref D) name) (.bind g a):=by
 have L1:=looks_findIn (M:=M) X ha;have _L:Looks M h (getOf (some a)) (some g):=looks_specialIn X hg;have L3:=looks_takesIn (M:=M) X ht;refine L1.andThen (_L.andThen ?_);refine Looks.andThen (a:=some (g,a)) ?_ (Looks.tag .now);unfold dataDescriptor?;refine L3.andThen ?_;exact .now
theorem Mn{g a:Value}{tk:Tok}{Q:Value->Shared->Prop}(T:Looks (model prog w) s.heap (typeOf (.ref x)) (.ref D))(L1:Looks (model prog w) s.heap (find (.ref x) (.ref D) name) (.bind g a))(h:wpAny (model prog w) A (call g [a,.ref x,.ref D]) Q E s) :
  wpAny (model prog w) A (Builtin.«object.__getattribute__» ⟨[.ref x,.str name tk],[]⟩) (λfin s'=>match fin with | .done (.ret v)=>Q v s' | _=>False) E s:=by
 obtain⟨hh,gg,d,t,os⟩:=s;refine wpAny_bind (wpAny_pure (wpAny_bind (wpAny_pure (wpAny_bind (T.at (wpAny_bind (L1.at ?_)))))))
 show wpAny _ _ (holding [a] (call g [a,.ref x,.ref D]) >>= ret) _ _ _;exact wpAny_bind (wpAny_holding (wpAny_mono h (λv s' z=>wpAny_pure z) λ_ _ z=>z))
theorem Mp{nameV:Value}{Q:Unit->Shared->Prop}(X:K.In s.heap)(T:Looks (model prog w) s.heap (typeOf (.ref x)) (.ref D))(G:jU K D)(hq:Q () s):wpAny (model prog w) A (checkBuiltinCall "BaseException.__getattribute__" ⟨[.ref x,nameV],[]⟩) Q E s:=by
 have hk:builtinKind "BaseException.__getattribute__" = some .slot:=by decide +kernel
 have Mq:splitId "BaseException.__getattribute__" = some ("BaseException", "__getattribute__"):=by decide +kernel
 obtain⟨hh,gg,d,t,os⟩:=s;have L1:=looks_mroIn (M:=model prog w) X G.mro;have ha:=F.args_bexc_ga (.ref x) nameV;simp only[checkBuiltinCall,hk,Mq];refine wpAny_bind ?_;unfold isInstance
 repeat (first | lk | wp_step)
 exact hq
theorem Mr{tk:Tok}{fill expr:Bool}{Q:Value->Shared->Prop}(X:K.In s.heap)(T:Looks (model prog w) s.heap (typeOf (.ref x)) (.ref D))(G:jU K D)
  (h:∀A,wpAny (model prog w) A (Builtin.«object.__getattribute__» ⟨[.ref x,.str name tk],[]⟩) (λfin s'=>match fin with | .done (.ret v)=>handedIn v=true/\Q v s' | _=>False) (λ_ _=>False) s) :
  wpAny (model prog w) A (getAttrBy (.ref x) (.str name tk) fill expr) Q E s:=by
 have f3:=F.attr_ValueError.ga.bind (.ref x);have Ms:(expr && onTheHeap (Value.builtin "BaseException.__getattribute__"))=false:=by cases expr <;> rfl
 have bx:(onTheHeap (Value.ref D) && Value.builtin "BaseException.__getattribute__" == Value.builtin "object.__getattribute__")=false:=by
  rw[show (Value.builtin "BaseException.__getattribute__" == Value.builtin "object.__getattribute__")=false from by decide +kernel];rfl
 have jV:=λ{A:Around} {E:Value->Shared->Prop} {Q:Unit->Shared->Prop}=>Mp (prog:=prog) (w:=w) (A:=A) (E:=E) (nameV:=.str name tk) (Q:=Q) X T G;obtain⟨hh,gg,d,t,os⟩:=s;have L1:=looks_findIn (M:=model prog w) X G.ga;have _L:=looks_findIn (M:=model prog w) X G.gt;unfold getAttrBy;refine wpAny_holding (wpAny_bind (T.at (wpAny_bind (L1.at ?_))));simp only[bx,Bool.false_eq_true,if_false];unfold getAttrByItsOwn hookBefore;simp only[onTheHeap,if_true];refine wpAny_bind (_L.at (wpAny_bind (wpAny_attempt (wpAny_holding ?_))));unfold callGetattribute boundAndCalled;simp only[Ms,Bool.false_eq_true,if_false,f3];refine wpAny_bind (wpAny_pure (wpAny_call (codeAny_call_builtin F.attr_ValueError.ga.plain F.entry_bexc_ga (jV (wpAny_mono (h _) (λfin s' z=>?_) λ_ _ z=>False.elim z)))));rcases fin with(_ | _ | _ | v) | _ <;> first | exact handed_on z.1 z.2 | exact z.elim
theorem Mt{R:Result->Shared->Prop}{tp:Value}(X:K.In s.heap)(L0:Looks (model prog w) s.heap (typeOf (.ref x)) (.ref D))(hm:PySem.W.mroIn K D (.type "object")=some true)
  (h:R (.ok (.ret (.ref D))) s):codeAny (model prog w) A (.call (.builtin "getset_descriptor.__get__") ⟨[.builtin "object.__class__",.ref x,tp],[]⟩) R s:=by
 obtain⟨hh,g,dr,t,os⟩:=s;have L1:=looks_mroIn (M:=model prog w) X hm;refine codeAny_call_builtin KF.slot_gs.plain KF.entry_gs (KF.slot_gs.check _ _ _ _ _ _ _ _ KF.type_class (KF.args_gs _ _ _) ?_);unfold Builtin.«getset_descriptor.__get__» descrGet;rw[dga_obj];refine wpAny_bind (wpAny_pure ?_);unfold descrGetter descrCheckInstance descrNameAndClass isInstance;simp only[KF.owner_class]
 repeat lk
 refine⟨Code.quiet_builtin _ (by decide +kernel),codeAny_builtin KF.entry_class ?_⟩
 unfold Builtin.«object.__class__» shownTypeOf
 repeat lk
 exact h
theorem Mu{Q:Option Value->Shared->Prop}(X:K.In s.heap)(T:∀s':Shared,s'.heap=s.heap->Looks (model prog w) s'.heap (typeOf (.ref x)) (.ref D))(G:jU K D)(h:Q (some (.ref D)) { s with toks:=s.toks+1 }) :
  wpAny (model prog w) A (getAttr? (.ref x) "__class__") Q E s:=by
 unfold getAttr? getAttrBy?;refine wpAny_bind (wpAny_mkText (wpAny_bind (wpAny_attempt ?_)));refine Mr (s:={ s with toks:=s.toks+1 }) X (T _ rfl) G λA=>?_
 refine wpAny_mono (Mn (s:={ s with toks:=s.toks+1 }) (Q:=λv s'=>v = .ref D/\s' = { s with toks:=s.toks+1 }) (T _ rfl) (Mm X G.cl G.sp G.tk) (wpAny_call (Mt (s:={ s with toks:=s.toks+1 }) X (T _ rfl) G.obj ⟨rfl,rfl⟩))) (λfin s' z=>?_) λ_ _ z=>z;rcases fin with(_ | _ | _ | v) | _ <;> first | exact z.elim | (obtain⟨rfl,rfl⟩:=z;exact⟨rfl,wpAny_pure h⟩)
end
theorem Mv{K:Frag}{x D:Addr}(G:jU K D)(hc:(clsIn K D).isSome=true):KitX K (.ref x) (.ref D) (λh=>∃o,h.get? x=some o/\o.cls = .ref D) where
 ty:=λ_ _ _ ⟨o,h1,h2⟩=>Dc h1 h2
 it:=λ_ _ X _=>by
  obtain⟨cd,cM⟩:=Option.isSome_iff_exists.mp hc;unfold clsIn at cM;split at cM
  ·rename_i ho;intro A' Q' E' s' k q;unfold isType loadHead;exact wpAny_bind (wpAny_loadPart (k _ _ (X _ _ ho)) (wpAny_pure q))
  ·cases cM
 ne:=λh tp dd aB n sl X Mw=>by
  obtain⟨cd,cM⟩:=Option.isSome_iff_exists.mp hc;refine Bool.eq_false_iff.mpr λq=>?_
  have e:D=tp:=Value.ref.inj (beq_iff_eq.mp q);subst e;unfold clsIn at cM;split at cM
  ·rename_i ho;have z:=(X _ _ ho).symm.trans Mw;cases z
  ·cases cM
 ca:=λ{_ _ _ _ _ s} X ⟨o,h1,h2⟩ k=>Mu X (λs' e=>by rw[e];exact Dc h1 h2) G k
section
variable{X:Cx}
theorem Mx{pins:List (Addr×Obj)}{σ:St}{H:Hp}{s:Shared}{a C:Addr}{od:Option Addr}(I:Inv X pins σ H s)(e:H a=some (gX a C od)):∃o,s.heap.get? a=some o/\o.cls = .ref C:=by
 cases od with
 | none =>
  obtain⟨⟨o,h1,h2,_⟩,_,_⟩:=(show cR X.prog X.w H s.heap a (jS a C) from I.aG a _ e);exact⟨o,h1,h2⟩
 | some d =>
  obtain⟨⟨o,h1,h2,_⟩,_,_⟩:=(show cR X.prog X.w H s.heap a (gX a C (some d)) from I.aG a _ e);exact⟨o,h1,h2⟩
theorem My:gP X (.builtin "isinstance") (λxs H Q=>∃a C c v b,xs = [.ref a,v]/\((∃C2,v = .ref C2/\c = .ref C2)\/(∃T,v = .ty T/\c = .type T))/\(∃od,H a=some (gX a C od))/\jU X.K C/\(clsIn X.K C).isSome=true/\kitOne X.K (.ref C) c=some b/\Q (.bl b) H):=by
 intro pins s σ H xs us Q I r h;obtain⟨a,C,c,v,b,rfl,hv,⟨od,ea⟩,G,hc,e,q⟩:=h;obtain⟨u,v',rfl,ru,rv⟩:=vals2 r;cases (show u=Value.ref a from ru);have ev:v' = c:=by
  rcases hv with⟨C2,rfl,rfl⟩ | ⟨T,rfl,rfl⟩
  ·exact rv
  ·exact rv
 subst ev;exact kia_one (Mv G hc) I.cu (Mx I ea) e (λz=>nomatch z) λtk=>⟨.bl b,H,I.tok _,rfl,q⟩
theorem kU:gP X (.builtin "isinstance") (λxs H Q=>∃a C c v b,xs = [.ref a,v]/\((∃C2,v = .ref C2/\c = .ref C2)\/(∃T,v = .ty T/\c = .type T))/\H a=some (jS a C)/\jU X.K C/\(clsIn X.K C).isSome=true/\kitOne X.K (.ref C) c=some b/\Q (.bl b) H) :=
 λpins s σ H xs us Q I r ⟨a,C,c,v,b,e1,hv,ea,h⟩=>My pins s σ H xs us Q I r ⟨a,C,c,v,b,e1,hv,⟨none,ea⟩,h⟩
end
end _L
namespace _L
open PySem PySem.Spec PyProof.Rows PySem.W
section
variable(key:Nat->Int)
noncomputable def kk(p:Array Nat)(i:Nat):Int:=key (p.getD i 0)
variable{key}{p:Array Nat}
end
section
variable{prog:Program}{w:World}{A:Around}{E:Value->Shared->Prop}{s:Shared}
end
section
variable{n:Nat}{p q:Array Nat}
end
end _L
namespace _L
open PySem PySem.Spec PyProof.Rows
section
variable{X:Cx}
noncomputable def V6(K:PySem.W.Frag):R2:=λx y H Q=>∃l k xs,x = .ref l/\y = .int k/\H l=some (.tup xs)/\xs≠[]/\xs.length<=1000/\1<=k/\k<=1000/\∀p H',ah H H'->H' p=some (.tup (List.replicate k.toNat xs).flatten)->Q (.ref p) H'
end
noncomputable def Mz(X:Addr):Sp:=λvs H Q E=>∃(n lo hi:Int) (w:Str),vs = [.int n,.int lo,.int hi,.str w]/\(lo<=n/\n<=hi->Q .aF H)/\(¬ (lo<=n/\n<=hi)->E (.ref X) none H)
noncomputable def MA(K:PySem.W.Frag)(X:Addr):Sp:=λvs H Q E=>∃(b:Addr) (ns:List Int),vs = [.ref b]/\aK K H b (ns.map V.int)/\(cP ns->Q .aF H)/\(¬ cP ns->E (.ref X) none H)
noncomputable def MB(K:PySem.W.Frag)(X:Addr):Sp:=λvs H Q E=>∃(f m a s:Int) (l:Option Int) (b:Addr) (ns:List Int),vs = [.int f,.int m,.int a,.int s,b_ l,.ref b]/\aK K H b (ns.map V.int)/\(fU f m a s l/\cP ns->Q .aF H)/\(¬ (fU f m a s l/\cP ns)->E (.ref X) none H)
noncomputable def MC(K:PySem.W.Frag)(C X:Addr):Sp:=λvs H Q E=>∃(f m a s:Int) (l:Option Int) (bv:V) (ns:List Int),vs = [.int f,.int m,.int a,.int s,b_ l,bv]/\nX K H bv ns/\
 (fU f m a s l/\cP ns->∀p mk b dx H',ah H H'->H p=none->gm K C H' p ⟨"read",f,m,[],a,s,l,ns,false⟩ mk b dx->Q (.ref p) H')/\(¬ (fU f m a s l/\cP ns)->∀H',ah H H'->E (.ref X) none H')
noncomputable def MD(K:PySem.W.Frag)(C X:Addr):Sp:=λvs H Q E=>∃(f a s:Int) (ma:Addr) (ms:List Int) (l:Option Int) (bv:V) (ns:List Int) (e:Bool),vs = [.int f,.ref ma,.int a,.int s,b_ l,bv,.bl e]/\ao K H ma (ms.map V.int)/\nX K H bv ns/\
 (fU f ms.length a s l/\cP ns/\(∀x∈ms,0<=x/\x<=1000000000)->∀p mk b dx H',ah H H'->H p=none->gm K C H' p ⟨"write",f,ms.length,ms,a,s,l,ns,e⟩ mk b dx->Q (.ref p) H')/\
 (¬ (fU f ms.length a s l/\cP ns/\(∀x∈ms,0<=x/\x<=1000000000))->∀H',ah H H'->E (.ref X) none H')
noncomputable def ME(K:PySem.W.Frag)(C X:Addr):Sp:=λvs H Q E=>∃(a:Int),vs = [.int a]/\(0<=a/\a<=1000000000000->∀p mk b dx H',ah H H'->H p=none->gm K C H' p ⟨"rest",0,0,[],a,0,none,[],false⟩ mk b dx->Q (.ref p) H')/\
 (¬ (0<=a/\a<=1000000000000)->E (.ref X) none H)
theorem cP.of{ns:List Int}(h:∀(i:Nat) (n:Int),ns[i]? = some n->jR (-1) ns i+1<=n/\n<=99):cP ns:=by
 have lo:∀(i:Nat) (n:Int),ns[i]? = some n->0<=n:=by
  intro i
  induction i with
  | zero=>intro n e;have:=h 0 n e;simp[jR] at this;lia
  | succ i ih =>
   intro n e;have hi:=gW e;have e2:ns[i]? = some ns[i]:=List.getElem?_eq_getElem (by lia)
   have h1:=h (i+1) n e;have h2:=ih _ e2;rw[qO e2] at h1;lia
 refine⟨?_,λn hn=>?_,λn hn=>?_⟩
 ·rw[List.pairwise_iff_getElem];intro i j hi hj Dd;have key:∀k:Nat,∀(hk:i+1+k<ns.length),ns[i] < ns[i+1+k]:=by
   intro k
   induction k with
   | zero =>
    intro hk;have h1:=h (i+1) _ (List.getElem?_eq_getElem hk);rw[qO (List.getElem?_eq_getElem hi)] at h1;lia
   | succ k ih =>
    intro hk;have h1:=h (i+1+k+1) _ (List.getElem?_eq_getElem hk);rw[qO (List.getElem?_eq_getElem (show i+1+k<ns.length by lia))] at h1
    have:=ih (by lia)
    lia
  have:=key (j - (i+1)) (by lia)
  simpa only[show i+1+(j - (i+1))=j by lia] using this
 ·obtain⟨i,hi,rfl⟩:=List.mem_iff_getElem.mp hn;exact lo i _ (List.getElem?_eq_getElem hi)
 ·obtain⟨i,hi,rfl⟩:=List.mem_iff_getElem.mp hn;exact(h i _ (List.getElem?_eq_getElem hi)).2
theorem nW.eB{P:Program}{w:World}{K:PySem.W.Frag}{mg:Str->Option Value}{base:Heap}{x qual:Str}{st:Stmt}{f:Addr}{fd:FuncData}{N ps:List Str}{k:Nat}{sp:Sp}(F:nW K x qual st f fd)(S:bD N ps (aX st))(len:∀vs H Q E,sp vs H Q E->vs.length=ps.length)
  (kL:∀(aN:Value) (A:Around) (outer:List Env) (s:Shared) (H:Hp) (vs:List V) (Q:VK) (E:XK),bY k (A.deeper (envOfC qual (aX st) s.heap.objs.size f aN))->sp vs H Q E->
   ∃t,dY (fc (cg P w base) P w K mg base N qual (aX st) f aN A outer s H E) (dF st) t/\t { nx:=λ_ H'=>Q .aF H',rt:=Q } (start N vs) H):bg P w K mg base (cg P w base) (k+1) f fd ps sp:=by
 obtain⟨oc,od,dV,kV,doc,pm,an,aN,ct,fh,rfl,lk,cM⟩:=F.ex;exact wL lk cM S len λA outer s H vs Q E hr gh=>kL aN A outer s H vs Q E hr gh
section
variable{K:PySem.W.Frag}{C:Addr}{H H':Hp}{l:Addr}{ps:List Addr}{qs:List Ak}
end
section
variable{X:Cx}{pins:List (Addr×Obj)}{σ:St}{H:Hp}{s:Shared}{scope:Scope}{cl:List (Str×Addr)}{ps fs:List Str}{fv:List Nat}{A:Around}{qual:Str}{f c':Addr}
end
structure V7(mg:Str->Option Value)(base:Heap)(c P:Addr):Prop where
 hd:PySem.W.CodeHd base c P
 bm:∃bm ob,mg "__builtins__" = some (.ref bm)/\bm≠builtinsNs/\base.get? bm=some ob/\ob.cls = .type "module"/\ob.dict=some builtinsNs/\ob.data = .plain
section
variable{X:Cx}{pins:List (Addr×Obj)}{σ:St}{H:Hp}{s:Shared}{scope:Scope}{cl:List (Str×Addr)}{M:Model}{A:Around}{E:Value->Shared->Prop}{name qual:Str}{params:Arguments}{body:Expr}{pos:Pos}{firstLine:Nat}{c P:Addr}
end
end _L
namespace _L
open PySem PySem.Spec PyProof.Rows PySem.W
section
variable{prog:Program}{w:World}{A:Around}{E:Value->Shared->Prop}{s:Shared}
end
section
variable{X:Cx}{pins:List (Addr×Obj)}{σ:St}{H:Hp}{s:Shared}
variable{scope:Scope}{cl:List (Str×Addr)}{ps fs:List Str}{fv:List Nat}{A:Around}{qual name:Str}{f c' P kS:Addr}{params:Arguments}{body:Expr}{te:TE}{pm V8:Value}{pos:Pos}{kv:Nat->Int×Int}{n:Nat}{H1:Hp}{m:Str->Option Value}
end
end _L
namespace _L
open PySem PySem.Spec PyProof.Rows
section
variable{M:Model}{prog:Program}{w:World}{A:Around}{E:Value->Shared->Prop}{s:Shared}
end
section
variable{prog:Program}{w:World}{A:Around}{E:Value->Shared->Prop}{s:Shared}
end
section
variable{X:Cx}
end
section
variable{prog:Program}{w:World}{A:Around}{E:Value->Shared->Prop}{s:Shared}{d it:Addr}{es:Array DictEntry}{ep i:Nat}
end
section
variable{X:Cx}
end
section
variable{α:Type}{lt:α->α->Prop}
noncomputable def put(f:Nat->α)(k:Nat)(x:α):Nat->α:=λi=>if i=k then x else f i
end
noncomputable abbrev Th:=Int×List Int×Int
noncomputable def xF(a b:Th):Prop:=a.1<b.1\/(a.1=b.1/\(_H.lexLt a.2.1 b.2.1=true\/(a.2.1=b.2.1/\a.2.2<b.2.2)))
section
open PySem.SeqAt PySem.MeetsSeq PySem.MeetsSeq2 PySem.MeetsSeq3
open PySem.AutoSeq1 (wpAny_loadPart')
end
section
variable{prog:Program}{w:World}{A:Around}{E:Value->Shared->Prop}{s:Shared}
end
noncomputable def De(H:Hp)(a:Addr)(t:Th):Prop:=∃p,H a=some (.tup [.int t.1,.ref p,.int t.2.2])/\H p=some (.tup (t.2.1.map V.int))
noncomputable instance (a b:Th):Decidable (xF a b):=by unfold xF;infer_instance
section
variable{X:Cx}{pins:List (Addr×Obj)}{σ:St}{H:Hp}{s:Shared}
end
section
variable{X:Cx}
theorem MF(hu:X.A.units+16<cLine):bU X (compareOp .Eq) (λx y H Q=>∃a b xs,x = .ref a/\y = .ref b/\ao X.K H a xs/\ao X.K H b []/\Q (.bl xs.isEmpty) H):=by
 rintro pins s σ H x y v u Q I rx ry ⟨a,b,xs,rfl,rfl,ha,hb,q⟩;cases rx;cases ry;obtain⟨aB,r1,p1,z1⟩:=I.list ha;obtain⟨cX,r2,p2,z2⟩:=I.list hb;cases r2;cases r1 with
 | nil =>
  have fin:=SeqAt.RcAt.lists (A:=X.A) (s:=s) (e:=λ_=>true) p1.isList p2.isList rfl (by lia) (λj h1 h2=>absurd (show j<0 from h1) (by lia))
  exact fin X.prog X.w _ _ ⟨.bl true,H,I,rfl,q⟩
 | cons r t =>
  have fin:=SeqAt.RcAt.lists_lengths (A:=X.A) (s:=s) p1.isList p2.isList (by simp) (by lia)
  exact fin X.prog X.w _ _ ⟨.bl false,H,I,rfl,q⟩
noncomputable abbrev Zs:=List (Addr×Th)
noncomputable def zV(zs:Zs):List V:=zs.map λz=>V.ref z.1
noncomputable def MG(H:Hp)(zs:Zs):Prop:=∀z,z∈zs->De H z.1 z.2
noncomputable def V9:V->List V->Hp->VK->Prop:=λx vs H Q=>∃l a zs t,x = .ref l/\vs = [.ref a]/\H l=some (.lst (zV zs))/\MG H zs/\De H a t/\t∈zs.map (·.2)/\
 ∀(k:Nat) (h:k<zs.length),zs[k].2=t->Q .aF (upd H l (.lst (zV (zs.eraseIdx k))))
end
section
variable{P:Addr}{pos:Pos}{qual:Str}{H H1 H2:Hp}
end
noncomputable abbrev Us:=List (Addr×List Int)
noncomputable def uV(zs:Us):List V:=zs.map λz=>V.ref z.1
noncomputable def Df(H:Hp)(zs:Us):Prop:=∀z,z∈zs->H z.1=some (.tup (z.2.map V.int))
section
variable{X:Cx}{pins:List (Addr×Obj)}{σ:St}{H:Hp}{s:Shared}
end
section
variable{X:Cx}
noncomputable def V_(K:PySem.W.Frag)(neg:Bool):R2:=λx y H Q=>∃(a p:Addr) (c:List Int) (zs:Us),x = .ref a/\y = .ref p/\H a=some (.tup (c.map V.int))/\ao K H p (uV zs)/\Df H zs/\
 Q (.bl (if neg then !decide (c∈zs.map (·.2)) else decide (c∈zs.map (·.2)))) H
noncomputable def Wa:V->List V->Hp->VK->Prop:=λx vs H Q=>∃(l a:Addr) (zs:Us) (c:List Int),x = .ref l/\vs = [.ref a]/\H l=some (.lst (uV zs))/\Df H zs/\H a=some (.tup (c.map V.int))/\c∈zs.map (·.2)/\
 ∀(k:Nat) (h:k<zs.length),zs[k].2=c->(∀m (hm:m<zs.length),m<k->zs[m].2≠c)->Q .aF (upd H l (.lst (uV (zs.eraseIdx k))))
end
section
variable{K:PySem.W.Frag}{tl:TE}{g:TG}{tt:TT}{te:TE}{nt:Nat}{fv:List Nat}{Q:VK}{σ:St}{H:Hp}
end
noncomputable def Dg(a b:Addr×Th):Prop:=xF a.2 b.2
noncomputable instance (a b:Addr×Th):Decidable (Dg a b):=by unfold Dg;infer_instance
section
variable{H H':Hp}{l a:Addr}{zs ys:Zs}{t:Th}{k:Nat}
end
section
variable{X:Cx}
end
theorem Dh{α:Type}:∀r:List α,(List.range r.length).filterMap (λk=>r[k]?)=r
 | []=>rfl
 | x::r=>by
  rw[List.length_cons,List.range_succ_eq_map,List.filterMap_cons]
  show x::_=_;rw[List.filterMap_map];exact congrArg (x :: ·) (Dh r)
section
variable{X:Cx}{e st:Expr}{te ts:TE}{pos p2:Pos}
noncomputable def Wb(K:PySem.W.Frag)(te ts:TE):TE:=λσ H Q=>te σ H λx H1=>ts σ H1 λk H2=>∃a xs,x = .ref a/\k = .int (-1)/\ao K H2 a xs/\∀p,H2 p=none->Q (.ref p) (upd H2 p (.lst xs.reverse))
end
noncomputable def qX(m n:Nat):Nat:=if n % 8=m % 8 then(5*(n % 8)+1) % 8 else n % 8
noncomputable def T2(m n:Nat)(led:Bool):SetTable:={ mask:=7,place:=if qX m n<m % 8 then #[qX m n,m % 8] else #[m % 8,qX m n],dummies := #[],finger:=0,led,moves:=0,plain:=true }
noncomputable def dG(m n:Nat)(y x:Value):Array (Int×Value):=if qX m n<m % 8 then #[((n:Int),x),((m:Int),y)] else #[((m:Int),y),((n:Int),x)]
noncomputable def bz(es:Array (Int×Value))(ep:Nat)(t:SetTable):Obj:={ cls:=.type "set",dict:=none,data:=.set es ep t }
section
variable{prog:Program}{w:World}{A:Around}{E:Value->Shared->Prop}{s:Shared}{a:Addr}{es bW:Array (Int×Value)}{ep:Nat}{t t1:SetTable}{n:Int}{tk:Tok}
end
section
variable{prog:Program}{w:World}{A:Around}{R:Result->Shared->Prop}{s:Shared}{l I S:Addr}{m n:Nat}{tm tn:Tok}{led:Bool}
theorem Di{a b:Int}{t:Tok}:(intKind prog w).is a (.int b t)=decide (a=b):=KeyKind.is_eq_decide (intKind_is _ _ _ _) a
end
noncomputable def fz(xs:Array Nat):Prop:=∀i k:Nat,i<k->k<xs.size->xs.getD i 0<xs.getD k 0
theorem MH{xs:Array Nat}{i:Nat}(h:i<xs.size)(a b:Nat):xs.getD i a=xs.getD i b:=by simp[Array.getD,h]
theorem xG{xs:Array Nat}{j:Nat}(hR:fz xs):∀(fuel lo hi:Nat),lo<=hi->hi<=xs.size->hi - lo<=fuel->(∀k,k<lo->xs.getD k 0<j)->(∀k,hi<=k->k<xs.size->j<=xs.getD k 0)->
  (∀k,k<SetTable.below.go xs j fuel lo hi->xs.getD k 0<j)/\(∀k,SetTable.below.go xs j fuel lo hi<=k->k<xs.size->j<=xs.getD k 0)/\SetTable.below.go xs j fuel lo hi<=xs.size
 | 0,lo,hi,h1,h2,h3,a,b=>by
  have e:SetTable.below.go xs j 0 lo hi=lo:=rfl;rw[e];exact⟨a,λk hk=>b k (by lia),by lia⟩
 | fuel+1,lo,hi,h1,h2,h3,a,b=>by
  have e:SetTable.below.go xs j (fuel+1) lo hi=if lo<hi then(if xs.getD ((lo+hi) / 2) j<j then SetTable.below.go xs j fuel ((lo+hi) / 2+1) hi else SetTable.below.go xs j fuel lo ((lo+hi) / 2)) else lo:=rfl
  rw[e];by_cases h0:lo<hi
  ·have hm:(lo+hi) / 2<xs.size:=by lia
   rw[if_pos h0,MH hm j 0];by_cases h4:xs.getD ((lo+hi) / 2) 0<j
   ·rw[if_pos h4];refine xG hR fuel _ hi (by lia) h2 (by lia) (λk hk=>?_) b
    by_cases lZ:k=(lo+hi) / 2
    ·rw[lZ];exact h4
    ·have:=hR k ((lo+hi) / 2) (by lia) hm;lia
   ·rw[if_neg h4];refine xG hR fuel lo _ (by lia) (by lia) (by lia) a λk hk hs=>?_
    by_cases lZ:k=(lo+hi) / 2
    ·rw[lZ];lia
    ·have:=hR ((lo+hi) / 2) k (by lia) hs;lia
  ·rw[if_neg h0];exact⟨a,λk hk=>b k (by lia),by lia⟩
theorem nZ{xs:Array Nat}(hR:fz xs)(j:Nat):(∀k,k<SetTable.below xs j->xs.getD k 0<j)/\(∀k,SetTable.below xs j<=k->k<xs.size->j<=xs.getD k 0)/\SetTable.below xs j<=xs.size :=
 xG hR xs.size 0 xs.size (Nat.zero_le _) (Nat.le_refl _) (Nat.le_refl _) (λk hk=>by lia) λk hk hs=>by lia
theorem below_at{xs:Array Nat}(hR:fz xs){i:Nat}(hi:i<xs.size):SetTable.below xs (xs.getD i 0)=i:=by
 obtain⟨a,b,c⟩:=nZ hR (xs.getD i 0);rcases Nat.lt_trichotomy (SetTable.below xs (xs.getD i 0)) i with h | h | h
 ·have:=b _ (Nat.le_refl _) (by lia);have:=hR _ _ h hi;lia
 ·exact h
 ·have:=a _ h;lia
theorem MI{xs:Array Nat}(hR:fz xs){i:Nat}(hi:i<xs.size):SetTable.below xs (xs.getD i 0+1)=i+1:=by
 obtain⟨a,b,c⟩:=nZ hR (xs.getD i 0+1);rcases Nat.lt_trichotomy (SetTable.below xs (xs.getD i 0+1)) (i+1) with h | h | h
 ·have:=b i (by lia) hi;lia
 ·exact h
 ·have:=a (i+1) h;have:=hR i (i+1) (by lia) (by lia);lia
theorem MJ{xs:Array Nat}(hR:fz xs):SetTable.below xs 0=0:=by
 obtain⟨a,b,c⟩:=nZ hR 0;rcases Nat.eq_zero_or_pos (SetTable.below xs 0) with h | h
 ·exact h
 ·have:=a 0 h;lia
theorem l5(xs:Array Nat)(i:Nat):xs.getD i 0=xs.toList.getD i 0:=by
 rw[List.getD_eq_getElem?_getD,Array.getElem?_toList,Array.getD_eq_getD_getElem?]
theorem xH{l:List Nat}:fz l.toArray↔l.Pairwise (· < ·):=by
 rw[List.pairwise_iff_getElem];constructor
 ·intro h i j hi hj Dd;have:=h i j Dd (by simpa using hj)
  rw[l5,l5] at this;simpa[List.getD_eq_getElem?_getD,hi,hj] using this
 ·intro h i k MK hk;have jd:k<l.length:=by simpa using hk
  have:=h i k (by lia) jd MK
  rw[l5,l5];simpa[List.getD_eq_getElem?_getD,jd,show i<l.length by lia] using this
theorem ML{xs:Array Nat}(hR:fz xs){j:Nat}(hj:j∉xs.toList):fz (SetTable.insertAt xs (SetTable.below xs j) j):=by
 obtain⟨a,b,c⟩:=nZ hR j;have hl:xs.toList.Pairwise (· < ·):=xH.mp (by simpa using hR)
 rw[← Array.toArray_toList (xs:=SetTable.insertAt xs (SetTable.below xs j) j),xH,SetTable.toList_insertAt];rw[List.pairwise_append];have MM:∀x∈xs.toList.take (SetTable.below xs j),x<j:=λx hx=>by
  obtain⟨k,hk,rfl⟩:=List.mem_iff_getElem.mp hx;rw[List.length_take] at hk;have:=a k (by lia)
  rw[l5] at this;rw[List.getElem_take];rw[List.getD_eq_getElem?_getD,List.getElem?_eq_getElem (by lia)] at this
  exact this
 have Dj:∀x∈xs.toList.drop (SetTable.below xs j),j<x:=λx hx=>by
  have hm:=List.mem_of_mem_drop hx;obtain⟨k,hk,rfl⟩:=List.mem_iff_getElem.mp hx;rw[List.length_drop] at hk;have:=b (SetTable.below xs j+k) (by lia) (by simp at hk;lia)
  rw[l5] at this;rw[List.getElem_drop] at hm ⊢;have e:xs.toList.getD (SetTable.below xs j+k) 0=xs.toList[SetTable.below xs j+k]:=by
   rw[List.getD_eq_getElem?_getD,List.getElem?_eq_getElem (by simp at hk ⊢;lia)];rfl
  rw[e] at this;rcases Nat.lt_or_ge j xs.toList[SetTable.below xs j+k] with h | h
  ·exact h
  ·exact absurd (by rw[show j=xs.toList[SetTable.below xs j+k] by lia];exact hm) hj
 refine⟨hl.sublist (List.take_sublist _ _),List.pairwise_cons.mpr ⟨Dj,hl.sublist (List.drop_sublist _ _)⟩,λx hx y hy=>?_⟩;have:=MM x hx;rcases List.mem_cons.mp hy with rfl | hy
 ·exact this
 ·have:=Dj y hy;lia
theorem Dl{t:SetTable}(hd:t.dummies = #[]){j:Nat}(hj:j∉t.place.toList):t.slot j = .empty:=by
 have e:t.slot j=if (t.place[SetTable.below t.place j]? == some j)=true then .live (SetTable.below t.place j) else if SetTable.has t.dummies j=true then .dummy else .empty:=rfl
 rw[e,if_neg,if_neg]
 ·rw[hd];simp[SetTable.has,SetTable.below,SetTable.below.go]
 ·intro h;have h:=eq_of_beq h;exact hj (List.mem_of_getElem? (by rw[Array.getElem?_toList];exact h))
theorem MN{t:SetTable}(hR:fz t.place){j:Nat}(hj:j∈t.place.toList):∃i,t.slot j = .live i:=by
 have e:t.slot j=if (t.place[SetTable.below t.place j]? == some j)=true then .live (SetTable.below t.place j) else if SetTable.has t.dummies j=true then .dummy else .empty:=rfl
 obtain⟨k,hk,rfl⟩:=List.mem_iff_getElem.mp hj;have jd:k<t.place.size:=by simpa using hk
 have e2:t.place.getD k 0=t.place.toList[k]:=by simp[Array.getD,jd]
 have:=below_at hR jd;rw[e2] at this;exact⟨_,by rw[e,if_pos (by rw[this];simp)]⟩
noncomputable def xJ(t:SetTable)(q:Option SetTable.Met):Prop:=∃j,q=some (.empty j none)/\j∉t.place.toList/\j<=t.mask
noncomputable def je(mask:Nat)(x:Nat×Nat):SetTable.Probe:={ j:=x.1,more:=SetTable.runEnd mask x.1 - x.1,i:=x.1,perturb:=x.2,dummy:=none }
theorem Dm{t:SetTable}(hd:t.dummies = #[])(hR:fz t.place){h:Int}(fuel:Nat)(p:SetTable.Probe)(hp:p.dummy=none)(hj:p.j<=t.mask) :
  xJ t (SetTable.probe.go t (λ_=>h+1) h (fuel+1) p)\/SetTable.probe.go t (λ_=>h+1) h (fuel+1) p=SetTable.probe.go t (λ_=>h+1) h fuel (t.advance p):=by
 have e:SetTable.probe.go t (λ_=>h+1) h (fuel+1) p=match t.slot p.j with
  | .empty=>some (.empty p.j p.dummy)
  | .dummy=>SetTable.probe.go t (λ_=>h+1) h fuel (t.advance { p with dummy:=some p.j })
  | .live i=>if (h+1 == h)=true then some (.candidate p.j i (t.advance p)) else SetTable.probe.go t (λ_=>h+1) h fuel (t.advance p):=rfl
 by_cases hm:p.j∈t.place.toList
 ·obtain⟨i,hi⟩:=MN hR hm;right;rw[e,hi];dsimp only;rw[if_neg];intro z;have:=eq_of_beq z;lia
 ·left;rw[e,Dl hd hm,hp];exact⟨p.j,rfl,hm,hj⟩
theorem Dn{t:SetTable}(hd:t.dummies = #[])(hR:fz t.place){h:Int}:∀(r fuel:Nat) (p:SetTable.Probe),p.dummy=none->p.more=r->p.j+r<=t.mask->r+1<=fuel->
  xJ t (SetTable.probe.go t (λ_=>h+1) h fuel p)\/SetTable.probe.go t (λ_=>h+1) h fuel p=SetTable.probe.go t (λ_=>h+1) h (fuel - (r+1)) (je t.mask (SetTable.leap t.mask p.i p.perturb))
 | 0,fuel,p,hp,hm,hj,hf=>by
  obtain⟨f,rfl⟩:∃f,fuel=f+1:=⟨fuel - 1,by lia⟩
  rcases Dm hd hR f p hp (by lia) with z | z
  ·exact .inl z
  ·right;rw[z];have e:t.advance p=je t.mask (SetTable.leap t.mask p.i p.perturb):=by
    unfold SetTable.advance;rw[hm,if_neg (by decide)]
    unfold je;rw[← hp]
   rw[e];rfl
 | r+1,fuel,p,hp,hm,hj,hf=>by
  obtain⟨f,rfl⟩:∃f,fuel=f+1:=⟨fuel - 1,by lia⟩
  rcases Dm hd hR f p hp (by lia) with z | z
  ·exact .inl z
  ·rw[z];have e:t.advance p = { j:=p.j+1,more:=p.more - 1,i:=p.i,perturb:=p.perturb,dummy:=p.dummy }:=by
    unfold SetTable.advance;rw[if_pos (by lia)]
   rw[e];rcases Dn hd hR (h:=h) r f { j:=p.j+1,more:=p.more - 1,i:=p.i,perturb:=p.perturb,dummy:=p.dummy } hp (by dsimp only;lia) (by dsimp only;lia) (by lia) with y | y
   ·exact .inl y
   ·right;rw[y];congr 1;lia
noncomputable def chain(mask:Nat):Nat->Nat×Nat->Nat×Nat
 | 0,x=>x
 | m+1,x=>chain mask m (SetTable.leap mask x.1 x.2)
theorem Dp(mask i:Nat)(h:i<=mask):SetTable.runEnd mask i - i<=9/\i+(SetTable.runEnd mask i - i)<=mask:=by
 unfold SetTable.runEnd;split <;> lia
theorem xK(mask i p:Nat):(SetTable.leap mask i p).1<=mask:=by
 have:(SetTable.leap mask i p).1<mask+1:=Nat.mod_lt _ (by lia)
 lia
theorem Dq{t:SetTable}(hd:t.dummies = #[])(hR:fz t.place){h:Int}:∀(m fuel:Nat) (x:Nat×Nat),x.1<=t.mask->(chain t.mask m x).1∉t.place.toList->10*m<fuel->xJ t (SetTable.probe.go t (λ_=>h+1) h fuel (je t.mask x))
 | 0,fuel,x,hx,hm,hf=>by
  obtain⟨f,rfl⟩:∃f,fuel=f+1:=⟨fuel - 1,by lia⟩
  have e:SetTable.probe.go t (λ_=>h+1) h (f+1) (je t.mask x)=match t.slot x.1 with
   | .empty=>some (.empty x.1 none)
   | .dummy=>SetTable.probe.go t (λ_=>h+1) h f (t.advance { je t.mask x with dummy:=some x.1 })
   | .live i=>if (h+1 == h)=true then some (.candidate x.1 i (t.advance (je t.mask x))) else SetTable.probe.go t (λ_=>h+1) h f (t.advance (je t.mask x)):=rfl
  have hm:x.1∉t.place.toList:=hm;rw[e,Dl hd hm];exact⟨x.1,rfl,hm,hx⟩
 | m+1,fuel,x,hx,hm,hf=>by
  obtain⟨r1,r2⟩:=Dp t.mask x.1 hx;rcases Dn hd hR (h:=h) (SetTable.runEnd t.mask x.1 - x.1) fuel (je t.mask x) rfl rfl r2 (by lia) with z | z
  ·exact z
  ·rw[z];exact Dq hd hR m _ _ (xK _ _ _) hm (by lia)
theorem n6(mask:Nat):∀(a b:Nat) (x:Nat×Nat),chain mask (a+b) x=chain mask b (chain mask a x)
 | 0,b,x=>by rw[Nat.zero_add];rfl
 | a+1,b,x=>by
  rw[show a+1+b=(a+b)+1 by lia]
  exact n6 mask a b _
theorem xM(mask:Nat):∀(m:Nat) (x:Nat×Nat),(chain mask m x).2=x.2 / 32 ^ m
 | 0,x=>by simp[chain]
 | m+1,x=>by
  show (chain mask m (SetTable.leap mask x.1 x.2)).2=_;rw[xM mask m,show (SetTable.leap mask x.1 x.2).2=x.2 / 32 from rfl,Nat.div_div_eq_div_mul,Nat.pow_succ,Nat.mul_comm]
theorem Dr(mask:Nat):∀(m:Nat) (x:Nat×Nat),x.1<=mask->(chain mask m x).1<=mask
 | 0,_,h=>h
 | m+1,x,_=>Dr mask m _ (xK _ _ _)
noncomputable def l6(mask:Nat):Nat->Nat->List Nat
 | 0,_=>[]
 | n+1,s=>s::l6 mask n ((s*5+1) % (mask+1))
theorem Ds(mask:Nat):∀(n s:Nat) (v:Nat),v∈l6 mask n s->∃k,k<n/\(chain mask k (s,0)).1=v
 | 0,_,_,h=>by simp[l6] at h
 | n+1,s,v,h=>by
  rcases List.mem_cons.mp h with rfl | h
  ·exact⟨0,by lia,rfl⟩
  ·obtain⟨k,hk,e⟩:=Ds mask n _ v h;refine⟨k+1,by lia,?_⟩
   have e2:SetTable.leap mask s 0=((s*5+1) % (mask+1),0):=by unfold SetTable.leap;simp
   show (chain mask k (SetTable.leap mask s 0)).1=v;rw[e2];exact e
noncomputable def fW(mask:Nat):Bool:=((List.range (mask+1)).all λf=>(l6 mask (mask+1) 0).contains f) && ((chain mask (mask+1) (0,0)).1 == 0)
theorem MO:fW 7=true:=by decide +kernel
theorem Dt:fW 31=true:=by decide +kernel
theorem Du:fW 127=true:=by decide +kernel
theorem Dv{mask:Nat}(m s:Nat):chain mask m (s,0)=((chain mask m (s,0)).1,0):=by
 have:=xM mask m (s,0);rw[Nat.zero_div] at this;exact Prod.ext rfl this
theorem MP{mask:Nat}(h:fW mask=true){s f:Nat}(hs:s<=mask)(hf:f<=mask):∃k,k<mask+1/\(chain mask k (s,0)).1=f:=by
 unfold fW at h;rw[Bool.and_eq_true] at h;have all:∀v,v<=mask->∃k,k<mask+1/\(chain mask k (0,0)).1=v:=λv hv=>by
  have:=List.all_eq_true.mp h.1 v (List.mem_range.mpr (by lia))
  exact Ds mask (mask+1) 0 v (by simpa using this)
 have back:=eq_of_beq h.2;obtain⟨a,ha,ea⟩:=all s hs;obtain⟨b,hb,eb⟩:=all f hf;have pa:=Dv (mask:=mask) a 0;rw[ea] at pa;by_cases iG:a<=b
 ·refine⟨b - a,by lia,?_⟩
  rw[← pa,← n6,show a+(b - a)=b by lia];exact eb
 ·refine⟨mask+1 - a+b,by lia,?_⟩
  rw[← pa,← n6,show a+(mask+1 - a+b)=(mask+1)+b by lia,n6,Dv (mask+1) 0,back];exact eb
theorem reach{mask:Nat}(h:fW mask=true){x:Nat×Nat}(hx:x.1<=mask)(hp:x.2<2 ^ 64){f:Nat}(hf:f<=mask):∃m,m<mask+15/\(chain mask m x).1=f:=by
 have z:(chain mask 13 x).2=0:=by
  rw[xM];exact Nat.div_eq_of_lt (Nat.lt_trans hp (by decide))
 obtain⟨k,hk,e⟩:=MP h (Dr mask 13 x hx) hf;refine⟨13+k,by lia,?_⟩
 rw[n6,show chain mask 13 x=((chain mask 13 x).1,0) from Prod.ext rfl z];exact e
theorem Dw(h:Int):SetTable.bits h<2 ^ 64:=by
 unfold SetTable.bits;have:=Int.emod_lt_of_pos h (show (0:Int)<2 ^ 64 by decide)
 have:=Int.emod_nonneg h (show (2 ^ 64:Int)≠0 by decide)
 lia
theorem MQ{ps:List Nat}{mask:Nat}(hn:ps.length<=mask):∃f,f<=mask/\f∉ps:=by
 apply Classical.byContradiction;intro h;have sub:List.range (mask+1) ⊆ ps:=λv hv=>by
  apply Classical.byContradiction;intro z;exact h ⟨v,by have:=List.mem_range.mp hv;lia,z⟩
 have:=(List.nodup_range (n:=mask+1)).length_le_of_subset sub;rw[List.length_range] at this;lia
theorem MR{t:SetTable}(hd:t.dummies = #[])(hR:fz t.place)(ho:fW t.mask=true)(hn:t.place.size<=t.mask)(h:Int):∃j,t.freeSlot h=some (j,false)/\j∉t.place.toList/\j<=t.mask:=by
 obtain⟨f,hf,hm⟩:=MQ (ps:=t.place.toList) (mask:=t.mask) (by simpa using hn)
 have hx:SetTable.bits h % (t.mask+1)<=t.mask:=by have:=Nat.mod_lt (SetTable.bits h) (show 0<t.mask+1 by lia);lia
 obtain⟨m,kW,e⟩:=reach ho (x:=(SetTable.bits h % (t.mask+1),SetTable.bits h)) hx (Dw h) hf;obtain⟨j,e1,e2,e3⟩:=Dq hd hR (h:=h) m (10*SetTable.turns t.mask) (SetTable.bits h % (t.mask+1),SetTable.bits h) hx (by rw[e];exact hm) (by unfold SetTable.turns;lia)
 refine⟨j,?_,e2,e3⟩;have e4:t.probe (λ_=>h+1) h (t.probeStart h)=some (.empty j none):=e1;unfold SetTable.freeSlot;rw[e4]
 rfl
noncomputable def n8(owner:Array (Option Nat))(j:Nat):Bool:=(owner.getD j (some 0)).isNone
theorem Dy{mask:Nat}{owner:Array (Option Nat)}:∀(m fuel:Nat) (x:Nat×Nat),m<fuel->x.1<=mask->n8 owner (chain mask m x).1=true->∃j,SetTable.layClean.free mask owner fuel x.1 x.2=some j/\n8 owner j=true
 | m,0,_,h,_,_=>by lia
 | m,fuel+1,x,h,hx,hf=>by
  have e:SetTable.layClean.free mask owner (fuel+1) x.1 x.2=match List.find? (λk=>(owner.getD (x.1+k) (some 0)).isNone) (List.range (SetTable.runEnd mask x.1+1 - x.1)) with
   | some k=>some (x.1+k)
   | none=>SetTable.layClean.free mask owner fuel (SetTable.leap mask x.1 x.2).1 (SetTable.leap mask x.1 x.2).2:=rfl
  rw[e];cases hk:List.find? (λk=>(owner.getD (x.1+k) (some 0)).isNone) (List.range (SetTable.runEnd mask x.1+1 - x.1)) with
  | some k =>
   have:=List.find?_some hk;exact⟨x.1+k,rfl,this⟩
  | none =>
   cases m with
   | zero =>
    have:=List.find?_eq_none.mp hk 0 (List.mem_range.mpr (by have:=Dp mask x.1 hx;unfold SetTable.runEnd;split <;> lia))
    exact absurd hf this
   | succ m=>exact Dy m fuel _ (by lia) (xK _ _ _) hf
theorem MS{l:List (Option Nat)}:(l.filterMap id).length=l.length\/none∈l:=by
 induction l with
 | nil=>left;rfl
 | cons a l ih =>
  cases a with
  | none=>right;simp
  | some a =>
   rcases ih with h | h
   ·left;simp[h]
   ·right;simp[h]
theorem Dz{k:Nat}:∀ {l:List (Option Nat)} {j:Nat},l[j]? = some none->((l.set j (some k)).filterMap id).Perm (k::l.filterMap id)
 | [],_,h=>by simp at h
 | a::l,0,h=>by
  simp at h;subst h;simp
 | a::l,j+1,h=>by
  have ih:=Dz (k:=k) (l:=l) (j:=j) (by simpa using h)
  cases a with
  | none=>simpa using ih
  | some a =>
   show ((some a::l.set j (some k)).filterMap id).Perm (k::(some a::l).filterMap id);simp only[List.filterMap_cons,id];exact(ih.cons a).trans (List.Perm.swap k a _)
structure l7(mask:Nat)(owner:Array (Option Nat))(k:Nat):Prop where
 sz:owner.size=mask+1
 pm:(owner.toList.filterMap id).Perm (List.range k)
theorem MT{mask:Nat}{owner:Array (Option Nat)}{k:Nat}(h:l7 mask owner k)(ho:fW mask=true)(hk:k<=mask)(hs:Int) :
  ∃j,SetTable.layClean.free mask owner (SetTable.turns mask) (SetTable.bits hs % (mask+1)) (SetTable.bits hs)=some j/\l7 mask (owner.setIfInBounds j (some k)) (k+1):=by
 have hl:=h.pm.length_eq;rw[List.length_range] at hl;have hn:none∈owner.toList:=by
  rcases MS (l:=owner.toList) with z | z
  ·rw[hl,Array.length_toList,h.sz] at z;lia
  ·exact z
 obtain⟨f,hf,ef⟩:=List.mem_iff_getElem.mp hn;rw[Array.length_toList,h.sz] at hf;have ff:n8 owner f=true:=by
  unfold n8;rw[Array.getD_eq_getD_getElem?,← Array.getElem?_toList,List.getElem?_eq_getElem (by simpa[h.sz] using hf),ef];rfl
 have hx:SetTable.bits hs % (mask+1)<=mask:=by have:=Nat.mod_lt (SetTable.bits hs) (show 0<mask+1 by lia);lia
 obtain⟨m,kW,e⟩:=reach ho (x:=(SetTable.bits hs % (mask+1),SetTable.bits hs)) hx (Dw hs) (f:=f) (by lia)
 obtain⟨j,e1,e2⟩:=Dy m (SetTable.turns mask) (SetTable.bits hs % (mask+1),SetTable.bits hs) kW hx (by rw[e];exact ff)
 refine⟨j,e1,by rw[Array.size_setIfInBounds];exact h.sz,?_⟩
 have e3:owner.toList[j]? = some none:=by
  unfold n8 at e2;rw[Array.getD_eq_getD_getElem?,← Array.getElem?_toList] at e2;cases q:owner.toList[j]? with
  | none=>rw[q] at e2;simp at e2
  | some v =>
   rw[q] at e2;cases v with
   | none=>rfl
   | some v=>simp at e2
 rw[Array.toList_setIfInBounds,List.range_succ];exact(Dz e3).trans ((h.pm.cons k).trans (List.perm_append_comm (l₁:=[k])))
theorem DA{mask:Nat}(ho:fW mask=true):∀(hs:List Int) (owner:Array (Option Nat)) (k:Nat),l7 mask owner k->k+hs.length<=mask->
  ∃ow,hs.foldl (λ(acc:Option (Array (Option Nat)×Nat)) h=>do
    let __x ← acc
    match __x with
     | (owner,k)=>do
      let j ← SetTable.layClean.free mask owner (SetTable.turns mask) (SetTable.bits h % (mask+1)) (SetTable.bits h)
      pure (owner.setIfInBounds j (some k),k+1)) (some (owner,k))=some (ow,k+hs.length)/\l7 mask ow (k+hs.length)
 | [],owner,k,h,hk=>⟨owner,rfl,h⟩
 | x::hs,owner,k,h,hk=>by
  rw[List.length_cons] at hk;obtain⟨j,e,h2⟩:=MT h ho (by lia) x
  obtain⟨ow,e2,h3⟩:=DA ho hs _ (k+1) h2 (by lia)
  refine⟨ow,?_,by rw[List.length_cons,show k+(hs.length+1)=k+1+hs.length by lia];exact h3⟩
  rw[List.foldl_cons,List.length_cons,show k+(hs.length+1)=k+1+hs.length by lia,← e2]
  show List.foldl _ ((SetTable.layClean.free mask owner (SetTable.turns mask) (SetTable.bits x % (mask+1)) (SetTable.bits x)) >>= λj=>pure (owner.setIfInBounds j (some k),k+1)) hs=_;rw[e]
  rfl
theorem MU{mask:Nat}(ho:fW mask=true)(hs:Array Int)(hn:hs.size<=mask):∃ow,SetTable.layClean mask hs=some ow/\l7 mask ow hs.size:=by
 have h0:l7 mask (Array.replicate (mask+1) none) 0:=⟨by simp,by simp⟩
 obtain⟨ow,e,h⟩:=DA ho hs.toList _ 0 h0 (by simpa using hn)
 refine⟨ow,?_,by simpa using h⟩
 unfold SetTable.layClean;rw[← Array.foldl_toList];rw[show (hs.toList.foldl _ (some (Array.replicate (mask+1) none,0)))=some (ow,0+hs.toList.length) from e]
 rfl
theorem qY(g:Nat->Option Nat):∀l:List Nat,((l.filterMap λj=>(g j).map λx=>(j,x)).map (·.1)).Sublist l
 | []=>.slnil
 | j::l=>by
  rw[List.filterMap_cons];cases g j with
  | none=>exact(qY g l).cons j
  | some v=>exact(qY g l).cons₂ j
theorem qZ(g:Nat->Option Nat):∀l:List Nat,(l.filterMap λj=>(g j).map λx=>(j,x)).map (·.2)=l.filterMap g
 | []=>rfl
 | j::l=>by
  rw[List.filterMap_cons,List.filterMap_cons];cases g j with
  | none=>exact qZ g l
  | some v=>simp only[Option.map_some,List.map_cons,qZ g l]
theorem MV{mask finger moves:Nat}{led plain:Bool}(ho:fW mask=true)(hs:Array Int)(hn:hs.size<=mask):∃ps order,SetTable.laid mask finger moves led plain hs=some ({ mask:=mask,place:=ps,dummies := #[],finger:=finger,led:=led,moves:=moves,plain:=plain },order)/\
  fz ps/\ps.size=hs.size/\order.toList.Perm (List.range hs.size)/\∀p∈ps.toList,p<=mask:=by
 obtain⟨ow,e,h⟩:=MU ho hs hn;have eO:(List.range (mask+1)).filterMap (λj=>ow.getD j none)=ow.toList.filterMap id:=by
  have:ow.toList=(List.range (mask+1)).map λj=>ow.getD j none:=by
   apply List.ext_getElem
   ·simp[h.sz]
   ·intro i h1 h2;simp at h1;simp[Array.getD,h1]
  rw[this,List.filterMap_map];rfl
 refine⟨(((List.range (mask+1)).filterMap λj=>(ow.getD j none).map λx=>(j,x)).map (·.1)).toArray,(((List.range (mask+1)).filterMap λj=>(ow.getD j none).map λx=>(j,x)).map (·.2)).toArray,?_,?_,?_,?_,?_⟩
 ·unfold SetTable.laid;rw[e];rfl
 ·rw[xH];exact(List.pairwise_lt_range (n:=mask+1)).sublist (qY _ _)
 ·have:=h.pm.length_eq;rw[← eO,← qZ,List.length_map,List.length_range] at this;simpa using this
 ·rw[List.toList_toArray,qZ,eO];exact h.pm
 ·intro p hp;rw[List.toList_toArray] at hp;have:=List.mem_range.mp ((qY _ _).subset hp);lia
structure jW(led:Bool)(t:SetTable)(n:Nat):Prop where
 n_:t.dummies = #[]
 rise:fz t.place
 sz:t.place.size=n
 oh:t.mask=7\/t.mask=31\/t.mask=127
 pl:t.plain=true
 ld:t.led=led
 pre:n<=60/\(n=0\/(n - 1)*5<t.mask*3)
structure l8(led:Bool)(t:SetTable)(n:Nat):Prop extends jW led t n where
 room:n*5<t.mask*3
theorem jW.l6{led:Bool}{t:SetTable}{n:Nat}(h:jW led t n):fW t.mask=true:=by
 rcases h.oh with e | e | e <;> rw[e]
 ·exact MO
 ·exact Dt
 ·exact Du
theorem jW.fits{led:Bool}{t:SetTable}{n:Nat}(h:jW led t n):t.fits n=true:=by
 unfold SetTable.fits SetTable.fill;rw[h.sz,h.n_];have:=h.pre;rcases h.oh with e | e | e <;> rw[e] at this ⊢ <;> simp <;> lia
theorem DB(led:Bool):l8 led (.fresh 0 0 led) 0:=⟨⟨rfl,λi k _ h=>absurd h (by simp[SetTable.fresh]),rfl,.inl rfl,rfl,rfl,⟨by lia,.inl rfl⟩⟩,by show 0*5<7*3;decide⟩
theorem MW{led:Bool}{t:SetTable}{n:Nat}(h:l8 led t n){es:Array (Int×Value)}(he:es.size=n)(hn:n<60)(hs:Int)(x:Value) :
  ∃bW t1,layNew t es hs x=(bW,t1,false,false)/\bW.toList.Perm (es.toList++[(hs,x)])/\jW led t1 (n+1):=by
 have DC:t.mask<7\/7<=t.mask:=by lia
 have m7:7<=t.mask:=by rcases h.oh with e | e | e <;> lia
 have hr:=h.room;obtain⟨j,e1,e2,e3⟩:=MR h.n_ h.rise h.l6 (by rw[h.sz];lia) hs
 have pe:t.put j=({ t with place:=SetTable.insertAt t.place (SetTable.below t.place j) j,dummies := #[] },SetTable.below t.place j):=by
  have e0:SetTable.has #[] j=false:=by simp[SetTable.has,SetTable.below,SetTable.below.go]
  unfold SetTable.put;simp only[h.n_,e0];simp
 have bl:=(nZ h.rise j).2.2;have U:jW led { t with place:=SetTable.insertAt t.place (SetTable.below t.place j) j,dummies := #[] } (n+1):=by
  refine⟨rfl,ML h.rise e2,?_,h.oh,h.pl,h.ld,⟨by lia,.inr hr⟩⟩
  have:=(SetTable.insertAt_perm t.place (SetTable.below t.place j) j).length_eq;rw[Array.length_toList] at this;rw[this];simp[h.sz]
 have pm:(SetTable.insertAt es (SetTable.below t.place j) (hs,x)).toList.Perm (es.toList++[(hs,x)]):=by
  refine(SetTable.insertAt_perm es _ _).trans ?_;rw[Array.toList_push]
 have xN:(SetTable.insertAt es (SetTable.below t.place j) (hs,x)).size=n+1:=by
  have:=pm.length_eq;rw[Array.length_toList] at this;rw[this];simp[he]
 refine⟨_,_,?_,pm,U⟩;unfold layNew;rw[e1];dsimp only;rw[pe];dsimp only;unfold SetTable.orStandIn;rw[xN,U.fits]
 rfl
theorem MX{α:Type}(es:Array α):(List.range es.size).filterMap (λi=>es[i]?)=es.toList:=by
 have e:=Dh es.toList;simpa using e
theorem MY{led:Bool}{t:SetTable}{n:Nat}(h:jW led t n){es:Array (Int×Value)}(he:es.size=n)(hf:t.tooFull=true) :
  ∃dG t2,relayAll t es (SetTable.grown es.size)=(dG,t2,false)/\dG.toList.Perm es.toList/\l8 led t2 n:=by
 have hp:=h.pre;have oq:t.mask*3<=n*5:=by
  unfold SetTable.tooFull SetTable.fill at hf;rw[h.sz,h.n_] at hf;simpa using hf
 obtain⟨mk,DC,xO⟩:∃mk,SetTable.sizeAbove (SetTable.grown n) - 1=mk/\(mk=31\/mk=127)/\n*5<mk*3:=by
  rcases h.oh with e | e | e
  ·have:n=5:=by lia
   subst this;exact⟨31,by decide,.inl rfl,by decide⟩
  ·have:n=19:=by lia
   subst this;exact⟨127,by decide,.inr rfl,by decide⟩
  ·lia
 have ho:fW mk=true:=by
  rcases xO.1 with e | e <;> rw[e]
  ·exact Dt
  ·exact Du
 obtain⟨ps,order,e1,r1,r2,r3,r4⟩:=MV (mask:=mk) (finger:=t.finger) (moves:=t.movedTo mk) (led:=t.led) (plain:=t.plain) ho (es.map λx=>x.1) (by rw[Array.size_map,he];lia)
 rw[Array.size_map,he] at r2 r3;have U:l8 led { mask:=mk,place:=ps,dummies := #[],finger:=t.finger,led:=t.led,moves:=t.movedTo mk,plain:=t.plain } n:=⟨⟨rfl,r1,r2,.inr xO.1,h.pl,h.ld,⟨hp.1,.inr (by show (n - 1)*5<mk*3;lia)⟩⟩,xO.2⟩
 have pm:(order.filterMap λx=>es[x]?).toList.Perm es.toList:=by
  rw[Array.toList_filterMap];have:=r3.filterMap λx=>es[x]?
  rw[← he,MX] at this;exact this
 have sz:(order.filterMap λx=>es[x]?).size=n:=by
  have:=pm.length_eq;rw[Array.length_toList,Array.length_toList,he] at this;exact this
 refine⟨_,_,?_,pm,U⟩;unfold relayAll SetTable.relaid;rw[he,DC,e1];dsimp only;rw[sz,U.fits,if_pos];unfold coversAll;rw[Bool.and_true];exact List.isPerm_iff.mpr r3
noncomputable def bw(w:World):Bool:=w.params.followText "set-order"
section
variable{prog:Program}{w:World}{A:Around}{E:Value->Shared->Prop}{s:Shared}
theorem DE(a:Value){Q₁:Value->Shared->Prop}
  (h:Q₁ (.ref s.heap.objs.size) { s with heap:=s.heap.push (bz #[] 0 (.fresh 0 0 (!bw w)))}) :
  codeAny (model prog w) A (.call (.builtin "set.__new__") ⟨[.type "set",a],[]⟩) (wants Q₁ E) s:=by
 refine codeAny_of_tree ?_
 show wpAny _ A.in1 (do checkBuiltinCall "set.__new__" ⟨[.type "set",a],[]⟩;again (.builtin "set.__new__" ⟨[.type "set",a],[]⟩)) _ _ s
 refine wpAny_bind (wpAny_of_eq (F.newCall_set_1 a) (wpAny_pure ⟨plainId_quiet F.plain_set_new _,codeAny_builtin F.entry_set_new ?_⟩));rw[Around.under_plainId F.plain_set_new _];unfold Builtin.«set.__new__» Builtin.Frozenset.newClass;have DF:=sub_set_self;obtain⟨hp,g,d,tk,os⟩:=s;dsimp only;wp_walk;refine wpAny_askSetting (wpAny_pure ?_);dsimp only;simp only[newObj];refine wpAny_bind (wpAny_alloc (wpAny_pure ?_));exact wpAny_pure h
end
theorem l9:Slot "set_iterator" "__next__" "set_iterator.__next__" :=
 .of (owner := "set_iterator") (n := "__next__") (by rw[typeLookup_type,builtinLookup_eq_fast];kernel_rfl) (by decide +kernel) (by decide +kernel) (by decide +kernel)
  (by first | exact .inl (by decide +kernel) | exact .inr (by decide +kernel)) (by rw[isSubtype_type];kernel_rfl)
theorem DG:entryFor table "set_iterator.__next__" = some Builtin.«set_iterator.__next__» := entryFor_of_tree (by kernel_rfl)
theorem DH:Manifest.owners.lookup (String.ofList ['r','o','t','a','r','e','t','i','_','t','e','s'].reverse)=some Manifest.sig_set_iterator:=by kernel_rfl
theorem DI(a:Value):argsOk "set_iterator.__next__" ⟨[a],[]⟩:=by
 unfold argsOk;rw[signature?_of (id := "set_iterator.__next__") (n:=['_','_','t','x','e','n','_','_']) (o:=['r','o','t','a','r','e','t','i','_','t','e','s']) (by kernel_rfl) DH];kernel_rfl
theorem DJ:Slot "set_iterator" "__iter__" "set_iterator.__iter__" :=
 .of (owner := "set_iterator") (n := "__iter__") (by rw[typeLookup_type,builtinLookup_eq_fast];kernel_rfl) (by decide +kernel) (by decide +kernel) (by decide +kernel)
  (by first | exact .inl (by decide +kernel) | exact .inr (by decide +kernel)) (by rw[isSubtype_type];kernel_rfl)
theorem MZ:entryFor table "set_iterator.__iter__" = some Builtin.«dict_keyiterator.__iter__» :=
 entryFor_alias (id' := "dict_keyiterator.__iter__") (by kernel_rfl) rfl (by decide +kernel) (by kernel_rfl)
theorem M0(a:Value):argsOk "set_iterator.__iter__" ⟨[a],[]⟩:=by
 unfold argsOk;rw[signature?_of (id := "set_iterator.__iter__") (n:=['_','_','r','e','t','i','_','_']) (o:=['r','o','t','a','r','e','t','i','_','t','e','s']) (by kernel_rfl) DH];kernel_rfl
theorem M1:entryFor table "set.__iter__" = some Builtin.«frozenset.__iter__» :=
 entryFor_alias (id' := "frozenset.__iter__") (by kernel_rfl) rfl (by decide +kernel) (by kernel_rfl)
theorem M3:typeLookup (.type "set") "__len__" = pure (some (.builtin "set.__len__")):=by rw[typeLookup_type,builtinLookup_eq_fast];kernel_rfl
noncomputable def iH(h:Heap)(it d:Addr)(slot i n ep:Nat):Prop:=∃o,h.get? it=some o/\o.cls = .type "set_iterator"/\o.data = .fields #[rawInt slot,rawInt i,.ref d,rawInt n,rawInt ep]
section
variable{prog:Program}{w:World}{A:Around}{E:Value->Shared->Prop}{s:Shared}{it d:Addr}{slot i n ep:Nat}{es:Array (Int×Value)}{t:SetTable}
theorem iH.typeIs(h:iH s.heap it d slot i n ep):s.TypeIs (.ref it) "set_iterator" := let ⟨o,h1,h2,_⟩:=h;⟨o,h1,h2⟩
theorem iH.at{h h':Heap}(x:iH h it d slot i n ep)(e:∀o,h.get? it=some o->h'.get? it=some o):iH h' it d slot i n ep:=let ⟨o,ho,r⟩:=x;⟨o,e _ ho,r⟩
theorem M4{Q:Value->Shared->Prop}(hit:iH s.heap it d slot i n ep)(h:Q (.ref it) s):wpAny (model prog w) A (pyIter (.ref it)) Q E s:=by
 refine wpAny_pyIter_slot hit.typeIs DJ (wpAny_call_entry DJ hit.typeIs MZ ?_ (M0 _))
 show wpAny _ _ (ret (.ref it)) _ _ s;exact wpAny_pure ⟨_,rfl, "set_iterator",_,hit.typeIs,l9.lookup,h⟩
theorem M5{Q:Value->Shared->Prop}(ho:s.heap.get? d=some (bz es ep t))(hf:t.fits es.size=true)(hp:t.plain=true)
  (q:Q (.ref s.heap.objs.size) { s with heap:=s.heap.push { cls:=.type "set_iterator",data:=.fields #[rawInt 0,rawInt 0,.ref d,rawInt es.size,rawInt ep] }}):wpAny (model prog w) A (pyIter (.ref d)) Q E s:=by
 have hT:s.TypeIs (.ref d) "set" := ⟨_,ho,rfl⟩;refine wpAny_pyIter_slot hT PySem.F.slot_set_iter (wpAny_call_entry PySem.F.slot_set_iter hT M1 ?_ (PySem.F.args_set_iter_1 _));unfold Builtin.«frozenset.__iter__» Builtin.Frozenset.slot0 slotArgs;simp only[List.isEmpty_nil,Bool.not_true,Bool.false_eq_true,↓reduceIte,bind_assoc,List.length_nil,bne_self_eq_false];unfold Builtin.Frozenset.addrOf Builtin.Frozenset.sizeOf;refine wpAny_bind (wpAny_pure ?_)
 try dsimp only
 refine wpAny_bind (wpAny_pure ?_);refine wpAny_bind (wpAny_bind (wpAny_setEntries_of ho rfl hf (wpAny_pure ?_)));refine wpAny_bind ?_;unfold setDrawn;refine wpAny_bind (wpAny_setState_of ho rfl hf ?_);dsimp only;unfold setsByText;refine wpAny_bind (wpAny_bind (wpAny_askSetting (wpAny_pure (wpAny_pure ?_))));refine wpAny_ite_split (λiG=>absurd iG ?_) (λ_=>?_)
 ·show ¬ ((!bw w && (!t.plain && decide (es.size > 1)))=true);rw[hp];simp
 refine wpAny_bind (wpAny_pure (wpAny_bind (wpAny_setEpoch_of ho rfl hf ?_)));unfold newFields;refine wpAny_bind (wpAny_newObj_type (wpAny_pure ⟨_,rfl, "set_iterator",_,⟨_,Heap.get?_push_size _ rfl,rfl⟩,l9.lookup,?_⟩));exact q
noncomputable def fB(w:World)(d:Addr)(ep:Nat)(es:Array (Int×Value)):Array (Int×Value):=if bw w then pickOrder (w.params.setOrder d ep) es else es
noncomputable def slotAt(w:World)(t:SetTable)(i:Nat):Nat:=if bw w then 0 else if i=0 then 0 else t.place.getD (i - 1) 0+1
theorem M6(hf:t.fits es.size=true):t.place.size=es.size:=by
 simp only[SetTable.fits,Bool.and_eq_true,beq_iff_eq] at hf;exact hf.1
theorem M7{Q:Option (Value×Nat)->Shared->Prop}(ho:s.heap.get? d=some (bz es ep t))(hf:t.fits es.size=true)(hp:t.plain=true)(iI:t.led = !bw w)(iJ:bw w=false->SetTable.below t.place (slotAt w t i)=i)
  (hi:i<es.size) {x:Int×Value} (hx:(fB w d ep es)[i]? = some x) (q:Q (some (x.2,slotAt w t (i+1))) s):wpAny (model prog w) A (setNext d (slotAt w t i) i ep) Q E s:=by
 unfold setNext;refine wpAny_bind (wpAny_setState_of ho rfl hf ?_);dsimp only;unfold setsByText;refine wpAny_bind (wpAny_bind (wpAny_askSetting (wpAny_pure ?_)))
 show wpAny _ _ (if bw w=true then _ else _) _ _ _
 cases hb:bw w with
 | true =>
  rw[if_pos rfl,if_neg (by simp)]
  refine wpAny_bind ?_;unfold setWalk;refine wpAny_bind (wpAny_setState_of ho rfl hf ?_);dsimp only;unfold setsByText;refine wpAny_bind (wpAny_bind (wpAny_askSetting (wpAny_pure ?_)))
  show wpAny _ _ (if bw w=true then _ else _) _ _ _
  rw[hb,if_pos rfl];refine wpAny_bind (wpAny_askSetting (wpAny_pure (wpAny_pure ?_)));have ou:(pickOrder (w.params.setOrder d ep) es)[i]? = some x:=by unfold fB at hx;rw[hb,if_pos rfl] at hx;exact hx
  have e1:slotAt w t (i+1)=slotAt w t i:=by unfold slotAt;rw[hb];rfl
  show Q (((pickOrder (w.params.setOrder d ep) es)[i]?).map λe=>(e.2,slotAt w t i)) s;rw[ou,← e1];exact q
 | false =>
  rw[if_neg (by simp)]
  refine wpAny_ite_split (λiG=>absurd iG ?_) (λ_=>?_)
  ·show ¬ ((!t.plain && decide (es.size > 1))=true);rw[hp];simp
  refine wpAny_bind ?_
  show wpAny _ _ (if (!t.led && !es.isEmpty)=true then unsupported _ else pure ()) _ _ _
  rw[if_neg (by rw[iI,hb];simp)]
  refine wpAny_pure (wpAny_pure ?_);have ou:es[i]? = some x:=by unfold fB at hx;rw[hb,if_neg (by simp)] at hx;exact hx
  have d9:i<t.place.size:=by rw[M6 hf];exact hi
  have e1:slotAt w t (i+1)=t.place[i] + 1:=by
   unfold slotAt;rw[hb,if_neg (by simp),if_neg (by lia),Nat.add_sub_cancel]
   simp[d9]
  rw[iJ hb,ou,Array.getElem?_eq_getElem d9];rw[e1] at q;exact q
theorem M8{Q:Option (Value×Nat)->Shared->Prop}(ho:s.heap.get? d=some (bz es ep t))(hf:t.fits es.size=true)(hp:t.plain=true)(iI:t.led = !bw w)(iJ:bw w=false->SetTable.below t.place (slotAt w t es.size)=es.size)
  (hn:(fB w d ep es).size=es.size) (q:Q none s):wpAny (model prog w) A (setNext d (slotAt w t es.size) es.size ep) Q E s:=by
 unfold setNext;refine wpAny_bind (wpAny_setState_of ho rfl hf ?_);dsimp only;unfold setsByText;refine wpAny_bind (wpAny_bind (wpAny_askSetting (wpAny_pure ?_)))
 show wpAny _ _ (if bw w=true then _ else _) _ _ _
 cases hb:bw w with
 | true =>
  rw[if_pos rfl,if_neg (by simp)]
  refine wpAny_bind ?_;unfold setWalk;refine wpAny_bind (wpAny_setState_of ho rfl hf ?_);dsimp only;unfold setsByText;refine wpAny_bind (wpAny_bind (wpAny_askSetting (wpAny_pure ?_)))
  show wpAny _ _ (if bw w=true then _ else _) _ _ _
  rw[hb,if_pos rfl];refine wpAny_bind (wpAny_askSetting (wpAny_pure (wpAny_pure ?_)));have ou:(pickOrder (w.params.setOrder d ep) es)[es.size]? = none:=by
   unfold fB at hn;rw[hb,if_pos rfl] at hn;rw[Array.getElem?_eq_none];lia
  show Q (((pickOrder (w.params.setOrder d ep) es)[es.size]?).map λe=>(e.2,slotAt w t es.size)) s;rw[ou];exact q
 | false =>
  rw[if_neg (by simp)]
  refine wpAny_ite_split (λiG=>absurd iG ?_) (λ_=>?_)
  ·show ¬ ((!t.plain && decide (es.size > 1))=true);rw[hp];simp
  refine wpAny_bind ?_
  show wpAny _ _ (if (!t.led && !es.isEmpty)=true then unsupported _ else pure ()) _ _ _
  rw[if_neg (by rw[iI,hb];simp)]
  refine wpAny_pure (wpAny_pure ?_);rw[iJ hb,Array.getElem?_eq_none (Nat.le_refl _)];exact q
theorem M9{Q:Option Value->Shared->Prop}(hit:iH s.heap it d (slotAt w t i) i es.size ep)(ho:s.heap.get? d=some (bz es ep t))(hf:t.fits es.size=true)(hp:t.plain=true)(iI:t.led = !bw w)(iJ:bw w=false->SetTable.below t.place (slotAt w t i)=i)
  (hi:i<es.size) {x:Int×Value} (hx:(fB w d ep es)[i]? = some x)
  (q:∀h',iH h' it d (slotAt w t (i+1)) (i+1) es.size ep->Heap.SameBut it s.heap h'->Q (some x.2) { s with heap:=h' }):wpAny (model prog w) A (pyNext (.ref it)) Q E s:=by
 obtain⟨o,l_,hc,hd⟩:=id hit;unfold pyNext;refine wpAny_bind (wpAny_attempt (wpAny_callSpecial?_slot (name:=Str.ofString "__next__") hit.typeIs l9
  (wpAny_call_entry l9 hit.typeIs DG ?_ (DI _))))
 unfold Builtin.«set_iterator.__next__» slotArgs;simp only[List.isEmpty_nil,Bool.not_true,Bool.false_eq_true,↓reduceIte,bind_assoc,List.length_nil,bne_self_eq_false];refine wpAny_bind (wpAny_pure ?_);refine wpAny_bind (wpAny_fieldsOf l_ hd ?_);dsimp only[rawInt];refine wpAny_bind (wpAny_setEntries_of ho rfl hf ?_);rw[if_neg (by simp)]
 simp only[Int.toNat_natCast];refine wpAny_bind (M7 ho hf hp iI iJ hi hx ?_);dsimp only;refine wpAny_bind (wpAny_setField l_ hd (by simp) ?_)
 have fK:=Heap.get?_update_self (Obj.mapFields (·.setIfInBounds 0 (rawInt (slotAt w t (i+1):Int)))) l_ (Obj.isFreed_of_fields (Obj.data_mapFields hd _));have xP:=Obj.data_mapFields hd (·.setIfInBounds 0 (rawInt (slotAt w t (i+1):Int)));refine wpAny_bind (wpAny_setField fK xP (by simp) ?_)
 have fj:=Heap.get?_update_self (Obj.mapFields (·.setIfInBounds 1 (rawInt ((i:Int)+1)))) fK (Obj.isFreed_of_fields (Obj.data_mapFields xP _));have hd2:=Obj.data_mapFields xP (·.setIfInBounds 1 (rawInt ((i:Int)+1)));refine wpAny_pure ⟨_,rfl,wpAny_pure (q _ ⟨_,fj,?_,?_⟩ ?_)⟩
 ·exact((Obj.cls_mapFields ..).trans (Obj.cls_mapFields ..)).trans hc
 ·rw[hd2];simp[rawInt]
 ·exact(Heap.SameBut.update ..).trans (Heap.SameBut.update ..)
theorem M_{Q:Option Value->Shared->Prop}(hh:A.handled=none)(hit:iH s.heap it d (slotAt w t es.size) es.size es.size ep)(ho:s.heap.get? d=some (bz es ep t))(hf:t.fits es.size=true)(hp:t.plain=true)(iI:t.led = !bw w)(iJ:bw w=false->SetTable.below t.place (slotAt w t es.size)=es.size)
  (hn:(fB w d ep es).size=es.size) (q:∀h',Heap.ExtBut it s.heap h'->Q none { s with heap:=h' }):wpAny (model prog w) A (pyNext (.ref it)) Q E s:=by
 obtain⟨o,l_,hc,hd⟩:=id hit;unfold pyNext;refine wpAny_bind (wpAny_attempt (wpAny_callSpecial?_slot (name:=Str.ofString "__next__") hit.typeIs l9
  (wpAny_call_entry l9 hit.typeIs DG ?_ (DI _))))
 unfold Builtin.«set_iterator.__next__» slotArgs;simp only[List.isEmpty_nil,Bool.not_true,Bool.false_eq_true,↓reduceIte,bind_assoc,List.length_nil,bne_self_eq_false];refine wpAny_bind (wpAny_pure ?_);refine wpAny_bind (wpAny_fieldsOf l_ hd ?_);dsimp only[rawInt];refine wpAny_bind (wpAny_setEntries_of ho rfl hf ?_);rw[if_neg (by simp)]
 simp only[Int.toNat_natCast];refine wpAny_bind (M8 ho hf hp iI iJ hn ?_);dsimp only;refine wpAny_bind (wpAny_setField l_ hd (by simp) ?_)
 refine wpAny_bind ?_;simp only[newExc,newTuple];refine wpAny_bind (wpAny_newObj_type ?_ (by size_fits))
 refine wpAny_bind (m:=firstArgMember _ _) (wpAny_of_eq (a:=Value.none) (by first | rfl | (simp only[firstArgMember];rfl)) ?_)
 refine wpAny_newObj_type ?_ (by size_fits)
 simp only[raiseNew];refine wpAny_bind (wpAny_handled ?_);rw[show A.in1.handled=none from hh];refine wpAny_bind (wpAny_pure (wpAny_throw ?_));refine wpAny_bind (wpAny_isInstance (T := "StopIteration") (b:=true) ⟨_,Heap.get?_push_size _ rfl,rfl⟩ isSubtype_stop ?_);exact wpAny_pure (q _ (((Heap.SameBut.update ..).extBut.push _).push _))
structure oz(w:World)(d:Addr)(es:Array (Int×Value))(ep:Nat)(t:SetTable):Prop where
 hf:t.fits es.size=true
 hp:t.plain=true
 iI:t.led = !bw w
 iJ:bw w=false->∀i,i<=es.size->SetTable.below t.place (slotAt w t i)=i
 hn:(fB w d ep es).size=es.size
theorem Na(hh:A.handled=none)(I:Addr)(eu:d≠I)(ok:oz w d es ep t):Walks prog w A I [I,d] [I] es.size (λi v=>∃e,(fB w d ep es)[i]? = some e/\v=e.2) (λi h=>iH h I d (slotAt w t i) i es.size ep/\h.get? d=some (bz es ep t)) where
 sub:=λb hb=>by simp at hb;simp[hb]
 frame:=λ_ _ _ st hk=>⟨st.1.at λo e=>hk I (by simp) o e,hk d (by simp) _ st.2⟩
 item:=λi s Q E hi st hQ=>by
  have oA:i<(fB w d ep es).size:=by rw[ok.hn];exact hi
  exact M9 st.1 st.2 ok.hf ok.hp ok.iI (λhb=>ok.iJ hb i (Nat.le_of_lt hi)) hi (Array.getElem?_eq_getElem oA) λh' Nb jQ=>hQ _ h' s.toks ⟨_,Array.getElem?_eq_getElem oA,rfl⟩ ⟨Nb,jQ.extBut d _ eu st.2⟩ λb o hb e=>jQ.extBut b o (λh=>hb (by simp[h])) e
 done:=λs Q E st hQ=>M_ hh st.1 st.2 ok.hf ok.hp ok.iI (λhb=>ok.iJ hb _ (Nat.le_refl _)) ok.hn λh' Nc=>hQ h' s.toks λb o hb e=>Nc b o (λh=>hb (by simp[h])) e
 self:=λ_ _ _ _ st hQ=>M4 st.1 hQ
theorem Nd{Q:Bool->Shared->Prop}(hT:s.TypeIs (.ref d) "set")(h:Q false s):wpAny (model prog w) A (Builtin.List.listLengthHint (.ref d)) Q E s:=by
 unfold Builtin.List.listLengthHint;refine wpAny_bind (wpAny_specialOf hT M3 ?_);generalize DK:("set.__len__" : String)=Nf
 wp_delta
 rw[show splitId Nf=some ("set", "__len__") from by subst DK;decide +kernel]
 subst DK;refine wpAny_bind (wpAny_isInstance (T := "set") (b:=true) hT (by rw[isSubtype_type];kernel_rfl) ?_)
 refine wpAny_ite_split (λiG=>absurd iG (by decide)) (λ_=>?_)
 refine wpAny_ite_split (λ_=>?_) (λiG=>absurd (by decide +kernel) iG)
 refine wpAny_bind (wpAny_typeOf hT ?_);exact wpAny_pure h
theorem Ng(ok:oz w d es ep t):PySem.W.KdlSrc prog w "set" d d es.size (λi v=>∃e,(fB w d ep es)[i]? = some e/\v=e.2) (λh=>h.get? d=some (bz es ep t)) where
 type:=λ_ hm=>⟨_,hm,rfl⟩
 there:=λ_ hm=>⟨Heap.lt_size hm,Heap.lt_size hm⟩
 keep:=λ_ _ hm hk=>hk d (.inl rfl) _ hm
 notList:=by decide
 notTuple:=by decide
 hint:=λ_ _ _ _ hm hq=>Nd ⟨_,hm,rfl⟩ hq
 iter:=λ_ s hh hm=>⟨_,_,(λ_ _ hq=>M5 hm ok.hf ok.hp hq),Na hh _ (Nat.ne_of_lt (Heap.lt_size hm)) ok,⟨⟨_,Heap.get?_push_size _ rfl,rfl,by unfold slotAt;cases bw w <;> rfl⟩,Heap.get?_push_of_some _ hm⟩⟩
end
noncomputable def Tab(ps:List Nat)(led:Bool):SetTable:={ mask:=7,place:=ps.toArray,dummies := #[],finger:=0,led,moves:=0,plain:=true }
noncomputable def Nh:List Nat->Bool
 | []=>true
 | [a]=>decide (a<8)
 | [a,b]=>decide (a<b) && decide (b<8)
 | [a,b,c]=>decide (a<b) && decide (b<c) && decide (c<8)
 | _=>false
noncomputable def jV(ps:List Nat)(n:Nat)(led:Bool):Bool:=match (Tab ps led).freeSlot (Int.ofNat n) with
 | some (i,false)=>Nat.blt i 8 && ps.all λa => !(Nat.beq a i)
 | _=>false
noncomputable def xQ(ps:List Nat)(i:Nat):Bool:=Nh (SetTable.insertAt ps.toArray (SetTable.below ps.toArray i) i).toList && Nat.ble (SetTable.below ps.toArray i) ps.length
theorem c0:((List.range 192).all λn=>jV [] n true && jV [] n false)=true:=by decide +kernel
theorem c1:((List.range 8).all λa=>(List.range 192).all λn=>jV [a] n true && jV [a] n false)=true:=by decide +kernel
theorem c2:((List.range 8).all λa=>(List.range 8).all λb => !(Nat.blt a b) || (List.range 192).all λn=>jV [a,b] n true && jV [a,b] n false)=true:=by decide +kernel
theorem d0:((List.range 8).all λi=>xQ [] i)=true:=by decide +kernel
theorem d1:((List.range 8).all λa=>(List.range 8).all λi=>Nat.beq a i || xQ [a] i)=true:=by decide +kernel
theorem d2:((List.range 8).all λa=>(List.range 8).all λb=>(List.range 8).all λi => !(Nat.blt a b) || Nat.beq a i || Nat.beq b i || xQ [a,b] i)=true:=by decide +kernel
noncomputable def q8(ps:List Nat):Bool:=(List.range (ps.length+1)).all λi=>SetTable.below ps.toArray (if i=0 then 0 else ps.toArray.getD (i - 1) 0+1) == i
theorem e3:((List.range 8).all λa=>(List.range 8).all λb=>(List.range 8).all λc=>q8 [] && q8 [a] && (!(Nat.blt a b) || q8 [a,b]) && (!(Nat.blt a b) || !(Nat.blt b c) || q8 [a,b,c]))=true:=by decide +kernel
section
variable{prog:Program}{w:World}{A:Around}{R:Result->Shared->Prop}{l I S:Addr}{led:Bool}{xs:List (Nat×Tok)}
end
theorem DL{α:Type}(next:Nat->Nat):∀(fuel k:Nat) (left:List α) (out:Array α),left.length=fuel->(pickOrder.go next fuel k left out).toList.Perm (out.toList++left)
 | 0,k,left,out,h=>by
  rw[List.length_eq_zero_iff.mp h,List.append_nil];exact .refl _
 | fuel+1,k,left,out,h=>by
  have hj:next k % left.length<left.length:=Nat.mod_lt _ (by lia)
  unfold pickOrder.go;rw[List.getElem?_eq_getElem hj];dsimp only;refine(DL next fuel (k+1) (left.eraseIdx (next k % left.length)) _ (by rw[List.length_eraseIdx,if_pos hj];lia)).trans ?_
  rw[Array.toList_push,List.append_assoc];refine List.Perm.append_left _ ?_;generalize next k % left.length=j at hj;rw[List.singleton_append,List.eraseIdx_eq_take_drop_succ];refine(List.perm_middle (a:=left[j]) (l₁:=left.take j) (l₂:=left.drop (j+1))).symm.trans ?_;rw[← List.drop_eq_getElem_cons hj,List.take_append_drop]
section
variable{prog:Program}{w:World}{A:Around}{E:Value->Shared->Prop}{s:Shared}{d:Addr}{ep m n:Nat}{es:Array (Int×Value)}{tm tn:Tok}
theorem DM:(fB w d ep es).toList.Perm es.toList:=by
 unfold fB;split
 ·exact DL _ _ _ _ _ (by simp)
 ·exact .refl _
theorem Ni:∀ {vs ws:List Value},vs.Perm ws->∀ {ns:List Int},IntsAre ws ns->∃cZ,IntsAre vs cZ/\cZ.Perm ns:=by
 intro vs ws h
 induction h with
 | nil=>intro ns hi;exact⟨ns,hi,.refl _⟩
 | cons x _ ih =>
  intro ns hi;cases hi with
  | cons _ _ hi =>
   obtain⟨cZ,a,b⟩:=ih hi;exact⟨_,.cons _ _ a,b.cons _⟩
 | swap x y l =>
  intro ns hi;cases hi with
  | cons _ _ hi =>
   cases hi with
   | cons _ _ hi=>exact⟨_,.cons _ _ (.cons _ _ hi),.swap ..⟩
 | trans _ _ Nj Nk =>
  intro ns hi;obtain⟨n2,a,b⟩:=Nk hi;obtain⟨n1,c,e⟩:=Nj a;exact⟨n1,c,e.trans b⟩
end
section
variable{prog:Program}{w:World}{A:Around}{E:Value->Shared->Prop}{h:Heap}{g:Array GenState}{d:Drawn}{t:Nat}{os:OsState}
variable{nm q:Str}{C N:Addr}{bs bm fV:List Value}{hdct:Bool}{sn:List Str}{sub:List Value}{ab:Bool}{col:Option Bool}{dd:Option Addr}{k0 k1 k2 k3 k5:Option Value}{B newId iF:String}
end
end _L
namespace _L
open PySem PySem.W PySem.Builtin.ObjectAttr
section
variable{prog:Program}{w:World}{A:Around}{E:Value->Shared->Prop}{R:Result->Shared->Prop}{s:Shared}{K:Frag}{x C:Addr}{o:Obj}{name:Str}{v:Value}
end
end _L
namespace _L
open PySem PySem.Spec PyProof.Rows
section
variable{P:Program}{w:World}{H:Hp}{h:Heap}{a C d:Addr}{od:Option Addr}{fs:List (Str×V)}
end
section
variable{X:Cx}{pins:List (Addr×Obj)}{σ:St}{H:Hp}{s:Shared}{a C d:Addr}{od:Option Addr}{fs:List (Str×V)}{f:Str}{A:Around}{E:Value->Shared->Prop}
end
section
variable{X:Cx}{o value:Expr}{f:Str}{pos pos':Pos}{ta tv:TE}
end
section
variable{prog:Program}{w:World}{A:Around}{E:Value->Shared->Prop}{h:Heap}{g:Array GenState}{d:Drawn}{t:Nat}{os:OsState}
variable{nm q:Str}{C N e:Addr}{bs bm fV:List Value}{hdct:Bool}{sn:List Str}{sub:List Value}{ab:Bool}{col:Option Bool}{dd:Option Addr}{k0 k1 k2 k3 k5:Option Value}{B newId iF:String}
end
section
variable{X:Cx}{x:Str}{C0:Addr}{bm:List Value}{newId iF B:String}{p pos apos:Pos}{e:Expr}{es:List Expr}{t:TA}
end
section
variable{prog:Program}{w:World}{A:Around}{E:Value->Shared->Prop}{s:Shared}{env:Env}
variable{nm q:Str}{C N:Addr}{bs bm fV:List Value}{hdct:Bool}{sn:List Str}{sub:List Value}{ab:Bool}{col:Option Bool}{dd:Option Addr}{k0 k1 k2 k3 k5:Option Value}{B newId iF:String}
end
section
variable{P:Program}{w:World}{K:PySem.W.Frag}{mg:Str->Option Value}{base:Heap}{N:List Str}{qual:Str}{scope:Scope}{f:Addr}{cd:Value}{A:Around}{outer:List Env}{aZ:Shared}{dM:Hp}{E:XK}
end
section
variable{X:Cx}{E:XK}{x:Str}{C fI:Addr}{bm:List Value}{newId iF B:String}{np dQ pos:Pos}{kT:Expr}{rest:List Expr}{t:TA}{k:Nat}{fd:FuncData}{ps names:List Str}{bN:List V}{ds:List Value}
end
section
variable{X:Cx}{e:Expr}{f:Str}{pos:Pos}{ta:TE}
end
section
variable{X:Cx}{e:Expr}{tl:TE}{p1 p2 p3 p4:Pos}
end
section
variable{X:Cx}{tg:Expr}
end
section
variable{K:PySem.W.Frag}{g:TG}{σ:St}{H:Hp}{ta:TA}{tt:TT}{te:TE}{nt:Nat}{fv:List Nat}{Q:VK}
end
section
variable{prog:Program}{w:World}{A:Around}{E:Value->Shared->Prop}{s:Shared}
end
section
variable{prog:Program}{w:World}{A:Around}{E:Value->Shared->Prop}{s:Shared}{d:Addr}{ep:Nat}{es:Array (Int×Value)}
end
section
variable{X:Cx}{e:Expr}{tl:TE}{p1 p2 p3 p4:Pos}
end
end _L
namespace _L
open PySem PyProof.Rows
section
variable{prog:Program}{w:World}{A:Around}{E:Value->Shared->Prop}{s:Shared}
end
section
variable{R:Keyed->Keyed->Prop}{A B O:List Keyed}{i j:Nat}
end
section
variable{R:Keyed->Keyed->Prop}{A B:List Keyed}{a b out:Array Keyed}{i j k:Nat}{x:Keyed}
end
section
variable{prog:Program}{w:World}{A:Around}{E:Value->Shared->Prop}{s:Shared}
end
section
variable{a b out:Array Keyed}{na nb t:Nat}{x:Keyed}
end
section
variable{prog:Program}{w:World}{A:Around}{E:Value->Shared->Prop}{s:Shared}
end
section
variable{prog:Program}{w:World}{A:Around}{E:Value->Shared->Prop}{s:Shared}
end
section
variable{xR r:Array Keyed}{pd:Array (Nat×Nat×Nat)}{lo n:Nat}{st:SortSt}{xs:Array Keyed}
end
section
variable{prog:Program}{w:World}{A:Around}{E:Value->Shared->Prop}{s:Shared}{xR r:Array Keyed}{pd:Array (Nat×Nat×Nat)}{lo:Nat}
end
section
variable{prog:Program}{w:World}{A:Around}{E:Value->Shared->Prop}{s:Shared}{xR r:Array Keyed}{pd:Array (Nat×Nat×Nat)}{lo:Nat}
end
section
variable{prog:Program}{w:World}{A:Around}{E:Value->Shared->Prop}{s:Shared}{xR:Array Keyed}
end
end _L
namespace _L
open PySem PySem.Spec PyProof.Rows
section
variable{prog:Program}{w:World}{A:Around}{E:Value->Shared->Prop}{s:Shared}
end
section
variable{X:Cx}
end
noncomputable def eI(prog:Program)(w:World)(x:Int×Tok):Int×Value:=((intKind prog w).hash x.1,.int x.1 x.2)
noncomputable def dH(prog:Program)(w:World)(led:Bool)(ms:List Int)(es:Array (Int×Value))(t:SetTable):Prop :=
 l8 led t es.size/\∃xs:List (Int×Tok),es.toList.Perm (xs.map (eI prog w))/\(xs.map (·.1)).Nodup/\(∀n,n∈xs.map (·.1)↔n∈ms)/\xs.length<=ms.length
section
variable{prog:Program}{w:World}{A:Around}{E:Value->Shared->Prop}{s:Shared}{a:Addr}{es bW dG:Array (Int×Value)}{ep:Nat}{t t1 t2:SetTable}{n:Int}{tk:Tok}{led:Bool}{ms:List Int}
theorem DN{Q:Bool->Shared->Prop}(ho:s.heap.get? a=some (bz es ep t))(hf:t.fits es.size=true)(jf:ElemsOf (intKind prog w) es.toList)(hb:es.size<100)(Nl:∀e∈es.toList,(intKind prog w).is n e.2=false)
  (hl:layNew t es ((intKind prog w).hash n) (.int n tk)=(bW,t1,false,false)) (hp:t1.plain=true) (Wc:bW.size<100) (hr:t1.tooFull=true->relayAll t1 bW (SetTable.grown bW.size)=(dG,t2,false)/\dG.size<100)
  (h:∀h',Heap.SameBut a s.heap h'->(t1.tooFull=false->h'.get? a=some (bz bW (ep+1) t1))->(t1.tooFull=true->h'.get? a=some (bz dG (ep+2) t2))->Q true { s with heap:=h' }):wpAny (model prog w) A (setAddHashed a (.int n tk) ((intKind prog w).hash n)) Q E s:=by
 have nq:(intKind prog w).is n (.int n tk)=true:=intKind_is _ _ _ _;have q9:(Value.int n tk).scannable=true:=rfl;unfold setAddHashed setAddHashedIn;refine wpAny_holding (wpAny_bind (wpAny_setState_of ho rfl hf ?_));dsimp only;rw[byScan_of q9 (by unfold scanBound;lia) jf]
 simp only[↓reduceIte];unfold setAddByScan;refine wpAny_bind ?_;refine wpAny_bind (wpAny_rule ?_);refine wpAny_bind (wpAny_setScan_of nq ho rfl hf jf ?_);rw[List.findIdx?_eq_none_iff.mpr Nl];dsimp only;rw[hl];dsimp only;refine wpAny_bind (wpAny_pure ?_);rw[if_pos hp,hashByValue_scannable 8 q9];refine wpAny_bind (wpAny_pure ?_);simp only[plainKind,if_true];refine wpAny_bind (wpAny_storeSet_of ho rfl ?_ (fits_of_scanBound (by unfold scanBound;lia)))
 have hg:(s.heap.update a (Obj.putSet bW t1)).get? a=some (bz bW (ep+1) t1):=by
  have:=Heap.get?_update_self (Obj.putSet bW t1) ho (by rw[putSet_of bW t1 (es:=es) (ep:=ep) (t:=t) rfl];rfl)
  rw[putSet_of bW t1 (es:=es) (ep:=ep) (t:=t) rfl] at this;exact this
 cases gY:t1.tooFull with
 | false =>
  simp only[Bool.and_false,Bool.false_eq_true,if_false];exact wpAny_pure (wpAny_pure (h _ (Heap.SameBut.update _ _ _) (λ_=>hg) (λz=>by rw[gY] at z;cases z)))
 | true =>
  obtain⟨xS,We⟩:=hr gY;simp only[Bool.not_false,Bool.and_true,if_true];rw[xS];dsimp only;refine wpAny_bind (wpAny_pure ?_);refine wpAny_bind (wpAny_storeSet_of (s:={ s with heap:=s.heap.update a (Obj.putSet bW t1)}) hg rfl ?_ (fits_of_scanBound (by unfold scanBound;lia)))
  have Nn:((s.heap.update a (Obj.putSet bW t1)).update a (Obj.putSet dG t2)).get? a=some (bz dG (ep+2) t2):=by
   have:=Heap.get?_update_self (Obj.putSet dG t2) hg (by rw[putSet_of dG t2 (es:=bW) (ep:=ep+1) (t:=t1) rfl];rfl)
   rw[putSet_of dG t2 (es:=bW) (ep:=ep+1) (t:=t1) rfl] at this;exact this
  exact wpAny_pure (wpAny_pure (h _ ((Heap.SameBut.update _ _ _).trans (Heap.SameBut.update _ _ _)) (λz=>by rw[gY] at z;cases z) (λ_=>Nn)))
theorem Np{Q:Bool->Shared->Prop}(ho:s.heap.get? a=some (bz es ep t))(hf:t.fits es.size=true)(jf:ElemsOf (intKind prog w) es.toList)(hb:es.size<100)(Nq:∃e∈es.toList,(intKind prog w).is n e.2=true)
  (h:Q false s):wpAny (model prog w) A (setAddHashed a (.int n tk) ((intKind prog w).hash n)) Q E s:=by
 have nq:(intKind prog w).is n (.int n tk)=true:=intKind_is _ _ _ _;have q9:(Value.int n tk).scannable=true:=rfl;unfold setAddHashed setAddHashedIn;refine wpAny_holding (wpAny_bind (wpAny_setState_of ho rfl hf ?_));dsimp only;rw[byScan_of q9 (by unfold scanBound;lia) jf]
 simp only[↓reduceIte];unfold setAddByScan;refine wpAny_bind ?_;refine wpAny_bind (wpAny_rule ?_);refine wpAny_bind (wpAny_setScan_of nq ho rfl hf jf ?_);cases hr:List.findIdx? (λe=>(intKind prog w).is n e.2) es.toList with
 | some j=>exact wpAny_pure (wpAny_pure h)
 | none =>
  obtain⟨e,he,hp⟩:=Nq;have:=List.findIdx?_eq_none_iff.mp hr e he;rw[hp] at this;cases this
theorem dH.el(h:dH prog w led ms es t):ElemsOf (intKind prog w) es.toList:=λe he=>by
 obtain⟨_,xs,p,_⟩:=h;obtain⟨x,hx,rfl⟩:=List.mem_map.mp (p.mem_iff.mp he);exact⟨⟨x.1,intKind_is _ _ _ _,rfl⟩,rfl⟩
theorem dH.size(h:dH prog w led ms es t):es.size<=ms.length:=by
 obtain⟨_,xs,p,_,_,hl⟩:=h;have:=p.length_eq;rw[Array.length_toList,List.length_map] at this;lia
theorem dH.add{Q:Bool->Shared->Prop}(h:dH prog w led ms es t)(ho:s.heap.get? a=some (bz es ep t))(dU:ms.length<60)
  (q:∀b h' cU e7 t',Heap.SameBut a s.heap h'->h'.get? a=some (bz cU e7 t')->dH prog w led (ms++[n]) cU t'->Q b { s with heap:=h' }):wpAny (model prog w) A (setAddHashed a (.int n tk) ((intKind prog w).hash n)) Q E s:=by
 have lR:=h.size;have jf:=h.el;obtain⟨hT,xs,p,nd,mem,hl⟩:=id h;have hf:=hT.fits;by_cases hm:n∈ms
 ·have hx:=(mem n).mpr hm;refine Np ho hf jf (by lia) ?_ (q false s.heap es ep t (Heap.SameBut.refl _ _) ho ⟨hT,xs,p,nd,λk=>?_,by rw[List.length_append];lia⟩)
  ·obtain⟨x,bx,rfl⟩:=List.mem_map.mp hx;exact⟨eI prog w x,p.mem_iff.mpr (List.mem_map_of_mem bx),intKind_is _ _ _ _⟩
  ·rw[List.mem_append,List.mem_singleton,mem k];constructor
   ·exact .inl
   ·rintro(z | rfl)
    ·exact z
    ·exact hm
 ·have hx:n∉xs.map (·.1):=λz=>hm ((mem n).mp z);obtain⟨bW,t1,w6,p1,U1⟩:=MW hT rfl (by lia) ((intKind prog w).hash n) (.int n tk)
  have xN:bW.size=es.size+1:=by
   have:=p1.length_eq;simpa using this
  rw[← xN] at U1;have P1:bW.toList.Perm ((xs++[(n,tk)]).map (eI prog w)):=by
   rw[List.map_append];exact p1.trans (p.append_right _)
  have fin:∀cU t',l8 led t' cU.size->cU.toList.Perm bW.toList->dH prog w led (ms++[n]) cU t':=λcU t' Nr p'=>by
   refine⟨Nr,xs++[(n,tk)],p'.trans P1,?_,λk=>?_,by simp;lia⟩
   ·rw[List.map_append,List.nodup_append];refine⟨nd,by simp,λu hu v hv=>?_⟩
    rintro rfl;rw[List.map_singleton,List.mem_singleton] at hv;subst hv;exact hx hu
   ·rw[List.map_append,List.mem_append,List.mem_append,mem k];simp
  cases gY:t1.tooFull with
  | false =>
   have room:bW.size*5<t1.mask*3:=by
    unfold SetTable.tooFull SetTable.fill at gY;rw[U1.n_,U1.sz] at gY;simpa using gY
   refine DN (dG:=bW) (t2:=t1) ho hf jf (by lia) (λe he=>?_) w6 U1.pl (by lia) (λz=>by rw[gY] at z;cases z) λh' sb g1 g2=>q true h' bW (ep+1) t1 sb (g1 gY) (fin bW t1 ⟨U1,room⟩ (.refl _))
   obtain⟨x,bx,rfl⟩:=List.mem_map.mp (p.mem_iff.mp he)
   show (intKind prog w).is n (.int x.1 x.2)=false;rw[Di,decide_eq_false_iff_not];rintro rfl;exact hx (List.mem_map_of_mem bx)
  | true =>
   obtain⟨dG,t2,hr,p2,T2⟩:=MY U1 rfl gY;have Nt:dG.size=bW.size:=by
    have:=p2.length_eq;simpa using this
   rw[← Nt] at T2;refine DN (dG:=dG) (t2:=t2) ho hf jf (by lia) (λe he=>?_) w6 U1.pl (by lia) (λ_=>⟨hr,by lia⟩) λh' sb g1 g2=>q true h' dG (ep+2) t2 sb (g2 gY) (fin dG t2 T2 p2)
   obtain⟨x,bx,rfl⟩:=List.mem_map.mp (p.mem_iff.mp he)
   show (intKind prog w).is n (.int x.1 x.2)=false;rw[Di,decide_eq_false_iff_not];rintro rfl;exact hx (List.mem_map_of_mem bx)
theorem dH.ok{d:Addr}(h:dH prog w (!bw w) ms es t):oz w d es ep t:=by
 obtain⟨hT,_⟩:=h;refine⟨hT.fits,hT.pl,hT.ld,λhb i hi=>?_,?_⟩
 ·unfold slotAt;rw[hb];simp only[Bool.false_eq_true,if_false];have hs:=hT.sz;split
  ·rename_i h0;rw[h0];exact MJ hT.rise
  ·rename_i h0;have:=MI hT.rise (i:=i - 1) (by lia)
   rw[this];lia
 ·have:=(DM (w:=w) (d:=d) (ep:=ep) (es:=es)).length_eq;simpa using this
end
section
variable{prog:Program}{w:World}{A:Around}{R:Result->Shared->Prop}{l I S:Addr}{led:Bool}{xs:List (Int×Tok)}
noncomputable def iV(x:Int×Tok):Value:=.int x.1 x.2
theorem Nu(hh:A.handled=none)(dU:xs.length<=60)(xT:l≠I)(kX:S≠I)(xU:S≠l):∀(k i:Nat) (s:Shared) (es:Array (Int×Value)) (t:SetTable) (ep:Nat),i+k=xs.length->
  s.heap.IsListIter I l i->s.heap.IsList l (xs.map iV).toArray->s.heap.get? S=some (bz es ep t)->dH prog w led ((xs.take i).map (·.1)) es t->
  (∀h' tk es t ep,(∀b o,b≠S->b≠I->s.heap.get? b=some o->h'.get? b=some o)->h'.get? S=some (bz es ep t)->dH prog w led (xs.map (·.1)) es t->R (.ok (.ret .none)) { s with heap:=h',toks:=tk })->
  codeAny (model prog w) A (.builtin "set.update.loop" ⟨[.ref S,.ref I],[]⟩) R s:=by
 have W:=Walks.list (prog:=prog) (w:=w) (A:=A.in1) hh I l xT (xs.map iV).toArray;intro k
 induction k with
 | zero =>
  intro i s es t ep hi hit hl hS st hR;refine codeAny_builtin F.entry_set_update_loop ?_;rw[Around.under_plainId F.plain_set_update_loop _]
  show wpAny _ A.in1 (pyNext (.ref I) >>= _) _ _ _;have eo:i=xs.length:=hi;subst eo;have hz:((xs.map iV).toArray).size=xs.length:=by simp
  refine wpAny_bind (W.done _ _ _ ⟨by rw[hz];exact hit,hl⟩ λh5 t5 k5=>?_)
  show wpAny _ A.in1 (ret Value.none) _ _ _;rw[List.take_length] at st;exact wpAny_pure (hR h5 t5 es t ep (λb o hb hI e=>k5 b o (by simpa using hI) e) (k5 S _ (by simpa using kX) hS) st)
 | succ k ih =>
  intro i s es t ep hi hit hl hS st hR;have eo:i<xs.length:=by lia
  refine codeAny_builtin F.entry_set_update_loop ?_;rw[Around.under_plainId F.plain_set_update_loop _]
  show wpAny _ A.in1 (pyNext (.ref I) >>= _) _ _ s;refine wpAny_bind (W.item i s _ _ (by simpa using eo) ⟨hit,hl⟩ λv h1 t1 hP xV k1=>?_)
  have xW:v = .int xs[i].1 xs[i].2:=by
   have:(xs.map iV)[i]? = some v:=by simpa using hP
   rw[List.getElem?_map,List.getElem?_eq_getElem eo] at this;exact(Option.some.inj this).symm
  subst xW;have xX:=k1 S _ (by simpa using kX) hS
  show wpAny _ A.in1 (holding [Value.int xs[i].1 xs[i].2] (setAdd S (.int xs[i].1 xs[i].2)) >>= _) _ _ _;refine wpAny_bind (wpAny_holding ?_);unfold setAdd;refine wpAny_holding ?_;refine wpAny_bind ((intKind prog w).pyHash (k:=xs[i].1) (intKind_is _ _ _ _) ?_);refine st.add (s:={ s with heap:=h1,toks:=t1+1 }) xX (by rw[List.length_map,List.length_take];lia) λb h2 bW Nv xY cG jg dN=>?_
  have cN:h2.IsListIter I l (i+1)/\h2.IsList l (xs.map iV).toArray:=W.frame (i+1) h1 h2 xV λb hb o e=>(cG.2 b (λz=>by
   rw[z] at hb;rcases List.mem_cons.mp hb with q | q
   ·exact kX q
   ·exact xU (List.mem_singleton.mp q))).trans e
  refine wpAny_pure ⟨plainId_quiet F.plain_set_update_loop _,?_⟩;refine ih (i+1) _ bW xY _ (by lia) cN.1 cN.2 jg ?_ λh' tk cU t' e7 kp gZ xZ=>hR h' tk cU t' e7 (λb o hb hI e=>kp b o hb hI ((cG.2 b hb).trans (k1 b o (by simpa using hI) e))) gZ xZ
  rw[take_succ_get (List.getElem?_eq_getElem eo),List.map_append];exact dN
end
section
variable{prog:Program}{w:World}{A:Around}{E:Value->Shared->Prop}{s:Shared}
theorem Nx{l:Addr}{xs:List (Int×Tok)}{Q:Value->Shared->Prop}(hh:A.handled=none)(dU:xs.length<=60)(hl:s.heap.IsList l (xs.map iV).toArray)
  (h:∀(h':Heap) (tk:Nat) (es:Array (Int×Value)) (ep:Nat) (t:SetTable),h'.get? s.heap.objs.size=some (bz es ep t)->dH prog w (!bw w) (xs.map (·.1)) es t->
   (∀b o,b<s.heap.objs.size->s.heap.get? b=some o->h'.get? b=some o)->Q (.ref s.heap.objs.size) { s with heap:=h',toks:=tk }) :
  wpAny (model prog w) A (call (.type "set") [.ref l]) Q E s:=by
 obtain⟨c,tl,Ny⟩:=F.called_set.mro;have Nz:=F.called_set.made;have DF:=F.called_set.sub;refine wpAny_call (codeAny_of_tree ?_)
 show wpAny _ _ (callAny (.type "set") _) _ _ _;refine wpAny_pure ⟨Code.quiet_builtin _ (by decide +kernel),codeAny_builtin F.entry_type_call ?_⟩
 rw[Around.under_plain (weight_type_call_type "set" [.ref l] []) rfl];have h1:=F.called_set.notType;have h2:=F.called_set.canCreate;have NC:=F.typeCall_set_1 (.ref l)
 repeat (any_goals (first | assumption | wp_step))
 refine codeAny_mono (DE (.ref l) (E:=E) (Q₁:=λobj a_=>obj = .ref s.heap.objs.size/\a_ = { s with heap:=s.heap.push (bz #[] 0 (.fresh 0 0 (!bw w)))}) ⟨rfl,rfl⟩) λr a_ hr=>?_;cases r with
 | error e=>exact hr
 | ok fl =>
  cases fl with
  | ret obj =>
   obtain⟨rfl,rfl⟩:=hr;have hS:(s.heap.push (bz #[] 0 (.fresh 0 0 (!bw w)))).get? s.heap.objs.size=some (bz #[] 0 (.fresh 0 0 (!bw w))):=Heap.get?_push_size _ rfl;have hT:Shared.TypeIs { s with heap:=s.heap.push (bz #[] 0 (.fresh 0 0 (!bw w)))} (.ref s.heap.objs.size) "set" := ⟨_,hS,rfl⟩;have ND:=F.called_set.init.lookup;have NF:=F.called_set.init.bind (.ref s.heap.objs.size)
   repeat (any_goals (first | assumption | wp_step))
   refine codeAny_mono (codeAny_call_builtin (R:=wants (λr fG=>r = .none/\∃h' tk,fG = { s with heap:=h',toks:=tk }/\
     (∃es ep t,h'.get? s.heap.objs.size=some (bz es ep t)/\dH prog w (!bw w) (xs.map (·.1)) es t)/\
     (∀b o,b<s.heap.objs.size->s.heap.get? b=some o->h'.get? b=some o)) E) F.called_set.init.plain F.entry_set_init (check_set_init_1 hT ?_)) λx6 fG kY=>?_
   ·obtain⟨ol,oB,oE,nl,kZ⟩:=hl;obtain⟨NG,x8,NH,x9⟩:=ol;simp only at oE kZ;subst oE;subst kZ;have x_:(s.heap.push (bz #[] 0 (.fresh 0 0 (!bw w)))).get? l=some { cls:=.type "list",dict:=x8,data:=.seq (xs.map iV).toArray nl,slots:=x9 }:=Heap.get?_push_of_some _ oB;have NI:=F.sub_list_set;have NJ:=F.sub_list_frozenset;have eu:(Value.type "list" == Value.type "dict")=false:=by decide
    have oF:(s.heap.push (bz #[] 0 (.fresh 0 0 (!bw w)))).IsList l (xs.map iV).toArray:=⟨_,x_,rfl,nl,rfl⟩;unfold Builtin.«set.__init__» noKeywords Builtin.Frozenset.updateFrom;generalize ya:pyIter=PI;wp_walk;subst ya;refine wpAny_pyIter_list oF ?_;refine wpAny_bind (wpAny_runValue ?_);have oG:l<s.heap.objs.size:=Heap.lt_size oB;have jh:A.in1.in1.in1.handled=none:=by simp[hh]
    have hz:(s.heap.push (bz #[] 0 (.fresh 0 0 (!bw w)))).objs.size=s.heap.objs.size+1:=Heap.size_push ..;have yc:l≠(s.heap.push (bz #[] 0 (.fresh 0 0 (!bw w)))).objs.size:=by rw[hz];exact Nat.ne_of_lt (Nat.lt_succ_of_lt oG)
    refine Nu (A:=A.in1.in1) (led := !bw w) (xs:=xs) (l:=l) (I:=(s.heap.push (bz #[] 0 (.fresh 0 0 (!bw w)))).objs.size) (S:=s.heap.objs.size) jh dU yc (by rw[hz];exact Nat.ne_of_lt (Nat.lt_succ_self _)) (Nat.ne_of_gt oG) xs.length 0 _ #[] (.fresh 0 0 (!bw w)) 0 (Nat.zero_add _) ?_ ?_ ?_ ⟨DB _,[],.refl _,.nil,λn=>by simp,by simp⟩ ?_
    ·exact⟨_,Heap.get?_push_size _ rfl,rfl,rfl⟩
    ·exact oF.push _
    ·exact Heap.get?_push_of_some _ hS
    intro h' yd cU oH e7 k' gZ k6
    show wpAny _ _ _ _ _ _;refine wpAny_pure ?_
    show wpAny _ _ (ret Value.none) _ _ _;refine wpAny_pure ⟨rfl,h',yd,rfl,⟨cU,e7,oH,gZ,k6⟩,λb o hb e=>?_⟩;exact k' b o (Nat.ne_of_lt hb) (by rw[hz];exact Nat.ne_of_lt (Nat.lt_succ_of_lt hb)) (Heap.get?_push_of_some _ (Heap.get?_push_of_some _ e))
   ·cases x6 with
    | error e=>exact kY
    | ok yf =>
     cases yf with
     | ret r =>
      obtain⟨rfl,h',tk,rfl,⟨cU,e7,oH,gZ,k6⟩,jd⟩:=kY
      repeat (any_goals (first | assumption | wp_step))
      exact h _ _ _ _ _ gZ k6 jd
     | _=>exact kY.elim
  | _=>exact hr.elim
end
section
variable{prog:Program}{w:World}{A:Around}{E:Value->Shared->Prop}{s:Shared}{d:Addr}{ep:Nat}{es:Array (Int×Value)}
theorem NK{S:Addr}{t:SetTable}{R:Result->Shared->Prop}(hh:A.handled=none)(ok:oz w d es ep t)(hd:s.heap.get? d=some (bz es ep t))(hn:es.size<=60)(eu:S≠d)(hS:s.heap.get? S=some { cls:=.type "list",data:=.seq #[] })
  (hR:∀(h':Heap) (tk:Nat) (acc:Array Value) (c:Nat),(∀b o,b≠S->s.heap.get? b=some o->h'.get? b=some o)->h'.get? S=some { cls:=.type "list",dict:=none,data:=.seq acc c,slots := #[] }->acc.toList=(fB w d ep es).toList.map (·.2)->R (.ok (.ret (.ref S))) { s with heap:=h',toks:=tk }) :
  codeAny (model prog w) A (.builtin "list.__iadd__" ⟨[.ref S,.ref d],[]⟩) R s:=by
 refine codeAny_builtin PySem.F.entry_list_iadd ?_;rw[Around.under_plainId PySem.F.plain_list_iadd _];refine PySem.W.kdl_extend (Ng ok) hh hd S eu eu (.ref S) 0 hS (λh' tk acc c hk hS iE=>hR h' tk acc c hk hS ?_) (by rw[sizeLine_eq];lia)
 refine List.ext_getElem? λi=>?_
 have lR:=iE.1;have nu:=ok.hn;by_cases hi:i<es.size
 ·have oA:i<acc.size:=by rw[lR];exact hi
  obtain⟨e,e1,e2⟩:=iE.2 i acc[i] (Array.getElem?_eq_getElem oA);rw[Array.getElem?_toList,Array.getElem?_eq_getElem oA,List.getElem?_map,Array.getElem?_toList,e1,e2];rfl
 ·rw[List.getElem?_eq_none (by rw[Array.length_toList];lia),List.getElem?_eq_none (by rw[List.length_map,Array.length_toList];lia)]
theorem NL{t:SetTable}{Q:List Value->Shared->Prop}(hh:A.handled=none)(ok:oz w d es ep t)(hd:s.heap.get? d=some (bz es ep t))(hn:es.size<=60)
  (hQ:∀(h':Heap) (tk:Nat) (vs:List Value),(∀b o,s.heap.get? b=some o->h'.get? b=some o)->s.heap.objs.size<h'.objs.size->vs=((fB w d ep es).toList.map (·.2))->Q vs { s with heap:=h',toks:=tk }) :
  wpAny (model prog w) A (collect (.ref d)) Q E s:=by
 unfold collect;refine wpAny_bind (wpAny_runValue (codeAny_builtin PySem.F.entry_proto_collect ?_));rw[Around.under_plainId PySem.F.plain_proto_collect _];show wpAny _ A.in1 (newList [] >>= λl=>again (.builtin "list.__iadd__" ⟨[l,.ref d],[]⟩)) _ _ s;have kZ:d<s.heap.objs.size:=Heap.lt_size hd;refine wpAny_bind (wpAny_newObj_type (wpAny_pure ⟨plainId_quiet PySem.F.plain_list_iadd _,NK hh ok (Heap.get?_push_of_some _ hd) hn (Nat.ne_of_gt kZ) (Heap.get?_push_size _ rfl) λh' tk acc c hk hS iE=>?_⟩))
 show wpAny _ A (load s.heap.objs.size >>= _) _ _ _;exact wpAny_bind (wpAny_load hS (wpAny_pure (hQ h' tk acc.toList (λb o e=>hk b o (Nat.ne_of_lt (Heap.lt_size e)) (Heap.get?_push_of_some _ e)) (Heap.lt_size hS) iE)))
theorem DO:∀xs:List (Int×Tok),IntsAre ((xs.map (eI prog w)).map (·.2)) (xs.map (·.1))
 | []=>.nil
 | x::xs=>.cons _ _ (DO xs)
theorem DP{Q:Value->Shared->Prop}{ms:List Int}{t:SetTable}(hh:A.handled=none)(dU:ms.length<=60)(st:dH prog w (!bw w) ms es t)(hd:s.heap.get? d=some (bz es ep t))
  (h:∀(L:Addr) (h':Heap) (tk:Nat) (out:Array Value) (cZ:List Int) (e:Nat),s.heap.objs.size<=L->h'.get? L=some (seqObj "list" out e)->(∀b o,s.heap.get? b=some o->h'.get? b=some o)->IntsAre out.toList cZ->cZ.Nodup->(∀n,n∈cZ↔n∈ms)->cZ.length<=ms.length->cZ.Pairwise (·<=·)->Q (.ref L) { s with heap:=h',toks:=tk }) :
  wpAny (model prog w) A (call (.builtin "sorted") [.ref d]) Q E s:=by
 refine Calls.call_function_entry kind_sorted plain_sorted entry_sorted (args_sorted1 _) ?_;unfold Builtin.«sorted»;refine wpAny_bind (m:=checkCount "sorted" 1 1 _) (wpAny_pure ?_);have lR:=st.size;refine wpAny_bind (NL hh st.ok hd (by lia) λh1 t1 vs k1 z1 NN=>?_)
 obtain⟨_,xs,p,nd,mem,gU⟩:=st;obtain⟨ns,hi,hp⟩:=Ni (((DM (w:=w) (d:=d) (ep:=ep) (es:=es)).trans p).map (·.2)) (DO xs);rw[← NN] at hi;have hl:vs.length=ns.length:=hi.length;have fT:ns.length<=60:=by rw[hp.length_eq,List.length_map];lia
 refine wpAny_bind (wpAny_newList ?_ (by rw[sizeLine_eq];lia))
 have gJ:(h1.push (seqObj "list" vs.toArray 0)).get? h1.objs.size=some (seqObj "list" vs.toArray 0):=Heap.get?_push_size _ rfl
 show wpAny _ _ _ _ _ { s with heap:=h1.push (seqObj "list" vs.toArray 0),toks:=t1 };refine wpAny_bind (wpAny_holding (wpAny_call_entry slot_list_sort ⟨_,gJ,rfl⟩ entry_list_sort (list_sort_tree gJ hi (by lia) λout cZ a1 a2 a3=>⟨_,rfl,?_⟩) (args_list_sort _)))
 obtain⟨e,he⟩:=sortedHeap_at (out:=out) gJ;have a4:=a2.trans hp;refine wpAny_pure ⟨_,rfl,h h1.objs.size _ _ out cZ e (Nat.le_of_lt z1) he (λb o q=>?_) a1 (a4.nodup_iff.mpr nd) (λn=>(a4.mem_iff).trans (mem n)) (by rw[a4.length_eq,List.length_map];exact gU) a3⟩
 have q1:=k1 b o q;have hb:=Heap.lt_size q1;rw[sortedHeap_old (Nat.ne_of_lt hb) (by rw[size_push'];exact Nat.lt_succ_of_lt hb)]
 exact Heap.get?_push_of_some _ q1
end
section
variable{X:Cx}{e:Expr}{tl:TE}{p1 p2 p3 p4:Pos}
noncomputable def NO(K:PySem.W.Frag)(tl:TE):TE:=λσ H Q=>tl σ H λx H1=>∃(l:Addr) (ms:List Int),x = .ref l/\ao K H1 l (ms.map V.int)/\ms.length<=60/\
 ∀(L:Addr) (ns:List Int),H1 L=none->ns.Nodup->(∀n,n∈ns↔n∈ms)->ns.length<=ms.length->ns.Pairwise (·<=·)->Q (.ref L) (upd H1 L (.lst (ns.map V.int)))
theorem yg:∀ {ms:List Int} {us:List Value},Vals (ms.map V.int) us->∃xs:List (Int×Tok),us=xs.map iV/\xs.map (·.1)=ms
 | [],_,.nil=>⟨[],rfl,rfl⟩
 | m::ms,_,.cons ⟨t,e⟩ r=>by
  obtain⟨xs,e1,e2⟩:=yg r;exact⟨(m,t)::xs,by rw[e,e1];rfl,by rw[List.map_cons,e2]⟩
theorem NP(yh:Gl X "sorted")(yi:X.mg "sorted" = none)(yj:Gl X "set")(yl:X.mg "set" = none)(hc:X.calm=true)(hl:PE X e tl)
  (hs:starEach [e] X.env = [(false,eval e X.env)]:=by rfl) (oJ:starEach [.Call (.Name "set" p2) [e] [] p3] X.env = [(false,eval (.Call (.Name "set" p2) [e] [] p3) X.env)]:=by rfl) :
  PE X (.Call (.Name "sorted" p1) [.Call (.Name "set" p2) [e] [] p3] [] p4) (NO X.K tl):=by
 intro pins s σ H Q I h;refine wpAny_Call_Name_kw (iU I yh yi boot_sorted (PyProof.Rows.callWith_builtin1 ?_ (by rw[oJ];rfl) (by rfl)))
 rw[oJ];refine Calls.spliced_cons ?_
 let R:List V->Hp->Prop:=λvs H1=>match vs with
  | [x]=>∃(l:Addr) (ms:List Int),x = .ref l/\ao X.K H1 l (ms.map V.int)/\ms.length<=60/\
   ∀(L:Addr) (ns:List Int),H1 L=none->ns.Nodup->(∀n,n∈ns↔n∈ms)->ns.length<=ms.length->ns.Pairwise (·<=·)->Q (.ref L) (upd H1 L (.lst (ns.map V.int)))
  | _=>False
 have h':qx tl nA σ H R:=h;refine Call_ (iU I yj yl (show bootBuiltins "set" = some (.type "set") by decide +kernel) (PyProof.Rows.callWith_type1 (aL ((aa hl ak (hs:=hs)) p3 pins s σ H R I h') λus s1 ⟨vs,H1,I1,r1,q1⟩=>?_) (by rw[hs];rfl) (by rfl)))
 cases r1 with
 | nil=>exact q1.elim
 | cons ru r1 =>
 cases r1 with
 | cons _ _=>exact q1.elim
 | nil =>
 obtain⟨l,ms,rfl,hq,dU,q⟩:=q1;cases ru;obtain⟨aB,rv,pl,_⟩:=I1.list hq;obtain⟨xs,rfl,rfl⟩:=yg rv;have hh:=I1.ok.hd hc;have ym:xs.length<=60:=by simpa using dU
 refine Nx hh ym pl.isList λh2 t2 es ep tb jg cN k2=>Calls.spliced_nil ?_;have yp:∀b o,s1.heap.get? b=some o->h2.get? b=some o:=λb o e=>k2 b o (Heap.lt_size e) e;refine DP (s:={ s1 with heap:=h2,toks:=t2 }) hh dU cN jg λL h3 t3 out cZ e' hL gJ k3 a1 a2 a3 a4 a5=>?_;have bC:s1.heap.objs.size<=L:=Nat.le_trans (Nat.le_of_lt (Heap.lt_size jg)) hL;have jc:H1 L=none:=I1.aG.fresh bC;refine⟨.ref L,upd H1 L (.lst (cZ.map V.int)),I1.laid (t':=t3) (λb o q=>k3 b o (yp b o q)) bC ?_,rfl,q L cZ jc a2 a3 a4 a5⟩;refine⟨?_,out.toList,e',qH a1,by simpa using gJ⟩
 rw[List.length_map];rw[sizeLine_eq];lia
end
section
variable{X:Cx}
end
theorem DQ:∀ {ys:List Str} {us:List Value},Vals (ys.map V.str) us->StrsAre us ys
 | [],_,.nil=>.nil
 | y::ys,_,.cons ⟨t,e⟩ r=>by rw[e];exact .cons y t (DQ r)
section
variable{X:Cx}
noncomputable def rJoin(K:PySem.W.Frag):V->List V->Hp->VK->Prop:=λx vs H Q=>∃(sep:Str) (l:Addr) (ys:List Str),x = .str sep/\vs = [.ref l]/\ao K H l (ys.map V.str)/\(ys.map (·.length)).sum+ys.length*sep.length<=16777216/\Q (.str (Txt.join sep ys)) H
theorem DR:qB X "str.join" (rJoin X.K):=by
 rintro pins s σ H x vs v us Q I rx rv ⟨sep,l,ys,rfl,rfl,hq,hn,q⟩;obtain⟨t,rfl⟩:=rx;obtain⟨u,rfl,ru⟩:=rv.one;cases ru;obtain⟨aB,r,pl,_⟩:=I.list hq;exact join_list pl.isList (DQ r) hn λt' k=>⟨.str _,H,I.tok _,⟨_,rfl⟩,q⟩
noncomputable def NQ:V->List V->Hp->VK->Prop:=λx vs H Q=>∃(z sep:Str),x = .str z/\vs = [.str sep]/\(sep.length == 0)=false/\z.length+2<=sizeLine/\(Txt.split z sep).length<=sizeLine/\∀l,H l=none->Q (.ref l) (upd H l (.lst ((Txt.split z sep).map V.str)))
theorem DS:∀(tk:Nat) (xs:List Str),Vals (xs.map V.str) (strsFrom tk xs)
 | _,[]=>.nil
 | tk,x::xs=>.cons ⟨_,rfl⟩ (DS (tk+1) xs)
theorem yq:qB X "str.split" NQ:=by
 rintro pins s σ H x vs v us Q I rx rv ⟨z,sep,rfl,rfl,h0,hz,hp,q⟩;obtain⟨t,rfl⟩:=rx;obtain⟨u,rfl,ru⟩:=rv.one;obtain⟨t2,rfl⟩:=ru;have ty:s.TypeIs (.str z t) "str" := typeIs_str s z t;have one:∀(e:Txt.split z sep = [z]),EP X pins σ Q (.ref s.heap.objs.size) { s with heap:=s.heap.push { cls:=.type "list",data:=.seq #[.str z t] }}:=λe=>by
  refine⟨.ref _,upd H s.heap.objs.size (.lst ((Txt.split z sep).map V.str)),I.laid (t':=s.toks) (λb o e=>Heap.get?_push_of_some _ e) (Nat.le_refl _) ?_,rfl,q _ (I.aG.fresh (Nat.le_refl _))⟩;rw[e];exact⟨by rw[sizeLine_eq];simp,[.str z t],0,.cons ⟨_,rfl⟩ .nil,Heap.get?_push_size _ rfl⟩
 by_cases c1:(decide (z.length<sep.length) || decide (Builtin.Str.strKind z<Builtin.Str.strKind sep))=true
 ·refine call_meets F.slot_str_split ty F.entry_str_split (F.args_str_split_2 _ _) (meets_str_split_cannot_occur z sep t t2 c1) ?_;exact one (by unfold Txt.split;rw[if_pos c1])
 ·have Wf:=Bool.not_eq_true _▸c1;by_cases c2:(Builtin.Str.occurrences z sep 0 z.length (z.length+1)).isEmpty=true
  ·refine call_meets F.slot_str_split ty F.entry_str_split (F.args_str_split_2 _ _) (meets_str_split_not_found z sep t t2 (by simpa using c1) h0 c2) ?_
   exact one (by unfold Txt.split;rw[if_neg c1,if_pos c2])
  ·have e:Txt.split z sep=Builtin.Str.partsBetween z (Builtin.Str.occurrences z sep 0 z.length (z.length+1)) sep.length:=by unfold Txt.split;rw[if_neg c1,if_neg c2]
   rw[e] at hp;refine call_meets F.slot_str_split ty F.entry_str_split (F.args_str_split_2 _ _) (meets_str_split_sep z sep t t2 (by simpa using c1) h0 (by simpa using c2) (by lia) hp) ?_
   refine⟨.ref _,upd H s.heap.objs.size (.lst ((Txt.split z sep).map V.str)),I.laid (λb o e=>Heap.get?_push_of_some _ e) (Nat.le_refl _) ?_,rfl,q _ (I.aG.fresh (Nat.le_refl _))⟩;rw[e];exact⟨by rw[List.length_map];exact hp,_,0,DS _ _,Heap.get?_push_size _ rfl⟩
theorem DT:gP X (.type "int") (λxs H Q=>∃(z:Str) (n:Int),xs = [.str z]/\intText? z=some n/\z.length<=640/\Q (.int n) H):=by
 rintro pins s σ H xs us Q I r ⟨z,n,rfl,e,hl,q⟩;obtain⟨u,rfl,ru⟩:=vals1 r;obtain⟨t,rfl⟩:=ru;exact PySem.W.KIN.call_text e hl ⟨.int n,H,I.tok _,⟨_,rfl⟩,q⟩
noncomputable def DU(x:Str):It:=⟨λi _=>i<x.cps.size,λi H v H'=>H' = H/\∃c,x.cps[i]? = some c/\v = .str ⟨#[c]⟩,λi _=>i=x.cps.size⟩
theorem NR{M:Model}{A:Around}{E:Value->Shared->Prop}{s:Shared}{tg:Expr}{it:Addr}{z:Str}{t:Tok}{Q:Unit->Shared->Prop}(hQ:Q () s):wpAny M A (letOwnedTupleGo tg (.ref it) (.str z t)) Q E s:=by
 unfold letOwnedTupleGo;cases tg <;> exact wpAny_pure hQ
theorem DV(x:Str):strIterType x = "str_ascii_iterator"\/strIterType x = "str_iterator" := by
 unfold strIterType;split
 ·exact .inl rfl
 ·exact .inr rfl
theorem DW{P:Program}{w:World}{A:Around}(hh:A.handled=none)(it:Addr)(x:Str)(t:Tok):Walks P w A it [it] [it] x.cps.size (SignAt x) λi h=>h.IsStrIter it (strIterType x) x t i:=by
 rcases DV x with e | e <;> rw[e]
 ·exact Walks.strAscii hh it x t
 ·exact Walks.strWide hh it x t
theorem NS{P:Program}{w:World}{K:PySem.W.Frag}{tg:Expr}(it:Addr)(x:Str)(t:Tok):Turn P w K tg (DU x) [it] it (λi h=>h.IsStrIter it (strIterType x) x t i) where
 mem:=by simp
 obj:=λi h st b hb=>by
  have e:b=it:=by simpa using hb
  subst e;obtain⟨o,e,_,d⟩:=st;exact⟨o,e,λv z=>by rw[d] at z;cases z⟩
 keep:=λi h h' ⟨o,e,c,d⟩ k=>⟨o,k it (by simp) o e,c,d⟩
 item:=by
  intro X hP hw hK hc i pins s σ H E I hf st hg;subst hP hw hK;obtain⟨f0,f1,f2,f3,f4,f5⟩:=hf it (by simp)
  refine(DW (I.ok.hd hc) it x t).item i s _ _ hg st λv h' tk hv dN kk=>?_;obtain⟨c,t',NT,rfl⟩:=hv;have I1:Inv X pins σ H { s with heap:=h',toks:=tk }:=I.turned (λb o hb e=>kk b o (by simpa using hb) e) f0 f1 f3 f4 f5
  exact⟨_,rfl,NR ⟨.str ⟨#[c]⟩,H,I1,⟨t',rfl⟩,⟨rfl,c,NT,rfl⟩,dN,λb hb=>(hf b hb).1⟩⟩
 done:=by
  intro X hP hw hK hc i pins s σ H E I hf st hg;subst hP hw hK;obtain⟨f0,f1,f2,f3,f4,f5⟩:=hf it (by simp)
  have hg:i=x.cps.size:=hg;subst hg;exact(DW (I.ok.hd hc) it x t).done s _ _ st λh' tk kk=>⟨rfl,I.turned (λb o hb e=>kk b o (by simpa using hb) e) f0 f1 f3 f4 f5⟩
 self:=λA i s Q E st hQ=>by
  rcases DV x with e | e <;> rw[e] at st
  ·exact wpAny_pyIter_striter_ascii st hQ
  ·exact wpAny_pyIter_striter_wide st hQ
variable{tg:Expr}
noncomputable def DX(tl:TE):TI:=λσ H R=>tl σ H λx H1=>∃z,x = .str z/\R (DU z) H1
theorem DY{l:Expr}{tl:TE}(hl:PE X l tl):PI X tg l (DX tl):=by
 intro pins s σ H R I h;refine aL (hl pins s σ H _ I h) λv s1 ⟨x,H1,I1,r1,q1⟩=>?_;obtain⟨z,e,q⟩:=q1;subst e;obtain⟨t,rfl⟩:=r1;refine wpAny_pyIter_strU ?_;refine⟨s1.heap.objs.size,[s1.heap.objs.size],_,_,H1,rfl,I1.kept (t':=s1.toks) λb o e=>Heap.get?_push_of_some _ e,NS _ z t,⟨_,Heap.get?_push_size _ rfl,rfl,rfl⟩,λb hb=>?_,q⟩;have e:b=s1.heap.objs.size:=by simpa using hb
 subst e;exact I1.jG (Nat.le_refl _) (I1.aG.fresh (Nat.le_refl _))
theorem DZ{H:Hp}{σ:St}{g:TG}{tt:TT}{te tl:TE}{nt:Nat}{fv:List Nat}{Q:VK}(z:Str)(Pv:Addr->Nat->List V->St->Hp->Prop)(gT:∀Q:VK,Q (.str z) H->tl σ H Q)
  (h0:∀D,H D=none->Pv D 0 [] (iD σ nt fv) (upd H D (.lst []))) (hD:∀D i ys σ H,Pv D i ys σ H->H D=some (.lst ys)/\ys.length<sizeLine)
  (hs:∀D i c ys au H2 (N:List V->St->Hp->Prop),(∀ys σ H,Pv D (i+1) ys σ H->N ys σ H)->z.cps[i]? = some c->Pv D i ys au H2->g (.str ⟨#[c]⟩) au H2 λbR H4=>tt bR H4 λb H5=>if b=true then te bR H5 λv H6=>H6 D=some (.lst ys)/\N (ys++[v]) bR (upd H6 D (.lst (ys++[v]))) else N ys bR H5)
  (hd:∀D ys au H2,Pv D z.cps.size ys au H2->Q (.ref D) H2):i8 (DX tl) g tt te nt fv σ H Q:=by
 refine gT _ ⟨z,rfl,λD kR=>?_⟩;refine⟨λi m ys au H2=>m=z.cps.size - i/\i<=z.cps.size/\Pv D i ys au H2,⟨_,rfl,Nat.zero_le _,h0 D kR⟩,?_⟩;rintro i m ys au H2 ⟨rfl,eo,p⟩;obtain⟨d1,d2⟩:=hD D i ys au H2 p;refine⟨d1,d2,?_⟩;by_cases bC:i<z.cps.size
 ·refine .inr ⟨bC,λx H3 y=>?_⟩;obtain⟨e1,c,e2,e3⟩:=y;subst e1;subst e3;exact hs D i c ys au H3 (λyr aJ H'=>∃m',m' < z.cps.size - i/\m' = z.cps.size - (i+1)/\i+1<=z.cps.size/\Pv D (i+1) yr aJ H') (λys σ H p=>⟨_,by lia,rfl,by lia,p⟩) e2 p
 ·have:i=z.cps.size:=by lia
  subst this;exact .inl ⟨rfl,hd D ys au H2 p⟩
end
noncomputable def dg(n:Nat):List Nat:=(Nat.toDigits 10 n).map Char.toNat
theorem D0:∀k:Fin 10,(Nat.digitChar k.val).toNat=48+k.val:=by decide
theorem q_(n:Nat):dg n=if n<10 then [48+n] else dg (n / 10)++[48+n % 10]:=by
 unfold dg;rw[Nat.toDigits_eq_if (by decide)]
 split
 ·rename_i h;have:=D0 ⟨n,h⟩;simp only[List.map_cons,List.map_nil];rw[← this]
 ·have:=D0 ⟨n % 10,Nat.mod_lt _ (by decide)⟩
  simp only[List.map_append,List.map_cons,List.map_nil];rw[← this]
theorem NU(n:Nat):NumText.AllDigits (dg n):=by
 induction n using Nat.strongRecOn with
 | _ n ih =>
  rw[q_];split
  ·intro c hc;rw[List.mem_singleton.mp hc];lia
  ·intro c hc;rcases List.mem_append.mp hc with h | h
   ·exact ih (n / 10) (by lia) c h
   ·rw[List.mem_singleton.mp h];lia
theorem NV(n:Nat):dg n≠[]:=by
 rw[q_];split <;> simp
theorem NW(k:Nat):∀n:Nat,n<10 ^ (k+1)->(dg n).length<=k+1:=by
 induction k with
 | zero =>
  intro n h;rw[q_,if_pos (by lia)];simp
 | succ k ih =>
  intro n h;rw[q_];split
  ·simp
  ·have:=ih (n / 10) (by rw[Nat.pow_succ] at h;lia)
   simp only[List.length_append,List.length_cons,List.length_nil];lia
noncomputable def tx(n:Int):Str:=Str.ofString (toString n)
theorem D3{n:Int}(h:0<=n):(tx n).cps.toList=dg n.toNat:=by
 obtain⟨m,rfl⟩:=Int.eq_ofNat_of_zero_le h;have:tx (m:Int) = { cps:=(dg m).toArray }:=text_ofNat m;rw[this];simp
noncomputable def isNum(w:Str):Bool:=decide (1<=w.length) && decide (w.length<=15) && !(decide (w.cps[0]? = some 48) && decide (w≠(Str.ofString "0"))) && w.cps.toList.all λc=>decide (48<=c/\c<=57)
noncomputable def nv(w:Str):Int:=(NumText.digitsVal w.cps.toList:Int)
theorem cS(w:Str):w.length=w.cps.toList.length:=by rw[Array.length_toList];rfl
theorem D4{n:Int}(h:0<=n)(h2:n<1000000000000000):1<=(tx n).length/\(tx n).length<=15:=by
 rw[cS,D3 h];have:=NW 14 n.toNat (by lia)
 have:=List.length_pos_iff.mpr (NV n.toNat);lia
theorem yt{w:Str}(h:isNum w=true):intText? w=some (nv w)/\w.length<=15:=by
 unfold isNum at h;simp only[Bool.and_eq_true,decide_eq_true_eq,List.all_eq_true] at h;obtain⟨⟨⟨l1,l2⟩,_⟩,a⟩:=h;refine⟨intText_digits (λc hc=>a c hc) ?_ (by lia),l2⟩
 intro z;rw[cS,z] at l1;simp at l1
theorem D5{n:Int}(h:0<=n):32∉(tx n).cps.toList:=by
 rw[D3 h];intro z;have:=NU _ _ z;lia
noncomputable def blank:Str:=Str.ofString " "
theorem D6:blank.cps.toList = [32]:=by decide
noncomputable def dc(ws:List Str):Prop:=∀w∈ws,32∉w.cps.toList
theorem jX(x y:Str):(x++y).cps.toList=x.cps.toList++y.cps.toList:=Array.toList_append
theorem D7{x y:Str}(h:x.cps.toList=y.cps.toList):x=y:=by
 cases x;cases y;simp at h;rw[h]
theorem join_eq(ws:List Str):Txt.join blank ws=blank.join ws:=StrLaws.glued_eq_join blank ws
structure iK(C:Addr)(H:Hp)(p dx l:Addr)(ws:List Str)(k:Nat):Prop where
 o:H p=some (.ins C dx [("words",.ref l),("passed",.int (k:Int))])
 w:H l=some (.lst (ws.map V.str))
noncomputable def oK(ws:List Str)(k:Nat):V:=match ws[k]? with
 | some w=>.str w
 | none=>.aF
noncomputable def Short(ws:List Str):Prop:=ws.length<=200/\∀w∈ws,w.length<=1000
noncomputable def iL(fo la:Option Int)(bh:List Int):List Str :=
 (match fo with | some a=>[(Str.ofString "for"),tx a] | none=>[])++((match la with | some a=>[(Str.ofString "by"),tx a] | none=>[])++(if bh = [] then [] else(Str.ofString "behind")::bh.map tx))
noncomputable def Nm(n:Int):Prop:=0<=n/\n<1000000000000000
theorem D8{w:Str}(h:w.length<1):isNum w=false:=by
 unfold isNum;rw[decide_eq_false (by lia)];rfl
theorem D9{w:Str}(h:15<w.length):isNum w=false:=by
 unfold isNum;rw[decide_eq_false (p:=w.length<=15) (by lia),Bool.and_false];rfl
theorem D_{c:Nat}(h:(⟨#[c]⟩:Str)=Str.ofString "0"):c=48:=by
 have e:Str.ofString "0" = ⟨#[48]⟩:=by decide
 rw[e] at h;simpa using h
theorem Ea{c:Nat}(h:c=48):(⟨#[c]⟩:Str)=Str.ofString "0" := by
 rw[h];decide
theorem Eb{w:Str}(h:w.cps[0]? = some 48)(h2:¬ w=Str.ofString "0"):isNum w=false:=by
 unfold isNum;rw[decide_eq_true h,decide_eq_true (p:=w≠Str.ofString "0") h2];simp
theorem Ec{w:Str}(h1:1<=w.length)(h2:w.length<=15)(h3:w.cps[0]? = some 48->w=Str.ofString "0"):isNum w=w.cps.toList.all (id ∘ λc=>decide (48<=c/\c<=57)):=by
 unfold isNum;rw[decide_eq_true h1,decide_eq_true h2];have:(decide (w.cps[0]? = some 48) && decide (w≠Str.ofString "0"))=false:=by
  by_cases e:w.cps[0]? = some 48
  ·rw[decide_eq_false (p:=w≠Str.ofString "0") (λz=>z (h3 e)),Bool.and_false]
  ·rw[decide_eq_false e,Bool.false_and]
 rw[this]
 rfl
theorem Ed(c:Nat):decide (c∈(Str.ofString "0123456789").cps.toList)=decide (48<=c/\c<=57):=by
 have e:(Str.ofString "0123456789").cps.toList = [48,49,50,51,52,53,54,55,56,57]:=by decide
 rw[e];congr 1;simp only[List.mem_cons,List.not_mem_nil,or_false];apply propext
 omega -- keep
theorem iK.ne{C:Addr}{H:Hp}{p dx l:Addr}{ws:List Str}{k:Nat}(h:iK C H p dx l ws k):l≠p:=λz=>by
 have:=h.w;rw[z,h.o] at this;cases this
theorem iK.put{C:Addr}{H:Hp}{p dx l:Addr}{ws:List Str}{k:Nat}(h:iK C H p dx l ws k){v:Int}{k':Nat}(e:v=(k':Int)):iK C (upd H p (.ins C dx [("words",.ref l),("passed",.int v)])) p dx l ws k':=⟨by rw[aq,e],by rw[bF h.ne];exact h.w⟩
theorem iK.same{C:Addr}{H H':Hp}{p dx l:Addr}{ws:List Str}{k:Nat}(h:iK C H p dx l ws k)(s:ah H H'):iK C H' p dx l ws k:=⟨s _ _ h.o,s _ _ h.w⟩
theorem SameBut.tr{H H1 H2:Hp}{x:Addr}(a:SameBut x H H1)(b:SameBut x H1 H2):SameBut x H H2:=λc o e h=>b c o (a c o e h) h
theorem SameBut.back{H H1:Hp}{x r:Addr}(a:SameBut x H H1)(n:H1 r=none)(h:∃o,H1 x=some o):H r=none:=by
 cases e:H r with
 | none=>rfl
 | some o =>
  by_cases z:r=x
  ·obtain⟨o',h'⟩:=h;rw[z,h'] at n;cases n
  ·rw[a _ _ e z] at n;cases n
theorem NY(ws:List Str)(k:Nat):oK ws k=oK (ws.drop k) 0:=by
 unfold oK;rw[List.getElem?_drop,Nat.add_zero]
theorem Ef{ws r:List Str}{k:Nat}{x:Str}(h:ws.drop k=x::r):ws[k]? = some x/\ws.drop (k+1)=r/\k+1<=ws.length:=by
 have e:(ws.drop k)[0]? = some x:=by rw[h];rfl
 rw[List.getElem?_drop,Nat.add_zero] at e;refine⟨e,?_,(List.getElem?_eq_some_iff.mp e).1⟩;have:ws.drop (k+1)=(ws.drop k).drop 1:=by rw[List.drop_drop]
 rw[this,h];rfl
noncomputable def kw(q:Ak):Str:=if q.early=true then Str.ofString "early" else q.kind
noncomputable def g6(q:Ak):List Str:=if q.kind=Str.ofString "rest" then [] else if q.kind=Str.ofString "read" then [tx q.first,tx q.many] else tx q.first::q.marks.map tx
noncomputable def dh(q:Ak)(fo:Option Int):List Str:=kw q::(g6 q++(Str.ofString "at" :: tx q.at_::iL fo q.eV q.behind))
inductive dW:Ak->Prop
 | rd (f m a s:Int) (l:Option Int) (ns:List Int):fU f m a s l->cP ns->ns.length<=100->dW ⟨Str.ofString "read",f,m,[],a,s,l,ns,false⟩
 | wr (f a s:Int) (ms:List Int) (l:Option Int) (ns:List Int) (e:Bool):fU f ms.length a s l->(∀x∈ms,0<=x/\x<=1000000000)->cP ns->ns.length<=100->dW ⟨Str.ofString "write",f,ms.length,ms,a,s,l,ns,e⟩
 | rs (a:Int):0<=a->a<=1000000000000->dW ⟨Str.ofString "rest",0,0,[],a,0,none,[],false⟩
noncomputable def mh(q:Ak)(fo:Option Int):Prop:=fo.getD 0=q.cO
theorem fU.nm{f m a s:Int}{l:Option Int}(h:fU f m a s l):Nm f/\Nm m/\Nm a/\Nm s/\∀x,l=some x->Nm x:=by
 have h1:=h.f0;have h2:=h.f1;have h3:=h.m0;have h4:=h.m1;have h5:=h.a0;have h6:=h.a1;have h7:=h.s0;have h8:=h.s1;refine⟨⟨h1,by lia⟩,⟨by lia,by lia⟩,⟨h5,by lia⟩,⟨h7,by lia⟩,λx e=>?_⟩
 have:=h.l x e;exact⟨this.1,by lia⟩
theorem cP.nm{ns:List Int}(h:cP ns):∀a∈ns,Nm a:=λa ha=>by
 have:=h.lo a ha;have:=h.hi a ha;exact⟨by lia,by lia⟩
theorem NZ(f m a s:Int)(la:Option Int)(ns:List Int)(fo:Option Int):dh ⟨Str.ofString "read",f,m,[],a,s,la,ns,false⟩ fo=Str.ofString "read" :: tx f::tx m::Str.ofString "at" :: tx a::iL fo la ns:=by
 unfold dh kw g6;dsimp only;rw[if_neg (by decide),if_neg (by decide),if_pos rfl];rfl
theorem N1(f a s:Int)(ms:List Int)(la:Option Int)(ns:List Int)(e:Bool)(fo:Option Int):dh ⟨Str.ofString "write",f,ms.length,ms,a,s,la,ns,e⟩ fo=(if e=true then Str.ofString "early" else Str.ofString "write")::tx f::(ms.map tx++(Str.ofString "at" :: tx a::iL fo la ns)):=by
 unfold dh kw g6;dsimp only;rw[if_neg (c:=Str.ofString "write" = Str.ofString "rest") (by decide),if_neg (c:=Str.ofString "write" = Str.ofString "read") (by decide)];rfl
theorem N3:isNum (Str.ofString "at")=false:=by decide
noncomputable def nF:List Str:=[Str.ofString "read",Str.ofString "write",Str.ofString "early",Str.ofString "rest",Str.ofString "at",Str.ofString "for",Str.ofString "by",Str.ofString "behind"]
noncomputable def oM(w:Str):Prop:=(∃n,Nm n/\w=tx n)\/w∈nF
theorem oM.ok{w:Str}(h:oM w):32∉w.cps.toList/\w.length<=15:=by
 rcases h with⟨n,hn,rfl⟩ | h
 ·exact⟨D5 hn.1,(D4 hn.1 hn.2).2⟩
 ·have:(nF.all λw=>decide (32∉w.cps.toList) && decide (w.length<=15))=true:=by decide
  have:=List.all_eq_true.mp this w h;simpa using this
theorem yu{fo la:Option Int}{bh:List Int}(h1:∀a,fo=some a->Nm a)(h2:∀a,la=some a->Nm a)(h3:∀a∈bh,Nm a):∀w∈iL fo la bh,oM w:=by
 intro w hw;unfold iL at hw;rcases List.mem_append.mp hw with hw | hw
 ·cases fo with
  | none=>simp at hw
  | some a =>
   simp only[List.mem_cons,List.not_mem_nil,or_false] at hw;rcases hw with rfl | rfl
   ·exact .inr (by decide)
   ·exact .inl ⟨a,h1 a rfl,rfl⟩
 rcases List.mem_append.mp hw with hw | hw
 ·cases la with
  | none=>simp at hw
  | some a =>
   simp only[List.mem_cons,List.not_mem_nil,or_false] at hw;rcases hw with rfl | rfl
   ·exact .inr (by decide)
   ·exact .inl ⟨a,h2 a rfl,rfl⟩
 ·split at hw
  ·simp at hw
  ·rcases List.mem_cons.mp hw with rfl | hw
   ·exact .inr (by decide)
   ·obtain⟨a,ha,rfl⟩:=List.mem_map.mp hw;exact .inl ⟨a,h3 a ha,rfl⟩
theorem rm(fo la:Option Int)(bh:List Int):(iL fo la bh).length<=5+bh.length:=by
 unfold iL;cases fo <;> cases la <;> by_cases h:bh = [] <;> simp[h] <;> lia
theorem rq{q:Ak}{fo:Option Int}(ok:dW q)(gn:mh q fo):(∀w∈dh q fo,oM w)/\(dh q fo).length<=200:=by
 unfold mh at gn;cases ok with
 | rd f m a s l ns hB hR hl =>
  obtain⟨n1,n2,n3,n4,n5⟩:=hB.nm;have hf:∀x,fo=some x->Nm x:=λx e=>by rw[e] at gn;have:x=s:=gn;rw[this];exact n4
  rw[NZ];have:=rm fo l ns;refine⟨λw hw=>?_,by simp;lia⟩
  simp only[List.mem_cons] at hw;rcases hw with rfl | rfl | rfl | rfl | rfl | hw
  ·exact .inr (by decide)
  ·exact .inl ⟨_,n1,rfl⟩
  ·exact .inl ⟨_,n2,rfl⟩
  ·exact .inr (by decide)
  ·exact .inl ⟨_,n3,rfl⟩
  ·exact yu hf n5 hR.nm w hw
 | wr f a s ms l ns e hB ji hR hl =>
  obtain⟨n1,n2,n3,n4,n5⟩:=hB.nm;have hf:∀x,fo=some x->Nm x:=λx e=>by rw[e] at gn;have:x=s:=gn;rw[this];exact n4
  rw[N1];have:=rm fo l ns;have N4:=hB.m1;refine⟨λw hw=>?_,by simp;lia⟩
  simp only[List.mem_cons,List.mem_append] at hw;rcases hw with rfl | rfl | hw | rfl | rfl | hw
  ·right;split <;> decide
  ·exact .inl ⟨_,n1,rfl⟩
  ·obtain⟨x,hx,rfl⟩:=List.mem_map.mp hw;have:=ji x hx;exact .inl ⟨x,⟨this.1,by lia⟩,rfl⟩
  ·exact .inr (by decide)
  ·exact .inl ⟨_,n3,rfl⟩
  ·exact yu hf n5 hR.nm w hw
 | rs a h0 h1 =>
  have hf:∀x,fo=some x->Nm x:=λx e=>by rw[e] at gn;have:x=0:=gn;rw[this];exact⟨by decide,by decide⟩
  have el:dh ⟨Str.ofString "rest",0,0,[],a,0,none,[],false⟩ fo=Str.ofString "rest" :: Str.ofString "at" :: tx a::iL fo none []:=by
   unfold dh kw g6;dsimp only;rw[if_neg (by decide),if_pos rfl];rfl
  rw[el];have:=rm fo none [];refine⟨λw hw=>?_,by simp at this ⊢;lia⟩
  simp only[List.mem_cons] at hw;rcases hw with rfl | rfl | rfl | hw
  ·exact .inr (by decide)
  ·exact .inr (by decide)
  ·exact .inl ⟨_,⟨h0,by lia⟩,rfl⟩
  ·exact yu hf (by simp) (by simp) w hw
theorem N5{q:Ak}{fo:Option Int}(ok:dW q)(gn:mh q fo):Short (dh q fo):=⟨(rq ok gn).2,λw hw=>by have:=((rq ok gn).1 w hw).ok.2;lia⟩
theorem N6{q:Ak}{fo:Option Int}(ok:dW q)(gn:mh q fo):dc (dh q fo):=λw hw=>((rq ok gn).1 w hw).ok.1
noncomputable def nums(q:Ak):List Int:=if q.kind=Str.ofString "rest" then [] else if q.kind=Str.ofString "read" then [q.first,q.many] else q.first::q.marks
theorem Eg(q:Ak):g6 q=(nums q).map tx:=by
 unfold g6 nums;split
 ·rfl
 ·split <;> rfl
noncomputable def fL(q:Ak):Option Int:=if q.cO=0 then none else some q.cO
section
variable{K:PySem.W.Frag}{H:Hp}{σ:St}{g:TG}{tt:TT}{te tl:TE}{nt:Nat}{fv:List Nat}{Q:VK}
theorem mj(a:Addr)(xs:List V)(Pv:Addr->Nat->List V->St->Hp->Prop)(gT:∀Q:VK,Q (.ref a) H->tl σ H Q)(gU:aK K H a xs)
  (h0:∀D,H D=none->Pv D 0 [] (iD σ nt fv) (upd H D (.lst []))) (hD:∀D i ys σ H,Pv D i ys σ H->H D=some (.lst ys)/\ys.length<sizeLine/\aK K H a xs)
  (hs:∀D i x ys au H2 (N:List V->St->Hp->Prop),(∀ys σ H,Pv D (i+1) ys σ H->N ys σ H)->xs[i]? = some x->Pv D i ys au H2->g x au H2 λbR H4=>tt bR H4 λb H5=>if b=true then te bR H5 λv H6=>H6 D=some (.lst ys)/\N (ys++[v]) bR (upd H6 D (.lst (ys++[v]))) else N ys bR H5)
  (hd:∀D ys au H2,Pv D xs.length ys au H2->Q (.ref D) H2):i8 (wz K tl) g tt te nt fv σ H Q:=by
 refine gT _ ⟨a,rfl,⟨xs,gU⟩,λD kR=>?_⟩;refine⟨λi m ys au H2=>m=xs.length - i/\i<=xs.length/\Pv D i ys au H2,⟨_,rfl,Nat.zero_le _,h0 D kR⟩,?_⟩;rintro i m ys au H2 ⟨rfl,eo,p⟩;obtain⟨d1,d2,d3⟩:=hD D i ys au H2 p;refine⟨d1,d2,?_⟩;by_cases bC:i<xs.length
 ·refine .inr ⟨⟨xs,xs[i],d3,by simp[bC]⟩,λx H3 y=>?_⟩
  obtain⟨e1,e2⟩:=y;subst e1;exact hs D i x ys au _ (λyr aJ H'=>∃m',m' < xs.length - i/\m' = xs.length - (i+1)/\i+1<=xs.length/\Pv D (i+1) yr aJ H') (λys σ H p=>⟨_,by lia,rfl,by lia,p⟩) (e2 xs d3) p
 ·have e:i=xs.length:=by lia
  subst e;exact .inl ⟨⟨xs,d3,Nat.le_refl _⟩,hd D ys au H2 p⟩
end
theorem jY{n:Int}(h:Nm n):n.natAbs.log2<1920:=by
 by_cases h0:n.natAbs=0
 ·rw[h0];decide
 ·have h1:=h.1;have h2:=h.2;have:n.natAbs<2 ^ 50:=by lia
  have:=(Nat.log2_lt h0).mpr this;lia
theorem ah.back{H H':Hp}(s:ah H H'){p:Addr}(n:H' p=none):H p=none:=by
 cases e:H p with
 | none=>rfl
 | some o=>rw[s _ _ e] at n;cases n
structure rz(q:Ak):Prop where
 nl:(nums q).length<=20
 nn:∀n∈nums q,Nm n
 ml:q.marks.length<=100
 N7:Nm q.at_
 N8:Nm q.cO
 la:∀x,q.eV=some x->Nm x
 bh:∀n∈q.behind,Nm n
 bl:q.behind.length<=100
theorem dW.facts{q:Ak}(ok:dW q):rz q:=by
 cases ok with
 | rd f m a s l ns hB hR hl =>
  obtain⟨n1,n2,n3,n4,n5⟩:=hB.nm;have e:nums ⟨Str.ofString "read",f,m,[],a,s,l,ns,false⟩ = [f,m]:=by
   unfold nums;dsimp only;rw[if_neg (by decide),if_pos rfl]
  refine⟨by rw[e];simp,λn hn=>?_,by simp,n3,n4,n5,hR.nm,hl⟩
  rw[e] at hn;simp only[List.mem_cons,List.not_mem_nil,or_false] at hn;rcases hn with rfl | rfl
  ·exact n1
  ·exact n2
 | wr f a s ms l ns e hB ji hR hl =>
  obtain⟨n1,n2,n3,n4,n5⟩:=hB.nm;have N4:=hB.m1;have en:nums ⟨Str.ofString "write",f,ms.length,ms,a,s,l,ns,e⟩=f::ms:=by
   unfold nums;dsimp only;rw[if_neg (by decide),if_neg (by decide)]
  refine⟨by rw[en];simp;lia,λn hn=>?_,by dsimp only;lia,n3,n4,n5,hR.nm,hl⟩
  rw[en] at hn;rcases List.mem_cons.mp hn with rfl | hn
  ·exact n1
  ·have:=ji n hn;exact⟨this.1,by lia⟩
 | rs a h0 h1 =>
  have en:nums ⟨Str.ofString "rest",0,0,[],a,0,none,[],false⟩ = []:=by
   unfold nums;dsimp only;rw[if_pos rfl]
  exact⟨by rw[en];simp,λn hn=>by(rw[en] at hn;simp at hn),by simp,(show Nm a from⟨h0,by lia⟩),(show Nm 0 from⟨by decide,by decide⟩),by simp,by simp,by simp⟩
noncomputable def W0(q:Ak):List Str:=kw q::(g6 q++[Str.ofString "at",tx q.at_])
noncomputable def W1(q:Ak):List Str:=W0 q++(match fL q with | some a=>[(Str.ofString "for"),tx a] | none=>[])
noncomputable def W2(q:Ak):List Str:=W1 q++(match q.eV with | some a=>[(Str.ofString "by"),tx a] | none=>[])
noncomputable def W3(q:Ak):List Str:=W2 q++(if q.behind = [] then [] else(Str.ofString "behind")::q.behind.map tx)
theorem N9(q:Ak):W3 q=dh q (fL q):=by
 unfold W3 W2 W1 W0 dh iL;simp only[List.cons_append,List.append_assoc,List.nil_append]
theorem Eh{q:Ak}(h:rz q):(W0 q).length<=30:=by
 unfold W0;have:=h.nl;rw[Eg];simp;lia
theorem Ei{q:Ak}(h:rz q):(W1 q).length<=40:=by
 have:=Eh h;unfold W1;cases fL q <;> simp <;> lia
theorem N_{q:Ak}(h:rz q):(W2 q).length<=50:=by
 have:=Ei h;unfold W2;cases q.eV <;> simp <;> lia
theorem Ej(q:Ak):mh q (fL q):=by
 unfold mh fL;split
 ·rename_i h;rw[h];rfl
 ·rfl
theorem Short.sum{ws:List Str}(h:Short ws):(ws.map (·.length)).sum+ws.length*blank.length<=16777216:=by
 have s:∀l:List Str,(∀w∈l,w.length<=1000)->(l.map (λx=>x.length)).sum<=1000*l.length:=by
  intro l
  induction l with
  | nil=>intro _;simp
  | cons a l ih =>
   intro h;have h1:=ih λw hw=>h w (List.mem_cons_of_mem _ hw);have h2:=h a (by simp)
   rw[List.map_cons,List.sum_cons,List.length_cons];lia
 have s1:=s ws h.2;have b:blank.length=1:=by decide
 have h1:=h.1;rw[b];lia
structure Ek(xs:List Int)(n:Nat):Prop where
 len:xs.length=n
 bd:∀x∈xs,0<=x/\x<2147483647
noncomputable def Oa:Sp:=λvs H Q _=>∃(c m:Int),vs = [.int c,.int m]/\0<=m/\m<=100/\∀(l:Addr) (ns:List Int) (H':Hp),ah H H'->H l=none->H' l=some (.lst (ns.map V.int))->Ek ns m.toNat->Q (.ref l) H'
structure jZ(H:Hp)(t:Addr)(q:Ak)(m b:Addr):Prop where
 o:H t=some (.tup [.str (kw q),.int q.first,.int q.many,.ref m,.int q.at_,.int q.cO,b_ q.eV,.ref b])
 ms:H m=some (.tup (q.marks.map V.int))
 bh:H b=some (.tup (q.behind.map V.int))
theorem jZ.same{H H':Hp}{t m b:Addr}{q:Ak}(h:jZ H t q m b)(s:ah H H'):jZ H' t q m b:=⟨s _ _ h.o,s _ _ h.ms,s _ _ h.bh⟩
noncomputable def Ob:Sp:=λvs H Q _=>∃(t m b:Addr) (q:Ak),vs = [.ref t]/\jZ H t q m b/\dW q/\∀H',ah H H'->Q (.str (Txt.join blank (dh q (fL q)))) H'
noncomputable def Oc:Sp:=λvs H Q _=>∃(i:Int),vs = [.int i]/\Q (.bl true) H
noncomputable def Od:Sp:=λvs H Q _=>∃(a:Addr) (ns:List Int),vs = [.ref a]/\H a=some (.tup (ns.map V.int))/\ns.length<=900/\∀H',ah H H'->Q (.bl true) H'
theorem El{ns:List Int}(h:1<=ns.length):cW (ns.map V.int) (some 1) none=(ns.drop 1).map V.int:=by
 have e:cW (ns.map V.int) (some ((1:Nat):Int)) none=((ns.map V.int).drop (min 1 (ns.map V.int).length)).take ((ns.map V.int).length - min 1 (ns.map V.int).length):=by
  unfold cW;rw[_H.qA,_H.jN]
 have e2:min 1 (ns.map V.int).length=1:=by rw[List.length_map];lia
 rw[e2] at e;rw[show (some (1:Int))=some ((1:Nat):Int) from rfl,e,List.take_of_length_le (by rw[List.length_drop];lia),List.map_drop]
section
variable{X:Cx}
theorem Em(hu:X.A.units<cLine):bU X (compareOp .NotEq) (λx y H Q=>∃(a b:Addr) (ns ms:List Int),x = .ref a/\y = .ref b/\H a=some (.tup (ns.map V.int))/\H b=some (.tup (ms.map V.int))/\Q (.bl (!decide (ns=ms))) H):=by
 rintro pins s σ H x y v u Q I rx ry ⟨p,q,ns,ms,rfl,rfl,h,h',hq⟩;cases rx;cases ry;obtain⟨aB,r1,q1,_⟩:=I.tuple (aK.of (K:=X.K) h);obtain⟨cX,r2,q2,_⟩:=I.tuple (aK.of (K:=X.K) h');have l1:ns.length=aB.length:=by have:=r1.length;simpa using this
 have l2:ms.length=cX.length:=by have:=r2.length;simpa using this
 have e0:((List.range (min aB.toArray.size cX.toArray.size)).all (λj=>decide (ns[j]? = ms[j]?)) && aB.toArray.size == cX.toArray.size)=decide (ns=ms):=by
  rw[Bool.eq_iff_iff];simp only[Bool.and_eq_true,List.all_eq_true,List.mem_range,decide_eq_true_eq,beq_iff_eq,List.size_toArray];constructor
  ·rintro⟨h1,h2⟩;refine List.ext_getElem? λj=>?_
   by_cases hj:j<min aB.length cX.length
   ·exact h1 j hj
   ·rw[List.getElem?_eq_none (by lia),List.getElem?_eq_none (by lia)]
  ·rintro rfl;exact⟨λ_ _=>rfl,by lia⟩
 have fin:=SeqAt.RcNeAt.tuples (A:=X.A) (s:=s) (e:=λj=>decide (ns[j]? = ms[j]?)) q1 q2 (by lia) (λj h1 h2=>?_)
 ·rw[e0] at fin;exact fin X.prog X.w _ _ ⟨.bl (!decide (ns=ms)),H,I,rfl,hq⟩
 ·have j1:j<ns.length:=by rw[l1];simpa using h1
  have j2:j<ms.length:=by rw[l2];simpa using h2
  obtain⟨u1,g1,w1⟩:=r1.get (show (ns.map V.int)[j]? = some (.int ns[j]) by simp[j1])
  obtain⟨u2,g2,w2⟩:=r2.get (show (ms.map V.int)[j]? = some (.int ms[j]) by simp[j2])
  have e1:aB.toArray[j] = u1:=by
   rw[List.getElem_toArray];exact Option.some.inj ((List.getElem?_eq_getElem (by simpa using h1)).symm.trans g1)
  have e2:cX.toArray[j] = u2:=by
   rw[List.getElem_toArray];exact Option.some.inj ((List.getElem?_eq_getElem (by simpa using h2)).symm.trans g2)
  obtain⟨t1,rfl⟩:=w1;obtain⟨t2,rfl⟩:=w2;rw[e1,e2];have:=SeqAt.EqAt.int_int (A:=X.A.in1) (s:=s) ns[j] t1 ms[j] t2;have e3:(ns[j] == ms[j])=decide (ns[j]? = ms[j]?):=by
   simp only[List.getElem?_eq_getElem j1,List.getElem?_eq_getElem j2,Option.some.injEq];rw[Bool.eq_iff_iff];simp
  rwa [e3] at this
theorem En(hu:X.A.units<cLine):bU X (compareOp .Eq) (λx y H Q=>∃(a b:Addr) (ns ms:List Int),x = .ref a/\y = .ref b/\H a=some (.tup (ns.map V.int))/\H b=some (.tup (ms.map V.int))/\Q (.bl (decide (ns=ms))) H):=by
 rintro pins s σ H x y v u Q I rx ry ⟨p,q,ns,ms,rfl,rfl,h,h',hq⟩;cases rx;cases ry;obtain⟨aB,r1,q1,_⟩:=I.tuple (aK.of (K:=X.K) h);obtain⟨cX,r2,q2,_⟩:=I.tuple (aK.of (K:=X.K) h');have l1:ns.length=aB.length:=by have:=r1.length;simpa using this
 have l2:ms.length=cX.length:=by have:=r2.length;simpa using this
 have e0:((List.range (min aB.toArray.size cX.toArray.size)).all (λj=>decide (ns[j]? = ms[j]?)) && aB.toArray.size == cX.toArray.size)=decide (ns=ms):=by
  rw[Bool.eq_iff_iff];simp only[Bool.and_eq_true,List.all_eq_true,List.mem_range,decide_eq_true_eq,beq_iff_eq,List.size_toArray];constructor
  ·rintro⟨h1,h2⟩;refine List.ext_getElem? λj=>?_
   by_cases hj:j<min aB.length cX.length
   ·exact h1 j hj
   ·rw[List.getElem?_eq_none (by lia),List.getElem?_eq_none (by lia)]
  ·rintro rfl;exact⟨λ_ _=>rfl,by lia⟩
 have fin:=SeqAt.RcAt.tuples (A:=X.A) (s:=s) (e:=λj=>decide (ns[j]? = ms[j]?)) q1 q2 (by lia) (λj h1 h2=>?_)
 ·rw[e0] at fin;exact fin X.prog X.w _ _ ⟨.bl (decide (ns=ms)),H,I,rfl,hq⟩
 ·have j1:j<ns.length:=by rw[l1];simpa using h1
  have j2:j<ms.length:=by rw[l2];simpa using h2
  obtain⟨u1,g1,w1⟩:=r1.get (show (ns.map V.int)[j]? = some (.int ns[j]) by simp[j1])
  obtain⟨u2,g2,w2⟩:=r2.get (show (ms.map V.int)[j]? = some (.int ms[j]) by simp[j2])
  have e1:aB.toArray[j] = u1:=by
   rw[List.getElem_toArray];exact Option.some.inj ((List.getElem?_eq_getElem (by simpa using h1)).symm.trans g1)
  have e2:cX.toArray[j] = u2:=by
   rw[List.getElem_toArray];exact Option.some.inj ((List.getElem?_eq_getElem (by simpa using h2)).symm.trans g2)
  obtain⟨t1,rfl⟩:=w1;obtain⟨t2,rfl⟩:=w2;rw[e1,e2];have:=SeqAt.EqAt.int_int (A:=X.A.in1) (s:=s) ns[j] t1 ms[j] t2;have e3:(ns[j] == ms[j])=decide (ns[j]? = ms[j]?):=by
   simp only[List.getElem?_eq_getElem j1,List.getElem?_eq_getElem j2,Option.some.injEq];rw[Bool.eq_iff_iff];simp
  rwa [e3] at this
end
theorem Eo{q:Ak}(ok:dW q):kw q=Str.ofString "rest"↔q.kind=Str.ofString "rest" := by
 cases ok with
 | rd f m a s l ns hB hR hl=>unfold kw;dsimp only;rw[if_neg (by decide)]
 | wr f a s ms l ns e hB ji hR hl =>
  unfold kw;dsimp only;cases e
  ·rw[if_neg (by decide)]
  ·rw[if_pos rfl];exact⟨λz=>absurd z (by decide),λz=>absurd z (by decide)⟩
 | rs a h0 h1=>unfold kw;dsimp only;rw[if_neg (by decide)]
theorem Ep{q:Ak}(ok:dW q):kw q=Str.ofString "read"↔q.kind=Str.ofString "read" := by
 cases ok with
 | rd f m a s l ns hB hR hl=>unfold kw;dsimp only;rw[if_neg (by decide)]
 | wr f a s ms l ns e hB ji hR hl =>
  unfold kw;dsimp only;cases e
  ·rw[if_neg (by decide)]
  ·rw[if_pos rfl];exact⟨λz=>absurd z (by decide),λz=>absurd z (by decide)⟩
 | rs a h0 h1=>unfold kw;dsimp only;rw[if_neg (by decide)]
noncomputable def NA(q:Ak):List Str:=if q.kind=Str.ofString "rest" then [kw q] else [kw q,tx q.first]
noncomputable def NB(q:Ak):List Str:=if q.kind=Str.ofString "read" then NA q++[tx q.many] else NA q
theorem Oe{q:Ak}(ok:dW q):NB q++q.marks.map tx++[Str.ofString "at",tx q.at_] = W0 q:=by
 cases ok with
 | rd f m a s l ns hB hR hl =>
  unfold NB NA W0 g6;dsimp only;rw[if_pos rfl,if_neg (by decide),if_neg (by decide),if_pos rfl];simp
 | wr f a s ms l ns e hB ji hR hl =>
  unfold NB NA W0 g6;dsimp only;rw[if_neg (by decide),if_neg (by decide),if_neg (by decide),if_neg (by decide)];simp
 | rs a h0 h1 =>
  unfold NB NA W0 g6;dsimp only;rw[if_neg (by decide),if_pos rfl,if_pos rfl];simp
theorem Of(q:Ak):(NA q).length<=2/\(NB q).length<=3:=by
 unfold NB NA;constructor
 ·split <;> simp
 ·split <;> split <;> simp
theorem dW.fm{q:Ak}(ok:dW q):Nm q.first/\Nm q.many/\∀x∈q.marks,Nm x:=by
 cases ok with
 | rd f m a s l ns hB hR hl=>exact⟨hB.nm.1,hB.nm.2.1,λx hx=>nomatch hx⟩
 | wr f a s ms l ns e hB ji hR hl=>exact⟨hB.nm.1,hB.nm.2.1,λx hx=>by have:=ji x hx;exact⟨this.1,by lia⟩⟩
 | rs a h0 h1=>exact⟨(show Nm 0 from⟨by decide,by decide⟩),(show Nm 0 from⟨by decide,by decide⟩),λx hx=>nomatch hx⟩
noncomputable def mq(H:Hp)(t:Addr)(ws:List Str):St->Hp->Prop:=λσ H'=>∃l,σ = [some (.ref t),some (.ref l)]/\ah H H'/\H l=none/\H' l=some (.lst (ws.map V.str))
theorem yw{xs:List V}{j:Int}(h0:0<=j)(h1:j<xs.length):∃v,c9 xs j=some v/\v∈xs:=by
 obtain⟨n,rfl⟩:=Int.eq_ofNat_of_zero_le h0;have hn:n<xs.length:=by lia
 exact⟨xs[n],gi (List.getElem?_eq_getElem hn),List.getElem_mem hn⟩
noncomputable def Er(kd:Str):Prop:=kd=Str.ofString "read"\/kd=Str.ofString "write"\/kd=Str.ofString "early"\/kd=Str.ofString "rest"
theorem oN(P:Int->Prop)(xs:List Int)(h:∀x∈xs,P x){j:Int}(h0:0<=j)(h1:j<xs.length):∃v,c9 (xs.map V.int) j=some (.int v)/\P v:=by
 refine⟨_,nR h0 h1,?_⟩;have hn:j.toNat<xs.length:=by lia
 rw[List.getD_eq_getElem?_getD,List.getElem?_eq_getElem hn];exact h _ (List.getElem_mem hn)
theorem Og{ns ms:List Int}(nd:ns.Nodup)(mem:∀n,n∈ns↔n∈ms)(up:ns.Pairwise (·<=·))(b:∀x∈ms,0<=x/\x<=99):cP ns :=
 ⟨(up.and nd).imp λ⟨h1,h2⟩=>by have h2:_≠_:=h2;lia,λn hn=>(b n ((mem n).mp hn)).1,λn hn=>(b n ((mem n).mp hn)).2⟩
theorem rA(f a s:Int)(ms:List Int)(l:Option Int)(ns:List Int)(e:Bool):kw ⟨Str.ofString "write",f,ms.length,ms,a,s,l,ns,e⟩=if e=true then Str.ofString "early" else Str.ofString "write" := rfl
theorem rB(f m a s:Int)(l:Option Int)(ns:List Int):kw ⟨Str.ofString "read",f,m,[],a,s,l,ns,false⟩=Str.ofString "read" := if_neg (show ¬ false=true by decide)
noncomputable def Oh(K:PySem.W.Frag)(C:Addr):Sp:=λvs H Q _=>∃(p t m b:Addr) (q:Ak) (mk bb dx:Addr),vs = [.ref p,.ref t]/\gm K C H p q mk bb dx/\jZ H t q m b/\dW q/\∀H',ah H H'->Q (.bl true) H'
theorem Oi{K:PySem.W.Frag}{tl:TE}{g:TG}{tb:TS}{D:Ends}{σ:St}{H:Hp}(o:HO)(gT:∀Q:VK,(∀p,H p=none->Q (.ref p) (upd H p o))->tl σ H Q)(h:∀p,H p=none->jI (lK K (λ_ H Q=>Q (.ref p) H)) g tb D σ (upd H p o)):jI (lK K tl) g tb D σ H:=gT _ λp hp=>h p hp
theorem Oj(q:Ak)(fo:Option Int):dh q fo=W0 q++iL fo q.eV q.behind:=by
 unfold W0 dh;simp only[List.cons_append,List.append_assoc,List.nil_append]
theorem Ol(q:Ak):(W0 q).length=(g6 q).length+3:=by unfold W0;simp
theorem Om{xs:List V}{k:Nat}(h:k<=xs.length):cW xs none (some (k:Int))=xs.take k:=by
 unfold cW;rw[_H.qA,_H.jN];simp only[List.drop_zero,Nat.sub_zero];rw[Nat.min_eq_left h]
section
variable{X:Cx}
noncomputable def Oo:V->Option Int->Option Int->Hp->VK->Prop:=λx lo hi H Q=>∃z,x = .str z/\z.length<=sizeLine/\Q (.str (Txt.slice z lo hi)) H
theorem mw:wN X Oo:=by
 intro pins s σ H x v vl vu lo hi sl Q I rx hs pl pu h;obtain⟨z,rfl,hz,q⟩:=h;obtain⟨t,rfl⟩:=rx;refine⟨"str",_,F.slot_str_getitem.lookup,typeIs_str _ _ _,?_⟩;have fin:∀(l u:Option (Int×Tok)),l.map (·.1)=lo->u.map (·.1)=hi->s.heap.IsSlice sl l u none->wpAny (model X.prog X.w) X.A (getItem (.str z t) (.ref sl)) (EP X pins σ Q) X.xe s:=by
  intro l u e1 e2 h;subst e1 e2;refine wpAny_getItem_str_slice h rfl (post_val_or_str ⟨Nat.le_trans (Txt.slice_le z _ _) hz,λt' k=>⟨.str _,H,I.tok _,⟨_,rfl⟩,q⟩⟩)
 cases pl with
 | none =>
  cases pu with
  | none=>exact fin none none rfl rfl hs
  | int j u=>exact fin none (some (j,u)) rfl rfl hs
 | int i t1 =>
  cases pu with
  | none=>exact fin (some (i,t1)) none rfl rfl hs
  | int j u=>exact fin (some (i,t1)) (some (j,u)) rfl rfl hs
noncomputable def Oq:R2:=λx y H Q=>∃y1 z,x = .str y1/\y = .str z/\y1.length+z.length<=sizeLine/\Q (.str (y1++z)) H
theorem mz:bU X (binaryOp .Add) Oq:=by
 rintro pins s σ H x y v u Q I rx ry ⟨y1,z,rfl,rfl,hz,q⟩;obtain⟨t,rfl⟩:=rx;obtain⟨t',rfl⟩:=ry;exact SB.add (λt' k=>⟨.str _,H,I.tok _,⟨_,rfl⟩,q⟩) hz
noncomputable def Ot:R2:=λx y H Q=>∃z n,x = .str z/\y = .int n/\MulOk z n/\Q (.str (Txt.mul z n)) H
theorem Es:bU X (binaryOp .Mult) Ot:=by
 rintro pins s σ H x y v u Q I rx ry ⟨z,n,rfl,rfl,hz,q⟩;obtain⟨t,rfl⟩:=rx;obtain⟨t',rfl⟩:=ry;exact SB.mul hz (λt' k=>⟨.str _,H,I.tok _,⟨_,rfl⟩,q⟩)
noncomputable def eW(xs ys:List V):Prop:=∀x∈xs,∀y∈ys,iC x=true/\iC y=true/\fq x y=decide (x=y)
theorem eW.ints(ns ms:List Int):eW (ns.map V.int) (ms.map V.int):=λx hx y hy=>by
 obtain⟨n,_,rfl⟩:=List.mem_map.mp hx;obtain⟨m,_,rfl⟩:=List.mem_map.mp hy;refine⟨rfl,rfl,?_⟩
 show (n == m)=_;rw[Bool.eq_iff_iff];simp
theorem eW.strs(ns ms:List Str):eW (ns.map V.str) (ms.map V.str):=λx hx y hy=>by
 obtain⟨n,_,rfl⟩:=List.mem_map.mp hx;obtain⟨m,_,rfl⟩:=List.mem_map.mp hy;refine⟨rfl,rfl,?_⟩
 show (n == m)=_;rw[Bool.eq_iff_iff];simp
theorem Et{xs ys:List V}(hk:eW xs ys)(hl:xs.length=ys.length):(List.range xs.length).all (λj=>decide (xs[j]? = ys[j]?))=decide (xs=ys):=by
 rw[Bool.eq_iff_iff];simp only[List.all_eq_true,List.mem_range,decide_eq_true_eq];constructor
 ·intro h;refine List.ext_getElem? λj=>?_
  by_cases hj:j<xs.length
  ·exact h j hj
  ·rw[List.getElem?_eq_none (by lia),List.getElem?_eq_none (by lia)]
 ·rintro rfl _ _;rfl
theorem Eu{A:Around}{s:Shared}{xs ys:List V}{us vs:List Value}(hk:eW xs ys)(r1:Vals xs us)(r2:Vals ys vs)(j:Nat)(h1:j<us.toArray.size)(h2:j<vs.toArray.size):SeqAt.EqAt A s us.toArray[j] vs.toArray[j] (decide (xs[j]? = ys[j]?)):=by
 have l1:=r1.length;have l2:=r2.length;have j1:j<xs.length:=by rw[l1];simpa using h1
 have j2:j<ys.length:=by rw[l2];simpa using h2
 obtain⟨u1,g1,w1⟩:=r1.get (List.getElem?_eq_getElem j1);obtain⟨u2,g2,w2⟩:=r2.get (List.getElem?_eq_getElem j2);have e1:us.toArray[j] = u1:=by
  rw[List.getElem_toArray];exact Option.some.inj ((List.getElem?_eq_getElem (by simpa using h1)).symm.trans g1)
 have e2:vs.toArray[j] = u2:=by
  rw[List.getElem_toArray];exact Option.some.inj ((List.getElem?_eq_getElem (by simpa using h2)).symm.trans g2)
 obtain⟨f1,f2,f3⟩:=hk _ (List.getElem_mem j1) _ (List.getElem_mem j2);rw[e1,e2];have:=qC (A:=A) (s:=s) w1 w2 f1 f2;rw[f3] at this;have e3:decide (xs[j] = ys[j])=decide (xs[j]? = ys[j]?):=by
  simp only[List.getElem?_eq_getElem j1,List.getElem?_eq_getElem j2,Option.some.injEq]
 rwa [e3] at this
noncomputable def Ew(K:PySem.W.Frag)(neg:Bool):R2:=λx y H Q=>∃(a b:Addr) (xs ys:List V),x = .ref a/\y = .ref b/\ao K H a xs/\ao K H b ys/\eW xs ys/\Q (.bl (if neg then !decide (xs=ys) else decide (xs=ys))) H
theorem rC(hu:X.A.units<cLine):bU X (compareOp .NotEq) (Ew X.K true):=by
 rintro pins s σ H x y v u Q I rx ry ⟨a,b,xs,ys,rfl,rfl,ha,hb,hk,q⟩;cases rx;cases ry;obtain⟨aB,r1,p1,z1⟩:=I.list ha;obtain⟨cX,r2,p2,z2⟩:=I.list hb;have l1:=r1.length;have l2:=r2.length;by_cases hl:xs.length=ys.length
 ·have fin:=SeqAt.RcNeAt.lists (A:=X.A) (s:=s) (e:=λj=>decide (xs[j]? = ys[j]?)) p1.isList p2.isList (by simp;lia) hu (λj h1 h2=>Eu hk r1 r2 j h1 h2)
  rw[List.size_toArray,← l1,Et hk hl] at fin;exact fin X.prog X.w _ _ ⟨.bl (!decide (xs=ys)),H,I,rfl,q⟩
 ·have fin:=SeqAt.RcNeAt.lists_lengths (A:=X.A) (s:=s) p1.isList p2.isList (by simp;lia) hu
  have e:(!decide (xs=ys))=true:=by simp;intro z;exact hl (by rw[z])
  refine fin X.prog X.w _ _ ⟨.bl true,H,I,rfl,?_⟩;rw[← e];exact q
theorem rD(hu:X.A.units<cLine):bU X (compareOp .Eq) (Ew X.K false):=by
 rintro pins s σ H x y v u Q I rx ry ⟨a,b,xs,ys,rfl,rfl,ha,hb,hk,q⟩;cases rx;cases ry;obtain⟨aB,r1,p1,z1⟩:=I.list ha;obtain⟨cX,r2,p2,z2⟩:=I.list hb;have l1:=r1.length;have l2:=r2.length;by_cases hl:xs.length=ys.length
 ·have fin:=SeqAt.RcAt.lists (A:=X.A) (s:=s) (e:=λj=>decide (xs[j]? = ys[j]?)) p1.isList p2.isList (by simp;lia) hu (λj h1 h2=>Eu hk r1 r2 j h1 h2)
  rw[List.size_toArray,← l1,Et hk hl] at fin;exact fin X.prog X.w _ _ ⟨.bl (decide (xs=ys)),H,I,rfl,q⟩
 ·have fin:=SeqAt.RcAt.lists_lengths (A:=X.A) (s:=s) p1.isList p2.isList (by simp;lia) hu
  have e:decide (xs=ys)=false:=by simp;intro z;exact hl (by rw[z])
  refine fin X.prog X.w _ _ ⟨.bl false,H,I,rfl,?_⟩;rw[← e];exact q
end
section
variable{prog:Program}{w:World}{A:Around}{R:Result->Shared->Prop}{l I S:Addr}{led:Bool}{xs:List (Int×Tok)}
theorem Ou(hh:A.handled=none)(dU:xs.length<=60)(xT:l≠I)(kX:S≠I)(xU:S≠l):∀(k i:Nat) (s:Shared) (es:Array (Int×Value)) (t:SetTable) (ep:Nat),i+k=xs.length->
  s.heap.IsTupleIter I l i->s.heap.IsTuple l (xs.map iV).toArray->s.heap.get? S=some (bz es ep t)->dH prog w led ((xs.take i).map (·.1)) es t->
  (∀h' tk es t ep,(∀b o,b≠S->b≠I->s.heap.get? b=some o->h'.get? b=some o)->h'.get? S=some (bz es ep t)->dH prog w led (xs.map (·.1)) es t->R (.ok (.ret .none)) { s with heap:=h',toks:=tk })->
  codeAny (model prog w) A (.builtin "set.update.loop" ⟨[.ref S,.ref I],[]⟩) R s:=by
 have W:=Walks.tuple (prog:=prog) (w:=w) (A:=A.in1) hh I l xT (xs.map iV).toArray;intro k
 induction k with
 | zero =>
  intro i s es t ep hi hit hl hS st hR;refine codeAny_builtin F.entry_set_update_loop ?_;rw[Around.under_plainId F.plain_set_update_loop _]
  show wpAny _ A.in1 (pyNext (.ref I) >>= _) _ _ _;have eo:i=xs.length:=hi;subst eo;have hz:((xs.map iV).toArray).size=xs.length:=by simp
  refine wpAny_bind (W.done _ _ _ ⟨by rw[hz];exact hit,hl⟩ λh5 t5 k5=>?_)
  show wpAny _ A.in1 (ret Value.none) _ _ _;rw[List.take_length] at st;exact wpAny_pure (hR h5 t5 es t ep (λb o hb hI e=>k5 b o (by simpa using hI) e) (k5 S _ (by simpa using kX) hS) st)
 | succ k ih =>
  intro i s es t ep hi hit hl hS st hR;have eo:i<xs.length:=by lia
  refine codeAny_builtin F.entry_set_update_loop ?_;rw[Around.under_plainId F.plain_set_update_loop _]
  show wpAny _ A.in1 (pyNext (.ref I) >>= _) _ _ s;refine wpAny_bind (W.item i s _ _ (by simpa using eo) ⟨hit,hl⟩ λv h1 t1 hP xV k1=>?_)
  have xW:v = .int xs[i].1 xs[i].2:=by
   have:(xs.map iV)[i]? = some v:=by simpa using hP
   rw[List.getElem?_map,List.getElem?_eq_getElem eo] at this;exact(Option.some.inj this).symm
  subst xW;have xX:=k1 S _ (by simpa using kX) hS
  show wpAny _ A.in1 (holding [Value.int xs[i].1 xs[i].2] (setAdd S (.int xs[i].1 xs[i].2)) >>= _) _ _ _;refine wpAny_bind (wpAny_holding ?_);unfold setAdd;refine wpAny_holding ?_;refine wpAny_bind ((intKind prog w).pyHash (k:=xs[i].1) (intKind_is _ _ _ _) ?_);refine st.add (s:={ s with heap:=h1,toks:=t1+1 }) xX (by rw[List.length_map,List.length_take];lia) λb h2 bW Nv xY cG jg dN=>?_
  have cN:h2.IsTupleIter I l (i+1)/\h2.IsTuple l (xs.map iV).toArray:=W.frame (i+1) h1 h2 xV λb hb o e=>(cG.2 b (λz=>by
   rw[z] at hb;rcases List.mem_cons.mp hb with q | q
   ·exact kX q
   ·exact xU (List.mem_singleton.mp q))).trans e
  refine wpAny_pure ⟨plainId_quiet F.plain_set_update_loop _,?_⟩;refine ih (i+1) _ bW xY _ (by lia) cN.1 cN.2 jg ?_ λh' tk cU t' e7 kp gZ xZ=>hR h' tk cU t' e7 (λb o hb hI e=>kp b o hb hI ((cG.2 b hb).trans (k1 b o (by simpa using hI) e))) gZ xZ
  rw[take_succ_get (List.getElem?_eq_getElem eo),List.map_append];exact dN
end
section
variable{prog:Program}{w:World}{A:Around}{E:Value->Shared->Prop}{s:Shared}
theorem Ov{l:Addr}{xs:List (Int×Tok)}{Q:Value->Shared->Prop}(hh:A.handled=none)(dU:xs.length<=60)(hl:s.heap.IsTuple l (xs.map iV).toArray)
  (h:∀(h':Heap) (tk:Nat) (es:Array (Int×Value)) (ep:Nat) (t:SetTable),h'.get? s.heap.objs.size=some (bz es ep t)->dH prog w (!bw w) (xs.map (·.1)) es t->
   (∀b o,b<s.heap.objs.size->s.heap.get? b=some o->h'.get? b=some o)->Q (.ref s.heap.objs.size) { s with heap:=h',toks:=tk }) :
  wpAny (model prog w) A (call (.type "set") [.ref l]) Q E s:=by
 obtain⟨c,tl,Ny⟩:=F.called_set.mro;have Nz:=F.called_set.made;have DF:=F.called_set.sub;refine wpAny_call (codeAny_of_tree ?_)
 show wpAny _ _ (callAny (.type "set") _) _ _ _;refine wpAny_pure ⟨Code.quiet_builtin _ (by decide +kernel),codeAny_builtin F.entry_type_call ?_⟩
 rw[Around.under_plain (weight_type_call_type "set" [.ref l] []) rfl];have h1:=F.called_set.notType;have h2:=F.called_set.canCreate;have NC:=F.typeCall_set_1 (.ref l)
 repeat (any_goals (first | assumption | wp_step))
 refine codeAny_mono (DE (.ref l) (E:=E) (Q₁:=λobj a_=>obj = .ref s.heap.objs.size/\a_ = { s with heap:=s.heap.push (bz #[] 0 (.fresh 0 0 (!bw w)))}) ⟨rfl,rfl⟩) λr a_ hr=>?_;cases r with
 | error e=>exact hr
 | ok fl =>
  cases fl with
  | ret obj =>
   obtain⟨rfl,rfl⟩:=hr;have hS:(s.heap.push (bz #[] 0 (.fresh 0 0 (!bw w)))).get? s.heap.objs.size=some (bz #[] 0 (.fresh 0 0 (!bw w))):=Heap.get?_push_size _ rfl;have hT:Shared.TypeIs { s with heap:=s.heap.push (bz #[] 0 (.fresh 0 0 (!bw w)))} (.ref s.heap.objs.size) "set" := ⟨_,hS,rfl⟩;have ND:=F.called_set.init.lookup;have NF:=F.called_set.init.bind (.ref s.heap.objs.size)
   repeat (any_goals (first | assumption | wp_step))
   refine codeAny_mono (codeAny_call_builtin (R:=wants (λr fG=>r = .none/\∃h' tk,fG = { s with heap:=h',toks:=tk }/\
     (∃es ep t,h'.get? s.heap.objs.size=some (bz es ep t)/\dH prog w (!bw w) (xs.map (·.1)) es t)/\
     (∀b o,b<s.heap.objs.size->s.heap.get? b=some o->h'.get? b=some o)) E) F.called_set.init.plain F.entry_set_init (check_set_init_1 hT ?_)) λx6 fG kY=>?_
   ·obtain⟨ol,oB,oE,nl,kZ⟩:=hl;obtain⟨NG,x8,NH,x9⟩:=ol;simp only at oE kZ;subst oE;subst kZ;have x_:(s.heap.push (bz #[] 0 (.fresh 0 0 (!bw w)))).get? l=some { cls:=.type "tuple",dict:=x8,data:=.seq (xs.map iV).toArray nl,slots:=x9 }:=Heap.get?_push_of_some _ oB;have NI:=F.sub_tuple_set;have NJ:=F.sub_tuple_frozenset;have eu:(Value.type "tuple" == Value.type "dict")=false:=by decide
    have oF:(s.heap.push (bz #[] 0 (.fresh 0 0 (!bw w)))).IsTuple l (xs.map iV).toArray:=⟨_,x_,rfl,nl,rfl⟩;unfold Builtin.«set.__init__» noKeywords Builtin.Frozenset.updateFrom;generalize ya:pyIter=PI;wp_walk;subst ya;refine wpAny_pyIter_tuple oF ?_;refine wpAny_bind (wpAny_runValue ?_);have oG:l<s.heap.objs.size:=Heap.lt_size oB;have jh:A.in1.in1.in1.handled=none:=by simp[hh]
    have hz:(s.heap.push (bz #[] 0 (.fresh 0 0 (!bw w)))).objs.size=s.heap.objs.size+1:=Heap.size_push ..;have yc:l≠(s.heap.push (bz #[] 0 (.fresh 0 0 (!bw w)))).objs.size:=by rw[hz];exact Nat.ne_of_lt (Nat.lt_succ_of_lt oG)
    refine Ou (A:=A.in1.in1) (led := !bw w) (xs:=xs) (l:=l) (I:=(s.heap.push (bz #[] 0 (.fresh 0 0 (!bw w)))).objs.size) (S:=s.heap.objs.size) jh dU yc (by rw[hz];exact Nat.ne_of_lt (Nat.lt_succ_self _)) (Nat.ne_of_gt oG) xs.length 0 _ #[] (.fresh 0 0 (!bw w)) 0 (Nat.zero_add _) ?_ ?_ ?_ ⟨DB _,[],.refl _,.nil,λn=>by simp,by simp⟩ ?_
    ·exact⟨_,Heap.get?_push_size _ rfl,rfl,rfl⟩
    ·exact oF.push _
    ·exact Heap.get?_push_of_some _ hS
    intro h' yd cU oH e7 k' gZ k6
    show wpAny _ _ _ _ _ _;refine wpAny_pure ?_
    show wpAny _ _ (ret Value.none) _ _ _;refine wpAny_pure ⟨rfl,h',yd,rfl,⟨cU,e7,oH,gZ,k6⟩,λb o hb e=>?_⟩;exact k' b o (Nat.ne_of_lt hb) (by rw[hz];exact Nat.ne_of_lt (Nat.lt_succ_of_lt hb)) (Heap.get?_push_of_some _ (Heap.get?_push_of_some _ e))
   ·cases x6 with
    | error e=>exact kY
    | ok yf =>
     cases yf with
     | ret r =>
      obtain⟨rfl,h',tk,rfl,⟨cU,e7,oH,gZ,k6⟩,jd⟩:=kY
      repeat (any_goals (first | assumption | wp_step))
      exact h _ _ _ _ _ gZ k6 jd
     | _=>exact kY.elim
  | _=>exact hr.elim
end
section
variable{X:Cx}{e:Expr}{tl:TE}{p1 p2 p3 p4:Pos}
noncomputable def Ow(K:PySem.W.Frag)(tl:TE):TE:=λσ H Q=>tl σ H λx H1=>∃(l:Addr) (ms:List Int),x = .ref l/\aK K H1 l (ms.map V.int)/\ms.length<=60/\
 ∀(L:Addr) (ns:List Int),H1 L=none->ns.Nodup->(∀n,n∈ns↔n∈ms)->ns.length<=ms.length->ns.Pairwise (·<=·)->Q (.ref L) (upd H1 L (.lst (ns.map V.int)))
theorem Ox(yh:Gl X "sorted")(yi:X.mg "sorted" = none)(yj:Gl X "set")(yl:X.mg "set" = none)(hc:X.calm=true)(hl:PE X e tl)
  (hs:starEach [e] X.env = [(false,eval e X.env)]:=by rfl) (oJ:starEach [.Call (.Name "set" p2) [e] [] p3] X.env = [(false,eval (.Call (.Name "set" p2) [e] [] p3) X.env)]:=by rfl) :
  PE X (.Call (.Name "sorted" p1) [.Call (.Name "set" p2) [e] [] p3] [] p4) (Ow X.K tl):=by
 intro pins s σ H Q I h;refine wpAny_Call_Name_kw (iU I yh yi boot_sorted (PyProof.Rows.callWith_builtin1 ?_ (by rw[oJ];rfl) (by rfl)))
 rw[oJ];refine Calls.spliced_cons ?_
 let R:List V->Hp->Prop:=λvs H1=>match vs with
  | [x]=>∃(l:Addr) (ms:List Int),x = .ref l/\aK X.K H1 l (ms.map V.int)/\ms.length<=60/\
   ∀(L:Addr) (ns:List Int),H1 L=none->ns.Nodup->(∀n,n∈ns↔n∈ms)->ns.length<=ms.length->ns.Pairwise (·<=·)->Q (.ref L) (upd H1 L (.lst (ns.map V.int)))
  | _=>False
 have h':qx tl nA σ H R:=h;refine Call_ (iU I yj yl (show bootBuiltins "set" = some (.type "set") by decide +kernel) (PyProof.Rows.callWith_type1 (aL ((aa hl ak (hs:=hs)) p3 pins s σ H R I h') λus s1 ⟨vs,H1,I1,r1,q1⟩=>?_) (by rw[hs];rfl) (by rfl)))
 cases r1 with
 | nil=>exact q1.elim
 | cons ru r1 =>
 cases r1 with
 | cons _ _=>exact q1.elim
 | nil =>
 obtain⟨l,ms,rfl,hq,dU,q⟩:=q1;cases ru;obtain⟨aB,rv,pl,_⟩:=I1.tuple hq;obtain⟨xs,rfl,rfl⟩:=yg rv;have hh:=I1.ok.hd hc;have ym:xs.length<=60:=by simpa using dU
 refine Ov hh ym pl λh2 t2 es ep tb jg cN k2=>Calls.spliced_nil ?_;have yp:∀b o,s1.heap.get? b=some o->h2.get? b=some o:=λb o e=>k2 b o (Heap.lt_size e) e;refine DP (s:={ s1 with heap:=h2,toks:=t2 }) hh dU cN jg λL h3 t3 out cZ e' hL gJ k3 a1 a2 a3 a4 a5=>?_;have bC:s1.heap.objs.size<=L:=Nat.le_trans (Nat.le_of_lt (Heap.lt_size jg)) hL;have jc:H1 L=none:=I1.aG.fresh bC;refine⟨.ref L,upd H1 L (.lst (cZ.map V.int)),I1.laid (t':=t3) (λb o q=>k3 b o (yp b o q)) bC ?_,rfl,q L cZ jc a2 a3 a4 a5⟩;refine⟨?_,out.toList,e',qH a1,by simpa using gJ⟩
 rw[List.length_map];rw[sizeLine_eq];lia
end
noncomputable def Sh(ws:List Str):Prop:=ws.length<=60/\∀w∈ws,w.length<=20000
noncomputable def mC(z:Str):Prop:=z.length<=20000/\(Txt.split z blank).length<=60
structure Wd(C:Addr)(H:Hp)(p dx l:Addr)(rest:List Str):Prop where
 ex:∃ws k,k<=ws.length/\iK C H p dx l ws k/\ws.drop k=rest/\Sh ws
theorem Wd.same{C:Addr}{H H':Hp}{p dx l:Addr}{rest:List Str}(h:Wd C H p dx l rest)(s:ah H H'):Wd C H' p dx l rest:=by
 obtain⟨ws,k,a,b,c,d⟩:=h.ex;exact⟨ws,k,a,b.same s,c,d⟩
theorem Wd.o{C:Addr}{H:Hp}{p dx l:Addr}{rest:List Str}(h:Wd C H p dx l rest):∃k:Nat,H p=some (.ins C dx [("words",.ref l),("passed",.int (k:Int))]):=by
 obtain⟨ws,k,a,b,c,d⟩:=h.ex;exact⟨k,b.o⟩
theorem Wd.at{C:Addr}{H:Hp}{p dx l:Addr}{rest:List Str}(h:Wd C H p dx l rest):∃o,H p=some o:=let ⟨_,e⟩:=h.o;⟨_,e⟩
noncomputable def cQ:List Str->V
 | []=>.aF
 | w::_=>.str w
noncomputable def iM:List Str->Bool
 | []=>false
 | w::_=>isNum w
noncomputable def g7(w:Str):List Str->Option (List Str)
 | []=>none
 | x::r=>if x=w then some r else none
noncomputable def pNum:List Str->Option (Int×List Str)
 | []=>none
 | w::r=>if isNum w=true then some (nv w,r) else none
noncomputable def cA(w:Str)(l:List Str):Option (Int×List Str):=(g7 w l).bind pNum
noncomputable def aR:List Str->List Int
 | []=>[]
 | w::r=>if isNum w=true then nv w::aR r else []
noncomputable def iN(l:List Str):Option (Int×List Str):=if cQ l = .str (Str.ofString "for") then cA (Str.ofString "for") l else some (0,l)
noncomputable def jj(l:List Str):Option (Option Int×List Str):=if cQ l = .str (Str.ofString "by") then(cA (Str.ofString "by") l).map λx=>(some x.1,x.2) else some (none,l)
noncomputable def jk(l:List Str):Option (List Int×List Str):=if cQ l = .str (Str.ofString "behind") then(if aR (l.drop 1) = [] then none else some (aR (l.drop 1),(l.drop 1).drop (aR (l.drop 1)).length)) else some ([],l)
noncomputable def dI(l:List Str):Option (Int×Option Int×List Int):=(iN l).bind λx=>(jj x.2).bind λy=>(jk y.2).bind λz=>if z.2 = [] then some (x.1,y.1,z.1) else none
noncomputable def bT(l:List Str):Option (Int×Int×Option Int×List Int):=(cA (Str.ofString "at") l).bind λx=>(dI x.2).map λy=>(x.1,y)
noncomputable def g8(l:List Str):Option Ak:=(cA (Str.ofString "read") l).bind λx=>(pNum x.2).bind λy=>(bT y.2).map λz=>⟨Str.ofString "read",x.1,y.1,[],z.1,z.2.1,z.2.2.1,z.2.2.2,false⟩
noncomputable def fX(e:Bool)(l:List Str):Option Ak:=(cA (if e=true then Str.ofString "early" else Str.ofString "write") l).bind λx=>if aR x.2 = [] then none else(bT (x.2.drop (aR x.2).length)).map λz=>⟨Str.ofString "write",x.1,(aR x.2).length,aR x.2,z.1,z.2.1,z.2.2.1,z.2.2.2,e⟩
noncomputable def g9(l:List Str):Option Ak:=(g7 (Str.ofString "rest") l).bind λr=>(cA (Str.ofString "at") r).bind λx=>if x.2 = [] then some ⟨Str.ofString "rest",0,0,[],x.1,0,none,[],false⟩ else none
noncomputable def cB(l:List Str):Option Ak:=if cQ l = .str (Str.ofString "read") then g8 l else if cQ l = .str (Str.ofString "write") then fX false l else if cQ l = .str (Str.ofString "early") then fX true l else g9 l
noncomputable def eE(q:Ak):Prop:=(q.kind=Str.ofString "rest"->0<=q.at_/\q.at_<=1000000000000)/\(q.kind≠Str.ofString "rest"->fU q.first q.many q.at_ q.cO q.eV/\cP q.behind/\∀x∈q.marks,0<=x/\x<=1000000000)
noncomputable def Oz:Sp:=λvs H Q _=>∃(w:Str),vs = [.str w]/\w.length<=20000/\∀H',ah H H'->Q (.bl (isNum w)) H'
noncomputable def OA(C:Addr):Sp:=λvs H Q _=>∃(p dx:Addr) (z:Str),vs = [.ref p,.str z]/\H p=some (.ins C dx [])/\mC z/\∀l H',SameBut p H H'->H l=none->Wd C H' p dx l (Txt.split z blank)->Q .aF H'
noncomputable def OB(C:Addr):Sp:=λvs H Q _=>∃(p dx l:Addr) (r:List Str),vs = [.ref p]/\Wd C H p dx l r/\Q (cQ r) H
noncomputable def OC(C:Addr):Sp:=λvs H Q _=>∃(p dx l:Addr) (r:List Str),vs = [.ref p]/\Wd C H p dx l r/\∀H',ah H H'->Q (.bl (iM r)) H'
noncomputable def OD(C X:Addr):Sp:=λvs H Q E=>∃(p dx l:Addr) (r:List Str) (w:Str),vs = [.ref p,.str w]/\Wd C H p dx l r/\(∀r',g7 w r=some r'->∀H',SameBut p H H'->Wd C H' p dx l r'->Q .aF H')/\(g7 w r=none->E (.ref X) none H)
noncomputable def OE(C X:Addr):Sp:=λvs H Q E=>∃(p dx l:Addr) (r:List Str),vs = [.ref p]/\Wd C H p dx l r/\(∀n r',pNum r=some (n,r')->∀H',SameBut p H H'->Wd C H' p dx l r'->Q (.int n) H')/\(pNum r=none->∀H',SameBut p H H'->E (.ref X) none H')
noncomputable def OF(C X:Addr):Sp:=λvs H Q E=>∃(p dx l:Addr) (r:List Str),vs = [.ref p]/\Wd C H p dx l r/\(aR r≠[]->∀a H',SameBut p H H'->H a=none->Wd C H' p dx l (r.drop (aR r).length)->H' a=some (.lst ((aR r).map V.int))->Q (.ref a) H')/\(aR r = []->∀H',SameBut p H H'->E (.ref X) none H')
noncomputable def OG(C X:Addr):Sp:=λvs H Q E=>∃(p dx l:Addr) (r:List Str) (w:Str),vs = [.ref p,.str w]/\Wd C H p dx l r/\(∀n r',cA w r=some (n,r')->∀H',SameBut p H H'->Wd C H' p dx l r'->Q (.int n) H')/\(cA w r=none->∀H',SameBut p H H'->E (.ref X) none H')
noncomputable def OH(C X:Addr):Sp:=λvs H Q E=>∃(p dx l:Addr) (r:List Str),vs = [.ref p]/\Wd C H p dx l r/\(r = []->Q .aF H)/\(r≠[]->E (.ref X) none H)
noncomputable def OI(K:PySem.W.Frag)(C X:Addr):Sp:=λvs H Q E=>∃(p dx l:Addr) (r:List Str),vs = [.ref p]/\Wd C H p dx l r/\
 (∀a la bh,dI r=some (a,la,bh)->∀t bv H',SameBut p H H'->(∃o,H' p=some o)->H' t=some (.tup [.int a,b_ la,bv])->nX K H' bv bh->Q (.ref t) H')/\(dI r=none->∀H',SameBut p H H'->E (.ref X) none H')
noncomputable def Ex(K:PySem.W.Frag)(CW CA XL XA:Addr)(f:List Str->Option Ak):Sp:=λvs H Q E=>∃(p dx l:Addr) (r:List Str),vs = [.ref p]/\Wd CW H p dx l r/\
 (∀q,f r=some q->eE q->∀o mk b dJ H',SameBut p H H'->H o=none->gm K CA H' o q mk b dJ->Q (.ref o) H')/\(∀q,f r=some q->¬ eE q->∀H',SameBut p H H'->E (.ref XA) none H')/\(f r=none->∀H',SameBut p H H'->E (.ref XL) none H')
noncomputable def OJ(K:PySem.W.Frag)(CW CA XL XA:Addr):Sp:=λvs H Q E=>∃(p dx l:Addr) (r:List Str) (e:Bool),vs = [.ref p,.bl e]/\Wd CW H p dx l r/\
 (∀q,fX e r=some q->eE q->∀o mk b dJ H',SameBut p H H'->H o=none->gm K CA H' o q mk b dJ->Q (.ref o) H')/\(∀q,fX e r=some q->¬ eE q->∀H',SameBut p H H'->E (.ref XA) none H')/\(fX e r=none->∀H',SameBut p H H'->E (.ref XL) none H')
noncomputable def OL(K:PySem.W.Frag)(CA XL XA:Addr):Sp:=λvs H Q E=>∃(z:Str),vs = [.str z]/\mC z/\
 (∀q,cB (Txt.split z blank)=some q->eE q->∀o mk b dJ H',ah H H'->H o=none->gm K CA H' o q mk b dJ->Q (.ref o) H')/\(∀q,cB (Txt.split z blank)=some q->¬ eE q->∀H',ah H H'->E (.ref XA) none H')/\(cB (Txt.split z blank)=none->∀H',ah H H'->E (.ref XL) none H')
theorem OM{ws r:List Str}{k:Nat}(hk:k<=ws.length)(h:ws.drop k=r):oK ws k=cQ r:=by
 rw[NY,h];cases r <;> rfl
theorem Wd.step{C:Addr}{H':Hp}{p dx l:Addr}{ws:List Str}{k:Nat}{x:Str}{r:List Str}(h:iK C H' p dx l ws (k+1))(d:ws.drop k=x::r)(sh:Sh ws):Wd C H' p dx l r :=
 let ⟨_,e2,e3⟩:=Ef d
 ⟨ws,k+1,e3,h,e2,sh⟩
theorem ON{w:Str}{r r':List Str}(h:g7 w r=some r'):r=w::r':=by
 cases r with
 | nil=>cases h
 | cons x r =>
  have h:(if x=w then some r else none)=some r':=h
  by_cases e:x=w
  ·rw[if_pos e] at h;cases h;rw[e]
  ·rw[if_neg e] at h;cases h
theorem Ey{w:Str}{r:List Str}(h:cQ r≠.str w):g7 w r=none:=by
 cases r with
 | nil=>rfl
 | cons x r=>exact if_neg λz=>h (by rw[← z];rfl)
theorem yx{w:Str}{r:List Str}(h:cQ r = .str w):∃r',r=w::r'/\g7 w r=some r':=by
 cases r with
 | nil=>cases h
 | cons x r =>
  have e:x=w:=V.str.inj h;subst e;exact⟨r,rfl,if_pos rfl⟩
theorem rE{r:List Str}(h:iM r=true):∃w r',r=w::r'/\isNum w=true/\pNum r=some (nv w,r'):=by
 cases r with
 | nil=>cases h
 | cons w r=>exact⟨w,r,rfl,h,if_pos h⟩
theorem Ez{r:List Str}(h:iM r=false):pNum r=none:=by
 cases r with
 | nil=>rfl
 | cons w r=>exact if_neg (by rw[show isNum w=false from h];decide)
theorem EA{r:List Str}(h:iM r=false):aR r = []:=by
 cases r with
 | nil=>rfl
 | cons w r=>exact if_neg (by rw[show isNum w=false from h];decide)
theorem OO{r:List Str}{w:Str}{r':List Str}(e:r=w::r')(h:isNum w=true):aR r=nv w::aR r':=by
 subst e;exact if_pos h
theorem oO:∀r:List Str,(aR r).length<=r.length
 | []=>Nat.le_refl _
 | w::r=>by
  unfold aR;split
  ·have:=oO r;simp;lia
  ·simp
theorem Wd.len{C:Addr}{H:Hp}{p dx l:Addr}{rest:List Str}(h:Wd C H p dx l rest):rest.length<=60:=by
 obtain⟨ws,k,a,b,c,d⟩:=h.ex;rw[← c,List.length_drop];have:=d.1;lia
theorem k7{r r':List Str}{n:Int}(h:pNum r=some (n,r')):iM r=true/\aR r=n::aR r'/\r.length=r'.length+1/\r.drop 1=r'/\0<=n:=by
 cases r with
 | nil=>cases h
 | cons w r =>
  have h:(if isNum w=true then some (nv w,r) else none)=some (n,r'):=h
  by_cases e:isNum w=true
  ·rw[if_pos e] at h;cases h;exact⟨e,if_pos e,rfl,rfl,by unfold nv;lia⟩
  ·rw[if_neg e] at h;cases h
theorem EB{r:List Str}(h:pNum r=none):iM r=false/\aR r = []:=by
 cases e:iM r with
 | false=>exact⟨rfl,EA e⟩
 | true =>
  obtain⟨w,r',e1,e2,e3⟩:=rE e;rw[h] at e3;cases e3
theorem jl(r:List Str)(w:Str):gR (cQ r) (.str w)=true:=by cases r <;> rfl
theorem EC:∀ {ws:List Str} {w:Str},w∈ws->w.length<=(blank.join ws).length
 | [v],w,h=>by
  rw[join_one,List.mem_singleton.mp h];exact Nat.le_refl _
 | v::v2::r,w,h=>by
  rw[join_cons_cons,cS,cS,jX,jX,List.length_append,List.length_append];rcases List.mem_cons.mp h with rfl | h
  ·lia
  ·have:=EC h;rw[cS,cS] at this;lia
theorem ED{z:Str}(h:mC z):Sh (Txt.split z blank):=⟨h.2,λw hw=>by
 have e:=StrLaws.join_split z blank;have:=EC hw;rw[e] at this;have:=h.1;lia⟩
noncomputable def OP:Sp:=λvs H Q _=>∃(c:Int),vs = [.int c]/\∀t m b q H',ah H H'->H t=none->jZ H' t q m b->dW q->q.behind.length<=9->Q (.ref t) H'
noncomputable def nb(z:Str):Nat:=z.cps.toList.count 32
theorem k8(x y:Str):nb (x++y)=nb x+nb y:=by unfold nb;rw[jX,List.count_append]
theorem EE{w:Str}(h:32∉w.cps.toList):nb w=0:=List.count_eq_zero.mpr h
theorem OQ:nb blank=1:=by decide
theorem rF:∀ {ws:List Str},dc ws->nb (blank.join ws)=ws.length - 1
 | [],_=>by rw[show blank.join [] = Str.empty from rfl];decide
 | [v],h=>by rw[join_one,EE (h v (by simp))];rfl
 | v::v2::r,h=>by
  rw[join_cons_cons,k8,k8,OQ,EE (h v (by simp)),rF (ws:=v2::r) λw hw=>h w (List.mem_cons_of_mem _ hw)]
  simp;lia
theorem yy(z:Str):Txt.split z blank≠[]:=λe=>by
 have:=split_pos z blank;rw[e] at this;simp at this
theorem EF(z:Str):dc (Txt.split z blank):=λp hp=>StrLaws.split_free z 32 p (by have e:blank=⟨#[32]⟩:=(by decide);rw[← e];exact hp)
theorem EG(z:Str):blank.join (Txt.split z blank)=z:=StrLaws.join_split z blank
theorem yz(z:Str):(Txt.split z blank).length=nb z+1:=by
 have h:=rF (EF z);rw[EG] at h;have:=List.length_pos_iff.mpr (yy z);lia
noncomputable def bL(ws:List Str):Nat:=(ws.map λw=>w.length+1).sum
theorem g_(a b:List Str):bL (a++b)=bL a+bL b:=by unfold bL;rw[List.map_append,List.sum_append]
theorem yC:∀ws:List Str,(blank.join ws).length<=bL ws
 | []=>by rw[show blank.join [] = Str.empty from rfl];decide
 | [v]=>by rw[join_one];unfold bL;simp
 | v::v2::r=>by
  have:=yC (v2::r);rw[join_cons_cons,cS,jX,jX,List.length_append,List.length_append,D6,← cS,← cS];have e:bL (v::v2::r)=v.length+1+bL (v2::r):=rfl;rw[e];simp;lia
theorem EH(z:Str):bL (Txt.split z blank)<=z.length+1:=by
 have h:∀ws:List Str,ws≠[]->bL ws=(blank.join ws).length+1:=by
  intro ws
  induction ws with
  | nil=>exact λz=>absurd rfl z
  | cons v r ih =>
   intro _;cases r with
   | nil=>rw[join_one];unfold bL;simp
   | cons v2 r =>
    have:=ih (List.cons_ne_nil _ _);rw[join_cons_cons,cS,jX,jX,List.length_append,List.length_append,D6,← cS,← cS];have e:bL (v::v2::r)=v.length+1+bL (v2::r):=rfl;rw[e,this];simp;lia
 rw[h _ (yy z),EG];exact Nat.le_refl _
theorem rG(ws:List Str)(k:Nat):bL (ws.take k)+bL (ws.drop k)=bL ws:=by rw[← g_,List.take_append_drop]
theorem rH(ws:List Str)(k:Nat):bL (ws.drop k)<=bL ws:=by have:=rG ws k;lia
theorem mD(ws:List Str)(k:Nat):bL (ws.take k)<=bL ws:=by have:=rG ws k;lia
theorem EI:∀ws:List Str,bL ws.reverse=bL ws
 | []=>rfl
 | w::r=>by
  rw[List.reverse_cons,g_,EI r];have e:bL (w::r)=w.length+1+bL r:=rfl;have e2:bL [w] = w.length+1:=rfl;lia
structure Ch(ws aI:List Str):Prop where
 fr:dc aI
 len:aI.length<=ws.length+1
 sum:bL aI<=2*bL ws+25
theorem Ch.refl{ws:List Str}(h:dc ws):Ch ws ws:=⟨h,by lia,by lia⟩
theorem dc.app{a b:List Str}(h:dc a)(g:dc b):dc (a++b):=λw hw=>(List.mem_append.mp hw).elim (h w) (g w)
theorem dc.take{a:List Str}(h:dc a)(k:Nat):dc (a.take k):=λw hw=>h w (List.mem_of_mem_take hw)
theorem dc.drop{a:List Str}(h:dc a)(k:Nat):dc (a.drop k):=λw hw=>h w (List.mem_of_mem_drop hw)
theorem dc.one{o:Str}(h:32∉o.cps.toList):dc [o]:=λw hw=>by rw[List.mem_singleton.mp hw];exact h
structure Wo(o:Str):Prop where
 fr:32∉o.cps.toList
 len:o.length<=20
noncomputable def OR:Sp:=λvs H Q _=>∃(a:Addr) (xs:List Int),vs = [.ref a]/\H a=some (.lst (xs.map V.int))/\Ek xs 5/\∀o H',ah H H'->Wo o->Q (.str o) H'
noncomputable def OS:Sp:=λvs H Q _=>∃(z:Str) (c:Int),vs = [.str z,.int c]/\z.length<=5000/\nb z<=50/\∀z' H',ah H H'->z'.length<=2*z.length+40->nb z'<=nb z+1->Q (.str z') H'
noncomputable def jm(ws:List Str)(k:Nat):Option Int:=(pNum (ws.drop k)).map (·.1)
noncomputable def OT:Sp:=λvs H Q _=>∃(l:Addr) (ws:List Str) (k:Nat),vs = [.ref l,.int (k:Int)]/\H l=some (.lst (ws.map V.str))/\Sh ws/\∀H',ah H H'->Q (b_ (jm ws k)) H'
noncomputable def OU:Sp:=λvs H Q _=>∃(l:Addr) (ws:List Str) (k:Nat),vs = [.ref l,.int (k:Int)]/\H l=some (.lst (ws.map V.str))/\Sh ws/\∀r H',ah H H'->H r=none->H' r=some (.lst ((aR (ws.drop k)).map V.int))->Q (.ref r) H'
noncomputable def EJ:Sp:=λvs H Q _=>∃(l:Addr) (ws:List Str) (k:Nat),vs = [.ref l,.int (k:Int)]/\H l=some (.lst (ws.map V.str))/\Sh ws/\k<=ws.length/\
 (bT (ws.drop k)=none->∀H',ah H H'->Q .aF H')/\(∀a s la bh,bT (ws.drop k)=some (a,s,la,bh)->∀t bt H',ah H H'->H' t=some (.tup [.int a,.int s,b_ la,.ref bt])->H' bt=some (.tup (bh.map V.int))->Q (.ref t) H')
noncomputable def OV:Sp:=λvs H Q _=>∃(z:Str),vs = [.str z]/\mC z/\(cB (Txt.split z blank)=none->∀H',ah H H'->Q .aF H')/\(∀q,cB (Txt.split z blank)=some q->∀t m b H',ah H H'->jZ H' t q m b->Q (.ref t) H')
inductive j0:Ak->Prop
 | rd (f m a s:Int) (l:Option Int) (ns:List Int):0<=f->0<=m->0<=a->0<=s->(∀x,l=some x->0<=x)->(∀x∈ns,0<=x)->ns.length<=60->j0 ⟨Str.ofString "read",f,m,[],a,s,l,ns,false⟩
 | wr (f a s:Int) (ms:List Int) (l:Option Int) (ns:List Int) (e:Bool):0<=f->0<=a->0<=s->(∀x,l=some x->0<=x)->(∀x∈ns,0<=x)->ns.length<=60->(∀x∈ms,0<=x)->ms.length<=60->j0 ⟨Str.ofString "write",f,ms.length,ms,a,s,l,ns,e⟩
 | rs (a:Int):0<=a->j0 ⟨Str.ofString "rest",0,0,[],a,0,none,[],false⟩
open Classical in
noncomputable def OW:Sp:=λvs H Q _=>∃(t m b:Addr) (q:Ak),vs = [.ref t]/\jZ H t q m b/\j0 q/\(eE q->∀H',ah H H'->Q (.bl true) H')/\(¬ eE q->∀H',ah H H'->Q (.bl false) H')
noncomputable def OX(K:PySem.W.Frag)(CA:Addr):Sp:=λvs H Q _=>∃(z:Str),vs = [.str z]/\mC z/\
 (cB (Txt.split z blank)=none->∀r H',ah H H'->H' r=some (.lst ([0,6].map V.int))->Q (.ref r) H')/\(∀q,cB (Txt.split z blank)=some q->¬ eE q->∀r H',ah H H'->H' r=some (.lst ([1,6].map V.int))->Q (.ref r) H')/\
 (∀q,cB (Txt.split z blank)=some q->eE q->∀r o mk b dx H',ah H H'->H' r=some (.lst [.ref o])->gm K CA H' o q mk b dx->Q (.ref r) H')
theorem oR:∀(r:List Str),∀x∈aR r,0<=x
 | [],x,h=>nomatch h
 | w::r,x,h=>by
  unfold aR at h;split at h
  ·rcases List.mem_cons.mp h with rfl | h
   ·unfold nv;lia
   ·exact oR r x h
  ·cases h
theorem mF{w:Str}{r r':List Str}{n:Int}(h:cA w r=some (n,r')):0<=n/\r'.length+2=r.length/\∃r1,r=w::r1/\pNum r1=some (n,r'):=by
 unfold cA at h;cases e:g7 w r with
 | none=>rw[e] at h;cases h
 | some r1 =>
  rw[e] at h;have h:pNum r1=some (n,r'):=h;obtain⟨a1,a2,a3,a4,a5⟩:=k7 h;have e2:=ON e;exact⟨a5,by rw[e2];simp;lia,r1,e2,h⟩
theorem OY{r r':List Str}{n:Int}(h:iN r=some (n,r')):0<=n/\r'.length<=r.length:=by
 unfold iN at h;split at h
 ·obtain⟨a,b,_⟩:=mF h;exact⟨a,by lia⟩
 ·cases h;exact⟨by decide,Nat.le_refl _⟩
theorem OZ{r r':List Str}{n:Option Int}(h:jj r=some (n,r')):(∀x,n=some x->0<=x)/\r'.length<=r.length:=by
 unfold jj at h;split at h
 ·cases e:cA (Str.ofString "by") r with
  | none=>rw[e] at h;cases h
  | some y =>
   obtain⟨y1,y2⟩:=y;rw[e] at h;obtain⟨a,b,_⟩:=mF e;cases h;refine⟨λx z=>?_,?_⟩
   ·cases z;exact a
   ·show y2.length<=r.length;lia
 ·cases h;exact⟨(λx z=>nomatch z),Nat.le_refl _⟩
theorem O0{r r':List Str}{n:List Int}(h:jk r=some (n,r')):(∀x∈n,0<=x)/\n.length<=r.length:=by
 unfold jk at h;split at h
 ·split at h
  ·cases h
  ·cases h;refine⟨oR _,?_⟩;have:=oO (r.drop 1);rw[List.length_drop] at this;lia
 ·cases h;exact⟨(λx hx=>nomatch hx),by simp⟩
theorem O1{r:List Str}{a:Int}{la:Option Int}{bh:List Int}(h:dI r=some (a,la,bh)):0<=a/\(∀x,la=some x->0<=x)/\(∀x∈bh,0<=x)/\bh.length<=r.length:=by
 unfold dI at h;cases e1:iN r with
 | none=>rw[e1] at h;cases h
 | some x =>
  obtain⟨x1,x2⟩:=x;rw[e1,Option.bind_some] at h;cases e2:jj x2 with
  | none=>rw[e2] at h;cases h
  | some y =>
   obtain⟨y1,y2⟩:=y;rw[e2,Option.bind_some] at h;cases e3:jk y2 with
   | none=>rw[e3] at h;cases h
   | some z =>
    obtain⟨z1,z2⟩:=z;rw[e3,Option.bind_some] at h;split at h
    ·cases h;obtain⟨a1,a2⟩:=OY e1;obtain⟨b1,b2⟩:=OZ e2;obtain⟨c1,c2⟩:=O0 e3;exact⟨a1,b1,c1,(show z1.length<=r.length by lia)⟩
    ·cases h
theorem EK{r:List Str}{a s:Int}{la:Option Int}{bh:List Int}(h:bT r=some (a,s,la,bh)):0<=a/\0<=s/\(∀x,la=some x->0<=x)/\(∀x∈bh,0<=x)/\bh.length<=r.length:=by
 unfold bT at h;cases e1:cA (Str.ofString "at") r with
 | none=>rw[e1] at h;cases h
 | some x =>
  obtain⟨x1,x2⟩:=x;rw[e1,Option.bind_some] at h;cases e2:dI x2 with
  | none=>rw[e2] at h;cases h
  | some y =>
   obtain⟨y1,y2,y3⟩:=y;rw[e2] at h;cases h;obtain⟨a1,a2,_⟩:=mF e1;obtain⟨b1,b2,b3,b4⟩:=O1 e2;exact⟨a1,b1,b2,b3,by lia⟩
theorem O2{ws:List Str}{k:Nat}(h:ws.length<=k):jm ws k=none:=by
 unfold jm;rw[List.drop_eq_nil_of_le h];rfl
theorem O3{ws:List Str}{k:Nat}{w:Str}(h:ws[k]? = some w):jm ws k=if isNum w=true then some (nv w) else none:=by
 unfold jm;have hk:=(List.getElem?_eq_some_iff.mp h).1;have e:ws.drop k=w::ws.drop (k+1):=by
  rw[List.drop_eq_getElem_cons hk];have:=(List.getElem?_eq_some_iff.mp h).2;rw[this]
 rw[e]
 show Option.map _ (if isNum w=true then some (nv w,ws.drop (k+1)) else none)=_
 split <;> rfl
theorem O4{w:Str}(h:¬ w=Str.ofString ""):1<=w.length:=by
 rcases Nat.eq_zero_or_pos w.length with z | z
 ·refine absurd (D7 ?_) h;rw[cS] at z;rw[List.length_eq_zero_iff.mp z];decide
 ·exact z
theorem O5{w:Str}{c:Nat}(h:c∈w.cps.toList)(hc:¬ (48<=c/\c<=57)):isNum w=false:=by
 unfold isNum;have:(w.cps.toList.all λc=>decide (48<=c/\c<=57))=false:=by
  rw[List.all_eq_false];exact⟨c,h,by simpa using hc⟩
 rw[this,Bool.and_false]
theorem EL{w:Str}(h1:1<=w.length)(h2:w.length<=15)(h3:∀c∈w.cps.toList,48<=c/\c<=57)(h4:¬ (1<w.length/\w.cps[0]? = some 48)):isNum w=true:=by
 rw[Ec h1 h2 λe=>?_]
 ·rw[List.all_eq_true];exact λc hc=>decide_eq_true (h3 c hc)
 ·have l1:w.length=1:=by
   rcases Nat.lt_or_ge 1 w.length with z | z
   ·exact absurd ⟨z,e⟩ h4
   ·lia
  refine D7 ?_;rw[cS] at l1;obtain⟨c,hc⟩:=List.length_eq_one_iff.mp l1;rw[← Array.getElem?_toList,hc] at e;have:c=48:=by simpa using e
  rw[hc,this];decide
theorem O6{w:Str}(h1:1<w.length)(h2:w.cps[0]? = some 48):isNum w=false:=Eb h2 λz=>by
 rw[z] at h1;exact absurd h1 (by decide)
noncomputable def h_(c:Nat):Bool := !decide (48<=c/\c<=57)
theorem EM{ws:List Str}{k:Nat}{j:Int}(h:k<=ws.length)(hj:j=(k:Int)+1):cW (ws.map V.str) (some (k:Int)) (some j)=((ws.drop k).take 1).map V.str:=by
 subst hj;unfold cW;rw[_H.jN,show ((k:Int)+1)=((k+1:Nat):Int) by lia,_H.jN,List.length_map,← List.map_drop,← List.map_take,Nat.min_eq_left h]
 congr 1;rcases Nat.lt_or_ge k ws.length with z | z
 ·rw[Nat.min_eq_left (show k+1<=ws.length by lia),show k+1 - k=1 by lia]
 ·rw[List.drop_eq_nil_of_le z];simp
theorem rJ{r:List Str}{w:Str}:(r.take 1).map V.str = [V.str w]↔cQ r = .str w:=by
 cases r with
 | nil=>exact⟨(λz=>nomatch z),(λz=>nomatch z)⟩
 | cons x r=>exact⟨λz=>by simpa[cQ] using z,λz=>by simpa[cQ] using z⟩
noncomputable def gq:List Str:=[Str.ofString "at",Str.ofString "for",Str.ofString "by"]
noncomputable def mG(r:List Str)(a:Int)(r1:List Str):Prop:=cA (Str.ofString "at") r=some (a,r1)\/(a = -1/\cA (Str.ofString "at") r=none)
noncomputable def gr(r:List Str):Nat->List V->List Str->Prop
 | 0,fs,rest=>fs = []/\rest=r
 | 1,fs,rest=>∃a,fs = [.int a]/\mG r a rest
 | 2,fs,rest=>∃a r1 s,fs = [.int a,.int s]/\mG r a r1/\iN r1=some (s,rest)
 | 3,fs,rest=>∃a r1 s r2 la,fs = [.int a,.int s,b_ la]/\mG r a r1/\iN r1=some (s,r2)/\jj r2=some (la,rest)
 | _,_,_=>False
theorem mG.no{r:List Str}{a:Int}{r1:List Str}(h:mG r a r1)(g:dI r1=none):bT r=none:=by
 unfold bT;rcases h with h | ⟨_,h⟩
 ·rw[h,Option.bind_some,g];rfl
 ·rw[h];rfl
theorem gr.len{r:List Str}{i:Nat}{fs:List V}{rest:List Str}(h:gr r i fs rest):fs.length=i:=by
 match i,h with
 | 0,⟨e,_⟩=>rw[e];rfl
 | 1,⟨a,e,_⟩=>rw[e];rfl
 | 2,⟨a,r1,s,e,_⟩=>rw[e];rfl
 | 3,⟨a,r1,s,r2,la,e,_⟩=>rw[e];rfl
theorem gr.num{r:List Str}{i:Nat}{fs:List V}{rest EN:List Str}{w:Str}{n:Int}(h:gr r i fs rest)(hw:gq[i]? = some w)(g:cA w rest=some (n,EN)):gr r (i+1) (fs++[.int n]) EN:=by
 have hd:cQ rest = .str w:=by
  obtain⟨_,_,r1,e,_⟩:=mF g;rw[e];rfl
 match i,h with
 | 0,⟨e,e2⟩=>subst e e2;cases hw;exact⟨n,rfl,.inl g⟩
 | 1,⟨a,e,h3⟩=>subst e;cases hw;exact⟨a,rest,n,rfl,h3,(if_pos hd).trans g⟩
 | 2,⟨a,r1,s,e,h3,h2⟩=>subst e;cases hw;exact⟨a,r1,s,rest,some n,rfl,h3,h2,(if_pos hd).trans (by rw[g];rfl)⟩
 | 3,_=>cases hw
theorem gr.fail{r:List Str}{i:Nat}{fs:List V}{rest:List Str}{w:Str}(h:gr r i fs rest)(hw:gq[i]? = some w)(hd:cQ rest = .str w)(g:cA w rest=none):bT r=none:=by
 match i,h with
 | 0,⟨e,e2⟩=>subst e e2;cases hw;unfold bT;rw[g];rfl
 | 1,⟨a,e,h3⟩=>cases hw;exact h3.no (by unfold dI;rw[show iN rest=none from(if_pos hd).trans g];rfl)
 | 2,⟨a,r1,s,e,h3,h2⟩=>cases hw;exact h3.no (by unfold dI;rw[h2,Option.bind_some,show jj rest=none from(if_pos hd).trans (by rw[g];rfl)];rfl)
 | 3,_=>cases hw
noncomputable def dflt:List V:=[.int (-1),.int 0,.aF]
theorem gr.O7{r:List Str}{i:Nat}{fs:List V}{rest:List Str}{w:Str}(h:gr r i fs rest)(hw:gq[i]? = some w)(hd:cQ rest≠.str w):∃v,c9 dflt (i:Int)=some v/\gr r (i+1) (fs++[v]) rest:=by
 match i,h with
 | 0,⟨e,e2⟩=>subst e e2;cases hw;exact⟨_,rfl,-1,rfl,.inr ⟨rfl,by unfold cA;rw[Ey hd];rfl⟩⟩
 | 1,⟨a,e,h3⟩=>subst e;cases hw;exact⟨_,rfl,a,rest,0,rfl,h3,if_neg hd⟩
 | 2,⟨a,r1,s,e,h3,h2⟩=>subst e;cases hw;exact⟨_,rfl,a,r1,s,rest,none,rfl,h3,h2,if_neg hd⟩
 | 3,_=>cases hw
theorem O8{r r1 r2 r3:List Str}{a s:Int}{la:Option Int}(h:mG r a r1)(h2:iN r1=some (s,r2))(h3:jj r2=some (la,r3)) :
  (jk r3=none->bT r=none)/\∀bh r4,jk r3=some (bh,r4)->(r4≠[]\/a = -1->bT r=none)/\(r4 = []->a≠-1->bT r=some (a,s,la,bh)):=by
 refine⟨λg=>h.no (by unfold dI;rw[h2,Option.bind_some,h3,Option.bind_some,g];rfl),λbh r4 g=>⟨λz=>?_,λz1 z2=>?_⟩⟩
 ·have e:dI r1=if r4 = [] then some (s,la,bh) else none:=by unfold dI;rw[h2,Option.bind_some,h3,Option.bind_some,g,Option.bind_some]
  rcases z with z | z
  ·exact h.no (e.trans (if_neg z))
  ·rcases h with h | ⟨_,h⟩
   ·obtain⟨x,_⟩:=mF h;rw[z] at x;exact absurd x (by decide)
   ·unfold bT;rw[h];rfl
 ·have e:dI r1=some (s,la,bh):=by unfold dI;rw[h2,Option.bind_some,h3,Option.bind_some,g,Option.bind_some];exact if_pos z1
  rcases h with h | ⟨h,_⟩
  ·unfold bT;rw[h,Option.bind_some,e];rfl
  ·exact absurd h z2
theorem EO{i:Nat}{w:Str}(h:gq[i]? = some w):i<16777216:=by
 have:=(List.getElem?_eq_some_iff.mp h).1;have e:gq.length=3:=rfl;lia
theorem O9(r:List Str):cB (Str.ofString "rest" :: r)=g9 (Str.ofString "rest" :: r) :=
 (if_neg (show ¬ V.str (Str.ofString "rest")=V.str (Str.ofString "read") by decide)).trans ((if_neg (show ¬ V.str (Str.ofString "rest")=V.str (Str.ofString "write") by decide)).trans (if_neg (show ¬ V.str (Str.ofString "rest")=V.str (Str.ofString "early") by decide)))
theorem O_(r:List Str):cB (Str.ofString "read" :: r)=g8 (Str.ofString "read" :: r):=if_pos rfl
theorem Pa(r:List Str):cB (Str.ofString "write" :: r)=fX false (Str.ofString "write" :: r) :=
 (if_neg (show ¬ V.str (Str.ofString "write")=V.str (Str.ofString "read") by decide)).trans (if_pos rfl)
theorem Pb(r:List Str):cB (Str.ofString "early" :: r)=fX true (Str.ofString "early" :: r) :=
 (if_neg (show ¬ V.str (Str.ofString "early")=V.str (Str.ofString "read") by decide)).trans ((if_neg (show ¬ V.str (Str.ofString "early")=V.str (Str.ofString "write") by decide)).trans (if_pos rfl))
theorem rK{w:Str}{r:List Str}(h1:w≠Str.ofString "rest")(h2:w≠Str.ofString "read")(h3:w≠Str.ofString "write")(h4:w≠Str.ofString "early"):cB (w::r)=none:=by
 have e:cB (w::r)=g9 (w::r):=(if_neg λz=>h2 (V.str.inj z)).trans ((if_neg λz=>h3 (V.str.inj z)).trans (if_neg λz=>h4 (V.str.inj z)));rw[e];unfold g9;rw[show g7 (Str.ofString "rest") (w::r)=none from if_neg h1];rfl
theorem rL(w:Str)(r:List Str):g7 w (w::r)=some r:=if_pos rfl
noncomputable def Pc(a:Int):Ak:=⟨Str.ofString "rest",0,0,[],a,0,none,[],false⟩
theorem ER(r:List Str):(∀a,r.length=2->r[0]? = some (Str.ofString "at")->(pNum (r.drop 1)).map (·.1)=some a->cB (Str.ofString "rest" :: r)=some (Pc a))/\
  (r.length≠2\/r[0]?≠some (Str.ofString "at")\/(pNum (r.drop 1)).map (·.1)=none->cB (Str.ofString "rest" :: r)=none):=by
 rw[O9];unfold g9;rw[rL,Option.bind_some];constructor
 ·intro a h1 h2 h3
  match r,h1,h2,h3 with
  | [x,y],_,h2,h3 =>
   have hx:x=Str.ofString "at" := by simpa using h2
   subst hx;unfold cA;rw[rL,Option.bind_some];have h3:(pNum [y]).map (·.1)=some a:=h3;cases e:pNum [y] with
   | none=>rw[e] at h3;cases h3
   | some v =>
    obtain⟨v1,v2⟩:=v;rw[e] at h3;have:v1=a:=by simpa using h3
    subst this;obtain⟨_,_,i3,_⟩:=k7 e;have:v2 = []:=List.length_eq_zero_iff.mp (by simpa using i3.symm)
    subst this;rw[Option.bind_some];exact if_pos rfl
 ·intro h;cases e:cA (Str.ofString "at") r with
  | none=>rfl
  | some v =>
   obtain⟨v1,v2⟩:=v;obtain⟨a1,a2,r1,e1,e2⟩:=mF e;rw[Option.bind_some];subst e1;refine if_neg λz=>?_
   have z:v2 = []:=z;subst z;rcases h with h | h | h
   ·exact h a2.symm
   ·exact h rfl
   ·have h:(pNum r1).map (·.1)=none:=h;rw[e2] at h;cases h
theorem Pd{w:Str}{r:List Str}(h:isNum w=true):bT (w::r)=none:=by
 unfold bT cA;rw[show g7 (Str.ofString "at") (w::r)=none from if_neg λz=>by rw[z,N3] at h;cases h];rfl
theorem k9{r:List Str}{n:Int}{l:List Int}(h:aR r=n::l):∃w r',r=w::r'/\isNum w=true/\n=nv w/\aR r' = l/\pNum r=some (n,r'):=by
 cases r with
 | nil=>cases h
 | cons w r =>
  by_cases e:isNum w=true
  ·have h2:aR (w::r)=nv w::aR r:=if_pos e;rw[h2] at h;cases h;exact⟨w,r,rfl,e,rfl,rfl,if_pos e⟩
  ·have h2:aR (w::r) = []:=if_neg e;rw[h2] at h;cases h
theorem yD{r:List Str}(h:aR r = []):pNum r=none:=by
 cases e:iM r with
 | false=>exact Ez e
 | true =>
  obtain⟨w,r',e1,e2,e3⟩:=rE e;rw[OO e1 e2] at h;cases h
theorem oU(r:List Str):(∀f m,aR r = [f,m]->cB (Str.ofString "read" :: r)=(bT (r.drop 2)).map λz=>⟨Str.ofString "read",f,m,[],z.1,z.2.1,z.2.2.1,z.2.2.2,false⟩)/\
  ((aR r).length≠2->cB (Str.ofString "read" :: r)=none):=by
 rw[O_];unfold g8 cA;rw[rL,Option.bind_some];constructor
 ·intro f m h;obtain⟨w,r1,rfl,e1,e2,e3,e4⟩:=k9 h;obtain⟨w2,r2,rfl,f1,f2,f3,f4⟩:=k9 e3;rw[e4,Option.bind_some,f4,Option.bind_some];rfl
 ·intro h;cases e:aR r with
  | nil=>rw[yD e];rfl
  | cons f l =>
   obtain⟨w,r1,rfl,e1,e2,e3,e4⟩:=k9 e;rw[e4,Option.bind_some];cases g:aR r1 with
   | nil=>rw[yD g];rfl
   | cons m l2 =>
    obtain⟨w2,r2,rfl,f1,f2,f3,f4⟩:=k9 g;rw[f4,Option.bind_some];cases l2 with
    | nil =>
     rw[e,← e3,g] at h;exact absurd rfl h
    | cons x l3 =>
     obtain⟨w3,r3,e5,g1,_⟩:=k9 f3
     show Option.map _ (bT r2)=none;rw[e5,Pd g1];rfl
theorem rM(r:List Str)(e:Bool):(∀f ms,aR r=f::ms->ms≠[]->cB ((if e=true then Str.ofString "early" else Str.ofString "write")::r)=(bT (r.drop (ms.length+1))).map λz=>⟨Str.ofString "write",f,ms.length,ms,z.1,z.2.1,z.2.2.1,z.2.2.2,e⟩)/\
  ((aR r).length<2->cB ((if e=true then Str.ofString "early" else Str.ofString "write")::r)=none):=by
 have e0:cB ((if e=true then Str.ofString "early" else Str.ofString "write")::r)=fX e ((if e=true then Str.ofString "early" else Str.ofString "write")::r):=by
  cases e
  ·exact Pa r
  ·exact Pb r
 rw[e0];unfold fX cA;rw[rL,Option.bind_some];constructor
 ·intro f ms h hm;obtain⟨w,r1,rfl,e1,e2,e3,e4⟩:=k9 h;rw[e4,Option.bind_some,e3,if_neg hm];rfl
 ·intro h;cases g:aR r with
  | nil=>rw[yD g];rfl
  | cons f l =>
   obtain⟨w,r1,rfl,e1,e2,e3,e4⟩:=k9 g;rw[e4,Option.bind_some,e3];refine if_pos ?_;rw[g] at h;exact List.length_eq_zero_iff.mp (by simp at h;lia)
theorem ES{ws:List Str}(dU:ws.length<=60){q:Ak}(h:cB ws=some q):j0 q:=by
 cases ws with
 | nil=>cases h
 | cons w r =>
  have ET:r.length<=59:=by simp at dU;lia
  by_cases h1:w=Str.ofString "rest"
  ·subst h1;obtain⟨a1,a2⟩:=ER r;by_cases z:r.length=2/\r[0]? = some (Str.ofString "at")/\∃a,(pNum (r.drop 1)).map (·.1)=some a
   ·obtain⟨z1,z2,a,z3⟩:=z;rw[a1 a z1 z2 z3] at h;cases h;refine .rs a ?_;cases e:pNum (r.drop 1) with
    | none=>rw[e] at z3;cases z3
    | some v =>
     obtain⟨v1,v2⟩:=v;rw[e] at z3;have:v1=a:=by simpa using z3
     obtain⟨_,_,_,_,i5⟩:=k7 e;rw[← this];exact i5
   ·rw[a2 ?_] at h
    ·cases h
    ·by_cases y1:r.length=2
     ·by_cases y2:r[0]? = some (Str.ofString "at")
      ·right;right;cases e:(pNum (r.drop 1)).map (·.1) with
       | none=>rfl
       | some v=>exact absurd ⟨y1,y2,v,e⟩ z
      ·exact .inr (.inl y2)
     ·exact .inl y1
  ·by_cases h2:w=Str.ofString "read"
   ·subst h2;obtain⟨a1,a2⟩:=oU r;have rn:=oR r;by_cases z:(aR r).length=2
    ·match e:aR r,z with
     | [f,m],_ =>
      rw[a1 f m e] at h;rw[e] at rn;cases g:bT (r.drop 2) with
      | none=>rw[g] at h;cases h
      | some v =>
       obtain⟨v1,v2,v3,v4⟩:=v;rw[g] at h;cases h;obtain⟨b1,b2,b3,b4,b5⟩:=EK g;rw[List.length_drop] at b5;exact .rd _ _ _ _ _ _ (rn f (by simp)) (rn m (by simp)) b1 b2 b3 b4 (show v4.length<=60 by lia)
    ·rw[a2 z] at h;cases h
   ·by_cases h3:w=Str.ofString "write"\/w=Str.ofString "early"
    ·have:∃e:Bool,w=if e=true then Str.ofString "early" else Str.ofString "write" := h3.elim (λz=>⟨false,z⟩) λz=>⟨true,z⟩
     obtain⟨e,rfl⟩:=this;obtain⟨a1,a2⟩:=rM r e;have rn:=oR r;have rl:=oO r;by_cases z:(aR r).length<2
     ·rw[a2 z] at h;cases h
     ·cases g0:aR r with
      | nil=>rw[g0] at z;simp at z
      | cons f ms =>
       have hm:ms≠[]:=λy=>by rw[g0,y] at z;simp at z
       rw[a1 f ms g0 hm] at h;rw[g0] at rn rl;cases g:bT (r.drop (ms.length+1)) with
       | none=>rw[g] at h;cases h
       | some v =>
        obtain⟨v1,v2,v3,v4⟩:=v;rw[g] at h;cases h;obtain⟨b1,b2,b3,b4,b5⟩:=EK g;rw[List.length_drop] at b5;simp at rl;exact .wr _ _ _ _ _ _ _ (rn f (by simp)) b1 b2 b3 b4 (show v4.length<=60 by lia) (λx hx=>rn x (List.mem_cons_of_mem _ hx)) (by lia)
    ·rw[rK h1 h2 (λz=>h3 (.inl z)) λz=>h3 (.inr z)] at h;cases h
structure rN(q:Ak):Prop where
 f0:0<=q.first
 a0:0<=q.at_
 s0:0<=q.cO
 l0:∀x,q.eV=some x->0<=x
 ms:∀x∈q.marks,0<=x
 ml:q.marks.length<=60
 bh:∀x∈q.behind,0<=x
 bl:q.behind.length<=60
 kr:kw q=Str.ofString "rest"↔q.kind=Str.ofString "rest"
theorem j0.g{q:Ak}(h:j0 q):rN q:=by
 cases h with
 | rd f m a s l ns h1 h2 h3 h4 h5 h6 h7=>exact⟨h1,h3,h4,h5,(λx hx=>nomatch hx),by simp,h6,h7,by rw[rB]⟩
 | wr f a s ms l ns e h1 h3 h4 h5 h6 h7 h8 h9 =>
  refine⟨h1,h3,h4,h5,h8,h9,h6,h7,?_⟩;rw[rA];cases e
  ·rw[if_neg (by decide)]
  ·rw[if_pos rfl];exact⟨λz=>absurd z (by decide),λz=>absurd z (show ¬ Str.ofString "write" = Str.ofString "rest" by decide)⟩
 | rs a h=>exact⟨Int.le_refl 0,h,Int.le_refl 0,(λx hx=>nomatch hx),(λx hx=>nomatch hx),by simp,(λx hx=>nomatch hx),by simp,by unfold kw;dsimp only;rw[if_neg (by decide)]⟩
theorem EU{q:Ak}(g:rN q)(hk:q.kind≠Str.ofString "rest"):eE q↔(q.first<=1000000/\1<=q.many/\q.many<=16/\q.cO<=20)/\q.at_<=1000000000000/\(∀x,q.eV=some x->x<=10000000000000)/\(∀x∈q.marks,x<=1000000000)/\cP q.behind:=by
 constructor
 ·intro h;obtain⟨hB,hR,hM⟩:=h.2 hk;exact⟨⟨hB.f1,hB.m0,hB.m1,hB.s1⟩,hB.a1,λx e=>(hB.l x e).2,λx hx=>(hM x hx).2,hR⟩
 ·rintro⟨⟨h1,h2,h3,h4⟩,h5,h6,h7,h8⟩;exact⟨λz=>absurd z hk,λ_=>⟨⟨g.f0,h1,h2,h3,g.a0,h5,g.s0,h4,λx e=>⟨g.l0 x e,h6 x e⟩⟩,h8,λx hx=>⟨g.ms x hx,h7 x hx⟩⟩⟩
theorem EV{q:Ak}(g:rN q)(hk:q.kind=Str.ofString "rest"):eE q↔q.at_<=1000000000000:=⟨λh=>(h.1 hk).2,λh=>⟨λ_=>⟨g.a0,h⟩,λz=>absurd hk z⟩⟩
theorem Pe{q:Ak}(g:rN q)(h:eE q):q.at_<=1000000000000:=by
 by_cases hk:q.kind=Str.ofString "rest"
 ·exact(EV g hk).mp h
 ·exact((EU g hk).mp h).2.1
theorem Pf{ns bs:List Int}(nn:∀x∈ns,0<=x)(nd:bs.Nodup)(mem:∀n,n∈bs↔n∈ns)(up:bs.Pairwise (·<=·)):cP ns↔ns=bs/\∀x∈ns,x<=99:=by
 constructor
 ·intro h;refine⟨?_,h.hi⟩;have Pg:ns.Nodup:=h.up.imp λ{a b} h=>by lia
  have Ph:ns.Pairwise (·<=·):=h.up.imp λ{a b} h=>by lia
  exact List.Perm.eq_of_pairwise (λa b _ _ h1 h2=>by lia) Ph up ((List.perm_ext_iff_of_nodup Pg nd).mpr λa=>(mem a).symm)
 ·rintro⟨rfl,h⟩;exact⟨(up.and nd).imp λ⟨h1,h2⟩=>by have h2:_≠_:=h2;lia,nn,h⟩
noncomputable def over(c:Int)(ns:List Int):List Int:=ns.filter λx=>decide (c<x)
theorem mH{c:Int}{ns:List Int}:over c ns = []↔∀x∈ns,x<=c:=by
 unfold over;rw[List.filter_eq_nil_iff];exact⟨λh x hx=>by have:=h x hx;simp at this;lia,λh x hx=>by have:=h x hx;simp;lia⟩
theorem yE{c:Int}{ns:List Int}{i:Nat}{n:Int}(h:ns[i]? = some n):over c (ns.take (i+1))=if c<n then over c (ns.take i)++[n] else over c (ns.take i):=by
 unfold over;rw[take_succ_get h,List.filter_append];split
 ·rename_i g;rw[List.filter_cons_of_pos (by simpa using g)];rfl
 ·rename_i g;rw[List.filter_cons_of_neg (by simpa using g)];simp
theorem yF(c:Int)(ns:List Int)(i:Nat):(over c (ns.take i)).length<=ns.length:=by
 unfold over;have:=List.length_filter_le (λx=>decide (c<x)) (ns.take i);rw[List.length_take] at this;lia
noncomputable def mJ(v:V):Bool:=match v with
 | .str w=>decide (32∉w.cps.toList) && decide (w.length<=20)
 | _=>false
theorem Pj{xs:List V}(h:xs.all mJ=true){v:V}(hv:v∈xs):∃w,v = .str w/\Wo w:=by
 have:=List.all_eq_true.mp h v hv;cases v with
 | str w =>
  have e:(decide (32∉w.cps.toList) && decide (w.length<=20))=true:=this;simp only[Bool.and_eq_true,decide_eq_true_eq] at e;exact⟨w,rfl,e.1,e.2⟩
 | _=>cases this
theorem Pk{n:Int}(h0:0<=n)(h1:n<1000000000000000):mJ (.str (tx n))=true:=by
 show (decide (32∉(tx n).cps.toList) && decide ((tx n).length<=20))=true;rw[decide_eq_true (D5 h0),decide_eq_true (by have:=(D4 h0 h1).2;lia)];rfl
theorem EW(x:Str)(h:x.length<=10):MulOk x 15:=by
 refine⟨by decide,λ_ _=>?_,λ_ _=>?_⟩
 ·have:((2:Int) ^ 63 - 1) / 15=614891469123651720:=by decide
  rw[this];lia
 ·unfold Builtin.Str.tooLong;have hl:sizeLine=16777216:=sizeLine_eq;simp;lia
theorem Pn{x:Str}{n:Int}(h0:0<=n)(h1:n<=x.length):(Txt.slice x none (some n)).cps.toList=x.cps.toList.take n.toNat:=by
 have h:=eq_of_beq (slice_closes_toL h0 h1);rw[h];simp
theorem Po{x:Str}{n:Int}(h0:0<=n):(Txt.slice x (some n) none).cps.toList=x.cps.toList.drop n.toNat:=by
 rcases Int.lt_or_le (x.length:Int) n with z | z
 ·rw[slice_from_beyond (by lia),List.drop_eq_nil_of_le (by rw[← cS];lia)]
 ·rw[slice_from_eq h0 z rfl];have:(x.cps.toList.drop n.toNat).length<=((x.length:Int) - n).toNat:=by rw[List.length_drop,← cS];lia
  rw[List.take_of_length_le this]
theorem Pp{l:List Nat}{a b:Nat}(h:a<=b):(l.take a).count 32+(l.drop b).count 32<=l.count 32/\(l.take a).length+(l.drop b).length<=l.length:=by
 have e:l=l.take a++((l.drop a).take (b - a)++l.drop b):=by
  have:l.drop b=(l.drop a).drop (b - a):=by rw[List.drop_drop];congr 1;lia
  rw[this,List.take_append_drop,List.take_append_drop]
 constructor
 ·conv=>rhs;rw[e]
  rw[List.count_append,List.count_append];lia
 ·conv=>rhs;rw[e]
  rw[List.length_append,List.length_append];lia
theorem EX{x:Str}{a b:Int}(h0:0<=a)(h1:a<=x.length)(h2:a<=b):nb (Txt.slice x none (some a))+nb (Txt.slice x (some b) none)<=nb x/\(Txt.slice x none (some a)).length+(Txt.slice x (some b) none).length<=x.length:=by
 unfold nb;rw[cS,cS,cS,Pn h0 h1,Po (by lia)]
 exact Pp (by lia)
theorem k_(x y:Str):(x++y).length=x.length+y.length:=by rw[cS,jX,List.length_append,← cS,← cS]
theorem Pq(c:Nat):nb ⟨#[c]⟩<=1:=by
 unfold nb
 show [c].count 32<=1;exact Nat.le_trans List.count_le_length (Nat.le_refl 1)
theorem Pr(c:Nat):(⟨#[c]⟩:Str).length=1:=rfl
theorem EY{ws:List Str}{i j:Nat}{a b:Int}(ha:a=(i:Int))(hb:b=(j:Int))(h:i<=j)(h1:i<=ws.length):cW (ws.map V.str) (some a) (some b)=((ws.drop i).take (j - i)).map V.str:=by
 subst ha hb;unfold cW;rw[_H.jN,_H.jN,List.length_map,← List.map_drop,← List.map_take,Nat.min_eq_left h1];congr 1;rcases Nat.le_total j ws.length with z | z
 ·rw[Nat.min_eq_left z]
 ·rw[Nat.min_eq_right z,List.take_of_length_le (by rw[List.length_drop];lia),List.take_of_length_le (by rw[List.length_drop];lia)]
theorem oV{ws:List Str}{k:Nat}{a:Int}(ha:a=(k:Int))(h:k<=ws.length):cW (ws.map V.str) none (some a)=(ws.take k).map V.str:=by
 subst ha;rw[Om (by rw[List.length_map];exact h),List.map_take]
theorem Pu{ws:List Str}{k:Nat}{a:Int}(ha:a=(k:Int)):cW (ws.map V.str) none (some a)=(ws.take k).map V.str:=by
 subst ha;unfold cW;rw[_H.qA,_H.jN];simp only[List.drop_zero,Nat.sub_zero,List.length_map,← List.map_take];congr 1;rcases Nat.le_total k ws.length with z | z
 ·rw[Nat.min_eq_left z]
 ·rw[Nat.min_eq_right z,List.take_of_length_le (Nat.le_refl _),List.take_of_length_le z]
theorem oW{ws:List Str}{k:Nat}{a:Int}(ha:a=(k:Int)):cW (ws.map V.str) (some a) none=(ws.drop k).map V.str:=by
 subst ha;unfold cW;rw[_H.qA,_H.jN,List.length_map,← List.map_drop,← List.map_take];congr 1;rcases Nat.le_total k ws.length with z | z
 ·rw[Nat.min_eq_left z,List.take_of_length_le (by rw[List.length_drop];lia)]
 ·rw[Nat.min_eq_right z,List.drop_eq_nil_of_le (Nat.le_refl _),List.drop_eq_nil_of_le z];simp
section
variable{ws:List Str}(hf:dc ws)(k:Nat)
include hf
theorem Pw:Ch ws (ws.take k++(ws.drop k).take 1++ws.drop k):=by
 have h1:=rG ws k;have h2:=mD (ws.drop k) 1;refine⟨((hf.take k).app ((hf.drop k).take 1)).app (hf.drop k),?_,?_⟩
 ·simp only[List.length_append,List.length_take,List.length_drop];lia
 ·rw[g_,g_];lia
theorem Px:Ch ws (ws.take k++ws.drop (k+1)):=by
 have h1:=mD ws k;have h2:=rH ws (k+1);refine⟨(hf.take k).app (hf.drop (k+1)),?_,?_⟩
 ·simp only[List.length_append,List.length_take,List.length_drop];lia
 ·rw[g_];lia
theorem Py:Ch ws (ws.take k++((ws.drop k).take 2).reverse++ws.drop (k+2)):=by
 have h1:=rG ws k;have h2:=mD (ws.drop k) 2;have h3:=rH (ws.drop k) 2;rw[List.drop_drop] at h3;refine⟨((hf.take k).app λw hw=>(hf.drop k).take 2 w (List.mem_reverse.mp hw)).app (hf.drop (k+2)),?_,?_⟩
 ·simp only[List.length_append,List.length_reverse,List.length_take,List.length_drop];lia
 ·rw[g_,g_,EI];lia
theorem Pz{o:Str}(ho:Wo o):Ch ws (ws.take k++[o]++ws.drop (k+1)):=by
 have h1:=mD ws k;have h2:=rH ws (k+1);have h3:bL [o] = o.length+1:=rfl;have h4:=ho.len;refine⟨((hf.take k).app (dc.one ho.fr)).app (hf.drop (k+1)),?_,?_⟩
 ·simp only[List.length_append,List.length_take,List.length_drop,List.length_cons,List.length_nil];lia
 ·rw[g_,g_];lia
theorem PB{o:Str}(ho:Wo o)(m:Nat):Ch ws (ws.take k++[o]++(ws.drop k).take m):=by
 have h1:=mD ws k;have h2:=mD (ws.drop k) m;have Wg:=rH ws k;have h3:bL [o] = o.length+1:=rfl;have h4:=ho.len;refine⟨((hf.take k).app (dc.one ho.fr)).app ((hf.drop k).take m),?_,?_⟩
 ·simp only[List.length_append,List.length_take,List.length_drop,List.length_cons,List.length_nil];lia
 ·rw[g_,g_];lia
end
theorem EZ:∀ws:List Str,(ws.map (·.length)).sum+ws.length<=bL ws
 | []=>Nat.le_refl _
 | w::r=>by
  have:=EZ r;have e:bL (w::r)=w.length+1+bL r:=rfl;rw[e,List.map_cons,List.sum_cons,List.length_cons];lia
theorem Ch.text{z:Str}{aI:List Str}(h:Ch (Txt.split z blank) aI):(Txt.join blank aI).length<=2*z.length+40/\nb (Txt.join blank aI)<=nb z+1:=by
 rw[join_eq];have h1:=yC aI;have h2:=h.sum;have h3:=EH z;have h4:=rF h.fr;have h5:=h.len;have h6:=yz z;exact⟨by lia,by lia⟩
section
variable{M:Model}{A:Around}{E:Value->Shared->Prop}{s:Shared}{B:Heap}{env:Env}{l outer:List Env}{L a:Addr}{cls a0 fl:Value}{od:Option Addr}{Q:Unit->Shared->Prop}
end
section
variable{prog:Program}{w:World}{A:Around}{R:Result->Shared->Prop}{s:Shared}
end
section
variable{X:Cx}{tg iter elt:Expr}{ifs:List Expr}{scope:Scope}{cl:List (Str×Addr)}{N:List Str}{nt:Nat}{fv:List Nat}{pos:Pos}{wi:TI}{g:TG}{tt:TT}{te:TE}
end
theorem PD:entryFor table "proto.unchain" = some Builtin.«proto.unchain» := entryFor_of_tree (by kernel_rfl)
theorem PF:plainId "proto.unchain" = true:=by decide +kernel
section
variable{prog:Program}{w:World}{A:Around}{E:Value->Shared->Prop}{s:Shared}{env:Env}
theorem PJ{v:Value}{b:Addr}{ob:Obj}{ws:Array Value}{Q:Value->Shared->Prop}(hb:s.heap.get? b=some ob)(hd:ob.data = .fields ws)(h2:ws[2]? = some .none)(h:Q .none s) :
  wpAny (model prog w) A (runValue (.builtin "proto.unchain" ⟨[v,.ref b,.ref b,.bool false],[]⟩)) Q E s:=by
 refine wpAny_runValue (codeAny_builtin PD ?_);rw[Around.under_plainId PF _];unfold Builtin.«proto.unchain»;dsimp only;refine wpAny_bind (wpAny_field hb hd h2 ?_);rw[if_pos (show (Value.none == Value.none)=true from rfl)]
 show wpAny _ _ (ret Value.none) _ _ _;exact wpAny_pure h
variable{nm q:Str}{C N:Addr}{bs bm fV:List Value}{hdct:Bool}{sn:List Str}{sub:List Value}{ab:Bool}{col:Option Bool}{dd:Option Addr}{k0 k1 k2 k3 k5:Option Value}{B newId iF:String}
end
section
variable{X:Cx}{x:Str}{C fI:Addr}{bm tl bs:List Value}{newId iF B:String}{np dQ pos:Pos}{kT:Expr}{rest:List Expr}{t:TA}{k:Nat}{fd:FuncData}{ps names:List Str}{bN:List V}{ds:List Value}
 {N:Addr} {nm qn:Str} {hdct:Bool} {sn:List Str} {sub:List Value} {ab:Bool} {col:Option Bool} {dd:Option Addr} {k0 k1 k2 k3 k5:Option Value} {mN:Str->Option Value}
 {pins:List (Addr×Obj)} {s:Shared} {σ:St} {H:Hp} {R:List V->Hp->Prop} {E:Value->Shared->Prop}
end
section
variable{X:Cx}{C:Addr}{x:Str}{p pos:Pos}
end
section
variable{X:Cx}{CX:eS}{k1 k2:Nat}{f1 f2:Addr}{Wh Wi:List Addr}{yG yH:FuncData}{Wj Wk:List Str}{Wl Wm:Sp}{E:XK}{m:Str}{pos apos:Pos}{o e:Expr}{es:List Expr}{ta:TE}{t:TA}
end
end _L
namespace _L
open PySem PySem.Spec PyProof.Rows PySem.W
section
variable{prog:Program}{w:World}{A:Around}{E:Value->Shared->Prop}{s:Shared}{h₀:Heap}{L a kS:Addr}{m:Str->Option Value}{news:List (Addr×Obj)}{vs ks:List Value}
end
section
variable{X:Cx}{pins:List (Addr×Obj)}{σ:St}{H:Hp}{s:Shared}{m:Str->Option Value}{kS f:Addr}{kv:Nat->Int}{k:Nat}{fd:FuncData}{p:Str}{sp:Sp}{xs:List V}{A:Around}
end
section
variable{X:Cx}{pins:List (Addr×Obj)}{σ:St}{H:Hp}{s:Shared}{f:Addr}{kv:Nat->Int}{k:Nat}{fd:FuncData}{p:Str}{sp:Sp}{xs:List V}{l:Addr}
noncomputable def Wn(sp:Sp)(tl:TE):TE:=λσ H Q=>tl σ H λx H1=>∃(l:Addr) (xs:List V) (kv:Nat->Int),x = .ref l/\H1 l=some (.lst xs)/\xs.length<64/\(∀i j,i<xs.length->j<xs.length->kv i=kv j->i=j)/\
 (∀(j:Nat) (v:V),xs[j]? = some v->sp [v] H1 (λv' H'=>v' = .int (kv j)/\H' = H1) E0)/\
 ∀(D:Addr) (is:List Nat),H1 D=none->is.Perm (List.range xs.length)->(∀i j,i<j->j<xs.length->kv (is.getD i 0)<kv (is.getD j 0))->Q (.ref D) (upd H1 D (.lst (is.map λi=>xs.getD i .aF)))
end
end _L
namespace _L
open PySem PySem.Spec PyProof.Rows
section
variable{X:Cx}
end
section
variable{X:Cx}{k:Nat}{f:Addr}{fd:FuncData}{ps:List Str}{sp:Sp}{x:Str}{p pos:Pos}{e:Expr}{es:List Expr}{t:TA}{a:Value}
end
section
variable{X:Cx}{x:Str}{C fI qW:Addr}{bm tl bs:List Value}{newId iF B:String}{np dQ pos:Pos}{kT:Expr}{rest:List Expr}{t:TA}{k:Nat}{fd:FuncData}{ps names:List Str}{bN:List V}{ds:List Value}
 {N:Addr} {nm qn:Str} {hdct:Bool} {sn:List Str} {sub:List Value} {ab:Bool} {col:Option Bool} {dd:Option Addr} {k0 k1 k2 k3 k5:Option Value} {mN:Str->Option Value}
 {pins:List (Addr×Obj)} {s:Shared} {σ:St} {H:Hp} {R:List V->Hp->Prop} {E:Value->Shared->Prop}
end
section
variable{M:Model}{A:Around}{E:Value->Shared->Prop}{s:Shared}{B:Heap}{env:Env}{l outer:List Env}{L a:Addr}{cls a0 fl:Value}{od:Option Addr}{Q:Unit->Shared->Prop}
end
section
variable{prog:Program}{w:World}{A:Around}{E:Value->Shared->Prop}{s:Shared}{env:Env}
variable{nm q:Str}{C N:Addr}{bs bm fV:List Value}{hdct:Bool}{sn:List Str}{sub:List Value}{ab:Bool}{col:Option Bool}{dd:Option Addr}{k0 k1 k2 k3 k5:Option Value}{B newId iF:String}
end
section
variable{X:Cx}{E:XK}{pins:List (Addr×Obj)}{σ:St}{Hx:Hp}{s3:Shared}{h':Heap}{e C d:Addr}{Wq:Array Value}{sl:Array (Option Value)}{a0:Value}{i:Nat}{n:Str}{C7:Pos}{qW:Addr}{E1 E2:Value->Shared->Prop}
end
noncomputable def E3(X:Cx)(E:XK)(es:List Expr)(t:TA):Prop :=
 ∀(pos:Pos) (pins:List (Addr×Obj)) (s:Shared) (σ:St) (H:Hp) (Q:List V->Hp->Prop),Inv X pins σ H s->t σ H Q->wpAny (model X.prog X.w) X.A (spliced (backTo pos (starEach es X.env))) (AP X pins σ Q) (XP X.prog X.w X.base X pins σ E) s
section
variable{X:Cx}{E:XK}{e:Expr}{es:List Expr}{te:TE}{t:TA}{pos:Pos}
theorem PL(ha:qR X E e te)(hs:starEach [e] X.env = [(false,eval e X.env)]:=by rfl):E3 X E [e] (qx te nA):=by
 intro pos pins s σ H Q I h;rw[hs]
 show wpAny _ _ (spliced [(false,eval e X.env)]) _ _ s;refine Calls.spliced_cons (aL (ha pins s σ H _ I h) λu s1 ⟨x,H1,I1,r1,q1⟩=>?_);exact Calls.spliced_nil ⟨[x],H1,I1,.cons r1 .nil,q1⟩
theorem PM(h:E3 X E es t):qR X E (.List es pos) (Cg t):=by
 intro pins s σ H Q I hq;refine wpAny_List_spliced (aL (h pos pins s σ H _ I hq) λus s1 ⟨xs,H1,I1,r,z,q⟩=>⟨by rw[← r.length];exact z,?_⟩)
 have hf:H1 s1.heap.objs.size=none:=I1.aG.fresh (Nat.le_refl _);refine⟨.ref s1.heap.objs.size,upd H1 s1.heap.objs.size (.lst xs),I1.laid (t':=s1.toks) (λb u e=>Heap.get?_push_of_some _ e) (Nat.le_refl _) ?_,rfl,q _ hf⟩;exact⟨z,us,0,r,Heap.get?_push_size _ rfl⟩
end
section
variable{prog:Program}{w:World}{A:Around}{E:Value->Shared->Prop}{s:Shared}
theorem PN{b:Addr}{ob:Obj}{ws:Array Value}{it:Addr}{x left step:Int}{Q:Option Value->Shared->Prop}(hh:A.handled=some (.ref b))(hb:s.heap.get? b=some ob)(e_:ob.data = .fields ws)(jT:ws[2]? = some .none)(hit:IsRangeIter s.heap it x left step)(PR:left<=0)
  (hQ:∀h',Heap.ExtBut it s.heap h'->Q none { s with heap:=h' }):wpAny (model prog w) A (pyNext (.ref it)) Q E s:=by
 have hT:s.TypeIs (.ref it) "range_iterator" := ⟨_,hit,rfl⟩;unfold pyNext;refine wpAny_bind (wpAny_attempt (wpAny_callSpecial?_slot (name:=Str.ofString "__next__") hT F.slot_range_iterator_next
  (wpAny_call_entry F.slot_range_iterator_next hT F.entry_range_iterator_next ?_ (F.args_range_iterator_next_1 _))))
 show wpAny _ _ (field (.ref it) 0 >>= _) _ _ s;refine wpAny_bind (wpAny_field hit rfl (x:=rawInt x) rfl ?_)
 show wpAny _ _ (field (.ref it) 1 >>= _) _ _ s;refine wpAny_bind (wpAny_field hit rfl (x:=rawInt left) rfl ?_)
 show wpAny _ _ (field (.ref it) 2 >>= _) _ _ s;refine wpAny_bind (wpAny_field hit rfl (x:=rawInt step) rfl ?_)
 show wpAny _ _ (if left<=0 then _ else _) _ _ s
 rw[if_pos PR];refine wpAny_bind (wpAny_rule ?_);refine wpAny_bind ?_
 show wpAny _ _ (newExc (.type "StopIteration") [] >>= _) _ _ _;refine wpAny_bind ?_;simp only[newExc,newTuple];refine wpAny_bind (wpAny_newObj_type ?_ (by size_fits))
 refine wpAny_bind (m:=firstArgMember _ _) (wpAny_of_eq (a:=Value.none) (by first | rfl | (simp only[firstArgMember];rfl)) ?_)
 refine wpAny_newObj_type ?_ (by size_fits)
 simp only[raiseNew];refine wpAny_bind (wpAny_handled ?_)
 first | rw[show A.in1.handled=some (.ref b) from hh] | rw[hh]
 dsimp only;generalize E4:s.heap.push { cls:=Value.type "tuple",data:=Data.seq #[] }=hp;have E5:hp.get? b=some ob:=E4▸Heap.get?_push_of_some _ hb;have bC:b<hp.objs.size:=Heap.lt_size E5;have eu:Value.ref b≠Value.ref hp.objs.size:=λz=>absurd (Value.ref.inj z) (Nat.ne_of_lt bC);rw[if_pos (by simpa using eu)]
 generalize lY:({ cls:=Value.type "StopIteration",data:=Data.fields (#[Value.ref s.heap.objs.size,Value.none,Value.none,Value.none,Value.bool false,Value.none]++ownMembersOf (Value.type "StopIteration") [])}:Obj)=oe;have he:(hp.push oe).get? hp.objs.size=some oe:=Heap.get?_push_size _ (lY▸rfl);have oX:(hp.push oe).get? b=some ob:=Heap.get?_push_of_some _ E5;refine wpAny_bind (wpAny_holding (PJ oX e_ jT ?_))
 show wpAny _ _ (setField (.ref hp.objs.size) 2 (.ref b) >>= _) _ _ _;refine wpAny_bind (wpAny_setField he (by rw[← lY]) (by simp;lia) (wpAny_throw ?_))
 refine wpAny_bind (wpAny_isInstance (T := "StopIteration") (b:=true) ⟨_,Heap.get?_update_self _ he (by rw[← lY];rfl),by rw[← lY];rfl⟩ isSubtype_stop ?_)
 refine wpAny_pure (hQ _ λb0 o0 Wr e0=>?_);have e1:hp.get? b0=some o0:=E4▸Heap.get?_push_of_some _ e0;have l1:b0<hp.objs.size:=Heap.lt_size e1;exact((Heap.SameBut.update _ _ _).2 b0 (Nat.ne_of_lt l1)).trans (Heap.get?_push_of_some _ e1)
end
structure yI(a:Addr)(P:Program)(w:World)(K:PySem.W.Frag)(tg:Expr)(J:It)(fp:List Addr)(it:Addr)(tn:Nat->Heap->Prop):Prop where
 mem:it∈fp
 obj:∀i h,tn i h->∀b∈fp,∃o,h.get? b=some o/\∀v,o.data≠.cell v
 keep:∀i h h',tn i h->(∀b∈fp,∀o,h.get? b=some o->h'.get? b=some o)->tn i h'
 item:∀(X:Cx),X.prog=P->X.w=w->X.K=K->X.A.handled=some (.ref a)->∀(i:Nat) (pins:List (Addr×Obj)) (s:Shared) (σ:St) (H:Hp) (E:Value->Shared->Prop),Inv X pins σ H s->(∀b∈fp,e8 X pins H b)->tn i s.heap->J.go i H->
  wpAny (model P w) X.A (pyNext (.ref it)) (λr s1=>∃u,r=some u/\
   wpAny (model P w) X.A (letOwnedTupleGo tg (.ref it) u) (λ_ s2=>∃x H',Inv X pins σ H' s2/\RelV x u/\J.gK i H x H'/\tn (i+1) s2.heap/\∀b∈fp,H' b=none) E s1) E s
 done:∀(X:Cx),X.prog=P->X.w=w->X.K=K->X.A.handled=some (.ref a)->∀(i:Nat) (pins:List (Addr×Obj)) (s:Shared) (σ:St) (H:Hp) (E:Value->Shared->Prop),Inv X pins σ H s->(∀b∈fp,e8 X pins H b)->tn i s.heap->J.stop i H->
  wpAny (model P w) X.A (pyNext (.ref it)) (λr s1=>r=none/\Inv X pins σ H s1) E s
 self:∀(A:Around) (i:Nat) (s:Shared) (Q:Value->Shared->Prop) (E:Value->Shared->Prop),tn i s.heap->Q (.ref it) s->wpAny (model P w) A (pyIter (.ref it)) Q E s
noncomputable def E6(a:Addr)(X:Cx)(pins:List (Addr×Obj))(σ:St)(tg:Expr)(R:It->Hp->Prop)(kD:Value)(s2:Shared):Prop :=
 ∃(it:Addr) (fp:List Addr) (tn:Nat->Heap->Prop) (J:It) (H':Hp),kD = .ref it/\Inv X pins σ H' s2/\yI a X.prog X.w X.K tg J fp it tn/\tn 0 s2.heap/\(∀b∈fp,e8 X pins H' b)/\R J H'
noncomputable def E7(a:Addr)(X:Cx)(tg iter:Expr)(wi:TI):Prop :=
 ∀(pins:List (Addr×Obj)) (s:Shared) (σ:St) (H:Hp) (R:It->Hp->Prop),Inv X pins σ H s->wi σ H R->
  wpAny (model X.prog X.w) X.A (eval iter X.env) (λv s1=>wpAny (model X.prog X.w) X.A (pyIter v) (E6 a X pins σ tg R) X.xe s1) X.xe s
section
variable{X:Cx}{tg iter elt:Expr}{ifs:List Expr}{scope:Scope}{cl:List (Str×Addr)}{N:List Str}{nt:Nat}{fv:List Nat}{pos:Pos}{wi:TI}{g:TG}{tt:TT}{te:TE}
theorem PU{a:Addr}{pins:List (Addr×Obj)}{σ:St}{s2:Shared}{H2:Hp}{it:Addr}{fp:List Addr}{tn:Nat->Heap->Prop}{J:It}{Q:VK}{RR:Value->Addr->Result->Shared->Prop}{E:Value->Shared->Prop}
  (S:cF X scope cl N nt fv) (hc:X.A.handled=some (.ref a))
  (hg:∀C s H fp,PG (bZ X scope cl N C s H fp) tg g) (ht:∀C s H fp,jO (bZ X scope cl N C s H fp) ifs tt) (he:∀C s H fp,PE (bZ X scope cl N C s H fp) elt te)
  (I2:Inv X pins σ H2 s2) (T:yI a X.prog X.w X.K tg J fp it tn) (cN:tn 0 s2.heap) (f2:∀b∈fp,e8 X pins H2 b)
  (hq:∀D,H2 D=none->∃W:Nat->Nat->List V->St->Hp->Prop,
   (∃m,W 0 m [] (iD σ nt fv) (upd H2 D (.lst [])))/\∀i m ys au H2,W i m ys au H2->H2 D=some (.lst ys)/\ys.length<sizeLine/\
    ((J.stop i H2/\Q (.ref D) H2)\/(J.go i H2/\∀x H3,J.gK i H2 x H3->g x au H3 λbR H4=>tt bR H4 λb H5=>if b=true then te bR H5 λv H6=>H6 D=some (.lst ys)/\∃m',m' < m/\W (i+1) m' (ys++[v]) bR (upd H6 D (.lst (ys++[v])))
     else ∃m',m' < m/\W (i+1) m' ys bR H5)))
  (xm:∀(D C:Addr) (s':Shared) (H':Hp) (m':Str->Option Value),Inv X pins σ H' s'->s'.heap.Ns C m'->s2.heap.objs.size<=C->H' C=none->Q (.ref D) H'->RR (.ref D) C (.ok .next) s') :
  wpAny (model X.prog X.w) X.A (newList []) (λacc fu=>wpAny (model X.prog X.w) X.A (newFunctionEnv scope X.env.globals cl [] X.env.qual none .none (some X.env)) (λnO lU =>
   codeAny (model X.prog X.w) X.A (.compStart (.ListComp elt [⟨tg,iter,ifs,0⟩] scope pos) 0 (.ref it) acc { nO with scope:=relabel scope X.env }) (RR acc nO.locals) lU) E fu) E s2:=by
 refine wpAny_newObj_type (wpAny_newFunctionEnv S.lW (by intro y hy;simp at hy) (λfH kO i9=>?_) S.kind)
 dsimp only at kO i9 ⊢;generalize kP:s2.heap.push { cls:=.type "list",dict:=none,data:=.seq ([]:List Value).toArray }=HH at kO i9 ⊢;have hC:HH.objs.size=s2.heap.objs.size+1:=by rw[← kP,Heap.size_push]
 have kN:s2.heap.objs.size≠HH.objs.size:=by rw[hC];exact Nat.ne_of_lt (Nat.lt_succ_self _)
 have kQ:s2.heap.objs.size<=HH.objs.size:=by rw[hC];exact Nat.le_succ _
 have old:∀b o,s2.heap.get? b=some o->fH.get? b=some o:=λb o e=>by
  have hb:b<s2.heap.objs.size:=Heap.lt_size e;exact i9.extBut b o (by rw[hC];exact Nat.ne_of_lt (Nat.lt_succ_of_lt hb)) (Heap.get?_push_of_some _ (kP▸Heap.get?_push_of_some _ e))
 have iE:fH.get? s2.heap.objs.size=some { cls:=.type "list",data:=.seq #[] }:=i9.extBut _ _ kN (Heap.get?_push_of_some _ (kP▸Heap.get?_push_size _ rfl));have bC:∀b∈fp,b<s2.heap.objs.size:=λb hb=>by
  obtain⟨o,e,_⟩:=T.obj 0 _ cN b hb;exact Heap.lt_size e
 have hD:H2 s2.heap.objs.size=none:=I2.aG.fresh (Nat.le_refl _);obtain⟨W,⟨m0,w0⟩,turn⟩:=hq _ hD;have jJ:tn 0 fH:=T.keep _ _ _ cN λb _ o e=>old b o e;have I3:=S.inv I2 f2 bC (h1:=fH) (tk:=s2.toks+([]:List (Str×Value)).length) (D:=s2.heap.objs.size) (C:=HH.objs.size) (Nat.le_refl _) kQ kN old iE (by simpa using kO)
 -- what stays true of the iterator's objects
 have nD:∀b∈fp,b≠s2.heap.objs.size:=λb hb=>Nat.ne_of_lt (bC b hb);have gM:∀ {H':Hp},(∀b∈fp,H' b=none)->∀b∈fp,e8 (bZ X scope cl N HH.objs.size s2 H2 fp) [] H' b:=λ{H'} hn b hb=>by
  have ok:=S.ok I2 f2 bC kQ;refine⟨hn b hb,(ok.jE b hb).1,ok.jF b hb,.inl hb,(ok.jE b hb).2,λp hp=>absurd (show p∈([]:List (Addr×Obj)) from hp) (by simp)⟩
 have loop:∀fu:Shared,fu = { s2 with heap:=fH,toks:=s2.toks+([]:List (Str×Value)).length }->
   codeAny (model X.prog X.w) X.A (.compLoop (.ListComp elt [⟨tg,iter,ifs,0⟩] scope pos) 0 (.ref it) (.ref s2.heap.objs.size) (compEnvC scope cl HH.objs.size X.env)) (RR (.ref s2.heap.objs.size) HH.objs.size) fu:=by
  rintro fu rfl;refine CG (λn s'=>∃i ys aJ H',Inv (bZ X scope cl N HH.objs.size s2 H2 fp) [] aJ H' s'/\tn i s'.heap/\(∀b∈fp,H' b=none)/\W i n ys aJ H') ?_ m0
   ⟨0,[],_,_,I3,jJ,λb hb=>by rw[bF (nD b hb)];exact(f2 b hb).1,w0⟩
  rintro n s3 ⟨i,ys,cV,H3,J3,t3,jK,w3⟩;obtain⟨eD,xq,xr⟩:=turn i n ys cV H3 w3;rcases xr with⟨stop,qn⟩ | ⟨go,step⟩
  ·refine aL (T.done (bZ X scope cl N HH.objs.size s2 H2 fp) rfl rfl rfl hc i [] s3 cV H3 (λ_ _=>False) J3 (gM jK) t3 stop) λr s4 ⟨hr,I4⟩=>?_;subst hr;have I5:Inv X pins σ H3 s4:=I2.qg (ch:=fp) I4.os I4.base I4.aG I4.bare λb hb=>⟨(f2 b hb).2.2.2.1,(f2 b hb).2.1,(f2 b hb).2.2.2.2.1,(f2 b hb).2.2.2.2.2⟩;obtain⟨m,hn,_⟩:=I4.loc;exact xm _ _ s4 H3 m I5 hn kQ I4.free qn
  ·refine aL (T.item (bZ X scope cl N HH.objs.size s2 H2 fp) rfl rfl rfl hc i [] s3 cV H3 (λ_ _=>False) J3 (gM jK) t3 go) λr s4 ⟨u,hr,h4⟩=>?_;subst hr;refine aL h4 λ_ s5 ⟨x,H5,I5,r5,y5,gO,ng⟩=>?_;have ni:=I5.pinned (gM ng) (T.obj _ _ gO);refine aL (hg _ _ _ _ _ s5 cV H5 x u _ ni r5 (step x H5 y5)) λ_ s6 ⟨e9,H6,I6,q6⟩=>?_;have nP:∀ {dZ:St} {H7:Hp} {s7:Shared},Inv (bZ X scope cl N HH.objs.size s2 H2 fp) ([]++lN fp s5.heap) dZ H7 s7->tn (i+1) s7.heap/\∀b∈fp,H7 b=none:=λ{dZ H7 s7} I7=>by
    refine⟨T.keep _ _ _ gO λb hb o e=>(I7.pin (b,o) (List.mem_append_right _ (List.mem_append_right _ (lO hb e)))).1,λb hb=>?_⟩;obtain⟨o,e,d⟩:=T.obj _ _ gO b hb;exact(I7.pin (b,o) (List.mem_append_right _ (List.mem_append_right _ (lO hb e)))).2.1
   refine aL (ht _ _ _ _ _ s6 e9 H6 _ I6 q6) λb s7 ⟨H7,I7,q7⟩=>?_;cases b with
   | false =>
    obtain⟨m',hm,w7⟩:=q7;obtain⟨t7,n7⟩:=nP I7;exact⟨m',hm,i+1,ys,e9,H7,I7.kE,t7,n7,w7⟩
   | true =>
    refine aL (he _ _ _ _ _ s7 e9 H7 _ I7 q7) λu8 s8 ⟨v8,H8,I8,r8,xu,m',hm,w8⟩=>?_;refine aL (i7 (X:=bZ X scope cl N HH.objs.size s2 H2 fp) _ s8 e9 H8 (.ref s2.heap.objs.size) [v8] (.ref s2.heap.objs.size) [u8] (λ_ H9=>∃m',m' < n/\W (i+1) m' (ys++[v8]) e9 H9) I8 rfl (.cons r8 .nil)
     ⟨s2.heap.objs.size,ys,v8,rfl,rfl,xu,xq,m',hm,w8⟩) λ_ s9 ⟨_,H9,I9,_,m9,xw,w9⟩=>?_
    obtain⟨t9,n9⟩:=nP I9;exact⟨m9,xw,i+1,ys++[v8],e9,H9,I9.kE,t9,n9,w9⟩
 exact codeAny_compStart_list (loop _ rfl) (T.self _ 0 _ _ _ jJ (loop _ rfl))
theorem PV{a:Addr}(S:cF X scope cl N nt fv)(hc:X.A.handled=some (.ref a))(hi:E7 a X tg iter wi)
  (hg:∀C s H fp,PG (bZ X scope cl N C s H fp) tg g) (ht:∀C s H fp,jO (bZ X scope cl N C s H fp) ifs tt) (he:∀C s H fp,PE (bZ X scope cl N C s H fp) elt te)
  (hs:∀x,foldedSetIterable iter X.env x=pure x:=by intro _;rfl):PE X (.ListComp elt [⟨tg,iter,ifs,0⟩] scope pos) (i8 wi g tt te nt fv):=by
 intro pins s σ H Q I h;rw[eval_ListComp];refine wpAny_comprehension_free (use:=none) rfl hs S.lV S.kind S.names (aL (hi pins s σ H _ I h) λxv s1 h1=>aL h1 λkD s2 h2=>?_);obtain⟨it,fp,tn,J,H2,rfl,I2,T,cN,f2,hq⟩:=h2;refine PU (RR:=λacc C=>compPost (model X.prog X.w) X.A X.xe none (EP X pins σ Q) acc C) S hc hg ht he I2 T cN f2 hq λD C s' H' m' I' hn hC fC q=>?_;refine⟨m',hn,λh' jQ=>⟨.ref D,H',?_,rfl,q⟩⟩;have eU:=I2.jG hC fC;exact I'.turned (t':=s'.toks) (it:=C) (λb o hb e=>jQ.extBut b o hb e) fC eU.2.1 eU.2.2.2.1 eU.2.2.2.2.1 eU.2.2.2.2.2
end
noncomputable def yJ(a:Addr)(lo:Int)(n:Nat):It:=⟨(iZ lo n).go,(iZ lo n).gK,λi H=>(iZ lo n).stop i H/\∃C,H a=some (jS a C)⟩
theorem PX(a:Addr){P:Program}{w:World}{K:PySem.W.Frag}{tg:Expr}(it:Addr)(lo:Int)(n:Nat):yI a P w K tg (yJ a lo n) [it] it (λi h=>IsRangeIter h it (lo+(i:Nat)*1) ((n:Int) - (i:Nat)) 1) where
 mem:=by simp
 obj:=λi h st b hb=>by
  have e:b=it:=by simpa using hb
  subst e;exact⟨_,st,λv z=>by
   have z':Data.fields _=Data.cell v:=z;cases z'⟩
 keep:=λi h h' st k=>k it (by simp) _ st
 item:=by
  intro X hP hw hK hc i pins s σ H E I hf st hg;subst hP hw hK;obtain⟨f0,f1,f2,f3,f4,f5⟩:=hf it (by simp)
  have e1:lo+(i:Int)*1+1=lo+((i+1:Nat):Int)*1:=by lia
  have e2:(n:Int) - (i:Int) - 1=(n:Int) - ((i+1:Nat):Int):=by lia
  refine wpAny_pyNext_range_item st (by have:i<n:=hg;lia) λh' dN sb=>?_
  rw[e1,e2] at dN;have I1:Inv X pins σ H { s with heap:=h',toks:=s.toks+1 }:=I.turned (λb o hb e=>(sb.2 b hb).trans e) f0 f1 f3 f4 f5;refine⟨_,rfl,ql (s:={ s with heap:=h',toks:=s.toks+1 }) (n := "range_iterator") dN rfl rfl (by decide) ⟨.int (lo+i),H,I1,⟨s.toks,?_⟩,⟨rfl,rfl⟩,dN,λb hb=>(hf b hb).1⟩⟩
  rw[Int.mul_one]
 done:=by
  intro X hP hw hK hc i pins s σ H E I hf st hg;subst hP hw hK;obtain⟨f0,f1,f2,f3,f4,f5⟩:=hf it (by simp)
  obtain⟨hn,C,hx⟩:=hg;obtain⟨⟨o,h1,h2,vs,h3,h4⟩,_,_⟩:=(show cR X.prog X.w H s.heap a (jS a C) from I.aG a _ hx);exact PN hc h1 h3 h4 st (by have:n<=i:=hn;lia) λh' eb=>⟨rfl,I.turned (t':=s.toks) (λb o hb e=>eb b o hb e) f0 f1 f3 f4 f5⟩
 self:=λ_ _ _ _ _ st h=>wpAny_pyIter_rangeiter st h
section
variable{X:Cx}{tg:Expr}
theorem PY{a:Addr}{pins:List (Addr×Obj)}{σ:St}{H:Hp}{s:Shared}{R:It->Hp->Prop}{E:Value->Shared->Prop}{lo hi:Int}{t u v:Tok}{tk:Nat}(I:Inv X pins σ H s)(h1 : -(2 ^ 62)<=lo)(h2:lo<2 ^ 62)(h3 : -(2 ^ 62)<=hi)(h4:hi<2 ^ 62)
  (q:R (yJ a lo (hi - lo).toNat) H):wpAny (model X.prog X.w) X.A (pyIter (.ref s.heap.objs.size)) (E6 a X pins σ tg R) E { s with heap:=s.heap.push { cls:=.type "range",data:=.fields #[.int lo t,.int hi u,.int 1 v] },toks:=tk }:=by
 refine wpAny_pyIter_range (IsRange.new ..) (small_one h1 h2 h3 h4) ?_;have I1:Inv X pins σ H { s with heap:=s.heap.push { cls:=.type "range",data:=.fields #[.int lo t,.int hi u,.int 1 v] },toks:=tk }:=I.kept λb o e=>Heap.get?_push_of_some _ e;refine⟨(s.heap.push { cls:=.type "range",data:=.fields #[.int lo t,.int hi u,.int 1 v] }).objs.size,[(s.heap.push { cls:=.type "range",data:=.fields #[.int lo t,.int hi u,.int 1 v] }).objs.size],_,_,H,rfl,
  I1.kept (t':=tk) λb o e=>Heap.get?_push_of_some _ e,PX a _ lo (hi - lo).toNat,?_,λb hb=>?_,q⟩
 ·have e1:lo+((0:Nat):Int)*1=lo:=by simp
  have e2:(((hi - lo).toNat:Nat):Int) - ((0:Nat):Int)=Builtin.Range.rangeSize lo hi 1:=by rw[rangeSize_one];split <;> lia
  show IsRangeIter _ _ (lo+((0:Nat):Int)*1) ((((hi - lo).toNat:Nat):Int) - ((0:Nat):Int)) 1;rw[e1,e2];exact Heap.get?_push_size _ rfl
 ·have e:b=(s.heap.push { cls:=.type "range",data:=.fields #[.int lo t,.int hi u,.int 1 v] }).objs.size:=by simpa using hb
  subst e;exact I1.jG (Nat.le_refl _) (I1.aG.fresh (Nat.le_refl _))
noncomputable def E8(ex:Addr)(ta:TA):TI:=λσ H R=>ta σ H λvs H1=>∃j:Int,vs = [.int j]/\-(2 ^ 62)<=j/\j<2 ^ 62/\R (yJ ex 0 j.toNat) H1
theorem PZ{ex:Addr}{a:Expr}{ta:TA}{p pos:Pos}(hg:Gl X "range")(hm:X.mg "range" = none)(ha:PA X [a] ta)(hs:starEach [a] X.env = [(false,eval a X.env)]:=by rfl):E7 ex X tg (.Call (.Name "range" p) [a] [] pos) (E8 ex ta):=by
 intro pins s σ H R I h;refine Call_ (iU I hg hm boot_range (PyProof.Rows.callWith_type1 (aL (ha pos pins s σ H _ I h) λus s1 ⟨vs,H1,I1,r1,q1⟩=>?_) hs rfl));obtain⟨j,e,q1,q2,q⟩:=q1;subst e;cases r1 with
 | cons r rr =>
  cases rr;obtain⟨t,rfl⟩:=r;exact call_range_1 (PY I1 (by lia) (by lia) q1 q2 (by simpa using q))
end
section
variable{ex:Addr}{H:Hp}{σ:St}{g:TG}{tt:TT}{te:TE}{ta:TA}{nt:Nat}{fv:List Nat}{Q:VK}
theorem E9(n:Int)(Pv:Addr->Nat->List V->St->Hp->Prop)(nU:∀Q:List V->Hp->Prop,Q [.int n] H->ta σ H Q)(b1 : -1000000000000<n)(b2:n<1000000000000)
  (h0:∀D,H D=none->Pv D 0 [] (iD σ nt fv) (upd H D (.lst []))) (hD:∀D i ys σ H,Pv D i ys σ H->H D=some (.lst ys)/\ys.length<sizeLine)
  (hs:∀D i ys au H2 (N:List V->St->Hp->Prop),(∀ys σ H,Pv D (i+1) ys σ H->N ys σ H)->i<n.toNat->Pv D i ys au H2->g (.int (i:Int)) au H2 λbR H4=>tt bR H4 λb H5=>if b=true then te bR H5 λv H6=>H6 D=some (.lst ys)/\N (ys++[v]) bR (upd H6 D (.lst (ys++[v]))) else N ys bR H5)
  (hd:∀D ys au H2,Pv D n.toNat ys au H2->(∃C,H2 ex=some (jS ex C))/\Q (.ref D) H2):i8 (E8 ex ta) g tt te nt fv σ H Q:=by
 refine nU _ ⟨n,rfl,by lia,by lia,λD kR=>?_⟩
 refine⟨λi m ys au H2=>m=n.toNat - i/\i<=n.toNat/\Pv D i ys au H2,⟨_,rfl,Nat.zero_le _,h0 D kR⟩,?_⟩;rintro i m ys au H2 ⟨rfl,eo,p⟩;obtain⟨d1,d2⟩:=hD D i ys au H2 p;refine⟨d1,d2,?_⟩;by_cases bC:i<n.toNat
 ·refine .inr ⟨bC,λx H3 y=>?_⟩;obtain⟨e1,e2⟩:=y;subst e1 e2;have e2:(0:Int)+(i:Int)=i:=by lia
  rw[e2];exact hs D i ys au _ _ (λ_ _ _ z=>NX.of bC z) bC p
 ·have e:i=n.toNat:=by lia
  subst e;obtain⟨h1,h2⟩:=hd D ys au H2 p;exact .inl ⟨⟨Nat.le_refl _,h1⟩,h2⟩
end
noncomputable def gu(bs:List Bool)(k:Nat):List Int:=((List.range k).filter λi=>bs.getD i false).map λ(i:Nat)=>(i:Int)
theorem rO(bs:List Bool)(k:Nat):gu bs (k+1)=if bs.getD k false=true then gu bs k++[(k:Int)] else gu bs k:=by
 unfold gu;rw[List.range_succ,List.filter_append,List.map_append];split
 ·rename_i h;rw[List.filter_cons_of_pos (p:=λi=>bs.getD i false) h];rfl
 ·rename_i h;rw[List.filter_cons_of_neg (p:=λi=>bs.getD i false) h];simp
theorem E_(bs:List Bool)(k:Nat):(gu bs k).length<=k:=by
 unfold gu;rw[List.length_map];have:=List.length_filter_le (λi=>bs.getD i false) (List.range k);rw[List.length_range] at this;exact this
theorem P0{q:Ak}(h:j0 q)(g:eE q):dW q:=by
 cases h with
 | rd f m a s l ns h1 h2 h3 h4 h5 h6 h7 =>
  obtain⟨hB,hR,_⟩:=g.2 (show ¬ Str.ofString "read" = Str.ofString "rest" by decide)
  exact .rd f m a s l ns hB hR (by lia)
 | wr f a s ms l ns e h1 h3 h4 h5 h6 h7 h8 h9 =>
  obtain⟨hB,hR,hM⟩:=g.2 (show ¬ Str.ofString "write" = Str.ofString "rest" by decide)
  exact .wr f a s ms l ns e hB hM hR (by lia)
 | rs a h=>exact .rs a h (g.1 rfl).2
theorem P4{q:Ak}(ok:dW q)(hb:q.behind.length<=9):(Txt.join blank (dh q (fL q))).length<=700/\nb (Txt.join blank (dh q (fL q)))<=40:=by
 have fo:=Ej q;obtain⟨h1,_⟩:=rq ok fo;have F:=ok.facts;have ll:(dh q (fL q)).length<=37:=by
  have h2:=rm (fL q) q.eV q.behind;have h3:=F.nl;rw[Oj,List.length_append,Ol,Eg,List.length_map];lia
 have sm:∀l:List Str,(∀w∈l,oM w)->bL l<=16*l.length:=by
  intro l
  induction l with
  | nil=>intro _;exact Nat.le_refl _
  | cons a l ih =>
   intro h;have g1:=ih λw hw=>h w (List.mem_cons_of_mem _ hw);have g2:=(h a (by simp)).ok.2
   have e:bL (a::l)=a.length+1+bL l:=rfl;rw[e,List.length_cons];lia
 have s1:=sm _ h1;have s2:=yC (dh q (fL q));have s3:=rF (N6 ok fo);rw[join_eq];exact⟨by lia,by lia⟩
theorem P5{z:Str}(h1:z.length<=20000)(h2:nb z<=59):mC z:=⟨h1,by rw[yz];lia⟩
end _L
namespace _W
open PySem _L PyProof.Rows
theorem Ws{i j:Int}:gR (.int i) (.int j)=true:=rfl
theorem Wt{i j:Str}:gR (.str i) (.str j)=true:=rfl
theorem Wu{i j:Bool}:gR (.bl i) (.bl j)=true:=rfl
theorem Wv: gR (.aF) (.aF)=true:=rfl
theorem Ww{i:Int}:gR (.aF) (.int i)=true:=rfl
theorem Wx{i:Int}:gR (.int i) (.aF)=true:=rfl
theorem Wy{i:Str}:gR (.aF) (.str i)=true:=rfl
theorem Wz{i:Str}:gR (.str i) (.aF)=true:=rfl
local macro_rules | `(tactic| wp_walk using $ts,*)=>do
 let a ← ("Ow Oo Oq Ot Ew KP E8 NO Wn Wb Ko V_ Wa LP Mf Me L7 C6 V5 VP qN V6 V9 Vs VO Kz KG Vt Vl Lq Km Kl Kh Ky Vq and_assoc Vc HO.ins.injEq Lo VI d7 String.reduceBEq List.lookup_cons List.lookup_nil aq HO.lst.injEq HO.dT.injEq HO.tup.injEq String.reduceEq false_and or_false false_or VJ VA Vz Vy Vv Vw Vx VB Bool.not_eq_true' decide_eq_false_iff_not Classical.not_not Vg if_false_left if_false_right Lf Ji iD List.length_map List.getElem?_nil Jo B0 qk Vh Vi Vj Vk BX tC qo kF rI JB rU JJ tB Jq BZ Vf Jp Cr qx nA Ci Jm Jc Jd Je Jf Ve Jg Cg J9 KH wX KO Vr KS Vu Ct Ks JF JG Ws Wt Wu Wv Ww Wx Wy Wz wG JC JD JX JY Cj Ka _L.start VF VG VH List.map_cons List.map_nil List.cons_append List.nil_append List.append_nil List.length_cons List.length_nil List.getElem?_cons_zero List.getElem?_cons_succ Option.some.injEq exists_eq_left exists_eq_left' exists_and_left exists_eq V.int.injEq V.ref.injEq V.bl.injEq V.ty.injEq V.str.injEq List.cons.injEq and_true true_and List.set_cons_zero List.set_cons_succ decide_eq_true_eq Nat.reduceSub Nat.reduceAdd List.replicate_succ List.replicate_zero List.replicate Int.reduceLT Int.reduceLE Int.reducePow Int.reduceToNat Int.reduceNeg Nat.reduceLT Nat.reduceLeDiff Nat.reducePow Int.reduceMul Int.reduceAdd Int.reduceSub and_self or_true true_or gt_iff_lt ge_iff_le if_true if_false Bool.false_eq_true reduceIte Nat.sub_self Nat.sub_zero".splitOn " ").toArray.mapM λx => `(Lean.Parser.Tactic.simpLemma| $(Lean.mkIdent x.toName):ident)
 let d:Array (Lean.TSyntax `term):=("T.ju T.bK T.Al T.Am T.An T.mR T.Ao T.Aq T.uU T.lu T.As T.pL T.jv".splitOn " ").toArray.map λx=>⟨Lean.mkIdent x.toName⟩
 let b ← (ts.getElems.flatMap λt=>if t.raw.getId == `T then d else #[t]).mapM λt => `(Lean.Parser.Tactic.simpLemma| $t:term)
 let c:=a++b
 `(tactic| simp (maxSteps:=4000000) only[$c,*])
local macro_rules | `(tactic| walk_at "rdm") => `(tactic| wp_walk using and_self)
seal dY PS PE PT PW PA PG Jr PI PK PC PO jO
noncomputable def top(i:Nat):Stmt:=PySem.Challenge.pw_armswing_k74_lines_refused.main.body.getD i (.Pass ⟨0,0,0,0⟩)
noncomputable abbrev yK:Stmt:=inClass (top 16) 0
noncomputable abbrev yL:Stmt:=top 17
noncomputable abbrev yM:Stmt:=top 18
noncomputable abbrev yN:Stmt:=top 19
noncomputable abbrev yO:Stmt:=top 20
noncomputable abbrev gv:Stmt:=top 21
noncomputable abbrev gw:Stmt:=top 22
noncomputable abbrev yP:Stmt:=top 23
noncomputable abbrev yQ:Stmt:=top 27
noncomputable abbrev yR:Stmt:=inClass (top 28) 0
noncomputable abbrev yS:Stmt:=inClass (top 28) 1
noncomputable abbrev yT:Stmt:=inClass (top 28) 2
noncomputable abbrev yU:Stmt:=inClass (top 28) 3
noncomputable abbrev yV:Stmt:=inClass (top 28) 4
noncomputable abbrev yW:Stmt:=inClass (top 28) 5
noncomputable abbrev yX:Stmt:=inClass (top 28) 6
noncomputable abbrev yY:Stmt:=inClass (top 28) 7
noncomputable abbrev yZ:Stmt:=top 29
noncomputable abbrev y9:Stmt:=top 30
noncomputable abbrev y_:Stmt:=top 31
noncomputable abbrev za:Stmt:=top 32
noncomputable abbrev zc:Stmt:=top 33
noncomputable abbrev zd:Stmt:=top 35
noncomputable abbrev ze:Stmt:=top 36
noncomputable abbrev zf:Stmt:=top 37
noncomputable abbrev zg:Stmt:=top 38
noncomputable abbrev zh:Stmt:=top 39
noncomputable abbrev zj:Stmt:=top 40
noncomputable abbrev zm:Stmt:=top 41
noncomputable abbrev zo:Stmt:=top 42
noncomputable abbrev zp:Stmt:=top 43
noncomputable abbrev zq:Stmt:=top 44
noncomputable abbrev zu:Stmt:=top 45
noncomputable abbrev zw:Stmt:=top 46
noncomputable abbrev zx:Stmt:=top 47
noncomputable abbrev zy:Stmt:=top 48
noncomputable abbrev zA:Stmt:=top 49
noncomputable abbrev gz:Stmt:=top 50
theorem P6:bD ["self", "kind", "first", "many", "marks", "at", "asker", "latest", "behind", "early"] ["self", "kind", "first", "many", "marks", "at", "asker", "latest", "behind", "early"] (aX yK):=⟨rfl,rfl,rfl,by decide +kernel,rfl,by decide +kernel,by decide +kernel⟩
theorem P7:bD ["number", "least", "greatest", "words"] ["number", "least", "greatest", "words"] (aX yL):=⟨rfl,rfl,rfl,by decide +kernel,rfl,by decide +kernel,by decide +kernel⟩
theorem rP:bD ["behind", "ahead", "number"] ["behind"] (aX yM):=⟨rfl,rfl,rfl,by decide +kernel,rfl,by decide +kernel,by decide +kernel⟩
theorem P8:bD ["first", "many", "at", "asker", "latest", "behind"] ["first", "many", "at", "asker", "latest", "behind"] (aX yN):=⟨rfl,rfl,rfl,by decide +kernel,rfl,by decide +kernel,by decide +kernel⟩
theorem P9:bD ["behind"] ["behind"] (aX yO):=⟨rfl,rfl,rfl,by decide +kernel,rfl,by decide +kernel,by decide +kernel⟩
theorem Fb:bD ["first", "many", "at", "asker", "latest", "behind", "others"] ["first", "many", "at", "asker", "latest", "behind"] (aX gv):=⟨rfl,rfl,rfl,by decide +kernel,rfl,by decide +kernel,by decide +kernel⟩
theorem zB:bD ["first", "marks", "at", "asker", "latest", "behind", "early", "others", "mark"] ["first", "marks", "at", "asker", "latest", "behind", "early"] (aX gw):=⟨rfl,rfl,rfl,by decide +kernel,rfl,by decide +kernel,by decide +kernel⟩
theorem P_:bD ["at"] ["at"] (aX yP):=⟨rfl,rfl,rfl,by decide +kernel,rfl,by decide +kernel,by decide +kernel⟩
theorem Qa:bD ["word"] ["word"] (aX yQ):=⟨rfl,rfl,rfl,by decide +kernel,rfl,by decide +kernel,by decide +kernel⟩
theorem Qc:bD ["self", "line"] ["self", "line"] (aX yR):=⟨rfl,rfl,rfl,by decide +kernel,rfl,by decide +kernel,by decide +kernel⟩
theorem Qd:bD ["self"] ["self"] (aX yS):=⟨rfl,rfl,rfl,by decide +kernel,rfl,by decide +kernel,by decide +kernel⟩
theorem Qe:bD ["self"] ["self"] (aX yT):=⟨rfl,rfl,rfl,by decide +kernel,rfl,by decide +kernel,by decide +kernel⟩
theorem Qf:bD ["self", "word"] ["self", "word"] (aX yU):=⟨rfl,rfl,rfl,by decide +kernel,rfl,by decide +kernel,by decide +kernel⟩
theorem Qg:bD ["self"] ["self"] (aX yV):=⟨rfl,rfl,rfl,by decide +kernel,rfl,by decide +kernel,by decide +kernel⟩
theorem Fc:bD ["self", "numbers"] ["self"] (aX yW):=⟨rfl,rfl,rfl,by decide +kernel,rfl,by decide +kernel,by decide +kernel⟩
theorem Qh:bD ["self", "word"] ["self", "word"] (aX yX):=⟨rfl,rfl,rfl,by decide +kernel,rfl,by decide +kernel,by decide +kernel⟩
theorem Qi:bD ["self"] ["self"] (aX yY):=⟨rfl,rfl,rfl,by decide +kernel,rfl,by decide +kernel,by decide +kernel⟩
theorem oY:bD ["words", "asker", "latest", "behind"] ["words"] (aX yZ):=⟨rfl,rfl,rfl,by decide +kernel,rfl,by decide +kernel,by decide +kernel⟩
theorem oZ:bD ["words", "first", "many", "at", "more"] ["words"] (aX y9):=⟨rfl,rfl,rfl,by decide +kernel,rfl,by decide +kernel,by decide +kernel⟩
theorem o7:bD ["words", "early", "first", "marks", "at", "more"] ["words", "early"] (aX y_):=⟨rfl,rfl,rfl,by decide +kernel,rfl,by decide +kernel,by decide +kernel⟩
theorem Fd:bD ["words", "at"] ["words"] (aX za):=⟨rfl,rfl,rfl,by decide +kernel,rfl,by decide +kernel,by decide +kernel⟩
theorem zC:bD ["line", "words", "kind"] ["line"] (aX zc):=⟨rfl,rfl,rfl,by decide +kernel,rfl,by decide +kernel,by decide +kernel⟩
theorem Qj:bD ["_law_script", "_law_k"] ["_law_script", "_law_k"] (aX zd):=⟨rfl,rfl,rfl,by decide +kernel,rfl,by decide +kernel,by decide +kernel⟩
theorem o8:bD ["_law_cell", "_law_many", "_law_found", "_law_number_here", "_law_k"] ["_law_cell", "_law_many"] (aX ze):=⟨rfl,rfl,rfl,by decide +kernel,rfl,by decide +kernel,by decide +kernel⟩
theorem iO:bD ["_law_cell", "_law_xs", "_law_kind", "_law_at", "_law_first", "_law_many", "_law_marks", "_law_latest", "_law_some"] ["_law_cell"] (aX zf):=⟨rfl,rfl,rfl,by decide +kernel,rfl,by decide +kernel,by decide +kernel⟩
theorem mK:bD ["_law_one", "_law_words"] ["_law_one"] (aX zg):=⟨rfl,rfl,rfl,by decide +kernel,rfl,by decide +kernel,by decide +kernel⟩
theorem Qk:bD ["_law_found"] ["_law_found"] (aX zh):=⟨rfl,rfl,rfl,by decide +kernel,rfl,by decide +kernel,by decide +kernel⟩
theorem Ql:bD ["_law_found"] ["_law_found"] (aX zj):=⟨rfl,rfl,rfl,by decide +kernel,rfl,by decide +kernel,by decide +kernel⟩
theorem rQ:bD ["_law_ask", "_law_one", "_law_kind", "_law_number_here"] ["_law_ask", "_law_one"] (aX zm):=⟨rfl,rfl,rfl,by decide +kernel,rfl,by decide +kernel,by decide +kernel⟩
theorem Qm:bD ["_law_words", "_law_at"] ["_law_words", "_law_at"] (aX zo):=⟨rfl,rfl,rfl,by decide +kernel,rfl,by decide +kernel,by decide +kernel⟩
theorem Fe:bD ["_law_words", "_law_at", "_law_found"] ["_law_words", "_law_at"] (aX zp):=⟨rfl,rfl,rfl,by decide +kernel,rfl,by decide +kernel,by decide +kernel⟩
theorem lg:bD ["_law_words", "_law_at", "_law_found", "_law_word", "_law_behind"] ["_law_words", "_law_at"] (aX zq):=⟨rfl,rfl,rfl,by decide +kernel,rfl,by decide +kernel,by decide +kernel⟩
theorem rR:bD ["_law_line", "_law_words", "_law_some", "_law_tail_here"] ["_law_line"] (aX zu):=⟨rfl,rfl,rfl,by decide +kernel,rfl,by decide +kernel,by decide +kernel⟩
theorem Qn:bD ["_law_one"] ["_law_one"] (aX zw):=⟨rfl,rfl,rfl,by decide +kernel,rfl,by decide +kernel,by decide +kernel⟩
theorem rS:bD ["_law_xs", "_law_words"] ["_law_xs"] (aX zx):=⟨rfl,rfl,rfl,by decide +kernel,rfl,by decide +kernel,by decide +kernel⟩
theorem gA:bD ["_law_line", "_law_cell", "_law_xs", "_law_at", "_law_sign", "_law_words", "_law_both"] ["_law_line", "_law_cell"] (aX zy):=⟨rfl,rfl,rfl,by decide +kernel,rfl,by decide +kernel,by decide +kernel⟩
theorem rT:bD ["_law_line", "e", "_law_words"] ["_law_line"] (aX zA):=⟨rfl,rfl,rfl,by decide +kernel,rfl,by decide +kernel,by decide +kernel⟩
theorem mL:bD ["_law_script", "_law_cell", "_law_line", "_law_told_here", "_law_one"] ["_law_script"] (aX gz):=⟨rfl,rfl,rfl,by decide +kernel,rfl,by decide +kernel,by decide +kernel⟩
set_option genInjectivity false
set_option genSizeOf false
structure zD where
 rW:Addr
 rX:FuncData
 rY:Addr
 rZ:FuncData
 r9:Addr
 r_:FuncData
 se:Addr
 sq:FuncData
 sr:Addr
 su:FuncData
 sy:Addr
 sC:FuncData
 Qo:Tok
 sD:Addr
 sE:FuncData
 Qp:Tok
 sF:Addr
 sG:FuncData
 sH:Addr
 sI:FuncData
 sJ:Addr
 sL:FuncData
 sM:Addr
 sN:FuncData
 sO:Addr
 sP:FuncData
 sQ:Addr
 sR:FuncData
 sS:Addr
 sU:FuncData
 sV:Addr
 sW:FuncData
 sX:Addr
 sY:FuncData
 sZ:Addr
 s_:FuncData
 tu:Addr
 tw:FuncData
 tD:Addr
 tE:FuncData
 tF:Addr
 tG:FuncData
 tH:Addr
 tK:FuncData
 tL:Addr
 tM:FuncData
 tN:Addr
 tO:FuncData
 tQ:Addr
 tR:FuncData
 tT:Addr
 tU:FuncData
 tV:Addr
 tW:FuncData
 tX:Addr
 tY:FuncData
 tZ:Addr
 t_:FuncData
 uc:Addr
 ud:FuncData
 ue:Addr
 uf:FuncData
 ug:Addr
 uh:FuncData
 um:Addr
 uo:FuncData
 uq:Addr
 ur:FuncData
 uu:Addr
 uv:FuncData
 uw:Addr
 ux:FuncData
 uy:Addr
 uz:FuncData
 uA:Addr
 uB:FuncData
 uC:Addr
 uD:FuncData
 bA:Addr
 bq:Addr
 eX:Addr
 aP:Addr
 aQ:Addr
 eF:Addr
 eG:Addr
 fM:Addr
 eH:Addr
 o9:Tok
 o_:Tok
 pq:Tok
 pA:Tok
 pB:Tok
 pC:Tok
 pD:Tok
 pF:Tok
 pG:Tok
structure Tx(K:W.Frag)(mg:Str->Option Value)(A:zD):Prop where
 Ff:aO K "__init__" "Ask.__init__" yK A.rW A.rX
 uE:Binds K A.rX ["self", "kind", "first", "many", "marks", "at", "asker", "latest", "behind", "early"] []
 iP:aO K "check_between" "check_between" yL A.rY A.rZ
 jo:Binds K A.rZ ["number", "least", "greatest", "words"] []
 jq:mg "check_between" = some (.ref A.rY)
 zE:aO K "check_behind" "check_behind" yM A.r9 A.r_
 Fg:Binds K A.r_ ["behind"] []
 Fi:mg "check_behind" = some (.ref A.r9)
 uF:aO K "check_fields" "check_fields" yN A.se A.sq
 zF:Binds K A.sq ["first", "many", "at", "asker", "latest", "behind"] []
 zG:mg "check_fields" = some (.ref A.se)
 uG:aO K "told_behind" "told_behind" yO A.sr A.su
 zH:Binds K A.su ["behind"] []
 zI:mg "told_behind" = some (.ref A.sr)
 zJ:nW K "reading" "reading" gv A.sy A.sC
 Fj:Binds K A.sC ["first", "many", "at", "asker", "latest", "behind"] []
 Fo:mg "reading" = some (.ref A.sy)
 zK:nW K "writing" "writing" gw A.sD A.sE
 Fp:Binds K A.sE ["first", "marks", "at", "asker", "latest", "behind", "early"] []
 Fq:mg "writing" = some (.ref A.sD)
 zL:aO K "resting" "resting" yP A.sF A.sG
 Ft:Binds K A.sG ["at"] []
 Fv:mg "resting" = some (.ref A.sF)
 zM:aO K "is_number" "is_number" yQ A.sH A.sI
 Fw:Binds K A.sI ["word"] []
 Fx:mg "is_number" = some (.ref A.sH)
 Fy:aO K "__init__" "Words.__init__" yR A.sJ A.sL
 Fz:Binds K A.sL ["self", "line"] []
 FA:aO K "upcoming" "Words.upcoming" yS A.sM A.sN
 jr:Binds K A.sN ["self"] []
 jt:Meth K A.bq "upcoming" A.sM
 FD:aO K "has_number" "Words.has_number" yT A.sO A.sP
 zN:Binds K A.sP ["self"] []
 zO:Meth K A.bq "has_number" A.sO
 FE:aO K "take_word" "Words.take_word" yU A.sQ A.sR
 uH:Binds K A.sR ["self", "word"] []
 uI:Meth K A.bq "take_word" A.sQ
 FF:aO K "take_number" "Words.take_number" yV A.sS A.sU
 pH:Binds K A.sU ["self"] []
 pI:Meth K A.bq "take_number" A.sS
 FG:aO K "take_numbers" "Words.take_numbers" yW A.sV A.sW
 zP:Binds K A.sW ["self"] []
 zQ:Meth K A.bq "take_numbers" A.sV
 FH:aO K "take_number_behind" "Words.take_number_behind" yX A.sX A.sY
 j3:Binds K A.sY ["self", "word"] []
 j4:Meth K A.bq "take_number_behind" A.sX
 FI:aO K "take_end" "Words.take_end" yY A.sZ A.s_
 zR:Binds K A.s_ ["self"] []
 zS:Meth K A.bq "take_end" A.sZ
 uJ:aO K "take_more" "take_more" yZ A.tu A.tw
 zT:Binds K A.tw ["words"] []
 zU:mg "take_more" = some (.ref A.tu)
 zW:aO K "read_of" "read_of" y9 A.tD A.tE
 FJ:Binds K A.tE ["words"] []
 FL:mg "read_of" = some (.ref A.tD)
 zX:aO K "write_of" "write_of" y_ A.tF A.tG
 FN:Binds K A.tG ["words", "early"] []
 FO:mg "write_of" = some (.ref A.tF)
 zY:aO K "rest_of" "rest_of" za A.tH A.tK
 FP:Binds K A.tK ["words"] []
 FQ:mg "rest_of" = some (.ref A.tH)
 zZ:aO K "read_line" "read_line" zc A.tL A.tM
 FT:Binds K A.tM ["line"] []
 FU:mg "read_line" = some (.ref A.tL)
 z4:aO K "_law_cell_at" "_law_cell_at" zd A.tN A.tO
 FW:Binds K A.tO ["_law_script", "_law_k"] []
 FY:mg "_law_cell_at" = some (.ref A.tN)
 pJ:aO K "_law_stream" "_law_stream" ze A.tQ A.tR
 uK:Binds K A.tR ["_law_cell", "_law_many"] []
 uL:mg "_law_stream" = some (.ref A.tQ)
 z5:aO K "_law_drawn" "_law_drawn" zf A.tT A.tU
 FZ:Binds K A.tU ["_law_cell"] []
 F_:mg "_law_drawn" = some (.ref A.tT)
 z7:aO K "_law_text" "_law_text" zg A.tV A.tW
 Ga:Binds K A.tW ["_law_one"] []
 Gb:mg "_law_text" = some (.ref A.tV)
 pK:aO K "_law_whole" "_law_whole" zh A.tX A.tY
 uM:Binds K A.tY ["_law_found"] []
 uN:mg "_law_whole" = some (.ref A.tX)
 uO:aO K "_law_numbers" "_law_numbers" zj A.tZ A.t_
 z8:Binds K A.t_ ["_law_found"] []
 z9:mg "_law_numbers" = some (.ref A.tZ)
 z_:aO K "_law_same" "_law_same" zm A.uc A.ud
 Gd:Binds K A.ud ["_law_ask", "_law_one"] []
 Ge:mg "_law_same" = some (.ref A.uc)
 lq:aO K "_law_number" "_law_number" zo A.ue A.uf
 mO:Binds K A.uf ["_law_words", "_law_at"] []
 mQ:mg "_law_number" = some (.ref A.ue)
 uP:aO K "_law_run" "_law_run" zp A.ug A.uh
 Aa:Binds K A.uh ["_law_words", "_law_at"] []
 Ab:mg "_law_run" = some (.ref A.ug)
 Ac:aO K "_law_tail" "_law_tail" zq A.um A.uo
 Gf:Binds K A.uo ["_law_words", "_law_at"] []
 Gg:mg "_law_tail" = some (.ref A.um)
 Ad:aO K "_law_parsed" "_law_parsed" zu A.uq A.ur
 Gh:Binds K A.ur ["_law_line"] []
 Gi:mg "_law_parsed" = some (.ref A.uq)
 Ae:aO K "_law_good" "_law_good" zw A.uu A.uv
 Gj:Binds K A.uv ["_law_one"] []
 Gk:mg "_law_good" = some (.ref A.uu)
 uQ:aO K "_law_other_word" "_law_other_word" zx A.uw A.ux
 Af:Binds K A.ux ["_law_xs"] []
 Ag:mg "_law_other_word" = some (.ref A.uw)
 uR:aO K "_law_changed" "_law_changed" zy A.uy A.uz
 Ah:Binds K A.uz ["_law_line", "_law_cell"] []
 Ai:mg "_law_changed" = some (.ref A.uy)
 Aj:aO K "_law_told" "_law_told" zA A.uA A.uB
 Gm:Binds K A.uB ["_law_line"] []
 Gn:mg "_law_told" = some (.ref A.uA)
 Gp:aO K "law" "law" gz A.uC A.uD
 Qq:Binds K A.uD ["_law_script"] []
 Qs:mg "law" = some (.ref A.uC)
 ju:gf K A.bA
 uS:Mk K A.bA A.rW
 uT:mg "Ask" = some (.ref A.bA)
 Al:d8 K A.bA "kind"
 Am:d8 K A.bA "first"
 An:d8 K A.bA "many"
 mR:d8 K A.bA "marks"
 Ao:d8 K A.bA "at"
 Aq:d8 K A.bA "asker"
 uU:d8 K A.bA "latest"
 lu:d8 K A.bA "behind"
 As:d8 K A.bA "early"
 bK:gf K A.bq
 Gq:Mk K A.bq A.sJ
 Gr:mg "Words" = some (.ref A.bq)
 pL:d8 K A.bq "words"
 jv:d8 K A.bq "passed"
 Gs:mg "MOST_CELLS" = some (.int 16 A.o9)
 Gu:mg "GREATEST_FIRST" = some (.int 1000000 A.o_)
 Gv:mg "GREATEST_MARK" = some (.int 1000000000 A.pq)
 Au:mg "GREATEST_AT" = some (.int 1000000000000 A.pA)
 Gw:mg "GREATEST_ASKER" = some (.int 20 A.pB)
 Gx:mg "GREATEST_LATEST" = some (.int 10000000000000 A.pC)
 Gy:mg "GREATEST_BEHIND" = some (.int 99 A.pD)
 Gz:mg "FIGURES" = some (.str (PySem.Str.ofString "0123456789") A.pF)
 GA:mg "MOST_FIGURES" = some (.int 15 A.pG)
 uW:mg "all" = none
 pM:mg "bool" = none
 mS:mg "int" = none
 fD:mg "isinstance" = none
 cH:mg "len" = none
 lz:mg "range" = none
 pN:mg "set" = none
 pO:mg "sorted" = none
 gB:mg "str" = none
 ia:mg "tuple" = none
 uX:mg "ValueError" = none
 GB:mg "ArmError" = some (.ref A.eX)
 uY:W.excIn K A.eX [.type "ValueError",.type "Exception",.type "BaseException",.type "object"] "ValueError.__new__" = true
 GC:c_ K A.eX
 pP:mg "NoLine" = some (.ref A.aP)
 lA:W.excIn K A.aP [.type "ValueError",.type "Exception",.type "BaseException",.type "object"] "ValueError.__new__" = true
 GD:c_ K A.aP
 j5:jU K A.aP
 j6:(W.clsIn K A.aP).isSome=true
 Av:W.kitOne K (.ref A.aP) (.ref A.eX)=some true
 GF:subIn K A.aP (.ref A.eX)=true
 uZ:W.kitOne K (.ref A.aP) (.ref A.aP)=some true
 Qt:subIn K A.aP (.ref A.aP)=true
 u7:W.kitOne K (.ref A.aP) (.ref A.aQ)=some false
 Qu:subIn K A.aP (.ref A.aQ)=false
 u9:W.kitOne K (.ref A.aP) (.ref A.eF)=some false
 Qv:subIn K A.aP (.ref A.eF)=false
 u_:W.kitOne K (.ref A.aP) (.ref A.eG)=some false
 Qw:subIn K A.aP (.ref A.eG)=false
 vc:W.kitOne K (.ref A.aP) (.ref A.fM)=some false
 Qx:subIn K A.aP (.ref A.fM)=false
 vd:W.kitOne K (.ref A.aP) (.ref A.eH)=some false
 Qy:subIn K A.aP (.ref A.eH)=false
 ve:W.kitOne K (.ref A.aP) (.type "ValueError")=some true
 Aw:mg "NoAsk" = some (.ref A.aQ)
 pQ:W.excIn K A.aQ [.type "ValueError",.type "Exception",.type "BaseException",.type "object"] "ValueError.__new__" = true
 GG:c_ K A.aQ
 j7:jU K A.aQ
 j8:(W.clsIn K A.aQ).isSome=true
 Ax:W.kitOne K (.ref A.aQ) (.ref A.eX)=some true
 GH:subIn K A.aQ (.ref A.eX)=true
 vf:W.kitOne K (.ref A.aQ) (.ref A.aP)=some false
 Qz:subIn K A.aQ (.ref A.aP)=false
 vg:W.kitOne K (.ref A.aQ) (.ref A.aQ)=some true
 QA:subIn K A.aQ (.ref A.aQ)=true
 vh:W.kitOne K (.ref A.aQ) (.ref A.eF)=some false
 QB:subIn K A.aQ (.ref A.eF)=false
 vj:W.kitOne K (.ref A.aQ) (.ref A.eG)=some false
 QC:subIn K A.aQ (.ref A.eG)=false
 vm:W.kitOne K (.ref A.aQ) (.ref A.fM)=some false
 QD:subIn K A.aQ (.ref A.fM)=false
 vn:W.kitOne K (.ref A.aQ) (.ref A.eH)=some false
 QE:subIn K A.aQ (.ref A.eH)=false
 vo:W.kitOne K (.ref A.aQ) (.type "ValueError")=some true
 GI:mg "NoRule" = some (.ref A.eF)
 vp:W.excIn K A.eF [.type "ValueError",.type "Exception",.type "BaseException",.type "object"] "ValueError.__new__" = true
 QF:c_ K A.eF
 GJ:mg "NoBook" = some (.ref A.eG)
 vq:W.excIn K A.eG [.type "ValueError",.type "Exception",.type "BaseException",.type "object"] "ValueError.__new__" = true
 QG:c_ K A.eG
 GK:mg "NoOrder" = some (.ref A.fM)
 GL:mg "TooMany" = some (.ref A.eH)
 vt:W.excIn K A.eH [.type "ValueError",.type "Exception",.type "BaseException",.type "object"] "ValueError.__new__" = true
 QH:c_ K A.eH
local macro_rules | `(tactic| walk_at "rdt") => `(tactic| wp_walk using $(Lean.mkIdent `T))
section
variable{P:Program}{w:World}{K:W.Frag}{mg:Str->Option Value}{base:Heap}{A:zD}
theorem Ay(T:Tx K mg A):bg P w K mg base cz 1 A.rW A.rX ["self", "kind", "first", "many", "marks", "at", "asker", "latest", "behind", "early"] (LA A.bA):=by
 refine T.Ff.ok P6 (λvs H Q E h=>?_) (λaN Ar outer s H vs Q E hr h=>?_)
 ·obtain⟨p,dx,v1,v2,v3,v4,v5,v6,v7,v8,v9,rfl,_⟩:=h
  rfl
 ·obtain⟨p,dx,v1,v2,v3,v4,v5,v6,v7,v8,v9,rfl,hp,q⟩:=h;refine⟨_,(az (fR (pv 0) (pv 1) rfl)
   (az (fR (pv 0) (pv 2) rfl)
   (az (fR (pv 0) (pv 3) rfl)
   (az (fR (pv 0) (pv 4) rfl)
   (az (fR (pv 0) (pv 5) rfl)
   (az (fR (pv 0) (pv 6) rfl)
   (az (fR (pv 0) (pv 7) rfl)
   (az (fR (pv 0) (pv 8) rfl)
   (aD (fR (pv 0) (pv 9) rfl)))))))))),?_⟩
  wp_walk using T,hp;exact q
theorem vv(T:Tx K mg A):bg P w K mg base (cg P w base) 1 A.rY A.rZ ["number", "least", "greatest", "words"] (Mz A.aQ):=by
 refine T.iP.eB P7 (λvs H Q E h=>?_) (λaN Ar outer s H vs Q E hr h=>?_)
 ·obtain⟨n,lo,hi,w,rfl,_⟩:=h
  rfl
 ·obtain⟨n,lo,hi,w,rfl,q1,q2⟩:=h;refine⟨_,(aD (aY (PW.pt (dz (aM kG (pv 0) (pv 1) (aH _)) (fQ (aM gc (pv 0) (pv 2) (aH _))))) (aD (qQ qT rfl T.Aw T.pQ PySem.F.excBase_ValueError rfl (aa (pv 3) ak))) bf)),?_⟩;walk_at "rdm";exact aT (λh1=>q2 (by lia)) λh1=>aT (λh2=>q2 (by lia)) λh2=>q1 ⟨by lia,by lia⟩
theorem GN(T:Tx K mg A):bg P w K mg base cz 1 A.sr A.su ["behind"] (Lz K):=by
 refine T.uG.ok P9 (λvs H Q E h=>?_) (λaN Ar outer s H vs Q E hr h=>?_)
 ·obtain⟨v,ns,rfl,_⟩:=h
  rfl
 ·obtain⟨v,ns,rfl,hv,q⟩:=h;refine⟨_,(aD (aV (m5 (aM lQ (pv 0) bX (aH _)) (dB ak) (d_ kM rfl T.ia boot_tuple (aa (pv 0) ak))))),?_⟩;walk_at "rdm";rcases hv with⟨rfl,rfl⟩ | ⟨a,rfl,hS | hS⟩
  ·exact ite_yes rfl λt nt=>q t _ (ah.put nt) aq
  ·exact ite_no (by simp) ⟨a,rfl,_,.inl ⟨hS,λl nl=>q l _ (ah.put nl) aq⟩⟩
  ·exact ite_no (by simp) ⟨a,rfl,_,.inr ⟨aK.of hS,q a _ (ah.refl _) hS⟩⟩
theorem QI(T:Tx K mg A):bg P w K mg base cz 1 A.sH A.sI ["word"] Oz:=by
 refine T.zM.ok Qa (λvs H Q E h=>?_) (λaN Ar outer s H vs Q E hr h=>?_)
 ·obtain⟨w,rfl,_⟩:=h
  rfl
 ·obtain⟨w,rfl,hl,q⟩:=h;refine⟨_,(az (aY (PW.pt (dz (aM kG (bO nJ rfl T.cH boot_len (aa (pv 0) ak)) aj (aH _)) (fQ (aM gc (bO nJ rfl T.cH boot_len (aa (pv 0) ak)) (eL (v:=.int 15) rfl T.GA ⟨_,rfl⟩) (aH _))))) (aD (aV dw)) bf)
   (az (aY (PW.pt (qj (aM cD (aC wU (pv 0) aj (λ_ _=>rfl)) aE (aH _)) (qi (aM gb (pv 0) aE (aH _))))) (aD (aV dw)) bf)
   (aD (aV (bO (Ls rfl) rfl T.uW boot_all (aa (jP (N:=["sign"]) (nt:=1) (fv:=[]) (cF.of rfl rfl (by rfl) (by rfl) (by repeat (first | exact trivial | refine⟨rfl,?_⟩)) (by rfl) (by rfl) (by rfl) (by decide) (by decide +kernel)) rfl (DY (pv 0)) (λC s H fp=>(eN (i:=0) (show List.Nodup (["sign"]:List Str) by decide +kernel) rfl (Or.inl rfl))) (λC s H fp=>nM) (λC s H fp=>(jL JI (pv 0) (eL (v:=.str (PySem.Str.ofString "0123456789")) rfl T.Gz ⟨_,rfl⟩) rfl))) ak)))))),?_⟩
  walk_at "rdm";have l0:w.length<=16777216:=by lia
  refine⟨l0,aT (λh=>?_) λh1=>⟨l0,aT (λh=>?_) λh2=>?_⟩⟩
  ·rw[← D8 (w:=w) (by lia)];exact q _ (ah.refl _)
  ·rw[← D9 (w:=w) (by lia)];exact q _ (ah.refl _)
  ·obtain⟨c,hc⟩:∃c,w.cps[0]? = some c:=by
    have:0<w.cps.size:=by have:w.length=w.cps.size:=rfl;lia
    exact⟨_,Array.getElem?_eq_getElem this⟩
   refine⟨w,0,c,rfl,rfl,l0,gi (j:=0) (by rw[Array.getElem?_toList];exact hc),rfl,?_⟩
   refine aT (λh3=>aT (λh4=>?_) λh4=>?x) λh3=>?y
   ·rw[← Eb (w:=w) (by rw[hc];have:=V.str.inj h3;exact congrArg some (D_ this)) h4];exact q _ (ah.refl _)
   all_goals
    refine DZ w (λD i ys au H2=>ys=(w.cps.toList.take i).map (λc=>V.bl (decide (48<=c/\c<=57)))/\H2 D=some (.lst ys)/\ah H H2/\H D=none/\i<=w.cps.size/\∃u,au = [u]) (λQ q=>⟨_,rfl,q⟩) ?_ ?_ ?_ ?_
    ·intro D hD;exact⟨rfl,aq,ah.put hD,hD,Nat.zero_le _,_,rfl⟩
    ·rintro D i ys au H2 ⟨rfl,e1,e2,e3,e4,_⟩;refine⟨e1,gS ?_⟩;rw[List.length_map,List.length_take];have:w.cps.toList.length=w.length:=by rw[Array.length_toList];rfl
     lia
    ·rintro D i cc ys au H2 N hN hx ⟨rfl,e1,e2,e3,e4,u,rfl⟩;walk_at "rdm";rw[StrLaws.found_one,Ed];refine⟨e1,hN _ _ _ ⟨?_,aq,ah.put2 e2 e3,e3,?_,_,rfl⟩⟩
     ·rw[take_succ_get (by rw[Array.getElem?_toList];exact hx),List.map_append];rfl
     ·have:=(Array.getElem?_eq_some_iff.mp hx).1;lia
    ·rintro D ys au H2 ⟨rfl,e1,e2,e3,e4,u,rfl⟩;rw[← Array.length_toList,List.take_length] at e1;refine⟨D,rfl,w.cps.toList.map (λc=>decide (48<=c/\c<=57)),?_,?_⟩
     ·rw[List.map_map];exact ao.of e1
     ·rw[List.all_map,← Ec (w:=w) (by lia) (by lia) (by rw[hc];first | exact λ_=>Classical.byContradiction h4 | exact λz=>absurd (congrArg V.str (Ea (Option.some.inj z))) h3)]
      exact q _ e2
theorem QJ(T:Tx K mg A):bg P w K mg base cz 1 A.sJ A.sL ["self", "line"] (OA A.bq):=by
 refine T.Fy.ok Qc (λvs H Q E h=>?_) (λaN Ar outer s H vs Q E hr h=>?_)
 ·obtain⟨p,dx,z,rfl,_⟩:=h
  rfl
 ·obtain⟨p,dx,z,rfl,hp,hz,q⟩:=h;refine⟨_,(az (fR (pv 0) (gj PySem.F.plainAttrs_str PySem.F.slot_str_split PySem.F.type_str_split yq (pv 1) (aa aE ak)) rfl)
   (aD (fR (pv 0) aj rfl))),?_⟩
  walk_at "rdm";have j1:=hz.1;have j2:=hz.2;refine⟨_,blank,rfl,rfl,by decide,by rw[sizeLine_eq];lia,by rw[sizeLine_eq];lia,λl nl=>?_⟩
  exact⟨A.bq,dx,[],ah.put nl _ _ hp,T.bK,T.pL,by simp,T.bK,T.jv,by simp[d7],q l _ (SameBut.put (SameBut.of (ah.put nl))) nl ⟨_,0,Nat.zero_le _,⟨aq,by rw[bF (λz=>by rw[z] at nl;rw[nl] at hp;cases hp)];exact aq⟩,rfl,ED hz⟩⟩
theorem pR(T:Tx K mg A):bg P w K mg base cz 1 A.sM A.sN ["self"] (OB A.bq):=by
 refine T.FA.ok Qd (λvs H Q E h=>?_) (λaN Ar outer s H vs Q E hr h=>?_)
 ·obtain⟨p,dx,l,r,rfl,_⟩:=h
  rfl
 ·obtain⟨p,dx,l,r,rfl,bM,q⟩:=h;obtain⟨ws,k,vA,hw,hd,dR⟩:=bM.ex;refine⟨_,(aD (aV (m5 (aM kG (cE (pv 0) rfl) (bO eg rfl T.cH boot_len (aa (cE (pv 0) rfl) ak)) (aH _)) (aC aW (cE (pv 0) rfl) (cE (pv 0) rfl) (λ_ _=>rfl)) bX))),?_⟩;wp_walk using T,hw.o;refine⟨_,.inl (ao.of hw.w),?_⟩;rw[List.length_map];rw[← OM vA hd] at q;unfold oK at q;refine aT (λh=>?_) λh=>?_
  ·have hk:k<ws.length:=by lia
   rw[List.getElem?_eq_getElem hk] at q;exact⟨_,ao.of hw.w,_,gi (by rw[List.getElem?_map,List.getElem?_eq_getElem hk];rfl),q⟩
  ·rw[List.getElem?_eq_none (by lia)] at q
   exact q
theorem QK(T:Tx K mg A):bg P w K mg base cz 1 A.tN A.tO ["_law_script", "_law_k"] (xy K):=by
 refine T.z4.ok Qj (λvs H Q E h=>?_) (λaN Ar outer s H vs Q E hr h=>?_)
 ·obtain⟨a,ns,k,rfl,_⟩:=h
  rfl
 ·obtain⟨a,ns,k,rfl,hS,hl,hk,q⟩:=h;refine⟨_,(az (aY (aM kG (pv 1) (bO eg rfl T.cH boot_len (aa (pv 0) ak)) (aH _)) (aD (aV (aC aW (pv 0) (pv 1) (λ_ _=>rfl)))) bf)
   (aD (aV aj))),?_⟩
  walk_at "rdm";refine⟨_,.inl hS,aT (λbC=>⟨_,hS,_,nR hk (by simpa using bC),q⟩) λQL=>?_⟩
  have e:xx ns k=0:=by
   unfold xx;rw[List.length_map] at QL;rw[List.getD_eq_getElem?_getD,List.getElem?_eq_none (by lia)];rfl
  rw[e] at q;exact q
theorem Az(T:Tx K mg A):bg P w K mg base cz 1 A.tQ A.tR ["_law_cell", "_law_many"] Oa:=by
 refine T.pJ.ok o8 (λvs H Q E h=>?_) (λaN Ar outer s H vs Q E hr h=>?_)
 ·obtain⟨c,m,rfl,_⟩:=h
  rfl
 ·obtain⟨c,m,rfl,m0,m1,q⟩:=h;refine⟨_,(az (aU (i:=2) o8.nd rfl (Or.inl rfl) (bG ak))
   (az (aU (i:=3) o8.nd rfl (Or.inl rfl) (aA bQ (aA bI (pv 0) aj) aj))
   (az (lP PassesOwn.never rfl (wB rfl T.lz (aa (aA bQ (pv 1) aj) ak)) (eN (i:=4) o8.nd rfl (Or.inl rfl))
   (az (aU (i:=3) o8.nd rfl (Or.inl rfl) (aA bI (aA bQ (aA bQ (aA nj (pv 3) (pv 3)) (aA nj aj (pv 3))) (pv 4)) aj))
   (aD (cJ (gj PySem.F.plainAttrs_list PySem.F.slot_list_append PySem.F.type_list_append i7 (pv 2) (aa (pv 3) ak))))))
   (aD (aV (cK dP (pv 2) (cy aj) c8)))))),?_⟩
  walk_at "rdm";intro p hp;refine Lp (m+1) (λi σ H'=>∃(x4:Option V) (nn:Int) (ns:List Int),σ = [some (.int c),some (.int m),some (.ref p),some (.int nn),x4]/\H' = upd H p (.lst (ns.map V.int))/\ns.length=i/\0<=nn/\nn<2147531918/\∀x∈ns,0<=x/\x<2147483647) (λQ q=>?_) (by lia) (by lia) ⟨none,_,[],rfl,rfl,rfl,by lia,by lia,λ_ h=>nomatch h⟩ ?_ ?_
  ·walk_at "rdm";exact q
  ·rintro i σ H' N hN hi ⟨x4,nn,ns,rfl,rfl,hn,n0,n1,nb⟩;walk_at "rdm";have k0:=Int.emod_nonneg (nn*nn+48271*nn+(i:Int)) (show (2147483647:Int)≠0 by decide)
   have k1:=Int.emod_lt_of_pos (nn*nn+48271*nn+(i:Int)) (show (0:Int)<2147483647 by decide)
   refine⟨.inl ⟨by lia,by lia⟩,⟨_,ao.of aq⟩,by lia,hN _ _ ⟨_,_,ns++[(nn*nn+48271*nn+(i:Int)) % 2147483647],rfl,?_,by simp[hn],k0,by lia,λx hx=>?_⟩⟩
   ·rw[List.map_append];rfl
   ·rcases List.mem_append.mp hx with hx | hx
    ·exact nb x hx
    ·rw[List.mem_singleton.mp hx];exact⟨k0,k1⟩
  ·rintro σ H' ⟨x4,nn,ns,rfl,rfl,hn,n0,n1,nb⟩;walk_at "rdm";refine⟨_,ao.of aq,λl hl=>?_⟩;have QM:l≠p:=(fO aq hl).symm;have GO:H l=none:=by rw[bF QM] at hl;exact hl
   refine q l (ns.drop 1) _ (ah.put2 (ah.put hp) GO) GO ?_ ⟨by rw[List.length_drop];lia,λx hx=>nb x (List.mem_of_mem_drop hx)⟩
   rw[aq,El (by lia)]
theorem QN(T:Tx K mg A):bg P w K mg base cz 1 A.tV A.tW ["_law_one"] Ob:=by
 refine T.z7.ok mK (λvs H Q E h=>?_) (λaN Ar outer s H vs Q E hr h=>?_)
 ·obtain⟨t,m,b,q,rfl,_⟩:=h
  rfl
 ·obtain⟨t,m,b,q,rfl,ha,ok,k⟩:=h;have dX:=hr.kJ;refine⟨_,(az (aU (i:=1) mK.nd rfl (Or.inl rfl) (bG (aa (aC bE (pv 0) aj (λ_ _=>rfl)) ak)))
   (az (b6 (aY (aM gb (aC bE (pv 0) aj (λ_ _=>rfl)) aE (aH _)) (aD (cJ (gj PySem.F.plainAttrs_list PySem.F.slot_list_append PySem.F.type_list_append i7 (pv 1) (aa (d_ jM rfl T.gB boot_str (aa (aC bE (pv 0) aj (λ_ _=>rfl)) ak)) ak)))) bf))
   (az (b6 (aY (aM cD (aC bE (pv 0) aj (λ_ _=>rfl)) aE (aH _)) (aD (cJ (gj PySem.F.plainAttrs_list PySem.F.slot_list_append PySem.F.type_list_append i7 (pv 1) (aa (d_ jM rfl T.gB boot_str (aa (aC bE (pv 0) aj (λ_ _=>rfl)) ak)) ak)))) bf))
   (az (b6 (aU (i:=1) mK.nd rfl (Or.inl rfl) (aA dD (aA dD (pv 1) (jP (N:=["_law_mark"]) (nt:=1) (fv:=[]) (cF.of rfl rfl (by rfl) (by rfl) (by repeat (first | exact trivial | refine⟨rfl,?_⟩)) (by rfl) (by rfl) (by rfl) (by decide) (by decide +kernel)) rfl (lM (aC bE (pv 0) aj (λ_ _=>rfl))) (λC s H fp=>(eN (i:=0) (show List.Nodup (["_law_mark"]:List Str) by decide +kernel) rfl (Or.inl rfl))) (λC s H fp=>nM) (λC s H fp=>(d_ jM rfl T.gB boot_str (aa (pv 0) ak))))) (bG (aa aE (aa (d_ jM rfl T.gB boot_str (aa (aC bE (pv 0) aj (λ_ _=>rfl)) ak)) ak))))))
   (az (b6 (aY (aM gb (aC bE (pv 0) aj (λ_ _=>rfl)) aj (aH _)) (aD (aU (i:=1) mK.nd rfl (Or.inl rfl) (aA dD (pv 1) (bG (aa aE (aa (d_ jM rfl T.gB boot_str (aa (aC bE (pv 0) aj (λ_ _=>rfl)) ak)) ak)))))) bf))
   (az (b6 (aY (aM kH (aC bE (pv 0) aj (λ_ _=>rfl)) bX (aH _)) (aD (aU (i:=1) mK.nd rfl (Or.inl rfl) (aA dD (pv 1) (bG (aa aE (aa (d_ jM rfl T.gB boot_str (aa (aC bE (pv 0) aj (λ_ _=>rfl)) ak)) ak)))))) bf))
   (az (b6 (aY (aM (Em dX) (aC bE (pv 0) aj (λ_ _=>rfl)) (dB ak) (aH _)) (aD (aU (i:=1) mK.nd rfl (Or.inl rfl) (aA dD (aA dD (pv 1) (bG (aa aE ak))) (jP (N:=["_law_number_here"]) (nt:=1) (fv:=[]) (cF.of rfl rfl (by rfl) (by rfl) (by repeat (first | exact trivial | refine⟨rfl,?_⟩)) (by rfl) (by rfl) (by rfl) (by decide) (by decide +kernel)) rfl (lM (aC bE (pv 0) aj (λ_ _=>rfl))) (λC s H fp=>(eN (i:=0) (show List.Nodup (["_law_number_here"]:List Str) by decide +kernel) rfl (Or.inl rfl))) (λC s H fp=>nM) (λC s H fp=>(d_ jM rfl T.gB boot_str (aa (pv 0) ak))))))) bf))
   (aD (aV (gj PySem.F.plainAttrs_str PySem.F.slot_str_join PySem.F.type_str_join DR aE (aa (pv 1) ak))))))))))),?_⟩
  walk_at "rdt";have F:=ok.facts;obtain⟨m1,m2,m3⟩:=ok.fm;obtain⟨b1,b2⟩:=Of q;have l0:=Eh F;have l1:=Ei F;have l2:=N_ F;refine⟨_,aK.of ha.o,_,rfl,λp np=>?_⟩;refine⟨mq H t (NA q),?_,?_⟩
  ·have dj:=ha.same (ah.put (o:=.lst [V.str (kw q)]) np);refine⟨_,aK.of dj.o,_,rfl,rfl,aT (λg=>?_) λg=>?_⟩
   ·refine⟨⟨_,ao.of aq⟩,_,aK.of dj.o,_,rfl,_,rfl,jY m1,p,rfl,ah.put np,np,?_⟩;rw[aq];unfold NA;rw[if_neg λz=>g (congrArg V.str ((Eo ok).mpr z))];rfl
   ·refine⟨p,rfl,ah.put np,np,?_⟩;rw[aq];unfold NA;rw[if_pos ((Eo ok).mp (V.str.inj (Classical.byContradiction g)))];rfl
  rintro σ H1 ⟨l,rfl,s1,nl,h1⟩;have dj:=ha.same s1;walk_at "rdt";refine⟨mq H t (NB q),?_,?_⟩
  ·refine⟨_,aK.of dj.o,_,rfl,rfl,aT (λg=>?_) λg=>?_⟩
   ·refine⟨⟨_,ao.of h1⟩,_,aK.of dj.o,_,rfl,_,rfl,jY m2,_,h1,by simp;lia,l,rfl,ah.put2 s1 nl,nl,?_⟩
    rw[aq];unfold NB;rw[if_pos ((Ep ok).mp (V.str.inj g)),List.map_append];rfl
   ·refine⟨l,rfl,s1,nl,?_⟩;unfold NB;rw[if_neg λz=>g (congrArg V.str ((Ep ok).mpr z))];exact h1
  rintro σ H1 ⟨l,rfl,s1,nl,h1⟩;have dj:=ha.same s1;walk_at "rdt";refine⟨mq H t (W0 q),?_,?_⟩
  ·refine mj m (q.marks.map V.int) (λD i ys au H2=>ys=((q.marks.take i).map tx).map V.str/\H2 D=some (.lst ys)/\ah H1 H2/\H1 D=none/\i<=q.marks.length/\∃u,au = [u]) (λQ k=>?_) (aK.of dj.ms) ?_ ?_ ?_ ?_
   ·walk_at "rdm";exact⟨_,aK.of dj.o,_,rfl,k⟩
   ·intro D hD;exact⟨rfl,aq,ah.put hD,hD,Nat.zero_le _,_,rfl⟩
   ·rintro D i ys au H2 ⟨rfl,e1,e2,e3,e4,_⟩;refine⟨e1,gS ?_,aK.of (e2 _ _ dj.ms)⟩;have:=F.ml;rw[List.length_map,List.length_map,List.length_take];lia
   ·rintro D i x ys au H2 N hN hx ⟨rfl,e1,e2,e3,e4,u,rfl⟩;obtain⟨n,cI,rfl⟩:=gk hx;walk_at "rdm";refine⟨jY (m3 n (get_mem cI)),e1,hN _ _ _ ⟨?_,aq,ah.put2 e2 e3,e3,gW cI,_,rfl⟩⟩;rw[take_succ_get cI,List.map_append,List.map_append];rfl
   ·rintro D ys au H2 ⟨rfl,e1,e2,e3,e4,u,rfl⟩;rw[List.length_map,List.take_length] at e1;have ml:=F.ml;refine⟨D,rfl,_,e2 _ _ h1,_,e1,by simp;lia,λp2 n2=>?_⟩
    have vB:=dj.same (e2.trans (ah.put (o:=.lst ((NB q).map V.str++(q.marks.map tx).map V.str)) n2));refine⟨_,aK.of vB.o,_,rfl,_,rfl,jY F.N7,λp3 n3=>⟨_,ah.put n3 _ _ aq,by simp;lia,λp4 n4=>?_⟩⟩
    have sa:=s1.trans (e2.trans ((ah.put n2).trans (ah.put (o:=.lst [V.str (Str.ofString "at"),V.str (tx q.at_)]) n3)));refine⟨p4,rfl,sa.trans (ah.put n4),sa.back n4,?_⟩;rw[aq,← Oe ok,List.map_append,List.map_append];rfl
  rintro σ H1 ⟨l,rfl,s1,nl,h1⟩;have dj:=ha.same s1;walk_at "rdt";refine⟨mq H t (W1 q),?_,?_⟩
  ·refine⟨_,aK.of dj.o,_,rfl,rfl,aT (λg=>?_) λg=>?_⟩
   ·have e:fL q=some q.cO:=if_neg λz=>g (by rw[z])
    refine⟨_,aK.of dj.o,_,rfl,_,rfl,jY F.N8,λp2 n2=>⟨_,ah.put n2 _ _ h1,by simp;lia,λp3 n3=>?_⟩⟩
    have sa:=s1.trans (ah.put (o:=.lst [V.str (Str.ofString "for"),V.str (tx q.cO)]) n2);refine⟨p3,rfl,sa.trans (ah.put n3),sa.back n3,?_⟩;rw[aq];unfold W1;rw[e,List.map_append];rfl
   ·have e:fL q=none:=if_pos (V.int.inj (Classical.byContradiction g));refine⟨l,rfl,s1,nl,?_⟩;unfold W1;rw[e,List.append_nil];exact h1
  rintro σ H1 ⟨l,rfl,s1,nl,h1⟩;have dj:=ha.same s1;walk_at "rdt";refine⟨mq H t (W2 q),?_,?_⟩
  ·refine⟨_,aK.of dj.o,_,rfl,?_⟩;cases el:q.eV with
   | none =>
    rw[if_neg (show ¬ ¬ b_ none=V.aF from λz=>z rfl)];refine⟨l,rfl,s1,nl,?_⟩;unfold W2;rw[el,List.append_nil];exact h1
   | some x =>
    rw[if_pos (show ¬ b_ (some x)=V.aF from λz=>V.noConfusion z)];refine⟨_,aK.of dj.o,_,rfl,x,by rw[el];rfl,jY (F.la x el),λp2 n2=>⟨_,ah.put n2 _ _ h1,by simp;lia,λp3 n3=>?_⟩⟩
    have sa:=s1.trans (ah.put (o:=.lst [V.str (Str.ofString "by"),V.str (tx x)]) n2)
    refine⟨p3,rfl,sa.trans (ah.put n3),sa.back n3,?_⟩;rw[aq];unfold W2;rw[el,List.map_append];rfl
  rintro σ H1 ⟨l,rfl,s1,nl,h1⟩;have dj:=ha.same s1;walk_at "rdt";refine⟨mq H t (W3 q),?_,?_⟩
  ·refine⟨_,aK.of dj.o,_,rfl,λp2 n2=>⟨b,rfl,q.behind,ah.put n2 _ _ dj.bh,[],rfl,aT (λg=>λp3 n3=>⟨_,ah.put n3 _ _ (ah.put n2 _ _ h1),by simp;lia,λp4 n4=>?_⟩) λg=>?_⟩⟩
   ·have t4:=(ah.put (o:=.tup []) n2).trans ((ah.put (o:=.lst [V.str (Str.ofString "behind")]) n3).trans (ah.put (o:=.lst ((W2 q).map V.str++[V.str (Str.ofString "behind")])) n4));have s4:=s1.trans t4;have gC:=dj.same t4;have h4:=aq (H:=upd (upd H1 p2 (.tup [])) p3 (.lst [V.str (Str.ofString "behind")])) (a:=p4) (o:=.lst ((W2 q).map V.str++[V.str (Str.ofString "behind")]));generalize upd (upd (upd H1 p2 (.tup [])) p3 (.lst [V.str (Str.ofString "behind")])) p4 (.lst ((W2 q).map V.str++[V.str (Str.ofString "behind")]))=H4 at *
    have bl:=F.bl;refine mj b (q.behind.map V.int) (λD i ys au H2=>ys=((q.behind.take i).map tx).map V.str/\H2 D=some (.lst ys)/\ah H4 H2/\H4 D=none/\i<=q.behind.length/\∃u,au = [u]) (λQ k=>?_) (aK.of gC.bh) ?_ ?_ ?_ ?_
    ·walk_at "rdm";exact⟨_,aK.of gC.o,_,rfl,k⟩
    ·intro D hD;exact⟨rfl,aq,ah.put hD,hD,Nat.zero_le _,_,rfl⟩
    ·rintro D i ys au H2 ⟨rfl,e1,e2,e3,e4,_⟩;refine⟨e1,gS ?_,aK.of (e2 _ _ gC.bh)⟩;rw[List.length_map,List.length_map,List.length_take];lia
    ·rintro D i x ys au H2 N hN hx ⟨rfl,e1,e2,e3,e4,u,rfl⟩;obtain⟨n,cI,rfl⟩:=gk hx;walk_at "rdm";refine⟨jY (F.bh n (get_mem cI)),e1,hN _ _ _ ⟨?_,aq,ah.put2 e2 e3,e3,gW cI,_,rfl⟩⟩;rw[take_succ_get cI,List.map_append,List.map_append];rfl
    ·rintro D ys au H2 ⟨rfl,e1,e2,e3,e4,u,rfl⟩;rw[List.length_map,List.take_length] at e1;refine⟨D,rfl,_,e2 _ _ h4,_,e1,by simp;lia,λp5 n5=>⟨p5,rfl,s4.trans (e2.trans (ah.put n5)),(s4.trans e2).back n5,?_⟩⟩
     rw[aq];unfold W3;rw[if_neg g];simp
   ·refine⟨l,rfl,s1.trans (ah.put n2),nl,?_⟩;unfold W3;rw[if_pos (Classical.byContradiction g),List.append_nil];exact ah.put n2 _ _ h1
  rintro σ H1 ⟨l,rfl,s1,nl,h1⟩;walk_at "rdt";rw[N9] at h1;exact⟨blank,l,_,rfl,rfl,ao.of h1,(N5 ok (Ej q)).sum,k _ s1⟩
theorem GP(T:Tx K mg A):bg P w K mg base cz 1 A.tX A.tY ["_law_found"] Oc:=by
 refine T.pK.ok Qk (λvs H Q E h=>?_) (λaN Ar outer s H vs Q E hr h=>?_)
 ·obtain⟨i,rfl,_⟩:=h
  rfl
 ·obtain⟨i,rfl,q⟩:=h;refine⟨_,(aD (aV (mZ (bO nQ rfl T.fD boot_isinstance (aa (pv 0) (aa (lJ (v:=.ty "int") rfl T.mS boot_int rfl) ak))) (mY (Jh (bO nQ rfl T.fD boot_isinstance (aa (pv 0) (aa (lJ (v:=.ty "bool") rfl T.pM boot_bool rfl) ak)))))))),?_⟩;walk_at "rdt";exact⟨_,.int i,_,rfl,ite_yes rfl ⟨_,.int i,_,rfl,q⟩⟩
theorem AA(T:Tx K mg A):bg P w K mg base cz 1 A.ue A.uf ["_law_words", "_law_at"] OT:=by
 refine T.lq.ok Qm (λvs H Q E h=>?_) (λaN Ar outer s H vs Q E hr h=>?_)
 ·obtain⟨l,ws,k,rfl,_⟩:=h
  rfl
 ·obtain⟨l,ws,k,rfl,hl,dR,q⟩:=h;have dX:=hr.kJ;refine⟨_,(az (aY (PW.pt (dz (aM JH (pv 1) (bO eg rfl T.cH boot_len (aa (pv 0) ak)) (aH _)) (dz (aM cD (aC aW (pv 0) (pv 1) (λ_ _=>rfl)) aE (aH _)) (fQ (aM gc (bO nJ rfl T.cH boot_len (aa (aC aW (pv 0) (pv 1) (λ_ _=>rfl)) ak)) aj (aH _)))))) (aD (aV bX)) bf)
   (az (aY (aM (rC dX) (jP (N:=["_law_sign"]) (nt:=1) (fv:=[]) (cF.of rfl rfl (by rfl) (by rfl) (by repeat (first | exact trivial | refine⟨rfl,?_⟩)) (by rfl) (by rfl) (by rfl) (by decide) (by decide +kernel)) rfl (DY (aC aW (pv 0) (pv 1) (λ_ _=>rfl))) (λC s H fp=>(eN (i:=0) (show List.Nodup (["_law_sign"]:List Str) by decide +kernel) rfl (Or.inl rfl))) (λC s H fp=>(nN (aM KC (pv 0) aE rfl))) (λC s H fp=>(pv 0))) (bG ak) (aH _)) (aD (aV bX)) bf)
   (az (aY (PW.pt (qj (aM gc (bO nJ rfl T.cH boot_len (aa (aC aW (pv 0) (pv 1) (λ_ _=>rfl)) ak)) aj (aH _)) (qi (aM cD (aC wU (aC aW (pv 0) (pv 1) (λ_ _=>rfl)) aj (λ_ _=>rfl)) aE (aH _))))) (aD (aV bX)) bf)
   (aD (aV (d_ DT rfl T.mS boot_int (aa (aC aW (pv 0) (pv 1) (λ_ _=>rfl)) ak))))))),?_⟩
  walk_at "rdt";refine⟨_,.inl (ao.of hl),?_⟩;rw[List.length_map];refine aT (λg=>?_) λg=>?_
  ·rw[O2 (by lia)] at q
   exact q _ (ah.refl _)
  have hk:k<ws.length:=by lia
  have hw:=List.getElem?_eq_getElem hk;have wl:=dR.2 _ (List.getElem_mem hk);generalize ws[k] = w at hw wl;rw[O3 hw] at q;have ix:c9 (ws.map V.str) (k:Int)=some (.str w):=gi (by rw[List.getElem?_map,hw];rfl)
  have no:isNum w=false->∀H',ah H H'->Q .aF H':=λe=>by
   rw[e,if_neg (by decide)] at q;exact q
  refine⟨_,ao.of hl,_,ix,rfl,aT (λg1=>?_) λg1=>⟨_,ao.of hl,_,ix,w,rfl,by lia,aT (λg2=>?_) λg2=>?_⟩⟩
  ·exact no (D8 (by rw[V.str.inj g1];decide)) _ (ah.refl _)
  ·exact no (D9 (by lia)) _ (ah.refl _)
  have l1:=O4 λz=>g1 (congrArg V.str z);have e0:w.cps.toList.length=w.length:=by rw[Array.length_toList];rfl
  refine DZ w (λD i ys au H2=>ys=(((w.cps.toList.take i).filter h_).map (λc=>(⟨#[c]⟩:Str))).map V.str/\H2 D=some (.lst ys)/\ah H H2/\H D=none/\i<=w.cps.size/\∃u,au = [u]) (λQ q=>?_) ?_ ?_ ?_ ?_
  ·walk_at "rdm";exact⟨_,ao.of hl,_,ix,q⟩
  ·intro D hD;exact⟨rfl,aq,ah.put hD,hD,Nat.zero_le _,_,rfl⟩
  ·rintro D i ys au H2 ⟨rfl,e1,e2,e3,e4,_⟩;refine⟨e1,gS ?_⟩;have:=List.length_filter_le h_ (w.cps.toList.take i);rw[List.length_map,List.length_map];rw[List.length_take] at this;lia
  ·rintro D i cc ys au H2 N hN hx ⟨rfl,e1,e2,e3,e4,u,rfl⟩;walk_at "rdm";have hi:=(Array.getElem?_eq_some_iff.mp hx).1;have tk:w.cps.toList.take (i+1)=w.cps.toList.take i++[cc]:=take_succ_get (by rw[Array.getElem?_toList];exact hx)
   rw[StrLaws.found_one,Ed];refine aT (λhc=>⟨e1,hN _ _ _ ⟨?_,aq,ah.put2 e2 e3,e3,hi,_,rfl⟩⟩) λhc=>hN _ _ _ ⟨?_,e1,e2,e3,hi,_,rfl⟩
   ·have nd:h_ cc=true:=by unfold h_;rw[hc];rfl
    rw[tk,List.filter_append,List.filter_cons_of_pos nd,List.map_append,List.map_append];rfl
   ·have nd:h_ cc=false:=by unfold h_;simpa using hc
    rw[tk,List.filter_append,List.filter_cons_of_neg (by rw[nd];decide),List.filter_nil,List.append_nil]
  ·rintro D ys au H2 ⟨rfl,e1,e2,e3,e4,u,rfl⟩;rw[← Array.length_toList,List.take_length] at e1;intro p np;have t1:=ah.put (o:=HO.lst []) np;refine⟨D,rfl,_,ao.of (t1 _ _ e1),[],ao.of aq,eW.strs _ [],aT (λg3=>?_) λg3=>?_⟩
   ·refine no ?_ _ (e2.trans t1);have ne:w.cps.toList.filter h_≠[]:=λz=>g3 (by rw[z];rfl)
    obtain⟨c,r,ec⟩:=List.exists_cons_of_ne_nil ne;have hm:c∈w.cps.toList.filter h_:=by rw[ec];simp
    obtain⟨h1,h2⟩:=List.mem_filter.mp hm;exact O5 h1 (by unfold h_ at h2;have h2:=Bool.not_eq_true' _▸h2;simp at h2;lia)
   ·have fT:=t1 _ _ (e2 _ _ hl);have s2:=e2.trans t1;have qG:∀c∈w.cps.toList,48<=c/\c<=57:=λc hc=>by
     have g4:=Classical.byContradiction g3;have:w.cps.toList.filter h_ = []:=List.map_eq_nil_iff.mp (List.map_eq_nil_iff.mp g4);have:=List.filter_eq_nil_iff.mp this c hc;unfold h_ at this;simpa using this
    obtain⟨c,hc⟩:∃c,w.cps[0]? = some c:=by
     have:0<w.cps.size:=by have:w.length=w.cps.size:=rfl;lia
     exact⟨_,Array.getElem?_eq_getElem this⟩
    have yes:isNum w=true->Q (.int (nv w)) (upd H2 p (HO.lst [])):=λe=>by
     have:=q _ s2;rw[e,if_pos rfl] at this;exact this
    refine⟨_,ao.of fT,_,ix,w,rfl,by lia,aT (λg4=>⟨_,ao.of fT,_,ix,w,0,c,rfl,rfl,by rw[sizeLine_eq];lia,gi (j:=0) (by rw[Array.getElem?_toList];exact hc),rfl,aT (λg5=>?_) λg5=>?_⟩) λg4=>?_⟩
    ·exact no (O6 (by lia) (by rw[hc];exact congrArg some (D_ (V.str.inj g5)))) _ s2
    ·have e:=EL l1 (by lia) qG λz=>by
      rw[hc] at z;exact g5 (congrArg V.str (Ea (Option.some.inj z.2)))
     obtain⟨t1,t2⟩:=yt e;exact⟨_,ao.of fT,_,ix,w,rfl,_,t1,by lia,yes e⟩
    ·have e:=EL l1 (by lia) qG λz=>by lia
     obtain⟨t1,t2⟩:=yt e;exact⟨_,ao.of fT,_,ix,w,rfl,_,t1,by lia,yes e⟩
theorem QO(T:Tx K mg A):bg P w K mg base cz 1 A.uu A.uv ["_law_one"] OW:=by
 refine T.Ae.ok Qn (λvs H Q E h=>?_) (λaN Ar outer s H vs Q E hr h=>?_)
 ·obtain⟨t,m,b,q,rfl,_⟩:=h
  rfl
 ·obtain⟨t,m,b,q,rfl,hq,hs,q1,q2⟩:=h;have dX:=hr.kJ;have GQ:=hr.kJ;refine⟨_,(az (aY (aM gc (aC bE (pv 0) aj (λ_ _=>rfl)) (aA gQ aj aj) (aH _)) (aD (aV dw)) bf)
   (az (aY (aM cD (aC bE (pv 0) aj (λ_ _=>rfl)) aE (aH _)) (aD (aV dw)) bf)
   (az (b6 (aY (PW.pt (dz (aM gc (aC bE (pv 0) aj (λ_ _=>rfl)) (aA gQ aj aj) (aH _)) (dz (aM kG (aC bE (pv 0) aj (λ_ _=>rfl)) aj (aH _)) (dz (aM gc (aC bE (pv 0) aj (λ_ _=>rfl)) aj (aH _)) (fQ (aM gc (aC bE (pv 0) aj (λ_ _=>rfl)) aj (aH _))))))) (aD (aV dw)) bf))
   (az (b6 (aY (PW.pt (dz (PW.pt (qj (aM kH (aC bE (pv 0) aj (λ_ _=>rfl)) bX (aH _)) (qi (aM gc (aC bE (pv 0) aj (λ_ _=>rfl)) (aA gQ aj aj) (aH _))))) (fQ (aM (rC dX) (jP (N:=["_law_mark"]) (nt:=1) (fv:=[]) (cF.of rfl rfl (by rfl) (by rfl) (by repeat (first | exact trivial | refine⟨rfl,?_⟩)) (by rfl) (by rfl) (by rfl) (by decide) (by decide +kernel)) rfl (lM (aC bE (pv 0) aj (λ_ _=>rfl))) (λC s H fp=>(eN (i:=0) (show List.Nodup (["_law_mark"]:List Str) by decide +kernel) rfl (Or.inl rfl))) (λC s H fp=>(nN (aM gc (pv 0) (aA gQ aj aj) (aH _)))) (λC s H fp=>(pv 0))) (bG ak) (aH _))))) (aD (aV dw)) bf))
   (aD (aV (mZ (jL (En dX) (aC bE (pv 0) aj (λ_ _=>rfl)) (d_ kM rfl T.ia boot_tuple (aa (Ox rfl T.pO rfl T.pN rfl (aC bE (pv 0) aj (λ_ _=>rfl))) ak)) (aH _)) (mY (jL (rD dX) (jP (N:=["_law_number_here"]) (nt:=1) (fv:=[]) (cF.of rfl rfl (by rfl) (by rfl) (by repeat (first | exact trivial | refine⟨rfl,?_⟩)) (by rfl) (by rfl) (by rfl) (by decide) (by decide +kernel)) rfl (lM (aC bE (pv 0) aj (λ_ _=>rfl))) (λC s H fp=>(eN (i:=0) (show List.Nodup (["_law_number_here"]:List Str) by decide +kernel) rfl (Or.inl rfl))) (λC s H fp=>(nN (aM gc (pv 0) aj (aH _)))) (λC s H fp=>(pv 0))) (bG ak) (aH _)))))))))),?_⟩
  walk_at "rdt";have G:=hs.g;have ht:=aK.of (K:=K) hq.o;refine⟨_,ht,_,rfl,by decide,_,rfl,aT (λg=>?_) λg=>⟨_,ht,_,rfl,rfl,aT (λg1=>?_) λg1=>?_⟩⟩
  ·exact q2 (λz=>by have:=Pe G z;lia) _ (ah.refl _)
  ·exact q1 ((EV G (G.kr.mp (V.str.inj g1))).mpr (by lia)) _ (ah.refl _)
  have gd:=EU G λz=>g1 (congrArg V.str (G.kr.mpr z));refine⟨λσ H'=>σ = [some (.ref t)]/\H' = H/\(q.first<=1000000/\1<=q.many/\q.many<=16/\q.cO<=20),?_,?_⟩
  ·refine⟨_,ht,_,rfl,by decide,_,rfl,aT (λg2=>?_) λg2=>⟨_,ht,_,rfl,_,rfl,aT (λg3=>?_) λg3=>⟨_,ht,_,rfl,_,rfl,aT (λg4=>?_) λg4=>⟨_,ht,_,rfl,_,rfl,aT (λg5=>?_) λg5=>⟨rfl,rfl,by lia,by lia,by lia,by lia⟩⟩⟩⟩⟩
   all_goals exact q2 (λz=>by have:=(gd.mp z).1;lia) _ (ah.refl _)
  rintro σ H' ⟨rfl,rfl,c1⟩;walk_at "rdt";refine⟨λσ H2=>σ = [some (.ref t)]/\ah H' H2/\(∀x,q.eV=some x->x<=10000000000000)/\(∀x∈q.marks,x<=1000000000),?_,?_⟩
  ·refine⟨_,ht,_,rfl,?_⟩;have hm:=aK.of (K:=K) hq.ms;cases jw:q.eV with
   | none =>
    rw[if_neg (show ¬ ¬ b_ none=V.aF from λz=>z rfl)];have c2:∀x,(none:Option Int)=some x->x<=10000000000000:=λx z=>nomatch z;rw[← jw] at c2 ⊢;refine mj m (q.marks.map V.int) (λD i ys au H2=>ys=(over 1000000000 (q.marks.take i)).map V.int/\H2 D=some (.lst ys)/\ah H' H2/\H' D=none/\i<=q.marks.length/\∃u,au = [u]) (λQ k=>?_) hm ?_ ?_ ?_ ?_
    ·walk_at "rdm";exact⟨_,ht,_,rfl,k⟩
    ·intro D hD;exact⟨rfl,aq,ah.put hD,hD,Nat.zero_le _,_,rfl⟩
    ·rintro D i ys au H2 ⟨rfl,e1,e2,e3,e4,_⟩;refine⟨e1,gS ?_,aK.of (e2 _ _ hq.ms)⟩;have:=yF 1000000000 q.marks i;have:=G.ml;rw[List.length_map];lia
    ·rintro D i x ys au H2 N hN hx ⟨rfl,e1,e2,e3,e4,u,rfl⟩;obtain⟨n,cI,rfl⟩:=gk hx;walk_at "rdm";have st:=yE (c:=1000000000) cI;refine⟨by decide,aT (λgg=>⟨e1,hN _ _ _ ⟨?_,aq,ah.put2 e2 e3,e3,gW cI,_,rfl⟩⟩) λgg=>hN _ _ _ ⟨?_,e1,e2,e3,gW cI,_,rfl⟩⟩
     ·rw[st,if_pos gg,List.map_append];rfl
     ·rw[st,if_neg gg]
    ·rintro D ys au H2 ⟨rfl,e1,e2,e3,e4,u,rfl⟩;rw[List.length_map,List.take_length] at e1;intro p np;have t1:=ah.put (o:=HO.lst []) np;refine⟨D,rfl,_,ao.of (t1 _ _ e1),[],ao.of aq,eW.ints _ [],aT (λgg=>?_) λgg=>⟨rfl,e2.trans t1,c2,mH.mp (List.map_eq_nil_iff.mp (Classical.byContradiction gg))⟩⟩;exact q2 (λz=>gg (by rw[mH.mpr (gd.mp z).2.2.2.1];rfl)) _ (e2.trans t1)
   | some la =>
    rw[if_pos (show ¬ b_ (some la)=V.aF from λz=>V.noConfusion z)];refine⟨_,ht,_,rfl,by decide,la,by rw[jw];rfl,aT (λg2=>?_) λg2=>?_⟩
    ·exact q2 (λz=>by have:=(gd.mp z).2.2.1 la jw;lia) _ (ah.refl _)
    have c2:∀x,some la=some x->x<=10000000000000:=λx z=>by cases z;lia
    rw[← jw] at c2 ⊢;refine mj m (q.marks.map V.int) (λD i ys au H2=>ys=(over 1000000000 (q.marks.take i)).map V.int/\H2 D=some (.lst ys)/\ah H' H2/\H' D=none/\i<=q.marks.length/\∃u,au = [u]) (λQ k=>?_) hm ?_ ?_ ?_ ?_
    ·walk_at "rdm";exact⟨_,ht,_,rfl,k⟩
    ·intro D hD;exact⟨rfl,aq,ah.put hD,hD,Nat.zero_le _,_,rfl⟩
    ·rintro D i ys au H2 ⟨rfl,e1,e2,e3,e4,_⟩;refine⟨e1,gS ?_,aK.of (e2 _ _ hq.ms)⟩;have:=yF 1000000000 q.marks i;have:=G.ml;rw[List.length_map];lia
    ·rintro D i x ys au H2 N hN hx ⟨rfl,e1,e2,e3,e4,u,rfl⟩;obtain⟨n,cI,rfl⟩:=gk hx;walk_at "rdm";have st:=yE (c:=1000000000) cI;refine⟨by decide,aT (λgg=>⟨e1,hN _ _ _ ⟨?_,aq,ah.put2 e2 e3,e3,gW cI,_,rfl⟩⟩) λgg=>hN _ _ _ ⟨?_,e1,e2,e3,gW cI,_,rfl⟩⟩
     ·rw[st,if_pos gg,List.map_append];rfl
     ·rw[st,if_neg gg]
    ·rintro D ys au H2 ⟨rfl,e1,e2,e3,e4,u,rfl⟩;rw[List.length_map,List.take_length] at e1;intro p np;have t1:=ah.put (o:=HO.lst []) np;refine⟨D,rfl,_,ao.of (t1 _ _ e1),[],ao.of aq,eW.ints _ [],aT (λgg=>?_) λgg=>⟨rfl,e2.trans t1,c2,mH.mp (List.map_eq_nil_iff.mp (Classical.byContradiction gg))⟩⟩;exact q2 (λz=>gg (by rw[mH.mpr (gd.mp z).2.2.2.1];rfl)) _ (e2.trans t1)
  rintro σ H2 ⟨rfl,s2,c2,c3⟩;walk_at "rdt";have GR:=aK.of (K:=K) (s2 _ _ hq.o);have jT:=s2 _ _ hq.bh;refine⟨_,GR,_,rfl,_,GR,_,rfl,b,rfl,_,aK.of jT,G.bl,λL bs nL nd mem bl up=>?_⟩;have R:=Pf G.bh nd mem up;have u1:=ah.put (o:=HO.lst (bs.map V.int)) nL;refine⟨_,.inl ⟨ao.of aq,λp1 n1=>?_⟩⟩;have u2:=u1.trans (ah.put (o:=HO.tup (bs.map V.int)) n1);generalize upd (upd H2 L (HO.lst (bs.map V.int))) p1 (HO.tup (bs.map V.int))=H3 at *
  have s3:=s2.trans u2;have oX:=u2 _ _ jT;have QS:=aK.of (K:=K) (s3 _ _ hq.o);refine⟨b,rfl,_,oX,bs,rfl,aT (λg2=>?_) λg2=>q2 (λz=>g2 (R.mp (gd.mp z).2.2.2.2).1) _ s3⟩;refine mj b (q.behind.map V.int) (λD i ys au H4=>ys=(over 99 (q.behind.take i)).map V.int/\H4 D=some (.lst ys)/\ah H3 H4/\H3 D=none/\i<=q.behind.length/\∃u,au = [u]) (λQ k=>?_) (aK.of oX) ?_ ?_ ?_ ?_
  ·walk_at "rdm";exact⟨_,QS,_,rfl,k⟩
  ·intro D hD;exact⟨rfl,aq,ah.put hD,hD,Nat.zero_le _,_,rfl⟩
  ·rintro D i ys au H4 ⟨rfl,e1,e2,e3,e4,_⟩;refine⟨e1,gS ?_,aK.of (e2 _ _ oX)⟩;have:=yF 99 q.behind i;have:=G.bl;rw[List.length_map];lia
  ·rintro D i x ys au H4 N hN hx ⟨rfl,e1,e2,e3,e4,u,rfl⟩;obtain⟨n,cI,rfl⟩:=gk hx;walk_at "rdm";have st:=yE (c:=99) cI;refine aT (λgg=>⟨e1,hN _ _ _ ⟨?_,aq,ah.put2 e2 e3,e3,gW cI,_,rfl⟩⟩) λgg=>hN _ _ _ ⟨?_,e1,e2,e3,gW cI,_,rfl⟩
   ·rw[st,if_pos gg,List.map_append];rfl
   ·rw[st,if_neg gg]
  ·rintro D ys au H4 ⟨rfl,e1,e2,e3,e4,u,rfl⟩;rw[List.length_map,List.take_length] at e1;intro p np;have t1:=ah.put (o:=HO.lst []) np;refine⟨D,rfl,_,ao.of (t1 _ _ e1),[],ao.of aq,eW.ints _ [],?_⟩;by_cases gg:over 99 q.behind = []
   ·rw[gg,List.map_nil,decide_eq_true rfl];exact q1 (gd.mpr ⟨c1,by lia,c2,c3,R.mpr ⟨g2,mH.mp gg⟩⟩) _ (s3.trans (e2.trans t1))
   ·rw[decide_eq_false λz=>gg (List.map_eq_nil_iff.mp z)];exact q2 (λz=>gg (mH.mpr (R.mp (gd.mp z).2.2.2.2).2)) _ (s3.trans (e2.trans t1))
theorem QT(T:Tx K mg A):bg P w K mg base cz 1 A.uw A.ux ["_law_xs"] OR:=by
 refine T.uQ.ok rS (λvs H Q E h=>?_) (λaN Ar outer s H vs Q E hr h=>?_)
 ·obtain⟨a,xs,rfl,_⟩:=h
  rfl
 ·obtain⟨a,xs,rfl,hx,ok,q⟩:=h;refine⟨_,(az (b6 (aU (i:=1) rS.nd rfl (Or.inl rfl) (bG (aa aE (aa aE (aa aE (aa aE (aa aE (aa aE (aa aE (aa aE (aa aE (aa aE (aa aE (aa aE (aa aE (aa aE (aa aE ak))))))))))))))))))
   (az (b6 (aU (i:=1) rS.nd rfl (Or.inl rfl) (aA dD (pv 1) (bG (aa aE (aa aE (aa aE (aa aE (aa aE (aa aE (aa aE (aa aE (aa aE (aa aE (aa aE ak)))))))))))))))
   (az (b6 (aU (i:=1) rS.nd rfl (Or.inl rfl) (aA dD (pv 1) (bG (aa aE (aa (aA Es aE aj) (aa (aA mz aE (aA Es aE aj)) (aa (d_ jM rfl T.gB boot_str (aa (aA bI (aC aW (pv 0) aj (λ_ _=>rfl)) aj) ak)) ak))))))))
   (aD (aV (aC aW (pv 1) (aA bI (aC aW (pv 0) aj (λ_ _=>rfl)) aj) (λ_ _=>rfl))))))),?_⟩
  have ln:xs.length=5:=ok.len;have ix:∀i:Nat,i<5->c9 (xs.map V.int) (i:Int)=some (.int (xs.getD i 0)):=λi hi=>by
   have:=nR (ns:=xs) (k:=(i:Int)) (by lia) (by lia)
   simpa using this
  walk_at "rdt";refine⟨λσ H'=>∃l vs,σ = [some (.ref a),some (.ref l)]/\ah H H'/\H' l=some (.lst vs)/\vs.all mJ=true/\vs.length=15,λp np=>⟨p,_,rfl,ah.put np,aq,by decide +kernel,rfl⟩,?_⟩
  rintro σ H1 ⟨l,vs,rfl,s1,hl,hv,vl⟩;walk_at "rdt";refine⟨λσ H'=>∃l vs,σ = [some (.ref a),some (.ref l)]/\ah H H'/\H' l=some (.lst vs)/\vs.all mJ=true/\vs.length=26,λp np=>⟨_,ah.put np _ _ hl,by lia,λp2 n2=>⟨p2,_,rfl,s1.trans ((ah.put np).trans (ah.put n2)),aq,?_,by simp[vl]⟩⟩,?_⟩
  ·rw[List.all_append,hv];decide +kernel
  clear hl hv vl s1;rintro σ H1 ⟨l,vs,rfl,s1,hl,hv,vl⟩;walk_at "rdt";have y0:=Int.emod_nonneg (xs.getD 4 0) (show (1000:Int)≠0 by decide)
  have y1:=Int.emod_lt_of_pos (xs.getD 4 0) (show (0:Int)<1000 by decide)
  refine⟨EW _ (by decide),EW _ (by decide),by decide +kernel,λσ H'=>∃l vs,σ = [some (.ref a),some (.ref l)]/\ah H H'/\H' l=some (.lst vs)/\vs.all mJ=true/\vs.length=30,⟨_,ao.of (s1 _ _ hx),_,ix 4 (by decide),_,rfl,jY ⟨y0,by lia⟩,λp np=>⟨_,ah.put np _ _ hl,by lia,λp2 n2=>⟨p2,_,rfl,s1.trans ((ah.put np).trans (ah.put n2)),aq,?_,by simp[vl]⟩⟩⟩,?_⟩
  ·rw[List.all_append,hv,List.all_cons,List.all_cons,List.all_cons,List.all_cons,List.all_nil];rw[show mJ (V.str (Str.ofString (toString (xs.getD 4 0 % 1000))))=true from Pk y0 (by lia)]
   decide +kernel
  clear hl hv vl s1;rintro σ H1 ⟨l,vs,rfl,s1,hl,hv,vl⟩;walk_at "rdt";have z0:=Int.emod_nonneg (xs.getD 3 0) (show (30:Int)≠0 by decide)
  have z1:=Int.emod_lt_of_pos (xs.getD 3 0) (show (0:Int)<30 by decide)
  obtain⟨v,e1,e2⟩:=yw (xs:=vs) z0 (by lia)
  obtain⟨w,rfl,ww⟩:=Pj hv e2;exact⟨_,ao.of (s1 _ _ hx),_,ix 3 (by decide),_,rfl,_,ao.of hl,_,e1,q w _ s1 ww⟩
theorem QU(T:Tx K mg A):bg P w K mg base (cg P w base) 2 A.r9 A.r_ ["behind"] (MA K A.aQ):=by
 have ie:=vv (P:=P) (w:=w) (base:=base) T;refine T.zE.eB rP (λvs H Q E h=>?_) (λaN Ar outer s H vs Q E hr h=>?_)
 ·obtain⟨b,ns,rfl,_⟩:=h
  rfl
 ·obtain⟨b,ns,rfl,hS,q1,q2⟩:=h;refine⟨_,(az (aU (i:=1) rP.nd rfl (Or.inl rfl) (qp qu aj))
   (aD (lP PassesOwn.leaving rfl (lM (pv 0)) (eN (i:=2) rP.nd rfl (Or.inl rfl))
   (az (cJ (bu ie (hr.mono (by first | decide | lia)) rfl T.jq T.iP.kp T.jo .nil bJ (aa (pv 2) (aa (aA bQ (pv 1) aj) (aa (eL (v:=.int 99) rfl T.Gy ⟨_,rfl⟩) (aa aE ak))))))
   (aD (aU (i:=1) rP.nd rfl (Or.inl rfl) (pv 2))))))),?_⟩
  walk_at "rdm";refine rt b (ns.map V.int) (λi σ H'=>∃x,σ = [some (.ref b),some (.int (jR (-1) ns i)),x]/\H' = H/\∀(j:Nat) (n:Int),j<i->ns[j]? = some n->jR (-1) ns j+1<=n/\n<=99) (λQ q=>⟨_,rfl,q⟩) hS ⟨none,rfl,rfl,λj n hj=>absurd hj (Nat.not_lt_zero _)⟩ (by rintro i σ H' _ ⟨x,rfl,rfl,_⟩;exact hS) ?_ ?_
  ·rintro i x σ H' N hN hx ⟨x0,rfl,rfl,hd⟩;obtain⟨n,hn,rfl⟩:=gk hx;walk_at "rdm";refine⟨n,_,99,_,rfl,λst=>hN _ _ ⟨some (.int n),by rw[qO hn],rfl,λj m hj e=>?_⟩,λno=>q2 λR=>no (R.step hn)⟩
   by_cases AB:j=i
   ·subst AB;rw[hn] at e;cases e;exact st
   ·exact hd j m (by lia) e
  ·rintro σ H' ⟨x0,rfl,rfl,hd⟩;walk_at "rdm";exact q1 (cP.of λj n e=>hd j n (by have:=gW e;simpa using this) e)
theorem GS(T:Tx K mg A):bg P w K mg base cz 2 A.sO A.sP ["self"] (OC A.bq):=by
 have QV:=QI (P:=P) (w:=w) (base:=base) T;have gD:=pR (P:=P) (w:=w) (base:=base) T;refine T.FD.ok Qe (λvs H Q E h=>?_) (λaN Ar outer s H vs Q E hr h=>?_)
 ·obtain⟨p,dx,l,r,rfl,_⟩:=h
  rfl
 ·obtain⟨p,dx,l,r,rfl,bM,q⟩:=h;obtain⟨ws,k,vA,hw,hd,dR⟩:=bM.ex;refine⟨_,(aD (aV (mZ (jL kH (dO (pv 0) T.bK T.jt gD (hr.mono (by first | decide | lia)) T.jr .nil bB) bX (aH _)) (mY (bu QV (hr.mono (by first | decide | lia)) rfl T.Fx T.zM.kp T.Fw .nil bB (aa (dO (pv 0) T.bK T.jt gD (hr.mono (by first | decide | lia)) T.jr .nil bB) ak)))))),?_⟩
  wp_walk using T,hw.o;refine⟨p,dx,l,r,rfl,bM,?_⟩;cases r with
  | nil =>
   rw[if_neg (show ¬ ¬ cQ [] = V.aF from λz=>z rfl)];exact q _ (ah.refl _)
  | cons w r =>
   rw[if_pos (show ¬ cQ (w::r)=V.aF from λz=>V.noConfusion z)];exact⟨dx,_,hw.o,rfl,p,dx,l,w::r,rfl,bM,w,rfl,dR.2 w (by have:w∈ws.drop k:=(by rw[hd];simp);exact List.mem_of_mem_drop this),q⟩
theorem AD(T:Tx K mg A):bg P w K mg base (cg P w base) 2 A.sQ A.sR ["self", "word"] (OD A.bq A.aP):=by
 have gD:=pR (P:=P) (w:=w) (base:=base) T;refine T.FE.eB Qf (λvs H Q E h=>?_) (λaN Ar outer s H vs Q E hr h=>?_)
 ·obtain⟨p,dx,l,r,w,rfl,_⟩:=h
  rfl
 ·obtain⟨p,dx,l,r,w,rfl,bM,q1,q2⟩:=h;obtain⟨ws,k,vA,hw,hd,dR⟩:=bM.ex;refine⟨_,(az (aY (aM gb (dO (pv 0) T.bK T.jt gD (hr.mono (by first | decide | lia)) T.jr .nil bB) (pv 1) (aH _)) (aD (qQ qT rfl T.pP T.lA PySem.F.excBase_ValueError rfl (aa aE ak))) bf)
   (aD (fR (pv 0) (aA bQ (cE (pv 0) rfl) aj) rfl))),?_⟩
  wp_walk using T,hw.o;refine⟨p,dx,l,r,rfl,bM,jl _ _,aT (λh=>q2 (Ey h)) λh=>?_⟩
  obtain⟨r',e1,e2⟩:=yx (Classical.byContradiction h);rw[e1] at hd;exact⟨A.bq,dx,_,hw.o,T.bK,T.jv,_,rfl,_,rfl,A.bq,dx,_,hw.o,T.bK,T.jv,by simp,q1 _ e2 _ SameBut.start (Wd.step (hw.put rfl) hd dR)⟩
theorem GU(T:Tx K mg A):bg P w K mg base (cg P w base) 2 A.sZ A.s_ ["self"] (OH A.bq A.aP):=by
 have gD:=pR (P:=P) (w:=w) (base:=base) T;refine T.FI.eB Qi (λvs H Q E h=>?_) (λaN Ar outer s H vs Q E hr h=>?_)
 ·obtain⟨p,dx,l,r,rfl,_⟩:=h
  rfl
 ·obtain⟨p,dx,l,r,rfl,bM,q1,q2⟩:=h;obtain⟨k,ho⟩:=bM.o;refine⟨_,(aD (aY (aM kH (dO (pv 0) T.bK T.jt gD (hr.mono (by first | decide | lia)) T.jr .nil bB) bX (aH _)) (aD (qQ qT rfl T.pP T.lA PySem.F.excBase_ValueError rfl (aa aE ak))) bf)),?_⟩
  wp_walk using T,ho;refine⟨p,dx,l,r,rfl,bM,?_⟩;cases r with
  | nil=>exact ite_no (λz=>z rfl) (q1 rfl)
  | cons w r=>exact ite_yes (λz=>V.noConfusion z) (q2 (List.cons_ne_nil _ _))
theorem QW(T:Tx K mg A):bg P w K mg base cz 2 A.tT A.tU ["_law_cell"] OP:=by
 have pS:=Az (P:=P) (w:=w) (base:=base) T;refine T.z5.ok iO (λvs H Q E h=>?_) (λaN Ar outer s H vs Q E hr h=>?_)
 ·obtain⟨c,rfl,_⟩:=h
  rfl
 ·obtain⟨c,rfl,k⟩:=h;refine⟨_,(az (aU (i:=1) iO.nd rfl (Or.inr rfl) (bu pS (hr.mono (by first | decide | lia)) rfl T.uL T.pJ.kp T.uK .nil bB (aa (pv 0) (aa aj ak))))
   (az (b6 (aU (i:=2) iO.nd rfl (Or.inl rfl) (aC aW (bG (aa aE (aa aE (aa aE (aa aE (aa aE (aa aE ak))))))) (aA bI (aC aW (pv 1) aj (λ_ _=>rfl)) aj) (λ_ _=>rfl))))
   (az (b6 (aU (i:=3) iO.nd rfl (Or.inl rfl) (aC aW (bG (aa (aA bI (aC aW (pv 1) aj (λ_ _=>rfl)) aj) (aa (aA bI (pv 0) (aA bQ (aA gQ aj aj) aj)) (aa (aA gQ aj aj) ak)))) (aA bI (aC aW (pv 1) aj (λ_ _=>rfl)) aj) (λ_ _=>rfl))))
   (az (aY (aM cD (pv 2) aE (aH _)) (aD (aV (dB (aa (pv 2) (aa aj (aa aj (aa (dB ak) (aa (pv 3) (aa aj (aa bX (aa (dB ak) ak))))))))))) bf)
   (az (b6 (aU (i:=4) iO.nd rfl (Or.inl rfl) (aC aW (bG (aa (aA bI (aC aW (pv 1) aj (λ_ _=>rfl)) aj) (aa (aA bI (aC aW (pv 1) aj (λ_ _=>rfl)) (aA bQ (aA gQ aj aj) aj)) (aa (aA gQ aj aj) ak)))) (aA bI (aC aW (pv 1) aj (λ_ _=>rfl)) aj) (λ_ _=>rfl))))
   (az (b6 (aU (i:=5) iO.nd rfl (Or.inl rfl) (aC aW (bG (aa (aA bQ aj (aA bI (aC aW (pv 1) aj (λ_ _=>rfl)) aj)) (aa (aA bQ aj (aA bI (aC aW (pv 1) aj (λ_ _=>rfl)) aj)) (aa aj ak)))) (aA bI (aC aW (pv 1) aj (λ_ _=>rfl)) aj) (λ_ _=>rfl))))
   (az (aU (i:=6) iO.nd rfl (Or.inl rfl) (dB ak))
   (az (b6 (aY (aM gb (pv 2) aE (aH _)) (aD (aU (i:=6) iO.nd rfl (Or.inl rfl) (d_ kM rfl T.ia boot_tuple (aa (jP (N:=["_law_j", "_law_cell", "_law_xs"]) (nt:=1) (fv:=[0,1]) (cF.of rfl rfl (by rfl) (by rfl) (by repeat (first | exact trivial | refine⟨rfl,?_⟩)) (by rfl) (by rfl) (by rfl) (by decide) (by decide +kernel)) rfl (wB rfl T.lz (aa (pv 5) ak)) (λC s H fp=>(eN (i:=0) (show List.Nodup (["_law_j", "_law_cell", "_law_xs"]:List Str) by decide +kernel) rfl (Or.inl rfl))) (λC s H fp=>nM) (λC s H fp=>(aA bI (aA bQ (aA nj (aC (nT (K:=K) rfl) (pv 2) aj (λ_ _=>rfl)) (aA bQ (pv 0) aj)) (pv 1)) (aC (nT (K:=K) rfl) (bG (aa aj (aa (aA bQ (aA gQ aj aj) aj) ak))) (aA bI (aC (nT (K:=K) rfl) (pv 2) aj (λ_ _=>rfl)) aj) (λ_ _=>rfl))))) ak)))) bf))
   (az (b6 (aU (i:=7) iO.nd rfl (Or.inl rfl) (aC aW (bG (aa bX (aa (aA bI (aC aW (pv 1) aj (λ_ _=>rfl)) aj) (aa (aA bI (aA nj (aC aW (pv 1) aj (λ_ _=>rfl)) aj) (aA bQ (aA gQ aj aj) aj)) (aa (aA gQ aj aj) ak))))) (aA bI (aC aW (pv 1) aj (λ_ _=>rfl)) aj) (λ_ _=>rfl))))
   (az (b6 (Lg (i:=8) iO.nd rfl (Or.inl rfl) (N:=["_law_j", "_law_xs"]) (nt:=1) (fv:=[1]) (cF.of rfl rfl (by rfl) (by rfl) (by repeat (first | exact trivial | refine⟨rfl,?_⟩)) (by rfl) (by rfl) (by rfl) (by decide) (by decide +kernel)) rfl (wB rfl T.lz (aa (aA nj (aA bI (aC aW (pv 1) aj (λ_ _=>rfl)) aj) (aA bI (aA wH (aC aW (pv 1) aj (λ_ _=>rfl)) aj) aj)) ak)) (λC s H fp=>(eN (i:=0) (show List.Nodup (["_law_j", "_law_xs"]:List Str) by decide +kernel) rfl (Or.inl rfl))) (λC s H fp=>nM) (λC s H fp=>(aA bI (aC (nT (K:=K) rfl) (pv 1) (aA bQ aj (pv 0)) (λ_ _=>rfl)) aj))))
   (aD (aV (dB (aa (pv 2) (aa (pv 4) (aa (pv 5) (aa (pv 6) (aa (pv 3) (aa (aC aW (bG (aa aj (aa aj (aa aj (aa (aA bI (aC aW (pv 1) aj (λ_ _=>rfl)) aj) ak))))) (aA bI (aC aW (pv 1) aj (λ_ _=>rfl)) aj) (λ_ _=>rfl)) (aa (pv 7) (aa (d_ kM rfl T.ia boot_tuple (aa (NP rfl T.pO rfl T.pN rfl (pv 8)) ak)) ak))))))))))))))))))))),?_⟩
  walk_at "rdt";refine⟨c,24,rfl,by decide,by decide,λxa xs H1 s1 nx hx ok=>?_⟩
  have ln:xs.length=24:=ok.len;have ix:∀i:Nat,i<24->c9 (xs.map V.int) (i:Int)=some (.int (xs.getD i 0)):=λi hi=>by
   have:=nR (ns:=xs) (k:=(i:Int)) (by lia) (by lia)
   simpa using this
  have md:∀(i:Nat) (k:Int),0<k->0<=xs.getD i 0 % k/\xs.getD i 0 % k<k:=λi k hk=>⟨Int.emod_nonneg _ (by lia),Int.emod_lt_of_pos _ hk⟩
  refine⟨λσ H'=>∃kd,σ = [some (.int c),some (.ref xa),some (.str kd),none,none,none,none,none,none]/\ah H H'/\H' xa=some (.lst (xs.map V.int))/\Er kd,?_,?_⟩
  ·intro p np;have t1:=ah.put (o:=HO.lst [V.str (Str.ofString "read"),V.str (Str.ofString "write"),V.str (Str.ofString "early"),V.str (Str.ofString "rest"),V.str (Str.ofString "read"),V.str (Str.ofString "write")]) np;obtain⟨m0,m1⟩:=md 0 6 (by decide)
   obtain⟨v,e1,e2⟩:=yw (xs:=[V.str (Str.ofString "read"),V.str (Str.ofString "write"),V.str (Str.ofString "early"),V.str (Str.ofString "rest"),V.str (Str.ofString "read"),V.str (Str.ofString "write")]) m0 (by simpa using m1)
   have hk:∃kd,v = .str kd/\Er kd:=by
    simp only[List.mem_cons,List.not_mem_nil,or_false] at e2;rcases e2 with rfl | rfl | rfl | rfl | rfl | rfl
    ·exact⟨_,rfl,.inl rfl⟩
    ·exact⟨_,rfl,.inr (.inl rfl)⟩
    ·exact⟨_,rfl,.inr (.inr (.inl rfl))⟩
    ·exact⟨_,rfl,.inr (.inr (.inr rfl))⟩
    ·exact⟨_,rfl,.inl rfl⟩
    ·exact⟨_,rfl,.inr (.inl rfl)⟩
   obtain⟨kd,rfl,hk⟩:=hk;exact⟨xa,rfl,_,ao.of (t1 _ _ hx),_,ix 0 (by decide),_,rfl,_,ao.of aq,_,e1,kd,rfl,s1.trans t1,t1 _ _ hx,hk⟩
  clear hx s1;rintro σ H1 ⟨kd,rfl,s1,hx,hk⟩;walk_at "rdt";refine⟨λσ H'=>∃a,σ = [some (.int c),some (.ref xa),some (.str kd),some (.int a),none,none,none,none,none]/\ah H H'/\H' xa=some (.lst (xs.map V.int))/\0<=a/\a<=1000000000000,?_,?_⟩
  ·refine⟨_,ao.of hx,_,ix 1 (by decide),_,rfl,by decide,by decide,λp np=>?_⟩
   have t1:=ah.put (o:=HO.lst [V.int (xs.getD 1 0 % 100),V.int (c % 1000000000001),V.int 1000000000000]) np;obtain⟨m0,m1⟩:=md 2 3 (by decide)
   obtain⟨q0,q1⟩:=md 1 100 (by decide)
   have c0:=Int.emod_nonneg c (show (1000000000001:Int)≠0 by decide)
   have c1:=Int.emod_lt_of_pos c (show (0:Int)<1000000000001 by decide)
   obtain⟨v,e1,e2⟩:=oN (λa=>0<=a/\a<=1000000000000) [xs.getD 1 0 % 100,c % 1000000000001,1000000000000] (by
    intro x hx;simp only[List.mem_cons,List.not_mem_nil,or_false] at hx;rcases hx with rfl | rfl | rfl <;> lia) m0 (by simpa using m1)
   exact⟨_,ao.of (t1 _ _ hx),_,ix 2 (by decide),_,rfl,_,ao.of aq,_,e1,v,rfl,s1.trans t1,t1 _ _ hx,e2.1,e2.2⟩
  clear hx s1;rintro σ H1 ⟨a,rfl,s1,hx,a0,a1⟩;walk_at "rdt";refine aT (λg=>?_) λg=>?_
  ·intro p np p1 n1 p2 n2;have t1:=ah.put (o:=HO.tup []) np;have t2:=ah.put (o:=HO.tup []) n1;have t3:=ah.put (o:=HO.tup [V.str kd,V.int 0,V.int 0,V.ref p,V.int a,V.int 0,V.aF,V.ref p1]) n2;have sa:=s1.trans (t1.trans t2);have g2:=g;refine k p2 p p1 ⟨Str.ofString "rest",0,0,[],a,0,none,[],false⟩ _ (sa.trans t3) (sa.back n2) ⟨?_,t3 _ _ (t2 _ _ aq),t3 _ _ aq⟩ (.rs a a0 a1) (by simp)
   rw[aq,g2]
   show _=some (HO.tup [V.str (kw _),_,_,_,_,_,_,_]);rw[show kw ⟨Str.ofString "rest",0,0,[],a,0,none,[],false⟩=Str.ofString "rest" from if_neg (show ¬ false=true by decide)]
   rfl
  refine⟨λσ H'=>∃f,σ = [some (.int c),some (.ref xa),some (.str kd),some (.int a),some (.int f),none,none,none,none]/\ah H H'/\H' xa=some (.lst (xs.map V.int))/\0<=f/\f<=1000000,?_,?_⟩
  ·refine⟨_,ao.of hx,_,ix 3 (by decide),_,rfl,_,ao.of hx,_,ix 3 (by decide),by decide,_,rfl,by decide,λp np=>?_⟩
   have t1:=ah.put (o:=HO.lst [V.int (xs.getD 3 0 % 100),V.int (xs.getD 3 0 % 1000001),V.int 1000000]) np;obtain⟨m0,m1⟩:=md 4 3 (by decide)
   obtain⟨q0,q1⟩:=md 3 100 (by decide)
   obtain⟨c0,c1⟩:=md 3 1000001 (by decide)
   obtain⟨v,e1,e2⟩:=oN (λa=>0<=a/\a<=1000000) [xs.getD 3 0 % 100,xs.getD 3 0 % 1000001,1000000] (by
    intro x hx;simp only[List.mem_cons,List.not_mem_nil,or_false] at hx;rcases hx with rfl | rfl | rfl <;> lia) m0 (by simpa using m1)
   exact⟨_,ao.of (t1 _ _ hx),_,ix 4 (by decide),_,rfl,_,ao.of aq,_,e1,v,rfl,s1.trans t1,t1 _ _ hx,e2.1,e2.2⟩
  clear hx s1;rintro σ H1 ⟨f,rfl,s1,hx,f0,f1⟩;walk_at "rdt";refine⟨λσ H'=>∃m,σ = [some (.int c),some (.ref xa),some (.str kd),some (.int a),some (.int f),some (.int m),none,none,none]/\ah H H'/\H' xa=some (.lst (xs.map V.int))/\1<=m/\m<=16,?_,?_⟩
  ·refine⟨_,ao.of hx,_,ix 5 (by decide),_,rfl,_,ao.of hx,_,ix 5 (by decide),_,rfl,λp np=>?_⟩
   have t1:=ah.put (o:=HO.lst [V.int (1+xs.getD 5 0 % 3),V.int (1+xs.getD 5 0 % 16),V.int 16]) np;obtain⟨m0,m1⟩:=md 6 3 (by decide)
   obtain⟨q0,q1⟩:=md 5 3 (by decide)
   obtain⟨c0,c1⟩:=md 5 16 (by decide)
   obtain⟨v,e1,e2⟩:=oN (λa=>1<=a/\a<=16) [1+xs.getD 5 0 % 3,1+xs.getD 5 0 % 16,16] (by
    intro x hx;simp only[List.mem_cons,List.not_mem_nil,or_false] at hx;rcases hx with rfl | rfl | rfl <;> lia) m0 (by simpa using m1)
   exact⟨_,ao.of (t1 _ _ hx),_,ix 6 (by decide),_,rfl,_,ao.of aq,_,e1,v,rfl,s1.trans t1,t1 _ _ hx,e2.1,e2.2⟩
  clear hx s1;rintro σ H1 ⟨m,rfl,s1,hx,m0,m1⟩;walk_at "rdt";intro pm nm;refine⟨λσ H'=>∃ma ms,σ = [some (.int c),some (.ref xa),some (.str kd),some (.int a),some (.int f),some (.int m),some (.ref ma),none,none]/\ah H H'/\H' xa=some (.lst (xs.map V.int))/\H' ma=some (.tup (ms.map V.int))/\(kd=Str.ofString "read"->ms = [])/\(kd≠Str.ofString "read"->(ms.length:Int)=m/\∀x∈ms,0<=x/\x<=1000000000),?_,?_⟩
  ·have t0:=ah.put (o:=HO.tup []) nm;refine aT (λg1=>?_) λg1=>?_
   ·have bx:=t0 _ _ hx;have s2:=s1.trans t0;generalize upd H1 pm (HO.tup [])=H2 at *
    refine CO m (λD j ys au H3=>∃(u:Option V) (ms:List Int),ys=ms.map V.int/\ms.length=j/\(∀x∈ms,0<=x/\x<=1000000000)/\au = [u,some (.int c),some (.ref xa)]/\H3 D=some (.lst ys)/\ah H2 H3/\H2 D=none/\j<=16) (λQ k=>?_) (by lia) (by lia) ?_ ?_ ?_ ?_
    ·walk_at "rdm";exact k
    ·intro D hD;exact⟨none,[],rfl,rfl,λ_ h=>(nomatch h),rfl,aq,ah.put hD,hD,by lia⟩
    ·rintro D j ys au H3 ⟨u,ms,rfl,e1,e2,rfl,e3,e4,e5,e6⟩;exact⟨e3,gS (by rw[List.length_map];lia)⟩
    ·rintro D j ys au H3 N hN hj ⟨u,ms,rfl,e1,e2,rfl,e3,e4,e5,e6⟩;walk_at "rdm";have GV:=e4 _ _ bx;refine⟨_,ao.of GV,_,ix 7 (by decide),_,rfl,.inr ⟨by lia,by lia⟩,by decide,λp np=>?_⟩
     have t1:=ah.put (o:=HO.lst [V.int 10,V.int 1000000001]) np;obtain⟨d0,d1⟩:=md 8 2 (by decide)
     obtain⟨v,ep,pv⟩:=oN (λx=>0<x/\x<=1000000001) [10,1000000001] (by
      intro x hx;simp only[List.mem_cons,List.not_mem_nil,or_false] at hx;rcases hx with rfl | rfl <;> decide) d0 (by simpa using d1)
     have y0:=Int.emod_nonneg (xs.getD 7 0*((j:Int)+1)+c) (show v≠0 by lia)
     have y1:=Int.emod_lt_of_pos (xs.getD 7 0*((j:Int)+1)+c) pv.1;refine⟨_,ao.of (t1 _ _ GV),_,ix 8 (by decide),_,rfl,_,ao.of aq,_,ep,v,rfl,pv.1,t1 _ _ e3,hN _ _ _ ⟨_,ms++[(xs.getD 7 0*((j:Int)+1)+c) % v],by rw[List.map_append];rfl,by rw[List.length_append,e1];rfl,λx hx=>?_,rfl,aq,ah.put2 (e4.trans t1) e5,e5,by lia⟩⟩
     rcases List.mem_append.mp hx with hx | hx
     ·exact e2 x hx
     ·rw[List.mem_singleton.mp hx];lia
    ·rintro D ys au H3 ⟨u,ms,rfl,e1,e2,rfl,e3,e4,e5,e6⟩;refine⟨D,rfl,_,.inl ⟨ao.of e3,λl nl=>⟨l,ms,rfl,s2.trans (e4.trans (ah.put nl)),ah.put nl _ _ (e4 _ _ bx),aq,λz=>absurd z g1,λ_=>⟨by lia,e2⟩⟩⟩⟩
   ·exact⟨pm,[],rfl,s1.trans t0,t0 _ _ hx,aq,λ_=>rfl,λz=>absurd z (λy=>g1 y)⟩
  clear hx s1;rintro σ H1 ⟨ma,ms,rfl,s1,hx,hm,QX,xS⟩;walk_at "rdt";refine⟨λσ H'=>∃la,σ = [some (.int c),some (.ref xa),some (.str kd),some (.int a),some (.int f),some (.int m),some (.ref ma),some (b_ la),none]/\ah H H'/\H' xa=some (.lst (xs.map V.int))/\H' ma=some (.tup (ms.map V.int))/\∀x,la=some x->0<=x/\x<=10000000000000,?_,?_⟩
  ·refine⟨_,ao.of hx,_,ix 9 (by decide),_,rfl,_,ao.of hx,_,ix 9 (by decide),_,rfl,by decide,by decide,λp np=>?_⟩
   have t1:=ah.put (o:=HO.lst [V.aF,V.int (xs.getD 9 0 % 100),V.int (xs.getD 9 0*48271 % 10000000000001),V.int 10000000000000]) np;obtain⟨d0,d1⟩:=md 10 4 (by decide)
   obtain⟨q0,q1⟩:=md 9 100 (by decide)
   have c0:=Int.emod_nonneg (xs.getD 9 0*48271) (show (10000000000001:Int)≠0 by decide)
   have c1:=Int.emod_lt_of_pos (xs.getD 9 0*48271) (show (0:Int)<10000000000001 by decide)
   obtain⟨v,e1,e2⟩:=yw (xs:=[V.aF,V.int (xs.getD 9 0 % 100),V.int (xs.getD 9 0*48271 % 10000000000001),V.int 10000000000000]) d0 (by simpa using d1)
   have lZ:∃la:Option Int,v=b_ la/\∀x,la=some x->0<=x/\x<=10000000000000:=by
    simp only[List.mem_cons,List.not_mem_nil,or_false] at e2;rcases e2 with rfl | rfl | rfl | rfl
    ·exact⟨none,rfl,λx z=>nomatch z⟩
    ·exact⟨some _,rfl,λx z=>by cases z;lia⟩
    ·exact⟨some _,rfl,λx z=>by cases z;lia⟩
    ·exact⟨some _,rfl,λx z=>by cases z;lia⟩
   obtain⟨la,rfl,jw⟩:=lZ;exact⟨_,ao.of (t1 _ _ hx),_,ix 10 (by decide),_,rfl,_,ao.of aq,_,e1,la,rfl,s1.trans t1,t1 _ _ hx,t1 _ _ hm,jw⟩
  clear hx s1 hm;rintro σ H1 ⟨la,rfl,s1,hx,hm,jw⟩;walk_at "rdt";refine⟨λσ H'=>∃(sa:Addr) (ns:List Int),σ = [some (.int c),some (.ref xa),some (.str kd),some (.int a),some (.int f),some (.int m),some (.ref ma),some (b_ la),some (.ref sa)]/\ah H H'/\H' xa=some (.lst (xs.map V.int))/\H' ma=some (.tup (ms.map V.int))/\H' sa=some (.lst (ns.map V.int))/\ns.length<=9/\∀x∈ns,0<=x/\x<=99,?_,?_⟩
  ·obtain⟨u0,u1⟩:=md 11 4 (by decide)
   have w0:=Int.emod_nonneg (xs.getD 11 0 / 4) (show (4:Int)≠0 by decide)
   have w1:=Int.emod_lt_of_pos (xs.getD 11 0 / 4) (show (0:Int)<4 by decide)
   have n9:xs.getD 11 0 % 4*(xs.getD 11 0 / 4 % 4)<=9:=by
    have:=Int.mul_le_mul (show xs.getD 11 0 % 4<=3 by lia) (show xs.getD 11 0 / 4 % 4<=3 by lia) w0 (by decide)
    lia
   have n0:=Int.mul_nonneg u0 w0;refine CO (xs.getD 11 0 % 4*(xs.getD 11 0 / 4 % 4)) (λD j ys au H3=>∃(u:Option V) (ns:List Int),ys=ns.map V.int/\ns.length=j/\(∀x∈ns,0<=x/\x<=99)/\au = [u,some (.ref xa)]/\H3 D=some (.lst ys)/\ah H1 H3/\H1 D=none/\j<=9) (λQ k=>?_) (by lia) (by lia) ?_ ?_ ?_ ?_
   ·walk_at "rdm";exact⟨_,ao.of hx,_,ix 11 (by decide),_,rfl,_,ao.of hx,_,ix 11 (by decide),_,rfl,.inl ⟨by lia,by lia⟩,k⟩
   ·intro D hD;exact⟨none,[],rfl,rfl,λ_ h=>(nomatch h),rfl,aq,ah.put hD,hD,by lia⟩
   ·rintro D j ys au H3 ⟨u,ns,rfl,e1,e2,rfl,e3,e4,e5,e6⟩;exact⟨e3,gS (by rw[List.length_map];lia)⟩
   ·rintro D j ys au H3 N hN hj ⟨u,ns,rfl,e1,e2,rfl,e3,e4,e5,e6⟩;walk_at "rdm";obtain⟨y0,y1⟩:=md (12+j) 100 (by decide)
    refine⟨_,ao.of (e4 _ _ hx),_,(by rw[show (12+(j:Int))=((12+j:Nat):Int) by lia];exact ix (12+j) (by lia)),_,rfl,e3,hN _ _ _ ⟨_,ns++[xs.getD (12+j) 0 % 100],by rw[List.map_append];rfl,by rw[List.length_append,e1];rfl,λx hx=>?_,rfl,aq,ah.put2 e4 e5,e5,by lia⟩⟩
    rcases List.mem_append.mp hx with hx | hx
    ·exact e2 x hx
    ·rw[List.mem_singleton.mp hx];lia
   ·rintro D ys au H3 ⟨u,ns,rfl,e1,e2,rfl,e3,e4,e5,e6⟩;exact⟨D,ns,rfl,s1.trans e4,e4 _ _ hx,e4 _ _ hm,e3,by lia,e2⟩
  clear hx s1 hm;rintro σ H1 ⟨sa,ns,rfl,s1,hx,hm,hs,nl,nb⟩;walk_at "rdt";refine⟨_,ao.of hx,_,ix 22 (by decide),_,rfl,λp np=>?_⟩
  have t1:=ah.put (o:=HO.lst [V.int 0,V.int 0,V.int 20,V.int (xs.getD 22 0 % 21)]) np;obtain⟨d0,d1⟩:=md 23 4 (by decide)
  obtain⟨q0,q1⟩:=md 22 21 (by decide)
  obtain⟨v,e1,e2⟩:=oN (λa=>0<=a/\a<=20) [0,0,20,xs.getD 22 0 % 21] (by
   intro x hx;simp only[List.mem_cons,List.not_mem_nil,or_false] at hx;rcases hx with rfl | rfl | rfl | rfl <;> lia) d0 (by simpa using d1)
  refine⟨_,ao.of (t1 _ _ hx),_,ix 23 (by decide),_,rfl,_,ao.of aq,_,e1,ns,ao.of (t1 _ _ hs),by lia,λL bs nL nd mem bl up=>?_⟩
  have hR:=Og nd mem up nb;have t2:=ah.put (o:=HO.lst (bs.map V.int)) nL;refine⟨_,.inl ⟨ao.of aq,λl nl=>λp1 n1=>?_⟩⟩;have t3:=ah.put (o:=HO.tup (bs.map V.int)) nl;have t4:=ah.put (o:=HO.tup [V.str kd,V.int f,V.int m,V.ref ma,V.int a,V.int v,b_ la,V.ref l]) n1;have s3:=s1.trans (t1.trans (t2.trans t3));have GW:=t4 _ _ (t3 _ _ (t2 _ _ (t1 _ _ hm)));by_cases g1:kd=Str.ofString "read"
  ·have em:=QX g1;subst em;refine k p1 ma l ⟨Str.ofString "read",f,m,[],a,v,la,bs,false⟩ _ (s3.trans t4) (s3.back n1) ⟨?_,GW,t4 _ _ aq⟩ (.rd f m a v la bs ⟨f0,f1,m0,m1,a0,a1,e2.1,e2.2,jw⟩ hR (by lia)) (by show bs.length<=9;lia)
   rw[aq,rB,g1]
  ·obtain⟨h1,h2⟩:=xS g1;subst h1;refine k p1 ma l ⟨Str.ofString "write",f,ms.length,ms,a,v,la,bs,decide (kd=Str.ofString "early")⟩ _ (s3.trans t4) (s3.back n1) ⟨?_,GW,t4 _ _ aq⟩ (.wr f a v ms la bs _ ⟨f0,f1,m0,m1,a0,a1,e2.1,e2.2,jw⟩ h2 hR (by lia)) (by show bs.length<=9;lia)
   rw[aq,rA];rcases hk with z | z | z | z
   ·exact absurd z g1
   ·rw[z,if_neg (by decide)]
   ·rw[z,if_pos (by decide)]
   ·exact absurd z g
theorem QY(T:Tx K mg A):bg P w K mg base cz 2 A.tZ A.t_ ["_law_found"] Od:=by
 have vC:=GP (P:=P) (w:=w) (base:=base) T;refine T.uO.ok Ql (λvs H Q E h=>?_) (λaN Ar outer s H vs Q E hr h=>?_)
 ·obtain⟨a,ns,rfl,_⟩:=h
  rfl
 ·obtain⟨a,ns,rfl,ha,hl,q⟩:=h;have GQ:_+16<cLine:=Nat.lt_of_le_of_lt (Nat.add_le_add_left (by decide:16<=64) _) hr.units
  refine⟨_,(aD (aV (mZ (bO nQ rfl T.fD boot_isinstance (aa (pv 0) (aa (lJ (v:=.ty "tuple") rfl T.ia boot_tuple rfl) ak))) (mY (jL (MF GQ) (jP (N:=["_law_one"]) (nt:=1) (fv:=[]) (cF.of rfl rfl (by rfl) (by rfl) (by repeat (first | exact trivial | refine⟨rfl,?_⟩)) (by rfl) (by rfl) (by rfl) (by decide) (by decide +kernel)) rfl (lM (pv 0)) (λC s H fp=>(eN (i:=0) (show List.Nodup (["_law_one"]:List Str) by decide +kernel) rfl (Or.inl rfl))) (λC s H fp=>(nN (iW (f9 (bu vC (hr.mono (by first | decide | lia)) rfl T.uN T.pK.kp T.uM .nil bB (aa (pv 0) ak)))))) (λC s H fp=>(pv 0))) (bG ak) (aH _)))))),?_⟩
  walk_at "rdt";refine⟨_,.tup ha,_,rfl,ite_yes rfl ?_⟩;refine mj a (ns.map V.int) (λD i ys au H2=>ys = []/\H2 D=some (.lst ys)/\ah H H2/\H D=none/\∃u,au = [u]) (λQ q=>⟨_,rfl,q⟩) (aK.of ha) ?_ ?_ ?_ ?_
  ·intro D hD;exact⟨rfl,aq,ah.put hD,hD,_,rfl⟩
  ·rintro D i ys au H2 ⟨rfl,e1,e2,e3,_⟩;exact⟨e1,by decide,aK.of (e2 _ _ ha)⟩
  ·rintro D i x ys au H2 N hN hx ⟨rfl,e1,e2,e3,u,rfl⟩;obtain⟨n,cI,rfl⟩:=gk hx;walk_at "rdt";exact⟨n,rfl,_,rfl,ite_no (by simp) (hN _ _ _ ⟨rfl,e1,e2,e3,_,rfl⟩)⟩
  ·rintro D ys au H2 ⟨rfl,e1,e2,e3,u,rfl⟩;intro p np;exact⟨D,rfl,_,ao.of (ah.put np _ _ e1),ao.of aq,q _ (e2.trans (ah.put np))⟩
theorem GX(T:Tx K mg A):bg P w K mg base cz 2 A.ug A.uh ["_law_words", "_law_at"] OU:=by
 have lB:=AA (P:=P) (w:=w) (base:=base) T;refine T.uP.ok Fe (λvs H Q E h=>?_) (λaN Ar outer s H vs Q E hr h=>?_)
 ·obtain⟨l,ws,k,rfl,_⟩:=h
  rfl
 ·obtain⟨l,ws,k,rfl,hl,dR,q⟩:=h;refine⟨_,(az (aU (i:=2) Fe.nd rfl (Or.inl rfl) (bG ak))
   (az (B3 PassesOwn.never (aM kH (bu lB (hr.mono (by first | decide | lia)) rfl T.mQ T.lq.kp T.mO .nil bB (aa (pv 0) (aa (aA bQ (pv 1) (bO eg rfl T.cH boot_len (aa (pv 2) ak))) ak))) bX (aH _))
   (aD (cJ (gj PySem.F.plainAttrs_list PySem.F.slot_list_append PySem.F.type_list_append i7 (pv 2) (aa (bu lB (hr.mono (by first | decide | lia)) rfl T.mQ T.lq.kp T.mO .nil bB (aa (pv 0) (aa (aA bQ (pv 1) (bO eg rfl T.cH boot_len (aa (pv 2) ak))) ak))) ak)))))
   (aD (aV (pv 2))))),?_⟩
  walk_at "rdt";intro f nf;refine⟨λm σ H'=>∃ns,m=ws.length - (k+ns.length)/\aR (ws.drop k)=ns++aR (ws.drop (k+ns.length))/\ns.length<=ws.length/\σ = [some (.ref l),some (.int (k:Int)),some (.ref f)]/\ah H H'/\H' f=some (.lst (ns.map V.int)),⟨_,[],rfl,rfl,Nat.zero_le _,rfl,ah.put nf,aq⟩,?_⟩;rintro m σ H' ⟨ns,rfl,g1,g2,rfl,s1,hf⟩;walk_at "rdt";have e0:((k:Int)+((ns.map V.int).length:Int))=((k+ns.length:Nat):Int):=by rw[List.length_map];lia
  have QZ:=dR.1;refine⟨_,.inl (ao.of hf),l,ws,k+ns.length,by rw[e0],s1 _ _ hl,dR,λH1 s2=>?_⟩
  unfold jm;cases e:pNum (ws.drop (k+ns.length)) with
  | none =>
   refine ite_no (λz=>z rfl) (q f H1 (s1.trans s2) nf ?_);rw[g1,(EB e).2,List.append_nil];exact s2 _ _ hf
  | some y =>
   obtain⟨n,r'⟩:=y;obtain⟨i1,i2,i3,i4,i5⟩:=k7 e;rw[List.length_drop] at i3;have e5:ws.drop (k+ns.length+1)=r':=by rw[← List.drop_drop];exact i4
   refine ite_yes (λz=>V.noConfusion z) ⟨λaJ H'=>aJ = [some (.ref l),some (.int (k:Int)),some (.ref f)]/\ah H H'/\H' f=some (.lst ((ns++[n]).map V.int)),?_,⟨_,ao.of (s2 _ _ hf)⟩,_,.inl (ao.of (s2 _ _ hf)),l,ws,k+ns.length,by rw[e0],(s1.trans s2) _ _ hl,dR,λH2 s3=>⟨_,s3 _ _ (s2 _ _ hf),by rw[List.length_map];lia,rfl,ah.put2 (s1.trans (s2.trans s3)) nf,?_⟩⟩
   ·rintro aJ H' ⟨e1,e2,e3⟩;refine⟨_,?_,ns++[n],rfl,?_,by simp;lia,e1,e2,e3⟩
    ·simp;lia
    ·rw[g1,i2,List.length_append,show k+(ns.length + [n].length)=k+ns.length+1 by simp;lia,e5];simp
   ·unfold jm;rw[aq,e,List.map_append];rfl
theorem Q0(T:Tx K mg A):bg P w K mg base cz 2 A.uy A.uz ["_law_line", "_law_cell"] OS:=by
 have pS:=Az (P:=P) (w:=w) (base:=base) T;have GY:=QT (P:=P) (w:=w) (base:=base) T;refine T.uR.ok gA (λvs H Q E h=>?_) (λaN Ar outer s H vs Q E hr h=>?_)
 ·obtain⟨z,c,rfl,_⟩:=h
  rfl
 ·obtain⟨z,c,rfl,zl,zb,q⟩:=h;refine⟨_,(az (aU (i:=2) gA.nd rfl (Or.inl rfl) (bu pS (hr.mono (by first | decide | lia)) rfl T.uL T.pJ.kp T.uK .nil bB (aa (pv 1) (aa aj ak))))
   (az (aY (aM kG (aA bI (aC aW (pv 2) aj (λ_ _=>rfl)) aj) aj (aH _)) (az (aU (i:=3) gA.nd rfl (Or.inl rfl) (aA bI (aC aW (pv 2) aj (λ_ _=>rfl)) (aA bQ (bO nJ rfl T.cH boot_len (aa (pv 0) ak)) aj)))
   (az (aU (i:=4) gA.nd rfl (Or.inl rfl) (aC wU aE (aA bI (aC aW (pv 2) aj (λ_ _=>rfl)) aj) (λ_ _=>rfl)))
   (az (aY (aM cD (aA bI (aC aW (pv 2) aj (λ_ _=>rfl)) aj) aj (aH _)) (aD (aV (aA mz (aA mz (cK mw (pv 0) c8 (cy (pv 3))) (pv 4)) (cK mw (pv 0) (cy (pv 3)) c8)))) bf)
   (az (aY (aM cD (aA bI (aC aW (pv 2) aj (λ_ _=>rfl)) aj) aj (aH _)) (aD (aV (aA mz (cK mw (pv 0) c8 (cy (pv 3))) (cK mw (pv 0) (cy (aA bQ (pv 3) aj)) c8)))) bf)
   (aD (aV (aA mz (aA mz (cK mw (pv 0) c8 (cy (pv 3))) (pv 4)) (cK mw (pv 0) (cy (aA bQ (pv 3) aj)) c8)))))))) bf)
   (az (aU (i:=5) gA.nd rfl (Or.inl rfl) (gj PySem.F.plainAttrs_str PySem.F.slot_str_split PySem.F.type_str_split yq (pv 0) (aa aE ak)))
   (az (aU (i:=3) gA.nd rfl (Or.inl rfl) (aA bI (aC aW (pv 2) aj (λ_ _=>rfl)) (bO eg rfl T.cH boot_len (aa (pv 5) ak))))
   (az (b6 (aY (aM cD (aA bI (aC aW (pv 2) aj (λ_ _=>rfl)) aj) aj (aH _)) (aD (aU (i:=5) gA.nd rfl (Or.inl rfl) (aA dD (aA dD (cK dP (pv 5) c8 (cy (pv 3))) (cK dP (pv 5) (cy (pv 3)) (cy (aA bQ (pv 3) aj)))) (cK dP (pv 5) (cy (pv 3)) c8)))) bf))
   (az (b6 (aY (aM cD (aA bI (aC aW (pv 2) aj (λ_ _=>rfl)) aj) aj (aH _)) (aD (aU (i:=5) gA.nd rfl (Or.inl rfl) (aA dD (cK dP (pv 5) c8 (cy (pv 3))) (cK dP (pv 5) (cy (aA bQ (pv 3) aj)) c8)))) bf))
   (az (b6 (aY (aM cD (aA bI (aC aW (pv 2) aj (λ_ _=>rfl)) aj) aj (aH _)) (az (aU (i:=6) gA.nd rfl (Or.inl rfl) (cK dP (pv 5) (cy (pv 3)) (cy (aA bQ (pv 3) aj))))
   (az (cJ (KI PySem.F.plainAttrs_list PySem.F.slot_list_reverse PySem.F.type_list_reverse KQ (pv 6)))
   (aD (aU (i:=5) gA.nd rfl (Or.inl rfl) (aA dD (aA dD (cK dP (pv 5) c8 (cy (pv 3))) (pv 6)) (cK dP (pv 5) (cy (aA bQ (pv 3) aj)) c8)))))) bf))
   (az (b6 (aY (aM cD (aA bI (aC aW (pv 2) aj (λ_ _=>rfl)) aj) aj (aH _)) (aD (aU (i:=5) gA.nd rfl (Or.inl rfl) (aA dD (aA dD (cK dP (pv 5) c8 (cy (pv 3))) (bG (aa (bu GY (hr.mono (by first | decide | lia)) rfl T.Ag T.uQ.kp T.Af .nil bB (aa (pv 2) ak)) ak))) (cK dP (pv 5) (cy (aA bQ (pv 3) aj)) c8)))) bf))
   (az (b6 (aY (aM cD (aA bI (aC aW (pv 2) aj (λ_ _=>rfl)) aj) aj (aH _)) (aD (aU (i:=5) gA.nd rfl (Or.inl rfl) (aA dD (aA dD (cK dP (pv 5) c8 (cy (pv 3))) (bG (aa (bu GY (hr.mono (by first | decide | lia)) rfl T.Ag T.uQ.kp T.Af .nil bB (aa (pv 2) ak)) ak))) (cK dP (cK dP (pv 5) (cy (pv 3)) c8) c8 (cy (aA bI (aC aW (pv 2) aj (λ_ _=>rfl)) aj)))))) bf))
   (aD (aV (gj PySem.F.plainAttrs_str PySem.F.slot_str_join PySem.F.type_str_join DR aE (aa (pv 5) ak))))))))))))),?_⟩
  walk_at "rdt";refine⟨c,5,rfl,by decide,by decide,λxa xs H1 s1 nx hx ok=>?_⟩
  have ln:xs.length=5:=ok.len;have ix:∀i:Nat,i<5->c9 (xs.map V.int) (i:Int)=some (.int (xs.getD i 0)):=λi hi=>by
   have:=nR (ns:=xs) (k:=(i:Int)) (by lia) (by lia)
   simpa using this
  have md:∀(i:Nat) (k:Int),0<k->0<=xs.getD i 0 % k/\xs.getD i 0 % k<k:=λi k hk=>⟨Int.emod_nonneg _ (by lia),Int.emod_lt_of_pos _ hk⟩
  refine⟨xa,rfl,_,ao.of hx,_,ix 0 (by decide),_,rfl,?_⟩
  have z6:z.length<=16777216:=by lia
  refine aT (λg=>?_) λg=>?_
  ·have m0:=Int.emod_nonneg (xs.getD 1 0) (show (z.length:Int)+1≠0 by lia)
   have m1:=Int.emod_lt_of_pos (xs.getD 1 0) (show (0:Int)<(z.length:Int)+1 by lia)
   obtain⟨s0,WA⟩:=md 2 21 (by decide)
   have sl:(Str.ofString " 0123456789 +-_.aeotr").cps.toList.length=21:=by decide
   obtain⟨cc,ec⟩:∃cc,c9 (Str.ofString " 0123456789 +-_.aeotr").cps.toList (xs.getD 2 0 % 21)=some cc:=by
    obtain⟨n,hn⟩:=Int.eq_ofNat_of_zero_le s0;rw[hn];exact⟨_,gi (List.getElem?_eq_getElem (by rw[sl];lia))⟩
   refine⟨xa,rfl,_,ao.of hx,_,ix 1 (by decide),z6,_,rfl,by lia,xa,rfl,_,ao.of hx,_,ix 2 (by decide),_,rfl,_,_,cc,rfl,rfl,by decide,ec,xa,rfl,_,ao.of hx,_,ix 0 (by decide),_,rfl,?_⟩
   generalize xs.getD 1 0 % ((z.length:Int)+1)=n at m0 m1 ⊢;have n1:n<=z.length:=by lia
   obtain⟨c1,c2⟩:=EX m0 n1 (Int.le_refl n);obtain⟨d1,d2⟩:=EX m0 n1 (show n<=n+1 by lia)
   have b1:=Pq cc;have b2:=Pr cc;refine aT (λg1=>?_) λg1=>⟨xa,rfl,_,ao.of hx,_,ix 0 (by decide),_,rfl,aT (λg2=>?_) λg2=>?_⟩
   ·refine⟨z6,_,rfl,by lia,z6,by rw[k_];lia,q _ _ s1 ?_ ?_⟩
    ·rw[k_,k_];lia
    ·rw[k8,k8];lia
   ·refine⟨z6,z6,by lia,q _ _ s1 ?_ ?_⟩
    ·rw[k_];lia
    ·rw[k8];lia
   ·refine⟨z6,_,rfl,by lia,z6,by rw[k_];lia,q _ _ s1 ?_ ?_⟩
    ·rw[k_,k_];lia
    ·rw[k8,k8];lia
  have sp:=yz z;have sf:=EF z;refine⟨z,blank,rfl,rfl,by decide,by rw[sizeLine_eq];lia,by rw[sizeLine_eq];lia,λl nl=>?_⟩
  have tx:∀aI,Ch (Txt.split z blank) aI->∀H',ah H H'->Q (.str (Txt.join blank aI)) H':=λaI h H' s'=>q _ _ s' h.text.1 h.text.2;have sz:=EH z;have wl:(Txt.split z blank).length<=51:=by lia
  have w0:0<(Txt.split z blank).length:=by lia
  generalize Txt.split z blank=ws at *
  have t1:=ah.put (o:=HO.lst (ws.map V.str)) nl;have hl:=aq (H:=H1) (a:=l) (o:=HO.lst (ws.map V.str));have bx:=t1 _ _ hx;generalize upd H1 l (HO.lst (ws.map V.str))=H2 at *
  have s2:=s1.trans t1;have a0:=Int.emod_nonneg (xs.getD 1 0) (show (ws.length:Int)≠0 by lia)
  have a1:=Int.emod_lt_of_pos (xs.getD 1 0) (show (0:Int)<(ws.length:Int) by lia)
  refine⟨xa,rfl,_,ao.of bx,_,ix 1 (by decide),l,rfl,_,.inl (ao.of hl),?_⟩
  rw[List.length_map];refine⟨_,rfl,by lia,?_⟩
  obtain⟨k,hk⟩:=Int.eq_ofNat_of_zero_le a0;have hk:xs.getD 1 0 % (ws.length:Int)=(k:Int):=hk;rw[hk] at a1 ⊢;have kl:k<ws.length:=by lia
  clear a0 a1 hx s1 t1 nl hk;have Q3:=Ch.refl sf;refine⟨λσ H'=>∃l aI u,σ = [some (.str z),some (.int c),some (.ref xa),some (.int (k:Nat)),none,some (.ref l),u]/\ah H H'/\H' xa=some (.lst (xs.map V.int))/\H' l=some (.lst (aI.map V.str))/\Ch ws aI/\(3<xs.getD 0 0 % 8->aI=ws),?_,?_⟩
  ·refine⟨xa,rfl,_,ao.of bx,_,ix 0 (by decide),_,rfl,aT (λg1=>?_) λg1=>⟨l,ws,_,rfl,s2,bx,hl,Q3,λ_=>rfl⟩⟩
   refine⟨l,rfl,_,ao.of hl,?_⟩;rw[oV rfl (by lia)]
   intro p1 jx;have u1:=ah.put (o:=HO.lst ((ws.take k).map V.str)) jx;have jy:=aq (H:=H2) (a:=p1) (o:=HO.lst ((ws.take k).map V.str));generalize upd H2 p1 (HO.lst ((ws.take k).map V.str))=J1 at *
   refine⟨l,rfl,_,ao.of (u1 _ _ hl),?_⟩;rw[EY (j:=k+1) rfl (by lia) (by lia) (by lia)]
   intro p2 lC;have u2:=ah.put (o:=HO.lst (((ws.drop k).take (k+1 - k)).map V.str)) lC;have GZ:=aq (H:=J1) (a:=p2) (o:=HO.lst (((ws.drop k).take (k+1 - k)).map V.str));generalize upd J1 p2 (HO.lst (((ws.drop k).take (k+1 - k)).map V.str))=J2 at *
   refine⟨_,(u2 _ _ jy),by simp;lia,?_⟩
   intro p3 lD;have u3:=ah.put (o:=HO.lst ((ws.take k).map V.str++((ws.drop k).take (k+1 - k)).map V.str)) lD;have jh:=aq (H:=J2) (a:=p3) (o:=HO.lst ((ws.take k).map V.str++((ws.drop k).take (k+1 - k)).map V.str));generalize upd J2 p3 (HO.lst ((ws.take k).map V.str++((ws.drop k).take (k+1 - k)).map V.str))=J3 at *
   refine⟨l,rfl,_,ao.of (u3 _ _ (u2 _ _ (u1 _ _ hl))),?_⟩;rw[oW rfl];intro p4 jz;have u4:=ah.put (o:=HO.lst ((ws.drop k).map V.str)) jz;have pT:=aq (H:=J3) (a:=p4) (o:=HO.lst ((ws.drop k).map V.str));generalize upd J3 p4 (HO.lst ((ws.drop k).map V.str))=J4 at *
   refine⟨_,(u4 _ _ jh),by simp;lia,λp5 n5=>⟨p5,_,_,rfl,s2.trans (u1.trans (u2.trans (u3.trans (u4.trans (ah.put n5))))),ah.put n5 _ _ (u4 _ _ (u3 _ _ (u2 _ _ (u1 _ _ bx)))),?_,Pw sf k,λzz=>by lia⟩⟩
   rw[aq,show k+1 - k=1 by lia,List.map_append,List.map_append]
  clear hl bx s2;rintro σ H2 ⟨l,aI,u,rfl,s2,bx,hl,hc,he⟩;walk_at "rdt";refine⟨λσ H'=>∃l aI u,σ = [some (.str z),some (.int c),some (.ref xa),some (.int (k:Nat)),none,some (.ref l),u]/\ah H H'/\H' xa=some (.lst (xs.map V.int))/\H' l=some (.lst (aI.map V.str))/\Ch ws aI/\(4<xs.getD 0 0 % 8->aI=ws),?_,?_⟩
  ·refine⟨_,ao.of bx,_,ix 0 (by decide),_,rfl,aT (λg1=>?_) λg1=>⟨l,aI,_,rfl,s2,bx,hl,hc,λz=>he (by lia)⟩⟩
   have:=he (by lia)
   subst this;refine⟨_,ao.of hl,?_⟩;rw[oV rfl (by lia)]
   intro p1 jx;have u1:=ah.put (o:=HO.lst ((aI.take k).map V.str)) jx;have jy:=aq (H:=H2) (a:=p1) (o:=HO.lst ((aI.take k).map V.str));generalize upd H2 p1 (HO.lst ((aI.take k).map V.str))=J1 at *
   refine⟨_,ao.of (u1 _ _ hl),?_⟩;rw[oW (k:=k+1) (by lia)]
   intro p4 jz;have u2:=ah.put (o:=HO.lst ((aI.drop (k+1)).map V.str)) jz;have GZ:=aq (H:=J1) (a:=p4) (o:=HO.lst ((aI.drop (k+1)).map V.str));generalize upd J1 p4 (HO.lst ((aI.drop (k+1)).map V.str))=J2 at *
   refine⟨_,(u2 _ _ jy),by simp;lia,λp5 n5=>⟨p5,_,_,rfl,s2.trans (u1.trans (u2.trans (ah.put n5))),ah.put n5 _ _ (u2 _ _ (u1 _ _ bx)),?_,Px sf k,λzz=>by lia⟩⟩
   rw[aq,List.map_append]
  clear hl bx s2 hc he;rintro σ H2 ⟨l,aI,u,rfl,s2,bx,hl,hc,he⟩;walk_at "rdt";refine⟨λσ H'=>∃l aI u,σ = [some (.str z),some (.int c),some (.ref xa),some (.int (k:Nat)),none,some (.ref l),u]/\ah H H'/\H' xa=some (.lst (xs.map V.int))/\H' l=some (.lst (aI.map V.str))/\Ch ws aI/\(5<xs.getD 0 0 % 8->aI=ws),?_,?_⟩
  ·refine⟨_,ao.of bx,_,ix 0 (by decide),_,rfl,aT (λg1=>?_) λg1=>⟨l,aI,_,rfl,s2,bx,hl,hc,λz=>he (by lia)⟩⟩
   have:=he (by lia)
   subst this;refine⟨_,ao.of hl,?_⟩;rw[EY (j:=k+2) rfl (by lia) (by lia) (by lia),show k+2 - k=2 by lia]
   intro p1 jx;refine⟨⟨_,ao.of aq⟩,?_⟩;have u1:=ah.put (o:=HO.lst ((((aI.drop k).take 2).map V.str).reverse)) jx;have jy:=aq (H:=H2) (a:=p1) (o:=HO.lst ((((aI.drop k).take 2).map V.str).reverse));generalize upd H2 p1 (HO.lst ((((aI.drop k).take 2).map V.str).reverse))=J1 at *
   refine⟨_,ao.of (u1 _ _ hl),?_⟩;rw[oV rfl (by lia)]
   intro p2 lC;have u2:=ah.put (o:=HO.lst ((aI.take k).map V.str)) lC;have GZ:=aq (H:=J1) (a:=p2) (o:=HO.lst ((aI.take k).map V.str));generalize upd J1 p2 (HO.lst ((aI.take k).map V.str))=J2 at *
   refine⟨_,(u2 _ _ jy),by simp;lia,?_⟩
   intro p3 lD;have u3:=ah.put (o:=HO.lst ((aI.take k).map V.str++(((aI.drop k).take 2).map V.str).reverse)) lD;have jh:=aq (H:=J2) (a:=p3) (o:=HO.lst ((aI.take k).map V.str++(((aI.drop k).take 2).map V.str).reverse));generalize upd J2 p3 (HO.lst ((aI.take k).map V.str++(((aI.drop k).take 2).map V.str).reverse))=J3 at *
   refine⟨_,ao.of (u3 _ _ (u2 _ _ (u1 _ _ hl))),?_⟩;rw[oW (k:=k+2) (by lia)]
   intro p4 jz;have u4:=ah.put (o:=HO.lst ((aI.drop (k+2)).map V.str)) jz;have pT:=aq (H:=J3) (a:=p4) (o:=HO.lst ((aI.drop (k+2)).map V.str));generalize upd J3 p4 (HO.lst ((aI.drop (k+2)).map V.str))=J4 at *
   refine⟨_,(u4 _ _ jh),by simp;lia,λp9 n9=>⟨p9,_,_,rfl,s2.trans (u1.trans (u2.trans (u3.trans (u4.trans (ah.put n9))))),ah.put n9 _ _ (u4 _ _ (u3 _ _ (u2 _ _ (u1 _ _ bx)))),?_,Py sf k,λzz=>by lia⟩⟩
   rw[aq,← List.map_reverse,List.map_append,List.map_append]
  clear hl bx s2 hc he;rintro σ H2 ⟨l,aI,u,rfl,s2,bx,hl,hc,he⟩;walk_at "rdt";refine⟨λσ H'=>∃l aI u,σ = [some (.str z),some (.int c),some (.ref xa),some (.int (k:Nat)),none,some (.ref l),u]/\ah H H'/\H' xa=some (.lst (xs.map V.int))/\H' l=some (.lst (aI.map V.str))/\Ch ws aI/\(6<xs.getD 0 0 % 8->aI=ws),?_,?_⟩
  ·refine⟨_,ao.of bx,_,ix 0 (by decide),_,rfl,aT (λg1=>?_) λg1=>⟨l,aI,_,rfl,s2,bx,hl,hc,λz=>he (by lia)⟩⟩
   have:=he (by lia)
   subst this;refine⟨_,ao.of hl,?_⟩;rw[oV rfl (by lia)]
   intro p1 jx;have u1:=ah.put (o:=HO.lst ((aI.take k).map V.str)) jx;have jy:=aq (H:=H2) (a:=p1) (o:=HO.lst ((aI.take k).map V.str));generalize upd H2 p1 (HO.lst ((aI.take k).map V.str))=J1 at *
   refine⟨xa,xs,rfl,u1 _ _ bx,ok,λo J2 u2 wo=>?_⟩;intro p2 lC;have u3:=ah.put (o:=HO.lst ([V.str o])) lC;have jh:=aq (H:=J2) (a:=p2) (o:=HO.lst ([V.str o]));generalize upd J2 p2 (HO.lst ([V.str o]))=J3 at *
   refine⟨_,(u3 _ _ (u2 _ _ jy)),by simp;lia,?_⟩
   intro p3 lD;have u4:=ah.put (o:=HO.lst ((aI.take k).map V.str++[V.str o])) lD;have pT:=aq (H:=J3) (a:=p3) (o:=HO.lst ((aI.take k).map V.str++[V.str o]));generalize upd J3 p3 (HO.lst ((aI.take k).map V.str++[V.str o]))=J4 at *
   refine⟨_,ao.of (u4 _ _ (u3 _ _ (u2 _ _ (u1 _ _ hl)))),?_⟩;rw[oW (k:=k+1) (by lia)]
   intro p4 jz;have u5:=ah.put (o:=HO.lst ((aI.drop (k+1)).map V.str)) jz;have G0:=aq (H:=J4) (a:=p4) (o:=HO.lst ((aI.drop (k+1)).map V.str));generalize upd J4 p4 (HO.lst ((aI.drop (k+1)).map V.str))=J5 at *
   refine⟨_,(u5 _ _ pT),by simp;lia,λp9 n9=>⟨p9,_,_,rfl,s2.trans (u1.trans (u2.trans (u3.trans (u4.trans (u5.trans (ah.put n9)))))),ah.put n9 _ _ (u5 _ _ (u4 _ _ (u3 _ _ (u2 _ _ (u1 _ _ bx))))),?_,Pz sf k wo,λzz=>by lia⟩⟩
   rw[aq,List.map_append,List.map_append];rfl
  clear hl bx s2 hc he;rintro σ H2 ⟨l,aI,u,rfl,s2,bx,hl,hc,he⟩;walk_at "rdt";refine⟨λσ H'=>∃l aI u,σ = [some (.str z),some (.int c),some (.ref xa),some (.int (k:Nat)),none,some (.ref l),u]/\ah H H'/\H' xa=some (.lst (xs.map V.int))/\H' l=some (.lst (aI.map V.str))/\Ch ws aI/\(7<xs.getD 0 0 % 8->aI=ws),?_,?_⟩
  ·refine⟨_,ao.of bx,_,ix 0 (by decide),_,rfl,aT (λg1=>?_) λg1=>⟨l,aI,_,rfl,s2,bx,hl,hc,λz=>he (by lia)⟩⟩
   have:=he (by lia)
   subst this;refine⟨_,ao.of hl,?_⟩;rw[oV rfl (by lia)]
   intro p1 jx;have u1:=ah.put (o:=HO.lst ((aI.take k).map V.str)) jx;have jy:=aq (H:=H2) (a:=p1) (o:=HO.lst ((aI.take k).map V.str));generalize upd H2 p1 (HO.lst ((aI.take k).map V.str))=J1 at *
   refine⟨xa,xs,rfl,u1 _ _ bx,ok,λo J2 u2 wo=>?_⟩;intro p2 lC;have u3:=ah.put (o:=HO.lst ([V.str o])) lC;have jh:=aq (H:=J2) (a:=p2) (o:=HO.lst ([V.str o]));generalize upd J2 p2 (HO.lst ([V.str o]))=J3 at *
   refine⟨_,(u3 _ _ (u2 _ _ jy)),by simp;lia,?_⟩
   intro p3 lD;have u4:=ah.put (o:=HO.lst ((aI.take k).map V.str++[V.str o])) lD;have pT:=aq (H:=J3) (a:=p3) (o:=HO.lst ((aI.take k).map V.str++[V.str o]));generalize upd J3 p3 (HO.lst ((aI.take k).map V.str++[V.str o]))=J4 at *
   refine⟨_,ao.of (u4 _ _ (u3 _ _ (u2 _ _ (u1 _ _ hl)))),?_⟩;rw[oW rfl];intro p4 jz;have u5:=ah.put (o:=HO.lst ((aI.drop k).map V.str)) jz;have G0:=aq (H:=J4) (a:=p4) (o:=HO.lst ((aI.drop k).map V.str));generalize upd J4 p4 (HO.lst ((aI.drop k).map V.str))=J5 at *
   obtain⟨y0,y1⟩:=md 2 4 (by decide)
   obtain⟨mm,hm⟩:=Int.eq_ofNat_of_zero_le y0;have hm:xs.getD 2 0 % 4=(mm:Int):=hm;refine⟨_,ao.of (u5 _ _ (u4 _ _ (u3 _ _ (u2 _ _ (u1 _ _ bx))))),_,ix 2 (by decide),_,rfl,_,ao.of G0,?_⟩
   rw[hm,Pu rfl];intro p5 Q4;have u6:=ah.put (o:=HO.lst (((aI.drop k).take mm).map V.str)) Q4;have WB:=aq (H:=J5) (a:=p5) (o:=HO.lst (((aI.drop k).take mm).map V.str));generalize upd J5 p5 (HO.lst (((aI.drop k).take mm).map V.str))=J6 at *
   refine⟨_,(u6 _ _ (u5 _ _ pT)),by simp;lia,λp9 n9=>⟨p9,_,_,rfl,s2.trans (u1.trans (u2.trans (u3.trans (u4.trans (u5.trans (u6.trans (ah.put n9))))))),ah.put n9 _ _ (u6 _ _ (u5 _ _ (u4 _ _ (u3 _ _ (u2 _ _ (u1 _ _ bx)))))),?_,PB sf k wo mm,λzz=>by lia⟩⟩
   rw[aq,List.map_append,List.map_append];rfl
  clear hl bx s2 hc he;rintro σ H2 ⟨l,aI,u,rfl,s2,bx,hl,hc,he⟩;walk_at "rdt";have h1:=hc.len;refine⟨blank,l,aI,rfl,rfl,ao.of hl,?_,tx aI hc _ s2⟩;have h2:=hc.sum;have h3:=EZ aI;have h4:bL ws<=z.length+1:=sz;have b:blank.length=1:=by decide
  rw[b];lia
theorem G1(T:Tx K mg A):bg P w K mg base (cg P w base) 3 A.se A.sq ["first", "many", "at", "asker", "latest", "behind"] (MB K A.aQ):=by
 have ie:=vv (P:=P) (w:=w) (base:=base) T;have Q5:=QU (P:=P) (w:=w) (base:=base) T;refine T.uF.eB P8 (λvs H Q E h=>?_) (λaN Ar outer s H vs Q E hr h=>?_)
 ·obtain⟨f,m,a,s',l,b,ns,rfl,_⟩:=h
  rfl
 ·obtain⟨f,m,a,s',l,b,ns,rfl,hS,q1,q2⟩:=h;refine⟨_,(az (cJ (bu ie (hr.mono (by first | decide | lia)) rfl T.jq T.iP.kp T.jo .nil bJ (aa (pv 0) (aa aj (aa (eL (v:=.int 1000000) rfl T.Gu ⟨_,rfl⟩) (aa aE ak))))))
   (az (cJ (bu ie (hr.mono (by first | decide | lia)) rfl T.jq T.iP.kp T.jo .nil bJ (aa (pv 1) (aa aj (aa (eL (v:=.int 16) rfl T.Gs ⟨_,rfl⟩) (aa aE ak))))))
   (az (cJ (bu ie (hr.mono (by first | decide | lia)) rfl T.jq T.iP.kp T.jo .nil bJ (aa (pv 2) (aa aj (aa (eL (v:=.int 1000000000000) rfl T.Au ⟨_,rfl⟩) (aa aE ak))))))
   (az (cJ (bu ie (hr.mono (by first | decide | lia)) rfl T.jq T.iP.kp T.jo .nil bJ (aa (pv 3) (aa aj (aa (eL (v:=.int 20) rfl T.Gw ⟨_,rfl⟩) (aa aE ak))))))
   (az (aY (aM kH (pv 4) bX (aH _)) (aD (cJ (bu ie (hr.mono (by first | decide | lia)) rfl T.jq T.iP.kp T.jo .nil bJ (aa (pv 4) (aa aj (aa (eL (v:=.int 10000000000000) rfl T.Gx ⟨_,rfl⟩) (aa aE ak))))))) bf)
   (aD (cJ (bu Q5 (hr.mono (by first | decide | lia)) rfl T.Fi T.zE.kp T.Fg .nil bJ (aa (pv 5) ak))))))))),?_⟩
  walk_at "rdm";refine⟨f,0,1000000,_,rfl,λc1=>?_,λno=>q2 λz=>no ⟨z.1.f0,z.1.f1⟩⟩;refine⟨m,1,16,_,rfl,λc2=>?_,λno=>q2 λz=>no ⟨z.1.m0,z.1.m1⟩⟩;refine⟨a,0,1000000000000,_,rfl,λc3=>?_,λno=>q2 λz=>no ⟨z.1.a0,z.1.a1⟩⟩;refine⟨s',0,20,_,rfl,λc4=>?_,λno=>q2 λz=>no ⟨z.1.s0,z.1.s1⟩⟩;cases l with
  | none=>exact ite_no (by simp[b_]) ⟨b,ns,rfl,hS,λR=>q1 ⟨⟨c1.1,c1.2,c2.1,c2.2,c3.1,c3.2,c4.1,c4.2,(λx hx=>nomatch hx)⟩,R⟩,λno=>q2 λz=>no z.2⟩
  | some x=>exact ite_yes (by simp[b_]) ⟨x,0,10000000000000,_,rfl,λc5=>⟨b,ns,rfl,hS,λR=>q1 ⟨⟨c1.1,c1.2,c2.1,c2.2,c3.1,c3.2,c4.1,c4.2,(λy hy=>by cases hy;exact c5)⟩,R⟩,λno=>q2 λz=>no z.2⟩,λno=>q2 λz=>no (z.1.l x rfl)⟩
theorem Q6(T:Tx K mg A):bg P w K mg base (cg P w base) 3 A.sF A.sG ["at"] (ME K A.bA A.aQ):=by
 have pU:=Ay (P:=P) (w:=w) (base:=base) T;have ie:=vv (P:=P) (w:=w) (base:=base) T;refine T.zL.eB P_ (λvs H Q E h=>?_) (λaN Ar outer s H vs Q E hr h=>?_)
 ·obtain⟨a,rfl,_⟩:=h
  rfl
 ·obtain⟨a,rfl,q1,q2⟩:=h;refine⟨_,(az (cJ (bu ie (hr.mono (by first | decide | lia)) rfl T.jq T.iP.kp T.jo .nil bJ (aa (pv 0) (aa aj (aa (eL (v:=.int 1000000000000) rfl T.Au ⟨_,rfl⟩) (aa aE ak))))))
   (aD (aV (qy T.uS pU (hr.mono (by first | decide | lia)) rfl T.uT T.uE .nil bB (aa aE (aa aj (aa aj (aa (dB ak) (aa (pv 0) (aa aj (aa bX (aa (dB ak) (aa dw ak))))))))))))),?_⟩
  walk_at "rdt";refine⟨a,0,1000000000000,_,rfl,λc1=>?_,q2⟩
  try dsimp only
  intro m nm b nb x dx nx i_ eu;refine⟨x,dx,_,_,_,_,_,_,_,_,_,rfl,aq,rfl,?_⟩;obtain⟨a1,a2,a3⟩:=xA (K:=K) (C:=A.bA) (q:=⟨"rest",0,0,[],a,0,none,[],false⟩) ((ah.put nm).trans (ah.put nb)) nx i_ eu (ah.put nb _ _ aq) aq;exact q1 c1 _ _ _ _ _ a1 a2 a3
theorem AE(T:Tx K mg A):bg P w K mg base (cg P w base) 3 A.sS A.sU ["self"] (OE A.bq A.aP):=by
 have AF:=GS (P:=P) (w:=w) (base:=base) T;refine T.FF.eB Qg (λvs H Q E h=>?_) (λaN Ar outer s H vs Q E hr h=>?_)
 ·obtain⟨p,dx,l,r,rfl,_⟩:=h
  rfl
 ·obtain⟨p,dx,l,r,rfl,bM,q1,q2⟩:=h;obtain⟨ws,k,vA,hw,hd,dR⟩:=bM.ex;refine⟨_,(az (aY (iW (f9 (dO (pv 0) T.bK T.zO AF (hr.mono (by first | decide | lia)) T.zN .nil bB))) (aD (qQ qT rfl T.pP T.lA PySem.F.excBase_ValueError rfl (aa aE ak))) bf)
   (az (fR (pv 0) (aA bQ (cE (pv 0) rfl) aj) rfl)
   (aD (aV (d_ DT rfl T.mS boot_int (aa (aC aW (cE (pv 0) rfl) (aA B7 (cE (pv 0) rfl) aj) (λ_ _=>rfl)) ak)))))),?_⟩
  wp_walk using T,hw.o;refine⟨p,dx,l,r,rfl,bM,λH1 s1=>⟨_,rfl,?_⟩⟩;cases hn:iM r with
  | false=>exact ite_yes rfl (q2 (Ez hn) _ (SameBut.of s1))
  | true =>
   obtain⟨w,r',e1,e2,e3⟩:=rE hn;rw[e1] at hd;have hk:=(Ef hd).1;have cC:=hw.same s1;refine ite_no (by decide) ⟨A.bq,dx,_,cC.o,T.bK,T.jv,_,rfl,_,rfl,A.bq,dx,_,cC.o,T.bK,T.jv,by simp,T.bK,T.pL,_,rfl,T.bK,T.jv,_,rfl,_,rfl,_,rfl,_,ao.of (by rw[bF cC.ne];exact cC.w),?_⟩
   have e:((k:Int)+1) - 1=(k:Int):=by lia
   rw[e];obtain⟨t1,t2⟩:=yt e2;exact⟨_,gi (by rw[List.getElem?_map,hk];rfl),_,rfl,_,t1,by lia,q1 _ _ e3 _ (SameBut.put (SameBut.of s1)) (Wd.step (cC.put rfl) hd dR)⟩
theorem Q7(T:Tx K mg A):bg P w K mg base cz 3 A.um A.uo ["_law_words", "_law_at"] EJ:=by
 have lB:=AA (P:=P) (w:=w) (base:=base) T;have AG:=GX (P:=P) (w:=w) (base:=base) T;refine T.Ac.ok lg (λvs H Q E h=>?_) (λaN Ar outer s H vs Q E hr h=>?_)
 ·obtain⟨l,ws,k,rfl,_⟩:=h
  rfl
 ·obtain⟨l,ws,k,rfl,hl,dR,hk,q1,q2⟩:=h;have dX:=hr.kJ;refine⟨_,(az (aU (i:=2) lg.nd rfl (Or.inl rfl) (bG ak))
   (az (lP PassesOwn.never rfl (qm (bG (aa aE (aa aE (aa aE ak))))) (eN (i:=3) lg.nd rfl (Or.inl rfl))
   (aD (aY (aM (rD dX) (cK dP (pv 0) (cy (pv 1)) (cy (aA bQ (pv 1) aj))) (bG (aa (pv 3) ak)) (aH _)) (az (cJ (gj PySem.F.plainAttrs_list PySem.F.slot_list_append PySem.F.type_list_append i7 (pv 2) (aa (bu lB (hr.mono (by first | decide | lia)) rfl T.mQ T.lq.kp T.mO .nil bB (aa (pv 0) (aa (aA bQ (pv 1) aj) ak))) ak)))
   (az (aY (aM lQ (aC aW (pv 2) (qp qu aj) (λ_ _=>rfl)) bX (aH _)) (aD (aV bX)) bf)
   (aD (aU (i:=1) lg.nd rfl (Or.inl rfl) (aA bQ (pv 1) aj))))) (aD (cJ (gj PySem.F.plainAttrs_list PySem.F.slot_list_append PySem.F.type_list_append i7 (pv 2) (aa (aC aW (bG (aa (qp qu aj) (aa aj (aa bX ak)))) (bO eg rfl T.cH boot_len (aa (pv 2) ak)) (λ_ _=>rfl)) ak)))))))
   (az (aU (i:=4) lg.nd rfl (Or.inl rfl) (bG ak))
   (az (b6 (aY (aM (rD dX) (cK dP (pv 0) (cy (pv 1)) (cy (aA bQ (pv 1) aj))) (bG (aa aE ak)) (aH _)) (az (aU (i:=4) lg.nd rfl (Or.inl rfl) (bu AG (hr.mono (by first | decide | lia)) rfl T.Ab T.uP.kp T.Aa .nil bB (aa (pv 0) (aa (aA bQ (pv 1) aj) ak))))
   (az (aY (aM (rD dX) (pv 4) (bG ak) (aH _)) (aD (aV bX)) bf)
   (aD (aU (i:=1) lg.nd rfl (Or.inl rfl) (aA bQ (aA bQ (pv 1) aj) (bO eg rfl T.cH boot_len (aa (pv 4) ak))))))) bf))
   (az (aY (PW.pt (dz (aM gb (pv 1) (bO eg rfl T.cH boot_len (aa (pv 0) ak)) (aH _)) (fQ (aM cD (aC aW (pv 2) aj (λ_ _=>rfl)) (qp qu aj) (aH _))))) (aD (aV bX)) bf)
   (aD (aV (dB (aa (aC aW (pv 2) aj (λ_ _=>rfl)) (aa (aC aW (pv 2) aj (λ_ _=>rfl)) (aa (aC aW (pv 2) aj (λ_ _=>rfl)) (aa (d_ kM rfl T.ia boot_tuple (aa (pv 4) ak)) ak)))))))))))),?_⟩
  walk_at "rdt";intro f nf;have s0:=ah.put (o:=HO.lst []) nf;refine CM ?_;walk_at "rdm";intro p np;have s1:=s0.trans (ah.put (o:=HO.lst (gq.map V.str)) np);have hp:=aq (H:=upd H f (HO.lst [])) (a:=p) (o:=HO.lst (gq.map V.str));have fp:f≠p:=λz=>by rw[z,aq] at np;cases np
  have hf:=ah.put (o:=HO.lst (gq.map V.str)) np _ _ aq
  show lX K p _ _ _ _ (upd (upd H f (HO.lst [])) p (HO.lst (gq.map V.str)));have WC:=s0.back np;generalize upd (upd H f (HO.lst [])) p (HO.lst (gq.map V.str))=H9 at *
  refine lX.by p (gq.map V.str) (λi σ H'=>∃x k' fs,σ = [some (.ref l),some (.int (k':Nat)),some (.ref f),x,none]/\ah H H'/\H' p=some (.lst (gq.map V.str))/\H' f=some (.lst fs)/\k'<=ws.length/\gr (ws.drop k) i fs (ws.drop k')) (ao.of hp) ⟨none,k,[],rfl,s1,hp,hf,hk,rfl,rfl⟩ (by rintro i σ H' _ ⟨_,_,_,rfl,s,hp,_⟩;exact ao.of hp) ?_ ?_
  ·rintro i x σ H1 N hN hx ⟨x0,k',fs,rfl,s2,AH,j9,pW,ts⟩;obtain⟨w,hw,rfl⟩:=gk hx;walk_at "rdt";refine⟨_,ao.of (s2 _ _ hl),?_⟩;rw[EM pW rfl];intro p1 n1 p2 n2;have t1:=ah.put (o:=HO.lst (((ws.drop k').take 1).map V.str)) n1;have t2:=t1.trans (ah.put (o:=HO.lst [V.str w]) n2);have c1:=ah.put (o:=HO.lst [V.str w]) n2 _ _ (aq (H:=H1) (a:=p1) (o:=HO.lst (((ws.drop k').take 1).map V.str)));have c2:=aq (H:=upd H1 p1 (HO.lst (((ws.drop k').take 1).map V.str))) (a:=p2) (o:=HO.lst [V.str w]);generalize upd (upd H1 p1 (HO.lst (((ws.drop k').take 1).map V.str))) p2 (HO.lst [V.str w])=H2 at *
   have s3:=s2.trans t2;refine⟨_,ao.of c1,_,ao.of c2,eW.strs _ [w],aT (λg=>?_) λg=>?_⟩
   ·have hd:=rJ.mp g;refine⟨⟨_,ao.of (t2 _ _ j9)⟩,l,ws,k' + 1,by rw[Int.natCast_add];rfl,s3 _ _ hl,dR,λH3 s4=>⟨_,s4 _ _ (t2 _ _ j9),by rw[ts.len];exact EO hw,_,ao.of aq,_,Kq _ _,?_⟩⟩
    obtain⟨r',d1,d2⟩:=yx hd;have d3:ws.drop (k' + 1)=r':=by rw[← List.drop_drop,d1];rfl
    have en:cA w (ws.drop k')=pNum r':=by unfold cA;rw[d2];rfl
    unfold jm;rw[d3];have s5:=s3.trans s4;cases e:pNum r' with
    | none=>exact ite_yes rfl (q1 (ts.fail hw hd (en.trans e)) _ (ah.put2 s5 nf))
    | some y =>
     obtain⟨n,r2⟩:=y;obtain⟨i1,i2,i3,i4,i5⟩:=k7 e;have d4:ws.drop (k' + 2)=r2:=by rw[← List.drop_drop,d1];exact i4
     have hlen:k' + 2<=ws.length:=by
      have:=congrArg List.length d3;rw[List.length_drop] at this;lia
     refine ite_no (λz=>V.noConfusion z) (hN _ _ ⟨_,k' + 2,_,by rw[Int.natCast_add];rfl,ah.put2 s5 nf,?_,aq,hlen,?_⟩)
     ·rw[bF (Ne.symm fp)];exact s4 _ _ (t2 _ _ AH)
     ·rw[d4];exact ts.num hw (en.trans e)
   ·have hd:cQ (ws.drop k')≠.str w:=λz=>g (rJ.mpr z);obtain⟨v,e1,e2⟩:=ts.O7 hw hd;refine⟨⟨_,ao.of (t2 _ _ j9)⟩,λp3 n3=>?_⟩;have t3:=ah.put (o:=HO.lst [V.int (-1),V.int 0,V.aF]) n3;refine⟨_,.inl (ao.of (t3 _ _ (t2 _ _ j9))),_,ao.of aq,v,by rw[ts.len];exact e1,_,t3 _ _ (t2 _ _ j9),by rw[ts.len];exact EO hw,hN _ _ ⟨_,k',_,rfl,ah.put2 (s3.trans t3) nf,?_,aq,pW,e2⟩⟩
    rw[bF (Ne.symm fp)];exact t3 _ _ (t2 _ _ AH)
  ·rintro σ H1 ⟨x0,k',fs,rfl,s2,AH,j9,pW,ts⟩;obtain⟨a,r1,sa,r2,la,rfl,ta,h2,h3⟩:=(show gr (ws.drop k) 3 fs (ws.drop k') from ts);obtain⟨Q8,Q9⟩:=O8 ta h2 h3;walk_at "rdt";intro b Q_;have tb:=ah.put (o:=HO.lst []) Q_;refine⟨λσ H'=>∃k2 bb bh,σ = [some (.ref l),some (.int (k2:Nat)),some (.ref f),x0,some (.ref bb)]/\ah H H'/\H' f=some (.lst [.int a,.int sa,b_ la])/\H' bb=some (.lst (bh.map V.int))/\bh.length<=60/\jk (ws.drop k')=some (bh,ws.drop k2)/\k2<=ws.length,?_,?_⟩
   ·refine⟨_,ao.of ((s2.trans tb) _ _ hl),?_⟩;rw[EM pW rfl];intro p1 n1 p2 n2;have t1:=ah.put (o:=HO.lst (((ws.drop k').take 1).map V.str)) n1;have t2:=(tb.trans t1).trans (ah.put (o:=HO.lst [V.str (Str.ofString "behind")]) n2);have c1:=ah.put (o:=HO.lst [V.str (Str.ofString "behind")]) n2 _ _ (aq (H:=upd H1 b (HO.lst [])) (a:=p1) (o:=HO.lst (((ws.drop k').take 1).map V.str)));have c2:=aq (H:=upd (upd H1 b (HO.lst [])) p1 (HO.lst (((ws.drop k').take 1).map V.str))) (a:=p2) (o:=HO.lst [V.str (Str.ofString "behind")]);have c3:=(t1.trans (ah.put (o:=HO.lst [V.str (Str.ofString "behind")]) n2)) _ _ (aq (H:=H1) (a:=b) (o:=HO.lst []));generalize upd (upd (upd H1 b (HO.lst [])) p1 (HO.lst (((ws.drop k').take 1).map V.str))) p2 (HO.lst [V.str (Str.ofString "behind")])=H2 at *
    have s3:=s2.trans t2;refine⟨_,ao.of c1,_,ao.of c2,eW.strs _ [_],aT (λg=>?_) λg=>?_⟩
    ·have hd:=rJ.mp g;have d3:(ws.drop k').drop 1=ws.drop (k' + 1):=by rw[List.drop_drop]
     refine⟨l,ws,k' + 1,by rw[Int.natCast_add];rfl,s3 _ _ hl,dR,λr H3 s4 nr pX p3 n3=>?_⟩
     have t3:=ah.put (o:=HO.lst []) n3;have s5:=s3.trans (s4.trans t3);refine⟨r,rfl,_,ao.of (t3 _ _ pX),[],ao.of aq,eW.ints _ [],aT (λg2=>?_) λg2=>?_⟩
     ·exact q1 (Q8 ((if_pos hd).trans (if_pos (by rw[d3];exact List.map_eq_nil_iff.mp g2)))) _ s5
     ·have ne:aR (ws.drop (k' + 1))≠[]:=λz=>g2 (by rw[z];rfl)
      have l1:=oO (ws.drop (k' + 1));rw[List.length_drop] at l1;have QZ:=dR.1;have lp:0<(aR (ws.drop (k' + 1))).length:=List.length_pos_iff.mpr ne;refine⟨r,rfl,_,.inl (ao.of (t3 _ _ pX)),k' + 1+(aR (ws.drop (k' + 1))).length,r,_,by rw[List.length_map,Int.natCast_add,Int.natCast_add];rfl,s5,(s4.trans t3) _ _ (t2 _ _ j9),t3 _ _ pX,by lia,?_,by lia⟩
      refine(if_pos hd).trans ((if_neg (by rw[d3];exact ne)).trans ?_)
      rw[d3,List.drop_drop]
    ·exact⟨k',b,[],rfl,s3,t2 _ _ j9,c3,by simp,if_neg λz=>g (rJ.mpr z),pW⟩
   rintro σ H2 ⟨k2,bb,bh,rfl,s3,oq,jT,bl,ep,lZ⟩;obtain⟨G2,Ra⟩:=Q9 bh _ ep;walk_at "rdt";have fT:=s3 _ _ hl;refine⟨_,.inl (ao.of fT),?_⟩;rw[List.length_map];have dn:ws.drop k2 = []↔k2=ws.length:=⟨λz=>by have:=List.drop_eq_nil_iff.mp z;lia,λz=>by rw[z,List.drop_length]⟩
   refine aT (λg=>q1 (G2 (.inl λz=>g (by rw[dn.mp z]))) _ s3) λg=>⟨_,ao.of oq,_,rfl,rfl,aT (λg2=>q1 (G2 (.inr (V.int.inj g2))) _ s3) λg2=>?_⟩
   refine⟨_,ao.of oq,_,rfl,_,ao.of oq,_,rfl,_,ao.of oq,_,rfl,_,.inl ⟨ao.of jT,λbt Rb t nt=>?_⟩⟩;have t4:=ah.put (o:=HO.tup (bh.map V.int)) Rb;have t5:=ah.put (o:=HO.tup [V.int a,V.int sa,b_ la,V.ref bt]) nt;exact q2 a sa la bh (Ra (dn.mpr (by lia)) λz=>g2 (by rw[z])) t bt _ (s3.trans (t4.trans t5)) aq (t5 _ _ aq)
theorem Rc(T:Tx K mg A):bg P w K mg base (cg P w base) 4 A.sy A.sC ["first", "many", "at", "asker", "latest", "behind"] (MC K A.bA A.aQ):=by
 have pU:=Ay (P:=P) (w:=w) (base:=base) T;have AI:=G1 (P:=P) (w:=w) (base:=base) T;have AJ:=GN (P:=P) (w:=w) (base:=base) T;refine T.zJ.eB Fb (λvs H Q E h=>?_) (λaN Ar outer s H vs Q E hr h=>?_)
 ·obtain⟨f,m,a,s',l,bv,ns,rfl,_⟩:=h
  rfl
 ·obtain⟨f,m,a,s',l,bv,ns,rfl,hv,q1,q2⟩:=h;refine⟨_,(az (aU (i:=6) Fb.nd rfl (Or.inl rfl) (bu AJ (hr.mono (by first | decide | lia)) rfl T.zI T.uG.kp T.zH .nil bB (aa (pv 5) ak)))
   (az (cJ (bu AI (hr.mono (by first | decide | lia)) rfl T.zG T.uF.kp T.zF .nil bJ (aa (pv 0) (aa (pv 1) (aa (pv 2) (aa (pv 3) (aa (pv 4) (aa (pv 6) ak))))))))
   (aD (aV (qy T.uS pU (hr.mono (by first | decide | lia)) rfl T.uT T.uE .nil bB (aa aE (aa (pv 0) (aa (pv 1) (aa (dB ak) (aa (pv 2) (aa (pv 3) (aa (pv 4) (aa (pv 6) (aa dw ak)))))))))))))),?_⟩
  walk_at "rdt";refine⟨_,ns,rfl,hv,λb H1 s1 hb=>?_⟩;walk_at "rdt";refine⟨_,_,_,_,_,_,ns,rfl,aK.of hb,λhB=>?_,λno=>q2 no _ s1⟩
  try walk_at "rdt"
  intro mk nm x dx nx i_ eu;refine⟨x,dx,_,_,_,_,_,_,_,_,_,rfl,aq,rfl,?_⟩;obtain⟨a1,a2,a3⟩:=xA (K:=K) (C:=A.bA) (q:=⟨"read",f,m,[],a,s',l,ns,false⟩) (s1.trans (ah.put nm)) nx i_ eu aq (ah.put nm _ _ hb);exact q1 hB _ _ _ _ _ a1 a2 a3
theorem Rf(T:Tx K mg A):bg P w K mg base (cg P w base) 4 A.sD A.sE ["first", "marks", "at", "asker", "latest", "behind", "early"] (MD K A.bA A.aQ):=by
 have pU:=Ay (P:=P) (w:=w) (base:=base) T;have ie:=vv (P:=P) (w:=w) (base:=base) T;have AI:=G1 (P:=P) (w:=w) (base:=base) T;have AJ:=GN (P:=P) (w:=w) (base:=base) T;refine T.zK.eB zB (λvs H Q E h=>?_) (λaN Ar outer s H vs Q E hr h=>?_)
 ·obtain⟨f,a,s',ma,ms,l,bv,ns,e,rfl,_⟩:=h
  rfl
 ·obtain⟨f,a,s',ma,ms,l,bv,ns,e,rfl,hm,hv,q1,q2⟩:=h;refine⟨_,(az (aU (i:=7) zB.nd rfl (Or.inl rfl) (bu AJ (hr.mono (by first | decide | lia)) rfl T.zI T.uG.kp T.zH .nil bB (aa (pv 5) ak)))
   (az (cJ (bu AI (hr.mono (by first | decide | lia)) rfl T.zG T.uF.kp T.zF .nil bJ (aa (pv 0) (aa (bO eg rfl T.cH boot_len (aa (pv 1) ak)) (aa (pv 2) (aa (pv 3) (aa (pv 4) (aa (pv 7) ak))))))))
   (az (lP PassesOwn.leaving rfl (qm (pv 1)) (eN (i:=8) zB.nd rfl (Or.inl rfl))
   (aD (cJ (bu ie (hr.mono (by first | decide | lia)) rfl T.jq T.iP.kp T.jo .nil bJ (aa (pv 8) (aa aj (aa (eL (v:=.int 1000000000) rfl T.Gv ⟨_,rfl⟩) (aa aE ak))))))))
   (aD (aV (qy T.uS pU (hr.mono (by first | decide | lia)) rfl T.uT T.uE .nil bB (aa aE (aa (pv 0) (aa (bO eg rfl T.cH boot_len (aa (pv 1) ak)) (aa (d_ kM rfl T.ia boot_tuple (aa (pv 1) ak)) (aa (pv 2) (aa (pv 3) (aa (pv 4) (aa (pv 7) (aa (pv 6) ak))))))))))))))),?_⟩
  walk_at "rdt";refine⟨_,ns,rfl,hv,λb H1 s1 hb=>?_⟩;walk_at "rdt";refine⟨_,.inl (s1.seq hm),?_⟩;simp only[List.length_map];refine⟨_,_,_,_,_,_,ns,rfl,aK.of hb,λhB=>?_,λno=>q2 (λz=>no ⟨z.1,z.2.1⟩) _ s1⟩
  try dsimp only
  have kW:=s1.seq hm;refine rl ma (ms.map V.int) (λi σ H'=>∃x,σ = [some (.int f),some (.ref ma),some (.int a),some (.int s'),some (b_ l),some bv,some (.bl e),some (.ref b),x]/\H' = H1/\∀(j:Nat) (n:Int),j<i->ms[j]? = some n->0<=n/\n<=1000000000) (λQ q=>⟨_,rfl,q⟩) kW ⟨none,rfl,rfl,λj n hj=>absurd hj (Nat.not_lt_zero _)⟩ (by rintro i σ H' _ ⟨x,rfl,rfl,_⟩;exact kW) ?_ ?_
  ·rintro i x σ H' N hN hx ⟨x0,rfl,rfl,hd⟩;obtain⟨n,hn,rfl⟩:=gk hx;walk_at "rdm";refine⟨n,0,1000000000,_,rfl,λst=>hN _ _ ⟨_,rfl,rfl,λj m hj ej=>?_⟩,λno=>q2 (λz=>no (z.2.2 n (get_mem hn))) _ s1⟩;by_cases AB:j=i
   ·subst AB;rw[hn] at ej;cases ej;exact st
   ·exact hd j m (by lia) ej
  ·rintro σ H' ⟨x0,rfl,rfl,hd⟩;walk_at "rdt";refine⟨_,.inl kW,_,.inl ⟨kW,λmk nm=>?_⟩⟩;intro x dx nx i_ eu;refine⟨x,dx,_,_,_,_,_,_,_,_,_,rfl,aq,rfl,?_⟩;simp only[List.length_map];obtain⟨a1,a2,a3⟩:=xA (K:=K) (C:=A.bA) (q:=⟨"write",f,ms.length,ms,a,s',l,ns,e⟩) (s1.trans (ah.put nm)) nx i_ eu aq (ah.put nm _ _ hb);refine q1 ⟨hB.1,hB.2,λx hx=>?_⟩ _ _ _ _ _ a1 a2 a3;obtain⟨j,hj,rfl⟩:=List.mem_iff_getElem.mp hx;exact hd j _ (by simpa using hj) (List.getElem?_eq_getElem hj)
theorem G3(T:Tx K mg A):bg P w K mg base (cg P w base) 4 A.sV A.sW ["self"] (OF A.bq A.aP):=by
 have AF:=GS (P:=P) (w:=w) (base:=base) T;have mT:=AE (P:=P) (w:=w) (base:=base) T;refine T.FG.eB Fc (λvs H Q E h=>?_) (λaN Ar outer s H vs Q E hr h=>?_)
 ·obtain⟨p,dx,l,r,rfl,_⟩:=h
  rfl
 ·obtain⟨p,dx,l,r,rfl,bM,q1,q2⟩:=h;obtain⟨k,ho⟩:=bM.o;have ET:=bM.len;refine⟨_,(az (aU (i:=1) Fc.nd rfl (Or.inl rfl) (bG (aa (dO (pv 0) T.bK T.pI mT (hr.mono (by first | decide | lia)) T.pH .nil bJ) ak)))
   (az (B3 PassesOwn.leaving (f9 (dO (pv 0) T.bK T.zO AF (hr.mono (by first | decide | lia)) T.zN .nil bB))
   (aD (cJ (gj PySem.F.plainAttrs_list PySem.F.slot_list_append PySem.F.type_list_append i7 (pv 1) (aa (dO (pv 0) T.bK T.pI mT (hr.mono (by first | decide | lia)) T.pH .nil bJ) ak)))))
   (aD (aV (pv 1))))),?_⟩
  wp_walk using T,ho;refine⟨p,dx,l,r,rfl,bM,λn r1 e1 H1 cL cC a na=>?_,λe H' sb=>q2 (EB e).2 H' sb⟩;obtain⟨f1,f2,f3,f4,f5⟩:=k7 e1;have AK:=cL.back na cC.at;have ap:a≠p:=λz=>by
   obtain⟨k1,o1⟩:=cC.o;rw[z,o1] at na;cases na
  refine⟨λm σ H'=>∃ns rest,m=rest.length/\aR r=ns++aR rest/\r.drop ns.length=rest/\ns.length<=60/\ns.length+rest.length<=60/\σ = [some (.ref p),some (.ref a)]/\SameBut p H H'/\Wd A.bq H' p dx l rest/\H' a=some (.lst (ns.map V.int)),⟨_,[n],r1,rfl,f2,f4,by simp,by simp;lia,rfl,SameBut.step cL (ah.put na),cC.same (ah.put na),aq⟩,?_⟩
  rintro m σ H' ⟨ns,rest,rfl,g1,g2,g3,g4,rfl,sb,vD,AL⟩;obtain⟨kj,oj⟩:=vD.o;walk_at "rdt";refine⟨dx,_,oj,rfl,p,dx,l,rest,rfl,vD,λH2 s2=>⟨_,rfl,aT (λhc=>?_) λhc=>?_⟩⟩
  ·have dm:=vD.same s2;obtain⟨w,r',e2,e3,e4⟩:=rE hc;obtain⟨i1,i2,i3,i4,i5⟩:=k7 e4;refine⟨λaJ H'=>∃cZ,cZ=ns++[nv w]/\aJ = [some (.ref p),some (.ref a)]/\SameBut p H H'/\Wd A.bq H' p dx l r'/\H' a=some (.lst (cZ.map V.int)),?_,⟨_,ao.of (s2 _ _ AL)⟩,dx,_,s2 _ _ oj,rfl,p,dx,l,rest,rfl,dm,λn' r2 e5 H3 fE ig=>?_,λe=>by rw[e4] at e;cases e⟩
   ·rintro aJ H' ⟨cZ,rfl,e1,e2,e3,e4⟩;refine⟨r'.length,by lia,ns++[nv w],r',rfl,by rw[g1,i2];simp,?_,by simp;lia,by simp;lia,e1,e2,e3,e4⟩
    rw[List.length_append,← List.drop_drop,g2];exact i4
   ·rw[e4] at e5;cases e5;have pX:=fE _ _ (s2 _ _ AL) ap;refine⟨_,pX,by simp;lia,_,rfl,rfl,?_,?_,by rw[aq,List.map_append];rfl⟩
    ·exact λb o e z=>by
      have e1:=fE _ _ (s2 _ _ (sb _ _ e z)) z;rw[bF (fO e AK)];exact e1
    ·obtain⟨ws,k3,c1,c2,c3,c4⟩:=ig.ex;have la:l≠a:=λz=>by
      obtain⟨WD,k0,d1,d2,d3,d4⟩:=bM.ex;have l0:=d2.w;rw[z,AK] at l0;cases l0
     exact⟨⟨ws,k3,c1,⟨(by rw[bF (Ne.symm ap)];exact c2.o),(by rw[bF la];exact c2.w)⟩,c3,c4⟩⟩
  ·have qz:iM rest=false:=Bool.not_eq_true _▸hc;rw[EA qz,List.append_nil] at g1;refine q1 (by rw[f2];exact List.cons_ne_nil _ _) a H2 (SameBut.step sb s2) AK ?_ ?_
   ·rw[g1,g2];exact vD.same s2
   ·rw[g1];exact s2 _ _ AL
theorem vE(T:Tx K mg A):bg P w K mg base (cg P w base) 4 A.sX A.sY ["self", "word"] (OG A.bq A.aP):=by
 have pY:=AD (P:=P) (w:=w) (base:=base) T;have mT:=AE (P:=P) (w:=w) (base:=base) T;refine T.FH.eB Qh (λvs H Q E h=>?_) (λaN Ar outer s H vs Q E hr h=>?_)
 ·obtain⟨p,dx,l,r,w,rfl,_⟩:=h
  rfl
 ·obtain⟨p,dx,l,r,w,rfl,bM,q1,q2⟩:=h;obtain⟨k,ho⟩:=bM.o;refine⟨_,(az (cJ (iA (pv 0) T.bK T.uI pY (hr.mono (by first | decide | lia)) T.uH .nil bJ (aa (pv 1) ak)))
   (aD (aV (dO (pv 0) T.bK T.pI mT (hr.mono (by first | decide | lia)) T.pH .nil bJ)))),?_⟩
  wp_walk using T,ho;refine⟨p,dx,l,r,w,rfl,bM,λr' e H1 cL cC=>?_,λe=>q2 (by unfold cA;rw[e];rfl) _ (SameBut.of (ah.refl _))⟩
  obtain⟨k1,fK⟩:=cC.o;have en:cA w r=pNum r':=by unfold cA;rw[e];rfl
  exact⟨dx,_,fK,rfl,p,dx,l,r',rfl,cC,λn r2 e2 H2 cG dm=>q1 n r2 (en.trans e2) _ (cL.tr cG) dm,λe2 H2 cG=>q2 (en.trans e2) _ (cL.tr cG)⟩
theorem Rg(T:Tx K mg A):bg P w K mg base cz 4 A.uq A.ur ["_law_line"] OV:=by
 have lB:=AA (P:=P) (w:=w) (base:=base) T;have AG:=GX (P:=P) (w:=w) (base:=base) T;have Rh:=Q7 (P:=P) (w:=w) (base:=base) T;refine T.Ad.ok rR (λvs H Q E h=>?_) (λaN Ar outer s H vs Q E hr h=>?_)
 ·obtain⟨z,rfl,_⟩:=h
  rfl
 ·obtain⟨z,rfl,hz,q1,q2⟩:=h;refine⟨_,(az (aU (i:=1) rR.nd rfl (Or.inl rfl) (gj PySem.F.plainAttrs_str PySem.F.slot_str_split PySem.F.type_str_split yq (pv 0) (aa aE ak)))
   (az (aY (aM cD (aC aW (pv 1) aj (λ_ _=>rfl)) aE (aH _)) (az (aY (PW.pt (dz (aM gb (bO eg rfl T.cH boot_len (aa (pv 1) ak)) aj (aH _)) (dz (aM gb (aC aW (pv 1) aj (λ_ _=>rfl)) aE (aH _)) (fQ (aM lQ (bu lB (hr.mono (by first | decide | lia)) rfl T.mQ T.lq.kp T.mO .nil bB (aa (pv 1) (aa aj ak))) bX (aH _)))))) (aD (aV bX)) bf)
   (aD (aV (dB (aa aE (aa aj (aa aj (aa (dB ak) (aa (bu lB (hr.mono (by first | decide | lia)) rfl T.mQ T.lq.kp T.mO .nil bB (aa (pv 1) (aa aj ak))) (aa aj (aa bX (aa (dB ak) ak)))))))))))) bf)
   (az (aY (aM KA (aC aW (pv 1) aj (λ_ _=>rfl)) (dB (aa aE (aa aE (aa aE ak)))) rfl) (aD (aV bX)) bf)
   (az (aU (i:=2) rR.nd rfl (Or.inl rfl) (bu AG (hr.mono (by first | decide | lia)) rfl T.Ab T.uP.kp T.Aa .nil bB (aa (pv 1) (aa aj ak))))
   (az (aU (i:=3) rR.nd rfl (Or.inl rfl) (bu Rh (hr.mono (by first | decide | lia)) rfl T.Gg T.Ac.kp T.Gf .nil bB (aa (pv 1) (aa (aA bQ aj (bO eg rfl T.cH boot_len (aa (pv 2) ak))) ak))))
   (az (b6 (aY (PW.pt (dz (aM kG (bO eg rfl T.cH boot_len (aa (pv 2) ak)) aj (aH _)) (dz (PW.pt (qj (aM cD (aC aW (pv 1) aj (λ_ _=>rfl)) aE (aH _)) (qi (aM gc (bO eg rfl T.cH boot_len (aa (pv 2) ak)) aj (aH _))))) (fQ (aM lQ (pv 3) bX (aH _)))))) (aD (aV bX)) bf))
   (az (aY (aM cD (aC aW (pv 1) aj (λ_ _=>rfl)) aE (aH _)) (aD (aV (aA Cs (dB (aa aE (aa (aC aW (pv 2) aj (λ_ _=>rfl)) (aa (aC aW (pv 2) aj (λ_ _=>rfl)) (aa (dB ak) ak))))) (pv 3)))) bf)
   (aD (aV (aA Cs (dB (aa (aC aW (pv 1) aj (λ_ _=>rfl)) (aa (aC aW (pv 2) aj (λ_ _=>rfl)) (aa (aA B7 (bO eg rfl T.cH boot_len (aa (pv 2) ak)) aj) (aa (d_ kM rfl T.ia boot_tuple (aa (cK dP (pv 2) (cy aj) c8) ak)) ak))))) (pv 3))))))))))),?_⟩
  walk_at "rdt";have j1:=hz.1;have j2:=hz.2;have sh:=ED hz;have Ri:=yy z;refine⟨_,blank,rfl,rfl,by decide,by rw[sizeLine_eq];lia,by rw[sizeLine_eq];lia,λl nl=>?_⟩
  generalize Txt.split z blank=ws at *
  obtain⟨w,r,rfl⟩:=List.exists_cons_of_ne_nil Ri;have t1:=ah.put (o:=HO.lst ((w::r).map V.str)) nl;have hl:=aq (H:=H) (a:=l) (o:=HO.lst ((w::r).map V.str));generalize upd H l (HO.lst ((w::r).map V.str))=H1 at *
  have j_:c9 ((w::r).map V.str) 0=some (.str w):=gi (j:=0) rfl;refine⟨l,rfl,_,ao.of hl,_,j_,rfl,aT (λg=>?_) λg=>?_⟩
  ·have ew:w=Str.ofString "rest" := V.str.inj g;subst ew;obtain⟨a1,a2⟩:=ER r;refine⟨l,rfl,_,.inl (ao.of hl),aT (λg1=>?_) λg1=>?_⟩
   ·exact q1 (a2 (.inl λz=>g1 (by simp[z]))) _ t1
   have l2:r.length=2:=by simp at g1;lia
   obtain⟨x,y,rfl⟩:∃x y,r = [x,y]:=by
    match r,l2 with
    | [x,y],_=>exact⟨x,y,rfl⟩
   refine⟨l,rfl,_,ao.of hl,_,gi (j:=1) (v:=.str x) rfl,rfl,aT (λg2=>?_) λg2=>?_⟩
   ·exact q1 (a2 (.inr (.inl λz=>g2 (by simpa using z)))) _ t1
   have ex:[x,y][0]? = some (Str.ofString "at"):=by
    have:=V.str.inj (Classical.byContradiction g2);rw[this];rfl
   refine⟨l,_,2,rfl,hl,sh,λH2 s2=>?_⟩;have en:jm [Str.ofString "rest",x,y] 2=(pNum ([x,y].drop 1)).map (·.1):=rfl;rw[en];cases e:(pNum ([x,y].drop 1)).map (·.1) with
   | none=>exact ite_yes rfl (q1 (a2 (.inr (.inr e))) _ (t1.trans s2))
   | some a =>
    refine ite_no (λz=>V.noConfusion z) λp np=>⟨l,_,2,rfl,ah.put np _ _ (s2 _ _ hl),sh,λH3 s3 p1 n1 p2 n2=>?_⟩;rw[en,e];have t2:=ah.put (o:=HO.tup []) np;have t3:=ah.put (o:=HO.tup []) n1;have t4:=ah.put (o:=HO.tup [V.str (Str.ofString "rest"),V.int 0,V.int 0,V.ref p,b_ (some a),V.int 0,V.aF,V.ref p1]) n2;exact q2 _ (a1 a rfl ex e) p2 p p1 _ (t1.trans (s2.trans (t2.trans (s3.trans (t3.trans t4))))) ⟨aq,t4 _ _ (t3 _ _ (s3 _ _ aq)),t4 _ _ aq⟩
  refine⟨l,rfl,_,ao.of hl,_,j_,λp np=>⟨_,.inr (aK.of aq),rfl,rfl,aT (λg1=>?_) λg1=>?_⟩⟩
  ·refine q1 (rK (λz=>g (congrArg V.str z)) (λz=>?_) (λz=>?_) λz=>?_) _ (t1.trans (ah.put np))
   all_goals rw[z] at g1;exact absurd g1 (by decide)
  have t2:=t1.trans (ah.put (o:=HO.tup [V.str (Str.ofString "read"),V.str (Str.ofString "write"),V.str (Str.ofString "early")]) np);have fT:=ah.put (o:=HO.tup [V.str (Str.ofString "read"),V.str (Str.ofString "write"),V.str (Str.ofString "early")]) np _ _ hl;generalize upd H1 p (HO.tup [V.str (Str.ofString "read"),V.str (Str.ofString "write"),V.str (Str.ofString "early")])=H2 at *
  refine⟨l,_,1,rfl,fT,sh,λf H3 s3 nf hf=>⟨f,rfl,_,.inl (ao.of hf),?_⟩⟩;have hf:H3 f=some (.lst ((aR r).map V.int)):=hf;have rl:=oO r;have rn:=oR r;have jA:=s3 _ _ fT;have ks:((1:Int)+(((aR r).map V.int).length:Int))=((1+(aR r).length:Nat):Int):=by rw[List.length_map];lia
  have ET:r.length<=59:=by simp at j2;lia
  show EJ [V.ref l,V.int ((1:Int)+(((aR r).map V.int).length:Int))] _ _ _;rw[ks];have ed:(w::r).drop (1+(aR r).length)=r.drop (aR r).length:=by rw[Nat.add_comm];rfl
  refine⟨l,_,1+(aR r).length,rfl,jA,sh,by simp;lia,?_,?_⟩
  ·rw[ed];intro et H4 s4;have no:cB (w::r)=none:=by
    by_cases h2:w=Str.ofString "read"
    ·subst h2;obtain⟨a1,a2⟩:=oU r;by_cases zz:(aR r).length=2
     ·obtain⟨f1,m1,e⟩:∃f m,aR r = [f,m]:=by
       match aR r,zz with
       | [x,y],_=>exact⟨x,y,rfl⟩
      rw[a1 f1 m1 e];rw[e] at et;rw[show bT (r.drop 2)=none from et];rfl
     ·exact a2 zz
    ·by_cases h3:w=Str.ofString "write"\/w=Str.ofString "early"
     ·obtain⟨eb,rfl⟩:∃e:Bool,w=if e=true then Str.ofString "early" else Str.ofString "write" := h3.elim (λz=>⟨false,z⟩) λz=>⟨true,z⟩
      obtain⟨a1,a2⟩:=rM r eb;by_cases zz:(aR r).length<2
      ·exact a2 zz
      ·obtain⟨f1,ms,e⟩:∃f ms,aR r=f::ms:=by
        match aR r,zz with
        | [],zz=>exact absurd (show (0:Nat)<2 by decide) zz
        | x::y,_=>exact⟨x,y,rfl⟩
       rw[e] at zz;rw[a1 f1 ms e λy=>by rw[y] at zz;exact zz (show (1:Nat)<2 by decide)]
       rw[e] at et;rw[show bT (r.drop (ms.length+1))=none from et];rfl
     ·exact rK (λz=>g (congrArg V.str z)) h2 (λz=>h3 (.inl z)) λz=>h3 (.inr z)
   have vF:=q1 no H4 (t2.trans (s3.trans s4));refine⟨λ_ _=>False,⟨f,rfl,_,.inl (ao.of (s4 _ _ hf)),aT (λ_=>vF) λ_=>⟨l,rfl,_,ao.of (s4 _ _ jA),_,j_,rfl,aT (λ_=>⟨f,rfl,_,.inl (ao.of (s4 _ _ hf)),aT (λ_=>vF) λ_=>ite_yes rfl vF⟩) λ_=>ite_yes rfl vF⟩⟩,λ_ _ z=>z.elim⟩
  ·rw[ed];intro a sa la bh et t bt H4 s4 ht G4;have jB:=s4 _ _ hf;have kg:=s4 _ _ jA;have vG:=t2.trans (s3.trans s4);refine⟨λσ H'=>σ = [some (.str z),some (.ref l),some (.ref f),some (.ref t)]/\H' = H4/\2<=(aR r).length/\(w=Str.ofString "read"->(aR r).length=2),?_,?_⟩
   ·refine⟨f,rfl,_,.inl (ao.of jB),?_⟩;rw[List.length_map];refine aT (λg2=>?_) λg2=>⟨l,rfl,_,ao.of kg,_,j_,rfl,aT (λg3=>⟨f,rfl,_,.inl (ao.of jB),?_⟩) λg3=>ite_no (λz=>V.noConfusion z) ⟨rfl,rfl,by lia,λz=>absurd (congrArg V.str z) g3⟩⟩
    ·refine q1 ?_ _ vG;by_cases h2:w=Str.ofString "read"
     ·subst h2;exact(oU r).2 (by lia)
     ·by_cases h3:w=Str.ofString "write"\/w=Str.ofString "early"
      ·obtain⟨eb,rfl⟩:∃e:Bool,w=if e=true then Str.ofString "early" else Str.ofString "write" := h3.elim (λz=>⟨false,z⟩) λz=>⟨true,z⟩
       exact(rM r eb).2 (by lia)
      ·exact rK (λz=>g (congrArg V.str z)) h2 (λz=>h3 (.inl z)) λz=>h3 (.inr z)
    ·rw[List.length_map];refine aT (λg4=>q1 ?_ _ vG) λg4=>ite_no (λz=>V.noConfusion z) ⟨rfl,rfl,by lia,λ_=>by lia⟩
     rw[V.str.inj g3];exact(oU r).2 (by lia)
   rintro σ H5 ⟨rfl,rfl,g2,g3⟩;walk_at "rdt";have Rj:(aR r).length<=60:=by lia
   refine⟨_,ao.of kg,_,j_,rfl,aT (λg4=>?_) λg4=>?_⟩
   ·have ew:=V.str.inj g4;have e2:=g3 ew;subst ew;obtain⟨f1,m1,e⟩:∃f m,aR r = [f,m]:=by
     match aR r,e2 with
     | [x,y],_=>exact⟨x,y,rfl⟩
    rw[e] at jB et;have ep:cB (Str.ofString "read" :: r)=some ⟨Str.ofString "read",f1,m1,[],a,sa,la,bh,false⟩:=by
     rw[(oU r).1 f1 m1 e,show bT (r.drop 2)=_ from et];rfl
    refine⟨_,ao.of jB,_,rfl,_,ao.of jB,_,rfl,λp1 n1 p2 n2=>?_⟩;have u1:=ah.put (o:=HO.tup []) n1;have u2:=ah.put (o:=HO.tup [V.str (Str.ofString "read"),V.int f1,V.int m1,V.ref p1]) n2;refine⟨_,aK.of aq,_,aK.of (u2 _ _ (u1 _ _ ht)),List.cons_ne_nil _ _,(by simp),(λz=>nomatch z),λ_ p3 n3=>?_⟩
    have u3:=ah.put (o:=HO.tup ([V.str (Str.ofString "read"),V.int f1,V.int m1,V.ref p1]++[V.int a,V.int sa,b_ la,V.ref bt])) n3;refine q2 _ ep p3 p1 bt _ (vG.trans (u1.trans (u2.trans u3))) ⟨?_,u3 _ _ (u2 _ _ aq),u3 _ _ (u2 _ _ (u1 _ _ G4))⟩;rw[aq,rB];rfl
   ·have h3:w=Str.ofString "write"\/w=Str.ofString "early" := by
     apply Classical.byContradiction;intro h3;refine g1 ?_
     show ([V.str (Str.ofString "read"),V.str (Str.ofString "write"),V.str (Str.ofString "early")].any λy=>fq y (V.str w))=false;simp only[List.any_cons,List.any_nil,Bool.or_false,Bool.or_eq_false_iff,fq,beq_eq_false_iff_ne];exact⟨λz=>g4 (by rw[z]),λz=>h3 (.inl z.symm),λz=>h3 (.inr z.symm)⟩
    obtain⟨eb,rfl⟩:∃e:Bool,w=if e=true then Str.ofString "early" else Str.ofString "write" := h3.elim (λz=>⟨false,z⟩) λz=>⟨true,z⟩
    obtain⟨f1,ms,e⟩:∃f ms,aR r=f::ms:=by
     match aR r,g2 with
     | x::y,_=>exact⟨x,y,rfl⟩
    have hm:ms≠[]:=λy=>by rw[e,y] at g2;exact absurd g2 (show ¬ (2:Nat)<=1 by decide)
    rw[e] at jB et Rj;have ep:=(rM r eb).1 f1 ms e hm;rw[show bT (r.drop (ms.length+1))=_ from et] at ep;have ce:cW ((f1::ms).map V.int) (some 1) none=ms.map V.int:=El (by simp)
    refine⟨_,ao.of kg,_,j_,_,ao.of jB,_,gi (j:=0) rfl,_,.inl (ao.of jB),_,ao.of jB,?_⟩;rw[ce];intro p1 n1;have u1:=ah.put (o:=HO.lst (ms.map V.int)) n1;refine⟨_,.inl ⟨ao.of aq,λp2 n2 p3 n3=>?_⟩⟩;have u2:=ah.put (o:=HO.tup (ms.map V.int)) n2;have el:(((f1::ms).map V.int).length:Int) - 1=(ms.length:Int):=by rw[List.length_map,List.length_cons];lia
    rw[el] at *
    have u3:=ah.put (o:=HO.tup [V.str (if eb=true then Str.ofString "early" else Str.ofString "write"),V.int f1,V.int ms.length,V.ref p2]) n3
    refine⟨_,aK.of aq,_,aK.of (u3 _ _ (u2 _ _ (u1 _ _ ht))),List.cons_ne_nil _ _,(by simp),(λz=>nomatch z),λ_ p4 n4=>?_⟩
    have u4:=ah.put (o:=HO.tup ([V.str (if eb=true then Str.ofString "early" else Str.ofString "write"),V.int f1,V.int ms.length,V.ref p2]++[V.int a,V.int sa,b_ la,V.ref bt])) n4
    refine q2 _ ep p4 p2 bt _ (vG.trans (u1.trans (u2.trans (u3.trans u4)))) ⟨?_,u4 _ _ (u3 _ _ aq),u4 _ _ (u3 _ _ (u2 _ _ (u1 _ _ G4)))⟩;rw[aq,rA];rfl
theorem G5(T:Tx K mg A):bg P w K mg base (cg P w base) 5 A.tu A.tw ["words"] (OI K A.bq A.aP):=by
 have gD:=pR (P:=P) (w:=w) (base:=base) T;have pY:=AD (P:=P) (w:=w) (base:=base) T;have AM:=G3 (P:=P) (w:=w) (base:=base) T;have iQ:=vE (P:=P) (w:=w) (base:=base) T;have AN:=GU (P:=P) (w:=w) (base:=base) T;refine T.uJ.eB oY (λvs H Q E h=>?_) (λaN Ar outer s H vs Q E hr h=>?_)
 ·obtain⟨p,dx,l,r,rfl,_⟩:=h
  rfl
 ·obtain⟨p,dx,l,r,rfl,bM,q1,q2⟩:=h;obtain⟨k,ho⟩:=bM.o;refine⟨_,(az (b6 (aU (i:=1) oY.nd rfl (Or.inl rfl) (m5 (aM cD (dO (pv 0) T.bK T.jt gD (hr.mono (by first | decide | lia)) T.jr .nil bB) aE (aH _)) (iA (pv 0) T.bK T.j4 iQ (hr.mono (by first | decide | lia)) T.j3 .nil bJ (aa aE ak)) aj)))
   (az (b6 (aU (i:=2) oY.nd rfl (Or.inl rfl) (m5 (aM cD (dO (pv 0) T.bK T.jt gD (hr.mono (by first | decide | lia)) T.jr .nil bB) aE (aH _)) (iA (pv 0) T.bK T.j4 iQ (hr.mono (by first | decide | lia)) T.j3 .nil bJ (aa aE ak)) bX)))
   (az (aU (i:=3) oY.nd rfl (Or.inl rfl) bX)
   (az (b6 (aY (aM cD (dO (pv 0) T.bK T.jt gD (hr.mono (by first | decide | lia)) T.jr .nil bB) aE (aH _)) (az (cJ (iA (pv 0) T.bK T.uI pY (hr.mono (by first | decide | lia)) T.uH .nil bJ (aa aE ak)))
   (aD (aU (i:=3) oY.nd rfl (Or.inl rfl) (dO (pv 0) T.bK T.zQ AM (hr.mono (by first | decide | lia)) T.zP .nil bJ)))) bf))
   (az (cJ (dO (pv 0) T.bK T.zS AN (hr.mono (by first | decide | lia)) T.zR .nil bJ))
   (aD (aV (dB (aa (pv 1) (aa (pv 2) (aa (pv 3) ak))))))))))),?_⟩
  wp_walk using T,ho;refine⟨λσ H1=>∃a r1,iN r=some (a,r1)/\σ = [some (.ref p),some (.int a),none,none]/\SameBut p H H1/\Wd A.bq H1 p dx l r1,?_,?_⟩
  ·exact⟨p,dx,l,r,rfl,bM,jl _ _,aT (λg=>⟨dx,_,ho,rfl,p,dx,l,r,_,rfl,bM,λn r' e H1 cL cC=>⟨n,r',(if_pos g).trans e,rfl,cL,cC⟩,λe H' sb=>q2 (by unfold dI;rw[show iN r=none from(if_pos g).trans e];rfl) H' sb⟩) λg=>⟨0,r,if_neg g,rfl,SameBut.of (ah.refl _),bM⟩⟩
  rintro σ H1 ⟨a,r1,ea,rfl,cL,cC⟩;obtain⟨k1,fK⟩:=cC.o;wp_walk using T,fK;refine⟨λσ H2=>∃la r2,jj r1=some (la,r2)/\σ = [some (.ref p),some (.int a),some (b_ la),none]/\SameBut p H H2/\Wd A.bq H2 p dx l r2,?_,?_⟩
  ·refine⟨p,dx,l,r1,rfl,cC,jl _ _,aT (λg=>⟨dx,_,fK,rfl,p,dx,l,r1,_,rfl,cC,λn r' e H2 cG dm=>⟨some n,r',(if_pos g).trans (by rw[e];rfl),rfl,cL.tr cG,dm⟩,λe H' sb=>q2 ?_ H' (cL.tr sb)⟩) λg=>⟨none,r1,if_neg g,rfl,cL,cC⟩⟩
   unfold dI;rw[ea,Option.bind_some,show jj r1=none from(if_pos g).trans (by rw[e];rfl)];rfl
  rintro σ H2 ⟨la,r2,el,rfl,cG,dm⟩;obtain⟨k2,fj⟩:=dm.o;wp_walk using T,fj;refine⟨λσ H3=>∃bh bv r3,jk r2=some (bh,r3)/\σ = [some (.ref p),some (.int a),some (b_ la),some bv]/\SameBut p H H3/\Wd A.bq H3 p dx l r3/\nX K H3 bv bh,?_,?_⟩
  ·refine⟨p,dx,l,r2,rfl,dm,jl _ _,aT (λg=>?_) λg=>⟨[],.aF,r2,if_neg g,rfl,cG,dm,.inl ⟨rfl,rfl⟩⟩⟩;obtain⟨r',d1,d2⟩:=yx g;have d3:r2.drop 1=r':=by rw[d1];rfl
   refine⟨dx,_,fj,rfl,p,dx,l,r2,_,rfl,dm,λWE e H3 fE ig=>?_,λe=>by rw[d2] at e;cases e⟩
   rw[d2] at e;cases e;obtain⟨k3,vH⟩:=ig.o;refine⟨dx,_,vH,rfl,p,dx,l,r',rfl,ig,λne o H4 mU no Rk h4=>⟨_,.ref o,_,(if_pos g).trans ((if_neg (by rw[d3];exact ne)).trans (by rw[d3])),rfl,(cG.tr fE).tr mU,Rk,.inr ⟨o,rfl,.inl (ao.of h4)⟩⟩,λe H' sb=>q2 ?_ H' ((cG.tr fE).tr sb)⟩
   unfold dI;rw[ea,Option.bind_some,el,Option.bind_some,show jk r2=none from(if_pos g).trans (if_pos (by rw[d3];exact e))];rfl
  rintro σ H3 ⟨bh,bv,r3,eb,rfl,fE,ig,pZ⟩;obtain⟨k3,vH⟩:=ig.o;wp_walk using T,vH;have em:dI r=if r3 = [] then some (a,la,bh) else none:=by
   unfold dI;rw[ea,Option.bind_some,el,Option.bind_some,eb,Option.bind_some]
  refine⟨p,dx,l,r3,rfl,ig,λe t nt=>q1 a la bh (em.trans (if_pos e)) t bv _ (SameBut.step fE (ah.put nt)) ⟨_,ah.put nt _ _ vH⟩ aq ?_,λe=>q2 (em.trans (if_neg e)) _ fE⟩;rcases pZ with z | ⟨o,e,z⟩
  ·exact .inl z
  ·exact .inr ⟨o,e,z.elim (λz=>.inl ((ah.put nt).seq z)) λz=>.inr (ah.put nt _ _ z)⟩
theorem Rl(T:Tx K mg A):bg P w K mg base (cg P w base) 5 A.tH A.tK ["words"] (Ex K A.bq A.bA A.aP A.aQ g9):=by
 have Rm:=Q6 (P:=P) (w:=w) (base:=base) T;have pY:=AD (P:=P) (w:=w) (base:=base) T;have iQ:=vE (P:=P) (w:=w) (base:=base) T;have AN:=GU (P:=P) (w:=w) (base:=base) T;refine T.zY.eB Fd (λvs H Q E h=>?_) (λaN Ar outer s H vs Q E hr h=>?_)
 ·obtain⟨p,dx,l,r,rfl,_⟩:=h
  rfl
 ·obtain⟨p,dx,l,r,rfl,bM,q1,q2,q3⟩:=h;obtain⟨k,ho⟩:=bM.o;refine⟨_,(az (cJ (iA (pv 0) T.bK T.uI pY (hr.mono (by first | decide | lia)) T.uH .nil bJ (aa aE ak)))
   (az (aU (i:=1) Fd.nd rfl (Or.inl rfl) (iA (pv 0) T.bK T.j4 iQ (hr.mono (by first | decide | lia)) T.j3 .nil bJ (aa aE ak)))
   (az (cJ (dO (pv 0) T.bK T.zS AN (hr.mono (by first | decide | lia)) T.zR .nil bJ))
   (aD (aV (bu Rm (hr.mono (by first | decide | lia)) rfl T.Fv T.zL.kp T.Ft .nil bJ (aa (pv 1) ak))))))),?_⟩
  wp_walk using T,ho;refine⟨p,dx,l,r,_,rfl,bM,λr1 e1 H1 cL cC=>?_,λe=>q3 (by unfold g9;rw[e];rfl) _ (SameBut.of (ah.refl _))⟩
  obtain⟨k1,fK⟩:=cC.o;refine⟨dx,_,fK,rfl,p,dx,l,r1,_,rfl,cC,λa r2 e2 H2 cG dm=>?_,λe H' sb=>q3 (by unfold g9;rw[e1,Option.bind_some,e];rfl) H' (cL.tr sb)⟩
  obtain⟨k2,fj⟩:=dm.o;have eq:g9 r=if r2 = [] then some ⟨Str.ofString "rest",0,0,[],a,0,none,[],false⟩ else none:=by unfold g9;rw[e1,Option.bind_some,e2,Option.bind_some]
  have gF:=cL.tr cG;have gd:eE ⟨Str.ofString "rest",0,0,[],a,0,none,[],false⟩↔(0<=a/\a<=1000000000000):=⟨λg=>g.1 rfl,λg=>⟨λ_=>g,λz=>absurd rfl z⟩⟩;exact⟨dx,_,fj,rfl,p,dx,l,r2,rfl,dm,λe=>⟨a,rfl,λg o mk b dJ H' s n hA=>q1 _ (eq.trans (if_pos e)) (gd.mpr g) o mk b dJ H' (gF.step s) (gF.back n dm.at) hA,λg=>q2 _ (eq.trans (if_pos e)) (λz=>g (gd.mp z)) _ gF⟩,λe=>q3 (eq.trans (if_neg e)) _ gF⟩
theorem Rn(T:Tx K mg A):bg P w K mg base (cg P w base) 6 A.tD A.tE ["words"] (Ex K A.bq A.bA A.aP A.aQ g8):=by
 have Ro:=Rc (P:=P) (w:=w) (base:=base) T;have mT:=AE (P:=P) (w:=w) (base:=base) T;have iQ:=vE (P:=P) (w:=w) (base:=base) T;have AO:=G5 (P:=P) (w:=w) (base:=base) T;refine T.zW.eB oZ (λvs H Q E h=>?_) (λaN Ar outer s H vs Q E hr h=>?_)
 ·obtain⟨p,dx,l,r,rfl,_⟩:=h
  rfl
 ·obtain⟨p,dx,l,r,rfl,bM,q1,q2,q3⟩:=h;obtain⟨k,ho⟩:=bM.o;refine⟨_,(az (aU (i:=1) oZ.nd rfl (Or.inl rfl) (iA (pv 0) T.bK T.j4 iQ (hr.mono (by first | decide | lia)) T.j3 .nil bJ (aa aE ak)))
   (az (aU (i:=2) oZ.nd rfl (Or.inl rfl) (dO (pv 0) T.bK T.pI mT (hr.mono (by first | decide | lia)) T.pH .nil bJ))
   (az (aU (i:=3) oZ.nd rfl (Or.inl rfl) (iA (pv 0) T.bK T.j4 iQ (hr.mono (by first | decide | lia)) T.j3 .nil bJ (aa aE ak)))
   (az (aU (i:=4) oZ.nd rfl (Or.inl rfl) (bu AO (hr.mono (by first | decide | lia)) rfl T.zU T.uJ.kp T.zT .nil bJ (aa (pv 0) ak)))
   (aD (aV (bu Ro (hr.mono (by first | decide | lia)) rfl T.Fo T.zJ.kp T.Fj .nil bJ (aa (pv 1) (aa (pv 2) (aa (pv 3) (aa (aC bE (pv 4) aj (λ_ _=>rfl)) (aa (aC bE (pv 4) aj (λ_ _=>rfl)) (aa (aC bE (pv 4) aj (λ_ _=>rfl)) ak))))))))))))),?_⟩
  wp_walk using T,ho;refine⟨p,dx,l,r,_,rfl,bM,λf r1 e1 H1 cL cC=>?_,λe H' sb=>q3 (by unfold g8;rw[e];rfl) H' sb⟩
  obtain⟨k1,fK⟩:=cC.o;refine⟨dx,_,fK,rfl,p,dx,l,r1,rfl,cC,λm r2 e2 H2 cG dm=>?_,λe H' sb=>q3 (by unfold g8;rw[e1,Option.bind_some,e];rfl) H' (cL.tr sb)⟩
  obtain⟨k2,fj⟩:=dm.o;refine⟨dx,_,fj,rfl,p,dx,l,r2,_,rfl,dm,λa r3 e3 H3 fE ig=>?_,λe H' sb=>q3 (by unfold g8 bT;rw[e1,Option.bind_some,e2,Option.bind_some,e];rfl) H' ((cL.tr cG).tr sb)⟩
  refine⟨p,dx,l,r3,rfl,ig,λas la bh e4 t bv H4 mU AQ ht pZ=>?_,λe H' sb=>q3 (by unfold g8 bT;rw[e1,Option.bind_some,e2,Option.bind_some,e3,Option.bind_some,e];rfl) H' (((cL.tr cG).tr fE).tr sb)⟩
  have eq:g8 r=some ⟨Str.ofString "read",f,m,[],a,as,la,bh,false⟩:=by unfold g8 bT;rw[e1,Option.bind_some,e2,Option.bind_some,e3,Option.bind_some,e4];rfl
  have gF:=((cL.tr cG).tr fE).tr mU;have gd:eE ⟨Str.ofString "read",f,m,[],a,as,la,bh,false⟩↔fU f m a as la/\cP bh:=⟨λg=>let ⟨x,y,_⟩:=g.2 (show ¬ Str.ofString "read" = Str.ofString "rest" by decide);⟨x,y⟩,λg=>⟨λz=>absurd z (show ¬ Str.ofString "read" = Str.ofString "rest" by decide),λ_=>⟨g.1,g.2,λx hx=>nomatch hx⟩⟩⟩
  exact⟨t,rfl,_,aK.of ht,_,rfl,t,rfl,_,aK.of ht,_,rfl,t,rfl,_,aK.of ht,_,rfl,f,m,a,as,la,bv,bh,rfl,pZ,λg o mk b dJ H' s n hA=>q1 _ eq (gd.mpr g) o mk b dJ H' (gF.step s) (gF.back n AQ) hA,λg H' s=>q2 _ eq (λz=>g (gd.mp z)) H' (gF.step s)⟩
theorem Rp(T:Tx K mg A):bg P w K mg base (cg P w base) 6 A.tF A.tG ["words", "early"] (OJ K A.bq A.bA A.aP A.aQ):=by
 have Rq:=Rf (P:=P) (w:=w) (base:=base) T;have AM:=G3 (P:=P) (w:=w) (base:=base) T;have iQ:=vE (P:=P) (w:=w) (base:=base) T;have AO:=G5 (P:=P) (w:=w) (base:=base) T;refine T.zX.eB o7 (λvs H Q E h=>?_) (λaN Ar outer s H vs Q E hr h=>?_)
 ·obtain⟨p,dx,l,r,e0,rfl,_⟩:=h
  rfl
 ·obtain⟨p,dx,l,r,e0,rfl,bM,q1,q2,q3⟩:=h;obtain⟨k,ho⟩:=bM.o;refine⟨_,(az (aU (i:=2) o7.nd rfl (Or.inl rfl) (iA (pv 0) T.bK T.j4 iQ (hr.mono (by first | decide | lia)) T.j3 .nil bJ (aa (m5 (f9 (pv 1)) aE aE) ak)))
   (az (aU (i:=3) o7.nd rfl (Or.inl rfl) (dO (pv 0) T.bK T.zQ AM (hr.mono (by first | decide | lia)) T.zP .nil bJ))
   (az (aU (i:=4) o7.nd rfl (Or.inl rfl) (iA (pv 0) T.bK T.j4 iQ (hr.mono (by first | decide | lia)) T.j3 .nil bJ (aa aE ak)))
   (az (aU (i:=5) o7.nd rfl (Or.inl rfl) (bu AO (hr.mono (by first | decide | lia)) rfl T.zU T.uJ.kp T.zT .nil bJ (aa (pv 0) ak)))
   (aD (aV (bu Rq (hr.mono (by first | decide | lia)) rfl T.Fq T.zK.kp T.Fp .nil bJ (aa (pv 2) (aa (pv 3) (aa (pv 4) (aa (aC bE (pv 5) aj (λ_ _=>rfl)) (aa (aC bE (pv 5) aj (λ_ _=>rfl)) (aa (aC bE (pv 5) aj (λ_ _=>rfl)) (aa (pv 1) ak)))))))))))))),?_⟩
  wp_walk using T,ho;have pw:∀w:Str,(if e0=true then Str.ofString "early" else Str.ofString "write")=w->fX e0 r=(cA w r).bind λx=>if aR x.2 = [] then none else(bT (x.2.drop (aR x.2).length)).map λz=>⟨Str.ofString "write",x.1,(aR x.2).length,aR x.2,z.1,z.2.1,z.2.2.1,z.2.2.2,e0⟩:=λw e=>by subst e;rfl
  refine aT (λhe=>?x1) λhe=>?x2
  case' x1=>have pw:=pw _ (if_pos he)
  case' x2=>have pw:=pw _ (if_neg he)
  all_goals
   refine⟨p,dx,l,r,_,rfl,bM,λf r1 e1 H1 cL cC=>?_,λe H' sb=>q3 (by rw[pw,e];rfl) H' sb⟩
   rw[e1,Option.bind_some] at pw;obtain⟨k1,fK⟩:=cC.o;refine⟨dx,_,fK,rfl,p,dx,l,r1,rfl,cC,λne o H2 cG no dm h2=>?_,λe H' sb=>q3 (pw.trans (if_pos e)) H' (cL.tr sb)⟩;rw[if_neg ne] at pw;obtain⟨k2,fj⟩:=dm.o;have op:o≠p:=λz=>by rw[z,fK] at no;cases no
   generalize aR r1=ms at *
   refine⟨dx,_,fj,rfl,p,dx,l,_,_,rfl,dm,λa r3 e3 H3 fE ig=>?_,λe H' sb=>q3 (by rw[pw];unfold bT;rw[e];rfl) H' ((cL.tr cG).tr sb)⟩
   refine⟨p,dx,l,r3,rfl,ig,λas la bh e4 t bv H4 mU AQ ht pZ=>?_,λe H' sb=>q3 (by rw[pw];unfold bT;rw[e3,Option.bind_some,e];rfl) H' (((cL.tr cG).tr fE).tr sb)⟩
   have eq:fX e0 r=some ⟨Str.ofString "write",f,ms.length,ms,a,as,la,bh,e0⟩:=by rw[pw];unfold bT;rw[e3,Option.bind_some,e4];rfl
   have gF:=((cL.tr cG).tr fE).tr mU;have gd:eE ⟨Str.ofString "write",f,ms.length,ms,a,as,la,bh,e0⟩↔fU f ms.length a as la/\cP bh/\(∀x∈ms,0<=x/\x<=1000000000):=⟨λg=>g.2 (show ¬ Str.ofString "write" = Str.ofString "rest" by decide),λg=>⟨λz=>absurd z (show ¬ Str.ofString "write" = Str.ofString "rest" by decide),λ_=>g⟩⟩
   have h4:=mU _ _ (fE _ _ h2 op) op;exact⟨t,rfl,_,aK.of ht,_,rfl,t,rfl,_,aK.of ht,_,rfl,t,rfl,_,aK.of ht,_,rfl,f,a,as,o,ms,la,bv,bh,e0,rfl,ao.of h4,pZ,λg o' mk b dJ H' s n hA=>q1 _ eq (gd.mpr g) o' mk b dJ H' (gF.step s) (gF.back n AQ) hA,λg H' s=>q2 _ eq (λz=>g (gd.mp z)) H' (gF.step s)⟩
theorem Rr(T:Tx K mg A):bg P w K mg base (cg P w base) 7 A.tL A.tM ["line"] (OL K A.bA A.aP A.aQ):=by
 have Rt:=QJ (P:=P) (w:=w) (base:=base) T;have gD:=pR (P:=P) (w:=w) (base:=base) T;have Ru:=Rn (P:=P) (w:=w) (base:=base) T;have Rv:=Rp (P:=P) (w:=w) (base:=base) T;have Rw:=Rl (P:=P) (w:=w) (base:=base) T;refine T.zZ.eB zC (λvs H Q E h=>?_) (λaN Ar outer s H vs Q E hr h=>?_)
 ·obtain⟨z,rfl,_⟩:=h
  rfl
 ·obtain⟨z,rfl,hz,q1,q2,q3⟩:=h;refine⟨_,(az (aU (i:=1) zC.nd rfl (Or.inl rfl) (qy T.Gq Rt (hr.mono (by first | decide | lia)) rfl T.Gr T.Fz .nil bB (aa (pv 0) ak)))
   (az (aU (i:=2) zC.nd rfl (Or.inl rfl) (dO (pv 1) T.bK T.jt gD (hr.mono (by first | decide | lia)) T.jr .nil bB))
   (az (aY (aM cD (pv 2) aE (aH _)) (aD (aV (bu Ru (hr.mono (by first | decide | lia)) rfl T.FL T.zW.kp T.FJ .nil bJ (aa (pv 1) ak)))) bf)
   (az (aY (PW.pt (dz (aM cD (pv 2) aE (aH _)) (fQ (aM cD (pv 2) aE (aH _))))) (aD (aV (bu Rv (hr.mono (by first | decide | lia)) rfl T.FO T.zX.kp T.FN .nil bJ (aa (pv 1) (aa (jL cD (pv 2) aE (aH _)) ak))))) bf)
   (aD (aV (bu Rw (hr.mono (by first | decide | lia)) rfl T.FQ T.zY.kp T.FP .nil bJ (aa (pv 1) ak)))))))),?_⟩
  walk_at "rdt";intro x dx nx i_ eu;refine⟨x,dx,z,rfl,aq,hz,λl H2 sb nl hw=>?_⟩;obtain⟨k,ho⟩:=hw.o;have fin:∀H',SameBut x H2 H'->ah H H':=λH' Rx b o e=>Rx _ _ (sb _ _ (by rw[bF (fO e nx),bF (fO e i_)];exact e) (fO e nx)) (fO e nx)
  have aF:∀r,H2 r=none->H r=none:=λr n=>by
   cases e:H r with
   | none=>rfl
   | some o=>rw[fin H2 (SameBut.of (ah.refl _)) _ _ e] at n;cases n
  generalize Txt.split z blank=ws at *
  have rd:cQ ws = .str (Str.ofString "read")->cB ws=g8 ws:=λg=>if_pos g;have wr:cQ ws = .str (Str.ofString "write")->cB ws=fX false ws:=λg=>(if_neg (by rw[g];decide)).trans (if_pos g)
  have er:cQ ws = .str (Str.ofString "early")->cB ws=fX true ws:=λg=>(if_neg (by rw[g];decide)).trans ((if_neg (by rw[g];decide)).trans (if_pos g))
  refine⟨rfl,dx,_,ho,rfl,x,dx,l,ws,rfl,hw,jl _ _,aT (λg=>?_) λg1=>⟨jl _ _,aT (λg=>?_) λg2=>⟨jl _ _,aT (λg=>?_) λg3=>?_⟩⟩⟩
  ·exact⟨x,dx,l,ws,rfl,hw,λq e gd o mk b dJ H' s n hA=>q1 q ((rd g).trans e) gd o mk b dJ H' (fin _ s) (aF o n) hA,λq e gd H' s=>q2 q ((rd g).trans e) gd H' (fin _ s),λe H' s=>q3 ((rd g).trans e) H' (fin _ s)⟩
  ·refine⟨jl _ _,x,dx,l,ws,false,by rw[g,decide_eq_false (by decide)],hw,λq e gd o mk b dJ H' s n hA=>q1 q ((wr g).trans e) gd o mk b dJ H' (fin _ s) (aF o n) hA,λq e gd H' s=>q2 q ((wr g).trans e) gd H' (fin _ s),λe H' s=>q3 ((wr g).trans e) H' (fin _ s)⟩
  ·refine⟨jl _ _,x,dx,l,ws,true,by rw[g,decide_eq_true rfl],hw,λq e gd o mk b dJ H' s n hA=>q1 q ((er g).trans e) gd o mk b dJ H' (fin _ s) (aF o n) hA,λq e gd H' s=>q2 q ((er g).trans e) gd H' (fin _ s),λe H' s=>q3 ((er g).trans e) H' (fin _ s)⟩
  ·have rs:cB ws=g9 ws:=(if_neg g1).trans ((if_neg g2).trans (if_neg g3));exact⟨x,dx,l,ws,rfl,hw,λq e gd o mk b dJ H' s n hA=>q1 q (rs.trans e) gd o mk b dJ H' (fin _ s) (aF o n) hA,λq e gd H' s=>q2 q (rs.trans e) gd H' (fin _ s),λe H' s=>q3 (rs.trans e) H' (fin _ s)⟩
theorem Ry(T:Tx K mg A):bg P w K mg base cz 8 A.uc A.ud ["_law_ask", "_law_one"] (Oh K A.bA):=by
 have vC:=GP (P:=P) (w:=w) (base:=base) T;have G6:=QY (P:=P) (w:=w) (base:=base) T;refine T.z_.ok rQ (λvs H Q E h=>?_) (λaN Ar outer s H vs Q E hr h=>?_)
 ·obtain⟨p,t,m,b,q,mk,bb,dx,rfl,_⟩:=h
  rfl
 ·obtain⟨p,t,m,b,q,mk,bb,dx,rfl,ha,hl,ok,k⟩:=h;have dX:=hr.kJ;refine⟨_,(az (aU (i:=2) rQ.nd rfl (Or.inl rfl) (aC bE (pv 1) aj (λ_ _=>rfl)))
   (az (b6 (aY (aM cD (pv 2) aE (aH _)) (aD (aU (i:=2) rQ.nd rfl (Or.inl rfl) aE)) bf))
   (az (aY (PW.pt (dz (iW (f9 (bO nQ rfl T.fD boot_isinstance (aa (cE (pv 0) rfl) (aa (lJ (v:=.ty "str") rfl T.gB boot_str rfl) ak))))) (dz (aM gb (cE (pv 0) rfl) (pv 2) (aH _)) (fQ (iW (f9 (bO nQ rfl T.fD boot_isinstance (aa (cE (pv 0) rfl) (aa (lJ (v:=.ty "bool") rfl T.pM boot_bool rfl) ak))))))))) (aD (aV dw)) bf)
   (az (aY (aM gb (cE (pv 0) rfl) (jL cD (aC bE (pv 1) aj (λ_ _=>rfl)) aE (aH _)) (aH _)) (aD (aV dw)) bf)
   (az (lP PassesOwn.never rfl (qm (bG (aa (cE (pv 0) rfl) (aa (cE (pv 0) rfl) (aa (cE (pv 0) rfl) (aa (cE (pv 0) rfl) ak)))))) (eN (i:=3) rQ.nd rfl (Or.inl rfl))
   (aD (aY (iW (f9 (bu vC (hr.mono (by first | decide | lia)) rfl T.uN T.pK.kp T.uM .nil bB (aa (pv 3) ak)))) (aD (aV dw)) bf)))
   (az (aY (aM (Lm dX) (bG (aa (cE (pv 0) rfl) (aa (cE (pv 0) rfl) (aa (cE (pv 0) rfl) (aa (cE (pv 0) rfl) ak))))) (bG (aa (aC bE (pv 1) aj (λ_ _=>rfl)) (aa (aC bE (pv 1) aj (λ_ _=>rfl)) (aa (aC bE (pv 1) aj (λ_ _=>rfl)) (aa (aC bE (pv 1) aj (λ_ _=>rfl)) ak))))) (aH _)) (aD (aV dw)) bf)
   (az (aY (aM lQ (aC bE (pv 1) aj (λ_ _=>rfl)) bX (aH _)) (aD (aY (aM kH (cE (pv 0) rfl) bX (aH _)) (aD (aV dw)) bf)) (aD (aY (PW.pt (dz (iW (f9 (bu vC (hr.mono (by first | decide | lia)) rfl T.uN T.pK.kp T.uM .nil bB (aa (cE (pv 0) rfl) ak)))) (fQ (aM gb (cE (pv 0) rfl) (aC bE (pv 1) aj (λ_ _=>rfl)) (aH _))))) (aD (aV dw)) bf)))
   (az (aY (PW.pt (dz (iW (f9 (bu G6 (hr.mono (by first | decide | lia)) rfl T.z9 T.uO.kp T.z8 .nil bB (aa (cE (pv 0) rfl) ak)))) (fQ (aM (Em dX) (cE (pv 0) rfl) (aC bE (pv 1) aj (λ_ _=>rfl)) (aH _))))) (aD (aV dw)) bf)
   (aD (aV (mZ (bu G6 (hr.mono (by first | decide | lia)) rfl T.z9 T.uO.kp T.z8 .nil bB (aa (cE (pv 0) rfl) ak)) (mY (jL (En dX) (cE (pv 0) rfl) (aC bE (pv 1) aj (λ_ _=>rfl)) (aH _)))))))))))))),?_⟩
  wp_walk using T,ha.o;have kk:(kw q=Str.ofString "early"->q.kind=Str.ofString "write")/\(kw q≠Str.ofString "early"->kw q=q.kind)/\decide (kw q=Str.ofString "early")=q.early:=by
   cases ok with
   | rd f m' a s0 la ns hB hR hl=>rw[rB];exact⟨λz=>absurd z (by decide),λ_=>rfl,(show decide (Str.ofString "read" = Str.ofString "early")=false by decide)⟩
   | wr f a s0 ms la ns e hB ji hR hl =>
    rw[rA];cases e with
    | true=>exact⟨λ_=>rfl,λz=>absurd rfl z,(show decide ((if true=true then Str.ofString "early" else Str.ofString "write")=Str.ofString "early")=true by decide)⟩
    | false=>exact⟨λ_=>rfl,λ_=>rfl,(show decide ((if false=true then Str.ofString "early" else Str.ofString "write")=Str.ofString "early")=false by decide)⟩
   | rs a h0 h1=>exact⟨λz=>absurd z (show ¬ (if false=true then Str.ofString "early" else Str.ofString "rest")=Str.ofString "early" by decide),λ_=>rfl,(show decide ((if false=true then Str.ofString "early" else Str.ofString "rest")=Str.ofString "early")=false by decide)⟩
  refine⟨_,aK.of hl.o,_,rfl,rfl,λσ H'=>σ = [some (.ref p),some (.ref t),some (.str q.kind),none]/\H' = H,?_,?_⟩
  ·refine aT (λg=>⟨by rw[kk.1 (V.str.inj g)],rfl⟩) λg=>⟨by rw[kk.2.1 λz=>g (congrArg V.str z)],rfl⟩
  rintro σ H1 ⟨rfl,rfl⟩;wp_walk using T,ha.o;have F:=ok.facts;refine⟨_,.str _,_,rfl,ite_no (by simp) (ite_no (by simp) ⟨_,.bl _,_,rfl,ite_no (by simp) ⟨_,aK.of hl.o,_,rfl,rfl,ite_no ?_ ?_⟩⟩)⟩
  ·intro z;apply z;rw[← kk.2.2];exact Bool.eq_iff_iff.mpr (by simp only[decide_eq_true_eq];exact⟨λy=>congrArg V.str y,λy=>V.str.inj y⟩)
  refine Oi (.lst ([q.first,q.many,q.at_,q.cO].map V.int)) (λQ' q'=>?_) λp1 n1=>?_
  ·wp_walk using T,ha.o;exact q'
  have s1:=ah.put (o:=.lst ([q.first,q.many,q.at_,q.cO].map V.int)) n1;refine rl p1 ([q.first,q.many,q.at_,q.cO].map V.int) (λi σ H'=>∃x,σ = [some (.ref p),some (.ref t),some (.str q.kind),x]/\ah (upd H1 p1 (.lst ([q.first,q.many,q.at_,q.cO].map V.int))) H') (λQ q=>q) (ao.of aq) ⟨none,rfl,ah.refl _⟩ ?_ ?_ ?_
  ·rintro i σ H' _ ⟨x,rfl,e⟩;exact ao.of (e _ _ aq)
  ·rintro i x σ H' N hN hx ⟨x0,rfl,e⟩;obtain⟨n,hn,rfl⟩:=gk hx;walk_at "rdt";exact⟨n,rfl,_,rfl,ite_no (by simp) (hN _ _ ⟨_,rfl,e⟩)⟩
  ·rintro σ H2 ⟨x,rfl,e⟩;have s2:=s1.trans e;have vB:=ha.same s2;have fT:=hl.same s2;wp_walk using T,vB.o;intro p2 n2;have t2:=ah.put (o:=.lst [V.int q.first,V.int q.many,V.int q.at_,V.int q.cO]) n2;have jA:=fT.same t2;refine⟨_,aK.of jA.o,_,rfl,_,aK.of jA.o,_,rfl,_,aK.of jA.o,_,rfl,_,aK.of jA.o,_,rfl,λp3 n3=>?_⟩;have t3:=ah.put (o:=.lst [V.int q.first,V.int q.many,V.int q.at_,V.int q.cO]) n3;have kg:=jA.same t3;have gC:=(vB.same t2).same t3;have s4:=s2.trans (t2.trans t3);refine⟨_,ao.of (t3 _ _ aq),ao.of aq,λv hv=>?_,_,aK.of kg.o,_,rfl,?_⟩
   ·simp only[List.mem_cons,List.not_mem_nil,or_false] at hv;rcases hv with rfl | rfl | rfl | rfl <;> exact⟨λ_=>V.noConfusion,λ_=>V.noConfusion⟩
   generalize upd (upd H2 p2 (.lst [V.int q.first,V.int q.many,V.int q.at_,V.int q.cO])) p3 (.lst [V.int q.first,V.int q.many,V.int q.at_,V.int q.cO])=H4 at *
   cases el:q.eV with
   | none =>
    rw[if_pos (show b_ none=V.aF from rfl)];wp_walk using T,gC.o;rw[if_neg (show ¬ ¬ b_ q.eV=V.aF by rw[el];exact λz=>z rfl)]
    refine⟨mk,q.marks,rfl,gC.ms,by have:=F.ml;lia,λH5 s5=>⟨true,rfl,ite_no (by simp) ?_⟩⟩
    have ir:=gC.same s5;have lE:=kg.same s5;refine⟨_,_,_,ir.o,T.ju,T.mR,_,rfl,_,aK.of lE.o,_,rfl,mk,rfl,m,rfl,_,ir.ms,_,lE.ms,ite_no (by simp) ?_⟩
    refine⟨_,_,_,ir.o,T.ju,T.lu,_,rfl,bb,q.behind,rfl,ir.bh,by have:=F.bl;lia,λH6 s6=>?_⟩
    have p6:=ir.same s6;have p7:=lE.same s6;refine⟨true,rfl,ite_yes rfl ⟨_,_,_,p6.o,T.ju,T.lu,_,rfl,_,aK.of p7.o,_,rfl,bb,rfl,b,rfl,_,p6.bh,_,p7.bh,?_⟩⟩;rw[decide_eq_true rfl];exact k _ (s4.trans (s5.trans s6))
   | some x =>
    rw[if_neg (show ¬ b_ (some x)=V.aF from λz=>V.noConfusion z)];wp_walk using T,gC.o;refine⟨x,by rw[el];rfl,true,rfl,ite_no (by simp) ⟨_,_,_,gC.o,T.ju,T.uU,_,rfl,_,aK.of kg.o,_,rfl,by rw[el];rfl,ite_no (by simp) ⟨_,_,_,gC.o,T.ju,T.mR,_,rfl,?_⟩⟩⟩
    refine⟨mk,q.marks,rfl,gC.ms,by have:=F.ml;lia,λH5 s5=>⟨true,rfl,ite_no (by simp) ?_⟩⟩
    have ir:=gC.same s5;have lE:=kg.same s5;refine⟨_,_,_,ir.o,T.ju,T.mR,_,rfl,_,aK.of lE.o,_,rfl,mk,rfl,m,rfl,_,ir.ms,_,lE.ms,ite_no (by simp) ?_⟩
    refine⟨_,_,_,ir.o,T.ju,T.lu,_,rfl,bb,q.behind,rfl,ir.bh,by have:=F.bl;lia,λH6 s6=>?_⟩
    have p6:=ir.same s6;have p7:=lE.same s6;refine⟨true,rfl,ite_yes rfl ⟨_,_,_,p6.o,T.ju,T.lu,_,rfl,_,aK.of p7.o,_,rfl,bb,rfl,b,rfl,_,p6.bh,_,p7.bh,?_⟩⟩;rw[decide_eq_true rfl];exact k _ (s4.trans (s5.trans s6))
theorem Rz(T:Tx K mg A):bg P w K mg base cz 8 A.uA A.uB ["_law_line"] (OX K A.bA):=by
 have RA:=Rr (P:=P) (w:=w) (base:=base) T;refine T.Aj.ok rT (λvs H Q E h=>?_) (λaN Ar outer s H vs Q E hr h=>?_)
 ·obtain⟨z,rfl,_⟩:=h
  rfl
 ·obtain⟨z,rfl,hz,q1,q2,q3⟩:=h;refine⟨_,(aD (Mg rfl rfl (λE=>(LX (PM (PL (LW RA (hr.mono (by first | decide | lia)) rfl T.FU T.zZ.kp T.FT .nil (aa (pv 0) ak))))))
   (L8 (i:=1) rfl T.GB T.GC rT.nd rfl rfl rfl (λa=>(az (aU (i:=2) rT.nd rfl (Or.inr rfl) (bG (aa (bO kU rfl T.fD boot_isinstance (aa (pv 1) (aa (eL (v:=.ref A.aP) rfl T.pP rfl) ak))) (aa (bO kU rfl T.fD boot_isinstance (aa (pv 1) (aa (eL (v:=.ref A.aQ) rfl T.Aw rfl) ak))) (aa (bO kU rfl T.fD boot_isinstance (aa (pv 1) (aa (eL (v:=.ref A.eF) rfl T.GI rfl) ak))) (aa (bO kU rfl T.fD boot_isinstance (aa (pv 1) (aa (eL (v:=.ref A.eG) rfl T.GJ rfl) ak))) ak))))))
   (az (aU (i:=2) rT.nd rfl (Or.inr rfl) (aA dD (pv 2) (bG (aa (bO kU rfl T.fD boot_isinstance (aa (pv 1) (aa (eL (v:=.ref A.fM) rfl T.GK rfl) ak))) (aa (bO kU rfl T.fD boot_isinstance (aa (pv 1) (aa (eL (v:=.ref A.eH) rfl T.GL rfl) ak))) (aa (bO kU rfl T.fD boot_isinstance (aa (pv 1) (aa (lJ (v:=.ty "ValueError") rfl T.uX PyProof.Rows.Boot.«ValueError» rfl) ak))) ak))))))
   (aD (aV (PV (N:=["_law_k", "_law_words"]) (nt:=1) (fv:=[2]) (cF.of rfl rfl (by rfl) (by rfl) (by repeat (first | exact trivial | refine⟨rfl,?_⟩)) (by rfl) (by rfl) (by rfl) (by decide) (by decide +kernel)) rfl (PZ rfl T.lz (aa aj ak)) (λC s H fp=>(eN (i:=0) (show List.Nodup (["_law_k", "_law_words"]:List Str) by decide +kernel) rfl (Or.inl rfl))) (λC s H fp=>(nN (f9 (aC (nT (K:=K) rfl) (pv 1) (pv 0) (λ_ _=>rfl))))) (λC s H fp=>(pv 0)))))))) L6))),?_⟩
  walk_at "rdt";refine⟨z,rfl,hz,λq e gd o mk b dx H1 s1 no hA p np=>?_,λq e gd H1 s1=>?_,λe H1 s1=>?_⟩
  ·exact q3 q e gd p o mk b dx _ (s1.trans (ah.put np)) aq (hA.same (ah.put np))
  ·have fin:=q2 q e gd;walk_at "rdt";refine⟨A.aQ,rfl,T.GG,λa ha=>.inl ⟨T.GH,?_⟩⟩;refine⟨A.aQ,_,.inl rfl,rfl,T.j7,T.j8,_,T.vf,A.aQ,_,.inl rfl,rfl,T.j7,T.j8,_,T.vg,A.aQ,_,.inl rfl,rfl,T.j7,T.j8,_,T.vh,A.aQ,_,.inl rfl,rfl,T.j7,T.j8,_,T.vj,?_⟩;have t0:=ah.put (o:=gX a A.aQ none) ha;have hx:upd H1 a (gX a A.aQ none) a=some (jS a A.aQ):=aq;generalize upd H1 a (gX a A.aQ none)=H2 at *
   intro p1 n1;have u1:=ah.put (o:=HO.lst [V.bl false,V.bl true,V.bl false,V.bl false]) n1;have bx:=u1 _ _ hx;refine⟨A.aQ,_,.inl rfl,bx,T.j7,T.j8,_,T.vm,A.aQ,_,.inl rfl,bx,T.j7,T.j8,_,T.vn,A.aQ,_,.inr rfl,bx,T.j7,T.j8,_,T.vo,λp2 n2=>?_⟩;have u2:=u1.trans (ah.put (o:=HO.lst [V.bl false,V.bl false,V.bl true]) n2);refine⟨_,ah.put n2 _ _ aq,by simp,λp3 n3=>?_⟩
   have u3:=u2.trans (ah.put (o:=HO.lst ([V.bl false,V.bl true,V.bl false,V.bl false,V.bl false,V.bl false,V.bl true])) n3);have h3:=aq (H:=upd (upd H2 p1 (HO.lst [V.bl false,V.bl true,V.bl false,V.bl false])) p2 (HO.lst [V.bl false,V.bl false,V.bl true])) (a:=p3) (o:=HO.lst ([false,true,false,false,false,false,true].map V.bl))
   show i8 _ _ _ _ _ _ _ (upd (upd (upd H2 p1 (HO.lst [V.bl false,V.bl true,V.bl false,V.bl false])) p2 (HO.lst [V.bl false,V.bl false,V.bl true])) p3 (HO.lst ([false,true,false,false,false,false,true].map V.bl))) _
   replace u3:ah H2 (upd (upd (upd H2 p1 (HO.lst [V.bl false,V.bl true,V.bl false,V.bl false])) p2 (HO.lst [V.bl false,V.bl false,V.bl true])) p3 (HO.lst ([false,true,false,false,false,false,true].map V.bl))):=u3
   generalize upd (upd (upd H2 p1 (HO.lst [V.bl false,V.bl true,V.bl false,V.bl false])) p2 (HO.lst [V.bl false,V.bl false,V.bl true])) p3 (HO.lst ([false,true,false,false,false,false,true].map V.bl))=H3 at *
   have ht:gu [false,true,false,false,false,false,true] 7 = [1,6]:=by decide
   have RB:([false,true,false,false,false,false,true]:List Bool).length=7:=rfl;generalize ([false,true,false,false,false,false,true]:List Bool)=bs at *
   refine E9 7 (λD i ys au H4=>ys=(gu bs i).map V.int/\H4 D=some (.lst ys)/\ah H3 H4/\H3 D=none/\i<=7/\∃u,au = [u,some (.ref p3)]) (λQ k=>?_) (by decide) (by decide) ?_ ?_ ?_ ?_
   ·walk_at "rdm";exact k
   ·intro D hD;exact⟨rfl,aq,ah.put hD,hD,Nat.zero_le _,_,rfl⟩
   ·rintro D i ys au H4 ⟨rfl,e1,e2,e3,e4,_⟩;refine⟨e1,gS ?_⟩;have:=E_ bs i;rw[List.length_map];lia
   ·rintro D i ys au H4 N hN hi ⟨rfl,e1,e2,e3,e4,u,rfl⟩;have hi:i<7:=hi;walk_at "rdm";refine⟨_,ao.of (e2 _ _ h3),V.bl (bs.getD i false),?_,_,rfl,aT (λgg=>⟨e1,hN _ _ _ ⟨?_,aq,ah.put2 e2 e3,e3,by lia,_,rfl⟩⟩) λgg=>hN _ _ _ ⟨?_,e1,e2,e3,by lia,_,rfl⟩⟩
    ·refine gi ?_;rw[List.getElem?_map,List.getElem?_eq_getElem (by lia),List.getD_eq_getElem?_getD,List.getElem?_eq_getElem (by lia)];rfl
    ·rw[rO,if_pos gg,List.map_append];rfl
    ·rw[rO,if_neg gg]
   ·rintro D ys au H4 ⟨rfl,e1,e2,e3,e4,u,rfl⟩;have e1:H4 D=some (.lst ((gu bs 7).map V.int)):=e1;rw[ht] at e1;exact⟨⟨_,e2 _ _ (u3 _ _ hx)⟩,fin D H4 (s1.trans (t0.trans (u3.trans e2))) e1⟩
  ·have fin:=q1 e;walk_at "rdt";refine⟨A.aP,rfl,T.GD,λa ha=>.inl ⟨T.GF,?_⟩⟩;refine⟨A.aP,_,.inl rfl,rfl,T.j5,T.j6,_,T.uZ,A.aP,_,.inl rfl,rfl,T.j5,T.j6,_,T.u7,A.aP,_,.inl rfl,rfl,T.j5,T.j6,_,T.u9,A.aP,_,.inl rfl,rfl,T.j5,T.j6,_,T.u_,?_⟩;have t0:=ah.put (o:=gX a A.aP none) ha;have hx:upd H1 a (gX a A.aP none) a=some (jS a A.aP):=aq;generalize upd H1 a (gX a A.aP none)=H2 at *
   intro p1 n1;have u1:=ah.put (o:=HO.lst [V.bl true,V.bl false,V.bl false,V.bl false]) n1;have bx:=u1 _ _ hx;refine⟨A.aP,_,.inl rfl,bx,T.j5,T.j6,_,T.vc,A.aP,_,.inl rfl,bx,T.j5,T.j6,_,T.vd,A.aP,_,.inr rfl,bx,T.j5,T.j6,_,T.ve,λp2 n2=>?_⟩;have u2:=u1.trans (ah.put (o:=HO.lst [V.bl false,V.bl false,V.bl true]) n2);refine⟨_,ah.put n2 _ _ aq,by simp,λp3 n3=>?_⟩
   have u3:=u2.trans (ah.put (o:=HO.lst ([V.bl true,V.bl false,V.bl false,V.bl false,V.bl false,V.bl false,V.bl true])) n3);have h3:=aq (H:=upd (upd H2 p1 (HO.lst [V.bl true,V.bl false,V.bl false,V.bl false])) p2 (HO.lst [V.bl false,V.bl false,V.bl true])) (a:=p3) (o:=HO.lst ([true,false,false,false,false,false,true].map V.bl))
   show i8 _ _ _ _ _ _ _ (upd (upd (upd H2 p1 (HO.lst [V.bl true,V.bl false,V.bl false,V.bl false])) p2 (HO.lst [V.bl false,V.bl false,V.bl true])) p3 (HO.lst ([true,false,false,false,false,false,true].map V.bl))) _
   replace u3:ah H2 (upd (upd (upd H2 p1 (HO.lst [V.bl true,V.bl false,V.bl false,V.bl false])) p2 (HO.lst [V.bl false,V.bl false,V.bl true])) p3 (HO.lst ([true,false,false,false,false,false,true].map V.bl))):=u3
   generalize upd (upd (upd H2 p1 (HO.lst [V.bl true,V.bl false,V.bl false,V.bl false])) p2 (HO.lst [V.bl false,V.bl false,V.bl true])) p3 (HO.lst ([true,false,false,false,false,false,true].map V.bl))=H3 at *
   have ht:gu [true,false,false,false,false,false,true] 7 = [0,6]:=by decide
   have RB:([true,false,false,false,false,false,true]:List Bool).length=7:=rfl;generalize ([true,false,false,false,false,false,true]:List Bool)=bs at *
   refine E9 7 (λD i ys au H4=>ys=(gu bs i).map V.int/\H4 D=some (.lst ys)/\ah H3 H4/\H3 D=none/\i<=7/\∃u,au = [u,some (.ref p3)]) (λQ k=>?_) (by decide) (by decide) ?_ ?_ ?_ ?_
   ·walk_at "rdm";exact k
   ·intro D hD;exact⟨rfl,aq,ah.put hD,hD,Nat.zero_le _,_,rfl⟩
   ·rintro D i ys au H4 ⟨rfl,e1,e2,e3,e4,_⟩;refine⟨e1,gS ?_⟩;have:=E_ bs i;rw[List.length_map];lia
   ·rintro D i ys au H4 N hN hi ⟨rfl,e1,e2,e3,e4,u,rfl⟩;have hi:i<7:=hi;walk_at "rdm";refine⟨_,ao.of (e2 _ _ h3),V.bl (bs.getD i false),?_,_,rfl,aT (λgg=>⟨e1,hN _ _ _ ⟨?_,aq,ah.put2 e2 e3,e3,by lia,_,rfl⟩⟩) λgg=>hN _ _ _ ⟨?_,e1,e2,e3,by lia,_,rfl⟩⟩
    ·refine gi ?_;rw[List.getElem?_map,List.getElem?_eq_getElem (by lia),List.getD_eq_getElem?_getD,List.getElem?_eq_getElem (by lia)];rfl
    ·rw[rO,if_pos gg,List.map_append];rfl
    ·rw[rO,if_neg gg]
   ·rintro D ys au H4 ⟨rfl,e1,e2,e3,e4,u,rfl⟩;have e1:H4 D=some (.lst ((gu bs 7).map V.int)):=e1;rw[ht] at e1;exact⟨⟨_,e2 _ _ (u3 _ _ hx)⟩,fin D H4 (s1.trans (t0.trans (u3.trans e2))) e1⟩
theorem RC(T:Tx K mg A):bg P w K mg base cz 9 A.uC A.uD ["_law_script"] (qM K):=by
 have RD:=QK (P:=P) (w:=w) (base:=base) T;have pS:=Az (P:=P) (w:=w) (base:=base) T;have RE:=QW (P:=P) (w:=w) (base:=base) T;have RG:=QN (P:=P) (w:=w) (base:=base) T;have RH:=Ry (P:=P) (w:=w) (base:=base) T;have RI:=Rg (P:=P) (w:=w) (base:=base) T;have RJ:=QO (P:=P) (w:=w) (base:=base) T;have G7:=Q0 (P:=P) (w:=w) (base:=base) T;have RK:=Rz (P:=P) (w:=w) (base:=base) T;refine T.Gp.ok mL (λvs H Q E h=>?_) (λaN Ar outer s H vs Q E hr h=>?_)
 ·obtain⟨a,ns,rfl,_⟩:=h
  rfl
 ·obtain⟨a,ns,rfl,hS,hl,q⟩:=h;have dX:=hr.kJ;refine⟨_,(az (lP PassesOwn.never rfl (qm (aA dD (bu pS (hr.mono (by first | decide | lia)) rfl T.uL T.pJ.kp T.uK .nil bB (aa (bu RD (hr.mono (by first | decide | lia)) rfl T.FY T.z4.kp T.FW .nil bB (aa (pv 0) (aa aj ak))) (aa aj ak))) (cK dP (pv 0) c8 (cy aj)))) (eN (i:=1) mL.nd rfl (Or.inl rfl))
   (az (aU (i:=2) mL.nd rfl (Or.inl rfl) (bu G7 (hr.mono (by first | decide | lia)) rfl T.Ai T.uR.kp T.Ah .nil bB (aa (bu RG (hr.mono (by first | decide | lia)) rfl T.Gb T.z7.kp T.Ga .nil bB (aa (bu RE (hr.mono (by first | decide | lia)) rfl T.F_ T.z5.kp T.FZ .nil bB (aa (aA wH (pv 1) aj) ak)) ak)) (aa (pv 1) ak))))
   (az (b6 (aY (aM cD (aA bI (pv 1) aj) aj (aH _)) (aD (aU (i:=2) mL.nd rfl (Or.inl rfl) (bu G7 (hr.mono (by first | decide | lia)) rfl T.Ai T.uR.kp T.Ah .nil bB (aa (pv 2) (aa (aA wH (pv 1) aj) ak))))) bf))
   (az (aU (i:=3) mL.nd rfl (Or.inl rfl) (bu RK (hr.mono (by first | decide | lia)) rfl T.Gn T.Aj.kp T.Gm .nil bB (aa (pv 2) ak)))
   (az (aU (i:=4) mL.nd rfl (Or.inl rfl) (bu RI (hr.mono (by first | decide | lia)) rfl T.Gi T.Ad.kp T.Gh .nil bB (aa (pv 2) ak)))
   (aD (aY (aM lQ (pv 4) bX (aH _)) (aD (aY (aM (rC dX) (pv 3) (bG (aa aj (aa aj ak))) (aH _)) (aD (aV dw)) bf)) (aD (aY (iW (f9 (bu RJ (hr.mono (by first | decide | lia)) rfl T.Gk T.Ae.kp T.Gj .nil bB (aa (pv 4) ak)))) (aD (aY (aM (rC dX) (pv 3) (bG (aa aj (aa aj ak))) (aH _)) (aD (aV dw)) bf)) (aD (aY (PW.pt (dz (aM gb (bO eg rfl T.cH boot_len (aa (pv 3) ak)) aj (aH _)) (fQ (iW (f9 (bu RH (hr.mono (by first | decide | lia)) rfl T.Ge T.z_.kp T.Gd .nil bB (aa (aC aW (pv 3) aj (λ_ _=>rfl)) (aa (pv 4) ak)))))))) (aD (aV dw)) bf)))))))))))
   (aD (aV dw))),?_⟩
  wp_walk using T,xy;refine CM ?_;wp_walk using T,xy;refine⟨ns,hS,hl,_,_,rfl,by decide,by decide,λl0 xs H1 s1 WG h0 RL=>?_⟩
  refine⟨_,s1.seq hS,λl1 G8=>⟨_,rfl,_,ah.put G8 _ _ h0,?_,λl2 G9=>?_⟩⟩
  ·obtain⟨ms,e,el⟩:=CN ns none (some 30);have:=RL.len;rw[e];simp;lia
  obtain⟨ms,e,el⟩:=CN ns none (some 30);rw[e] at G9 ⊢;have s9:=(ah.put (o:=HO.lst (ms.map V.int)) G8).trans (ah.put (o:=HO.lst (xs.map V.int++ms.map V.int)) G9);rw[← List.map_append] at s9 ⊢;have h9:=aq (H:=upd H1 l1 (HO.lst (ms.map V.int))) (a:=l2) (o:=HO.lst ((xs++ms).map V.int));generalize xs++ms=cs at s9 h9 ⊢;generalize upd (upd H1 l1 (HO.lst (ms.map V.int))) l2 (HO.lst (cs.map V.int))=H9 at s9 h9 ⊢;refine lX.by l2 (cs.map V.int) (λi σ H'=>∃x1 x2 x3 x4,σ = [some (.ref a),x1,x2,x3,x4]/\ah H9 H') (ao.of h9) ⟨_,_,_,_,rfl,ah.refl _⟩ (by rintro i σ H' _ ⟨_,_,_,_,rfl,s⟩;exact ao.of (s _ _ h9)) ?_ ?_
  ·rintro i x σ RM N hN hx ⟨y1,y2,y3,y4,rfl,AR⟩;obtain⟨c,wm,rfl⟩:=gk hx;walk_at "rdt";refine⟨c / 3,rfl,λt m b qq WH G_ nt ha ok RN=>⟨t,m,b,qq,rfl,ha,ok,λWI Hf=>?_⟩⟩;obtain⟨z1,z2⟩:=P4 ok RN;generalize Txt.join blank (dh qq (fL qq))=z0 at z1 z2 ⊢;refine⟨z0,c,rfl,by lia,by lia,λzz WJ Hg l1 b1=>?_⟩
   have sA:=AR.trans (G_.trans (Hf.trans Hg));refine⟨λσ H'=>∃z,σ = [some (.ref a),some (.int c),some (.str z),y3,y4]/\ah H9 H'/\z.length<=5000/\nb z<=50,aT (λg=>⟨zz,_,rfl,by lia,by lia,λz' RO p8 l2 b2=>⟨z',rfl,sA.trans p8,by lia,by lia⟩⟩) λg=>⟨zz,rfl,sA,by lia,by lia⟩,?_⟩
   clear sA AR G_ Hf Hg ha nt;rintro σ RO ⟨z,rfl,p8,zl,zb⟩;have ln:=P5 (z:=z) (by lia) (by lia)
   have dU:=ln.2;walk_at "rdt";refine⟨z,rfl,ln,λe r Hh p_ qa=>?_,λq' e gd r Hh p_ qa=>?_,λq' e gd r o mk bb dx Hh p_ qa hA=>?_⟩
   ·refine⟨z,rfl,ln,λ_ Hi jC=>ite_yes rfl λp np=>?_,λq' e2=>by rw[e] at e2;cases e2⟩
    have u:=ah.put (o:=HO.lst ([0,6].map V.int)) np;exact⟨r,rfl,_,ao.of (u _ _ (jC _ _ qa)),_,ao.of aq,eW.ints [0,6] [0,6],ite_no (λz=>z rfl) (hN _ _ ⟨_,_,_,_,rfl,p8.trans (p_.trans (jC.trans u))⟩)⟩
   ·refine⟨z,rfl,ln,(λe2=>by rw[e] at e2;cases e2),λq2 e2 t m b Hi jC hq=>?_⟩
    rw[e] at e2;cases e2;refine ite_no (λz=>V.noConfusion z) ⟨t,m,b,q',rfl,hq,ES dU e,λg=>absurd g gd,λ_ RP lF=>⟨false,rfl,ite_yes rfl λp np=>?_⟩⟩;have u:=ah.put (o:=HO.lst ([1,6].map V.int)) np;exact⟨r,rfl,_,ao.of (u _ _ (lF _ _ (jC _ _ qa))),_,ao.of aq,eW.ints [1,6] [1,6],ite_no (λz=>z rfl) (hN _ _ ⟨_,_,_,_,rfl,p8.trans (p_.trans (jC.trans (lF.trans u)))⟩)⟩
   ·refine⟨z,rfl,ln,(λe2=>by rw[e] at e2;cases e2),λq2 e2 t m b Hi jC hq=>?_⟩
    rw[e] at e2;cases e2;have sh:=ES dU e;refine ite_no (λz=>V.noConfusion z) ⟨t,m,b,q',rfl,hq,sh,λ_ RP lF=>⟨true,rfl,ite_no (by decide) ?_⟩,λg=>absurd gd g⟩
    have Hj:=lF _ _ (jC _ _ qa);refine⟨r,rfl,_,.inl (ao.of Hj),ite_no (λz=>z rfl) ⟨r,rfl,_,ao.of Hj,_,rfl,?_⟩⟩;exact⟨o,t,m,b,q',mk,bb,dx,rfl,(hA.same jC).same lF,hq.same lF,P0 sh gd,λWK RQ=>⟨true,rfl,ite_no (by decide) (hN _ _ ⟨_,_,_,_,rfl,p8.trans (p_.trans (jC.trans (lF.trans RQ)))⟩)⟩⟩
  ·rintro σ RM ⟨_,_,_,_,rfl,AR⟩;walk_at "rdm";exact q _
end
theorem mV{C:List Value->Prop}(h:C []):∀us:List Value,us.length=0->C us:=λ| [],_=>h
theorem cj{n:Nat}{C:List Value->Prop}(h:∀a us,us.length=n->C (a::us)):∀us:List Value,us.length=n+1->C us:=λ| a::us,e=>h a us (Nat.succ.inj e)
theorem Hl{K:W.Frag}{fd:FuncData}{ps:List Str}{ds:List Value}(n:Nat)(e:n+ds.length=ps.length)(h:∀s,K.In s.heap->∀us:List Value,us.length=n->BindsTo s fd ⟨us,[]⟩ (ps.zip (us++ds))):Binds K fd ps ds:=λs us X hl=>h s X us (by rw[List.length_append] at hl;lia)
theorem cT{C:List Value->Prop}(h:∀a0,C [a0]):∀us:List Value,us.length=1->C us:=cj λa0=>mV (h a0)
theorem iu{C:List Value->Prop}(h:∀a0 a1,C [a0,a1]):∀us:List Value,us.length=2->C us:=cj λa0=>cj λa1=>mV (h a0 a1)
theorem RS{C:List Value->Prop}(h:∀a0 a1 a2 a3,C [a0,a1,a2,a3]):∀us:List Value,us.length=4->C us:=cj λa0=>cj λa1=>cj λa2=>cj λa3=>mV (h a0 a1 a2 a3)
theorem Ho{C:List Value->Prop}(h:∀a0 a1 a2 a3 a4 a5,C [a0,a1,a2,a3,a4,a5]):∀us:List Value,us.length=6->C us:=cj λa0=>cj λa1=>cj λa2=>cj λa3=>cj λa4=>cj λa5=>mV (h a0 a1 a2 a3 a4 a5)
theorem RT{C:List Value->Prop}(h:∀a0 a1 a2 a3 a4 a5 a6,C [a0,a1,a2,a3,a4,a5,a6]):∀us:List Value,us.length=7->C us:=cj λa0=>cj λa1=>cj λa2=>cj λa3=>cj λa4=>cj λa5=>cj λa6=>mV (h a0 a1 a2 a3 a4 a5 a6)
theorem RU{C:List Value->Prop}(h:∀a0 a1 a2 a3 a4 a5 a6 a7 a8 a9,C [a0,a1,a2,a3,a4,a5,a6,a7,a8,a9]):∀us:List Value,us.length=10->C us:=cj λa0=>cj λa1=>cj λa2=>cj λa3=>cj λa4=>cj λa5=>cj λa6=>cj λa7=>cj λa8=>cj λa9=>mV (h a0 a1 a2 a3 a4 a5 a6 a7 a8 a9)
theorem all_mk{l:W.OpenLaw}{w:World}{K:W.Frag}{h:Heap}{mg:Str->Option Value}{fa:Addr}{vI AS AU AV AW vJ vK vL vM AX AY vN vO vP vQ vR vU vV vW AZ A0 A1 A2 A3 A4 A5 A6 A7 A8 A9 A_ Ba Bb Bc Bd Be Bf Bg Bh Bj:Addr}{RV Bk RW RX Bl RY RZ Bm:Option Addr}{R0 R1 R3 R4 R5:Array (Option Value)}{R6 Bo Bp Bq vX Br R7 R8 Bs Bt Bu vY Bv R9 R_ Bw Bx By vZ BA:Value}{Sa Sd:Nat}{Hq Hr:Tok}{Hs yG yH Ht Hu Hv Hw Hy Hz HA HB HC HD HE HF HG HJ HK HL HM HN HP HQ HR HS HU HV HW HX HY HZ H_ Ia Ib Ic:FuncData}{bA:Addr}{bq:Addr}{eX:Addr}{aP:Addr}{aQ:Addr}{eF:Addr}{eG:Addr}{fM:Addr}{eH:Addr}{o9:Tok}{o_:Tok}{pq:Tok}{pA:Tok}{pB:Tok}{pC:Tok}{pD:Tok}{pF:Tok}{pG:Tok}(X:K.In h)(G:h.Ns mainGlobals mg)(Se:mg "law" = some (.ref fa))
  (Sf:W.nsIn K mainGlobals "ArmError" = some (some (.ref eX)))
  (Sg:W.nsIn K mainGlobals "NoLine" = some (some (.ref aP)))
  (Si:W.nsIn K mainGlobals "NoAsk" = some (some (.ref aQ)))
  (Sj:W.nsIn K mainGlobals "NoRule" = some (some (.ref eF)))
  (Sk:W.nsIn K mainGlobals "NoBook" = some (some (.ref eG)))
  (Sl:W.nsIn K mainGlobals "NoOrder" = some (some (.ref fM)))
  (Sm:W.nsIn K mainGlobals "TooMany" = some (some (.ref eH)))
  (So:W.nsIn K mainGlobals "Ask" = some (some (.ref bA)))
  (Sq:W.nsIn K mainGlobals "Words" = some (some (.ref bq)))
  (Ss:W.findIn K (.ref bA) "__init__" = some (some (.ref vI)))
  (j_:W.isFn K (.ref vI)=true)
  (F0:aO K "__init__" "Ask.__init__" yK vI Hs)
  (Su:W.nsIn K mainGlobals "check_between" = some (some (.ref AS)))
  (F1:aO K "check_between" "check_between" yL AS yG)
  (Sv:W.nsIn K mainGlobals "check_behind" = some (some (.ref AU)))
  (F2:aO K "check_behind" "check_behind" yM AU yH)
  (Sw:W.nsIn K mainGlobals "check_fields" = some (some (.ref AV)))
  (F3:aO K "check_fields" "check_fields" yN AV Ht)
  (Sx:W.nsIn K mainGlobals "told_behind" = some (some (.ref AW)))
  (F4:aO K "told_behind" "told_behind" yO AW Hu)
  (Sy:W.nsIn K mainGlobals "reading" = some (some (.ref vJ)))
  (Sz:K.lookup vJ=some ⟨R6,RV,.func (W.fnOf "reading" "reading" (eT gv) (dF gv) (aX gv) (.ref vK) Bo Bp Bq Bk vX Br),R0⟩)
  (SA:K.lookup vK=some ⟨R7,RW,.seq #[.int 0 Hq,.none,.none] Sa,R1⟩)
  (SD:W.codeIn K vX "reading" = true)
  (SE:W.keepIn K (.ref vJ)=true)
  (SG:W.nsIn K mainGlobals "writing" = some (some (.ref vL)))
  (SH:K.lookup vL=some ⟨R8,RX,.func (W.fnOf "writing" "writing" (eT gw) (dF gw) (aX gw) (.ref vM) Bs Bt Bu Bl vY Bv),R3⟩)
  (SI:K.lookup vM=some ⟨R9,RY,.seq #[.int 0 Hr,.none,.none,.bool false] Sd,R4⟩)
  (SJ:W.codeIn K vY "writing" = true)
  (SK:W.keepIn K (.ref vL)=true)
  (SM:W.nsIn K mainGlobals "resting" = some (some (.ref AX)))
  (F7:aO K "resting" "resting" yP AX Hv)
  (SN:W.nsIn K mainGlobals "is_number" = some (some (.ref AY)))
  (F8:aO K "is_number" "is_number" yQ AY Hw)
  (SO:W.findIn K (.ref bq) "__init__" = some (some (.ref vN)))
  (SQ:W.isFn K (.ref vN)=true)
  (F9:aO K "__init__" "Words.__init__" yR vN Hy)
  (SR:W.findIn K (.ref bq) "upcoming" = some (some (.ref vO)))
  (SS:W.isFn K (.ref vO)=true)
  (BB:aO K "upcoming" "Words.upcoming" yS vO Hz)
  (SV:W.findIn K (.ref bq) "has_number" = some (some (.ref vP)))
  (SW:W.isFn K (.ref vP)=true)
  (BC:aO K "has_number" "Words.has_number" yT vP HA)
  (SX:W.findIn K (.ref bq) "take_word" = some (some (.ref vQ)))
  (SY:W.isFn K (.ref vQ)=true)
  (BD:aO K "take_word" "Words.take_word" yU vQ HB)
  (S0:W.findIn K (.ref bq) "take_number" = some (some (.ref vR)))
  (S2:W.isFn K (.ref vR)=true)
  (BE:aO K "take_number" "Words.take_number" yV vR HC)
  (S3:W.findIn K (.ref bq) "take_numbers" = some (some (.ref vU)))
  (S4:W.isFn K (.ref vU)=true)
  (BF:aO K "take_numbers" "Words.take_numbers" yW vU HD)
  (S5:W.findIn K (.ref bq) "take_number_behind" = some (some (.ref vV)))
  (S6:W.isFn K (.ref vV)=true)
  (BG:aO K "take_number_behind" "Words.take_number_behind" yX vV HE)
  (S7:W.findIn K (.ref bq) "take_end" = some (some (.ref vW)))
  (S8:W.isFn K (.ref vW)=true)
  (BH:aO K "take_end" "Words.take_end" yY vW HF)
  (S9:W.nsIn K mainGlobals "take_more" = some (some (.ref AZ)))
  (Ie:aO K "take_more" "take_more" yZ AZ HG)
  (S_:W.nsIn K mainGlobals "read_of" = some (some (.ref A0)))
  (Ig:aO K "read_of" "read_of" y9 A0 HJ)
  (Tc:W.nsIn K mainGlobals "write_of" = some (some (.ref A1)))
  (Ih:aO K "write_of" "write_of" y_ A1 HK)
  (Td:W.nsIn K mainGlobals "rest_of" = some (some (.ref A2)))
  (Ii:aO K "rest_of" "rest_of" za A2 HL)
  (Te:W.nsIn K mainGlobals "read_line" = some (some (.ref A3)))
  (Ij:aO K "read_line" "read_line" zc A3 HM)
  (Tf:W.nsIn K mainGlobals "_law_cell_at" = some (some (.ref A4)))
  (Ik:aO K "_law_cell_at" "_law_cell_at" zd A4 HN)
  (Tg:W.nsIn K mainGlobals "_law_stream" = some (some (.ref A5)))
  (Il:aO K "_law_stream" "_law_stream" ze A5 HP)
  (Ti:W.nsIn K mainGlobals "_law_drawn" = some (some (.ref A6)))
  (Im:aO K "_law_drawn" "_law_drawn" zf A6 HQ)
  (Tj:W.nsIn K mainGlobals "_law_text" = some (some (.ref A7)))
  (Io:aO K "_law_text" "_law_text" zg A7 HR)
  (Tn:W.nsIn K mainGlobals "_law_whole" = some (some (.ref A8)))
  (Ip:aO K "_law_whole" "_law_whole" zh A8 HS)
  (To:W.nsIn K mainGlobals "_law_numbers" = some (some (.ref A9)))
  (Iq:aO K "_law_numbers" "_law_numbers" zj A9 HU)
  (Tp:W.nsIn K mainGlobals "_law_same" = some (some (.ref A_)))
  (Ir:aO K "_law_same" "_law_same" zm A_ HV)
  (Tq:W.nsIn K mainGlobals "_law_number" = some (some (.ref Ba)))
  (Iu:aO K "_law_number" "_law_number" zo Ba HW)
  (Tr:W.nsIn K mainGlobals "_law_run" = some (some (.ref Bb)))
  (Iv:aO K "_law_run" "_law_run" zp Bb HX)
  (Tt:W.nsIn K mainGlobals "_law_tail" = some (some (.ref Bc)))
  (Iw:aO K "_law_tail" "_law_tail" zq Bc HY)
  (Tu:W.nsIn K mainGlobals "_law_parsed" = some (some (.ref Bd)))
  (Iz:aO K "_law_parsed" "_law_parsed" zu Bd HZ)
  (Tv:W.nsIn K mainGlobals "_law_good" = some (some (.ref Be)))
  (IA:aO K "_law_good" "_law_good" zw Be H_)
  (Tw:W.nsIn K mainGlobals "_law_other_word" = some (some (.ref Bf)))
  (IB:aO K "_law_other_word" "_law_other_word" zx Bf Ia)
  (Tz:W.nsIn K mainGlobals "_law_changed" = some (some (.ref Bg)))
  (IC:aO K "_law_changed" "_law_changed" zy Bg Ib)
  (TF:W.nsIn K mainGlobals "_law_told" = some (some (.ref Bh)))
  (ID:aO K "_law_told" "_law_told" zA Bh Ic)
  (IE:W.nsIn K mainGlobals "law" = some (some (.ref Bj)))
  (TJ:K.lookup Bj=some ⟨R_,RZ,.func (W.fnOf "law" "law" (eT gz) (dF gz) (aX gz) .none Bw Bx By Bm vZ BA),R5⟩)
  (TL:W.codeIn K vZ "law" = true)
  (TM:W.keepIn K (.ref Bj)=true)
  (TN:W.plainGet K bA Str.empty=true)
  (TQ:W.hasDictIn K bA=true)
  (TR:W.plainOver K bA=true)
  (TU:W.findIn K (.ref bA) "__setattr__" = some (some (.builtin "object.__setattr__")))
  (TV:W.makesIn K bA=true)
  (TX:W.keepIn K (.ref bA)=true)
  (Al:W.findIn K (.ref bA) "kind" = some none)
  (Am:W.findIn K (.ref bA) "first" = some none)
  (An:W.findIn K (.ref bA) "many" = some none)
  (mR:W.findIn K (.ref bA) "marks" = some none)
  (Ao:W.findIn K (.ref bA) "at" = some none)
  (Aq:W.findIn K (.ref bA) "asker" = some none)
  (uU:W.findIn K (.ref bA) "latest" = some none)
  (lu:W.findIn K (.ref bA) "behind" = some none)
  (As:W.findIn K (.ref bA) "early" = some none)
  (TY:W.plainGet K bq Str.empty=true)
  (TZ:W.hasDictIn K bq=true)
  (T3:W.plainOver K bq=true)
  (T4:W.findIn K (.ref bq) "__setattr__" = some (some (.builtin "object.__setattr__")))
  (T5:W.makesIn K bq=true)
  (T6:W.keepIn K (.ref bq)=true)
  (pL:W.findIn K (.ref bq) "words" = some none)
  (jv:W.findIn K (.ref bq) "passed" = some none)
  (T7:W.nsIn K mainGlobals "MOST_CELLS" = some (some (.int 16 o9)))
  (T8:W.nsIn K mainGlobals "GREATEST_FIRST" = some (some (.int 1000000 o_)))
  (T9:W.nsIn K mainGlobals "GREATEST_MARK" = some (some (.int 1000000000 pq)))
  (T_:W.nsIn K mainGlobals "GREATEST_AT" = some (some (.int 1000000000000 pA)))
  (Ua:W.nsIn K mainGlobals "GREATEST_ASKER" = some (some (.int 20 pB)))
  (Ub:W.nsIn K mainGlobals "GREATEST_LATEST" = some (some (.int 10000000000000 pC)))
  (Uc:W.nsIn K mainGlobals "GREATEST_BEHIND" = some (some (.int 99 pD)))
  (Ud:W.nsIn K mainGlobals "FIGURES" = some (some (.str (PySem.Str.ofString "0123456789") pF)))
  (Ue:W.nsIn K mainGlobals "MOST_FIGURES" = some (some (.int 15 pG)))
  (uW:W.nsIn K mainGlobals "all" = some none)
  (pM:W.nsIn K mainGlobals "bool" = some none)
  (mS:W.nsIn K mainGlobals "int" = some none)
  (fD:W.nsIn K mainGlobals "isinstance" = some none)
  (cH:W.nsIn K mainGlobals "len" = some none)
  (lz:W.nsIn K mainGlobals "range" = some none)
  (pN:W.nsIn K mainGlobals "set" = some none)
  (pO:W.nsIn K mainGlobals "sorted" = some none)
  (gB:W.nsIn K mainGlobals "str" = some none)
  (ia:W.nsIn K mainGlobals "tuple" = some none)
  (uY:W.excIn K eX [.type "ValueError",.type "Exception",.type "BaseException",.type "object"] "ValueError.__new__" = true)
  (lA:W.excIn K aP [.type "ValueError",.type "Exception",.type "BaseException",.type "object"] "ValueError.__new__" = true)
  (Ug:W.findIn K (.ref aP) "__getattribute__" = some (some (.builtin "BaseException.__getattribute__")))
  (Uh:W.findIn K (.ref aP) "__getattr__" = some none)
  (Ui:W.mroIn K aP (.type "BaseException")=some true)
  (IF:W.mroIn K aP (.type "object")=some true)
  (Uj:W.findIn K (.ref aP) "__class__" = some (some (.builtin "object.__class__")))
  (ve:W.kitOne K (.ref aP) (.type "ValueError")=some true)
  (Av:W.kitOne K (.ref aP) (.ref eX)=some true)
  (Uk:W.mroIn K aP (.ref eX)=some true)
  (uZ:W.kitOne K (.ref aP) (.ref aP)=some true)
  (Ul:W.mroIn K aP (.ref aP)=some true)
  (u7:W.kitOne K (.ref aP) (.ref aQ)=some false)
  (Um:W.mroIn K aP (.ref aQ)=some false)
  (u9:W.kitOne K (.ref aP) (.ref eF)=some false)
  (Uo:W.mroIn K aP (.ref eF)=some false)
  (u_:W.kitOne K (.ref aP) (.ref eG)=some false)
  (Up:W.mroIn K aP (.ref eG)=some false)
  (vc:W.kitOne K (.ref aP) (.ref fM)=some false)
  (Uq:W.mroIn K aP (.ref fM)=some false)
  (vd:W.kitOne K (.ref aP) (.ref eH)=some false)
  (Ur:W.mroIn K aP (.ref eH)=some false)
  (pQ:W.excIn K aQ [.type "ValueError",.type "Exception",.type "BaseException",.type "object"] "ValueError.__new__" = true)
  (Ut:W.findIn K (.ref aQ) "__getattribute__" = some (some (.builtin "BaseException.__getattribute__")))
  (Uu:W.findIn K (.ref aQ) "__getattr__" = some none)
  (Uv:W.mroIn K aQ (.type "BaseException")=some true)
  (IG:W.mroIn K aQ (.type "object")=some true)
  (Uw:W.findIn K (.ref aQ) "__class__" = some (some (.builtin "object.__class__")))
  (vo:W.kitOne K (.ref aQ) (.type "ValueError")=some true)
  (Ax:W.kitOne K (.ref aQ) (.ref eX)=some true)
  (Ux:W.mroIn K aQ (.ref eX)=some true)
  (vf:W.kitOne K (.ref aQ) (.ref aP)=some false)
  (Uy:W.mroIn K aQ (.ref aP)=some false)
  (vg:W.kitOne K (.ref aQ) (.ref aQ)=some true)
  (Uz:W.mroIn K aQ (.ref aQ)=some true)
  (vh:W.kitOne K (.ref aQ) (.ref eF)=some false)
  (UA:W.mroIn K aQ (.ref eF)=some false)
  (vj:W.kitOne K (.ref aQ) (.ref eG)=some false)
  (UB:W.mroIn K aQ (.ref eG)=some false)
  (vm:W.kitOne K (.ref aQ) (.ref fM)=some false)
  (UC:W.mroIn K aQ (.ref fM)=some false)
  (vn:W.kitOne K (.ref aQ) (.ref eH)=some false)
  (UD:W.mroIn K aQ (.ref eH)=some false)
  (vp:W.excIn K eF [.type "ValueError",.type "Exception",.type "BaseException",.type "object"] "ValueError.__new__" = true)
  (vq:W.excIn K eG [.type "ValueError",.type "Exception",.type "BaseException",.type "object"] "ValueError.__new__" = true)
  (vt:W.excIn K eH [.type "ValueError",.type "Exception",.type "BaseException",.type "object"] "ValueError.__new__" = true)
  (II:W.specialIn K (.builtin "object.__class__") "__get__" = some (some (.builtin "getset_descriptor.__get__")))
  (IJ:W.takesIn K (.builtin "object.__class__")=some true)
  (uX:W.nsIn K mainGlobals "ValueError" = some none)
  : ∃fd:FuncData,(∀(s:Shared) (v:Value),BindsTo s fd ⟨[v],[]⟩ [("_law_script",v)])/\∀base:Heap,K.In base->base.Ns mainGlobals mg->bg l.prog w K mg base cz 9 fa fd ["_law_script"] (qM K):=by
 have e:=Se.symm.trans (W.mg_of X G IE);cases e;have F5:=CP (st:=gv) Sz SD SE;have F6:=CP (st:=gw) SH SJ SK;have IK:=fun_mk (st:=gz) TJ TL TM;have b0:=F0.binds (ps:=["self", "kind", "first", "many", "marks", "at", "asker", "latest", "behind", "early"]) λ_ _ _ _ _ _=>RU (λ_ _ _ _ _ _ _ _ _ _=>rfl)
 have b1:=F1.binds (ps:=["number", "least", "greatest", "words"]) λ_ _ _ _ _ _=>RS (λ_ _ _ _=>rfl);have b2:=F2.binds (ps:=["behind"]) λ_ _ _ _ _ _=>cT (λ_=>rfl)
 have b3:=F3.binds (ps:=["first", "many", "at", "asker", "latest", "behind"]) λ_ _ _ _ _ _=>Ho (λ_ _ _ _ _ _=>rfl)
 have b4:=F4.binds (ps:=["behind"]) λ_ _ _ _ _ _=>cT (λ_=>rfl)
 have UE:Binds K (W.fnOf "reading" "reading" (eT gv) (dF gv) (aX gv) (.ref vK) Bo Bp Bq Bk vX Br) ["first", "many", "at", "asker", "latest", "behind"] []:=Hl 6 rfl λs X=>Ho λ_ _ _ _ _ _=>W.binds_K X rfl SA rfl rfl rfl
 have UG:Binds K (W.fnOf "writing" "writing" (eT gw) (dF gw) (aX gw) (.ref vM) Bs Bt Bu Bl vY Bv) ["first", "marks", "at", "asker", "latest", "behind", "early"] []:=Hl 7 rfl λs X=>RT λ_ _ _ _ _ _ _=>W.binds_K X rfl SI rfl rfl rfl
 have b7:=F7.binds (ps:=["at"]) λ_ _ _ _ _ _=>cT (λ_=>rfl)
 have b8:=F8.binds (ps:=["word"]) λ_ _ _ _ _ _=>cT (λ_=>rfl)
 have b9:=F9.binds (ps:=["self", "line"]) λ_ _ _ _ _ _=>iu (λ_ _=>rfl);have UH:=BB.binds (ps:=["self"]) λ_ _ _ _ _ _=>cT (λ_=>rfl)
 have UI:=BC.binds (ps:=["self"]) λ_ _ _ _ _ _=>cT (λ_=>rfl)
 have UJ:=BD.binds (ps:=["self", "word"]) λ_ _ _ _ _ _=>iu (λ_ _=>rfl);have UK:=BE.binds (ps:=["self"]) λ_ _ _ _ _ _=>cT (λ_=>rfl)
 have UL:=BF.binds (ps:=["self"]) λ_ _ _ _ _ _=>cT (λ_=>rfl)
 have UM:=BG.binds (ps:=["self", "word"]) λ_ _ _ _ _ _=>iu (λ_ _=>rfl);have UN:=BH.binds (ps:=["self"]) λ_ _ _ _ _ _=>cT (λ_=>rfl)
 have UO:=Ie.binds (ps:=["words"]) λ_ _ _ _ _ _=>cT (λ_=>rfl)
 have UP:=Ig.binds (ps:=["words"]) λ_ _ _ _ _ _=>cT (λ_=>rfl)
 have UQ:=Ih.binds (ps:=["words", "early"]) λ_ _ _ _ _ _=>iu (λ_ _=>rfl);have UR:=Ii.binds (ps:=["words"]) λ_ _ _ _ _ _=>cT (λ_=>rfl)
 have US:=Ij.binds (ps:=["line"]) λ_ _ _ _ _ _=>cT (λ_=>rfl)
 have UT:=Ik.binds (ps:=["_law_script", "_law_k"]) λ_ _ _ _ _ _=>iu (λ_ _=>rfl);have UU:=Il.binds (ps:=["_law_cell", "_law_many"]) λ_ _ _ _ _ _=>iu (λ_ _=>rfl);have UW:=Im.binds (ps:=["_law_cell"]) λ_ _ _ _ _ _=>cT (λ_=>rfl)
 have UX:=Io.binds (ps:=["_law_one"]) λ_ _ _ _ _ _=>cT (λ_=>rfl)
 have UY:=Ip.binds (ps:=["_law_found"]) λ_ _ _ _ _ _=>cT (λ_=>rfl)
 have UZ:=Iq.binds (ps:=["_law_found"]) λ_ _ _ _ _ _=>cT (λ_=>rfl)
 have U0:=Ir.binds (ps:=["_law_ask", "_law_one"]) λ_ _ _ _ _ _=>iu (λ_ _=>rfl);have U3:=Iu.binds (ps:=["_law_words", "_law_at"]) λ_ _ _ _ _ _=>iu (λ_ _=>rfl);have U4:=Iv.binds (ps:=["_law_words", "_law_at"]) λ_ _ _ _ _ _=>iu (λ_ _=>rfl);have U5:=Iw.binds (ps:=["_law_words", "_law_at"]) λ_ _ _ _ _ _=>iu (λ_ _=>rfl);have U6:=Iz.binds (ps:=["_law_line"]) λ_ _ _ _ _ _=>cT (λ_=>rfl)
 have U7:=IA.binds (ps:=["_law_one"]) λ_ _ _ _ _ _=>cT (λ_=>rfl)
 have U8:=IB.binds (ps:=["_law_xs"]) λ_ _ _ _ _ _=>cT (λ_=>rfl)
 have U9:=IC.binds (ps:=["_law_line", "_law_cell"]) λ_ _ _ _ _ _=>iu (λ_ _=>rfl);have U_:=ID.binds (ps:=["_law_line"]) λ_ _ _ _ _ _=>cT (λ_=>rfl)
 have Va:=IK.binds (ps:=["_law_script"]) λ_ _ _ _ _ _=>cT (λ_=>rfl)
 let A:zD:={ rW:=vI,rX:=Hs,rY:=AS,rZ:=yG,r9:=AU,r_:=yH,se:=AV,sq:=Ht,sr:=AW,su:=Hu,sy:=vJ,sC:=(W.fnOf "reading" "reading" (eT gv) (dF gv) (aX gv) (.ref vK) Bo Bp Bq Bk vX Br),Qo:=Hq,sD:=vL,sE:=(W.fnOf "writing" "writing" (eT gw) (dF gw) (aX gw) (.ref vM) Bs Bt Bu Bl vY Bv),Qp:=Hr,sF:=AX,sG:=Hv,sH:=AY,sI:=Hw,sJ:=vN,sL:=Hy,sM:=vO,sN:=Hz,sO:=vP,sP:=HA,sQ:=vQ,sR:=HB,sS:=vR,sU:=HC,sV:=vU,sW:=HD,sX:=vV,sY:=HE,sZ:=vW,s_:=HF,tu:=AZ,tw:=HG,tD:=A0,tE:=HJ,tF:=A1,tG:=HK,tH:=A2,tK:=HL,tL:=A3,tM:=HM,tN:=A4,tO:=HN,tQ:=A5,tR:=HP,tT:=A6,tU:=HQ,tV:=A7,tW:=HR,tX:=A8,tY:=HS,tZ:=A9,t_:=HU,uc:=A_,ud:=HV,ue:=Ba,uf:=HW,ug:=Bb,uh:=HX,um:=Bc,uo:=HY,uq:=Bd,ur:=HZ,uu:=Be,uv:=H_,uw:=Bf,ux:=Ia,uy:=Bg,uz:=Ib,uA:=Bh,uB:=Ic,uC:=fa,uD:=(W.fnOf "law" "law" (eT gz) (dF gz) (aX gz) .none Bw Bx By Bm vZ BA),bA:=bA,bq:=bq,eX:=eX,aP:=aP,aQ:=aQ,eF:=eF,eG:=eG,fM:=fM,eH:=eH,o9:=o9,o_:=o_,pq:=pq,pA:=pA,pB:=pB,pC:=pC,pD:=pD,pF:=pF,pG:=pG }
 have T:Tx K mg A:={ Ff:=F0,uE:=b0,iP:=F1,jo:=b1,jq:=W.mg_of X G Su,zE:=F2,Fg:=b2,Fi:=W.mg_of X G Sv,uF:=F3,zF:=b3,zG:=W.mg_of X G Sw,uG:=F4,zH:=b4,zI:=W.mg_of X G Sx,zJ:=F5,Fj:=UE,Fo:=W.mg_of X G Sy,zK:=F6,Fp:=UG,Fq:=W.mg_of X G SG,zL:=F7,Ft:=b7,Fv:=W.mg_of X G SM,zM:=F8,Fw:=b8,Fx:=W.mg_of X G SN,Fy:=F9,Fz:=b9,FA:=BB,jr:=UH,jt:=⟨SR,SS,BB.kp⟩,FD:=BC,zN:=UI,zO:=⟨SV,SW,BC.kp⟩,FE:=BD,uH:=UJ,uI:=⟨SX,SY,BD.kp⟩,FF:=BE,pH:=UK,pI:=⟨S0,S2,BE.kp⟩,FG:=BF,zP:=UL,zQ:=⟨S3,S4,BF.kp⟩,FH:=BG,j3:=UM,j4:=⟨S5,S6,BG.kp⟩,FI:=BH,zR:=UN,zS:=⟨S7,S8,BH.kp⟩,uJ:=Ie,zT:=UO,zU:=W.mg_of X G S9,zW:=Ig,FJ:=UP,FL:=W.mg_of X G S_,zX:=Ih,FN:=UQ,FO:=W.mg_of X G Tc,zY:=Ii,FP:=UR,FQ:=W.mg_of X G Td,zZ:=Ij,FT:=US,FU:=W.mg_of X G Te,z4:=Ik,FW:=UT,FY:=W.mg_of X G Tf,pJ:=Il,uK:=UU,uL:=W.mg_of X G Tg,z5:=Im,FZ:=UW,F_:=W.mg_of X G Ti,z7:=Io,Ga:=UX,Gb:=W.mg_of X G Tj,pK:=Ip,uM:=UY,uN:=W.mg_of X G Tn,uO:=Iq,z8:=UZ,z9:=W.mg_of X G To,z_:=Ir,Gd:=U0,Ge:=W.mg_of X G Tp,lq:=Iu,mO:=U3,mQ:=W.mg_of X G Tq,uP:=Iv,Aa:=U4,Ab:=W.mg_of X G Tr,Ac:=Iw,Gf:=U5,Gg:=W.mg_of X G Tt,Ad:=Iz,Gh:=U6,Gi:=W.mg_of X G Tu,Ae:=IA,Gj:=U7,Gk:=W.mg_of X G Tv,uQ:=IB,Af:=U8,Ag:=W.mg_of X G Tw,uR:=IC,Ah:=U9,Ai:=W.mg_of X G Tz,Aj:=ID,Gm:=U_,Gn:=W.mg_of X G TF,Gp:=IK,Qq:=Va,Qs:=W.mg_of X G IE,ju:=⟨TN,TQ,TR,TU⟩,uS:=⟨TV,Ss,j_,TX⟩,uT:=W.mg_of X G So,Al:=Al,Am:=Am,An:=An,mR:=mR,Ao:=Ao,Aq:=Aq,uU:=uU,lu:=lu,As:=As,bK:=⟨TY,TZ,T3,T4⟩,Gq:=⟨T5,SO,SQ,T6⟩,Gr:=W.mg_of X G Sq,pL:=pL,jv:=jv,Gs:=W.mg_of X G T7,Gu:=W.mg_of X G T8,Gv:=W.mg_of X G T9,Au:=W.mg_of X G T_,Gw:=W.mg_of X G Ua,Gx:=W.mg_of X G Ub,Gy:=W.mg_of X G Uc,Gz:=W.mg_of X G Ud,GA:=W.mg_of X G Ue,uW:=W.mg_none_of X G uW,pM:=W.mg_none_of X G pM,mS:=W.mg_none_of X G mS,fD:=W.mg_none_of X G fD,cH:=W.mg_none_of X G cH,lz:=W.mg_none_of X G lz,pN:=W.mg_none_of X G pN,pO:=W.mg_none_of X G pO,gB:=W.mg_none_of X G gB,ia:=W.mg_none_of X G ia,GB:=W.mg_of X G Sf,uY:=uY,GC:=c_.of uY (by decide),pP:=W.mg_of X G Sg,lA:=lA,GD:=c_.of lA (by decide),j5:=⟨Ug,Uh,Ui,IF,Uj,II,IJ⟩,j6:=C3 IF,ve:=ve,Av:=Av,GF:=fJ Uk,uZ:=uZ,Qt:=fJ Ul,u7:=u7,Qu:=fJ Um,u9:=u9,Qv:=fJ Uo,u_:=u_,Qw:=fJ Up,vc:=vc,Qx:=fJ Uq,vd:=vd,Qy:=fJ Ur,Aw:=W.mg_of X G Si,pQ:=pQ,GG:=c_.of pQ (by decide),j7:=⟨Ut,Uu,Uv,IG,Uw,II,IJ⟩,j8:=C3 IG,vo:=vo,Ax:=Ax,GH:=fJ Ux,vf:=vf,Qz:=fJ Uy,vg:=vg,QA:=fJ Uz,vh:=vh,QB:=fJ UA,vj:=vj,QC:=fJ UB,vm:=vm,QD:=fJ UC,vn:=vn,QE:=fJ UD,GI:=W.mg_of X G Sj,vp:=vp,QF:=c_.of vp (by decide),GJ:=W.mg_of X G Sk,vq:=vq,QG:=c_.of vq (by decide),GK:=W.mg_of X G Sl,GL:=W.mg_of X G Sm,vt:=vt,QH:=c_.of vt (by decide),uX:=W.mg_none_of X G uX }
 exact⟨(W.fnOf "law" "law" (eT gz) (dF gz) (aX gz) .none Bw Bx By Bm vZ BA),λs v=>.of_eq rfl,λbase _ _=>RC T⟩
theorem walk{l:W.OpenLaw}{q:Program}{loose:List Str}{XP:(Str->Option Value)->Heap->Prop}{YP:World->Heap->Prop}{d:DefRec}{K:Params->W.Frag}(hn:l.most=some 63)(nK:d.params.defaults = [])
  (hY:∀(w:World) (h:Heap),YP w h->(K w.params).In h)
  (F:∀(w:World) (mg:Str->Option Value) (fa:Addr) (h:Heap),(K w.params).In h->h.Ns mainGlobals mg->mg d.name=some (.ref fa)->
   ∃fd:FuncData,(∀(s:Shared) (u:Value),BindsTo s fd ⟨[u],[]⟩ [("_law_script",u)])/\∀base:Heap,(K w.params).In base->base.Ns mainGlobals mg->bg l.prog w (K w.params) mg base cz 9 fa fd ["_law_script"] (qM (K w.params))) :
  W.WalkO q loose XP YP l.row.toRowW d [] (λf vs=>PySem.call f vs) :=
 _L.K8 (n:=63) (k:=9) (x := "_law_script") (CX:=λ_=>cz) (sp:=λw=>qM (K w.params)) hn (by decide) nK ⟨rfl,by decide,by decide⟩ hY F (λ_ _ a ns hl _ hS=>⟨a,ns,rfl,hS,hl,λ_=>rfl⟩) λ_ _ _ _ _ z=>z
end _W
/-! WL names are taken,so WM no fast copy is laid of Vb largest tables: Vb compiled file stays small -/
structure PySem.W.Fast:Prop where(tw14898391601272889305 tw11367314213110480550 tw10168736776932959719 tw1108076273947063636 tw7972873472316647629 tw2412376120038140694 tw10627983983653121519 tw2161195580574606438 tw15383403666224012700 tw9744857115774455966 tw5960522925205387718 tw16284436541528059733 tw7125377248228157884 tw4265430148207617716 tw16644571913109945060 tw4054519066378963512 tw3147694114039857368 tw15666863750706413924 tw13512274492142780064 tw15268476082752708311 tw4806506643362049747 tw17662744828576598033 tw15399281846133392068 tw7422681582155578756 tw4361296938796537323 tw9230939928147288520 tw9362038730534701190 tw7271076940598703373 tw1776357598051574687 tw7344222104033345541 tw5608534846526484209 tw19770123885175964 tw13396446736751182719 tw12533890007597960726 tw9398652562906990525 tw15292061067035451262 tw1527606513472631568 tw5046526351831755700 tw10506798121478094573 tw7143991182302317257 tw14876823958935879835 tw16505027957919058377 tw14736341272289760990 tw16756698746638470951 tw439393293071297383 tw1336591657807972532 tw16960133244246715873 tw6273035304936901896 tw5525506851093631896 tw9124215238607900938 tw2439866358628539493 tw7432628522351072930 tw6257269794758681312 tw610470454434215222 tw10009965674223885459 tw11390305314830291125 tw11417777679729539247 tw12316108071101303006 tw13014716901721958279 tw13310738347560527521 tw7823499143340668058 tw15751451510059054323 tw6477357569293620230 tw11662886894504594107 tw12011605287918685373 tw9144869536421584684 tw13311359381497142349 tw10735869965382243946 tw2837914264438436786 tw13002351226501230201 tw16871265454055867057 tw13376496433470209974 tw4629871141787853028 tw8370727014464498918 tw10702868425456277706 tw16008119091830230976 tw2871007901795004686 tw14170568173304052990 tw4312049644003966639 tw11795335883899148439 tw10967279017325461850 tw17389760456498430218 tw8113443005238898930 tw15350488383767216031 tw4840442894510557622 tw4097455825248655095 tw9686444733691045514 tw8919488614551611857 tw15260306825424591797 tw6851706367895699007 tw4042826894240195901 tw6110236682379213258 tw3124820784396103089 tw3471233651007078766 tw13670998142616874064 tw2770159572638831805 tw16472361615220359701 tw15410507502861219059 tw13359405343294390958 tw4491884062604053586 tw4367273929029854317 tw17905052123301061943 tw12608592218139104635 tw13848699915977899961 tw14044476718223582000 tw7015576910809248141 tw2036892318956437029 tw12114758320935210404 tw6052736643664345409 tw4861218156136674727 tw8176708033677488541 tw5584809807187126021 tw1315863805100715428 tw12377312004688642020 tw10896381535442450772 tw16839187308419936777 tw7241880113318803015 tw11283111130058886493 tw14032655416911140115 tw9424916357218771543 tw10445990659778797548 tw9886248506777356508 tw11501539091310448514 tw14144703489522836908 tw11392890173515975748 tw8084634417162903267 tw15540225001035008313 tw3802497071164420201 tw11236991068062146860 tw6677103119932629002 tw7083398961803078529 tw14674239776923690626 tw12565458925716121155 tw18249895870238558616 tw10894955497747994443 tw4494385786209483573 tw2848390304009215283 tw12681123088048034242 tw2013675715152053429 tw9746012146938846837 tw10479712554824104238 tw6414493003181572965 tw17497491073029525256 tw9979993866905761388 tw6186160459234264298 tw17247929273547311900 tw11329922397407485999 tw8073167934565734928 tw13267941099386530468 tw4061881317008921366 tw3887780812478302179 tw18160033738788397087 tw1430944683662790122 tw7342638529587724747 tw13790044097902714618 tw4026340716555679984 tw4674641087426559610 tw7720355854926419214 tw11300657752918311764 tw9349027082757208260 tw3792533497906788061 tw12965646886592837716 tw15410704987690576268 tw5567518461026166337 tw15271721178128092069 tw2227536097214340183 tw3499667146801091274 tw1954544995673321512 tw16939328568448458945 tw10893948569564590194 tw17274280980332876878 tw14339458804884465359 tw604658149893034616 tw8474374402884114507 tw6052657227104967685 tw6156053592858249205 tw16316733442137565064 tw2513230632531807476 tw14264422015765242043 tw18383000964706279052 tw8247697920459138875 tw16195925113617524967 tw5328662745959422512 tw4024641759213420176 tw1362250757080429402 tw759096908934697803 tw7389820523688757029 tw10564721255674582979 tw11666028304922010374 tw8228791964402006758 tw2091539332096717574 tw9466643205967543548 tw10884345194103131198 tw7556235291062899878 tw15484768055800330117 tw14879998688180008254 tw7828236100768955615 tw15188534159190427772 tw10489453805620112540 tw12085780153562294543 tw14278915982358507936 tw6608685734213643814 tw9422198497468663750 tw9751239787154792427 tw4118255846049903179 tw9192258160948754742 tw5615342027177182931 tw15545103214020949579 tw2963285056249980744 tw17972977349623670950 tw5171062678439873282 tw3113487948158777717 tw17098714542613776365 tw781287218950393854 tw15554957565987908950 tw2091348862383874372 tw11518213379609990736 tw12204096747148259676 tw11425836583138099217 tw13465547965875147276 tw14688923289105845533 tw13513868918569886767 tw7429041081260704235 tw17554882290576444036 tw156106513841449575 tw7222472426525901010 tw7865771631201942854 tw16745218872713488061 tw14842725804921427333 tw5656723293885843849 tw16129694989420412924 tw10144891971397129284 tw5344297262749417625 tw6563135726530743465 tw16039745026890626673 tw189166294157677972 tw3076894445406855791 tw12162213734583488390 tw13962166640738328814 tw11490406820679785240 tw9168379471134429563 tw4964744659613505113 tw5200797235730639767 tw15401652249541154910 tw11203548221465143014 tw9152076635471150553 tw2022294768536435087 tw12236739978762073257 tw9833072183138773999 tw16833420911615479654 tw7177574130222456073 tw17568692342877285411 tw11693718502064943541 tw16353508169368115018 tw9491281207154141784 tw1053418678025454061 tw12147264129179416809 tw13247621925908506583 tw197404569264490356 tw5190459968911721911 tw9804663636386959076 tw379173088708222847 tw14553674496037644573 tw5805996860208993010 tw10712609990824256000 tw3931277110703778409 tw18022522561719159393 tw11169458031942638185 tw13344057925642577936 tw3507809165903348825 tw14913684829034729331 tw4737862509440739172 tw2872896956876887009 tw10112531300978999052 tw5949794400726293434 tw313979750347508351 tw15180222642666772009 tw4693626980277727819 tw11279389432232318063 tw4091162040762211221:True)
open PySem PySem.W PyProof.Rows
set_option maxHeartbeats 0 in
theorem PySem.Challenge.cw_armswing_k74_lines_refused_holds : PySem.Challenge.rw_armswing_k74_lines_refused.Holds := by
 w_on; o_law; k_head; (case hw => w_witness2)
 k_fill
 refine _W.walk (l := PySem.Challenge.rw_armswing_k74_lines_refused) rfl rfl (λw h Y => PySem.W.kIn_of Y) ?F
 case F =>
  intro w mg fa h KX G hmg
  refine' _W.all_mk KX G hmg ?_ ?_ ?_ ?_ ?_ ?_ ?_ ?_ ?_ ?_ ?_ ?_ ?_ ?_ ?_ ?_ ?_ ?_ ?_ ?_ ?_ ?_ ?_ ?_ ?_ ?_ ?_ ?_ ?_ ?_ ?_ ?_ ?_ ?_ ?_ ?_ ?_ ?_ ?_ ?_ ?_ ?_ ?_ ?_ ?_ ?_ ?_ ?_ ?_ ?_ ?_ ?_ ?_ ?_ ?_ ?_ ?_ ?_ ?_ ?_ ?_ ?_ ?_ ?_ ?_ ?_ ?_ ?_ ?_ ?_ ?_ ?_ ?_ ?_ ?_ ?_ ?_ ?_ ?_ ?_ ?_ ?_ ?_ ?_ ?_ ?_ ?_ ?_ ?_ ?_ ?_ ?_ ?_ ?_ ?_ ?_ ?_ ?_ ?_ ?_ ?_ ?_ ?_ ?_ ?_ ?_ ?_ ?_ ?_ ?_ ?_ ?_ ?_ ?_ ?_ ?_ ?_ ?_ ?_ ?_ ?_ ?_ ?_ ?_ ?_ ?_ ?_ ?_ ?_ ?_ ?_ ?_ ?_ ?_ ?_ ?_ ?_ ?_ ?_ ?_ ?_ ?_ ?_ ?_ ?_ ?_ ?_ ?_ ?_ ?_ ?_ ?_ ?_ ?_ ?_ ?_ ?_ ?_ ?_ ?_ ?_ ?_ ?_ ?_ ?_ ?_ ?_ ?_ ?_ ?_ ?_ ?_ ?_ ?_ ?_ ?_ ?_ ?_ ?_ ?_ ?_ ?_ ?_ ?_ ?_ ?_ ?_ ?_ ?_ ?_ ?_ ?_ ?_
  all_goals (first | k_is | kit_is | k_exc | exact _L.fun_mk (by k_is) (by k_is) (by k_is) | rfl | decide +kernel | kernel_rfl | skip)

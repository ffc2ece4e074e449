import PyProof.Rows.All
import Wide.All
import OpenK.AllK
import Wide.FinOn
import Lean
import PyProof.EqAt
import PyProof.EqKinds
import PyProof.TupleCall
import PySem.Challenge.RW_armswing_k01_pairs_of_cells
set_option compiler.extract_closed false
set_option Elab.async false
set_option linter.all false
set_option maxRecDepth 100000
namespace _L
open PySem PySem.Spec PyProof.Rows
noncomputable abbrev Key:=Sum Int Str
noncomputable def jV:Key->Value->Bool
 | .inl k,v=>Value.isInt k v
 | .inr x,v=>Value.isStrOf x v
noncomputable def Dl(w:World):Key->Int
 | .inl k=>hashInt k
 | .inr x=>hashStr w x
theorem gM:∀ {k:Key} {v:Value},jV k v=true->(∃i t,k=Sum.inl i/\v=Value.int i t)\/(∃x t,k=Sum.inr x/\v=Value.str x t)
 | .inl i,v,h=>by
  obtain⟨t,e⟩:=Value.isInt_shape (k:=i) (v:=v) h;exact .inl ⟨i,t,rfl,e⟩
 | .inr x,v,h=>by
  obtain⟨t,e⟩:=Value.isStrOf_shape (x:=x) (v:=v) h;exact .inr ⟨x,t,rfl,e⟩
theorem Dm(i:Int)(t:Tok):jV (.inl i) (.int i t)=true:=by simp[jV,Value.isInt]
theorem Dn(x:Str)(t:Tok):jV (.inr x) (.str x t)=true:=by simp[jV,Value.isStrOf]
theorem Dp(a b:Int):decide ((Sum.inl a:Key)=Sum.inl b)=(a == b):=by
 by_cases e:a=b
 ·subst e;simp
 ·have h:¬ (Sum.inl a:Key)=Sum.inl b:=λq=>e (Sum.inl.inj q);rw[decide_eq_false h];exact(beq_eq_false_iff_ne.mpr e).symm
theorem Dq(a b:Str):decide ((Sum.inr a:Key)=Sum.inr b)=decide (a=b):=by
 by_cases e:a=b
 ·subst e;simp
 ·have h:¬ (Sum.inr a:Key)=Sum.inr b:=λq=>e (Sum.inr.inj q);rw[decide_eq_false h,decide_eq_false e]
theorem Dr(a:Int)(b:Str):decide ((Sum.inl a:Key)=Sum.inr b)=false:=decide_eq_false (λq=>nomatch q)
theorem Ds(a:Str)(b:Int):decide ((Sum.inr a:Key)=Sum.inl b)=false:=decide_eq_false (λq=>nomatch q)
noncomputable def dQ(prog:Program)(w:World):PySem.KeyKind prog w Key where
 is:=jV
 hash:=Dl w
 inj:=λv a b ha hb=>by
  rcases gM ha with⟨i,t,rfl,rfl⟩ | ⟨x,t,rfl,rfl⟩
  ·rcases gM hb with⟨j,u,rfl,e⟩ | ⟨y,u,rfl,e⟩
   ·injection e with e1 _;rw[e1]
   ·exact nomatch e
  ·rcases gM hb with⟨j,u,rfl,e⟩ | ⟨y,u,rfl,e⟩
   ·exact nomatch e
   ·injection e with e1 _;rw[e1]
 byValue:=λk v h=>by
  rcases gM h with⟨i,t,rfl,rfl⟩ | ⟨x,t,rfl,rfl⟩ <;> rfl
 pyHash:=λhv h=>by
  rcases gM hv with⟨i,t,rfl,rfl⟩ | ⟨x,t,rfl,rfl⟩
  ·exact wpAny_pyHash_int h
  ·exact wpAny_pyHash_str h
 eqBool:=λhu hv h=>by
  rcases gM hu with⟨i,t,rfl,rfl⟩ | ⟨x,t,rfl,rfl⟩
  ·rcases gM hv with⟨j,u,rfl,rfl⟩ | ⟨y,u,rfl,rfl⟩
   ·rw[Dp] at h;exact wpAny_eqBool_int h
   ·rw[Dr] at h;exact SeqAt.EqAt.int_str i t y u _ _ _ _ h
  ·rcases gM hv with⟨j,u,rfl,rfl⟩ | ⟨y,u,rfl,rfl⟩
   ·rw[Ds] at h;exact SeqAt.EqAt.str_int x t j u _ _ _ _ h
   ·rw[Dq] at h;exact wpAny_eqBool_str h
 «strs» := λk x t v h=>by
  rcases gM h with⟨i,u,rfl,e⟩ | ⟨y,u,rfl,e⟩
  ·exact nomatch e
  ·injection e with e1 _;subst e1;cases v <;> rfl
theorem Du(prog:Program)(w:World)(i:Int)(t:Tok):(dQ prog w).is (.inl i) (.int i t)=true:=Dm i t
theorem Dv(prog:Program)(w:World)(x:Str)(t:Tok):(dQ prog w).is (.inr x) (.str x t)=true:=Dn x t
inductive V where
 | aC | bl (b:Bool) | int (i:Int) | str (x:Str) | fh (b:Array UInt8) | ig (b:UInt64) | ref (a:Addr) | ty (n:String)
 deriving DecidableEq
noncomputable def RelV:V->Value->Prop
 | .aC,u=>u=Value.none
 | .bl b,u=>u=Value.bool b
 | .int i,u=>∃t,u=Value.int i t
 | .str x,u=>∃t,u=Value.str x t
 | .fh b,u=>∃t,u=Value.bytes b t
 | .ig b,u=>∃t,u=Value.float b t
 | .ref a,u=>u=Value.ref a
 | .ty n,u=>u=Value.type n
noncomputable abbrev Vals:List V->List Value->Prop:=Paired RelV
theorem Vals.length{xs:List V}{us:List Value}(r:Vals xs us):xs.length=us.length:=Paired.length r
theorem Vals.get:∀ {xs:List V} {us:List Value} {i:Nat} {x:V},Vals xs us->xs[i]? = some x->∃u,us[i]? = some u/\RelV x u
 | _,_,_,_,.nil,e=>by simp at e
 | _,_,0,_,.cons r _,e=>by simp at e;subst e;exact⟨_,rfl,r⟩
 | _,_,i+1,x,.cons _ t,e=>by
  obtain⟨u,h1,h2⟩:=Vals.get (i:=i) (x:=x) t (by simpa using e)
  exact⟨u,by simpa using h1,h2⟩
theorem Vals.append:∀ {xs ys:List V} {us ws:List Value},Vals xs us->Vals ys ws->Vals (xs++ys) (us++ws)
 | _,_,_,_,.nil,s=>s
 | _,_,_,_,.cons r t,s=>.cons r (Vals.append t s)
noncomputable def cJ:Option V->Option Value->Prop
 | some v,some u=>RelV v u
 | none,none=>True
 | _,_=>False
noncomputable def KV{κ:Type}:List (κ×V)->List (κ×Value)->Prop:=Paired λ(p:κ×V) (q:κ×Value)=>p.1=q.1/\RelV p.2 q.2
noncomputable def kV:Key->V
 | .inl i=>.int i
 | .inr x=>.str x
inductive HO where
 /-- a list -/
 | lst (xs:List V)
 /-- a tuple (never changes) -/
 | tup (xs:List V)
 /-- a dict whose keys are ints and texts;one whose keys are tuples of ints and texts (the empty one is both) -/
 | dK (ao:List (Key×V)) | dT (ao:List (List Key×V))
 /-- a set of ints: its members,its size -/
 | set (S:Int->Bool) (n:Nat)
 /-- an instance of the class at C,its dict at dx,its attributes -/
 | ins (C dx:Addr) (fs:List (Str×V))
 /-- the dict of the instance at x -/
 | own (x:Addr)
 /-- the dict of an exception -/
 | xd (fs:List (Str×V))
 /-- a bound method,f of x -/
 | met (f x:Addr)
 /-- a range object lo,lo+1,.. below hi -/
 | nP (lo hi:Int)
 /-- a thing that is known to the object (the script;a dict while a loop walks it): read,never written while it is so -/
 | dm (o:Obj) (u:HO)
 /-- a code object's table -/
 | ir (ps:Array Value)
 /-- any other thing,by what is true of its one object (a def of one's own: SetO a S n:=HO.ext λh=>..) -/
 | ext (φ:Heap->Prop)
noncomputable abbrev Hp:=Addr->Option HO
noncomputable def upd(H:Hp)(a:Addr)(o:HO):Hp:=λb=>if b=a then some o else H b
theorem aF{H:Hp}{a:Addr}{o:HO}:upd H a o a=some o:=by unfold upd;rw[if_pos rfl]
theorem aG{H:Hp}{a b:Addr}{o:HO}(h:b≠a):upd H a o b=H b:=by unfold upd;rw[if_neg h]
theorem Dw{H:Hp}{a:Addr}{o u:HO}:upd (upd H a o) a u=upd H a u:=by
 funext b;unfold upd;split <;> rfl
theorem jW{H:Hp}{a b:Addr}{o u:HO}(h:H a=some o)(h':H b=some u)(d:o≠u):a≠b:=by
 intro e;subst e;rw[h] at h';exact d (Option.some.inj h')
theorem cO{H:Hp}{a b:Addr}{o:HO}(h:H a=some o)(h':H b=none):a≠b:=by
 intro e;subst e;rw[h] at h';cases h'
section
variable(P:Program)(w:World)
noncomputable def bu(H:Hp)(h:Heap)(a:Addr):HO->Prop
 | .lst xs=>xs.length<=sizeLine/\∃(au:List Value) (n:Nat),Vals xs au/\h.get? a=some { cls:=.type "list",data:=.seq au.toArray n }
 | .tup xs=>xs.length<=sizeLine/\∃au:List Value,Vals xs au/\IsTup h a au.toArray
 | .dK ao=>ao.length<=sizeLine/\(a == sysModules)=false/\∃vs,KV ao vs/\h.DictOf (dQ P w) a vs
 | .dT ao=>ao.length<=sizeLine/\(a == sysModules)=false/\∃xs:List (List Key×Addr×Value),
   Paired (λ(p:List Key×V) (q:List Key×Addr×Value)=>p.1=q.1/\H q.2.1=some (.tup (p.1.map kV))/\RelV p.2 q.2.2) ao xs/\
   ∃o es ep,h.get? a=some o/\o.ExactDict/\o.data = .dict es ep/\es.toList=xs.map (entryOfKey (tupleKind (dQ P w)))/\(xs.map (·.1)).Nodup
 | .set S n=>h.SetOf (intKind P w) a S n
 | .ins C dx fs=>H dx=some (.own a)/\fs.length<=1000/\dx≠a/\h.get? a=some (PySem.W.instObj C dx)/\
   ∃mA,h.Ns1 dx mA/\(∀f,cJ (fs.lookup f) (mA f))/\PySem.Within mA (fs.map (·.1))
 | .own _=>∃o,h.get? a=some o
 | .xd fs=>∃mA,h.Ns1 a mA/\∀f,cJ (fs.lookup f) (mA f)
 | .nP lo hi=>∃t u v,h.get? a=some { cls:=.type "range",data:=.fields #[.int lo t,.int hi u,.int 1 v] }
 | .dm o u=>h.get? a=some o/\bu H h a u
 | .ir ps=>h.get? a=some { cls:=.none,data:=.fields ps }
 | .met f x=>h.get? a=some (PySem.W.methodObj (.ref f) (.ref x))
 | .ext φ=>φ h/\(∃o,h.get? a=some o)/\∀h1 h2:Heap,φ h1->(∀o,h1.get? a=some o->h2.get? a=some o)->φ h2
noncomputable def bw(H:Hp)(h:Heap):Prop:=∀a o,H a=some o->bu P w H h a o
end
section
variable{P:Program}{w:World}{H H':Hp}{h h':Heap}{a:Addr}{o:HO}
theorem bu.lt(x:bu P w H h a o):a<h.objs.size:=by
 cases o with
 | lst xs=>obtain⟨_,_,_,_,e⟩:=x;exact Heap.lt_size e
 | tup xs=>obtain⟨_,_,_,p⟩:=x;exact p.lt
 | dK ao=>obtain⟨_,_,_,_,o,_,_,e,_⟩:=x;exact Heap.lt_size e
 | dT ao=>obtain⟨_,_,_,_,o,_,_,e,_⟩:=x;exact Heap.lt_size e
 | set S n=>obtain⟨o,_,_,_,e,_⟩:=x;exact Heap.lt_size e
 | ins C dx fs=>obtain⟨_,_,_,e,_⟩:=x;exact Heap.lt_size e
 | own y=>obtain⟨_,e⟩:=x;exact Heap.lt_size e
 | xd fs=>obtain⟨_,⟨_,_,_,e,_⟩,_⟩:=x;exact Heap.lt_size e
 | nP lo hi=>obtain⟨_,_,_,e⟩:=x;exact Heap.lt_size e
 | dm ob u=>obtain⟨e,_⟩:=x;exact Heap.lt_size e
 | ir ps=>exact Heap.lt_size (show h.get? a=some _ from x)
 | met f y=>exact Heap.lt_size (show h.get? a=some _ from x)
 | ext φ=>obtain⟨_,⟨_,e⟩,_⟩:=x;exact Heap.lt_size e
theorem Paired.rW{α β:Type}{F G:α->β->Prop}:∀ {xD:List α} {xE:List β},Paired F xD xE->(∀a b,F a b->G a b)->Paired G xD xE
 | _,_,.nil,_=>.nil
 | _,_,.cons r t,f=>.cons (f _ _ r) (Paired.rW t f)
theorem bu.fj(x:bu P w H h a o)(k:∀b u,(b=a\/H b=some (.own a))->h.get? b=some u->h'.get? b=some u)
  (ho:∀b,H b=some (.own a)->H' b=some (.own a)) (ht:∀b xs,H b=some (.tup xs)->H' b=some (.tup xs)):bu P w H' h' a o:=by
 induction o with
 | lst xs=>obtain⟨z,au,n,r,e⟩:=x;exact⟨z,au,n,r,k _ _ (.inl rfl) e⟩
 | tup xs=>obtain⟨z,au,r,ob,e,c⟩:=x;exact⟨z,au,r,ob,k _ _ (.inl rfl) e,c⟩
 | dK ao=>obtain⟨z,y,vs,r,ob,es,ep,e,c⟩:=x;exact⟨z,y,vs,r,ob,es,ep,k _ _ (.inl rfl) e,c⟩
 | dT ao =>
  obtain⟨z,y,xs,r,ob,es,ep,e,c⟩:=x;exact⟨z,y,xs,Paired.rW r λp q z=>⟨z.1,ht _ _ z.2.1,z.2.2⟩,ob,es,ep,k _ _ (.inl rfl) e,c⟩
 | set S n=>obtain⟨ob,es,ep,t,e,c⟩:=x;exact⟨ob,es,ep,t,k _ _ (.inl rfl) e,c⟩
 | ins C dx fs =>
  obtain⟨d,z,ne,e,mA,⟨od,es,ep,e2,c⟩,r⟩:=x;exact⟨ho _ d,z,ne,k _ _ (.inl rfl) e,mA,⟨od,es,ep,k _ _ (.inr d) e2,c⟩,r⟩
 | own y=>obtain⟨ob,e⟩:=x;exact⟨ob,k _ _ (.inl rfl) e⟩
 | xd fs=>obtain⟨mA,⟨od,es,ep,e,c⟩,r⟩:=x;exact⟨mA,⟨od,es,ep,k _ _ (.inl rfl) e,c⟩,r⟩
 | nP lo hi=>obtain⟨t,u,v,e⟩:=x;exact⟨t,u,v,k _ _ (.inl rfl) e⟩
 | dm ob u ih=>obtain⟨e,q⟩:=x;exact⟨k _ _ (.inl rfl) e,ih q⟩
 | ir ps =>
  have e:h.get? a=some { cls:=.none,data:=.fields ps }:=x
  show h'.get? a=some { cls:=.none,data:=.fields ps };exact k a _ (.inl rfl) e
 | met f y =>
  have e:h.get? a=some (PySem.W.methodObj (.ref f) (.ref y)):=x
  show h'.get? a=some (PySem.W.methodObj (.ref f) (.ref y));exact k a _ (.inl rfl) e
 | ext φ=>obtain⟨p,⟨o,e⟩,st⟩:=x;exact⟨st _ _ p λo q=>k _ _ (.inl rfl) q,⟨o,k _ _ (.inl rfl) e⟩,st⟩
theorem bw.lt(x:bw P w H h)(e:H a=some o):a<h.objs.size:=(x a o e).lt
theorem bw.fresh(x:bw P w H h)(e:h.objs.size<=a):H a=none:=by
 cases q:H a with
 | none=>rfl
 | some u=>exact absurd (Nat.lt_of_lt_of_le (x.lt q) e) (Nat.lt_irrefl _)
theorem bw.kept(x:bw P w H h)(k:∀b u,h.get? b=some u->h'.get? b=some u):bw P w H h':=λa o e =>
 (x a o e).fj (λb u _ q=>k b u q) (λ_ q=>q) λ_ _ q=>q
theorem bw.laid(x:bw P w H h)(k:∀b u,h.get? b=some u->h'.get? b=some u)(hp:h.objs.size<=a)(new:bu P w (upd H a o) h' a o):bw P w (upd H a o) h':=λb u e=>by
 have hn:=x.fresh hp;by_cases hb:b=a
 ·subst hb;rw[aF] at e;cases e;exact new
 ·rw[aG hb] at e;exact(x b u e).fj (λc v _ q=>k c v q) (λc q=>by rw[aG (cO q hn)];exact q) λc xs q=>by rw[aG (cO q hn)];exact q
end
noncomputable def Rd(H:Hp)(a:Addr)(u:HO):Prop:=H a=some u\/∃o,H a=some (.dm o u)
theorem Rd.ok{P:Program}{w:World}{H:Hp}{h:Heap}{a:Addr}{u:HO}(r:Rd H a u)(x:bw P w H h):bu P w H h a u:=by
 rcases r with r | ⟨o,r⟩
 ·exact x a u r
 ·obtain⟨_,q⟩:=x a _ r;exact q
noncomputable def kO:Option HO->Prop
 | some (.lst _)=>True
 | some (.dK _)=>True
 | some (.dT _)=>True
 | some (.set _ _)=>True
 | some (.ins _ _ _)=>True
 | some (.ext _)=>True
 | _=>False
section
variable{P:Program}{w:World}{H:Hp}{h h':Heap}{x e:Addr}{o':HO}
theorem bw.write(ok:bw P w H h)(mu:kO (H x))(he:e=x\/H e=some (.own x))(k:∀b u,b≠e->h.get? b=some u->h'.get? b=some u)(jX:∃u,h'.get? e=some u)
  (new:bu P w (upd H x o') h' x o'):bw P w (upd H x o') h':=λb u q=>by
 have xF:∀c y,H c=some (.own y)->c≠x:=λc y r z=>by subst z;rw[r] at mu;exact mu
 have Dy:∀c xs,H c=some (.tup xs)->c≠x:=λc xs r z=>by subst z;rw[r] at mu;exact mu
 by_cases hb:b=x
 ·subst hb;rw[aF] at q;cases q;exact new
 ·rw[aG hb] at q;by_cases iW:b=e
  ·have q':H b=some (.own x):=by
    rcases he with z | z
    ·exact absurd (iW.trans z) hb
    ·rw[iW];exact z
   rw[q] at q';cases q';obtain⟨v,hv⟩:=jX;exact⟨v,by rw[iW];exact hv⟩
  ·refine(ok b u q).fj (λc v hc r=>k c v ?_ r) (λc r=>by rw[aG (xF c b r)];exact r) λc xs r=>by rw[aG (Dy c xs r)];exact r
   rcases hc with rfl | hc
   ·exact iW
   ·rintro rfl;rcases he with z | z
    ·exact xF c b hc z
    ·rw[hc] at z;cases z;exact hb rfl
end
structure Un(fs ex:List Addr)(H H':Hp)(h h':Heap):Prop where
 keep:∀b o,h.get? b=some o->H b=none->b∉fs->b∉ex->h'.get? b=some o
 slot:∀b o,h.get? b=some o->H b=none->b∈fs->b∉ex->∃sl,h'.get? b=some { o with slots:=sl }
 free:∀b o,h.get? b=some o->H b=none->b∉ex->H' b=none
 there:∀b o,h.get? b=some o->b∉ex->∃o',h'.get? b=some o'
 eo:∀b xs,H b=some (.tup xs)->H' b=some (.tup xs)
 dR:∀b o u,H b=some (.dm o u)->H' b=some (.dm o u)
 eu:∀b ps,H b=some (.ir ps)->∃more,H' b=some (.ir (ps++more))
section
variable{fs Dz ex Nu:List Addr}{H H1 H2:Hp}{h h1 h2 h':Heap}{a x e:Addr}{o:HO}
theorem Un.any(u:Un fs ex H H1 h h1){b:Addr}{ob:Obj}(q:h.get? b=some ob)(n:H b=none)(hx:b∉ex):∃sl,h1.get? b=some { ob with slots:=sl }:=by
 by_cases hb:b∈fs
 ·exact u.slot b ob q n hb hx
 ·exact⟨ob.slots,u.keep b ob q n hb hx⟩
theorem Un.kept(k:∀b u,h.get? b=some u->h'.get? b=some u):Un fs ex H H h h' :=
 ⟨λb ob q _ _ _=>k b ob q,λb ob q _ _ _=>⟨ob.slots,k b ob q⟩,λ_ _ _ n _=>n,λb ob q _=>⟨ob,k b ob q⟩,λ_ _ q=>q,λ_ _ _ q=>q,λ_ ps q=>⟨#[],by rw[q];simp⟩⟩
theorem Un.refl:Un fs ex H H h h:=Un.kept λ_ _ q=>q
theorem Un.laid(k:∀b u,h.get? b=some u->h'.get? b=some u)(hp:h.objs.size<=a)(hn:H a=none):Un fs ex H (upd H a o) h h' where
 keep:=λb u q _ _ _=>k b u q
 slot:=λb u q _ _ _=>⟨u.slots,k b u q⟩
 free:=λb u q n _=>by rw[aG (Nat.ne_of_lt (Nat.lt_of_lt_of_le (Heap.lt_size q) hp))];exact n
 there:=λb u q _=>⟨u,k b u q⟩
 eo:=λb xs q=>by rw[aG (cO q hn)];exact q
 dR:=λb u xs q=>by rw[aG (cO q hn)];exact q
 eu:=λb ps q=>⟨#[],by rw[aG (cO q hn),q];simp⟩
theorem Un.write(mu:kO (H x))(he:e=x\/H e=some (.own x))(k:∀b u,b≠e->h.get? b=some u->h'.get? b=some u)(jX:∃u,h'.get? e=some u):Un fs ex H (upd H x o) h h':=by
 have hx:∀b,H b=none->b≠x:=λb n z=>by subst z;rw[n] at mu;exact mu
 have hb:∀b,H b=none->b≠e:=λb n z=>by
  subst z;rcases he with r | r
  ·exact hx b n r
  ·rw[n] at r;cases r
 have hm:∀b u,H b=some u->¬ kO (some u)->b≠x:=λb u q nm z=>by subst z;rw[q] at mu;exact nm mu
 refine⟨λb u q n _ _=>k b u (hb b n) q,λb u q n _ _=>⟨u.slots,k b u (hb b n) q⟩,λb u q n _=>by rw[aG (hx b n)];exact n,λb u q _=>?_,
  λb xs q=>by rw[aG (hm b _ q λz=>z)];exact q,λb u xs q=>by rw[aG (hm b _ q λz=>z)];exact q,λb ps q=>⟨#[],by rw[aG (hm b _ q λz=>z),q];simp⟩⟩
 by_cases iW:b=e
 ·subst iW;exact jX
 ·exact⟨u,k b u iW q⟩
end
noncomputable def nQ(h:Heap)(H:Hp):List Addr:=(List.range h.objs.size).filter λa=>(H a).isSome
noncomputable def gO(h:Heap)(H:Hp):Heap:=PySem.W.hideAll h (nQ h H)
theorem DA(h:Heap)(H:Hp):(gO h H).objs.size=h.objs.size:=PySem.W.hideAll_size _ _
theorem DB{h:Heap}{H:Hp}{b:Addr}{o:Obj}(e:h.get? b=some o)(n:H b=none):(gO h H).get? b=some o :=
 PySem.W.hideAll_get _ e λhm=>by
  have q:(H b).isSome=true:=(List.mem_filter.mp hm).2;rw[n] at q;simp at q
theorem DC{h:Heap}{H:Hp}{b:Addr}{o:Obj}(e:(gO h H).get? b=some o):h.get? b=some o/\H b=none:=by
 have e':h.get? b=some o:=PySem.W.of_hideAll (nQ h H) e;refine⟨e',?_⟩;cases q:H b with
 | none=>rfl
 | some x =>
  have hm:b∈nQ h H:=List.mem_filter.mpr ⟨List.mem_range.mpr (Heap.lt_size e'),by simp[q]⟩
  have z:(gO h H).get? b=none:=PySem.W.hideAll_none (nQ h H) hm;rw[z] at e;cases e
noncomputable def DE(g h:Heap)(L:Addr):List (Addr×Obj):=(List.range h.objs.size).filterMap λa=>if a=L\/(g.get? a).isSome=true then none else(h.get? a).map λo=>(a,o)
noncomputable def rest(g h:Heap)(L d:Addr):List (Addr×Obj):=(DE g h L).filter λp=>decide (p.1≠d)
structure Mod(K:PySem.W.Frag)(mg:Str->Option Value)(base:Heap):Prop where
 iX:K.In base
 glob:base.Ns mainGlobals mg
 blt:∃mb,base.Ns builtinsNs mb/\∀x:Str,x≠"__name__"->mb x=bootBuiltins x
 nolimit:base.NoLimit
structure Cx where
 prog:Program
 w:World
 K:PySem.W.Frag
 mg:Str->Option Value
 base:Heap
 A:Around
 N:List Str
 aX:Shared
 fL:Hp
 env:Env
 outer:List Env
 stack:List Env
 ex:List Addr
 fn:Str->Bool
 calm:Bool
 pn:List (Addr×Obj)
 xe:Value->Shared->Prop
noncomputable def bC(l:List Env):List Addr:=l.filterMap (·.frame)
noncomputable abbrev Cx.fs(X:Cx):List Addr:=bC X.outer
noncomputable def rX(sc:Scope)(x:Str):Prop:=sc.names.lookup x=some .local\/sc.names.lookup x=some .cell\/sc.names.lookup x=some .free
noncomputable def Loc(sc:Scope)(x:Str):Prop:=sc.names.lookup x=some .local\/sc.names.lookup x=some .cell
noncomputable def Look(env:Env)(h:Heap)(m:Str->Option Value)(x:Str)(u:Value):Prop :=
 (env.kindOf x=some .local/\m x=some u)\/((env.kindOf x=some .cell\/env.kindOf x=some .free)/\∃c,env.cells.lookup x=some c/\h.IsCell c (some u))
structure Cx.Ok(X:Cx):Prop where
 mod:Mod X.K X.mg X.base
 kind:X.env.scope.kind = .function
 glob:X.env.globals=mainGlobals
 blt:X.env.builtins=builtinsNs
 above:X.aX.heap.objs.size<=X.env.locals
 inj:∀x y c,X.env.cells.lookup x=some c->X.env.cells.lookup y=some c->x=y
 has:∀x,(X.env.kindOf x=some .cell\/X.env.kindOf x=some .free)->∃c,X.env.cells.lookup x=some c
 iY:∀x c,X.fn x=true->X.env.cells.lookup x=some c->X.aX.heap.objs.size<=c
 hd:X.calm=true->X.A.handled=none
 frames:X.A.frames=some X.stack
 jY:X.stack=X.outer\/(X.stack=X.env::X.outer/\X.env.frame=some X.env.locals)
 jZ:∀b∈X.ex,b≠X.env.locals/\∀x c,X.env.cells.lookup x=some c->c≠b
 bs:∀b o,X.base.get? b=some o->X.aX.heap.get? b=some o/\X.fL b=none
 fM:X.base.objs.size<=X.aX.heap.objs.size
 iZ:∀b o,X.base.get? b=some o->b∉X.ex
 i6:∀b∈X.ex,b∉X.fs
 dI:X.aX.heap.FunFrames X.base X.outer
 fO:∀b∈X.fs,X.fL b=none
structure Inv(X:Cx)(pins:List (Addr×Obj))(σ:List (Option V))(H:Hp)(s:Shared):Prop where
 ok:X.Ok
 os:s.os=X.aX.os
 bare:AllBare s.gens
 base:Un X.fs X.ex X.fL H X.aX.heap s.heap
 loc:∃m,s.heap.Ns X.env.locals m/\∀(i:Nat) (x:Str) (v:V),X.N[i]? = some x->σ[i]? = some (some v)->rX X.env.scope x->∃u,RelV v u/\Look X.env s.heap m x u
 cell:∀x c,X.env.cells.lookup x=some c->∃v,s.heap.IsCell c v
 free:H X.env.locals=none
 dJ:∀x c,X.env.cells.lookup x=some c->H c=none
 pin:∀p∈X.pn++pins,s.heap.get? p.1=some p.2/\H p.1=none/\p.1≠X.env.locals/\p.1∉X.fs/\∀v,p.2.data≠.cell v
 aB:bw X.prog X.w H s.heap
 len:σ.length=X.N.length
section
variable{X:Cx}{pins:List (Addr×Obj)}{σ:List (Option V)}{H H':Hp}{s:Shared}{h':Heap}
theorem Cx.Ok.DF(ok:X.Ok){b:Addr}{o:Obj}(e:X.base.get? b=some o):b∉X.fs:=λhb=>by
 have:=(ok.dI.mem hb).1;rw[e] at this;cases this
theorem Inv.bs(I:Inv X pins σ H s):∀b o,X.base.get? b=some o->s.heap.get? b=some o/\H b=none:=λb o e =>
 ⟨I.base.keep b o (I.ok.bs b o e).1 (I.ok.bs b o e).2 (I.ok.DF e) (I.ok.iZ b o e),I.base.free b o (I.ok.bs b o e).1 (I.ok.bs b o e).2 (I.ok.iZ b o e)⟩
theorem Inv.bk(I:Inv X pins σ H s):∀b o,X.base.get? b=some o->s.heap.get? b=some o:=λb o e=>(I.bs b o e).1
theorem Inv.mod(I:Inv X pins σ H s):Mod X.K X.mg X.base:=I.ok.mod
theorem Inv.bx(I:Inv X pins σ H s):X.K.In s.heap:=I.ok.mod.iX.keeps I.bk
theorem Inv.lt(I:Inv X pins σ H s):X.env.locals<s.heap.objs.size:=let ⟨_,hn,_⟩:=I.loc;hn.lt
theorem Inv.sz(I:Inv X pins σ H s):X.aX.heap.objs.size<=s.heap.objs.size:=Nat.le_trans I.ok.above (Nat.le_of_lt I.lt)
theorem Inv.DG(I:Inv X pins σ H s){a:Addr}(h:s.heap.objs.size<=a):a∉X.fs:=λhb=>by
 obtain⟨_,o,ho,_⟩:=I.ok.dI.mem hb;exact absurd (Nat.lt_of_lt_of_le (Heap.lt_size ho) (Nat.le_trans I.sz h)) (Nat.lt_irrefl _)
theorem Inv.fP(I:Inv X pins σ H s):∀x c,X.env.cells.lookup x=some c->c≠X.env.locals:=λx c e z=>by
 obtain⟨v,o,ho,hd⟩:=I.cell x c e;obtain⟨m,⟨o',es,ep,i7,gP,_⟩,_⟩:=I.loc;rw[z,i7] at ho;cases ho;rw[gP] at hd;cases hd
theorem Inv.dI(I:Inv X pins σ H s):s.heap.FunFrames X.base X.outer:=by
 have all:∀(l:List Env),(∀b∈bC l,b∈X.fs)->X.aX.heap.FunFrames X.base l->s.heap.FunFrames X.base l:=by
  intro l
  induction l with
  | nil=>intro _ _;trivial
  | cons env r ih =>
   intro hs hl;obtain⟨hk,⟨L,o,hf,hn,ho,hd⟩,hr⟩:=hl;have hL:L∈X.fs:=hs L (by unfold bC;rw[List.filterMap_cons,hf];exact List.mem_cons_self)
   obtain⟨sl,e⟩:=I.base.slot L o ho (I.ok.fO L hL) hL λz=>I.ok.i6 L z hL;exact⟨hk,⟨L,_,hf,hn,e,hd⟩,ih (λb hb=>hs b (by unfold bC;rw[List.filterMap_cons,hf];exact List.mem_cons_of_mem _ hb)) hr⟩
 exact all X.outer (λ_ hb=>hb) I.ok.dI
theorem Inv.stack(I:Inv X pins σ H s):s.heap.FunFrames X.base X.stack:=by
 rcases I.ok.jY with e | ⟨e,hf⟩
 ·rw[e];exact I.dI
 ·rw[e];obtain⟨m,hn,_⟩:=I.loc;refine .cons (by rw[I.ok.kind];decide) hf hn ?_ I.dI
  exact Heap.get?_none_of_le (Nat.le_trans I.ok.fM I.ok.above)
theorem Inv.rY(I:Inv X pins σ H s):∀b∈bC X.stack,b∈X.env.locals::X.fs:=λb hb=>by
 rcases I.ok.jY with e | ⟨e,hf⟩
 ·rw[e] at hb;exact List.mem_cons_of_mem _ hb
 ·rw[e] at hb;unfold bC at hb;rw[List.filterMap_cons,hf] at hb;exact hb
theorem Inv.rZ(I:Inv X pins σ H s):∀b∈bC X.stack,H b=none:=λb hb=>by
 rcases List.mem_cons.mp (I.rY b hb) with e | hb
 ·rw[e];exact I.free
 ·obtain⟨_,o,ho,_⟩:=I.ok.dI.mem hb;exact I.base.free b o ho (I.ok.fO b hb) λz=>I.ok.i6 b z hb
theorem Inv.step{g':Array GenState}{t':Nat}{d':Drawn}{ch:List Addr}(I:Inv X pins σ H s)
  (gn:∀b∈ch,(b∈X.ex\/X.aX.heap.objs.size<=b)/\b≠X.env.locals/\(∀x c,X.env.cells.lookup x=some c->c≠b)/\∀p∈X.pn++pins,p.1≠b)
  (keep:∀b o,b≠X.env.locals->b∉X.fs->b∉ch->s.heap.get? b=some o->H b=none->h'.get? b=some o)
  (slot:∀b o,b≠X.env.locals->b∈X.fs->b∉ch->s.heap.get? b=some o->H b=none->∃sl,h'.get? b=some { o with slots:=sl }) (free:∀b o,b∉ch->s.heap.get? b=some o->H b=none->H' b=none)
  (there:∀b o,b∉ch->s.heap.get? b=some o->∃o',h'.get? b=some o')
  (eo:∀b xs,H b=some (.tup xs)->H' b=some (.tup xs)) (dR:∀b o u,H b=some (.dm o u)->H' b=some (.dm o u)) (eu:∀b ps,H b=some (.ir ps)->∃more,H' b=some (.ir (ps++more)))
  (ns:∀m,s.heap.Ns X.env.locals m->h'.Ns X.env.locals m) (aB:bw X.prog X.w H' h') (hg:AllBare g') :
  Inv X pins σ H' { s with heap:=h',gens:=g',drawn:=d',toks:=t' }:=by
 have xG:∀b o,X.aX.heap.get? b=some o->b≠X.env.locals:=λb o e=>Nat.ne_of_lt (Nat.lt_of_lt_of_le (Heap.lt_size e) I.ok.above);have nR:∀b o,X.aX.heap.get? b=some o->b∉X.ex->b∉ch:=λb o e hx hb=>by
  rcases(gn b hb).1 with z | z
  ·exact hx z
  ·exact absurd (Nat.lt_of_lt_of_le (Heap.lt_size e) z) (Nat.lt_irrefl _)
 have cellK:∀x c,X.env.cells.lookup x=some c->∀v,s.heap.IsCell c v->h'.IsCell c v:=λx c e v ⟨o,ho,hd⟩=>by
  have kP:c∉ch:=λz=>(gn c z).2.2.1 x c e rfl;by_cases hc:c∈X.fs
  ·obtain⟨sl,q⟩:=slot c o (I.fP x c e) hc kP ho (I.dJ x c e);exact⟨_,q,hd⟩
  ·exact⟨o,keep c o (I.fP x c e) hc kP ho (I.dJ x c e),hd⟩
 refine⟨I.ok,I.os,hg,⟨λb o e n hb hx=>?_,λb o e n hb hx=>?_,λb o e n hx=>?_,λb o e hx=>?_,λb xs e=>eo b xs (I.base.eo b xs e),λb o xs e=>dR b o xs (I.base.dR b o xs e),λb ps e=>?_⟩,?_,λx c e=>?_,?_,λx c e=>?_,λp hp=>?_,aB,I.len⟩
 ·exact keep b o (xG b o e) hb (nR b o e hx) (I.base.keep b o e n hb hx) (I.base.free b o e n hx)
 ·obtain⟨sl,e1⟩:=I.base.slot b o e n hb hx;obtain⟨DH,e2⟩:=slot b _ (xG b o e) hb (nR b o e hx) e1 (I.base.free b o e n hx);exact⟨DH,e2⟩
 ·obtain⟨o',e1⟩:=I.base.there b o e hx;exact free b o' (nR b o e hx) e1 (I.base.free b o e n hx)
 ·obtain⟨o',e1⟩:=I.base.there b o e hx;exact there b o' (nR b o e hx) e1
 ·obtain⟨m1,e1⟩:=I.base.eu b ps e;obtain⟨m2,e2⟩:=eu b _ e1;exact⟨m1++m2,by rw[e2,Array.append_assoc]⟩
 ·obtain⟨m,hn,hl⟩:=I.loc;refine⟨m,ns m hn,λi x v e1 e2 e3=>?_⟩;obtain⟨u,r,l⟩:=hl i x v e1 e2 e3;refine⟨u,r,?_⟩;rcases l with l | ⟨k,c,e,z⟩
  ·exact .inl l
  ·exact .inr ⟨k,c,e,cellK x c e _ z⟩
 ·obtain⟨v,z⟩:=I.cell x c e;exact⟨v,cellK x c e v z⟩
 ·obtain⟨m,⟨o,_,_,ho,_⟩,_⟩:=I.loc;exact free _ o (λz=>(gn _ z).2.1 rfl) ho I.free
 ·obtain⟨v,o,ho,hd⟩:=I.cell x c e;exact free c o (λz=>(gn c z).2.2.1 x c e rfl) ho (I.dJ x c e)
 ·obtain⟨e,n,ne,nf,d⟩:=I.pin p hp;have kP:p.1∉ch:=λz=>(gn p.1 z).2.2.2 p hp rfl;exact⟨keep p.1 p.2 ne nf kP e n,free p.1 p.2 kP e n,ne,nf,d⟩
theorem Inv.un{t':Nat}(I:Inv X pins σ H s)(u:Un X.fs [] H H' s.heap h')(aB:bw X.prog X.w H' h'):Inv X pins σ H' { s with heap:=h',toks:=t' }:=by
 obtain⟨m,⟨o,es,ep,ho,r⟩,_⟩:=id I.loc;obtain⟨sl,hL⟩:=u.any ho I.free (by simp)
 exact I.step (g':=s.gens) (d':=s.drawn) (ch:=[]) (λ_ z=>nomatch z) (λb o _ hb _ e n=>u.keep b o e n hb (by simp)) (λb o _ hb _ e n=>u.slot b o e n hb (by simp)) (λb o _ e n=>u.free b o e n (by simp)) (λb o _ e=>u.there b o e (by simp)) u.eo u.dR u.eu (λm' hm=>by
  obtain⟨o',nT,r9,i7,r'⟩:=hm;rw[ho] at i7;cases i7;exact⟨_,nT,r9,hL,r'⟩) aB I.bare
theorem Inv.call{g':Array GenState}{t':Nat}{d':Drawn}{ch:List Addr}(I:Inv X pins σ H s)(u:Un (bC X.stack) ch H H' s.heap h')(aB:bw X.prog X.w H' h')(hg:AllBare g')
  (gn:∀b∈ch,(b∈X.ex\/X.aX.heap.objs.size<=b)/\b≠X.env.locals/\(∀x c,X.env.cells.lookup x=some c->c≠b)/\∀p∈X.pn++pins,p.1≠b) :
  Inv X pins σ H' { s with heap:=h',gens:=g',drawn:=d',toks:=t' }:=by
 obtain⟨m,⟨o,es,ep,ho,r⟩,_⟩:=id I.loc;obtain⟨sl,hL⟩:=u.any ho I.free λz=>(gn _ z).2.1 rfl;exact I.step (ch:=ch) gn (λb o hL hb hc e n=>u.keep b o e n (λz=>(List.mem_cons.mp (I.rY b z)).elim hL hb) hc) (λb o _ _ hc e n=>u.any e n hc) (λb o hc e n=>u.free b o e n hc) (λb o hc e=>u.there b o e hc) u.eo u.dR u.eu (λm' hm=>by
  obtain⟨o',nT,r9,i7,r'⟩:=hm;rw[ho] at i7;cases i7;exact⟨_,nT,r9,hL,r'⟩) aB hg
theorem Inv.turned{t':Nat}{it:Addr}(I:Inv X pins σ H s)(k:∀b o,b≠it->s.heap.get? b=some o->h'.get? b=some o)(hn:H it=none)(hL:it≠X.env.locals)
  (h1:it∈X.ex\/X.aX.heap.objs.size<=it) (h2:∀x c,X.env.cells.lookup x=some c->c≠it) (h3:∀p∈X.pn++pins,p.1≠it):Inv X pins σ H { s with heap:=h',toks:=t' }:=by
 have kQ:∀b u,H b=some u->b≠it:=λb u e z=>by rw[z,hn] at e;cases e
 refine I.step (g':=s.gens) (d':=s.drawn) (ch:=[it]) (λb hb=>?_) (λb o _ _ hc e _=>k b o (λz=>hc (by simp[z])) e) (λb o _ _ hc e _=>⟨o.slots,k b o (λz=>hc (by simp[z])) e⟩) (λ_ _ _ _ n=>n)
  (λb o hc e=>⟨o,k b o (λz=>hc (by simp[z])) e⟩) (λ_ _ e=>e) (λ_ _ _ e=>e) (λb ps e=>⟨#[],by rw[e];simp⟩) (λm hm=>?_) (λb u e=>?_) I.bare
 ·have e:b=it:=by simpa using hb
  subst e;exact⟨h1,hL,h2,h3⟩
 ·obtain⟨o,es,ep,ho,r⟩:=hm;exact⟨o,es,ep,k _ o (Ne.symm hL) ho,r⟩
 ·refine(I.aB b u e).fj (λc v hc q=>k c v ?_ q) (λ_ q=>q) λ_ _ q=>q;rcases hc with z | z
  ·rw[z];exact kQ b u e
  ·exact kQ c _ z
theorem Inv.tok(I:Inv X pins σ H s)(t:Nat):Inv X pins σ H { s with toks:=t }:=I.un (h':=s.heap) (t':=t) Un.refl I.aB
theorem Inv.kept{t':Nat}(I:Inv X pins σ H s)(k:∀b u,s.heap.get? b=some u->h'.get? b=some u):Inv X pins σ H { s with heap:=h',toks:=t' }:=I.un (Un.kept k) (I.aB.kept k)
theorem Inv.laid{a:Addr}{o:HO}{t':Nat}(I:Inv X pins σ H s)(k:∀b u,s.heap.get? b=some u->h'.get? b=some u)(hp:s.heap.objs.size<=a)(new:bu X.prog X.w (upd H a o) h' a o) :
  Inv X pins σ (upd H a o) { s with heap:=h',toks:=t' }:=I.un (Un.laid k hp (I.aB.fresh hp)) (I.aB.laid k hp new)
theorem Inv.write{x e:Addr}{o:HO}{t':Nat}(I:Inv X pins σ H s)(mu:kO (H x))(he:e=x\/H e=some (.own x))(k:∀b u,b≠e->s.heap.get? b=some u->h'.get? b=some u)(jX:∃u,h'.get? e=some u)
  (new:bu X.prog X.w (upd H x o) h' x o):Inv X pins σ (upd H x o) { s with heap:=h',toks:=t' }:=I.un (Un.write mu he k jX) (I.aB.write mu he k jX new)
theorem Inv.xH{xJ:List (Addr×Obj)}(I:Inv X pins σ H s)(h:∀p∈xJ,s.heap.get? p.1=some p.2/\H p.1=none/\p.1≠X.env.locals/\p.1∉X.fs/\∀v,p.2.data≠.cell v):Inv X xJ σ H s :=
 ⟨I.ok,I.os,I.bare,I.base,I.loc,I.cell,I.free,I.dJ,λp hp=>(List.mem_append.mp hp).elim (λz=>I.pin p (List.mem_append_left _ z)) (h p),I.aB,I.len⟩
theorem r_{N:List Str}(hN:N.Nodup){i j:Nat}{x:Str}(a:N[i]? = some x)(b:N[j]? = some x):i=j:=by
 obtain⟨h1,e1⟩:=List.getElem?_eq_some_iff.mp a;obtain⟨h2,e2⟩:=List.getElem?_eq_some_iff.mp b;exact(List.getElem_inj hN).mp (e1.trans e2.symm)
theorem DI{M:Model}{A:Around}{E:Value->Shared->Prop}{i:Nat}{x:Str}{v:V}{u:Value}{Q:Unit->Shared->Prop}(I:Inv X pins σ H s)(hN:X.N.Nodup)(hi:X.N[i]? = some x)(hx:Loc X.env.scope x)(r:RelV v u)
  (h:∀s',Inv X pins (σ.set i (some v)) H s'->(∃a,Heap.SameBut a s.heap s'.heap/\(a=X.env.locals\/X.env.cells.lookup x=some a))->Q () s') (hf:X.fn x=true\/X.env.scope.names.lookup x=some .local:=by first | exact .inl rfl | exact .inr rfl | assumption):wpAny M A (storeName X.env x u) Q E s:=by
 obtain⟨m,hn,hl⟩:=id I.loc;have kR:(X.env.scope.kind == .class || (X.env.scope.kind == .module && X.env.locals != X.env.globals))=false:=by rw[I.ok.kind];rfl
 have xK:i<σ.length:=by rw[I.len];exact(List.getElem?_eq_some_iff.mp hi).1
 have fP:=I.fP;have tracked:∀ {a:Addr} {h':Heap},(∃o,s.heap.get? a=some o/\H a=none)->Heap.SameBut a s.heap h'->bw X.prog X.w H h':=λ{a h'} ha hs b ob e=>by
  obtain⟨_,_,xM⟩:=ha;refine(I.aB b ob e).fj (λc w' hc q=>(hs.2 c ?_).trans q) (λ_ q=>q) λ_ _ q=>q;rintro rfl;rcases hc with rfl | hc
  ·rw[xM] at e;cases e
  ·rw[xM] at hc;cases hc
 rcases hx with hk | hk
 ·refine wpAny_storeName_local hk hn (λh' dU hs=>?_) kR;obtain⟨oL,_,_,iu,_⟩:=id hn;refine h _ ⟨I.ok,I.os,I.bare,⟨λb o e n hb hx=>?_,λb o e n hb hx=>?_,I.base.free,λb o e hx=>?_,I.base.eo,I.base.dR,I.base.eu⟩,⟨_,dU,λj y v' e1 e2 e3=>?_⟩,λy c e=>?_,I.free,I.dJ,λp hp=>?_,tracked ⟨oL,iu,I.free⟩ hs,by simpa using I.len⟩ ⟨_,hs,.inl rfl⟩
  ·exact(hs.2 b (Nat.ne_of_lt (Nat.lt_of_lt_of_le (Heap.lt_size e) I.ok.above))).trans (I.base.keep b o e n hb hx)
  ·obtain⟨sl,e1⟩:=I.base.slot b o e n hb hx;exact⟨sl,(hs.2 b (Nat.ne_of_lt (Nat.lt_of_lt_of_le (Heap.lt_size e) I.ok.above))).trans e1⟩
  ·obtain⟨o',e1⟩:=I.base.there b o e hx;exact⟨o',(hs.2 b (Nat.ne_of_lt (Nat.lt_of_lt_of_le (Heap.lt_size e) I.ok.above))).trans e1⟩
  ·by_cases hj:j=i
   ·subst hj;rw[hi] at e1;cases e1;rw[List.getElem?_set_self xK] at e2;cases e2;exact⟨u,r,.inl ⟨hk,by simp⟩⟩
   ·rw[List.getElem?_set_ne (Ne.symm hj)] at e2;obtain⟨u',r',q⟩:=hl j y v' e1 e2 e3;refine⟨u',r',?_⟩;rcases q with⟨k,e⟩ | ⟨k,c,e,z⟩
    ·refine .inl ⟨k,?_⟩;have:y≠x:=λe=>hj (r_ hN e1 (e▸hi));simp[this,e]
    ·exact .inr ⟨k,c,e,z.sameBut hs (fP y c e)⟩
  ·obtain⟨w',z⟩:=I.cell y c e;exact⟨w',z.sameBut hs (fP y c e)⟩
  ·obtain⟨e,n,ne,nf,d⟩:=I.pin p hp;exact⟨(hs.2 p.1 ne).trans e,n,ne,nf,d⟩
 ·have se:X.fn x=true:=by
   rcases hf with z | z
   ·exact z
   ·rw[z] at hk;cases hk
  obtain⟨c,hc⟩:=I.ok.has x (.inl hk);obtain⟨w',z⟩:=I.cell x c hc;refine wpAny_storeName_cell I.ok.kind hk hc z (λh' kU hs=>?_);obtain⟨oc,xN,DJ⟩:=id z;refine h { s with heap:=h' } ⟨I.ok,I.os,I.bare,⟨λb o e n hb hx=>?_,λb o e n hb hx=>?_,I.base.free,λb o e hx=>?_,I.base.eo,I.base.dR,I.base.eu⟩,⟨m,hn.sameBut hs (Ne.symm (fP x c hc)),λj y v' e1 e2 e3=>?_⟩,λy c' e=>?_,I.free,I.dJ,λp hp=>?_,tracked ⟨oc,xN,I.dJ x c hc⟩ hs,by simpa using I.len⟩ ⟨c,hs,.inr hc⟩
  ·exact(hs.2 b (Nat.ne_of_lt (Nat.lt_of_lt_of_le (Heap.lt_size e) (I.ok.iY x c se hc)))).trans (I.base.keep b o e n hb hx)
  ·obtain⟨sl,e1⟩:=I.base.slot b o e n hb hx;exact⟨sl,(hs.2 b (Nat.ne_of_lt (Nat.lt_of_lt_of_le (Heap.lt_size e) (I.ok.iY x c se hc)))).trans e1⟩
  ·obtain⟨o',e1⟩:=I.base.there b o e hx;exact⟨o',(hs.2 b (Nat.ne_of_lt (Nat.lt_of_lt_of_le (Heap.lt_size e) (I.ok.iY x c se hc)))).trans e1⟩
  ·by_cases hj:j=i
   ·subst hj;rw[hi] at e1;cases e1;rw[List.getElem?_set_self xK] at e2;cases e2;exact⟨u,r,.inr ⟨.inl hk,c,hc,kU⟩⟩
   ·rw[List.getElem?_set_ne (Ne.symm hj)] at e2;obtain⟨u',r',q⟩:=hl j y v' e1 e2 e3;refine⟨u',r',?_⟩;rcases q with q | ⟨k,c',e,z'⟩
    ·exact .inl q
    ·refine .inr ⟨k,c',e,z'.sameBut hs ?_⟩;rintro rfl;exact hj (r_ hN e1 (I.ok.inj _ _ _ e hc▸hi))
  ·by_cases nU:c' = c
   ·subst nU;exact⟨_,kU⟩
   ·obtain⟨w2,z2⟩:=I.cell y c' e;exact⟨w2,z2.sameBut hs nU⟩
  ·obtain⟨e,n,ne,nf,d⟩:=I.pin p hp;refine⟨(hs.2 p.1 ?_).trans e,n,ne,nf,d⟩;intro q;rw[q,xN] at e;have q':oc=p.2:=Option.some.inj e;exact d w' (by rw[← q'];exact DJ)
theorem sf{M:Model}{A:Around}{E:Value->Shared->Prop}{i:Nat}{x:Str}{v:V}{u:Value}{Q:Unit->Shared->Prop}(I:Inv X pins σ H s)(hN:X.N.Nodup)(hi:X.N[i]? = some x)(hx:Loc X.env.scope x)(r:RelV v u)
  (h:∀s',Inv X pins (σ.set i (some v)) H s'->Q () s') (hf:X.fn x=true\/X.env.scope.names.lookup x=some .local:=by first | exact .inl rfl | exact .inr rfl | assumption):wpAny M A (storeName X.env x u) Q E s :=
 DI I hN hi hx r (λs' I' _=>h s' I') hf
theorem Inv.xO{s':Shared}{ch:List Addr}(I:Inv X pins σ H s)(ho:s'.os=s.os)(u:Un (bC X.stack) ch H H' s.heap s'.heap)(aB:bw X.prog X.w H' s'.heap)(hg:AllBare s'.gens)
  (gn:∀b∈ch,(b∈X.ex\/X.aX.heap.objs.size<=b)/\b≠X.env.locals/\(∀x c,X.env.cells.lookup x=some c->c≠b)/\∀p∈X.pn++pins,p.1≠b):Inv X pins σ H' s':=by
 obtain⟨h',g',d',t',o'⟩:=s';have e:o' = s.os:=ho;subst e;exact I.call (g':=g') (t':=t') (d':=d') u aB hg gn
end
noncomputable abbrev XK:=Value->Option Addr->Hp->Prop
noncomputable abbrev St:=List (Option V)
noncomputable abbrev VK:=V->Hp->Prop
noncomputable abbrev TE:=St->Hp->VK->Prop
noncomputable abbrev TT:=St->Hp->(Bool->Hp->Prop)->Prop
noncomputable abbrev TA:=St->Hp->(List V->Hp->Prop)->Prop
structure Ends where
 nx:St->Hp->Prop
 rt:VK
 bk:St->Hp->Prop:=λ_ _=>False
 ct:St->Hp->Prop:=λ_ _=>False
noncomputable abbrev TS:=Ends->St->Hp->Prop
noncomputable def EP(X:Cx)(pins:List (Addr×Obj))(σ:St)(Q:VK)(u:Value)(s':Shared):Prop:=∃v H',Inv X pins σ H' s'/\RelV v u/\Q v H'
noncomputable def TP(X:Cx)(pins:List (Addr×Obj))(σ:St)(Q:Bool->Hp->Prop)(b:Bool)(s':Shared):Prop:=∃H',Inv X pins σ H' s'/\Q b H'
noncomputable def AP(X:Cx)(pins:List (Addr×Obj))(σ:St)(Q:List V->Hp->Prop)(us:List Value)(s':Shared):Prop:=∃vs H',Inv X pins σ H' s'/\Vals vs us/\Q vs H'
noncomputable def SP(X:Cx)(pins:List (Addr×Obj))(D:Ends)(f:Flow)(s':Shared):Prop :=
 match f with
 | .next=>∃aL H',Inv X pins aL H' s'/\D.nx aL H'
 | .brk=>∃aL H',Inv X pins aL H' s'/\D.bk aL H'
 | .cont=>∃aL H',Inv X pins aL H' s'/\D.ct aL H'
 | .ret u=>∃v aL H',Inv X pins aL H' s'/\RelV v u/\D.rt v H'
noncomputable def PE(X:Cx)(e:Expr)(t:TE):Prop :=
 ∀(pins:List (Addr×Obj)) (s:Shared) (σ:St) (H:Hp) (Q:VK),Inv X pins σ H s->t σ H Q->wpAny (model X.prog X.w) X.A (eval e X.env) (EP X pins σ Q) X.xe s
noncomputable def PT(X:Cx)(e:Expr)(t:TT):Prop :=
 ∀(pins:List (Addr×Obj)) (s:Shared) (σ:St) (H:Hp) (Q:Bool->Hp->Prop),Inv X pins σ H s->t σ H Q->wpAny (model X.prog X.w) X.A (isTrue e X.env (eval e X.env)) (TP X pins σ Q) X.xe s
noncomputable def PW(X:Cx)(e:Expr)(t:TT):Prop :=
 ∀(whole:Sem Value) (pins:List (Addr×Obj)) (s:Shared) (σ:St) (H:Hp) (Q:Bool->Hp->Prop),Inv X pins σ H s->t σ H Q->wpAny (model X.prog X.w) X.A (isTrue e X.env whole) (TP X pins σ Q) X.xe s
theorem PW.pt{X:Cx}{e:Expr}{t:TT}(h:PW X e t):PT X e t:=h _
noncomputable def PA(X:Cx)(es:List Expr)(t:TA):Prop :=
 ∀(pos:Pos) (pins:List (Addr×Obj)) (s:Shared) (σ:St) (H:Hp) (Q:List V->Hp->Prop),Inv X pins σ H s->t σ H Q->wpAny (model X.prog X.w) X.A (spliced (backTo pos (starEach es X.env))) (AP X pins σ Q) X.xe s
noncomputable def PS(X:Cx)(st:Stmt)(t:TS):Prop :=
 ∀(pins:List (Addr×Obj)) (s:Shared) (σ:St) (H:Hp) (D:Ends),Inv X pins σ H s->t D σ H->wpAny (model X.prog X.w) X.A (exec st X.env) (SP X pins D) X.xe s
noncomputable def dw(X:Cx)(st:List Stmt)(t:TS):Prop :=
 ∀(pins:List (Addr×Obj)) (s:Shared) (σ:St) (H:Hp) (D:Ends),Inv X pins σ H s->t D σ H->wpAny (model X.prog X.w) X.A (execs st X.env) (SP X pins D) X.xe s
theorem aI{α:Type}{t:Sem α}{Q Q':α->Shared->Prop}{M:Model}{A:Around}{E:Value->Shared->Prop}{s:Shared}(h:wpAny M A t Q E s)(hQ:∀a s,Q a s->Q' a s):wpAny M A t Q' E s:=wpAny_mono h hQ λ_ _ x=>x
section
variable{X:Cx}
noncomputable def xP(i:Nat):TE:=λσ H Q=>∃v,σ[i]? = some (some v)/\Q v H
noncomputable def tC(v:V):TE:=λ_ H Q=>Q v H
theorem DK{i:Nat}{x:Str}{pos:Pos}(hN:X.N[i]? = some x)(hv:rX X.env.scope x)(hd:(x == ("__debug__" : Str))=false:=by decide)(bR:(x == ("__classdict__" : Str))=false:=by decide):PE X (.Name x pos) (xP i):=by
 intro pins s σ H Q I h;obtain⟨v,e,h⟩:=h;obtain⟨m,hn,hl⟩:=I.loc;obtain⟨u,r,l⟩:=hl i x v hN e hv;have fin:EP X pins σ Q u s:=⟨v,H,I,r,h⟩;rcases l with⟨hk,hm⟩ | ⟨hk,c,hc,xQ⟩
 ·exact wpAny_Name (wpAny_loadName_local I.ok.kind hk hn hm fin) hd
 ·rcases hk with hk | hk
  ·exact wpAny_Name (wpAny_loadName_cell I.ok.kind hk hc xQ fin) hd
  ·exact wpAny_Name (wpAny_loadName_free I.ok.kind hk hc xQ fin bR) hd
theorem aq{i j pos}:PE X (.Constant (.int i) j pos) (tC (.int i)):=λ_ _ _ H _ I h=>wpAny_Constant_int ⟨.int i,H,I.tok _,⟨_,rfl⟩,h⟩
theorem fq{b j pos}:PE X (.Constant (.bool b) j pos) (tC (.bl b)):=λ_ _ _ H _ I h=>Constant_bool ⟨.bl b,H,I,rfl,h⟩
theorem nW{j pos}:PE X (.Constant .none j pos) (tC .aC):=λ_ _ _ H _ I h=>Constant_none ⟨.aC,H,I,rfl,h⟩
noncomputable def Gl(X:Cx)(x:Str):Prop:=X.env.kindOf x=some .globalImplicit
theorem j0{E:Value->Shared->Prop}{pins:List (Addr×Obj)}{s:Shared}{σ:St}{H:Hp}{x:Str}{u:Value}{pos:Pos}{Q:Value->Shared->Prop}(I:Inv X pins σ H s)(hg:Gl X x)(hm:X.mg x=some u)(h:Q u s)
  (hd:(x == ("__debug__" : Str))=false:=by decide):wpAny (model X.prog X.w) X.A (eval (.Name x pos) X.env) Q E s :=
 Calls.Name_function_global I.ok.kind hg (Calls.loadGlobal_global (by rw[I.ok.glob];exact I.mod.glob.keeps I.bk) hm h) hd
theorem iw{E:Value->Shared->Prop}{pins:List (Addr×Obj)}{s:Shared}{σ:St}{H:Hp}{x:Str}{u:Value}{pos:Pos}{Q:Value->Shared->Prop}(I:Inv X pins σ H s)(hg:Gl X x)(hm:X.mg x=none)(hv:bootBuiltins x=some u)(h:Q u s)
  (hn:x≠"__name__" := by decide) (hd:(x == ("__debug__" : Str))=false:=by decide):wpAny (model X.prog X.w) X.A (eval (.Name x pos) X.env) Q E s:=by
 obtain⟨mb,h1,h2⟩:=I.mod.blt;exact Calls.Name_function_global I.ok.kind hg (Calls.loadGlobal_builtin (by rw[I.ok.glob];exact I.mod.glob.keeps I.bk) hm (by rw[I.ok.blt];exact h1.keeps I.bk) ((h2 x hn).trans hv) h) hd
theorem fQ{x:Str}{v:V}{u:Value}{pos:Pos}(hg:Gl X x)(hm:X.mg x=some u)(r:RelV v u)(hd:(x == ("__debug__" : Str))=false:=by decide):PE X (.Name x pos) (tC v) :=
 λ_ _ _ H _ I h=>j0 I hg hm ⟨v,H,I,r,h⟩ hd
theorem eB{x:Str}{v:V}{u:Value}{pos:Pos}(hg:Gl X x)(hm:X.mg x=none)(hv:bootBuiltins x=some u)(r:RelV v u)(hn:x≠"__name__" := by decide)(hd:(x == ("__debug__" : Str))=false:=by decide):PE X (.Name x pos) (tC v) :=
 λ_ _ _ H _ I h=>iw I hg hm hv ⟨v,H,I,r,h⟩ hn hd
variable{a b:Expr}{ta tb:TE}{pos:Pos}
noncomputable def PC(X:Cx)(op:CmpOp)(a b:Expr)(t:TE):Prop :=
 ∀(pins:List (Addr×Obj)) (s:Shared) (σ:St) (H:Hp) (Q:VK),Inv X pins σ H s->t σ H Q->
  wpAny (model X.prog X.w) X.A (eval a X.env) (λv aM=>wpAny (model X.prog X.w) X.A (eval b X.env) (λu dM=>wpAny (model X.prog X.w) X.A (compareOp op v u) (EP X pins σ Q) X.xe dM) X.xe aM) X.xe s
noncomputable def tB(t:TE):TT:=λσ H Q=>t σ H λx H1=>∃c,x = .bl c/\Q c H1
theorem i8{e:Expr}{t:TE}(h:PE X e t)(he:∀whole,isTrue e X.env whole=(do let v ← whole;standAt e.pos;holding [v] (truthy v)):=by intro _;rfl):PT X e (tB t):=by
 intro pins s σ H Q I hw;refine isTrue_plain (aI (h pins s σ H _ I hw) λv s1 ⟨x,H1,I1,r1,q1⟩=>?_) (he _);obtain⟨d,rfl,q⟩:=q1;cases r1;exact wpAny_truthy_bool ⟨H1,I1,q⟩
variable{tA xR:TT}{rest:List Expr}
noncomputable def Nv(t u:TT):TT:=λσ H Q=>t σ H λc H1=>if c=true then u σ H1 Q else Q false H1
noncomputable def DL(t u:TT):TT:=λσ H Q=>t σ H λc H1=>if c=true then Q true H1 else u σ H1 Q
noncomputable def DM(t:TT):TT:=λσ H Q=>t σ H λc H1=>Q (!c) H1
theorem fR(ha:PT X a tA):PW X (.BoolOp .Or [a] pos) tA:=by
 intro wh pins s σ H Q I h;refine isTrue_or (aI (ha pins s σ H Q I h) λc s1 e=>?_);cases c with
 | false=>exact isTrue_or_nil e
 | true=>exact e
theorem fS(ha:PT X a tA)(hb:PW X (.BoolOp .Or (b::rest) pos) xR):PW X (.BoolOp .Or (a::b::rest) pos) (DL tA xR):=by
 intro wh pins s σ H Q I h;refine isTrue_or (aI (ha pins s σ H _ I h) λc s1 ⟨H1,I1,q1⟩=>?_);cases c with
 | true=>exact⟨H1,I1,q1⟩
 | false=>exact hb wh pins s1 σ H1 Q I1 q1
theorem j3(ha:PT X a tA):PT X (.UnaryOp .Not a pos) (DM tA):=by
 intro pins s σ H Q I h;exact isTrue_not (ha pins s σ H (λc H1=>Q (!c) H1) I h)
noncomputable def DN(ta tb:TE):TE:=λσ H Q=>ta σ H λx H1=>∃c,x = .bl c/\if c=true then tb σ H1 Q else Q (.bl false) H1
noncomputable def Nx(ta tb:TE):TE:=λσ H Q=>ta σ H λx H1=>∃c,x = .bl c/\if c=true then Q (.bl true) H1 else tb σ H1 Q
noncomputable def DO(ta:TE):TE:=λσ H Q=>ta σ H λx H1=>∃c,x = .bl c/\Q (.bl (!c)) H1
theorem nX{op}{t:TE}(h:PE X a t):PE X (.BoolOp op [a] pos) t:=λpins s σ H Q I hw=>BoolOp_one (h pins s σ H Q I hw)
theorem j4(ha:PE X a ta)(hb:PE X (.BoolOp .And (b::rest) pos) tb):PE X (.BoolOp .And (a::b::rest) pos) (DN ta tb):=by
 intro pins s σ H Q I h;refine BoolOp_and (aI (ha pins s σ H _ I h) λv s1 ⟨x,H1,I1,r1,q1⟩=>?_);obtain⟨c,rfl,q1⟩:=q1;cases r1;refine wpAny_truthy_bool ?_;cases c with
 | true=>exact hb pins s1 σ H1 Q I1 q1
 | false=>exact⟨.bl false,H1,I1,rfl,q1⟩
theorem xS(ha:PE X a ta):PE X (.UnaryOp .Not a pos) (DO ta):=by
 intro pins s σ H Q I h;refine UnaryOp_ (aI (ha pins s σ H _ I h) λv s1 ⟨x,H1,I1,r1,q1⟩=>?_);obtain⟨c,rfl,q1⟩:=q1;cases r1;exact not_of (wpAny_truthy_bool ⟨.bl (!c),H1,I1,rfl,q1⟩)
noncomputable def Ny(t:TT)(ta tb:TE):TE:=λσ H Q=>t σ H λc H1=>if c=true then ta σ H1 Q else tb σ H1 Q
end
noncomputable def aD(K:PySem.W.Frag)(H:Hp)(a:Addr)(xs:List V):Prop :=
 Rd H a (.lst xs)\/
  ∃(o:Obj) (au:Array Value) (n:Nat),K.lookup a=some o/\o.cls = .type "list"/\o.dict=none/\o.data = .seq au n/\au.size<=sizeLine/\Vals xs au.toList
noncomputable def bV(K:PySem.W.Frag)(H:Hp)(a:Addr)(xs:List V):Prop :=
 Rd H a (.tup xs)\/
  ∃(o:Obj) (au:Array Value) (n:Nat),K.lookup a=some o/\o.cls = .type "tuple"/\o.data = .seq au n/\au.size<=sizeLine/\Vals xs au.toList
noncomputable def DP:Value->Option V
 | .none=>some .aC
 | .bool b=>some (.bl b)
 | .int i _=>some (.int i)
 | .str x _=>some (.str x)
 | .bytes b _=>some (.fh b)
 | .float b _=>some (.ig b)
 | .ref a=>some (.ref a)
 | .type n=>some (.ty n)
 | _=>none
theorem RelV.abs{x:V}{u:Value}(r:RelV x u):DP u=some x:=by
 cases x with
 | aC=>cases r;rfl
 | bl _=>cases r;rfl
 | int _=>obtain⟨t,rfl⟩:=r;rfl
 | str _=>obtain⟨t,rfl⟩:=r;rfl
 | fh _=>obtain⟨t,rfl⟩:=r;rfl
 | ig _=>obtain⟨t,rfl⟩:=r;rfl
 | ref _=>cases r;rfl
 | ty _=>cases r;rfl
theorem RelV.inj{x y:V}{u:Value}(r:RelV x u)(q:RelV y u):x=y:=Option.some.inj (r.abs.symm.trans q.abs)
theorem Vals.inj:∀ {xs ys:List V} {us:List Value},Vals xs us->Vals ys us->xs=ys
 | _,_,_,.nil,.nil=>rfl
 | _,_,_,.cons r t,.cons r' t'=>by rw[r.inj r',Vals.inj t t']
section
variable{X:Cx}{pins:List (Addr×Obj)}{σ:St}{H:Hp}{s:Shared}{a:Addr}{xs ys:List V}
theorem aD.of{K:PySem.W.Frag}(h:H a=some (.lst xs)):aD K H a xs:=.inl (.inl h)
theorem bV.of{K:PySem.W.Frag}(h:H a=some (.tup xs)):bV K H a xs:=.inl (.inl h)
theorem Inv.list(I:Inv X pins σ H s)(h:aD X.K H a xs):∃au:List Value,Vals xs au/\PlainL s.heap a au.toArray/\xs.length<=sizeLine:=by
 rcases h with h | ⟨o,au,n,hk,hc,hd,hs,hz,r⟩
 ·obtain⟨z,au,n,r,e⟩:=h.ok I.aB;exact⟨au,r,⟨_,n,e,rfl,rfl,rfl⟩,z⟩
 ·refine⟨au.toList,r,⟨o,n,I.bx a o hk,hc,hd,by simpa using hs⟩,?_⟩
  have e:=r.length;simp only[Array.length_toList] at e;lia
theorem Inv.tuple(I:Inv X pins σ H s)(h:bV X.K H a xs):∃au:List Value,Vals xs au/\IsTup s.heap a au.toArray/\xs.length<=sizeLine:=by
 rcases h with h | ⟨o,au,n,hk,hc,hs,hz,r⟩
 ·obtain⟨z,au,r,p⟩:=h.ok I.aB;exact⟨au,r,p,z⟩
 ·refine⟨au.toList,r,⟨o,I.bx a o hk,hc,n,by simpa using hs⟩,?_⟩
  have e:=r.length;simp only[Array.length_toList] at e;lia
theorem Inv.xT(I:Inv X pins σ H s)(h:aD X.K H a xs)(h':aD X.K H a ys):xs=ys:=by
 obtain⟨au,r,⟨o,n,e,_,_,d⟩,_⟩:=I.list h;obtain⟨its',r',⟨o',n',e',_,_,d'⟩,_⟩:=I.list h';rw[e] at e';cases e';rw[d] at d';injection d' with d1 _;have:au=its':=by simpa using congrArg Array.toList d1
 subst this;exact r.inj r'
end
noncomputable abbrev Cx.fu(X:Cx)(E:Value->Shared->Prop):Cx:={ X with xe:=E }
noncomputable abbrev Cx.iy(X:Cx):Cx:=X.fu λ_ _=>False
theorem Cx.Ok.fu{X:Cx}(ok:X.Ok)(E:Value->Shared->Prop):(X.fu E).Ok :=
 ⟨ok.mod,ok.kind,ok.glob,ok.blt,ok.above,ok.inj,ok.has,ok.iY,ok.hd,ok.frames,ok.jY,ok.jZ,ok.bs,ok.fM,ok.iZ,ok.i6,ok.dI,ok.fO⟩
theorem Cx.Ok.gq{X:Cx}{E:Value->Shared->Prop}(ok:(X.fu E).Ok):X.Ok :=
 ⟨ok.mod,ok.kind,ok.glob,ok.blt,ok.above,ok.inj,ok.has,ok.iY,ok.hd,ok.frames,ok.jY,ok.jZ,ok.bs,ok.fM,ok.iZ,ok.i6,ok.dI,ok.fO⟩
section
variable{X:Cx}{pins:List (Addr×Obj)}{σ:St}{H:Hp}{s:Shared}{E:Value->Shared->Prop}
theorem Inv.fu(I:Inv X pins σ H s)(E:Value->Shared->Prop):Inv (X.fu E) pins σ H s:=⟨I.ok.fu E,I.os,I.bare,I.base,I.loc,I.cell,I.free,I.dJ,I.pin,I.aB,I.len⟩
theorem Inv.gq(I:Inv (X.fu E) pins σ H s):Inv X pins σ H s:=⟨I.ok.gq,I.os,I.bare,I.base,I.loc,I.cell,I.free,I.dJ,I.pin,I.aB,I.len⟩
theorem SP.gq{D:Ends}{f:Flow}{s':Shared}(h:SP (X.fu E) pins D f s'):SP X pins D f s':=by
 cases f with
 | next=>obtain⟨aL,H',I,q⟩:=h;exact⟨aL,H',I.gq,q⟩
 | brk=>obtain⟨aL,H',I,q⟩:=h;exact⟨aL,H',I.gq,q⟩
 | cont=>obtain⟨aL,H',I,q⟩:=h;exact⟨aL,H',I.gq,q⟩
 | ret u=>obtain⟨v,aL,H',I,r,q⟩:=h;exact⟨v,aL,H',I.gq,r,q⟩
theorem dw.iy{st:List Stmt}{t:TS}(h:dw X.iy st t):dw X st t:=λpins s σ H D I hw =>
 wpAny_mono (h pins s σ H D (I.fu _) hw) (λ_ _ q=>q.gq) λ_ _ z=>False.elim z
end
section
variable{X:Cx}{st:Stmt}{rest:List Stmt}{t u:TS}{e:Expr}{te:TE}{pos:Pos}
noncomputable def DQ:TS:=λD σ H=>D.nx σ H
noncomputable def nY(t u:TS):TS:=λD σ H=>t { D with nx:=u D } σ H
theorem bH:dw X [] DQ:=λ_ _ σ H _ I h=>wpAny_execs_nil ⟨σ,H,I,h⟩
theorem aH(h1:PS X st t)(h2:dw X rest u):dw X (st::rest) (nY t u):=by
 intro pins s σ H D I h;refine wpAny_execs_cons (aI (h1 pins s σ H { D with nx:=u D } I h) λf s1 q=>?_);cases f with
 | next =>
  obtain⟨aL,H',I',q⟩:=q;exact h2 pins s1 aL H' D I' q
 | ret v=>exact q
 | brk=>exact q
 | cont=>exact q
theorem aN(h1:PS X st t):dw X [st] t:=by
 intro pins s σ H D I h;refine wpAny_execs_cons (aI (h1 pins s σ H D I h) λf s1 q=>?_);cases f with
 | next=>exact wpAny_execs_nil q
 | ret v=>exact q
 | brk=>exact q
 | cont=>exact q
theorem Inv.quiet{pins:List (Addr×Obj)}{σ:St}{H:Hp}{s:Shared}(I:Inv X pins σ H s):interactive X.env=false:=by simp[interactive,I.ok.kind]
noncomputable def xU(te:TE):TS:=λD σ H=>te σ H λ_ H1=>D.nx σ H1
theorem fT(he:PE X e te)(hs:swapsWith e none pos.line X.env=pure false:=by rfl):PS X (.Expr e pos) (xU te):=by
 intro pins s σ H D I h;exact wpAny_Expr_any (aI (he pins s σ H _ I h) λv s1 ⟨x,H1,I1,r1,q1⟩=>⟨σ,H1,I1,q1⟩) I.quiet hs
noncomputable def DR(te:TE):TS:=λD σ H=>te σ H D.rt
theorem bF(he:PE X e te):PS X (.Return (some e) pos) (DR te):=by
 intro pins s σ H D I h;exact wpAny_Return_some (aI (he pins s σ H _ I h) λv s1 ⟨x,H1,I1,r1,q1⟩=>⟨x,σ,H1,I1,r1,q1⟩)
noncomputable def Nz:TS:=λD _ H=>D.rt .aC H
noncomputable def DS(c:TT)(t u:TS):TS:=λD σ H=>c σ H λb H1=>if b=true then t D σ H1 else u D σ H1
theorem bI{c:Expr}{a b:List Stmt}{tc:TT}(hc:PT X c tc)(ha:dw X a t)(hb:dw X b u):PS X (.If c a b pos) (DS tc t u):=by
 intro pins s σ H D I h;refine wpAny_If (aI (hc pins s σ H _ I h) λd s1 ⟨H1,I1,q1⟩=>?_);cases d with
 | true=>exact ha pins s1 σ H1 D I1 q1
 | false=>exact hb pins s1 σ H1 D I1 q1
noncomputable def DT:TS:=λ_ _ _=>False
theorem fy{DU:List Stmt}:dw X DU DT:=λ_ _ _ _ _ _ h=>h.elim
end
noncomputable abbrev TG:=V->St->Hp->(St->Hp->Prop)->Prop
noncomputable abbrev i9:=List V->St->Hp->(St->Hp->Prop)->Prop
noncomputable def PG(X:Cx)(target:Expr)(t:TG):Prop :=
 ∀(pins:List (Addr×Obj)) (s:Shared) (σ:St) (H:Hp) (v:V) (u:Value) (Q:St->Hp->Prop),Inv X pins σ H s->RelV v u->t v σ H Q->
  wpAny (model X.prog X.w) X.A (assign target X.env u) (λ_ s'=>∃aL H',Inv X pins aL H' s'/\Q aL H') X.xe s
noncomputable def kW(X:Cx)(ts:List Expr)(t:i9):Prop :=
 ∀(pins:List (Addr×Obj)) (s:Shared) (σ:St) (H:Hp) (vs:List V) (us:List Value) (Q:St->Hp->Prop),Inv X pins σ H s->Vals vs us->t vs σ H Q->
  wpAny (model X.prog X.w) X.A (assignInOrder ((assignEach ts X.env).map (·.2)) us) (λ_ s'=>∃aL H',Inv X pins aL H' s'/\Q aL H') X.xe s
noncomputable abbrev DV:=V->V->V->Hp->(Hp->Prop)->Prop
section
variable{X:Cx}{pos:Pos}
noncomputable def nZ(i:Nat):TG:=λv σ H Q=>Q (σ.set i (some v)) H
theorem bS{i:Nat}{x:Str}(hN:X.N.Nodup)(hi:X.N[i]? = some x)(hx:Loc X.env.scope x)(hf:X.fn x=true\/X.env.scope.names.lookup x=some .local:=by first | exact .inl rfl | exact .inr rfl | assumption):PG X (.Name x pos) (nZ i):=by
 intro pins s σ H v u Q I r h;exact wpAny_assign_Name (sf I hN hi hx r (λs' I'=>⟨_,H,I',h⟩) hf)
noncomputable def xV:i9:=λvs σ H Q=>vs = []/\Q σ H
noncomputable def sr(t:TG)(u:i9):i9:=λvs σ H Q=>∃v r,vs=v::r/\t v σ H λaL H'=>u r aL H' Q
theorem i_:kW X [] xV:=by
 intro pins s σ H vs us Q I r h;obtain⟨e,h⟩:=h;subst e;cases r;exact assignInOrder_nil ⟨σ,H,I,h⟩
theorem eE{e:Expr}{es:List Expr}{t:TG}{u:i9}(h1:PG X e t)(h2:kW X es u)
  (hs:(assignEach (e::es) X.env).map (·.2)=assign e X.env::(assignEach es X.env).map (·.2):=by rfl):kW X (e::es) (sr t u):=by
 intro pins s σ H vs us Q I r h;obtain⟨v,vr,e1,h⟩:=h;subst e1;cases r with
 | cons r rr =>
  rw[hs];refine assignInOrder_cons (aI (h1 pins s σ H _ _ _ I r h) λ_ s1 ⟨n_,H1,I1,q1⟩=>?_);exact h2 pins s1 n_ H1 _ _ Q I1 rr q1
noncomputable def xW(K:PySem.W.Frag)(n:Nat)(t:i9):TG:=λv σ H Q=>∃a xs,v = .ref a/\bV K H a xs/\xs.length=n/\t xs σ H Q
theorem jc{es:List Expr}{k:Nat}{t:i9}{n:Nat}(hc:X.calm=true)(h:kW X es t)
  (hn:(assignEach es X.env).length=n:=by rfl) (fU:(assignEach es X.env).findIdx? (·.1)=none:=by rfl):PG X (.Tuple es k pos) (xW X.K n t):=by
 intro pins s σ H v u Q I r hw;obtain⟨a,xs,e1,hq,hl,hw⟩:=hw;subst e1;cases r;obtain⟨au,rv,ht,hz⟩:=I.tuple hq;refine assign_Tuple_tuple (I.ok.hd hc) ht (by simp[hn,← hl,rv.length]) fU λh' hx=>?_
 have I1:Inv X pins σ H { s with heap:=h' }:=I.kept (t':=s.toks) λb o e=>hx b o (Nat.ne_of_lt (Heap.lt_size e)) e;exact h pins _ σ H xs _ Q I1 (by simpa using rv) hw
noncomputable def NB(to ti:TE)(t:DV):TG:=λv σ H Q=>to σ H λo H1=>ti σ H1 λi H2=>t o i v H2 λH3=>Q σ H3
noncomputable def DW(te:TE)(g:TG):TS:=λD σ H=>te σ H λx H1=>g x σ H1 D.nx
theorem bJ{i:Nat}{x:Str}{e:Expr}{te:TE}{pos':Pos}(hN:X.N.Nodup)(hi:X.N[i]? = some x)(hx:Loc X.env.scope x)(he:PE X e te)(hs:swapsWith e (some (.Name x pos')) pos.line X.env=pure false:=by rfl)(hf:X.fn x=true\/X.env.scope.names.lookup x=some .local:=by first | exact .inl rfl | exact .inr rfl | assumption) :
  PS X (.Assign [.Name x pos'] e pos) (DW te (nZ i)):=by
 intro pins s σ H D I h;refine wpAny_Assign_Name (aI (he pins s σ H _ I h) λv s1 ⟨y,H1,I1,r1,q1⟩=>?_) hs;exact sf I1 hN hi hx r1 (λs2 I2=>⟨_,H1,I2,q1⟩) hf
end
section
variable{X:Cx}{pos:Pos}
end
structure It where
 go:Nat->Hp->Prop
 iz:Nat->Hp->V->Hp->Prop
 stop:Nat->Hp->Prop
noncomputable def gr(X:Cx)(pins:List (Addr×Obj))(H:Hp)(b:Addr):Prop :=
 H b=none/\b≠X.env.locals/\b∉X.fs/\(b∈X.ex\/X.aX.heap.objs.size<=b)/\(∀x c,X.env.cells.lookup x=some c->c≠b)/\∀p∈X.pn++pins,p.1≠b
theorem Inv.kX{X:Cx}{pins:List (Addr×Obj)}{σ:St}{H H':Hp}{s:Shared}{b:Addr}(I:Inv X pins σ H s)(hb:s.heap.objs.size<=b)(hn:H' b=none):gr X pins H' b:=by
 refine⟨hn,Nat.ne_of_gt (Nat.lt_of_lt_of_le I.lt hb),I.DG hb,.inr (Nat.le_trans I.sz hb),λx c e z=>?_,λp hp z=>?_⟩
 ·obtain⟨v,q⟩:=I.cell x c e;exact absurd (Nat.lt_of_lt_of_le q.lt (by rw[z];exact hb)) (Nat.lt_irrefl _)
 ·exact absurd (Nat.lt_of_lt_of_le (Heap.lt_size (I.pin p hp).1) (by rw[z];exact hb)) (Nat.lt_irrefl _)
structure Turn(P:Program)(w:World)(K:PySem.W.Frag)(tg:Expr)(J:It)(fp:List Addr)(it:Addr)(tn:Nat->Heap->Prop):Prop where
 mem:it∈fp
 obj:∀i h,tn i h->∀b∈fp,∃o,h.get? b=some o/\∀v,o.data≠.cell v
 keep:∀i h h',tn i h->(∀b∈fp,∀o,h.get? b=some o->h'.get? b=some o)->tn i h'
 item:∀(X:Cx),X.prog=P->X.w=w->X.K=K->X.calm=true->∀(i:Nat) (pins:List (Addr×Obj)) (s:Shared) (σ:St) (H:Hp) (E:Value->Shared->Prop),Inv X pins σ H s->(∀b∈fp,gr X pins H b)->tn i s.heap->J.go i H->
  wpAny (model P w) X.A (pyNext (.ref it)) (λr s1=>∃u,r=some u/\
   wpAny (model P w) X.A (letOwnedTupleGo tg (.ref it) u) (λ_ s2=>∃x H',Inv X pins σ H' s2/\RelV x u/\J.iz i H x H'/\tn (i+1) s2.heap/\∀b∈fp,H' b=none) E s1) E s
 done:∀(X:Cx),X.prog=P->X.w=w->X.K=K->X.calm=true->∀(i:Nat) (pins:List (Addr×Obj)) (s:Shared) (σ:St) (H:Hp) (E:Value->Shared->Prop),Inv X pins σ H s->(∀b∈fp,gr X pins H b)->tn i s.heap->J.stop i H->
  wpAny (model P w) X.A (pyNext (.ref it)) (λr s1=>r=none/\Inv X pins σ H s1) E s
 self:∀(A:Around) (i:Nat) (s:Shared) (Q:Value->Shared->Prop) (E:Value->Shared->Prop),tn i s.heap->Q (.ref it) s->wpAny (model P w) A (pyIter (.ref it)) Q E s
noncomputable abbrev TI:=St->Hp->(It->Hp->Prop)->Prop
noncomputable def xX(X:Cx)(pins:List (Addr×Obj))(σ:St)(tg:Expr)(R:It->Hp->Prop)(su:Value)(s2:Shared):Prop :=
 ∃(it:Addr) (fp:List Addr) (tn:Nat->Heap->Prop) (J:It) (H':Hp),su = .ref it/\Inv X pins σ H' s2/\Turn X.prog X.w X.K tg J fp it tn/\tn 0 s2.heap/\(∀b∈fp,gr X pins H' b)/\R J H'
noncomputable def PI(X:Cx)(tg iter:Expr)(wi:TI):Prop :=
 ∀(pins:List (Addr×Obj)) (s:Shared) (σ:St) (H:Hp) (R:It->Hp->Prop),Inv X pins σ H s->wi σ H R->
  wpAny (model X.prog X.w) X.A (eval iter X.env) (λv s1=>wpAny (model X.prog X.w) X.A (pyIter v) (xX X pins σ tg R) X.xe s1) X.xe s
theorem xY{M:Model}{A:Around}{E:Value->Shared->Prop}{s:Shared}{tg:Expr}{it:Addr}{u:Value}{o:Obj}{n:String}{vs:Array Value}{Q:Unit->Shared->Prop}(ho:s.heap.get? it=some o)(hc:o.cls = .type n)(hd:o.data = .fields vs)
  (hn:["enumerate", "zip", "dict_itemiterator", "dict_reverseitemiterator", "odict_iterator", "itertools.zip_longest", "itertools.pairwise"].contains n=false) (hQ:Q () s):wpAny M A (letOwnedTupleGo tg (.ref it) u) Q E s:=by
 unfold letOwnedTupleGo;cases tg <;> first
  | exact wpAny_pure hQ
  | (cases u <;> first
    | exact wpAny_pure hQ
    | (refine wpAny_bind (wpAny_load ho ?_)
       rw[hc,hd]
       show wpAny M A (if (["enumerate", "zip", "dict_itemiterator", "dict_reverseitemiterator", "odict_iterator", "itertools.zip_longest", "itertools.pairwise"].contains n && vs[0]? == some (rawInt _))=true then _ else _) Q E s
       rw[if_neg (by intro h;rw[hn,Bool.false_and] at h;cases h)]
       exact wpAny_pure hQ))
noncomputable def iA(K:PySem.W.Frag)(a:Addr):It :=
 ⟨λi H=>∃xs x,aD K H a xs/\xs[i]? = some x,λi H x H'=>H' = H/\∀xs,aD K H a xs->xs[i]? = some x,λi H=>∃xs,aD K H a xs/\xs.length<=i⟩
noncomputable def jd(lo:Int)(n:Nat):It:=⟨λi _=>i<n,λi H x H'=>H' = H/\x = .int (lo+i),λi _=>n<=i⟩
theorem DX{P:Program}{w:World}{K:PySem.W.Frag}{tg:Expr}(a it:Addr):Turn P w K tg (iA K a) [it] it (λi h=>h.IsListIter it a i) where
 mem:=by simp
 obj:=λi h st b hb=>by
  have e:b=it:=by simpa using hb
  subst e;obtain⟨o,e,c,d⟩:=st;exact⟨o,e,λv z=>by rw[d] at z;cases z⟩
 keep:=λi h h' st k=>st.at λo e=>k it (by simp) o e
 item:=by
  intro X hP hw hK hc i pins s σ H E I hf st hg;subst hP hw hK;obtain⟨xs,x,hq,hx⟩:=hg;obtain⟨au,rv,p,hz⟩:=I.list hq;obtain⟨u,hu,ru⟩:=rv.get hx;obtain⟨f0,f1,f2,f3,f4,f5⟩:=hf it (by simp)
  refine wpAny_pyNext_list_item st p.isList (x:=u) (by simpa using hu) λh' ah sb=>?_
  have I1:Inv X pins σ H { s with heap:=h' }:=I.turned (t':=s.toks) (λb o hb e=>(sb.2 b hb).trans e) f0 f1 f3 f4 f5;obtain⟨o,e,c,d⟩:=id ah;exact⟨u,rfl,xY (s:={ s with heap:=h' }) e c d (by decide) ⟨x,H,I1,ru,⟨rfl,λys hy=>by rw[I.xT hy hq];exact hx⟩,ah,λb hb=>(hf b hb).1⟩⟩
 done:=by
  intro X hP hw hK hc i pins s σ H E I hf st hg;subst hP hw hK;obtain⟨xs,hq,hx⟩:=hg;obtain⟨au,rv,p,hz⟩:=I.list hq;obtain⟨f0,f1,f2,f3,f4,f5⟩:=hf it (by simp)
  have hl:=rv.length;exact wpAny_pyNext_list_end (I.ok.hd hc) st p.isList (by simp;lia) λh' eb=>⟨rfl,I.turned (t':=s.toks) (λb o hb e=>eb b o hb e) f0 f1 f3 f4 f5⟩
 self:=λ_ _ _ _ _ st h=>wpAny_pyIter_listiter st h
theorem DY{P:Program}{w:World}{K:PySem.W.Frag}{tg:Expr}(it:Addr)(lo:Int)(n:Nat):Turn P w K tg (jd lo n) [it] it (λi h=>IsRangeIter h it (lo+(i:Nat)*1) ((n:Int) - (i:Nat)) 1) where
 mem:=by simp
 obj:=λi h st b hb=>by
  have e:b=it:=by simpa using hb
  subst e;exact⟨_,st,λv z=>by
   have z':Data.fields _=Data.cell v:=z;cases z'⟩
 keep:=λi h h' st k=>k it (by simp) _ st
 item:=by
  intro X hP hw hK hc i pins s σ H E I hf st hg;subst hP hw hK;obtain⟨f0,f1,f2,f3,f4,f5⟩:=hf it (by simp)
  have W:=Walks.range (prog:=X.prog) (w:=X.w) (I.ok.hd hc) it lo 1 n;refine W.item i s _ _ hg st λv h' tk hv ah kk=>?_;obtain⟨t,rfl⟩:=hv;have I1:Inv X pins σ H { s with heap:=h',toks:=tk }:=I.turned (λb o hb e=>kk b o (by simpa using hb) e) f0 f1 f3 f4 f5
  refine⟨_,rfl,xY (s:={ s with heap:=h',toks:=tk }) (n := "range_iterator") ah rfl rfl (by decide) ⟨.int (lo+i),H,I1,⟨t,?_⟩,⟨rfl,rfl⟩,ah,λb hb=>(hf b hb).1⟩⟩
  rw[Int.mul_one]
 done:=by
  intro X hP hw hK hc i pins s σ H E I hf st hg;subst hP hw hK;obtain⟨f0,f1,f2,f3,f4,f5⟩:=hf it (by simp)
  exact wpAny_pyNext_range_end (I.ok.hd hc) st (by have:n<=i:=hg;lia) λh' eb=>⟨rfl,I.turned (t':=s.toks) (λb o hb e=>eb b o hb e) f0 f1 f3 f4 f5⟩
 self:=λ_ _ _ _ _ st h=>wpAny_pyIter_rangeiter st h
section
variable{X:Cx}{tg:Expr}
noncomputable def j5(K:PySem.W.Frag)(tl:TE):TI:=λσ H R=>tl σ H λx H1=>∃a,x = .ref a/\(∃xs,aD K H1 a xs)/\R (iA K a) H1
theorem gQ{l:Expr}{tl:TE}(hl:PE X l tl):PI X tg l (j5 X.K tl):=by
 intro pins s σ H R I h;refine aI (hl pins s σ H _ I h) λv s1 ⟨x,H1,I1,r1,q1⟩=>?_;obtain⟨a,e,⟨xs,hq⟩,q⟩:=q1;subst e;cases r1;obtain⟨au,rv,p,hz⟩:=I1.list hq;refine wpAny_pyIter_list p.isList ?_;refine⟨s1.heap.objs.size,[s1.heap.objs.size],_,_,H1,rfl,I1.kept (t':=s1.toks) λb o e=>Heap.get?_push_of_some _ e,DX a _,⟨_,Heap.get?_push_size _ rfl,rfl,rfl⟩,λb hb=>?_,q⟩;have e:b=s1.heap.objs.size:=by simpa using hb
 subst e;exact I1.kX (Nat.le_refl _) (I1.aB.fresh (Nat.le_refl _))
theorem xZ{pins:List (Addr×Obj)}{σ:St}{H:Hp}{s:Shared}{R:It->Hp->Prop}{E:Value->Shared->Prop}{lo hi:Int}{t u v:Tok}{tk:Nat}(I:Inv X pins σ H s)(h1 : -(2 ^ 62)<=lo)(h2:lo<2 ^ 62)(h3 : -(2 ^ 62)<=hi)(h4:hi<2 ^ 62)
  (q:R (jd lo (hi - lo).toNat) H):wpAny (model X.prog X.w) X.A (pyIter (.ref s.heap.objs.size)) (xX X pins σ tg R) E { s with heap:=s.heap.push { cls:=.type "range",data:=.fields #[.int lo t,.int hi u,.int 1 v] },toks:=tk }:=by
 refine wpAny_pyIter_range (IsRange.new ..) (small_one h1 h2 h3 h4) ?_;have I1:Inv X pins σ H { s with heap:=s.heap.push { cls:=.type "range",data:=.fields #[.int lo t,.int hi u,.int 1 v] },toks:=tk }:=I.kept λb o e=>Heap.get?_push_of_some _ e;refine⟨(s.heap.push { cls:=.type "range",data:=.fields #[.int lo t,.int hi u,.int 1 v] }).objs.size,[(s.heap.push { cls:=.type "range",data:=.fields #[.int lo t,.int hi u,.int 1 v] }).objs.size],_,_,H,rfl,
  I1.kept (t':=tk) λb o e=>Heap.get?_push_of_some _ e,DY _ lo (hi - lo).toNat,?_,λb hb=>?_,q⟩
 ·have e1:lo+((0:Nat):Int)*1=lo:=by simp
  have e2:(((hi - lo).toNat:Nat):Int) - ((0:Nat):Int)=Builtin.Range.rangeSize lo hi 1:=by rw[rangeSize_one];split <;> lia
  show IsRangeIter _ _ (lo+((0:Nat):Int)*1) ((((hi - lo).toNat:Nat):Int) - ((0:Nat):Int)) 1;rw[e1,e2];exact Heap.get?_push_size _ rfl
 ·have e:b=(s.heap.push { cls:=.type "range",data:=.fields #[.int lo t,.int hi u,.int 1 v] }).objs.size:=by simpa using hb
  subst e;exact I1.kX (Nat.le_refl _) (I1.aB.fresh (Nat.le_refl _))
noncomputable def kY(ta:TA):TI:=λσ H R=>ta σ H λvs H1=>∃j:Int,vs = [.int j]/\-(2 ^ 62)<=j/\j<2 ^ 62/\R (jd 0 j.toNat) H1
noncomputable def kZ(ta:TA):TI:=λσ H R=>ta σ H λvs H1=>∃i j:Int,vs = [.int i,.int j]/\(-(2 ^ 62)<=i/\i<2 ^ 62/\-(2 ^ 62)<=j/\j<2 ^ 62)/\R (jd i (j - i).toNat) H1
theorem k6{a:Expr}{ta:TA}{p pos:Pos}(hg:Gl X "range")(hm:X.mg "range" = none)(ha:PA X [a] ta)(hs:starEach [a] X.env = [(false,eval a X.env)]:=by rfl):PI X tg (.Call (.Name "range" p) [a] [] pos) (kY ta):=by
 intro pins s σ H R I h;refine Call_ (iw I hg hm boot_range (PyProof.Rows.callWith_type1 (aI (ha pos pins s σ H _ I h) λus s1 ⟨vs,H1,I1,r1,q1⟩=>?_) hs rfl));obtain⟨j,e,q1,q2,q⟩:=q1;subst e;cases r1 with
 | cons r rr =>
  cases rr;obtain⟨t,rfl⟩:=r;exact call_range_1 (xZ I1 (by lia) (by lia) q1 q2 (by simpa using q))
theorem j6{a b:Expr}{ta:TA}{p pos:Pos}(hg:Gl X "range")(hm:X.mg "range" = none)(ha:PA X [a,b] ta)(hs:starEach [a,b] X.env = [(false,eval a X.env),(false,eval b X.env)]:=by rfl)(eY:starEach [b] X.env = [(false,eval b X.env)]:=by rfl) :
  PI X tg (.Call (.Name "range" p) [a,b] [] pos) (kZ ta):=by
 intro pins s σ H R I h;refine Call_ (iw I hg hm boot_range (PyProof.Rows.callWith_type1 (aI (ha pos pins s σ H _ I h) λus s1 ⟨vs,H1,I1,r1,q1⟩=>?_) (by rw[hs,eY]) (by rw[eY];rfl)))
 obtain⟨i,j,e,⟨q1,q2,q3,q4⟩,q⟩:=q1;subst e;cases r1 with
 | cons r rr =>
  cases rr with
  | cons r' rr =>
   cases rr;obtain⟨t,rfl⟩:=r;obtain⟨t',rfl⟩:=r';exact call_range_2 (xZ I1 q1 q2 q3 q4 q)
noncomputable def fV(wi:TI)(g:TG)(tb:TS):TS:=λD σ H=>wi σ H λJ H1=>∃W:Nat->Nat->St->Hp->Prop,(∃m,W 0 m σ H1)/\∀i m σ H,W i m σ H->
 (J.stop i H/\D.nx σ H)\/(J.go i H/\∃N:St->Hp->Prop,(∀aL H',N aL H'->∃m',m' < m/\W (i+1) m' aL H')/\∀x H',J.iz i H x H'->g x σ H' λaz H2=>tb { D with nx:=N,ct:=N,bk:=D.nx } az H2)
noncomputable def k8(fp:List Addr)(h:Heap):List (Addr×Obj):=fp.filterMap λb=>(h.get? b).map λo=>(b,o)
theorem oh{fp:List Addr}{h:Heap}{b:Addr}{o:Obj}(hb:b∈fp)(e:h.get? b=some o):(b,o)∈k8 fp h:=List.mem_filterMap.mpr ⟨b,hb,by rw[e];rfl⟩
theorem DZ{fp:List Addr}{h:Heap}{p:Addr×Obj}(hp:p∈k8 fp h):p.1∈fp/\h.get? p.1=some p.2:=by
 obtain⟨b,hb,e⟩:=List.mem_filterMap.mp hp;cases q:h.get? b with
 | none=>rw[q] at e;cases e
 | some o =>
  rw[q] at e;have e':(b,o)=p:=Option.some.inj e;subst e';exact⟨hb,q⟩
theorem Inv.pinned{pins:List (Addr×Obj)}{σ:St}{H:Hp}{s:Shared}{fp:List Addr}(I:Inv X pins σ H s)(hf:∀b∈fp,gr X pins H b)(ho:∀b∈fp,∃o,s.heap.get? b=some o/\∀v,o.data≠.cell v):Inv X (pins++k8 fp s.heap) σ H s :=
 I.xH λp hp=>(List.mem_append.mp hp).elim (λz=>I.pin p (List.mem_append_right _ z)) λz=>by
  obtain⟨hb,e⟩:=DZ z;obtain⟨f0,f1,f2,_⟩:=hf p.1 hb;obtain⟨o,e',d⟩:=ho p.1 hb;rw[e] at e';cases e';exact⟨e,f0,f1,f2,d⟩
theorem Inv.k9{pins pl:List (Addr×Obj)}{σ:St}{H:Hp}{s:Shared}(I:Inv X (pins++pl) σ H s):Inv X pins σ H s:=I.xH λp hp=>I.pin p (List.mem_append_right _ (List.mem_append_left _ hp))
theorem dz{iter:Expr}{body:List Stmt}{wi:TI}{g:TG}{tb:TS}{pos:Pos}(hp:PassesOwn (model X.prog X.w) X.A X.env X.xe)(hc:X.calm=true)(hi:PI X tg iter wi)(hg:PG X tg g)(hb:dw X body tb)
  (hs:∀x,foldedSetIterable iter X.env x=pure x:=by intro _;rfl):PS X (.For tg iter body [] pos) (fV wi g tb):=by
 intro pins s σ H D I h;refine wpAny_For (aI (hi pins s σ H _ I h) λv s1 h1=>aI h1 λsu s2 h2=>?_) hs;obtain⟨it,fp,tn,J,H2,e,I2,T,aJ,f2,W,⟨m0,w0⟩,turn⟩:=h2;subst e
 -- what stays true of the iterator's objects through the loop
 have je:∀ {H':Hp},(∀b∈fp,H' b=none)->∀b∈fp,gr X pins H' b:=λhn b hb=>⟨hn b hb,(f2 b hb).2⟩;refine codeAny_forLoop_any (λn s'=>∃i aL H',Inv X pins aL H' s'/\tn i s'.heap/\(∀b∈fp,H' b=none)/\W i n aL H') ?_ m0 ⟨0,σ,H2,I2,aJ,λb hb=>(f2 b hb).1,w0⟩;rintro n s3 ⟨i,gu,H3,I3,bT,jf,w3⟩;rcases turn i n gu H3 w3 with⟨stop,qn⟩ | ⟨go,N,hN,step⟩
 ·refine wpAny_passesOwn hp (aI (T.done X rfl rfl rfl hc i pins s3 gu H3 X.xe I3 (je jf) bT stop) λr s4 ⟨hr,I4⟩=>?_);subst hr;exact wpAny_execs_nil ⟨gu,H3,I4,qn⟩
 ·refine wpAny_passesOwn hp (aI (T.item X rfl rfl rfl hc i pins s3 gu H3 X.xe I3 (je jf) bT go) λr s4 ⟨u,hr,h4⟩=>?_);subst hr;refine wpAny_passesOwn hp (aI h4 λ_ s5 ⟨x,H5,I5,r5,y5,jg,sC⟩=>?_);have sD:=I5.pinned (je sC) (T.obj _ _ jg);refine wpAny_passesOwn hp (aI (hg _ s5 gu H5 x u _ sD r5 (step x H5 y5)) λ_ s6 ⟨iB,H6,I6,q6⟩=>?_);refine wpAny_passesOwn hp (aI (hb _ s6 iB H6 _ I6 q6) λf s7 q7=>?_);have again:∀ {eF:St} {H7:Hp},Inv X (pins++k8 fp s5.heap) eF H7 s7->N eF H7->∃m,m<n/\∃i aL H',Inv X pins aL H' s7/\tn i s7.heap/\(∀b∈fp,H' b=none)/\W i m aL H':=λ{eF H7} I7 n7=>by
   obtain⟨m',hm,w7⟩:=hN eF H7 n7;refine⟨m',hm,i+1,eF,H7,I7.k9,T.keep _ _ _ jg λb hb o e=>(I7.pin (b,o) (List.mem_append_right _ (List.mem_append_right _ (oh hb e)))).1,λb hb=>?_,w7⟩;obtain⟨o,e,d⟩:=T.obj _ _ jg b hb;exact(I7.pin (b,o) (List.mem_append_right _ (List.mem_append_right _ (oh hb e)))).2.1
  cases f with
  | next=>obtain⟨eF,H7,I7,n7⟩:=q7;exact again I7 n7
  | cont=>obtain⟨eF,H7,I7,n7⟩:=q7;exact again I7 n7
  | brk=>obtain⟨eF,H7,I7,q7⟩:=q7;exact⟨eF,H7,I7.k9,q7⟩
  | ret v=>obtain⟨x7,eF,H7,I7,r7,q7⟩:=q7;exact⟨x7,eF,H7,I7.k9,r7,q7⟩
end
theorem x6{K:PySem.W.Frag}{a:Addr}{xs:List V}{g:TG}{tb:TS}{D:Ends}{σ:St}{H:Hp}(Pv:Nat->St->Hp->Prop)(h0:Pv 0 σ H)(hl:∀i σ H,i<=xs.length->Pv i σ H->aD K H a xs)
  (hs:∀i x σ H,xs[i]? = some x->Pv i σ H->g x σ H λaz H2=>tb { D with nx:=Pv (i+1),ct:=Pv (i+1),bk:=D.nx } az H2) (hd:∀σ H,Pv xs.length σ H->D.nx σ H) :
  ∃W:Nat->Nat->St->Hp->Prop,(∃m,W 0 m σ H)/\∀i m σ H,W i m σ H->
   ((iA K a).stop i H/\D.nx σ H)\/((iA K a).go i H/\∃N:St->Hp->Prop,(∀aL H',N aL H'->∃m',m' < m/\W (i+1) m' aL H')/\∀x H',(iA K a).iz i H x H'->g x σ H' λaz H2=>tb { D with nx:=N,ct:=N,bk:=D.nx } az H2):=by
 refine⟨λi m σ H=>m=xs.length - i/\i<=xs.length/\Pv i σ H,⟨xs.length,by simp,Nat.zero_le _,h0⟩,?_⟩
 rintro i m σ H ⟨rfl,hi,p⟩;have q:=hl i σ H hi p;by_cases aY:i<xs.length
 ·refine .inr ⟨⟨xs,xs[i],q,by simp[aY]⟩,Pv (i+1),λaL H' p'=>⟨xs.length - (i+1),by lia,rfl,aY,p'⟩,λx H' y=>?_⟩
  obtain⟨e,y⟩:=y;subst e;exact hs i x σ _ (y xs q) p
 ·have e:i=xs.length:=by lia
  subst e;exact .inl ⟨⟨xs,q,Nat.le_refl _⟩,hd σ H p⟩
theorem sE{lo:Int}{n:Nat}{g:TG}{tb:TS}{D:Ends}{σ:St}{H:Hp}(Pv:Nat->St->Hp->Prop)(h0:Pv 0 σ H)
  (hs:∀i σ H,i<n->Pv i σ H->g (.int (lo+i)) σ H λaz H2=>tb { D with nx:=Pv (i+1),ct:=Pv (i+1),bk:=D.nx } az H2) (hd:∀σ H,Pv n σ H->D.nx σ H) :
  ∃W:Nat->Nat->St->Hp->Prop,(∃m,W 0 m σ H)/\∀i m σ H,W i m σ H->
   ((jd lo n).stop i H/\D.nx σ H)\/((jd lo n).go i H/\∃N:St->Hp->Prop,(∀aL H',N aL H'->∃m',m' < m/\W (i+1) m' aL H')/\∀x H',(jd lo n).iz i H x H'->g x σ H' λaz H2=>tb { D with nx:=N,ct:=N,bk:=D.nx } az H2):=by
 refine⟨λi m σ H=>m=n - i/\i<=n/\Pv i σ H,⟨n,by simp,Nat.zero_le _,h0⟩,?_⟩
 rintro i m σ H ⟨rfl,hi,p⟩;by_cases aY:i<n
 ·refine .inr ⟨aY,Pv (i+1),λaL H' p'=>⟨n - (i+1),by lia,rfl,aY,p'⟩,λx H' y=>?_⟩
  obtain⟨e,y⟩:=y;subst e y;exact hs i σ _ aY p
 ·have e:i=n:=by lia
  subst e;exact .inl ⟨Nat.le_refl _,hd σ H p⟩
noncomputable abbrev R2:=V->V->Hp->VK->Prop
noncomputable def cR(X:Cx)(f:Value->Value->Sem Value)(r:R2):Prop :=
 ∀(pins:List (Addr×Obj)) (s:Shared) (σ:St) (H:Hp) (x y:V) (v u:Value) (Q:VK),Inv X pins σ H s->RelV x v->RelV y u->r x y H Q->
  wpAny (model X.prog X.w) X.A (f v u) (EP X pins σ Q) X.xe s
noncomputable def sG(X:Cx)(f:Value->Sem Value)(r:V->Hp->VK->Prop):Prop :=
 ∀(pins:List (Addr×Obj)) (s:Shared) (σ:St) (H:Hp) (x:V) (v:Value) (Q:VK),Inv X pins σ H s->RelV x v->r x H Q->
  wpAny (model X.prog X.w) X.A (f v) (EP X pins σ Q) X.xe s
noncomputable def gv(X:Cx)(f:Value)(r:List V->Hp->VK->Prop):Prop :=
 ∀(pins:List (Addr×Obj)) (s:Shared) (σ:St) (H:Hp) (xs:List V) (us:List Value) (Q:VK),Inv X pins σ H s->Vals xs us->r xs H Q->
  wpAny (model X.prog X.w) X.A (call f us) (EP X pins σ Q) X.xe s
noncomputable def oq(r:R2)(ta tb:TE):TE:=λσ H Q=>ta σ H λx H1=>tb σ H1 λy H2=>r x y H2 Q
noncomputable def D0(r:V->Hp->VK->Prop)(ta:TE):TE:=λσ H Q=>ta σ H λx H1=>r x H1 Q
noncomputable def rI(C:Int->Int->Prop)(g:Int->Int->V):R2:=λx y H Q=>∃i j,x = .int i/\y = .int j/\C i j/\Q (g i j) H
noncomputable def jh(g:Int->Int->V):R2:=λx y H Q=>∃i j,x = .int i/\y = .int j/\Q (g i j) H
noncomputable def rU(g:Int->V):V->Hp->VK->Prop:=λx H Q=>∃i,x = .int i/\Q (g i) H
section
variable{X:Cx}{a b c:Expr}{ta tb tc:TE}{pos:Pos}
theorem sH(ha:PE X a ta)(hb:PE X b tb){pins:List (Addr×Obj)}{s:Shared}{σ:St}{H:Hp}{R:V->V->Hp->Prop}(I:Inv X pins σ H s)
  (h:ta σ H λx H1=>tb σ H1 λy H2=>R x y H2) {Q:Value->Shared->Prop} {f:Value->Value->Sem Value}
  (hf:∀v u s2 x y H2,Inv X pins σ H2 s2->RelV x v->RelV y u->R x y H2->wpAny (model X.prog X.w) X.A (f v u) Q X.xe s2) :
  wpAny (model X.prog X.w) X.A (eval a X.env) (λv aM=>wpAny (model X.prog X.w) X.A (eval b X.env) (λu dM=>wpAny (model X.prog X.w) X.A (f v u) Q X.xe dM) X.xe aM) X.xe s:=by
 refine aI (ha pins s σ H _ I h) λv s1 ⟨x,H1,I1,r1,q1⟩=>?_;refine aI (hb pins s1 σ H1 _ I1 q1) λu s2 ⟨y,H2,I2,r2,q2⟩=>?_;exact hf v u s2 x y H2 I2 r1 r2 q2
theorem aE{op:Operator}{r:R2}(ho:cR X (binaryOp op) r)(ha:PE X a ta)(hb:PE X b tb):PE X (.BinOp a op b pos) (oq r ta tb):=by
 intro pins s σ H Q I h;exact wpAny_BinOp (sH ha hb I h λv u s2 x y H2 I2 rx ry q=>ho pins s2 σ H2 x y v u Q I2 rx ry q)
theorem ou{op:UnaryOp}{r:V->Hp->VK->Prop}(ho:sG X (unaryOp op) r)(ha:PE X a ta):PE X (.UnaryOp op a pos) (D0 r ta):=by
 intro pins s σ H Q I h;exact UnaryOp_ (aI (ha pins s σ H _ I h) λv s1 ⟨x,H1,I1,r1,q1⟩=>ho pins s1 σ H1 x v Q I1 r1 q1)
theorem ow{f:Value->Value->Sem Value}{C:Int->Int->Prop}{g:Int->Int->Int}
  (rule:∀(i j:Int) (t u:Tok) (s:Shared) (Q:Value->Shared->Prop) (E:Value->Shared->Prop),C i j->Q (.int (g i j) s.toks) { s with toks:=s.toks+1 }->wpAny (model X.prog X.w) X.A (f (.int i t) (.int j u)) Q E s) :
  cR X f (rI C λi j=>.int (g i j)):=by
 intro pins s σ H x y v u Q I rx ry h;obtain⟨i,j,rfl,rfl,hc,q⟩:=h;obtain⟨t,rfl⟩:=rx;obtain⟨t',rfl⟩:=ry;exact rule i j t t' s _ _ hc ⟨.int (g i j),H,I.tok _,⟨_,rfl⟩,q⟩
theorem x9{f:Value->Value->Sem Value}{g:Int->Int->Int}
  (rule:∀(i j:Int) (t u:Tok) (s:Shared) (Q:Value->Shared->Prop) (E:Value->Shared->Prop),Q (.int (g i j) s.toks) { s with toks:=s.toks+1 }->wpAny (model X.prog X.w) X.A (f (.int i t) (.int j u)) Q E s) :
  cR X f (jh λi j=>.int (g i j)):=by
 intro pins s σ H x y v u Q I rx ry h;obtain⟨i,j,rfl,rfl,q⟩:=h;obtain⟨t,rfl⟩:=rx;obtain⟨t',rfl⟩:=ry;exact rule i j t t' s _ _ ⟨.int (g i j),H,I.tok _,⟨_,rfl⟩,q⟩
theorem sI{f:Value->Value->Sem Value}{g:Int->Int->Bool}
  (rule:∀(i j:Int) (t u:Tok) (s:Shared) (Q:Value->Shared->Prop) (E:Value->Shared->Prop),Q (.bool (g i j)) s->wpAny (model X.prog X.w) X.A (f (.int i t) (.int j u)) Q E s) :
  cR X f (jh λi j=>.bl (g i j)):=by
 intro pins s σ H x y v u Q I rx ry h;obtain⟨i,j,rfl,rfl,q⟩:=h;obtain⟨t,rfl⟩:=rx;obtain⟨t',rfl⟩:=ry;exact rule i j t t' s _ _ ⟨.bl (g i j),H,I,rfl,q⟩
noncomputable def D3(i j:Int):Prop:=0<j/\j<1073741824
noncomputable def D4(i j:Int):Prop:=0<=j/\j<=1000000/\i.natAbs<2 ^ 64
noncomputable def sJ(i j:Int):Prop:=(-(2 ^ 64)<i/\i<2 ^ 64)\/(-(2 ^ 64)<j/\j<2 ^ 64)
theorem sJ.ok{i j:Int}(h:sJ i j):IntMulOk i j:=by
 rcases h with⟨h1,h2⟩ | ⟨h1,h2⟩
 ·exact .of_left (intBits_le_64 h1 h2)
 ·exact .of_right (intBits_le_64 h1 h2)
theorem bN:cR X (binaryOp .Add) (jh λi j=>.int (i+j)):=x9 λ_ _ _ _ _ _ _ q=>add_int q
theorem gR:cR X (binaryOp .Sub) (jh λi j=>.int (i - j)):=x9 λ_ _ _ _ _ _ _ q=>sub_int q
theorem gS:cR X (binaryOp .Mult) (rI sJ λi j=>.int (i*j)):=ow λ_ _ _ _ _ _ _ hc q=>mul_int q hc.ok
theorem oz:cR X (binaryOp .FloorDiv) (rI D3 λi j=>.int (i / j)):=ow λi j _ _ _ _ _ hc q=>by
 have h1:(0:Int)<j:=hc.1;have h2:j<1073741824:=hc.2;exact floordiv_int (by lia) (by rw[Int.fdiv_eq_ediv_of_nonneg i (by lia)];exact q) (.inl (PyProof.noPylong_small (by lia)))
theorem bY:cR X (binaryOp .Mod) (rI (λ_ j=>0<j) λi j=>.int (i % j)):=ow λi j _ _ _ _ _ hc q=>by
 have h1:(0:Int)<j:=hc;exact mod_int' (by lia) (by rw[Int.fmod_eq_emod_of_nonneg i (by lia)];exact q)
theorem oA:cR X (binaryOp .Pow) (rI D4 λi j=>.int (i ^ j.toNat)):=ow λ_ _ _ _ _ _ _ hc q=>pow_int_small hc.1 hc.2.1 hc.2.2 q
theorem D5{f:Value->Sem Value}{g:Int->Int}
  (rule:∀(i:Int) (t:Tok) (s:Shared) (Q:Value->Shared->Prop) (E:Value->Shared->Prop),Q (.int (g i) s.toks) { s with toks:=s.toks+1 }->wpAny (model X.prog X.w) X.A (f (.int i t)) Q E s) :
  sG X f (rU λi=>.int (g i)):=by
 intro pins s σ H x v Q I rx h;obtain⟨i,rfl,q⟩:=h;obtain⟨t,rfl⟩:=rx;exact rule i t s _ _ ⟨.int (g i),H,I.tok _,⟨_,rfl⟩,q⟩
theorem oB:sG X (unaryOp .USub) (rU λi=>.int (-i)):=D5 λ_ _ _ _ _ q=>neg_int q
end
noncomputable def gw:V->V->Bool
 | .aC,.aC=>true | .aC,.int _=>true | .int _,.aC=>true | .aC,.bl _=>true | .bl _,.aC=>true | .aC,.str _=>true | .str _,.aC=>true
 | .int _,.int _=>true | .bl _,.bl _=>true | .str _,.str _=>true | .fh _,.fh _=>true
 | .int _,.str _=>true | .str _,.int _=>true | .bl _,.str _=>true | .str _,.bl _=>true
 | _,_=>false
noncomputable def D6:R2:=λx y H Q=>gw x y=true/\Q (.bl (decide (x=y))) H
noncomputable def D7:R2:=λx y H Q=>gw x y=true/\Q (.bl (!decide (x=y))) H
theorem x_{i j:Int}:decide (V.int i=V.int j)=(i == j):=by
 rw[Bool.eq_iff_iff];simp
theorem ya{i j:Bool}:decide (V.bl i=V.bl j)=(i == j):=by
 rw[Bool.eq_iff_iff];simp
theorem yc{i j:Str}:decide (V.str i=V.str j)=(i == j):=by
 rw[Bool.eq_iff_iff];simp
theorem yd{i j:Array UInt8}:decide (V.fh i=V.fh j)=(i.toList == j.toList):=by
 rw[Bool.eq_iff_iff];cases i;cases j;simp
section
variable{X:Cx}{a b c:Expr}{ta tb tc:TE}{pos:Pos}
theorem bO{pins:List (Addr×Obj)}{σ:St}{H:Hp}{s:Shared}{Q:VK}{k k':Bool}(I:Inv X pins σ H s)(q:Q (.bl k) H)(e:k=k'):EP X pins σ Q (.bool k') s:=by
 subst e;exact⟨.bl k,H,I,rfl,q⟩
theorem iC:cR X (compareOp .Eq) D6:=by
 intro pins s σ H x y v u Q I rx ry h;obtain⟨hs,q⟩:=h;cases x with
 | aC =>
  cases rx;cases y with
  | aC=>cases ry;exact PySem.EqNone.eq_none_none (bO I q (by simp))
  | bl j=>cases ry;exact PySem.EqNone.eq_none_bool (bO I q (by simp))
  | int j=>obtain⟨t',rfl⟩:=ry;exact PySem.EqNone.eq_none_int (bO I q (by simp))
  | str j=>obtain⟨t',rfl⟩:=ry;exact PySem.EqNone.eq_none_str (bO I q (by simp))
  | _=>exact absurd (show false=true from hs) Bool.false_ne_true
 | bl i =>
  cases rx;cases y with
  | aC=>cases ry;exact PySem.EqNone.eq_bool_none (bO I q (by simp))
  | bl j=>cases ry;exact eq_bool (bO I q ya)
  | str j=>obtain⟨t',rfl⟩:=ry;exact PySem.EqMixed.eq_bool_str (bO I q (by simp))
  | _=>exact absurd (show false=true from hs) Bool.false_ne_true
 | int i =>
  obtain⟨t,rfl⟩:=rx;cases y with
  | aC=>cases ry;exact PySem.EqNone.eq_int_none (bO I q (by simp))
  | int j=>obtain⟨t',rfl⟩:=ry;exact eq_int (bO I q x_)
  | str j=>obtain⟨t',rfl⟩:=ry;exact PySem.EqMixed.eq_int_str (bO I q (by simp))
  | _=>exact absurd (show false=true from hs) Bool.false_ne_true
 | str i =>
  obtain⟨t,rfl⟩:=rx;cases y with
  | aC=>cases ry;exact PySem.EqNone.eq_str_none (bO I q (by simp))
  | bl j=>cases ry;exact PySem.EqMixed.eq_str_bool (bO I q (by simp))
  | int j=>obtain⟨t',rfl⟩:=ry;exact PySem.EqMixed.eq_str_int (bO I q (by simp))
  | str j=>obtain⟨t',rfl⟩:=ry;exact eq_str (bO I q yc)
  | _=>exact absurd (show false=true from hs) Bool.false_ne_true
 | fh i =>
  obtain⟨t,rfl⟩:=rx;cases y with
  | fh j=>obtain⟨t',rfl⟩:=ry;exact PySem.W.eq_bytes (bO I q yd)
  | _=>exact absurd (show false=true from hs) Bool.false_ne_true
 | _=>cases y <;> exact absurd (show false=true from hs) Bool.false_ne_true
theorem iD:cR X (compareOp .NotEq) D7:=by
 intro pins s σ H x y v u Q I rx ry h;obtain⟨hs,q⟩:=h;cases x with
 | aC =>
  cases rx;cases y with
  | aC=>cases ry;exact PySem.EqNone.ne_none_none (bO I q (by simp))
  | bl j=>cases ry;exact PySem.EqNone.ne_none_bool (bO I q (by simp))
  | int j=>obtain⟨t',rfl⟩:=ry;exact PySem.EqNone.ne_none_int (bO I q (by simp))
  | str j=>obtain⟨t',rfl⟩:=ry;exact PySem.EqNone.ne_none_str (bO I q (by simp))
  | _=>exact absurd (show false=true from hs) Bool.false_ne_true
 | bl i =>
  cases rx;cases y with
  | aC=>cases ry;exact PySem.EqNone.ne_bool_none (bO I q (by simp))
  | bl j=>cases ry;exact ne_bool (bO I q (congrArg not ya))
  | str j=>obtain⟨t',rfl⟩:=ry;exact PySem.EqMixed.ne_bool_str (bO I q (by simp))
  | _=>exact absurd (show false=true from hs) Bool.false_ne_true
 | int i =>
  obtain⟨t,rfl⟩:=rx;cases y with
  | aC=>cases ry;exact PySem.EqNone.ne_int_none (bO I q (by simp))
  | int j=>obtain⟨t',rfl⟩:=ry;exact ne_int (bO I q (congrArg not x_))
  | str j=>obtain⟨t',rfl⟩:=ry;exact PySem.EqMixed.ne_int_str (bO I q (by simp))
  | _=>exact absurd (show false=true from hs) Bool.false_ne_true
 | str i =>
  obtain⟨t,rfl⟩:=rx;cases y with
  | aC=>cases ry;exact PySem.EqNone.ne_str_none (bO I q (by simp))
  | bl j=>cases ry;exact PySem.EqMixed.ne_str_bool (bO I q (by simp))
  | int j=>obtain⟨t',rfl⟩:=ry;exact PySem.EqMixed.ne_str_int (bO I q (by simp))
  | str j=>obtain⟨t',rfl⟩:=ry;exact ne_str (bO I q (congrArg not yc))
  | _=>exact absurd (show false=true from hs) Bool.false_ne_true
 | fh i =>
  obtain⟨t,rfl⟩:=rx;cases y with
  | fh j=>obtain⟨t',rfl⟩:=ry;exact PySem.W.ne_bytes (bO I q (congrArg not yd))
  | _=>exact absurd (show false=true from hs) Bool.false_ne_true
 | _=>cases y <;> exact absurd (show false=true from hs) Bool.false_ne_true
theorem fz:cR X (compareOp .Lt) (jh λi j=>.bl (decide (i<j))):=sI λ_ _ _ _ _ _ _ q=>lt_int q
theorem ji:cR X (compareOp .Gt) (jh λi j=>.bl (decide (j<i))):=sI λ_ _ _ _ _ _ _ q=>gt_int q
theorem oE:cR X (compareOp .GtE) (jh λi j=>.bl (decide (j<=i))):=sI λ_ _ _ _ _ _ _ q=>ge_int q
theorem yf:cR X (compareOp .Is) (λx y H Q=>y = .aC/\Q (.bl (decide (x = .aC))) H):=by
 intro pins s σ H x y v u Q I rx ry h;obtain⟨rfl,q⟩:=h;cases ry;refine is_none_gen (bO I q ?_);cases x <;> first
  | (cases rx;rfl)
  | (obtain⟨t,rfl⟩:=rx;rfl)
theorem br(b:Expr){op:CmpOp}(h:op≠.In:=by decide)(h2:op≠.NotIn:=by decide):behindInMarks op b=false:=by
 have e1:(op == CmpOp.In)=false:=by cases op <;> first | rfl | exact absurd rfl h
 have e2:(op == CmpOp.NotIn)=false:=by cases op <;> first | rfl | exact absurd rfl h2
 cases b <;> simp[behindInMarks,e1,e2]
theorem k_{op:CmpOp}{r:R2}(ho:cR X (compareOp op) r)(ha:PE X a ta)(hb:PE X b tb)(hm:behindInMarks op b=false):PE X (.Compare a [op] [b] pos) (oq r ta tb):=by
 intro pins s σ H Q I h;exact wpAny_Compare1 (sH ha hb I h λv u s2 x y H2 I2 rx ry q=>ho pins s2 σ H2 x y v u Q I2 rx ry q) hm
noncomputable def D8(t:TE):TT:=λσ H Q=>t σ H λx H'=>∃k,x = .bl k/\Q k H'
theorem bB{op:CmpOp}{r:R2}(ho:cR X (compareOp op) r)(ha:PE X a ta)(hb:PE X b tb)(hm:behindInMarks op b=false):PT X (.Compare a [op] [b] pos) (D8 (oq r ta tb)):=by
 intro pins s σ H Q I h;refine wpAny_isTrue_Compare1 (aI (ha pins s σ H _ I h) λv s1 ⟨x,H1,I1,r1,q1⟩=>aI (hb pins s1 σ H1 _ I1 q1) λu s2 ⟨y,H2,I2,r2,q2⟩ =>
  aI (ho pins s2 σ H2 x y v u _ I2 r1 r2 q2) λc s3 ⟨z,H3,I3,r3,k,e,q3⟩=>?_) hm
 subst e;cases r3;exact wpAny_truthy_bool ⟨H3,I3,q3⟩
noncomputable def NC(r r':R2)(ta tb tc:TE):TE:=λσ H Q=>ta σ H λx H1=>tb σ H1 λy H2=>r x y H2 λz H3=>∃k,z = .bl k/\
 (if k=true then tc σ H3 λw' H4=>r' y w' H4 Q else Q (.bl false) H3)
theorem oF:(sizeLine:Nat)<2 ^ 63:=by rw[sizeLine_eq];decide
theorem vals1{x:V}{us:List Value}(r:Vals [x] us):∃u,us = [u]/\RelV x u:=by
 cases r with
 | cons r1 r2=>cases r2;exact⟨_,rfl,r1⟩
theorem vals2{x y:V}{us:List Value}(r:Vals [x,y] us):∃u w',us = [u,w']/\RelV x u/\RelV y w':=by
 cases r with
 | cons r1 r2 =>
  cases r2 with
  | cons r3 r4=>cases r4;exact⟨_,_,rfl,r1,r3⟩
end
structure jj(h:Heap)(x dx C:Addr)(mA:Str->Option Value):Prop where
 obj:h.get? x=some (PySem.W.instObj C dx)
 ns:h.Ns1 dx mA
 ne:dx≠x
theorem yg{h:Heap}{dx:Addr}{mA:Str->Option Value}(n:h.Ns1 dx mA):∃od,h.get? dx=some od/\∀name,PySem.W.lookIn name od=some (mA name):=by
 obtain⟨o,es,ep,ho,hd,hk,_,hm⟩:=n;refine⟨o,ho,λname=>?_⟩
 have e:=hm name;unfold nsFind findBy at e;rw[← Array.find?_toList] at e;unfold PySem.W.lookIn;rw[hd];dsimp only;split
 ·rename_i y q;rw[q] at e;exact congrArg some e
 ·rename_i q;rw[q] at e;have a:es.toList.any (·.refKey)=false:=by
   rw[List.any_eq_false];intro y hy;obtain⟨z,t,gz⟩:=hk y (Array.mem_toList_iff.mp hy);simp[DictEntry.refKey,gz]
  have a':¬ es.toList.any (·.refKey)=true:=by rw[a];exact Bool.false_ne_true
  rw[if_neg a'];exact congrArg some e
theorem jj.look{h:Heap}{x dx C:Addr}{mA:Str->Option Value}(I:jj h x dx C mA):∃od,PySem.W.InstAt h x (PySem.W.instObj C dx) C (some od)/\∀name,PySem.W.lookIn name od=some (mA name) :=
 let ⟨od,ho,hl⟩:=yg I.ns
 ⟨od,⟨I.obj,rfl,rfl,ho⟩,hl⟩
section
variable{prog:Program}{w:World}{A:Around}{E:Value->Shared->Prop}{s:Shared}{K:PySem.W.Frag}{x dx C f:Addr}{mA:Str->Option Value}{name:Str}{v:Value}
theorem get_map{expr:Bool}{Q:Value->Shared->Prop}(X:K.In s.heap)(I:jj s.heap x dx C mA)(hg:PySem.W.plainGet K C name=true)(hh:PySem.W.hasDictIn K C=true)
  (ha:PySem.W.findIn K (.ref C) name=some none) (hv:mA name=some v) (D9:PySem.W.handedIn v=true) (h:Q v { s with toks:=s.toks+1 }) :
  wpAny (model prog w) A (getAttr (.ref x) name expr) Q E s:=by
 obtain⟨od,J,hl⟩:=I.look;exact PySem.W.get_value X J (PySem.W.plainGet_of hg).1 (PySem.W.findObj_own hh ha rfl (by rw[hl,hv])) D9 h
theorem D_{pl:Sem Bool}{Q:Value×List Value->Shared->Prop}(X:K.In s.heap)(I:jj s.heap x dx C mA)(hg:PySem.W.plainGet K C name=true)
  (hf:PySem.W.findIn K (.ref C) name=some (some (.ref f))) (ht:PySem.W.isFn K (.ref f)=true) (hv:mA name=none) (h:Q (.ref f,[.ref x]) s) :
  wpAny (model prog w) A (getMethod (.ref x) name pl) Q E s:=by
 obtain⟨od,J,hl⟩:=I.look;exact PySem.W.method_fn X J (PySem.W.plainGet_of hg).1 (PySem.W.plainGet_of hg).2 hf (beq_iff_eq.mp ht) (by show (PySem.W.lookIn name od).map (·.isSome)=some false;rw[hl,hv];rfl) h
theorem Ea{ns:List Str}{Q:Unit->Shared->Prop}(X:K.In s.heap)(I:jj s.heap x dx C mA)
  (hs:PySem.W.findIn K (.ref C) "__setattr__" = some (some (.builtin "object.__setattr__"))) (hp:PySem.W.plainOver K C=true) (ht:PySem.W.takerIn K C name=some none) (hh:PySem.W.hasDictIn K C=true)
  (hw:PySem.Within mA ns) (hsz:ns.length<=sizeLine)
  (h:∀h',jj h' x dx C (λy=>if y=name then some v else mA y)->Heap.SameBut dx s.heap h'->Q () { s with heap:=h',toks:=s.toks+2 }) :
  wpAny (model prog w) A (setAttr (.ref x) name v) Q E s:=by
 obtain⟨od,J,hl⟩:=I.look;refine PySem.W.set_plain X J hs (PySem.W.osa_open (s:={ s with toks:=s.toks+1 }) (r:=none) X J hp ht λb=>?_)
 obtain⟨cd,hc,gP⟩:=PySem.W.any_some hh;have hx:s.heap.get? x=some ⟨.ref C,some dx,.plain,#[]⟩:=I.obj;refine wpAny_bind (wpAny_pure (wpAny_bind (wpAny_bind (wpAny_loadPart hx (wpAny_bind (PySem.W.Looks.here (s:={ s with toks:=s.toks+1 }) (PySem.W.looks_clsIn X hc) ?_))))));rw[gP];refine wpAny_pure (a:=some dx) (wpAny_bind (wpAny_pure (wpAny_bind ?_)));refine wpAny_nsSet1 (s:={ s with toks:=s.toks+1 }) I.ns λh' oG eY=>?_;obtain⟨oD,yh,yi,lg,lq,lu⟩:=oG.count (PySem.Within.cons name v hw);refine wpAny_bind (wpAny_lookBehind lg (by rw[lq];exact pastItsLine_dict (Nat.le_trans lu (by rw[List.length_cons];lia))) ?_)
 exact wpAny_pure (h _ ⟨(eY.2 _ (Ne.symm I.ne)).trans I.obj,oG,I.ne⟩ eY)
theorem Eb{R:Result->Shared->Prop}{vs:List Value}{kw:List (Str×Value)}(X:K.In s.heap)(hm:PySem.W.makesIn K C=true)
  (hi:PySem.W.findIn K (.ref C) "__init__" = some (some (.ref f))) (hf:PySem.W.typeIn K (.ref f)=some (.type "function"))
  (h:codeAny (model prog w) (A.under (.builtin "type.__call__" ⟨.ref C::vs,kw⟩)) (.call (.ref f) ⟨.ref (s.heap.objs.size+1)::vs,kw⟩) (PySem.W.InitBack (s.heap.objs.size+1) R)
   { s with heap:=(s.heap.push PySem.W.emptyDict).push (PySem.W.instObj C s.heap.objs.size)}) :
  codeAny (model prog w) A (.call (.ref C) ⟨vs,kw⟩) R s:=by
 obtain⟨hh,g,d,t,os⟩:=s;exact PySem.W.make_core (PySem.W.makes_of X hm) (PySem.W.looks_findIn X hi) (λself=>PySem.W.bind_fn X self hf) (.inl rfl) h
end
noncomputable def cS(f:Str)(v:V):List (Str×V)->List (Str×V)
 | []=>[(f,v)]
 | (g,x)::r=>if g=f then(g,v)::r else(g,x)::cS f v r
theorem sL(f g:Str)(v:V):∀fs:List (Str×V),(cS f v fs).lookup g=if g=f then some v else fs.lookup g
 | []=>by
  show List.lookup g [(f,v)] = _;by_cases h:g=f
  ·have hb:(g == f)=true:=beq_iff_eq.mpr h;simp only[List.lookup,hb,if_pos h]
  ·have hb:(g == f)=false:=beq_eq_false_iff_ne.mpr h;simp only[List.lookup,hb,if_neg h]
 | (k,x)::r=>by
  have ih:=sL f g v r;rw[show cS f v ((k,x)::r)=(if k=f then(k,v)::r else(k,x)::cS f v r) from rfl]
  by_cases hk:k=f
  ·rw[if_pos hk];by_cases h:g=k
   ·have hb:(g == k)=true:=beq_iff_eq.mpr h;simp only[List.lookup,hb,if_pos (h.trans hk)]
   ·have hb:(g == k)=false:=beq_eq_false_iff_ne.mpr h;simp only[List.lookup,hb,if_neg (λe:g=f=>h (e.trans hk.symm))]
  ·rw[if_neg hk];by_cases h:g=k
   ·have hb:(g == k)=true:=beq_iff_eq.mpr h;simp only[List.lookup,hb,if_neg (λe:g=f=>hk (h.symm.trans e))]
   ·have hb:(g == k)=false:=beq_eq_false_iff_ne.mpr h;simp only[List.lookup,hb];exact ih
theorem sM(f:Str)(v:V):∀fs:List (Str×V),f∈(cS f v fs).map (·.1)/\∀g,g∈fs.map (·.1)->g∈(cS f v fs).map (·.1)
 | []=>⟨by simp[cS],λg h=>by simp at h⟩
 | (k,x)::r=>by
  obtain⟨i1,i2⟩:=sM f v r;rw[show cS f v ((k,x)::r)=(if k=f then(k,v)::r else(k,x)::cS f v r) from rfl]
  by_cases hk:k=f
  ·rw[if_pos hk];subst hk;exact⟨by simp,λg h=>by simpa using h⟩
  ·rw[if_neg hk];refine⟨?_,λg h=>?_⟩
   ·rw[List.map_cons];exact List.mem_cons_of_mem _ i1
   ·rw[List.map_cons] at h ⊢;rcases List.mem_cons.mp h with e | e
    ·exact List.mem_cons.mpr (.inl e)
    ·exact List.mem_cons_of_mem _ (i2 g e)
theorem yj(f:Str)(v:V):∀fs:List (Str×V),(cS f v fs).length<=fs.length+1
 | []=>by simp[cS]
 | (k,x)::r=>by
  have ih:=yj f v r;rw[show cS f v ((k,x)::r)=(if k=f then(k,v)::r else(k,x)::cS f v r) from rfl]
  by_cases hk:k=f
  ·rw[if_pos hk,List.length_cons,List.length_cons];lia
  ·rw[if_neg hk,List.length_cons,List.length_cons];lia
theorem cJ.some_of{v:V}{o:Option Value}(r:cJ (some v) o):∃u,o=some u/\RelV v u:=by
 cases o with
 | none=>exact(show False from r).elim
 | some u=>exact⟨u,rfl,r⟩
theorem cJ.none_of{o:Option Value}(r:cJ none o):o=none:=by
 cases o with
 | none=>rfl
 | some u=>exact(show False from r).elim
theorem yl{v:V}{u:Value}(r:RelV v u):PySem.W.handedIn u=true:=by
 cases v with
 | aC=>cases (show u=Value.none from r);rfl
 | bl b=>cases (show u=Value.bool b from r);rfl
 | int i=>obtain⟨t,e⟩:=(show ∃t,u=Value.int i t from r);cases e;rfl
 | str x=>obtain⟨t,e⟩:=(show ∃t,u=Value.str x t from r);cases e;rfl
 | fh b=>obtain⟨t,e⟩:=(show ∃t,u=Value.bytes b t from r);cases e;rfl
 | ig b=>obtain⟨t,e⟩:=(show ∃t,u=Value.float b t from r);cases e;rfl
 | ref a=>cases (show u=Value.ref a from r);rfl
 | ty n=>cases (show u=Value.type n from r);rfl
section
variable{P:Program}{w:World}{H H':Hp}{h h':Heap}{a C dx:Addr}{fs Dz:List (Str×V)}
theorem lz(aB:bw P w H h)(e:H a=some (.ins C dx fs)):∃mA,jj h a dx C mA/\(∀f,cJ (fs.lookup f) (mA f))/\PySem.Within mA (fs.map (·.1))/\fs.length<=1000/\H dx=some (.own a):=by
 obtain⟨d,z,ne,ob,mA,n,r,q⟩:=(show bu P w H h a (.ins C dx fs) from aB a _ e);exact⟨mA,⟨ob,n,ne⟩,r,q,z,d⟩
end
structure dc(K:PySem.W.Frag)(C:Addr):Prop where
 pg:PySem.W.plainGet K C Str.empty=true
 hd:PySem.W.hasDictIn K C=true
 po:PySem.W.plainOver K C=true
 sa:PySem.W.findIn K (.ref C) "__setattr__" = some (some (.builtin "object.__setattr__"))
theorem dc.get{K:PySem.W.Frag}{C:Addr}(c:dc K C)(f:Str):PySem.W.plainGet K C f=true:=c.pg
noncomputable def cE(K:PySem.W.Frag)(C:Addr)(f:Str):Prop:=PySem.W.findIn K (.ref C) f=some none
theorem cE.Ec{K:PySem.W.Frag}{C:Addr}{f:Str}(n:cE K C f):PySem.W.takerIn K C f=some none:=by
 unfold PySem.W.takerIn;rw[show PySem.W.findIn K (.ref C) f=some none from n]
 rfl
structure Meth(K:PySem.W.Frag)(C:Addr)(m:Str)(f:Addr):Prop where
 at_:PySem.W.findIn K (.ref C) m=some (some (.ref f))
 fn:PySem.W.isFn K (.ref f)=true
 kp:PySem.W.keepIn K (.ref f)=true
section
variable{X:Cx}{pins:List (Addr×Obj)}{σ:St}{H:Hp}{s:Shared}{a C dx:Addr}{fs:List (Str×V)}{f:Str}{v:V}{A:Around}{E:Value->Shared->Prop}
theorem Ed{b:Bool}{Q:Value->Shared->Prop}(I:Inv X pins σ H s)(e:H a=some (.ins C dx fs))(c:dc X.K C)(n:cE X.K C f)(l:fs.lookup f=some v)
  (h:∀u s',Inv X pins σ H s'->RelV v u->Q u s'):wpAny (model X.prog X.w) A (getAttr (.ref a) f b) Q E s:=by
 obtain⟨mA,O,r,_,_,_⟩:=lz I.aB e;obtain⟨u,hu,ru⟩:=cJ.some_of (v:=v) (o:=mA f) (by rw[← l];exact r f)
 exact get_map I.bx O (c.get f) c.hd n hu (yl ru) (h u _ (I.tok _) ru)
theorem sN{m:Str}{g:Addr}{pl:Sem Bool}{Q:Value×List Value->Shared->Prop}(I:Inv X pins σ H s)(e:H a=some (.ins C dx fs))(c:dc X.K C)(k:Meth X.K C m g)(l:fs.lookup m=none)
  (h:Q (.ref g,[.ref a]) s):wpAny (model X.prog X.w) A (getMethod (.ref a) m pl) Q E s:=by
 obtain⟨mA,O,r,_,_,_⟩:=lz I.aB e;have hn:mA m=none:=cJ.none_of (by rw[← l];exact r m)
 exact D_ I.bx O (c.get m) k.at_ k.fn hn h
theorem Ef{y:V}{u:Value}{Q:Unit->Shared->Prop}(I:Inv X pins σ H s)(e:H a=some (.ins C dx fs))(c:dc X.K C)(n:cE X.K C f)(hl:fs.length<1000)(ry:RelV y u)
  (h:∀s',Inv X pins σ (upd H a (.ins C dx (cS f y fs))) s'->Q () s'):wpAny (model X.prog X.w) A (setAttr (.ref a) f u) Q E s:=by
 obtain⟨mA,O,r,wi,_,ho⟩:=lz I.aB e;have hz:(fs.map (·.1)).length<=sizeLine:=by rw[List.length_map,sizeLine_eq];lia
 refine Ea I.bx O c.sa c.po n.Ec c.hd wi hz λh' O' sb=>h _ ?_;have hd:∃o,h'.get? dx=some o:=let ⟨o,_,_,e',_⟩:=O'.ns;⟨o,e'⟩
 refine I.write (x:=a) (e:=dx) (by rw[e];exact True.intro) (.inr ho) (λb q hb z=>(sb.2 b hb).trans z) hd ?_
 refine⟨by rw[aG O.ne];exact ho,?_,O.ne,O'.obj,_,O'.ns,λg=>?_,λg hg=>?_⟩
 ·have:=yj f y fs;lia
 ·show cJ ((cS f y fs).lookup g) (if g=f then some u else mA g)
  rw[sL];by_cases q:g=f
  ·rw[if_pos q,if_pos q];exact ry
  ·rw[if_neg q,if_neg q];exact r g
 ·by_cases q:g=f
  ·rw[q];exact(sM f y fs).1
  ·refine(sM f y fs).2 g (wi g λz=>hg ?_)
   show (if g=f then some u else mA g)=none
   rw[if_neg q];exact z
theorem Inv.made(I:Inv X pins σ H s):Inv X pins σ (upd (upd H s.heap.objs.size (.own (s.heap.objs.size+1))) (s.heap.objs.size+1) (.ins C s.heap.objs.size []))
  { s with heap:=(s.heap.push PySem.W.emptyDict).push (PySem.W.instObj C s.heap.objs.size)}:=by
 have e1:(s.heap.push PySem.W.emptyDict).get? s.heap.objs.size=some PySem.W.emptyDict:=Heap.get?_push_size s.heap rfl;have e2:((s.heap.push PySem.W.emptyDict).push (PySem.W.instObj C s.heap.objs.size)).get? (s.heap.objs.size+1)=some (PySem.W.instObj C s.heap.objs.size):=by
  have:=Heap.get?_push_size (s.heap.push PySem.W.emptyDict) (o:=PySem.W.instObj C s.heap.objs.size) rfl;rwa [Heap.size_push] at this
 have e3:(s.heap.push PySem.W.emptyDict).Ns s.heap.objs.size (λ_=>none):=⟨PySem.W.emptyDict,#[],_,e1,rfl,(λe he=>absurd he (by simp)),λ_=>rfl⟩
 have I1:=I.laid (a:=s.heap.objs.size) (o:=.own (s.heap.objs.size+1)) (h':=s.heap.push PySem.W.emptyDict) (t':=s.toks) (λb u q=>Heap.get?_push_of_some _ q) (Nat.le_refl _) ⟨_,e1⟩;refine I1.laid (a:=s.heap.objs.size+1) (o:=.ins C s.heap.objs.size []) (t':=s.toks) (λb u q=>Heap.get?_push_of_some _ q) (Nat.le_of_eq (Heap.size_push _ _)) ?_;have ne:s.heap.objs.size≠s.heap.objs.size+1:=Nat.ne_of_lt (Nat.lt_succ_self _);refine⟨by rw[aG ne,aF],Nat.zero_le _,ne,e2,λ_=>none,(Heap.Ns1.of_empty e3).at λo q=>Heap.get?_push_of_some _ q,λ_=>True.intro,λy hy=>absurd rfl hy⟩
theorem ym{prog:Program}{w:World}{env:Env}{e:Expr}{f:Str}{pos:Pos}{s:Shared}{Q:Value->Shared->Prop}(hb:attributeBase e f env (eval e env)=eval e env)
  (h:wpAny (model prog w) A (eval e env) (λo aM=>wpAny (model prog w) A (getAttr o f true) Q E aM) E s):wpAny (model prog w) A (eval (.Attribute e f pos) env) Q E s :=
 Attribute_any_ h (by rw[arm_eval_Attribute,hb])
end
noncomputable def Eg(K:PySem.W.Frag)(ta:TE)(f:Str):TE:=λσ H Q=>ta σ H λx H1=>∃a C dx fs v,x = .ref a/\H1 a=some (.ins C dx fs)/\dc K C/\cE K C f/\fs.lookup f=some v/\Q v H1
noncomputable def Eh(K:PySem.W.Frag)(ta tv:TE)(f:Str):TS:=λD σ H=>tv σ H λy H1=>ta σ H1 λx H2=>∃a C dx fs,x = .ref a/\H2 a=some (.ins C dx fs)/\dc K C/\cE K C f/\fs.length<1000/\
 D.nx σ (upd H2 a (.ins C dx (cS f y fs)))
section
variable{X:Cx}{o e value:Expr}{f:Str}{pos pos' Ei:Pos}{ta tv:TE}
theorem gA(he:PE X e ta)(hb:attributeBase e f X.env (eval e X.env)=eval e X.env):PE X (.Attribute e f pos) (Eg X.K ta f):=by
 intro pins s σ H Q I h;refine ym hb (aI (he pins s σ H _ I h) λu s1 ⟨x,H1,I1,rx,a,C,dx,fs,v,ex,ea,c,n,l,q⟩=>?_);subst ex;obtain rfl:u=Value.ref a:=rx;exact Ed I1 ea c n l λu' s2 I2 ru=>⟨v,H1,I2,ru,q⟩
theorem j7(ha:PE X o ta)(hv:PE X value tv)(hs:swapsWith value (some (.Attribute o f pos')) pos.line X.env=pure false):PS X (.Assign [.Attribute o f pos'] value pos) (Eh X.K ta tv f):=by
 intro pins s σ H D I h;refine plainObj_wpAny_Assign_Attribute (aI (hv pins s σ H _ I h) λu s1 ⟨y,H1,I1,ry,q⟩=>aI (ha pins s1 σ H1 _ I1 q) λov s2 ⟨x,H2,I2,rx,a,C,dx,fs,ex,ea,c,n,l,q2⟩=>?_) hs;subst ex;obtain rfl:ov=Value.ref a:=rx;exact Ef I2 ea c n l ry λs3 I3=>⟨σ,_,I3,q2⟩
end
section
variable{X:Cx}{pins:List (Addr×Obj)}{σ:St}{H:Hp}{s:Shared}{A:Around}{E:Value->Shared->Prop}{Q:Value->Shared->Prop}{c:Value}{b:Bool}
inductive dB (K:PySem.W.Frag) (H:Hp):V->Value->Prop where
 | aC:dB K H .aC (.type "NoneType")
 | bl (x:Bool):dB K H (.bl x) (.type "bool")
 | int (i:Int):dB K H (.int i) (.type "int")
 | str (x:Str):dB K H (.str x) (.type "str")
 | ig (x:UInt64):dB K H (.ig x) (.type "float")
 | lst {a:Addr} {xs:List V} (e:H a=some (.lst xs)):dB K H (.ref a) (.type "list")
 | dm {a:Addr} {o:Obj} {xs:List V} (e:H a=some (.dm o (.lst xs))):dB K H (.ref a) (.type "list")
 | tup {a:Addr} {xs:List V} (e:H a=some (.tup xs)):dB K H (.ref a) (.type "tuple")
 | dK {a:Addr} {ao:List (Key×V)} (e:H a=some (.dK ao)):dB K H (.ref a) (.type "dict")
 | dT {a:Addr} {ao:List (List Key×V)} (e:H a=some (.dT ao)):dB K H (.ref a) (.type "dict")
 | ins {a C dx:Addr} {fs:List (Str×V)} (e:H a=some (.ins C dx fs)) (cl:dc K C) (ha:PySem.W.findIn K (.ref C) "__class__" = some (some (.builtin "object.__class__")))
   (hn:PySem.W.specialIn K (.builtin "object.__class__") "__get__" = some (some (.builtin "getset_descriptor.__get__"))) (jk:PySem.W.takesIn K (.builtin "object.__class__")=some true)
   (hm:PySem.W.mroIn K C (.type "object")=some true):dB K H (.ref a) (.ref C)
theorem Ej{x:V}{u t:Value}(I:Inv X pins σ H s)(rx:RelV x u)(ty:dB X.K H x t)(e:PySem.W.kitOne X.K t c=some b)(h:∀tk,Q (.bool b) { s with toks:=tk }) :
  wpAny (model X.prog X.w) A (call (.builtin "isinstance") [u,c]) Q E s:=by
 cases ty with
 | aC=>cases (show u=Value.none from rx);exact PySem.W.kia_one PySem.W.kitx_none I.bx True.intro e (λz=>nomatch z) h
 | bl y=>cases (show u=Value.bool y from rx);exact PySem.W.kia_one PySem.W.kitx_bool I.bx True.intro e (λz=>nomatch z) h
 | int i=>obtain⟨t,q⟩:=(show ∃t,u=Value.int i t from rx);cases q;exact PySem.W.kia_one PySem.W.kitx_int I.bx True.intro e (λz=>nomatch z) h
 | str y=>obtain⟨t,q⟩:=(show ∃t,u=Value.str y t from rx);cases q;exact PySem.W.kia_one PySem.W.kitx_str I.bx True.intro e (λz=>nomatch z) h
 | ig y=>obtain⟨t,q⟩:=(show ∃t,u=Value.float y t from rx);cases q;exact PySem.W.kia_one PySem.W.kitx_float I.bx True.intro e (λz=>nomatch z) h
 | @lst a xs ea =>
  cases (show u=Value.ref a from rx);obtain⟨_,_,n,_,h1⟩:=(show bu X.prog X.w H s.heap a (.lst xs) from I.aB a _ ea);exact PySem.W.kia_one PySem.W.kitx_list I.bx ⟨_,h1,rfl⟩ e (λz=>nomatch z) h
 | @dm a ob xs ea =>
  cases (show u=Value.ref a from rx);obtain⟨_,_,_,n,_,h1⟩:=(show bu X.prog X.w H s.heap a (.dm ob (.lst xs)) from I.aB a _ ea);exact PySem.W.kia_one PySem.W.kitx_list I.bx ⟨_,h1,rfl⟩ e (λz=>nomatch z) h
 | @tup a xs ea =>
  cases (show u=Value.ref a from rx);obtain⟨_,_,_,p⟩:=(show bu X.prog X.w H s.heap a (.tup xs) from I.aB a _ ea);obtain⟨o,h1,h2,_⟩:=p;exact PySem.W.kia_one PySem.W.kitx_tuple I.bx ⟨o,h1,h2⟩ e (λz=>nomatch z) h
 | @dK a ao ea =>
  cases (show u=Value.ref a from rx);obtain⟨_,_,vs,_,p⟩:=(show bu X.prog X.w H s.heap a (.dK ao) from I.aB a _ ea);obtain⟨o,es,ep,h1,h2,_⟩:=p;exact PySem.W.kia_one PySem.W.kitx_dict I.bx ⟨o,h1,h2.1⟩ e (λz=>nomatch z) h
 | @dT a ao ea =>
  cases (show u=Value.ref a from rx);obtain⟨_,_,xs,_,o,es,ep,h1,h2,_⟩:=(show bu X.prog X.w H s.heap a (.dT ao) from I.aB a _ ea);exact PySem.W.kia_one PySem.W.kitx_dict I.bx ⟨o,h1,h2.1⟩ e (λz=>nomatch z) h
 | @ins a C dx fs ea cl ha hn jk hm =>
  cases (show u=Value.ref a from rx);obtain⟨mA,O,_⟩:=lz I.aB ea;obtain⟨od,J,_⟩:=O.look;exact PySem.W.kia_one (PySem.W.kitx_own (cl.get _) cl.hd ha hn jk hm) I.bx J e (λz=>nomatch z) h
end
structure bK(k:Nat)(A:Around):Prop where
 hd:A.handled=none
 dp:A.depth+3*k+5<recursionLimit
 un:A.units+16*k+200<cLine
theorem bK.mono{j k:Nat}{A:Around}(r:bK k A)(h:j<=k):bK j A:=⟨r.hd,by have:=r.dp;lia,by have:=r.un;lia⟩
theorem bK.deeper{k:Nat}{A:Around}(r:bK (k+1) A)(env:Env):bK k (A.deeper env) :=
 ⟨r.hd,by have:=r.dp;show A.depth+1+3*k+5<_;lia,by have:=r.un;show A.units+3+16*k+200<_;lia⟩
theorem Ek{A:Around}{C:Addr}{us:List Value}{kw:List (Str×Value)}:(A.under (.builtin "type.__call__" ⟨.ref C::us,kw⟩)).depth=A.depth+1:=by
 first | rfl | simp[Around.under,Code.weight,Code.isCreation,Code.isGuard,Code.isCaller,Code.frames,Code.isFrame,guardIds]
theorem El{A:Around}{C:Addr}{us:List Value}{kw:List (Str×Value)}:(A.under (.builtin "type.__call__" ⟨.ref C::us,kw⟩)).units=A.units+1:=by
 first | rfl | simp[Around.under,Code.cUnits,Code.frames,Code.isFrame]
theorem bK.make{k:Nat}{A:Around}(r:bK (k+1) A)(C:Addr)(us:List Value)(kw:List (Str×Value)):bK k (A.under (.builtin "type.__call__" ⟨.ref C::us,kw⟩)) :=
 ⟨r.hd,by have:=r.dp;rw[Ek];lia,by have:=r.un;rw[El];lia⟩
theorem bK.depth{k:Nat}{A:Around}(r:bK k A):A.depth<recursionLimit:=by have:=r.dp;lia
theorem bK.units{k:Nat}{A:Around}(r:bK k A):A.units+64<cLine:=by have:=r.un;lia
theorem bK.Em{k:Nat}{A:Around}(r:bK k A):A.units<cLine:=by have:=r.un;lia
noncomputable def yp:TA:=λ_ H Q=>Q [] H
noncomputable def En(ta:TE)(tr:TA):TA:=λσ H Q=>ta σ H λx H1=>tr σ H1 λxs H2=>Q (x::xs) H2
section
variable{X:Cx}{e:Expr}{es:List Expr}{te:TE}{t:TA}{pos:Pos}
theorem aj:PA X [] yp:=λ_ _ _ _ H Q I h=>Calls.spliced_nil ⟨[],H,I,.nil,h⟩
theorem aa(ha:PE X e te)(hr:PA X es t)(hs:starEach (e::es) X.env=(false,eval e X.env)::starEach es X.env:=by rfl):PA X (e::es) (En te t):=by
 intro pos pins s σ H Q I h;rw[hs]
 show wpAny _ _ (spliced ((false,eval e X.env)::backTo pos (starEach es X.env))) _ _ s;refine Calls.spliced_cons (aI (ha pins s σ H _ I h) λu s1 ⟨x,H1,I1,r1,q1⟩=>?_);exact aI (hr pos pins s1 σ H1 _ I1 q1) λus s2 ⟨xs,H2,I2,r2,q2⟩=>⟨x::xs,H2,I2,.cons r1 r2,q2⟩
noncomputable def Eo(t:TA):TE:=λσ H Q=>t σ H λxs H1=>xs.length<=sizeLine/\∀p,H1 p=none->Q (.ref p) (upd H1 p (.tup xs))
noncomputable def Ep(t:TA):TE:=λσ H Q=>t σ H λxs H1=>xs.length<=sizeLine/\∀p,H1 p=none->Q (.ref p) (upd H1 p (.lst xs))
theorem cK{x1}(h:PA X es t):PE X (.Tuple es x1 pos) (Eo t):=by
 intro pins s σ H Q I hq;refine wpAny_Tuple_spliced (aI (h pos pins s σ H _ I hq) λus s1 ⟨xs,H1,I1,r,z,q⟩=>⟨by rw[← r.length];exact z,?_⟩)
 have hf:H1 s1.heap.objs.size=none:=I1.aB.fresh (Nat.le_refl _);refine⟨.ref s1.heap.objs.size,upd H1 s1.heap.objs.size (.tup xs),I1.laid (t':=s1.toks) (λb u e=>Heap.get?_push_of_some _ e) (Nat.le_refl _) ?_,rfl,q _ hf⟩;exact⟨z,us,r,⟨_,Heap.get?_push_size _ rfl,rfl,_,rfl⟩⟩
theorem eG(h:PA X es t):PE X (.List es pos) (Ep t):=by
 intro pins s σ H Q I hq;refine wpAny_List_spliced (aI (h pos pins s σ H _ I hq) λus s1 ⟨xs,H1,I1,r,z,q⟩=>⟨by rw[← r.length];exact z,?_⟩)
 have hf:H1 s1.heap.objs.size=none:=I1.aB.fresh (Nat.le_refl _);refine⟨.ref s1.heap.objs.size,upd H1 s1.heap.objs.size (.lst xs),I1.laid (t':=s1.toks) (λb u e=>Heap.get?_push_of_some _ e) (Nat.le_refl _) ?_,rfl,q _ hf⟩;exact⟨z,us,0,r,Heap.get?_push_size _ rfl⟩
end
noncomputable abbrev Sp:=List V->Hp->VK->XK->Prop
noncomputable abbrev dD:=List Env->Hp->Shared->XK->Value->Shared->Prop
structure jl(P:Program)(w:World)(K:PySem.W.Frag)(mg:Str->Option Value)(base:Heap)(A:Around)(outer:List Env)(s:Shared)(H:Hp):Prop where
 frames:A.frames=some outer
 mod:Mod K mg base
 bs:∀b o,base.get? b=some o->s.heap.get? b=some o/\H b=none
 fM:base.objs.size<=s.heap.objs.size
 dI:s.heap.FunFrames base outer
 fO:∀b∈bC outer,H b=none
 aB:bw P w H s.heap
 bare:AllBare s.gens
noncomputable def CE(outer:List Env)(P:Program)(w:World)(H:Hp)(s:Shared)(Q:VK)(u:Value)(s':Shared):Prop :=
 ∃v H',s'.os=s.os/\AllBare s'.gens/\Un (bC outer) [] H H' s.heap s'.heap/\bw P w H' s'.heap/\RelV v u/\Q v H'
noncomputable def CR(CX:dD)(outer:List Env)(P:Program)(w:World)(H:Hp)(s:Shared)(Q:VK)(E:XK)(r:Result)(s':Shared):Prop :=
 match r with
 | .ok (.ret u)=>CE outer P w H s Q u s'
 | .ok _=>False
 | .error e=>CX outer H s E e s'
structure bh(P:Program)(w:World)(K:PySem.W.Frag)(mg:Str->Option Value)(base:Heap)(CX:dD)(k:Nat)(f:Addr)(fd:FuncData)(ps:List Str)(sp:Sp):Prop where
 len:∀vs H Q E,sp vs H Q E->vs.length=ps.length
 run:∀(A:Around) (outer:List Env) (s:Shared) (H:Hp) (args:Args) (us:List Value) (vs:List V) (Q:VK) (E:XK),bK k A->jl P w K mg base A outer s H->BindsTo s fd args (ps.zip us)->Vals vs us->sp vs H Q E->
  codeAny (model P w) A (.call (.ref f) args) (CR CX outer P w H s Q E) s
theorem bh.mono{P:Program}{w:World}{K:PySem.W.Frag}{mg:Str->Option Value}{base:Heap}{CX:dD}{j k:Nat}{f:Addr}{fd:FuncData}{ps:List Str}{sp:Sp}(F:bh P w K mg base CX j f fd ps sp)(h:j<=k) :
  bh P w K mg base CX k f fd ps sp:=⟨F.len,λA outer s H args us vs Q E hr=>F.run A outer s H args us vs Q E (hr.mono h)⟩
theorem jl.make{P:Program}{w:World}{K:PySem.W.Frag}{mg:Str->Option Value}{base:Heap}{A:Around}{outer:List Env}{s:Shared}{H:Hp}(e:jl P w K mg base A outer s H)(C:Addr)(us:List Value)(kw:List (Str×Value)) :
  jl P w K mg base (A.under (.builtin "type.__call__" ⟨.ref C::us,kw⟩)) outer s H:=⟨by first | exact e.frames | (simpa[Around.under,Code.envs,Code.isFrame,pushEnvs] using e.frames),e.mod,e.bs,e.fM,e.dI,e.fO,e.aB,e.bare⟩
section
variable{X:Cx}{pins:List (Addr×Obj)}{σ:St}{H:Hp}{s s':Shared}
theorem Inv.oH(I:Inv X pins σ H s):jl X.prog X.w X.K X.mg X.base X.A X.stack s H :=
 ⟨I.ok.frames,I.ok.mod,I.bs,Nat.le_trans I.ok.fM I.sz,I.stack,I.rZ,I.aB,I.bare⟩
theorem Inv.after{Q:VK}{u:Value}(I:Inv X pins σ H s)(h:CE X.stack X.prog X.w H s Q u s'):EP X pins σ Q u s':=by
 obtain⟨v,H',os,bare,un,aB,r,q⟩:=h;obtain⟨hh,g,d,t,Er⟩:=s';obtain rfl:Er=s.os:=os;exact⟨v,H',I.call (h':=hh) (g':=g) (d':=d) (t':=t) (ch:=[]) un aB bare (λb z=>absurd z (by simp)),r,q⟩
end
noncomputable def Es(sp:Sp)(bf:List V)(E:XK)(t:TA):TE:=λσ H Q=>t σ H λvs H1=>sp (vs++bf) H1 Q E
noncomputable def ND(C:Addr)(m:Str)(sp:Sp)(bf:List V)(E:XK)(ta:TE)(t:TA):TE:=λσ H Q=>ta σ H λx H1=>∃a dx fs,x = .ref a/\H1 a=some (.ins C dx fs)/\fs.lookup m=none/\
 t σ H1 λvs H2=>sp (x::(vs++bf)) H2 Q E
noncomputable def Et(C:Addr)(sp:Sp)(bf:List V)(E:XK)(t:TA):TE:=λσ H Q=>t σ H λvs H1=>∀x dx,H1 x=none->H1 dx=none->dx≠x->
 sp (.ref x::(vs++bf)) (upd (upd H1 dx (.own x)) x (.ins C dx [])) (λv H2=>v = .aC/\Q (.ref x) H2) E
noncomputable def Binds(K:PySem.W.Frag)(fd:FuncData)(ps:List Str)(ds:List Value):Prop :=
 ∀(s:Shared) (us:List Value),K.In s.heap->(us++ds).length=ps.length->BindsTo s fd ⟨us,[]⟩ (ps.zip (us++ds))
theorem Binds.all{K:PySem.W.Frag}{fd:FuncData}{ps:List Str}(h:∀us:List Value,us.length=ps.length->bindArgs fd ⟨us,[]⟩=pure (ps.zip us)):Binds K fd ps []:=λs us _ hl=>by
 rw[List.append_nil] at hl ⊢;exact .of_eq (h us hl)
noncomputable def Passes(CX:dD)(X:Cx)(E:XK):Prop:=∀(pins:List (Addr×Obj)) (σ:St) (H:Hp) (s:Shared) (e:Value) (s':Shared),Inv X pins σ H s->CX X.stack H s E e s'->X.xe e s'
section
variable{X:Cx}{CX:dD}{k:Nat}{f C:Addr}{fd:FuncData}{ps:List Str}{sp:Sp}{bf:List V}{ds:List Value}{E:XK}{x m:Str}{p pos apos:Pos}{e o:Expr}{es:List Expr}{ta:TE}{t:TA}
theorem sO{pins:List (Addr×Obj)}{σ:St}{H:Hp}{s:Shared}{Q:VK}{us:List Value}{vs:List V}(F:bh X.prog X.w X.K X.mg X.base CX k f fd ps sp)(hr:bK k X.A)(hb:Binds X.K fd ps ds)(hd:Vals bf ds)(hx:Passes CX X E)
  (I:Inv X pins σ H s) (r:Vals vs us) (h:sp (vs++bf) H Q E):wpAny (model X.prog X.w) X.A (call (.ref f) us) (EP X pins σ Q) X.xe s:=by
 have r2:Vals (vs++bf) (us++ds):=r.append hd;have hl:(us++ds).length=ps.length:=by rw[← r2.length];exact F.len _ _ _ _ h
 refine wpAny_call (codeAny_mono (F.run X.A X.stack s H ⟨us,[]⟩ (us++ds) (vs++bf) Q E hr I.oH (hb s us I.bx hl) r2 h) λr s' hq=>?_);cases r with
 | error e=>exact hx pins σ H s e s' I hq
 | ok fl =>
  cases fl with
  | ret u=>exact I.after hq
  | next=>exact False.elim hq
  | brk=>exact False.elim hq
  | cont=>exact False.elim hq
theorem aZ(F:bh X.prog X.w X.K X.mg X.base CX k f fd ps sp)(hr:bK k X.A)(hg:Gl X x)(hm:X.mg x=some (.ref f))(hk:PySem.W.keepIn X.K (.ref f)=true)(hb:Binds X.K fd ps ds)(hd:Vals bf ds)(hx:Passes CX X E)
  (ha:PA X (e::es) t) (eZ:(x == ("__debug__" : Str))=false:=by decide) (he:starEach (e::es) X.env=(false,eval e X.env)::starEach es X.env:=by rfl) (dg:(backTo pos (starEach es X.env)).any (·.1)=false:=by rfl) :
  PE X (.Call (.Name x p) (e::es) [] pos) (Es sp bf E t):=by
 intro pins s σ H Q I h;refine wpAny_Call_Name_kw (j0 I hg hm ?_ eZ);refine PySem.W.callWith_K (h₀:=X.base) I.ok.mod.iX hk (aI (ha pos pins s σ H _ I h) λus s1 ⟨vs,H1,I1,r,q⟩=>⟨I1.bx,?_⟩) he dg;exact sO F hr hb hd hx I1 r q
structure Mk(K:PySem.W.Frag)(C f:Addr):Prop where
 makes:PySem.W.makesIn K C=true
 init:PySem.W.findIn K (.ref C) "__init__" = some (some (.ref f))
 fn:PySem.W.isFn K (.ref f)=true
 kp:PySem.W.keepIn K (.ref C)=true
theorem Eu{pins:List (Addr×Obj)}{σ:St}{H:Hp}{s:Shared}{Q:VK}{us:List Value}{vs:List V}(M:Mk X.K C f)(F:bh X.prog X.w X.K X.mg X.base CX k f fd ps sp)(hr:bK (k+1) X.A)(hb:Binds X.K fd ps ds)(hd:Vals bf ds)
  (hx:Passes CX X E) (I:Inv X pins σ H s) (r:Vals vs us)
  (h:∀x dx,H x=none->H dx=none->dx≠x->sp (.ref x::(vs++bf)) (upd (upd H dx (.own x)) x (.ins C dx [])) (λv H2=>v = .aC/\Q (.ref x) H2) E) :
  wpAny (model X.prog X.w) X.A (call (.ref C) us) (EP X pins σ Q) X.xe s:=by
 have hq:=h (s.heap.objs.size+1) s.heap.objs.size (I.aB.fresh (Nat.le_succ _)) (I.aB.fresh (Nat.le_refl _)) (Nat.ne_of_lt (Nat.lt_succ_self _));have I2:=Inv.made (C:=C) I;have r2:Vals (V.ref (s.heap.objs.size+1)::(vs++bf)) (Value.ref (s.heap.objs.size+1)::(us++ds)):=.cons rfl (r.append hd);have hl:(Value.ref (s.heap.objs.size+1)::us++ds).length=ps.length:=by
  have e:=r2.length;rw[F.len _ _ _ _ hq] at e;exact e.symm
 refine wpAny_call (Eb (f:=f) I.bx M.makes M.init (beq_iff_eq.mp M.fn) (codeAny_mono (F.run _ X.stack _ _ ⟨Value.ref (s.heap.objs.size+1)::us,[]⟩ (Value.ref (s.heap.objs.size+1)::(us++ds)) _ _ E (hr.make C us [])
  (I2.oH.make C us []) (hb _ (Value.ref (s.heap.objs.size+1)::us) I2.bx hl) r2 hq) λr s' dF=>?_))
 cases r with
 | error e=>exact hx pins σ _ _ e s' I2 dF
 | ok fl =>
  cases fl with
  | ret u =>
   obtain⟨v,H',I3,rv,ev,q3⟩:=I2.after dF;subst ev;exact⟨rv,⟨V.ref (s.heap.objs.size+1),H',I3,rfl,q3⟩⟩
  | next=>exact False.elim dF
  | brk=>exact False.elim dF
  | cont=>exact False.elim dF
theorem Ew(M:Mk X.K C f)(F:bh X.prog X.w X.K X.mg X.base CX k f fd ps sp)(hr:bK (k+1) X.A)(hg:Gl X x)(hm:X.mg x=some (.ref C))(hb:Binds X.K fd ps ds)(hd:Vals bf ds)(hx:Passes CX X E)
  (ha:PA X (e::es) t) (eZ:(x == ("__debug__" : Str))=false:=by decide) (he:starEach (e::es) X.env=(false,eval e X.env)::starEach es X.env:=by rfl) (dg:(backTo pos (starEach es X.env)).any (·.1)=false:=by rfl) :
  PE X (.Call (.Name x p) (e::es) [] pos) (Et C sp bf E t):=by
 intro pins s σ H Q I h;refine wpAny_Call_Name_kw (j0 I hg hm ?_ eZ);refine PySem.W.callWith_K (h₀:=X.base) I.ok.mod.iX M.kp (aI (ha pos pins s σ H _ I h) λus s1 ⟨vs,H1,I1,r,q⟩=>⟨I1.bx,?_⟩) he dg;exact Eu M F hr hb hd hx I1 r q
end
noncomputable def PK(X:Cx)(yq:List Keyword)(t:TA):Prop :=
 ∀(pos:Pos) (pins:List (Addr×Obj)) (s:Shared) (σ:St) (H:Hp) (Q:List V->Hp->Prop),Inv X pins σ H s->t σ H Q->wpAny (model X.prog X.w) X.A (evalAll ((backToKw pos (keywordEach yq X.env)).map (·.2))) (AP X pins σ Q) X.xe s
section
variable{X:Cx}{CX:dD}{k:Nat}{f C:Addr}{fd:FuncData}{ps ks:List Str}{sp:Sp}{E:XK}{x m:Str}{p pos apos NF:Pos}{e o:Expr}{es:List Expr}{yq:List Keyword}{te ta:TE}{t tk:TA}{nm:Option Str}
variable{g:List Value->List Value->List Value}{gV:List V->List V->List V}
end
structure bU(N P:List Str)(sc:Scope):Prop where
 kind:sc.kind = .function
 co:sc.isCoroutine=false
 gen:sc.isGenerator=false
 nd:N.Nodup
 pre:N.take P.length=P
 par:∀x∈P,sc.names.lookup x=some .local\/sc.names.lookup x=some .cell
 Ex:∀y∈sc.names,y.2≠.free
theorem yr{kindOf:Str->Option NameKind}{x:Str}:∀ {binds:List (Str×Value)} {m:Str->Option Value},(∀v,(x,v)∉binds)->bindL kindOf binds m x=m x
 | [],_,_=>rfl
 | (n,v)::r,m,h=>by
  unfold bindL;rw[yr λw hw=>h w (List.mem_cons_of_mem _ hw)];split
  ·have:x≠n:=by rintro rfl;exact h v List.mem_cons_self
   simp[this]
  ·rfl
theorem yt{kindOf:Str->Option NameKind}{x:Str}:∀ {binds:List (Str×Value)} {m:Str->Option Value},(∀v,(x,v)∉binds)->bindC kindOf binds m x=m x
 | [],_,_=>rfl
 | (n,v)::r,m,h=>by
  unfold bindC;rw[yt λw hw=>h w (List.mem_cons_of_mem _ hw)];split
  ·rfl
  ·have:x≠n:=by rintro rfl;exact h v List.mem_cons_self
   simp[this]
theorem yu{kindOf:Str->Option NameKind}{x:Str}{v:Value}:∀ {P:List Str} {vs:List Value} {i:Nat} {m:Str->Option Value},P.Nodup->P[i]? = some x->vs[i]? = some v->kindOf x=some .local->
  bindL kindOf (P.zip vs) m x=some v
 | [],_,_,_,_,h,_,_=>by simp at h
 | _::_,[],_,_,_,_,h,_=>by simp at h
 | p::P,w::vs,0,m,nd,h1,h2,hk=>by
  simp at h1 h2;subst h1;subst h2
  show bindL kindOf ((p,w)::P.zip vs) m p=_;unfold bindL;rw[yr λv hv=>(List.nodup_cons.mp nd).1 (List.of_mem_zip hv).1,if_pos hk];simp
 | p::P,w::vs,i+1,m,nd,h1,h2,hk=>by
  show bindL kindOf ((p,w)::P.zip vs) m x=_;unfold bindL;exact yu (i:=i) (List.nodup_cons.mp nd).2 (by simpa using h1) (by simpa using h2) hk
theorem yw{kindOf:Str->Option NameKind}{x:Str}{v:Value}:∀ {P:List Str} {vs:List Value} {i:Nat} {m:Str->Option Value},P.Nodup->P[i]? = some x->vs[i]? = some v->kindOf x≠some .local->
  bindC kindOf (P.zip vs) m x=some v
 | [],_,_,_,_,h,_,_=>by simp at h
 | _::_,[],_,_,_,_,h,_=>by simp at h
 | p::P,w::vs,0,m,nd,h1,h2,hk=>by
  simp at h1 h2;subst h1;subst h2
  show bindC kindOf ((p,w)::P.zip vs) m p=_;unfold bindC;rw[yt λv hv=>(List.nodup_cons.mp nd).1 (List.of_mem_zip hv).1,if_neg hk];simp
 | p::P,w::vs,i+1,m,nd,h1,h2,hk=>by
  show bindC kindOf ((p,w)::P.zip vs) m x=_;unfold bindC;exact yw (i:=i) (List.nodup_cons.mp nd).2 (by simpa using h1) (by simpa using h2) hk
noncomputable def start(N:List Str)(vs:List V):St:=vs.map some++List.replicate (N.length - vs.length) none
noncomputable def fW(CX:dD)(P:Program)(w:World)(K:PySem.W.Frag)(mg:Str->Option Value)(base:Heap)(N:List Str)(qual:Str)(scope:Scope)(f:Addr)(cd:Value)(A:Around)(outer:List Env)(s:Shared)(H:Hp)(E:XK):Cx where
 prog:=P
 w:=w
 K:=K
 mg:=mg
 base:=base
 A:=A.deeper (envOfC qual scope s.heap.objs.size f cd)
 N:=N
 aX:=s
 fL:=H
 env:=envOfC qual scope s.heap.objs.size f cd
 outer:=outer
 stack:=envOfC qual scope s.heap.objs.size f cd::outer
 ex:=[]
 calm:=true
 fn:=λ_=>true
 pn:=[]
 xe:=λe s'=>wpAny (model P w) (A.deeper (envOfC qual scope s.heap.objs.size f cd)) (leaving (envOfC qual scope s.heap.objs.size f cd) e) (λ_ sP=>CX outer H s E e sP) (λe' sP=>CX outer H s E e' sP) s'
theorem yx{sc:Scope}{n:Nat}{x:Str}(h:sc.names.lookup x=some .cell):∃c,(cellsFrom n sc.names []).lookup x=some c:=by
 have q:=PySem.W.cellsFrom_some sc.names n [] (.inl h);exact Option.isSome_iff_exists.mp q
theorem Ey{CX:dD}{P:Program}{w:World}{K:PySem.W.Frag}{mg:Str->Option Value}{base:Heap}{N ps:List Str}{qual:Str}{scope:Scope}{f:Addr}{cd:Value}{A:Around}{outer:List Env}{s s1:Shared}{H:Hp}{E:XK}{us:List Value}{vs:List V}
  (S:bU N ps scope) (hd:A.handled=none) (e0:jl P w K mg base A outer s H) (hl:vs.length=ps.length) (r:Vals vs us)
  (x:InCallC s s.heap.objs.size (bindL (envOfC qual scope s.heap.objs.size f cd).kindOf (ps.zip us) λ_=>none) (cellsFrom (s.heap.objs.size+1) scope.names []) (bindC (envOfC qual scope s.heap.objs.size f cd).kindOf (ps.zip us) λ_=>none) s1) :
  Inv (fW CX P w K mg base N qual scope f cd A outer s H E) [] (start N vs) H s1:=by
 have dg:ps.length<=N.length:=by have:=congrArg List.length S.pre;rw[List.length_take] at this;lia
 obtain⟨h1,tk,rfl,hk⟩:=x.done;have lA:∀b:Addr,b∉(fW CX P w K mg base N qual scope f cd A outer s H E).ex:=λb z=>absurd (show b∈([]:List Addr) from z) (by simp)
 refine⟨⟨e0.mod,S.kind,rfl,rfl,Nat.le_refl _,λy z c h1 h2=>?_,λy hy=>?_,λy c _ h=>?_,λ_=>hd,Around.frames_deeper e0.frames,.inr ⟨rfl,rfl⟩,λb z=>absurd z (lA b),e0.bs,e0.fM,λb _ _=>lA b,λb z=>absurd z (lA b),e0.dI,e0.fO⟩,
  rfl,e0.bare,Un.kept hk,⟨_,x.toInCall.ns,λi y v h1 h2 h3=>?_⟩,λy c h=>⟨_,x.cell y c h⟩,e0.aB.fresh (Nat.le_refl _),λy c h=>?_,λp hp=>absurd (show p∈([]:List (Addr×Obj)) from hp) (by simp),e0.aB.kept hk,?_⟩
 ·exact name_of_addr x.apart (PySem.mem_of_lookup h1) (PySem.mem_of_lookup h2)
 ·have hy:scope.names.lookup y=some .cell\/scope.names.lookup y=some .free:=hy;rcases hy with hy | hy
  ·exact yx hy
  ·exact absurd rfl (S.Ex _ (PySem.mem_of_lookup hy))
 ·exact Nat.le_of_lt (x.above y c (PySem.mem_of_lookup h))
 ·have hi:i<vs.length:=by
   unfold start at h2;by_cases hi:i<vs.length
   ·exact hi
   ·rw[List.getElem?_append_right (by simpa using hi)] at h2
    rw[List.getElem?_replicate] at h2;split at h2 <;> cases h2
  have ha:vs[i]? = some v:=by
   unfold start at h2;rw[List.getElem?_append_left (by simpa using hi),List.getElem?_map] at h2
   cases e:vs[i]? with
   | none=>rw[e] at h2;cases h2
   | some a=>rw[e] at h2;cases h2;rfl
  obtain⟨u,hu,rv⟩:=r.get ha;have hp:ps[i]? = some y:=by
   rw[← S.pre,List.getElem?_take_of_lt (by lia)];exact h1
  have yy:ps.Nodup:=by rw[← S.pre];exact S.nd.sublist (List.take_sublist _ _)
  refine⟨u,rv,?_⟩;rcases S.par y (List.mem_of_getElem? hp) with k | k
  ·exact .inl ⟨k,yu yy hp hu k⟩
  ·obtain⟨c,e⟩:=yx (n:=s.heap.objs.size+1) k;refine .inr ⟨.inl k,c,e,?_⟩;have q:=x.cell y c e;rw[yw yy hp hu (by show scope.names.lookup y≠_;rw[k];decide)] at q
   exact q
 ·exact e0.aB.fresh (Nat.le_of_lt (x.above y c (PySem.mem_of_lookup h)))
 ·unfold start
  show _=N.length;rw[List.length_append,List.length_map,List.length_replicate];lia
theorem sQ{CX:dD}{P:Program}{w:World}{K:PySem.W.Frag}{mg:Str->Option Value}{base:Heap}{k:Nat}{f:Addr}{name qual:Str}{params:Arguments}{body:List Stmt}{scope:Scope}{dV kV doc pm aK ct oc:Value}{an od:Option Addr}
  {dW:Array (Option Value)} {N ps:List Str} {sp:Sp} (lk:K.lookup f=some ⟨oc,od,.func (PySem.W.fnOf name qual params body scope dV kV doc pm an aK ct),dW⟩) (bR:PySem.W.codeIn K aK qual=true) (S:bU N ps scope)
  (len:∀vs H Q E,sp vs H Q E->vs.length=ps.length)
  (jm:∀(A:Around) (outer:List Env) (s:Shared) (H:Hp) (vs:List V) (Q:VK) (E:XK),bK k (A.deeper (envOfC qual scope s.heap.objs.size f aK))->sp vs H Q E->
   ∃t,dw (fW CX P w K mg base N qual scope f aK A outer s H E) body t/\t { nx:=λ_ H'=>Q .aC H',rt:=Q } (start N vs) H) :
  bh P w K mg base CX (k+1) f (PySem.W.fnOf name qual params body scope dV kV doc pm an aK ct) ps sp:=by
 refine⟨len,λA outer s H args us vs Q E hr e0 hb r fB=>?_⟩;have hl:=len _ _ _ _ fB;have KX:K.In s.heap:=e0.mod.iX.keeps λb o e=>(e0.bs b o e).1;have lim:s.heap.NoLimit:=e0.mod.nolimit.keeps λb o e=>(e0.bs b o e).1;have Ez:∀y∈ps.zip us,scope.names.lookup y.1=some .local\/(scope.names.lookup y.1=some .cell/\((cellsFrom (s.heap.objs.size+1) scope.names []).lookup y.1).isSome=true):=λ⟨n,v⟩ hy=>by
  rcases S.par n (List.of_mem_zip hy).1 with q | q
  ·exact .inl q
  ·exact .inr ⟨q,PySem.W.cellsFrom_some _ _ _ (.inl q)⟩
 refine codeAny_call_function hr.depth (KX _ _ lk) rfl S.co S.gen rfl (PySem.W.codeRec_of KX bR) (hb _ _ _ _ ?_);refine wpAny_newFunctionEnv_cells S.kind Ez λenv he s1 x=>?_;subst he;refine⟨lim.keeps x.toInCall.keep,codeAny_func ?_⟩;obtain⟨t,ht,hq⟩:=jm A outer s H vs Q E (hr.deeper _) fB;have I:Inv (fW CX P w K mg base N qual scope f aK A outer s H E) [] (start N vs) H s1:=Ey S hr.hd e0 hl r x;refine wpAny_mono (ht [] s1 (start N vs) H _ I hq) (λfl s' hs=>?_) λe s' hs=>hs;have fin:∀ {aL:St} {H':Hp} {v:V} {u:Value},Inv (fW CX P w K mg base N qual scope f aK A outer s H E) [] aL H' s'->RelV v u->Q v H'->CE outer P w H s Q u s' :=
  λ{aL H' v u} J rv q=>⟨v,H',J.os,J.bare,J.base,J.aB,rv,q⟩
 cases fl with
 | ret u =>
  obtain⟨v,aL,H',J,rv,q⟩:=hs;exact fin J rv q
 | next =>
  obtain⟨aL,H',J,q⟩:=hs;exact fin (v:=V.aC) (u:=Value.none) J rfl q
 | brk =>
  obtain⟨_,_,_,q⟩:=hs;exact False.elim q
 | cont =>
  obtain⟨_,_,_,q⟩:=hs;exact False.elim q
section
variable{X:Cx}{x:Str}{p pos:Pos}{e:Expr}{es:List Expr}{t:TA}{id T:String}{r:List V->Hp->VK->Prop}
noncomputable def yz(r:List V->Hp->VK->Prop)(t:TA):TE:=λσ H Q=>t σ H λvs H1=>r vs H1 Q
theorem bq(hc:gv X (.builtin id) r)(hg:Gl X x)(hm:X.mg x=none)(hv:bootBuiltins x=some (.builtin id))(ha:PA X (e::es) t)(hn:x≠"__name__" := by decide)(eZ:(x == ("__debug__" : Str))=false:=by decide)
  (he:starEach (e::es) X.env=(false,eval e X.env)::starEach es X.env:=by rfl) (dg:(backTo pos (starEach es X.env)).any (·.1)=false:=by rfl):PE X (.Call (.Name x p) (e::es) [] pos) (yz r t):=by
 intro pins s σ H Q I h;refine wpAny_Call_Name_kw (iw I hg hm hv ?_ hn eZ);exact PyProof.Rows.callWith_builtin1 (aI (ha pos pins s σ H _ I h) λus s1 ⟨vs,H1,I1,r1,q1⟩=>hc pins s1 σ H1 vs us Q I1 r1 q1) he dg
theorem EA(hc:gv X (.type T) r)(hg:Gl X x)(hm:X.mg x=none)(hv:bootBuiltins x=some (.type T))(ha:PA X (e::es) t)(hn:x≠"__name__" := by decide)(eZ:(x == ("__debug__" : Str))=false:=by decide)
  (he:starEach (e::es) X.env=(false,eval e X.env)::starEach es X.env:=by rfl) (dg:(backTo pos (starEach es X.env)).any (·.1)=false:=by rfl):PE X (.Call (.Name x p) (e::es) [] pos) (yz r t):=by
 intro pins s σ H Q I h;refine wpAny_Call_Name_kw (iw I hg hm hv ?_ hn eZ);exact PyProof.Rows.callWith_type1 (aI (ha pos pins s σ H _ I h) λus s1 ⟨vs,H1,I1,r1,q1⟩=>hc pins s1 σ H1 vs us Q I1 r1 q1) he dg
end
end _L
namespace _H
open PySem PyProof.Rows
noncomputable def lexLt:List Int->List Int->Bool
 | [],[]=>false
 | [],_::_=>true
 | _::_,[]=>false
 | x::xs,y::ys=>if x=y then lexLt xs ys else decide (x<y)
section
open PySem.SeqAt
open PySem.AutoSeq1 (wpAny_loadPart')
open PySem.MeetsSeq PySem.MeetsSeq2 PySem.MeetsSeq3
end
section
variable{prog:Program}{w:World}{A:Around}{E:Value->Shared->Prop}{s:Shared}
noncomputable def sR(n d:Nat):Option Int->Nat
 | none=>d
 | some v=>if v<0 then(v+(n:Int)).toNat else min v.toNat n
end
end _H
namespace _L
open PySem PySem.Spec PyProof.Rows
noncomputable abbrev TO:=St->Hp->(Option Int->Hp->Prop)->Prop
noncomputable def PO(X:Cx)(e:Option Expr)(t:TO):Prop :=
 ∀(pins:List (Addr×Obj)) (s:Shared) (σ:St) (H:Hp) (Q:Option Int->Hp->Prop),Inv X pins σ H s->t σ H Q->
  wpAny (model X.prog X.w) X.A (evalPart e X.env) (λu s'=>∃o H',Inv X pins σ H' s'/\IsPart u o/\Q o H') X.xe s
noncomputable def NG:TO:=λ_ H Q=>Q none H
noncomputable def NH(t:TE):TO:=λσ H Q=>t σ H λx H1=>∃i,x = .int i/\Q (some i) H1
theorem intsAre_of{ns:List Int}:∀ {us:List Value},Vals (ns.map V.int) us->IntsAre us ns:=by
 induction ns with
 | nil=>intro us r;rw[List.map_nil] at r;cases r;exact .nil
 | cons n ns ih =>
  intro us r;rw[List.map_cons] at r;cases r with
  | cons r1 r2 =>
   obtain⟨t,e⟩:=r1;subst e;exact .cons n t (ih r2)
section
variable{X:Cx}{e:Expr}{te:TE}{lo hi:Option Expr}{tl th:TO}{pos p2:Pos}
noncomputable def NI(r:V->Option Int->Option Int->Hp->VK->Prop)(te:TE)(tl th:TO):TE:=λσ H Q=>te σ H λx H1=>tl σ H1 λl H2=>th σ H2 λu H3=>r x l u H3 Q
noncomputable def EB(xs:List V)(lo hi:Option Int):List V:=(xs.drop (_H.sR xs.length 0 lo)).take (_H.sR xs.length xs.length hi - _H.sR xs.length 0 lo)
noncomputable def NJ(K:PySem.W.Frag):R2:=λx y H Q=>∃a b xs ys,x = .ref a/\y = .ref b/\bV K H a xs/\bV K H b ys/\xs≠[]/\xs.length+ys.length<=sizeLine/\
 (ys = []->Q (.ref a) H)/\(ys≠[]->∀p,H p=none->Q (.ref p) (upd H p (.tup (xs++ys))))
end
noncomputable def gT(n:Nat)(i:Int):Option Nat:=if 0<=i then(if i<n then some i.toNat else none) else if -(n:Int)<=i then some (i+n).toNat else none
noncomputable def fX{α:Type}(xs:List α)(i:Int):Option α:=(gT xs.length i).bind λj=>xs[j]?
theorem EC{n:Nat}{i:Int}{j:Nat}(h:gT n i=some j):seqIndex? i n=some j/\j<n/\-(n:Int)<=i/\i<n:=by
 unfold gT at h;by_cases h0:0<=i
 ·rw[if_pos h0] at h;by_cases h1:i<n
  ·rw[if_pos h1] at h;have e:i.toNat=j:=Option.some.inj h;exact⟨by rw[seqIndex_of h0 h1,e],by lia,by lia,h1⟩
  ·rw[if_neg h1] at h;cases h
 ·rw[if_neg h0] at h;by_cases h1 : -(n:Int)<=i
  ·rw[if_pos h1] at h;have e:(i+n).toNat=j:=Option.some.inj h;exact⟨by rw[seqIndex_neg (by lia) h1,e],by lia,h1,by lia⟩
  ·rw[if_neg h1] at h;cases h
theorem sS{α:Type}{xs:List α}{i:Int}{v:α}(h:fX xs i=some v):∃j,seqIndex? i xs.length=some j/\xs[j]? = some v/\j<xs.length/\-(xs.length:Int)<=i/\i<xs.length:=by
 unfold fX at h;cases e:gT xs.length i with
 | none=>rw[e] at h;cases h
 | some j =>
  rw[e] at h;obtain⟨h1,h2,h3,h4⟩:=EC e;exact⟨j,h1,h,h2,h3,h4⟩
theorem fY{α:Type}{xs:List α}{j:Nat}{v:α}(h:xs[j]? = some v):fX xs (j:Int)=some v:=by
 have hj:j<xs.length:=(List.getElem?_eq_some_iff.mp h).1;have e:gT xs.length (j:Int)=some j:=by
  unfold gT;rw[if_pos (by lia),if_pos (by lia)];simp
 unfold fX;rw[e];exact h
noncomputable def ED(b:Expr):Prop:=∀o i,subscripted b false o i=operate [o,i] (getItem o i)
noncomputable def gB(X:Cx)(r:R2):Prop :=
 ∀(value slice:Expr) (pins:List (Addr×Obj)) (s:Shared) (σ:St) (H:Hp) (x y:V) (v u:Value) (Q:VK),Inv X pins σ H s->RelV x v->RelV y u->r x y H Q->
  subscripted slice false v u=operate [v,u] (getItem v u)->wpAny (model X.prog X.w) X.A (subscriptTail value slice v u) (EP X pins σ Q) X.xe s
noncomputable def EE(X:Cx)(id:String)(r:V->List V->Hp->VK->Prop):Prop :=
 ∀(pins:List (Addr×Obj)) (s:Shared) (σ:St) (H:Hp) (x:V) (xs:List V) (v:Value) (us:List Value) (Q:VK),Inv X pins σ H s->RelV x v->Vals xs us->r x xs H Q->
  wpAny (model X.prog X.w) X.A (call (.builtin id) (v::us)) (EP X pins σ Q) X.xe s
section
variable{X:Cx}{a b:Expr}{ta tb:TE}{pos:Pos}
theorem gB.or{r r':R2}(h:gB X r)(h':gB X r'):gB X (λx y H Q=>r x y H Q\/r' x y H Q):=by
 intro value slice pins s σ H x y v u Q I rx ry q hs;rcases q with q | q
 ·exact h value slice pins s σ H x y v u Q I rx ry q hs
 ·exact h' value slice pins s σ H x y v u Q I rx ry q hs
theorem cF{r:R2}(hr:gB X r)(ha:PE X a ta)(hb:PE X b tb)(hs:ED b):PE X (.Subscript a b pos) (oq r ta tb):=by
 intro pins s σ H Q I h;exact Subscript_ (sH ha hb I h λv u s2 x y H2 I2 rx ry q=>hr a b pins s2 σ H2 x y v u Q I2 rx ry q (hs _ _))
noncomputable def sU(K:PySem.W.Frag):R2:=λx y H Q=>∃p xs i v,x = .ref p/\y = .int i/\aD K H p xs/\fX xs i=some v/\Q v H
noncomputable def oJ(K:PySem.W.Frag):R2:=λx y H Q=>∃p xs i v,x = .ref p/\y = .int i/\bV K H p xs/\fX xs i=some v/\Q v H
noncomputable def yC:R2:=λx y H Q=>∃z i c,x = .str z/\y = .int i/\z.length<=sizeLine/\fX z.cps.toList i=some c/\Q (.str ⟨#[c]⟩) H
theorem cY:gB X (sU X.K):=by
 intro value slice pins s σ H x y v u Q I rx ry h hs;obtain⟨p,xs,i,z,rfl,rfl,hq,he,q⟩:=h;cases rx;obtain⟨t,rfl⟩:=ry;obtain⟨au,r,pl,hz⟩:=I.list hq;obtain⟨j,h1,h2,h3,h4,h5⟩:=sS he;obtain⟨w,ew,jo⟩:=r.get h2;have hl:=r.length;have hn:=oF;have fin:EP X pins σ Q w s:=⟨z,H,I,jo,q⟩;by_cases h0:0<=i
 ·have hj:i.toNat=j:=by
   rw[seqIndex_of h0 h5] at h1;exact Option.some.inj h1
  exact item_listR pl.isList h0 (by lia) (by rw[hj];simpa using ew) fin hs
 ·have hj:(i+(au.toArray.size:Int)).toNat=j:=by
   rw[seqIndex_neg (by lia) h4] at h1
   rw[List.size_toArray,← hl];exact Option.some.inj h1
  exact subscriptTail_builtinR (x:=w) pl.isList.typeIs slot_list_getitem.lookup
   (wpAny_getItem_list_neg (Q:=λr s'=>r=w/\EP X pins σ Q r s') pl.isList (by lia) (by rw[List.size_toArray] <;> lia) (by lia) (by rw[hj];simpa using ew) ⟨rfl,fin⟩) hs
theorem j8:gB X (oJ X.K):=by
 intro value slice pins s σ H x y v u Q I rx ry h hs;obtain⟨p,xs,i,z,rfl,rfl,hq,he,q⟩:=h;cases rx;obtain⟨t,rfl⟩:=ry;obtain⟨au,r,pl,hz⟩:=I.tuple hq;obtain⟨j,h1,h2,h3,h4,h5⟩:=sS he;obtain⟨w,ew,jo⟩:=r.get h2;have hl:=r.length;have hn:=oF;have fin:EP X pins σ Q w s:=⟨z,H,I,jo,q⟩;exact subscriptTail_builtinR (x:=w) pl.typeIs slot_tuple_getitem.lookup
  (getItem_tuple (j:=j) (Q:=λr s'=>r=w/\EP X pins σ Q r s') pl (by lia) (by lia) (by rw[List.size_toArray,← hl];exact h1) (by simpa using ew) ⟨rfl,fin⟩) hs
theorem EF:gB X yC:=by
 intro value slice pins s σ H x y v u Q I rx ry h hs;obtain⟨z,i,c,rfl,rfl,hz,he,q⟩:=h;obtain⟨t,rfl⟩:=rx;obtain⟨t',rfl⟩:=ry;obtain⟨j,h1,h2,h3,h4,h5⟩:=sS he;have hl:z.cps.toList.length=z.length:=by simp[Str.length]
 rw[hl] at h1 h4 h5;have hn:=oF;exact tail_any (typeIs_str s z t) slot_str_getitem.lookup (getItem_str (c:=c) (by
  have e1:decide (i < -(2 ^ 63:Int))=false:=decide_eq_false (by lia)
  have e2:decide (i ≥ 2 ^ 63)=false:=decide_eq_false (by lia)
  rw[e1,e2,Bool.or_false]) (by rw[h1];simpa using h2) ⟨.str ⟨#[c]⟩,H,I.tok _,⟨_,rfl⟩,q⟩) hs
noncomputable def sV(K:PySem.W.Frag):R2:=λx y H Q=>sU K x y H Q\/oJ K x y H Q\/yC x y H Q
theorem yD:gB X (sV X.K):=cY.or (j8.or EF)
noncomputable def NK:V->V->V->Hp->(Hp->Prop)->Prop:=λo i v H Q=>∃p xs k j,o = .ref p/\i = .int k/\H p=some (.lst xs)/\gT xs.length k=some j/\Q (upd H p (.lst (xs.set j v)))
noncomputable def NL(K:PySem.W.Frag):V->Option Int->Option Int->Hp->VK->Prop:=λx lo hi H Q=>∃a xs,x = .ref a/\aD K H a xs/\∀p,H p=none->Q (.ref p) (upd H p (.lst (EB xs lo hi)))
noncomputable def yE:V->Bool
 | .aC=>true
 | .bl _=>true
 | .int _=>true
 | .str _=>true
 | _=>false
noncomputable def EG:V->V->Bool
 | .aC,.aC=>true
 | .bl a,.bl b=>a == b
 | .bl a,.int b=>(if a then 1 else 0) == b
 | .int a,.bl b=>a == (if b then 1 else 0)
 | .int a,.int b=>a == b
 | .str a,.str b=>a == b
 | _,_=>false
noncomputable def yF(x:V)(xs:List V):Bool:=xs.any λy=>EG y x
noncomputable def NN(K:PySem.W.Frag)(neg:Bool):R2:=λx y H Q=>∃p xs,y = .ref p/\(aD K H p xs\/bV K H p xs)/\yE x=true/\xs.all yE=true/\Q (.bl (if neg then !yF x xs else yF x xs)) H
theorem cI:gv X (.builtin "len") (λxs H Q=>∃p ys,xs = [.ref p]/\(aD X.K H p ys\/bV X.K H p ys)/\Q (.int ys.length) H):=by
 intro pins s σ H xs us Q I r h;obtain⟨p,ys,rfl,hq,q⟩:=h;obtain⟨u,rfl,rx⟩:=vals1 r;cases rx;have hn:=oF;rcases hq with hq | hq
 ·obtain⟨au,r',pl,hz⟩:=I.list hq;have hlen:=r'.length;exact Calls.call_len_list pl.isList (by simp only[List.size_toArray] <;> lia) ⟨.int ys.length,H,I.tok _,⟨s.toks+1,by rw[List.size_toArray,hlen]⟩,q⟩
 ·obtain⟨au,r',pl,hz⟩:=I.tuple hq;have hlen:=r'.length;exact len_tuple pl (by simp only[List.size_toArray] <;> lia) ⟨.int ys.length,H,I.tok _,⟨s.toks+1,by rw[List.size_toArray,hlen]⟩,q⟩
theorem EH:gv X (.type "list") (λxs H Q=>∃p ys,xs = [.ref p]/\(aD X.K H p ys\/bV X.K H p ys)/\∀l,H l=none->Q (.ref l) (upd H l (.lst ys))):=by
 intro pins s σ H xs us Q I r h;obtain⟨p,ys,rfl,hq,q⟩:=h;obtain⟨u,rfl,rx⟩:=vals1 r;cases rx;have fin:∀(au:List Value),Vals ys au->ys.length<=sizeLine->∀(h':Heap) (c':Nat),(∀b o',s.heap.get? b=some o'->h'.get? b=some o')->
   h'.get? s.heap.objs.size=some { cls:=.type "list",dict:=none,data:=.seq au.toArray c',slots := #[] }->EP X pins σ Q (.ref s.heap.objs.size) { s with heap:=h' }:=λau r' hz h' c' kp e =>
  ⟨.ref s.heap.objs.size,_,I.laid (t':=s.toks) kp (Nat.le_refl _) (show bu X.prog X.w _ h' _ (.lst ys) from⟨hz,au,c',r',e⟩),rfl,q _ (I.aB.fresh (Nat.le_refl _))⟩
 rcases hq with hq | hq
 ·obtain⟨au,r',pl,hz⟩:=I.list hq;have hlen:=r'.length;obtain⟨o,ho,hc,n,hd⟩:=pl.isList;exact call_list_seq p (.inl rfl) ho hc hd (λh' c' kp e=>fin au r' hz h' c' kp e) (by simp only[List.size_toArray] <;> lia)
 ·obtain⟨au,r',pl,hz⟩:=I.tuple hq;have hlen:=r'.length;obtain⟨o,ho,hc,n,hd⟩:=pl;exact call_list_seq p (.inr rfl) ho hc hd (λh' c' kp e=>fin au r' hz h' c' kp e) (by simp only[List.size_toArray] <;> lia)
noncomputable def sW(K:PySem.W.Frag)(T:String)(x:V)(H:Hp):Prop:=match x with
 | .str _=>T = "str"
 | .int _=>T = "int"
 | .ref p=>(T = "list"/\∃xs,aD K H p xs)\/(T = "tuple"/\∃o,K.lookup p=some o/\o.cls = .type "tuple"/\o.dict=none)\/
   (T = "dict"/\((∃ao,H p=some (.dK ao))\/∃ao,H p=some (.dT ao)))\/(T = "set"/\∃S n,H p=some (.set S n))
 | _=>False
theorem EI{pins:List (Addr×Obj)}{σ:St}{H:Hp}{s:Shared}{T:String}{x:V}{v:Value}(I:Inv X pins σ H s)(r:RelV x v)(ty:sW X.K T x H) :
  s.TypeIs v T/\∀a,v = .ref a->∃ob,s.heap.get? a=some ob/\ob.dict=none:=by
 cases x with
 | str z =>
  obtain⟨t,rfl⟩:=r;cases (show T = "str" from ty);exact⟨typeIs_str s z t,λ_ e=>nomatch e⟩
 | int i =>
  obtain⟨t,rfl⟩:=r;cases (show T = "int" from ty);exact⟨typeIs_int s i t,λ_ e=>nomatch e⟩
 | ref p =>
  cases r;rcases ty with⟨rfl,xs,hq⟩ | ⟨rfl,o,hk,hc,hd⟩ | ⟨rfl,hk⟩ | ⟨rfl,S,n,hk⟩
  ·obtain⟨au,_,pl,_⟩:=I.list hq;refine⟨pl.isList.typeIs,λa e=>?_⟩;cases e;obtain⟨o,n,e,c,hd,_⟩:=pl;exact⟨o,e,hd⟩
  ·refine⟨⟨o,I.bx p o hk,hc⟩,λa e=>?_⟩;cases e;exact⟨o,I.bx _ o hk,hd⟩
  ·have z:∃o,s.heap.get? p=some o/\o.ExactDict:=by
    rcases hk with⟨ao,hk⟩ | ⟨ao,hk⟩
    ·obtain⟨_,_,_,_,o,_,_,e,ex,_⟩:=I.aB p _ hk;exact⟨o,e,ex⟩
    ·obtain⟨_,_,_,_,o,_,_,e,ex,_⟩:=I.aB p _ hk;exact⟨o,e,ex⟩
   obtain⟨o,e,ex⟩:=z;refine⟨⟨o,e,ex.1⟩,λa e2=>?_⟩;cases e2;exact⟨o,e,ex.2.1⟩
  ·obtain⟨o,_,_,_,e,ex,_⟩:=I.aB p _ hk;refine⟨⟨o,e,ex.1⟩,λa e2=>?_⟩;cases e2;exact⟨o,e,ex.2.1⟩
 | _=>exact False.elim ty
noncomputable def NO(K:PySem.W.Frag)(T:String)(r:V->List V->Hp->VK->Prop)(to:TE):TE:=λσ H Q=>to σ H λx H1=>sW K T x H1/\r x [] H1 Q
noncomputable def EJ(K:PySem.W.Frag)(T:String)(r:V->List V->Hp->VK->Prop)(to:TE)(t:TA):TE:=λσ H Q=>to σ H λx H1=>sW K T x H1/\t σ H1 λxs H2=>r x xs H2 Q
variable{o e:Expr}{es:List Expr}{to:TE}{t:TA}{name:Str}{apos bG:Pos}{T id:String}{r:V->List V->Hp->VK->Prop}
theorem j9(pa:PlainAttrs T)(slot:Slot T name id)(EK:typeOf (.builtin id)=pure (.type "method_descriptor"))(hm:EE X id r)(ho:PE X o to)(ha:PA X (e::es) t)
  (lB:attributeBase o name X.env (eval o X.env)=eval o X.env:=by rfl)
  (EL:((backTo bG (starEach (e::es) X.env)).all (λx => !x.1) && (backToKw bG (keywordEach [] X.env)).all (λx=>x.1.isSome)
   && decide ((e::es).length+([]:List Keyword).length+(if ([]:List Keyword).isEmpty then 0 else 1)<30))=true:=by rfl)
  (EM:(apos.endLine == bG.line)=true:=by rfl) (hs:starEach (e::es) X.env=(false,eval e X.env)::starEach es X.env:=by rfl) (lC:(backTo bG (starEach es X.env)).any (·.1)=false:=by rfl) :
  PE X (.Call (.Attribute o name apos) (e::es) [] bG) (EJ X.K T r to t):=by
 intro pins s σ H Q I h;refine wpAny_Call_method_late lB EL EM rfl (aI (ho pins s σ H _ I h) λv s1 ⟨x,H1,I1,r1,ty,q1⟩=>?_);obtain⟨h1,h2⟩:=EI I1 r1 ty;refine⟨T,id,pa,slot,EK,h1,h2,?_⟩;have hA:=ha bG pins s1 σ H1 _ I1 q1;rw[hs] at hA ⊢;refine Calls.callWith_builtin (by show (false || (backTo bG (starEach es X.env)).any (·.1))=false;rw[lC] <;> rfl) (Calls.evalArgs_plain ?_)
 exact aI hA λus s2 ⟨vs,H2,I2,r2,q2⟩=>hm pins s2 σ H2 x vs v us Q I2 r1 r2 q2
end
noncomputable def yG(X:Cx)(id:String)(r:V->List V->Hp->VK->Prop):Prop :=
 ∀(pins:List (Addr×Obj)) (s:Shared) (σ:St) (H:Hp) (x:V) (xs:List V) (v:Value) (us:List Value) (Q:VK),Inv X pins σ H s->RelV x v->Vals xs us->r x xs H Q->
  wpAny (model X.prog X.w) X.A (call (.builtin id) (v::us)) (EP X pins σ Q) X.xe s
theorem Vals.one:∀ {x:V} {us:List Value},Vals [x] us->∃u,us = [u]/\RelV x u
 | _,_,.cons r .nil=>⟨_,rfl,r⟩
theorem Vals.rep{xs:List V}{us:List Value}(h:Vals xs us):∀k:Nat,Vals (List.replicate k xs).flatten (List.replicate k us).flatten
 | 0=>.nil
 | k+1=>by
  rw[List.replicate_succ,List.replicate_succ,List.flatten_cons,List.flatten_cons];exact Vals.append h (Vals.rep h k)
theorem foldl_rep(au:List Value):∀(k:Nat) (acc:List Value),
  List.foldl (λx1 x2=>x1++x2) acc.toArray (List.replicate k au.toArray)=(acc++(List.replicate k au).flatten).toArray
 | 0,acc=>by simp
 | k+1,acc=>by
  have e:acc.toArray++au.toArray=(acc++au).toArray:=by simp
  have e2:(acc++au)++(List.replicate k au).flatten=acc++(List.replicate (k+1) au).flatten:=by
   rw[List.replicate_succ,List.flatten_cons,List.append_assoc]
  rw[← e2,← foldl_rep au k (acc++au),← e,List.replicate_succ,List.foldl_cons]
section
variable{X:Cx}{pins:List (Addr×Obj)}{σ:St}{H:Hp}{s:Shared}{l b:Addr}{xs ys zs:List V}
theorem Inv.yH{au its':List Value}{n:Nat}{f:Array Value->Array Value}{t':Nat}(I:Inv X pins σ H s)(hH:H l=some (.lst xs))
  (e:s.heap.get? l=some { cls:=.type "list",data:=.seq au.toArray n }) (hf:f au.toArray=its'.toArray) (hv:Vals ys its') (hz:ys.length<=sizeLine) :
  Inv X pins σ (upd H l (.lst ys)) { s with heap:=s.heap.update l (Obj.mapSeq f),toks:=t' }:=by
 have q:=PySem.IsL.update e f;rw[hf] at q;refine I.write (x:=l) (e:=l) (by rw[hH];exact trivial) (.inl rfl) (λb' u hb hu=>(Heap.get?_update_other s.heap (Obj.mapSeq f) (Ne.symm hb)).trans hu) ⟨_,q⟩ ?_
 exact⟨hz,its',_,hv,q⟩
theorem Inv.yI{au:List Value}{t':Nat}(I:Inv X pins σ H s)(hv:Vals ys au)(hz:ys.length<=sizeLine) :
  Inv X pins σ (upd H s.heap.objs.size (.lst ys)) { s with heap:=s.heap.push { cls:=.type "list",data:=.seq au.toArray },toks:=t' } :=
 I.laid (λ_ _ q=>Heap.get?_push_of_some _ q) (Nat.le_refl _) ⟨hz,au,0,hv,Heap.get?_push_size _ rfl⟩
theorem Inv.fresh(I:Inv X pins σ H s):H s.heap.objs.size=none:=I.aB.fresh (Nat.le_refl _)
theorem Inv.j_(I:Inv X pins σ H s)(hH:H l=some (.lst xs)):xs.length<=sizeLine/\∃(au:List Value) (n:Nat),Vals xs au/\xs.length=au.length/\s.heap.get? l=some { cls:=.type "list",data:=.seq au.toArray n }:=by
 obtain⟨z,au,n,r,e⟩:=I.aB l _ hH;exact⟨z,au,n,r,r.length,e⟩
theorem yJ{n:Nat}(h:n<=sizeLine):Builtin.List.listTooLong n=false:=by
 unfold Builtin.List.listTooLong;exact decide_eq_false (by lia)
end
section
variable{X:Cx}
noncomputable def EN:V->List V->Hp->VK->Prop:=λx vs H Q=>∃l xs y,x = .ref l/\vs = [y]/\H l=some (.lst xs)/\xs.length<sizeLine/\Q .aC (upd H l (.lst (xs++[y])))
theorem oK:yG X "list.append" EN:=by
 intro pins s σ H x vs v us Q I rx rv h;obtain⟨l,xs,y,rfl,rfl,hH,hz,q⟩:=h;cases rx;obtain⟨u,rfl,ru⟩:=rv.one;obtain⟨z,au,n,r,hl,e⟩:=I.j_ hH;refine call_meets F.slot_list_append ⟨_,e,rfl⟩ F.entry_list_append (F.args_list_append_2 _ _) (PySem.list_append l au.toArray n u (by rw[List.size_toArray];lia)) ⟨e,?_⟩
 refine⟨.aC,_,I.yH (its':=au++[u]) hH e (by simp) (r.append (.cons ru .nil)) ?_,rfl,q⟩
 rw[List.length_append,List.length_singleton];lia
noncomputable def EO:V->List V->Hp->VK->Prop:=λx vs H Q=>∃l b xs zs,x = .ref l/\vs = [.ref b]/\H l=some (.lst xs)/\H b=some (.lst zs)/\xs.length+zs.length<=sizeLine/\Q .aC (upd H l (.lst (xs++zs)))
theorem sX:yG X "list.extend" EO:=by
 intro pins s σ H x vs v us Q I rx rv h;obtain⟨l,b,xs,zs,rfl,rfl,hH,hB,hz,q⟩:=h;cases rx;obtain⟨u,rfl,ru⟩:=rv.one;cases ru;obtain⟨z,au,n,r,hl,e⟩:=I.j_ hH;obtain⟨z2,jq,n2,r2,ER,e2⟩:=I.j_ hB;have hsz:au.toArray.size+jq.toArray.size<=sizeLine:=by rw[List.size_toArray,List.size_toArray];lia
 have sY:¬ (!au.toArray.isEmpty && Builtin.List.listTooLong (au.toArray.size+jq.toArray.size))=true:=by
  rw[yJ hsz,Bool.and_false];exact Bool.false_ne_true
 refine call_meets F.slot_list_extend ⟨_,e,rfl⟩ F.entry_list_extend (F.args_list_extend_2 _ _)
  (AutoSeq1.list_extend_list_list_0 l au.toArray n b jq.toArray n2 sY (by rw[List.size_toArray];lia) (by lia)) ⟨e,e2,?_⟩
 refine⟨.aC,_,I.yH (its':=au++jq) hH e (by simp) (r.append r2) ?_,rfl,q⟩
 rw[List.length_append];lia
noncomputable def NP:V->List V->Hp->VK->Prop:=λx vs H Q=>∃l xs y,x = .ref l/\vs = []/\H l=some (.lst xs)/\xs[xs.length - 1]? = some y/\Q y (upd H l (.lst xs.dropLast))
noncomputable def NQ:V->List V->Hp->VK->Prop:=λx vs H Q=>∃l xs,x = .ref l/\vs = []/\H l=some (.lst xs)/\Q .aC (upd H l (.lst []))
noncomputable def ES:R2:=λx y H Q=>∃l b xs zs,x = .ref l/\y = .ref b/\H l=some (.lst xs)/\H b=some (.lst zs)/\xs.length+zs.length<=sizeLine/\∀p,H p=none->Q (.ref p) (upd H p (.lst (xs++zs)))
theorem sZ:cR X (binaryOp .Add) ES:=by
 intro pins s σ H x y v u Q I rx ry h;obtain⟨l,b,xs,zs,rfl,rfl,hH,hB,hz,q⟩:=h;cases rx;cases ry;obtain⟨z,au,n,r,hl,e⟩:=I.j_ hH;obtain⟨z2,jq,n2,r2,ER,e2⟩:=I.j_ hB;refine PySem.P.add_list e e2 ?_ (by rw[List.size_toArray,List.size_toArray];lia)
 have ea:au.toArray++jq.toArray=(au++jq).toArray:=by simp
 rw[ea];exact⟨.ref _,_,I.yI (t':=s.toks) (r.append r2) (by rw[List.length_append];lia),rfl,q _ I.fresh⟩
noncomputable def ET:R2:=λx y H Q=>∃l k xs,x = .ref l/\y = .int k/\H l=some (.lst xs)/\-(2 ^ 63)<=k/\k<2 ^ 63/\xs.length*k.toNat<=sizeLine/\
 ∀p,H p=none->Q (.ref p) (upd H p (.lst (List.replicate k.toNat xs).flatten))
theorem len_rep{α:Type}(xs:List α)(k:Nat):(List.replicate k xs).flatten.length=k*xs.length:=by
 induction k with
 | zero=>simp
 | succ k ih=>rw[List.replicate_succ,List.flatten_cons,List.length_append,ih,Nat.succ_mul,Nat.add_comm]
theorem yK:cR X (binaryOp .Mult) ET:=by
 intro pins s σ H x y v u Q I rx ry h;obtain⟨l,k,xs,rfl,rfl,hH,h1,h2,hz,q⟩:=h;cases rx;obtain⟨t,rfl⟩:=ry;obtain⟨z,au,n,r,hl,e⟩:=I.j_ hH;have hlen:au.toArray.size*k.toNat<=sizeLine:=by rw[List.size_toArray,← hl];exact hz
 have EU:¬ au.toArray.size*k.toNat > (2 ^ 63 - 1) / 8:=by
  have:(sizeLine:Nat)<=(2 ^ 63 - 1) / 8:=by decide
  lia
 have EV:¬ (!Builtin.List.listFitsIndex k)=true:=by
  rw[fitsIndex_both h1 h2];exact Bool.false_ne_true
 have sY:¬ Builtin.List.listTooLong (au.toArray.size*k.toNat)=true:=by
  rw[yJ hlen];exact Bool.false_ne_true
 have EW:List.foldl (λx1 x2=>x1++x2) #[] (List.replicate (if au.toArray.isEmpty=true then 0 else k.toNat) au.toArray)=(List.replicate k.toNat au).flatten.toArray:=by
  have f0:∀m:Nat,List.foldl (λx1 x2=>x1++x2) #[] (List.replicate m au.toArray)=(List.replicate m au).flatten.toArray:=λm=>by
   have:=foldl_rep au m [];rw[List.nil_append] at this;exact this
  rw[f0];cases au with
  | nil=>simp
  | cons a r'=>rw[if_neg (by simp)]
 refine wpAny_binaryOp_repeat_ref (T := "list") (U := "int") (by decide) ⟨_,e,rfl⟩ (λs'=>typeIs_int s' k t) noFill_list_mul F.fills_int_mul F.slot_int_rmul repeat_list F.slot_int_index.lookup
  (call_meets F.slot_int_rmul (typeIs_int s k t) F.entry_int_rmul (F.args_int_rmul_2 _ _) (int___rmul___int_list k t l au.toArray n)
   ⟨e,rfl,⟨_,e,rfl⟩,call_meets F.slot_list_mul ⟨_,e,rfl⟩ F.entry_list_mul (F.args_list_mul_2 _ _) (AutoListH.list___mul___list_int_3 l au.toArray n k t EV EU sY) ⟨e,?_⟩⟩)
 rw[EW];exact⟨.ref _,_,I.yI (t':=s.toks) (r.rep k.toNat) (by rw[len_rep,Nat.mul_comm];exact hz),rfl,q _ I.fresh⟩
end
section
variable{prog:Program}{w:World}{A:Around}{E:Value->Shared->Prop}{s:Shared}
end
section
variable{X:Cx}
end
section
variable{κ:Type}[DecidableEq κ]
noncomputable def bZ(ao:List (κ×V))(k:κ):Option V:=(ao.find? λkv=>decide (kv.1=k)).map (·.2)
noncomputable def putK(ao:List (κ×V))(k:κ)(v:V):List (κ×V) :=
 if (ao.any λkv=>decide (kv.1=k))=true then ao.map (λkv=>if kv.1=k then(kv.1,v) else kv) else ao++[(k,v)]
theorem fZ{p:κ×V}{r:List (κ×V)}{k:κ}(e:p.1=k):bZ (p::r) k=some p.2:=by simp[bZ,List.find?_cons,e]
theorem f9{p:κ×V}{r:List (κ×V)}{k:κ}(e:¬ p.1=k):bZ (p::r) k=bZ r k:=by simp[bZ,List.find?_cons,e]
theorem oM(k:κ):∀ao:List (κ×V),(ao.any λkv=>decide (kv.1=k))=(bZ ao k).isSome
 | []=>rfl
 | p::r=>by
  rw[List.any_cons];by_cases e:p.1=k
  ·simp only[fZ e,decide_eq_true e,Bool.true_or,Option.isSome_some]
  ·rw[f9 e,decide_eq_false e,Bool.false_or];exact oM k r
theorem yL(k j:κ)(y:V):∀ao:List (κ×V),bZ (ao.map λkv=>if kv.1=k then(kv.1,y) else kv) j=(bZ ao j).map λx=>if j=k then y else x
 | []=>rfl
 | p::r=>by
  have ih:=yL k j y r;rw[List.map_cons];by_cases h:p.1=k
  ·rw[if_pos h];by_cases e:p.1=j
   ·rw[fZ (p:=(p.1,y)) e,fZ e,Option.map_some,if_pos (e.symm.trans h)]
   ·rw[f9 (p:=(p.1,y)) e,f9 e,ih]
  ·rw[if_neg h];by_cases e:p.1=j
   ·rw[fZ (p:=p) e,fZ e,Option.map_some,if_neg (λz=>h (e.trans z))]
   ·rw[f9 (p:=p) e,f9 e,ih]
theorem yM(k j:κ)(y:V):∀ao:List (κ×V),bZ ao k=none->bZ (ao++[(k,y)]) j=if j=k then some y else bZ ao j
 | [],_=>by
  by_cases e:k=j
  ·rw[if_pos e.symm];exact fZ (p:=(k,y)) e
  ·rw[if_neg (λz=>e z.symm)];exact f9 (p:=(k,y)) e
 | p::r,hn=>by
  rw[List.cons_append];have hk:¬ p.1=k:=λz=>by rw[fZ z] at hn;cases hn
  rw[f9 hk] at hn;have ih:=yM k j y r hn;by_cases e:p.1=j
  ·rw[fZ e,fZ e,if_neg (λz=>hk (e.trans z))]
  ·rw[f9 e,f9 e,ih]
theorem yN(ao:List (κ×V))(k j:κ)(y:V):bZ (putK ao k y) j=if j=k then some y else bZ ao j:=by
 unfold putK;by_cases a:(ao.any λkv=>decide (kv.1=k))=true
 ·rw[if_pos a,yL];rw[oM] at a;by_cases e:j=k
  ·obtain⟨x,hx⟩:=Option.isSome_iff_exists.mp a;rw[if_pos e,e,hx,Option.map_some,if_pos rfl]
  ·rw[if_neg e];cases bZ ao j with
   | none=>rfl
   | some x=>rw[Option.map_some,if_neg e]
 ·rw[if_neg a];refine yM k j y ao ?_;rw[oM] at a;cases q:bZ ao k with
  | none=>rfl
  | some x=>rw[q] at a;exact(a rfl).elim
theorem s_(ao:List (κ×V))(k:κ)(v:V):(putK ao k v).length<=ao.length+1:=by
 unfold putK;split
 ·rw[List.length_map];lia
 ·rw[List.length_append,List.length_cons,List.length_nil];lia
theorem cJ.EX{o:Option V}{u:Option Value}(r:cJ o u):o.isSome=u.isSome:=by
 cases o with
 | none=>cases u with
  | none=>rfl
  | some _=>exact(show False from r).elim
 | some _=>cases u with
  | none=>exact(show False from r).elim
  | some _=>rfl
theorem cJ.getD{o:Option V}{u:Option Value}{d:V}{d':Value}(r:cJ o u)(rd:RelV d d'):RelV (o.getD d) (u.getD d'):=by
 cases o with
 | none=>cases u with
  | none=>exact rd
  | some _=>exact(show False from r).elim
 | some _=>cases u with
  | none=>exact(show False from r).elim
  | some _=>exact r
theorem KV.val{ao:List (κ×V)}{vs:List (κ×Value)}(r:KV ao vs)(k:κ):cJ (bZ ao k) (valueAt vs k):=by
 unfold KV at r
 induction r with
 | nil=>exact True.intro
 | @cons p q ps qs h t ih =>
  obtain⟨h1,h2⟩:=h;by_cases e:p.1=k
  ·have e':q.1=k:=h1.symm.trans e;have b:valueAt (q::qs) k=some q.2:=by simp[valueAt,List.find?_cons,e']
   rw[fZ e,b];exact h2
  ·have e':¬ q.1=k:=λz=>e (h1.trans z);have b:valueAt (q::qs) k=valueAt qs k:=by simp[valueAt,List.find?_cons,e']
   rw[f9 e,b];exact ih
theorem KV.any{ao:List (κ×V)}{vs:List (κ×Value)}(r:KV ao vs)(k:κ):(ao.any λkv=>decide (kv.1=k))=vs.any λkv=>decide (kv.1=k):=by
 unfold KV at r
 induction r with
 | nil=>rfl
 | cons h t ih=>rw[List.any_cons,List.any_cons,ih,h.1]
theorem KV.tu{ao:List (κ×V)}{vs:List (κ×Value)}(r:KV ao vs)(k:κ){y:V}{u:Value}(ry:RelV y u) :
  KV (ao.map λkv=>if kv.1=k then(kv.1,y) else kv) (vs.map λkv=>if kv.1=k then(kv.1,u) else kv):=by
 unfold KV at r ⊢
 induction r with
 | nil=>exact .nil
 | @cons p q ps qs h t ih =>
  rw[List.map_cons,List.map_cons];refine .cons ?_ ih;obtain⟨h1,h2⟩:=h;by_cases e:p.1=k
  ·rw[if_pos e,if_pos (h1.symm.trans e)];exact⟨h1,ry⟩
  ·rw[if_neg e,if_neg (λz=>e (h1.trans z))];exact⟨h1,h2⟩
theorem KV.put{ao:List (κ×V)}{vs:List (κ×Value)}(r:KV ao vs)(k:κ){y:V}{u:Value}(ry:RelV y u):KV (putK ao k y) (stored vs k u):=by
 unfold putK stored;rw[r.any k];by_cases e:(vs.any λkv=>decide (kv.1=k))=true
 ·rw[if_pos e,if_pos e];exact r.tu k ry
 ·rw[if_neg e,if_neg e];exact Paired.snoc r ⟨rfl,ry⟩
theorem KV.length{ao:List (κ×V)}{vs:List (κ×Value)}(r:KV ao vs):ao.length=vs.length:=Paired.length r
end
theorem tw{P:Program}{w:World}{k:Key}{u:Value}(r:RelV (kV k) u):(dQ P w).is k u=true:=by
 cases k with
 | inl i=>obtain⟨t,e⟩:=(show ∃t,u=Value.int i t from r);subst e;exact Du P w i t
 | inr x=>obtain⟨t,e⟩:=(show ∃t,u=Value.str x t from r);subst e;exact Dv P w x t
theorem yO{P:Program}{w:World}:∀ {ks:List Key} {us:List Value},Vals (ks.map kV) us->ItemsAre (dQ P w) ks us
 | [],_,r=>by rw[List.map_nil] at r;cases r;exact .nil
 | k::ks,_,r=>by
  rw[List.map_cons] at r;cases r with
  | cons h t=>exact .cons (tw h) (yO t)
noncomputable abbrev KT(H:Hp):List (List Key×V)->List (List Key×Addr×Value)->Prop:=Paired λp q=>p.1=q.1/\H q.2.1=some (.tup (p.1.map kV))/\RelV p.2 q.2.2
theorem KT.val{H:Hp}{ao:List (List Key×V)}{xs:List (List Key×Addr×Value)}(r:KT H ao xs)(k:List Key):cJ (bZ ao k) ((atKey xs k).map (·.2)):=by
 induction r with
 | nil=>exact True.intro
 | @cons p q ps qs h t ih =>
  obtain⟨h1,_,h2⟩:=h;by_cases e:p.1=k
  ·have e':q.1=k:=h1.symm.trans e;have b:atKey (q::qs) k=some q.2:=by simp[atKey,List.find?_cons,e']
   rw[fZ e,b];exact h2
  ·have e':¬ q.1=k:=λz=>e (h1.trans z);have b:atKey (q::qs) k=atKey qs k:=by simp[atKey,List.find?_cons,e']
   rw[f9 e,b];exact ih
theorem KT.tu{H:Hp}{ao:List (List Key×V)}{xs:List (List Key×Addr×Value)}(r:KT H ao xs)(k:List Key){y:V}{u:Value}(ry:RelV y u) :
  KT H (ao.map λkv=>if kv.1=k then(kv.1,y) else kv) (xs.map (putAt k u)):=by
 induction r with
 | nil=>exact .nil
 | @cons p q ps qs h t ih =>
  rw[List.map_cons,List.map_cons];refine .cons ?_ ih;obtain⟨h1,h2,h3⟩:=h;unfold putAt;by_cases e:p.1=k
  ·rw[if_pos e,if_pos (h1.symm.trans e)];exact⟨h1,h2,ry⟩
  ·rw[if_neg e,if_neg (λz=>e (h1.trans z))];exact⟨h1,h2,h3⟩
theorem KT.put{H:Hp}{ao:List (List Key×V)}{xs:List (List Key×Addr×Value)}(r:KT H ao xs)(k:List Key){b:Addr}{y:V}{u:Value}(hb:H b=some (.tup (k.map kV)))(ry:RelV y u) :
  KT H (putK ao k y) (storedH xs k b u):=by
 have e:(ao.any λkv=>decide (kv.1=k))=(atKey xs k).isSome:=by
  rw[oM,(r.val k).EX,Option.isSome_map]
 unfold putK storedH;rw[e];by_cases q:(atKey xs k).isSome=true
 ·rw[if_pos q,if_pos q];exact r.tu k ry
 ·rw[if_neg q,if_neg q];exact Paired.snoc r ⟨rfl,hb,ry⟩
theorem KT.keeps{H H':Hp}{ao:List (List Key×V)}{xs:List (List Key×Addr×Value)}(r:KT H ao xs)(ht:∀b ys,H b=some (.tup ys)->H' b=some (.tup ys)):KT H' ao xs :=
 Paired.rW r λ_ _ z=>⟨z.1,ht _ _ z.2.1,z.2.2⟩
section
variable{P:Program}{w:World}{H:Hp}{h:Heap}{a:Addr}
theorem yP{u:HO}(ok:bw P w H h)(e:Rd H a u):bu P w H h a u:=e.ok ok
theorem tD{ao:List (Key×V)}(ok:bw P w H h)(e:Rd H a (.dK ao)):ao.length<=sizeLine/\(a == sysModules)=false/\∃vs,KV ao vs/\h.DictOf (dQ P w) a vs :=
 show bu P w H h a (.dK ao) from yP ok e
theorem EY{ao:List (Key×V)}(ok:bw P w H h)(e:H a=some (.dK ao)):ao.length<=sizeLine/\(a == sysModules)=false/\∃vs,KV ao vs/\h.DictOf (dQ P w) a vs:=tD ok (.inl e)
theorem tE{ks:List Key}(ok:bw P w H h)(e:H a=some (.tup (ks.map kV))):(tupleKind (dQ P w)).is h ks a:=by
 obtain⟨_,au,r,o,h1,h2,n,h3⟩:=(show bu P w H h a (.tup (ks.map kV)) from ok a _ e);exact⟨o,au.toArray,n,h1,h2,h3,by simpa using yO r⟩
theorem tF{ao:List (List Key×V)}(ok:bw P w H h)(e:Rd H a (.dT ao)):ao.length<=sizeLine/\(a == sysModules)=false/\
  ∃xs,KT H ao xs/\h.DictOfH (tupleKind (dQ P w)) a xs:=by
 obtain⟨z,y,xs,r,o,es,ep,h1,h2,h3,h4,h5⟩:=(show bu P w H h a (.dT ao) from yP ok e);refine⟨z,y,xs,r,o,es,ep,h1,h2,h3,h4,λx hx=>?_,h5⟩;have all:∀ {l:List (List Key×V)} {m:List (List Key×Addr×Value)},KT H l m->∀x∈m,(tupleKind (dQ P w)).is h x.1 x.2.1:=by
  intro l m q
  induction q with
  | nil=>intro x hx;exact nomatch hx
  | @cons p q ps qs hq t ih =>
   intro x hx;rcases List.mem_cons.mp hx with e | hx
   ·subst e;exact tE ok (by rw[← hq.1];exact hq.2.1)
   ·exact ih x hx
 exact all r x hx
theorem EZ{ao:List (List Key×V)}(ok:bw P w H h)(e:H a=some (.dT ao)):ao.length<=sizeLine/\(a == sysModules)=false/\
  ∃xs,KT H ao xs/\h.DictOfH (tupleKind (dQ P w)) a xs:=tF ok (.inl e)
end
noncomputable def iE(H:Hp)(a:Addr)(y:V)(r:Option V):Prop :=
 (∃ao k,Rd H a (.dK ao)/\y=kV k/\r=bZ ao k)\/∃ao k b,Rd H a (.dT ao)/\y = .ref b/\H b=some (.tup (k.map kV))/\r=bZ ao k
noncomputable def lD(H:Hp)(a:Addr)(y v:V)(H':Hp):Prop :=
 (∃ao k,H a=some (.dK ao)/\y=kV k/\ao.length<sizeLine/\H' = upd H a (.dK (putK ao k v)))\/
 ∃ao k b,H a=some (.dT ao)/\y = .ref b/\H b=some (.tup (k.map kV))/\ao.length<sizeLine/\H' = upd H a (.dT (putK ao k v))
theorem iE.t{H:Hp}{a b:Addr}{ao:List (List Key×V)}{k:List Key}(e:H a=some (.dT ao))(eb:H b=some (.tup (k.map kV))):iE H a (.ref b) (bZ ao k):=.inr ⟨ao,k,b,.inl e,rfl,eb,rfl⟩
theorem lD.t{H:Hp}{a b:Addr}{ao:List (List Key×V)}{k:List Key}{v:V}(e:H a=some (.dT ao))(eb:H b=some (.tup (k.map kV)))(hl:ao.length<sizeLine) :
  lD H a (.ref b) v (upd H a (.dT (putK ao k v))):=.inr ⟨ao,k,b,e,rfl,eb,hl,rfl⟩
section
variable{X:Cx}{pins:List (Addr×Obj)}{σ:St}{H:Hp}{s:Shared}{a:Addr}{y v:V}{u r:Value}{o:Option V}{A:Around}{E:Value->Shared->Prop}
theorem Inv.big(I:Inv X pins σ H s):sysModules<s.heap.objs.size:=by
 have h:mainGlobals<s.heap.objs.size:=(I.mod.glob.keeps I.bk).lt;exact Nat.lt_trans (by decide) h
theorem yQ{h':Heap}{t':Nat}{ob:HO}(I:Inv X pins σ H s)(mu:kO (H a))(hs:Heap.SameBut a s.heap h')(he:∃q,h'.get? a=some q)(new:bu X.prog X.w (upd H a ob) h' a ob) :
  Inv X pins σ (upd H a ob) { s with heap:=h',toks:=t' } :=
 I.write (x:=a) (e:=a) mu (.inl rfl) (λb q hb z=>(hs.2 b hb).trans z) he new
theorem E3{P:Program}{w:World}{H':Hp}{h':Heap}{ao:List (Key×V)}{vs:List (Key×Value)}(z:ao.length<=sizeLine)(hd:(a == sysModules)=false)(rel:KV ao vs)(dd:h'.DictOf (dQ P w) a vs) :
  bu P w H' h' a (.dK ao):=⟨z,hd,vs,rel,dd⟩
theorem E4{H':Hp}{Q:Unit->Shared->Prop}(hu:A.units+1<cLine)(I:Inv X pins σ H s)(g:lD H a y v H')(ry:RelV y u)(rv:RelV v r)(h:∀s',Inv X pins σ H' s'->Q () s') :
  wpAny (model X.prog X.w) A (setItem (.ref a) u r) Q E s:=by
 rcases g with⟨ao,k,e,ey,l,eH⟩ | ⟨ao,k,b,e,ey,eb,l,eH⟩
 ·subst ey eH;obtain⟨z,hd,vs,rel,dd⟩:=EY I.aB e;have hz:vs.length<=sizeLine:=by rw[← rel.length];exact z
  have hl:(putK ao k v).length<=sizeLine:=by have:=s_ ao k v;lia
  refine wpAny_setItem_pairs (hsz:=hz) (tw ry) dd λh' oN hs=>h _ ?_;have he:∃q,h'.get? a=some q:=let ⟨q,_,_,hq,_⟩:=oN;⟨q,hq⟩
  exact yQ I (by rw[e];exact True.intro) hs he (E3 hl hd (rel.put k rv) oN)
 ·subst ey eH;cases (show u=Value.ref b from ry);obtain⟨z,hd,xs,rel,dd⟩:=EZ I.aB e;have hz:xs.length<=sizeLine:=by rw[← Paired.length rel];exact z
  have hl:(putK ao k v).length<=sizeLine:=by have:=s_ ao k v;lia
  refine wpAny_setItem_heap (hsz:=hz) (tupleKind_room_in1 hu) (tE I.aB eb) dd λh' oN hs=>h _ ?_;obtain⟨q,es,ep,hq,h2,h3,h4,_,h5⟩:=oN;refine yQ I (by rw[e];exact True.intro) hs ⟨q,hq⟩ ⟨hl,hd,_,(rel.put k eb rv).keeps λc ys ec=>?_,q,es,ep,hq,h2,h3,h4,h5⟩
  rw[aG (jW ec e (λz=>nomatch z))];exact ec
end
section
variable{X:Cx}{pins:List (Addr×Obj)}{σ:St}{H:Hp}{s:Shared}{a:Addr}{ao:List (Key×V)}{k:Key}{u:Value}{A:Around}{E:Value->Shared->Prop}
end
noncomputable def NR(td ty:TE):TE:=λσ H Q=>td σ H λx H1=>ty σ H1 λy H2=>∃a v,x = .ref a/\iE H2 a y (some v)/\Q v H2
noncomputable def NS(ty td:TE):TE:=λσ H Q=>ty σ H λy H1=>td σ H1 λx H2=>∃a o,x = .ref a/\iE H2 a y o/\Q (.bl o.isSome) H2
noncomputable def NT(ty td:TE):TE:=λσ H Q=>ty σ H λy H1=>td σ H1 λx H2=>∃a o,x = .ref a/\iE H2 a y o/\Q (.bl (!o.isSome)) H2
noncomputable def E5(td ty tv:TE):TS:=λD σ H=>tv σ H λv H1=>td σ H1 λx H2=>ty σ H2 λy H3=>∃a H4,x = .ref a/\lD H3 a y v H4/\D.nx σ H4
section
variable{X:Cx}{o i e value:Expr}{pos pos' Ei:Pos}{td ty tv:TE}
theorem E6(hu:X.A.units+1<cLine)(ho:PE X o td)(hi:PE X i ty)(hv:PE X value tv)(hs:swapsWith value (some (.Subscript o i pos')) pos.line X.env=pure false) :
  PS X (.Assign [.Subscript o i pos'] value pos) (E5 td ty tv):=by
 intro pins s σ H D I h;refine wpAny_Assign_Subscript (aI (hv pins s σ H _ I h) λr s1 ⟨v,H1,I1,rv,q1⟩=>aI (ho pins s1 σ H1 _ I1 q1) λu s2 ⟨x,H2,I2,rx,q2⟩=>aI (hi pins s2 σ H2 _ I2 q2) λiv s3 ⟨y,H3,I3,ry,a,H4,ex,g,q3⟩=>?_) hs;subst ex;obtain rfl:u=Value.ref a:=rx;exact E4 hu I3 g ry rv λs4 I4=>⟨σ,H4,I4,q3⟩
end
theorem E7{P:Program}{w:World}{H:Hp}(h:Heap)(hb:sysModules<h.objs.size):bu P w H (h.push { cls:=.type "dict",data:=.dict #[] }) h.objs.size (.dT []) :=
 ⟨Nat.zero_le _,beq_eq_false_iff_ne.mpr (Ne.symm (Nat.ne_of_lt hb)),[],.nil,_,#[],0,Heap.get?_push_size _ rfl,⟨rfl,rfl,rfl⟩,rfl,rfl,List.nodup_nil⟩
noncomputable def NU:TE:=λ_ H Q=>∀p,H p=none->Q (.ref p) (upd H p (.dK []))
noncomputable def E8:TE:=λ_ H Q=>∀p,H p=none->Q (.ref p) (upd H p (.dT []))
section
variable{X:Cx}{pos:Pos}
theorem E9:PE X (.Dict [] [] pos) E8:=λpins s σ H Q I h =>
 wpAny_Dict_empty ⟨.ref s.heap.objs.size,_,I.laid (a:=s.heap.objs.size) (o:=.dT []) (t':=s.toks) (λ_ _ q=>Heap.get?_push_of_some _ q) (Nat.le_refl _) (E7 s.heap I.big),rfl,h _ (I.aB.fresh (Nat.le_refl _))⟩
end
structure M1(X:Cx)(o:Expr)(m:Str)(apos:Pos)(e:Expr)(bG:Pos):Prop where
 base:attributeBase o m X.env (eval o X.env)=eval o X.env
 E_:((backTo bG (starEach [e] X.env)).all (λx => !x.1) && (backToKw bG (keywordEach [] X.env)).all (λx=>x.1.isSome)
  && decide (([e]:List Expr).length+([]:List Keyword).length+(if ([]:List Keyword).isEmpty then 0 else 1)<30))=true
 line:(apos.endLine == bG.line)=true
 trees:backTo bG (starEach [e] X.env) = [(false,eval e X.env)]
noncomputable def yR(H:Hp)(a:Addr):Prop:=(∃ao,Rd H a (.dK ao))\/∃ao,Rd H a (.dT ao)
theorem Fb{X:Cx}{pins:List (Addr×Obj)}{σ:St}{H:Hp}{s:Shared}{a:Addr}(I:Inv X pins σ H s)(d:yR H a) :
  s.TypeIs (.ref a) "dict"/\(∀b,Value.ref a = .ref b->∃ob,s.heap.get? b=some ob/\ob.dict=none)/\(a == sysModules)=false:=by
 rcases d with⟨ao,e⟩ | ⟨ao,e⟩
 ·obtain⟨_,hd,vs,_,dd⟩:=tD I.aB e;refine⟨dd.typeIs,λb q=>?_,hd⟩;cases q;obtain⟨ob,_,_,h1,h2,_⟩:=dd;exact⟨ob,h1,h2.2.1⟩
 ·obtain⟨_,hd,xs,_,dd⟩:=tF I.aB e;refine⟨dd.typeIs,λb q=>?_,hd⟩;cases q;obtain⟨ob,_,_,h1,h2,_⟩:=dd;exact⟨ob,h1,h2.2.1⟩
section
variable{X:Cx}{pins:List (Addr×Obj)}{σ:St}{H:Hp}{s:Shared}{a:Addr}{y d:V}{u r:Value}{o:Option V}{A:Around}{E:Value->Shared->Prop}
theorem Fc{Q:Value->Shared->Prop}(hu:A.units+1<cLine)(I:Inv X pins σ H s)(g:iE H a y o)(ry:RelV y u)(h:∀w' s',Inv X pins σ H s'->RelV (o.getD .aC) w'->Q w' s') :
  wpAny (model X.prog X.w) A (call (.builtin "dict.get") [.ref a,u]) Q E s:=by
 rcases g with⟨ao,k,e,ey,l⟩ | ⟨ao,k,b,e,ey,eb,l⟩
 ·subst ey;obtain⟨z,hd,vs,rel,dd⟩:=tD I.aB e;refine call_meetsIn PySem.F.slot_dict_get dd.typeIs PySem.F.entry_dict_get (PySem.F.args_dict_get_2 _ _) (meets_dict_get (dQ X.prog X.w) a (tw ry) hd) ⟨_,dd.mapOf,h _ _ (I.tok _) ?_⟩;rw[l];exact(rel.val k).getD rfl
 ·subst ey;cases (show u=Value.ref b from ry);obtain⟨z,hd,xs,rel,dd⟩:=tF I.aB e;refine call_meetsIn PySem.F.slot_dict_get dd.typeIs PySem.F.entry_dict_get (PySem.F.args_dict_get_2 _ _) (meetsH_dict_get (tupleKind (dQ X.prog X.w)) a b hd) ⟨tupleKind_room_in1 hu,k,xs,tE I.aB eb,dd,h _ _ (I.tok _) ?_⟩;rw[l];exact(rel.val k).getD rfl
end
noncomputable def Fd(td ty:TE):TE:=λσ H Q=>td σ H λx H1=>∃a,x = .ref a/\yR H1 a/\ty σ H1 λy H2=>∃o,iE H2 a y o/\Q (o.getD .aC) H2
section
variable{X:Cx}{o e f:Expr}{apos bG:Pos}{td ty tx:TE}
theorem Fe(hu:X.A.units+1<cLine)(ho:PE X o td)(he:PE X e ty)(m:M1 X o "get" apos e bG):PE X (.Call (.Attribute o "get" apos) [e] [] bG) (Fd td ty):=by
 intro pins s σ H Q I h;refine wpAny_Call_method m.base m.E_ m.line PySem.F.plainAttrs_dict PySem.F.slot_dict_get PySem.F.type_dict_get (aI (ho pins s σ H _ I h) λu s1 ⟨x,H1,I1,rx,a,ex,d,q1⟩=>?_);subst ex;obtain rfl:u=Value.ref a:=rx;obtain⟨t1,t2,_⟩:=Fb I1 d;refine⟨t1,t2,?_⟩;rw[m.trees];refine Calls.callWith_builtin rfl (Calls.evalArgs_plain (Calls.spliced_cons (aI (he pins s1 σ H1 _ I1 q1) λiv s2 ⟨y,H2,I2,ry,ov,g,q2⟩=>Calls.spliced_nil ?_)));exact Fc hu I2 g ry λw' s3 I3 jo=>⟨_,H2,I3,jo,q2⟩
end
section
variable{X:Cx}{pins:List (Addr×Obj)}{σ:St}{H:Hp}{s:Shared}{a:Addr}{ao:List (Key×V)}{A:Around}{E:Value->Shared->Prop}
end
section
variable{X:Cx}{pins:List (Addr×Obj)}{σ:St}{H:Hp}{s:Shared}{a:Addr}{y:V}{u:Value}{A:Around}{E:Value->Shared->Prop}
end
end _L
namespace yS
open PySem PySem.W PySem.Calls PyProof.Rows
theorem Ff{P:Params}{h:Heap}:∀(ns:List Int) (vs:List Value),WellAll P h vs (ns.map WData.int)->IntsAre vs ns:=by
 intro ns
 induction ns with
 | nil =>
  intro vs w;rw[List.map_nil] at w;cases w;exact .nil
 | cons n ns ih =>
  intro vs w;rw[List.map_cons] at w;cases w with
  | cons a b =>
   cases a;exact .cons _ _ (ih _ b)
theorem Fg{l:OpenLaw}{n:Nat}(hn:l.most=some n){P:Params}{h:Heap}{args:List WData}{vals:List Value}
  (oO:l.row.toRowW.claim.pre args=true) (tG:WellAll P h vals args) :
  ∃a vs ns,vals = [Value.ref a]/\args = [WData.list (ns.map WData.int)]/\h.get? a=some { cls:=.type "list",data:=.seq vs.toArray }/\IntsAre vs ns/\ns.length<=n:=by
 have Fi:WShape.hasAll [] args [.list .int] = true:=(pre_splitW oO).1;have hc:l.pre.holds [] { args:=args }=true:=(pre_splitW oO).2;obtain⟨d,r,rfl,h1,h2⟩:=hasAllW_cons Fi;obtain rfl:=hasAllW_nil h2;obtain⟨xs,rfl,h3⟩:=hasW_list h1;obtain⟨ns,rfl⟩:=items_int h3;have hlen:ns.length<=n:=by
  unfold OpenLaw.pre at hc;have h4:(WTm.not (.lt (.lit (.int (n:Int))) (.len (.arg 0)))).holds [] { args:=[.list (ns.map .int)] }=true:=by
   have h4:=(holds_andW hc).1;rw[hn] at h4;exact h4
  have h5:=condW_of h4 (w_not (w_lt w_lit (w_len_list (w_arg rfl))));rw[List.length_map] at h5;refine Nat.le_of_not_lt λq=>?_
  have q':(n:Int)<((ns.length:Nat):Int):=by lia
  first
   | (rw[decide_eq_true q'] at h5;exact absurd h5 (by decide))
   | (simp at h5;lia)
 cases tG with
 | cons w1 w2 =>
  cases w2;cases w1 with
  | list ho e7=>exact⟨_,_,ns,rfl,rfl,ho,Ff ns _ e7,hlen⟩
theorem Fj(l:OpenLaw)(args:List WData):l.row.toRowW.claim.post args (.bool true) args=true :=
 postW_of (r:=l.row.toRowW) (X:=(true == true))
  (show WShape.has [] (.bool true) .bool=true by first | rfl | decide | simp[WShape.has,WShape.arms,WShape.armsAll])
  (show (WTm.eq .res (.lit (.bool true))).value [] { args:=args,res:=some (.bool true),after:=args }=some (.bool (true == true)) from w_eq_bool (w_res rfl) w_lit) rfl
theorem Fo{l:OpenLaw}{n:Nat}{q:Program}{loose:List Str}{XP:(Str->Option Value)->Heap->Prop}{YP:World->Heap->Prop}{d:DefRec}
  (hn:l.most=some n) (lE:d.params.defaults = [])
  (call:∀(w:World) (aX aM:Shared) (mg mb:Str->Option Value) (fa:Addr) (o:Obj) (pm cd doc:Value) (a:Addr) (vs:List Value) (ns:List Int),
   Ground q loose [] XP w aX mg mb aM.heap->YP w aM.heap->
   aM.heap.get? fa=some o->o.data = .func (docDef d.name d.params d.body d.scope pm cd doc)->aM.heap.CodeRec cd d.name->mg d.name=some (.ref fa)->
   aM.heap.get? a=some { cls:=.type "list",data:=.seq vs.toArray }->IntsAre vs ns->ns.length<=n->aM.gens = #[]->
   codeAny (model l.prog w) callerA (.call (.ref fa) ⟨[.ref a],[]⟩) (λr s'=>r = .ok (.ret (.bool true))/\OldK aM.heap s'.heap/\s'.os=aM.os/\AllBare s'.gens) aM) :
  WalkO q loose XP YP l.row.toRowW d [] (λf vs=>PySem.call f vs):=by
 intro w aX aM mg mb G Y fa o pm cd doc dV kV ho hd bR hD hmg hg args vals as oO NV NW tG jr;obtain rfl:dV = .none:=Dflts.none hD lE;obtain rfl:kV = .none:=Dflts.noKw hD;obtain⟨a,vs,ns,rfl,rfl,tH,hints,hlen⟩:=Fg hn oO tG;refine enter_call (codeAny_mono (call w aX aM mg mb fa o pm cd doc a vs ns G Y ho (fd_plain hd) bR hmg tH hints hlen hg) λr s' hq=>?_);obtain⟨rfl,h2,h3,h4⟩:=hq;exact⟨.inl ⟨.bool true,.bool true,[],rfl,λ_=>rfl,.bool true,Fj l _,λ_=>⟨List.Pairwise.nil,λ_ hm=>(nomatch hm)⟩⟩,h2,h3,h4⟩
section
variable{prog:Program}{w:World}{A:Around}{E:Value->Shared->Prop}{s:Shared}{K:Frag}
noncomputable def ledger(h:Heap)(L d:Addr):List (Addr×Obj):=(List.range h.objs.size).filterMap λa=>if a=L\/a=d then none else(h.get? a).map λo=>(a,o)
end
end yS
namespace _L
open PySem PySem.Spec PyProof.Rows
theorem tK:∀ {vs:List Value} {ns:List Int},IntsAre vs ns->Vals (ns.map V.int) vs
 | _,_,.nil=>.nil
 | _,_,.cons n t h=>.cons ⟨t,rfl⟩ (tK h)
noncomputable def tL(H:Hp):Prop:=∀b,H b=none\/∃o xs,H b=some (.dm o (.lst xs))
theorem Fp{P:Program}{w:World}{K:PySem.W.Frag}{mg mb:Str->Option Value}{CX:dD}{k:Nat}{fa a:Addr}{fd:FuncData}{x:Str}{sp:Sp}{aM:Shared}{vs:List Value}{ns:List Int}
  (KX:K.In aM.heap) (oR:aM.heap.Ns mainGlobals mg) (hb:aM.heap.Ns builtinsNs mb) (Fq:∀x:Str,x≠"__name__"->mb x=bootBuiltins x) (Ft:aM.heap.NoLimit) (hg:aM.gens = #[])
  (ha:aM.heap.get? a=some { cls:=.type "list",data:=.seq vs.toArray }) (hi:IntsAre vs ns) (hl:ns.length<=sizeLine) (hr:bK k callerA)
  (F:∀base:Heap,K.In base->base.Ns mainGlobals mg->bh P w K mg base CX k fa fd [x] sp) (Fv:∀(s:Shared) (u:Value),BindsTo s fd ⟨[u],[]⟩ [(x,u)])
  (fB:∀H:Hp,tL H->aD K H a (ns.map V.int)->sp [.ref a] H (λv _=>v = .bl true) λ_ _ _=>False)
  (tM:∀H e s',CX [] H aM (λ_ _ _=>False) e s'->False) :
  codeAny (model P w) callerA (.call (.ref fa) ⟨[.ref a],[]⟩) (λr s'=>r = .ok (.ret (.bool true))/\OldK aM.heap s'.heap/\s'.os=aM.os/\AllBare s'.gens) aM:=by
 have rv:=tK hi;have Fw:=hi.length
 -- from an abstract heap in which nothing but the script may be tracked
 have core:∀H:Hp,tL H->aD K H a (ns.map V.int)->bw P w H aM.heap->(∀b,H b≠none->b=a)->(H a≠none->K.lookup a=none)->
   codeAny (model P w) callerA (.call (.ref fa) ⟨[.ref a],[]⟩) (λr s'=>r = .ok (.ret (.bool true))/\OldK aM.heap s'.heap/\s'.os=aM.os/\AllBare s'.gens) aM:=by
  intro H hO hS aB hA hK;have yT:∀ {b:Addr} {o:Obj},aM.heap.get? b=some o->H b=none->(gO aM.heap H).get? b=some o:=λe n=>DB e n;have lA:∀ {b:Addr} {o:Obj} {es:Array DictEntry} {ep:Nat},aM.heap.get? b=some o->o.data = .dict es ep->H b=none:=λ{b o es ep} e d=>by
   cases q:H b with
   | none=>rfl
   | some u =>
    have e':b=a:=hA b (by rw[q];simp)
    subst e';rw[ha] at e;cases e;have d':Data.seq vs.toArray _=Data.dict es ep:=d;cases d'
  have oU:∀ {b:Addr} {m:Str->Option Value},aM.heap.Ns b m->(gO aM.heap H).Ns b m:=λ{b m} ⟨o,es,ep,e,d,r⟩=>⟨o,es,ep,yT e (lA e d),d,r⟩;have yU:K.In (gO aM.heap H):=λb o e=>yT (KX b o e) (by
   cases q:H b with
   | none=>rfl
   | some u =>
    have e':b=a:=hA b (by rw[q];simp)
    subst e';rw[hK (by rw[q];simp)] at e;cases e)
  have hM:Mod K mg (gO aM.heap H):=⟨yU,oU oR,⟨mb,oU hb,Fq⟩,let ⟨mc,h1,h2⟩:=Ft;⟨mc,oU h1,h2⟩⟩
  have e0:jl P w K mg (gO aM.heap H) callerA [] aM H:=⟨rfl,hM,λb o e=>DC e,Nat.le_of_eq (DA _ _),trivial,λb hb=>absurd (show b∈([]:List Addr) from hb) (by simp),aB,.of_eq hg⟩
  refine codeAny_mono ((F _ yU (oU oR)).run callerA [] aM H ⟨[.ref a],[]⟩ [.ref a] [.ref a] _ _ hr e0 (Fv aM (.ref a)) (.cons rfl .nil) (fB H hO hS)) λr s' h=>?_;cases r with
  | error e=>exact(tM H e s' h).elim
  | ok fl =>
   cases fl with
   | next=>exact False.elim h
   | brk=>exact False.elim h
   | cont=>exact False.elim h
   | ret u =>
    obtain⟨v,H',os,bare,un,Fx,r',q⟩:=h;have q':v = .bl true:=q;subst q';obtain rfl:u=Value.bool true:=r';refine⟨rfl,OldK.of_keep λb o e=>?_,os,bare⟩;cases q:H b with
    | none=>exact un.keep b o e q (by intro z;exact absurd (show b∈([]:List Addr) from z) (by simp)) (by simp)
    | some u =>
     rcases hO b with z | ⟨ob,xs,z⟩
     ·rw[q] at z;cases z
     ·have z2:=un.dR b ob _ z;obtain⟨e1,_⟩:=aB b _ z;obtain⟨e2,_⟩:=Fx b _ z2;rw[e] at e1;cases e1;exact e2
 cases hk:K.lookup a with
 | some o =>
  -- the script is one of the module's own objects
  have e:=KX a o hk;rw[ha] at e;cases e;refine core (λ_=>none) (λ_=>.inl rfl) (.inr ⟨_,vs.toArray,_,hk,rfl,rfl,rfl,by rw[List.size_toArray,Fw];exact hl,by simpa using rv⟩) (λb u z=>by have z':(none:Option HO)=some u:=z;cases z') (λb z=>absurd rfl z) λz=>absurd rfl z
 | none =>
  refine core (λb=>if b=a then some (.dm { cls:=.type "list",data:=.seq vs.toArray } (.lst (ns.map V.int))) else none) (λb=>?_) (.inl (.inr ⟨{ cls:=.type "list",data:=.seq vs.toArray },if_pos rfl⟩)) (λb u z=>?_) (λb z=>?_) λ_=>hk
  ·by_cases hb:b=a
   ·exact .inr ⟨_,_,if_pos hb⟩
   ·exact .inl (if_neg hb)
  ·by_cases hb:b=a
   ·have z':=(if_pos hb).symm.trans z;cases z';subst hb;exact⟨ha,by rw[List.length_map];exact hl,vs,_,rv,ha⟩
   ·have z':=(if_neg hb).symm.trans z;cases z'
  ·by_cases hb:b=a
   ·exact hb
   ·exact absurd (if_neg hb) z
noncomputable abbrev NY{K:PySem.W.Frag}{h:Heap}(_:K.In h):PySem.W.Frag:=K
theorem Fy{l:PySem.W.OpenLaw}{n k:Nat}{q:Program}{loose:List Str}{XP:(Str->Option Value)->Heap->Prop}{YP:World->Heap->Prop}{d:DefRec}{K:Params->PySem.W.Frag}{CX:World->dD}{sp:World->Sp}{x:Str}
  (hn:l.most=some n) (oG:n<=sizeLine) (lE:d.params.defaults = []) (hr:bK k callerA)
  (hY:∀(w:World) (h:Heap),YP w h->(K w.params).In h)
  (F:∀(w:World) (mg:Str->Option Value) (fa:Addr) (h:Heap),(K w.params).In h->h.Ns mainGlobals mg->mg d.name=some (.ref fa)->
   ∃fd:FuncData,(∀(s:Shared) (u:Value),BindsTo s fd ⟨[u],[]⟩ [(x,u)])/\
    ∀base:Heap,(K w.params).In base->base.Ns mainGlobals mg->bh l.prog w (K w.params) mg base (CX w) k fa fd [x] (sp w))
  (fB:∀(w:World) (H:Hp) (a:Addr) (ns:List Int),ns.length<=n->tL H->aD (K w.params) H a (ns.map V.int)->sp w [.ref a] H (λv _=>v = .bl true) λ_ _ _=>False)
  (tM:∀(w:World) (H:Hp) (s:Shared) (e:Value) (s':Shared),CX w [] H s (λ_ _ _=>False) e s'->False) :
  PySem.W.WalkO q loose XP YP l.row.toRowW d [] (λf vs=>PySem.call f vs):=by
 refine yS.Fo hn lE λw aX aM mg mb fa o pm cd doc a vs ns G Y ho hd bR hmg tH hints hlen hg=>?_;have KX:=hY w _ Y;obtain⟨fd,hb,hF⟩:=F w mg fa _ KX G.T.g hmg;exact Fp KX G.T.g G.T.b G.T.builtins G.T.nolimit hg tH hints (Nat.le_trans hlen oG) hr hF hb (λH hO hS=>fB w H a ns hlen hO hS) λH e s'=>tM w H aM e s'
noncomputable def inClass(s:Stmt)(j:Nat):Stmt:=match s with
 | .ClassDef _ _ _ body _ _ _ _ _ _ _=>body.getD j (.Pass ⟨0,0,0,0⟩)
 | _=>.Pass ⟨0,0,0,0⟩
noncomputable def e8(s:Stmt):Arguments:=match s with
 | .FunctionDef _ a _ _ _ _ _ _ _ _=>a
 | _=>{ posonlyargs:=[],args:=[],vararg:=none,kwonlyargs:=[],kw_defaults:=[],kwarg:=none,defaults:=[] }
noncomputable def dN(s:Stmt):List Stmt:=match s with
 | .FunctionDef _ _ b _ _ _ _ _ _ _=>b
 | _=>[]
noncomputable def bg(s:Stmt):Scope:=match s with
 | .FunctionDef _ _ _ _ _ _ sc _ _ _=>sc
 | _=>{ kind:=.function,names:=[],isGenerator:=false,isCoroutine:=false }
noncomputable abbrev bL:dD:=λ_ _ _ _ _ _=>False
noncomputable abbrev E0:XK:=λ_ _ _=>False
theorem aU{X:Cx}:Passes bL X E0:=λ_ _ _ _ _ _ _ h=>h.elim
structure aW(K:PySem.W.Frag)(x qual:Str)(st:Stmt)(f:Addr)(fd:FuncData):Prop where
 ex:∃(oc:Value) (od:Option Addr) (kV doc pm:Value) (an:Option Addr) (aK ct:Value) (dW:Array (Option Value)),
  fd=PySem.W.fnOf x qual (e8 st) (dN st) (bg st) .none kV doc pm an aK ct/\K.lookup f=some ⟨oc,od,.func fd,dW⟩/\PySem.W.codeIn K aK qual=true
 kp:PySem.W.keepIn K (.ref f)=true
section
variable{P:Program}{w:World}{K:PySem.W.Frag}{mg:Str->Option Value}{base:Heap}
theorem aW.ok{x qual:Str}{st:Stmt}{f:Addr}{fd:FuncData}{N ps:List Str}{k:Nat}{sp:Sp}(F:aW K x qual st f fd)(S:bU N ps (bg st))(len:∀vs H Q E,sp vs H Q E->vs.length=ps.length)
  (jm:∀(aK:Value) (A:Around) (outer:List Env) (s:Shared) (H:Hp) (vs:List V) (Q:VK) (E:XK),bK k (A.deeper (envOfC qual (bg st) s.heap.objs.size f aK))->sp vs H Q E->
   ∃t,dw (fW bL P w K mg base N qual (bg st) f aK A outer s H E).iy (dN st) t/\t { nx:=λ_ H'=>Q .aC H',rt:=Q } (start N vs) H):bh P w K mg base bL (k+1) f fd ps sp:=by
 obtain⟨oc,od,kV,doc,pm,an,aK,ct,dW,rfl,lk,bR⟩:=F.ex;refine sQ lk bR S len λA outer s H vs Q E hr fB=>?_;obtain⟨t,h,q⟩:=jm aK A outer s H vs Q E hr fB;exact⟨t,h.iy,q⟩
theorem aW.binds{x qual:Str}{st:Stmt}{f:Addr}{fd:FuncData}{ps:List Str}(F:aW K x qual st f fd)
  (h:∀(kV doc pm:Value) (an:Option Addr) (aK ct:Value) (us:List Value),us.length=ps.length->bindArgs (PySem.W.fnOf x qual (e8 st) (dN st) (bg st) .none kV doc pm an aK ct) ⟨us,[]⟩=pure (ps.zip us)):Binds K fd ps []:=by
 obtain⟨oc,od,kV,doc,pm,an,aK,ct,dW,rfl,lk,bR⟩:=F.ex;exact .all (h kV doc pm an aK ct)
theorem fun_mk{x qual:Str}{st:Stmt}{f:Addr}{oc:Value}{od an:Option Addr}{dW:Array (Option Value)}{kV doc pm aK ct:Value}(l:K.lookup f=some ⟨oc,od,.func (PySem.W.fnOf x qual (e8 st) (dN st) (bg st) .none kV doc pm an aK ct),dW⟩)
  (c:PySem.W.codeIn K aK qual=true) (k:PySem.W.keepIn K (.ref f)=true):aW K x qual st f (PySem.W.fnOf x qual (e8 st) (dN st) (bg st) .none kV doc pm an aK ct):=⟨⟨oc,od,kV,doc,pm,an,aK,ct,dW,rfl,l,c⟩,k⟩
end
theorem tN{A:Around}{k:Nat}(hr:bK k A):A.units+1<cLine:=Nat.lt_of_le_of_lt (Nat.add_le_add_left (by decide:1<=64) _) hr.units
theorem lF{n:Nat}(h:n<=1000):n<sizeLine:=Nat.lt_of_le_of_lt h (by decide)
section
variable{X:Cx}
theorem pv(i:Nat){x:Str}{pos:Pos}(hN:X.N[i]? = some x:=by rfl)(hv:rX X.env.scope x:=by first | exact Or.inl rfl | exact Or.inr (Or.inl rfl) | exact Or.inr (Or.inr rfl))(hd:(x == ("__debug__" : Str))=false:=by decide)
  (bR:(x == ("__classdict__" : Str))=false:=by decide):PE X (.Name x pos) (xP i):=DK hN hv hd bR
end
theorem fD{c A B:Prop}[Decidable c](h1:c->A)(h2:¬ c->B):if c then A else B:=by
 by_cases h:c
 ·rw[if_pos h];exact h1 h
 ·rw[if_neg h];exact h2 h
noncomputable def ak(H H':Hp):Prop:=∀b o,H b=some o->H' b=some o
theorem ak.refl(H:Hp):ak H H:=λ_ _ h=>h
theorem ak.trans{H H1 H2:Hp}(a:ak H H1)(b:ak H1 H2):ak H H2:=λc o h=>b c o (a c o h)
theorem ak.free{H H':Hp}(e:ak H H'){l:Addr}(h:H' l=Option.none):H l=Option.none:=by
 cases q:H l with
 | none=>rfl
 | some o =>
  rw[e l o q] at h;cases h
theorem ak.seq{K:PySem.W.Frag}{H H':Hp}{a:Addr}{xs:List V}(e:ak H H')(h:aD K H a xs):aD K H' a xs:=by
 rcases h with(h | ⟨o,h⟩) | h
 ·exact .inl (.inl (e _ _ h))
 ·exact .inl (.inr ⟨o,e _ _ h⟩)
 ·exact .inr h
section
variable{κ:Type}[DecidableEq κ]
end
end _L
set_option maxHeartbeats 4000000
namespace _L
open PySem PySem.Spec PyProof.Rows
section
variable{prog:Program}{w:World}{A:Around}{R:Result->Shared->Prop}{s:Shared}
theorem Fz{elt target iter:Expr}{ifs:List Expr}{scope:Scope}{pos:Pos}{it acc:Value}{env:Env}(I:Nat->Shared->Prop)
  (turn:∀n s,I n s->wpAny (model prog w) A (pyNext it) (λr aM=>match r with
   | none=>R (.ok .next) aM
   | some v=>wpAny (model prog w) A (letOwnedTupleGo target it v) (λ_ yV=>wpAny (model prog w) A (assign target env v) (λ_ dM =>
     wpAny (model prog w) A (forIn ifs true λc r=>if r=true then do let ok ← isTrue c env (eval c env);pure (ForInStep.yield ok) else pure (ForInStep.yield r)) (λok eK =>
      if ok=true then wpAny (model prog w) A (eval elt env) (λx oV =>
       wpAny (model prog w) A (call (.builtin "list.append") [acc,x]) (λ_ yW=>∃m,m<n/\I m yW) (λ_ _=>False) oV) (λ_ _=>False) eK
      else ∃m,m<n/\I m eK) (λ_ _=>False) dM) (λ_ _=>False) yV) (λ_ _=>False) aM) (λ_ _=>False) s)
  (n:Nat) (h:I n s):codeAny (model prog w) A (.compLoop (.ListComp elt [⟨target,iter,ifs,0⟩] scope pos) 0 it acc env) R s:=by
 refine codeAny_loop rfl I (λn s hI=>?_) n h
 show wpAny _ A ((compTurn (.ListComp elt [⟨target,iter,ifs,0⟩] scope pos) 0 it acc env).onRaise (λx=>do noteFrame x env;theTreesLotGoes x)) _ _ s
 refine wpAny_noted ?_;rw[compTurn_list];refine wpAny_bind (wpAny_standAt (wpAny_bind (wpAny_mono (turn n s hI) (λr aM eL=>?_) λ_ _ h'=>h'.elim)));cases r with
 | none=>exact wpAny_pure eL
 | some v =>
  refine wpAny_bind (wpAny_mono eL (λ_ yV FA=>?_) λ_ _ h'=>h'.elim);refine wpAny_bind (wpAny_mono FA (λ_ dM jt=>wpAny_bind (wpAny_mono jt (λok eK oW=>?_) λ_ _ h'=>h'.elim)) λ_ _ h'=>h'.elim);cases ok with
  | false=>exact wpAny_pure ⟨rfl,oW⟩
  | true =>
   exact wpAny_bind (wpAny_bind (wpAny_mono oW (λx oV FD=>wpAny_bind (wpAny_mono FD (λ_ yW FE=>wpAny_pure (wpAny_pure ⟨rfl,FE⟩)) λ_ _ h'=>h'.elim)) λ_ _ h'=>h'.elim))
end
noncomputable def dX(X:Cx)(scope:Scope)(cl:List (Str×Addr))(N:List Str)(C:Addr)(s:Shared)(H:Hp)(fp:List Addr):Cx where
 prog:=X.prog
 w:=X.w
 K:=X.K
 mg:=X.mg
 base:=X.base
 A:=X.A
 N:=N
 aX:=s
 fL:=H
 env:=compEnvC scope cl C X.env
 outer:=X.stack
 stack:=X.stack
 ex:=fp
 fn:=λ_=>false
 calm:=X.calm
 pn:=[]
 xe:=λ_ _=>False
structure dG(X:Cx)(scope:Scope)(cl:List (Str×Addr))(N:List Str)(nt:Nat)(fv:List Nat):Prop where
 oX:closureFor scope X.env=pure cl
 kind:scope.kind = .function
 lG:∀y∈scope.names,y.2≠.cell
 names:∀y∈scope.names,y.2 = .local->scope.names.lookup y.1=some .local
 sub:∀p∈cl,X.env.cells.lookup p.1=some p.2
 has:∀y∈scope.names,y.2 = .free->∃c,cl.lookup y.1=some c
 free:fv.map (λj=>X.N[j]?)=(N.drop nt).map some
 fk:∀y∈N.drop nt,scope.names.lookup y=some .free/\X.env.scope.names.lookup y=some .cell
 le:nt<=N.length
 nd:N.Nodup
theorem oY{env:Env}:∀ {names:List (Str×NameKind)} {x:Str} {k:NameKind},
  (names.map λ(n,k)=>if (k == NameKind.free && env.scope.kind == .function && env.kindOf n == some .cell) then(n,NameKind.cell) else(n,k)).lookup x=some k->
  ∃k0,names.lookup x=some k0/\(k=k0\/(k0 = .free/\k = .cell))
 | [],_,_,h=>by simp at h
 | (n,k0)::r,x,k,h=>by
  have ih:=@oY env r x k;have h:List.lookup x ((if (k0 == NameKind.free && env.scope.kind == .function && env.kindOf n == some .cell)=true then(n,NameKind.cell) else(n,k0))::_)=_:=h
  cases hx:x == n with
  | true =>
   by_cases hc:(k0 == NameKind.free && env.scope.kind == .function && env.kindOf n == some .cell)=true
   ·rw[if_pos hc] at h;simp only[List.lookup_cons,hx,Option.some.injEq] at h;simp only[Bool.and_eq_true,beq_iff_eq] at hc;exact⟨k0,by simp[List.lookup_cons,hx],.inr ⟨hc.1.1,h.symm⟩⟩
   ·rw[if_neg hc] at h;simp only[List.lookup_cons,hx,Option.some.injEq] at h;exact⟨k0,by simp[List.lookup_cons,hx],.inl h.symm⟩
  | false =>
   have h':List.lookup x (r.map λ(n,k)=>if (k == NameKind.free && env.scope.kind == .function && env.kindOf n == some .cell) then(n,NameKind.cell) else(n,k))=some k:=by
    by_cases hc:(k0 == NameKind.free && env.scope.kind == .function && env.kindOf n == some .cell)=true
    ·rw[if_pos hc] at h;simpa only[List.lookup_cons,hx] using h
    ·rw[if_neg hc] at h;simpa only[List.lookup_cons,hx] using h
   obtain⟨q,e,z⟩:=ih h';exact⟨q,by simp only[List.lookup_cons,hx];exact e,z⟩
theorem oZ{α:Type}{x:Str}{v:α}:∀ {l:List (Str×α)},l.lookup x=some v->(x,v)∈l:=λh=>PySem.mem_of_lookup h
section
variable{X:Cx}{pins:List (Addr×Obj)}{σ:St}{H:Hp}{s:Shared}{scope:Scope}{cl:List (Str×Addr)}{N:List Str}{nt:Nat}{fv:List Nat}{fp:List Addr}
theorem dG.cell(S:dG X scope cl N nt fv){x:Str}{c:Addr}(e:cl.lookup x=some c):X.env.cells.lookup x=some c:=S.sub (x,c) (oZ e)
theorem dG.FF(S:dG X scope cl N nt fv){C:Addr}{x:Str}(h:(compEnvC scope cl C X.env).kindOf x=some .cell\/(compEnvC scope cl C X.env).kindOf x=some .free):scope.names.lookup x=some .free:=by
 have h:(scope.names.map λ(n,k)=>if (k == NameKind.free && X.env.scope.kind == .function && X.env.kindOf n == some .cell) then(n,NameKind.cell) else(n,k)).lookup x=some .cell\/
  (scope.names.map λ(n,k)=>if (k == NameKind.free && X.env.scope.kind == .function && X.env.kindOf n == some .cell) then(n,NameKind.cell) else(n,k)).lookup x=some .free:=h
 rcases h with h | h
 ·obtain⟨k0,e,z | ⟨z,_⟩⟩:=oY h
  ·exact absurd z.symm (S.lG _ (oZ e))
  ·rw[z] at e;exact e
 ·obtain⟨k0,e,z | ⟨z,_⟩⟩:=oY h
  ·rw[← z] at e;exact e
  ·rw[z] at e;exact e
theorem dG.ok(S:dG X scope cl N nt fv)(I:Inv X pins σ H s)(hf:∀b∈fp,gr X pins H b)(aY:∀b∈fp,b<s.heap.objs.size){C:Addr}(hC:s.heap.objs.size<=C) :
  (dX X scope cl N C s H fp).Ok where
 mod:=I.ok.mod
 kind:=S.kind
 glob:=I.ok.glob
 blt:=I.ok.blt
 above:=hC
 inj:=λx y c h1 h2=>I.ok.inj x y c (S.cell h1) (S.cell h2)
 has:=λx h=>by
  have e:=S.FF h;exact S.has _ (oZ e) rfl
 iY:=λx c h _=>by cases (show false=true from h)
 hd:=I.ok.hd
 frames:=I.ok.frames
 jY:=.inl rfl
 jZ:=λb hb=>⟨λz=>absurd (Nat.lt_of_lt_of_le (aY b hb) (by rw[z];exact hC)) (Nat.lt_irrefl _),λx c h=>(hf b hb).2.2.2.2.1 x c (S.cell h)⟩
 bs:=I.bs
 fM:=Nat.le_trans I.ok.fM I.sz
 iZ:=λb o e hb=>by
  rcases(hf b hb).2.2.2.1 with z | z
  ·exact I.ok.iZ b o e z
  ·exact absurd (Nat.lt_of_lt_of_le (Heap.lt_size e) (Nat.le_trans I.ok.fM z)) (Nat.lt_irrefl _)
 i6:=λb hb hm=>by
  rcases List.mem_cons.mp (I.rY b hm) with z | z
  ·exact(hf b hb).2.1 z
  ·exact(hf b hb).2.2.1 z
 dI:=I.stack
 fO:=I.rZ
noncomputable def gC(σ:St)(nt:Nat)(fv:List Nat):St:=List.replicate nt none++fv.map λj=>(σ[j]?).getD none
theorem dG.inv(S:dG X scope cl N nt fv)(I:Inv X pins σ H s)(hf:∀b∈fp,gr X pins H b)(aY:∀b∈fp,b<s.heap.objs.size){h1:Heap}{tk:Nat}{D C:Addr}
  (hD:s.heap.objs.size<=D) (hC:s.heap.objs.size<=C) (o7:D≠C) (old:∀b o,s.heap.get? b=some o->h1.get? b=some o) (kg:h1.get? D=some { cls:=.type "list",data:=.seq #[] }) (oR:h1.Ns C λ_=>none) :
  Inv (dX X scope cl N C s H fp) [] (gC σ nt fv) (upd H D (.lst [])) { s with heap:=h1,toks:=tk }:=by
 have I1:Inv X pins σ (upd H D (.lst [])) { s with heap:=h1,toks:=tk }:=I.laid old hD ⟨Nat.zero_le _,[],0,.nil,kg⟩;have hlen:fv.length=(N.drop nt).length:=by simpa using congrArg List.length S.free
 refine⟨S.ok I hf aY hC,rfl,I.bare,Un.laid old hD (I.aB.fresh hD),⟨_,oR,λi x v e1 e2 e3=>?_⟩,λx c e=>?_,?_,λx c e=>?_,λp hp=>absurd (show p∈([]:List (Addr×Obj)) from hp) (by simp),I1.aB,?_⟩
 ·unfold gC at e2;have hi:nt<=i:=by
   by_cases h:nt<=i
   ·exact h
   ·rw[List.getElem?_append_left (by simp;lia),List.getElem?_replicate] at e2
    split at e2 <;> cases e2
  rw[List.getElem?_append_right (by simpa using hi)] at e2
  simp only[List.length_replicate,List.getElem?_map] at e2;cases hj:fv[i - nt]? with
  | none=>rw[hj] at e2;simp at e2
  | some j =>
   rw[hj] at e2;simp only[Option.map_some,Option.some.injEq] at e2;have hN:X.N[j]? = some x:=by
    have q:=congrArg (λl=>l[i - nt]?) S.free;simp only[List.getElem?_map,hj,Option.map_some,List.getElem?_drop] at q;rw[show nt+(i - nt)=i by lia] at q
    have yX:N[i]? = some x:=e1;rw[yX] at q;exact(Option.some.inj q)
   have FG:σ[j]? = some (some v):=by
    cases z:σ[j]? with
    | none=>rw[z] at e2;simp at e2
    | some y=>rw[z] at e2;simp at e2;rw[e2]
   have FH:x∈N.drop nt:=by
    refine List.mem_of_getElem? (i:=i - nt) ?_;rw[List.getElem?_drop,show nt+(i - nt)=i by lia];exact e1
   obtain⟨f1,f2⟩:=S.fk x FH;obtain⟨m,hn,hl⟩:=I1.loc;obtain⟨u,ru,lk⟩:=hl j x v hN FG (.inr (.inl f2));refine⟨u,ru,?_⟩;rcases lk with⟨k,_⟩ | ⟨_,c,ec,hc⟩
   ·have k:X.env.scope.names.lookup x=some .local:=k;rw[f2] at k;cases k
   ·obtain⟨c',e'⟩:=S.has _ (oZ f1) rfl;have:=S.cell e';rw[ec] at this;cases this;refine .inr ⟨?_,c,e',hc⟩;rcases e3 with z | z | z
    ·obtain⟨k0,ek,q | ⟨_,q⟩⟩:=oY (show (scope.names.map λ(n,k)=>if (k == NameKind.free && X.env.scope.kind == .function && X.env.kindOf n == some .cell) then(n,NameKind.cell) else(n,k)).lookup x=some .local from z)
     ·rw[f1] at ek;cases ek;cases q
     ·cases q
    ·exact .inl z
    ·exact .inr z
 ·obtain⟨v,z⟩:=I1.cell x c (S.cell e);exact⟨v,z⟩
 ·show upd H D (.lst []) C=none;rw[aG (Ne.symm o7)];exact I.aB.fresh hC
 ·exact I1.dJ x c (S.cell e)
 ·unfold gC
  show _=N.length;have:=S.le;simp only[List.length_append,List.length_replicate,List.length_map,List.length_drop] at hlen ⊢;lia
end
noncomputable def o8(X:Cx)(ifs:List Expr)(t:TT):Prop :=
 ∀(pins:List (Addr×Obj)) (s:Shared) (σ:St) (H:Hp) (Q:Bool->Hp->Prop),Inv X pins σ H s->t σ H Q->
  wpAny (model X.prog X.w) X.A (forIn ifs true λc r=>if r=true then do let ok ← isTrue c X.env (eval c X.env);pure (ForInStep.yield ok) else pure (ForInStep.yield r)) (TP X pins σ Q) X.xe s
noncomputable def FI:TT:=λ_ H Q=>Q true H
theorem lH{X:Cx}:o8 X [] FI:=λpins s σ H Q I h=>wpAny_tests_nil ⟨H,I,h⟩
noncomputable def kh(wi:TI)(g:TG)(tt:TT)(te:TE)(nt:Nat)(fv:List Nat):TE:=λσ H Q=>wi σ H λJ H1=>∀D,H1 D=none->∃W:Nat->Nat->List V->St->Hp->Prop,
 (∃m,W 0 m [] (gC σ nt fv) (upd H1 D (.lst [])))/\∀i m ys az H2,W i m ys az H2->H2 D=some (.lst ys)/\ys.length<sizeLine/\
  ((J.stop i H2/\Q (.ref D) H2)\/(J.go i H2/\∀x H3,J.iz i H2 x H3->g x az H3 λbD H4=>tt bD H4 λb H5=>if b=true then te bD H5 λv H6=>H6 D=some (.lst ys)/\∃m',m' < m/\W (i+1) m' (ys++[v]) bD (upd H6 D (.lst (ys++[v])))
   else ∃m',m' < m/\W (i+1) m' ys bD H5))
section
variable{X:Cx}{tg iter elt:Expr}{ifs:List Expr}{scope:Scope}{cl:List (Str×Addr)}{N:List Str}{nt:Nat}{fv:List Nat}{pos:Pos}{wi:TI}{g:TG}{tt:TT}{te:TE}
theorem FJ{pins:List (Addr×Obj)}{σ:St}{s2:Shared}{H2:Hp}{it:Addr}{fp:List Addr}{tn:Nat->Heap->Prop}{J:It}{Q:VK}{RR:Value->Addr->Result->Shared->Prop}{E:Value->Shared->Prop}
  (S:dG X scope cl N nt fv) (hc:X.calm=true)
  (hg:∀C s H fp,PG (dX X scope cl N C s H fp) tg g) (ht:∀C s H fp,o8 (dX X scope cl N C s H fp) ifs tt) (he:∀C s H fp,PE (dX X scope cl N C s H fp) elt te)
  (I2:Inv X pins σ H2 s2) (T:Turn X.prog X.w X.K tg J fp it tn) (aJ:tn 0 s2.heap) (f2:∀b∈fp,gr X pins H2 b)
  (hq:∀D,H2 D=none->∃W:Nat->Nat->List V->St->Hp->Prop,
   (∃m,W 0 m [] (gC σ nt fv) (upd H2 D (.lst [])))/\∀i m ys az H2,W i m ys az H2->H2 D=some (.lst ys)/\ys.length<sizeLine/\
    ((J.stop i H2/\Q (.ref D) H2)\/(J.go i H2/\∀x H3,J.iz i H2 x H3->g x az H3 λbD H4=>tt bD H4 λb H5=>if b=true then te bD H5 λv H6=>H6 D=some (.lst ys)/\∃m',m' < m/\W (i+1) m' (ys++[v]) bD (upd H6 D (.lst (ys++[v])))
     else ∃m',m' < m/\W (i+1) m' ys bD H5)))
  (FL:∀(D C:Addr) (s':Shared) (H':Hp) (m':Str->Option Value),Inv X pins σ H' s'->s'.heap.Ns C m'->s2.heap.objs.size<=C->H' C=none->Q (.ref D) H'->RR (.ref D) C (.ok .next) s') :
  wpAny (model X.prog X.w) X.A (newList []) (λacc eK=>wpAny (model X.prog X.w) X.A (newFunctionEnv scope X.env.globals cl [] X.env.qual none .none (some X.env)) (λyY oV =>
   codeAny (model X.prog X.w) X.A (.compStart (.ListComp elt [⟨tg,iter,ifs,0⟩] scope pos) 0 (.ref it) acc { yY with scope:=relabel scope X.env }) (RR acc yY.locals) oV) E eK) E s2:=by
 refine wpAny_newObj_type (wpAny_newFunctionEnv S.lG (by intro y hy;simp at hy) (λeL tO o9=>?_) S.kind)
 dsimp only at tO o9 ⊢;generalize tQ:s2.heap.push { cls:=.type "list",dict:=none,data:=.seq ([]:List Value).toArray }=HH at tO o9 ⊢;have hC:HH.objs.size=s2.heap.objs.size+1:=by rw[← tQ,Heap.size_push]
 have o7:s2.heap.objs.size≠HH.objs.size:=by rw[hC];exact Nat.ne_of_lt (Nat.lt_succ_self _)
 have tR:s2.heap.objs.size<=HH.objs.size:=by rw[hC];exact Nat.le_succ _
 have old:∀b o,s2.heap.get? b=some o->eL.get? b=some o:=λb o e=>by
  have hb:b<s2.heap.objs.size:=Heap.lt_size e;exact o9.extBut b o (by rw[hC];exact Nat.ne_of_lt (Nat.lt_succ_of_lt hb)) (Heap.get?_push_of_some _ (tQ▸Heap.get?_push_of_some _ e))
 have kg:eL.get? s2.heap.objs.size=some { cls:=.type "list",data:=.seq #[] }:=o9.extBut _ _ o7 (Heap.get?_push_of_some _ (tQ▸Heap.get?_push_size _ rfl));have aY:∀b∈fp,b<s2.heap.objs.size:=λb hb=>by
  obtain⟨o,e,_⟩:=T.obj 0 _ aJ b hb;exact Heap.lt_size e
 have hD:H2 s2.heap.objs.size=none:=I2.aB.fresh (Nat.le_refl _);obtain⟨W,⟨m0,w0⟩,turn⟩:=hq _ hD;have bT:tn 0 eL:=T.keep _ _ _ aJ λb _ o e=>old b o e;have I3:=S.inv I2 f2 aY (h1:=eL) (tk:=s2.toks+([]:List (Str×Value)).length) (D:=s2.heap.objs.size) (C:=HH.objs.size) (Nat.le_refl _) tR o7 old kg (by simpa using tO)
 -- what stays true of the iterator's objects
 have nD:∀b∈fp,b≠s2.heap.objs.size:=λb hb=>Nat.ne_of_lt (aY b hb);have je:∀ {H':Hp},(∀b∈fp,H' b=none)->∀b∈fp,gr (dX X scope cl N HH.objs.size s2 H2 fp) [] H' b:=λ{H'} hn b hb=>by
  have ok:=S.ok I2 f2 aY tR;refine⟨hn b hb,(ok.jZ b hb).1,ok.i6 b hb,.inl hb,(ok.jZ b hb).2,λp hp=>absurd (show p∈([]:List (Addr×Obj)) from hp) (by simp)⟩
 have loop:∀eK:Shared,eK = { s2 with heap:=eL,toks:=s2.toks+([]:List (Str×Value)).length }->
   codeAny (model X.prog X.w) X.A (.compLoop (.ListComp elt [⟨tg,iter,ifs,0⟩] scope pos) 0 (.ref it) (.ref s2.heap.objs.size) (compEnvC scope cl HH.objs.size X.env)) (RR (.ref s2.heap.objs.size) HH.objs.size) eK:=by
  rintro eK rfl;refine Fz (λn s'=>∃i ys aL H',Inv (dX X scope cl N HH.objs.size s2 H2 fp) [] aL H' s'/\tn i s'.heap/\(∀b∈fp,H' b=none)/\W i n ys aL H') ?_ m0
   ⟨0,[],_,_,I3,bT,λb hb=>by rw[aG (nD b hb)];exact(f2 b hb).1,w0⟩
  rintro n s3 ⟨i,ys,gu,H3,J3,t3,jf,w3⟩;obtain⟨eD,FN,FO⟩:=turn i n ys gu H3 w3;rcases FO with⟨stop,qn⟩ | ⟨go,step⟩
  ·refine aI (T.done (dX X scope cl N HH.objs.size s2 H2 fp) rfl rfl rfl hc i [] s3 gu H3 (λ_ _=>False) J3 (je jf) t3 stop) λr s4 ⟨hr,I4⟩=>?_;subst hr;have I5:Inv X pins σ H3 s4:=I2.xO (ch:=fp) I4.os I4.base I4.aB I4.bare λb hb=>⟨(f2 b hb).2.2.2.1,(f2 b hb).2.1,(f2 b hb).2.2.2.2.1,(f2 b hb).2.2.2.2.2⟩;obtain⟨m,hn,_⟩:=I4.loc;exact FL _ _ s4 H3 m I5 hn tR I4.free qn
  ·refine aI (T.item (dX X scope cl N HH.objs.size s2 H2 fp) rfl rfl rfl hc i [] s3 gu H3 (λ_ _=>False) J3 (je jf) t3 go) λr s4 ⟨u,hr,h4⟩=>?_;subst hr;refine aI h4 λ_ s5 ⟨x,H5,I5,r5,y5,jg,sC⟩=>?_;have sD:=I5.pinned (je sC) (T.obj _ _ jg);refine aI (hg _ _ _ _ _ s5 gu H5 x u _ sD r5 (step x H5 y5)) λ_ s6 ⟨iB,H6,I6,q6⟩=>?_;have yZ:∀ {eF:St} {H7:Hp} {s7:Shared},Inv (dX X scope cl N HH.objs.size s2 H2 fp) ([]++k8 fp s5.heap) eF H7 s7->tn (i+1) s7.heap/\∀b∈fp,H7 b=none:=λ{eF H7 s7} I7=>by
    refine⟨T.keep _ _ _ jg λb hb o e=>(I7.pin (b,o) (List.mem_append_right _ (List.mem_append_right _ (oh hb e)))).1,λb hb=>?_⟩;obtain⟨o,e,d⟩:=T.obj _ _ jg b hb;exact(I7.pin (b,o) (List.mem_append_right _ (List.mem_append_right _ (oh hb e)))).2.1
   refine aI (ht _ _ _ _ _ s6 iB H6 _ I6 q6) λb s7 ⟨H7,I7,q7⟩=>?_;cases b with
   | false =>
    obtain⟨m',hm,w7⟩:=q7;obtain⟨t7,n7⟩:=yZ I7;exact⟨m',hm,i+1,ys,iB,H7,I7.k9,t7,n7,w7⟩
   | true =>
    refine aI (he _ _ _ _ _ s7 iB H7 _ I7 q7) λu8 s8 ⟨v8,H8,I8,r8,FP,m',hm,w8⟩=>?_;refine aI (oK (X:=dX X scope cl N HH.objs.size s2 H2 fp) _ s8 iB H8 (.ref s2.heap.objs.size) [v8] (.ref s2.heap.objs.size) [u8] (λ_ H9=>∃m',m' < n/\W (i+1) m' (ys++[v8]) iB H9) I8 rfl (.cons r8 .nil)
     ⟨s2.heap.objs.size,ys,v8,rfl,rfl,FP,FN,m',hm,w8⟩) λ_ s9 ⟨_,H9,I9,_,m9,FQ,w9⟩=>?_
    obtain⟨t9,n9⟩:=yZ I9;exact⟨m9,FQ,i+1,ys++[v8],iB,H9,I9.k9,t9,n9,w9⟩
 exact codeAny_compStart_list (loop _ rfl) (T.self _ 0 _ _ _ bT (loop _ rfl))
theorem lI(S:dG X scope cl N nt fv)(hc:X.calm=true)(hi:PI X tg iter wi)
  (hg:∀C s H fp,PG (dX X scope cl N C s H fp) tg g) (ht:∀C s H fp,o8 (dX X scope cl N C s H fp) ifs tt) (he:∀C s H fp,PE (dX X scope cl N C s H fp) elt te)
  (hs:∀x,foldedSetIterable iter X.env x=pure x:=by intro _;rfl):PE X (.ListComp elt [⟨tg,iter,ifs,0⟩] scope pos) (kh wi g tt te nt fv):=by
 intro pins s σ H Q I h;rw[eval_ListComp];refine wpAny_comprehension_free (use:=none) rfl hs S.oX S.kind S.names (aI (hi pins s σ H _ I h) λxv s1 h1=>aI h1 λsu s2 h2=>?_);obtain⟨it,fp,tn,J,H2,rfl,I2,T,aJ,f2,hq⟩:=h2;refine FJ (RR:=λacc C=>compPost (model X.prog X.w) X.A X.xe none (EP X pins σ Q) acc C) S hc hg ht he I2 T aJ f2 hq λD C s' H' m' I' hn hC fC q=>?_;refine⟨m',hn,λh' aT=>⟨.ref D,H',?_,rfl,q⟩⟩;have o_:=I2.kX hC fC;exact I'.turned (t':=s'.toks) (it:=C) (λb o hb e=>aT.extBut b o hb e) fC o_.2.1 o_.2.2.2.1 o_.2.2.2.2.1 o_.2.2.2.2.2
end
noncomputable def lJ(K:PySem.W.Frag)(a:Addr):It :=
 ⟨λi H=>∃xs x,aD K H a xs/\xs[i]? = some x,λi H v H'=>∃T x,H T=none/\v = .ref T/\(∀xs,aD K H a xs->xs[i]? = some x)/\H' = upd H T (.tup [.int i,x]),λi H=>∃xs,aD K H a xs/\xs.length<=i⟩
theorem FT{P:Program}{w:World}{K:PySem.W.Frag}{elts:List Expr}{x1}{tp:Pos}(a e it:Addr)(tT:e≠it) :
  Turn P w K (.Tuple elts x1 tp) (lJ K a) [e,it] e (λi h=>(∃old,IsEnum h e it (i:Nat) old)/\h.IsListIter it a i) where
 mem:=by simp
 obj:=λi h st b hb=>by
  obtain⟨⟨old,he⟩,o,e1,c,d⟩:=st;rcases List.mem_cons.mp hb with z | hb
  ·rw[z];exact⟨_,he,λv z=>by
    have z':Data.fields _=Data.cell v:=z;cases z'⟩
  ·have e2:b=it:=by simpa using hb
   rw[e2];exact⟨o,e1,λv z=>by rw[d] at z;cases z⟩
 keep:=λi h h' st k=>by
  obtain⟨⟨old,he⟩,hi⟩:=st;exact⟨⟨old,k e (by simp) _ he⟩,hi.at λo q=>k it (by simp) o q⟩
 item:=by
  intro X hP hw hK hc i pins s σ H E I hf st hg;subst hP hw hK;obtain⟨xs,x,hq,hx⟩:=hg;obtain⟨au,rv,p,hz⟩:=I.list hq;obtain⟨u,hu,ru⟩:=rv.get hx;obtain⟨⟨old,he⟩,hit⟩:=st;obtain⟨f0,f1,f2,f3,f4,f5⟩:=hf e (by simp)
  obtain⟨g0,g1,g2,g3,g4,g5⟩:=hf it (by simp)
  have y9:e<s.heap.objs.size:=Heap.lt_size he;have FU:it<s.heap.objs.size:=by obtain⟨_,z,_⟩:=hit;exact Heap.lt_size z
  refine wpAny_pyNext_enum_item he hit p.isList (x:=u) (by simpa using hu) tT λh' ho y_ hT hsz hk=>?_
  refine⟨_,rfl,?_⟩;refine wpAny_letOwnedTupleGo_enum ho λki zb aT=>?_
  replace aT:Heap.SameBut e h' ki:=aT
  -- two records have turned,a tuple is new
  have I1:Inv X pins σ H { s with heap:=(s.heap),toks:=s.toks+1 }:=I.tok _;have kk:∀b o,b∉[e,it]->s.heap.get? b=some o->ki.get? b=some o:=λb o hb q=>by
   have h1:b≠e:=λz=>hb (by simp[z])
   have h2:b≠it:=λz=>hb (by simp[z])
   exact aT.extBut b o h1 (hk b o h1 h2 q)
  have kQ:∀b v,H b=some v->b∉[e,it]:=λb v q hb=>by
   rcases List.mem_cons.mp hb with z | hb
   ·rw[z,f0] at q;cases q
   ·have e2:b=it:=by simpa using hb
    rw[e2,g0] at q;cases q
  have zc:H s.heap.objs.size=none:=I.aB.fresh (Nat.le_refl _);have lK:∀b v,H b=some v->b≠s.heap.objs.size:=λb v q z=>by rw[z,zc] at q;cases q
  have FW:ki.get? s.heap.objs.size=some { cls:=.type "tuple",data:=.seq #[.int (i:Nat) s.toks,u] }:=aT.extBut _ _ (Nat.ne_of_gt y9) hT;have NZ:∃o,ki.get? e=some o:=⟨_,zb⟩;have N3:∃o,ki.get? it=some o:=by
   obtain⟨o,q,_⟩:=y_;exact⟨o,aT.extBut _ _ (Ne.symm tT) q⟩
  have I2:Inv X pins σ (upd H s.heap.objs.size (.tup [.int i,x])) { s with heap:=ki,toks:=s.toks+1 }:=by
   refine I.step (g':=s.gens) (d':=s.drawn) (ch:=[e,it]) (λb hb=>?_) (λb o _ _ hc q _=>kk b o hc q) (λb o _ _ hc q _=>⟨o.slots,kk b o hc q⟩) (λb o _ q n=>?_) (λb o hc q=>⟨o,kk b o hc q⟩)
    (λb ys q=>by rw[aG (lK b _ q)];exact q) (λb o v q=>by rw[aG (lK b _ q)];exact q) (λb ps q=>⟨#[],by rw[aG (lK b _ q),q];simp⟩) (λm hm=>?_) (λb v q=>?_) I.bare
   ·rcases List.mem_cons.mp hb with z | hb
    ·rw[z];exact⟨f3,f1,f4,f5⟩
    ·have e2:b=it:=by simpa using hb
     rw[e2];exact⟨g3,g1,g4,g5⟩
   ·rw[aG (Nat.ne_of_lt (Heap.lt_size q))];exact n
   ·obtain⟨o,es,ep,q,r⟩:=hm;exact⟨o,es,ep,kk _ o (by
     intro hb;rcases List.mem_cons.mp hb with z | hb
     ·exact f1 z.symm
     ·exact g1 (by simpa using hb:X.env.locals=it).symm) q,r⟩
   ·by_cases hb:b=s.heap.objs.size
    ·subst hb;rw[aF] at q;cases q;refine⟨by show 2<=sizeLine;decide,[.int (i:Nat) s.toks,u],.cons ⟨_,rfl⟩ (.cons ru .nil),_,FW,rfl,_,rfl⟩
    ·rw[aG hb] at q;refine(I.aB b v q).fj (λc o nU z=>kk c o ?_ z) (λc z=>by rw[aG (lK c _ z)];exact z) (λc ys z=>by rw[aG (lK c _ z)];exact z)
     rcases nU with z2 | z2
     ·rw[z2];exact kQ b v q
     ·exact kQ c _ z2
  refine⟨.ref s.heap.objs.size,_,I2,rfl,⟨_,x,zc,rfl,λys hy=>by rw[I.xT hy hq];exact hx,rfl⟩,⟨⟨u,?_⟩,?_⟩,λb hb=>?_⟩
  ·have z:((i+1:Nat):Int)=(i:Int)+1:=by lia
   rw[z];exact zb
  ·exact y_.at λo q=>aT.extBut _ _ (Ne.symm tT) q
  ·have aY:b<s.heap.objs.size:=by
    rcases List.mem_cons.mp hb with z | hb
    ·rw[z];exact y9
    ·rw[show b=it by simpa using hb];exact FU
   rw[aG (Nat.ne_of_lt aY)];exact(hf b hb).1
 done:=by
  intro X hP hw hK hc i pins s σ H E I hf st hg;subst hP hw hK;obtain⟨xs,hq,hx⟩:=hg;obtain⟨au,rv,p,hz⟩:=I.list hq;obtain⟨⟨old,he⟩,hit⟩:=st;obtain⟨g0,g1,g2,g3,g4,g5⟩:=hf it (by simp)
  have hl:=rv.length;exact wpAny_pyNext_enum_end (I.ok.hd hc) he hit p.isList (by simp;lia) λh' eb=>⟨rfl,I.turned (t':=s.toks) (λb o hb e=>eb b o hb e) g0 g1 g3 g4 g5⟩
 self:=λ_ _ _ _ _ st h=>by
  obtain⟨⟨old,he⟩,_⟩:=st;exact wpAny_pyIter_enum he h
section
variable{X:Cx}
noncomputable def tU(K:PySem.W.Frag)(ta:TA):TI:=λσ H R=>ta σ H λvs H1=>∃a,vs = [.ref a]/\(∃xs,aD K H1 a xs)/\R (lJ K a) H1
theorem zd{l:Expr}{ta:TA}{p pos tp:Pos}{elts:List Expr}{x1}(hg:Gl X "enumerate")(hm:X.mg "enumerate" = none)(hl:PA X [l] ta)(hs:starEach [l] X.env = [(false,eval l X.env)]:=by rfl) :
  PI X (.Tuple elts x1 tp) (.Call (.Name "enumerate" p) [l] [] pos) (tU X.K ta):=by
 intro pins s σ H R I h;refine Call_ (iw I hg hm boot_enumerate (PyProof.Rows.callWith_type1 (aI (hl pos pins s σ H _ I h) λus s1 ⟨vs,H1,I1,r1,q1⟩=>?_) hs rfl));obtain⟨a,e,⟨xs,hq⟩,q⟩:=q1;subst e;obtain⟨u,rfl,ru⟩:=vals1 r1;cases ru;obtain⟨au,rv,p,hz⟩:=I1.list hq;refine call_enumerate_list p.isList λh' he hit hsz hk=>?_;have I2:Inv X pins σ H1 { s1 with heap:=h' }:=I1.kept (t':=s1.toks) hk;refine wpAny_pyIter_enum he ?_;have n1:H1 (s1.heap.objs.size+1)=none:=I1.aB.fresh (Nat.le_succ _);have n0:H1 s1.heap.objs.size=none:=I1.aB.fresh (Nat.le_refl _);refine⟨s1.heap.objs.size+1,[s1.heap.objs.size+1,s1.heap.objs.size],_,_,H1,rfl,I2,FT a _ _ (Nat.succ_ne_self _),⟨⟨_,he⟩,hit⟩,λb hb=>?_,q⟩;rcases List.mem_cons.mp hb with z | hb
 ·rw[z];exact I1.kX (Nat.le_succ _) n1
 ·rw[show b=s1.heap.objs.size by simpa using hb];exact I1.kX (Nat.le_refl _) n0
theorem FY{K:PySem.W.Frag}{a:Addr}{xs:List V}{g:TG}{tb:TS}{D:Ends}{σ:St}{H:Hp}(Pv:Nat->St->Hp->Prop)(h0:Pv 0 σ H)(hl:∀i σ H,i<=xs.length->Pv i σ H->aD K H a xs)
  (hs:∀i x σ H T,xs[i]? = some x->Pv i σ H->H T=none->g (.ref T) σ (upd H T (.tup [.int i,x])) λaz H2=>tb { D with nx:=Pv (i+1),ct:=Pv (i+1),bk:=D.nx } az H2) (hd:∀σ H,Pv xs.length σ H->D.nx σ H) :
  ∃W:Nat->Nat->St->Hp->Prop,(∃m,W 0 m σ H)/\∀i m σ H,W i m σ H->
   ((lJ K a).stop i H/\D.nx σ H)\/((lJ K a).go i H/\∃N:St->Hp->Prop,(∀aL H',N aL H'->∃m',m' < m/\W (i+1) m' aL H')/\∀x H',(lJ K a).iz i H x H'->g x σ H' λaz H2=>tb { D with nx:=N,ct:=N,bk:=D.nx } az H2):=by
 refine⟨λi m σ H=>m=xs.length - i/\i<=xs.length/\Pv i σ H,⟨xs.length,by simp,Nat.zero_le _,h0⟩,?_⟩
 rintro i m σ H ⟨rfl,hi,p⟩;have q:=hl i σ H hi p;by_cases aY:i<xs.length
 ·refine .inr ⟨⟨xs,xs[i],q,by simp[aY]⟩,Pv (i+1),λaL H' p'=>⟨xs.length - (i+1),by lia,rfl,aY,p'⟩,λx H' y=>?_⟩
  obtain⟨T,z,hT,e,y,e2⟩:=y;subst e e2;exact hs i z σ H T (y xs q) p hT
 ·have e:i=xs.length:=by lia
  subst e;exact .inl ⟨⟨xs,q,Nat.le_refl _⟩,hd σ H p⟩
theorem FZ(hc:X.calm=true):gv X (.builtin "sum") (λxs H Q=>∃(p:Addr) (ns:List Int),xs = [.ref p]/\aD X.K H p (ns.map V.int)/\Q (.int ns.sum) H):=by
 intro pins s σ H xs us Q I r h;obtain⟨p,ns,rfl,hq,q⟩:=h;obtain⟨u,rfl,ru⟩:=vals1 r;cases ru;obtain⟨au,rv,pl,hz⟩:=I.list hq;have hi:IntsAre au ns:=intsAre_of rv;obtain⟨xs,hx⟩:=hi.allInts.items;have eN:s.heap.IsList p (intItems xs):=hx▸pl.isList;refine sum_intListG (I.ok.hd hc) eN λh' tk t' hk=>?_;have e1:ns=xs.toList.map (·.1):=by
  rw[← nums_intItems,← hx];exact(show numsOf au.toArray.toList=ns from hi.numsOf).symm
 have e2:preSum (numAt xs) xs.size=ns.sum:=by
  rw[preSum_eq,List.take_of_length_le (by simp),e1]
 rw[e2];exact⟨.int ns.sum,H,I.kept hk,⟨t',rfl⟩,q⟩
theorem dB.F_{pins:List (Addr×Obj)}{σ:St}{H:Hp}{s:Shared}{x:V}{u t:Value}(I:Inv X pins σ H s)(rx:RelV x u)(ty:dB X.K H x t):∃Hh:Heap->Prop,PySem.W.KitX X.K u t Hh/\Hh s.heap/\u≠.builtin "__main__.__loader__#opaque" := by
 cases ty with
 | aC=>cases (show u=Value.none from rx);exact⟨_,PySem.W.kitx_none,True.intro,λz=>nomatch z⟩
 | bl y=>cases (show u=Value.bool y from rx);exact⟨_,PySem.W.kitx_bool,True.intro,λz=>nomatch z⟩
 | int i=>obtain⟨t,q⟩:=(show ∃t,u=Value.int i t from rx);cases q;exact⟨_,PySem.W.kitx_int,True.intro,λz=>nomatch z⟩
 | str y=>obtain⟨t,q⟩:=(show ∃t,u=Value.str y t from rx);cases q;exact⟨_,PySem.W.kitx_str,True.intro,λz=>nomatch z⟩
 | ig y=>obtain⟨t,q⟩:=(show ∃t,u=Value.float y t from rx);cases q;exact⟨_,PySem.W.kitx_float,True.intro,λz=>nomatch z⟩
 | @lst a xs ea =>
  cases (show u=Value.ref a from rx);obtain⟨_,_,n,_,h1⟩:=(show bu X.prog X.w H s.heap a (.lst xs) from I.aB a _ ea);exact⟨_,PySem.W.kitx_list,⟨_,h1,rfl⟩,λz=>nomatch z⟩
 | @dm a ob xs ea =>
  cases (show u=Value.ref a from rx);obtain⟨_,_,_,n,_,h1⟩:=(show bu X.prog X.w H s.heap a (.dm ob (.lst xs)) from I.aB a _ ea);exact⟨_,PySem.W.kitx_list,⟨_,h1,rfl⟩,λz=>nomatch z⟩
 | @tup a xs ea =>
  cases (show u=Value.ref a from rx);obtain⟨_,_,_,p⟩:=(show bu X.prog X.w H s.heap a (.tup xs) from I.aB a _ ea);obtain⟨o,h1,h2,_⟩:=p;exact⟨_,PySem.W.kitx_tuple,⟨o,h1,h2⟩,λz=>nomatch z⟩
 | @dK a ao ea =>
  cases (show u=Value.ref a from rx);obtain⟨_,_,vs,_,p⟩:=(show bu X.prog X.w H s.heap a (.dK ao) from I.aB a _ ea);obtain⟨o,es,ep,h1,h2,_⟩:=p;exact⟨_,PySem.W.kitx_dict,⟨o,h1,h2.1⟩,λz=>nomatch z⟩
 | @dT a ao ea =>
  cases (show u=Value.ref a from rx);obtain⟨_,_,xs,_,o,es,ep,h1,h2,_⟩:=(show bu X.prog X.w H s.heap a (.dT ao) from I.aB a _ ea);exact⟨_,PySem.W.kitx_dict,⟨o,h1,h2.1⟩,λz=>nomatch z⟩
 | @ins a C dx fs ea cl ha hn jk hm =>
  cases (show u=Value.ref a from rx);obtain⟨mA,O,_⟩:=lz I.aB ea;obtain⟨od,J,_⟩:=O.look;exact⟨_,PySem.W.kitx_own (cl.get _) cl.hd ha hn jk hm,J,λz=>nomatch z⟩
theorem gD:gv X (.builtin "isinstance") (λxs H Q=>∃x T t b,xs = [x,.ty T]/\dB X.K H x t/\PySem.W.kitOne X.K t (.type T)=some b/\Q (.bl b) H):=by
 intro pins s σ H xs us Q I r h;obtain⟨x,T,t,b,rfl,ty,e,q⟩:=h;obtain⟨u,v,rfl,ru,rv⟩:=vals2 r;cases (show v=Value.type T from rv);exact Ej I ru ty e λtk=>⟨.bl b,H,I.tok _,rfl,q⟩
theorem ze:∀ {Ts:List String} {us:List Value},Vals (Ts.map V.ty) us->us=Ts.map Value.type
 | [],_,.nil=>rfl
 | _::_,_,.cons r t=>by
  have r:_=Value.type _:=r;rw[r,ze t];rfl
theorem Ga:gv X (.builtin "isinstance") (λxs H Q=>∃(x:V) (p:Addr) (Ts:List String) (t:Value) (b:Bool),xs = [x,.ref p]/\H p=some (.tup (Ts.map V.ty))/\dB X.K H x t/\PySem.W.kitAny X.K t (Ts.map Value.type)=some b/\Q (.bl b) H):=by
 intro pins s σ H xs us Q I r h;obtain⟨x,p,Ts,t,b,rfl,hp,ty,e,q⟩:=h;obtain⟨u,v,rfl,ru,rv⟩:=vals2 r;cases (show v=Value.ref p from rv);obtain⟨Hh,Z,hh,ne⟩:=dB.F_ I ru ty;obtain⟨_,au,rt,o,ho,hc,n,hd⟩:=I.aB p _ hp;have ei:=ze rt;obtain⟨oc,od,dt,sl⟩:=o;simp only at hc hd;subst hc hd ei;exact PySem.W.kia_tup Z I.bx hh ho e ne λtk=>⟨.bl b,H,I.tok _,rfl,q⟩
end
noncomputable def AllP{α:Type}(P:α->Prop):List α->Prop
 | []=>True
 | a::r=>P a/\AllP P r
theorem AllP.mem{α:Type}{P:α->Prop}:∀ {l:List α},AllP P l->∀a∈l,P a
 | _::_,h,a,hm=>by
  rcases List.mem_cons.mp hm with rfl | hm
  ·exact h.1
  ·exact AllP.mem h.2 a hm
theorem dG.of{X:Cx}{scope:Scope}{cl:List (Str×Addr)}{N:List Str}{nt:Nat}{fv:List Nat}(oX:closureFor scope X.env=pure cl)(kind:scope.kind = .function)
  (lG:(scope.names.all λy=>y.2 != .cell)=true) (names:(scope.names.all λy=>y.2 != .local || scope.names.lookup y.1 == some .local)=true)
  (sub:AllP (λp:Str×Addr=>X.env.cells.lookup p.1=some p.2) cl) (has:(scope.names.all λy=>y.2 != .free || (cl.lookup y.1).isSome)=true)
  (free:fv.map (λj=>X.N[j]?)=(N.drop nt).map some) (fk:((N.drop nt).all λy=>scope.names.lookup y == some .free && X.env.scope.names.lookup y == some .cell)=true) (le:nt<=N.length) (nd:N.Nodup) :
  dG X scope cl N nt fv where
 oX:=oX
 kind:=kind
 lG:=λy hy=>by have:=List.all_eq_true.mp lG y hy;simpa using this
 names:=λy hy hl=>by have:=List.all_eq_true.mp names y hy;simp[hl] at this;exact this
 sub:=sub.mem
 has:=λy hy hl=>by
  have:=List.all_eq_true.mp has y hy;rw[hl] at this;exact Option.isSome_iff_exists.mp (by simpa only[bne_self_eq_false,Bool.false_or] using this)
 free:=free
 fk:=λy hy=>by have:=List.all_eq_true.mp fk y hy;simpa using this
 le:=le
 nd:=nd
theorem N4{CX:dD}{P:Program}{w:World}{K:PySem.W.Frag}{mg:Str->Option Value}{base:Heap}{N:List Str}{qual:Str}{scope:Scope}{f:Addr}{cd:Value}{A:Around}{outer:List Env}{s:Shared}{H:Hp}{E:XK} :
  (fW CX P w K mg base N qual scope f cd A outer s H E).K=K:=rfl
theorem N5{X:Cx}{E:Value->Shared->Prop}:(X.fu E).K=X.K:=rfl
theorem N6{X:Cx}{scope:Scope}{cl:List (Str×Addr)}{N:List Str}{C:Addr}{s:Shared}{H:Hp}{fp:List Addr}:(dX X scope cl N C s H fp).K=X.K:=rfl
structure Zn(H:Hp)(a:Addr)(ts:List Addr)(z:List (Int×Int)):Prop where
 l:H a=some (.lst (ts.map V.ref))
 n:ts.length=z.length
 t:∀(i:Nat) (t:Addr) (p:Int×Int),ts[i]? = some t->z[i]? = some p->H t=some (.tup [.int p.1,.int p.2])
theorem Zn.same{H H':Hp}{a:Addr}{ts:List Addr}{z:List (Int×Int)}(h:Zn H a ts z)(e:ak H H'):Zn H' a ts z:=⟨e _ _ h.l,h.n,λi t p h1 h2=>e _ _ (h.t i t p h1 h2)⟩
theorem Zn.at{H:Hp}{a:Addr}{ts:List Addr}{z:List (Int×Int)}(h:Zn H a ts z){i:Nat}{x:V}(e:(ts.map V.ref)[i]? = some x):∃t p,x = .ref t/\z[i]? = some p/\H t=some (.tup [.int p.1,.int p.2]):=by
 rw[List.getElem?_map] at e;cases q:ts[i]? with
 | none=>rw[q] at e;cases e
 | some t =>
  rw[q] at e;have hi:i<z.length:=by rw[← h.n];exact(List.getElem?_eq_some_iff.mp q).1
  exact⟨t,z[i],(Option.some.inj e).symm,List.getElem?_eq_getElem hi,h.t i t _ q (List.getElem?_eq_getElem hi)⟩
noncomputable def mix(c k:Int):Int:=((c % 1000000000000000+1)*48271+k*k*16807+k*7919) % 2147483647*69621 % 2147483629
theorem Gb(c k:Int):0<=mix c k:=Int.emod_nonneg _ (by decide)
noncomputable def eO(ns:List Int)(k:Int):Int:=ns.getD k.toNat 0
noncomputable def dO:Sp:=λvs H Q _=>∃c k:Int,vs = [.int c,.int k]/\0<=k/\k<100000/\Q (.int (mix c k)) H
noncomputable def kj(K:PySem.W.Frag):Sp:=λvs H Q _=>∃(a:Addr) (ns:List Int) (k:Int),vs = [.ref a,.int k]/\aD K H a (ns.map V.int)/\ns.length<=63/\0<=k/\Q (.int (eO ns k)) H
section
variable{K:PySem.W.Frag}{ta:TA}{tl:TE}{g:TG}{tb:TS}{D:Ends}{σ:St}{H:Hp}
theorem Gd(n:Nat)(cZ:∀Q:List V->Hp->Prop,Q [.int (n:Int)] H->ta σ H Q)(hn:n<1000000000)(Pv:Nat->St->Hp->Prop)(h0:Pv 0 σ H)
  (hs:∀i σ H,i<n->Pv i σ H->g (.int (i:Int)) σ H λaz H2=>tb { D with nx:=Pv (i+1),ct:=Pv (i+1),bk:=D.nx } az H2) (hd:∀σ H,Pv n σ H->D.nx σ H):fV (kY ta) g tb D σ H:=by
 refine cZ _ ⟨n,rfl,by lia,by lia,?_⟩
 have e:((n:Int)).toNat=n:=by lia
 rw[e];refine sE Pv h0 (λi σ H hi p=>?_) hd;have e2:(0:Int)+(i:Int)=i:=by lia
 rw[e2];exact hs i σ H hi p
theorem Ge(lo hi:Int)(cZ:∀Q:List V->Hp->Prop,Q [.int lo,.int hi] H->ta σ H Q)(b1 : -1000000000000<lo)(b2:lo<1000000000000)(b3 : -1000000000000<hi)(b4:hi<1000000000000)(Pv:Nat->St->Hp->Prop)(h0:Pv 0 σ H)
  (hs:∀i σ H,i<(hi - lo).toNat->Pv i σ H->g (.int (lo+(i:Int))) σ H λaz H2=>tb { D with nx:=Pv (i+1),ct:=Pv (i+1),bk:=D.nx } az H2) (hd:∀σ H,Pv (hi - lo).toNat σ H->D.nx σ H):fV (kZ ta) g tb D σ H :=
 cZ _ ⟨lo,hi,rfl,⟨by lia,by lia,by lia,by lia⟩,sE Pv h0 hs hd⟩
theorem Gf(a:Addr)(xs:List V)(ju:∀Q:VK,Q (.ref a) H->tl σ H Q)(cT:aD K H a xs)(Pv:Nat->St->Hp->Prop)(h0:Pv 0 σ H)(hl:∀i σ H,i<=xs.length->Pv i σ H->aD K H a xs)
  (hs:∀i x σ H,xs[i]? = some x->Pv i σ H->g x σ H λaz H2=>tb { D with nx:=Pv (i+1),ct:=Pv (i+1),bk:=D.nx } az H2) (hd:∀σ H,Pv xs.length σ H->D.nx σ H):fV (j5 K tl) g tb D σ H :=
 ju _ ⟨a,rfl,⟨xs,cT⟩,x6 Pv h0 hl hs hd⟩
theorem Gg(a:Addr)(xs:List V)(cZ:∀Q:List V->Hp->Prop,Q [.ref a] H->ta σ H Q)(cT:aD K H a xs)(Pv:Nat->St->Hp->Prop)(h0:Pv 0 σ H)(hl:∀i σ H,i<=xs.length->Pv i σ H->aD K H a xs)
  (hs:∀i x σ H T,xs[i]? = some x->Pv i σ H->H T=none->g (.ref T) σ (upd H T (.tup [.int i,x])) λaz H2=>tb { D with nx:=Pv (i+1),ct:=Pv (i+1),bk:=D.nx } az H2) (hd:∀σ H,Pv xs.length σ H->D.nx σ H):fV (tU K ta) g tb D σ H :=
 cZ _ ⟨a,rfl,⟨xs,cT⟩,FY Pv h0 hl hs hd⟩
variable{tt:TT}{te:TE}{nt:Nat}{fv:List Nat}{Q:VK}
noncomputable def NX(n i:Nat)(P:Prop):Prop:=∃m',m' < n - i/\m' = n - (i+1)/\i+1<=n/\P
theorem NX.of{n i:Nat}{P:Prop}(hi:i<n)(p:P):NX n i P:=⟨n - (i+1),by lia,rfl,hi,p⟩
theorem Gh(lo hi:Int)(cZ:∀Q:List V->Hp->Prop,Q [.int lo,.int hi] H->ta σ H Q)(b1 : -1000000000000<lo)(b2:lo<1000000000000)(b3 : -1000000000000<hi)(b4:hi<1000000000000)
  (Pv:Addr->Nat->List V->St->Hp->Prop) (h0:∀D,H D=none->Pv D 0 [] (gC σ nt fv) (upd H D (.lst []))) (hD:∀D i ys σ H,Pv D i ys σ H->H D=some (.lst ys)/\ys.length<sizeLine)
  (hs:∀D i ys az H2,i<(hi - lo).toNat->Pv D i ys az H2->g (.int (lo+(i:Int))) az H2 λbD H4=>tt bD H4 λb H5=>if b=true then te bD H5 λv H6=>H6 D=some (.lst ys)/\NX (hi - lo).toNat i (Pv D (i+1) (ys++[v]) bD (upd H6 D (.lst (ys++[v])))) else NX (hi - lo).toNat i (Pv D (i+1) ys bD H5))
  (hd:∀D ys az H2,Pv D (hi - lo).toNat ys az H2->Q (.ref D) H2):kh (kZ ta) g tt te nt fv σ H Q:=by
 refine cZ _ ⟨lo,hi,rfl,⟨by lia,by lia,by lia,by lia⟩,λD lN=>?_⟩
 refine⟨λi m ys az H2=>m=(hi - lo).toNat - i/\i<=(hi - lo).toNat/\Pv D i ys az H2,⟨_,rfl,Nat.zero_le _,h0 D lN⟩,?_⟩;rintro i m ys az H2 ⟨rfl,f_,p⟩;obtain⟨d1,d2⟩:=hD D i ys az H2 p;refine⟨d1,d2,?_⟩;by_cases aY:i<(hi - lo).toNat
 ·refine .inr ⟨aY,λx H3 y=>?_⟩;obtain⟨e1,e2⟩:=y;subst e1 e2;exact hs D i ys az _ aY p
 ·have e:i=(hi - lo).toNat:=by lia
  subst e;exact .inl ⟨Nat.le_refl _,hd D ys az H2 p⟩
theorem Gi(a:Addr)(xs:List V)(ju:∀Q:VK,Q (.ref a) H->tl σ H Q)(cT:aD K H a xs)
  (Pv:Addr->Nat->List V->St->Hp->Prop) (h0:∀D,H D=none->Pv D 0 [] (gC σ nt fv) (upd H D (.lst []))) (hD:∀D i ys σ H,Pv D i ys σ H->H D=some (.lst ys)/\ys.length<sizeLine/\aD K H a xs)
  (hs:∀D i x ys az H2,xs[i]? = some x->Pv D i ys az H2->g x az H2 λbD H4=>tt bD H4 λb H5=>if b=true then te bD H5 λv H6=>H6 D=some (.lst ys)/\NX xs.length i (Pv D (i+1) (ys++[v]) bD (upd H6 D (.lst (ys++[v])))) else NX xs.length i (Pv D (i+1) ys bD H5))
  (hd:∀D ys az H2,Pv D xs.length ys az H2->Q (.ref D) H2):kh (j5 K tl) g tt te nt fv σ H Q:=by
 refine ju _ ⟨a,rfl,⟨xs,cT⟩,λD lN=>?_⟩;refine⟨λi m ys az H2=>m=xs.length - i/\i<=xs.length/\Pv D i ys az H2,⟨_,rfl,Nat.zero_le _,h0 D lN⟩,?_⟩;rintro i m ys az H2 ⟨rfl,f_,p⟩;obtain⟨d1,d2,d3⟩:=hD D i ys az H2 p;refine⟨d1,d2,?_⟩;by_cases aY:i<xs.length
 ·refine .inr ⟨⟨xs,xs[i],d3,by simp[aY]⟩,λx H3 y=>?_⟩
  obtain⟨e1,e2⟩:=y;subst e1;exact hs D i x ys az _ (e2 xs d3) p
 ·have e:i=xs.length:=by lia
  subst e;exact .inl ⟨⟨xs,d3,Nat.le_refl _⟩,hd D ys az H2 p⟩
end
theorem gF{ns:List Int}{k:Int}(h0:0<=k)(h:k<(ns.length:Int)):fX (ns.map V.int) k=some (.int (ns.getD k.toNat 0)):=by
 have hk:k.toNat<ns.length:=by lia
 unfold fX gT;rw[if_pos h0,if_pos (by simpa using h)]
 simp[List.getD_eq_getElem?_getD,List.getElem?_eq_getElem hk]
theorem zf{ns:List Int}(h:0<ns.length):fX (ns.map V.int) (-1)=some (.int (ns.getD (ns.length - 1) 0)):=by
 have hk:ns.length - 1<ns.length:=by lia
 unfold fX gT;rw[if_neg (by decide),if_pos (by simp;lia)]
 have e:(-1+((ns.map V.int).length:Int)).toNat=ns.length - 1:=by simp;lia
 rw[e];simp[List.getD_eq_getElem?_getD,List.getElem?_eq_getElem hk]
theorem Gj(a b:String):(Str.ofString a=Str.ofString b)=(a=b):=by
 refine propext ⟨λh=>?_,λh=>by rw[h]⟩
 rw[Str.ofString_eq_toList,Str.ofString_eq_toList] at h;have h:a.toList.map Char.toNat=b.toList.map Char.toNat:=by
  injection h with h;exact Array.toList_inj.mpr h |> λz=>by simpa using h
 have inj:∀(x y:List Char),x.map Char.toNat=y.map Char.toNat->x=y:=by
  intro x
  induction x with
  | nil=>intro y h;cases y with | nil=>rfl | cons c r=>simp at h
  | cons c r ih =>
   intro y h;cases y with
   | nil=>simp at h
   | cons d q =>
    simp only[List.map_cons,List.cons.injEq] at h;rw[ih q h.2,Char.toNat_inj.mp h.1]
 exact String.ext (inj _ _ h)
theorem lO(a b:String):(Str.ofString a == Str.ofString b)=(a == b):=by
 by_cases h:a=b
 ·subst h;simp
 ·have h2:¬ Str.ofString a=Str.ofString b:=by rw[Gj];exact h
  rw[beq_eq_false_iff_ne.mpr h,beq_eq_false_iff_ne.mpr h2]
structure gG(z:List (Int×Int)):Prop where
 l1:1<=z.length
 l5:z.length<=5
 r:∀p∈z,1<=p.1/\p.1<=40/\1<=p.2/\p.2<=60
 s2:2<=(z.map (·.1)).sum
 pe:(z.map (·.1)).sum<=120
noncomputable def counts(z:List (Int×Int)):List Int:=z.flatMap λp=>List.replicate p.1.toNat p.2
structure SwOk(sw:List Int)(n:Int):Prop where
 len:(sw.length:Int)=n
 two:2<=n
 z:sw.getD 0 0=0
 pos:∀i:Nat,1<=i->i<sw.length->1<=sw.getD i 0/\sw.getD i 0<=1000000000
 up:∀i:Nat,1<=i->i<sw.length->sw.getD (i - 1) 0<=sw.getD i 0
 no:∀a b:Nat,1<=a->1<=b->a+b<sw.length->sw.getD (a+b) 0<=sw.getD a 0+sw.getD b 0
noncomputable def bE(s:Int):Nat->List Int->List (Int×Int)
 | _,[]=>[]
 | r,c::cs=>(List.range (c - s).toNat).map (λ(k:Nat)=>((r:Int),(k:Int)))++bE s (r+1) cs
noncomputable def pq(rc:List Int)(s:Int):List (Int×Int):=bE s 0 rc
noncomputable def kT(p:Int×Int):List Key:=[.inl p.1,.inl p.2]
noncomputable def dH:Nat->List (Int×Int)->List (List Key×V)->List (List Key×V)
 | _,[],acc=>acc
 | i,p::r,acc=>dH (i+1) r (putK acc (kT p) (.int i))
noncomputable def jv(z:List (Int×Int)):List (List Key×V):=dH 0 z []
theorem tV(s:Int):∀(xs ys:List Int) (r:Nat),bE s r (xs++ys)=bE s r xs++bE s (r+xs.length) ys
 | [],ys,r=>by simp[bE]
 | x::xs,ys,r=>by
  rw[List.cons_append,bE,bE,tV s xs ys (r+1),List.append_assoc,List.length_cons];congr 3;lia
theorem zg:∀(xs ys:List (Int×Int)) (i:Nat) (acc:List (List Key×V)),dH i (xs++ys) acc=dH (i+xs.length) ys (dH i xs acc)
 | [],ys,i,acc=>by simp[dH]
 | x::xs,ys,i,acc=>by
  rw[List.cons_append,dH,dH,zg xs ys (i+1),List.length_cons];congr 1;lia
theorem zh:∀(xs:List (Int×Int)) (i:Nat) (acc:List (List Key×V)),(dH i xs acc).length<=acc.length+xs.length
 | [],i,acc=>by simp[dH]
 | x::xs,i,acc=>by
  rw[dH];have h1:=zh xs (i+1) (putK acc (kT x) (.int i));have h2:=s_ acc (kT x) (.int i);rw[List.length_cons];lia
theorem tW(x y:List (Int×Int)):counts (x++y)=counts x++counts y:=by simp[counts]
theorem pC:∀(z:List (Int×Int)),(∀p∈z,1<=p.1)->((counts z).length:Int)=(z.map (·.1)).sum
 | [],_=>rfl
 | p::z,h=>by
  have ih:=pC z λp hp=>h p (List.mem_cons_of_mem _ hp);have h1:=h p List.mem_cons_self;simp only[counts,List.flatMap_cons,List.length_append,List.length_replicate,List.map_cons,List.sum_cons] at ih ⊢;lia
theorem zj:∀(l:List Int),(∀x∈l,0<=x)->0<=l.sum
 | [],_=>Int.le_refl 0
 | x::l,h=>by
  have:=zj l λy hy=>h y (List.mem_cons_of_mem _ hy);have:=h x List.mem_cons_self;rw[List.sum_cons];lia
theorem zm{z:List (Int×Int)}(ok:gG z)(i:Nat):(counts (z.take i)).length<=120:=by
 have h0:=pC z λp hp=>(ok.r p hp).1;have e:z=z.take i++z.drop i:=(List.take_append_drop i z).symm;have e2:(counts z).length=(counts (z.take i)).length+(counts (z.drop i)).length:=by
  rw[← List.length_append,← tW,List.take_append_drop]
 have:=ok.pe;lia
theorem zo{z:List (Int×Int)}{c:Int}(h:c∈counts z):∃p∈z,c=p.2:=by
 obtain⟨p,hp,hc⟩:=List.mem_flatMap.mp h;exact⟨p,hp,(List.mem_replicate.mp hc).2⟩
theorem tX{s:Int}(hs:0<=s):∀(rc:List Int) (r:Nat),(∀c∈rc,0<=c/\c<=1000)->(bE s r rc).length<=1000*rc.length
 | [],_,_=>by simp[bE]
 | c::rc,r,h=>by
  have ih:=tX hs rc (r+1) λc hc=>h c (List.mem_cons_of_mem _ hc);have h1:=h c List.mem_cons_self;simp only[bE,List.length_append,List.length_map,List.length_range,List.length_cons];lia
theorem zp{s:Int}(hs:0<=s){rc:List Int}(h:∀c∈rc,0<=c/\c<=1000)(i:Nat):(bE s 0 (rc.take i)).length<=1000*rc.length:=by
 have h1:=tX hs (rc.take i) 0 λc hc=>h c (List.mem_of_mem_take hc);rw[List.length_take] at h1;have h2:1000*min i rc.length<=1000*rc.length:=Nat.mul_le_mul_left _ (Nat.min_le_right _ _);exact Nat.le_trans h1 h2
theorem zq:sizeLine=16777216:=by decide
theorem pD(n:Nat)(c:Int):(List.replicate n [V.int c]).flatten=(List.replicate n c).map V.int:=by
 induction n with
 | zero=>rfl
 | succ n ih=>rw[List.replicate_succ,List.flatten_cons,ih,List.replicate_succ,List.map_cons];rfl
theorem Gk{α:Type}{l:List α}{i:Nat}{x:α}(h:l[i]? = some x):i<l.length:=(List.getElem?_eq_some_iff.mp h).1
theorem take_succ_get{α:Type}{l:List α}{i:Nat}{x:α}(h:l[i]? = some x):l.take (i+1)=l.take i++[x]:=by
 rw[List.take_add_one,h];rfl
theorem zu{α β:Type}{f:α->β}{l:List α}{i:Nat}{y:β}(h:(l.map f)[i]? = some y):∃x,l[i]? = some x/\y=f x:=by
 rw[List.getElem?_map] at h;cases e:l[i]? with
 | none=>rw[e] at h;cases h
 | some x=>rw[e] at h;exact⟨x,rfl,(Option.some.inj h).symm⟩
theorem get_mem{α:Type}{l:List α}{i:Nat}{x:α}(h:l[i]? = some x):x∈l:=List.mem_of_getElem? h
theorem ku{α:Type}{l:List α}{i:Nat}{x:α}(h:l[i]? = some x):i<l.length:=(List.getElem?_eq_some_iff.mp h).1
theorem ak.put{H:Hp}{a:Addr}{o:HO}(h:H a=none):ak H (upd H a o):=λb u e=>by rw[aG (cO e h)];exact e
theorem ak.put2{H H':Hp}{a:Addr}{o:HO}(s:ak H H')(h:H a=none):ak H (upd H' a o):=λb u e=>by rw[aG (cO e h)];exact s b u e
theorem Zn.sq{K:PySem.W.Frag}{H:Hp}{a:Addr}{ts:List Addr}{z:List (Int×Int)}(h:Zn H a ts z):aD K H a (ts.map V.ref):=aD.of h.l
section
variable{X:Cx}{K:PySem.W.Frag}
theorem Gm(h:X.K=K):gB X (oJ K):=h▸j8
end
section
variable{K:PySem.W.Frag}{ta:TA}{tl:TE}{g:TG}{tb:TS}{D:Ends}{σ:St}{H:Hp}
theorem rl(a:Addr)(xs:List V)(Pv:Nat->St->Hp->Prop)(ju:∀Q:VK,Q (.ref a) H->tl σ H Q)(cT:aD K H a xs)(h0:Pv 0 σ H)(hl:∀i σ H,i<=xs.length->Pv i σ H->aD K H a xs)
  (hs:∀i x σ H (N:St->Hp->Prop),(∀σ H,Pv (i+1) σ H->N σ H)->xs[i]? = some x->Pv i σ H->g x σ H λaz H2=>tb { D with nx:=N,ct:=N,bk:=D.nx } az H2) (hd:∀σ H,Pv xs.length σ H->D.nx σ H):fV (j5 K tl) g tb D σ H :=
 Gf a xs ju cT Pv h0 hl (λi x σ H hx p=>hs i x σ H _ (λ_ _ z=>z) hx p) hd
theorem tY(n:Nat)(Pv:Nat->St->Hp->Prop)(cZ:∀Q:List V->Hp->Prop,Q [.int (n:Int)] H->ta σ H Q)(hn:n<1000000000)(h0:Pv 0 σ H)
  (hs:∀i σ H (N:St->Hp->Prop),(∀σ H,Pv (i+1) σ H->N σ H)->i<n->Pv i σ H->g (.int (i:Int)) σ H λaz H2=>tb { D with nx:=N,ct:=N,bk:=D.nx } az H2) (hd:∀σ H,Pv n σ H->D.nx σ H):fV (kY ta) g tb D σ H :=
 Gd n cZ hn Pv h0 (λi σ H hx p=>hs i σ H _ (λ_ _ z=>z) hx p) hd
theorem jw(lo hi:Int)(Pv:Nat->St->Hp->Prop)(cZ:∀Q:List V->Hp->Prop,Q [.int lo,.int hi] H->ta σ H Q)(b1 : -1000000000000<lo)(b2:lo<1000000000000)(b3 : -1000000000000<hi)(b4:hi<1000000000000)(h0:Pv 0 σ H)
  (hs:∀i σ H (N:St->Hp->Prop),(∀σ H,Pv (i+1) σ H->N σ H)->i<(hi - lo).toNat->Pv i σ H->g (.int (lo+(i:Int))) σ H λaz H2=>tb { D with nx:=N,ct:=N,bk:=D.nx } az H2) (hd:∀σ H,Pv (hi - lo).toNat σ H->D.nx σ H):fV (kZ ta) g tb D σ H :=
 Ge lo hi cZ b1 b2 b3 b4 Pv h0 (λi σ H hx p=>hs i σ H _ (λ_ _ z=>z) hx p) hd
theorem Gn(n:Int)(Pv:Nat->St->Hp->Prop)(cZ:∀Q:List V->Hp->Prop,Q [.int n] H->ta σ H Q)(N7 : -1000000000000<n)(hn:n<1000000000000)(h0:Pv 0 σ H)
  (hs:∀i σ H (N:St->Hp->Prop),(∀σ H,Pv (i+1) σ H->N σ H)->i<n.toNat->Pv i σ H->g (.int (i:Int)) σ H λaz H2=>tb { D with nx:=N,ct:=N,bk:=D.nx } az H2) (hd:∀σ H,Pv n.toNat σ H->D.nx σ H):fV (kY ta) g tb D σ H:=by
 refine cZ _ ⟨n,rfl,by lia,by lia,?_⟩
 refine sE Pv h0 (λi σ H hi p=>?_) hd;have e2:(0:Int)+(i:Int)=i:=by lia
 rw[e2];exact hs i σ H _ (λ_ _ z=>z) hi p
theorem re(a:Addr)(xs:List V)(Pv:Nat->St->Hp->Prop)(cZ:∀Q:List V->Hp->Prop,Q [.ref a] H->ta σ H Q)(cT:aD K H a xs)(h0:Pv 0 σ H)(hl:∀i σ H,i<=xs.length->Pv i σ H->aD K H a xs)
  (hs:∀i x σ H T (N:St->Hp->Prop),(∀σ H,Pv (i+1) σ H->N σ H)->xs[i]? = some x->Pv i σ H->H T=none->g (.ref T) σ (upd H T (.tup [.int i,x])) λaz H2=>tb { D with nx:=N,ct:=N,bk:=D.nx } az H2) (hd:∀σ H,Pv xs.length σ H->D.nx σ H):fV (tU K ta) g tb D σ H :=
 Gg a xs cZ cT Pv h0 hl (λi x σ H T hx p hT=>hs i x σ H T _ (λ_ _ z=>z) hx p hT) hd
noncomputable def lP(K:PySem.W.Frag)(a:Addr)(g:TG)(tb:TS)(D:Ends)(σ:St)(H:Hp):Prop:=(∃xs,aD K H a xs)/\∃W:Nat->Nat->St->Hp->Prop,(∃m,W 0 m σ H)/\∀i m σ H,W i m σ H->
 ((iA K a).stop i H/\D.nx σ H)\/((iA K a).go i H/\∃N:St->Hp->Prop,(∀aL H',N aL H'->∃m',m' < m/\W (i+1) m' aL H')/\∀x H',(iA K a).iz i H x H'->g x σ H' λaz H2=>tb { D with nx:=N,ct:=N,bk:=D.nx } az H2)
theorem zw(h:tl σ H λx H1=>∃a,x = .ref a/\lP K a g tb D σ H1):fV (j5 K tl) g tb D σ H:=h
theorem lP.by(a:Addr)(xs:List V)(Pv:Nat->St->Hp->Prop)(cT:aD K H a xs)(h0:Pv 0 σ H)(hl:∀i σ H,i<=xs.length->Pv i σ H->aD K H a xs)
  (hs:∀i x σ H (N:St->Hp->Prop),(∀σ H,Pv (i+1) σ H->N σ H)->xs[i]? = some x->Pv i σ H->g x σ H λaz H2=>tb { D with nx:=N,ct:=N,bk:=D.nx } az H2) (hd:∀σ H,Pv xs.length σ H->D.nx σ H):lP K a g tb D σ H :=
 ⟨⟨xs,cT⟩,x6 Pv h0 hl (λi x σ H hx p=>hs i x σ H _ (λ_ _ z=>z) hx p) hd⟩
variable{tt:TT}{te:TE}{nt:Nat}{fv:List Nat}{Q:VK}
theorem Gp(lo hi:Int)(Pv:Addr->Nat->List V->St->Hp->Prop)(cZ:∀Q:List V->Hp->Prop,Q [.int lo,.int hi] H->ta σ H Q)(b1 : -1000000000000<lo)(b2:lo<1000000000000)(b3 : -1000000000000<hi)(b4:hi<1000000000000)
  (h0:∀D,H D=none->Pv D 0 [] (gC σ nt fv) (upd H D (.lst []))) (hD:∀D i ys σ H,Pv D i ys σ H->H D=some (.lst ys)/\ys.length<sizeLine)
  (hs:∀D i ys az H2 (N:List V->St->Hp->Prop),(∀ys σ H,Pv D (i+1) ys σ H->N ys σ H)->i<(hi - lo).toNat->Pv D i ys az H2->g (.int (lo+(i:Int))) az H2 λbD H4=>tt bD H4 λb H5=>if b=true then te bD H5 λv H6=>H6 D=some (.lst ys)/\N (ys++[v]) bD (upd H6 D (.lst (ys++[v]))) else N ys bD H5)
  (hd:∀D ys az H2,Pv D (hi - lo).toNat ys az H2->Q (.ref D) H2):kh (kZ ta) g tt te nt fv σ H Q :=
 Gh lo hi cZ b1 b2 b3 b4 Pv h0 hD (λD i ys az H2 hi p=>hs D i ys az H2 _ (λ_ _ _ z=>NX.of hi z) hi p) hd
theorem zx(a:Addr)(xs:List V)(Pv:Addr->Nat->List V->St->Hp->Prop)(ju:∀Q:VK,Q (.ref a) H->tl σ H Q)(cT:aD K H a xs)
  (h0:∀D,H D=none->Pv D 0 [] (gC σ nt fv) (upd H D (.lst []))) (hD:∀D i ys σ H,Pv D i ys σ H->H D=some (.lst ys)/\ys.length<sizeLine/\aD K H a xs)
  (hs:∀D i x ys az H2 (N:List V->St->Hp->Prop),(∀ys σ H,Pv D (i+1) ys σ H->N ys σ H)->xs[i]? = some x->Pv D i ys az H2->g x az H2 λbD H4=>tt bD H4 λb H5=>if b=true then te bD H5 λv H6=>H6 D=some (.lst ys)/\N (ys++[v]) bD (upd H6 D (.lst (ys++[v]))) else N ys bD H5)
  (hd:∀D ys az H2,Pv D xs.length ys az H2->Q (.ref D) H2):kh (j5 K tl) g tt te nt fv σ H Q :=
 Gi a xs ju cT Pv h0 hD (λD i x ys az H2 hx p=>hs D i x ys az H2 _ (λ_ _ _ z=>NX.of (List.getElem?_eq_some_iff.mp hx).1 z) hx p) hd
end
theorem jx{K:PySem.W.Frag}{H:Hp}{σ:St}{t:Addr}{x y:V}{n i j:Nat}{Q:St->Hp->Prop}(h:bV K H t [x,y])(hn:2=n)(q:Q ((σ.set i (some x)).set j (some y)) H):xW K n (sr (nZ i) (sr (nZ j) xV)) (.ref t) σ H Q :=
 ⟨t,[x,y],rfl,h,hn,x,[y],rfl,y,[],rfl,rfl,q⟩
theorem lenZ{ts:List Addr}{z:List (Int×Int)}(h:ts.length=z.length):(ts.map V.ref).length=z.length:=by simpa using h
theorem Zn.snoc{H:Hp}{l p:Addr}{ts:List Addr}{z:List (Int×Int)}(h:Zn H l ts z)(hp:H p=none)(a b:Int):Zn (upd (upd H p (.tup [.int a,.int b])) l (.lst (ts.map V.ref++[V.ref p]))) l (ts++[p]) (z++[(a,b)]):=by
 have gH:l≠p:=cO h.l hp;refine⟨by rw[aF,List.map_append];rfl,by simp[h.n],λi t q e1 e2=>?_⟩
 have hn:=h.n;by_cases hi:i<ts.length
 ·rw[List.getElem?_append_left hi] at e1;rw[List.getElem?_append_left (by lia)] at e2
  have ht:=h.t i t q e1 e2;rw[aG (jW ht h.l (by intro z;cases z)),aG (cO ht hp)]
  exact ht
 ·rw[List.getElem?_append_right (by lia)] at e1
  rw[List.getElem?_append_right (by lia)] at e2
  have iF:i - ts.length=0:=by
   have:=Gk e1;simp at this;lia
  rw[iF] at e1;rw[← hn,iF] at e2;simp at e1 e2;subst e1 e2;rw[aG gH.symm,aF]
noncomputable def N8(t:TS):TS:=λD σ H=>∃M:St->Hp->Prop,t { D with nx:=M } σ H/\∀n_ H1,M n_ H1->D.nx n_ H1
noncomputable def Gq(K:PySem.W.Frag):Sp:=λvs H Q _=>∃(a:Addr) (ts:List Addr) (z:List (Int×Int)),vs = [.ref a]/\Zn H a ts z/\gG z/\∀H',ak H H'->Q .aC H'
noncomputable def Gr(K:PySem.W.Frag):Sp:=λvs H Q _=>∃(a:Addr) (ts:List Addr) (z:List (Int×Int)) (bz cz:Int),vs = [.ref a,.int bz,.int cz]/\Zn H a ts z/\gG z/\1<=bz/\bz<=1000000000/\0<=cz/\cz<bz/\
 (∀p∈z,bz % p.2=0)/\Q .aC H
noncomputable def Gs(K:PySem.W.Frag):Sp:=λvs H Q _=>∃(a:Addr) (sw:List Int) (n:Int),vs = [.ref a,.int n]/\aD K H a (sw.map V.int)/\SwOk sw n/\n<=1000/\Q .aC H
noncomputable def Gu(K:PySem.W.Frag):Sp:=λvs H Q _=>∃(a:Addr) (sw:List Int) (n:Int),vs = [.ref a]/\aD K H a (sw.map V.int)/\SwOk sw n/\n<=1000/\Q .aC H
noncomputable def zy(K:PySem.W.Frag):Sp:=λvs H Q _=>∃(a:Addr) (ts:List Addr) (z:List (Int×Int)),vs = [.ref a]/\Zn H a ts z/\gG z/\
 ∀l H',ak H H'->H l=none->H' l=some (.lst ((counts z).map V.int))->Q (.ref l) H'
noncomputable def Gv(K:PySem.W.Frag):Sp:=λvs H Q _=>∃(a:Addr) (rc:List Int) (s:Int),vs = [.ref a,.int s]/\aD K H a (rc.map V.int)/\rc.length<=1000/\(∀c∈rc,0<=c/\c<=1000)/\0<=s/\s<=1000/\
 ∀l ts H',ak H H'->H l=none->(∀t∈ts,H t=none)->Zn H' l ts (pq rc s)->Q (.ref l) H'
noncomputable def Gw(K:PySem.W.Frag):Sp:=λvs H Q _=>∃(a:Addr) (ts:List Addr) (z:List (Int×Int)),vs = [.ref a]/\Zn H a ts z/\z.length<=1000000/\
 ∀d H',ak H H'->H d=none->H' d=some (.dT (jv z))->Q (.ref d) H'
structure Pl where
 rc:List Int
 bz:Int
 cz:Int
 sw:List Int
 nc:List (Int×Int)
structure CP(K:PySem.W.Frag)(C:Addr):Prop where
 cl:dc K C
 n1:cE K C "ring_cells"
 n2:cE K C "lap"
 n3:cE K C "skew"
 n4:cE K C "swing"
 n5:cE K C "number_cells"
 n6:cE K C "cell_numbers"
noncomputable def lQ(a1:Addr)(bz cz:Int)(a2 a3 a4:Addr):List (Str×V):=[("ring_cells",.ref a1),("lap",.int bz),("skew",.int cz),("swing",.ref a2),("number_cells",.ref a3),("cell_numbers",.ref a4)]
structure iG(K:PySem.W.Frag)(C:Addr)(H:Hp)(p:Addr)(P:Pl)(dx a1 a2 a3 a4:Addr)(ts:List Addr)(fs:List (Str×V)):Prop where
 cp:CP K C
 o:H p=some (.ins C dx fs)
 f1:fs.lookup ("ring_cells" : Str)=some (.ref a1)
 f2:fs.lookup ("lap" : Str)=some (.int P.bz)
 f3:fs.lookup ("skew" : Str)=some (.int P.cz)
 f4:fs.lookup ("swing" : Str)=some (.ref a2)
 f5:fs.lookup ("number_cells" : Str)=some (.ref a3)
 f6:fs.lookup ("cell_numbers" : Str)=some (.ref a4)
 m1:fs.lookup ("rings" : Str)=none
 m2:fs.lookup ("total" : Str)=none
 m3:fs.lookup ("cells_of" : Str)=none
 m4:fs.lookup ("beats_of" : Str)=none
 m5:fs.lookup ("lap_beats" : Str)=none
 m6:fs.lookup ("begins" : Str)=none
 m7:fs.lookup ("swing_of" : Str)=none
 m8:fs.lookup ("has_cell" : Str)=none
 m9:fs.lookup ("cell_at" : Str)=none
 gU:fs.lookup ("number_of" : Str)=none
 jy:fs.lookup ("laid" : Str)=none
 rc:H a1=some (.lst (P.rc.map V.int))
 sw:H a2=some (.lst (P.sw.map V.int))
 nc:Zn H a3 ts P.nc
 cn:H a4=some (.dT (jv P.nc))
theorem iG.lit{K:PySem.W.Frag}{C:Addr}{H:Hp}{p:Addr}{P:Pl}{dx a1 a2 a3 a4:Addr}{ts:List Addr}(cp:CP K C)(o:H p=some (.ins C dx (lQ a1 P.bz P.cz a2 a3 a4)))(rc:H a1=some (.lst (P.rc.map V.int)))(sw:H a2=some (.lst (P.sw.map V.int)))
  (nc:Zn H a3 ts P.nc) (cn:H a4=some (.dT (jv P.nc))):iG K C H p P dx a1 a2 a3 a4 ts (lQ a1 P.bz P.cz a2 a3 a4):=by
 refine⟨cp,o,?_,?_,?_,?_,?_,?_,?_,?_,?_,?_,?_,?_,?_,?_,?_,?_,?_,rc,sw,nc,cn⟩ <;> simp[lQ,List.lookup_cons,lO]
noncomputable def c7(K:PySem.W.Frag)(C:Addr)(H:Hp)(p:Addr)(P:Pl)(fp:List Addr):Prop:=∃dx a1 a2 a3 a4 ts fs,fp=a1::a2::a3::a4::ts/\iG K C H p P dx a1 a2 a3 a4 ts fs
theorem Zn.keep{H H':Hp}{a:Addr}{ts:List Addr}{z:List (Int×Int)}(h:Zn H a ts z)(ha:H' a=H a)(ht:∀t∈ts,H' t=H t):Zn H' a ts z :=
 ⟨ha.trans h.l,h.n,λi t p e1 e2=>(ht t (List.mem_of_getElem? e1)).trans (h.t i t p e1 e2)⟩
theorem Zn.has{H:Hp}{a:Addr}{ts:List Addr}{z:List (Int×Int)}(h:Zn H a ts z){t:Addr}(ht:t∈ts):∃o,H t=some o:=by
 obtain⟨i,hi,rfl⟩:=List.mem_iff_getElem.mp ht;have hz:i<z.length:=by rw[← h.n];exact hi
 exact⟨_,h.t i _ _ (List.getElem?_eq_getElem hi) (List.getElem?_eq_getElem hz)⟩
section
variable{K:PySem.W.Frag}{C:Addr}{H H':Hp}{p x:Addr}{P:Pl}{fp:List Addr}
theorem iG.move{dx a1 a2 a3 a4:Addr}{ts:List Addr}{fs:List (Str×V)}(h:iG K C H p P dx a1 a2 a3 a4 ts fs)(ho:H' p=H p)(h1:H' a1=H a1)(h2:H' a2=H a2)(h3:H' a3=H a3)(h4:H' a4=H a4)(ht:∀t∈ts,H' t=H t):iG K C H' p P dx a1 a2 a3 a4 ts fs :=
 { h with o:=ho.trans h.o,rc:=h1.trans h.rc,sw:=h2.trans h.sw,nc:=h.nc.keep h3 ht,cn:=h4.trans h.cn }
theorem c7.keep(h:c7 K C H p P fp)(hp:H' p=H p)(e:∀b∈fp,H' b=H b):c7 K C H' p P fp:=by
 obtain⟨dx,a1,a2,a3,a4,ts,fs,rfl,h⟩:=h;exact⟨dx,a1,a2,a3,a4,ts,fs,rfl,h.move hp (e a1 (by simp)) (e a2 (by simp)) (e a3 (by simp)) (e a4 (by simp)) λt ht=>e t (by simp[ht])⟩
theorem c7.has(h:c7 K C H p P fp){b:Addr}(hb:b∈fp):∃o,H b=some o:=by
 obtain⟨Gx,a1,a2,a3,a4,ts,fs,rfl,h⟩:=h;simp only[List.mem_cons] at hb;rcases hb with rfl | rfl | rfl | rfl | hb
 ·exact⟨_,h.rc⟩
 ·exact⟨_,h.sw⟩
 ·exact⟨_,h.nc.l⟩
 ·exact⟨_,h.cn⟩
 ·exact h.nc.has hb
theorem c7.here(h:c7 K C H p P fp):∃o,H p=some o:=by
 obtain⟨Gx,a1,a2,a3,a4,ts,fs,rfl,h⟩:=h;exact⟨_,h.o⟩
theorem c7.same(h:c7 K C H p P fp)(s:ak H H'):c7 K C H' p P fp:=by
 refine h.keep ?_ λb hb=>?_
 ·obtain⟨o,e⟩:=h.here;rw[e];exact s _ _ e
 ·obtain⟨o,e⟩:=h.has hb;rw[e];exact s _ _ e
noncomputable def SameBut(x:Addr)(H H':Hp):Prop:=∀b o,H b=some o->b≠x->H' b=some o
theorem SameBut.put{o:HO}(s:SameBut x H H'):SameBut x H (upd H' x o):=λb u e h=>by rw[aG h];exact s b u e h
theorem SameBut.step{H1 H2:Hp}(s:SameBut x H H1)(t:ak H1 H2):SameBut x H H2:=λb u e h=>t _ _ (s b u e h)
theorem SameBut.of(s:ak H H'):SameBut x H H':=λb u e _=>s _ _ e
end
noncomputable def Gy(K:PySem.W.Frag):Sp:=λvs H Q _=>∃(C p dx za sa:Addr) (gI:List Addr) (z:List (Int×Int)) (bz cz:Int) (sw:List Int),vs = [.ref p,.ref za,.int bz,.int cz,.ref sa]/\CP K C/\H p=some (.ins C dx [])/\Zn H za gI z/\gG z/\
 1<=bz/\bz<=1000000000/\0<=cz/\cz<bz/\(∀p∈z,bz % p.2=0)/\aD K H sa (sw.map V.int)/\SwOk sw (z.map (·.1)).sum/\
 ∀H' dx a1 a2 a3 a4 ts,SameBut p H H'->(∀b∈a1::a2::a3::a4::ts,H b=none)->H' p=some (.ins C dx (lQ a1 bz cz a2 a3 a4))->iG K C H' p ⟨counts z,bz,cz,sw,pq (counts z) 0⟩ dx a1 a2 a3 a4 ts (lQ a1 bz cz a2 a3 a4)->Q .aC H'
noncomputable def Gz(K:PySem.W.Frag):Sp:=λvs H Q _=>∃(C p:Addr) (P:Pl) (fp:List Addr),vs = [.ref p]/\c7 K C H p P fp/\Q (.int P.rc.length) H
noncomputable def GA(K:PySem.W.Frag):Sp:=λvs H Q _=>∃(C p:Addr) (P:Pl) (fp:List Addr),vs = [.ref p]/\c7 K C H p P fp/\Q (.int P.nc.length) H
noncomputable def GB(K:PySem.W.Frag):Sp:=λvs H Q _=>∃(C p:Addr) (P:Pl) (fp:List Addr) (r c:Int),vs = [.ref p,.int r,.int c]/\c7 K C H p P fp/\Q (.bl (decide (0<=r/\r<P.rc.length/\0<=c/\c<P.rc.getD r.toNat 0))) H
inductive Dt where
 | aC | bl (b:Bool) | int (i:Int) | str (s:Str) | tup (xs:List Dt) | lst (xs:List Dt)
inductive Rep (H:Hp):Nat->V->Dt->Prop where
 | aC {n:Nat}:Rep H n .aC .aC
 | bl {n:Nat} (b:Bool):Rep H n (.bl b) (.bl b)
 | int {n:Nat} (i:Int):Rep H n (.int i) (.int i)
 | str {n:Nat} (s:Str):Rep H n (.str s) (.str s)
 | tup {n:Nat} {a:Addr} {xs:List V} {ds:List Dt} (h:H a=some (.tup xs)) (l:xs.length=ds.length) (hl:ds.length<=1000000) (r:∀(i:Nat) (x:V) (d:Dt),xs[i]? = some x->ds[i]? = some d->Rep H n x d):Rep H (n+1) (.ref a) (.tup ds)
 | lst {n:Nat} {a:Addr} {xs:List V} {ds:List Dt} (h:H a=some (.lst xs)) (l:xs.length=ds.length) (hl:ds.length<=1000000) (r:∀(i:Nat) (x:V) (d:Dt),xs[i]? = some x->ds[i]? = some d->Rep H n x d):Rep H (n+1) (.ref a) (.lst ds)
theorem Rep.same{H H':Hp}(s:ak H H'){n:Nat}{v:V}{d:Dt}(h:Rep H n v d):Rep H' n v d:=by
 induction h with
 | aC=>exact .aC
 | bl b=>exact .bl b
 | int i=>exact .int i
 | str x=>exact .str x
 | tup h l hl _ ih=>exact .tup (s _ _ h) l hl ih
 | lst h l hl _ ih=>exact .lst (s _ _ h) l hl ih
noncomputable def zz:Nat->Sp
 | 0=>λ_ _ _ _=>False
 | n+1=>λvs H Q _=>∃(v1 v2:V) (d:Dt),vs = [v1,v2]/\Rep H n v1 d/\Rep H n v2 d/\∀H',ak H H'->Q (.bl true) H'
noncomputable def zA(K:PySem.W.Frag):Sp:=zz 5
noncomputable def iH(a b:Int):List (Int×Int) :=
 if mix b 9 % 8=0 then [(2+mix a 9 % 2,1+mix b 8 % 60)]
 else(2+mix a 2 % 2,1+mix b 0 % 8)::(List.range ((if mix a 1 % 9=0 then 5 else 1+mix a 0 % 3) - 1).toNat).map λ(k:Nat)=>(1+mix a (2+(1+(k:Int))) % 3,1+mix b (1+(k:Int)) % 8)
noncomputable def b_(z:List (Int×Int)):Int:=z.foldl (λp x=>p*x.2) 1
noncomputable def jz(z:List (Int×Int))(c:Int):Int:=b_ z*(1+mix c 1 % (if mix c 0 % 9=0 then 1000000000 / b_ z else 900))
noncomputable def cA(c s0:Int):Nat->Int
 | 0=>s0
 | i+1=>cA c s0 i - mix c (2+(i:Int)+2) % (cA c s0 i+1) / 2
noncomputable def cU(c s0:Int):Nat->Int
 | 0=>0
 | i+1=>cU c s0 i+cA c s0 i
theorem jA(c:Int){s0:Int}(h:1<=s0):∀i,1<=cA c s0 i/\cA c s0 i<=s0
 | 0=>⟨h,Int.le_refl _⟩
 | i+1=>by
  have ih:=jA c h i;have h1:=Int.emod_nonneg (mix c (2+(i:Int)+2)) (show cA c s0 i+1≠0 by lia)
  have h2:=Int.emod_lt_of_pos (mix c (2+(i:Int)+2)) (show 0<cA c s0 i+1 by lia)
  rw[cA];generalize mix c (2+(i:Int)+2) % (cA c s0 i+1)=m at h1 h2 ⊢;lia
theorem GC(c:Int){s0:Int}(h:1<=s0)(i:Nat):cA c s0 (i+1)<=cA c s0 i:=by
 have ih:=jA c h i;have h1:=Int.emod_nonneg (mix c (2+(i:Int)+2)) (show cA c s0 i+1≠0 by lia)
 rw[cA];generalize mix c (2+(i:Int)+2) % (cA c s0 i+1)=m at h1 ⊢;lia
theorem GD(c:Int){s0:Int}(h:1<=s0)(i:Nat):∀j,cA c s0 (i+j)<=cA c s0 j
 | 0=>by
  rw[Nat.add_zero];exact(jA c h i).2
 | j+1=>by
  have:∀k,cA c s0 (j+1+k)<=cA c s0 (j+1):=by
   intro k
   induction k with
   | zero=>exact Int.le_refl _
   | succ k ih=>exact Int.le_trans (GC c h (j+1+k)) ih
  rw[Nat.add_comm i (j+1)];exact this i
theorem zB(c:Int){s0:Int}(h:1<=s0)(a:Nat):∀b,cU c s0 (a+b)<=cU c s0 a+cU c s0 b
 | 0=>by simp[cU]
 | b+1=>by
  have ih:=zB c h a b;have:=GD c h a b;rw[← Nat.add_assoc,cU,cU];lia
theorem zC(c:Int){s0:Int}(h:1<=s0):∀i:Nat,(i:Int)<=cU c s0 i/\cU c s0 i<=s0*(i:Int)
 | 0=>by simp[cU]
 | i+1=>by
  have ih:=zC c h i;have h2:=jA c h i;have e:s0*((i+1:Nat):Int)=s0*(i:Int)+s0:=by
   rw[show ((i+1:Nat):Int)=(i:Int)+1 by lia,Int.mul_add,Int.mul_one]
  rw[cU,e];lia
theorem range_getD{f:Nat->Int}{n i:Nat}(h:i<n):((List.range n).map f).getD i 0=f i:=by
 simp[List.getD_eq_getElem?_getD,h]
theorem GF{L:Int}(h:1<=L)(h8:L<=100000000){ns:List Int}(hb:∀x∈ns,L<=x/\x<=2*L)(hp:ns.Pairwise (·<=·))(h1:1<=ns.length):SwOk (0::ns) ((ns.length+1:Nat):Int):=by
 have at_:∀i:Nat,1<=i->i<(0::ns).length->∃hi:i - 1<ns.length,(0::ns).getD i 0=ns[i - 1]:=λi h1 hi=>by
  obtain⟨j,rfl⟩:∃j,i=j+1:=⟨i - 1,by lia⟩
  have hj:j<ns.length:=by simpa using hi
  exact⟨hj,by simp[List.getD_eq_getElem?_getD,List.getElem?_eq_getElem hj]⟩
 refine⟨by simp,by lia,rfl,λi h1 hi=>?_,λi h1 hi=>?_,λa b ha GH pG=>?_⟩
 ·obtain⟨hj,e⟩:=at_ i h1 hi;have:=hb _ (List.getElem_mem hj);rw[e];lia
 ·obtain⟨hj,e⟩:=at_ i h1 hi;rw[e];by_cases h2:i=1
  ·subst h2;have:=hb _ (List.getElem_mem hj)
   show (0:Int)<=_;lia
  ·obtain⟨tZ,e2⟩:=at_ (i - 1) (by lia) (by lia)
   rw[e2];exact List.pairwise_iff_getElem.mp hp _ _ tZ hj (by lia)
 ·obtain⟨h1,e1⟩:=at_ (a+b) (by lia) pG
  obtain⟨h2,e2⟩:=at_ a ha (by lia)
  obtain⟨h3,e3⟩:=at_ b GH (by lia)
  have:=hb _ (List.getElem_mem h1);have:=hb _ (List.getElem_mem h2);have:=hb _ (List.getElem_mem h3);rw[e1,e2,e3];lia
structure ZL(z:List (Int×Int)):Prop where
 ok:gG z
 pr:b_ z<=32768
 sm:(z.map (·.1)).sum<=15
theorem prodF(z:List (Int×Int)):∀p:Int,z.foldl (λp x=>p*x.2) p=p*b_ z:=by
 induction z with
 | nil=>intro p;simp[b_]
 | cons x z ih =>
  intro p;rw[b_,List.foldl_cons,List.foldl_cons,ih,ih (1*x.2),Int.one_mul,Int.mul_assoc]
theorem t_(x:Int×Int)(z:List (Int×Int)):b_ (x::z)=x.2*b_ z:=by
 rw[b_,List.foldl_cons,prodF,Int.one_mul]
theorem GI(x:Int×Int)(z:List (Int×Int)):b_ (z++[x])=b_ z*x.2:=by
 rw[b_,List.foldl_append];rfl
theorem lR{m:Int}(hm:1<=m):∀z:List (Int×Int),(∀p∈z,1<=p.2/\p.2<=m)->1<=b_ z/\b_ z<=m ^ z.length
 | [],_=>by simp[b_]
 | x::z,h=>by
  have ih:=lR hm z λp hp=>h p (List.mem_cons_of_mem _ hp);have hx:=h x List.mem_cons_self;rw[t_,List.length_cons,Int.pow_succ,Int.mul_comm (m ^ z.length)];constructor
  ·have:=Int.mul_le_mul hx.1 ih.1 (by decide) (by lia)
   lia
  ·exact Int.mul_le_mul hx.2 ih.2 (by lia) (by lia)
theorem zD{x:Int×Int}:∀ {z:List (Int×Int)},x∈z->x.2 ∣ b_ z
 | y::z,h=>by
  rw[t_];rcases List.mem_cons.mp h with rfl | h
  ·exact Int.dvd_mul_right _ _
  ·exact Int.dvd_trans (zD h) (Int.dvd_mul_left _ _)
theorem zE{m:Int}(hm:1<=m){a b:Nat}(h:a<=b):m ^ a<=m ^ b:=by
 induction h with
 | refl=>exact Int.le_refl _
 | @step b h ih =>
  rw[Int.pow_succ];have h1:1<=m ^ b:=by
   clear ih h
   induction b with
   | zero=>simp
   | succ b ih =>
    rw[Int.pow_succ];have:=Int.mul_le_mul ih hm (by decide) (by lia)
    lia
  have:=Int.mul_le_mul (Int.le_refl (m ^ b)) hm (by decide) (by lia)
  lia
theorem zF{f:Nat->Int}{lo hi:Int}(h:∀k,lo<=f k/\f k<=hi):∀n:Nat,lo*n<=((List.range n).map f).sum/\((List.range n).map f).sum<=hi*n
 | 0=>by simp
 | n+1=>by
  have ih:=zF h n;have:=h n;rw[List.range_succ,List.map_append,List.sum_append];simp only[List.map_cons,List.map_nil,List.sum_cons,List.sum_nil];have e1:lo*((n+1:Nat):Int)=lo*n+lo:=by rw[show ((n+1:Nat):Int)=(n:Int)+1 by lia,Int.mul_add,Int.mul_one]
  have e2:hi*((n+1:Nat):Int)=hi*n+hi:=by rw[show ((n+1:Nat):Int)=(n:Int)+1 by lia,Int.mul_add,Int.mul_one]
  rw[e1,e2];lia
theorem uc(a b:Int):ZL (iH a b):=by
 unfold iH;by_cases h:mix b 9 % 8=0
 ·rw[if_pos h];have h1:0<=mix a 9 % 2/\mix a 9 % 2<2:=⟨Int.emod_nonneg _ (by decide),Int.emod_lt_of_pos _ (by decide)⟩
  have h2:0<=mix b 8 % 60/\mix b 8 % 60<60:=⟨Int.emod_nonneg _ (by decide),Int.emod_lt_of_pos _ (by decide)⟩
  refine⟨⟨by simp,by simp,?_,?_,?_⟩,?_,?_⟩
  ·intro p hp;rw[List.mem_singleton.mp hp];dsimp only;lia
  ·simp;lia
  ·simp;lia
  ·rw[t_];simp[b_];lia
  ·simp;lia
 ·rw[if_neg h];generalize hm:(if mix a 1 % 9=0 then(5:Int) else 1+mix a 0 % 3)=m
  have GJ:1<=m/\m<=5:=by
   have h1:0<=mix a 0 % 3/\mix a 0 % 3<3:=⟨Int.emod_nonneg _ (by decide),Int.emod_lt_of_pos _ (by decide)⟩
   rw[← hm];split <;> lia
  have h1:0<=mix a 2 % 2/\mix a 2 % 2<2:=⟨Int.emod_nonneg _ (by decide),Int.emod_lt_of_pos _ (by decide)⟩
  have h2:0<=mix b 0 % 8/\mix b 0 % 8<8:=⟨Int.emod_nonneg _ (by decide),Int.emod_lt_of_pos _ (by decide)⟩
  have h3:∀k:Nat,0<=mix a (2+(1+(k:Int))) % 3/\mix a (2+(1+(k:Int))) % 3<3:=λk=>⟨Int.emod_nonneg _ (by decide),Int.emod_lt_of_pos _ (by decide)⟩
  have h4:∀k:Nat,0<=mix b (1+(k:Int)) % 8/\mix b (1+(k:Int)) % 8<8:=λk=>⟨Int.emod_nonneg _ (by decide),Int.emod_lt_of_pos _ (by decide)⟩
  have e7:∀p∈((2+mix a 2 % 2,1+mix b 0 % 8)::(List.range (m - 1).toNat).map λ(k:Nat)=>(1+mix a (2+(1+(k:Int))) % 3,1+mix b (1+(k:Int)) % 8)),1<=p.1/\p.1<=3/\1<=p.2/\p.2<=8:=by
   intro p hp;rcases List.mem_cons.mp hp with rfl | hp
   ·dsimp only;lia
   ·obtain⟨k,_,rfl⟩:=List.mem_map.mp hp;have:=h3 k;have:=h4 k;dsimp only;lia
  have hlen:((2+mix a 2 % 2,1+mix b 0 % 8)::(List.range (m - 1).toNat).map λ(k:Nat)=>(1+mix a (2+(1+(k:Int))) % 3,1+mix b (1+(k:Int)) % 8)).length=m.toNat:=by
   simp;lia
  have N9:=zF (f:=λ(k:Nat)=>1+mix a (2+(1+(k:Int))) % 3) (lo:=1) (hi:=3) (λk=>by have:=h3 k;lia) (m - 1).toNat
  have hs:(((2+mix a 2 % 2,1+mix b 0 % 8)::(List.range (m - 1).toNat).map λ(k:Nat)=>(1+mix a (2+(1+(k:Int))) % 3,1+mix b (1+(k:Int)) % 8)).map (·.1)).sum=2+mix a 2 % 2+((List.range (m - 1).toNat).map λ(k:Nat)=>1+mix a (2+(1+(k:Int))) % 3).sum:=by
   rw[List.map_cons,List.sum_cons,List.map_map];rfl
  refine⟨⟨by rw[hlen];lia,by rw[hlen];lia,λp hp=>?_,?_,?_⟩,?_,?_⟩
  ·have:=e7 p hp;lia
  ·rw[hs];lia
  ·rw[hs];lia
  ·have hb:=(lR (m:=8) (by decide) _ λp hp=>(e7 p hp).2.2).2
   rw[hlen] at hb;have:=zE (m:=8) (by decide) (show m.toNat<=5 by lia)
   have e:(8:Int) ^ 5=32768:=by decide
   lia
  ·rw[hs];lia
noncomputable def GK(K:PySem.W.Frag):Sp:=zy K
noncomputable def GL(K:PySem.W.Frag):Sp:=λvs H Q _=>∃(a:Addr) (ts:List Addr) (z:List (Int×Int)) (c:Int),vs = [.ref a,.int c]/\Zn H a ts z/\gG z/\Q (.int (jz z c)) H
noncomputable def pH(K:PySem.W.Frag):Sp:=λvs H Q _=>∃(a:Addr) (ns:List Int),vs = [.ref a]/\aD K H a (ns.map V.int)/\ns.length<=63/\∀H',Q (.bl true) H'
theorem ite_no{c A B:Prop}[Decidable c](h:¬ c)(b:B):if c then A else B:=by rw[if_neg h];exact b
theorem ite_yes{c A B:Prop}[Decidable c](h:c)(a:A):if c then A else B:=by rw[if_pos h];exact a
theorem zG{K:PySem.W.Frag}{x y:V}{H:Hp}{Q:VK}(h:sU K x y H Q):sV K x y H Q:=.inl h
theorem zH{K:PySem.W.Frag}{x y:V}{H:Hp}{Q:VK}(h:oJ K x y H Q):sV K x y H Q:=.inr (.inl h)
noncomputable def iI(H:Hp)(n:Nat):List V->List Dt->Prop
 | [],[]=>True
 | v::vs,d::ds=>Rep H n v d/\iI H n vs ds
 | _,_=>False
theorem iI.len{H:Hp}{n:Nat}:∀ {vs:List V} {ds:List Dt},iI H n vs ds->vs.length=ds.length
 | [],[],_=>rfl
 | _::_,_::_,h=>by rw[List.length_cons,List.length_cons,iI.len h.2]
theorem iI.at{H:Hp}{n:Nat}:∀ {vs:List V} {ds:List Dt} {i:Nat} {x:V} {d:Dt},iI H n vs ds->vs[i]? = some x->ds[i]? = some d->Rep H n x d
 | _::_,_::_,0,_,_,h,e1,e2=>by simp at e1 e2;subst e1 e2;exact h.1
 | _::_,_::_,i+1,_,_,h,e1,e2=>iI.at (i:=i) h.2 (by simpa using e1) (by simpa using e2)
theorem Rep.iJ{H:Hp}{n:Nat}{a:Addr}{xs:List V}{ds:List Dt}(h:H a=some (.tup xs))(r:iI H n xs ds)(hl:ds.length<=1000000:=by simp):Rep H (n+1) (.ref a) (.tup ds):=.tup h r.len hl λ_ _ _ e1 e2=>r.at e1 e2
section
variable{X:Cx}{CX:dD}{k:Nat}{f C:Addr}{fd:FuncData}{ps:List Str}{sp:Sp}{bf:List V}{ds:List Value}{E:XK}{x m:Str}{p pos apos:Pos}{e:Expr}{es:List Expr}{t:TA}
end
section
variable{X:Cx}
end
section
variable{X:Cx}{pins:List (Addr×Obj)}{σ:St}{H:Hp}{s:Shared}
end
section
variable{X:Cx}
end
section
variable{K:PySem.W.Frag}{ta:TA}{g:TG}{D:Ends}{σ:St}{H:Hp}{tt:TT}{te:TE}{nt:Nat}{fv:List Nat}{Q:VK}
end
noncomputable def ud(cs:List Addr)(m:Str)(sp:Sp)(bf:List V)(E:XK)(ta:TE)(t:TA):TE:=λσ H Q=>ta σ H λx H1=>∃C a dx fs,x = .ref a/\H1 a=some (.ins C dx fs)/\C∈cs/\fs.lookup m=none/\t σ H1 λvs H2=>sp (x::(vs++bf)) H2 Q E
section
variable{X:Cx}{CX:dD}{k:Nat}{f:Addr}{cs:List Addr}{fd:FuncData}{ps:List Str}{sp:Sp}{bf:List V}{ds:List Value}{E:XK}{m:Str}{pos apos:Pos}{o e:Expr}{es:List Expr}{ta:TE}{t:TA}
theorem ue{pl:Sem Bool}(ho:PE X o ta)(hc:∀C∈cs,dc X.K C/\Meth X.K C m f)(F:bh X.prog X.w X.K X.mg X.base CX k f fd ps sp)(hr:bK k X.A)(hb:Binds X.K fd ps ds)(hd:Vals bf ds)(hx:Passes CX X E)(ha:PA X (e::es) t)
  (fU:starEach (e::es) X.env=(false,eval e X.env)::starEach es X.env:=by rfl) (dg:(backTo pos (starEach es X.env)).any (·.1)=false:=by rfl)
  (uf:eval (.Call (.Attribute o m apos) (e::es) [] pos) X.env=(do
   let ov ← eval o X.env
   standAt apos.atName
   let (f,first) ← holding [ov] (getMethod ov m pl)
   callWith pos f first (backTo pos (starEach (e::es) X.env)) (backToKw pos (keywordEach [] X.env))):=by rfl):PE X (.Call (.Attribute o m apos) (e::es) [] pos) (ud cs m sp bf E ta t):=by
 intro pins s σ H Q I h;refine PySem.W.methodCall_KW (pl:=pl) (aI (ho pins s σ H _ I h) λu s1 hz=>?_) uf;obtain⟨x,H1,I1,rx,C,a,dx,fs,ex,ea,hC,hl,q⟩:=hz;subst ex;cases (show u=Value.ref a from rx);obtain⟨c1,c2⟩:=hc C hC;refine sN I1 ea c1 c2 hl (PySem.W.callWith_K (first:=[.ref a]) (h₀:=X.base) I.ok.mod.iX c2.kp (aI (ha pos pins s1 σ H1 _ I1 q) λus s2 hw=>?_) fU dg)
 obtain⟨vs,H2,I2,r,q2⟩:=hw;exact⟨I2.bx,sO (us:=.ref a::us) (vs:=.ref a::vs) F hr hb hd hx I2 (.cons rfl r) q2⟩
theorem GN{pl:Sem Bool}(ho:PE X o ta)(hc:∀C∈cs,dc X.K C/\Meth X.K C m f)(F:bh X.prog X.w X.K X.mg X.base CX k f fd ps sp)(hr:bK k X.A)(hb:Binds X.K fd ps ds)(hd:Vals bf ds)(hx:Passes CX X E)
  (uf:eval (.Call (.Attribute o m apos) [] [] pos) X.env=(do
   let ov ← eval o X.env
   standAt apos.atName
   let (f,first) ← holding [ov] (getMethod ov m pl)
   callWith pos f first (backTo pos (starEach [] X.env)) (backToKw pos (keywordEach [] X.env))):=by rfl):PE X (.Call (.Attribute o m apos) [] [] pos) (ud cs m sp bf E ta yp):=by
 intro pins s σ H Q I h;refine PySem.W.methodCall_KW (pl:=pl) (aI (ho pins s σ H _ I h) λu s1 hz=>?_) uf;obtain⟨x,H1,I1,rx,C,a,dx,fs,ex,ea,hC,hl,q⟩:=hz;subst ex;cases (show u=Value.ref a from rx);obtain⟨c1,c2⟩:=hc C hC;refine sN I1 ea c1 c2 hl (PySem.W.callWith_K0 (first:=[.ref a]) I1.bx c2.kp ?_)
 exact sO (us:=[.ref a]) (vs:=[.ref a]) F hr hb hd hx I1 (.cons rfl .nil) q
end
theorem GO{p q:Int×Int}(h:kT p=kT q):p=q:=by
 unfold kT at h;simp only[List.cons.injEq,Sum.inl.injEq,and_true] at h;exact Prod.ext h.1 h.2
theorem zI:∀(z:List (Int×Int)) (i:Nat) (acc:List (List Key×V)) (q:Int×Int),z.Nodup->(∀j:Nat,z[j]? = some q->bZ (dH i z acc) (kT q)=some (.int ((i+j:Nat):Int)))/\(q∉z->bZ (dH i z acc) (kT q)=bZ acc (kT q))
 | [],i,acc,q,_=>⟨λj h=>by simp at h,λ_=>rfl⟩
 | x::z,i,acc,q,nd=>by
  obtain⟨hx,nd⟩:=List.nodup_cons.mp nd;have ih:=zI z (i+1) (putK acc (kT x) (.int i)) q nd;constructor
  ·intro j h;rw[dH];cases j with
   | zero =>
    simp at h;subst h;rw[ih.2 hx,yN,if_pos rfl];rfl
   | succ j =>
    rw[ih.1 j (by simpa using h)]
    congr 2;lia
  ·intro h;rw[dH,ih.2 λz=>h (List.mem_cons_of_mem _ z),yN,if_neg];intro e;exact h (GO e▸List.mem_cons_self)
theorem GP{z:List (Int×Int)}(nd:z.Nodup){j:Nat}{q:Int×Int}(h:z[j]? = some q):bZ (jv z) (kT q)=some (.int (j:Int)):=by
 have:=(zI z 0 [] q nd).1 j h;rwa [Nat.zero_add] at this
theorem zJ{s:Int}:∀ {rc:List Int} {r:Nat} {q:Int×Int},q∈bE s r rc↔∃j:Nat,j<rc.length/\q.1=((r+j:Nat):Int)/\0<=q.2/\q.2<rc.getD j 0 - s
 | [],r,q=>by simp[bE]
 | c::rc,r,q=>by
  rw[bE,List.mem_append,zJ (rc:=rc) (r:=r+1)];constructor
  ·rintro(h | ⟨j,h1,h2,h3,h4⟩)
   ·obtain⟨k,hk,rfl⟩:=List.mem_map.mp h;rw[List.mem_range] at hk;exact⟨0,by simp,by simp,by dsimp only;lia,by simp only[List.getD_cons_zero];lia⟩
   ·exact⟨j+1,by simpa using h1,by rw[h2];congr 1;lia,h3,by simpa using h4⟩
  ·rintro⟨j,h1,h2,h3,h4⟩;cases j with
   | zero =>
    left;refine List.mem_map.mpr ⟨q.2.toNat,List.mem_range.mpr ?_,?_⟩
    ·simp only[List.getD_cons_zero] at h4;lia
    ·refine Prod.ext ?_ ?_
     ·rw[h2];simp
     ·dsimp only;lia
   | succ j =>
    right;exact⟨j,by simpa using h1,by rw[h2];congr 1;lia,h3,by simpa using h4⟩
theorem zK{s:Int}:∀(rc:List Int) (r:Nat),(bE s r rc).Nodup
 | [],r=>List.nodup_nil
 | c::rc,r=>by
  rw[bE,List.nodup_append];refine⟨?_,zK rc (r+1),?_⟩
  ·rw[List.nodup_iff_pairwise_ne,List.pairwise_map];refine List.Pairwise.imp ?_ (List.nodup_iff_pairwise_ne.mp List.nodup_range);intro a b h e;simp at e;lia
  ·intro x hx y hy e;subst e;obtain⟨k,_,rfl⟩:=List.mem_map.mp hx;obtain⟨j,_,h2,_⟩:=zJ.mp hy;simp at h2;lia
noncomputable def gJ(s:Int)(rc:List Int)(r:Nat):Int:=((rc.take r).map (· - s)).sum
theorem GQ{s:Int}{rc:List Int}(h:∀c∈rc,s<=c)(r:Nat):0<=gJ s rc r:=by
 refine zj _ λx hx=>?_;obtain⟨c,hc,rfl⟩:=List.mem_map.mp hx;have:=h c (List.mem_of_mem_take hc);lia
theorem zL{s:Int}:∀(rc:List Int) (r0 r:Nat) (k:Int),(∀c∈rc,s<=c)->r<rc.length->0<=k->k<rc.getD r 0 - s->(bE s r0 rc)[(gJ s rc r+k).toNat]? = some (((r0+r:Nat):Int),k)
 | [],_,_,_,_,h,_,_=>by simp at h
 | c::rc,r0,0,k,hc,h,h0,h1=>by
  have h1:k<c - s:=by simpa using h1
  rw[bE,List.getElem?_append_left (by simp[gJ];lia)]
  have e:(gJ s (c::rc) 0+k).toNat=k.toNat:=by simp[gJ]
  rw[e,List.getElem?_map,List.getElem?_range (by lia)]
  simp;lia
 | c::rc,r0,r+1,k,hc,h,h0,h1=>by
  have kU:∀c∈rc,s<=c:=λc z=>hc c (List.mem_cons_of_mem _ z);have ih:=zL rc (r0+1) r k kU (by simpa using h) h0 (by simpa using h1)
  have hs:=hc c List.mem_cons_self;have on:=GQ kU r;have e:gJ s (c::rc) (r+1)=(c - s)+gJ s rc r:=by simp[gJ]
  rw[bE,List.getElem?_append_right (by simp;lia)]
  have e2:(gJ s (c::rc) (r+1)+k).toNat - ((List.range (c - s).toNat).map λ(k:Nat)=>((r0:Int),(k:Int))).length=(gJ s rc r+k).toNat:=by
   simp;lia
  rw[e2,ih];congr 2;lia
section
variable{K:PySem.W.Frag}{C:Addr}{H H':Hp}{p:Addr}{P:Pl}{fp:List Addr}{mv:Addr}{ms:List V}
end
noncomputable def f2(o:Obj):Option Value:=match o.data with
 | .fields vs=>vs[2]?
 | _=>none
noncomputable def Dk(h h':Heap):Prop:=∀(b:Nat) (o:Obj),h.objs[b]? = some o->∃o':Obj,h'.objs[b]? = some o'/\o'.dict=o.dict/\f2 o' = f2 o
theorem Dk.refl(h:Heap):Dk h h:=λ_ o e=>⟨o,e,rfl,rfl⟩
theorem Dk.push{h h':Heap}(k:Dk h h')(o:Obj):Dk h (h'.push o):=λb ob e=>by
 obtain⟨o',e',d⟩:=k b ob e;refine⟨o',?_,d⟩
 show (h'.objs.push o)[b]? = some o';rw[Array.getElem?_push];have:b<h'.objs.size:=(Array.getElem?_eq_some_iff.mp e').1;rw[if_neg (by lia)];exact e'
theorem Dk.upd{h h':Heap}(k:Dk h h'){a:Addr}{f:Obj->Obj}(hf:∀o,(f o).dict=o.dict/\f2 (f o)=f2 o):Dk h (h'.update a f):=λb ob e=>by
 obtain⟨o',e',d⟩:=k b ob e;by_cases hb:a=b
 ·subst hb;exact⟨f o',by show (h'.objs.modify a f)[a]? = _;rw[Array.getElem?_modify,if_pos rfl,e'];rfl,(hf o').1.trans d.1,(hf o').2.trans d.2⟩
 ·exact⟨o',by show (h'.objs.modify a f)[b]? = _;rw[Array.getElem?_modify,if_neg hb];exact e',d⟩
theorem zM{h:Heap}{a:Addr}{o:Obj}(e:h.get? a=some o):h.objs[a]? = some o:=by
 unfold Heap.get? at e;split at e
 ·cases e
 ·exact e
theorem Dk.at{h h':Heap}(k:Dk h h'){a:Addr}{o o':Obj}(e:h.get? a=some o)(e':h'.get? a=some o'):o'.dict=o.dict/\f2 o' = f2 o:=by
 obtain⟨o2,q,d⟩:=k a o (zM e);have:=zM e';rw[q] at this;cases this;exact d
noncomputable def KD{α:Type}:Sem α->Prop
 | .pure _=>True
 | .raise _=>True
 | .unsupported _=>True
 | .finish _=>True
 | .rule _ k=>KD (k ())
 | .at _ k=>KD (k ())
 | .load _ _ k=>∀o,KD (k o)
 | .update _ _ f k=>(∀o,(f o).dict=o.dict/\f2 (f o)=f2 o)/\KD (k ())
 | .alloc _ k=>∀a,KD (k a)
 | .loadIfAlive _ k=>∀o,KD (k o)
 | .point _ k=>KD (k ())
 | .register _ _=>True
 | .fresh k=>∀t,KD (k t)
 | .ask k=>∀x,KD (k x)
 | .choose _ _ k=>∀n,KD (k n)
 | .os _ _ k=>∀r,KD (k r)
 | .call .. => False
 | .handled _ k=>∀x,KD (k x)
 | .newGen _ k=>∀n,KD (k n)
 | .genState _ k=>∀x,KD (k x)
 | .resume .. => False
 | .yield .. => True
 | .stack k=>∀x,KD (k x)
 | .fork .. => True
 | .thread k=>∀n,KD (k n)
 | .await .. => True
theorem KD.wp{α:Type}{M:Model}{Γ:PySem.Ctx}{Q:α->Pos->Shared->Prop}{E:Value->Pos->Shared->Prop}{h0:Heap}(t:Sem α):KD t->∀p (s:Shared),Dk h0 s.heap->Sem.wp M Γ t Q E p s->
  Sem.wp M Γ t (λa p s'=>Q a p s'/\Dk h0 s'.heap) (λe p s'=>E e p s'/\Dk h0 s'.heap) p s:=by
 induction t with
 | pure a=>exact λ_ p s d h=>by rw[Sem.wp] at h ⊢;exact⟨h,d⟩
 | raise e=>exact λ_ p s d h=>by rw[Sem.wp] at h ⊢;exact⟨h,d⟩
 | unsupported _=>exact λ_ p s d h=>by rw[Sem.wp] at h;exact h.elim
 | finish _=>exact λ_ p s d h=>by rw[Sem.wp] at h;exact h.elim
 | rule _ k ih=>exact λq p s d h=>by rw[Sem.wp] at h ⊢;exact ih () q p s d h
 | «at» _ k ih=>exact λq p s d h=>by rw[Sem.wp] at h ⊢;exact ih () q _ s d h
 | load a _ k ih=>exact λq p s d h=>by rw[Sem.wp] at h ⊢;obtain⟨o,e,h⟩:=h;exact⟨o,e,ih o (q o) p s d h⟩
 | update a _ f k ih=>exact λq p s d h=>by rw[Sem.wp] at h ⊢;exact⟨h.1,ih () q.2 p _ (d.upd q.1) h.2⟩
 | alloc o k ih=>exact λq p s d h=>by rw[Sem.wp] at h ⊢;exact ih _ (q _) p _ (d.push o) h
 | loadIfAlive a k ih=>exact λq p s d h=>by rw[Sem.wp] at h ⊢;exact ih _ (q _) p s d h
 | point _ k ih=>exact λq p s d h=>by rw[Sem.wp] at h ⊢;exact ih () q p s d h
 | register _ k ih=>exact λq p s d h=>by rw[Sem.wp] at h;exact h.elim
 | fresh k ih=>exact λq p s d h=>by rw[Sem.wp] at h ⊢;exact ih _ (q _) p _ d h
 | ask k ih=>exact λq p s d h=>by rw[Sem.wp] at h ⊢;exact ih _ (q _) p _ d h
 | choose src n k ih=>exact λq p s d h=>by rw[Sem.wp] at h ⊢;exact⟨h.1,ih _ (q _) p _ d h.2⟩
 | os r _ k ih=>exact λq p s d h=>by rw[Sem.wp] at h ⊢;exact ih _ (q _) p _ d h
 | call c hd g l k ih=>exact λq p s d h=>False.elim q
 | handled own k ih=>exact λq p s d h=>by rw[Sem.wp] at h ⊢;exact ih _ (q _) p _ d h
 | newGen c k ih=>exact λq p s d h=>by rw[Sem.wp] at h ⊢;exact ih _ (q _) p _ d h
 | genState g k ih=>exact λq p s d h=>by rw[Sem.wp] at h ⊢;obtain⟨o,e,h⟩:=h;exact⟨o,e,ih _ (q _) p s d h⟩
 | resume g r l k ih=>exact λq p s d h=>False.elim q
 | yield v g l k ih=>exact λq p s d h=>by rw[Sem.wp] at h;exact h.elim
 | stack k ih=>exact λq p s d h=>by rw[Sem.wp] at h ⊢;exact ih _ (q _) p _ d h
 | fork c k ih=>exact λq p s d h=>by rw[Sem.wp] at h;exact h.elim
 | thread k ih=>exact λq p s d h=>by rw[Sem.wp] at h ⊢;exact ih _ (q _) p _ d h
 | await a t d l k ih=>exact λq p s d h=>by rw[Sem.wp] at h;exact h.elim
theorem KD.any{α:Type}{M:Model}{A:Around}{t:Sem α}{Q:α->Shared->Prop}{E:Value->Shared->Prop}{s:Shared}(k:KD t)(h:wpAny M A t Q E s):wpAny M A t (λa s'=>Q a s'/\Dk s.heap s'.heap) (λe s'=>E e s'/\Dk s.heap s'.heap) s :=
 λΓ p GR=>k.wp (h0:=s.heap) t p s (Dk.refl _) (h Γ p GR)
theorem KD.bind{α β:Type}{f:α->Sem β}(hf:∀a,KD (f a)):∀(m:Sem α),KD m->KD (m >>= f):=by
 intro m
 show KD m->KD (Sem.bind m f)
 induction m with
 | pure a=>exact λ_=>hf a
 | raise e=>exact λ_=>trivial
 | unsupported _=>exact λ_=>trivial
 | finish _=>exact λ_=>trivial
 | rule _ k ih=>exact λq=>ih () q
 | «at» _ k ih=>exact λq=>ih () q
 | load a _ k ih=>exact λq o=>ih o (q o)
 | update a _ f k ih=>exact λq=>⟨q.1,ih () q.2⟩
 | alloc o k ih=>exact λq a=>ih a (q a)
 | loadIfAlive a k ih=>exact λq o=>ih o (q o)
 | point _ k ih=>exact λq=>ih () q
 | register _ k ih=>exact λq=>trivial
 | fresh k ih=>exact λq a=>ih a (q a)
 | ask k ih=>exact λq a=>ih a (q a)
 | choose src n k ih=>exact λq a=>ih a (q a)
 | os r _ k ih=>exact λq a=>ih a (q a)
 | call c hd g l k ih=>exact λq=>q
 | handled own k ih=>exact λq a=>ih a (q a)
 | newGen c k ih=>exact λq a=>ih a (q a)
 | genState g k ih=>exact λq a=>ih a (q a)
 | resume g r l k ih=>exact λq=>q
 | yield v g l k ih=>exact λq=>trivial
 | stack k ih=>exact λq a=>ih a (q a)
 | fork c k ih=>exact λq=>trivial
 | thread k ih=>exact λq a=>ih a (q a)
 | await a t d l k ih=>exact λq=>trivial
theorem KD.ite{α:Type}{c:Prop}[Decidable c]{a b:Sem α}(ha:KD a)(hb:KD b):KD (if c then a else b):=by split <;> assumption
theorem ug{i:Nat}(hi:i≠2)(v:Value)(o:Obj):(Obj.mapFields (·.setIfInBounds i v) o).dict=o.dict/\f2 (Obj.mapFields (·.setIfInBounds i v) o)=f2 o:=by
 obtain⟨c,d,dt,sl⟩:=o;cases dt <;> first | exact⟨rfl,rfl⟩ | (refine⟨rfl,?_⟩;show (Array.setIfInBounds _ i v)[2]? = _;rw[Array.getElem?_setIfInBounds_ne hi];rfl)
theorem KD.then{α β:Type}{m:Sem α}{f:α->Sem β}(hm:KD m)(hf:∀a,KD (f a)):KD (m >>= f):=KD.bind hf m hm
theorem pI(v:Value)(i:Nat):KD (field v i):=by
 unfold field fieldsOf load;repeat' first | exact trivial | exact λ_=>trivial | assumption | exact⟨ug (by assumption) _,trivial⟩ | exact⟨λ_=>⟨rfl,rfl⟩,trivial⟩ | refine KD.ite ?_ ?_ | refine KD.then ?_ λ_=>?_ | split
theorem uh(v:Value){i:Nat}(hi:i≠2)(x:Value):KD (setField v i x):=by
 unfold setField updateField load update;repeat' first | exact trivial | exact λ_=>trivial | assumption | exact⟨ug (by assumption) _,trivial⟩ | exact⟨λ_=>⟨rfl,rfl⟩,trivial⟩ | refine KD.ite ?_ ?_ | refine KD.then ?_ λ_=>?_ | split
theorem um(e:Value)(f:Option Addr):KD (setFlight e f):=by
 have h1:=pI e 1;unfold setFlight;refine KD.then h1 λtb=>KD.ite ?_ ?_
 ·exact uh _ (by decide) _
 ·trivial
theorem zN:∀l,KD (readyFrames l)
 | []=>trivial
 | env::outer=>by
  have ih:=zN outer;have hf:=λv i=>pI v i;unfold readyFrames;split
  ·refine KD.then (λ_=>trivial) λo=>?_
   refine KD.ite trivial ?_;refine KD.then ?_ λi=>KD.then ?_ λb=>?_
   ·unfold behindIsImport;refine KD.ite trivial (KD.ite trivial ?_);exact KD.then (hf _ _) λ_=>(trivial:KD (.pure _))
   ·unfold keptBack underTheClaimsCaller stack;split
    ·refine KD.ite trivial ?_;refine KD.then ?_ λ_=>(trivial:KD (.pure _));exact λ_=>trivial
    ·trivial
   ·refine KD.then (m:=update _ _) ⟨λ_=>⟨rfl,rfl⟩,trivial⟩ λ_=>?_
    exact ih
  ·trivial
theorem GS(env:Env):KD (PySem.frameOf env):=by
 unfold PySem.frameOf;refine KD.then ?_ λl=>?_
 ·unfold frameEnvs stack;exact λ_=>trivial
 ·refine KD.then ?_ λa=>?_
  ·unfold frameObject;split
   ·trivial
   ·refine KD.then (zN _) λ_=>?_
    trivial
  ·split <;> trivial
theorem GU(ty:String)(vs:List Value):KD (newFields ty vs):=by
 unfold newFields newObj newObjAsIs alloc;repeat' first | exact trivial | exact λ_=>trivial | assumption | exact⟨ug (by assumption) _,trivial⟩ | exact⟨λ_=>⟨rfl,rfl⟩,trivial⟩ | refine KD.ite ?_ ?_ | refine KD.then ?_ λ_=>?_ | split
theorem GV(f:Addr)(b:Bool):KD (entryPlaceOf f b):=by
 unfold entryPlaceOf;refine KD.then (m:=stack) (λ_=>trivial) λl=>?_
 split <;> trivial
theorem zO(e:Value)(env:Env):KD (noteFrame e env):=by
 have last:∀head f,KD (do setField e 1 (← EntryCells.newEntry head (← PySem.frameOf env) .none (rawInt f) .none (← entryPlaceOf f (head != .none)))):=λhead f =>
  KD.then (GS _) λa=>KD.then (GV _ _) λp=>KD.then (GU _ _) λx=>uh _ (by decide) _
 unfold noteFrame;split
 ·refine KD.then (pI _ _) λhead=>?_
  refine KD.ite ?_ ?_
  ·refine KD.then (pI _ _) λx=>?_
   refine KD.ite trivial ?_;refine KD.then (uh _ (by decide) _) λ_=>?_
   exact last _ _
  ·exact last _ _
 ·trivial
theorem GW(env:Env)(e:Value):KD (leaving env e):=KD.then (zO _ _) λ_=>um _ _
noncomputable def eT(h:Heap)(a:Addr)(od:Option Addr):Prop:=∃oe,h.get? a=some oe/\oe.dict=od.map (· / 2)/\∀k,od=some k->k % 2=0->f2 oe=some .none
theorem eT.dk{h h':Heap}{a:Addr}{od:Option Addr}(x:eT h a od)(k:Dk h h')(th:∃o,h'.get? a=some o):eT h' a od :=
 let ⟨_,e,d,c⟩:=x;let ⟨o',e'⟩:=th;⟨o',e',(k.at e e').1.trans d,λj z y=>(k.at e e').2.trans (c j z y)⟩
section
variable{M:Model}{A:Around}{E:Value->Shared->Prop}{s:Shared}{base:Heap}{env:Env}{l outer:List Env}{L e:Addr}{cls a0:Value}{od:Option Addr}{Q:Unit->Shared->Prop}
theorem GX(jB:A.frames=some (env::outer))(hf:env.frame=some L)(GY:Heap.FlyingW base (env::outer) e cls a0 s.heap)(hd:eT s.heap e od)
  (hQ:∀h',Heap.HeldW base (env::outer) e cls a0 L h'->s.heap.UpToSlots h'->eT h' e od->Q () { s with heap:=h' }):wpAny M A (noteFrame (.ref e) env) Q E s:=by
 refine wpAny_mono ((zO (.ref e) env).any (wpAny_looks_onW (E:=E) (Q:=λ_ s2=>∃h',Heap.HeldW base (env::outer) e cls a0 L h'/\s.heap.UpToSlots h'/\s2 = { s with heap:=h' }) jB hf GY λh' x1 x2=>⟨h',x1,x2,rfl⟩)) (λu s2 z=>?_) λ_ _ z=>z.1;obtain⟨⟨h',x1,x2,rfl⟩,k⟩:=z;obtain⟨o,q,_⟩:=x1.there;exact hQ h' x1 x2 (hd.dk k ⟨o,q⟩)
theorem GZ(hh:Heap.HeldW base l e cls a0 L s.heap)(hd:eT s.heap e od)
  (hQ:∀h',Heap.FlyingW base l e cls a0 h'->s.heap.UpToSlots h'->eT h' e od->Q () { s with heap:=h' }):wpAny M A (setFlight (.ref e) none) Q E s:=by
 refine wpAny_mono ((um (.ref e) none).any (wpAny_landsW (E:=E) (Q:=λ_ s2=>∃h',Heap.FlyingW base l e cls a0 h'/\s.heap.UpToSlots h'/\s2 = { s with heap:=h' }) hh λh' x1 x2=>⟨h',x1,x2,rfl⟩)) (λu s2 z=>?_) λ_ _ z=>z.1;obtain⟨⟨h',x1,x2,rfl⟩,k⟩:=z;obtain⟨o,q,_⟩:=x1.there;exact hQ h' x1 x2 (hd.dk k ⟨o,q⟩)
theorem G4(hh:Heap.FlyingW base l e cls a0 s.heap)(hd:eT s.heap e od)
  (hQ:∀h',Heap.FlyingW base l e cls a0 h'->s.heap.UpToSlots h'->eT h' e od->Q () { s with heap:=h' }):wpAny M A (setFlight (.ref e) none) Q E s:=by
 refine wpAny_mono ((um (.ref e) none).any (lands_againW (E:=E) (Q:=λ_ s2=>∃h',Heap.FlyingW base l e cls a0 h'/\s.heap.UpToSlots h'/\s2 = { s with heap:=h' }) hh λh' x1 x2=>⟨h',x1,x2,rfl⟩)) (λu s2 z=>?_) λ_ _ z=>z.1;obtain⟨⟨h',x1,x2,rfl⟩,k⟩:=z;obtain⟨o,q,_⟩:=x1.there;exact hQ h' x1 x2 (hd.dk k ⟨o,q⟩)
theorem G5{oe:Obj}{vs:Array Value}(jB:A.frames=some (env::outer))(hf:env.frame=some L)(G6:base.StaysIn s.heap)(hl:s.heap.FunFrames base (env::outer))(he:s.heap.get? e=some oe)(zP:base.get? e=none)
  (G7:oe.data = .fields vs) (h1:vs[1]? = some .none) (h0:vs[0]? = some a0) (hd:eT s.heap e od)
  (hQ:∀h',Heap.FlyingW base outer e oe.cls a0 h'->s.heap.UpToSlots h'->eT h' e od->Q () { s with heap:=h' }):wpAny M A (leaving env (.ref e)) Q E s:=by
 refine wpAny_mono ((GW env (.ref e)).any (wpAny_leaving_firstW (E:=E) (Q:=λ_ s2=>∃h',Heap.LeftW base (env::outer) e oe.cls a0 s.heap h'/\s2 = { s with heap:=h' }) jB hl hf he G6 zP G7 h1 h0 λh' x=>⟨h',x,rfl⟩)) (λu s2 z=>?_) λ_ _ z=>z.1;obtain⟨⟨h',⟨k1,⟨_,_,k2⟩,k3,k4⟩,rfl⟩,k⟩:=z;have fl:Heap.FlyingW base outer e oe.cls a0 h':=⟨k1,zP,k2,k3⟩;obtain⟨o,q,_⟩:=fl.there;exact hQ h' fl k4 (hd.dk k ⟨o,q⟩)
end
theorem bw.there{P:Program}{w:World}{H:Hp}{h:Heap}{a:Addr}{o:HO}(x:bw P w H h)(e:H a=some o):∃u,h.get? a=some u:=by
 have x:=x a o e;cases o with
 | lst xs=>obtain⟨_,_,_,_,e⟩:=x;exact⟨_,e⟩
 | tup xs=>obtain⟨_,_,_,ob,e,_⟩:=x;exact⟨_,e⟩
 | dK ao=>obtain⟨_,_,_,_,o,_,_,e,_⟩:=x;exact⟨_,e⟩
 | dT ao=>obtain⟨_,_,_,_,o,_,_,e,_⟩:=x;exact⟨_,e⟩
 | set S n=>obtain⟨o,_,_,_,e,_⟩:=x;exact⟨_,e⟩
 | ins C dx fs=>obtain⟨_,_,_,e,_⟩:=x;exact⟨_,e⟩
 | own y=>obtain⟨_,e⟩:=x;exact⟨_,e⟩
 | xd fs=>obtain⟨_,⟨_,_,_,e,_⟩,_⟩:=x;exact⟨_,e⟩
 | nP lo hi=>obtain⟨_,_,_,e⟩:=x;exact⟨_,e⟩
 | dm ob u=>obtain⟨e,_⟩:=x;exact⟨_,e⟩
 | ir ps=>exact⟨_,(show h.get? a=some _ from x)⟩
 | met f y=>exact⟨_,(show h.get? a=some _ from x)⟩
 | ext φ=>obtain⟨_,⟨_,e⟩,_⟩:=x;exact⟨_,e⟩
structure Cut(base B:Heap)(outer:List Env)(H H':Hp)(h:Heap):Prop where
 stays:base.StaysIn B
 k1:∀b o,h.get? b=some o->H b=none->b∉bC outer->B.get? b=some o
 k2:∀b u,H' b=some u->∃o,B.get? b=some o
 k3:∀b o,h.get? b=some o->b∉bC outer->∃o',B.get? b=some o'
noncomputable def gW(P:Program)(w:World)(base:Heap):dD:=λouter H s E e s' =>
 ∃a C a0 H' B od,e = .ref a/\s'.os=s.os/\AllBare s'.gens/\Un (bC outer) [] H H' s.heap s'.heap/\bw P w H' s'.heap/\H' a=none/\s.heap.get? a=none/\
  Cut base B outer H H' s.heap/\Heap.FlyingW B outer a (.ref C) a0 s'.heap/\eT s'.heap a od/\E (.ref C) od H'
section
variable{P:Program}{w:World}{K:PySem.W.Frag}{mg:Str->Option Value}{base B:Heap}{N:List Str}{qual:Str}{scope:Scope}{f:Addr}{cd:Value}{A:Around}{outer:List Env}{aX sc s':Shared}{fL Hc H':Hp}{E:XK}
 {pins:List (Addr×Obj)} {σ:St} {a C:Addr} {a0:Value} {h':Heap} {od:Option Addr}
theorem zQ:bC (envOfC qual scope aX.heap.objs.size f cd::outer)=aX.heap.objs.size::bC outer:=rfl
end
noncomputable def N_(C:Addr)(E:XK)(t:TA):TS:=λ_ σ H=>t σ H λvs H1=>vs.length<=sizeLine/\E (.ref C) none H1
section
variable{X:Cx}{E:XK}{x:Str}{C:Addr}{bm:List Value}{newId dP B:String}{np bG pos:Pos}{jC:Expr}{rest:List Expr}{t:TA}
end
theorem G8{base B:Heap}{l:List Env}{H H':Hp}{h h1 h':Heap}(u:Un (bC l) [] H H' h h1)(c:Cut base B l H H' h)(kB:B.StaysIn h')(up:h1.UpToSlots h')(ff:∀b∈bC l,H b=none/\∀o,h.get? b=some o->∀vs,o.data≠.fields vs) :
  Un (bC l) [] H H' h h':=by
 have sl:∀b o,h.get? b=some o->H b=none->b∈bC l->∃sl,h'.get? b=some { o with slots:=sl }:=λb o q n hb=>by
  obtain⟨sl,q1⟩:=u.slot b o q n hb (by simp)
  obtain⟨uo,q3⟩:=up b _ q1 ((ff b hb).2 o q);exact⟨uo,q3⟩
 refine⟨λb o q n hb _=>kB _ _ (c.k1 b o q n hb),λb o q n hb _=>sl b o q n hb,u.free,λb o q _=>?_,u.eo,u.dR,u.eu⟩;by_cases hb:b∈bC l
 ·obtain⟨sl,q1⟩:=sl b o q (ff b hb).1 hb;exact⟨_,q1⟩
 ·obtain⟨o',q1⟩:=c.k3 b o q hb;exact⟨o',kB _ _ q1⟩
theorem G9{P:Program}{w:World}{base B:Heap}{l:List Env}{H H':Hp}{h h1 h':Heap}(aB:bw P w H' h1)(c:Cut base B l H H' h)(k1:B.StaysIn h1)(kB:B.StaysIn h'):bw P w H' h':=λb v e=>by
 refine(aB b v e).fj (λd z hd q=>?_) (λ_ q=>q) λ_ _ q=>q;have tr:∃v',H' d=some v':=by
  rcases hd with rfl | hd
  ·exact⟨_,e⟩
  ·exact⟨_,hd⟩
 obtain⟨v',e'⟩:=tr;obtain⟨o,q1⟩:=c.k2 d v' e';have:=k1 d o q1;rw[q] at this;cases this;exact kB _ _ q1
section
variable{X:Cx}{pins:List (Addr×Obj)}{σ:St}{H H':Hp}{s s':Shared}{a C:Addr}{h':Heap}{E:XK}
theorem Inv.ff(I:Inv X pins σ H s):∀b∈bC X.stack,H b=none/\∀o,s.heap.get? b=some o->∀vs,o.data≠.fields vs:=λb hb =>
 ⟨I.rZ b hb,λo q=>by
  obtain⟨_,o2,q2,nf⟩:=I.stack.mem hb;rw[q] at q2;cases q2;exact nf⟩
noncomputable def Cx.within(X:Cx)(e:Value):Cx:={ X with A:=X.A.mark (some e),calm:=false,xe:=λ_ _=>False }
theorem Inv.within(I:Inv X pins σ H s)(e:Value):Inv (X.within e) pins σ H s :=
 ⟨⟨I.ok.mod,I.ok.kind,I.ok.glob,I.ok.blt,I.ok.above,I.ok.inj,I.ok.has,I.ok.iY,(λz=>nomatch z),I.ok.frames,I.ok.jY,I.ok.jZ,I.ok.bs,I.ok.fM,I.ok.iZ,I.ok.i6,I.ok.dI,I.ok.fO⟩,
  I.os,I.bare,I.base,I.loc,I.cell,I.free,I.dJ,I.pin,I.aB,I.len⟩
theorem Inv.out{e:Value}(I:Inv (X.within e) pins σ H s)(ok:X.Ok):Inv X pins σ H s :=
 ⟨ok,I.os,I.bare,I.base,I.loc,I.cell,I.free,I.dJ,I.pin,I.aB,I.len⟩
noncomputable def uq(a C:Addr):HO:=.ext λh=>∃o,h.get? a=some o/\o.cls = .ref C
noncomputable def dY(a C:Addr):Option Addr->HO
 | none=>uq a C
 | some k=>.ext λh=>∃o,h.get? a=some o/\o.cls = .ref C/\o.dict=some (k / 2)/\∃vs,o.data = .fields vs/\(k % 2=0->vs[2]? = some .none)
theorem Oa{a C:Addr}:dY a C none=uq a C:=rfl
theorem Inv.G_{φ:Heap->Prop}(I:Inv X pins σ H s)(n:H a=none)(e0:X.aX.heap.get? a=none)(nL:a≠X.env.locals)(nc:∀x c,X.env.cells.lookup x=some c->c≠a)(np:∀p∈X.pn++pins,p.1≠a)(h:φ s.heap)(th:∃o,s.heap.get? a=some o)
  (st:∀h1 h2:Heap,φ h1->(∀o,h1.get? a=some o->h2.get? a=some o)->φ h2):Inv X pins σ (upd H a (.ext φ)) s:=by
 have ne:∀b v,H b=some v->b≠a:=λb v q z=>by rw[z,n] at q;cases q
 have up:∀b v,H b=some v->upd H a (.ext φ) b=some v:=λb v q=>by rw[aG (ne b v q)];exact q
 have un:∀b,b≠a->H b=none->upd H a (.ext φ) b=none:=λb z q=>by rw[aG z];exact q
 refine⟨I.ok,I.os,I.bare,⟨I.base.keep,I.base.slot,λb o q n' hx=>un b (λz=>by rw[z,e0] at q;cases q) (I.base.free b o q n' hx),I.base.there,λb xs q=>up b _ (I.base.eo b xs q),λb o u q=>up b _ (I.base.dR b o u q),λb ps q=>let ⟨m,z⟩:=I.base.eu b ps q;⟨m,up b _ z⟩⟩,
  I.loc,I.cell,un _ (Ne.symm nL) I.free,λx c q=>un c (nc x c q) (I.dJ x c q),λp hp=>let ⟨q1,q2,q3⟩:=I.pin p hp;⟨q1,un _ (np p hp) q2,q3⟩,λb v q=>?_,I.len⟩
 by_cases z:b=a
 ·subst z;rw[aF] at q;cases q;exact⟨h,th,st⟩
 ·rw[aG z] at q;exact(I.aB b v q).fj (λ_ _ _ e=>e) (λd e=>up d _ e) λd xs e=>up d _ e
end
noncomputable def XP(P:Program)(w:World)(base:Heap)(X:Cx)(pins:List (Addr×Obj))(σ:St)(E:XK)(e:Value)(s':Shared):Prop:=∃H1 s1,Inv X pins σ H1 s1/\gW P w base X.stack H1 s1 E e s'
noncomputable def zR(X:Cx)(E:XK)(e:Expr)(t:TE):Prop :=
 ∀(pins:List (Addr×Obj)) (s:Shared) (σ:St) (H:Hp) (Q:VK),Inv X pins σ H s->t σ H Q->wpAny (model X.prog X.w) X.A (eval e X.env) (EP X pins σ Q) (XP X.prog X.w X.base X pins σ E) s
section
variable{X:Cx}{k:Nat}{f C:Addr}{fd:FuncData}{ps:List Str}{sp:Sp}{bf:List V}{ds:List Value}{E:XK}{x m:Str}{p pos apos:Pos}{e o:Expr}{es:List Expr}{ta:TE}{t:TA}
theorem Hf{pins:List (Addr×Obj)}{σ:St}{H:Hp}{s:Shared}{Q:VK}{us:List Value}{vs:List V}(F:bh X.prog X.w X.K X.mg X.base (gW X.prog X.w X.base) k f fd ps sp)(hr:bK k X.A)(hb:Binds X.K fd ps ds)(hd:Vals bf ds)
  (I:Inv X pins σ H s) (r:Vals vs us) (h:sp (vs++bf) H Q E):wpAny (model X.prog X.w) X.A (call (.ref f) us) (EP X pins σ Q) (XP X.prog X.w X.base X pins σ E) s:=by
 have r2:Vals (vs++bf) (us++ds):=r.append hd;refine wpAny_call (codeAny_mono (F.run X.A X.stack s H ⟨us,[]⟩ (us++ds) (vs++bf) Q E hr I.oH (hb s us I.bx (r2.length.symm.trans (F.len _ _ _ _ h))) r2 h) λr s' hq=>?_)
 match r,hq with
 | .error e,hq=>exact⟨H,s,I,hq⟩
 | .ok (.ret u),hq=>exact I.after hq
 | .ok .next,hq=>exact False.elim hq
 | .ok .brk,hq=>exact False.elim hq
 | .ok .cont,hq=>exact False.elim hq
end
theorem zS{X:Cx}{P:Program}{w:World}{base:Heap}:Passes (gW P w base) X E0:=λ_ _ _ _ _ _ _ h=>by
 obtain⟨_,_,_,_,_,_,_,_,_,_,_,_,_,_,_,_,z⟩:=h;exact z.elim
theorem aW.zT{P:Program}{w:World}{K:PySem.W.Frag}{mg:Str->Option Value}{base:Heap}{x qual:Str}{st:Stmt}{f:Addr}{fd:FuncData}{N ps:List Str}{k:Nat}{sp:Sp}(F:aW K x qual st f fd)(S:bU N ps (bg st))(len:∀vs H Q E,sp vs H Q E->vs.length=ps.length)
  (jm:∀(aK:Value) (A:Around) (outer:List Env) (s:Shared) (H:Hp) (vs:List V) (Q:VK) (E:XK),bK k (A.deeper (envOfC qual (bg st) s.heap.objs.size f aK))->sp vs H Q E->
   ∃t,dw (fW (gW P w base) P w K mg base N qual (bg st) f aK A outer s H E) (dN st) t/\t { nx:=λ_ H'=>Q .aC H',rt:=Q } (start N vs) H):bh P w K mg base (gW P w base) (k+1) f fd ps sp:=by
 obtain⟨oc,od,kV,doc,pm,an,aK,ct,dW,rfl,lk,bR⟩:=F.ex;exact sQ lk bR S len λA outer s H vs Q E hr fB=>jm aK A outer s H vs Q E hr fB
noncomputable def zU(X:Cx)(E:XK)(st:Stmt)(t:TS):Prop :=
 ∀(pins:List (Addr×Obj)) (s:Shared) (σ:St) (H:Hp) (D:Ends),Inv X pins σ H s->t D σ H->wpAny (model X.prog X.w) X.A (exec st X.env) (SP X pins D) (XP X.prog X.w X.base X pins σ E) s
section
variable{X:Cx}{E:XK}{e:Expr}{te:TE}{pos:Pos}
theorem zW(he:zR X E e te)(hs:swapsWith e none pos.line X.env=pure false:=by rfl):zU X E (.Expr e pos) (xU te):=by
 intro pins s σ H D I h;exact wpAny_Expr_any (aI (he pins s σ H _ I h) λv s1 ⟨x,H1,I1,r1,q1⟩=>⟨σ,H1,I1,q1⟩) I.quiet hs
end
structure Fl(X:Cx)(pins:List (Addr×Obj))(σ:St)(a C:Addr)(a0:Value)(H1:Hp)(s1:Shared)(H':Hp)(B:Heap)(od:Option Addr)(s':Shared):Prop where
 I:Inv X pins σ H1 s1
 ho:s'.os=s1.os
 hg:AllBare s'.gens
 u:Un (bC X.stack) [] H1 H' s1.heap s'.heap
 aB:bw X.prog X.w H' s'.heap
 na:H' a=none
 nh:s1.heap.get? a=none
 c:Cut X.base B X.stack H1 H' s1.heap
 dh:Heap.FlyingW B X.stack a (.ref C) a0 s'.heap
 hd:eT s'.heap a od
section
variable{X:Cx}{pins:List (Addr×Obj)}{σ:St}{a C:Addr}{a0:Value}{H1 H':Hp}{s1 s':Shared}{B h':Heap}{od:Option Addr}
theorem Fl.move(x:Fl X pins σ a C a0 H1 s1 H' B od s')(dh:Heap.FlyingW B X.stack a (.ref C) a0 h')(up:s'.heap.UpToSlots h')(hd:eT h' a od):Fl X pins σ a C a0 H1 s1 H' B od { s' with heap:=h' } :=
 ⟨x.I,x.ho,x.hg,G8 x.u x.c dh.1 up x.I.ff,G9 x.aB x.c x.dh.1 dh.1,x.na,x.nh,x.c,dh,hd⟩
theorem Fl.inv(x:Fl X pins σ a C a0 H1 s1 H' B od s'):Inv X pins σ H' s':=x.I.xO x.ho x.u x.aB x.hg (λ_ z=>nomatch z)
theorem Fl.tracked(x:Fl X pins σ a C a0 H1 s1 H' B od s')(hex:X.ex = []):Inv X pins σ (upd H' a (dY a C od)) s':=by
 have no:∀b o,s1.heap.get? b=some o->b≠a:=λb o q z=>by rw[z,x.nh] at q;cases q
 obtain⟨m,⟨oL,_,_,iu,_⟩,_⟩:=x.I.loc;have f1:X.aX.heap.get? a=none:=by
  cases q:X.aX.heap.get? a with
  | none=>rfl
  | some o =>
   obtain⟨o1,q1⟩:=x.I.base.there a o q (by rw[hex];simp)
   rw[x.nh] at q1;cases q1
 have f2:∀y c,X.env.cells.lookup y=some c->c≠a:=λy c e=>by
  obtain⟨v,o,q,_⟩:=x.I.cell y c e;exact no _ _ q
 have tr:=λφ=>x.inv.G_ (φ:=φ) x.na f1 (Ne.symm (no _ _ iu)) f2 (λp hp=>no _ _ (x.I.pin p hp).1);have th:∃o,s'.heap.get? a=some o:=let ⟨o,q,_⟩:=x.dh.there;⟨o,q⟩
 cases od with
 | none=>exact tr _ x.dh.there th λh1 h2 ⟨o,q,z⟩ k=>⟨o,k o q,z⟩
 | some d =>
  refine tr _ ?_ th λh1 h2 ⟨o,q,z⟩ k=>⟨o,k o q,z⟩;obtain⟨o,vs,q,z,y,_⟩:=x.dh.first;obtain⟨o',q',z',c'⟩:=x.hd;rw[q] at q';cases q';refine⟨o,q,z,z',vs,y,λhk=>?_⟩
  have:=c' _ rfl hk;unfold _L.f2 at this;rw[y] at this;exact this
end
section
variable{X:Cx}{pins:List (Addr×Obj)}{σ:St}{H:Hp}{s:Shared}
theorem pJ{M:Model}{A:Around}{E:Value->Shared->Prop}{i:Nat}{n:Str}{pos:Pos}{Q:Unit->Shared->Prop}(I:Inv X pins σ H s)(hN:X.N.Nodup)(hi:X.N[i]? = some n)(hk:X.env.kindOf n=some .local)
  (h:∀s',Inv X pins (σ.set i none) H s'->Q () s'):wpAny M A (do bindName X.env n .none;unbindBehindTheSuite X.env n pos) Q E s:=by
 obtain⟨m,hn,hl⟩:=id I.loc;have kR:(X.env.scope.kind == .class || (X.env.scope.kind == .module && X.env.locals != X.env.globals))=false:=by rw[I.ok.kind];rfl
 have fP:=I.fP;refine wpAny_nameGoes_keeps hk hn kR λh' v dU hs=>?_;have old:∀b o,X.aX.heap.get? b=some o->h'.get? b=s.heap.get? b:=λb o e=>hs.2 b (Nat.ne_of_lt (Nat.lt_of_lt_of_le (Heap.lt_size e) I.ok.above));refine h _ ⟨I.ok,I.os,I.bare,⟨λb o e n hb hx=>?_,λb o e n hb hx=>?_,I.base.free,λb o e hx=>?_,I.base.eo,I.base.dR,I.base.eu⟩,⟨_,dU,λj y v' e1 e2 e3=>?_⟩,λy c e=>?_,I.free,I.dJ,λp hp=>?_,λb ob e=>?_,by simpa using I.len⟩
 ·exact(old b o e).trans (I.base.keep b o e n hb hx)
 ·obtain⟨sl,e1⟩:=I.base.slot b o e n hb hx;exact⟨sl,(old b o e).trans e1⟩
 ·obtain⟨o',e1⟩:=I.base.there b o e hx;exact⟨o',(old b o e).trans e1⟩
 ·by_cases hj:j=i
  ·subst hj;rw[List.getElem?_set] at e2;simp only[if_true] at e2;split at e2 <;> cases e2
  ·rw[List.getElem?_set_ne (Ne.symm hj)] at e2;obtain⟨u',r',q⟩:=hl j y v' e1 e2 e3;refine⟨u',r',?_⟩;rcases q with⟨k,e⟩ | ⟨k,c,e,z⟩
   ·refine .inl ⟨k,?_⟩;have:y≠n:=λe=>hj (r_ hN e1 (e▸hi));simp[this,e]
   ·exact .inr ⟨k,c,e,z.sameBut hs (fP y c e)⟩
 ·obtain⟨w',z⟩:=I.cell y c e;exact⟨w',z.sameBut hs (fP y c e)⟩
 ·obtain⟨e,n,ne,nf,d⟩:=I.pin p hp;exact⟨(hs.2 p.1 ne).trans e,n,ne,nf,d⟩
 ·refine(I.aB b ob e).fj (λc w' hc q=>(hs.2 c ?_).trans q) (λ_ q=>q) λ_ _ q=>q;rintro rfl;rcases hc with z | hc
  ·rw[← z,I.free] at e;cases e
  ·rw[I.free] at hc;cases hc
end
noncomputable def mroIn(K:PySem.W.Frag)(C:Addr):List Value:=match K.lookup C with
 | some ⟨_,_,.cls cd,_⟩=>cd.mro
 | _=>[]
noncomputable def subIn(K:PySem.W.Frag)(C:Addr)(c:Value):Bool:=(mroIn K C).contains c
theorem ur{K:PySem.W.Frag}{C:Addr}{c:Value}{b:Bool}(h:PySem.W.mroIn K C c=some b):subIn K C c=b:=by
 unfold PySem.W.mroIn PySem.W.clsIn at h;unfold subIn mroIn;cases e:K.lookup C with
 | none=>rw[e] at h;cases h
 | some o =>
  rw[e] at h;obtain⟨c0,d0,dt,sl⟩:=o;cases dt <;> first | (cases h;done) | skip
  simp only[Option.bind_some] at h;split at h
  ·cases h
  ·exact Option.some.inj h
theorem Hg{K:PySem.W.Frag}{C:Addr}{c:Value}{b:Bool}(h:PySem.W.mroIn K C c=some b):(PySem.W.clsIn K C).isSome=true:=by
 unfold PySem.W.mroIn at h;cases e:PySem.W.clsIn K C with
 | none=>rw[e] at h;cases h
 | some cd=>rfl
noncomputable def gX(K:PySem.W.Frag)(C:Addr)(cB:List Value)(newId:String):Bool:=match K.lookup C with
 | some ⟨.type "type",_,.cls cd,sl⟩=>(match cd.mro,sl.toList with
  | .ref C'::bm,[_,_,_,_,some (.builtin n),_]=>C' == C && n == newId && !cd.hasDel && PySem.W.tailIn K cB bm && PySem.W.nsOkIn K cd.ns
  | _,_=>false)
 | _=>false
theorem Hi{K:PySem.W.Frag}{C:Addr}{cB:List Value}{newId:String}(q:PySem.W.excIn K C cB newId=true):gX K C cB newId=true:=by
 unfold PySem.W.excIn at q;unfold gX;cases e:K.lookup C with
 | none=>rw[e] at q;cases q
 | some o =>
  rw[e] at q;split at q
  ·rename_i dd cd sl ho;cases ho;split at q
   ·rename_i C' bm k0 k1 k2 k3 n k5 hm hs;simp only[Bool.and_eq_true] at q;simp only[hm,hs,Bool.and_eq_true];exact q.1
   ·cases q
  ·cases q
structure e9(K:PySem.W.Frag)(C:Addr):Prop where
 ex:∃bm id,gX K C bm id=true/\bm.contains (.type "BaseException")=true
theorem e9.of{K:PySem.W.Frag}{C:Addr}{bm:List Value}{id:String}(q:PySem.W.excIn K C bm id=true)(h:bm.contains (.type "BaseException")=true):e9 K C:=⟨bm,id,Hi q,h⟩
theorem zX{K:PySem.W.Frag}{h₀:Heap}{C:Addr}(X:K.In h₀)(x:e9 K C) :
  ∃bm N nm q bs hdct sn sub ab col dd k0 k1 k2 k3 k5 newId,h₀.get? C=some (excClassObj nm q C N bs bm hdct sn sub ab col dd k0 k1 k2 k3 k5 newId)/\mroIn K C = .ref C::bm/\bm.contains (.type "BaseException")=true:=by
 obtain⟨cB,newId,q,hb⟩:=x.ex;unfold gX at q;unfold mroIn;cases e:K.lookup C with
 | none=>rw[e] at q;cases q
 | some o =>
  rw[e] at q;split at q
  ·rename_i dd cd sl ho;cases ho;split at q
   ·rename_i C' bm k0 k1 k2 k3 n k5 hm hs;simp only[Bool.and_eq_true,beq_iff_eq,Bool.not_eq_true'] at q;obtain⟨⟨⟨⟨c1,c2⟩,c3⟩,c4⟩,c5⟩:=q;obtain⟨nm,bs,mro,ns,qn,hd,sn,sub,ab,col,del⟩:=cd;obtain⟨l⟩:=sl;dsimp only at hm hs c3 c5;subst c1 c2 hm c3 hs;exact⟨bm,ns,nm,qn,bs,hd,sn,sub,ab,col,dd,k0,k1,k2,k3,k5,n,X _ _ e,rfl,(PySem.W.tail_of_in X c4).hasType hb⟩
   ·cases q
  ·cases q
theorem Hj{M:Model}{A:Around}{E:Value->Shared->Prop}{K:PySem.W.Frag}{s:Shared}{e C C2:Addr}{oe:Obj}{Q:Bool->Shared->Prop}(X:K.In s.heap)(x:e9 K C)(y:e9 K C2)(he:s.heap.get? e=some oe)(kR:oe.cls = .ref C)
  (hq:Q (subIn K C (.ref C2)) s):wpAny M A (excMatches (.ref e) (.ref C2)) Q E s:=by
 obtain⟨bm,N,nm,q,bs,hdct,sn,sub,ab,col,dd,k0,k1,k2,k3,k5,newId,hC,hm,_⟩:=zX X x;obtain⟨Hl,N2,Ob,q2,Oc,Od,Oe,Of,Og,Oh,Oi,Oj,Ol,Om,Oo,Oq,Ot,lT,Ou,Ho⟩:=zX X y;have uv:(Value.ref C2::Hl).contains (.type "BaseException")=true:=by rw[List.contains_cons,Ho,Bool.or_true]
 unfold subIn at hq;rw[hm] at hq;have f:=tc_notTuple;obtain⟨h,g,d,t,os⟩:=s;unfold excMatches
 repeat (first | (with_reducible refine wpAny_loadPart_at he ?_;rw[kR]) | with_reducible refine wpAny_loadPart_at lT ?_ | (with_reducible refine wpAny_isSubtype_exc lT ?_;rw[uv]) | (with_reducible refine wpAny_isSubtype_exc hC ?_) | wp_step)
 all_goals first | exact hq | (cases hh:(Value.ref C::bm).contains (.ref C2) <;> (rw[hh] at hq;wp_walk;exact hq))
noncomputable abbrev TH:=Option Addr->Addr->Addr->Ends->St->Hp->Prop
noncomputable def PH(X:Cx)(hs:List ExceptHandler)(t:TH):Prop :=
 ∀(pins:List (Addr×Obj)) (σ:St) (a C:Addr) (a0:Value) (H1:Hp) (s1:Shared) (H':Hp) (B:Heap) (od:Option Addr) (s':Shared) (D:Ends) (E:Value->Shared->Prop),Fl X pins σ a C a0 H1 s1 H' B od s'->e9 X.K C->t od C a D σ H'->
  wpAny (model X.prog X.w) X.A (handleBy (.ref a) X.env hs) (SP X pins D) E s'
theorem zY{X:Cx}:PH X [] (λ_ _ _ _ _ _=>False):=λ_ _ _ _ _ _ _ _ _ _ _ _ _ _ _ h=>h.elim
noncomputable def zZ(i:Nat)(D:Ends):Ends:={ nx:=λσ H=>D.nx (σ.set i none) H,rt:=D.rt,bk:=λσ H=>D.bk (σ.set i none) H,ct:=λσ H=>D.ct (σ.set i none) H }
noncomputable def Hq(K:PySem.W.Frag)(C2:Addr)(i:Nat)(ts:Addr->TS)(t:TH):TH:=λod C a D σ H =>
 (subIn K C (.ref C2)=true/\ts a (zZ i D) (σ.set i (some (.ref a))) (upd H a (dY a C od)))\/(subIn K C (.ref C2)=false/\t od C a D σ H)
theorem z_{X:Cx}{x n:Str}{np Aa:Pos}{pK:Stmt}{Ab:List Stmt}{rest:List ExceptHandler}{C2:Addr}{i:Nat}{ts:Addr->TS}{t:TH}(hg:Gl X x)(hm:X.mg x=some (.ref C2))(y:e9 X.K C2)(hN:X.N.Nodup)(hi:X.N[i]? = some n)
  (hk:X.env.kindOf n=some .local) (hex:X.ex = []) (hs:∀a,dw (X.within (.ref a)) (pK::Ab) (ts a)) (hr:PH X rest t) (eZ:(x == ("__debug__" : Str))=false:=by decide) :
  PH X (.ExceptHandler (some (.Name x np)) (some n) (pK::Ab) Aa::rest) (Hq X.K C2 i ts t):=by
 intro pins σ a C a0 H1 s1 H' B od s' D E F xc h;obtain⟨ob,Hr,Hs⟩:=F.dh.there;refine wpAny_handleBy_cons (codeAny_handlers_test (j0 (X:=X.within (.ref a)) (F.inv.within (.ref a)) hg hm (Hj F.inv.bx xc y Hr Hs ?_) eZ)) (by intro q;cases q)
 rcases h with⟨hb,h⟩ | ⟨hb,h⟩
 ·rw[hb];refine codeAny_handlers_suite_as (G4 F.dh F.hd λh6 Ht Hu Hv=>?_);have F6:=F.move Ht Hu Hv;refine sf (X:=X.within (.ref a)) (i:=i) (v:=V.ref a) ((F6.tracked hex).within (.ref a)) hN hi (.inl hk) rfl (λs2 I2=>?_) (.inr hk);refine wpAny_mono (hs a pins s2 _ _ (zZ i D) I2 h) (λf s3 q=>?_) λ_ _ z=>False.elim z;cases f with
  | next=>obtain⟨aL,H2,J,q⟩:=q;exact pJ (J.out F.I.ok) hN hi hk λs4 J4=>⟨_,_,J4,q⟩
  | brk=>obtain⟨aL,H2,J,q⟩:=q;exact pJ (J.out F.I.ok) hN hi hk λs4 J4=>⟨_,_,J4,q⟩
  | cont=>obtain⟨aL,H2,J,q⟩:=q;exact pJ (J.out F.I.ok) hN hi hk λs4 J4=>⟨_,_,J4,q⟩
  | ret u=>obtain⟨v,aL,H2,J,r,q⟩:=q;exact pJ (J.out F.I.ok) hN hi hk λs4 J4=>⟨v,_,_,J4,r,q⟩
 ·rw[hb];exact hr pins σ a C a0 H1 s1 H' B od s' D E F xc h
theorem Ov{X:Cx}{e:Value}:(X.within e).K=X.K:=rfl
noncomputable def Hw(K:PySem.W.Frag)(th:TH)(D:Ends)(σ:St):XK:=λcls od H'=>∃C,cls = .ref C/\e9 K C/\∀a,H' a=none->th od C a D σ H'
noncomputable def Hy(K:PySem.W.Frag)(tb:XK->TS)(th:TH):TS:=λD σ H=>tb (Hw K th D σ) D σ H
theorem Ac{X:Cx}{st:Stmt}{h₀:ExceptHandler}{hs:List ExceptHandler}{pos:Pos}{tb:XK->TS}{th:TH}(fU:X.stack=X.env::X.outer)(hf:X.env.frame=some X.env.locals)(hb:∀E,zU X E st (tb E))(hh:PH X (h₀::hs) th) :
  PS X (.Try [st] (h₀::hs) [] [] pos) (Hy X.K tb th):=by
 intro pins s σ H D I h;refine wpAny_Try_except (wpAny_execs_cons (wpAny_mono (hb _ pins s σ H D I h) (λf s1 q=>?_) λe s' z=>?_))
 ·cases f with
  | next=>exact wpAny_execs_nil (wpAny_execs_nil q)
  | ret v=>exact q
  | brk=>exact q
  | cont=>exact q
 ·obtain⟨H1,s1,I1,a,C,a0,H',B,od,rfl,ho,hg,u,aB,na,nh,c,dh,hd,C',eC,xc,hE⟩:=z;cases eC;have F:Fl X pins σ a C a0 H1 s1 H' B od s':=⟨I1,ho,hg,u,aB,na,nh,c,dh,hd⟩;have Ad:=dh;rw[fU] at Ad;refine GX (by rw[I1.ok.frames,fU]) hf Ad hd λh4 held Hz HA=>?_
  refine GZ held HA λh5 Ae HB HC=>?_;rw[← fU] at Ae;exact hh pins σ a C a0 H1 s1 H' B _ _ D _ (F.move Ae (Hz.trans HB) HC) xc (hE a na)
end _L
namespace _L
open PySem PySem.Spec PyProof.Rows PySem.W PySem.Builtin.ObjectAttr PySem.Builtin.Getset_descriptor
section
variable{prog:Program}{w:World}{A:Around}{E:Value->Shared->Prop}{s:Shared}{K:Frag}{x D:Addr}{ox:Obj}{name:Str}
structure jD(K:Frag)(D:Addr):Prop where
 ga:findIn K (.ref D) "__getattribute__" = some (some (.builtin "BaseException.__getattribute__"))
 gt:findIn K (.ref D) "__getattr__" = some none
 mro:PySem.W.mroIn K D (.type "BaseException")=some true
 obj:PySem.W.mroIn K D (.type "object")=some true
 cl:findIn K (.ref D) "__class__" = some (some (.builtin "object.__class__"))
 sp:specialIn K (.builtin "object.__class__") "__get__" = some (some (.builtin "getset_descriptor.__get__"))
 tk:takesIn K (.builtin "object.__class__")=some true
theorem uw{M:Model}{h:Heap}(hx:h.get? x=some ox)(hc:ox.cls = .ref D):Looks M h (typeOf (.ref x)) (.ref D):=hc▸(Looks.ld hx).andThen .now
theorem HD{M:Model}{h:Heap}{a g:Value}(X:K.In h)(ha:findIn K (.ref D) name=some (some a))(hg:specialIn K a "__get__" = some (some g))(ht:takesIn K a=some true):Looks M h (find (.ref x) (.ref D) name) (.bind g a):=by
 have L1:=looks_findIn (M:=M) X ha;have _L:Looks M h (getOf (some a)) (some g):=looks_specialIn X hg;have L3:=looks_takesIn (M:=M) X ht;refine L1.andThen (_L.andThen ?_);refine Looks.andThen (a:=some (g,a)) ?_ (Looks.tag .now);unfold dataDescriptor?;refine L3.andThen ?_;exact .now
theorem HE{g a:Value}{tk:Tok}{Q:Value->Shared->Prop}(T:Looks (model prog w) s.heap (typeOf (.ref x)) (.ref D))(L1:Looks (model prog w) s.heap (find (.ref x) (.ref D) name) (.bind g a))(h:wpAny (model prog w) A (call g [a,.ref x,.ref D]) Q E s) :
  wpAny (model prog w) A (Builtin.«object.__getattribute__» ⟨[.ref x,.str name tk],[]⟩) (λfin s'=>match fin with | .done (.ret v)=>Q v s' | _=>False) E s:=by
 obtain⟨hh,gg,d,t,os⟩:=s;refine wpAny_bind (wpAny_pure (wpAny_bind (wpAny_pure (wpAny_bind (T.at (wpAny_bind (L1.at ?_)))))))
 show wpAny _ _ (holding [a] (call g [a,.ref x,.ref D]) >>= ret) _ _ _;exact wpAny_bind (wpAny_holding (wpAny_mono h (λv s' z=>wpAny_pure z) λ_ _ z=>z))
theorem HF{v:Value}{tk:Tok}{Q:Value->Shared->Prop}(T:Looks (model prog w) s.heap (typeOf (.ref x)) (.ref D))(L1:Looks (model prog w) s.heap (find (.ref x) (.ref D) name) (.value v))(h:Q v s) :
  wpAny (model prog w) A (Builtin.«object.__getattribute__» ⟨[.ref x,.str name tk],[]⟩) (λfin s'=>match fin with | .done (.ret v)=>Q v s' | _=>False) E s:=by
 obtain⟨hh,gg,d,t,os⟩:=s;exact wpAny_bind (wpAny_pure (wpAny_bind (wpAny_pure (wpAny_bind (T.at (wpAny_bind (L1.at (wpAny_pure h))))))))
theorem HG{nameV:Value}{Q:Unit->Shared->Prop}(X:K.In s.heap)(T:Looks (model prog w) s.heap (typeOf (.ref x)) (.ref D))(G:jD K D)(hq:Q () s):wpAny (model prog w) A (checkBuiltinCall "BaseException.__getattribute__" ⟨[.ref x,nameV],[]⟩) Q E s:=by
 have hk:builtinKind "BaseException.__getattribute__" = some .slot:=by decide +kernel
 have HJ:splitId "BaseException.__getattribute__" = some ("BaseException", "__getattribute__"):=by decide +kernel
 obtain⟨hh,gg,d,t,os⟩:=s;have L1:=looks_mroIn (M:=model prog w) X G.mro;have ha:=F.args_bexc_ga (.ref x) nameV;simp only[checkBuiltinCall,hk,HJ];refine wpAny_bind ?_;unfold isInstance
 repeat (first | lk | wp_step)
 exact hq
theorem Af{tk:Tok}{fill expr:Bool}{Q:Value->Shared->Prop}(X:K.In s.heap)(T:Looks (model prog w) s.heap (typeOf (.ref x)) (.ref D))(G:jD K D)
  (h:∀A,wpAny (model prog w) A (Builtin.«object.__getattribute__» ⟨[.ref x,.str name tk],[]⟩) (λfin s'=>match fin with | .done (.ret v)=>handedIn v=true/\Q v s' | _=>False) (λ_ _=>False) s) :
  wpAny (model prog w) A (getAttrBy (.ref x) (.str name tk) fill expr) Q E s:=by
 have f3:=F.attr_ValueError.ga.bind (.ref x);have HK:(expr && onTheHeap (Value.builtin "BaseException.__getattribute__"))=false:=by cases expr <;> rfl
 have lU:(onTheHeap (Value.ref D) && Value.builtin "BaseException.__getattribute__" == Value.builtin "object.__getattribute__")=false:=by
  rw[show (Value.builtin "BaseException.__getattribute__" == Value.builtin "object.__getattribute__")=false from by decide +kernel];rfl
 have HL:=λ{A:Around} {E:Value->Shared->Prop} {Q:Unit->Shared->Prop}=>HG (prog:=prog) (w:=w) (A:=A) (E:=E) (nameV:=.str name tk) (Q:=Q) X T G;obtain⟨hh,gg,d,t,os⟩:=s;have L1:=looks_findIn (M:=model prog w) X G.ga;have _L:=looks_findIn (M:=model prog w) X G.gt;unfold getAttrBy;refine wpAny_holding (wpAny_bind (T.at (wpAny_bind (L1.at ?_))));simp only[lU,Bool.false_eq_true,if_false];unfold getAttrByItsOwn hookBefore;simp only[onTheHeap,if_true];refine wpAny_bind (_L.at (wpAny_bind (wpAny_attempt (wpAny_holding ?_))));unfold callGetattribute boundAndCalled;simp only[HK,Bool.false_eq_true,if_false,f3];refine wpAny_bind (wpAny_pure (wpAny_call (codeAny_call_builtin F.attr_ValueError.ga.plain F.entry_bexc_ga (HL (wpAny_mono (h _) (λfin s' z=>?_) λ_ _ z=>False.elim z)))));rcases fin with(_ | _ | _ | v) | _ <;> first | exact handed_on z.1 z.2 | exact z.elim
theorem HM{R:Result->Shared->Prop}{tp:Value}(X:K.In s.heap)(L0:Looks (model prog w) s.heap (typeOf (.ref x)) (.ref D))(hm:PySem.W.mroIn K D (.type "object")=some true)
  (h:R (.ok (.ret (.ref D))) s):codeAny (model prog w) A (.call (.builtin "getset_descriptor.__get__") ⟨[.builtin "object.__class__",.ref x,tp],[]⟩) R s:=by
 obtain⟨hh,g,dr,t,os⟩:=s;have L1:=looks_mroIn (M:=model prog w) X hm;refine codeAny_call_builtin KF.slot_gs.plain KF.entry_gs (KF.slot_gs.check _ _ _ _ _ _ _ _ KF.type_class (KF.args_gs _ _ _) ?_);unfold Builtin.«getset_descriptor.__get__» descrGet;rw[dga_obj];refine wpAny_bind (wpAny_pure ?_);unfold descrGetter descrCheckInstance descrNameAndClass isInstance;simp only[KF.owner_class]
 repeat lk
 refine⟨Code.quiet_builtin _ (by decide +kernel),codeAny_builtin KF.entry_class ?_⟩
 unfold Builtin.«object.__class__» shownTypeOf
 repeat lk
 exact h
theorem HN{Q:Option Value->Shared->Prop}(X:K.In s.heap)(T:∀s':Shared,s'.heap=s.heap->Looks (model prog w) s'.heap (typeOf (.ref x)) (.ref D))(G:jD K D)(h:Q (some (.ref D)) { s with toks:=s.toks+1 }) :
  wpAny (model prog w) A (getAttr? (.ref x) "__class__") Q E s:=by
 unfold getAttr? getAttrBy?;refine wpAny_bind (wpAny_mkText (wpAny_bind (wpAny_attempt ?_)));refine Af (s:={ s with toks:=s.toks+1 }) X (T _ rfl) G λA=>?_
 refine wpAny_mono (HE (s:={ s with toks:=s.toks+1 }) (Q:=λv s'=>v = .ref D/\s' = { s with toks:=s.toks+1 }) (T _ rfl) (HD X G.cl G.sp G.tk) (wpAny_call (HM (s:={ s with toks:=s.toks+1 }) X (T _ rfl) G.obj ⟨rfl,rfl⟩))) (λfin s' z=>?_) λ_ _ z=>z;rcases fin with(_ | _ | _ | v) | _ <;> first | exact z.elim | (obtain⟨rfl,rfl⟩:=z;exact⟨rfl,wpAny_pure h⟩)
end
theorem HP{K:Frag}{x D:Addr}(G:jD K D)(hc:(clsIn K D).isSome=true):KitX K (.ref x) (.ref D) (λh=>∃o,h.get? x=some o/\o.cls = .ref D) where
 ty:=λ_ _ _ ⟨o,h1,h2⟩=>uw h1 h2
 it:=λ_ _ X _=>by
  obtain⟨cd,bR⟩:=Option.isSome_iff_exists.mp hc;unfold clsIn at bR;split at bR
  ·rename_i ho;intro A' Q' E' s' k q;unfold isType loadHead;exact wpAny_bind (wpAny_loadPart (k _ _ (X _ _ ho)) (wpAny_pure q))
  ·cases bR
 ne:=λh tp dd au n sl X HQ=>by
  obtain⟨cd,bR⟩:=Option.isSome_iff_exists.mp hc;refine Bool.eq_false_iff.mpr λq=>?_
  have e:D=tp:=Value.ref.inj (beq_iff_eq.mp q);subst e;unfold clsIn at bR;split at bR
  ·rename_i ho;have z:=(X _ _ ho).symm.trans HQ;cases z
  ·cases bR
 ca:=λ{_ _ _ _ _ s} X ⟨o,h1,h2⟩ k=>HN X (λs' e=>by rw[e];exact uw h1 h2) G k
section
variable{X:Cx}
theorem HR{pins:List (Addr×Obj)}{σ:St}{H:Hp}{s:Shared}{a C:Addr}{od:Option Addr}(I:Inv X pins σ H s)(e:H a=some (dY a C od)):∃o,s.heap.get? a=some o/\o.cls = .ref C:=by
 cases od with
 | none =>
  obtain⟨h,_,_⟩:=(show bu X.prog X.w H s.heap a (uq a C) from I.aB a _ e);exact h
 | some d =>
  obtain⟨⟨o,h1,h2,_⟩,_,_⟩:=(show bu X.prog X.w H s.heap a (dY a C (some d)) from I.aB a _ e);exact⟨o,h1,h2⟩
theorem kC:gv X (.builtin "isinstance") (λxs H Q=>∃a C c v b,xs = [.ref a,v]/\((∃C2,v = .ref C2/\c = .ref C2)\/(∃T,v = .ty T/\c = .type T))/\(∃od,H a=some (dY a C od))/\jD X.K C/\(clsIn X.K C).isSome=true/\kitOne X.K (.ref C) c=some b/\Q (.bl b) H):=by
 intro pins s σ H xs us Q I r h;obtain⟨a,C,c,v,b,rfl,hv,⟨od,ea⟩,G,hc,e,q⟩:=h;obtain⟨u,v',rfl,ru,rv⟩:=vals2 r;cases (show u=Value.ref a from ru);have ev:v' = c:=by
  rcases hv with⟨C2,rfl,rfl⟩ | ⟨T,rfl,rfl⟩
  ·exact rv
  ·exact rv
 subst ev;exact kia_one (HP G hc) I.bx (HR I ea) e (λz=>nomatch z) λtk=>⟨.bl b,H,I.tok _,rfl,q⟩
end
end _L
namespace _L
open PySem PySem.Spec PyProof.Rows PySem.W
section
variable(key:Nat->Int)
noncomputable def kk(p:Array Nat)(i:Nat):Int:=key (p.getD i 0)
variable{key}{p:Array Nat}
end
section
variable{prog:Program}{w:World}{A:Around}{E:Value->Shared->Prop}{s:Shared}
end
section
variable{n:Nat}{p q:Array Nat}
end
end _L
namespace _L
open PySem PySem.Spec PyProof.Rows
section
variable{X:Cx}{pins:List (Addr×Obj)}{σ:St}{H:Hp}{s:Shared}{scope:Scope}{cl:List (Str×Addr)}{ps fs:List Str}{fv:List Nat}{A:Around}{qual:Str}{f c':Addr}
end
structure Ow(mg:Str->Option Value)(base:Heap)(c P:Addr):Prop where
 hd:PySem.W.CodeHd base c P
 bm:∃bm ob,mg "__builtins__" = some (.ref bm)/\bm≠builtinsNs/\base.get? bm=some ob/\ob.cls = .type "module"/\ob.dict=some builtinsNs/\ob.data = .plain
section
variable{X:Cx}{pins:List (Addr×Obj)}{σ:St}{H:Hp}{s:Shared}{scope:Scope}{cl:List (Str×Addr)}{M:Model}{A:Around}{E:Value->Shared->Prop}{name qual:Str}{params:Arguments}{body:Expr}{pos:Pos}{firstLine:Nat}{c P:Addr}
end
end _L
namespace _L
open PySem PySem.Spec PyProof.Rows PySem.W
section
variable{prog:Program}{w:World}{A:Around}{E:Value->Shared->Prop}{s:Shared}
end
section
variable{X:Cx}{pins:List (Addr×Obj)}{σ:St}{H:Hp}{s:Shared}
variable{scope:Scope}{cl:List (Str×Addr)}{ps fs:List Str}{fv:List Nat}{A:Around}{qual name:Str}{f c' P kS:Addr}{params:Arguments}{body:Expr}{te:TE}{pm Ox:Value}{pos:Pos}{kv:Nat->Int×Int}{n:Nat}{H1:Hp}{m:Str->Option Value}
end
end _L
namespace _L
open PySem PySem.Spec PyProof.Rows
section
variable{M:Model}{prog:Program}{w:World}{A:Around}{E:Value->Shared->Prop}{s:Shared}
end
section
variable{prog:Program}{w:World}{A:Around}{E:Value->Shared->Prop}{s:Shared}
end
section
variable{X:Cx}
end
section
variable{prog:Program}{w:World}{A:Around}{E:Value->Shared->Prop}{s:Shared}{d it:Addr}{es:Array DictEntry}{ep i:Nat}
end
section
variable{X:Cx}
end
section
variable{α:Type}{lt:α->α->Prop}
noncomputable def put(f:Nat->α)(k:Nat)(x:α):Nat->α:=λi=>if i=k then x else f i
end
noncomputable abbrev Th:=Int×List Int×Int
noncomputable def ux(a b:Th):Prop:=a.1<b.1\/(a.1=b.1/\(_H.lexLt a.2.1 b.2.1=true\/(a.2.1=b.2.1/\a.2.2<b.2.2)))
section
open PySem.SeqAt PySem.MeetsSeq PySem.MeetsSeq2 PySem.MeetsSeq3
open PySem.AutoSeq1 (wpAny_loadPart')
end
section
variable{prog:Program}{w:World}{A:Around}{E:Value->Shared->Prop}{s:Shared}
end
noncomputable def Ag(H:Hp)(a:Addr)(t:Th):Prop:=∃p,H a=some (.tup [.int t.1,.ref p,.int t.2.2])/\H p=some (.tup (t.2.1.map V.int))
noncomputable instance (a b:Th):Decidable (ux a b):=by unfold ux;infer_instance
section
variable{X:Cx}{pins:List (Addr×Obj)}{σ:St}{H:Hp}{s:Shared}
end
section
variable{X:Cx}
noncomputable abbrev Zs:=List (Addr×Th)
noncomputable def zV(zs:Zs):List V:=zs.map λz=>V.ref z.1
noncomputable def HS(H:Hp)(zs:Zs):Prop:=∀z,z∈zs->Ag H z.1 z.2
noncomputable def Oz:V->List V->Hp->VK->Prop:=λx vs H Q=>∃l a zs t,x = .ref l/\vs = [.ref a]/\H l=some (.lst (zV zs))/\HS H zs/\Ag H a t/\t∈zs.map (·.2)/\
 ∀(k:Nat) (h:k<zs.length),zs[k].2=t->Q .aC (upd H l (.lst (zV (zs.eraseIdx k))))
end
section
variable{H H':Hp}{a:Addr}{ts:List Addr}{z:List (List Int)}
theorem Zn.start{l:Addr}:Zn (upd H l (.lst [])) l [] []:=⟨aF,rfl,λi t r e=>by simp at e⟩
theorem Zn.ext{D:Addr}{uy:List Addr}{z z2:List (Int×Int)}(h:Zn H a ts z)(h2:Zn H D uy z2):Zn (upd H a (.lst (ts.map V.ref++uy.map V.ref))) a (ts++uy) (z++z2):=by
 refine⟨by rw[aF,List.map_append],by simp[h.n,h2.n],λi t q e1 e2=>?_⟩
 have hn:=h.n;by_cases hi:i<ts.length
 ·rw[List.getElem?_append_left hi] at e1;rw[List.getElem?_append_left (by lia)] at e2
  have ht:=h.t i t q e1 e2;rw[aG (jW ht h.l (by intro z;cases z))]
  exact ht
 ·rw[List.getElem?_append_right (by lia)] at e1
  rw[List.getElem?_append_right (by lia)] at e2
  rw[hn] at e1;have ht:=h2.t _ t q e1 e2;rw[aG (jW ht h.l (by intro z;cases z))]
  exact ht
end
section
variable{ta:TA}{g:TG}{tt:TT}{te:TE}{nt:Nat}{fv:List Nat}{Q:VK}{σ:St}{H:Hp}
theorem Ah(n:Int)(Pv:Addr->Nat->List V->St->Hp->Prop)(cZ:∀Q:List V->Hp->Prop,Q [.int n] H->ta σ H Q)(b1 : -1000000000000<n)(b2:n<1000000000000)
  (h0:∀D,H D=none->Pv D 0 [] (gC σ nt fv) (upd H D (.lst []))) (hD:∀D i ys σ H,Pv D i ys σ H->H D=some (.lst ys)/\ys.length<sizeLine)
  (hs:∀D i ys az H2 (N:List V->St->Hp->Prop),(∀ys σ H,Pv D (i+1) ys σ H->N ys σ H)->i<n.toNat->Pv D i ys az H2->g (.int (i:Int)) az H2 λbD H4=>tt bD H4 λb H5=>if b=true then te bD H5 λv H6=>H6 D=some (.lst ys)/\N (ys++[v]) bD (upd H6 D (.lst (ys++[v]))) else N ys bD H5)
  (hd:∀D ys az H2,Pv D n.toNat ys az H2->Q (.ref D) H2):kh (kY ta) g tt te nt fv σ H Q:=by
 refine cZ _ ⟨n,rfl,by lia,by lia,λD lN=>?_⟩
 refine⟨λi m ys az H2=>m=n.toNat - i/\i<=n.toNat/\Pv D i ys az H2,⟨_,rfl,Nat.zero_le _,h0 D lN⟩,?_⟩;rintro i m ys az H2 ⟨rfl,f_,p⟩;obtain⟨d1,d2⟩:=hD D i ys az H2 p;refine⟨d1,d2,?_⟩;by_cases aY:i<n.toNat
 ·refine .inr ⟨aY,λx H3 y=>?_⟩;obtain⟨e1,e2⟩:=y;subst e1 e2;have e2:(0:Int)+(i:Int)=i:=by lia
  rw[e2];exact hs D i ys az _ _ (λ_ _ _ z=>NX.of aY z) aY p
 ·have e:i=n.toNat:=by lia
  subst e;exact .inl ⟨Nat.le_refl _,hd D ys az H2 p⟩
end
section
variable{P:Addr}{pos:Pos}{qual:Str}{H H1 H2:Hp}
end
theorem Ai{s:Int}:∀(rc:List Int) (r:Nat) (c:Int×Int),c∈bE s r rc->∃j:Nat,j<rc.length/\c.1=((r+j:Nat):Int)/\0<=c.2/\c.2<rc.getD j 0 - s
 | [],r,c,h=>by cases h
 | x::rc,r,c,h=>by
  rw[bE,List.mem_append] at h;rcases h with h | h
  ·obtain⟨k,hk,rfl⟩:=List.mem_map.mp h;have:=List.mem_range.mp hk;exact⟨0,by simp,by simp,by show 0<=(k:Int);lia,by show (k:Int)<x - s;lia⟩
  ·obtain⟨j,h1,h2,h3,h4⟩:=Ai rc (r+1) c h;exact⟨j+1,by simpa using h1,by rw[h2];congr 1;lia,h3,by simpa using h4⟩
theorem HU{s:Int}{rc:List Int}{i:Nat}(h:i<rc.length):bE s 0 (rc.take (i+1))=bE s 0 (rc.take i)++(List.range (rc.getD i 0 - s).toNat).map λ(k:Nat)=>((i:Int),(k:Int)):=by
 rw[take_succ_get (List.getElem?_eq_getElem h),tV,bE,bE,List.append_nil,List.length_take,Nat.min_eq_left (by lia),Nat.zero_add,show rc.getD i 0=rc[i] by simp[h]]
structure pL(K:PySem.W.Frag)(x qual:Str)(st:Stmt)(f:Addr)(fd:FuncData):Prop where
 ex:∃(oc:Value) (od:Option Addr) (dV kV doc pm:Value) (an:Option Addr) (aK ct:Value) (dW:Array (Option Value)),
  fd=PySem.W.fnOf x qual (e8 st) (dN st) (bg st) dV kV doc pm an aK ct/\K.lookup f=some ⟨oc,od,.func fd,dW⟩/\PySem.W.codeIn K aK qual=true
 kp:PySem.W.keepIn K (.ref f)=true
section
variable{P:Program}{w:World}{K:PySem.W.Frag}{mg:Str->Option Value}{base:Heap}
theorem pL.ok{x qual:Str}{st:Stmt}{f:Addr}{fd:FuncData}{N ps:List Str}{k:Nat}{sp:Sp}(F:pL K x qual st f fd)(S:bU N ps (bg st))(len:∀vs H Q E,sp vs H Q E->vs.length=ps.length)
  (jm:∀(aK:Value) (A:Around) (outer:List Env) (s:Shared) (H:Hp) (vs:List V) (Q:VK) (E:XK),bK k (A.deeper (envOfC qual (bg st) s.heap.objs.size f aK))->sp vs H Q E->
   ∃t,dw (fW bL P w K mg base N qual (bg st) f aK A outer s H E).iy (dN st) t/\t { nx:=λ_ H'=>Q .aC H',rt:=Q } (start N vs) H):bh P w K mg base bL (k+1) f fd ps sp:=by
 obtain⟨oc,od,dV,kV,doc,pm,an,aK,ct,dW,rfl,lk,bR⟩:=F.ex;refine sQ lk bR S len λA outer s H vs Q E hr fB=>?_;obtain⟨t,h,q⟩:=jm aK A outer s H vs Q E hr fB;exact⟨t,h.iy,q⟩
theorem HV{x qual:Str}{st:Stmt}{f:Addr}{oc:Value}{od an:Option Addr}{dW:Array (Option Value)}{dV kV doc pm aK ct:Value}(l:K.lookup f=some ⟨oc,od,.func (PySem.W.fnOf x qual (e8 st) (dN st) (bg st) dV kV doc pm an aK ct),dW⟩)
  (c:PySem.W.codeIn K aK qual=true) (k:PySem.W.keepIn K (.ref f)=true):pL K x qual st f (PySem.W.fnOf x qual (e8 st) (dN st) (bg st) dV kV doc pm an aK ct):=⟨⟨oc,od,dV,kV,doc,pm,an,aK,ct,dW,rfl,l,c⟩,k⟩
end
section
variable{X:Cx}
theorem HW{xs:List Bool}{au:List Value}(r:Vals (xs.map V.bl) au):au=xs.map Value.bool:=by
 induction xs generalizing au with
 | nil=>cases r;rfl
 | cons b xs ih =>
  cases r with
  | cons r1 r2=>cases (show _=Value.bool b from r1);rw[ih r2];rfl
theorem HX(hc:X.calm=true):gv X (.builtin "all") (λxs H Q=>∃(p:Addr) (bs:List Bool),xs = [.ref p]/\aD X.K H p (bs.map V.bl)/\Q (.bl (bs.all id)) H):=by
 intro pins s σ H xs us Q I r h;obtain⟨p,bs,rfl,hq,q⟩:=h;obtain⟨u,rfl,ru⟩:=vals1 r;cases ru;obtain⟨au,rv,pl,hz⟩:=I.list hq;have eb:=HW rv;subst eb;have HY:p<s.heap.objs.size:=by obtain⟨_,q1,_⟩:=pl.isList;exact Heap.lt_size q1
 refine call_all_walk (wpAny_pyIter_list pl.isList ?_);refine⟨s.heap.objs.size,[s.heap.objs.size,p],[s.heap.objs.size],(bs.map Value.bool).toArray.size,_,_,λi=>(bs[i]?).getD true,rfl,Walks.list (A:=X.A.in1) (I.ok.hd hc) _ p (Nat.ne_of_lt HY) (bs.map Value.bool).toArray,
  ⟨⟨_,Heap.get?_push_size _ rfl,rfl,rfl⟩,pl.isList.push _⟩,λi v s2 Q2 E2 HZ hw=>?_,λh' tk hk=>?_⟩
 ·have H_:(bs.map Value.bool)[i]? = some v:=by simpa using HZ
  obtain⟨b,eb,rfl⟩:=zu H_;simp only[eb,Option.getD_some] at hw;exact wpAny_truthy_bool hw
 ·have e:((List.range (bs.map Value.bool).toArray.size).all λi=>(bs[i]?).getD true)=bs.all id:=by
   rw[List.size_toArray,List.length_map];exact LSm.range_all bs
  rw[e];exact⟨.bl (bs.all id),H,I.kept (LSm.kept_iter hk),rfl,q⟩
noncomputable def OA(ta:TA):TE:=λσ H Q=>ta σ H λvs H1=>∃i j:Int,vs = [.int i,.int j]/\(-1000000000000<i/\i<1000000000000/\-1000000000000<j/\j<1000000000000)/\(j - i).toNat<=1000000/\
 ∀l,H1 l=none->Q (.ref l) (upd H1 l (.lst ((List.range (j - i).toNat).map λ(k:Nat)=>V.int (i+(k:Int)))))
theorem Ia{F:Nat->V}{acc:Array Value}{n:Nat}(h:ItemsOf (λi v=>RelV (F i) v) acc n):Vals ((List.range n).map F) acc.toList:=by
 obtain⟨h1,h2⟩:=h;have:∀(m:Nat) (l:List Value) (k:Nat),l.length=m->(∀j v,l[j]? = some v->RelV (F (k+j)) v)->Vals ((List.range' k m).map F) l:=by
  intro m
  induction m with
  | zero=>intro l k hl _;rw[List.eq_nil_of_length_eq_zero hl];exact .nil
  | succ m ih =>
   intro l k hl hh;cases l with
   | nil=>cases hl
   | cons v l =>
    rw[List.range'_succ,List.map_cons];refine .cons (hh 0 v rfl) (ih l (k+1) (by simpa using hl) λj w hj=>?_)
    have:=hh (j+1) w (by simpa using hj)
    rwa [show k+(j+1)=k+1+j by lia] at this
 have e:=this n acc.toList 0 (by simpa using h1) λj v hj=>by rw[Nat.zero_add];exact h2 j v (by simpa using hj)
 rwa [← List.range_eq_range'] at e
end
structure Ak where
 kind:Str
 first:Int
 many:Int
 marks:List Int
 at_:Int
 Ib:Int
 Ic:Option Int
 behind:List Int
 early:Bool
noncomputable def Ie:Option Int->V
 | none=>.aC
 | some i=>.int i
noncomputable def OB(q:Ak)(m b:Addr):List (Str×V):=[("kind",.str q.kind),("first",.int q.first),("many",.int q.many),("marks",.ref m),("at",.int q.at_),("asker",.int q.Ib),("latest",Ie q.Ic),("behind",.ref b),("early",.bl q.early)]
section
variable{K:PySem.W.Frag}{tl:TE}{g:TG}{tb:TS}{D:Ends}{σ:St}{H:Hp}
end
section
variable{X:Cx}
noncomputable def OC(K:PySem.W.Frag):R2:=λx y H Q=>∃l k xs,x = .ref l/\y = .int k/\H l=some (.tup xs)/\xs≠[]/\xs.length<=1000/\1<=k/\k<=1000/\∀p H',ak H H'->H' p=some (.tup (List.replicate k.toNat xs).flatten)->Q (.ref p) H'
end
section
variable{K:PySem.W.Frag}{C:Addr}{H H':Hp}{l:Addr}{ps:List Addr}{qs:List Ak}
end
noncomputable abbrev Us:=List (Addr×List Int)
noncomputable def uV(zs:Us):List V:=zs.map λz=>V.ref z.1
noncomputable def Aj(H:Hp)(zs:Us):Prop:=∀z,z∈zs->H z.1=some (.tup (z.2.map V.int))
section
variable{X:Cx}{pins:List (Addr×Obj)}{σ:St}{H:Hp}{s:Shared}
end
section
variable{X:Cx}
noncomputable def OD(K:PySem.W.Frag)(neg:Bool):R2:=λx y H Q=>∃(a p:Addr) (c:List Int) (zs:Us),x = .ref a/\y = .ref p/\H a=some (.tup (c.map V.int))/\aD K H p (uV zs)/\Aj H zs/\
 Q (.bl (if neg then !decide (c∈zs.map (·.2)) else decide (c∈zs.map (·.2)))) H
noncomputable def OE:V->List V->Hp->VK->Prop:=λx vs H Q=>∃(l a:Addr) (zs:Us) (c:List Int),x = .ref l/\vs = [.ref a]/\H l=some (.lst (uV zs))/\Aj H zs/\H a=some (.tup (c.map V.int))/\c∈zs.map (·.2)/\
 ∀(k:Nat) (h:k<zs.length),zs[k].2=c->(∀m (hm:m<zs.length),m<k->zs[m].2≠c)->Q .aC (upd H l (.lst (uV (zs.eraseIdx k))))
end
section
variable{K:PySem.W.Frag}{tl:TE}{g:TG}{tt:TT}{te:TE}{nt:Nat}{fv:List Nat}{Q:VK}{σ:St}{H:Hp}
end
section
variable{prog:Program}{w:World}{A:Around}{E:Value->Shared->Prop}{h:Heap}{g:Array GenState}{d:Drawn}{t:Nat}{os:OsState}
variable{nm q:Str}{C N:Addr}{bs bm cB:List Value}{hdct:Bool}{sn:List Str}{sub:List Value}{ab:Bool}{col:Option Bool}{dd:Option Addr}{k0 k1 k2 k3 k5:Option Value}{B newId dP:String}
theorem Ig(F:ExcBaseFacts B newId dP cB)(T:OwnTail h cB bm){mN:Str->Option Value}{rest:List Value}{fI:Addr}{oI:Obj}{Q:Fin->Shared->Prop}
  (hC:h.get? C=some (excClassObj nm q C N bs bm hdct sn sub ab col dd k0 k1 k2 k3 k5 newId)) (hn:h.Ns N mN) (hi:mN "__init__" = some (.ref fI)) (uz:h.get? fI=some oI) (lV:oI.cls = .type "function")
  (hq:∀h' e,Heap.MadeExcOf h h' e (.ref C) rest->wpAny (model prog w) A (call (.ref fI) (.ref e::rest)) (λr s'=>r = .none/\Q (.done (.ret (.ref e))) s') E ⟨h',g,d,t,os⟩) (hrest:rest.length<=sizeLine) :
  wpAny (model prog w) A (Builtin.«type.__call__» ⟨.ref C::rest,[]⟩) Q E ⟨h,g,d,t,os⟩:=by
 repeat (first | with_reducible refine wpAny_loadPart_at hC ?_ | with_reducible refine wpAny_madeBy_exc hC ?_ | wp_step)
 refine codeAny_call_builtin_code (Code.quiet_builtin _ F.quiet) (wpAny_check_new_subT F T hC ?_);refine codeAny_exc_new_subT F T hC ?_ hrest
 show wpAny _ _ _ _ _ _;generalize hh:(h.push { cls:=.type "tuple",data:=.seq rest.toArray }).push { cls:=.ref C,data:=.fields #[.ref h.objs.size,.none,.none,.none,.bool false,.none] }=h2;have keeps:∀b o,h.get? b=some o->h2.get? b=some o:=λb o e=>by rw[← hh];exact Heap.get?_push_of_some _ (Heap.get?_push_of_some _ e)
 have Al:h2.get? (h.objs.size+1)=some { cls:=.ref C,data:=.fields #[.ref h.objs.size,.none,.none,.none,.bool false,.none] }:=by rw[← hh];heap_get
 have Ih:h2.get? h.objs.size=some { cls:=.type "tuple",data:=.seq rest.toArray }:=by rw[← hh];exact Heap.get?_push_of_some _ (Heap.get?_push_at rfl rfl)
 have Ii:(Value.ref C::bm).contains (.ref C)=true:=by simp
 have lT:=keeps _ _ hC;unfold isInstance
 repeat (first | with_reducible refine wpAny_loadPart_at Al ?_ | (with_reducible refine wpAny_isSubtype_exc lT ?_;rw[Ii]) | wp_step)
 show wpAny _ _ (typeLookup (.ref C) _) _ _ _;refine wpAny_typeLookup_tail lT (hn.keeps keeps) (T.keeps keeps) F.mroIs F.init.lookup ?_;rw[hi];refine wpAny_holding (wpAny_bind ?_);unfold bindSpecial;refine wpAny_bind (wpAny_typeOf (T := "function") ⟨_,keeps _ _ uz,lV⟩ ?_);rw[if_pos (by decide)]
 refine wpAny_pure (wpAny_bind (wpAny_mono (hq h2 (h.objs.size+1) ⟨keeps,Heap.get?_none_of_le (Nat.le_succ _),h.objs.size,Al,Heap.get?_none_of_le (Nat.le_refl _),Ih⟩) (λr s' hr=>?_) λ_ _ x=>x));obtain⟨rfl,hQ⟩:=hr;wp_walk;exact hQ
theorem Ij(F:ExcBaseFacts B newId dP cB)(T:OwnTail h cB bm){mN:Str->Option Value}{rest:List Value}{fI:Addr}{oI:Obj}{Q:Value->Shared->Prop}
  (hC:h.get? C=some (excClassObj nm q C N bs bm hdct sn sub ab col dd k0 k1 k2 k3 k5 newId)) (hn:h.Ns N mN) (hi:mN "__init__" = some (.ref fI)) (uz:h.get? fI=some oI) (lV:oI.cls = .type "function")
  (hq:∀h' e,Heap.MadeExcOf h h' e (.ref C) rest->wpAny (model prog w) (A.under (.builtin "type.__call__" ⟨.ref C::rest,[]⟩)) (call (.ref fI) (.ref e::rest)) (λr s'=>r = .none/\Q (.ref e) s') E ⟨h',g,d,t,os⟩) (hrest:rest.length<=sizeLine) :
  wpAny (model prog w) A (call (.ref C) rest) Q E ⟨h,g,d,t,os⟩:=by
 have f1:=tc_lookup;have f2:=tc_bind (.ref C);have hT:(⟨h,g,d,t,os⟩:Shared).TypeIs (.ref C) "type" := ⟨_,hC,rfl⟩;refine wpAny_call (codeAny_of_tree ?_)
 show wpAny _ _ (callAny (.ref C) _) _ _ _
 repeat (any_goals (first | assumption | with_reducible refine wpAny_loadPart_at hC ?_ | wp_step))
 refine⟨rfl,?_⟩;refine codeAny_call_builtin_at (Code.quiet_builtin _ (by decide +kernel)) entry_typeCall (wpAny_check_type_call_sub hC (Ig (hrest:=hrest) F T hC hn hi uz lV λh' e hm=>?_))
 exact hq h' e hm
theorem Ik{s:Shared}{M:Model}{env:Env}{x:Sem Value}{Q:Flow->Shared->Prop}(lB:bm.contains (.type "BaseException")=true)(hh:A.handled=none)
  (h:wpAny M A x (λv aM=>∃(e:Addr) (od:Option Addr) (vs:Array Value) (sl:Array (Option Value)),v = .ref e/\aM.heap.get? C=some (excClassObj nm q C N bs bm hdct sn sub ab col dd k0 k1 k2 k3 k5 newId)/\
   aM.heap.get? e=some { cls:=.ref C,dict:=od,data:=.fields vs,slots:=sl }/\vs[1]? = some .none/\E (.ref e) aM) E s) :
  wpAny M A (raiseStmt env (some x) none) Q E s:=by
 have uv:(Value.ref C::bm).contains (.type "BaseException")=true:=by rw[List.contains_cons,lB,Bool.or_true]
 unfold raiseStmt;refine wpAny_bind (wpAny_mono h (λv aM eL=>?_) λ_ _ x=>x);obtain⟨e,od,vs,sl,rfl,hC,he,h1,hE⟩:=eL;obtain⟨hp,g,d,tk,os⟩:=aM
 repeat (first | with_reducible refine wpAny_loadPart_at he ?_ | with_reducible refine wpAny_loadPart_at hC ?_ | (with_reducible refine wpAny_isSubtype_exc hC ?_;rw[uv]) | wp_step)
 rw[h1];exact wpAny_pure (by rw[if_neg (by decide)];exact wpAny_pure (wpAny_raiseNew_none hh hE))
end
end _L
namespace _L
open PySem PySem.W PySem.Builtin.ObjectAttr
noncomputable def lW(cB:List Value):List Value->Bool
 | []=>cB == []
 | v::r=>(v::r) == cB || match v with
  | .ref _=>lW cB r
  | _=>false
theorem Am{self:Value}{An:Str}{cB:List Value}(h:refuseLoop self An cB=pure ()):∀ {l:List Value},lW cB l=true->refuseLoop self An l=pure ()
 | [],e=>by have e:=beq_iff_eq.mp e;rw[e] at h;exact h
 | v::r,e=>by
  unfold lW at e;rcases Bool.or_eq_true_iff.mp e with q | q
  ·rw[beq_iff_eq.mp q];exact h
  ·cases v <;> first | (cases q;done) | (rw[refuseLoop_ref];exact Am h q)
structure gY(K:Frag)(C:Addr):Prop where
 sa:findIn K (.ref C) "__setattr__" = some (some (.builtin "object.__setattr__"))
 hd:hasDictIn K C=true
 mro:PySem.W.mroIn K C (.type "object")=some true
 tl:(clsIn K C).any (λcd=>lW [.type "ValueError",.type "Exception",.type "BaseException",.type "object"] cd.mro)=true
section
variable{prog:Program}{w:World}{A:Around}{E:Value->Shared->Prop}{R:Result->Shared->Prop}{s:Shared}{K:Frag}{x C:Addr}{o:Obj}{name:Str}{v:Value}
theorem Il{tk:Tok}(X:K.In s.heap)(hx:s.heap.get? x=some o)(hc:o.cls = .ref C)(S:gY K C)(ht:findIn K (.ref C) name=some none)
  (h:wpAny (model prog w) A.in1 (storeInOwnDict (.ref x) (.ref C) (.str name tk) name v false)
   (λfin s'=>match fin with | .done f=>R (.ok f) s' | .again c'=>c'.quiet=true/\codeAny (model prog w) A c' R s') (λe s'=>R (.error e) s') s) :
  codeAny (model prog w) A (.call (.builtin "object.__setattr__") ⟨[.ref x,.str name tk,v],[]⟩) R s:=by
 have SF:=PySem.F.store_ValueError;obtain⟨cd,bR,ho⟩:=any_some S.tl;have T:Looks (model prog w) s.heap (typeOf (.ref x)) (.ref C):=hc▸(Looks.ld hx).andThen .now;have sub:Looks (model prog w) s.heap (isInstance (.ref x) (.type "object")) true:=T.andThen (looks_mroIn X S.mro);refine codeAny_call_builtin SF.slot.plain SF.entry (@check_slot (model prog w) _ _ s "object.__setattr__" "object" "__setattr__" (.ref x) [.str name tk,v] [] _ SF.kind SF.split sub (SF.args (.ref x) (.str name tk) v) ?_);have hm:Looks (model prog w) s.heap (mroOf (.ref C)) cd.mro:=(looks_clsIn X bR).andThen .now;have L3:Looks (model prog w) s.heap (storeTaker? none) none:=.now;rw[osa_eq,refuse_eq];refine wpAny_bind (wpAny_bind (T.here (wpAny_bind (hm.here ?_))));rw[Am (SF.passes _) ho];refine wpAny_pure (wpAny_bind (T.here (wpAny_bind ((looks_findIn X ht).here (wpAny_bind (L3.here ?_))))));exact h
theorem Ao{Q:Unit->Shared->Prop}(X:K.In s.heap)(hx:s.heap.get? x=some o)(hc:o.cls = .ref C)(S:gY K C)(ht:findIn K (.ref C) name=some none)
  (h:wpAny (model prog w) A.in1 (storeInOwnDict (.ref x) (.ref C) (.str name s.toks) name v false)
   (λfin s'=>match fin with | .done (.ret _)=>Q () s' | _=>False) (λe s'=>False) { s with toks:=s.toks+1 }) :
  wpAny (model prog w) A (setAttr (.ref x) name v) Q E s:=by
 have T:Looks (model prog w) s.heap (typeOf (.ref x)) (.ref C):=hc▸(Looks.ld hx).andThen .now;refine wpAny_bind (wpAny_mkText (wpAny_bind (wpAny_bind (wpAny_bind (T _ _ _ _ (λ_ _ e=>e) (looks_findIn X S.sa _ _ _ _ (λ_ _ e=>e) (wpAny_holding ?_)))))));rw[PySem.F.store_object.slot.bind];refine wpAny_bind (wpAny_pure (wpAny_bind (wpAny_call (codeAny_mono (Il (s:={ s with toks:=s.toks+1 }) (R:=λr s'=>match r with | .ok (.ret _)=>Q () s' | .ok _=>False | .error e=>False) X hx hc S ht (wpAny_mono h (λfin s' z=>?_) λ_ _ z=>z)) λr s' z=>?_))))
 ·rcases fin with(_ | _ | _ | v) | _ <;> first | exact z.elim | exact z
 ·rcases r with e | (v | _ | _ | _) <;> first | exact z.elim | exact wpAny_pure (wpAny_pure z)
theorem Im{Q:Unit->Shared->Prop}{vs:Array Value}{sl:Array (Option Value)}(X:K.In s.heap)(hx:s.heap.get? x=some { cls:=.ref C,dict:=none,data:=.fields vs,slots:=sl })(S:gY K C)(ht:findIn K (.ref C) name=some none)
  (h:∀h' d tk,d=s.heap.objs.size->h'.Ns1 d (λy=>if y=name then some v else none)->h'.get? x=some { cls:=.ref C,dict:=some d,data:=.fields vs,slots:=sl }->(∀b ob,b≠x->s.heap.get? b=some ob->h'.get? b=some ob)->Q () { s with heap:=h',toks:=tk }) :
  wpAny (model prog w) A (setAttr (.ref x) name v) Q E s:=by
 refine Ao X hx rfl S ht ?_;obtain⟨cd,bR,gP⟩:=any_some S.hd;obtain⟨hh,g,dr,t,os⟩:=s;have lU:hh.get? x=some { cls:=.ref C,dict:=none,data:=.fields vs,slots:=sl }:=hx;have Lc:=looks_clsIn (M:=model prog w) X bR;have uA:(hh.push { cls:=.type "dict",data:=.dict #[] }).get? x=some { cls:=.ref C,dict:=none,data:=.fields vs,slots:=sl }:=Heap.get?_push_of_some _ lU;have Aq:x≠hh.objs.size:=Nat.ne_of_lt (Heap.lt_size lU);unfold storeInOwnDict ownDictForStores instanceDict;have jB:Obj.isFreed { cls:=.ref C,dict:=some hh.objs.size,data:=.fields vs,slots:=sl }=false:=rfl;refine wpAny_bind (wpAny_pure (wpAny_bind ?_));refine wpAny_bind (wpAny_loadPart lU (wpAny_bind (Lc.here (s:=⟨hh,g,dr,t+1,os⟩) ?_)));rw[gP]
 show wpAny _ _ (alloc _ >>= λd=>update x _ >>= λ_=>dictMade (.ref C) x d) _ _ _;refine wpAny_bind (wpAny_alloc (wpAny_bind (wpAny_update uA (wpAny_pure ?_))));have Io:((hh.push { cls:=.type "dict",data:=.dict #[] }).update x λo=>{ cls:=o.cls,dict:=some hh.objs.size,data:=o.data,slots:=o.slots }).get? hh.objs.size=some { cls:=.type "dict",data:=.dict #[] } :=
  (Heap.get?_update_ne _ _ _ _ Aq.symm).trans (Heap.get?_push_at rfl rfl)
 have Ip:((hh.push { cls:=.type "dict",data:=.dict #[] }).update x λo=>{ cls:=o.cls,dict:=some hh.objs.size,data:=o.data,slots:=o.slots }).Ns hh.objs.size (λ_=>none):=⟨_,#[],_,Io,rfl,λe he=>absurd he (by simp),λ_=>rfl⟩
 show wpAny _ _ (storeInDict hh.objs.size (.str name t) name v) _ _ _;unfold storeInDict newKeyGuard;refine wpAny_bind (wpAny_pure (wpAny_bind (wpAny_nsSet1 (Heap.Ns1.of_empty Ip) λh' dU hs=>?_)));obtain⟨oD,yh,yi,lg,lq,lu⟩:=dU.count (Within.cons name v Within.nil);refine wpAny_bind (wpAny_lookBehind lg (by rw[lq];exact pastItsLine_dict (Nat.le_trans lu (by rw[List.length_cons,List.length_nil,sizeLine_eq];lia))) ?_)
 refine wpAny_pure (h h' hh.objs.size _ rfl dU ?_ λb ob hb e=>?_)
 ·exact(hs.2 x Aq).trans (Heap.get?_update_self _ uA jB)
 ·exact(hs.2 b (Nat.ne_of_lt (Heap.lt_size e))).trans ((Heap.get?_update_ne _ _ _ _ hb).trans (Heap.get?_push_of_some _ e))
theorem Iq{Q:Unit->Shared->Prop}{d:Addr}{mA:Str->Option Value}{ns:List Str}{vs:Array Value}{sl:Array (Option Value)}(X:K.In s.heap)(hx:s.heap.get? x=some { cls:=.ref C,dict:=some d,data:=.fields vs,slots:=sl })(S:gY K C)(ht:findIn K (.ref C) name=some none)
  (hn:s.heap.Ns1 d mA) (hw:Within mA ns) (hz:ns.length<1000)
  (h:∀h' tk,h'.Ns1 d (λy=>if y=name then some v else mA y)->(∀b,b≠d->h'.get? b=s.heap.get? b)->Q () { s with heap:=h',toks:=tk }) :
  wpAny (model prog w) A (setAttr (.ref x) name v) Q E s:=by
 refine Ao X hx rfl S ht ?_;obtain⟨cd,bR,gP⟩:=any_some S.hd;obtain⟨hh,g,dr,t,os⟩:=s;have Lc:=looks_clsIn (M:=model prog w) X bR;unfold storeInOwnDict ownDictForStores instanceDict;refine wpAny_bind (wpAny_pure (wpAny_bind ?_));refine wpAny_bind (wpAny_loadPart hx (wpAny_bind (Lc.here (s:=⟨hh,g,dr,t+1,os⟩) ?_)));rw[gP]
 show wpAny _ _ (pure (some d)) _ _ _;refine wpAny_pure ?_
 show wpAny _ _ (storeInDict d (.str name t) name v) _ _ _;unfold storeInDict newKeyGuard;refine wpAny_bind (wpAny_pure (wpAny_bind (wpAny_nsSet1 hn λh' dU hs=>?_)));obtain⟨oD,yh,yi,lg,lq,lu⟩:=dU.count (Within.cons name v hw);refine wpAny_bind (wpAny_lookBehind lg (by rw[lq];exact pastItsLine_dict (Nat.le_trans lu (by rw[List.length_cons,sizeLine_eq];lia))) ?_)
 exact wpAny_pure (h h' _ dU hs.2)
end
end _L
namespace _L
open PySem PySem.Spec PyProof.Rows
noncomputable def lX(K:PySem.W.Frag)(C fI:Addr):Bool:=match K.lookup C with
 | some ⟨_,_,.cls cd,_⟩=>PySem.W.nsIn K cd.ns "__init__" == some (some (.ref fI))
 | _=>false
theorem Ir{K:PySem.W.Frag}{h:Heap}{N:Addr}{mg:Str->Option Value}{n:Str}{v:Value}(X:K.In h)(G:h.Ns N mg)(e:PySem.W.nsIn K N n=some (some v)):mg n=some v:=by
 obtain⟨o,es,ep,ho,hd,_,hf⟩:=G;unfold PySem.W.nsIn at e;split at e
 ·rename_i c d nT n' sl q;have:=X _ _ q;rw[ho] at this;cases this;cases hd;rw[← hf n];unfold nsFind findBy;rw[← Array.find?_toList];split at e
  ·rename_i y q';rw[q'];exact Option.some.inj e
  ·split at e <;> cases e
 ·cases e
theorem As{K:PySem.W.Frag}{h₀:Heap}{C fI:Addr}{cB:List Value}{newId:String}(X:K.In h₀)(q:gX K C cB newId=true)(qi:lX K C fI=true) :
  ∃bm N nm q bs hdct sn sub ab col dd k0 k1 k2 k3 k5 mN,h₀.get? C=some (excClassObj nm q C N bs bm hdct sn sub ab col dd k0 k1 k2 k3 k5 newId)/\h₀.Ns N mN/\mN "__init__" = some (.ref fI)/\OwnTail h₀ cB bm:=by
 unfold gX at q;unfold lX at qi;cases e:K.lookup C with
 | none=>rw[e] at q;cases q
 | some o =>
  rw[e] at q qi;split at q
  ·rename_i dd cd sl ho;cases ho;split at q
   ·rename_i C' bm k0 k1 k2 k3 n k5 hm hs;simp only[Bool.and_eq_true,beq_iff_eq,Bool.not_eq_true'] at q qi;obtain⟨⟨⟨⟨c1,c2⟩,c3⟩,c4⟩,c5⟩:=q;obtain⟨nm,bs,mro,ns,qn,hd,sn,sub,ab,col,del⟩:=cd;obtain⟨l⟩:=sl;dsimp only at hm hs c3 c5 qi;subst c1 c2 hm c3 hs;have hN:h₀.Ns ns (h₀.nsMap ns):=.of_isNs (PySem.W.isNs_of_in X c5);exact⟨bm,ns,nm,qn,bs,hd,sn,sub,ab,col,dd,k0,k1,k2,k3,k5,_,X _ _ e,hN,Ir X hN qi,PySem.W.tail_of_in X c4⟩
   ·cases q
  ·cases q
noncomputable def cV(a C:Addr)(od:Option Addr):HO:=.ext λh=>∃(vs:Array Value) (sl:Array (Option Value)),h.get? a=some { cls:=.ref C,dict:=od,data:=.fields vs,slots:=sl }/\(vs[1]? = some .none/\vs[2]? = some .none/\4<vs.size)/\∃a0,vs[0]? = some a0
noncomputable def c8(d:Addr)(fs:List (Str×V)):HO:=.ext λh=>∃mA,h.Ns1 d mA/\∀f,cJ (fs.lookup f) (mA f)
section
variable{P:Program}{w:World}{H:Hp}{h:Heap}{a C d:Addr}{od:Option Addr}{fs:List (Str×V)}
theorem uB{vs:Array Value}{sl:Array (Option Value)}{a0:Value}(e:h.get? a=some { cls:=.ref C,dict:=od,data:=.fields vs,slots:=sl })(h1:vs[1]? = some .none/\vs[2]? = some .none/\4<vs.size)(h0:vs[0]? = some a0):bu P w H h a (cV a C od) :=
 ⟨⟨vs,sl,e,h1,a0,h0⟩,⟨_,e⟩,λ_ _ ⟨vs,sl,q,z⟩ k=>⟨vs,sl,k _ q,z⟩⟩
theorem Au{mA:Str->Option Value}(n:h.Ns1 d mA)(r:∀f,cJ (fs.lookup f) (mA f)):bu P w H h d (c8 d fs) :=
 ⟨⟨mA,n,r⟩,let ⟨o,_,_,e,_⟩:=n;⟨o,e⟩,λ_ _ ⟨mA,⟨o,es,ep,e,c⟩,r⟩ k=>⟨mA,⟨o,es,ep,k _ e,c⟩,r⟩⟩
theorem pM(ok:bw P w H h)(e:H a=some (cV a C od)):∃(vs:Array Value) (sl:Array (Option Value)),h.get? a=some { cls:=.ref C,dict:=od,data:=.fields vs,slots:=sl }/\(vs[1]? = some .none/\vs[2]? = some .none/\4<vs.size)/\∃a0,vs[0]? = some a0:=by
 obtain⟨z,_,_⟩:=(show bu P w H h a (cV a C od) from ok a _ e);exact z
theorem Av(ok:bw P w H h)(e:H d=some (c8 d fs)):∃mA,h.Ns1 d mA/\∀f,cJ (fs.lookup f) (mA f):=by
 obtain⟨z,_,_⟩:=(show bu P w H h d (c8 d fs) from ok d _ e);exact z
end
theorem lookup_none{f:Str}:∀ {fs:List (Str×V)},f∉fs.map (·.1)->fs.lookup f=none
 | [],_=>rfl
 | (g,x)::r,h=>by
  rw[List.map_cons,List.mem_cons,not_or] at h;have hb:(f == g)=false:=beq_eq_false_iff_ne.mpr h.1;simp only[List.lookup,hb];exact lookup_none h.2
theorem Within.Iu{fs:List (Str×V)}{mA:Str->Option Value}(r:∀f,cJ (fs.lookup f) (mA f)):PySem.Within mA (fs.map (·.1)):=λf h=>by
 by_cases m:f∈fs.map (·.1)
 ·exact m
 ·exact absurd (cJ.none_of (by rw[← lookup_none m];exact r f)) h
section
variable{X:Cx}{pins:List (Addr×Obj)}{σ:St}{H:Hp}{s:Shared}{a C d:Addr}{od:Option Addr}{fs:List (Str×V)}{f:Str}{A:Around}{E:Value->Shared->Prop}
theorem Inv.Aw{o:HO}(I:Inv X pins σ H s)(n:H a=none)(e0:X.aX.heap.get? a=none)(nL:a≠X.env.locals)(nc:∀x c,X.env.cells.lookup x=some c->c≠a)(np:∀p∈X.pn++pins,p.1≠a)(new:bu X.prog X.w (upd H a o) s.heap a o):Inv X pins σ (upd H a o) s:=by
 have ne:∀b v,H b=some v->b≠a:=λb v q z=>by rw[z,n] at q;cases q
 have up:∀b v,H b=some v->upd H a o b=some v:=λb v q=>by rw[aG (ne b v q)];exact q
 have un:∀b,b≠a->H b=none->upd H a o b=none:=λb z q=>by rw[aG z];exact q
 refine⟨I.ok,I.os,I.bare,⟨I.base.keep,I.base.slot,λb o q n' hx=>un b (λz=>by rw[z,e0] at q;cases q) (I.base.free b o q n' hx),I.base.there,λb xs q=>up b _ (I.base.eo b xs q),λb o u q=>up b _ (I.base.dR b o u q),λb ps q=>let ⟨m,z⟩:=I.base.eu b ps q;⟨m,up b _ z⟩⟩,
  I.loc,I.cell,un _ (Ne.symm nL) I.free,λx c q=>un c (nc x c q) (I.dJ x c q),λp hp=>let ⟨q1,q2,q3⟩:=I.pin p hp;⟨q1,un _ (np p hp) q2,q3⟩,λb v q=>?_,I.len⟩
 by_cases z:b=a
 ·subst z;rw[aF] at q;cases q;exact new
 ·rw[aG z] at q;exact(I.aB b v q).fj (λ_ _ _ e=>e) (λd e=>up d _ e) λd xs e=>up d _ e
theorem Iv{y:V}{u:Value}{Q:Unit->Shared->Prop}(I:Inv X pins σ H s)(ea:H a=some (cV a C none))(S:gY X.K C)(n:cE X.K C f)(ry:RelV y u)
  (h:∀d s',H d=none->Inv X pins σ (upd (upd H a (cV a C (some d))) d (c8 d [(f,y)])) s'->Q () s'):wpAny (model X.prog X.w) A (setAttr (.ref a) f u) Q E s:=by
 obtain⟨vs,sl,e,h1,a0,h0⟩:=pM I.aB ea;refine Im I.bx e S n λh' d tk ed hn lY kp=>?_;have nd:H d=none:=I.aB.fresh (by rw[ed];exact Nat.le_refl _)
 have da:d≠a:=λz=>by rw[z,ea] at nd;cases nd
 have old:∀b o,s.heap.get? b=some o->b≠d:=λb o q=>by rw[ed];exact Nat.ne_of_lt (Heap.lt_size q)
 have I1:Inv X pins σ (upd H a (cV a C (some d))) { s with heap:=h',toks:=tk }:=I.write (x:=a) (e:=a) (by rw[ea];exact True.intro) (.inl rfl) (λb o hb q=>kp b o hb q) ⟨_,lY⟩ (uB lY h1 h0)
 obtain⟨m,⟨oL,_,_,iu,_⟩,_⟩:=I.loc;refine h d _ nd (I1.Aw (by rw[aG da];exact nd) ?_ (Ne.symm (old _ _ iu)) (λy c e=>?_) (λp hp=>old _ _ (I.pin p hp).1) (Au hn λg=>?_))
 ·cases q:X.aX.heap.get? d with
  | none=>rfl
  | some o =>
   have h1:=Heap.lt_size q;have h2:=I.ok.above;have h3:=Heap.lt_size iu;rw[ed] at h1;exact absurd (Nat.lt_of_lt_of_le h1 h2) (Nat.lt_asymm h3)
 ·obtain⟨v,o,q,_⟩:=I.cell y c e;exact old _ _ q
 ·show cJ (List.lookup g [(f,y)]) (if g=f then some u else none)
  by_cases q:g=f
  ·have hb:(g == f)=true:=beq_iff_eq.mpr q;simp only[List.lookup,hb,if_pos q];exact ry
  ·have hb:(g == f)=false:=beq_eq_false_iff_ne.mpr q;simp only[List.lookup,hb,if_neg q];exact True.intro
theorem Iw{y:V}{u:Value}{Q:Unit->Shared->Prop}(I:Inv X pins σ H s)(ea:H a=some (cV a C (some d)))(ed:H d=some (c8 d fs))(S:gY X.K C)(n:cE X.K C f)(hl:fs.length<1000)(ry:RelV y u)
  (h:∀s',Inv X pins σ (upd H d (c8 d (cS f y fs))) s'->Q () s'):wpAny (model X.prog X.w) A (setAttr (.ref a) f u) Q E s:=by
 obtain⟨vs,sl,e,h1,a0,h0⟩:=pM I.aB ea;obtain⟨mA,hn,r⟩:=Av I.aB ed;refine Iq I.bx e S n hn (Within.Iu r) (by rw[List.length_map];exact hl) λh' tk dU kp=>h _ ?_
 have gP:∃o,h'.get? d=some o:=let ⟨o,_,_,e',_⟩:=dU;⟨o,e'⟩
 refine I.write (x:=d) (e:=d) (by rw[ed];exact True.intro) (.inl rfl) (λb o hb q=>(kp b hb).trans q) gP (Au dU λg=>?_)
 rw[sL];by_cases q:g=f
 ·rw[if_pos q,if_pos q];exact ry
 ·rw[if_neg q,if_neg q];exact r g
end
noncomputable def Iz(K:PySem.W.Frag)(ta tv:TE)(f:Str):TS:=λD σ H=>tv σ H λy H1=>ta σ H1 λx H2=>∃a C,x = .ref a/\H2 a=some (cV a C none)/\gY K C/\cE K C f/\∀d,H2 d=none->D.nx σ (upd (upd H2 a (cV a C (some d))) d (c8 d [(f,y)]))
noncomputable def IA(K:PySem.W.Frag)(ta tv:TE)(f:Str):TS:=λD σ H=>tv σ H λy H1=>ta σ H1 λx H2=>∃a C d fs,x = .ref a/\H2 a=some (cV a C (some d))/\H2 d=some (c8 d fs)/\gY K C/\cE K C f/\fs.length<1000/\D.nx σ (upd H2 d (c8 d (cS f y fs)))
section
variable{X:Cx}{o value:Expr}{f:Str}{pos pos':Pos}{ta tv:TE}
theorem IB(ha:PE X o ta)(hv:PE X value tv)(hs:swapsWith value (some (.Attribute o f pos')) pos.line X.env=pure false):PS X (.Assign [.Attribute o f pos'] value pos) (Iz X.K ta tv f):=by
 intro pins s σ H D I h;refine plainObj_wpAny_Assign_Attribute (aI (hv pins s σ H _ I h) λu s1 ⟨y,H1,I1,ry,q⟩=>aI (ha pins s1 σ H1 _ I1 q) λov s2 ⟨x,H2,I2,rx,a,C,ex,ea,S,n,q2⟩=>?_) hs;subst ex;obtain rfl:ov=Value.ref a:=rx;exact Iv I2 ea S n ry λd s3 nd I3=>⟨σ,_,I3,q2 d nd⟩
theorem IC(ha:PE X o ta)(hv:PE X value tv)(hs:swapsWith value (some (.Attribute o f pos')) pos.line X.env=pure false):PS X (.Assign [.Attribute o f pos'] value pos) (IA X.K ta tv f):=by
 intro pins s σ H D I h;refine plainObj_wpAny_Assign_Attribute (aI (hv pins s σ H _ I h) λu s1 ⟨y,H1,I1,ry,q⟩=>aI (ha pins s1 σ H1 _ I1 q) λov s2 ⟨x,H2,I2,rx,a,C,d,fs,ex,ea,ed,S,n,l,q2⟩=>?_) hs;subst ex;obtain rfl:ov=Value.ref a:=rx;exact Iw I2 ea ed S n l ry λs3 I3=>⟨σ,_,I3,q2⟩
end
structure Ax(K:PySem.W.Frag)(C:Addr)(m:Str)(id:String):Prop where
 ga:PySem.W.specialIn K (.ref C) "__getattribute__" = some (some (.builtin "type.__getattribute__"))
 rd:PySem.W.readsIn K C (.type "type")=true
 at_:PySem.W.findCls K (.ref C) (.type "type") m=some (.val (.builtin id))
 hh:PySem.W.handedIn (.builtin id)=true
theorem ID{M:Model}{A:Around}{E:Value->Shared->Prop}{s:Shared}{env:Env}{pos:Pos}{id:String}{first:List Value}{Q:Value->Shared->Prop}{e:Expr}{rest:List Expr}
  (h:wpAny M A (spliced (backTo pos (starEach (e::rest) env))) (λvs aM=>wpAny M A (call (.builtin id) (first++vs)) Q E aM) E s)
  (he:starEach (e::rest) env=(false,eval e env)::starEach rest env) (lC:(backTo pos (starEach rest env)).any (·.1)=false) :
  wpAny M A (callWith pos (.builtin id) first (backTo pos (starEach (e::rest) env)) []) Q E s:=by
 rw[he] at h ⊢;exact PySem.W.callWith_of (P:=λ_=>True) (by show ((false || (backTo pos (starEach rest env)).any (·.1)) || false)=false;rw[lC];rfl) (λh _=>⟨.machine,.inr (.inl rfl),.now⟩) (Calls.evalArgs_plain (wpAny_mono h (λvs aM z=>⟨trivial,z⟩) λ_ _ z=>z))
section
variable{prog:Program}{w:World}{A:Around}{E:Value->Shared->Prop}{h:Heap}{g:Array GenState}{d:Drawn}{t:Nat}{os:OsState}
variable{nm q:Str}{C N e:Addr}{bs bm cB:List Value}{hdct:Bool}{sn:List Str}{sub:List Value}{ab:Bool}{col:Option Bool}{dd:Option Addr}{k0 k1 k2 k3 k5:Option Value}{B newId dP:String}
theorem IE(F:ExcBaseFacts B newId dP cB)(T:OwnTail h cB bm){rest:List Value}{od:Option Addr}{vs:Array Value}{sl:Array (Option Value)}{a0:Value}{Q:Value->Shared->Prop}
  (hC:h.get? C=some (excClassObj nm q C N bs bm hdct sn sub ab col dd k0 k1 k2 k3 k5 newId)) (he:h.get? e=some { cls:=.ref C,dict:=od,data:=.fields vs,slots:=sl }) (h0:vs[0]? = some a0) (hrest:rest.length<=sizeLine)
  (hq:Q .none ⟨(h.push { cls:=.type "tuple",data:=.seq rest.toArray }).update e (Obj.mapFields (·.setIfInBounds 0 (.ref h.objs.size))),g,d,t,os⟩) :
  wpAny (model prog w) A (call (.builtin dP) (.ref e::rest)) Q E ⟨h,g,d,t,os⟩:=by
 refine wpAny_call (codeAny_call_builtin F.init.plain F.initEntry (wpAny_check_init_subT F T hC he rfl ?_));have hz:0<vs.size:=(Array.getElem?_eq_some_iff.mp h0).1;wp_walk;rw[h0];refine wpAny_pure (wpAny_bind (wpAny_setField (Heap.get?_push_of_some _ he) rfl hz ?_));cases a0 <;> (wp_walk;exact hq)
end
noncomputable def IF(K:PySem.W.Frag)(bm:List Value)(newId:String)(t:TA):TE:=λσ H Q=>t σ H λvs H1=>∃a C fI ws,vs = .ref a::ws/\H1 a=some (cV a C none)/\gX K C bm newId=true/\lX K C fI=true/\ws.length<=sizeLine/\Q .aC H1
section
variable{X:Cx}{x:Str}{C0:Addr}{bm:List Value}{newId dP B:String}{p pos apos:Pos}{e:Expr}{es:List Expr}{t:TA}
theorem IG{pl:Sem Bool}(hg:Gl X x)(hm:X.mg x=some (.ref C0))(c:Ax X.K C0 "__init__" dP)(FB:ExcBaseFacts B newId dP bm)(ha:PA X (e::es) t)
  (fU:starEach (e::es) X.env=(false,eval e X.env)::starEach es X.env:=by rfl) (dg:(backTo pos (starEach es X.env)).any (·.1)=false:=by rfl) (eZ:(x == ("__debug__" : Str))=false:=by decide)
  (ht:eval (.Call (.Attribute (.Name x p) "__init__" apos) (e::es) [] pos) X.env=(do
   let ov ← eval (.Name x p) X.env
   standAt apos.atName
   let (f,first) ← holding [ov] (getMethod ov "__init__" pl)
   callWith pos f first (backTo pos (starEach (e::es) X.env)) (backToKw pos (keywordEach [] X.env))):=by rfl) :
  PE X (.Call (.Attribute (.Name x p) "__init__" apos) (e::es) [] pos) (IF X.K bm newId t):=by
 intro pins s σ H Q I h;refine PySem.W.methodCall_KW (pl:=pl) (j0 I hg hm ?_ eZ) ht;refine PySem.W.method_cls I.bx c.ga (PySem.W.cls_value I.bx c.rd c.at_ c.hh ?_);have I':=I.tok (s.toks+1);refine ID (first:=[]) (aI (ha pos pins _ σ H _ I' h) λus s2 ⟨vs,H2,I2,r,a,C,fI,ws,ev,ea,q,qi,hz,q2⟩=>?_) fU dg
 subst ev;obtain⟨uC,sl,ex,h1,a0,h0⟩:=pM I2.aB ea;obtain⟨tl,N,nm,qn,bs,hdct,sn,sub,ab,col,dd,k0,k1,k2,k3,k5,mN,hC,hN,hi,T⟩:=As I2.bx q qi;cases r with
 | @cons _ u _ Ay ru r =>
  obtain rfl:u=Value.ref a:=ru;obtain⟨hh,g,d,tk,os⟩:=s2;have jB:Obj.isFreed { cls:=.ref C,dict:=none,data:=.fields (uC.setIfInBounds 0 (.ref hh.objs.size)),slots:=sl }=false:=rfl;have lY:((hh.push { cls:=.type "tuple",data:=.seq Ay.toArray }).update a (Obj.mapFields (·.setIfInBounds 0 (.ref hh.objs.size)))).get? a=some { cls:=.ref C,dict:=none,data:=.fields (uC.setIfInBounds 0 (.ref hh.objs.size)),slots:=sl } :=
   Heap.get?_update_self _ (Heap.get?_push_of_some _ ex) jB
  have I3:Inv X pins σ (upd H2 a (cV a C none)) ⟨(hh.push { cls:=.type "tuple",data:=.seq Ay.toArray }).update a (Obj.mapFields (·.setIfInBounds 0 (.ref hh.objs.size))),g,d,tk,os⟩:=by
   refine I2.write (x:=a) (e:=a) (t':=tk) (by rw[ea];exact True.intro) (.inl rfl) (λb o hb q=>?_) ⟨_,lY⟩ (uB lY ?_ (a0:=.ref hh.objs.size) ?_)
   ·rw[Heap.get?_update_other _ _ (Ne.symm hb)];exact Heap.get?_push_of_some _ q
   ·rw[Array.getElem?_setIfInBounds_ne (by decide),Array.getElem?_setIfInBounds_ne (by decide),Array.size_setIfInBounds];exact h1
   ·have hz:0<uC.size:=(Array.getElem?_eq_some_iff.mp h0).1;simp[hz]
  have eH:upd H2 a (cV a C none)=H2:=by
   funext b
   by_cases z:b=a
   ·subst z;rw[aF];exact ea.symm
   ·exact aG z
  rw[eH] at I3;exact IE FB T hC ex h0 (by rw[← r.length];exact hz) ⟨.aC,H2,I3,rfl,q2⟩
end
section
variable{prog:Program}{w:World}{A:Around}{E:Value->Shared->Prop}{s:Shared}{env:Env}
variable{nm q:Str}{C N:Addr}{bs bm cB:List Value}{hdct:Bool}{sn:List Str}{sub:List Value}{ab:Bool}{col:Option Bool}{dd:Option Addr}{k0 k1 k2 k3 k5:Option Value}{B newId dP:String}
noncomputable def II(C:Addr)(E:Value->Shared->Prop)(v:Value)(aM:Shared):Prop:=∃(e:Addr) (od:Option Addr) (vs:Array Value) (sl:Array (Option Value)),v = .ref e/\aM.heap.get? e=some { cls:=.ref C,dict:=od,data:=.fields vs,slots:=sl }/\vs[1]? = some .none/\E (.ref e) aM
theorem IJ{x:Str}{np bG pos:Pos}{args:List Expr}{Q:Flow->Shared->Prop}(lB:bm.contains (.type "BaseException")=true)(hh:A.handled=none)(lC:(backTo bG (starEach args env)).any (·.1)=false)
  (h:wpAny (model prog w) A (eval (.Name x np) env) (λf aM=>f = .ref C/\wpAny (model prog w) A (evalArgs (.ref C) true (backTo bG (starEach args env)) [])
   (λa dM=>a.kw = []/\dM.heap.get? C=some (excClassObj nm q C N bs bm hdct sn sub ab col dd k0 k1 k2 k3 k5 newId)/\wpAny (model prog w) A (call (.ref C) a.pos) (λv eK=>eK.heap.get? C=some (excClassObj nm q C N bs bm hdct sn sub ab col dd k0 k1 k2 k3 k5 newId)/\II C E v eK) E dM) E aM) E s) :
  wpAny (model prog w) A (exec (.Raise (some (.Call (.Name x np) args [] bG)) none pos) env) Q E s:=by
 rw[arm_exec_Raise];refine wpAny_bind (wpAny_standAt (Ik (C:=C) (nm:=nm) (q:=q) (N:=N) (bs:=bs) (bm:=bm) (hdct:=hdct) (sn:=sn) (sub:=sub) (ab:=ab) (col:=col) (dd:=dd) (k0:=k0) (k1:=k1) (k2:=k2) (k3:=k3) (k5:=k5) (newId:=newId) lB hh (wpAny_bind (wpAny_mono (wpAny_Call_ofName (wpAny_mono h (λf aM eL=>?_) λ_ _ x=>x)) (λv eK oW=>wpAny_bind (wpAny_standAt (wpAny_pure oW))) λ_ _ x=>x))));obtain⟨rfl,eL⟩:=eL;unfold callWith;refine wpAny_bind (wpAny_holding (wpAny_mono eL (λa dM jt=>wpAny_bind (wpAny_standAt ?_)) λ_ _ x=>x));obtain⟨apos,IK⟩:=a;obtain⟨IL,hC,jt⟩:=jt;obtain rfl:IK = []:=IL;obtain⟨hp,g,d,tk,os⟩:=dM;simp only[lC];refine wpAny_bind (wpAny_keeperOf_exc hC ?_);refine wpAny_bind (wpAny_mono jt (λv eK z=>wpAny_bind (wpAny_holding (wpAny_point (wpAny_pure ?_)))) λ_ _ z=>z);obtain⟨IM,e,od,vs,sl,rfl,he,h1,hE⟩:=z;exact⟨e,od,vs,sl,rfl,IM,he,h1,hE⟩
end
noncomputable def gZ(H:Hp)(a:Addr):Hp:=λb=>if b=a then none else H b
theorem pN{H:Hp}{a:Addr}:gZ H a a=none:=by unfold gZ;rw[if_pos rfl]
theorem pO{H:Hp}{a b:Addr}(h:b≠a):gZ H a b=H b:=by unfold gZ;rw[if_neg h]
theorem Inv.drop{X:Cx}{pins:List (Addr×Obj)}{σ:St}{H:Hp}{s:Shared}{a:Addr}{φ:Heap->Prop}(I:Inv X pins σ H s)(e:H a=some (.ext φ)):Inv X pins σ (gZ H a) s:=by
 have ne:∀b v,H b=some v->(∀ψ,v≠.ext ψ)->b≠a:=λb v q n z=>by rw[z,e] at q;exact n φ (Option.some.inj q).symm
 have up:∀b v,H b=some v->(∀ψ,v≠.ext ψ)->gZ H a b=some v:=λb v q n=>by rw[pO (ne b v q n)];exact q
 have un:∀b,H b=none->gZ H a b=none:=λb q=>by
  by_cases z:b=a
  ·rw[z];exact pN
  ·rw[pO z];exact q
 refine⟨I.ok,I.os,I.bare,⟨I.base.keep,I.base.slot,λb o q n hx=>un b (I.base.free b o q n hx),I.base.there,λb xs q=>up b _ (I.base.eo b xs q) (λ_ z=>nomatch z),λb o u q=>up b _ (I.base.dR b o u q) (λ_ z=>nomatch z),λb ps q=>let ⟨m,z⟩:=I.base.eu b ps q;⟨m,up b _ z (λ_ z=>nomatch z)⟩⟩,
  I.loc,I.cell,un _ I.free,λx c q=>un c (I.dJ x c q),λp hp=>let ⟨q1,q2,q3⟩:=I.pin p hp;⟨q1,un _ q2,q3⟩,λb v q=>?_,I.len⟩
 have hb:b≠a:=λz=>by rw[z,pN] at q;cases q
 rw[pO hb] at q;exact(I.aB b v q).fj (λ_ _ _ e=>e) (λd e=>up d _ e λ_ z=>nomatch z) λd xs e=>up d _ e λ_ z=>nomatch z
noncomputable def Az(X:Cx)(E:XK):Prop:=∀(pins:List (Addr×Obj)) (σ:St) (H:Hp) (s:Shared) (a C:Addr) (od:Option Addr) (vs:Array Value) (sl:Array (Option Value)) (a0:Value),Inv X pins σ H s->H a=none->X.aX.heap.get? a=none->
 s.heap.get? a=some { cls:=.ref C,dict:=od,data:=.fields vs,slots:=sl }->(vs[1]? = some .none/\vs[2]? = some .none/\4<vs.size)->vs[0]? = some a0->E (.ref C) (od.map (2 * ·)) H->X.xe (.ref a) s
section
variable{P:Program}{w:World}{K:PySem.W.Frag}{mg:Str->Option Value}{base:Heap}{N:List Str}{qual:Str}{scope:Scope}{f:Addr}{cd:Value}{A:Around}{outer:List Env}{aX:Shared}{fL:Hp}{E:XK}
theorem AA:Az (fW (gW P w base) P w K mg base N qual scope f cd A outer aX fL E) E:=by
 intro pins σ H' s' a C od vs sl a0 I na n0 he h1 h0 hE
 show wpAny _ _ (leaving _ _) _ _ _;have fr:s'.heap.FunFrames base (envOfC qual scope aX.heap.objs.size f cd::outer):=I.stack;have free:∀b∈bC (envOfC qual scope aX.heap.objs.size f cd::outer),H' b=none:=λb hb=>by
  rw[zQ] at hb;rcases List.mem_cons.mp hb with rfl | hb
  ·exact I.free
  ·obtain⟨_,o,q,_⟩:=I.ok.dI.mem hb;exact I.base.free b o q (I.ok.fO b hb) (by simp[fW])
 have n0:aX.heap.get? a=none:=n0;have ba:base.get? a=none:=by
  cases q:base.get? a with
  | none=>rfl
  | some o =>
   have:=(I.ok.bs a o q).1;exact absurd (n0.symm.trans this) (by intro z;cases z)
 have nb:∀b o,base.get? b=some o->b∉a::bC (envOfC qual scope aX.heap.objs.size f cd::outer):=λb o q hm=>by
  rcases List.mem_cons.mp hm with rfl | hm
  ·rw[ba] at q;cases q
  ·have z:=(fr.mem hm).1;rw[q] at z;cases z
 generalize hB:PySem.W.hideAll s'.heap (a::bC (envOfC qual scope aX.heap.objs.size f cd::outer))=B;have kB:∀b o,B.get? b=some o->s'.heap.get? b=some o:=λb o q=>by rw[← hB] at q;exact PySem.W.of_hideAll _ q
 have kA:∀b o,s'.heap.get? b=some o->b≠a->b∉bC (envOfC qual scope aX.heap.objs.size f cd::outer)->B.get? b=some o:=λb o q z hb=>by
  rw[← hB];exact PySem.W.hideAll_get _ q λhm=>(List.mem_cons.mp hm).elim z hb
 have st:base.StaysIn B:=λb o q=>by rw[← hB];exact PySem.W.hideAll_get _ (I.bk b o q) (nb b o q)
 have Ba:B.get? a=none:=by rw[← hB];exact PySem.W.hideAll_none _ (.head _)
 refine G5 (s:=s') (e:=a) (base:=B) (a0:=a0) I.ok.frames rfl kB (by rw[← hB];exact PySem.W.funFrames_hide fr λenv he b hb=>.tail _ (List.mem_filterMap.mpr ⟨env,he,hb⟩)) he Ba rfl h1.1 h0 (od:=od.map (2 * ·)) ⟨_,he,by cases od <;> simp,λ_ _ _=>h1.2.1⟩ λh' dh up hd=>?_
 have jE:Un (bC outer) [] fL H' aX.heap s'.heap:=I.base;have nl:∀b o,aX.heap.get? b=some o->b∉bC outer->b∉bC (envOfC qual scope aX.heap.objs.size f cd::outer):=λb o q n z=>by
  rw[zQ] at z;rcases List.mem_cons.mp z with e | z
  ·exact absurd (Heap.lt_size q) (by rw[e];exact Nat.lt_irrefl _)
  ·exact n z
 have AB:∀b o,aX.heap.get? b=some o->b≠a:=λb o q z=>by rw[z,n0] at q;cases q
 have k1:∀b o,aX.heap.get? b=some o->fL b=none->b∉bC outer->B.get? b=some o:=λb o q n hb=>kA b o (jE.keep b o q n hb (by simp)) (AB b o q) (nl b o q hb)
 have k3:∀b o,aX.heap.get? b=some o->b∉bC outer->∃o',B.get? b=some o':=λb o q hb =>
  let ⟨o1,q1⟩:=jE.there b o q (by simp);⟨o1,kA b o1 q1 (AB b o q) (nl b o q hb)⟩
 have k2:∀b u,H' b=some u->∃o,B.get? b=some o:=λb u e =>
  let ⟨o,q⟩:=I.aB.there e;⟨o,kA b o q (λz=>by rw[z,na] at e;cases e) λhm=>by rw[free b hm] at e;cases e⟩
 have slt:∀b o,aX.heap.get? b=some o->fL b=none->b∈bC outer->∃sl,h'.get? b=some { o with slots:=sl }:=λb o q n hb=>by
  obtain⟨sl,q1⟩:=jE.slot b o q n hb (by simp)
  obtain⟨_,o2,q2,nf⟩:=I.ok.dI.mem hb;have q2:aX.heap.get? b=some o2:=q2;rw[q] at q2;cases q2;obtain⟨uo,q3⟩:=up b _ q1 nf;exact⟨uo,q3⟩
 refine⟨a,C,a0,H',B,od.map (2 * ·),rfl,I.os,I.bare,⟨λb o q n hb _=>dh.1 _ _ (k1 b o q n hb),λb o q n hb _=>slt b o q n hb,jE.free,λb o q _=>?_,jE.eo,jE.dR,jE.eu⟩,λb v e=>?_,na,n0,⟨st,k1,k2,k3⟩,dh,hd,hE⟩
 ·by_cases hb:b∈bC outer
  ·obtain⟨sl,q1⟩:=slt b o q (I.ok.fO b hb) hb;exact⟨_,q1⟩
  ·obtain⟨o',q1⟩:=k3 b o q hb;exact⟨o',dh.1 _ _ q1⟩
 ·refine(I.aB b v e).fj (λd z hd q=>?_) (λ_ q=>q) λ_ _ q=>q;have tr:∃v',H' d=some v':=by
   rcases hd with rfl | hd
   ·exact⟨_,e⟩
   ·exact⟨_,hd⟩
  obtain⟨v',e'⟩:=tr;obtain⟨o,q1⟩:=k2 d v' e';have:=kB d o q1;rw[q] at this;cases this;exact dh.1 _ _ q1
end
noncomputable def uD(C:Addr)(names:List Str):Sp:=λws H Q _=>∃a vs,ws = .ref a::vs/\vs.length=names.length/\H a=some (cV a C none)/\∀d,H d=none->Q .aC (upd (upd H a (cV a C (some d))) d (c8 d (names.zip vs)))
structure AD(K:PySem.W.Frag)(C fI:Addr)(bm:List Value)(newId:String):Prop where
 ok:gX K C bm newId=true
 AE:lX K C fI=true
 fn:PySem.W.typeIn K (.ref fI)=some (.type "function")
noncomputable def IP(C:Addr)(names:List Str)(bf:List V)(E:XK)(t:TA):TS:=λ_ σ H=>t σ H λvs H1=>vs.length<=sizeLine/\(vs++bf).length=names.length/\∀d,H1 d=none->E (.ref C) (some (2*d)) (upd H1 d (c8 d (names.zip (vs++bf))))
section
variable{X:Cx}{E:XK}{x:Str}{C fI:Addr}{bm:List Value}{newId dP B:String}{np bG pos:Pos}{jC:Expr}{rest:List Expr}{t:TA}{k:Nat}{fd:FuncData}{ps names:List Str}{bf:List V}{ds:List Value}
theorem AF(hx:Az X E)(hg:Gl X x)(hm:X.mg x=some (.ref C))(q:AD X.K C fI bm newId)(FB:ExcBaseFacts B newId dP bm)(hc:X.calm=true)(hex:X.ex = [])(F:bh X.prog X.w X.K X.mg X.base bL k fI fd ps (uD C names))(hr:bK (k+1) X.A)(hb:Binds X.K fd ps ds)(hd:Vals bf ds)
  (ha:PA X (jC::rest) t) (he:starEach (jC::rest) X.env=(false,eval jC X.env)::starEach rest X.env:=by rfl) (dg:(backTo bG (starEach rest X.env)).any (·.1)=false:=by rfl) (eZ:(x == ("__debug__" : Str))=false:=by rfl) :
  PS X (.Raise (some (.Call (.Name x np) (jC::rest) [] bG)) none pos) (IP C names bf E t):=by
 intro pins s σ H D I h;obtain⟨tl,N,nm,qn,bs,hdct,sn,sub,ab,col,dd,k0,k1,k2,k3,k5,mN,hC,hN,hi,T⟩:=As I.mod.iX q.ok q.AE;refine IJ (C:=C) (nm:=nm) (q:=qn) (N:=N) (bs:=bs) (bm:=tl) (hdct:=hdct) (sn:=sn) (sub:=sub) (ab:=ab) (col:=col) (dd:=dd) (k0:=k0) (k1:=k1) (k2:=k2) (k3:=k3) (k5:=k5) (newId:=newId)
  (T.hasType FB.hasBase) (I.ok.hd hc) (by rw[he];show (false || (backTo bG (starEach rest X.env)).any (·.1))=false;rw[dg];rfl) (j0 I hg hm ⟨rfl,?_⟩ eZ)
 have hA:=ha bG pins s σ H _ I h;rw[he] at hA ⊢;refine Calls.evalArgs_plain (wpAny_mono hA (λus dM jt=>?_) λ_ _ y=>y);obtain⟨vs,H1,J,r,hl,hn,hE⟩:=jt;refine⟨rfl,J.bk _ _ hC,?_⟩
 show wpAny _ _ (call (.ref C) us) _ _ dM;obtain⟨oI,IQ,lV⟩:∃oI,dM.heap.get? fI=some oI/\oI.cls = .type "function" := by
  obtain⟨o,ho,e⟩:=Option.map_eq_some_iff.mp q.fn;exact⟨o,J.bx _ _ ho,e⟩
 have IS:=λ(b:Addr) (z:dM.heap.get? b=none)=>(show H1 b=none from by
  cases e:H1 b with
  | none=>rfl
  | some v=>obtain⟨o,q⟩:=J.aB.there e;rw[z] at q;cases q)
 obtain⟨hp,g,dr,tk,os⟩:=dM;refine Ij FB (T.keeps J.bk) (J.bk _ _ hC) (hN.keeps J.bk) hi IQ lV (λh' a mx=>?_) (by rw[← r.length];exact hl)
 have na:H1 a=none:=IS a mx.new;obtain⟨tp,IT,OF,AG⟩:=mx.there;have old:∀b o,hp.get? b=some o->b≠a:=λb o q z=>by rw[z,mx.new] at q;cases q
 obtain⟨m,⟨oL,_,_,iu,_⟩,_⟩:=id J.loc;have AH:X.aX.heap.get? a=none:=by
  cases q:X.aX.heap.get? a with
  | none=>rfl
  | some o =>
   obtain⟨o1,q1⟩:=J.base.there a o q (by rw[hex];simp)
   exact absurd rfl (old a o1 q1)
 have I2:Inv X pins σ H1 ⟨h',g,dr,tk,os⟩:=J.kept (t':=tk) mx.keeps;have I3:Inv X pins σ (upd H1 a (cV a C none)) ⟨h',g,dr,tk,os⟩:=I2.Aw na AH (Ne.symm (old _ _ iu)) (λy c e=>by obtain⟨v,o,q,_⟩:=J.cell y c e;exact old _ _ q) (λp hp=>old _ _ (J.pin p hp).1) (uB IT ⟨rfl,rfl,(show (4:Nat)<6 by decide)⟩ (a0:=.ref tp) rfl)
 have r2:Vals (V.ref a::(vs++bf)) (Value.ref a::(us++ds)):=.cons rfl (r.append hd);have hq:uD C names (V.ref a::(vs++bf)) (upd H1 a (cV a C none)) (λv H2=>v = .aC/\∃d,H1 d=none/\d≠a/\H2=upd (upd (upd H1 a (cV a C none)) a (cV a C (some d))) d (c8 d (names.zip (vs++bf)))) E0 :=
  ⟨a,_,rfl,hn,aF,λd nd=>⟨rfl,d,(by
   by_cases z:d=a
   ·rw[z,aF] at nd;cases nd
   ·rw[aG z] at nd;exact nd),(λz=>by rw[z,aF] at nd;cases nd),rfl⟩⟩
 refine wpAny_call (codeAny_mono (F.run _ X.stack _ _ ⟨Value.ref a::us,[]⟩ (Value.ref a::(us++ds)) _ _ E0 (hr.make C us []) (I3.oH.make C us []) (hb _ (Value.ref a::us) I3.bx (r2.length.symm.trans (F.len _ _ _ _ hq))) r2 hq) λr s' dF=>?_)
 match r,dF with
 | .error e,dF=>exact False.elim dF
 | .ok .next,dF=>exact False.elim dF
 | .ok .brk,dF=>exact False.elim dF
 | .ok .cont,dF=>exact False.elim dF
 | .ok (.ret u),dF =>
  obtain⟨v,H',I4,rv,ev,d,nd,da,eH⟩:=I3.after dF;subst ev;have ea:H' a=some (cV a C (some d)):=by rw[eH,aG (Ne.symm da),aF]
  obtain⟨ws,sl,gx,g1,a0,g0⟩:=pM I4.aB ea;refine⟨rv,I4.bk _ _ hC,a,some d,ws,sl,rfl,gx,g1.1,hx pins σ (gZ H' a) s' a C (some d) ws sl a0 (I4.drop ea) pN AH gx g1 g0 ?_⟩;have:gZ H' a=upd H1 d (c8 d (names.zip (vs++bf))):=by
   funext b
   by_cases z:b=a
   ·subst z;rw[pN,aG (Ne.symm da)];exact na.symm
   ·rw[pO z,eH];by_cases y:b=d
    ·subst y;rw[aF,aF]
    ·rw[aG y,aG y,aG z,aG z]
  rw[this];exact hE d nd
end
structure IU(K:PySem.W.Frag)(C:Addr):Prop where
 g:jD K C
 hd:PySem.W.hasDictIn K C=true
noncomputable def IV(K:PySem.W.Frag)(ta:TE)(f:Str):TE:=λσ H Q=>ta σ H λx H1=>∃a C k d fs v,x = .ref a/\H1 a=some (dY a C (some k))/\k / 2=d/\H1 d=some (c8 d fs)/\IU K C/\cE K C f/\fs.lookup f=some v/\Q v H1
section
variable{X:Cx}{e:Expr}{f:Str}{pos:Pos}{ta:TE}
theorem IW{P:Program}{w:World}{H:Hp}{h:Heap}{a C k:Addr}(ok:bw P w H h)(e:H a=some (dY a C (some k))):∃o,h.get? a=some o/\o.cls = .ref C/\o.dict=some (k / 2)/\∃vs,o.data = .fields vs/\(k % 2=0->vs[2]? = some .none):=by
 obtain⟨z,_,_⟩:=(show bu P w H h a (dY a C (some k)) from ok a _ e);exact z
theorem pP(he:PE X e ta)(hb:attributeBase e f X.env (eval e X.env)=eval e X.env):PE X (.Attribute e f pos) (IV X.K ta f):=by
 intro pins s σ H Q I h;refine ym hb (aI (he pins s σ H _ I h) λu s1 ⟨x,H1,I1,rx,a,C,k,d,fs,v,ex,ea,IX,ed,c,n,l,q⟩=>?_);subst ex;obtain rfl:u=Value.ref a:=rx;obtain⟨o,h1,h2,h3,vs,h4,_⟩:=IW I1.aB ea;rw[IX] at h3;obtain⟨mA,hn,r⟩:=Av I1.aB ed;obtain⟨v',hv,rv⟩:=cJ.some_of (v:=v) (o:=mA f) (by rw[← l];exact r f)
 obtain⟨od,ho,hl⟩:=yg hn;unfold getAttr;refine wpAny_bind (wpAny_mkText ?_);have T:PySem.W.Looks (model X.prog X.w) s1.heap (typeOf (.ref a)) (.ref C):=uw h1 h2;have L:=PySem.W.looks_find (M:=model X.prog X.w) (x:=a) (name:=f) I1.bx (C:=C) (ox:=o) (od:=some od) ⟨h1,h2,by unfold PySem.W.notCls;rw[h4],by rw[h3];exact ho⟩ (PySem.W.findObj_own c.hd n rfl (by rw[hl,hv]))
 refine Af (s:={ s1 with toks:=s1.toks+1 }) I1.bx T c.g λA=>?_
 refine HF (s:={ s1 with toks:=s1.toks+1 }) (Q:=λv s'=>PySem.W.handedIn v=true/\EP X pins σ Q v s') T L ⟨yl rv,⟨v,H1,I1.tok _,rv,q⟩⟩
end
section
variable{M:Model}{A:Around}{E:Value->Shared->Prop}{s:Shared}{B:Heap}{env:Env}{l outer:List Env}{L a:Addr}{cls a0 fl:Value}{od:Option Addr}{Q:Unit->Shared->Prop}
end
section
variable{prog:Program}{w:World}{A:Around}{R:Result->Shared->Prop}{s:Shared}
end
section
variable{X:Cx}{tg iter elt:Expr}{ifs:List Expr}{scope:Scope}{cl:List (Str×Addr)}{N:List Str}{nt:Nat}{fv:List Nat}{pos:Pos}{wi:TI}{g:TG}{tt:TT}{te:TE}
end
section
variable{prog:Program}{w:World}{A:Around}{E:Value->Shared->Prop}{s:Shared}{env:Env}
variable{nm q:Str}{C N:Addr}{bs bm cB:List Value}{hdct:Bool}{sn:List Str}{sub:List Value}{ab:Bool}{col:Option Bool}{dd:Option Addr}{k0 k1 k2 k3 k5:Option Value}{B newId dP:String}
end
section
variable{X:Cx}{x:Str}{C fI:Addr}{bm tl bs:List Value}{newId dP B:String}{np bG pos:Pos}{jC:Expr}{rest:List Expr}{t:TA}{k:Nat}{fd:FuncData}{ps names:List Str}{bf:List V}{ds:List Value}
 {N:Addr} {nm qn:Str} {hdct:Bool} {sn:List Str} {sub:List Value} {ab:Bool} {col:Option Bool} {dd:Option Addr} {k0 k1 k2 k3 k5:Option Value} {mN:Str->Option Value}
 {pins:List (Addr×Obj)} {s:Shared} {σ:St} {H:Hp} {R:List V->Hp->Prop} {E:Value->Shared->Prop}
end
noncomputable def AI(a b:Addr×Th):Prop:=ux a.2 b.2
noncomputable instance (a b:Addr×Th):Decidable (AI a b):=by unfold AI;infer_instance
section
variable{H H':Hp}{l a:Addr}{zs ys:Zs}{t:Th}{k:Nat}
end
section
variable{X:Cx}
end
section
variable{X:Cx}{e st:Expr}{te ts:TE}{pos p2:Pos}
noncomputable def OG(K:PySem.W.Frag)(te ts:TE):TE:=λσ H Q=>te σ H λx H1=>ts σ H1 λk H2=>∃a xs,x = .ref a/\k = .int (-1)/\aD K H2 a xs/\∀p,H2 p=none->Q (.ref p) (upd H2 p (.lst xs.reverse))
end
noncomputable def T1(m:Nat)(led:Bool):SetTable:={ mask:=7,place := #[m % 8],dummies := #[],finger:=0,led,moves:=0,plain:=true }
section
variable{prog:Program}{w:World}{A:Around}{E:Value->Shared->Prop}{s:Shared}{a:Addr}{es OH:Array (Int×Value)}{ep:Nat}{t t1:SetTable}{n:Int}{tk:Tok}
end
section
variable{prog:Program}{w:World}{A:Around}{R:Result->Shared->Prop}{s:Shared}{l I S:Addr}{m n:Nat}{tm tn:Tok}{led:Bool}
end
section
variable{prog:Program}{w:World}{A:Around}{E:Value->Shared->Prop}{s:Shared}
end
section
variable{prog:Program}{w:World}{A:Around}{E:Value->Shared->Prop}{s:Shared}{it d:Addr}{slot i n ep:Nat}{es:Array (Int×Value)}{t:SetTable}
end
section
variable{prog:Program}{w:World}{A:Around}{E:Value->Shared->Prop}{s:Shared}{d:Addr}{ep m n:Nat}{es:Array (Int×Value)}{tm tn:Tok}
end
section
variable{X:Cx}{e:Expr}{tl:TE}{p1 p2 p3 p4:Pos}
end
section
variable{X:Cx}{C:Addr}{x:Str}{p pos:Pos}
end
section
variable{X:Cx}{CX:dD}{k1 k2:Nat}{f1 f2:Addr}{OI OJ:List Addr}{uE uF:FuncData}{OL OM:List Str}{ON OO:Sp}{E:XK}{m:Str}{pos apos:Pos}{o e:Expr}{es:List Expr}{ta:TE}{t:TA}
end
end _L
namespace _L
open PySem PySem.Spec PyProof.Rows PySem.W
section
variable{prog:Program}{w:World}{A:Around}{E:Value->Shared->Prop}{s:Shared}{h₀:Heap}{L a kS:Addr}{m:Str->Option Value}{news:List (Addr×Obj)}{vs ks:List Value}
end
section
variable{X:Cx}{pins:List (Addr×Obj)}{σ:St}{H:Hp}{s:Shared}{m:Str->Option Value}{kS f:Addr}{kv:Nat->Int}{k:Nat}{fd:FuncData}{p:Str}{sp:Sp}{xs:List V}{A:Around}
end
section
variable{X:Cx}{pins:List (Addr×Obj)}{σ:St}{H:Hp}{s:Shared}{f:Addr}{kv:Nat->Int}{k:Nat}{fd:FuncData}{p:Str}{sp:Sp}{xs:List V}{l:Addr}
noncomputable def OP(sp:Sp)(tl:TE):TE:=λσ H Q=>tl σ H λx H1=>∃(l:Addr) (xs:List V) (kv:Nat->Int),x = .ref l/\H1 l=some (.lst xs)/\xs.length<64/\(∀i j,i<xs.length->j<xs.length->kv i=kv j->i=j)/\
 (∀(j:Nat) (v:V),xs[j]? = some v->sp [v] H1 (λv' H'=>v' = .int (kv j)/\H' = H1) E0)/\
 ∀(D:Addr) (is:List Nat),H1 D=none->is.Perm (List.range xs.length)->(∀i j,i<j->j<xs.length->kv (is.getD i 0)<kv (is.getD j 0))->Q (.ref D) (upd H1 D (.lst (is.map λi=>xs.getD i .aC)))
end
end _L
namespace _L
open PySem PySem.Spec PyProof.Rows
section
variable{X:Cx}
end
section
variable{X:Cx}{k:Nat}{f:Addr}{fd:FuncData}{ps:List Str}{sp:Sp}{x:Str}{p pos:Pos}{e:Expr}{es:List Expr}{t:TA}{a:Value}
end
section
variable{X:Cx}{x:Str}{C fI pK:Addr}{bm tl bs:List Value}{newId dP B:String}{np bG pos:Pos}{jC:Expr}{rest:List Expr}{t:TA}{k:Nat}{fd:FuncData}{ps names:List Str}{bf:List V}{ds:List Value}
 {N:Addr} {nm qn:Str} {hdct:Bool} {sn:List Str} {sub:List Value} {ab:Bool} {col:Option Bool} {dd:Option Addr} {k0 k1 k2 k3 k5:Option Value} {mN:Str->Option Value}
 {pins:List (Addr×Obj)} {s:Shared} {σ:St} {H:Hp} {R:List V->Hp->Prop} {E:Value->Shared->Prop}
end
section
variable{M:Model}{A:Around}{E:Value->Shared->Prop}{s:Shared}{B:Heap}{env:Env}{l outer:List Env}{L a:Addr}{cls a0 fl:Value}{od:Option Addr}{Q:Unit->Shared->Prop}
end
theorem AJ(d:Nat):2*d / 2=d:=by lia
section
variable{prog:Program}{w:World}{A:Around}{E:Value->Shared->Prop}{s:Shared}{env:Env}
variable{nm q:Str}{C N:Addr}{bs bm cB:List Value}{hdct:Bool}{sn:List Str}{sub:List Value}{ab:Bool}{col:Option Bool}{dd:Option Addr}{k0 k1 k2 k3 k5:Option Value}{B newId dP:String}
end
section
variable{X:Cx}{E:XK}{pins:List (Addr×Obj)}{σ:St}{Hx:Hp}{s3:Shared}{h':Heap}{e C d:Addr}{OQ:Array Value}{sl:Array (Option Value)}{a0:Value}{i:Nat}{n:Str}{Aa:Pos}{pK:Addr}{E1 E2:Value->Shared->Prop}
end
noncomputable def OR(K:PySem.W.Frag)(C2:Addr)(i:Nat)(C:Addr)(names:List Str)(bf:List V)(E:XK)(ta:Addr->TA)(t:TH):TH:=λod C0 a D σ H =>
 (subIn K C0 (.ref C2)=true/\∃k,od=some k/\k % 2=0/\ta a (σ.set i (some (.ref a))) (upd H a (dY a C0 od)) λvs H1=>vs.length<=sizeLine/\(vs++bf).length=names.length/\H1 a=some (dY a C0 od)/\∀d,H1 d=none->E (.ref C) (some (2*d+1)) (upd H1 d (c8 d (names.zip (vs++bf)))))\/
 (subIn K C0 (.ref C2)=false/\t od C0 a D σ H)
section
variable{X:Cx}{k:Nat}{f:Addr}{cs:List Addr}{fd:FuncData}{ps:List Str}{sp:Sp}{bf:List V}{ds:List Value}{E:XK}{m:Str}{pos apos:Pos}{e o:Expr}{es:List Expr}{ta:TE}{t:TA}
theorem AK{pl:Sem Bool}(he:PE X.iy o ta)(hc:∀C∈cs,dc X.K C/\Meth X.K C m f)(F:bh X.prog X.w X.K X.mg X.base (gW X.prog X.w X.base) k f fd ps sp)(hr:bK k X.A)(hb:Binds X.K fd ps ds)(hd:Vals bf ds)(ha:PA X.iy (e::es) t)
  (fU:starEach (e::es) X.env=(false,eval e X.env)::starEach es X.env:=by rfl) (dg:(backTo pos (starEach es X.env)).any (·.1)=false:=by rfl)
  (ht:eval (.Call (.Attribute o m apos) (e::es) [] pos) X.env=(do
   let ov ← eval o X.env
   standAt apos.atName
   let (f,first) ← holding [ov] (getMethod ov m pl)
   callWith pos f first (backTo pos (starEach (e::es) X.env)) (backToKw pos (keywordEach [] X.env))):=by rfl) :
  zR X E (.Call (.Attribute o m apos) (e::es) [] pos) (ud cs m sp bf E ta t):=by
 intro pins s σ H Q I h;refine PySem.W.methodCall_KW (pl:=pl) (wpAny_mono (he pins s σ H _ (I.fu _) h) (λu s1 hz=>?_) λ_ _ z=>False.elim z) ht;obtain⟨x,H1,I1,rx,C,a,dx,fs,ex,ea,hC,hl,q⟩:=hz;subst ex;obtain rfl:u=Value.ref a:=rx;obtain⟨c1,c2⟩:=hc C hC;refine sN I1.gq ea c1 c2 hl ?_;refine PySem.W.callWith_K (first:=[.ref a]) (h₀:=X.base) I.ok.mod.iX c2.kp (wpAny_mono (ha pos pins s1 σ H1 _ I1 q) (λus s2 ⟨vs,H2,I2,r,q2⟩=>⟨I2.bx,?_⟩) λ_ _ z=>False.elim z) fU dg
 exact Hf (us:=.ref a::us) (vs:=.ref a::vs) F hr hb hd I2.gq (.cons rfl r) q2
end
noncomputable def IY(H:Hp)(d:Addr)(c:Int)(ask:V):Prop:=H d=some (c8 d [(("cell" : Str),.int c),(("ask" : Str),ask)])
noncomputable def IZ(K:PySem.W.Frag)(X:Addr):Sp:=λvs H Q E=>∃(C p:Addr) (P:Pl) (fp:List Addr) (k:Int),vs = [.ref p,.int k]/\c7 K C H p P fp/\
 (0<=k->k<P.nc.length->∀t q,P.nc[k.toNat]? = some q->H t=some (.tup [.int q.1,.int q.2])->Q (.ref t) H)/\(¬ (0<=k/\k<P.nc.length)->∀d H',ak H H'->IY H' d k .aC->E (.ref X) (some (2*d)) H')
section
variable{X:Cx}{E:XK}{e:Expr}{es:List Expr}{te:TE}{t:TA}{pos:Pos}
end
end _L
namespace _L
open PySem PyProof.Rows
noncomputable abbrev Kd(p:Keyed):Int:=numOf p.1
noncomputable def lZ(p:Keyed):Prop:=∃n t,p.1 = .int n t
noncomputable def I0:Bool->Keyed->Array Keyed->Nat->Nat->Nat->StateT SortSt Sem (Option Nat):=sortPriv% PySem.Builtin.gallop
noncomputable def aV(left:Bool)(kk x:Int):Bool:=if left=true then decide (x<kk) else !decide (kk<x)
theorem I_{left:Bool}{kk x y:Int}(h:x<=y)(b:aV left kk y=true):aV left kk x=true:=by
 unfold aV at *
 cases left
 ·simp at b ⊢;omega
 ·simp at b ⊢;omega
theorem cC{xs:Array Keyed}{i:Nat}{p:Keyed}(h:xs[i]? = some p):K xs i=Kd p:=by unfold K;rw[h]
theorem bW{xs:Array Keyed}(h:IntKeys xs){i:Nat}(hi:i<xs.size):∃p,xs[i]? = some p/\lZ p/\K xs i=Kd p :=
 ⟨xs[i],getElem?_pos xs i hi,h _ (by simp),cC (getElem?_pos xs i hi)⟩
section
variable{prog:Program}{w:World}{A:Around}{E:Value->Shared->Prop}{s:Shared}
theorem a_{st:SortSt}{arr:Array Keyed}{i:Nat}{p:Keyed}{Q:Keyed->SortSt->Prop}(h:arr[i]? = some p)(q:Q p st):wpS (model prog w) A E s (elem' arr i) Q st:=by
 rw[elem'_eq,h];exact wpS_pure q
theorem pQ{st:SortSt}{x y:Keyed}{Q:Option Bool->SortSt->Prop}(hk:kindOf st=oneType')(hx:lZ x)(hy:lZ y)(q:Q (some (decide (Kd x<Kd y))) st):wpS (model prog w) A E s (lt' x y) Q st:=by
 obtain⟨a,t,ea⟩:=hx;obtain⟨b,u,eb⟩:=hy;rw[lt'_eq];refine wpS_bind (wpS_get ?_);rw[hk,keyLt'_oneType,ea,eb];refine wpS_bind (wpS_lift (wpAny_attempt (oneLt_int ⟨rfl,?_⟩)));refine wpS_pure ?_;have e1:Kd x=a:=by show numOf x.1=a;rw[ea];rfl
 have e2:Kd y=b:=by show numOf y.1=b;rw[eb];rfl
 rw[e1,e2] at q;exact q
theorem l6{st:SortSt}{left:Bool}{key:Keyed}{arr:Array Keyed}{j:Nat}{Q:Option Bool->SortSt->Prop}(hk:kindOf st=oneType')(gz:lZ key)(ha:IntKeys arr)(hj:j<arr.size)(q:Q (some (aV left (Kd key) (K arr j))) st) :
  wpS (model prog w) A E s (elem' arr j >>= λx=>if left=true then lt' x key else lt' key x >>= λr=>pure (Option.map (λb => !b) r)) Q st:=by
 obtain⟨p,e,ip,kp⟩:=bW ha hj;refine wpS_bind (a_ e ?_);rw[kp] at q;unfold aV at q;cases left
 ·simp only[Bool.false_eq_true,if_false] at q ⊢;exact wpS_bind (pQ hk gz ip (wpS_pure q))
 ·simp only[if_true] at q ⊢;exact pQ hk ip gz q
theorem AL{st:SortSt}{B:Nat->Bool}{n lo hi:Nat}{f:Nat->(Option (Option Nat)×Nat×Nat)->StateT SortSt Sem (ForInStep (Option (Option Nat)×Nat×Nat))}{Q:(Option (Option Nat)×Nat×Nat)->SortSt->Prop}
  (Ja:∀x lo hi (Q':ForInStep (Option (Option Nat)×Nat×Nat)->SortSt->Prop),lo ≥ hi->Q' (.done (none,lo,hi)) st->wpS (model prog w) A E s (f x (none,lo,hi)) Q' st)
  (Jb:∀x lo hi (Q':ForInStep (Option (Option Nat)×Nat×Nat)->SortSt->Prop),lo<hi->hi<=n->(B (lo+(hi - lo) / 2)=true->Q' (.yield (none,lo+(hi - lo) / 2+1,hi)) st)->(B (lo+(hi - lo) / 2)=false->Q' (.yield (none,lo,lo+(hi - lo) / 2)) st)->wpS (model prog w) A E s (f x (none,lo,hi)) Q' st)
  (mono:∀i j,i<=j->j<n->B j=true->B i=true) (Jc:lo<=hi) (hn:hi<=n) (h1:∀i,i<lo->B i=true) (h2:∀i,hi<=i->i<n->B i=false)
  (h:∀k,k<=n->(∀i,i<k->B i=true)->(∀i,k<=i->i<n->B i=false)->Q (none,k,k) st):wpS (model prog w) A E s (forIn [:n] (none,lo,hi) f) Q st:=by
 have pR:∀i j,i<=j->j<n->B i=false->B j=false:=λi j dZ hj hf=>by
  cases hb:B j with
  | false=>rfl
  | true=>rw[mono i j dZ hj hb] at hf;exact nomatch hf
 refine wpS_forRange (I:=λx c ah=>ah=st/\∃lo hi,c=(none,lo,hi)/\lo<=hi/\hi<=n/\hi - lo<=n - x/\(∀i,i<lo->B i=true)/\(∀i,hi<=i->i<n->B i=false)) ?step ?fin ⟨rfl,lo,hi,rfl,Jc,hn,by omega,h1,h2⟩
 case fin =>
  rintro c ah ⟨rfl,lo,hi,rfl,g1,g2,g3,g4,g5⟩;have:lo=hi:=by omega
  subst this;exact h lo g2 g4 g5
 case step =>
  rintro x c ah _ hx ⟨rfl,lo,hi,rfl,g1,g2,g3,g4,g5⟩;by_cases c9:lo ≥ hi
  ·have:lo=hi:=by omega
   subst this;exact Ja _ _ _ _ c9 (h lo g2 g4 g5)
  ·refine Jb _ _ _ _ (by omega) g2 (λhb=>?_) λhb=>?_
   ·exact⟨rfl,_,_,rfl,by omega,g2,by omega,λi f_=>mono i _ (by omega) (by omega) hb,g5⟩
   ·exact⟨rfl,_,_,rfl,by omega,by omega,by omega,g4,λi f_ dU=>pR _ i f_ dU hb⟩
theorem eU{left:Bool}{key:Keyed}{arr:Array Keyed}{base n hint:Nat}{Q:Option Nat->SortSt->Prop}{st:SortSt}(hk:kindOf st=oneType')(gz:lZ key)(ha:IntKeys arr)(hb:base+n<=arr.size)(hh:hint<n)
  (hs:∀i j,base<=i->i<=j->j<base+n->K arr i<=K arr j)
  (h:∀k,k<=n->(∀i,i<k->aV left (Kd key) (K arr (base+i))=true)->(∀i,k<=i->i<n->aV left (Kd key) (K arr (base+i))=false)->Q (some k) st) :
  wpS (model prog w) A E s (I0 left key arr base n hint) Q st:=by
 have mono:∀i j,i<=j->j<n->aV left (Kd key) (K arr (base+j))=true->aV left (Kd key) (K arr (base+i))=true:=λi j dZ hj=>I_ (hs _ _ (by omega) (by omega) (by omega))
 have pR:∀i j,i<=j->j<n->aV left (Kd key) (K arr (base+i))=false->aV left (Kd key) (K arr (base+j))=false:=λi j dZ hj hf=>by
  cases hb:aV left (Kd key) (K arr (base+j)) with
  | false=>rfl
  | true=>rw[mono i j dZ hj hb] at hf;exact nomatch hf
 refine wpS_bind (l6 hk gz ha (by omega) ?_)
 dsimp only;cases hr:aV left (Kd key) (K arr (base+hint)) with
 | true =>
  rw[if_pos rfl];refine wpS_bind (wpS_mono (wpS_forRange (I:=λx c ah=>ah=st/\∃c_ bA,c=(none,c_,bA)/\x+1<=bA/\c_<bA/\c_<n - hint/\aV left (Kd key) (K arr (base+(hint+c_)))=true)
   (Q:=λc ah=>ah=st/\∃c_ bA,c=(none,c_,bA)/\c_<bA/\c_<n - hint/\aV left (Kd key) (K arr (base+(hint+c_)))=true/\(n - hint<=bA\/aV left (Kd key) (K arr (base+(hint+bA)))=false)) ?step ?fin ⟨rfl,0,1,rfl,by omega,by omega,by omega,hr⟩) ?post)
  case fin =>
   rintro c ah ⟨rfl,e_,bA,rfl,h1,h2,h3,h4⟩;exact⟨rfl,e_,bA,rfl,h2,h3,h4,.inl (by omega)⟩
  case step =>
   rintro x c ah _ hx ⟨rfl,e_,bA,rfl,h1,h2,h3,h4⟩;dsimp only;by_cases c9:bA ≥ n - hint
   ·rw[if_pos c9];exact wpS_pure ⟨rfl,e_,bA,rfl,h2,h3,h4,.inl c9⟩
   ·rw[if_neg c9];refine wpS_bind (l6 hk gz ha (by omega) ?_)
    dsimp only;cases hm:aV left (Kd key) (K arr (base+(hint+bA))) with
    | true =>
     rw[if_neg (by simp)]
     exact wpS_pure ⟨rfl,bA,2*bA+1,rfl,by omega,by omega,by omega,hm⟩
    | false =>
     rw[if_pos (by simp)]
     exact wpS_pure ⟨rfl,e_,bA,rfl,h2,h3,h4,.inr hm⟩
  case post =>
   rintro c ah ⟨rfl,e_,bA,rfl,h2,h3,h4,h5⟩;dsimp only;refine wpS_bind (AL (B:=λi=>aV left (Kd key) (K arr (base+i))) (λx lo hi Q' c9 q=>?_) (λx lo hi Q' aY Jd qt qf=>?_) mono (by omega) (by omega) (λi hi=>mono i (hint+e_) (by omega) (by omega) h4) (λi hi gb=>?_) λk k1 k2 k3=>wpS_pure (h k k1 k2 k3))
   ·dsimp only;rw[if_pos c9];exact wpS_pure q
   ·dsimp only;rw[if_neg (by omega)]
    refine wpS_bind (l6 hk gz ha (by omega) ?_)
    dsimp only;cases hm:aV left (Kd key) (K arr (base+(lo+(hi - lo) / 2))) with
    | true=>rw[if_pos rfl];exact wpS_pure (qt hm)
    | false=>rw[if_neg (by simp)];exact wpS_pure (qf hm)
   ·rcases h5 with h5 | h5
    ·omega
    ·exact pR (hint+bA) i (by omega) gb h5
 | false =>
  rw[if_neg (by simp)]
  refine wpS_bind (wpS_mono (wpS_forRange (I:=λx c ah=>ah=st/\∃c_ bA,c=(none,c_,bA)/\x+1<=bA/\c_<bA/\c_<hint+1/\aV left (Kd key) (K arr (base+(hint - c_)))=false)
   (Q:=λc ah=>ah=st/\∃c_ bA,c=(none,c_,bA)/\c_<bA/\c_<hint+1/\aV left (Kd key) (K arr (base+(hint - c_)))=false/\(hint+1<=bA\/aV left (Kd key) (K arr (base+(hint - bA)))=true)) ?step ?fin ⟨rfl,0,1,rfl,by omega,by omega,by omega,hr⟩) ?post)
  case fin =>
   rintro c ah ⟨rfl,e_,bA,rfl,h1,h2,h3,h4⟩;exact⟨rfl,e_,bA,rfl,h2,h3,h4,.inl (by omega)⟩
  case step =>
   rintro x c ah _ hx ⟨rfl,e_,bA,rfl,h1,h2,h3,h4⟩;dsimp only;by_cases c9:bA ≥ hint+1
   ·rw[if_pos c9];exact wpS_pure ⟨rfl,e_,bA,rfl,h2,h3,h4,.inl c9⟩
   ·rw[if_neg c9];refine wpS_bind (l6 hk gz ha (by omega) ?_)
    dsimp only;cases hm:aV left (Kd key) (K arr (base+(hint - bA))) with
    | true =>
     rw[if_pos rfl];exact wpS_pure ⟨rfl,e_,bA,rfl,h2,h3,h4,.inr hm⟩
    | false =>
     rw[if_neg (by simp)]
     exact wpS_pure ⟨rfl,bA,2*bA+1,rfl,by omega,by omega,by omega,hm⟩
  case post =>
   rintro c ah ⟨rfl,e_,bA,rfl,h2,h3,h4,h5⟩;dsimp only;refine wpS_bind (AL (B:=λi=>aV left (Kd key) (K arr (base+i))) (λx lo hi Q' c9 q=>?_) (λx lo hi Q' aY Jd qt qf=>?_) mono (by omega) (by omega) (λi hi=>?_) (λi hi gb=>pR (hint - e_) i hi gb h4) λk k1 k2 k3=>wpS_pure (h k k1 k2 k3))
   ·dsimp only;rw[if_pos c9];exact wpS_pure q
   ·dsimp only;rw[if_neg (by omega)]
    refine wpS_bind (l6 hk gz ha (by omega) ?_)
    dsimp only;cases hm:aV left (Kd key) (K arr (base+(lo+(hi - lo) / 2))) with
    | true=>rw[if_pos rfl];exact wpS_pure (qt hm)
    | false=>rw[if_neg (by simp)];exact wpS_pure (qf hm)
   ·rcases h5 with h5 | h5
    ·omega
    ·exact mono i (hint - bA) (by omega) (by omega) h5
end
structure MI(R:Keyed->Keyed->Prop)(A B O:List Keyed)(i j:Nat):Prop where
 p:(O++(A.drop i++B.drop j)).Perm (A++B)
 s:O.Pairwise R
 ba:∀x∈O,∀y∈A.drop i,R x y
 bb:∀x∈O,∀y∈B.drop j,R x y
structure gK(R:Keyed->Keyed->Prop)(A B O:List Keyed):Prop where
 p:O.Perm (A++B)
 s:O.Pairwise R
section
variable{R:Keyed->Keyed->Prop}{A B O:List Keyed}{i j:Nat}
theorem drop_cons{x:Keyed}(e:A[i]? = some x):A.drop i=x::A.drop (i+1):=by
 obtain⟨h,rfl⟩:=List.getElem?_eq_some_iff.mp e;exact List.drop_eq_getElem_cons h
theorem pS(SA:A.Pairwise R)(i:Nat):(A.drop i).Pairwise R:=SA.sublist (List.drop_sublist i A)
theorem Je{k:Nat}{y:Keyed}(h:y∈A.drop (i+k)):y∈A.drop i:=by
 rw[← List.drop_drop] at h;exact List.mem_of_mem_drop h
theorem MI.pT(h:MI R A B O i j)(SA:A.Pairwise R){x:Keyed}(e:A[i]? = some x)(le:∀y∈B.drop j,R x y):MI R A B (O++[x]) (i+1) j:=by
 have ed:=drop_cons e;have hx:∀y∈A.drop (i+1),R x y:=by
  have:=pS SA i;rw[ed] at this;exact(List.pairwise_cons.mp this).1
 refine⟨?_,?_,λy hy z hz=>?_,λy hy z hz=>?_⟩
 ·have:=h.p;rw[ed] at this;simpa using this
 ·refine List.pairwise_append.mpr ⟨h.s,List.pairwise_singleton _ _,λy hy z hz=>?_⟩;rw[List.mem_singleton.mp hz];exact h.ba y hy x (by rw[ed];exact List.mem_cons_self)
 ·rcases List.mem_append.mp hy with hy | hy
  ·exact h.ba y hy z (Je hz)
  ·rw[List.mem_singleton.mp hy];exact hx z hz
 ·rcases List.mem_append.mp hy with hy | hy
  ·exact h.bb y hy z hz
  ·rw[List.mem_singleton.mp hy];exact le z hz
theorem MI.swap(h:MI R A B O i j):MI R B A O j i :=
 ⟨((List.Perm.append_left O List.perm_append_comm).trans h.p).trans List.perm_append_comm,h.s,h.bb,h.ba⟩
theorem gK.swap(h:gK R A B O):gK R B A O:=⟨h.p.trans List.perm_append_comm,h.s⟩
theorem MI.uG(h:MI R A B O i j)(SB:B.Pairwise R){x:Keyed}(e:B[j]? = some x)(le:∀y∈A.drop i,R x y):MI R A B (O++[x]) i (j+1) :=
 (h.swap.pT SB e le).swap
theorem MI.pU(h:MI R A B O i j)(SA:A.Pairwise R):∀k,(∀y∈(A.drop i).take k,∀z∈B.drop j,R y z)->MI R A B (O++(A.drop i).take k) (i+k) j
 | 0,_=>by simpa using h
 | k+1,le=>by
  have ih:=MI.pU h SA k λy hy=>le y (by rw[List.take_add_one];exact List.mem_append_left _ hy)
  by_cases hk:i+k<A.length
  ·have e:A[i+k]? = some A[i+k]:=List.getElem?_eq_getElem hk;have e2:(A.drop i)[k]? = some A[i+k]:=by rw[List.getElem?_drop];exact e
   have et:(A.drop i).take (k+1)=(A.drop i).take k++[A[i+k]]:=by rw[List.take_add_one,e2];rfl
   rw[et,← List.append_assoc];exact ih.pT SA e λz hz=>le _ (by rw[et];simp) z hz
  ·have l1:(A.drop i).length<=k:=by rw[List.length_drop];omega
   rw[List.take_of_length_le (by omega)]
   rw[List.take_of_length_le l1] at ih;have d1:A.drop (i+k) = []:=List.drop_of_length_le (by omega)
   have d2:A.drop (i+(k+1)) = []:=List.drop_of_length_le (by omega)
   exact⟨by rw[d2,← d1];exact ih.p,ih.s,by rw[d2];exact(λ_ _ _ z=>nomatch z),ih.bb⟩
theorem MI.Jf(h:MI R A B O i j)(SB:B.Pairwise R)(k:Nat)(le:∀y∈(B.drop j).take k,∀z∈A.drop i,R y z):MI R A B (O++(B.drop j).take k) i (j+k) :=
 (h.swap.pU SB k le).swap
theorem MI.last(h:MI R A B O i j)(SA:A.Pairwise R)(SB:B.Pairwise R)(le:∀x∈B.drop j,∀y∈A.drop i,R x y):gK R A B (O++B.drop j++A.drop i):=by
 refine⟨?_,?_⟩
 ·rw[List.append_assoc];exact(List.Perm.append_left O List.perm_append_comm).trans h.p
 ·rw[List.append_assoc];refine List.pairwise_append.mpr ⟨h.s,List.pairwise_append.mpr ⟨pS SB j,pS SA i,le⟩,λx hx y hy=>?_⟩;rcases List.mem_append.mp hy with hy | hy
  ·exact h.bb x hx y hy
  ·exact h.ba x hx y hy
theorem MI.done(h:MI R A B O i j)(SA:A.Pairwise R)(SB:B.Pairwise R)(e:A.length<=i\/B.length<=j):gK R A B (O++A.drop i++B.drop j):=by
 refine(h.swap.last SB SA λx hx y hy=>?_).swap;rcases e with e | e
 ·rw[List.drop_of_length_le e] at hx;exact nomatch hx
 ·rw[List.drop_of_length_le e] at hy;exact nomatch hy
end
noncomputable abbrev cL:Keyed->Keyed->Prop:=λx y=>Kd x<=Kd y
noncomputable abbrev iK:Keyed->Keyed->Prop:=λx y=>Kd y<=Kd x
theorem d7{A:List Keyed}{i:Nat}{x:Keyed}{c:Int}(SA:A.Pairwise cL)(e:A[i]? = some x)(h:c<=Kd x):∀y∈A.drop i,c<=Kd y:=by
 have:=pS SA i;rw[drop_cons e] at this ⊢;intro y hy;rcases List.mem_cons.mp hy with rfl | hy
 ·exact h
 ·exact Int.le_trans h ((List.pairwise_cons.mp this).1 y hy)
structure Sg(st ah:SortSt):Prop where
 k:kindOf ah=kindOf st
 a:arrOf ah=arrOf st
 p:pendingOf ah=pendingOf st
 f:failedOf ah=failedOf st
theorem Sg.refl(st:SortSt):Sg st st:=⟨rfl,rfl,rfl,rfl⟩
theorem Sg.set{st ah:SortSt}(h:Sg st ah)(g:Nat):Sg st (SortSt.mk' (kindOf ah) (arrOf ah) (pendingOf ah) g (failedOf ah)):=⟨h.k,h.a,h.p,h.f⟩
theorem iL{n k:Nat}(h:n+1<k)(e:¬ (n+1+1 == k)=true):n+1+1<k:=by
 simp at e;omega
noncomputable def Jg:Array Keyed->Array Keyed->StateT SortSt Sem (Array Keyed):=sortPriv% PySem.Builtin.mergeLo
theorem l7{a:Array Keyed}(SA:a.toList.Pairwise cL){i j:Nat}(dZ:i<=j)(hj:j<a.size):K a i<=K a j:=by
 rw[K_eq (show i<a.size by omega),K_eq hj]
 by_cases e:i=j
 ·subst e;exact Int.le_refl _
 ·have:=List.pairwise_iff_getElem.mp SA i j (by simpa using(show i<a.size by omega)) (by simpa using hj) (by omega)
  simpa using this
theorem bQ{a:Array Keyed}{i:Nat}{p:Keyed}(h:a[i]? = some p):a.toList[i]? = some p:=by simpa using h
theorem l8(a:Array Keyed)(i:Nat):(a.extract i a.size).toList=a.toList.drop i:=by
 rw[Array.toList_extract];simp only[List.extract_eq_take_drop];exact List.take_of_length_le (by simp)
theorem AM(a:Array Keyed)(i k:Nat):(a.extract i (i+k)).toList=(a.toList.drop i).take k:=by
 simp
theorem AN{a:Array Keyed}{i k:Nat}{y:Keyed}(h:y∈(a.toList.drop i).take k):∃m,m<k/\a[i+m]? = some y:=by
 obtain⟨m,e⟩:=List.getElem?_of_mem h;rw[List.getElem?_take] at e;by_cases hm:m<k
 ·rw[if_pos hm,List.getElem?_drop] at e;exact⟨m,hm,by simpa using e⟩
 ·rw[if_neg hm] at e;exact nomatch e
section
variable{R:Keyed->Keyed->Prop}{A B:List Keyed}{a b out:Array Keyed}{i j k:Nat}{x:Keyed}
theorem MI.pA(h:MI R A B out.toList i j)(SA:A.Pairwise R)(e:A[i]? = some x)(le:∀y∈B.drop j,R x y):MI R A B (out.push x).toList (i+1) j:=by
 rw[Array.toList_push];exact h.pT SA e le
theorem MI.pB(h:MI R A B out.toList i j)(SB:B.Pairwise R)(e:B[j]? = some x)(le:∀y∈A.drop i,R x y):MI R A B (out.push x).toList i (j+1):=by
 rw[Array.toList_push];exact h.uG SB e le
theorem MI.mA(h:MI R a.toList B out.toList i j)(SA:a.toList.Pairwise R)(le:∀m y,m<k->a[i+m]? = some y->∀z∈B.drop j,R y z):MI R a.toList B (out++a.extract i (i+k)).toList (i+k) j:=by
 rw[Array.toList_append,AM];exact h.pU SA k λy hy=>let ⟨m,h1,h2⟩:=AN hy;le m y h1 h2
theorem MI.mB(h:MI R A b.toList out.toList i j)(SB:b.toList.Pairwise R)(le:∀m y,m<k->b[j+m]? = some y->∀z∈A.drop i,R y z):MI R A b.toList (out++b.extract j (j+k)).toList i (j+k):=by
 rw[Array.toList_append,AM];exact h.Jf SB k λy hy=>let ⟨m,h1,h2⟩:=AN hy;le m y h1 h2
end
section
variable{prog:Program}{w:World}{A:Around}{E:Value->Shared->Prop}{s:Shared}
theorem aA{σ α:Type}{c:Prop}[Decidable c]{m1 m2:StateT σ Sem α}{M:Model}{Q:α->σ->Prop}{st:σ}(h1:c->wpS M A E s m1 Q st)(h2:¬ c->wpS M A E s m2 Q st):wpS M A E s (if c then m1 else m2) Q st:=by
 split
 ·exact h1 ‹_›
 ·exact h2 ‹_›
theorem Jh{a b:Array Keyed}{Q:Array Keyed->SortSt->Prop}{st:SortSt}(hk:kindOf st=oneType')(ia:IntKeys a)(ib:IntKeys b)(SA:a.toList.Pairwise cL)(SB:b.toList.Pairwise cL)(ha:0<a.size)(hb:0<b.size)
  (h0:K b 0<=K a 0) (hl:∀i,i<b.size->K b i<=K a (a.size - 1)) (h:∀xs ah,Sg st ah->gK cL a.toList b.toList xs.toList->Q xs ah):wpS (model prog w) A E s (Jg a b) Q st:=by
 have sA:∀ {i j},i<=j->j<a.size->K a i<=K a j:=λh1 h2=>l7 SA h1 h2;have sB:∀ {i j},i<=j->j<b.size->K b i<=K b j:=λh1 h2=>l7 SB h1 h2
 -- ends
 have fin:∀ {out:Array Keyed} {i j:Nat} {ah},MI cL a.toList b.toList out.toList i j->Sg st ah->(a.size<=i\/b.size<=j)->Q (out++a.extract i a.size++b.extract j b.size) ah:=λ{out i j ah} m g e=>by
  refine h _ _ g ?_;rw[Array.toList_append,Array.toList_append,l8,l8];exact m.done SA SB (by simpa using e)
 have cM:∀ {out:Array Keyed} {i j:Nat} {ah},MI cL a.toList b.toList out.toList i j->Sg st ah->i+1=a.size->Q (out++b.extract j b.size++a.extract i a.size) ah:=λ{out i j ah} m g e=>by
  refine h _ _ g ?_;rw[Array.toList_append,Array.toList_append,l8,l8];refine m.last SA SB λx hx y hy=>?_;have hi:i<a.size:=by omega
  have e1:a.toList[i]? = some a[i]:=by simp[hi]
  rw[drop_cons e1,List.drop_of_length_le (by simp;omega)] at hy
  rw[List.mem_singleton.mp hy];obtain⟨n,en⟩:=List.getElem?_of_mem (List.mem_of_mem_drop hx);have AO:b[n]? = some x:=by simpa using en
  have hn:n<b.size:=(Array.getElem?_eq_some_iff.mp AO).1;have:=hl n hn;rw[cC AO,show a.size - 1=i by omega,K_eq hi] at this
  exact this
 obtain⟨p,ep,ip,kp⟩:=bW ib hb;obtain⟨q,eq,iq,kq⟩:=bW ia ha;refine wpS_bind (wpS_lift (wpAny_rule ⟨rfl,?_⟩));refine wpS_bind (a_ ep ?_);have m0:MI cL a.toList b.toList [] 0 0:=⟨by simp,.nil,(λ_ z=>nomatch z),(λ_ z=>nomatch z)⟩
 have m1:MI cL a.toList b.toList (#[p]:Array Keyed).toList 0 1:=m0.uG SB (bQ ep) (d7 SA (bQ eq) (by rw[← kp,← kq];exact h0))
 refine aA (λe=>wpS_pure (fin m1 (Sg.refl _) (.inr (by simp at e;omega)))) λe1=>?_
 refine aA (λe=>wpS_pure (cM m1 (Sg.refl _) (by simpa using e))) λe2=>?_
 have e1:1<b.size:=by simp at e1;omega
 have e2:1<a.size:=by simp at e2;omega
 refine wpS_bind (wpS_get ?_);refine wpS_bind (wpS_mono (wpS_forRange (I:=λx c ah=>Sg st ah/\∃out i j mg,c=(none,out,i,j,mg)/\MI cL a.toList b.toList out.toList i j/\i+1<a.size/\j<b.size/\x<=i+j)
  (Q:=λc ah=>Sg st ah/\∃r out i j mg,c=(some r,out,i,j,mg)/\Q r ah) ?step ?fin ⟨Sg.refl _,_,_,_,_,rfl,m1,by omega,by omega,by omega⟩) ?post)
 case post =>
  rintro c ah ⟨g,r,out,i,j,mg,rfl,q⟩;exact wpS_pure q
 case fin =>
  rintro c ah ⟨g,out,i,j,mg,rfl,m,h1,h2,h3⟩
  omega
 case step =>
  rintro x c ah _ hx ⟨g,out,i,j,mg,rfl,m,hi,hj,Ji⟩;dsimp only;refine wpS_bind (wpS_mono (wpS_forRange (I:=λy c aP=>aP=ah/\∃out i j ac bc,c=(none,out,i,j,ac,bc)/\MI cL a.toList b.toList out.toList i j/\i+1<a.size/\j<b.size/\x+y<=i+j)
   (Q:=λc aP=>aP=ah/\((∃r out i j ac bc,c=(some r,out,i,j,ac,bc)/\Q r ah)\/(∃out i j ac bc,c=(none,out,i,j,ac,bc)/\MI cL a.toList b.toList out.toList i j/\i+1<a.size/\j<b.size/\x+1<=i+j))) ?s2 ?f2 ⟨rfl,out,i,j,0,0,rfl,m,hi,hj,by omega⟩) ?p2)
  case f2 =>
   rintro c aP ⟨rfl,out,i,j,ac,bc,rfl,m,h1,h2,h3⟩
   omega
  case s2 =>
   rintro y c aP _ hy ⟨rfl,out,i,j,ac,bc,rfl,m,hi,hj,g7⟩;obtain⟨pb,eb,gc,kb⟩:=bW ib hj;obtain⟨pa,ea,cP,ka⟩:=bW ia (show i<a.size by omega)
   refine wpS_bind (a_ eb (wpS_bind (a_ ea (wpS_bind (pQ (by rw[g.k];exact hk) gc cP ?_)))))
   dsimp only;refine aA (λhw=>?_) λhw=>?_
   ·have hw:=of_decide_eq_true hw;refine wpS_bind (a_ eb ?_);have m':MI cL a.toList b.toList (out.push pb).toList i (j+1):=by
     rw[Array.toList_push];exact m.uG SB (bQ eb) (d7 SA (bQ ea) (by omega))
    refine aA (λe=>wpS_pure ⟨rfl,.inl ⟨_,_,_,_,_,_,rfl,fin m' g (.inr (by simp at e;omega))⟩⟩) λe=>?_
    have e:j+1<b.size:=by simp at e;omega
    exact aA (λ_=>wpS_pure ⟨rfl,.inr ⟨_,_,_,_,_,rfl,m',by omega,by omega,by omega⟩⟩) λ_=>wpS_pure ⟨rfl,_,_,_,_,_,rfl,m',by omega,by omega,by omega⟩
   ·have hw:¬ Kd pb<Kd pa:=λz=>hw (decide_eq_true z);refine wpS_bind (a_ ea ?_);have m':MI cL a.toList b.toList (out.push pa).toList (i+1) j:=by
     rw[Array.toList_push];exact m.pT SA (bQ ea) (d7 SB (bQ eb) (by omega))
    refine aA (λe=>wpS_pure ⟨rfl,.inl ⟨_,_,_,_,_,_,rfl,cM m' g (by simpa using e)⟩⟩) λe=>?_
    have e:i+1+1<a.size:=by simp at e;omega
    exact aA (λ_=>wpS_pure ⟨rfl,.inr ⟨_,_,_,_,_,rfl,m',by omega,by omega,by omega⟩⟩) λ_=>wpS_pure ⟨rfl,_,_,_,_,_,rfl,m',by omega,by omega,by omega⟩
  case p2 =>
   rintro c aP ⟨rfl,⟨r,out,i,j,ac,bc,rfl,q⟩ | ⟨out,i,j,ac,bc,rfl,m,hi,hj,g7⟩⟩
   ·exact wpS_pure ⟨g,r,_,_,_,_,rfl,q⟩
   ·dsimp only;refine wpS_bind (wpS_lift (wpAny_rule ⟨rfl,?_⟩));refine wpS_bind (wpS_mono (wpS_forRange (I:=λy c bT=>Sg st bT/\∃out i j mg ac bc,c=(none,out,i,j,mg,ac,bc)/\MI cL a.toList b.toList out.toList i j/\i+1<a.size/\j<b.size/\x+1+y<=i+j)
     (Q:=λc bT=>Sg st bT/\((∃r out i j mg ac bc,c=(some r,out,i,j,mg,ac,bc)/\Q r bT)\/(∃out i j mg ac bc,c=(none,out,i,j,mg,ac,bc)/\MI cL a.toList b.toList out.toList i j/\i+1<a.size/\j<b.size/\x+1<=i+j))) ?s3 ?f3 ⟨g,out,i,j,_,_,_,rfl,m,hi,hj,by omega⟩) ?p3)
    case f3 =>
     rintro c bT ⟨g3,out,i,j,mg,ac,bc,rfl,m,h1,h2,h3⟩
     omega
    case p3 =>
     rintro c bT ⟨g3,⟨r,out,i,j,mg,ac,bc,rfl,q⟩ | ⟨out,i,j,mg,ac,bc,rfl,m,hi,hj,g7⟩⟩
     ·exact wpS_pure ⟨g3,r,_,_,_,_,rfl,q⟩
     ·dsimp only;exact wpS_bind (wpS_modify (wpS_pure ⟨g3.set _,_,_,_,_,rfl,m,hi,hj,g7⟩))
    case s3 =>
     rintro y c bT _ hy ⟨g3,out,i,j,mg,ac,bc,rfl,m,hi,hj,g7⟩;obtain⟨pb,eb,gc,kb⟩:=bW ib hj;dsimp only;refine aA (λhmg=>?_) λhmg=>?_
     ·have g4:=g3.set (mg - 1);refine wpS_bind (wpS_modify ?_);refine wpS_bind (a_ eb (wpS_bind (eU (by rw[g4.k];exact hk) gc ia (by omega) (by omega) (λi j _ h1 h2=>sA h1 (by omega)) λk k1 k2 k3=>?_)))
      dsimp only;have m2:=m.mA (k:=k) SA λmm y h1 h2 z hz=>by
       have t:=k2 mm h1;unfold aV at t;rw[if_neg (by simp),cC h2] at t
       simp at t;exact d7 SB (bQ eb) t z hz
      have l9:i+k<a.size->∀y∈a.toList.drop (i+k),Kd pb<=Kd y:=λaY=>by
       obtain⟨pn,en,l_,kn⟩:=bW ia aY;have t:=k3 k (Nat.le_refl _) (by omega)
       unfold aV at t;rw[if_neg (by simp),kn] at t
       simp at t;exact d7 SA (bQ en) (by omega)
      refine aA (λiM=>?_) λiM=>?_
      ·refine aA (λe=>wpS_pure ⟨g4,.inl ⟨_,_,_,_,_,_,_,rfl,cM m2 g4 (by simpa using e)⟩⟩) λe=>aA (λe'=>wpS_pure ⟨g4,.inl ⟨_,_,_,_,_,_,_,rfl,fin m2 g4 (.inl (by simp at e';omega))⟩⟩) λe'=>?_
       have d8:i+k+1<a.size:=by simp at e e';omega
       have fc:=l9 (by omega)
       refine wpS_bind (a_ eb ?_);have m3:=m2.pB SB (bQ eb) fc;refine aA (λe=>wpS_pure ⟨g4,.inl ⟨_,_,_,_,_,_,_,rfl,fin m3 g4 (.inr (by simp at e;omega))⟩⟩) λe=>?_
       have cN:j+1<b.size:=by simp at e;omega
       obtain⟨pa,ea,cP,ka⟩:=bW ia (Nat.lt_of_succ_lt d8);refine wpS_bind (a_ ea (wpS_bind (eU (by rw[g4.k];exact hk) cP ib (by omega) (by omega) (λi j _ h1 h2=>sB h1 (by omega)) λn n1 n2 n3=>?_)))
       dsimp only;have m4:=m3.mB (k:=n) SB λmm y h1 h2 z hz=>by
        have t:=n2 mm h1;unfold aV at t;rw[if_pos rfl,cC h2] at t;have t:=of_decide_eq_true t;exact d7 SA (bQ ea) (by omega) z hz
       have gf:j+1+n<b.size->∀y∈b.toList.drop (j+1+n),Kd pa<=Kd y:=λaY=>by
        obtain⟨pn,en,l_,kn⟩:=bW ib aY;have t:=n3 n (Nat.le_refl _) (by omega)
        unfold aV at t;rw[if_pos rfl,kn] at t;have t:=of_decide_eq_false t;exact d7 SB (bQ en) (by omega)
       refine aA (λd9=>?_) λd9=>?_
       ·refine aA (λe=>wpS_pure ⟨g4,.inl ⟨_,_,_,_,_,_,_,rfl,fin m4 g4 (.inr (by simp at e;omega))⟩⟩) λe=>?_
        have cN:j+1+n<b.size:=by simp at e;omega
        have cg:=gf cN;refine wpS_bind (a_ ea ?_);have m5:=m4.pA SA (bQ ea) cg;refine aA (λe=>wpS_pure ⟨g4,.inl ⟨_,_,_,_,_,_,_,rfl,cM m5 g4 (by simpa using e)⟩⟩) λe=>?_
        have e:_+1+1<a.size:=iL d8 e;exact aA (λ_=>wpS_pure ⟨g4,.inr ⟨_,_,_,_,_,_,rfl,m5,by omega,by omega,by omega⟩⟩) λ_=>wpS_pure ⟨g4,_,_,_,_,_,_,rfl,m5,by omega,by omega,by omega⟩
       ·have:n=0:=by omega
        subst this;have cg:=gf cN;refine wpS_bind (a_ ea ?_);have m5:=m3.pA SA (bQ ea) cg;refine aA (λe=>wpS_pure ⟨g4,.inl ⟨_,_,_,_,_,_,_,rfl,cM m5 g4 (by simpa using e)⟩⟩) λe=>?_
        have e:_+1+1<a.size:=iL d8 e;exact aA (λ_=>wpS_pure ⟨g4,.inr ⟨_,_,_,_,_,_,rfl,m5,by omega,by omega,by omega⟩⟩) λ_=>wpS_pure ⟨g4,_,_,_,_,_,_,rfl,m5,by omega,by omega,by omega⟩
      ·have:k=0:=by omega
       subst this;have d8:i+1<a.size:=hi;have fc:=l9 (by omega)
       refine wpS_bind (a_ eb ?_);have m3:=m.pB SB (bQ eb) fc;refine aA (λe=>wpS_pure ⟨g4,.inl ⟨_,_,_,_,_,_,_,rfl,fin m3 g4 (.inr (by simp at e;omega))⟩⟩) λe=>?_
       have cN:j+1<b.size:=by simp at e;omega
       obtain⟨pa,ea,cP,ka⟩:=bW ia (Nat.lt_of_succ_lt d8);refine wpS_bind (a_ ea (wpS_bind (eU (by rw[g4.k];exact hk) cP ib (by omega) (by omega) (λi j _ h1 h2=>sB h1 (by omega)) λn n1 n2 n3=>?_)))
       dsimp only;have m4:=m3.mB (k:=n) SB λmm y h1 h2 z hz=>by
        have t:=n2 mm h1;unfold aV at t;rw[if_pos rfl,cC h2] at t;have t:=of_decide_eq_true t;exact d7 SA (bQ ea) (by omega) z hz
       have gf:j+1+n<b.size->∀y∈b.toList.drop (j+1+n),Kd pa<=Kd y:=λaY=>by
        obtain⟨pn,en,l_,kn⟩:=bW ib aY;have t:=n3 n (Nat.le_refl _) (by omega)
        unfold aV at t;rw[if_pos rfl,kn] at t;have t:=of_decide_eq_false t;exact d7 SB (bQ en) (by omega)
       refine aA (λd9=>?_) λd9=>?_
       ·refine aA (λe=>wpS_pure ⟨g4,.inl ⟨_,_,_,_,_,_,_,rfl,fin m4 g4 (.inr (by simp at e;omega))⟩⟩) λe=>?_
        have cN:j+1+n<b.size:=by simp at e;omega
        have cg:=gf cN;refine wpS_bind (a_ ea ?_);have m5:=m4.pA SA (bQ ea) cg;refine aA (λe=>wpS_pure ⟨g4,.inl ⟨_,_,_,_,_,_,_,rfl,cM m5 g4 (by simpa using e)⟩⟩) λe=>?_
        have e:_+1+1<a.size:=iL d8 e;exact aA (λ_=>wpS_pure ⟨g4,.inr ⟨_,_,_,_,_,_,rfl,m5,by omega,by omega,by omega⟩⟩) λ_=>wpS_pure ⟨g4,_,_,_,_,_,_,rfl,m5,by omega,by omega,by omega⟩
       ·have:n=0:=by omega
        subst this;have cg:=gf cN;refine wpS_bind (a_ ea ?_);have m5:=m3.pA SA (bQ ea) cg;refine aA (λe=>wpS_pure ⟨g4,.inl ⟨_,_,_,_,_,_,_,rfl,cM m5 g4 (by simpa using e)⟩⟩) λe=>?_
        have e:_+1+1<a.size:=iL d8 e;exact aA (λ_=>wpS_pure ⟨g4,.inr ⟨_,_,_,_,_,_,rfl,m5,by omega,by omega,by omega⟩⟩) λ_=>wpS_pure ⟨g4,_,_,_,_,_,_,rfl,m5,by omega,by omega,by omega⟩
     ·have g4:=g3.set mg;refine wpS_bind (wpS_modify ?_);refine wpS_bind (a_ eb (wpS_bind (eU (by rw[g4.k];exact hk) gc ia (by omega) (by omega) (λi j _ h1 h2=>sA h1 (by omega)) λk k1 k2 k3=>?_)))
      dsimp only;have m2:=m.mA (k:=k) SA λmm y h1 h2 z hz=>by
       have t:=k2 mm h1;unfold aV at t;rw[if_neg (by simp),cC h2] at t
       simp at t;exact d7 SB (bQ eb) t z hz
      have l9:i+k<a.size->∀y∈a.toList.drop (i+k),Kd pb<=Kd y:=λaY=>by
       obtain⟨pn,en,l_,kn⟩:=bW ia aY;have t:=k3 k (Nat.le_refl _) (by omega)
       unfold aV at t;rw[if_neg (by simp),kn] at t
       simp at t;exact d7 SA (bQ en) (by omega)
      refine aA (λiM=>?_) λiM=>?_
      ·refine aA (λe=>wpS_pure ⟨g4,.inl ⟨_,_,_,_,_,_,_,rfl,cM m2 g4 (by simpa using e)⟩⟩) λe=>aA (λe'=>wpS_pure ⟨g4,.inl ⟨_,_,_,_,_,_,_,rfl,fin m2 g4 (.inl (by simp at e';omega))⟩⟩) λe'=>?_
       have d8:i+k+1<a.size:=by simp at e e';omega
       have fc:=l9 (by omega)
       refine wpS_bind (a_ eb ?_);have m3:=m2.pB SB (bQ eb) fc;refine aA (λe=>wpS_pure ⟨g4,.inl ⟨_,_,_,_,_,_,_,rfl,fin m3 g4 (.inr (by simp at e;omega))⟩⟩) λe=>?_
       have cN:j+1<b.size:=by simp at e;omega
       obtain⟨pa,ea,cP,ka⟩:=bW ia (Nat.lt_of_succ_lt d8);refine wpS_bind (a_ ea (wpS_bind (eU (by rw[g4.k];exact hk) cP ib (by omega) (by omega) (λi j _ h1 h2=>sB h1 (by omega)) λn n1 n2 n3=>?_)))
       dsimp only;have m4:=m3.mB (k:=n) SB λmm y h1 h2 z hz=>by
        have t:=n2 mm h1;unfold aV at t;rw[if_pos rfl,cC h2] at t;have t:=of_decide_eq_true t;exact d7 SA (bQ ea) (by omega) z hz
       have gf:j+1+n<b.size->∀y∈b.toList.drop (j+1+n),Kd pa<=Kd y:=λaY=>by
        obtain⟨pn,en,l_,kn⟩:=bW ib aY;have t:=n3 n (Nat.le_refl _) (by omega)
        unfold aV at t;rw[if_pos rfl,kn] at t;have t:=of_decide_eq_false t;exact d7 SB (bQ en) (by omega)
       refine aA (λd9=>?_) λd9=>?_
       ·refine aA (λe=>wpS_pure ⟨g4,.inl ⟨_,_,_,_,_,_,_,rfl,fin m4 g4 (.inr (by simp at e;omega))⟩⟩) λe=>?_
        have cN:j+1+n<b.size:=by simp at e;omega
        have cg:=gf cN;refine wpS_bind (a_ ea ?_);have m5:=m4.pA SA (bQ ea) cg;refine aA (λe=>wpS_pure ⟨g4,.inl ⟨_,_,_,_,_,_,_,rfl,cM m5 g4 (by simpa using e)⟩⟩) λe=>?_
        have e:_+1+1<a.size:=iL d8 e;exact aA (λ_=>wpS_pure ⟨g4,.inr ⟨_,_,_,_,_,_,rfl,m5,by omega,by omega,by omega⟩⟩) λ_=>wpS_pure ⟨g4,_,_,_,_,_,_,rfl,m5,by omega,by omega,by omega⟩
       ·have:n=0:=by omega
        subst this;have cg:=gf cN;refine wpS_bind (a_ ea ?_);have m5:=m3.pA SA (bQ ea) cg;refine aA (λe=>wpS_pure ⟨g4,.inl ⟨_,_,_,_,_,_,_,rfl,cM m5 g4 (by simpa using e)⟩⟩) λe=>?_
        have e:_+1+1<a.size:=iL d8 e;exact aA (λ_=>wpS_pure ⟨g4,.inr ⟨_,_,_,_,_,_,rfl,m5,by omega,by omega,by omega⟩⟩) λ_=>wpS_pure ⟨g4,_,_,_,_,_,_,rfl,m5,by omega,by omega,by omega⟩
      ·have:k=0:=by omega
       subst this;have d8:i+1<a.size:=hi;have fc:=l9 (by omega)
       refine wpS_bind (a_ eb ?_);have m3:=m.pB SB (bQ eb) fc;refine aA (λe=>wpS_pure ⟨g4,.inl ⟨_,_,_,_,_,_,_,rfl,fin m3 g4 (.inr (by simp at e;omega))⟩⟩) λe=>?_
       have cN:j+1<b.size:=by simp at e;omega
       obtain⟨pa,ea,cP,ka⟩:=bW ia (Nat.lt_of_succ_lt d8);refine wpS_bind (a_ ea (wpS_bind (eU (by rw[g4.k];exact hk) cP ib (by omega) (by omega) (λi j _ h1 h2=>sB h1 (by omega)) λn n1 n2 n3=>?_)))
       dsimp only;have m4:=m3.mB (k:=n) SB λmm y h1 h2 z hz=>by
        have t:=n2 mm h1;unfold aV at t;rw[if_pos rfl,cC h2] at t;have t:=of_decide_eq_true t;exact d7 SA (bQ ea) (by omega) z hz
       have gf:j+1+n<b.size->∀y∈b.toList.drop (j+1+n),Kd pa<=Kd y:=λaY=>by
        obtain⟨pn,en,l_,kn⟩:=bW ib aY;have t:=n3 n (Nat.le_refl _) (by omega)
        unfold aV at t;rw[if_pos rfl,kn] at t;have t:=of_decide_eq_false t;exact d7 SB (bQ en) (by omega)
       refine aA (λd9=>?_) λd9=>?_
       ·refine aA (λe=>wpS_pure ⟨g4,.inl ⟨_,_,_,_,_,_,_,rfl,fin m4 g4 (.inr (by simp at e;omega))⟩⟩) λe=>?_
        have cN:j+1+n<b.size:=by simp at e;omega
        have cg:=gf cN;refine wpS_bind (a_ ea ?_);have m5:=m4.pA SA (bQ ea) cg;refine aA (λe=>wpS_pure ⟨g4,.inl ⟨_,_,_,_,_,_,_,rfl,cM m5 g4 (by simpa using e)⟩⟩) λe=>?_
        have e:_+1+1<a.size:=iL d8 e;exact aA (λ_=>wpS_pure ⟨g4,.inr ⟨_,_,_,_,_,_,rfl,m5,by omega,by omega,by omega⟩⟩) λ_=>wpS_pure ⟨g4,_,_,_,_,_,_,rfl,m5,by omega,by omega,by omega⟩
       ·have:n=0:=by omega
        subst this;have cg:=gf cN;refine wpS_bind (a_ ea ?_);have m5:=m3.pA SA (bQ ea) cg;refine aA (λe=>wpS_pure ⟨g4,.inl ⟨_,_,_,_,_,_,_,rfl,cM m5 g4 (by simpa using e)⟩⟩) λe=>?_
        have e:_+1+1<a.size:=iL d8 e;exact aA (λ_=>wpS_pure ⟨g4,.inr ⟨_,_,_,_,_,_,rfl,m5,by omega,by omega,by omega⟩⟩) λ_=>wpS_pure ⟨g4,_,_,_,_,_,_,rfl,m5,by omega,by omega,by omega⟩
end
noncomputable def Jj:Array Keyed->Array Keyed->StateT SortSt Sem (Array Keyed):=sortPriv% PySem.Builtin.mergeHi
structure MH(a b out:Array Keyed)(na nb:Nat):Prop where
 m:MI iK a.toList.reverse b.toList.reverse out.toList (a.size - na) (b.size - nb)
 na:na<=a.size
 nb:nb<=b.size
theorem kD{a:Array Keyed}{n:Nat}(h:n<=a.size):a.toList.reverse.drop (a.size - n)=(a.toList.take n).reverse:=by
 rw[List.drop_reverse];congr 2;simp
 omega
theorem AQ{a:Array Keyed}{n:Nat}{x:Keyed}(h1:1<=n)(e:a[n - 1]? = some x):a.toList.reverse[a.size - n]? = some x:=by
 have hn:=(Array.getElem?_eq_some_iff.mp e).1;rw[List.getElem?_reverse (by simp;omega)]
 simp only[Array.length_toList];rw[show a.size - 1 - (a.size - n)=n - 1 by omega]
 simpa using e
theorem jF{a:Array Keyed}{n:Nat}{y:Keyed}(h:n<=a.size)(hy:y∈a.toList.reverse.drop (a.size - n)):∃m,m<n/\a[m]? = some y:=by
 rw[kD h,List.mem_reverse] at hy;obtain⟨m,e⟩:=List.getElem?_of_mem hy;rw[List.getElem?_take] at e;by_cases hm:m<n
 ·rw[if_pos hm] at e;exact⟨m,hm,by simpa using e⟩
 ·rw[if_neg hm] at e;exact nomatch e
theorem iN{a:Array Keyed}(SA:∀ {i j},i<=j->j<a.size->K a i<=K a j){m n:Nat}{y z:Keyed}(ey:a[m]? = some y)(ez:a[n]? = some z)(h:m<=n):Kd y<=Kd z:=by
 rw[← cC ey,← cC ez];exact SA h (Array.getElem?_eq_some_iff.mp ez).1
section
variable{a b out:Array Keyed}{na nb t:Nat}{x:Keyed}
theorem MH.pA(h:MH a b out na nb)(SA:a.toList.reverse.Pairwise iK)(h1:1<=na)(e:a[na - 1]? = some x)(le:∀m z,m<nb->b[m]? = some z->Kd z<=Kd x):MH a b (out.push x) (na - 1) nb:=by
 have hn:=h.na;have:=h.m.pA SA (AQ h1 e) λy hy=>let ⟨m,h1,h2⟩:=jF h.nb hy;le m y h1 h2
 rw[show a.size - na+1=a.size - (na - 1) by omega] at this
 exact⟨this,by omega,h.nb⟩
theorem MH.pB(h:MH a b out na nb)(SB:b.toList.reverse.Pairwise iK)(h1:1<=nb)(e:b[nb - 1]? = some x)(le:∀m z,m<na->a[m]? = some z->Kd z<=Kd x):MH a b (out.push x) na (nb - 1):=by
 have hn:=h.nb;have:=h.m.pB SB (AQ h1 e) λy hy=>let ⟨m,h1,h2⟩:=jF h.na hy;le m y h1 h2
 rw[show b.size - nb+1=b.size - (nb - 1) by omega] at this
 exact⟨this,h.na,by omega⟩
theorem AR{n:Nat}(ht:t<=n)(hn:n<=a.size):(a.toList.reverse.drop (a.size - n)).take (n - t)=(a.extract t n).reverse.toList:=by
 rw[kD hn,Array.toList_reverse,Array.toList_extract,List.extract_eq_take_drop,List.take_reverse];congr 1;rw[List.drop_take];congr 2
 ·simp;omega
 ·simp;omega
theorem MH.mA(h:MH a b out na nb)(SA:a.toList.reverse.Pairwise iK)(ht:t<=na)(le:∀m y,t<=m->m<na->a[m]? = some y->∀mz z,mz<nb->b[mz]? = some z->Kd z<=Kd y):MH a b (out++(a.extract t na).reverse) t nb:=by
 have hn:=h.na;have:=h.m.pU SA (na - t) λy hy z hz=>by
  obtain⟨mz,h1,h2⟩:=jF h.nb hz;rw[AR ht hn,Array.toList_reverse,List.mem_reverse] at hy;obtain⟨m,em⟩:=List.getElem?_of_mem hy;rw[Array.toList_extract,List.extract_eq_take_drop,List.getElem?_take] at em;by_cases hm:m<na - t
  ·rw[if_pos hm,List.getElem?_drop] at em;exact le (t+m) y (by omega) (by omega) (by simpa using em) mz z h1 h2
  ·rw[if_neg hm] at em;exact nomatch em
 rw[AR ht hn,← Array.toList_append,show a.size - na+(na - t)=a.size - t by omega] at this
 exact⟨this,by omega,h.nb⟩
theorem MH.swap(h:MH a b out na nb):MH b a out nb na:=⟨h.m.swap,h.nb,h.na⟩
theorem MH.mB(h:MH a b out na nb)(SB:b.toList.reverse.Pairwise iK)(ht:t<=nb)(le:∀m y,t<=m->m<nb->b[m]? = some y->∀mz z,mz<na->a[mz]? = some z->Kd z<=Kd y):MH a b (out++(b.extract t nb).reverse) na t :=
 (h.swap.mA SB ht le).swap
theorem AS{xs A B:List Keyed}(h:gK iK A.reverse B.reverse xs.reverse):gK cL A B xs:=by
 refine⟨?_,?_⟩
 ·have p1:xs.Perm xs.reverse:=(List.reverse_perm xs).symm;refine(p1.trans h.p).trans ?_;exact List.Perm.append (List.reverse_perm A) (List.reverse_perm B)
 ·have:=List.pairwise_reverse.mp h.s;exact this
end
section
variable{prog:Program}{w:World}{A:Around}{E:Value->Shared->Prop}{s:Shared}
theorem Jk{a b:Array Keyed}{Q:Array Keyed->SortSt->Prop}{st:SortSt}(hk:kindOf st=oneType')(ia:IntKeys a)(ib:IntKeys b)(AU:a.toList.Pairwise cL)(AV:b.toList.Pairwise cL)(ha:0<a.size)(hb:0<b.size)
  (h0:∀i,i<a.size->K b 0<=K a i) (hl:∀i,i<b.size->K b i<=K a (a.size - 1)) (h:∀xs ah,Sg st ah->gK cL a.toList b.toList xs.toList->Q xs ah):wpS (model prog w) A E s (Jj a b) Q st:=by
 have sA:∀ {i j},i<=j->j<a.size->K a i<=K a j:=λh1 h2=>l7 AU h1 h2;have sB:∀ {i j},i<=j->j<b.size->K b i<=K b j:=λh1 h2=>l7 AV h1 h2;have mh:=@sA;have uH:=@sB;have SA:a.toList.reverse.Pairwise iK:=List.pairwise_reverse.mpr AU;have SB:b.toList.reverse.Pairwise iK:=List.pairwise_reverse.mpr AV;have fin:∀ {out:Array Keyed} {i j:Nat} {ah},MH a b out i j->Sg st ah->(i=0\/j=0)->Q (a.extract 0 i++b.extract 0 j++out.reverse) ah:=λ{out i j ah} m g e=>by
  refine h _ _ g (AS ?_);have:=m.m.last SA SB λx hx y hy=>by
   obtain⟨m1,h1,h2⟩:=jF m.nb hx;obtain⟨m2,h3,h4⟩:=jF m.na hy
   omega
  rw[kD m.na,kD m.nb] at this;have e2:(a.extract 0 i++b.extract 0 j++out.reverse).toList.reverse=out.toList++(b.toList.take j).reverse++(a.toList.take i).reverse:=by simp
  rw[e2];exact this
 have cM:∀ {out:Array Keyed} {i j:Nat} {ah},MH a b out i j->Sg st ah->j=1->Q (b.extract 0 j++a.extract 0 i++out.reverse) ah:=λ{out i j ah} m g e=>by
  refine h _ _ g (AS ?_);have:=(m.m.swap.last SB SA λx hx y hy=>by
   obtain⟨m1,h1,h2⟩:=jF m.na hx;obtain⟨m2,h3,h4⟩:=jF m.nb hy;have:m2=0:=by omega
   subst this;have t:=h0 m1 (Array.getElem?_eq_some_iff.mp h2).1;rw[cC h2,cC h4] at t;exact t).swap
  rw[kD m.na,kD m.nb] at this;have e2:(b.extract 0 j++a.extract 0 i++out.reverse).toList.reverse=out.toList++(a.toList.take i).reverse++(b.toList.take j).reverse:=by simp
  rw[e2];exact this
 obtain⟨p,ep,ip,kp⟩:=bW ia (show a.size - 1<a.size by omega)
 refine wpS_bind (wpS_lift (wpAny_rule ⟨rfl,?_⟩));refine wpS_bind (a_ ep ?_);have m0:MH a b #[] a.size b.size:=⟨⟨by simp,.nil,(λ_ z=>nomatch z),(λ_ z=>nomatch z)⟩,Nat.le_refl _,Nat.le_refl _⟩
 have m1:MH a b #[p] (a.size - 1) b.size:=m0.pA SA (by omega) ep λm z h1 h2=>by
  have:=hl m h1;rw[cC h2,kp] at this;exact this
 refine aA (λe=>wpS_pure (fin m1 (Sg.refl _) (.inl (by simpa using e)))) λe1=>?_
 refine aA (λe=>wpS_pure (cM m1 (Sg.refl _) (by simpa using e))) λe2=>?_
 have e1:1<=a.size - 1:=by simp at e1;omega
 have e2:2<=b.size:=by simp at e2;omega
 refine wpS_bind (wpS_get ?_);refine wpS_bind (wpS_mono (wpS_forRange (I:=λx c ah=>Sg st ah/\∃na nb out mg,c=(none,na,nb,out,mg)/\MH a b out na nb/\1<=na/\2<=nb/\x+na+nb<=a.size+b.size)
  (Q:=λc ah=>Sg st ah/\∃r na nb out mg,c=(some r,na,nb,out,mg)/\Q r ah) ?step ?fin ⟨Sg.refl _,_,_,_,_,rfl,m1,by omega,by omega,by omega⟩) ?post)
 case post =>
  rintro c ah ⟨g,r,na,nb,out,mg,rfl,q⟩;exact wpS_pure q
 case fin =>
  rintro c ah ⟨g,na,nb,out,mg,rfl,m,h1,h2,h3⟩
  omega
 case step =>
  rintro x c ah _ hx ⟨g,na,nb,out,mg,rfl,m,hi,hj,Ji⟩;dsimp only;refine wpS_bind (wpS_mono (wpS_forRange (I:=λy c aP=>aP=ah/\∃na nb out ac bc,c=(none,na,nb,out,ac,bc)/\MH a b out na nb/\1<=na/\2<=nb/\x+y+na+nb<=a.size+b.size)
   (Q:=λc aP=>aP=ah/\((∃r na nb out ac bc,c=(some r,na,nb,out,ac,bc)/\Q r ah)\/(∃na nb out ac bc,c=(none,na,nb,out,ac,bc)/\MH a b out na nb/\1<=na/\2<=nb/\x+1+na+nb<=a.size+b.size))) ?s2 ?f2 ⟨rfl,na,nb,out,0,0,rfl,m,hi,hj,by omega⟩) ?p2)
  case f2 =>
   rintro c aP ⟨rfl,na,nb,out,ac,bc,rfl,m,h1,h2,h3⟩
   omega
  case s2 =>
   rintro y c aP _ hy ⟨rfl,na,nb,out,ac,bc,rfl,m,hi,hj,g7⟩;have Jl:=m.na;have Jm:=m.nb;obtain⟨pb,eb,gc,kb⟩:=bW ib (show nb - 1<b.size by omega)
   obtain⟨pa,ea,cP,ka⟩:=bW ia (show na - 1<a.size by omega)
   refine wpS_bind (a_ eb (wpS_bind (a_ ea (wpS_bind (pQ (by rw[g.k];exact hk) gc cP ?_)))))
   dsimp only;refine aA (λhw=>?_) λhw=>?_
   ·have hw:=of_decide_eq_true hw;refine wpS_bind (a_ ea ?_);have m':=m.pA SA hi ea λmz z h1 ez=>by
     have:=iN uH ez eb (by omega)
     omega
    refine aA (λe=>wpS_pure ⟨rfl,.inl ⟨_,_,_,_,_,_,rfl,fin m' g (.inl (by simpa using e))⟩⟩) λe=>?_
    have e:1<=na - 1:=by simp at e;omega
    exact aA (λ_=>wpS_pure ⟨rfl,.inr ⟨_,_,_,_,_,rfl,m',by omega,by omega,by omega⟩⟩) λ_=>wpS_pure ⟨rfl,_,_,_,_,_,rfl,m',by omega,by omega,by omega⟩
   ·have hw:¬ Kd pb<Kd pa:=λz=>hw (decide_eq_true z);refine wpS_bind (a_ eb ?_);have m':=m.pB SB (by omega) eb λmz z h1 ez=>by
     have:=iN mh ez ea (by omega)
     omega
    refine aA (λe=>wpS_pure ⟨rfl,.inl ⟨_,_,_,_,_,_,rfl,cM m' g (by simpa using e)⟩⟩) λe=>?_
    have e:2<=nb - 1:=by simp at e;omega
    exact aA (λ_=>wpS_pure ⟨rfl,.inr ⟨_,_,_,_,_,rfl,m',by omega,by omega,by omega⟩⟩) λ_=>wpS_pure ⟨rfl,_,_,_,_,_,rfl,m',by omega,by omega,by omega⟩
  case p2 =>
   rintro c aP ⟨rfl,⟨r,na,nb,out,ac,bc,rfl,q⟩ | ⟨na,nb,out,ac,bc,rfl,m,hi,hj,g7⟩⟩
   ·exact wpS_pure ⟨g,r,_,_,_,_,rfl,q⟩
   ·dsimp only;refine wpS_bind (wpS_lift (wpAny_rule ⟨rfl,?_⟩));refine wpS_bind (wpS_mono (wpS_forRange (I:=λy c bT=>Sg st bT/\∃na nb out mg ac bc,c=(none,na,nb,out,mg,ac,bc)/\MH a b out na nb/\1<=na/\2<=nb/\x+1+y+na+nb<=a.size+b.size)
     (Q:=λc bT=>Sg st bT/\((∃r na nb out mg ac bc,c=(some r,na,nb,out,mg,ac,bc)/\Q r bT)\/(∃na nb out mg ac bc,c=(none,na,nb,out,mg,ac,bc)/\MH a b out na nb/\1<=na/\2<=nb/\x+1+na+nb<=a.size+b.size))) ?s3 ?f3 ⟨g,na,nb,out,_,_,_,rfl,m,hi,hj,by omega⟩) ?p3)
    case f3 =>
     rintro c bT ⟨g3,na,nb,out,mg,ac,bc,rfl,m,h1,h2,h3⟩
     omega
    case p3 =>
     rintro c bT ⟨g3,⟨r,na,nb,out,mg,ac,bc,rfl,q⟩ | ⟨na,nb,out,mg,ac,bc,rfl,m,hi,hj,g7⟩⟩
     ·exact wpS_pure ⟨g3,r,_,_,_,_,rfl,q⟩
     ·dsimp only;exact wpS_bind (wpS_modify (wpS_pure ⟨g3.set _,_,_,_,_,rfl,m,hi,hj,g7⟩))
    case s3 =>
     rintro y c bT _ hy ⟨g3,na,nb,out,mg,ac,bc,rfl,m,hi,hj,g7⟩;have Jl:=m.na;have Jm:=m.nb;obtain⟨pb,eb,gc,kb⟩:=bW ib (show nb - 1<b.size by omega)
     dsimp only;refine aA (λhmg=>?_) λhmg=>?_
     ·have g4:=g3.set (mg - 1);refine wpS_bind (wpS_modify ?_);refine wpS_bind (a_ eb (wpS_bind (eU (by rw[g4.k];exact hk) gc ia (by omega) (by omega) (λi j _ h1 h2=>sA h1 (by omega)) λk k1 k2 k3=>?_)))
      dsimp only;have m2:=m.mA (t:=k) SA k1 λmm y h1 h2 e mz z hz ez=>by
       have t:=k3 mm h1 h2;unfold aV at t;rw[if_neg (by simp),Nat.zero_add,cC e] at t
       simp at t;have:=iN uH ez eb (by omega)
       omega
      have fc:∀mz z,mz<k->a[mz]? = some z->Kd z<=Kd pb:=λmz z h1 ez=>by
       have t:=k2 mz h1;unfold aV at t;rw[if_neg (by simp),Nat.zero_add,cC ez] at t
       simpa using t
      refine aA (λiM=>?_) λiM=>?_
      ·refine aA (λe=>wpS_pure ⟨g4,.inl ⟨_,_,_,_,_,_,_,rfl,fin m2 g4 (.inl (by simpa using e))⟩⟩) λe=>?_
       have gh:1<=k:=by simp at e;omega
       refine wpS_bind (a_ eb ?_);have m3:=m2.pB SB (by omega) eb fc
       refine aA (λe=>wpS_pure ⟨g4,.inl ⟨_,_,_,_,_,_,_,rfl,cM m3 g4 (by simpa using e)⟩⟩) λe=>?_
       have cN:2<=nb - 1:=by simp at e;omega
       obtain⟨pa,ea,cP,ka⟩:=bW ia (show k - 1<a.size by omega)
       refine wpS_bind (a_ ea (wpS_bind (eU (by rw[g4.k];exact hk) cP ib (by omega) (by omega) (λi j _ h1 h2=>sB h1 (by omega)) λn n1 n2 n3=>?_)))
       dsimp only;have m4:=m3.mB (t:=n) SB n1 λmm y h1 h2 e mz z hz ez=>by
        have t:=n3 mm h1 h2;unfold aV at t;rw[if_pos rfl,Nat.zero_add,cC e] at t;have t:=of_decide_eq_false t;have:=iN mh ez ea (by omega)
        omega
       have cg:∀mz z,mz<n->b[mz]? = some z->Kd z<=Kd pa:=λmz z h1 ez=>by
        have t:=n2 mz h1;unfold aV at t;rw[if_pos rfl,Nat.zero_add,cC ez] at t;have t:=of_decide_eq_true t
        omega
       refine aA (λd9=>?_) λd9=>?_
       ·refine aA (λe=>wpS_pure ⟨g4,.inl ⟨_,_,_,_,_,_,_,rfl,cM m4 g4 (by simpa using e)⟩⟩) λe=>aA (λe'=>wpS_pure ⟨g4,.inl ⟨_,_,_,_,_,_,_,rfl,fin m4 g4 (.inr (by simpa using e'))⟩⟩) λe'=>?_
        have cN:2<=n:=by simp at e e';omega
        refine wpS_bind (a_ ea ?_);have m5:=m4.pA SA gh ea cg;refine aA (λe=>wpS_pure ⟨g4,.inl ⟨_,_,_,_,_,_,_,rfl,fin m5 g4 (.inl (by simpa using e))⟩⟩) λe=>?_
        have e:1<=k - 1:=by simp at e;omega
        exact aA (λ_=>wpS_pure ⟨g4,.inr ⟨_,_,_,_,_,_,rfl,m5,by omega,by omega,by omega⟩⟩) λ_=>wpS_pure ⟨g4,_,_,_,_,_,_,rfl,m5,by omega,by omega,by omega⟩
       ·have:n=nb - 1:=by omega
        subst this;refine wpS_bind (a_ ea ?_);have m5:=m3.pA SA gh ea cg;refine aA (λe=>wpS_pure ⟨g4,.inl ⟨_,_,_,_,_,_,_,rfl,fin m5 g4 (.inl (by simpa using e))⟩⟩) λe=>?_
        have e:1<=k - 1:=by simp at e;omega
        exact aA (λ_=>wpS_pure ⟨g4,.inr ⟨_,_,_,_,_,_,rfl,m5,by omega,by omega,by omega⟩⟩) λ_=>wpS_pure ⟨g4,_,_,_,_,_,_,rfl,m5,by omega,by omega,by omega⟩
      ·have:k=na:=by omega
       subst this;have gh:1<=k:=by omega
       refine wpS_bind (a_ eb ?_);have m3:=m.pB SB (by omega) eb fc
       refine aA (λe=>wpS_pure ⟨g4,.inl ⟨_,_,_,_,_,_,_,rfl,cM m3 g4 (by simpa using e)⟩⟩) λe=>?_
       have cN:2<=nb - 1:=by simp at e;omega
       obtain⟨pa,ea,cP,ka⟩:=bW ia (show k - 1<a.size by omega)
       refine wpS_bind (a_ ea (wpS_bind (eU (by rw[g4.k];exact hk) cP ib (by omega) (by omega) (λi j _ h1 h2=>sB h1 (by omega)) λn n1 n2 n3=>?_)))
       dsimp only;have m4:=m3.mB (t:=n) SB n1 λmm y h1 h2 e mz z hz ez=>by
        have t:=n3 mm h1 h2;unfold aV at t;rw[if_pos rfl,Nat.zero_add,cC e] at t;have t:=of_decide_eq_false t;have:=iN mh ez ea (by omega)
        omega
       have cg:∀mz z,mz<n->b[mz]? = some z->Kd z<=Kd pa:=λmz z h1 ez=>by
        have t:=n2 mz h1;unfold aV at t;rw[if_pos rfl,Nat.zero_add,cC ez] at t;have t:=of_decide_eq_true t
        omega
       refine aA (λd9=>?_) λd9=>?_
       ·refine aA (λe=>wpS_pure ⟨g4,.inl ⟨_,_,_,_,_,_,_,rfl,cM m4 g4 (by simpa using e)⟩⟩) λe=>aA (λe'=>wpS_pure ⟨g4,.inl ⟨_,_,_,_,_,_,_,rfl,fin m4 g4 (.inr (by simpa using e'))⟩⟩) λe'=>?_
        have cN:2<=n:=by simp at e e';omega
        refine wpS_bind (a_ ea ?_);have m5:=m4.pA SA gh ea cg;refine aA (λe=>wpS_pure ⟨g4,.inl ⟨_,_,_,_,_,_,_,rfl,fin m5 g4 (.inl (by simpa using e))⟩⟩) λe=>?_
        have e:1<=k - 1:=by simp at e;omega
        exact aA (λ_=>wpS_pure ⟨g4,.inr ⟨_,_,_,_,_,_,rfl,m5,by omega,by omega,by omega⟩⟩) λ_=>wpS_pure ⟨g4,_,_,_,_,_,_,rfl,m5,by omega,by omega,by omega⟩
       ·have:n=nb - 1:=by omega
        subst this;refine wpS_bind (a_ ea ?_);have m5:=m3.pA SA gh ea cg;refine aA (λe=>wpS_pure ⟨g4,.inl ⟨_,_,_,_,_,_,_,rfl,fin m5 g4 (.inl (by simpa using e))⟩⟩) λe=>?_
        have e:1<=k - 1:=by simp at e;omega
        exact aA (λ_=>wpS_pure ⟨g4,.inr ⟨_,_,_,_,_,_,rfl,m5,by omega,by omega,by omega⟩⟩) λ_=>wpS_pure ⟨g4,_,_,_,_,_,_,rfl,m5,by omega,by omega,by omega⟩
     ·have g4:=g3.set mg;refine wpS_bind (wpS_modify ?_);refine wpS_bind (a_ eb (wpS_bind (eU (by rw[g4.k];exact hk) gc ia (by omega) (by omega) (λi j _ h1 h2=>sA h1 (by omega)) λk k1 k2 k3=>?_)))
      dsimp only;have m2:=m.mA (t:=k) SA k1 λmm y h1 h2 e mz z hz ez=>by
       have t:=k3 mm h1 h2;unfold aV at t;rw[if_neg (by simp),Nat.zero_add,cC e] at t
       simp at t;have:=iN uH ez eb (by omega)
       omega
      have fc:∀mz z,mz<k->a[mz]? = some z->Kd z<=Kd pb:=λmz z h1 ez=>by
       have t:=k2 mz h1;unfold aV at t;rw[if_neg (by simp),Nat.zero_add,cC ez] at t
       simpa using t
      refine aA (λiM=>?_) λiM=>?_
      ·refine aA (λe=>wpS_pure ⟨g4,.inl ⟨_,_,_,_,_,_,_,rfl,fin m2 g4 (.inl (by simpa using e))⟩⟩) λe=>?_
       have gh:1<=k:=by simp at e;omega
       refine wpS_bind (a_ eb ?_);have m3:=m2.pB SB (by omega) eb fc
       refine aA (λe=>wpS_pure ⟨g4,.inl ⟨_,_,_,_,_,_,_,rfl,cM m3 g4 (by simpa using e)⟩⟩) λe=>?_
       have cN:2<=nb - 1:=by simp at e;omega
       obtain⟨pa,ea,cP,ka⟩:=bW ia (show k - 1<a.size by omega)
       refine wpS_bind (a_ ea (wpS_bind (eU (by rw[g4.k];exact hk) cP ib (by omega) (by omega) (λi j _ h1 h2=>sB h1 (by omega)) λn n1 n2 n3=>?_)))
       dsimp only;have m4:=m3.mB (t:=n) SB n1 λmm y h1 h2 e mz z hz ez=>by
        have t:=n3 mm h1 h2;unfold aV at t;rw[if_pos rfl,Nat.zero_add,cC e] at t;have t:=of_decide_eq_false t;have:=iN mh ez ea (by omega)
        omega
       have cg:∀mz z,mz<n->b[mz]? = some z->Kd z<=Kd pa:=λmz z h1 ez=>by
        have t:=n2 mz h1;unfold aV at t;rw[if_pos rfl,Nat.zero_add,cC ez] at t;have t:=of_decide_eq_true t
        omega
       refine aA (λd9=>?_) λd9=>?_
       ·refine aA (λe=>wpS_pure ⟨g4,.inl ⟨_,_,_,_,_,_,_,rfl,cM m4 g4 (by simpa using e)⟩⟩) λe=>aA (λe'=>wpS_pure ⟨g4,.inl ⟨_,_,_,_,_,_,_,rfl,fin m4 g4 (.inr (by simpa using e'))⟩⟩) λe'=>?_
        have cN:2<=n:=by simp at e e';omega
        refine wpS_bind (a_ ea ?_);have m5:=m4.pA SA gh ea cg;refine aA (λe=>wpS_pure ⟨g4,.inl ⟨_,_,_,_,_,_,_,rfl,fin m5 g4 (.inl (by simpa using e))⟩⟩) λe=>?_
        have e:1<=k - 1:=by simp at e;omega
        exact aA (λ_=>wpS_pure ⟨g4,.inr ⟨_,_,_,_,_,_,rfl,m5,by omega,by omega,by omega⟩⟩) λ_=>wpS_pure ⟨g4,_,_,_,_,_,_,rfl,m5,by omega,by omega,by omega⟩
       ·have:n=nb - 1:=by omega
        subst this;refine wpS_bind (a_ ea ?_);have m5:=m3.pA SA gh ea cg;refine aA (λe=>wpS_pure ⟨g4,.inl ⟨_,_,_,_,_,_,_,rfl,fin m5 g4 (.inl (by simpa using e))⟩⟩) λe=>?_
        have e:1<=k - 1:=by simp at e;omega
        exact aA (λ_=>wpS_pure ⟨g4,.inr ⟨_,_,_,_,_,_,rfl,m5,by omega,by omega,by omega⟩⟩) λ_=>wpS_pure ⟨g4,_,_,_,_,_,_,rfl,m5,by omega,by omega,by omega⟩
      ·have:k=na:=by omega
       subst this;have gh:1<=k:=by omega
       refine wpS_bind (a_ eb ?_);have m3:=m.pB SB (by omega) eb fc
       refine aA (λe=>wpS_pure ⟨g4,.inl ⟨_,_,_,_,_,_,_,rfl,cM m3 g4 (by simpa using e)⟩⟩) λe=>?_
       have cN:2<=nb - 1:=by simp at e;omega
       obtain⟨pa,ea,cP,ka⟩:=bW ia (show k - 1<a.size by omega)
       refine wpS_bind (a_ ea (wpS_bind (eU (by rw[g4.k];exact hk) cP ib (by omega) (by omega) (λi j _ h1 h2=>sB h1 (by omega)) λn n1 n2 n3=>?_)))
       dsimp only;have m4:=m3.mB (t:=n) SB n1 λmm y h1 h2 e mz z hz ez=>by
        have t:=n3 mm h1 h2;unfold aV at t;rw[if_pos rfl,Nat.zero_add,cC e] at t;have t:=of_decide_eq_false t;have:=iN mh ez ea (by omega)
        omega
       have cg:∀mz z,mz<n->b[mz]? = some z->Kd z<=Kd pa:=λmz z h1 ez=>by
        have t:=n2 mz h1;unfold aV at t;rw[if_pos rfl,Nat.zero_add,cC ez] at t;have t:=of_decide_eq_true t
        omega
       refine aA (λd9=>?_) λd9=>?_
       ·refine aA (λe=>wpS_pure ⟨g4,.inl ⟨_,_,_,_,_,_,_,rfl,cM m4 g4 (by simpa using e)⟩⟩) λe=>aA (λe'=>wpS_pure ⟨g4,.inl ⟨_,_,_,_,_,_,_,rfl,fin m4 g4 (.inr (by simpa using e'))⟩⟩) λe'=>?_
        have cN:2<=n:=by simp at e e';omega
        refine wpS_bind (a_ ea ?_);have m5:=m4.pA SA gh ea cg;refine aA (λe=>wpS_pure ⟨g4,.inl ⟨_,_,_,_,_,_,_,rfl,fin m5 g4 (.inl (by simpa using e))⟩⟩) λe=>?_
        have e:1<=k - 1:=by simp at e;omega
        exact aA (λ_=>wpS_pure ⟨g4,.inr ⟨_,_,_,_,_,_,rfl,m5,by omega,by omega,by omega⟩⟩) λ_=>wpS_pure ⟨g4,_,_,_,_,_,_,rfl,m5,by omega,by omega,by omega⟩
       ·have:n=nb - 1:=by omega
        subst this;refine wpS_bind (a_ ea ?_);have m5:=m3.pA SA gh ea cg;refine aA (λe=>wpS_pure ⟨g4,.inl ⟨_,_,_,_,_,_,_,rfl,fin m5 g4 (.inl (by simpa using e))⟩⟩) λe=>?_
        have e:1<=k - 1:=by simp at e;omega
        exact aA (λ_=>wpS_pure ⟨g4,.inr ⟨_,_,_,_,_,_,rfl,m5,by omega,by omega,by omega⟩⟩) λ_=>wpS_pure ⟨g4,_,_,_,_,_,_,rfl,m5,by omega,by omega,by omega⟩
end
theorem AW(o:Nat):∀(M:List Keyed) (c:Nat) (arr:Array Keyed),o+c+M.length<=arr.size->
  ((M.zipIdx c).foldl (λa x=>a.setIfInBounds (o+x.2) x.1) arr).toList=arr.toList.take (o+c)++M++arr.toList.drop (o+c+M.length)
 | [],c,arr,h=>by simp
 | x::M,c,arr,h=>by
  rw[List.length_cons] at h;rw[List.zipIdx_cons,List.foldl_cons];have ih:=AW o M (c+1) (arr.setIfInBounds (o+c) x) (by rw[Array.size_setIfInBounds];omega)
  rw[ih];have hs:o+c<arr.toList.length:=by simp;omega
  have e:(arr.setIfInBounds (o+c) x).toList=(arr.toList.take (o+c)++[x])++arr.toList.drop (o+c+1):=by
   rw[Array.toList_setIfInBounds,List.set_eq_take_append_cons_drop,if_pos hs];simp
  have l1:(arr.toList.take (o+c)++[x]).length=o+(c+1):=by simp;omega
  rw[e,List.take_left' l1,List.drop_append,List.drop_of_length_le (by omega),l1,List.drop_drop]
  rw[List.length_cons,show o+c+1+(o+(c+1)+M.length - (o+(c+1)))=o+c+(M.length+1) by omega]
  simp
theorem ext_mem{arr:Array Keyed}{lo hi:Nat}{y:Keyed}(h:y∈(arr.extract lo hi).toList):∃m,lo<=m/\m<hi/\arr[m]? = some y:=by
 rw[Array.toList_extract,List.extract_eq_take_drop] at h;obtain⟨m,e⟩:=List.getElem?_of_mem h;rw[List.getElem?_take] at e;by_cases hm:m<hi - lo
 ·rw[if_pos hm,List.getElem?_drop] at e;exact⟨lo+m,by omega,by omega,by simpa using e⟩
 ·rw[if_neg hm] at e;exact nomatch e
theorem pW{arr:Array Keyed}{lo hi:Nat}(hs:hi<=arr.size)(S:∀i j,lo<=i->i<=j->j<hi->K arr i<=K arr j):(arr.extract lo hi).toList.Pairwise cL:=by
 rw[List.pairwise_iff_getElem];intro i j f_ hj dZ;have iF:=f_;have tZ:=hj;rw[Array.length_toList,Array.size_extract] at iF tZ;have:=S (lo+i) (lo+j) (by omega) (by omega) (by omega)
 rw[K_eq (show lo+i<arr.size by omega),K_eq (show lo+j<arr.size by omega)] at this
 simpa using this
theorem pX{arr:Array Keyed}{lo hi:Nat}(h:IntKeys arr):IntKeys (arr.extract lo hi):=λp hp=>by
 obtain⟨m,_,_,e⟩:=ext_mem hp;obtain⟨hm,rfl⟩:=Array.getElem?_eq_some_iff.mp e;exact h _ (by simp)
theorem pY{arr:Array Keyed}{lo hi i:Nat}(h:lo+i<hi)(hs:hi<=arr.size):K (arr.extract lo hi) i=K arr (lo+i):=by
 refine K_congr ?_;rw[Array.getElem?_extract_of_lt (by rw[Nat.min_eq_left hs];omega)]
 exact(getElem?_pos _ _ _).symm
section
variable{prog:Program}{w:World}{A:Around}{E:Value->Shared->Prop}{s:Shared}
theorem Jo{σ:Type}{x:σ}{Q:PUnit->σ->Prop}{st:σ}{M:Model}(h:Q ⟨⟩ x):wpS M A E s (set x:StateT σ Sem PUnit) Q st:=by
 unfold wpS;rw[StateT.run_set];exact wpAny_pure ⟨rfl,h⟩
theorem Jp{Q:Bool->SortSt->Prop}{st:SortSt}{n1 n2 pw:Nat}(hk:kindOf st=oneType')(hf:failedOf st=none)(hp:pendingOf st = #[(0,n1,pw),(n1,n2,0)])(ia:IntKeys (arrOf st))(hn:n1+n2=(arrOf st).size)(h1:0<n1)(h2:0<n2)
  (S1:∀i j,i<=j->j<n1->K (arrOf st) i<=K (arrOf st) j) (S2:∀i j,n1<=i->i<=j->j<(arrOf st).size->K (arrOf st) i<=K (arrOf st) j)
  (h:∀ah,(arrOf ah).Perm (arrOf st)->failedOf ah=none->pendingOf ah = #[(0,n1+n2,pw)]->SortedTo (arrOf ah) (arrOf st).size->Q true ah):wpS (model prog w) A E s (mergeAt' 0) Q st:=by
 refine wpS_bind (wpS_get ?_);have e0:(pendingOf st)[0]? = some (0,n1,pw):=by rw[hp];rfl
 have e1:(pendingOf st)[0+1]? = some (n1,n2,0):=by rw[hp];rfl
 rw[e0,e1];dsimp only;have ep:((pendingOf st).setIfInBounds 0 (0,n1+n2,pw)).eraseIdxIfInBounds (0+1) = #[(0,n1+n2,pw)]:=by rw[hp];simp[Array.eraseIdxIfInBounds]
 obtain⟨kd,arr,pd,mg,fl⟩:=st
 replace ia:IntKeys arr:=ia
 replace hn:n1+n2=arr.size:=hn
 replace S1:∀i j,i<=j->j<n1->K arr i<=K arr j:=S1
 replace S2:∀i j,n1<=i->i<=j->j<arr.size->K arr i<=K arr j:=S2
 refine wpS_bind (Jo ?_);obtain⟨pb,eb,gc,kb⟩:=bW ia (show n1<arr.size by omega)
 refine wpS_bind (a_ eb (wpS_bind (eU hk gc ia (show 0+n1<=arr.size by omega) h1 (λi j _ h3 h4=>S1 i j h3 (by omega)) λk k1 k2 k3=>?_)))
 dsimp only;have uI:∀i,i<k->K arr i<=K arr n1:=λi hi=>by
  have t:=k2 i hi;unfold aV at t;rw[if_neg (by simp),Nat.zero_add] at t
  simp at t;rw[kb];exact t
 have Jq:∀i,k<=i->i<n1->K arr n1<K arr i:=λi hi iF=>by
  have t:=k3 i hi iF;unfold aV at t;rw[if_neg (by simp),Nat.zero_add] at t
  simp at t;rw[kb];exact t
 refine aA (λe=>wpS_pure (h _ (Array.Perm.refl _) hf ep λi j dZ hj=>?_)) λe=>?_
 ·have e:k=n1:=by simp at e;omega
  show K arr i<=K arr j;by_cases mj:j<n1
  ·exact S1 i j dZ mj
  ·by_cases uJ:n1<=i
   ·exact S2 i j uJ dZ hj
   ·exact Int.le_trans (uI i (by omega)) (S2 n1 j (Nat.le_refl _) (by omega) hj)
 have e:k<n1:=by simp at e;omega
 have ei:0+k+(n1 - k) - 1=n1 - 1:=by omega
 rw[ei];obtain⟨pa,ea,cP,ka⟩:=bW ia (show n1 - 1<arr.size by omega)
 refine wpS_bind (a_ ea (wpS_bind (eU hk cP ia (show n1+n2<=arr.size by omega) (by omega) (λi j h3 h4 h5=>S2 i j h3 h4 (by omega)) λnb q1 q2 q3=>?_)))
 dsimp only;have Jr:∀i,n1<=i->i<n1+nb->K arr i<K arr (n1 - 1):=λi hi iF=>by
  have t:=q2 (i - n1) (by omega)
  unfold aV at t;rw[if_pos rfl,show n1+(i - n1)=i by omega] at t
  have t:=of_decide_eq_true t;rw[ka];exact t
 have AX:∀i,n1+nb<=i->i<arr.size->K arr (n1 - 1)<=K arr i:=λi hi iF=>by
  have t:=q3 (i - n1) (by omega) (by omega)
  unfold aV at t;rw[if_pos rfl,show n1+(i - n1)=i by omega] at t
  have t:=of_decide_eq_false t;rw[ka];omega
 refine aA (λe2=>wpS_pure (h _ (Array.Perm.refl _) hf ep λi j dZ hj=>?_)) λe2=>?_
 ·have e2:nb=0:=by simpa using e2
  show K arr i<=K arr j;by_cases mj:j<n1
  ·exact S1 i j dZ mj
  ·by_cases uJ:n1<=i
   ·exact S2 i j uJ dZ hj
   ·exact Int.le_trans (S1 i (n1 - 1) (by omega) (by omega)) (AX j (by omega) hj)
 have e2:0<nb:=by simp at e2;omega
 have sx:(arr.extract k n1).size=n1 - k:=by rw[Array.size_extract];omega
 have sy:(arr.extract n1 (n1+nb)).size=nb:=by rw[Array.size_extract];omega
 have px:=pW (arr:=arr) (lo:=k) (hi:=n1) (by omega) λi j h3 h4 h5=>S1 i j h4 h5
 have py:=pW (arr:=arr) (lo:=n1) (hi:=n1+nb) (by omega) λi j h3 h4 h5=>S2 i j h3 h4 (by omega)
 have fin:∀(M:Array Keyed) (aJ:SortSt),arrOf aJ=arr->gK cL (arr.extract k n1).toList (arr.extract n1 (n1+nb)).toList M.toList->(List.foldl (λa x=>a.setIfInBounds (k+x.2) x.1) (arrOf aJ) M.toList.zipIdx).Perm arr/\SortedTo (List.foldl (λa x=>a.setIfInBounds (k+x.2) x.1) (arrOf aJ) M.toList.zipIdx) arr.size:=λM aJ uK md=>by
  rw[uK];have lM:M.toList.length=n1 - k+nb:=by
   rw[md.p.length_eq,List.length_append];simp only[Array.length_toList];rw[sx,sy]
  have sa:=AW k M.toList 0 arr (by omega)
  rw[Nat.add_zero,lM,show k+(n1 - k+nb)=n1+nb by omega] at sa
  generalize (List.foldl (λa x=>a.setIfInBounds (k+x.2) x.1) arr M.toList.zipIdx)=F at sa ⊢;have eP:arr.toList.take k=(arr.extract 0 k).toList:=by simp
  have eS:arr.toList.drop (n1+nb)=(arr.extract (n1+nb) arr.size).toList:=(l8 arr _).symm;rw[eP,eS] at sa;have pF:F.toList.Perm arr.toList:=by
   rw[sa];have e4:arr=arr.extract 0 k++(arr.extract k n1++arr.extract n1 (n1+nb))++arr.extract (n1+nb) arr.size:=by
    rw[Array.extract_append_extract,show min k n1=k by omega,show max n1 (n1+nb)=n1+nb by omega,Array.extract_append_extract,show min 0 k=0 by omega,show max k (n1+nb)=n1+nb by omega,Array.extract_append_extract,show min 0 (n1+nb)=0 by omega,show max (n1+nb) arr.size=arr.size by omega]
    simp
   have e3:arr.toList=(arr.extract 0 k).toList++((arr.extract k n1).toList++(arr.extract n1 (n1+nb)).toList)++(arr.extract (n1+nb) arr.size).toList:=by
    have:=congrArg Array.toList e4;rwa [Array.toList_append,Array.toList_append,Array.toList_append] at this
   conv=>rhs;rw[e3]
   exact List.Perm.append_right _ (List.Perm.append_left _ md.p)
  refine⟨Array.perm_iff_toList_perm.mpr pF,?_⟩;have OS:F.size=arr.size:=by simpa using pF.length_eq
  have sF:F.toList.Pairwise cL:=by
   rw[sa,List.append_assoc];have bM:∀y∈M.toList,∃m,k<=m/\m<n1+nb/\arr[m]? = some y:=λy hy=>by
    rcases List.mem_append.mp (md.p.mem_iff.mp hy) with hy | hy
    ·obtain⟨m,g1,g2,g3⟩:=ext_mem hy;exact⟨m,g1,by omega,g3⟩
    ·obtain⟨m,g1,g2,g3⟩:=ext_mem hy;exact⟨m,by omega,g2,g3⟩
   have Kx:∀ {m:Nat} {y:Keyed},arr[m]? = some y->Kd y=K arr m:=λe=>(cC e).symm;refine List.pairwise_append.mpr ⟨pW (by omega) λi j _ h4 h5=>S1 i j h4 (by omega),List.pairwise_append.mpr ⟨md.s,pW (Nat.le_refl _) λi j h3 h4 h5=>S2 i j (by omega) h4 h5,λx hx y hy=>?_⟩,λx hx y hy=>?_⟩
   ·obtain⟨m,g1,g2,g3⟩:=bM x hx;obtain⟨m',g4,g5,g6⟩:=ext_mem hy
    show Kd x<=Kd y;rw[Kx g3,Kx g6];by_cases hm:m<n1
    ·exact Int.le_trans (S1 m (n1 - 1) (by omega) (by omega)) (AX m' g4 g5)
    ·exact S2 m m' (by omega) (by omega) g5
   ·obtain⟨m,g1,g2,g3⟩:=ext_mem hx
    show Kd x<=Kd y;rw[Kx g3];rcases List.mem_append.mp hy with hy | hy
    ·obtain⟨m',g4,g5,g6⟩:=bM y hy;rw[Kx g6];by_cases hm:m' < n1
     ·exact S1 m m' (by omega) hm
     ·exact Int.le_trans (uI m g2) (S2 n1 m' (Nat.le_refl _) (by omega) (by omega))
    ·obtain⟨m',g4,g5,g6⟩:=ext_mem hy;rw[Kx g6];exact Int.le_trans (uI m g2) (S2 n1 m' (Nat.le_refl _) (by omega) g5)
  intro i j dZ hj;exact l7 sF dZ (by omega)
 have x0:∀i,i<(arr.extract k n1).size->K (arr.extract n1 (n1+nb)) 0<=K (arr.extract k n1) i:=λi hi=>by
  rw[sx] at hi;rw[pY (by omega) (by omega),pY (by omega) (by omega)]
  exact Int.le_of_lt (Jq _ (by omega) (by omega))
 have xl:∀i,i<(arr.extract n1 (n1+nb)).size->K (arr.extract n1 (n1+nb)) i<=K (arr.extract k n1) ((arr.extract k n1).size - 1):=λi hi=>by
  rw[sy] at hi;rw[pY (by omega) (by omega),sx,pY (by omega) (by omega),show k+(n1 - k - 1)=n1 - 1 by omega]
  exact Int.le_of_lt (Jr _ (by omega) (by omega))
 rw[Nat.zero_add];refine aA (λ_=>wpS_bind (Jh hk (pX ia) (pX ia) px py (by omega) (by omega) (x0 0 (by omega)) xl λM aJ g md=>?_)) λ_=>wpS_bind (Jk hk (pX ia) (pX ia) px py (by omega) (by omega) x0 xl λM aJ g md=>?_)
 all_goals
  have uK:arrOf aJ=arr:=g.a;obtain⟨r1,r2⟩:=fin M aJ uK md;refine wpS_bind (wpS_modify (wpS_bind (wpS_get (wpS_pure ?_))));have ff:failedOf aJ=none:=g.f.trans hf
  show Q (failedOf aJ).isNone _;rw[ff];exact h _ r1 ff (g.p.trans ep) r2
end
noncomputable def Rn(xs:Array Keyed)(lo n:Nat):Prop:=∀i j,lo<=i->i<=j->j<lo+n->K xs i<=K xs j
noncomputable def Nn(xs:Array Keyed)(lo n:Nat):Prop:=∀i j,lo<=i->i<=j->j<lo+n->K xs j<=K xs i
structure cQ(a₀ r:Array Keyed)(pd:Array (Nat×Nat×Nat))(lo:Nat)(st:SortSt):Prop where
 perm:(arrOf st).Perm a₀
 kind:kindOf st=oneType'
 failed:failedOf st=none
 pend:pendingOf st=pd
 low:∀k,k<lo->K (arrOf st) k=K r k
section
variable{a₀ r:Array Keyed}{pd:Array (Nat×Nat×Nat)}{lo n:Nat}{st:SortSt}{xs:Array Keyed}
theorem cQ.size(h:cQ a₀ r pd lo st):(arrOf st).size=a₀.size:=h.perm.size_eq
theorem cQ.rev(h:cQ a₀ r pd lo st){i j:Nat}(hi:lo<=i)(hj:j<=(arrOf st).size):cQ a₀ r pd lo (setArr st (mirror (arrOf st) i j ((j - i) / 2))):=by
 refine⟨(mirror_perm _ _ _ _).trans h.perm,h.kind,h.failed,h.pend,λk hk=>?_⟩
 show K (mirror (arrOf st) i j ((j - i) / 2)) k=_;rw[← h.low k hk];rw[K_mirror hj,if_neg (by omega)]
theorem Rn.snoc(h:Rn xs lo n)(h1:1<=n)(hl:¬ K xs (lo+n)<K xs (lo+n - 1)):Rn xs lo (n+1):=λi j g1 g2 g3=>by
 by_cases hj:j<lo+n
 ·exact h i j g1 g2 hj
 ·have g8:j=lo+n:=by omega
  subst g8;by_cases hi:i=lo+n
  ·subst hi;exact Int.le_refl _
  ·exact Int.le_trans (h i (lo+n - 1) g1 (by omega) (by omega)) (Int.not_lt.mp hl)
theorem Nn.snoc(h:Nn xs lo n)(h1:1<=n)(hl:K xs (lo+n)<K xs (lo+n - 1)):Nn xs lo (n+1):=λi j g1 g2 g3=>by
 by_cases hj:j<lo+n
 ·exact h i j g1 g2 hj
 ·have g8:j=lo+n:=by omega
  subst g8;by_cases hi:i=lo+n
  ·subst hi;exact Int.le_refl _
  ·exact Int.le_trans (Int.le_of_lt hl) (h i (lo+n - 1) g1 (by omega) (by omega))
end
section
variable{prog:Program}{w:World}{A:Around}{E:Value->Shared->Prop}{s:Shared}{a₀ r:Array Keyed}{pd:Array (Nat×Nat×Nat)}{lo:Nat}
theorem gi{st:SortSt}{i j:Nat}{Q:Option Bool->SortSt->Prop}(hB:cQ a₀ r pd lo st)(h0:IntKeys a₀)(hi:i<a₀.size)(hj:j<a₀.size)
  (h:Q (some (decide (K (arrOf st) i<K (arrOf st) j))) st):wpS (model prog w) A E s (ltAt' i j) Q st:=by
 have ik:IntKeys (arrOf st):=λp hp=>h0 p ((Array.perm_iff_toList_perm.mp hB.perm).mem_iff.mp hp);obtain⟨p,ep,⟨a,t,ea⟩,kp⟩:=bW ik (show i<(arrOf st).size by rw[hB.size];exact hi)
 obtain⟨q,eq,⟨b,u,eb⟩,kq⟩:=bW ik (show j<(arrOf st).size by rw[hB.size];exact hj)
 have e1:K (arrOf st) i=a:=by rw[kp];show numOf p.1=a;rw[ea];rfl
 have e2:K (arrOf st) j=b:=by rw[kq];show numOf q.1=b;rw[eb];rfl
 rw[e1,e2] at h;exact wpS_ltAt (p:=p.2) (q:=q.2) (t:=t) (u:=u) hB.kind (by rw[ep,← ea]) (by rw[eq,← eb]) h
theorem AY{st:SortSt}{cW:Nat}{Q:Option Nat->SortSt->Prop}(h0:IntKeys a₀)(hn:lo+cW<=a₀.size)(Js:1<=cW)(hB:cQ a₀ r pd lo st)
  (h:∀m ah,cQ a₀ r pd lo ah->1<=m->m<=cW->Rn (arrOf ah) lo m->Q (some m) ah) :
  wpS (model prog w) A E s (countRun' lo cW) Q st:=by
 refine wpS_bind (wpS_mono (wpS_forRange (I:=λx c ah=>ah=st/\c=(none,x)/\Rn (arrOf st) lo x)
  (Q:=λc ah=>ah=st/\∃n,c=(none,n)/\1<=n/\n<=cW/\Rn (arrOf st) lo n/\(n=cW\/K (arrOf st) (lo+n)<K (arrOf st) (lo+n - 1))) ?s1 ?f1 ⟨rfl,rfl,λi j g1 g2 g3=>Int.le_of_eq (congrArg _ (by omega))⟩) ?p1)
 case f1 =>
  rintro c ah ⟨rfl,rfl,aT⟩;rw[show max 1 cW=cW by omega] at *
  exact⟨rfl,cW,rfl,Js,Nat.le_refl _,aT,.inl rfl⟩
 case s1 =>
  rintro x c ah eV kE ⟨rfl,rfl,aT⟩;dsimp only;refine wpS_bind (gi hB h0 (by omega) (by omega) ?_)
  exact aA (λhw=>wpS_pure ⟨rfl,x,rfl,eV,by omega,aT,.inr (of_decide_eq_true hw)⟩) λhw=>wpS_pure ⟨rfl,rfl,aT.snoc eV λz=>hw (decide_eq_true z)⟩
 case p1 =>
  rintro c ah ⟨rfl,n,rfl,n1,n2,aT,Jt⟩;dsimp only;refine aA (λe=>wpS_pure (h n _ hB n1 n2 aT)) λe=>?_
  have e:¬ n=cW:=by simpa using e
  have aY:K (arrOf ah) (lo+n)<K (arrOf ah) (lo+n - 1):=Jt.resolve_left e;have hsz:lo+n<=(arrOf ah).size:=by rw[hB.size];omega
  refine aA (λJu=>?_) λJu=>?_
  ·refine wpS_bind (gi hB h0 (by omega) (by omega) ?_)
   refine aA (λhw=>wpS_pure (h n _ hB n1 n2 aT)) λhw=>?_
   have hw:¬ K (arrOf ah) lo<K (arrOf ah) (lo+n - 1):=λz=>hw (decide_eq_true z);have e7:∀k,lo<=k->k<lo+n->K (arrOf ah) k=K (arrOf ah) (lo+n - 1):=λk g1 g2=>by
    have a1:=aT lo k (Nat.le_refl _) g1 g2;have a2:=aT k (lo+n - 1) g1 (by omega) (by omega)
    omega
   refine wpS_bind (wpS_reverse ?_);have B1:=hB.rev (i:=lo) (j:=lo+n) (Nat.le_refl _) hsz;have N1:Nn (mirror (arrOf ah) lo (lo+n) ((lo+n - lo) / 2)) lo (n+1):=λi j g1 g2 g3=>by
    rw[K_mirror_equal hsz e7,K_mirror_equal hsz e7];by_cases hj:j<lo+n
    ·rw[e7 i (by omega) (by omega),e7 j (by omega) hj];exact Int.le_refl _
    ·have g8:j=lo+n:=by omega
     subst g8;by_cases hi:i=lo+n
     ·subst hi;exact Int.le_refl _
     ·rw[e7 i (by omega) (by omega)];exact Int.le_of_lt aY
   refine wpS_bind (wpS_lift (wpAny_rule ⟨rfl,?_⟩));refine wpS_bind (wpS_mono (wpS_forRange (I:=λx c ah=>∃aQ,c=(none,x,aQ)/\cQ a₀ r pd lo ah/\Nn (arrOf ah) lo x/\aQ+1<=x/\(∀i,lo+x - (aQ+1)<=i->i<lo+x->K (arrOf ah) i=K (arrOf ah) (lo+x - 1)))
    (Q:=λc ah=>∃aQ m,c=(none,m,aQ)/\cQ a₀ r pd lo ah/\n+1<=m/\m<=cW/\Nn (arrOf ah) lo m/\aQ+1<=m/\(∀i,lo+m - (aQ+1)<=i->i<lo+m->K (arrOf ah) i=K (arrOf ah) (lo+m - 1))) ?_ ?_ ⟨0,rfl,B1,N1,by omega,λi g1 g2=>by congr 1;omega⟩) ?_)
   ·rintro x c ah eV kE ⟨aQ,rfl,B',N',hq,he⟩;dsimp only;have hsz:lo+x<=(arrOf ah).size:=by rw[B'.size];omega
    refine wpS_bind (gi B' h0 (by omega) (by omega) ?_)
    refine aA (λhw=>?_) λhw=>?_
    ·have hw:=of_decide_eq_true hw;have mq:∀xs:Array Keyed,(∀k,K xs k=K (arrOf ah) k)->Nn xs lo (x+1):=λxs hk i j g1 g2 g3=>by
      rw[hk,hk];exact N'.snoc (by omega) hw i j g1 g2 g3
     refine aA (λjG=>?_) λjG=>?_
     ·exact wpS_bind (wpS_reverse (wpS_pure ⟨0,rfl,B'.rev (by omega) hsz,mq _ (K_mirror_equal hsz he),by omega,λi g1 g2=>by congr 1;omega⟩))
     ·exact wpS_pure ⟨0,rfl,B',mq _ (λ_=>rfl),by omega,λi g1 g2=>by congr 1;omega⟩
    ·have hw:¬ K (arrOf ah) (lo+x)<K (arrOf ah) (lo+x - 1):=λz=>hw (decide_eq_true z);refine wpS_bind (gi B' h0 (by omega) (by omega) ?_)
     refine aA (λhl=>wpS_pure ⟨aQ,x,rfl,B',eV,by omega,N',hq,he⟩) λhl=>?_
     have hl:¬ K (arrOf ah) (lo+x - 1)<K (arrOf ah) (lo+x):=λz=>hl (decide_eq_true z);have mw:K (arrOf ah) (lo+x)=K (arrOf ah) (lo+x - 1):=by omega
     refine wpS_pure ⟨aQ+1,rfl,B',λi j g1 g2 g3=>?_,by omega,λi g1 g2=>?_⟩
     ·by_cases uL:j<lo+x
      ·exact N' i j g1 g2 uL
      ·have g8:j=lo+x:=by omega
       subst g8;by_cases f_:i=lo+x
       ·subst f_;exact Int.le_refl _
       ·rw[mw];exact N' i (lo+x - 1) g1 (by omega) (by omega)
     ·rw[show lo+(x+1) - 1=lo+x by omega]
      by_cases uM:i=lo+x
      ·subst uM;rfl
      ·rw[mw];exact he i (by omega) (by omega)
   ·rintro c ah ⟨aQ,rfl,B',N',hq,he⟩;rw[show max (n+1) cW=cW by omega] at *
    exact⟨aQ,_,rfl,B',by omega,Nat.le_refl _,N',hq,he⟩
   ·rintro c aJ ⟨aQ,m,rfl,B2,m1,m2,N2,hq,he⟩;dsimp only;have hsz:lo+m<=(arrOf aJ).size:=by rw[B2.size];omega
    refine aA (λjG=>?_) λjG=>?_
    ·refine wpS_bind (wpS_reverse ?_);have mC:=B2.rev (i:=lo+m - (aQ+1)) (j:=lo+m) (by omega) hsz
     have jH:Nn (mirror (arrOf aJ) (lo+m - (aQ+1)) (lo+m) ((lo+m - (lo+m - (aQ+1))) / 2)) lo m:=λi j g1 g2 g3=>by
      rw[K_mirror_equal hsz he,K_mirror_equal hsz he];exact N2 i j g1 g2 g3
     have d_:lo+m<=(arrOf (setArr aJ (mirror (arrOf aJ) (lo+m - (aQ+1)) (lo+m) ((lo+m - (lo+m - (aQ+1))) / 2)))).size:=by rw[mC.size];omega
     refine wpS_bind (wpS_reverse ?_);have B3:=mC.rev (i:=lo) (j:=lo+m) (Nat.le_refl _) d_;have R3:Rn (mirror (arrOf (setArr aJ (mirror (arrOf aJ) (lo+m - (aQ+1)) (lo+m) ((lo+m - (lo+m - (aQ+1))) / 2)))) lo (lo+m) ((lo+m - lo) / 2)) lo m:=by
      intro i j h1 h2 h3;rw[K_mirror d_,K_mirror d_,if_pos (by omega),if_pos (by omega)]
      exact jH _ _ (by omega) (by omega) (by omega)
     refine wpS_bind (wpS_mono (wpS_forRange (I:=λx c ah=>ah=setArr (setArr aJ (mirror (arrOf aJ) (lo+m - (aQ+1)) (lo+m) ((lo+m - (lo+m - (aQ+1))) / 2))) (mirror (arrOf (setArr aJ (mirror (arrOf aJ) (lo+m - (aQ+1)) (lo+m) ((lo+m - (lo+m - (aQ+1))) / 2)))) lo (lo+m) ((lo+m - lo) / 2))/\c=(none,x)/\Rn (arrOf ah) lo x)
      (Q:=λc ah=>ah=setArr (setArr aJ (mirror (arrOf aJ) (lo+m - (aQ+1)) (lo+m) ((lo+m - (lo+m - (aQ+1))) / 2))) (mirror (arrOf (setArr aJ (mirror (arrOf aJ) (lo+m - (aQ+1)) (lo+m) ((lo+m - (lo+m - (aQ+1))) / 2)))) lo (lo+m) ((lo+m - lo) / 2))/\∃x,c=(none,x)/\m<=x/\x<=cW/\Rn (arrOf ah) lo x) ?_ ?_ ⟨rfl,rfl,R3⟩) ?_)
     ·rintro x c ah eV kE ⟨rfl,rfl,aT⟩;dsimp only;refine wpS_bind (gi B3 h0 (by omega) (by omega) ?_)
      refine aA (λhw=>wpS_pure ⟨rfl,x,rfl,eV,by omega,aT⟩) λhw=>wpS_pure ⟨rfl,rfl,aT.snoc (by omega) (λz=>hw (decide_eq_true z))⟩
     ·rintro c ah ⟨rfl,rfl,aT⟩;exact⟨rfl,_,rfl,by omega,by omega,aT⟩
     ·rintro c ah ⟨rfl,x,rfl,g1,g2,aT⟩;exact wpS_pure (h x _ B3 (by omega) g2 aT)
    ·have jH:=N2;have d_:lo+m<=(arrOf aJ).size:=by rw[B2.size];omega
     refine wpS_bind (wpS_reverse ?_);have B3:=B2.rev (i:=lo) (j:=lo+m) (Nat.le_refl _) d_;have R3:Rn (mirror (arrOf aJ) lo (lo+m) ((lo+m - lo) / 2)) lo m:=by
      intro i j h1 h2 h3;rw[K_mirror d_,K_mirror d_,if_pos (by omega),if_pos (by omega)]
      exact jH _ _ (by omega) (by omega) (by omega)
     refine wpS_bind (wpS_mono (wpS_forRange (I:=λx c ah=>ah=setArr aJ (mirror (arrOf aJ) lo (lo+m) ((lo+m - lo) / 2))/\c=(none,x)/\Rn (arrOf ah) lo x)
      (Q:=λc ah=>ah=setArr aJ (mirror (arrOf aJ) lo (lo+m) ((lo+m - lo) / 2))/\∃x,c=(none,x)/\m<=x/\x<=cW/\Rn (arrOf ah) lo x) ?_ ?_ ⟨rfl,rfl,R3⟩) ?_)
     ·rintro x c ah eV kE ⟨rfl,rfl,aT⟩;dsimp only;refine wpS_bind (gi B3 h0 (by omega) (by omega) ?_)
      refine aA (λhw=>wpS_pure ⟨rfl,x,rfl,eV,by omega,aT⟩) λhw=>wpS_pure ⟨rfl,rfl,aT.snoc (by omega) (λz=>hw (decide_eq_true z))⟩
     ·rintro c ah ⟨rfl,rfl,aT⟩;exact⟨rfl,_,rfl,by omega,by omega,aT⟩
     ·rintro c ah ⟨rfl,x,rfl,g1,g2,aT⟩;exact wpS_pure (h x _ B3 (by omega) g2 aT)
  ·have dU:n=1:=by omega
   have B1:=hB;have N1:Nn (arrOf ah) lo (n+1):=λi j g1 g2 g3=>by
    by_cases hi:i=j
    ·subst hi;exact Int.le_refl _
    ·have Jv:i=lo+n - 1:=by omega
     have mj:j=lo+n:=by omega
     subst Jv;subst mj;exact Int.le_of_lt aY
   refine wpS_bind (wpS_lift (wpAny_rule ⟨rfl,?_⟩));refine wpS_bind (wpS_mono (wpS_forRange (I:=λx c ah=>∃aQ,c=(none,x,aQ)/\cQ a₀ r pd lo ah/\Nn (arrOf ah) lo x/\aQ+1<=x/\(∀i,lo+x - (aQ+1)<=i->i<lo+x->K (arrOf ah) i=K (arrOf ah) (lo+x - 1)))
    (Q:=λc ah=>∃aQ m,c=(none,m,aQ)/\cQ a₀ r pd lo ah/\n+1<=m/\m<=cW/\Nn (arrOf ah) lo m/\aQ+1<=m/\(∀i,lo+m - (aQ+1)<=i->i<lo+m->K (arrOf ah) i=K (arrOf ah) (lo+m - 1))) ?_ ?_ ⟨0,rfl,B1,N1,by omega,λi g1 g2=>by congr 1;omega⟩) ?_)
   ·rintro x c ah eV kE ⟨aQ,rfl,B',N',hq,he⟩;dsimp only;have hsz:lo+x<=(arrOf ah).size:=by rw[B'.size];omega
    refine wpS_bind (gi B' h0 (by omega) (by omega) ?_)
    refine aA (λhw=>?_) λhw=>?_
    ·have hw:=of_decide_eq_true hw;have mq:∀xs:Array Keyed,(∀k,K xs k=K (arrOf ah) k)->Nn xs lo (x+1):=λxs hk i j g1 g2 g3=>by
      rw[hk,hk];exact N'.snoc (by omega) hw i j g1 g2 g3
     refine aA (λjG=>?_) λjG=>?_
     ·exact wpS_bind (wpS_reverse (wpS_pure ⟨0,rfl,B'.rev (by omega) hsz,mq _ (K_mirror_equal hsz he),by omega,λi g1 g2=>by congr 1;omega⟩))
     ·exact wpS_pure ⟨0,rfl,B',mq _ (λ_=>rfl),by omega,λi g1 g2=>by congr 1;omega⟩
    ·have hw:¬ K (arrOf ah) (lo+x)<K (arrOf ah) (lo+x - 1):=λz=>hw (decide_eq_true z);refine wpS_bind (gi B' h0 (by omega) (by omega) ?_)
     refine aA (λhl=>wpS_pure ⟨aQ,x,rfl,B',eV,by omega,N',hq,he⟩) λhl=>?_
     have hl:¬ K (arrOf ah) (lo+x - 1)<K (arrOf ah) (lo+x):=λz=>hl (decide_eq_true z);have mw:K (arrOf ah) (lo+x)=K (arrOf ah) (lo+x - 1):=by omega
     refine wpS_pure ⟨aQ+1,rfl,B',λi j g1 g2 g3=>?_,by omega,λi g1 g2=>?_⟩
     ·by_cases uL:j<lo+x
      ·exact N' i j g1 g2 uL
      ·have g8:j=lo+x:=by omega
       subst g8;by_cases f_:i=lo+x
       ·subst f_;exact Int.le_refl _
       ·rw[mw];exact N' i (lo+x - 1) g1 (by omega) (by omega)
     ·rw[show lo+(x+1) - 1=lo+x by omega]
      by_cases uM:i=lo+x
      ·subst uM;rfl
      ·rw[mw];exact he i (by omega) (by omega)
   ·rintro c ah ⟨aQ,rfl,B',N',hq,he⟩;rw[show max (n+1) cW=cW by omega] at *
    exact⟨aQ,_,rfl,B',by omega,Nat.le_refl _,N',hq,he⟩
   ·rintro c aJ ⟨aQ,m,rfl,B2,m1,m2,N2,hq,he⟩;dsimp only;have hsz:lo+m<=(arrOf aJ).size:=by rw[B2.size];omega
    refine aA (λjG=>?_) λjG=>?_
    ·refine wpS_bind (wpS_reverse ?_);have mC:=B2.rev (i:=lo+m - (aQ+1)) (j:=lo+m) (by omega) hsz
     have jH:Nn (mirror (arrOf aJ) (lo+m - (aQ+1)) (lo+m) ((lo+m - (lo+m - (aQ+1))) / 2)) lo m:=λi j g1 g2 g3=>by
      rw[K_mirror_equal hsz he,K_mirror_equal hsz he];exact N2 i j g1 g2 g3
     have d_:lo+m<=(arrOf (setArr aJ (mirror (arrOf aJ) (lo+m - (aQ+1)) (lo+m) ((lo+m - (lo+m - (aQ+1))) / 2)))).size:=by rw[mC.size];omega
     refine wpS_bind (wpS_reverse ?_);have B3:=mC.rev (i:=lo) (j:=lo+m) (Nat.le_refl _) d_;have R3:Rn (mirror (arrOf (setArr aJ (mirror (arrOf aJ) (lo+m - (aQ+1)) (lo+m) ((lo+m - (lo+m - (aQ+1))) / 2)))) lo (lo+m) ((lo+m - lo) / 2)) lo m:=by
      intro i j h1 h2 h3;rw[K_mirror d_,K_mirror d_,if_pos (by omega),if_pos (by omega)]
      exact jH _ _ (by omega) (by omega) (by omega)
     refine wpS_bind (wpS_mono (wpS_forRange (I:=λx c ah=>ah=setArr (setArr aJ (mirror (arrOf aJ) (lo+m - (aQ+1)) (lo+m) ((lo+m - (lo+m - (aQ+1))) / 2))) (mirror (arrOf (setArr aJ (mirror (arrOf aJ) (lo+m - (aQ+1)) (lo+m) ((lo+m - (lo+m - (aQ+1))) / 2)))) lo (lo+m) ((lo+m - lo) / 2))/\c=(none,x)/\Rn (arrOf ah) lo x)
      (Q:=λc ah=>ah=setArr (setArr aJ (mirror (arrOf aJ) (lo+m - (aQ+1)) (lo+m) ((lo+m - (lo+m - (aQ+1))) / 2))) (mirror (arrOf (setArr aJ (mirror (arrOf aJ) (lo+m - (aQ+1)) (lo+m) ((lo+m - (lo+m - (aQ+1))) / 2)))) lo (lo+m) ((lo+m - lo) / 2))/\∃x,c=(none,x)/\m<=x/\x<=cW/\Rn (arrOf ah) lo x) ?_ ?_ ⟨rfl,rfl,R3⟩) ?_)
     ·rintro x c ah eV kE ⟨rfl,rfl,aT⟩;dsimp only;refine wpS_bind (gi B3 h0 (by omega) (by omega) ?_)
      refine aA (λhw=>wpS_pure ⟨rfl,x,rfl,eV,by omega,aT⟩) λhw=>wpS_pure ⟨rfl,rfl,aT.snoc (by omega) (λz=>hw (decide_eq_true z))⟩
     ·rintro c ah ⟨rfl,rfl,aT⟩;exact⟨rfl,_,rfl,by omega,by omega,aT⟩
     ·rintro c ah ⟨rfl,x,rfl,g1,g2,aT⟩;exact wpS_pure (h x _ B3 (by omega) g2 aT)
    ·have jH:=N2;have d_:lo+m<=(arrOf aJ).size:=by rw[B2.size];omega
     refine wpS_bind (wpS_reverse ?_);have B3:=B2.rev (i:=lo) (j:=lo+m) (Nat.le_refl _) d_;have R3:Rn (mirror (arrOf aJ) lo (lo+m) ((lo+m - lo) / 2)) lo m:=by
      intro i j h1 h2 h3;rw[K_mirror d_,K_mirror d_,if_pos (by omega),if_pos (by omega)]
      exact jH _ _ (by omega) (by omega) (by omega)
     refine wpS_bind (wpS_mono (wpS_forRange (I:=λx c ah=>ah=setArr aJ (mirror (arrOf aJ) lo (lo+m) ((lo+m - lo) / 2))/\c=(none,x)/\Rn (arrOf ah) lo x)
      (Q:=λc ah=>ah=setArr aJ (mirror (arrOf aJ) lo (lo+m) ((lo+m - lo) / 2))/\∃x,c=(none,x)/\m<=x/\x<=cW/\Rn (arrOf ah) lo x) ?_ ?_ ⟨rfl,rfl,R3⟩) ?_)
     ·rintro x c ah eV kE ⟨rfl,rfl,aT⟩;dsimp only;refine wpS_bind (gi B3 h0 (by omega) (by omega) ?_)
      refine aA (λhw=>wpS_pure ⟨rfl,x,rfl,eV,by omega,aT⟩) λhw=>wpS_pure ⟨rfl,rfl,aT.snoc (by omega) (λz=>hw (decide_eq_true z))⟩
     ·rintro c ah ⟨rfl,rfl,aT⟩;exact⟨rfl,_,rfl,by omega,by omega,aT⟩
     ·rintro c ah ⟨rfl,x,rfl,g1,g2,aT⟩;exact wpS_pure (h x _ B3 (by omega) g2 aT)
end
section
variable{prog:Program}{w:World}{A:Around}{E:Value->Shared->Prop}{s:Shared}{a₀ r:Array Keyed}{pd:Array (Nat×Nat×Nat)}{lo:Nat}
theorem cQ.Jw{st:SortSt}(h:cQ a₀ r pd lo st){k l:Nat}(hl:l<=k)(hk:lo+k<(arrOf st).size):cQ a₀ r pd lo (setArr st (bubble (arrOf st) (lo+k) (lo+k - (lo+l)))):=by
 refine⟨(bubble_perm _ _ _).trans h.perm,h.kind,h.failed,h.pend,λi hi=>?_⟩
 show K (bubble (arrOf st) (lo+k) (lo+k - (lo+l))) i=_;rw[← h.low i hi,K_bubble hk (by omega),if_neg (by omega),if_neg (by omega)]
theorem AZ{st:SortSt}{n ok:Nat}{Q:Bool->SortSt->Prop}(h0:IntKeys a₀)(hn:lo+n<=a₀.size)(aB:ok<=n)(hB:cQ a₀ r pd lo st)(hs:Rn (arrOf st) lo ok)
  (h:∀ah,cQ a₀ r pd lo ah->Rn (arrOf ah) lo n->Q true ah):wpS (model prog w) A E s (binarySort' lo n ok) Q st:=by
 refine wpS_bind (wpS_mono (wpS_forRange (I:=λk c ah=>c=(none,())/\cQ a₀ r pd lo ah/\Rn (arrOf ah) lo (min k n))
  (Q:=λc ah=>c=(none,())/\cQ a₀ r pd lo ah/\Rn (arrOf ah) lo n) ?step ?fin ⟨rfl,hB,λi j g1 g2 g3=>?_⟩) ?post)
 case post =>
  rintro c ah ⟨rfl,fE,aT⟩;exact wpS_pure (h ah fE aT)
 case fin =>
  rintro c ah ⟨hc,fE,aT⟩;rw[show min (max (max ok 1) n) n=n by omega] at aT
  exact⟨hc,fE,aT⟩
 case step =>
  rintro k c ah OT OU ⟨rfl,fE,aT⟩;rw[show min k n=k by omega] at aT
  have uN:lo+k<(arrOf ah).size:=by rw[fE.size];omega
  refine wpS_bind (wpS_mono (wpS_forRange (I:=λx c aP=>aP=ah/\∃l r,c=(none,l,r)/\l<=r/\r<=k/\r - l<=k - x/\
    (∀i,i<l->K (arrOf ah) (lo+i)<=K (arrOf ah) (lo+k))/\(∀i,r<=i->i<k->K (arrOf ah) (lo+k)<K (arrOf ah) (lo+i)))
   (Q:=λc aP=>aP=ah/\∃l r,c=(none,l,r)/\l<=k/\
    (∀i,i<l->K (arrOf ah) (lo+i)<=K (arrOf ah) (lo+k))/\(∀i,l<=i->i<k->K (arrOf ah) (lo+k)<K (arrOf ah) (lo+i))) ?istep ?ifin ⟨rfl,0,k,rfl,by omega,by omega,by omega,λi hi=>by omega,λi h1 h2=>by omega⟩) ?ipost)
  case ifin =>
   rintro c aP ⟨rfl,l,r,rfl,Jx,uO,hm,jr,kF⟩;have:l=r:=by omega
   subst this;exact⟨rfl,l,l,rfl,uO,jr,kF⟩
  case istep =>
   rintro x c aP _ OV ⟨rfl,l,r,rfl,Jx,uO,hm,jr,kF⟩;dsimp only;refine aA (λc9=>?_) λc9=>?_
   ·have:l=r:=by omega
    subst this;exact wpS_pure ⟨rfl,l,l,rfl,uO,jr,kF⟩
   ·refine wpS_bind (gi fE h0 (by omega) (by omega) ?_)
    refine aA (λhw=>?_) λhw=>?_
    ·have hw:=of_decide_eq_true hw;refine wpS_pure ⟨rfl,l,(l+r) / 2,rfl,by omega,by omega,by omega,jr,λi h1 h2=>?_⟩
     exact Int.lt_of_lt_of_le hw (aT _ _ (by omega) (by omega) (by omega))
    ·have hw:¬ K (arrOf aP) (lo+k)<K (arrOf aP) (lo+(l+r) / 2):=λz=>hw (decide_eq_true z);refine wpS_pure ⟨rfl,(l+r) / 2+1,r,rfl,by omega,by omega,by omega,λi h1=>?_,kF⟩
     exact Int.le_trans (aT (lo+i) (lo+(l+r) / 2) (by omega) (by omega) (by omega)) (Int.not_lt.mp hw)
  case ipost =>
   rintro c aP ⟨rfl,l,r,rfl,Jy,jr,kF⟩;dsimp only
   show wpS _ _ _ _ (moveDown' (lo+k) (lo+l) >>= λ_=>pure (ForInStep.yield (none,()))) _ _;rw[moveDown'_eq];refine wpS_bind (wpS_modify (wpS_pure ⟨rfl,fE.Jw Jy uN,?_⟩));rw[show min (k+1) n=k+1 by omega]
   intro i j g1 dZ hj
   show K (bubble (arrOf aP) (lo+k) (lo+k - (lo+l))) i<=K (bubble (arrOf aP) (lo+k) (lo+k - (lo+l))) j;rw[K_bubble uN (by omega),K_bubble uN (by omega),show lo+k - (lo+k - (lo+l))=lo+l by omega]
   have Jz:∀i,lo<=i->i<lo+l->K (arrOf aP) i<=K (arrOf aP) (lo+k):=λi h1 h2=>by
    have:=jr (i - lo) (by omega)
    rwa [show lo+(i - lo)=i by omega] at this
   have JA:∀i,lo+l<=i->i<lo+k->K (arrOf aP) (lo+k)<=K (arrOf aP) i:=λi h1 h2=>by
    have:=kF (i - lo) (by omega) (by omega)
    rw[show lo+(i - lo)=i by omega] at this
    exact Int.le_of_lt this
   repeat' split
   all_goals first
    | (exfalso;omega)
    | exact Int.le_refl _
    | exact Jz _ (by omega) (by omega)
    | exact JA _ (by omega) (by omega)
    | exact aT _ _ (by omega) (by omega) (by omega)
 ·by_cases h1:ok=0
  ·exact Int.le_of_eq (congrArg _ (by omega))
  ·exact hs i j g1 g2 (by omega)
end
section
variable{prog:Program}{w:World}{A:Around}{E:Value->Shared->Prop}{s:Shared}{a₀:Array Keyed}
structure A0(a₀:Array Keyed)(n:Nat)(st:SortSt):Prop where
 perm:(arrOf st).Perm a₀
 kind:kindOf st=oneType'
 failed:failedOf st=none
 pend:pendingOf st = #[(0,n,0)]
 mD:Rn (arrOf st) 0 n
structure uP(a₀:Array Keyed)(n m pw:Nat)(st:SortSt):Prop where
 perm:(arrOf st).Perm a₀
 kind:kindOf st=oneType'
 failed:failedOf st=none
 pend:pendingOf st = #[(0,n,pw),(n,m,0)]
 mD:Rn (arrOf st) 0 n
 JB:Rn (arrOf st) n m
theorem JC{st:SortSt}{Q:Unit->SortSt->Prop}(h0:IntKeys a₀)(hB:SBase a₀ st)(OW:64<=a₀.size)(OX:a₀.size<128)
  (h:∀ah,(arrOf ah).Perm a₀->failedOf ah=none->SortedTo (arrOf ah) a₀.size->Q () ah):wpS (model prog w) A E s sortRuns' Q st:=by
 refine wpS_bind (wpS_get ?_);dsimp only;obtain⟨mr,JD,OY,OZ⟩:∃mr,minRun' a₀.size a₀.size 0=mr/\a₀.size<=2*mr/\mr<a₀.size:=by
  obtain⟨f,hf⟩:∃f,a₀.size=f+1+1:=⟨a₀.size - 2,by omega⟩
  have e:minRun' (f+1+1) a₀.size 0=a₀.size / 2+max 0 (a₀.size % 2):=by
   rw[minRun'_succ,if_neg (by omega),minRun'_succ,if_pos (by omega)]
  rw[← hf] at e;exact⟨_,e,by omega,by omega⟩
 have JE:(arrOf st).size=a₀.size:=hB.size;have JF:(sortPriv% PySem.Builtin.minRun) a₀.size a₀.size 0=mr:=JD;rw[JE,JF];refine wpS_bind (wpS_mono (wpS_forRange
  (I:=λx c ah=>(x=0/\c=(none,0)/\SBase a₀ ah)\/(x=1/\∃n,c=(none,n)/\mr<=n/\n<=a₀.size/\A0 a₀ n ah)\/(2<=x/\∃n m pw,c=(none,a₀.size)/\0<n/\0<m/\n+m=a₀.size/\uP a₀ n m pw ah))
  (Q:=λc ah=>c=(none,a₀.size)/\(A0 a₀ a₀.size ah\/∃n m pw,0<n/\0<m/\n+m=a₀.size/\uP a₀ n m pw ah)) ?step ?fin (.inl ⟨rfl,rfl,hB⟩)) ?post)
 case fin =>
  rintro c ah (⟨hx,_,_⟩ | ⟨hx,_⟩ | ⟨_,n,m,pw,hc,h1,h2,h3,h4⟩)
  ·omega
  ·omega
  ·exact⟨hc,.inr ⟨n,m,pw,h1,h2,h3,h4⟩⟩
 case step =>
  rintro x c ah _ hx (⟨rfl,rfl,fE⟩ | ⟨rfl,n,rfl,n1,n2,r1⟩ | ⟨uA,n,m,pw,rfl,h1,h2,h3,h4⟩)
  ·dsimp only;rw[if_neg (by omega),Nat.sub_zero]
   have sb:cQ a₀ (arrOf ah) #[] 0 ah:=⟨fE.perm,fE.kind,fE.failed,fE.pend,λ_ _=>rfl⟩;refine wpS_bind (AY h0 (by omega) (by omega) sb λm aJ B2 m1 m2 s2=>?_)
   dsimp only;refine aA (λaY=>?_) λaY=>?_
   ·refine wpS_bind (wpS_lift (wpAny_rule ⟨rfl,?_⟩));rw[show min a₀.size mr=mr by omega]
    refine wpS_bind (AZ h0 (by omega) (by omega) B2 s2 λbT B3 s3=>?_)
    rw[if_neg (by simp)]
    refine wpS_bind (wpS_get ?_);have hb:(pendingOf bT).back? = none:=by rw[B3.pend];rfl
    rw[hb];dsimp only;refine wpS_bind (wpS_modify (wpS_pure (.inr (.inl ⟨rfl,mr,by rw[Nat.zero_add],Nat.le_refl _,by omega,⟨B3.perm,B3.kind,B3.failed,?_,s3⟩⟩))))
    show (pendingOf bT).push _=_;rw[B3.pend]
    rfl
   ·refine wpS_bind (wpS_get ?_);have hb:(pendingOf aJ).back? = none:=by rw[B2.pend];rfl
    rw[hb];dsimp only;refine wpS_bind (wpS_modify (wpS_pure (.inr (.inl ⟨rfl,m,by rw[Nat.zero_add],by omega,by omega,⟨B2.perm,B2.kind,B2.failed,?_,s2⟩⟩))))
    show (pendingOf aJ).push _=_;rw[B2.pend]
    rfl
  ·dsimp only;refine aA (λc9=>?_) λc9=>?_
   ·have:n=a₀.size:=by omega
    subst this;exact wpS_pure ⟨rfl,.inl r1⟩
   ·have sb:cQ a₀ (arrOf ah) #[(0,n,0)] n ah:=⟨r1.perm,r1.kind,r1.failed,r1.pend,λ_ _=>rfl⟩;refine wpS_bind (AY h0 (by omega) (by omega) sb λm aJ B2 m1 m2 s2=>?_)
    dsimp only;refine aA (λaY=>?_) λaY=>?_
    ·refine wpS_bind (wpS_lift (wpAny_rule ⟨rfl,?_⟩));rw[show min (a₀.size - n) mr=a₀.size - n by omega]
     refine wpS_bind (AZ h0 (by omega) m2 B2 s2 λbT B3 R3=>?_)
     simp only[Bool.not_true,Bool.false_eq_true,if_false];refine wpS_bind (wpS_get ?_);have hb:(pendingOf bT).back? = some (0,n,0):=by rw[B3.pend];rfl
     rw[hb];dsimp only;refine wpS_bind (wpS_mono (wpS_forRange (I:=λ_ c aP=>aP=bT/\c=(none,())) (Q:=λc aP=>aP=bT/\c=(none,())) ?_ (λ_ _ hh=>hh) ⟨rfl,rfl⟩) ?_)
     ·rintro x c aP _ _ ⟨rfl,rfl⟩;refine wpS_bind (wpS_get ?_);rw[if_neg (by show ¬ (pendingOf _).size > 1;rw[B3.pend];exact Nat.lt_irrefl 1)]
      exact wpS_pure ⟨rfl,rfl⟩
     ·rintro c aP ⟨rfl,rfl⟩;dsimp only;refine wpS_bind (wpS_modify (wpS_bind (wpS_modify (wpS_pure (.inr (.inr ⟨by omega,n,a₀.size - n,power' a₀.size (2*0+n) (2*0+n+n+(a₀.size - n)) a₀.size,by congr 1;omega,by omega,by omega,by omega,⟨B3.perm,B3.kind,B3.failed,?_,λi j g1 g2 g3=>?_,R3⟩⟩))))))
      ·show ((pendingOf _).modify ((pendingOf _).size - 1) _).push _=_;rw[B3.pend]
       rfl
      ·show K (arrOf _) i<=K (arrOf _) j;rw[B3.low i (by omega),B3.low j (by omega)]
       exact r1.mD i j g1 g2 g3
    ·have em:m=a₀.size - n:=by omega
     have B3:=B2;have R3:=s2;refine wpS_bind (wpS_get ?_);have hb:(pendingOf aJ).back? = some (0,n,0):=by rw[B3.pend];rfl
     rw[hb];dsimp only;refine wpS_bind (wpS_mono (wpS_forRange (I:=λ_ c aP=>aP=aJ/\c=(none,())) (Q:=λc aP=>aP=aJ/\c=(none,())) ?_ (λ_ _ hh=>hh) ⟨rfl,rfl⟩) ?_)
     ·rintro x c aP _ _ ⟨rfl,rfl⟩;refine wpS_bind (wpS_get ?_);rw[if_neg (by show ¬ (pendingOf _).size > 1;rw[B3.pend];exact Nat.lt_irrefl 1)]
      exact wpS_pure ⟨rfl,rfl⟩
     ·rintro c aP ⟨rfl,rfl⟩;dsimp only;refine wpS_bind (wpS_modify (wpS_bind (wpS_modify (wpS_pure (.inr (.inr ⟨by omega,n,m,power' a₀.size (2*0+n) (2*0+n+n+m) a₀.size,by congr 1;omega,by omega,by omega,by omega,⟨B3.perm,B3.kind,B3.failed,?_,λi j g1 g2 g3=>?_,R3⟩⟩))))))
      ·show ((pendingOf _).modify ((pendingOf _).size - 1) _).push _=_;rw[B3.pend]
       rfl
      ·show K (arrOf _) i<=K (arrOf _) j;rw[B3.low i (by omega),B3.low j (by omega)]
       exact r1.mD i j g1 g2 g3
  ·dsimp only;rw[if_pos (Nat.le_refl _)];exact wpS_pure ⟨rfl,.inr ⟨n,m,pw,h1,h2,h3,h4⟩⟩
 case post =>
  rintro c ah ⟨rfl,hr⟩;dsimp only;refine wpS_bind (wpS_mono (wpS_forRange
   (I:=λx c aP=>c=(none,())/\(((arrOf aP).Perm a₀/\failedOf aP=none/\(pendingOf aP).size<=1/\SortedTo (arrOf aP) a₀.size)\/(x=0/\∃n m pw,0<n/\0<m/\n+m=a₀.size/\uP a₀ n m pw aP)))
   (Q:=λc aP=>c=(none,())/\(arrOf aP).Perm a₀/\failedOf aP=none/\SortedTo (arrOf aP) a₀.size) ?s2 ?f2 ⟨rfl,?i2⟩) ?p2)
  case i2 =>
   rcases hr with r | r
   ·exact .inl ⟨r.perm,r.failed,by rw[r.pend];exact Nat.le_refl 1,λi j g1 g2=>r.mD i j (Nat.zero_le _) g1 (by omega)⟩
   ·exact .inr ⟨rfl,r⟩
  case f2 =>
   rintro c aP ⟨rfl,⟨g1,g2,_,g4⟩ | ⟨hx,_⟩⟩
   ·exact⟨rfl,g1,g2,g4⟩
   ·omega
  case p2 =>
   rintro c aP ⟨rfl,g1,g2,g3⟩;exact wpS_pure (h _ g1 g2 g3)
  case s2 =>
   rintro x c aP _ hx ⟨rfl,⟨g1,g2,g3,g4⟩ | ⟨rfl,n,m,pw,h1,h2,h3,r⟩⟩
   ·refine wpS_bind (wpS_get ?_);rw[if_pos g3];exact wpS_pure ⟨rfl,g1,g2,g4⟩
   ·refine wpS_bind (wpS_get ?_);have ez:(pendingOf aP).size=2:=by rw[r.pend];rfl
    rw[if_neg (by show ¬ (pendingOf aP).size<=1;omega)]
    rw[ez];simp only[Nat.sub_self,Nat.lt_irrefl,gt_iff_lt,if_false,Option.any_none,Bool.false_eq_true];have JG:(arrOf aP).size=a₀.size:=r.perm.size_eq;have ik:IntKeys (arrOf aP):=λp hp=>h0 p ((Array.perm_iff_toList_perm.mp r.perm).mem_iff.mp hp);refine wpS_bind (Jp r.kind r.failed r.pend ik (by omega) h1 h2 (λi j g1 g2=>r.mD i j (Nat.zero_le _) g1 (by omega)) (λi j g1 g2 g3=>r.JB i j g1 g2 (by omega)) λbT p3 f3 JH s3=>?_)
    simp only[Bool.not_true,Bool.false_eq_true,if_false];refine wpS_pure ⟨rfl,.inl ⟨p3.trans r.perm,f3,by rw[JH];exact Nat.le_refl 1,by rw[JG] at s3;exact s3⟩⟩
end
end _L
namespace _L
open PySem PySem.Spec PyProof.Rows
section
variable{prog:Program}{w:World}{A:Around}{E:Value->Shared->Prop}{s:Shared}
theorem JI{a:Addr}{vs:List Value}{ns:List Int}{n:Nat}{P:Fin->Shared->Prop}(g0:s.heap.get? a=some (seqObj "list" vs.toArray n))(hI:IntsAre vs ns)(l1:64<=vs.length)(l2:vs.length<128)
  (q:∀(out:Array Value) (ms:List Int),IntsAre out.toList ms->ms.Perm ns->ms.Pairwise (·<=·)->P (.done (.ret .none)) { s with heap:=sortedHeap s.heap a vs out }):wpAny (model prog w) A (Builtin.«list.sort» ⟨[.ref a],[]⟩) P E s:=by
 have la:=Heap.lt_size g0;obtain⟨k1,g1⟩:∃k,(s.heap.update a (Obj.mapSeq λ_ => #[])).get? a=some (seqObj "list" #[] k):=⟨_,get?_update_seq g0 λ_ => #[]⟩;have g2:(((s.heap.update a (Obj.mapSeq λ_ => #[])).push (seqObj "tuple" vs.toArray 0)).push (seqObj "list" #[] 0)).get? a=some (seqObj "list" #[] k1):=by
  rw[Heap.get?_push_ne,Heap.get?_push_ne,g1]
  ·rw[Heap.size_update];exact Nat.ne_of_lt la
  ·rw[size_push',Heap.size_update];exact Nat.ne_of_lt (Nat.lt_succ_of_lt la)
 have big:¬ vs.toArray.size<2:=by rw[List.size_toArray];omega
 obtain⟨u,v,r,rfl⟩:∃u v r,vs=u::v::r:=by
  match vs,l1 with
  | [],l1=>simp at l1
  | [_],l1=>simp at l1
  | u::v::r,_=>exact⟨u,v,r,rfl⟩
 rw[list_sort_plain];refine wpAny_bind (listItems_at g0 rfl (wpAny_bind (listUpdate_at g0 rfl (wpAny_bind (seqEpoch_at g1 rfl (wpAny_bind (wpAny_newTuple (wpAny_bind (wpAny_newList (wpAny_holding ?_))))))))));rw[if_neg big,if_neg big,keyKind_ints hI];refine wpAny_bind (wpAny_pure (wpAny_bind (wpAny_mono (JC (a₀:=pairsOf (u::v::r)) (st:=SortSt.mk' oneType' (pairsOf (u::v::r)) #[] 7 none) (Q:=λ_ st=>(arrOf st).Perm (pairsOf (u::v::r))/\failedOf st=none/\SortedTo (arrOf st) (pairsOf (u::v::r)).size) hI.intKeys ⟨Array.Perm.refl _,rfl,rfl,rfl⟩ (by rw[pairsOf_size];exact l1) (by rw[pairsOf_size];exact l2) λ_ x y z=>⟨x,y,z⟩) ?_ λ_ _ e=>e)))
 rintro⟨⟨⟩,st⟩ s2 ⟨rfl,hp,hf,hs⟩;have sz:((arrOf st).map (·.2)).size<=sizeLine+1:=by
  rw[Array.size_map,hp.size_eq,pairsOf_size,sizeLine_eq];omega
 refine wpAny_bind (seqEpoch_at g2 rfl (wpAny_bind (listUpdate_at g2 rfl ?_ (hsz2:=sz))));dsimp only;rw[hf,bne_self_eq_false];obtain⟨ms,t1,t2,t3⟩:=sorted_out hI hp hs;exact wpAny_pure (q _ ms t1 t2 t3)
theorem JJ{l:Addr}{vs:List Value}{ns:List Int}{Q:Value->Shared->Prop}(pl:s.heap.IsList l vs.toArray)(hI:IntsAre vs ns)(l2:vs.length<128)
  (q:∀(out:Array Value) (ms:List Int),IntsAre out.toList ms->ms.Perm ns->ms.Pairwise (·<=·)->Q (.ref (s.heap.objs.size+1)) { s with heap:=sortedAll s.heap vs out }):wpAny (model prog w) A (call (.builtin "sorted") [.ref l]) Q E s:=by
 by_cases l1:vs.length<64
 ·exact sorted_ints pl hI l1 q
 ·have e0:((s.heap.push (seqObj "list" #[] 0)).update s.heap.objs.size (Obj.mapSeq (· ++ vs.toArray))).objs.size=s.heap.objs.size+1:=by rw[Heap.size_update];exact size_push' _ _
  have g0:(((s.heap.push (seqObj "list" #[] 0)).update s.heap.objs.size (Obj.mapSeq (· ++ vs.toArray))).push (seqObj "list" vs.toArray 0)).get? (s.heap.objs.size+1)=some (seqObj "list" vs.toArray 0):=by rw[← e0];exact Heap.get?_push_size _ rfl
  refine Calls.call_function_entry kind_sorted plain_sorted entry_sorted (args_sorted1 _) ?_;refine wpAny_bind (m:=checkCount "sorted" 1 1 _) (wpAny_pure (wpAny_bind (collect_list pl (wpAny_bind (wpAny_newList ?_)))))
  show wpAny _ _ _ _ _ { s with heap:=((s.heap.push (seqObj "list" #[] 0)).update s.heap.objs.size (Obj.mapSeq (· ++ vs.toArray))).push (seqObj "list" vs.toArray 0)};rw[e0];exact wpAny_bind (wpAny_holding (wpAny_call_entry slot_list_sort ⟨_,g0,rfl⟩ entry_list_sort (JI g0 hI (by omega) l2 λout ms t1 t2 t3=>⟨_,rfl,wpAny_pure ⟨_,rfl,q out ms t1 t2 t3⟩⟩) (args_list_sort _)))
end
section
variable{X:Cx}
theorem JK:gv X (.builtin "sorted") (λxs H Q=>∃(p:Addr) (ns:List Int),xs = [.ref p]/\aD X.K H p (ns.map V.int)/\ns.length<128/\
  ∀(l:Addr) (ms:List Int),H l=none->ms.Perm ns->ms.Pairwise (·<=·)->Q (.ref l) (upd H l (.lst (ms.map V.int)))):=by
 rintro pins s σ H xs us Q I r ⟨p,ns,rfl,hq,l2,q⟩;obtain⟨u,rfl,ru⟩:=vals1 r;cases ru;obtain⟨au,rv,pl,hz⟩:=I.list hq;have hi:IntsAre au ns:=intsAre_of rv;refine JJ pl.isList hi (by rw[hi.length];exact l2) λout ms t1 t2 t3=>?_
 obtain⟨e,he⟩:=sortedAll_at s.heap au out;refine⟨.ref (s.heap.objs.size+1),upd H (s.heap.objs.size+1) (.lst (ms.map V.int)),I.laid (t':=s.toks) (λ_ _ z=>sortedAll_old z) (Nat.le_succ _) ⟨?_,out.toList,e,tK t1,by simpa using he⟩,rfl,q _ ms (I.aB.fresh (Nat.le_succ _)) t2 t3⟩
 rw[List.length_map,t2.length_eq];exact Nat.le_trans (Nat.le_of_lt l2) (by decide)
end
section
variable{X:Cx}
noncomputable def JL(ta:TA):TE:=λσ H Q=>ta σ H λvs H1=>∃i j c:Int,vs = [.int i,.int j,.int c]/\(0<=i/\i<=1000000/\0<=j/\j<=1000000/\1<=c/\c<=1000000)/\
 ∀l (n:Nat),H1 l=none->n<=1000001->(∀k:Nat,k<n->0<=i+(k:Int)*c/\i+(k:Int)*c<j)->Q (.ref l) (upd H1 l (.lst ((List.range n).map λ(k:Nat)=>V.int (i+(k:Int)*c))))
theorem vals3{x y z:V}{us:List Value}(r:Vals [x,y,z] us):∃u v w',us = [u,v,w']/\RelV x u/\RelV y v/\RelV z w':=by
 cases r with
 | cons r1 r =>
  obtain⟨v,w',rfl,r2,r3⟩:=vals2 r;exact⟨_,v,w',rfl,r1,r2,r3⟩
theorem step_size{i j c:Int}(hi:0<=i)(hj:j<=1000000)(hc:1<=c):∃n:Nat,Builtin.Range.rangeSize i j c=(n:Int)/\n<=1000001/\∀k:Nat,k<n->0<=i+(k:Int)*c/\i+(k:Int)*c<j:=by
 unfold Builtin.Range.rangeSize;rw[if_pos (by lia)]
 by_cases h:i<j
 ·rw[if_pos h];have h0:0<=(j - i - 1) / c:=Int.ediv_nonneg (by lia) (by lia)
  have h1:(j - i - 1) / c<=j - i - 1:=Int.ediv_le_self _ (by lia)
  refine⟨((j - i - 1) / c+1).toNat,by lia,by lia,λk hk=>?_⟩
  have JM:(k:Int)<=(j - i - 1) / c:=by lia
  have h2:(k:Int)*c<=j - i - 1:=(Int.le_ediv_iff_mul_le (by lia)).mp JM
  have h3:0<=(k:Int)*c:=Int.mul_nonneg (by lia) (by lia)
  lia
 ·rw[if_neg h];exact⟨0,rfl,by lia,λk hk=>by lia⟩
theorem JN{i j c:Int}(h1:0<=i)(h2:i<=1000000)(h3:0<=j)(h4:j<=1000000)(h5:1<=c)(h6:c<=1000000):Builtin.Range.small i j c=true:=by
 obtain⟨n,en,n1,_⟩:=step_size (i:=i) (j:=j) (c:=c) h1 h4 h5;have fl:∀x:Int,0<=x->x<=3000000->Builtin.Range.rangeFitsLong x=true:=λx g1 g2=>by
  unfold Builtin.Range.rangeFitsLong;simp;lia
 unfold Builtin.Range.small;rw[en,fl i h1 (by lia),fl j h3 (by lia),fl c (by lia) (by lia),fl n (by lia) (by lia),if_pos (by lia),fl (j+(c - 1)) (by lia) (by lia)]
 simp
theorem JO{a b c:Expr}{ta:TA}{p p0 pos JP:Pos}(JQ:Gl X "list")(JR:X.mg "list" = none)(hg:Gl X "range")(hm:X.mg "range" = none)(hc:X.calm=true)(ha:PA X [a,b,c] ta)
  (hs:starEach [a,b,c] X.env = [(false,eval a X.env),(false,eval b X.env),(false,eval c X.env)]:=by rfl) (eY:starEach [b,c] X.env = [(false,eval b X.env),(false,eval c X.env)]:=by rfl)
  (fF:starEach [.Call (.Name "range" p) [a,b,c] [] pos] X.env = [(false,eval (.Call (.Name "range" p) [a,b,c] [] pos) X.env)]:=by rfl) :
  PE X (.Call (.Name "list" p0) [.Call (.Name "range" p) [a,b,c] [] pos] [] JP) (JL ta):=by
 intro pins s σ H Q I h;refine Call_ (iw I JQ JR boot_list (PyProof.Rows.callWith_type1 ?_ fF rfl));rw[fF];refine Calls.spliced_cons ?_;refine Call_ (iw I hg hm boot_range (PyProof.Rows.callWith_type1 (aI (ha pos pins s σ H _ I h) λus s1 ⟨vs,H1,I1,r1,q1⟩=>?_) (by rw[hs,eY]) (by rw[eY];rfl)))
 obtain⟨i,j,c',e,⟨b1,b2,b3,b4,b5,b6⟩,q⟩:=q1;subst e;obtain⟨u,v,w',rfl,ru,rv,jo⟩:=vals3 r1;obtain⟨t,rfl⟩:=ru;obtain⟨t',rfl⟩:=rv;obtain⟨t2,rfl⟩:=jo;refine call_range_3 (by lia) ?_ (Or.inl (PyProof.noPylong_small (by lia)))
 refine Calls.spliced_nil ?_;have hr:=IsRange.new s1.heap i j c' t t' t2;obtain⟨n,en,n1,n2⟩:=step_size (i:=i) (j:=j) (c:=c') b1 b4 b5;refine call_list_range (I.ok.hd hc) hr (JN b1 b2 b3 b4 b5 b6) en (by lia) λh' tk acc c hk hS kg=>?_
 have k2:∀b o,s1.heap.get? b=some o->h'.get? b=some o:=λb o e=>hk b o (Heap.get?_push_of_some _ e);have sz:(s1.heap.push { cls:=.type "range",data:=.fields #[.int i t,.int j t',.int c' t2] }).objs.size=s1.heap.objs.size+1:=by simp[Heap.push]
 rw[sz] at hS ⊢;have vl:Vals ((List.range n).map λ(k:Nat)=>V.int (i+(k:Int)*c')) acc.toList:=Ia (F:=λ(k:Nat)=>V.int (i+(k:Int)*c')) ⟨kg.1,λj' v hj=>kg.2 j' v hj⟩;refine⟨.ref (s1.heap.objs.size+1),upd H1 (s1.heap.objs.size+1) (.lst ((List.range n).map λ(k:Nat)=>V.int (i+(k:Int)*c'))),I1.laid k2 (Nat.le_succ _) ?_,rfl,q _ n (I1.aB.fresh (Nat.le_succ _)) n1 n2⟩;refine⟨by rw[List.length_map,List.length_range,zq];lia,acc.toList,c,vl,by simpa using hS⟩
end
noncomputable def JS(K:PySem.W.Frag):Sp:=λvs H Q _=>∃(a b:Int),vs = [.int a,.int b]/\∀l ts z H',ak H H'->H l=none->(∀t∈ts,H t=none)->Zn H' l ts z->gG z->b_ z<=32768->Q (.ref l) H'
noncomputable def JT(K:PySem.W.Frag):Sp:=λvs H Q _=>∃(m c:Int),vs = [.int m,.int c]/\2<=m/\m<=120/\∀l sw H',ak H H'->H l=none->H' l=some (.lst (sw.map V.int))->SwOk sw m->Q (.ref l) H'
noncomputable def JU(K:PySem.W.Frag)(cs:List Addr)(X:Addr):Sp:=λvs H Q E=>∃(C p:Addr) (P:Pl) (fp:List Addr) (r c:Int),vs = [.ref p,.int r,.int c]/\C∈cs/\c7 K C H p P fp/\
 ((0<=r/\r<P.rc.length/\0<=c/\c<P.rc.getD r.toNat 0)->∀H',ak H H'->Q ((bZ (jv P.nc) (kT (r,c))).getD .aC) H')/\
 (¬ (0<=r/\r<P.rc.length/\0<=c/\c<P.rc.getD r.toNat 0)->∀d t H',ak H H'->H' d=some (c8 d [(("cell" : Str),.ref t),(("ask" : Str),.aC)])->H' t=some (.tup [.int r,.int c])->E (.ref X) (some (2*d)) H')
noncomputable def JV(K:PySem.W.Frag)(cs:List Addr):Sp:=λvs H Q _=>∃(C p:Addr) (P:Pl) (fp:List Addr) (k:Int),vs = [.ref p,.int k]/\C∈cs/\c7 K C H p P fp/\¬ (0<=k/\k<P.nc.length)/\∀H',ak H H'->Q (.bl true) H'
noncomputable def JW(K:PySem.W.Frag)(cs:List Addr):Sp:=λvs H Q _=>∃(C p t:Addr) (P:Pl) (fp:List Addr) (r c:Int),vs = [.ref p,.ref t]/\C∈cs/\c7 K C H p P fp/\H t=some (.tup [.int r,.int c])/\¬ (0<=r/\r<P.rc.length/\0<=c/\c<P.rc.getD r.toNat 0)/\∀H',ak H H'->Q (.bl true) H'
theorem A1(c:Int){s0:Int}(h:1<=s0)(h7:s0<=8000000){n:Nat}(h2:2<=n)(O0:n<=120):SwOk ((List.range n).map (cU c s0)) (n:Int):=by
 refine⟨by simp,by lia,by rw[range_getD (by lia)];rfl,λi h1 hi=>?_,λi h1 hi=>?_,λa b ha hb pG=>?_⟩
 ·rw[List.length_map,List.length_range] at hi;rw[range_getD hi];have:=zC c h i;have e:s0*(i:Int)<=8000000*(i:Int):=Int.mul_le_mul_of_nonneg_right h7 (by lia)
  lia
 ·rw[List.length_map,List.length_range] at hi;rw[range_getD hi,range_getD (by lia)]
  obtain⟨j,rfl⟩:∃j,i=j+1:=⟨i - 1,by lia⟩
  have:=jA c h j;rw[cU];show cU c s0 j<=_;lia
 ·rw[List.length_map,List.length_range] at pG;rw[range_getD pG,range_getD (by lia),range_getD (by lia)]
  exact zB c h a b
noncomputable def kG(a b:Int)(n:Nat):List (Int×Int):=(List.range n).map λ(k:Nat)=>(40 - mix a (11+(k:Int)) % 9*(k:Int),1+mix b (11+(k:Int)) % 8)
theorem A2(a b:Int):gG (kG a b 3)/\b_ (kG a b 3)<=32768:=by
 have h3:∀k:Int,0<=mix a k % 9/\mix a k % 9<9:=λk=>⟨Int.emod_nonneg _ (by decide),Int.emod_lt_of_pos _ (by decide)⟩
 have h4:∀k:Int,0<=mix b k % 8/\mix b k % 8<8:=λk=>⟨Int.emod_nonneg _ (by decide),Int.emod_lt_of_pos _ (by decide)⟩
 have e:kG a b 3 = [(40 - mix a 11 % 9*0,1+mix b 11 % 8),(40 - mix a 12 % 9*1,1+mix b 12 % 8),(40 - mix a 13 % 9*2,1+mix b 13 % 8)]:=rfl;have a1:=h3 11;have a2:=h3 12;have a3:=h3 13;have b1:=h4 11;have b2:=h4 12;have b3:=h4 13;rw[e];generalize mix a 11 % 9=x1 at *;generalize mix a 12 % 9=x2 at *;generalize mix a 13 % 9=x3 at *
 generalize mix b 11 % 8=y1 at *;generalize mix b 12 % 8=y2 at *;generalize mix b 13 % 8=y3 at *
 have e7:∀p∈[(40 - x1*0,1+y1),(40 - x2*1,1+y2),(40 - x3*2,1+y3)],1<=p.1/\p.1<=40/\1<=p.2/\p.2<=8:=by
  intro p hp;simp only[List.mem_cons,List.not_mem_nil,or_false] at hp;rcases hp with rfl | rfl | rfl <;> (dsimp only;lia)
 refine⟨⟨by simp,by simp,λp hp=>?_,?_,?_⟩,?_⟩
 ·have:=e7 p hp;lia
 ·simp;lia
 ·simp;lia
 ·have hb:=(lR (m:=8) (by decide) _ λp hp=>(e7 p hp).2.2).2
  have e:(8:Int) ^ 3=512:=by decide
  rw[show [(40 - x1*0,1+y1),(40 - x2*1,1+y2),(40 - x3*2,1+y3)].length=3 from rfl,e] at hb;lia
theorem JX{z:List (Int×Int)}(ok:gG z)(pr:b_ z<=32768)(c:Int):1<=jz z c/\jz z c<=1000000000/\∀p∈z,jz z c % p.2=0:=by
 have hb:=lR (m:=60) (by decide) z λp hp=>(ok.r p hp).2.2
 refine⟨?_,?_,λp hp=>Int.emod_eq_zero_of_dvd (Int.dvd_trans (zD hp) (Int.dvd_mul_right _ _))⟩
 all_goals
  unfold jz;generalize hm:(if mix c 0 % 9=0 then 1000000000 / b_ z else 900)=m
  have GJ:1<=m/\b_ z*m<=1000000000:=by
   rw[← hm];split
   ·constructor
    ·exact(Int.le_ediv_iff_mul_le (by lia)).mpr (by lia)
    ·exact Int.mul_ediv_self_le (by lia)
   ·exact⟨by decide,by lia⟩
  have h1:=Int.emod_nonneg (mix c 1) (show m≠0 by lia)
  have h2:=Int.emod_lt_of_pos (mix c 1) (show 0<m by lia)
  generalize mix c 1 % m=x at h1 h2
  first
  | (have:=Int.mul_le_mul hb.1 (show 1<=1+x by lia) (by decide) (by lia);lia)
  | (have:=Int.mul_le_mul (Int.le_refl (b_ z)) (show 1+x<=m by lia) (by lia) (by lia);lia)
end _L
namespace _W
open PySem _L PyProof.Rows
theorem O1{i j:Int}:gw (.int i) (.int j)=true:=rfl
theorem O2{i j:Str}:gw (.str i) (.str j)=true:=rfl
theorem O3{i j:Bool}:gw (.bl i) (.bl j)=true:=rfl
theorem O4: gw (.aC) (.aC)=true:=rfl
theorem O5{i:Int}:gw (.aC) (.int i)=true:=rfl
theorem O6{i:Int}:gw (.int i) (.aC)=true:=rfl
theorem O7{i:Str}:gw (.aC) (.str i)=true:=rfl
theorem O8{i:Str}:gw (.str i) (.aC)=true:=rfl
local macro_rules | `(tactic| wp_walk using $ts,*)=>do
 let a ← ("OP OG NJ OD OE N_ Hy Hw Hq zZ Ov Oa IP IF Iz IA IV OR JL OA OB OC Oz NP ud NN NO NQ NC N8 NI NH NG NL NK and_assoc Dw HO.ins.injEq Gj lO cS String.reduceBEq List.lookup_cons List.lookup_nil aF HO.lst.injEq HO.dT.injEq HO.tup.injEq String.reduceEq false_and or_false false_or zq E8 NU E5 NR NS NT Fd Bool.not_eq_true' decide_eq_false_iff_not Classical.not_not DT if_false_left if_false_right FI Ny gC List.length_map List.getElem?_nil nY DW nZ xV sr xW NB xP tC oq jh rI D0 rU D8 tB DS DR Nz xU yz En yp Es DQ Nv DL DM DN Nx DO Ep Eo EJ sW EN EO ES ET sU oJ D6 D7 O1 O2 O3 O4 O5 O6 O7 O8 sJ D3 D4 Eg Eh ND Et _L.start N4 N5 N6 List.map_cons List.map_nil List.cons_append List.nil_append List.append_nil List.length_cons List.length_nil List.getElem?_cons_zero List.getElem?_cons_succ Option.some.injEq exists_eq_left exists_eq_left' exists_and_left exists_eq V.int.injEq V.ref.injEq V.bl.injEq V.ty.injEq V.str.injEq List.cons.injEq and_true true_and List.set_cons_zero List.set_cons_succ decide_eq_true_eq Nat.reduceSub Nat.reduceAdd List.replicate_succ List.replicate_zero List.replicate Int.reduceLT Int.reduceLE Int.reducePow Int.reduceToNat Int.reduceNeg Nat.reduceLT Nat.reduceLeDiff Nat.reducePow Int.reduceMul Int.reduceAdd Int.reduceSub and_self or_true true_or gt_iff_lt ge_iff_le if_true if_false Bool.false_eq_true reduceIte Nat.sub_self Nat.sub_zero".splitOn " ").toArray.mapM λx => `(Lean.Parser.Tactic.simpLemma| $(Lean.mkIdent x.toName):ident)
 let d:Array (Lean.TSyntax `term):=("T.jM T.qX T.qY T.qZ T.q_ T.rm T.rq".splitOn " ").toArray.map λx=>⟨Lean.mkIdent x.toName⟩
 let b ← (ts.getElems.flatMap λt=>if t.raw.getId == `T then d else #[t]).mapM λt => `(Lean.Parser.Tactic.simpLemma| $t:term)
 let c:=a++b
 `(tactic| simp (maxSteps:=4000000) only[$c,*])
local macro_rules | `(tactic| walk_at "rdm") => `(tactic| wp_walk using and_self)
seal dw PS PE PT PW PA PG kW PI PK PC PO o8
noncomputable def top(i:Nat):Stmt:=PySem.Challenge.pw_armswing_k01_pairs_of_cells.main.body.getD i (.Pass ⟨0,0,0,0⟩)
noncomputable abbrev fG:Stmt:=inClass (top 4) 0
noncomputable abbrev uQ:Stmt:=top 12
noncomputable abbrev uR:Stmt:=top 13
noncomputable abbrev uS:Stmt:=top 14
noncomputable abbrev uT:Stmt:=top 15
noncomputable abbrev uU:Stmt:=top 16
noncomputable abbrev uW:Stmt:=top 17
noncomputable abbrev uX:Stmt:=top 18
noncomputable abbrev uY:Stmt:=inClass (top 19) 0
noncomputable abbrev uZ:Stmt:=inClass (top 19) 1
noncomputable abbrev u0:Stmt:=inClass (top 19) 2
noncomputable abbrev u5:Stmt:=inClass (top 19) 8
noncomputable abbrev u6:Stmt:=inClass (top 19) 9
noncomputable abbrev u7:Stmt:=inClass (top 19) 10
noncomputable abbrev u9:Stmt:=top 21
noncomputable abbrev u_:Stmt:=top 22
noncomputable abbrev vc:Stmt:=top 23
noncomputable abbrev vd:Stmt:=top 24
noncomputable abbrev ve:Stmt:=top 25
noncomputable abbrev vf:Stmt:=top 26
noncomputable abbrev vg:Stmt:=top 27
noncomputable abbrev vh:Stmt:=top 28
noncomputable abbrev vj:Stmt:=top 29
noncomputable abbrev fH:Stmt:=top 30
theorem JY:bU ["self", "cell", "ask"] ["self", "cell", "ask"] (bg fG):=⟨rfl,rfl,rfl,by decide +kernel,rfl,by decide +kernel,by decide +kernel⟩
theorem pZ:bU ["zones", "rings", "cells", "in_all"] ["zones"] (bg uQ):=⟨rfl,rfl,rfl,by decide +kernel,rfl,by decide +kernel,by decide +kernel⟩
theorem vm:bU ["zones", "lap", "skew", "rings", "cells"] ["zones", "lap", "skew"] (bg uR):=⟨rfl,rfl,rfl,by decide +kernel,rfl,by decide +kernel,by decide +kernel⟩
theorem A3:bU ["swing", "rings", "far"] ["swing", "rings"] (bg uS):=⟨rfl,rfl,rfl,by decide +kernel,rfl,by decide +kernel,by decide +kernel⟩
theorem vn:bU ["swing", "far", "part"] ["swing"] (bg uT):=⟨rfl,rfl,rfl,by decide +kernel,rfl,by decide +kernel,by decide +kernel⟩
theorem p5:bU ["zones", "counts", "rings", "cells"] ["zones"] (bg uU):=⟨rfl,rfl,rfl,by decide +kernel,rfl,by decide +kernel,by decide +kernel⟩
theorem mF:bU ["ring_cells", "spares", "cells", "ring", "count", "place"] ["ring_cells", "spares"] (bg uW):=⟨rfl,rfl,rfl,by decide +kernel,rfl,by decide +kernel,by decide +kernel⟩
theorem p6:bU ["number_cells", "numbers", "number", "cell"] ["number_cells"] (bg uX):=⟨rfl,rfl,rfl,by decide +kernel,rfl,by decide +kernel,by decide +kernel⟩
theorem JZ:bU ["self", "zones", "lap", "skew", "swing"] ["self", "zones", "lap", "skew", "swing"] (bg uY):=⟨rfl,rfl,rfl,by decide +kernel,rfl,by decide +kernel,by decide +kernel⟩
theorem J0:bU ["self"] ["self"] (bg uZ):=⟨rfl,rfl,rfl,by decide +kernel,rfl,by decide +kernel,by decide +kernel⟩
theorem J1:bU ["self"] ["self"] (bg u0):=⟨rfl,rfl,rfl,by decide +kernel,rfl,by decide +kernel,by decide +kernel⟩
theorem J2:bU ["self", "ring", "place"] ["self", "ring", "place"] (bg u5):=⟨rfl,rfl,rfl,by decide +kernel,rfl,by decide +kernel,by decide +kernel⟩
theorem J5:bU ["self", "number"] ["self", "number"] (bg u6):=⟨rfl,rfl,rfl,by decide +kernel,rfl,by decide +kernel,by decide +kernel⟩
theorem J6:bU ["self", "ring", "place"] ["self", "ring", "place"] (bg u7):=⟨rfl,rfl,rfl,by decide +kernel,rfl,by decide +kernel,by decide +kernel⟩
theorem J7:bU ["_law_script", "_law_k"] ["_law_script", "_law_k"] (bg u9):=⟨rfl,rfl,rfl,by decide +kernel,rfl,by decide +kernel,by decide +kernel⟩
theorem A4:bU ["_law_found", "_law_due", "_law_k"] ["_law_found", "_law_due"] (bg u_):=⟨rfl,rfl,rfl,by decide +kernel,rfl,by decide +kernel,by decide +kernel⟩
theorem A5:bU ["_law_cell", "_law_k", "_law_by"] ["_law_cell", "_law_k"] (bg vc):=⟨rfl,rfl,rfl,by decide +kernel,rfl,by decide +kernel,by decide +kernel⟩
theorem mG:bU ["_law_a", "_law_b", "_law_many", "_law_zones_here", "_law_k"] ["_law_a", "_law_b"] (bg vd):=⟨rfl,rfl,rfl,by decide +kernel,rfl,by decide +kernel,by decide +kernel⟩
theorem p7:bU ["_law_zones_here", "_law_counts_here", "_law_many", "_law_cells"] ["_law_zones_here"] (bg ve):=⟨rfl,rfl,rfl,by decide +kernel,rfl,by decide +kernel,by decide +kernel⟩
theorem jI:bU ["_law_zones_here", "_law_cell", "_law_product", "_law_many", "_law_cells", "_law_most"] ["_law_zones_here", "_law_cell"] (bg vf):=⟨rfl,rfl,rfl,by decide +kernel,rfl,by decide +kernel,by decide +kernel⟩
theorem jJ:bU ["_law_many", "_law_cell", "_law_step", "_law_swing_here", "_law_k", "_law_least"] ["_law_many", "_law_cell"] (bg vg):=⟨rfl,rfl,rfl,by decide +kernel,rfl,by decide +kernel,by decide +kernel⟩
theorem p8:bU ["_law_plate", "_law_number", "_law_found", "e"] ["_law_plate", "_law_number"] (bg vh):=⟨rfl,rfl,rfl,by decide +kernel,rfl,by decide +kernel,by decide +kernel⟩
theorem p9:bU ["_law_plate", "_law_pair", "_law_found", "e"] ["_law_plate", "_law_pair"] (bg vj):=⟨rfl,rfl,rfl,by decide +kernel,rfl,by decide +kernel,by decide +kernel⟩
theorem eW:bU ["_law_script", "_law_zones_here", "_law_counts_here", "_law_lap_here", "_law_skew", "_law_plate", "_law_spots", "_law_ring", "_law_k", "_law_far", "_law_number", "_law_pairs"] ["_law_script"] (bg fH):=⟨rfl,rfl,rfl,by decide +kernel,rfl,by decide +kernel,by decide +kernel⟩
set_option genInjectivity false
set_option genSizeOf false
structure g9 where
 p_:Addr
 qa:FuncData
 qb:Addr
 qc:FuncData
 qd:Addr
 qg:FuncData
 qh:Addr
 qj:FuncData
 qk:Addr
 ql:FuncData
 qm:Addr
 qo:FuncData
 qp:Addr
 qq:FuncData
 qu:Addr
 qw:FuncData
 qx:Addr
 qy:FuncData
 mH:Addr
 qz:FuncData
 mJ:Addr
 qA:FuncData
 mK:Addr
 qB:FuncData
 mL:Addr
 qC:FuncData
 mO:Addr
 qD:FuncData
 qE:Addr
 qF:FuncData
 mQ:Addr
 mR:FuncData
 qG:Addr
 qH:FuncData
 qI:Addr
 qJ:FuncData
 qK:Addr
 qL:FuncData
 qM:Addr
 qN:FuncData
 qO:Addr
 qP:FuncData
 qQ:Addr
 qR:FuncData
 qT:Addr
 qU:FuncData
 qV:Addr
 qW:FuncData
 aR:Addr
 dj:Addr
 eX:Addr
 aO:Addr
 mS:Tok
 mT:Tok
 mU:Tok
 mV:Tok
 mW:Tok
 mX:Tok
structure Tx(K:W.Frag)(mg:Str->Option Value)(A:g9):Prop where
 A6:pL K "__init__" "NoCell.__init__" fG A.p_ A.qa
 vo:Binds K A.qa ["self", "cell", "ask"] [.none]
 vp:aW K "check_zones" "check_zones" uQ A.qb A.qc
 A7:Binds K A.qc ["zones"] []
 A8:mg "check_zones" = some (.ref A.qb)
 vq:aW K "check_turning" "check_turning" uR A.qd A.qg
 A9:Binds K A.qg ["zones", "lap", "skew"] []
 A_:mg "check_turning" = some (.ref A.qd)
 vt:aW K "check_swing" "check_swing" uS A.qh A.qj
 Bb:Binds K A.qj ["swing", "rings"] []
 Bc:mg "check_swing" = some (.ref A.qh)
 vv:aW K "check_no_detour" "check_no_detour" uT A.qk A.ql
 Bd:Binds K A.ql ["swing"] []
 Be:mg "check_no_detour" = some (.ref A.qk)
 vA:aW K "cells_by_ring" "cells_by_ring" uU A.qm A.qo
 Bf:Binds K A.qo ["zones"] []
 Bg:mg "cells_by_ring" = some (.ref A.qm)
 vB:aW K "cells_by_number" "cells_by_number" uW A.qp A.qq
 Bh:Binds K A.qq ["ring_cells", "spares"] []
 Bj:mg "cells_by_number" = some (.ref A.qp)
 vC:aW K "numbers_by_cell" "numbers_by_cell" uX A.qu A.qw
 Bk:Binds K A.qw ["number_cells"] []
 Bl:mg "numbers_by_cell" = some (.ref A.qu)
 Bm:aW K "__init__" "Plate.__init__" uY A.qx A.qy
 Bo:Binds K A.qy ["self", "zones", "lap", "skew", "swing"] []
 Bp:aW K "rings" "Plate.rings" uZ A.mH A.qz
 J8:Binds K A.qz ["self"] []
 Bq:Meth K A.aR "rings" A.mH
 Br:aW K "total" "Plate.total" u0 A.mJ A.qA
 Bs:Binds K A.qA ["self"] []
 Bt:Meth K A.aR "total" A.mJ
 Bu:aW K "has_cell" "Plate.has_cell" u5 A.mK A.qB
 Bv:Binds K A.qB ["self", "ring", "place"] []
 Bw:Meth K A.aR "has_cell" A.mK
 Bx:aW K "cell_at" "Plate.cell_at" u6 A.mL A.qC
 vD:Binds K A.qC ["self", "number"] []
 By:Meth K A.aR "cell_at" A.mL
 BA:aW K "number_of" "Plate.number_of" u7 A.mO A.qD
 vE:Binds K A.qD ["self", "ring", "place"] []
 BB:Meth K A.aR "number_of" A.mO
 g_:aW K "_law_at" "_law_at" u9 A.qE A.qF
 iO:Binds K A.qF ["_law_script", "_law_k"] []
 iP:mg "_law_at" = some (.ref A.qE)
 iQ:aW K "_law_same" "_law_same" u_ A.mQ A.mR
 jK:Binds K A.mR ["_law_found", "_law_due"] []
 jL:mg "_law_same" = some (.ref A.mQ)
 cD:aW K "_law_mix" "_law_mix" vc A.qG A.qH
 cG:Binds K A.qH ["_law_cell", "_law_k"] []
 cH:mg "_law_mix" = some (.ref A.qG)
 vF:aW K "_law_zones" "_law_zones" vd A.qI A.qJ
 BC:Binds K A.qJ ["_law_a", "_law_b"] []
 BD:mg "_law_zones" = some (.ref A.qI)
 vG:aW K "_law_counts" "_law_counts" ve A.qK A.qL
 BE:Binds K A.qL ["_law_zones_here"] []
 BF:mg "_law_counts" = some (.ref A.qK)
 vH:aW K "_law_lap" "_law_lap" vf A.qM A.qN
 BG:Binds K A.qN ["_law_zones_here", "_law_cell"] []
 BH:mg "_law_lap" = some (.ref A.qM)
 vI:aW K "_law_swing" "_law_swing" vg A.qO A.qP
 BI:Binds K A.qP ["_law_many", "_law_cell"] []
 BJ:mg "_law_swing" = some (.ref A.qO)
 vJ:aW K "_law_no_number" "_law_no_number" vh A.qQ A.qR
 BK:Binds K A.qR ["_law_plate", "_law_number"] []
 BL:mg "_law_no_number" = some (.ref A.qQ)
 vK:aW K "_law_no_pair" "_law_no_pair" vj A.qT A.qU
 BN:Binds K A.qU ["_law_plate", "_law_pair"] []
 BO:mg "_law_no_pair" = some (.ref A.qT)
 BP:aW K "law" "law" fH A.qV A.qW
 J9:Binds K A.qW ["_law_script"] []
 J_:mg "law" = some (.ref A.qV)
 jM:dc K A.aR
 BQ:Mk K A.aR A.qx
 BR:mg "Plate" = some (.ref A.aR)
 qX:cE K A.aR "ring_cells"
 qY:cE K A.aR "lap"
 qZ:cE K A.aR "skew"
 q_:cE K A.aR "swing"
 rm:cE K A.aR "number_cells"
 rq:cE K A.aR "cell_numbers"
 BS:mg "MOST_ZONES" = some (.int 5 A.mS)
 BU:mg "MOST_RINGS_IN_ZONE" = some (.int 40 A.mT)
 BV:mg "MOST_CELLS_IN_RING" = some (.int 60 A.mU)
 BW:mg "LEAST_RINGS" = some (.int 2 A.mV)
 BX:mg "MOST_RINGS" = some (.int 120 A.mW)
 vL:mg "MOST_BEATS" = some (.int 1000000000 A.mX)
 rz:mg "all" = none
 mY:mg "bool" = none
 mZ:mg "enumerate" = none
 m_:mg "int" = none
 cX:mg "isinstance" = none
 cj:mg "len" = none
 iR:mg "list" = none
 eg:mg "range" = none
 rA:mg "sorted" = none
 ng:mg "str" = none
 rB:mg "sum" = none
 kH:mg "tuple" = none
 ni:mg "ValueError" = none
 rC:mg "ArmError" = some (.ref A.dj)
 rD:W.excIn K A.dj [.type "ValueError",.type "Exception",.type "BaseException",.type "object"] "ValueError.__new__" = true
 Ka:e9 K A.dj
 BY:Ax K A.dj "__init__" "ValueError.__init__"
 vM:mg "NoPlate" = some (.ref A.eX)
 rE:W.excIn K A.eX [.type "ValueError",.type "Exception",.type "BaseException",.type "object"] "ValueError.__new__" = true
 Kc:e9 K A.eX
 nj:mg "NoCell" = some (.ref A.aO)
 nk:e9 K A.aO
 nq:AD K A.aO A.p_ [.type "ValueError",.type "Exception",.type "BaseException",.type "object"] "ValueError.__new__"
 jN:gY K A.aO
 kI:cE K A.aO "cell"
 kJ:cE K A.aO "ask"
 gj:jD K A.aO
 jO:(W.clsIn K A.aO).isSome=true
 nu:W.kitOne K (.ref A.aO) (.ref A.dj)=some true
 Ke:subIn K A.aO (.ref A.dj)=true
 nv:W.kitOne K (.ref A.aO) (.ref A.eX)=some false
 Kf:subIn K A.aO (.ref A.eX)=false
 vN:W.kitOne K (.ref A.aO) (.ref A.aO)=some true
 vO:subIn K A.aO (.ref A.aO)=true
 nA:W.kitOne K (.ref A.aO) (.type "ValueError")=some true
theorem Tx.Kg{K:W.Frag}{mg:Str->Option Value}{A:g9}(T:Tx K mg A):CP K A.aR:=⟨T.jM,T.qX,T.qY,T.qZ,T.q_,T.rm,T.rq⟩
theorem Tx.O9{K:W.Frag}{mg:Str->Option Value}{A:g9}(T:Tx K mg A):∀C∈[A.aR],dc K C/\Meth K C "rings" A.mH:=by
 intro C hC;simp only[List.mem_cons,List.not_mem_nil,or_false] at hC;rcases hC with rfl
 ·exact⟨T.jM,T.Bq⟩
theorem Tx.Kh{K:W.Frag}{mg:Str->Option Value}{A:g9}(T:Tx K mg A):∀C∈[A.aR],dc K C/\Meth K C "total" A.mJ:=by
 intro C hC;simp only[List.mem_cons,List.not_mem_nil,or_false] at hC;rcases hC with rfl
 ·exact⟨T.jM,T.Bt⟩
theorem Tx.Kl{K:W.Frag}{mg:Str->Option Value}{A:g9}(T:Tx K mg A):∀C∈[A.aR],dc K C/\Meth K C "has_cell" A.mK:=by
 intro C hC;simp only[List.mem_cons,List.not_mem_nil,or_false] at hC;rcases hC with rfl
 ·exact⟨T.jM,T.Bw⟩
theorem Tx.BZ{K:W.Frag}{mg:Str->Option Value}{A:g9}(T:Tx K mg A):∀C∈[A.aR],dc K C/\Meth K C "cell_at" A.mL:=by
 intro C hC;simp only[List.mem_cons,List.not_mem_nil,or_false] at hC;rcases hC with rfl
 ·exact⟨T.jM,T.By⟩
theorem Tx.B0{K:W.Frag}{mg:Str->Option Value}{A:g9}(T:Tx K mg A):∀C∈[A.aR],dc K C/\Meth K C "number_of" A.mO:=by
 intro C hC;simp only[List.mem_cons,List.not_mem_nil,or_false] at hC;rcases hC with rfl
 ·exact⟨T.jM,T.BB⟩
local macro_rules | `(tactic| walk_at "rdt") => `(tactic| wp_walk using $(Lean.mkIdent `T))
section
variable{P:Program}{w:World}{K:W.Frag}{mg:Str->Option Value}{base:Heap}{A:g9}
theorem Km(T:Tx K mg A):∀n,bh P w K mg base bL (n+1) A.mQ A.mR ["_law_found", "_law_due"] (zz n):=by
 intro n
 induction n with
 | zero=>exact⟨λ_ _ _ _ h=>h.elim,λ_ _ _ _ _ _ _ _ _ _ _ _ _ h=>h.elim⟩
 | succ n ih =>
  refine T.iQ.ok A4 (λvs H Q E h=>?_) (λaK Ar outer s H vs Q E hr h=>?_)
  ·obtain⟨v1,v2,d,rfl,_⟩:=h
   rfl
  ·obtain⟨v1,v2,d,rfl,r1,r2,q⟩:=h;have hu:=tN hr;refine⟨_,(aH (bI (PW.pt (fS (bB iD (bq gD rfl T.cX boot_isinstance (aa (pv 1) (aa (eB (v:=.ty "tuple") rfl T.kH boot_tuple rfl) aj))) (bq gD rfl T.cX boot_isinstance (aa (pv 0) (aa (eB (v:=.ty "tuple") rfl T.kH boot_tuple rfl) aj))) (br _)) (fR (bB iD (bq gD rfl T.cX boot_isinstance (aa (pv 1) (aa (eB (v:=.ty "list") rfl T.iR boot_list rfl) aj))) (bq gD rfl T.cX boot_isinstance (aa (pv 0) (aa (eB (v:=.ty "list") rfl T.iR boot_list rfl) aj))) (br _))))) (aN (bF fq)) bH)
   (aH (bI (i8 (bq Ga rfl T.cX boot_isinstance (aa (pv 1) (aa (cK (aa (eB (v:=.ty "tuple") rfl T.kH boot_tuple rfl) (aa (eB (v:=.ty "list") rfl T.iR boot_list rfl) aj))) aj)))) (aH (bI (bB iD (bq cI rfl T.cj boot_len (aa (pv 0) aj)) (bq cI rfl T.cj boot_len (aa (pv 1) aj)) (br _)) (aN (bF fq)) bH)
   (aH (dz PassesOwn.never rfl (k6 rfl T.eg (aa (bq cI rfl T.cj boot_len (aa (pv 1) aj)) aj)) (bS (i:=2) A4.nd rfl (Or.inl rfl))
   (aN (bI (j3 (i8 (aZ ih (hr.mono (by first | decide | lia)) rfl T.jL T.iQ.kp T.jK .nil aU (aa (cF yD (pv 0) (pv 2) (λ_ _=>rfl)) (aa (cF yD (pv 1) (pv 2) (λ_ _=>rfl)) aj))))) (aN (bF fq)) bH)))
   (aN (bF fq)))) bH)
   (aH (bI (bB yf (pv 1) nW (br _)) (aN (bF (k_ yf (pv 0) nW (br _)))) bH)
   (aH (bI (PW.pt (fS (bB iD (bq gD rfl T.cX boot_isinstance (aa (pv 1) (aa (eB (v:=.ty "bool") rfl T.mY boot_bool rfl) aj))) (bq gD rfl T.cX boot_isinstance (aa (pv 0) (aa (eB (v:=.ty "bool") rfl T.mY boot_bool rfl) aj))) (br _)) (fR (bB iD (bq gD rfl T.cX boot_isinstance (aa (pv 1) (aa (eB (v:=.ty "str") rfl T.ng boot_str rfl) aj))) (bq gD rfl T.cX boot_isinstance (aa (pv 0) (aa (eB (v:=.ty "str") rfl T.ng boot_str rfl) aj))) (br _))))) (aN (bF fq)) bH)
   (aN (bF (j4 (k_ iC (bq gD rfl T.cX boot_isinstance (aa (pv 1) (aa (eB (v:=.ty "int") rfl T.m_ boot_int rfl) aj))) (bq gD rfl T.cX boot_isinstance (aa (pv 0) (aa (eB (v:=.ty "int") rfl T.m_ boot_int rfl) aj))) (br _)) (nX (k_ iC (pv 0) (pv 1) (br _)))))))))),?_⟩
   walk_at "rdm";cases r1 with
   | int i =>
    cases r2;refine⟨_,.int i,_,rfl,_,.int i,_,rfl,ite_no (by simp) ⟨_,.int i,_,rfl,_,.int i,_,rfl,ite_no (by simp) (λp hp=>⟨["tuple", "list"],rfl,_,.int i,_,rfl,ite_no (by decide) (ite_no (by simp) ?_)⟩)⟩⟩
    refine⟨_,.int i,_,rfl,_,.int i,_,rfl,ite_no (by simp) ⟨_,.int i,_,rfl,_,.int i,_,rfl,ite_no (by simp) ⟨_,.int i,_,rfl,_,.int i,_,rfl,ite_yes rfl ⟨rfl,?_⟩⟩⟩⟩
    have:=q _ (ak.put (o:=HO.tup [V.ty "tuple",V.ty "list"]) hp);simpa using this
   | bl i =>
    cases r2;refine⟨_,.bl i,_,rfl,_,.bl i,_,rfl,ite_no (by simp) ⟨_,.bl i,_,rfl,_,.bl i,_,rfl,ite_no (by simp) (λp hp=>⟨["tuple", "list"],rfl,_,.bl i,_,rfl,ite_no (by decide) (ite_no (by simp) ?_)⟩)⟩⟩
    refine⟨_,.bl i,_,rfl,_,.bl i,_,rfl,ite_no (by simp) ⟨_,.bl i,_,rfl,_,.bl i,_,rfl,ite_no (by simp) ⟨_,.bl i,_,rfl,_,.bl i,_,rfl,ite_yes rfl ⟨rfl,?_⟩⟩⟩⟩
    have:=q _ (ak.put (o:=HO.tup [V.ty "tuple",V.ty "list"]) hp);simpa using this
   | str i =>
    cases r2;refine⟨_,.str i,_,rfl,_,.str i,_,rfl,ite_no (by simp) ⟨_,.str i,_,rfl,_,.str i,_,rfl,ite_no (by simp) (λp hp=>⟨["tuple", "list"],rfl,_,.str i,_,rfl,ite_no (by decide) (ite_no (by simp) ?_)⟩)⟩⟩
    refine⟨_,.str i,_,rfl,_,.str i,_,rfl,ite_no (by simp) ⟨_,.str i,_,rfl,_,.str i,_,rfl,ite_no (by simp) ⟨_,.str i,_,rfl,_,.str i,_,rfl,ite_yes rfl ⟨rfl,?_⟩⟩⟩⟩
    have:=q _ (ak.put (o:=HO.tup [V.ty "tuple",V.ty "list"]) hp);simpa using this
   | aC =>
    cases r2;refine⟨_,.aC,_,rfl,_,.aC,_,rfl,ite_no (by simp) ⟨_,.aC,_,rfl,_,.aC,_,rfl,ite_no (by simp) (λp hp=>⟨["tuple", "list"],rfl,_,.aC,_,rfl,ite_no (by decide) (ite_yes rfl ?_)⟩)⟩⟩
    exact q _ (ak.put hp)
   | @lst _ a xs ds h l hl r =>
    cases r2 with
    | @lst _ a' nB _ h' l' eN r' =>
    refine⟨_,.lst h',_,rfl,_,.lst h,_,rfl,ite_no (by simp) ⟨_,.lst h',_,rfl,_,.lst h,_,rfl,ite_no (by simp) (λp hp=>⟨["tuple", "list"],rfl,_,.lst (ak.put hp _ _ h'),_,rfl,ite_yes (by decide) ?_⟩)⟩⟩
    have s0:=ak.put (o:=HO.tup [V.ty "tuple",V.ty "list"]) hp;refine⟨_,rfl,_,.inl (aD.of (s0 _ _ h)),_,rfl,_,.inl (aD.of (s0 _ _ h')),ite_no (by lia) ?_⟩
    refine tY ds.length (λi σ H'=>∃kk,σ = [some (.ref a),some (.ref a'),kk]/\ak H H') (λQ q=>?_) (by lia) ⟨none,rfl,s0⟩ ?_ ?_
    ·walk_at "rdm";refine⟨_,.inl (aD.of (s0 _ _ h')),?_⟩;rw[l'];exact q
    ·rintro i σ H' N hN hi ⟨kk,rfl,hs⟩;walk_at "rdm";have g1:xs[i]? = some xs[i]:=List.getElem?_eq_getElem (by lia)
     have g2:nB[i]? = some nB[i]:=List.getElem?_eq_getElem (by lia)
     have g3:ds[i]? = some ds[i]:=List.getElem?_eq_getElem hi;refine zG ⟨_,_,_,_,rfl,rfl,aD.of (hs _ _ h),fY g1,zG ⟨_,_,_,_,rfl,rfl,aD.of (hs _ _ h'),fY g2,⟨_,_,ds[i],rfl,(r i _ _ g1 g3).same hs,(r' i _ _ g2 g3).same hs,λH2 s2=>⟨true,rfl,?_⟩⟩⟩⟩;exact ite_no (by simp) (hN _ _ ⟨_,rfl,hs.trans s2⟩)
    ·rintro σ H' ⟨kk,rfl,hs⟩;walk_at "rdm";exact q _ hs
   | @tup _ a xs ds h l hl r =>
    cases r2 with
    | @tup _ a' nB _ h' l' eN r' =>
    refine⟨_,.tup h',_,rfl,_,.tup h,_,rfl,ite_no (by simp) ⟨_,.tup h',_,rfl,_,.tup h,_,rfl,ite_no (by simp) (λp hp=>⟨["tuple", "list"],rfl,_,.tup (ak.put hp _ _ h'),_,rfl,ite_yes (by decide) ?_⟩)⟩⟩
    have s0:=ak.put (o:=HO.tup [V.ty "tuple",V.ty "list"]) hp;refine⟨_,rfl,_,.inr (bV.of (s0 _ _ h)),_,rfl,_,.inr (bV.of (s0 _ _ h')),ite_no (by lia) ?_⟩
    refine tY ds.length (λi σ H'=>∃kk,σ = [some (.ref a),some (.ref a'),kk]/\ak H H') (λQ q=>?_) (by lia) ⟨none,rfl,s0⟩ ?_ ?_
    ·walk_at "rdm";refine⟨_,.inr (bV.of (s0 _ _ h')),?_⟩;rw[l'];exact q
    ·rintro i σ H' N hN hi ⟨kk,rfl,hs⟩;walk_at "rdm";have g1:xs[i]? = some xs[i]:=List.getElem?_eq_getElem (by lia)
     have g2:nB[i]? = some nB[i]:=List.getElem?_eq_getElem (by lia)
     have g3:ds[i]? = some ds[i]:=List.getElem?_eq_getElem hi;refine zH ⟨_,_,_,_,rfl,rfl,bV.of (hs _ _ h),fY g1,zH ⟨_,_,_,_,rfl,rfl,bV.of (hs _ _ h'),fY g2,⟨_,_,ds[i],rfl,(r i _ _ g1 g3).same hs,(r' i _ _ g2 g3).same hs,λH2 s2=>⟨true,rfl,?_⟩⟩⟩⟩;exact ite_no (by simp) (hN _ _ ⟨_,rfl,hs.trans s2⟩)
    ·rintro σ H' ⟨kk,rfl,hs⟩;walk_at "rdm";exact q _ hs
theorem vP(T:Tx K mg A):bh P w K mg base bL 8 A.mQ A.mR ["_law_found", "_law_due"] (zA K):=(Km T 5).mono (by decide)
theorem B4(T:Tx K mg A):bh P w K mg base bL 1 A.p_ A.qa ["self", "cell", "ask"] (uD A.aO ["cell", "ask"]):=by
 refine T.A6.ok JY (λvs H Q E h=>?_) (λaK Ar outer s H vs Q E hr h=>?_)
 ·obtain⟨a,us,rfl,l,_⟩:=h;exact congrArg (· + 1) l
 ·obtain⟨a,us,rfl,l,ha,q⟩:=h
  match us,l with
  | [x,y],_ =>
   refine⟨_,(aH (fT (IG rfl T.rC T.BY PySem.F.excBase_ValueError (aa (pv 0) (aa (pv 1) (aa (pv 2) aj)))))
   (aH (IB (pv 0) (pv 1) rfl)
   (aN (IC (pv 0) (pv 2) rfl)))),?_⟩
   walk_at "rdm";refine⟨_,ha,T.nq.ok,_,T.nq.AE,_,ha,T.jN,T.kI,λd nd=>?_⟩;have da:d≠a:=λz=>by rw[z,ha] at nd;cases nd
   refine⟨_,_,(aG da.symm).trans aF,_,aF,T.jN,T.kJ,(show (1:Nat)<1000 by decide),?_⟩
   rw[Dw,show cS (Str.ofString "ask") y [(Str.ofString "cell",x)] = [(Str.ofString "cell",x),(Str.ofString "ask",y)] by unfold cS;rw[if_neg (by decide)];rfl]
   exact q d nd
theorem Kn(T:Tx K mg A):bh P w K mg base bL 1 A.qb A.qc ["zones"] (Gq K):=by
 refine T.vp.ok pZ (λvs H Q E h=>?_) (λaK Ar outer s H vs Q E hr h=>?_)
 ·obtain⟨a,ts,z,rfl,_⟩:=h
  rfl
 ·obtain⟨a,ts,z,rfl,hz,ok,q⟩:=h;refine⟨_,(aH (bI (PW.pt (fS (bB fz (bq cI rfl T.cj boot_len (aa (pv 0) aj)) aq (br _)) (fR (bB ji (bq cI rfl T.cj boot_len (aa (pv 0) aj)) (fQ (v:=.int 5) rfl T.BS ⟨_,rfl⟩) (br _))))) fy bH)
   (aH (dz PassesOwn.never rfl (gQ (pv 0)) (jc rfl (eE (bS (i:=1) pZ.nd rfl (Or.inl rfl)) (eE (bS (i:=2) pZ.nd rfl (Or.inl rfl)) i_)))
   (aH (bI (PW.pt (fS (bB fz (pv 1) aq (br _)) (fR (bB ji (pv 1) (fQ (v:=.int 40) rfl T.BU ⟨_,rfl⟩) (br _))))) fy bH)
   (aN (bI (PW.pt (fS (bB fz (pv 2) aq (br _)) (fR (bB ji (pv 2) (fQ (v:=.int 60) rfl T.BV ⟨_,rfl⟩) (br _))))) fy bH))))
   (aH (bJ (i:=3) pZ.nd rfl (Or.inl rfl) (bq (FZ rfl) rfl T.rB boot_sum (aa (lI (N:=["zone"]) (nt:=1) (fv:=[]) (dG.of rfl rfl (by rfl) (by rfl) (by repeat (first | exact trivial | refine⟨rfl,?_⟩)) (by rfl) (by rfl) (by rfl) (by decide) (by decide +kernel)) rfl (gQ (pv 0)) (λC s H fp=>(bS (i:=0) (show List.Nodup (["zone"]:List Str) by decide +kernel) rfl (Or.inl rfl))) (λC s H fp=>lH) (λC s H fp=>(cF (Gm (K:=K) rfl) (pv 0) aq (λ_ _=>rfl)))) aj)))
   (aN (bI (PW.pt (fS (bB fz (pv 3) (fQ (v:=.int 2) rfl T.BW ⟨_,rfl⟩) (br _)) (fR (bB ji (pv 3) (fQ (v:=.int 120) rfl T.BX ⟨_,rfl⟩) (br _))))) fy bH))))),?_⟩
  walk_at "rdm";have hn:=hz.n;have l1:=ok.l1;have l5:=ok.l5;refine⟨_,.inl hz.sq,by simp only[List.length_map];lia,_,.inl hz.sq,by simp only[List.length_map];lia,?_⟩
  refine rl a (ts.map V.ref) (λi σ H'=>∃r c,σ = [some (.ref a),r,c,none]/\H' = H) (λQ q=>⟨_,rfl,q⟩) hz.sq ⟨none,none,rfl,rfl⟩ (by rintro i σ H' _ ⟨r,c,rfl,rfl⟩;exact hz.sq) ?_ ?_
  ·rintro i x σ H' N hN hx ⟨r,c,rfl,rfl⟩;obtain⟨t,p,rfl,hp,ht⟩:=hz.at hx;refine jx (bV.of ht) rfl ?_;walk_at "rdm";obtain⟨h1,h2,h3,h4⟩:=ok.r p (get_mem hp);exact⟨by lia,by lia,by lia,by lia,hN _ _ ⟨_,_,rfl,rfl⟩⟩
  ·rintro σ H' ⟨r,c,rfl,rfl⟩;walk_at "rdm";refine zx a (ts.map V.ref) (λD i ys az H2=>ys=((z.take i).map λp=>V.int p.1)/\H2 D=some (.lst ys)/\ak H' H2/\H' D=none/\i<=z.length/\∃u,az = [u]) (λQ q=>⟨_,rfl,q⟩) hz.sq ?_ ?_ ?_ ?_
   ·intro D hD;exact⟨rfl,aF,ak.put hD,hD,Nat.zero_le _,_,rfl⟩
   ·rintro D i ys az H2 ⟨e,e1,e2,e3,e4,_⟩;refine⟨e1,?_,e2.seq hz.sq⟩;rw[e];refine lF ?_;simp only[List.length_map,List.length_take];lia
   ·rintro D i x ys az H2 N hN hx ⟨e,e1,e2,e3,e4,u,rfl⟩;obtain⟨t,p,rfl,hp,ht⟩:=hz.at hx;have hl:=ku hp;walk_at "rdm";refine⟨_,bV.of (e2 _ _ ht),_,rfl,e1,hN _ _ _ ⟨?_,aF,ak.put2 e2 e3,e3,hl,_,rfl⟩⟩;rw[take_succ_get hp,List.map_append,e];rfl
   ·rintro D ys az H2 ⟨e,e1,e2,e3,e4,u,rfl⟩;have e5:ys=(z.map λp=>p.1).map V.int:=by
     rw[e,lenZ hz.n,List.take_length,List.map_map];rfl
    rw[e5] at e1;walk_at "rdm";have s2:=ok.s2;have s1:=ok.pe;exact⟨_,aD.of e1,by lia,by lia,q _ e2⟩
theorem Ko(T:Tx K mg A):bh P w K mg base bL 1 A.qd A.qg ["zones", "lap", "skew"] (Gr K):=by
 refine T.vq.ok vm (λvs H Q E h=>?_) (λaK Ar outer s H vs Q E hr h=>?_)
 ·obtain⟨a,ts,z,bz,cz,rfl,_⟩:=h
  rfl
 ·obtain⟨a,ts,z,bz,cz,rfl,hz,ok,h1,h2,h3,h4,hd,q⟩:=h;refine⟨_,(aH (bI (PW.pt (fS (bB fz (pv 1) aq (br _)) (fR (bB ji (pv 1) (fQ (v:=.int 1000000000) rfl T.vL ⟨_,rfl⟩) (br _))))) fy bH)
   (aH (dz PassesOwn.never rfl (gQ (pv 0)) (jc rfl (eE (bS (i:=3) vm.nd rfl (Or.inl rfl)) (eE (bS (i:=4) vm.nd rfl (Or.inl rfl)) i_)))
   (aN (bI (bB iD (aE bY (pv 1) (pv 4)) aq (br _)) fy bH)))
   (aN (bI (PW.pt (fS (bB fz (pv 2) aq (br _)) (fR (bB oE (pv 2) (pv 1) (br _))))) fy bH)))),?_⟩
  walk_at "rdm";refine⟨by lia,by lia,?_⟩
  refine rl a (ts.map V.ref) (λi σ H'=>∃r c,σ = [some (.ref a),some (.int bz),some (.int cz),r,c]/\H' = H) (λQ q=>⟨_,rfl,q⟩) hz.sq ⟨none,none,rfl,rfl⟩ (by rintro i σ H' _ ⟨r,c,rfl,rfl⟩;exact hz.sq) ?_ ?_
  ·rintro i x σ H' N hN hx ⟨r,c,rfl,rfl⟩;obtain⟨t,p,rfl,hp,ht⟩:=hz.at hx;refine jx (bV.of ht) rfl ?_;obtain⟨g1,g2,g3,g4⟩:=ok.r p (get_mem hp);have g5:=hd p (get_mem hp);walk_at "rdm";exact⟨by lia,g5,hN _ _ ⟨_,_,rfl,rfl⟩⟩
  ·rintro σ H' ⟨r,c,rfl,rfl⟩;walk_at "rdm";exact⟨by lia,by lia,q⟩
theorem Kp(T:Tx K mg A):bh P w K mg base bL 1 A.qk A.ql ["swing"] (Gu K):=by
 refine T.vv.ok vn (λvs H Q E h=>?_) (λaK Ar outer s H vs Q E hr h=>?_)
 ·obtain⟨a,sw,n,rfl,_⟩:=h
  rfl
 ·obtain⟨a,sw,n,rfl,hS,ok,hn,q⟩:=h;refine⟨_,(aN (dz PassesOwn.never rfl (j6 rfl T.eg (aa aq (aa (bq cI rfl T.cj boot_len (aa (pv 0) aj)) aj))) (bS (i:=1) vn.nd rfl (Or.inl rfl))
   (aN (dz PassesOwn.never rfl (j6 rfl T.eg (aa aq (aa (aE bN (aE oz (pv 1) aq) aq) aj))) (bS (i:=2) vn.nd rfl (Or.inl rfl))
   (aN (bI (bB ji (cF cY (pv 0) (pv 1) (λ_ _=>rfl)) (aE bN (cF cY (pv 0) (pv 2) (λ_ _=>rfl)) (cF cY (pv 0) (aE gR (pv 1) (pv 2)) (λ_ _=>rfl))) (br _)) fy bH)))))),?_⟩
  walk_at "rdm";have hl:=ok.len;have h2:=ok.two;refine jw 2 (sw.length:Int) (λi σ H'=>∃r c,σ = [some (.ref a),r,c]/\H' = H) (λQ q=>?_) (by lia) (by lia) (by lia) (by lia) ⟨none,none,rfl,rfl⟩ ?_ ?_
  ·walk_at "rdm";refine⟨_,.inl hS,?_⟩;simpa using q
  ·rintro i σ H' N hN hi ⟨r,c,rfl,rfl⟩;walk_at "rdm";refine jw 1 ((2+(i:Int)) / 2+1) (λj σ H2=>∃c,σ = [some (.ref a),some (.int (2+(i:Int))),c]/\H2=H') (λQ q=>?_) (by lia) (by lia) (by lia) (by lia) ⟨_,rfl,rfl⟩ ?_ ?_
   ·walk_at "rdm";exact q
   ·rintro j σ H2 N2 nC hj ⟨c,rfl,rfl⟩;walk_at "rdm";have e1:((2:Int)+(i:Int)).toNat=(1+j)+(1+i - j):=by lia
    have e2:((1:Int)+(j:Int)).toNat=1+j:=by lia
    have e3:((2:Int)+(i:Int) - (1+(j:Int))).toNat=1+i - j:=by lia
    have g:=ok.no (1+j) (1+i - j) (by lia) (by lia) (by lia)
    refine⟨_,hS,_,gF (by lia) (by lia),_,hS,_,gF (by lia) (by lia),_,hS,_,gF (by lia) (by lia),?_⟩
    walk_at "rdm";rw[e1,e2,e3];exact⟨by lia,nC _ _ ⟨_,rfl,rfl⟩⟩
   ·rintro σ H2 ⟨c,rfl,rfl⟩;exact hN _ _ ⟨_,_,rfl,rfl⟩
  ·rintro σ H' ⟨r,c,rfl,rfl⟩;exact q
theorem Kq(T:Tx K mg A):bh P w K mg base bL 1 A.qm A.qo ["zones"] (zy K):=by
 refine T.vA.ok p5 (λvs H Q E h=>?_) (λaK Ar outer s H vs Q E hr h=>?_)
 ·obtain⟨a,ts,z,rfl,_⟩:=h
  rfl
 ·obtain⟨a,ts,z,rfl,hz,ok,q⟩:=h;refine⟨_,(aH (bJ (i:=1) p5.nd rfl (Or.inl rfl) (eG aj))
   (aH (dz PassesOwn.never rfl (gQ (pv 0)) (jc rfl (eE (bS (i:=2) p5.nd rfl (Or.inl rfl)) (eE (bS (i:=3) p5.nd rfl (Or.inl rfl)) i_)))
   (aN (fT (j9 PySem.F.plainAttrs_list PySem.F.slot_list_extend PySem.F.type_list_extend sX (pv 1) (aa (aE yK (eG (aa (pv 3) aj)) (pv 2)) aj)))))
   (aN (bF (pv 1))))),?_⟩
  walk_at "rdm";refine λl hl=>?_;refine rl a (ts.map V.ref) (λi σ H'=>∃r c,σ = [some (.ref a),some (.ref l),r,c]/\ak H H'/\H' l=some (.lst ((counts (z.take i)).map V.int))) (λQ q=>⟨_,rfl,q⟩) (ak.put hl |>.seq hz.sq) ⟨none,none,rfl,ak.put hl,aF⟩ (by rintro i σ H' _ ⟨r,c,rfl,hs,_⟩;exact hs.seq hz.sq) ?_ ?_
  ·rintro i x σ H' N hN hx ⟨r,c,rfl,hs,h1⟩;obtain⟨t,p,rfl,hp,ht⟩:=hz.at hx;refine jx (bV.of (hs _ _ ht)) rfl ?_;obtain⟨g1,g2,g3,g4⟩:=ok.r p (get_mem hp);have g5:=zm ok i;walk_at "rdm";refine⟨⟨_,aD.of h1⟩,λp1 bX=>⟨by lia,by lia,by lia,λp2 fJ=>?_⟩⟩
   have s1:=(ak.put (o:=.lst [V.int p.2]) bX).trans (ak.put (o:=.lst (List.replicate p.1.toNat [V.int p.2]).flatten) fJ);refine⟨_,s1 _ _ h1,?_,hN _ _ ⟨_,_,rfl,ak.put2 (hs.trans s1) hl,?_⟩⟩
   ·simp only[pD,List.length_map,List.length_replicate];lia
   ·rw[aF,take_succ_get hp,tW,List.map_append,pD];simp[counts]
  ·rintro σ H' ⟨r,c,rfl,hs,h1⟩;walk_at "rdm";rw[lenZ hz.n,List.take_length] at h1;exact q _ _ hs hl h1
theorem Kr(T:Tx K mg A):bh P w K mg base bL 1 A.qp A.qq ["ring_cells", "spares"] (Gv K):=by
 refine T.vB.ok mF (λvs H Q E h=>?_) (λaK Ar outer s H vs Q E hr h=>?_)
 ·obtain⟨a,rc,s,rfl,_⟩:=h
  rfl
 ·obtain⟨a,rc,s,rfl,hS,hl,hc,fF,vQ,q⟩:=h;refine⟨_,(aH (bJ (i:=2) mF.nd rfl (Or.inl rfl) (eG aj))
   (aH (dz PassesOwn.never rfl (zd rfl T.mZ (aa (pv 0) aj)) (jc rfl (eE (bS (i:=3) mF.nd rfl (Or.inl rfl)) (eE (bS (i:=4) mF.nd rfl (Or.inl rfl)) i_)))
   (aN (dz PassesOwn.never rfl (k6 rfl T.eg (aa (aE gR (pv 4) (pv 1)) aj)) (bS (i:=5) mF.nd rfl (Or.inl rfl))
   (aN (fT (j9 PySem.F.plainAttrs_list PySem.F.slot_list_append PySem.F.type_list_append oK (pv 2) (aa (cK (aa (pv 3) (aa (pv 5) aj))) aj)))))))
   (aN (bF (pv 2))))),?_⟩
  walk_at "rdm";refine λl cT=>?_;have Ks:=zp (s:=s) fF (λc hx=>hc c hx);refine re a (rc.map V.int) (λi σ H'=>∃r c pl ts,σ = [some (.ref a),some (.int s),some (.ref l),r,c,pl]/\ak H H'/\(∀t∈ts,H t=none)/\Zn H' l ts (bE s 0 (rc.take i))) (λQ q=>?_) (ak.put cT |>.seq hS)
   ⟨none,none,none,[],rfl,ak.put cT,(by intro t ht;cases ht),aF,rfl,by intro i t p h;simp at h⟩ (by rintro i σ H' _ ⟨r,c,pl,ts,rfl,hs,_⟩;exact hs.seq hS) ?_ ?_
  ·walk_at "rdm";exact q
  ·rintro i x σ H' T1 N hN hx ⟨r,c,pl,ts,rfl,hs,gk,hz⟩ hT;obtain⟨c0,vR,rfl⟩:=zu hx;obtain⟨g1,g2⟩:=hc c0 (get_mem vR);refine jx (bV.of aF) rfl ?_;walk_at "rdm";have B5:=ak.put (o:=.tup [.int i,.int c0]) hT;refine Gn (c0 - s) (λj σ H2=>∃pl ts,σ = [some (.ref a),some (.int s),some (.ref l),some (.int i),some (.int c0),pl]/\ak H H2/\(∀t∈ts,H t=none)/\Zn H2 l ts (bE s 0 (rc.take i)++(List.range j).map λ(k:Nat)=>((i:Int),(k:Int)))) (λQ q=>?_) (by lia) (by lia) ?_ ?_ ?_
   ·walk_at "rdm";exact q
   ·exact⟨_,ts,rfl,hs.trans B5,gk,by simpa using hz.same B5⟩
   ·rintro j σ H2 N2 nC hj ⟨pl,ts,rfl,eY,vU,h_⟩;walk_at "rdm";refine⟨⟨_,h_.sq⟩,λp hp=>⟨_,ak.put hp _ _ h_.l,?_,nC _ _ ⟨_,ts++[p],rfl,ak.put2 (eY.trans (ak.put hp)) cT,?_,?_⟩⟩⟩
    ·have h1:=h_.n;have h2:=Ks i;simp only[List.length_map,List.length_append,List.length_range] at h1 ⊢;lia
    ·intro t ht;rcases List.mem_append.mp ht with ht | ht
     ·exact vU t ht
     ·rw[List.mem_singleton.mp ht];exact eY.free hp
    ·have:=h_.snoc hp (i:Int) (j:Int);rw[List.range_succ,List.map_append,← List.append_assoc];exact this
   ·rintro σ H2 ⟨pl,ts,rfl,eY,vU,h_⟩;refine hN _ _ ⟨_,_,_,ts,rfl,eY,vU,?_⟩;rw[take_succ_get vR,tV];have hi:=ku vR;simpa[bE,Nat.min_eq_left (Nat.le_of_lt hi)] using h_
  ·rintro σ H' ⟨r,c,pl,ts,rfl,hs,gk,hz⟩;walk_at "rdm";rw[List.length_map,List.take_length] at hz;exact q _ _ _ hs cT gk hz
theorem Ku(T:Tx K mg A):bh P w K mg base bL 1 A.qu A.qw ["number_cells"] (Gw K):=by
 refine T.vC.ok p6 (λvs H Q E h=>?_) (λaK Ar outer s H vs Q E hr h=>?_)
 ·obtain⟨a,ts,z,rfl,_⟩:=h
  rfl
 ·obtain⟨a,ts,z,rfl,hz,hlen,q⟩:=h;have hu:=tN hr;refine⟨_,(aH (bJ (i:=1) p6.nd rfl (Or.inl rfl) E9)
   (aH (dz PassesOwn.never rfl (zd rfl T.mZ (aa (pv 0) aj)) (jc rfl (eE (bS (i:=2) p6.nd rfl (Or.inl rfl)) (eE (bS (i:=3) p6.nd rfl (Or.inl rfl)) i_)))
   (aN (E6 hu (pv 1) (pv 3) (pv 2) rfl)))
   (aN (bF (pv 1))))),?_⟩
  walk_at "rdm";refine λd hd=>?_;refine re a (ts.map V.ref) (λi σ H'=>∃r c,σ = [some (.ref a),some (.ref d),r,c]/\ak H H'/\i<=z.length/\H' d=some (.dT (dH 0 (z.take i) []))) (λQ q=>?_) (ak.put hd |>.seq hz.sq)
   ⟨none,none,rfl,ak.put hd,Nat.zero_le _,aF⟩ (by rintro i σ H' _ ⟨r,c,rfl,hs,_⟩;exact hs.seq hz.sq) ?_ ?_
  ·walk_at "rdm";exact q
  ·rintro i x σ H' T1 N hN hx ⟨r,c,rfl,hs,hi,h1⟩ hT;obtain⟨t,p,rfl,hp,ht⟩:=hz.at hx;refine jx (bV.of aF) rfl ?_;walk_at "rdm";have vQ:=hs.trans (ak.put (o:=.tup [.int i,.ref t]) hT);have hl:=zh (z.take i) 0 [];have B6:=ku hp;rw[List.length_take,List.length_nil] at hl;refine⟨_,lD.t (k:=kT p) (ak.put hT _ _ h1) (vQ _ _ ht) (by rw[zq];lia),hN _ _ ⟨_,_,rfl,ak.put2 vQ hd,B6,?_⟩⟩
   rw[aF,take_succ_get hp,zg];simp[dH,Nat.min_eq_left (Nat.le_of_lt B6)]
  ·rintro σ H' ⟨r,c,rfl,hs,hi,h1⟩;walk_at "rdm";rw[lenZ hz.n,List.take_length] at h1;exact q _ _ hs hd h1
theorem O_(T:Tx K mg A):bh P w K mg base bL 1 A.mH A.qz ["self"] (Gz K):=by
 refine T.Bp.ok J0 (λvs H Q E h=>?_) (λaK Ar outer s H vs Q E hr h=>?_)
 ·obtain⟨C,p,P,fp,rfl,_⟩:=h
  rfl
 ·obtain⟨C,p,P,fp,rfl,hP,q⟩:=h;obtain⟨dx,a1,a2,a3,a4,ts,fs,rfl,h⟩:=hP;refine⟨_,(aN (bF (bq cI rfl T.cj boot_len (aa (gA (pv 0) rfl) aj)))),?_⟩;wp_walk using T,h.o,h.f1,h.f2,h.f3,h.f4,h.f5,h.f6,h.m1,h.m2,h.m3,h.m4,h.m5,h.m6,h.m7,h.m8,h.m9,h.gU,h.jy,h.cp.cl,h.cp.n1,h.cp.n2,h.cp.n3,h.cp.n4,h.cp.n5,h.cp.n6;exact⟨_,.inl (aD.of h.rc),by simpa  using q⟩
theorem Kv(T:Tx K mg A):bh P w K mg base bL 1 A.mJ A.qA ["self"] (GA K):=by
 refine T.Br.ok J1 (λvs H Q E h=>?_) (λaK Ar outer s H vs Q E hr h=>?_)
 ·obtain⟨C,p,P,fp,rfl,_⟩:=h
  rfl
 ·obtain⟨C,p,P,fp,rfl,hP,q⟩:=h;obtain⟨dx,a1,a2,a3,a4,ts,fs,rfl,h⟩:=hP;refine⟨_,(aN (bF (bq cI rfl T.cj boot_len (aa (gA (pv 0) rfl) aj)))),?_⟩;wp_walk using T,h.o,h.f1,h.f2,h.f3,h.f4,h.f5,h.f6,h.m1,h.m2,h.m3,h.m4,h.m5,h.m6,h.m7,h.m8,h.m9,h.gU,h.jy,h.cp.cl,h.cp.n1,h.cp.n2,h.cp.n3,h.cp.n4,h.cp.n5,h.cp.n6;exact⟨_,.inl (h.nc.sq),by simpa[h.nc.n] using q⟩
theorem Kw(T:Tx K mg A):bh P w K mg base bL 1 A.mK A.qB ["self", "ring", "place"] (GB K):=by
 refine T.Bu.ok J2 (λvs H Q E h=>?_) (λaK Ar outer s H vs Q E hr h=>?_)
 ·obtain⟨C,p,P,fp,r,c,rfl,_⟩:=h
  rfl
 ·obtain⟨C,p,P,fp,r,c,rfl,hP,q⟩:=h;obtain⟨dx,a1,a2,a3,a4,ts,fs,rfl,h⟩:=hP;refine⟨_,(aH (bI (PW.pt (fS (bB fz (pv 1) aq (br _)) (fR (bB oE (pv 1) (bq cI rfl T.cj boot_len (aa (gA (pv 0) rfl) aj)) (br _))))) (aN (bF fq)) bH)
   (aN (bF (j4 (k_ oE (pv 2) aq (br _)) (nX (k_ fz (pv 2) (cF cY (gA (pv 0) rfl) (pv 1) (λ_ _=>rfl)) (br _))))))),?_⟩
  wp_walk using h.o,h.f1,h.f2,h.f3,h.f4,h.f5,h.f6,h.m1,h.m2,h.m3,h.m4,h.m5,h.m6,h.m7,h.m8,h.m9,h.gU,h.jy,h.cp.cl,h.cp.n1,h.cp.n2,h.cp.n3,h.cp.n4,h.cp.n5,h.cp.n6;refine fD (λh0=>?_) (λh0=>⟨_,.inl (aD.of h.rc),fD (λh1=>?_) (λh1=>?_)⟩)
  ·rw[decide_eq_false (by lia)] at q;exact q
  ·rw[List.length_map] at h1;rw[decide_eq_false (by lia)] at q;exact q
  ·rw[List.length_map] at h1;refine fD (λh2=>⟨_,aD.of h.rc,_,gF (by lia) (by lia),?_⟩) (λh2=>?_)
   ·walk_at "rdm";have e:decide (c<P.rc.getD r.toNat 0)=decide (0<=r/\r<P.rc.length/\0<=c/\c<P.rc.getD r.toNat 0):=by
     by_cases h3:c<P.rc.getD r.toNat 0
     ·rw[decide_eq_true h3,decide_eq_true ⟨by lia,by lia,h2,h3⟩]
     ·rw[decide_eq_false h3,decide_eq_false (by lia)]
    rw[e];exact q
   ·rw[decide_eq_false (by lia)] at q;exact q
theorem Ky(T:Tx K mg A):bh P w K mg base bL 1 A.qE A.qF ["_law_script", "_law_k"] (kj K):=by
 refine T.g_.ok J7 (λvs H Q E h=>?_) (λaK Ar outer s H vs Q E hr h=>?_)
 ·obtain⟨a,ns,k,rfl,_⟩:=h
  rfl
 ·obtain⟨a,ns,k,rfl,hS,hl,hk,q⟩:=h;refine⟨_,(aH (bI (bB fz (pv 1) (bq cI rfl T.cj boot_len (aa (pv 0) aj)) (br _)) (aN (bF (cF cY (pv 0) (pv 1) (λ_ _=>rfl)))) bH)
   (aN (bF aq))),?_⟩
  walk_at "rdm";refine⟨_,.inl hS,fD (λaY=>⟨_,hS,_,gF hk (by simpa using aY),q⟩) λc9=>?_⟩
  have e:eO ns k=0:=by
   unfold eO;rw[List.length_map] at c9;rw[List.getD_eq_getElem?_getD,List.getElem?_eq_none (by lia)];rfl
  rw[e] at q;exact q
theorem rF(T:Tx K mg A):bh P w K mg base bL 1 A.qG A.qH ["_law_cell", "_law_k"] dO:=by
 refine T.cD.ok A5 (λvs H Q E h=>?_) (λaK Ar outer s H vs Q E hr h=>?_)
 ·obtain⟨c,k,rfl,_⟩:=h
  rfl
 ·obtain⟨c,k,rfl,iM,Pa,q⟩:=h;refine⟨_,(aH (bJ (i:=2) A5.nd rfl (Or.inl rfl) (aE bN (aE bN (aE gS (aE bN (aE bY (pv 0) (aE oA aq aq)) aq) aq) (aE gS (aE gS (pv 1) (pv 1)) aq)) (aE gS (pv 1) aq)))
   (aN (bF (aE bY (aE gS (aE bY (pv 2) aq) aq) aq)))),?_⟩
  walk_at "rdm";exact⟨by decide,.inl ⟨by lia,by lia⟩,q⟩
theorem Kz(T:Tx K mg A):bh P w K mg base bL 1 A.qK A.qL ["_law_zones_here"] (GK K):=by
 refine T.vG.ok p7 (λvs H Q E h=>?_) (λaK Ar outer s H vs Q E hr h=>?_)
 ·obtain⟨a,ts,z,rfl,_⟩:=h
  rfl
 ·obtain⟨a,ts,z,rfl,hz,ok,q⟩:=h;refine⟨_,(aH (bJ (i:=1) p7.nd rfl (Or.inl rfl) (eG aj))
   (aH (dz PassesOwn.never rfl (gQ (pv 0)) (jc rfl (eE (bS (i:=2) p7.nd rfl (Or.inl rfl)) (eE (bS (i:=3) p7.nd rfl (Or.inl rfl)) i_)))
   (aN (fT (j9 PySem.F.plainAttrs_list PySem.F.slot_list_extend PySem.F.type_list_extend sX (pv 1) (aa (aE yK (eG (aa (pv 3) aj)) (pv 2)) aj)))))
   (aN (bF (pv 1))))),?_⟩
  walk_at "rdm";refine λl hl=>?_;refine rl a (ts.map V.ref) (λi σ H'=>∃r c,σ = [some (.ref a),some (.ref l),r,c]/\ak H H'/\H' l=some (.lst ((counts (z.take i)).map V.int))) (λQ q=>⟨_,rfl,q⟩) (ak.put hl |>.seq hz.sq) ⟨none,none,rfl,ak.put hl,aF⟩ (by rintro i σ H' _ ⟨r,c,rfl,hs,_⟩;exact hs.seq hz.sq) ?_ ?_
  ·rintro i x σ H' N hN hx ⟨r,c,rfl,hs,h1⟩;obtain⟨t,p,rfl,hp,ht⟩:=hz.at hx;refine jx (bV.of (hs _ _ ht)) rfl ?_;obtain⟨g1,g2,g3,g4⟩:=ok.r p (get_mem hp);have g5:=zm ok i;walk_at "rdm";refine⟨⟨_,aD.of h1⟩,λp1 bX=>⟨by lia,by lia,by lia,λp2 fJ=>?_⟩⟩
   have s1:=(ak.put (o:=.lst [V.int p.2]) bX).trans (ak.put (o:=.lst (List.replicate p.1.toNat [V.int p.2]).flatten) fJ);refine⟨_,s1 _ _ h1,?_,hN _ _ ⟨_,_,rfl,ak.put2 (hs.trans s1) hl,?_⟩⟩
   ·simp only[pD,List.length_map,List.length_replicate];lia
   ·rw[aF,take_succ_get hp,tW,List.map_append,pD];simp[counts]
  ·rintro σ H' ⟨r,c,rfl,hs,h1⟩;walk_at "rdm";rw[lenZ hz.n,List.take_length] at h1;exact q _ _ hs hl h1
theorem KA(T:Tx K mg A):bh P w K mg base bL 2 A.qh A.qj ["swing", "rings"] (Gs K):=by
 have KC:=Kp (P:=P) (w:=w) (base:=base) T;refine T.vt.ok A3 (λvs H Q E h=>?_) (λaK Ar outer s H vs Q E hr h=>?_)
 ·obtain⟨a,sw,n,rfl,_⟩:=h
  rfl
 ·obtain⟨a,sw,n,rfl,hS,ok,hn,q⟩:=h;refine⟨_,(aH (bI (bB iD (bq cI rfl T.cj boot_len (aa (pv 0) aj)) (pv 1) (br _)) fy bH)
   (aH (bI (bB iD (cF cY (pv 0) aq (λ_ _=>rfl)) aq (br _)) fy bH)
   (aH (dz PassesOwn.never rfl (j6 rfl T.eg (aa aq (aa (pv 1) aj))) (bS (i:=2) A3.nd rfl (Or.inl rfl))
   (aH (bI (PW.pt (fS (bB fz (cF cY (pv 0) (pv 2) (λ_ _=>rfl)) aq (br _)) (fR (bB ji (cF cY (pv 0) (pv 2) (λ_ _=>rfl)) (fQ (v:=.int 1000000000) rfl T.vL ⟨_,rfl⟩) (br _))))) fy bH)
   (aN (bI (bB fz (cF cY (pv 0) (pv 2) (λ_ _=>rfl)) (cF cY (pv 0) (aE gR (pv 2) aq) (λ_ _=>rfl)) (br _)) fy bH))))
   (aN (fT (aZ KC (hr.mono (by first | decide | lia)) rfl T.Be T.vv.kp T.Bd .nil aU (aa (pv 0) aj))))))),?_⟩
  walk_at "rdm";have hl:=ok.len;have h2:=ok.two;refine⟨_,.inl hS,by simpa using hl,_,hS,_,gF (by lia) (by lia),rfl,by rw[show (0:Int).toNat=0 from rfl,ok.z],?_⟩
  refine jw 1 n (λi σ H'=>∃r,σ = [some (.ref a),some (.int n),r]/\H' = H) (λQ q=>?_) (by lia) (by lia) (by lia) (by lia) ⟨none,rfl,rfl⟩ ?_ ?_
  ·walk_at "rdm";exact q
  ·rintro i σ H' N hN hi ⟨r,rfl,rfl⟩;walk_at "rdm";have e1:((1:Int)+(i:Int)).toNat=1+i:=by lia
   have e2:((1:Int)+(i:Int) - 1).toNat=1+i - 1:=by lia
   have g:=ok.pos (1+i) (by lia) (by lia)
   have g2:=ok.up (1+i) (by lia) (by lia)
   refine⟨_,hS,_,gF (by lia) (by lia),?_⟩
   walk_at "rdm";rw[e1];refine⟨by lia,_,hS,_,gF (by lia) (by lia),?_⟩
   walk_at "rdm";rw[e1];refine⟨by lia,_,hS,_,gF (by lia) (by lia),_,hS,_,gF (by lia) (by lia),?_⟩
   walk_at "rdm";rw[e1,e2];exact⟨by lia,hN _ _ ⟨_,rfl,rfl⟩⟩
  ·rintro σ H' ⟨r,rfl,rfl⟩;walk_at "rdm";exact⟨a,sw,n,rfl,hS,ok,hn,q⟩
theorem KG(T:Tx K mg A):bh P w K mg base bL 2 A.qI A.qJ ["_law_a", "_law_b"] (JS K):=by
 have cu:=rF (P:=P) (w:=w) (base:=base) T;refine T.vF.ok mG (λvs H Q E h=>?_) (λaK Ar outer s H vs Q E hr h=>?_)
 ·obtain⟨a,b,rfl,_⟩:=h
  rfl
 ·obtain⟨a,b,rfl,q⟩:=h;refine⟨_,(aH (bI (bB iC (aE bY (aZ cu (hr.mono (by first | decide | lia)) rfl T.cH T.cD.kp T.cG .nil aU (aa (pv 1) (aa aq aj))) aq) aq (br _)) (aN (bF (lI (N:=["_law_k", "_law_b", "_law_a"]) (nt:=1) (fv:=[1,0]) (dG.of rfl rfl (by rfl) (by rfl) (by repeat (first | exact trivial | refine⟨rfl,?_⟩)) (by rfl) (by rfl) (by rfl) (by decide) (by decide +kernel)) rfl (k6 rfl T.eg (aa aq aj)) (λC s H fp=>(bS (i:=0) (show List.Nodup (["_law_k", "_law_b", "_law_a"]:List Str) by decide +kernel) rfl (Or.inl rfl))) (λC s H fp=>lH) (λC s H fp=>(cK (aa (aE gR aq (aE gS (aE bY (aZ cu (hr.mono (by first | decide | lia)) rfl T.cH T.cD.kp T.cG .nil aU (aa (pv 2) (aa (aE bN aq (pv 0)) aj))) aq) (pv 0))) (aa (aE bN aq (aE bY (aZ cu (hr.mono (by first | decide | lia)) rfl T.cH T.cD.kp T.cG .nil aU (aa (pv 1) (aa (aE bN aq (pv 0)) aj))) aq)) aj))))))) bH)
   (aH (bI (bB iC (aE bY (aZ cu (hr.mono (by first | decide | lia)) rfl T.cH T.cD.kp T.cG .nil aU (aa (pv 1) (aa aq aj))) aq) aq (br _)) (aN (bF (eG (aa (cK (aa (aE bN aq (aE bY (aZ cu (hr.mono (by first | decide | lia)) rfl T.cH T.cD.kp T.cG .nil aU (aa (pv 0) (aa aq aj))) aq)) (aa (aE bN aq (aE bY (aZ cu (hr.mono (by first | decide | lia)) rfl T.cH T.cD.kp T.cG .nil aU (aa (pv 1) (aa aq aj))) aq)) aj))) aj)))) bH)
   (aH (bJ (i:=2) mG.nd rfl (Or.inl rfl) (aE bN aq (aE bY (aZ cu (hr.mono (by first | decide | lia)) rfl T.cH T.cD.kp T.cG .nil aU (aa (pv 0) (aa aq aj))) aq)))
   (aH (bI (bB iC (aE bY (aZ cu (hr.mono (by first | decide | lia)) rfl T.cH T.cD.kp T.cG .nil aU (aa (pv 0) (aa aq aj))) aq) aq (br _)) (aN (bJ (i:=2) mG.nd rfl (Or.inl rfl) aq)) bH)
   (aH (bJ (i:=3) mG.nd rfl (Or.inl rfl) (eG (aa (cK (aa (aE bN aq (aE bY (aZ cu (hr.mono (by first | decide | lia)) rfl T.cH T.cD.kp T.cG .nil aU (aa (pv 0) (aa aq aj))) aq)) (aa (aE bN aq (aE bY (aZ cu (hr.mono (by first | decide | lia)) rfl T.cH T.cD.kp T.cG .nil aU (aa (pv 1) (aa aq aj))) aq)) aj))) aj)))
   (aH (dz PassesOwn.never rfl (j6 rfl T.eg (aa aq (aa (pv 2) aj))) (bS (i:=4) mG.nd rfl (Or.inl rfl))
   (aN (fT (j9 PySem.F.plainAttrs_list PySem.F.slot_list_append PySem.F.type_list_append oK (pv 3) (aa (cK (aa (aE bN aq (aE bY (aZ cu (hr.mono (by first | decide | lia)) rfl T.cH T.cD.kp T.cG .nil aU (aa (pv 0) (aa (aE bN aq (pv 4)) aj))) aq)) (aa (aE bN aq (aE bY (aZ cu (hr.mono (by first | decide | lia)) rfl T.cH T.cD.kp T.cG .nil aU (aa (pv 1) (aa (pv 4) aj))) aq)) aj))) aj)))))
   (aN (bF (pv 3))))))))),?_⟩
  wp_walk using dO;have m3:0<=mix a 0 % 3/\mix a 0 % 3<3:=⟨Int.emod_nonneg _ (by decide),Int.emod_lt_of_pos _ (by decide)⟩
  refine fD (λKH=>?_) λKH=>fD (λh8=>?_) (λh8=>fD (λh9=>?_) (λh9=>?_))
  ·refine Ah 3 (λD i ys az H2=>∃(u:Option V) (ts:List Addr),ys=ts.map V.ref/\az = [u,some (.int b),some (.int a)]/\(∀t∈ts,H t=none)/\Zn H2 D ts (kG a b i)/\ak H H2/\H D=none/\i<=3) (λQ q=>?_) (by lia) (by lia) ?_ ?_ ?_ ?_
   ·walk_at "rdm";exact q
   ·intro D hD;exact⟨none,[],rfl,rfl,(λ_ z=>nomatch z),⟨aF,rfl,λi t q e=>by simp at e⟩,ak.put hD,hD,by lia⟩
   ·rintro D i ys az H2 ⟨u,ts,rfl,rfl,e1,e2,e3,e4,e5⟩;have:=e2.n;exact⟨e2.l,lF (by rw[List.length_map,this];simp[kG];lia)⟩
   ·rintro D i ys az H2 N hN hi ⟨u,ts,rfl,rfl,e1,e2,e3,e4,e5⟩;have Pb:i<3:=by simpa using hi
    have m9:∀k:Int,0<=mix a k % 9/\mix a k % 9<9:=λk=>⟨Int.emod_nonneg _ (by decide),Int.emod_lt_of_pos _ (by decide)⟩
    wp_walk using dO;have:=m9 (11+(i:Int));refine⟨by lia,by lia,.inl ⟨by lia,by lia⟩,by lia,by lia,λp1 bX=>⟨ak.put bX _ _ e2.l,hN _ _ _ ⟨_,ts++[p1],by simp,rfl,λt ht=>?_,?_,ak.put2 (e3.trans (ak.put bX)) e4,e4,by lia⟩⟩⟩
    ·rcases List.mem_append.mp ht with ht | ht
     ·exact e1 t ht
     ·rw[List.mem_singleton.mp ht];exact e3.free bX
    ·have:=e2.snoc bX (40 - mix a (11+(i:Int)) % 9*(i:Int)) (1+mix b (11+(i:Int)) % 8);unfold kG;rw[List.range_succ,List.map_append];exact this
   ·rintro D ys az H2 ⟨u,ts,rfl,rfl,e1,e2,e3,e4,e5⟩;exact q D ts _ _ e3 e4 e1 e2 (A2 a b).1 (A2 a b).2
  ·intro p hp l hl;have gH:l≠p:=(cO aF hl).symm;have eN:H l=none:=by rw[aG gH] at hl;exact hl
   have zl:=uc a b;refine q l [p] (iH a b) _ (ak.put2 (ak.put hp) eN) eN (by simpa using hp) ?_ zl.ok zl.pr
   unfold iH;rw[if_pos h8];refine⟨aF,rfl,λi t x e1 e2=>?_⟩;cases i with
   | zero =>
    simp at e1 e2;subst e1 e2;rw[aG gH.symm,aF]
   | succ i=>simp at e1
  ·skip
   intro p hp l hl;have gH:l≠p:=(cO aF hl).symm;have eN:H l=none:=by rw[aG gH] at hl;exact hl
   have vV:Zn (upd (upd H p (HO.tup [V.int (2+mix a 2 % 2),V.int (1+mix b 0 % 8)])) l (HO.lst [V.ref p])) l [p] [(2+mix a 2 % 2,1+mix b 0 % 8)]:=by
    refine⟨aF,rfl,λi t x e1 e2=>?_⟩;cases i with
    | zero =>
     simp at e1 e2;subst e1 e2;rw[aG gH.symm,aF]
    | succ i=>simp at e1
   refine jw 1 (5) (λj σ H'=>∃kk ts,σ = [some (.int a),some (.int b),some (.int (5)),some (.ref l),kk]/\ak H H'/\(∀t∈ts,H t=none)/\Zn H' l ts ((2+mix a 2 % 2,1+mix b 0 % 8)::(List.range j).map λ(k:Nat)=>(1+mix a (2+(1+(k:Int))) % 3,1+mix b (1+(k:Int)) % 8)))
    (λQ q=>?_) (by lia) (by lia) (by lia) (by lia) ⟨none,[p],rfl,ak.put2 (ak.put hp) eN,by simpa using hp,by simpa using vV⟩ ?_ ?_
   ·walk_at "rdm";exact q
   ·rintro j σ H' N hN hj ⟨kk,ts,rfl,hs,gk,hz⟩;wp_walk using dO;refine⟨⟨_,hz.sq⟩,by lia,by lia,by lia,by lia,λp1 bX=>⟨_,ak.put bX _ _ hz.l,?_,hN _ _ ⟨_,ts++[p1],rfl,ak.put2 (hs.trans (ak.put bX)) eN,?_,?_⟩⟩⟩
    ·have:=hz.n;simp only[List.length_map,List.length_cons,List.length_range] at this ⊢;lia
    ·intro t ht;rcases List.mem_append.mp ht with ht | ht
     ·exact gk t ht
     ·rw[List.mem_singleton.mp ht];exact hs.free bX
    ·have:=hz.snoc bX (1+mix a (2+(1+(j:Int))) % 3) (1+mix b (1+(j:Int)) % 8);rw[List.range_succ,List.map_append,← List.cons_append];exact this
   ·rintro σ H' ⟨kk,ts,rfl,hs,gk,hz⟩;walk_at "rdm";have zl:=uc a b;refine q _ ts (iH a b) _ hs eN gk ?_ zl.ok zl.pr;unfold iH;rw[if_neg h8,if_pos h9];exact hz
  ·skip
   intro p hp l hl;have gH:l≠p:=(cO aF hl).symm;have eN:H l=none:=by rw[aG gH] at hl;exact hl
   have vV:Zn (upd (upd H p (HO.tup [V.int (2+mix a 2 % 2),V.int (1+mix b 0 % 8)])) l (HO.lst [V.ref p])) l [p] [(2+mix a 2 % 2,1+mix b 0 % 8)]:=by
    refine⟨aF,rfl,λi t x e1 e2=>?_⟩;cases i with
    | zero =>
     simp at e1 e2;subst e1 e2;rw[aG gH.symm,aF]
    | succ i=>simp at e1
   refine jw 1 (1+mix a 0 % 3) (λj σ H'=>∃kk ts,σ = [some (.int a),some (.int b),some (.int (1+mix a 0 % 3)),some (.ref l),kk]/\ak H H'/\(∀t∈ts,H t=none)/\Zn H' l ts ((2+mix a 2 % 2,1+mix b 0 % 8)::(List.range j).map λ(k:Nat)=>(1+mix a (2+(1+(k:Int))) % 3,1+mix b (1+(k:Int)) % 8)))
    (λQ q=>?_) (by lia) (by lia) (by lia) (by lia) ⟨none,[p],rfl,ak.put2 (ak.put hp) eN,by simpa using hp,by simpa using vV⟩ ?_ ?_
   ·walk_at "rdm";exact q
   ·rintro j σ H' N hN hj ⟨kk,ts,rfl,hs,gk,hz⟩;wp_walk using dO;refine⟨⟨_,hz.sq⟩,by lia,by lia,by lia,by lia,λp1 bX=>⟨_,ak.put bX _ _ hz.l,?_,hN _ _ ⟨_,ts++[p1],rfl,ak.put2 (hs.trans (ak.put bX)) eN,?_,?_⟩⟩⟩
    ·have:=hz.n;simp only[List.length_map,List.length_cons,List.length_range] at this ⊢;lia
    ·intro t ht;rcases List.mem_append.mp ht with ht | ht
     ·exact gk t ht
     ·rw[List.mem_singleton.mp ht];exact hs.free bX
    ·have:=hz.snoc bX (1+mix a (2+(1+(j:Int))) % 3) (1+mix b (1+(j:Int)) % 8);rw[List.range_succ,List.map_append,← List.cons_append];exact this
   ·rintro σ H' ⟨kk,ts,rfl,hs,gk,hz⟩;walk_at "rdm";have zl:=uc a b;refine q _ ts (iH a b) _ hs eN gk ?_ zl.ok zl.pr;unfold iH;rw[if_neg h8,if_neg h9];exact hz
theorem KI(T:Tx K mg A):bh P w K mg base bL 2 A.qM A.qN ["_law_zones_here", "_law_cell"] (GL K):=by
 have cu:=rF (P:=P) (w:=w) (base:=base) T;refine T.vH.ok jI (λvs H Q E h=>?_) (λaK Ar outer s H vs Q E hr h=>?_)
 ·obtain⟨a,ts,z,c,rfl,_⟩:=h
  rfl
 ·obtain⟨a,ts,z,c,rfl,hz,ok,q⟩:=h;refine⟨_,(aH (bJ (i:=2) jI.nd rfl (Or.inl rfl) aq)
   (aH (dz PassesOwn.never rfl (gQ (pv 0)) (jc rfl (eE (bS (i:=3) jI.nd rfl (Or.inl rfl)) (eE (bS (i:=4) jI.nd rfl (Or.inl rfl)) i_)))
   (aN (bJ (i:=2) jI.nd rfl (Or.inl rfl) (aE gS (pv 2) (pv 4)))))
   (aH (bJ (i:=5) jI.nd rfl (Or.inl rfl) aq)
   (aH (bI (bB iC (aE bY (aZ cu (hr.mono (by first | decide | lia)) rfl T.cH T.cD.kp T.cG .nil aU (aa (pv 1) (aa aq aj))) aq) aq (br _)) (aN (bJ (i:=5) jI.nd rfl (Or.inl rfl) (aE oz (aE oA aq aq) (pv 2)))) bH)
   (aN (bF (aE gS (pv 2) (aE bN aq (aE bY (aZ cu (hr.mono (by first | decide | lia)) rfl T.cH T.cD.kp T.cG .nil aU (aa (pv 1) (aa aq aj))) (pv 5)))))))))),?_⟩
  wp_walk using dO;have Pc:=ok.l5;have bd:∀i,1<=b_ (z.take i)/\b_ (z.take i)<=777600000:=λi=>by
   have h1:=lR (m:=60) (by decide) (z.take i) λp hp=>(ok.r p (List.mem_of_mem_take hp)).2.2
   have h2:=zE (m:=60) (by decide) (show (z.take i).length<=5 by rw[List.length_take];lia)
   have e:(60:Int) ^ 5=777600000:=by decide
   lia
  refine rl a (ts.map V.ref) (λi σ H'=>∃r d,σ = [some (.ref a),some (.int c),some (.int (b_ (z.take i))),r,d,none]/\H' = H) (λQ q=>⟨_,rfl,q⟩) hz.sq ⟨none,none,rfl,rfl⟩ (by rintro i σ H' _ ⟨r,d,rfl,rfl⟩;exact hz.sq) ?_ ?_
  ·rintro i x σ H' N hN hx ⟨r,d,rfl,rfl⟩;obtain⟨t,p,rfl,hp,ht⟩:=hz.at hx;refine jx (bV.of ht) rfl ?_;walk_at "rdm";have:=bd i;refine⟨.inl ⟨by lia,by lia⟩,hN _ _ ⟨some (.int p.1),some (.int p.2),?_,rfl⟩⟩
   rw[take_succ_get hp,GI]
  ·rintro σ H' ⟨r,d,rfl,rfl⟩;rw[lenZ hz.n,List.take_length];have hb:=bd z.length;rw[List.take_length] at hb;wp_walk using dO;unfold jz at q;have hq:1<=1000000000 / b_ z:=(Int.le_ediv_iff_mul_le (by lia)).mpr (by lia)
   refine fD (λh=>?_) (λh=>?_)
   ·rw[if_pos h] at q;exact⟨by decide,by lia,by lia,by lia,.inl ⟨by lia,by lia⟩,q⟩
   ·rw[if_neg h] at q;exact⟨.inl ⟨by lia,by lia⟩,q⟩
theorem KJ(T:Tx K mg A):bh P w K mg base bL 2 A.qO A.qP ["_law_many", "_law_cell"] (JT K):=by
 have cu:=rF (P:=P) (w:=w) (base:=base) T;refine T.vI.ok jJ (λvs H Q E h=>?_) (λaK Ar outer s H vs Q E hr h=>?_)
 ·obtain⟨m,c,rfl,_⟩:=h
  rfl
 ·obtain⟨m,c,rfl,h2,Pd,q⟩:=h;refine⟨_,(aH (bI (bB iC (aE bY (aZ cu (hr.mono (by first | decide | lia)) rfl T.cH T.cD.kp T.cG .nil aU (aa (pv 1) (aa aq aj))) aq) aq (br _)) (aH (bJ (i:=2) jJ.nd rfl (Or.inl rfl) (aE bN aq (aE bY (aZ cu (hr.mono (by first | decide | lia)) rfl T.cH T.cD.kp T.cG .nil aU (aa (pv 1) (aa aq aj))) aq)))
   (aH (bI (bB iC (aE bY (aZ cu (hr.mono (by first | decide | lia)) rfl T.cH T.cD.kp T.cG .nil aU (aa (pv 1) (aa aq aj))) aq) aq (br _)) (aN (bJ (i:=2) jJ.nd rfl (Or.inl rfl) (aE bN aq (aE bY (aZ cu (hr.mono (by first | decide | lia)) rfl T.cH T.cD.kp T.cG .nil aU (aa (pv 1) (aa aq aj))) (aE gS aq (aE oA aq aq)))))) bH)
   (aH (bJ (i:=3) jJ.nd rfl (Or.inl rfl) (eG (aa aq (aa (pv 2) aj))))
   (aH (dz PassesOwn.never rfl (j6 rfl T.eg (aa aq (aa (pv 0) aj))) (bS (i:=4) jJ.nd rfl (Or.inl rfl))
   (aH (bJ (i:=2) jJ.nd rfl (Or.inl rfl) (aE gR (pv 2) (aE oz (aE bY (aZ cu (hr.mono (by first | decide | lia)) rfl T.cH T.cD.kp T.cG .nil aU (aa (pv 1) (aa (aE bN (pv 4) aq) aj))) (aE bN (pv 2) aq)) aq)))
   (aN (fT (j9 PySem.F.plainAttrs_list PySem.F.slot_list_append PySem.F.type_list_append oK (pv 3) (aa (aE bN (cF cY (pv 3) (ou oB aq) (λ_ _=>rfl)) (pv 2)) aj))))))
   (aN (bF (pv 3))))))) bH)
   (aH (bJ (i:=5) jJ.nd rfl (Or.inr rfl) (aE bN aq (aE bY (aZ cu (hr.mono (by first | decide | lia)) rfl T.cH T.cD.kp T.cG .nil aU (aa (pv 1) (aa aq aj))) (aE oA aq aq))))
   (aN (bF (aE sZ (eG (aa aq aj)) (bq JK rfl T.rA boot_sorted (aa (lI (N:=["_law_k", "_law_least", "_law_cell"]) (nt:=1) (fv:=[5,1]) (dG.of rfl rfl (by rfl) (by rfl) (by repeat (first | exact trivial | refine⟨rfl,?_⟩)) (by rfl) (by rfl) (by rfl) (by decide) (by decide +kernel)) rfl (j6 rfl T.eg (aa aq (aa (pv 0) aj))) (λC s H fp=>(bS (i:=0) (show List.Nodup (["_law_k", "_law_least", "_law_cell"]:List Str) by decide +kernel) rfl (Or.inl rfl))) (λC s H fp=>lH) (λC s H fp=>(aE bN (pv 1) (aE bY (aZ cu (hr.mono (by first | decide | lia)) rfl T.cH T.cD.kp T.cG .nil aU (aa (pv 2) (aa (aE bN (pv 0) aq) aj))) (aE bN (pv 1) aq))))) aj))))))),?_⟩
  wp_walk using dO;refine fD (λh8=>fD (λh9=>⟨by decide,?_⟩) (λh9=>?_)) (λh8=>⟨by decide,?_⟩)
  ·skip
   intro l hl;have fF:1<=1+mix c 1 % 8000000/\1+mix c 1 % 8000000<=8000000:=⟨by have:=Int.emod_nonneg (mix c 1) (show (8000000:Int)≠0 by decide);lia,by have:=Int.emod_lt_of_pos (mix c 1) (show (0:Int)<8000000 by decide);lia⟩
   generalize 1+mix c 1 % 8000000=s0 at fF ⊢;refine jw 2 m (λj σ H'=>∃kk,σ = [some (.int m),some (.int c),some (.int (cA c s0 j)),some (.ref l),kk,none]/\ak H H'/\H' l=some (.lst (((List.range (2+j)).map (cU c s0)).map V.int)))
    (λQ q=>?_) (by lia) (by lia) (by lia) (by lia) ⟨none,rfl,ak.put hl,?_⟩ ?_ ?_
   ·walk_at "rdm";exact q
   ·rw[aF];simp[List.range_succ,cU,cA]
   ·rintro j σ H' N hN hj ⟨kk,rfl,hs,h1⟩;have b:=jA c fF.1 j;wp_walk using dO;refine⟨by lia,by lia,by lia,⟨_,aD.of h1⟩,_,aD.of h1,_,zf (by simp;lia),?_⟩
    wp_walk using h1;refine⟨by simp;lia,hN _ _ ⟨some (.int (2+(j:Int))),?_,ak.put2 hs hl,?_⟩⟩
    ·rw[cA]
    ·rw[aF,← Nat.add_assoc,List.range_succ,List.map_append,List.map_append,List.length_range,_L.range_getD (by lia)]
     congr 4;simp only[List.map_cons,List.map_nil,List.cons.injEq,and_true,V.int.injEq];obtain⟨i,e⟩:∃i,2+j=i+1:=⟨1+j,by lia⟩
     rw[show 2+j - 1=1+j by lia,show 2+j=1+j+1 by lia,cU,show 1+j=j+1 by lia]
     rw[cA]
   ·rintro σ H' ⟨kk,rfl,hs,h1⟩;walk_at "rdm";have e:2+(m - 2).toNat=m.toNat:=by lia
    rw[e] at h1;have so:=A1 c fF.1 (show s0<=8000000 by lia) (n:=m.toNat) (by lia) (by lia)
    rw[show ((m.toNat:Nat):Int)=m by lia] at so
    exact q _ _ _ hs hl h1 so
  ·skip
   intro l hl;have fF:1<=1+mix c 1 % 1000/\1+mix c 1 % 1000<=1000:=⟨by have:=Int.emod_nonneg (mix c 1) (show (1000:Int)≠0 by decide);lia,by have:=Int.emod_lt_of_pos (mix c 1) (show (0:Int)<1000 by decide);lia⟩
   generalize 1+mix c 1 % 1000=s0 at fF ⊢;refine jw 2 m (λj σ H'=>∃kk,σ = [some (.int m),some (.int c),some (.int (cA c s0 j)),some (.ref l),kk,none]/\ak H H'/\H' l=some (.lst (((List.range (2+j)).map (cU c s0)).map V.int)))
    (λQ q=>?_) (by lia) (by lia) (by lia) (by lia) ⟨none,rfl,ak.put hl,?_⟩ ?_ ?_
   ·walk_at "rdm";exact q
   ·rw[aF];simp[List.range_succ,cU,cA]
   ·rintro j σ H' N hN hj ⟨kk,rfl,hs,h1⟩;have b:=jA c fF.1 j;wp_walk using dO;refine⟨by lia,by lia,by lia,⟨_,aD.of h1⟩,_,aD.of h1,_,zf (by simp;lia),?_⟩
    wp_walk using h1;refine⟨by simp;lia,hN _ _ ⟨some (.int (2+(j:Int))),?_,ak.put2 hs hl,?_⟩⟩
    ·rw[cA]
    ·rw[aF,← Nat.add_assoc,List.range_succ,List.map_append,List.map_append,List.length_range,_L.range_getD (by lia)]
     congr 4;simp only[List.map_cons,List.map_nil,List.cons.injEq,and_true,V.int.injEq];obtain⟨i,e⟩:∃i,2+j=i+1:=⟨1+j,by lia⟩
     rw[show 2+j - 1=1+j by lia,show 2+j=1+j+1 by lia,cU,show 1+j=j+1 by lia]
     rw[cA]
   ·rintro σ H' ⟨kk,rfl,hs,h1⟩;walk_at "rdm";have e:2+(m - 2).toNat=m.toNat:=by lia
    rw[e] at h1;have so:=A1 c fF.1 (show s0<=8000000 by lia) (n:=m.toNat) (by lia) (by lia)
    rw[show ((m.toNat:Nat):Int)=m by lia] at so
    exact q _ _ _ hs hl h1 so
  ·intro l0 cT;have hL:1<=1+mix c 1 % 100000000/\1+mix c 1 % 100000000<=100000000:=⟨by have:=Int.emod_nonneg (mix c 1) (show (100000000:Int)≠0 by decide);lia,by have:=Int.emod_lt_of_pos (mix c 1) (show (0:Int)<100000000 by decide);lia⟩
   generalize 1+mix c 1 % 100000000=L at hL ⊢;have s0:=ak.put (o:=.lst [V.int 0]) cT;refine Gp 1 m (λD i ys az H2=>∃ns:List Int,ys=ns.map V.int/\ns.length=i/\(∀x∈ns,L<=x/\x<=2*L)/\H2 D=some (.lst ys)/\ak (upd H l0 (.lst [V.int 0])) H2/\upd H l0 (.lst [V.int 0]) D=none/\i<=120/\∃u,az = [u,some (.int L),some (.int c)])
    (λQ q=>?_) (by lia) (by lia) (by lia) (by lia) ?_ ?_ ?_ ?_
   ·walk_at "rdm";exact q
   ·intro D hD;exact⟨[],rfl,rfl,(by intro x hx;cases hx),aF,ak.put hD,hD,by lia,none,rfl⟩
   ·rintro D i ys az H2 ⟨ns,rfl,e0,_,e1,e2,e3,e4,_⟩;exact⟨e1,lF (by rw[List.length_map];lia)⟩
   ·rintro D i ys az H2 N hN hi ⟨ns,rfl,e0,eb,e1,e2,e3,e4,u,rfl⟩;wp_walk using dO;have b1:=Int.emod_nonneg (mix c (1+(i:Int)+2)) (show L+1≠0 by lia)
    have b2:=Int.emod_lt_of_pos (mix c (1+(i:Int)+2)) (show 0<L+1 by lia)
    refine⟨by lia,by lia,by lia,e1,hN _ _ _ ⟨ns++[L+mix c (1+(i:Int)+2) % (L+1)],by rw[List.map_append];rfl,by simp[e0],?_,aF,ak.put2 e2 e3,e3,by lia,_,rfl⟩⟩
    intro x hx;rcases List.mem_append.mp hx with hx | hx
    ·exact eb x hx
    ·rw[List.mem_singleton.mp hx];generalize mix c (1+(i:Int)+2) % (L+1)=y at b1 b2 ⊢;lia
   ·rintro D ys az H2 ⟨ns,rfl,e0,eb,e1,e2,e3,e4,u,rfl⟩;walk_at "rdm";refine⟨ns,aD.of e1,by lia,λl B7 hl hp hs=>?_⟩
    have B8:=e2 _ _ aF;have KL:l0≠l:=cO B8 hl;refine⟨[V.int 0],by rw[aG KL];exact B8,?_,λp fJ=>?_⟩
    ·have:=hp.length_eq;simp;lia
    ·have dg:p≠l:=(cO aF fJ).symm;have KN:H2 p=none:=by rw[aG dg] at fJ;exact fJ
     have hH:H p=none:=(s0.trans e2).free KN;have KO:H l=none:=(s0.trans e2).free hl;have so:=GF hL.1 hL.2 (ns:=B7) (λx hx=>eb x (hp.mem_iff.mp hx)) hs (by rw[hp.length_eq];lia)
     rw[hp.length_eq,show ((ns.length+1:Nat):Int)=m by lia] at so
     exact q p (0::B7) _ (ak.put2 (ak.put2 (s0.trans e2) KO) hH) hH (by rw[aF];rfl) so
theorem KP(T:Tx K mg A):bh P w K mg base bL 3 A.qx A.qy ["self", "zones", "lap", "skew", "swing"] (Gy K):=by
 have KQ:=Kn (P:=P) (w:=w) (base:=base) T;have KR:=Ko (P:=P) (w:=w) (base:=base) T;have KS:=KA (P:=P) (w:=w) (base:=base) T;have KU:=Kq (P:=P) (w:=w) (base:=base) T;have KW:=Kr (P:=P) (w:=w) (base:=base) T;have KY:=Ku (P:=P) (w:=w) (base:=base) T;refine T.Bm.ok JZ (λvs H Q E h=>?_) (λaK Ar outer s H vs Q E hr h=>?_)
 ·obtain⟨C,p,dx,za,sa,gI,z,bz,cz,sw,rfl,_⟩:=h
  rfl
 ·obtain⟨C,p,dx,za,sa,gI,z,bz,cz,sw,rfl,cp,hp,hz,ok,h1,h2,h3,h4,hd,hS,so,q⟩:=h;refine⟨_,(aH (fT (aZ KQ (hr.mono (by first | decide | lia)) rfl T.A8 T.vp.kp T.A7 .nil aU (aa (pv 1) aj)))
   (aH (fT (aZ KR (hr.mono (by first | decide | lia)) rfl T.A_ T.vq.kp T.A9 .nil aU (aa (pv 1) (aa (pv 2) (aa (pv 3) aj)))))
   (aH (j7 (pv 0) (aZ KU (hr.mono (by first | decide | lia)) rfl T.Bg T.vA.kp T.Bf .nil aU (aa (pv 1) aj)) rfl)
   (aH (fT (aZ KS (hr.mono (by first | decide | lia)) rfl T.Bc T.vt.kp T.Bb .nil aU (aa (pv 4) (aa (bq cI rfl T.cj boot_len (aa (gA (pv 0) rfl) aj)) aj))))
   (aH (j7 (pv 0) (pv 2) rfl)
   (aH (j7 (pv 0) (pv 3) rfl)
   (aH (j7 (pv 0) (EA EH rfl T.iR boot_list (aa (pv 4) aj)) rfl)
   (aH (j7 (pv 0) (aZ KW (hr.mono (by first | decide | lia)) rfl T.Bj T.vB.kp T.Bh .nil aU (aa (gA (pv 0) rfl) (aa aq aj))) rfl)
   (aN (j7 (pv 0) (aZ KY (hr.mono (by first | decide | lia)) rfl T.Bl T.vC.kp T.Bk .nil aU (aa (gA (pv 0) rfl) aj)) rfl)))))))))),?_⟩
  wp_walk using cp.cl,cp.n1,cp.n2,cp.n3,cp.n4,cp.n5,cp.n6;refine⟨za,gI,z,rfl,hz,ok,λH1 s1=>⟨za,gI,z,bz,cz,rfl,hz.same s1,ok,h1,h2,h3,h4,hd,?_⟩⟩;refine⟨za,gI,z,rfl,hz.same s1,ok,λa1 H2 s2 n1 e1=>?_⟩;have fJ:=(s1.trans s2) _ _ hp;have nF:a1≠p:=(cO (s1 _ _ hp) n1).symm;have cl:=pC z λp hp=>(ok.r p hp).1;have KZ:=ok.pe;have c2:=ok.s2;have vW:SameBut p H H2:=.of (s1.trans s2);have K0:H a1=none:=s1.free n1;wp_walk using cp.cl,cp.n1,cp.n2,cp.n3,cp.n4,cp.n5,cp.n6,fJ;refine⟨_,.inl (aD.of ((aG nF).trans e1)),?_⟩;have B9:∀ {H':Hp},SameBut p H H'->aD K H' sa (sw.map V.int):=λ{H'} sb=>by
   rcases hS with(h | ⟨o,h⟩) | h
   ·exact .inl (.inl (sb _ _ h (jW h hp (by intro z;cases z))))
   ·exact .inl (.inr ⟨o,sb _ _ h (jW h hp (by intro z;cases z))⟩)
   ·exact .inr h
  refine⟨sa,sw,_,rfl,B9 vW.put,?_,?_,?_⟩
  ·simpa only[List.length_map,cl] using so
  ·simp only[List.length_map];lia
  wp_walk using cp.cl,cp.n1,cp.n2,cp.n3,cp.n4,cp.n5,cp.n6;refine⟨_,.inl (B9 vW.put),λa2 n2=>?_⟩;have iS:p≠a2:=cO aF n2;have B_:H2 a2=none:=by rw[aG iS.symm] at n2;exact n2
  wp_walk using cp.cl,cp.n1,cp.n2,cp.n3,cp.n4,cp.n5,cp.n6,aG iS;have K1:a1≠a2:=cO e1 B_;have nG:SameBut p H (upd (upd (upd H2 p (HO.ins C dx [(Str.ofString "ring_cells",V.ref a1),(Str.ofString "lap",V.int bz),(Str.ofString "skew",V.int cz)])) a2 (HO.lst (List.map V.int sw))) p
   (HO.ins C dx [(Str.ofString "ring_cells",V.ref a1),(Str.ofString "lap",V.int bz),(Str.ofString "skew",V.int cz),(Str.ofString "swing",V.ref a2)])):=(vW.put.step (ak.put n2)).put
  have yX:=e1;have K2:H a2=none:=(s1.trans s2).free B_;generalize vX:upd (upd (upd H2 p _) a2 _) p _=H3 at nG ⊢;have p3:H3 p=some (HO.ins C dx [(Str.ofString "ring_cells",V.ref a1),(Str.ofString "lap",V.int bz),(Str.ofString "skew",V.int cz),(Str.ofString "swing",V.ref a2)]):=by rw[← vX,aF]
  have q1:H3 a1=some (.lst ((counts z).map V.int)):=by rw[← vX,aG nF,aG K1,aG nF];exact e1
  have q2:H3 a2=some (.lst (sw.map V.int)):=by rw[← vX,aG iS.symm,aF]
  have cm:∀c∈counts z,0<=c/\c<=1000:=λc hc=>by
   obtain⟨y,hy,rfl⟩:=zo hc;have:=ok.r y hy;lia
  refine⟨a1,counts z,0,rfl,aD.of q1,by lia,cm,by decide,by decide,λa3 ts H4 s4 n3 rG z4=>?_⟩
  have p4:=s4 _ _ p3;have vY:a3≠p:=(cO p3 n3).symm;have jf:H a3=none:=by
   cases e:H a3 with
   | none=>rfl
   | some o=>rw[nG _ _ e vY] at n3;cases n3
  have vZ:∀t∈ts,t≠p:=λt ht=>(cO p3 (rG t ht)).symm;have K3:∀t∈ts,H t=none:=λt ht=>by
   cases e:H t with
   | none=>rfl
   | some o=>have:=nG _ _ e (vZ t ht);rw[rG t ht] at this;cases this
  wp_walk using cp.cl,cp.n1,cp.n2,cp.n3,cp.n4,cp.n5,cp.n6,p4;have z5:=z4.keep (H':=upd H4 p (HO.ins C dx [(Str.ofString "ring_cells",V.ref a1),(Str.ofString "lap",V.int bz),(Str.ofString "skew",V.int cz),(Str.ofString "swing",V.ref a2),(Str.ofString "number_cells",V.ref a3)])) (aG vY) λt ht=>aG (vZ t ht);have zl:(pq (counts z) 0).length<=1000000:=by
   have:=tX (s:=0) (by decide) (counts z) 0 cm
   have e:(counts z).length<=120:=by lia
   unfold pq;lia
  refine⟨a3,ts,_,rfl,z5,zl,λa4 H5 s5 n4 e4=>?_⟩;have v5:a4≠p:=(cO aF n4).symm;have K4:SameBut p H H5:=((nG.step s4).put).step s5;have Ca:H4 a4=none:=by rw[aG v5] at n4;exact n4
  have K5:H a4=none:=by
   cases e:H a4 with
   | none=>rfl
   | some o=>rw[(nG.step s4) _ _ e v5] at Ca;cases Ca
  wp_walk using cp.cl,cp.n1,cp.n2,cp.n3,cp.n4,cp.n5,cp.n6,s5 _ _ aF;refine q _ dx a1 a2 a3 a4 ts K4.put ?_ aF (iG.lit cp aF ?_ ?_ ?_ ?_)
  ·intro b hb;simp only[List.mem_cons] at hb;rcases hb with rfl | rfl | rfl | rfl | hb
   ·exact K0
   ·exact K2
   ·exact jf
   ·exact K5
   ·exact K3 b hb
  ·rw[aG nF];exact s5 _ _ ((aG nF).trans (s4 _ _ q1))
  ·rw[aG iS.symm];exact s5 _ _ ((aG iS.symm).trans (s4 _ _ q2))
  ·exact(z5.same s5).keep (aG vY) λt ht=>aG (vZ t ht)
  ·rw[aG v5];exact e4
theorem Cb(T:Tx K mg A):bh P w K mg base (gW P w base) 3 A.mL A.qC ["self", "number"] (IZ K A.aO):=by
 have v7:=B4 (P:=P) (w:=w) (base:=base) T;refine T.Bx.zT J5 (λvs H Q E h=>?_) (λaK Ar outer s H vs Q E hr h=>?_)
 ·obtain⟨C,p,P,fp,k,rfl,_⟩:=h
  rfl
 ·obtain⟨C,p,P,fp,k,rfl,hP,q,qe⟩:=h;obtain⟨dx,a1,a2,a3,a4,ts,fs,rfl,h⟩:=hP;refine⟨_,(aH (bI (PW.pt (fS (bB fz (pv 1) aq (br _)) (fR (bB oE (pv 1) (bq cI rfl T.cj boot_len (aa (gA (pv 0) rfl) aj)) (br _))))) (aN (AF (by exact AA) rfl T.nj T.nq PySem.F.excBase_ValueError rfl rfl v7 (hr.mono (by first | decide | lia)) T.vo (show Vals [.aC] [.none] from(.cons rfl .nil)) (aa (pv 1) aj))) bH)
   (aN (bF (cF cY (gA (pv 0) rfl) (pv 1) (λ_ _=>rfl))))),?_⟩
  wp_walk using h.o,h.f1,h.f2,h.f3,h.f4,h.f5,h.f6,h.m1,h.m2,h.m3,h.m4,h.m5,h.m6,h.m7,h.m8,h.m9,h.gU,h.jy,h.cp.cl,h.cp.n1,h.cp.n2,h.cp.n3,h.cp.n4,h.cp.n5,h.cp.n6;have hn:=h.nc.n;refine fD (λh0=>λd nd=>qe (by lia) d _ (ak.put nd) aF) λh0=>⟨_,.inl h.nc.sq,?_⟩
  rw[List.length_map];refine fD (λh1=>λd nd=>qe (by lia) d _ (ak.put nd) aF) λh1=>?_
  have hk:k.toNat<ts.length:=by lia
  have g1:(ts.map V.ref)[k.toNat]? = some (V.ref ts[k.toNat]):=by simp[hk]
  obtain⟨t,q',e1,e2,e3⟩:=h.nc.at g1;have ek:k=(k.toNat:Int):=by lia
  refine⟨_,h.nc.sq,V.ref ts[k.toNat],?_,?_⟩
  ·have:=fY g1;rwa [← ek] at this
  ·rw[e1];exact q (by lia) (by lia) t q' e2 e3
theorem Cc(T:Tx K mg A):bh P w K mg base (gW P w base) 3 A.mO A.qD ["self", "ring", "place"] (JU K [A.aR] A.aO):=by
 have v7:=B4 (P:=P) (w:=w) (base:=base) T;have K6:=Kw (P:=P) (w:=w) (base:=base) T;refine T.BA.zT J6 (λvs H Q E h=>?_) (λaK Ar outer s H vs Q E hr h=>?_)
 ·obtain⟨C,p,P,fp,r,c,rfl,_⟩:=h
  rfl
 ·obtain⟨C,p,P,fp,r,c,rfl,hC,hP,q,qe⟩:=h;obtain⟨dx,a1,a2,a3,a4,ts,fs,nH,h⟩:=id hP;have hu:=tN hr;refine⟨_,(aH (bI (j3 (i8 (ue (pv 0) T.Kl K6 (hr.mono (by first | decide | lia)) T.Bv .nil aU (aa (pv 1) (aa (pv 2) aj))))) (aN (AF (by exact AA) rfl T.nj T.nq PySem.F.excBase_ValueError rfl rfl v7 (hr.mono (by first | decide | lia)) T.vo (show Vals [.aC] [.none] from(.cons rfl .nil)) (aa (cK (aa (pv 1) (aa (pv 2) aj))) aj))) bH)
   (aN (bF (Fe hu (gA (pv 0) rfl) (cK (aa (pv 1) (aa (pv 2) aj))) ⟨rfl,rfl,rfl,rfl⟩)))),?_⟩
  wp_walk using h.o,h.f1,h.f2,h.f3,h.f4,h.f5,h.f6,h.m1,h.m2,h.m3,h.m4,h.m5,h.m6,h.m7,h.m8,h.m9,h.gU,h.jy,h.cp.cl,h.cp.n1,h.cp.n2,h.cp.n3,h.cp.n4,h.cp.n5,h.cp.n6;refine⟨hC,C,p,P,fp,r,c,rfl,hP,?_⟩;by_cases gb:0<=r/\r<P.rc.length/\0<=c/\c<P.rc.getD r.toNat 0
  ·rw[decide_eq_true gb];wp_walk using h.o,h.f1,h.f2,h.f3,h.f4,h.f5,h.f6,h.m1,h.m2,h.m3,h.m4,h.m5,h.m6,h.m7,h.m8,h.m9,h.gU,h.jy,h.cp.cl,h.cp.n1,h.cp.n2,h.cp.n3,h.cp.n4,h.cp.n5,h.cp.n6;refine ite_no (by simp) ⟨.inr ⟨_,.inl h.cn⟩,λt nt=>⟨_,iE.t (k:=kT (r,c)) (ak.put nt _ _ h.cn) aF,q gb _ (ak.put nt)⟩⟩
  ·rw[decide_eq_false gb];wp_walk using h.o,h.f1,h.f2,h.f3,h.f4,h.f5,h.f6,h.m1,h.m2,h.m3,h.m4,h.m5,h.m6,h.m7,h.m8,h.m9,h.gU,h.jy,h.cp.cl,h.cp.n1,h.cp.n2,h.cp.n3,h.cp.n4,h.cp.n5,h.cp.n6;exact λt nt d nd=>qe gb d t _ ((ak.put nt).trans (ak.put nd)) aF ((ak.put nd) _ _ aF)
theorem K7(T:Tx K mg A):bh P w K mg base bL 9 A.qQ A.qR ["_law_plate", "_law_number"] (JV K [A.aR]):=by
 have v9:=Cb (P:=P) (w:=w) (base:=base) T;have jP:=vP (P:=P) (w:=w) (base:=base) T;refine T.vJ.ok p8 (λvs H Q E h=>?_) (λaK Ar outer s H vs Q E hr h=>?_)
 ·obtain⟨C,p,P,fp,k,rfl,_⟩:=h
  rfl
 ·obtain⟨C,p,P,fp,k,rfl,hC,hP,bad,q⟩:=h;refine⟨_,(aH (bJ (i:=2) p8.nd rfl (Or.inl rfl) (cK aj))
   (aH (Ac rfl rfl (λE=>(zW (AK (pv 0) T.BZ v9 (hr.mono (by first | decide | lia)) T.vD .nil (aa (pv 1) aj))))
   (z_ (i:=3) rfl T.nj T.nk p8.nd rfl rfl rfl (λa=>(aN (bJ (i:=2) p8.nd rfl (Or.inl rfl) (cK (aa (pP (pv 3) rfl) (aa (pP (pv 3) rfl) (aa (j4 (bq kC rfl T.cX boot_isinstance (aa (pv 3) (aa (fQ (v:=.ref A.dj) rfl T.rC rfl) aj))) (j4 (bq kC rfl T.cX boot_isinstance (aa (pv 3) (aa (eB (v:=.ty "ValueError") rfl T.ni PyProof.Rows.Boot.«ValueError» rfl) aj))) (nX (xS (bq kC rfl T.cX boot_isinstance (aa (pv 3) (aa (fQ (v:=.ref A.eX) rfl T.vM rfl) aj))))))) aj))))))) zY))
   (aN (bF (aZ jP (hr.mono (by first | decide | lia)) rfl T.jL T.iQ.kp T.jK .nil aU (aa (pv 2) (aa (cK (aa (pv 1) (aa nW (aa fq aj)))) aj))))))),?_⟩
  walk_at "rdt";intro l hl;have s1:=ak.put (o:=.tup []) hl;have nI:=hP.same s1;obtain⟨dx,a1,a2,a3,a4,ts,fs,nH,hA⟩:=id nI;refine⟨C,dx,fs,hA.o,hC,hA.m9,C,p,P,fp,k,rfl,nI,λz0 z1=>absurd ⟨z0,z1⟩ bad,λ_ d H1 s2 nc=>?_⟩;refine⟨A.aO,rfl,T.nk,λe he=>.inl ⟨T.vO,?_⟩⟩;walk_at "rdt";have e1:=ak.put (o:=dY e A.aO (some (2*d))) he;have nJ:upd H1 e (dY e A.aO (some (2*d))) (2*d / 2)=some (c8 (2*d / 2) [(("cell" : Str),.int k),(("ask" : Str),.aC)]):=by
   rw[AJ];exact e1 _ _ nc
  refine⟨_,_,rfl,_,nJ,⟨T.gj,T.jN.hd⟩,T.kI,.int k,by simp[List.lookup_cons,lO],_,_,rfl,_,nJ,⟨T.gj,T.jN.hd⟩,T.kJ,.aC,by simp[List.lookup_cons,lO],?_⟩
  refine⟨A.aO,_,.inl rfl,⟨_,rfl⟩,T.gj,T.jO,true,T.nu,ite_yes rfl ⟨A.aO,_,.inr rfl,⟨_,rfl⟩,T.gj,T.jO,true,T.nA,ite_yes rfl ⟨A.aO,_,.inl rfl,⟨_,rfl⟩,T.gj,T.jO,false,T.nv,λt1 n1 t2 n2=>?_⟩⟩⟩;have u1:=ak.put (o:=.tup [.int k,.aC,.bl true]) n1;have u2:=ak.put (o:=.tup [.int k,.aC,.bl true]) n2;have uu:=(s1.trans s2).trans (e1.trans (u1.trans u2));exact⟨_,_,.tup [.int k,.aC,.bl true],rfl,Rep.iJ (n:=3) (u2 _ _ aF) ⟨.int _,.aC,.bl _,trivial⟩,Rep.iJ (n:=3) aF ⟨.int _,.aC,.bl _,trivial⟩,λH' s'=>q H' (uu.trans s')⟩
theorem K8(T:Tx K mg A):bh P w K mg base bL 9 A.qT A.qU ["_law_plate", "_law_pair"] (JW K [A.aR]):=by
 have v_:=Cc (P:=P) (w:=w) (base:=base) T;have jP:=vP (P:=P) (w:=w) (base:=base) T;refine T.vK.ok p9 (λvs H Q E h=>?_) (λaK Ar outer s H vs Q E hr h=>?_)
 ·obtain⟨C,p,t0,P,fp,r,c,rfl,_⟩:=h
  rfl
 ·obtain⟨C,p,t0,P,fp,r,c,rfl,hC,hP,wc,bad,q⟩:=h;refine⟨_,(aH (bJ (i:=2) p9.nd rfl (Or.inl rfl) (cK aj))
   (aH (Ac rfl rfl (λE=>(zW (AK (pv 0) T.B0 v_ (hr.mono (by first | decide | lia)) T.vE .nil (aa (cF j8 (pv 1) aq (λ_ _=>rfl)) (aa (cF j8 (pv 1) aq (λ_ _=>rfl)) aj)))))
   (z_ (i:=3) rfl T.nj T.nk p9.nd rfl rfl rfl (λa=>(aN (bJ (i:=2) p9.nd rfl (Or.inl rfl) (cK (aa (pP (pv 3) rfl) (aa (pP (pv 3) rfl) (aa (j4 (bq kC rfl T.cX boot_isinstance (aa (pv 3) (aa (fQ (v:=.ref A.dj) rfl T.rC rfl) aj))) (j4 (bq kC rfl T.cX boot_isinstance (aa (pv 3) (aa (eB (v:=.ty "ValueError") rfl T.ni PyProof.Rows.Boot.«ValueError» rfl) aj))) (nX (xS (bq kC rfl T.cX boot_isinstance (aa (pv 3) (aa (fQ (v:=.ref A.eX) rfl T.vM rfl) aj))))))) aj))))))) zY))
   (aN (bF (aZ jP (hr.mono (by first | decide | lia)) rfl T.jL T.iQ.kp T.jK .nil aU (aa (pv 2) (aa (cK (aa (pv 1) (aa nW (aa fq aj)))) aj))))))),?_⟩
  walk_at "rdt";intro l hl;have s1:=ak.put (o:=.tup []) hl;have nI:=hP.same s1;obtain⟨dx,a1,a2,a3,a4,ts,fs,nH,hA⟩:=id nI;refine⟨C,dx,fs,hA.o,hC,hA.gU,_,bV.of (s1 _ _ wc),_,rfl,_,bV.of (s1 _ _ wc),_,rfl,C,p,P,fp,r,c,rfl,hC,nI,λz0=>absurd z0 bad,λ_ d tt H1 s2 nc AG=>?_⟩;refine⟨A.aO,rfl,T.nk,λe he=>.inl ⟨T.vO,?_⟩⟩;walk_at "rdt";have e1:=ak.put (o:=dY e A.aO (some (2*d))) he;have nJ:upd H1 e (dY e A.aO (some (2*d))) (2*d / 2)=some (c8 (2*d / 2) [(("cell" : Str),.ref tt),(("ask" : Str),.aC)]):=by
   rw[AJ];exact e1 _ _ nc
  refine⟨_,_,rfl,_,nJ,⟨T.gj,T.jN.hd⟩,T.kI,.ref tt,by simp[List.lookup_cons,lO],_,_,rfl,_,nJ,⟨T.gj,T.jN.hd⟩,T.kJ,.aC,by simp[List.lookup_cons,lO],?_⟩
  refine⟨A.aO,_,.inl rfl,⟨_,rfl⟩,T.gj,T.jO,true,T.nu,ite_yes rfl ⟨A.aO,_,.inr rfl,⟨_,rfl⟩,T.gj,T.jO,true,T.nA,ite_yes rfl ⟨A.aO,_,.inl rfl,⟨_,rfl⟩,T.gj,T.jO,false,T.nv,λt1 n1 t2 n2=>?_⟩⟩⟩;have u1:=ak.put (o:=.tup [.ref tt,.aC,.bl true]) n1;have u2:=ak.put (o:=.tup [.ref t0,.aC,.bl true]) n2;have uu:=(s1.trans s2).trans (e1.trans (u1.trans u2));exact⟨_,_,.tup [.tup [.int r,.int c],.aC,.bl true],rfl,Rep.iJ (n:=3) (u2 _ _ aF) ⟨Rep.iJ (n:=2) (u2 _ _ (u1 _ _ (e1 _ _ AG))) ⟨.int _,.int _,trivial⟩,.aC,.bl _,trivial⟩,Rep.iJ (n:=3) aF ⟨Rep.iJ (n:=2) (uu _ _ wc) ⟨.int _,.int _,trivial⟩,.aC,.bl _,trivial⟩,λH' s'=>q H' (uu.trans s')⟩
theorem K9(T:Tx K mg A):bh P w K mg base bL 10 A.qV A.qW ["_law_script"] (pH K):=by
 have K_:=KP (P:=P) (w:=w) (base:=base) T;have La:=Kv (P:=P) (w:=w) (base:=base) T;have v9:=Cb (P:=P) (w:=w) (base:=base) T;have v_:=Cc (P:=P) (w:=w) (base:=base) T;have jQ:=Ky (P:=P) (w:=w) (base:=base) T;have jP:=vP (P:=P) (w:=w) (base:=base) T;have cu:=rF (P:=P) (w:=w) (base:=base) T;have Lb:=KG (P:=P) (w:=w) (base:=base) T;have Ld:=Kz (P:=P) (w:=w) (base:=base) T;have Le:=KI (P:=P) (w:=w) (base:=base) T;have Lf:=KJ (P:=P) (w:=w) (base:=base) T;have Lg:=K7 (P:=P) (w:=w) (base:=base) T;have Lh:=K8 (P:=P) (w:=w) (base:=base) T;refine T.BP.ok eW (λvs H Q E h=>?_) (λaK Ar outer s H vs Q E hr h=>?_)
 ·obtain⟨a,ns,rfl,_⟩:=h
  rfl
 ·obtain⟨a,ns,rfl,hS,hl,q⟩:=h;have Pe:=hr.Em;refine⟨_,(aH (bJ (i:=1) eW.nd rfl (Or.inl rfl) (aZ Lb (hr.mono (by first | decide | lia)) rfl T.BD T.vF.kp T.BC .nil aU (aa (aZ jQ (hr.mono (by first | decide | lia)) rfl T.iP T.g_.kp T.iO .nil aU (aa (pv 0) (aa aq aj))) (aa (aZ jQ (hr.mono (by first | decide | lia)) rfl T.iP T.g_.kp T.iO .nil aU (aa (pv 0) (aa aq aj))) aj))))
   (aH (bJ (i:=2) eW.nd rfl (Or.inl rfl) (aZ Ld (hr.mono (by first | decide | lia)) rfl T.BF T.vG.kp T.BE .nil aU (aa (pv 1) aj)))
   (aH (bJ (i:=3) eW.nd rfl (Or.inl rfl) (aZ Le (hr.mono (by first | decide | lia)) rfl T.BH T.vH.kp T.BG .nil aU (aa (pv 1) (aa (aZ jQ (hr.mono (by first | decide | lia)) rfl T.iP T.g_.kp T.iO .nil aU (aa (pv 0) (aa aq aj))) aj))))
   (aH (bJ (i:=4) eW.nd rfl (Or.inl rfl) (aE bY (aZ cu (hr.mono (by first | decide | lia)) rfl T.cH T.cD.kp T.cG .nil aU (aa (aZ jQ (hr.mono (by first | decide | lia)) rfl T.iP T.g_.kp T.iO .nil aU (aa (pv 0) (aa aq aj))) (aa aq aj))) (pv 3)))
   (aH (bJ (i:=5) eW.nd rfl (Or.inr rfl) (Ew T.BQ K_ (hr.mono (by first | decide | lia)) rfl T.BR T.Bo .nil aU (aa (pv 1) (aa (pv 3) (aa (pv 4) (aa (aZ Lf (hr.mono (by first | decide | lia)) rfl T.BJ T.vI.kp T.BI .nil aU (aa (bq cI rfl T.cj boot_len (aa (pv 2) aj)) (aa (aZ jQ (hr.mono (by first | decide | lia)) rfl T.iP T.g_.kp T.iO .nil aU (aa (pv 0) (aa aq aj))) aj))) aj))))))
   (aH (bJ (i:=6) eW.nd rfl (Or.inl rfl) (eG aj))
   (aH (dz PassesOwn.never rfl (k6 rfl T.eg (aa (bq cI rfl T.cj boot_len (aa (pv 2) aj)) aj)) (bS (i:=7) eW.nd rfl (Or.inr rfl))
   (aN (fT (j9 PySem.F.plainAttrs_list PySem.F.slot_list_extend PySem.F.type_list_extend sX (pv 6) (aa (lI (N:=["_law_place", "_law_ring"]) (nt:=1) (fv:=[7]) (dG.of rfl rfl (by rfl) (by rfl) (by repeat (first | exact trivial | refine⟨rfl,?_⟩)) (by rfl) (by rfl) (by rfl) (by decide) (by decide +kernel)) rfl (k6 rfl T.eg (aa (cF cY (pv 2) (pv 7) (λ_ _=>rfl)) aj)) (λC s H fp=>(bS (i:=0) (show List.Nodup (["_law_place", "_law_ring"]:List Str) by decide +kernel) rfl (Or.inl rfl))) (λC s H fp=>lH) (λC s H fp=>(cK (aa (pv 1) (aa (pv 0) aj))))) aj)))))
   (aH (bI (j3 (i8 (aZ jP (hr.mono (by first | decide | lia)) rfl T.jL T.iQ.kp T.jK .nil aU (aa (GN (pv 5) T.Kh La (hr.mono (by first | decide | lia)) T.Bs .nil aU) (aa (bq cI rfl T.cj boot_len (aa (pv 6) aj)) aj))))) (aN (bF fq)) bH)
   (aH (dz PassesOwn.never rfl (gQ (aE sZ (JO rfl T.iR rfl T.eg rfl (aa aq (aa (bq cI rfl T.cj boot_len (aa (pv 6) aj)) (aa (aE bN aq (aE oz (bq cI rfl T.cj boot_len (aa (pv 6) aj)) aq)) aj)))) (eG (aa (aE gR (bq cI rfl T.cj boot_len (aa (pv 6) aj)) aq) aj)))) (bS (i:=8) eW.nd rfl (Or.inl rfl))
   (aH (bI (j3 (i8 (aZ jP (hr.mono (by first | decide | lia)) rfl T.jL T.iQ.kp T.jK .nil aU (aa (ue (pv 5) T.BZ v9 (hr.mono (by first | decide | lia)) T.vD .nil zS (aa (pv 8) aj)) (aa (cF cY (pv 6) (pv 8) (λ_ _=>rfl)) aj))))) (aN (bF fq)) bH)
   (aN (bI (j3 (i8 (aZ jP (hr.mono (by first | decide | lia)) rfl T.jL T.iQ.kp T.jK .nil aU (aa (ue (pv 5) T.B0 v_ (hr.mono (by first | decide | lia)) T.vE .nil zS (aa (cF j8 (cF cY (pv 6) (pv 8) (λ_ _=>rfl)) aq (λ_ _=>rfl)) (aa (cF j8 (cF cY (pv 6) (pv 8) (λ_ _=>rfl)) aq (λ_ _=>rfl)) aj))) (aa (pv 8) aj))))) (aN (bF fq)) bH))))
   (aH (bJ (i:=9) eW.nd rfl (Or.inl rfl) (aE bN aq (aZ cu (hr.mono (by first | decide | lia)) rfl T.cH T.cD.kp T.cG .nil aU (aa (aZ jQ (hr.mono (by first | decide | lia)) rfl T.iP T.g_.kp T.iO .nil aU (aa (pv 0) (aa aq aj))) (aa aq aj)))))
   (aH (dz PassesOwn.never rfl (gQ (eG (aa (ou oB aq) (aa (aE gR aq (pv 9)) (aa (bq cI rfl T.cj boot_len (aa (pv 6) aj)) (aa (aE bN (bq cI rfl T.cj boot_len (aa (pv 6) aj)) (pv 9)) aj)))))) (bS (i:=10) eW.nd rfl (Or.inl rfl))
   (aN (bI (j3 (i8 (aZ Lg (hr.mono (by first | decide | lia)) rfl T.BL T.vJ.kp T.BK .nil aU (aa (pv 5) (aa (pv 10) aj))))) (aN (bF fq)) bH)))
   (aH (bJ (i:=7) eW.nd rfl (Or.inr rfl) (aE bY (aZ cu (hr.mono (by first | decide | lia)) rfl T.cH T.cD.kp T.cG .nil aU (aa (aZ jQ (hr.mono (by first | decide | lia)) rfl T.iP T.g_.kp T.iO .nil aU (aa (pv 0) (aa aq aj))) (aa aq aj))) (bq cI rfl T.cj boot_len (aa (pv 2) aj))))
   (aH (bJ (i:=11) eW.nd rfl (Or.inl rfl) (eG (aa (cK (aa (ou oB aq) (aa aq aj))) (aa (cK (aa (aE gR aq (pv 9)) (aa aq aj))) (aa (cK (aa (bq cI rfl T.cj boot_len (aa (pv 2) aj)) (aa aq aj))) (aa (cK (aa (aE bN (bq cI rfl T.cj boot_len (aa (pv 2) aj)) (pv 9)) (aa aq aj))) aj))))))
   (aH (bJ (i:=11) eW.nd rfl (Or.inl rfl) (aE sZ (pv 11) (eG (aa (cK (aa (pv 7) (aa (ou oB aq) aj))) (aa (cK (aa (pv 7) (aa (aE gR aq (pv 9)) aj))) (aa (cK (aa (pv 7) (aa (cF cY (pv 2) (pv 7) (λ_ _=>rfl)) aj))) (aa (cK (aa (pv 7) (aa (aE bN (cF cY (pv 2) (pv 7) (λ_ _=>rfl)) (pv 9)) aj))) aj)))))))
   (aN (bF (bq (HX rfl) rfl T.rz boot_all (aa (lI (N:=["_law_pair", "_law_plate"]) (nt:=1) (fv:=[5]) (dG.of rfl rfl (by rfl) (by rfl) (by repeat (first | exact trivial | refine⟨rfl,?_⟩)) (by rfl) (by rfl) (by rfl) (by decide) (by decide +kernel)) rfl (gQ (pv 11)) (λC s H fp=>(bS (i:=0) (show List.Nodup (["_law_pair", "_law_plate"]:List Str) by decide +kernel) rfl (Or.inl rfl))) (λC s H fp=>lH) (λC s H fp=>(aZ Lh (hr.mono (by first | decide | lia)) rfl T.BO T.vK.kp T.BN .nil aU (aa (pv 1) (aa (pv 0) aj))))) aj)))))))))))))))))),?_⟩
  wp_walk using T,kj,dO;refine⟨ns,hS,hl,ns,hS,hl,?_⟩;refine⟨_,_,rfl,λza gI z H1 s1 n1 rG hz iT Li=>?_⟩;refine⟨za,gI,z,rfl,hz,iT,λca H2 s2 n2 hc=>?_⟩;have cl:=pC z λp hp=>(iT.r p hp).1;have KZ:=iT.pe;have c2:=iT.s2;have nK:=s1.trans s2;refine⟨ns,nK.seq hS,hl,⟨za,gI,z,_,rfl,hz.same s2,iT,?_⟩⟩;obtain⟨Cd,Ce,Cf⟩:=JX iT Li (eO ns 2);generalize jz z (eO ns 2)=bz at Cd Ce Cf ⊢;have h_:=hz.same s2;wp_walk using T,kj,dO;have Lj:=Int.emod_nonneg (mix (eO ns 3) 0) (show bz≠0 by lia)
  have Lk:=Int.emod_lt_of_pos (mix (eO ns 3) 0) (show 0<bz by lia)
  refine⟨ns,nK.seq hS,hl,by lia,_,.inl (aD.of hc),ns,nK.seq hS,hl,?_⟩
  generalize mix (eO ns 3) 0 % bz=sk at Lj Lk ⊢;refine⟨_,_,rfl,by rw[List.length_map];lia,by rw[List.length_map];lia,λsa sw H4 s4 n4 Cg so=>?_⟩
  rw[List.length_map,cl] at so;intro p dx np Ci nd;have Cj:=h_.same s4;have s5:=ak.put (o:=.own p) Ci;have iS:upd H4 dx (.own p) p=none:=by rw[aG (Ne.symm nd)];exact np
  have s6:=s5.trans (ak.put (o:=.ins A.aR dx []) iS);refine⟨A.aR,p,dx,za,sa,gI,z,bz,sk,sw,rfl,T.Kg,aF,Cj.same s6,iT,Cd,Ce,by lia,by lia,Cf,aD.of (s6 _ _ Cg),so,λH5 Ll a1 a2 a3 a4 we sb Lm Ln hA=>⟨rfl,?_⟩⟩
  have hP:c7 K A.aR H5 p _ (a1::a2::a3::a4::we):=⟨Ll,a1,a2,a3,a4,we,_,rfl,hA⟩;have wg:∀b o,H4 b=some o->H5 b=some o:=λb o e=>sb _ _ (s6 _ _ e) (cO e np);have Ck:ak H H5:=λb o e=>wg _ _ (s4 _ _ (nK _ _ e));have rH:=wg _ _ (s4 _ _ hc);clear Cj s5 s6 iS sb Lm Ln wg hA np Ci nd s4 n4 n1 n2 s1 s2 nK rG hz h_ Cg hc so;have bG:∀c∈counts z,1<=c/\c<=1000:=λc hc=>by
   obtain⟨y,hy,rfl⟩:=zo hc;have:=iT.r y hy;lia
  have wj:=zp (s:=0) (by lia) (rc:=counts z) λc hc=>⟨by have:=(bG c hc).1;lia,(bG c hc).2⟩
  generalize Pf:counts z=rc at *
  have Pg:2<=rc.length:=by lia
  have Ph:rc.length<=120:=by lia
  intro S wk;refine tY rc.length (λi σ H'=>∃(x7:Option V) (ts:List Addr),σ = [some (.ref a),some (.ref za),some (.ref ca),some (.int bz),some (.int sk),some (.ref p),some (.ref S),x7,none,none,none,none]/\ak H5 H'/\Zn H' S ts (bE 0 0 (rc.take i))) (λQ q=>?_) (by lia) ⟨none,[],rfl,ak.put wk,Zn.start⟩ ?_ ?_
  ·walk_at "rdm";exact⟨_,.inl (aD.of (ak.put wk _ _ rH)),by simpa using q⟩
  ·rintro i σ H' N hN hi ⟨x7,ts,rfl,sx,ie⟩;walk_at "rdm";have gb:rc[i]? = some rc[i]:=List.getElem?_eq_getElem hi;have cb:=bG _ (List.getElem_mem hi);have eD:rc.getD i 0=rc[i]:=by rw[List.getD_eq_getElem?_getD,gb];rfl
   refine⟨⟨_,ie.sq⟩,?_⟩;refine Ah rc[i] (λD j ys az H2=>∃(u:Option V) (t2:List Addr),ys=t2.map V.ref/\az = [u,some (.int (i:Int))]/\ak H' H2/\H' D=none/\Zn H2 D t2 ((List.range j).map λ(k:Nat)=>((i:Int),(k:Int)))/\j<=1000) (λQ q=>?_) (by lia) (by lia) ?_ ?_ ?_ ?_
   ·walk_at "rdm";exact⟨_,aD.of (sx _ _ rH),_,fY (show (rc.map V.int)[i]? = some (.int rc[i]) by rw[List.getElem?_map,gb];rfl),q⟩
   ·intro D hD;exact⟨none,[],rfl,rfl,ak.put hD,hD,Zn.start,by lia⟩
   ·rintro D j ys az H2 ⟨u,t2,rfl,rfl,e1,e2,e3,e4⟩;have:=e3.n;exact⟨e3.l,lF (by rw[List.length_map,this,List.length_map,List.length_range];lia)⟩
   ·rintro D j ys az H2 N2 nC hj ⟨u,t2,rfl,rfl,e1,e2,e3,e4⟩;walk_at "rdm";refine λp1 bX=>⟨ak.put bX _ _ e3.l,nC _ _ _ ⟨_,t2++[p1],by simp,rfl,ak.put2 (e1.trans (ak.put bX)) e2,e2,?_,by lia⟩⟩
    have:=e3.snoc bX (i:Int) (j:Int);rw[List.range_succ,List.map_append];exact this
   ·rintro D ys az H2 ⟨u,t2,rfl,rfl,e1,e2,e3,e4⟩;walk_at "rdm";have Cm:=ie.same e1;have l1:=ie.n;have l2:=e3.n;have l3:=wj i;rw[List.length_map,List.length_range] at l2;refine⟨_,Cm.l,_,e3.l,by rw[List.length_map,List.length_map];lia,hN _ _ ⟨_,ts++t2,rfl,ak.put2 (sx.trans e1) wk,?_⟩⟩
    rw[HU hi,eD,Int.sub_zero];exact Cm.ext e3
  ·rintro σ H' ⟨x7,ts,rfl,sx,ie⟩;rw[List.take_length] at ie
   show nY _ _ _ _ _;wp_walk using T,kj,dO;have kK:=hP.same sx;have Cn:=Ck.trans sx;have Co:=sx _ _ rH;have Pj:1<=(bE 0 0 rc).length/\(bE 0 0 rc).length<=120000:=by
    have h1:=wj rc.length;rw[List.take_length] at h1;have h2:=zL (s:=0) rc 0 0 0 (λc hc=>by have:=(bG c hc).1;lia) (by lia) (by lia) (by rw[List.getD_eq_getElem?_getD,List.getElem?_eq_getElem (show 0<rc.length by lia)];have:=(bG _ (List.getElem_mem (show 0<rc.length by lia))).1;show 0<rc[0] - 0;lia)
    have:=ku h2;lia
   have nd:=zK (s:=0) rc 0;have mem:=Ai (s:=0) rc 0
   replace kK:c7 K A.aR H' p ⟨rc,bz,sk,sw,bE 0 0 rc⟩ (a1::a2::a3::a4::we):=kK
   generalize bE 0 0 rc=nc at *
   clear sx hP Ck rH wj;obtain⟨wm,b1,b2,b3,b4,Lo,fs,nH,hA⟩:=id kK;refine⟨A.aR,wm,fs,hA.o,by simp,hA.m2,A.aR,p,_,_,rfl,kK,_,.inl ie.sq,_,_,.int (nc.length:Int),rfl,.int _,by rw[List.length_map,ie.n];exact .int _,λG0 t0=>⟨true,rfl,ite_no (by decide) ?_⟩⟩
   have Cp:=kK.same t0;have Cq:=Cn.trans t0;have Cr:=t0 _ _ Co;have kL:=ie.same t0;clear kK Cn Co ie hA nH;have Cs:=kL.n;refine zw ?_;walk_at "rdm";have lm:(ts.map V.ref).length=nc.length:=by rw[List.length_map,Cs]
   refine⟨_,.inl kL.sq,_,.inl kL.sq,?_⟩;simp only[lm];refine⟨by lia,by lia,by lia,by lia,λlr n wu n1 n2=>⟨_,.inl ((ak.put wu).seq kL.sq),?_⟩⟩
   simp only[lm];intro p1 bX;refine⟨_,ak.put bX _ _ aF,by rw[List.length_map,List.length_range];lia,λp2 fJ=>?_⟩
   obtain⟨LL,wz⟩:∃LL,LL=(List.range n).map (λ(k:Nat)=>V.int (0+(k:Int)*(1+(nc.length:Int) / 200)))++[V.int ((nc.length:Int) - 1)]:=⟨_,rfl⟩;have all:∀(i:Nat) (x:V),LL[i]? = some x->∃k:Nat,x = .int (k:Int)/\k<nc.length:=λi x e=>by
    rw[wz] at e;by_cases hi:i<n
    ·rw[List.getElem?_append_left (by rw[List.length_map,List.length_range];exact hi),List.getElem?_map,List.getElem?_range hi] at e
     cases e;have:=n2 i hi;exact⟨(0+(i:Int)*(1+(nc.length:Int) / 200)).toNat,by rw[Int.toNat_of_nonneg this.1],by lia⟩
    ·rw[List.getElem?_append_right (by rw[List.length_map,List.length_range];lia)] at e
     have hl:=ku e;rw[List.length_singleton] at hl;have h0:i - ((List.range n).map (λ(k:Nat)=>V.int (0+(k:Int)*(1+(nc.length:Int) / 200)))).length=0:=by lia
     rw[h0] at e;cases e;exact⟨nc.length - 1,by congr 1;lia,by lia⟩
   rw[← wz];have g1:=ak.put (o:=HO.lst ((List.range n).map (λ(k:Nat)=>V.int (0+(k:Int)*(1+(nc.length:Int) / 200))))) wu;have g2:=ak.put (o:=HO.lst [V.int ((nc.length:Int) - 1)]) bX;have g3:=ak.put (o:=HO.lst LL) fJ;have nM:=(g1.trans g2).trans g3;have wA:=@aF (upd (upd G0 lr (HO.lst ((List.range n).map (λ(k:Nat)=>V.int (0+(k:Int)*(1+(nc.length:Int) / 200)))))) p1 (HO.lst [V.int ((nc.length:Int) - 1)])) p2 (HO.lst LL);have wB:=Cp.same nM;have wC:=Cq.trans nM;have Ct:=nM _ _ Cr;have wD:=kL.same nM;generalize upd (upd (upd G0 lr (HO.lst ((List.range n).map (λ(k:Nat)=>V.int (0+(k:Int)*(1+(nc.length:Int) / 200)))))) p1 (HO.lst [V.int ((nc.length:Int) - 1)])) p2 (HO.lst LL)=GG at *
   clear Cp Cq Cr kL g1 g2 g3 nM wz n1 n2 wu bX fJ t0;refine lP.by p2 LL (λi σ G'=>∃(x8:Option V),σ = [some (.ref a),some (.ref za),some (.ref ca),some (.int bz),some (.int sk),some (.ref p),some (.ref S),x7,x8,none,none,none]/\ak GG G') (aD.of wA) ⟨none,rfl,ak.refl _⟩ (by rintro i σ G' _ ⟨_,rfl,s⟩;exact s.seq (aD.of wA)) ?_ ?_
   ·rintro i x σ G' N hN hx ⟨x8,rfl,sx⟩;obtain⟨k,rfl,hk⟩:=all i x hx;have kM:=wB.same sx;have kN:=wD.same sx;obtain⟨wm,b1,b2,b3,b4,Lo,fs,nH,hA⟩:=id kM;have Cu:k<ts.length:=by rw[Cs];exact hk
    have ek:(ts.map V.ref)[k]? = some (V.ref ts[k]):=by rw[List.getElem?_map,List.getElem?_eq_getElem Cu];rfl
    have enc:=List.getElem?_eq_getElem hk;have jk:=kN.t k _ _ (List.getElem?_eq_getElem Cu) enc;walk_at "rdm";refine⟨A.aR,wm,fs,hA.o,by simp,hA.m9,A.aR,p,_,_,(k:Int),rfl,kM,λ_ _ t q1 e1 e2=>?_,λbad=>absurd ⟨by lia,by show (k:Int)<(nc.length:Int);lia⟩ bad⟩
    have e1:nc[k]? = some q1:=e1;rw[enc] at e1;cases e1;refine⟨_,kN.sq,_,fY ek,_,_,.tup [.int nc[k].1,.int nc[k].2],rfl,Rep.iJ (n:=3) e2 ⟨.int _,.int _,trivial⟩,Rep.iJ (n:=3) jk ⟨.int _,.int _,trivial⟩,λG1 t1=>⟨true,rfl,ite_no (by decide) ?_⟩⟩
    have Cv:=kM.same t1;have Cw:=kN.same t1;have Cy:=t1 _ _ jk;obtain⟨Lp,c1,c2,c3,c4,Pk,Lq,_,hB⟩:=id Cv;obtain⟨j,hj,m1,m2,m3⟩:=mem nc[k] (List.getElem_mem hk);have inr:0<=nc[k].1/\nc[k].1<(rc.length:Int)/\0<=nc[k].2/\nc[k].2<rc.getD nc[k].1.toNat 0:=⟨by lia,by lia,m2,by rw[m1,show ((0+j:Nat):Int).toNat=j by lia];lia⟩
    refine⟨A.aR,Lp,Lq,hB.o,by simp,hB.gU,_,Cw.sq,_,fY ek,_,rfl,_,bV.of Cy,_,rfl,_,Cw.sq,_,fY ek,_,rfl,_,bV.of Cy,_,rfl,A.aR,p,_,_,nc[k].1,nc[k].2,rfl,by simp,Cv,λ_ G2 t2=>?_,λbad=>absurd inr bad⟩
    have en:(bZ (jv nc) (kT (nc[k].1,nc[k].2))).getD .aC=V.int (k:Int):=by
     rw[show (nc[k].1,nc[k].2)=nc[k] from rfl,GP nd enc];rfl
    show zA K [(bZ (jv nc) (kT (nc[k].1,nc[k].2))).getD .aC,_] _ _ _;rw[en];exact⟨_,_,.int (k:Int),rfl,.int _,.int _,λG3 t3=>⟨true,rfl,ite_no (by decide) (hN _ _ ⟨_,rfl,((sx.trans t1).trans t2).trans t3⟩)⟩⟩
   ·rintro σ G' ⟨x8,rfl,sx⟩
    show nY _ _ _ _ _;wp_walk using kj,dO;refine⟨ns,(wC.trans sx).seq hS,hl,?_⟩;have f0:=Gb (eO ns 5) 0;obtain⟨cy,Cz,Pn⟩:∃cy,1+mix (eO ns 5) 0=cy/\1<=cy:=⟨_,rfl,by lia⟩
    rw[Cz];clear Cz f0;have kM:=wB.same sx;have Lr:=wC.trans sx;have Ls:=sx _ _ Ct;have kN:=wD.same sx;clear wB wC Ct wD sx wA all;refine zw ?_;walk_at "rdm";refine⟨_,.inl kN.sq,_,.inl kN.sq,?_⟩;simp only[lm];intro p1 bX;have g1:=ak.put (o:=HO.lst [V.int (-1),V.int (0 - cy),V.int (nc.length:Int),V.int ((nc.length:Int)+cy)]) bX;refine lP.by p1 [V.int (-1),V.int (0 - cy),V.int (nc.length:Int),V.int ((nc.length:Int)+cy)] (λi σ G=>∃(wF:Option V),σ = [some (.ref a),some (.ref za),some (.ref ca),some (.int bz),some (.int sk),some (.ref p),some (.ref S),x7,x8,some (.int cy),wF,none]/\ak G' G/\G p1=some (.lst [V.int (-1),V.int (0 - cy),V.int (nc.length:Int),V.int ((nc.length:Int)+cy)])) (aD.of aF) ⟨none,rfl,g1,aF⟩ (by rintro i σ G _ ⟨_,rfl,_,s⟩;exact aD.of s) ?_ ?_
    ·rintro i x σ G N hN hx ⟨wF,rfl,sx,CA⟩;obtain⟨k,rfl,bad⟩:∃k:Int,x = .int k/\¬ (0<=k/\k<(nc.length:Int)):=by
      rcases i with _ | _ | _ | _ | i
      ·cases hx;exact⟨_,rfl,by lia⟩
      ·cases hx;exact⟨_,rfl,by lia⟩
      ·cases hx;exact⟨_,rfl,by lia⟩
      ·cases hx;exact⟨_,rfl,by lia⟩
      ·exact nomatch hx
     walk_at "rdm";exact⟨A.aR,p,_,_,k,rfl,by simp,kM.same sx,bad,λG1 t1=>⟨true,rfl,ite_no (by decide) (hN _ _ ⟨_,rfl,sx.trans t1,t1 _ _ CA⟩)⟩⟩
    ·rintro σ G ⟨wF,rfl,sx,CA⟩
     show nY _ _ _ _ _;wp_walk using kj,dO;have nN:=sx _ _ Ls;have Lu:=kM.same sx;refine⟨ns,(Lr.trans sx).seq hS,hl,_,.inl (aD.of nN),?_⟩;simp only[List.length_map];obtain⟨rg,Lv,CB⟩:∃rg:Nat,mix (eO ns 6) 0 % (rc.length:Int)=(rg:Int)/\rg<rc.length:=by
      have m1:=Int.emod_nonneg (mix (eO ns 6) 0) (show (rc.length:Int)≠0 by lia)
      have m2:=Int.emod_lt_of_pos (mix (eO ns 6) 0) (show 0<(rc.length:Int) by lia)
      exact⟨(mix (eO ns 6) 0 % (rc.length:Int)).toNat,by lia,by lia⟩
     rw[Lv];have CC:(rc.map V.int)[rg]? = some (V.int rc[rg]):=by rw[List.getElem?_map,List.getElem?_eq_getElem CB];rfl
     have eD:rc.getD rg 0=rc[rg]:=by rw[List.getD_eq_getElem?_getD,List.getElem?_eq_getElem CB];rfl
     refine⟨by lia,λq1 n1 q2 n2=>?_⟩
     have k1:=ak.put (o:=HO.tup [V.int (-1),V.int 0]) n1;have k2:=k1.trans (ak.put (o:=HO.tup [V.int (0 - cy),V.int 0]) n2);refine⟨_,.inl (aD.of (k2 _ _ nN)),?_⟩;simp only[List.length_map];intro q3 n3;have k3:=k2.trans (ak.put (o:=HO.tup [V.int (rc.length:Int),V.int 0]) n3);refine⟨_,.inl (aD.of (k3 _ _ nN)),?_⟩;simp only[List.length_map];intro q4 n4 q5 n5 q6 n6 q7 n7;have CD:=ak.put (o:=HO.tup [V.int ((rc.length:Int)+cy),V.int 0]) n4;have wG:=ak.put (o:=HO.lst [V.ref q1,V.ref q2,V.ref q3,V.ref q4]) n5;have rJ:=ak.put (o:=HO.tup [V.int (rg:Int),V.int (-1)]) n6;have nO:=ak.put (o:=HO.tup [V.int (rg:Int),V.int (0 - cy)]) n7;have k7:=(((k3.trans CD).trans wG).trans rJ).trans nO;refine⟨_,aD.of (k7 _ _ nN),_,fY CC,λq8 n8=>?_⟩;have jR:=ak.put (o:=HO.tup [V.int (rg:Int),V.int rc[rg]]) n8;refine⟨_,aD.of ((k7.trans jR) _ _ nN),_,fY CC,_,rfl,λq9 n9 CF Lw=>?_⟩;have jS:=ak.put (o:=HO.tup [V.int (rg:Int),V.int (rc[rg] + cy)]) n9;have iU:=ak.put (o:=HO.lst [V.ref q6,V.ref q7,V.ref q8,V.ref q9]) Lw;have Lx:=((k7.trans jR).trans jS).trans iU;refine⟨_,iU _ _ (jS _ _ (jR _ _ (nO _ _ (rJ _ _ aF)))),by simp,λwH Ly=>?_⟩
     have jT:=ak.put (o:=HO.lst [V.ref q1,V.ref q2,V.ref q3,V.ref q4,V.ref q6,V.ref q7,V.ref q8,V.ref q9]) Ly;have Lz:=Lx.trans jT;have LA:=Lu.same Lz;have hL:=@aF (upd (upd (upd (upd (upd (upd (upd (upd (upd (upd G q1 (HO.tup [V.int (-1),V.int 0])) q2 (HO.tup [V.int (0 - cy),V.int 0])) q3 (HO.tup [V.int (rc.length:Int),V.int 0])) q4 (HO.tup [V.int ((rc.length:Int)+cy),V.int 0])) q5 (HO.lst [V.ref q1,V.ref q2,V.ref q3,V.ref q4])) q6 (HO.tup [V.int (rg:Int),V.int (-1)])) q7 (HO.tup [V.int (rg:Int),V.int (0 - cy)])) q8 (HO.tup [V.int (rg:Int),V.int rc[rg]])) q9 (HO.tup [V.int (rg:Int),V.int (rc[rg] + cy)])) CF (HO.lst [V.ref q6,V.ref q7,V.ref q8,V.ref q9])) wH (HO.lst [V.ref q1,V.ref q2,V.ref q3,V.ref q4,V.ref q6,V.ref q7,V.ref q8,V.ref q9]);have z9:=jT _ _ (iU _ _ (@aF _ q9 (HO.tup [V.int (rg:Int),V.int (rc[rg] + cy)])));have z8:=jT _ _ (iU _ _ (jS _ _ (@aF _ q8 (HO.tup [V.int (rg:Int),V.int rc[rg]]))));have z7:=jT _ _ (iU _ _ (jS _ _ (jR _ _ (@aF _ q7 (HO.tup [V.int (rg:Int),V.int (0 - cy)])))));have z6:=jT _ _ (iU _ _ (jS _ _ (jR _ _ (nO _ _ (@aF _ q6 (HO.tup [V.int (rg:Int),V.int (-1)]))))));have z4:=jT _ _ (iU _ _ (jS _ _ (jR _ _ (nO _ _ (rJ _ _ (wG _ _ (@aF _ q4 (HO.tup [V.int ((rc.length:Int)+cy),V.int 0]))))))));have kr:=((((((CD.trans wG).trans rJ).trans nO).trans jR).trans jS).trans iU).trans jT;have z3:=kr _ _ (@aF _ q3 (HO.tup [V.int (rc.length:Int),V.int 0]));have z2:=kr _ _ ((ak.put (o:=HO.tup [V.int (rc.length:Int),V.int 0]) n3) _ _ (@aF _ q2 (HO.tup [V.int (0 - cy),V.int 0])));have z1:=kr _ _ ((ak.put (o:=HO.tup [V.int (rc.length:Int),V.int 0]) n3) _ _ ((ak.put (o:=HO.tup [V.int (0 - cy),V.int 0]) n2) _ _ (@aF _ q1 (HO.tup [V.int (-1),V.int 0]))));have LB:([V.ref q1,V.ref q2,V.ref q3,V.ref q4]++[V.ref q6,V.ref q7,V.ref q8,V.ref q9]:List V) = [V.ref q1,V.ref q2,V.ref q3,V.ref q4,V.ref q6,V.ref q7,V.ref q8,V.ref q9]:=rfl
     try rw[LB]
     generalize upd (upd (upd (upd (upd (upd (upd (upd (upd (upd (upd G q1 (HO.tup [V.int (-1),V.int 0])) q2 (HO.tup [V.int (0 - cy),V.int 0])) q3 (HO.tup [V.int (rc.length:Int),V.int 0])) q4 (HO.tup [V.int ((rc.length:Int)+cy),V.int 0])) q5 (HO.lst [V.ref q1,V.ref q2,V.ref q3,V.ref q4])) q6 (HO.tup [V.int (rg:Int),V.int (-1)])) q7 (HO.tup [V.int (rg:Int),V.int (0 - cy)])) q8 (HO.tup [V.int (rg:Int),V.int rc[rg]])) q9 (HO.tup [V.int (rg:Int),V.int (rc[rg] + cy)])) CF (HO.lst [V.ref q6,V.ref q7,V.ref q8,V.ref q9])) wH (HO.lst [V.ref q1,V.ref q2,V.ref q3,V.ref q4,V.ref q6,V.ref q7,V.ref q8,V.ref q9])=Z at *
     have LC:∀(i:Nat) (x:V),([V.ref q1,V.ref q2,V.ref q3,V.ref q4,V.ref q6,V.ref q7,V.ref q8,V.ref q9]:List V)[i]? = some x->∃(t:Addr) (r c:Int),x = .ref t/\Z t=some (.tup [.int r,.int c])/\¬ (0<=r/\r<(rc.length:Int)/\0<=c/\c<rc.getD r.toNat 0):=λi x e=>by
      have CG:rc.getD ((rg:Int)).toNat 0=rc[rg]:=by rw[Int.toNat_natCast];exact eD
      rcases i with _ | _ | _ | _ | _ | _ | _ | _ | i
      ·cases e;exact⟨_,_,_,rfl,z1,by lia⟩
      ·cases e;exact⟨_,_,_,rfl,z2,by lia⟩
      ·cases e;exact⟨_,_,_,rfl,z3,by lia⟩
      ·cases e;exact⟨_,_,_,rfl,z4,by lia⟩
      ·cases e;exact⟨_,_,_,rfl,z6,by lia⟩
      ·cases e;exact⟨_,_,_,rfl,z7,by lia⟩
      ·cases e;exact⟨_,_,_,rfl,z8,by rw[CG];lia⟩
      ·cases e;exact⟨_,_,_,rfl,z9,by rw[CG];lia⟩
      ·exact nomatch e
     refine zx wH [V.ref q1,V.ref q2,V.ref q3,V.ref q4,V.ref q6,V.ref q7,V.ref q8,V.ref q9] (λD i ys az H2=>∃(u:Option V),ys=(List.replicate i true).map V.bl/\az = [u,some (.ref p)]/\H2 D=some (.lst ys)/\ak Z H2/\Z D=none/\i<=8) (λQ q=>?_) (aD.of hL) ?_ ?_ ?_ ?_
     ·walk_at "rdm";exact q
     ·intro D hD;exact⟨none,rfl,rfl,aF,ak.put hD,hD,by lia⟩
     ·rintro D i ys az H2 ⟨u,rfl,rfl,e1,e2,e3,e4⟩;exact⟨e1,lF (by rw[List.length_map,List.length_replicate];lia),e2.seq (aD.of hL)⟩
     ·rintro D i x ys az H2 N hN hx ⟨u,rfl,rfl,e1,e2,e3,e4⟩;have Po:i<8:=ku hx;obtain⟨t,r,c,rfl,ht,bad⟩:=LC i x hx;walk_at "rdm";refine⟨A.aR,p,t,_,_,r,c,rfl,by simp,LA.same e2,e2 _ _ ht,bad,λH3 t3=>⟨t3 _ _ e1,hN _ _ _ ⟨_,?_,rfl,aF,ak.put2 (e2.trans t3) e3,e3,by lia⟩⟩⟩
      rw[List.replicate_succ',List.map_append];rfl
     ·rintro D ys az H2 ⟨u,rfl,rfl,e1,e2,e3,e4⟩;exact⟨_,rfl,_,aD.of e1,q _⟩
end
theorem rK{C:List Value->Prop}(h:C []):∀us:List Value,us.length=0->C us:=λ| [],_=>h
theorem gm{n:Nat}{C:List Value->Prop}(h:∀a us,us.length=n->C (a::us)):∀us:List Value,us.length=n+1->C us:=λ| a::us,e=>h a us (Nat.succ.inj e)
theorem LD{K:W.Frag}{fd:FuncData}{ps:List Str}{ds:List Value}(n:Nat)(e:n+ds.length=ps.length)(h:∀s,K.In s.heap->∀us:List Value,us.length=n->BindsTo s fd ⟨us,[]⟩ (ps.zip (us++ds))):Binds K fd ps ds:=λs us X hl=>h s X us (by rw[List.length_append] at hl;lia)
theorem iV{C:List Value->Prop}(h:∀a0,C [a0]):∀us:List Value,us.length=1->C us:=gm λa0=>rK (h a0)
theorem fK{C:List Value->Prop}(h:∀a0 a1,C [a0,a1]):∀us:List Value,us.length=2->C us:=gm λa0=>gm λa1=>rK (h a0 a1)
theorem wI{C:List Value->Prop}(h:∀a0 a1 a2,C [a0,a1,a2]):∀us:List Value,us.length=3->C us:=gm λa0=>gm λa1=>gm λa2=>rK (h a0 a1 a2)
theorem LF{C:List Value->Prop}(h:∀a0 a1 a2 a3 a4,C [a0,a1,a2,a3,a4]):∀us:List Value,us.length=5->C us:=gm λa0=>gm λa1=>gm λa2=>gm λa3=>gm λa4=>rK (h a0 a1 a2 a3 a4)
theorem all_mk{l:W.OpenLaw}{w:World}{K:W.Frag}{h:Heap}{mg:Str->Option Value}{fa:Addr}{jU rL wJ wK wL wM wN wO wQ rM rN rO rP rQ rR wR wU wV wW wX wY wZ w4 w5 w6:Addr}{LG w_ LH LI xg:Option Addr}{LJ LK LM:Array (Option Value)}{LN xh xj xm rS xq LO LP xr xu xw rT xx:Value}{LQ:Nat}{uE uF CH CI CJ CK CL CM CN CO CQ CS CT CU CV CW CY CZ C1 C3 C4 C5:FuncData}{aR:Addr}{dj:Addr}{eX:Addr}{aO:Addr}{mS:Tok}{mT:Tok}{mU:Tok}{mV:Tok}{mW:Tok}{mX:Tok}(X:K.In h)(G:h.Ns mainGlobals mg)(LR:mg "law" = some (.ref fa))
  (LS:W.nsIn K mainGlobals "ArmError" = some (some (.ref dj)))
  (LU:W.nsIn K mainGlobals "NoPlate" = some (some (.ref eX)))
  (LV:W.nsIn K mainGlobals "NoCell" = some (some (.ref aO)))
  (LW:W.nsIn K mainGlobals "Plate" = some (some (.ref aR)))
  (Pp:W.findIn K (.ref aO) "__init__" = some (some (.ref jU)))
  (Pq:W.isFn K (.ref jU)=true)
  (LX:K.lookup jU=some ⟨LN,LG,.func (W.fnOf "__init__" "NoCell.__init__" (e8 fG) (dN fG) (bg fG) (.ref rL) xh xj xm w_ rS xq),LJ⟩)
  (LY:K.lookup rL=some ⟨LO,LH,.seq #[.none] LQ,LK⟩)
  (LZ:W.codeIn K rS "NoCell.__init__" = true)
  (L4:W.keepIn K (.ref jU)=true)
  (L5:W.nsIn K mainGlobals "check_zones" = some (some (.ref wJ)))
  (F1:aW K "check_zones" "check_zones" uQ wJ uE)
  (L6:W.nsIn K mainGlobals "check_turning" = some (some (.ref wK)))
  (F2:aW K "check_turning" "check_turning" uR wK uF)
  (L7:W.nsIn K mainGlobals "check_swing" = some (some (.ref wL)))
  (F3:aW K "check_swing" "check_swing" uS wL CH)
  (L8:W.nsIn K mainGlobals "check_no_detour" = some (some (.ref wM)))
  (F4:aW K "check_no_detour" "check_no_detour" uT wM CI)
  (L_:W.nsIn K mainGlobals "cells_by_ring" = some (some (.ref wN)))
  (F5:aW K "cells_by_ring" "cells_by_ring" uU wN CJ)
  (Ma:W.nsIn K mainGlobals "cells_by_number" = some (some (.ref wO)))
  (F6:aW K "cells_by_number" "cells_by_number" uW wO CK)
  (Mb:W.nsIn K mainGlobals "numbers_by_cell" = some (some (.ref wQ)))
  (F7:aW K "numbers_by_cell" "numbers_by_cell" uX wQ CL)
  (Mc:W.findIn K (.ref aR) "__init__" = some (some (.ref rM)))
  (Me:W.isFn K (.ref rM)=true)
  (F8:aW K "__init__" "Plate.__init__" uY rM CM)
  (Mf:W.findIn K (.ref aR) "rings" = some (some (.ref rN)))
  (Mg:W.isFn K (.ref rN)=true)
  (F9:aW K "rings" "Plate.rings" uZ rN CN)
  (Mh:W.findIn K (.ref aR) "total" = some (some (.ref rO)))
  (Mi:W.isFn K (.ref rO)=true)
  (xy:aW K "total" "Plate.total" u0 rO CO)
  (Mj:W.findIn K (.ref aR) "has_cell" = some (some (.ref rP)))
  (Ml:W.isFn K (.ref rP)=true)
  (xA:aW K "has_cell" "Plate.has_cell" u5 rP CQ)
  (Mm:W.findIn K (.ref aR) "cell_at" = some (some (.ref rQ)))
  (Mn:W.isFn K (.ref rQ)=true)
  (xB:aW K "cell_at" "Plate.cell_at" u6 rQ CS)
  (Mp:W.findIn K (.ref aR) "number_of" = some (some (.ref rR)))
  (Mq:W.isFn K (.ref rR)=true)
  (xC:aW K "number_of" "Plate.number_of" u7 rR CT)
  (Mr:W.nsIn K mainGlobals "_law_at" = some (some (.ref wR)))
  (C6:aW K "_law_at" "_law_at" u9 wR CU)
  (Ms:W.nsIn K mainGlobals "_law_same" = some (some (.ref wU)))
  (C7:aW K "_law_same" "_law_same" u_ wU CV)
  (Mt:W.nsIn K mainGlobals "_law_mix" = some (some (.ref wV)))
  (C8:aW K "_law_mix" "_law_mix" vc wV CW)
  (Mu:W.nsIn K mainGlobals "_law_zones" = some (some (.ref wW)))
  (C9:aW K "_law_zones" "_law_zones" vd wW CY)
  (Mv:W.nsIn K mainGlobals "_law_counts" = some (some (.ref wX)))
  (C_:aW K "_law_counts" "_law_counts" ve wX CZ)
  (Mw:W.nsIn K mainGlobals "_law_lap" = some (some (.ref wY)))
  (Dc:aW K "_law_lap" "_law_lap" vf wY C1)
  (Mx:W.nsIn K mainGlobals "_law_swing" = some (some (.ref wZ)))
  (Dd:aW K "_law_swing" "_law_swing" vg wZ C3)
  (My:W.nsIn K mainGlobals "_law_no_number" = some (some (.ref w4)))
  (De:aW K "_law_no_number" "_law_no_number" vh w4 C4)
  (Mz:W.nsIn K mainGlobals "_law_no_pair" = some (some (.ref w5)))
  (Df:aW K "_law_no_pair" "_law_no_pair" vj w5 C5)
  (Dg:W.nsIn K mainGlobals "law" = some (some (.ref w6)))
  (MA:K.lookup w6=some ⟨LP,LI,.func (W.fnOf "law" "law" (e8 fH) (dN fH) (bg fH) .none xr xu xw xg rT xx),LM⟩)
  (MB:W.codeIn K rT "law" = true)
  (MC:W.keepIn K (.ref w6)=true)
  (MD:W.plainGet K aR Str.empty=true)
  (ME:W.hasDictIn K aR=true)
  (MF:W.plainOver K aR=true)
  (MG:W.findIn K (.ref aR) "__setattr__" = some (some (.builtin "object.__setattr__")))
  (MJ:W.makesIn K aR=true)
  (MK:W.keepIn K (.ref aR)=true)
  (qX:W.findIn K (.ref aR) "ring_cells" = some none)
  (qY:W.findIn K (.ref aR) "lap" = some none)
  (qZ:W.findIn K (.ref aR) "skew" = some none)
  (q_:W.findIn K (.ref aR) "swing" = some none)
  (rm:W.findIn K (.ref aR) "number_cells" = some none)
  (rq:W.findIn K (.ref aR) "cell_numbers" = some none)
  (ML:W.nsIn K mainGlobals "MOST_ZONES" = some (some (.int 5 mS)))
  (MM:W.nsIn K mainGlobals "MOST_RINGS_IN_ZONE" = some (some (.int 40 mT)))
  (MN:W.nsIn K mainGlobals "MOST_CELLS_IN_RING" = some (some (.int 60 mU)))
  (MO:W.nsIn K mainGlobals "LEAST_RINGS" = some (some (.int 2 mV)))
  (MP:W.nsIn K mainGlobals "MOST_RINGS" = some (some (.int 120 mW)))
  (MQ:W.nsIn K mainGlobals "MOST_BEATS" = some (some (.int 1000000000 mX)))
  (rz:W.nsIn K mainGlobals "all" = some none)
  (mY:W.nsIn K mainGlobals "bool" = some none)
  (mZ:W.nsIn K mainGlobals "enumerate" = some none)
  (m_:W.nsIn K mainGlobals "int" = some none)
  (cX:W.nsIn K mainGlobals "isinstance" = some none)
  (cj:W.nsIn K mainGlobals "len" = some none)
  (iR:W.nsIn K mainGlobals "list" = some none)
  (eg:W.nsIn K mainGlobals "range" = some none)
  (rA:W.nsIn K mainGlobals "sorted" = some none)
  (ng:W.nsIn K mainGlobals "str" = some none)
  (rB:W.nsIn K mainGlobals "sum" = some none)
  (kH:W.nsIn K mainGlobals "tuple" = some none)
  (MR:W.specialIn K (.ref dj) "__getattribute__" = some (some (.builtin "type.__getattribute__")))
  (MS:W.readsIn K dj (.type "type")=true)
  (MT:W.findCls K (.ref dj) (.type "type") "__init__" = some (.val (.builtin "ValueError.__init__")))
  (rD:W.excIn K dj [.type "ValueError",.type "Exception",.type "BaseException",.type "object"] "ValueError.__new__" = true)
  (rE:W.excIn K eX [.type "ValueError",.type "Exception",.type "BaseException",.type "object"] "ValueError.__new__" = true)
  (Dh:gX K aO [.type "ValueError",.type "Exception",.type "BaseException",.type "object"] "ValueError.__new__" = true)
  (MU:lX K aO jU=true)
  (MV:W.typeIn K (.ref jU)=some (.type "function"))
  (MW:W.findIn K (.ref aO) "__setattr__" = some (some (.builtin "object.__setattr__")))
  (MX:W.hasDictIn K aO=true)
  (MY:W.mroIn K aO (.type "object")=some true)
  (MZ:(W.clsIn K aO).any (λcd=>lW [.type "ValueError",.type "Exception",.type "BaseException",.type "object"] cd.mro)=true)
  (kI:W.findIn K (.ref aO) "cell" = some none)
  (kJ:W.findIn K (.ref aO) "ask" = some none)
  (M0:W.findIn K (.ref aO) "__getattribute__" = some (some (.builtin "BaseException.__getattribute__")))
  (M3:W.findIn K (.ref aO) "__getattr__" = some none)
  (M4:W.mroIn K aO (.type "BaseException")=some true)
  (Di:W.mroIn K aO (.type "object")=some true)
  (M5:W.findIn K (.ref aO) "__class__" = some (some (.builtin "object.__class__")))
  (nA:W.kitOne K (.ref aO) (.type "ValueError")=some true)
  (nu:W.kitOne K (.ref aO) (.ref dj)=some true)
  (M6:W.mroIn K aO (.ref dj)=some true)
  (nv:W.kitOne K (.ref aO) (.ref eX)=some false)
  (M7:W.mroIn K aO (.ref eX)=some false)
  (vN:W.kitOne K (.ref aO) (.ref aO)=some true)
  (M8:W.mroIn K aO (.ref aO)=some true)
  (M9:W.specialIn K (.builtin "object.__class__") "__get__" = some (some (.builtin "getset_descriptor.__get__")))
  (M_:W.takesIn K (.builtin "object.__class__")=some true)
  (ni:W.nsIn K mainGlobals "ValueError" = some none)
  : ∃fd:FuncData,(∀(s:Shared) (v:Value),BindsTo s fd ⟨[v],[]⟩ [("_law_script",v)])/\∀base:Heap,K.In base->base.Ns mainGlobals mg->bh l.prog w K mg base bL 10 fa fd ["_law_script"] (pH K):=by
 have e:=LR.symm.trans (W.mg_of X G Dg);cases e;have F0:=HV (st:=fG) LX LZ L4;have Dj:=fun_mk (st:=fH) MA MB MC;have Na:Binds K (W.fnOf "__init__" "NoCell.__init__" (e8 fG) (dN fG) (bg fG) (.ref rL) xh xj xm w_ rS xq) ["self", "cell", "ask"] [.none]:=LD 2 rfl λs X=>fK λ_ _=>W.binds_K X rfl LY rfl rfl rfl;have b1:=F1.binds (ps:=["zones"]) λ_ _ _ _ _ _=>iV (λ_=>rfl)
 have b2:=F2.binds (ps:=["zones", "lap", "skew"]) λ_ _ _ _ _ _=>wI (λ_ _ _=>rfl);have b3:=F3.binds (ps:=["swing", "rings"]) λ_ _ _ _ _ _=>fK (λ_ _=>rfl);have b4:=F4.binds (ps:=["swing"]) λ_ _ _ _ _ _=>iV (λ_=>rfl)
 have b5:=F5.binds (ps:=["zones"]) λ_ _ _ _ _ _=>iV (λ_=>rfl)
 have b6:=F6.binds (ps:=["ring_cells", "spares"]) λ_ _ _ _ _ _=>fK (λ_ _=>rfl);have b7:=F7.binds (ps:=["number_cells"]) λ_ _ _ _ _ _=>iV (λ_=>rfl)
 have b8:=F8.binds (ps:=["self", "zones", "lap", "skew", "swing"]) λ_ _ _ _ _ _=>LF (λ_ _ _ _ _=>rfl);have b9:=F9.binds (ps:=["self"]) λ_ _ _ _ _ _=>iV (λ_=>rfl)
 have Nb:=xy.binds (ps:=["self"]) λ_ _ _ _ _ _=>iV (λ_=>rfl)
 have Nc:=xA.binds (ps:=["self", "ring", "place"]) λ_ _ _ _ _ _=>wI (λ_ _ _=>rfl);have Nd:=xB.binds (ps:=["self", "number"]) λ_ _ _ _ _ _=>fK (λ_ _=>rfl);have Nf:=xC.binds (ps:=["self", "ring", "place"]) λ_ _ _ _ _ _=>wI (λ_ _ _=>rfl);have Ng:=C6.binds (ps:=["_law_script", "_law_k"]) λ_ _ _ _ _ _=>fK (λ_ _=>rfl);have Nh:=C7.binds (ps:=["_law_found", "_law_due"]) λ_ _ _ _ _ _=>fK (λ_ _=>rfl);have Ni:=C8.binds (ps:=["_law_cell", "_law_k"]) λ_ _ _ _ _ _=>fK (λ_ _=>rfl);have Nj:=C9.binds (ps:=["_law_a", "_law_b"]) λ_ _ _ _ _ _=>fK (λ_ _=>rfl);have Nk:=C_.binds (ps:=["_law_zones_here"]) λ_ _ _ _ _ _=>iV (λ_=>rfl)
 have Nl:=Dc.binds (ps:=["_law_zones_here", "_law_cell"]) λ_ _ _ _ _ _=>fK (λ_ _=>rfl);have Nm:=Dd.binds (ps:=["_law_many", "_law_cell"]) λ_ _ _ _ _ _=>fK (λ_ _=>rfl);have Np:=De.binds (ps:=["_law_plate", "_law_number"]) λ_ _ _ _ _ _=>fK (λ_ _=>rfl);have Nq:=Df.binds (ps:=["_law_plate", "_law_pair"]) λ_ _ _ _ _ _=>fK (λ_ _=>rfl);have Nr:=Dj.binds (ps:=["_law_script"]) λ_ _ _ _ _ _=>iV (λ_=>rfl)
 let A:g9:={ p_:=jU,qa:=(W.fnOf "__init__" "NoCell.__init__" (e8 fG) (dN fG) (bg fG) (.ref rL) xh xj xm w_ rS xq),qb:=wJ,qc:=uE,qd:=wK,qg:=uF,qh:=wL,qj:=CH,qk:=wM,ql:=CI,qm:=wN,qo:=CJ,qp:=wO,qq:=CK,qu:=wQ,qw:=CL,qx:=rM,qy:=CM,mH:=rN,qz:=CN,mJ:=rO,qA:=CO,mK:=rP,qB:=CQ,mL:=rQ,qC:=CS,mO:=rR,qD:=CT,qE:=wR,qF:=CU,mQ:=wU,mR:=CV,qG:=wV,qH:=CW,qI:=wW,qJ:=CY,qK:=wX,qL:=CZ,qM:=wY,qN:=C1,qO:=wZ,qP:=C3,qQ:=w4,qR:=C4,qT:=w5,qU:=C5,qV:=fa,qW:=(W.fnOf "law" "law" (e8 fH) (dN fH) (bg fH) .none xr xu xw xg rT xx),aR:=aR,dj:=dj,eX:=eX,aO:=aO,mS:=mS,mT:=mT,mU:=mU,mV:=mV,mW:=mW,mX:=mX }
 have T:Tx K mg A:={ A6:=F0,vo:=Na,vp:=F1,A7:=b1,A8:=W.mg_of X G L5,vq:=F2,A9:=b2,A_:=W.mg_of X G L6,vt:=F3,Bb:=b3,Bc:=W.mg_of X G L7,vv:=F4,Bd:=b4,Be:=W.mg_of X G L8,vA:=F5,Bf:=b5,Bg:=W.mg_of X G L_,vB:=F6,Bh:=b6,Bj:=W.mg_of X G Ma,vC:=F7,Bk:=b7,Bl:=W.mg_of X G Mb,Bm:=F8,Bo:=b8,Bp:=F9,J8:=b9,Bq:=⟨Mf,Mg,F9.kp⟩,Br:=xy,Bs:=Nb,Bt:=⟨Mh,Mi,xy.kp⟩,Bu:=xA,Bv:=Nc,Bw:=⟨Mj,Ml,xA.kp⟩,Bx:=xB,vD:=Nd,By:=⟨Mm,Mn,xB.kp⟩,BA:=xC,vE:=Nf,BB:=⟨Mp,Mq,xC.kp⟩,g_:=C6,iO:=Ng,iP:=W.mg_of X G Mr,iQ:=C7,jK:=Nh,jL:=W.mg_of X G Ms,cD:=C8,cG:=Ni,cH:=W.mg_of X G Mt,vF:=C9,BC:=Nj,BD:=W.mg_of X G Mu,vG:=C_,BE:=Nk,BF:=W.mg_of X G Mv,vH:=Dc,BG:=Nl,BH:=W.mg_of X G Mw,vI:=Dd,BI:=Nm,BJ:=W.mg_of X G Mx,vJ:=De,BK:=Np,BL:=W.mg_of X G My,vK:=Df,BN:=Nq,BO:=W.mg_of X G Mz,BP:=Dj,J9:=Nr,J_:=W.mg_of X G Dg,jM:=⟨MD,ME,MF,MG⟩,BQ:=⟨MJ,Mc,Me,MK⟩,BR:=W.mg_of X G LW,qX:=qX,qY:=qY,qZ:=qZ,q_:=q_,rm:=rm,rq:=rq,BS:=W.mg_of X G ML,BU:=W.mg_of X G MM,BV:=W.mg_of X G MN,BW:=W.mg_of X G MO,BX:=W.mg_of X G MP,vL:=W.mg_of X G MQ,rz:=W.mg_none_of X G rz,mY:=W.mg_none_of X G mY,mZ:=W.mg_none_of X G mZ,m_:=W.mg_none_of X G m_,cX:=W.mg_none_of X G cX,cj:=W.mg_none_of X G cj,iR:=W.mg_none_of X G iR,eg:=W.mg_none_of X G eg,rA:=W.mg_none_of X G rA,ng:=W.mg_none_of X G ng,rB:=W.mg_none_of X G rB,kH:=W.mg_none_of X G kH,rC:=W.mg_of X G LS,rD:=rD,Ka:=e9.of rD (by decide),BY:=⟨MR,MS,MT,by decide⟩,vM:=W.mg_of X G LU,rE:=rE,Kc:=e9.of rE (by decide),nj:=W.mg_of X G LV,nk:=⟨_,_,Dh,by decide⟩,nq:=⟨Dh,MU,MV⟩,jN:=⟨MW,MX,MY,MZ⟩,kI:=kI,kJ:=kJ,gj:=⟨M0,M3,M4,Di,M5,M9,M_⟩,jO:=Hg Di,nA:=nA,nu:=nu,Ke:=ur M6,nv:=nv,Kf:=ur M7,vN:=vN,vO:=ur M8,ni:=W.mg_none_of X G ni }
 exact⟨(W.fnOf "law" "law" (e8 fH) (dN fH) (bg fH) .none xr xu xw xg rT xx),λs v=>.of_eq rfl,λbase _ _=>K9 T⟩
theorem walk{l:W.OpenLaw}{q:Program}{loose:List Str}{XP:(Str->Option Value)->Heap->Prop}{YP:World->Heap->Prop}{d:DefRec}{K:Params->W.Frag}(hn:l.most=some 63)(lE:d.params.defaults = [])
  (hY:∀(w:World) (h:Heap),YP w h->(K w.params).In h)
  (F:∀(w:World) (mg:Str->Option Value) (fa:Addr) (h:Heap),(K w.params).In h->h.Ns mainGlobals mg->mg d.name=some (.ref fa)->
   ∃fd:FuncData,(∀(s:Shared) (u:Value),BindsTo s fd ⟨[u],[]⟩ [("_law_script",u)])/\∀base:Heap,(K w.params).In base->base.Ns mainGlobals mg->bh l.prog w (K w.params) mg base bL 10 fa fd ["_law_script"] (pH (K w.params))) :
  W.WalkO q loose XP YP l.row.toRowW d [] (λf vs=>PySem.call f vs) :=
 _L.Fy (n:=63) (k:=10) (x := "_law_script") (CX:=λ_=>bL) (sp:=λw=>pH (K w.params)) hn (by decide) lE ⟨rfl,by decide,by decide⟩ hY F (λ_ _ a ns hl _ hS=>⟨a,ns,rfl,hS,hl,λ_=>rfl⟩) λ_ _ _ _ _ z=>z
end _W
/-! Pr names are taken,so Pu no fast copy is laid of Nt largest tables: Nt compiled file stays small -/
structure PySem.W.Fast:Prop where(tw12821549644970034102 tw16205036026410931846 tw9751561772898106267 tw8156065100959637623 tw6824225180286002698 tw13256777880493388149 tw2766084329950238811 tw10570228950067346309 tw12070631196107782315 tw14406676559044623152 tw9362479363892885316 tw2418313600991944023 tw10411046733830590194 tw16250191500218450058 tw1736094495299695233 tw14218566715851321186 tw8409923900930965620 tw8894857780970330585 tw6258790596401001816 tw18219878042945595297 tw672438474910443384 tw17209373368646298448 tw9658573039478477411 tw11292097970054937704 tw15369784622847625685 tw3165600156899408892 tw3509424098213836267 tw9580571634638322253 tw15734506231125044966 tw14535329508515195025 tw11900663322505368738 tw8269116163030357680 tw10755013179011983866 tw7268264416903610955 tw5248785876357599558 tw6035143413674476238 tw17147384365198264405 tw13302853541706625963 tw16403933391595178794 tw9088951603500016493 tw3001867056591178504 tw16053299027635164331 tw17059419323584767523 tw1156977878735400298 tw12550759726458675961 tw5786148574857246502 tw12549396561237626333 tw2965639857672207498 tw10899367058863975499 tw948226022670395448 tw9938705828880309650 tw1256686177962887322 tw9386546445805235895 tw15879020446909792017 tw10006978573961108815 tw13598107433415242709 tw15078374359047716848 tw5482545588589781169 tw15707130921593097085 tw2809565335922595768 tw12943470780688681174 tw7384734178565597892 tw8976878991545247185 tw13082480695759879760 tw14579848993751267715 tw17754939457080128506 tw12142159715343351316 tw2511693178983654395 tw12220590933133107030 tw6593140746327165623 tw4334295361632875175 tw15357625397353956468 tw6169074737881437011 tw5063931826862049026 tw11449576113268493801 tw2874185337925451781 tw9500384231203054477 tw14786343061579475607 tw3461518417143382370 tw2706691576569360893 tw14686573881936448793 tw14418213355700724078 tw6041129570803601784 tw16698850422202645749 tw2100085317172313965 tw3140664512946833418 tw95249441942610562 tw5320500840055467511 tw10241909595931563984 tw7739981829353253094 tw8947077287681787310 tw17993987121158897001 tw16652364877056626138 tw3315421512389648855 tw4725704814895596688 tw8519848474274758121 tw11965039233174811224 tw15036214511891757869 tw4576521645841550309 tw13317854309422901596 tw14704134073842344140 tw16889577139044465073 tw7271080207339917463 tw10197487538498072092 tw7899788650111713779 tw10640206931232651270 tw4539249422253915646 tw7806842377753854391 tw11295274380341240458 tw14470908360377784899 tw7945405711001679886 tw1544951779348075235 tw13871296799408840523 tw4870689888779413769 tw5701967911918687698 tw1528664873731706948 tw3656435148803344553 tw9012399746861962597 tw15175756232060114421 tw13425256695487203563 tw16757095236757032907 tw6823685219811580171 tw13410207015158523027 tw6765758387406500260 tw15047962247925747276 tw8582357329256573503 tw15506968315497484354 tw1919401458189425096 tw12900402272659811147 tw12793820718347900 tw11417108808428852198 tw3932632043364234045 tw15262470909588140361 tw15573633414532583971 tw12792520691460813124 tw12252522737152535516 tw18017465551960489215 tw581486050136473248 tw13055093803831543722 tw2633853621960928585 tw8503303124962739406 tw5733659560691221211 tw3398131756381341150 tw14865221732192162475 tw7706787992848083372 tw14579322248602098262 tw156117441628349286 tw14565442411565880811 tw12699953616438325091 tw1371685822286736070 tw6875853482119094170 tw2352286112284893885 tw18342912181645145850 tw5000531179152409563 tw11865788418336615037 tw9912029538806964479 tw7227718772754945938 tw10320177805995039348 tw8594832422422234187 tw11196175117189859966 tw16029995351173607969 tw7871745211058668350 tw3858768432151843380 tw11426645423942390800 tw2911379756856735158 tw13974888392266622329 tw10892648129627951687 tw357294715159908711 tw17673553798455807084 tw5176672796494632162 tw554448533907684602 tw7521684479211365091 tw15023354590103479610 tw5679714298965853245 tw9341748521316847920 tw4501471329555095659 tw8924549885763258848 tw7604363547513982186 tw10929441230185168807 tw15805831697320230198 tw12059772086283459210 tw2583846047525244750 tw14335507666449284892 tw6862250052971949568 tw16968951271752632243 tw14930118770673797373 tw11629983550001914063 tw16935003039498184652 tw4716532353861266293 tw11535412905059729286 tw578196229008286089 tw1220155722168797425 tw16693366153708338367 tw11821789443789388245 tw11539436795801647952 tw6061477561674350764 tw12328352970220536506 tw8378969571554375299 tw9790588254007140215 tw11560185445903141520 tw12448606072363172581 tw8135751206540461991 tw17556339636249236031 tw3597907368350499608 tw4257911300985651517 tw9453242994988388270 tw18021828313747826999 tw8691459878773847386 tw7555895746645671607 tw4557263292459205540 tw16589505709832255478 tw9906237188437027113 tw14159797387674363001 tw16594898256202410545 tw7571233180084417682 tw2783419627254276148 tw16996544994604139613 tw12940860940123000469 tw17773065924727596422 tw7028812930457896781 tw7558490045214412108 tw276953814454366004 tw1810996240867026141 tw16384901554690710801 tw14150953874959411312 tw8553144876467480470 tw17022498942850816178 tw17520541557880727423 tw6510833767035981357 tw4026943579455185195 tw16665224761130597368 tw8694730527757551992 tw1924238777050677032 tw4604361509791113438 tw9473917210014051064 tw14164338445373768663 tw399066204467900104 tw3844317292381263037 tw7647454413674805463 tw9331598188959882392 tw7181470056148201006 tw16112876295974025346 tw2166593805966280297 tw13235166156441179235 tw14452030268712036371 tw4197442349144625033 tw84352495867613432 tw9358242019863556412 tw4817688541760366888 tw4616852483599873947 tw15009395995587005713:True)
open PySem PySem.W PyProof.Rows
set_option maxHeartbeats 0 in
theorem PySem.Challenge.cw_armswing_k01_pairs_of_cells_holds : PySem.Challenge.rw_armswing_k01_pairs_of_cells.Holds := by
 w_on; o_law; k_head; (case hw => w_witness2)
 k_fill
 refine _W.walk (l := PySem.Challenge.rw_armswing_k01_pairs_of_cells) rfl rfl (λw h Y => PySem.W.kIn_of Y) ?F
 case F =>
  intro w mg fa h KX G hmg
  refine' _W.all_mk KX G hmg ?_ ?_ ?_ ?_ ?_ ?_ ?_ ?_ ?_ ?_ ?_ ?_ ?_ ?_ ?_ ?_ ?_ ?_ ?_ ?_ ?_ ?_ ?_ ?_ ?_ ?_ ?_ ?_ ?_ ?_ ?_ ?_ ?_ ?_ ?_ ?_ ?_ ?_ ?_ ?_ ?_ ?_ ?_ ?_ ?_ ?_ ?_ ?_ ?_ ?_ ?_ ?_ ?_ ?_ ?_ ?_ ?_ ?_ ?_ ?_ ?_ ?_ ?_ ?_ ?_ ?_ ?_ ?_ ?_ ?_ ?_ ?_ ?_ ?_ ?_ ?_ ?_ ?_ ?_ ?_ ?_ ?_ ?_ ?_ ?_ ?_ ?_ ?_ ?_ ?_ ?_ ?_ ?_ ?_ ?_ ?_ ?_ ?_ ?_ ?_ ?_ ?_ ?_ ?_ ?_ ?_ ?_ ?_ ?_ ?_ ?_ ?_ ?_ ?_ ?_ ?_ ?_ ?_ ?_ ?_ ?_ ?_ ?_
  all_goals (first | k_is | kit_is | k_exc | exact _L.fun_mk (by k_is) (by k_is) (by k_is) | rfl | decide +kernel | kernel_rfl | skip)

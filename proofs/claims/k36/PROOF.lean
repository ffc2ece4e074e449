import PyProof.Rows.All
import Wide.All
import OpenK.AllK
import Wide.FinOn
import Lean
import PyProof.EqAt
import PyProof.EqKinds
import PyProof.TupleCall
import PySem.Challenge.RW_armswing_k36_shares_turns
set_option compiler.extract_closed false
set_option Elab.async false
set_option linter.all false
set_option maxRecDepth 100000
open Array (forIn_toList getD_eq_getD_getElem? getElem?_toList length_toList toList_inj)
open Bool (and_eq_true false_eq_true not_eq_true')
open PySem.Calls (evalArgs_plain spliced_cons spliced_nil)
open PySem.Heap (FlyingW get?_none_of_le get?_push_of_some get?_push_size get?_update_other get?_update_self lt_size size_push)
open Int (emod_lt_of_pos emod_nonneg mul_le_mul one_mul pow_succ reduceLE reduceLT reduceMul reduceNeg reducePow reduceToNat toNat_natCast toNat_of_nonneg)
open List (Nodup Pairwise all_eq_true any_cons append_assoc append_nil cons_append drop_eq_getElem_cons filterMap_cons filter_append filter_cons filter_nil find?_cons find?_eq_none flatMap_cons flatten_cons foldl foldl_cons getD_eq_getElem?_getD getElem?_append_left getElem?_append_right getElem?_cons_succ getElem?_cons_zero getElem?_drop getElem?_eq_getElem getElem?_eq_none getElem?_map getElem?_nil getElem?_set_ne getElem_inj getElem_mem getElem_toArray isEmpty_nil length_append length_cons length_drop length_filter_le length_map length_nil length_range length_replicate length_take lookup_cons lookup_nil map_append map_cons map_drop map_map map_nil map_take mem_append mem_append_left mem_append_right mem_cons mem_cons_of_mem mem_cons_self mem_filter mem_filterMap mem_flatMap mem_iff_getElem mem_map mem_map_of_mem mem_of_getElem? mem_range mem_singleton nil_append nodup_append nodup_cons nodup_iff_pairwise_ne nodup_nil nodup_range not_mem_nil of_mem_zip pairwise_iff_getElem pairwise_map range_succ replicate_succ replicate_zero set_cons_succ set_cons_zero size_toArray take_append_drop take_length take_of_length_le toArray)
open Nat (le_succ lt_succ_of_lt lt_succ_self min_eq_left min_eq_right ne_of_gt reduceAdd reduceLeDiff reduceSub sub_self sub_zero zero_add zero_le)
open Option (isSome_iff_exists isSome_map map_some)
open PySem.F (entry_min_loop excBase_ValueError plainAttrs_list plain_list_iadd plain_min_loop slot_dict_get)
open PySem.W (Frag callWith_K clsIn codeIn emptyDict excIn findIn fnOf hasDictIn instObj isFn keepIn kia_one kitOne kla_obj makesIn mg_none_of mg_of nsIn plainGet plainOver)
local macro_rules | `(∅) => `(by lia)
namespace _L
open PySem PySem.Spec PyProof.Rows
def jE:Lean.Syntax:=.node .none `Lean.Parser.Tactic.tacticSeq #[.node .none `Lean.Parser.Tactic.tacticSeq1Indented #[.node .none `null #[.node .none `Lean.Parser.Tactic.tacticRfl #[.atom .none "rfl"]]]]
def jB:Lean.Syntax:=.node .none `Lean.Parser.Tactic.tacticSeq #[.node .none `Lean.Parser.Tactic.tacticSeq1Indented #[.node .none `null #[.node .none `Lean.Parser.Tactic.decide #[.atom .none "decide",.node .none `Lean.Parser.Tactic.optConfig #[.node .none `null #[]]]]]]
noncomputable abbrev Key:=Sum Int Str
noncomputable def p8:Key->Value->Bool
 | .inl k,v=>Value.isInt k v
 | .inr x,v=>Value.isStrOf x v
noncomputable def Yq(w:World):Key->Int
 | .inl k=>hashInt k
 | .inr x=>hashStr w x
theorem ni:∀ {k:Key} {v:Value},p8 k v=true->(∃i t,k=Sum.inl i/\v=Value.int i t)\/(∃x t,k=Sum.inr x/\v=Value.str x t)
 | .inl i,v,h=>by
  obtain⟨t,e⟩:=Value.isInt_shape (k:=i) (v:=v) h;exact .inl ⟨i,t,rfl,e⟩
 | .inr x,v,h=>by
  obtain⟨t,e⟩:=Value.isStrOf_shape (x:=x) (v:=v) h;exact .inr ⟨x,t,rfl,e⟩
theorem Yr(i:Int)(t:Tok):p8 (.inl i) (.int i t)=true:=by simp[p8,Value.isInt]
theorem Ys(x:Str)(t:Tok):p8 (.inr x) (.str x t)=true:=by simp[p8,Value.isStrOf]
theorem Yt(a b:Int):decide ((Sum.inl a:Key)=Sum.inl b)=(a == b):=by
 by_cases e:a=b
 ·subst e;simp
 ·have h:¬ (Sum.inl a:Key)=Sum.inl b:=λq=>e (Sum.inl.inj q);rw[decide_eq_false h];exact(beq_eq_false_iff_ne.mpr e).symm
theorem Yu(a b:Str):decide ((Sum.inr a:Key)=Sum.inr b)=decide (a=b):=by
 by_cases e:a=b
 ·subst e;simp
 ·have h:¬ (Sum.inr a:Key)=Sum.inr b:=λq=>e (Sum.inr.inj q);rw[decide_eq_false h,decide_eq_false e]
theorem Yv(a:Int)(b:Str):decide ((Sum.inl a:Key)=Sum.inr b)=false:=decide_eq_false (λq=>nomatch q)
theorem Yw(a:Str)(b:Int):decide ((Sum.inr a:Key)=Sum.inl b)=false:=decide_eq_false (λq=>nomatch q)
noncomputable def dQ(prog:Program)(w:World):PySem.KeyKind prog w Key where
 is:=p8
 hash:=Yq w
 inj:=λv a b ha hb=>by
  rcases ni ha with⟨i,t,rfl,rfl⟩ | ⟨x,t,rfl,rfl⟩
  ·rcases ni hb with⟨j,u,rfl,e⟩ | ⟨y,u,rfl,e⟩
   ·injection e with e1 _;rw[e1]
   ·exact nomatch e
  ·rcases ni hb with⟨j,u,rfl,e⟩ | ⟨y,u,rfl,e⟩
   ·exact nomatch e
   ·injection e with e1 _;rw[e1]
 byValue:=λk v h=>by
  rcases ni h with⟨i,t,rfl,rfl⟩ | ⟨x,t,rfl,rfl⟩ <;> rfl
 pyHash:=λhv h=>by
  rcases ni hv with⟨i,t,rfl,rfl⟩ | ⟨x,t,rfl,rfl⟩
  ·exact wpAny_pyHash_int h
  ·exact wpAny_pyHash_str h
 eqBool:=λhu hv h=>by
  rcases ni hu with⟨i,t,rfl,rfl⟩ | ⟨x,t,rfl,rfl⟩
  ·rcases ni hv with⟨j,u,rfl,rfl⟩ | ⟨y,u,rfl,rfl⟩
   ·rw[Yt] at h;exact wpAny_eqBool_int h
   ·rw[Yv] at h;exact SeqAt.EqAt.int_str i t y u _ _ _ _ h
  ·rcases ni hv with⟨j,u,rfl,rfl⟩ | ⟨y,u,rfl,rfl⟩
   ·rw[Yw] at h;exact SeqAt.EqAt.str_int x t j u _ _ _ _ h
   ·rw[Yu] at h;exact wpAny_eqBool_str h
 «strs» := λk x t v h=>by
  rcases ni h with⟨i,u,rfl,e⟩ | ⟨y,u,rfl,e⟩
  ·exact nomatch e
  ·injection e with e1 _;subst e1;cases v <;> rfl
theorem Yx(prog:Program)(w:World)(i:Int)(t:Tok):(dQ prog w).is (.inl i) (.int i t)=true:=Yr i t
theorem Yy(prog:Program)(w:World)(x:Str)(t:Tok):(dQ prog w).is (.inr x) (.str x t)=true:=Ys x t
inductive V where
 | aW | bl (b:Bool) | int (i:Int) | str (x:Str) | iC (b:Array UInt8) | lQ (b:UInt64) | ref (a:Addr) | ty (n:String)
 deriving DecidableEq
noncomputable def RelV:V->Value->Prop
 | .aW,u=>u=Value.none
 | .bl b,u=>u=Value.bool b
 | .int i,u=>∃t,u=Value.int i t
 | .str x,u=>∃t,u=Value.str x t
 | .iC b,u=>∃t,u=Value.bytes b t
 | .lQ b,u=>∃t,u=Value.float b t
 | .ref a,u=>u=Value.ref a
 | .ty n,u=>u=Value.type n
noncomputable abbrev Vals:List V->List Value->Prop:=Paired RelV
theorem Vals.length{xs:List V}{us:List Value}(r:Vals xs us):xs.length=us.length:=Paired.length r
theorem Vals.get:∀ {xs:List V} {us:List Value} {i:Nat} {x:V},Vals xs us->xs[i]? = some x->∃u,us[i]? = some u/\RelV x u
 | _,_,_,_,.nil,e=>by simp at e
 | _,_,0,_,.cons r _,e=>by simp at e;subst e;exact⟨_,rfl,r⟩
 | _,_,i+1,x,.cons _ t,e=>by
  obtain⟨u,h1,h2⟩:=Vals.get (i:=i) (x:=x) t (by simpa using e)
  exact⟨u,by simpa using h1,h2⟩
theorem Vals.set{x:V}{u:Value}(r:RelV x u):∀ {xs:List V} {us:List Value} (i:Nat),Vals xs us->Vals (xs.set i x) (us.set i u)
 | _,_,_,.nil=>.nil
 | _,_,0,.cons _ t=>.cons r t
 | _,_,i+1,.cons q t=>.cons q (Vals.set r i t)
theorem Vals.append{xs ys:List V}{us ws:List Value}(h:Vals xs us)(g:Vals ys ws):Vals (xs++ys) (us++ws):=by
 induction h with
 | nil=>exact g
 | cons r t ih=>exact .cons r ih
theorem Vals.take:∀ {xs:List V} {us:List Value} (n:Nat),Vals xs us->Vals (xs.take n) (us.take n)
 | _,_,0,_=>.nil
 | _,_,_+1,.nil=>.nil
 | _,_,n+1,.cons r t=>.cons r (Vals.take n t)
theorem Vals.drop:∀ {xs:List V} {us:List Value} (n:Nat),Vals xs us->Vals (xs.drop n) (us.drop n)
 | _,_,0,r=>r
 | _,_,_+1,.nil=>.nil
 | _,_,n+1,.cons _ t=>Vals.drop n t
noncomputable def gw:Option V->Option Value->Prop
 | some v,some u=>RelV v u
 | none,none=>True
 | _,_=>False
noncomputable def KV{κ:Type}:List (κ×V)->List (κ×Value)->Prop:=Paired λ(p:κ×V) (q:κ×Value)=>p.1=q.1/\RelV p.2 q.2
noncomputable def kV:Key->V
 | .inl i=>.int i
 | .inr x=>.str x
inductive HO where
 /-- a list -/
 | lst (xs:List V)
 /-- a tuple (never changes) -/
 | tup (xs:List V)
 /-- a dict whose keys are ints and texts;one whose keys are tuples of ints and texts (the empty one is both) -/
 | dK (kvs:List (Key×V)) | dT (kvs:List (List Key×V))
 /-- a set of ints: its members,its size -/
 | set (S:Int->Bool) (n:Nat)
 /-- an instance of the class at C,its dict at dx,its attributes -/
 | ins (C dx:Addr) (fs:List (Str×V))
 /-- the dict of the instance at x -/
 | own (x:Addr)
 /-- the dict of an exception -/
 | xd (fs:List (Str×V))
 /-- a bound method,f of x -/
 | met (f x:Addr)
 /-- a range object lo,lo+1,.. below hi -/
 | yc (lo hi:Int)
 /-- a thing that is known to the object (the script;a dict while a loop walks it): read,never written while it is so -/
 | d8 (o:Obj) (u:HO)
 /-- a code object's table -/
 | eV (ps:Array Value)
 /-- any other thing,by what is true of its one object (a def of one's own: SetO a S n:=HO.ext λh=>..) -/
 | ext (φ:Heap->Prop)
noncomputable abbrev Hp:=Addr->Option HO
noncomputable def upd(H:Hp)(a:Addr)(o:HO):Hp:=λb=>if b=a then some o else H b
theorem aD{H:Hp}{a:Addr}{o:HO}:upd H a o a=some o:=by unfold upd;rw[if_pos rfl]
theorem aF{H:Hp}{a b:Addr}{o:HO}(h:b≠a):upd H a o b=H b:=by unfold upd;rw[if_neg h]
theorem M3{H:Hp}{a:Addr}{o u:HO}:upd (upd H a o) a u=upd H a u:=by
 funext b;unfold upd;split <;> rfl
theorem iD{H:Hp}{a b:Addr}{o u:HO}(h:H a=some o)(h':H b=some u)(d:o≠u):a≠b:=by
 intro e;subst e;rw[h] at h';exact d (Option.some.inj h')
theorem bX{H:Hp}{a b:Addr}{o:HO}(h:H a=some o)(h':H b=none):a≠b:=by
 intro e;subst e;rw[h] at h';cases h'
section
variable(P:Program)(w:World)
noncomputable def dw(H:Hp)(h:Heap)(a:Addr):HO->Prop
 | .lst xs=>xs.length<=sizeLine/\∃(az:List Value) (n:Nat),Vals xs az/\h.get? a=some { cls:=.type "list",data:=.seq az.toArray n }
 | .tup xs=>xs.length<=sizeLine/\∃az:List Value,Vals xs az/\IsTup h a az.toArray
 | .dK kvs=>kvs.length<=sizeLine/\(a == sysModules)=false/\∃vs,KV kvs vs/\h.DictOf (dQ P w) a vs
 | .dT kvs=>kvs.length<=sizeLine/\(a == sysModules)=false/\∃xs:List (List Key×Addr×Value),
   Paired (λ(p:List Key×V) (q:List Key×Addr×Value)=>p.1=q.1/\H q.2.1=some (.tup (p.1.map kV))/\RelV p.2 q.2.2) kvs xs/\
   ∃o es ep,h.get? a=some o/\o.ExactDict/\o.data = .dict es ep/\es.toList=xs.map (entryOfKey (tupleKind (dQ P w)))/\(xs.map (·.1)).Nodup
 | .set S n=>h.SetOf (intKind P w) a S n
 | .ins C dx fs=>H dx=some (.own a)/\fs.length<=1000/\dx≠a/\h.get? a=some (instObj C dx)/\
   ∃mA,h.Ns1 dx mA/\(∀f,gw (fs.lookup f) (mA f))/\PySem.Within mA (fs.map (·.1))
 | .own _=>∃o,h.get? a=some o
 | .xd fs=>∃mA,h.Ns1 a mA/\∀f,gw (fs.lookup f) (mA f)
 | .yc lo hi=>∃t u v,h.get? a=some { cls:=.type "range",data:=.fields #[.int lo t,.int hi u,.int 1 v] }
 | .d8 o u=>h.get? a=some o/\dw H h a u
 | .eV ps=>h.get? a=some { cls:=.none,data:=.fields ps }
 | .met f x=>h.get? a=some (W.methodObj (.ref f) (.ref x))
 | .ext φ=>φ h/\(∃o,h.get? a=some o)/\∀h1 h2:Heap,φ h1->(∀o,h1.get? a=some o->h2.get? a=some o)->φ h2
noncomputable def cN(H:Hp)(h:Heap):Prop:=∀a o,H a=some o->dw P w H h a o
end
section
variable{P:Program}{w:World}{H H':Hp}{h h':Heap}{a:Addr}{o:HO}
theorem dw.lt(x:dw P w H h a o):a<h.objs.size:=by
 cases o with
 | lst xs=>obtain⟨_,_,_,_,e⟩:=x;exact lt_size e
 | tup xs=>obtain⟨_,_,_,p⟩:=x;exact p.lt
 | dK kvs=>obtain⟨_,_,_,_,o,_,_,e,_⟩:=x;exact lt_size e
 | dT kvs=>obtain⟨_,_,_,_,o,_,_,e,_⟩:=x;exact lt_size e
 | set S n=>obtain⟨o,_,_,_,e,_⟩:=x;exact lt_size e
 | ins C dx fs=>obtain⟨_,_,_,e,_⟩:=x;exact lt_size e
 | own y=>obtain⟨_,e⟩:=x;exact lt_size e
 | xd fs=>obtain⟨_,⟨_,_,_,e,_⟩,_⟩:=x;exact lt_size e
 | yc lo hi=>obtain⟨_,_,_,e⟩:=x;exact lt_size e
 | d8 ob u=>obtain⟨e,_⟩:=x;exact lt_size e
 | eV ps=>exact lt_size (show h.get? a=some _ from x)
 | met f y=>exact lt_size (show h.get? a=some _ from x)
 | ext φ=>obtain⟨_,⟨_,e⟩,_⟩:=x;exact lt_size e
theorem Paired.M4{α β:Type}{F G:α->β->Prop}{l₁:List α}{l₂:List β}(h:Paired F l₁ l₂)(f:∀a b,F a b->G a b):Paired G l₁ l₂:=by
 induction h with
 | nil=>exact .nil
 | cons r t ih=>exact .cons (f _ _ r) ih
theorem dw.g9(x:dw P w H h a o)(k:∀b u,(b=a\/H b=some (.own a))->h.get? b=some u->h'.get? b=some u)
  (ho:∀b,H b=some (.own a)->H' b=some (.own a)) (ht:∀b xs,H b=some (.tup xs)->H' b=some (.tup xs)):dw P w H' h' a o:=by
 induction o with
 | lst xs=>obtain⟨z,az,n,r,e⟩:=x;exact⟨z,az,n,r,k _ _ (.inl rfl) e⟩
 | tup xs=>obtain⟨z,az,r,ob,e,c⟩:=x;exact⟨z,az,r,ob,k _ _ (.inl rfl) e,c⟩
 | dK kvs=>obtain⟨z,y,vs,r,ob,es,ep,e,c⟩:=x;exact⟨z,y,vs,r,ob,es,ep,k _ _ (.inl rfl) e,c⟩
 | dT kvs =>
  obtain⟨z,y,xs,r,ob,es,ep,e,c⟩:=x;exact⟨z,y,xs,Paired.M4 r λp q z=>⟨z.1,ht _ _ z.2.1,z.2.2⟩,ob,es,ep,k _ _ (.inl rfl) e,c⟩
 | set S n=>obtain⟨ob,es,ep,t,e,c⟩:=x;exact⟨ob,es,ep,t,k _ _ (.inl rfl) e,c⟩
 | ins C dx fs =>
  obtain⟨d,z,ne,e,mA,⟨od,es,ep,e2,c⟩,r⟩:=x;exact⟨ho _ d,z,ne,k _ _ (.inl rfl) e,mA,⟨od,es,ep,k _ _ (.inr d) e2,c⟩,r⟩
 | own y=>obtain⟨ob,e⟩:=x;exact⟨ob,k _ _ (.inl rfl) e⟩
 | xd fs=>obtain⟨mA,⟨od,es,ep,e,c⟩,r⟩:=x;exact⟨mA,⟨od,es,ep,k _ _ (.inl rfl) e,c⟩,r⟩
 | yc lo hi=>obtain⟨t,u,v,e⟩:=x;exact⟨t,u,v,k _ _ (.inl rfl) e⟩
 | d8 ob u ih=>obtain⟨e,q⟩:=x;exact⟨k _ _ (.inl rfl) e,ih q⟩
 | eV ps =>
  have e:h.get? a=some { cls:=.none,data:=.fields ps }:=x
  show h'.get? a=some { cls:=.none,data:=.fields ps };exact k a _ (.inl rfl) e
 | met f y =>
  have e:h.get? a=some (W.methodObj (.ref f) (.ref y)):=x
  show h'.get? a=some (W.methodObj (.ref f) (.ref y));exact k a _ (.inl rfl) e
 | ext φ=>obtain⟨p,⟨o,e⟩,st⟩:=x;exact⟨st _ _ p λo q=>k _ _ (.inl rfl) q,⟨o,k _ _ (.inl rfl) e⟩,st⟩
theorem cN.lt(x:cN P w H h)(e:H a=some o):a<h.objs.size:=(x a o e).lt
theorem cN.fresh(x:cN P w H h)(e:h.objs.size<=a):H a=none:=by
 cases q:H a with
 | none=>rfl
 | some u=>exact absurd (Nat.lt_of_lt_of_le (x.lt q) e) (Nat.lt_irrefl _)
theorem cN.kept(x:cN P w H h)(k:∀b u,h.get? b=some u->h'.get? b=some u):cN P w H h':=λa o e =>
 (x a o e).g9 (λb u _ q=>k b u q) (λ_ q=>q) λ_ _ q=>q
theorem cN.laid(x:cN P w H h)(k:∀b u,h.get? b=some u->h'.get? b=some u)(hp:h.objs.size<=a)(new:dw P w (upd H a o) h' a o):cN P w (upd H a o) h':=λb u e=>by
 have hn:=x.fresh hp;by_cases hb:b=a
 ·subst hb;rw[aD] at e;cases e;exact new
 ·rw[aF hb] at e;exact(x b u e).g9 (λc v _ q=>k c v q) (λc q=>by rw[aF (bX q hn)];exact q) λc xs q=>by rw[aF (bX q hn)];exact q
end
noncomputable def Rd(H:Hp)(a:Addr)(u:HO):Prop:=H a=some u\/∃o,H a=some (.d8 o u)
theorem Rd.ok{P:Program}{w:World}{H:Hp}{h:Heap}{a:Addr}{u:HO}(r:Rd H a u)(x:cN P w H h):dw P w H h a u:=by
 rcases r with r | ⟨o,r⟩
 ·exact x a u r
 ·obtain⟨_,q⟩:=x a _ r;exact q
noncomputable def uh:Option HO->Prop
 | some (.lst _)=>True
 | some (.dK _)=>True
 | some (.dT _)=>True
 | some (.set _ _)=>True
 | some (.ins _ _ _)=>True
 | some (.ext _)=>True
 | _=>False
section
variable{P:Program}{w:World}{H:Hp}{h h':Heap}{x e:Addr}{o':HO}
theorem cN.write(ok:cN P w H h)(mu:uh (H x))(he:e=x\/H e=some (.own x))(k:∀b u,b≠e->h.get? b=some u->h'.get? b=some u)(rJ:∃u,h'.get? e=some u)
  (new:dw P w (upd H x o') h' x o'):cN P w (upd H x o') h':=λb u q=>by
 have M5:∀c y,H c=some (.own y)->c≠x:=λc y r z=>by subst z;rw[r] at mu;exact mu
 have Yz:∀c xs,H c=some (.tup xs)->c≠x:=λc xs r z=>by subst z;rw[r] at mu;exact mu
 by_cases hb:b=x
 ·subst hb;rw[aD] at q;cases q;exact new
 ·rw[aF hb] at q;by_cases p9:b=e
  ·have q':H b=some (.own x):=by
    rcases he with z | z
    ·exact absurd (p9.trans z) hb
    ·rw[p9];exact z
   rw[q] at q';cases q';obtain⟨v,hv⟩:=rJ;exact⟨v,by rw[p9];exact hv⟩
  ·refine(ok b u q).g9 (λc v hc r=>k c v ?_ r) (λc r=>by rw[aF (M5 c b r)];exact r) λc xs r=>by rw[aF (Yz c xs r)];exact r
   rcases hc with rfl | hc
   ·exact p9
   ·rintro rfl;rcases he with z | z
    ·exact M5 c b hc z
    ·rw[hc] at z;cases z;exact hb rfl
end
structure Un(fs ex:List Addr)(H H':Hp)(h h':Heap):Prop where
 keep:∀b o,h.get? b=some o->H b=none->b∉fs->b∉ex->h'.get? b=some o
 slot:∀b o,h.get? b=some o->H b=none->b∈fs->b∉ex->∃sl,h'.get? b=some { o with slots:=sl }
 free:∀b o,h.get? b=some o->H b=none->b∉ex->H' b=none
 there:∀b o,h.get? b=some o->b∉ex->∃o',h'.get? b=some o'
 jY:∀b xs,H b=some (.tup xs)->H' b=some (.tup xs)
 i6:∀b o u,H b=some (.d8 o u)->H' b=some (.d8 o u)
 jA:∀b ps,H b=some (.eV ps)->∃more,H' b=some (.eV (ps++more))
section
variable{fs M7 ex ex':List Addr}{H H1 H2:Hp}{h h1 h2 h':Heap}{a x e:Addr}{o:HO}
theorem Un.any(u:Un fs ex H H1 h h1){b:Addr}{ob:Obj}(q:h.get? b=some ob)(n:H b=none)(hx:b∉ex):∃sl,h1.get? b=some { ob with slots:=sl }:=by
 by_cases hb:b∈fs
 ·exact u.slot b ob q n hb hx
 ·exact⟨ob.slots,u.keep b ob q n hb hx⟩
theorem Un.kept(k:∀b u,h.get? b=some u->h'.get? b=some u):Un fs ex H H h h' :=
 ⟨λb ob q _ _ _=>k b ob q,λb ob q _ _ _=>⟨ob.slots,k b ob q⟩,λ_ _ _ n _=>n,λb ob q _=>⟨ob,k b ob q⟩,λ_ _ q=>q,λ_ _ _ q=>q,λ_ ps q=>⟨#[],by rw[q];simp⟩⟩
theorem Un.refl:Un fs ex H H h h:=Un.kept λ_ _ q=>q
theorem Un.laid(k:∀b u,h.get? b=some u->h'.get? b=some u)(hp:h.objs.size<=a)(hn:H a=none):Un fs ex H (upd H a o) h h' where
 keep:=λb u q _ _ _=>k b u q
 slot:=λb u q _ _ _=>⟨u.slots,k b u q⟩
 free:=λb u q n _=>by rw[aF (Nat.ne_of_lt (Nat.lt_of_lt_of_le (lt_size q) hp))];exact n
 there:=λb u q _=>⟨u,k b u q⟩
 jY:=λb xs q=>by rw[aF (bX q hn)];exact q
 i6:=λb u xs q=>by rw[aF (bX q hn)];exact q
 jA:=λb ps q=>⟨#[],by rw[aF (bX q hn),q];simp⟩
theorem Un.write(mu:uh (H x))(he:e=x\/H e=some (.own x))(k:∀b u,b≠e->h.get? b=some u->h'.get? b=some u)(rJ:∃u,h'.get? e=some u):Un fs ex H (upd H x o) h h':=by
 have hx:∀b,H b=none->b≠x:=λb n z=>by subst z;rw[n] at mu;exact mu
 have hb:∀b,H b=none->b≠e:=λb n z=>by
  subst z;rcases he with r | r
  ·exact hx b n r
  ·rw[n] at r;cases r
 have hm:∀b u,H b=some u->¬ uh (some u)->b≠x:=λb u q nm z=>by subst z;rw[q] at mu;exact nm mu
 refine⟨λb u q n _ _=>k b u (hb b n) q,λb u q n _ _=>⟨u.slots,k b u (hb b n) q⟩,λb u q n _=>by rw[aF (hx b n)];exact n,λb u q _=>?_,
  λb xs q=>by rw[aF (hm b _ q λz=>z)];exact q,λb u xs q=>by rw[aF (hm b _ q λz=>z)];exact q,λb ps q=>⟨#[],by rw[aF (hm b _ q λz=>z),q];simp⟩⟩
 by_cases p9:b=e
 ·subst p9;exact rJ
 ·exact⟨u,k b u p9 q⟩
end
noncomputable def yd(h:Heap)(H:Hp):List Addr:=(List.range h.objs.size).filter λa=>(H a).isSome
noncomputable def iE(h:Heap)(H:Hp):Heap:=W.hideAll h (yd h H)
theorem M8(h:Heap)(H:Hp):(iE h H).objs.size=h.objs.size:=W.hideAll_size _ _
theorem M9{h:Heap}{H:Hp}{b:Addr}{o:Obj}(e:h.get? b=some o)(n:H b=none):(iE h H).get? b=some o :=
 W.hideAll_get _ e λhm=>by
  have q:(H b).isSome=true:=(mem_filter.mp hm).2;rw[n] at q;simp at q
theorem M_{h:Heap}{H:Hp}{b:Addr}{o:Obj}(e:(iE h H).get? b=some o):h.get? b=some o/\H b=none:=by
 have e':h.get? b=some o:=W.of_hideAll (yd h H) e;refine⟨e',?_⟩;cases q:H b with
 | none=>rfl
 | some x =>
  have hm:b∈yd h H:=mem_filter.mpr ⟨mem_range.mpr (lt_size e'),by simp[q]⟩
  have z:(iE h H).get? b=none:=W.hideAll_none (yd h H) hm;rw[z] at e;cases e
noncomputable def yf(g h:Heap)(L:Addr):List (Addr×Obj):=(List.range h.objs.size).filterMap λa=>if a=L\/(g.get? a).isSome=true then none else(h.get? a).map λo=>(a,o)
theorem Nf{g h:Heap}{L a:Addr}{o:Obj}(h1:a≠L)(h2:g.get? a=none)(h3:h.get? a=some o):(a,o)∈yf g h L :=
 mem_filterMap.mpr ⟨a,mem_range.mpr (lt_size h3),by simp[h1,h2,h3]⟩
theorem YA{g h:Heap}{L:Addr}{p:Addr×Obj}(hp:p∈yf g h L):p.1≠L/\g.get? p.1=none/\h.get? p.1=some p.2:=by
 obtain⟨b,_,e⟩:=mem_filterMap.mp hp;split at e
 ·cases e
 ·rename_i hn;cases q:h.get? b with
  | none=>rw[q] at e;simp at e
  | some u =>
   rw[q] at e;simp only[map_some,Option.some.injEq] at e;subst e;refine⟨λz=>hn (.inl z),?_,q⟩
   show g.get? b=none;cases r:g.get? b with
   | none=>rfl
   | some v=>exact(hn (.inr (by simp[r]))).elim
noncomputable def rest(g h:Heap)(L d:Addr):List (Addr×Obj):=(yf g h L).filter λp=>decide (p.1≠d)
theorem oN{g h:Heap}{L d:Addr}:∀p∈rest g h L d,p.1≠d:=λp hp=>of_decide_eq_true (mem_filter.mp hp).2
theorem YB{g h:Heap}{L d a:Addr}{o:Obj}(h1:a≠L)(h2:g.get? a=none)(h3:h.get? a=some o)(h4:a≠d):(a,o)∈rest g h L d :=
 mem_filter.mpr ⟨Nf h1 h2 h3,decide_eq_true h4⟩
theorem yg{g h:Heap}{L:Addr}:News g L h (yf g h L):=λp hp=>let ⟨a,b,c⟩:=YA hp;⟨c,a,b⟩
theorem news_at{g h:Heap}{L d:Addr}{o:Obj}(h1:d≠L)(h2:g.get? d=none)(h3:h.get? d=some o):News g L h ((d,o)::rest g h L d):=λp hp=>by
 rcases mem_cons.mp hp with rfl | hp
 ·exact⟨h3,h1,h2⟩
 ·exact yg p (mem_filter.mp hp).1
theorem oO{g h h':Heap}{L d:Addr}{m:Str->Option Value}(k:∀b o,g.get? b=some o->h.get? b=some o)(F:Fr g L h' m)(N:News g L h' (rest g h L d)) :
  ∀b o,b≠L->b≠d->h.get? b=some o->h'.get? b=some o:=λb o h1 h2 e=>by
 cases q:g.get? b with
 | some u =>
  have:=k b u q;rw[e] at this;cases this;exact F.keep b _ q
 | none=>exact(N (b,o) (YB h1 q e h2)).1
structure Mod(K:Frag)(mg:Str->Option Value)(base:Heap):Prop where
 jZ:K.In base
 glob:base.Ns mainGlobals mg
 blt:∃mb,base.Ns builtinsNs mb/\∀x:Str,x≠"__name__"->mb x=bootBuiltins x
 nolimit:base.NoLimit
structure Cx where
 prog:Program
 w:World
 K:Frag
 mg:Str->Option Value
 base:Heap
 A:Around
 N:List Str
 bG:Shared
 gz:Hp
 env:Env
 outer:List Env
 stack:List Env
 ex:List Addr
 fn:Str->Bool
 calm:Bool
 pn:List (Addr×Obj)
 xe:Value->Shared->Prop
noncomputable def cA(l:List Env):List Addr:=l.filterMap (·.frame)
noncomputable abbrev Cx.fs(X:Cx):List Addr:=cA X.outer
noncomputable def yh(sc:Scope)(x:Str):Prop:=sc.names.lookup x=some .local\/sc.names.lookup x=some .cell\/sc.names.lookup x=some .free
noncomputable def Loc(sc:Scope)(x:Str):Prop:=sc.names.lookup x=some .local\/sc.names.lookup x=some .cell
noncomputable def Look(env:Env)(h:Heap)(m:Str->Option Value)(x:Str)(u:Value):Prop :=
 (env.kindOf x=some .local/\m x=some u)\/((env.kindOf x=some .cell\/env.kindOf x=some .free)/\∃c,env.cells.lookup x=some c/\h.IsCell c (some u))
structure Cx.Ok(X:Cx):Prop where
 mod:Mod X.K X.mg X.base
 kind:X.env.scope.kind = .function
 glob:X.env.globals=mainGlobals
 blt:X.env.builtins=builtinsNs
 above:X.bG.heap.objs.size<=X.env.locals
 inj:∀x y c,X.env.cells.lookup x=some c->X.env.cells.lookup y=some c->x=y
 has:∀x,(X.env.kindOf x=some .cell\/X.env.kindOf x=some .free)->∃c,X.env.cells.lookup x=some c
 p_:∀x c,X.fn x=true->X.env.cells.lookup x=some c->X.bG.heap.objs.size<=c
 hd:X.calm=true->X.A.handled=none
 frames:X.A.frames=some X.stack
 rK:X.stack=X.outer\/(X.stack=X.env::X.outer/\X.env.frame=some X.env.locals)
 rL:∀b∈X.ex,b≠X.env.locals/\∀x c,X.env.cells.lookup x=some c->c≠b
 bs:∀b o,X.base.get? b=some o->X.bG.heap.get? b=some o/\X.gz b=none
 eW:X.base.objs.size<=X.bG.heap.objs.size
 qa:∀b o,X.base.get? b=some o->b∉X.ex
 qb:∀b∈X.ex,b∉X.fs
 gK:X.bG.heap.FunFrames X.base X.outer
 j5:∀b∈X.fs,X.gz b=none
structure Inv(X:Cx)(pins:List (Addr×Obj))(σ:List (Option V))(H:Hp)(s:Shared):Prop where
 ok:X.Ok
 os:s.os=X.bG.os
 bare:AllBare s.gens
 base:Un X.fs X.ex X.gz H X.bG.heap s.heap
 loc:∃m,s.heap.Ns X.env.locals m/\∀(i:Nat) (x:Str) (v:V),X.N[i]? = some x->σ[i]? = some (some v)->yh X.env.scope x->∃u,RelV v u/\Look X.env s.heap m x u
 cell:∀x c,X.env.cells.lookup x=some c->∃v,s.heap.IsCell c v
 free:H X.env.locals=none
 iF:∀x c,X.env.cells.lookup x=some c->H c=none
 pin:∀p∈X.pn++pins,s.heap.get? p.1=some p.2/\H p.1=none/\p.1≠X.env.locals/\p.1∉X.fs/\∀v,p.2.data≠.cell v
 aG:cN X.prog X.w H s.heap
 len:σ.length=X.N.length
section
variable{X:Cx}{pins:List (Addr×Obj)}{σ:List (Option V)}{H H':Hp}{s:Shared}{h':Heap}
theorem Cx.Ok.YC(ok:X.Ok){b:Addr}{o:Obj}(e:X.base.get? b=some o):b∉X.fs:=λhb=>by
 have:=(ok.gK.mem hb).1;rw[e] at this;cases this
theorem Inv.bs(I:Inv X pins σ H s):∀b o,X.base.get? b=some o->s.heap.get? b=some o/\H b=none:=λb o e =>
 ⟨I.base.keep b o (I.ok.bs b o e).1 (I.ok.bs b o e).2 (I.ok.YC e) (I.ok.qa b o e),I.base.free b o (I.ok.bs b o e).1 (I.ok.bs b o e).2 (I.ok.qa b o e)⟩
theorem Inv.bk(I:Inv X pins σ H s):∀b o,X.base.get? b=some o->s.heap.get? b=some o:=λb o e=>(I.bs b o e).1
theorem Inv.mod(I:Inv X pins σ H s):Mod X.K X.mg X.base:=I.ok.mod
theorem Inv.cI(I:Inv X pins σ H s):X.K.In s.heap:=I.ok.mod.jZ.keeps I.bk
theorem Inv.nolimit(I:Inv X pins σ H s):s.heap.NoLimit:=I.ok.mod.nolimit.keeps I.bk
theorem Inv.fr(I:Inv X pins σ H s):∃m,Fr X.base X.env.locals s.heap m :=
 let ⟨m,hn,_⟩:=I.loc
 ⟨m,hn,I.bk,Nat.le_trans I.ok.eW I.ok.above⟩
theorem Inv.lt(I:Inv X pins σ H s):X.env.locals<s.heap.objs.size:=let ⟨_,hn,_⟩:=I.loc;hn.lt
theorem Inv.sz(I:Inv X pins σ H s):X.bG.heap.objs.size<=s.heap.objs.size:=Nat.le_trans I.ok.above (Nat.le_of_lt I.lt)
theorem Inv.rM(I:Inv X pins σ H s){a:Addr}(h:s.heap.objs.size<=a):a∉X.fs:=λhb=>by
 obtain⟨_,o,ho,_⟩:=I.ok.gK.mem hb;exact absurd (Nat.lt_of_lt_of_le (lt_size ho) (Nat.le_trans I.sz h)) (Nat.lt_irrefl _)
theorem Inv.kH(I:Inv X pins σ H s):∀x c,X.env.cells.lookup x=some c->c≠X.env.locals:=λx c e z=>by
 obtain⟨v,o,ho,hd⟩:=I.cell x c e;obtain⟨m,⟨o',es,ep,iG,i7,_⟩,_⟩:=I.loc;rw[z,iG] at ho;cases ho;rw[i7] at hd;cases hd
theorem Inv.gK(I:Inv X pins σ H s):s.heap.FunFrames X.base X.outer:=by
 have all:∀(l:List Env),(∀b∈cA l,b∈X.fs)->X.bG.heap.FunFrames X.base l->s.heap.FunFrames X.base l:=by
  intro l
  induction l with
  | nil=>intro _ _;trivial
  | cons env r ih =>
   intro hs hl;obtain⟨hk,⟨L,o,hf,hn,ho,hd⟩,hr⟩:=hl;have hL:L∈X.fs:=hs L (by unfold cA;rw[filterMap_cons,hf];exact mem_cons_self)
   obtain⟨sl,e⟩:=I.base.slot L o ho (I.ok.j5 L hL) hL λz=>I.ok.qb L z hL;exact⟨hk,⟨L,_,hf,hn,e,hd⟩,ih (λb hb=>hs b (by unfold cA;rw[filterMap_cons,hf];exact mem_cons_of_mem _ hb)) hr⟩
 exact all X.outer (λ_ hb=>hb) I.ok.gK
theorem Inv.stack(I:Inv X pins σ H s):s.heap.FunFrames X.base X.stack:=by
 rcases I.ok.rK with e | ⟨e,hf⟩
 ·rw[e];exact I.gK
 ·rw[e];obtain⟨m,hn,_⟩:=I.loc;refine .cons (by rw[I.ok.kind];decide) hf hn ?_ I.gK
  exact get?_none_of_le (Nat.le_trans I.ok.eW I.ok.above)
theorem Inv.Et(I:Inv X pins σ H s):∀b∈cA X.stack,b∈X.env.locals::X.fs:=λb hb=>by
 rcases I.ok.rK with e | ⟨e,hf⟩
 ·rw[e] at hb;exact mem_cons_of_mem _ hb
 ·rw[e] at hb;unfold cA at hb;rw[filterMap_cons,hf] at hb;exact hb
theorem Inv.um(I:Inv X pins σ H s):∀b∈cA X.stack,H b=none:=λb hb=>by
 rcases mem_cons.mp (I.Et b hb) with e | hb
 ·rw[e];exact I.free
 ·obtain⟨_,o,ho,_⟩:=I.ok.gK.mem hb;exact I.base.free b o ho (I.ok.j5 b hb) λz=>I.ok.qb b z hb
theorem Inv.step{g':Array GenState}{t':Nat}{d':Drawn}{ch:List Addr}(I:Inv X pins σ H s)
  (lR:∀b∈ch,(b∈X.ex\/X.bG.heap.objs.size<=b)/\b≠X.env.locals/\(∀x c,X.env.cells.lookup x=some c->c≠b)/\∀p∈X.pn++pins,p.1≠b)
  (keep:∀b o,b≠X.env.locals->b∉X.fs->b∉ch->s.heap.get? b=some o->H b=none->h'.get? b=some o)
  (slot:∀b o,b≠X.env.locals->b∈X.fs->b∉ch->s.heap.get? b=some o->H b=none->∃sl,h'.get? b=some { o with slots:=sl }) (free:∀b o,b∉ch->s.heap.get? b=some o->H b=none->H' b=none)
  (there:∀b o,b∉ch->s.heap.get? b=some o->∃o',h'.get? b=some o')
  (jY:∀b xs,H b=some (.tup xs)->H' b=some (.tup xs)) (i6:∀b o u,H b=some (.d8 o u)->H' b=some (.d8 o u)) (jA:∀b ps,H b=some (.eV ps)->∃more,H' b=some (.eV (ps++more)))
  (ns:∀m,s.heap.Ns X.env.locals m->h'.Ns X.env.locals m) (aG:cN X.prog X.w H' h') (hg:AllBare g') :
  Inv X pins σ H' { s with heap:=h',gens:=g',drawn:=d',toks:=t' }:=by
 have Ng:∀b o,X.bG.heap.get? b=some o->b≠X.env.locals:=λb o e=>Nat.ne_of_lt (Nat.lt_of_lt_of_le (lt_size e) I.ok.above);have yi:∀b o,X.bG.heap.get? b=some o->b∉X.ex->b∉ch:=λb o e hx hb=>by
  rcases(lR b hb).1 with z | z
  ·exact hx z
  ·exact absurd (Nat.lt_of_lt_of_le (lt_size e) z) (Nat.lt_irrefl _)
 have cellK:∀x c,X.env.cells.lookup x=some c->∀v,s.heap.IsCell c v->h'.IsCell c v:=λx c e v ⟨o,ho,hd⟩=>by
  have uo:c∉ch:=λz=>(lR c z).2.2.1 x c e rfl;by_cases hc:c∈X.fs
  ·obtain⟨sl,q⟩:=slot c o (I.kH x c e) hc uo ho (I.iF x c e);exact⟨_,q,hd⟩
  ·exact⟨o,keep c o (I.kH x c e) hc uo ho (I.iF x c e),hd⟩
 refine⟨I.ok,I.os,hg,⟨λb o e n hb hx=>?_,λb o e n hb hx=>?_,λb o e n hx=>?_,λb o e hx=>?_,λb xs e=>jY b xs (I.base.jY b xs e),λb o xs e=>i6 b o xs (I.base.i6 b o xs e),λb ps e=>?_⟩,?_,λx c e=>?_,?_,λx c e=>?_,λp hp=>?_,aG,I.len⟩
 ·exact keep b o (Ng b o e) hb (yi b o e hx) (I.base.keep b o e n hb hx) (I.base.free b o e n hx)
 ·obtain⟨sl,e1⟩:=I.base.slot b o e n hb hx;obtain⟨YD,e2⟩:=slot b _ (Ng b o e) hb (yi b o e hx) e1 (I.base.free b o e n hx);exact⟨YD,e2⟩
 ·obtain⟨o',e1⟩:=I.base.there b o e hx;exact free b o' (yi b o e hx) e1 (I.base.free b o e n hx)
 ·obtain⟨o',e1⟩:=I.base.there b o e hx;exact there b o' (yi b o e hx) e1
 ·obtain⟨m1,e1⟩:=I.base.jA b ps e;obtain⟨m2,e2⟩:=jA b _ e1;exact⟨m1++m2,by rw[e2,Array.append_assoc]⟩
 ·obtain⟨m,hn,hl⟩:=I.loc;refine⟨m,ns m hn,λi x v e1 e2 e3=>?_⟩;obtain⟨u,r,l⟩:=hl i x v e1 e2 e3;refine⟨u,r,?_⟩;rcases l with l | ⟨k,c,e,z⟩
  ·exact .inl l
  ·exact .inr ⟨k,c,e,cellK x c e _ z⟩
 ·obtain⟨v,z⟩:=I.cell x c e;exact⟨v,cellK x c e v z⟩
 ·obtain⟨m,⟨o,_,_,ho,_⟩,_⟩:=I.loc;exact free _ o (λz=>(lR _ z).2.1 rfl) ho I.free
 ·obtain⟨v,o,ho,hd⟩:=I.cell x c e;exact free c o (λz=>(lR c z).2.2.1 x c e rfl) ho (I.iF x c e)
 ·obtain⟨e,n,ne,nf,d⟩:=I.pin p hp;have uo:p.1∉ch:=λz=>(lR p.1 z).2.2.2 p hp rfl;exact⟨keep p.1 p.2 ne nf uo e n,free p.1 p.2 uo e n,ne,nf,d⟩
theorem Inv.un{t':Nat}(I:Inv X pins σ H s)(u:Un X.fs [] H H' s.heap h')(aG:cN X.prog X.w H' h'):Inv X pins σ H' { s with heap:=h',toks:=t' }:=by
 obtain⟨m,⟨o,es,ep,ho,r⟩,_⟩:=id I.loc;obtain⟨sl,hL⟩:=u.any ho I.free (by simp)
 exact I.step (g':=s.gens) (d':=s.drawn) (ch:=[]) (λ_ z=>nomatch z) (λb o _ hb _ e n=>u.keep b o e n hb (by simp)) (λb o _ hb _ e n=>u.slot b o e n hb (by simp)) (λb o _ e n=>u.free b o e n (by simp)) (λb o _ e=>u.there b o e (by simp)) u.jY u.i6 u.jA (λm' hm=>by
  obtain⟨o',kI,nq,iG,r'⟩:=hm;rw[ho] at iG;cases iG;exact⟨_,kI,nq,hL,r'⟩) aG I.bare
theorem Inv.call{g':Array GenState}{t':Nat}{d':Drawn}{ch:List Addr}(I:Inv X pins σ H s)(u:Un (cA X.stack) ch H H' s.heap h')(aG:cN X.prog X.w H' h')(hg:AllBare g')
  (lR:∀b∈ch,(b∈X.ex\/X.bG.heap.objs.size<=b)/\b≠X.env.locals/\(∀x c,X.env.cells.lookup x=some c->c≠b)/\∀p∈X.pn++pins,p.1≠b) :
  Inv X pins σ H' { s with heap:=h',gens:=g',drawn:=d',toks:=t' }:=by
 obtain⟨m,⟨o,es,ep,ho,r⟩,_⟩:=id I.loc;obtain⟨sl,hL⟩:=u.any ho I.free λz=>(lR _ z).2.1 rfl;exact I.step (ch:=ch) lR (λb o hL hb hc e n=>u.keep b o e n (λz=>(mem_cons.mp (I.Et b z)).elim hL hb) hc) (λb o _ _ hc e n=>u.any e n hc) (λb o hc e n=>u.free b o e n hc) (λb o hc e=>u.there b o e hc) u.jY u.i6 u.jA (λm' hm=>by
  obtain⟨o',kI,nq,iG,r'⟩:=hm;rw[ho] at iG;cases iG;exact⟨_,kI,nq,hL,r'⟩) aG hg
theorem Inv.turned{t':Nat}{it:Addr}(I:Inv X pins σ H s)(k:∀b o,b≠it->s.heap.get? b=some o->h'.get? b=some o)(hn:H it=none)(hL:it≠X.env.locals)
  (h1:it∈X.ex\/X.bG.heap.objs.size<=it) (h2:∀x c,X.env.cells.lookup x=some c->c≠it) (h3:∀p∈X.pn++pins,p.1≠it):Inv X pins σ H { s with heap:=h',toks:=t' }:=by
 have uq:∀b u,H b=some u->b≠it:=λb u e z=>by rw[z,hn] at e;cases e
 refine I.step (g':=s.gens) (d':=s.drawn) (ch:=[it]) (λb hb=>?_) (λb o _ _ hc e _=>k b o (λz=>hc (by simp[z])) e) (λb o _ _ hc e _=>⟨o.slots,k b o (λz=>hc (by simp[z])) e⟩) (λ_ _ _ _ n=>n)
  (λb o hc e=>⟨o,k b o (λz=>hc (by simp[z])) e⟩) (λ_ _ e=>e) (λ_ _ _ e=>e) (λb ps e=>⟨#[],by rw[e];simp⟩) (λm hm=>?_) (λb u e=>?_) I.bare
 ·have e:b=it:=by simpa using hb
  subst e;exact⟨h1,hL,h2,h3⟩
 ·obtain⟨o,es,ep,ho,r⟩:=hm;exact⟨o,es,ep,k _ o (Ne.symm hL) ho,r⟩
 ·refine(I.aG b u e).g9 (λc v hc q=>k c v ?_ q) (λ_ q=>q) λ_ _ q=>q;rcases hc with z | z
  ·rw[z];exact uq b u e
  ·exact uq c _ z
theorem Inv.tok(I:Inv X pins σ H s)(t:Nat):Inv X pins σ H { s with toks:=t }:=I.un (h':=s.heap) (t':=t) Un.refl I.aG
theorem Inv.kept{t':Nat}(I:Inv X pins σ H s)(k:∀b u,s.heap.get? b=some u->h'.get? b=some u):Inv X pins σ H { s with heap:=h',toks:=t' }:=I.un (Un.kept k) (I.aG.kept k)
theorem Inv.laid{a:Addr}{o:HO}{t':Nat}(I:Inv X pins σ H s)(k:∀b u,s.heap.get? b=some u->h'.get? b=some u)(hp:s.heap.objs.size<=a)(new:dw X.prog X.w (upd H a o) h' a o) :
  Inv X pins σ (upd H a o) { s with heap:=h',toks:=t' }:=I.un (Un.laid k hp (I.aG.fresh hp)) (I.aG.laid k hp new)
theorem Inv.write{x e:Addr}{o:HO}{t':Nat}(I:Inv X pins σ H s)(mu:uh (H x))(he:e=x\/H e=some (.own x))(k:∀b u,b≠e->s.heap.get? b=some u->h'.get? b=some u)(rJ:∃u,h'.get? e=some u)
  (new:dw X.prog X.w (upd H x o) h' x o):Inv X pins σ (upd H x o) { s with heap:=h',toks:=t' }:=I.un (Un.write mu he k rJ) (I.aG.write mu he k rJ new)
theorem Inv.i8{yj:List (Addr×Obj)}(I:Inv X pins σ H s)(h:∀p∈yj,s.heap.get? p.1=some p.2/\H p.1=none/\p.1≠X.env.locals/\p.1∉X.fs/\∀v,p.2.data≠.cell v):Inv X yj σ H s :=
 ⟨I.ok,I.os,I.bare,I.base,I.loc,I.cell,I.free,I.iF,λp hp=>(mem_append.mp hp).elim (λz=>I.pin p (mem_append_left _ z)) (h p),I.aG,I.len⟩
theorem Eu{N:List Str}(hN:N.Nodup){i j:Nat}{x:Str}(a:N[i]? = some x)(b:N[j]? = some x):i=j:=by
 obtain⟨h1,e1⟩:=List.getElem?_eq_some_iff.mp a;obtain⟨h2,e2⟩:=List.getElem?_eq_some_iff.mp b;exact(getElem_inj hN).mp (e1.trans e2.symm)
theorem Nh{M:Model}{A:Around}{E:Value->Shared->Prop}{i:Nat}{x:Str}{v:V}{u:Value}{Q:Unit->Shared->Prop}(I:Inv X pins σ H s)(hN:X.N.Nodup)(hi:X.N[i]? = some x)(hx:Loc X.env.scope x)(r:RelV v u)
  (h:∀s',Inv X pins (σ.set i (some v)) H s'->(∃a,Heap.SameBut a s.heap s'.heap/\(a=X.env.locals\/X.env.cells.lookup x=some a))->Q () s') (hf:X.fn x=true\/X.env.scope.names.lookup x=some .local:=by first | exact .inl rfl | exact .inr rfl | assumption):wpAny M A (storeName X.env x u) Q E s:=by
 obtain⟨m,hn,hl⟩:=id I.loc;have ur:(X.env.scope.kind == .class || (X.env.scope.kind == .module && X.env.locals != X.env.globals))=false:=by rw[I.ok.kind];rfl
 have Ni:i<σ.length:=by rw[I.len];exact(List.getElem?_eq_some_iff.mp hi).1
 have kH:=I.kH;have tracked:∀ {a:Addr} {h':Heap},(∃o,s.heap.get? a=some o/\H a=none)->Heap.SameBut a s.heap h'->cN X.prog X.w H h':=λ{a h'} ha hs b ob e=>by
  obtain⟨_,_,Nj⟩:=ha;refine(I.aG b ob e).g9 (λc w' hc q=>(hs.2 c ?_).trans q) (λ_ q=>q) λ_ _ q=>q;rintro rfl;rcases hc with rfl | hc
  ·rw[Nj] at e;cases e
  ·rw[Nj] at hc;cases hc
 rcases hx with hk | hk
 ·refine wpAny_storeName_local hk hn (λh' Ew hs=>?_) ur;obtain⟨oL,_,_,nv,_⟩:=id hn;refine h _ ⟨I.ok,I.os,I.bare,⟨λb o e n hb hx=>?_,λb o e n hb hx=>?_,I.base.free,λb o e hx=>?_,I.base.jY,I.base.i6,I.base.jA⟩,⟨_,Ew,λj y v' e1 e2 e3=>?_⟩,λy c e=>?_,I.free,I.iF,λp hp=>?_,tracked ⟨oL,nv,I.free⟩ hs,by simpa using I.len⟩ ⟨_,hs,.inl rfl⟩
  ·exact(hs.2 b (Nat.ne_of_lt (Nat.lt_of_lt_of_le (lt_size e) I.ok.above))).trans (I.base.keep b o e n hb hx)
  ·obtain⟨sl,e1⟩:=I.base.slot b o e n hb hx;exact⟨sl,(hs.2 b (Nat.ne_of_lt (Nat.lt_of_lt_of_le (lt_size e) I.ok.above))).trans e1⟩
  ·obtain⟨o',e1⟩:=I.base.there b o e hx;exact⟨o',(hs.2 b (Nat.ne_of_lt (Nat.lt_of_lt_of_le (lt_size e) I.ok.above))).trans e1⟩
  ·by_cases hj:j=i
   ·subst hj;rw[hi] at e1;cases e1;rw[List.getElem?_set_self Ni] at e2;cases e2;exact⟨u,r,.inl ⟨hk,by simp⟩⟩
   ·rw[getElem?_set_ne (Ne.symm hj)] at e2;obtain⟨u',r',q⟩:=hl j y v' e1 e2 e3;refine⟨u',r',?_⟩;rcases q with⟨k,e⟩ | ⟨k,c,e,z⟩
    ·refine .inl ⟨k,?_⟩;have:y≠x:=λe=>hj (Eu hN e1 (e▸hi));simp[this,e]
    ·exact .inr ⟨k,c,e,z.sameBut hs (kH y c e)⟩
  ·obtain⟨w',z⟩:=I.cell y c e;exact⟨w',z.sameBut hs (kH y c e)⟩
  ·obtain⟨e,n,ne,nf,d⟩:=I.pin p hp;exact⟨(hs.2 p.1 ne).trans e,n,ne,nf,d⟩
 ·have Ex:X.fn x=true:=by
   rcases hf with z | z
   ·exact z
   ·rw[z] at hk;cases hk
  obtain⟨c,hc⟩:=I.ok.has x (.inl hk);obtain⟨w',z⟩:=I.cell x c hc;refine wpAny_storeName_cell I.ok.kind hk hc z (λh' yl hs=>?_);obtain⟨oc,Nk,YE⟩:=id z;refine h { s with heap:=h' } ⟨I.ok,I.os,I.bare,⟨λb o e n hb hx=>?_,λb o e n hb hx=>?_,I.base.free,λb o e hx=>?_,I.base.jY,I.base.i6,I.base.jA⟩,⟨m,hn.sameBut hs (Ne.symm (kH x c hc)),λj y v' e1 e2 e3=>?_⟩,λy c' e=>?_,I.free,I.iF,λp hp=>?_,tracked ⟨oc,Nk,I.iF x c hc⟩ hs,by simpa using I.len⟩ ⟨c,hs,.inr hc⟩
  ·exact(hs.2 b (Nat.ne_of_lt (Nat.lt_of_lt_of_le (lt_size e) (I.ok.p_ x c Ex hc)))).trans (I.base.keep b o e n hb hx)
  ·obtain⟨sl,e1⟩:=I.base.slot b o e n hb hx;exact⟨sl,(hs.2 b (Nat.ne_of_lt (Nat.lt_of_lt_of_le (lt_size e) (I.ok.p_ x c Ex hc)))).trans e1⟩
  ·obtain⟨o',e1⟩:=I.base.there b o e hx;exact⟨o',(hs.2 b (Nat.ne_of_lt (Nat.lt_of_lt_of_le (lt_size e) (I.ok.p_ x c Ex hc)))).trans e1⟩
  ·by_cases hj:j=i
   ·subst hj;rw[hi] at e1;cases e1;rw[List.getElem?_set_self Ni] at e2;cases e2;exact⟨u,r,.inr ⟨.inl hk,c,hc,yl⟩⟩
   ·rw[getElem?_set_ne (Ne.symm hj)] at e2;obtain⟨u',r',q⟩:=hl j y v' e1 e2 e3;refine⟨u',r',?_⟩;rcases q with q | ⟨k,c',e,z'⟩
    ·exact .inl q
    ·refine .inr ⟨k,c',e,z'.sameBut hs ?_⟩;rintro rfl;exact hj (Eu hN e1 (I.ok.inj _ _ _ e hc▸hi))
  ·by_cases ym:c' = c
   ·subst ym;exact⟨_,yl⟩
   ·obtain⟨w2,z2⟩:=I.cell y c' e;exact⟨w2,z2.sameBut hs ym⟩
  ·obtain⟨e,n,ne,nf,d⟩:=I.pin p hp;refine⟨(hs.2 p.1 ?_).trans e,n,ne,nf,d⟩;intro q;rw[q,Nk] at e;have q':oc=p.2:=Option.some.inj e;exact d w' (by rw[← q'];exact YE)
theorem Ey{M:Model}{A:Around}{E:Value->Shared->Prop}{i:Nat}{x:Str}{v:V}{u:Value}{Q:Unit->Shared->Prop}(I:Inv X pins σ H s)(hN:X.N.Nodup)(hi:X.N[i]? = some x)(hx:Loc X.env.scope x)(r:RelV v u)
  (h:∀s',Inv X pins (σ.set i (some v)) H s'->Q () s') (hf:X.fn x=true\/X.env.scope.names.lookup x=some .local:=by first | exact .inl rfl | exact .inr rfl | assumption):wpAny M A (storeName X.env x u) Q E s :=
 Nh I hN hi hx r (λs' I' _=>h s' I') hf
theorem Inv.yp{s':Shared}{ch:List Addr}(I:Inv X pins σ H s)(ho:s'.os=s.os)(u:Un (cA X.stack) ch H H' s.heap s'.heap)(aG:cN X.prog X.w H' s'.heap)(hg:AllBare s'.gens)
  (lR:∀b∈ch,(b∈X.ex\/X.bG.heap.objs.size<=b)/\b≠X.env.locals/\(∀x c,X.env.cells.lookup x=some c->c≠b)/\∀p∈X.pn++pins,p.1≠b):Inv X pins σ H' s':=by
 obtain⟨h',g',d',t',o'⟩:=s';have e:o' = s.os:=ho;subst e;exact I.call (g':=g') (t':=t') (d':=d') u aG hg lR
end
noncomputable abbrev XK:=Value->Option Addr->Hp->Prop
noncomputable abbrev St:=List (Option V)
noncomputable abbrev VK:=V->Hp->Prop
noncomputable abbrev TE:=St->Hp->VK->Prop
noncomputable abbrev TT:=St->Hp->(Bool->Hp->Prop)->Prop
noncomputable abbrev TA:=St->Hp->(List V->Hp->Prop)->Prop
structure Ends where
 nx:St->Hp->Prop
 rt:VK
 bk:St->Hp->Prop:=λ_ _=>False
 ct:St->Hp->Prop:=λ_ _=>False
noncomputable abbrev TS:=Ends->St->Hp->Prop
noncomputable def EP(X:Cx)(pins:List (Addr×Obj))(σ:St)(Q:VK)(u:Value)(s':Shared):Prop:=∃v H',Inv X pins σ H' s'/\RelV v u/\Q v H'
noncomputable def TP(X:Cx)(pins:List (Addr×Obj))(σ:St)(Q:Bool->Hp->Prop)(b:Bool)(s':Shared):Prop:=∃H',Inv X pins σ H' s'/\Q b H'
noncomputable def AP(X:Cx)(pins:List (Addr×Obj))(σ:St)(Q:List V->Hp->Prop)(us:List Value)(s':Shared):Prop:=∃vs H',Inv X pins σ H' s'/\Vals vs us/\Q vs H'
noncomputable def SP(X:Cx)(pins:List (Addr×Obj))(D:Ends)(f:Flow)(s':Shared):Prop :=
 match f with
 | .next=>∃bf H',Inv X pins bf H' s'/\D.nx bf H'
 | .brk=>∃bf H',Inv X pins bf H' s'/\D.bk bf H'
 | .cont=>∃bf H',Inv X pins bf H' s'/\D.ct bf H'
 | .ret u=>∃v bf H',Inv X pins bf H' s'/\RelV v u/\D.rt v H'
noncomputable def PE(X:Cx)(e:Expr)(t:TE):Prop :=
 ∀(pins:List (Addr×Obj)) (s:Shared) (σ:St) (H:Hp) (Q:VK),Inv X pins σ H s->t σ H Q->wpAny (model X.prog X.w) X.A (eval e X.env) (EP X pins σ Q) X.xe s
noncomputable def PT(X:Cx)(e:Expr)(t:TT):Prop :=
 ∀(pins:List (Addr×Obj)) (s:Shared) (σ:St) (H:Hp) (Q:Bool->Hp->Prop),Inv X pins σ H s->t σ H Q->wpAny (model X.prog X.w) X.A (isTrue e X.env (eval e X.env)) (TP X pins σ Q) X.xe s
noncomputable def PW(X:Cx)(e:Expr)(t:TT):Prop :=
 ∀(whole:Sem Value) (pins:List (Addr×Obj)) (s:Shared) (σ:St) (H:Hp) (Q:Bool->Hp->Prop),Inv X pins σ H s->t σ H Q->wpAny (model X.prog X.w) X.A (isTrue e X.env whole) (TP X pins σ Q) X.xe s
theorem PW.pt{X:Cx}{e:Expr}{t:TT}(h:PW X e t):PT X e t:=h _
noncomputable def PA(X:Cx)(es:List Expr)(t:TA):Prop :=
 ∀(pos:Pos) (pins:List (Addr×Obj)) (s:Shared) (σ:St) (H:Hp) (Q:List V->Hp->Prop),Inv X pins σ H s->t σ H Q->wpAny (model X.prog X.w) X.A (spliced (backTo pos (starEach es X.env))) (AP X pins σ Q) X.xe s
noncomputable def PS(X:Cx)(st:Stmt)(t:TS):Prop :=
 ∀(pins:List (Addr×Obj)) (s:Shared) (σ:St) (H:Hp) (D:Ends),Inv X pins σ H s->t D σ H->wpAny (model X.prog X.w) X.A (exec st X.env) (SP X pins D) X.xe s
noncomputable def fB(X:Cx)(st:List Stmt)(t:TS):Prop :=
 ∀(pins:List (Addr×Obj)) (s:Shared) (σ:St) (H:Hp) (D:Ends),Inv X pins σ H s->t D σ H->wpAny (model X.prog X.w) X.A (execs st X.env) (SP X pins D) X.xe s
theorem aY{α:Type}{t:Sem α}{Q Q':α->Shared->Prop}{M:Model}{A:Around}{E:Value->Shared->Prop}{s:Shared}(h:wpAny M A t Q E s)(hQ:∀a s,Q a s->Q' a s):wpAny M A t Q' E s:=wpAny_mono h hQ λ_ _ x=>x
section
variable{X:Cx}
theorem bin{a b:Expr}{ta tb:TE}(ha:PE X a ta)(hb:PE X b tb){pins:List (Addr×Obj)}{s:Shared}{σ:St}{H:Hp}{R:V->V->Hp->Prop}(I:Inv X pins σ H s)(h:ta σ H λx H1=>tb σ H1 λy H2=>R x y H2)
  {α:Type} {Q:α->Shared->Prop} {f:Value->Value->Sem α}
  (hf:∀v u s2 x y H2,Inv X pins σ H2 s2->RelV x v->RelV y u->R x y H2->wpAny (model X.prog X.w) X.A (f v u) Q X.xe s2) :
  wpAny (model X.prog X.w) X.A (eval a X.env) (λv aZ=>wpAny (model X.prog X.w) X.A (eval b X.env) (λu gA=>wpAny (model X.prog X.w) X.A (f v u) Q X.xe gA) X.xe aZ) X.xe s:=by
 refine aY (ha pins s σ H _ I h) λv s1 ⟨x,H1,I1,r1,q1⟩=>?_;refine aY (hb pins s1 σ H1 _ I1 q1) λu s2 ⟨y,H2,I2,r2,q2⟩=>?_;exact hf v u s2 x y H2 I2 r1 r2 q2
noncomputable def yq(i:Nat):TE:=λσ H Q=>∃v,σ[i]? = some (some v)/\Q v H
noncomputable def tC(v:V):TE:=λ_ H Q=>Q v H
theorem Nl{i:Nat}{x:Str}{pos:Pos}(hN:X.N[i]? = some x)(hv:yh X.env.scope x)(hd:autoParam ((x == ("__debug__" : Str))=false) jB)(cY:autoParam ((x == ("__classdict__" : Str))=false) jB):PE X (.Name x pos) (yq i):=by
 intro pins s σ H Q I h;obtain⟨v,e,h⟩:=h;obtain⟨m,hn,hl⟩:=I.loc;obtain⟨u,r,l⟩:=hl i x v hN e hv;have fin:EP X pins σ Q u s:=⟨v,H,I,r,h⟩;rcases l with⟨hk,hm⟩ | ⟨hk,c,hc,Nm⟩
 ·exact wpAny_Name (wpAny_loadName_local I.ok.kind hk hn hm fin) hd
 ·rcases hk with hk | hk
  ·exact wpAny_Name (wpAny_loadName_cell I.ok.kind hk hc Nm fin) hd
  ·exact wpAny_Name (wpAny_loadName_free I.ok.kind hk hc Nm fin cY) hd
theorem aq{i j pos}:PE X (.Constant (.int i) j pos) (tC (.int i)):=λ_ _ _ H _ I h=>wpAny_Constant_int ⟨.int i,H,I.tok _,⟨_,rfl⟩,h⟩
theorem jC{b j pos}:PE X (.Constant (.bool b) j pos) (tC (.bl b)):=λ_ _ _ H _ I h=>Constant_bool ⟨.bl b,H,I,rfl,h⟩
theorem nA{j pos}:PE X (.Constant .none j pos) (tC .aW):=λ_ _ _ H _ I h=>Constant_none ⟨.aW,H,I,rfl,h⟩
theorem cT{x j pos}:PE X (.Constant (.str x) j pos) (tC (.str x)):=λ_ _ _ H _ I h=>Calls.Constant_str ⟨.str x,H,I.tok _,⟨_,rfl⟩,h⟩
noncomputable def Gl(X:Cx)(x:Str):Prop:=X.env.kindOf x=some .globalImplicit
theorem nC{E:Value->Shared->Prop}{pins:List (Addr×Obj)}{s:Shared}{σ:St}{H:Hp}{x:Str}{u:Value}{pos:Pos}{Q:Value->Shared->Prop}(I:Inv X pins σ H s)(hg:Gl X x)(hm:X.mg x=some u)(h:Q u s)
  (hd:(x == ("__debug__" : Str))=false:=by decide):wpAny (model X.prog X.w) X.A (eval (.Name x pos) X.env) Q E s :=
 Calls.Name_function_global I.ok.kind hg (Calls.loadGlobal_global (by rw[I.ok.glob];exact I.mod.glob.keeps I.bk) hm h) hd
theorem kJ{E:Value->Shared->Prop}{pins:List (Addr×Obj)}{s:Shared}{σ:St}{H:Hp}{x:Str}{u:Value}{pos:Pos}{Q:Value->Shared->Prop}(I:Inv X pins σ H s)(hg:Gl X x)(hm:X.mg x=none)(hv:bootBuiltins x=some u)(h:Q u s)
  (hn:x≠"__name__" := by decide) (hd:(x == ("__debug__" : Str))=false:=by decide):wpAny (model X.prog X.w) X.A (eval (.Name x pos) X.env) Q E s:=by
 obtain⟨mb,h1,h2⟩:=I.mod.blt;exact Calls.Name_function_global I.ok.kind hg (Calls.loadGlobal_builtin (by rw[I.ok.glob];exact I.mod.glob.keeps I.bk) hm (by rw[I.ok.blt];exact h1.keeps I.bk) ((h2 x hn).trans hv) h) hd
theorem fh{x:Str}{v:V}{u:Value}{pos:Pos}(hg:Gl X x)(hm:X.mg x=some u)(r:RelV v u)(hd:autoParam ((x == ("__debug__" : Str))=false) jB):PE X (.Name x pos) (tC v) :=
 λ_ _ _ H _ I h=>nC I hg hm ⟨v,H,I,r,h⟩ hd
theorem Ez{x:Str}{v:V}{u:Value}{pos:Pos}(hg:Gl X x)(hm:X.mg x=none)(hv:bootBuiltins x=some u)(r:RelV v u)(hn:autoParam (x≠"__name__") jB)(hd:autoParam ((x == ("__debug__" : Str))=false) jB):PE X (.Name x pos) (tC v) :=
 λ_ _ _ H _ I h=>kJ I hg hm hv ⟨v,H,I,r,h⟩ hn hd
variable{a b:Expr}{ta tb:TE}{pos:Pos}
noncomputable def PC(X:Cx)(op:CmpOp)(a b:Expr)(t:TE):Prop :=
 ∀(pins:List (Addr×Obj)) (s:Shared) (σ:St) (H:Hp) (Q:VK),Inv X pins σ H s->t σ H Q->
  wpAny (model X.prog X.w) X.A (eval a X.env) (λv aZ=>wpAny (model X.prog X.w) X.A (eval b X.env) (λu gA=>wpAny (model X.prog X.w) X.A (compareOp op v u) (EP X pins σ Q) X.xe gA) X.xe aZ) X.xe s
theorem YF(b:Expr){op:CmpOp}(h:op≠.In)(h2:op≠.NotIn):behindInMarks op b=false:=by
 have e1:(op == CmpOp.In)=false:=by cases op <;> first | rfl | exact absurd rfl h
 have e2:(op == CmpOp.NotIn)=false:=by cases op <;> first | rfl | exact absurd rfl h2
 cases b <;> simp[behindInMarks,e1,e2]
noncomputable def tB(t:TE):TT:=λσ H Q=>t σ H λx H1=>∃c,x = .bl c/\Q c H1
theorem rN{op:CmpOp}{t:TE}(h:PC X op a b t)(h1:behindInMarks op b=false:=by first | exact YF _ (by decide) (by decide) | rfl):PT X (.Compare a [op] [b] pos) (tB t):=by
 intro pins s σ H Q I hw;refine wpAny_isTrue_Compare1 (aY (h pins s σ H _ I hw) λv s1 h1=>aY h1 λu s2 h2=>aY h2 λc s3 ⟨x,H1,I1,r1,q1⟩=>?_) h1;obtain⟨d,rfl,q⟩:=q1;cases r1;exact wpAny_truthy_bool ⟨H1,I1,q⟩
theorem uu{e:Expr}{t:TE}(h:PE X e t)(he:∀whole,isTrue e X.env whole=(do let v ← whole;standAt e.pos;holding [v] (truthy v)):=by intro _;rfl):PT X e (tB t):=by
 intro pins s σ H Q I hw;refine isTrue_plain (aY (h pins s σ H _ I hw) λv s1 ⟨x,H1,I1,r1,q1⟩=>?_) (he _);obtain⟨d,rfl,q⟩:=q1;cases r1;exact wpAny_truthy_bool ⟨H1,I1,q⟩
variable{tA yr:TT}{rest:List Expr}
noncomputable def EA(t u:TT):TT:=λσ H Q=>t σ H λc H1=>if c=true then u σ H1 Q else Q false H1
noncomputable def rO(t u:TT):TT:=λσ H Q=>t σ H λc H1=>if c=true then Q true H1 else u σ H1 Q
noncomputable def EB(t:TT):TT:=λσ H Q=>t σ H λc H1=>Q (!c) H1
theorem EC(ha:PT X a tA):PW X (.BoolOp .And [a] pos) tA:=by
 intro wh pins s σ H Q I h;refine isTrue_and (aY (ha pins s σ H Q I h) λc s1 e=>?_);cases c with
 | true=>exact isTrue_and_nil e
 | false=>exact e
theorem fY(ha:PT X a tA):PW X (.BoolOp .Or [a] pos) tA:=by
 intro wh pins s σ H Q I h;refine isTrue_or (aY (ha pins s σ H Q I h) λc s1 e=>?_);cases c with
 | false=>exact isTrue_or_nil e
 | true=>exact e
theorem ED(ha:PT X a tA)(hb:PW X (.BoolOp .And (b::rest) pos) yr):PW X (.BoolOp .And (a::b::rest) pos) (EA tA yr):=by
 intro wh pins s σ H Q I h;refine isTrue_and (aY (ha pins s σ H _ I h) λc s1 ⟨H1,I1,q1⟩=>?_);cases c with
 | true=>exact hb wh pins s1 σ H1 Q I1 q1
 | false=>exact⟨H1,I1,q1⟩
theorem fZ(ha:PT X a tA)(hb:PW X (.BoolOp .Or (b::rest) pos) yr):PW X (.BoolOp .Or (a::b::rest) pos) (rO tA yr):=by
 intro wh pins s σ H Q I h;refine isTrue_or (aY (ha pins s σ H _ I h) λc s1 ⟨H1,I1,q1⟩=>?_);cases c with
 | true=>exact⟨H1,I1,q1⟩
 | false=>exact hb wh pins s1 σ H1 Q I1 q1
theorem yt(ha:PT X a tA):PT X (.UnaryOp .Not a pos) (EB tA):=by
 intro pins s σ H Q I h;exact isTrue_not (ha pins s σ H (λc H1=>Q (!c) H1) I h)
noncomputable def EE(ta tb:TE):TE:=λσ H Q=>ta σ H λx H1=>∃c,x = .bl c/\if c=true then tb σ H1 Q else Q (.bl false) H1
noncomputable def Nn(ta tb:TE):TE:=λσ H Q=>ta σ H λx H1=>∃c,x = .bl c/\if c=true then Q (.bl true) H1 else tb σ H1 Q
noncomputable def EF(ta:TE):TE:=λσ H Q=>ta σ H λx H1=>∃c,x = .bl c/\Q (.bl (!c)) H1
theorem Np{op}{t:TE}(h:PE X a t):PE X (.BoolOp op [a] pos) t:=λpins s σ H Q I hw=>BoolOp_one (h pins s σ H Q I hw)
theorem EG(ha:PE X a ta)(hb:PE X (.BoolOp .And (b::rest) pos) tb):PE X (.BoolOp .And (a::b::rest) pos) (EE ta tb):=by
 intro pins s σ H Q I h;refine BoolOp_and (aY (ha pins s σ H _ I h) λv s1 ⟨x,H1,I1,r1,q1⟩=>?_);obtain⟨c,rfl,q1⟩:=q1;cases r1;refine wpAny_truthy_bool ?_;cases c with
 | true=>exact hb pins s1 σ H1 Q I1 q1
 | false=>exact⟨.bl false,H1,I1,rfl,q1⟩
theorem YG(ha:PE X a ta):PE X (.UnaryOp .Not a pos) (EF ta):=by
 intro pins s σ H Q I h;refine UnaryOp_ (aY (ha pins s σ H _ I h) λv s1 ⟨x,H1,I1,r1,q1⟩=>?_);obtain⟨c,rfl,q1⟩:=q1;cases r1;exact not_of (wpAny_truthy_bool ⟨.bl (!c),H1,I1,rfl,q1⟩)
noncomputable def EH(t:TT)(ta tb:TE):TE:=λσ H Q=>t σ H λc H1=>if c=true then ta σ H1 Q else tb σ H1 Q
theorem YH{c:Expr}(hc:PT X c tA)(ha:PE X a ta)(hb:PE X b tb):PE X (.IfExp c a b pos) (EH tA ta tb):=by
 intro pins s σ H Q I h;refine wpAny_IfExp (aY (hc pins s σ H _ I h) λd s1 ⟨H1,I1,q1⟩=>?_);cases d with
 | true=>exact ha pins s1 σ H1 Q I1 q1
 | false=>exact hb pins s1 σ H1 Q I1 q1
end
noncomputable def aE(K:Frag)(H:Hp)(a:Addr)(xs:List V):Prop :=
 Rd H a (.lst xs)\/
  ∃(o:Obj) (az:Array Value) (n:Nat),K.lookup a=some o/\o.cls = .type "list"/\o.dict=none/\o.data = .seq az n/\az.size<=sizeLine/\Vals xs az.toList
noncomputable def bg(K:Frag)(H:Hp)(a:Addr)(xs:List V):Prop :=
 Rd H a (.tup xs)\/
  ∃(o:Obj) (az:Array Value) (n:Nat),K.lookup a=some o/\o.cls = .type "tuple"/\o.data = .seq az n/\az.size<=sizeLine/\Vals xs az.toList
noncomputable def YI:Value->Option V
 | .none=>some .aW
 | .bool b=>some (.bl b)
 | .int i _=>some (.int i)
 | .str x _=>some (.str x)
 | .bytes b _=>some (.iC b)
 | .float b _=>some (.lQ b)
 | .ref a=>some (.ref a)
 | .type n=>some (.ty n)
 | _=>none
theorem RelV.abs{x:V}{u:Value}(r:RelV x u):YI u=some x:=by
 cases x with
 | aW=>cases r;rfl
 | bl _=>cases r;rfl
 | int _=>obtain⟨t,rfl⟩:=r;rfl
 | str _=>obtain⟨t,rfl⟩:=r;rfl
 | iC _=>obtain⟨t,rfl⟩:=r;rfl
 | lQ _=>obtain⟨t,rfl⟩:=r;rfl
 | ref _=>cases r;rfl
 | ty _=>cases r;rfl
theorem RelV.inj{x y:V}{u:Value}(r:RelV x u)(q:RelV y u):x=y:=Option.some.inj (r.abs.symm.trans q.abs)
theorem Vals.inj{xs ys:List V}{us:List Value}(h:Vals xs us):Vals ys us->xs=ys:=by
 induction h generalizing ys with
 | nil=>intro g;cases g;rfl
 | cons r t ih=>intro g;cases g with
  | cons r' t'=>rw[r.inj r',ih t']
section
variable{X:Cx}{pins:List (Addr×Obj)}{σ:St}{H:Hp}{s:Shared}{a:Addr}{xs ys:List V}
theorem aE.of{K:Frag}(h:H a=some (.lst xs)):aE K H a xs:=.inl (.inl h)
theorem bg.of{K:Frag}(h:H a=some (.tup xs)):bg K H a xs:=.inl (.inl h)
theorem Inv.list(I:Inv X pins σ H s)(h:aE X.K H a xs):∃az:List Value,Vals xs az/\PlainL s.heap a az.toArray/\xs.length<=sizeLine:=by
 rcases h with h | ⟨o,az,n,hk,hc,hd,hs,hz,r⟩
 ·obtain⟨z,az,n,r,e⟩:=h.ok I.aG;exact⟨az,r,⟨_,n,e,rfl,rfl,rfl⟩,z⟩
 ·refine⟨az.toList,r,⟨o,n,I.cI a o hk,hc,hd,by simpa using hs⟩,?_⟩
  have e:=r.length;simp only[length_toList] at e;lia
theorem Inv.tuple(I:Inv X pins σ H s)(h:bg X.K H a xs):∃az:List Value,Vals xs az/\IsTup s.heap a az.toArray/\xs.length<=sizeLine:=by
 rcases h with h | ⟨o,az,n,hk,hc,hs,hz,r⟩
 ·obtain⟨z,az,r,p⟩:=h.ok I.aG;exact⟨az,r,p,z⟩
 ·refine⟨az.toList,r,⟨o,I.cI a o hk,hc,n,by simpa using hs⟩,?_⟩
  have e:=r.length;simp only[length_toList] at e;lia
theorem Inv.Nq(I:Inv X pins σ H s)(h:aE X.K H a xs)(h':aE X.K H a ys):xs=ys:=by
 obtain⟨az,r,⟨o,n,e,_,_,d⟩,_⟩:=I.list h;obtain⟨its',r',⟨o',n',e',_,_,d'⟩,_⟩:=I.list h';rw[e] at e';cases e';rw[d] at d';injection d' with d1 _;have:az=its':=by simpa using congrArg Array.toList d1
 subst this;exact r.inj r'
theorem Inv.YJ(I:Inv X pins σ H s)(h:bg X.K H a xs)(h':bg X.K H a ys):xs=ys:=by
 obtain⟨az,r,⟨o,e,_,n,d⟩,_⟩:=I.tuple h;obtain⟨its',r',⟨o',e',_,n',d'⟩,_⟩:=I.tuple h';rw[e] at e';cases e';rw[d] at d';injection d' with d1 _;have:az=its':=by simpa using congrArg Array.toList d1
 subst this;exact r.inj r'
end
noncomputable abbrev Cx.jD(X:Cx)(E:Value->Shared->Prop):Cx:={ X with xe:=E }
noncomputable abbrev Cx.kK(X:Cx):Cx:=X.jD λ_ _=>False
theorem Cx.Ok.jD{X:Cx}(ok:X.Ok)(E:Value->Shared->Prop):(X.jD E).Ok :=
 ⟨ok.mod,ok.kind,ok.glob,ok.blt,ok.above,ok.inj,ok.has,ok.p_,ok.hd,ok.frames,ok.rK,ok.rL,ok.bs,ok.eW,ok.qa,ok.qb,ok.gK,ok.j5⟩
theorem Cx.Ok.kL{X:Cx}{E:Value->Shared->Prop}(ok:(X.jD E).Ok):X.Ok :=
 ⟨ok.mod,ok.kind,ok.glob,ok.blt,ok.above,ok.inj,ok.has,ok.p_,ok.hd,ok.frames,ok.rK,ok.rL,ok.bs,ok.eW,ok.qa,ok.qb,ok.gK,ok.j5⟩
section
variable{X:Cx}{pins:List (Addr×Obj)}{σ:St}{H:Hp}{s:Shared}{E:Value->Shared->Prop}
theorem Inv.jD(I:Inv X pins σ H s)(E:Value->Shared->Prop):Inv (X.jD E) pins σ H s:=⟨I.ok.jD E,I.os,I.bare,I.base,I.loc,I.cell,I.free,I.iF,I.pin,I.aG,I.len⟩
theorem Inv.kL(I:Inv (X.jD E) pins σ H s):Inv X pins σ H s:=⟨I.ok.kL,I.os,I.bare,I.base,I.loc,I.cell,I.free,I.iF,I.pin,I.aG,I.len⟩
theorem SP.kL{D:Ends}{f:Flow}{s':Shared}(h:SP (X.jD E) pins D f s'):SP X pins D f s':=by
 cases f with
 | next=>obtain⟨bf,H',I,q⟩:=h;exact⟨bf,H',I.kL,q⟩
 | brk=>obtain⟨bf,H',I,q⟩:=h;exact⟨bf,H',I.kL,q⟩
 | cont=>obtain⟨bf,H',I,q⟩:=h;exact⟨bf,H',I.kL,q⟩
 | ret u=>obtain⟨v,bf,H',I,r,q⟩:=h;exact⟨v,bf,H',I.kL,r,q⟩
theorem fB.kK{st:List Stmt}{t:TS}(h:fB X.kK st t):fB X st t:=λpins s σ H D I hw =>
 wpAny_mono (h pins s σ H D (I.jD _) hw) (λ_ _ q=>q.kL) λ_ _ z=>False.elim z
end
section
variable{X:Cx}{st:Stmt}{rest:List Stmt}{t u:TS}{e:Expr}{te:TE}{pos:Pos}
noncomputable def EI:TS:=λD σ H=>D.nx σ H
noncomputable def yu(t u:TS):TS:=λD σ H=>t { D with nx:=u D } σ H
theorem bY:fB X [] EI:=λ_ _ σ H _ I h=>wpAny_execs_nil ⟨σ,H,I,h⟩
theorem aB(h1:PS X st t)(h2:fB X rest u):fB X (st::rest) (yu t u):=by
 intro pins s σ H D I h;refine wpAny_execs_cons (aY (h1 pins s σ H { D with nx:=u D } I h) λf s1 q=>?_);cases f with
 | next =>
  obtain⟨bf,H',I',q⟩:=q;exact h2 pins s1 bf H' D I' q
 | ret v=>exact q
 | brk=>exact q
 | cont=>exact q
theorem aK(h1:PS X st t):fB X [st] t:=by
 intro pins s σ H D I h;refine wpAny_execs_cons (aY (h1 pins s σ H D I h) λf s1 q=>?_);cases f with
 | next=>exact wpAny_execs_nil q
 | ret v=>exact q
 | brk=>exact q
 | cont=>exact q
theorem Inv.quiet{pins:List (Addr×Obj)}{σ:St}{H:Hp}{s:Shared}(I:Inv X pins σ H s):interactive X.env=false:=by simp[interactive,I.ok.kind]
noncomputable def yw(te:TE):TS:=λD σ H=>te σ H λ_ H1=>D.nx σ H1
theorem c8(he:PE X e te)(hs:autoParam (swapsWith e none pos.line X.env=pure false) jE):PS X (.Expr e pos) (yw te):=by
 intro pins s σ H D I h;exact wpAny_Expr_any (aY (he pins s σ H _ I h) λv s1 ⟨x,H1,I1,r1,q1⟩=>⟨σ,H1,I1,q1⟩) I.quiet hs
noncomputable def yx(te:TE):TS:=λD σ H=>te σ H D.rt
theorem bO(he:PE X e te):PS X (.Return (some e) pos) (yx te):=by
 intro pins s σ H D I h;exact wpAny_Return_some (aY (he pins s σ H _ I h) λv s1 ⟨x,H1,I1,r1,q1⟩=>⟨x,σ,H1,I1,r1,q1⟩)
noncomputable def Nr:TS:=λD _ H=>D.rt .aW H
noncomputable def qc(c:TT)(t u:TS):TS:=λD σ H=>c σ H λb H1=>if b=true then t D σ H1 else u D σ H1
theorem dR{c:Expr}{a b:List Stmt}{tc:TT}(hc:PT X c tc)(ha:fB X a t)(hb:fB X b u):PS X (.If c a b pos) (qc tc t u):=by
 intro pins s σ H D I h;refine wpAny_If (aY (hc pins s σ H _ I h) λd s1 ⟨H1,I1,q1⟩=>?_);cases d with
 | true=>exact ha pins s1 σ H1 D I1 q1
 | false=>exact hb pins s1 σ H1 D I1 q1
noncomputable def EJ:TS:=λ_ _ _=>False
theorem gM{c9:List Stmt}:fB X c9 EJ:=λ_ _ _ _ _ _ h=>h.elim
end
noncomputable abbrev TG:=V->St->Hp->(St->Hp->Prop)->Prop
noncomputable abbrev oR:=List V->St->Hp->(St->Hp->Prop)->Prop
noncomputable def PG(X:Cx)(target:Expr)(t:TG):Prop :=
 ∀(pins:List (Addr×Obj)) (s:Shared) (σ:St) (H:Hp) (v:V) (u:Value) (Q:St->Hp->Prop),Inv X pins σ H s->RelV v u->t v σ H Q->
  wpAny (model X.prog X.w) X.A (assign target X.env u) (λ_ s'=>∃bf H',Inv X pins bf H' s'/\Q bf H') X.xe s
noncomputable def rP(X:Cx)(ts:List Expr)(t:oR):Prop :=
 ∀(pins:List (Addr×Obj)) (s:Shared) (σ:St) (H:Hp) (vs:List V) (us:List Value) (Q:St->Hp->Prop),Inv X pins σ H s->Vals vs us->t vs σ H Q->
  wpAny (model X.prog X.w) X.A (assignInOrder ((assignEach ts X.env).map (·.2)) us) (λ_ s'=>∃bf H',Inv X pins bf H' s'/\Q bf H') X.xe s
noncomputable abbrev EK:=V->V->V->Hp->(Hp->Prop)->Prop
noncomputable def Nt(X:Cx)(t:EK):Prop :=
 ∀(pins:List (Addr×Obj)) (s:Shared) (σ:St) (H:Hp) (o i v:V) (ov iv u:Value) (Q:Hp->Prop),Inv X pins σ H s->RelV o ov->RelV i iv->RelV v u->t o i v H Q->
  wpAny (model X.prog X.w) X.A (setItem ov iv u) (λ_ s'=>∃H',Inv X pins σ H' s'/\Q H') X.xe s
section
variable{X:Cx}{pos:Pos}
noncomputable def oU(i:Nat):TG:=λv σ H Q=>Q (σ.set i (some v)) H
theorem bE{i:Nat}{x:Str}(hN:X.N.Nodup)(hi:X.N[i]? = some x)(hx:Loc X.env.scope x)(hf:X.fn x=true\/X.env.scope.names.lookup x=some .local:=by first | exact .inl rfl | exact .inr rfl | assumption):PG X (.Name x pos) (oU i):=by
 intro pins s σ H v u Q I r h;exact wpAny_assign_Name (Ey I hN hi hx r (λs' I'=>⟨_,H,I',h⟩) hf)
noncomputable def yy:oR:=λvs σ H Q=>vs = []/\Q σ H
noncomputable def uv(t:TG)(u:oR):oR:=λvs σ H Q=>∃v r,vs=v::r/\t v σ H λbf H'=>u r bf H' Q
theorem jF:rP X [] yy:=by
 intro pins s σ H vs us Q I r h;obtain⟨e,h⟩:=h;subst e;cases r;exact assignInOrder_nil ⟨σ,H,I,h⟩
theorem eF{e:Expr}{es:List Expr}{t:TG}{u:oR}(h1:PG X e t)(h2:rP X es u)
  (hs:(assignEach (e::es) X.env).map (·.2)=assign e X.env::(assignEach es X.env).map (·.2):=by rfl):rP X (e::es) (uv t u):=by
 intro pins s σ H vs us Q I r h;obtain⟨v,vr,e1,h⟩:=h;subst e1;cases r with
 | cons r rr =>
  rw[hs];refine assignInOrder_cons (aY (h1 pins s σ H _ _ _ I r h) λ_ s1 ⟨dU,H1,I1,q1⟩=>?_);exact h2 pins s1 dU H1 _ _ Q I1 rr q1
noncomputable def uw(K:Frag)(n:Nat)(t:oR):TG:=λv σ H Q=>∃a xs,v = .ref a/\bg K H a xs/\xs.length=n/\t xs σ H Q
theorem kM{es:List Expr}{k:Nat}{t:oR}{n:Nat}(hc:X.calm=true)(h:rP X es t)
  (hn:(assignEach es X.env).length=n:=by rfl) (c_:(assignEach es X.env).findIdx? (·.1)=none:=by rfl):PG X (.Tuple es k pos) (uw X.K n t):=by
 intro pins s σ H v u Q I r hw;obtain⟨a,xs,e1,hq,hl,hw⟩:=hw;subst e1;cases r;obtain⟨az,rv,ht,hz⟩:=I.tuple hq;refine assign_Tuple_tuple (I.ok.hd hc) ht (by simp[hn,← hl,rv.length]) c_ λh' hx=>?_
 have I1:Inv X pins σ H { s with heap:=h' }:=I.kept (t':=s.toks) λb o e=>hx b o (Nat.ne_of_lt (lt_size e)) e;exact h pins _ σ H xs _ Q I1 (by simpa using rv) hw
noncomputable def EL(to ti:TE)(t:EK):TG:=λv σ H Q=>to σ H λo H1=>ti σ H1 λi H2=>t o i v H2 λH3=>Q σ H3
theorem ux{o i:Expr}{to ti:TE}{t:EK}(ho:PE X o to)(hi:PE X i ti)(hs:Nt X t)
  (ha:∀v,assign (.Subscript o i pos) X.env v=(do
   let ov ← holding [v] (eval o X.env)
   let iv ← holding [v,ov] (eval i X.env)
   standAt pos
   holding [v,ov,iv] (setItem ov iv v)
   release [v,ov,iv] []):=by intro _;rfl):PG X (.Subscript o i pos) (EL to ti t):=by
 intro pins s σ H v u Q I r h;rw[ha];refine wpAny_bind (wpAny_holding (aY (ho pins s σ H _ I h) λov s1 ⟨x,H1,I1,r1,q1⟩=>?_));refine wpAny_bind (wpAny_holding (aY (hi pins s1 σ H1 _ I1 q1) λiv s2 ⟨y,H2,I2,r2,q2⟩=>?_));refine wpAny_bind (wpAny_standAt (wpAny_bind (wpAny_holding (aY (hs pins s2 σ H2 x y v ov iv u _ I2 r1 r2 r q2) λ_ s3 ⟨H3,I3,q3⟩=>?_))));exact wpAny_release ⟨σ,H3,I3,q3⟩
noncomputable def uy(te:TE)(g:TG):TS:=λD σ H=>te σ H λx H1=>g x σ H1 D.nx
theorem rQ{tg e:Expr}{te:TE}{g:TG}(he:PE X e te)(hg:PG X tg g)(hs:autoParam (swapsWithSole [tg] e pos.line X.env=pure false) jE)(hw:autoParam (swappedStores [tg] e X.env=pure none) jE)
  (h1:(assignEach [tg] X.env).map (·.2) = [assign tg X.env]:=by rfl):PS X (.Assign [tg] e pos) (uy te g):=by
 intro pins s σ H D I h;refine wpAny_Assign_stores (aY (he pins s σ H _ I h) λv s1 ⟨x,H1,I1,r1,q1⟩=>?_) hs hw;rw[h1];exact aY (hg pins s1 σ H1 x v _ I1 r1 q1) λ_ s2 q=>q
theorem aX{i:Nat}{x:Str}{e:Expr}{te:TE}{pos':Pos}(hN:X.N.Nodup)(hi:X.N[i]? = some x)(hx:Loc X.env.scope x)(he:PE X e te)(hs:autoParam (swapsWith e (some (.Name x pos')) pos.line X.env=pure false) jE)(hf:X.fn x=true\/X.env.scope.names.lookup x=some .local:=by first | exact .inl rfl | exact .inr rfl | assumption) :
  PS X (.Assign [.Name x pos'] e pos) (uy te (oU i)):=by
 intro pins s σ H D I h;refine wpAny_Assign_Name (aY (he pins s σ H _ I h) λv s1 ⟨y,H1,I1,r1,q1⟩=>?_) hs;exact Ey I1 hN hi hx r1 (λs2 I2=>⟨_,H1,I2,q1⟩) hf
end
section
variable{X:Cx}{pos:Pos}
noncomputable def EM(c:TT)(tb:TS):TS:=λD σ H=>∃W:Nat->St->Hp->Prop,(∃m,W m σ H)/\∀m σ H,W m σ H->
 c σ H λb H1=>if b=true then ∃N:St->Hp->Prop,(∀bf H',N bf H'->∃m',m' < m/\W m' bf H')/\tb { D with nx:=N,ct:=N,bk:=D.nx } σ H1 else D.nx σ H1
theorem EN{c:Expr}{body:List Stmt}{tc:TT}{tb:TS}(hp:PassesOwn (model X.prog X.w) X.A X.env X.xe)(hc:PT X c tc)(hb:fB X body tb):PS X (.While c body [] pos) (EM tc tb):=by
 intro pins s σ H D I h;obtain⟨W,⟨m0,w0⟩,turn⟩:=h;refine wpAny_While (codeAny_whileLoop (λn s'=>∃bf H',Inv X pins bf H' s'/\W n bf H') ?_ m0 ⟨σ,H,I,w0⟩);rintro n s1 ⟨dU,H1,I1,w1⟩;refine wpAny_passesOwn hp (aY (hc pins s1 dU H1 _ I1 (turn n dU H1 w1)) λb s2 ⟨H2,I2,q2⟩=>?_);cases b with
 | true =>
  obtain⟨N,hN,q2⟩:=q2;rw[if_pos rfl];refine wpAny_passesOwn hp (aY (hb pins s2 dU H2 _ I2 q2) λf s3 q3=>?_);cases f with
  | next =>
   obtain⟨g_,H3,I3,n3⟩:=q3;obtain⟨m',hm,w3⟩:=hN g_ H3 n3;exact⟨m',hm,g_,H3,I3,w3⟩
  | cont =>
   obtain⟨g_,H3,I3,n3⟩:=q3;obtain⟨m',hm,w3⟩:=hN g_ H3 n3;exact⟨m',hm,g_,H3,I3,w3⟩
  | brk=>exact q3
  | ret v=>exact q3
 | false =>
  rw[if_neg Bool.false_ne_true];exact wpAny_execs_nil ⟨dU,H2,I2,q2⟩
end
structure It where
 go:Nat->Hp->Prop
 lT:Nat->Hp->V->Hp->Prop
 stop:Nat->Hp->Prop
noncomputable def lU(X:Cx)(pins:List (Addr×Obj))(H:Hp)(b:Addr):Prop :=
 H b=none/\b≠X.env.locals/\b∉X.fs/\(b∈X.ex\/X.bG.heap.objs.size<=b)/\(∀x c,X.env.cells.lookup x=some c->c≠b)/\∀p∈X.pn++pins,p.1≠b
theorem Inv.oV{X:Cx}{pins:List (Addr×Obj)}{σ:St}{H H':Hp}{s:Shared}{b:Addr}(I:Inv X pins σ H s)(hb:s.heap.objs.size<=b)(hn:H' b=none):lU X pins H' b:=by
 refine⟨hn,ne_of_gt (Nat.lt_of_lt_of_le I.lt hb),I.rM hb,.inr (Nat.le_trans I.sz hb),λx c e z=>?_,λp hp z=>?_⟩
 ·obtain⟨v,q⟩:=I.cell x c e;exact absurd (Nat.lt_of_lt_of_le q.lt (by rw[z];exact hb)) (Nat.lt_irrefl _)
 ·exact absurd (Nat.lt_of_lt_of_le (lt_size (I.pin p hp).1) (by rw[z];exact hb)) (Nat.lt_irrefl _)
structure Turn(P:Program)(w:World)(K:Frag)(tg:Expr)(J:It)(fp:List Addr)(it:Addr)(tn:Nat->Heap->Prop):Prop where
 mem:it∈fp
 obj:∀i h,tn i h->∀b∈fp,∃o,h.get? b=some o/\∀v,o.data≠.cell v
 keep:∀i h h',tn i h->(∀b∈fp,∀o,h.get? b=some o->h'.get? b=some o)->tn i h'
 item:∀(X:Cx),X.prog=P->X.w=w->X.K=K->X.calm=true->∀(i:Nat) (pins:List (Addr×Obj)) (s:Shared) (σ:St) (H:Hp) (E:Value->Shared->Prop),Inv X pins σ H s->(∀b∈fp,lU X pins H b)->tn i s.heap->J.go i H->
  wpAny (model P w) X.A (pyNext (.ref it)) (λr s1=>∃u,r=some u/\
   wpAny (model P w) X.A (letOwnedTupleGo tg (.ref it) u) (λ_ s2=>∃x H',Inv X pins σ H' s2/\RelV x u/\J.lT i H x H'/\tn (i+1) s2.heap/\∀b∈fp,H' b=none) E s1) E s
 done:∀(X:Cx),X.prog=P->X.w=w->X.K=K->X.calm=true->∀(i:Nat) (pins:List (Addr×Obj)) (s:Shared) (σ:St) (H:Hp) (E:Value->Shared->Prop),Inv X pins σ H s->(∀b∈fp,lU X pins H b)->tn i s.heap->J.stop i H->
  wpAny (model P w) X.A (pyNext (.ref it)) (λr s1=>r=none/\Inv X pins σ H s1) E s
 self:∀(A:Around) (i:Nat) (s:Shared) (Q:Value->Shared->Prop) (E:Value->Shared->Prop),tn i s.heap->Q (.ref it) s->wpAny (model P w) A (pyIter (.ref it)) Q E s
noncomputable abbrev TI:=St->Hp->(It->Hp->Prop)->Prop
noncomputable def Nu(X:Cx)(pins:List (Addr×Obj))(σ:St)(tg:Expr)(R:It->Hp->Prop)(yz:Value)(s2:Shared):Prop :=
 ∃(it:Addr) (fp:List Addr) (tn:Nat->Heap->Prop) (J:It) (H':Hp),yz = .ref it/\Inv X pins σ H' s2/\Turn X.prog X.w X.K tg J fp it tn/\tn 0 s2.heap/\(∀b∈fp,lU X pins H' b)/\R J H'
noncomputable def PI(X:Cx)(tg iter:Expr)(wi:TI):Prop :=
 ∀(pins:List (Addr×Obj)) (s:Shared) (σ:St) (H:Hp) (R:It->Hp->Prop),Inv X pins σ H s->wi σ H R->
  wpAny (model X.prog X.w) X.A (eval iter X.env) (λv s1=>wpAny (model X.prog X.w) X.A (pyIter v) (Nu X pins σ tg R) X.xe s1) X.xe s
theorem yC{M:Model}{A:Around}{E:Value->Shared->Prop}{s:Shared}{tg:Expr}{it:Addr}{u:Value}{o:Obj}{n:String}{vs:Array Value}{Q:Unit->Shared->Prop}(ho:s.heap.get? it=some o)(hc:o.cls = .type n)(hd:o.data = .fields vs)
  (hn:["enumerate", "zip", "dict_itemiterator", "dict_reverseitemiterator", "odict_iterator", "itertools.zip_longest", "itertools.pairwise"].contains n=false) (hQ:Q () s):wpAny M A (letOwnedTupleGo tg (.ref it) u) Q E s:=by
 unfold letOwnedTupleGo;cases tg <;> first
  | exact wpAny_pure hQ
  | (cases u <;> first
    | exact wpAny_pure hQ
    | (refine wpAny_bind (wpAny_load ho ?_)
       rw[hc,hd]
       show wpAny M A (if (["enumerate", "zip", "dict_itemiterator", "dict_reverseitemiterator", "odict_iterator", "itertools.zip_longest", "itertools.pairwise"].contains n && vs[0]? == some (rawInt _))=true then _ else _) Q E s
       rw[if_neg (by intro h;rw[hn,Bool.false_and] at h;cases h)]
       exact wpAny_pure hQ))
noncomputable def oW(K:Frag)(a:Addr):It :=
 ⟨λi H=>∃xs x,aE K H a xs/\xs[i]? = some x,λi H x H'=>H' = H/\∀xs,aE K H a xs->xs[i]? = some x,λi H=>∃xs,aE K H a xs/\xs.length<=i⟩
noncomputable def uz(K:Frag)(a:Addr):It :=
 ⟨λi H=>∃xs x,bg K H a xs/\xs[i]? = some x,λi H x H'=>H' = H/\∀xs,bg K H a xs->xs[i]? = some x,λi H=>∃xs,bg K H a xs/\xs.length<=i⟩
noncomputable def lV(lo:Int)(n:Nat):It:=⟨λi _=>i<n,λi H x H'=>H' = H/\x = .int (lo+i),λi _=>n<=i⟩
theorem YK{P:Program}{w:World}{K:Frag}{tg:Expr}(a it:Addr):Turn P w K tg (oW K a) [it] it (λi h=>h.IsListIter it a i) where
 mem:=by simp
 obj:=λi h st b hb=>by
  have e:b=it:=by simpa using hb
  subst e;obtain⟨o,e,c,d⟩:=st;exact⟨o,e,λv z=>by rw[d] at z;cases z⟩
 keep:=λi h h' st k=>st.at λo e=>k it (by simp) o e
 item:=by
  intro X hP hw hK hc i pins s σ H E I hf st hg;subst hP hw hK;obtain⟨xs,x,hq,hx⟩:=hg;obtain⟨az,rv,p,hz⟩:=I.list hq;obtain⟨u,hu,ru⟩:=rv.get hx;obtain⟨f0,f1,f2,f3,f4,f5⟩:=hf it (by simp)
  refine wpAny_pyNext_list_item st p.isList (x:=u) (by simpa using hu) λh' h_ sb=>?_
  have I1:Inv X pins σ H { s with heap:=h' }:=I.turned (t':=s.toks) (λb o hb e=>(sb.2 b hb).trans e) f0 f1 f3 f4 f5;obtain⟨o,e,c,d⟩:=id h_;exact⟨u,rfl,yC (s:={ s with heap:=h' }) e c d (by decide) ⟨x,H,I1,ru,⟨rfl,λys hy=>by rw[I.Nq hy hq];exact hx⟩,h_,λb hb=>(hf b hb).1⟩⟩
 done:=by
  intro X hP hw hK hc i pins s σ H E I hf st hg;subst hP hw hK;obtain⟨xs,hq,hx⟩:=hg;obtain⟨az,rv,p,hz⟩:=I.list hq;obtain⟨f0,f1,f2,f3,f4,f5⟩:=hf it (by simp)
  have hl:=rv.length;exact wpAny_pyNext_list_end (I.ok.hd hc) st p.isList (by simp;lia) λh' eb=>⟨rfl,I.turned (t':=s.toks) (λb o hb e=>eb b o hb e) f0 f1 f3 f4 f5⟩
 self:=λ_ _ _ _ _ st h=>wpAny_pyIter_listiter st h
theorem YL{P:Program}{w:World}{K:Frag}{tg:Expr}(a it:Addr):Turn P w K tg (uz K a) [it] it (λi h=>h.IsTupleIter it a i) where
 mem:=by simp
 obj:=λi h st b hb=>by
  have e:b=it:=by simpa using hb
  subst e;obtain⟨o,e,c,d⟩:=st;exact⟨o,e,λv z=>by rw[d] at z;cases z⟩
 keep:=λi h h' st k=>st.at λo e=>k it (by simp) o e
 item:=by
  intro X hP hw hK hc i pins s σ H E I hf st hg;subst hP hw hK;obtain⟨xs,x,hq,hx⟩:=hg;obtain⟨az,rv,p,hz⟩:=I.tuple hq;obtain⟨u,hu,ru⟩:=rv.get hx;obtain⟨f0,f1,f2,f3,f4,f5⟩:=hf it (by simp)
  refine wpAny_pyNext_tuple_item st (show s.heap.IsTuple a az.toArray from p) (x:=u) (by simpa using hu) λh' h_ sb=>?_
  have I1:Inv X pins σ H { s with heap:=h' }:=I.turned (t':=s.toks) (λb o hb e=>(sb.2 b hb).trans e) f0 f1 f3 f4 f5;obtain⟨o,e,c,d⟩:=id h_;exact⟨u,rfl,yC (s:={ s with heap:=h' }) e c d (by decide) ⟨x,H,I1,ru,⟨rfl,λys hy=>by rw[I.YJ hy hq];exact hx⟩,h_,λb hb=>(hf b hb).1⟩⟩
 done:=by
  intro X hP hw hK hc i pins s σ H E I hf st hg;subst hP hw hK;obtain⟨xs,hq,hx⟩:=hg;obtain⟨az,rv,p,hz⟩:=I.tuple hq;obtain⟨f0,f1,f2,f3,f4,f5⟩:=hf it (by simp)
  have hl:=rv.length;exact wpAny_pyNext_tuple_end (I.ok.hd hc) st (show s.heap.IsTuple a az.toArray from p) (by simp;lia) λh' eb=>⟨rfl,I.turned (t':=s.toks) (λb o hb e=>eb b o hb e) f0 f1 f3 f4 f5⟩
 self:=λ_ _ _ _ _ st h=>wpAny_pyIter_tupleiter st h
theorem YM{P:Program}{w:World}{K:Frag}{tg:Expr}(it:Addr)(lo:Int)(n:Nat):Turn P w K tg (lV lo n) [it] it (λi h=>IsRangeIter h it (lo+(i:Nat)*1) ((n:Int) - (i:Nat)) 1) where
 mem:=by simp
 obj:=λi h st b hb=>by
  have e:b=it:=by simpa using hb
  subst e;exact⟨_,st,λv z=>by
   have z':Data.fields _=Data.cell v:=z;cases z'⟩
 keep:=λi h h' st k=>k it (by simp) _ st
 item:=by
  intro X hP hw hK hc i pins s σ H E I hf st hg;subst hP hw hK;obtain⟨f0,f1,f2,f3,f4,f5⟩:=hf it (by simp)
  have W:=Walks.range (prog:=X.prog) (w:=X.w) (I.ok.hd hc) it lo 1 n;refine W.item i s _ _ hg st λv h' tk hv h_ kk=>?_;obtain⟨t,rfl⟩:=hv;have I1:Inv X pins σ H { s with heap:=h',toks:=tk }:=I.turned (λb o hb e=>kk b o (by simpa using hb) e) f0 f1 f3 f4 f5
  refine⟨_,rfl,yC (s:={ s with heap:=h',toks:=tk }) (n := "range_iterator") h_ rfl rfl (by decide) ⟨.int (lo+i),H,I1,⟨t,?_⟩,⟨rfl,rfl⟩,h_,λb hb=>(hf b hb).1⟩⟩
  rw[Int.mul_one]
 done:=by
  intro X hP hw hK hc i pins s σ H E I hf st hg;subst hP hw hK;obtain⟨f0,f1,f2,f3,f4,f5⟩:=hf it (by simp)
  exact wpAny_pyNext_range_end (I.ok.hd hc) st (by have:n<=i:=hg;lia) λh' eb=>⟨rfl,I.turned (t':=s.toks) (λb o hb e=>eb b o hb e) f0 f1 f3 f4 f5⟩
 self:=λ_ _ _ _ _ st h=>wpAny_pyIter_rangeiter st h
section
variable{X:Cx}{tg:Expr}
noncomputable def oX(K:Frag)(tl:TE):TI:=λσ H R=>tl σ H λx H1=>∃a,x = .ref a/\(∃xs,aE K H1 a xs)/\R (oW K a) H1
noncomputable def Nv(K:Frag)(tl:TE):TI:=λσ H R=>tl σ H λx H1=>∃a,x = .ref a/\(∃xs,bg K H1 a xs)/\R (uz K a) H1
theorem fj{l:Expr}{tl:TE}(hl:PE X l tl):PI X tg l (oX X.K tl):=by
 intro pins s σ H R I h;refine aY (hl pins s σ H _ I h) λv s1 ⟨x,H1,I1,r1,q1⟩=>?_;obtain⟨a,e,⟨xs,hq⟩,q⟩:=q1;subst e;cases r1;obtain⟨az,rv,p,hz⟩:=I1.list hq;refine wpAny_pyIter_list p.isList ?_;refine⟨s1.heap.objs.size,[s1.heap.objs.size],_,_,H1,rfl,I1.kept (t':=s1.toks) λb o e=>get?_push_of_some _ e,YK a _,⟨_,get?_push_size _ rfl,rfl,rfl⟩,λb hb=>?_,q⟩;have e:b=s1.heap.objs.size:=by simpa using hb
 subst e;exact I1.oV (Nat.le_refl _) (I1.aG.fresh (Nat.le_refl _))
theorem Nx{l:Expr}{tl:TE}(hl:PE X l tl):PI X tg l (Nv X.K tl):=by
 intro pins s σ H R I h;refine aY (hl pins s σ H _ I h) λv s1 ⟨x,H1,I1,r1,q1⟩=>?_;obtain⟨a,e,⟨xs,hq⟩,q⟩:=q1;subst e;cases r1;obtain⟨az,rv,p,hz⟩:=I1.tuple hq;refine wpAny_pyIter_tuple (show s1.heap.IsTuple a az.toArray from p) ?_;refine⟨s1.heap.objs.size,[s1.heap.objs.size],_,_,H1,rfl,I1.kept (t':=s1.toks) λb o e=>get?_push_of_some _ e,YL a _,⟨_,get?_push_size _ rfl,rfl,rfl⟩,λb hb=>?_,q⟩;have e:b=s1.heap.objs.size:=by simpa using hb
 subst e;exact I1.oV (Nat.le_refl _) (I1.aG.fresh (Nat.le_refl _))
theorem Ny{pins:List (Addr×Obj)}{σ:St}{H:Hp}{s:Shared}{R:It->Hp->Prop}{E:Value->Shared->Prop}{lo hi:Int}{t u v:Tok}{tk:Nat}(I:Inv X pins σ H s)(h1 : -(2 ^ 62)<=lo)(h2:lo<2 ^ 62)(h3 : -(2 ^ 62)<=hi)(h4:hi<2 ^ 62)
  (q:R (lV lo (hi - lo).toNat) H):wpAny (model X.prog X.w) X.A (pyIter (.ref s.heap.objs.size)) (Nu X pins σ tg R) E { s with heap:=s.heap.push { cls:=.type "range",data:=.fields #[.int lo t,.int hi u,.int 1 v] },toks:=tk }:=by
 refine wpAny_pyIter_range (IsRange.new ..) (small_one h1 h2 h3 h4) ?_;have I1:Inv X pins σ H { s with heap:=s.heap.push { cls:=.type "range",data:=.fields #[.int lo t,.int hi u,.int 1 v] },toks:=tk }:=I.kept λb o e=>get?_push_of_some _ e;refine⟨(s.heap.push { cls:=.type "range",data:=.fields #[.int lo t,.int hi u,.int 1 v] }).objs.size,[(s.heap.push { cls:=.type "range",data:=.fields #[.int lo t,.int hi u,.int 1 v] }).objs.size],_,_,H,rfl,
  I1.kept (t':=tk) λb o e=>get?_push_of_some _ e,YM _ lo (hi - lo).toNat,?_,λb hb=>?_,q⟩
 ·have e1:lo+((0:Nat):Int)*1=lo:=by simp
  have e2:(((hi - lo).toNat:Nat):Int) - ((0:Nat):Int)=Builtin.Range.rangeSize lo hi 1:=by rw[rangeSize_one];split <;> lia
  show IsRangeIter _ _ (lo+((0:Nat):Int)*1) ((((hi - lo).toNat:Nat):Int) - ((0:Nat):Int)) 1;rw[e1,e2];exact get?_push_size _ rfl
 ·have e:b=(s.heap.push { cls:=.type "range",data:=.fields #[.int lo t,.int hi u,.int 1 v] }).objs.size:=by simpa using hb
  subst e;exact I1.oV (Nat.le_refl _) (I1.aG.fresh (Nat.le_refl _))
noncomputable def rR(ta:TA):TI:=λσ H R=>ta σ H λvs H1=>∃j:Int,vs = [.int j]/\-(2 ^ 62)<=j/\j<2 ^ 62/\R (lV 0 j.toNat) H1
noncomputable def uA(ta:TA):TI:=λσ H R=>ta σ H λvs H1=>∃i j:Int,vs = [.int i,.int j]/\(-(2 ^ 62)<=i/\i<2 ^ 62/\-(2 ^ 62)<=j/\j<2 ^ 62)/\R (lV i (j - i).toNat) H1
theorem iH{a:Expr}{ta:TA}{p pos:Pos}(hg:Gl X "range")(hm:X.mg "range" = none)(ha:PA X [a] ta)(hs:autoParam (starEach [a] X.env = [(false,eval a X.env)]) jE):PI X tg (.Call (.Name "range" p) [a] [] pos) (rR ta):=by
 intro pins s σ H R I h;refine Call_ (kJ I hg hm boot_range (PyProof.Rows.callWith_type1 (aY (ha pos pins s σ H _ I h) λus s1 ⟨vs,H1,I1,r1,q1⟩=>?_) hs rfl));obtain⟨j,e,q1,q2,q⟩:=q1;subst e;cases r1 with
 | cons r rr =>
  cases rr;obtain⟨t,rfl⟩:=r;exact call_range_1 (Ny I1 ∅ ∅ q1 q2 (by simpa using q))
theorem rS{a b:Expr}{ta:TA}{p pos:Pos}(hg:Gl X "range")(hm:X.mg "range" = none)(ha:PA X [a,b] ta)(hs:autoParam (starEach [a,b] X.env = [(false,eval a X.env),(false,eval b X.env)]) jE)(lW:autoParam (starEach [b] X.env = [(false,eval b X.env)]) jE) :
  PI X tg (.Call (.Name "range" p) [a,b] [] pos) (uA ta):=by
 intro pins s σ H R I h;refine Call_ (kJ I hg hm boot_range (PyProof.Rows.callWith_type1 (aY (ha pos pins s σ H _ I h) λus s1 ⟨vs,H1,I1,r1,q1⟩=>?_) (by rw[hs,lW]) (by rw[lW];rfl)))
 obtain⟨i,j,e,⟨q1,q2,q3,q4⟩,q⟩:=q1;subst e;cases r1 with
 | cons r rr =>
  cases rr with
  | cons r' rr =>
   cases rr;obtain⟨t,rfl⟩:=r;obtain⟨t',rfl⟩:=r';exact call_range_2 (Ny I1 q1 q2 q3 q4 q)
noncomputable def i9(wi:TI)(g:TG)(tb:TS):TS:=λD σ H=>wi σ H λJ H1=>∃W:Nat->Nat->St->Hp->Prop,(∃m,W 0 m σ H1)/\∀i m σ H,W i m σ H->
 (J.stop i H/\D.nx σ H)\/(J.go i H/\∃N:St->Hp->Prop,(∀bf H',N bf H'->∃m',m' < m/\W (i+1) m' bf H')/\∀x H',J.lT i H x H'->g x σ H' λaA H2=>tb { D with nx:=N,ct:=N,bk:=D.nx } aA H2)
noncomputable def uB(fp:List Addr)(h:Heap):List (Addr×Obj):=fp.filterMap λb=>(h.get? b).map λo=>(b,o)
theorem yD{fp:List Addr}{h:Heap}{b:Addr}{o:Obj}(hb:b∈fp)(e:h.get? b=some o):(b,o)∈uB fp h:=mem_filterMap.mpr ⟨b,hb,by rw[e];rfl⟩
theorem YN{fp:List Addr}{h:Heap}{p:Addr×Obj}(hp:p∈uB fp h):p.1∈fp/\h.get? p.1=some p.2:=by
 obtain⟨b,hb,e⟩:=mem_filterMap.mp hp;cases q:h.get? b with
 | none=>rw[q] at e;cases e
 | some o =>
  rw[q] at e;have e':(b,o)=p:=Option.some.inj e;subst e';exact⟨hb,q⟩
theorem Inv.pinned{pins:List (Addr×Obj)}{σ:St}{H:Hp}{s:Shared}{fp:List Addr}(I:Inv X pins σ H s)(hf:∀b∈fp,lU X pins H b)(ho:∀b∈fp,∃o,s.heap.get? b=some o/\∀v,o.data≠.cell v):Inv X (pins++uB fp s.heap) σ H s :=
 I.i8 λp hp=>(mem_append.mp hp).elim (λz=>I.pin p (mem_append_right _ z)) λz=>by
  obtain⟨hb,e⟩:=YN z;obtain⟨f0,f1,f2,_⟩:=hf p.1 hb;obtain⟨o,e',d⟩:=ho p.1 hb;rw[e] at e';cases e';exact⟨e,f0,f1,f2,d⟩
theorem Inv.uC{pins pl:List (Addr×Obj)}{σ:St}{H:Hp}{s:Shared}(I:Inv X (pins++pl) σ H s):Inv X pins σ H s:=I.i8 λp hp=>I.pin p (mem_append_right _ (mem_append_left _ hp))
theorem d9{iter:Expr}{body:List Stmt}{wi:TI}{g:TG}{tb:TS}{pos:Pos}(hp:PassesOwn (model X.prog X.w) X.A X.env X.xe)(hc:X.calm=true)(hi:PI X tg iter wi)(hg:PG X tg g)(hb:fB X body tb)
  (hs:∀x,foldedSetIterable iter X.env x=pure x:=by intro _;rfl):PS X (.For tg iter body [] pos) (i9 wi g tb):=by
 intro pins s σ H D I h;refine wpAny_For (aY (hi pins s σ H _ I h) λv s1 h1=>aY h1 λyz s2 h2=>?_) hs;obtain⟨it,fp,tn,J,H2,e,I2,T,lX,f2,W,⟨m0,w0⟩,turn⟩:=h2;subst e
 -- what stays true of the iterator's objects through the loop
 have qd:∀ {H':Hp},(∀b∈fp,H' b=none)->∀b∈fp,lU X pins H' b:=λhn b hb=>⟨hn b hb,(f2 b hb).2⟩;refine codeAny_forLoop_any (λn s'=>∃i bf H',Inv X pins bf H' s'/\tn i s'.heap/\(∀b∈fp,H' b=none)/\W i n bf H') ?_ m0 ⟨0,σ,H2,I2,lX,λb hb=>(f2 b hb).1,w0⟩;rintro n s3 ⟨i,g_,H3,I3,qe,qg,w3⟩;rcases turn i n g_ H3 w3 with⟨stop,qn⟩ | ⟨go,N,hN,step⟩
 ·refine wpAny_passesOwn hp (aY (T.done X rfl rfl rfl hc i pins s3 g_ H3 X.xe I3 (qd qg) qe stop) λr s4 ⟨hr,I4⟩=>?_);subst hr;exact wpAny_execs_nil ⟨g_,H3,I4,qn⟩
 ·refine wpAny_passesOwn hp (aY (T.item X rfl rfl rfl hc i pins s3 g_ H3 X.xe I3 (qd qg) qe go) λr s4 ⟨u,hr,h4⟩=>?_);subst hr;refine wpAny_passesOwn hp (aY h4 λ_ s5 ⟨x,H5,I5,r5,zz⟩=>?_);obtain⟨y5,qh,EO⟩:=zz;have ER:=I5.pinned (qd EO) (T.obj _ _ qh);refine wpAny_passesOwn hp (aY (hg _ s5 g_ H5 x u _ ER r5 (step x H5 y5)) λ_ s6 ⟨oY,H6,I6,q6⟩=>?_);refine wpAny_passesOwn hp (aY (hb _ s6 oY H6 _ I6 q6) λf s7 q7=>?_);have again:∀ {i_:St} {H7:Hp},Inv X (pins++uB fp s5.heap) i_ H7 s7->N i_ H7->∃m,m<n/\∃i bf H',Inv X pins bf H' s7/\tn i s7.heap/\(∀b∈fp,H' b=none)/\W i m bf H':=λ{i_ H7} I7 n7=>by
   obtain⟨m',hm,w7⟩:=hN i_ H7 n7;refine⟨m',hm,i+1,i_,H7,I7.uC,T.keep _ _ _ qh λb hb o e=>(I7.pin (b,o) (mem_append_right _ (mem_append_right _ (yD hb e)))).1,λb hb=>?_,w7⟩;obtain⟨o,e,d⟩:=T.obj _ _ qh b hb;exact(I7.pin (b,o) (mem_append_right _ (mem_append_right _ (yD hb e)))).2.1
  cases f with
  | next=>obtain⟨i_,H7,I7,n7⟩:=q7;exact again I7 n7
  | cont=>obtain⟨i_,H7,I7,n7⟩:=q7;exact again I7 n7
  | brk=>obtain⟨i_,H7,I7,q7⟩:=q7;exact⟨i_,H7,I7.uC,q7⟩
  | ret v=>obtain⟨x7,i_,H7,I7,r7,q7⟩:=q7;exact⟨x7,i_,H7,I7.uC,r7,q7⟩
end
theorem Nz{K:Frag}{a:Addr}{xs:List V}{g:TG}{tb:TS}{D:Ends}{σ:St}{H:Hp}(Pv:Nat->St->Hp->Prop)(h0:Pv 0 σ H)(hl:∀i σ H,i<=xs.length->Pv i σ H->aE K H a xs)
  (hs:∀i x σ H,xs[i]? = some x->Pv i σ H->g x σ H λaA H2=>tb { D with nx:=Pv (i+1),ct:=Pv (i+1),bk:=D.nx } aA H2) (hd:∀σ H,Pv xs.length σ H->D.nx σ H) :
  ∃W:Nat->Nat->St->Hp->Prop,(∃m,W 0 m σ H)/\∀i m σ H,W i m σ H->
   ((oW K a).stop i H/\D.nx σ H)\/((oW K a).go i H/\∃N:St->Hp->Prop,(∀bf H',N bf H'->∃m',m' < m/\W (i+1) m' bf H')/\∀x H',(oW K a).lT i H x H'->g x σ H' λaA H2=>tb { D with nx:=N,ct:=N,bk:=D.nx } aA H2):=by
 refine⟨λi m σ H=>m=xs.length - i/\i<=xs.length/\Pv i σ H,⟨xs.length,by simp,zero_le _,h0⟩,?_⟩
 rintro i m σ H ⟨rfl,hi,p⟩;have q:=hl i σ H hi p;by_cases bL:i<xs.length
 ·refine .inr ⟨⟨xs,xs[i],q,by simp[bL]⟩,Pv (i+1),λbf H' p'=>⟨xs.length - (i+1),∅,rfl,bL,p'⟩,λx H' y=>?_⟩
  obtain⟨e,y⟩:=y;subst e;exact hs i x σ _ (y xs q) p
 ·have e:i=xs.length:=by lia
  subst e;exact .inl ⟨⟨xs,q,Nat.le_refl _⟩,hd σ H p⟩
theorem YO{K:Frag}{a:Addr}{xs:List V}{g:TG}{tb:TS}{D:Ends}{σ:St}{H:Hp}(Pv:Nat->St->Hp->Prop)(h0:Pv 0 σ H)(hl:∀i σ H,i<=xs.length->Pv i σ H->bg K H a xs)
  (hs:∀i x σ H,xs[i]? = some x->Pv i σ H->g x σ H λaA H2=>tb { D with nx:=Pv (i+1),ct:=Pv (i+1),bk:=D.nx } aA H2) (hd:∀σ H,Pv xs.length σ H->D.nx σ H) :
  ∃W:Nat->Nat->St->Hp->Prop,(∃m,W 0 m σ H)/\∀i m σ H,W i m σ H->
   ((uz K a).stop i H/\D.nx σ H)\/((uz K a).go i H/\∃N:St->Hp->Prop,(∀bf H',N bf H'->∃m',m' < m/\W (i+1) m' bf H')/\∀x H',(uz K a).lT i H x H'->g x σ H' λaA H2=>tb { D with nx:=N,ct:=N,bk:=D.nx } aA H2):=by
 refine⟨λi m σ H=>m=xs.length - i/\i<=xs.length/\Pv i σ H,⟨xs.length,by simp,zero_le _,h0⟩,?_⟩
 rintro i m σ H ⟨rfl,hi,p⟩;have q:=hl i σ H hi p;by_cases bL:i<xs.length
 ·refine .inr ⟨⟨xs,xs[i],q,by simp[bL]⟩,Pv (i+1),λbf H' p'=>⟨xs.length - (i+1),∅,rfl,bL,p'⟩,λx H' y=>?_⟩
  obtain⟨e,y⟩:=y;subst e;exact hs i x σ _ (y xs q) p
 ·have e:i=xs.length:=by lia
  subst e;exact .inl ⟨⟨xs,q,Nat.le_refl _⟩,hd σ H p⟩
theorem ES{lo:Int}{n:Nat}{g:TG}{tb:TS}{D:Ends}{σ:St}{H:Hp}(Pv:Nat->St->Hp->Prop)(h0:Pv 0 σ H)
  (hs:∀i σ H,i<n->Pv i σ H->g (.int (lo+i)) σ H λaA H2=>tb { D with nx:=Pv (i+1),ct:=Pv (i+1),bk:=D.nx } aA H2) (hd:∀σ H,Pv n σ H->D.nx σ H) :
  ∃W:Nat->Nat->St->Hp->Prop,(∃m,W 0 m σ H)/\∀i m σ H,W i m σ H->
   ((lV lo n).stop i H/\D.nx σ H)\/((lV lo n).go i H/\∃N:St->Hp->Prop,(∀bf H',N bf H'->∃m',m' < m/\W (i+1) m' bf H')/\∀x H',(lV lo n).lT i H x H'->g x σ H' λaA H2=>tb { D with nx:=N,ct:=N,bk:=D.nx } aA H2):=by
 refine⟨λi m σ H=>m=n - i/\i<=n/\Pv i σ H,⟨n,by simp,zero_le _,h0⟩,?_⟩
 rintro i m σ H ⟨rfl,hi,p⟩;by_cases bL:i<n
 ·refine .inr ⟨bL,Pv (i+1),λbf H' p'=>⟨n - (i+1),∅,rfl,bL,p'⟩,λx H' y=>?_⟩
  obtain⟨e,y⟩:=y;subst e y;exact hs i σ _ bL p
 ·have e:i=n:=by lia
  subst e;exact .inl ⟨Nat.le_refl _,hd σ H p⟩
noncomputable abbrev R2:=V->V->Hp->VK->Prop
noncomputable def cJ(X:Cx)(f:Value->Value->Sem Value)(r:R2):Prop :=
 ∀(pins:List (Addr×Obj)) (s:Shared) (σ:St) (H:Hp) (x y:V) (v u:Value) (Q:VK),Inv X pins σ H s->RelV x v->RelV y u->r x y H Q->
  wpAny (model X.prog X.w) X.A (f v u) (EP X pins σ Q) X.xe s
noncomputable def ET(X:Cx)(f:Value->Sem Value)(r:V->Hp->VK->Prop):Prop :=
 ∀(pins:List (Addr×Obj)) (s:Shared) (σ:St) (H:Hp) (x:V) (v:Value) (Q:VK),Inv X pins σ H s->RelV x v->r x H Q->
  wpAny (model X.prog X.w) X.A (f v) (EP X pins σ Q) X.xe s
noncomputable def f9(X:Cx)(f:Value)(r:List V->Hp->VK->Prop):Prop :=
 ∀(pins:List (Addr×Obj)) (s:Shared) (σ:St) (H:Hp) (xs:List V) (us:List Value) (Q:VK),Inv X pins σ H s->Vals xs us->r xs H Q->
  wpAny (model X.prog X.w) X.A (call f us) (EP X pins σ Q) X.xe s
noncomputable def oZ(r:R2)(ta tb:TE):TE:=λσ H Q=>ta σ H λx H1=>tb σ H1 λy H2=>r x y H2 Q
noncomputable def EU(r:V->Hp->VK->Prop)(ta:TE):TE:=λσ H Q=>ta σ H λx H1=>r x H1 Q
noncomputable def rI(C:Int->Int->Prop)(g:Int->Int->V):R2:=λx y H Q=>∃i j,x = .int i/\y = .int j/\C i j/\Q (g i j) H
noncomputable def iI(g:Int->Int->V):R2:=λx y H Q=>∃i j,x = .int i/\y = .int j/\Q (g i j) H
noncomputable def rU(g:Int->V):V->Hp->VK->Prop:=λx H Q=>∃i,x = .int i/\Q (g i) H
section
variable{X:Cx}{a b c:Expr}{ta tb tc:TE}{pos:Pos}
theorem EV(ha:PE X a ta)(hb:PE X b tb){pins:List (Addr×Obj)}{s:Shared}{σ:St}{H:Hp}{R:V->V->Hp->Prop}(I:Inv X pins σ H s)
  (h:ta σ H λx H1=>tb σ H1 λy H2=>R x y H2) {Q:Value->Shared->Prop} {f:Value->Value->Sem Value}
  (hf:∀v u s2 x y H2,Inv X pins σ H2 s2->RelV x v->RelV y u->R x y H2->wpAny (model X.prog X.w) X.A (f v u) Q X.xe s2) :
  wpAny (model X.prog X.w) X.A (eval a X.env) (λv aZ=>wpAny (model X.prog X.w) X.A (eval b X.env) (λu gA=>wpAny (model X.prog X.w) X.A (f v u) Q X.xe gA) X.xe aZ) X.xe s:=by
 refine aY (ha pins s σ H _ I h) λv s1 ⟨x,H1,I1,r1,q1⟩=>?_;refine aY (hb pins s1 σ H1 _ I1 q1) λu s2 ⟨y,H2,I2,r2,q2⟩=>?_;exact hf v u s2 x y H2 I2 r1 r2 q2
theorem aH{op:Operator}{r:R2}(ho:cJ X (binaryOp op) r)(ha:PE X a ta)(hb:PE X b tb):PE X (.BinOp a op b pos) (oZ r ta tb):=by
 intro pins s σ H Q I h;exact wpAny_BinOp (EV ha hb I h λv u s2 x y H2 I2 rx ry q=>ho pins s2 σ H2 x y v u Q I2 rx ry q)
theorem yE{op:UnaryOp}{r:V->Hp->VK->Prop}(ho:ET X (unaryOp op) r)(ha:PE X a ta):PE X (.UnaryOp op a pos) (EU r ta):=by
 intro pins s σ H Q I h;exact UnaryOp_ (aY (ha pins s σ H _ I h) λv s1 ⟨x,H1,I1,r1,q1⟩=>ho pins s1 σ H1 x v Q I1 r1 q1)
theorem yF{f:Value->Value->Sem Value}{C:Int->Int->Prop}{g:Int->Int->Int}
  (rule:∀(i j:Int) (t u:Tok) (s:Shared) (Q:Value->Shared->Prop) (E:Value->Shared->Prop),C i j->Q (.int (g i j) s.toks) { s with toks:=s.toks+1 }->wpAny (model X.prog X.w) X.A (f (.int i t) (.int j u)) Q E s) :
  cJ X f (rI C λi j=>.int (g i j)):=by
 intro pins s σ H x y v u Q I rx ry h;obtain⟨i,j,rfl,rfl,hc,q⟩:=h;obtain⟨t,rfl⟩:=rx;obtain⟨t',rfl⟩:=ry;exact rule i j t t' s _ _ hc ⟨.int (g i j),H,I.tok _,⟨_,rfl⟩,q⟩
theorem NB{f:Value->Value->Sem Value}{g:Int->Int->Int}
  (rule:∀(i j:Int) (t u:Tok) (s:Shared) (Q:Value->Shared->Prop) (E:Value->Shared->Prop),Q (.int (g i j) s.toks) { s with toks:=s.toks+1 }->wpAny (model X.prog X.w) X.A (f (.int i t) (.int j u)) Q E s) :
  cJ X f (iI λi j=>.int (g i j)):=by
 intro pins s σ H x y v u Q I rx ry h;obtain⟨i,j,rfl,rfl,q⟩:=h;obtain⟨t,rfl⟩:=rx;obtain⟨t',rfl⟩:=ry;exact rule i j t t' s _ _ ⟨.int (g i j),H,I.tok _,⟨_,rfl⟩,q⟩
theorem EW{f:Value->Value->Sem Value}{g:Int->Int->Bool}
  (rule:∀(i j:Int) (t u:Tok) (s:Shared) (Q:Value->Shared->Prop) (E:Value->Shared->Prop),Q (.bool (g i j)) s->wpAny (model X.prog X.w) X.A (f (.int i t) (.int j u)) Q E s) :
  cJ X f (iI λi j=>.bl (g i j)):=by
 intro pins s σ H x y v u Q I rx ry h;obtain⟨i,j,rfl,rfl,q⟩:=h;obtain⟨t,rfl⟩:=rx;obtain⟨t',rfl⟩:=ry;exact rule i j t t' s _ _ ⟨.bl (g i j),H,I,rfl,q⟩
noncomputable def yG(i j:Int):Prop:=0<j/\j<1073741824
noncomputable def EX(i j:Int):Prop:=0<=j/\j<=1000000/\i.natAbs<2 ^ 64
noncomputable def rT(i j:Int):Prop:=(-(2 ^ 64)<i/\i<2 ^ 64)\/(-(2 ^ 64)<j/\j<2 ^ 64)
theorem rT.ok{i j:Int}(h:rT i j):IntMulOk i j:=by
 rcases h with⟨h1,h2⟩ | ⟨h1,h2⟩
 ·exact .of_left (intBits_le_64 h1 h2)
 ·exact .of_right (intBits_le_64 h1 h2)
theorem jc:cJ X (binaryOp .Add) (iI λi j=>.int (i+j)):=NB λ_ _ _ _ _ _ _ q=>add_int q
theorem qi:cJ X (binaryOp .Sub) (iI λi j=>.int (i - j)):=NB λ_ _ _ _ _ _ _ q=>sub_int q
theorem qj:cJ X (binaryOp .Mult) (rI rT λi j=>.int (i*j)):=yF λ_ _ _ _ _ _ _ hc q=>mul_int q hc.ok
theorem EY:cJ X (binaryOp .FloorDiv) (rI yG λi j=>.int (i / j)):=yF λi j _ _ _ _ _ hc q=>by
 have h1:(0:Int)<j:=hc.1;have h2:j<1073741824:=hc.2;exact floordiv_int ∅ (by rw[Int.fdiv_eq_ediv_of_nonneg i ∅];exact q) (.inl (PyProof.noPylong_small ∅))
theorem NC:cJ X (binaryOp .Mod) (rI (λ_ j=>0<j) λi j=>.int (i % j)):=yF λi j _ _ _ _ _ hc q=>by
 have h1:(0:Int)<j:=hc;exact mod_int' ∅ (by rw[Int.fmod_eq_emod_of_nonneg i ∅];exact q)
theorem ql:cJ X (binaryOp .Pow) (rI EX λi j=>.int (i ^ j.toNat)):=yF λ_ _ _ _ _ _ _ hc q=>pow_int_small hc.1 hc.2.1 hc.2.2 q
theorem YQ{f:Value->Sem Value}{g:Int->Int}
  (rule:∀(i:Int) (t:Tok) (s:Shared) (Q:Value->Shared->Prop) (E:Value->Shared->Prop),Q (.int (g i) s.toks) { s with toks:=s.toks+1 }->wpAny (model X.prog X.w) X.A (f (.int i t)) Q E s) :
  ET X f (rU λi=>.int (g i)):=by
 intro pins s σ H x v Q I rx h;obtain⟨i,rfl,q⟩:=h;obtain⟨t,rfl⟩:=rx;exact rule i t s _ _ ⟨.int (g i),H,I.tok _,⟨_,rfl⟩,q⟩
theorem yH:ET X (unaryOp .USub) (rU λi=>.int (-i)):=YQ λ_ _ _ _ _ q=>neg_int q
end
noncomputable def lY:V->V->Bool
 | .aW,.aW=>true | .aW,.int _=>true | .int _,.aW=>true | .aW,.bl _=>true | .bl _,.aW=>true | .aW,.str _=>true | .str _,.aW=>true
 | .int _,.int _=>true | .bl _,.bl _=>true | .str _,.str _=>true | .iC _,.iC _=>true
 | .int _,.str _=>true | .str _,.int _=>true | .bl _,.str _=>true | .str _,.bl _=>true
 | _,_=>false
noncomputable def EZ:R2:=λx y H Q=>lY x y=true/\Q (.bl (decide (x=y))) H
noncomputable def E1:R2:=λx y H Q=>lY x y=true/\Q (.bl (!decide (x=y))) H
theorem ND{i j:Int}:decide (V.int i=V.int j)=(i == j):=by
 rw[Bool.eq_iff_iff];simp
theorem NF{i j:Bool}:decide (V.bl i=V.bl j)=(i == j):=by
 rw[Bool.eq_iff_iff];simp
theorem NG{i j:Str}:decide (V.str i=V.str j)=(i == j):=by
 rw[Bool.eq_iff_iff];simp
theorem NH{i j:Array UInt8}:decide (V.iC i=V.iC j)=(i.toList == j.toList):=by
 rw[Bool.eq_iff_iff];cases i;cases j;simp
section
variable{X:Cx}{a b c:Expr}{ta tb tc:TE}{pos:Pos}
theorem dB{pins:List (Addr×Obj)}{σ:St}{H:Hp}{s:Shared}{Q:VK}{k k':Bool}(I:Inv X pins σ H s)(q:Q (.bl k) H)(e:k=k'):EP X pins σ Q (.bool k') s:=by
 subst e;exact⟨.bl k,H,I,rfl,q⟩
theorem lZ:cJ X (compareOp .Eq) EZ:=by
 intro pins s σ H x y v u Q I rx ry h;obtain⟨hs,q⟩:=h;cases x with
 | aW =>
  cases rx;cases y with
  | aW=>cases ry;exact PySem.EqNone.eq_none_none (dB I q (by simp))
  | bl j=>cases ry;exact PySem.EqNone.eq_none_bool (dB I q (by simp))
  | int j=>obtain⟨t',rfl⟩:=ry;exact PySem.EqNone.eq_none_int (dB I q (by simp))
  | str j=>obtain⟨t',rfl⟩:=ry;exact PySem.EqNone.eq_none_str (dB I q (by simp))
  | _=>exact absurd (show false=true from hs) Bool.false_ne_true
 | bl i =>
  cases rx;cases y with
  | aW=>cases ry;exact PySem.EqNone.eq_bool_none (dB I q (by simp))
  | bl j=>cases ry;exact eq_bool (dB I q NF)
  | str j=>obtain⟨t',rfl⟩:=ry;exact PySem.EqMixed.eq_bool_str (dB I q (by simp))
  | _=>exact absurd (show false=true from hs) Bool.false_ne_true
 | int i =>
  obtain⟨t,rfl⟩:=rx;cases y with
  | aW=>cases ry;exact PySem.EqNone.eq_int_none (dB I q (by simp))
  | int j=>obtain⟨t',rfl⟩:=ry;exact eq_int (dB I q ND)
  | str j=>obtain⟨t',rfl⟩:=ry;exact PySem.EqMixed.eq_int_str (dB I q (by simp))
  | _=>exact absurd (show false=true from hs) Bool.false_ne_true
 | str i =>
  obtain⟨t,rfl⟩:=rx;cases y with
  | aW=>cases ry;exact PySem.EqNone.eq_str_none (dB I q (by simp))
  | bl j=>cases ry;exact PySem.EqMixed.eq_str_bool (dB I q (by simp))
  | int j=>obtain⟨t',rfl⟩:=ry;exact PySem.EqMixed.eq_str_int (dB I q (by simp))
  | str j=>obtain⟨t',rfl⟩:=ry;exact eq_str (dB I q NG)
  | _=>exact absurd (show false=true from hs) Bool.false_ne_true
 | iC i =>
  obtain⟨t,rfl⟩:=rx;cases y with
  | iC j=>obtain⟨t',rfl⟩:=ry;exact W.eq_bytes (dB I q NH)
  | _=>exact absurd (show false=true from hs) Bool.false_ne_true
 | _=>cases y <;> exact absurd (show false=true from hs) Bool.false_ne_true
theorem rW:cJ X (compareOp .NotEq) E1:=by
 intro pins s σ H x y v u Q I rx ry h;obtain⟨hs,q⟩:=h;cases x with
 | aW =>
  cases rx;cases y with
  | aW=>cases ry;exact PySem.EqNone.ne_none_none (dB I q (by simp))
  | bl j=>cases ry;exact PySem.EqNone.ne_none_bool (dB I q (by simp))
  | int j=>obtain⟨t',rfl⟩:=ry;exact PySem.EqNone.ne_none_int (dB I q (by simp))
  | str j=>obtain⟨t',rfl⟩:=ry;exact PySem.EqNone.ne_none_str (dB I q (by simp))
  | _=>exact absurd (show false=true from hs) Bool.false_ne_true
 | bl i =>
  cases rx;cases y with
  | aW=>cases ry;exact PySem.EqNone.ne_bool_none (dB I q (by simp))
  | bl j=>cases ry;exact ne_bool (dB I q (congrArg not NF))
  | str j=>obtain⟨t',rfl⟩:=ry;exact PySem.EqMixed.ne_bool_str (dB I q (by simp))
  | _=>exact absurd (show false=true from hs) Bool.false_ne_true
 | int i =>
  obtain⟨t,rfl⟩:=rx;cases y with
  | aW=>cases ry;exact PySem.EqNone.ne_int_none (dB I q (by simp))
  | int j=>obtain⟨t',rfl⟩:=ry;exact ne_int (dB I q (congrArg not ND))
  | str j=>obtain⟨t',rfl⟩:=ry;exact PySem.EqMixed.ne_int_str (dB I q (by simp))
  | _=>exact absurd (show false=true from hs) Bool.false_ne_true
 | str i =>
  obtain⟨t,rfl⟩:=rx;cases y with
  | aW=>cases ry;exact PySem.EqNone.ne_str_none (dB I q (by simp))
  | bl j=>cases ry;exact PySem.EqMixed.ne_str_bool (dB I q (by simp))
  | int j=>obtain⟨t',rfl⟩:=ry;exact PySem.EqMixed.ne_str_int (dB I q (by simp))
  | str j=>obtain⟨t',rfl⟩:=ry;exact ne_str (dB I q (congrArg not NG))
  | _=>exact absurd (show false=true from hs) Bool.false_ne_true
 | iC i =>
  obtain⟨t,rfl⟩:=rx;cases y with
  | iC j=>obtain⟨t',rfl⟩:=ry;exact W.ne_bytes (dB I q (congrArg not NH))
  | _=>exact absurd (show false=true from hs) Bool.false_ne_true
 | _=>cases y <;> exact absurd (show false=true from hs) Bool.false_ne_true
theorem fQ:cJ X (compareOp .Lt) (iI λi j=>.bl (decide (i<j))):=EW λ_ _ _ _ _ _ _ q=>lt_int q
theorem jd:cJ X (compareOp .Gt) (iI λi j=>.bl (decide (j<i))):=EW λ_ _ _ _ _ _ _ q=>gt_int q
theorem rX:cJ X (compareOp .GtE) (iI λi j=>.bl (decide (j<=i))):=EW λ_ _ _ _ _ _ _ q=>ge_int q
theorem NI:cJ X (compareOp .Is) (λx y H Q=>y = .aW/\Q (.bl (decide (x = .aW))) H):=by
 intro pins s σ H x y v u Q I rx ry h;obtain⟨rfl,q⟩:=h;cases ry;refine is_none_gen (dB I q ?_);cases x <;> first
  | (cases rx;rfl)
  | (obtain⟨t,rfl⟩:=rx;rfl)
theorem YR:cJ X (compareOp .IsNot) (λx y H Q=>y = .aW/\Q (.bl (!decide (x = .aW))) H):=by
 intro pins s σ H x y v u Q I rx ry h;obtain⟨rfl,q⟩:=h;cases ry;refine isnot_none_gen (dB I q ?_);cases x <;> first
  | (cases rx;rfl)
  | (obtain⟨t,rfl⟩:=rx;rfl)
theorem bA(b:Expr){op:CmpOp}(h:autoParam (op≠.In) jB)(h2:autoParam (op≠.NotIn) jB):behindInMarks op b=false:=by
 have e1:(op == CmpOp.In)=false:=by cases op <;> first | rfl | exact absurd rfl h
 have e2:(op == CmpOp.NotIn)=false:=by cases op <;> first | rfl | exact absurd rfl h2
 cases b <;> simp[behindInMarks,e1,e2]
theorem uD{op:CmpOp}{r:R2}(ho:cJ X (compareOp op) r)(ha:PE X a ta)(hb:PE X b tb)(hm:behindInMarks op b=false):PE X (.Compare a [op] [b] pos) (oZ r ta tb):=by
 intro pins s σ H Q I h;exact wpAny_Compare1 (EV ha hb I h λv u s2 x y H2 I2 rx ry q=>ho pins s2 σ H2 x y v u Q I2 rx ry q) hm
noncomputable def uE(t:TE):TT:=λσ H Q=>t σ H λx H'=>∃k,x = .bl k/\Q k H'
theorem dG{op:CmpOp}{r:R2}(ho:cJ X (compareOp op) r)(ha:PE X a ta)(hb:PE X b tb)(hm:behindInMarks op b=false):PT X (.Compare a [op] [b] pos) (uE (oZ r ta tb)):=by
 intro pins s σ H Q I h;refine wpAny_isTrue_Compare1 (aY (ha pins s σ H _ I h) λv s1 ⟨x,H1,I1,r1,q1⟩=>aY (hb pins s1 σ H1 _ I1 q1) λu s2 ⟨y,H2,I2,r2,q2⟩ =>
  aY (ho pins s2 σ H2 x y v u _ I2 r1 r2 q2) λc s3 ⟨z,H3,I3,r3,zz⟩=>?_) hm
 obtain⟨k,e,q3⟩:=zz;subst e;cases r3;exact wpAny_truthy_bool ⟨H3,I3,q3⟩
noncomputable def NJ(r r':R2)(ta tb tc:TE):TE:=λσ H Q=>ta σ H λx H1=>tb σ H1 λy H2=>r x y H2 λz H3=>∃k,z = .bl k/\
 (if k=true then tc σ H3 λw' H4=>r' y w' H4 Q else Q (.bl false) H3)
theorem yI:(sizeLine:Nat)<2 ^ 63:=by rw[sizeLine_eq];decide
theorem vals1{x:V}{us:List Value}(r:Vals [x] us):∃u,us = [u]/\RelV x u:=by
 cases r with
 | cons r1 r2=>cases r2;exact⟨_,rfl,r1⟩
theorem vals2{x y:V}{us:List Value}(r:Vals [x,y] us):∃u w',us = [u,w']/\RelV x u/\RelV y w':=by
 cases r with
 | cons r1 r2 =>
  cases r2 with
  | cons r3 r4=>cases r4;exact⟨_,_,rfl,r1,r3⟩
theorem NK:f9 X (.builtin "abs") (λxs H Q=>∃i,xs = [.int i]/\Q (.int (if i<0 then -i else i)) H):=by
 intro pins s σ H xs us Q I r h;obtain⟨i,rfl,q⟩:=h;obtain⟨u,rfl,t,rfl⟩:=vals1 r;exact call_abs_int λu tk=>⟨.int (if i<0 then -i else i),H,I.tok _,⟨_,rfl⟩,q⟩
theorem NL(hc:X.calm=true):f9 X (.builtin "max") (λxs H Q=>∃i j,xs = [.int i,.int j]/\Q (.int (if j > i then j else i)) H):=by
 intro pins s σ H xs us Q I r h;obtain⟨i,j,rfl,q⟩:=h;obtain⟨u,w',rfl,⟨t,rfl⟩,⟨t',rfl⟩⟩:=vals2 r;refine max_two_ints (I.ok.hd hc) λh' tk k=>⟨_,H,I.kept k,?_,q⟩;by_cases hj:j > i
 ·rw[if_pos hj,if_pos hj];exact⟨_,rfl⟩
 ·rw[if_neg hj,if_neg hj];exact⟨_,rfl⟩
theorem yJ(hc:X.calm=true):f9 X (.builtin "min") (λxs H Q=>∃i j,xs = [.int i,.int j]/\Q (.int (if j<i then j else i)) H):=by
 intro pins s σ H xs us Q I r h;obtain⟨i,j,rfl,q⟩:=h;obtain⟨u,w',rfl,⟨t,rfl⟩,⟨t',rfl⟩⟩:=vals2 r;refine min_two_ints (I.ok.hd hc) λh' tk k=>⟨_,H,I.kept k,?_,q⟩;by_cases hj:j<i
 ·rw[if_pos hj,if_pos hj];exact⟨_,rfl⟩
 ·rw[if_neg hj,if_neg hj];exact⟨_,rfl⟩
end
structure qm(h:Heap)(x dx C:Addr)(mA:Str->Option Value):Prop where
 obj:h.get? x=some (instObj C dx)
 ns:h.Ns1 dx mA
 ne:dx≠x
theorem YS{h:Heap}{dx:Addr}{mA:Str->Option Value}(n:h.Ns1 dx mA):∃od,h.get? dx=some od/\∀name,W.lookIn name od=some (mA name):=by
 obtain⟨o,es,ep,ho,hd,hk,_,hm⟩:=n;refine⟨o,ho,λname=>?_⟩
 have e:=hm name;unfold nsFind findBy at e;rw[← Array.find?_toList] at e;unfold W.lookIn;rw[hd];dsimp only;split
 ·rename_i y q;rw[q] at e;exact congrArg some e
 ·rename_i q;rw[q] at e;have a:es.toList.any (·.refKey)=false:=by
   rw[List.any_eq_false];intro y hy;obtain⟨z,t,f_⟩:=hk y (Array.mem_toList_iff.mp hy);simp[DictEntry.refKey,f_]
  have a':¬ es.toList.any (·.refKey)=true:=by rw[a];exact Bool.false_ne_true
  rw[if_neg a'];exact congrArg some e
theorem qm.look{h:Heap}{x dx C:Addr}{mA:Str->Option Value}(I:qm h x dx C mA):∃od,W.InstAt h x (instObj C dx) C (some od)/\∀name,W.lookIn name od=some (mA name) :=
 let ⟨od,ho,hl⟩:=YS I.ns
 ⟨od,⟨I.obj,rfl,rfl,ho⟩,hl⟩
section
variable{prog:Program}{w:World}{A:Around}{E:Value->Shared->Prop}{s:Shared}{K:Frag}{x dx C f:Addr}{mA:Str->Option Value}{name:Str}{v:Value}
theorem get_map{expr:Bool}{Q:Value->Shared->Prop}(X:K.In s.heap)(I:qm s.heap x dx C mA)(hg:plainGet K C name=true)(hh:hasDictIn K C=true)
  (ha:findIn K (.ref C) name=some none) (hv:mA name=some v) (YT:W.handedIn v=true) (h:Q v { s with toks:=s.toks+1 }) :
  wpAny (model prog w) A (getAttr (.ref x) name expr) Q E s:=by
 obtain⟨od,J,hl⟩:=I.look;exact W.get_value X J (W.plainGet_of hg).1 (W.findObj_own hh ha rfl (by rw[hl,hv])) YT h
theorem YU{pl:Sem Bool}{Q:Value×List Value->Shared->Prop}(X:K.In s.heap)(I:qm s.heap x dx C mA)(hg:plainGet K C name=true)
  (hf:findIn K (.ref C) name=some (some (.ref f))) (ht:isFn K (.ref f)=true) (hv:mA name=none) (h:Q (.ref f,[.ref x]) s) :
  wpAny (model prog w) A (getMethod (.ref x) name pl) Q E s:=by
 obtain⟨od,J,hl⟩:=I.look;exact W.method_fn X J (W.plainGet_of hg).1 (W.plainGet_of hg).2 hf (beq_iff_eq.mp ht) (by show (W.lookIn name od).map (·.isSome)=some false;rw[hl,hv];rfl) h
theorem YV{ns:List Str}{Q:Unit->Shared->Prop}(X:K.In s.heap)(I:qm s.heap x dx C mA)
  (hs:findIn K (.ref C) "__setattr__" = some (some (.builtin "object.__setattr__"))) (hp:plainOver K C=true) (ht:W.takerIn K C name=some none) (hh:hasDictIn K C=true)
  (hw:PySem.Within mA ns) (hsz:ns.length<=sizeLine)
  (h:∀h',qm h' x dx C (λy=>if y=name then some v else mA y)->Heap.SameBut dx s.heap h'->Q () { s with heap:=h',toks:=s.toks+2 }) :
  wpAny (model prog w) A (setAttr (.ref x) name v) Q E s:=by
 obtain⟨od,J,hl⟩:=I.look;refine W.set_plain X J hs (W.osa_open (s:={ s with toks:=s.toks+1 }) (r:=none) X J hp ht λb=>?_)
 obtain⟨cd,hc,i7⟩:=W.any_some hh;have hx:s.heap.get? x=some ⟨.ref C,some dx,.plain,#[]⟩:=I.obj;refine wpAny_bind (wpAny_pure (wpAny_bind (wpAny_bind (wpAny_loadPart hx (wpAny_bind (W.Looks.here (s:={ s with toks:=s.toks+1 }) (W.looks_clsIn X hc) ?_))))));rw[i7];refine wpAny_pure (a:=some dx) (wpAny_bind (wpAny_pure (wpAny_bind ?_)));refine wpAny_nsSet1 (s:={ s with toks:=s.toks+1 }) I.ns λh' l6 lW=>?_;obtain⟨oD,esD,epD,YW,YX,YY⟩:=l6.count (PySem.Within.cons name v hw);refine wpAny_bind (wpAny_lookBehind YW (by rw[YX];exact pastItsLine_dict (Nat.le_trans YY (by rw[length_cons];lia))) ?_)
 exact wpAny_pure (h _ ⟨(lW.2 _ (Ne.symm I.ne)).trans I.obj,l6,I.ne⟩ lW)
theorem NN{R:Result->Shared->Prop}{vs:List Value}{kw:List (Str×Value)}(X:K.In s.heap)(hm:makesIn K C=true)
  (hi:findIn K (.ref C) "__init__" = some (some (.ref f))) (hf:W.typeIn K (.ref f)=some (.type "function"))
  (h:codeAny (model prog w) (A.under (.builtin "type.__call__" ⟨.ref C::vs,kw⟩)) (.call (.ref f) ⟨.ref (s.heap.objs.size+1)::vs,kw⟩) (W.InitBack (s.heap.objs.size+1) R)
   { s with heap:=(s.heap.push emptyDict).push (instObj C s.heap.objs.size)}) :
  codeAny (model prog w) A (.call (.ref C) ⟨vs,kw⟩) R s:=by
 obtain⟨hh,g,d,t,os⟩:=s;exact W.make_core (W.makes_of X hm) (W.looks_findIn X hi) (λself=>W.bind_fn X self hf) (.inl rfl) h
end
noncomputable def gB(f:Str)(v:V):List (Str×V)->List (Str×V)
 | []=>[(f,v)]
 | (g,x)::r=>if g=f then(g,v)::r else(g,x)::gB f v r
theorem NO(f g:Str)(v:V):∀fs:List (Str×V),(gB f v fs).lookup g=if g=f then some v else fs.lookup g
 | []=>by
  show List.lookup g [(f,v)] = _;by_cases h:g=f
  ·have hb:(g == f)=true:=beq_iff_eq.mpr h;simp only[List.lookup,hb,if_pos h]
  ·have hb:(g == f)=false:=beq_eq_false_iff_ne.mpr h;simp only[List.lookup,hb,if_neg h]
 | (k,x)::r=>by
  have ih:=NO f g v r;rw[show gB f v ((k,x)::r)=(if k=f then(k,v)::r else(k,x)::gB f v r) from rfl]
  by_cases hk:k=f
  ·rw[if_pos hk];by_cases h:g=k
   ·have hb:(g == k)=true:=beq_iff_eq.mpr h;simp only[List.lookup,hb,if_pos (h.trans hk)]
   ·have hb:(g == k)=false:=beq_eq_false_iff_ne.mpr h;simp only[List.lookup,hb,if_neg (λe:g=f=>h (e.trans hk.symm))]
  ·rw[if_neg hk];by_cases h:g=k
   ·have hb:(g == k)=true:=beq_iff_eq.mpr h;simp only[List.lookup,hb,if_neg (λe:g=f=>hk (h.symm.trans e))]
   ·have hb:(g == k)=false:=beq_eq_false_iff_ne.mpr h;simp only[List.lookup,hb];exact ih
theorem E3(f:Str)(v:V):∀fs:List (Str×V),f∈(gB f v fs).map (·.1)/\∀g,g∈fs.map (·.1)->g∈(gB f v fs).map (·.1)
 | []=>⟨by simp[gB],λg h=>by simp at h⟩
 | (k,x)::r=>by
  obtain⟨i1,i2⟩:=E3 f v r;rw[show gB f v ((k,x)::r)=(if k=f then(k,v)::r else(k,x)::gB f v r) from rfl]
  by_cases hk:k=f
  ·rw[if_pos hk];subst hk;exact⟨by simp,λg h=>by simpa using h⟩
  ·rw[if_neg hk];refine⟨?_,λg h=>?_⟩
   ·rw[map_cons];exact mem_cons_of_mem _ i1
   ·rw[map_cons] at h ⊢;rcases mem_cons.mp h with e | e
    ·exact mem_cons.mpr (.inl e)
    ·exact mem_cons_of_mem _ (i2 g e)
theorem NP(f:Str)(v:V):∀fs:List (Str×V),(gB f v fs).length<=fs.length+1
 | []=>by simp[gB]
 | (k,x)::r=>by
  have ih:=NP f v r;rw[show gB f v ((k,x)::r)=(if k=f then(k,v)::r else(k,x)::gB f v r) from rfl]
  by_cases hk:k=f
  ·rw[if_pos hk,length_cons,length_cons];lia
  ·rw[if_neg hk,length_cons,length_cons];lia
theorem gw.some_of{v:V}{o:Option Value}(r:gw (some v) o):∃u,o=some u/\RelV v u:=by
 cases o with
 | none=>exact(show False from r).elim
 | some u=>exact⟨u,rfl,r⟩
theorem gw.none_of{o:Option Value}(r:gw none o):o=none:=by
 cases o with
 | none=>rfl
 | some u=>exact(show False from r).elim
theorem YZ{v:V}{u:Value}(r:RelV v u):W.handedIn u=true:=by
 cases v with
 | aW=>cases (show u=Value.none from r);rfl
 | bl b=>cases (show u=Value.bool b from r);rfl
 | int i=>obtain⟨t,e⟩:=(show ∃t,u=Value.int i t from r);cases e;rfl
 | str x=>obtain⟨t,e⟩:=(show ∃t,u=Value.str x t from r);cases e;rfl
 | iC b=>obtain⟨t,e⟩:=(show ∃t,u=Value.bytes b t from r);cases e;rfl
 | lQ b=>obtain⟨t,e⟩:=(show ∃t,u=Value.float b t from r);cases e;rfl
 | ref a=>cases (show u=Value.ref a from r);rfl
 | ty n=>cases (show u=Value.type n from r);rfl
section
variable{P:Program}{w:World}{H H':Hp}{h h':Heap}{a C dx:Addr}{fs M7:List (Str×V)}
theorem yK(aG:cN P w H h)(e:H a=some (.ins C dx fs)):∃mA,qm h a dx C mA/\(∀f,gw (fs.lookup f) (mA f))/\PySem.Within mA (fs.map (·.1))/\fs.length<=1000/\H dx=some (.own a):=by
 obtain⟨d,z,ne,ob,mA,n,r,q⟩:=(show dw P w H h a (.ins C dx fs) from aG a _ e);exact⟨mA,⟨ob,n,ne⟩,r,q,z,d⟩
end
structure fH(K:Frag)(C:Addr):Prop where
 pg:plainGet K C Str.empty=true
 hd:hasDictIn K C=true
 po:plainOver K C=true
 sa:findIn K (.ref C) "__setattr__" = some (some (.builtin "object.__setattr__"))
theorem fH.get{K:Frag}{C:Addr}(c:fH K C)(f:Str):plainGet K C f=true:=c.pg
noncomputable def cC(K:Frag)(C:Addr)(f:Str):Prop:=findIn K (.ref C) f=some none
theorem cC.Y0{K:Frag}{C:Addr}{f:Str}(n:cC K C f):W.takerIn K C f=some none:=by
 unfold W.takerIn;rw[show findIn K (.ref C) f=some none from n]
 rfl
structure Meth(K:Frag)(C:Addr)(m:Str)(f:Addr):Prop where
 at_:findIn K (.ref C) m=some (some (.ref f))
 fn:isFn K (.ref f)=true
 kp:keepIn K (.ref f)=true
section
variable{X:Cx}{pins:List (Addr×Obj)}{σ:St}{H:Hp}{s:Shared}{a C dx:Addr}{fs:List (Str×V)}{f:Str}{v:V}{A:Around}{E:Value->Shared->Prop}
theorem Y3{b:Bool}{Q:Value->Shared->Prop}(I:Inv X pins σ H s)(e:H a=some (.ins C dx fs))(c:fH X.K C)(n:cC X.K C f)(l:fs.lookup f=some v)
  (h:∀u s',Inv X pins σ H s'->RelV v u->Q u s'):wpAny (model X.prog X.w) A (getAttr (.ref a) f b) Q E s:=by
 obtain⟨mA,O,r,_,_,_⟩:=yK I.aG e;obtain⟨u,hu,ru⟩:=gw.some_of (v:=v) (o:=mA f) (by rw[← l];exact r f)
 exact get_map I.cI O (c.get f) c.hd n hu (YZ ru) (h u _ (I.tok _) ru)
theorem yL{m:Str}{g:Addr}{pl:Sem Bool}{Q:Value×List Value->Shared->Prop}(I:Inv X pins σ H s)(e:H a=some (.ins C dx fs))(c:fH X.K C)(k:Meth X.K C m g)(l:fs.lookup m=none)
  (h:Q (.ref g,[.ref a]) s):wpAny (model X.prog X.w) A (getMethod (.ref a) m pl) Q E s:=by
 obtain⟨mA,O,r,_,_,_⟩:=yK I.aG e;have hn:mA m=none:=gw.none_of (by rw[← l];exact r m)
 exact YU I.cI O (c.get m) k.at_ k.fn hn h
theorem Y4{y:V}{u:Value}{Q:Unit->Shared->Prop}(I:Inv X pins σ H s)(e:H a=some (.ins C dx fs))(c:fH X.K C)(n:cC X.K C f)(hl:fs.length<1000)(ry:RelV y u)
  (h:∀s',Inv X pins σ (upd H a (.ins C dx (gB f y fs))) s'->Q () s'):wpAny (model X.prog X.w) A (setAttr (.ref a) f u) Q E s:=by
 obtain⟨mA,O,r,wi,_,ho⟩:=yK I.aG e;have hz:(fs.map (·.1)).length<=sizeLine:=by rw[length_map,sizeLine_eq];lia
 refine YV I.cI O c.sa c.po n.Y0 c.hd wi hz λh' O' sb=>h _ ?_;have hd:∃o,h'.get? dx=some o:=let ⟨o,_,_,e',_⟩:=O'.ns;⟨o,e'⟩
 refine I.write (x:=a) (e:=dx) (by rw[e];exact True.intro) (.inr ho) (λb q hb z=>(sb.2 b hb).trans z) hd ?_
 refine⟨by rw[aF O.ne];exact ho,?_,O.ne,O'.obj,_,O'.ns,λg=>?_,λg hg=>?_⟩
 ·have:=NP f y fs;lia
 ·show gw ((gB f y fs).lookup g) (if g=f then some u else mA g)
  rw[NO];by_cases q:g=f
  ·rw[if_pos q,if_pos q];exact ry
  ·rw[if_neg q,if_neg q];exact r g
 ·by_cases q:g=f
  ·rw[q];exact(E3 f y fs).1
  ·refine(E3 f y fs).2 g (wi g λz=>hg ?_)
   show (if g=f then some u else mA g)=none
   rw[if_neg q];exact z
theorem Inv.made(I:Inv X pins σ H s):Inv X pins σ (upd (upd H s.heap.objs.size (.own (s.heap.objs.size+1))) (s.heap.objs.size+1) (.ins C s.heap.objs.size []))
  { s with heap:=(s.heap.push emptyDict).push (instObj C s.heap.objs.size)}:=by
 have e1:(s.heap.push emptyDict).get? s.heap.objs.size=some emptyDict:=get?_push_size s.heap rfl;have e2:((s.heap.push emptyDict).push (instObj C s.heap.objs.size)).get? (s.heap.objs.size+1)=some (instObj C s.heap.objs.size):=by
  have:=get?_push_size (s.heap.push emptyDict) (o:=instObj C s.heap.objs.size) rfl;rwa [size_push] at this
 have e3:(s.heap.push emptyDict).Ns s.heap.objs.size (λ_=>none):=⟨emptyDict,#[],_,e1,rfl,(λe he=>absurd he (by simp)),λ_=>rfl⟩
 have I1:=I.laid (a:=s.heap.objs.size) (o:=.own (s.heap.objs.size+1)) (h':=s.heap.push emptyDict) (t':=s.toks) (λb u q=>get?_push_of_some _ q) (Nat.le_refl _) ⟨_,e1⟩;refine I1.laid (a:=s.heap.objs.size+1) (o:=.ins C s.heap.objs.size []) (t':=s.toks) (λb u q=>get?_push_of_some _ q) (Nat.le_of_eq (size_push _ _)) ?_;have ne:s.heap.objs.size≠s.heap.objs.size+1:=Nat.ne_of_lt (lt_succ_self _);refine⟨by rw[aF ne,aD],zero_le _,ne,e2,λ_=>none,(Heap.Ns1.of_empty e3).at λo q=>get?_push_of_some _ q,λ_=>True.intro,λy hy=>absurd rfl hy⟩
theorem Y5{prog:Program}{w:World}{env:Env}{e:Expr}{f:Str}{pos:Pos}{s:Shared}{Q:Value->Shared->Prop}(hb:attributeBase e f env (eval e env)=eval e env)
  (h:wpAny (model prog w) A (eval e env) (λo aZ=>wpAny (model prog w) A (getAttr o f true) Q E aZ) E s):wpAny (model prog w) A (eval (.Attribute e f pos) env) Q E s :=
 Attribute_any_ h (by rw[arm_eval_Attribute,hb])
end
noncomputable def yM(K:Frag)(ta:TE)(f:Str):TE:=λσ H Q=>ta σ H λx H1=>∃a C dx fs v,x = .ref a/\H1 a=some (.ins C dx fs)/\fH K C/\cC K C f/\fs.lookup f=some v/\Q v H1
noncomputable def E4(K:Frag)(ta tv:TE)(f:Str):TS:=λD σ H=>tv σ H λy H1=>ta σ H1 λx H2=>∃a C dx fs,x = .ref a/\H2 a=some (.ins C dx fs)/\fH K C/\cC K C f/\fs.length<1000/\
 D.nx σ (upd H2 a (.ins C dx (gB f y fs)))
section
variable{X:Cx}{o e value:Expr}{f:Str}{pos pos' Y6:Pos}{ta tv:TE}
theorem cW(he:PE X e ta)(hb:attributeBase e f X.env (eval e X.env)=eval e X.env):PE X (.Attribute e f pos) (yM X.K ta f):=by
 intro pins s σ H Q I h;refine Y5 hb (aY (he pins s σ H _ I h) λu s1 ⟨x,H1,I1,rx,zz⟩=>?_);obtain⟨a,C,dx,fs,v,ex,ea,c,n,l,q⟩:=zz;subst ex;obtain rfl:u=Value.ref a:=rx;exact Y3 I1 ea c n l λu' s2 I2 ru=>⟨v,H1,I2,ru,q⟩
theorem eG(ha:PE X o ta)(hv:PE X value tv)(hs:swapsWith value (some (.Attribute o f pos')) pos.line X.env=pure false):PS X (.Assign [.Attribute o f pos'] value pos) (E4 X.K ta tv f):=by
 intro pins s σ H D I h;refine plainObj_wpAny_Assign_Attribute (aY (hv pins s σ H _ I h) λu s1 ⟨y,H1,I1,ry,q⟩=>aY (ha pins s1 σ H1 _ I1 q) λov s2 ⟨x,H2,I2,rx,zz⟩=>?_) hs;obtain⟨a,C,dx,fs,ex,ea,c,n,l,q2⟩:=zz;subst ex;obtain rfl:ov=Value.ref a:=rx;exact Y4 I2 ea c n l ry λs3 I3=>⟨σ,_,I3,q2⟩
end
section
variable{X:Cx}{pins:List (Addr×Obj)}{σ:St}{H:Hp}{s:Shared}{A:Around}{E:Value->Shared->Prop}{Q:Value->Shared->Prop}{c:Value}{b:Bool}
inductive jG (K:Frag) (H:Hp):V->Value->Prop where
 | aW:jG K H .aW (.type "NoneType")
 | bl (x:Bool):jG K H (.bl x) (.type "bool")
 | int (i:Int):jG K H (.int i) (.type "int")
 | str (x:Str):jG K H (.str x) (.type "str")
 | lQ (x:UInt64):jG K H (.lQ x) (.type "float")
 | lst {a:Addr} {xs:List V} (e:H a=some (.lst xs)):jG K H (.ref a) (.type "list")
 | d8 {a:Addr} {o:Obj} {xs:List V} (e:H a=some (.d8 o (.lst xs))):jG K H (.ref a) (.type "list")
 | tup {a:Addr} {xs:List V} (e:H a=some (.tup xs)):jG K H (.ref a) (.type "tuple")
 | dK {a:Addr} {kvs:List (Key×V)} (e:H a=some (.dK kvs)):jG K H (.ref a) (.type "dict")
 | dT {a:Addr} {kvs:List (List Key×V)} (e:H a=some (.dT kvs)):jG K H (.ref a) (.type "dict")
 | ins {a C dx:Addr} {fs:List (Str×V)} (e:H a=some (.ins C dx fs)) (cl:fH K C) (ha:findIn K (.ref C) "__class__" = some (some (.builtin "object.__class__")))
   (hn:W.specialIn K (.builtin "object.__class__") "__get__" = some (some (.builtin "getset_descriptor.__get__"))) (NQ:W.takesIn K (.builtin "object.__class__")=some true)
   (hm:W.mroIn K C (.type "object")=some true):jG K H (.ref a) (.ref C)
theorem Y7{x:V}{u t:Value}(I:Inv X pins σ H s)(rx:RelV x u)(ty:jG X.K H x t)(e:kitOne X.K t c=some b)(h:∀tk,Q (.bool b) { s with toks:=tk }) :
  wpAny (model X.prog X.w) A (call (.builtin "isinstance") [u,c]) Q E s:=by
 cases ty with
 | aW=>cases (show u=Value.none from rx);exact kia_one W.kitx_none I.cI True.intro e (λz=>nomatch z) h
 | bl y=>cases (show u=Value.bool y from rx);exact kia_one W.kitx_bool I.cI True.intro e (λz=>nomatch z) h
 | int i=>obtain⟨t,q⟩:=(show ∃t,u=Value.int i t from rx);cases q;exact kia_one W.kitx_int I.cI True.intro e (λz=>nomatch z) h
 | str y=>obtain⟨t,q⟩:=(show ∃t,u=Value.str y t from rx);cases q;exact kia_one W.kitx_str I.cI True.intro e (λz=>nomatch z) h
 | lQ y=>obtain⟨t,q⟩:=(show ∃t,u=Value.float y t from rx);cases q;exact kia_one W.kitx_float I.cI True.intro e (λz=>nomatch z) h
 | @lst a xs ea =>
  cases (show u=Value.ref a from rx);obtain⟨_,_,n,_,h1⟩:=(show dw X.prog X.w H s.heap a (.lst xs) from I.aG a _ ea);exact kia_one W.kitx_list I.cI ⟨_,h1,rfl⟩ e (λz=>nomatch z) h
 | @d8 a ob xs ea =>
  cases (show u=Value.ref a from rx);obtain⟨_,_,_,n,_,h1⟩:=(show dw X.prog X.w H s.heap a (.d8 ob (.lst xs)) from I.aG a _ ea);exact kia_one W.kitx_list I.cI ⟨_,h1,rfl⟩ e (λz=>nomatch z) h
 | @tup a xs ea =>
  cases (show u=Value.ref a from rx);obtain⟨_,_,_,p⟩:=(show dw X.prog X.w H s.heap a (.tup xs) from I.aG a _ ea);obtain⟨o,h1,h2,_⟩:=p;exact kia_one W.kitx_tuple I.cI ⟨o,h1,h2⟩ e (λz=>nomatch z) h
 | @dK a kvs ea =>
  cases (show u=Value.ref a from rx);obtain⟨_,_,vs,_,p⟩:=(show dw X.prog X.w H s.heap a (.dK kvs) from I.aG a _ ea);obtain⟨o,es,ep,h1,h2,_⟩:=p;exact kia_one W.kitx_dict I.cI ⟨o,h1,h2.1⟩ e (λz=>nomatch z) h
 | @dT a kvs ea =>
  cases (show u=Value.ref a from rx);obtain⟨_,_,xs,_,o,es,ep,h1,h2,_⟩:=(show dw X.prog X.w H s.heap a (.dT kvs) from I.aG a _ ea);exact kia_one W.kitx_dict I.cI ⟨o,h1,h2.1⟩ e (λz=>nomatch z) h
 | @ins a C dx fs ea cl ha hn NQ hm =>
  cases (show u=Value.ref a from rx);obtain⟨mA,O,_⟩:=yK I.aG ea;obtain⟨od,J,_⟩:=O.look;exact kia_one (W.kitx_own (cl.get _) cl.hd ha hn NQ hm) I.cI J e (λz=>nomatch z) h
end
structure bZ(k:Nat)(A:Around):Prop where
 hd:A.handled=none
 dp:A.depth+3*k+5<recursionLimit
 un:A.units+16*k+200<cLine
theorem bZ.mono{j k:Nat}{A:Around}(r:bZ k A)(h:j<=k):bZ j A:=⟨r.hd,by have:=r.dp;lia,by have:=r.un;lia⟩
theorem bZ.deeper{k:Nat}{A:Around}(r:bZ (k+1) A)(env:Env):bZ k (A.deeper env) :=
 ⟨r.hd,by have:=r.dp;show A.depth+1+3*k+5<_;lia,by have:=r.un;show A.units+3+16*k+200<_;lia⟩
theorem bZ.in1{k:Nat}{A:Around}(r:bZ (k+1) A):bZ k A.in1 :=
 ⟨r.hd,by have:=r.dp;show A.depth+3*k+5<_;lia,by have:=r.un;show A.units+1+16*k+200<_;lia⟩
theorem Y8{A:Around}{C:Addr}{us:List Value}{kw:List (Str×Value)}:(A.under (.builtin "type.__call__" ⟨.ref C::us,kw⟩)).depth=A.depth+1:=by
 first | rfl | simp[Around.under,Code.weight,Code.isCreation,Code.isGuard,Code.isCaller,Code.frames,Code.isFrame,guardIds]
theorem Y9{A:Around}{C:Addr}{us:List Value}{kw:List (Str×Value)}:(A.under (.builtin "type.__call__" ⟨.ref C::us,kw⟩)).units=A.units+1:=by
 first | rfl | simp[Around.under,Code.cUnits,Code.frames,Code.isFrame]
theorem bZ.make{k:Nat}{A:Around}(r:bZ (k+1) A)(C:Addr)(us:List Value)(kw:List (Str×Value)):bZ k (A.under (.builtin "type.__call__" ⟨.ref C::us,kw⟩)) :=
 ⟨r.hd,by have:=r.dp;rw[Y8];lia,by have:=r.un;rw[Y9];lia⟩
theorem bZ.depth{k:Nat}{A:Around}(r:bZ k A):A.depth<recursionLimit:=by have:=r.dp;lia
theorem bZ.units{k:Nat}{A:Around}(r:bZ k A):A.units+64<cLine:=by have:=r.un;lia
theorem bZ.Y_{k:Nat}{A:Around}(r:bZ k A):A.units<cLine:=by have:=r.un;lia
noncomputable def uF:TA:=λ_ H Q=>Q [] H
noncomputable def yN(ta:TE)(tr:TA):TA:=λσ H Q=>ta σ H λx H1=>tr σ H1 λxs H2=>Q (x::xs) H2
section
variable{X:Cx}{e:Expr}{es:List Expr}{te:TE}{t:TA}{pos:Pos}
theorem au:PA X [] uF:=λ_ _ _ _ H Q I h=>spliced_nil ⟨[],H,I,.nil,h⟩
theorem aj(ha:PE X e te)(hr:PA X es t)(hs:autoParam (starEach (e::es) X.env=(false,eval e X.env)::starEach es X.env) jE):PA X (e::es) (yN te t):=by
 intro pos pins s σ H Q I h;rw[hs]
 show wpAny _ _ (spliced ((false,eval e X.env)::backTo pos (starEach es X.env))) _ _ s;refine spliced_cons (aY (ha pins s σ H _ I h) λu s1 ⟨x,H1,I1,r1,q1⟩=>?_);exact aY (hr pos pins s1 σ H1 _ I1 q1) λus s2 ⟨xs,H2,I2,r2,q2⟩=>⟨x::xs,H2,I2,.cons r1 r2,q2⟩
noncomputable def E5(t:TA):TE:=λσ H Q=>t σ H λxs H1=>xs.length<=sizeLine/\∀p,H1 p=none->Q (.ref p) (upd H1 p (.tup xs))
noncomputable def E6(t:TA):TE:=λσ H Q=>t σ H λxs H1=>xs.length<=sizeLine/\∀p,H1 p=none->Q (.ref p) (upd H1 p (.lst xs))
theorem cD{x1}(h:PA X es t):PE X (.Tuple es x1 pos) (E5 t):=by
 intro pins s σ H Q I hq;refine wpAny_Tuple_spliced (aY (h pos pins s σ H _ I hq) λus s1 ⟨xs,H1,I1,r,z,q⟩=>⟨by rw[← r.length];exact z,?_⟩)
 have hf:H1 s1.heap.objs.size=none:=I1.aG.fresh (Nat.le_refl _);refine⟨.ref s1.heap.objs.size,upd H1 s1.heap.objs.size (.tup xs),I1.laid (t':=s1.toks) (λb u e=>get?_push_of_some _ e) (Nat.le_refl _) ?_,rfl,q _ hf⟩;exact⟨z,us,r,⟨_,get?_push_size _ rfl,rfl,_,rfl⟩⟩
theorem dH(h:PA X es t):PE X (.List es pos) (E6 t):=by
 intro pins s σ H Q I hq;refine wpAny_List_spliced (aY (h pos pins s σ H _ I hq) λus s1 ⟨xs,H1,I1,r,z,q⟩=>⟨by rw[← r.length];exact z,?_⟩)
 have hf:H1 s1.heap.objs.size=none:=I1.aG.fresh (Nat.le_refl _);refine⟨.ref s1.heap.objs.size,upd H1 s1.heap.objs.size (.lst xs),I1.laid (t':=s1.toks) (λb u e=>get?_push_of_some _ e) (Nat.le_refl _) ?_,rfl,q _ hf⟩;exact⟨z,us,0,r,get?_push_size _ rfl⟩
end
noncomputable abbrev Sp:=List V->Hp->VK->XK->Prop
noncomputable abbrev gO:=List Env->Hp->Shared->XK->Value->Shared->Prop
structure l7(P:Program)(w:World)(K:Frag)(mg:Str->Option Value)(base:Heap)(A:Around)(outer:List Env)(s:Shared)(H:Hp):Prop where
 frames:A.frames=some outer
 mod:Mod K mg base
 bs:∀b o,base.get? b=some o->s.heap.get? b=some o/\H b=none
 eW:base.objs.size<=s.heap.objs.size
 gK:s.heap.FunFrames base outer
 j5:∀b∈cA outer,H b=none
 aG:cN P w H s.heap
 bare:AllBare s.gens
noncomputable def CE(outer:List Env)(P:Program)(w:World)(H:Hp)(s:Shared)(Q:VK)(u:Value)(s':Shared):Prop :=
 ∃v H',s'.os=s.os/\AllBare s'.gens/\Un (cA outer) [] H H' s.heap s'.heap/\cN P w H' s'.heap/\RelV v u/\Q v H'
noncomputable def CR(CX:gO)(outer:List Env)(P:Program)(w:World)(H:Hp)(s:Shared)(Q:VK)(E:XK)(r:Result)(s':Shared):Prop :=
 match r with
 | .ok (.ret u)=>CE outer P w H s Q u s'
 | .ok _=>False
 | .error e=>CX outer H s E e s'
structure bq(P:Program)(w:World)(K:Frag)(mg:Str->Option Value)(base:Heap)(CX:gO)(k:Nat)(f:Addr)(fd:FuncData)(ps:List Str)(sp:Sp):Prop where
 len:∀vs H Q E,sp vs H Q E->vs.length=ps.length
 run:∀(A:Around) (outer:List Env) (s:Shared) (H:Hp) (args:Args) (us:List Value) (vs:List V) (Q:VK) (E:XK),bZ k A->l7 P w K mg base A outer s H->BindsTo s fd args (ps.zip us)->Vals vs us->sp vs H Q E->
  codeAny (model P w) A (.call (.ref f) args) (CR CX outer P w H s Q E) s
theorem bq.imp{P:Program}{w:World}{K:Frag}{mg:Str->Option Value}{base:Heap}{CX:gO}{k:Nat}{f:Addr}{fd:FuncData}{ps:List Str}{sp fJ:Sp}(F:bq P w K mg base CX k f fd ps sp)
  (h:∀vs H Q E,fJ vs H Q E->sp vs H Q E):bq P w K mg base CX k f fd ps fJ :=
 ⟨λvs H Q E q=>F.len vs H Q E (h _ _ _ _ q),λA outer s H args us vs Q E hr he hb hv hs=>F.run A outer s H args us vs Q E hr he hb hv (h _ _ _ _ hs)⟩
theorem l7.make{P:Program}{w:World}{K:Frag}{mg:Str->Option Value}{base:Heap}{A:Around}{outer:List Env}{s:Shared}{H:Hp}(e:l7 P w K mg base A outer s H)(C:Addr)(us:List Value)(kw:List (Str×Value)) :
  l7 P w K mg base (A.under (.builtin "type.__call__" ⟨.ref C::us,kw⟩)) outer s H:=⟨by first | exact e.frames | (simpa[Around.under,Code.envs,Code.isFrame,pushEnvs] using e.frames),e.mod,e.bs,e.eW,e.gK,e.j5,e.aG,e.bare⟩
section
variable{X:Cx}{pins:List (Addr×Obj)}{σ:St}{H:Hp}{s s':Shared}
theorem Inv.uG(I:Inv X pins σ H s):l7 X.prog X.w X.K X.mg X.base X.A X.stack s H :=
 ⟨I.ok.frames,I.ok.mod,I.bs,Nat.le_trans I.ok.eW I.sz,I.stack,I.um,I.aG,I.bare⟩
theorem Inv.after{Q:VK}{u:Value}(I:Inv X pins σ H s)(h:CE X.stack X.prog X.w H s Q u s'):EP X pins σ Q u s':=by
 obtain⟨v,H',os,bare,un,aG,r,q⟩:=h;obtain⟨hh,g,d,t,Za⟩:=s';obtain rfl:Za=s.os:=os;exact⟨v,H',I.call (h':=hh) (g':=g) (d':=d) (t':=t) (ch:=[]) un aG bare (λb z=>absurd z (by simp)),r,q⟩
end
noncomputable def uH(sp:Sp)(cF:List V)(E:XK)(t:TA):TE:=λσ H Q=>t σ H λvs H1=>sp (vs++cF) H1 Q E
noncomputable def uI(C:Addr)(m:Str)(sp:Sp)(cF:List V)(E:XK)(ta:TE)(t:TA):TE:=λσ H Q=>ta σ H λx H1=>∃a dx fs,x = .ref a/\H1 a=some (.ins C dx fs)/\fs.lookup m=none/\
 t σ H1 λvs H2=>sp (x::(vs++cF)) H2 Q E
noncomputable def yO(C:Addr)(sp:Sp)(cF:List V)(E:XK)(t:TA):TE:=λσ H Q=>t σ H λvs H1=>∀x dx,H1 x=none->H1 dx=none->dx≠x->
 sp (.ref x::(vs++cF)) (upd (upd H1 dx (.own x)) x (.ins C dx [])) (λv H2=>v = .aW/\Q (.ref x) H2) E
noncomputable def Binds(K:Frag)(fd:FuncData)(ps:List Str)(ds:List Value):Prop :=
 ∀(s:Shared) (us:List Value),K.In s.heap->(us++ds).length=ps.length->BindsTo s fd ⟨us,[]⟩ (ps.zip (us++ds))
theorem Binds.all{K:Frag}{fd:FuncData}{ps:List Str}(h:∀us:List Value,us.length=ps.length->bindArgs fd ⟨us,[]⟩=pure (ps.zip us)):Binds K fd ps []:=λs us _ hl=>by
 rw[append_nil] at hl ⊢;exact .of_eq (h us hl)
noncomputable def Passes(CX:gO)(X:Cx)(E:XK):Prop:=∀(pins:List (Addr×Obj)) (σ:St) (H:Hp) (s:Shared) (e:Value) (s':Shared),Inv X pins σ H s->CX X.stack H s E e s'->X.xe e s'
section
variable{X:Cx}{CX:gO}{k:Nat}{f C:Addr}{fd:FuncData}{ps:List Str}{sp:Sp}{cF:List V}{ds:List Value}{E:XK}{x m:Str}{p pos apos:Pos}{e o:Expr}{es:List Expr}{ta:TE}{t:TA}
theorem uJ{pins:List (Addr×Obj)}{σ:St}{H:Hp}{s:Shared}{Q:VK}{us:List Value}{vs:List V}(F:bq X.prog X.w X.K X.mg X.base CX k f fd ps sp)(hr:bZ k X.A)(hb:Binds X.K fd ps ds)(hd:Vals cF ds)(hx:Passes CX X E)
  (I:Inv X pins σ H s) (r:Vals vs us) (h:sp (vs++cF) H Q E):wpAny (model X.prog X.w) X.A (call (.ref f) us) (EP X pins σ Q) X.xe s:=by
 have r2:Vals (vs++cF) (us++ds):=r.append hd;have hl:(us++ds).length=ps.length:=by rw[← r2.length];exact F.len _ _ _ _ h
 refine wpAny_call (codeAny_mono (F.run X.A X.stack s H ⟨us,[]⟩ (us++ds) (vs++cF) Q E hr I.uG (hb s us I.cI hl) r2 h) λr s' hq=>?_);cases r with
 | error e=>exact hx pins σ H s e s' I hq
 | ok fl =>
  cases fl with
  | ret u=>exact I.after hq
  | next=>exact False.elim hq
  | brk=>exact False.elim hq
  | cont=>exact False.elim hq
theorem aN(F:bq X.prog X.w X.K X.mg X.base CX k f fd ps sp)(hr:bZ k X.A)(hg:Gl X x)(hm:X.mg x=some (.ref f))(hk:keepIn X.K (.ref f)=true)(hb:Binds X.K fd ps ds)(hd:Vals cF ds)(hx:Passes CX X E)
  (ha:PA X (e::es) t) (gc:(x == ("__debug__" : Str))=false:=by decide) (he:starEach (e::es) X.env=(false,eval e X.env)::starEach es X.env:=by rfl) (dN:(backTo pos (starEach es X.env)).any (·.1)=false:=by rfl) :
  PE X (.Call (.Name x p) (e::es) [] pos) (uH sp cF E t):=by
 intro pins s σ H Q I h;refine wpAny_Call_Name_kw (nC I hg hm ?_ gc);refine callWith_K (h₀:=X.base) I.ok.mod.jZ hk (aY (ha pos pins s σ H _ I h) λus s1 ⟨vs,H1,I1,r,q⟩=>⟨I1.cI,?_⟩) he dN;exact uJ F hr hb hd hx I1 r q
theorem E7{pl:Sem Bool}(he:PE X o ta)(c:fH X.K C)(hm:Meth X.K C m f)(F:bq X.prog X.w X.K X.mg X.base CX k f fd ps sp)(hr:bZ k X.A)(hb:Binds X.K fd ps ds)(hd:Vals cF ds)(hx:Passes CX X E)(ha:PA X (e::es) t)
  (c_:starEach (e::es) X.env=(false,eval e X.env)::starEach es X.env:=by rfl) (dN:(backTo pos (starEach es X.env)).any (·.1)=false:=by rfl)
  (ht:eval (.Call (.Attribute o m apos) (e::es) [] pos) X.env=(do
   let ov ← eval o X.env
   standAt apos.atName
   let (f,first) ← holding [ov] (getMethod ov m pl)
   callWith pos f first (backTo pos (starEach (e::es) X.env)) (backToKw pos (keywordEach [] X.env))):=by rfl) :
  PE X (.Call (.Attribute o m apos) (e::es) [] pos) (uI C m sp cF E ta t):=by
 intro pins s σ H Q I h;refine W.methodCall_KW (pl:=pl) (aY (he pins s σ H _ I h) λu s1 ⟨x,H1,I1,rx,zz⟩=>?_) ht;obtain⟨a,dx,fs,ex,ea,l,q⟩:=zz;subst ex;obtain rfl:u=Value.ref a:=rx;refine yL I1 ea c hm l ?_;refine callWith_K (first:=[.ref a]) (h₀:=X.base) I.ok.mod.jZ hm.kp (aY (ha pos pins s1 σ H1 _ I1 q) λus s2 ⟨vs,H2,I2,r,q2⟩=>⟨I2.cI,?_⟩) c_ dN
 exact uJ (us:=.ref a::us) (vs:=.ref a::vs) F hr hb hd hx I2 (.cons rfl r) q2
theorem Zb{pl:Sem Bool}(he:PE X o ta)(c:fH X.K C)(hm:Meth X.K C m f)(F:bq X.prog X.w X.K X.mg X.base CX k f fd ps sp)(hr:bZ k X.A)(hb:Binds X.K fd ps ds)(hd:Vals cF ds)(hx:Passes CX X E)
  (ht:eval (.Call (.Attribute o m apos) [] [] pos) X.env=(do
   let ov ← eval o X.env
   standAt apos.atName
   let (f,first) ← holding [ov] (getMethod ov m pl)
   callWith pos f first (backTo pos (starEach [] X.env)) (backToKw pos (keywordEach [] X.env))):=by rfl) :
  PE X (.Call (.Attribute o m apos) [] [] pos) (uI C m sp cF E ta uF):=by
 intro pins s σ H Q I h;refine W.methodCall_KW (pl:=pl) (aY (he pins s σ H _ I h) λu s1 ⟨x,H1,I1,rx,zz⟩=>?_) ht;obtain⟨a,dx,fs,ex,ea,l,q⟩:=zz;subst ex;obtain rfl:u=Value.ref a:=rx;refine yL I1 ea c hm l ?_;exact W.callWith_K0 (first:=[.ref a]) I1.cI hm.kp (uJ (us:=[.ref a]) (vs:=[.ref a]) F hr hb hd hx I1 (.cons rfl .nil) q)
structure Mk(K:Frag)(C f:Addr):Prop where
 makes:makesIn K C=true
 init:findIn K (.ref C) "__init__" = some (some (.ref f))
 fn:isFn K (.ref f)=true
 kp:keepIn K (.ref C)=true
theorem Zc{pins:List (Addr×Obj)}{σ:St}{H:Hp}{s:Shared}{Q:VK}{us:List Value}{vs:List V}(M:Mk X.K C f)(F:bq X.prog X.w X.K X.mg X.base CX k f fd ps sp)(hr:bZ (k+1) X.A)(hb:Binds X.K fd ps ds)(hd:Vals cF ds)
  (hx:Passes CX X E) (I:Inv X pins σ H s) (r:Vals vs us)
  (h:∀x dx,H x=none->H dx=none->dx≠x->sp (.ref x::(vs++cF)) (upd (upd H dx (.own x)) x (.ins C dx [])) (λv H2=>v = .aW/\Q (.ref x) H2) E) :
  wpAny (model X.prog X.w) X.A (call (.ref C) us) (EP X pins σ Q) X.xe s:=by
 have hq:=h (s.heap.objs.size+1) s.heap.objs.size (I.aG.fresh (le_succ _)) (I.aG.fresh (Nat.le_refl _)) (Nat.ne_of_lt (lt_succ_self _));have I2:=Inv.made (C:=C) I;have r2:Vals (V.ref (s.heap.objs.size+1)::(vs++cF)) (Value.ref (s.heap.objs.size+1)::(us++ds)):=.cons rfl (r.append hd);have hl:(Value.ref (s.heap.objs.size+1)::us++ds).length=ps.length:=by
  have e:=r2.length;rw[F.len _ _ _ _ hq] at e;exact e.symm
 refine wpAny_call (NN (f:=f) I.cI M.makes M.init (beq_iff_eq.mp M.fn) (codeAny_mono (F.run _ X.stack _ _ ⟨Value.ref (s.heap.objs.size+1)::us,[]⟩ (Value.ref (s.heap.objs.size+1)::(us++ds)) _ _ E (hr.make C us [])
  (I2.uG.make C us []) (hb _ (Value.ref (s.heap.objs.size+1)::us) I2.cI hl) r2 hq) λr s' fD=>?_))
 cases r with
 | error e=>exact hx pins σ _ _ e s' I2 fD
 | ok fl =>
  cases fl with
  | ret u =>
   obtain⟨v,H',I3,rv,ev,q3⟩:=I2.after fD;subst ev;exact⟨rv,⟨V.ref (s.heap.objs.size+1),H',I3,rfl,q3⟩⟩
  | next=>exact False.elim fD
  | brk=>exact False.elim fD
  | cont=>exact False.elim fD
theorem nF(M:Mk X.K C f)(F:bq X.prog X.w X.K X.mg X.base CX k f fd ps sp)(hr:bZ (k+1) X.A)(hg:Gl X x)(hm:X.mg x=some (.ref C))(hb:Binds X.K fd ps ds)(hd:Vals cF ds)(hx:Passes CX X E)
  (ha:PA X (e::es) t) (gc:(x == ("__debug__" : Str))=false:=by decide) (he:starEach (e::es) X.env=(false,eval e X.env)::starEach es X.env:=by rfl) (dN:(backTo pos (starEach es X.env)).any (·.1)=false:=by rfl) :
  PE X (.Call (.Name x p) (e::es) [] pos) (yO C sp cF E t):=by
 intro pins s σ H Q I h;refine wpAny_Call_Name_kw (nC I hg hm ?_ gc);refine callWith_K (h₀:=X.base) I.ok.mod.jZ M.kp (aY (ha pos pins s σ H _ I h) λus s1 ⟨vs,H1,I1,r,q⟩=>⟨I1.cI,?_⟩) he dN;exact Zc M F hr hb hd hx I1 r q
end
noncomputable def PK(X:Cx)(NR:List Keyword)(t:TA):Prop :=
 ∀(pos:Pos) (pins:List (Addr×Obj)) (s:Shared) (σ:St) (H:Hp) (Q:List V->Hp->Prop),Inv X pins σ H s->t σ H Q->wpAny (model X.prog X.w) X.A (evalAll ((backToKw pos (keywordEach NR X.env)).map (·.2))) (AP X pins σ Q) X.xe s
section
variable{X:Cx}{CX:gO}{k:Nat}{f C:Addr}{fd:FuncData}{ps ks:List Str}{sp:Sp}{E:XK}{x m:Str}{p pos apos aix:Pos}{e o:Expr}{es:List Expr}{NR:List Keyword}{te ta:TE}{t tk:TA}{nm:Option Str}
variable{g:List Value->List Value->List Value}{gV:List V->List V->List V}
end
structure bB(N P:List Str)(sc:Scope):Prop where
 kind:sc.kind = .function
 co:sc.isCoroutine=false
 gen:sc.isGenerator=false
 nd:N.Nodup
 pre:N.take P.length=P
 par:∀x∈P,sc.names.lookup x=some .local\/sc.names.lookup x=some .cell
 Zd:∀y∈sc.names,y.2≠.free
theorem NS{kindOf:Str->Option NameKind}{x:Str}:∀ {binds:List (Str×Value)} {m:Str->Option Value},(∀v,(x,v)∉binds)->bindL kindOf binds m x=m x
 | [],_,_=>rfl
 | (n,v)::r,m,h=>by
  unfold bindL;rw[NS λw hw=>h w (mem_cons_of_mem _ hw)];split
  ·have:x≠n:=by rintro rfl;exact h v mem_cons_self
   simp[this]
  ·rfl
theorem NT{kindOf:Str->Option NameKind}{x:Str}:∀ {binds:List (Str×Value)} {m:Str->Option Value},(∀v,(x,v)∉binds)->bindC kindOf binds m x=m x
 | [],_,_=>rfl
 | (n,v)::r,m,h=>by
  unfold bindC;rw[NT λw hw=>h w (mem_cons_of_mem _ hw)];split
  ·rfl
  ·have:x≠n:=by rintro rfl;exact h v mem_cons_self
   simp[this]
theorem NU{kindOf:Str->Option NameKind}{x:Str}{v:Value}:∀ {P:List Str} {vs:List Value} {i:Nat} {m:Str->Option Value},P.Nodup->P[i]? = some x->vs[i]? = some v->kindOf x=some .local->
  bindL kindOf (P.zip vs) m x=some v
 | [],_,_,_,_,h,_,_=>by simp at h
 | _::_,[],_,_,_,_,h,_=>by simp at h
 | p::P,w::vs,0,m,nd,h1,h2,hk=>by
  simp at h1 h2;subst h1;subst h2
  show bindL kindOf ((p,w)::P.zip vs) m p=_;unfold bindL;rw[NS λv hv=>(nodup_cons.mp nd).1 (of_mem_zip hv).1,if_pos hk];simp
 | p::P,w::vs,i+1,m,nd,h1,h2,hk=>by
  show bindL kindOf ((p,w)::P.zip vs) m x=_;unfold bindL;exact NU (i:=i) (nodup_cons.mp nd).2 (by simpa using h1) (by simpa using h2) hk
theorem NV{kindOf:Str->Option NameKind}{x:Str}{v:Value}:∀ {P:List Str} {vs:List Value} {i:Nat} {m:Str->Option Value},P.Nodup->P[i]? = some x->vs[i]? = some v->kindOf x≠some .local->
  bindC kindOf (P.zip vs) m x=some v
 | [],_,_,_,_,h,_,_=>by simp at h
 | _::_,[],_,_,_,_,h,_=>by simp at h
 | p::P,w::vs,0,m,nd,h1,h2,hk=>by
  simp at h1 h2;subst h1;subst h2
  show bindC kindOf ((p,w)::P.zip vs) m p=_;unfold bindC;rw[NT λv hv=>(nodup_cons.mp nd).1 (of_mem_zip hv).1,if_neg hk];simp
 | p::P,w::vs,i+1,m,nd,h1,h2,hk=>by
  show bindC kindOf ((p,w)::P.zip vs) m x=_;unfold bindC;exact NV (i:=i) (nodup_cons.mp nd).2 (by simpa using h1) (by simpa using h2) hk
noncomputable def start(N:List Str)(vs:List V):St:=vs.map some++List.replicate (N.length - vs.length) none
noncomputable def gP(CX:gO)(P:Program)(w:World)(K:Frag)(mg:Str->Option Value)(base:Heap)(N:List Str)(qual:Str)(scope:Scope)(f:Addr)(cd:Value)(A:Around)(outer:List Env)(s:Shared)(H:Hp)(E:XK):Cx where
 prog:=P
 w:=w
 K:=K
 mg:=mg
 base:=base
 A:=A.deeper (envOfC qual scope s.heap.objs.size f cd)
 N:=N
 bG:=s
 gz:=H
 env:=envOfC qual scope s.heap.objs.size f cd
 outer:=outer
 stack:=envOfC qual scope s.heap.objs.size f cd::outer
 ex:=[]
 calm:=true
 fn:=λ_=>true
 pn:=[]
 xe:=λe s'=>wpAny (model P w) (A.deeper (envOfC qual scope s.heap.objs.size f cd)) (leaving (envOfC qual scope s.heap.objs.size f cd) e) (λ_ nG=>CX outer H s E e nG) (λe' nG=>CX outer H s E e' nG) s'
theorem NW{sc:Scope}{n:Nat}{x:Str}(h:sc.names.lookup x=some .cell):∃c,(cellsFrom n sc.names []).lookup x=some c:=by
 have q:=W.cellsFrom_some sc.names n [] (.inl h);exact isSome_iff_exists.mp q
theorem NY{CX:gO}{P:Program}{w:World}{K:Frag}{mg:Str->Option Value}{base:Heap}{N ps:List Str}{qual:Str}{scope:Scope}{f:Addr}{cd:Value}{A:Around}{outer:List Env}{s s1:Shared}{H:Hp}{E:XK}{us:List Value}{vs:List V}
  (S:bB N ps scope) (hd:A.handled=none) (e0:l7 P w K mg base A outer s H) (hl:vs.length=ps.length) (r:Vals vs us)
  (x:InCallC s s.heap.objs.size (bindL (envOfC qual scope s.heap.objs.size f cd).kindOf (ps.zip us) λ_=>none) (cellsFrom (s.heap.objs.size+1) scope.names []) (bindC (envOfC qual scope s.heap.objs.size f cd).kindOf (ps.zip us) λ_=>none) s1) :
  Inv (gP CX P w K mg base N qual scope f cd A outer s H E) [] (start N vs) H s1:=by
 have dN:ps.length<=N.length:=by have:=congrArg List.length S.pre;rw[length_take] at this;lia
 obtain⟨h1,tk,rfl,hk⟩:=x.done;have uK:∀b:Addr,b∉(gP CX P w K mg base N qual scope f cd A outer s H E).ex:=λb z=>absurd (show b∈([]:List Addr) from z) (by simp)
 refine⟨⟨e0.mod,S.kind,rfl,rfl,Nat.le_refl _,λy z c h1 h2=>?_,λy hy=>?_,λy c _ h=>?_,λ_=>hd,Around.frames_deeper e0.frames,.inr ⟨rfl,rfl⟩,λb z=>absurd z (uK b),e0.bs,e0.eW,λb _ _=>uK b,λb z=>absurd z (uK b),e0.gK,e0.j5⟩,
  rfl,e0.bare,Un.kept hk,⟨_,x.toInCall.ns,λi y v h1 h2 h3=>?_⟩,λy c h=>⟨_,x.cell y c h⟩,e0.aG.fresh (Nat.le_refl _),λy c h=>?_,λp hp=>absurd (show p∈([]:List (Addr×Obj)) from hp) (by simp),e0.aG.kept hk,?_⟩
 ·exact name_of_addr x.apart (PySem.mem_of_lookup h1) (PySem.mem_of_lookup h2)
 ·have hy:scope.names.lookup y=some .cell\/scope.names.lookup y=some .free:=hy;rcases hy with hy | hy
  ·exact NW hy
  ·exact absurd rfl (S.Zd _ (PySem.mem_of_lookup hy))
 ·exact Nat.le_of_lt (x.above y c (PySem.mem_of_lookup h))
 ·have hi:i<vs.length:=by
   unfold start at h2;by_cases hi:i<vs.length
   ·exact hi
   ·rw[getElem?_append_right (by simpa using hi)] at h2
    rw[List.getElem?_replicate] at h2;split at h2 <;> cases h2
  have ha:vs[i]? = some v:=by
   unfold start at h2;rw[getElem?_append_left (by simpa using hi),getElem?_map] at h2
   cases e:vs[i]? with
   | none=>rw[e] at h2;cases h2
   | some a=>rw[e] at h2;cases h2;rfl
  obtain⟨u,hu,rv⟩:=r.get ha;have hp:ps[i]? = some y:=by
   rw[← S.pre,List.getElem?_take_of_lt ∅];exact h1
  have NZ:ps.Nodup:=by rw[← S.pre];exact S.nd.sublist (List.take_sublist _ _)
  refine⟨u,rv,?_⟩;rcases S.par y (mem_of_getElem? hp) with k | k
  ·exact .inl ⟨k,NU NZ hp hu k⟩
  ·obtain⟨c,e⟩:=NW (n:=s.heap.objs.size+1) k;refine .inr ⟨.inl k,c,e,?_⟩;have q:=x.cell y c e;rw[NV NZ hp hu (by show scope.names.lookup y≠_;rw[k];decide)] at q
   exact q
 ·exact e0.aG.fresh (Nat.le_of_lt (x.above y c (PySem.mem_of_lookup h)))
 ·unfold start
  show _=N.length;rw[length_append,length_map,length_replicate];lia
theorem yP{CX:gO}{P:Program}{w:World}{K:Frag}{mg:Str->Option Value}{base:Heap}{k:Nat}{f:Addr}{name qual:Str}{params:Arguments}{body:List Stmt}{scope:Scope}{dV kV doc pm aV ct oc:Value}{an od:Option Addr}
  {gQ:Array (Option Value)} {N ps:List Str} {sp:Sp} (lk:K.lookup f=some ⟨oc,od,.func (fnOf name qual params body scope dV kV doc pm an aV ct),gQ⟩) (cY:codeIn K aV qual=true) (S:bB N ps scope)
  (len:∀vs H Q E,sp vs H Q E->vs.length=ps.length)
  (kN:∀(A:Around) (outer:List Env) (s:Shared) (H:Hp) (vs:List V) (Q:VK) (E:XK),bZ k (A.deeper (envOfC qual scope s.heap.objs.size f aV))->sp vs H Q E->
   ∃t,fB (gP CX P w K mg base N qual scope f aV A outer s H E) body t/\t { nx:=λ_ H'=>Q .aW H',rt:=Q } (start N vs) H) :
  bq P w K mg base CX (k+1) f (fnOf name qual params body scope dV kV doc pm an aV ct) ps sp:=by
 refine⟨len,λA outer s H args us vs Q E hr e0 hb r fK=>?_⟩;have hl:=len _ _ _ _ fK;have KX:K.In s.heap:=e0.mod.jZ.keeps λb o e=>(e0.bs b o e).1;have lim:s.heap.NoLimit:=e0.mod.nolimit.keeps λb o e=>(e0.bs b o e).1;have Ze:∀y∈ps.zip us,scope.names.lookup y.1=some .local\/(scope.names.lookup y.1=some .cell/\((cellsFrom (s.heap.objs.size+1) scope.names []).lookup y.1).isSome=true):=λ⟨n,v⟩ hy=>by
  rcases S.par n (of_mem_zip hy).1 with q | q
  ·exact .inl q
  ·exact .inr ⟨q,W.cellsFrom_some _ _ _ (.inl q)⟩
 refine codeAny_call_function hr.depth (KX _ _ lk) rfl S.co S.gen rfl (W.codeRec_of KX cY) (hb _ _ _ _ ?_);refine wpAny_newFunctionEnv_cells S.kind Ze λenv he s1 x=>?_;subst he;refine⟨lim.keeps x.toInCall.keep,codeAny_func ?_⟩;obtain⟨t,ht,hq⟩:=kN A outer s H vs Q E (hr.deeper _) fK;have I:Inv (gP CX P w K mg base N qual scope f aV A outer s H E) [] (start N vs) H s1:=NY S hr.hd e0 hl r x;refine wpAny_mono (ht [] s1 (start N vs) H _ I hq) (λfl s' hs=>?_) λe s' hs=>hs;have fin:∀ {bf:St} {H':Hp} {v:V} {u:Value},Inv (gP CX P w K mg base N qual scope f aV A outer s H E) [] bf H' s'->RelV v u->Q v H'->CE outer P w H s Q u s' :=
  λ{bf H' v u} J rv q=>⟨v,H',J.os,J.bare,J.base,J.aG,rv,q⟩
 cases fl with
 | ret u =>
  obtain⟨v,bf,H',J,rv,q⟩:=hs;exact fin J rv q
 | next =>
  obtain⟨bf,H',J,q⟩:=hs;exact fin (v:=V.aW) (u:=Value.none) J rfl q
 | brk =>
  obtain⟨_,_,_,q⟩:=hs;exact False.elim q
 | cont =>
  obtain⟨_,_,_,q⟩:=hs;exact False.elim q
section
variable{X:Cx}{x:Str}{p pos:Pos}{e:Expr}{es:List Expr}{t:TA}{id T:String}{r:List V->Hp->VK->Prop}
noncomputable def yQ(r:List V->Hp->VK->Prop)(t:TA):TE:=λσ H Q=>t σ H λvs H1=>r vs H1 Q
theorem bI(hc:f9 X (.builtin id) r)(hg:Gl X x)(hm:X.mg x=none)(hv:bootBuiltins x=some (.builtin id))(ha:PA X (e::es) t)(hn:autoParam (x≠"__name__") jB)(gc:autoParam ((x == ("__debug__" : Str))=false) jB)
  (he:starEach (e::es) X.env=(false,eval e X.env)::starEach es X.env:=by rfl) (dN:(backTo pos (starEach es X.env)).any (·.1)=false:=by rfl):PE X (.Call (.Name x p) (e::es) [] pos) (yQ r t):=by
 intro pins s σ H Q I h;refine wpAny_Call_Name_kw (kJ I hg hm hv ?_ hn gc);exact PyProof.Rows.callWith_builtin1 (aY (ha pos pins s σ H _ I h) λus s1 ⟨vs,H1,I1,r1,q1⟩=>hc pins s1 σ H1 vs us Q I1 r1 q1) he dN
theorem l8(hc:f9 X (.type T) r)(hg:Gl X x)(hm:X.mg x=none)(hv:bootBuiltins x=some (.type T))(ha:PA X (e::es) t)(hn:autoParam (x≠"__name__") jB)(gc:autoParam ((x == ("__debug__" : Str))=false) jB)
  (he:starEach (e::es) X.env=(false,eval e X.env)::starEach es X.env:=by rfl) (dN:(backTo pos (starEach es X.env)).any (·.1)=false:=by rfl):PE X (.Call (.Name x p) (e::es) [] pos) (yQ r t):=by
 intro pins s σ H Q I h;refine wpAny_Call_Name_kw (kJ I hg hm hv ?_ hn gc);exact PyProof.Rows.callWith_type1 (aY (ha pos pins s σ H _ I h) λus s1 ⟨vs,H1,I1,r1,q1⟩=>hc pins s1 σ H1 vs us Q I1 r1 q1) he dN
end
end _L
namespace _H
open PySem PyProof.Rows
noncomputable def lexLt:List Int->List Int->Bool
 | [],[]=>false
 | [],_::_=>true
 | _::_,[]=>false
 | x::xs,y::ys=>if x=y then lexLt xs ys else decide (x<y)
theorem Zf(x y:Int)(xs ys:List Int):lexLt (x::xs) (y::ys)=if x=y then lexLt xs ys else decide (x<y):=rfl
theorem Zg:lexLt [] [] = false:=rfl
theorem Zh(y:Int)(ys:List Int):lexLt [] (y::ys)=true:=rfl
theorem Zi(x:Int)(xs:List Int):lexLt (x::xs) [] = false:=rfl
theorem Zj(A:Around)(s:Shared)(a:Int)(t:Tok)(c:Int)(u:Tok):∃e,SeqAt.EqAt A s (.int a t) (.int c u) e/\(e=true↔a=c) :=
 ⟨(a == c),SeqAt.EqAt.int_int a t c u,by simp⟩
theorem Zk(A:Around)(s:Shared)(a:Int)(t:Tok)(c:Int)(u:Tok)(prog:Program)(w:World)(E:Value->Shared->Prop)(Q:Value->Shared->Prop)(h:Q (.bool (decide (a<c))) s) :
  wpAny (model prog w) A (richCompare .Lt (.int a t) (.int c u)) Q E s :=
 (PyProof.Rows.lt_int h:wpAny (model prog w) A (compareOp .Lt (.int a t) (.int c u)) Q E s)
section
open PySem.SeqAt
open PySem.AutoSeq1 (wpAny_loadPart')
open PySem.MeetsSeq PySem.MeetsSeq2 PySem.MeetsSeq3
theorem Zl(l b:Addr)(items l9:Array Value)(n n2:Nat)(dd yR:Option Addr)(sl qo:Array (Option Value))(ns ms:List Int)(hi:IntsAre items.toList ns)(hj:IntsAre l9.toList ms) :
  Meets (Builtin.«tuple.__lt__» ⟨[.ref l,.ref b],[]⟩)
   (λ_ R s=>s.heap.get? l=some { cls:=.type "tuple",dict:=dd,data:=.seq items n,slots:=sl }/\s.heap.get? b=some { cls:=.type "tuple",dict:=yR,data:=.seq l9 n2,slots:=qo }/\
    R (.ok (.ret (.bool (lexLt ns ms)))) s) :=
 .of_wp λprog w A R s h=>by
  obtain⟨hp,g,d,tk,os⟩:=s;obtain⟨hl,hb,h⟩:=h;have f2:=AutoSeq1.sub_tuple_tuple;have z1:items.size=ns.length:=by rw[← hi.length];simp
  have z2:l9.size=ms.length:=by rw[← hj.length];simp
  wp_walk using wpAny_loadPart' hl,wpAny_loadPart' hb,wpAny_forIn_list _ (λrest b s'=>b.1=none/\s' = ⟨hp,g,d,tk,os⟩/\∃(vs ws:List Value) (cZ rY:List Int),rest=vs.zip ws/\
   IntsAre vs cZ/\IntsAre ws rY/\cZ.length+l9.size=rY.length+items.size/\R (.ok (.ret (.bool (lexLt cZ rY)))) ⟨hp,g,d,tk,os⟩) _
  case turn =>
   rintro⟨y,x⟩ rest b s' ⟨eX,rfl,vs,ws,cZ,rY,hz,E8,yS,hlen,hR⟩;cases E8 with
   | nil=>rw[List.zip_nil_left] at hz;cases hz
   | cons a t Zm =>
    cases yS with
    | nil=>rw[List.zip_nil_right] at hz;cases hz
    | cons c u Zo =>
     rw[List.zip_cons_cons] at hz;injection hz with Zp Zq;injection Zp with hy hx;subst hy hx;rw[Zf] at hR;simp only[length_cons] at hlen;obtain⟨e,he,N_⟩:=Zj A.in1 ⟨hp,g,d,tk,os⟩ a t c u;refine wpAny_bind (he prog w _ _ ?_);cases e with
     | true =>
      rw[if_pos (N_.mp rfl)] at hR;wp_walk;exact⟨rfl,rfl,_,_,_,_,Zq,Zm,Zo,∅,hR⟩
     | false =>
      rw[if_neg (λq=>absurd (N_.mpr q) Bool.false_ne_true)] at hR;have Zr:=Zk A.in1 ⟨hp,g,d,tk,os⟩ a t c u prog w;wp_walk using Zr;exact⟨_,rfl,by simpa using hR⟩
  case fin =>
   rintro⟨b1,b2⟩ s' ⟨eX,rfl,vs,ws,cZ,rY,hz,E8,yS,hlen,hR⟩;simp only at eX;subst eX;have hv:lexLt cZ rY=decide (items.size<l9.size):=by
    cases E8 with
    | nil =>
     cases yS with
     | nil =>
      simp only[length_nil] at hlen;rw[Zg];exact(decide_eq_false ∅).symm
     | cons c u hw =>
      simp only[length_nil,length_cons] at hlen;rw[Zh];exact(decide_eq_true ∅).symm
    | cons a t hv =>
     cases yS with
     | nil =>
      simp only[length_nil,length_cons] at hlen;rw[Zi];exact(decide_eq_false ∅).symm
     | cons c u hw =>
      rw[List.zip_cons_cons] at hz;cases hz
   rw[hv] at hR;wp_walk;exact⟨_,rfl,by simpa[Builtin.Tuple.tupleCompareSizes] using hR⟩
  case h =>
   exact⟨rfl,rfl,items.toList,l9.toList,ns,ms,rfl,hi,hj,∅,h⟩
end
section
variable{prog:Program}{w:World}{A:Around}{E:Value->Shared->Prop}{s:Shared}
theorem Zt{l b:Addr}{items l9:Array Value}{ns ms:List Int}{Q:Value->Shared->Prop}(hl:IsTup s.heap l items)(hb:IsTup s.heap b l9)(hi:IntsAre items.toList ns)(hj:IntsAre l9.toList ms)
  (hu:A.units<cLine) (h:Q (.bool (lexLt ns ms)) s):wpAny (model prog w) A (compareOp .Lt (.ref l) (.ref b)) Q E s:=by
 obtain⟨⟨cls,dd,data,sl⟩,ho,hc,n,hd⟩:=id hl;obtain⟨⟨aiy,yR,data2,qo⟩,qp,o7,n2,hd2⟩:=id hb;simp only at hc hd o7 hd2;subst hc hd o7 hd2;exact richCompare_meets_room (op:=.Lt) ⟨_,ho,rfl⟩ ⟨_,qp,rfl⟩ PySem.F.slot_tuple_lt PySem.F.entry_tuple_lt (PySem.F.args_tuple_lt_2 _ _) (Zl l b items l9 n n2 dd yR sl qo ns ms hi hj)
  ⟨ho,qp,show Value.bool (lexLt ns ms)≠Value.notImplemented/\Q (.bool (lexLt ns ms)) s from⟨(λx=>nomatch x),h⟩⟩ hu
noncomputable def bC(n d:Nat):Option Int->Nat
 | none=>d
 | some v=>if v<0 then(v+(n:Int)).toNat else min v.toNat n
theorem Zu(n d:Nat)(hd:d<=n)(o:Option Int):bC n d o<=n:=by
 cases o with
 | none=>exact hd
 | some v =>
  show (if v<0 then(v+(n:Int)).toNat else min v.toNat n)<=n
  by_cases hv:v<0
  ·rw[if_pos hv];lia
  ·rw[if_neg hv];exact Nat.min_le_right _ _
theorem Oa(v:Int)(n d:Nat):(if v<0 then max (v+(n:Int)) 0 else min v (n:Int))=((bC n d (some v):Nat):Int):=by
 show (if v<0 then max (v+(n:Int)) 0 else min v (n:Int))=(((if v<0 then(v+(n:Int)).toNat else min v.toNat n):Nat):Int)
 by_cases hv:v<0
 ·simp only[if_pos hv];lia
 ·simp only[if_neg hv];lia
theorem Zv(lo hi:Option Int)(n:Nat):Builtin.Slice.sliceAdjust lo hi 1 (n:Int)=(((bC n 0 lo:Nat):Int),((bC n n hi:Nat):Int)):=by
 have h1:¬ ((1:Int)<0):=by lia
 unfold Builtin.Slice.sliceAdjust;simp only[h1,if_false];refine Prod.ext ?_ ?_
 ·cases lo with
  | none=>rfl
  | some v=>exact Oa v n 0
 ·cases hi with
  | none=>rfl
  | some v=>exact Oa v n n
theorem Zw(i j:Nat):Builtin.Slice.slicePlaces (i:Int) (j:Int) 1=j - i:=by
 unfold Builtin.Slice.slicePlaces;have h1:(1:Int) > 0:=by lia
 simp only[h1,if_true,Int.ediv_one];split <;> lia
theorem Ob{v:Value}{o:Option Int}{Q:Option Int->Shared->Prop}(p:IsPart v o)(h:Q o s):wpAny (model prog w) A (Builtin.Slice.slicePartIndex v) Q E s:=by
 cases p with
 | none=>exact slicePart_none h
 | int i t=>exact slicePart_int h
theorem Zx{sl:Addr}{vl vu:Value}{lo hi:Option Int}{n:Nat}{Q:Int×Int×Nat->Shared->Prop}(hs:s.heap.IsSliceOf sl vl vu .none)(pl:IsPart vl lo)(pu:IsPart vu hi)
  (h:Q (((bC n 0 lo:Nat):Int),1,bC n n hi - bC n 0 lo) s):wpAny (model prog w) A (Builtin.Slice.sliceApplied (.ref sl) (pure (n:Int))) Q E s:=by
 obtain⟨os,nH,Oc,yT⟩:=id hs;unfold Builtin.Slice.sliceApplied Builtin.Slice.sliceFields;refine wpAny_bind (wpAny_bind (wpAny_field nH yT (x:=vl) rfl (wpAny_bind (wpAny_field nH yT (x:=vu) rfl (wpAny_bind (wpAny_field nH yT (x:=.none) rfl (wpAny_pure ?_)))))));refine wpAny_bind (slicePart_none ?_)
 show wpAny _ _ (if ((1:Int) == 0)=true then _ else _) _ _ s
 rw[if_neg (by decide)]
 refine wpAny_bind (Ob pl (wpAny_bind (Ob pu (wpAny_bind (wpAny_pure ?_)))))
 show wpAny _ _ (match Builtin.Slice.sliceAdjust lo hi 1 (n:Int) with | (lo,hi)=>pure (lo,(1:Int),Builtin.Slice.slicePlaces lo hi 1)) _ _ s
 rw[Zv lo hi n]
 show wpAny _ _ (pure (((bC n 0 lo:Nat):Int),(1:Int),Builtin.Slice.slicePlaces ((bC n 0 lo:Nat):Int) ((bC n n hi:Nat):Int) 1)) _ _ s;rw[Zw];exact wpAny_pure h
theorem Zy(xs:Array Value)(i k:Nat):((List.range k).filterMap λ(m:Nat)=>xs[((i:Int)+(m:Int)*1).toNat]?).toArray=((xs.toList.drop i).take k).toArray:=by
 have e:(λ(m:Nat)=>xs[((i:Int)+(m:Int)*1).toNat]?)=λm=>xs[i+m]? := by
  funext m
  have:((i:Int)+(m:Int)*1).toNat=i+m:=by lia
  rw[this]
 rw[e];have:=pick_run xs i k;rw[List.filterMap_map] at this;have e2:((λx=>xs[x]?) ∘ λx=>i+x)=λm=>xs[i+m]? := rfl;rw[e2] at this;rw[this]
theorem ZA{t sl:Addr}{items:Array Value}{vl vu:Value}{lo hi:Option Int}{Q:Value->Shared->Prop}(ht:IsTup s.heap t items)(hs:s.heap.IsSliceOf sl vl vu .none)(pl:IsPart vl lo)(pu:IsPart vu hi)
  (hw:¬ (bC items.size 0 lo=0/\bC items.size items.size hi=items.size))
  (h:Q (.ref s.heap.objs.size) { s with heap:=s.heap.push { cls:=.type "tuple",data:=.seq ((items.toList.drop (bC items.size 0 lo)).take (bC items.size items.size hi - bC items.size 0 lo)).toArray }})
  (hsz:items.size<=sizeLine):wpAny (model prog w) A (getItem (.ref t) (.ref sl)) Q E s:=by
 have yU:sizeOk (.seq ((items.toList.drop (bC items.size 0 lo)).take (bC items.size items.size hi - bC items.size 0 lo)).toArray):=by
  show ((items.toList.drop (bC items.size 0 lo)).take (bC items.size items.size hi - bC items.size 0 lo)).toArray.size<=sizeLine;rw[size_toArray,length_take,length_drop,length_toList];lia
 have hj:bC items.size items.size hi<=items.size:=Zu _ _ (Nat.le_refl _) hi;obtain⟨os,nH,Oc,yT⟩:=id hs;have ZC:s.TypeIs (.ref sl) "slice" := ⟨os,nH,Oc⟩;unfold getItem
 try with_reducible refine wpAny_holding ?_
 first | refine wpAny_bind (wpAny_pure ?_) | skip
 refine wpAny_bind (wpAny_sequenceKey ht.typeIs (by decide) ?_)
 refine wpAny_bind (wpAny_callSpecial?_slot (name:=Str.ofString "__getitem__") ht.typeIs PyProof.Rows.slot_tuple_getitem
  (wpAny_call_entry PyProof.Rows.slot_tuple_getitem ht.typeIs entry_tuple_getitem ?_ (args_tuple_getitem _ _)))
 show wpAny _ _ (Builtin.Tuple.tupleItemsOf (.ref t) >>= _) _ _ s;refine wpAny_bind (tupleItemsOf_ ht ?_);refine wpAny_bind (wpAny_typeOf ZC ?_);rw[if_pos (by decide)]
 refine wpAny_bind (Zx hs pl pu ?_);have iJ:¬ ((((bC items.size 0 lo:Nat):Int) == 0 && (1:Int) == 1 && (bC items.size items.size hi - bC items.size 0 lo) == items.size)=true):=by
  intro q;rw[and_eq_true,and_eq_true] at q;have q1:((bC items.size 0 lo:Nat):Int)=0:=eq_of_beq q.1.1;have q2:bC items.size items.size hi - bC items.size 0 lo=items.size:=eq_of_beq q.2;exact hw ⟨∅,∅⟩
 show wpAny _ _ (if (((bC items.size 0 lo:Nat):Int) == 0 && (1:Int) == 1 && (bC items.size items.size hi - bC items.size 0 lo) == items.size)=true then _ else _) _ _ s
 rw[if_neg iJ,Zy]
 first
  | exact wpAny_bind (m:=Builtin.Tuple.tupleExact _) (wpAny_newObj_type (wpAny_pure ⟨_,rfl,wpAny_pure h⟩) yU)
  | exact wpAny_bind (m:=Builtin.Tuple.tupleExact _) (wpAny_newObj_type (wpAny_bind (wpAny_pure (wpAny_pure ⟨_,rfl,wpAny_pure h⟩))) yU)
  | exact wpAny_bind (wpAny_bind (m:=Builtin.Tuple.tupleExact _) (wpAny_newObj_type (wpAny_pure (wpAny_pure ⟨_,rfl,wpAny_pure h⟩)) yU))
  | exact wpAny_bind (wpAny_bind (m:=Builtin.Tuple.tupleExact _) (wpAny_newObj_type (wpAny_pure ⟨_,rfl,wpAny_pure h⟩) yU))
end
end _H
namespace _L
open PySem PySem.Spec PyProof.Rows
noncomputable abbrev TO:=St->Hp->(Option Int->Hp->Prop)->Prop
noncomputable def PO(X:Cx)(e:Option Expr)(t:TO):Prop :=
 ∀(pins:List (Addr×Obj)) (s:Shared) (σ:St) (H:Hp) (Q:Option Int->Hp->Prop),Inv X pins σ H s->t σ H Q->
  wpAny (model X.prog X.w) X.A (evalPart e X.env) (λu s'=>∃o H',Inv X pins σ H' s'/\IsPart u o/\Q o H') X.xe s
noncomputable def E9:TO:=λ_ H Q=>Q none H
noncomputable def E_(t:TE):TO:=λσ H Q=>t σ H λx H1=>∃i,x = .int i/\Q (some i) H1
theorem intsAre_of{ns:List Int}:∀ {us:List Value},Vals (ns.map V.int) us->IntsAre us ns:=by
 induction ns with
 | nil=>intro us r;rw[map_nil] at r;cases r;exact .nil
 | cons n ns ih =>
  intro us r;rw[map_cons] at r;cases r with
  | cons r1 r2 =>
   obtain⟨t,e⟩:=r1;subst e;exact .cons n t (ih r2)
section
variable{X:Cx}{e:Expr}{te:TE}{lo hi:Option Expr}{tl th:TO}{pos p2:Pos}
theorem rZ:PO X none E9:=by
 intro pins s σ H Q I h;rw[evalPart_none];exact wpAny_pure ⟨none,H,I,.none,h⟩
theorem o8(h:PE X e te):PO X (some e) (E_ te):=by
 intro pins s σ H Q I hw;rw[evalPart_some];refine aY (h pins s σ H _ I hw) λu s1 ⟨x,H1,I1,r1,q1⟩=>?_;obtain⟨i,rfl,q⟩:=q1;obtain⟨t,rfl⟩:=r1;exact⟨some i,H1,I1,.int i t,q⟩
noncomputable def Fb(X:Cx)(r:V->Option Int->Option Int->Hp->VK->Prop):Prop :=
 ∀(pins:List (Addr×Obj)) (s:Shared) (σ:St) (H:Hp) (x:V) (v vl vu:Value) (lo hi:Option Int) (sl:Addr) (Q:VK),Inv X pins σ H s->RelV x v->s.heap.IsSliceOf sl vl vu .none->IsPart vl lo->IsPart vu hi->r x lo hi H Q->
  ∃T id,typeLookup (.type T) "__getitem__" = pure (some (.builtin id))/\s.TypeIs v T/\wpAny (model X.prog X.w) X.A (getItem v (.ref sl)) (EP X pins σ Q) X.xe s
noncomputable def Fc(r:V->Option Int->Option Int->Hp->VK->Prop)(te:TE)(tl th:TO):TE:=λσ H Q=>te σ H λx H1=>tl σ H1 λl H2=>th σ H2 λu H3=>r x l u H3 Q
theorem qt{r:V->Option Int->Option Int->Hp->VK->Prop}(hr:Fb X r)(he:PE X e te)(hl:PO X lo tl)(hu:PO X hi th):PE X (.Subscript e (.Slice lo hi none p2) pos) (Fc r te tl th):=by
 intro pins s σ H Q I h;refine Subscript_ (aY (he pins s σ H _ I h) λv s1 ⟨x,H1,I1,r1,q1⟩=>?_);refine wpAny_Slice (aY (hl pins s1 σ H1 _ I1 q1) λvl s2 ⟨l,H2,I2,pl,q2⟩=>aY (hu pins s2 σ H2 _ I2 q2) λvu s3 ⟨u,H3,I3,pu,q3⟩=>?_);rw[evalPart_none];refine wpAny_pure ?_;have I4:Inv X pins σ H3 { s3 with heap:=s3.heap.push { cls:=.type "slice",data:=.fields #[vl,vu,.none] }}:=I3.kept (t':=s3.toks) λb ob q=>get?_push_of_some _ q;obtain⟨T,id,hT,ht,hg⟩:=hr pins { s3 with heap:=s3.heap.push { cls:=.type "slice",data:=.fields #[vl,vu,.none] }} σ H3 x v vl vu l u s3.heap.objs.size Q I4 r1 (Heap.IsSliceOf.new ..) pl pu q3
 show wpAny (model X.prog X.w) X.A (subscriptTail e (.Slice lo hi none p2) v (.ref s3.heap.objs.size)) (EP X pins σ Q) X.xe { s3 with heap:=s3.heap.push { cls:=.type "slice",data:=.fields #[vl,vu,.none] }};exact tail_any (ops:=[.ref s3.heap.objs.size,v]) ht hT hg (by with_unfolding_all rfl)
noncomputable def iK(xs:List V)(lo hi:Option Int):List V:=(xs.drop (_H.bC xs.length 0 lo)).take (_H.bC xs.length xs.length hi - _H.bC xs.length 0 lo)
theorem Od(xs:List V)(lo hi:Option Int):(iK xs lo hi).length<=xs.length:=by
 unfold iK;rw[length_take,length_drop];lia
noncomputable def Fd(K:Frag):V->Option Int->Option Int->Hp->VK->Prop:=λx lo hi H Q=>∃a xs,x = .ref a/\bg K H a xs/\
 ¬ (_H.bC xs.length 0 lo=0/\_H.bC xs.length xs.length hi=xs.length)/\∀p,H p=none->Q (.ref p) (upd H p (.tup (iK xs lo hi)))
theorem Oe:Fb X (Fd X.K):=by
 intro pins s σ H x v vl vu lo hi sl Q I rx hs pl pu h;obtain⟨a,xs,rfl,hx,hw,q⟩:=h;cases rx;obtain⟨az,r,ht,hz⟩:=I.tuple hx;have hlen:az.toArray.size=xs.length:=by rw[size_toArray];exact r.length.symm
 refine⟨"tuple",_,PyProof.Rows.slot_tuple_getitem.lookup,ht.typeIs,?_⟩;refine _H.ZA ht hs pl pu (by rw[hlen];exact hw) ?_ (by rw[hlen];exact hz)
 rw[hlen];refine⟨.ref s.heap.objs.size,_,I.laid (t':=s.toks) (o:=.tup (iK xs lo hi)) (λb ob q=>get?_push_of_some _ q) (Nat.le_refl _) ?_,rfl,q _ (I.aG.fresh (Nat.le_refl _))⟩;exact⟨Nat.le_trans (Od xs lo hi) hz,_,(r.drop (_H.bC xs.length 0 lo)).take (_H.bC xs.length xs.length hi - _H.bC xs.length 0 lo),IsTup.new _ _⟩
noncomputable def Of(K:Frag):R2:=λx y H Q=>∃a b ns ms,x = .ref a/\y = .ref b/\bg K H a (ns.map V.int)/\bg K H b (ms.map V.int)/\Q (.bl (_H.lexLt ns ms)) H
noncomputable def Og(K:Frag):R2:=λx y H Q=>∃a b xs ys,x = .ref a/\y = .ref b/\bg K H a xs/\bg K H b ys/\xs≠[]/\xs.length+ys.length<=sizeLine/\
 (ys = []->Q (.ref a) H)/\(ys≠[]->∀p,H p=none->Q (.ref p) (upd H p (.tup (xs++ys))))
end
noncomputable def kO(n:Nat)(i:Int):Option Nat:=if 0<=i then(if i<n then some i.toNat else none) else if -(n:Int)<=i then some (i+n).toNat else none
noncomputable def dW{α:Type}(xs:List α)(i:Int):Option α:=(kO xs.length i).bind λj=>xs[j]?
theorem Oh{n:Nat}{i:Int}{j:Nat}(h:kO n i=some j):seqIndex? i n=some j/\j<n/\-(n:Int)<=i/\i<n:=by
 unfold kO at h;by_cases h0:0<=i
 ·rw[if_pos h0] at h;by_cases h1:i<n
  ·rw[if_pos h1] at h;have e:i.toNat=j:=Option.some.inj h;exact⟨by rw[seqIndex_of h0 h1,e],∅,∅,h1⟩
  ·rw[if_neg h1] at h;cases h
 ·rw[if_neg h0] at h;by_cases h1 : -(n:Int)<=i
  ·rw[if_pos h1] at h;have e:(i+n).toNat=j:=Option.some.inj h;exact⟨by rw[seqIndex_neg ∅ h1,e],∅,h1,∅⟩
  ·rw[if_neg h1] at h;cases h
theorem Oi{α:Type}{xs:List α}{i:Int}{v:α}(h:dW xs i=some v):∃j,seqIndex? i xs.length=some j/\xs[j]? = some v/\j<xs.length/\-(xs.length:Int)<=i/\i<xs.length:=by
 unfold dW at h;cases e:kO xs.length i with
 | none=>rw[e] at h;cases h
 | some j =>
  rw[e] at h;obtain⟨h1,h2,h3,h4⟩:=Oh e;exact⟨j,h1,h,h2,h3,h4⟩
theorem l_{α:Type}{xs:List α}{j:Nat}{v:α}(h:xs[j]? = some v):dW xs (j:Int)=some v:=by
 have hj:j<xs.length:=(List.getElem?_eq_some_iff.mp h).1;have e:kO xs.length (j:Int)=some j:=by
  unfold kO;rw[if_pos ∅,if_pos ∅];simp
 unfold dW;rw[e];exact h
noncomputable def ZD(b:Expr):Prop:=∀o i,subscripted b false o i=operate [o,i] (getItem o i)
noncomputable def qu(X:Cx)(r:R2):Prop :=
 ∀(value slice:Expr) (pins:List (Addr×Obj)) (s:Shared) (σ:St) (H:Hp) (x y:V) (v u:Value) (Q:VK),Inv X pins σ H s->RelV x v->RelV y u->r x y H Q->
  subscripted slice false v u=operate [v,u] (getItem v u)->wpAny (model X.prog X.w) X.A (subscriptTail value slice v u) (EP X pins σ Q) X.xe s
noncomputable def Oj(X:Cx)(id:String)(r:V->List V->Hp->VK->Prop):Prop :=
 ∀(pins:List (Addr×Obj)) (s:Shared) (σ:St) (H:Hp) (x:V) (xs:List V) (v:Value) (us:List Value) (Q:VK),Inv X pins σ H s->RelV x v->Vals xs us->r x xs H Q->
  wpAny (model X.prog X.w) X.A (call (.builtin id) (v::us)) (EP X pins σ Q) X.xe s
section
variable{X:Cx}{a b:Expr}{ta tb:TE}{pos:Pos}
theorem aU{r:R2}(hr:qu X r)(ha:PE X a ta)(hb:PE X b tb)(hs:ZD b):PE X (.Subscript a b pos) (oZ r ta tb):=by
 intro pins s σ H Q I h;exact Subscript_ (EV ha hb I h λv u s2 x y H2 I2 rx ry q=>hr a b pins s2 σ H2 x y v u Q I2 rx ry q (hs _ _))
noncomputable def yV(K:Frag):R2:=λx y H Q=>∃p xs i v,x = .ref p/\y = .int i/\aE K H p xs/\dW xs i=some v/\Q v H
noncomputable def yW(K:Frag):R2:=λx y H Q=>∃p xs i v,x = .ref p/\y = .int i/\bg K H p xs/\dW xs i=some v/\Q v H
theorem iL:qu X (yV X.K):=by
 intro value slice pins s σ H x y v u Q I rx ry h hs;obtain⟨p,xs,i,z,rfl,rfl,hq,he,q⟩:=h;cases rx;obtain⟨t,rfl⟩:=ry;obtain⟨az,r,pl,hz⟩:=I.list hq;obtain⟨j,h1,h2,h3,h4,h5⟩:=Oi he;obtain⟨w,ew,kP⟩:=r.get h2;have hl:=r.length;have hn:=yI;have fin:EP X pins σ Q w s:=⟨z,H,I,kP,q⟩;by_cases h0:0<=i
 ·have hj:i.toNat=j:=by
   rw[seqIndex_of h0 h5] at h1;exact Option.some.inj h1
  exact item_listR pl.isList h0 ∅ (by rw[hj];simpa using ew) fin hs
 ·have hj:(i+(az.toArray.size:Int)).toNat=j:=by
   rw[seqIndex_neg ∅ h4] at h1
   rw[size_toArray,← hl];exact Option.some.inj h1
  exact subscriptTail_builtinR (x:=w) pl.isList.typeIs slot_list_getitem.lookup
   (wpAny_getItem_list_neg (Q:=λr s'=>r=w/\EP X pins σ Q r s') pl.isList ∅ (by rw[size_toArray] <;> lia) ∅ (by rw[hj];simpa using ew) ⟨rfl,fin⟩) hs
theorem je:qu X (yW X.K):=by
 intro value slice pins s σ H x y v u Q I rx ry h hs;obtain⟨p,xs,i,z,rfl,rfl,hq,he,q⟩:=h;cases rx;obtain⟨t,rfl⟩:=ry;obtain⟨az,r,pl,hz⟩:=I.tuple hq;obtain⟨j,h1,h2,h3,h4,h5⟩:=Oi he;obtain⟨w,ew,kP⟩:=r.get h2;have hl:=r.length;have hn:=yI;have fin:EP X pins σ Q w s:=⟨z,H,I,kP,q⟩;exact subscriptTail_builtinR (x:=w) pl.typeIs slot_tuple_getitem.lookup
  (getItem_tuple (j:=j) (Q:=λr s'=>r=w/\EP X pins σ Q r s') pl ∅ ∅ (by rw[size_toArray,← hl];exact h1) (by simpa using ew) ⟨rfl,fin⟩) hs
theorem ZE(az:List Value)(n j:Nat)(u:Value):Obj.mapSeq (·.setIfInBounds j u) { cls:=.type "list",data:=.seq az.toArray n } = { cls:=.type "list",data:=.seq (az.set j u).toArray n }:=by
 simp[Obj.mapSeq]
theorem Inv.lst{pins:List (Addr×Obj)}{σ:St}{H:Hp}{s:Shared}{p:Addr}{xs:List V}(I:Inv X pins σ H s)(h:H p=some (.lst xs)) :
  ∃(az:List Value) (n:Nat),Vals xs az/\s.heap.get? p=some { cls:=.type "list",data:=.seq az.toArray n }/\xs.length<=sizeLine:=by
 obtain⟨z,az,n,r,e⟩:=I.aG p _ h;exact⟨az,n,r,e,z⟩
theorem Inv.ZF{pins:List (Addr×Obj)}{σ:St}{H:Hp}{s:Shared}{p:Addr}{xs ys:List V}{az its':List Value}{n n':Nat}{f:Obj->Obj}(I:Inv X pins σ H s)(h:H p=some (.lst xs))
  (ho:s.heap.get? p=some { cls:=.type "list",data:=.seq az.toArray n }) (hf:f { cls:=.type "list",data:=.seq az.toArray n } = { cls:=.type "list",data:=.seq its'.toArray n' }) (r:Vals ys its') (hz:ys.length<=sizeLine) (t:Nat) :
  Inv X pins σ (upd H p (.lst ys)) { s with heap:=s.heap.update p f,toks:=t }:=by
 have e:(s.heap.update p f).get? p=some { cls:=.type "list",data:=.seq its'.toArray n' }:=by
  rw[get?_update_self f ho (by rw[hf] <;> rfl),hf]
 refine I.write (x:=p) (e:=p) (by rw[h];trivial) (.inl rfl) (λb u hb q=>(get?_update_other _ _ (Ne.symm hb)).trans q) ⟨_,e⟩ ?_
 exact⟨hz,its',n',r,e⟩
noncomputable def Fe:V->V->V->Hp->(Hp->Prop)->Prop:=λo i v H Q=>∃p xs k j,o = .ref p/\i = .int k/\H p=some (.lst xs)/\kO xs.length k=some j/\Q (upd H p (.lst (xs.set j v)))
theorem set_list:Nt X Fe:=by
 intro pins s σ H o i v ov iv u Q I ro ri rv h;obtain⟨p,xs,k,j,rfl,rfl,hp,hj,q⟩:=h;cases ro;obtain⟨t,rfl⟩:=ri;obtain⟨az,n,r,ho,hz⟩:=I.lst hp;obtain⟨h1,h2,h3,h4⟩:=Oh hj;have hl:=r.length;have hn:=yI;have I':Inv X pins σ (upd H p (.lst (xs.set j v))) { s with heap:=s.heap.update p (Obj.mapSeq (·.setIfInBounds j u))} :=
  I.ZF hp ho (ZE az n j u) (r.set rv j) (by rw[List.length_set];exact hz) s.toks
 by_cases h0:0<=k
 ·have hk:k.toNat=j:=by
   rw[seqIndex_of h0 h4] at h1;exact Option.some.inj h1
  exact W.ki_setAt ho h0 ∅ (by rw[size_toArray,← hl];exact h4) (by rw[hk];exact⟨_,I',q⟩)
 ·have hk:(k+(az.toArray.size:Int)).toNat=j:=by
   rw[seqIndex_neg ∅ h3] at h1
   rw[size_toArray,← hl];exact Option.some.inj h1
  exact W.ki_setBack ho ∅ (by rw[size_toArray,← hl];exact h3) ∅ (by rw[hk];exact⟨_,I',q⟩)
theorem ZG(lo hi:Option Int)(n:Nat):(sliceBounds lo hi none n).1=((_H.bC n 0 lo:Nat):Int)/\(sliceBounds lo hi none n).2.1=((_H.bC n n hi:Nat):Int)/\(sliceBounds lo hi none n).2.2=1:=by
 refine⟨?_,?_,rfl⟩
 ·cases lo with
  | none=>simp[sliceBounds,_H.bC]
  | some i =>
   simp only[sliceBounds,_H.bC,Option.getD_none,show (1:Int) > 0 by decide,if_true]
   by_cases h:i<0
   ·simp only[h,if_true] <;> lia
   ·simp only[h,if_false] <;> lia
 ·cases hi with
  | none=>simp[sliceBounds,_H.bC]
  | some i =>
   simp only[sliceBounds,_H.bC,Option.getD_none,show (1:Int) > 0 by decide,if_true]
   by_cases h:i<0
   ·simp only[h,if_true] <;> lia
   ·simp only[h,if_false] <;> lia
theorem ZI(az:List Value)(lo hi:Option Int):slicePick az.toArray lo hi none=((az.drop (_H.bC az.length 0 lo)).take (_H.bC az.length az.length hi - _H.bC az.length 0 lo)).toArray:=by
 obtain⟨h1,h2,h3⟩:=ZG lo hi az.toArray.size;unfold slicePick;rw[h1,h2,h3];simp only[sliceRange_one,pick_run,size_toArray] <;> rfl
noncomputable def Ff(K:Frag):V->Option Int->Option Int->Hp->VK->Prop:=λx lo hi H Q=>∃a xs,x = .ref a/\aE K H a xs/\∀p,H p=none->Q (.ref p) (upd H p (.lst (iK xs lo hi)))
theorem uL:Fb X (Ff X.K):=by
 intro pins s σ H x v vl vu lo hi sl Q I rx hs pl pu h;obtain⟨a,xs,rfl,hx,q⟩:=h;cases rx;obtain⟨az,r,ht,hz⟩:=I.list hx;have hlen:=r.length;refine⟨"list",_,slot_list_getitem.lookup,ht.isList.typeIs,?_⟩;refine wpAny_getItem_list_slice ht.isList hs pl pu .none (by simp) ?_ (by rw[size_toArray] <;> lia)
 rw[ZI,← hlen];refine⟨.ref s.heap.objs.size,_,I.laid (t':=s.toks) (o:=.lst (iK xs lo hi)) (λb ob q=>get?_push_of_some _ q) (Nat.le_refl _) ?_,rfl,q _ (I.aG.fresh (Nat.le_refl _))⟩;exact⟨Nat.le_trans (Od xs lo hi) hz,_,0,(r.drop (_H.bC xs.length 0 lo)).take (_H.bC xs.length xs.length hi - _H.bC xs.length 0 lo),get?_push_size _ rfl⟩
noncomputable def mh:V->Bool
 | .aW=>true
 | .bl _=>true
 | .int _=>true
 | .str _=>true
 | _=>false
noncomputable def jH:V->V->Bool
 | .aW,.aW=>true
 | .bl a,.bl b=>a == b
 | .bl a,.int b=>(if a then 1 else 0) == b
 | .int a,.bl b=>a == (if b then 1 else 0)
 | .int a,.int b=>a == b
 | .str a,.str b=>a == b
 | _,_=>false
theorem Fg{A:Around}{s:Shared}{y x:V}{u v:Value}(ry:RelV y u)(rx:RelV x v)(fy:mh y=true)(fx:mh x=true):SeqAt.EqAt A s u v (jH y x):=by
 cases y with
 | aW =>
  cases ry;cases x with
  | aW=>cases rx;exact SeqAt.EqAt.same _
  | bl b=>cases rx;exact SeqAt.EqAt.none_bool b
  | int b=>obtain⟨t,rfl⟩:=rx;exact SeqAt.EqAt.none_int b t
  | str b=>obtain⟨t,rfl⟩:=rx;exact SeqAt.EqAt.none_str b t
  | _=>exact absurd (show false=true from fx) Bool.false_ne_true
 | bl a =>
  cases ry;cases x with
  | aW=>cases rx;exact SeqAt.EqAt.bool_none a
  | bl b=>cases rx;exact SeqAt.EqAt.bool_bool a b
  | int b=>obtain⟨t,rfl⟩:=rx;exact SeqAt.EqAt.bool_int a b t
  | str b=>obtain⟨t,rfl⟩:=rx;exact SeqAt.EqAt.bool_str a b t
  | _=>exact absurd (show false=true from fx) Bool.false_ne_true
 | int a =>
  obtain⟨t',rfl⟩:=ry;cases x with
  | aW=>cases rx;exact SeqAt.EqAt.int_none a t'
  | bl b=>cases rx;exact SeqAt.EqAt.int_bool a t' b
  | int b=>obtain⟨t,rfl⟩:=rx;exact SeqAt.EqAt.int_int a t' b t
  | str b=>obtain⟨t,rfl⟩:=rx;exact SeqAt.EqAt.int_str a t' b t
  | _=>exact absurd (show false=true from fx) Bool.false_ne_true
 | str a =>
  obtain⟨t',rfl⟩:=ry;cases x with
  | aW=>cases rx;exact SeqAt.EqAt.str_none a t'
  | bl b=>cases rx;exact SeqAt.EqAt.str_bool a t' b
  | int b=>obtain⟨t,rfl⟩:=rx;exact SeqAt.EqAt.str_int a t' b t
  | str b=>obtain⟨t,rfl⟩:=rx;exact SeqAt.EqAt.str_str a t' b t
  | _=>exact absurd (show false=true from fx) Bool.false_ne_true
 | _=>exact absurd (show false=true from fy) Bool.false_ne_true
noncomputable def nJ(x:V)(u:Value):Bool:=match u with
 | .none=>jH .aW x
 | .bool b=>jH (.bl b) x
 | .int i _=>jH (.int i) x
 | .str z _=>jH (.str z) x
 | _=>false
theorem Ol{x y:V}{u:Value}(r:RelV y u)(f:mh y=true):nJ x u=jH y x:=by
 cases y with
 | aW=>cases r;rfl
 | bl b=>cases r;rfl
 | int i=>obtain⟨t,rfl⟩:=r;rfl
 | str z=>obtain⟨t,rfl⟩:=r;rfl
 | _=>exact absurd (show false=true from f) Bool.false_ne_true
theorem Fi{x:V}:∀ {xs:List V} {us:List Value},Vals xs us->xs.all mh=true->us.any (nJ x)=xs.any λy=>jH y x
 | _,_,.nil,_=>rfl
 | y::xs,u::us,.cons r t,f=>by
  rw[List.all_cons,and_eq_true] at f;rw[any_cons,any_cons,Ol r f.1,Fi t f.2]
theorem Fj{A:Around}{s:Shared}{x:V}{v:Value}(rx:RelV x v)(fx:mh x=true):∀ {xs:List V} {us:List Value},Vals xs us->xs.all mh=true->∀u∈us,SeqAt.EqAt A s u v (nJ x u)
 | _,_,.nil,_=>λu hu=>by cases hu
 | y::xs,u::us,.cons r t,f=>λu' hu=>by
  rw[List.all_cons,and_eq_true] at f;rcases mem_cons.mp hu with rfl | hu
  ·rw[Ol r f.1];exact Fg r rx f.1 fx
  ·exact Fj rx fx t f.2 u' hu
noncomputable def yX(x:V)(xs:List V):Bool:=xs.any λy=>jH y x
noncomputable def yY(K:Frag)(neg:Bool):R2:=λx y H Q=>∃p xs,y = .ref p/\(aE K H p xs\/bg K H p xs)/\mh x=true/\xs.all mh=true/\Q (.bl (if neg then !yX x xs else yX x xs)) H
theorem yZ:cJ X (compareOp .NotIn) (yY X.K true):=by
 intro pins s σ H x y v u Q I rx ry h;obtain⟨p,xs,rfl,hq,fx,fs,q⟩:=h;cases ry;rcases hq with hq | hq
 ·obtain⟨az,r,pl,hz⟩:=I.list hq;refine SeqAt.notIn_listAt (nJ x) pl.isList (λw hw=>Fj rx fx r fs w (by simpa using hw)) ⟨.bl _,H,I,rfl,?_⟩
  rw[show az.toArray.any (nJ x)=az.any (nJ x) by simp,Fi r fs]
  exact q
 ·obtain⟨az,r,pl,hz⟩:=I.tuple hq;refine SeqAt.notIn_tupleAt (nJ x) pl (λw hw=>Fj rx fx r fs w (by simpa using hw)) ⟨.bl _,H,I,rfl,?_⟩
  rw[show az.toArray.any (nJ x)=az.any (nJ x) by simp,Fi r fs]
  exact q
theorem o9:f9 X (.builtin "len") (λxs H Q=>∃p ys,xs = [.ref p]/\(aE X.K H p ys\/bg X.K H p ys)/\Q (.int ys.length) H):=by
 intro pins s σ H xs us Q I r h;obtain⟨p,ys,rfl,hq,q⟩:=h;obtain⟨u,rfl,rx⟩:=vals1 r;cases rx;have hn:=yI;rcases hq with hq | hq
 ·obtain⟨az,r',pl,hz⟩:=I.list hq;have hlen:=r'.length;exact Calls.call_len_list pl.isList (by simp only[size_toArray] <;> lia) ⟨.int ys.length,H,I.tok _,⟨s.toks+1,by rw[size_toArray,hlen]⟩,q⟩
 ·obtain⟨az,r',pl,hz⟩:=I.tuple hq;have hlen:=r'.length;exact len_tuple pl (by simp only[size_toArray] <;> lia) ⟨.int ys.length,H,I.tok _,⟨s.toks+1,by rw[size_toArray,hlen]⟩,q⟩
theorem Fo:f9 X (.type "list") (λxs H Q=>∃p ys,xs = [.ref p]/\(aE X.K H p ys\/bg X.K H p ys)/\∀l,H l=none->Q (.ref l) (upd H l (.lst ys))):=by
 intro pins s σ H xs us Q I r h;obtain⟨p,ys,rfl,hq,q⟩:=h;obtain⟨u,rfl,rx⟩:=vals1 r;cases rx;have fin:∀(az:List Value),Vals ys az->ys.length<=sizeLine->∀(h':Heap) (c':Nat),(∀b o',s.heap.get? b=some o'->h'.get? b=some o')->
   h'.get? s.heap.objs.size=some { cls:=.type "list",dict:=none,data:=.seq az.toArray c',slots := #[] }->EP X pins σ Q (.ref s.heap.objs.size) { s with heap:=h' }:=λaz r' hz h' c' kp e =>
  ⟨.ref s.heap.objs.size,_,I.laid (t':=s.toks) kp (Nat.le_refl _) (show dw X.prog X.w _ h' _ (.lst ys) from⟨hz,az,c',r',e⟩),rfl,q _ (I.aG.fresh (Nat.le_refl _))⟩
 rcases hq with hq | hq
 ·obtain⟨az,r',pl,hz⟩:=I.list hq;have hlen:=r'.length;obtain⟨o,ho,hc,n,hd⟩:=pl.isList;exact call_list_seq p (.inl rfl) ho hc hd (λh' c' kp e=>fin az r' hz h' c' kp e) (by simp only[size_toArray] <;> lia)
 ·obtain⟨az,r',pl,hz⟩:=I.tuple hq;have hlen:=r'.length;obtain⟨o,ho,hc,n,hd⟩:=pl;exact call_list_seq p (.inr rfl) ho hc hd (λh' c' kp e=>fin az r' hz h' c' kp e) (by simp only[size_toArray] <;> lia)
theorem y_:f9 X (.type "tuple") (λxs H Q=>∃p ys,xs = [.ref p]/\((aE X.K H p ys/\∀l,H l=none->Q (.ref l) (upd H l (.tup ys)))\/(bg X.K H p ys/\Q (.ref p) H))):=by
 intro pins s σ H xs us Q I r h;obtain⟨p,ys,rfl,h⟩:=h;obtain⟨u,rfl,rx⟩:=vals1 r;cases rx;rcases h with⟨hq,q⟩ | ⟨hq,q⟩
 ·obtain⟨az,r',pl,hz⟩:=I.list hq;have hlen:=r'.length;refine call_tuple_list pl.isList (λh' kp=>?_) (by simp only[size_toArray] <;> lia)
  have I1:Inv X pins σ H { s with heap:=h' }:=I.kept (t':=s.toks) kp;have I2:Inv X pins σ (upd H h'.objs.size (.tup ys)) { s with heap:=h'.push { cls:=.type "tuple",data:=.seq az.toArray }} :=
   I1.laid (t':=s.toks) (λb o e=>get?_push_of_some _ e) (Nat.le_refl _) (show dw X.prog X.w _ _ _ (.tup ys) from⟨hz,az,r',IsTup.new _ _⟩)
  exact⟨.ref h'.objs.size,_,I2,rfl,q _ (I1.aG.fresh (Nat.le_refl _))⟩
 ·obtain⟨az,r',pl,hz⟩:=I.tuple hq;exact call_tuple_same pl ⟨.ref p,H,I,rfl,q⟩
noncomputable def uM(K:Frag)(T:String)(x:V)(H:Hp):Prop:=match x with
 | .str _=>T = "str"
 | .int _=>T = "int"
 | .ref p=>(T = "list"/\∃xs,aE K H p xs)\/(T = "tuple"/\∃o,K.lookup p=some o/\o.cls = .type "tuple"/\o.dict=none)\/
   (T = "dict"/\((∃kvs,H p=some (.dK kvs))\/∃kvs,H p=some (.dT kvs)))\/(T = "set"/\∃S n,H p=some (.set S n))
 | _=>False
theorem Om{pins:List (Addr×Obj)}{σ:St}{H:Hp}{s:Shared}{T:String}{x:V}{v:Value}(I:Inv X pins σ H s)(r:RelV x v)(ty:uM X.K T x H) :
  s.TypeIs v T/\∀a,v = .ref a->∃ob,s.heap.get? a=some ob/\ob.dict=none:=by
 cases x with
 | str z =>
  obtain⟨t,rfl⟩:=r;cases (show T = "str" from ty);exact⟨typeIs_str s z t,λ_ e=>nomatch e⟩
 | int i =>
  obtain⟨t,rfl⟩:=r;cases (show T = "int" from ty);exact⟨typeIs_int s i t,λ_ e=>nomatch e⟩
 | ref p =>
  cases r;rcases ty with⟨rfl,xs,hq⟩ | ⟨rfl,o,hk,hc,hd⟩ | ⟨rfl,hk⟩ | ⟨rfl,S,n,hk⟩
  ·obtain⟨az,_,pl,_⟩:=I.list hq;refine⟨pl.isList.typeIs,λa e=>?_⟩;cases e;obtain⟨o,n,e,c,hd,_⟩:=pl;exact⟨o,e,hd⟩
  ·refine⟨⟨o,I.cI p o hk,hc⟩,λa e=>?_⟩;cases e;exact⟨o,I.cI _ o hk,hd⟩
  ·have z:∃o,s.heap.get? p=some o/\o.ExactDict:=by
    rcases hk with⟨kvs,hk⟩ | ⟨kvs,hk⟩
    ·obtain⟨_,_,_,_,o,_,_,e,ex,_⟩:=I.aG p _ hk;exact⟨o,e,ex⟩
    ·obtain⟨_,_,_,_,o,_,_,e,ex,_⟩:=I.aG p _ hk;exact⟨o,e,ex⟩
   obtain⟨o,e,ex⟩:=z;refine⟨⟨o,e,ex.1⟩,λa e2=>?_⟩;cases e2;exact⟨o,e,ex.2.1⟩
  ·obtain⟨o,_,_,_,e,ex,_⟩:=I.aG p _ hk;refine⟨⟨o,e,ex.1⟩,λa e2=>?_⟩;cases e2;exact⟨o,e,ex.2.1⟩
 | _=>exact False.elim ty
noncomputable def Fp(K:Frag)(T:String)(r:V->List V->Hp->VK->Prop)(to:TE):TE:=λσ H Q=>to σ H λx H1=>uM K T x H1/\r x [] H1 Q
noncomputable def Fq(K:Frag)(T:String)(r:V->List V->Hp->VK->Prop)(to:TE)(t:TA):TE:=λσ H Q=>to σ H λx H1=>uM K T x H1/\t σ H1 λxs H2=>r x xs H2 Q
variable{o e:Expr}{es:List Expr}{to:TE}{t:TA}{name:Str}{apos fE:Pos}{T id:String}{r:V->List V->Hp->VK->Prop}
theorem ZJ(pa:PlainAttrs T)(slot:Slot T name id)(Ft:typeOf (.builtin id)=pure (.type "method_descriptor"))(hm:Oj X id r)(ho:PE X o to)
  (Fv:attributeBase o name X.env (eval o X.env)=eval o X.env:=by rfl) (Fw:(apos.endLine == fE.line)=true:=by rfl):PE X (.Call (.Attribute o name apos) [] [] fE) (Fp X.K T r to):=by
 intro pins s σ H Q I h;refine wpAny_Call_method0_late Fv Fw (aY (ho pins s σ H _ I h) λv s1 ⟨x,H1,I1,r1,zz⟩=>?_);obtain⟨ty,q1⟩:=zz;obtain⟨h1,h2⟩:=Om I1 r1 ty;exact⟨T,id,pa,slot,Ft,h1,h2,Calls.callWith_builtin rfl (PySem.evalArgs_none (hm pins s1 σ H1 x [] v [] Q I1 r1 .nil q1))⟩
theorem jI(pa:PlainAttrs T)(slot:Slot T name id)(Ft:typeOf (.builtin id)=pure (.type "method_descriptor"))(hm:Oj X id r)(ho:PE X o to)(ha:PA X (e::es) t)
  (Fv:attributeBase o name X.env (eval o X.env)=eval o X.env:=by rfl)
  (uN:((backTo fE (starEach (e::es) X.env)).all (λx => !x.1) && (backToKw fE (keywordEach [] X.env)).all (λx=>x.1.isSome)
   && decide ((e::es).length+([]:List Keyword).length+(if ([]:List Keyword).isEmpty then 0 else 1)<30))=true:=by rfl)
  (Fw:(apos.endLine == fE.line)=true:=by rfl) (hs:starEach (e::es) X.env=(false,eval e X.env)::starEach es X.env:=by rfl) (hplain:(backTo fE (starEach es X.env)).any (·.1)=false:=by rfl) :
  PE X (.Call (.Attribute o name apos) (e::es) [] fE) (Fq X.K T r to t):=by
 intro pins s σ H Q I h;refine wpAny_Call_method_late Fv uN Fw rfl (aY (ho pins s σ H _ I h) λv s1 ⟨x,H1,I1,r1,zz⟩=>?_);obtain⟨ty,q1⟩:=zz;obtain⟨h1,h2⟩:=Om I1 r1 ty;refine⟨T,id,pa,slot,Ft,h1,h2,?_⟩;have hA:=ha fE pins s1 σ H1 _ I1 q1;rw[hs] at hA ⊢;refine Calls.callWith_builtin (by show (false || (backTo fE (starEach es X.env)).any (·.1))=false;rw[hplain] <;> rfl) (evalArgs_plain ?_)
 exact aY hA λus s2 ⟨vs,H2,I2,r2,q2⟩=>hm pins s2 σ H2 x vs v us Q I2 r1 r2 q2
end
noncomputable def uO(X:Cx)(id:String)(r:V->List V->Hp->VK->Prop):Prop :=
 ∀(pins:List (Addr×Obj)) (s:Shared) (σ:St) (H:Hp) (x:V) (xs:List V) (v:Value) (us:List Value) (Q:VK),Inv X pins σ H s->RelV x v->Vals xs us->r x xs H Q->
  wpAny (model X.prog X.w) X.A (call (.builtin id) (v::us)) (EP X pins σ Q) X.xe s
theorem Vals.one:∀ {x:V} {us:List Value},Vals [x] us->∃u,us = [u]/\RelV x u:=by
 intro x us h;cases h with
 | cons r t=>cases t;exact⟨_,rfl,r⟩
theorem Vals.two:∀ {x y:V} {us:List Value},Vals [x,y] us->∃u v,us = [u,v]/\RelV x u/\RelV y v:=by
 intro x y us h;cases h with
 | cons r t=>obtain⟨_,rfl,q⟩:=Vals.one t;exact⟨_,_,rfl,r,q⟩
theorem Vals.zero:∀ {us:List Value},Vals [] us->us = []
 | _,.nil=>rfl
theorem Vals.eraseIdx:∀ {xs:List V} {us:List Value} (i:Nat),Vals xs us->Vals (xs.eraseIdx i) (us.eraseIdx i)
 | _,_,_,.nil=>.nil
 | _,_,0,.cons _ t=>t
 | _,_,i+1,.cons r t=>.cons r (Vals.eraseIdx i t)
theorem Vals.reverse{xs:List V}{us:List Value}(h:Vals xs us):Vals xs.reverse us.reverse:=by
 induction h with
 | nil=>exact .nil
 | cons r t ih=>rw[List.reverse_cons,List.reverse_cons];exact Vals.append ih (.cons r .nil)
theorem Vals.rep{xs:List V}{us:List Value}(h:Vals xs us):∀k:Nat,Vals (List.replicate k xs).flatten (List.replicate k us).flatten
 | 0=>.nil
 | k+1=>by
  rw[replicate_succ,replicate_succ,flatten_cons,flatten_cons];exact Vals.append h (Vals.rep h k)
theorem Oo{α:Type}:∀(l:List α) (i:Nat),(l.eraseIdx i).length<=l.length
 | [],_=>Nat.le_refl _
 | _::_,0=>le_succ _
 | _::r,i+1=>Nat.succ_le_succ (Oo r i)
theorem foldl_rep(az:List Value):∀(k:Nat) (acc:List Value),
  foldl (λx1 x2=>x1++x2) acc.toArray (List.replicate k az.toArray)=(acc++(List.replicate k az).flatten).toArray
 | 0,acc=>by simp
 | k+1,acc=>by
  have e:acc.toArray++az.toArray=(acc++az).toArray:=by simp
  have e2:(acc++az)++(List.replicate k az).flatten=acc++(List.replicate (k+1) az).flatten:=by
   rw[replicate_succ,flatten_cons,append_assoc]
  rw[← e2,← foldl_rep az k (acc++az),← e,replicate_succ,foldl_cons]
section
variable{X:Cx}{pins:List (Addr×Obj)}{σ:St}{H:Hp}{s:Shared}{l b:Addr}{xs ys zs:List V}
theorem Inv.eO{az its':List Value}{n:Nat}{f:Array Value->Array Value}{t':Nat}(I:Inv X pins σ H s)(hH:H l=some (.lst xs))
  (e:s.heap.get? l=some { cls:=.type "list",data:=.seq az.toArray n }) (hf:f az.toArray=its'.toArray) (hv:Vals ys its') (hz:ys.length<=sizeLine) :
  Inv X pins σ (upd H l (.lst ys)) { s with heap:=s.heap.update l (Obj.mapSeq f),toks:=t' }:=by
 have q:=PySem.IsL.update e f;rw[hf] at q;refine I.write (x:=l) (e:=l) (by rw[hH];exact trivial) (.inl rfl) (λb' u hb hu=>(get?_update_other s.heap (Obj.mapSeq f) (Ne.symm hb)).trans hu) ⟨_,q⟩ ?_
 exact⟨hz,its',_,hv,q⟩
theorem Inv.Oq{az:List Value}{t':Nat}(I:Inv X pins σ H s)(hv:Vals ys az)(hz:ys.length<=sizeLine) :
  Inv X pins σ (upd H s.heap.objs.size (.lst ys)) { s with heap:=s.heap.push { cls:=.type "list",data:=.seq az.toArray },toks:=t' } :=
 I.laid (λ_ _ q=>get?_push_of_some _ q) (Nat.le_refl _) ⟨hz,az,0,hv,get?_push_size _ rfl⟩
theorem Inv.fresh(I:Inv X pins σ H s):H s.heap.objs.size=none:=I.aG.fresh (Nat.le_refl _)
theorem Inv.nK(I:Inv X pins σ H s)(hH:H l=some (.lst xs)):xs.length<=sizeLine/\∃(az:List Value) (n:Nat),Vals xs az/\xs.length=az.length/\s.heap.get? l=some { cls:=.type "list",data:=.seq az.toArray n }:=by
 obtain⟨z,az,n,r,e⟩:=I.aG l _ hH;exact⟨z,az,n,r,r.length,e⟩
theorem Ot{n:Nat}(h:n<=sizeLine):Builtin.List.listTooLong n=false:=by
 unfold Builtin.List.listTooLong;exact decide_eq_false ∅
end
section
variable{X:Cx}
noncomputable def Fx:V->List V->Hp->VK->Prop:=λx vs H Q=>∃l xs y,x = .ref l/\vs = [y]/\H l=some (.lst xs)/\xs.length<sizeLine/\Q .aW (upd H l (.lst (xs++[y])))
theorem kQ:uO X "list.append" Fx:=by
 intro pins s σ H x vs v us Q I rx rv h;obtain⟨l,xs,y,rfl,rfl,hH,hz,q⟩:=h;cases rx;obtain⟨u,rfl,ru⟩:=rv.one;obtain⟨z,az,n,r,hl,e⟩:=I.nK hH;refine call_meets F.slot_list_append ⟨_,e,rfl⟩ F.entry_list_append (F.args_list_append_2 _ _) (PySem.list_append l az.toArray n u (by rw[size_toArray];lia)) ⟨e,?_⟩
 refine⟨.aW,_,I.eO (its':=az++[u]) hH e (by simp) (r.append (.cons ru .nil)) ?_,rfl,q⟩
 rw[length_append,List.length_singleton];lia
noncomputable def Fy:V->List V->Hp->VK->Prop:=λx vs H Q=>∃l b xs zs,x = .ref l/\vs = [.ref b]/\H l=some (.lst xs)/\H b=some (.lst zs)/\xs.length+zs.length<=sizeLine/\Q .aW (upd H l (.lst (xs++zs)))
theorem ZK:uO X "list.extend" Fy:=by
 intro pins s σ H x vs v us Q I rx rv h;obtain⟨l,b,xs,zs,rfl,rfl,hH,hB,hz,q⟩:=h;cases rx;obtain⟨u,rfl,ru⟩:=rv.one;cases ru;obtain⟨z,az,n,r,hl,e⟩:=I.nK hH;obtain⟨z2,gR,n2,r2,kR,e2⟩:=I.nK hB;have hsz:az.toArray.size+gR.toArray.size<=sizeLine:=by rw[size_toArray,size_toArray];lia
 have Fz:¬ (!az.toArray.isEmpty && Builtin.List.listTooLong (az.toArray.size+gR.toArray.size))=true:=by
  rw[Ot hsz,Bool.and_false];exact Bool.false_ne_true
 refine call_meets F.slot_list_extend ⟨_,e,rfl⟩ F.entry_list_extend (F.args_list_extend_2 _ _)
  (AutoSeq1.list_extend_list_list_0 l az.toArray n b gR.toArray n2 Fz (by rw[size_toArray];lia) ∅) ⟨e,e2,?_⟩
 refine⟨.aW,_,I.eO (its':=az++gR) hH e (by simp) (r.append r2) ?_,rfl,q⟩
 rw[length_append];lia
noncomputable def Ou:V->List V->Hp->VK->Prop:=λx vs H Q=>∃l xs y,x = .ref l/\vs = []/\H l=some (.lst xs)/\xs[xs.length - 1]? = some y/\Q y (upd H l (.lst xs.dropLast))
noncomputable def FA:V->List V->Hp->VK->Prop:=λx vs H Q=>∃l xs,x = .ref l/\vs = []/\H l=some (.lst xs)/\Q .aW (upd H l (.lst xs.reverse))
theorem ZM:uO X "list.reverse" FA:=by
 intro pins s σ H x vs v us Q I rx rv h;obtain⟨l,xs,rfl,rfl,hH,q⟩:=h;cases rx;have qw:=rv.zero;subst qw;obtain⟨z,az,n,r,hl,e⟩:=I.nK hH;refine call_meets F.slot_list_reverse ⟨_,e,rfl⟩ F.entry_list_reverse (F.args_list_reverse_1 _) (AutoSeq1.list_reverse_list_0 l az.toArray n (by rw[size_toArray];lia)) ⟨e,?_⟩
 refine⟨.aW,_,I.eO (its':=az.reverse) hH e (by simp) r.reverse ?_,rfl,q⟩
 rw[List.length_reverse];lia
noncomputable def Ov:V->List V->Hp->VK->Prop:=λx vs H Q=>∃l xs,x = .ref l/\vs = []/\H l=some (.lst xs)/\Q .aW (upd H l (.lst []))
noncomputable def FD:R2:=λx y H Q=>∃l b xs zs,x = .ref l/\y = .ref b/\H l=some (.lst xs)/\H b=some (.lst zs)/\xs.length+zs.length<=sizeLine/\∀p,H p=none->Q (.ref p) (upd H p (.lst (xs++zs)))
theorem qx:cJ X (binaryOp .Add) FD:=by
 intro pins s σ H x y v u Q I rx ry h;obtain⟨l,b,xs,zs,rfl,rfl,hH,hB,hz,q⟩:=h;cases rx;cases ry;obtain⟨z,az,n,r,hl,e⟩:=I.nK hH;obtain⟨z2,gR,n2,r2,kR,e2⟩:=I.nK hB;refine PySem.P.add_list e e2 ?_ (by rw[size_toArray,size_toArray];lia)
 have ea:az.toArray++gR.toArray=(az++gR).toArray:=by simp
 rw[ea];exact⟨.ref _,_,I.Oq (t':=s.toks) (r.append r2) (by rw[length_append];lia),rfl,q _ I.fresh⟩
noncomputable def FE:R2:=λx y H Q=>∃l k xs,x = .ref l/\y = .int k/\H l=some (.lst xs)/\-(2 ^ 63)<=k/\k<2 ^ 63/\xs.length*k.toNat<=sizeLine/\
 ∀p,H p=none->Q (.ref p) (upd H p (.lst (List.replicate k.toNat xs).flatten))
theorem len_rep{α:Type}(xs:List α)(k:Nat):(List.replicate k xs).flatten.length=k*xs.length:=by
 induction k with
 | zero=>simp
 | succ k ih=>rw[replicate_succ,flatten_cons,length_append,ih,Nat.succ_mul,Nat.add_comm]
theorem Ow:cJ X (binaryOp .Mult) FE:=by
 intro pins s σ H x y v u Q I rx ry h;obtain⟨l,k,xs,rfl,rfl,hH,h1,h2,hz,q⟩:=h;cases rx;obtain⟨t,rfl⟩:=ry;obtain⟨z,az,n,r,hl,e⟩:=I.nK hH;have hlen:az.toArray.size*k.toNat<=sizeLine:=by rw[size_toArray,← hl];exact hz
 have ZN:¬ az.toArray.size*k.toNat > (2 ^ 63 - 1) / 8:=by
  have:(sizeLine:Nat)<=(2 ^ 63 - 1) / 8:=by decide
  lia
 have ZO:¬ (!Builtin.List.listFitsIndex k)=true:=by
  rw[fitsIndex_both h1 h2];exact Bool.false_ne_true
 have Fz:¬ Builtin.List.listTooLong (az.toArray.size*k.toNat)=true:=by
  rw[Ot hlen];exact Bool.false_ne_true
 have uP:foldl (λx1 x2=>x1++x2) #[] (List.replicate (if az.toArray.isEmpty=true then 0 else k.toNat) az.toArray)=(List.replicate k.toNat az).flatten.toArray:=by
  have f0:∀m:Nat,foldl (λx1 x2=>x1++x2) #[] (List.replicate m az.toArray)=(List.replicate m az).flatten.toArray:=λm=>by
   have:=foldl_rep az m [];rw[nil_append] at this;exact this
  rw[f0];cases az with
  | nil=>simp
  | cons a r'=>rw[if_neg (by simp)]
 refine wpAny_binaryOp_repeat_ref (T := "list") (U := "int") (by decide) ⟨_,e,rfl⟩ (λs'=>typeIs_int s' k t) noFill_list_mul F.fills_int_mul F.slot_int_rmul repeat_list F.slot_int_index.lookup
  (call_meets F.slot_int_rmul (typeIs_int s k t) F.entry_int_rmul (F.args_int_rmul_2 _ _) (int___rmul___int_list k t l az.toArray n)
   ⟨e,rfl,⟨_,e,rfl⟩,call_meets F.slot_list_mul ⟨_,e,rfl⟩ F.entry_list_mul (F.args_list_mul_2 _ _) (AutoListH.list___mul___list_int_3 l az.toArray n k t ZO ZN Fz) ⟨e,?_⟩⟩)
 rw[uP];exact⟨.ref _,_,I.Oq (t':=s.toks) (r.rep k.toNat) (by rw[len_rep,Nat.mul_comm];exact hz),rfl,q _ I.fresh⟩
end
section
variable{prog:Program}{w:World}{A:Around}{E:Value->Shared->Prop}{s:Shared}
end
section
variable{X:Cx}
end
section
variable{κ:Type}[DecidableEq κ]
noncomputable def cG(kvs:List (κ×V))(k:κ):Option V:=(kvs.find? λkv=>decide (kv.1=k)).map (·.2)
noncomputable def putK(kvs:List (κ×V))(k:κ)(v:V):List (κ×V) :=
 if (kvs.any λkv=>decide (kv.1=k))=true then kvs.map (λkv=>if kv.1=k then(kv.1,v) else kv) else kvs++[(k,v)]
theorem Ox{k:κ}:cG ([]:List (κ×V)) k=none:=rfl
theorem j6{p:κ×V}{r:List (κ×V)}{k:κ}(e:p.1=k):cG (p::r) k=some p.2:=by simp[cG,find?_cons,e]
theorem jJ{p:κ×V}{r:List (κ×V)}{k:κ}(e:¬ p.1=k):cG (p::r) k=cG r k:=by simp[cG,find?_cons,e]
theorem uQ(k:κ):∀kvs:List (κ×V),(kvs.any λkv=>decide (kv.1=k))=(cG kvs k).isSome
 | []=>rfl
 | p::r=>by
  rw[any_cons];by_cases e:p.1=k
  ·simp only[j6 e,decide_eq_true e,Bool.true_or,Option.isSome_some]
  ·rw[jJ e,decide_eq_false e,Bool.false_or];exact uQ k r
theorem Oz(k j:κ)(y:V):∀kvs:List (κ×V),cG (kvs.map λkv=>if kv.1=k then(kv.1,y) else kv) j=(cG kvs j).map λx=>if j=k then y else x
 | []=>rfl
 | p::r=>by
  have ih:=Oz k j y r;rw[map_cons];by_cases h:p.1=k
  ·rw[if_pos h];by_cases e:p.1=j
   ·rw[j6 (p:=(p.1,y)) e,j6 e,map_some,if_pos (e.symm.trans h)]
   ·rw[jJ (p:=(p.1,y)) e,jJ e,ih]
  ·rw[if_neg h];by_cases e:p.1=j
   ·rw[j6 (p:=p) e,j6 e,map_some,if_neg (λz=>h (e.trans z))]
   ·rw[jJ (p:=p) e,jJ e,ih]
theorem OA(k j:κ)(y:V):∀kvs:List (κ×V),cG kvs k=none->cG (kvs++[(k,y)]) j=if j=k then some y else cG kvs j
 | [],_=>by
  by_cases e:k=j
  ·rw[if_pos e.symm];exact j6 (p:=(k,y)) e
  ·rw[if_neg (λz=>e z.symm)];exact jJ (p:=(k,y)) e
 | p::r,hn=>by
  rw[cons_append];have hk:¬ p.1=k:=λz=>by rw[j6 z] at hn;cases hn
  rw[jJ hk] at hn;have ih:=OA k j y r hn;by_cases e:p.1=j
  ·rw[j6 e,j6 e,if_neg (λz=>hk (e.trans z))]
  ·rw[jJ e,jJ e,ih]
theorem OB(kvs:List (κ×V))(k j:κ)(y:V):cG (putK kvs k y) j=if j=k then some y else cG kvs j:=by
 unfold putK;by_cases a:(kvs.any λkv=>decide (kv.1=k))=true
 ·rw[if_pos a,Oz];rw[uQ] at a;by_cases e:j=k
  ·obtain⟨x,hx⟩:=isSome_iff_exists.mp a;rw[if_pos e,e,hx,map_some,if_pos rfl]
  ·rw[if_neg e];cases cG kvs j with
   | none=>rfl
   | some x=>rw[map_some,if_neg e]
 ·rw[if_neg a];refine OA k j y kvs ?_;rw[uQ] at a;cases q:cG kvs k with
  | none=>rfl
  | some x=>rw[q] at a;exact(a rfl).elim
theorem FF(kvs:List (κ×V))(k:κ)(v:V):(putK kvs k v).length<=kvs.length+1:=by
 unfold putK;split
 ·rw[length_map];lia
 ·rw[length_append,length_cons,length_nil];lia
theorem OC{kvs:List (κ×V)}{k:κ}(v:V)(h:cG kvs k=none):putK kvs k v=kvs++[(k,v)]:=by
 unfold putK;rw[uQ,h];exact if_neg (by decide)
theorem gw.uR{o:Option V}{u:Option Value}(r:gw o u):o.isSome=u.isSome:=by
 cases o with
 | none=>cases u with
  | none=>rfl
  | some _=>exact(show False from r).elim
 | some _=>cases u with
  | none=>exact(show False from r).elim
  | some _=>rfl
theorem gw.getD{o:Option V}{u:Option Value}{d:V}{d':Value}(r:gw o u)(rd:RelV d d'):RelV (o.getD d) (u.getD d'):=by
 cases o with
 | none=>cases u with
  | none=>exact rd
  | some _=>exact(show False from r).elim
 | some _=>cases u with
  | none=>exact(show False from r).elim
  | some _=>exact r
theorem KV.val{kvs:List (κ×V)}{vs:List (κ×Value)}(r:KV kvs vs)(k:κ):gw (cG kvs k) (valueAt vs k):=by
 unfold KV at r
 induction r with
 | nil=>exact True.intro
 | @cons p q ps qs h t ih =>
  obtain⟨h1,h2⟩:=h;by_cases e:p.1=k
  ·have e':q.1=k:=h1.symm.trans e;have b:valueAt (q::qs) k=some q.2:=by simp[valueAt,find?_cons,e']
   rw[j6 e,b];exact h2
  ·have e':¬ q.1=k:=λz=>e (h1.trans z);have b:valueAt (q::qs) k=valueAt qs k:=by simp[valueAt,find?_cons,e']
   rw[jJ e,b];exact ih
theorem KV.any{kvs:List (κ×V)}{vs:List (κ×Value)}(r:KV kvs vs)(k:κ):(kvs.any λkv=>decide (kv.1=k))=vs.any λkv=>decide (kv.1=k):=by
 unfold KV at r
 induction r with
 | nil=>rfl
 | cons h t ih=>rw[any_cons,any_cons,ih,h.1]
theorem KV.FG{kvs:List (κ×V)}{vs:List (κ×Value)}(r:KV kvs vs)(k:κ){y:V}{u:Value}(ry:RelV y u) :
  KV (kvs.map λkv=>if kv.1=k then(kv.1,y) else kv) (vs.map λkv=>if kv.1=k then(kv.1,u) else kv):=by
 unfold KV at r ⊢
 induction r with
 | nil=>exact .nil
 | @cons p q ps qs h t ih =>
  rw[map_cons,map_cons];refine .cons ?_ ih;obtain⟨h1,h2⟩:=h;by_cases e:p.1=k
  ·rw[if_pos e,if_pos (h1.symm.trans e)];exact⟨h1,ry⟩
  ·rw[if_neg e,if_neg (λz=>e (h1.trans z))];exact⟨h1,h2⟩
theorem KV.put{kvs:List (κ×V)}{vs:List (κ×Value)}(r:KV kvs vs)(k:κ){y:V}{u:Value}(ry:RelV y u):KV (putK kvs k y) (stored vs k u):=by
 unfold putK stored;rw[r.any k];by_cases e:(vs.any λkv=>decide (kv.1=k))=true
 ·rw[if_pos e,if_pos e];exact r.FG k ry
 ·rw[if_neg e,if_neg e];exact Paired.snoc r ⟨rfl,ry⟩
theorem KV.length{kvs:List (κ×V)}{vs:List (κ×Value)}(r:KV kvs vs):kvs.length=vs.length:=Paired.length r
end
theorem r9{P:Program}{w:World}{k:Key}{u:Value}(r:RelV (kV k) u):(dQ P w).is k u=true:=by
 cases k with
 | inl i=>obtain⟨t,e⟩:=(show ∃t,u=Value.int i t from r);subst e;exact Yx P w i t
 | inr x=>obtain⟨t,e⟩:=(show ∃t,u=Value.str x t from r);subst e;exact Yy P w x t
theorem OD{P:Program}{w:World}:∀ {ks:List Key} {us:List Value},Vals (ks.map kV) us->ItemsAre (dQ P w) ks us
 | [],_,r=>by rw[map_nil] at r;cases r;exact .nil
 | k::ks,_,r=>by
  rw[map_cons] at r;cases r with
  | cons h t=>exact .cons (r9 h) (OD t)
noncomputable abbrev KT(H:Hp):List (List Key×V)->List (List Key×Addr×Value)->Prop:=Paired λp q=>p.1=q.1/\H q.2.1=some (.tup (p.1.map kV))/\RelV p.2 q.2.2
theorem KT.val{H:Hp}{kvs:List (List Key×V)}{xs:List (List Key×Addr×Value)}(r:KT H kvs xs)(k:List Key):gw (cG kvs k) ((atKey xs k).map (·.2)):=by
 induction r with
 | nil=>exact True.intro
 | @cons p q ps qs h t ih =>
  obtain⟨h1,_,h2⟩:=h;by_cases e:p.1=k
  ·have e':q.1=k:=h1.symm.trans e;have b:atKey (q::qs) k=some q.2:=by simp[atKey,find?_cons,e']
   rw[j6 e,b];exact h2
  ·have e':¬ q.1=k:=λz=>e (h1.trans z);have b:atKey (q::qs) k=atKey qs k:=by simp[atKey,find?_cons,e']
   rw[jJ e,b];exact ih
theorem KT.FG{H:Hp}{kvs:List (List Key×V)}{xs:List (List Key×Addr×Value)}(r:KT H kvs xs)(k:List Key){y:V}{u:Value}(ry:RelV y u) :
  KT H (kvs.map λkv=>if kv.1=k then(kv.1,y) else kv) (xs.map (putAt k u)):=by
 induction r with
 | nil=>exact .nil
 | @cons p q ps qs h t ih =>
  rw[map_cons,map_cons];refine .cons ?_ ih;obtain⟨h1,h2,h3⟩:=h;unfold putAt;by_cases e:p.1=k
  ·rw[if_pos e,if_pos (h1.symm.trans e)];exact⟨h1,h2,ry⟩
  ·rw[if_neg e,if_neg (λz=>e (h1.trans z))];exact⟨h1,h2,h3⟩
theorem KT.put{H:Hp}{kvs:List (List Key×V)}{xs:List (List Key×Addr×Value)}(r:KT H kvs xs)(k:List Key){b:Addr}{y:V}{u:Value}(hb:H b=some (.tup (k.map kV)))(ry:RelV y u) :
  KT H (putK kvs k y) (storedH xs k b u):=by
 have e:(kvs.any λkv=>decide (kv.1=k))=(atKey xs k).isSome:=by
  rw[uQ,(r.val k).uR,isSome_map]
 unfold putK storedH;rw[e];by_cases q:(atKey xs k).isSome=true
 ·rw[if_pos q,if_pos q];exact r.FG k ry
 ·rw[if_neg q,if_neg q];exact Paired.snoc r ⟨rfl,hb,ry⟩
theorem KT.keeps{H H':Hp}{kvs:List (List Key×V)}{xs:List (List Key×Addr×Value)}(r:KT H kvs xs)(ht:∀b ys,H b=some (.tup ys)->H' b=some (.tup ys)):KT H' kvs xs :=
 Paired.M4 r λ_ _ z=>⟨z.1,ht _ _ z.2.1,z.2.2⟩
section
variable{P:Program}{w:World}{H:Hp}{h:Heap}{a:Addr}
theorem OE{u:HO}(ok:cN P w H h)(e:Rd H a u):dw P w H h a u:=e.ok ok
theorem qy{kvs:List (Key×V)}(ok:cN P w H h)(e:Rd H a (.dK kvs)):kvs.length<=sizeLine/\(a == sysModules)=false/\∃vs,KV kvs vs/\h.DictOf (dQ P w) a vs :=
 show dw P w H h a (.dK kvs) from OE ok e
theorem OF{kvs:List (Key×V)}(ok:cN P w H h)(e:H a=some (.dK kvs)):kvs.length<=sizeLine/\(a == sysModules)=false/\∃vs,KV kvs vs/\h.DictOf (dQ P w) a vs:=qy ok (.inl e)
theorem r_{ks:List Key}(ok:cN P w H h)(e:H a=some (.tup (ks.map kV))):(tupleKind (dQ P w)).is h ks a:=by
 obtain⟨_,az,r,o,h1,h2,n,h3⟩:=(show dw P w H h a (.tup (ks.map kV)) from ok a _ e);exact⟨o,az.toArray,n,h1,h2,h3,by simpa using OD r⟩
theorem qz{kvs:List (List Key×V)}(ok:cN P w H h)(e:Rd H a (.dT kvs)):kvs.length<=sizeLine/\(a == sysModules)=false/\
  ∃xs,KT H kvs xs/\h.DictOfH (tupleKind (dQ P w)) a xs:=by
 obtain⟨z,y,xs,r,o,es,ep,h1,h2,h3,h4,h5⟩:=(show dw P w H h a (.dT kvs) from OE ok e);refine⟨z,y,xs,r,o,es,ep,h1,h2,h3,h4,λx hx=>?_,h5⟩;have all:∀ {l:List (List Key×V)} {m:List (List Key×Addr×Value)},KT H l m->∀x∈m,(tupleKind (dQ P w)).is h x.1 x.2.1:=by
  intro l m q
  induction q with
  | nil=>intro x hx;exact nomatch hx
  | @cons p q ps qs hq t ih =>
   intro x hx;rcases mem_cons.mp hx with e | hx
   ·subst e;exact r_ ok (by rw[← hq.1];exact hq.2.1)
   ·exact ih x hx
 exact all r x hx
theorem OG{kvs:List (List Key×V)}(ok:cN P w H h)(e:H a=some (.dT kvs)):kvs.length<=sizeLine/\(a == sysModules)=false/\
  ∃xs,KT H kvs xs/\h.DictOfH (tupleKind (dQ P w)) a xs:=qz ok (.inl e)
end
noncomputable def fR(H:Hp)(a:Addr)(y:V)(r:Option V):Prop :=
 (∃kvs k,Rd H a (.dK kvs)/\y=kV k/\r=cG kvs k)\/∃kvs k b,Rd H a (.dT kvs)/\y = .ref b/\H b=some (.tup (k.map kV))/\r=cG kvs k
noncomputable def kU(H:Hp)(a:Addr)(y v:V)(H':Hp):Prop :=
 (∃kvs k,H a=some (.dK kvs)/\y=kV k/\kvs.length<sizeLine/\H' = upd H a (.dK (putK kvs k v)))\/
 ∃kvs k b,H a=some (.dT kvs)/\y = .ref b/\H b=some (.tup (k.map kV))/\kvs.length<sizeLine/\H' = upd H a (.dT (putK kvs k v))
theorem fR.k{H:Hp}{a:Addr}{kvs:List (Key×V)}{k:Key}(e:H a=some (.dK kvs)):fR H a (kV k) (cG kvs k):=.inl ⟨kvs,k,.inl e,rfl,rfl⟩
theorem fR.t{H:Hp}{a b:Addr}{kvs:List (List Key×V)}{k:List Key}(e:H a=some (.dT kvs))(eb:H b=some (.tup (k.map kV))):fR H a (.ref b) (cG kvs k):=.inr ⟨kvs,k,b,.inl e,rfl,eb,rfl⟩
theorem kU.k{H:Hp}{a:Addr}{kvs:List (Key×V)}{k:Key}{v:V}(e:H a=some (.dK kvs))(hl:kvs.length<sizeLine):kU H a (kV k) v (upd H a (.dK (putK kvs k v))):=.inl ⟨kvs,k,e,rfl,hl,rfl⟩
theorem kU.t{H:Hp}{a b:Addr}{kvs:List (List Key×V)}{k:List Key}{v:V}(e:H a=some (.dT kvs))(eb:H b=some (.tup (k.map kV)))(hl:kvs.length<sizeLine) :
  kU H a (.ref b) v (upd H a (.dT (putK kvs k v))):=.inr ⟨kvs,k,b,e,rfl,eb,hl,rfl⟩
section
variable{X:Cx}{pins:List (Addr×Obj)}{σ:St}{H:Hp}{s:Shared}{a:Addr}{y v:V}{u r:Value}{o:Option V}{A:Around}{E:Value->Shared->Prop}
theorem Inv.big(I:Inv X pins σ H s):sysModules<s.heap.objs.size:=by
 have h:mainGlobals<s.heap.objs.size:=(I.mod.glob.keeps I.bk).lt;exact Nat.lt_trans (by decide) h
theorem ZQ{Q:Value->Shared->Prop}(hu:A.units+1<cLine)(I:Inv X pins σ H s)(g:fR H a y (some v))(ry:RelV y u)(h:∀w' s',Inv X pins σ H s'->RelV v w'->Q w' s') :
  wpAny (model X.prog X.w) A (getItem (.ref a) u) Q E s:=by
 rcases g with⟨kvs,k,e,ey,l⟩ | ⟨kvs,k,b,e,ey,eb,l⟩
 ·subst ey;obtain⟨z,hd,vs,rel,dd⟩:=qy I.aG e;obtain⟨w',hw,kP⟩:=gw.some_of (v:=v) (o:=valueAt vs k) (by rw[l];exact rel.val k)
  exact wpAny_getItem_of (r9 ry) dd.mapOf hw (h w' _ (I.tok _) kP)
 ·subst ey;cases (show u=Value.ref b from ry);obtain⟨z,hd,xs,rel,dd⟩:=qz I.aG e;obtain⟨w',hw,kP⟩:=gw.some_of (v:=v) (o:=(atKey xs k).map (·.2)) (by rw[l];exact rel.val k)
  obtain⟨p,hp,nN⟩:=Option.map_eq_some_iff.mp hw;refine wpAny_getItem_heap (tupleKind_room_in1 hu) (r_ I.aG eb) dd hp ?_;rw[nN];exact h w' _ (I.tok _) kP
theorem ZR{Q:Value->Shared->Prop}(hu:A.units+1<cLine)(I:Inv X pins σ H s)(g:fR H a y o)(ry:RelV y u)(h:∀s',Inv X pins σ H s'->Q (.bool o.isSome) s') :
  wpAny (model X.prog X.w) A (compareOp .In u (.ref a)) Q E s:=by
 rcases g with⟨kvs,k,e,ey,l⟩ | ⟨kvs,k,b,e,ey,eb,l⟩
 ·subst ey;obtain⟨z,hd,vs,rel,dd⟩:=qy I.aG e;refine wpAny_in_of (r9 ry) hd dd.mapOf ?_;rw[← (rel.val k).uR,← l];exact h _ (I.tok _)
 ·subst ey;cases (show u=Value.ref b from ry);obtain⟨z,hd,xs,rel,dd⟩:=qz I.aG e;refine wpAny_in_heap (tupleKind_room_in1 hu) (r_ I.aG eb) hd dd ?_;have q:=(rel.val k).uR;rw[isSome_map] at q;rw[← q,← l];exact h _ (I.tok _)
theorem ZS{Q:Value->Shared->Prop}(hu:A.units+1<cLine)(I:Inv X pins σ H s)(g:fR H a y o)(ry:RelV y u)(h:∀s',Inv X pins σ H s'->Q (.bool (!o.isSome)) s') :
  wpAny (model X.prog X.w) A (compareOp .NotIn u (.ref a)) Q E s:=by
 rcases g with⟨kvs,k,e,ey,l⟩ | ⟨kvs,k,b,e,ey,eb,l⟩
 ·subst ey;obtain⟨z,hd,vs,rel,dd⟩:=qy I.aG e;refine wpAny_notIn_of (r9 ry) hd dd.mapOf ?_;rw[← (rel.val k).uR,← l];exact h _ (I.tok _)
 ·subst ey;cases (show u=Value.ref b from ry);obtain⟨z,hd,xs,rel,dd⟩:=qz I.aG e;refine wpAny_notIn_heap (tupleKind_room_in1 hu) (r_ I.aG eb) hd dd ?_;have q:=(rel.val k).uR;rw[isSome_map] at q;rw[← q,← l];exact h _ (I.tok _)
theorem OH{h':Heap}{t':Nat}{ob:HO}(I:Inv X pins σ H s)(mu:uh (H a))(hs:Heap.SameBut a s.heap h')(he:∃q,h'.get? a=some q)(new:dw X.prog X.w (upd H a ob) h' a ob) :
  Inv X pins σ (upd H a ob) { s with heap:=h',toks:=t' } :=
 I.write (x:=a) (e:=a) mu (.inl rfl) (λb q hb z=>(hs.2 b hb).trans z) he new
theorem ZT{P:Program}{w:World}{H':Hp}{h':Heap}{kvs:List (Key×V)}{vs:List (Key×Value)}(z:kvs.length<=sizeLine)(hd:(a == sysModules)=false)(rel:KV kvs vs)(dd:h'.DictOf (dQ P w) a vs) :
  dw P w H' h' a (.dK kvs):=⟨z,hd,vs,rel,dd⟩
theorem ZU{H':Hp}{Q:Unit->Shared->Prop}(hu:A.units+1<cLine)(I:Inv X pins σ H s)(g:kU H a y v H')(ry:RelV y u)(rv:RelV v r)(h:∀s',Inv X pins σ H' s'->Q () s') :
  wpAny (model X.prog X.w) A (setItem (.ref a) u r) Q E s:=by
 rcases g with⟨kvs,k,e,ey,l,eH⟩ | ⟨kvs,k,b,e,ey,eb,l,eH⟩
 ·subst ey eH;obtain⟨z,hd,vs,rel,dd⟩:=OF I.aG e;have hz:vs.length<=sizeLine:=by rw[← rel.length];exact z
  have hl:(putK kvs k v).length<=sizeLine:=by have:=FF kvs k v;lia
  refine wpAny_setItem_pairs (hsz:=hz) (r9 ry) dd λh' se hs=>h _ ?_;have he:∃q,h'.get? a=some q:=let ⟨q,_,_,hq,_⟩:=se;⟨q,hq⟩
  exact OH I (by rw[e];exact True.intro) hs he (ZT hl hd (rel.put k rv) se)
 ·subst ey eH;cases (show u=Value.ref b from ry);obtain⟨z,hd,xs,rel,dd⟩:=OG I.aG e;have hz:xs.length<=sizeLine:=by rw[← Paired.length rel];exact z
  have hl:(putK kvs k v).length<=sizeLine:=by have:=FF kvs k v;lia
  refine wpAny_setItem_heap (hsz:=hz) (tupleKind_room_in1 hu) (r_ I.aG eb) dd λh' se hs=>h _ ?_;obtain⟨q,es,ep,hq,h2,h3,h4,_,h5⟩:=se;refine OH I (by rw[e];exact True.intro) hs ⟨q,hq⟩ ⟨hl,hd,_,(rel.put k eb rv).keeps λc ys ec=>?_,q,es,ep,hq,h2,h3,h4,h5⟩
  rw[aF (iD ec e (λz=>nomatch z))];exact ec
end
section
variable{X:Cx}{pins:List (Addr×Obj)}{σ:St}{H:Hp}{s:Shared}{a:Addr}{kvs:List (Key×V)}{k:Key}{u:Value}{A:Around}{E:Value->Shared->Prop}
end
noncomputable def OI(i:Expr):Prop:=∀ov iv,subscripted i false ov iv=operate [ov,iv] (getItem ov iv)
theorem ZV{prog:Program}{w:World}{A:Around}{E:Value->Shared->Prop}{s:Shared}{env:Env}{value slice:Expr}{pos:Pos}{T id:String}{Q:Value->Shared->Prop}
  (hl:typeLookup (.type T) "__getitem__" = pure (some (.builtin id))) (hs:OI slice)
  (h:wpAny (model prog w) A (eval value env) (λo aZ=>wpAny (model prog w) A (eval slice env) (λi gA=>gA.TypeIs o T/\wpAny (model prog w) A (getItem o i) Q E gA) E aZ) E s) :
  wpAny (model prog w) A (eval (.Subscript value slice pos) env) Q E s:=by
 refine Subscript_ (wpAny_mono h (λo aZ h₁=>wpAny_mono h₁ (λi gA qA=>?_) λ_ _ x=>x) λ_ _ x=>x);obtain⟨hT,qA⟩:=qA;unfold subscriptTail;refine wpAny_bind ?_;rw[getitemInPython_of_ne hT.not_modules];refine wpAny_bind (wpAny_specialOf hT hl ?_);have fin:wpAny (model prog w) A (subscripted slice false o i) (λr j7=>wpAny (model prog w) A (letTemporaryGo value o r >>= λ_=>pure r) Q E j7) E gA:=by
  rw[hs o i];exact wpAny_operating (wpAny_mono qA (λr j7 zb=>wpAny_bind (wpAny_letTemporaryGo (wpAny_pure zb))) λ_ _ x=>x)
 first
  | exact wpAny_pure (wpAny_bind fin)
  | exact wpAny_bind (wpAny_pure (wpAny_bind fin))
  | exact wpAny_bind fin
theorem ZW{X:Cx}{pins:List (Addr×Obj)}{σ:St}{H:Hp}{s:Shared}{a:Addr}{y:V}{o:Option V}(I:Inv X pins σ H s)(g:fR H a y o):s.TypeIs (.ref a) "dict" := by
 rcases g with⟨kvs,k,e,_,_⟩ | ⟨kvs,k,b,e,_,_,_⟩
 ·obtain⟨_,_,vs,_,dd⟩:=qy I.aG e;exact dd.typeIs
 ·obtain⟨_,_,xs,_,dd⟩:=qz I.aG e;exact dd.typeIs
noncomputable def FH(td ty:TE):TE:=λσ H Q=>td σ H λx H1=>ty σ H1 λy H2=>∃a v,x = .ref a/\fR H2 a y (some v)/\Q v H2
noncomputable def FI(ty td:TE):TE:=λσ H Q=>ty σ H λy H1=>td σ H1 λx H2=>∃a o,x = .ref a/\fR H2 a y o/\Q (.bl o.isSome) H2
noncomputable def FJ(ty td:TE):TE:=λσ H Q=>ty σ H λy H1=>td σ H1 λx H2=>∃a o,x = .ref a/\fR H2 a y o/\Q (.bl (!o.isSome)) H2
noncomputable def FL(td ty tv:TE):TS:=λD σ H=>tv σ H λv H1=>td σ H1 λx H2=>ty σ H2 λy H3=>∃a H4,x = .ref a/\kU H3 a y v H4/\D.nx σ H4
section
variable{X:Cx}{o i e value:Expr}{pos pos' Y6:Pos}{td ty tv:TE}
theorem ZX(hu:X.A.units+1<cLine)(ho:PE X o td)(hi:PE X i ty)(hs:OI i):PE X (.Subscript o i pos) (FH td ty):=by
 intro pins s σ H Q I h;refine ZV PySem.F.slot_dict_getitem.lookup hs (aY (ho pins s σ H _ I h) λu s1 ⟨x,H1,I1,rx,q1⟩=>aY (hi pins s1 σ H1 _ I1 q1) λiv s2 ⟨y,H2,I2,ry,zz⟩=>?_);obtain⟨a,v,ex,g,q2⟩:=zz;subst ex;obtain rfl:u=Value.ref a:=rx;exact⟨ZW I2 g,ZQ hu I2 g ry λw' s3 I3 kP=>⟨v,H2,I3,kP,q2⟩⟩
theorem FN(hu:X.A.units+1<cLine)(hi:PE X i ty)(ho:PE X o td):PC X .In i o (FI ty td):=by
 intro pins s σ H Q I h;refine aY (hi pins s σ H _ I h) λiv s1 ⟨y,H1,I1,ry,q1⟩=>aY (ho pins s1 σ H1 _ I1 q1) λu s2 ⟨x,H2,I2,rx,zz⟩=>?_;obtain⟨a,ov,ex,g,q2⟩:=zz;subst ex;obtain rfl:u=Value.ref a:=rx;exact ZR hu I2 g ry λs3 I3=>⟨.bl ov.isSome,H2,I3,rfl,q2⟩
theorem FO(hu:X.A.units+1<cLine)(hi:PE X i ty)(ho:PE X o td):PC X .NotIn i o (FJ ty td):=by
 intro pins s σ H Q I h;refine aY (hi pins s σ H _ I h) λiv s1 ⟨y,H1,I1,ry,q1⟩=>aY (ho pins s1 σ H1 _ I1 q1) λu s2 ⟨x,H2,I2,rx,zz⟩=>?_;obtain⟨a,ov,ex,g,q2⟩:=zz;subst ex;obtain rfl:u=Value.ref a:=rx;exact ZS hu I2 g ry λs3 I3=>⟨.bl (!ov.isSome),H2,I3,rfl,q2⟩
theorem uS(hu:X.A.units+1<cLine)(ho:PE X o td)(hi:PE X i ty)(hv:PE X value tv)(hs:swapsWith value (some (.Subscript o i pos')) pos.line X.env=pure false) :
  PS X (.Assign [.Subscript o i pos'] value pos) (FL td ty tv):=by
 intro pins s σ H D I h;refine wpAny_Assign_Subscript (aY (hv pins s σ H _ I h) λr s1 ⟨v,H1,I1,rv,q1⟩=>aY (ho pins s1 σ H1 _ I1 q1) λu s2 ⟨x,H2,I2,rx,q2⟩=>aY (hi pins s2 σ H2 _ I2 q2) λiv s3 ⟨y,H3,I3,ry,zz⟩=>?_) hs;obtain⟨a,H4,ex,g,q3⟩:=zz;subst ex;obtain rfl:u=Value.ref a:=rx;exact ZU hu I3 g ry rv λs4 I4=>⟨σ,H4,I4,q3⟩
end
theorem ZY{P:Program}{w:World}{H:Hp}(h:Heap)(hb:sysModules<h.objs.size):dw P w H (h.push { cls:=.type "dict",data:=.dict #[] }) h.objs.size (.dK []) :=
 ⟨zero_le _,beq_eq_false_iff_ne.mpr (Ne.symm (Nat.ne_of_lt hb)),[],.nil,Heap.DictOf.new h⟩
theorem ZZ{P:Program}{w:World}{H:Hp}(h:Heap)(hb:sysModules<h.objs.size):dw P w H (h.push { cls:=.type "dict",data:=.dict #[] }) h.objs.size (.dT []) :=
 ⟨zero_le _,beq_eq_false_iff_ne.mpr (Ne.symm (Nat.ne_of_lt hb)),[],.nil,_,#[],0,get?_push_size _ rfl,⟨rfl,rfl,rfl⟩,rfl,rfl,nodup_nil⟩
noncomputable def FP:TE:=λ_ H Q=>∀p,H p=none->Q (.ref p) (upd H p (.dK []))
noncomputable def FQ:TE:=λ_ H Q=>∀p,H p=none->Q (.ref p) (upd H p (.dT []))
section
variable{X:Cx}{pos:Pos}
theorem OJ:PE X (.Dict [] [] pos) FP:=λpins s σ H Q I h =>
 wpAny_Dict_empty ⟨.ref s.heap.objs.size,_,I.laid (a:=s.heap.objs.size) (o:=.dK []) (t':=s.toks) (λ_ _ q=>get?_push_of_some _ q) (Nat.le_refl _) (ZY s.heap I.big),rfl,h _ (I.aG.fresh (Nat.le_refl _))⟩
theorem OL:PE X (.Dict [] [] pos) FQ:=λpins s σ H Q I h =>
 wpAny_Dict_empty ⟨.ref s.heap.objs.size,_,I.laid (a:=s.heap.objs.size) (o:=.dT []) (t':=s.toks) (λ_ _ q=>get?_push_of_some _ q) (Nat.le_refl _) (ZZ s.heap I.big),rfl,h _ (I.aG.fresh (Nat.le_refl _))⟩
end
structure M2(X:Cx)(o:Expr)(m:Str)(apos:Pos)(e f:Expr)(fE:Pos):Prop where
 base:attributeBase o m X.env (eval o X.env)=eval o X.env
 FT:((backTo fE (starEach [e,f] X.env)).all (λx => !x.1) && (backToKw fE (keywordEach [] X.env)).all (λx=>x.1.isSome)
  && decide (([e,f]:List Expr).length+([]:List Keyword).length+(if ([]:List Keyword).isEmpty then 0 else 1)<30))=true
 line:(apos.endLine == fE.line)=true
 trees:backTo fE (starEach [e,f] X.env) = [(false,eval e X.env),(false,eval f X.env)]
noncomputable def FU(H:Hp)(a:Addr):Prop:=(∃kvs,Rd H a (.dK kvs))\/∃kvs,Rd H a (.dT kvs)
theorem Z0{X:Cx}{pins:List (Addr×Obj)}{σ:St}{H:Hp}{s:Shared}{a:Addr}(I:Inv X pins σ H s)(d:FU H a) :
  s.TypeIs (.ref a) "dict"/\(∀b,Value.ref a = .ref b->∃ob,s.heap.get? b=some ob/\ob.dict=none)/\(a == sysModules)=false:=by
 rcases d with⟨kvs,e⟩ | ⟨kvs,e⟩
 ·obtain⟨_,hd,vs,_,dd⟩:=qy I.aG e;refine⟨dd.typeIs,λb q=>?_,hd⟩;cases q;obtain⟨ob,_,_,h1,h2,_⟩:=dd;exact⟨ob,h1,h2.2.1⟩
 ·obtain⟨_,hd,xs,_,dd⟩:=qz I.aG e;refine⟨dd.typeIs,λb q=>?_,hd⟩;cases q;obtain⟨ob,_,_,h1,h2,_⟩:=dd;exact⟨ob,h1,h2.2.1⟩
section
variable{X:Cx}{pins:List (Addr×Obj)}{σ:St}{H:Hp}{s:Shared}{a:Addr}{y d:V}{u r:Value}{o:Option V}{A:Around}{E:Value->Shared->Prop}
theorem Z1{Q:Value->Shared->Prop}(hu:A.units+1<cLine)(I:Inv X pins σ H s)(g:fR H a y o)(ry:RelV y u)(rd:RelV d r)(h:∀w' s',Inv X pins σ H s'->RelV (o.getD d) w'->Q w' s') :
  wpAny (model X.prog X.w) A (call (.builtin "dict.get") [.ref a,u,r]) Q E s:=by
 rcases g with⟨kvs,k,e,ey,l⟩ | ⟨kvs,k,b,e,ey,eb,l⟩
 ·subst ey;obtain⟨z,hd,vs,rel,dd⟩:=qy I.aG e;refine call_meetsIn slot_dict_get dd.typeIs PySem.F.entry_dict_get (PySem.F.args_dict_get_3 _ _ _) (meets_dict_get_default (dQ X.prog X.w) a (r9 ry) hd r) ⟨_,dd.mapOf,h _ _ (I.tok _) ?_⟩;rw[l];exact(rel.val k).getD rd
 ·subst ey;cases (show u=Value.ref b from ry);obtain⟨z,hd,xs,rel,dd⟩:=qz I.aG e;refine call_meetsIn slot_dict_get dd.typeIs PySem.F.entry_dict_get (PySem.F.args_dict_get_3 _ _ _) (meetsH_dict_get_default (tupleKind (dQ X.prog X.w)) a b hd r) ⟨tupleKind_room_in1 hu,k,xs,r_ I.aG eb,dd,h _ _ (I.tok _) ?_⟩;rw[l];exact(rel.val k).getD rd
end
noncomputable def OM(td ty:TE):TE:=λσ H Q=>td σ H λx H1=>∃a,x = .ref a/\FU H1 a/\ty σ H1 λy H2=>∃o,fR H2 a y o/\Q (o.getD .aW) H2
noncomputable def FW(td ty tx:TE):TE:=λσ H Q=>td σ H λx H1=>∃a,x = .ref a/\FU H1 a/\ty σ H1 λy H2=>tx σ H2 λz H3=>∃o,fR H3 a y o/\Q (o.getD z) H3
section
variable{X:Cx}{o e f:Expr}{apos fE:Pos}{td ty tx:TE}
theorem Z2(hu:X.A.units+1<cLine)(ho:PE X o td)(he:PE X e ty)(hf:PE X f tx)(m:M2 X o "get" apos e f fE):PE X (.Call (.Attribute o "get" apos) [e,f] [] fE) (FW td ty tx):=by
 intro pins s σ H Q I h;refine wpAny_Call_method m.base m.FT m.line PySem.F.plainAttrs_dict slot_dict_get PySem.F.type_dict_get (aY (ho pins s σ H _ I h) λu s1 ⟨x,H1,I1,rx,zz⟩=>?_);obtain⟨a,ex,d,q1⟩:=zz;subst ex;obtain rfl:u=Value.ref a:=rx;obtain⟨t1,t2,_⟩:=Z0 I1 d;refine⟨t1,t2,?_⟩;rw[m.trees];refine Calls.callWith_builtin rfl (evalArgs_plain (spliced_cons (aY (he pins s1 σ H1 _ I1 q1) λiv s2 ⟨y,H2,I2,ry,q2⟩ =>
  spliced_cons (aY (hf pins s2 σ H2 _ I2 q2) λfv s3 ⟨z,H3,I3,rz,zz⟩=>spliced_nil ?_))))
 obtain⟨ov,g,q3⟩:=zz;exact Z1 hu I3 g ry rz λw' s4 I4 kP=>⟨_,H3,I4,kP,q3⟩
end
section
variable{X:Cx}{pins:List (Addr×Obj)}{σ:St}{H:Hp}{s:Shared}{a:Addr}{kvs:List (Key×V)}{A:Around}{E:Value->Shared->Prop}
end
section
variable{X:Cx}{pins:List (Addr×Obj)}{σ:St}{H:Hp}{s:Shared}{a:Addr}{y:V}{u:Value}{A:Around}{E:Value->Shared->Prop}
end
end _L
namespace FY
open PySem PySem.W PySem.Calls PyProof.Rows
theorem Z3{P:Params}{h:Heap}:∀(ns:List Int) (vs:List Value),WellAll P h vs (ns.map WData.int)->IntsAre vs ns:=by
 intro ns
 induction ns with
 | nil =>
  intro vs w;rw[map_nil] at w;cases w;exact .nil
 | cons n ns ih =>
  intro vs w;rw[map_cons] at w;cases w with
  | cons a b =>
   cases a;exact .cons _ _ (ih _ b)
theorem Z4{l:OpenLaw}{n:Nat}(hn:l.most=some n){P:Params}{h:Heap}{args:List WData}{vals:List Value}
  (zc:l.row.toRowW.claim.pre args=true) (FZ:WellAll P h vals args) :
  ∃a vs ns,vals = [Value.ref a]/\args = [WData.list (ns.map WData.int)]/\h.get? a=some { cls:=.type "list",data:=.seq vs.toArray }/\IntsAre vs ns/\ns.length<=n:=by
 have Z5:WShape.hasAll [] args [.list .int] = true:=(pre_splitW zc).1;have hc:l.pre.holds [] { args:=args }=true:=(pre_splitW zc).2;obtain⟨d,r,rfl,h1,h2⟩:=hasAllW_cons Z5;obtain rfl:=hasAllW_nil h2;obtain⟨xs,rfl,h3⟩:=hasW_list h1;obtain⟨ns,rfl⟩:=items_int h3;have hlen:ns.length<=n:=by
  unfold OpenLaw.pre at hc;have h4:(WTm.not (.lt (.lit (.int (n:Int))) (.len (.arg 0)))).holds [] { args:=[.list (ns.map .int)] }=true:=by
   have h4:=(holds_andW hc).1;rw[hn] at h4;exact h4
  have h5:=condW_of h4 (w_not (w_lt w_lit (w_len_list (w_arg rfl))));rw[length_map] at h5;refine Nat.le_of_not_lt λq=>?_
  have q':(n:Int)<((ns.length:Nat):Int):=by lia
  first
   | (rw[decide_eq_true q'] at h5;exact absurd h5 (by decide))
   | (simp at h5;lia)
 cases FZ with
 | cons w1 w2 =>
  cases w2;cases w1 with
  | list ho Z6=>exact⟨_,_,ns,rfl,rfl,ho,Z3 ns _ Z6,hlen⟩
theorem Z7(l:OpenLaw)(args:List WData):l.row.toRowW.claim.post args (.bool true) args=true :=
 postW_of (r:=l.row.toRowW) (X:=(true == true))
  (show WShape.has [] (.bool true) .bool=true by first | rfl | decide | simp[WShape.has,WShape.arms,WShape.armsAll])
  (show (WTm.eq .res (.lit (.bool true))).value [] { args:=args,res:=some (.bool true),after:=args }=some (.bool (true == true)) from w_eq_bool (w_res rfl) w_lit) rfl
theorem ON{l:OpenLaw}{n:Nat}{q:Program}{loose:List Str}{XP:(Str->Option Value)->Heap->Prop}{YP:World->Heap->Prop}{d:DefRec}
  (hn:l.most=some n) (qB:d.params.defaults = [])
  (call:∀(w:World) (bG aZ:Shared) (mg mb:Str->Option Value) (fa:Addr) (o:Obj) (pm cd doc:Value) (a:Addr) (vs:List Value) (ns:List Int),
   Ground q loose [] XP w bG mg mb aZ.heap->YP w aZ.heap->
   aZ.heap.get? fa=some o->o.data = .func (docDef d.name d.params d.body d.scope pm cd doc)->aZ.heap.CodeRec cd d.name->mg d.name=some (.ref fa)->
   aZ.heap.get? a=some { cls:=.type "list",data:=.seq vs.toArray }->IntsAre vs ns->ns.length<=n->aZ.gens = #[]->
   codeAny (model l.prog w) callerA (.call (.ref fa) ⟨[.ref a],[]⟩) (λr s'=>r = .ok (.ret (.bool true))/\OldK aZ.heap s'.heap/\s'.os=aZ.os/\AllBare s'.gens) aZ) :
  WalkO q loose XP YP l.row.toRowW d [] (λf vs=>PySem.call f vs):=by
 intro w bG aZ mg mb G Y fa o pm cd doc dV kV ho hd cY hD hmg hg args vals as zc aiz hrd FZ hlo;obtain rfl:dV = .none:=Dflts.none hD qB;obtain rfl:kV = .none:=Dflts.noKw hD;obtain⟨a,vs,ns,rfl,rfl,uT,hints,hlen⟩:=Z4 hn zc FZ;refine enter_call (codeAny_mono (call w bG aZ mg mb fa o pm cd doc a vs ns G Y ho (fd_plain hd) cY hmg uT hints hlen hg) λr s' hq=>?_);obtain⟨rfl,h2,h3,h4⟩:=hq;exact⟨.inl ⟨.bool true,.bool true,[],rfl,λ_=>rfl,.bool true,Z7 l _,λ_=>⟨Pairwise.nil,λ_ hm=>(nomatch hm)⟩⟩,h2,h3,h4⟩
section
variable{prog:Program}{w:World}{A:Around}{E:Value->Shared->Prop}{s:Shared}{K:Frag}
noncomputable def ledger(h:Heap)(L d:Addr):List (Addr×Obj):=(List.range h.objs.size).filterMap λa=>if a=L\/a=d then none else(h.get? a).map λo=>(a,o)
end
end FY
namespace _L
open PySem PySem.Spec PyProof.Rows
theorem uU:∀ {vs:List Value} {ns:List Int},IntsAre vs ns->Vals (ns.map V.int) vs
 | _,_,.nil=>.nil
 | _,_,.cons n t h=>.cons ⟨t,rfl⟩ (uU h)
noncomputable def F_(H:Hp):Prop:=∀b,H b=none\/∃o xs,H b=some (.d8 o (.lst xs))
theorem Z8{P:Program}{w:World}{K:Frag}{mg mb:Str->Option Value}{CX:gO}{k:Nat}{fa a:Addr}{fd:FuncData}{x:Str}{sp:Sp}{aZ:Shared}{vs:List Value}{ns:List Int}
  (KX:K.In aZ.heap) (kW:aZ.heap.Ns mainGlobals mg) (hb:aZ.heap.Ns builtinsNs mb) (Ga:∀x:Str,x≠"__name__"->mb x=bootBuiltins x) (Gb:aZ.heap.NoLimit) (hg:aZ.gens = #[])
  (ha:aZ.heap.get? a=some { cls:=.type "list",data:=.seq vs.toArray }) (hi:IntsAre vs ns) (hl:ns.length<=sizeLine) (hr:bZ k callerA)
  (F:∀base:Heap,K.In base->base.Ns mainGlobals mg->bq P w K mg base CX k fa fd [x] sp) (j8:∀(s:Shared) (u:Value),BindsTo s fd ⟨[u],[]⟩ [(x,u)])
  (fK:∀H:Hp,F_ H->aE K H a (ns.map V.int)->sp [.ref a] H (λv _=>v = .bl true) λ_ _ _=>False)
  (Gd:∀H e s',CX [] H aZ (λ_ _ _=>False) e s'->False) :
  codeAny (model P w) callerA (.call (.ref fa) ⟨[.ref a],[]⟩) (λr s'=>r = .ok (.ret (.bool true))/\OldK aZ.heap s'.heap/\s'.os=aZ.os/\AllBare s'.gens) aZ:=by
 have rv:=uU hi;have Ge:=hi.length
 -- from an abstract heap in which nothing but the script may be tracked
 have core:∀H:Hp,F_ H->aE K H a (ns.map V.int)->cN P w H aZ.heap->(∀b,H b≠none->b=a)->(H a≠none->K.lookup a=none)->
   codeAny (model P w) callerA (.call (.ref fa) ⟨[.ref a],[]⟩) (λr s'=>r = .ok (.ret (.bool true))/\OldK aZ.heap s'.heap/\s'.os=aZ.os/\AllBare s'.gens) aZ:=by
  intro H hO hS aG hA hK;have qC:∀ {b:Addr} {o:Obj},aZ.heap.get? b=some o->H b=none->(iE aZ.heap H).get? b=some o:=λe n=>M9 e n;have uK:∀ {b:Addr} {o:Obj} {es:Array DictEntry} {ep:Nat},aZ.heap.get? b=some o->o.data = .dict es ep->H b=none:=λ{b o es ep} e d=>by
   cases q:H b with
   | none=>rfl
   | some u =>
    have e':b=a:=hA b (by rw[q];simp)
    subst e';rw[ha] at e;cases e;have d':Data.seq vs.toArray _=Data.dict es ep:=d;cases d'
  have nO:∀ {b:Addr} {m:Str->Option Value},aZ.heap.Ns b m->(iE aZ.heap H).Ns b m:=λ{b m} ⟨o,es,ep,e,d,r⟩=>⟨o,es,ep,qC e (uK e d),d,r⟩;have uW:K.In (iE aZ.heap H):=λb o e=>qC (KX b o e) (by
   cases q:H b with
   | none=>rfl
   | some u =>
    have e':b=a:=hA b (by rw[q];simp)
    subst e';rw[hK (by rw[q];simp)] at e;cases e)
  have hM:Mod K mg (iE aZ.heap H):=⟨uW,nO kW,⟨mb,nO hb,Ga⟩,let ⟨mc,h1,h2⟩:=Gb;⟨mc,nO h1,h2⟩⟩
  have e0:l7 P w K mg (iE aZ.heap H) callerA [] aZ H:=⟨rfl,hM,λb o e=>M_ e,Nat.le_of_eq (M8 _ _),trivial,λb hb=>absurd (show b∈([]:List Addr) from hb) (by simp),aG,.of_eq hg⟩
  refine codeAny_mono ((F _ uW (nO kW)).run callerA [] aZ H ⟨[.ref a],[]⟩ [.ref a] [.ref a] _ _ hr e0 (j8 aZ (.ref a)) (.cons rfl .nil) (fK H hO hS)) λr s' h=>?_;cases r with
  | error e=>exact(Gd H e s' h).elim
  | ok fl =>
   cases fl with
   | next=>exact False.elim h
   | brk=>exact False.elim h
   | cont=>exact False.elim h
   | ret u =>
    obtain⟨v,H',os,bare,un,zd,r',q⟩:=h;have q':v = .bl true:=q;subst q';obtain rfl:u=Value.bool true:=r';refine⟨rfl,OldK.of_keep λb o e=>?_,os,bare⟩;cases q:H b with
    | none=>exact un.keep b o e q (by intro z;exact absurd (show b∈([]:List Addr) from z) (by simp)) (by simp)
    | some u =>
     rcases hO b with z | ⟨ob,xs,z⟩
     ·rw[q] at z;cases z
     ·have z2:=un.i6 b ob _ z;obtain⟨e1,_⟩:=aG b _ z;obtain⟨e2,_⟩:=zd b _ z2;rw[e] at e1;cases e1;exact e2
 cases hk:K.lookup a with
 | some o =>
  -- the script is one of the module's own objects
  have e:=KX a o hk;rw[ha] at e;cases e;refine core (λ_=>none) (λ_=>.inl rfl) (.inr ⟨_,vs.toArray,_,hk,rfl,rfl,rfl,by rw[size_toArray,Ge];exact hl,by simpa using rv⟩) (λb u z=>by have z':(none:Option HO)=some u:=z;cases z') (λb z=>absurd rfl z) λz=>absurd rfl z
 | none =>
  refine core (λb=>if b=a then some (.d8 { cls:=.type "list",data:=.seq vs.toArray } (.lst (ns.map V.int))) else none) (λb=>?_) (.inl (.inr ⟨{ cls:=.type "list",data:=.seq vs.toArray },if_pos rfl⟩)) (λb u z=>?_) (λb z=>?_) λ_=>hk
  ·by_cases hb:b=a
   ·exact .inr ⟨_,_,if_pos hb⟩
   ·exact .inl (if_neg hb)
  ·by_cases hb:b=a
   ·have z':=(if_pos hb).symm.trans z;cases z';subst hb;exact⟨ha,by rw[length_map];exact hl,vs,_,rv,ha⟩
   ·have z':=(if_neg hb).symm.trans z;cases z'
  ·by_cases hb:b=a
   ·exact hb
   ·exact absurd (if_neg hb) z
noncomputable abbrev KOf{K:Frag}{h:Heap}(_:K.In h):Frag:=K
theorem aiA{l:W.OpenLaw}{n k:Nat}{q:Program}{loose:List Str}{XP:(Str->Option Value)->Heap->Prop}{YP:World->Heap->Prop}{d:DefRec}{K:Params->Frag}{CX:World->gO}{sp:World->Sp}{x:Str}
  (hn:l.most=some n) (l6:n<=sizeLine) (qB:d.params.defaults = []) (hr:bZ k callerA)
  (hY:∀(w:World) (h:Heap),YP w h->(K w.params).In h)
  (F:∀(w:World) (mg:Str->Option Value) (fa:Addr) (h:Heap),(K w.params).In h->h.Ns mainGlobals mg->mg d.name=some (.ref fa)->
   ∃fd:FuncData,(∀(s:Shared) (u:Value),BindsTo s fd ⟨[u],[]⟩ [(x,u)])/\
    ∀base:Heap,(K w.params).In base->base.Ns mainGlobals mg->bq l.prog w (K w.params) mg base (CX w) k fa fd [x] (sp w))
  (fK:∀(w:World) (H:Hp) (a:Addr) (ns:List Int),ns.length<=n->F_ H->aE (K w.params) H a (ns.map V.int)->sp w [.ref a] H (λv _=>v = .bl true) λ_ _ _=>False)
  (Gd:∀(w:World) (H:Hp) (s:Shared) (e:Value) (s':Shared),CX w [] H s (λ_ _ _=>False) e s'->False) :
  W.WalkO q loose XP YP l.row.toRowW d [] (λf vs=>PySem.call f vs):=by
 refine FY.ON hn qB λw bG aZ mg mb fa o pm cd doc a vs ns G Y ho hd cY hmg uT hints hlen hg=>?_;have KX:=hY w _ Y;obtain⟨fd,hb,hF⟩:=F w mg fa _ KX G.T.g hmg;exact Z8 KX G.T.g G.T.b G.T.builtins G.T.nolimit hg uT hints (Nat.le_trans hlen l6) hr hF hb (λH hO hS=>fK w H a ns hlen hO hS) λH e s'=>Gd w H aZ e s'
noncomputable def inClass(s:Stmt)(j:Nat):Stmt:=match s with
 | .ClassDef _ _ _ body _ _ _ _ _ _ _=>body.getD j (.Pass ⟨0,0,0,0⟩)
 | _=>.Pass ⟨0,0,0,0⟩
noncomputable def gf(s:Stmt):Arguments:=match s with
 | .FunctionDef _ a _ _ _ _ _ _ _ _=>a
 | _=>{ posonlyargs:=[],args:=[],vararg:=none,kwonlyargs:=[],kw_defaults:=[],kwarg:=none,defaults:=[] }
noncomputable def eY(s:Stmt):List Stmt:=match s with
 | .FunctionDef _ _ b _ _ _ _ _ _ _=>b
 | _=>[]
noncomputable def a_(s:Stmt):Scope:=match s with
 | .FunctionDef _ _ _ _ _ _ sc _ _ _=>sc
 | _=>{ kind:=.function,names:=[],isGenerator:=false,isCoroutine:=false }
noncomputable abbrev bx:gO:=λ_ _ _ _ _ _=>False
noncomputable abbrev E0:XK:=λ_ _ _=>False
theorem aI{X:Cx}:Passes bx X E0:=λ_ _ _ _ _ _ _ h=>h.elim
structure aO(K:Frag)(x qual:Str)(st:Stmt)(f:Addr)(fd:FuncData):Prop where
 ex:∃(oc:Value) (od:Option Addr) (kV doc pm:Value) (an:Option Addr) (aV ct:Value) (gQ:Array (Option Value)),
  fd=fnOf x qual (gf st) (eY st) (a_ st) .none kV doc pm an aV ct/\K.lookup f=some ⟨oc,od,.func fd,gQ⟩/\codeIn K aV qual=true
 kp:keepIn K (.ref f)=true
section
variable{P:Program}{w:World}{K:Frag}{mg:Str->Option Value}{base:Heap}
theorem aO.ok{x qual:Str}{st:Stmt}{f:Addr}{fd:FuncData}{N ps:List Str}{k:Nat}{sp:Sp}(F:aO K x qual st f fd)(S:bB N ps (a_ st))(len:∀vs H Q E,sp vs H Q E->vs.length=ps.length)
  (kN:∀(aV:Value) (A:Around) (outer:List Env) (s:Shared) (H:Hp) (vs:List V) (Q:VK) (E:XK),bZ k (A.deeper (envOfC qual (a_ st) s.heap.objs.size f aV))->sp vs H Q E->
   ∃t,fB (gP bx P w K mg base N qual (a_ st) f aV A outer s H E).kK (eY st) t/\t { nx:=λ_ H'=>Q .aW H',rt:=Q } (start N vs) H):bq P w K mg base bx (k+1) f fd ps sp:=by
 obtain⟨oc,od,kV,doc,pm,an,aV,ct,gQ,rfl,lk,cY⟩:=F.ex;refine yP lk cY S len λA outer s H vs Q E hr fK=>?_;obtain⟨t,h,q⟩:=kN aV A outer s H vs Q E hr fK;exact⟨t,h.kK,q⟩
theorem aO.binds{x qual:Str}{st:Stmt}{f:Addr}{fd:FuncData}{ps:List Str}(F:aO K x qual st f fd)
  (h:∀(kV doc pm:Value) (an:Option Addr) (aV ct:Value) (us:List Value),us.length=ps.length->bindArgs (fnOf x qual (gf st) (eY st) (a_ st) .none kV doc pm an aV ct) ⟨us,[]⟩=pure (ps.zip us)):Binds K fd ps []:=by
 obtain⟨oc,od,kV,doc,pm,an,aV,ct,gQ,rfl,lk,cY⟩:=F.ex;exact .all (h kV doc pm an aV ct)
theorem fun_mk{x qual:Str}{st:Stmt}{f:Addr}{oc:Value}{od an:Option Addr}{gQ:Array (Option Value)}{kV doc pm aV ct:Value}(l:K.lookup f=some ⟨oc,od,.func (fnOf x qual (gf st) (eY st) (a_ st) .none kV doc pm an aV ct),gQ⟩)
  (c:codeIn K aV qual=true) (k:keepIn K (.ref f)=true):aO K x qual st f (fnOf x qual (gf st) (eY st) (a_ st) .none kV doc pm an aV ct):=⟨⟨oc,od,kV,doc,pm,an,aV,ct,gQ,rfl,l,c⟩,k⟩
end
theorem kX{A:Around}{k:Nat}(hr:bZ k A):A.units+1<cLine:=Nat.lt_of_le_of_lt (Nat.add_le_add_left (by decide:1<=64) _) hr.units
theorem fS{n:Nat}(h:n<=1000):n<sizeLine:=Nat.lt_of_le_of_lt h (by decide)
section
variable{X:Cx}
theorem pv(i:Nat){x:Str}{pos:Pos}(hN:autoParam (X.N[i]? = some x) jE)(hv:yh X.env.scope x:=by first | exact Or.inl rfl | exact Or.inr (Or.inl rfl) | exact Or.inr (Or.inr rfl))(hd:autoParam ((x == ("__debug__" : Str))=false) jB)
  (cY:(x == ("__classdict__" : Str))=false:=by decide):PE X (.Name x pos) (yq i):=Nl hN hv hd cY
end
theorem cj{c A B:Prop}[Decidable c](h1:c->A)(h2:¬ c->B):if c then A else B:=by
 by_cases h:c
 ·rw[if_pos h];exact h1 h
 ·rw[if_neg h];exact h2 h
noncomputable def ao(H H':Hp):Prop:=∀b o,H b=some o->H' b=some o
theorem ao.refl(H:Hp):ao H H:=λ_ _ h=>h
theorem ao.trans{H H1 H2:Hp}(a:ao H H1)(b:ao H1 H2):ao H H2:=λc o h=>b c o (a c o h)
theorem ao.free{H H':Hp}(e:ao H H'){l:Addr}(h:H' l=Option.none):H l=Option.none:=by
 cases q:H l with
 | none=>rfl
 | some o =>
  rw[e l o q] at h;cases h
theorem ao.seq{K:Frag}{H H':Hp}{a:Addr}{xs:List V}(e:ao H H')(h:aE K H a xs):aE K H' a xs:=by
 rcases h with(h | ⟨o,h⟩) | h
 ·exact .inl (.inl (e _ _ h))
 ·exact .inl (.inr ⟨o,e _ _ h⟩)
 ·exact .inr h
section
variable{κ:Type}[DecidableEq κ]
end
end _L
set_option maxHeartbeats 4000000
namespace _L
open PySem PySem.Spec PyProof.Rows
section
variable{prog:Program}{w:World}{A:Around}{R:Result->Shared->Prop}{s:Shared}
theorem Z9{elt target iter:Expr}{ifs:List Expr}{scope:Scope}{pos:Pos}{it acc:Value}{env:Env}(I:Nat->Shared->Prop)
  (turn:∀n s,I n s->wpAny (model prog w) A (pyNext it) (λr aZ=>match r with
   | none=>R (.ok .next) aZ
   | some v=>wpAny (model prog w) A (letOwnedTupleGo target it v) (λ_ OO=>wpAny (model prog w) A (assign target env v) (λ_ gA =>
     wpAny (model prog w) A (forIn ifs true λc r=>if r=true then do let ok ← isTrue c env (eval c env);pure (ForInStep.yield ok) else pure (ForInStep.yield r)) (λok j7 =>
      if ok=true then wpAny (model prog w) A (eval elt env) (λx ze =>
       wpAny (model prog w) A (call (.builtin "list.append") [acc,x]) (λ_ OP=>∃m,m<n/\I m OP) (λ_ _=>False) ze) (λ_ _=>False) j7
      else ∃m,m<n/\I m j7) (λ_ _=>False) gA) (λ_ _=>False) OO) (λ_ _=>False) aZ) (λ_ _=>False) s)
  (n:Nat) (h:I n s):codeAny (model prog w) A (.compLoop (.ListComp elt [⟨target,iter,ifs,0⟩] scope pos) 0 it acc env) R s:=by
 refine codeAny_loop rfl I (λn s hI=>?_) n h
 show wpAny _ A ((compTurn (.ListComp elt [⟨target,iter,ifs,0⟩] scope pos) 0 it acc env).onRaise (λx=>do noteFrame x env;theTreesLotGoes x)) _ _ s
 refine wpAny_noted ?_;rw[compTurn_list];refine wpAny_bind (wpAny_standAt (wpAny_bind (wpAny_mono (turn n s hI) (λr aZ h₁=>?_) λ_ _ h'=>h'.elim)));cases r with
 | none=>exact wpAny_pure h₁
 | some v =>
  refine wpAny_bind (wpAny_mono h₁ (λ_ OO Z_=>?_) λ_ _ h'=>h'.elim);refine wpAny_bind (wpAny_mono Z_ (λ_ gA qA=>wpAny_bind (wpAny_mono qA (λok j7 zb=>?_) λ_ _ h'=>h'.elim)) λ_ _ h'=>h'.elim);cases ok with
  | false=>exact wpAny_pure ⟨rfl,zb⟩
  | true =>
   exact wpAny_bind (wpAny_bind (wpAny_mono zb (λx ze aaa=>wpAny_bind (wpAny_mono aaa (λ_ OP aab=>wpAny_pure (wpAny_pure ⟨rfl,aab⟩)) λ_ _ h'=>h'.elim)) λ_ _ h'=>h'.elim))
end
noncomputable def gC(X:Cx)(scope:Scope)(cl:List (Str×Addr))(N:List Str)(C:Addr)(s:Shared)(H:Hp)(fp:List Addr):Cx where
 prog:=X.prog
 w:=X.w
 K:=X.K
 mg:=X.mg
 base:=X.base
 A:=X.A
 N:=N
 bG:=s
 gz:=H
 env:=compEnvC scope cl C X.env
 outer:=X.stack
 stack:=X.stack
 ex:=fp
 fn:=λ_=>false
 calm:=X.calm
 pn:=[]
 xe:=λ_ _=>False
structure c7(X:Cx)(scope:Scope)(cl:List (Str×Addr))(N:List Str)(nt:Nat)(fv:List Nat):Prop where
 mj:closureFor scope X.env=pure cl
 kind:scope.kind = .function
 kY:∀y∈scope.names,y.2≠.cell
 names:∀y∈scope.names,y.2 = .local->scope.names.lookup y.1=some .local
 sub:∀p∈cl,X.env.cells.lookup p.1=some p.2
 has:∀y∈scope.names,y.2 = .free->∃c,cl.lookup y.1=some c
 free:fv.map (λj=>X.N[j]?)=(N.drop nt).map some
 fk:∀y∈N.drop nt,scope.names.lookup y=some .free/\X.env.scope.names.lookup y=some .cell
 le:nt<=N.length
 nd:N.Nodup
theorem zg{env:Env}:∀ {names:List (Str×NameKind)} {x:Str} {k:NameKind},
  (names.map λ(n,k)=>if (k == NameKind.free && env.scope.kind == .function && env.kindOf n == some .cell) then(n,NameKind.cell) else(n,k)).lookup x=some k->
  ∃k0,names.lookup x=some k0/\(k=k0\/(k0 = .free/\k = .cell))
 | [],_,_,h=>by simp at h
 | (n,k0)::r,x,k,h=>by
  have ih:=@zg env r x k;have h:List.lookup x ((if (k0 == NameKind.free && env.scope.kind == .function && env.kindOf n == some .cell)=true then(n,NameKind.cell) else(n,k0))::_)=_:=h
  cases hx:x == n with
  | true =>
   by_cases hc:(k0 == NameKind.free && env.scope.kind == .function && env.kindOf n == some .cell)=true
   ·rw[if_pos hc] at h;simp only[lookup_cons,hx,Option.some.injEq] at h;simp only[and_eq_true,beq_iff_eq] at hc;exact⟨k0,by simp[lookup_cons,hx],.inr ⟨hc.1.1,h.symm⟩⟩
   ·rw[if_neg hc] at h;simp only[lookup_cons,hx,Option.some.injEq] at h;exact⟨k0,by simp[lookup_cons,hx],.inl h.symm⟩
  | false =>
   have h':List.lookup x (r.map λ(n,k)=>if (k == NameKind.free && env.scope.kind == .function && env.kindOf n == some .cell) then(n,NameKind.cell) else(n,k))=some k:=by
    by_cases hc:(k0 == NameKind.free && env.scope.kind == .function && env.kindOf n == some .cell)=true
    ·rw[if_pos hc] at h;simpa only[lookup_cons,hx] using h
    ·rw[if_neg hc] at h;simpa only[lookup_cons,hx] using h
   obtain⟨q,e,z⟩:=ih h';exact⟨q,by simp only[lookup_cons,hx];exact e,z⟩
theorem o_{α:Type}{x:Str}{v:α}:∀ {l:List (Str×α)},l.lookup x=some v->(x,v)∈l:=λh=>PySem.mem_of_lookup h
section
variable{X:Cx}{pins:List (Addr×Obj)}{σ:St}{H:Hp}{s:Shared}{scope:Scope}{cl:List (Str×Addr)}{N:List Str}{nt:Nat}{fv:List Nat}{fp:List Addr}
theorem c7.cell(S:c7 X scope cl N nt fv){x:Str}{c:Addr}(e:cl.lookup x=some c):X.env.cells.lookup x=some c:=S.sub (x,c) (o_ e)
theorem c7.aac(S:c7 X scope cl N nt fv){C:Addr}{x:Str}(h:(compEnvC scope cl C X.env).kindOf x=some .cell\/(compEnvC scope cl C X.env).kindOf x=some .free):scope.names.lookup x=some .free:=by
 have h:(scope.names.map λ(n,k)=>if (k == NameKind.free && X.env.scope.kind == .function && X.env.kindOf n == some .cell) then(n,NameKind.cell) else(n,k)).lookup x=some .cell\/
  (scope.names.map λ(n,k)=>if (k == NameKind.free && X.env.scope.kind == .function && X.env.kindOf n == some .cell) then(n,NameKind.cell) else(n,k)).lookup x=some .free:=h
 rcases h with h | h
 ·obtain⟨k0,e,z | ⟨z,_⟩⟩:=zg h
  ·exact absurd z.symm (S.kY _ (o_ e))
  ·rw[z] at e;exact e
 ·obtain⟨k0,e,z | ⟨z,_⟩⟩:=zg h
  ·rw[← z] at e;exact e
  ·rw[z] at e;exact e
theorem c7.ok(S:c7 X scope cl N nt fv)(I:Inv X pins σ H s)(hf:∀b∈fp,lU X pins H b)(bL:∀b∈fp,b<s.heap.objs.size){C:Addr}(hC:s.heap.objs.size<=C) :
  (gC X scope cl N C s H fp).Ok where
 mod:=I.ok.mod
 kind:=S.kind
 glob:=I.ok.glob
 blt:=I.ok.blt
 above:=hC
 inj:=λx y c h1 h2=>I.ok.inj x y c (S.cell h1) (S.cell h2)
 has:=λx h=>by
  have e:=S.aac h;exact S.has _ (o_ e) rfl
 p_:=λx c h _=>by cases (show false=true from h)
 hd:=I.ok.hd
 frames:=I.ok.frames
 rK:=.inl rfl
 rL:=λb hb=>⟨λz=>absurd (Nat.lt_of_lt_of_le (bL b hb) (by rw[z];exact hC)) (Nat.lt_irrefl _),λx c h=>(hf b hb).2.2.2.2.1 x c (S.cell h)⟩
 bs:=I.bs
 eW:=Nat.le_trans I.ok.eW I.sz
 qa:=λb o e hb=>by
  rcases(hf b hb).2.2.2.1 with z | z
  ·exact I.ok.qa b o e z
  ·exact absurd (Nat.lt_of_lt_of_le (lt_size e) (Nat.le_trans I.ok.eW z)) (Nat.lt_irrefl _)
 qb:=λb hb hm=>by
  rcases mem_cons.mp (I.Et b hm) with z | z
  ·exact(hf b hb).2.1 z
  ·exact(hf b hb).2.2.1 z
 gK:=I.stack
 j5:=I.um
noncomputable def jK(σ:St)(nt:Nat)(fv:List Nat):St:=List.replicate nt none++fv.map λj=>(σ[j]?).getD none
theorem c7.inv(S:c7 X scope cl N nt fv)(I:Inv X pins σ H s)(hf:∀b∈fp,lU X pins H b)(bL:∀b∈fp,b<s.heap.objs.size){h1:Heap}{tk:Nat}{D C:Addr}
  (hD:s.heap.objs.size<=D) (hC:s.heap.objs.size<=C) (zh:D≠C) (old:∀b o,s.heap.get? b=some o->h1.get? b=some o) (jL:h1.get? D=some { cls:=.type "list",data:=.seq #[] }) (kW:h1.Ns C λ_=>none) :
  Inv (gC X scope cl N C s H fp) [] (jK σ nt fv) (upd H D (.lst [])) { s with heap:=h1,toks:=tk }:=by
 have I1:Inv X pins σ (upd H D (.lst [])) { s with heap:=h1,toks:=tk }:=I.laid old hD ⟨zero_le _,[],0,.nil,jL⟩;have hlen:fv.length=(N.drop nt).length:=by simpa using congrArg List.length S.free
 refine⟨S.ok I hf bL hC,rfl,I.bare,Un.laid old hD (I.aG.fresh hD),⟨_,kW,λi x v e1 e2 e3=>?_⟩,λx c e=>?_,?_,λx c e=>?_,λp hp=>absurd (show p∈([]:List (Addr×Obj)) from hp) (by simp),I1.aG,?_⟩
 ·unfold jK at e2;have hi:nt<=i:=by
   by_cases h:nt<=i
   ·exact h
   ·rw[getElem?_append_left (by simp;lia),List.getElem?_replicate] at e2
    split at e2 <;> cases e2
  rw[getElem?_append_right (by simpa using hi)] at e2
  simp only[length_replicate,getElem?_map] at e2;cases hj:fv[i - nt]? with
  | none=>rw[hj] at e2;simp at e2
  | some j =>
   rw[hj] at e2;simp only[map_some,Option.some.injEq] at e2;have hN:X.N[j]? = some x:=by
    have q:=congrArg (λl=>l[i - nt]?) S.free;simp only[getElem?_map,hj,map_some,getElem?_drop] at q;rw[show nt+(i - nt)=i by lia] at q
    have OQ:N[i]? = some x:=e1;rw[OQ] at q;exact(Option.some.inj q)
   have Gf:σ[j]? = some (some v):=by
    cases z:σ[j]? with
    | none=>rw[z] at e2;simp at e2
    | some y=>rw[z] at e2;simp at e2;rw[e2]
   have aad:x∈N.drop nt:=by
    refine mem_of_getElem? (i:=i - nt) ?_;rw[getElem?_drop,show nt+(i - nt)=i by lia];exact e1
   obtain⟨f1,f2⟩:=S.fk x aad;obtain⟨m,hn,hl⟩:=I1.loc;obtain⟨u,ru,lk⟩:=hl j x v hN Gf (.inr (.inl f2));refine⟨u,ru,?_⟩;rcases lk with⟨k,_⟩ | ⟨_,c,ec,hc⟩
   ·have k:X.env.scope.names.lookup x=some .local:=k;rw[f2] at k;cases k
   ·obtain⟨c',e'⟩:=S.has _ (o_ f1) rfl;have:=S.cell e';rw[ec] at this;cases this;refine .inr ⟨?_,c,e',hc⟩;rcases e3 with z | z | z
    ·obtain⟨k0,ek,q | ⟨_,q⟩⟩:=zg (show (scope.names.map λ(n,k)=>if (k == NameKind.free && X.env.scope.kind == .function && X.env.kindOf n == some .cell) then(n,NameKind.cell) else(n,k)).lookup x=some .local from z)
     ·rw[f1] at ek;cases ek;cases q
     ·cases q
    ·exact .inl z
    ·exact .inr z
 ·obtain⟨v,z⟩:=I1.cell x c (S.cell e);exact⟨v,z⟩
 ·show upd H D (.lst []) C=none;rw[aF (Ne.symm zh)];exact I.aG.fresh hC
 ·exact I1.iF x c (S.cell e)
 ·unfold jK
  show _=N.length;have:=S.le;simp only[length_append,length_replicate,length_map,length_drop] at hlen ⊢;lia
end
noncomputable def sf(X:Cx)(ifs:List Expr)(t:TT):Prop :=
 ∀(pins:List (Addr×Obj)) (s:Shared) (σ:St) (H:Hp) (Q:Bool->Hp->Prop),Inv X pins σ H s->t σ H Q->
  wpAny (model X.prog X.w) X.A (forIn ifs true λc r=>if r=true then do let ok ← isTrue c X.env (eval c X.env);pure (ForInStep.yield ok) else pure (ForInStep.yield r)) (TP X pins σ Q) X.xe s
noncomputable def Gg:TT:=λ_ H Q=>Q true H
theorem gS{X:Cx}:sf X [] Gg:=λpins s σ H Q I h=>wpAny_tests_nil ⟨H,I,h⟩
theorem uX{X:Cx}{c:Expr}{t:TT}(hc:PT X c t):sf X [c] t:=λpins s σ H Q I h=>wpAny_tests_one (hc pins s σ H Q I h)
noncomputable def mq(wi:TI)(g:TG)(tt:TT)(te:TE)(nt:Nat)(fv:List Nat):TE:=λσ H Q=>wi σ H λJ H1=>∀D,H1 D=none->∃W:Nat->Nat->List V->St->Hp->Prop,
 (∃m,W 0 m [] (jK σ nt fv) (upd H1 D (.lst [])))/\∀i m ys aA H2,W i m ys aA H2->H2 D=some (.lst ys)/\ys.length<sizeLine/\
  ((J.stop i H2/\Q (.ref D) H2)\/(J.go i H2/\∀x H3,J.lT i H2 x H3->g x aA H3 λcO H4=>tt cO H4 λb H5=>if b=true then te cO H5 λv H6=>H6 D=some (.lst ys)/\∃m',m' < m/\W (i+1) m' (ys++[v]) cO (upd H6 D (.lst (ys++[v])))
   else ∃m',m' < m/\W (i+1) m' ys cO H5))
section
variable{X:Cx}{tg iter elt:Expr}{ifs:List Expr}{scope:Scope}{cl:List (Str×Addr)}{N:List Str}{nt:Nat}{fv:List Nat}{pos:Pos}{wi:TI}{g:TG}{tt:TT}{te:TE}
theorem OR{pins:List (Addr×Obj)}{σ:St}{s2:Shared}{H2:Hp}{it:Addr}{fp:List Addr}{tn:Nat->Heap->Prop}{J:It}{Q:VK}{RR:Value->Addr->Result->Shared->Prop}{E:Value->Shared->Prop}
  (S:c7 X scope cl N nt fv) (hc:X.calm=true)
  (hg:∀C s H fp,PG (gC X scope cl N C s H fp) tg g) (ht:∀C s H fp,sf (gC X scope cl N C s H fp) ifs tt) (he:∀C s H fp,PE (gC X scope cl N C s H fp) elt te)
  (I2:Inv X pins σ H2 s2) (T:Turn X.prog X.w X.K tg J fp it tn) (lX:tn 0 s2.heap) (f2:∀b∈fp,lU X pins H2 b)
  (hq:∀D,H2 D=none->∃W:Nat->Nat->List V->St->Hp->Prop,
   (∃m,W 0 m [] (jK σ nt fv) (upd H2 D (.lst [])))/\∀i m ys aA H2,W i m ys aA H2->H2 D=some (.lst ys)/\ys.length<sizeLine/\
    ((J.stop i H2/\Q (.ref D) H2)\/(J.go i H2/\∀x H3,J.lT i H2 x H3->g x aA H3 λcO H4=>tt cO H4 λb H5=>if b=true then te cO H5 λv H6=>H6 D=some (.lst ys)/\∃m',m' < m/\W (i+1) m' (ys++[v]) cO (upd H6 D (.lst (ys++[v])))
     else ∃m',m' < m/\W (i+1) m' ys cO H5)))
  (hRR:∀(D C:Addr) (s':Shared) (H':Hp) (m':Str->Option Value),Inv X pins σ H' s'->s'.heap.Ns C m'->s2.heap.objs.size<=C->H' C=none->Q (.ref D) H'->RR (.ref D) C (.ok .next) s') :
  wpAny (model X.prog X.w) X.A (newList []) (λacc j7=>wpAny (model X.prog X.w) X.A (newFunctionEnv scope X.env.globals cl [] X.env.qual none .none (some X.env)) (λOS ze =>
   codeAny (model X.prog X.w) X.A (.compStart (.ListComp elt [⟨tg,iter,ifs,0⟩] scope pos) 0 (.ref it) acc { OS with scope:=relabel scope X.env }) (RR acc OS.locals) ze) E j7) E s2:=by
 refine wpAny_newObj_type (wpAny_newFunctionEnv S.kY (by intro y hy;simp at hy) (λh₁ Gh zj=>?_) S.kind)
 dsimp only at Gh zj ⊢;generalize Gi:s2.heap.push { cls:=.type "list",dict:=none,data:=.seq ([]:List Value).toArray }=HH at Gh zj ⊢;have hC:HH.objs.size=s2.heap.objs.size+1:=by rw[← Gi,size_push]
 have zh:s2.heap.objs.size≠HH.objs.size:=by rw[hC];exact Nat.ne_of_lt (lt_succ_self _)
 have Gj:s2.heap.objs.size<=HH.objs.size:=by rw[hC];exact le_succ _
 have old:∀b o,s2.heap.get? b=some o->h₁.get? b=some o:=λb o e=>by
  have hb:b<s2.heap.objs.size:=lt_size e;exact zj.extBut b o (by rw[hC];exact Nat.ne_of_lt (lt_succ_of_lt hb)) (get?_push_of_some _ (Gi▸get?_push_of_some _ e))
 have jL:h₁.get? s2.heap.objs.size=some { cls:=.type "list",data:=.seq #[] }:=zj.extBut _ _ zh (get?_push_of_some _ (Gi▸get?_push_size _ rfl));have bL:∀b∈fp,b<s2.heap.objs.size:=λb hb=>by
  obtain⟨o,e,_⟩:=T.obj 0 _ lX b hb;exact lt_size e
 have hD:H2 s2.heap.objs.size=none:=I2.aG.fresh (Nat.le_refl _);obtain⟨W,⟨m0,w0⟩,turn⟩:=hq _ hD;have qe:tn 0 h₁:=T.keep _ _ _ lX λb _ o e=>old b o e;have I3:=S.inv I2 f2 bL (h1:=h₁) (tk:=s2.toks+([]:List (Str×Value)).length) (D:=s2.heap.objs.size) (C:=HH.objs.size) (Nat.le_refl _) Gj zh old jL (by simpa using Gh)
 -- what stays true of the iterator's objects
 have nD:∀b∈fp,b≠s2.heap.objs.size:=λb hb=>Nat.ne_of_lt (bL b hb);have qd:∀ {H':Hp},(∀b∈fp,H' b=none)->∀b∈fp,lU (gC X scope cl N HH.objs.size s2 H2 fp) [] H' b:=λ{H'} hn b hb=>by
  have ok:=S.ok I2 f2 bL Gj;refine⟨hn b hb,(ok.rL b hb).1,ok.qb b hb,.inl hb,(ok.rL b hb).2,λp hp=>absurd (show p∈([]:List (Addr×Obj)) from hp) (by simp)⟩
 have loop:∀j7:Shared,j7 = { s2 with heap:=h₁,toks:=s2.toks+([]:List (Str×Value)).length }->
   codeAny (model X.prog X.w) X.A (.compLoop (.ListComp elt [⟨tg,iter,ifs,0⟩] scope pos) 0 (.ref it) (.ref s2.heap.objs.size) (compEnvC scope cl HH.objs.size X.env)) (RR (.ref s2.heap.objs.size) HH.objs.size) j7:=by
  rintro j7 rfl;refine Z9 (λn s'=>∃i ys bf H',Inv (gC X scope cl N HH.objs.size s2 H2 fp) [] bf H' s'/\tn i s'.heap/\(∀b∈fp,H' b=none)/\W i n ys bf H') ?_ m0
   ⟨0,[],_,_,I3,qe,λb hb=>by rw[aF (nD b hb)];exact(f2 b hb).1,w0⟩
  rintro n s3 ⟨i,ys,g_,H3,J3,t3,qg,w3⟩;obtain⟨eD,hys,aae⟩:=turn i n ys g_ H3 w3;rcases aae with⟨stop,qn⟩ | ⟨go,step⟩
  ·refine aY (T.done (gC X scope cl N HH.objs.size s2 H2 fp) rfl rfl rfl hc i [] s3 g_ H3 (λ_ _=>False) J3 (qd qg) t3 stop) λr s4 ⟨hr,I4⟩=>?_;subst hr;have I5:Inv X pins σ H3 s4:=I2.yp (ch:=fp) I4.os I4.base I4.aG I4.bare λb hb=>⟨(f2 b hb).2.2.2.1,(f2 b hb).2.1,(f2 b hb).2.2.2.2.1,(f2 b hb).2.2.2.2.2⟩;obtain⟨m,hn,_⟩:=I4.loc;exact hRR _ _ s4 H3 m I5 hn Gj I4.free qn
  ·refine aY (T.item (gC X scope cl N HH.objs.size s2 H2 fp) rfl rfl rfl hc i [] s3 g_ H3 (λ_ _=>False) J3 (qd qg) t3 go) λr s4 ⟨u,hr,h4⟩=>?_;subst hr;refine aY h4 λ_ s5 ⟨x,H5,I5,r5,zz⟩=>?_;obtain⟨y5,qh,EO⟩:=zz;have ER:=I5.pinned (qd EO) (T.obj _ _ qh);refine aY (hg _ _ _ _ _ s5 g_ H5 x u _ ER r5 (step x H5 y5)) λ_ s6 ⟨oY,H6,I6,q6⟩=>?_;have OT:∀ {i_:St} {H7:Hp} {s7:Shared},Inv (gC X scope cl N HH.objs.size s2 H2 fp) ([]++uB fp s5.heap) i_ H7 s7->tn (i+1) s7.heap/\∀b∈fp,H7 b=none:=λ{i_ H7 s7} I7=>by
    refine⟨T.keep _ _ _ qh λb hb o e=>(I7.pin (b,o) (mem_append_right _ (mem_append_right _ (yD hb e)))).1,λb hb=>?_⟩;obtain⟨o,e,d⟩:=T.obj _ _ qh b hb;exact(I7.pin (b,o) (mem_append_right _ (mem_append_right _ (yD hb e)))).2.1
   refine aY (ht _ _ _ _ _ s6 oY H6 _ I6 q6) λb s7 ⟨H7,I7,q7⟩=>?_;cases b with
   | false =>
    obtain⟨m',hm,w7⟩:=q7;obtain⟨t7,n7⟩:=OT I7;exact⟨m',hm,i+1,ys,oY,H7,I7.uC,t7,n7,w7⟩
   | true =>
    refine aY (he _ _ _ _ _ s7 oY H7 _ I7 q7) λu8 s8 ⟨v8,H8,I8,r8,zz⟩=>?_;obtain⟨eD8,m',hm,w8⟩:=zz;refine aY (kQ (X:=gC X scope cl N HH.objs.size s2 H2 fp) _ s8 oY H8 (.ref s2.heap.objs.size) [v8] (.ref s2.heap.objs.size) [u8] (λ_ H9=>∃m',m' < n/\W (i+1) m' (ys++[v8]) oY H9) I8 rfl (.cons r8 .nil)
     ⟨s2.heap.objs.size,ys,v8,rfl,rfl,eD8,hys,m',hm,w8⟩) λ_ s9 ⟨_,H9,I9,_,m9,hm9,w9⟩=>?_
    obtain⟨t9,n9⟩:=OT I9;exact⟨m9,hm9,i+1,ys++[v8],oY,H9,I9.uC,t9,n9,w9⟩
 exact codeAny_compStart_list (loop _ rfl) (T.self _ 0 _ _ _ qe (loop _ rfl))
theorem jM(S:c7 X scope cl N nt fv)(hc:X.calm=true)(hi:PI X tg iter wi)
  (hg:∀C s H fp,PG (gC X scope cl N C s H fp) tg g) (ht:∀C s H fp,sf (gC X scope cl N C s H fp) ifs tt) (he:∀C s H fp,PE (gC X scope cl N C s H fp) elt te)
  (hs:∀x,foldedSetIterable iter X.env x=pure x:=by intro _;rfl):PE X (.ListComp elt [⟨tg,iter,ifs,0⟩] scope pos) (mq wi g tt te nt fv):=by
 intro pins s σ H Q I h;rw[eval_ListComp];refine wpAny_comprehension_free (use:=none) rfl hs S.mj S.kind S.names (aY (hi pins s σ H _ I h) λxv s1 h1=>aY h1 λyz s2 h2=>?_);obtain⟨it,fp,tn,J,H2,rfl,I2,T,lX,f2,hq⟩:=h2;refine OR (RR:=λacc C=>compPost (model X.prog X.w) X.A X.xe none (EP X pins σ Q) acc C) S hc hg ht he I2 T lX f2 hq λD C s' H' m' I' hn hC fC q=>?_;refine⟨m',hn,λh' gT=>⟨.ref D,H',?_,rfl,q⟩⟩;have kZ:=I2.oV hC fC;exact I'.turned (t':=s'.toks) (it:=C) (λb o hb e=>gT.extBut b o hb e) fC kZ.2.1 kZ.2.2.2.1 kZ.2.2.2.2.1 kZ.2.2.2.2.2
theorem nQ{i:Nat}{y:Str}{py OU:Pos}(hN:X.N.Nodup)(gh:X.N[i]? = some y)(hy:Loc X.env.scope y)(S:c7 X scope cl N nt fv)(hc:X.calm=true)(hi:PI X tg iter wi)
  (hg:∀C s H fp,PG (gC X scope cl N C s H fp) tg g) (ht:∀C s H fp,sf (gC X scope cl N C s H fp) ifs tt) (he:∀C s H fp,PE (gC X scope cl N C s H fp) elt te)
  (Gk:swapsWith (.ListComp elt [⟨tg,iter,ifs,0⟩] scope pos) (some (.Name y py)) OU.line X.env=pure true:=by rfl)
  (hs:∀x,foldedSetIterable iter X.env x=pure x:=by intro _;rfl) (hf:X.fn y=true\/X.env.scope.names.lookup y=some .local:=by first | exact .inl rfl | exact .inr rfl | assumption) :
  PS X (.Assign [.Name y py] (.ListComp elt [⟨tg,iter,ifs,0⟩] scope pos) OU) (uy (mq wi g tt te nt fv) (oU i)):=by
 intro pins s σ H D' I h;rw[exec_Assign_Name_used _ _ _ _ Gk];refine wpAny_bind (wpAny_standAt (wpAny_bind ?_))
 show wpAny _ _ (do let _ ← comprehension (.ListComp elt [⟨tg,iter,ifs,0⟩] scope pos) scope X.env _ (newList []) false (eval iter X.env) (some (assign (.Name y py) X.env))) _ _ s
 refine wpAny_bind (wpAny_mono (wpAny_comprehension_free (use:=some (assign (.Name y py) X.env)) (Q:=λ_ s'=>SP X pins D' .next s') rfl hs S.mj S.kind S.names
  (aY (hi pins s σ H _ I h) λxv s1 h1=>aY h1 λyz s2 h2=>?_)) (λ_ s' hq=>wpAny_pure (wpAny_pure hq)) λ_ _ e=>e)
 obtain⟨it,fp,tn,J,H2,rfl,I2,T,lX,f2,hq⟩:=h2;refine OR (RR:=λacc C=>compPost (model X.prog X.w) X.A X.xe (some (assign (.Name y py) X.env)) (λ_ s'=>SP X pins D' .next s') acc C) (Q:=λx H1=>oU i x σ H1 D'.nx) S hc hg ht he I2 T lX f2 hq λD C s' H' m' I' hn hC fC q=>?_;have kZ:=I2.oV hC fC
 show wpAny _ _ (assign (.Name y py) X.env (.ref D)) _ _ _;refine wpAny_assign_Name (Nh I' hN gh hy (v:=.ref D) rfl (λnG I'' ⟨a,hsa,ha⟩=>?_) hf);have hCa:C≠a:=by
  rcases ha with z | z
  ·rw[z];exact kZ.2.1
  ·exact λe=>kZ.2.2.2.2.1 y a z e.symm
 refine⟨m',hn.sameBut hsa hCa,λh' gT=>⟨_,H',?_,q⟩⟩;exact I''.turned (t':=nG.toks) (it:=C) (λb o hb e=>gT.extBut b o hb e) fC kZ.2.1 kZ.2.2.2.1 kZ.2.2.2.2.1 kZ.2.2.2.2.2
end
noncomputable def uY(K:Frag)(a:Addr):It :=
 ⟨λi H=>∃xs x,aE K H a xs/\xs[i]? = some x,λi H v H'=>∃T x,H T=none/\v = .ref T/\(∀xs,aE K H a xs->xs[i]? = some x)/\H' = upd H T (.tup [.int i,x]),λi H=>∃xs,aE K H a xs/\xs.length<=i⟩
theorem aaf{P:Program}{w:World}{K:Frag}{elts:List Expr}{x1}{tp:Pos}(a e it:Addr)(Gm:e≠it) :
  Turn P w K (.Tuple elts x1 tp) (uY K a) [e,it] e (λi h=>(∃old,IsEnum h e it (i:Nat) old)/\h.IsListIter it a i) where
 mem:=by simp
 obj:=λi h st b hb=>by
  obtain⟨⟨old,he⟩,o,e1,c,d⟩:=st;rcases mem_cons.mp hb with z | hb
  ·rw[z];exact⟨_,he,λv z=>by
    have z':Data.fields _=Data.cell v:=z;cases z'⟩
  ·have e2:b=it:=by simpa using hb
   rw[e2];exact⟨o,e1,λv z=>by rw[d] at z;cases z⟩
 keep:=λi h h' st k=>by
  obtain⟨⟨old,he⟩,hi⟩:=st;exact⟨⟨old,k e (by simp) _ he⟩,hi.at λo q=>k it (by simp) o q⟩
 item:=by
  intro X hP hw hK hc i pins s σ H E I hf st hg;subst hP hw hK;obtain⟨xs,x,hq,hx⟩:=hg;obtain⟨az,rv,p,hz⟩:=I.list hq;obtain⟨u,hu,ru⟩:=rv.get hx;obtain⟨⟨old,he⟩,hit⟩:=st;obtain⟨f0,f1,f2,f3,f4,f5⟩:=hf e (by simp)
  obtain⟨g0,g1,g2,g3,g4,g5⟩:=hf it (by simp)
  have OV:e<s.heap.objs.size:=lt_size he;have aag:it<s.heap.objs.size:=by obtain⟨_,z,_⟩:=hit;exact lt_size z
  refine wpAny_pyNext_enum_item he hit p.isList (x:=u) (by simpa using hu) Gm λh' ho zm hT hsz hk=>?_
  refine⟨_,rfl,?_⟩;refine wpAny_letOwnedTupleGo_enum ho λsr zo gT=>?_
  replace gT:Heap.SameBut e h' sr:=gT
  -- two records have turned,a tuple is new
  have I1:Inv X pins σ H { s with heap:=(s.heap),toks:=s.toks+1 }:=I.tok _;have kk:∀b o,b∉[e,it]->s.heap.get? b=some o->sr.get? b=some o:=λb o hb q=>by
   have h1:b≠e:=λz=>hb (by simp[z])
   have h2:b≠it:=λz=>hb (by simp[z])
   exact gT.extBut b o h1 (hk b o h1 h2 q)
  have uq:∀b v,H b=some v->b∉[e,it]:=λb v q hb=>by
   rcases mem_cons.mp hb with z | hb
   ·rw[z,f0] at q;cases q
   ·have e2:b=it:=by simpa using hb
    rw[e2,g0] at q;cases q
  have OW:H s.heap.objs.size=none:=I.aG.fresh (Nat.le_refl _);have uZ:∀b v,H b=some v->b≠s.heap.objs.size:=λb v q z=>by rw[z,OW] at q;cases q
  have aah:sr.get? s.heap.objs.size=some { cls:=.type "tuple",data:=.seq #[.int (i:Nat) s.toks,u] }:=gT.extBut _ _ (ne_of_gt OV) hT;have aiB:∃o,sr.get? e=some o:=⟨_,zo⟩;have aiC:∃o,sr.get? it=some o:=by
   obtain⟨o,q,_⟩:=zm;exact⟨o,gT.extBut _ _ (Ne.symm Gm) q⟩
  have I2:Inv X pins σ (upd H s.heap.objs.size (.tup [.int i,x])) { s with heap:=sr,toks:=s.toks+1 }:=by
   refine I.step (g':=s.gens) (d':=s.drawn) (ch:=[e,it]) (λb hb=>?_) (λb o _ _ hc q _=>kk b o hc q) (λb o _ _ hc q _=>⟨o.slots,kk b o hc q⟩) (λb o _ q n=>?_) (λb o hc q=>⟨o,kk b o hc q⟩)
    (λb ys q=>by rw[aF (uZ b _ q)];exact q) (λb o v q=>by rw[aF (uZ b _ q)];exact q) (λb ps q=>⟨#[],by rw[aF (uZ b _ q),q];simp⟩) (λm hm=>?_) (λb v q=>?_) I.bare
   ·rcases mem_cons.mp hb with z | hb
    ·rw[z];exact⟨f3,f1,f4,f5⟩
    ·have e2:b=it:=by simpa using hb
     rw[e2];exact⟨g3,g1,g4,g5⟩
   ·rw[aF (Nat.ne_of_lt (lt_size q))];exact n
   ·obtain⟨o,es,ep,q,r⟩:=hm;exact⟨o,es,ep,kk _ o (by
     intro hb;rcases mem_cons.mp hb with z | hb
     ·exact f1 z.symm
     ·exact g1 (by simpa using hb:X.env.locals=it).symm) q,r⟩
   ·by_cases hb:b=s.heap.objs.size
    ·subst hb;rw[aD] at q;cases q;refine⟨by show 2<=sizeLine;decide,[.int (i:Nat) s.toks,u],.cons ⟨_,rfl⟩ (.cons ru .nil),_,aah,rfl,_,rfl⟩
    ·rw[aF hb] at q;refine(I.aG b v q).g9 (λc o ym z=>kk c o ?_ z) (λc z=>by rw[aF (uZ c _ z)];exact z) (λc ys z=>by rw[aF (uZ c _ z)];exact z)
     rcases ym with z2 | z2
     ·rw[z2];exact uq b v q
     ·exact uq c _ z2
  refine⟨.ref s.heap.objs.size,_,I2,rfl,⟨_,x,OW,rfl,λys hy=>by rw[I.Nq hy hq];exact hx,rfl⟩,⟨⟨u,?_⟩,?_⟩,λb hb=>?_⟩
  ·have z:((i+1:Nat):Int)=(i:Int)+1:=by lia
   rw[z];exact zo
  ·exact zm.at λo q=>gT.extBut _ _ (Ne.symm Gm) q
  ·have bL:b<s.heap.objs.size:=by
    rcases mem_cons.mp hb with z | hb
    ·rw[z];exact OV
    ·rw[show b=it by simpa using hb];exact aag
   rw[aF (Nat.ne_of_lt bL)];exact(hf b hb).1
 done:=by
  intro X hP hw hK hc i pins s σ H E I hf st hg;subst hP hw hK;obtain⟨xs,hq,hx⟩:=hg;obtain⟨az,rv,p,hz⟩:=I.list hq;obtain⟨⟨old,he⟩,hit⟩:=st;obtain⟨g0,g1,g2,g3,g4,g5⟩:=hf it (by simp)
  have hl:=rv.length;exact wpAny_pyNext_enum_end (I.ok.hd hc) he hit p.isList (by simp;lia) λh' eb=>⟨rfl,I.turned (t':=s.toks) (λb o hb e=>eb b o hb e) g0 g1 g3 g4 g5⟩
 self:=λ_ _ _ _ _ st h=>by
  obtain⟨⟨old,he⟩,_⟩:=st;exact wpAny_pyIter_enum he h
section
variable{X:Cx}
noncomputable def zq(K:Frag)(ta:TA):TI:=λσ H R=>ta σ H λvs H1=>∃a,vs = [.ref a]/\(∃xs,aE K H1 a xs)/\R (uY K a) H1
theorem Gn{l:Expr}{ta:TA}{p pos tp:Pos}{elts:List Expr}{x1}(hg:Gl X "enumerate")(hm:X.mg "enumerate" = none)(hl:PA X [l] ta)(hs:autoParam (starEach [l] X.env = [(false,eval l X.env)]) jE) :
  PI X (.Tuple elts x1 tp) (.Call (.Name "enumerate" p) [l] [] pos) (zq X.K ta):=by
 intro pins s σ H R I h;refine Call_ (kJ I hg hm boot_enumerate (PyProof.Rows.callWith_type1 (aY (hl pos pins s σ H _ I h) λus s1 ⟨vs,H1,I1,r1,q1⟩=>?_) hs rfl));obtain⟨a,e,⟨xs,hq⟩,q⟩:=q1;subst e;obtain⟨u,rfl,ru⟩:=vals1 r1;cases ru;obtain⟨az,rv,p,hz⟩:=I1.list hq;refine call_enumerate_list p.isList λh' he hit hsz hk=>?_;have I2:Inv X pins σ H1 { s1 with heap:=h' }:=I1.kept (t':=s1.toks) hk;refine wpAny_pyIter_enum he ?_;have n1:H1 (s1.heap.objs.size+1)=none:=I1.aG.fresh (le_succ _);have n0:H1 s1.heap.objs.size=none:=I1.aG.fresh (Nat.le_refl _);refine⟨s1.heap.objs.size+1,[s1.heap.objs.size+1,s1.heap.objs.size],_,_,H1,rfl,I2,aaf a _ _ (Nat.succ_ne_self _),⟨⟨_,he⟩,hit⟩,λb hb=>?_,q⟩;rcases mem_cons.mp hb with z | hb
 ·rw[z];exact I1.oV (le_succ _) n1
 ·rw[show b=s1.heap.objs.size by simpa using hb];exact I1.oV (Nat.le_refl _) n0
theorem aai{K:Frag}{a:Addr}{xs:List V}{g:TG}{tb:TS}{D:Ends}{σ:St}{H:Hp}(Pv:Nat->St->Hp->Prop)(h0:Pv 0 σ H)(hl:∀i σ H,i<=xs.length->Pv i σ H->aE K H a xs)
  (hs:∀i x σ H T,xs[i]? = some x->Pv i σ H->H T=none->g (.ref T) σ (upd H T (.tup [.int i,x])) λaA H2=>tb { D with nx:=Pv (i+1),ct:=Pv (i+1),bk:=D.nx } aA H2) (hd:∀σ H,Pv xs.length σ H->D.nx σ H) :
  ∃W:Nat->Nat->St->Hp->Prop,(∃m,W 0 m σ H)/\∀i m σ H,W i m σ H->
   ((uY K a).stop i H/\D.nx σ H)\/((uY K a).go i H/\∃N:St->Hp->Prop,(∀bf H',N bf H'->∃m',m' < m/\W (i+1) m' bf H')/\∀x H',(uY K a).lT i H x H'->g x σ H' λaA H2=>tb { D with nx:=N,ct:=N,bk:=D.nx } aA H2):=by
 refine⟨λi m σ H=>m=xs.length - i/\i<=xs.length/\Pv i σ H,⟨xs.length,by simp,zero_le _,h0⟩,?_⟩
 rintro i m σ H ⟨rfl,hi,p⟩;have q:=hl i σ H hi p;by_cases bL:i<xs.length
 ·refine .inr ⟨⟨xs,xs[i],q,by simp[bL]⟩,Pv (i+1),λbf H' p'=>⟨xs.length - (i+1),∅,rfl,bL,p'⟩,λx H' y=>?_⟩
  obtain⟨T,z,hT,e,y,e2⟩:=y;subst e e2;exact hs i z σ H T (y xs q) p hT
 ·have e:i=xs.length:=by lia
  subst e;exact .inl ⟨⟨xs,q,Nat.le_refl _⟩,hd σ H p⟩
theorem aaj(hc:X.calm=true):f9 X (.builtin "sum") (λxs H Q=>∃(p:Addr) (ns:List Int),xs = [.ref p]/\aE X.K H p (ns.map V.int)/\Q (.int ns.sum) H):=by
 intro pins s σ H xs us Q I r h;obtain⟨p,ns,rfl,hq,q⟩:=h;obtain⟨u,rfl,ru⟩:=vals1 r;cases ru;obtain⟨az,rv,pl,hz⟩:=I.list hq;have hi:IntsAre az ns:=intsAre_of rv;obtain⟨xs,hx⟩:=hi.allInts.items;have hl':s.heap.IsList p (intItems xs):=hx▸pl.isList;refine sum_intListG (I.ok.hd hc) hl' λh' tk t' hk=>?_;have e1:ns=xs.toList.map (·.1):=by
  rw[← nums_intItems,← hx];exact(show numsOf az.toArray.toList=ns from hi.numsOf).symm
 have e2:preSum (numAt xs) xs.size=ns.sum:=by
  rw[preSum_eq,take_of_length_le (by simp),e1]
 rw[e2];exact⟨.int ns.sum,H,I.kept hk,⟨t',rfl⟩,q⟩
theorem aak:f9 X (.builtin "sorted") (λxs H Q=>∃(p:Addr) (ns:List Int),xs = [.ref p]/\aE X.K H p (ns.map V.int)/\ns.length<64/\
  ∀(l:Addr) (cZ:List Int),H l=none->cZ.Perm ns->cZ.Pairwise (·<=·)->Q (.ref l) (upd H l (.lst (cZ.map V.int)))):=by
 intro pins s σ H xs us Q I r h;obtain⟨p,ns,rfl,hq,fq,q⟩:=h;obtain⟨u,rfl,ru⟩:=vals1 r;cases ru;obtain⟨az,rv,pl,hz⟩:=I.list hq;have hi:IntsAre az ns:=intsAre_of rv;have hlen:=hi.length;refine sorted_ints pl.isList hi ∅ λout cZ a1 a2 a3=>?_
 obtain⟨e,he⟩:=sortedAll_at s.heap az out;have hn:H (s.heap.objs.size+1)=none:=I.aG.fresh (le_succ _);refine⟨.ref (s.heap.objs.size+1),upd H (s.heap.objs.size+1) (.lst (cZ.map V.int)),I.laid (t':=s.toks) (λb o q=>sortedAll_old q) (le_succ _) ?_,rfl,q _ cZ hn a2 a3⟩;refine⟨?_,out.toList,e,uU a1,by simpa using he⟩
 rw[length_map,a2.length_eq];exact Nat.le_trans (Nat.le_of_lt fq) (by decide)
theorem OX(hc:X.calm=true):f9 X (.builtin "min") (λxs H Q=>∃(p:Addr) (ns:List Int),xs = [.ref p]/\aE X.K H p (ns.map V.int)/\0<ns.length/\∀M,M∈ns->(∀a,a∈ns->M<=a)->Q (.int M) H):=by
 intro pins s σ H xs us Q I r h;obtain⟨p,ns,rfl,hq,h0,q⟩:=h;obtain⟨u,rfl,ru⟩:=vals1 r;cases ru;obtain⟨az,rv,pl,hz⟩:=I.list hq;have hi:IntsAre az ns:=intsAre_of rv;obtain⟨m,F⟩:=I.fr;refine min_list_N (I.ok.hd hc) F (yg (h:=s.heap)) pl.isList hi h0 λh' M t tk F' N' h1 h2=>?_;have kk:∀b o,b≠X.env.locals->s.heap.get? b=some o->h'.get? b=some o:=λb o hb e=>by
  cases q:X.base.get? b with
  | some z =>
   have:=F.keep b z q;rw[e] at this;cases this;exact F'.keep b _ q
  | none=>exact(N' (b,o) (Nf hb q e)).1
 have nl:∀b v,H b=some v->b≠X.env.locals:=λb v e z=>by rw[z,I.free] at e;cases e
 have I':Inv X pins σ H { s with heap:=h',toks:=tk }:=by
  refine I.step (g':=s.gens) (d':=s.drawn) (ch:=[]) (λ_ z=>nomatch z) (λb o hb _ _ e _=>kk b o hb e) (λb o hb _ _ e _=>⟨o.slots,kk b o hb e⟩) (λ_ _ _ _ n=>n) (λb o _ e=>?_) (λ_ _ e=>e) (λ_ _ _ e=>e)
   (λb ps e=>⟨#[],by rw[e];simp⟩) (λm' hm=>?_) (λb v e=>(I.aG b v e).g9 (λc o hc e'=>kk c o ?_ e') (λ_ e=>e) (λ_ _ e=>e)) I.bare
  ·by_cases hb:b=X.env.locals
   ·obtain⟨o',_,_,z,_⟩:=F'.ns;exact⟨o',by rw[hb];exact z⟩
   ·exact⟨o,kk b o hb e⟩
  ·have:m' = m:=by
    obtain⟨o1,es1,OY,g1,d1,k1,z1⟩:=hm;obtain⟨o2,jf,Gp,g2,d2,k2,z2⟩:=F.ns;rw[g1] at g2;cases g2;rw[d1] at d2;cases d2
    funext x
    rw[← z1 x,← z2 x]
   rw[this];exact F'.ns
  ·rcases hc with z | z
   ·rw[z];exact nl b v e
   ·exact nl c _ z
 exact⟨.int M,H,I',⟨t,rfl⟩,q M h1 h2⟩
theorem OZ:f9 X (.builtin "isinstance") (λxs H Q=>∃x T t b,xs = [x,.ty T]/\jG X.K H x t/\kitOne X.K t (.type T)=some b/\Q (.bl b) H):=by
 intro pins s σ H xs us Q I r h;obtain⟨x,T,t,b,rfl,ty,e,q⟩:=h;obtain⟨u,v,rfl,ru,rv⟩:=vals2 r;cases (show v=Value.type T from rv);exact Y7 I ru ty e λtk=>⟨.bl b,H,I.tok _,rfl,q⟩
theorem aal{A:Around}{s:Shared}{x:V}{u v:Value}(ru:RelV x u)(rv:RelV x v)(hx:∀b,x≠.lQ b)(hb:∀b,x≠.iC b):SeqAt.EqAt A s u v true:=by
 cases x with
 | aW=>cases ru;cases rv;exact SeqAt.EqAt.same _
 | bl b=>cases ru;cases rv;exact SeqAt.EqAt.same _
 | ref a=>cases ru;cases rv;exact SeqAt.EqAt.same _
 | ty n=>cases ru;cases rv;exact SeqAt.EqAt.same _
 | lQ b=>exact absurd rfl (hx b)
 | int i =>
  have:=Fg (A:=A) (s:=s) ru rv rfl rfl;rwa [show jH (V.int i) (V.int i)=true by simp[jH]] at this
 | str z =>
  have:=Fg (A:=A) (s:=s) ru rv rfl rfl;rwa [show jH (V.str z) (V.str z)=true by simp[jH]] at this
 | iC z=>exact absurd rfl (hb z)
theorem aam(hu:X.A.units<cLine):cJ X (compareOp .NotEq) (λx y H Q=>∃(a b:Addr) (xs:List V),x = .ref a/\y = .ref b/\aE X.K H a xs/\aE X.K H b xs/\(∀v∈xs,(∀b,v≠.lQ b)/\∀b,v≠.iC b)/\Q (.bl false) H):=by
 rintro pins s σ H x y v u Q I rx ry ⟨a,b,xs,rfl,rfl,ha,hb,hv,q⟩;cases rx;cases ry;obtain⟨az,r1,p1,z1⟩:=I.list ha;obtain⟨gR,r2,p2,z2⟩:=I.list hb;have l1:=r1.length;have l2:=r2.length;have e0:(!(List.range az.toArray.size).all λ_=>true)=false:=by simp
 have fin:=SeqAt.RcNeAt.lists (A:=X.A) (s:=s) (e:=λ_=>true) p1.isList p2.isList (by simp;lia) hu (λj h1 h2=>?_) X.prog X.w X.xe (EP X pins σ Q) (by rw[e0];exact⟨.bl false,H,I,rfl,q⟩)
 ·exact fin
 ·have g1:az[j]? = some az.toArray[j]:=by
   rw[getElem_toArray,getElem?_eq_getElem (by simpa using h1)]
  have g2:gR[j]? = some gR.toArray[j]:=by
   rw[getElem_toArray,getElem?_eq_getElem (by simpa using h2)]
  have hj:j<xs.length:=by rw[l1];simpa using h1
  obtain⟨u1,q1,w1⟩:=r1.get (getElem?_eq_getElem hj);obtain⟨u2,q2,w2⟩:=r2.get (getElem?_eq_getElem hj);rw[g1] at q1;cases q1;rw[g2] at q2;cases q2;exact aal w1 w2 (hv _ (getElem_mem hj)).1 (hv _ (getElem_mem hj)).2
end
noncomputable def AllP{α:Type}(P:α->Prop):List α->Prop
 | []=>True
 | a::r=>P a/\AllP P r
theorem AllP.mem{α:Type}{P:α->Prop}:∀ {l:List α},AllP P l->∀a∈l,P a
 | _::_,h,a,hm=>by
  rcases mem_cons.mp hm with rfl | hm
  ·exact h.1
  ·exact AllP.mem h.2 a hm
theorem c7.of{X:Cx}{scope:Scope}{cl:List (Str×Addr)}{N:List Str}{nt:Nat}{fv:List Nat}(mj:closureFor scope X.env=pure cl)(kind:scope.kind = .function)
  (kY:(scope.names.all λy=>y.2 != .cell)=true) (names:(scope.names.all λy=>y.2 != .local || scope.names.lookup y.1 == some .local)=true)
  (sub:AllP (λp:Str×Addr=>X.env.cells.lookup p.1=some p.2) cl) (has:(scope.names.all λy=>y.2 != .free || (cl.lookup y.1).isSome)=true)
  (free:fv.map (λj=>X.N[j]?)=(N.drop nt).map some) (fk:((N.drop nt).all λy=>scope.names.lookup y == some .free && X.env.scope.names.lookup y == some .cell)=true) (le:nt<=N.length) (nd:N.Nodup) :
  c7 X scope cl N nt fv where
 mj:=mj
 kind:=kind
 kY:=λy hy=>by have:=all_eq_true.mp kY y hy;simpa using this
 names:=λy hy hl=>by have:=all_eq_true.mp names y hy;simp[hl] at this;exact this
 sub:=sub.mem
 has:=λy hy hl=>by
  have:=all_eq_true.mp has y hy;rw[hl] at this;exact isSome_iff_exists.mp (by simpa only[bne_self_eq_false,Bool.false_or] using this)
 free:=free
 fk:=λy hy=>by have:=all_eq_true.mp fk y hy;simpa using this
 le:=le
 nd:=nd
theorem O0{CX:gO}{P:Program}{w:World}{K:Frag}{mg:Str->Option Value}{base:Heap}{N:List Str}{qual:Str}{scope:Scope}{f:Addr}{cd:Value}{A:Around}{outer:List Env}{s:Shared}{H:Hp}{E:XK} :
  (gP CX P w K mg base N qual scope f cd A outer s H E).K=K:=rfl
theorem O1{X:Cx}{E:Value->Shared->Prop}:(X.jD E).K=X.K:=rfl
theorem O2{X:Cx}{scope:Scope}{cl:List (Str×Addr)}{N:List Str}{C:Addr}{s:Shared}{H:Hp}{fp:List Addr}:(gC X scope cl N C s H fp).K=X.K:=rfl
structure Zn(H:Hp)(a:Addr)(ts:List Addr)(z:List (Int×Int)):Prop where
 l:H a=some (.lst (ts.map V.ref))
 n:ts.length=z.length
 t:∀(i:Nat) (t:Addr) (p:Int×Int),ts[i]? = some t->z[i]? = some p->H t=some (.tup [.int p.1,.int p.2])
theorem Zn.same{H H':Hp}{a:Addr}{ts:List Addr}{z:List (Int×Int)}(h:Zn H a ts z)(e:ao H H'):Zn H' a ts z:=⟨e _ _ h.l,h.n,λi t p h1 h2=>e _ _ (h.t i t p h1 h2)⟩
theorem Zn.at{H:Hp}{a:Addr}{ts:List Addr}{z:List (Int×Int)}(h:Zn H a ts z){i:Nat}{x:V}(e:(ts.map V.ref)[i]? = some x):∃t p,x = .ref t/\z[i]? = some p/\H t=some (.tup [.int p.1,.int p.2]):=by
 rw[getElem?_map] at e;cases q:ts[i]? with
 | none=>rw[q] at e;cases e
 | some t =>
  rw[q] at e;have hi:i<z.length:=by rw[← h.n];exact(List.getElem?_eq_some_iff.mp q).1
  exact⟨t,z[i],(Option.some.inj e).symm,getElem?_eq_getElem hi,h.t i t _ q (getElem?_eq_getElem hi)⟩
noncomputable def Gq(ns:List Int)(k:Int):Int:=ns.getD k.toNat 0
section
variable{K:Frag}{ta:TA}{tl:TE}{g:TG}{tb:TS}{D:Ends}{σ:St}{H:Hp}
theorem aan(n:Nat)(fL:∀Q:List V->Hp->Prop,Q [.int (n:Int)] H->ta σ H Q)(hn:n<1000000000)(Pv:Nat->St->Hp->Prop)(h0:Pv 0 σ H)
  (hs:∀i σ H,i<n->Pv i σ H->g (.int (i:Int)) σ H λaA H2=>tb { D with nx:=Pv (i+1),ct:=Pv (i+1),bk:=D.nx } aA H2) (hd:∀σ H,Pv n σ H->D.nx σ H):i9 (rR ta) g tb D σ H:=by
 refine fL _ ⟨n,rfl,∅,∅,?_⟩
 have e:((n:Int)).toNat=n:=by lia
 rw[e];refine ES Pv h0 (λi σ H hi p=>?_) hd;have e2:(0:Int)+(i:Int)=i:=by lia
 rw[e2];exact hs i σ H hi p
theorem aao(lo hi:Int)(fL:∀Q:List V->Hp->Prop,Q [.int lo,.int hi] H->ta σ H Q)(b1 : -1000000000000<lo)(b2:lo<1000000000000)(b3 : -1000000000000<hi)(b4:hi<1000000000000)(Pv:Nat->St->Hp->Prop)(h0:Pv 0 σ H)
  (hs:∀i σ H,i<(hi - lo).toNat->Pv i σ H->g (.int (lo+(i:Int))) σ H λaA H2=>tb { D with nx:=Pv (i+1),ct:=Pv (i+1),bk:=D.nx } aA H2) (hd:∀σ H,Pv (hi - lo).toNat σ H->D.nx σ H):i9 (uA ta) g tb D σ H :=
 fL _ ⟨lo,hi,rfl,⟨∅,∅,∅,∅⟩,ES Pv h0 hs hd⟩
theorem aap(a:Addr)(xs:List V)(nR:∀Q:VK,Q (.ref a) H->tl σ H Q)(dI:aE K H a xs)(Pv:Nat->St->Hp->Prop)(h0:Pv 0 σ H)(hl:∀i σ H,i<=xs.length->Pv i σ H->aE K H a xs)
  (hs:∀i x σ H,xs[i]? = some x->Pv i σ H->g x σ H λaA H2=>tb { D with nx:=Pv (i+1),ct:=Pv (i+1),bk:=D.nx } aA H2) (hd:∀σ H,Pv xs.length σ H->D.nx σ H):i9 (oX K tl) g tb D σ H :=
 nR _ ⟨a,rfl,⟨xs,dI⟩,Nz Pv h0 hl hs hd⟩
theorem aaq(a:Addr)(xs:List V)(fL:∀Q:List V->Hp->Prop,Q [.ref a] H->ta σ H Q)(dI:aE K H a xs)(Pv:Nat->St->Hp->Prop)(h0:Pv 0 σ H)(hl:∀i σ H,i<=xs.length->Pv i σ H->aE K H a xs)
  (hs:∀i x σ H T,xs[i]? = some x->Pv i σ H->H T=none->g (.ref T) σ (upd H T (.tup [.int i,x])) λaA H2=>tb { D with nx:=Pv (i+1),ct:=Pv (i+1),bk:=D.nx } aA H2) (hd:∀σ H,Pv xs.length σ H->D.nx σ H):i9 (zq K ta) g tb D σ H :=
 fL _ ⟨a,rfl,⟨xs,dI⟩,aai Pv h0 hl hs hd⟩
variable{tt:TT}{te:TE}{nt:Nat}{fv:List Nat}{Q:VK}
noncomputable def NX(n i:Nat)(P:Prop):Prop:=∃m',m' < n - i/\m' = n - (i+1)/\i+1<=n/\P
theorem NX.of{n i:Nat}{P:Prop}(hi:i<n)(p:P):NX n i P:=⟨n - (i+1),∅,rfl,hi,p⟩
theorem aar(lo hi:Int)(fL:∀Q:List V->Hp->Prop,Q [.int lo,.int hi] H->ta σ H Q)(b1 : -1000000000000<lo)(b2:lo<1000000000000)(b3 : -1000000000000<hi)(b4:hi<1000000000000)
  (Pv:Addr->Nat->List V->St->Hp->Prop) (h0:∀D,H D=none->Pv D 0 [] (jK σ nt fv) (upd H D (.lst []))) (hD:∀D i ys σ H,Pv D i ys σ H->H D=some (.lst ys)/\ys.length<sizeLine)
  (hs:∀D i ys aA H2,i<(hi - lo).toNat->Pv D i ys aA H2->g (.int (lo+(i:Int))) aA H2 λcO H4=>tt cO H4 λb H5=>if b=true then te cO H5 λv H6=>H6 D=some (.lst ys)/\NX (hi - lo).toNat i (Pv D (i+1) (ys++[v]) cO (upd H6 D (.lst (ys++[v])))) else NX (hi - lo).toNat i (Pv D (i+1) ys cO H5))
  (hd:∀D ys aA H2,Pv D (hi - lo).toNat ys aA H2->Q (.ref D) H2):mq (uA ta) g tt te nt fv σ H Q:=by
 refine fL _ ⟨lo,hi,rfl,⟨∅,∅,∅,∅⟩,λD qD=>?_⟩
 refine⟨λi m ys aA H2=>m=(hi - lo).toNat - i/\i<=(hi - lo).toNat/\Pv D i ys aA H2,⟨_,rfl,zero_le _,h0 D qD⟩,?_⟩;rintro i m ys aA H2 ⟨rfl,gh,p⟩;obtain⟨d1,d2⟩:=hD D i ys aA H2 p;refine⟨d1,d2,?_⟩;by_cases bL:i<(hi - lo).toNat
 ·refine .inr ⟨bL,λx H3 y=>?_⟩;obtain⟨e1,e2⟩:=y;subst e1 e2;exact hs D i ys aA _ bL p
 ·have e:i=(hi - lo).toNat:=by lia
  subst e;exact .inl ⟨Nat.le_refl _,hd D ys aA H2 p⟩
theorem aas(a:Addr)(xs:List V)(nR:∀Q:VK,Q (.ref a) H->tl σ H Q)(dI:aE K H a xs)
  (Pv:Addr->Nat->List V->St->Hp->Prop) (h0:∀D,H D=none->Pv D 0 [] (jK σ nt fv) (upd H D (.lst []))) (hD:∀D i ys σ H,Pv D i ys σ H->H D=some (.lst ys)/\ys.length<sizeLine/\aE K H a xs)
  (hs:∀D i x ys aA H2,xs[i]? = some x->Pv D i ys aA H2->g x aA H2 λcO H4=>tt cO H4 λb H5=>if b=true then te cO H5 λv H6=>H6 D=some (.lst ys)/\NX xs.length i (Pv D (i+1) (ys++[v]) cO (upd H6 D (.lst (ys++[v])))) else NX xs.length i (Pv D (i+1) ys cO H5))
  (hd:∀D ys aA H2,Pv D xs.length ys aA H2->Q (.ref D) H2):mq (oX K tl) g tt te nt fv σ H Q:=by
 refine nR _ ⟨a,rfl,⟨xs,dI⟩,λD qD=>?_⟩;refine⟨λi m ys aA H2=>m=xs.length - i/\i<=xs.length/\Pv D i ys aA H2,⟨_,rfl,zero_le _,h0 D qD⟩,?_⟩;rintro i m ys aA H2 ⟨rfl,gh,p⟩;obtain⟨d1,d2,d3⟩:=hD D i ys aA H2 p;refine⟨d1,d2,?_⟩;by_cases bL:i<xs.length
 ·refine .inr ⟨⟨xs,xs[i],d3,by simp[bL]⟩,λx H3 y=>?_⟩
  obtain⟨e1,e2⟩:=y;subst e1;exact hs D i x ys aA _ (e2 xs d3) p
 ·have e:i=xs.length:=by lia
  subst e;exact .inl ⟨⟨xs,d3,Nat.le_refl _⟩,hd D ys aA H2 p⟩
end
theorem gU{ns:List Int}{k:Int}(h0:0<=k)(h:k<(ns.length:Int)):dW (ns.map V.int) k=some (.int (ns.getD k.toNat 0)):=by
 have hk:k.toNat<ns.length:=by lia
 unfold dW kO;rw[if_pos h0,if_pos (by simpa using h)]
 simp[getD_eq_getElem?_getD,getElem?_eq_getElem hk]
theorem aat{ns:List Int}(h:0<ns.length):dW (ns.map V.int) (-1)=some (.int (ns.getD (ns.length - 1) 0)):=by
 have hk:ns.length - 1<ns.length:=by lia
 unfold dW kO;rw[if_neg (by decide),if_pos (by simp;lia)]
 have e:(-1+((ns.map V.int).length:Int)).toNat=ns.length - 1:=by simp;lia
 rw[e];simp[getD_eq_getElem?_getD,getElem?_eq_getElem hk]
theorem Gr(a b:String):(Str.ofString a=Str.ofString b)=(a=b):=by
 refine propext ⟨λh=>?_,λh=>by rw[h]⟩
 rw[Str.ofString_eq_toList,Str.ofString_eq_toList] at h;have h:a.toList.map Char.toNat=b.toList.map Char.toNat:=by
  injection h with h;exact toList_inj.mpr h |> λz=>by simpa using h
 have inj:∀(x y:List Char),x.map Char.toNat=y.map Char.toNat->x=y:=by
  intro x
  induction x with
  | nil=>intro y h;cases y with | nil=>rfl | cons c r=>simp at h
  | cons c r ih =>
   intro y h;cases y with
   | nil=>simp at h
   | cons d q =>
    simp only[map_cons,List.cons.injEq] at h;rw[ih q h.2,Char.toNat_inj.mp h.1]
 exact String.ext (inj _ _ h)
theorem pe(a b:String):(Str.ofString a == Str.ofString b)=(a == b):=by
 by_cases h:a=b
 ·subst h;simp
 ·have h2:¬ Str.ofString a=Str.ofString b:=by rw[Gr];exact h
  rw[beq_eq_false_iff_ne.mpr h,beq_eq_false_iff_ne.mpr h2]
structure qE(z:List (Int×Int)):Prop where
 l1:1<=z.length
 l5:z.length<=5
 r:∀p∈z,1<=p.1/\p.1<=40/\1<=p.2/\p.2<=60
 s2:2<=(z.map (·.1)).sum
 zu:(z.map (·.1)).sum<=120
noncomputable def counts(z:List (Int×Int)):List Int:=z.flatMap λp=>List.replicate p.1.toNat p.2
structure SwOk(sw:List Int)(n:Int):Prop where
 len:(sw.length:Int)=n
 two:2<=n
 z:sw.getD 0 0=0
 pos:∀i:Nat,1<=i->i<sw.length->1<=sw.getD i 0/\sw.getD i 0<=1000000000
 up:∀i:Nat,1<=i->i<sw.length->sw.getD (i - 1) 0<=sw.getD i 0
 no:∀a b:Nat,1<=a->1<=b->a+b<sw.length->sw.getD (a+b) 0<=sw.getD a 0+sw.getD b 0
noncomputable def dj(s:Int):Nat->List Int->List (Int×Int)
 | _,[]=>[]
 | r,c::cs=>(List.range (c - s).toNat).map (λ(k:Nat)=>((r:Int),(k:Int)))++dj s (r+1) cs
noncomputable def cE(rc:List Int)(s:Int):List (Int×Int):=dj s 0 rc
noncomputable def kT(p:Int×Int):List Key:=[.inl p.1,.inl p.2]
noncomputable def jN:Nat->List (Int×Int)->List (List Key×V)->List (List Key×V)
 | _,[],acc=>acc
 | i,p::r,acc=>jN (i+1) r (putK acc (kT p) (.int i))
noncomputable def Gs(z:List (Int×Int)):List (List Key×V):=jN 0 z []
theorem Gu(s:Int):∀(xs ys:List Int) (r:Nat),dj s r (xs++ys)=dj s r xs++dj s (r+xs.length) ys
 | [],ys,r=>by simp[dj]
 | x::xs,ys,r=>by
  rw[cons_append,dj,dj,Gu s xs ys (r+1),append_assoc,length_cons];congr 3;lia
theorem O3:∀(xs ys:List (Int×Int)) (i:Nat) (acc:List (List Key×V)),jN i (xs++ys) acc=jN (i+xs.length) ys (jN i xs acc)
 | [],ys,i,acc=>by simp[jN]
 | x::xs,ys,i,acc=>by
  rw[cons_append,jN,jN,O3 xs ys (i+1),length_cons];congr 1;lia
theorem O4:∀(xs:List (Int×Int)) (i:Nat) (acc:List (List Key×V)),(jN i xs acc).length<=acc.length+xs.length
 | [],i,acc=>by simp[jN]
 | x::xs,i,acc=>by
  rw[jN];have h1:=O4 xs (i+1) (putK acc (kT x) (.int i));have h2:=FF acc (kT x) (.int i);rw[length_cons];lia
theorem O5(x y:List (Int×Int)):counts (x++y)=counts x++counts y:=by simp[counts]
theorem u5:∀(z:List (Int×Int)),(∀p∈z,1<=p.1)->((counts z).length:Int)=(z.map (·.1)).sum
 | [],_=>rfl
 | p::z,h=>by
  have ih:=u5 z λp hp=>h p (mem_cons_of_mem _ hp);have h1:=h p mem_cons_self;simp only[counts,flatMap_cons,length_append,length_replicate,map_cons,List.sum_cons] at ih ⊢;lia
theorem O6{z:List (Int×Int)}(ok:qE z)(i:Nat):(counts (z.take i)).length<=120:=by
 have h0:=u5 z λp hp=>(ok.r p hp).1;have e:z=z.take i++z.drop i:=(take_append_drop i z).symm;have e2:(counts z).length=(counts (z.take i)).length+(counts (z.drop i)).length:=by
  rw[← length_append,← O5,take_append_drop]
 have:=ok.zu;lia
theorem Gv{z:List (Int×Int)}{c:Int}(h:c∈counts z):∃p∈z,c=p.2:=by
 obtain⟨p,hp,hc⟩:=mem_flatMap.mp h;exact⟨p,hp,(List.mem_replicate.mp hc).2⟩
theorem zw{s:Int}(hs:0<=s):∀(rc:List Int) (r:Nat),(∀c∈rc,0<=c/\c<=1000)->(dj s r rc).length<=1000*rc.length
 | [],_,_=>by simp[dj]
 | c::rc,r,h=>by
  have ih:=zw hs rc (r+1) λc hc=>h c (mem_cons_of_mem _ hc);have h1:=h c mem_cons_self;simp only[dj,length_append,length_map,length_range,length_cons];lia
theorem O7{s:Int}(hs:0<=s){rc:List Int}(h:∀c∈rc,0<=c/\c<=1000)(i:Nat):(dj s 0 (rc.take i)).length<=1000*rc.length:=by
 have h1:=zw hs (rc.take i) 0 λc hc=>h c (List.mem_of_mem_take hc);rw[length_take] at h1;have h2:1000*min i rc.length<=1000*rc.length:=Nat.mul_le_mul_left _ (Nat.min_le_right _ _);exact Nat.le_trans h1 h2
theorem j9:sizeLine=16777216:=by decide
theorem O8(n:Nat)(c:Int):(List.replicate n [V.int c]).flatten=(List.replicate n c).map V.int:=by
 induction n with
 | zero=>rfl
 | succ n ih=>rw[replicate_succ,flatten_cons,ih,replicate_succ,map_cons];rfl
theorem aau{α:Type}{l:List α}{i:Nat}{x:α}(h:l[i]? = some x):i<l.length:=(List.getElem?_eq_some_iff.mp h).1
theorem take_succ_get{α:Type}{l:List α}{i:Nat}{x:α}(h:l[i]? = some x):l.take (i+1)=l.take i++[x]:=by
 rw[List.take_add_one,h];rfl
theorem O9(l:List Int){i:Nat}(h:i<l.length):l[i]? = some (l.getD i 0):=by
 simp[getD_eq_getElem?_getD,getElem?_eq_getElem h]
theorem fT{α β:Type}{f:α->β}{l:List α}{i:Nat}{y:β}(h:(l.map f)[i]? = some y):∃x,l[i]? = some x/\y=f x:=by
 rw[getElem?_map] at h;cases e:l[i]? with
 | none=>rw[e] at h;cases h
 | some x=>rw[e] at h;exact⟨x,rfl,(Option.some.inj h).symm⟩
theorem get_mem{α:Type}{l:List α}{i:Nat}{x:α}(h:l[i]? = some x):x∈l:=mem_of_getElem? h
theorem e8{α:Type}{l:List α}{i:Nat}{x:α}(h:l[i]? = some x):i<l.length:=(List.getElem?_eq_some_iff.mp h).1
theorem ao.put{H:Hp}{a:Addr}{o:HO}(h:H a=none):ao H (upd H a o):=λb u e=>by rw[aF (bX e h)];exact e
theorem ao.put2{H H':Hp}{a:Addr}{o:HO}(s:ao H H')(h:H a=none):ao H (upd H' a o):=λb u e=>by rw[aF (bX e h)];exact s b u e
theorem Zn.sq{K:Frag}{H:Hp}{a:Addr}{ts:List Addr}{z:List (Int×Int)}(h:Zn H a ts z):aE K H a (ts.map V.ref):=aE.of h.l
section
variable{X:Cx}{K:Frag}
theorem gW(h:X.K=K):qu X (yW K):=h▸je
theorem Gw(h:X.K=K):qu X (yV K):=h▸iL
end
section
variable{K:Frag}{ta:TA}{tl:TE}{g:TG}{tb:TS}{D:Ends}{σ:St}{H:Hp}
theorem rl(a:Addr)(xs:List V)(Pv:Nat->St->Hp->Prop)(nR:∀Q:VK,Q (.ref a) H->tl σ H Q)(dI:aE K H a xs)(h0:Pv 0 σ H)(hl:∀i σ H,i<=xs.length->Pv i σ H->aE K H a xs)
  (hs:∀i x σ H (N:St->Hp->Prop),(∀σ H,Pv (i+1) σ H->N σ H)->xs[i]? = some x->Pv i σ H->g x σ H λaA H2=>tb { D with nx:=N,ct:=N,bk:=D.nx } aA H2) (hd:∀σ H,Pv xs.length σ H->D.nx σ H):i9 (oX K tl) g tb D σ H :=
 aap a xs nR dI Pv h0 hl (λi x σ H hx p=>hs i x σ H _ (λ_ _ z=>z) hx p) hd
theorem Gx(n:Nat)(Pv:Nat->St->Hp->Prop)(fL:∀Q:List V->Hp->Prop,Q [.int (n:Int)] H->ta σ H Q)(hn:n<1000000000)(h0:Pv 0 σ H)
  (hs:∀i σ H (N:St->Hp->Prop),(∀σ H,Pv (i+1) σ H->N σ H)->i<n->Pv i σ H->g (.int (i:Int)) σ H λaA H2=>tb { D with nx:=N,ct:=N,bk:=D.nx } aA H2) (hd:∀σ H,Pv n σ H->D.nx σ H):i9 (rR ta) g tb D σ H :=
 aan n fL hn Pv h0 (λi σ H hx p=>hs i σ H _ (λ_ _ z=>z) hx p) hd
theorem u6(lo hi:Int)(Pv:Nat->St->Hp->Prop)(fL:∀Q:List V->Hp->Prop,Q [.int lo,.int hi] H->ta σ H Q)(b1 : -1000000000000<lo)(b2:lo<1000000000000)(b3 : -1000000000000<hi)(b4:hi<1000000000000)(h0:Pv 0 σ H)
  (hs:∀i σ H (N:St->Hp->Prop),(∀σ H,Pv (i+1) σ H->N σ H)->i<(hi - lo).toNat->Pv i σ H->g (.int (lo+(i:Int))) σ H λaA H2=>tb { D with nx:=N,ct:=N,bk:=D.nx } aA H2) (hd:∀σ H,Pv (hi - lo).toNat σ H->D.nx σ H):i9 (uA ta) g tb D σ H :=
 aao lo hi fL b1 b2 b3 b4 Pv h0 (λi σ H hx p=>hs i σ H _ (λ_ _ z=>z) hx p) hd
theorem u7(n:Int)(Pv:Nat->St->Hp->Prop)(fL:∀Q:List V->Hp->Prop,Q [.int n] H->ta σ H Q)(O_ : -1000000000000<n)(hn:n<1000000000000)(h0:Pv 0 σ H)
  (hs:∀i σ H (N:St->Hp->Prop),(∀σ H,Pv (i+1) σ H->N σ H)->i<n.toNat->Pv i σ H->g (.int (i:Int)) σ H λaA H2=>tb { D with nx:=N,ct:=N,bk:=D.nx } aA H2) (hd:∀σ H,Pv n.toNat σ H->D.nx σ H):i9 (rR ta) g tb D σ H:=by
 refine fL _ ⟨n,rfl,∅,∅,?_⟩
 refine ES Pv h0 (λi σ H hi p=>?_) hd;have e2:(0:Int)+(i:Int)=i:=by lia
 rw[e2];exact hs i σ H _ (λ_ _ z=>z) hi p
theorem re(a:Addr)(xs:List V)(Pv:Nat->St->Hp->Prop)(fL:∀Q:List V->Hp->Prop,Q [.ref a] H->ta σ H Q)(dI:aE K H a xs)(h0:Pv 0 σ H)(hl:∀i σ H,i<=xs.length->Pv i σ H->aE K H a xs)
  (hs:∀i x σ H T (N:St->Hp->Prop),(∀σ H,Pv (i+1) σ H->N σ H)->xs[i]? = some x->Pv i σ H->H T=none->g (.ref T) σ (upd H T (.tup [.int i,x])) λaA H2=>tb { D with nx:=N,ct:=N,bk:=D.nx } aA H2) (hd:∀σ H,Pv xs.length σ H->D.nx σ H):i9 (zq K ta) g tb D σ H :=
 aaq a xs fL dI Pv h0 hl (λi x σ H T hx p hT=>hs i x σ H T _ (λ_ _ z=>z) hx p hT) hd
noncomputable def su(K:Frag)(a:Addr)(g:TG)(tb:TS)(D:Ends)(σ:St)(H:Hp):Prop:=(∃xs,aE K H a xs)/\∃W:Nat->Nat->St->Hp->Prop,(∃m,W 0 m σ H)/\∀i m σ H,W i m σ H->
 ((oW K a).stop i H/\D.nx σ H)\/((oW K a).go i H/\∃N:St->Hp->Prop,(∀bf H',N bf H'->∃m',m' < m/\W (i+1) m' bf H')/\∀x H',(oW K a).lT i H x H'->g x σ H' λaA H2=>tb { D with nx:=N,ct:=N,bk:=D.nx } aA H2)
theorem Gy(h:tl σ H λx H1=>∃a,x = .ref a/\su K a g tb D σ H1):i9 (oX K tl) g tb D σ H:=h
theorem su.by(a:Addr)(xs:List V)(Pv:Nat->St->Hp->Prop)(dI:aE K H a xs)(h0:Pv 0 σ H)(hl:∀i σ H,i<=xs.length->Pv i σ H->aE K H a xs)
  (hs:∀i x σ H (N:St->Hp->Prop),(∀σ H,Pv (i+1) σ H->N σ H)->xs[i]? = some x->Pv i σ H->g x σ H λaA H2=>tb { D with nx:=N,ct:=N,bk:=D.nx } aA H2) (hd:∀σ H,Pv xs.length σ H->D.nx σ H):su K a g tb D σ H :=
 ⟨⟨xs,dI⟩,Nz Pv h0 hl (λi x σ H hx p=>hs i x σ H _ (λ_ _ z=>z) hx p) hd⟩
variable{tt:TT}{te:TE}{nt:Nat}{fv:List Nat}{Q:VK}
theorem aav(lo hi:Int)(Pv:Addr->Nat->List V->St->Hp->Prop)(fL:∀Q:List V->Hp->Prop,Q [.int lo,.int hi] H->ta σ H Q)(b1 : -1000000000000<lo)(b2:lo<1000000000000)(b3 : -1000000000000<hi)(b4:hi<1000000000000)
  (h0:∀D,H D=none->Pv D 0 [] (jK σ nt fv) (upd H D (.lst []))) (hD:∀D i ys σ H,Pv D i ys σ H->H D=some (.lst ys)/\ys.length<sizeLine)
  (hs:∀D i ys aA H2 (N:List V->St->Hp->Prop),(∀ys σ H,Pv D (i+1) ys σ H->N ys σ H)->i<(hi - lo).toNat->Pv D i ys aA H2->g (.int (lo+(i:Int))) aA H2 λcO H4=>tt cO H4 λb H5=>if b=true then te cO H5 λv H6=>H6 D=some (.lst ys)/\N (ys++[v]) cO (upd H6 D (.lst (ys++[v]))) else N ys cO H5)
  (hd:∀D ys aA H2,Pv D (hi - lo).toNat ys aA H2->Q (.ref D) H2):mq (uA ta) g tt te nt fv σ H Q :=
 aar lo hi fL b1 b2 b3 b4 Pv h0 hD (λD i ys aA H2 hi p=>hs D i ys aA H2 _ (λ_ _ _ z=>NX.of hi z) hi p) hd
theorem jO(a:Addr)(xs:List V)(Pv:Addr->Nat->List V->St->Hp->Prop)(nR:∀Q:VK,Q (.ref a) H->tl σ H Q)(dI:aE K H a xs)
  (h0:∀D,H D=none->Pv D 0 [] (jK σ nt fv) (upd H D (.lst []))) (hD:∀D i ys σ H,Pv D i ys σ H->H D=some (.lst ys)/\ys.length<sizeLine/\aE K H a xs)
  (hs:∀D i x ys aA H2 (N:List V->St->Hp->Prop),(∀ys σ H,Pv D (i+1) ys σ H->N ys σ H)->xs[i]? = some x->Pv D i ys aA H2->g x aA H2 λcO H4=>tt cO H4 λb H5=>if b=true then te cO H5 λv H6=>H6 D=some (.lst ys)/\N (ys++[v]) cO (upd H6 D (.lst (ys++[v]))) else N ys cO H5)
  (hd:∀D ys aA H2,Pv D xs.length ys aA H2->Q (.ref D) H2):mq (oX K tl) g tt te nt fv σ H Q :=
 aas a xs nR dI Pv h0 hD (λD i x ys aA H2 hx p=>hs D i x ys aA H2 _ (λ_ _ _ z=>NX.of (List.getElem?_eq_some_iff.mp hx).1 z) hx p) hd
end
theorem pq{K:Frag}{H:Hp}{σ:St}{t:Addr}{x y:V}{n i j:Nat}{Q:St->Hp->Prop}(h:bg K H t [x,y])(hn:2=n)(q:Q ((σ.set i (some x)).set j (some y)) H):uw K n (uv (oU i) (uv (oU j) yy)) (.ref t) σ H Q :=
 ⟨t,[x,y],rfl,h,hn,x,[y],rfl,y,[],rfl,rfl,q⟩
theorem lenZ{ts:List Addr}{z:List (Int×Int)}(h:ts.length=z.length):(ts.map V.ref).length=z.length:=by simpa using h
theorem Zn.snoc{H:Hp}{l p:Addr}{ts:List Addr}{z:List (Int×Int)}(h:Zn H l ts z)(hp:H p=none)(a b:Int):Zn (upd (upd H p (.tup [.int a,.int b])) l (.lst (ts.map V.ref++[V.ref p]))) l (ts++[p]) (z++[(a,b)]):=by
 have Pa:l≠p:=bX h.l hp;refine⟨by rw[aD,map_append];rfl,by simp[h.n],λi t q e1 e2=>?_⟩
 have hn:=h.n;by_cases hi:i<ts.length
 ·rw[getElem?_append_left hi] at e1;rw[getElem?_append_left ∅] at e2
  have ht:=h.t i t q e1 e2;rw[aF (iD ht h.l (by intro z;cases z)),aF (bX ht hp)]
  exact ht
 ·rw[getElem?_append_right ∅] at e1
  rw[getElem?_append_right ∅] at e2
  have dD:i - ts.length=0:=by
   have:=aau e1;simp at this;lia
  rw[dD] at e1;rw[← hn,dD] at e2;simp at e1 e2;subst e1 e2;rw[aF Pa.symm,aD]
noncomputable def aaw(t:TS):TS:=λD σ H=>∃M:St->Hp->Prop,t { D with nx:=M } σ H/\∀dU H1,M dU H1->D.nx dU H1
theorem aax{X:Cx}{st:Stmt}{t:TS}(h:PS X st t):PS X st (aaw t):=by
 rintro pins s σ H D I ⟨M,hM,k⟩;refine aY (h pins s σ H _ I hM) λf s1 q=>?_;cases f with
 | next=>obtain⟨dU,H1,I1,q⟩:=q;exact⟨dU,H1,I1,k _ _ q⟩
 | brk=>exact q
 | cont=>exact q
 | ret u=>exact q
noncomputable def aay(K:Frag):Sp:=λvs H Q _=>∃(a:Addr) (ts:List Addr) (z:List (Int×Int)),vs = [.ref a]/\Zn H a ts z/\qE z/\∀H',ao H H'->Q .aW H'
noncomputable def aaz(K:Frag):Sp:=λvs H Q _=>∃(a:Addr) (ts:List Addr) (z:List (Int×Int)) (aP cK:Int),vs = [.ref a,.int aP,.int cK]/\Zn H a ts z/\qE z/\1<=aP/\aP<=1000000000/\0<=cK/\cK<aP/\
 (∀p∈z,aP % p.2=0)/\Q .aW H
noncomputable def aaA(K:Frag):Sp:=λvs H Q _=>∃(a:Addr) (sw:List Int) (n:Int),vs = [.ref a,.int n]/\aE K H a (sw.map V.int)/\SwOk sw n/\n<=1000/\Q .aW H
noncomputable def aaB(K:Frag):Sp:=λvs H Q _=>∃(a:Addr) (sw:List Int) (n:Int),vs = [.ref a]/\aE K H a (sw.map V.int)/\SwOk sw n/\n<=1000/\Q .aW H
noncomputable def aaC(K:Frag):Sp:=λvs H Q _=>∃(a:Addr) (ts:List Addr) (z:List (Int×Int)),vs = [.ref a]/\Zn H a ts z/\qE z/\
 ∀l H',ao H H'->H l=none->H' l=some (.lst ((counts z).map V.int))->Q (.ref l) H'
noncomputable def aaD(K:Frag):Sp:=λvs H Q _=>∃(a:Addr) (rc:List Int) (s:Int),vs = [.ref a,.int s]/\aE K H a (rc.map V.int)/\rc.length<=1000/\(∀c∈rc,0<=c/\c<=1000)/\0<=s/\s<=1000/\
 ∀l ts H',ao H H'->H l=none->(∀t∈ts,H t=none)->Zn H' l ts (cE rc s)->Q (.ref l) H'
noncomputable def aaE(K:Frag):Sp:=λvs H Q _=>∃(a:Addr) (ts:List Addr) (z:List (Int×Int)),vs = [.ref a]/\Zn H a ts z/\z.length<=1000000/\
 ∀d H',ao H H'->H d=none->H' d=some (.dT (Gs z))->Q (.ref d) H'
structure Pl where
 rc:List Int
 aP:Int
 cK:Int
 sw:List Int
 nc:List (Int×Int)
structure CP(K:Frag)(C:Addr):Prop where
 cl:fH K C
 n1:cC K C "ring_cells"
 n2:cC K C "lap"
 n3:cC K C "skew"
 n4:cC K C "swing"
 n5:cC K C "number_cells"
 n6:cC K C "cell_numbers"
noncomputable def qF(a1:Addr)(aP cK:Int)(a2 a3 a4:Addr):List (Str×V):=[("ring_cells",.ref a1),("lap",.int aP),("skew",.int cK),("swing",.ref a2),("number_cells",.ref a3),("cell_numbers",.ref a4)]
structure nT(K:Frag)(C:Addr)(H:Hp)(p:Addr)(P:Pl)(dx a1 a2 a3 a4:Addr)(ts:List Addr)(fs:List (Str×V)):Prop where
 cp:CP K C
 o:H p=some (.ins C dx fs)
 f1:fs.lookup ("ring_cells" : Str)=some (.ref a1)
 f2:fs.lookup ("lap" : Str)=some (.int P.aP)
 f3:fs.lookup ("skew" : Str)=some (.int P.cK)
 f4:fs.lookup ("swing" : Str)=some (.ref a2)
 f5:fs.lookup ("number_cells" : Str)=some (.ref a3)
 f6:fs.lookup ("cell_numbers" : Str)=some (.ref a4)
 m1:fs.lookup ("rings" : Str)=none
 m2:fs.lookup ("total" : Str)=none
 m3:fs.lookup ("cells_of" : Str)=none
 m4:fs.lookup ("beats_of" : Str)=none
 m5:fs.lookup ("lap_beats" : Str)=none
 m6:fs.lookup ("begins" : Str)=none
 m7:fs.lookup ("swing_of" : Str)=none
 m8:fs.lookup ("has_cell" : Str)=none
 m9:fs.lookup ("cell_at" : Str)=none
 sy:fs.lookup ("number_of" : Str)=none
 sD:fs.lookup ("laid" : Str)=none
 rc:H a1=some (.lst (P.rc.map V.int))
 sw:H a2=some (.lst (P.sw.map V.int))
 nc:Zn H a3 ts P.nc
 cn:H a4=some (.dT (Gs P.nc))
theorem nT.lit{K:Frag}{C:Addr}{H:Hp}{p:Addr}{P:Pl}{dx a1 a2 a3 a4:Addr}{ts:List Addr}(cp:CP K C)(o:H p=some (.ins C dx (qF a1 P.aP P.cK a2 a3 a4)))(rc:H a1=some (.lst (P.rc.map V.int)))(sw:H a2=some (.lst (P.sw.map V.int)))
  (nc:Zn H a3 ts P.nc) (cn:H a4=some (.dT (Gs P.nc))):nT K C H p P dx a1 a2 a3 a4 ts (qF a1 P.aP P.cK a2 a3 a4):=by
 refine⟨cp,o,?_,?_,?_,?_,?_,?_,?_,?_,?_,?_,?_,?_,?_,?_,?_,?_,?_,rc,sw,nc,cn⟩ <;> simp[qF,lookup_cons,pe]
noncomputable def eK(K:Frag)(C:Addr)(H:Hp)(p:Addr)(P:Pl)(fp:List Addr):Prop:=∃dx a1 a2 a3 a4 ts fs,fp=a1::a2::a3::a4::ts/\nT K C H p P dx a1 a2 a3 a4 ts fs
theorem Zn.keep{H H':Hp}{a:Addr}{ts:List Addr}{z:List (Int×Int)}(h:Zn H a ts z)(ha:H' a=H a)(ht:∀t∈ts,H' t=H t):Zn H' a ts z :=
 ⟨ha.trans h.l,h.n,λi t p e1 e2=>(ht t (mem_of_getElem? e1)).trans (h.t i t p e1 e2)⟩
theorem Zn.has{H:Hp}{a:Addr}{ts:List Addr}{z:List (Int×Int)}(h:Zn H a ts z){t:Addr}(ht:t∈ts):∃o,H t=some o:=by
 obtain⟨i,hi,rfl⟩:=mem_iff_getElem.mp ht;have hz:i<z.length:=by rw[← h.n];exact hi
 exact⟨_,h.t i _ _ (getElem?_eq_getElem hi) (getElem?_eq_getElem hz)⟩
section
variable{K:Frag}{C:Addr}{H H':Hp}{p x:Addr}{P:Pl}{fp:List Addr}
theorem nT.move{dx a1 a2 a3 a4:Addr}{ts:List Addr}{fs:List (Str×V)}(h:nT K C H p P dx a1 a2 a3 a4 ts fs)(ho:H' p=H p)(h1:H' a1=H a1)(h2:H' a2=H a2)(h3:H' a3=H a3)(h4:H' a4=H a4)(ht:∀t∈ts,H' t=H t):nT K C H' p P dx a1 a2 a3 a4 ts fs :=
 { h with o:=ho.trans h.o,rc:=h1.trans h.rc,sw:=h2.trans h.sw,nc:=h.nc.keep h3 ht,cn:=h4.trans h.cn }
theorem eK.keep(h:eK K C H p P fp)(hp:H' p=H p)(e:∀b∈fp,H' b=H b):eK K C H' p P fp:=by
 obtain⟨dx,a1,a2,a3,a4,ts,fs,rfl,h⟩:=h;exact⟨dx,a1,a2,a3,a4,ts,fs,rfl,h.move hp (e a1 (by simp)) (e a2 (by simp)) (e a3 (by simp)) (e a4 (by simp)) λt ht=>e t (by simp[ht])⟩
theorem eK.has(h:eK K C H p P fp){b:Addr}(hb:b∈fp):∃o,H b=some o:=by
 obtain⟨qG,a1,a2,a3,a4,ts,fs,rfl,h⟩:=h;simp only[mem_cons] at hb;rcases hb with rfl | rfl | rfl | rfl | hb
 ·exact⟨_,h.rc⟩
 ·exact⟨_,h.sw⟩
 ·exact⟨_,h.nc.l⟩
 ·exact⟨_,h.cn⟩
 ·exact h.nc.has hb
theorem eK.here(h:eK K C H p P fp):∃o,H p=some o:=by
 obtain⟨qG,a1,a2,a3,a4,ts,fs,rfl,h⟩:=h;exact⟨_,h.o⟩
theorem eK.same(h:eK K C H p P fp)(s:ao H H'):eK K C H' p P fp:=by
 refine h.keep ?_ λb hb=>?_
 ·obtain⟨o,e⟩:=h.here;rw[e];exact s _ _ e
 ·obtain⟨o,e⟩:=h.has hb;rw[e];exact s _ _ e
noncomputable def SameBut(x:Addr)(H H':Hp):Prop:=∀b o,H b=some o->b≠x->H' b=some o
theorem SameBut.put{o:HO}(s:SameBut x H H'):SameBut x H (upd H' x o):=λb u e h=>by rw[aF h];exact s b u e h
theorem SameBut.step{H1 H2:Hp}(s:SameBut x H H1)(t:ao H1 H2):SameBut x H H2:=λb u e h=>t _ _ (s b u e h)
theorem SameBut.start{o:HO}:SameBut x H (upd H x o):=λb u e h=>by rw[aF h];exact e
theorem SameBut.of(s:ao H H'):SameBut x H H':=λb u e _=>s _ _ e
end
noncomputable def aaF(K:Frag):Sp:=λvs H Q _=>∃(C p dx za sa:Addr) (iM:List Addr) (z:List (Int×Int)) (aP cK:Int) (sw:List Int),vs = [.ref p,.ref za,.int aP,.int cK,.ref sa]/\CP K C/\H p=some (.ins C dx [])/\Zn H za iM z/\qE z/\
 1<=aP/\aP<=1000000000/\0<=cK/\cK<aP/\(∀p∈z,aP % p.2=0)/\aE K H sa (sw.map V.int)/\SwOk sw (z.map (·.1)).sum/\
 ∀H' dx a1 a2 a3 a4 ts,SameBut p H H'->(∀b∈a1::a2::a3::a4::ts,H b=none)->H' p=some (.ins C dx (qF a1 aP cK a2 a3 a4))->nT K C H' p ⟨counts z,aP,cK,sw,cE (counts z) 0⟩ dx a1 a2 a3 a4 ts (qF a1 aP cK a2 a3 a4)->Q .aW H'
noncomputable def aaG(K:Frag):Sp:=λvs H Q _=>∃(C p:Addr) (P:Pl) (fp:List Addr),vs = [.ref p]/\eK K C H p P fp/\Q (.int P.rc.length) H
noncomputable def aaH(K:Frag):Sp:=λvs H Q _=>∃(C p:Addr) (P:Pl) (fp:List Addr) (r c:Int),vs = [.ref p,.int r,.int c]/\eK K C H p P fp/\Q (.bl (decide (0<=r/\r<P.rc.length/\0<=c/\c<P.rc.getD r.toNat 0))) H
noncomputable def aaI(K:Frag):Sp:=λvs H Q _=>∃(C p:Addr) (P:Pl) (fp:List Addr) (k:Int),vs = [.ref p,.int k]/\eK K C H p P fp/\0<=k/\k<P.nc.length/\∀t q,P.nc[k.toNat]? = some q->H t=some (.tup [.int q.1,.int q.2])->Q (.ref t) H
noncomputable def dO(z:List (Int×Int)):Int:=z.foldl (λp x=>p*x.2) 1
theorem range_getD{f:Nat->Int}{n i:Nat}(h:i<n):((List.range n).map f).getD i 0=f i:=by
 simp[getD_eq_getElem?_getD,h]
theorem aaJ{L:Int}(h:1<=L)(h8:L<=100000000){ns:List Int}(hb:∀x∈ns,L<=x/\x<=2*L)(hp:ns.Pairwise (·<=·))(h1:1<=ns.length):SwOk (0::ns) ((ns.length+1:Nat):Int):=by
 have at_:∀i:Nat,1<=i->i<(0::ns).length->∃hi:i - 1<ns.length,(0::ns).getD i 0=ns[i - 1]:=λi h1 hi=>by
  obtain⟨j,rfl⟩:∃j,i=j+1:=⟨i - 1,∅⟩
  have hj:j<ns.length:=by simpa using hi
  exact⟨hj,by simp[getD_eq_getElem?_getD,getElem?_eq_getElem hj]⟩
 refine⟨by simp,∅,rfl,λi h1 hi=>?_,λi h1 hi=>?_,λa b ha eX gF=>?_⟩
 ·obtain⟨hj,e⟩:=at_ i h1 hi;have:=hb _ (getElem_mem hj);rw[e];lia
 ·obtain⟨hj,e⟩:=at_ i h1 hi;rw[e];by_cases h2:i=1
  ·subst h2;have:=hb _ (getElem_mem hj)
   show (0:Int)<=_;lia
  ·obtain⟨hj2,e2⟩:=at_ (i - 1) ∅ ∅
   rw[e2];exact pairwise_iff_getElem.mp hp _ _ hj2 hj ∅
 ·obtain⟨h1,e1⟩:=at_ (a+b) ∅ gF
  obtain⟨h2,e2⟩:=at_ a ha ∅
  obtain⟨h3,e3⟩:=at_ b eX ∅
  have:=hb _ (getElem_mem h1);have:=hb _ (getElem_mem h2);have:=hb _ (getElem_mem h3);rw[e1,e2,e3];lia
structure ZL(z:List (Int×Int)):Prop where
 ok:qE z
 pr:dO z<=32768
 sm:(z.map (·.1)).sum<=15
theorem prodF(z:List (Int×Int)):∀p:Int,z.foldl (λp x=>p*x.2) p=p*dO z:=by
 induction z with
 | nil=>intro p;simp[dO]
 | cons x z ih =>
  intro p;rw[dO,foldl_cons,foldl_cons,ih,ih (1*x.2),one_mul,Int.mul_assoc]
theorem Gz(x:Int×Int)(z:List (Int×Int)):dO (x::z)=x.2*dO z:=by
 rw[dO,foldl_cons,prodF,one_mul]
theorem aaK(x:Int×Int)(z:List (Int×Int)):dO (z++[x])=dO z*x.2:=by
 rw[dO,List.foldl_append];rfl
theorem zx{m:Int}(hm:1<=m):∀z:List (Int×Int),(∀p∈z,1<=p.2/\p.2<=m)->1<=dO z/\dO z<=m ^ z.length
 | [],_=>by simp[dO]
 | x::z,h=>by
  have ih:=zx hm z λp hp=>h p (mem_cons_of_mem _ hp);have hx:=h x mem_cons_self;rw[Gz,length_cons,pow_succ,Int.mul_comm (m ^ z.length)];constructor
  ·have:=mul_le_mul hx.1 ih.1 (by decide) ∅
   lia
  ·exact mul_le_mul hx.2 ih.2 ∅ ∅
theorem Pb{x:Int×Int}:∀ {z:List (Int×Int)},x∈z->x.2 ∣ dO z
 | y::z,h=>by
  rw[Gz];rcases mem_cons.mp h with rfl | h
  ·exact Int.dvd_mul_right _ _
  ·exact Int.dvd_trans (Pb h) (Int.dvd_mul_left _ _)
theorem Pc{m:Int}(hm:1<=m){a b:Nat}(h:a<=b):m ^ a<=m ^ b:=by
 induction h with
 | refl=>exact Int.le_refl _
 | @step b h ih =>
  rw[pow_succ];have h1:1<=m ^ b:=by
   clear ih h
   induction b with
   | zero=>simp
   | succ b ih =>
    rw[pow_succ];have:=mul_le_mul ih hm (by decide) ∅
    lia
  have:=mul_le_mul (Int.le_refl (m ^ b)) hm (by decide) ∅
  lia
theorem ite_no{c A B:Prop}[Decidable c](h:¬ c)(b:B):if c then A else B:=by rw[if_neg h];exact b
theorem ite_yes{c A B:Prop}[Decidable c](h:c)(a:A):if c then A else B:=by rw[if_pos h];exact a
structure Pd(K:Frag)(C:Addr)(m:Str)(f:Addr):Prop where
 ga:W.specialIn K (.ref C) "__getattribute__" = some (some (.builtin "type.__getattribute__"))
 rd:W.readsIn K C (.type "type")=true
 at_:W.findCls K (.ref C) (.type "type") m=some (.val (.ref f))
 kp:keepIn K (.ref f)=true
section
variable{X:Cx}{CX:gO}{k:Nat}{f C:Addr}{fd:FuncData}{ps:List Str}{sp:Sp}{cF:List V}{ds:List Value}{E:XK}{x m:Str}{p pos apos:Pos}{e:Expr}{es:List Expr}{t:TA}
theorem aaL{pl:Sem Bool}(hg:Gl X x)(hm:X.mg x=some (.ref C))(c:Pd X.K C m f)(F:bq X.prog X.w X.K X.mg X.base CX k f fd ps sp)(hr:bZ k X.A)(hb:Binds X.K fd ps ds)(hd:Vals cF ds)(hx:Passes CX X E)(ha:PA X (e::es) t)
  (c_:starEach (e::es) X.env=(false,eval e X.env)::starEach es X.env:=by rfl) (dN:(backTo pos (starEach es X.env)).any (·.1)=false:=by rfl) (gc:(x == ("__debug__" : Str))=false:=by decide)
  (ht:eval (.Call (.Attribute (.Name x p) m apos) (e::es) [] pos) X.env=(do
   let ov ← eval (.Name x p) X.env
   standAt apos.atName
   let (f,first) ← holding [ov] (getMethod ov m pl)
   callWith pos f first (backTo pos (starEach (e::es) X.env)) (backToKw pos (keywordEach [] X.env))):=by rfl) :
  PE X (.Call (.Attribute (.Name x p) m apos) (e::es) [] pos) (uH sp cF E t):=by
 intro pins s σ H Q I h;refine W.methodCall_KW (pl:=pl) (nC I hg hm ?_ gc) ht;refine W.method_cls I.cI c.ga (W.cls_value I.cI c.rd c.at_ rfl ?_);have I':=I.tok (s.toks+1);refine callWith_K (first:=[]) (h₀:=X.base) I.ok.mod.jZ c.kp (aY (ha pos pins _ σ H _ I' h) λus s2 ⟨vs,H2,I2,r,q2⟩=>⟨I2.cI,?_⟩) c_ dN
 exact uJ (us:=us) (vs:=vs) F hr hb hd hx I2 r q2
end
section
variable{X:Cx}
end
section
variable{X:Cx}{pins:List (Addr×Obj)}{σ:St}{H:Hp}{s:Shared}
end
section
variable{X:Cx}
end
section
variable{K:Frag}{ta:TA}{g:TG}{D:Ends}{σ:St}{H:Hp}{tt:TT}{te:TE}{nt:Nat}{fv:List Nat}{Q:VK}
theorem rcE(a:Addr)(xs:List V)(Pv:Addr->Nat->List V->St->Hp->Prop)(fL:∀Q:List V->Hp->Prop,Q [.ref a] H->ta σ H Q)(dI:aE K H a xs)
  (h0:∀D,H D=none->Pv D 0 [] (jK σ nt fv) (upd H D (.lst []))) (hD:∀D i ys σ H,Pv D i ys σ H->H D=some (.lst ys)/\ys.length<sizeLine/\aE K H a xs)
  (hs:∀D i x ys aA H2 T (N:List V->St->Hp->Prop),(∀ys σ H,Pv D (i+1) ys σ H->N ys σ H)->xs[i]? = some x->Pv D i ys aA H2->H2 T=none->g (.ref T) aA (upd H2 T (.tup [.int i,x])) λcO H4=>tt cO H4 λb H5=>if b=true then te cO H5 λv H6=>H6 D=some (.lst ys)/\N (ys++[v]) cO (upd H6 D (.lst (ys++[v]))) else N ys cO H5)
  (hd:∀D ys aA H2,Pv D xs.length ys aA H2->Q (.ref D) H2):mq (zq K ta) g tt te nt fv σ H Q:=by
 refine fL _ ⟨a,rfl,⟨xs,dI⟩,λD qD=>?_⟩;refine⟨λi m ys aA H2=>m=xs.length - i/\i<=xs.length/\Pv D i ys aA H2,⟨_,rfl,zero_le _,h0 D qD⟩,?_⟩;rintro i m ys aA H2 ⟨rfl,gh,p⟩;obtain⟨d1,d2,d3⟩:=hD D i ys aA H2 p;refine⟨d1,d2,?_⟩;by_cases bL:i<xs.length
 ·refine .inr ⟨⟨xs,xs[i],d3,by simp[bL]⟩,λx H3 y=>?_⟩
  obtain⟨T,z,hT,e1,e2,e3⟩:=y;subst e1 e3;exact hs D i z ys aA H2 T (λys σ H=>NX xs.length i (Pv D (i+1) ys σ H)) (λ_ _ _ q=>NX.of bL q) (e2 xs d3) p hT
 ·have e:i=xs.length:=by lia
  subst e;exact .inl ⟨⟨xs,d3,Nat.le_refl _⟩,hd D ys aA H2 p⟩
end
theorem GA{X:Cx}{K:Frag}{pos:Pos}{es:List Expr}{k n:Nat}{t:oR}(hK:X.K=K)(hc:X.calm=true)(h:rP X es t)(hn:autoParam ((assignEach es X.env).length=n) jE)(c_:autoParam ((assignEach es X.env).findIdx? (·.1)=none) jE):PG X (.Tuple es k pos) (uw K n t):=hK▸kM hc h hn c_
noncomputable def GB(cs:List Addr)(m:Str)(sp:Sp)(cF:List V)(E:XK)(ta:TE)(t:TA):TE:=λσ H Q=>ta σ H λx H1=>∃C a dx fs,x = .ref a/\H1 a=some (.ins C dx fs)/\C∈cs/\fs.lookup m=none/\t σ H1 λvs H2=>sp (x::(vs++cF)) H2 Q E
section
variable{X:Cx}{CX:gO}{k:Nat}{f:Addr}{cs:List Addr}{fd:FuncData}{ps:List Str}{sp:Sp}{cF:List V}{ds:List Value}{E:XK}{m:Str}{pos apos:Pos}{o e:Expr}{es:List Expr}{ta:TE}{t:TA}
theorem Pe{pl:Sem Bool}(ho:PE X o ta)(hc:∀C∈cs,fH X.K C/\Meth X.K C m f)(F:bq X.prog X.w X.K X.mg X.base CX k f fd ps sp)(hr:bZ k X.A)(hb:Binds X.K fd ps ds)(hd:Vals cF ds)(hx:Passes CX X E)(ha:PA X (e::es) t)
  (c_:starEach (e::es) X.env=(false,eval e X.env)::starEach es X.env:=by rfl) (dN:(backTo pos (starEach es X.env)).any (·.1)=false:=by rfl)
  (hev:eval (.Call (.Attribute o m apos) (e::es) [] pos) X.env=(do
   let ov ← eval o X.env
   standAt apos.atName
   let (f,first) ← holding [ov] (getMethod ov m pl)
   callWith pos f first (backTo pos (starEach (e::es) X.env)) (backToKw pos (keywordEach [] X.env))):=by rfl):PE X (.Call (.Attribute o m apos) (e::es) [] pos) (GB cs m sp cF E ta t):=by
 intro pins s σ H Q I h;refine W.methodCall_KW (pl:=pl) (aY (ho pins s σ H _ I h) λu s1 hz=>?_) hev;obtain⟨x,H1,I1,rx,C,a,dx,fs,ex,ea,hC,hl,q⟩:=hz;subst ex;cases (show u=Value.ref a from rx);obtain⟨c1,c2⟩:=hc C hC;refine yL I1 ea c1 c2 hl (callWith_K (first:=[.ref a]) (h₀:=X.base) I.ok.mod.jZ c2.kp (aY (ha pos pins s1 σ H1 _ I1 q) λus s2 hw=>?_) c_ dN)
 obtain⟨vs,H2,I2,r,q2⟩:=hw;exact⟨I2.cI,uJ (us:=.ref a::us) (vs:=.ref a::vs) F hr hb hd hx I2 (.cons rfl r) q2⟩
end
theorem Pf{p q:Int×Int}(h:kT p=kT q):p=q:=by
 unfold kT at h;simp only[List.cons.injEq,Sum.inl.injEq,and_true] at h;exact Prod.ext h.1 h.2
theorem Pg{s:Int}:∀ {rc:List Int} {r:Nat} {q:Int×Int},q∈dj s r rc↔∃j:Nat,j<rc.length/\q.1=((r+j:Nat):Int)/\0<=q.2/\q.2<rc.getD j 0 - s
 | [],r,q=>by simp[dj]
 | c::rc,r,q=>by
  rw[dj,mem_append,Pg (rc:=rc) (r:=r+1)];constructor
  ·rintro(h | ⟨j,h1,h2,h3,h4⟩)
   ·obtain⟨k,hk,rfl⟩:=mem_map.mp h;rw[mem_range] at hk;exact⟨0,by simp,by simp,by dsimp only;lia,by simp only[List.getD_cons_zero];lia⟩
   ·exact⟨j+1,by simpa using h1,by rw[h2];congr 1;lia,h3,by simpa using h4⟩
  ·rintro⟨j,h1,h2,h3,h4⟩;cases j with
   | zero =>
    left;refine mem_map.mpr ⟨q.2.toNat,mem_range.mpr ?_,?_⟩
    ·simp only[List.getD_cons_zero] at h4;lia
    ·refine Prod.ext ?_ ?_
     ·rw[h2];simp
     ·dsimp only;lia
   | succ j =>
    right;exact⟨j,by simpa using h1,by rw[h2];congr 1;lia,h3,by simpa using h4⟩
theorem Ph{s:Int}:∀(rc:List Int) (r:Nat),(dj s r rc).Nodup
 | [],r=>nodup_nil
 | c::rc,r=>by
  rw[dj,nodup_append];refine⟨?_,Ph rc (r+1),?_⟩
  ·rw[nodup_iff_pairwise_ne,pairwise_map];refine Pairwise.imp ?_ (nodup_iff_pairwise_ne.mp nodup_range);intro a b h e;simp at e;lia
  ·intro x hx y hy e;subst e;obtain⟨k,_,rfl⟩:=mem_map.mp hx;obtain⟨j,_,h2,_⟩:=Pg.mp hy;simp at h2;lia
noncomputable def jg(kvs:List (List Key×V)):Nat->List (Int×Int)->List Int
 | _,[]=>[]
 | i,q::z=>if (cG kvs (kT q)).isSome=true then(i:Int)::jg kvs (i+1) z else jg kvs (i+1) z
theorem GC(kvs:List (List Key×V)):∀(z:List (Int×Int)) (i:Nat) (q:Int×Int),jg kvs i (z++[q])=jg kvs i z++(if (cG kvs (kT q)).isSome=true then [((i+z.length:Nat):Int)] else [])
 | [],i,q=>by simp[jg]
 | x::z,i,q=>by
  rw[cons_append,jg,jg,GC kvs z (i+1) q];have e:i+1+z.length=i+(x::z).length:=by simp;lia
  rw[e];split <;> simp
theorem GD(kvs:List (List Key×V)):∀(z:List (Int×Int)) (i:Nat),(jg kvs i z).length<=z.length
 | [],i=>by simp[jg]
 | x::z,i=>by
  have:=GD kvs z (i+1);rw[jg];split <;> simp <;> lia
noncomputable def aaM(K:Frag):Sp:=λvs H Q _=>∃(a:Addr) (rc:List Int) (s:Int),vs = [.int s,.ref a]/\aE K H a (rc.map V.int)/\0<rc.length/\0<=s/\(∀c∈rc,s<c)/\Q .aW H
noncomputable def dX(z:List (Int×Int)):List (List Key×V):=z.map λq=>(kT q,V.bl true)
theorem u9{z:List (Int×Int)}{q:Int×Int}(h:q∉z):cG (dX z) (kT q)=none:=by
 induction z with
 | nil=>rfl
 | cons x z ih =>
  rw[dX,map_cons,jJ,← dX,ih λm=>h (mem_cons_of_mem _ m)];intro e;exact h (Pf e▸mem_cons_self)
theorem Pj{z:List (Int×Int)}{q:Int×Int}(h:q∈z):cG (dX z) (kT q)=some (.bl true):=by
 induction z with
 | nil=>cases h
 | cons x z ih =>
  by_cases e:x=q
  ·subst e;rw[dX,map_cons,j6 rfl]
  ·rw[dX,map_cons,jJ (λz=>e (Pf z)),← dX];exact ih ((mem_cons.mp h).resolve_left λz=>e z.symm)
noncomputable def aaN(K:Frag)(cs:List Addr):Sp:=λvs H Q _=>∃(C p ba:Addr) (P:Pl) (fp eL:List Addr) (bz:List (Int×Int)),vs = [.ref p,.ref ba]/\C∈cs/\eK K C H p P fp/\Zn H ba eL bz/\bz.length<=1000000/\bz.Nodup/\
 (∀q∈bz,0<=q.1/\q.1<P.rc.length/\0<=q.2/\q.2<P.rc.getD q.1.toNat 0)/\∀d H',ao H H'->H d=none->H' d=some (.dT (dX bz))->Q (.ref d) H'
noncomputable def aaO(K:Frag):Sp:=λvs H Q _=>∃(a d:Addr) (ts:List Addr) (z:List (Int×Int)) (kvs:List (List Key×V)),vs = [.ref a,.ref d]/\Zn H a ts z/\z.length<=1000000/\H d=some (.dT kvs)/\
 ∀l H',ao H H'->H l=none->H' l=some (.lst ((jg kvs 0 z).map V.int))->Q (.ref l) H'
noncomputable def GF(K:Frag)(C:Addr)(H:Hp)(p:Addr)(P:Pl)(fp:List Addr)(mv:Addr)(ms:List V):Prop :=
 ∃dx a1 a2 a3 a4 ts fs,fp=a1::a2::a3::a4::ts/\nT K C H p P dx a1 a2 a3 a4 ts fs/\cC K C "moves"/\fs.lookup ("moves" : Str)=some (.ref mv)/\H mv=some (.lst ms)
theorem GF.aaP{K:Frag}{C:Addr}{H:Hp}{p:Addr}{P:Pl}{fp:List Addr}{mv:Addr}{ms:List V}(h:GF K C H p P fp mv ms):eK K C H p P fp:=by
 obtain⟨dx,a1,a2,a3,a4,ts,fs,e,h,_⟩:=h;exact⟨dx,a1,a2,a3,a4,ts,fs,e,h⟩
section
variable{K:Frag}{C:Addr}{H H':Hp}{p:Addr}{P:Pl}{fp:List Addr}{mv:Addr}{ms:List V}
end
section
variable{H H':Hp}{a:Addr}{ts:List Addr}{z:List (List Int)}
theorem Zn.start{l:Addr}:Zn (upd H l (.lst [])) l [] []:=⟨aD,rfl,λi t r e=>by simp at e⟩
end
section
variable{ta:TA}{g:TG}{tt:TT}{te:TE}{nt:Nat}{fv:List Nat}{Q:VK}{σ:St}{H:Hp}
theorem qH(n:Int)(Pv:Addr->Nat->List V->St->Hp->Prop)(fL:∀Q:List V->Hp->Prop,Q [.int n] H->ta σ H Q)(b1 : -1000000000000<n)(b2:n<1000000000000)
  (h0:∀D,H D=none->Pv D 0 [] (jK σ nt fv) (upd H D (.lst []))) (hD:∀D i ys σ H,Pv D i ys σ H->H D=some (.lst ys)/\ys.length<sizeLine)
  (hs:∀D i ys aA H2 (N:List V->St->Hp->Prop),(∀ys σ H,Pv D (i+1) ys σ H->N ys σ H)->i<n.toNat->Pv D i ys aA H2->g (.int (i:Int)) aA H2 λcO H4=>tt cO H4 λb H5=>if b=true then te cO H5 λv H6=>H6 D=some (.lst ys)/\N (ys++[v]) cO (upd H6 D (.lst (ys++[v]))) else N ys cO H5)
  (hd:∀D ys aA H2,Pv D n.toNat ys aA H2->Q (.ref D) H2):mq (rR ta) g tt te nt fv σ H Q:=by
 refine fL _ ⟨n,rfl,∅,∅,λD qD=>?_⟩
 refine⟨λi m ys aA H2=>m=n.toNat - i/\i<=n.toNat/\Pv D i ys aA H2,⟨_,rfl,zero_le _,h0 D qD⟩,?_⟩;rintro i m ys aA H2 ⟨rfl,gh,p⟩;obtain⟨d1,d2⟩:=hD D i ys aA H2 p;refine⟨d1,d2,?_⟩;by_cases bL:i<n.toNat
 ·refine .inr ⟨bL,λx H3 y=>?_⟩;obtain⟨e1,e2⟩:=y;subst e1 e2;have e2:(0:Int)+(i:Int)=i:=by lia
  rw[e2];exact hs D i ys aA _ _ (λ_ _ _ z=>NX.of bL z) bL p
 ·have e:i=n.toNat:=by lia
  subst e;exact .inl ⟨Nat.le_refl _,hd D ys aA H2 p⟩
end
section
variable{α:Type}{lt:α->α->Prop}
noncomputable def par(i:Nat):Nat:=(i - 1) / 2
noncomputable def put(f:Nat->α)(k:Nat)(x:α):Nat->α:=λi=>if i=k then x else f i
end
theorem zy:∀a:List Int,¬ _H.lexLt a a=true
 | []=>by simp[_H.lexLt]
 | x::a=>by simpa[_H.lexLt] using zy a
theorem GG:∀a b c:List Int,_H.lexLt a b=true->_H.lexLt b c=true->_H.lexLt a c=true
 | [],b,[],h1,h2=>by cases b <;> simp[_H.lexLt] at h1 h2
 | [],b,z::c,h1,h2=>by simp[_H.lexLt]
 | x::a,[],c,h1,h2=>by simp[_H.lexLt] at h1
 | x::a,y::b,[],h1,h2=>by simp[_H.lexLt] at h2
 | x::a,y::b,z::c,h1,h2=>by
  simp only[_H.lexLt] at h1 h2 ⊢;by_cases e1:x=y
  ·rw[if_pos e1] at h1;by_cases e2:y=z
   ·rw[if_pos e2] at h2;rw[if_pos ∅];exact GG a b c h1 h2
   ·rw[if_neg e2] at h2;simp at h2;rw[if_neg ∅];simp;lia
  ·rw[if_neg e1] at h1;simp at h1;by_cases e2:y=z
   ·rw[if_neg ∅];simp;lia
   ·rw[if_neg e2] at h2;simp at h2;rw[if_neg ∅];simp;lia
theorem Pk:∀a b:List Int,_H.lexLt a b=true\/a=b\/_H.lexLt b a=true
 | [],[]=>.inr (.inl rfl)
 | [],_::_=>.inl rfl
 | _::_,[]=>.inr (.inr rfl)
 | x::a,y::b=>by
  simp only[_H.lexLt,List.cons.injEq];by_cases e:x=y
  ·subst e;simpa using Pk a b
  ·rw[if_neg e,if_neg (λz=>e z.symm)];simp;lia
noncomputable abbrev Th:=Int×List Int×Int
noncomputable def GH(a b:Th):Prop:=a.1<b.1\/(a.1=b.1/\(_H.lexLt a.2.1 b.2.1=true\/(a.2.1=b.2.1/\a.2.2<b.2.2)))
section
open PySem.SeqAt PySem.MeetsSeq PySem.MeetsSeq2 PySem.MeetsSeq3
open PySem.AutoSeq1 (wpAny_loadPart')
theorem aaQ(l:Addr)(az:Array Value)(c:Nat)(x:Value)(e:Nat->Bool)(j:Nat)(hj:j<az.size)(hit:e j=true)(uN:az.size<=sizeLine)(k:Nat) :
  ∀i:Nat,j - i=k->i<=j->(∀m,i<=m->m<j->e m=false)->Meets (Builtin.«list.remove.loop» ⟨[.ref l,x,rawInt i],[]⟩)
   (λA R s=>s.heap.get? l=some { cls:=.type "list",dict:=none,data:=.seq az c,slots := #[] }/\(∀(m:Nat) (hm:m<az.size),EqAt A.in1 s az[m] x (e m))/\
    R (.ok (.ret .none)) { s with heap:=s.heap.update l (Obj.mapSeq λys=>ys.eraseIdxIfInBounds j)}):=by
 induction k with
 | zero =>
  intro i hk jh iJ prog w A R s ⟨hl,he,h⟩;obtain⟨hp,g,d,tk,os⟩:=s;obtain rfl:i=j:=by lia
  wp_walk using wpAny_loadPart' hl;rw[show az[((i:Nat):Int).toNat]? = some az[i] by simp[hj]]
  refine wpAny_bind (he i hj prog w _ _ ?_);rw[hit];have cL:(az.eraseIdxIfInBounds i).size<=sizeLine+1:=Nat.le_trans (size_erased az i) ∅
  wp_walk using(wpAny_updateSeq hl rfl (hz:=uN) (_hz':=cL)),wpAny_loadPart' hl;simpa using h
 | succ k ih =>
  intro i hk jh iJ prog w A R s ⟨hl,he,h⟩;obtain⟨hp,g,d,tk,os⟩:=s;have bL:i<az.size:=by lia
  wp_walk using wpAny_loadPart' hl;rw[show az[((i:Nat):Int).toNat]? = some az[i] by simp[bL]]
  refine wpAny_bind (he i bL prog w _ _ ?_);rw[iJ i (Nat.le_refl i) ∅]
  wp_walk;rw[show ((i:Int)+1)=((i+1:Nat):Int) by push_cast;rfl]
  refine⟨plainId_quiet plain_remove_loop _,codeAny_builtin entry_remove_loop ?_⟩;rw[Around.under_plainId plain_remove_loop _];exact ih (i+1) ∅ ∅ (λm h1 h2=>iJ m ∅ h2) prog w A R _ ⟨hl,he,h⟩
theorem aaR(l:Addr)(az:Array Value)(c:Nat)(x:Value)(e:Nat->Bool)(j:Nat)(hj:j<az.size)(hit:e j=true)(iJ:∀m,m<j->e m=false)(uN:az.size<=sizeLine) :
  Meets (Builtin.«list.remove» ⟨[.ref l,x],[]⟩)
   (λA R s=>s.heap.get? l=some { cls:=.type "list",dict:=none,data:=.seq az c,slots := #[] }/\(∀(m:Nat) (hm:m<az.size),EqAt A.in1 s az[m] x (e m))/\
    R (.ok (.ret .none)) { s with heap:=s.heap.update l (Obj.mapSeq λys=>ys.eraseIdxIfInBounds j)}):=by
 intro prog w A R s ⟨hl,he,h⟩;obtain⟨hp,g,d,tk,os⟩:=s;wp_walk using wpAny_loadPart' hl;refine⟨plainId_quiet plain_remove_loop _,codeAny_builtin entry_remove_loop ?_⟩;rw[Around.under_plainId plain_remove_loop _];exact aaQ l az c x e j hj hit uN _ 0 rfl (zero_le _) (λm _ h2=>iJ m h2) prog w A R _ ⟨hl,he,h⟩
end
section
variable{prog:Program}{w:World}{A:Around}{E:Value->Shared->Prop}{s:Shared}
noncomputable def nU(h h':Heap):Prop:=∀b o,h.get? b=some o->h'.get? b=some o
theorem aaS{R:Result->Shared->Prop}{h0:Heap}{l I S:Addr}{vs:List Value}(bt:Nat->Nat->Bool)(hh:A.handled=none)(hl:h0.IsList l vs.toArray)(hI:h0.get? I=none)(u_:h0.get? S=none)(jP:S≠I)
  (cmp:∀(i j:Nat) (u v:Value) (h:Heap) (tk:Nat) (Q E:Value->Shared->Prop),vs[i]? = some u->vs[j]? = some v->nU h0 h->Q (.bool (bt i j)) { s with heap:=h,toks:=tk }->
   wpAny (model prog w) A.in1 (richCompare .Lt u v) Q E { s with heap:=h,toks:=tk })
  (hR:∀v h' tk,vs[argBest bt (vs.length - 1)]? = some v->nU h0 h'->R (.ok (.ret v)) { s with heap:=h',toks:=tk }) :
  ∀(k j:Nat) (h:Heap) (tk:Nat) (vb:Value) (c:Nat),vs.length - (j+1)=k->j+1<=vs.length->nU h0 h->(h.IsListIter I l (j+1)/\h.IsList l vs.toArray)->vs[argBest bt j]? = some vb->
   h.get? S=some { cls:=.type "list",dict:=none,data:=.seq #[vb,vb] c,slots := #[] }->
   codeAny (model prog w) A (.builtin "min.loop" ⟨[.ref I,.none,.ref S],[]⟩) R { s with heap:=h,toks:=tk }:=by
 have nm:(toString "min" ++ toString ".loop" : String) = "min.loop" := by decide
 obtain⟨ol,nW,_⟩:=id hl;have lI:l≠I:=λz=>by rw[z,hI] at nW;cases nW
 have lS:l≠S:=λz=>by rw[z,u_] at nW;cases nW
 have nI:∀b o,h0.get? b=some o->b≠I:=λb o e z=>by rw[z,hI] at e;cases e
 have nS:∀b o,h0.get? b=some o->S≠b:=λb o e z=>by rw[← z,u_] at e;cases e
 have W:=Walks.list (prog:=prog) (w:=w) (A:=A.in1) hh I l lI vs.toArray;have hsz:vs.toArray.size=vs.length:=size_toArray ..;intro k
 induction k with
 | zero =>
  intro j h tk vb c hk hj K st hb hS;have ji:j+1=vs.length:=by lia
  refine codeAny_builtin entry_min_loop ?_;rw[Around.under_plainId plain_min_loop _];show wpAny _ A.in1 (seqItems? (.ref S) >>= _) _ _ _;refine wpAny_bind (wpAny_seqItems hS rfl ?_);show wpAny _ A.in1 (tryCatch (pyNext (.ref I)) _ >>= _) _ _ _;refine wpAny_bind (wpAny_tryCatch (W.done _ _ _ (by rw[hsz,← ji];exact st) λh' pA fU=>?_))
  have jj:=fU S _ (by simpa using jP) hS
  show wpAny _ A.in1 (updateSeq S (λ_ => #[]) >>= _) _ _ _;refine wpAny_bind ?_;refine wpAny_updateSeq jj rfl (wpAny_bind (wpAny_letGo (wpAny_pure (hR vb _ _ (by rw[← ji];exact hb) λb o e=>?_))))
  exact(get?_update_other _ _ (nS b o e)).trans (fU b o (by simpa using nI b o e) (K b o e))
 | succ k ih =>
  intro j h tk vb c hk hj K st hb hS;have bL:j+1<vs.length:=by lia
  refine codeAny_builtin entry_min_loop ?_;rw[Around.under_plainId plain_min_loop _];show wpAny _ A.in1 (seqItems? (.ref S) >>= _) _ _ _;refine wpAny_bind (wpAny_seqItems hS rfl ?_);show wpAny _ A.in1 (tryCatch (pyNext (.ref I)) _ >>= _) _ _ _;refine wpAny_bind (wpAny_tryCatch (W.item (j+1) _ _ _ (by rw[hsz];exact bL) st λv h' pA hP h_ fU=>?_))
  have hv:vs[j+1]? = some v:=by simpa using hP
  have jj:=fU S _ (by simpa using jP) hS
  have K':nU h0 h':=λb o e=>fU b o (by simpa using nI b o e) (K b o e)
  show wpAny _ A.in1 (tryCatch (holding [v,v] (richCompare .Lt v vb >>= _)) _ >>= _) _ _ _;refine wpAny_bind (wpAny_tryCatch (wpAny_holding (wpAny_bind (cmp (j+1) (argBest bt j) v vb h' pA _ _ hv hb K' ?_))));refine wpAny_bind (wpAny_holding (wpAny_truthy_bool (wpAny_bind (wpAny_letGo (wpAny_pure ?_)))));cases vc:bt (j+1) (argBest bt j) with
  | true =>
   simp only[if_true];refine wpAny_bind ?_;refine wpAny_updateSeq jj rfl (wpAny_bind (wpAny_letGo ?_));rw[nm];refine wpAny_pure ⟨plainId_quiet plain_min_loop _,ih (j+1) _ pA v _ ∅ bL (λb o e=>(get?_update_other _ _ (nS b o e)).trans (K' b o e)) (W.frame _ _ _ h_ λb eX o e=>?_)
    (by simp only[argBest,vc,if_true];exact hv) (get?_update_self _ jj rfl)⟩
   refine(get?_update_other _ _ (λz:S=b=>?_)).trans e;rcases mem_cons.mp eX with q | q
   ·exact jP (z.trans q)
   ·exact lS ((z.trans (mem_singleton.mp q)).symm)
  | false =>
   simp only[false_eq_true,if_false];refine wpAny_bind (wpAny_letGo ?_);rw[nm];exact wpAny_pure ⟨plainId_quiet plain_min_loop _,ih (j+1) h' pA vb c ∅ bL K' h_ (by simp only[argBest,vc,false_eq_true,if_false];exact hb) jj⟩
theorem aaT{l:Addr}{vs:List Value}{Q:Value->Shared->Prop}(bt:Nat->Nat->Bool)(hh:A.handled=none)(hl:s.heap.IsList l vs.toArray)(dJ:0<vs.length)
  (cmp:∀(i j:Nat) (u v:Value) (h:Heap) (tk:Nat) (Q E:Value->Shared->Prop),vs[i]? = some u->vs[j]? = some v->nU s.heap h->Q (.bool (bt i j)) { s with heap:=h,toks:=tk }->
   wpAny (model prog w) A.in1 (richCompare .Lt u v) Q E { s with heap:=h,toks:=tk })
  (hQ:∀v h' tk,vs[argBest bt (vs.length - 1)]? = some v->nU s.heap h'->Q v { s with heap:=h',toks:=tk }) :
  wpAny (model prog w) A (call (.builtin "min") [.ref l]) Q E s:=by
 have nm:(toString "min" ++ toString ".loop" : String) = "min.loop" := by decide
 have n0:∀k,s.heap.objs.size<=k->s.heap.get? k=none:=λk hk=>by
  cases q:s.heap.get? k with
  | none=>rfl
  | some o=>exact absurd (Nat.lt_of_lt_of_le (lt_size q) hk) (Nat.lt_irrefl _)
 obtain⟨ol,nW,_⟩:=id hl;have ll:=lt_size nW;have hsz:vs.toArray.size=vs.length:=size_toArray ..;refine call_function_tree PySem.F.kind_min PySem.F.plain_min PySem.F.entry_min (PySem.F.args_min1 _) ?_
 show wpAny _ A.in1 (Builtin.Builtins.bindParams "min" ["key", "default"] 0 ⟨[],[]⟩ >>= _) _ _ _;refine wpAny_bind (wpAny_of_eq (show Builtin.Builtins.bindParams "min" ["key", "default"] 0 ⟨[],[]⟩=pure [none,none] from rfl) (wpAny_bind (wpAny_pure ?_)));refine wpAny_bind (wpAny_pyIter_list hl ?_);refine wpAny_bind (wpAny_newList ?_ (zero_le _));rw[nm];refine wpAny_pure ⟨plainId_quiet plain_min_loop _,?_⟩;have hI:s.heap.get? s.heap.objs.size=none:=n0 _ (Nat.le_refl _);generalize GI:s.heap.push { cls:=.type "list_iterator",data:=.fields #[.ref l,.int 0 0] }=h1;have z1:h1.objs.size=s.heap.objs.size+1:=by rw[← GI];simp[Heap.push]
 generalize Pn:h1.push { cls:=.type "list",data:=.seq ([]:List Value).toArray }=h2;have K1:nU s.heap h1:=λb o e=>by rw[← GI];exact get?_push_of_some _ e
 have K2:nU h1 h2:=λb o e=>by rw[← Pn];exact get?_push_of_some _ e
 have K:nU s.heap h2:=λb o e=>K2 b o (K1 b o e);have hS:s.heap.get? h1.objs.size=none:=n0 _ ∅
 have jP:h1.objs.size≠s.heap.objs.size:=by lia
 have lI:l≠s.heap.objs.size:=Nat.ne_of_lt ll;have lS:l≠h1.objs.size:=Nat.ne_of_lt (Nat.lt_of_lt_of_le ll (by rw[z1];exact le_succ _))
 have W:=Walks.list (prog:=prog) (w:=w) (A:=A.in1) hh s.heap.objs.size l lI vs.toArray;have it1:h1.IsListIter s.heap.objs.size l 0:=by rw[← GI];exact⟨_,get?_push_size _ rfl,rfl,rfl⟩
 have vd:h2.IsListIter s.heap.objs.size l 0/\h2.IsList l vs.toArray:=W.frame 0 _ _ ⟨it1,hl.at λo e=>K1 _ _ e⟩ λb _ o e=>K2 b o e;have oS:h2.get? h1.objs.size=some { cls:=.type "list",dict:=none,data:=.seq #[] 0,slots := #[] }:=by rw[← Pn];exact get?_push_size _ rfl
 refine codeAny_builtin entry_min_loop ?_;rw[Around.under_plainId plain_min_loop _];show wpAny _ A.in1 (seqItems? (.ref h1.objs.size) >>= _) _ _ _;refine wpAny_bind (wpAny_seqItems oS rfl ?_);show wpAny _ A.in1 (tryCatch (pyNext (.ref s.heap.objs.size)) _ >>= _) _ _ _;refine wpAny_bind (wpAny_tryCatch (W.item 0 _ _ _ (by rw[hsz];exact dJ) vd λv h' pA hP h_ fU=>?_))
 have jj:=fU h1.objs.size _ (by simpa using jP) oS
 have nI:∀b o,s.heap.get? b=some o->b≠s.heap.objs.size:=λb o e=>Nat.ne_of_lt (lt_size e);have nS:∀b o,s.heap.get? b=some o->h1.objs.size≠b:=λb o e=>ne_of_gt (Nat.lt_of_lt_of_le (lt_size e) (by rw[z1];exact le_succ _))
 show wpAny _ A.in1 (updateSeq h1.objs.size (λ_ => #[v,v]) >>= _) _ _ _;refine wpAny_bind ?_;refine wpAny_updateSeq jj rfl ?_;rw[nm];refine wpAny_pure ⟨plainId_quiet plain_min_loop _,aaS (s:=s) bt hh hl hI hS jP cmp (λv' h3 tk3 e K3=>hQ v' h3 tk3 e K3) _ 0 _ pA v _ rfl dJ
  (λb o e=>(get?_update_other _ _ (nS b o e)).trans (fU b o (by simpa using nI b o e) (K b o e))) (W.frame _ _ _ h_ λb eX o e=>?_) (by simpa[argBest] using hP) (get?_update_self _ jj rfl)⟩
 refine(get?_update_other _ _ (λz:h1.objs.size=b=>?_)).trans e;rcases mem_cons.mp eX with q | q
 ·exact jP (z.trans q)
 ·exact lS ((z.trans (mem_singleton.mp q)).symm)
end
noncomputable def Po(H:Hp)(a:Addr)(t:Th):Prop:=∃p,H a=some (.tup [.int t.1,.ref p,.int t.2.2])/\H p=some (.tup (t.2.1.map V.int))
theorem GJ:∀ {ns ms:List Int},ns.map V.int=ms.map V.int->ns=ms
 | [],[],_=>rfl
 | [],_::_,h=>by cases h
 | _::_,[],h=>by cases h
 | a::r,b::q,h=>by
  rw[map_cons,map_cons] at h;injection h with h1 h2;injection h1 with h1;rw[h1,GJ h2]
noncomputable instance (a b:Th):Decidable (GH a b):=by unfold GH;infer_instance
section
variable{X:Cx}{pins:List (Addr×Obj)}{σ:St}{H:Hp}{s:Shared}
theorem GK(I:Inv X pins σ H s){A:Around}(hu:A.units+1<cLine){p q:Addr}{ns ms:List Int}(h:H p=some (.tup (ns.map V.int)))(h':H q=some (.tup (ms.map V.int))):SeqAt.EqAt A s (.ref p) (.ref q) (decide (ns=ms)):=by
 by_cases e:p=q
 ·subst e;have:ns=ms:=by
   have z:=h.symm.trans h';injection z with z;injection z with z;exact GJ z
  rw[decide_eq_true this];exact .same _
 ·refine .of_refs e ?_;obtain⟨az,r1,q1,_⟩:=I.tuple (bg.of (K:=X.K) h);obtain⟨gR,r2,q2,_⟩:=I.tuple (bg.of (K:=X.K) h');have l1:ns.length=az.length:=by have:=r1.length;simpa using this
  have l2:ms.length=gR.length:=by have:=r2.length;simpa using this
  have e0:((List.range (min az.toArray.size gR.toArray.size)).all (λj=>decide (ns[j]? = ms[j]?)) && az.toArray.size == gR.toArray.size)=decide (ns=ms):=by
   rw[Bool.eq_iff_iff];simp only[and_eq_true,all_eq_true,mem_range,decide_eq_true_eq,beq_iff_eq,size_toArray];constructor
   ·rintro⟨h1,h2⟩;refine List.ext_getElem? λj=>?_
    by_cases hj:j<min az.length gR.length
    ·exact h1 j hj
    ·rw[getElem?_eq_none ∅,getElem?_eq_none ∅]
   ·rintro rfl;exact⟨λ_ _=>rfl,∅⟩
  have fin:=SeqAt.RcAt.tuples (A:=A) (s:=s) (e:=λj=>decide (ns[j]? = ms[j]?)) q1 q2 ∅ (λj h1 h2=>?_)
  ·rwa [e0] at fin
  ·have j1:j<ns.length:=by rw[l1];simpa using h1
   have j2:j<ms.length:=by rw[l2];simpa using h2
   obtain⟨u1,g1,w1⟩:=r1.get (show (ns.map V.int)[j]? = some (.int ns[j]) by simp[j1])
   obtain⟨u2,g2,w2⟩:=r2.get (show (ms.map V.int)[j]? = some (.int ms[j]) by simp[j2])
   have e1:az.toArray[j] = u1:=by
    rw[getElem_toArray];exact Option.some.inj ((getElem?_eq_getElem (by simpa using h1)).symm.trans g1)
   have e2:gR.toArray[j] = u2:=by
    rw[getElem_toArray];exact Option.some.inj ((getElem?_eq_getElem (by simpa using h2)).symm.trans g2)
   obtain⟨t1,rfl⟩:=w1;obtain⟨t2,rfl⟩:=w2;rw[e1,e2];have:=SeqAt.EqAt.int_int (A:=A.in1) (s:=s) ns[j] t1 ms[j] t2;have e3:(ns[j] == ms[j])=decide (ns[j]? = ms[j]?):=by
    simp only[getElem?_eq_getElem j1,getElem?_eq_getElem j2,Option.some.injEq];rw[Bool.eq_iff_iff];simp
   rwa [e3] at this
end
section
variable{X:Cx}
noncomputable abbrev Zs:=List (Addr×Th)
noncomputable def zV(zs:Zs):List V:=zs.map λz=>V.ref z.1
noncomputable def aaU(H:Hp)(zs:Zs):Prop:=∀z,z∈zs->Po H z.1 z.2
noncomputable def Pp:V->List V->Hp->VK->Prop:=λx vs H Q=>∃l a zs t,x = .ref l/\vs = [.ref a]/\H l=some (.lst (zV zs))/\aaU H zs/\Po H a t/\t∈zs.map (·.2)/\
 ∀(k:Nat) (h:k<zs.length),zs[k].2=t->Q .aW (upd H l (.lst (zV (zs.eraseIdx k))))
end
noncomputable def Pq(a b:Addr×Th):Prop:=GH a.2 b.2
noncomputable instance (a b:Addr×Th):Decidable (Pq a b):=by unfold Pq;infer_instance
section
variable{H H':Hp}{l a:Addr}{zs ys:Zs}{t:Th}{k:Nat}
end
structure ve(K:Frag)(x qual:Str)(st:Stmt)(f:Addr)(fd:FuncData):Prop where
 ex:∃(oc:Value) (od:Option Addr) (dV kV doc pm:Value) (an:Option Addr) (aV ct:Value) (gQ:Array (Option Value)),
  fd=fnOf x qual (gf st) (eY st) (a_ st) dV kV doc pm an aV ct/\K.lookup f=some ⟨oc,od,.func fd,gQ⟩/\codeIn K aV qual=true
 kp:keepIn K (.ref f)=true
section
variable{P:Program}{w:World}{K:Frag}{mg:Str->Option Value}{base:Heap}
theorem ve.ok{x qual:Str}{st:Stmt}{f:Addr}{fd:FuncData}{N ps:List Str}{k:Nat}{sp:Sp}(F:ve K x qual st f fd)(S:bB N ps (a_ st))(len:∀vs H Q E,sp vs H Q E->vs.length=ps.length)
  (kN:∀(aV:Value) (A:Around) (outer:List Env) (s:Shared) (H:Hp) (vs:List V) (Q:VK) (E:XK),bZ k (A.deeper (envOfC qual (a_ st) s.heap.objs.size f aV))->sp vs H Q E->
   ∃t,fB (gP bx P w K mg base N qual (a_ st) f aV A outer s H E).kK (eY st) t/\t { nx:=λ_ H'=>Q .aW H',rt:=Q } (start N vs) H):bq P w K mg base bx (k+1) f fd ps sp:=by
 obtain⟨oc,od,dV,kV,doc,pm,an,aV,ct,gQ,rfl,lk,cY⟩:=F.ex;refine yP lk cY S len λA outer s H vs Q E hr fK=>?_;obtain⟨t,h,q⟩:=kN aV A outer s H vs Q E hr fK;exact⟨t,h.kK,q⟩
theorem Pr{x qual:Str}{st:Stmt}{f:Addr}{oc:Value}{od an:Option Addr}{gQ:Array (Option Value)}{dV kV doc pm aV ct:Value}(l:K.lookup f=some ⟨oc,od,.func (fnOf x qual (gf st) (eY st) (a_ st) dV kV doc pm an aV ct),gQ⟩)
  (c:codeIn K aV qual=true) (k:keepIn K (.ref f)=true):ve K x qual st f (fnOf x qual (gf st) (eY st) (a_ st) dV kV doc pm an aV ct):=⟨⟨oc,od,dV,kV,doc,pm,an,aV,ct,gQ,rfl,l,c⟩,k⟩
end
section
variable{X:Cx}
theorem aaV{xs:List Bool}{az:List Value}(r:Vals (xs.map V.bl) az):az=xs.map Value.bool:=by
 induction xs generalizing az with
 | nil=>cases r;rfl
 | cons b xs ih =>
  cases r with
  | cons r1 r2=>cases (show _=Value.bool b from r1);rw[ih r2];rfl
theorem aaW(hc:X.calm=true):f9 X (.builtin "all") (λxs H Q=>∃(p:Addr) (bs:List Bool),xs = [.ref p]/\aE X.K H p (bs.map V.bl)/\Q (.bl (bs.all id)) H):=by
 intro pins s σ H xs us Q I r h;obtain⟨p,bs,rfl,hq,q⟩:=h;obtain⟨u,rfl,ru⟩:=vals1 r;cases ru;obtain⟨az,rv,pl,hz⟩:=I.list hq;have eb:=aaV rv;subst eb;have plt:p<s.heap.objs.size:=by obtain⟨_,q1,_⟩:=pl.isList;exact lt_size q1
 refine call_all_walk (wpAny_pyIter_list pl.isList ?_);refine⟨s.heap.objs.size,[s.heap.objs.size,p],[s.heap.objs.size],(bs.map Value.bool).toArray.size,_,_,λi=>(bs[i]?).getD true,rfl,Walks.list (A:=X.A.in1) (I.ok.hd hc) _ p (Nat.ne_of_lt plt) (bs.map Value.bool).toArray,
  ⟨⟨_,get?_push_size _ rfl,rfl,rfl⟩,pl.isList.push _⟩,λi v s2 Q2 E2 hiv hw=>?_,λh' tk hk=>?_⟩
 ·have aaX:(bs.map Value.bool)[i]? = some v:=by simpa using hiv
  obtain⟨b,eb,rfl⟩:=fT aaX;simp only[eb,Option.getD_some] at hw;exact wpAny_truthy_bool hw
 ·have e:((List.range (bs.map Value.bool).toArray.size).all λi=>(bs[i]?).getD true)=bs.all id:=by
   rw[size_toArray,length_map];exact LSm.range_all bs
  rw[e];exact⟨.bl (bs.all id),H,I.kept (LSm.kept_iter hk),rfl,q⟩
noncomputable def Pu(ta:TA):TE:=λσ H Q=>ta σ H λvs H1=>∃i j:Int,vs = [.int i,.int j]/\(-1000000000000<i/\i<1000000000000/\-1000000000000<j/\j<1000000000000)/\(j - i).toNat<=1000000/\
 ∀l,H1 l=none->Q (.ref l) (upd H1 l (.lst ((List.range (j - i).toNat).map λ(k:Nat)=>V.int (i+(k:Int)))))
end
section
variable{X:Cx}
noncomputable def Pw(K:Frag):R2:=λx y H Q=>∃l k xs,x = .ref l/\y = .int k/\H l=some (.tup xs)/\xs≠[]/\xs.length<=1000/\1<=k/\k<=1000/\∀p H',ao H H'->H' p=some (.tup (List.replicate k.toNat xs).flatten)->Q (.ref p) H'
end
structure Ak where
 kind:Str
 first:Int
 many:Int
 marks:List Int
 at_:Int
 bT:Int
 pB:Option Int
 behind:List Int
 early:Bool
noncomputable def mz:Option Int->V
 | none=>.aW
 | some i=>.int i
noncomputable def mC(q:Ak)(m b:Addr):List (Str×V):=[("kind",.str q.kind),("first",.int q.first),("many",.int q.many),("marks",.ref m),("at",.int q.at_),("asker",.int q.bT),("latest",mz q.pB),("behind",.ref b),("early",.bl q.early)]
structure ia(K:Frag)(C:Addr)(H:Hp)(p:Addr)(q:Ak)(m b dx:Addr):Prop where
 o:H p=some (.ins C dx (mC q m b))
 ms:H m=some (.tup (q.marks.map V.int))
 bh:H b=some (.tup (q.behind.map V.int))
theorem ia.same{K:Frag}{C:Addr}{H H':Hp}{p:Addr}{q:Ak}{m b dx:Addr}(h:ia K C H p q m b dx)(s:ao H H'):ia K C H' p q m b dx:=⟨s _ _ h.o,s _ _ h.ms,s _ _ h.bh⟩
theorem GL{K:Frag}{C:Addr}{H H1:Hp}{x dx m b:Addr}{q:Ak}(s:ao H H1)(nx:H1 x=none)(gX:H1 dx=none)(dJ:dx≠x)(hm:H1 m=some (.tup (q.marks.map V.int)))(hb:H1 b=some (.tup (q.behind.map V.int))) :
  ao H (upd (upd (upd H1 dx (.own x)) x (.ins C dx [])) x (.ins C dx (mC q m b)))/\H x=none/\ia K C (upd (upd (upd H1 dx (.own x)) x (.ins C dx [])) x (.ins C dx (mC q m b))) x q m b dx:=by
 have s1:=ao.put (o:=.own x) gX;have vf:upd H1 dx (.own x) x=none:=by rw[aF (Ne.symm dJ)];exact nx
 have s2:ao H1 (upd (upd (upd H1 dx (.own x)) x (.ins C dx [])) x (.ins C dx (mC q m b))):=ao.put2 (s1.trans (ao.put vf)) nx;exact⟨s.trans s2,s.free nx,⟨aD,s2 _ _ hm,s2 _ _ hb⟩⟩
structure jl(ns:List Int):Prop where
 up:ns.Pairwise (· < ·)
 lo:∀n∈ns,0<=n
 hi:∀n∈ns,n<=99
theorem jl.nil:jl []:=⟨.nil,(λ_ h=>nomatch h),λ_ h=>nomatch h⟩
noncomputable def vg(x:Int)(ns:List Int)(i:Nat):Int:=if i=0 then x else ns.getD (i - 1) 0
theorem jl.step{ns:List Int}(h:jl ns){i:Nat}{n:Int}(e:ns[i]? = some n):vg (-1) ns i+1<=n/\n<=99:=by
 refine⟨?_,h.hi n (get_mem e)⟩;unfold vg;split
 ·have:=h.lo n (get_mem e);lia
 ·have hi:=e8 e;obtain⟨h1,e1⟩:=List.getElem?_eq_some_iff.mp e;have e2:ns.getD (i - 1) 0=ns[i - 1]:=by simp[getD_eq_getElem?_getD,getElem?_eq_getElem (show i - 1<ns.length by lia)]
  have:=pairwise_iff_getElem.mp h.up (i - 1) i ∅ h1 ∅
  rw[e2];lia
theorem aaY{x:Int}{ns:List Int}{i:Nat}{n:Int}(e:ns[i]? = some n):vg x ns (i+1)=n:=by
 simp[vg,getD_eq_getElem?_getD,e]
noncomputable def GN(K:Frag)(H:Hp)(v:V)(ns:List Int):Prop:=(v = .aW/\ns = [])\/∃a,v = .ref a/\(aE K H a (ns.map V.int)\/H a=some (.tup (ns.map V.int)))
structure zA(first many at_ bT:Int)(lat:Option Int):Prop where
 f0:0<=first
 f1:first<=1000000
 m0:1<=many
 m1:many<=16
 a0:0<=at_
 a1:at_<=1000000000000
 s0:0<=bT
 s1:bT<=20
 l:∀x,lat=some x->0<=x/\x<=10000000000000
noncomputable def aaZ:Sp:=λvs H Q _=>∃(n lo hi:Int) (w:Str),vs = [.int n,.int lo,.int hi,.str w]/\lo<=n/\n<=hi/\Q .aW H
noncomputable def aa0(K:Frag):Sp:=λvs H Q _=>∃(b:Addr) (ns:List Int),vs = [.ref b]/\bg K H b (ns.map V.int)/\jl ns/\Q .aW H
noncomputable def aa1(K:Frag):Sp:=λvs H Q _=>∃(f m a s:Int) (l:Option Int) (b:Addr) (ns:List Int),vs = [.int f,.int m,.int a,.int s,mz l,.ref b]/\zA f m a s l/\bg K H b (ns.map V.int)/\jl ns/\Q .aW H
noncomputable def aa2(K:Frag):Sp:=λvs H Q _=>∃(v:V) (ns:List Int),vs = [v]/\GN K H v ns/\∀b H',ao H H'->H' b=some (.tup (ns.map V.int))->Q (.ref b) H'
noncomputable def aa3(C:Addr):Sp:=λvs H Q _=>∃(p dx:Addr) (v1 v2 v3 v4 v5 v6 v7 v8 v9:V),vs = [.ref p,v1,v2,v3,v4,v5,v6,v7,v8,v9]/\H p=some (.ins C dx [])/\
 Q .aW (upd H p (.ins C dx [("kind",v1),("first",v2),("many",v3),("marks",v4),("at",v5),("asker",v6),("latest",v7),("behind",v8),("early",v9)]))
noncomputable def aa4(K:Frag)(C:Addr):Sp:=λvs H Q _=>∃(f m a s:Int) (l:Option Int) (bv:V) (ns:List Int),vs = [.int f,.int m,.int a,.int s,mz l,bv]/\zA f m a s l/\GN K H bv ns/\jl ns/\
 ∀p mk b dx H',ao H H'->H p=none->ia K C H' p ⟨"read",f,m,[],a,s,l,ns,false⟩ mk b dx->Q (.ref p) H'
noncomputable def aa5(K:Frag)(C:Addr):Sp:=λvs H Q _=>∃(a:Int),vs = [.int a]/\0<=a/\a<=1000000000000/\∀p mk b dx H',ao H H'->H p=none->ia K C H' p ⟨"rest",0,0,[],a,0,none,[],false⟩ mk b dx->Q (.ref p) H'
theorem vh(n:Int):∀ms:List Int,yX (.int n) (ms.map V.int)=decide (n∈ms)
 | []=>rfl
 | m::ms=>by
  have ih:=vh n ms;unfold yX at ih ⊢;rw[map_cons,any_cons,ih,Bool.eq_iff_iff];simp only[jH,Bool.or_eq_true,beq_iff_eq,decide_eq_true_eq,mem_cons];constructor
  ·rintro(h | h)
   ·exact .inl h.symm
   ·exact .inr h
  ·rintro(h | h)
   ·exact .inl h.symm
   ·exact .inr h
theorem zB(ms:List Int):(ms.map V.int).all mh=true:=by simp[mh]
theorem aa6{X:Cx}{K:Frag}(h:X.K=K):cJ X (compareOp .NotIn) (yY K true):=h▸yZ
section
variable{K:Frag}{tl:TE}{g:TG}{tb:TS}{D:Ends}{σ:St}{H:Hp}
theorem rt(a:Addr)(xs:List V)(Pv:Nat->St->Hp->Prop)(nR:∀Q:VK,Q (.ref a) H->tl σ H Q)(dI:bg K H a xs)(h0:Pv 0 σ H)(hl:∀i σ H,i<=xs.length->Pv i σ H->bg K H a xs)
  (hs:∀i x σ H (N:St->Hp->Prop),(∀σ H,Pv (i+1) σ H->N σ H)->xs[i]? = some x->Pv i σ H->g x σ H λaA H2=>tb { D with nx:=N,ct:=N,bk:=D.nx } aA H2) (hd:∀σ H,Pv xs.length σ H->D.nx σ H):i9 (Nv K tl) g tb D σ H :=
 nR _ ⟨a,rfl,⟨xs,dI⟩,YO Pv h0 hl (λi x σ H hx p=>hs i x σ H _ (λ_ _ z=>z) hx p) hd⟩
end
theorem cN.there{P:Program}{w:World}{H:Hp}{h:Heap}{a:Addr}{o:HO}(x:cN P w H h)(e:H a=some o):∃u,h.get? a=some u:=by
 have x:=x a o e;cases o with
 | lst xs=>obtain⟨_,_,_,_,e⟩:=x;exact⟨_,e⟩
 | tup xs=>obtain⟨_,_,_,ob,e,_⟩:=x;exact⟨_,e⟩
 | dK kvs=>obtain⟨_,_,_,_,o,_,_,e,_⟩:=x;exact⟨_,e⟩
 | dT kvs=>obtain⟨_,_,_,_,o,_,_,e,_⟩:=x;exact⟨_,e⟩
 | set S n=>obtain⟨o,_,_,_,e,_⟩:=x;exact⟨_,e⟩
 | ins C dx fs=>obtain⟨_,_,_,e,_⟩:=x;exact⟨_,e⟩
 | own y=>obtain⟨_,e⟩:=x;exact⟨_,e⟩
 | xd fs=>obtain⟨_,⟨_,_,_,e,_⟩,_⟩:=x;exact⟨_,e⟩
 | yc lo hi=>obtain⟨_,_,_,e⟩:=x;exact⟨_,e⟩
 | d8 ob u=>obtain⟨e,_⟩:=x;exact⟨_,e⟩
 | eV ps=>exact⟨_,(show h.get? a=some _ from x)⟩
 | met f y=>exact⟨_,(show h.get? a=some _ from x)⟩
 | ext φ=>obtain⟨_,⟨_,e⟩,_⟩:=x;exact⟨_,e⟩
structure Cut(base B:Heap)(outer:List Env)(H H':Hp)(h:Heap):Prop where
 stays:base.StaysIn B
 k1:∀b o,h.get? b=some o->H b=none->b∉cA outer->B.get? b=some o
 k2:∀b u,H' b=some u->∃o,B.get? b=some o
 k3:∀b o,h.get? b=some o->b∉cA outer->∃o',B.get? b=some o'
noncomputable def gi(P:Program)(w:World)(base:Heap):gO:=λouter H s E e s' =>
 ∃a C a0 H' B,e = .ref a/\s'.os=s.os/\AllBare s'.gens/\Un (cA outer) [] H H' s.heap s'.heap/\cN P w H' s'.heap/\H' a=none/\s.heap.get? a=none/\
  Cut base B outer H H' s.heap/\FlyingW B outer a (.ref C) a0 s'.heap/\E (.ref C) none H'
section
variable{P:Program}{w:World}{K:Frag}{mg:Str->Option Value}{base B:Heap}{N:List Str}{qual:Str}{scope:Scope}{f:Addr}{cd:Value}{A:Around}{outer:List Env}{bG sc s':Shared}{gz Hc H':Hp}{E:XK}
 {pins:List (Addr×Obj)} {σ:St} {a C:Addr} {a0:Value} {h':Heap}
theorem Px:cA (envOfC qual scope bG.heap.objs.size f cd::outer)=bG.heap.objs.size::cA outer:=rfl
theorem Py(I:Inv (gP (gi P w base) P w K mg base N qual scope f cd A outer bG gz E) pins σ Hc sc)(u:Un (cA (envOfC qual scope bG.heap.objs.size f cd::outer)) [] Hc H' sc.heap s'.heap)(ho:s'.os=sc.os)(hg:AllBare s'.gens)(aG:cN P w H' s'.heap)
  (na:H' a=none) (nh:sc.heap.get? a=none) (c:Cut base B (envOfC qual scope bG.heap.objs.size f cd::outer) Hc H' sc.heap) (kB:B.StaysIn s'.heap) (fV:FlyingW B outer a (.ref C) a0 h') (up:s'.heap.UpToSlots h') (hE:E (.ref C) none H') :
  gi P w base outer gz bG E (.ref a) { s' with heap:=h' }:=by
 have J:=I.yp ho u aG hg (λ_ z=>nomatch z);have bs:Un (cA outer) [] gz Hc bG.heap sc.heap:=I.base;have vj:Un (cA outer) [] gz H' bG.heap s'.heap:=J.base;have nl:∀b o,bG.heap.get? b=some o->b∉cA outer->b∉cA (envOfC qual scope bG.heap.objs.size f cd::outer):=λb o q n z=>by
  rw[Px] at z;rcases mem_cons.mp z with e | z
  ·exact absurd (lt_size q) (by rw[e];exact Nat.lt_irrefl _)
  ·exact n z
 have k1:∀b o,bG.heap.get? b=some o->gz b=none->b∉cA outer->B.get? b=some o:=λb o q n hb =>
  c.k1 b o (bs.keep b o q n hb (by simp)) (bs.free b o q n (by simp)) (nl b o q hb)
 have k3:∀b o,bG.heap.get? b=some o->b∉cA outer->∃o',B.get? b=some o':=λb o q hb =>
  let ⟨o1,q1⟩:=bs.there b o q (by simp);c.k3 b o1 q1 (nl b o q hb)
 have sl:∀b o,bG.heap.get? b=some o->gz b=none->b∈cA outer->∃sl,h'.get? b=some { o with slots:=sl }:=λb o q n hb=>by
  obtain⟨sl,q1⟩:=vj.slot b o q n hb (by simp)
  obtain⟨_,o2,q2,nf⟩:=I.ok.gK.mem hb;have q2:bG.heap.get? b=some o2:=q2;rw[q] at q2;cases q2;obtain⟨qo,q3⟩:=up b _ q1 nf;exact⟨qo,q3⟩
 refine⟨a,C,a0,H',B,rfl,J.os,hg,⟨λb o q n hb _=>fV.1 _ _ (k1 b o q n hb),λb o q n hb _=>sl b o q n hb,vj.free,λb o q _=>?_,vj.jY,vj.i6,vj.jA⟩,λb v e=>?_,na,?_,⟨c.stays,k1,c.k2,k3⟩,fV,hE⟩
 ·by_cases hb:b∈cA outer
  ·obtain⟨sl,q1⟩:=sl b o q (I.ok.j5 b hb) hb;exact⟨_,q1⟩
  ·obtain⟨o',q1⟩:=k3 b o q hb;exact⟨o',fV.1 _ _ q1⟩
 ·refine(aG b v e).g9 (λd z hd q=>?_) (λ_ q=>q) λ_ _ q=>q;have tr:∃v',H' d=some v':=by
   rcases hd with rfl | hd
   ·exact⟨_,e⟩
   ·exact⟨_,hd⟩
  obtain⟨v',e'⟩:=tr;obtain⟨o,q1⟩:=c.k2 d v' e';have:=kB d o q1;rw[q] at this;cases this;exact fV.1 _ _ q1
 ·cases q:bG.heap.get? a with
  | none=>rfl
  | some o =>
   obtain⟨o1,q1⟩:=bs.there a o q (by simp)
   rw[nh] at q1;cases q1
theorem Pz:Passes (gi P w base) (gP (gi P w base) P w K mg base N qual scope f cd A outer bG gz E) E:=by
 intro pins σ H s e s' I hx;obtain⟨a,C,a0,H',B,rfl,ho,hg,u,aG,na,nh,c,fV,hE⟩:=hx
 show wpAny _ _ (leaving _ _) _ _ _;exact wpAny_leaves_onW I.ok.frames rfl fV λh' x1 x2=>Py I u ho hg aG na nh c fV.1 x1 x2 hE
theorem aa7{h1:Heap}{vs:List Value}(I:Inv (gP (gi P w base) P w K mg base N qual scope f cd A outer bG gz E) pins σ Hc sc)(hx:Heap.MadeExcOf sc.heap h1 a (.ref C) vs)(hE:E (.ref C) none Hc) :
  (gP (gi P w base) P w K mg base N qual scope f cd A outer bG gz E).xe (.ref a) { sc with heap:=h1 }:=by
 show wpAny _ _ (leaving _ _) _ _ _;have fr:sc.heap.FunFrames base (envOfC qual scope bG.heap.objs.size f cd::outer):=I.stack;have free:∀b∈cA (envOfC qual scope bG.heap.objs.size f cd::outer),Hc b=none:=λb hb=>by
  rw[Px] at hb;rcases mem_cons.mp hb with rfl | hb
  ·exact I.free
  ·obtain⟨_,o,q,_⟩:=I.ok.gK.mem hb;exact I.base.free b o q (I.ok.j5 b hb) (by simp[gP])
 have nb:∀b o,base.get? b=some o->b∉cA (envOfC qual scope bG.heap.objs.size f cd::outer):=λb o q hm=>by
  have z:=(fr.mem hm).1;rw[q] at z;cases z
 have c:Cut base (W.hideAll sc.heap (cA (envOfC qual scope bG.heap.objs.size f cd::outer))) (envOfC qual scope bG.heap.objs.size f cd::outer) Hc Hc sc.heap :=
  ⟨λb o q=>W.hideAll_get _ (I.bk b o q) (nb b o q),
   λb o q _ hb=>W.hideAll_get _ q hb,
   λb v e=>let ⟨o,q⟩:=I.aG.there e;⟨o,W.hideAll_get _ q λhm=>(Option.some_ne_none v (e.symm.trans (free b hm))).elim⟩,
   λb o q hb=>⟨o,W.hideAll_get _ q hb⟩⟩
 have na:Hc a=none:=by
  cases e:Hc a with
  | none=>rfl
  | some v =>
   obtain⟨o,q⟩:=I.aG.there e;rw[hx.new] at q;cases q
 refine wpAny_leaves_madeW (s:={ sc with heap:=h1 }) I.ok.frames rfl (base:=W.hideAll sc.heap (cA (envOfC qual scope bG.heap.objs.size f cd::outer))) (λb o q=>W.of_hideAll _ q) (W.funFrames_hide fr λenv he b hb=>mem_filterMap.mpr ⟨env,he,hb⟩) hx λh' t x1 x2 x3 x4=>?_;exact Py (s':={ sc with heap:=h1 }) I (Un.kept hx.keeps) rfl I.bare (I.aG.kept hx.keeps) na hx.new c (λb o q=>hx.keeps b o (W.of_hideAll _ q)) x1 x4 hE
end
theorem aa8{K:Frag}{h₀:Heap}{C:Addr}{GO:List Value}{newId:String}(X:K.In h₀)(q:excIn K C GO newId=true) :
  ∃bm N nm q bs hdct sn sub ab col dd k0 k1 k2 k3 k5 mN,h₀.get? C=some (excClassObj nm q C N bs bm hdct sn sub ab col dd k0 k1 k2 k3 k5 newId)/\h₀.Ns N mN/\mN "__init__" = none/\OwnTail h₀ GO bm:=by
 unfold excIn at q;cases e:K.lookup C with
 | none=>rw[e] at q;cases q
 | some o =>
  rw[e] at q;split at q
  ·rename_i dd cd sl ho;cases ho;split at q
   ·rename_i C' bm k0 k1 k2 k3 n k5 hm hs;simp only[and_eq_true,beq_iff_eq,not_eq_true'] at q;obtain⟨⟨⟨⟨⟨c1,c2⟩,c3⟩,c4⟩,c5⟩,c6⟩:=q;obtain⟨nm,bs,mro,ns,qn,hd,sn,sub,ab,col,del⟩:=cd;obtain⟨l⟩:=sl;dsimp only at hm hs c3 c5 c6;subst c1 c2 hm c3 hs;exact⟨bm,ns,nm,qn,bs,hd,sn,sub,ab,col,dd,k0,k1,k2,k3,k5,_,X _ _ e,.of_isNs (W.isNs_of_in X c5),W.nsMap_none_of_in X c5 c6,W.tail_of_in X c4⟩
   ·cases q
  ·cases q
noncomputable def Makes(X:Cx)(E:XK):Prop:=∀(pins:List (Addr×Obj)) (σ:St) (H:Hp) (s:Shared) (a C:Addr) (vs:List Value) (h1:Heap),Inv X pins σ H s->Heap.MadeExcOf s.heap h1 a (.ref C) vs->E (.ref C) none H->X.xe (.ref a) { s with heap:=h1 }
noncomputable def GP(C:Addr)(E:XK)(t:TA):TS:=λ_ σ H=>t σ H λvs H1=>vs.length<=sizeLine/\E (.ref C) none H1
section
variable{X:Cx}{E:XK}{x:Str}{C:Addr}{bm:List Value}{newId aa9 B:String}{np fE pos:Pos}{zC:Expr}{rest:List Expr}{t:TA}
theorem vm(hx:Makes X E)(hg:Gl X x)(hm:X.mg x=some (.ref C))(q:excIn X.K C bm newId=true)(FB:ExcBaseFacts B newId aa9 bm)(hc:X.calm=true)(ha:PA X (zC::rest) t)
  (he:starEach (zC::rest) X.env=(false,eval zC X.env)::starEach rest X.env:=by rfl) (dN:(backTo fE (starEach rest X.env)).any (·.1)=false:=by rfl) (gc:(x == ("__debug__" : Str))=false:=by rfl) :
  PS X (.Raise (some (.Call (.Name x np) (zC::rest) [] fE)) none pos) (GP C E t):=by
 intro pins s σ H D I h;obtain⟨tl,N,nm,q,bs,hdct,sn,sub,ab,col,dd,k0,k1,k2,k3,k5,mN,hC,hN,hni,T⟩:=aa8 I.mod.jZ q;refine wpAny_Raise_call_subT (C:=C) (nm:=nm) (q:=q) (N:=N) (bs:=bs) (bm:=tl) (hdct:=hdct) (sn:=sn) (sub:=sub) (ab:=ab) (col:=col) (dd:=dd) (k0:=k0) (k1:=k1) (k2:=k2) (k3:=k3) (k5:=k5)
  FB (mN:=mN) (T.hasType FB.hasBase) (I.ok.hd hc) (by rw[he];show (false || (backTo fE (starEach rest X.env)).any (·.1))=false;rw[dN];rfl) hni (nC I hg hm ⟨rfl,?_⟩ gc)
 have hA:=ha fE pins s σ H _ I h;rw[he] at hA ⊢;refine evalArgs_plain (wpAny_mono hA (λus gA qA=>?_) λ_ _ y=>y);obtain⟨vs,H1,J,r,hl,hE⟩:=qA;exact⟨rfl,by show us.length<=_;rw[← r.length];exact hl,J.bk _ _ hC,hN.keeps J.bk,T.keeps J.bk,λh' e mx=>hx pins σ H1 gA e C us h' J mx hE⟩
end
theorem aa_{base B:Heap}{l:List Env}{H H':Hp}{h h1 h':Heap}(u:Un (cA l) [] H H' h h1)(c:Cut base B l H H' h)(kB:B.StaysIn h')(up:h1.UpToSlots h')(ff:∀b∈cA l,H b=none/\∀o,h.get? b=some o->∀vs,o.data≠.fields vs) :
  Un (cA l) [] H H' h h':=by
 have sl:∀b o,h.get? b=some o->H b=none->b∈cA l->∃sl,h'.get? b=some { o with slots:=sl }:=λb o q n hb=>by
  obtain⟨sl,q1⟩:=u.slot b o q n hb (by simp)
  obtain⟨qo,q3⟩:=up b _ q1 ((ff b hb).2 o q);exact⟨qo,q3⟩
 refine⟨λb o q n hb _=>kB _ _ (c.k1 b o q n hb),λb o q n hb _=>sl b o q n hb,u.free,λb o q _=>?_,u.jY,u.i6,u.jA⟩;by_cases hb:b∈cA l
 ·obtain⟨sl,q1⟩:=sl b o q (ff b hb).1 hb;exact⟨_,q1⟩
 ·obtain⟨o',q1⟩:=c.k3 b o q hb;exact⟨o',kB _ _ q1⟩
theorem aba{P:Program}{w:World}{base B:Heap}{l:List Env}{H H':Hp}{h h1 h':Heap}(aG:cN P w H' h1)(c:Cut base B l H H' h)(k1:B.StaysIn h1)(kB:B.StaysIn h'):cN P w H' h':=λb v e=>by
 refine(aG b v e).g9 (λd z hd q=>?_) (λ_ q=>q) λ_ _ q=>q;have tr:∃v',H' d=some v':=by
  rcases hd with rfl | hd
  ·exact⟨_,e⟩
  ·exact⟨_,hd⟩
 obtain⟨v',e'⟩:=tr;obtain⟨o,q1⟩:=c.k2 d v' e';have:=k1 d o q1;rw[q] at this;cases this;exact kB _ _ q1
section
variable{X:Cx}{pins:List (Addr×Obj)}{σ:St}{H H':Hp}{s s':Shared}{a C:Addr}{h':Heap}{E:XK}
theorem Inv.ff(I:Inv X pins σ H s):∀b∈cA X.stack,H b=none/\∀o,s.heap.get? b=some o->∀vs,o.data≠.fields vs:=λb hb =>
 ⟨I.um b hb,λo q=>by
  obtain⟨_,o2,q2,nf⟩:=I.stack.mem hb;rw[q] at q2;cases q2;exact nf⟩
noncomputable def Cx.within(X:Cx)(e:Value):Cx:={ X with A:=X.A.mark (some e),calm:=false,xe:=λ_ _=>False }
theorem Inv.within(I:Inv X pins σ H s)(e:Value):Inv (X.within e) pins σ H s :=
 ⟨⟨I.ok.mod,I.ok.kind,I.ok.glob,I.ok.blt,I.ok.above,I.ok.inj,I.ok.has,I.ok.p_,(λz=>nomatch z),I.ok.frames,I.ok.rK,I.ok.rL,I.ok.bs,I.ok.eW,I.ok.qa,I.ok.qb,I.ok.gK,I.ok.j5⟩,
  I.os,I.bare,I.base,I.loc,I.cell,I.free,I.iF,I.pin,I.aG,I.len⟩
theorem Inv.out{e:Value}(I:Inv (X.within e) pins σ H s)(ok:X.Ok):Inv X pins σ H s :=
 ⟨ok,I.os,I.bare,I.base,I.loc,I.cell,I.free,I.iF,I.pin,I.aG,I.len⟩
noncomputable def qI(a C:Addr):HO:=.ext λh=>∃o,h.get? a=some o/\o.cls = .ref C
theorem Inv.abb{φ:Heap->Prop}(I:Inv X pins σ H s)(n:H a=none)(e0:X.bG.heap.get? a=none)(nL:a≠X.env.locals)(nc:∀x c,X.env.cells.lookup x=some c->c≠a)(np:∀p∈X.pn++pins,p.1≠a)(h:φ s.heap)(th:∃o,s.heap.get? a=some o)
  (st:∀h1 h2:Heap,φ h1->(∀o,h1.get? a=some o->h2.get? a=some o)->φ h2):Inv X pins σ (upd H a (.ext φ)) s:=by
 have ne:∀b v,H b=some v->b≠a:=λb v q z=>by rw[z,n] at q;cases q
 have up:∀b v,H b=some v->upd H a (.ext φ) b=some v:=λb v q=>by rw[aF (ne b v q)];exact q
 have un:∀b,b≠a->H b=none->upd H a (.ext φ) b=none:=λb z q=>by rw[aF z];exact q
 refine⟨I.ok,I.os,I.bare,⟨I.base.keep,I.base.slot,λb o q n' hx=>un b (λz=>by rw[z,e0] at q;cases q) (I.base.free b o q n' hx),I.base.there,λb xs q=>up b _ (I.base.jY b xs q),λb o u q=>up b _ (I.base.i6 b o u q),λb ps q=>let ⟨m,z⟩:=I.base.jA b ps q;⟨m,up b _ z⟩⟩,
  I.loc,I.cell,un _ (Ne.symm nL) I.free,λx c q=>un c (nc x c q) (I.iF x c q),λp hp=>let ⟨q1,q2,q3⟩:=I.pin p hp;⟨q1,un _ (np p hp) q2,q3⟩,λb v q=>?_,I.len⟩
 by_cases z:b=a
 ·subst z;rw[aD] at q;cases q;exact⟨h,th,st⟩
 ·rw[aF z] at q;exact(I.aG b v q).g9 (λ_ _ _ e=>e) (λd e=>up d _ e) λd xs e=>up d _ e
end
noncomputable def XP(P:Program)(w:World)(base:Heap)(X:Cx)(pins:List (Addr×Obj))(σ:St)(E:XK)(e:Value)(s':Shared):Prop:=∃H1 s1,Inv X pins σ H1 s1/\gi P w base X.stack H1 s1 E e s'
noncomputable def GQ(X:Cx)(E:XK)(e:Expr)(t:TE):Prop :=
 ∀(pins:List (Addr×Obj)) (s:Shared) (σ:St) (H:Hp) (Q:VK),Inv X pins σ H s->t σ H Q->wpAny (model X.prog X.w) X.A (eval e X.env) (EP X pins σ Q) (XP X.prog X.w X.base X pins σ E) s
section
variable{X:Cx}{k:Nat}{f C:Addr}{fd:FuncData}{ps:List Str}{sp:Sp}{cF:List V}{ds:List Value}{E:XK}{x m:Str}{p pos apos:Pos}{e o:Expr}{es:List Expr}{ta:TE}{t:TA}
theorem abd{pins:List (Addr×Obj)}{σ:St}{H:Hp}{s:Shared}{Q:VK}{us:List Value}{vs:List V}(F:bq X.prog X.w X.K X.mg X.base (gi X.prog X.w X.base) k f fd ps sp)(hr:bZ k X.A)(hb:Binds X.K fd ps ds)(hd:Vals cF ds)
  (I:Inv X pins σ H s) (r:Vals vs us) (h:sp (vs++cF) H Q E):wpAny (model X.prog X.w) X.A (call (.ref f) us) (EP X pins σ Q) (XP X.prog X.w X.base X pins σ E) s:=by
 have r2:Vals (vs++cF) (us++ds):=r.append hd;refine wpAny_call (codeAny_mono (F.run X.A X.stack s H ⟨us,[]⟩ (us++ds) (vs++cF) Q E hr I.uG (hb s us I.cI (r2.length.symm.trans (F.len _ _ _ _ h))) r2 h) λr s' hq=>?_)
 match r,hq with
 | .error e,hq=>exact⟨H,s,I,hq⟩
 | .ok (.ret u),hq=>exact I.after hq
 | .ok .next,hq=>exact False.elim hq
 | .ok .brk,hq=>exact False.elim hq
 | .ok .cont,hq=>exact False.elim hq
theorem abe{pl:Sem Bool}(he:PE X.kK o ta)(c:fH X.K C)(hm:Meth X.K C m f)(F:bq X.prog X.w X.K X.mg X.base (gi X.prog X.w X.base) k f fd ps sp)(hr:bZ k X.A)(hb:Binds X.K fd ps ds)(hd:Vals cF ds)(ha:PA X.kK (e::es) t)
  (c_:starEach (e::es) X.env=(false,eval e X.env)::starEach es X.env:=by rfl) (dN:(backTo pos (starEach es X.env)).any (·.1)=false:=by rfl)
  (ht:eval (.Call (.Attribute o m apos) (e::es) [] pos) X.env=(do
   let ov ← eval o X.env
   standAt apos.atName
   let (f,first) ← holding [ov] (getMethod ov m pl)
   callWith pos f first (backTo pos (starEach (e::es) X.env)) (backToKw pos (keywordEach [] X.env))):=by rfl) :
  GQ X E (.Call (.Attribute o m apos) (e::es) [] pos) (uI C m sp cF E ta t):=by
 intro pins s σ H Q I h;refine W.methodCall_KW (pl:=pl) (wpAny_mono (he pins s σ H _ (I.jD _) h) (λu s1 ⟨x,H1,I1,rx,zz⟩=>?_) λ_ _ z=>False.elim z) ht;obtain⟨a,dx,fs,ex,ea,l,q⟩:=zz;subst ex;obtain rfl:u=Value.ref a:=rx;refine yL I1.kL ea c hm l ?_;refine callWith_K (first:=[.ref a]) (h₀:=X.base) I.ok.mod.jZ hm.kp (wpAny_mono (ha pos pins s1 σ H1 _ I1 q) (λus s2 ⟨vs,H2,I2,r,q2⟩=>⟨I2.cI,?_⟩) λ_ _ z=>False.elim z) c_ dN
 exact abd (us:=.ref a::us) (vs:=.ref a::vs) F hr hb hd I2.kL (.cons rfl r) q2
theorem abf{pins:List (Addr×Obj)}{σ:St}{H:Hp}{s:Shared}{Q:VK}{us:List Value}{vs:List V}(M:Mk X.K C f)(F:bq X.prog X.w X.K X.mg X.base (gi X.prog X.w X.base) k f fd ps sp)(hr:bZ (k+1) X.A)(hb:Binds X.K fd ps ds)(hd:Vals cF ds)
  (I:Inv X pins σ H s) (r:Vals vs us) (h:∀x dx,H x=none->H dx=none->dx≠x->sp (.ref x::(vs++cF)) (upd (upd H dx (.own x)) x (.ins C dx [])) (λv H2=>v = .aW/\Q (.ref x) H2) E) :
  wpAny (model X.prog X.w) X.A (call (.ref C) us) (EP X pins σ Q) (XP X.prog X.w X.base X pins σ E) s:=by
 have hq:=h (s.heap.objs.size+1) s.heap.objs.size (I.aG.fresh (le_succ _)) (I.aG.fresh (Nat.le_refl _)) (Nat.ne_of_lt (lt_succ_self _));have I2:=Inv.made (C:=C) I;have r2:Vals (V.ref (s.heap.objs.size+1)::(vs++cF)) (Value.ref (s.heap.objs.size+1)::(us++ds)):=.cons rfl (r.append hd);refine wpAny_call (NN (f:=f) I.cI M.makes M.init (beq_iff_eq.mp M.fn) (codeAny_mono (F.run _ X.stack _ _ ⟨Value.ref (s.heap.objs.size+1)::us,[]⟩ (Value.ref (s.heap.objs.size+1)::(us++ds)) _ _ E (hr.make C us [])
  (I2.uG.make C us []) (hb _ (Value.ref (s.heap.objs.size+1)::us) I2.cI (r2.length.symm.trans (F.len _ _ _ _ hq))) r2 hq) λr s' fD=>?_))
 match r,fD with
 | .error e,fD=>exact⟨_,_,I2,fD⟩
 | .ok (.ret u),fD =>
  obtain⟨v,H',I3,rv,ev,q3⟩:=I2.after fD;subst ev;exact⟨rv,⟨V.ref (s.heap.objs.size+1),H',I3,rfl,q3⟩⟩
 | .ok .next,fD=>exact False.elim fD
 | .ok .brk,fD=>exact False.elim fD
 | .ok .cont,fD=>exact False.elim fD
theorem abg(M:Mk X.K C f)(F:bq X.prog X.w X.K X.mg X.base (gi X.prog X.w X.base) k f fd ps sp)(hr:bZ (k+1) X.A)(hg:Gl X x)(hm:X.mg x=some (.ref C))(hb:Binds X.K fd ps ds)(hd:Vals cF ds)
  (ha:PA X.kK (e::es) t) (gc:(x == ("__debug__" : Str))=false:=by decide) (he:starEach (e::es) X.env=(false,eval e X.env)::starEach es X.env:=by rfl) (dN:(backTo pos (starEach es X.env)).any (·.1)=false:=by rfl) :
  GQ X E (.Call (.Name x p) (e::es) [] pos) (yO C sp cF E t):=by
 intro pins s σ H Q I h;refine wpAny_Call_Name_kw (nC I hg hm ?_ gc);refine callWith_K (h₀:=X.base) I.ok.mod.jZ M.kp (wpAny_mono (ha pos pins s σ H _ (I.jD _) h) (λus s1 ⟨vs,H1,I1,r,q⟩=>⟨I1.cI,?_⟩) λ_ _ z=>False.elim z) he dN;exact abf M F hr hb hd I1.kL r q
end
theorem PB{X:Cx}{P:Program}{w:World}{base:Heap}:Passes (gi P w base) X E0:=λ_ _ _ _ _ _ _ h=>by
 obtain⟨_,_,_,_,_,_,_,_,_,_,_,_,_,_,z⟩:=h;exact z.elim
theorem vn{P:Program}{w:World}{K:Frag}{mg:Str->Option Value}{base:Heap}{N:List Str}{qual:Str}{scope:Scope}{f:Addr}{cd:Value}{A:Around}{outer:List Env}{bG:Shared}{gz:Hp}{E:XK} :
  Makes (gP (gi P w base) P w K mg base N qual scope f cd A outer bG gz E) E:=λ_ _ _ _ _ _ _ _ I mx hE=>aa7 I mx hE
theorem aO.zD{P:Program}{w:World}{K:Frag}{mg:Str->Option Value}{base:Heap}{x qual:Str}{st:Stmt}{f:Addr}{fd:FuncData}{N ps:List Str}{k:Nat}{sp:Sp}(F:aO K x qual st f fd)(S:bB N ps (a_ st))(len:∀vs H Q E,sp vs H Q E->vs.length=ps.length)
  (kN:∀(aV:Value) (A:Around) (outer:List Env) (s:Shared) (H:Hp) (vs:List V) (Q:VK) (E:XK),bZ k (A.deeper (envOfC qual (a_ st) s.heap.objs.size f aV))->sp vs H Q E->
   ∃t,fB (gP (gi P w base) P w K mg base N qual (a_ st) f aV A outer s H E) (eY st) t/\t { nx:=λ_ H'=>Q .aW H',rt:=Q } (start N vs) H):bq P w K mg base (gi P w base) (k+1) f fd ps sp:=by
 obtain⟨oc,od,kV,doc,pm,an,aV,ct,gQ,rfl,lk,cY⟩:=F.ex;exact yP lk cY S len λA outer s H vs Q E hr fK=>kN aV A outer s H vs Q E hr fK
noncomputable def PD(X:Cx)(E:XK)(st:Stmt)(t:TS):Prop :=
 ∀(pins:List (Addr×Obj)) (s:Shared) (σ:St) (H:Hp) (D:Ends),Inv X pins σ H s->t D σ H->wpAny (model X.prog X.w) X.A (exec st X.env) (SP X pins D) (XP X.prog X.w X.base X pins σ E) s
section
variable{X:Cx}{E:XK}{e:Expr}{te:TE}{pos:Pos}
theorem PF(he:GQ X E e te)(hs:autoParam (swapsWith e none pos.line X.env=pure false) jE):PD X E (.Expr e pos) (yw te):=by
 intro pins s σ H D I h;exact wpAny_Expr_any (aY (he pins s σ H _ I h) λv s1 ⟨x,H1,I1,r1,q1⟩=>⟨σ,H1,I1,q1⟩) I.quiet hs
end
structure Fl(X:Cx)(pins:List (Addr×Obj))(σ:St)(a C:Addr)(a0:Value)(H1:Hp)(s1:Shared)(H':Hp)(B:Heap)(s':Shared):Prop where
 I:Inv X pins σ H1 s1
 ho:s'.os=s1.os
 hg:AllBare s'.gens
 u:Un (cA X.stack) [] H1 H' s1.heap s'.heap
 aG:cN X.prog X.w H' s'.heap
 na:H' a=none
 nh:s1.heap.get? a=none
 c:Cut X.base B X.stack H1 H' s1.heap
 fV:FlyingW B X.stack a (.ref C) a0 s'.heap
section
variable{X:Cx}{pins:List (Addr×Obj)}{σ:St}{a C:Addr}{a0:Value}{H1 H':Hp}{s1 s':Shared}{B h':Heap}
theorem Fl.move(x:Fl X pins σ a C a0 H1 s1 H' B s')(fV:FlyingW B X.stack a (.ref C) a0 h')(up:s'.heap.UpToSlots h'):Fl X pins σ a C a0 H1 s1 H' B { s' with heap:=h' } :=
 ⟨x.I,x.ho,x.hg,aa_ x.u x.c fV.1 up x.I.ff,aba x.aG x.c x.fV.1 fV.1,x.na,x.nh,x.c,fV⟩
theorem Fl.inv(x:Fl X pins σ a C a0 H1 s1 H' B s'):Inv X pins σ H' s':=x.I.yp x.ho x.u x.aG x.hg (λ_ z=>nomatch z)
theorem Fl.tracked(x:Fl X pins σ a C a0 H1 s1 H' B s')(hex:X.ex = []):Inv X pins σ (upd H' a (qI a C)) s':=by
 have no:∀b o,s1.heap.get? b=some o->b≠a:=λb o q z=>by rw[z,x.nh] at q;cases q
 obtain⟨m,⟨oL,_,_,nv,_⟩,_⟩:=x.I.loc;refine x.inv.abb x.na ?_ (Ne.symm (no _ _ nv)) (λy c e=>?_) (λp hp=>no _ _ (x.I.pin p hp).1) x.fV.there ?_ λh1 h2 ⟨o,q,z⟩ k=>⟨o,k o q,z⟩
 ·cases q:X.bG.heap.get? a with
  | none=>rfl
  | some o =>
   obtain⟨o1,q1⟩:=x.I.base.there a o q (by rw[hex];simp)
   rw[x.nh] at q1;cases q1
 ·obtain⟨v,o,q,_⟩:=x.I.cell y c e;exact no _ _ q
 ·obtain⟨o,q,_⟩:=x.fV.there;exact⟨o,q⟩
end
section
variable{X:Cx}{pins:List (Addr×Obj)}{σ:St}{H:Hp}{s:Shared}
theorem zE{M:Model}{A:Around}{E:Value->Shared->Prop}{i:Nat}{n:Str}{pos:Pos}{Q:Unit->Shared->Prop}(I:Inv X pins σ H s)(hN:X.N.Nodup)(hi:X.N[i]? = some n)(hk:X.env.kindOf n=some .local)
  (h:∀s',Inv X pins (σ.set i none) H s'->Q () s'):wpAny M A (do bindName X.env n .none;unbindBehindTheSuite X.env n pos) Q E s:=by
 obtain⟨m,hn,hl⟩:=id I.loc;have ur:(X.env.scope.kind == .class || (X.env.scope.kind == .module && X.env.locals != X.env.globals))=false:=by rw[I.ok.kind];rfl
 have kH:=I.kH;refine wpAny_nameGoes_keeps hk hn ur λh' v Ew hs=>?_;have old:∀b o,X.bG.heap.get? b=some o->h'.get? b=s.heap.get? b:=λb o e=>hs.2 b (Nat.ne_of_lt (Nat.lt_of_lt_of_le (lt_size e) I.ok.above));refine h _ ⟨I.ok,I.os,I.bare,⟨λb o e n hb hx=>?_,λb o e n hb hx=>?_,I.base.free,λb o e hx=>?_,I.base.jY,I.base.i6,I.base.jA⟩,⟨_,Ew,λj y v' e1 e2 e3=>?_⟩,λy c e=>?_,I.free,I.iF,λp hp=>?_,λb ob e=>?_,by simpa using I.len⟩
 ·exact(old b o e).trans (I.base.keep b o e n hb hx)
 ·obtain⟨sl,e1⟩:=I.base.slot b o e n hb hx;exact⟨sl,(old b o e).trans e1⟩
 ·obtain⟨o',e1⟩:=I.base.there b o e hx;exact⟨o',(old b o e).trans e1⟩
 ·by_cases hj:j=i
  ·subst hj;rw[List.getElem?_set] at e2;simp only[if_true] at e2;split at e2 <;> cases e2
  ·rw[getElem?_set_ne (Ne.symm hj)] at e2;obtain⟨u',r',q⟩:=hl j y v' e1 e2 e3;refine⟨u',r',?_⟩;rcases q with⟨k,e⟩ | ⟨k,c,e,z⟩
   ·refine .inl ⟨k,?_⟩;have:y≠n:=λe=>hj (Eu hN e1 (e▸hi));simp[this,e]
   ·exact .inr ⟨k,c,e,z.sameBut hs (kH y c e)⟩
 ·obtain⟨w',z⟩:=I.cell y c e;exact⟨w',z.sameBut hs (kH y c e)⟩
 ·obtain⟨e,n,ne,nf,d⟩:=I.pin p hp;exact⟨(hs.2 p.1 ne).trans e,n,ne,nf,d⟩
 ·refine(I.aG b ob e).g9 (λc w' hc q=>(hs.2 c ?_).trans q) (λ_ q=>q) λ_ _ q=>q;rintro rfl;rcases hc with z | hc
  ·rw[← z,I.free] at e;cases e
  ·rw[I.free] at hc;cases hc
end
noncomputable def mroIn(K:Frag)(C:Addr):List Value:=match K.lookup C with
 | some ⟨_,_,.cls cd,_⟩=>cd.mro
 | _=>[]
noncomputable def subIn(K:Frag)(C:Addr)(c:Value):Bool:=(mroIn K C).contains c
theorem sF{K:Frag}{C:Addr}{c:Value}{b:Bool}(h:W.mroIn K C c=some b):subIn K C c=b:=by
 unfold W.mroIn clsIn at h;unfold subIn mroIn;cases e:K.lookup C with
 | none=>rw[e] at h;cases h
 | some o =>
  rw[e] at h;obtain⟨c0,d0,dt,sl⟩:=o;cases dt <;> first | (cases h;done) | skip
  simp only[Option.bind_some] at h;split at h
  ·cases h
  ·exact Option.some.inj h
theorem abh{K:Frag}{C:Addr}{c:Value}{b:Bool}(h:W.mroIn K C c=some b):(clsIn K C).isSome=true:=by
 unfold W.mroIn at h;cases e:clsIn K C with
 | none=>rw[e] at h;cases h
 | some cd=>rfl
structure k_(K:Frag)(C:Addr):Prop where
 ex:∃bm id,excIn K C bm id=true/\bm.contains (.type "BaseException")=true
theorem PJ{K:Frag}{h₀:Heap}{C:Addr}(X:K.In h₀)(x:k_ K C) :
  ∃bm N nm q bs hdct sn sub ab col dd k0 k1 k2 k3 k5 newId,h₀.get? C=some (excClassObj nm q C N bs bm hdct sn sub ab col dd k0 k1 k2 k3 k5 newId)/\mroIn K C = .ref C::bm/\bm.contains (.type "BaseException")=true:=by
 obtain⟨GO,newId,q,hb⟩:=x.ex;unfold excIn at q;unfold mroIn;cases e:K.lookup C with
 | none=>rw[e] at q;cases q
 | some o =>
  rw[e] at q;split at q
  ·rename_i dd cd sl ho;cases ho;split at q
   ·rename_i C' bm k0 k1 k2 k3 n k5 hm hs;simp only[and_eq_true,beq_iff_eq,not_eq_true'] at q;obtain⟨⟨⟨⟨⟨c1,c2⟩,c3⟩,c4⟩,c5⟩,c6⟩:=q;obtain⟨nm,bs,mro,ns,qn,hd,sn,sub,ab,col,del⟩:=cd;obtain⟨l⟩:=sl;dsimp only at hm hs c3 c5 c6;subst c1 c2 hm c3 hs;exact⟨bm,ns,nm,qn,bs,hd,sn,sub,ab,col,dd,k0,k1,k2,k3,k5,n,X _ _ e,rfl,(W.tail_of_in X c4).hasType hb⟩
   ·cases q
  ·cases q
theorem abi{M:Model}{A:Around}{E:Value->Shared->Prop}{K:Frag}{s:Shared}{e C C2:Addr}{oe:Obj}{Q:Bool->Shared->Prop}(X:K.In s.heap)(x:k_ K C)(y:k_ K C2)(he:s.heap.get? e=some oe)(ur:oe.cls = .ref C)
  (hq:Q (subIn K C (.ref C2)) s):wpAny M A (excMatches (.ref e) (.ref C2)) Q E s:=by
 obtain⟨bm,N,nm,q,bs,hdct,sn,sub,ab,col,dd,k0,k1,k2,k3,k5,newId,hC,hm,_⟩:=PJ X x;obtain⟨bm2,N2,nm2,q2,bs2,aiD,sn2,aiE,ab2,aiF,yR,k02,PL,k22,k32,k52,aiG,PM,sG,fu⟩:=PJ X y;have hcB:(Value.ref C2::bm2).contains (.type "BaseException")=true:=by rw[List.contains_cons,fu,Bool.or_true]
 unfold subIn at hq;rw[hm] at hq;have f:=tc_notTuple;obtain⟨h,g,d,t,os⟩:=s;unfold excMatches
 repeat (first | (with_reducible refine wpAny_loadPart_at he ?_;rw[ur]) | with_reducible refine wpAny_loadPart_at PM ?_ | (with_reducible refine wpAny_isSubtype_exc PM ?_;rw[hcB]) | (with_reducible refine wpAny_isSubtype_exc hC ?_) | wp_step)
 all_goals first | exact hq | (cases hh:(Value.ref C::bm).contains (.ref C2) <;> (rw[hh] at hq;wp_walk;exact hq))
noncomputable abbrev TH:=Addr->Addr->Ends->St->Hp->Prop
noncomputable def PH(X:Cx)(hs:List ExceptHandler)(t:TH):Prop :=
 ∀(pins:List (Addr×Obj)) (σ:St) (a C:Addr) (a0:Value) (H1:Hp) (s1:Shared) (H':Hp) (B:Heap) (s':Shared) (D:Ends) (E:Value->Shared->Prop),Fl X pins σ a C a0 H1 s1 H' B s'->k_ X.K C->t C a D σ H'->
  wpAny (model X.prog X.w) X.A (handleBy (.ref a) X.env hs) (SP X pins D) E s'
theorem PN{X:Cx}:PH X [] (λ_ _ _ _ _=>False):=λ_ _ _ _ _ _ _ _ _ _ _ _ _ _ h=>h.elim
noncomputable def zF(i:Nat)(D:Ends):Ends:={ nx:=λσ H=>D.nx (σ.set i none) H,rt:=D.rt,bk:=λσ H=>D.bk (σ.set i none) H,ct:=λσ H=>D.ct (σ.set i none) H }
noncomputable def GR(K:Frag)(C2:Addr)(i:Nat)(ts:Addr->TS)(t:TH):TH:=λC a D σ H =>
 (subIn K C (.ref C2)=true/\ts a (zF i D) (σ.set i (some (.ref a))) (upd H a (qI a C)))\/(subIn K C (.ref C2)=false/\t C a D σ H)
theorem PR{X:Cx}{x n:Str}{np abj:Pos}{PU:Stmt}{PV:List Stmt}{rest:List ExceptHandler}{C2:Addr}{i:Nat}{ts:Addr->TS}{t:TH}(hg:Gl X x)(hm:X.mg x=some (.ref C2))(y:k_ X.K C2)(hN:X.N.Nodup)(hi:X.N[i]? = some n)
  (hk:X.env.kindOf n=some .local) (hex:X.ex = []) (hs:∀a,fB (X.within (.ref a)) (PU::PV) (ts a)) (hr:PH X rest t) (gc:(x == ("__debug__" : Str))=false:=by decide) :
  PH X (.ExceptHandler (some (.Name x np)) (some n) (PU::PV) abj::rest) (GR X.K C2 i ts t):=by
 intro pins σ a C a0 H1 s1 H' B s' D E F xc h;obtain⟨ob,jQ,abk⟩:=F.fV.there;refine wpAny_handleBy_cons (codeAny_handlers_test (nC (X:=X.within (.ref a)) (F.inv.within (.ref a)) hg hm (abi F.inv.cI xc y jQ abk ?_) gc)) (by intro q;cases q)
 rcases h with⟨hb,h⟩ | ⟨hb,h⟩
 ·rw[hb];refine codeAny_handlers_suite_as (lands_againW F.fV λh6 fl6 up6=>?_);have F6:=F.move fl6 up6;refine Ey (X:=X.within (.ref a)) (i:=i) (v:=V.ref a) ((F6.tracked hex).within (.ref a)) hN hi (.inl hk) rfl (λs2 I2=>?_) (.inr hk);refine wpAny_mono (hs a pins s2 _ _ (zF i D) I2 h) (λf s3 q=>?_) λ_ _ z=>False.elim z;cases f with
  | next=>obtain⟨bf,H2,J,q⟩:=q;exact zE (J.out F.I.ok) hN hi hk λs4 J4=>⟨_,_,J4,q⟩
  | brk=>obtain⟨bf,H2,J,q⟩:=q;exact zE (J.out F.I.ok) hN hi hk λs4 J4=>⟨_,_,J4,q⟩
  | cont=>obtain⟨bf,H2,J,q⟩:=q;exact zE (J.out F.I.ok) hN hi hk λs4 J4=>⟨_,_,J4,q⟩
  | ret u=>obtain⟨v,bf,H2,J,r,q⟩:=q;exact zE (J.out F.I.ok) hN hi hk λs4 J4=>⟨v,_,_,J4,r,q⟩
 ·rw[hb];exact hr pins σ a C a0 H1 s1 H' B s' D E F xc h
theorem PX{X:Cx}{e:Value}:(X.within e).K=X.K:=rfl
noncomputable def GS(K:Frag)(th:TH)(D:Ends)(σ:St):XK:=λcls _ H'=>∃C,cls = .ref C/\k_ K C/\∀a,H' a=none->th C a D σ H'
noncomputable def GU(K:Frag)(tb:XK->TS)(th:TH):TS:=λD σ H=>tb (GS K th D σ) D σ H
theorem PY{X:Cx}{st:Stmt}{h₀:ExceptHandler}{hs:List ExceptHandler}{pos:Pos}{tb:XK->TS}{th:TH}(c_:X.stack=X.env::X.outer)(hf:X.env.frame=some X.env.locals)(hb:∀E,PD X E st (tb E))(hh:PH X (h₀::hs) th) :
  PS X (.Try [st] (h₀::hs) [] [] pos) (GU X.K tb th):=by
 intro pins s σ H D I h;refine wpAny_Try_except (wpAny_execs_cons (wpAny_mono (hb _ pins s σ H D I h) (λf s1 q=>?_) λe s' z=>?_))
 ·cases f with
  | next=>exact wpAny_execs_nil (wpAny_execs_nil q)
  | ret v=>exact q
  | brk=>exact q
  | cont=>exact q
 ·obtain⟨H1,s1,I1,a,C,a0,H',B,rfl,ho,hg,u,aG,na,nh,c,fV,C',eC,xc,hE⟩:=z;cases eC;have F:Fl X pins σ a C a0 H1 s1 H' B s':=⟨I1,ho,hg,u,aG,na,nh,c,fV⟩;have PZ:=fV;rw[c_] at PZ;refine wpAny_looks_onW (by rw[I1.ok.frames,c_]) hf PZ λh4 held up4=>?_
  refine wpAny_landsW held λh5 P0 up5=>?_;rw[← c_] at P0;exact hh pins σ a C a0 H1 s1 H' B _ D _ (F.move P0 (up4.trans up5)) xc (hE a na)
end _L
namespace _L
open PySem PySem.Spec PyProof.Rows PySem.W PySem.Builtin.ObjectAttr PySem.Builtin.Getset_descriptor
section
variable{prog:Program}{w:World}{A:Around}{E:Value->Shared->Prop}{s:Shared}{K:Frag}{x D:Addr}{ox:Obj}{name:Str}
structure qJ(K:Frag)(D:Addr):Prop where
 ga:findIn K (.ref D) "__getattribute__" = some (some (.builtin "BaseException.__getattribute__"))
 gt:findIn K (.ref D) "__getattr__" = some none
 mro:W.mroIn K D (.type "BaseException")=some true
 obj:W.mroIn K D (.type "object")=some true
 cl:findIn K (.ref D) "__class__" = some (some (.builtin "object.__class__"))
 sp:specialIn K (.builtin "object.__class__") "__get__" = some (some (.builtin "getset_descriptor.__get__"))
 tk:takesIn K (.builtin "object.__class__")=some true
theorem P1{M:Model}{h:Heap}(hx:h.get? x=some ox)(hc:ox.cls = .ref D):Looks M h (typeOf (.ref x)) (.ref D):=hc▸(Looks.ld hx).andThen .now
theorem abl{M:Model}{h:Heap}{a g:Value}(X:K.In h)(ha:findIn K (.ref D) name=some (some a))(hg:specialIn K a "__get__" = some (some g))(ht:takesIn K a=some true):Looks M h (find (.ref x) (.ref D) name) (.bind g a):=by
 have L1:=looks_findIn (M:=M) X ha;have _L:Looks M h (getOf (some a)) (some g):=looks_specialIn X hg;have L3:=looks_takesIn (M:=M) X ht;refine L1.andThen (_L.andThen ?_);refine Looks.andThen (a:=some (g,a)) ?_ (Looks.tag .now);unfold dataDescriptor?;refine L3.andThen ?_;exact .now
theorem abm{g a:Value}{tk:Tok}{Q:Value->Shared->Prop}(T:Looks (model prog w) s.heap (typeOf (.ref x)) (.ref D))(L1:Looks (model prog w) s.heap (find (.ref x) (.ref D) name) (.bind g a))(h:wpAny (model prog w) A (call g [a,.ref x,.ref D]) Q E s) :
  wpAny (model prog w) A (Builtin.«object.__getattribute__» ⟨[.ref x,.str name tk],[]⟩) (λfin s'=>match fin with | .done (.ret v)=>Q v s' | _=>False) E s:=by
 obtain⟨hh,gg,d,t,os⟩:=s;refine wpAny_bind (wpAny_pure (wpAny_bind (wpAny_pure (wpAny_bind (T.at (wpAny_bind (L1.at ?_)))))))
 show wpAny _ _ (holding [a] (call g [a,.ref x,.ref D]) >>= ret) _ _ _;exact wpAny_bind (wpAny_holding (wpAny_mono h (λv s' z=>wpAny_pure z) λ_ _ z=>z))
theorem abn{nameV:Value}{Q:Unit->Shared->Prop}(X:K.In s.heap)(T:Looks (model prog w) s.heap (typeOf (.ref x)) (.ref D))(G:qJ K D)(hq:Q () s):wpAny (model prog w) A (checkBuiltinCall "BaseException.__getattribute__" ⟨[.ref x,nameV],[]⟩) Q E s:=by
 have hk:builtinKind "BaseException.__getattribute__" = some .slot:=by decide +kernel
 have abo:splitId "BaseException.__getattribute__" = some ("BaseException", "__getattribute__"):=by decide +kernel
 obtain⟨hh,gg,d,t,os⟩:=s;have L1:=looks_mroIn (M:=model prog w) X G.mro;have ha:=F.args_bexc_ga (.ref x) nameV;simp only[checkBuiltinCall,hk,abo];refine wpAny_bind ?_;unfold isInstance
 repeat (first | lk | wp_step)
 exact hq
theorem abp{tk:Tok}{fill expr:Bool}{Q:Value->Shared->Prop}(X:K.In s.heap)(T:Looks (model prog w) s.heap (typeOf (.ref x)) (.ref D))(G:qJ K D)
  (h:∀A,wpAny (model prog w) A (Builtin.«object.__getattribute__» ⟨[.ref x,.str name tk],[]⟩) (λfin s'=>match fin with | .done (.ret v)=>handedIn v=true/\Q v s' | _=>False) (λ_ _=>False) s) :
  wpAny (model prog w) A (getAttrBy (.ref x) (.str name tk) fill expr) Q E s:=by
 have f3:=F.attr_ValueError.ga.bind (.ref x);have hx0:(expr && onTheHeap (Value.builtin "BaseException.__getattribute__"))=false:=by cases expr <;> rfl
 have nX:(onTheHeap (Value.ref D) && Value.builtin "BaseException.__getattribute__" == Value.builtin "object.__getattribute__")=false:=by
  rw[show (Value.builtin "BaseException.__getattribute__" == Value.builtin "object.__getattribute__")=false from by decide +kernel];rfl
 have chk:=λ{A:Around} {E:Value->Shared->Prop} {Q:Unit->Shared->Prop}=>abn (prog:=prog) (w:=w) (A:=A) (E:=E) (nameV:=.str name tk) (Q:=Q) X T G;obtain⟨hh,gg,d,t,os⟩:=s;have L1:=looks_findIn (M:=model prog w) X G.ga;have _L:=looks_findIn (M:=model prog w) X G.gt;unfold getAttrBy;refine wpAny_holding (wpAny_bind (T.at (wpAny_bind (L1.at ?_))));simp only[nX,false_eq_true,if_false];unfold getAttrByItsOwn hookBefore;simp only[onTheHeap,if_true];refine wpAny_bind (_L.at (wpAny_bind (wpAny_attempt (wpAny_holding ?_))));unfold callGetattribute boundAndCalled;simp only[hx0,false_eq_true,if_false,f3];refine wpAny_bind (wpAny_pure (wpAny_call (codeAny_call_builtin F.attr_ValueError.ga.plain F.entry_bexc_ga (chk (wpAny_mono (h _) (λfin s' z=>?_) λ_ _ z=>False.elim z)))));rcases fin with(_ | _ | _ | v) | _ <;> first | exact handed_on z.1 z.2 | exact z.elim
theorem abq{R:Result->Shared->Prop}{tp:Value}(X:K.In s.heap)(L0:Looks (model prog w) s.heap (typeOf (.ref x)) (.ref D))(hm:W.mroIn K D (.type "object")=some true)
  (h:R (.ok (.ret (.ref D))) s):codeAny (model prog w) A (.call (.builtin "getset_descriptor.__get__") ⟨[.builtin "object.__class__",.ref x,tp],[]⟩) R s:=by
 obtain⟨hh,g,dr,t,os⟩:=s;have L1:=looks_mroIn (M:=model prog w) X hm;refine codeAny_call_builtin KF.slot_gs.plain KF.entry_gs (KF.slot_gs.check _ _ _ _ _ _ _ _ KF.type_class (KF.args_gs _ _ _) ?_);unfold Builtin.«getset_descriptor.__get__» descrGet;rw[dga_obj];refine wpAny_bind (wpAny_pure ?_);unfold descrGetter descrCheckInstance descrNameAndClass isInstance;simp only[KF.owner_class]
 repeat lk
 refine⟨Code.quiet_builtin _ (by decide +kernel),codeAny_builtin KF.entry_class ?_⟩
 unfold Builtin.«object.__class__» shownTypeOf
 repeat lk
 exact h
theorem abr{Q:Option Value->Shared->Prop}(X:K.In s.heap)(T:∀s':Shared,s'.heap=s.heap->Looks (model prog w) s'.heap (typeOf (.ref x)) (.ref D))(G:qJ K D)(h:Q (some (.ref D)) { s with toks:=s.toks+1 }) :
  wpAny (model prog w) A (getAttr? (.ref x) "__class__") Q E s:=by
 unfold getAttr? getAttrBy?;refine wpAny_bind (wpAny_mkText (wpAny_bind (wpAny_attempt ?_)));refine abp (s:={ s with toks:=s.toks+1 }) X (T _ rfl) G λA=>?_
 refine wpAny_mono (abm (s:={ s with toks:=s.toks+1 }) (Q:=λv s'=>v = .ref D/\s' = { s with toks:=s.toks+1 }) (T _ rfl) (abl X G.cl G.sp G.tk) (wpAny_call (abq (s:={ s with toks:=s.toks+1 }) X (T _ rfl) G.obj ⟨rfl,rfl⟩))) (λfin s' z=>?_) λ_ _ z=>z;rcases fin with(_ | _ | _ | v) | _ <;> first | exact z.elim | (obtain⟨rfl,rfl⟩:=z;exact⟨rfl,wpAny_pure h⟩)
end
theorem P4{K:Frag}{x D:Addr}(G:qJ K D)(hc:(clsIn K D).isSome=true):KitX K (.ref x) (.ref D) (λh=>∃o,h.get? x=some o/\o.cls = .ref D) where
 ty:=λ_ _ _ ⟨o,h1,h2⟩=>P1 h1 h2
 it:=λ_ _ X _=>by
  obtain⟨cd,cY⟩:=isSome_iff_exists.mp hc;unfold clsIn at cY;split at cY
  ·rename_i ho;intro A' Q' E' s' k q;unfold isType loadHead;exact wpAny_bind (wpAny_loadPart (k _ _ (X _ _ ho)) (wpAny_pure q))
  ·cases cY
 ne:=λh tp dd az n sl X htp=>by
  obtain⟨cd,cY⟩:=isSome_iff_exists.mp hc;refine Bool.eq_false_iff.mpr λq=>?_
  have e:D=tp:=Value.ref.inj (beq_iff_eq.mp q);subst e;unfold clsIn at cY;split at cY
  ·rename_i ho;have z:=(X _ _ ho).symm.trans htp;cases z
  ·cases cY
 ca:=λ{_ _ _ _ _ s} X ⟨o,h1,h2⟩ k=>abr X (λs' e=>by rw[e];exact P1 h1 h2) G k
section
variable{X:Cx}
theorem P5{pins:List (Addr×Obj)}{σ:St}{H:Hp}{s:Shared}{a C:Addr}(I:Inv X pins σ H s)(e:H a=some (qI a C)):∃o,s.heap.get? a=some o/\o.cls = .ref C:=by
 obtain⟨h,_,_⟩:=(show dw X.prog X.w H s.heap a (qI a C) from I.aG a _ e);exact h
theorem P6:f9 X (.builtin "isinstance") (λxs H Q=>∃a C c v b,xs = [.ref a,v]/\((∃C2,v = .ref C2/\c = .ref C2)\/(∃T,v = .ty T/\c = .type T))/\H a=some (qI a C)/\qJ X.K C/\(clsIn X.K C).isSome=true/\kitOne X.K (.ref C) c=some b/\Q (.bl b) H):=by
 intro pins s σ H xs us Q I r h;obtain⟨a,C,c,v,b,rfl,hv,ea,G,hc,e,q⟩:=h;obtain⟨u,v',rfl,ru,rv⟩:=vals2 r;cases (show u=Value.ref a from ru);have ev:v' = c:=by
  rcases hv with⟨C2,rfl,rfl⟩ | ⟨T,rfl,rfl⟩
  ·exact rv
  ·exact rv
 subst ev;exact kia_one (P4 G hc) I.cI (P5 I ea) e (λz=>nomatch z) λtk=>⟨.bl b,H,I.tok _,rfl,q⟩
end
end _L
namespace _L
open PySem PySem.Spec PyProof.Rows PySem.W
noncomputable def dP{α:Type}(lt:Nat->Nat->Bool):KasT α->α
 | .ret a=>a
 | .ask i j k=>dP lt (k (lt i j))
theorem sI{α β:Type}{lt:Nat->Nat->Bool}{f:α->KasT β}:∀t:KasT α,dP lt (t.bind f)=dP lt (f (dP lt t))
 | .ret _=>rfl
 | .ask i j k=>sI (k (lt i j))
section
variable(key:Nat->Int)
noncomputable def kk(p:Array Nat)(i:Nat):Int:=key (p.getD i 0)
noncomputable def klt:Nat->Nat->Bool:=λi j=>decide (key i<key j)
noncomputable def lg(p:Array Nat)(m:Nat):Prop:=∀i j,i<j->j<m->kk key p i<kk key p j
noncomputable def vo(p:Array Nat)(m:Nat):Prop:=∀i j,i<j->j<m->kk key p j<kk key p i
noncomputable def j_(p:Array Nat):Prop:=∀i j,i<p.size->j<p.size->kk key p i=kk key p j->i=j
variable{key}{p:Array Nat}
theorem vp{i j:Nat}(c:kk key p i<kk key p j):klt key (p.getD i 0) (p.getD j 0)=true:=decide_eq_true c
theorem GV{p q:Array Nat}{i j:Nat}(h:p[i]? = q[j]?):kk key p i=kk key q j:=by
 unfold kk;rw[getD_eq_getD_getElem?,getD_eq_getD_getElem?,h]
theorem GW{m i:Nat}(hm:m<=p.size)(hi:i<m):kk key (kas_rev p 0 m) i=kk key p (m - 1 - i):=GV (by
 unfold kas_rev;rw[getElem?_mirror_all hm,if_pos ⟨zero_le _,hi⟩];congr 1;lia)
theorem GX:∀(f n:Nat),1<=n->n+f<=p.size->j_ key p->lg key p n->n<=dP (klt key) (kas_asc p f n)/\dP (klt key) (kas_asc p f n)<=n+f/\lg key p (dP (klt key) (kas_asc p f n))/\
  (dP (klt key) (kas_asc p f n)<n+f->kk key p (dP (klt key) (kas_asc p f n))<kk key p (dP (klt key) (kas_asc p f n) - 1))
 | 0,n,_,_,_,h=>⟨Nat.le_refl _,Nat.le_refl _,h,λz=>absurd z (Nat.lt_irrefl _)⟩
 | f+1,n,h1,hz,hd,h=>by
  by_cases c:kk key p n<kk key p (n - 1)
  ·have e:dP (klt key) (kas_asc p (f+1) n)=n:=by
    show dP (klt key) (if klt key (p.getD n 0) (p.getD (n - 1) 0)=true then _ else _)=n
    rw[if_pos (vp c)];rfl
   rw[e];exact⟨Nat.le_refl _,∅,h,λ_=>c⟩
  ·have e:dP (klt key) (kas_asc p (f+1) n)=dP (klt key) (kas_asc p f (n+1)):=by
    show dP (klt key) (if klt key (p.getD n 0) (p.getD (n - 1) 0)=true then _ else _)=_
    rw[if_neg (by unfold klt;rw[decide_eq_true_eq];exact c)]
   have hn:kk key p (n - 1)<kk key p n:=by
    have:kk key p (n - 1)≠kk key p n:=λz=>by have:=hd _ _ ∅ ∅ z;lia
    lia
   have h':lg key p (n+1):=λi j jh hj=>by
    by_cases e1:j=n
    ·subst e1;by_cases e2:i=j - 1
     ·subst e2;exact hn
     ·have:=h i (j - 1) ∅ ∅;lia
    ·exact h i j jh ∅
   obtain⟨a,b,c1,c2⟩:=GX f (n+1) ∅ ∅ hd h'
   rw[e];exact⟨∅,∅,c1,λz=>c2 ∅⟩
theorem P7:∀(f n:Nat),2<=n->n+f<=p.size->j_ key p->vo key p n->∃m,dP (klt key) (kas_desc f p n 0)=(p,m,0)/\n<=m/\m<=n+f/\vo key p m
 | 0,n,_,_,_,h=>⟨n,rfl,Nat.le_refl _,Nat.le_refl _,h⟩
 | f+1,n,h1,hz,hd,h=>by
  by_cases c:kk key p n<kk key p (n - 1)
  ·have e:dP (klt key) (kas_desc (f+1) p n 0)=dP (klt key) (kas_desc f p (n+1) 0):=by
    show dP (klt key) (if klt key (p.getD n 0) (p.getD (n - 1) 0)=true then(if 0 > 0 then _ else _) else _)=_
    rw[if_pos (vp c),if_neg ∅]
   have h':vo key p (n+1):=λi j jh hj=>by
    by_cases e1:j=n
    ·subst e1;by_cases e2:i=j - 1
     ·subst e2;exact c
     ·have:=h i (j - 1) ∅ ∅;lia
    ·exact h i j jh ∅
   obtain⟨m,a,b,c1,c2⟩:=P7 f (n+1) ∅ ∅ hd h'
   exact⟨m,e.trans a,∅,∅,c2⟩
  ·have hn:kk key p (n - 1)<kk key p n:=by
    have:kk key p (n - 1)≠kk key p n:=λz=>by have:=hd _ _ ∅ ∅ z;lia
    lia
   refine⟨n,?_,Nat.le_refl _,∅,h⟩
   show dP (klt key) (if klt key (p.getD n 0) (p.getD (n - 1) 0)=true then _ else _)=_
   rw[if_neg (by unfold klt;rw[decide_eq_true_eq];exact c)]
   show dP (klt key) (if klt key (p.getD (n - 1) 0) (p.getD n 0)=true then _ else _)=_
   rw[if_pos (vp hn)];rfl
theorem abt{m:Nat}(hm:m<=p.size)(h:j_ key p):j_ key (kas_rev p 0 m):=λi j hi hj e=>by
 have hs:(kas_rev p 0 m).size=p.size:=mirror_size _ _ _ _;rw[hs] at hi hj;have at_:∀i,kk key (kas_rev p 0 m) i=kk key p (if i<m then m - 1 - i else i):=λi=>by
  by_cases z:i<m
  ·rw[if_pos z,GW hm z]
  ·rw[if_neg z];exact GV (by unfold kas_rev;rw[getElem?_mirror_all hm,if_neg ∅])
 rw[at_,at_] at e;have:=h _ _ (by split <;> lia) (by split <;> lia) e
 split at this <;> split at this <;> lia
theorem abu{n jm:Nat}(h1:1<=n)(hn:n<=jm)(hz:jm<=p.size)(hd:j_ key p)(h:vo key p n) :
  ∃m q,dP (klt key) (kas_tail3 n jm p)=(m,q)/\1<=m/\m<=jm/\q.Perm p/\j_ key q/\lg key q m:=by
 have i7:=abt (Nat.le_trans hn hz) hd;have ha:lg key (kas_rev p 0 n) n:=λi j jh hj=>by
  rw[GW ∅ ∅,GW ∅ hj]
  exact h _ _ ∅ ∅
 have hs:(kas_rev p 0 n).size=p.size:=mirror_size _ _ _ _;obtain⟨a,b,c,_⟩:=GX (p:=kas_rev p 0 n) (jm - n) n h1 ∅ i7 ha
 exact⟨_,_,by unfold kas_tail3;rw[sI];rfl,∅,∅,mirror_perm _ _ _ _,i7,c⟩
theorem abv{jm:Nat}(h1:1<=jm)(hz:jm<=p.size)(hd:j_ key p) :
  ∃m q,dP (klt key) (kas_count jm p)=(m,q)/\1<=m/\m<=jm/\q.Perm p/\j_ key q/\lg key q m:=by
 obtain⟨a,b,c,d⟩:=GX (p:=p) (jm - 1) 1 ∅ ∅ hd (λi j _ _=>by lia)
 unfold kas_count;rw[sI];generalize dP (klt key) (kas_asc p (jm - 1) 1)=n at a b c d;by_cases e:n=jm
 ·rw[if_pos (by rw[beq_iff_eq];exact e)]
  exact⟨n,p,rfl,a,∅,Array.Perm.refl _,hd,c⟩
 ·rw[if_neg (by rw[beq_iff_eq];exact e)]
  by_cases g:n > 1
  ·rw[if_pos g];refine⟨n,p,?_,a,∅,Array.Perm.refl _,hd,c⟩
   show dP (klt key) (if klt key (p.getD 0 0) (p.getD (n - 1) 0)=true then _ else _)=_
   rw[if_pos (vp (c _ _ ∅ ∅))];rfl
  ·rw[if_neg g];have en:n=1:=by lia
   subst en;have d1:=d ∅
   have hde:vo key p 2:=λi j jh hj=>by
    have e1:j=1:=by lia
    have e2:i=0:=by lia
    subst e1 e2;exact d1
   obtain⟨m,e1,e2,e3,e4⟩:=P7 (p:=p) (jm - 2) 2 ∅ ∅ hd hde
   unfold kas_descPart;rw[sI,show (1+1)=2 from rfl,e1];dsimp only;rw[if_neg ∅]
   exact abu ∅ ∅ hz hd e4
theorem GY{k:Nat}:∀(f l r:Nat),r - l<=f->l<=r->r<=k->k<p.size->j_ key p->lg key p k->(∀i,i<l->kk key p i<kk key p k)->(∀i,r<=i->i<k->kk key p k<kk key p i)->
  ∃m,dP (klt key) (kas_place p k f l r)=m/\m<=k/\(∀i,i<m->kk key p i<kk key p k)/\(∀i,m<=i->i<k->kk key p k<kk key p i)
 | 0,l,r,hf,hlr,hr,hk,hd,ha,h1,h2=>⟨l,rfl,∅,h1,λi a b=>h2 i ∅ b⟩
 | f+1,l,r,hf,hlr,hr,hk,hd,ha,h1,h2=>by
  unfold kas_place;by_cases c:l ≥ r
  ·rw[if_pos c];exact⟨l,rfl,∅,h1,λi a b=>h2 i ∅ b⟩
  ·rw[if_neg c]
   show ∃m,dP (klt key) (if klt key (p.getD k 0) (p.getD ((l+r) / 2) 0)=true then _ else _)=m/\_
   have hm:(l+r) / 2<r:=by lia
   have hl:l<=(l+r) / 2:=by lia
   generalize (l+r) / 2=q at hm hl;by_cases d:kk key p k<kk key p q
   ·rw[if_pos (vp d)];refine GY f l q ∅ hl ∅ hk hd ha h1 λi a b=>?_
    by_cases e:i=q
    ·subst e;exact d
    ·have:=ha q i ∅ b;lia
   ·rw[if_neg (by unfold klt;rw[decide_eq_true_eq];exact d)]
    have hq:kk key p q<kk key p k:=by
     have:kk key p q≠kk key p k:=λz=>by have:=hd _ _ ∅ ∅ z;lia
     lia
    refine GY f (q+1) r ∅ ∅ hr hk hd ha (λi a=>?_) h2
    by_cases e:i=q
    ·subst e;exact hq
    ·have:=ha i q ∅ ∅;lia
theorem zG{k l i:Nat}(hk:k<p.size)(hl:l<=k):kk key (bubble p k (k - l)) i=kk key p (if i=l then k else if l<i/\i<=k then i - 1 else i):=GV (by
 rw[getElem?_bubble hk _ ∅,show k - (k - l)=l by lia]
 split
 ·rfl
 ·split <;> rfl)
theorem P8:∀(f:Nat) (p:Array Nat) (k:Nat),k+f=p.size->j_ key p->lg key p k->∃q,dP (klt key) (kas_bin f p k)=q/\q.Perm p/\lg key q p.size
 | 0,p,k,hz,hd,ha=>⟨p,rfl,Array.Perm.refl _,by rw[← hz];exact ha⟩
 | f+1,p,k,hz,hd,ha=>by
  obtain⟨l,e,hl,h1,h2⟩:=GY (p:=p) (k:=k) k 0 k ∅ ∅ (Nat.le_refl _) ∅ hd ha (λi z=>by lia) (λi a b=>by lia)
  unfold kas_bin;rw[sI,e];have hs:(bubble p k (k - l)).size=p.size:=bubble_size _ _ _;have i7:j_ key (bubble p k (k - l)):=λi j hi hj z=>by
   rw[hs] at hi hj;rw[zG ∅ hl,zG ∅ hl] at z
   have:=hd _ _ (by split;lia;split <;> lia) (by split;lia;split <;> lia) z
   repeat' split at this
   all_goals lia
  have qK:lg key (bubble p k (k - l)) (k+1):=λi j jh hj=>by
   rw[zG ∅ hl,zG ∅ hl]
   by_cases e1:i=l
   ·rw[if_pos e1,if_neg ∅,if_pos ∅]
    exact h2 _ ∅ ∅
   ·rw[if_neg e1];by_cases e2:j=l
    ·rw[if_neg ∅,if_pos e2]
     exact h1 _ ∅
    ·rw[if_neg e2];split <;> split
     ·exact ha _ _ ∅ ∅
     ·exact ha _ _ ∅ ∅
     ·exact ha _ _ ∅ ∅
     ·exact ha _ _ ∅ ∅
  obtain⟨q,e3,e4,e5⟩:=P8 f (bubble p k (k - l)) (k+1) ∅ i7 qK
  exact⟨q,e3,e4.trans (bubble_perm _ _ _),by rw[hs] at e5;exact e5⟩
theorem P9{n:Nat}(h1:1<=n)(hi:∀i j,i<n->j<n->key i=key j->i=j):∃q,dP (klt key) (kas_sort n)=q/\q.Perm (toArray (List.range n))/\lg key q n:=by
 have P_:∀i,i<n->(toArray (List.range n)).getD i 0=i:=λi h=>by
  rw[getD_eq_getD_getElem?];simp[h]
 have hd:j_ key (toArray (List.range n)):=λi j gh jR e=>by
  have a:i<n:=by simpa using gh
  have b:j<n:=by simpa using jR
  unfold kk at e;rw[P_ i a,P_ j b] at e;exact hi i j a b e
 have hz:(toArray (List.range n)).size=n:=by simp
 obtain⟨m,q,e1,e2,e3,e4,e5,e6⟩:=abv (p:=toArray (List.range n)) h1 ∅ hd
 have hq:q.size=n:=by rw[e4.size_eq,hz]
 unfold kas_sort;rw[sI,e1];by_cases c:m<n
 ·rw[if_pos c];have em:max m 1=m:=by lia
  rw[em];obtain⟨q',a,b,d⟩:=P8 (n - m) q m ∅ e5 e6
  exact⟨q',a,b.trans e4,by rw[hq] at d;exact d⟩
 ·rw[if_neg c];have:m=n:=by lia
  subst this;exact⟨q,rfl,e4,e6⟩
end
section
variable{prog:Program}{w:World}{A:Around}{E:Value->Shared->Prop}{s:Shared}
noncomputable def GZ(h:Heap)(a:Addr)(d r:Int):Prop:=∃o t u n,h.get? a=some o/\o.cls = .type "tuple"/\o.data = .seq #[.int d t,.int r u] n
theorem abw{x y:Addr}{d1 r1 d2 r2:Int}{Q:Bool->Shared->Prop}(hx:GZ s.heap x d1 r1)(hy:GZ s.heap y d2 r2)(h:Q (decide (d1<d2\/(d1=d2/\r1<r2))) s) :
  wpAny (model prog w) A (keyLt' (tuples' true) (.ref x) (.ref y)) Q E s:=by
 obtain⟨ox,t1,u1,n1,ex,_,dx⟩:=hx;obtain⟨oy,t2,u2,n2,ey,_,dy⟩:=hy;refine kat_lt ex dx ey dy (kat_cons (wpAny_eqBool_int ?_));by_cases e:d1=d2
 ·subst e;rw[beq_self_eq_true];refine kat_yes (kat_cons (wpAny_eqBool_int ?_));by_cases e2:r1=r2
  ·subst e2;rw[beq_self_eq_true];refine kat_yes (kat_nil ?_);have z:decide (d1<d1\/(d1=d1/\r1<r1))=decide ((#[Value.int d1 t1,Value.int r1 u1]:Array Value).size<(#[Value.int d1 t2,Value.int r1 u2]:Array Value).size):=by
    rw[decide_eq_decide];simp
   rw[← z];exact h
  ·rw[beq_eq_false_iff_ne.mpr e2];refine kat_no ?_
   show wpAny _ _ (oneLt' false _ _) _ _ _;refine kat_one _ _ (lt_int ?_);have z:decide (d1<d1\/(d1=d1/\r1<r2))=decide (r1<r2):=by rw[decide_eq_decide];simp
   rw[z] at h;exact h
 ·rw[beq_eq_false_iff_ne.mpr e];refine kat_no ?_
  show wpAny _ _ (oneLt' true _ _) _ _ _;refine oneLt_int ?_;have z:decide (d1<d2\/(d1=d2/\r1<r2))=decide (d1<d2):=by rw[decide_eq_decide];simp[e]
  rw[z] at h;exact h
noncomputable def zH(h:Heap)(ks:List Value)(kv:List (Int×Int)):Prop:=ks.length=kv.length/\∀i (hi:i<kv.length),∃a,ks.getD i Value.none = .ref a/\GZ h a (kv[i]).1 (kv[i]).2
noncomputable def kg(kv:List (Int×Int))(i:Nat):Int:=(kv.getD i (0,0)).1*64+(kv.getD i (0,0)).2
theorem abx{ks:List Value}{kv:List (Int×Int)}{i j:Nat}{C:Bool->Shared->Prop}(hk:zH s.heap ks kv)(hb:∀q∈kv,0<=q.2/\q.2<64)(hi:i<kv.length)(hj:j<kv.length)(h:C (klt (kg kv) i j) s) :
  kas_ask prog w A (tuples' true) ks i j C s:=by
 obtain⟨a,ea,pa⟩:=hk.2 i hi;obtain⟨b,eb,pb⟩:=hk.2 j hj;unfold kas_ask;rw[ea,eb];have h1:=hb _ (getElem_mem hi);have h2:=hb _ (getElem_mem hj);have z:klt (kg kv) i j=decide ((kv[i]).1<(kv[j]).1\/((kv[i]).1=(kv[j]).1/\(kv[i]).2<(kv[j]).2)):=by
  unfold klt kg;rw[decide_eq_decide,show kv.getD i (0,0)=kv[i] by simp[hi],show kv.getD j (0,0)=kv[j] by simp[hj]]
  constructor
  ·intro q;lia
  ·intro q;lia
 rw[z] at h;exact abw pa pb h
end
noncomputable def KB{α:Type}(n:Nat)(P:α->Prop):KasT α->Prop
 | .ret a=>P a
 | .ask i j k=>i<n/\j<n/\∀b,KB n P (k b)
theorem KB.bind{α β:Type}{n:Nat}{P:α->Prop}{R:β->Prop}{f:α->KasT β}(hf:∀a,P a->KB n R (f a)):∀t:KasT α,KB n P t->KB n R (t.bind f)
 | .ret a,h=>hf a h
 | .ask i j k,h=>⟨h.1,h.2.1,λb=>KB.bind hf (k b) (h.2.2 b)⟩
theorem G0{α:Type}{n:Nat}{P:α->Prop}{cmp:Nat->Nat->(Bool->Shared->Prop)->Shared->Prop}{lt:Nat->Nat->Bool}{s:Shared}(hc:∀i j C,i<n->j<n->C (lt i j) s->cmp i j C s) :
  ∀(t:KasT α) (Q:α->Shared->Prop),KB n P t->Q (dP lt t) s->t.kasWp cmp Q s
 | .ret _,_,_,h=>h
 | .ask i j k,Q,z,h=>hc i j _ z.1 z.2.1 (G0 hc (k (lt i j)) Q (z.2.2 _) h)
noncomputable def AllLt(n:Nat)(p:Array Nat):Prop:=0<n/\∀x∈p.toList,x<n
section
variable{n:Nat}{p q:Array Nat}
theorem AllLt.at(h:AllLt n p)(i:Nat):p.getD i 0<n:=by
 rw[getD_eq_getD_getElem?];cases e:p[i]? with
 | none=>exact h.1
 | some x=>exact h.2 x (mem_of_getElem? (by rw[← getElem?_toList] at e;exact e))
theorem AllLt.perm(h:AllLt n p)(e:q.Perm p):AllLt n q:=⟨h.1,λx hx=>h.2 x (e.toList.mem_iff.mp hx)⟩
theorem AllLt.rev(h:AllLt n p)(i j:Nat):AllLt n (kas_rev p i j):=h.perm (mirror_perm _ _ _ _)
theorem G1(h:AllLt n p):∀f m,KB n (λ_=>True) (kas_asc p f m)
 | 0,_=>trivial
 | f+1,m=>⟨h.at _,h.at _,λb=>by
  show KB n _ (if b=true then _ else _)
  cases b
  ·exact G1 h f (m+1)
  ·trivial⟩
theorem zI:∀(f:Nat) (p:Array Nat) (m q:Nat),AllLt n p->KB n (λr=>AllLt n r.1) (kas_desc f p m q)
 | 0,p,_,_,h=>h
 | f+1,p,m,q,h=>⟨h.at _,h.at _,λb=>by
  show KB n _ (if b=true then(if q > 0 then _ else _) else _)
  cases b
  ·refine⟨h.at _,h.at _,λd=>?_⟩
   show KB n _ (if d=true then _ else _)
   cases d
   ·exact zI f p _ _ h
   ·exact h
  ·rw[if_pos rfl];split
   ·exact zI f _ _ _ (h.rev _ _)
   ·exact zI f _ _ _ h⟩
theorem Qa{m r:Nat}(h:AllLt n p):KB n (λr=>AllLt n r.2) (kas_tail3 m r p):=by
 unfold kas_tail3;refine KB.bind (P:=λ_=>True) (λa _=>?_) _ (G1 (h.rev _ _) _ _)
 show AllLt n _;exact h.rev _ _
theorem Qc{m r:Nat}(h:AllLt n p):KB n (λr=>AllLt n r.2) (kas_descPart m r p):=KB.bind (λa ha=>by
 split
 ·exact Qa (ha.rev _ _)
 ·exact Qa ha) _ (zI _ _ _ _ h)
theorem aby{r:Nat}(h:AllLt n p):KB n (λr=>AllLt n r.2) (kas_count r p):=KB.bind (λm _=>by
 split
 ·exact h
 ·split
  ·refine⟨h.at _,h.at _,λb=>?_⟩
   show KB n _ (if b=true then _ else _)
   cases b
   ·exact Qc (h.rev _ _)
   ·exact h
  ·exact Qc h) _ (G1 h _ _)
theorem G2{k:Nat}(h:AllLt n p):∀f l r,KB n (λ_=>True) (kas_place p k f l r)
 | 0,_,_=>trivial
 | f+1,l,r=>by
  unfold kas_place;split
  ·trivial
  ·refine⟨h.at _,h.at _,λb=>?_⟩
   show KB n _ (if b=true then _ else _)
   cases b
   ·exact G2 h f _ _
   ·exact G2 h f _ _
theorem Qd:∀(f:Nat) (p:Array Nat) (k:Nat),AllLt n p->KB n (AllLt n) (kas_bin f p k)
 | 0,_,_,h=>h
 | f+1,p,k,h=>KB.bind (λl _=>Qd f _ _ (h.perm (bubble_perm _ _ _))) _ (G2 h _ _ _)
theorem Qe(h:1<=n):KB n (AllLt n) (kas_sort n):=KB.bind (λr hr=>by
 split
 ·exact Qd _ _ _ hr
 ·exact hr) _ (aby ⟨h,λx hx=>by simpa using hx⟩)
end
theorem abz{prog:Program}{w:World}{A:Around}{s:Shared}{ks:List Value}{kv:List (Int×Int)}{Q:Array Nat->Shared->Prop}(h1:1<=kv.length)(hk:zH s.heap ks kv)(hb:∀q∈kv,0<=q.2/\q.2<64)(hd:kv.Nodup)
  (h:∀p:Array Nat,p.Perm (toArray (List.range kv.length))->(∀i j,i<j->j<kv.length->kg kv (p.getD i 0)<kg kv (p.getD j 0))->Q p s) :
  (kas_sort kv.length).kasWp (kas_ask prog w A (tuples' true) ks) Q s:=by
 have hi:∀i j,i<kv.length->j<kv.length->kg kv i=kg kv j->i=j:=λi j a b e=>by
  unfold kg at e;rw[show kv.getD i (0,0)=kv[i] by simp[a],show kv.getD j (0,0)=kv[j] by simp[b]] at e
  have z1:=hb _ (getElem_mem a);have z2:=hb _ (getElem_mem b);have e1:(kv[i]).1=(kv[j]).1:=by lia
  have e2:(kv[i]).2=(kv[j]).2:=by lia
  exact(getElem_inj hd).mp (Prod.ext e1 e2)
 obtain⟨q,e,hp,ha⟩:=P9 (key:=kg kv) h1 hi;exact G0 (lt:=klt (kg kv)) (λi j C a b c=>abx hk hb a b c) _ _ (Qe h1) (by rw[e];exact h q hp ha)
end _L
namespace _L
open PySem PySem.Spec PyProof.Rows
theorem abA{X:Cx}{st:Stmt}{h₀:ExceptHandler}{hs:List ExceptHandler}{pos:Pos}{t:TS}(hx:X.xe=λ_ _=>False)(hb:PS X st t):PS X (.Try [st] (h₀::hs) [] [] pos) t:=by
 intro pins s σ H D I h;refine wpAny_Try_except (wpAny_execs_cons (wpAny_mono (hb pins s σ H D I h) (λf s1 q=>?_) λe s' z=>?_))
 ·cases f with
  | next=>exact wpAny_execs_nil (wpAny_execs_nil q)
  | ret v=>exact q
  | brk=>exact q
  | cont=>exact q
 ·rw[hx] at z;exact False.elim z
theorem abB{X:Cx}{K:Frag}{e:Expr}{f:Str}{pos:Pos}{ta:TE}(h:X.K=K)(he:PE X e ta)(hb:attributeBase e f X.env (eval e X.env)=eval e X.env):PE X (.Attribute e f pos) (yM K ta f):=h▸cW he hb
section
variable{K:Frag}{C:Addr}{H H':Hp}{l:Addr}{ps:List Addr}{qs:List Ak}
structure G3(T:Int)(q:Ak):Prop where
 f0:0<=q.first
 m0:0<=q.many
 m1:q.many<=16
 fit:q.first+q.many<=T
end
noncomputable abbrev G4(qual:Str)(scope:Scope)(L f c':Addr)(cl:List (Str×Addr)):Env:=W.envX qual scope L f (.ref c') cl
noncomputable def vq(X:Cx)(A:Around)(qual:Str)(scope:Scope)(f c':Addr)(cl:List (Str×Addr))(N:List Str)(s:Shared)(H:Hp):Cx where
 prog:=X.prog
 w:=X.w
 K:=X.K
 mg:=X.mg
 base:=X.base
 A:=A.deeper (G4 qual scope s.heap.objs.size f c' cl)
 N:=N
 bG:=s
 gz:=H
 env:=G4 qual scope s.heap.objs.size f c' cl
 outer:=X.stack
 stack:=G4 qual scope s.heap.objs.size f c' cl::X.stack
 ex:=[]
 fn:=λ_=>false
 calm:=X.calm
 pn:=[]
 xe:=λ_ _=>False
structure lq(X:Cx)(scope:Scope)(cl:List (Str×Addr))(ps fs:List Str)(fv:List Nat):Prop where
 mj:closureFor scope X.env=pure cl
 kind:scope.kind = .function
 co:scope.isCoroutine=false
 gen:scope.isGenerator=false
 kY:∀y∈scope.names,y.2≠.cell
 par:∀y∈ps,scope.names.lookup y=some .local
 sub:∀p∈cl,X.env.cells.lookup p.1=some p.2
 has:∀y∈scope.names,y.2 = .free->∃c,cl.lookup y.1=some c
 free:fv.map (λj=>X.N[j]?)=fs.map some
 fk:∀y∈fs,scope.names.lookup y=some .free/\X.env.scope.names.lookup y=some .cell
 nd:(ps++fs).Nodup
theorem Qf{α:Type}:∀ {l:List (Str×α)} {x:Str} {v:α},(l.map (·.1)).Nodup->(x,v)∈l->l.lookup x=some v
 | (y,u)::r,x,v,nd,hm=>by
  rw[map_cons,nodup_cons] at nd;rcases mem_cons.mp hm with e | e
  ·cases e;simp[lookup_cons]
  ·have:x≠y:=λz=>nd.1 (by rw[← z];exact mem_map.mpr ⟨_,e,rfl⟩)
   rw[lookup_cons,beq_eq_false_iff_ne.mpr this];exact Qf nd.2 e
section
variable{X:Cx}{pins:List (Addr×Obj)}{σ:St}{H:Hp}{s:Shared}{scope:Scope}{cl:List (Str×Addr)}{ps fs:List Str}{fv:List Nat}{A:Around}{qual:Str}{f c':Addr}
noncomputable def lz(σ:St)(vs:List V)(fv:List Nat):St:=vs.map some++fv.map λj=>(σ[j]?).getD none
theorem lq.cell(S:lq X scope cl ps fs fv){x:Str}{c:Addr}(e:cl.lookup x=some c):X.env.cells.lookup x=some c:=S.sub (x,c) (o_ e)
theorem abC{ps:List Str}{us:List Value}{i:Nat}{x:Str}{u:Value}(nd:ps.Nodup)(e1:ps[i]? = some x)(e2:us[i]? = some u):(ps.zip us).reverse.lookup x=some u:=by
 have G5:((ps.zip us).reverse.map (·.1)).Nodup:=by
  rw[List.map_reverse];refine List.pairwise_reverse.mpr (Pairwise.imp Ne.symm (show ((ps.zip us).map (·.1)).Nodup from ?_));have:(ps.zip us).map (·.1)=ps.take us.length:=by
   clear e1 e2 nd
   induction ps generalizing us with
   | nil=>simp
   | cons a r ih=>cases us with
    | nil=>simp
    | cons b q=>simp[ih]
  rw[this];exact nd.sublist (List.take_sublist _ _)
 have hm:(x,u)∈(ps.zip us).reverse:=by
  rw[List.mem_reverse];refine mem_of_getElem? (i:=i) ?_;rw[List.getElem?_zip_eq_some];exact⟨e1,e2⟩
 exact Qf G5 hm
theorem lq.inv(S:lq X scope cl ps fs fv)(I:Inv X pins σ H s)(hA:A.frames=some X.stack)(hd:X.calm=true->A.handled=none){h1:Heap}{tk:Nat}{us:List Value}{vs:List V}(r:Vals vs us)(hl:vs.length=ps.length)
  (old:∀b o,s.heap.get? b=some o->h1.get? b=some o) (kW:h1.Ns s.heap.objs.size λy=>(ps.zip us).reverse.lookup y) :
  Inv (vq X A qual scope f c' cl (ps++fs) s H) [] (lz σ vs fv) H { s with heap:=h1,toks:=tk }:=by
 have I1:Inv X pins σ H { s with heap:=h1,toks:=tk }:=I.kept old;have hlen:fv.length=fs.length:=by simpa using congrArg List.length S.free
 refine⟨⟨I.ok.mod,S.kind,rfl,rfl,Nat.le_refl _,λx y c e1 e2=>I.ok.inj x y c (S.cell e1) (S.cell e2),λx hx=>?_,λx c z _=>?_,hd,Around.frames_deeper hA,.inr ⟨rfl,rfl⟩,λb z=>absurd (show b∈([]:List Addr) from z) (by simp),I.bs,Nat.le_trans I.ok.eW I.sz,
  λb _ _ z=>absurd (show b∈([]:List Addr) from z) (by simp),λb z=>absurd (show b∈([]:List Addr) from z) (by simp),I.stack,I.um⟩,rfl,I.bare,Un.kept old,⟨_,kW,λi x v e1 e2 e3=>?_⟩,λx c e=>?_,I.aG.fresh (Nat.le_refl _),λx c e=>I.iF x c (S.cell e),
  λp hp=>absurd (show p∈([]:List (Addr×Obj)) from hp) (by simp),I1.aG,?_⟩
 ·have hx:scope.names.lookup x=some .cell\/scope.names.lookup x=some .free:=hx;rcases hx with z | z
  ·exact absurd rfl (S.kY _ (o_ z))
  ·exact S.has _ (o_ z) rfl
 ·cases (show false=true from z)
 ·have e1:(ps++fs)[i]? = some x:=e1;unfold lz at e2;by_cases hi:i<ps.length
  ·rw[getElem?_append_left hi] at e1;rw[getElem?_append_left (by simp;lia),getElem?_map] at e2
   cases hv:vs[i]? with
   | none=>rw[hv] at e2;simp at e2
   | some v' =>
    rw[hv] at e2;simp only[map_some,Option.some.injEq] at e2;subst e2;obtain⟨u,hu,ru⟩:=r.get hv;exact⟨u,ru,.inl ⟨S.par x (mem_of_getElem? e1),abC (nodup_append.mp S.nd).1 e1 hu⟩⟩
  ·rw[getElem?_append_right ∅] at e1
   rw[getElem?_append_right (by simp;lia)] at e2
   simp only[length_map,getElem?_map,hl] at e2;cases hj:fv[i - ps.length]? with
   | none=>rw[hj] at e2;simp at e2
   | some j =>
    rw[hj] at e2;simp only[map_some,Option.some.injEq] at e2;have hN:X.N[j]? = some x:=by
     have q:=congrArg (λl=>l[i - ps.length]?) S.free;simp only[getElem?_map,hj,map_some] at q;rw[e1] at q;exact(Option.some.inj q)
    have Gf:σ[j]? = some (some v):=by
     cases z:σ[j]? with
     | none=>rw[z] at e2;simp at e2
     | some y=>rw[z] at e2;simp at e2;rw[e2]
    obtain⟨f1,f2⟩:=S.fk x (mem_of_getElem? e1);obtain⟨m,hn,hlk⟩:=I1.loc;obtain⟨u,ru,lk⟩:=hlk j x v hN Gf (.inr (.inl f2));refine⟨u,ru,?_⟩;rcases lk with⟨k,_⟩ | ⟨_,c,ec,hc⟩
    ·have k:X.env.scope.names.lookup x=some .local:=k;rw[f2] at k;cases k
    ·obtain⟨c2,e'⟩:=S.has _ (o_ f1) rfl;have:=S.cell e';rw[ec] at this;cases this;exact .inr ⟨.inr f1,c,e',hc⟩
 ·obtain⟨v,z⟩:=I1.cell x c (S.cell e);exact⟨v,z⟩
 ·unfold lz
  show _=(ps++fs).length;simp only[length_append,length_map];lia
theorem abD{name:Str}{params:Arguments}{body:Expr}{te:TE}{pm d_:Value}{us:List Value}{vs:List V}{Q:VK}(S:lq X scope cl ps fs fv)(I:Inv X pins σ H s)(hA:A.frames=some X.stack)(hd:X.calm=true->A.handled=none)(mD:A.depth<recursionLimit)
  (ho:s.heap.get? f=some (kla_obj name qual params body scope cl pm c' d_)) (cY:s.heap.CodeRec (.ref c') qual)
  (j8:bindArgs (W.kla_fn name qual params body scope cl pm (.ref c') d_) ⟨us,[]⟩=pure (ps.zip us)) (r:Vals vs us) (hl:vs.length=ps.length)
  (he:PE (vq X A qual scope f c' cl (ps++fs) s H) body te) (h:te (lz σ vs fv) H Q) :
  wpAny (model X.prog X.w) A (call (.ref f) us) (λu s'=>∃v H',Inv X pins σ H' s'/\RelV v u/\Q v H'/\Un (cA X.stack) [] H H' s.heap s'.heap) (λ_ _=>False) s:=by
 refine wpAny_call (W.kla_callFunE (A:=A) mD ho rfl S.co S.gen rfl cY ?_);rw[j8];refine wpAny_pure (wpAny_newFunctionEnv S.kY (λy hy=>S.par _ (of_mem_zip hy).1) (λh1 kW Qg=>⟨(I.nolimit).fresh _ Qg,?_⟩) S.kind);have old:∀b o,s.heap.get? b=some o->h1.get? b=some o:=λb o e=>Qg.extBut b o (Nat.ne_of_lt (lt_size e)) (get?_push_of_some _ e);have J:=S.inv (qual:=qual) (f:=f) (c':=c') (A:=A) (tk:=s.toks+(ps.zip us).length) I hA hd r hl old kW;refine W.kla_codeExpr (wpAny_mono (he [] _ _ _ Q J h) (λu s' hq=>?_) λ_ _ z=>False.elim z);obtain⟨v,H',J',rv,q⟩:=hq;exact⟨v,H',I.yp J'.os J'.base J'.aG J'.bare (λ_ z=>nomatch z),rv,q,J'.base⟩
end
noncomputable def pC(c':Addr)(qual:Str):HO:=.ext λh=>h.CodeRec (.ref c') qual
noncomputable def cu(P:Addr)(pos:Pos)(qual:Str)(H:Hp):Prop:=∃ps,H P=some (.eV ps)/\TriplesOk ps.toList/\(codeAmong pos ps.toList=none\/∃c',codeAmong pos ps.toList=some (.ref c')/\H c' = some (pC c' qual))
structure bF(mg:Str->Option Value)(base:Heap)(c P:Addr):Prop where
 hd:W.CodeHd base c P
 bm:∃bm ob,mg "__builtins__" = some (.ref bm)/\bm≠builtinsNs/\base.get? bm=some ob/\ob.cls = .type "module"/\ob.dict=some builtinsNs/\ob.data = .plain
theorem abE{P:Program}{w:World}{H:Hp}{h:Heap}{c':Addr}{qual:Str}(x:h.CodeRec (.ref c') qual):dw P w H h c' (pC c' qual):=by
 refine⟨x,?_,λh1 h2 y k=>?_⟩
 ·obtain⟨c,o,vs,t,e,g,_⟩:=x;cases e;exact⟨o,g⟩
 ·obtain⟨c,o,vs,t,e,g,r⟩:=y;cases e;exact⟨c',o,vs,t,rfl,k o g,r⟩
theorem abF{P:Program}{w:World}{H:Hp}{h:Heap}{c':Addr}{qual:Str}(x:cN P w H h)(e:H c' = some (pC c' qual)):h.CodeRec (.ref c') qual:=(x c' _ e).1
theorem Qh{a b:Int}{t u:Tok}{c:Value}:∀ {l:List Value},TriplesOk l->TriplesOk (l++[.int a t,.int b u,c])
 | [],_=>trivial
 | .int _ _::.int _ _::_::r,h=>Qh (l:=r) h
section
variable{X:Cx}{pins:List (Addr×Obj)}{σ:St}{H:Hp}{s:Shared}{scope:Scope}{cl:List (Str×Addr)}{M:Model}{A:Around}{E:Value->Shared->Prop}{name qual:Str}{params:Arguments}{body:Expr}{pos:Pos}{firstLine:Nat}{c P:Addr}
theorem abG{Q:Value->Shared->Prop}(B:bF X.mg X.base c P)(sJ:X.env.code = .ref c)(mF:closureFor scope X.env=pure cl)(I:Inv X pins σ H s)(hT:cu P pos qual H)
  (h:∀(f c':Addr) (d_ pm:Value) (H':Hp) (s':Shared),Inv X ((f,kla_obj name qual params body scope cl pm c' d_)::pins) σ H' s'->SameBut P H H'->cu P pos qual H'->H' c' = some (pC c' qual)->Q (.ref f) s') :
  wpAny M A (makeFunction name qual params (.expr body) scope X.env [] [] [] pos firstLine) Q E s:=by
 obtain⟨ps,hP,tr,hc⟩:=hT;have oP:s.heap.get? P=some (W.tabObj ps):=I.aG P _ hP;have G6:s.heap.Ns mainGlobals X.mg:=I.mod.glob.keeps I.bk;obtain⟨bm,ob,b1,b2,b3,b4,b5,b6⟩:=B.bm;have hgP:mainGlobals≠P:=λq=>by
  obtain⟨o,es,ep,e,hd,_⟩:=G6;rw[q,oP] at e;cases e;cases hd
 have hbP:bm≠P:=λq=>by
  have e:=I.bk _ _ b3;rw[q,oP] at e;cases e;cases b4
 have hbG:bm≠mainGlobals:=λq=>by
  obtain⟨o,es,ep,e,hd,_⟩:=I.mod.glob;rw[q,e] at b3;cases b3;rw[hd] at b6;cases b6
 have Qi:s.heap.BuiltinsAt X.mg P:=⟨bm,ob,b1,b2,hbG,hbP,I.bk _ _ b3,b4,b5,b6⟩;have nf:∀(h1:Heap) (o:Obj),s.heap.objs.size<=h1.objs.size->(h1.push o).get? h1.objs.size=some o->True:=λ_ _ _ _=>trivial;have LP:X.env.locals≠P:=λz=>by rw[← z,I.free] at hP;cases hP
 rcases hc with hc | ⟨c',hc,Qj⟩
 ·refine W.kla_makeFunction (mg:=X.mg) mF I.ok.glob G6 sJ (B.hd.keeps I.bk) oP tr hc hgP Qi λc' d_ h1 tk hx Qk bL abH htb=>?_;have nc:H c' = none:=I.aG.fresh Qk;have cP:c'≠P:=λz=>by rw[z,hP] at nc;cases nc
  have kp:∀b o,b≠P->s.heap.get? b=some o->(h1.push (kla_obj name qual params body scope cl ((X.mg "__name__").getD .none) c' d_)).get? b=some o:=λb o hb e=>get?_push_of_some _ (hx b o hb e);have Ql:=get?_push_of_some (kla_obj name qual params body scope cl ((X.mg "__name__").getD .none) c' d_) htb;have sL:∀b u,H b=some u->b≠P->upd (upd H P (.eV (ps ++ #[rawInt pos.line,rawInt pos.col,.ref c']))) c' (pC c' qual) b=some u:=λb u e hb=>by
   rw[aF (λz=>by rw[z,nc] at e;cases e),aF hb];exact e
  have I1:Inv X pins σ (upd (upd H P (.eV (ps ++ #[rawInt pos.line,rawInt pos.col,.ref c']))) c' (pC c' qual)) { s with heap:=h1.push (kla_obj name qual params body scope cl ((X.mg "__name__").getD .none) c' d_),toks:=tk }:=by
   refine I.step (g':=s.gens) (d':=s.drawn) (ch:=[]) (λ_ z=>nomatch z) (λb o _ _ _ e n=>kp b o (λz=>by rw[z,hP] at n;cases n) e) (λb o _ _ _ e n=>⟨o.slots,kp b o (λz=>by rw[z,hP] at n;cases n) e⟩) (λb o _ e n=>?_)
    (λb o _ e=>?_) (λb xs e=>sL b _ e (λz=>by rw[z,hP] at e;cases e)) (λb o u e=>sL b _ e (λz=>by rw[z,hP] at e;cases e)) (λb zJ e=>?_) (λm hm=>(hm.extBut hx LP).push _) (λb v e=>?_) I.bare
   ·rw[aF (λz=>absurd (Nat.lt_of_lt_of_le (lt_size e) Qk) (by rw[z];exact Nat.lt_irrefl _)),aF (λz=>by rw[z,hP] at n;cases n)];exact n
   ·by_cases hb:b=P
    ·rw[hb];exact⟨_,Ql⟩
    ·exact⟨o,kp b o hb e⟩
   ·by_cases hb:b=P
    ·subst hb;rw[hP] at e;cases e;exact⟨#[rawInt pos.line,rawInt pos.col,.ref c'],by rw[aF cP.symm,aD]⟩
    ·exact⟨#[],by rw[Array.append_empty];exact sL b _ e hb⟩
   ·by_cases Qm:b=c'
    ·subst Qm;rw[aD] at e;cases e;exact abE (abH.push _)
    ·rw[aF Qm] at e;by_cases hb:b=P
     ·subst hb;rw[aD] at e;cases e;exact Ql
     ·rw[aF hb] at e;refine(I.aG b v e).g9 (λd o hd q=>kp d o ?_ q) (λd q=>sL d _ q (λz=>by rw[z,hP] at q;cases q)) (λd xs q=>sL d _ q (λz=>by rw[z,hP] at q;cases q))
      rcases hd with z | z
      ·rw[z];exact hb
      ·exact λy=>by rw[y,hP] at z;cases z
  have of:=get?_push_size h1 (o:=kla_obj name qual params body scope cl ((X.mg "__name__").getD .none) c' d_) rfl;have G7:s.heap.objs.size<=h1.objs.size:=by lia
  refine h h1.objs.size c' d_ ((X.mg "__name__").getD .none) _ _ (I1.i8 λp hp=>?_) ?_ ⟨_,by rw[aF cP.symm,aD],?_,.inr ⟨c',?_,aD⟩⟩ aD
  ·rcases mem_cons.mp hp with e | hp
   ·rw[e];refine⟨of,?_,λz=>absurd (Nat.lt_of_lt_of_le I.lt (by assumption)) (by rw[← z];exact Nat.lt_irrefl _),I.rM G7,λv z=>by cases z⟩
    show upd (upd H P _) c' _ h1.objs.size=none;rw[aF (ne_of_gt bL),aF (ne_of_gt (Nat.lt_of_lt_of_le (lt_size oP) G7))];exact I.aG.fresh G7
   ·exact I1.pin p (mem_append_right _ hp)
  ·intro b o e hb;exact sL b o e hb
  ·rw[Array.toList_append];exact Qh tr
  ·rw[Array.toList_append];exact codeAmong_snoc _ tr hc
 ·refine W.kla_makeFunctionHit (mg:=X.mg) mF I.ok.glob G6 sJ (B.hd.keeps I.bk) oP tr hc Qi λd_ h1 tk hk hsz=>?_;have kp:∀b o,s.heap.get? b=some o->(h1.push (kla_obj name qual params body scope cl ((X.mg "__name__").getD .none) c' d_)).get? b=some o:=λb o e=>get?_push_of_some _ (hk b o e);have I1:=I.kept (t':=tk) kp;have of:=get?_push_size h1 (o:=kla_obj name qual params body scope cl ((X.mg "__name__").getD .none) c' d_) rfl;refine h h1.objs.size c' d_ ((X.mg "__name__").getD .none) _ _ (I1.i8 λp hp=>?_) (λb o e _=>e) ⟨ps,hP,tr,.inr ⟨c',hc,Qj⟩⟩ Qj;rcases mem_cons.mp hp with e | hp
  ·rw[e];exact⟨of,I.aG.fresh hsz,λz=>absurd (Nat.lt_of_lt_of_le I.lt (by assumption)) (by rw[← z];exact Nat.lt_irrefl _),I.rM hsz,λv z=>by cases z⟩
  ·exact I1.pin p (mem_append_right _ hp)
end
end _L
namespace _L
open PySem PySem.Spec PyProof.Rows PySem.W
section
variable{prog:Program}{w:World}{A:Around}{E:Value->Shared->Prop}{s:Shared}
theorem abI{r S:Addr}{n:Nat}{t u v:Tok}{R:Result->Shared->Prop}(hh:A.handled=none)(hr:IsRange s.heap r 0 (n:Int) 1 t u v)(hn:n<64)(hS:s.heap.get? S=some { cls:=.type "list",data:=.seq #[] })
  (hR:∀(h':Heap) (tk:Nat) (acc:Array Value) (c:Nat),(∀b o,b≠S->s.heap.get? b=some o->h'.get? b=some o)->h'.get? S=some { cls:=.type "list",dict:=none,data:=.seq acc c,slots := #[] }->acc.size=n->(∀(i:Nat) (x:Value),acc[i]? = some x->∃t,x = .int (i:Int) t)->R (.ok (.ret (.ref S))) { s with heap:=h',toks:=tk }) :
  codeAny (model prog w) A (.builtin "list.__iadd__" ⟨[.ref S,.ref r],[]⟩) R s:=by
 refine codeAny_builtin PySem.F.entry_list_iadd ?_;rw[Around.under_plainId plain_list_iadd _];have en:Builtin.Range.rangeSize 0 (n:Int) 1=((n:Nat):Int):=by rw[rangeSize_one];split <;> lia
 refine wpAny_extend_range hh hr (small_one ∅ ∅ ∅ ∅) en ∅ S (.ref S) _ hS λh' tk acc c hk jj jL=>hR h' tk acc c hk jj jL.1 λi x e=>?_
 obtain⟨t,z⟩:=jL.2 i x e;exact⟨t,by rw[z];congr 1;lia⟩
theorem abJ{r:Addr}{n:Nat}{t u v:Tok}{Q:List Value->Shared->Prop}(hh:A.handled=none)(hr:IsRange s.heap r 0 (n:Int) 1 t u v)(hn:n<64)
  (hQ:∀(h':Heap) (tk:Nat) (vs:List Value),(∀b o,s.heap.get? b=some o->h'.get? b=some o)->s.heap.objs.size<h'.objs.size->vs.length=n->(∀(i:Nat) (x:Value),vs[i]? = some x->∃t,x = .int (i:Int) t)->Q vs { s with heap:=h',toks:=tk }) :
  wpAny (model prog w) A (collect (.ref r)) Q E s:=by
 unfold collect;refine wpAny_bind (wpAny_runValue (codeAny_builtin PySem.F.entry_proto_collect ?_));rw[Around.under_plainId PySem.F.plain_proto_collect _];show wpAny _ A.in1 (newList [] >>= λl=>again (.builtin "list.__iadd__" ⟨[l,.ref r],[]⟩)) _ _ s;refine wpAny_bind (wpAny_newObj_type (wpAny_pure ⟨plainId_quiet plain_list_iadd _,abI hh (get?_push_of_some _ hr) hn (get?_push_size _ rfl) λh' tk acc c hk hS jL ha=>?_⟩))
 show wpAny _ A (load s.heap.objs.size >>= _) _ _ _;refine wpAny_bind (wpAny_load hS (wpAny_pure (hQ h' tk acc.toList (λb o e=>hk b o (Nat.ne_of_lt (lt_size e)) (get?_push_of_some _ e)) (lt_size hS) (by simpa using jL) λi x e=>ha i x (by simpa using e))))
end
section
variable{X:Cx}{pins:List (Addr×Obj)}{σ:St}{H:Hp}{s:Shared}
theorem Inv.chg{h':Heap}{tk:Nat}{k:Addr}{m:Str->Option Value}(I:Inv X pins σ H s)(hm:s.heap.Ns X.env.locals m)(ie:h'.Ns X.env.locals m)(n:H k=none)(hs:X.bG.heap.objs.size<=k)(hL:k≠X.env.locals)
  (hc:∀x c,X.env.cells.lookup x=some c->c≠k) (hp:∀p∈X.pn++pins,p.1≠k) (ho:∃o,h'.get? k=some o) (kk:∀b o,b≠X.env.locals->b≠k->s.heap.get? b=some o->h'.get? b=some o):Inv X pins σ H { s with heap:=h',toks:=tk }:=by
 have nl:∀b v,H b=some v->b≠X.env.locals:=λb v e z=>by rw[z,I.free] at e;cases e
 have nk:∀b v,H b=some v->b≠k:=λb v e z=>by rw[z,n] at e;cases e
 refine I.step (g':=s.gens) (d':=s.drawn) (ch:=[k]) (λb z=>by rw[mem_singleton.mp z];exact⟨.inr hs,hL,hc,hp⟩) (λb o hb _ hk e _=>kk b o hb (by simpa using hk) e) (λb o hb _ hk e _=>⟨o.slots,kk b o hb (by simpa using hk) e⟩) (λ_ _ _ _ n=>n) (λb o hk e=>?_) (λ_ _ e=>e) (λ_ _ _ e=>e)
  (λb ps e=>⟨#[],by rw[e];simp⟩) (λm' sG=>?_) (λb v e=>(I.aG b v e).g9 (λc o hc e'=>kk c o ?_ ?_ e') (λ_ e=>e) (λ_ _ e=>e)) I.bare
 ·by_cases hb:b=X.env.locals
  ·obtain⟨o',_,_,z,_⟩:=ie;exact⟨o',by rw[hb];exact z⟩
  ·exact⟨o,kk b o hb (by simpa using hk) e⟩
 ·have:m' = m:=by
   obtain⟨o1,es1,OY,g1,d1,k1,z1⟩:=sG;obtain⟨o2,jf,Gp,g2,d2,k2,z2⟩:=hm;rw[g1] at g2;cases g2;rw[d1] at d2;cases d2
   funext x
   rw[← z1 x,← z2 x]
  rw[this];exact ie
 ·rcases hc with z | z
  ·rw[z];exact nl b v e
  ·exact nl c _ z
 ·rcases hc with z | z
  ·rw[z];exact nk b v e
  ·exact nk c _ z
theorem Inv.vt{h':Heap}{tk:Nat}{k D:Addr}{xs:List V}{m:Str->Option Value}(I:Inv X pins σ H s)(hm:s.heap.Ns X.env.locals m)(ie:h'.Ns X.env.locals m)(nk:H k=none)(nD:H D=none)
  (two:∀b,b=k\/b=D->X.bG.heap.objs.size<=b/\b≠X.env.locals/\(∀x c,X.env.cells.lookup x=some c->c≠b)/\∀p∈X.pn++pins,p.1≠b)
  (kk:∀b o,b≠X.env.locals->b≠k->b≠D->s.heap.get? b=some o->h'.get? b=some o) (new:dw X.prog X.w (upd H D (.lst xs)) h' D (.lst xs)):Inv X pins σ (upd H D (.lst xs)) { s with heap:=h',toks:=tk }:=by
 have nl:∀b v,H b=some v->b≠X.env.locals:=λb v e z=>by rw[z,I.free] at e;cases e
 have n1:∀b v,H b=some v->b≠k:=λb v e z=>by rw[z,nk] at e;cases e
 have n2:∀b v,H b=some v->b≠D:=λb v e z=>by rw[z,nD] at e;cases e
 have up:∀b v,H b=some v->upd H D (.lst xs) b=some v:=λb v e=>by rw[aF (n2 b v e)];exact e
 have mem:∀b,b∉[k,D]->b≠k/\b≠D:=λb h=>⟨λz=>h (by rw[z];exact .head _),λz=>h (by rw[z];exact .tail _ (.head _))⟩
 refine I.step (g':=s.gens) (d':=s.drawn) (ch:=[k,D]) (λb z=>?_) (λb o hb _ hk e _=>kk b o hb (mem b hk).1 (mem b hk).2 e) (λb o hb _ hk e _=>⟨o.slots,kk b o hb (mem b hk).1 (mem b hk).2 e⟩) (λb o hk _ n=>by rw[aF (mem b hk).2];exact n) (λb o hk e=>?_) (λb xs e=>up b _ e) (λb o u e=>up b _ e)
  (λb ps e=>⟨#[],by rw[up b _ e];simp⟩) (λm' sG=>?_) (λb v e=>?_) I.bare
 ·have:b=k\/b=D:=by
   rcases mem_cons.mp z with q | q
   ·exact .inl q
   ·exact .inr (mem_singleton.mp q)
  obtain⟨a1,a2,a3,a4⟩:=two b this;exact⟨.inr a1,a2,a3,a4⟩
 ·by_cases hb:b=X.env.locals
  ·obtain⟨o',_,_,z,_⟩:=ie;exact⟨o',by rw[hb];exact z⟩
  ·exact⟨o,kk b o hb (mem b hk).1 (mem b hk).2 e⟩
 ·have:m' = m:=by
   obtain⟨o1,es1,OY,g1,d1,k1,z1⟩:=sG;obtain⟨o2,jf,Gp,g2,d2,k2,z2⟩:=hm;rw[g1] at g2;cases g2;rw[d1] at d2;cases d2
   funext x
   rw[← z1 x,← z2 x]
  rw[this];exact ie
 ·by_cases hb:b=D
  ·subst hb;rw[aD] at e;cases e;exact new
  ·rw[aF hb] at e;refine(I.aG b v e).g9 (λc o hc e'=>?_) (λd e=>up d _ e) (λd xs e=>up d _ e);have q:∃v',H c=some v':=by
    rcases hc with z | z
    ·rw[z];exact⟨_,e⟩
    ·exact⟨_,z⟩
   obtain⟨v',q⟩:=q;exact kk c o (nl c _ q) (n1 c _ q) (n2 c _ q) e'
structure G8(X:Cx)(pins:List (Addr×Obj))(σ:St)(H1:Hp)(P:Addr)(pos:Pos)(qual:Str)(m:Str->Option Value)(kS:Addr)(kv:Nat->Int×Int)(ks:List Value)(e:Nat)(H:Hp)(s:Shared):Prop where
 I:Inv X ((kS,seqObj "list" ks.toArray e)::pins) σ H s
 ns:s.heap.Ns X.env.locals m
 sb:SameBut P H1 H
 tab:cu P pos qual H
 ky:∀(i:Nat) (hi:i<ks.length),∃a,ks[i] = .ref a/\H a=some (.tup [.int (kv i).1,.int (kv i).2])
variable{scope:Scope}{cl:List (Str×Addr)}{ps fs:List Str}{fv:List Nat}{A:Around}{qual name:Str}{f c' P kS:Addr}{params:Arguments}{body:Expr}{te:TE}{pm d_:Value}{pos:Pos}{kv:Nat->Int×Int}{n:Nat}{H1:Hp}{m:Str->Option Value}
theorem Qn(S:lq X scope cl ps fs fv)(sM:ps.length=1)(he:∀s H,PE (vq X A qual scope f c' cl (ps++fs) s H) body te)(hA:A.frames=some X.stack)(hd:X.calm=true->A.handled=none)(mD:A.depth<recursionLimit)(c_:X.stack=X.env::X.outer)(iN:X.env.frame=some X.env.locals)
  (hex:X.ex = []) (hf:(f,kla_obj name qual params body scope cl pm c' d_)∈pins) (hc:H1 c' = some (pC c' qual)) (sN:c'≠P) (j8:∀u,bindArgs (kla_fn name qual params body scope cl pm (.ref c') d_) ⟨[u],[]⟩=pure (ps.zip [u]))
  (f_:∀(j:Nat) (H:Hp),j<n->SameBut P H1 H->cu P pos qual H->te (lz σ [.int (j:Int)] fv) H λv H'=>∃a,v = .ref a/\H a=none/\H' = upd H a (.tup [.int (kv j).1,.int (kv j).2]))
  (lo:X.bG.heap.objs.size<=kS) (nY:kS≠X.env.locals) (vv:∀x c,X.env.cells.lookup x=some c->c≠kS) (vA:∀p∈X.pn++pins,p.1≠kS)
  {Fin:List Value->Nat->Shared->Prop} (vB:∀ks e H s,G8 X pins σ H1 P pos qual m kS kv ks e H s->ks.length=n->Fin ks e s) :
  ∀(r ks:List Value) (e:Nat) (H:Hp) (s:Shared),ks.length+r.length=n->(∀(i:Nat) (x:Value),r[i]? = some x->∃t,x = .int ((ks.length+i:Nat):Int) t)->G8 X pins σ H1 P pos qual m kS kv ks e H s->KatKeys X.prog X.w A X.base X.env.locals m kS (.ref f) Fin r ks e s
 | [],ks,e,H,s,hl,_,K=>KatKeys.nil (vB ks e H s K (by simpa using hl))
 | x::r,ks,e,H,s,hl,hi,K=>by
  rw[length_cons] at hl;obtain⟨t,rfl⟩:=hi 0 x rfl;have pf:=K.I.pin _ (mem_append_right _ (mem_cons_of_mem _ hf));have pk:=K.I.pin (kS,seqObj "list" ks.toArray e) (mem_append_right _ (mem_cons_self ..));have sJ:s.heap.CodeRec (.ref c') qual:=abF K.I.aG (K.sb _ _ hc sN);have hx:=f_ ks.length H ∅ K.sb K.tab
  refine KatKeys.cons (wpAny_mono (abD (us:=[.int ((ks.length+0:Nat):Int) t]) (vs:=[.int (ks.length:Int)]) S K.I hA hd mD pf.1 sJ (j8 _) (.cons ⟨t,by simp⟩ .nil) (by simpa using sM.symm) (he s H) hx) (λu s' hq=>?_) λ_ _ z=>z)
  obtain⟨v,H',J,rv,⟨a,rfl,na,rfl⟩,un⟩:=hq;cases rv;have cZ:s'.heap.Ns X.env.locals m:=by
   obtain⟨o,es,ep,eo,i7,r'⟩:=K.ns;have mem:X.env.locals∈cA X.stack:=by unfold cA;rw[c_,filterMap_cons,iN];exact mem_cons_self ..
   obtain⟨sl,q⟩:=un.slot _ o eo K.I.free mem (by simp)
   exact⟨_,es,ep,q,i7,r'⟩
  have bk:X.base.get? kS=none:=get?_none_of_le (Nat.le_trans K.I.ok.eW lo);have nZ:=J.pin (kS,seqObj "list" ks.toArray e) (mem_append_right _ (mem_cons_self ..));refine KatBack.intro (news:=(kS,seqObj "list" ks.toArray e)::rest X.base s'.heap X.env.locals kS) (g:=λo=>(kS,o)::rest X.base s'.heap X.env.locals kS) ⟨cZ,J.bk,Nat.le_trans J.ok.eW J.ok.above⟩ (news_at nY bk nZ.1) (.head oN) λh2 c2 F2 N2=>?_;have kept:=oO (d:=kS) J.bk F2 λp hp=>N2 p (mem_cons_of_mem _ hp);have vC:=(N2 _ (mem_cons_self ..)).1;have J1:Inv X pins σ (upd H a (.tup [.int (kv ks.length).1,.int (kv ks.length).2])) s':=J.i8 λp hp=>J.pin p (mem_append_right _ (mem_cons_of_mem _ hp));have J2:=J1.chg (tk:=s'.toks) cZ F2.ns nZ.2.1 lo nY vv vA ⟨_,vC⟩ λb o hb hk e=>kept b o hb hk e;have G9:∀v,(seqObj "list" (ks++[Value.ref a]).toArray c2).data≠.cell v:=λv z=>by cases z
  refine Qn S sM he hA hd mD c_ iN hex hf hc sN j8 f_ lo nY vv vA vB r (ks++[.ref a]) c2 _ { s' with heap:=h2 } (by simp;lia) (λi x e=>?_) ⟨J2.i8 λp hp=>?_,F2.ns,?_,?_,λi gh=>?_⟩
  ·obtain⟨t',z⟩:=hi (i+1) x (by simpa using e)
   exact⟨t',by rw[z];congr 1;simp;lia⟩
  ·rcases mem_cons.mp hp with q | q
   ·rw[q];exact⟨vC,nZ.2.1,nY,nZ.2.2.2.1,G9⟩
   ·exact J2.pin p (mem_append_right _ q)
  ·intro b o e hb;have:=K.sb b o e hb;rw[aF (λz=>by rw[z,na] at this;cases this)];exact this
  ·obtain⟨zJ,e1,e2,e3⟩:=K.tab;refine⟨zJ,by rw[aF (λz=>by rw[z,na] at e1;cases e1)];exact e1,e2,e3.imp id λ⟨c2,z1,z2⟩=>⟨c2,z1,by rw[aF (λz=>by rw[z,na] at z2;cases z2)];exact z2⟩⟩
  ·by_cases bL:i<ks.length
   ·obtain⟨a',z1,z2⟩:=K.ky i bL;exact⟨a',by rw[List.getElem_append_left bL];exact z1,by rw[aF (λz=>by rw[z,na] at z2;cases z2)];exact z2⟩
   ·have e:i=ks.length:=by simp at gh;lia
    subst e;exact⟨a,by simp,aD⟩
theorem Qo{h:Heap}:∀ {ks:List Value} {vD:List (Int×Int)},zH h ks vD->∃fs,KatTups h ks fs/\fs.length=ks.length/\∀v∈fs,∃d t,v = .int d t
 | [],vD,_=>⟨[],trivial,rfl,λv z=>nomatch z⟩
 | k::ks,[],p=>absurd p.1 (by simp)
 | k::ks,q::vD,p=>by
  obtain⟨a,ea,o,t,u,n,e1,e2,e3⟩:=p.2 0 (by simp)
  have ea:k = .ref a:=by simpa using ea
  subst ea;obtain⟨fs,h1,h2,h3⟩:=Qo (ks:=ks) (vD:=vD) ⟨by have:=p.1;simpa using this,λi hi=>by
   obtain⟨b,z1,z2⟩:=p.2 (i+1) (by simpa using hi)
   exact⟨b,by simpa using z1,by simpa using z2⟩⟩
  refine⟨.int _ t::fs,.cons e1 e2 e3 rfl h1,by simp[h2],λv hv=>?_⟩
  rcases mem_cons.mp hv with z | z
  ·exact⟨_,_,z⟩
  ·exact h3 v z
noncomputable def iO(kv:Nat->Int×Int)(n:Nat)(is:List Nat):Prop:=is.Perm (List.range n)/\∀i j,i<j->j<n->(kv (is.getD i 0)).1*64+(kv (is.getD i 0)).2<(kv (is.getD j 0)).1*64+(kv (is.getD j 0)).2
theorem abK{Q:VK}{rg:Addr}{t u v:Tok}(S:lq X scope cl ps fs fv)(sM:ps.length=1)(he:∀s H,PE (vq X X.A.in1.in1 qual scope f c' cl (ps++fs) s H) body te)(G_:X.calm=true)(mD:X.A.in1.in1.depth<recursionLimit)(c_:X.stack=X.env::X.outer)(iN:X.env.frame=some X.env.locals)
  (hex:X.ex = []) (I:Inv X ((f,kla_obj name qual params body scope cl pm c' d_)::pins) σ H s) (hc:H c' = some (pC c' qual)) (sN:c'≠P) (tab:cu P pos qual H) (j8:∀u,bindArgs (kla_fn name qual params body scope cl pm (.ref c') d_) ⟨[u],[]⟩=pure (ps.zip [u]))
  (hr:IsRange s.heap rg 0 (n:Int) 1 t u v) (h2:2<=n) (fq:n<64) (hb:∀j,j<n->0<=(kv j).2/\(kv j).2<64) (qL:∀i j,i<n->j<n->kv i=kv j->i=j)
  (f_:∀(j:Nat) (H2:Hp),j<n->SameBut P H H2->cu P pos qual H2->te (lz σ [.int (j:Int)] fv) H2 λv H'=>∃a,v = .ref a/\H2 a=none/\H' = upd H2 a (.tup [.int (kv j).1,.int (kv j).2]))
  (q:∀(D:Addr) (is:List Nat) (H':Hp),SameBut P H H'->cu P pos qual H'->H D=none->H' D=none->iO kv n is->Q (.ref D) (upd H' D (.lst (is.map λ(i:Nat)=>V.int (i:Int))))) :
  wpAny (model X.prog X.w) X.A (call (.builtin "sorted") [.ref rg] [(Str.ofString "key",.ref f)]) (EP X pins σ Q) X.xe s:=by
 have Qp:=I.ok.hd G_;refine call_function_entry_kw kind_sorted plain_sorted entry_sorted (ksk_s1 _ _) ?_;unfold Builtin.«sorted»;refine wpAny_bind (m:=checkCount "sorted" 1 1 _) (wpAny_pure ?_);refine wpAny_bind (abJ (A:=X.A.in1) Qp hr fq λh1 vE vs k1 sz len items=>?_);refine wpAny_bind (wpAny_newList ?_ (by rw[sizeLine_eq];lia))
 obtain⟨m,hm,abL⟩:=I.loc;have oD:(h1.push (seqObj "list" vs.toArray 0)).get? h1.objs.size=some (seqObj "list" vs.toArray 0):=get?_push_size _ rfl;have k2:∀b o,s.heap.get? b=some o->(h1.push (seqObj "list" vs.toArray 0)).get? b=some o:=λb o e=>get?_push_of_some _ (k1 b o e);have I1:=I.kept (t':=vE) k2;have n8:X.bG.heap.objs.size<=h1.objs.size:=Nat.le_trans I.sz (Nat.le_of_lt sz);have DL:h1.objs.size≠X.env.locals:=ne_of_gt (Nat.lt_trans I.lt sz);have nD:H h1.objs.size=none:=I.aG.fresh (Nat.le_of_lt sz);have old:∀b o,s.heap.get? b=some o->b<h1.objs.size:=λb o e=>Nat.lt_trans (lt_size e) sz;have bD:X.base.get? h1.objs.size=none:=get?_none_of_le (Nat.le_trans I.ok.eW n8);have mG:(h1.push (seqObj "list" vs.toArray 0)).Ns X.env.locals m:=hm.keeps k2;have above:X.base.objs.size<=X.env.locals:=Nat.le_trans I.ok.eW I.ok.above
 show wpAny _ _ _ _ _ { s with heap:=h1.push (seqObj "list" vs.toArray 0),toks:=vE };refine wpAny_bind (wpAny_holding (wpAny_call_entry_kw slot_list_sort ⟨_,oD,rfl⟩ entry_list_sort ?body (ksk_l1 _ _)))
 case body =>
  show wpAny (model X.prog X.w) X.A.in1.in1 (Builtin.«list.sort» ⟨[.ref h1.objs.size],[(Str.ofString "key",.ref f)]⟩) _ _ _;rw[ksk_t1];refine kat_keyed (s:={ s with heap:=h1.push (seqObj "list" vs.toArray 0),toks:=vE }) (h₀:=X.base) (L:=X.env.locals) (m:=m) (news:=rest X.base (h1.push (seqObj "list" vs.toArray 0)) X.env.locals h1.objs.size) ⟨mG,I1.bk,above⟩ (λp hp=>yg p (mem_filter.mp hp).1) oD DL bD oN ∅ ∅ λkS e1 h' F' N' l0 l1=>?_
  have Hf:=oO (d:=h1.objs.size) I1.bk F' λp hp=>N' p (mem_cons_of_mem _ (mem_cons_of_mem _ hp));have Hg:=N' _ (mem_cons_self ..);have vF:=N' _ (mem_cons_of_mem _ (mem_cons_self ..));have qM:X.bG.heap.objs.size<=kS:=Nat.le_trans n8 (Nat.le_of_lt l0);have n_:∀x c,X.env.cells.lookup x=some c->c<h1.objs.size:=λx c e=>by
   obtain⟨v,o,z,_⟩:=I.cell x c e;exact old _ _ z
  have mH:∀p∈X.pn++((f,kla_obj name qual params body scope cl pm c' d_)::pins),p.1<h1.objs.size:=λp hp=>old _ _ (I.pin p hp).1;have vG:X.env.locals<h1.objs.size:=Nat.lt_trans I.lt sz;have I2:=I1.chg (tk:=vE) mG F'.ns nD n8 DL (λx c e=>Nat.ne_of_lt (n_ x c e)) (λp hp=>Nat.ne_of_lt (mH p hp)) ⟨_,vF.1⟩ Hf;have nS:H kS=none:=I.aG.fresh (Nat.le_of_lt (Nat.lt_trans sz l0));have vH:∀b,s.heap.objs.size<=b->b∉X.fs:=λb hb=>I.rM hb;have vI:∀(a:Array Value) (e:Nat) v,(seqObj "list" a e).data≠.cell v:=λa e v z=>by cases z
  have K0:G8 X ((h1.objs.size,seqObj "list" #[] e1)::(f,kla_obj name qual params body scope cl pm c' d_)::pins) σ H P pos qual m kS kv [] 0 H { s with heap:=h',toks:=vE }:=by
   refine⟨I2.i8 λp hp=>?_,F'.ns,λb o e _=>e,tab,λi hi=>absurd hi (by simp)⟩
   rcases mem_cons.mp hp with z | hp
   ·rw[z];exact⟨Hg.1,nS,ne_of_gt (Nat.lt_trans vG l0),vH _ (Nat.le_of_lt (Nat.lt_trans sz l0)),vI _ _⟩
   ·rcases mem_cons.mp hp with z | hp
    ·rw[z];exact⟨vF.1,nD,DL,vH _ (Nat.le_of_lt sz),vI _ _⟩
    ·exact I2.pin p (mem_append_right _ hp)
  have Hh:∀p∈X.pn++((h1.objs.size,seqObj "list" #[] e1)::(f,kla_obj name qual params body scope cl pm c' d_)::pins),p.1≠kS:=λp hp=>by
   rcases mem_append.mp hp with hp | hp
   ·exact Nat.ne_of_lt (Nat.lt_trans (mH p (mem_append_left _ hp)) l0)
   ·rcases mem_cons.mp hp with z | hp
    ·rw[z];exact Nat.ne_of_lt l0
    ·exact Nat.ne_of_lt (Nat.lt_trans (mH p (mem_append_right _ hp)) l0)
  have SL:kS≠X.env.locals:=ne_of_gt (Nat.lt_trans vG l0);refine Qn (n:=n) (pins:=(h1.objs.size,seqObj "list" #[] e1)::(f,kla_obj name qual params body scope cl pm c' d_)::pins) S sM he I.ok.frames (λ_=>Qp) mD c_ iN hex (mem_cons_of_mem _ (mem_cons_self ..)) hc sN j8 f_ qM SL
   (λx c e=>Nat.ne_of_lt (Nat.lt_trans (n_ x c e) l0)) Hh (λks e H3 s3 K hl=>?_) vs [] 0 H _ (by simpa using len) (λi x e=>by simpa using items i x e) K0
  have Qq:zH s3.heap ks ((List.range n).map kv):=by
   refine⟨by simp[hl],λi hi=>?_⟩
   have gh:i<ks.length:=by simp at hi;lia
   obtain⟨a,z1,z2⟩:=K.ky i gh;obtain⟨az,r1,q1,_⟩:=K.I.tuple (bg.of (K:=X.K) z2);cases r1 with
   | cons w1 r1 =>
   cases r1 with
   | cons w2 r1 =>
   cases r1;obtain⟨t1,rfl⟩:=w1;obtain⟨t2,rfl⟩:=w2;obtain⟨o,e1,e2,n1,e3⟩:=q1;exact⟨a,by simp[gh,z1],o,t1,t2,n1,e1,e2,by simpa using e3⟩
  obtain⟨M7,t1,t2,t3⟩:=Qo Qq;refine kat_kind (T:=.type "int") t1 ∅ (λv hv=>?_) (by decide) ?_
  ·obtain⟨d,tt,rfl⟩:=t3 v hv;exact .now
  ·rw[show (Value.type "int" != Value.type "tuple")=true by decide]
   show (kas_sort vs.length).kasWp (kas_ask X.prog X.w X.A.in1.in1 (tuples' true) ks) _ s3;rw[len,show n=((List.range n).map kv).length by simp]
   refine abz (by simp;lia) Qq (λq' hq=>?_) ?_ λp hp abM=>?_
   ·obtain⟨j,hj,rfl⟩:=mem_map.mp hq;exact hb j (mem_range.mp hj)
   ·rw[nodup_iff_pairwise_ne,pairwise_map];exact Pairwise.imp_of_mem (λha eX dJ heq=>dJ (qL _ _ (mem_range.mp ha) (mem_range.mp eX) heq)) nodup_range
   ·have bS:X.base.get? kS=none:=get?_none_of_le (Nat.le_trans I.ok.eW qM);have pk:=K.I.pin (kS,seqObj "list" ks.toArray e) (mem_append_right _ (mem_cons_self ..));have pd:=K.I.pin (h1.objs.size,seqObj "list" #[] e1) (mem_append_right _ (mem_cons_of_mem _ (mem_cons_self ..)));refine KatFin.intro (news:=(kS,seqObj "list" ks.toArray e)::rest X.base s3.heap X.env.locals kS) (g:=λo=>(kS,o)::rest X.base s3.heap X.env.locals kS) ⟨K.ns,K.I.bk,above⟩ (news_at SL bS pk.1) (.head oN) λh4 c4 F4 N4=>?_;have vJ:=oO (d:=kS) K.I.bk F4 λp hp=>N4 p (mem_cons_of_mem _ hp);have Hi:=vJ _ _ DL (Nat.ne_of_lt l0) pd.1;refine KasFin.intro (news:=(h1.objs.size,seqObj "list" #[] e1)::rest X.base h4 X.env.locals h1.objs.size) (g:=λo=>(h1.objs.size,o)::rest X.base h4 X.env.locals h1.objs.size) F4 (news_at DL bD Hi) (.head oN) λh5 c5 F5 N5=>?_;have Hj:∀b o,X.base.get? b=some o->h4.get? b=some o:=F4.keep;have Hl:=oO (d:=h1.objs.size) Hj F5 λp hp=>N5 p (mem_cons_of_mem _ hp);have Ho:=(N5 _ (mem_cons_self ..)).1;refine⟨_,rfl,wpAny_pure ⟨_,rfl,?_⟩⟩;have jo:p.toList.Perm (List.range n):=by
     have:=hp.toList;simpa using this
    have zK:∀i∈p.toList,i<n:=λi hi=>mem_range.mp (jo.mem_iff.mp hi);have zL:p.toList.length=n:=by simpa using jo.length_eq
    have gd:∀i,i<n->p.getD i 0=p.toList.getD i 0/\p.toList.getD i 0<n:=λi hi=>by
     have dD:i<p.toList.length:=by lia
     have e:p.toList.getD i 0=p.toList[i]:=by rw[getD_eq_getElem?_getD,getElem?_eq_getElem dD];rfl
     exact⟨by rw[getD_eq_getD_getElem?,getD_eq_getElem?_getD,getElem?_toList],by rw[e];exact zK _ (getElem_mem dD)⟩
    have Qs:∀k,k<n->kg ((List.range n).map kv) k=(kv k).1*64+(kv k).2:=λk hk=>by
     unfold kg;have:((List.range n).map kv).getD k (0,0)=kv k:=by simp[hk]
     rw[this]
    have asc:iO kv n p.toList:=⟨jo,λi j h1 h2=>by
     have:=abM i j h1 (by simpa using h2)
     rw[(gd i ∅).1,(gd j h2).1,Qs _ (gd i ∅).2,Qs _ (gd j h2).2] at this
     exact this⟩
    have vals:∀l:List Nat,(∀i∈l,i<n)->Vals (l.map λ(i:Nat)=>V.int (i:Int)) (l.map λi=>vs.getD i Value.none):=by
     intro l
     induction l with
     | nil=>intro _;exact .nil
     | cons i l ih =>
      intro kR;have hi:i<vs.length:=by rw[len];exact kR i (mem_cons_self ..)
      obtain⟨t5,e5⟩:=items i vs[i] (getElem?_eq_getElem hi);refine .cons ⟨t5,?_⟩ (ih λk hk=>kR k (mem_cons_of_mem _ hk));rw[← e5];simp[hi]
    refine⟨.ref h1.objs.size,_,(K.I.i8 (yj:=pins) λp hp=>K.I.pin p (mem_append_right _ (mem_cons_of_mem _ (mem_cons_of_mem _ (mem_cons_of_mem _ hp))))).vt (tk:=s3.toks) (xs:=p.toList.map λ(i:Nat)=>V.int (i:Int)) K.ns F5.ns pk.2.1 pd.2.1 (λb fu=>?_)
     (λb o hL hS hD e=>Hl b o hL hD (vJ b o hL hS e)) ⟨by rw[length_map,zL,sizeLine_eq];lia,_,c5,vals p.toList zK,Ho⟩,rfl,q _ p.toList H3 K.sb K.tab nD pd.2.1 asc⟩
    have sub:∀p∈X.pn++pins,p.1<h1.objs.size:=λp hp=>mH p (by
     rcases mem_append.mp hp with z | z
     ·exact mem_append_left _ z
     ·exact mem_append_right _ (mem_cons_of_mem _ z))
    rcases fu with z | z
    ·rw[z];exact⟨qM,SL,λx c e=>Nat.ne_of_lt (Nat.lt_trans (n_ x c e) l0),λp hp=>Nat.ne_of_lt (Nat.lt_trans (sub p hp) l0)⟩
    ·rw[z];exact⟨n8,DL,λx c e=>Nat.ne_of_lt (n_ x c e),λp hp=>Nat.ne_of_lt (sub p hp)⟩
theorem SameBut.trans{H H1 H2:Hp}{x:Addr}(a:SameBut x H H1)(b:SameBut x H1 H2):SameBut x H H2:=λc o e h=>b c o (a c o e h) h
noncomputable def Qt(P:Addr)(pos:Pos)(qual:Str)(te:TE)(fv:List Nat)(ta:TA):TE:=λσ H Q=>ta σ H λvs H1=>∃(n:Nat) (kv:Nat->Int×Int),vs = [.int (n:Int)]/\2<=n/\n<64/\(∀j,j<n->0<=(kv j).2/\(kv j).2<64)/\(∀i j,i<n->j<n->kv i=kv j->i=j)/\cu P pos qual H1/\
 (∀(j:Nat) (H2:Hp),j<n->SameBut P H1 H2->cu P pos qual H2->te (lz σ [.int (j:Int)] fv) H2 λv H'=>∃a,v = .ref a/\H2 a=none/\H' = upd H2 a (.tup [.int (kv j).1,.int (kv j).2]))/\
 ∀(D:Addr) (is:List Nat) (H':Hp),SameBut P H1 H'->cu P pos qual H'->H1 D=none->H' D=none->iO kv n is->Q (.ref D) (upd H' D (.lst (is.map λ(i:Nat)=>V.int (i:Int))))
theorem abN{c:Addr}{e:Expr}{ta:TA}{p1 p2 p3 p4 kp:Pos}(vK:Gl X "sorted")(vL:X.mg "sorted" = none)(hgR:Gl X "range")(hmR:X.mg "range" = none)(B:bF X.mg X.base c P)(sJ:X.env.code = .ref c)(S:lq X scope cl ps fs fv)(sM:ps.length=1)
  (abO:defaultsOf params X.env=([],[])) (hq:X.env.qual ++ "<lambda>" = qual) (j8:∀c' pm d_ u,bindArgs (kla_fn "<lambda>" qual params body scope cl pm (.ref c') d_) ⟨[u],[]⟩=pure (ps.zip [u]))
  (he:∀f c' s H,PE (vq X X.A.in1.in1 qual scope f c' cl (ps++fs) s H) body te) (G_:X.calm=true) (mD:X.A.in1.in1.depth<recursionLimit) (c_:X.stack=X.env::X.outer) (iN:X.env.frame=some X.env.locals) (hex:X.ex = []) (ha:PA X [e] ta)
  (hs:starEach [e] X.env = [(false,eval e X.env)]:=by rfl) (lC:starEach [.Call (.Name "range" p2) [e] [] p3] X.env = [(false,eval (.Call (.Name "range" p2) [e] [] p3) X.env)]:=by rfl) :
  PE X (.Call (.Name "sorted" p1) [.Call (.Name "range" p2) [e] [] p3] [⟨some "key",.Lambda params body scope pos,kp⟩] p4) (Qt P pos qual te fv ta):=by
 intro pins s σ H Q I h;refine wpAny_Call_Name_kw (kJ I vK vL boot_sorted (callWith_kw ?_));rw[lC];refine spliced_cons ?_;refine Call_ (kJ I hgR hmR boot_range (PyProof.Rows.callWith_type1 (aY (ha p3 pins s σ H _ I h) λus s1 ⟨vs,H1,I1,r1,q1⟩=>?_) (by rw[hs];rfl) (by rfl)))
 obtain⟨n,kv,e,h2,fq,hb,qL,tab,f_,q⟩:=q1;subst e;obtain⟨u,rfl,ru⟩:=vals1 r1;obtain⟨t,rfl⟩:=ru;refine call_range_1 ?_;refine spliced_nil ?_;refine kws_cons (kla_eval abO ?_);rw[hq];have k1:∀b o,s1.heap.get? b=some o->(s1.heap.push { cls:=.type "range",data:=.fields #[.int 0 s1.toks,.int (n:Int) t,.int 1 (s1.toks+1)] }).get? b=some o:=λb o e=>get?_push_of_some _ e;have I2:Inv X ((s1.heap.objs.size,{ cls:=.type "range",data:=.fields #[.int 0 s1.toks,.int (n:Int) t,.int 1 (s1.toks+1)] })::pins) σ H1 { s1 with heap:=s1.heap.push { cls:=.type "range",data:=.fields #[.int 0 s1.toks,.int (n:Int) t,.int 1 (s1.toks+1)] },toks:=s1.toks+1+1 }:=by
  refine(I1.kept k1).i8 λp hp=>?_;rcases mem_cons.mp hp with z | hp
  ·rw[z];exact⟨get?_push_size _ rfl,I1.aG.fresh (Nat.le_refl _),ne_of_gt I1.lt,I1.rM (Nat.le_refl _),λv z=>by cases z⟩
  ·exact(I1.kept (t':=s1.toks+1+1) k1).pin p (mem_append_right _ hp)
 refine abG B sJ S.mj I2 tab λf c' d_ pm H' s' J sb sO hc=>kws_nil ?_;have sN:c'≠P:=by
  obtain⟨zJ,z,_⟩:=sO;exact iD hc z (by intro y;cases y)
 refine wpAny_mono (abK (n:=n) (kv:=kv) S sM (he f c') G_ mD c_ iN hex J hc sN sO (j8 c' pm d_) (J.pin _ (mem_append_right _ (mem_cons_of_mem _ (mem_cons_self ..)))).1 h2 fq hb qL (λj H2 hj mJ Hq=>f_ j H2 hj (sb.trans mJ) Hq)
  (λD is H2 mJ Hq n1 n2 ho=>q D is H2 (sb.trans mJ) Hq ?_ n2 ho)) (λv nG z=>?_) (λ_ _ z=>z)
 ·cases z:H1 D with
  | none=>rfl
  | some o =>
   by_cases hD:D=P
   ·obtain⟨zJ,z2,_⟩:=sO;rw[hD,z2] at n1;cases n1
   ·rw[sb _ _ z hD] at n1;cases n1
 ·obtain⟨v',H'',K,rv,qv⟩:=z;exact⟨v',H'',K.i8 λp hp=>K.pin p (mem_append_right _ (mem_cons_of_mem _ hp)),rv,qv⟩
end
theorem abP{P:Program}{w:World}{K:Frag}{mg mb:Str->Option Value}{k:Nat}{fa a:Addr}{fd:FuncData}{x:Str}{sp:Sp}{aZ:Shared}{vs:List Value}{ns:List Int}{tabs:List (Addr×Addr)}
  (KX:K.In aZ.heap) (kW:aZ.heap.Ns mainGlobals mg) (hb:aZ.heap.Ns builtinsNs mb) (Ga:∀x:Str,x≠"__name__"->mb x=bootBuiltins x) (Gb:aZ.heap.NoLimit) (hg:aZ.gens = #[])
  (ha:aZ.heap.get? a=some { cls:=.type "list",data:=.seq vs.toArray }) (hi:IntsAre vs ns) (hl:ns.length<=sizeLine) (hr:bZ k callerA)
  (hT:TabsAt tabs aZ.heap) (vM:noTabs K=true) (bm:∃bm ob,mg "__builtins__" = some (.ref bm)/\bm≠builtinsNs/\aZ.heap.get? bm=some ob/\ob.cls = .type "module"/\ob.dict=some builtinsNs/\ob.data = .plain)
  (F:∀base:Heap,K.In base->base.Ns mainGlobals mg->(∀q∈tabs,bF mg base q.1 q.2)->bq P w K mg base bx k fa fd [x] sp) (j8:∀(s:Shared) (u:Value),BindsTo s fd ⟨[u],[]⟩ [(x,u)])
  (fK:∀H:Hp,(∀q∈tabs,H q.2=some (.eV #[]))->aE K H a (ns.map V.int)->sp [.ref a] H (λv _=>v = .bl true) λ_ _ _=>False) :
  codeAny (model P w) callerA (.call (.ref fa) ⟨[.ref a],[]⟩) (λr s'=>r = .ok (.ret (.bool true))/\OldK aZ.heap s'.heap/\s'.os=aZ.os/\AllBare s'.gens) aZ:=by
 have rv:=uU hi;have Ge:=hi.length;have qN:∀b,b∈tabs.map (·.2)->aZ.heap.get? b=some (tabObj #[])/\isCodeTable aZ.heap b:=λb hb=>by
  obtain⟨q,hq,rfl⟩:=mem_map.mp hb;exact⟨(hT q hq).2,((hT q hq).1.tab (hT q hq).2).isCodeTable⟩
 have aT:a∉tabs.map (·.2):=λhb=>by
  have:=(qN a hb).1;rw[ha] at this;cases this
 have core:∀H:Hp,(∀b u,H b=some u->(b=a/\∃o xs,u = .d8 o (.lst xs))\/(b∈tabs.map (·.2)/\u = .eV #[]))->(∀q∈tabs,H q.2=some (.eV #[]))->aE K H a (ns.map V.int)->cN P w H aZ.heap->(H a≠none->K.lookup a=none)->
   codeAny (model P w) callerA (.call (.ref fa) ⟨[.ref a],[]⟩) (λr s'=>r = .ok (.ret (.bool true))/\OldK aZ.heap s'.heap/\s'.os=aZ.os/\AllBare s'.gens) aZ:=by
  intro H hO Hr hS aG hK;have qC:∀ {b:Addr} {o:Obj},aZ.heap.get? b=some o->H b=none->(iE aZ.heap H).get? b=some o:=λe n=>M9 e n;have free:∀ {b:Addr} {o:Obj},aZ.heap.get? b=some o->(b≠a)->o≠tabObj #[]->H b=none:=λ{b o} e n1 n2=>by
   cases q:H b with
   | none=>rfl
   | some u =>
    rcases hO b u q with⟨z,_⟩ | ⟨z,_⟩
    ·exact absurd z n1
    ·have:=(qN b z).1;rw[e] at this;exact absurd (Option.some.inj this) n2
  have Qu:∀ {b:Addr} {o:Obj},aZ.heap.get? b=some o->o.cls≠.type "list"->b≠a:=λ{b o} e n z=>by
   rw[z,ha] at e;cases e;exact n rfl
  have abQ:∀ {b:Addr} {o:Obj} {es:Array DictEntry} {ep:Nat},aZ.heap.get? b=some o->o.data = .dict es ep->b≠a:=λ{b o es ep} e d z=>by
   rw[z,ha] at e;cases e;cases d
  have nO:∀ {b:Addr} {m:Str->Option Value},aZ.heap.Ns b m->(iE aZ.heap H).Ns b m:=λ{b m} ⟨o,es,ep,e,d,r⟩=>⟨o,es,ep,qC e (free e (abQ e d) (λz=>by rw[z] at d;cases d)),d,r⟩
  have uW:K.In (iE aZ.heap H):=λb o e=>qC (KX b o e) (by
   cases q:H b with
   | none=>rfl
   | some u =>
    rcases hO b u q with⟨z,_⟩ | ⟨z,_⟩
    ·subst z;rw[hK (by rw[q];simp)] at e;cases e
    ·have e2:=KX b o e;rw[(qN b z).1] at e2;have h2:=all_eq_true.mp vM (b,o) (mem_of_lookupK e);cases e2;exact absurd (show false=true from h2) Bool.false_ne_true)
  have hM:Mod K mg (iE aZ.heap H):=⟨uW,nO kW,⟨mb,nO hb,Ga⟩,let ⟨mc,h1,h2⟩:=Gb;⟨mc,nO h1,h2⟩⟩
  have hL:∀q∈tabs,bF mg (iE aZ.heap H) q.1 q.2:=λq hq=>by
   obtain⟨b,ob,b1,b2,b3,b4,b5,b6⟩:=bm;obtain⟨o,vs',file,tf,flags,tg,inF,text,tt,e1,r1,r2⟩:=(hT q hq).1;refine⟨⟨o,vs',file,tf,flags,tg,inF,text,tt,qC e1 (free e1 (Qu e1 (by rw[r1];intro z;injection z with z;exact absurd z (by decide))) (λz=>by rw[z] at r1;cases r1)),r1,r2⟩,b,ob,b1,b2,qC b3 (free b3 (Qu b3 (by rw[b4];intro z;injection z with z;exact absurd z (by decide))) (λz=>by rw[z] at b4;cases b4)),b4,b5,b6⟩
  have e0:l7 P w K mg (iE aZ.heap H) callerA [] aZ H:=⟨rfl,hM,λb o e=>M_ e,Nat.le_of_eq (M8 _ _),trivial,λb hb=>absurd (show b∈([]:List Addr) from hb) (by simp),aG,.of_eq hg⟩
  refine codeAny_mono ((F _ uW (nO kW) hL).run callerA [] aZ H ⟨[.ref a],[]⟩ [.ref a] [.ref a] _ _ hr e0 (j8 aZ (.ref a)) (.cons rfl .nil) (fK H Hr hS)) λr s' h=>?_;cases r with
  | error e=>exact False.elim h
  | ok fl =>
   cases fl with
   | next=>exact False.elim h
   | brk=>exact False.elim h
   | cont=>exact False.elim h
   | ret u =>
    obtain⟨v,H',os,bare,un,zd,r',q⟩:=h;have q':v = .bl true:=q;subst q';obtain rfl:u=Value.bool true:=r';have noS:∀b:Addr,b∉cA ([]:List Env):=λb z=>absurd (show b∈([]:List Addr) from z) (by simp)
    have all:∀b o,aZ.heap.get? b=some o->asItWas aZ.heap s'.heap b o/\∃o',s'.heap.get? b=some o':=λb o e=>by
     cases q:H b with
     | none =>
      have:=un.keep b o e q (noS b) (by simp)
      exact⟨.inl this,o,this⟩
     | some u =>
      rcases hO b u q with⟨z,ob,xs,rfl⟩ | ⟨z,rfl⟩
      ·have z2:=un.i6 b ob _ q;obtain⟨e1,_⟩:=aG b _ q;obtain⟨e2,_⟩:=zd b _ z2;rw[e] at e1;cases e1;exact⟨.inl e2,_,e2⟩
      ·obtain⟨more,z2⟩:=un.jA b _ q;have e1:=(qN b z).1;rw[e] at e1;cases e1;have e2:s'.heap.get? b=some { cls:=.none,data:=.fields (#[]++more)}:=zd b _ z2;exact⟨.inr (.inl ⟨(qN b z).2,rfl,#[],more,rfl,e2⟩),_,e2⟩
    exact⟨rfl,⟨λb o e=>(all b o e).1,λb o e=>(all b o e).2⟩,os,bare⟩
 have tq:∀q∈tabs,q.2∈tabs.map (·.2):=λq hq=>mem_map_of_mem hq;cases hk:K.lookup a with
 | some o =>
  have e:=KX a o hk;rw[ha] at e;cases e;refine core (λb=>if b∈tabs.map (·.2) then some (.eV #[]) else none) (λb u z=>?_) (λq hq=>if_pos (tq q hq)) (.inr ⟨_,vs.toArray,_,hk,rfl,rfl,rfl,by rw[size_toArray,Ge];exact hl,by simpa using rv⟩) (λb u z=>?_) (λz=>absurd (if_neg aT) z)
  ·by_cases hb:b∈tabs.map (·.2)
   ·have z':=(if_pos hb).symm.trans z;cases z';exact .inr ⟨hb,rfl⟩
   ·have z':=(if_neg hb).symm.trans z;cases z'
  ·by_cases hb:b∈tabs.map (·.2)
   ·have z':=(if_pos hb).symm.trans z;cases z';exact(qN b hb).1
   ·have z':=(if_neg hb).symm.trans z;cases z'
 | none =>
  refine core (λb=>if b=a then some (.d8 { cls:=.type "list",data:=.seq vs.toArray } (.lst (ns.map V.int))) else if b∈tabs.map (·.2) then some (.eV #[]) else none) (λb u z=>?_) (λq hq=>?_) (.inl (.inr ⟨{ cls:=.type "list",data:=.seq vs.toArray },if_pos rfl⟩)) (λb u z=>?_) λ_=>hk
  ·by_cases hb:b=a
   ·have z':=(if_pos hb).symm.trans z;cases z';exact .inl ⟨hb,_,_,rfl⟩
   ·have z':=(if_neg hb).symm.trans z;by_cases fu:b∈tabs.map (·.2)
    ·have z2:=(if_pos fu).symm.trans z';cases z2;exact .inr ⟨fu,rfl⟩
    ·have z2:=(if_neg fu).symm.trans z';cases z2
  ·have ne:q.2≠a:=λz=>aT (by rw[← z];exact tq q hq)
   exact(if_neg ne).trans (if_pos (tq q hq))
  ·by_cases hb:b=a
   ·have z':=(if_pos hb).symm.trans z;cases z';subst hb;exact⟨ha,by rw[length_map];exact hl,vs,_,rv,ha⟩
   ·have z':=(if_neg hb).symm.trans z;by_cases fu:b∈tabs.map (·.2)
    ·have z2:=(if_pos fu).symm.trans z';cases z2;exact(qN b fu).1
    ·have z2:=(if_neg fu).symm.trans z';cases z2
theorem lq.of{X:Cx}{scope:Scope}{cl:List (Str×Addr)}{ps fs:List Str}{fv:List Nat}(mj:closureFor scope X.env=pure cl)(kind:scope.kind = .function)(co:scope.isCoroutine=false)(gen:scope.isGenerator=false)
  (kY:(scope.names.all λy=>y.2 != .cell)=true) (par:(ps.all λy=>scope.names.lookup y == some .local)=true) (sub:AllP (λp:Str×Addr=>X.env.cells.lookup p.1=some p.2) cl) (has:(scope.names.all λy=>y.2 != .free || (cl.lookup y.1).isSome)=true)
  (free:fv.map (λj=>X.N[j]?)=fs.map some) (fk:(fs.all λy=>scope.names.lookup y == some .free && X.env.scope.names.lookup y == some .cell)=true) (nd:(ps++fs).Nodup):lq X scope cl ps fs fv where
 mj:=mj
 kind:=kind
 co:=co
 gen:=gen
 kY:=λy hy=>by have:=all_eq_true.mp kY y hy;simpa using this
 par:=λy hy=>by have:=all_eq_true.mp par y hy;simpa using this
 sub:=sub.mem
 has:=λy hy hl=>by
  have:=all_eq_true.mp has y hy;rw[hl] at this;exact isSome_iff_exists.mp (by simpa only[bne_self_eq_false,Bool.false_or] using this)
 free:=free
 fk:=λy hy=>by have:=all_eq_true.mp fk y hy;simpa using this
 nd:=nd
theorem aO.okC{P:Program}{w:World}{K:Frag}{mg:Str->Option Value}{base:Heap}{x qual:Str}{st:Stmt}{f:Addr}{fd:FuncData}{N ps:List Str}{k:Nat}{sp:Sp}(F:aO K x qual st f fd)(S:bB N ps (a_ st))(len:∀vs H Q E,sp vs H Q E->vs.length=ps.length)
  (kN:∀(A:Around) (outer:List Env) (s:Shared) (H:Hp) (vs:List V) (Q:VK) (E:XK),bZ k (A.deeper (envOfC qual (a_ st) s.heap.objs.size f fd.code))->sp vs H Q E->
   ∃t,fB (gP bx P w K mg base N qual (a_ st) f fd.code A outer s H E).kK (eY st) t/\t { nx:=λ_ H'=>Q .aW H',rt:=Q } (start N vs) H):bq P w K mg base bx (k+1) f fd ps sp:=by
 obtain⟨oc,od,kV,doc,pm,an,aV,ct,gQ,rfl,lk,cY⟩:=F.ex;refine yP lk cY S len λA outer s H vs Q E hr fK=>?_;obtain⟨t,h,q⟩:=kN A outer s H vs Q E hr fK;exact⟨t,h.kK,q⟩
theorem abR{l:W.OpenLaw}{n k:Nat}{q:Program}{loose:List Str}{XP:(Str->Option Value)->Heap->Prop}{YP:World->Heap->Prop}{d:DefRec}{K:Params->Frag}{sp:World->List (Addr×Addr)->Sp}{x:Str}
  (hn:l.most=some n) (l6:n<=sizeLine) (qB:d.params.defaults = []) (hr:bZ k callerA)
  (hY:∀(w:World) (h:Heap),YP w h->(K w.params).In h) (vM:∀w:World,noTabs (K w.params)=true)
  (F:∀(w:World) (mg:Str->Option Value) (fa:Addr) (h:Heap),YP w h->(K w.params).In h->h.Ns mainGlobals mg->mg d.name=some (.ref fa)->
   ∃(fd:FuncData) (tabs:List (Addr×Addr)),(∀(s:Shared) (u:Value),BindsTo s fd ⟨[u],[]⟩ [(x,u)])/\TabsAt tabs h/\
    ∀base:Heap,(K w.params).In base->base.Ns mainGlobals mg->(∀q∈tabs,bF mg base q.1 q.2)->bq l.prog w (K w.params) mg base bx k fa fd [x] (sp w tabs))
  (fK:∀(w:World) (tabs:List (Addr×Addr)) (H:Hp) (a:Addr) (ns:List Int),ns.length<=n->(∀q∈tabs,H q.2=some (.eV #[]))->aE (K w.params) H a (ns.map V.int)->sp w tabs [.ref a] H (λv _=>v = .bl true) λ_ _ _=>False) :
  W.WalkO q loose XP YP l.row.toRowW d [] (λf vs=>PySem.call f vs):=by
 refine FY.ON hn qB λw bG aZ mg mb fa o pm cd doc a vs ns G Y ho hd cY hmg uT hints hlen hg=>?_;have KX:=hY w _ Y;obtain⟨fd,tabs,hb,hT,hF⟩:=F w mg fa _ Y KX G.T.g hmg;exact abP KX G.T.g G.T.b G.T.builtins G.T.nolimit hg uT hints (Nat.le_trans hlen l6) hr hT (vM w) G.T.bmain hF hb λH Hr hS=>fK w tabs H a ns hlen Hr hS
noncomputable def oh(s:Stmt):Pos:=match eY s with
 | [.Return (some (.Call _ _ [⟨_,.Lambda _ _ _ pos,_⟩] _)) _]=>pos
 | _=>⟨0,0,0,0⟩
noncomputable def oq(x:Str):Str:=x ++ ".<locals>." ++ "<lambda>"
noncomputable def gj(r:Int)(j:Nat):Int×Int:=(((j:Int) - r).natAbs,j)
noncomputable def abS(P:Addr)(pos:Pos)(qual:Str):Sp:=λvs H Q _=>∃(r:Int) (n:Nat),vs = [.int r,.int (n:Int)]/\2<=n/\n<64/\cu P pos qual H/\
 ∀(l:Addr) (is:List Nat) (H':Hp),SameBut P H H'->cu P pos qual H'->H l=none->H' l=none->iO (gj r) n is->Q (.ref l) (upd H' l (.lst (is.map λ(i:Nat)=>V.int (i:Int))))
end _L
namespace _L
open PySem PySem.Spec PyProof.Rows
noncomputable def ig(i:Nat):Nat:=(reduceHash (Builtin.Tuple.tupleHashOf [hashInt ((i / 60:Nat):Int),hashInt ((i % 60:Nat):Int)]) % 524291).toNat
noncomputable def zM:Nat->Nat->Bool
 | 0,_=>true
 | n+1,acc=>(Nat.land acc (Nat.shiftLeft 1 (ig n)) == 0) && zM n (Nat.lor acc (Nat.shiftLeft 1 (ig n)))
theorem Qv:∀(n acc:Nat),zM n acc=true->(∀i,i<n->acc.testBit (ig i)=false)/\∀i j,i<n->j<n->ig i=ig j->i=j
 | 0,_,_=>⟨λ_ h=>absurd h ∅,λ_ _ h=>absurd h ∅⟩
 | n+1,acc,h=>by
  unfold zM at h;rw[and_eq_true,beq_iff_eq] at h;obtain⟨h1,h2⟩:=h;have e1:acc.testBit (ig n)=false:=by
   have z:(acc &&& 1 <<< ig n).testBit (ig n)=false:=by
    show Nat.testBit (Nat.land acc (Nat.shiftLeft 1 (ig n))) _=false;rw[h1,Nat.zero_testBit]
   rw[Nat.testBit_and,Nat.testBit_shiftLeft] at z;simpa using z
  obtain⟨g1,g2⟩:=Qv n _ h2;have e2:∀i,i<n->acc.testBit (ig i)=false/\ig i≠ig n:=λi hi=>by
   have z:(acc ||| 1 <<< ig n).testBit (ig i)=false:=g1 i hi
   rw[Nat.testBit_or,Nat.testBit_shiftLeft] at z;rw[Bool.or_eq_false_iff] at z;refine⟨z.1,λe=>?_⟩
   have:=z.2;rw[e] at this;simp at this
  refine⟨λi hi=>?_,λi j hi hj e=>?_⟩
  ·by_cases q:i=n
   ·rw[q];exact e1
   ·exact(e2 i ∅).1
  ·by_cases q:i=n
   ·by_cases q':j=n
    ·lia
    ·exact absurd (by rw[← e,q]) (e2 j ∅).2
   ·by_cases q':j=n
    ·exact absurd (by rw[e,q']) (e2 i ∅).2
    ·exact g2 i j ∅ ∅ e
theorem abT:zM 3840 0=true:=by decide +kernel
theorem abU{a b c d:Int}(a0:0<=a)(a1:a<64)(b0:0<=b)(b1:b<60)(c0:0<=c)(c1:c<64)(d0:0<=d)(d1:d<60)
  (h:reduceHash (Builtin.Tuple.tupleHashOf [hashInt a,hashInt b])=reduceHash (Builtin.Tuple.tupleHashOf [hashInt c,hashInt d])):a=c/\b=d:=by
 have e:∀ {x y:Int},0<=x->0<=y->y<60->ig (x.toNat*60+y.toNat)=(reduceHash (Builtin.Tuple.tupleHashOf [hashInt x,hashInt y]) % 524291).toNat:=λ{x y} h0 h1 h2=>by
  unfold ig;have q1:((x.toNat*60+y.toNat) / 60:Nat)=x.toNat:=by lia
  have q2:((x.toNat*60+y.toNat) % 60:Nat)=y.toNat:=by lia
  rw[q1,q2,toNat_of_nonneg h0,toNat_of_nonneg h1]
 have:=(Qv 3840 0 abT).2 (a.toNat*60+b.toNat) (c.toNat*60+d.toNat) ∅ ∅ (by rw[e a0 b0 b1,e c0 d0 d1,h])
 lia
theorem Qw{α:Type}{f:α->Int}:∀ {l:List α},(l.map f).Nodup->∀h:Int,(l.filter λx=>f x == h).length<=1
 | [],_,_=>zero_le _
 | x::l,n,h=>by
  rw[map_cons,nodup_cons] at n;by_cases q:f x=h
  ·have z:(l.filter λy=>f y == h) = []:=by
    rw[List.filter_eq_nil_iff];intro y hy e;exact n.1 (by rw[q,← (beq_iff_eq.mp e)];exact mem_map_of_mem hy)
   rw[filter_cons,if_pos (by rw[q];exact beq_self_eq_true h),z]
   exact Nat.le_refl _
  ·rw[filter_cons,if_neg (by rw[beq_iff_eq];exact q)]
   exact Qw n.2 h
section
variable{M:Model}{prog:Program}{w:World}{A:Around}{E:Value->Shared->Prop}{s:Shared}
theorem abV{id:String}{d:Addr}{o:Obj}{es:Array DictEntry}{ep}{Q:Array DictEntry->Shared->Prop}(ho:s.heap.get? d=some o)(hd:o.data = .dict es ep)
  (hT:∀e∈es.toList,∃t,e.key = .ref t/\s.TypeIs (.ref t) "tuple") (hn:(es.toList.map (·.hash)).Nodup) (h:Q es s):wpAny M A (Builtin.Dict.entriesForEmpty id d) Q E s:=by
 unfold Builtin.Dict.entriesForEmpty;refine wpAny_bind (wpAny_dictEntries ho hd ?_);refine wpAny_bind ?_;rw[← forIn_toList];refine wpAny_forIn_list _ (λrest _ s'=>s' = s/\∀e∈rest,e∈es.toList) _ ?_ ?_ _ _ ⟨rfl,λe he=>he⟩
 ·rintro e rest b s' ⟨rfl,hr⟩;obtain⟨t,ek,Hs⟩:=hT e (hr e (by simp))
  rw[ek];unfold Builtin.Dict.quietEq;refine wpAny_bind (wpAny_bind (wpAny_specialOf Hs PySem.F.slot_tuple_eq.lookup (wpAny_pure ?_)));have hz:¬ (es.filter (·.hash == e.hash)).size > 1:=by
   have:=Qw hn e.hash;have e2:(es.filter (·.hash == e.hash)).size=(es.toList.filter (·.hash == e.hash)).length:=by rw[← length_toList,Array.toList_filter]
   lia
  have q:(some (Value.builtin "tuple.__eq__") == some (Value.builtin "object.__eq__"))=false:=by decide +kernel
  rw[q];simp only[Bool.not_false,if_true,if_neg hz];exact wpAny_pure ⟨rfl,λe he=>hr e (mem_cons_of_mem _ he)⟩
 ·rintro b s' ⟨rfl,_⟩;exact wpAny_pure h
theorem abW{nm:String}{d o:Addr}{knd:HeapKind prog w (List Key)}{xs:List (List Key×Addr×Value)}{Q:Unit->Shared->Prop}(mK:d≠o)(Ht:(o == sysModules)=false)
  (hd:s.heap.DictOfH knd d []) (ho:s.heap.DictOfH knd o xs) (hT:∀x∈xs,s.TypeIs (.ref x.2.1) "tuple") (hn:(xs.map λx=>knd.hash x.1).Nodup) (hsz:xs.length<=sizeLine)
  (hQ:∀h',(∃o' kI nq,h'.get? d=some o'/\o'.ExactDict/\o'.data = .dict kI nq/\kI.toList=xs.map (entryOfKey knd))->Heap.SameBut d s.heap h'->Q () { s with heap:=h' }) :
  wpAny (model prog w) A (Builtin.Dict.mergeDict nm d o) Q E s:=by
 obtain⟨od,esd,Qx,zN,cY,qO,hpd,_⟩:=id hd;obtain⟨oo,mL,Qy,qP,Qz,sR,mO,Hu,iJ⟩:=id ho;have abX:esd = #[]:=Array.toList_eq_nil_iff.mp hpd;subst abX;unfold Builtin.Dict.mergeDict;rw[if_neg (by simpa using mK)]
 unfold Builtin.Dict.showsAll;rw[if_neg (by rw[Ht];exact Bool.false_ne_true)]
 refine wpAny_bind (wpAny_pure ?_);refine wpAny_bind (wpAny_dictEntries qP sR ?_);dsimp only;cases hx:xs with
 | nil =>
  rw[hx] at mO;have h0:mL = #[]:=Array.toList_eq_nil_iff.mp mO;subst h0;rw[if_neg (by simp)]
  refine wpAny_bind (wpAny_dictEpoch qP sR ?_);refine wpAny_bind (wpAny_dictEntries qP sR ?_);refine wpAny_bind ?_;rw[Std.Legacy.Range.forIn_eq_forIn_range']
  show wpAny _ _ (forIn [] _ _) _ _ _;rw[List.forIn_nil];refine wpAny_pure (wpAny_pure (hQ s.heap ⟨od,#[],Qx,zN,cY,qO,by rw[hx];rfl⟩ (Heap.SameBut.refl _ _)))
 | cons x rest =>
  have dJ:mL.toList≠[]:=by rw[mO,hx];exact List.cons_ne_nil _ _
  have FT:(decide (mL.size<=8) && mL.all λe=>(keyPart e.key).isSome)=false:=by
   rw[Bool.and_eq_false_iff];refine .inr ?_;rw[← Array.all_toList,mO,hx]
   rfl
  rw[FT];refine wpAny_bind (wpAny_dictEntries zN qO ?_);rw[if_pos (by rfl)]
  refine wpAny_bind (abV qP sR (λe he=>?_) ?_ ?_)
  ·rw[mO] at he;obtain⟨y,hy,rfl⟩:=mem_map.mp he;exact⟨y.2.1,rfl,hT y hy⟩
  ·rw[mO,map_map];exact hn
  have he0:mL.isEmpty=false:=by
   cases q:mL.isEmpty with
   | false=>rfl
   | true=>exact absurd (by rw[Array.isEmpty_iff.mp q]) dJ
  rw[if_pos (by rw[he0];rfl)]
  have hto:mL.size<=sizeLine+1:=by
   have:mL.size=xs.length:=by rw[← length_toList,mO,length_map]
   lia
  exact wpAny_bind (wpAny_updateDictKeysTo zN qO (wpAny_pure (hQ _ ⟨_,_,Qx+1,get?_update_self _ zN (Obj.isFreed_of_dict (Obj.data_mapDictKeys qO _)),cY.mapDictKeys _,Obj.data_mapDictKeys qO _,mO⟩ (Heap.SameBut.update ..))) hto)
end
section
variable{prog:Program}{w:World}{A:Around}{E:Value->Shared->Prop}{s:Shared}
theorem abY{o:Addr}{xs:List (List Key×Addr×Value)}{Q:Value->Shared->Prop}(Ht:(o == sysModules)=false)(ho:s.heap.DictOfH (tupleKind (dQ prog w)) o xs)(hsz:xs.length<=sizeLine)
  (hn:(xs.map λx=>(tupleKind (dQ prog w)).hash x.1).Nodup)
  (h:∀h',(∃o' kI nq,h'.get? s.heap.objs.size=some o'/\o'.ExactDict/\o'.data = .dict kI nq/\kI.toList=xs.map (entryOfKey (tupleKind (dQ prog w))))->Heap.SameBut s.heap.objs.size (s.heap.push { cls:=.type "dict",data:=.dict #[] }) h'->Q (.ref s.heap.objs.size) { s with heap:=h' }) :
  wpAny (model prog w) A (call (.type "dict") [.ref o]) Q E s:=by
 refine callType_codes (Q₁:=λobj aZ=>obj = .ref s.heap.objs.size/\aZ = { s with heap:=s.heap.push { cls:=.type "dict",data:=.dict #[] }}) PySem.F.kt_called_dict (PySem.F.kt_typeCall_dict_1 _) PySem.F.entry_dict_init (kt_code_dict_new _ ⟨rfl,rfl⟩) ?_;rintro obj aZ ⟨rfl,rfl⟩;have uP:(s.heap.push { cls:=.type "dict",data:=.dict #[] }).DictOfH (tupleKind (dQ prog w)) s.heap.objs.size []:=Heap.DictOfH.new s.heap;obtain⟨oo,mL,Qy,qP,Qz,sR,mO,Hu,iJ⟩:=id ho;have Hs:∀x∈xs,({ s with heap:=s.heap.push { cls:=.type "dict",data:=.dict #[] }}:Shared).TypeIs (.ref x.2.1) "tuple" := λx hx=>by
  obtain⟨o1,az,n,g1,c1,_⟩:=(show IsTupleKey (dQ prog w) s.heap x.1 x.2.1 from Hu x hx);exact⟨o1,get?_push_of_some _ g1,c1⟩
 have fU:∀x∈xs,(tupleKind (dQ prog w)).is (s.heap.push { cls:=.type "dict",data:=.dict #[] }) x.1 x.2.1:=λx hx=>by
  obtain⟨o1,az,n,g1,c1⟩:=(show IsTupleKey (dQ prog w) s.heap x.1 x.2.1 from Hu x hx);exact⟨o1,az,n,get?_push_of_some _ g1,c1⟩
 have iG:(s.heap.push { cls:=.type "dict",data:=.dict #[] }).DictOfH (tupleKind (dQ prog w)) o xs:=⟨oo,mL,Qy,get?_push_of_some _ qP,Qz,sR,mO,fU,iJ⟩;have mK:s.heap.objs.size≠o:=λe=>absurd (lt_size qP) (by rw[e];exact Nat.lt_irrefl _)
 refine⟨uP.typeIs,PySem.F.args_dict_init_2 _ _,?_⟩;unfold Builtin.«dict.__init__»;refine wpAny_bind ?_;unfold Builtin.Dict.selfAndRest;refine wpAny_bind (wpAny_notOrdered_dict uP.typeIs ?_)
 show wpAny _ _ (pure (s.heap.objs.size,[Value.ref o])) _ _ _;refine wpAny_pure ?_
 show wpAny _ _ (Builtin.Dict.updateFrom "dict.__init__" s.heap.objs.size (.ref o) [] .none) _ _ _;unfold Builtin.Dict.updateFrom;refine wpAny_bind (wpAny_typeOf iG.typeIs ?_);rw[if_neg (by decide)]
 refine wpAny_bind ?_;unfold Builtin.Dict.merge;refine wpAny_bind ?_;unfold Builtin.Dict.readDirectly;refine wpAny_bind (wpAny_isInstance iG.typeIs isSubtype_dict_dict ?_);simp only[Bool.not_true,false_eq_true,if_false];refine wpAny_bind (wpAny_specialOf iG.typeIs PySem.F.slot_dict_iter.lookup (wpAny_pure ?_));simp only[beq_self_eq_true,if_true];refine wpAny_bind (wpAny_pure ?_);refine abW (xs:=xs) (knd:=tupleKind (dQ prog w)) mK Ht uP iG Hs hn hsz λh' i7 gT=>?_
 show wpAny _ _ (Builtin.Dict.addKeywords s.heap.objs.size [] >>= _) _ _ _;exact wpAny_bind (wpAny_pure (wpAny_pure ⟨rfl,h h' i7 gT⟩))
end
noncomputable def zO(ks:List (List Key)):Prop:=∀(P:Program) (w:World),(ks.map (tupleKeyHash (dQ P w))).Nodup
theorem KT.keys{H:Hp}{kvs:List (List Key×V)}{xs:List (List Key×Addr×Value)}(h:KT H kvs xs):xs.map (·.1)=kvs.map (·.1):=by
 induction h with
 | nil=>rfl
 | cons hq _ ih=>rw[map_cons,map_cons,ih,hq.1]
theorem KT.len{H:Hp}{kvs:List (List Key×V)}{xs:List (List Key×Addr×Value)}(h:KT H kvs xs):xs.length=kvs.length:=by
 have:=congrArg List.length h.keys;simpa using this
section
variable{X:Cx}
theorem abZ:f9 X (.type "dict") (λxs H Q=>∃a kvs,xs = [.ref a]/\H a=some (.dT kvs)/\zO (kvs.map (·.1))/\∀p,H p=none->Q (.ref p) (upd H p (.dT kvs))):=by
 intro pins s σ H xs us Q I r h;obtain⟨a,kvs,rfl,ha,sU,q⟩:=h;obtain⟨u,rfl,ru⟩:=vals1 r;cases ru;obtain⟨z,hs,ks,kt,dd⟩:=OG I.aG ha;obtain⟨o,es,ep,h1,h2,h3,h4,h5,h6⟩:=id dd;refine abY (xs:=ks) hs dd (by rw[kt.len];exact z) (by have:=sU X.prog X.w;rw[← kt.keys,map_map] at this;exact this) λh' se gT=>?_
 obtain⟨o',kI,nq,g1,g2,g3,g4⟩:=se;have fr:H s.heap.objs.size=none:=I.aG.fresh (Nat.le_refl _);have kt':∀ob,KT (upd H s.heap.objs.size ob) kvs ks:=λob=>by
  clear q ha sU z h4 h5 h6 g4 dd
  induction kt with
  | nil=>exact .nil
  | cons hq _ ih =>
   refine .cons ⟨hq.1,?_,hq.2.2⟩ ih;rw[aF (bX hq.2.1 fr)];exact hq.2.1
 refine⟨.ref s.heap.objs.size,upd H s.heap.objs.size (.dT kvs),?_,rfl,q _ fr⟩;refine I.laid (a:=s.heap.objs.size) (o:=.dT kvs) (t':=s.toks) (λb q hq=>?_) (Nat.le_refl _) ?_
 ·exact(gT.2 b (Nat.ne_of_lt (lt_size hq))).trans (get?_push_of_some _ hq)
 ·exact⟨z,beq_eq_false_iff_ne.mpr (Ne.symm (Nat.ne_of_lt I.big)),ks,kt' _,o',kI,nq,g1,g2,g3,g4,h6⟩
end
theorem QA(P:Program)(w:World)(p:Int×Int):tupleKeyHash (dQ P w) (kT p)=reduceHash (Builtin.Tuple.tupleHashOf [hashInt p.1,hashInt p.2]):=by
 have e:(kT p).map (dQ P w).hash = [hashInt p.1,hashInt p.2]:=rfl;unfold tupleKeyHash;rw[e]
theorem ab0{z:List (Int×Int)}(h:∀p∈z,0<=p.1/\p.1<64/\0<=p.2/\p.2<60)(nd:z.Nodup):zO (z.map kT):=by
 intro P w;rw[map_map]
 induction z with
 | nil=>exact nodup_nil
 | cons x z ih =>
  rw[nodup_cons] at nd;rw[map_cons,nodup_cons];refine⟨λhm=>?_,ih (λp hp=>h p (mem_cons_of_mem _ hp)) nd.2⟩;obtain⟨y,hy,e⟩:=mem_map.mp hm;have hx:=h x (by simp)
  have zP:=h y (mem_cons_of_mem _ hy);rw[Function.comp_apply,Function.comp_apply,QA,QA] at e;obtain⟨e1,e2⟩:=abU zP.1 zP.2.1 zP.2.2.1 zP.2.2.2 hx.1 hx.2.1 hx.2.2.1 hx.2.2.2 e;exact nd.1 (by rw[show x=y from Prod.ext e1.symm e2.symm];exact hy)
section
variable{prog:Program}{w:World}{A:Around}{E:Value->Shared->Prop}{s:Shared}{d it:Addr}{es:Array DictEntry}{ep i:Nat}
end
section
variable{X:Cx}
end
noncomputable def eB(rc:List Int)(s:Int)(o:Nat):List (Int×Int):=(List.range s.toNat).map λ(j:Nat)=>((o:Int),rc.getD o 0 - s+(j:Int))
noncomputable def fM(rc:List Int)(s:Int)(us:List (Int×Int))(is:List Nat):Option (Int×Int):=(is.flatMap (eB rc s)).find? λc=>decide (c∉us)
structure Kp(P:Addr)(pos:Pos)(qual:Str)(H H':Hp):Prop where
 b:SameBut P H H'
 t:cu P pos qual H'
theorem cu.same{P:Addr}{pos:Pos}{qual:Str}{H H':Hp}(h:cu P pos qual H)(s:ao H H'):cu P pos qual H':=by
 obtain⟨ps,e,k,c⟩:=h;refine⟨ps,s _ _ e,k,?_⟩;rcases c with c | ⟨c',c1,c2⟩
 ·exact .inl c
 ·exact .inr ⟨c',c1,s _ _ c2⟩
section
variable{P:Addr}{pos:Pos}{qual:Str}{H H1 H2:Hp}
theorem Kp.step(k:Kp P pos qual H H1)(s:ao H1 H2):Kp P pos qual H H2:=⟨k.b.step s,k.t.same s⟩
theorem Kp.trans(k:Kp P pos qual H H1)(k2:Kp P pos qual H1 H2):Kp P pos qual H H2:=⟨k.b.trans k2.b,k2.t⟩
theorem Kp.of(t:cu P pos qual H)(s:ao H H1):Kp P pos qual H H1:=⟨.of s,t.same s⟩
theorem cu.ne(t:cu P pos qual H){a:Addr}{o:HO}(e:H a=some o)(n:∀ps,o≠.eV ps):a≠P:=λz=>by
 obtain⟨ps,e',_⟩:=t;rw[z,e'] at e;exact n ps (Option.some.inj e).symm
theorem Kp.get(k:Kp P pos qual H H1)(t:cu P pos qual H){a:Addr}{o:HO}(e:H a=some o)(n:∀ps,o≠.eV ps:=by intro _ z;cases z):H1 a=some o:=k.b _ _ e (t.ne e n)
theorem Kp.free(k:Kp P pos qual H H1){a:Addr}(n:H1 a=none):H a=none:=by
 cases e:H a with
 | none=>rfl
 | some o =>
  by_cases z:a=P
  ·obtain⟨ps,e',_⟩:=k.t;rw[z,e'] at n;cases n
  ·rw[k.b _ _ e z] at n;cases n
theorem Kp.seq{K:Frag}{a:Addr}{xs:List V}(k:Kp P pos qual H H1)(t:cu P pos qual H)(h:aE K H a xs):aE K H1 a xs:=by
 rcases h with(h | ⟨o,h⟩) | h
 ·exact .inl (.inl (k.get t h))
 ·exact .inl (.inr ⟨o,k.get t h⟩)
 ·exact .inr h
end
theorem cu.put{P:Addr}{pos:Pos}{qual:Str}{H:Hp}{a:Addr}{o ob:HO}(t:cu P pos qual H)(e:H a=some ob)(n1:∀ps,ob≠.eV ps:=by intro _ z;cases z)(n2:∀φ,ob≠.ext φ:=by intro _ z;cases z):cu P pos qual (upd H a o):=by
 obtain⟨ps,e',k,c⟩:=t;refine⟨ps,?_,k,?_⟩
 ·rw[aF (λz=>n1 ps (by rw[z,e] at e';exact Option.some.inj e'))];exact e'
 ·rcases c with c | ⟨c',c1,c2⟩
  ·exact .inl c
  ·refine .inr ⟨c',c1,?_⟩;rw[aF (λz=>n2 _ (by rw[z,e] at c2;exact Option.some.inj c2))];exact c2
theorem cu.keep{P:Addr}{pos:Pos}{qual:Str}{H H':Hp}{x:Addr}{ob:HO}(t:cu P pos qual H)(h:∀b,b≠x->H' b=H b)(e:H x=some ob)(n1:∀ps,ob≠.eV ps:=by intro _ z;cases z)(n2:∀φ,ob≠.ext φ:=by intro _ z;cases z):cu P pos qual H':=by
 obtain⟨ps,e',k,c⟩:=t;refine⟨ps,?_,k,?_⟩
 ·rw[h _ (λz=>n1 ps (by rw[z,e] at e';exact Option.some.inj e'))];exact e'
 ·rcases c with c | ⟨c',c1,c2⟩
  ·exact .inl c
  ·refine .inr ⟨c',c1,?_⟩;rw[h _ (λz=>n2 _ (by rw[z,e] at c2;exact Option.some.inj c2))];exact c2
theorem Kp.put{P:Addr}{pos:Pos}{qual:Str}{H H1:Hp}{a:Addr}{o ob:HO}(k:Kp P pos qual H H1)(n:H a=none)(e:H1 a=some ob)(n1:∀ps,ob≠.eV ps:=by intro _ z;cases z)(n2:∀φ,ob≠.ext φ:=by intro _ z;cases z):Kp P pos qual H (upd H1 a o) :=
 ⟨λb u q h=>by rw[aF (bX q n)];exact k.b b u q h,k.t.put e n1 n2⟩
theorem ab1{rc:List Int}{s:Int}{us:List (Int×Int)}{is:List Nat}{o:Int×Int}(h:fM rc s us is=some o):o∉us:=by
 have:=List.find?_some h;simpa using this
theorem ab3{rc:List Int}{s:Int}{us:List (Int×Int)}{is:List Nat}{i o:Nat}(h:∀c∈(is.take i).flatMap (eB rc s),c∈us)(e:is[i]? = some o)(h2:∀c∈eB rc s o,c∈us) :
  ∀c∈(is.take (i+1)).flatMap (eB rc s),c∈us:=by
 intro c hc;rw[take_succ_get e,List.flatMap_append,mem_append] at hc;rcases hc with hc | hc
 ·exact h c hc
 ·exact h2 c (by simpa using hc)
theorem ab4{rc:List Int}{s:Int}{us:List (Int×Int)}{is:List Nat}(h:∀c∈is.flatMap (eB rc s),c∈us):fM rc s us is=none:=by
 unfold fM;rw[find?_eq_none];intro c hc;simpa using h c hc
theorem ab5{rc:List Int}{s:Int}{us:List (Int×Int)}{is:List Nat}{i o j:Nat}(h:∀c∈(is.take i).flatMap (eB rc s),c∈us)(e:is[i]? = some o)(hj:j<s.toNat)
  (h2:∀j',j' < j->((o:Int),rc.getD o 0 - s+(j':Int))∈us) (h3:((o:Int),rc.getD o 0 - s+(j:Int))∉us):fM rc s us is=some ((o:Int),rc.getD o 0 - s+(j:Int)):=by
 have hi:=e8 e;have e1:is=is.take i++o::is.drop (i+1):=by
  have:is.drop i=o::is.drop (i+1):=by
   rw[drop_eq_getElem_cons hi];rw[getElem?_eq_getElem hi] at e;rw[Option.some.inj e]
  rw[← this,take_append_drop]
 have e2:eB rc s o=(List.range j).map (λ(j:Nat)=>((o:Int),rc.getD o 0 - s+(j:Int)))++((o:Int),rc.getD o 0 - s+(j:Int))::((List.range s.toNat).drop (j+1)).map λ(j:Nat)=>((o:Int),rc.getD o 0 - s+(j:Int)):=by
  unfold eB;have:List.range s.toNat=List.range j++j::(List.range s.toNat).drop (j+1):=by
   have q:(List.range s.toNat).drop j=j::(List.range s.toNat).drop (j+1):=by
    rw[drop_eq_getElem_cons (by simpa using hj)]
    rw[List.getElem_range]
   have q2:(List.range s.toNat).take j=List.range j:=by
    rw[List.take_range,min_eq_left ∅]
   rw[← q,← q2,take_append_drop]
  conv=>lhs;rw[this]
  rw[map_append,map_cons]
 unfold fM;rw[e1,List.flatMap_append,flatMap_cons,e2,List.find?_append,find?_eq_none.mpr (λc hc=>by simpa using h c hc),Option.none_or,append_assoc,List.find?_append,
  find?_eq_none.mpr (λc hc=>by
   obtain⟨j',jR,rfl⟩:=mem_map.mp hc;simpa using h2 j' (mem_range.mp jR)),Option.none_or,cons_append,List.find?_cons_of_pos (by simpa using h3)]
noncomputable def ab6(K:Frag)(P:Addr)(pos:Pos)(qual:Str):Sp:=λvs H Q _=>∃(ra ud:Addr) (r s:Int) (rc:List Int) (us:List (Int×Int)),vs = [.ref ra,.int s,.int r,.ref ud]/\aE K H ra (rc.map V.int)/\2<=rc.length/\rc.length<64/\0<=s/\s<=1000/\(∀c∈rc,s<=c/\c<=1000)/\
 H ud=some (.dT (dX us))/\cu P pos qual H/\∀(is:List Nat) (H':Hp),iO (gj r) rc.length is->Kp P pos qual H H'->
  (fM rc s us is=none->Q .aW H')/\∀c t,fM rc s us is=some c->H t=none->H' t=some (.tup [.int c.1,.int c.2])->Q (.ref t) H'
inductive jq (rc:List Int) (s:Int) (z:List (Int×Int)) (us:List (Int×Int)):List Nat->List (Nat×(Int×Int)×(Int×Int))->Prop
 | nil:jq rc s z us [] []
 | snoc {ns:List Nat} {ms:List (Nat×(Int×Int)×(Int×Int))} {n:Nat} {c o:Int×Int} (h:jq rc s z us ns ms) (hc:z[n]? = some c) {is:List Nat} (ho:iO (gj c.1) rc.length is)
   (hf:fM rc s (us++ms.map λm=>m.2.2) is=some o):jq rc s z us (ns++[n]) (ms++[(n,c,o)])
theorem jq.len{rc:List Int}{s:Int}{z us:List (Int×Int)}{ns:List Nat}{ms:List (Nat×(Int×Int)×(Int×Int))}(h:jq rc s z us ns ms):ms.length=ns.length:=by
 induction h with
 | nil=>rfl
 | snoc _ _ _ _ ih=>simp[ih]
structure ir(H:Hp)(l:Addr)(ts us os:List Addr)(ms:List (Nat×(Int×Int)×(Int×Int))):Prop where
 l:H l=some (.lst (us.map V.ref))
 n:us.length=ms.length
 no:os.length=ms.length
 t:∀(i:Nat) (u:Addr) (m:Nat×(Int×Int)×(Int×Int)),us[i]? = some u->ms[i]? = some m->∃tc to,os[i]? = some to/\H u=some (.tup [.int (m.1:Int),.ref tc,.ref to])/\ts[m.1]? = some tc/\H tc=some (.tup [.int m.2.1.1,.int m.2.1.2])/\H to=some (.tup [.int m.2.2.1,.int m.2.2.2])
theorem ir.but{P:Addr}{pos:Pos}{qual:Str}{H H':Hp}{l:Addr}{ts us os:List Addr}{ms:List (Nat×(Int×Int)×(Int×Int))}(h:ir H l ts us os ms)(t:cu P pos qual H)(k:Kp P pos qual H H'):ir H' l ts us os ms :=
 ⟨k.get t h.l,h.n,h.no,λi u m e1 e2=>let ⟨tc,to,x,a,b,c,d⟩:=h.t i u m e1 e2;⟨tc,to,x,k.get t a,b,k.get t c,k.get t d⟩⟩
theorem ir.same{H H':Hp}{l:Addr}{ts us os:List Addr}{ms:List (Nat×(Int×Int)×(Int×Int))}(h:ir H l ts us os ms)(k:ao H H'):ir H' l ts us os ms :=
 ⟨k _ _ h.l,h.n,h.no,λi u m e1 e2=>let ⟨tc,to,x,a,b,c,d⟩:=h.t i u m e1 e2;⟨tc,to,x,k _ _ a,b,k _ _ c,k _ _ d⟩⟩
theorem ir.other{H:Hp}{l x:Addr}{o:HO}{ts us os:List Addr}{ms:List (Nat×(Int×Int)×(Int×Int))}(h:ir H l ts us os ms)(hx:∃kvs,H x=some (.dT kvs)):ir (upd H x o) l ts us os ms:=by
 obtain⟨kvs,hx⟩:=hx;have ne:∀ {a:Addr} {o':HO},H a=some o'->(∀kvs,o'≠.dT kvs)->a≠x:=λe n z=>n kvs (by rw[z,hx] at e;exact(Option.some.inj e).symm)
 refine⟨by rw[aF (ne h.l (by intro _ z;cases z))];exact h.l,h.n,h.no,λi u m e1 e2=>?_⟩
 obtain⟨tc,to,x,a,b,c,d⟩:=h.t i u m e1 e2;exact⟨tc,to,x,by rw[aF (ne a (by intro _ z;cases z))];exact a,b,by rw[aF (ne c (by intro _ z;cases z))];exact c,by rw[aF (ne d (by intro _ z;cases z))];exact d⟩
theorem ir.snoc{H:Hp}{l:Addr}{ts us os:List Addr}{ms:List (Nat×(Int×Int)×(Int×Int))}(h:ir H l ts us os ms){u tc to:Addr}{m:Nat×(Int×Int)×(Int×Int)}(hu:H u=some (.tup [.int (m.1:Int),.ref tc,.ref to]))(ht:ts[m.1]? = some tc)
  (hc:H tc=some (.tup [.int m.2.1.1,.int m.2.1.2])) (ho:H to=some (.tup [.int m.2.2.1,.int m.2.2.2])):ir (upd H l (.lst (us.map V.ref++[V.ref u]))) l ts (us++[u]) (os++[to]) (ms++[m]):=by
 have ne:∀ {a:Addr} {xs:List V},H a=some (.tup xs)->a≠l:=λe q=>by rw[q,h.l] at e;cases e
 refine⟨by rw[aD,map_append];rfl,by simp[h.n],by simp[h.no],λi u' m' e1 e2=>?_⟩
 by_cases hi:i<us.length
 ·rw[getElem?_append_left hi] at e1;rw[getElem?_append_left (by rw[← h.n];exact hi)] at e2
  obtain⟨tc',to',x,a,b,c,d⟩:=h.t i u' m' e1 e2;exact⟨tc',to',by rw[getElem?_append_left (e8 x)];exact x,by rw[aF (ne a)];exact a,b,by rw[aF (ne c)];exact c,by rw[aF (ne d)];exact d⟩
 ·rw[getElem?_append_right ∅] at e1
  rw[getElem?_append_right (by rw[← h.n];lia),← h.n] at e2
  have hj:i - us.length=0:=by
   have:=(List.getElem?_eq_some_iff.mp e1).1;simp at this;lia
  rw[hj] at e1 e2;cases e1;cases e2;exact⟨tc,to,by rw[getElem?_append_right (by rw[h.no,← h.n];lia),h.no,← h.n,hj];rfl,by rw[aF (ne hu)];exact hu,ht,by rw[aF (ne hc)];exact hc,by rw[aF (ne ho)];exact ho⟩
noncomputable def cH(bz:List (Int×Int)):Nat->List (Int×Int)->List Nat
 | _,[]=>[]
 | i,q::z=>if q∈bz then i::cH bz (i+1) z else cH bz (i+1) z
theorem zQ(bz:List (Int×Int)):∀(z:List (Int×Int)) (i:Nat),jg (dX bz) i z=(cH bz i z).map λ(n:Nat)=>(n:Int)
 | [],i=>rfl
 | q::z,i=>by
  rw[jg,cH];by_cases h:q∈bz
  ·rw[Pj h,if_pos (show (some (V.bl true)).isSome=true from rfl),if_pos h,map_cons,zQ bz z]
  ·rw[u9 h,if_neg (by simp),if_neg h,zQ bz z]
theorem Hv{bz:List (Int×Int)}:∀ {z:List (Int×Int)} {i n:Nat},n∈cH bz i z->i<=n/\∃c,z[n - i]? = some c/\c∈bz
 | [],i,n,h=>by cases h
 | q::z,i,n,h=>by
  rw[cH] at h;have tl:n∈cH bz (i+1) z->i<=n/\∃c,(q::z)[n - i]? = some c/\c∈bz:=λh=>by
   obtain⟨h1,c,h2,h3⟩:=Hv h;refine⟨∅,c,?_,h3⟩
   rw[show n - i=(n - (i+1))+1 by lia,getElem?_cons_succ]
   exact h2
  split at h
  ·rename_i hq;rcases mem_cons.mp h with rfl | h
   ·exact⟨Nat.le_refl _,q,by simp,hq⟩
   ·exact tl h
  ·exact tl h
theorem ab7(bz z:List (Int×Int)):(cH bz 0 z).length<=z.length:=by
 have:=GD (dX bz) z 0;rw[zQ,length_map] at this;exact this
theorem ab8(us:List (Int×Int)){o:Int×Int}(h:o∉us):putK (dX us) (kT o) (.bl true)=dX (us++[o]):=by
 rw[OC _ (u9 h)];simp[dX]
noncomputable def ab9(K:Frag)(P:Addr)(pos:Pos)(qual:Str):Sp:=λvs H Q _=>∃(ra na d:Addr) (s:Int) (rc:List Int) (ts:List Addr) (z bz:List (Int×Int)),vs = [.ref ra,.int s,.ref na,.ref d]/\aE K H ra (rc.map V.int)/\2<=rc.length/\rc.length<64/\0<=s/\s<=1000/\(∀c∈rc,s<=c/\c<=1000)/\
 Zn H na ts z/\z.length<=1000000/\H d=some (.dT (dX bz))/\zO (bz.map kT)/\bz.length<=1000/\cu P pos qual H/\
 (∀(os:List (Int×Int)) (r:Int) (is:List Nat),os.length<(cH bz 0 z).length->iO (gj r) rc.length is->fM rc s (bz++os) is≠none)/\
 ∀l us os ms H',Kp P pos qual H H'->H l=none->(∀t∈os,H t=none)->jq rc s z bz (cH bz 0 z) ms->ir H' l ts us os ms->Q (.ref l) H'
theorem QB{n j:Nat}(h:j<n):kO n (j:Int)=some j:=by
 unfold kO;rw[if_pos ∅,if_pos ∅]
 simp
noncomputable def gG(nc:List (Int×Int))(ms:List (Nat×(Int×Int)×(Int×Int))):List (Int×Int):=ms.foldl (λa m=>a.set m.1 m.2.2) nc
theorem QC(nc:List (Int×Int))(ms:List (Nat×(Int×Int)×(Int×Int)))(m:Nat×(Int×Int)×(Int×Int)):gG nc (ms++[m])=(gG nc ms).set m.1 m.2.2:=by
 unfold gG;rw[List.foldl_append];rfl
theorem sV(nc:List (Int×Int))(ms:List (Nat×(Int×Int)×(Int×Int))):(gG nc ms).length=nc.length:=by
 unfold gG
 induction ms generalizing nc with
 | nil=>rfl
 | cons m ms ih=>rw[foldl_cons,ih,List.length_set]
theorem Zn.setAt{H:Hp}{l t:Addr}{ts:List Addr}{z:List (Int×Int)}(h:Zn H l ts z){k:Nat}{c:Int×Int}(ht:H t=some (.tup [.int c.1,.int c.2])):Zn (upd H l (.lst ((ts.set k t).map V.ref))) l (ts.set k t) (z.set k c):=by
 have ne:∀ {a:Addr} {xs:List V},H a=some (.tup xs)->a≠l:=λe q=>by rw[q,h.l] at e;cases e
 refine⟨aD,by simp[h.n],λi t' p e1 e2=>?_⟩
 rw[List.getElem?_set] at e1 e2;by_cases hk:k=i
 ·subst hk;rw[if_pos rfl] at e1 e2;have hl:k<ts.length:=by
   by_cases q:k<ts.length
   ·exact q
   ·rw[if_neg q] at e1;cases e1
  rw[if_pos hl] at e1;rw[if_pos (by rw[← h.n];exact hl)] at e2
  cases e1;cases e2;rw[aF (ne ht)];exact ht
 ·rw[if_neg hk] at e1 e2;have:=h.t i t' p e1 e2;rw[aF (ne this)];exact this
noncomputable def ab_(K:Frag)(C P:Addr)(pos:Pos)(qual:Str):Sp:=λvs H Q _=>∃(p dx za sa ba:Addr) (iM eL:List Addr) (z bz:List (Int×Int)) (aP cK s:Int) (sw:List Int),vs = [.ref p,.ref za,.int aP,.int cK,.ref sa,.int s,.ref ba]/\CP K C/\cC K C "moves"/\H p=some (.ins C dx [])/\Zn H za iM z/\qE z/\
 1<=aP/\aP<=1000000000/\0<=cK/\cK<aP/\(∀p∈z,aP % p.2=0)/\aE K H sa (sw.map V.int)/\SwOk sw (z.map (·.1)).sum/\Zn H ba eL bz/\bz.length<=1000/\bz.Nodup/\(∀q∈bz,0<=q.1/\q.1<(counts z).length/\0<=q.2/\q.2<(counts z).getD q.1.toNat 0)/\
 (counts z).length<64/\0<=s/\(∀c∈counts z,s<c)/\cu P pos qual H/\
 (∀(os:List (Int×Int)) (r:Int) (is:List Nat),os.length<(cH bz 0 (cE (counts z) s)).length->iO (gj r) (counts z).length is->fM (counts z) s (bz++os) is≠none)/\
 ∀H' fp mv ts us os ms,(∀b o,H b=some o->b≠p->b≠P->H' b=some o)->cu P pos qual H'->(∀b∈mv::fp,H b=none)->jq (counts z) s (cE (counts z) s) bz (cH bz 0 (cE (counts z) s)) ms->
  GF K C H' p ⟨counts z,aP,cK,sw,gG (cE (counts z) s) ms⟩ fp mv (us.map V.ref)->ir H' mv ts us os ms->Q .aW H'
theorem Hw{α:Type}[DecidableEq α]:∀ {l l':List α},l.Nodup->(∀x∈l,x∈l')->l.length<=l'.length
 | [],_,_,_=>zero_le _
 | x::l,l',n,h=>by
  rw[nodup_cons] at n;have hx:=h x (by simp)
  have:=Hw (l:=l) (l':=l'.erase x) n.2 λy hy=>(List.mem_erase_of_ne (λ(e:y=x)=>n.1 (by rw[← e];exact hy))).mpr (h y (mem_cons_of_mem _ hy))
  rw[List.length_erase_of_mem hx] at this;have:=List.length_pos_of_mem hx;simp only[length_cons];lia
theorem vN(bz:List (Int×Int)):∀(z:List (Int×Int)) (i:Nat),(cH bz i z).length=(z.filter λc=>decide (c∈bz)).length
 | [],_=>rfl
 | q::z,i=>by
  rw[cH,filter_cons];by_cases h:q∈bz
  ·rw[if_pos h,if_pos (decide_eq_true h),length_cons,length_cons,vN bz z]
  ·rw[if_neg h,if_neg (by simpa using h),vN bz z]
theorem Hx{s:Int}:∀(rc:List Int) (r:Nat) (c:Int×Int),c∈dj s r rc->∃j:Nat,j<rc.length/\c.1=((r+j:Nat):Int)/\0<=c.2/\c.2<rc.getD j 0 - s
 | [],r,c,h=>by cases h
 | x::rc,r,c,h=>by
  rw[dj,mem_append] at h;rcases h with h | h
  ·obtain⟨k,hk,rfl⟩:=mem_map.mp h;have:=mem_range.mp hk;exact⟨0,by simp,by simp,by show 0<=(k:Int);lia,by show (k:Int)<x - s;lia⟩
  ·obtain⟨j,h1,h2,h3,h4⟩:=Hx rc (r+1) c h;exact⟨j+1,by simpa using h1,by rw[h2];congr 1;lia,h3,by simpa using h4⟩
theorem Hy(rc:List Int)(s:Int):∀is:List Nat,(is.flatMap (eB rc s)).length=is.length*s.toNat
 | []=>by simp
 | o::is=>by
  rw[flatMap_cons,length_append,Hy rc s is,length_cons,Nat.succ_mul];unfold eB;simp;lia
theorem Hz{rc:List Int}{s:Int}{is:List Nat}{c:Int×Int}(h:c∈is.flatMap (eB rc s)):∃o∈is,c.1=(o:Int)/\rc.getD o 0 - s<=c.2/\c.2<rc.getD o 0 - s+s.toNat:=by
 obtain⟨o,ho,hc⟩:=mem_flatMap.mp h;obtain⟨j,hj,rfl⟩:=mem_map.mp hc;have:=mem_range.mp hj;exact⟨o,ho,rfl,by show _<=rc.getD o 0 - s+(j:Int);lia,by show rc.getD o 0 - s+(j:Int)<_;lia⟩
theorem HD(rc:List Int)(s:Int):∀ {is:List Nat},is.Nodup->(is.flatMap (eB rc s)).Nodup
 | [],_=>by simp
 | o::is,n=>by
  rw[nodup_cons] at n;rw[flatMap_cons,nodup_append];refine⟨?_,HD rc s n.2,λa ha b hb e=>?_⟩
  ·unfold eB;rw[nodup_iff_pairwise_ne,pairwise_map];refine Pairwise.imp ?_ (nodup_iff_pairwise_ne.mp nodup_range);intro a b h e;have:=congrArg Prod.snd e;simp only at this;lia
  ·obtain⟨j,hj,rfl⟩:=mem_map.mp ha;obtain⟨o',iG,e1,_⟩:=Hz hb;rw[← e] at e1;have e1:(o:Int)=(o':Int):=e1;have:o=o':=by lia
   exact n.1 (this▸iG)
theorem acd{rc:List Int}{s:Int}{bz:List (Int×Int)}(hs:0<=s)(hb:bz.length<=s.toNat*rc.length)(os:List (Int×Int))(r:Int)(is:List Nat)
  (ho:os.length<(cH bz 0 (cE rc s)).length) (ord:iO (gj r) rc.length is):fM rc s (bz++os) is≠none:=by
 intro h;unfold fM at h;rw[find?_eq_none] at h;have nd:is.Nodup:=ord.1.nodup_iff.mpr nodup_range;have il:is.length=rc.length:=by rw[ord.1.length_eq,length_range]
 have K1:=Hy rc s is;have K2:=HD rc s nd;have c1:=Hw (l':=(bz.filter λc => !decide (c∈cE rc s))++os) K2 λc hc=>by
  have:=h c hc;have hm:c∈bz++os:=by
   by_cases q:c∈bz++os
   ·exact q
   ·exact absurd (decide_eq_true q) this
  rw[mem_append] at hm ⊢;rcases hm with hm | hm
  ·refine .inl (mem_filter.mpr ⟨hm,?_⟩);rw[not_eq_true',decide_eq_false_iff_not];intro hz;obtain⟨o,iG,e1,e2,_⟩:=Hz hc;obtain⟨j,j1,j2,j3,j4⟩:=Hx rc 0 c hz;have:o=j:=by lia
   rw[this] at e2;lia
  ·exact .inr hm
 have c2:=Hw (l:=(cE rc s).filter λc=>decide (c∈bz)) (l':=bz.filter λc=>decide (c∈cE rc s)) ((Ph rc 0).filter _) λc hc=>by
  obtain⟨h1,h2⟩:=mem_filter.mp hc;exact mem_filter.mpr ⟨by simpa using h2,by simpa using h1⟩
 have c3:(bz.filter λc=>decide (c∈cE rc s)).length+(bz.filter λc => !decide (c∈cE rc s)).length=bz.length:=by
  clear h ho hb c1 c2
  induction bz with
  | nil=>rfl
  | cons x bz ih =>
   rw[filter_cons,filter_cons];by_cases q:x∈cE rc s
   ·rw[if_pos (decide_eq_true q),if_neg (by simpa using q)];simp only[length_cons];lia
   ·rw[if_neg (by simpa using q),if_pos (by simpa using q)];simp only[length_cons];lia
 rw[vN] at ho;rw[length_append] at c1;rw[K1,il,Nat.mul_comm] at c1;lia
theorem ace{s:Int}{rc:List Int}{i:Nat}(h:i<rc.length):dj s 0 (rc.take (i+1))=dj s 0 (rc.take i)++(List.range (rc.getD i 0 - s).toNat).map λ(k:Nat)=>((i:Int),(k:Int)):=by
 rw[take_succ_get (getElem?_eq_getElem h),Gu,dj,dj,append_nil,length_take,min_eq_left ∅,zero_add,show rc.getD i 0=rc[i] by simp[h]]
noncomputable def gk(c:Int×Int)(r:Int):List Int:=[((c.1 - r).natAbs:Int),c.1,c.2]
noncomputable def zR(K:Frag)(tabs:List (Addr×Addr)):Sp:=λvs H Q _=>∃(a:Addr) (ns:List Int),vs = [.ref a]/\aE K H a (ns.map V.int)/\ns.length<=63/\(∀q∈tabs,H q.2=some (.eV #[]))/\∀H',Q (.bl true) H'
theorem walk_lawT{l:W.OpenLaw}{k:Nat}{q:Program}{loose:List Str}{XP:(Str->Option Value)->Heap->Prop}{YP:World->Heap->Prop}{d:DefRec}{K:Params->Frag}{x:Str}
  (hn:l.most=some 63) (qB:d.params.defaults = []) (hr:bZ k callerA) (hY:∀(w:World) (h:Heap),YP w h->(K w.params).In h) (vM:∀w:World,W.noTabs (K w.params)=true)
  (F:∀(w:World) (mg:Str->Option Value) (fa:Addr) (h:Heap),YP w h->(K w.params).In h->h.Ns mainGlobals mg->mg d.name=some (.ref fa)->
   ∃(fd:FuncData) (tabs:List (Addr×Addr)),(∀(s:Shared) (u:Value),BindsTo s fd ⟨[u],[]⟩ [(x,u)])/\W.TabsAt tabs h/\
    ∀base:Heap,(K w.params).In base->base.Ns mainGlobals mg->(∀q∈tabs,bF mg base q.1 q.2)->bq l.prog w (K w.params) mg base bx k fa fd [x] (zR (K w.params) tabs)) :
  W.WalkO q loose XP YP l.row.toRowW d [] (λf vs=>PySem.call f vs) :=
 abR (n:=63) (sp:=λw tabs=>zR (K w.params) tabs) hn (by decide) qB hr hY vM F (λ_ tabs H a ns hl hT hS=>⟨a,ns,rfl,hS,hl,hT,λ_=>rfl⟩)
noncomputable def vO(r:Int)(a b:Int×Int):Prop:=(a.1 - r).natAbs<(b.1 - r).natAbs\/((a.1 - r).natAbs=(b.1 - r).natAbs/\(a.1<b.1\/(a.1=b.1/\a.2<b.2)))
theorem acf{rc:List Int}{s r:Int}{is:List Nat}(ord:iO (gj r) rc.length is)(fq:rc.length<64):(is.flatMap (eB rc s)).Pairwise (vO r):=by
 have il:is.length=rc.length:=by rw[ord.1.length_eq,length_range]
 have lt:∀i∈is,i<rc.length:=λi hi=>mem_range.mp (ord.1.mem_iff.mp hi);rw[List.pairwise_flatMap];refine⟨λo _=>?_,?_⟩
 ·unfold eB;rw[pairwise_map];refine Pairwise.imp ?_ List.pairwise_lt_range;intro a b h;exact .inr ⟨rfl,.inr ⟨rfl,by dsimp only;lia⟩⟩
 ·rw[pairwise_iff_getElem];intro i j hi hj jh x hx y hy;obtain⟨a,_,rfl⟩:=mem_map.mp hx;obtain⟨b,_,rfl⟩:=mem_map.mp hy;have h:=ord.2 i j jh ∅
  rw[show is.getD i 0=is[i] by simp[hi],show is.getD j 0=is[j] by simp[hj]] at h
  have l1:=lt is[i] (getElem_mem hi);have l2:=lt is[j] (getElem_mem hj);unfold gj at h;dsimp only at h;unfold vO;dsimp only;lia
theorem acg{rc:List Int}{s r:Int}{us:List (Int×Int)}{is:List Nat}{o c:Int×Int}(ord:iO (gj r) rc.length is)(fq:rc.length<64)(h:fM rc s us is=some o)(hc:c∈(List.range rc.length).flatMap (eB rc s))(hn:c∉us):c=o\/vO r o c:=by
 have pw:=acf (s:=s) ord fq;have hm:c∈is.flatMap (eB rc s):=by
  obtain⟨k,hk,vP⟩:=mem_flatMap.mp hc;exact mem_flatMap.mpr ⟨k,ord.1.mem_iff.mpr hk,vP⟩
 unfold fM at h;obtain⟨_,as,bs,e,ha⟩:=List.find?_eq_some_iff_append.mp h;rw[e] at hm pw;rw[mem_append,mem_cons] at hm;rcases hm with hm | rfl | hm
 ·have:=ha c hm;simp[hn] at this
 ·exact .inl rfl
 ·exact .inr (List.rel_of_pairwise_cons (List.pairwise_append.mp pw).2.1 hm)
noncomputable abbrev Us:=List (Addr×List Int)
noncomputable def uV(zs:Us):List V:=zs.map λz=>V.ref z.1
noncomputable def qQ(H:Hp)(zs:Us):Prop:=∀z,z∈zs->H z.1=some (.tup (z.2.map V.int))
theorem zS(zs:Us):(uV zs).length=zs.length:=by simp[uV]
theorem QD{zs:Us}{k:Nat}(h:k<zs.length):(uV zs)[k]? = some (.ref zs[k].1):=by simp[uV,h]
theorem QE:∀(zs:Us) (k:Nat),(uV zs).eraseIdx k=uV (zs.eraseIdx k)
 | [],_=>rfl
 | _::_,0=>rfl
 | z::r,k+1=>congrArg (V.ref z.1 :: ·) (QE r k)
theorem ach{H:Hp}{p:Addr}{ns ms:List Int}(h:H p=some (.tup (ns.map V.int)))(h':H p=some (.tup (ms.map V.int))):ns=ms:=by
 have z:=h.symm.trans h';injection z with z;injection z with z;exact GJ z
section
variable{X:Cx}{pins:List (Addr×Obj)}{σ:St}{H:Hp}{s:Shared}
noncomputable def vQ(zs:Us)(c:List Int):Value->Bool
 | .ref a=>zs.any λz=>decide (z.1=a) && decide (z.2=c)
 | _=>false
theorem zT{zs:Us}{c:List Int}(h:qQ H zs){z:Addr×List Int}(hz:z∈zs):vQ zs c (.ref z.1)=decide (z.2=c):=by
 unfold vQ;rw[Bool.eq_iff_iff];simp only[List.any_eq_true,and_eq_true,decide_eq_true_eq];constructor
 ·rintro⟨y,hy,e1,e2⟩;have:=h y hy;rw[e1] at this;exact(ach (h z hz) this).trans e2
 ·exact λe=>⟨z,hz,rfl,e⟩
theorem QF{zs:Us}{az:List Value}(r:Vals (uV zs) az):az=zs.map λz=>Value.ref z.1:=by
 induction zs generalizing az with
 | nil=>cases r;rfl
 | cons z zs ih =>
  cases r with
  | cons a b =>
  cases a;rw[ih b];rfl
theorem QG{zs:Us}{c:List Int}(h:qQ H zs):(zs.map λz=>Value.ref z.1).any (vQ zs c)=decide (c∈zs.map (·.2)):=by
 rw[Bool.eq_iff_iff];simp only[List.any_eq_true,decide_eq_true_eq,mem_map];constructor
 ·rintro⟨_,⟨z,hz,rfl⟩,e⟩;rw[zT h hz,decide_eq_true_eq] at e;exact⟨z,hz,e⟩
 ·rintro⟨z,hz,e⟩;exact⟨_,⟨z,hz,rfl⟩,by rw[zT h hz,decide_eq_true_eq];exact e⟩
end
section
variable{X:Cx}
noncomputable def zW(K:Frag)(neg:Bool):R2:=λx y H Q=>∃(a p:Addr) (c:List Int) (zs:Us),x = .ref a/\y = .ref p/\H a=some (.tup (c.map V.int))/\aE K H p (uV zs)/\qQ H zs/\
 Q (.bl (if neg then !decide (c∈zs.map (·.2)) else decide (c∈zs.map (·.2)))) H
theorem aci(hu:X.A.units+16<cLine):cJ X (compareOp .In) (zW X.K false):=by
 intro pins s σ H x y v u Q I rx ry h;obtain⟨a,p,c,zs,rfl,rfl,ha,hq,hz,q⟩:=h;cases ry;cases rx;obtain⟨az,r,pl,_⟩:=I.list hq;have e:=QF r;subst e;refine SeqAt.in_listAt (vQ zs c) pl.isList (λw hw=>?_) ⟨.bl _,H,I,rfl,?_⟩
 ·rw[List.mem_toArray] at hw;obtain⟨z,h1,rfl⟩:=mem_map.mp hw;rw[zT hz h1];exact GK I (by show X.A.units+1+1<cLine;lia) (hz z h1) ha
 ·rw[List.any_toArray,QG hz];exact q
theorem QH(hu:X.A.units+16<cLine):cJ X (compareOp .NotIn) (zW X.K true):=by
 intro pins s σ H x y v u Q I rx ry h;obtain⟨a,p,c,zs,rfl,rfl,ha,hq,hz,q⟩:=h;cases ry;cases rx;obtain⟨az,r,pl,_⟩:=I.list hq;have e:=QF r;subst e;refine SeqAt.notIn_listAt (vQ zs c) pl.isList (λw hw=>?_) ⟨.bl _,H,I,rfl,?_⟩
 ·rw[List.mem_toArray] at hw;obtain⟨z,h1,rfl⟩:=mem_map.mp hw;rw[zT hz h1];exact GK I (by show X.A.units+1+1<cLine;lia) (hz z h1) ha
 ·rw[List.any_toArray,QG hz];exact q
noncomputable def HE:V->List V->Hp->VK->Prop:=λx vs H Q=>∃(l a:Addr) (zs:Us) (c:List Int),x = .ref l/\vs = [.ref a]/\H l=some (.lst (uV zs))/\qQ H zs/\H a=some (.tup (c.map V.int))/\c∈zs.map (·.2)/\
 ∀(k:Nat) (h:k<zs.length),zs[k].2=c->(∀m (hm:m<zs.length),m<k->zs[m].2≠c)->Q .aW (upd H l (.lst (uV (zs.eraseIdx k))))
theorem acj{zs:Us}{t:List Int}(h:t∈zs.map (·.2)):∃k,∃h:k<zs.length,zs[k].2=t/\∀m (hm:m<zs.length),m<k->zs[m].2≠t:=by
 induction zs with
 | nil=>cases h
 | cons z r ih =>
  by_cases e:z.2=t
  ·exact⟨0,by simp,e,λm _ hm=>absurd hm ∅⟩
  ·rw[map_cons,mem_cons] at h;obtain⟨k,hk,e1,e2⟩:=ih (h.resolve_left λq=>e q.symm);refine⟨k+1,by simpa using hk,by simpa using e1,λm hm h1=>?_⟩
   cases m with
   | zero=>exact e
   | succ m=>exact e2 m (by simpa using hm) ∅
theorem ack(hu:X.A.units+16<cLine):uO X "list.remove" HE:=by
 intro pins s σ H x vs v us Q I rx rv h;obtain⟨l,a,zs,t,rfl,rfl,hH,hz,ha,hm,q⟩:=h;cases rx;obtain⟨u,rfl,ru⟩:=rv.one;cases ru;obtain⟨z,az,n,r,hl,e⟩:=I.nK hH;rw[zS] at hl z;obtain⟨k,hk,e1,e2⟩:=acj hm;refine call_meets PySem.F.slot_list_remove ⟨_,e,rfl⟩ PySem.F.entry_list_remove (PySem.F.args_list_remove_2 _ _)
  (aaR l az.toArray n (.ref a) (λm=>decide ((zs.getD m zs[k]).2=t)) k (by simp;lia) (by simp[hk,e1]) (λm hm=>?_) (by simp;lia)) ⟨e,λm hm=>?_,?_⟩
 ·have m1:m<zs.length:=by lia
  simpa[m1] using e2 m m1 hm
 ·have m1:m<zs.length:=by rw[hl];simpa using hm
  obtain⟨u,g,w⟩:=r.get (QD m1);cases w;have e3:az.toArray[m] = .ref zs[m].1:=by
   rw[getElem_toArray];exact Option.some.inj ((getElem?_eq_getElem (by simpa using hm)).symm.trans g)
  have e4:zs.getD m zs[k] = zs[m]:=by simp[m1]
  rw[e3,e4];exact GK I (by show X.A.units+1+1<cLine;lia) (hz _ (getElem_mem m1)) ha
 ·refine⟨.aW,_,I.eO (its':=az.eraseIdx k) (ys:=uV (zs.eraseIdx k)) hH e ?_ ?_ ?_,rfl,q k hk e1 e2⟩
  ·show az.toArray.eraseIdxIfInBounds k=(az.eraseIdx k).toArray;rw[List.eraseIdxIfInBounds_toArray]
  ·rw[← QE];exact r.eraseIdx k
  ·rw[zS];have:=Oo zs k;lia
theorem acm{a b:List Int}(h:_H.lexLt a b=true):¬ _H.lexLt b a=true:=λz=>zy a (GG _ _ _ h z)
theorem acn{a b c:List Int}(h:¬ _H.lexLt b a=true)(h':¬ _H.lexLt c b=true):¬ _H.lexLt c a=true:=λz=>by
 rcases Pk a b with q | q | q
 ·exact h' (GG _ _ _ z q)
 ·rw[q] at z;exact h' z
 ·exact h q
theorem aco{f:Nat->List Int}{bt:Nat->Nat->Bool}{n:Nat}(hb:∀i j,i<=n->j<=n->(bt i j=true↔_H.lexLt (f i) (f j)=true)) :
  ∀k,k<=n->argBest bt k<=k/\∀j,j<=k->¬ _H.lexLt (f j) (f (argBest bt k))=true:=by
 intro k
 induction k with
 | zero=>intro _;exact⟨Nat.le_refl _,λj hj=>by rw[show j=0 by lia];exact zy _⟩
 | succ k ih =>
  intro hk;obtain⟨h1,h2⟩:=ih ∅
  simp only[argBest];by_cases e:bt (k+1) (argBest bt k)=true
  ·rw[if_pos e];have:=(hb _ _ hk ∅).mp e
   refine⟨Nat.le_refl _,λj hj=>?_⟩;by_cases ej:j=k+1
   ·rw[ej];exact zy _
   ·exact acn (acm this) (h2 j ∅)
  ·rw[if_neg e];refine⟨∅,λj hj=>?_⟩
   by_cases ej:j=k+1
   ·rw[ej];exact λz=>e ((hb _ _ hk ∅).mpr z)
   ·exact h2 j ∅
theorem acp(hc:X.calm=true)(hu:X.A.units+16<cLine):f9 X (.builtin "min") (λxs H Q=>∃(p:Addr) (zs:Us),xs = [.ref p]/\aE X.K H p (uV zs)/\qQ H zs/\0<zs.length/\
  ∀z,z∈zs->(∀y,y∈zs->¬ _H.lexLt y.2 z.2=true)->Q (.ref z.1) H):=by
 intro pins s σ H xs us Q I r h;obtain⟨p,zs,rfl,hq,hz,h0,q⟩:=h;obtain⟨u,rfl,ru⟩:=vals1 r;cases ru;obtain⟨az,rv,pl,_⟩:=I.list hq;have ln:az.length=zs.length:=by have:=rv.length;rw[zS] at this;exact this.symm
 have HF:∀i v,az[i]? = some v->∃h:i<zs.length,v = .ref zs[i].1:=λi v e=>by
  have hi:i<zs.length:=by rw[← ln];exact(List.getElem?_eq_some_iff.mp e).1
  obtain⟨u,g,w⟩:=rv.get (QD hi);cases w;exact⟨hi,Option.some.inj (e.symm.trans g)⟩
 let d:Addr×List Int:=zs[0]
 let bt:Nat->Nat->Bool:=λi j=>_H.lexLt (zs.getD i d).2 (zs.getD j d).2
 have gd:∀i (h:i<zs.length),zs.getD i d=zs[i]:=λi h=>by simp[h]
 refine aaT bt (I.ok.hd hc) pl.isList ∅ (λi j u v h tk Q' E' hi hj K hQ=>?_) (λv h' tk hv K=>?_)
 ·obtain⟨i1,rfl⟩:=HF i u hi;obtain⟨j1,rfl⟩:=HF j v hj;have I':=I.kept (t':=tk) K;obtain⟨aiH,r1,q1,_⟩:=I'.tuple (bg.of (K:=X.K) (hz _ (getElem_mem i1)));obtain⟨gR,r2,q2,_⟩:=I'.tuple (bg.of (K:=X.K) (hz _ (getElem_mem j1)));refine _H.Zt q1 q2 (intsAre_of r1) (intsAre_of r2) (by show X.A.units+1<cLine;lia) ?_
  have:bt i j=_H.lexLt zs[i].2 zs[j].2:=by show _H.lexLt _ _=_;rw[gd i i1,gd j j1]
  rw[← this];exact hQ
 ·obtain⟨k1,rfl⟩:=HF _ v hv;obtain⟨h1,h2⟩:=aco (f:=λi=>(zs.getD i d).2) (bt:=bt) (n:=az.length - 1) (λi j _ _=>Iff.rfl) (az.length - 1) (Nat.le_refl _);refine⟨V.ref (zs[argBest bt (az.length - 1)]'k1).1,H,I.kept (t':=tk) K,rfl,q _ (getElem_mem k1) λy hy=>?_⟩;obtain⟨j,hj,rfl⟩:=mem_iff_getElem.mp hy;have this:¬ _H.lexLt (zs.getD j d).2 (zs.getD (argBest bt (az.length - 1)) d).2=true:=h2 j ∅
  rwa [gd j hj,gd _ k1] at this
end
theorem jq.at{rc:List Int}{s:Int}{z us:List (Int×Int)}{ns:List Nat}{ms:List (Nat×(Int×Int)×(Int×Int))}(h:jq rc s z us ns ms):∀(k:Nat) (m:Nat×(Int×Int)×(Int×Int)),ms[k]? = some m->
  ns[k]? = some m.1/\z[m.1]? = some m.2.1/\∃is,iO (gj m.2.1.1) rc.length is/\fM rc s (us++(ms.take k).map λm=>m.2.2) is=some m.2.2:=by
 induction h with
 | nil=>intro k m e;simp at e
 | @snoc ns ms n c o h hc is ho hf ih =>
  intro k m e;have ln:=h.len;by_cases hk:k<ms.length
  ·rw[getElem?_append_left hk] at e;obtain⟨a,b,is',c1,d⟩:=ih k m e;refine⟨by rw[getElem?_append_left ∅];exact a,b,is',c1,?_⟩
   rw[List.take_append_of_le_length ∅];exact d
  ·rw[getElem?_append_right ∅] at e
   have hj:k - ms.length=0:=by
    have:=(List.getElem?_eq_some_iff.mp e).1;simp at this;lia
   rw[hj] at e;cases e;have fU:k=ms.length:=by lia
   subst fU;refine⟨by rw[getElem?_append_right ∅,ln];simp,hc,is,ho,?_⟩
   rw[List.take_append_of_le_length ∅,take_length];exact hf
theorem QI(bz:List (Int×Int)):∀(z:List (Int×Int)) (i k n:Nat),(cH bz i z)[k]? = some n->(z.filter λc=>decide (c∈bz))[k]? = z[n - i]?/\i<=n
 | [],i,k,n,h=>by simp[cH] at h
 | q::z,i,k,n,h=>by
  have tl:∀k,(cH bz (i+1) z)[k]? = some n->(z.filter λc=>decide (c∈bz))[k]? = (q::z)[n - i]?/\i<=n:=λk h=>by
   obtain⟨h1,h2⟩:=QI bz z (i+1) k n h;refine⟨?_,∅⟩
   rw[h1,show n - i=(n - (i+1))+1 by lia,getElem?_cons_succ]
  rw[cH] at h;rw[filter_cons];by_cases hq:q∈bz
  ·rw[if_pos hq] at h;rw[if_pos (decide_eq_true hq)];cases k with
   | zero =>
    rw[getElem?_cons_zero] at h;cases h;exact⟨by simp,Nat.le_refl _⟩
   | succ k =>
    rw[getElem?_cons_succ] at h ⊢;exact tl k h
  ·rw[if_neg hq] at h;rw[if_neg (by simpa using hq)]
   exact tl k h
theorem acq{rc:List Int}{s:Int}{z bz:List (Int×Int)}{ms:List (Nat×(Int×Int)×(Int×Int))}(h:jq rc s z bz (cH bz 0 z) ms){k:Nat}(hk:k<ms.length) :
  (z.filter λc=>decide (c∈bz))[k]? = some ms[k].2.1/\∃is,iO (gj ms[k].2.1.1) rc.length is/\fM rc s (bz++(ms.take k).map λm=>m.2.2) is=some ms[k].2.2:=by
 obtain⟨a,b,is,c,d⟩:=h.at k ms[k] (getElem?_eq_getElem hk);obtain⟨e,_⟩:=QI bz z 0 k _ a;exact⟨by rw[e,sub_zero];exact b,is,c,d⟩
structure ou(rc:List Int)(s:Int)(us fs:List (Int×Int)):Prop where
 m:∀c,c∈fs↔c∈(List.range rc.length).flatMap (eB rc s)/\c∉us
 n:fs.Nodup
theorem ou.start(rc:List Int)(s:Int)(bz:List (Int×Int)):ou rc s bz (((List.range rc.length).flatMap (eB rc s)).filter λc => !decide (c∈bz)) :=
 ⟨λc=>by rw[mem_filter];simp,(HD rc s nodup_range).filter _⟩
theorem ou.step{rc:List Int}{s:Int}{us fs:List (Int×Int)}(h:ou rc s us fs){k:Nat}(hk:k<fs.length):ou rc s (us++[fs[k]]) (fs.eraseIdx k):=by
 refine⟨λc=>?_,h.n.sublist (List.eraseIdx_sublist _ _)⟩;have e:c∈fs.eraseIdx k↔c∈fs/\c≠fs[k]:=by
  rw[List.mem_eraseIdx_iff_getElem,mem_iff_getElem];have nd:=pairwise_iff_getElem.mp h.n;constructor
  ·rintro⟨i,hi,ne,rfl⟩;refine⟨⟨i,hi,rfl⟩,λq=>?_⟩
   rcases Nat.lt_or_gt_of_ne ne with z | z
   ·exact nd _ _ hi hk z q
   ·exact nd _ _ hk hi z q.symm
  ·rintro⟨⟨i,hi,rfl⟩,ne⟩;exact⟨i,hi,λq=>ne (by subst q;rfl),rfl⟩
 rw[e,h.m c,mem_append,mem_singleton,not_or,and_assoc]
theorem acr{r:Int}{a b:Int×Int}(h:vO r a b):_H.lexLt (gk a r) (gk b r)=true:=by
 unfold gk vO at *
 simp only[_H.lexLt];split
 ·split
  ·rw[if_neg ∅];simp;lia
  ·simp;lia
 ·simp;lia
theorem acs{rc:List Int}{s r:Int}{us fs:List (Int×Int)}{is:List Nat}{o c:Int×Int}(F:ou rc s us fs)(ord:iO (gj r) rc.length is)(fq:rc.length<64)(h:fM rc s us is=some o)(hc:c∈fs)
  (hb:∀y∈fs,¬ _H.lexLt (gk y r) (gk c r)=true):c=o:=by
 have ho:o∈fs:=by
  rw[F.m];unfold fM at h;obtain⟨h1,h2⟩:=List.find?_eq_some_iff_append.mp h;obtain⟨as,bs,e,_⟩:=h2;have hm:o∈is.flatMap (eB rc s):=by rw[e];simp
  obtain⟨k,hk,vP⟩:=mem_flatMap.mp hm;exact⟨mem_flatMap.mpr ⟨k,ord.1.mem_iff.mp hk,vP⟩,by simpa using h1⟩
 obtain⟨c1,c2⟩:=(F.m c).mp hc;rcases acg ord fq h c1 c2 with e | e
 ·exact e
 ·exact absurd (acr e) (hb o ho)
theorem acu{rc:List Int}{s r:Int}{us fs:List (Int×Int)}{is:List Nat}{o:Int×Int}(F:ou rc s us fs)(ord:iO (gj r) rc.length is)(h:fM rc s us is=some o):o∈fs:=by
 rw[F.m];unfold fM at h;obtain⟨h1,as,bs,e,_⟩:=List.find?_eq_some_iff_append.mp h;have hm:o∈is.flatMap (eB rc s):=by rw[e];simp
 obtain⟨k,hk,vP⟩:=mem_flatMap.mp hm;exact⟨mem_flatMap.mpr ⟨k,ord.1.mem_iff.mp hk,vP⟩,by simpa using h1⟩
noncomputable def zU:List Addr->List (Int×Int)->Us:=λts z=>(ts.zip z).map λp=>(p.1,[p.2.1,p.2.2])
theorem sW:∀ {ts:List Addr} {z:List (Int×Int)},ts.length=z.length->uV (zU ts z)=ts.map V.ref
 | [],[],_=>rfl
 | [],_::_,h=>by simp at h
 | _::_,[],h=>by simp at h
 | t::ts,q::z,h=>congrArg (V.ref t :: ·) (sW (ts:=ts) (z:=z) (by simpa using h))
theorem vR:∀ {ts:List Addr} {z:List (Int×Int)},ts.length=z.length->(zU ts z).map (·.2)=z.map λq=>[q.1,q.2]
 | [],[],_=>rfl
 | [],_::_,h=>by simp at h
 | _::_,[],h=>by simp at h
 | t::ts,q::z,h=>congrArg ([q.1,q.2] :: ·) (vR (ts:=ts) (z:=z) (by simpa using h))
theorem acv{ts:List Addr}{z:List (Int×Int)}(h:ts.length=z.length):(zU ts z).length=z.length:=by simp[zU];lia
theorem QJ:∀(ts:List Addr) (z:List (Int×Int)) (k:Nat),(zU ts z).eraseIdx k=zU (ts.eraseIdx k) (z.eraseIdx k)
 | [],z,k=>by cases z <;> simp[zU]
 | t::ts,[],k=>by simp[zU]
 | t::ts,q::z,0=>rfl
 | t::ts,q::z,k+1=>congrArg ((t,[q.1,q.2]) :: ·) (QJ ts z k)
theorem Zn.us{H:Hp}{a:Addr}{ts:List Addr}{z:List (Int×Int)}(h:Zn H a ts z):qQ H (zU ts z):=by
 intro y hy;obtain⟨⟨t,q⟩,hp,rfl⟩:=mem_map.mp hy;obtain⟨i,hi,e⟩:=mem_iff_getElem.mp hp;rw[List.getElem_zip] at e;simp only[Prod.mk.injEq] at e;rw[List.length_zip] at hi;exact h.t i t q (by rw[← e.1];exact getElem?_eq_getElem ∅) (by rw[← e.2];exact getElem?_eq_getElem ∅)
theorem zX{c:Int×Int}{z:List (Int×Int)}:[c.1,c.2]∈z.map (λq=>[q.1,q.2])↔c∈z:=by
 rw[mem_map];constructor
 ·rintro⟨q,hq,e⟩;simp only[List.cons.injEq,and_true] at e;rw[show c=q from Prod.ext e.1.symm e.2.symm];exact hq
 ·exact λh=>⟨c,h,rfl⟩
section
variable{K:Frag}{tl:TE}{g:TG}{tt:TT}{te:TE}{nt:Nat}{fv:List Nat}{Q:VK}{σ:St}{H:Hp}
theorem Zn.push{l t:Addr}{ts:List Addr}{z:List (Int×Int)}{c:Int×Int}(h:Zn H l ts z)(ht:H t=some (.tup [.int c.1,.int c.2])):Zn (upd H l (.lst (ts.map V.ref++[V.ref t]))) l (ts++[t]) (z++[c]):=by
 have ne:∀ {a:Addr} {xs:List V},H a=some (.tup xs)->a≠l:=λe q=>by rw[q,h.l] at e;cases e
 refine⟨by rw[aD,map_append];rfl,by simp[h.n],λi t' p e1 e2=>?_⟩
 by_cases hi:i<ts.length
 ·rw[getElem?_append_left hi] at e1;rw[getElem?_append_left (by rw[← h.n];exact hi)] at e2
  have:=h.t i t' p e1 e2;rw[aF (ne this)];exact this
 ·rw[getElem?_append_right ∅] at e1
  rw[getElem?_append_right (by rw[← h.n];lia),← h.n] at e2
  have hj:i - ts.length=0:=by
   have:=(List.getElem?_eq_some_iff.mp e1).1;simp at this;lia
  rw[hj] at e1 e2;cases e1;cases e2;rw[aF (ne ht)];exact ht
end
theorem QK{s:Int}(hs:0<=s):∀(rc:List Int) (r:Nat),(∀c∈rc,c<=60)->(dj s r rc).length<=rc.length*60
 | [],_,_=>zero_le _
 | c::rc,r,h=>by
  have ih:=QK hs rc (r+1) λx hx=>h x (mem_cons_of_mem _ hx);have:=h c mem_cons_self;rw[dj,length_append,length_map,length_range,length_cons];lia
theorem Zn.drop{H:Hp}{l:Addr}{ts:List Addr}{z:List (Int×Int)}(h:Zn H l ts z)(k:Nat):Zn (upd H l (.lst (uV ((zU ts z).eraseIdx k)))) l (ts.eraseIdx k) (z.eraseIdx k):=by
 have ne:∀ {a:Addr} {xs:List V},H a=some (.tup xs)->a≠l:=λe q=>by rw[q,h.l] at e;cases e
 have ln:(ts.eraseIdx k).length=(z.eraseIdx k).length:=by rw[List.length_eraseIdx,List.length_eraseIdx,h.n]
 refine⟨by rw[aD,QJ,sW ln],ln,λi t p e1 e2=>?_⟩
 rw[List.getElem?_eraseIdx] at e1 e2;by_cases hi:i<k
 ·rw[if_pos hi] at e1 e2;have:=h.t i t p e1 e2;rw[aF (ne this)];exact this
 ·rw[if_neg hi] at e1 e2;have:=h.t (i+1) t p e1 e2;rw[aF (ne this)];exact this
theorem acw{ts:List Addr}{z:List (Int×Int)}{k:Nat}(h:k<(zU ts z).length)(h':k<z.length):((zU ts z)[k]).2 = [z[k].1,z[k].2]:=by simp[zU]
section
variable{X:Cx}
theorem QL:f9 X (.type "int") (λxs H Q=>∃b,xs = [.bl b]/\Q (.int (if b then 1 else 0)) H):=by
 intro pins s σ H xs us Q I r h;obtain⟨b,rfl,q⟩:=h;obtain⟨u,rfl,ru⟩:=vals1 r;cases (show u=Value.bool b from ru);exact call_int_bool ⟨.int _,H,I.tok _,⟨_,rfl⟩,q⟩
end
section
variable{X:Cx}{e st:Expr}{te ts:TE}{pos p2:Pos}
noncomputable def QM(K:Frag)(te ts:TE):TE:=λσ H Q=>te σ H λx H1=>ts σ H1 λk H2=>∃a xs,x = .ref a/\k = .int (-1)/\aE K H2 a xs/\∀p,H2 p=none->Q (.ref p) (upd H2 p (.lst xs.reverse))
end
noncomputable def sumF(f:Nat->Int):Nat->Int
 | 0=>0
 | i+1=>sumF f i+f i
theorem QN{f:Nat->Int}(hd:∀i,f (i+1)<=f i)(a:Nat):∀b,f (a+b)<=f b
 | b=>by
  induction a with
  | zero=>rw[zero_add];exact Int.le_refl _
  | succ a ih=>rw[show a+1+b=a+b+1 by lia];exact Int.le_trans (hd _) ih
theorem QO{f:Nat->Int}(hd:∀i,f (i+1)<=f i)(a:Nat):∀b,sumF f (a+b)<=sumF f a+sumF f b
 | 0=>by simp[sumF]
 | b+1=>by
  have ih:=QO hd a b;have:=QN hd a b;rw[← Nat.add_assoc,sumF,sumF];lia
theorem QS{f:Nat->Int}(h1:1<=f 0)(hd:∀i,0<=f i/\f (i+1)<=f i):∀i:Nat,(1<=i->1<=sumF f i)/\0<=sumF f i/\sumF f i<=f 0*(i:Int)
 | 0=>by simp[sumF]
 | i+1=>by
  have ih:=QS h1 hd i;have h2:=(hd i).1;have h3:f i<=f 0:=QN (λi=>(hd i).2) i 0;have e:f 0*((i+1:Nat):Int)=f 0*(i:Int)+f 0:=by
   rw[show ((i+1:Nat):Int)=(i:Int)+1 by lia,Int.mul_add,Int.mul_one]
  refine⟨λ_=>?_,?_,?_⟩
  ·rw[sumF];by_cases hi:i=0
   ·subst hi;simp only[sumF];lia
   ·have:=ih.1 ∅;lia
  ·rw[sumF];lia
  ·rw[sumF,e];lia
theorem acy{f:Nat->Int}(h1:1<=f 0)(h7:f 0<=10000000)(hd:∀i,0<=f i/\f (i+1)<=f i){n:Nat}(h2:2<=n)(aiI:n<=100):SwOk ((List.range n).map (sumF f)) (n:Int):=by
 refine⟨by simp,∅,by rw[range_getD ∅];rfl,λi zY hi=>?_,λi zY hi=>?_,λa b ha hb gF=>?_⟩
 ·rw[length_map,length_range] at hi;rw[range_getD hi];have:=QS h1 hd i;have e:f 0*(i:Int)<=10000000*(i:Int):=Int.mul_le_mul_of_nonneg_right h7 ∅
  have:=this.1 zY;lia
 ·rw[length_map,length_range] at hi;rw[range_getD hi,range_getD ∅]
  obtain⟨j,rfl⟩:∃j,i=j+1:=⟨i - 1,∅⟩
  have:=(hd j).1;rw[sumF];show sumF f j<=_;lia
 ·rw[length_map,length_range] at gF;rw[range_getD gF,range_getD ∅,range_getD ∅]
  exact QO (λi=>(hd i).2) a b
structure QT(z:List (Int×Int))(aP sk:Int)(sw:List Int):Prop where
 zl:ZL z
 l1:1<=aP
 l2:aP<=1000000000
 l3:∀p∈z,aP % p.2=0
 k0:0<=sk
 k1:sk<aP
 so:SwOk sw (z.map (·.1)).sum
noncomputable def qR(z:List (Int×Int))(aP sk:Int)(sw:List Int)(nc:List (Int×Int)):Pl:=⟨counts z,aP,sk,sw,nc⟩
structure ZP(z:List (Int×Int)):Prop where
 r:∀p∈z,1<=p.1/\p.1<=3/\1<=p.2/\p.2<=8
 s2:2<=(z.map (·.1)).sum
theorem QU:∀ {z:List (Int×Int)},(∀p∈z,1<=p.1/\p.1<=3)->0<=(z.map (·.1)).sum/\(z.map (·.1)).sum<=3*(z.length:Int)
 | [],_=>by simp
 | p::z,h=>by
  have ih:=QU λq hq=>h q (mem_cons_of_mem _ hq);have:=h p mem_cons_self;rw[map_cons,List.sum_cons,length_cons];lia
theorem ZP.snoc{z:List (Int×Int)}(h:ZP z){p:Int×Int}(hp:1<=p.1/\p.1<=3/\1<=p.2/\p.2<=8):ZP (z++[p]):=by
 refine⟨λq hq=>?_,?_⟩
 ·rcases mem_append.mp hq with hq | hq
  ·exact h.r q hq
  ·rw[mem_singleton.mp hq];exact hp
 ·have:=h.s2;rw[map_append,List.sum_append];simp;lia
theorem acz{z:List (Int×Int)}{i:Nat}{p:Int×Int}(h:z[i]? = some p):counts (z.take (i+1))=counts (z.take i)++List.replicate p.1.toNat p.2:=by
 rw[take_succ_get h];simp[counts]
theorem QV{z:List (Int×Int)}(zl:ZL z){x:Int}(h0:0<=x)(h1:x<900\/x<1000000000 / dO z):1<=dO z*(1+x)/\dO z*(1+x)<=1000000000/\∀p∈z,dO z*(1+x) % p.2=0:=by
 have hb:=zx (m:=60) (by decide) z λp hp=>(zl.ok.r p hp).2.2
 have hp:=zl.pr;have hm:∃m,1+x<=m/\dO z*m<=1000000000:=by
  rcases h1 with h1 | h1
  ·exact⟨900,∅,∅⟩
  ·exact⟨1000000000 / dO z,∅,Int.mul_ediv_self_le ∅⟩
 obtain⟨m,m1,m2⟩:=hm;refine⟨?_,?_,λp hp=>Int.emod_eq_zero_of_dvd (Int.dvd_trans (Pb hp) (Int.dvd_mul_right _ _))⟩
 ·have:=mul_le_mul hb.1 (show 1<=1+x by lia) (by decide) ∅;lia
 ·have:=mul_le_mul (Int.le_refl (dO z)) m1 ∅ ∅;lia
theorem Zn.one{H:Hp}{l t:Addr}{c:Int×Int}(h:H t=some (.tup [.int c.1,.int c.2]))(nl:H l=none):Zn (upd H l (.lst [.ref t])) l [t] [c]:=by
 refine⟨aD,rfl,λi t' p e1 e2=>?_⟩;cases i with
 | zero =>
  simp at e1 e2;subst e1 e2;rw[aF (bX h nl)];exact h
 | succ i=>simp at e1
theorem QW(v:Int):∀k:Nat,(List.replicate k [V.int v]).flatten=(List.replicate k v).map V.int
 | 0=>rfl
 | k+1=>by rw[replicate_succ,flatten_cons,QW v k,replicate_succ,map_cons];rfl
structure QX(rc:List Int)(nc:List (Int×Int)):Prop where
 n2:2<=nc.length
 n1:nc.length<=1000
 c:∀q∈nc,0<=q.1/\q.1<rc.length/\0<=q.2/\q.2<rc.getD q.1.toNat 0
theorem QY{c:Int×Int}:∀(ms:List (Nat×(Int×Int)×(Int×Int))) (nc:List (Int×Int)),c∈gG nc ms->c∈nc\/∃m∈ms,c=m.2.2
 | [],nc,h=>.inl h
 | m::ms,nc,h=>by
  have h:c∈gG (nc.set m.1 m.2.2) ms:=h;rcases QY ms _ h with h | ⟨m',hm,e⟩
  ·rcases List.mem_or_eq_of_mem_set h with h | h
   ·exact .inl h
   ·exact .inr ⟨m,mem_cons_self,h⟩
  ·exact .inr ⟨m',mem_cons_of_mem _ hm,e⟩
theorem acA{rc:List Int}{s:Int}{bz:List (Int×Int)}{ms:List (Nat×(Int×Int)×(Int×Int))}(h2:2<=rc.length)(h15:rc.length<=15)(zZ:∀c∈rc,s<c/\c<=60)(hs:0<=s)(L:jq rc s (cE rc s) bz (cH bz 0 (cE rc s)) ms):QX rc (gG (cE rc s) ms):=by
 have gd:∀i:Nat,i<rc.length->rc.getD i 0∈rc:=λi hi=>by rw[show rc.getD i 0=rc[i] by simp[hi]];exact getElem_mem hi
 have ge:∀(rc:List Int) (r:Nat),(∀c∈rc,s<c)->rc.length<=(dj s r rc).length:=by
  intro rc
  induction rc with
  | nil=>intro r _;exact zero_le _
  | cons c rc ih =>
   intro r h;have:=ih (r+1) λx hx=>h x (mem_cons_of_mem _ hx);have:=h c mem_cons_self;rw[dj,length_append,length_map,length_range,length_cons];lia
 have lo:=ge rc 0 λc hc=>(zZ c hc).1;have hi:=QK hs rc 0 λc hc=>(zZ c hc).2;refine⟨by rw[sV];exact Nat.le_trans h2 lo,by rw[sV];exact Nat.le_trans hi ∅,λq hq=>?_⟩
 rcases QY ms _ hq with hq | ⟨m,hm,rfl⟩
 ·obtain⟨j,j1,j2,j3,j4⟩:=Hx rc 0 q hq;rw[show q.1.toNat=j by lia]
  lia
 ·obtain⟨k,hk,rfl⟩:=mem_iff_getElem.mp hm;obtain⟨_,is,ord,ff⟩:=acq L hk;unfold fM at ff;obtain⟨_,as,bs,e,_⟩:=List.find?_eq_some_iff_append.mp ff;have sG:ms[k].2.2∈is.flatMap (eB rc s):=by rw[e];simp
  obtain⟨o,ho,o1,o2,o3⟩:=Hz sG;have ol:=mem_range.mp (ord.1.mem_iff.mp ho);have:=zZ _ (gd o ol);rw[show ms[k].2.2.1.toNat=o by lia]
  lia
noncomputable def pD(nc:List (Int×Int))(f m:Int):List (Int×Int):=(nc.drop f.toNat).take m.toNat
theorem acB{nc:List (Int×Int)}{f:Int}{i:Nat}{c:Int×Int}(h0:0<=f)(h:nc[(f+(i:Int)).toNat]? = some c):(nc.drop f.toNat).take (i+1)=(nc.drop f.toNat).take i++[c]:=by
 refine take_succ_get ?_;rw[getElem?_drop,show f.toNat+i=(f+(i:Int)).toNat by lia];exact h
noncomputable def acC(K:Frag)(cs:List Addr)(CA:Addr):Sp:=λvs H Q _=>∃(C p ap:Addr) (P:Pl) (fp:List Addr) (q:Ak) (m b dx:Addr),vs = [.ref p,.ref ap]/\C∈cs/\eK K C H p P fp/\ia K CA H ap q m b dx/\G3 P.nc.length q/\P.nc.length<=1000000/\
 ∀l ts H',ao H H'->H l=none->Zn H' l ts (pD P.nc q.first q.many)->Q (.ref l) H'
noncomputable def acD(K:Frag)(cs:List Addr)(CA:Addr):Sp:=λvs H Q _=>∃(C p ap:Addr) (k:Int) (P:Pl) (fp:List Addr) (q:Ak) (m b dx:Addr),vs = [.ref p,.int k,.ref ap]/\C∈cs/\eK K C H p P fp/\ia K CA H ap q m b dx/\G3 P.nc.length q/\P.nc.length<=1000000/\
 ∀l ts H',ao H H'->H l=none->Zn H' l ts (pD P.nc q.first q.many)->Q (.ref l) H'
structure Dr where
 n:Int
 q:Ak
 c:List (Int×Int)
noncomputable def vU(n:Int)(ap l:Addr):List (Str×V):=[("number",.int n),("ask",.ref ap),("cells",.ref l)]
structure fO(K:Frag)(CA CD:Addr)(H:Hp)(p:Addr)(d:Dr)(dx ap l:Addr)(ts:List Addr)(m b aR:Addr):Prop where
 o:H p=some (.ins CD dx (vU d.n ap l))
 a:ia K CA H ap d.q m b aR
 c:Zn H l ts d.c
theorem fO.same{K:Frag}{CA CD:Addr}{H H':Hp}{p:Addr}{d:Dr}{dx ap l:Addr}{ts:List Addr}{m b aR:Addr}(h:fO K CA CD H p d dx ap l ts m b aR)(s:ao H H'):fO K CA CD H' p d dx ap l ts m b aR:=⟨s _ _ h.o,h.a.same s,h.c.same s⟩
noncomputable def acE(K:Frag)(cs:List Addr)(CA CD:Addr):Sp:=λvs H Q _=>∃(C p pl ap dx:Addr) (n:Int) (P:Pl) (fp:List Addr) (q:Ak) (m b aR:Addr),vs = [.ref p,.ref pl,.int n,.ref ap]/\H p=some (.ins CD dx [])/\C∈cs/\eK K C H pl P fp/\p≠pl/\p∉fp/\ia K CA H ap q m b aR/\G3 P.nc.length q/\P.nc.length<=1000000/\
 ∀l ts H',H l=none->SameBut p H H'->fO K CA CD H' p ⟨n,q,pD P.nc q.first q.many⟩ dx ap l ts m b aR->Q .aW H'
structure jS(K:Frag)(CA CD:Addr)(H:Hp)(l:Addr)(ps:List Addr)(ds:List Dr):Prop where
 l:H l=some (.lst (ps.map V.ref))
 n:ps.length=ds.length
 t:∀(i:Nat) (p:Addr) (d:Dr),ps[i]? = some p->ds[i]? = some d->∃dx ap l ts m b aR,fO K CA CD H p d dx ap l ts m b aR
theorem jS.same{K:Frag}{CA CD:Addr}{H H':Hp}{l:Addr}{ps:List Addr}{ds:List Dr}(h:jS K CA CD H l ps ds)(s:ao H H'):jS K CA CD H' l ps ds :=
 ⟨s _ _ h.l,h.n,λi p d e1 e2=>let ⟨dx,ap,l,ts,m,b,aR,a⟩:=h.t i p d e1 e2;⟨dx,ap,l,ts,m,b,aR,a.same s⟩⟩
theorem fO.eO{K:Frag}{CA CD:Addr}{H:Hp}{D p:Addr}{xs ys:List V}{d:Dr}{dx ap l:Addr}{ts:List Addr}{m b aR:Addr}(hD:H D=some (.lst xs))(nl:l≠D)(h:fO K CA CD H p d dx ap l ts m b aR):fO K CA CD (upd H D (.lst ys)) p d dx ap l ts m b aR:=by
 have ne:∀ {a:Addr} {o:HO},H a=some o->(∀zs,o≠.lst zs)->a≠D:=λe n z=>by rw[z,hD] at e;exact n _ (Option.some.inj e).symm
 have t:∀ {a:Addr} {us:List V},H a=some (.tup us)->a≠D:=λe=>ne e λ_ z=>nomatch z;have i:∀ {a C dx:Addr} {fs:List (Str×V)},H a=some (.ins C dx fs)->a≠D:=λe=>ne e λ_ z=>nomatch z;refine⟨(aF (i h.o)).trans h.o,⟨(aF (i h.a.o)).trans h.a.o,(aF (t h.a.ms)).trans h.a.ms,(aF (t h.a.bh)).trans h.a.bh⟩,h.c.keep (aF nl) λu hu=>?_⟩;obtain⟨i,hi,et⟩:=mem_iff_getElem.mp hu;have dD:i<d.c.length:=by rw[← h.c.n];exact hi
 have:=h.c.t i u _ (by rw[← et];exact getElem?_eq_getElem hi) (getElem?_eq_getElem dD)
 exact aF (t this)
structure ow(K:Frag)(CA CD:Addr)(H:Hp)(D:Addr)(ps:List Addr)(ds:List Dr):Prop where
 hl:H D=some (.lst (ps.map V.ref))
 n:ps.length=ds.length
 t:∀(i:Nat) (p:Addr) (d:Dr),ps[i]? = some p->ds[i]? = some d->∃dx ap l ts m b aR,l≠D/\fO K CA CD H p d dx ap l ts m b aR
theorem ow.dus{K:Frag}{CA CD:Addr}{H:Hp}{D:Addr}{ps:List Addr}{ds:List Dr}(h:ow K CA CD H D ps ds):jS K CA CD H D ps ds:=⟨h.hl,h.n,λi p d e1 e2=>let ⟨dx,ap,l,ts,m,b,aR,_,a⟩:=h.t i p d e1 e2;⟨dx,ap,l,ts,m,b,aR,a⟩⟩
theorem ow.same{K:Frag}{CA CD:Addr}{H H':Hp}{D:Addr}{ps:List Addr}{ds:List Dr}(h:ow K CA CD H D ps ds)(s:ao H H'):ow K CA CD H' D ps ds :=
 ⟨s _ _ h.hl,h.n,λi p d e1 e2=>let ⟨dx,ap,l,ts,m,b,aR,n,a⟩:=h.t i p d e1 e2;⟨dx,ap,l,ts,m,b,aR,n,a.same s⟩⟩
theorem ow.snoc{K:Frag}{CA CD:Addr}{H:Hp}{D:Addr}{ps:List Addr}{ds:List Dr}(h:ow K CA CD H D ps ds){p:Addr}{d:Dr}{dx ap l:Addr}{ts:List Addr}{m b aR:Addr}(hd:fO K CA CD H p d dx ap l ts m b aR)(nl:l≠D):ow K CA CD (upd H D (.lst (ps.map V.ref++[.ref p]))) D (ps++[p]) (ds++[d]):=by
 refine⟨by rw[aD,map_append];rfl,by simp[h.n],λi p' d' e1 e2=>?_⟩
 have hn:=h.n;by_cases hi:i<ps.length
 ·rw[getElem?_append_left hi] at e1;rw[getElem?_append_left ∅] at e2
  obtain⟨qG,ap',l',qT,m',b',acF,n',a'⟩:=h.t i p' d' e1 e2;exact⟨qG,ap',l',qT,m',b',acF,n',a'.eO h.hl n'⟩
 ·rw[getElem?_append_right ∅] at e1
  rw[getElem?_append_right ∅] at e2
  have dD:i - ps.length=0:=by
   have:=(List.getElem?_eq_some_iff.mp e1).1;simp at this;lia
  rw[dD] at e1;rw[← hn,dD] at e2;simp at e1 e2;subst e1 e2;exact⟨dx,ap,l,ts,m,b,aR,nl,hd.eO h.hl nl⟩
theorem QZ(xs:List V)(k:Nat):iK xs none (some (k:Int))=xs.take k:=by
 unfold iK;have e:_H.bC xs.length 0 none=0:=rfl;have e2:_H.bC xs.length xs.length (some (k:Int))=min k xs.length:=by
  simp only[_H.bC];rw[if_neg ∅];simp
 rw[e,e2,List.drop_zero,sub_zero];by_cases h:k<=xs.length
 ·rw[min_eq_left h]
 ·rw[min_eq_right ∅,take_of_length_le (Nat.le_refl _),take_of_length_le ∅]
theorem Q0(xs:List V)(k:Nat):iK xs (some (k:Int)) none=xs.drop k:=by
 unfold iK;have e:_H.bC xs.length 0 (some (k:Int))=min k xs.length:=by
  simp only[_H.bC];rw[if_neg ∅];simp
 have e2:_H.bC xs.length xs.length none=xs.length:=by simp[_H.bC]
 rw[e,e2,take_of_length_le (by simp)]
 by_cases h:k<=xs.length
 ·rw[min_eq_left h]
 ·rw[min_eq_right ∅,List.drop_of_length_le (Nat.le_refl _),List.drop_of_length_le ∅]
theorem bM{N ps:List Str}{scope:Scope}(h:bB N ps scope:=by exact⟨rfl,rfl,rfl,by decide +kernel,rfl,by decide +kernel,by decide +kernel⟩):bB N ps scope:=h
class Q3 where
 nx:St->Hp->Prop
noncomputable def Later[c:Q3](σ:St)(H:Hp):Prop:=c.nx σ H
noncomputable def z7(t:TS):TS:=λD σ H=>∃M:St->Hp->Prop,t { D with nx:=M } σ H/\∀dU H1,M dU H1->@Later ⟨D.nx⟩ dU H1
theorem gH{X:Cx}{st:Stmt}{t:TS}(h:PS X st t):PS X st (z7 t):=aax h
theorem Q4{c:Q3}{x:Option V}{σ:St}{H:Hp}:@Later c (x::σ) H=c.nx (x::σ) H:=rfl
end _L
namespace _L
open PySem PySem.Spec PyProof.Rows PySem.W
section
variable{X:Cx}{pins:List (Addr×Obj)}{σ:St}{H:Hp}{s:Shared}
variable{scope:Scope}{cl:List (Str×Addr)}{ps fs:List Str}{fv:List Nat}{qual name:Str}{f c' P l S It:Addr}{params:Arguments}{body:Expr}{te:TE}{pm d_:Value}{pos:Pos}{kv:Nat->List Int}{H1:Hp}{as:List Addr}
noncomputable def Q5(P:Addr)(pos:Pos)(qual:Str)(te:TE)(fv:List Nat)(tl:TE):TE:=λσ H Q=>tl σ H λx H1=>∃(l:Addr) (as:List Addr) (kv:Nat->List Int),x = .ref l/\H1 l=some (.lst (as.map V.ref))/\0<as.length/\cu P pos qual H1/\
 (∀(j:Nat) (a:Addr) (H2:Hp),as[j]? = some a->SameBut P H1 H2->cu P pos qual H2->te (lz σ [.ref a] fv) H2 λv H'=>∃k,v = .ref k/\H' k=some (.tup ((kv j).map V.int))/\SameBut P H2 H'/\cu P pos qual H')/\
 ∀(i:Nat) (a:Addr) (H':Hp),as[i]? = some a->(∀j,j<as.length->¬ _H.lexLt (kv j) (kv i)=true)->SameBut P H1 H'->cu P pos qual H'->Q (.ref a) H'
end
end _L
namespace _L
open PySem PySem.Spec PyProof.Rows
section
variable{X:Cx}{pins:List (Addr×Obj)}{σ:St}{H:Hp}{s:Shared}{scope:Scope}{cl:List (Str×Addr)}{N:List Str}{nt:Nat}{fv:List Nat}{fp:List Addr}
end
section
variable{X:Cx}{tg iter elt:Expr}{ifs:List Expr}{scope:Scope}{cl:List (Str×Addr)}{N:List Str}{nt:Nat}{fv:List Nat}{pos:Pos}{wi:TI}{g:TG}{tt:TT}{te:TE}
end
noncomputable def T1(m:Nat)(led:Bool):SetTable:={ mask:=7,place := #[m % 8],dummies := #[],finger:=0,led,moves:=0,plain:=true }
noncomputable def kh(m n:Nat):Nat:=if n % 8=m % 8 then(5*(n % 8)+1) % 8 else n % 8
noncomputable def T2(m n:Nat)(led:Bool):SetTable:={ mask:=7,place:=if kh m n<m % 8 then #[kh m n,m % 8] else #[m % 8,kh m n],dummies := #[],finger:=0,led,moves:=0,plain:=true }
theorem acG:∀(n:Fin 32) (led:Bool),(SetTable.fresh 0 0 led).freeSlot ((n.val:Nat):Int)=some (n.val % 8,false)/\(SetTable.fresh 0 0 led).put (n.val % 8)=(T1 n.val led,0):=by decide +kernel
theorem vt:∀(m n:Fin 32) (led:Bool),m≠n->(T1 m.val led).freeSlot ((n.val:Nat):Int)=some (kh m.val n.val,false)/\(T1 m.val led).put (kh m.val n.val)=(T2 m.val n.val led,if kh m.val n.val<m.val % 8 then 0 else 1)/\kh m.val n.val≠m.val % 8:=by decide +kernel
theorem acH{n:Nat}(h:n<32)(led:Bool)(x:Value):layNew (SetTable.fresh 0 0 led) #[] (n:Int) x=(#[((n:Int),x)],T1 n led,false,false):=by
 obtain⟨a,b⟩:=acG ⟨n,h⟩ led;unfold layNew;rw[show (SetTable.fresh 0 0 led).freeSlot (n:Int)=some (n % 8,false) from a];dsimp only;rw[show (SetTable.fresh 0 0 led).put (n % 8)=(T1 n led,0) from b]
 rfl
noncomputable def jf(m n:Nat)(y x:Value):Array (Int×Value):=if kh m n<m % 8 then #[((n:Int),x),((m:Int),y)] else #[((m:Int),y),((n:Int),x)]
theorem acI{m n:Nat}(hm:m<32)(h:n<32)(ne:m≠n)(led:Bool)(y x:Value):layNew (T1 m led) #[((m:Int),y)] (n:Int) x=(jf m n y x,T2 m n led,false,false):=by
 obtain⟨a,b,c⟩:=vt ⟨m,hm⟩ ⟨n,h⟩ led (λz=>ne (by simpa using z))
 unfold layNew;rw[show (T1 m led).freeSlot (n:Int)=some (kh m n,false) from a];dsimp only;rw[show (T1 m led).put (kh m n)=(T2 m n led,if kh m n<m % 8 then 0 else 1) from b]
 unfold jf T2;dsimp only;split <;> rfl
theorem acJ:∀n:Fin 32,hashInt ((n.val:Nat):Int)=(n.val:Int):=by decide +kernel
noncomputable def dY(es:Array (Int×Value))(ep:Nat)(t:SetTable):Obj:={ cls:=.type "set",dict:=none,data:=.set es ep t }
section
variable{prog:Program}{w:World}{A:Around}{E:Value->Shared->Prop}{s:Shared}{a:Addr}{es es1:Array (Int×Value)}{ep:Nat}{t t1:SetTable}{n:Int}{tk:Tok}
theorem Q6{Q:Bool->Shared->Prop}(ho:s.heap.get? a=some (dY es ep t))(hf:t.fits es.size=true)(vV:ElemsOf (intKind prog w) es.toList)(hb:es.size<10)(iJ:∀e∈es.toList,(intKind prog w).is n e.2=false)
  (hl:layNew t es ((intKind prog w).hash n) (.int n tk)=(es1,t1,false,false)) (hp:t1.plain=true) (acK:t1.tooFull=false) (z8:es1.size<10)
  (h:∀h',Heap.SameBut a s.heap h'->h'.get? a=some (dY es1 (ep+1) t1)->Q true { s with heap:=h' }):wpAny (model prog w) A (setAddHashed a (.int n tk) ((intKind prog w).hash n)) Q E s:=by
 have f_:(intKind prog w).is n (.int n tk)=true:=intKind_is _ _ _ _;have oz:(Value.int n tk).scannable=true:=rfl;unfold setAddHashed setAddHashedIn;refine wpAny_holding (wpAny_bind (wpAny_setState_of ho rfl hf ?_));dsimp only;rw[byScan_of oz (by unfold scanBound;lia) vV]
 simp only[↓reduceIte];unfold setAddByScan;refine wpAny_bind ?_;refine wpAny_bind (wpAny_rule ?_);refine wpAny_bind (wpAny_setScan_of f_ ho rfl hf vV ?_);rw[List.findIdx?_eq_none_iff.mpr iJ];dsimp only;rw[hl];dsimp only;refine wpAny_bind (wpAny_pure ?_);rw[if_pos hp,hashByValue_scannable 8 oz];refine wpAny_bind (wpAny_pure ?_);simp only[plainKind,if_true];refine wpAny_bind (wpAny_storeSet_of ho rfl ?_ (fits_of_scanBound (by unfold scanBound;lia)))
 rw[acK];simp only[Bool.and_false,false_eq_true,if_false];have hg:(s.heap.update a (Obj.putSet es1 t1)).get? a=some (dY es1 (ep+1) t1):=by
  have:=get?_update_self (Obj.putSet es1 t1) ho (by rw[putSet_of es1 t1 (es:=es) (ep:=ep) (t:=t) rfl];rfl)
  rw[putSet_of es1 t1 (es:=es) (ep:=ep) (t:=t) rfl] at this;exact this
 exact wpAny_pure (wpAny_pure (h _ (Heap.SameBut.update _ _ _) hg))
theorem acL{Q:Bool->Shared->Prop}(ho:s.heap.get? a=some (dY es ep t))(hf:t.fits es.size=true)(vV:ElemsOf (intKind prog w) es.toList)(hb:es.size<10)(acM:∃e∈es.toList,(intKind prog w).is n e.2=true)
  (h:Q false s):wpAny (model prog w) A (setAddHashed a (.int n tk) ((intKind prog w).hash n)) Q E s:=by
 have f_:(intKind prog w).is n (.int n tk)=true:=intKind_is _ _ _ _;have oz:(Value.int n tk).scannable=true:=rfl;unfold setAddHashed setAddHashedIn;refine wpAny_holding (wpAny_bind (wpAny_setState_of ho rfl hf ?_));dsimp only;rw[byScan_of oz (by unfold scanBound;lia) vV]
 simp only[↓reduceIte];unfold setAddByScan;refine wpAny_bind ?_;refine wpAny_bind (wpAny_rule ?_);refine wpAny_bind (wpAny_setScan_of f_ ho rfl hf vV ?_);cases hr:List.findIdx? (λe=>(intKind prog w).is n e.2) es.toList with
 | some j=>exact wpAny_pure (wpAny_pure h)
 | none =>
  obtain⟨e,he,hp⟩:=acM;have:=List.findIdx?_eq_none_iff.mp hr e he;rw[hp] at this;cases this
end
noncomputable def iu(m n:Nat)(tm tn:Tok):Array (Int×Value):=if m=n then #[((m:Int),.int m tm)] else jf m n (.int m tm) (.int n tn)
noncomputable def mQ(m n:Nat)(led:Bool):SetTable:=if m=n then T1 m led else T2 m n led
noncomputable def oA(m n:Nat):Nat:=if m=n then 1 else 2
section
variable{prog:Program}{w:World}{A:Around}{R:Result->Shared->Prop}{s:Shared}{l I S:Addr}{m n:Nat}{tm tn:Tok}{led:Bool}
theorem intHash{n:Nat}(h:n<32):(intKind prog w).hash (n:Int)=(n:Int):=acJ ⟨n,h⟩
theorem Q7(hm:m<32):ElemsOf (intKind prog w) (#[((m:Int),Value.int m tm)]:Array (Int×Value)).toList:=λe he=>by
 simp only[mem_singleton] at he;rw[he];exact⟨⟨(m:Int),intKind_is _ _ _ _,(intHash hm).symm⟩,rfl⟩
theorem Q8{a b:Int}{t:Tok}:(intKind prog w).is a (.int b t)=decide (a=b):=KeyKind.is_eq_decide (intKind_is _ _ _ _) a
theorem acN(hh:A.handled=none)(hm:m<32)(hn:n<32)(hlI:l≠I)(jP:S≠I)(Q9:S≠l)(hit:s.heap.IsListIter I l 0)(hl:s.heap.IsList l #[.int m tm,.int n tn])(hS:s.heap.get? S=some (dY #[] 0 (.fresh 0 0 led)))
  (hR:∀h' tk,(∀b o,b≠S->b≠I->s.heap.get? b=some o->h'.get? b=some o)->h'.get? S=some (dY (iu m n tm tn) (oA m n) (mQ m n led))->R (.ok (.ret .none)) { s with heap:=h',toks:=tk }) :
  codeAny (model prog w) A (.builtin "set.update.loop" ⟨[.ref S,.ref I],[]⟩) R s:=by
 have W:=Walks.list (prog:=prog) (w:=w) (A:=A.in1) hh I l hlI #[.int (m:Int) tm,.int (n:Int) tn];have step:∀ {P:Prop},P->P:=id;refine codeAny_builtin F.entry_set_update_loop ?_;rw[Around.under_plainId F.plain_set_update_loop _]
 show wpAny _ A.in1 (pyNext (.ref I) >>= _) _ _ s;refine wpAny_bind (W.item 0 s _ _ (by simp) ⟨hit,hl⟩ λv h1 t1 hP vW k1=>?_)
 have ev:v = .int m tm:=by simpa using hP.symm
 subst ev;have vX:=k1 S _ (by simpa using jP) hS
 show wpAny _ A.in1 (holding [Value.int (m:Int) tm] (setAdd S (.int m tm)) >>= _) _ _ _;refine wpAny_bind (wpAny_holding ?_);unfold setAdd;refine wpAny_holding ?_;refine wpAny_bind ((intKind prog w).pyHash (k:=(m:Int)) (intKind_is _ _ _ _) ?_);refine Q6 (es1 := #[((m:Int),.int m tm)]) (t1:=T1 m led) vX rfl (λe he=>by simp at he) (by simp) (λe he=>by simp at he) (by rw[intHash hm];exact acH hm led _) rfl rfl (by simp) λh2 mJ iP=>?_
 have acO:∀b o,b≠S->b≠I->s.heap.get? b=some o->h2.get? b=some o:=λb o hb hI e=>(mJ.2 b hb).trans (k1 b o (by simpa using hI) e)
 have lX:h2.IsListIter I l 1/\h2.IsList l #[.int (m:Int) tm,.int (n:Int) tn]:=W.frame 1 h1 h2 vW λb hb o e=>(mJ.2 b (λz=>by
  rw[z] at hb;rcases mem_cons.mp hb with q | q
  ·exact jP q
  ·exact Q9 (mem_singleton.mp q))).trans e
 refine wpAny_pure ⟨plainId_quiet F.plain_set_update_loop _,?_⟩;refine codeAny_builtin F.entry_set_update_loop ?_;rw[Around.under_plainId F.plain_set_update_loop _]
 show wpAny _ A.in1 (pyNext (.ref I) >>= _) _ _ _;refine wpAny_bind (W.item 1 _ _ _ (by simp) lX λv h3 t3 hP qe k3=>?_)
 have ev:v = .int n tn:=by simpa using hP.symm
 subst ev;have oB:=k3 S _ (by simpa using jP) iP
 show wpAny _ A.in1 (holding [Value.int (n:Int) tn] (setAdd S (.int n tn)) >>= _) _ _ _;refine wpAny_bind (wpAny_holding ?_);unfold setAdd;refine wpAny_holding ?_;refine wpAny_bind ((intKind prog w).pyHash (k:=(n:Int)) (intKind_is _ _ _ _) ?_);have fin:∀(h4:Heap) (t4:Nat),(∀b o,b≠S->h3.get? b=some o->h4.get? b=some o)->h4.get? S=some (dY (iu m n tm tn) (oA m n) (mQ m n led))->
   codeAny (model prog w) A (.builtin "set.update.loop" ⟨[.ref S,.ref I],[]⟩) R { s with heap:=h4,toks:=t4 }:=λh4 t4 k4 qU=>by
  have st4:h4.IsListIter I l 2/\h4.IsList l #[.int (m:Int) tm,.int (n:Int) tn]:=W.frame 2 h3 h4 qe λb hb o e=>k4 b o (λz=>by
   rw[z] at hb;rcases mem_cons.mp hb with q | q
   ·exact jP q
   ·exact Q9 (mem_singleton.mp q)) e
  refine codeAny_builtin F.entry_set_update_loop ?_;rw[Around.under_plainId F.plain_set_update_loop _]
  show wpAny _ A.in1 (pyNext (.ref I) >>= _) _ _ _;refine wpAny_bind (W.done _ _ _ st4 λh5 t5 k5=>?_)
  show wpAny _ A.in1 (ret Value.none) _ _ _;exact wpAny_pure (hR h5 t5 (λb o hb hI e=>k5 b o (by simpa using hI) (k4 b o hb (k3 b o (by simpa using hI) (acO b o hb hI e)))) (k5 S _ (by simpa using jP) qU))
 by_cases e:m=n
 ·refine acL oB rfl (Q7 hm) (by simp) ⟨_,mem_singleton.mpr rfl,by rw[Q8,e];simp⟩ ?_
  refine wpAny_pure ⟨plainId_quiet F.plain_set_update_loop _,fin h3 _ (λb o _ q=>q) ?_⟩;rw[iu,oA,mQ,if_pos e,if_pos e,if_pos e];exact oB
 ·refine Q6 (es1:=jf m n (.int m tm) (.int n tn)) (t1:=T2 m n led) oB rfl (Q7 hm) (by simp) (λx hx=>?_) (by rw[intHash hn];exact acI hm hn e led _ _) rfl ?_ ?_ λh4 sb4 qU=>?_
  ·simp only[mem_singleton] at hx;rw[hx,Q8,decide_eq_false_iff_not];lia
  ·unfold SetTable.tooFull SetTable.fill T2;dsimp only;split <;> rfl
  ·unfold jf;split <;> simp
  ·refine wpAny_pure ⟨plainId_quiet F.plain_set_update_loop _,fin h4 _ (λb o hb q=>(sb4.2 b hb).trans q) ?_⟩;rw[iu,oA,mQ,if_neg e,if_neg e,if_neg e];exact qU
end
noncomputable def cQ(w:World):Bool:=w.params.followText "set-order"
section
variable{prog:Program}{w:World}{A:Around}{E:Value->Shared->Prop}{s:Shared}
theorem acP(a:Value){Q₁:Value->Shared->Prop}
  (h:Q₁ (.ref s.heap.objs.size) { s with heap:=s.heap.push (dY #[] 0 (.fresh 0 0 (!cQ w)))}) :
  codeAny (model prog w) A (.call (.builtin "set.__new__") ⟨[.type "set",a],[]⟩) (wants Q₁ E) s:=by
 refine codeAny_of_tree ?_
 show wpAny _ A.in1 (do checkBuiltinCall "set.__new__" ⟨[.type "set",a],[]⟩;again (.builtin "set.__new__" ⟨[.type "set",a],[]⟩)) _ _ s
 refine wpAny_bind (wpAny_of_eq (F.newCall_set_1 a) (wpAny_pure ⟨plainId_quiet F.plain_set_new _,codeAny_builtin F.entry_set_new ?_⟩));rw[Around.under_plainId F.plain_set_new _];unfold Builtin.«set.__new__» Builtin.Frozenset.newClass;have acQ:=sub_set_self;obtain⟨hp,g,d,tk,os⟩:=s;dsimp only;wp_walk;refine wpAny_askSetting (wpAny_pure ?_);dsimp only;simp only[newObj];refine wpAny_bind (wpAny_alloc (wpAny_pure ?_));exact wpAny_pure h
theorem acR{l:Addr}{m n:Nat}{tm tn:Tok}{Q:Value->Shared->Prop}(hh:A.handled=none)(hm:m<32)(hn:n<32)(hl:s.heap.IsList l #[.int m tm,.int n tn])
  (h:∀(h':Heap) (tk:Nat),h'.get? s.heap.objs.size=some (dY (iu m n tm tn) (oA m n) (mQ m n (!cQ w)))->
   (∀b o,b<s.heap.objs.size->s.heap.get? b=some o->h'.get? b=some o)->Q (.ref s.heap.objs.size) { s with heap:=h',toks:=tk }) :
  wpAny (model prog w) A (call (.type "set") [.ref l]) Q E s:=by
 obtain⟨c,tl,aiJ⟩:=F.called_set.mro;have aiK:=F.called_set.made;have acQ:=F.called_set.sub;refine wpAny_call (codeAny_of_tree ?_)
 show wpAny _ _ (callAny (.type "set") _) _ _ _;refine wpAny_pure ⟨Code.quiet_builtin _ (by decide +kernel),codeAny_builtin F.entry_type_call ?_⟩
 rw[Around.under_plain (weight_type_call_type "set" [.ref l] []) rfl];have h1:=F.called_set.notType;have h2:=F.called_set.canCreate;have hct:=F.typeCall_set_1 (.ref l)
 repeat (any_goals (first | assumption | wp_step))
 refine codeAny_mono (acP (.ref l) (E:=E) (Q₁:=λobj aZ=>obj = .ref s.heap.objs.size/\aZ = { s with heap:=s.heap.push (dY #[] 0 (.fresh 0 0 (!cQ w)))}) ⟨rfl,rfl⟩) λr aZ hr=>?_;cases r with
 | error e=>exact hr
 | ok fl =>
  cases fl with
  | ret obj =>
   obtain⟨rfl,rfl⟩:=hr;have hS:(s.heap.push (dY #[] 0 (.fresh 0 0 (!cQ w)))).get? s.heap.objs.size=some (dY #[] 0 (.fresh 0 0 (!cQ w))):=get?_push_size _ rfl;have hT:Shared.TypeIs { s with heap:=s.heap.push (dY #[] 0 (.fresh 0 0 (!cQ w)))} (.ref s.heap.objs.size) "set" := ⟨_,hS,rfl⟩;have hli:=F.called_set.init.lookup;have HG:=F.called_set.init.bind (.ref s.heap.objs.size)
   repeat (any_goals (first | assumption | wp_step))
   refine codeAny_mono (codeAny_call_builtin (R:=wants (λr gA=>r = .none/\∃h' tk,gA = { s with heap:=h',toks:=tk }/\
     h'.get? s.heap.objs.size=some (dY (iu m n tm tn) (oA m n) (mQ m n (!cQ w)))/\
     (∀b o,b<s.heap.objs.size->s.heap.get? b=some o->h'.get? b=some o)) E) F.called_set.init.plain F.entry_set_init (check_set_init_1 hT ?_)) λacS gA HJ=>?_
   ·obtain⟨ol,nW,mF,nl,z9⟩:=hl;obtain⟨aiL,acT,aiM,acU⟩:=ol;simp only at mF z9;subst mF;subst z9;have acV:(s.heap.push (dY #[] 0 (.fresh 0 0 (!cQ w)))).get? l=some { cls:=.type "list",dict:=acT,data:=.seq #[.int m tm,.int n tn] nl,slots:=acU }:=get?_push_of_some _ nW;have aiN:=F.sub_list_set;have aiO:=F.sub_list_frozenset;have dJ:(Value.type "list" == Value.type "dict")=false:=by decide
    have z_:(s.heap.push (dY #[] 0 (.fresh 0 0 (!cQ w)))).IsList l #[.int m tm,.int n tn]:=⟨_,acV,rfl,nl,rfl⟩;unfold Builtin.«set.__init__» noKeywords Builtin.Frozenset.updateFrom;generalize hPI:pyIter=PI;wp_walk;subst hPI;refine wpAny_pyIter_list z_ ?_;refine wpAny_bind (wpAny_runValue ?_);have Q_:l<s.heap.objs.size:=lt_size nW;have hh3:A.in1.in1.in1.handled=none:=by simp[hh]
    have hz:(s.heap.push (dY #[] 0 (.fresh 0 0 (!cQ w)))).objs.size=s.heap.objs.size+1:=size_push ..;have acW:l≠(s.heap.push (dY #[] 0 (.fresh 0 0 (!cQ w)))).objs.size:=by rw[hz];exact Nat.ne_of_lt (lt_succ_of_lt Q_)
    refine acN (l:=l) (I:=(s.heap.push (dY #[] 0 (.fresh 0 0 (!cQ w)))).objs.size) (S:=s.heap.objs.size) hh3 hm hn acW (by rw[hz];exact Nat.ne_of_lt (lt_succ_self _)) (ne_of_gt Q_)
     ⟨_,get?_push_size _ rfl,rfl,rfl⟩ (z_.push _) (get?_push_of_some _ hS) λh' pA k' jj=>?_
    show wpAny _ _ _ _ _ _;refine wpAny_pure ?_
    show wpAny _ _ (ret Value.none) _ _ _;refine wpAny_pure ⟨rfl,h',pA,rfl,jj,λb o hb e=>?_⟩;exact k' b o (Nat.ne_of_lt hb) (by rw[hz];exact Nat.ne_of_lt (lt_succ_of_lt hb)) (get?_push_of_some _ (get?_push_of_some _ e))
   ·cases acS with
    | error e=>exact HJ
    | ok acX =>
     cases acX with
     | ret r =>
      obtain⟨rfl,h',tk,rfl,jj,fU⟩:=HJ
      repeat (any_goals (first | assumption | wp_step))
      exact h _ _ jj fU
     | _=>exact HJ.elim
  | _=>exact hr.elim
end
theorem sX:Slot "set_iterator" "__next__" "set_iterator.__next__" :=
 .of (owner := "set_iterator") (n := "__next__") (by rw[typeLookup_type,builtinLookup_eq_fast];kernel_rfl) (by decide +kernel) (by decide +kernel) (by decide +kernel)
  (by first | exact .inl (by decide +kernel) | exact .inr (by decide +kernel)) (by rw[isSubtype_type];kernel_rfl)
theorem Ra:entryFor table "set_iterator.__next__" = some Builtin.«set_iterator.__next__» := entryFor_of_tree (by kernel_rfl)
theorem Rb:Manifest.owners.lookup (String.ofList ['r','o','t','a','r','e','t','i','_','t','e','s'].reverse)=some Manifest.sig_set_iterator:=by kernel_rfl
theorem Rc(a:Value):argsOk "set_iterator.__next__" ⟨[a],[]⟩:=by
 unfold argsOk;rw[signature?_of (id := "set_iterator.__next__") (n:=['_','_','t','x','e','n','_','_']) (o:=['r','o','t','a','r','e','t','i','_','t','e','s']) (by kernel_rfl) Rb];kernel_rfl
theorem Rf:Slot "set_iterator" "__iter__" "set_iterator.__iter__" :=
 .of (owner := "set_iterator") (n := "__iter__") (by rw[typeLookup_type,builtinLookup_eq_fast];kernel_rfl) (by decide +kernel) (by decide +kernel) (by decide +kernel)
  (by first | exact .inl (by decide +kernel) | exact .inr (by decide +kernel)) (by rw[isSubtype_type];kernel_rfl)
theorem acY:entryFor table "set_iterator.__iter__" = some Builtin.«dict_keyiterator.__iter__» :=
 entryFor_alias (id' := "dict_keyiterator.__iter__") (by kernel_rfl) rfl (by decide +kernel) (by kernel_rfl)
theorem acZ(a:Value):argsOk "set_iterator.__iter__" ⟨[a],[]⟩:=by
 unfold argsOk;rw[signature?_of (id := "set_iterator.__iter__") (n:=['_','_','r','e','t','i','_','_']) (o:=['r','o','t','a','r','e','t','i','_','t','e','s']) (by kernel_rfl) Rb];kernel_rfl
theorem ac0:entryFor table "set.__iter__" = some Builtin.«frozenset.__iter__» :=
 entryFor_alias (id' := "frozenset.__iter__") (by kernel_rfl) rfl (by decide +kernel) (by kernel_rfl)
theorem ac1:typeLookup (.type "set") "__len__" = pure (some (.builtin "set.__len__")):=by rw[typeLookup_type,builtinLookup_eq_fast];kernel_rfl
noncomputable def mR(h:Heap)(it d:Addr)(slot i n ep:Nat):Prop:=∃o,h.get? it=some o/\o.cls = .type "set_iterator"/\o.data = .fields #[rawInt slot,rawInt i,.ref d,rawInt n,rawInt ep]
section
variable{prog:Program}{w:World}{A:Around}{E:Value->Shared->Prop}{s:Shared}{it d:Addr}{slot i n ep:Nat}{es:Array (Int×Value)}{t:SetTable}
theorem mR.typeIs(h:mR s.heap it d slot i n ep):s.TypeIs (.ref it) "set_iterator" := let ⟨o,h1,h2,_⟩:=h;⟨o,h1,h2⟩
theorem mR.at{h h':Heap}(x:mR h it d slot i n ep)(e:∀o,h.get? it=some o->h'.get? it=some o):mR h' it d slot i n ep:=let ⟨o,ho,r⟩:=x;⟨o,e _ ho,r⟩
theorem ac2{Q:Value->Shared->Prop}(hit:mR s.heap it d slot i n ep)(h:Q (.ref it) s):wpAny (model prog w) A (pyIter (.ref it)) Q E s:=by
 refine wpAny_pyIter_slot hit.typeIs Rf (wpAny_call_entry Rf hit.typeIs acY ?_ (acZ _))
 show wpAny _ _ (ret (.ref it)) _ _ s;exact wpAny_pure ⟨_,rfl, "set_iterator",_,hit.typeIs,sX.lookup,h⟩
theorem ac3{Q:Value->Shared->Prop}(ho:s.heap.get? d=some (dY es ep t))(hf:t.fits es.size=true)(hp:t.plain=true)
  (q:Q (.ref s.heap.objs.size) { s with heap:=s.heap.push { cls:=.type "set_iterator",data:=.fields #[rawInt 0,rawInt 0,.ref d,rawInt es.size,rawInt ep] }}):wpAny (model prog w) A (pyIter (.ref d)) Q E s:=by
 have hT:s.TypeIs (.ref d) "set" := ⟨_,ho,rfl⟩;refine wpAny_pyIter_slot hT PySem.F.slot_set_iter (wpAny_call_entry PySem.F.slot_set_iter hT ac0 ?_ (PySem.F.args_set_iter_1 _));unfold Builtin.«frozenset.__iter__» Builtin.Frozenset.slot0 slotArgs;simp only[isEmpty_nil,Bool.not_true,false_eq_true,↓reduceIte,bind_assoc,length_nil,bne_self_eq_false];unfold Builtin.Frozenset.addrOf Builtin.Frozenset.sizeOf;refine wpAny_bind (wpAny_pure ?_)
 try dsimp only
 refine wpAny_bind (wpAny_pure ?_);refine wpAny_bind (wpAny_bind (wpAny_setEntries_of ho rfl hf (wpAny_pure ?_)));refine wpAny_bind ?_;unfold setDrawn;refine wpAny_bind (wpAny_setState_of ho rfl hf ?_);dsimp only;unfold setsByText;refine wpAny_bind (wpAny_bind (wpAny_askSetting (wpAny_pure (wpAny_pure ?_))));refine wpAny_ite_split (λgF=>absurd gF ?_) (λ_=>?_)
 ·show ¬ ((!cQ w && (!t.plain && decide (es.size > 1)))=true);rw[hp];simp
 refine wpAny_bind (wpAny_pure (wpAny_bind (wpAny_setEpoch_of ho rfl hf ?_)));unfold newFields;refine wpAny_bind (wpAny_newObj_type (wpAny_pure ⟨_,rfl, "set_iterator",_,⟨_,get?_push_size _ rfl,rfl⟩,sX.lookup,?_⟩));exact q
noncomputable def gY(w:World)(d:Addr)(ep:Nat)(es:Array (Int×Value)):Array (Int×Value):=if cQ w then pickOrder (w.params.setOrder d ep) es else es
noncomputable def slotAt(w:World)(t:SetTable)(i:Nat):Nat:=if cQ w then 0 else if i=0 then 0 else t.place.getD (i - 1) 0+1
theorem ac4(hf:t.fits es.size=true):t.place.size=es.size:=by
 simp only[SetTable.fits,and_eq_true,beq_iff_eq] at hf;exact hf.1
theorem ac5{Q:Option (Value×Nat)->Shared->Prop}(ho:s.heap.get? d=some (dY es ep t))(hf:t.fits es.size=true)(hp:t.plain=true)(mS:t.led = !cQ w)(jr:cQ w=false->SetTable.below t.place (slotAt w t i)=i)
  (hi:i<es.size) {x:Int×Value} (hx:(gY w d ep es)[i]? = some x) (q:Q (some (x.2,slotAt w t (i+1))) s):wpAny (model prog w) A (setNext d (slotAt w t i) i ep) Q E s:=by
 unfold setNext;refine wpAny_bind (wpAny_setState_of ho rfl hf ?_);dsimp only;unfold setsByText;refine wpAny_bind (wpAny_bind (wpAny_askSetting (wpAny_pure ?_)))
 show wpAny _ _ (if cQ w=true then _ else _) _ _ _
 cases hb:cQ w with
 | true =>
  rw[if_pos rfl,if_neg (by simp)]
  refine wpAny_bind ?_;unfold setWalk;refine wpAny_bind (wpAny_setState_of ho rfl hf ?_);dsimp only;unfold setsByText;refine wpAny_bind (wpAny_bind (wpAny_askSetting (wpAny_pure ?_)))
  show wpAny _ _ (if cQ w=true then _ else _) _ _ _
  rw[hb,if_pos rfl];refine wpAny_bind (wpAny_askSetting (wpAny_pure (wpAny_pure ?_)));have vY:(pickOrder (w.params.setOrder d ep) es)[i]? = some x:=by unfold gY at hx;rw[hb,if_pos rfl] at hx;exact hx
  have e1:slotAt w t (i+1)=slotAt w t i:=by unfold slotAt;rw[hb];rfl
  show Q (((pickOrder (w.params.setOrder d ep) es)[i]?).map λe=>(e.2,slotAt w t i)) s;rw[vY,← e1];exact q
 | false =>
  rw[if_neg (by simp)]
  refine wpAny_ite_split (λgF=>absurd gF ?_) (λ_=>?_)
  ·show ¬ ((!t.plain && decide (es.size > 1))=true);rw[hp];simp
  refine wpAny_bind ?_
  show wpAny _ _ (if (!t.led && !es.isEmpty)=true then unsupported _ else pure ()) _ _ _
  rw[if_neg (by rw[mS,hb];simp)]
  refine wpAny_pure (wpAny_pure ?_);have vY:es[i]? = some x:=by unfold gY at hx;rw[hb,if_neg (by simp)] at hx;exact hx
  have dN:i<t.place.size:=by rw[ac4 hf];exact hi
  have e1:slotAt w t (i+1)=t.place[i] + 1:=by
   unfold slotAt;rw[hb,if_neg (by simp),if_neg ∅,Nat.add_sub_cancel]
   simp[dN]
  rw[jr hb,vY,Array.getElem?_eq_getElem dN];rw[e1] at q;exact q
theorem ac6{Q:Option (Value×Nat)->Shared->Prop}(ho:s.heap.get? d=some (dY es ep t))(hf:t.fits es.size=true)(hp:t.plain=true)(mS:t.led = !cQ w)(jr:cQ w=false->SetTable.below t.place (slotAt w t es.size)=es.size)
  (hn:(gY w d ep es).size=es.size) (q:Q none s):wpAny (model prog w) A (setNext d (slotAt w t es.size) es.size ep) Q E s:=by
 unfold setNext;refine wpAny_bind (wpAny_setState_of ho rfl hf ?_);dsimp only;unfold setsByText;refine wpAny_bind (wpAny_bind (wpAny_askSetting (wpAny_pure ?_)))
 show wpAny _ _ (if cQ w=true then _ else _) _ _ _
 cases hb:cQ w with
 | true =>
  rw[if_pos rfl,if_neg (by simp)]
  refine wpAny_bind ?_;unfold setWalk;refine wpAny_bind (wpAny_setState_of ho rfl hf ?_);dsimp only;unfold setsByText;refine wpAny_bind (wpAny_bind (wpAny_askSetting (wpAny_pure ?_)))
  show wpAny _ _ (if cQ w=true then _ else _) _ _ _
  rw[hb,if_pos rfl];refine wpAny_bind (wpAny_askSetting (wpAny_pure (wpAny_pure ?_)));have vY:(pickOrder (w.params.setOrder d ep) es)[es.size]? = none:=by
   unfold gY at hn;rw[hb,if_pos rfl] at hn;rw[Array.getElem?_eq_none];lia
  show Q (((pickOrder (w.params.setOrder d ep) es)[es.size]?).map λe=>(e.2,slotAt w t es.size)) s;rw[vY];exact q
 | false =>
  rw[if_neg (by simp)]
  refine wpAny_ite_split (λgF=>absurd gF ?_) (λ_=>?_)
  ·show ¬ ((!t.plain && decide (es.size > 1))=true);rw[hp];simp
  refine wpAny_bind ?_
  show wpAny _ _ (if (!t.led && !es.isEmpty)=true then unsupported _ else pure ()) _ _ _
  rw[if_neg (by rw[mS,hb];simp)]
  refine wpAny_pure (wpAny_pure ?_);rw[jr hb,Array.getElem?_eq_none (Nat.le_refl _)];exact q
theorem ac7{Q:Option Value->Shared->Prop}(hit:mR s.heap it d (slotAt w t i) i es.size ep)(ho:s.heap.get? d=some (dY es ep t))(hf:t.fits es.size=true)(hp:t.plain=true)(mS:t.led = !cQ w)(jr:cQ w=false->SetTable.below t.place (slotAt w t i)=i)
  (hi:i<es.size) {x:Int×Value} (hx:(gY w d ep es)[i]? = some x)
  (q:∀h',mR h' it d (slotAt w t (i+1)) (i+1) es.size ep->Heap.SameBut it s.heap h'->Q (some x.2) { s with heap:=h' }):wpAny (model prog w) A (pyNext (.ref it)) Q E s:=by
 obtain⟨o,sY,hc,hd⟩:=id hit;unfold pyNext;refine wpAny_bind (wpAny_attempt (wpAny_callSpecial?_slot (name:=Str.ofString "__next__") hit.typeIs sX
  (wpAny_call_entry sX hit.typeIs Ra ?_ (Rc _))))
 unfold Builtin.«set_iterator.__next__» slotArgs;simp only[isEmpty_nil,Bool.not_true,false_eq_true,↓reduceIte,bind_assoc,length_nil,bne_self_eq_false];refine wpAny_bind (wpAny_pure ?_);refine wpAny_bind (wpAny_fieldsOf sY hd ?_);dsimp only[rawInt];refine wpAny_bind (wpAny_setEntries_of ho rfl hf ?_);rw[if_neg (by simp)]
 simp only[toNat_natCast];refine wpAny_bind (ac5 ho hf hp mS jr hi hx ?_);dsimp only;refine wpAny_bind (wpAny_setField sY hd (by simp) ?_)
 have lE:=get?_update_self (Obj.mapFields (·.setIfInBounds 0 (rawInt (slotAt w t (i+1):Int)))) sY (Obj.isFreed_of_fields (Obj.data_mapFields hd _));have sZ:=Obj.data_mapFields hd (·.setIfInBounds 0 (rawInt (slotAt w t (i+1):Int)));refine wpAny_bind (wpAny_setField lE sZ (by simp) ?_)
 have qp:=get?_update_self (Obj.mapFields (·.setIfInBounds 1 (rawInt ((i:Int)+1)))) lE (Obj.isFreed_of_fields (Obj.data_mapFields sZ _));have hd2:=Obj.data_mapFields sZ (·.setIfInBounds 1 (rawInt ((i:Int)+1)));refine wpAny_pure ⟨_,rfl,wpAny_pure (q _ ⟨_,qp,?_,?_⟩ ?_)⟩
 ·exact((Obj.cls_mapFields ..).trans (Obj.cls_mapFields ..)).trans hc
 ·rw[hd2];simp[rawInt]
 ·exact(Heap.SameBut.update ..).trans (Heap.SameBut.update ..)
theorem ac8{Q:Option Value->Shared->Prop}(hh:A.handled=none)(hit:mR s.heap it d (slotAt w t es.size) es.size es.size ep)(ho:s.heap.get? d=some (dY es ep t))(hf:t.fits es.size=true)(hp:t.plain=true)(mS:t.led = !cQ w)(jr:cQ w=false->SetTable.below t.place (slotAt w t es.size)=es.size)
  (hn:(gY w d ep es).size=es.size) (q:∀h',Heap.ExtBut it s.heap h'->Q none { s with heap:=h' }):wpAny (model prog w) A (pyNext (.ref it)) Q E s:=by
 obtain⟨o,sY,hc,hd⟩:=id hit;unfold pyNext;refine wpAny_bind (wpAny_attempt (wpAny_callSpecial?_slot (name:=Str.ofString "__next__") hit.typeIs sX
  (wpAny_call_entry sX hit.typeIs Ra ?_ (Rc _))))
 unfold Builtin.«set_iterator.__next__» slotArgs;simp only[isEmpty_nil,Bool.not_true,false_eq_true,↓reduceIte,bind_assoc,length_nil,bne_self_eq_false];refine wpAny_bind (wpAny_pure ?_);refine wpAny_bind (wpAny_fieldsOf sY hd ?_);dsimp only[rawInt];refine wpAny_bind (wpAny_setEntries_of ho rfl hf ?_);rw[if_neg (by simp)]
 simp only[toNat_natCast];refine wpAny_bind (ac6 ho hf hp mS jr hn ?_);dsimp only;refine wpAny_bind (wpAny_setField sY hd (by simp) ?_)
 refine wpAny_bind ?_;simp only[newExc,newTuple];refine wpAny_bind (wpAny_newObj_type ?_ (by size_fits))
 refine wpAny_bind (m:=firstArgMember _ _) (wpAny_of_eq (a:=Value.none) (by first | rfl | (simp only[firstArgMember];rfl)) ?_)
 refine wpAny_newObj_type ?_ (by size_fits)
 simp only[raiseNew];refine wpAny_bind (wpAny_handled ?_);rw[show A.in1.handled=none from hh];refine wpAny_bind (wpAny_pure (wpAny_throw ?_));refine wpAny_bind (wpAny_isInstance (T := "StopIteration") (b:=true) ⟨_,get?_push_size _ rfl,rfl⟩ isSubtype_stop ?_);exact wpAny_pure (q _ (((Heap.SameBut.update ..).extBut.push _).push _))
structure vZ(w:World)(d:Addr)(es:Array (Int×Value))(ep:Nat)(t:SetTable):Prop where
 hf:t.fits es.size=true
 hp:t.plain=true
 mS:t.led = !cQ w
 jr:cQ w=false->∀i,i<=es.size->SetTable.below t.place (slotAt w t i)=i
 hn:(gY w d ep es).size=es.size
theorem ac9(hh:A.handled=none)(I:Addr)(dJ:d≠I)(ok:vZ w d es ep t):Walks prog w A I [I,d] [I] es.size (λi v=>∃e,(gY w d ep es)[i]? = some e/\v=e.2) (λi h=>mR h I d (slotAt w t i) i es.size ep/\h.get? d=some (dY es ep t)) where
 sub:=λb hb=>by simp at hb;simp[hb]
 frame:=λ_ _ _ st hk=>⟨st.1.at λo e=>hk I (by simp) o e,hk d (by simp) _ st.2⟩
 item:=λi s Q E hi st hQ=>by
  have dD:i<(gY w d ep es).size:=by rw[ok.hn];exact hi
  exact ac7 st.1 st.2 ok.hf ok.hp ok.mS (λhb=>ok.jr hb i (Nat.le_of_lt hi)) hi (Array.getElem?_eq_getElem dD) λh' zm gT=>hQ _ h' s.toks ⟨_,Array.getElem?_eq_getElem dD,rfl⟩ ⟨zm,gT.extBut d _ dJ st.2⟩ λb o hb e=>gT.extBut b o (λh=>hb (by simp[h])) e
 done:=λs Q E st hQ=>ac8 hh st.1 st.2 ok.hf ok.hp ok.mS (λhb=>ok.jr hb _ (Nat.le_refl _)) ok.hn λh' zo=>hQ h' s.toks λb o hb e=>zo b o (λh=>hb (by simp[h])) e
 self:=λ_ _ _ _ st hQ=>ac2 st.1 hQ
theorem ac_{Q:Bool->Shared->Prop}(hT:s.TypeIs (.ref d) "set")(h:Q false s):wpAny (model prog w) A (Builtin.List.listLengthHint (.ref d)) Q E s:=by
 unfold Builtin.List.listLengthHint;refine wpAny_bind (wpAny_specialOf hT ac1 ?_);generalize Rg:("set.__len__" : String)=id0
 wp_delta
 rw[show splitId id0=some ("set", "__len__") from by subst Rg;decide +kernel]
 subst Rg;refine wpAny_bind (wpAny_isInstance (T := "set") (b:=true) hT (by rw[isSubtype_type];kernel_rfl) ?_)
 refine wpAny_ite_split (λgF=>absurd gF (by decide)) (λ_=>?_)
 refine wpAny_ite_split (λ_=>?_) (λgF=>absurd (by decide +kernel) gF)
 refine wpAny_bind (wpAny_typeOf hT ?_);exact wpAny_pure h
theorem ada(ok:vZ w d es ep t):W.KdlSrc prog w "set" d d es.size (λi v=>∃e,(gY w d ep es)[i]? = some e/\v=e.2) (λh=>h.get? d=some (dY es ep t)) where
 type:=λ_ hm=>⟨_,hm,rfl⟩
 there:=λ_ hm=>⟨lt_size hm,lt_size hm⟩
 keep:=λ_ _ hm hk=>hk d (.inl rfl) _ hm
 notList:=by decide
 notTuple:=by decide
 hint:=λ_ _ _ _ hm hq=>ac_ ⟨_,hm,rfl⟩ hq
 iter:=λ_ s hh hm=>⟨_,_,(λ_ _ hq=>ac3 hm ok.hf ok.hp hq),ac9 hh _ (Nat.ne_of_lt (lt_size hm)) ok,⟨⟨_,get?_push_size _ rfl,rfl,by unfold slotAt;cases cQ w <;> rfl⟩,get?_push_of_some _ hm⟩⟩
theorem adb{S:Addr}{R:Result->Shared->Prop}(hh:A.handled=none)(ok:vZ w d es ep t)(hd:s.heap.get? d=some (dY es ep t))(hn:es.size<=2)(dJ:S≠d)(hS:s.heap.get? S=some { cls:=.type "list",data:=.seq #[] })
  (hR:∀(h':Heap) (tk:Nat) (acc:Array Value) (c:Nat),(∀b o,b≠S->s.heap.get? b=some o->h'.get? b=some o)->h'.get? S=some { cls:=.type "list",dict:=none,data:=.seq acc c,slots := #[] }->acc.toList=(gY w d ep es).toList.map (·.2)->R (.ok (.ret (.ref S))) { s with heap:=h',toks:=tk }) :
  codeAny (model prog w) A (.builtin "list.__iadd__" ⟨[.ref S,.ref d],[]⟩) R s:=by
 refine codeAny_builtin PySem.F.entry_list_iadd ?_;rw[Around.under_plainId plain_list_iadd _];refine W.kdl_extend (ada ok) hh hd S dJ dJ (.ref S) 0 hS (λh' tk acc c hk hS jL=>hR h' tk acc c hk hS ?_) (by rw[sizeLine_eq];lia)
 refine List.ext_getElem? λi=>?_
 have hsz:=jL.1;have l6:=ok.hn;by_cases hi:i<es.size
 ·have dD:i<acc.size:=by rw[hsz];exact hi
  obtain⟨e,e1,e2⟩:=jL.2 i acc[i] (Array.getElem?_eq_getElem dD);rw[getElem?_toList,Array.getElem?_eq_getElem dD,getElem?_map,getElem?_toList,e1,e2];rfl
 ·rw[getElem?_eq_none (by rw[length_toList];lia),getElem?_eq_none (by rw[length_map,length_toList];lia)]
theorem ade{Q:List Value->Shared->Prop}(hh:A.handled=none)(ok:vZ w d es ep t)(hd:s.heap.get? d=some (dY es ep t))(hn:es.size<=2)
  (hQ:∀(h':Heap) (tk:Nat) (vs:List Value),(∀b o,s.heap.get? b=some o->h'.get? b=some o)->s.heap.objs.size<h'.objs.size->vs=((gY w d ep es).toList.map (·.2))->Q vs { s with heap:=h',toks:=tk }) :
  wpAny (model prog w) A (collect (.ref d)) Q E s:=by
 unfold collect;refine wpAny_bind (wpAny_runValue (codeAny_builtin PySem.F.entry_proto_collect ?_));rw[Around.under_plainId PySem.F.plain_proto_collect _];show wpAny _ A.in1 (newList [] >>= λl=>again (.builtin "list.__iadd__" ⟨[l,.ref d],[]⟩)) _ _ s;have z9:d<s.heap.objs.size:=lt_size hd;refine wpAny_bind (wpAny_newObj_type (wpAny_pure ⟨plainId_quiet plain_list_iadd _,adb hh ok (get?_push_of_some _ hd) hn (ne_of_gt z9) (get?_push_size _ rfl) λh' tk acc c hk hS jL=>?_⟩))
 show wpAny _ A (load s.heap.objs.size >>= _) _ _ _;exact wpAny_bind (wpAny_load hS (wpAny_pure (hQ h' tk acc.toList (λb o e=>hk b o (Nat.ne_of_lt (lt_size e)) (get?_push_of_some _ e)) (lt_size hS) jL)))
end
theorem Rh{α:Type}(next:Nat->Nat):∀(fuel k:Nat) (left:List α) (out:Array α),left.length=fuel->(pickOrder.go next fuel k left out).toList.Perm (out.toList++left)
 | 0,k,left,out,h=>by
  rw[List.length_eq_zero_iff.mp h,append_nil];exact .refl _
 | fuel+1,k,left,out,h=>by
  have hj:next k % left.length<left.length:=Nat.mod_lt _ ∅
  unfold pickOrder.go;rw[getElem?_eq_getElem hj];dsimp only;refine(Rh next fuel (k+1) (left.eraseIdx (next k % left.length)) _ (by rw[List.length_eraseIdx,if_pos hj];lia)).trans ?_
  rw[Array.toList_push,append_assoc];refine List.Perm.append_left _ ?_;generalize next k % left.length=j at hj;rw[List.singleton_append,List.eraseIdx_eq_take_drop_succ];refine(List.perm_middle (a:=left[j]) (l₁:=left.take j) (l₂:=left.drop (j+1))).symm.trans ?_;rw[← drop_eq_getElem_cons hj,take_append_drop]
section
variable{prog:Program}{w:World}{A:Around}{E:Value->Shared->Prop}{s:Shared}{d:Addr}{ep m n:Nat}{es:Array (Int×Value)}{tm tn:Tok}
theorem Ri:(gY w d ep es).toList.Perm es.toList:=by
 unfold gY;split
 ·exact Rh _ _ _ _ _ (by simp)
 ·exact .refl _
theorem below_1(a:Nat):SetTable.below #[a] 0=0/\SetTable.below #[a] (a+1)=1:=by
 constructor <;> simp[SetTable.below,SetTable.below.go]
theorem below_2{a b:Nat}(h:a<b):SetTable.below #[a,b] 0=0/\SetTable.below #[a,b] (a+1)=1/\SetTable.below #[a,b] (b+1)=2:=by
 refine⟨?_,?_,?_⟩
 ·simp[SetTable.below,SetTable.below.go]
 ·simp[SetTable.below,SetTable.below.go,show ¬ b<a+1 by lia]
 ·simp[SetTable.below,SetTable.below.go]
theorem adf(hm:m<32)(hn:n<32)(ne:m≠n)(led:Bool):∃a b,a<b/\(T2 m n led).place = #[a,b]:=by
 obtain⟨_,_,c⟩:=vt ⟨m,hm⟩ ⟨n,hn⟩ led (λz=>ne (by simpa using z))
 have c:kh m n≠m % 8:=c;unfold T2;dsimp only;split
 ·exact⟨_,_,by assumption,rfl⟩
 ·exact⟨_,_,∅,rfl⟩
theorem HK{y x:Value}:(jf m n y x).size=2:=by unfold jf;split <;> rfl
theorem adg(hm:m<32)(hn:n<32):vZ w d (iu m n tm tn) (oA m n) (mQ m n (!cQ w)):=by
 have hsz:∀ {es:Array (Int×Value)} {ep:Nat},(gY w d ep es).size=es.size:=λ{es ep}=>by
  have:=(Ri (w:=w) (d:=d) (ep:=ep) (es:=es)).length_eq;simpa using this
 by_cases e:m=n
 ·have e1:iu m n tm tn = #[((m:Int),.int m tm)]:=if_pos e;have e2:mQ m n (!cQ w)=T1 m (!cQ w):=if_pos e;rw[e1,e2];refine⟨rfl,rfl,rfl,λhb i hi=>?_,hsz⟩;have:i=0\/i=1:=by simp at hi;lia
  unfold slotAt;rw[hb];rcases this with rfl | rfl
  ·exact(below_1 _).1
  ·exact(below_1 _).2
 ·have e1:iu m n tm tn=jf m n (.int m tm) (.int n tn):=if_neg e;have e2:mQ m n (!cQ w)=T2 m n (!cQ w):=if_neg e;rw[e1,e2];obtain⟨a,b,gF,hp⟩:=adf hm hn e (!cQ w);refine⟨?_,rfl,rfl,λhb i hi=>?_,hsz⟩
  ·rw[HK];unfold SetTable.fits SetTable.fill;rw[hp];rfl
  ·rw[HK] at hi;have:i=0\/i=1\/i=2:=by lia
   unfold slotAt;rw[hp,hb];rcases this with rfl | rfl | rfl
   ·exact(below_2 gF).1
   ·exact(below_2 gF).2.1
   ·exact(below_2 gF).2.2
noncomputable def lF(m n:Nat):List Int:=if m=n then [(m:Int)] else [(m:Int),(n:Int)]
theorem HL:∀ {vs ws:List Value},vs.Perm ws->∀ {ns:List Int},IntsAre ws ns->∃cZ,IntsAre vs cZ/\cZ.Perm ns:=by
 intro vs ws h
 induction h with
 | nil=>intro ns hi;exact⟨ns,hi,.refl _⟩
 | cons x _ ih =>
  intro ns hi;cases hi with
  | cons _ _ hi =>
   obtain⟨cZ,a,b⟩:=ih hi;exact⟨_,.cons _ _ a,b.cons _⟩
 | swap x y l =>
  intro ns hi;cases hi with
  | cons _ _ hi =>
   cases hi with
   | cons _ _ hi=>exact⟨_,.cons _ _ (.cons _ _ hi),.swap ..⟩
 | trans _ _ ih1 ih2 =>
  intro ns hi;obtain⟨n2,a,b⟩:=ih2 hi;obtain⟨n1,c,e⟩:=ih1 a;exact⟨n1,c,e.trans b⟩
theorem adh:∃ns,IntsAre ((gY w d ep (iu m n tm tn)).toList.map (·.2)) ns/\ns.Perm (lF m n):=by
 have p:=(Ri (w:=w) (d:=d) (ep:=ep) (es:=iu m n tm tn)).map (·.2);by_cases e:m=n
 ·have e1:iu m n tm tn = #[((m:Int),.int m tm)]:=if_pos e;rw[e1] at p ⊢;obtain⟨ns,a,b⟩:=HL p (ns:=[(m:Int)]) (.cons _ _ .nil);exact⟨ns,a,by rw[show lF m n = [(m:Int)] from if_pos e];exact b⟩
 ·have e1:iu m n tm tn=jf m n (.int m tm) (.int n tn):=if_neg e;rw[e1] at p ⊢;rw[show lF m n = [(m:Int),(n:Int)] from if_neg e];unfold jf at p ⊢;split at p
  ·rename_i h;rw[if_pos h];obtain⟨ns,a,b⟩:=HL p (ns:=[(n:Int),(m:Int)]) (.cons _ _ (.cons _ _ .nil));exact⟨ns,a,b.trans (.swap ..)⟩
  ·rename_i h;rw[if_neg h];exact HL p (ns:=[(m:Int),(n:Int)]) (.cons _ _ (.cons _ _ .nil))
theorem adi{Q:Value->Shared->Prop}(hh:A.handled=none)(hm:m<32)(hn:n<32)(hd:s.heap.get? d=some (dY (iu m n tm tn) (oA m n) (mQ m n (!cQ w))))
  (h:∀(L:Addr) (h':Heap) (tk:Nat) (out:Array Value) (cZ:List Int) (e:Nat),s.heap.objs.size<=L->h'.get? L=some (seqObj "list" out e)->(∀b o,s.heap.get? b=some o->h'.get? b=some o)->IntsAre out.toList cZ->cZ.Perm (lF m n)->cZ.Pairwise (·<=·)->Q (.ref L) { s with heap:=h',toks:=tk }) :
  wpAny (model prog w) A (call (.builtin "sorted") [.ref d]) Q E s:=by
 refine Calls.call_function_entry kind_sorted plain_sorted entry_sorted (args_sorted1 _) ?_;unfold Builtin.«sorted»;refine wpAny_bind (m:=checkCount "sorted" 1 1 _) (wpAny_pure ?_);have hsz:(iu m n tm tn).size<=2:=by
  unfold iu;split
  ·simp
  ·rw[HK];exact Nat.le_refl _
 refine wpAny_bind (ade hh (adg hm hn) hd hsz λh1 t1 vs k1 z1 ev=>?_);obtain⟨ns,hi,hp⟩:=adh (w:=w) (d:=d) (ep:=oA m n) (m:=m) (n:=n) (tm:=tm) (tn:=tn);rw[← ev] at hi;have hl:vs.length=ns.length:=hi.length;have kR:ns.length<=2:=by
  rw[hp.length_eq];unfold lF;split <;> simp
 refine wpAny_bind (wpAny_newList ?_ (by rw[sizeLine_eq];lia))
 have nv:(h1.push (seqObj "list" vs.toArray 0)).get? h1.objs.size=some (seqObj "list" vs.toArray 0):=get?_push_size _ rfl
 show wpAny _ _ _ _ _ { s with heap:=h1.push (seqObj "list" vs.toArray 0),toks:=t1 };refine wpAny_bind (wpAny_holding (wpAny_call_entry slot_list_sort ⟨_,nv,rfl⟩ entry_list_sort (list_sort_tree nv hi ∅ λout cZ a1 a2 a3=>⟨_,rfl,?_⟩) (args_list_sort _)))
 obtain⟨e,he⟩:=sortedHeap_at (out:=out) nv;refine wpAny_pure ⟨_,rfl,h h1.objs.size _ _ out cZ e (Nat.le_of_lt z1) he (λb o q=>?_) a1 (a2.trans hp) a3⟩;have q1:=k1 b o q;have hb:=lt_size q1;rw[sortedHeap_old (Nat.ne_of_lt hb) (by rw[size_push'];exact lt_succ_of_lt hb)]
 exact get?_push_of_some _ q1
end
section
variable{X:Cx}{e:Expr}{tl:TE}{p1 p2 p3 p4:Pos}
noncomputable def HM(K:Frag)(tl:TE):TE:=λσ H Q=>tl σ H λx H1=>∃(l:Addr) (m n:Nat),x = .ref l/\aE K H1 l [.int (m:Int),.int (n:Int)]/\m<32/\n<32/\
 ∀(L:Addr) (ns:List Int),H1 L=none->ns.Perm (lF m n)->ns.Pairwise (·<=·)->Q (.ref L) (upd H1 L (.lst (ns.map V.int)))
theorem adk(vK:Gl X "sorted")(vL:X.mg "sorted" = none)(hgT:Gl X "set")(hmT:X.mg "set" = none)(hc:X.calm=true)(hl:PE X e tl)
  (hs:starEach [e] X.env = [(false,eval e X.env)]:=by rfl) (lC:starEach [.Call (.Name "set" p2) [e] [] p3] X.env = [(false,eval (.Call (.Name "set" p2) [e] [] p3) X.env)]:=by rfl) :
  PE X (.Call (.Name "sorted" p1) [.Call (.Name "set" p2) [e] [] p3] [] p4) (HM X.K tl):=by
 intro pins s σ H Q I h;refine wpAny_Call_Name_kw (kJ I vK vL boot_sorted (PyProof.Rows.callWith_builtin1 ?_ (by rw[lC];rfl) (by rfl)))
 rw[lC];refine spliced_cons ?_
 let R:List V->Hp->Prop:=λvs H1=>match vs with
  | [x]=>∃(l:Addr) (m n:Nat),x = .ref l/\aE X.K H1 l [.int (m:Int),.int (n:Int)]/\m<32/\n<32/\∀(L:Addr) (ns:List Int),H1 L=none->ns.Perm (lF m n)->ns.Pairwise (·<=·)->Q (.ref L) (upd H1 L (.lst (ns.map V.int)))
  | _=>False
 have h':yN tl uF σ H R:=h;refine Call_ (kJ I hgT hmT (show bootBuiltins "set" = some (.type "set") by decide +kernel) (PyProof.Rows.callWith_type1 (aY ((aj hl au (hs:=hs)) p3 pins s σ H R I h') λus s1 ⟨vs,H1,I1,r1,q1⟩=>?_) (by rw[hs];rfl) (by rfl)))
 cases r1 with
 | nil=>exact q1.elim
 | cons ru r1 =>
 cases r1 with
 | cons _ _=>exact q1.elim
 | nil =>
 obtain⟨l,m,n,rfl,hq,hm,hn,q⟩:=q1;cases ru;obtain⟨az,rv,pl,_⟩:=I1.list hq;cases rv with
 | cons w1 rv =>
 cases rv with
 | cons w2 rv =>
 cases rv;obtain⟨tm,rfl⟩:=w1;obtain⟨tn,rfl⟩:=w2;have hh:=I1.ok.hd hc;refine acR hh hm hn pl.isList λh2 t2 iP k2=>spliced_nil ?_;have kp2:∀b o,s1.heap.get? b=some o->h2.get? b=some o:=λb o e=>k2 b o (lt_size e) e;refine adi (s:={ s1 with heap:=h2,toks:=t2 }) hh hm hn iP λL h3 t3 out cZ e' hL nv k3 a1 a2 a3=>?_;have bL:s1.heap.objs.size<=L:=Nat.le_trans (Nat.le_of_lt (lt_size iP)) hL;have iN:H1 L=none:=I1.aG.fresh bL;refine⟨.ref L,upd H1 L (.lst (cZ.map V.int)),I1.laid (t':=t3) (λb o q=>k3 b o (kp2 b o q)) bL ?_,rfl,q L cZ iN a2 a3⟩;refine⟨?_,out.toList,e',uU a1,by simpa using nv⟩
 rw[length_map,a2.length_eq];unfold lF;split <;> (rw[sizeLine_eq];simp)
end
noncomputable def Rj(C:Addr):TE:=λ_ H Q=>∀x dx,H x=none->H dx=none->dx≠x->Q (.ref x) (upd (upd H dx (.own x)) x (.ins C dx []))
section
variable{X:Cx}{C:Addr}{x:Str}{p pos:Pos}
end
noncomputable def Rk(Rl:List Addr)(mT:Sp)(Rm:List Addr)(gI:Sp)(m:Str)(E:XK)(ta:TE)(t:TA):TE:=λσ H Q=>ta σ H λx H1=>∃C a dx fs,x = .ref a/\H1 a=some (.ins C dx fs)/\fs.lookup m=none/\
 ((C∈Rl/\t σ H1 λvs H2=>mT (x::(vs++[])) H2 Q E)\/(C∈Rm/\t σ H1 λvs H2=>gI (x::(vs++[])) H2 Q E))
section
variable{X:Cx}{CX:gO}{k1 k2:Nat}{f1 f2:Addr}{Rl Rm:List Addr}{HN HP:FuncData}{ps1 eZ:List Str}{mT gI:Sp}{E:XK}{m:Str}{pos apos:Pos}{o e:Expr}{es:List Expr}{ta:TE}{t:TA}
end
noncomputable def gm(ns:List Int)(k:Int):Int:=Gq ns k+1009*k
noncomputable def aQ(c t m:Int):Int:=(c+7)*(1327217885+715225739*t*t) % 2147483629 % m
theorem cy(c t:Int){m:Int}(h:0<m):0<=aQ c t m/\aQ c t m<m:=⟨emod_nonneg _ ∅,emod_lt_of_pos _ h⟩
noncomputable def Rn(K:Frag):Sp:=λvs H Q _=>∃(a:Addr) (ns:List Int) (k:Int),vs = [.ref a,.int k]/\aE K H a (ns.map V.int)/\ns.length<=63/\0<=k/\k<=1000/\Q (.int (gm ns k)) H
noncomputable def Ro:Sp:=λvs H Q _=>∃(c t m:Int),vs = [.int c,.int t,.int m]/\0<=t/\t<=1000/\0<m/\Q (.int (aQ c t m)) H
noncomputable def iw(c s0:Int):Nat->Int
 | 0=>s0
 | i+1=>iw c s0 i - aQ c (24+(1+(i:Int))) (iw c s0 i / 2+1)
theorem Rp(c:Int){s0:Int}(h:1<=s0):∀i,0<=iw c s0 i/\iw c s0 (i+1)<=iw c s0 i:=by
 have h0:∀i,0<=iw c s0 i:=λi=>by
  induction i with
  | zero=>simp only[iw];lia
  | succ i ih =>
   rw[iw];have:=(cy c (24+(1+(i:Int))) (m:=iw c s0 i / 2+1) ∅).2
   lia
 intro i;refine⟨h0 i,?_⟩;have:=h0 i;rw[iw];have:=(cy c (24+(1+(i:Int))) (m:=iw c s0 i / 2+1) ∅).1
 lia
noncomputable def adl(K:Frag):Sp:=λvs H Q _=>∃(c m:Int),vs = [.int c,.int m]/\2<=m/\m<=60/\∀l sw H',ao H H'->H l=none->H' l=some (.lst (sw.map V.int))->SwOk sw m->Q (.ref l) H'
noncomputable def adm(K:Frag):Sp:=λvs H Q _=>∃(c:Int),vs = [.int c]/\∀l ts z H',ao H H'->H l=none->Zn H' l ts z->ZL z->Q (.ref l) H'
noncomputable def adn(K:Frag):Sp:=λvs H Q _=>∃(ca:Addr) (c s:Int) (rc:List Int),vs = [.int c,.ref ca,.int s]/\H ca=some (.lst (rc.map V.int))/\1<=rc.length/\rc.length<=100/\0<=s/\s<=1000/\(∀i:Nat,i<rc.length->1<=rc.getD i 0/\rc.getD i 0<=1000)/\
 ∀(l:Addr) (ts:List Addr) (bz:List (Int×Int)) (H':Hp),ao H H'->H l=none->bz.Nodup->(∀q∈bz,0<=q.1/\q.1<rc.length/\0<=q.2/\q.2<rc.getD q.1.toNat 0)->bz.length<=6->bz.length<=s.toNat*rc.length->Zn H' l ts bz->Q (.ref l) H'
theorem ZP.zl5{z:List (Int×Int)}(h:ZP z)(h1:1<=z.length)(h5:z.length<=5):ZL z:=by
 have s:=QU λp hp=>⟨(h.r p hp).1,(h.r p hp).2.1⟩;have s2:=h.s2;refine⟨⟨h1,∅,λp hp=>?_,s2,∅⟩,?_,∅⟩
 ·have:=h.r p hp;lia
 ·have b:=(zx (m:=8) (by decide) z λp hp=>(h.r p hp).2.2).2
  have:=Pc (m:=8) (by decide) h5
  have e:(8:Int) ^ 5=32768:=by decide
  lia
theorem ado{a b:Int}(a0:2<=a)(a1:a<=3)(b0:1<=b)(b1:b<=60):ZL [(a,b)]:=by
 refine⟨⟨by simp,by simp,?_,?_,?_⟩,?_,?_⟩
 ·intro p hp;rw[mem_singleton.mp hp];dsimp only;lia
 ·simp;lia
 ·simp;lia
 ·rw[Gz];simp[dO];lia
 ·simp;lia
section
variable{ta:TA}{g:TG}{tb:TS}{D:Ends}{σ:St}{H:Hp}
noncomputable def Aa(j:Int)(g:TG)(tb:TS)(D:Ends)(σ:St)(H:Hp):Prop := -(2 ^ 62)<=j/\j<2 ^ 62/\∃W:Nat->Nat->St->Hp->Prop,(∃m,W 0 m σ H)/\∀i m σ H,W i m σ H->
 ((lV 0 j.toNat).stop i H/\D.nx σ H)\/((lV 0 j.toNat).go i H/\∃N:St->Hp->Prop,(∀bf H',N bf H'->∃m',m' < m/\W (i+1) m' bf H')/\∀x H',(lV 0 j.toNat).lT i H x H'->g x σ H' λaA H2=>tb { D with nx:=N,ct:=N,bk:=D.nx } aA H2)
theorem rrG(h:ta σ H λvs H1=>∃j:Int,vs = [.int j]/\Aa j g tb D σ H1):i9 (rR ta) g tb D σ H:=h
theorem Aa.by(n:Int)(Pv:Nat->St->Hp->Prop)(O_ : -1000000000000<n)(hn:n<1000000000000)(h0:Pv 0 σ H)
  (hs:∀i σ H (N:St->Hp->Prop),(∀σ H,Pv (i+1) σ H->N σ H)->i<n.toNat->Pv i σ H->g (.int (i:Int)) σ H λaA H2=>tb { D with nx:=N,ct:=N,bk:=D.nx } aA H2) (hd:∀σ H,Pv n.toNat σ H->D.nx σ H):Aa n g tb D σ H:=by
 have h:=u7 (ta:=λ_ H Q=>Q [.int n] H) (g:=g) (tb:=tb) (D:=D) (σ:=σ) (H:=H) n Pv (λQ q=>q) O_ hn h0 hs hd;obtain⟨j,e,h⟩:=h;cases e;exact h
end
structure jt(H:Hp)(t:Addr)(q:Ak)(m b:Addr):Prop where
 o:H t=some (.tup [.str q.kind,.int q.first,.int q.many,.ref m,.int q.at_,.int q.bT,mz q.pB,.ref b,.bl q.early])
 ms:H m=some (.tup (q.marks.map V.int))
 bh:H b=some (.tup (q.behind.map V.int))
theorem jt.same{H H':Hp}{t:Addr}{q:Ak}{m b:Addr}(h:jt H t q m b)(s:ao H H'):jt H' t q m b:=⟨s _ _ h.o,s _ _ h.ms,s _ _ h.bh⟩
structure jT(H:Hp)(l:Addr)(ts:List Addr)(qs:List Ak):Prop where
 l:H l=some (.lst (ts.map V.ref))
 n:ts.length=qs.length
 t:∀(i:Nat) (t:Addr) (q:Ak),ts[i]? = some t->qs[i]? = some q->∃m b,jt H t q m b
theorem jT.same{H H':Hp}{l:Addr}{ts:List Addr}{qs:List Ak}(h:jT H l ts qs)(s:ao H H'):jT H' l ts qs :=
 ⟨s _ _ h.l,h.n,λi t q e1 e2=>let ⟨m,b,a⟩:=h.t i t q e1 e2;⟨m,b,a.same s⟩⟩
theorem adp{m n:Nat}{ns:List Int}(hm:m<32)(hn:n<32)(p:ns.Perm (lF m n))(s:ns.Pairwise (·<=·)):jl ns:=by
 have nd:ns.Nodup:=p.nodup_iff.mpr (by
  unfold lF;split
  ·simp
  ·simp;lia)
 have mem:∀x∈ns,0<=x/\x<=99:=λx hx=>by
  have:=p.mem_iff.mp hx;unfold lF at this;split at this <;> simp at this <;> lia
 refine⟨?_,λx hx=>(mem x hx).1,λx hx=>(mem x hx).2⟩;have nd:=nodup_iff_pairwise_ne.mp nd;exact(s.and nd).imp λ⟨h1,h2⟩=>by lia
noncomputable def adq(K:Frag):Sp:=λvs H Q _=>∃(c:Int) (l:Addr) (ts:List Addr) (qs:List Ak),vs = [.int c,.ref l]/\jT H l ts qs/\qs.length<=32/\
 ∀b ns H',ao H H'->H b=none->H' b=some (.tup (ns.map V.int))->jl ns->Q (.ref b) H'
structure qV(total:Int)(q:Ak):Prop where
 k:q.kind = "rest"\/q.kind = "read"\/q.kind = "write"
 r:q.kind = "rest"->q=⟨"rest",0,0,[],q.at_,0,none,[],false⟩
 f0:q.kind≠"rest"->0<=q.first/\1<=q.many/\q.many<=16/\q.first+q.many<=total
 a0:0<=q.at_
 s0:0<=q.bT/\q.bT<=20
 l0:∀x,q.pB=some x->0<=x/\x<=10000000000000
 b0:jl q.behind
 m0:∀x∈q.marks,0<=x/\x<=1000000000
 mr:q.kind = "read"->q.marks = []/\q.early=false
 mw:q.kind = "write"->(q.marks.length:Int)=q.many
structure qW(H:Hp)(t:Addr)(rc:List Int)(aP sk:Int)(sw:List Int)(ca sa na:Addr)(eE:List Addr)(nc:List (Int×Int)):Prop where
 o:H t=some (.tup [.ref ca,.int aP,.int sk,.ref sa,.ref na])
 c:H ca=some (.lst (rc.map V.int))
 s:H sa=some (.lst (sw.map V.int))
 n:Zn H na eE nc
theorem qW.same{H H':Hp}{t:Addr}{rc:List Int}{aP sk:Int}{sw:List Int}{ca sa na:Addr}{eE:List Addr}{nc:List (Int×Int)}(h:qW H t rc aP sk sw ca sa na eE nc)(s:ao H H'):qW H' t rc aP sk sw ca sa na eE nc:=⟨s _ _ h.o,s _ _ h.c,s _ _ h.s,h.n.same s⟩
noncomputable def ads(K:Frag)(C:Addr):Sp:=λvs H Q _=>∃(t:Addr) (q:Ak) (m b:Addr) (total:Int),vs = [.ref t]/\jt H t q m b/\qV total q/\total<=1000000/\q.at_<=1000000000000/\
 ∀p mk bb dx H',ao H H'->H p=none->ia K C H' p q mk bb dx->Q (.ref p) H'
noncomputable def adt(K:Frag)(C:Addr):Sp:=λvs H Q _=>∃(f a s:Int) (ma:Addr) (ms:List Int) (l:Option Int) (bv:V) (ns:List Int) (e:Bool),vs = [.int f,.ref ma,.int a,.int s,mz l,bv,.bl e]/\H ma=some (.tup (ms.map V.int))/\(∀x∈ms,0<=x/\x<=1000000000)/\
 zA f ms.length a s l/\GN K H bv ns/\jl ns/\∀p mk b dx H',ao H H'->H p=none->ia K C H' p ⟨"write",f,ms.length,ms,a,s,l,ns,e⟩ mk b dx->Q (.ref p) H'
theorem jt.eO{H:Hp}{l t:Addr}{xs ys:List V}{q:Ak}{m b:Addr}(hl:H l=some (.lst xs))(h:jt H t q m b):jt (upd H l (.lst ys)) t q m b:=by
 have ne:∀ {a:Addr} {us:List V},H a=some (.tup us)->a≠l:=λe z=>by rw[z,hl] at e;cases e
 exact⟨(aF (ne h.o)).trans h.o,(aF (ne h.ms)).trans h.ms,(aF (ne h.bh)).trans h.bh⟩
theorem jT.start{H:Hp}{l:Addr}:jT (upd H l (.lst [])) l [] []:=⟨aD,rfl,λi t q e=>by simp at e⟩
theorem jT.snoc{H:Hp}{l t:Addr}{ts:List Addr}{qs:List Ak}{q:Ak}{m b:Addr}(h:jT H l ts qs)(ht:jt H t q m b):jT (upd H l (.lst (ts.map V.ref++[V.ref t]))) l (ts++[t]) (qs++[q]):=by
 refine⟨by rw[aD,map_append];rfl,by simp[h.n],λi t' q' e1 e2=>?_⟩
 have hn:=h.n;by_cases hi:i<ts.length
 ·rw[getElem?_append_left hi] at e1;rw[getElem?_append_left ∅] at e2
  obtain⟨m',b',a⟩:=h.t i t' q' e1 e2;exact⟨m',b',a.eO h.l⟩
 ·rw[getElem?_append_right ∅] at e1
  rw[getElem?_append_right ∅] at e2
  have dD:i - ts.length=0:=by
   have:=(List.getElem?_eq_some_iff.mp e1).1;simp at this;lia
  rw[dD] at e1;rw[← hn,dD] at e2;simp at e1 e2;subst e1 e2;exact⟨m,b,ht.eO h.l⟩
structure fW(K:Frag)(CA CD:Addr)(H:Hp)(D t:Addr)(p:Dr)(tk d m b dx ap l:Addr)(ts:List Addr)(m' b' aR:Addr):Prop where
 o:H t=some (.tup [.int p.n,.ref tk,.ref d])
 k:jt H tk p.q m b
 d:fO K CA CD H d p dx ap l ts m' b' aR
 ne:l≠D
structure dm(K:Frag)(CA CD:Addr)(H:Hp)(D D':Addr)(ts:List Addr)(ps:List Dr):Prop where
 l:H D' = some (.lst (ts.map V.ref))
 n:ts.length=ps.length
 t:∀(i:Nat) (t:Addr) (p:Dr),ts[i]? = some t->ps[i]? = some p->∃tk d m b dx ap l ts m' b' aR,fW K CA CD H D t p tk d m b dx ap l ts m' b' aR
section
variable{K:Frag}{CA CD:Addr}{H H':Hp}{D D' t:Addr}{ts:List Addr}{ps:List Dr}{p:Dr}
theorem fW.same{tk d m b dx ap l:Addr}{ts:List Addr}{m' b' aR:Addr}(h:fW K CA CD H D t p tk d m b dx ap l ts m' b' aR)(s:ao H H'):fW K CA CD H' D t p tk d m b dx ap l ts m' b' aR:=⟨s _ _ h.o,h.k.same s,h.d.same s,h.ne⟩
theorem dm.same(h:dm K CA CD H D D' ts ps)(s:ao H H'):dm K CA CD H' D D' ts ps :=
 ⟨s _ _ h.l,h.n,λi t p e1 e2=>let ⟨tk,d,m,b,dx,ap,l,ts,m',b',aR,a⟩:=h.t i t p e1 e2;⟨tk,d,m,b,dx,ap,l,ts,m',b',aR,a.same s⟩⟩
theorem dm.start{l:Addr}:dm K CA CD (upd H l (.lst [])) l l [] []:=⟨aD,rfl,λi t k e=>by simp at e⟩
theorem fW.eO{tk d m b dx ap l:Addr}{ts:List Addr}{m' b' aR:Addr}{xs ys:List V}(hl:H D=some (.lst xs))(h:fW K CA CD H D t p tk d m b dx ap l ts m' b' aR):fW K CA CD (upd H D (.lst ys)) D t p tk d m b dx ap l ts m' b' aR:=by
 have ne:∀ {a:Addr} {us:List V},H a=some (.tup us)->a≠D:=λe z=>by rw[z,hl] at e;cases e
 exact⟨(aF (ne h.o)).trans h.o,h.k.eO hl,h.d.eO hl h.ne,h.ne⟩
theorem dm.snoc(h:dm K CA CD H D D ts ps){tk d m b dx ap l:Addr}{qT:List Addr}{m' b' aR:Addr}(ht:fW K CA CD H D t p tk d m b dx ap l qT m' b' aR):dm K CA CD (upd H D (.lst (ts.map V.ref++[V.ref t]))) D D (ts++[t]) (ps++[p]):=by
 refine⟨by rw[aD,map_append];rfl,by simp[h.n],λi t' q' e1 e2=>?_⟩
 have hn:=h.n;by_cases hi:i<ts.length
 ·rw[getElem?_append_left hi] at e1;rw[getElem?_append_left ∅] at e2
  obtain⟨tk,d,m,b,dx,ap,l,ts,m',b',aR,a⟩:=h.t i t' q' e1 e2;exact⟨tk,d,m,b,dx,ap,l,ts,m',b',aR,a.eO h.l⟩
 ·rw[getElem?_append_right ∅] at e1
  rw[getElem?_append_right ∅] at e2
  have dD:i - ts.length=0:=by
   have:=(List.getElem?_eq_some_iff.mp e1).1;simp at this;lia
  rw[dD] at e1;rw[← hn,dD] at e2;simp at e1 e2;subst e1 e2;exact⟨_,_,_,_,_,_,_,_,_,_,_,ht.eO h.l⟩
end
structure Ab(nc:List (Int×Int))(ps:List Dr):Prop where
 up:ps.Pairwise λa b=>a.n<b.n
 ok:∀p∈ps,qV nc.length p.q/\p.q.kind≠"rest"/\p.q.at_<=1000000000000/\0<=p.n/\p.n<=99/\p.c=pD nc p.q.first p.q.many
 ju:ps.length<=32
theorem Rq(bz:List (Int×Int)):∀(z1 z2:List (Int×Int)) (i:Nat),cH bz i (z1++z2)=cH bz i z1++cH bz (i+z1.length) z2
 | [],z2,i=>by simp[cH]
 | q::z1,z2,i=>by
  rw[cons_append,cH,cH,Rq bz z1 z2 (i+1),length_cons,show i+1+z1.length=i+(z1.length+1) by lia]
  split
  ·rfl
  ·rfl
theorem Rr{n:Nat}:∀(ms:List (Nat×(Int×Int)×(Int×Int))) (z:List (Int×Int)),(∀m∈ms,m.1≠n)->(gG z ms)[n]? = z[n]?
 | [],z,_=>rfl
 | m::ms,z,h=>by
  have:=Rr ms (z.set m.1 m.2.2) λx hx=>h x (mem_cons_of_mem _ hx);rw[show gG z (m::ms)=gG (z.set m.1 m.2.2) ms from rfl,this,getElem?_set_ne (h m (by simp))]
theorem Rt:∀(z:List (Int×Int)) (i:Nat),cH [] i z = []
 | [],_=>rfl
 | q::z,i=>by rw[cH,if_neg (by simp),Rt z]
theorem adu{z bz:List (Int×Int)}{ms:List (Nat×(Int×Int)×(Int×Int))}(hl:ms.length=(cH bz 0 z).length)(ha:∀(k:Nat) (m:Nat×(Int×Int)×(Int×Int)),ms[k]? = some m->(cH bz 0 z)[k]? = some m.1){n k:Nat}(hn:n<z.length)(hk:k=((z.take n).filter λc=>decide (c∈bz)).length) :
  (gG z (ms.take k))[n]? = some z[n]/\k<=ms.length/\(z[n]∈bz->∃h:k<ms.length,ms[k].1=n):=by
 have ez:z=z.take n++z[n]::z.drop (n+1):=by rw[← drop_eq_getElem_cons hn,take_append_drop]
 have eb:cH bz 0 z=cH bz 0 (z.take n)++cH bz n (z[n]::z.drop (n+1)):=by
  conv=>lhs;rw[ez]
  rw[Rq,length_take,min_eq_left ∅,zero_add]
 have e1:=vN bz (z.take n) 0;rw[← hk] at e1;refine⟨?_,by rw[hl,eb,length_append];lia,λhb=>?_⟩
 ·rw[Rr,getElem?_eq_getElem hn];intro m hm;obtain⟨j,hj,rfl⟩:=mem_iff_getElem.mp hm;rw[length_take] at hj;rw[List.getElem_take];have:=ha j ms[j] (getElem?_eq_getElem ∅)
  rw[eb,getElem?_append_left ∅] at this
  obtain⟨_,c,hc,_⟩:=Hv (mem_of_getElem? this);have:=(List.getElem?_eq_some_iff.mp hc).1;rw[length_take] at this;lia
 ·rw[cH,if_pos hb] at eb;have pF:k<ms.length:=by rw[hl,eb,length_append,length_cons];lia
  refine⟨pF,?_⟩;have:=ha k ms[k] (getElem?_eq_getElem pF);rw[eb,getElem?_append_right ∅,e1,sub_self] at this
  exact(Option.some.inj this).symm
theorem adv{z bz:List (Int×Int)}{n k:Nat}(hn:n<z.length)(hk:k=((z.take n).filter λc=>decide (c∈bz)).length) :
  (if z[n]∈bz then k+1 else k)=((z.take (n+1)).filter λc=>decide (c∈bz)).length:=by
 rw[List.take_succ_eq_append_getElem hn,filter_append,length_append,← hk,filter_cons];by_cases h:z[n]∈bz
 ·rw[if_pos h,if_pos (decide_eq_true h)];rfl
 ·rw[if_neg h,if_neg (by simpa using h)];rfl
theorem adw{z bz:List (Int×Int)}{ms:List (Nat×(Int×Int)×(Int×Int))}(hl:ms.length=(cH bz 0 z).length){k:Nat}(hk:k=((z.take z.length).filter λc=>decide (c∈bz)).length):ms.take k=ms:=by
 rw[take_length,← vN bz z 0,← hl] at hk;rw[hk,take_length]
noncomputable def lG(i m:Nat):Nat->List (Int×Int)
 | 0=>[]
 | j+1=>if j<m then lG i m j++[((i:Int),(j:Int))] else lG i m j
noncomputable def ki(bz:List (Int×Int))(i m:Nat):Nat->List (Int×Int)
 | 0=>[]
 | j+1=>if j<m then ki bz i m j else if ((i:Int),(j:Int))∈bz then ki bz i m j else ki bz i m j++[((i:Int),(j:Int))]
theorem HQ(i m:Nat):∀n,lG i m n=(List.range (min n m)).map λ(k:Nat)=>((i:Int),(k:Int))
 | 0=>by simp[lG]
 | j+1=>by
  rw[lG,HQ i m j];split
  ·rw[min_eq_left ∅,min_eq_left ∅,range_succ,map_append];rfl
  ·rw[min_eq_right ∅,min_eq_right ∅]
theorem HR(bz:List (Int×Int))(i m:Nat):∀n,ki bz i m n=((List.range (n - m)).map λ(k:Nat)=>((i:Int),(m:Int)+(k:Int))).filter λc => !decide (c∈bz)
 | 0=>by simp[ki]
 | j+1=>by
  rw[ki,HR bz i m j];split
  ·rw[show j+1 - m=0 by lia,show j - m=0 by lia]
  ·rw[show j+1 - m=(j - m)+1 by lia,range_succ,map_append,filter_append,List.map_singleton,show (m:Int)+((j - m:Nat):Int)=(j:Int) by lia,filter_cons]
   split
   ·rw[if_neg (by simpa),filter_nil,append_nil]
   ·rw[if_pos (by simpa),filter_nil]
theorem ady(i m:Nat)(n:Nat):(lG i m n).length<=n:=by rw[HQ,length_map,length_range];lia
theorem adz(bz:List (Int×Int))(i m n:Nat):(ki bz i m n).length<=n:=by
 rw[HR];refine Nat.le_trans (length_filter_le _ _) ?_;rw[length_map,length_range];lia
theorem Zn.eO{H:Hp}{l f:Addr}{xs ys:List V}{ts:List Addr}{z:List (Int×Int)}(h:Zn H l ts z)(hf:H f=some (.lst xs))(ne:f≠l):Zn (upd H f (.lst ys)) l ts z :=
 ⟨(aF ne.symm).trans h.l,h.n,λi t p e1 e2=>by
  have:=h.t i t p e1 e2;exact(aF (λz=>by rw[z,hf] at this;cases this)).trans this⟩
noncomputable def adA(K:Frag):Sp:=λvs H Q _=>∃(ca ba:Addr) (s:Int) (rc:List Int) (eL:List Addr) (bz:List (Int×Int)) (ms:List (Nat×(Int×Int)×(Int×Int))),vs = [.ref ca,.int s,.ref ba]/\H ca=some (.lst (rc.map V.int))/\Zn H ba eL bz/\rc.length<64/\0<=s/\(∀c∈rc,s<=c/\c<=60)/\
 jq rc s (cE rc s) bz (cH bz 0 (cE rc s)) ms/\∀l ts H',ao H H'->H l=none->Zn H' l ts (gG (cE rc s) ms)->Q (.ref l) H'
noncomputable def lH(fs:List (Str×V)):Bool:=(fs.lookup ("ring_cells" : Str)).isNone && ((fs.lookup ("inward" : Str)).isSome || (fs.lookup ("turn" : Str)).isSome)
noncomputable def kj(xs:List V):Prop:=∀i j,xs≠[.bl i,.bl j]
theorem kj.refs{ts:List Addr}:kj (ts.map V.ref):=λi j e=>by
 cases ts with
 | nil=>cases e
 | cons t ts=>cases e
theorem kj.ints{ns:List Int}:kj (ns.map V.int):=λi j e=>by
 cases ns with
 | nil=>cases e
 | cons t ts=>cases e
noncomputable def qX(o:HO):Prop:=(∀ps,o≠.eV ps)/\(∀C dx fs,o = .ins C dx fs->lH fs=false)/\∀xs,o = .lst xs->kj xs
theorem qX.of{o:HO}(h1:∀ps,o≠.eV ps)(h2:∀C dx fs,o≠.ins C dx fs)(h3:∀xs,o≠.lst xs):qX o:=⟨h1,λ_ _ _ e=>absurd e (h2 _ _ _),λ_ e=>absurd e (h3 _)⟩
theorem qX.lst{xs:List V}(h:kj xs):qX (.lst xs):=⟨(λ_ z=>nomatch z),(λ_ _ _ z=>nomatch z),λ_ e=>by cases e;exact h⟩
theorem qX.ins{C dx:Addr}{fs:List (Str×V)}(h:lH fs=false):qX (.ins C dx fs):=⟨(λ_ z=>nomatch z),(λ_ _ _ e=>by cases e;exact h),λ_ z=>nomatch z⟩
theorem adB:lH [] = false:=rfl
theorem adC{q:Ak}{m b:Addr}:lH (mC q m b)=false:=by simp[lH,mC,lookup_cons,pe]
theorem adD{n:Int}{ap l:Addr}:lH (vU n ap l)=false:=by simp[lH,vU,lookup_cons,pe]
noncomputable def dF(H H':Hp):Prop:=∀b o,H b=some o->qX o->H' b=some o
theorem cu.s_{P:Addr}{pos:Pos}{qual:Str}{H H':Hp}(t:cu P pos qual H)(k:SameBut P H H'):dF H H':=λ_ _ e n=>k _ _ e (t.ne e n.1)
theorem dF.of{H H':Hp}(s:ao H H'):dF H H':=λ_ _ e _=>s _ _ e
theorem dF.trans{H H1 H2:Hp}(s:dF H H1)(t:dF H1 H2):dF H H2:=λ_ _ e n=>t _ _ (s _ _ e n) n
theorem dF.tup{H H':Hp}(k:dF H H'){a:Addr}{xs:List V}(e:H a=some (.tup xs)):H' a=some (.tup xs):=k _ _ e (.of (λ_ z=>nomatch z) (λ_ _ _ z=>nomatch z) λ_ z=>nomatch z)
theorem dF.lst{H H':Hp}(k:dF H H'){a:Addr}{xs:List V}(e:H a=some (.lst xs))(h:kj xs:=by first | exact kj.refs | exact kj.ints | (intro i j z;cases z)):H' a=some (.lst xs):=k _ _ e (.lst h)
theorem dF.ins{H H':Hp}(k:dF H H'){a C dx:Addr}{fs:List (Str×V)}(e:H a=some (.ins C dx fs))(h:lH fs=false:=by exact adB):H' a=some (.ins C dx fs):=k _ _ e (.ins h)
theorem dF.seq{K:Frag}{H H':Hp}(k:dF H H'){a:Addr}{xs:List V}(h:aE K H a xs)(hb:kj xs:=by first | exact kj.ints | exact kj.refs):aE K H' a xs:=by
 rcases h with(h | ⟨o,h⟩) | h
 ·exact .inl (.inl (k _ _ h (.lst hb)))
 ·exact .inl (.inr ⟨o,k _ _ h (.of (λ_ z=>nomatch z) (λ_ _ _ z=>nomatch z) λ_ z=>nomatch z)⟩)
 ·exact .inr h
theorem Zn.kt{H H':Hp}{l:Addr}{ts:List Addr}{z:List (Int×Int)}(h:Zn H l ts z)(k:dF H H'):Zn H' l ts z:=⟨k.lst h.l,h.n,λi t p e1 e2=>k.tup (h.t i t p e1 e2)⟩
section
variable{K:Frag}{C CA CD:Addr}{H H':Hp}
theorem ia.kt{p:Addr}{q:Ak}{m b dx:Addr}(h:ia K C H p q m b dx)(k:dF H H'):ia K C H' p q m b dx:=⟨k.ins h.o adC,k.tup h.ms,k.tup h.bh⟩
theorem fO.kt{p:Addr}{d:Dr}{dx ap l:Addr}{ts:List Addr}{m b aR:Addr}(h:fO K CA CD H p d dx ap l ts m b aR)(k:dF H H'):fO K CA CD H' p d dx ap l ts m b aR:=⟨k.ins h.o adD,h.a.kt k,h.c.kt k⟩
theorem jS.kt{l:Addr}{ps:List Addr}{ds:List Dr}(h:jS K CA CD H l ps ds)(k:dF H H'):jS K CA CD H' l ps ds :=
 ⟨k.lst h.l,h.n,λi p d e1 e2=>let ⟨dx,ap,l,ts,m,b,aR,a⟩:=h.t i p d e1 e2;⟨dx,ap,l,ts,m,b,aR,a.kt k⟩⟩
theorem jt.kt{t:Addr}{q:Ak}{m b:Addr}(h:jt H t q m b)(k:dF H H'):jt H' t q m b:=⟨k.tup h.o,k.tup h.ms,k.tup h.bh⟩
theorem fW.kt{D t:Addr}{p:Dr}{tk d m b dx ap l:Addr}{ts:List Addr}{m' b' aR:Addr}(h:fW K CA CD H D t p tk d m b dx ap l ts m' b' aR)(k:dF H H'):fW K CA CD H' D t p tk d m b dx ap l ts m' b' aR:=⟨k.tup h.o,h.k.kt k,h.d.kt k,h.ne⟩
theorem fW.new{D D' t:Addr}{p:Dr}{tk d m b dx ap l:Addr}{ts:List Addr}{m' b' aR:Addr}(h:fW K CA CD H D t p tk d m b dx ap l ts m' b' aR)(n:H D' = none):fW K CA CD H D' t p tk d m b dx ap l ts m' b' aR:=⟨h.o,h.k,h.d,λz=>by have:=h.d.c.l;rw[z,n] at this;cases this⟩
theorem dm.kt{D D':Addr}{ts:List Addr}{ps:List Dr}(h:dm K CA CD H D D' ts ps)(k:dF H H'):dm K CA CD H' D D' ts ps :=
 ⟨k.lst h.l,h.n,λi t p e1 e2=>let ⟨tk,d,m,b,dx,ap,l,ts,m',b',aR,a⟩:=h.t i t p e1 e2;⟨tk,d,m,b,dx,ap,l,ts,m',b',aR,a.kt k⟩⟩
theorem eK.kt{p:Addr}{P:Pl}{fp:List Addr}(h:eK K C H p P fp)(k:dF H H'):eK K C H' p P fp:=by
 obtain⟨dx,a1,a2,a3,a4,ts,fs,e,h⟩:=h;exact⟨dx,a1,a2,a3,a4,ts,fs,e,{ h with o:=k.ins h.o (by simp[lH,h.f1]),rc:=k.lst h.rc,sw:=k.lst h.sw,nc:=h.nc.kt k,cn:=k _ _ h.cn (.of (λ_ z=>nomatch z) (λ_ _ _ z=>nomatch z) λ_ z=>nomatch z)}⟩
end
noncomputable def adE(K:Frag)(cs:List Addr)(P:Addr)(pos:Pos)(qual:Str):Sp:=λvs H Q _=>∃(sc:Addr) (ns:List Int),vs = [.ref sc]/\aE K H sc (ns.map V.int)/\ns.length<=63/\cu P pos qual H/\
 ∀t C p wt z aP sk sw ca sa na eE nc fp H',SameBut P H H'->H' t=some (.tup [.ref p,.ref wt])->C∈cs->eK K C H' p (qR z aP sk sw nc) fp->QT z aP sk sw->QX (counts z) nc->qW H' wt (counts z) aP sk sw ca sa na eE nc->Q (.ref t) H'
structure iQ(K:Frag)(CA CD:Addr)(H:Hp)(as:List Addr)(bs:List Dr):Prop where
 n:as.length=bs.length
 t:∀(i:Nat) (a:Addr) (d:Dr),as[i]? = some a->bs[i]? = some d->∃dx ap l ts m b aR,fO K CA CD H a d dx ap l ts m b aR
section
variable{K:Frag}{CA CD:Addr}{H:Hp}{as:List Addr}{bs:List Dr}
theorem iQ.nil:iQ K CA CD H [] []:=⟨rfl,λi a d e=>by simp at e⟩
theorem iQ.snoc(h:iQ K CA CD H as bs){a:Addr}{d:Dr}(hd:∃dx ap l ts m b aR,fO K CA CD H a d dx ap l ts m b aR):iQ K CA CD H (as++[a]) (bs++[d]):=by
 refine⟨by simp[h.n],λi a' d' e1 e2=>?_⟩
 have hn:=h.n;by_cases hi:i<as.length
 ·rw[getElem?_append_left hi] at e1;rw[getElem?_append_left ∅] at e2
  exact h.t i a' d' e1 e2
 ·rw[getElem?_append_right ∅] at e1
  rw[getElem?_append_right ∅] at e2
  have dD:i - as.length=0:=by
   have:=(List.getElem?_eq_some_iff.mp e1).1;simp at this;lia
  rw[dD] at e1;rw[← hn,dD] at e2;simp at e1 e2;subst e1 e2;exact hd
end
theorem HS{H:Hp}{x dx C:Addr}(nx:H x=none)(gX:H dx=none)(ne:dx≠x):ao H (upd (upd H dx (.own x)) x (.ins C dx [])):=by
 have cU:upd H dx (.own x) x=none:=by rw[aF (Ne.symm ne)];exact nx
 exact(ao.put gX).trans (ao.put cU)
structure dM(K:Frag)(CA CD:Addr)(H:Hp)(D:Addr)(as:List Addr)(bs:List Dr):Prop where
 n:as.length=bs.length
 t:∀(i:Nat) (t:Addr) (p:Dr),as[i]? = some t->bs[i]? = some p->∃tk d m b dx ap l ts m' b' aR,fW K CA CD H D t p tk d m b dx ap l ts m' b' aR
section
variable{K:Frag}{CA CD:Addr}{H H':Hp}{D:Addr}{as:List Addr}{bs:List Dr}
theorem dM.nil:dM K CA CD H D [] []:=⟨rfl,λi a d e=>by simp at e⟩
theorem dM.snoc(h:dM K CA CD H D as bs){t:Addr}{p:Dr}(hd:∃tk d m b dx ap l ts m' b' aR,fW K CA CD H D t p tk d m b dx ap l ts m' b' aR):dM K CA CD H D (as++[t]) (bs++[p]):=by
 refine⟨by simp[h.n],λi a' d' e1 e2=>?_⟩
 have hn:=h.n;by_cases hi:i<as.length
 ·rw[getElem?_append_left hi] at e1;rw[getElem?_append_left ∅] at e2
  exact h.t i a' d' e1 e2
 ·rw[getElem?_append_right ∅] at e1
  rw[getElem?_append_right ∅] at e2
  have dD:i - as.length=0:=by
   have:=(List.getElem?_eq_some_iff.mp e1).1;simp at this;lia
  rw[dD] at e1;rw[← hn,dD] at e2;simp at e1 e2;subst e1 e2;exact hd
theorem dM.pos(h:dM K CA CD H D as bs)(s:ao H H')(hl:H' D=some (.lst (as.map V.ref))):dm K CA CD H' D D as bs :=
 ⟨hl,h.n,λi t p e1 e2=>let ⟨tk,d,m,b,dx,ap,l,ts,m',b',aR,a⟩:=h.t i t p e1 e2;⟨tk,d,m,b,dx,ap,l,ts,m',b',aR,a.same s⟩⟩
end
noncomputable def jU(n:Int)(ps:List Dr):List Dr:=ps.filter λp => !decide (p.n=n)
theorem adF{n:Int}{ps:List Dr}{i:Nat}(hi:i<ps.length):jU n (ps.take (i+1))=if ps[i].n=n then jU n (ps.take i) else jU n (ps.take i)++[ps[i]]:=by
 unfold jU;rw[take_succ_get (getElem?_eq_getElem hi),filter_append];split
 ·rw[filter_cons,if_neg (by simpa),filter_nil,append_nil]
 ·rw[filter_cons,if_pos (by simpa),filter_nil]
theorem Ru(n:Int)(ps:List Dr):(jU n ps).length<=ps.length:=length_filter_le _ _
theorem Rv{n:Int}:∀ {ps:List Dr},ps.Pairwise (λa b=>a.n<b.n)->(∃p∈ps,p.n=n)->(jU n ps).length+1=ps.length
 | [],_,⟨_,h,_⟩=>nomatch h
 | q::ps,up,⟨p,hp,e⟩=>by
  obtain⟨u1,u2⟩:=List.pairwise_cons.mp up;unfold jU;rw[filter_cons];by_cases hq:q.n=n
  ·rw[if_neg (by simpa),length_cons]
   have:ps.filter (λp => !decide (p.n=n))=ps:=List.filter_eq_self.mpr λx hx=>by
    have:=u1 x hx;simp;lia
   rw[this]
  ·rw[if_pos (by simpa),length_cons,length_cons]
   have HU:p∈ps:=by
    rcases mem_cons.mp hp with rfl | h
    ·exact absurd e hq
    ·exact h
   have:=Rv u2 ⟨p,HU,e⟩;unfold jU at this;lia
noncomputable def sZ(d:Dr):Int×Int:=d.c.getD 0 (0,0)
end _L
namespace _L
open PySem PySem.Spec PyProof.Rows PySem.W
section
variable{prog:Program}{w:World}{A:Around}{E:Value->Shared->Prop}{s:Shared}{h₀:Heap}{L a kS:Addr}{m:Str->Option Value}{news:List (Addr×Obj)}{vs ks:List Value}
theorem adG{e e1:Nat}{P:PySem.Fin->Shared->Prop}(hl:ks.length=vs.length)(h1:vs.length<2)(h:KatFin h₀ L m kS a ks e e1 vs (λs3=>P (.done (.ret .none)) s3) s) :
  wpAny (model prog w) A (ksk_end a false vs.toArray e1 (.ref kS) (toArray ks)) P E s:=by
 have l6:vs.toArray.size<2:=by rw[size_toArray];exact h1
 unfold ksk_end
 try dsimp only
 rw[if_pos l6,if_pos l6];refine wpAny_bind (wpAny_pure ?_);refine wpAny_bind (wpAny_pure ?_);refine kat_tail (b:=false) (out:=vs) ?_ ∅ ∅ rfl h
 apply toList_inj.mp
 show (((toArray ks).zip vs.toArray).map (·.2)).toList=vs;rw[Array.toList_map,ksk_zip,List.map_snd_zip (by simp;lia)]
theorem adH{f:Value}{e1:Nat}{Fin:List Value->Nat->Shared->Prop}{P:PySem.Fin->Shared->Prop}(hk:s.heap.get? kS=some (seqObj "list" #[] 0))(fq:vs.length<64)(h:KatKeys prog w A h₀ L m kS f Fin vs [] 0 s)
  (he:∀ks e s',ks.length=vs.length->Fin ks e s'->wpAny (model prog w) A (ksk_end a false vs.toArray e1 (.ref kS) (toArray ks)) P E s'):wpAny (model prog w) A (ksk_rest a f false vs.toArray e1 (.ref kS)) P E s:=by
 unfold ksk_rest;refine wpAny_bind (wpAny_rule ?_)
 first
  | rw[List.forIn_toArray]
  | (rw[← forIn_toList];simp only[List.toList_toArray])
  | rw[← forIn_toList]
 refine wpAny_bind (wpAny_mono (kat_fold fq (λx ks e s' C hz hx=>?_) vs [] 0 s (by simp) hk h) (λ_ s' hd=>?_) λ_ _ x=>x)
 ·refine wpAny_bind (wpAny_attempt (wpAny_mono hx (λk nG hk=>?_) λ_ _ hF=>hF.elim));obtain⟨aiP,g,F',N',U,c⟩:=hk;obtain⟨pre,post,e0,hg,x1,x2⟩:=U.split;rw[e0] at N';have nk:=N' (kS,seqObj "list" (toArray ks) e) (mem_append_right _ (.head _));have s1:=Heap.SameBut.update nG.heap kS (Obj.mapSeq (·.push k));have ea:(toArray ks).push k=toArray (ks++[k]):=by simp
  obtain⟨c2,o7⟩:∃c2,(nG.heap.update kS (Obj.mapSeq (·.push k))).get? kS=some (seqObj "list" (toArray (ks++[k])) c2):=⟨_,by rw[← ea];exact get?_update_seq nk.1 (·.push k)⟩
  try dsimp only
  refine wpAny_bind (listUpdate_at nk.1 rfl ?_ (by rw[size_toArray,sizeLine_eq];lia) (Nat.le_trans (Nat.le_of_eq (Array.size_push ..)) (by rw[size_toArray,sizeLine_eq];lia)))
  exact wpAny_pure ⟨rfl,k,c2,o7,c _ c2 (kas_fr F' s1 nk.2.1 nk.2.2) (by rw[hg];exact news_set N' x1 x2 s1 o7)⟩
 ·obtain⟨ks,e,fU,hl,fin⟩:=hd
  try dsimp only
  refine wpAny_bind (listItems_at fU rfl ?_);exact he ks e s' hl fin
theorem adI{f:Value}{n:Nat}{P:PySem.Fin->Shared->Prop}(F:Fr h₀ L s.heap m)(N:News h₀ L s.heap news)(ho:s.heap.get? a=some (seqObj "list" vs.toArray n))(Rw:a≠L)(Rx:h₀.get? a=none)(hna:∀p∈news,p.1≠a)(fq:vs.length<64)
  (h:∀kS e1 h',Fr h₀ L h' m->News h₀ L h' ((kS,seqObj "list" #[] 0)::(a,seqObj "list" #[] e1)::news)->a<kS->(∀q∈news,q.1<kS)->
   ∃Fin:List Value->Nat->Shared->Prop,KatKeys prog w A h₀ L m kS f Fin vs [] 0 { s with heap:=h' }/\∀ks e s',ks.length=vs.length->Fin ks e s'->wpAny (model prog w) A (ksk_end a false vs.toArray e1 (.ref kS) (toArray ks)) P E s') :
  wpAny (model prog w) A (ksk_tree a f false) P E s:=by
 have ha:a<s.heap.objs.size:=lt_size ho;have s1:=Heap.SameBut.update s.heap a (Obj.mapSeq λ_=>(#[]:Array Value));obtain⟨e1,lE⟩:∃e1,(s.heap.update a (Obj.mapSeq λ_=>(#[]:Array Value))).get? a=some (seqObj "list" #[] e1):=⟨_,get?_update_seq ho λ_ => #[]⟩;have F1:=kas_fr F s1 Rw Rx;have N1:=kas_news N s1 hna;have Ry:((s.heap.update a (Obj.mapSeq λ_=>(#[]:Array Value))).push (seqObj "tuple" vs.toArray 0)).objs.size=s.heap.objs.size+1:=by rw[size_push',Heap.size_update]
 have Rz:L<((s.heap.update a (Obj.mapSeq λ_=>(#[]:Array Value))).push (seqObj "tuple" vs.toArray 0)).objs.size:=(F1.push _).ns.lt;unfold ksk_tree;refine wpAny_bind (listItems_at ho rfl ?_);refine wpAny_bind (listUpdate_at ho rfl ?_ (by rw[size_toArray,sizeLine_eq];lia) (zero_le _))
 refine wpAny_bind (seqEpoch_at lE rfl ?_);refine wpAny_bind (wpAny_newTuple ?_ (by show vs.length<=_;rw[sizeLine_eq];lia))
 refine wpAny_bind (wpAny_newList ?_ (zero_le _));refine wpAny_holding ?_;obtain⟨Fin,hkk,hee⟩:=h ((s.heap.update a (Obj.mapSeq λ_=>(#[]:Array Value))).push (seqObj "tuple" vs.toArray 0)).objs.size e1 _ ((F1.push _).push (seqObj "list" #[] 0)) (λp hp=>by
  rcases mem_cons.mp hp with rfl | hp
  ·exact⟨get?_push_size _ rfl,ne_of_gt Rz,get?_none_of_le (Nat.le_trans F.above (Nat.le_of_lt Rz))⟩
  ·rcases mem_cons.mp hp with rfl | hp
   ·exact⟨get?_push_of_some _ (get?_push_of_some _ lE),Rw,Rx⟩
   ·exact⟨get?_push_of_some _ (get?_push_of_some _ (N1 p hp).1),(N1 p hp).2⟩) (by rw[Ry];exact lt_succ_of_lt ha) λq hq=>by rw[Ry];exact lt_succ_of_lt (lt_size (N q hq).1)
 exact adH (s:={ s with heap:=((s.heap.update a (Obj.mapSeq λ_=>(#[]:Array Value))).push (seqObj "tuple" vs.toArray 0)).push (seqObj "list" #[] 0)}) (get?_push_size _ rfl) fq hkk hee
theorem adJ{ks:List Value}{kv:Nat->Int}{n i j:Nat}{C:Bool->Shared->Prop}(hk:∀i,i<n->∃t,ks.getD i Value.none = .int (kv i) t)(hi:i<n)(hj:j<n)(h:C (klt kv i j) s):kas_ask prog w A oneType' ks i j C s:=by
 obtain⟨t1,e1⟩:=hk i hi;obtain⟨t2,e2⟩:=hk j hj;unfold kas_ask;rw[e1,e2];exact kat_lt_int h
theorem ints_of{kv:Nat->Int}:∀ {ks:List Value} (b:Nat),(∀(i:Nat) (hi:i<ks.length),∃t,ks[i] = .int (kv (b+i)) t)->∃ns,IntsAre ks ns
 | [],_,_=>⟨[],.nil⟩
 | k::ks,b,h=>by
  obtain⟨t,e⟩:=h 0 (by simp)
  obtain⟨ns,r⟩:=ints_of (ks:=ks) (b+1) λi hi=>by
   obtain⟨t,e⟩:=h (i+1) (by simpa using hi)
   exact⟨t,by rw[show b+1+i=b+(i+1) by lia];simpa using e⟩
  have e:k = .int (kv (b+0)) t:=by simpa using e
  exact⟨kv (b+0)::ns,by rw[e];exact .cons _ t r⟩
end
section
variable{X:Cx}{pins:List (Addr×Obj)}{σ:St}{H:Hp}{s:Shared}{m:Str->Option Value}{kS f:Addr}{kv:Nat->Int}{k:Nat}{fd:FuncData}{p:Str}{sp:Sp}{xs:List V}{A:Around}
structure Ac(X:Cx)(pins:List (Addr×Obj))(σ:St)(H:Hp)(m:Str->Option Value)(kS:Addr)(kv:Nat->Int)(ks:List Value)(e:Nat)(s:Shared):Prop where
 I:Inv X ((kS,seqObj "list" ks.toArray e)::pins) σ H s
 ns:s.heap.Ns X.env.locals m
 ky:∀(i:Nat) (hi:i<ks.length),∃t,ks[i] = .int (kv i) t
theorem RA(F:bq X.prog X.w X.K X.mg X.base bx k f fd [p] sp)(hr:bZ k A)(hb:Binds X.K fd [p] [])(hA:A.frames=some X.stack)(c_:X.stack=X.env::X.outer)(iN:X.env.frame=some X.env.locals)
  (f_:∀(j:Nat) (v:V),xs[j]? = some v->sp [v] H (λv' H'=>v' = .int (kv j)/\H' = H) E0)
  (lo:X.bG.heap.objs.size<=kS) (nY:kS≠X.env.locals) (vv:∀x c,X.env.cells.lookup x=some c->c≠kS) (vA:∀p∈X.pn++pins,p.1≠kS)
  {Fin:List Value->Nat->Shared->Prop} (vB:∀ks e s,Ac X pins σ H m kS kv ks e s->ks.length=xs.length->Fin ks e s) :
  ∀(r ks:List Value) (e:Nat) (s:Shared),ks.length+r.length=xs.length->(∀(i:Nat) (x:Value),r[i]? = some x->∃v,xs[ks.length+i]? = some v/\RelV v x)->Ac X pins σ H m kS kv ks e s->KatKeys X.prog X.w A X.base X.env.locals m kS (.ref f) Fin r ks e s
 | [],ks,e,s,hl,_,K=>KatKeys.nil (vB ks e s K (by simpa using hl))
 | x::r,ks,e,s,hl,hi,K=>by
  rw[length_cons] at hl;obtain⟨v,hv,rv⟩:=hi 0 x rfl;have hx:=f_ ks.length v (by simpa using hv)
  have env:l7 X.prog X.w X.K X.mg X.base A X.stack s H:=⟨hA,K.I.ok.mod,K.I.bs,Nat.le_trans K.I.ok.eW K.I.sz,K.I.stack,K.I.um,K.I.aG,K.I.bare⟩;refine KatKeys.cons (wpAny_call (codeAny_mono (F.run A X.stack s H ⟨[x],[]⟩ [x] [v] _ E0 hr env (hb s [x] K.I.cI rfl) (.cons rv .nil) hx) λr' s' hq=>?_));cases r' with
  | error e=>exact hq
  | ok fl =>
  cases fl with
  | next=>exact False.elim hq
  | brk=>exact False.elim hq
  | cont=>exact False.elim hq
  | ret u =>
  have un:Un (cA X.stack) [] H H s.heap s'.heap:=by
   obtain⟨_,H1,_,_,un,_,_,_,e1⟩:=hq;rw[e1] at un;exact un
  obtain⟨v',H',J,RB,ev,eH⟩:=K.I.after hq;rw[eH] at J;rw[ev] at RB;obtain⟨tu,rfl⟩:∃t,u = .int (kv ks.length) t:=RB;have cZ:s'.heap.Ns X.env.locals m:=by
   obtain⟨o,es,ep,eo,i7,r'⟩:=K.ns;have mem:X.env.locals∈cA X.stack:=by unfold cA;rw[c_,filterMap_cons,iN];exact mem_cons_self ..
   obtain⟨sl,q⟩:=un.slot _ o eo K.I.free mem (by simp)
   exact⟨_,es,ep,q,i7,r'⟩
  have bk:X.base.get? kS=none:=get?_none_of_le (Nat.le_trans K.I.ok.eW lo);have nZ:=J.pin (kS,seqObj "list" ks.toArray e) (mem_append_right _ (mem_cons_self ..));refine KatBack.intro (news:=(kS,seqObj "list" ks.toArray e)::rest X.base s'.heap X.env.locals kS) (g:=λo=>(kS,o)::rest X.base s'.heap X.env.locals kS) ⟨cZ,J.bk,Nat.le_trans J.ok.eW J.ok.above⟩ (news_at nY bk nZ.1) (.head oN) λh2 c2 F2 N2=>?_;have kept:=oO (d:=kS) J.bk F2 λp hp=>N2 p (mem_cons_of_mem _ hp);have vC:=(N2 _ (mem_cons_self ..)).1;have J1:Inv X pins σ H s':=J.i8 λp hp=>J.pin p (mem_append_right _ (mem_cons_of_mem _ hp));have J2:=J1.chg (tk:=s'.toks) cZ F2.ns nZ.2.1 lo nY vv vA ⟨_,vC⟩ λb o hb hk e=>kept b o hb hk e;have G9:∀v,(seqObj "list" (ks++[Value.int (kv ks.length) tu]).toArray c2).data≠.cell v:=λv z=>by cases z
  refine RA F hr hb hA c_ iN f_ lo nY vv vA vB r (ks++[.int (kv ks.length) tu]) c2 { s' with heap:=h2 } (by simp;lia) (λi x e=>?_) ⟨J2.i8 λp hp=>?_,F2.ns,λi gh=>?_⟩
  ·obtain⟨v,z1,z2⟩:=hi (i+1) x (by simpa using e)
   exact⟨v,by rw[← z1];congr 1;simp;lia,z2⟩
  ·rcases mem_cons.mp hp with q | q
   ·rw[q];exact⟨vC,nZ.2.1,nY,nZ.2.2.2.1,G9⟩
   ·exact J2.pin p (mem_append_right _ q)
  ·by_cases bL:i<ks.length
   ·obtain⟨a',z1⟩:=K.ky i bL;exact⟨a',by rw[List.getElem_append_left bL];exact z1⟩
   ·have e:i=ks.length:=by simp at gh;lia
    subst e;exact⟨tu,by simp⟩
end
section
variable{X:Cx}{pins:List (Addr×Obj)}{σ:St}{H:Hp}{s:Shared}{f:Addr}{kv:Nat->Int}{k:Nat}{fd:FuncData}{p:Str}{sp:Sp}{xs:List V}{l:Addr}
theorem RC:∀ {xs:List V} {us:List Value} {i:Nat} {x:Value},Vals xs us->us[i]? = some x->∃v,xs[i]? = some v/\RelV v x
 | _,_,_,_,.nil,e=>by simp at e
 | _,_,0,_,.cons r h,e=>⟨_,rfl,by simp at e;rw[← e];exact r⟩
 | _,_,_+1,_,.cons r h,e=>by
  obtain⟨v,z1,z2⟩:=RC h (by simpa using e)
  exact⟨v,by simpa using z1,z2⟩
theorem adK{Q:VK}(F:bq X.prog X.w X.K X.mg X.base bx k f fd [p] sp)(hr:bZ k X.A.in1.in1)(hb:Binds X.K fd [p] [])(c_:X.stack=X.env::X.outer)(iN:X.env.frame=some X.env.locals)
  (I:Inv X pins σ H s) (hl:aE X.K H l xs) (fq:xs.length<64) (qL:∀i j,i<xs.length->j<xs.length->kv i=kv j->i=j)
  (f_:∀(j:Nat) (v:V),xs[j]? = some v->sp [v] H (λv' H'=>v' = .int (kv j)/\H' = H) E0)
  (q:∀(D:Addr) (is:List Nat),H D=none->is.Perm (List.range xs.length)->(∀i j,i<j->j<xs.length->kv (is.getD i 0)<kv (is.getD j 0))->Q (.ref D) (upd H D (.lst (is.map λi=>xs.getD i .aW)))) :
  wpAny (model X.prog X.w) X.A (call (.builtin "sorted") [.ref l] [(Str.ofString "key",.ref f)]) (EP X pins σ Q) X.xe s:=by
 obtain⟨vs,rv,pl,_⟩:=I.list hl;have len:vs.length=xs.length:=rv.length.symm;have items:∀(i:Nat) (x:Value),vs[i]? = some x->∃v,xs[i]? = some v/\RelV v x:=λi x e=>by
  exact RC rv e
 refine call_function_entry_kw kind_sorted plain_sorted entry_sorted (ksk_s1 _ _) ?_;unfold Builtin.«sorted»;refine wpAny_bind (m:=checkCount "sorted" 1 1 _) (wpAny_pure ?_);refine wpAny_bind (collect_list pl.isList ?_ (by rw[sizeLine_eq];lia))
 refine wpAny_bind (wpAny_newList ?_ (by rw[sizeLine_eq];lia))
 obtain⟨m,hm,abL⟩:=I.loc;have sz:s.heap.objs.size<((s.heap.push (seqObj "list" #[] 0)).update s.heap.objs.size (Obj.mapSeq (· ++ vs.toArray))).objs.size:=by rw[Heap.size_update,size_push'];exact lt_succ_self _
 have k1:∀b o,s.heap.get? b=some o->((s.heap.push (seqObj "list" #[] 0)).update s.heap.objs.size (Obj.mapSeq (· ++ vs.toArray))).get? b=some o:=λb o e=>by
  have bL:b<s.heap.objs.size:=lt_size e;rw[Heap.get?_update_ne _ _ _ _ (Nat.ne_of_lt bL),Heap.get?_push_ne _ _ _ (Nat.ne_of_lt bL)];exact e
 show wpAny _ _ _ _ _ { s with heap:=((s.heap.push (seqObj "list" #[] 0)).update s.heap.objs.size (Obj.mapSeq (· ++ vs.toArray))).push (seqObj "list" vs.toArray 0),toks:=s.toks };generalize (s.heap.push (seqObj "list" #[] 0)).update s.heap.objs.size (Obj.mapSeq (· ++ vs.toArray))=h1 at sz k1 ⊢;have oD:(h1.push (seqObj "list" vs.toArray 0)).get? h1.objs.size=some (seqObj "list" vs.toArray 0):=get?_push_size _ rfl;have k2:∀b o,s.heap.get? b=some o->(h1.push (seqObj "list" vs.toArray 0)).get? b=some o:=λb o e=>get?_push_of_some _ (k1 b o e);have I1:=I.kept (t':=s.toks) k2;have n8:X.bG.heap.objs.size<=h1.objs.size:=Nat.le_trans I.sz (Nat.le_of_lt sz);have DL:h1.objs.size≠X.env.locals:=ne_of_gt (Nat.lt_trans I.lt sz);have nD:H h1.objs.size=none:=I.aG.fresh (Nat.le_of_lt sz);have old:∀b o,s.heap.get? b=some o->b<h1.objs.size:=λb o e=>Nat.lt_trans (lt_size e) sz;have bD:X.base.get? h1.objs.size=none:=get?_none_of_le (Nat.le_trans I.ok.eW n8);have mG:(h1.push (seqObj "list" vs.toArray 0)).Ns X.env.locals m:=hm.keeps k2;have above:X.base.objs.size<=X.env.locals:=Nat.le_trans I.ok.eW I.ok.above;refine wpAny_bind (wpAny_holding (wpAny_call_entry_kw slot_list_sort ⟨_,oD,rfl⟩ entry_list_sort ?body (ksk_l1 _ _)))
 case body =>
  show wpAny (model X.prog X.w) X.A.in1.in1 (Builtin.«list.sort» ⟨[.ref h1.objs.size],[(Str.ofString "key",.ref f)]⟩) _ _ _;rw[ksk_t1];refine adI (s:={ s with heap:=h1.push (seqObj "list" vs.toArray 0),toks:=s.toks }) (h₀:=X.base) (L:=X.env.locals) (m:=m) (news:=rest X.base (h1.push (seqObj "list" vs.toArray 0)) X.env.locals h1.objs.size) ⟨mG,I1.bk,above⟩ (λp hp=>yg p (mem_filter.mp hp).1) oD DL bD oN ∅ λkS e1 h' F' N' l0 l1=>?_
  have Hf:=oO (d:=h1.objs.size) I1.bk F' λp hp=>N' p (mem_cons_of_mem _ (mem_cons_of_mem _ hp));have Hg:=N' _ (mem_cons_self ..);have vF:=N' _ (mem_cons_of_mem _ (mem_cons_self ..));have qM:X.bG.heap.objs.size<=kS:=Nat.le_trans n8 (Nat.le_of_lt l0);have n_:∀x c,X.env.cells.lookup x=some c->c<h1.objs.size:=λx c e=>by
   obtain⟨v,o,z,_⟩:=I.cell x c e;exact old _ _ z
  have mH:∀p∈X.pn++pins,p.1<h1.objs.size:=λp hp=>old _ _ (I.pin p hp).1;have vG:X.env.locals<h1.objs.size:=Nat.lt_trans I.lt sz;have I2:=I1.chg (tk:=s.toks) mG F'.ns nD n8 DL (λx c e=>Nat.ne_of_lt (n_ x c e)) (λp hp=>Nat.ne_of_lt (mH p hp)) ⟨_,vF.1⟩ Hf;have nS:H kS=none:=I.aG.fresh (Nat.le_of_lt (Nat.lt_trans sz l0));have vH:∀b,s.heap.objs.size<=b->b∉X.fs:=λb hb=>I.rM hb;have vI:∀(a:Array Value) (e:Nat) v,(seqObj "list" a e).data≠.cell v:=λa e v z=>by cases z
  have K0:Ac X ((h1.objs.size,seqObj "list" #[] e1)::pins) σ H m kS kv [] 0 { s with heap:=h',toks:=s.toks }:=by
   refine⟨I2.i8 λp hp=>?_,F'.ns,λi hi=>absurd hi (by simp)⟩
   rcases mem_cons.mp hp with z | hp
   ·rw[z];exact⟨Hg.1,nS,ne_of_gt (Nat.lt_trans vG l0),vH _ (Nat.le_of_lt (Nat.lt_trans sz l0)),vI _ _⟩
   ·rcases mem_cons.mp hp with z | hp
    ·rw[z];exact⟨vF.1,nD,DL,vH _ (Nat.le_of_lt sz),vI _ _⟩
    ·exact I2.pin p (mem_append_right _ hp)
  have Hh:∀p∈X.pn++((h1.objs.size,seqObj "list" #[] e1)::pins),p.1≠kS:=λp hp=>by
   rcases mem_append.mp hp with hp | hp
   ·exact Nat.ne_of_lt (Nat.lt_trans (mH p (mem_append_left _ hp)) l0)
   ·rcases mem_cons.mp hp with z | hp
    ·rw[z];exact Nat.ne_of_lt l0
    ·exact Nat.ne_of_lt (Nat.lt_trans (mH p (mem_append_right _ hp)) l0)
  have SL:kS≠X.env.locals:=ne_of_gt (Nat.lt_trans vG l0);refine⟨Ac X ((h1.objs.size,seqObj "list" #[] e1)::pins) σ H m kS kv,RA F hr hb I.ok.frames c_ iN f_ qM SL
   (λx c e=>Nat.ne_of_lt (Nat.lt_trans (n_ x c e) l0)) Hh (λks e s3 K hl=>K) vs [] 0 _ (by simpa using len) (λi x e=>by simpa using items i x e) K0,λks e s3 RD K=>?_⟩
  have fin:∀is:List Nat,is.Perm (List.range xs.length)->(∀i j,i<j->j<xs.length->kv (is.getD i 0)<kv (is.getD j 0))->KatFin X.base X.env.locals m kS h1.objs.size ks e e1 (is.map λi=>vs.getD i Value.none) (λs4=>EP X pins σ Q (.ref h1.objs.size) s4) s3:=by
   intro is jo asc;have bS:X.base.get? kS=none:=get?_none_of_le (Nat.le_trans I.ok.eW qM);have pk:=K.I.pin (kS,seqObj "list" ks.toArray e) (mem_append_right _ (mem_cons_self ..));have pd:=K.I.pin (h1.objs.size,seqObj "list" #[] e1) (mem_append_right _ (mem_cons_of_mem _ (mem_cons_self ..)));refine KatFin.intro (news:=(kS,seqObj "list" ks.toArray e)::rest X.base s3.heap X.env.locals kS) (g:=λo=>(kS,o)::rest X.base s3.heap X.env.locals kS) ⟨K.ns,K.I.bk,above⟩ (news_at SL bS pk.1) (.head oN) λh4 c4 F4 N4=>?_;have vJ:=oO (d:=kS) K.I.bk F4 λp hp=>N4 p (mem_cons_of_mem _ hp);have Hi:=vJ _ _ DL (Nat.ne_of_lt l0) pd.1;refine KasFin.intro (news:=(h1.objs.size,seqObj "list" #[] e1)::rest X.base h4 X.env.locals h1.objs.size) (g:=λo=>(h1.objs.size,o)::rest X.base h4 X.env.locals h1.objs.size) F4 (news_at DL bD Hi) (.head oN) λh5 c5 F5 N5=>?_;have Hj:∀b o,X.base.get? b=some o->h4.get? b=some o:=F4.keep;have Hl:=oO (d:=h1.objs.size) Hj F5 λp hp=>N5 p (mem_cons_of_mem _ hp);have Ho:=(N5 _ (mem_cons_self ..)).1;have zK:∀i∈is,i<xs.length:=λi hi=>mem_range.mp (jo.mem_iff.mp hi);have zL:is.length=xs.length:=by simpa using jo.length_eq
   have vals:∀l:List Nat,(∀i∈l,i<xs.length)->Vals (l.map λi=>xs.getD i V.aW) (l.map λi=>vs.getD i Value.none):=by
    intro l
    induction l with
    | nil=>intro _;exact .nil
    | cons i l ih =>
     intro kR;have hx:i<xs.length:=kR i (mem_cons_self ..);have hi:i<vs.length:=by rw[len];exact hx
     obtain⟨v5,e5,r5⟩:=items i vs[i] (getElem?_eq_getElem hi);refine .cons ?_ (ih λk hk=>kR k (mem_cons_of_mem _ hk))
     show RelV (xs.getD i V.aW) (vs.getD i Value.none);rw[getD_eq_getElem?_getD,getD_eq_getElem?_getD,e5,getElem?_eq_getElem hi];exact r5
   refine⟨.ref h1.objs.size,_,(K.I.i8 (yj:=pins) λp hp=>K.I.pin p (mem_append_right _ (mem_cons_of_mem _ (mem_cons_of_mem _ hp)))).vt (tk:=s3.toks) (xs:=is.map λi=>xs.getD i V.aW) K.ns F5.ns pk.2.1 pd.2.1 (λb fu=>?_)
    (λb o hL hS hD e=>Hl b o hL hD (vJ b o hL hS e)) ⟨by rw[length_map,zL,sizeLine_eq];lia,_,c5,vals is zK,Ho⟩,rfl,q _ is nD jo asc⟩
   rcases fu with z | z
   ·rw[z];exact⟨qM,SL,λx c e=>Nat.ne_of_lt (Nat.lt_trans (n_ x c e) l0),λp hp=>Nat.ne_of_lt (Nat.lt_trans (mH p hp) l0)⟩
   ·rw[z];exact⟨n8,DL,λx c e=>Nat.ne_of_lt (n_ x c e),λp hp=>Nat.ne_of_lt (mH p hp)⟩
  by_cases h2:vs.length<2
  ·have fr:=fin (List.range xs.length) (List.Perm.refl _) λi j jh hj=>by lia
   rw[show (List.range xs.length).map (λi=>vs.getD i Value.none)=vs by
    rw[← len];apply List.ext_getElem (by simp)
    intro i a b;simp at a ⊢;rw[getElem?_eq_getElem a];rfl] at fr
   exact adG RD h2 (fr.mono λs4 z=>⟨_,rfl,wpAny_pure ⟨_,rfl,z⟩⟩)
  ·obtain⟨ns,ji⟩:=ints_of (kv:=kv) (ks:=ks) 0 λi hi=>by
    rw[zero_add];exact K.ky i hi
   refine kat_end (h₀:=X.base) (L:=X.env.locals) (m:=m) (e:=e) RD ∅ ∅ ?_
   rw[ksk_kind (keys:=ks.toArray) (by simpa using ji) (by simp;lia)]
   refine wpAny_pure ?_
   show (kas_sort vs.length).kasWp (kas_ask X.prog X.w X.A.in1.in1 oneType' ks) _ s3;obtain⟨qq,e,hp,ha⟩:=P9 (key:=kv) (n:=vs.length) ∅ (λi j a b=>qL i j ∅ ∅)
   refine G0 (lt:=klt kv) (λi j C a b c=>adJ (n:=vs.length) (λi hi=>?_) a b c) _ _ (Qe ∅) ?_
   ·obtain⟨t,z⟩:=K.ky i ∅
    exact⟨t,by rw[getD_eq_getElem?_getD,getElem?_eq_getElem ∅,← z];rfl⟩
   ·rw[e];have jo:qq.toList.Perm (List.range xs.length):=by
     have:=hp.toList;rw[len] at this;simpa using this
    have zL:qq.toList.length=xs.length:=by simpa using jo.length_eq
    have gd:∀i,i<xs.length->qq.getD i 0=qq.toList.getD i 0:=λi hi=>by
     rw[getD_eq_getD_getElem?,getD_eq_getElem?_getD,getElem?_toList]
    exact(fin qq.toList jo λi j h1 h2=>by
     have:=ha i j h1 ∅
     unfold kk at this;rw[gd i ∅,gd j h2] at this
     exact this).mono λs4 z=>⟨_,rfl,wpAny_pure ⟨_,rfl,z⟩⟩
noncomputable def HV(sp:Sp)(tl:TE):TE:=λσ H Q=>tl σ H λx H1=>∃(l:Addr) (xs:List V) (kv:Nat->Int),x = .ref l/\H1 l=some (.lst xs)/\xs.length<64/\(∀i j,i<xs.length->j<xs.length->kv i=kv j->i=j)/\
 (∀(j:Nat) (v:V),xs[j]? = some v->sp [v] H1 (λv' H'=>v' = .int (kv j)/\H' = H1) E0)/\
 ∀(D:Addr) (is:List Nat),H1 D=none->is.Perm (List.range xs.length)->(∀i j,i<j->j<xs.length->kv (is.getD i 0)<kv (is.getD j 0))->Q (.ref D) (upd H1 D (.lst (is.map λi=>xs.getD i .aW)))
theorem adL{x:Str}{e:Expr}{tl:TE}{p1 p2 p4 kp:Pos}(F:bq X.prog X.w X.K X.mg X.base bx k f fd [p] sp)(hr:bZ k X.A.in1.in1)(hb:Binds X.K fd [p] [])(vK:Gl X "sorted")(vL:X.mg "sorted" = none)(hg:Gl X x)(hm:X.mg x=some (.ref f))(c_:X.stack=X.env::X.outer)(iN:X.env.frame=some X.env.locals)(hl:PE X e tl)
  (hs:starEach [e] X.env = [(false,eval e X.env)]:=by rfl) (gc:(x == ("__debug__" : Str))=false:=by decide) :
  PE X (.Call (.Name "sorted" p1) [e] [⟨some "key",.Name x p2,kp⟩] p4) (HV sp tl):=by
 intro pins s σ H Q I h;refine wpAny_Call_Name_kw (kJ I vK vL boot_sorted (callWith_kw (he:=by rw[hs];rfl) (hplain:=by rw[hs];rfl) ?_))
 rw[hs];refine spliced_cons (aY (hl pins s σ H _ I h) λu s1 ⟨v,H1,I1,r1,q1⟩=>?_);obtain⟨l,xs,kv,e,z_,fq,qL,f_,q⟩:=q1;subst e;cases r1;refine spliced_nil ?_;refine kws_cons (nC I1 hg hm ?_ gc);refine kws_nil ?_;exact adK F hr hb c_ iN I1 (aE.of z_) fq qL f_ q
end
end _L
namespace _L
open PySem PySem.Spec PyProof.Rows
section
variable{X:Cx}
end
noncomputable def eS(n:Int):Key:=.inl n
theorem RE(kvs:List (Key×V))(k:Key)(v:V):(putK kvs k v).length<=kvs.length+1:=by
 unfold putK;split
 ·rw[length_map];lia
 ·rw[length_append];exact Nat.le_refl _
noncomputable def liF(c i:Bool)(B:Addr):List (Str×V):=[("calm",.bl c),("inward",.bl i),("batch",.ref B)]
structure Lt where
 c:Bool
 i:Bool
 b:List Int
structure RG(C:Addr)(H:Hp)(x:Addr)(st:Lt)(dx B:Addr):Prop where
 o:H x=some (.ins C dx (liF st.c st.i B))
 d:∃kvs:List (Key×V),H B=some (.dK kvs)/\kvs.length<=1000/\∀n:Int,(cG kvs (eS n)).isSome=decide (n∈st.b)
section
variable{C:Addr}{H H':Hp}{x dx B:Addr}{st:Lt}
end
noncomputable def adM:Sp:=λvs H Q _=>∃(t:Addr) (n:Int) (a b:V),vs = [.ref t]/\H t=some (.tup [.int n,a,b])/\Q (.int n) H
noncomputable def pG(ps:List Dr)(j:Nat):Int:=match ps[j]? with
 | none=>0
 | some p=>p.n
theorem v_{ps:List Dr}{j:Nat}{p:Dr}(h:ps[j]? = some p):pG ps j=p.n:=by unfold pG;rw[h]
theorem adN{ps:List Dr}(nd:(ps.map (·.n)).Nodup)(i j:Nat)(hi:i<ps.length)(hj:j<ps.length)(e:pG ps i=pG ps j):i=j:=by
 rw[v_ (getElem?_eq_getElem hi),v_ (getElem?_eq_getElem hj)] at e;have:=(getElem_inj nd (i:=i) (j:=j) (h₀:=by simpa using hi) (h₁:=by simpa using hj)).mp (by simpa using e)
 exact this
noncomputable def d0:Dr:=⟨0,⟨"",0,0,[],0,0,none,[],false⟩,[]⟩
theorem adO{ts:List Addr}{ps:List Dr}(hn:ts.length=ps.length){is:List Nat}(hp:is.Perm (List.range ps.length))(asc:∀i j,i<j->j<ps.length->pG ps (is.getD i 0)<pG ps (is.getD j 0)) :
  ∃(eT:List Addr) (eZ:List Dr),is.map (λi=>(ts.map V.ref).getD i .aW)=eT.map V.ref/\eT.length=eZ.length/\eZ.Perm ps/\eZ.Pairwise (λa b=>a.n<b.n)/\∀(i:Nat) (t:Addr) (p:Dr),eT[i]? = some t->eZ[i]? = some p->∃j:Nat,ts[j]? = some t/\ps[j]? = some p:=by
 have hl:∀i∈is,i<ps.length:=λi hi=>mem_range.mp (hp.mem_iff.mp hi);have il:is.length=ps.length:=by simpa using hp.length_eq
 have gp:∀i,i<ps.length->ps[i]? = some (ps.getD i d0):=λi hi=>by
  rw[getD_eq_getElem?_getD,getElem?_eq_getElem hi];rfl
 have gt:∀i,i<ps.length->ts[i]? = some (ts.getD i 0):=λi hi=>by
  rw[getD_eq_getElem?_getD,getElem?_eq_getElem ∅];rfl
 refine⟨is.map λi=>ts.getD i 0,is.map λi=>ps.getD i d0,?_,by simp,?_,?_,?_⟩
 ·rw[map_map];refine List.map_congr_left λi hi=>?_;have:=gt i (hl i hi);rw[getD_eq_getElem?_getD,getElem?_map,this];rfl
 ·have:=hp.map λi=>ps.getD i d0;refine this.trans (.of_eq ?_);apply List.ext_getElem (by simp)
  intro i a b;simp at a ⊢;rw[getElem?_eq_getElem a];rfl
 ·rw[pairwise_iff_getElem];intro i j hi hj jh;simp only[length_map] at hi hj;have:=asc i j jh ∅
  have ei:is.getD i 0=is[i]:=by rw[getD_eq_getElem?_getD,getElem?_eq_getElem hi];rfl
  have ej:is.getD j 0=is[j]:=by rw[getD_eq_getElem?_getD,getElem?_eq_getElem hj];rfl
  rw[ei,ej,v_ (gp _ (hl _ (getElem_mem hi))),v_ (gp _ (hl _ (getElem_mem hj)))] at this;simpa using this
 ·intro i t p e1 e2;obtain⟨k,ek,rfl⟩:=fT e1;obtain⟨k',RH,rfl⟩:=fT e2;rw[ek] at RH;cases RH;have:=hl k (mem_of_getElem? ek);exact⟨k,gt k this,gp k this⟩
section
variable{K:Frag}{CA CD:Addr}{H H':Hp}{D D':Addr}{ts eT:List Addr}{ps eZ:List Dr}
theorem dm.pz(h:dm K CA CD H D D' ts ps){N:Addr}(n:H N=none):dM K CA CD H N ts ps:=⟨h.n,λi t p e1 e2=>let ⟨tk,d,m,b,dx,ap,l,pH,m',b',aR,a⟩:=h.t i t p e1 e2;⟨tk,d,m,b,dx,ap,l,pH,m',b',aR,a.new n⟩⟩
theorem dM.cat(h:dM K CA CD H D ts ps)(h2:dM K CA CD H D eT eZ):dM K CA CD H D (ts++eT) (ps++eZ):=by
 have hn:=h.n;refine⟨by simp[h.n,h2.n],λi t p e1 e2=>?_⟩
 by_cases hi:i<ts.length
 ·rw[getElem?_append_left hi] at e1;rw[getElem?_append_left ∅] at e2
  exact h.t i t p e1 e2
 ·rw[getElem?_append_right ∅] at e1
  rw[getElem?_append_right ∅,← hn] at e2
  exact h2.t _ t p e1 e2
theorem dM.take(h:dM K CA CD H D ts ps)(k:Nat):dM K CA CD H D (ts.take k) (ps.take k):=by
 refine⟨by simp[h.n],λi t p e1 e2=>?_⟩
 rw[List.getElem?_take] at e1 e2;split at e1
 ·rename_i hi;rw[if_pos hi] at e2;exact h.t i t p e1 e2
 ·cases e1
theorem dM.drop(h:dM K CA CD H D ts ps)(k:Nat):dM K CA CD H D (ts.drop k) (ps.drop k):=by
 refine⟨by simp[h.n],λi t p e1 e2=>?_⟩
 rw[getElem?_drop] at e1 e2;exact h.t _ t p e1 e2
theorem dM.sort(h:dM K CA CD H D ts ps)(hn:eT.length=eZ.length)(hs:∀(i:Nat) (t:Addr) (p:Dr),eT[i]? = some t->eZ[i]? = some p->∃j:Nat,ts[j]? = some t/\ps[j]? = some p):dM K CA CD H D eT eZ :=
 ⟨hn,λi t p e1 e2=>let ⟨j,j1,j2⟩:=hs i t p e1 e2;h.t j t p j1 j2⟩
theorem dM.same(h:dM K CA CD H D ts ps)(s:ao H H'):dM K CA CD H' D ts ps:=⟨h.n,λi t p e1 e2=>let ⟨tk,d,m,b,dx,ap,l,pH,m',b',aR,a⟩:=h.t i t p e1 e2;⟨tk,d,m,b,dx,ap,l,pH,m',b',aR,a.same s⟩⟩
theorem dM.new(h:dM K CA CD H D ts ps){N:Addr}(n:H N=none):dM K CA CD H N ts ps:=⟨h.n,λi t p e1 e2=>let ⟨tk,d,m,b,dx,ap,l,pH,m',b',aR,a⟩:=h.t i t p e1 e2;⟨tk,d,m,b,dx,ap,l,pH,m',b',aR,a.new n⟩⟩
theorem dM.key(h:dM K CA CD H D ts ps){j:Nat}{v:V}(e:(ts.map V.ref)[j]? = some v):∃t a b,v = .ref t/\H t=some (.tup [.int (pG ps j),a,b]):=by
 obtain⟨t,et,rfl⟩:=fT e;have hj:j<ps.length:=by rw[← h.n];exact e8 et
 obtain⟨tk,d,m,b,dx,ap,l,pH,m',b',aR,a⟩:=h.t j t ps[j] et (getElem?_eq_getElem hj);exact⟨t,_,_,rfl,by rw[v_ (getElem?_eq_getElem hj)];exact a.o⟩
end
structure jv(nc:List (Int×Int))(ds ps:List Dr):Prop where
 nd:((ds++ps).map (·.n)).Nodup
 ok:∀p∈ds++ps,qV nc.length p.q/\p.q.kind≠"rest"/\p.q.at_<=1000000000000/\0<=p.n/\p.n<=99/\p.c=pD nc p.q.first p.q.many
 ju:ds.length+ps.length<=32
theorem jv.start{nc:List (Int×Int)}{ps:List Dr}(h:Ab nc ps):jv nc [] ps:=by
 refine⟨?_,h.ok,by simpa using h.ju⟩
 rw[nil_append,nodup_iff_pairwise_ne,pairwise_map];exact h.up.imp λa=>by lia
theorem jv.more{nc:List (Int×Int)}{ds ps qY:List Dr}{k:Nat}(h:jv nc ds ps)(pm:qY.Perm (ds++ps.take k))(up:qY.Pairwise λa b=>a.n<b.n):jv nc qY (ps.drop k)/\Ab nc qY/\qY.length+(ps.drop k).length=ds.length+ps.length:=by
 have pa:(qY++ps.drop k).Perm (ds++ps):=(pm.append_right _).trans (.of_eq (by rw[append_assoc,take_append_drop]))
 have hl:=pa.length_eq;rw[length_append,length_append] at hl;have ju:=h.ju;have ok:∀p∈qY++ps.drop k,_:=λp hp=>h.ok p (pa.mem_iff.mp hp);exact⟨⟨((pa.map (·.n)).nodup_iff).mpr h.nd,ok,∅⟩,⟨up,λp hp=>ok p (mem_append_left _ hp),∅⟩,hl⟩
theorem jv.but{nc:List (Int×Int)}{ds ps:List Dr}(h:jv nc ds ps)(n:Int):jv nc (jU n ds) ps:=by
 have sl:(jU n ds++ps).Sublist (ds++ps):=(List.filter_sublist).append_right _;refine⟨(sl.map _).nodup h.nd,λp hp=>h.ok p (sl.subset hp),?_⟩;have:=Ru n ds;have:=h.ju;lia
theorem jv.cat{nc:List (Int×Int)}{ds ps:List Dr}(h:jv nc ds ps)(k:Nat):((ds++ps.take k).map (·.n)).Nodup:=by
 have sl:(ds++ps.take k).Sublist (ds++ps):=(List.Sublist.refl ds).append (List.take_sublist _ _);exact(sl.map _).nodup h.nd
noncomputable def RI(K:Frag)(CA CD CL P:Addr)(pos:Pos)(qual:Str)(H6:Hp)(a p wt x1 d1:Addr)(nc:List (Int×Int))(m:Nat)(σ:St)(H':Hp):Prop :=
 ∃(Lp Dd:Addr) (eU:List Addr) (dZ:List Dr) (fF:List Addr) (d7:List Dr) (i:Bool) (ring:Int) (B':Addr) (y8 y9 wc kq:Option V),σ = [some (.ref a),some (.ref p),some (.ref wt),some (.ref Lp),some (.ref x1),some (.bl i),some (.int ring),some (.ref Dd),y8,y9,wc,kq]/\
  dF H6 H'/\cu P pos qual H'/\RG CL H' x1 ⟨false,i,[]⟩ d1 B'/\dm K CA CD H' Lp Lp eU dZ/\dm K CA CD H' Dd Dd fF d7/\jv nc d7 dZ/\d7.length+dZ.length=m
section
variable{K:Frag}{CA CD:Addr}{H:Hp}{D D':Addr}{ts:List Addr}{ps:List Dr}{X:Prop}
theorem dm.el(h:dm K CA CD H D D' ts ps)(i:Nat)(t:Addr)(p:Dr)(e1:ts[i]? = some t)(e2:ps[i]? = some p)(k:∀tk d m b dx ap l tx m' b' aR,fW K CA CD H D t p tk d m b dx ap l tx m' b' aR->X):X :=
 let ⟨tk,d,m,b,dx,ap,l,tx,m',b',aR,a⟩:=h.t i t p e1 e2;k tk d m b dx ap l tx m' b' aR a
theorem jS.el(h:jS K CA CD H D ts ps)(i:Nat)(t:Addr)(p:Dr)(e1:ts[i]? = some t)(e2:ps[i]? = some p)(k:∀dx ap l tx m b aR,fO K CA CD H t p dx ap l tx m b aR->X):X :=
 let ⟨dx,ap,l,tx,m,b,aR,a⟩:=h.t i t p e1 e2;k dx ap l tx m b aR a
end
@[elab_as_elim] theorem RI.el{K:Frag}{CA CD CL P:Addr}{pos:Pos}{qual:Str}{H6:Hp}{a p wt x1 d1:Addr}{nc:List (Int×Int)}{m:Nat}{σ:St}{H':Hp}{X:St->Prop}(h:RI K CA CD CL P pos qual H6 a p wt x1 d1 nc m σ H')
  (k:∀(Lp Dd:Addr) (eU:List Addr) (dZ:List Dr) (fF:List Addr) (d7:List Dr) (i:Bool) (ring:Int) (B':Addr) (y8 y9 wc kq:Option V),dF H6 H'->cu P pos qual H'->RG CL H' x1 ⟨false,i,[]⟩ d1 B'->dm K CA CD H' Lp Lp eU dZ->dm K CA CD H' Dd Dd fF d7->jv nc d7 dZ->d7.length+dZ.length=m->X [some (.ref a),some (.ref p),some (.ref wt),some (.ref Lp),some (.ref x1),some (.bl i),some (.int ring),some (.ref Dd),y8,y9,wc,kq]):X σ:=by
 obtain⟨Lp,Dd,eU,dZ,fF,d7,i,ring,B',y8,y9,wc,kq,rfl,kt,tb,hl,hpp,qO,bo,hm⟩:=h;exact k Lp Dd eU dZ fF d7 i ring B' y8 y9 wc kq kt tb hl hpp qO bo hm
noncomputable def Ad(t:TS):TS:=λD σ H=>∀N:St->Hp->Prop,(∀dU H1,@Later ⟨D.nx⟩ dU H1->N dU H1)->t { D with nx:=N } σ H
theorem aJ{X:Cx}{st:Stmt}{t:TS}(h:PS X st t):PS X st (Ad t):=λpins s σ H D I q=>h pins s σ H D I (q D.nx λ_ _ z=>z)
theorem aL{t b:TS}{D:Ends}{σ:St}{H:Hp}(h:∀N:St->Hp->Prop,(∀dU H1,b D dU H1->N dU H1)->t { D with nx:=N } σ H):yu (Ad t) b D σ H:=λN hN=>h N hN
theorem adP{c:TT}{tb:TS}{D:Ends}{σ:St}{H:Hp}(h:∀B:TS,(∀D σ H,tb D σ H->B D σ H)->EM c B D σ H):EM c tb D σ H:=h tb λ_ _ _ z=>z
section
variable{X:Cx}
noncomputable def HW:V->List V->Hp->VK->Prop:=λx vs H Q=>∃l xs i y,x = .ref l/\vs = [.int i,y]/\H l=some (.lst xs)/\0<=i/\i<=(xs.length:Int)/\xs.length<1000/\Q .aW (upd H l (.lst (xs.take i.toNat++y::xs.drop i.toNat)))
theorem adQ:uO X "list.insert" HW:=by
 intro pins s σ H x vs v us Q I rx rv h;obtain⟨l,xs,i,y,rfl,rfl,hH,i0,i1,hz,q⟩:=h;cases rx;obtain⟨u,v,rfl,ru,ry⟩:=rv.two;obtain⟨t,rfl⟩:=ru;obtain⟨z,az,n,r,hl,e⟩:=I.nK hH;have hs:az.toArray.size<=sizeLine:=by rw[size_toArray,j9];lia
 refine call_meets F.slot_list_insert ⟨_,e,rfl⟩ F.entry_list_insert (F.args_list_insert_3 _ _ _) (AutoSeq1.list_insert_list_int_val_1 l az.toArray n i t v (by rw[fitsIndex_both ∅ ∅];decide) hs) ⟨e,?_⟩
 refine⟨.aW,_,I.eO (its':=az.take i.toNat++v::az.drop i.toNat) (ys:=xs.take i.toNat++y::xs.drop i.toNat) hH e ?_ ?_ ?_,rfl,q⟩
 ·show (az.toArray.extract 0 (if i<0 then _ else min i.toNat az.toArray.size)).push v++az.toArray.extract (if i<0 then _ else min i.toNat az.toArray.size)=_
  rw[if_neg ∅,size_toArray,min_eq_left ∅]
  apply toList_inj.mp;simp;exact take_of_length_le (by simp)
 ·exact(r.take _).append (.cons ry (r.drop _))
 ·rw[j9,length_append,length_cons,length_take,length_drop];lia
theorem adR{k:Key}{u:Value}(h:p8 k u=true):RelV (kV k) u:=by
 cases k with
 | inl i=>obtain⟨t,e⟩:=PySem.Value.isInt_shape (show Value.isInt i u=true from h);exact⟨t,e⟩
 | inr x=>obtain⟨t,e⟩:=PySem.Value.isStrOf_shape (show Value.isStrOf x u=true from h);exact⟨t,e⟩
theorem KV.key:∀ {kvs:List (Key×V)} {vs:List (Key×Value)},KV kvs vs->∀ {i:Nat} {p:Key×V},kvs[i]? = some p->∃v,vs[i]? = some (p.1,v)
 | _,_,.nil,i,p,e=>by simp at e
 | _,_,.cons (b:=q) r t,0,p,e=>by
  cases e;exact⟨q.2,by rw[r.1];rfl⟩
 | _,_,.cons r t,i+1,p,e=>KV.key t (i:=i) e
theorem Inv.freeze{pins:List (Addr×Obj)}{σ:St}{H:Hp}{s:Shared}{a:Addr}{kvs:List (Key×V)}{ob:Obj}(I:Inv X pins σ H s)(e:H a=some (.dK kvs))(ho:s.heap.get? a=some ob):Inv X pins σ (upd H a (.d8 ob (.dK kvs))) s:=by
 have ne:∀b v,H b=some v->(∀kvs,v≠.dK kvs)->upd H a (.d8 ob (.dK kvs)) b=some v:=λb v q z=>by rw[aF (λw=>by rw[w,e] at q;cases q;exact z _ rfl)];exact q
 refine I.un (t':=s.toks) (h':=s.heap) ⟨λb o q n hb _=>q,λb o q n hb _=>⟨o.slots,q⟩,λb o q n _=>?_,λb o q _=>⟨o,q⟩,λb xs q=>ne b _ q (λ_ z=>nomatch z),λb o u q=>ne b _ q (λ_ z=>nomatch z),λb ps q=>⟨#[],by rw[ne b _ q (λ_ z=>nomatch z)];simp⟩⟩ λb v q=>?_
 ·rw[aF (λz=>by rw[z,e] at n;cases n)];exact n
 ·by_cases z:b=a
  ·subst z;rw[aD] at q;cases q;exact⟨ho,(I.aG b _ e).g9 (λ_ _ _ e=>e) (λd q=>ne d _ q (λ_ z=>nomatch z)) (λd xs q=>ne d _ q (λ_ z=>nomatch z))⟩
  ·rw[aF z] at q;exact(I.aG b v q).g9 (λ_ _ _ e=>e) (λd q=>ne d _ q λ_ z=>nomatch z) λd xs q=>ne d _ q λ_ z=>nomatch z
noncomputable def RJ(a:Addr)(ob:Obj)(kvs:List (Key×V)):It :=
 ⟨λi H=>H a=some (.d8 ob (.dK kvs))/\i<kvs.length,λi H x H'=>H' = H/\∃p,kvs[i]? = some p/\x=kV p.1,λi H=>H a=some (.d8 ob (.dK kvs))/\kvs.length<=i⟩
theorem RK{P:Program}{w:World}{H:Hp}{h:Heap}{a:Addr}{ob:Obj}{kvs:List (Key×V)}{es:Array DictEntry}{ep:Nat}(jQ:ob.data = .dict es ep)(x:dw P w H h a (.d8 ob (.dK kvs))) :
  ∃vs,KV kvs vs/\h.DictAt (dQ P w) a vs ep:=by
 obtain⟨ho,_,_,vs,kv,o,jf,Gp,qp,c,d,r⟩:=x;rw[ho] at qp;cases qp;rw[jQ] at d;cases d;exact⟨vs,kv,ob,es,ho,c,jQ,r⟩
theorem adS{P:Program}{w:World}{K:Frag}{tg:Expr}(a it:Addr){ob:Obj}{kvs:List (Key×V)}{es:Array DictEntry}{ep:Nat}(jQ:ob.data = .dict es ep) :
  Turn P w K tg (RJ a ob kvs) [it] it (λi h=>h.IsKeyIter it a i kvs.length ep) where
 mem:=by simp
 obj:=λi h st b hb=>by
  have e:b=it:=by simpa using hb
  subst e;obtain⟨o,e,c,d⟩:=st;exact⟨o,e,λv z=>by rw[d] at z;cases z⟩
 keep:=λi h h' st k=>let ⟨o,e,r⟩:=st;⟨o,k it (by simp) o e,r⟩
 item:=by
  intro X hP hw hK hc i pins s σ H E I hf st hg;subst hP hw hK;obtain⟨hq,hi⟩:=hg;obtain⟨vs,kv,da⟩:=RK jQ (I.aG a _ hq);have ek:kvs[i]? = some kvs[i]:=getElem?_eq_getElem hi;obtain⟨v,ev⟩:=kv.key ek;obtain⟨f0,f1,f2,f3,f4,f5⟩:=hf it (by simp)
  have hl:kvs.length=vs.length:=kv.length;refine wpAny_pyNext_dict_item (hl▸st) da ev λkey h' hk h_ sb=>?_;have I1:Inv X pins σ H { s with heap:=h' }:=I.turned (t':=s.toks) (λb o hb e=>(sb.2 b hb).trans e) f0 f1 f3 f4 f5;obtain⟨o,e,c,d⟩:=id h_;exact⟨key,rfl,yC (s:={ s with heap:=h' }) e c d (by decide) ⟨_,H,I1,adR hk,⟨rfl,kvs[i],ek,rfl⟩,hl▸h_,λb hb=>(hf b hb).1⟩⟩
 done:=by
  intro X hP hw hK hc i pins s σ H E I hf st hg;subst hP hw hK;obtain⟨hq,hi⟩:=hg;obtain⟨vs,kv,da⟩:=RK jQ (I.aG a _ hq);obtain⟨f0,f1,f2,f3,f4,f5⟩:=hf it (by simp)
  have hl:kvs.length=vs.length:=kv.length;exact wpAny_pyNext_dict_end (I.ok.hd hc) (hl▸st) da (getElem?_eq_none ∅) λh' eb=>⟨rfl,I.turned (t':=s.toks) (λb o hb e=>eb b o hb e) f0 f1 f3 f4 f5⟩
 self:=λA i s Q E st h=>by
  obtain⟨o,e,c,d⟩:=st;exact wpAny_pyIter_keyiter ⟨o,e,c,d⟩ h
noncomputable def RL(td:TE):TI:=λσ H R=>td σ H λx H1=>∃a kvs,x = .ref a/\H1 a=some (.dK kvs)/\∀ob,R (RJ a ob kvs) (upd H1 a (.d8 ob (.dK kvs)))
theorem adT{tg l:Expr}{td:TE}(hl:PE X l td):PI X tg l (RL td):=by
 intro pins s σ H R I h;refine aY (hl pins s σ H _ I h) λv s1 ⟨x,H1,I1,r1,q1⟩=>?_;obtain⟨a,kvs,e,hq,q⟩:=q1;subst e;cases r1;obtain⟨hz,hS,vs,kv,o,es,ep,ho,c,d,r⟩:=OF I1.aG hq;have ln:kvs.length=vs.length:=kv.length;refine wpAny_pyIter_dict (knd:=dQ X.prog X.w) (kvs:=vs) (ep:=ep) hS ⟨o,es,ho,c,d,r⟩ ?_;have I2:=I1.freeze hq ho;have I3:=I2.kept (t':=s1.toks) (h':=s1.heap.push { cls:=.type "dict_keyiterator",data:=.fields #[.ref a,.int 0 0,.int vs.length 0,.int ep 0] }) λb o e=>get?_push_of_some _ e;refine⟨s1.heap.objs.size,[s1.heap.objs.size],_,_,_,rfl,I3,adS a _ d,⟨_,get?_push_size _ rfl,rfl,by rw[ln];rfl⟩,λb hb=>?_,q o⟩
 have e:b=s1.heap.objs.size:=by simpa using hb
 subst e;exact I2.oV (Nat.le_refl _) (I2.aG.fresh (Nat.le_refl _))
theorem adU{tl:TE}{g:TG}{tb:TS}{D:Ends}{σ:St}{H:Hp}(a:Addr)(kvs:List (Key×V))(Pv:Obj->Nat->St->Hp->Prop)(hi:∀Q:VK,Q (.ref a) H->tl σ H Q)(hq:H a=some (.dK kvs))(h0:∀ob,Pv ob 0 σ (upd H a (.d8 ob (.dK kvs))))
  (st:∀ob i σ H,Pv ob i σ H->H a=some (.d8 ob (.dK kvs)))
  (hb:∀ob i p σ H (N:St->Hp->Prop),(∀bf H',Pv ob (i+1) bf H'->N bf H')->kvs[i]? = some p->Pv ob i σ H->g (kV p.1) σ H λaA H2=>tb { D with nx:=N,ct:=N,bk:=D.nx } aA H2)
  (hn:∀ob σ H,Pv ob kvs.length σ H->D.nx σ H):i9 (RL tl) g tb D σ H:=by
 refine hi _ ⟨a,kvs,rfl,hq,λob=>⟨λi m σ H=>m+i=kvs.length/\Pv ob i σ H,⟨kvs.length,∅,h0 ob⟩,λi m σ H ⟨hm,hp⟩=>?_⟩⟩
 have hs:=st ob i σ H hp;by_cases hl:i<kvs.length
 ·refine .inr ⟨⟨hs,hl⟩,λbf H'=>Pv ob (i+1) bf H',λbf H' h=>⟨m - 1,∅,∅,h⟩,λx H' ⟨e1,p,e2,e3⟩=>?_⟩
  subst e1 e3;exact hb ob i p σ H' _ (λ_ _ h=>h) e2 hp
 ·refine .inl ⟨⟨hs,∅⟩,hn ob σ H ?_⟩
  rw[show kvs.length=i by lia];exact hp
theorem adV{cs:List Addr}:∀ {us:List Value},Vals (cs.map V.ref) us->us=cs.map Value.ref:=by
 induction cs with
 | nil=>intro us h;cases h;rfl
 | cons c cs ih =>
  intro us h;cases h with
  | cons r t =>
   have r:_=Value.ref c:=r;rw[r,ih t];rfl
theorem adW:f9 X (.builtin "isinstance") (λxs H Q=>∃(a C p:Addr) (cs:List Addr) (b:Bool),xs = [.ref a,.ref p]/\H p=some (.tup (cs.map V.ref))/\H a=some (qI a C)/\qJ X.K C/\(clsIn X.K C).isSome=true/\W.kitAny X.K (.ref C) (cs.map Value.ref)=some b/\Q (.bl b) H):=by
 intro pins s σ H xs us Q I r h;obtain⟨a,C,p,cs,b,rfl,hp,ea,G,hc,e,q⟩:=h;obtain⟨u,v,rfl,ru,rv⟩:=vals2 r;cases (show u=Value.ref a from ru);cases (show v=Value.ref p from rv);obtain⟨_,az,rt,o,ho,mF,n,hd⟩:=I.aG p _ hp;have ei:=adV rt;obtain⟨oc,od,dt,sl⟩:=o;simp only at mF hd;subst mF hd ei;exact W.kia_tup (P4 G hc) I.cI (P5 I ea) ho e (λz=>nomatch z) λtk=>⟨.bl b,H,I.tok _,rfl,q⟩
end
structure HX(P:Program)(w:World)(K:Frag)(mg:Str->Option Value)(base:Heap)(k:Nat)(f:Addr)(fd:FuncData)(ps:List Str)(sp:Sp):Prop where
 len:∀vs H Q E,sp vs H Q E->vs.length=ps.length
 run:∀(A:Around) (outer:List Env) (s:Shared) (H:Hp) (args:Args) (us:List Value) (vs:List V) (Q:VK) (e:Value),bZ k A->l7 P w K mg base A outer s H->BindsTo s fd args (ps.zip us)->Vals vs us->sp vs H Q E0->
  codeAny (model P w) (A.mark (some e)) (.call (.ref f) args) (CR bx outer P w H s Q E0) s
theorem aO.okW{P:Program}{w:World}{K:Frag}{mg:Str->Option Value}{base:Heap}{x qual:Str}{st:Stmt}{f:Addr}{fd:FuncData}{N ps:List Str}{k:Nat}{sp:Sp}(F:aO K x qual st f fd)(S:bB N ps (a_ st))(len:∀vs H Q E,sp vs H Q E->vs.length=ps.length)
  (kN:∀(aV:Value) (A:Around) (outer:List Env) (s:Shared) (H:Hp) (vs:List V) (Q:VK) (e:Value),bZ k (A.deeper (envOfC qual (a_ st) s.heap.objs.size f aV))->sp vs H Q E0->
   ∃t,fB ((gP bx P w K mg base N qual (a_ st) f aV A outer s H E0).within e) (eY st) t/\t { nx:=λ_ H'=>Q .aW H',rt:=Q } (start N vs) H):HX P w K mg base (k+1) f fd ps sp:=by
 obtain⟨oc,od,kV,doc,pm,an,aV,ct,gQ,rfl,lk,cY⟩:=F.ex;refine⟨len,λA outer s H args us vs Q e hr e0 hb r fK=>?_⟩;have KX:K.In s.heap:=e0.mod.jZ.keeps λb o q=>(e0.bs b o q).1;have lim:s.heap.NoLimit:=e0.mod.nolimit.keeps λb o q=>(e0.bs b o q).1;have two:∀y∈ps.zip us,(a_ st).names.lookup y.1=some .local\/((a_ st).names.lookup y.1=some .cell/\((cellsFrom (s.heap.objs.size+1) (a_ st).names []).lookup y.1).isSome=true):=λ⟨n,v⟩ hy =>
  (S.par n (of_mem_zip hy).1).imp (λq=>q) λq=>⟨q,W.cellsFrom_some _ _ _ (.inl q)⟩
 refine codeAny_call_function (A:=A.mark (some e)) hr.depth (KX _ _ lk) rfl S.co S.gen rfl (W.codeRec_of KX cY) (hb _ _ _ _ ?_);refine wpAny_newFunctionEnv_cells S.kind two λenv he s1 x=>?_;subst he;refine⟨lim.keeps x.toInCall.keep,codeAny_func ?_⟩;obtain⟨t,ht,hq⟩:=kN aV A outer s H vs Q e (hr.deeper _) fK;have I:=(NY (CX:=bx) (E:=E0) S hr.hd e0 (len _ _ _ _ fK) r x).within e;refine wpAny_mono (ht [] s1 (start N vs) H _ I hq) (λfl s' hs=>?_) λ_ _ z=>False.elim z;cases fl with
 | ret u=>obtain⟨v,bf,H',J,rv,q⟩:=hs;exact⟨v,H',J.os,J.bare,J.base,J.aG,rv,q⟩
 | next=>obtain⟨bf,H',J,q⟩:=hs;exact⟨V.aW,H',J.os,J.bare,J.base,J.aG,rfl,q⟩
 | brk=>exact False.elim hs.choose_spec.choose_spec.2
 | cont=>exact False.elim hs.choose_spec.choose_spec.2
section
variable{X:Cx}{k:Nat}{f:Addr}{fd:FuncData}{ps:List Str}{sp:Sp}{x:Str}{p pos:Pos}{e:Expr}{es:List Expr}{t:TA}{a:Value}
theorem RM(F:HX X.prog X.w X.K X.mg X.base k f fd ps sp)(hr:bZ k X.A)(hg:Gl (X.within a) x)(hm:X.mg x=some (.ref f))(hk:keepIn X.K (.ref f)=true)(hb:Binds X.K fd ps [])(ha:PA (X.within a) (e::es) t)
  (gc:(x == ("__debug__" : Str))=false:=by decide) (he:starEach (e::es) X.env=(false,eval e X.env)::starEach es X.env:=by rfl) (dN:(backTo pos (starEach es X.env)).any (·.1)=false:=by rfl) :
  PE (X.within a) (.Call (.Name x p) (e::es) [] pos) (uH sp [] E0 t):=by
 intro pins s σ H Q I h;refine wpAny_Call_Name_kw (nC I hg hm ?_ gc);refine callWith_K (h₀:=X.base) I.ok.mod.jZ hk (wpAny_mono (ha pos pins s σ H _ I h) (λus s1 ⟨vs,H1,I1,r,q⟩=>⟨I1.cI,?_⟩) λ_ _ z=>z) he dN;have e1:=I1.uG;have q:sp (vs++[]) H1 Q E0:=q;rw[append_nil] at q;have eX:=hb s1 us I1.cI (by rw[append_nil];exact r.length.symm.trans (F.len _ _ _ _ q))
 rw[append_nil] at eX;refine wpAny_call (codeAny_mono (F.run X.A X.stack s1 H1 ⟨us,[]⟩ us vs Q a hr ⟨e1.frames,e1.mod,e1.bs,e1.eW,e1.gK,e1.j5,e1.aG,e1.bare⟩ eX r q) λr' s' hq=>?_)
 match r',hq with
 | .error e,hq=>exact False.elim hq
 | .ok (.ret u),hq=>exact I1.after hq
 | .ok .next,hq=>exact False.elim hq
 | .ok .brk,hq=>exact False.elim hq
 | .ok .cont,hq=>exact False.elim hq
end
theorem adX{K:Frag}{te:TE}{g:TG}{tt:TT}{e:TE}{nt:Nat}{fv:List Nat}{σ:St}{H:Hp}{Q:VK}(h:te σ H λx H1=>mq (oX K (tC x)) g tt e nt fv σ H1 Q):mq (oX K te) g tt e nt fv σ H Q:=h
noncomputable def gJ(pl:Addr)(t u:Int):List (Str×V):=[("pairs",.ref pl),("turn",.int t),("used",.int u)]
structure eN(C:Addr)(H:Hp)(x:Addr)(sh:List (Int×Int))(t u:Int)(dx pl:Addr)(bH:List Addr):Prop where
 o:H x=some (.ins C dx (gJ pl t u))
 p:Zn H pl bH sh
structure iy(z:List (Int×Int)):Prop where
 n1:1<=z.length
 n4:z.length<=4
 a:∀p∈z,0<=p.1/\p.1<=20/\1<=p.2/\p.2<=4
 nd:(z.map (·.1)).Nodup
section
variable{C:Addr}{H H':Hp}{x dx pl:Addr}{bH:List Addr}{sh:List (Int×Int)}{t u:Int}
theorem eN.same(h:eN C H x sh t u dx pl bH)(s:ao H H'):eN C H' x sh t u dx pl bH:=⟨s _ _ h.o,h.p.same s⟩
theorem adY:lH (gJ pl t u)=true:=by simp[lH,gJ,lookup_cons,pe]
theorem eN.s_(h:eN C H x sh t u dx pl bH)(s:SameBut x H H'):dF H H':=λb o e n=>s b o e λz=>by
 rw[z,h.o] at e;cases e;have:=n.2.1 _ _ _ rfl;rw[adY] at this;cases this
end
theorem eN.eO{C:Addr}{H:Hp}{x dx pl f:Addr}{bH:List Addr}{sh:List (Int×Int)}{t u:Int}{xs ys:List V}(h:eN C H x sh t u dx pl bH)(hf:H f=some (.lst xs))(ne:f≠pl):eN C (upd H f (.lst ys)) x sh t u dx pl bH :=
 ⟨(aF (λz=>by have:=h.o;rw[z,hf] at this;cases this)).trans h.o,h.p.eO hf ne⟩
noncomputable def K2(H H':Hp):Prop:=∀b o,H b=some o->(∀i j,o≠.lst [.int i,.int j])->H' b=some o
theorem K2.of{H H':Hp}{S:Addr}{t u:Int}(hS:H S=some (.lst [.int t,.int u]))(s:SameBut S H H'):K2 H H':=λb o e n=>s b o e λz=>by
 rw[z,hS] at e;cases e;exact n _ _ rfl
section
variable{K:Frag}{C CA CD:Addr}{H H':Hp}
theorem K2.tup(k:K2 H H'){a:Addr}{xs:List V}(e:H a=some (.tup xs)):H' a=some (.tup xs):=k _ _ e λ_ _ z=>nomatch z
theorem K2.ins(k:K2 H H'){a C dx:Addr}{fs:List (Str×V)}(e:H a=some (.ins C dx fs)):H' a=some (.ins C dx fs):=k _ _ e λ_ _ z=>nomatch z
theorem K2.lst(k:K2 H H'){a:Addr}{ts:List Addr}(e:H a=some (.lst (ts.map V.ref))):H' a=some (.lst (ts.map V.ref)):=k _ _ e λi j z=>by
 cases ts with
 | nil=>cases z
 | cons t ts=>cases z
theorem Zn.k2{l:Addr}{ts:List Addr}{z:List (Int×Int)}(h:Zn H l ts z)(k:K2 H H'):Zn H' l ts z:=⟨k.lst h.l,h.n,λi t p e1 e2=>k.tup (h.t i t p e1 e2)⟩
theorem fO.k2{p:Addr}{d:Dr}{dx ap l:Addr}{ts:List Addr}{m b aR:Addr}(h:fO K CA CD H p d dx ap l ts m b aR)(k:K2 H H'):fO K CA CD H' p d dx ap l ts m b aR:=⟨k.ins h.o,⟨k.ins h.a.o,k.tup h.a.ms,k.tup h.a.bh⟩,h.c.k2 k⟩
theorem fW.k2{D t:Addr}{p:Dr}{tk d m b dx ap l:Addr}{ts:List Addr}{m' b' aR:Addr}(h:fW K CA CD H D t p tk d m b dx ap l ts m' b' aR)(k:K2 H H'):fW K CA CD H' D t p tk d m b dx ap l ts m' b' aR:=⟨k.tup h.o,⟨k.tup h.k.o,k.tup h.k.ms,k.tup h.k.bh⟩,h.d.k2 k,h.ne⟩
theorem dm.k2{D D':Addr}{ts:List Addr}{ps:List Dr}(h:dm K CA CD H D D' ts ps)(k:K2 H H'):dm K CA CD H' D D' ts ps :=
 ⟨k.lst h.l,h.n,λi t p e1 e2=>let ⟨tk,d,m,b,dx,ap,l,ts,m',b',aR,a⟩:=h.t i t p e1 e2;⟨tk,d,m,b,dx,ap,l,ts,m',b',aR,a.k2 k⟩⟩
theorem eN.k2{x dx pl:Addr}{bH:List Addr}{sh:List (Int×Int)}{t u:Int}(h:eN C H x sh t u dx pl bH)(k:K2 H H'):eN C H' x sh t u dx pl bH:=⟨k.ins h.o,h.p.k2 k⟩
end
noncomputable def qZ(o:Option Int)(n:Int):Int:=match o with
 | none=>n
 | some m=>if n<m then n else m
noncomputable def fz(a:Int)(ds:List Dr):Option Int:=ds.foldl (λo d=>if d.q.bT=a then some (qZ o d.n) else o) none
theorem RN{a:Int}{ds:List Dr}{d:Dr}:fz a (ds++[d])=if d.q.bT=a then some (qZ (fz a ds) d.n) else fz a ds:=by
 unfold fz;rw[List.foldl_append];rfl
theorem adZ{a:Int}{ds:List Dr}{i:Nat}(hi:i<ds.length):fz a (ds.take (i+1))=if ds[i].q.bT=a then some (qZ (fz a (ds.take i)) ds[i].n) else fz a (ds.take i):=by
 rw[take_succ_get (getElem?_eq_getElem hi),RN]
theorem Ae{a:Int}(ds:List Dr):(fz a ds=none->∀d∈ds,d.q.bT≠a)/\∀n,fz a ds=some n->(∃d∈ds,d.q.bT=a/\d.n=n)/\∀d∈ds,d.q.bT=a->n<=d.n:=by
 rw[← List.reverse_reverse ds];generalize ds.reverse=r
 induction r with
 | nil=>exact⟨λ_ d h=>by simp at h,λn h=>by simp[fz] at h⟩
 | cons e r ih =>
  rw[List.reverse_cons,RN];obtain⟨i1,i2⟩:=ih;by_cases he:e.q.bT=a
  ·rw[if_pos he];refine⟨(λz=>nomatch z),λn hn=>?_⟩;cases hn;cases ho:fz a r.reverse with
   | none =>
    refine⟨⟨e,by simp,he,rfl⟩,λd hd ha=>?_⟩
    rcases mem_append.mp hd with h | h
    ·exact absurd ha (i1 ho d h)
    ·rw[mem_singleton.mp h];exact Int.le_refl _
   | some m =>
    obtain⟨⟨d0,h0,a0,n0⟩,hm⟩:=i2 m ho;have hle:∀d∈r.reverse++[e],d.q.bT=a->(if e.n<m then e.n else m)<=d.n:=λd hd ha=>by
     rcases mem_append.mp hd with h | h
     ·have:=hm d h ha;split <;> lia
     ·rw[mem_singleton.mp h];split <;> lia
    refine⟨?_,hle⟩;by_cases bL:e.n<m
    ·exact⟨e,by simp,he,by simp[qZ,bL]⟩
    ·exact⟨d0,mem_append_left _ h0,a0,by simp[qZ,bL,n0]⟩
  ·rw[if_neg he];refine⟨λz d hd=>?_,λn hn=>?_⟩
   ·rcases mem_append.mp hd with h | h
    ·exact i1 z d h
    ·rw[mem_singleton.mp h];exact he
   ·obtain⟨⟨d0,h0,a0,n0⟩,hm⟩:=i2 n hn;refine⟨⟨d0,mem_append_left _ h0,a0,n0⟩,λd hd ha=>?_⟩;rcases mem_append.mp hd with h | h
    ·exact hm d h ha
    ·rw[mem_singleton.mp h] at ha;exact absurd ha he
theorem we{a:Int}{ds:List Dr}{d:Dr}(hd:d∈ds)(ha:d.q.bT=a):(fz a ds).isSome=true:=by
 cases h:fz a ds with
 | none=>exact absurd ha ((Ae ds).1 h d hd)
 | some n=>rfl
theorem ad0{a:Int}{ps:List Dr}{j:Nat}{pb:Dr}(up:ps.Pairwise λa b=>a.n<b.n)(hj:ps[j]? = some pb)(ha:pb.q.bT=a)(no:∀e∈ps.take j,e.q.bT≠a):fz a ps=some pb.n:=by
 have hm:=mem_of_getElem? hj;obtain⟨n,hn⟩:=isSome_iff_exists.mp (we hm ha);obtain⟨⟨d,hd,da,dn⟩,le⟩:=(Ae ps).2 n hn;have h1:=le pb hm ha;obtain⟨k,hk,rfl⟩:=mem_iff_getElem.mp hd;obtain⟨jR,rfl⟩:=List.getElem?_eq_some_iff.mp hj;have jk:j<=k:=Nat.le_of_not_lt λz=>no ps[k] (List.mem_take_iff_getElem.mpr ⟨k,∅,rfl⟩) da
 have:ps[j].n<=ps[k].n:=by
  by_cases e:j=k
  ·subst e;exact Int.le_refl _
  ·have:=(pairwise_iff_getElem.mp up) j k jR hk ∅
   lia
 rw[hn];congr 1;lia
theorem ad1{kvs:List (Key×V)}{k:Key}{v:V}{p:Key×V}(h:p∈putK kvs k v):(∃q∈kvs,q.1=p.1)\/p.1=k:=by
 unfold putK at h;split at h
 ·obtain⟨q,hq,e⟩:=mem_map.mp h;left;refine⟨q,hq,?_⟩;rw[← e];split <;> rfl
 ·rcases mem_append.mp h with h | h
  ·exact .inl ⟨p,h,rfl⟩
  ·rw[mem_singleton.mp h];exact .inr rfl
structure tw(ds:List Dr)(kvs:List (Key×V)):Prop where
 v:∀a:Int,cG kvs (eS a)=(fz a ds).map V.int
 k:∀p∈kvs,∃d∈ds,p.1=eS d.q.bT
noncomputable def dc(sh:List (Int×Int))(t:Int):Int:=(sh.getD t.toNat (0,0)).1
noncomputable def gq(sh:List (Int×Int))(t:Int):Int:=(sh.getD t.toNat (0,0)).2
theorem tD{sh:List (Int×Int)}{t:Int}(h0:0<=t)(h1:t<sh.length):sh[t.toNat]? = some (dc sh t,gq sh t):=by
 have:t.toNat<sh.length:=by lia
 unfold dc gq;rw[getD_eq_getElem?_getD,getElem?_eq_getElem this];rfl
theorem Zn.ti{H:Hp}{l:Addr}{ts:List Addr}{sh:List (Int×Int)}(h:Zn H l ts sh){t:Int}(h0:0<=t)(h1:t<sh.length):∃p,dW (ts.map V.ref) t=some (.ref p)/\H p=some (.tup [.int (dc sh t),.int (gq sh t)]):=by
 have hl:t.toNat<ts.length:=by rw[h.n];lia
 refine⟨ts[t.toNat],?_,h.t _ _ _ (getElem?_eq_getElem hl) (tD h0 h1)⟩;have:dW (ts.map V.ref) ((t.toNat:Nat):Int)=some (.ref ts[t.toNat]):=l_ (by rw[getElem?_map,getElem?_eq_getElem hl];rfl)
 rwa [toNat_of_nonneg h0] at this
structure lJ(pr:Int->Prop)(sh:List (Int×Int))(t t':Int):Prop where
 ex:∃k:Nat,1<=k/\t' = (t+k) % sh.length/\pr (dc sh t')/\∀j:Nat,1<=j->j<k->¬ pr (dc sh ((t+j) % sh.length))
theorem lJ.one{pr:Int->Prop}{sh:List (Int×Int)}{t a b:Int}(x:lJ pr sh t a)(y:lJ pr sh t b):a=b:=by
 obtain⟨k,k1,ek,pk,nk⟩:=x.ex;obtain⟨j,j1,ej,pj,nj⟩:=y.ex;by_cases h:k<j
 ·exact absurd (ek▸pk) (nj k k1 h)
 ·by_cases h2:j<k
  ·exact absurd (ej▸pj) (nk j j1 h2)
  ·rw[ek,ej,show k=j by lia]
theorem lJ.congr{pr HY:Int->Prop}{sh:List (Int×Int)}{t t':Int}(e:∀a,pr a↔HY a)(h:lJ pr sh t t'):lJ HY sh t t':=by
 rw[show pr=HY from funext λa=>propext (e a)] at h;exact h
structure iR(pr:Int->Prop)(sh:List (Int×Int))(t:Int)(m:Nat)(t':Int):Prop where
 ex:∃k k0:Nat,1<=k/\k<=k0/\m+k=k0/\t' = (t+k) % sh.length/\pr (dc sh ((t+k0) % sh.length))/\∀j:Nat,1<=j->j<k->¬ pr (dc sh ((t+j) % sh.length))
theorem iR.start{pr:Int->Prop}{sh:List (Int×Int)}{t:Int}(h0:0<=t)(h1:t<sh.length){p:Int×Int}(hp:p∈sh)(pp:pr p.1):∃m,iR pr sh t m ((t+1) % sh.length):=by
 obtain⟨i,hi,rfl⟩:=mem_iff_getElem.mp hp;have ea:∀k0:Nat,(t+k0) % sh.length=(i:Int)->pr (dc sh ((t+k0) % sh.length)):=λk0 e=>by
  rw[e];unfold dc;rw[toNat_natCast,getD_eq_getElem?_getD,getElem?_eq_getElem hi];exact pp
 by_cases hc:t<i
 ·refine⟨(i - t.toNat) - 1,1,i - t.toNat,Nat.le_refl _,∅,∅,by simp,ea _ ?_,λj a b=>by lia⟩
  rw[show t+((i - t.toNat:Nat):Int)=i by lia]
  exact Int.emod_eq_of_lt ∅ ∅
 ·refine⟨(i+sh.length - t.toNat) - 1,1,i+sh.length - t.toNat,Nat.le_refl _,∅,∅,by simp,ea _ ?_,λj a b=>by lia⟩
  rw[show t+((i+sh.length - t.toNat:Nat):Int)=i+sh.length by lia,Int.add_emod_right]
  exact Int.emod_eq_of_lt ∅ ∅
theorem iR.go{pr:Int->Prop}{sh:List (Int×Int)}{t:Int}{m:Nat}{t':Int}(h:iR pr sh t m t')(np:¬ pr (dc sh t')):∃m',m' < m/\iR pr sh t m' ((t' + 1) % sh.length):=by
 obtain⟨k,k0,k1,kk,hm,rfl,p0,nj⟩:=h.ex;have dJ:k≠k0:=λe=>np (e▸p0);refine⟨m - 1,∅,k+1,k0,∅,∅,∅,?_,p0,λj a b=>?_⟩
 ·rw[Int.emod_add_emod,Int.add_assoc];rfl
 ·by_cases e:j=k
  ·rw[e];exact np
  ·exact nj j a ∅
theorem iR.stop{pr:Int->Prop}{sh:List (Int×Int)}{t:Int}{m:Nat}{t':Int}(h:iR pr sh t m t')(p:pr (dc sh t')):lJ pr sh t t':=by
 obtain⟨k,k0,k1,kk,hm,e,p0,nj⟩:=h.ex;exact⟨k,k1,e,p,nj⟩
theorem iR.bd{pr:Int->Prop}{sh:List (Int×Int)}{t:Int}{m:Nat}{t':Int}(h:iR pr sh t m t')(n1:1<=sh.length):0<=t'/\t' < sh.length:=by
 obtain⟨k,k0,k1,kk,hm,rfl,_⟩:=h.ex;exact⟨emod_nonneg _ ∅,emod_lt_of_pos _ ∅⟩
theorem lJ.bd{pr:Int->Prop}{sh:List (Int×Int)}{t t':Int}(h:lJ pr sh t t')(n1:1<=sh.length):0<=t'/\t' < sh.length:=by
 obtain⟨k,k1,rfl,_⟩:=h.ex;exact⟨emod_nonneg _ ∅,emod_lt_of_pos _ ∅⟩
noncomputable def here(ds:List Dr)(a:Int):Prop:=(fz a ds).isSome=true
structure jV(sh:List (Int×Int))(ds:List Dr)(t u t' u':Int):Prop where
 y:gq sh t<=u\/¬ here ds (dc sh t)->lJ (here ds) sh t t'/\u' = 1
 n:¬ (gq sh t<=u\/¬ here ds (dc sh t))->t' = t/\u' = u+1
theorem jV.one{sh:List (Int×Int)}{ds:List Dr}{t u a b c d:Int}(x:jV sh ds t u a b)(y:jV sh ds t u c d):a=c/\b=d:=by
 by_cases h:gq sh t<=u\/¬ here ds (dc sh t)
 ·obtain⟨x1,x2⟩:=x.y h;obtain⟨y1,y2⟩:=y.y h;exact⟨x1.one y1,∅⟩
 ·obtain⟨x1,x2⟩:=x.n h;obtain⟨y1,y2⟩:=y.n h;exact⟨∅,∅⟩
theorem jV.bd{sh:List (Int×Int)}{ds:List Dr}{t u a b:Int}(x:jV sh ds t u a b)(ok:iy sh)(t0:0<=t)(t1:t<sh.length)(u0:0<=u):(0<=a/\a<sh.length)/\0<=b/\b<=gq sh a/\here ds (dc sh a):=by
 have sh1:∀i:Int,0<=i->i<sh.length->1<=gq sh i:=λi h0 h1=>(ok.a _ (mem_of_getElem? (tD h0 h1))).2.2.1;by_cases h:gq sh t<=u\/¬ here ds (dc sh t)
 ·obtain⟨x1,rfl⟩:=x.y h;have:=x1.bd ok.n1;have:=sh1 a this.1 this.2;exact⟨by assumption,by decide,∅,let ⟨_,_,_,p,_⟩:=x1.ex;p⟩
 ·obtain⟨rfl,rfl⟩:=x.n h;refine⟨⟨t0,t1⟩,∅,∅,?_⟩
  exact Classical.not_not.mp λz=>h (.inr z)
theorem jV.bt{sh:List (Int×Int)}{ds:List Dr}{t u a b:Int}(x:jV sh ds t u a b)(ok:iy sh)(t0:0<=t)(t1:t<sh.length):0<=a/\a<sh.length/\here ds (dc sh a):=by
 by_cases h:gq sh t<=u\/¬ here ds (dc sh t)
 ·obtain⟨x1,rfl⟩:=x.y h;have:=x1.bd ok.n1;exact⟨this.1,this.2,let ⟨_,_,_,p,_⟩:=x1.ex;p⟩
 ·obtain⟨rfl,rfl⟩:=x.n h;exact⟨t0,t1,Classical.not_not.mp λz=>h (.inr z)⟩
noncomputable def ad2(X:Addr):Sp:=λvs H Q E=>∃(l:Addr) (ts:List Addr) (z:List (Int×Int)),vs = [.ref l]/\Zn H l ts z/\z.length<=1000/\(iy z->∀H',ao H H'->Q .aW H')/\(¬ iy z->∀H',ao H H'->E (.ref X) none H')
noncomputable def ad3(C X:Addr):Sp:=λvs H Q E=>∃(x dx l:Addr) (ts:List Addr) (z:List (Int×Int)),vs = [.ref x,.ref l]/\H x=some (.ins C dx [])/\Zn H l ts z/\z.length<=1000/\(iy z->∀pl bH H',SameBut x H H'->H pl=none->eN C H' x z 0 0 dx pl bH->Q .aW H')/\(¬ iy z->∀H',ao H H'->E (.ref X) none H')
noncomputable def ad4(C:Addr):Sp:=λvs H Q _=>∃(x dx pl:Addr) (fs:List (Str×V)),vs = [.ref x]/\H x=some (.ins C dx fs)/\(fs = [(("pairs" : Str),V.ref pl)]\/∃t u,fs=gJ pl t u)/\∀H',SameBut x H H'->H' x=some (.ins C dx (gJ pl 0 0))->Q .aW H'
noncomputable def ad5(K:Frag)(CA CD:Addr):Sp:=λvs H Q _=>∃(D:Addr) (ps:List Addr) (ds:List Dr),vs = [.ref D]/\jS K CA CD H D ps ds/\ds.length<=33/\
 ∀B kvs H',ao H H'->H B=none->H' B=some (.dK kvs)->kvs.length<=1000->tw ds kvs->Q (.ref B) H'
noncomputable def Af(sh:List (Int×Int))(kvs:List (Key×V)):Prop:=∀p∈kvs,∃a∈sh.map (·.1),p.1=eS a
noncomputable def ad6(C X:Addr):Sp:=λvs H Q E=>∃(x B dx pl:Addr) (bH:List Addr) (sh:List (Int×Int)) (t u:Int) (kvs:List (Key×V)),vs = [.ref x,.ref B]/\eN C H x sh t u dx pl bH/\sh.length<=4/\H B=some (.dK kvs)/\(∀p∈kvs,∃a:Int,p.1=eS a)/\
 (Af sh kvs->∀ob H',SameBut B H H'->H' B=some (.d8 ob (.dK kvs))->Q .aW H')/\(¬ Af sh kvs->∀H',SameBut B H H'->E (.ref X) none H')
theorem ad7{kvs:List (Key×V)}{k:Key}(h:(cG kvs k).isSome=true):∃p∈kvs,p.1=k:=by
 unfold cG at h;rw[isSome_map] at h;obtain⟨p,hp⟩:=isSome_iff_exists.mp h;exact⟨p,List.mem_of_find?_eq_some hp,of_decide_eq_true (List.find?_some hp :)⟩
theorem tw.here{ds:List Dr}{kvs:List (Key×V)}(lo:tw ds kvs)(a:Int):(cG kvs (eS a)).isSome=true↔here ds a:=by
 unfold _L.here;rw[lo.v,isSome_map]
theorem tw.known{ds:List Dr}{kvs:List (Key×V)}{sh:List (Int×Int)}(lo:tw ds kvs):Af sh kvs↔∀d∈ds,d.q.bT∈sh.map (·.1):=by
 refine⟨λkn d hd=>?_,λh p hp=>let ⟨d,hd,e⟩:=lo.k p hp;⟨_,h d hd,e⟩⟩
 obtain⟨p,hp,e⟩:=ad7 ((lo.here _).mpr (we hd rfl));obtain⟨a,ha,e'⟩:=kn p hp;rw[e] at e';cases e';exact ha
theorem eN.but{C:Addr}{H H':Hp}{x dx pl B:Addr}{bH:List Addr}{sh:List (Int×Int)}{t u:Int}{kvs:List (Key×V)}(h:eN C H x sh t u dx pl bH)(s:SameBut B H H')(hB:H B=some (.dK kvs)):eN C H' x sh t u dx pl bH :=
 ⟨s _ _ h.o (λz=>by have:=h.o;rw[z,hB] at this;cases this),s _ _ h.p.l (λz=>by have:=h.p.l;rw[z,hB] at this;cases this),h.p.n,λi t p e1 e2=>s _ _ (h.p.t i t p e1 e2) (λz=>by have:=h.p.t i t p e1 e2;rw[z,hB] at this;cases this)⟩
theorem eN.set{C:Addr}{H H':Hp}{x dx pl:Addr}{bH:List Addr}{sh:List (Int×Int)}{t u t' u':Int}(h:eN C H x sh t u dx pl bH)(s:SameBut x H H')(hx:H' x=some (.ins C dx (gJ pl t' u'))):eN C H' x sh t' u' dx pl bH :=
 ⟨hx,s _ _ h.p.l (λz=>by have:=h.p.l;rw[z,h.o] at this;cases this),h.p.n,λi t p e1 e2=>s _ _ (h.p.t i t p e1 e2) (λz=>by have:=h.p.t i t p e1 e2;rw[z,h.o] at this;cases this)⟩
noncomputable def ad8(C:Addr):Sp:=λvs H Q _=>∃(x B dx pl:Addr) (bH:List Addr) (sh:List (Int×Int)) (t u:Int) (kvs:List (Key×V)),vs = [.ref x,.ref B]/\eN C H x sh t u dx pl bH/\0<=t/\t<sh.length/\sh.length<=4/\Rd H B (.dK kvs)/\(∃p∈sh,(cG kvs (eS p.1)).isSome=true)/\
 ∀t',lJ (λa=>(cG kvs (eS a)).isSome=true) sh t t'->Q (.int t') H
noncomputable def ad9(K:Frag)(CA CD C X:Addr):Sp:=λvs H Q E=>∃(x p dx pl:Addr) (r b:Int) (bH:List Addr) (sh:List (Int×Int)) (t u:Int) (D:Addr) (ps:List Addr) (ds:List Dr),vs = [.ref x,.ref p,.int r,.int b,.ref D]/\eN C H x sh t u dx pl bH/\iy sh/\0<=t/\t<sh.length/\jS K CA CD H D ps ds/\1<=ds.length/\ds.length<=33/\
 ((∀d∈ds,d.q.bT∈sh.map (·.1))->∀t' u' n H',SameBut x H H'->eN C H' x sh t' u' dx pl bH->jV sh ds t u t' u'->fz (dc sh t') ds=some n->Q (.int n) H')/\
 (¬ (∀d∈ds,d.q.bT∈sh.map (·.1))->∀H',ao H H'->E (.ref X) none H')
noncomputable def ad_(X:Addr):Sp:=λvs H Q _=>∃(a:Addr),vs = [.ref a]/\H a=some (qI a X)/\∀H',ao H H'->Q (.bl true) H'
noncomputable def aea:Sp:=λvs H Q _=>∃(l:Addr) (ts:List Addr) (z:List (Int×Int)),vs = [.ref l]/\Zn H l ts z/\z.length<=1000/\¬ iy z/\∀H',ao H H'->Q (.bl true) H'
noncomputable def aeb(K:Frag)(cs:List Addr)(CA CD CS:Addr):Sp:=λvs H Q _=>∃(C x p dx pl:Addr) (bH:List Addr) (sh:List (Int×Int)) (t u st c:Int) (D D':Addr) (ts:List Addr) (ps:List Dr) (P':Pl) (fp:List Addr),vs = [.ref x,.ref p,.ref D',.int st,.int c]/\
 eN CS H x sh t u dx pl bH/\iy sh/\0<=t/\t<sh.length/\C∈cs/\eK K C H p P' fp/\1<=P'.nc.length/\P'.nc.length<=1000000/\dm K CA CD H D D' ts ps/\1<=ps.length/\ps.length<=32/\0<=st/\st<=20/\st∉sh.map (·.1)/\
 ∀H',ao H H'->Q (.bl true) H'
structure Zz(H:Hp)(ts:List Addr)(z:List (Int×Int)):Prop where
 n:ts.length=z.length
 t:∀(i:Nat) (t:Addr) (p:Int×Int),ts[i]? = some t->z[i]? = some p->H t=some (.tup [.int p.1,.int p.2])
section
variable{H H':Hp}{l:Addr}{ts eT:List Addr}{z z2:List (Int×Int)}
theorem Zn.zz(h:Zn H l ts z):Zz H ts z:=⟨h.n,h.t⟩
theorem Zz.zn(h:Zz H ts z)(hl:H l=some (.lst (ts.map V.ref))):Zn H l ts z:=⟨hl,h.n,h.t⟩
theorem Zz.same(h:Zz H ts z)(s:ao H H'):Zz H' ts z:=⟨h.n,λi t p e1 e2=>s _ _ (h.t i t p e1 e2)⟩
theorem Zz.one{t:Addr}{a b:Int}(h:H t=some (.tup [.int a,.int b])):Zz H [t] [(a,b)]:=⟨rfl,λi t' p e1 e2=>by
 cases i with
 | zero=>cases e1;cases e2;exact h
 | succ i=>simp at e1⟩
theorem Zz.cat(h:Zz H ts z)(h2:Zz H eT z2):Zz H (ts++eT) (z++z2):=by
 have hn:=h.n;refine⟨by simp[h.n,h2.n],λi t p e1 e2=>?_⟩
 by_cases hi:i<ts.length
 ·rw[getElem?_append_left hi] at e1;rw[getElem?_append_left ∅] at e2
  exact h.t i t p e1 e2
 ·rw[getElem?_append_right ∅] at e1
  rw[getElem?_append_right ∅,← hn] at e2
  exact h2.t _ t p e1 e2
theorem Zz.take(h:Zz H ts z)(k:Nat):Zz H (ts.take k) (z.take k):=by
 refine⟨by simp[h.n],λi t p e1 e2=>?_⟩
 rw[List.getElem?_take] at e1 e2;split at e1
 ·rename_i hi;rw[if_pos hi] at e2;exact h.t i t p e1 e2
 ·cases e1
theorem Zz.drop(h:Zz H ts z)(k:Nat):Zz H (ts.drop k) (z.drop k):=by
 refine⟨by simp[h.n],λi t p e1 e2=>?_⟩
 rw[getElem?_drop] at e1 e2;exact h.t _ t p e1 e2
end
theorem aec{xs:List V}{k:Nat}(hk:k<xs.length):iK xs (some (k:Int)) (some ((k:Int)+1))=(xs.drop k).take 1:=by
 have e:_H.bC xs.length 0 (some (k:Int))=k:=by
  simp only[_H.bC];rw[if_neg ∅];simp;lia
 have e2:_H.bC xs.length xs.length (some ((k:Int)+1))=k+1:=by
  simp only[_H.bC];rw[if_neg ∅];lia
 unfold iK;rw[e,e2,show k+1 - k=1 by lia]
structure aed(H:Hp)(L:Addr)(bs:List Addr):Prop where
 l:H L=some (.lst (bs.map V.ref))
 n:bs.length<=4
 t:∀b∈bs,∃ts z,Zn H b ts z/\z.length<=1000/\¬ iy z
noncomputable def aee:Sp:=λvs H Q _=>∃(c:Int) (l:Addr) (ts:List Addr) (z:List (Int×Int)),vs = [.int c,.ref l]/\Zn H l ts z/\iy z/\∀L bs H',ao H H'->aed H' L bs->Q (.ref L) H'
noncomputable def aef(K:Frag)(CA CD:Addr):Sp:=λvs H Q _=>∃(S l:Addr) (iM:List Addr) (sh:List (Int×Int)) (t u:Int) (D D':Addr) (ts:List Addr) (ps:List Dr),vs = [.ref S,.ref l,.ref D']/\H S=some (.lst [.int t,.int u])/\Zn H l iM sh/\iy sh/\0<=t/\t<sh.length/\0<=u/\u<=gq sh t/\dm K CA CD H D D' ts ps/\1<=ps.length/\ps.length<=32/\ps.Pairwise (λa b=>a.n<b.n)/\(∀d∈ps,d.q.bT∈sh.map (·.1))/\
 ∀t' u' (i:Nat) a pb H',SameBut S H H'->H' S=some (.lst [.int t',.int u'])->jV sh ps t u t' u'->ts[i]? = some a->ps[i]? = some pb->fz (dc sh t') ps=some pb.n->Q (.ref a) H'
noncomputable def aeg(K:Frag)(cs:List Addr)(CA CD CS:Addr):Sp:=λvs H Q _=>∃(C ru p dx pl:Addr) (r b:Int) (bH:List Addr) (sh:List (Int×Int)) (t u:Int) (D D':Addr) (ts:List Addr) (ps:List Dr) (P':Pl) (fp:List Addr),vs = [.ref ru,.ref p,.int r,.int b,.ref D']/\
 eN CS H ru sh t u dx pl bH/\iy sh/\0<=t/\t<sh.length/\(∀d∈ps,d.q.bT∈sh.map (·.1))/\C∈cs/\eK K C H p P' fp/\P'.nc.length<=1000000/\dm K CA CD H D D' ts ps/\Ab P'.nc ps/\1<=ps.length/\
 ∀t' u' n H',SameBut ru H H'->eN CS H' ru sh t' u' dx pl bH->jV sh ps t u t' u'->fz (dc sh t') ps=some n->Q (.int n) H'
section
variable{K:Frag}{CA CD:Addr}{H H':Hp}{D D':Addr}{ts eT:List Addr}{ps eZ:List Dr}
theorem dm.ti(h:dm K CA CD H D D' ts ps){i:Int}(h0:0<=i)(h1:i<ps.length):∃tt n a b,dW (ts.map V.ref) i=some (.ref tt)/\H tt=some (.tup [.int n,a,b]):=by
 have hl:i.toNat<ts.length:=by rw[h.n];lia
 have hp:i.toNat<ps.length:=by lia
 obtain⟨tk,d,m,b,dx,ap,l,tx,m',b',aR,a⟩:=h.t _ _ _ (getElem?_eq_getElem hl) (getElem?_eq_getElem hp);have:dW (ts.map V.ref) ((i.toNat:Nat):Int)=some (.ref ts[i.toNat]):=l_ (by rw[getElem?_map,getElem?_eq_getElem hl];rfl)
 rw[toNat_of_nonneg h0] at this;exact⟨_,_,_,_,this,a.o⟩
theorem iQ.same(h:iQ K CA CD H ts ps)(s:ao H H'):iQ K CA CD H' ts ps:=⟨h.n,λi t p e1 e2=>let ⟨dx,ap,l,tx,m,b,aR,a⟩:=h.t i t p e1 e2;⟨dx,ap,l,tx,m,b,aR,a.same s⟩⟩
theorem iQ.put(h:iQ K CA CD H ts ps){a:Addr}{d:Dr}(hd:∃dx ap l ts m b aR,fO K CA CD H a d dx ap l ts m b aR)(k:Nat):iQ K CA CD H (ts.take k++a::ts.drop k) (ps.take k++d::ps.drop k):=by
 have hn:=h.n;refine⟨by simp[h.n],λi t p e1 e2=>?_⟩
 by_cases hi:i<(ts.take k).length
 ·rw[getElem?_append_left hi,List.getElem?_take_of_lt (by rw[length_take] at hi;lia)] at e1
  rw[getElem?_append_left (by rw[length_take] at hi ⊢;lia),List.getElem?_take_of_lt (by rw[length_take] at hi;lia)] at e2
  exact h.t i t p e1 e2
 ·rw[getElem?_append_right ∅] at e1
  rw[getElem?_append_right (by rw[length_take] at hi ⊢;lia),length_take,← hn,← length_take] at e2
  cases hj:i - (ts.take k).length with
  | zero =>
   rw[hj] at e1 e2;simp at e1 e2;subst e1 e2;exact hd
  | succ j =>
   rw[hj] at e1 e2;rw[getElem?_cons_succ,getElem?_drop] at e1 e2;exact h.t _ t p e1 e2
end
structure tE(K:Frag)(CA CD CS:Addr)(H6:Hp)(shl:Addr)(c9:List Addr)(x1 d1 pl:Addr)(bH:List Addr)(S:Addr)(sh:List (Int×Int))(nc:List (Int×Int))(m:Nat)(H':Hp)(Lp Dd:Addr)(eU:List Addr)(dZ:List Dr)(fF:List Addr)(d7:List Dr)(t u:Int):Prop where
 kt:dF H6 H'
 s:H' S=some (.lst [.int t,.int u])
 x:eN CS H' x1 sh t u d1 pl bH
 t0:0<=t
 t1:t<sh.length
 u0:0<=u
 u1:u<=gq sh t
 pp:dm K CA CD H' Lp Lp eU dZ
 dd:dm K CA CD H' Dd Dd fF d7
 bo:jv nc d7 dZ
 ak:∀p∈d7++dZ,p.q.bT∈sh.map (·.1)
 hm:d7.length+dZ.length=m
theorem tE.same{K:Frag}{CA CD CS:Addr}{H6:Hp}{shl:Addr}{c9:List Addr}{x1 d1 pl:Addr}{bH:List Addr}{S:Addr}{sh:List (Int×Int)}{nc:List (Int×Int)}{m:Nat}{H' H2:Hp}{Lp Dd:Addr}{eU:List Addr}{dZ:List Dr}{fF:List Addr}{d7:List Dr}{t u:Int}
  (f:tE K CA CD CS H6 shl c9 x1 d1 pl bH S sh nc m H' Lp Dd eU dZ fF d7 t u) (s:ao H' H2):tE K CA CD CS H6 shl c9 x1 d1 pl bH S sh nc m H2 Lp Dd eU dZ fF d7 t u :=
 ⟨f.kt.trans (dF.of s),s _ _ f.s,f.x.same s,f.t0,f.t1,f.u0,f.u1,f.pp.same s,f.dd.same s,f.bo,f.ak,f.hm⟩
noncomputable def Ag(K:Frag)(CA CD CS:Addr)(H6:Hp)(a p wt al shl:Addr)(c9:List Addr)(st:Int)(hd x1 d1 pl:Addr)(bH:List Addr)(S:Addr)(sh:List (Int×Int))(nc:List (Int×Int))(m:Nat)(σ:St)(H':Hp):Prop :=
 ∃(Lp Dd:Addr) (eU:List Addr) (dZ:List Dr) (fF:List Addr) (d7:List Dr) (t u:Int) (kq tF pI:Option V),σ = [some (.ref a),some (.ref p),some (.ref wt),some (.ref al),some (.ref shl),some (.ref Lp),some (.int st),some (.ref hd),some (.ref x1),some (.ref S),some (.ref Dd),kq,tF,pI]/\
  tE K CA CD CS H6 shl c9 x1 d1 pl bH S sh nc m H' Lp Dd eU dZ fF d7 t u
@[elab_as_elim] theorem Ag.el{K:Frag}{CA CD CS:Addr}{H6:Hp}{a p wt al shl:Addr}{c9:List Addr}{st:Int}{hd x1 d1 pl:Addr}{bH:List Addr}{S:Addr}{sh:List (Int×Int)}{nc:List (Int×Int)}{m:Nat}{σ:St}{H':Hp}{X:St->Prop}(h:Ag K CA CD CS H6 a p wt al shl c9 st hd x1 d1 pl bH S sh nc m σ H')
  (k:∀(Lp Dd:Addr) (eU:List Addr) (dZ:List Dr) (fF:List Addr) (d7:List Dr) (t u:Int) (kq tF pI:Option V),tE K CA CD CS H6 shl c9 x1 d1 pl bH S sh nc m H' Lp Dd eU dZ fF d7 t u->X [some (.ref a),some (.ref p),some (.ref wt),some (.ref al),some (.ref shl),some (.ref Lp),some (.int st),some (.ref hd),some (.ref x1),some (.ref S),some (.ref Dd),kq,tF,pI]):X σ:=by
 obtain⟨Lp,Dd,eU,dZ,fF,d7,t,u,kq,tF,pI,rfl,f⟩:=h;exact k Lp Dd eU dZ fF d7 t u kq tF pI f
theorem aeh{f lp mo:Int}{n:Nat}(f0:0<=f)(l1:1<=lp)(l2:lp<=18)(n4:n<=4):((List.range n).map λ(k:Nat)=>(f+(k:Int)*lp) % 19+mo).Nodup:=by
 rw[nodup_iff_pairwise_ne,pairwise_map,pairwise_iff_getElem];intro i j hi hj jh;simp only[length_range] at hi hj;simp only[List.getElem_range];have:(i=0/\j=1)\/(i=0/\j=2)\/(i=0/\j=3)\/(i=1/\j=2)\/(i=1/\j=3)\/(i=2/\j=3):=by lia
 rcases this with⟨rfl,rfl⟩ | ⟨rfl,rfl⟩ | ⟨rfl,rfl⟩ | ⟨rfl,rfl⟩ | ⟨rfl,rfl⟩ | ⟨rfl,rfl⟩ <;> lia
theorem RO:∀(as l:List Int),l.Nodup->l.length<=(l.filter λx => !decide (x∈as)).length+as.length
 | [],l,_=>by rw[List.filter_eq_self.mpr (λx _=>by simp)];exact Nat.le_refl _
 | a::as,l,nd=>by
  have ih:=RO as l nd;have e:(l.filter λx => !decide (x∈a::as))=(l.filter λx => !decide (x∈as)).filter λx=>x != a:=by
   rw[List.filter_filter];refine List.filter_congr λx _=>?_;by_cases h:x=a <;> simp[h]
  have G5:(l.filter λx => !decide (x∈as)).Nodup:=nd.sublist List.filter_sublist;rw[e,← G5.erase_eq_filter,List.length_erase];rw[length_cons];split <;> lia
theorem aei(n:Nat):((List.range n).map λ(k:Nat)=>(k:Int)).Nodup:=by
 rw[nodup_iff_pairwise_ne,pairwise_map];exact List.pairwise_lt_range.imp λh e=>by lia
noncomputable def aej:Sp:=λvs H Q _=>∃(c:Int),vs = [.int c]/\∀(l:Addr) (xs:List Int) (H':Hp),ao H H'->H l=none->H' l=some (.lst (xs.map V.int))->1<=xs.length->xs.length<=4->(∀x∈xs,0<=x/\x<=20)->xs.Nodup->Q (.ref l) H'
noncomputable def aek(K:Frag):Sp:=λvs H Q _=>∃(c jw:Int) (l t aa:Addr) (ts:List Addr) (qs:List Ak) (rc:List Int) (aP sk:Int) (sw:List Int) (ca sa na:Addr) (eE:List Addr) (nc:List (Int×Int)) (as:List Int),vs = [.int c,.ref l,.int jw,.ref t,.ref aa]/\jT H l ts qs/\qs.length<=32/\
 qW H t rc aP sk sw ca sa na eE nc/\1<=nc.length/\nc.length<=1000000/\1<=aP/\aP<=1000000000/\H aa=some (.lst (as.map V.int))/\1<=as.length/\(∀x∈as,0<=x/\x<=20)/\0<=jw/\jw<=1000000000000/\
 ∀p q m b H',ao H H'->H p=none->jt H' p q m b->qV nc.length q->q.at_=jw->(q.kind = "rest"\/q.bT∈as)->Q (.ref p) H'
noncomputable def ael(K:Frag):Sp:=λvs H Q _=>∃(sc t aa:Addr) (ns:List Int) (at_ many:Int) (rc:List Int) (aP sk:Int) (sw:List Int) (ca sa na:Addr) (eE:List Addr) (nc:List (Int×Int)) (as:List Int),vs = [.ref sc,.int at_,.int many,.ref t,.ref aa]/\aE K H sc (ns.map V.int)/\ns.length<=63/\0<=at_/\at_<=100/\0<=many/\many<=32/\
 qW H t rc aP sk sw ca sa na eE nc/\1<=nc.length/\nc.length<=1000000/\1<=aP/\aP<=1000000000/\H aa=some (.lst (as.map V.int))/\1<=as.length/\(∀x∈as,0<=x/\x<=20)/\
 ∀l ts qs H',ao H H'->H l=none->jT H' l ts qs->qs.length=many.toNat->(∀q∈qs,qV nc.length q/\q.at_<=1000000000000/\(q.kind = "rest"\/q.bT∈as))->Q (.ref l) H'
noncomputable def aem(K:Frag)(cs:List Addr)(CA CD:Addr):Sp:=λvs H Q _=>∃(C sc p t aa:Addr) (P:Pl) (fp:List Addr) (ns:List Int) (rc:List Int) (aP sk:Int) (sw:List Int) (ca sa na:Addr) (eE:List Addr) (as:List Int),vs = [.ref sc,.ref p,.ref t,.ref aa]/\C∈cs/\eK K C H p P fp/\aE K H sc (ns.map V.int)/\ns.length<=63/\
 qW H t rc aP sk sw ca sa na eE P.nc/\1<=P.nc.length/\P.nc.length<=1000000/\1<=aP/\aP<=1000000000/\H aa=some (.lst (as.map V.int))/\1<=as.length/\(∀x∈as,0<=x/\x<=20)/\
 ∀l ts ps H',ao H H'->H l=none->dm K CA CD H' l l ts ps->Ab P.nc ps->(∀p∈ps,p.q.bT∈as)->Q (.ref l) H'
noncomputable def tG(o:Option (Option V))(k:V->Prop):Prop:=match o with
 | some (some v)=>k v
 | _=>False
noncomputable def iz(x:V)(k:Int->Prop):Prop:=match x with
 | .int i=>k i
 | _=>False
noncomputable def pJ(x:V)(k:Addr->Prop):Prop:=match x with
 | .ref a=>k a
 | _=>False
noncomputable def wg(vs:List V)(k:V->Prop):Prop:=match vs with
 | [x]=>k x
 | _=>False
noncomputable def wj(vs:List V)(k:V->V->Prop):Prop:=match vs with
 | [x,y]=>k x y
 | _=>False
noncomputable def wk(vs:List V)(k:V->V->V->Prop):Prop:=match vs with
 | [x,y,z]=>k x y z
 | _=>False
noncomputable def q8(b:Bool)(x y:Prop):Prop:=match b with
 | true=>x
 | false=>y
theorem RP{v:V}{k:V->Prop}:tG (some (some v)) k=k v:=rfl
theorem RQ{i:Int}{k:Int->Prop}:iz (.int i) k=k i:=rfl
theorem RS{a:Addr}{k:Addr->Prop}:pJ (.ref a) k=k a:=rfl
theorem RT{x:V}{k:V->Prop}:wg [x] k=k x:=rfl
theorem RU{x y:V}{k:V->V->Prop}:wj [x,y] k=k x y:=rfl
theorem RV{x y z:V}{k:V->V->V->Prop}:wk [x,y,z] k=k x y z:=rfl
theorem RW{x y:Prop}:q8 true x y=x:=rfl
theorem RX{x y:Prop}:q8 false x y=y:=rfl
theorem tG.o{o:Option (Option V)}{k:V->Prop}(h:tG o k):∃v,o=some (some v)/\k v:=by
 unfold tG at h;split at h
 ·exact⟨_,rfl,h⟩
 ·exact h.elim
theorem iz.o{x:V}{k:Int->Prop}(h:iz x k):∃i,x = .int i/\k i:=by
 unfold iz at h;split at h
 ·exact⟨_,rfl,h⟩
 ·exact h.elim
theorem pJ.o{x:V}{k:Addr->Prop}(h:pJ x k):∃a,x = .ref a/\k a:=by
 unfold pJ at h;split at h
 ·exact⟨_,rfl,h⟩
 ·exact h.elim
theorem wg.o{vs:List V}{k:V->Prop}(h:wg vs k):∃x,vs = [x]/\k x:=by
 unfold wg at h;split at h
 ·exact⟨_,rfl,h⟩
 ·exact h.elim
theorem wj.o{vs:List V}{k:V->V->Prop}(h:wj vs k):∃x y,vs = [x,y]/\k x y:=by
 unfold wj at h;split at h
 ·exact⟨_,_,rfl,h⟩
 ·exact h.elim
theorem wk.o{vs:List V}{k:V->V->V->Prop}(h:wk vs k):∃x y z,vs = [x,y,z]/\k x y z:=by
 unfold wk at h;split at h
 ·exact⟨_,_,_,rfl,h⟩
 ·exact h.elim
section
variable{X:Cx}
theorem PE.mono{e:Expr}{t t':TE}(h:PE X e t)(m:∀σ H Q,t' σ H Q->t σ H Q):PE X e t':=λpins s σ H Q I q=>h pins s σ H Q I (m _ _ _ q)
noncomputable def HZ(i:Nat):TE:=λσ H Q=>tG σ[i]? λv=>Q v H
theorem ah(i:Nat){x:Str}{pos:Pos}(hN:autoParam (X.N[i]? = some x) jE)(hv:yh X.env.scope x:=by first | exact Or.inl rfl | exact Or.inr (Or.inl rfl) | exact Or.inr (Or.inr rfl))(hd:autoParam ((x == ("__debug__" : Str))=false) jB)
  (cY:(x == ("__classdict__" : Str))=false:=by decide):PE X (.Name x pos) (HZ i):=(Nl hN hv hd cY).mono λ_ _ _ h=>h.o
noncomputable def mI(g:Int->Int->V):R2:=λx y H Q=>iz x λi=>iz y λj=>Q (g i j) H
noncomputable def mU(C:Int->Int->Prop)(g:Int->Int->V):R2:=λx y H Q=>iz x λi=>iz y λj=>C i j/\Q (g i j) H
theorem cJ.mI{f:Value->Value->Sem Value}{g:Int->Int->V}(h:cJ X f (iI g)):cJ X f (mI g):=λpins s σ H x y v u Q I rx ry q =>
 let ⟨i,e1,q⟩:=q.o;let ⟨j,e2,q⟩:=q.o;h pins s σ H x y v u Q I rx ry ⟨i,j,e1,e2,q⟩
theorem cJ.mU{f:Value->Value->Sem Value}{C:Int->Int->Prop}{g:Int->Int->V}(h:cJ X f (rI C g)):cJ X f (mU C g):=λpins s σ H x y v u Q I rx ry q =>
 let ⟨i,e1,q⟩:=q.o;let ⟨j,e2,q⟩:=q.o;h pins s σ H x y v u Q I rx ry ⟨i,j,e1,e2,q⟩
theorem b_:cJ X (binaryOp .Add) (mI λi j=>.int (i+j)):=jc.mI
theorem oE:cJ X (binaryOp .Sub) (mI λi j=>.int (i - j)):=qi.mI
theorem iS:cJ X (binaryOp .Mult) (mU rT λi j=>.int (i*j)):=qj.mU
theorem H_:cJ X (binaryOp .FloorDiv) (mU yG λi j=>.int (i / j)):=EY.mU
theorem kr:cJ X (binaryOp .Mod) (mU (λ_ j=>0<j) λi j=>.int (i % j)):=NC.mU
noncomputable def wm(p:Int->Int->Prop)[∀i j,Decidable (p i j)](ta tb:TE):TT:=λσ H Q=>ta σ H λx H1=>tb σ H1 λy H2=>iz x λi=>iz y λj=>if p i j then Q true H2 else Q false H2
theorem aen{p:Int->Int->Prop}[∀i j,Decidable (p i j)]{ta tb:TE}:uE (oZ (iI λi j=>.bl (decide (p i j))) ta tb)=wm p ta tb:=by
 funext σ H Q
 unfold uE oZ wm iI;congr 1;funext x H1;congr 1;funext y H2;refine propext ⟨λ⟨i,j,e1,e2,k,e3,q⟩=>?_,λh=>?_⟩
 ·subst e1 e2;cases e3
  show if p i j then _ else _
  by_cases hp:p i j
  ·rw[if_pos hp];rw[decide_eq_true hp] at q;exact q
  ·rw[if_neg hp];rw[decide_eq_false hp] at q;exact q
 ·obtain⟨i,e1,h⟩:=h.o;obtain⟨j,e2,h⟩:=h.o;refine⟨i,j,e1,e2,decide (p i j),rfl,?_⟩;by_cases hp:p i j
  ·rw[if_pos hp] at h;rw[decide_eq_true hp];exact h
  ·rw[if_neg hp] at h;rw[decide_eq_false hp];exact h
theorem cM{op:CmpOp}{a b:Expr}{pos:Pos}{ta tb:TE}{p:Int->Int->Prop}[∀i j,Decidable (p i j)](ho:cJ X (compareOp op) (iI λi j=>.bl (decide (p i j))))(ha:PE X a ta)(hb:PE X b tb)(hm:behindInMarks op b=false):PT X (.Compare a [op] [b] pos) (wm p ta tb) :=
 by
 have h:=dG (pos:=pos) ho ha hb hm;rw[aen] at h;exact h
theorem pK:cJ X (compareOp .Eq) (iI λi j=>.bl (decide (i=j))):=λpins s σ H x y v u Q I rx ry ⟨i,j,e1,e2,q⟩=>by
 subst e1 e2;exact lZ pins s σ H _ _ v u Q I rx ry ⟨rfl,by simpa only[V.int.injEq] using q⟩
theorem RY:cJ X (compareOp .NotEq) (iI λi j=>.bl (decide (¬ i=j))):=λpins s σ H x y v u Q I rx ry ⟨i,j,e1,e2,q⟩=>by
 subst e1 e2;exact rW pins s σ H _ _ v u Q I rx ry ⟨rfl,by simpa only[V.int.injEq,decide_not] using q⟩
noncomputable def wu(c:TT)(t u:TS):TS:=λD σ H=>c σ H λb H1=>q8 b (t D σ H1) (u D σ H1)
theorem RZ{b:Bool}{x y:Prop}:(if b=true then x else y)=q8 b x y:=by cases b <;> simp[q8]
theorem fG{c:Expr}{a b:List Stmt}{tc:TT}{t u:TS}{pos:Pos}(hc:PT X c tc)(ha:fB X a t)(hb:fB X b u):PS X (.If c a b pos) (wu tc t u):=by
 have e:qc tc t u=wu tc t u:=by
  funext D σ H
  unfold qc wu;congr 1;funext b H1;exact RZ
 exact e▸dR hc ha hb
noncomputable def wz(t u:TT):TT:=λσ H Q=>t σ H λc H1=>q8 c (Q true H1) (u σ H1 Q)
noncomputable def R0(t u:TT):TT:=λσ H Q=>t σ H λc H1=>q8 c (u σ H1 Q) (Q false H1)
theorem aeo{t u:TT}:rO t u=wz t u:=by
 funext σ H Q
 unfold rO wz;congr 1;funext c H1;exact RZ
theorem jW{a:Expr}{bs:List Expr}{tA tB:TT}{pos:Pos}(h:PW X (.BoolOp .Or (a::bs) pos) (rO tA tB)):PW X (.BoolOp .Or (a::bs) pos) (wz tA tB):=aeo▸h
noncomputable def Ia(K:Frag):List V->Hp->VK->Prop:=λxs H Q=>wg xs λx=>pJ x λp=>∃ys,(aE K H p ys\/bg K H p ys)/\Q (.int ys.length) H
theorem dh:f9 X (.builtin "len") (Ia X.K):=λpins s σ H xs us Q I r h =>
 let ⟨x,e1,h⟩:=h.o;let ⟨p,e2,ys,hq,q⟩:=h.o;o9 pins s σ H xs us Q I r ⟨p,ys,by rw[e1,e2],hq,q⟩
noncomputable def Ib(K:Frag):R2:=λx y H Q=>pJ x λp=>iz y λi=>∃xs,aE K H p xs/\∃v,dW xs i=some v/\Q v H
noncomputable def Ic(K:Frag):R2:=λx y H Q=>pJ x λp=>iz y λi=>∃xs,bg K H p xs/\∃v,dW xs i=some v/\Q v H
theorem cX:qu X (Ib X.K):=λvalue slice pins s σ H x y v u Q I rx ry q hs =>
 let ⟨p,e1,q⟩:=q.o;let ⟨i,e2,xs,hx,w,hw,q⟩:=q.o;iL value slice pins s σ H x y v u Q I rx ry ⟨p,xs,i,w,e1,e2,hx,hw,q⟩ hs
theorem e_:qu X (Ic X.K):=λvalue slice pins s σ H x y v u Q I rx ry q hs =>
 let ⟨p,e1,q⟩:=q.o;let ⟨i,e2,xs,hx,w,hw,q⟩:=q.o;je value slice pins s σ H x y v u Q I rx ry ⟨p,xs,i,w,e1,e2,hx,hw,q⟩ hs
end
theorem R1{c:TT}{t u:TS}{D:Ends}{σ:St}{H:Hp}(M:St->Hp->Prop)(h:∀M':St->Hp->Prop,(∀σ H,M σ H->M' σ H)->∀B:TS,(∀D σ H,t D σ H->B D σ H)->qc c B u { D with nx:=M' } σ H)(g:∀dU H1,M dU H1->@Later ⟨D.nx⟩ dU H1):z7 (qc c t u) D σ H:=⟨M,h M (λ_ _ z=>z) t λ_ _ _ z=>z,g⟩
theorem ku{n:Nat}(h:autoParam (n<=1000) jB):n<=sizeLine:=Nat.le_trans h (by rw[j9];lia)
theorem go2{P R G:Prop}(h1:(P->R)->G)(h2:P->R):G:=h1 h2
noncomputable def bu:Sp:=λvs H Q _=>wk vs λx y z=>iz x λc=>iz y λt=>iz z λm=>0<=t/\t<=1000/\0<m/\Q (.int (aQ c t m)) H
noncomputable def cV(K:Frag):Sp:=λvs H Q _=>wj vs λx y=>pJ x λa=>iz y λk=>∃ns,aE K H a (ns.map V.int)/\ns.length<=63/\0<=k/\k<=1000/\Q (.int (gm ns k)) H
theorem aep(vs:List V)(H:Hp)(Q:VK)(E:XK)(h:bu vs H Q E):Ro vs H Q E:=by
 obtain⟨x,y,z,rfl,h1⟩:=h.o;obtain⟨c,rfl,h2⟩:=h1.o;obtain⟨t,rfl,h3⟩:=h2.o;obtain⟨m,rfl,h4⟩:=h3.o;exact⟨c,t,m,rfl,h4⟩
theorem aer{K:Frag}(vs:List V)(H:Hp)(Q:VK)(E:XK)(h:cV K vs H Q E):Rn K vs H Q E:=by
 obtain⟨x,y,rfl,h1⟩:=h.o;obtain⟨a,rfl,h2⟩:=h1.o;obtain⟨k,rfl,ns,h3⟩:=h2.o;exact⟨a,ns,k,rfl,h3⟩
end _L
namespace _W
open PySem _L PyProof.Rows
theorem R3{i j:Int}:lY (.int i) (.int j)=true:=rfl
theorem R4{i j:Str}:lY (.str i) (.str j)=true:=rfl
theorem R5{i j:Bool}:lY (.bl i) (.bl j)=true:=rfl
theorem R6: lY (.aW) (.aW)=true:=rfl
theorem R7{i:Int}:lY (.aW) (.int i)=true:=rfl
theorem R8{i:Int}:lY (.int i) (.aW)=true:=rfl
theorem R9{i:Str}:lY (.aW) (.str i)=true:=rfl
theorem R_{i:Str}:lY (.str i) (.aW)=true:=rfl
local macro_rules | `(tactic| wp_walk using $ts,*)=>do
 let a ← ("Rj Rk Of HM Q5 lz Fd HZ mI mU wm wu wz R0 Ia Ib Ic RP RQ RS RT RU RV RW RX FW HW FA Ad HV QM Og zW HE GP GU GS GR zF PX Pu mC Pw Pp Ou GB yY Fp Ov NJ z7 Q4 Fc E_ E9 Ff Fe and_assoc M3 HO.ins.injEq Gr pe gB String.reduceBEq List.lookup_cons List.lookup_nil aD HO.lst.injEq HO.dT.injEq HO.tup.injEq String.reduceEq false_and or_false false_or j9 FQ FP FL FH FI FJ OM Bool.not_eq_true' decide_eq_false_iff_not Classical.not_not EJ if_false_left if_false_right Gg EH jK List.length_map List.getElem?_nil yu uy oU yy uv uw EL yq tC oZ iI rI EU rU uE tB qc yx Nr yw yQ yN uF uH EI EA rO EB EE Nn EF E6 E5 Fq uM Fx Fy FD FE yV yW EZ E1 R3 R4 R5 R6 R7 R8 R9 R_ rT yG EX yM E4 uI yO _L.start O0 O1 O2 List.map_cons List.map_nil List.cons_append List.nil_append List.append_nil List.length_cons List.length_nil List.getElem?_cons_zero List.getElem?_cons_succ Option.some.injEq exists_eq_left exists_eq_left' exists_and_left exists_eq V.int.injEq V.ref.injEq V.bl.injEq V.ty.injEq V.str.injEq List.cons.injEq and_true true_and List.set_cons_zero List.set_cons_succ decide_eq_true_eq Nat.reduceSub Nat.reduceAdd List.replicate_succ List.replicate_zero List.replicate Int.reduceLT Int.reduceLE Int.reducePow Int.reduceToNat Int.reduceNeg Nat.reduceLT Nat.reduceLeDiff Nat.reducePow Int.reduceMul Int.reduceAdd Int.reduceSub and_self or_true true_or gt_iff_lt ge_iff_le if_true if_false Bool.false_eq_true reduceIte Nat.sub_self Nat.sub_zero".splitOn " ").toArray.mapM λx => `(Lean.Parser.Tactic.simpLemma| $(Lean.mkIdent x.toName):ident)
 let d:Array (Lean.TSyntax `term):=("T.pO T.aeS T.Uv T.w_ T.xg T.KC T.CF T.CG T.KD T.KG T.KH T.KI T.KJ T.KL T.KN T.KO T.KP T.KQ T.KR T.CM T.CN T.CO T.CQ T.CT T.CU T.CV T.CW T.CY T.CZ T.C0 T.C1 T.C3 T.C4".splitOn " ").toArray.map λx=>⟨Lean.mkIdent x.toName⟩
 let b ← (ts.getElems.flatMap λt=>if t.raw.getId == `T then d else #[t]).mapM λt => `(Lean.Parser.Tactic.simpLemma| $t:term)
 let c:=a++b
 `(tactic| simp (maxSteps:=4000000) only[$c,*])
local macro_rules | `(tactic| walk_at "rdm") => `(tactic| wp_walk using and_self)
local macro_rules | `(tactic| walk_at "rdd")=>do
 let a ← ("Rj Rk Of HM Q5 lz Fd HZ mI mU wm wu wz R0 Ia Ib Ic RP RQ RS RT RU RV RW RX FW HW FA Ad HV QM Og zW HE GP GU GS GR zF PX Pu mC Pw Pp Ou GB yY Fp Ov NJ z7 Q4 Fc E_ E9 Ff Fe and_assoc M3 HO.ins.injEq Gr pe gB String.reduceBEq List.lookup_cons List.lookup_nil aD HO.lst.injEq HO.dT.injEq HO.tup.injEq String.reduceEq false_and or_false false_or j9 FQ FP FL FH FI FJ OM Bool.not_eq_true' decide_eq_false_iff_not Classical.not_not EJ if_false_left if_false_right Gg EH jK List.length_map List.getElem?_nil yu uy oU yy uv uw EL yq tC oZ iI rI EU rU uE tB qc yx Nr yw yQ yN uF uH EI EA rO EB EE Nn EF E6 E5 Fq uM Fx Fy FD FE yV yW EZ E1 R3 R4 R5 R6 R7 R8 R9 R_ rT yG EX yM E4 uI yO _L.start O0 O1 O2 List.map_cons List.map_nil List.cons_append List.nil_append List.append_nil List.length_cons List.length_nil List.getElem?_cons_zero List.getElem?_cons_succ Option.some.injEq exists_eq_left exists_eq_left' exists_and_left exists_eq V.int.injEq V.ref.injEq V.bl.injEq V.ty.injEq V.str.injEq List.cons.injEq and_true true_and List.set_cons_zero List.set_cons_succ decide_eq_true_eq Nat.reduceSub Nat.reduceAdd List.replicate_succ List.replicate_zero List.replicate Int.reduceLT Int.reduceLE Int.reducePow Int.reduceToNat Int.reduceNeg Nat.reduceLT Nat.reduceLeDiff Nat.reducePow Int.reduceMul Int.reduceAdd Int.reduceSub and_self or_true true_or gt_iff_lt ge_iff_le if_true if_false Bool.false_eq_true reduceIte Nat.sub_self Nat.sub_zero bu cV".splitOn " ").toArray.mapM λx => `(Lean.Parser.Tactic.simpLemma| $(Lean.mkIdent x.toName):ident)
 `(tactic| dsimp only[$a,*])
seal fB PS PE PT PW PA PG rP PI PK PC PO sf
noncomputable def top(i:Nat):Stmt:=PySem.Challenge.pw_armswing_k36_shares_turns.main.body.getD i (.Pass ⟨0,0,0,0⟩)
noncomputable abbrev Ie:Stmt:=top 17
noncomputable abbrev Ig:Stmt:=top 18
noncomputable abbrev Ih:Stmt:=inClass (top 19) 0
noncomputable abbrev Ii:Stmt:=inClass (top 19) 1
noncomputable abbrev Ij:Stmt:=inClass (top 19) 2
noncomputable abbrev Ik:Stmt:=inClass (top 19) 3
noncomputable abbrev Il:Stmt:=inClass (top 19) 4
noncomputable abbrev Im:Stmt:=inClass (top 28) 0
noncomputable abbrev Io:Stmt:=top 29
noncomputable abbrev Ip:Stmt:=top 30
noncomputable abbrev Iq:Stmt:=top 31
noncomputable abbrev Ir:Stmt:=top 32
noncomputable abbrev iT:Stmt:=top 33
noncomputable abbrev kC:Stmt:=top 34
noncomputable abbrev Iu:Stmt:=top 35
noncomputable abbrev Iv:Stmt:=top 37
noncomputable abbrev Iw:Stmt:=top 38
noncomputable abbrev Iz:Stmt:=inClass (top 39) 0
noncomputable abbrev IA:Stmt:=top 47
noncomputable abbrev IB:Stmt:=top 48
noncomputable abbrev IC:Stmt:=top 49
noncomputable abbrev ID:Stmt:=top 50
noncomputable abbrev IE:Stmt:=top 51
noncomputable abbrev IF:Stmt:=top 52
noncomputable abbrev IG:Stmt:=top 53
noncomputable abbrev II:Stmt:=inClass (top 54) 0
noncomputable abbrev IJ:Stmt:=inClass (top 54) 1
noncomputable abbrev IK:Stmt:=inClass (top 54) 8
noncomputable abbrev IL:Stmt:=inClass (top 54) 9
noncomputable abbrev IM:Stmt:=top 56
noncomputable abbrev IP:Stmt:=top 57
noncomputable abbrev IQ:Stmt:=top 58
noncomputable abbrev gr:Stmt:=top 59
noncomputable abbrev IS:Stmt:=top 60
noncomputable abbrev IT:Stmt:=top 61
noncomputable abbrev IU:Stmt:=inClass (top 62) 0
noncomputable abbrev IV:Stmt:=top 64
noncomputable abbrev IW:Stmt:=top 65
noncomputable abbrev IX:Stmt:=top 66
noncomputable abbrev IY:Stmt:=top 67
noncomputable abbrev IZ:Stmt:=top 68
noncomputable abbrev I0:Stmt:=top 69
noncomputable abbrev I_:Stmt:=top 70
noncomputable abbrev Ja:Stmt:=top 71
noncomputable abbrev Jb:Stmt:=top 72
noncomputable abbrev Jc:Stmt:=top 73
noncomputable abbrev Jd:Stmt:=top 74
noncomputable abbrev Je:Stmt:=top 75
noncomputable abbrev Jf:Stmt:=top 76
noncomputable abbrev Jg:Stmt:=top 77
noncomputable abbrev Jh:Stmt:=top 78
noncomputable abbrev Ji:Stmt:=top 79
noncomputable abbrev Jj:Stmt:=top 80
noncomputable abbrev Jk:Stmt:=top 81
noncomputable abbrev Jl:Stmt:=top 82
noncomputable abbrev Jm:Stmt:=top 83
noncomputable abbrev kD:Stmt:=top 84
theorem Ah:bB ["shares", "askers", "asker", "share"] ["shares"] (a_ Ie):=bM
theorem Ai:bB ["dues", "least", "due", "number"] ["dues"] (a_ Ig):=bM
theorem aes:bB ["self", "shares"] ["self", "shares"] (a_ Ih):=bM
theorem aet:bB ["self"] ["self"] (a_ Ii):=bM
theorem Jo:bB ["self", "plate", "ring", "beat", "dues", "least", "pair"] ["self", "plate", "ring", "beat", "dues"] (a_ Ij):=bM
theorem Jp:bB ["self", "least", "known", "asker"] ["self", "least"] (a_ Ik):=bM
theorem Jq:bB ["self", "least", "turn"] ["self", "least"] (a_ Il):=bM
theorem aeu:bB ["self", "kind", "first", "many", "marks", "at", "asker", "latest", "behind", "early"] ["self", "kind", "first", "many", "marks", "at", "asker", "latest", "behind", "early"] (a_ Im):=bM
theorem aev:bB ["number", "least", "greatest", "words"] ["number", "least", "greatest", "words"] (a_ Io):=bM
theorem Aj:bB ["behind", "ahead", "number"] ["behind"] (a_ Ip):=bM
theorem aew:bB ["first", "many", "at", "asker", "latest", "behind"] ["first", "many", "at", "asker", "latest", "behind"] (a_ Iq):=bM
theorem aex:bB ["behind"] ["behind"] (a_ Ir):=bM
theorem Sa:bB ["first", "many", "at", "asker", "latest", "behind", "others"] ["first", "many", "at", "asker", "latest", "behind"] (a_ iT):=bM
theorem Jr:bB ["first", "marks", "at", "asker", "latest", "behind", "early", "others", "mark"] ["first", "marks", "at", "asker", "latest", "behind", "early"] (a_ kC):=bM
theorem aey:bB ["at"] ["at"] (a_ Iu):=bM
theorem aez:bB ["plate", "ask"] ["plate", "ask"] (a_ Iv):=bM
theorem aeA:bB ["plate", "number", "ask", "e"] ["plate", "number", "ask"] (a_ Iw):=bM
theorem aeB:bB ["self", "plate", "number", "ask"] ["self", "plate", "number", "ask"] (a_ Iz):=bM
theorem Al:bB ["zones", "rings", "cells", "in_all"] ["zones"] (a_ IA):=bM
theorem Js:bB ["zones", "lap", "skew", "rings", "cells"] ["zones", "lap", "skew"] (a_ IB):=bM
theorem Sd:bB ["swing", "rings", "far"] ["swing", "rings"] (a_ IC):=bM
theorem Jt:bB ["swing", "far", "part"] ["swing"] (a_ ID):=bM
theorem Am:bB ["zones", "counts", "rings", "cells"] ["zones"] (a_ IE):=bM
theorem wA:bB ["ring_cells", "spares", "cells", "ring", "count", "place"] ["ring_cells", "spares"] (a_ IF):=bM
theorem An:bB ["number_cells", "numbers", "number", "cell"] ["number_cells"] (a_ IG):=bM
theorem aeC:bB ["self", "zones", "lap", "skew", "swing"] ["self", "zones", "lap", "skew", "swing"] (a_ II):=bM
theorem aeD:bB ["self"] ["self"] (a_ IJ):=bM
theorem aeE:bB ["self", "ring", "place"] ["self", "ring", "place"] (a_ IK):=bM
theorem aeF:bB ["self", "number"] ["self", "number"] (a_ IL):=bM
theorem aeG:bB ["spares", "ring_cells"] ["spares", "ring_cells"] (a_ IM):=bM
theorem Ao:bB ["plate", "bad", "found", "ring", "place"] ["plate", "bad"] (a_ IP):=bM
theorem aeH:bB ["number_cells", "bad_cells"] ["number_cells", "bad_cells"] (a_ IQ):=bM
theorem aeI:bB ["ring", "rings"] ["ring", "rings"] (a_ gr):=bM
theorem Aq:bB ["ring_cells", "spares", "ring", "used", "other", "count", "place"] ["ring_cells", "spares", "ring", "used"] (a_ IS):=bM
theorem tH:bB ["ring_cells", "spares", "number_cells", "bad_cells", "moves", "used", "number", "cell", "other"] ["ring_cells", "spares", "number_cells", "bad_cells"] (a_ IT):=bM
theorem wB:bB ["self", "zones", "lap", "skew", "swing", "spares", "bad", "bad_cells", "number", "cell", "other"] ["self", "zones", "lap", "skew", "swing", "spares", "bad"] (a_ IU):=bM
theorem aeJ:bB ["_law_script", "_law_k"] ["_law_script", "_law_k"] (a_ IV):=bM
theorem aeK:bB ["_law_cell_here", "_law_turn_here", "_law_many"] ["_law_cell_here", "_law_turn_here", "_law_many"] (a_ IW):=bM
theorem wC:bB ["_law_cell_here", "_law_rings", "_law_step", "_law_swing_here", "_law_k"] ["_law_cell_here", "_law_rings"] (a_ IX):=bM
theorem As:bB ["_law_cell_here", "_law_zones_here", "_law_k"] ["_law_cell_here"] (a_ IY):=bM
theorem pL:bB ["_law_counts", "_law_spares", "_law_bad_here", "_law_cells_here", "_law_free", "_law_ring", "_law_place", "_law_number_here", "_law_best"] ["_law_counts", "_law_spares", "_law_bad_here"] (a_ IZ):=bM
theorem wD:bB ["_law_cell_here", "_law_counts", "_law_spares", "_law_bad_here", "_law_k", "_law_ring", "_law_place"] ["_law_cell_here", "_law_counts", "_law_spares"] (a_ I0):=bM
theorem gZ:bB ["_law_script", "_law_zones_here", "_law_cell_here", "_law_product", "_law_counts", "_law_many", "_law_cells_here", "_law_lap", "_law_skew", "_law_swing_here", "_law_spares", "_law_bad_here", "_law_plate"] ["_law_script"] (a_ I_):=bM
theorem Au:bB ["_law_cell_here", "_law_first", "_law_leap", "_law_more"] ["_law_cell_here"] (a_ Ja):=bM
theorem Ju:bB ["_law_cell_here", "_law_row_here", "_law_some", "_law_picks"] ["_law_cell_here", "_law_row_here"] (a_ Jb):=bM
theorem mV:bB ["_law_cell_here", "_law_row_here", "_law_beat", "_law_world", "_law_askers_here", "_law_kind", "_law_sort", "_law_total", "_law_first", "_law_many", "_law_marks", "_law_asker", "_law_latest"] ["_law_cell_here", "_law_row_here", "_law_beat", "_law_world", "_law_askers_here"] (a_ Jc):=bM
theorem q9:bB ["_law_script", "_law_at", "_law_many", "_law_world", "_law_askers_here", "_law_row_here", "_law_beat", "_law_k", "_law_cell_here", "_law_gaps"] ["_law_script", "_law_at", "_law_many", "_law_world", "_law_askers_here"] (a_ Jd):=bM
theorem aeL:bB ["_law_ask_here"] ["_law_ask_here"] (a_ Je):=bM
theorem aeM:bB ["_law_one"] ["_law_one"] (a_ Jf):=bM
theorem wF:bB ["_law_script", "_law_plate", "_law_world", "_law_askers_here", "_law_row_here", "_law_pool_here", "_law_k", "_law_number_here"] ["_law_script", "_law_plate", "_law_world", "_law_askers_here"] (a_ Jg):=bM
theorem Av:bB ["_law_rule", "_law_plate", "_law_ring", "_law_beat", "_law_dues", "_law_handed", "_law_found"] ["_law_rule", "_law_plate", "_law_ring", "_law_beat", "_law_dues"] (a_ Jh):=bM
theorem Se:bB ["_law_e", "_law_other"] ["_law_e"] (a_ Ji):=bM
theorem Aw:bB ["_law_shares", "_law_no_here", "_law_e"] ["_law_shares"] (a_ Jj):=bM
theorem oF:bB ["_law_rule", "_law_plate", "_law_dues", "_law_stranger", "_law_cell_here", "_law_at", "_law_number_here", "_law_handed", "_law_no_here", "_law_e"] ["_law_rule", "_law_plate", "_law_dues", "_law_stranger", "_law_cell_here"] (a_ Jk):=bM
theorem pM:bB ["_law_cell_here", "_law_shares", "_law_at", "_law_asker", "_law_share", "_law_bad_here", "_law_spoiled", "_law_long", "_law_twice"] ["_law_cell_here", "_law_shares"] (a_ Jl):=bM
theorem wG:bB ["_law_state", "_law_shares", "_law_dues", "_law_waiting", "_law_at"] ["_law_state", "_law_shares", "_law_dues"] (a_ Jm):=bM
theorem g7:bB ["_law_script", "_law_plate", "_law_world", "_law_askers_here", "_law_shares", "_law_pool_here", "_law_stranger", "_law_handed", "_law_rule", "_law_state", "_law_dues", "_law_cell_here", "_law_many", "_law_best"] ["_law_script"] (a_ kD):=bM
set_option genInjectivity false
set_option genSizeOf false
structure pN where
 Ax:Addr
 Ay:FuncData
 Az:Addr
 AA:FuncData
 AB:Addr
 AD:FuncData
 AE:Addr
 AF:FuncData
 AG:Addr
 AH:FuncData
 AI:Addr
 AJ:FuncData
 AK:Addr
 AL:FuncData
 AM:Addr
 AN:FuncData
 AO:Addr
 AQ:FuncData
 AR:Addr
 AS:FuncData
 AU:Addr
 AV:FuncData
 AW:Addr
 AX:FuncData
 AY:Addr
 wH:FuncData
 aeN:Tok
 AZ:Addr
 A0:FuncData
 aeO:Tok
 A1:Addr
 A2:FuncData
 A3:Addr
 A4:FuncData
 A5:Addr
 A6:FuncData
 A7:Addr
 A8:FuncData
 A9:Addr
 A_:FuncData
 Ba:Addr
 Bb:FuncData
 Bc:Addr
 Bd:FuncData
 Be:Addr
 Bf:FuncData
 Bg:Addr
 Bh:FuncData
 Bj:Addr
 Bk:FuncData
 Bl:Addr
 Bm:FuncData
 wI:Addr
 Bo:FuncData
 tK:Addr
 Bp:FuncData
 tL:Addr
 Bq:FuncData
 tN:Addr
 Br:FuncData
 Bs:Addr
 Bt:FuncData
 Bu:Addr
 Bv:FuncData
 Bw:Addr
 By:FuncData
 wJ:Addr
 tO:FuncData
 BA:Addr
 BB:FuncData
 BC:Addr
 BD:FuncData
 BE:Addr
 BF:FuncData
 BG:Addr
 BH:FuncData
 BI:Addr
 BJ:FuncData
 BK:Addr
 BL:FuncData
 BN:Addr
 BO:FuncData
 BP:Addr
 BQ:FuncData
 BR:Addr
 BS:FuncData
 BU:Addr
 BV:FuncData
 BW:Addr
 BX:FuncData
 BY:Addr
 BZ:FuncData
 B0:Addr
 B3:FuncData
 B4:Addr
 B5:FuncData
 B6:Addr
 B7:FuncData
 B8:Addr
 B9:FuncData
 B_:Addr
 Ca:FuncData
 Cb:Addr
 Cc:FuncData
 Cd:Addr
 Ce:FuncData
 Cf:Addr
 Cg:FuncData
 Ci:Addr
 Cj:FuncData
 Ck:Addr
 Cm:FuncData
 Cn:Addr
 Co:FuncData
 Cp:Addr
 Cq:FuncData
 cB:Addr
 bJ:Addr
 cg:Addr
 bQ:Addr
 bK:Addr
 kE:Addr
 iU:Addr
 iV:Addr
 kF:Addr
 bN:Addr
 iW:Addr
 bw:Addr
 br:Addr
 wK:Tok
 wL:Tok
 wM:Tok
 wN:Tok
 wO:Tok
 wQ:Tok
 wR:Tok
 wU:Tok
 wV:Tok
 wW:Tok
 wX:Tok
 wY:Tok
 wZ:Tok
 w4:Tok
 w5:Tok
 w6:Tok
structure Tx(K:Frag)(mg:Str->Option Value)(A:pN):Prop where
 Jv:aO K "check_shares" "check_shares" Ie A.Ax A.Ay
 Sf:Binds K A.Ay ["shares"] []
 Sg:mg "check_shares" = some (.ref A.Ax)
 Jw:aO K "least_by_asker" "least_by_asker" Ig A.Az A.AA
 Sh:Binds K A.AA ["dues"] []
 Si:mg "least_by_asker" = some (.ref A.Az)
 Sj:aO K "__init__" "Shares.__init__" Ih A.AB A.AD
 Jx:Binds K A.AD ["self", "shares"] []
 Sk:aO K "anew" "Shares.anew" Ii A.AE A.AF
 Sl:Binds K A.AF ["self"] []
 Sm:Meth K A.cB "anew" A.AE
 So:aO K "pick" "Shares.pick" Ij A.AG A.AH
 Jy:Binds K A.AH ["self", "plate", "ring", "beat", "dues"] []
 Jz:Meth K A.cB "pick" A.AG
 Sq:aO K "check_askers" "Shares.check_askers" Ik A.AI A.AJ
 Ss:Binds K A.AJ ["self", "least"] []
 Su:Meth K A.cB "check_askers" A.AI
 Sv:aO K "next_turn" "Shares.next_turn" Il A.AK A.AL
 Sw:Binds K A.AL ["self", "least"] []
 Sx:Meth K A.cB "next_turn" A.AK
 Sy:aO K "__init__" "Ask.__init__" Im A.AM A.AN
 Cr:Binds K A.AN ["self", "kind", "first", "many", "marks", "at", "asker", "latest", "behind", "early"] []
 mW:aO K "check_between" "check_between" Io A.AO A.AQ
 oG:Binds K A.AQ ["number", "least", "greatest", "words"] []
 oH:mg "check_between" = some (.ref A.AO)
 JA:aO K "check_behind" "check_behind" Ip A.AR A.AS
 Sz:Binds K A.AS ["behind"] []
 SA:mg "check_behind" = some (.ref A.AR)
 Cs:aO K "check_fields" "check_fields" Iq A.AU A.AV
 JB:Binds K A.AV ["first", "many", "at", "asker", "latest", "behind"] []
 JC:mg "check_fields" = some (.ref A.AU)
 Ct:aO K "told_behind" "told_behind" Ir A.AW A.AX
 JD:Binds K A.AX ["behind"] []
 JE:mg "told_behind" = some (.ref A.AW)
 Cu:ve K "reading" "reading" iT A.AY A.wH
 SD:Binds K A.wH ["first", "many", "at", "asker", "latest", "behind"] [.none,.none]
 SE:Binds K A.wH ["first", "many", "at", "asker", "latest", "behind"] []
 JF:mg "reading" = some (.ref A.AY)
 JG:ve K "writing" "writing" kC A.AZ A.A0
 SG:Binds K A.A0 ["first", "marks", "at", "asker", "latest", "behind", "early"] []
 SH:mg "writing" = some (.ref A.AZ)
 JH:aO K "resting" "resting" Iu A.A1 A.A2
 SI:Binds K A.A2 ["at"] []
 SJ:mg "resting" = some (.ref A.A1)
 JI:aO K "stretch" "stretch" Iv A.A3 A.A4
 SK:Binds K A.A4 ["plate", "ask"] []
 SM:mg "stretch" = some (.ref A.A3)
 JJ:aO K "stretch_by_number" "stretch_by_number" Iw A.A5 A.A6
 SN:Binds K A.A6 ["plate", "number", "ask"] []
 SO:mg "stretch_by_number" = some (.ref A.A5)
 SQ:aO K "__init__" "Due.__init__" Iz A.A7 A.A8
 Cv:Binds K A.A8 ["self", "plate", "number", "ask"] []
 JK:aO K "check_zones" "check_zones" IA A.A9 A.A_
 SR:Binds K A.A_ ["zones"] []
 SS:mg "check_zones" = some (.ref A.A9)
 JL:aO K "check_turning" "check_turning" IB A.Ba A.Bb
 SV:Binds K A.Bb ["zones", "lap", "skew"] []
 SW:mg "check_turning" = some (.ref A.Ba)
 JM:aO K "check_swing" "check_swing" IC A.Bc A.Bd
 SX:Binds K A.Bd ["swing", "rings"] []
 SY:mg "check_swing" = some (.ref A.Bc)
 JN:aO K "check_no_detour" "check_no_detour" ID A.Be A.Bf
 S0:Binds K A.Bf ["swing"] []
 S2:mg "check_no_detour" = some (.ref A.Be)
 JO:aO K "cells_by_ring" "cells_by_ring" IE A.Bg A.Bh
 S3:Binds K A.Bh ["zones"] []
 S4:mg "cells_by_ring" = some (.ref A.Bg)
 Cw:aO K "cells_by_number" "cells_by_number" IF A.Bj A.Bk
 JP:Binds K A.Bk ["ring_cells", "spares"] []
 JQ:mg "cells_by_number" = some (.ref A.Bj)
 Cy:aO K "numbers_by_cell" "numbers_by_cell" IG A.Bl A.Bm
 JR:Binds K A.Bm ["number_cells"] []
 JS:mg "numbers_by_cell" = some (.ref A.Bl)
 S5:aO K "__init__" "Plate.__init__" II A.wI A.Bo
 JT:Binds K A.Bo ["self", "zones", "lap", "skew", "swing"] []
 S6:aO K "rings" "Plate.rings" IJ A.tK A.Bp
 aeP:Binds K A.Bp ["self"] []
 S7:Meth K A.bQ "rings" A.tK
 S8:Meth K A.bK "rings" A.tK
 S9:aO K "has_cell" "Plate.has_cell" IK A.tL A.Bq
 S_:Binds K A.Bq ["self", "ring", "place"] []
 Tc:Meth K A.bQ "has_cell" A.tL
 Td:Meth K A.bK "has_cell" A.tL
 Te:aO K "cell_at" "Plate.cell_at" IL A.tN A.Br
 Tf:Binds K A.Br ["self", "number"] []
 Tg:Meth K A.bQ "cell_at" A.tN
 Ti:Meth K A.bK "cell_at" A.tN
 JU:aO K "check_spares" "check_spares" IM A.Bs A.Bt
 Tj:Binds K A.Bt ["spares", "ring_cells"] []
 Tn:mg "check_spares" = some (.ref A.Bs)
 JV:aO K "bad_by_cell" "bad_by_cell" IP A.Bu A.Bv
 To:Binds K A.Bv ["plate", "bad"] []
 Tp:mg "bad_by_cell" = some (.ref A.Bu)
 JW:aO K "bad_numbers" "bad_numbers" IQ A.Bw A.By
 Tq:Binds K A.By ["number_cells", "bad_cells"] []
 Tr:mg "bad_numbers" = some (.ref A.Bw)
 JX:aO K "nearest_rings" "nearest_rings" gr A.wJ A.tO
 Tt:Binds K A.tO ["ring", "rings"] []
 Tu:mg "nearest_rings" = some (.ref A.wJ)
 JY:aO K "free_kept_cell" "free_kept_cell" IS A.BA A.BB
 Tv:Binds K A.BB ["ring_cells", "spares", "ring", "used"] []
 Tw:mg "free_kept_cell" = some (.ref A.BA)
 JZ:aO K "lay_elsewhere" "lay_elsewhere" IT A.BC A.BD
 Tz:Binds K A.BD ["ring_cells", "spares", "number_cells", "bad_cells"] []
 TF:mg "lay_elsewhere" = some (.ref A.BC)
 TJ:aO K "__init__" "Mended.__init__" IU A.BE A.BF
 TL:Binds K A.BF ["self", "zones", "lap", "skew", "swing", "spares", "bad"] []
 iA:aO K "_law_cell" "_law_cell" IV A.BG A.BH
 iX:Binds K A.BH ["_law_script", "_law_k"] []
 iY:mg "_law_cell" = some (.ref A.BG)
 bR:aO K "_law_draw" "_law_draw" IW A.BI A.BJ
 bU:Binds K A.BJ ["_law_cell_here", "_law_turn_here", "_law_many"] []
 bV:mg "_law_draw" = some (.ref A.BI)
 J0:aO K "_law_swing" "_law_swing" IX A.BK A.BL
 TM:Binds K A.BL ["_law_cell_here", "_law_rings"] []
 TQ:mg "_law_swing" = some (.ref A.BK)
 J5:aO K "_law_zones" "_law_zones" IY A.BN A.BO
 TR:Binds K A.BO ["_law_cell_here"] []
 TU:mg "_law_zones" = some (.ref A.BN)
 J6:aO K "_law_cells" "_law_cells" IZ A.BP A.BQ
 TV:Binds K A.BQ ["_law_counts", "_law_spares", "_law_bad_here"] []
 TX:mg "_law_cells" = some (.ref A.BP)
 J7:aO K "_law_bad" "_law_bad" I0 A.BR A.BS
 TY:Binds K A.BS ["_law_cell_here", "_law_counts", "_law_spares"] []
 TZ:mg "_law_bad" = some (.ref A.BR)
 J8:aO K "_law_made_plate" "_law_made_plate" I_ A.BU A.BV
 T3:Binds K A.BV ["_law_script"] []
 T4:mg "_law_made_plate" = some (.ref A.BU)
 J9:aO K "_law_askers" "_law_askers" Ja A.BW A.BX
 T6:Binds K A.BX ["_law_cell_here"] []
 T7:mg "_law_askers" = some (.ref A.BW)
 Cz:aO K "_law_behind" "_law_behind" Jb A.BY A.BZ
 J_:Binds K A.BZ ["_law_cell_here", "_law_row_here"] []
 Ka:mg "_law_behind" = some (.ref A.BY)
 Kc:aO K "_law_ask" "_law_ask" Jc A.B0 A.B3
 T8:Binds K A.B3 ["_law_cell_here", "_law_row_here", "_law_beat", "_law_world", "_law_askers_here"] []
 T9:mg "_law_ask" = some (.ref A.B0)
 Kd:aO K "_law_row" "_law_row" Jd A.B4 A.B5
 T_:Binds K A.B5 ["_law_script", "_law_at", "_law_many", "_law_world", "_law_askers_here"] []
 Ua:mg "_law_row" = some (.ref A.B4)
 CB:aO K "_law_made" "_law_made" Je A.B6 A.B7
 Ke:Binds K A.B7 ["_law_ask_here"] []
 Kf:mg "_law_made" = some (.ref A.B6)
 Ub:aO K "_law_number" "_law_number" Jf A.B8 A.B9
 Uc:Binds K A.B9 ["_law_one"] []
 Ud:mg "_law_number" = some (.ref A.B8)
 Kg:aO K "_law_pool" "_law_pool" Jg A.B_ A.Ca
 Ue:Binds K A.Ca ["_law_script", "_law_plate", "_law_world", "_law_askers_here"] []
 Ug:mg "_law_pool" = some (.ref A.B_)
 Kh:aO K "_law_picked" "_law_picked" Jh A.Cb A.Cc
 Uh:Binds K A.Cc ["_law_rule", "_law_plate", "_law_ring", "_law_beat", "_law_dues"] []
 Ui:mg "_law_picked" = some (.ref A.Cb)
 CC:aO K "_law_no" "_law_no" Ji A.Cd A.Ce
 Kl:Binds K A.Ce ["_law_e"] []
 Km:mg "_law_no" = some (.ref A.Cd)
 Kn:aO K "_law_no_shares" "_law_no_shares" Jj A.Cf A.Cg
 Uj:Binds K A.Cg ["_law_shares"] []
 Uk:mg "_law_no_shares" = some (.ref A.Cf)
 Ko:aO K "_law_no_pick" "_law_no_pick" Jk A.Ci A.Cj
 Ul:Binds K A.Cj ["_law_rule", "_law_plate", "_law_dues", "_law_stranger", "_law_cell_here"] []
 Um:mg "_law_no_pick" = some (.ref A.Ci)
 Kq:aO K "_law_bad_shares" "_law_bad_shares" Jl A.Ck A.Cm
 Uo:Binds K A.Cm ["_law_cell_here", "_law_shares"] []
 Up:mg "_law_bad_shares" = some (.ref A.Ck)
 Kr:aO K "_law_turn" "_law_turn" Jm A.Cn A.Co
 Uq:Binds K A.Co ["_law_state", "_law_shares", "_law_dues"] []
 Ur:mg "_law_turn" = some (.ref A.Cn)
 Ut:aO K "law" "law" kD A.Cp A.Cq
 aeQ:Binds K A.Cq ["_law_script"] []
 aeR:mg "law" = some (.ref A.Cp)
 Uu:Pd K A.bQ "__init__" A.wI
 Ks:findIn K (.ref A.bK) "__class__" = some (some (.builtin "object.__class__"))
 Ku:W.specialIn K (.builtin "object.__class__") "__get__" = some (some (.builtin "getset_descriptor.__get__"))
 Kv:W.takesIn K (.builtin "object.__class__")=some true
 Kw:W.mroIn K A.bK (.type "object")=some true
 Ky:kitOne K (.ref A.bK) (.ref A.bQ)=some true
 pO:fH K A.cB
 Kz:Mk K A.cB A.AB
 KA:mg "Shares" = some (.ref A.cB)
 KC:cC K A.cB "pairs"
 CF:cC K A.cB "turn"
 CG:cC K A.cB "used"
 aeS:fH K A.bJ
 CH:Mk K A.bJ A.AM
 CI:mg "Ask" = some (.ref A.bJ)
 KD:cC K A.bJ "kind"
 KG:cC K A.bJ "first"
 KH:cC K A.bJ "many"
 KI:cC K A.bJ "marks"
 KJ:cC K A.bJ "at"
 KL:cC K A.bJ "asker"
 KN:cC K A.bJ "latest"
 KO:cC K A.bJ "behind"
 KP:cC K A.bJ "early"
 Uv:fH K A.cg
 CJ:Mk K A.cg A.A7
 CK:mg "Due" = some (.ref A.cg)
 KQ:cC K A.cg "number"
 KR:cC K A.cg "ask"
 CM:cC K A.cg "cells"
 w_:fH K A.bQ
 Uw:Mk K A.bQ A.wI
 KS:mg "Plate" = some (.ref A.bQ)
 CN:cC K A.bQ "ring_cells"
 CO:cC K A.bQ "lap"
 CQ:cC K A.bQ "skew"
 CT:cC K A.bQ "swing"
 CU:cC K A.bQ "number_cells"
 CV:cC K A.bQ "cell_numbers"
 xg:fH K A.bK
 Ux:Mk K A.bK A.BE
 Uy:mg "Mended" = some (.ref A.bK)
 CW:cC K A.bK "ring_cells"
 CY:cC K A.bK "lap"
 CZ:cC K A.bK "skew"
 C0:cC K A.bK "swing"
 C1:cC K A.bK "number_cells"
 C3:cC K A.bK "cell_numbers"
 C4:cC K A.bK "moves"
 Uz:mg "MOST_PAIRS" = some (.int 4 A.wK)
 UA:mg "GREATEST_ASKER_shares" = some (.int 20 A.wL)
 UB:mg "GREATEST_SHARE" = some (.int 4 A.wM)
 UC:mg "MOST_CELLS" = some (.int 16 A.wN)
 UD:mg "GREATEST_FIRST" = some (.int 1000000 A.wO)
 UE:mg "GREATEST_MARK" = some (.int 1000000000 A.wQ)
 KU:mg "GREATEST_AT" = some (.int 1000000000000 A.wR)
 UG:mg "GREATEST_ASKER_asks" = some (.int 20 A.wU)
 UH:mg "GREATEST_LATEST" = some (.int 10000000000000 A.wV)
 UI:mg "GREATEST_BEHIND" = some (.int 99 A.wW)
 UJ:mg "MOST_ZONES" = some (.int 5 A.wX)
 UK:mg "MOST_RINGS_IN_ZONE" = some (.int 40 A.wY)
 UL:mg "MOST_CELLS_IN_RING" = some (.int 60 A.wZ)
 UM:mg "LEAST_RINGS" = some (.int 2 A.w4)
 UN:mg "MOST_RINGS" = some (.int 120 A.w5)
 KW:mg "MOST_BEATS" = some (.int 1000000000 A.w6)
 xh:mg "abs" = none
 C5:mg "all" = none
 C6:mg "bool" = none
 C7:mg "dict" = none
 tQ:mg "enumerate" = none
 tR:mg "int" = none
 pQ:mg "isinstance" = none
 cz:mg "len" = none
 tT:mg "list" = none
 xj:mg "max" = none
 mX:mg "min" = none
 e7:mg "range" = none
 C8:mg "set" = none
 q_:mg "sorted" = none
 C9:mg "sum" = none
 rm:mg "tuple" = none
 UO:A.tO.code = .ref A.bw
 C_:mg "ValueError" = none
 KY:mg "ArmError" = some (.ref A.kE)
 Dc:excIn K A.kE [.type "ValueError",.type "Exception",.type "BaseException",.type "object"] "ValueError.__new__" = true
 KZ:k_ K A.kE
 UP:mg "NoPlate" = some (.ref A.iU)
 De:excIn K A.iU [.type "ValueError",.type "Exception",.type "BaseException",.type "object"] "ValueError.__new__" = true
 aeT:k_ K A.iU
 UQ:mg "NoAsk" = some (.ref A.iV)
 Df:excIn K A.iV [.type "ValueError",.type "Exception",.type "BaseException",.type "object"] "ValueError.__new__" = true
 aeU:k_ K A.iV
 UR:mg "NoOrder" = some (.ref A.kF)
 rq:mg "NoRule" = some (.ref A.bN)
 oJ:excIn K A.bN [.type "ValueError",.type "Exception",.type "BaseException",.type "object"] "ValueError.__new__" = true
 K4:k_ K A.bN
 Dg:qJ K A.bN
 Dh:(clsIn K A.bN).isSome=true
 K5:kitOne K (.ref A.bN) (.ref A.kE)=some true
 K6:subIn K A.bN (.ref A.kE)=true
 Di:kitOne K (.ref A.bN) (.ref A.iU)=some false
 aeV:subIn K A.bN (.ref A.iU)=false
 Dj:kitOne K (.ref A.bN) (.ref A.iV)=some false
 aeW:subIn K A.bN (.ref A.iV)=false
 Dk:kitOne K (.ref A.bN) (.ref A.kF)=some false
 aeX:subIn K A.bN (.ref A.kF)=false
 Dl:kitOne K (.ref A.bN) (.ref A.bN)=some true
 aeY:subIn K A.bN (.ref A.bN)=true
 Dm:kitOne K (.ref A.bN) (.ref A.iW)=some false
 aeZ:subIn K A.bN (.ref A.iW)=false
 Dn:kitOne K (.ref A.bN) (.type "ValueError")=some true
 US:mg "TooMany" = some (.ref A.iW)
 Dp:excIn K A.iW [.type "ValueError",.type "Exception",.type "BaseException",.type "object"] "ValueError.__new__" = true
 ae0:k_ K A.iW
theorem Tx.ae1{K:Frag}{mg:Str->Option Value}{A:pN}(T:Tx K mg A):CP K A.bQ:=⟨T.w_,T.CN,T.CO,T.CQ,T.CT,T.CU,T.CV⟩
theorem Tx.ae2{K:Frag}{mg:Str->Option Value}{A:pN}(T:Tx K mg A):CP K A.bK:=⟨T.xg,T.CW,T.CY,T.CZ,T.C0,T.C1,T.C3⟩
theorem Tx.aiQ{K:Frag}{mg:Str->Option Value}{A:pN}(T:Tx K mg A):∀C∈[A.bQ,A.bK],fH K C/\Meth K C "rings" A.tK:=by
 intro C hC;simp only[mem_cons,not_mem_nil,or_false] at hC;rcases hC with rfl | rfl
 ·exact⟨T.w_,T.S7⟩
 ·exact⟨T.xg,T.S8⟩
theorem Tx.ae3{K:Frag}{mg:Str->Option Value}{A:pN}(T:Tx K mg A):∀C∈[A.bQ,A.bK],fH K C/\Meth K C "has_cell" A.tL:=by
 intro C hC;simp only[mem_cons,not_mem_nil,or_false] at hC;rcases hC with rfl | rfl
 ·exact⟨T.w_,T.Tc⟩
 ·exact⟨T.xg,T.Td⟩
theorem Tx.ae4{K:Frag}{mg:Str->Option Value}{A:pN}(T:Tx K mg A):∀C∈[A.bQ,A.bK],fH K C/\Meth K C "cell_at" A.tN:=by
 intro C hC;simp only[mem_cons,not_mem_nil,or_false] at hC;rcases hC with rfl | rfl
 ·exact⟨T.w_,T.Tg⟩
 ·exact⟨T.xg,T.Ti⟩
local macro_rules | `(tactic| walk_at "rdt") => `(tactic| wp_walk using $(Lean.mkIdent `T))
section
variable{P:Program}{w:World}{K:Frag}{mg:Str->Option Value}{base:Heap}{A:pN}
theorem ae5(T:Tx K mg A)(aC:bF mg base A.bw A.br):bq P w K mg base (gi P w base) 1 A.Ax A.Ay ["shares"] (ad2 A.bN):=by
 refine T.Jv.zD Ah (λvs H Q E h=>?_) (λaV Ar outer s H vs Q E hr h=>?_)
 ·obtain⟨l,ts,z,rfl,_⟩:=h
  rfl
 ·obtain⟨l,ts,z,rfl,hz,zn,q1,q2⟩:=h;have hu:=kX hr;have zl:=hz.n;refine⟨_,(aB (fG (PW.pt (jW (fZ (cM fQ (bI dh rfl T.cz boot_len (aj (ah 0) au)) aq (bA _)) (fY (cM jd (bI dh rfl T.cz boot_len (aj (ah 0) au)) (fh (v:=.int 4) rfl T.Uz ⟨_,rfl⟩) (bA _)))))) (aK (vm vn rfl T.rq T.oJ excBase_ValueError rfl (aj cT au))) bY)
   (aB (aX (i:=1) Ah.nd rfl (Or.inl rfl) OJ)
   (aK (d9 PassesOwn.leaving rfl (fj (ah 0)) (kM rfl (eF (bE (i:=2) Ah.nd rfl (Or.inl rfl)) (eF (bE (i:=3) Ah.nd rfl (Or.inl rfl)) jF)))
   (aB (fG (PW.pt (jW (fZ (cM fQ (ah 2) aq (bA _)) (fY (cM jd (ah 2) (fh (v:=.int 20) rfl T.UA ⟨_,rfl⟩) (bA _)))))) (aK (vm vn rfl T.rq T.oJ excBase_ValueError rfl (aj cT au))) bY)
   (aB (dR (rN (FN hu (ah 2) (ah 1))) (aK (vm vn rfl T.rq T.oJ excBase_ValueError rfl (aj cT au))) bY)
   (aB (fG (PW.pt (jW (fZ (cM fQ (ah 3) aq (bA _)) (fY (cM jd (ah 3) (fh (v:=.int 4) rfl T.UB ⟨_,rfl⟩) (bA _)))))) (aK (vm vn rfl T.rq T.oJ excBase_ValueError rfl (aj cT au))) bY)
   (aK (uS hu (ah 1) (ah 2) (ah 3) rfl))))))))),?_⟩
  walk_at "rdt";refine⟨_,.inl hz.sq,?_⟩;rw[length_map,zl];refine cj (λh1=>q2 (λok=>by have:=ok.n1;lia) _ (λ_ _ e=>e)) λh1=>⟨_,.inl hz.sq,?_⟩
  rw[length_map,zl];refine cj (λh2=>q2 (λok=>by have:=ok.n4;lia) _ (λ_ _ e=>e)) λh2=>?_
  intro kd pR;refine rl l (ts.map V.ref) (λi σ H'=>∃(u v:Option V) (kvs:List (Key×V)),σ = [some (.ref l),some (.ref kd),u,v]/\ao H H'/\H' kd=some (.dK kvs)/\kvs.length<=i/\(∀a:Int,(cG kvs (eS a)).isSome=decide (a∈(z.take i).map (·.1)))/\(∀p∈z.take i,0<=p.1/\p.1<=20/\1<=p.2/\p.2<=4)/\((z.take i).map (·.1)).Nodup) (λQ q=>q) (ao.put pR |>.seq hz.sq) ⟨none,none,[],rfl,ao.put pR,aD,Nat.le_refl _,λa=>by simp[Ox],(λ_ h=>by simp at h),by simp⟩ (by rintro i σ H' _ ⟨_,_,_,rfl,s',_⟩;exact s'.seq hz.sq) ?_ ?_
  ·rintro i x σ H' N hN hx ⟨u,v,kvs,rfl,s',hk,hl,hv,hb,nd⟩;obtain⟨t,p,rfl,hp,ht⟩:=(hz.same s').at hx;have hi:i<z.length:=e8 hp;have tk:=take_succ_get hp;walk_at "rdm";refine⟨_,bg.of ht,rfl,_,_,rfl,_,_,rfl,rfl,cj (λc1=>?_) λc1=>cj (λc2=>?_) λc2=>?_⟩
   ·exact q2 (λok=>by have:=ok.a p (get_mem hp);lia) _ s'
   ·exact q2 (λok=>by have:=ok.a p (get_mem hp);lia) _ s'
   refine⟨_,fR.k (k:=eS p.1) hk,?_⟩;rw[hv];refine cj (λc3=>?_) λc3=>cj (λc4=>?_) λc4=>cj (λc5=>?_) λc5=>?_
   ·refine q2 (λok=>?_) _ s';have:=ok.nd;rw[← take_append_drop (i+1) z,tk,map_append,map_append] at this;have:=(nodup_append.mp (nodup_append.mp this).1).2.2 p.1 (by simpa using c3) p.1 (by simp)
    exact this rfl
   ·exact q2 (λok=>by have:=ok.a p (get_mem hp);lia) _ s'
   ·exact q2 (λok=>by have:=ok.a p (get_mem hp);lia) _ s'
   refine⟨_,kU.k (k:=eS p.1) hk (by rw[j9];lia),hN _ _ ⟨_,_,_,rfl,ao.put2 s' pR,aD,?_,λa=>?_,λy hy=>?_,?_⟩⟩
   ·have:=RE kvs (eS p.1) (V.int p.2);lia
   ·rw[OB,tk,map_append];by_cases e:a=p.1
    ·subst e;simp
    ·rw[if_neg (by simpa[eS] using e),hv]
     simp[e]
   ·rw[tk] at hy;rcases mem_append.mp hy with hy | hy
    ·exact hb y hy
    ·rw[mem_singleton.mp hy];lia
   ·rw[tk,map_append,nodup_append];refine⟨nd,by simp,λa ha b fu e=>?_⟩
    subst e;simp only[map_cons,map_nil,mem_singleton] at fu;rw[fu] at ha;exact c3 (by simpa using ha)
  ·rintro σ H' ⟨u,v,kvs,rfl,s',hk,hl,hv,hb,nd⟩;rw[length_map,zl,take_length] at hb nd;exact q1 ⟨∅,∅,hb,nd⟩ H' s'
theorem ae6(T:Tx K mg A)(aC:bF mg base A.bw A.br):bq P w K mg base bx 1 A.Az A.AA ["dues"] (ad5 K A.bJ A.cg):=by
 refine T.Jw.ok Ai (λvs H Q E h=>?_) (λaV Ar outer s H vs Q E hr h=>?_)
 ·obtain⟨D,ps,ds,rfl,_⟩:=h
  rfl
 ·obtain⟨D,ps,ds,rfl,hd,d32,q⟩:=h;have tU:=hd.n;have hu:=kX hr;refine⟨_,(aB (aJ (aX (i:=1) Ai.nd rfl (Or.inl rfl) OJ))
   (aB (aJ (d9 PassesOwn.never rfl (fj (ah 0)) (bE (i:=2) Ai.nd rfl (Or.inl rfl))
   (aB (aJ (aX (i:=3) Ai.nd rfl (Or.inl rfl) (Z2 hu (ah 1) (cW (cW (ah 2) rfl) rfl) (cW (ah 2) rfl) ⟨rfl,rfl,rfl,rfl⟩)))
   (aK (uS hu (ah 1) (cW (cW (ah 2) rfl) rfl) (bI (yJ rfl) rfl T.mX boot_min (aj (ah 3) (aj (cW (ah 2) rfl) au))) rfl)))))
   (aK (bO (ah 1))))),?_⟩
  refine aL λNa ka=>?_;walk_at "rdd";refine λkd pR=>ka _ _ ?_;refine aL λNb kb=>?_;refine rl D (ps.map V.ref) (λi σ H'=>∃(u v:Option V) (kvs:List (Key×V)),σ = [some (.ref D),some (.ref kd),u,v]/\ao H H'/\H' kd=some (.dK kvs)/\kvs.length<=i/\tw (ds.take i) kvs) (λQ q=>q) (aE.of (ao.put pR _ _ hd.l)) ⟨none,none,[],rfl,ao.put pR,aD,Nat.le_refl _,⟨λa=>by simp[Ox,fz],(λ_ h=>nomatch h)⟩⟩ (by rintro i σ H' _ ⟨_,_,_,rfl,s',_⟩;exact aE.of (s' _ _ hd.l)) ?_ ?_
  ·rintro i x σ H' N hN hx ⟨u,v,kvs,rfl,s',hk,hl,hv⟩;obtain⟨p,hp,rfl⟩:=fT hx;have hi:i<ds.length:=by rw[← tU];exact e8 hp
   refine(hd.same s').el i p ds[i] hp (getElem?_eq_getElem hi) λdx ap la ts m b aR hD=>?_;have mK:=hD.o;have K7:=hD.a.o;unfold vU at mK;unfold mC at K7;refine aL λNc kc=>?_;wp_walk using T,mK,K7;have hva:=hv.v ds[i].q.bT;refine⟨.inl ⟨_,.inl hk⟩,_,fR.k (k:=eS ds[i].q.bT) hk,kc _ _ ?_⟩;wp_walk using T,mK,K7;obtain⟨n0,e0,e1⟩:∃n0,(cG kvs (eS ds[i].q.bT)).getD (V.int ds[i].n)=V.int n0/\(if ds[i].n<n0 then ds[i].n else n0)=qZ (fz ds[i].q.bT (ds.take i)) ds[i].n:=by
    rw[hva];cases fz ds[i].q.bT (ds.take i) with
    | none=>exact⟨_,rfl,by simp[qZ]⟩
    | some m=>exact⟨m,rfl,rfl⟩
   refine⟨n0,e0,_,kU.k (k:=eS ds[i].q.bT) hk (by rw[j9];lia),hN _ _ ⟨_,_,_,rfl,ao.put2 s' pR,aD,?_,⟨λa=>?_,λy hy=>?_⟩⟩⟩
   ·have:=RE kvs (eS ds[i].q.bT) (V.int (if ds[i].n<n0 then ds[i].n else n0))
    lia
   ·rw[OB,adZ hi,e1];by_cases e:a=ds[i].q.bT
    ·subst e;simp
    ·rw[if_neg (by simpa[eS] using e),if_neg (λz=>e z.symm)]
     exact hv.v a
   ·rw[take_succ_get (getElem?_eq_getElem hi)];rcases ad1 hy with⟨y',hy,ey⟩ | hy
    ·obtain⟨d,sZ,hd2⟩:=hv.k y' hy;exact⟨d,mem_append_left _ sZ,ey▸hd2⟩
    ·exact⟨ds[i],mem_append_right _ (mem_singleton.mpr rfl),hy⟩
  ·rintro σ H' ⟨u,v,kvs,rfl,s',hk,hl,hv⟩;rw[length_map,tU] at hl;rw[length_map,tU,take_length] at hv;refine kb _ _ ?_;walk_at "rdm";exact q kd kvs H' s' pR hk ∅ hv
theorem ae7(T:Tx K mg A)(aC:bF mg base A.bw A.br):bq P w K mg base bx 1 A.AE A.AF ["self"] (ad4 A.cB):=by
 refine T.Sk.ok aet (λvs H Q E h=>?_) (λaV Ar outer s H vs Q E hr h=>?_)
 ·obtain⟨x,dx,pl,fs,rfl,_⟩:=h
  rfl
 ·obtain⟨x,dx,pl,fs,rfl,hx,hf,q⟩:=h;refine⟨_,(aB (eG (ah 0) aq rfl)
   (aK (eG (ah 0) aq rfl))),?_⟩
  rcases hf with rfl | ⟨t,u,rfl⟩
  ·wp_walk using T,hx,gJ;exact q _ (λb o e hb=>by rw[aF hb];exact e) aD
  ·wp_walk using T,hx,gJ;exact q _ (λb o e hb=>by rw[aF hb];exact e) aD
theorem ae8(T:Tx K mg A)(aC:bF mg base A.bw A.br):bq P w K mg base (gi P w base) 1 A.AI A.AJ ["self", "least"] (ad6 A.cB A.bN):=by
 refine T.Sq.zD Jp (λvs H Q E h=>?_) (λaV Ar outer s H vs Q E hr h=>?_)
 ·obtain⟨x,B,dx,pl,bH,sh,t,u,kvs,rfl,_⟩:=h
  rfl
 ·obtain⟨x,B,dx,pl,bH,sh,t,u,kvs,rfl,hx,n4,hB,hk,q1,q2⟩:=h;have hu:=kX hr;have pn:=hx.p.n;have mY:=hx.o;unfold gJ at mY;refine⟨_,(aB (nQ (i:=2) Jp.nd rfl (Or.inl rfl) (N:=["asker", "share"]) (nt:=2) (fv:=[]) (c7.of rfl rfl (by rfl) (by rfl) (by repeat (first | exact trivial | refine⟨rfl,?_⟩)) (by rfl) (by rfl) (by rfl) (by decide) (by decide +kernel)) rfl (fj (cW (ah 0) rfl)) (λC s H fp=>(GA (K:=K) (n:=2) rfl rfl (eF (bE (i:=0) (show Nodup (["asker", "share"]:List Str) by decide +kernel) rfl (Or.inl rfl)) (eF (bE (i:=1) (show Nodup (["asker", "share"]:List Str) by decide +kernel) rfl (Or.inl rfl)) jF)))) (λC s H fp=>gS) (λC s H fp=>(ah 0)))
   (aK (d9 PassesOwn.leaving rfl (adT (ah 1)) (bE (i:=3) Jp.nd rfl (Or.inl rfl))
   (aK (dR (dG yZ (ah 3) (ah 2) rfl) (aK (vm vn rfl T.rq T.oJ excBase_ValueError rfl (aj cT au))) bY))))),?_⟩
  walk_at "rdd";have Bx:B≠x:=λz=>by rw[z,mY] at hB;cases hB
  refine jO pl (bH.map V.ref) (λD i ys aA H2=>∃(u v:Option V),ys=((sh.take i).map (·.1)).map V.int/\aA = [u,v]/\H2 D=some (.lst ys)/\ao H H2/\H D=none) (λQ q=>?_) hx.p.sq ?_ ?_ ?_ ?_
  ·wp_walk using T,mY;exact q
  ·intro D hD;exact⟨none,none,rfl,rfl,aD,ao.put hD,hD⟩
  ·rintro D i ys aA H2 ⟨u',v',rfl,rfl,e1,e2,e3⟩;exact⟨e1,fS (by simp only[length_map,length_take];lia),(hx.p.same e2).sq⟩
  ·rintro D i y ys aA H2 N hN hy ⟨u',v',rfl,rfl,e1,e2,e3⟩;obtain⟨pt,p,rfl,hp,ht⟩:=(hx.p.same e2).at hy;walk_at "rdm";refine⟨_,bg.of ht,rfl,_,_,rfl,_,_,rfl,rfl,e1,hN _ _ _ ⟨_,_,?_,rfl,aD,ao.put2 e2 e3,e3⟩⟩;rw[take_succ_get hp,map_append,map_append];rfl
  ·rintro D ys aA H2 ⟨u',v',rfl,rfl,e1,e2,e3⟩;rw[length_map,pn,take_length] at e1;have DB:B≠D:=λz=>by rw[z,e3] at hB;cases hB
   refine adU B kvs (λob i σ H'=>∃(v:Option V),σ = [some (.ref x),some (.ref B),some (.ref D),v]/\SameBut B H H'/\H' D=some (.lst ((sh.map (·.1)).map V.int))/\H' B=some (.d8 ob (.dK kvs))/\Af sh (kvs.take i)) (λQ q=>q) (e2 _ _ hB) (λob=>⟨none,rfl,λb o e hb=>by rw[aF hb];exact e2 _ _ e,by rw[aF (Ne.symm DB)];exact e1,aD,λp hp=>by simp at hp⟩) (by rintro ob i σ H' ⟨v,rfl,_,_,e,_⟩;exact e) ?_ ?_
   ·rintro ob i p σ H' N hN hp ⟨v,rfl,sb,hD,K8,Dq⟩;obtain⟨a,ea⟩:=hk p (get_mem hp);have ev:kV p.1 = .int a:=by rw[ea];rfl
    have tk:=take_succ_get hp;wp_walk using ev;refine⟨_,.inl (aE.of hD),rfl,zB _,?_⟩;rw[vh];refine cj (λh0=>q2 (λkn=>?_) _ sb) λh0=>hN _ _ ⟨_,rfl,sb,hD,K8,λy hy=>?_⟩
    ·obtain⟨a',qK,e'⟩:=kn p (get_mem hp);rw[ea] at e';cases e';exact of_decide_eq_false h0 qK
    ·rw[tk] at hy;rcases mem_append.mp hy with hy | hy
     ·exact Dq y hy
     ·rw[mem_singleton.mp hy];exact⟨a,of_decide_eq_true (by simpa using h0),ea⟩
   ·rintro ob σ H' ⟨v,rfl,sb,hD,K8,Dq⟩;rw[take_length] at Dq;exact q1 Dq ob H' sb K8
theorem ae9(T:Tx K mg A)(aC:bF mg base A.bw A.br):bq P w K mg base bx 1 A.AK A.AL ["self", "least"] (ad8 A.cB):=by
 refine T.Sv.ok Jq (λvs H Q E h=>?_) (λaV Ar outer s H vs Q E hr h=>?_)
 ·obtain⟨x,B,dx,pl,bH,sh,t,u,kvs,rfl,_⟩:=h
  rfl
 ·obtain⟨x,B,dx,pl,bH,sh,t,u,kvs,rfl,hx,t0,t1,n4,hB,⟨p,hp,pp⟩,q⟩:=h;have hu:=kX hr;have pn:=hx.p.n;have mY:=hx.o;unfold gJ at mY;refine⟨_,(aB (aX (i:=2) Jq.nd rfl (Or.inl rfl) (aH NC (aH jc (cW (ah 0) rfl) aq) (bI o9 rfl T.cz boot_len (aj (cW (ah 0) rfl) au))))
   (aB (EN PassesOwn.never (rN (FO hu (aU je (aU iL (cW (ah 0) rfl) (ah 2) (λ_ _=>rfl)) aq (λ_ _=>rfl)) (ah 1)))
   (aK (aX (i:=2) Jq.nd rfl (Or.inl rfl) (aH kr (aH b_ (ah 2) aq) (bI o9 rfl T.cz boot_len (aj (cW (ah 0) rfl) au))))))
   (aK (bO (ah 2))))),?_⟩
  wp_walk using T,mY;refine⟨_,.inl hx.p.sq,by rw[length_map];lia,?_⟩
  rw[length_map,pn];obtain⟨m0,g0⟩:=iR.start (pr:=λa=>(cG kvs (eS a)).isSome=true) t0 t1 hp pp;refine⟨λm σ H'=>∃t':Int,σ = [some (.ref x),some (.ref B),some (.int t')]/\H' = H/\iR (λa=>(cG kvs (eS a)).isSome=true) sh t m t',⟨m0,_,rfl,rfl,g0⟩,?_⟩;rintro m σ H' ⟨t',rfl,rfl,g⟩;obtain⟨b0,b1⟩:=g.bd ∅
  obtain⟨pt,e1,e2⟩:=hx.p.ti b0 b1;wp_walk using T,mY;refine⟨_,hx.p.sq,_,e1,pt,rfl,_,bg.of e2,_,rfl,_,.inl ⟨kvs,eS _,hB,rfl,rfl⟩,cj (λh0=>?_) λh0=>?_⟩
  ·refine⟨λbf H2=>∃m',m' < m/\∃t':Int,bf = [some (.ref x),some (.ref B),some (.int t')]/\H2=H'/\iR (λa=>(cG kvs (eS a)).isSome=true) sh t m' t',λ_ _ h=>h,?_⟩;obtain⟨m',hm,g'⟩:=g.go (by simpa using h0)
   refine⟨_,.inl hx.p.sq,by rw[length_map];lia,m',hm,_,rfl,rfl,?_⟩
   rw[length_map,pn];exact g'
  ·exact q t' (g.stop (Option.isSome_iff_ne_none.mpr (by simpa using h0)))
theorem K9(T:Tx K mg A)(aC:bF mg base A.bw A.br):bq P w K mg base bx 1 A.AM A.AN ["self", "kind", "first", "many", "marks", "at", "asker", "latest", "behind", "early"] (aa3 A.bJ):=by
 refine T.Sy.ok aeu (λvs H Q E h=>?_) (λaV Ar outer s H vs Q E hr h=>?_)
 ·obtain⟨p,dx,v1,v2,v3,v4,v5,v6,v7,v8,v9,rfl,_⟩:=h
  rfl
 ·obtain⟨p,dx,v1,v2,v3,v4,v5,v6,v7,v8,v9,rfl,hp,q⟩:=h;refine⟨_,(aB (aJ (eG (ah 0) (ah 1) rfl))
   (aB (aJ (eG (ah 0) (ah 2) rfl))
   (aB (aJ (eG (ah 0) (ah 3) rfl))
   (aB (aJ (eG (ah 0) (ah 4) rfl))
   (aB (aJ (eG (ah 0) (ah 5) rfl))
   (aB (aJ (eG (ah 0) (ah 6) rfl))
   (aB (aJ (eG (ah 0) (ah 7) rfl))
   (aB (aJ (eG (ah 0) (ah 8) rfl))
   (aK (eG (ah 0) (ah 9) rfl)))))))))),?_⟩
  refine aL λN1 k1=>?_;wp_walk using T,hp;refine k1 _ _ ?_;refine aL λN2 k2=>?_;wp_walk using T,hp;refine k2 _ _ ?_;refine aL λN3 k3=>?_;wp_walk using T,hp;refine k3 _ _ ?_;refine aL λN4 k4=>?_;wp_walk using T,hp;refine k4 _ _ ?_;refine aL λN5 k5=>?_;wp_walk using T,hp;refine k5 _ _ ?_;refine aL λN6 k6=>?_;wp_walk using T,hp;refine k6 _ _ ?_;refine aL λN7 k7=>?_;wp_walk using T,hp;refine k7 _ _ ?_;refine aL λN8 k8=>?_;wp_walk using T,hp;refine k8 _ _ ?_;wp_walk using T,hp;exact q
theorem pS(T:Tx K mg A)(aC:bF mg base A.bw A.br):bq P w K mg base bx 1 A.AO A.AQ ["number", "least", "greatest", "words"] aaZ:=by
 refine T.mW.ok aev (λvs H Q E h=>?_) (λaV Ar outer s H vs Q E hr h=>?_)
 ·obtain⟨n,lo,hi,w,rfl,_⟩:=h
  rfl
 ·obtain⟨n,lo,hi,w,rfl,h1,h2,q⟩:=h;refine⟨_,(aK (fG (PW.pt (jW (fZ (cM fQ (ah 0) (ah 1) (bA _)) (fY (cM jd (ah 0) (ah 2) (bA _)))))) gM bY)),?_⟩;walk_at "rdm";exact⟨∅,∅,q⟩
theorem UT(T:Tx K mg A)(aC:bF mg base A.bw A.br):bq P w K mg base bx 1 A.AW A.AX ["behind"] (aa2 K):=by
 refine T.Ct.ok aex (λvs H Q E h=>?_) (λaV Ar outer s H vs Q E hr h=>?_)
 ·obtain⟨v,ns,rfl,_⟩:=h
  rfl
 ·obtain⟨v,ns,rfl,hv,q⟩:=h;refine⟨_,(aK (bO (YH (dG NI (ah 0) nA (bA _)) (cD au) (l8 y_ rfl T.rm boot_tuple (aj (ah 0) au))))),?_⟩;walk_at "rdm";rcases hv with⟨rfl,rfl⟩ | ⟨a,rfl,hS | hS⟩
  ·exact ite_yes rfl λt nt=>q t _ (ao.put nt) aD
  ·exact ite_no (by simp) ⟨a,rfl,_,.inl ⟨hS,λl nl=>q l _ (ao.put nl) aD⟩⟩
  ·exact ite_no (by simp) ⟨a,rfl,_,.inr ⟨bg.of hS,q a _ (ao.refl _) hS⟩⟩
theorem ae_(T:Tx K mg A)(aC:bF mg base A.bw A.br):bq P w K mg base bx 1 A.A9 A.A_ ["zones"] (aay K):=by
 refine T.JK.ok Al (λvs H Q E h=>?_) (λaV Ar outer s H vs Q E hr h=>?_)
 ·obtain⟨a,ts,z,rfl,_⟩:=h
  rfl
 ·obtain⟨a,ts,z,rfl,hz,ok,q⟩:=h;refine⟨_,(aB (fG (PW.pt (jW (fZ (cM fQ (bI dh rfl T.cz boot_len (aj (ah 0) au)) aq (bA _)) (fY (cM jd (bI dh rfl T.cz boot_len (aj (ah 0) au)) (fh (v:=.int 5) rfl T.UJ ⟨_,rfl⟩) (bA _)))))) gM bY)
   (aB (d9 PassesOwn.never rfl (fj (ah 0)) (kM rfl (eF (bE (i:=1) Al.nd rfl (Or.inl rfl)) (eF (bE (i:=2) Al.nd rfl (Or.inl rfl)) jF)))
   (aB (fG (PW.pt (jW (fZ (cM fQ (ah 1) aq (bA _)) (fY (cM jd (ah 1) (fh (v:=.int 40) rfl T.UK ⟨_,rfl⟩) (bA _)))))) gM bY)
   (aK (fG (PW.pt (jW (fZ (cM fQ (ah 2) aq (bA _)) (fY (cM jd (ah 2) (fh (v:=.int 60) rfl T.UL ⟨_,rfl⟩) (bA _)))))) gM bY))))
   (aB (aX (i:=3) Al.nd rfl (Or.inl rfl) (bI (aaj rfl) rfl T.C9 boot_sum (aj (jM (N:=["zone"]) (nt:=1) (fv:=[]) (c7.of rfl rfl (by rfl) (by rfl) (by repeat (first | exact trivial | refine⟨rfl,?_⟩)) (by rfl) (by rfl) (by rfl) (by decide) (by decide +kernel)) rfl (fj (ah 0)) (λC s H fp=>(bE (i:=0) (show Nodup (["zone"]:List Str) by decide +kernel) rfl (Or.inl rfl))) (λC s H fp=>gS) (λC s H fp=>(aU (gW (K:=K) rfl) (ah 0) aq (λ_ _=>rfl)))) au)))
   (aK (fG (PW.pt (jW (fZ (cM fQ (ah 3) (fh (v:=.int 2) rfl T.UM ⟨_,rfl⟩) (bA _)) (fY (cM jd (ah 3) (fh (v:=.int 120) rfl T.UN ⟨_,rfl⟩) (bA _)))))) gM bY))))),?_⟩
  walk_at "rdm";have hn:=hz.n;have l1:=ok.l1;have l5:=ok.l5;refine⟨_,.inl hz.sq,by simp only[length_map];lia,_,.inl hz.sq,by simp only[length_map];lia,?_⟩
  refine rl a (ts.map V.ref) (λi σ H'=>∃r c,σ = [some (.ref a),r,c,none]/\H' = H) (λQ q=>q) hz.sq ⟨none,none,rfl,rfl⟩ (by rintro i σ H' _ ⟨r,c,rfl,rfl⟩;exact hz.sq) ?_ ?_
  ·rintro i x σ H' N hN hx ⟨r,c,rfl,rfl⟩;obtain⟨t,p,rfl,hp,ht⟩:=hz.at hx;refine pq (bg.of ht) rfl ?_;walk_at "rdm";obtain⟨h1,h2,h3,h4⟩:=ok.r p (get_mem hp);exact⟨∅,∅,∅,∅,hN _ _ ⟨_,_,rfl,rfl⟩⟩
  ·rintro σ H' ⟨r,c,rfl,rfl⟩;walk_at "rdd";refine jO a (ts.map V.ref) (λD i ys aA H2=>ys=((z.take i).map λp=>V.int p.1)/\H2 D=some (.lst ys)/\ao H' H2/\H' D=none/\i<=z.length/\∃u,aA = [u]) (λQ q=>q) hz.sq ?_ ?_ ?_ ?_
   ·intro D hD;exact⟨rfl,aD,ao.put hD,hD,zero_le _,_,rfl⟩
   ·rintro D i ys aA H2 ⟨e,e1,e2,e3,e4,_⟩;refine⟨e1,?_,e2.seq hz.sq⟩;rw[e];refine fS ?_;simp only[length_map,length_take];lia
   ·rintro D i x ys aA H2 N hN hx ⟨e,e1,e2,e3,e4,u,rfl⟩;obtain⟨t,p,rfl,hp,ht⟩:=hz.at hx;have hl:=e8 hp;walk_at "rdm";refine⟨_,bg.of (e2 _ _ ht),_,rfl,e1,hN _ _ _ ⟨?_,aD,ao.put2 e2 e3,e3,hl,_,rfl⟩⟩;rw[take_succ_get hp,map_append,e];rfl
   ·rintro D ys aA H2 ⟨e,e1,e2,e3,e4,u,rfl⟩;have e5:ys=(z.map λp=>p.1).map V.int:=by
     rw[e,lenZ hz.n,take_length,map_map];rfl
    rw[e5] at e1;walk_at "rdm";have s2:=ok.s2;have s1:=ok.zu;exact⟨_,aE.of e1,∅,∅,q _ e2⟩
theorem afa(T:Tx K mg A)(aC:bF mg base A.bw A.br):bq P w K mg base bx 1 A.Ba A.Bb ["zones", "lap", "skew"] (aaz K):=by
 refine T.JL.ok Js (λvs H Q E h=>?_) (λaV Ar outer s H vs Q E hr h=>?_)
 ·obtain⟨a,ts,z,aP,cK,rfl,_⟩:=h
  rfl
 ·obtain⟨a,ts,z,aP,cK,rfl,hz,ok,h1,h2,h3,h4,hd,q⟩:=h;refine⟨_,(aB (fG (PW.pt (jW (fZ (cM fQ (ah 1) aq (bA _)) (fY (cM jd (ah 1) (fh (v:=.int 1000000000) rfl T.KW ⟨_,rfl⟩) (bA _)))))) gM bY)
   (aB (d9 PassesOwn.never rfl (fj (ah 0)) (kM rfl (eF (bE (i:=3) Js.nd rfl (Or.inl rfl)) (eF (bE (i:=4) Js.nd rfl (Or.inl rfl)) jF)))
   (aK (fG (cM RY (aH kr (ah 1) (ah 4)) aq (bA _)) gM bY)))
   (aK (fG (PW.pt (jW (fZ (cM fQ (ah 2) aq (bA _)) (fY (cM rX (ah 2) (ah 1) (bA _)))))) gM bY)))),?_⟩
  walk_at "rdm";refine⟨∅,∅,?_⟩
  refine rl a (ts.map V.ref) (λi σ H'=>∃r c,σ = [some (.ref a),some (.int aP),some (.int cK),r,c]/\H' = H) (λQ q=>q) hz.sq ⟨none,none,rfl,rfl⟩ (by rintro i σ H' _ ⟨r,c,rfl,rfl⟩;exact hz.sq) ?_ ?_
  ·rintro i x σ H' N hN hx ⟨r,c,rfl,rfl⟩;obtain⟨t,p,rfl,hp,ht⟩:=hz.at hx;refine pq (bg.of ht) rfl ?_;obtain⟨g1,g2,g3,g4⟩:=ok.r p (get_mem hp);have g5:=hd p (get_mem hp);walk_at "rdm";exact⟨∅,g5,hN _ _ ⟨_,_,rfl,rfl⟩⟩
  ·rintro σ H' ⟨r,c,rfl,rfl⟩;walk_at "rdm";exact⟨∅,∅,q⟩
theorem afb(T:Tx K mg A)(aC:bF mg base A.bw A.br):bq P w K mg base bx 1 A.Be A.Bf ["swing"] (aaB K):=by
 refine T.JN.ok Jt (λvs H Q E h=>?_) (λaV Ar outer s H vs Q E hr h=>?_)
 ·obtain⟨a,sw,n,rfl,_⟩:=h
  rfl
 ·obtain⟨a,sw,n,rfl,hS,ok,hn,q⟩:=h;refine⟨_,(aK (d9 PassesOwn.never rfl (rS rfl T.e7 (aj aq (aj (bI dh rfl T.cz boot_len (aj (ah 0) au)) au))) (bE (i:=1) Jt.nd rfl (Or.inl rfl))
   (aK (d9 PassesOwn.never rfl (rS rfl T.e7 (aj aq (aj (aH b_ (aH H_ (ah 1) aq) aq) au))) (bE (i:=2) Jt.nd rfl (Or.inl rfl))
   (aK (dR (dG jd (aU cX (ah 0) (ah 1) (λ_ _=>rfl)) (aH jc (aU cX (ah 0) (ah 2) (λ_ _=>rfl)) (aU cX (ah 0) (aH oE (ah 1) (ah 2)) (λ_ _=>rfl))) (bA _)) gM bY)))))),?_⟩
  walk_at "rdm";have hl:=ok.len;have h2:=ok.two;refine u6 2 (sw.length:Int) (λi σ H'=>∃r c,σ = [some (.ref a),r,c]/\H' = H) (λQ q=>?_) ∅ ∅ ∅ ∅ ⟨none,none,rfl,rfl⟩ ?_ ?_
  ·walk_at "rdm";refine⟨_,.inl hS,?_⟩;simpa using q
  ·rintro i σ H' N hN hi ⟨r,c,rfl,rfl⟩;walk_at "rdm";refine u6 1 ((2+(i:Int)) / 2+1) (λj σ H2=>∃c,σ = [some (.ref a),some (.int (2+(i:Int))),c]/\H2=H') (λQ q=>?_) ∅ ∅ ∅ ∅ ⟨_,rfl,rfl⟩ ?_ ?_
   ·walk_at "rdm";exact q
   ·rintro j σ H2 N2 iB hj ⟨c,rfl,rfl⟩;walk_at "rdd";have e1:((2:Int)+(i:Int)).toNat=(1+j)+(1+i - j):=by lia
    have e2:((1:Int)+(j:Int)).toNat=1+j:=by lia
    have e3:((2:Int)+(i:Int) - (1+(j:Int))).toNat=1+i - j:=by lia
    have g:=ok.no (1+j) (1+i - j) ∅ ∅ ∅
    refine⟨_,hS,_,gU ∅ ∅,_,hS,_,gU ∅ ∅,_,hS,_,gU ∅ ∅,?_⟩
    walk_at "rdm";rw[e1,e2,e3];exact⟨∅,iB _ _ ⟨_,rfl,rfl⟩⟩
   ·rintro σ H2 ⟨c,rfl,rfl⟩;exact hN _ _ ⟨_,_,rfl,rfl⟩
  ·rintro σ H' ⟨r,c,rfl,rfl⟩;exact q
theorem afc(T:Tx K mg A)(aC:bF mg base A.bw A.br):bq P w K mg base bx 1 A.Bg A.Bh ["zones"] (aaC K):=by
 refine T.JO.ok Am (λvs H Q E h=>?_) (λaV Ar outer s H vs Q E hr h=>?_)
 ·obtain⟨a,ts,z,rfl,_⟩:=h
  rfl
 ·obtain⟨a,ts,z,rfl,hz,ok,q⟩:=h;refine⟨_,(aB (aX (i:=1) Am.nd rfl (Or.inl rfl) (dH au))
   (aB (d9 PassesOwn.never rfl (fj (ah 0)) (kM rfl (eF (bE (i:=2) Am.nd rfl (Or.inl rfl)) (eF (bE (i:=3) Am.nd rfl (Or.inl rfl)) jF)))
   (aK (c8 (jI plainAttrs_list PySem.F.slot_list_extend PySem.F.type_list_extend ZK (ah 1) (aj (aH Ow (dH (aj (ah 3) au)) (ah 2)) au)))))
   (aK (bO (ah 1))))),?_⟩
  walk_at "rdd";refine⟨ku,λl hl=>?_⟩;refine rl a (ts.map V.ref) (λi σ H'=>∃r c,σ = [some (.ref a),some (.ref l),r,c]/\ao H H'/\H' l=some (.lst ((counts (z.take i)).map V.int))) (λQ q=>q) (ao.put hl |>.seq hz.sq) ⟨none,none,rfl,ao.put hl,aD⟩ (by rintro i σ H' _ ⟨r,c,rfl,hs,_⟩;exact hs.seq hz.sq) ?_ ?_
  ·rintro i x σ H' N hN hx ⟨r,c,rfl,hs,h1⟩;obtain⟨t,p,rfl,hp,ht⟩:=hz.at hx;refine pq (bg.of (hs _ _ ht)) rfl ?_;obtain⟨g1,g2,g3,g4⟩:=ok.r p (get_mem hp);have g5:=O6 ok i;walk_at "rdm";refine⟨⟨_,aE.of h1⟩,λp1 rA=>⟨∅,∅,∅,λp2 nN=>?_⟩⟩
   have s1:=(ao.put (o:=.lst [V.int p.2]) rA).trans (ao.put (o:=.lst (List.replicate p.1.toNat [V.int p.2]).flatten) nN);refine⟨_,s1 _ _ h1,?_,hN _ _ ⟨_,_,rfl,ao.put2 (hs.trans s1) hl,?_⟩⟩
   ·simp only[O8,length_map,length_replicate];lia
   ·rw[aD,take_succ_get hp,O5,map_append,O8];simp[counts]
  ·rintro σ H' ⟨r,c,rfl,hs,h1⟩;walk_at "rdm";rw[lenZ hz.n,take_length] at h1;exact q _ _ hs hl h1
theorem UU(T:Tx K mg A)(aC:bF mg base A.bw A.br):bq P w K mg base bx 1 A.Bj A.Bk ["ring_cells", "spares"] (aaD K):=by
 refine T.Cw.ok wA (λvs H Q E h=>?_) (λaV Ar outer s H vs Q E hr h=>?_)
 ·obtain⟨a,rc,s,rfl,_⟩:=h
  rfl
 ·obtain⟨a,rc,s,rfl,hS,hl,hc,lC,z8,q⟩:=h;refine⟨_,(aB (aX (i:=2) wA.nd rfl (Or.inl rfl) (dH au))
   (aB (d9 PassesOwn.never rfl (Gn rfl T.tQ (aj (ah 0) au)) (kM rfl (eF (bE (i:=3) wA.nd rfl (Or.inl rfl)) (eF (bE (i:=4) wA.nd rfl (Or.inl rfl)) jF)))
   (aK (d9 PassesOwn.never rfl (iH rfl T.e7 (aj (aH oE (ah 4) (ah 1)) au)) (bE (i:=5) wA.nd rfl (Or.inl rfl))
   (aK (c8 (jI plainAttrs_list PySem.F.slot_list_append PySem.F.type_list_append kQ (ah 2) (aj (cD (aj (ah 3) (aj (ah 5) au))) au)))))))
   (aK (bO (ah 2))))),?_⟩
  walk_at "rdd";refine⟨ku,λl dI=>?_⟩;have mF:=O7 (s:=s) lC (λc hx=>hc c hx);refine re a (rc.map V.int) (λi σ H'=>∃r c pl ts,σ = [some (.ref a),some (.int s),some (.ref l),r,c,pl]/\ao H H'/\(∀t∈ts,H t=none)/\Zn H' l ts (dj s 0 (rc.take i))) (λQ q=>?_) (ao.put dI |>.seq hS)
   ⟨none,none,none,[],rfl,ao.put dI,(by intro t ht;cases ht),aD,rfl,by intro i t p h;simp at h⟩ (by rintro i σ H' _ ⟨r,c,pl,ts,rfl,hs,_⟩;exact hs.seq hS) ?_ ?_
  ·walk_at "rdm";exact q
  ·rintro i x σ H' T1 N hN hx ⟨r,c,pl,ts,rfl,hs,K_,hz⟩ hT;obtain⟨c0,La,rfl⟩:=fT hx;obtain⟨g1,g2⟩:=hc c0 (get_mem La);refine pq (bg.of aD) rfl ?_;walk_at "rdm";have UW:=ao.put (o:=.tup [.int i,.int c0]) hT;refine u7 (c0 - s) (λj σ H2=>∃pl ts,σ = [some (.ref a),some (.int s),some (.ref l),some (.int i),some (.int c0),pl]/\ao H H2/\(∀t∈ts,H t=none)/\Zn H2 l ts (dj s 0 (rc.take i)++(List.range j).map λ(k:Nat)=>((i:Int),(k:Int)))) (λQ q=>?_) ∅ ∅ ?_ ?_ ?_
   ·walk_at "rdm";exact q
   ·exact⟨_,ts,rfl,hs.trans UW,K_,by simpa using hz.same UW⟩
   ·rintro j σ H2 N2 iB hj ⟨pl,ts,rfl,lW,Lb,cL⟩;walk_at "rdm";refine⟨⟨_,cL.sq⟩,λp hp=>⟨_,ao.put hp _ _ cL.l,?_,iB _ _ ⟨_,ts++[p],rfl,ao.put2 (lW.trans (ao.put hp)) dI,?_,?_⟩⟩⟩
    ·have h1:=cL.n;have h2:=mF i;simp only[length_map,length_append,length_range] at h1 ⊢;lia
    ·intro t ht;rcases mem_append.mp ht with ht | ht
     ·exact Lb t ht
     ·rw[mem_singleton.mp ht];exact lW.free hp
    ·have:=cL.snoc hp (i:Int) (j:Int);rw[range_succ,map_append,← append_assoc];exact this
   ·rintro σ H2 ⟨pl,ts,rfl,lW,Lb,cL⟩;refine hN _ _ ⟨_,_,_,ts,rfl,lW,Lb,?_⟩;rw[take_succ_get La,Gu];have hi:=e8 La;simpa[dj,min_eq_left (Nat.le_of_lt hi)] using cL
  ·rintro σ H' ⟨r,c,pl,ts,rfl,hs,K_,hz⟩;walk_at "rdm";rw[length_map,take_length] at hz;exact q _ _ _ hs dI K_ hz
theorem UX(T:Tx K mg A)(aC:bF mg base A.bw A.br):bq P w K mg base bx 1 A.Bl A.Bm ["number_cells"] (aaE K):=by
 refine T.Cy.ok An (λvs H Q E h=>?_) (λaV Ar outer s H vs Q E hr h=>?_)
 ·obtain⟨a,ts,z,rfl,_⟩:=h
  rfl
 ·obtain⟨a,ts,z,rfl,hz,hlen,q⟩:=h;have hu:=kX hr;refine⟨_,(aB (aX (i:=1) An.nd rfl (Or.inl rfl) OL)
   (aB (d9 PassesOwn.never rfl (Gn rfl T.tQ (aj (ah 0) au)) (kM rfl (eF (bE (i:=2) An.nd rfl (Or.inl rfl)) (eF (bE (i:=3) An.nd rfl (Or.inl rfl)) jF)))
   (aK (uS hu (ah 1) (ah 3) (ah 2) rfl)))
   (aK (bO (ah 1))))),?_⟩
  walk_at "rdm";refine λd hd=>?_;refine re a (ts.map V.ref) (λi σ H'=>∃r c,σ = [some (.ref a),some (.ref d),r,c]/\ao H H'/\i<=z.length/\H' d=some (.dT (jN 0 (z.take i) []))) (λQ q=>?_) (ao.put hd |>.seq hz.sq)
   ⟨none,none,rfl,ao.put hd,zero_le _,aD⟩ (by rintro i σ H' _ ⟨r,c,rfl,hs,_⟩;exact hs.seq hz.sq) ?_ ?_
  ·walk_at "rdm";exact q
  ·rintro i x σ H' T1 N hN hx ⟨r,c,rfl,hs,hi,h1⟩ hT;obtain⟨t,p,rfl,hp,ht⟩:=hz.at hx;refine pq (bg.of aD) rfl ?_;walk_at "rdm";have z8:=hs.trans (ao.put (o:=.tup [.int i,.ref t]) hT);have hl:=O4 (z.take i) 0 [];have xm:=e8 hp;rw[length_take,length_nil] at hl;refine⟨_,kU.t (k:=kT p) (ao.put hT _ _ h1) (z8 _ _ ht) (by rw[j9];lia),hN _ _ ⟨_,_,rfl,ao.put2 z8 hd,xm,?_⟩⟩
   rw[aD,take_succ_get hp,O3];simp[jN,min_eq_left (Nat.le_of_lt xm)]
  ·rintro σ H' ⟨r,c,rfl,hs,hi,h1⟩;walk_at "rdm";rw[lenZ hz.n,take_length] at h1;exact q _ _ hs hd h1
theorem aiR(T:Tx K mg A)(aC:bF mg base A.bw A.br):bq P w K mg base bx 1 A.tK A.Bp ["self"] (aaG K):=by
 refine T.S6.ok aeD (λvs H Q E h=>?_) (λaV Ar outer s H vs Q E hr h=>?_)
 ·obtain⟨C,p,P,fp,rfl,_⟩:=h
  rfl
 ·obtain⟨C,p,P,fp,rfl,hP,q⟩:=h;obtain⟨dx,a1,a2,a3,a4,ts,fs,rfl,h⟩:=hP;refine⟨_,(aK (bO (bI o9 rfl T.cz boot_len (aj (cW (ah 0) rfl) au)))),?_⟩;wp_walk using T,h.o,h.f1,h.f2,h.f3,h.f4,h.f5,h.f6,h.m1,h.m2,h.m3,h.m4,h.m5,h.m6,h.m7,h.m8,h.m9,h.sy,h.sD,h.cp.cl,h.cp.n1,h.cp.n2,h.cp.n3,h.cp.n4,h.cp.n5,h.cp.n6;exact⟨_,.inl (aE.of h.rc),by simpa  using q⟩
theorem afd(T:Tx K mg A)(aC:bF mg base A.bw A.br):bq P w K mg base bx 1 A.tL A.Bq ["self", "ring", "place"] (aaH K):=by
 refine T.S9.ok aeE (λvs H Q E h=>?_) (λaV Ar outer s H vs Q E hr h=>?_)
 ·obtain⟨C,p,P,fp,r,c,rfl,_⟩:=h
  rfl
 ·obtain⟨C,p,P,fp,r,c,rfl,hP,q⟩:=h;obtain⟨dx,a1,a2,a3,a4,ts,fs,rfl,h⟩:=hP;refine⟨_,(aB (fG (PW.pt (jW (fZ (cM fQ (ah 1) aq (bA _)) (fY (cM rX (ah 1) (bI o9 rfl T.cz boot_len (aj (cW (ah 0) rfl) au)) (bA _)))))) (aK (bO jC)) bY)
   (aK (bO (EG (uD rX (ah 2) aq (bA _)) (Np (uD fQ (ah 2) (aU iL (cW (ah 0) rfl) (ah 1) (λ_ _=>rfl)) (bA _))))))),?_⟩
  wp_walk using h.o,h.f1,h.f2,h.f3,h.f4,h.f5,h.f6,h.m1,h.m2,h.m3,h.m4,h.m5,h.m6,h.m7,h.m8,h.m9,h.sy,h.sD,h.cp.cl,h.cp.n1,h.cp.n2,h.cp.n3,h.cp.n4,h.cp.n5,h.cp.n6;refine cj (λh0=>?_) (λh0=>⟨_,.inl (aE.of h.rc),cj (λh1=>?_) (λh1=>?_)⟩)
  ·rw[decide_eq_false ∅] at q;exact q
  ·rw[length_map] at h1;rw[decide_eq_false ∅] at q;exact q
  ·rw[length_map] at h1;refine cj (λh2=>⟨_,aE.of h.rc,_,gU ∅ ∅,?_⟩) (λh2=>?_)
   ·walk_at "rdm";have e:decide (c<P.rc.getD r.toNat 0)=decide (0<=r/\r<P.rc.length/\0<=c/\c<P.rc.getD r.toNat 0):=by
     by_cases h3:c<P.rc.getD r.toNat 0
     ·rw[decide_eq_true h3,decide_eq_true ⟨∅,∅,h2,h3⟩]
     ·rw[decide_eq_false h3,decide_eq_false ∅]
    rw[e];exact q
   ·rw[decide_eq_false ∅] at q;exact q
theorem afe(T:Tx K mg A)(aC:bF mg base A.bw A.br):bq P w K mg base bx 1 A.tN A.Br ["self", "number"] (aaI K):=by
 refine T.Te.ok aeF (λvs H Q E h=>?_) (λaV Ar outer s H vs Q E hr h=>?_)
 ·obtain⟨C,p,P,fp,k,rfl,_⟩:=h
  rfl
 ·obtain⟨C,p,P,fp,k,rfl,hP,h0,h1,q⟩:=h;obtain⟨dx,a1,a2,a3,a4,ts,fs,rfl,h⟩:=hP;refine⟨_,(aB (fG (PW.pt (jW (fZ (cM fQ (ah 1) aq (bA _)) (fY (cM rX (ah 1) (bI o9 rfl T.cz boot_len (aj (cW (ah 0) rfl) au)) (bA _)))))) gM bY)
   (aK (bO (aU iL (cW (ah 0) rfl) (ah 1) (λ_ _=>rfl))))),?_⟩
  wp_walk using h.o,h.f1,h.f2,h.f3,h.f4,h.f5,h.f6,h.m1,h.m2,h.m3,h.m4,h.m5,h.m6,h.m7,h.m8,h.m9,h.sy,h.sD,h.cp.cl,h.cp.n1,h.cp.n2,h.cp.n3,h.cp.n4,h.cp.n5,h.cp.n6;have hn:=h.nc.n;refine⟨∅,_,.inl h.nc.sq,by rw[length_map];lia,?_⟩
  have hk:k.toNat<ts.length:=by lia
  have g1:(ts.map V.ref)[k.toNat]? = some (V.ref ts[k.toNat]):=by simp[hk]
  obtain⟨t,q',e1,e2,e3⟩:=h.nc.at g1;have ek:k=(k.toNat:Int):=by lia
  refine⟨_,h.nc.sq,V.ref ts[k.toNat],?_,?_⟩
  ·have:=l_ g1;rwa [← ek] at this
  ·rw[e1];exact q t q' e2 e3
theorem afg(T:Tx K mg A)(aC:bF mg base A.bw A.br):bq P w K mg base bx 1 A.Bs A.Bt ["spares", "ring_cells"] (aaM K):=by
 refine T.JU.ok aeG (λvs H Q E h=>?_) (λaV Ar outer s H vs Q E hr h=>?_)
 ·obtain⟨a,rc,s,rfl,_⟩:=h
  rfl
 ·obtain⟨a,rc,s,rfl,hS,hl,h0,hc,q⟩:=h;refine⟨_,(aK (dR (PW.pt (fZ (cM fQ (ah 0) aq (bA _)) (fY (dG rX (ah 0) (bI (OX rfl) rfl T.mX boot_min (aj (ah 1) au)) (bA _))))) gM bY)),?_⟩;walk_at "rdm";refine⟨∅,_,hS,hl,λM hM UY=>⟨?_,q⟩⟩
  have:=hc M hM;lia
theorem afh(T:Tx K mg A)(aC:bF mg base A.bw A.br):bq P w K mg base bx 1 A.Bw A.By ["number_cells", "bad_cells"] (aaO K):=by
 refine T.JW.ok aeH (λvs H Q E h=>?_) (λaV Ar outer s H vs Q E hr h=>?_)
 ·obtain⟨a,d,ts,z,kvs,rfl,_⟩:=h
  rfl
 ·obtain⟨a,d,ts,z,kvs,rfl,hz,hlen,hd,q⟩:=h;have hu:=kX hr;refine⟨_,(aK (bO (jM (N:=["number", "cell", "bad_cells"]) (nt:=2) (fv:=[1]) (c7.of rfl rfl (by rfl) (by rfl) (by repeat (first | exact trivial | refine⟨rfl,?_⟩)) (by rfl) (by rfl) (by rfl) (by decide) (by decide +kernel)) rfl (Gn rfl T.tQ (aj (ah 0) au)) (λC s H fp=>(GA (K:=K) (n:=2) rfl rfl (eF (bE (i:=0) (show Nodup (["number", "cell", "bad_cells"]:List Str) by decide +kernel) rfl (Or.inl rfl)) (eF (bE (i:=1) (show Nodup (["number", "cell", "bad_cells"]:List Str) by decide +kernel) rfl (Or.inl rfl)) jF)))) (λC s H fp=>(uX (rN (FN hu (ah 1) (ah 2))))) (λC s H fp=>(ah 0))))),?_⟩
  walk_at "rdm";refine rcE a (ts.map V.ref) (λD i ys aA H2=>ys=(jg kvs 0 (z.take i)).map V.int/\H2 D=some (.lst ys)/\ao H H2/\H D=none/\i<=z.length/\∃u v,aA = [u,v,some (.ref d)]) (λQ q=>by walk_at "rdm";exact q) hz.sq ?_ ?_ ?_ ?_
  ·intro D hD;exact⟨rfl,aD,ao.put hD,hD,zero_le _,_,_,rfl⟩
  ·rintro D i ys aA H2 ⟨e,e1,e2,e3,e4,_⟩;refine⟨e1,?_,e2.seq hz.sq⟩;have:=GD kvs (z.take i) 0;rw[e,j9,length_map];rw[length_take] at this;lia
  ·rintro D i x ys aA H2 T1 N hN hx ⟨e,e1,e2,e3,e4,u,v,rfl⟩ hT;obtain⟨t,p,rfl,hp,ht⟩:=hz.at hx;have hl:=e8 hp;refine pq (bg.of aD) rfl ?_;walk_at "rdm";have s1:=e2.trans (ao.put (o:=.tup [.int i,.ref t]) hT);refine⟨_,fR.t (k:=kT p) (s1 _ _ hd) (s1 _ _ ht),?_⟩;have eD:upd H2 T1 (.tup [.int i,.ref t]) D=some (.lst ys):=ao.put hT _ _ e1;refine cj (λhb=>⟨eD,hN _ _ _ ⟨?_,aD,ao.put2 s1 e3,e3,hl,_,_,rfl⟩⟩) (λhb=>hN _ _ _ ⟨?_,eD,s1,e3,hl,_,_,rfl⟩)
   ·rw[take_succ_get hp,GC,if_pos hb,map_append,e,length_take,min_eq_left (Nat.le_of_lt hl),zero_add];rfl
   ·rw[take_succ_get hp,GC,if_neg hb,append_nil,e]
  ·rintro D ys aA H2 ⟨e,e1,e2,e3,e4,u,v,rfl⟩;rw[lenZ hz.n,take_length] at e;rw[e] at e1;exact q _ _ e2 e3 e1
theorem afi(T:Tx K mg A)(aC:bF mg base A.bw A.br):bq P w K mg base bx 1 A.wJ A.tO ["ring", "rings"] (abS A.br (oh gr) (oq "nearest_rings")):=by
 refine T.JX.okC aeI (λvs H Q E h=>?_) (λAr outer s H vs Q E hr h=>?_)
 ·obtain⟨r,n,rfl,_⟩:=h
  rfl
 ·obtain⟨r,n,rfl,h2,fq,tab,q⟩:=h;have mD:(Ar.deeper (envOfC "nearest_rings" (a_ gr) s.heap.objs.size A.wJ A.tO.code)).in1.in1.depth<recursionLimit:=hr.depth;refine⟨_,(aK (bO (abN (c:=A.bw) (P:=A.br) (ps:=["other"]) (fs:=["ring"]) (fv:=[0]) rfl T.q_ rfl T.e7 aC T.UO (lq.of rfl rfl rfl rfl (by rfl) (by rfl) (by repeat (first | exact trivial | refine⟨rfl,?_⟩)) (by rfl) (by rfl) (by rfl) (by decide +kernel)) rfl rfl rfl (λ_ _ _ _=>rfl) (λf c2 s2 H2=>(cD (aj (bI NK rfl T.xh boot_abs (aj (aH oE (ah 0) (ah 1)) au)) (aj (ah 0) au)))) rfl mD rfl rfl rfl (aj (ah 1) au)))),?_⟩
  simp only[Qt,lz,Rj,Rk,Of,HM,Q5,lz,Fd,HZ,mI,mU,wm,wu,wz,R0,Ia,Ib,Ic,RP,RQ,RS,RT,RU,RV,RW,RX,FW,HW,FA,Ad,HV,QM,Og,zW,HE,GP,GU,GS,GR,zF,PX,Pu,mC,Pw,Pp,Ou,GB,yY,Fp,Ov,NJ,z7,Q4,Fc,E_,E9,Ff,Fe,and_assoc,M3,HO.ins.injEq,Gr,pe,gB,String.reduceBEq,lookup_cons,lookup_nil,aD,HO.lst.injEq,HO.dT.injEq,HO.tup.injEq,String.reduceEq,false_and,or_false,false_or,j9,FQ,FP,FL,FH,FI,FJ,OM,not_eq_true',decide_eq_false_iff_not,Classical.not_not,EJ,if_false_left,if_false_right,Gg,EH,jK,length_map,getElem?_nil,yu,uy,oU,yy,uv,uw,EL,yq,tC,oZ,iI,rI,EU,rU,uE,tB,qc,yx,Nr,yw,yQ,yN,uF,uH,EI,EA,rO,EB,EE,Nn,EF,E6,E5,Fq,uM,Fx,Fy,FD,FE,yV,yW,EZ,E1,R3,R4,R5,R6,R7,R8,R9,R_,rT,yG,EX,yM,E4,uI,yO,_L.start,O0,O1,O2,map_cons,map_nil,cons_append,nil_append,append_nil,length_cons,length_nil,getElem?_cons_zero,getElem?_cons_succ,Option.some.injEq,exists_eq_left,exists_eq_left',exists_and_left,exists_eq,V.int.injEq,V.ref.injEq,V.bl.injEq,V.ty.injEq,V.str.injEq,List.cons.injEq,and_true,true_and,set_cons_zero,set_cons_succ,decide_eq_true_eq,reduceSub,reduceAdd,replicate_succ,replicate_zero,List.replicate,reduceLT,reduceLE,reducePow,reduceToNat,reduceNeg,Nat.reduceLT,reduceLeDiff,Nat.reducePow,reduceMul,Int.reduceAdd,Int.reduceSub,and_self,or_true,true_or,gt_iff_lt,ge_iff_le,if_true,if_false,false_eq_true,reduceIte,sub_self,sub_zero];refine⟨n,rfl,h2,fq,gj r,λj hj=>⟨by unfold gj;dsimp only;lia,by unfold gj;dsimp only;lia⟩,λi j hi hj e=>by unfold gj at e;injection e with e1 e2;lia,tab,λj H2 hj sb tb=>?_,λD is H' a b c d e=>q D is H' a b c d e⟩
  have e:(if (j:Int) - r<0 then -((j:Int) - r) else(j:Int) - r)=(gj r j).1:=by unfold gj;dsimp only;split <;> lia
  refine λp hp=>⟨hp,?_⟩;rw[e]
  rfl
theorem jx(T:Tx K mg A)(aC:bF mg base A.bw A.br):bq P w K mg base bx 1 A.BG A.BH ["_law_script", "_law_k"] (cV K):=by
 refine bq.imp (sp:=(Rn K)) ?_ aer;refine T.iA.ok aeJ (λvs H Q E h=>?_) (λaV Ar outer s H vs Q E hr h=>?_)
 ·obtain⟨a,ns,k,rfl,_⟩:=h
  rfl
 ·obtain⟨a,ns,k,rfl,hS,hl,k0,k1,q⟩:=h;refine⟨_,(aB (fG (cM fQ (ah 1) (bI dh rfl T.cz boot_len (aj (ah 0) au)) (bA _)) (aK (bO (aH jc (aU cX (ah 0) (ah 1) (λ_ _=>rfl)) (aH iS aq (ah 1))))) bY)
   (aK (bO (aH iS aq (ah 1))))),?_⟩
  walk_at "rdm";refine⟨_,.inl hS,cj (λh=>⟨_,hS,_,gU k0 (by simpa using h),?_⟩) λh=>?_⟩
  ·walk_at "rdm";exact q
  ·have e:Gq ns k=0:=by
    unfold Gq;rw[getD_eq_getElem?_getD,getElem?_eq_none (by simp at h;lia)];rfl
   unfold gm at q;rw[e,Int.zero_add] at q;exact q
theorem bW(T:Tx K mg A)(aC:bF mg base A.bw A.br):bq P w K mg base bx 1 A.BI A.BJ ["_law_cell_here", "_law_turn_here", "_law_many"] bu:=by
 refine bq.imp (sp:=Ro) ?_ aep;refine T.bR.ok aeK (λvs H Q E h=>?_) (λaV Ar outer s H vs Q E hr h=>?_)
 ·obtain⟨c,t,m,rfl,_⟩:=h
  rfl
 ·obtain⟨c,t,m,rfl,t0,t1,m0,q⟩:=h;refine⟨_,(aK (bO (aH kr (aH kr (aH iS (aH b_ (ah 0) aq) (aH b_ aq (aH iS (aH iS aq (ah 1)) (ah 1)))) aq) (ah 2)))),?_⟩;walk_at "rdm";have a:=Int.mul_le_mul_of_nonneg_left t1 (show (0:Int)<=715225739 by decide)
  have a0:=Int.mul_nonneg (show (0:Int)<=715225739 by decide) t0
  have b:=mul_le_mul a t1 t0 ∅
  have b0:=Int.mul_nonneg a0 t0;exact⟨.inr ⟨∅,∅⟩,.inr ⟨∅,∅⟩,m0,q⟩
theorem afj(T:Tx K mg A)(aC:bF mg base A.bw A.br):bq P w K mg base bx 1 A.BP A.BQ ["_law_counts", "_law_spares", "_law_bad_here"] (adA K):=by
 refine T.J6.ok pL (λvs H Q E h=>?_) (λaV Ar outer s H vs Q E hr h=>?_)
 ·obtain⟨ca,ba,sp,rc,eL,bz,ms,rfl,_⟩:=h
  rfl
 ·obtain⟨ca,ba,sp,rc,eL,bz,ms,rfl,lK,hb,n64,s0',hc,hL,q⟩:=h;have tV:_+16<cLine:=Nat.lt_of_le_of_lt (Nat.add_le_add_left (by decide:16<=64) _) hr.units
  refine⟨_,(aB (aJ (aX (i:=3) pL.nd rfl (Or.inl rfl) (dH au)))
   (aB (aJ (aX (i:=4) pL.nd rfl (Or.inl rfl) (dH au)))
   (aB (aJ (d9 PassesOwn.never rfl (iH rfl T.e7 (aj (bI dh rfl T.cz boot_len (aj (ah 0) au)) au)) (bE (i:=5) pL.nd rfl (Or.inr rfl))
   (aK (d9 PassesOwn.never rfl (iH rfl T.e7 (aj (aU cX (ah 0) (ah 5) (λ_ _=>rfl)) au)) (bE (i:=6) pL.nd rfl (Or.inl rfl))
   (aK (dR (dG fQ (ah 6) (aH qi (aU cX (ah 0) (ah 5) (λ_ _=>rfl)) (ah 1)) (bA _)) (aK (c8 (jI plainAttrs_list PySem.F.slot_list_append PySem.F.type_list_append kQ (ah 3) (aj (cD (aj (ah 5) (aj (ah 6) au))) au)))) (aK (dR (dG (QH tV) (cD (aj (ah 5) (aj (ah 6) au))) (ah 2) rfl) (aK (c8 (jI plainAttrs_list PySem.F.slot_list_append PySem.F.type_list_append kQ (ah 4) (aj (cD (aj (ah 5) (aj (ah 6) au))) au)))) bY))))))))
   (aB (d9 PassesOwn.never rfl (iH rfl T.e7 (aj (bI dh rfl T.cz boot_len (aj (ah 3) au)) au)) (bE (i:=7) pL.nd rfl (Or.inl rfl))
   (aK (dR (dG (aci tV) (aU cX (ah 3) (ah 7) (λ_ _=>rfl)) (ah 2) rfl) (aB (aJ (aX (i:=5) pL.nd rfl (Or.inr rfl) (aU je (aU cX (ah 3) (ah 7) (λ_ _=>rfl)) aq (λ_ _=>rfl))))
   (aB (aJ (aX (i:=8) pL.nd rfl (Or.inl rfl) (bI (acp rfl tV) rfl T.mX boot_min (aj (jM (N:=["_law_cell_here", "_law_ring"]) (nt:=1) (fv:=[5]) (c7.of rfl rfl (by rfl) (by rfl) (by repeat (first | exact trivial | refine⟨rfl,?_⟩)) (by rfl) (by rfl) (by rfl) (by decide) (by decide +kernel)) rfl (fj (ah 4)) (λC s H fp=>(bE (i:=0) (show Nodup (["_law_cell_here", "_law_ring"]:List Str) by decide +kernel) rfl (Or.inl rfl))) (λC s H fp=>gS) (λC s H fp=>(cD (aj (bI NK rfl T.xh boot_abs (aj (aH qi (aU (gW (K:=K) rfl) (ah 0) aq (λ_ _=>rfl)) (ah 1)) au)) (aj (aU (gW (K:=K) rfl) (ah 0) aq (λ_ _=>rfl)) (aj (aU (gW (K:=K) rfl) (ah 0) aq (λ_ _=>rfl)) au)))))) au))))
   (aB (aJ (rQ (qt Oe (ah 8) (o8 aq) rZ) (ux (ah 3) (ah 7) set_list)))
   (aK (c8 (jI plainAttrs_list PySem.F.slot_list_remove PySem.F.type_list_remove (ack tV) (ah 4) (aj (qt Oe (ah 8) (o8 aq) rZ) au))))))) bY)))
   (aK (bO (ah 3))))))),?_⟩
  refine aL λNa ka=>?_;walk_at "rdm";refine λl nl=>ka _ _ ?_;refine aL λNb kb=>?_;walk_at "rdm";refine λf nf=>kb _ _ ?_;have fl:f≠l:=λz=>by rw[z,aD] at nf;cases nf
  have UZ:H f=none:=(ao.put nl).free nf;have s0:=(ao.put (o:=.lst []) nl).trans (ao.put (o:=.lst []) nf);have dI:Zn (upd (upd H l (.lst [])) f (.lst [])) l [] []:=⟨(aF fl.symm).trans aD,rfl,λi t p e=>by simp at e⟩
  have hf0:Zn (upd (upd H l (.lst [])) f (.lst [])) f [] []:=Zn.start;have gD:∀i:Nat,i<rc.length->rc.getD i 0∈rc:=λi hi=>by
   rw[show rc.getD i 0=rc[i] by simp[hi]];exact getElem_mem hi
  have U0:∀i,(dj sp 0 (rc.take i)).length<=1000*rc.length:=λi=>O7 s0' (λc yl=>by have:=hc c yl;lia) i
  have U1:∀i,i<=rc.length->(((List.range i).flatMap (eB rc sp)).filter λc => !decide (c∈bz)).length<=64*60:=λi hi=>by
   refine Nat.le_trans (length_filter_le _ _) ?_;rw[Hy,length_range];by_cases h0:rc.length=0
   ·rw[show i=0 by lia];lia
   ·have:=hc _ (gD 0 ∅)
    exact Nat.mul_le_mul ∅ ∅
  refine aL λNc kc=>?_;refine Gx rc.length (λi σ H'=>∃x5 x6 ts fP,σ = [some (.ref ca),some (.int sp),some (.ref ba),some (.ref l),some (.ref f),x5,x6,none,none]/\ao H H'/\Zn H' l ts (dj sp 0 (rc.take i))/\Zn H' f fP (((List.range i).flatMap (eB rc sp)).filter λc => !decide (c∈bz))) (λQ q=>?_) ∅ ⟨none,none,[],[],rfl,s0,dI,hf0⟩ ?_ ?_
  ·walk_at "rdm";refine⟨_,.inl (aE.of (s0 _ _ lK)),?_⟩;rw[length_map];exact q
  ·rintro i σ H' N hN hi ⟨x5,x6,ts,fP,rfl,s',hz,hf⟩;have hci:=hc _ (gD i hi);refine u7 (rc.getD i 0) (λj σ H2=>∃x6 ts fP,σ = [some (.ref ca),some (.int sp),some (.ref ba),some (.ref l),some (.ref f),some (.int (i:Int)),x6,none,none]/\ao H H2/\Zn H2 l ts (dj sp 0 (rc.take i)++lG i (rc.getD i 0 - sp).toNat j)/\Zn H2 f fP ((((List.range i).flatMap (eB rc sp)).filter λc => !decide (c∈bz))++ki bz i (rc.getD i 0 - sp).toNat j)/\j<=60) (λQ q=>?_) ∅ ∅ ⟨x6,ts,fP,rfl,s',by rw[lG,append_nil];exact hz,by rw[ki,append_nil];exact hf,∅⟩ ?_ ?_
   ·walk_at "rdm";exact⟨_,aE.of (s' _ _ lK),_,gU ∅ ∅,q⟩
   ·rintro j σ H2 N2 iB hj ⟨x6,ts,fP,rfl,s2,cL,gu,j60⟩;walk_at "rdm";have afk:=s2 _ _ lK;have fu:=hb.same s2;have lA:=ady i (rc.getD i 0 - sp).toNat j;have lB:=adz bz i (rc.getD i 0 - sp).toNat j;have f1:=U0 i;have f2:=U1 i ∅
    refine⟨_,aE.of afk,_,gU ∅ ∅,_,rfl,cj (λh1=>?_) λh1=>?_⟩
    ·have rB:j<(rc.getD i 0 - sp).toNat:=by
      have h1:(j:Int)<rc.getD i 0 - sp:=h1;lia
     refine⟨⟨_,cL.sq⟩,λp np=>⟨_,ao.put np _ _ cL.l,by rw[length_map,cL.n,length_append];lia,iB _ _ ⟨_,ts++[p],fP,rfl,ao.put2 (s2.trans (ao.put np)) nl,?_,?_,∅⟩⟩⟩
     ·rw[lG,if_pos rB,← append_assoc];exact cL.snoc np _ _
     ·rw[ki,if_pos rB];exact(gu.same (ao.put np)).eO (ao.put np _ _ cL.l) fl.symm
    ·have rB:¬ j<(rc.getD i 0 - sp).toNat:=by
      have h1:¬ (j:Int)<rc.getD i 0 - sp:=h1;lia
     intro p np;have fJ:=ao.put (o:=.tup [V.int (i:Int),V.int (j:Int)]) np;have eX:=fu.same fJ;have em:[(i:Int),(j:Int)]∈(zU eL bz).map (·.2)↔((i:Int),(j:Int))∈bz:=by rw[vR eX.n];exact zX (c:=((i:Int),(j:Int)))
     refine⟨[(i:Int),(j:Int)],rfl,zU eL bz,by rw[sW eX.n];exact eX.sq,eX.us,cj (λhm=>⟨⟨_,(gu.same fJ).sq⟩,λp1 cU=>?_⟩) λhm=>?_⟩
     ·have ie:((i:Int),(j:Int))∉bz:=λz=>hm (em.mpr z);refine⟨_,ao.put cU _ _ (fJ _ _ gu.l),by rw[length_map,gu.n,length_append];lia,iB _ _ ⟨_,ts,fP++[p1],rfl,ao.put2 ((s2.trans fJ).trans (ao.put cU)) UZ,?_,?_,∅⟩⟩
      ·rw[lG,if_neg rB];exact((cL.same fJ).same (ao.put cU)).eO (ao.put cU _ _ (fJ _ _ gu.l)) fl
      ·rw[ki,if_neg rB,if_neg ie,← append_assoc];exact(gu.same fJ).snoc cU _ _
     ·have ie:((i:Int),(j:Int))∈bz:=em.mp (Classical.not_not.mp hm);refine iB _ _ ⟨_,ts,fP,rfl,s2.trans fJ,?_,?_,∅⟩
      ·rw[lG,if_neg rB];exact cL.same fJ
      ·rw[ki,if_neg rB,if_pos ie];exact gu.same fJ
   ·rintro σ H2 ⟨x6,ts,fP,rfl,s2,cL,gu,j60⟩;refine hN _ _ ⟨_,_,ts,fP,rfl,s2,?_,?_⟩
    ·rw[ace hi];rw[HQ,min_eq_right ∅] at cL
     exact cL
    ·rw[range_succ,List.flatMap_append,filter_append,List.flatMap_singleton];rw[HR] at gu;have e:((List.range ((rc.getD i 0).toNat - (rc.getD i 0 - sp).toNat)).map λ(k:Nat)=>((i:Int),(((rc.getD i 0 - sp).toNat:Nat):Int)+(k:Int)))=eB rc sp i:=by
      unfold eB;rw[show (rc.getD i 0).toNat - (rc.getD i 0 - sp).toNat=sp.toNat by lia,toNat_of_nonneg ∅]
     rw[e] at gu;exact gu
  ·rintro σ H' ⟨x5,x6,ts,fP,rfl,s',hz,hf⟩;rw[take_length] at hz;refine kc _ _ ?_;have hz:Zn H' l ts (cE rc sp):=hz;have f2:=U1 rc.length (Nat.le_refl _);have hlen:=hL.len;have zl:(cE rc sp).length<=1000*64:=by
    have:=U0 rc.length;rw[take_length] at this;have e:(cE rc sp).length<=1000*rc.length:=this;lia
   refine Gx (cE rc sp).length (λi σ H2=>∃x5 x6 x7 x8 ts fP fs k,σ = [some (.ref ca),some (.int sp),some (.ref ba),some (.ref l),some (.ref f),x5,x6,x7,x8]/\ao H H2/\Zn H2 l ts (gG (cE rc sp) (ms.take k))/\Zn H2 f fP fs/\ou rc sp (bz++(ms.take k).map λm=>m.2.2) fs/\k=(((cE rc sp).take i).filter λc=>decide (c∈bz)).length/\fs.length<=64*60) (λQ q=>?_) ∅ ⟨x5,x6,none,none,ts,fP,_,0,rfl,s',hz,hf,by simpa using ou.start rc sp bz,rfl,f2⟩ ?_ ?_
   ·walk_at "rdm";refine⟨_,.inl hz.sq,?_⟩;rw[length_map,hz.n];exact q
   ·rintro i σ H2 N hN hi ⟨x5,x6,x7,x8,ts,fP,fs,k,rfl,s2,cL,gu,F,hk,U3⟩;obtain⟨g1,g2,g3⟩:=adu hlen (λk m e=>(hL.at k m e).1) hi hk;have c_:=adv hi hk (bz:=bz);have oK:∃t,ts[i]? = some t:=⟨ts[i]'(by rw[cL.n,sV];exact hi),getElem?_eq_getElem _⟩
    obtain⟨t,oK⟩:=oK;have U4:=cL.t i t _ oK g1;have fu:=hb.same s2;have U5:dW (ts.map V.ref) (i:Int)=some (.ref t):=l_ (by rw[getElem?_map,oK];rfl)
    walk_at "rdm";have em:[((cE rc sp)[i]).1,((cE rc sp)[i]).2]∈(zU eL bz).map (·.2)↔(cE rc sp)[i]∈bz:=by rw[vR fu.n];exact zX (c:=(cE rc sp)[i])
    refine⟨_,cL.sq,_,U5,t,rfl,[((cE rc sp)[i]).1,((cE rc sp)[i]).2],U4,zU eL bz,by rw[sW fu.n];exact fu.sq,fu.us,cj (λhm=>?_) λhm=>?_⟩
    ·have ie:=em.mp hm;rw[if_pos ie] at c_;obtain⟨pF,ek⟩:=g3 ie;obtain⟨_,e2,is,ord,ff⟩:=hL.at k ms[k] (getElem?_eq_getElem pF);rw[ek,getElem?_eq_getElem hi] at e2;have e2:=(Option.some.inj e2).symm;rw[e2] at ord;generalize (cE rc sp)[i] = ci at *
     intro N1 k1;refine⟨_,cL.sq,_,U5,t,rfl,_,bg.of U4,_,rfl,k1 _ _ ?_⟩;walk_at "rdm";intro N2 k2;refine jO f (fP.map V.ref) (λD j ys aA H3=>∃(u:Option V) (gs:Us),ys=uV gs/\aA = [u,some (.int ci.1)]/\ao H2 H3/\H2 D=none/\qQ H3 gs/\gs.map (·.2)=(fs.take j).map (λc=>gk c ci.1)/\H3 D=some (.lst ys)) (λQ q=>q) gu.sq ?_ ?_ ?_ ?_
     ·intro D hD;exact⟨none,[],rfl,rfl,ao.put hD,hD,(λ_ h=>nomatch h),by simp,aD⟩
     ·rintro D j ys aA H3 ⟨u,gs,rfl,rfl,h1,h2,h3,h4,h5⟩;refine⟨h5,?_,(gu.same h1).sq⟩;have:=congrArg List.length h4;rw[length_map,length_map,length_take] at this;rw[zS,j9];lia
     ·rintro D j v ys aA H3 N2 iB hx ⟨u,gs,rfl,rfl,h1,h2,h3,h4,h5⟩;obtain⟨t',q',rfl,hq,pT⟩:=(gu.same h1).at hx;walk_at "rdm";refine⟨_,bg.of pT,_,rfl,_,rfl,_,bg.of pT,_,rfl,_,bg.of pT,_,rfl,λp np=>?_⟩;have ea:(if q'.1 - ci.1<0 then -(q'.1 - ci.1) else q'.1 - ci.1)=((q'.1 - ci.1).natAbs:Int):=by split <;> lia
      rw[ea];refine⟨ao.put np _ _ h5,iB _ _ _ ⟨_,gs++[(p,gk q' ci.1)],by simp[uV],rfl,ao.put2 (h1.trans (ao.put np)) h2,h2,?_,?_,by simp[uV,aD]⟩⟩
      ·intro y hy;have nD:∀ {b:Addr} {xs:List V},upd H3 p (.tup ((gk q' ci.1).map V.int)) b=some (.tup xs)->b≠D:=λe z=>by
        rw[z,ao.put np _ _ h5] at e;cases e
       rcases mem_append.mp hy with hy | hy
       ·have:=ao.put (o:=.tup ((gk q' ci.1).map V.int)) np _ _ (h3 y hy);exact(aF (nD this)).trans this
       ·rw[mem_singleton.mp hy];have:upd H3 p (.tup ((gk q' ci.1).map V.int)) p=some (.tup ((gk q' ci.1).map V.int)):=aD;exact(aF (nD this)).trans this
      ·rw[take_succ_get hq,map_append,map_append,h4];rfl
     ·rintro D ys aA H3 ⟨u,gs,rfl,rfl,h1,h2,h3,h4,h5⟩;rw[length_map,gu.n,take_length] at h4;have om:=acu F ord ff;have afl:gs.length=fs.length:=by have:=congrArg List.length h4;simpa using this
      refine⟨D,rfl,gs,aE.of h5,h3,by rw[afl];exact List.length_pos_of_mem om,λb U6 least=>?_⟩
      have afm:b.2∈fs.map (λc=>gk c ci.1):=by rw[← h4];exact mem_map_of_mem U6
      obtain⟨c,hc1,o7⟩:=mem_map.mp afm;have ce:c=ms[k].2.2:=acs F ord n64 ff hc1 λy hy z=>by
       have:gk y ci.1∈gs.map (·.2):=by rw[h4];exact mem_map_of_mem hy
       obtain⟨g,hg,eg⟩:=mem_map.mp this;exact least g hg (by rw[eg,← o7];exact z)
      have Ds:=h3 b U6;rw[← o7] at Ds;subst ce;refine k2 _ _ ?_;walk_at "rdm";intro N3 k3;have U7:iK (List.map V.int (gk ms[k].2.2 ci.1)) (some 1) none = [.int ms[k].2.2.1,.int ms[k].2.2.2]:=rfl;have side:¬(_H.bC (List.map V.int (gk ms[k].2.2 ci.1)).length 0 (some 1)=0/\_H.bC (List.map V.int (gk ms[k].2.2 ci.1)).length (List.map V.int (gk ms[k].2.2 ci.1)).length none=(List.map V.int (gk ms[k].2.2 ci.1)).length):=by
       change ¬(_H.bC 3 0 (some 1)=0/\_H.bC 3 3 none=3);decide
      refine⟨_,bg.of Ds,side,λp np=>?_⟩;rw[U7];have sP:=ao.put (o:=.tup [.int ms[k].2.2.1,.int ms[k].2.2.2]) np;have xq:=(cL.same h1).same sP;have hf3:=(gu.same h1).same sP;refine⟨_,xq.l,i,QB (by rw[length_map,xq.n,sV];exact hi),k3 _ _ ?_⟩
      walk_at "rdm";have Dt:Zn (upd (upd H3 p (.tup [.int ms[k].2.2.1,.int ms[k].2.2.2])) l (.lst ((ts.map V.ref).set i (V.ref p)))) l (ts.set i p) (gG (cE rc sp) (ms.take (k+1))):=by
       rw[take_succ_get (getElem?_eq_getElem pF),QC,ek,← List.map_set];exact xq.setAt aD
      have U8:=hf3.eO (ys:=(ts.map V.ref).set i (V.ref p)) xq.l fl.symm;have U9:upd (upd H3 p (.tup [.int ms[k].2.2.1,.int ms[k].2.2.2])) l (.lst ((ts.map V.ref).set i (V.ref p))) b.fst=some (.tup (List.map V.int (gk ms[k].2.2 ci.1))) :=
       (aF (λz=>by have:=sP _ _ Ds;rw[z,xq.l] at this;cases this)).trans (sP _ _ Ds)
      refine⟨⟨_,U8.sq⟩,_,bg.of U9,side,λp1 cU=>?_⟩;rw[U7];have sQ:=ao.put (o:=.tup [.int ms[k].2.2.1,.int ms[k].2.2.2]) cU;have rC:=U8.same sQ;refine⟨zU fP fs,by rw[sW rC.n];exact rC.l,rC.us,[ms[k].2.2.1,ms[k].2.2.2],rfl,by rw[vR rC.n];exact zX.mpr om,λj hj ej _=>?_⟩
      have jR:j<fs.length:=by rw[acv rC.n] at hj;exact hj
      rw[acw hj jR] at ej;simp only[List.cons.injEq,and_true] at ej;have eo:fs[j] = ms[k].2.2:=Prod.ext ej.1 ej.2;have F':=F.step jR;rw[eo,append_assoc] at F';refine hN _ _ ⟨_,_,_,_,ts.set i p,fP.eraseIdx j,fs.eraseIdx j,k+1,rfl,ao.put2 ((ao.put2 ((s2.trans h1).trans sP) nl).trans sQ) UZ,(Dt.same sQ).eO rC.l fl,rC.drop j,?_,c_,?_⟩
      ·rw[take_succ_get (getElem?_eq_getElem pF),map_append];exact F'
      ·have:=List.length_eraseIdx_le fs j;lia
    ·have ie:(cE rc sp)[i]∉bz:=λz=>hm (em.mpr z);rw[if_neg ie] at c_;exact hN _ _ ⟨_,_,_,_,ts,fP,fs,k,rfl,s2,cL,gu,F,c_,U3⟩
   ·rintro σ H2 ⟨x5,x6,x7,x8,ts,fP,fs,k,rfl,s2,cL,gu,F,hk,U3⟩;rw[adw hlen hk] at cL;walk_at "rdm";exact q l ts H2 s2 nl cL
theorem afn(T:Tx K mg A)(aC:bF mg base A.bw A.br):bq P w K mg base bx 1 A.B8 A.B9 ["_law_one"] adM:=by
 refine T.Ub.ok aeM (λvs H Q E h=>?_) (λaV Ar outer s H vs Q E hr h=>?_)
 ·obtain⟨t,n,a,b,rfl,_⟩:=h
  rfl
 ·obtain⟨t,n,a,b,rfl,ht,q⟩:=h;refine⟨_,(aK (bO (aU e_ (ah 0) aq (λ_ _=>rfl)))),?_⟩;walk_at "rdd";exact⟨_,bg.of ht,_,rfl,q⟩
theorem U_(T:Tx K mg A)(aC:bF mg base A.bw A.br):HX P w K mg base 1 A.Cd A.Ce ["_law_e"] (ad_ A.bN):=by
 refine T.CC.okW Se (λvs H Q E h=>?_) (λaV Ar outer s H vs Q e hr h=>?_)
 ·obtain⟨a,rfl,_⟩:=h
  rfl
 ·obtain⟨a,rfl,ha,q⟩:=h;refine⟨_,(aB (aX (i:=1) Se.nd rfl (Or.inl rfl) (bI adW rfl T.pQ boot_isinstance (aj (ah 0) (aj (cD (aj (fh (v:=.ref A.iU) rfl T.UP rfl) (aj (fh (v:=.ref A.iV) rfl T.UQ rfl) (aj (fh (v:=.ref A.kF) rfl T.UR rfl) (aj (fh (v:=.ref A.iW) rfl T.US rfl) au))))) au))))
   (aK (bO (EG (bI P6 rfl T.pQ boot_isinstance (aj (ah 0) (aj (fh (v:=.ref A.bN) rfl T.rq rfl) au))) (EG (bI P6 rfl T.pQ boot_isinstance (aj (ah 0) (aj (Ez (v:=.ty "ValueError") rfl T.C_ PyProof.Rows.Boot.«ValueError» rfl) au))) (Np (YG (ah 1)))))))),?_⟩
  walk_at "rdt";intro p np;have qK:=ao.put (o:=.tup [V.ref A.iU,V.ref A.iV,V.ref A.kF,V.ref A.iW]) np _ _ ha;refine⟨A.bN,[A.iU,A.iV,A.kF,A.iW],rfl,qK,T.Dg,T.Dh,false,?_,A.bN,_,.inl rfl,qK,T.Dg,T.Dh,true,T.Dl,ite_yes rfl ⟨A.bN,_,.inr rfl,qK,T.Dg,T.Dh,true,T.Dn,ite_yes rfl (q _ (ao.put np))⟩⟩;simp only[map_cons,map_nil,W.kitAny,T.Di,T.Dj,T.Dk,T.Dm]
theorem afo(T:Tx K mg A)(aC:bF mg base A.bw A.br):bq P w K mg base bx 1 A.Cn A.Co ["_law_state", "_law_shares", "_law_dues"] (aef K A.bJ A.cg):=by
 refine T.Kr.ok wG (λvs H Q E h=>?_) (λaV Ar outer s H vs Q E hr h=>?_)
 ·obtain⟨S,l,iM,sh,t,u,D,D',ts,ps,rfl,_⟩:=h
  rfl
 ·obtain⟨S,l,iM,sh,t,u,D,D',ts,ps,rfl,hS,hz,ok,t0,t1,u0,u1,hp,p1,Du,up,kn,q⟩:=h;have g8:=hp.n;have zn:=hz.n;have n4:=ok.n4;refine⟨_,(aB (aJ (nQ (i:=3) wG.nd rfl (Or.inl rfl) (N:=["_law_one"]) (nt:=1) (fv:=[]) (c7.of rfl rfl (by rfl) (by rfl) (by repeat (first | exact trivial | refine⟨rfl,?_⟩)) (by rfl) (by rfl) (by rfl) (by decide) (by decide +kernel)) rfl (fj (ah 2)) (λC s H fp=>(bE (i:=0) (show Nodup (["_law_one"]:List Str) by decide +kernel) rfl (Or.inl rfl))) (λC s H fp=>gS) (λC s H fp=>(aU (gW (K:=K) rfl) (aU (gW (K:=K) rfl) (ah 0) aq (λ_ _=>rfl)) aq (λ_ _=>rfl)))))
   (aB (aJ (aX (i:=4) wG.nd rfl (Or.inr rfl) (aU cX (ah 0) aq (λ_ _=>rfl))))
   (aB (aJ (gH (dR (PW.pt (fZ (dG lZ (aU cX (ah 0) aq (λ_ _=>rfl)) (aU je (aU cX (ah 1) (ah 4) (λ_ _=>rfl)) aq (λ_ _=>rfl)) (bA _)) (fY (dG yZ (aU je (aU cX (ah 1) (ah 4) (λ_ _=>rfl)) aq (λ_ _=>rfl)) (ah 3) rfl)))) (aB (aX (i:=4) wG.nd rfl (Or.inr rfl) (aH kr (aH b_ (ah 4) aq) (bI dh rfl T.cz boot_len (aj (ah 1) au))))
   (aB (EN PassesOwn.never (dG yZ (aU je (aU cX (ah 1) (ah 4) (λ_ _=>rfl)) aq (λ_ _=>rfl)) (ah 3) rfl)
   (aK (aX (i:=4) wG.nd rfl (Or.inr rfl) (aH kr (aH b_ (ah 4) aq) (bI dh rfl T.cz boot_len (aj (ah 1) au))))))
   (aK (rQ aq (ux (ah 0) aq set_list))))) bY)))
   (aB (aJ (rQ (ah 4) (ux (ah 0) aq set_list)))
   (aB (aJ (rQ (aH jc (aU cX (ah 0) aq (λ_ _=>rfl)) aq) (ux (ah 0) aq set_list)))
   (aK (bO (aU iL (jM (N:=["_law_one", "_law_shares", "_law_at"]) (nt:=1) (fv:=[1,4]) (c7.of rfl rfl (by rfl) (by rfl) (by repeat (first | exact trivial | refine⟨rfl,?_⟩)) (by rfl) (by rfl) (by rfl) (by decide) (by decide +kernel)) rfl (fj (ah 2)) (λC s H fp=>(bE (i:=0) (show Nodup (["_law_one", "_law_shares", "_law_at"]:List Str) by decide +kernel) rfl (Or.inl rfl))) (λC s H fp=>(uX (dG lZ (aU (gW (K:=K) rfl) (aU (gW (K:=K) rfl) (ah 0) aq (λ_ _=>rfl)) aq (λ_ _=>rfl)) (aU (gW (K:=K) rfl) (aU (Gw (K:=K) rfl) (ah 1) (ah 2) (λ_ _=>rfl)) aq (λ_ _=>rfl)) (bA _)))) (λC s H fp=>(ah 0))) aq (λ_ _=>rfl))))))))),?_⟩
  refine aL λN1 k1=>?_;refine jO D' (ts.map V.ref) (λD2 i ys aA H2=>∃(v:Option V),ys=((ps.take i).map (·.q.bT)).map V.int/\aA = [v]/\H2 D2=some (.lst ys)/\ao H H2/\H D2=none) (λQ q=>q) (aE.of hp.l) ?_ ?_ ?_ ?_
  ·intro D2 hD;exact⟨none,rfl,rfl,aD,ao.put hD,hD⟩
  ·rintro D2 i ys aA H2 ⟨v,rfl,rfl,e1,e2,e3⟩;exact⟨e1,fS (by simp only[length_map,length_take];lia),aE.of (e2 _ _ hp.l)⟩
  ·rintro D2 i x ys aA H2 N hN hx ⟨v,rfl,rfl,e1,e2,e3⟩;obtain⟨a,ha,rfl⟩:=fT hx;have hi:i<ps.length:=by rw[← g8];exact e8 ha
   refine(hp.same e2).el i a ps[i] ha (getElem?_eq_getElem hi) λtk d m b1 dx ap l tW m' b' aR h1=>?_;walk_at "rdm";refine⟨_,bg.of h1.o,_,rfl,_,rfl,_,bg.of h1.k.o,_,rfl,e1,hN _ _ _ ⟨_,?_,rfl,aD,ao.put2 e2 e3,e3⟩⟩;rw[take_succ_get (getElem?_eq_getElem hi),map_append,map_append];rfl
  ·rintro D2 ys aA H2 ⟨v,rfl,rfl,e1,e2,e3⟩;rw[length_map,g8,take_length] at e1;refine k1 _ _ ?_;have iP:=e2 _ _ hS;have cL:=hz.same e2;have DS:D2≠S:=λz=>by rw[z,hS] at e3;cases e3
   refine aL λN2 k2=>?_;walk_at "rdm";refine⟨_,aE.of iP,_,rfl,k2 _ _ ?_⟩;obtain⟨pt,c1,c2⟩:=cL.ti t0 t1;have ji:∀a:Int,a∈ps.map (·.q.bT)↔here ps a:=λa=>by
    constructor
    ·intro h;obtain⟨d,hd,e⟩:=mem_map.mp h;exact we hd e
    ·intro h;obtain⟨n,hn⟩:=isSome_iff_exists.mp h;obtain⟨⟨d,hd,e,_⟩,_⟩:=(Ae ps).2 n hn;exact mem_map.mpr ⟨d,hd,e⟩
   refine aL λN3 k3=>?_;obtain⟨d0,Va⟩:∃d,d∈ps:=by
    cases ps with
    | nil=>simp at p1
    | cons d ds=>exact⟨d,by simp⟩
   obtain⟨pa,hpa,epa⟩:=mem_map.mp (kn d0 Va);have ppa:here ps pa.1:=by rw[epa];exact we Va rfl
   refine R1 (λσ H3=>∃t' u0,σ = [some (.ref S),some (.ref l),some (.ref D'),some (.ref D2),some (.int t')]/\SameBut S H2 H3/\H3 S=some (.lst [.int t,.int u0])/\jV sh ps t u t' (u0+1)) (λM hM B hB=>?_) ?_
   ·walk_at "rdm";refine go2 (P:=gq sh t<=u\/¬ here ps (dc sh t)) (λgo=>⟨_,aE.of iP,_,rfl,_,cL.sq,_,c1,pt,rfl,_,bg.of c2,_,rfl,rfl,cj (λh1=>go (.inl (by have:u=gq sh t:=(by simpa using h1);lia))) λh1=>⟨_,cL.sq,_,c1,pt,rfl,_,bg.of c2,_,rfl,_,.inl (aE.of e1),rfl,zB _,?_⟩⟩) λhc=>hB _ _ _ ?_
    ·rw[vh];refine cj (λh2=>go (.inr λz=>of_decide_eq_false h2 ((ji _).mpr z))) λh2=>?_
     refine hM _ _ ⟨t,u,rfl,(λb o e _=>e),iP,⟨λz=>?_,λ_=>⟨rfl,rfl⟩⟩⟩
     rcases z with z | z
     ·exact absurd (show u=gq sh t by lia) (by simpa using h1)
     ·exact absurd ((ji _).mp (of_decide_eq_true (by simpa using h2))) z
    ·walk_at "rdm";refine⟨_,.inl cL.sq,by rw[length_map];lia,?_⟩
     rw[length_map,zn];obtain⟨m0,g0⟩:=iR.start (pr:=here ps) t0 t1 hpa ppa;refine⟨λm σ H'=>∃t':Int,σ = [some (.ref S),some (.ref l),some (.ref D'),some (.ref D2),some (.int t')]/\H' = H2/\iR (here ps) sh t m t',⟨m0,_,rfl,rfl,g0⟩,?_⟩;rintro m σ H' ⟨t',rfl,rfl,g⟩;obtain⟨b0,b1⟩:=g.bd ∅
     obtain⟨p2,c3,c4⟩:=cL.ti b0 b1;walk_at "rdm";refine⟨_,cL.sq,_,c3,p2,rfl,_,bg.of c4,_,rfl,_,.inl (aE.of e1),rfl,zB _,?_⟩;rw[vh];refine cj (λh0=>?_) λh0=>?_
     ·refine⟨λbf H3=>∃m',m' < m/\∃t':Int,bf = [some (.ref S),some (.ref l),some (.ref D'),some (.ref D2),some (.int t')]/\H3=H'/\iR (here ps) sh t m' t',λ_ _ h=>h,?_⟩;obtain⟨m',hm,g'⟩:=g.go (λz=>of_decide_eq_false h0 ((ji _).mpr z));refine⟨_,.inl cL.sq,by rw[length_map];lia,m',hm,_,rfl,rfl,?_⟩
      rw[length_map,zn];exact g'
     ·refine⟨_,iP,1,rfl,hM _ _ ⟨t',0,rfl,SameBut.start,aD,⟨λ_=>⟨g.stop ((ji _).mp (of_decide_eq_true (by simpa using h0))),rfl⟩,λz=>absurd hc z⟩⟩⟩
   ·rintro σ H3 ⟨t',u0,rfl,sS,oB,st⟩;refine k3 _ _ ?_;obtain⟨b0,b1,hh⟩:=st.bt ok t0 t1;refine aL λN4 k4=>?_;walk_at "rdm";refine⟨_,oB,0,rfl,k4 _ _ ?_⟩;refine aL λN5 k5=>?_;wp_walk using set_cons_zero;refine⟨_,aE.of aD,_,rfl,u0,rfl,1,rfl,k5 _ _ ?_⟩;have xr:SameBut S H2 (upd H3 S (.lst [.int t',.int (u0+1)])):=λb o e hb=>by rw[aF hb];exact sS b o e hb
    have tX:upd H3 S (.lst [.int t',.int (u0+1)]) S=some (.lst [.int t',.int (u0+1)]):=aD;change yx _ _ _ (upd H3 S (.lst [.int t',.int (u0+1)]));generalize upd H3 S (.lst [.int t',.int (u0+1)])=H5 at xr tX ⊢;have kk:=K2.of iP xr;have rD:=(hp.same e2).k2 kk;have lM:=cL.k2 kk;obtain⟨p5,c5,c6⟩:=lM.ti b0 b1;walk_at "rdm";refine jO D' (ts.map V.ref) (λD6 i ys aA H6=>∃(v:Option V) (xs:List Addr),ys=xs.map V.ref/\aA = [v,some (.ref l),some (.int t')]/\H6 D6=some (.lst ys)/\ao H5 H6/\H5 D6=none/\xs.length<=(ps.take i).length/\((∀e∈ps.take i,e.q.bT≠dc sh t')/\xs = []\/∃j tt pb r,xs=tt::r/\ts[j]? = some tt/\ps[j]? = some pb/\pb.q.bT=dc sh t'/\∀e∈ps.take j,e.q.bT≠dc sh t')) (λQ q=>q) (aE.of rD.l) ?_ ?_ ?_ ?_
    ·intro D6 hD;exact⟨none,[],rfl,rfl,aD,ao.put hD,hD,Nat.le_refl _,.inl ⟨(λ_ h=>by simp at h),rfl⟩⟩
    ·rintro D6 i ys aA H6 ⟨v,xs,rfl,rfl,g1,g2,g3,g4,g5⟩;rw[length_take] at g4;exact⟨g1,fS (by rw[length_map];lia),aE.of (g2 _ _ rD.l)⟩
    ·rintro D6 i x ys aA H6 N hN hx ⟨v,xs,rfl,rfl,g1,g2,g3,g4,g5⟩;obtain⟨a,ha,rfl⟩:=fT hx;have hi:i<ps.length:=by rw[← g8];exact e8 ha
     refine(rD.same g2).el i a ps[i] ha (getElem?_eq_getElem hi) λtk d m b1 dx ap lc tW m' b' aR h1=>?_;have Vb:=take_succ_get (getElem?_eq_getElem hi);walk_at "rdm";have gl:xs.length+1<=(ps.take (i+1)).length:=by rw[Vb,length_append];simpa using g4
     refine⟨_,bg.of h1.o,_,rfl,_,rfl,_,bg.of h1.k.o,_,rfl,_,(lM.same g2).sq,_,c5,p5,rfl,_,bg.of (g2 _ _ c6),_,rfl,rfl,cj (λhe=>?_) λhe=>?_⟩
     ·have he:ps[i].q.bT=dc sh t':=by simpa using he
      refine⟨g1,hN _ _ _ ⟨_,xs++[a],by rw[map_append];rfl,rfl,aD,ao.put2 g2 g3,g3,by simpa using gl,.inr ?_⟩⟩
      rcases g5 with⟨no,rfl⟩ | ⟨j,tt,pb,r,rfl,j1,j2,j3,j4⟩
      ·exact⟨i,a,ps[i],[],rfl,ha,getElem?_eq_getElem hi,he,no⟩
      ·exact⟨j,tt,pb,r++[a],rfl,j1,j2,j3,j4⟩
     ·have he:ps[i].q.bT≠dc sh t':=by simpa using he
      refine hN _ _ _ ⟨_,xs,rfl,rfl,g1,g2,g3,∅,?_⟩
      rcases g5 with⟨no,rfl⟩ | h
      ·refine .inl ⟨λe hm=>?_,rfl⟩;rw[Vb] at hm;rcases mem_append.mp hm with hm | hm
       ·exact no e hm
       ·rw[mem_singleton.mp hm];exact he
      ·exact .inr h
    ·rintro D6 ys aA H6 ⟨v,xs,rfl,rfl,g1,g2,g3,g4,g5⟩;rw[length_map,g8,take_length] at g5;rcases g5 with⟨no,_⟩ | ⟨j,tt,pb,r,rfl,j1,j2,j3,j4⟩
     ·obtain⟨n,hn⟩:=isSome_iff_exists.mp hh;obtain⟨⟨d,hd,e,_⟩,_⟩:=(Ae ps).2 n hn;exact absurd e (no d hd)
     ·refine⟨D6,rfl,_,aE.of g1,_,(show dW (V.ref tt::r.map V.ref) ((0:Nat):Int)=some (V.ref tt) from l_ rfl),q t' (u0+1) j tt pb H6 (λb o e hb=>g2 _ _ (xr b o (e2 _ _ e) hb)) (g2 _ _ tX) st j1 j2 (ad0 up j2 j3 j4)⟩
theorem Vc(T:Tx K mg A)(aC:bF mg base A.bw A.br):bq P w K mg base (gi P w base) 2 A.AB A.AD ["self", "shares"] (ad3 A.cB A.bN):=by
 refine T.Sj.zD aes (λvs H Q E h=>?_) (λaV Ar outer s H vs Q E hr h=>?_)
 ·obtain⟨x,dx,l,ts,z,rfl,_⟩:=h
  rfl
 ·obtain⟨x,dx,l,ts,z,rfl,hx,hz,zn,q1,q2⟩:=h;have zl:=hz.n;refine⟨_,(aB (c8 (aN (ae5 T aC) (hr.mono (by decide)) rfl T.Sg T.Jv.kp T.Sf .nil Pz (aj (ah 1) au)))
   (aB (eG (ah 0) (jM (N:=["asker", "share"]) (nt:=2) (fv:=[]) (c7.of rfl rfl (by rfl) (by rfl) (by repeat (first | exact trivial | refine⟨rfl,?_⟩)) (by rfl) (by rfl) (by rfl) (by decide) (by decide +kernel)) rfl (fj (ah 1)) (λC s H fp=>(GA (K:=K) (n:=2) rfl rfl (eF (bE (i:=0) (show Nodup (["asker", "share"]:List Str) by decide +kernel) rfl (Or.inl rfl)) (eF (bE (i:=1) (show Nodup (["asker", "share"]:List Str) by decide +kernel) rfl (Or.inl rfl)) jF)))) (λC s H fp=>gS) (λC s H fp=>(cD (aj (ah 0) (aj (ah 1) au))))) rfl)
   (aK (c8 (Zb (ah 0) T.pO T.Sm (ae7 T aC) (hr.mono (by decide)) T.Sl .nil aI))))),?_⟩
  walk_at "rdd";refine⟨l,ts,z,rfl,hz,zn,λok H1 s1=>?_,λno H1 s1=>q2 no H1 s1⟩;have nX:=s1 _ _ hx;have kG:=hz.same s1;refine jO l (ts.map V.ref) (λD i ys aA H2=>∃(u v:Option V) (as:List Addr),ys=as.map V.ref/\aA = [u,v]/\Zn H2 D as (z.take i)/\ao H1 H2/\H1 D=none) (λQ q=>q) kG.sq ?_ ?_ ?_ ?_
  ·intro D hD;exact⟨none,none,[],rfl,rfl,Zn.start,ao.put hD,hD⟩
  ·rintro D i ys aA H2 ⟨u',v',as,rfl,rfl,e1,e2,e3⟩;have:=ok.n4;have en:=e1.n;rw[length_take] at en;exact⟨e1.l,fS (by rw[length_map];lia),(kG.same e2).sq⟩
  ·rintro D i y ys aA H2 N hN hy ⟨u',v',as,rfl,rfl,e1,e2,e3⟩;obtain⟨pt,p,rfl,hp,ht⟩:=(kG.same e2).at hy;walk_at "rdm";refine⟨_,bg.of ht,rfl,_,_,rfl,_,_,rfl,rfl,λp1 cU=>⟨ao.put cU _ _ e1.l,hN _ _ _ ⟨_,_,as++[p1],by rw[map_append];rfl,rfl,?_,ao.put2 (e2.trans (ao.put cU)) e3,e3⟩⟩⟩
   rw[take_succ_get hp];exact e1.snoc cU _ _
  ·rintro D ys aA H2 ⟨u',v',as,rfl,rfl,e1,e2,e3⟩;rw[length_map,zl,take_length] at e1;have mZ:=e2 _ _ nX;have xD:x≠D:=λz=>by rw[z,e3] at nX;cases nX
   wp_walk using T,mZ;refine⟨x,dx,D,_,rfl,aD,.inl rfl,λH3 sb xu=>?_⟩;have sx:SameBut x H2 H3:=λb o e hb=>sb b o (by rw[aF hb];exact e) hb
   refine q1 ok D as H3 (λb o e hb=>sx b o (e2 _ _ (s1 _ _ e)) hb) (s1.free e3) ⟨xu,sx _ _ e1.l (Ne.symm xD),e1.n,λi t p h1 h2=>sx _ _ (e1.t i t p h1 h2) (λz=>?_)⟩
   have:=e1.t i t p h1 h2;rw[z,mZ] at this;cases this
theorem Vd(T:Tx K mg A)(aC:bF mg base A.bw A.br):bq P w K mg base (gi P w base) 2 A.AG A.AH ["self", "plate", "ring", "beat", "dues"] (ad9 K A.bJ A.cg A.cB A.bN):=by
 refine T.So.zD Jo (λvs H Q E h=>?_) (λaV Ar outer s H vs Q E hr h=>?_)
 ·obtain⟨x,p,dx,pl,r,b,bH,sh,t,u,D,ps,ds,rfl,_⟩:=h
  rfl
 ·obtain⟨x,p,dx,pl,r,b,bH,sh,t,u,D,ps,ds,rfl,hx,ok,t0,t1,hd,d1,d33,q1,q2⟩:=h;have hu:=kX hr;have pn:=hx.p.n;refine⟨_,(aB (aJ (aX (i:=5) Jo.nd rfl (Or.inl rfl) (aN (ae6 T aC) (hr.mono (by decide)) rfl T.Si T.Jw.kp T.Sh .nil aI (aj (ah 4) au))))
   (aB (aJ (c8 (E7 (ah 0) T.pO T.Su (ae8 T aC) (hr.mono (by decide)) T.Ss .nil Pz (aj (ah 5) au))))
   (aB (aJ (aX (i:=6) Jo.nd rfl (Or.inl rfl) (aU iL (cW (ah 0) rfl) (cW (ah 0) rfl) (λ_ _=>rfl))))
   (aB (aJ (gH (dR (PW.pt (fZ (dG rX (cW (ah 0) rfl) (aU e_ (ah 6) aq (λ_ _=>rfl)) (bA _)) (fY (rN (FO hu (aU e_ (ah 6) aq (λ_ _=>rfl)) (ah 5)))))) (aB (eG (ah 0) (E7 (ah 0) T.pO T.Sx (ae9 T aC) (hr.mono (by decide)) T.Sw .nil aI (aj (ah 5) au)) rfl)
   (aK (eG (ah 0) aq rfl))) bY)))
   (aB (aJ (eG (ah 0) (aH jc (cW (ah 0) rfl) aq) rfl))
   (aK (bO (ZX hu (ah 5) (aU je (aU iL (cW (ah 0) rfl) (cW (ah 0) rfl) (λ_ _=>rfl)) aq (λ_ _=>rfl)) (λ_ _=>rfl))))))))),?_⟩
  refine aL λN1 k1=>?_;walk_at "rdt";refine⟨D,ps,ds,rfl,hd,d33,λB kvs H1 s1 nB hB kl lo=>k1 _ _ ?_⟩;have nX:=hx.same s1;have Ve:=nX.o;unfold gJ at Ve;refine aL λN2 k2=>?_;wp_walk using T,Ve;refine⟨x,B,dx,pl,bH,sh,t,u,kvs,rfl,nX,ok.n4,hB,λp hp=>let ⟨d,_,e⟩:=lo.k p hp;⟨_,e⟩,λkn ob H2 sb xw=>k2 _ _ ?_,λno H2 sb=>q2 (λz=>no (lo.known.mpr z)) H2 λb o e=>sb b o (s1 _ _ e) (λz=>by rw[z,nB] at e;cases e)⟩
  have Vf:=lo.known.mp kn;have s2:ao H H2:=λb o e=>sb b o (s1 _ _ e) (λz=>by rw[z,nB] at e;cases e)
  have mZ:=nX.but sb hB;have pU:=mZ.o;unfold gJ at pU;obtain⟨pt,e1,e2⟩:=mZ.p.ti t0 t1;have ptx:pt≠x:=λz=>by rw[z,pU] at e2;cases e2
  refine aL λN3 k3=>?_;wp_walk using T,pU;refine⟨_,mZ.p.sq,_,e1,k3 _ _ ?_⟩;have dg:fR H2 B (.int (dc sh t)) (cG kvs (eS (dc sh t))):=.inl ⟨kvs,eS _,.inr ⟨ob,xw⟩,rfl,rfl⟩;obtain⟨d,Vg⟩:∃d,d∈ds:=by
   cases ds with
   | nil=>simp at d1
   | cons d ds=>exact⟨d,by simp⟩
  have ex:∃p∈sh,(cG kvs (eS p.1)).isSome=true:=by
   obtain⟨p,hp,e⟩:=mem_map.mp (Vf d Vg);exact⟨p,hp,by rw[e];exact(lo.here _).mpr (we Vg rfl)⟩
  refine aL λN4 k4=>?_;refine R1 (λσ H3=>∃t' u0,σ = [some (.ref x),some (.ref p),some (.int r),some (.int b),some (.ref D),some (.ref B),some (.ref pt)]/\SameBut x H2 H3/\H3 x=some (.ins A.cB dx (gJ pl t' u0))/\jV sh ds t u t' (u0+1)) (λM hM B hB=>?_) ?_
  ·wp_walk using T,pU;refine go2 (P:=gq sh t<=u\/¬ here ds (dc sh t)) (λgo=>⟨_,bg.of e2,_,rfl,_,rfl,cj (λc1=>go (.inl c1)) λc1=>⟨_,bg.of e2,_,rfl,_,dg,cj (λc2=>go (.inr λz=>by rw[(lo.here _).mpr z] at c2;cases c2)) λc2=>?_⟩⟩) λhc=>hB _ _ _ ?_
   ·refine hM _ _ ⟨t,u,rfl,(λb o e _=>e),pU,⟨λz=>?_,λ_=>⟨rfl,rfl⟩⟩⟩
    rcases z with z | z
    ·exact absurd z c1
    ·exact absurd ((lo.here _).mp (Option.isSome_iff_ne_none.mpr (by simpa using c2))) z
   ·wp_walk using T,pU;refine⟨x,_,dx,pl,bH,sh,t,u,kvs,rfl,mZ,t0,t1,ok.n4,.inr ⟨ob,xw⟩,ex,λt' nt=>⟨_,_,_,pU,T.pO,T.CF,by simp,T.pO,T.CG,(show (3:Nat)<1000 by decide),hM _ _ ⟨t',0,rfl,SameBut.start,aD,⟨λ_=>⟨nt.congr lo.here,rfl⟩,λz=>absurd hc z⟩⟩⟩⟩
  ·rintro σ H3 ⟨t',u0,rfl,sx,xu,st⟩;refine k4 _ _ ?_;obtain⟨b0,b1,hh⟩:=st.bt ok t0 t1;obtain⟨n,hn⟩:=isSome_iff_exists.mp hh;have tY:=(mZ.set sx xu).set (t':=t') (u':=u0+1) SameBut.start aD;unfold gJ at xu;refine aL λN5 k5=>?_;wp_walk using T,xu;refine k5 _ _ ?_;have Lc:=tY.o;have Dv:SameBut x H2 (upd H3 x (.ins A.cB dx (gJ pl t' (u0+1)))):=λb o e hb=>by rw[aF hb];exact sx b o e hb
   unfold gJ at tY Lc Dv;generalize upd H3 x _=H4 at tY Lc Dv ⊢;obtain⟨p4,e3,e4⟩:=tY.p.ti b0 b1;wp_walk using T,Lc;have hB4:H4 B=some (.d8 ob (.dK kvs)):=Dv _ _ xw (λz=>by rw[z,pU] at xw;cases xw)
   have hv:=lo.v (dc sh t');rw[hn] at hv;refine⟨_,tY.p.sq,_,e3,p4,rfl,_,bg.of e4,_,rfl,_,.inl ⟨kvs,eS _,.inr ⟨ob,hB4⟩,rfl,hv.symm⟩,q1 Vf t' (u0+1) n H4 (λb o e hb=>Dv b o (s2 _ _ e) hb) tY st hn⟩
theorem afp(T:Tx K mg A)(aC:bF mg base A.bw A.br):bq P w K mg base bx 2 A.AR A.AS ["behind"] (aa0 K):=by
 refine T.JA.ok Aj (λvs H Q E h=>?_) (λaV Ar outer s H vs Q E hr h=>?_)
 ·obtain⟨b,ns,rfl,_⟩:=h
  rfl
 ·obtain⟨b,ns,rfl,hS,hR,q⟩:=h;refine⟨_,(aB (aX (i:=1) Aj.nd rfl (Or.inl rfl) (yE yH aq))
   (aK (d9 PassesOwn.never rfl (Nx (ah 0)) (bE (i:=2) Aj.nd rfl (Or.inl rfl))
   (aB (c8 (aN (pS T aC) (hr.mono (by decide)) rfl T.oH T.mW.kp T.oG .nil aI (aj (ah 2) (aj (aH b_ (ah 1) aq) (aj (fh (v:=.int 99) rfl T.UI ⟨_,rfl⟩) (aj cT au))))))
   (aK (aX (i:=1) Aj.nd rfl (Or.inl rfl) (ah 2))))))),?_⟩
  walk_at "rdm";refine rt b (ns.map V.int) (λi σ H'=>∃x,σ = [some (.ref b),some (.int (vg (-1) ns i)),x]/\H' = H) (λQ q=>q) hS ⟨none,rfl,rfl⟩ (by rintro i σ H' _ ⟨x,rfl,rfl⟩;exact hS) ?_ ?_
  ·rintro i x σ H' N hN hx ⟨x0,rfl,rfl⟩;obtain⟨n,hn,rfl⟩:=fT hx;have st:=hR.step hn;walk_at "rdd";exact⟨n,_,99,_,rfl,st.1,st.2,hN _ _ ⟨some (.int n),by rw[aaY hn],rfl⟩⟩
  ·rintro σ H' ⟨x0,rfl,rfl⟩;walk_at "rdm";exact q
theorem afq(T:Tx K mg A)(aC:bF mg base A.bw A.br):bq P w K mg base bx 2 A.A3 A.A4 ["plate", "ask"] (acC K [A.bQ,A.bK] A.bJ):=by
 refine T.JI.ok aez (λvs H Q E h=>?_) (λaV Ar outer s H vs Q E hr h=>?_)
 ·obtain⟨C,p,ap,P,fp,q',m,b,dx,rfl,_⟩:=h
  rfl
 ·obtain⟨C,p,ap,P,fp,q',m,b,dx,rfl,hC,hP,ha,hf,hn,q⟩:=h;refine⟨_,(aK (bO (jM (N:=["number", "plate"]) (nt:=1) (fv:=[0]) (c7.of rfl rfl (by rfl) (by rfl) (by repeat (first | exact trivial | refine⟨rfl,?_⟩)) (by rfl) (by rfl) (by rfl) (by decide) (by decide +kernel)) rfl (rS rfl T.e7 (aj (cW (ah 1) rfl) (aj (aH jc (cW (ah 1) rfl) (cW (ah 1) rfl)) au))) (λC s H fp=>(bE (i:=0) (show Nodup (["number", "plate"]:List Str) by decide +kernel) rfl (Or.inl rfl))) (λC s H fp=>gS) (λC s H fp=>(Pe (ah 1) T.ae4 (afe T aC) (hr.mono (by decide)) T.Tf .nil aI (aj (ah 0) au)))))),?_⟩
  wp_walk using T,ha.o;obtain⟨f0,m0,m1,fit⟩:=hf;refine aav q'.first (q'.first+q'.many) (λD i ys aA H2=>∃(u:Option V) (ts:List Addr),aA = [u,some (.ref p)]/\ys=ts.map V.ref/\Zn H2 D ts ((P.nc.drop q'.first.toNat).take i)/\ao H H2/\H D=none/\i<=16) (λQ q=>?_) ∅ ∅ ∅ ∅ ?_ ?_ ?_ ?_
  ·wp_walk using T,ha.o
   try exact q
  ·intro D hD;exact⟨none,[],rfl,rfl,by rw[List.take_zero];exact Zn.start,ao.put hD,hD,∅⟩
  ·rintro D i ys aA H2 ⟨u,ts,rfl,rfl,g2,g3,g4,g5⟩;exact⟨g2.l,fS (by rw[length_map,g2.n,length_take];lia)⟩
  ·rintro D i ys aA H2 N hN hi ⟨u,ts,rfl,rfl,g2,g3,g4,g5⟩;walk_at "rdm";obtain⟨dxp,a1,a2,a3,a4,qT,fs,efp,hA⟩:=hP.same g3;refine⟨C,dxp,fs,hA.o,hC,hA.m9,⟨C,p,P,fp,_,rfl,hP.same g3,∅,∅,λt q0 eq ht=>⟨g2.l,hN _ _ _ ⟨_,ts++[t],rfl,by rw[map_append];rfl,?_,ao.put2 g3 g4,g4,∅⟩⟩⟩⟩
   rw[acB f0 eq];exact g2.push ht
  ·rintro D ys aA H2 ⟨u,ts,rfl,rfl,g2,g3,g4,g5⟩;rw[show (q'.first+q'.many - q'.first).toNat=q'.many.toNat by lia] at g2
   exact q _ _ _ g3 g4 g2
theorem afr(T:Tx K mg A)(aC:bF mg base A.bw A.br):bq P w K mg base bx 2 A.Bc A.Bd ["swing", "rings"] (aaA K):=by
 refine T.JM.ok Sd (λvs H Q E h=>?_) (λaV Ar outer s H vs Q E hr h=>?_)
 ·obtain⟨a,sw,n,rfl,_⟩:=h
  rfl
 ·obtain⟨a,sw,n,rfl,hS,ok,hn,q⟩:=h;refine⟨_,(aB (aJ (fG (cM RY (bI dh rfl T.cz boot_len (aj (ah 0) au)) (ah 1) (bA _)) gM bY))
   (aB (aJ (dR (dG rW (aU cX (ah 0) aq (λ_ _=>rfl)) aq (bA _)) gM bY))
   (aB (aJ (d9 PassesOwn.never rfl (rS rfl T.e7 (aj aq (aj (ah 1) au))) (bE (i:=2) Sd.nd rfl (Or.inl rfl))
   (aB (aJ (dR (PW.pt (fZ (dG fQ (aU cX (ah 0) (ah 2) (λ_ _=>rfl)) aq (bA _)) (fY (dG jd (aU cX (ah 0) (ah 2) (λ_ _=>rfl)) (fh (v:=.int 1000000000) rfl T.KW ⟨_,rfl⟩) (bA _))))) gM bY))
   (aK (dR (dG fQ (aU cX (ah 0) (ah 2) (λ_ _=>rfl)) (aU cX (ah 0) (aH oE (ah 2) aq) (λ_ _=>rfl)) (bA _)) gM bY)))))
   (aK (c8 (aN (afb T aC) (hr.mono (by decide)) rfl T.S2 T.JN.kp T.S0 .nil aI (aj (ah 0) au))))))),?_⟩
  have hl:=ok.len;have h2:=ok.two;refine aL λNa ka=>?_;walk_at "rdm";refine⟨_,.inl hS,by simpa using hl,ka _ _ ?_⟩
  refine aL λNb kb=>?_;walk_at "rdm";refine⟨_,hS,_,gU ∅ ∅,rfl,by rw[show (0:Int).toNat=0 from rfl,ok.z],kb _ _ ?_⟩
  refine aL λNc kc=>?_;refine u6 1 n (λi σ H'=>∃r,σ = [some (.ref a),some (.int n),r]/\H' = H) (λQ q=>?_) ∅ ∅ ∅ ∅ ⟨none,rfl,rfl⟩ ?_ ?_
  ·walk_at "rdm";exact q
  ·rintro i σ H' N hN hi ⟨r,rfl,rfl⟩;have e1:((1:Int)+(i:Int)).toNat=1+i:=by lia
   have e2:((1:Int)+(i:Int) - 1).toNat=1+i - 1:=by lia
   have g:=ok.pos (1+i) ∅ ∅
   have g2:=ok.up (1+i) ∅ ∅
   refine aL λNd kd=>?_;walk_at "rdd";refine⟨_,hS,_,gU ∅ ∅,?_⟩
   walk_at "rdm";rw[e1];refine⟨∅,_,hS,_,gU ∅ ∅,?_⟩
   walk_at "rdm";rw[e1];refine⟨∅,kd _ _ ?_⟩
   walk_at "rdd";refine⟨_,hS,_,gU ∅ ∅,_,hS,_,gU ∅ ∅,?_⟩
   walk_at "rdm";rw[e1,e2];exact⟨∅,hN _ _ ⟨_,rfl,rfl⟩⟩
  ·rintro σ H' ⟨r,rfl,rfl⟩;refine kc _ _ ?_;walk_at "rdd";exact⟨a,sw,n,rfl,hS,ok,hn,q⟩
theorem afs(T:Tx K mg A)(aC:bF mg base A.bw A.br):bq P w K mg base bx 2 A.Bu A.Bv ["plate", "bad"] (aaN K [A.bQ,A.bK]):=by
 refine T.JV.ok Ao (λvs H Q E h=>?_) (λaV Ar outer s H vs Q E hr h=>?_)
 ·obtain⟨C,p,ba,P,fp,eL,bz,rfl,_⟩:=h
  rfl
 ·obtain⟨C,p,ba,P,fp,eL,bz,rfl,hC,hP,hz,hlen,nd,hv,q⟩:=h;have hu:=kX hr;refine⟨_,(aB (aX (i:=2) Ao.nd rfl (Or.inl rfl) OL)
   (aB (d9 PassesOwn.never rfl (fj (ah 1)) (kM rfl (eF (bE (i:=3) Ao.nd rfl (Or.inl rfl)) (eF (bE (i:=4) Ao.nd rfl (Or.inl rfl)) jF)))
   (aB (dR (PW.pt (fZ (yt (uu (Pe (ah 0) T.ae3 (afd T aC) (hr.mono (by decide)) T.S_ .nil aI (aj (ah 3) (aj (ah 4) au))))) (fY (rN (FN hu (cD (aj (ah 3) (aj (ah 4) au))) (ah 2)))))) gM bY)
   (aK (uS hu (ah 2) (cD (aj (ah 3) (aj (ah 4) au))) jC rfl))))
   (aK (bO (ah 2))))),?_⟩
  walk_at "rdd";refine λd hd=>?_;refine rl ba (eL.map V.ref) (λi σ H'=>∃r c,σ = [some (.ref p),some (.ref ba),some (.ref d),r,c]/\ao H H'/\i<=bz.length/\H' d=some (.dT (dX (bz.take i)))) (λQ q=>q) (ao.put hd |>.seq hz.sq)
   ⟨none,none,rfl,ao.put hd,zero_le _,aD⟩ (by rintro i σ H' _ ⟨r,c,rfl,hs,_⟩;exact hs.seq hz.sq) ?_ ?_
  ·rintro i x σ H' N hN hx ⟨r,c,rfl,hs,hi,h1⟩;obtain⟨t,w,rfl,hw,ht⟩:=hz.at hx;refine pq (bg.of (hs _ _ ht)) rfl ?_;have Vh:=hP.same hs;obtain⟨dx,a1,a2,a3,a4,ts,fs,efp,h⟩:=id Vh;obtain⟨v0,v1,v2,v3⟩:=hv w (get_mem hw);have xm:=e8 hw;wp_walk using h.o,h.f1,h.f2,h.f3,h.f4,h.f5,h.f6,h.m1,h.m2,h.m3,h.m4,h.m5,h.m6,h.m7,h.m8,h.m9,h.sy,h.sD,h.cp.cl,h.cp.n1,h.cp.n2,h.cp.n3,h.cp.n4,h.cp.n5,h.cp.n6;refine⟨hC,C,p,P,fp,_,_,rfl,Vh,?_⟩;rw[decide_eq_true ⟨v0,v1,v2,v3⟩];refine⟨true,rfl,by simp,λt1 n1=>?_⟩
   have iJ:w∉bz.take i:=by
    intro hm;obtain⟨j,hj,e⟩:=mem_iff_getElem.mp hm;rw[length_take] at hj;rw[List.getElem_take] at e;have g1:bz[j]? = some w:=by rw[← e];exact getElem?_eq_getElem ∅
    have:=(List.getElem?_inj ∅ nd).mp (g1.trans hw.symm)
    lia
   have s1:=ao.put (o:=.tup [V.int w.1,V.int w.2]) n1;refine⟨_,fR.t (k:=kT w) (s1 _ _ h1) aD,by rw[u9 iJ];simp,λt2 n2=>?_⟩
   have s2:=s1.trans (ao.put (o:=.tup [V.int w.1,V.int w.2]) n2);refine⟨_,kU.t (k:=kT w) (s2 _ _ h1) aD (by rw[j9,dX,length_map,length_take];lia),hN _ _ ⟨_,_,rfl,ao.put2 (hs.trans s2) hd,xm,?_⟩⟩
   rw[aD,OC _ (u9 iJ),take_succ_get hw];simp[dX]
  ·rintro σ H' ⟨r,c,rfl,hs,hi,h1⟩;walk_at "rdm";rw[lenZ hz.n,take_length] at h1;exact q _ _ hs hd h1
theorem aft(T:Tx K mg A)(aC:bF mg base A.bw A.br):bq P w K mg base bx 2 A.BA A.BB ["ring_cells", "spares", "ring", "used"] (ab6 K A.br (oh gr) (oq "nearest_rings")):=by
 refine T.JY.ok Aq (λvs H Q E h=>?_) (λaV Ar outer s H vs Q E hr h=>?_)
 ·obtain⟨ra,ud,r,sp,rc,us,rfl,_⟩:=h
  rfl
 ·obtain⟨ra,ud,r,sp,rc,us,rfl,Dw,h2,fq,s0,s1,hc,hud,tab,q⟩:=h;have hu:=kX hr;refine⟨_,(aB (d9 PassesOwn.never rfl (fj (aN (afi T aC) (hr.mono (by decide)) rfl T.Tu T.JX.kp T.Tt .nil aI (aj (ah 2) (aj (bI dh rfl T.cz boot_len (aj (ah 0) au)) au)))) (bE (i:=4) Aq.nd rfl (Or.inl rfl))
   (aB (aX (i:=5) Aq.nd rfl (Or.inl rfl) (aU cX (ah 0) (ah 4) (λ_ _=>rfl)))
   (aK (d9 PassesOwn.never rfl (rS rfl T.e7 (aj (aH oE (ah 5) (ah 1)) (aj (ah 5) au))) (bE (i:=6) Aq.nd rfl (Or.inl rfl))
   (aK (dR (rN (FO hu (cD (aj (ah 4) (aj (ah 6) au))) (ah 3))) (aK (bO (cD (aj (ah 4) (aj (ah 6) au))))) bY))))))
   (aK (bO nA))),?_⟩
  walk_at "rdm";refine Gy ?_;walk_at "rdd";refine⟨_,.inl Dw,r,rc.length,by rw[length_map],h2,fq,tab,λl is H1 sb t1 nl nl1 ord=>⟨l,rfl,?_⟩⟩
  have k1:=(Kp.mk sb t1).step (ao.put (o:=.lst (is.map λ(i:Nat)=>V.int (i:Int))) nl1);refine su.by l (is.map λ(i:Nat)=>V.int (i:Int)) (λi σ H'=>∃o c p,σ = [some (.ref ra),some (.int sp),some (.int r),some (.ref ud),o,c,p]/\ao (upd H1 l (.lst (is.map λ(i:Nat)=>V.int (i:Int)))) H'/\∀c∈(is.take i).flatMap (eB rc sp),c∈us)
   (aE.of aD) ⟨none,none,none,rfl,ao.refl _,by simp⟩ (by rintro i σ H' _ ⟨o,c,p,rfl,sm,_⟩;exact aE.of (sm _ _ aD)) ?_ ?_
  ·rintro i x σ H' N hN hx ⟨o,c,p,rfl,sm,qw⟩;obtain⟨k,hk,rfl⟩:=fT hx;have kl:k<rc.length:=mem_range.mp (ord.1.mem_iff.mp (get_mem hk));have kk:=k1.step sm;have ra':=kk.seq tab Dw;have ck:sp<=rc.getD k 0/\rc.getD k 0<=1000:=by
    have:=hc _ (getElem_mem kl);rw[show rc.getD k 0=rc[k] by simp[kl]]
    exact this
   walk_at "rdm";refine⟨_,ra',_,gU ∅ ∅,?_⟩
   try walk_at "rdm"
   rw[show ((k:Int)).toNat=k from rfl];refine u6 (rc.getD k 0 - sp) (rc.getD k 0) (λj σ H3=>∃p,σ = [some (.ref ra),some (.int sp),some (.int r),some (.ref ud),some (.int (k:Int)),some (.int (rc.getD k 0)),p]/\ao H' H3/\∀j':Nat,j' < j->((k:Int),rc.getD k 0 - sp+(j':Int))∈us) (λQ q=>?_) ∅ ∅ ∅ ∅ ⟨p,rfl,ao.refl _,λj' z=>absurd z ∅⟩ ?_ ?_
   ·walk_at "rdm";exact q
   ·rintro j σ H3 N2 iB hj ⟨p,rfl,s3,jR⟩;walk_at "rdm";refine λt1 n1=>?_;have e1:=ao.put (o:=HO.tup [V.int (k:Int),V.int (rc.getD k 0 - sp+(j:Int))]) n1;have Ld:=(kk.step s3).step e1;have ud3:=Ld.get tab hud;refine⟨_,fR.t (k:=kT ((k:Int),rc.getD k 0 - sp+(j:Int))) ud3 aD,?_⟩;by_cases hm:((k:Int),rc.getD k 0 - sp+(j:Int))∈us
    ·rw[Pj hm];refine ite_no (by simp) (iB _ _ ⟨_,rfl,s3.trans e1,λj' z=>?_⟩)
     by_cases e:j' = j
     ·rw[e];exact hm
     ·exact jR j' ∅
    ·rw[u9 hm,if_pos (show (none:Option V).isSome=false from rfl)];intro t2 n2;exact(q is _ ord (Ld.step (ao.put n2))).2 _ t2 (ab5 qw hk ∅ jR hm) (Ld.free n2) aD
   ·rintro σ H3 ⟨p,rfl,s3,jR⟩;refine hN _ _ ⟨_,_,_,rfl,sm.trans s3,ab3 qw hk λc hc=>?_⟩;obtain⟨j,hj,rfl⟩:=mem_map.mp hc;exact jR j (by have:=mem_range.mp hj;lia)
  ·rintro σ H' ⟨o,c,p,rfl,sm,qw⟩;walk_at "rdm";rw[length_map,take_length] at qw;exact(q is H' ord (k1.step sm)).1 (ab4 qw)
theorem afu(T:Tx K mg A)(aC:bF mg base A.bw A.br):bq P w K mg base bx 2 A.BK A.BL ["_law_cell_here", "_law_rings"] (adl K):=by
 refine T.J0.ok wC (λvs H Q E h=>?_) (λaV Ar outer s H vs Q E hr h=>?_)
 ·obtain⟨c,m,rfl,_⟩:=h
  rfl
 ·obtain⟨c,m,rfl,h2,zZ,q⟩:=h;refine⟨_,(aB (aJ (aX (i:=2) wC.nd rfl (Or.inr rfl) (aH b_ aq (aN (bW T aC) (hr.mono (by decide)) rfl T.bV T.bR.kp T.bU .nil aI (aj (ah 0) (aj aq (aj (aU iL (dH (aj aq (aj aq (aj aq (aj (aH ql aq aq) au))))) (aN (bW T aC) (hr.mono (by decide)) rfl T.bV T.bR.kp T.bU .nil aI (aj (ah 0) (aj aq (aj aq au)))) (λ_ _=>rfl)) au)))))))
   (aB (aJ (fG (cM pK (aN (bW T aC) (hr.mono (by decide)) rfl T.bV T.bR.kp T.bU .nil aI (aj (ah 0) (aj aq (aj aq au)))) aq (bA _)) (aK (bO (aH qx (dH (aj aq au)) (bI aak rfl T.q_ boot_sorted (aj (jM (N:=["_law_k", "_law_step", "_law_cell_here"]) (nt:=1) (fv:=[2,0]) (c7.of rfl rfl (by rfl) (by rfl) (by repeat (first | exact trivial | refine⟨rfl,?_⟩)) (by rfl) (by rfl) (by rfl) (by decide) (by decide +kernel)) rfl (iH rfl T.e7 (aj (aH oE (ah 1) aq) au)) (λC s H fp=>(bE (i:=0) (show Nodup (["_law_k", "_law_step", "_law_cell_here"]:List Str) by decide +kernel) rfl (Or.inl rfl))) (λC s H fp=>gS) (λC s H fp=>(aH b_ (ah 1) (aN (bW T aC) (hr.mono (by decide)) rfl T.bV T.bR.kp T.bU .nil aI (aj (ah 2) (aj (aH b_ aq (ah 0)) (aj (aH b_ (ah 1) aq) au))))))) au))))) bY))
   (aB (aJ (aX (i:=3) wC.nd rfl (Or.inl rfl) (dH (aj aq au))))
   (aB (d9 PassesOwn.never rfl (rS rfl T.e7 (aj aq (aj (ah 1) au))) (bE (i:=4) wC.nd rfl (Or.inl rfl))
   (aB (aJ (c8 (jI plainAttrs_list PySem.F.slot_list_append PySem.F.type_list_append kQ (ah 3) (aj (aH jc (aU cX (ah 3) (yE yH aq) (λ_ _=>rfl)) (ah 2)) au))))
   (aK (aX (i:=2) wC.nd rfl (Or.inr rfl) (aH oE (ah 2) (aN (bW T aC) (hr.mono (by decide)) rfl T.bV T.bR.kp T.bU .nil aI (aj (ah 0) (aj (aH b_ aq (ah 4)) (aj (aH b_ (aH H_ (ah 2) aq) aq) au)))))))))
   (aK (bO (ah 3))))))),?_⟩
  refine aL λN1 k1=>?_;wp_walk using bu;refine⟨by decide,λo1 lN=>?_⟩
  have sA:=ao.put (o:=.lst [V.int 3,V.int 40,V.int 1000,V.int 10000000]) lN;have lE:upd H o1 (.lst [V.int 3,V.int 40,V.int 1000,V.int 10000000]) o1=some (.lst [V.int 3,V.int 40,V.int 1000,V.int 10000000]):=aD;generalize upd H o1 (.lst [V.int 3,V.int 40,V.int 1000,V.int 10000000])=H1 at sA lE ⊢;obtain⟨x,hx,x0,x1⟩:∃x:Int,dW [V.int 3,V.int 40,V.int 1000,V.int 10000000] (aQ c 22 4)=some (.int x)/\3<=x/\x<=10000000:=by
   have b:=cy c 22 (m:=4) (by decide)
   have:aQ c 22 4=0\/aQ c 22 4=1\/aQ c 22 4=2\/aQ c 22 4=3:=by lia
   rcases this with e | e | e | e <;> rw[e] <;> exact⟨_,rfl,by decide,by decide⟩
  refine⟨_,aE.of lE,_,hx,∅,k1 _ _ ?_⟩
  have Le:=cy c 21 (m:=x) ∅
  generalize hL:1+aQ c 21 x=L;have L1:1<=L:=by lia
  have L7:L<=10000000:=by lia
  clear hL Le hx;refine aL λN2 k2=>?_;wp_walk using bu;refine cj (λh8=>?_) λh8=>k2 _ _ ?_
  ·intro l0 dI;have s0:=ao.put (o:=.lst [V.int 0]) dI;refine qH (m - 1) (λD i ys aA H2=>∃ns:List Int,ys=ns.map V.int/\ns.length=i/\(∀x∈ns,L<=x/\x<=2*L)/\H2 D=some (.lst ys)/\ao (upd H1 l0 (.lst [V.int 0])) H2/\upd H1 l0 (.lst [V.int 0]) D=none/\i<=60/\∃u,aA = [u,some (.int L),some (.int c)])
    (λQ q=>?_) ∅ ∅ ?_ ?_ ?_ ?_
   ·walk_at "rdm";exact q
   ·intro D hD;exact⟨[],rfl,rfl,(by intro x hx;cases hx),aD,ao.put hD,hD,∅,none,rfl⟩
   ·rintro D i ys aA H2 ⟨ns,rfl,e0,_,e1,e2,e3,e4,_⟩;exact⟨e1,fS (by rw[length_map];lia)⟩
   ·rintro D i ys aA H2 N hN hi ⟨ns,rfl,e0,eb,e1,e2,e3,e4,u,rfl⟩;walk_at "rdd";have b1:=cy c (41+(i:Int)) (m:=L+1) ∅
    refine⟨∅,∅,∅,e1,hN _ _ _ ⟨ns++[L+aQ c (41+(i:Int)) (L+1)],by rw[map_append];rfl,by simp[e0],?_,aD,ao.put2 e2 e3,e3,∅,_,rfl⟩⟩
    intro x hx;rcases mem_append.mp hx with hx | hx
    ·exact eb x hx
    ·rw[mem_singleton.mp hx];lia
   ·rintro D ys aA H2 ⟨ns,rfl,e0,eb,e1,e2,e3,e4,u,rfl⟩
    try walk_at "rdm"
    refine⟨ns,aE.of e1,∅,λl cZ hl hp hs=>?_⟩
    have Vi:=e2 _ _ aD;have dJ:l0≠l:=bX Vi hl;refine⟨[V.int 0],by rw[aF dJ];exact Vi,?_,λp nN=>?_⟩
    ·have:=hp.length_eq;simp;lia
    ·have dN:p≠l:=(bX aD nN).symm;have HU:H2 p=none:=by rw[aF dN] at nN;exact nN
     have s2:=sA.trans (s0.trans e2);have hH:H p=none:=s2.free HU;have hHl:H l=none:=s2.free hl;have so:=aaJ L1 ∅ (ns:=cZ) (λx hx=>eb x (hp.mem_iff.mp hx)) hs (by rw[hp.length_eq];lia)
     rw[hp.length_eq,show ((ns.length+1:Nat):Int)=m by lia] at so
     exact q p (0::cZ) _ (ao.put2 (ao.put2 s2 hHl) hH) hH (by rw[aD];rfl) so
  ·refine aL λN3 k3=>?_;walk_at "rdm";refine λl hl=>k3 _ _ ?_;have Vj:H l=none:=sA.free hl;refine u6 1 m (λj σ H'=>∃kk,σ = [some (.int c),some (.int m),some (.int (iw c L j)),some (.ref l),kk]/\ao H H'/\H' l=some (.lst (((List.range (1+j)).map (sumF (iw c L))).map V.int)))
    (λQ q=>?_) ∅ ∅ ∅ ∅ ⟨none,rfl,sA.trans (ao.put hl),?_⟩ ?_ ?_
   ·walk_at "rdm";exact q
   ·rw[aD];simp[range_succ,sumF,iw]
   ·rintro j σ H' N hN hj ⟨kk,rfl,hs,h1⟩;have b:=Rp c L1 j;refine aL λN4 k4=>?_;walk_at "rdm";refine⟨⟨_,aE.of h1⟩,_,aE.of h1,_,aat (by simp;lia),?_⟩
    wp_walk using h1;refine⟨by rw[length_range];lia,k4 _ _ ?_⟩
    wp_walk using bu;refine⟨∅,∅,∅,hN _ _ ⟨some (.int (1+(j:Int))),?_,ao.put2 hs Vj,?_⟩⟩
    ·rw[iw]
    ·rw[aD,show 1+(j+1)=1+j+1 by lia,range_succ,map_append,map_append,length_range,_L.range_getD ∅]
     congr 4;simp only[map_cons,map_nil,List.cons.injEq,and_true,V.int.injEq];rw[show 1+j - 1=j by lia,show 1+j=j+1 by lia,sumF]
   ·rintro σ H' ⟨kk,rfl,hs,h1⟩;walk_at "rdm";have e:1+(m - 1).toNat=m.toNat:=by lia
    rw[e] at h1;have so:=acy (f:=iw c L) L1 L7 (Rp c L1) (n:=m.toNat) ∅ ∅
    rw[show ((m.toNat:Nat):Int)=m by lia] at so
    exact q _ _ _ hs Vj h1 so
theorem afv(T:Tx K mg A)(aC:bF mg base A.bw A.br):bq P w K mg base bx 2 A.BN A.BO ["_law_cell_here"] (adm K):=by
 refine T.J5.ok As (λvs H Q E h=>?_) (λaV Ar outer s H vs Q E hr h=>?_)
 ·obtain⟨c,rfl,_⟩:=h
  rfl
 ·obtain⟨c,rfl,q⟩:=h;refine⟨_,(aB (aJ (aX (i:=1) As.nd rfl (Or.inl rfl) (dH (aj (cD (aj (aH b_ aq (aN (bW T aC) (hr.mono (by decide)) rfl T.bV T.bR.kp T.bU .nil aI (aj (ah 0) (aj aq (aj aq au))))) (aj (aH b_ aq (aN (bW T aC) (hr.mono (by decide)) rfl T.bV T.bR.kp T.bU .nil aI (aj (ah 0) (aj aq (aj aq au))))) au))) au))))
   (aB (d9 PassesOwn.never rfl (iH rfl T.e7 (aj (aU iL (dH (aj aq (aj aq (aj aq (aj aq (aj aq (aj aq (aj aq (aj aq au))))))))) (aN (bW T aC) (hr.mono (by decide)) rfl T.bV T.bR.kp T.bU .nil aI (aj (ah 0) (aj aq (aj aq au)))) (λ_ _=>rfl)) au)) (bE (i:=2) As.nd rfl (Or.inl rfl))
   (aK (c8 (jI plainAttrs_list PySem.F.slot_list_append PySem.F.type_list_append kQ (ah 1) (aj (cD (aj (aH b_ aq (aN (bW T aC) (hr.mono (by decide)) rfl T.bV T.bR.kp T.bU .nil aI (aj (ah 0) (aj (aH b_ aq (ah 2)) (aj aq au))))) (aj (aH b_ aq (aN (bW T aC) (hr.mono (by decide)) rfl T.bV T.bR.kp T.bU .nil aI (aj (ah 0) (aj (aH b_ aq (ah 2)) (aj aq au))))) au))) au)))))
   (aB (gH (fG (cM pK (aN (bW T aC) (hr.mono (by decide)) rfl T.bV T.bR.kp T.bU .nil aI (aj (ah 0) (aj aq (aj aq au)))) aq (bA _)) (aK (aX (i:=1) As.nd rfl (Or.inl rfl) (dH (aj (cD (aj (aH b_ aq (aN (bW T aC) (hr.mono (by decide)) rfl T.bV T.bR.kp T.bU .nil aI (aj (ah 0) (aj aq (aj aq au))))) (aj (aH b_ aq (aN (bW T aC) (hr.mono (by decide)) rfl T.bV T.bR.kp T.bU .nil aI (aj (ah 0) (aj aq (aj aq au))))) au))) au)))) bY))
   (aK (bO (ah 1)))))),?_⟩
  refine aL λN1 k1=>?_;wp_walk using bu;have y1:=cy c 1 (m:=2) (by decide)
  have y2:=cy c 2 (m:=8) (by decide)
  refine λt0 Vk l nl=>k1 _ _ ?_;have Dy:H l=none:=(ao.put Vk).free nl;have Lf:=Zn.one (c:=(2+aQ c 1 2,1+aQ c 2 8)) (aD (H:=H) (a:=t0)) nl;have sA:ao H (upd (upd H t0 (.tup [V.int (2+aQ c 1 2),V.int (1+aQ c 2 8)])) l (.lst [V.ref t0])):=(ao.put Vk).trans (ao.put nl);have Vl:ZP [(2+aQ c 1 2,1+aQ c 2 8)]:=⟨λp hp=>by rw[mem_singleton.mp hp];dsimp only;exact⟨∅,∅,∅,∅⟩,by simp;lia⟩
  generalize upd (upd H t0 (.tup [V.int (2+aQ c 1 2),V.int (1+aQ c 2 8)])) l (.lst [V.ref t0])=H2 at Lf sA ⊢;generalize (2+aQ c 1 2,1+aQ c 2 8)=p0 at Lf Vl;obtain⟨x,hx,x0,x1⟩:∃x:Int,dW [V.int 0,V.int 1,V.int 2,V.int 0,V.int 1,V.int 2,V.int 1,V.int 4] (aQ c 3 8)=some (.int x)/\0<=x/\x<=4:=by
   have b:=cy c 3 (m:=8) (by decide)
   have:aQ c 3 8=0\/aQ c 3 8=1\/aQ c 3 8=2\/aQ c 3 8=3\/aQ c 3 8=4\/aQ c 3 8=5\/aQ c 3 8=6\/aQ c 3 8=7:=by lia
   rcases this with e | e | e | e | e | e | e | e <;> rw[e] <;> exact⟨_,rfl,by decide,by decide⟩
  refine rrG ?_;wp_walk using bu;intro o1 lN;have s2:=sA.trans (ao.put (o:=.lst [V.int 0,V.int 1,V.int 2,V.int 0,V.int 1,V.int 2,V.int 1,V.int 4]) lN);have kG:=Lf.same (ao.put (o:=.lst [V.int 0,V.int 1,V.int 2,V.int 0,V.int 1,V.int 2,V.int 1,V.int 4]) lN);have lE:upd H2 o1 (.lst [V.int 0,V.int 1,V.int 2,V.int 0,V.int 1,V.int 2,V.int 1,V.int 4]) o1=some (.lst [V.int 0,V.int 1,V.int 2,V.int 0,V.int 1,V.int 2,V.int 1,V.int 4]):=aD;generalize upd H2 o1 (.lst [V.int 0,V.int 1,V.int 2,V.int 0,V.int 1,V.int 2,V.int 1,V.int 4])=H3 at s2 kG lE ⊢;refine⟨_,aE.of lE,_,hx,x,rfl,Aa.by x (λi σ H'=>∃(kk:Option V) (ts:List Addr) (z:List (Int×Int)),σ = [some (.int c),some (.ref l),kk]/\ao H H'/\Zn H' l ts z/\ZP z/\z.length=i+1) ∅ ∅ ⟨none,[t0],[p0],rfl,s2,kG,Vl,rfl⟩ ?_ ?_⟩
  ·rintro i σ H' N hN hi ⟨kk,ts,z,rfl,s',hz,zp,zn⟩;wp_walk using bu;have b1:=cy c (4+(i:Int)) (m:=2) (by decide)
   have b2:=cy c (9+(i:Int)) (m:=8) (by decide)
   refine⟨⟨_,hz.sq⟩,∅,∅,∅,∅,λp np=>⟨_,ao.put np _ _ hz.l,by rw[length_map,hz.n];lia,hN _ _ ⟨_,ts++[p],z++[(1+aQ c (4+(i:Int)) 2,1+aQ c (9+(i:Int)) 8)],rfl,ao.put2 (s'.trans (ao.put np)) Dy,hz.snoc np _ _,zp.snoc ⟨by dsimp only;lia,by dsimp only;lia,by dsimp only;lia,by dsimp only;lia⟩,by simp[zn]⟩⟩⟩
  ·rintro σ H' ⟨kk,ts,z,rfl,s',hz,zp,zn⟩;have zl:=zp.zl5 ∅ ∅
   wp_walk using bu;have Vm:=cy c 15 (m:=60) (by decide)
   refine⟨λσ H2=>∃(l2:Addr) (eT:List Addr) (z2:List (Int×Int)),σ[1]? = some (some (.ref l2))/\ao H H2/\H l2=none/\Zn H2 l2 eT z2/\ZL z2,cj (λ_=>λt1 Vn l2 tZ=>⟨l2,[t1],[_],rfl,s'.trans ((ao.put Vn).trans (ao.put tZ)),(s'.trans (ao.put Vn)).free tZ,Zn.one (c:=(2+aQ c 1 2,1+aQ c 15 60)) aD tZ,ado ∅ ∅ ∅ ∅⟩) λ_=>⟨l,ts,z,rfl,s',Dy,hz,zl⟩,?_⟩
   rintro σ H2 ⟨l2,eT,z2,e1,s2,n2,cL,zl2⟩
   show tG σ[1]? _;rw[e1];exact q l2 eT z2 H2 s2 n2 cL zl2
theorem afw(T:Tx K mg A)(aC:bF mg base A.bw A.br):bq P w K mg base bx 2 A.BR A.BS ["_law_cell_here", "_law_counts", "_law_spares"] (adn K):=by
 refine T.J7.ok wD (λvs H Q E h=>?_) (λaV Ar outer s H vs Q E hr h=>?_)
 ·obtain⟨ca,c,sp,rc,rfl,_⟩:=h
  rfl
 ·obtain⟨ca,c,sp,rc,rfl,lK,n1,aiS,s0,s1,hc,q⟩:=h;have tV:_+16<cLine:=Nat.lt_of_le_of_lt (Nat.add_le_add_left (by decide:16<=64) _) hr.units
  refine⟨_,(aB (aX (i:=3) wD.nd rfl (Or.inl rfl) (dH au))
   (aB (d9 PassesOwn.never rfl (iH rfl T.e7 (aj (aN (bW T aC) (hr.mono (by decide)) rfl T.bV T.bR.kp T.bU .nil aI (aj (ah 0) (aj aq (aj aq au)))) au)) (bE (i:=4) wD.nd rfl (Or.inl rfl))
   (aB (aJ (aX (i:=5) wD.nd rfl (Or.inl rfl) (aN (bW T aC) (hr.mono (by decide)) rfl T.bV T.bR.kp T.bU .nil aI (aj (ah 0) (aj (aH b_ aq (ah 4)) (aj (bI dh rfl T.cz boot_len (aj (ah 1) au)) au))))))
   (aB (aJ (aX (i:=6) wD.nd rfl (Or.inl rfl) (aN (bW T aC) (hr.mono (by decide)) rfl T.bV T.bR.kp T.bU .nil aI (aj (ah 0) (aj (aH b_ aq (ah 4)) (aj (aU cX (ah 1) (ah 5) (λ_ _=>rfl)) au))))))
   (aK (dR (PW.pt (ED (dG (QH tV) (cD (aj (ah 5) (aj (ah 6) au))) (ah 3) rfl) (EC (cM fQ (bI dh rfl T.cz boot_len (aj (ah 3) au)) (aH iS (ah 2) (bI dh rfl T.cz boot_len (aj (ah 1) au))) (bA _))))) (aK (c8 (jI plainAttrs_list PySem.F.slot_list_append PySem.F.type_list_append kQ (ah 3) (aj (cD (aj (ah 5) (aj (ah 6) au))) au)))) bY)))))
   (aK (bO (ah 3))))),?_⟩
  walk_at "rdd";refine⟨ku,λl nl=>?_⟩;have sl:=ao.put (o:=.lst []) nl;have p0:0<=sp*(rc.length:Int):=Int.mul_nonneg s0 ∅
  have p1:sp*(rc.length:Int)<=1000*100:=mul_le_mul s1 ∅ ∅ (by decide)
  have d0:=cy c 101 (m:=7) (by decide)
  refine u7 (aQ c 101 7) (λi σ H'=>∃x y u ts bz,σ = [some (.int c),some (.ref ca),some (.int sp),some (.ref l),x,y,u]/\ao H H'/\Zn H' l ts bz/\bz.Nodup/\(∀q∈bz,0<=q.1/\q.1<rc.length/\0<=q.2/\q.2<rc.getD q.1.toNat 0)/\bz.length<=i/\(bz.length:Int)<=sp*(rc.length:Int)) (λQ q=>?_) ∅ ∅ ⟨none,none,none,[],[],rfl,sl,Zn.start,nodup_nil,(λ_ h=>nomatch h),Nat.le_refl _,p0⟩ ?_ ?_
  ·wp_walk using bu;exact q
  ·rintro i σ H' N hN hi ⟨x,y,u,ts,bz,rfl,hs,hz,nb,t_,bl,bs⟩;have Lg:=hs _ _ lK;have r0:=cy c (102+(i:Int)) (m:=(rc.length:Int)) ∅
   refine aL λN1 k1=>?_;walk_at "rdd";refine⟨_,.inl (aE.of Lg),?_⟩;rw[length_map];generalize aQ c (102+(i:Int)) (rc.length:Int)=r at r0 ⊢;have hcr:=hc r.toNat ∅
   have c0:=cy c (108+(i:Int)) (m:=rc.getD r.toNat 0) ∅
   refine⟨∅,∅,∅,k1 _ _ ?_⟩
   refine aL λN2 k2=>?_;walk_at "rdd";refine⟨_,aE.of Lg,_,gU r0.1 r0.2,∅,∅,∅,k2 _ _ ?_⟩
   walk_at "rdm";refine λp np=>?_;generalize aQ c (108+(i:Int)) (rc.getD r.toNat 0)=pl at c0 ⊢;have fJ:=ao.put (o:=.tup [V.int r,V.int pl]) np;have fc:=hz.same fJ;generalize upd H' p (.tup [V.int r,V.int pl])=H2 at fJ fc ⊢;have no:N [some (.int c),some (.ref ca),some (.int sp),some (.ref l),some (.int (i:Int)),some (.int r),some (.int pl)] H2:=hN _ _ ⟨_,_,_,ts,bz,rfl,hs.trans fJ,fc,nb,t_,∅,bs⟩
   refine⟨[r,pl],rfl,zU ts bz,by rw[sW fc.n];exact fc.sq,fc.us,?_⟩
   have em:[r,pl]∈(zU ts bz).map (·.2)↔(r,pl)∈bz:=by rw[vR fc.n];exact zX (c:=(r,pl))
   refine cj (λhm=>⟨_,.inl fc.sq,_,.inl (aE.of (fJ _ _ Lg)),.inl ⟨∅,∅⟩,cj (λhl=>⟨⟨_,fc.sq⟩,λp1 cU=>?_⟩) λ_=>no⟩) λ_=>no
   rw[length_map,length_map,fc.n] at hl;have ie:(r,pl)∉bz:=λz=>hm (em.mpr z);refine⟨_,ao.put cU _ _ fc.l,by rw[length_map,fc.n];lia,hN _ _ ⟨_,_,_,ts++[p1],bz++[(r,pl)],rfl,ao.put2 ((hs.trans fJ).trans (ao.put cU)) nl,fc.snoc cU _ _,?_,?_,by simp;lia,by simp;lia⟩⟩
   ·rw[nodup_append];exact⟨nb,by simp,λx hx y hy e=>ie (by rw[mem_singleton.mp hy] at e;rw[← e];exact hx)⟩
   ·intro x hx;rcases mem_append.mp hx with h | h
    ·exact t_ x h
    ·rw[mem_singleton.mp h];exact⟨r0.1,r0.2,c0.1,c0.2⟩
  ·rintro σ H' ⟨x,y,u,ts,bz,rfl,hs,hz,nb,t_,bl,bs⟩;walk_at "rdm";refine q l ts bz H' hs nl nb t_ ∅ ?_ hz
   have:((sp.toNat*rc.length:Nat):Int)=sp*(rc.length:Int):=by rw[Int.natCast_mul,toNat_of_nonneg s0]
   lia
theorem afx(T:Tx K mg A)(aC:bF mg base A.bw A.br):bq P w K mg base bx 2 A.BW A.BX ["_law_cell_here"] aej:=by
 refine T.J9.ok Au (λvs H Q E h=>?_) (λaV Ar outer s H vs Q E hr h=>?_)
 ·obtain⟨c,rfl,_⟩:=h
  rfl
 ·obtain⟨c,rfl,q⟩:=h;refine⟨_,(aB (aX (i:=1) Au.nd rfl (Or.inr rfl) (aN (bW T aC) (hr.mono (by decide)) rfl T.bV T.bR.kp T.bU .nil aI (aj (ah 0) (aj aq (aj aq au)))))
   (aB (aX (i:=2) Au.nd rfl (Or.inr rfl) (aH b_ aq (aN (bW T aC) (hr.mono (by decide)) rfl T.bV T.bR.kp T.bU .nil aI (aj (ah 0) (aj aq (aj aq au))))))
   (aB (aX (i:=3) Au.nd rfl (Or.inr rfl) (aH iS aq (aN (bW T aC) (hr.mono (by decide)) rfl T.bV T.bR.kp T.bU .nil aI (aj (ah 0) (aj aq (aj aq au))))))
   (aK (bO (jM (N:=["_law_k", "_law_more", "_law_first", "_law_leap"]) (nt:=1) (fv:=[3,1,2]) (c7.of rfl rfl (by rfl) (by rfl) (by repeat (first | exact trivial | refine⟨rfl,?_⟩)) (by rfl) (by rfl) (by rfl) (by decide) (by decide +kernel)) rfl (iH rfl T.e7 (aj (aH b_ aq (aN (bW T aC) (hr.mono (by decide)) rfl T.bV T.bR.kp T.bU .nil aI (aj (ah 0) (aj aq (aj aq au))))) au)) (λC s H fp=>(bE (i:=0) (show Nodup (["_law_k", "_law_more", "_law_first", "_law_leap"]:List Str) by decide +kernel) rfl (Or.inl rfl))) (λC s H fp=>gS) (λC s H fp=>(aH b_ (aH kr (aH b_ (ah 2) (aH iS (ah 0) (ah 3))) aq) (ah 1))))))))),?_⟩
  wp_walk using bu;have b1:=cy c 71 (m:=19) (by decide)
  have b2:=cy c 72 (m:=18) (by decide)
  have b3:=cy c 73 (m:=2) (by decide)
  have b4:=cy c 74 (m:=4) (by decide)
  generalize aQ c 71 19=f at b1 ⊢;generalize Pa:1+aQ c 72 18=lp at ⊢;have Vo:1<=lp/\lp<=18:=by lia
  generalize hmo:2*aQ c 73 2=mo;have mo0:0<=mo/\mo<=2:=by lia
  refine qH (1+aQ c 74 4) (λD i ys aA H2=>∃(u:Option V) (xs:List Int),ys=xs.map V.int/\xs.length=i/\(∀x∈xs,0<=x/\x<=20)/\xs=(List.range i).map (λ(k:Nat)=>(f+(k:Int)*lp) % 19+mo)/\aA = [u,some (.int mo),some (.int f),some (.int lp)]/\H2 D=some (.lst ys)/\ao H H2/\H D=none/\i<=4) (λQ q=>?_) ∅ ∅ ?_ ?_ ?_ ?_
  ·wp_walk using bu;exact q
  ·intro D hD;exact⟨none,[],rfl,rfl,(λ_ h=>nomatch h),rfl,rfl,aD,ao.put hD,hD,∅⟩
  ·rintro D i ys aA H2 ⟨u,xs,rfl,e0,eb,ex,rfl,e1,e2,e3,e4⟩;exact⟨e1,fS (by rw[length_map];lia)⟩
  ·rintro D i ys aA H2 N hN hi ⟨u,xs,rfl,e0,eb,ex,rfl,e1,e2,e3,e4⟩;walk_at "rdm";have m0:=emod_nonneg (f+(i:Int)*lp) (show (19:Int)≠0 by decide)
   have m1:=emod_lt_of_pos (f+(i:Int)*lp) (show (0:Int)<19 by decide)
   refine⟨.inl ⟨∅,∅⟩,e1,hN _ _ _ ⟨_,xs++[(f+(i:Int)*lp) % 19+mo],by rw[map_append];rfl,by simp[e0],λx hx=>?_,by rw[ex,range_succ,map_append];rfl,rfl,aD,ao.put2 e2 e3,e3,∅⟩⟩
   rcases mem_append.mp hx with hx | hx
   ·exact eb x hx
   ·rw[mem_singleton.mp hx];lia
  ·rintro D ys aA H2 ⟨u,xs,rfl,e0,eb,ex,rfl,e1,e2,e3,e4⟩;exact q D xs H2 e2 e3 e1 ∅ ∅ eb (ex▸aeh b1.1 Vo.1 Vo.2 ∅)
theorem Vp(T:Tx K mg A)(aC:bF mg base A.bw A.br):bq P w K mg base bx 2 A.BY A.BZ ["_law_cell_here", "_law_row_here"] (adq K):=by
 refine T.Cz.ok Ju (λvs H Q E h=>?_) (λaV Ar outer s H vs Q E hr h=>?_)
 ·obtain⟨c,l,ts,qs,rfl,_⟩:=h
  rfl
 ·obtain⟨c,l,ts,qs,rfl,hl,ju,q⟩:=h;refine⟨_,(aB (aJ (nQ (i:=2) Ju.nd rfl (Or.inl rfl) (N:=["_law_k", "_law_row_here"]) (nt:=1) (fv:=[1]) (c7.of rfl rfl (by rfl) (by rfl) (by repeat (first | exact trivial | refine⟨rfl,?_⟩)) (by rfl) (by rfl) (by rfl) (by decide) (by decide +kernel)) rfl (iH rfl T.e7 (aj (bI dh rfl T.cz boot_len (aj (ah 1) au)) au)) (λC s H fp=>(bE (i:=0) (show Nodup (["_law_k", "_law_row_here"]:List Str) by decide +kernel) rfl (Or.inl rfl))) (λC s H fp=>(uX (dG rW (aU (gW (K:=K) rfl) (aU (Gw (K:=K) rfl) (ah 1) (ah 0) (λ_ _=>rfl)) aq (λ_ _=>rfl)) cT (bA _)))) (λC s H fp=>(ah 0))))
   (aB (aJ (fG (PW.pt (jW (fZ (cM pK (bI dh rfl T.cz boot_len (aj (ah 2) au)) aq (bA _)) (fY (cM jd (aN (bW T aC) (hr.mono (by decide)) rfl T.bV T.bR.kp T.bU .nil aI (aj (ah 0) (aj aq (aj aq au)))) aq (bA _)))))) (aK (bO (cD au))) bY))
   (aB (aJ (aX (i:=3) Ju.nd rfl (Or.inl rfl) (dH (aj (aU cX (ah 2) (aN (bW T aC) (hr.mono (by decide)) rfl T.bV T.bR.kp T.bU .nil aI (aj (ah 0) (aj aq (aj (bI dh rfl T.cz boot_len (aj (ah 2) au)) au)))) (λ_ _=>rfl)) (aj (aU cX (ah 2) (aN (bW T aC) (hr.mono (by decide)) rfl T.bV T.bR.kp T.bU .nil aI (aj (ah 0) (aj aq (aj (bI dh rfl T.cz boot_len (aj (ah 2) au)) au)))) (λ_ _=>rfl)) au)))))
   (aK (bO (l8 y_ rfl T.rm boot_tuple (aj (adk rfl T.q_ rfl T.C8 rfl (ah 3)) au))))))),?_⟩
  refine aL λN1 k1=>?_;wp_walk using bu;have hn:=hl.n;refine qH (qs.length:Int) (λD i ys aA H2=>∃(u:Option V) (ks:List Nat),ys=ks.map (λ(k:Nat)=>V.int (k:Int))/\aA = [u,some (.ref l)]/\H2 D=some (.lst ys)/\ao H H2/\H D=none/\ks.length<=i/\i<=32/\∀k∈ks,k<32) (λQ q=>?_) ∅ ∅ ?_ ?_ ?_ ?_
  ·walk_at "rdm";refine⟨_,.inl (aE.of hl.l),?_⟩;rw[length_map,hn];exact q
  ·intro D hD;exact⟨none,[],rfl,rfl,aD,ao.put hD,hD,Nat.le_refl _,∅,λ_ h=>nomatch h⟩
  ·rintro D i ys aA H2 ⟨u,ks,rfl,rfl,e1,e2,e3,e4,e5,e6⟩;exact⟨e1,fS (by rw[length_map];lia)⟩
  ·rintro D i ys aA H2 N hN hi ⟨u,ks,rfl,rfl,e1,e2,e3,e4,e5,e6⟩;have gh:i<qs.length:=by simpa using hi
   have kR:=hl.same e2;have oK:ts[i]? = some ts[i]:=getElem?_eq_getElem ∅
   obtain⟨m,b,hk⟩:=kR.t i ts[i] qs[i] oK (getElem?_eq_getElem gh);walk_at "rdm";refine⟨_,aE.of kR.l,_,l_ (by rw[getElem?_map,oK];rfl),_,rfl,_,bg.of hk.o,_,rfl,?_⟩
   walk_at "rdm";refine cj (λ_=>⟨e1,hN _ _ _ ⟨_,ks++[i],by rw[map_append];rfl,rfl,aD,ao.put2 e2 e3,e3,by simp;lia,∅,λk hk=>?_⟩⟩) λ_=>hN _ _ _ ⟨_,ks,rfl,rfl,e1,e2,e3,∅,∅,e6⟩
   rcases mem_append.mp hk with hk | hk
   ·exact e6 k hk
   ·rw[mem_singleton.mp hk];lia
  ·rintro D ys aA H2 ⟨u,ks,rfl,rfl,e1,e2,e3,e4,e5,e6⟩;refine k1 _ _ ?_;have emp:∀p:Addr,H2 p=none->Q (V.ref p) (upd H2 p (.tup [])):=λp np=>q p [] _ (e2.trans (ao.put np)) (e2.free np) aD jl.nil;refine aL λN2 k2=>?_;wp_walk using bu;refine⟨_,.inl (aE.of e1),cj (λ_=>emp) λh1=>cj (λ_=>emp) λh2=>k2 _ _ ?_⟩;rw[length_map] at h1;have h0:0<(ks.length:Int):=by lia
   have d1:=cy c 59 (m:=(ks.length:Int)) h0;have d2:=cy c 60 (m:=(ks.length:Int)) h0;obtain⟨i1,hi1⟩:∃i1:Nat,aQ c 59 (ks.length:Int)=(i1:Int):=⟨_,(toNat_of_nonneg d1.1).symm⟩;obtain⟨i2,dD⟩:∃i2:Nat,aQ c 60 (ks.length:Int)=(i2:Int):=⟨_,(toNat_of_nonneg d2.1).symm⟩;have l1:i1<ks.length:=by lia
   have l2:i2<ks.length:=by lia
   have a1:dW (ks.map λ(k:Nat)=>V.int (k:Int)) (i1:Int)=some (.int (ks[i1]:Int)):=l_ (by rw[getElem?_map,getElem?_eq_getElem l1];rfl)
   have a2:dW (ks.map λ(k:Nat)=>V.int (k:Int)) (i2:Int)=some (.int (ks[i2]:Int)):=l_ (by rw[getElem?_map,getElem?_eq_getElem l2];rfl)
   refine aL λN3 k3=>?_;wp_walk using bu;refine⟨_,.inl (aE.of e1),by rw[length_map];exact h0,_,aE.of e1,_,by rw[length_map,hi1];exact a1,_,.inl (aE.of e1),by rw[length_map];exact h0,_,aE.of e1,_,by rw[length_map,dD];exact a2,λp np=>k3 _ _ ?_⟩
   wp_walk using bu;refine⟨ks[i1],ks[i2],aE.of aD,e6 _ (getElem_mem l1),e6 _ (getElem_mem l2),λL ns nL pm sd=>?_⟩;have sA:=(e2.trans (ao.put (o:=.lst [V.int (ks[i1]:Int),V.int (ks[i2]:Int)]) np)).trans (ao.put (o:=.lst (ns.map V.int)) nL);exact⟨_,.inl ⟨aE.of aD,λb nb=>q b ns _ (sA.trans (ao.put nb)) (sA.free nb) aD (adp (e6 _ (getElem_mem l1)) (e6 _ (getElem_mem l2)) pm sd)⟩⟩
theorem afy(T:Tx K mg A)(aC:bF mg base A.bw A.br):bq P w K mg base bx 2 A.Ck A.Cm ["_law_cell_here", "_law_shares"] aee:=by
 refine T.Kq.ok pM (λvs H Q E h=>?_) (λaV Ar outer s H vs Q E hr h=>?_)
 ·obtain⟨c,l,ts,z,rfl,_⟩:=h
  rfl
 ·obtain⟨c,l,ts,z,rfl,hz,ok,q⟩:=h;have zn:=hz.n;have n1:=ok.n1;have n4:=ok.n4;refine⟨_,(aB (aJ (aX (i:=2) pM.nd rfl (Or.inl rfl) (aN (bW T aC) (hr.mono (by decide)) rfl T.bV T.bR.kp T.bU .nil aI (aj (ah 0) (aj aq (aj (bI dh rfl T.cz boot_len (aj (ah 1) au)) au))))))
   (aB (aJ (aX (i:=3) pM.nd rfl (Or.inl rfl) (aU je (aU cX (ah 1) (ah 2) (λ_ _=>rfl)) aq (λ_ _=>rfl))))
   (aB (aJ (aX (i:=4) pM.nd rfl (Or.inl rfl) (aU je (aU cX (ah 1) (ah 2) (λ_ _=>rfl)) aq (λ_ _=>rfl))))
   (aB (aJ (aX (i:=5) pM.nd rfl (Or.inl rfl) (dH (aj (cD (aj (yE yH aq) (aj (ah 4) au))) (aj (cD (aj aq (aj (ah 4) au))) (aj (cD (aj (ah 3) (aj aq au))) (aj (cD (aj (ah 3) (aj aq au))) (aj (cD (aj (ah 3) (aj (yE yH (aH ql aq aq)) au))) (aj (cD (aj (aH ql aq aq) (aj (ah 4) au))) au)))))))))
   (aB (aJ (gH (aX (i:=6) pM.nd rfl (Or.inl rfl) (aH qx (aH qx (qt uL (ah 1) rZ (o8 (ah 2))) (dH (aj (aU cX (ah 5) (aN (bW T aC) (hr.mono (by decide)) rfl T.bV T.bR.kp T.bU .nil aI (aj (ah 0) (aj aq (aj aq au)))) (λ_ _=>rfl)) au))) (qt uL (ah 1) (o8 (aH b_ (ah 2) aq)) rZ)))))
   (aB (aJ (nQ (i:=7) pM.nd rfl (Or.inl rfl) (N:=["_law_k", "_law_cell_here"]) (nt:=1) (fv:=[0]) (c7.of rfl rfl (by rfl) (by rfl) (by repeat (first | exact trivial | refine⟨rfl,?_⟩)) (by rfl) (by rfl) (by rfl) (by decide) (by decide +kernel)) rfl (iH rfl T.e7 (aj (aH b_ aq (aN (bW T aC) (hr.mono (by decide)) rfl T.bV T.bR.kp T.bU .nil aI (aj (ah 0) (aj aq (aj aq au))))) au)) (λC s H fp=>(bE (i:=0) (show Nodup (["_law_k", "_law_cell_here"]:List Str) by decide +kernel) rfl (Or.inl rfl))) (λC s H fp=>gS) (λC s H fp=>(cD (aj (ah 0) (aj (aH b_ aq (aN (bW T aC) (hr.mono (by decide)) rfl T.bV T.bR.kp T.bU .nil aI (aj (ah 1) (aj (aH b_ aq (ah 0)) (aj aq au))))) au))))))
   (aB (aJ (gH (aX (i:=8) pM.nd rfl (Or.inl rfl) (aH qx (qt uL (ah 1) (o8 (ah 2)) (o8 (aH b_ (ah 2) aq))) (dH (aj (cD (aj (ah 3) (aj (aH b_ aq (aN (bW T aC) (hr.mono (by decide)) rfl T.bV T.bR.kp T.bU .nil aI (aj (ah 0) (aj aq (aj aq au))))) au))) au))))))
   (aK (bO (dH (aj (ah 6) (aj (ah 7) (aj (ah 8) (aj (dH au) au)))))))))))))),?_⟩
  refine aL λN1 k1=>?_;wp_walk using T,bu;have rE:=cy c 92 (m:=(z.length:Int)) ∅
  obtain⟨k,hk⟩:∃k:Nat,aQ c 92 (z.length:Int)=(k:Int):=⟨(aQ c 92 (z.length:Int)).toNat,∅⟩
  refine⟨_,.inl hz.sq,by rw[length_map];lia,?_⟩
  rw[length_map,zn,hk];rw[hk] at rE;refine k1 _ _ ?_;obtain⟨pt,c1,c2⟩:=hz.ti rE.1 rE.2;have mk:=ok.a _ (mem_of_getElem? (tD rE.1 rE.2));have zk:=tD rE.1 rE.2;rw[toNat_natCast] at zk;generalize dc z k=ak at *
  generalize gq z k=sk at *
  refine aL λN2 k2=>?_;wp_walk using T,bu;refine⟨_,hz.sq,_,c1,pt,rfl,_,bg.of c2,_,rfl,k2 _ _ ?_⟩;refine aL λN3 k3=>?_;wp_walk using T,bu;refine⟨_,hz.sq,_,c1,pt,rfl,_,bg.of c2,_,rfl,k3 _ _ ?_⟩;refine aL λN4 k4=>?_;walk_at "rdd";refine⟨_,rfl,ku,λp0 e0=>⟨ku,λp1 e1=>⟨ku,λp2 e2=>⟨ku,λp3 e3=>⟨_,_,rfl,rfl,by decide,_,rfl,ku,λp4 e4=>⟨_,_,rfl,rfl,by decide,ku,λp5 e5=>⟨ku,λp6 e6=>k4 _ _ ?_⟩⟩⟩⟩⟩⟩⟩
  rw[show (10:Int) ^ (20:Int).toNat=100000000000000000000 from rfl] at e5 e6 ⊢;have s0:=ao.put (o:=.tup [V.int (-1),V.int sk]) e0;have s1:=ao.put (o:=.tup [V.int 21,V.int sk]) e1;have s2:=ao.put (o:=.tup [V.int ak,V.int 0]) e2;have s3:=ao.put (o:=.tup [V.int ak,V.int 5]) e3;have s4:=ao.put (o:=.tup [V.int ak,V.int (-100000000000000000000)]) e4;have s5:=ao.put (o:=.tup [V.int 100000000000000000000,V.int sk]) e5;have s6:=ao.put (o:=.lst [V.ref p0,V.ref p1,V.ref p2,V.ref p3,V.ref p4,V.ref p5]) e6;have z0:=Zz.one (s6 _ _ (s5 _ _ (s4 _ _ (s3 _ _ (s2 _ _ (s1 _ _ aD))))));have z1:=Zz.one (s6 _ _ (s5 _ _ (s4 _ _ (s3 _ _ (s2 _ _ aD)))));have z2:=Zz.one (s6 _ _ (s5 _ _ (s4 _ _ (s3 _ _ aD))));have z3:=Zz.one (s6 _ _ (s5 _ _ (s4 _ _ aD)));have z4:=Zz.one (s6 _ _ (s5 _ _ aD));have z5:=Zz.one (s6 _ _ aD);have bz:=((((z0.cat z1).cat z2).cat z3).cat z4).cat z5;clear z0 z1 z2 z3 z4 z5;have bn:=bz.zn (l:=p6) aD;have sH:=(((((s0.trans s1).trans s2).trans s3).trans s4).trans s5).trans s6;clear bz;generalize upd _ p6 (.lst [V.ref p0,V.ref p1,V.ref p2,V.ref p3,V.ref p4,V.ref p5])=H1 at bn sH ⊢;clear s0 s1 s2 s3 s4 s5 s6 e0 e1 e2 e3 e4 e5 e6;have kG:=hz.same sH;refine aL λN5 k5=>?_;wp_walk using T,bu;have uc:=cy c 93 (m:=6) (by decide)
  obtain⟨pb,eb,hb⟩:=bn.ti uc.1 (by simpa using uc.2)
  have nb:=mem_of_getElem? (tD (sh:=[(-1,sk)]++[(21,sk)]++[(ak,0)]++[(ak,5)]++[(ak,-100000000000000000000)]++[(100000000000000000000,sk)]) uc.1 (by simpa using uc.2))
  generalize dc _ (aQ c 93 6)=b1 at hb nb;generalize gq _ (aQ c 93 6)=b2 at hb nb;have nb:¬ (0<=b1/\b1<=20/\1<=b2/\b2<=4):=by
   simp only[mem_append,mem_singleton,Prod.mk.injEq] at nb;lia
  have ec:iK (ts.map V.ref) (some ((k:Int)+1)) none=(ts.drop (k+1)).map V.ref:=by
   have:=Q0 (ts.map V.ref) (k+1);rw[map_drop];exact this
  refine⟨λσ H5=>∃(Ls:Addr) (Dz:List Addr) (zs:List (Int×Int)),σ = [some (.int c),some (.ref l),some (.int (k:Int)),some (.int ak),some (.int sk),some (.ref p6),some (.ref Ls),none,none]/\ao H1 H5/\Zn H5 Ls Dz zs/\zs.length<=1000/\¬ iy zs,⟨_,kG.sq,λq1 m1=>?_⟩,?_⟩
  ·simp only[QZ,← map_take];have t1:=ao.put (o:=.lst ((ts.take k).map V.ref)) m1;refine⟨_,(bn.same t1).sq,_,eb,λq2 m2=>?_⟩;have t2:=t1.trans (ao.put (o:=.lst [V.ref pb]) m2);refine⟨_,ao.put m2 _ _ aD,by simp only[length_map,length_take];lia,λq3 m3=>?_⟩
   have t3:=t2.trans (ao.put (o:=.lst ((ts.take k).map V.ref++[V.ref pb])) m3);refine⟨_,(kG.same t3).sq,λq4 m4=>?_⟩;rw[ec];have t4:=t3.trans (ao.put (o:=.lst ((ts.drop (k+1)).map V.ref)) m4);refine⟨_,ao.put m4 _ _ aD,by simp only[length_map,length_take,length_drop,length_append,length_cons,length_nil];lia,λq5 m5=>?_⟩
   have t5:=t4.trans (ao.put (o:=.lst ((ts.take k).map V.ref++[V.ref pb]++(ts.drop (k+1)).map V.ref)) m5);exact⟨q5,ts.take k++[pb]++ts.drop (k+1),z.take k++[(b1,b2)]++z.drop (k+1),rfl,t5,Zz.zn ((((kG.zz.take k).cat (Zz.one hb)).cat (kG.zz.drop (k+1))).same t5) (by rw[aD,map_append,map_append];rfl),by simp only[length_map,length_take,length_drop,length_append,length_cons,length_nil];lia,λo=>nb (o.a (b1,b2) (by simp))⟩
  clear eb hb nb bn uc;rintro σ H5 ⟨Ls,Dz,zs,rfl,s5,hs,zs1,nzs⟩;refine k5 _ _ ?_;have lM:=kG.same s5;refine aL λN6 k6=>?_;have uc:=cy c 93 (m:=6) (by decide)
  refine qH (5+aQ c 93 6) (λD i ys aA H2=>∃(u:Option V) (as:List Addr) (zz:List (Int×Int)),ys=as.map V.ref/\aA = [u,some (.int c)]/\Zn H2 D as zz/\zz.length=i/\ao H5 H2/\H5 D=none/\i<=10) (λQ q=>?_) ∅ ∅ ?_ ?_ ?_ ?_
  ·wp_walk using bu;exact q
  ·intro D hD;exact⟨none,[],[],rfl,rfl,Zn.start,rfl,ao.put hD,hD,∅⟩
  ·rintro D i ys aA H2 ⟨u,as,zz,rfl,rfl,g1,g2,g3,g4,g5⟩;exact⟨g1.l,fS (by rw[length_map,g1.n];lia)⟩
  ·rintro D i ys aA H2 N hN hi ⟨u,as,zz,rfl,rfl,g1,g2,g3,g4,g5⟩;wp_walk using bu;exact⟨∅,∅,λp np=>⟨ao.put np _ _ g1.l,hN _ _ _ ⟨_,as++[p],_,by rw[map_append];rfl,rfl,g1.snoc np _ _,by simp[g2],ao.put2 (g3.trans (ao.put np)) g4,g4,∅⟩⟩⟩
  ·rintro D ys aA H6 ⟨u,as,zz,rfl,rfl,g1,g2,g3,g4,g5⟩;refine k6 _ _ ?_;have Vq:=lM.same g3;have hs6:=hs.same g3;refine aL λN7 k7=>?_;wp_walk using T,bu;have fU:k<ts.length:=by lia
   have e1:iK (ts.map V.ref) (some (k:Int)) (some ((k:Int)+1)) = [V.ref ts[k]]:=by
    rw[aec (by rw[length_map];exact fU),drop_eq_getElem_cons (by rw[length_map];exact fU),List.getElem_map];rfl
   have zk':Zz H6 [ts[k]] [(ak,sk)]:=Zz.one (Vq.t k _ _ (getElem?_eq_getElem fU) zk);refine⟨λσ H7=>∃(Lt:Addr) (Vr:List Addr) (zt:List (Int×Int)),σ = [some (.int c),some (.ref l),some (.int (k:Int)),some (.int ak),some (.int sk),some (.ref p6),some (.ref Ls),some (.ref D),some (.ref Lt)]/\ao H6 H7/\Zn H7 Lt Vr zt/\zt.length<=1000/\¬ iy zt,⟨_,Vq.sq,λq1 m1 q2 m2 q3 m3=>?_⟩,?_⟩
   ·rw[e1] at m2 m3 ⊢;have t1:=ao.put (o:=.lst [V.ref ts[k]]) m1;have t2:=ao.put (o:=.tup [V.int ak,V.int (1+aQ c 94 4)]) m2;have t3:=ao.put (o:=.lst [V.ref q2]) m3;refine⟨_,t3 _ _ (t2 _ _ aD),by simp,λq4 m4=>?_⟩
    have t4:=ao.put (o:=.lst ([V.ref ts[k]]++[V.ref q2])) m4;exact⟨q4,[ts[k]]++[q2],[(ak,sk)]++[(ak,1+aQ c 94 4)],rfl,((t1.trans t2).trans t3).trans t4,Zz.zn ((zk'.same (((t1.trans t2).trans t3).trans t4)).cat (Zz.one (t4 _ _ (t3 _ _ aD)))) aD,by simp,λo=>by have:=o.nd;simp at this⟩
   ·rintro σ H7 ⟨Lt,Vr,zt,rfl,s7,ht7,zt1,nzt⟩;refine k7 _ _ ?_;walk_at "rdd";refine⟨ku,λq1 m1=>⟨ku,λq2 m2=>?_⟩⟩;have t1:=ao.put (o:=.lst []) m1;have t2:=ao.put (o:=.lst [V.ref Ls,V.ref D,V.ref Lt,V.ref q1]) m2;have DA:=t1.trans t2;have hl7:=((hs6.same s7).same DA);have hD7:=((g1.same s7).same DA);have hT7:=ht7.same DA;have hE7:Zn _ q1 [] []:=(Zn.start (H:=H7) (l:=q1)).same t2;refine q q2 [Ls,D,Lt,q1] _ ((((sH.trans s5).trans g3).trans s7).trans DA) ⟨aD,by simp,λb hb=>?_⟩
    simp only[mem_cons,not_mem_nil,or_false] at hb;rcases hb with rfl | rfl | rfl | rfl
    ·exact⟨_,_,hl7,zs1,nzs⟩
    ·exact⟨_,_,hD7,∅,λo=>by have:=o.n4;lia⟩
    ·exact⟨_,_,hT7,zt1,nzt⟩
    ·exact⟨_,_,hE7,by decide,λo=>by have:=o.n1;simp at this⟩
theorem Vs(T:Tx K mg A)(aC:bF mg base A.bw A.br):bq P w K mg base bx 3 A.AU A.AV ["first", "many", "at", "asker", "latest", "behind"] (aa1 K):=by
 refine T.Cs.ok aew (λvs H Q E h=>?_) (λaV Ar outer s H vs Q E hr h=>?_)
 ·obtain⟨f,m,a,s',l,b,ns,rfl,_⟩:=h
  rfl
 ·obtain⟨f,m,a,s',l,b,ns,rfl,hB,hS,hR,q⟩:=h;refine⟨_,(aB (c8 (aN (pS T aC) (hr.mono (by decide)) rfl T.oH T.mW.kp T.oG .nil aI (aj (ah 0) (aj aq (aj (fh (v:=.int 1000000) rfl T.UD ⟨_,rfl⟩) (aj cT au))))))
   (aB (c8 (aN (pS T aC) (hr.mono (by decide)) rfl T.oH T.mW.kp T.oG .nil aI (aj (ah 1) (aj aq (aj (fh (v:=.int 16) rfl T.UC ⟨_,rfl⟩) (aj cT au))))))
   (aB (c8 (aN (pS T aC) (hr.mono (by decide)) rfl T.oH T.mW.kp T.oG .nil aI (aj (ah 2) (aj aq (aj (fh (v:=.int 1000000000000) rfl T.KU ⟨_,rfl⟩) (aj cT au))))))
   (aB (c8 (aN (pS T aC) (hr.mono (by decide)) rfl T.oH T.mW.kp T.oG .nil aI (aj (ah 3) (aj aq (aj (fh (v:=.int 20) rfl T.UG ⟨_,rfl⟩) (aj cT au))))))
   (aB (dR (dG YR (ah 4) nA (bA _)) (aK (c8 (aN (pS T aC) (hr.mono (by decide)) rfl T.oH T.mW.kp T.oG .nil aI (aj (ah 4) (aj aq (aj (fh (v:=.int 10000000000000) rfl T.UH ⟨_,rfl⟩) (aj cT au))))))) bY)
   (aK (c8 (aN (afp T aC) (hr.mono (by decide)) rfl T.SA T.JA.kp T.Sz .nil aI (aj (ah 5) au))))))))),?_⟩
  walk_at "rdm";refine⟨_,_,_,_,rfl,hB.f0,hB.f1,_,_,_,_,rfl,hB.m0,hB.m1,_,_,_,_,rfl,hB.a0,hB.a1,_,_,_,_,rfl,hB.s0,hB.s1,?_⟩
  try dsimp only
  cases l with
  | none=>exact ite_no (by simp[mz]) ⟨b,ns,rfl,hS,hR,q⟩
  | some x=>exact ite_yes (by simp[mz]) ⟨x,0,10000000000000,_,rfl,(hB.l x rfl).1,(hB.l x rfl).2,b,ns,rfl,hS,hR,q⟩
theorem afz(T:Tx K mg A)(aC:bF mg base A.bw A.br):bq P w K mg base bx 3 A.A1 A.A2 ["at"] (aa5 K A.bJ):=by
 refine T.JH.ok aey (λvs H Q E h=>?_) (λaV Ar outer s H vs Q E hr h=>?_)
 ·obtain⟨a,rfl,_⟩:=h
  rfl
 ·obtain⟨a,rfl,a0,a1,q⟩:=h;refine⟨_,(aB (c8 (aN (pS T aC) (hr.mono (by decide)) rfl T.oH T.mW.kp T.oG .nil aI (aj (ah 0) (aj aq (aj (fh (v:=.int 1000000000000) rfl T.KU ⟨_,rfl⟩) (aj cT au))))))
   (aK (bO (nF T.CH (K9 T aC) (hr.mono (by decide)) rfl T.CI T.Cr .nil aI (aj cT (aj aq (aj aq (aj (cD au) (aj (ah 0) (aj aq (aj nA (aj (cD au) (aj jC au))))))))))))),?_⟩
  walk_at "rdt";refine⟨_,_,_,_,rfl,a0,a1,?_⟩
  try dsimp only
  intro m nm b nb x dx nx gX dJ;refine⟨x,dx,_,_,_,_,_,_,_,_,_,rfl,aD,rfl,?_⟩;obtain⟨a1,a2,a3⟩:=GL (K:=K) (C:=A.bJ) (q:=⟨"rest",0,0,[],a,0,none,[],false⟩) ((ao.put nm).trans (ao.put nb)) nx gX dJ (ao.put nb _ _ aD) aD;exact q _ _ _ _ _ a1 a2 a3
theorem afA(T:Tx K mg A)(aC:bF mg base A.bw A.br):bq P w K mg base bx 3 A.A5 A.A6 ["plate", "number", "ask"] (acD K [A.bQ,A.bK] A.bJ):=by
 refine T.JJ.ok aeA (λvs H Q E h=>?_) (λaV Ar outer s H vs Q E hr h=>?_)
 ·obtain⟨C,p,ap,k,P,fp,q',m,b,dx,rfl,_⟩:=h
  rfl
 ·obtain⟨C,p,ap,k,P,fp,q',m,b,dx,rfl,hC,hP,ha,hf,hn,q⟩:=h;refine⟨_,(aK (abA rfl (bO (aN (afq T aC) (hr.mono (by decide)) rfl T.SM T.JI.kp T.SK .nil aI (aj (ah 0) (aj (ah 2) au)))))),?_⟩
  walk_at "rdd";exact⟨C,p,ap,P,fp,q',m,b,dx,rfl,hC,hP,ha,hf,hn,q⟩
theorem Vt(T:Tx K mg A)(aC:bF mg base A.bw A.br):bq P w K mg base bx 3 A.wI A.Bo ["self", "zones", "lap", "skew", "swing"] (aaF K):=by
 refine T.S5.ok aeC (λvs H Q E h=>?_) (λaV Ar outer s H vs Q E hr h=>?_)
 ·obtain⟨C,p,dx,za,sa,iM,z,aP,cK,sw,rfl,_⟩:=h
  rfl
 ·obtain⟨C,p,dx,za,sa,iM,z,aP,cK,sw,rfl,cp,hp,hz,ok,h1,h2,h3,h4,hd,hS,so,q⟩:=h;refine⟨_,(aB (aJ (c8 (aN (ae_ T aC) (hr.mono (by decide)) rfl T.SS T.JK.kp T.SR .nil aI (aj (ah 1) au))))
   (aB (aJ (c8 (aN (afa T aC) (hr.mono (by decide)) rfl T.SW T.JL.kp T.SV .nil aI (aj (ah 1) (aj (ah 2) (aj (ah 3) au))))))
   (aB (aJ (eG (ah 0) (aN (afc T aC) (hr.mono (by decide)) rfl T.S4 T.JO.kp T.S3 .nil aI (aj (ah 1) au)) rfl))
   (aB (aJ (c8 (aN (afr T aC) (hr.mono (by decide)) rfl T.SY T.JM.kp T.SX .nil aI (aj (ah 4) (aj (bI o9 rfl T.cz boot_len (aj (cW (ah 0) rfl) au)) au)))))
   (aB (aJ (eG (ah 0) (ah 2) rfl))
   (aB (aJ (eG (ah 0) (ah 3) rfl))
   (aB (aJ (eG (ah 0) (l8 Fo rfl T.tT boot_list (aj (ah 4) au)) rfl))
   (aB (aJ (eG (ah 0) (aN (UU T aC) (hr.mono (by decide)) rfl T.JQ T.Cw.kp T.JP .nil aI (aj (cW (ah 0) rfl) (aj aq au))) rfl))
   (aK (eG (ah 0) (aN (UX T aC) (hr.mono (by decide)) rfl T.JS T.Cy.kp T.JR .nil aI (aj (cW (ah 0) rfl) au)) rfl)))))))))),?_⟩
  refine aL λN1 k1=>?_;wp_walk using cp.cl,cp.n1,cp.n2,cp.n3,cp.n4,cp.n5,cp.n6;refine⟨za,iM,z,rfl,hz,ok,λH1 s1=>k1 _ _ ?_⟩;refine aL λN2 k2=>?_;walk_at "rdd";refine⟨za,iM,z,aP,cK,rfl,hz.same s1,ok,h1,h2,h3,h4,hd,k2 _ _ ?_⟩;refine aL λN3 k3=>?_;walk_at "rdd";refine⟨za,iM,z,rfl,hz.same s1,ok,λa1 H2 s2 n1 e1=>?_⟩;have nN:=(s1.trans s2) _ _ hp;have cU:a1≠p:=(bX (s1 _ _ hp) n1).symm;have cl:=u5 z λp hp=>(ok.r p hp).1;have afB:=ok.zu;have c2:=ok.s2;have mJ:SameBut p H H2:=.of (s1.trans s2);have fr1:H a1=none:=s1.free n1;wp_walk using cp.cl,cp.n1,cp.n2,cp.n3,cp.n4,cp.n5,cp.n6,nN;refine k3 _ _ ?_;refine aL λN4 k4=>?_;wp_walk using cp.cl,cp.n1,cp.n2,cp.n3,cp.n4,cp.n5,cp.n6;refine⟨_,.inl (aE.of ((aF cU).trans e1)),?_⟩;have Lh:∀ {H':Hp},SameBut p H H'->aE K H' sa (sw.map V.int):=λ{H'} sb=>by
   rcases hS with(h | ⟨o,h⟩) | h
   ·exact .inl (.inl (sb _ _ h (iD h hp (by intro z;cases z))))
   ·exact .inl (.inr ⟨o,sb _ _ h (iD h hp (by intro z;cases z))⟩)
   ·exact .inr h
  refine⟨sa,sw,_,rfl,Lh mJ.put,?_,?_,k4 _ _ ?_⟩
  ·simpa only[length_map,cl] using so
  ·simp only[length_map];lia
  refine aL λN5 k5=>?_;wp_walk using cp.cl,cp.n1,cp.n2,cp.n3,cp.n4,cp.n5,cp.n6;refine k5 _ _ ?_;refine aL λN6 k6=>?_;wp_walk using cp.cl,cp.n1,cp.n2,cp.n3,cp.n4,cp.n5,cp.n6;refine k6 _ _ ?_;refine aL λN7 k7=>?_;wp_walk using cp.cl,cp.n1,cp.n2,cp.n3,cp.n4,cp.n5,cp.n6;refine⟨_,.inl (Lh mJ.put),λa2 n2=>?_⟩;have m_:p≠a2:=bX aD n2;have xx:H2 a2=none:=by rw[aF m_.symm] at n2;exact n2
  wp_walk using cp.cl,cp.n1,cp.n2,cp.n3,cp.n4,cp.n5,cp.n6,aF m_;refine k7 _ _ ?_;have na2:a1≠a2:=bX e1 xx;have pW:SameBut p H (upd (upd (upd H2 p (HO.ins C dx [(Str.ofString "ring_cells",V.ref a1),(Str.ofString "lap",V.int aP),(Str.ofString "skew",V.int cK)])) a2 (HO.lst (List.map V.int sw))) p
   (HO.ins C dx [(Str.ofString "ring_cells",V.ref a1),(Str.ofString "lap",V.int aP),(Str.ofString "skew",V.int cK),(Str.ofString "swing",V.ref a2)])):=(mJ.put.step (ao.put n2)).put
  have OQ:=e1;have fr2:H a2=none:=(s1.trans s2).free xx;generalize Li:upd (upd (upd H2 p _) a2 _) p _=H3 at pW ⊢;have p3:H3 p=some (HO.ins C dx [(Str.ofString "ring_cells",V.ref a1),(Str.ofString "lap",V.int aP),(Str.ofString "skew",V.int cK),(Str.ofString "swing",V.ref a2)]):=by rw[← Li,aD]
  have q1:H3 a1=some (.lst ((counts z).map V.int)):=by rw[← Li,aF cU,aF na2,aF cU];exact e1
  have q2:H3 a2=some (.lst (sw.map V.int)):=by rw[← Li,aF m_.symm,aD]
  have cm:∀c∈counts z,0<=c/\c<=1000:=λc hc=>by
   obtain⟨y,hy,rfl⟩:=Gv hc;have:=ok.r y hy;lia
  refine aL λN8 k8=>?_;wp_walk using cp.cl,cp.n1,cp.n2,cp.n3,cp.n4,cp.n5,cp.n6,p3;refine⟨a1,counts z,0,rfl,aE.of q1,∅,cm,by decide,by decide,λa3 ts H4 s4 n3 eE z4=>?_⟩
  have p4:=s4 _ _ p3;have Lj:a3≠p:=(bX p3 n3).symm;have qg:H a3=none:=by
   cases e:H a3 with
   | none=>rfl
   | some o=>rw[pW _ _ e Lj] at n3;cases n3
  have Lk:∀t∈ts,t≠p:=λt ht=>(bX p3 (eE t ht)).symm;have frt:∀t∈ts,H t=none:=λt ht=>by
   cases e:H t with
   | none=>rfl
   | some o=>have:=pW _ _ e (Lk t ht);rw[eE t ht] at this;cases this
  wp_walk using cp.cl,cp.n1,cp.n2,cp.n3,cp.n4,cp.n5,cp.n6,p4;refine k8 _ _ ?_;have z5:=z4.keep (H':=upd H4 p (HO.ins C dx [(Str.ofString "ring_cells",V.ref a1),(Str.ofString "lap",V.int aP),(Str.ofString "skew",V.int cK),(Str.ofString "swing",V.ref a2),(Str.ofString "number_cells",V.ref a3)])) (aF Lj) λt ht=>aF (Lk t ht);have zl:(cE (counts z) 0).length<=1000000:=by
   have:=zw (s:=0) (by decide) (counts z) 0 cm
   have e:(counts z).length<=120:=by lia
   unfold cE;lia
  wp_walk using cp.cl,cp.n1,cp.n2,cp.n3,cp.n4,cp.n5,cp.n6;refine⟨a3,ts,_,rfl,z5,zl,λa4 H5 s5 n4 e4=>?_⟩;have Ll:a4≠p:=(bX aD n4).symm;have xr:SameBut p H H5:=((pW.step s4).put).step s5;have Vu:H4 a4=none:=by rw[aF Ll] at n4;exact n4
  have fr4:H a4=none:=by
   cases e:H a4 with
   | none=>rfl
   | some o=>rw[(pW.step s4) _ _ e Ll] at Vu;cases Vu
  wp_walk using cp.cl,cp.n1,cp.n2,cp.n3,cp.n4,cp.n5,cp.n6,s5 _ _ aD;refine q _ dx a1 a2 a3 a4 ts xr.put ?_ aD (nT.lit cp aD ?_ ?_ ?_ ?_)
  ·intro b hb;simp only[mem_cons] at hb;rcases hb with rfl | rfl | rfl | rfl | hb
   ·exact fr1
   ·exact fr2
   ·exact qg
   ·exact fr4
   ·exact frt b hb
  ·rw[aF cU];exact s5 _ _ ((aF cU).trans (s4 _ _ q1))
  ·rw[aF m_.symm];exact s5 _ _ ((aF m_.symm).trans (s4 _ _ q2))
  ·exact(z5.same s5).keep (aF Lj) λt ht=>aF (Lk t ht)
  ·rw[aF Ll];exact e4
theorem afC(T:Tx K mg A)(aC:bF mg base A.bw A.br):bq P w K mg base bx 3 A.BC A.BD ["ring_cells", "spares", "number_cells", "bad_cells"] (ab9 K A.br (oh gr) (oq "nearest_rings")):=by
 refine T.JZ.ok tH (λvs H Q E h=>?_) (λaV Ar outer s H vs Q E hr h=>?_)
 ·obtain⟨ra,na,d,sp,rc,ts,z,bz,rfl,_⟩:=h
  rfl
 ·obtain⟨ra,na,d,sp,rc,ts,z,bz,rfl,Dw,h2,fq,s0,s1,hc,hz,hlen,hd,sU,Vv,tab,en,q⟩:=h;have hu:=kX hr;refine⟨_,(aB (aX (i:=4) tH.nd rfl (Or.inl rfl) (dH au))
   (aB (aX (i:=5) tH.nd rfl (Or.inl rfl) (l8 abZ rfl T.C7 boot_dict (aj (ah 3) au)))
   (aB (d9 PassesOwn.never rfl (fj (aN (afh T aC) (hr.mono (by decide)) rfl T.Tr T.JW.kp T.Tq .nil aI (aj (ah 2) (aj (ah 3) au)))) (bE (i:=6) tH.nd rfl (Or.inl rfl))
   (aB (aX (i:=7) tH.nd rfl (Or.inl rfl) (aU cX (ah 2) (ah 6) (λ_ _=>rfl)))
   (aB (aX (i:=8) tH.nd rfl (Or.inl rfl) (aN (aft T aC) (hr.mono (by decide)) rfl T.Tw T.JY.kp T.Tv .nil aI (aj (ah 0) (aj (ah 1) (aj (aU e_ (ah 7) aq (λ_ _=>rfl)) (aj (ah 5) au))))))
   (aB (dR (dG NI (ah 8) nA (bA _)) gM bY)
   (aB (uS hu (ah 5) (ah 8) jC rfl)
   (aK (c8 (jI plainAttrs_list PySem.F.slot_list_append PySem.F.type_list_append kQ (ah 4) (aj (cD (aj (ah 6) (aj (ah 7) (aj (ah 8) au)))) au)))))))))
   (aK (bO (ah 4)))))),?_⟩
  walk_at "rdm";refine λl hl=>?_;have bk:(dX bz).map (λx=>x.1)=bz.map kT:=by unfold dX;rw[map_map];rfl
  refine⟨_,ao.put hl _ _ hd,by rw[bk];exact sU,λu nu=>?_⟩
  have Lm:=(ao.put (o:=.lst []) hl).trans (ao.put (o:=.dT (dX bz)) nu);have nuH:H u=none:=(ao.put (o:=.lst []) hl).free nu;refine Gy ?_;walk_at "rdd";refine⟨na,d,ts,z,dX bz,rfl,hz.same Lm,hlen,Lm _ _ hd,λb H2 s2 nb eb=>⟨b,rfl,?_⟩⟩;rw[zQ,map_map] at eb;have s3:=Lm.trans s2;have el:H2 l=some (.lst []):=s2 _ _ (ao.put nu _ _ aD);have eu:H2 u=some (.dT (dX bz)):=s2 _ _ aD;have lu:l≠u:=bX aD nu;have jr:b≠l:=(bX (ao.put nu _ _ aD) nb).symm;have hbu:b≠u:=(bX aD nb).symm;refine su.by b ((cH bz 0 z).map (V.int ∘ λ(n:Nat)=>(n:Int))) (λi σ H'=>∃x y w us os ms,σ = [some (.ref ra),some (.int sp),some (.ref na),some (.ref d),some (.ref l),some (.ref u),x,y,w]/\Kp A.br (oh gr) (oq "nearest_rings") H H'/\
    H' b=some (.lst ((cH bz 0 z).map (V.int ∘ λ(n:Nat)=>(n:Int))))/\H' u=some (.dT (dX (bz++ms.map λm=>m.2.2)))/\jq rc sp z bz ((cH bz 0 z).take i) ms/\ir H' l ts us os ms/\∀t∈os,H t=none)
   (aE.of eb) ⟨none,none,none,[],[],[],rfl,Kp.of tab s3,eb,by simpa using eu,.nil,⟨el,rfl,rfl,λi u m e=>by cases e⟩,λt z=>by cases z⟩ (by rintro i σ H' _ ⟨x,y,w,us,os,ms,rfl,k,hb,_⟩;exact aE.of hb) ?_ ?_
  ·rintro i x σ H' N hN hx ⟨x0,y0,w0,us,os,ms,rfl,k,hb,ue,hL,hM,nH⟩;obtain⟨n,hn,rfl⟩:=fT hx;obtain⟨_,c,DC,hcb⟩:=Hv (get_mem hn);rw[sub_zero] at DC;have fc:Zn H' na ts z:=⟨k.get tab hz.l,hz.n,λi t p e1 e2=>k.get tab (hz.t i t p e1 e2)⟩;simp only[Function.comp_apply,Rj,Rk,Of,HM,Q5,lz,Fd,HZ,mI,mU,wm,wu,wz,R0,Ia,Ib,Ic,RP,RQ,RS,RT,RU,RV,RW,RX,FW,HW,FA,Ad,HV,QM,Og,zW,HE,GP,GU,GS,GR,zF,PX,Pu,mC,Pw,Pp,Ou,GB,yY,Fp,Ov,NJ,z7,Q4,Fc,E_,E9,Ff,Fe,and_assoc,M3,HO.ins.injEq,Gr,pe,gB,String.reduceBEq,lookup_cons,lookup_nil,aD,HO.lst.injEq,HO.dT.injEq,HO.tup.injEq,String.reduceEq,false_and,or_false,false_or,j9,FQ,FP,FL,FH,FI,FJ,OM,not_eq_true',decide_eq_false_iff_not,Classical.not_not,EJ,if_false_left,if_false_right,Gg,EH,jK,length_map,getElem?_nil,yu,uy,oU,yy,uv,uw,EL,yq,tC,oZ,iI,rI,EU,rU,uE,tB,qc,yx,Nr,yw,yQ,yN,uF,uH,EI,EA,rO,EB,EE,Nn,EF,E6,E5,Fq,uM,Fx,Fy,FD,FE,yV,yW,EZ,E1,R3,R4,R5,R6,R7,R8,R9,R_,rT,yG,EX,yM,E4,uI,yO,_L.start,O0,O1,O2,map_cons,map_nil,cons_append,nil_append,append_nil,length_cons,length_nil,getElem?_cons_zero,getElem?_cons_succ,Option.some.injEq,exists_eq_left,exists_eq_left',exists_and_left,exists_eq,V.int.injEq,V.ref.injEq,V.bl.injEq,V.ty.injEq,V.str.injEq,List.cons.injEq,and_true,true_and,set_cons_zero,set_cons_succ,decide_eq_true_eq,reduceSub,reduceAdd,replicate_succ,replicate_zero,List.replicate,reduceLT,reduceLE,reducePow,reduceToNat,reduceNeg,Nat.reduceLT,reduceLeDiff,Nat.reducePow,reduceMul,Int.reduceAdd,Int.reduceSub,and_self,or_true,true_or,gt_iff_lt,ge_iff_le,if_true,if_false,false_eq_true,reduceIte,sub_self,sub_zero];have hnl:n<ts.length:=by rw[hz.n];exact e8 DC
   obtain⟨t,g1⟩:∃t,ts[n]? = some t:=⟨_,getElem?_eq_getElem hnl⟩;have g2:(ts.map V.ref)[n]? = some (V.ref t):=by rw[getElem?_map,g1];rfl
   have ht:=fc.t n t c g1 DC;have afD:=hL.len;rw[length_take] at afD;have xm:=e8 hn;have bl:=ab7 bz z;refine⟨_,fc.sq,_,l_ g2,_,bg.of ht,_,rfl,?_⟩;refine⟨ra,u,c.1,sp,rc,bz++ms.map (λm=>m.2.2),rfl,k.seq tab Dw,h2,fq,s0,s1,hc,ue,k.t,λis H3 ord k3=>⟨λz=>absurd z (en _ _ _ (by rw[length_map];lia) ord),λo to hf nto Ln=>?_⟩⟩
   have jX:=k3.get k.t ue;have ho:=ab1 hf;have hM3:=hM.but k.t k3;have Vw:=hM3.other (o:=.dT (putK (dX (bz++ms.map λm=>m.2.2)) (kT o) (.bl true))) ⟨_,jX⟩;have kA:=(k.trans k3).put (o:=.dT (putK (dX (bz++ms.map λm=>m.2.2)) (kT o) (.bl true))) nuH jX;have l4:=Vw.l;refine⟨(by intro z;cases z),_,kU.t (k:=kT o) jX Ln (by rw[j9,dX,length_map,length_append,length_map];lia),⟨_,aE.of l4⟩,λp np=>?_⟩
   have pX:=ao.put (o:=HO.tup [V.int (n:Int),V.ref t,V.ref to]) np;have e9:dX (bz++(ms++[(n,c,o)]).map λm=>m.2.2)=putK (dX (bz++ms.map λm=>m.2.2)) (kT o) (.bl true):=by
    rw[ab8 _ ho,map_append,← append_assoc];rfl
   have t3:=k3.get k.t ht;refine⟨_,pX _ _ l4,by rw[length_map,hM.n];lia,hN _ _ ⟨_,_,_,us++[p],os++[to],ms++[(n,c,o)],rfl,?_,?_,?_,?_,?_,?_⟩⟩
   ·exact(kA.step pX).put hl (pX _ _ l4)
   ·rw[aF jr];refine pX _ _ ?_;rw[aF hbu];exact k3.get k.t hb
   ·rw[aF lu.symm,e9];exact pX _ _ aD
   ·rw[take_succ_get hn];exact hL.snoc DC ord hf
   ·refine(Vw.same pX).snoc (m:=(n,c,o)) aD g1 (pX _ _ ?_) (pX _ _ ?_)
    ·rw[aF (iD t3 jX (by intro z;cases z))];exact t3
    ·rw[aF (iD Ln jX (by intro z;cases z))];exact Ln
   ·intro t' pT;rcases mem_append.mp pT with h' | h'
    ·exact nH t' h'
    ·rw[mem_singleton.mp h'];exact k.free nto
  ·rintro σ H' ⟨x,y,w,us,os,ms,rfl,k,hb,ue,hL,hM,nH⟩;walk_at "rdm";rw[length_map,take_length] at hL;exact q l us os ms H' k hl nH hL hM
theorem afE(T:Tx K mg A)(aC:bF mg base A.bw A.br):bq P w K mg base bx 3 A.B0 A.B3 ["_law_cell_here", "_law_row_here", "_law_beat", "_law_world", "_law_askers_here"] (aek K):=by
 refine T.Kc.ok mV (λvs H Q E h=>?_) (λaV Ar outer s H vs Q E hr h=>?_)
 ·obtain⟨c,jw,l,t,aa,ts,qs,rc,aP,sk,sw,ca,sa,na,eE,nc,as,rfl,_⟩:=h
  rfl
 ·obtain⟨c,jw,l,t,aa,ts,qs,rc,aP,sk,sw,ca,sa,na,eE,nc,as,rfl,hl,ju,hw,n1,nM,l1,l2,ha,a1,ng,b0,b1,q⟩:=h;refine⟨_,(aB (aJ (aX (i:=5) mV.nd rfl (Or.inl rfl) (dH (aj cT (aj cT (aj cT (aj cT (aj cT (aj cT (aj cT (aj cT (aj cT (aj cT (aj cT au))))))))))))))
   (aB (aJ (gH (aX (i:=6) mV.nd rfl (Or.inl rfl) (aU cX (ah 5) (aN (bW T aC) (hr.mono (by decide)) rfl T.bV T.bR.kp T.bU .nil aI (aj (ah 0) (aj aq (aj aq au)))) (λ_ _=>rfl)))))
   (aB (aJ (dR (dG lZ (ah 6) cT (bA _)) (aK (bO (cD (aj cT (aj aq (aj aq (aj (cD au) (aj (ah 2) (aj aq (aj nA (aj (cD au) (aj jC au)))))))))))) bY))
   (aB (aJ (aX (i:=7) mV.nd rfl (Or.inl rfl) (bI o9 rfl T.cz boot_len (aj (aU e_ (ah 3) aq (λ_ _=>rfl)) au))))
   (aB (aJ (aX (i:=8) mV.nd rfl (Or.inl rfl) (aN (bW T aC) (hr.mono (by decide)) rfl T.bV T.bR.kp T.bU .nil aI (aj (ah 0) (aj aq (aj (ah 7) au))))))
   (aB (aJ (aX (i:=9) mV.nd rfl (Or.inl rfl) (aH jc aq (aN (bW T aC) (hr.mono (by decide)) rfl T.bV T.bR.kp T.bU .nil aI (aj (pv 0) (aj aq (aj (bI (yJ rfl) rfl T.mX boot_min (aj (aU iL (dH (aj aq (aj aq (aj aq (aj aq au))))) (aN (bW T aC) (hr.mono (by decide)) rfl T.bV T.bR.kp T.bU .nil aI (aj (pv 0) (aj aq (aj aq au)))) (λ_ _=>rfl)) (aj (aH qi (pv 7) (pv 8)) au))) au)))))))
   (aB (aJ (gH (aX (i:=10) mV.nd rfl (Or.inl rfl) (l8 y_ rfl T.rm boot_tuple (aj (jM (N:=["_law_k", "_law_cell_here"]) (nt:=1) (fv:=[0]) (c7.of rfl rfl (by rfl) (by rfl) (by repeat (first | exact trivial | refine⟨rfl,?_⟩)) (by rfl) (by rfl) (by rfl) (by decide) (by decide +kernel)) rfl (iH rfl T.e7 (aj (ah 9) au)) (λC s H fp=>(bE (i:=0) (show Nodup (["_law_k", "_law_cell_here"]:List Str) by decide +kernel) rfl (Or.inl rfl))) (λC s H fp=>gS) (λC s H fp=>(aH kr (aH iS (aH b_ (ah 1) (ah 0)) aq) (aH b_ (aH ql aq aq) aq)))) au)))))
   (aB (aJ (aX (i:=11) mV.nd rfl (Or.inl rfl) (aU cX (ah 4) (aN (bW T aC) (hr.mono (by decide)) rfl T.bV T.bR.kp T.bU .nil aI (aj (ah 0) (aj aq (aj (bI dh rfl T.cz boot_len (aj (ah 4) au)) au)))) (λ_ _=>rfl))))
   (aB (aJ (aX (i:=12) mV.nd rfl (Or.inl rfl) (dH (aj nA (aj (aN (bW T aC) (hr.mono (by decide)) rfl T.bV T.bR.kp T.bU .nil aI (aj (ah 0) (aj aq (aj aq au)))) (aj (aH b_ (ah 2) (aN (bW T aC) (hr.mono (by decide)) rfl T.bV T.bR.kp T.bU .nil aI (aj (ah 0) (aj aq (aj (aH jc (aH qj aq (aU e_ (ah 3) aq (λ_ _=>rfl))) aq) au))))) au))))))
   (aB (aJ (gH (aX (i:=12) mV.nd rfl (Or.inl rfl) (aU iL (aH qx (ah 12) (dH (aj (aH oE (aH ql aq aq) (aN (bW T aC) (hr.mono (by decide)) rfl T.bV T.bR.kp T.bU .nil aI (aj (ah 0) (aj aq (aj aq au))))) au))) (aN (bW T aC) (hr.mono (by decide)) rfl T.bV T.bR.kp T.bU .nil aI (aj (ah 0) (aj aq (aj aq au)))) (λ_ _=>rfl)))))
   (aB (dR (dG lZ (ah 6) cT (bA _)) (aK (bO (cD (aj cT (aj (ah 8) (aj (ah 9) (aj (cD au) (aj (ah 2) (aj (ah 11) (aj (ah 12) (aj (aN (Vp T aC) (hr.mono (by decide)) rfl T.Ka T.Cz.kp T.J_ .nil aI (aj (ah 0) (aj (ah 1) au))) (aj jC au)))))))))))) bY)
   (aK (bO (cD (aj cT (aj (ah 8) (aj (ah 9) (aj (ah 10) (aj (ah 2) (aj (ah 11) (aj (ah 12) (aj (aN (Vp T aC) (hr.mono (by decide)) rfl T.Ka T.Cz.kp T.J_ .nil aI (aj (ah 0) (aj (ah 1) au))) (aj (uD lZ (ah 6) cT (bA _)) au))))))))))))))))))))))),?_⟩
  refine aL λN1 h1=>?_;wp_walk using bu;intro p np;have s1:=ao.put (o:=.lst [V.str "read",V.str "read",V.str "write",V.str "read",V.str "write",V.str "early",V.str "write",V.str "early",V.str "read",V.str "write",V.str "rest"]) np;have hp:upd H p (.lst [V.str "read",V.str "read",V.str "write",V.str "read",V.str "write",V.str "early",V.str "write",V.str "early",V.str "read",V.str "write",V.str "rest"]) p=some (.lst [V.str "read",V.str "read",V.str "write",V.str "read",V.str "write",V.str "early",V.str "write",V.str "early",V.str "read",V.str "write",V.str "rest"]):=aD;generalize upd H p (.lst [V.str "read",V.str "read",V.str "write",V.str "read",V.str "write",V.str "early",V.str "write",V.str "early",V.str "read",V.str "write",V.str "rest"])=H1 at s1 hp ⊢;refine h1 _ _ ?_;obtain⟨DE,hso,hk⟩:∃so:Str,dW [V.str "read",V.str "read",V.str "write",V.str "read",V.str "write",V.str "early",V.str "write",V.str "early",V.str "read",V.str "write",V.str "rest"] (aQ c 54 11)=some (.str so)/\(so = "rest"\/so = "read"\/so = "write"\/so = "early"):=by
   have b:=cy c 54 (m:=11) (by decide)
   have:aQ c 54 11=0\/aQ c 54 11=1\/aQ c 54 11=2\/aQ c 54 11=3\/aQ c 54 11=4\/aQ c 54 11=5\/aQ c 54 11=6\/aQ c 54 11=7\/aQ c 54 11=8\/aQ c 54 11=9\/aQ c 54 11=10:=by lia
   rcases this with e | e | e | e | e | e | e | e | e | e | e <;> rw[e] <;> exact⟨_,rfl,by simp⟩
  refine aL λN2 h2=>?_;wp_walk using bu;refine⟨λσ H'=>σ = [some (.int c),some (.ref l),some (.int jw),some (.ref t),some (.ref aa),some (.ref p),some (.str DE),none,none,none,none,none,none]/\H' = H1,⟨_,aE.of hp,_,hso,rfl,rfl⟩,?_⟩;rintro σ H' ⟨rfl,rfl⟩;refine h2 _ _ ?_;refine aL λN3 h3=>?_;wp_walk using bu;have xy:=hw.same s1;refine cj (λhr=>λe1 Lo e2 xx e3 jy=>?_) λhr=>h3 _ _ ?_
  ·have sA:=ao.put (o:=.tup []) Lo;have sB:=sA.trans (ao.put (o:=.tup []) xx);have sC:=(s1.trans sB).trans (ao.put (o:=.tup [V.str "rest",V.int 0,V.int 0,V.ref e1,V.int jw,V.int 0,V.aW,V.ref e2,V.bl false]) jy);refine q e3 ⟨"rest",0,0,[],jw,0,none,[],false⟩ e1 e2 _ sC (((s1.trans sB)).free jy) ⟨aD,ao.put jy _ _ (ao.put xx _ _ aD),ao.put jy _ _ aD⟩ ⟨.inl rfl,(λ_=>rfl),(λz=>absurd rfl z),b0,⟨Int.le_refl _,by show (0:Int)<=20;decide⟩,(λ_ z=>nomatch z),jl.nil,(λ_ z=>nomatch z),(λz=>absurd (show ("rest" : Str) = "read" from z) (by decide)),(λz=>absurd (show ("rest" : Str) = "write" from z) (by decide))⟩ rfl (.inl rfl)
  have ncl:(eE.map V.ref).length=nc.length:=by rw[length_map,hw.n.n]
  refine aL λN4 h4=>?_;wp_walk using bu;refine⟨_,bg.of xy.o,_,rfl,na,rfl,_,.inl xy.n.sq,h4 _ _ ?_⟩;rw[ncl];refine aL λN5 h5=>?_;wp_walk using bu;refine⟨∅,h5 _ _ ?_⟩
  have f0:=cy c 55 (m:=(nc.length:Int)) ∅
  generalize aQ c 55 (nc.length:Int)=f at f0 ⊢;refine aL λN6 h6=>?_;wp_walk using bu;intro o1 lN;obtain⟨x,hx,x0,x1⟩:∃x:Int,dW [V.int 3,V.int 3,V.int 3,V.int 16] (aQ c 57 4)=some (.int x)/\3<=x/\x<=16:=by
   have b:=cy c 57 (m:=4) (by decide)
   have:aQ c 57 4=0\/aQ c 57 4=1\/aQ c 57 4=2\/aQ c 57 4=3:=by lia
   rcases this with e | e | e | e <;> rw[e] <;> exact⟨_,rfl,by decide,by decide⟩
  obtain⟨e,he,e0,ex,el⟩:∃e:Int,(if (nc.length:Int) - f<x then(nc.length:Int) - f else x)=e/\0<e/\e<=x/\e<=nc.length - f:=by
   refine⟨_,rfl,?_,?_,?_⟩ <;> (split <;> lia)
  have g1:=cy c 56 e0;obtain⟨mn,DF,m1,Vx,mf⟩:∃mn:Int,1+aQ c 56 e=mn/\1<=mn/\mn<=16/\f+mn<=nc.length:=⟨_,rfl,∅,∅,∅⟩
  have so:=ao.put (o:=.lst [V.int 3,V.int 3,V.int 3,V.int 16]) lN;refine⟨_,aE.of aD,_,hx,x,rfl,?_⟩;rw[he,DF];refine⟨e0,h6 _ _ ?_⟩;generalize upd H' o1 (.lst [V.int 3,V.int 3,V.int 3,V.int 16])=H2 at so ⊢;have s2:=s1.trans so;clear hx x0 x1 DF g1 he e0 ex el;refine aL λN7 h7=>?_;wp_walk using bu;refine⟨λσ H3=>∃(ma:Addr) (ms:List Int),σ = [some (.int c),some (.ref l),some (.int jw),some (.ref t),some (.ref aa),some (.ref p),some (.str DE),some (.int (nc.length:Int)),some (.int f),some (.int mn),some (.ref ma),none,none]/\ao H2 H3/\H3 ma=some (.tup (ms.map V.int))/\(ms.length:Int)=mn/\∀x∈ms,0<=x/\x<=1000000000,?_,?_⟩
  ·refine qH mn (λD j ys aA HA=>∃(v:Option V) (ms:List Int),ys=ms.map V.int/\ms.length=j/\(∀x∈ms,0<=x/\x<=1000000000)/\aA = [v,some (.int c)]/\HA D=some (.lst ys)/\ao H2 HA/\H2 D=none/\j<=16) (λQ q=>q) ∅ ∅ ?_ ?_ ?_ ?_
   ·intro D hD;exact⟨none,[],rfl,rfl,(λ_ h=>nomatch h),rfl,aD,ao.put hD,hD,∅⟩
   ·rintro D j ys aA HA ⟨v,ms,rfl,j0,jb,rfl,j1,j2,j3,j4⟩;exact⟨j1,fS (by rw[length_map];lia)⟩
   ·rintro D j ys aA HA N2 iB hj ⟨v,ms,rfl,j0,jb,rfl,j1,j2,j3,j4⟩;walk_at "rdm";have m0:=emod_nonneg ((c+(j:Int))*48271) (show (1000000001:Int)≠0 by decide)
    have m1:=emod_lt_of_pos ((c+(j:Int))*48271) (show (0:Int)<1000000001 by decide)
    refine⟨by decide,j1,iB _ _ _ ⟨_,ms++[(c+(j:Int))*48271 % 1000000001],by rw[map_append];rfl,by simp[j0],λx hx=>?_,rfl,aD,ao.put2 j2 j3,j3,∅⟩⟩
    rcases mem_append.mp hx with hx | hx
    ·exact jb x hx
    ·rw[mem_singleton.mp hx];lia
   ·rintro D ys aA HA ⟨v,ms,rfl,j0,jb,rfl,j1,j2,j3,j4⟩;refine⟨D,rfl,_,.inl ⟨aE.of j1,λma nma=>⟨ma,ms,rfl,j2.trans (ao.put nma),aD,∅,jb⟩⟩⟩
  ·rintro σ H3 ⟨ma,ms,rfl,s3,hma,mln,mb⟩;refine h7 _ _ ?_;refine aL λN8 h8=>?_;wp_walk using bu;have Lq:=s2.trans s3;have Vy:=Lq _ _ ha;have hw3:=hw.same Lq;have Vz:=cy c 61 (m:=(as.length:Int)) ∅
   have d40:=cy c 62 (m:=40) (by decide)
   have dl:=cy c 62 (m:=2*aP+1) ∅
   have d3:=cy c 62 (m:=3) (by decide)
   have d63:=cy c 63 (m:=4) (by decide)
   obtain⟨ak,hak,Lr⟩:∃ak:Int,dW (as.map V.int) (aQ c 61 (as.length:Int))=some (.int ak)/\ak∈as:=by
    refine⟨_,gU Vz.1 Vz.2,get_mem (O9 as ?_)⟩;lia
   obtain⟨VA,VB⟩:=ng ak Lr;refine⟨_,.inl (aE.of Vy),by rw[length_map];lia,_,aE.of Vy,_,by rw[length_map];exact hak,h8 _ _ ?_⟩
   refine aL λN9 h9=>?_;wp_walk using bu;refine⟨_,bg.of hw3.o,_,rfl,aP,rfl,∅,λo3 no3=>h9 _ _ ?_⟩
   refine aL λVC Lu=>?_;wp_walk using bu;refine⟨by decide,?_⟩
   obtain⟨la,hla,VD⟩:∃la:Option Int,dW ([V.aW,V.int (aQ c 62 40),V.int (jw+aQ c 62 (2*aP+1))]++[V.int (10000000000000 - aQ c 62 3)]) (aQ c 63 4)=some (mz la)/\∀x,la=some x->0<=x/\x<=10000000000000:=by
    have:aQ c 63 4=0\/aQ c 63 4=1\/aQ c 63 4=2\/aQ c 63 4=3:=by lia
    rcases this with e | e | e | e <;> rw[e]
    ·exact⟨none,rfl,λx hx=>by cases hx⟩
    ·exact⟨some _,rfl,λx hx=>by cases hx;lia⟩
    ·exact⟨some _,rfl,λx hx=>by cases hx;lia⟩
    ·exact⟨some _,rfl,λx hx=>by cases hx;lia⟩
   refine⟨λσ H4=>σ = [some (.int c),some (.ref l),some (.int jw),some (.ref t),some (.ref aa),some (.ref p),some (.str DE),some (.int (nc.length:Int)),some (.int f),some (.int mn),some (.ref ma),some (.int ak),some (mz la)]/\ao H3 H4,λo4 VE=>⟨_,ao.put VE _ _ aD,by simp,λo5 no5=>⟨_,aE.of aD,_,hla,rfl,((ao.put no3).trans (ao.put VE)).trans (ao.put no5)⟩⟩,?_⟩
   rintro σ H4 ⟨rfl,s4⟩;refine Lu _ _ ?_;walk_at "rdm";have Lv:=Lq.trans s4;have afF:=s4 _ _ hma;have VF:=hl.same Lv;refine cj (λh5=>λe1 Lo=>?_) λh5=>?_
   ·have sE:=ao.put (o:=.tup []) Lo;refine⟨c,l,ts,qs,rfl,VF.same sE,ju,λb ns H5 s5 nb hb rb e3 jy=>?_⟩;have xA:=(Lv.trans sE).trans s5;exact q e3 ⟨"read",f,mn,[],jw,ak,la,ns,false⟩ e1 b _ (xA.trans (ao.put jy)) (xA.free jy) ⟨aD,ao.put jy _ _ (s5 _ _ aD),ao.put jy _ _ hb⟩
     ⟨.inr (.inl rfl),(λz=>absurd (show ("read" : Str) = "rest" from z) (by decide)),(λ_=>⟨f0.1,m1,Vx,mf⟩),b0,⟨VA,VB⟩,VD,rb,(λ_ z=>nomatch z),(λ_=>⟨rfl,rfl⟩),(λz=>absurd (show ("read" : Str) = "write" from z) (by decide))⟩ rfl (.inr Lr)
   ·refine⟨c,l,ts,qs,rfl,VF,ju,λb ns H5 s5 nb hb rb e3 jy=>?_⟩;have xA:=Lv.trans s5;exact q e3 ⟨"write",f,mn,ms,jw,ak,la,ns,decide (DE = "early")⟩ ma b _ (xA.trans (ao.put jy)) (xA.free jy) ⟨aD,ao.put jy _ _ (s5 _ _ afF),ao.put jy _ _ hb⟩
     ⟨.inr (.inr rfl),(λz=>absurd (show ("write" : Str) = "rest" from z) (by decide)),(λ_=>⟨f0.1,m1,Vx,mf⟩),b0,⟨VA,VB⟩,VD,rb,mb,(λz=>absurd (show ("write" : Str) = "read" from z) (by decide)),(λ_=>mln)⟩ rfl (.inr Lr)
theorem VG(T:Tx K mg A)(aC:bF mg base A.bw A.br):bq P w K mg base bx 4 A.AY A.wH ["first", "many", "at", "asker", "latest", "behind"] (aa4 K A.bJ):=by
 refine T.Cu.ok Sa (λvs H Q E h=>?_) (λaV Ar outer s H vs Q E hr h=>?_)
 ·obtain⟨f,m,a,s',l,bv,ns,rfl,_⟩:=h
  rfl
 ·obtain⟨f,m,a,s',l,bv,ns,rfl,hB,hv,hR,q⟩:=h;refine⟨_,(aB (aX (i:=6) Sa.nd rfl (Or.inl rfl) (aN (UT T aC) (hr.mono (by decide)) rfl T.JE T.Ct.kp T.JD .nil aI (aj (ah 5) au)))
   (aB (c8 (aN (Vs T aC) (hr.mono (by decide)) rfl T.JC T.Cs.kp T.JB .nil aI (aj (ah 0) (aj (ah 1) (aj (ah 2) (aj (ah 3) (aj (ah 4) (aj (ah 6) au))))))))
   (aK (bO (nF T.CH (K9 T aC) (hr.mono (by decide)) rfl T.CI T.Cr .nil aI (aj cT (aj (ah 0) (aj (ah 1) (aj (cD au) (aj (ah 2) (aj (ah 3) (aj (ah 4) (aj (ah 6) (aj jC au)))))))))))))),?_⟩
  walk_at "rdd";refine⟨_,ns,rfl,hv,λb H1 s1 hb=>?_⟩;walk_at "rdt";refine⟨_,_,_,_,_,_,ns,rfl,hB,bg.of hb,hR,?_⟩;walk_at "rdt";intro mk nm x dx nx gX dJ;refine⟨x,dx,_,_,_,_,_,_,_,_,_,rfl,aD,rfl,?_⟩;obtain⟨a1,a2,a3⟩:=GL (K:=K) (C:=A.bJ) (q:=⟨"read",f,m,[],a,s',l,ns,false⟩) (s1.trans (ao.put nm)) nx gX dJ aD (ao.put nm _ _ hb);exact q _ _ _ _ _ a1 a2 a3
theorem afG(T:Tx K mg A)(aC:bF mg base A.bw A.br):bq P w K mg base bx 4 A.AZ A.A0 ["first", "marks", "at", "asker", "latest", "behind", "early"] (adt K A.bJ):=by
 refine T.JG.ok Jr (λvs H Q E h=>?_) (λaV Ar outer s H vs Q E hr h=>?_)
 ·obtain⟨f,a,s',ma,ms,l,bv,ns,e,rfl,_⟩:=h
  rfl
 ·obtain⟨f,a,s',ma,ms,l,bv,ns,e,rfl,hm,VH,hB,hv,hR,q⟩:=h;refine⟨_,(aB (aJ (aX (i:=7) Jr.nd rfl (Or.inl rfl) (aN (UT T aC) (hr.mono (by decide)) rfl T.JE T.Ct.kp T.JD .nil aI (aj (ah 5) au))))
   (aB (aJ (c8 (aN (Vs T aC) (hr.mono (by decide)) rfl T.JC T.Cs.kp T.JB .nil aI (aj (ah 0) (aj (bI dh rfl T.cz boot_len (aj (ah 1) au)) (aj (ah 2) (aj (ah 3) (aj (ah 4) (aj (ah 7) au)))))))))
   (aB (aJ (d9 PassesOwn.never rfl (Nx (ah 1)) (bE (i:=8) Jr.nd rfl (Or.inl rfl))
   (aK (c8 (aN (pS T aC) (hr.mono (by decide)) rfl T.oH T.mW.kp T.oG .nil aI (aj (ah 8) (aj aq (aj (fh (v:=.int 1000000000) rfl T.UE ⟨_,rfl⟩) (aj cT au)))))))))
   (aK (bO (nF T.CH (K9 T aC) (hr.mono (by decide)) rfl T.CI T.Cr .nil aI (aj cT (aj (ah 0) (aj (bI dh rfl T.cz boot_len (aj (ah 1) au)) (aj (l8 y_ rfl T.rm boot_tuple (aj (ah 1) au)) (aj (ah 2) (aj (ah 3) (aj (ah 4) (aj (ah 7) (aj (ah 6) au))))))))))))))),?_⟩
  refine aL λNa ka=>?_;walk_at "rdt";refine⟨_,ns,rfl,hv,λb H1 s1 hb=>ka _ _ ?_⟩;refine aL λNb kb=>?_;walk_at "rdd";refine⟨_,.inr (bg.of (s1 _ _ hm)),?_⟩;simp only[length_map];refine⟨_,_,_,_,_,_,ns,rfl,hB,bg.of hb,hR,kb _ _ ?_⟩;refine aL λNc kc=>?_;have mG:=bg.of (K:=K) (s1 _ _ hm);refine rt ma (ms.map V.int) (λi σ H'=>∃x,σ = [some (.int f),some (.ref ma),some (.int a),some (.int s'),some (mz l),some bv,some (.bl e),some (.ref b),x]/\H' = H1) (λQ q=>q) mG ⟨none,rfl,rfl⟩ (by rintro i σ H' _ ⟨x,rfl,rfl⟩;exact mG) ?_ ?_
  ·rintro i x σ H' N hN hx ⟨x0,rfl,rfl⟩;obtain⟨n,hn,rfl⟩:=fT hx;walk_at "rdd";exact⟨n,0,1000000000,_,rfl,(VH n (get_mem hn)).1,(VH n (get_mem hn)).2,hN _ _ ⟨_,rfl,rfl⟩⟩
  ·rintro σ H' ⟨x0,rfl,rfl⟩;refine kc _ _ ?_;walk_at "rdt";refine⟨_,.inr mG,_,.inr ⟨mG,?_⟩⟩;intro x dx nx gX dJ;refine⟨x,dx,_,_,_,_,_,_,_,_,_,rfl,aD,rfl,?_⟩;simp only[length_map];obtain⟨a1,a2,a3⟩:=GL (K:=K) (C:=A.bJ) (q:=⟨"write",f,ms.length,ms,a,s',l,ns,e⟩) s1 nx gX dJ (s1 _ _ hm) hb;exact q _ _ _ _ _ a1 a2 a3
theorem Lw(T:Tx K mg A)(aC:bF mg base A.bw A.br):bq P w K mg base bx 4 A.A7 A.A8 ["self", "plate", "number", "ask"] (acE K [A.bQ,A.bK] A.bJ A.cg):=by
 refine T.SQ.ok aeB (λvs H Q E h=>?_) (λaV Ar outer s H vs Q E hr h=>?_)
 ·obtain⟨C,p,pl,ap,dx,n,P,fp,q',m,b,aR,rfl,_⟩:=h
  rfl
 ·obtain⟨C,p,pl,ap,dx,n,P,fp,q',m,b,aR,rfl,hp,hC,hP,cU,m_,ha,hf,hn,q⟩:=h;refine⟨_,(aB (eG (ah 0) (ah 2) rfl)
   (aB (eG (ah 0) (ah 3) rfl)
   (aK (eG (ah 0) (aN (afA T aC) (hr.mono (by decide)) rfl T.SO T.JJ.kp T.SN .nil aI (aj (ah 1) (aj (ah 2) (aj (ah 3) au)))) rfl)))),?_⟩
  wp_walk using T,hp;have xB:ap≠p:=λe=>by
   have:=ha.o;rw[e,hp] at this;simp[mC] at this
  have nm:m≠p:=λe=>by have:=ha.ms;rw[e,hp] at this;cases this
  have nb:b≠p:=λe=>by have:=ha.bh;rw[e,hp] at this;cases this
  have VI:eK K C (upd H p (HO.ins A.cg dx [("number",V.int n),("ask",V.ref ap)])) pl P fp:=hP.keep (aF (Ne.symm cU)) λb hb=>aF (λe=>m_ (e▸hb));have Lx:ia K A.bJ (upd H p (HO.ins A.cg dx [("number",V.int n),("ask",V.ref ap)])) ap q' m b aR:=⟨(aF xB).trans ha.o,(aF nm).trans ha.ms,(aF nb).trans ha.bh⟩;have sb:SameBut p H (upd H p (HO.ins A.cg dx [("number",V.int n),("ask",V.ref ap)])):=(SameBut.of (ao.refl H)).put;have rA:upd H p (HO.ins A.cg dx [("number",V.int n),("ask",V.ref ap)]) p=some (HO.ins A.cg dx [("number",V.int n),("ask",V.ref ap)]):=aD;generalize upd H p (HO.ins A.cg dx [("number",V.int n),("ask",V.ref ap)])=H1 at VI Lx sb rA ⊢;refine⟨C,pl,ap,n,P,fp,q',m,b,aR,rfl,hC,VI,Lx,hf,hn,λl ts H2 s2 nl hz=>⟨_,_,_,s2 _ _ rA,T.Uv,T.CM,by simp,?_⟩⟩
  have Ly:=Lx.same s2;have tZ:l≠p:=bX rA nl |>.symm
  have Dy:H l=none:=by
   cases e:H l with
   | none=>rfl
   | some o =>
    have:=sb l o e tZ;rw[nl] at this;cases this
  refine q l ts _ Dy (sb.step s2).put ⟨aD,⟨(aF xB).trans Ly.o,(aF nm).trans Ly.ms,(aF nb).trans Ly.bh⟩,hz.keep (aF tZ) λt ht=>aF λe=>?_⟩
  obtain⟨i,hi,et⟩:=mem_iff_getElem.mp ht;have dD:i<(pD P.nc q'.first q'.many).length:=by rw[← hz.n];exact hi
  have:=hz.t i t _ (by rw[← et];exact getElem?_eq_getElem hi) (getElem?_eq_getElem dD)
  rw[e,s2 _ _ rA] at this;cases this
theorem afH(T:Tx K mg A)(aC:bF mg base A.bw A.br):bq P w K mg base bx 4 A.BE A.BF ["self", "zones", "lap", "skew", "swing", "spares", "bad"] (ab_ K A.bK A.br (oh gr) (oq "nearest_rings")):=by
 refine T.TJ.ok wB (λvs H Q E h=>?_) (λaV Ar outer s H vs Q E hr h=>?_)
 ·obtain⟨p,dx,za,sa,ba,iM,eL,z,bz,aP,cK,s,sw,rfl,_⟩:=h
  rfl
 ·obtain⟨p,dx,za,sa,ba,iM,eL,z,bz,aP,cK,s,sw,rfl,cp,nm,hp,hz,ok,h1,h2,h3,h4,hd,hS,so,xC,Vv,bnd,bin,c64,lC,oz,tab,en,q⟩:=h;refine⟨_,(aB (aJ (c8 (aaL rfl T.KS T.Uu (Vt T aC) (hr.mono (by decide)) T.JT .nil aI (aj (ah 0) (aj (ah 1) (aj (ah 2) (aj (ah 3) (aj (ah 4) au))))))))
   (aB (aJ (c8 (aN (afg T aC) (hr.mono (by decide)) rfl T.Tn T.JU.kp T.Tj .nil aI (aj (ah 5) (aj (cW (ah 0) rfl) au)))))
   (aB (aJ (aX (i:=7) wB.nd rfl (Or.inl rfl) (aN (afs T aC) (hr.mono (by decide)) rfl T.Tp T.JV.kp T.To .nil aI (aj (ah 0) (aj (ah 6) au)))))
   (aB (aJ (eG (ah 0) (aN (UU T aC) (hr.mono (by decide)) rfl T.JQ T.Cw.kp T.JP .nil aI (aj (cW (ah 0) rfl) (aj (ah 5) au))) rfl))
   (aB (aJ (eG (ah 0) (aN (afC T aC) (hr.mono (by decide)) rfl T.TF T.JZ.kp T.Tz .nil aI (aj (cW (ah 0) rfl) (aj (ah 5) (aj (cW (ah 0) rfl) (aj (ah 7) au))))) rfl))
   (aB (aJ (d9 PassesOwn.never rfl (fj (cW (ah 0) rfl)) (kM rfl (eF (bE (i:=8) wB.nd rfl (Or.inl rfl)) (eF (bE (i:=9) wB.nd rfl (Or.inl rfl)) (eF (bE (i:=10) wB.nd rfl (Or.inl rfl)) jF))))
   (aK (rQ (ah 10) (ux (cW (ah 0) rfl) (ah 8) set_list)))))
   (aK (eG (ah 0) (aN (UX T aC) (hr.mono (by decide)) rfl T.JS T.Cy.kp T.JR .nil aI (aj (cW (ah 0) rfl) au)) rfl)))))))),?_⟩
  refine aL λN1 k1=>?_;walk_at "rdd";refine⟨_,p,dx,za,sa,iM,z,aP,cK,sw,rfl,cp,hp,hz,ok,h1,h2,h3,h4,hd,hS,so,λH1 pY a1 a2 a3 a4 ts sb nf rA hA=>k1 _ _ ?_⟩;have cl:=u5 z λp hp=>(ok.r p hp).1;have afB:=ok.zu;have c2:=ok.s2;have cm:∀c∈counts z,0<=c/\c<=60:=λc hc=>by
   obtain⟨y,hy,rfl⟩:=Gv hc;have:=ok.r y hy;lia
  have VJ:∀c∈counts z,0<=c/\c<=1000:=λc hc=>by have:=cm c hc;lia
  have dI:0<(counts z).length:=by lia
  have s60:s<60:=by
   have:=oz _ (getElem_mem dI);have:=cm _ (getElem_mem dI);lia
  have lO:∀ {a:Addr} {o:HO},H a=some o->(∀C d f,o≠.ins C d f)->a≠p:=λe n z=>n _ _ _ (by rw[z,hp] at e;exact(Option.some.inj e).symm)
  have ba1:Zn H1 ba eL bz:=⟨sb _ _ xC.l (lO xC.l (by intro _ _ _ z;cases z)),xC.n,λi t x e1 e2=>sb _ _ (xC.t i t x e1 e2) (lO (xC.t i t x e1 e2) (by intro _ _ _ z;cases z))⟩
  have pP:A.br≠p:=(tab.ne hp (by intro _ z;cases z)).symm
  have afI:cu A.br (oh gr) (oq "nearest_rings") H1:=by
   obtain⟨ps,e',k,c⟩:=tab;refine⟨ps,sb _ _ e' pP,k,?_⟩;rcases c with c | ⟨c',c1,c2⟩
   ·exact .inl c
   ·exact .inr ⟨c',c1,sb _ _ c2 (lO c2 (by intro _ _ _ z;cases z))⟩
  refine aL λN2 k2=>?_;wp_walk using hA.o,hA.f1,hA.f2,hA.f3,hA.f4,hA.f5,hA.f6,hA.m1,hA.m2,hA.m3,hA.m4,hA.m5,hA.m6,hA.m7,hA.m8,hA.m9,hA.sy,hA.sD,hA.cp.cl,hA.cp.n1,hA.cp.n2,hA.cp.n3,hA.cp.n4,hA.cp.n5,hA.cp.n6;refine⟨a1,counts z,s,rfl,aE.of hA.rc,∅,lC,oz,k2 _ _ ?_⟩
  refine aL λN3 k3=>?_;walk_at "rdd";refine⟨_,p,ba,_,_,eL,bz,rfl,by simp,⟨pY,a1,a2,a3,a4,ts,_,rfl,hA⟩,ba1,∅,bnd,bin,λd H2 s2 nd e2=>k3 _ _ ?_⟩
  have cR:=hA.move (H':=H2) (by rw[hA.o];exact s2 _ _ hA.o) (by rw[hA.rc];exact s2 _ _ hA.rc) (by rw[hA.sw];exact s2 _ _ hA.sw) (by rw[hA.nc.l];exact s2 _ _ hA.nc.l) (by rw[hA.cn];exact s2 _ _ hA.cn) (λt ht=>by obtain⟨o,e⟩:=hA.nc.has ht;rw[e];exact s2 _ _ e)
  refine aL λN4 k4=>?_;wp_walk using cR.o,cR.f1,cR.f2,cR.f3,cR.f4,cR.f5,cR.f6,cR.m1,cR.m2,cR.m3,cR.m4,cR.m5,cR.m6,cR.m7,cR.m8,cR.m9,cR.sy,cR.sD,cR.cp.cl,cR.cp.n1,cR.cp.n2,cR.cp.n3,cR.cp.n4,cR.cp.n5,cR.cp.n6;refine⟨a1,counts z,s,rfl,aE.of cR.rc,∅,VJ,lC,?_,λl3 t3 H3 s3 n3 VL z3=>?_⟩
  ·have:=oz _ (getElem_mem dI);have:=cm _ (getElem_mem dI);lia
  have o3:=s3 _ _ cR.o;wp_walk using o3,qF,cp.cl,cp.n1,cp.n5,nm;have rF:l3≠p:=(bX cR.o n3).symm;have xE:∀t∈t3,t≠p:=λt ht=>(bX cR.o (VL t ht)).symm;have pd:d≠p:=(bX hA.o nd).symm;have DG:a1≠p:=iD cR.rc cR.o (by intro z;cases z)
  have Lz:a2≠p:=iD cR.sw cR.o (by intro z;cases z)
  have pW:SameBut p H H3:=(sb.step s2).step s3;have VM:=afI.same (s2.trans s3);have zl:(cE (counts z) s).length<=1000000:=by
   have:=zw (s:=s) lC (counts z) 0 VJ;have e:(counts z).length<=120:=by lia
   unfold cE;lia
  have sU:zO (bz.map kT):=ab0 (λx hx=>by
   obtain⟨b1,b2,b3,b4⟩:=bin x hx;have hi:x.1.toNat<(counts z).length:=by lia
   rw[show (counts z).getD x.1.toNat 0=(counts z)[x.1.toNat] by simp[hi]] at b4
   have:=cm _ (getElem_mem hi);lia) bnd
  refine k4 _ _ ?_;refine aL λN5 kk5=>?_;wp_walk using o3,qF,cp.cl,cp.n1,cp.n5,nm;refine⟨a1,l3,d,s,counts z,t3,_,bz,rfl,aE.of ((aF DG).trans (s3 _ _ cR.rc)),∅,c64,lC,∅,λc hc=>by have:=oz c hc;have:=cm c hc;lia,z3.keep (aF rF) (λt ht=>aF (xE t ht)),zl,(aF pd).trans (s3 _ _ e2),sU,Vv,VM.put o3,en,λmv us os ms H5 k5 DH VN hL hM=>?_⟩
  have xF:mv≠p:=(bX aD DH).symm;have afJ:H3 mv=none:=by rw[aF xF] at DH;exact DH
  have xG:=VM.put (o:=HO.ins A.bK pY [(Str.ofString "ring_cells",V.ref a1),(Str.ofString "lap",V.int aP),(Str.ofString "skew",V.int cK),(Str.ofString "swing",V.ref a2),(Str.ofString "number_cells",V.ref l3),(Str.ofString "cell_numbers",V.ref a4)]) o3;have p5:=k5.get xG aD;wp_walk using p5,cp.cl,nm;refine kk5 _ _ ?_;refine aL λN6 kk6=>?_;refine Gy ?_;wp_walk using cp.cl,nm;have zU:=z3.keep (H':=upd H3 p (HO.ins A.bK pY [(Str.ofString "ring_cells",V.ref a1),(Str.ofString "lap",V.int aP),(Str.ofString "skew",V.int cK),(Str.ofString "swing",V.ref a2),(Str.ofString "number_cells",V.ref l3),(Str.ofString "cell_numbers",V.ref a4)])) (aF rF) (λt ht=>aF (xE t ht));have z5:Zn H5 l3 t3 _:=⟨k5.get xG zU.l,zU.n,λi t x e1 e2=>k5.get xG (zU.t i t x e1 e2)⟩;have LA:mv≠l3:=(bX zU.l DH).symm;generalize e6:upd H5 p (HO.ins A.bK pY [(Str.ofString "ring_cells",V.ref a1),(Str.ofString "lap",V.int aP),(Str.ofString "skew",V.int cK),(Str.ofString "swing",V.ref a2),(Str.ofString "number_cells",V.ref l3),(Str.ofString "cell_numbers",V.ref a4),(Str.ofString "moves",V.ref mv)])=H6;have p6:H6 p=some (HO.ins A.bK pY [(Str.ofString "ring_cells",V.ref a1),(Str.ofString "lap",V.int aP),(Str.ofString "skew",V.int cK),(Str.ofString "swing",V.ref a2),(Str.ofString "number_cells",V.ref l3),(Str.ofString "cell_numbers",V.ref a4),(Str.ofString "moves",V.ref mv)]):=by rw[← e6];exact aD
  have o6:∀b,b≠p->H6 b=H5 b:=λb hb=>by rw[← e6];exact aF hb
  have VO:cu A.br (oh gr) (oq "nearest_rings") H6:=by rw[← e6];exact k5.t.put p5
  have M6:ir H6 mv t3 us os ms:=⟨(o6 mv xF).trans hM.l,hM.n,hM.no,λi u m e1 e2=>by
   obtain⟨tc,to,x,a,b,c,d⟩:=hM.t i u m e1 e2;exact⟨tc,to,x,(o6 _ (iD a p5 (by intro z;cases z))).trans a,b,(o6 _ (iD c p5 (by intro z;cases z))).trans c,(o6 _ (iD d p5 (by intro z;cases z))).trans d⟩⟩
  have z6:=z5.keep (o6 l3 rF) (λt ht=>o6 t (xE t ht));refine su.by mv (us.map V.ref) (λi σ H'=>∃x y w lP,σ = [some (V.ref p),some (V.ref za),some (V.int aP),some (V.int cK),some (V.ref sa),some (V.int s),some (V.ref ba),some (V.ref d),x,y,w]/\(∀b,b≠l3->H' b=H6 b)/\Zn H' l3 lP (gG (cE (counts z) s) (ms.take i))/\∀t∈lP,t∈t3\/t∈os)
   (aE.of M6.l) ⟨none,none,none,t3,rfl,λ_ _=>rfl,z6,λt ht=>.inl ht⟩ (by rintro i σ H' _ ⟨x,y,w,lP,rfl,hb,_⟩;exact aE.of ((hb mv LA).trans M6.l)) ?_ ?_
  ·rintro i x σ H' N hN hx ⟨x0,y0,w0,lP,rfl,hb,fc,ji⟩;obtain⟨u,ue,rfl⟩:=fT hx;have hi:i<ms.length:=by rw[← M6.n];exact e8 ue
   obtain⟨m,hm⟩:∃m,ms[i]? = some m:=⟨_,getElem?_eq_getElem hi⟩;obtain⟨tc,to,ho,ea,eb,ec,ed⟩:=M6.t i u m ue hm;have DI:∀ {a:Addr} {xs:List V},H6 a=some (.tup xs)->H' a=some (.tup xs):=λ{a xs} e=>(hb a (iD e z6.l (by intro z;cases z))).trans e
   refine⟨u,[.int (m.1:Int),.ref tc,.ref to],rfl,bg.of (DI ea),rfl,_,_,rfl,_,_,rfl,_,_,rfl,rfl,?_⟩;wp_walk using(hb p rF.symm).trans p6,cp.cl,cp.n5;have hml:m.1<lP.length:=by rw[fc.n,sV,← z6.n];exact e8 eb
   refine⟨_,fc.l,m.1,QB (by rw[length_map];exact hml),?_⟩
   rw[← List.map_set];refine hN _ _ ⟨_,_,_,lP.set m.1 to,rfl,λb h=>by rw[aF h];exact hb b h,?_,?_⟩
   ·rw[take_succ_get hm,QC];exact fc.setAt (DI ed)
   ·intro t ht;rcases List.mem_or_eq_of_mem_set ht with h | h
    ·exact ji t h
    ·rw[h];exact .inr (get_mem ho)
  ·rintro σ H' ⟨x,y,w,lP,rfl,hb,fc,ji⟩;rw[length_map,M6.n,take_length] at fc;have DJ:=(hb p rF.symm).trans p6;refine kk6 _ _ ?_;wp_walk using DJ,cp.cl,cp.n5,cp.n6;have sO:=VO.keep hb z6.l;refine⟨l3,lP,_,rfl,fc,by rw[sV];exact zl,λcn H7 s7 xH ecn=>?_⟩
   have VP:cn≠p:=(bX DJ xH).symm;wp_walk using s7 _ _ DJ,cp.cl,cp.n6;have fresh:∀b,b≠p->H3 b=none->H b=none:=λb hb e=>by
    cases q':H b with
    | none=>rfl
    | some o=>rw[pW _ _ q' hb] at e;cases e
   have VQ:H l3=none:=by
    cases q':H l3 with
    | none=>rfl
    | some o=>rw[(sb.step s2) _ _ q' rF] at n3;cases n3
   have VR:∀b o,H b=some o->b≠p->b≠A.br->H' b=some o:=λb o e np nP=>by
    rw[hb b (bX e VQ),o6 b np];exact k5.b _ _ ((aF np).trans (pW _ _ e np)) nP
   have a13:a1≠l3:=bX cR.rc n3;have a23:a2≠l3:=bX cR.sw n3;have r7:=s7 _ _ ((hb a1 a13).trans ((o6 a1 DG).trans (k5.get xG ((aF DG).trans (s3 _ _ cR.rc)))));have w7:=s7 _ _ ((hb a2 a23).trans ((o6 a2 Lz).trans (k5.get xG ((aF Lz).trans (s3 _ _ cR.sw)))));have tp:∀t∈lP,t≠p:=λt ht=>by
    obtain⟨o,e⟩:=fc.has ht;rcases ji t ht with h | h
    ·exact xE t h
    ·exact(bX aD (VN t h)).symm
   have DI:∀ {a:Addr} {xs:List V},H6 a=some (.tup xs)->H7 a=some (.tup xs):=λ{a xs} e=>s7 _ _ ((hb a (iD e z6.l (by intro z;cases z))).trans e)
   have LB:∀ {a:Addr} {xs:List V} {o:HO},H6 a=some (.tup xs)->upd H7 p o a=some (.tup xs):=λ{a xs o} e=>(aF (iD e p6 (by intro z;cases z))).trans (DI e)
   refine q _ (a1::a2::l3::cn::lP) mv t3 us os ms (λb o e np nP=>(aF np).trans (s7 _ _ (VR b o e np nP))) ((sO.same s7).put (s7 _ _ DJ)) ?_ hL ⟨pY,a1,a2,l3,cn,lP,[(Str.ofString "ring_cells",V.ref a1),(Str.ofString "lap",V.int aP),(Str.ofString "skew",V.int cK),(Str.ofString "swing",V.ref a2),(Str.ofString "number_cells",V.ref l3),(Str.ofString "cell_numbers",V.ref cn),(Str.ofString "moves",V.ref mv)],rfl,?_,nm,?_,?_⟩ ⟨?_,M6.n,M6.no,λi u m e1 e2=>?_⟩
   ·intro b eX;simp only[mem_cons] at eX;rcases eX with rfl | rfl | rfl | rfl | rfl | eX
    ·exact fresh _ xF afJ
    ·exact nf _ (by simp)
    ·exact nf _ (by simp)
    ·exact VQ
    ·cases q':H b with
     | none=>rfl
     | some o =>
      by_cases nP:b=A.br
      ·obtain⟨ps,e',_⟩:=sO;rw[nP,e'] at xH;cases xH
      ·rw[VR _ _ q' VP nP] at xH;cases xH
    ·rcases ji b eX with h | h
     ·have:=VL b h;cases q':H b with
      | none=>rfl
      | some o=>rw[(sb.step s2) _ _ q' (xE b h)] at this;cases this
     ·have np:=tp b eX;have:=VN b h;rw[aF np] at this;exact fresh b np this
   ·refine⟨cp,aD,?_,?_,?_,?_,?_,?_,?_,?_,?_,?_,?_,?_,?_,?_,?_,?_,?_,?_,?_,?_,?_⟩
    rotate_left 17
    ·exact(aF DG).trans r7
    ·exact(aF Lz).trans w7
    ·exact(fc.same s7).keep (aF rF) (λt ht=>aF (tp t ht))
    ·exact(aF VP).trans ecn
    all_goals simp[lookup_cons,pe]
   ·simp[lookup_cons,pe]
   ·exact(aF xF).trans (s7 _ _ ((hb mv LA).trans M6.l))
   ·exact(aF xF).trans (s7 _ _ ((hb mv LA).trans M6.l))
   ·obtain⟨tc,to,x,a,b,c,d⟩:=M6.t i u m e1 e2;exact⟨tc,to,x,LB a,b,LB c,LB d⟩
theorem afK(T:Tx K mg A)(aC:bF mg base A.bw A.br):bq P w K mg base bx 4 A.B4 A.B5 ["_law_script", "_law_at", "_law_many", "_law_world", "_law_askers_here"] (ael K):=by
 refine T.Kd.ok q9 (λvs H Q E h=>?_) (λaV Ar outer s H vs Q E hr h=>?_)
 ·obtain⟨sc,t,aa,ns,at_,many,rc,aP,sk,sw,ca,sa,na,eE,nc,as,rfl,_⟩:=h
  rfl
 ·obtain⟨sc,t,aa,ns,at_,many,rc,aP,sk,sw,ca,sa,na,eE,nc,as,rfl,hS,fX,t0,t1,m0,m1,hw,n1,nM,l1,l2,ha,a1,ng,q⟩:=h;refine⟨_,(aB (aJ (aX (i:=5) q9.nd rfl (Or.inl rfl) (dH au)))
   (aB (aJ (aX (i:=6) q9.nd rfl (Or.inl rfl) (aH qj (l8 QL rfl T.tR boot_int (aj (uD lZ (aN (bW T aC) (hr.mono (by decide)) rfl T.bV T.bR.kp T.bU .nil aI (aj (aN (jx T aC) (hr.mono (by decide)) rfl T.iY T.iA.kp T.iX .nil aI (aj (ah 0) (aj (ah 1) au))) (aj aq (aj aq au)))) aq (bA _)) au)) (aH kr (aN (jx T aC) (hr.mono (by decide)) rfl T.iY T.iA.kp T.iX .nil aI (aj (ah 0) (aj (ah 1) au))) (aH iS aq (aH ql aq aq))))))
   (aB (d9 PassesOwn.never rfl (iH rfl T.e7 (aj (ah 2) au)) (bE (i:=7) q9.nd rfl (Or.inl rfl))
   (aB (aJ (aX (i:=8) q9.nd rfl (Or.inl rfl) (aN (jx T aC) (hr.mono (by decide)) rfl T.iY T.iA.kp T.iX .nil aI (aj (ah 0) (aj (aH b_ (ah 1) (ah 7)) au)))))
   (aB (aJ (aX (i:=9) q9.nd rfl (Or.inl rfl) (dH (aj aq (aj aq (aj (aN (bW T aC) (hr.mono (by decide)) rfl T.bV T.bR.kp T.bU .nil aI (aj (ah 8) (aj aq (aj aq au)))) (aj (aN (bW T aC) (hr.mono (by decide)) rfl T.bV T.bR.kp T.bU .nil aI (aj (ah 8) (aj aq (aj (aH jc (aU e_ (ah 3) aq (λ_ _=>rfl)) aq) au)))) au)))))))
   (aB (aJ (aX (i:=6) q9.nd rfl (Or.inl rfl) (aH jc (ah 6) (aU cX (ah 9) (aN (bW T aC) (hr.mono (by decide)) rfl T.bV T.bR.kp T.bU .nil aI (aj (ah 8) (aj aq (aj aq au)))) (λ_ _=>rfl)))))
   (aK (c8 (jI plainAttrs_list PySem.F.slot_list_append PySem.F.type_list_append kQ (ah 5) (aj (aN (afE T aC) (hr.mono (by decide)) rfl T.T9 T.Kc.kp T.T8 .nil aI (aj (ah 8) (aj (ah 5) (aj (ah 6) (aj (ah 3) (aj (ah 4) au)))))) au))))))))
   (aK (bO (ah 5)))))),?_⟩
  refine aL λNa ka=>?_;wp_walk using bu,cV;intro l nl;refine ka _ _ ?_;have s0:=ao.put (o:=.lst []) nl;have u_:=s0.seq hS;have e0:=emod_nonneg (gm ns at_) (show (900000000000:Int)≠0 by decide)
  have e1:=emod_lt_of_pos (gm ns at_) (show (0:Int)<900000000000 by decide)
  refine aL λNb kb=>?_;wp_walk using bu,cV;refine⟨ns,u_,fX,t0,∅,ns,u_,fX,t0,∅,by decide,.inr ⟨∅,∅⟩,kb _ _ ?_⟩
  obtain⟨bt,vc,bt0,bt1⟩:∃bt:Int,(if aQ (gm ns at_) 50 9=0 then 1 else 0)*(gm ns at_ % 900000000000)=bt/\0<=bt/\bt<=900000000000:=by
   refine⟨_,rfl,?_,?_⟩ <;> (split <;> lia)
  rw[vc];clear vc e0 e1;refine u7 many (λi σ H'=>∃(y1 y2 y3:Option V) (be:Int) (ts:List Addr) (qs:List Ak),σ = [some (.ref sc),some (.int at_),some (.int many),some (.ref t),some (.ref aa),some (.ref l),some (.int be),y1,y2,y3]/\ao H H'/\jT H' l ts qs/\qs.length=i/\0<=be/\be<=900000000000+1000000000*(i:Int)/\∀q∈qs,qV nc.length q/\q.at_<=1000000000000/\(q.kind = "rest"\/q.bT∈as)) (λQ q=>?_) ∅ ∅ ⟨none,none,none,bt,[],[],rfl,s0,jT.start,rfl,bt0,∅,λ_ h=>nomatch h⟩ ?_ ?_
  ·walk_at "rdm";exact q
  ·rintro i σ H' N hN hi ⟨y1,y2,y3,be,ts,qs,rfl,s',hq,hn,b0,b1,qk⟩;have i32:(i:Int)<32:=by lia
   have VS:=hw.same s';refine aL λN1 k1=>?_;walk_at "rdd";refine⟨ns,s'.seq hS,fX,∅,∅,k1 _ _ ?_⟩
   generalize gm ns (at_+(i:Int))=c;refine aL λN2 k2=>?_;wp_walk using bu,cV;refine⟨_,bg.of VS.o,_,rfl,aP,rfl,∅,λo1 lN=>k2 _ _ ?_⟩
   have so:=ao.put (o:=.lst [V.int 0,V.int 0,V.int (aQ c 52 9),V.int (aQ c 53 (aP+1))]) lN;have ho:upd H' o1 (.lst [V.int 0,V.int 0,V.int (aQ c 52 9),V.int (aQ c 53 (aP+1))]) o1=some (.lst [V.int 0,V.int 0,V.int (aQ c 52 9),V.int (aQ c 53 (aP+1))]):=aD;generalize upd H' o1 (.lst [V.int 0,V.int 0,V.int (aQ c 52 9),V.int (aQ c 53 (aP+1))])=H2 at so ho ⊢;obtain⟨g,hg,g0,g1⟩:∃g:Int,dW [V.int 0,V.int 0,V.int (aQ c 52 9),V.int (aQ c 53 (aP+1))] (aQ c 51 4)=some (.int g)/\0<=g/\g<=1000000000:=by
    have b:=cy c 51 (m:=4) (by decide)
    have d1:=cy c 52 (m:=9) (by decide)
    have d2:=cy c 53 (m:=aP+1) ∅
    have:aQ c 51 4=0\/aQ c 51 4=1\/aQ c 51 4=2\/aQ c 51 4=3:=by lia
    rcases this with e | e | e | e <;> rw[e]
    ·exact⟨_,rfl,by decide,by decide⟩
    ·exact⟨_,rfl,by decide,by decide⟩
    ·exact⟨_,rfl,∅,∅⟩
    ·exact⟨_,rfl,∅,∅⟩
   have s2:=s'.trans so;have LC:=hq.same so;refine aL λN3 k3=>?_;wp_walk using bu,cV;refine⟨_,aE.of ho,_,hg,g,rfl,k3 _ _ ?_⟩;wp_walk using bu,cV;refine⟨⟨_,aE.of LC.l⟩,c,be+g,l,t,aa,ts,qs,rc,aP,sk,sw,ca,sa,na,eE,nc,as,rfl,LC,∅,VS.same so,n1,nM,l1,l2,s2 _ _ ha,a1,ng,∅,∅,λp q' m b H3 s3 np hp ok ea em=>?_⟩
   have VT:=LC.same s3;refine⟨_,VT.l,by rw[length_map,hq.n,hn];lia,hN _ _ ⟨_,_,_,be+g,ts++[p],qs++[q'],rfl,ao.put2 (s2.trans s3) nl,VT.snoc hp,by simp[hn],∅,∅,λx hx=>?_⟩⟩
   rcases mem_append.mp hx with hx | hx
   ·exact qk x hx
   ·rw[mem_singleton.mp hx];exact⟨ok,by rw[ea];lia,em⟩
  ·rintro σ H' ⟨y1,y2,y3,be,ts,qs,rfl,s',hq,hn,b0,b1,qk⟩;walk_at "rdm";exact q l ts qs H' s' nl hq hn qk
theorem afL(T:Tx K mg A)(aC:bF mg base A.bw A.br):bq P w K mg base bx 4 A.Cf A.Cg ["_law_shares"] aea:=by
 refine T.Kn.ok Aw (λvs H Q E h=>?_) (λaV Ar outer s H vs Q E hr h=>?_)
 ·obtain⟨l,ts,z,rfl,_⟩:=h
  rfl
 ·obtain⟨l,ts,z,rfl,hz,zn,no,q⟩:=h;refine⟨_,(aB (aX (i:=1) Aw.nd rfl (Or.inl rfl) jC)
   (aB (PY rfl rfl (λE=>(PF (abg T.Kz (Vc T aC) (hr.mono (by decide)) rfl T.KA T.Jx .nil (aj (ah 0) au))))
   (PR (i:=2) rfl T.KY T.KZ Aw.nd rfl rfl rfl (λa=>(aK (aX (i:=1) Aw.nd rfl (Or.inl rfl) (RM (U_ T aC) (hr.mono (by decide)) rfl T.Km T.CC.kp T.Kl (aj (ah 2) au))))) PN))
   (aK (bO (ah 1))))),?_⟩
  walk_at "rdd";intro x dx nx gX dJ;have s1:=HS (C:=A.cB) nx gX dJ;refine⟨x,dx,l,ts,z,rfl,aD,hz.same s1,zn,λok=>absurd ok no,λ_ H1 s2=>?_⟩;walk_at "rdd";refine⟨A.bN,rfl,T.K4,λa' ha=>.inl ⟨T.K6,?_⟩⟩;exact⟨a',rfl,aD,λH' s3=>q H' ((s1.trans s2).trans ((ao.put ha).trans s3))⟩
theorem VU(T:Tx K mg A)(aC:bF mg base A.bw A.br):bq P w K mg base bx 5 A.B6 A.B7 ["_law_ask_here"] (ads K A.bJ):=by
 refine T.CB.ok aeL (λvs H Q E h=>?_) (λaV Ar outer s H vs Q E hr h=>?_)
 ·obtain⟨t,q',m,b,total,rfl,_⟩:=h
  rfl
 ·obtain⟨t,q',m,b,total,rfl,ht,ok,tM,aM,q⟩:=h;refine⟨_,(aB (aJ (dR (dG lZ (aU e_ (ah 0) aq (λ_ _=>rfl)) cT (bA _)) (aK (bO (aN (afz T aC) (hr.mono (by decide)) rfl T.SJ T.JH.kp T.SI .nil aI (aj (aU e_ (ah 0) aq (λ_ _=>rfl)) au)))) bY))
   (aB (aJ (dR (dG lZ (aU e_ (ah 0) aq (λ_ _=>rfl)) cT (bA _)) (aK (bO (aN (VG T aC) (hr.mono (by decide)) rfl T.JF T.Cu.kp T.SE .nil aI (aj (aU e_ (ah 0) aq (λ_ _=>rfl)) (aj (aU e_ (ah 0) aq (λ_ _=>rfl)) (aj (aU e_ (ah 0) aq (λ_ _=>rfl)) (aj (aU e_ (ah 0) aq (λ_ _=>rfl)) (aj (aU e_ (ah 0) aq (λ_ _=>rfl)) (aj (aU e_ (ah 0) aq (λ_ _=>rfl)) au))))))))) bY))
   (aK (bO (aN (afG T aC) (hr.mono (by decide)) rfl T.SH T.JG.kp T.SG .nil aI (aj (aU e_ (ah 0) aq (λ_ _=>rfl)) (aj (aU e_ (ah 0) aq (λ_ _=>rfl)) (aj (aU e_ (ah 0) aq (λ_ _=>rfl)) (aj (aU e_ (ah 0) aq (λ_ _=>rfl)) (aj (aU e_ (ah 0) aq (λ_ _=>rfl)) (aj (aU e_ (ah 0) aq (λ_ _=>rfl)) (aj (aU e_ (ah 0) aq (λ_ _=>rfl)) au)))))))))))),?_⟩
  have k1:=bg.of (K:=K) ht.o;have hB:q'.kind≠"rest"->zA q'.first q'.many q'.at_ q'.bT q'.pB:=λh=>by
   have:=ok.f0 h;exact⟨this.1,∅,this.2.1,this.2.2.1,ok.a0,aM,ok.s0.1,ok.s0.2,ok.l0⟩
  refine aL λNa ka=>?_;walk_at "rdm";refine⟨_,k1,_,rfl,rfl,cj (λh1=>?_) λh1=>ka _ _ ?_⟩
  ·have h1:q'.kind = "rest" := V.str.inj h1;refine⟨_,k1,_,rfl,q'.at_,rfl,ok.a0,aM,λp mk bb dx H' s np ha=>q p mk bb dx H' s np ?_⟩;rw[ok.r h1];exact ha
  ·refine aL λNb kb=>?_;walk_at "rdm";refine⟨_,k1,_,rfl,rfl,cj (λh2=>?_) λh2=>kb _ _ ?_⟩
   ·have h2:q'.kind = "read" := V.str.inj h2;have h1:q'.kind≠"rest" := λz=>h1 (by rw[z])
    refine⟨_,k1,_,rfl,_,k1,_,rfl,_,k1,_,rfl,_,k1,_,rfl,_,k1,_,rfl,_,k1,_,rfl,q'.first,q'.many,q'.at_,q'.bT,q'.pB,_,q'.behind,rfl,hB h1,.inr ⟨b,rfl,.inr ht.bh⟩,ok.b0,λp mk bb dx H' s np ha=>q p mk bb dx H' s np ?_⟩;obtain⟨e1,e2⟩:=ok.mr h2;have:q' = ⟨"read",q'.first,q'.many,[],q'.at_,q'.bT,q'.pB,q'.behind,false⟩:=by
     cases q';simp only at h2 e1 e2;rw[h2,e1,e2]
    rw[this];exact ha
   ·have h1:q'.kind≠"rest" := λz=>h1 (by rw[z])
    have h2:q'.kind≠"read" := λz=>h2 (by rw[z])
    have h3:q'.kind = "write" := by
     rcases ok.k with z | z | z
     ·exact absurd z h1
     ·exact absurd z h2
     ·exact z
    have ml:=ok.mw h3;walk_at "rdd";refine⟨_,k1,_,rfl,_,k1,_,rfl,_,k1,_,rfl,_,k1,_,rfl,_,k1,_,rfl,_,k1,_,rfl,_,k1,_,rfl,q'.first,q'.at_,q'.bT,m,q'.marks,q'.pB,_,q'.behind,q'.early,rfl,ht.ms,ok.m0,by rw[ml];exact hB h1,.inr ⟨b,rfl,.inr ht.bh⟩,ok.b0,λp mk bb dx H' s np ha=>q p mk bb dx H' s np ?_⟩
    have:q' = ⟨"write",q'.first,q'.marks.length,q'.marks,q'.at_,q'.bT,q'.pB,q'.behind,q'.early⟩:=by
     cases q';simp only at h3 ml;rw[h3,ml]
    rw[this];exact ha
theorem afM(T:Tx K mg A)(aC:bF mg base A.bw A.br):bq P w K mg base bx 6 A.BU A.BV ["_law_script"] (adE K [A.bQ,A.bK] A.br (oh gr) (oq "nearest_rings")):=by
 refine T.J8.ok gZ (λvs H Q E h=>?_) (λaV Ar outer s H vs Q E hr h=>?_)
 ·obtain⟨sc,ns,rfl,_⟩:=h
  rfl
 ·obtain⟨sc,ns,rfl,hS,fX,T0,q⟩:=h;have hu:=kX hr;refine⟨_,(aB (aJ (aX (i:=1) gZ.nd rfl (Or.inl rfl) (aN (afv T aC) (hr.mono (by decide)) rfl T.TU T.J5.kp T.TR .nil aI (aj (aN (jx T aC) (hr.mono (by decide)) rfl T.iY T.iA.kp T.iX .nil aI (aj (ah 0) (aj aq au))) au))))
   (aB (aJ (aX (i:=2) gZ.nd rfl (Or.inl rfl) (aN (jx T aC) (hr.mono (by decide)) rfl T.iY T.iA.kp T.iX .nil aI (aj (ah 0) (aj aq au)))))
   (aB (aJ (aX (i:=3) gZ.nd rfl (Or.inl rfl) aq))
   (aB (aJ (aX (i:=4) gZ.nd rfl (Or.inl rfl) (dH au)))
   (aB (d9 PassesOwn.never rfl (fj (ah 1)) (kM rfl (eF (bE (i:=5) gZ.nd rfl (Or.inl rfl)) (eF (bE (i:=6) gZ.nd rfl (Or.inl rfl)) jF)))
   (aB (aX (i:=3) gZ.nd rfl (Or.inl rfl) (aH iS (ah 3) (ah 6)))
   (aK (aX (i:=4) gZ.nd rfl (Or.inl rfl) (aH qx (ah 4) (aH Ow (dH (aj (ah 6) au)) (ah 5)))))))
   (aB (aJ (aX (i:=7) gZ.nd rfl (Or.inl rfl) (aH iS (ah 3) (aH b_ aq (aN (bW T aC) (hr.mono (by decide)) rfl T.bV T.bR.kp T.bU .nil aI (aj (ah 2) (aj aq (aj aq au))))))))
   (aB (aJ (gH (fG (cM pK (aN (bW T aC) (hr.mono (by decide)) rfl T.bV T.bR.kp T.bU .nil aI (aj (ah 2) (aj aq (aj aq au)))) aq (bA _)) (aK (aX (i:=7) gZ.nd rfl (Or.inl rfl) (aH iS (ah 3) (aH b_ aq (aH kr (ah 2) (aH H_ (aH ql aq aq) (ah 3))))))) bY)))
   (aB (aJ (aX (i:=8) gZ.nd rfl (Or.inl rfl) (aH kr (aN (jx T aC) (hr.mono (by decide)) rfl T.iY T.iA.kp T.iX .nil aI (aj (ah 0) (aj aq au))) (ah 7))))
   (aB (aJ (aX (i:=9) gZ.nd rfl (Or.inl rfl) (aN (afu T aC) (hr.mono (by decide)) rfl T.TQ T.J0.kp T.TM .nil aI (aj (aN (jx T aC) (hr.mono (by decide)) rfl T.iY T.iA.kp T.iX .nil aI (aj (ah 0) (aj aq au))) (aj (bI dh rfl T.cz boot_len (aj (ah 4) au)) au)))))
   (aB (aJ (aX (i:=10) gZ.nd rfl (Or.inl rfl) (aH qj (aN (bW T aC) (hr.mono (by decide)) rfl T.bV T.bR.kp T.bU .nil aI (aj (ah 2) (aj aq (aj aq au)))) (bI (yJ rfl) rfl T.mX boot_min (aj (aH qi (bI (OX rfl) rfl T.mX boot_min (aj (ah 4) au)) aq) (aj (aH b_ aq (aN (bW T aC) (hr.mono (by decide)) rfl T.bV T.bR.kp T.bU .nil aI (aj (ah 2) (aj aq (aj aq au))))) au))))))
   (aB (aJ (aX (i:=11) gZ.nd rfl (Or.inl rfl) (aN (afw T aC) (hr.mono (by decide)) rfl T.TZ T.J7.kp T.TY .nil aI (aj (aN (jx T aC) (hr.mono (by decide)) rfl T.iY T.iA.kp T.iX .nil aI (aj (ah 0) (aj aq au))) (aj (ah 4) (aj (ah 10) au))))))
   (aB (aJ (aX (i:=12) gZ.nd rfl (Or.inl rfl) (nF T.Uw (Vt T aC) (hr.mono (by decide)) rfl T.KS T.JT .nil aI (aj (ah 1) (aj (ah 7) (aj (ah 8) (aj (ah 9) au)))))))
   (aB (aJ (gH (fG (cM jd (ah 10) aq (bA _)) (aK (aX (i:=12) gZ.nd rfl (Or.inl rfl) (nF T.Ux (afH T aC) (hr.mono (by decide)) rfl T.Uy T.TL .nil aI (aj (ah 1) (aj (ah 7) (aj (ah 8) (aj (ah 9) (aj (ah 10) (aj (l8 Fo rfl T.tT boot_list (aj (ah 11) au)) au))))))))) bY)))
   (aK (bO (cD (aj (ah 12) (aj (cD (aj (ah 4) (aj (ah 7) (aj (ah 8) (aj (ah 9) (aj (aN (afj T aC) (hr.mono (by decide)) rfl T.TX T.J6.kp T.TV .nil aI (aj (ah 4) (aj (ah 10) (aj (ah 11) au)))) au)))))) au)))))))))))))))))),?_⟩
  refine aL λN1 h1=>?_;wp_walk using bu,cV;refine⟨ns,hS,fX,_,rfl,λl ts z H1 s1 nl hz zl=>h1 _ _ ?_⟩;refine aL λN2 h2=>?_;wp_walk using bu,cV;refine⟨ns,s1.seq hS,fX,h2 _ _ ?_⟩;generalize gm ns 1=c;refine aL λN3 h3=>?_;wp_walk using bu,cV;refine h3 _ _ ?_;refine aL λN4 h4=>?_;wp_walk using bu,cV;intro c0 LD;refine h4 _ _ ?_;have bd:∀i,1<=dO (z.take i)/\dO (z.take i)<=777600000:=λi=>by
   have h1:=zx (m:=60) (by decide) (z.take i) λp hp=>(zl.ok.r p (List.mem_of_mem_take hp)).2.2
   have h2:=Pc (m:=60) (by decide) (show (z.take i).length<=5 by have:=zl.ok.l5;rw[length_take];lia)
   have e:(60:Int) ^ 5=777600000:=by decide
   lia
  refine rl l (ts.map V.ref) (λi σ H2=>∃(r d:Option V) (ca:Addr),σ = [some (.ref sc),some (.ref l),some (.int c),some (.int (dO (z.take i))),some (.ref ca),r,d,none,none,none,none,none,none]/\ao H1 H2/\H1 ca=none/\H2 ca=some (.lst ((counts (z.take i)).map V.int))) (λQ q=>q) (hz.same (ao.put LD)).sq ⟨none,none,c0,rfl,ao.put LD,LD,aD⟩ (by rintro i σ H2 _ ⟨r,d,ca,rfl,s2,_⟩;exact(hz.same s2).sq) ?_ ?_
  ·rintro i x σ H2 N hN mZ ⟨r,d,ca,rfl,s2,nca,lK⟩;obtain⟨t,p,rfl,hp,ht⟩:=(hz.same s2).at mZ;refine pq (bg.of ht) rfl ?_;walk_at "rdm";have b:=bd i;have pr:=zl.ok.r p (get_mem hp);have cl:=O6 zl.ok i;refine⟨.inl ⟨∅,∅⟩,λp1 n1=>⟨∅,∅,∅,λp2 n2=>?_⟩⟩
   rw[QW];have sa1:=ao.put (o:=.lst [V.int p.2]) n1;have LF:=sa1.trans (ao.put (o:=.lst ((List.replicate p.1.toNat p.2).map V.int)) n2);refine⟨_,LF _ _ lK,by rw[length_map,length_map,length_replicate];lia,λp3 n3=>hN _ _ ⟨some (.int p.1),some (.int p.2),p3,?_,(s2.trans LF).trans (ao.put n3),(s2.trans LF).free n3,?_⟩⟩
   ·rw[take_succ_get hp,aaK]
   ·rw[aD,acz hp,map_append]
  ·rintro σ H2 ⟨r,d,ca,rfl,s2,nca,lK⟩;rw[lenZ hz.n,take_length] at lK ⊢;have hb:=bd z.length;rw[take_length] at hb;refine aL λN6 h6=>?_;wp_walk using bu,cV;have y7:=cy c 16 (m:=9) (by decide)
   have hq:1<=1000000000 / dO z:=(Int.le_ediv_iff_mul_le ∅).mpr ∅
   have VV:=emod_nonneg c (show 1000000000 / dO z≠0 by lia)
   have VW:=emod_lt_of_pos c (show 0<1000000000 / dO z by lia)
   have w1:=QV zl y7.1 (.inl ∅)
   have w2:=QV zl VV (.inr VW);refine⟨.inl ⟨∅,∅⟩,h6 _ _ ?_⟩
   refine aL λN7 h7=>?_;wp_walk using bu,cV;refine⟨λσ H3=>∃aP,σ = [some (.ref sc),some (.ref l),some (.int c),some (.int (dO z)),some (.ref ca),r,d,some (.int aP),none,none,none,none,none]/\H3=H2/\1<=aP/\aP<=1000000000/\∀p∈z,aP % p.2=0,
    cj (λ_=>?_) (λ_=>⟨_,rfl,rfl,w1.1,w1.2.1,w1.2.2⟩),?_⟩
   ·exact⟨by decide,∅,∅,∅,.inl ⟨∅,∅⟩,_,rfl,rfl,w2.1,w2.2.1,w2.2.2⟩
   ·rintro σ H3 ⟨aP,rfl,rfl,l1,l2,l3⟩;refine h7 _ _ ?_;have cl:=u5 z λp hp=>(zl.ok.r p hp).1;have c15:=zl.sm;have c2:=zl.ok.s2;have cm:∀c∈counts z,1<=c/\c<=60:=λc hc=>by
     obtain⟨y,hy,rfl⟩:=Gv hc;have:=zl.ok.r y hy;lia
    refine aL λN8 h8=>?_;wp_walk using bu,cV;have s12:=s1.trans s2;have oB:=s12.seq hS;refine⟨ns,oB,fX,∅,h8 _ _ ?_⟩
    refine aL λN9 h9=>?_;wp_walk using bu,cV;refine⟨ns,oB,fX,_,.inl (aE.of lK),_,_,rfl,by rw[length_map];lia,by rw[length_map];lia,λsa sw H4 s4 Lh Gk so=>h9 _ _ ?_⟩
    rw[length_map,cl] at so;refine aL λVC Lu=>?_;wp_walk using bu,cV;have k0:=emod_nonneg (gm ns 2) (show aP≠0 by lia)
    have k1:=emod_lt_of_pos (gm ns 2) (show 0<aP by lia)
    have LG:=s4 _ _ lK;refine⟨_,aE.of LG,∅,λM hM UY=>?_⟩
    have hM1:=cm M hM;obtain⟨sp,VX,xJ,spM,gI⟩:∃sp:Int,(aQ c 18 2*if 1+aQ c 19 2<M - 1 then 1+aQ c 19 2 else M - 1)=sp/\0<=sp/\sp<M/\sp<=2:=by
     have d1:=cy c 18 (m:=2) (by decide)
     have d2:=cy c 19 (m:=2) (by decide)
     have:aQ c 18 2=0\/aQ c 18 2=1:=by lia
     rcases this with e | e
     ·rw[e,Int.zero_mul];exact⟨0,rfl,∅,∅,∅⟩
     ·rw[e,one_mul];exact⟨_,rfl,by split <;> lia,by split <;> lia,by split <;> lia⟩
    have d18:=cy c 18 (m:=2) (by decide)
    rw[VX];refine⟨.inl ⟨∅,∅⟩,Lu _ _ ?_⟩
    refine aL λN11 h11=>?_;wp_walk using bu,cV;have LH:∀c∈counts z,sp<c:=λc hc=>Int.lt_of_lt_of_le spM (UY c hc);have gD:∀i:Nat,i<(counts z).length->(counts z).getD i 0∈counts z:=λi hi=>by
     rw[show (counts z).getD i 0=(counts z)[i] by simp[hi]];exact getElem_mem hi
    have ok:QT z aP (gm ns 2 % aP) sw:=⟨zl,l1,l2,l3,k0,k1,so⟩;generalize gm ns 2 % aP=sk at *
    clear VX w1 w2 VV VW y7 hq hb bd;refine⟨ns,s4.seq oB,fX,ca,_,sp,counts z,rfl,LG,∅,∅,xJ,∅,λi hi=>by have:=cm _ (gD i hi);lia,λba eL bz H5 s5 nba nd t_ b6 VY LI=>h11 _ _ ?_⟩
    refine aL λN12 h12=>?_;walk_at "rdd";intro x dx nx gX nxd;have LJ:=(s2.trans s4).trans s5;have T5:=(T0.same s1).same LJ;have lM:=hz.same LJ;have LK:=s5 _ _ Gk;have VZ:=s5 _ _ LG;have mT:=ao.put (o:=.own x) gX;have cU:upd H5 dx (.own x) x=none:=by rw[aF (Ne.symm nxd)];exact nx
    have LL:=mT.trans (ao.put (o:=.ins A.bQ dx []) cU);refine⟨A.bQ,x,dx,l,sa,ts,z,aP,sk,sw,rfl,T.ae1,aD,lM.same LL,zl.ok,ok.l1,ok.l2,ok.k0,ok.k1,ok.l3,aE.of (LL _ _ LK),ok.so,λH6 pY b1 b2 b3 b4 Dz sb nf hp6 hA=>⟨rfl,h12 _ _ ?_⟩⟩;have DK:ao H5 H6:=λb o e=>sb _ _ (LL _ _ e) (bX e nx);refine aL λN13 h13=>?_;wp_walk using bu,cV;refine⟨λσ H7=>∃(C p:Addr) (fp:List Addr) (ms:List (Nat×(Int×Int)×(Int×Int))),σ = [some (.ref sc),some (.ref l),some (.int c),some (.int (dO z)),some (.ref ca),r,d,some (.int aP),some (.int sk),some (.ref sa),some (.int sp),some (.ref ba),some (.ref p)]/\SameBut A.br H5 H7/\C∈[A.bQ,A.bK]/\eK K C H7 p (qR z aP sk sw (gG (cE (counts z) sp) ms)) fp/\jq (counts z) sp (cE (counts z) sp) bz (cH bz 0 (cE (counts z) sp)) ms,cj (λh0=>?_) λh0=>?_,?_⟩
    ·refine⟨_,.inl (LI.same DK).sq,λbl nbl p xK m_ LM ndp=>?_⟩;have z6:=LI.same DK;have V0:=ao.put (o:=.lst (eL.map V.ref)) nbl;have jr:Zn (upd H6 bl (.lst (eL.map V.ref))) bl eL bz:=⟨aD,z6.n,(z6.same V0).t⟩;generalize upd H6 bl (.lst (eL.map V.ref))=H7 at *
     have mT:=ao.put (o:=.own p) LM;have cU:upd H7 xK (.own p) p=none:=by rw[aF (Ne.symm ndp)];exact m_
     have V1:=mT.trans (ao.put (o:=.ins A.bK xK []) cU);have pZ:=DK.trans V0;have DM:=pZ.trans V1;refine⟨p,xK,l,sa,bl,ts,eL,z,bz,aP,sk,sp,sw,rfl,T.ae2,T.C4,aD,lM.same DM,zl.ok,ok.l1,ok.l2,ok.k0,ok.k1,ok.l3,aE.of (DM _ _ LK),ok.so,jr.same V1,∅,nd,t_,∅,xJ,LH,
      T5.same DM,λos r is=>acd xJ VY os r is,λH8 fp mv eT us os ms keep VO nf DN hM hmv=>⟨rfl,?_⟩⟩
     exact⟨A.bK,p,_,ms,rfl,λb o e nP=>keep b o (DM _ _ e) (bX (pZ _ _ e) m_) nP,by simp,hM.aaP,DN⟩
    ·have e0:sp=0:=by lia
     subst e0;have eb:bz = []:=List.length_eq_zero_iff.mp (by simpa using VY)
     subst eb;exact⟨A.bQ,x,_,[],rfl,λb o e _=>DK _ _ e,by simp,⟨pY,b1,b2,b3,b4,Dz,_,rfl,hA⟩,by rw[Rt];exact .nil⟩
    ·rintro σ H7 ⟨C,p,fp,ms,rfl,xM,hC,hP,DN⟩;refine h13 _ _ ?_;have kt:=T5.s_ xM;walk_at "rdm";refine⟨ca,ba,sp,counts z,eL,bz,ms,rfl,kt.lst VZ,LI.kt kt,∅,xJ,λc hc=>⟨by have:=LH c hc;lia,(cm c hc).2⟩,DN,λna eE H8 s8 nna hn=>?_⟩
     intro wt nwt t nt;have s9:=ao.put (o:=.tup [V.ref ca,V.int aP,V.int sk,V.ref sa,V.ref na]) nwt;have DO:=s9.trans (ao.put (o:=.tup [V.ref p,V.ref wt]) nt);have sA:=s8.trans DO;have afN:SameBut A.br H (upd (upd H8 wt (.tup [V.ref ca,V.int aP,V.int sk,V.ref sa,V.ref na])) t (.tup [V.ref p,V.ref wt])):=λb o e nP=>sA _ _ (xM _ _ (LJ _ _ (s1 _ _ e)) nP);exact q t C p wt z aP sk sw ca sa na eE _ fp _ afN aD hC (hP.same sA) ok (acA ∅ ∅ (λc hc=>⟨LH c hc,(cm c hc).2⟩) xJ DN) ⟨ao.put nt _ _ aD,sA _ _ (kt.lst VZ),sA _ _ (kt.lst LK),hn.same DO⟩
theorem afO(T:Tx K mg A)(aC:bF mg base A.bw A.br):bq P w K mg base bx 6 A.B_ A.Ca ["_law_script", "_law_plate", "_law_world", "_law_askers_here"] (aem K [A.bQ,A.bK] A.bJ A.cg):=by
 refine T.Kg.ok wF (λvs H Q E h=>?_) (λaV Ar outer s H vs Q E hr h=>?_)
 ·obtain⟨C,sc,p,t,aa,P',fp,ns,rc,aP,sk,sw,ca,sa,na,eE,as,rfl,_⟩:=h
  rfl
 ·obtain⟨C,sc,p,t,aa,P',fp,ns,rc,aP,sk,sw,ca,sa,na,eE,as,rfl,hC,hP,hS,fX,hw,n1,nM,l1,l2,ha,a1,ng,q⟩:=h;refine⟨_,(aB (aJ (aX (i:=4) wF.nd rfl (Or.inl rfl) (aN (afK T aC) (hr.mono (by decide)) rfl T.Ua T.Kd.kp T.T_ .nil aI (aj (ah 0) (aj aq (aj (bI (NL rfl) rfl T.xj boot_max (aj aq (aj (aH qi (bI (yJ rfl) rfl T.mX boot_min (aj (bI dh rfl T.cz boot_len (aj (ah 0) au)) (aj aq au))) aq) au))) (aj (ah 2) (aj (ah 3) au))))))))
   (aB (aJ (aX (i:=5) wF.nd rfl (Or.inl rfl) (dH au)))
   (aB (d9 PassesOwn.never rfl (iH rfl T.e7 (aj (bI dh rfl T.cz boot_len (aj (ah 4) au)) au)) (bE (i:=6) wF.nd rfl (Or.inl rfl))
   (aK (dR (dG rW (aU je (aU cX (ah 4) (ah 6) (λ_ _=>rfl)) aq (λ_ _=>rfl)) cT (bA _)) (aB (aJ (aX (i:=7) wF.nd rfl (Or.inl rfl) (aH b_ (aH iS aq (ah 6)) (aN (bW T aC) (hr.mono (by decide)) rfl T.bV T.bR.kp T.bU .nil aI (aj (aN (jx T aC) (hr.mono (by decide)) rfl T.iY T.iA.kp T.iX .nil aI (aj (ah 0) (aj (aH b_ aq (ah 6)) au))) (aj aq (aj aq au)))))))
   (aK (c8 (jI plainAttrs_list PySem.F.slot_list_append PySem.F.type_list_append kQ (ah 5) (aj (cD (aj (ah 7) (aj (aU cX (ah 4) (ah 6) (λ_ _=>rfl)) (aj (nF T.CJ (Lw T aC) (hr.mono (by decide)) rfl T.CK T.Cv .nil aI (aj (ah 1) (aj (ah 7) (aj (aN (VU T aC) (hr.mono (by decide)) rfl T.Kf T.CB.kp T.Ke .nil aI (aj (aU cX (ah 4) (ah 6) (λ_ _=>rfl)) au)) au)))) au)))) au))))) bY)))
   (aK (bO (ah 5)))))),?_⟩
  refine aL λNa ka=>?_;wp_walk using bu,cV;refine⟨_,.inl hS,?_⟩;rw[length_map];obtain⟨mn,DF,mn0,mn1⟩:∃mn:Int,(if 3<(if 40<(ns.length:Int) then 40 else(ns.length:Int)) - 8 then(if 40<(ns.length:Int) then 40 else(ns.length:Int)) - 8 else 3)=mn/\0<=mn/\mn<=32:=by
   refine⟨_,rfl,?_,?_⟩ <;> (repeat' split) <;> lia
  rw[DF];refine⟨sc,t,aa,ns,8,mn,rc,aP,sk,sw,ca,sa,na,eE,P'.nc,as,rfl,hS,fX,by decide,by decide,mn0,mn1,hw,n1,nM,l1,l2,ha,a1,ng,λl ts qs H1 s1 nl hq hn qk=>ka _ _ ?_⟩
  refine aL λNb kb=>?_;walk_at "rdm";intro D nD;refine kb _ _ ?_;have s0:=ao.put (o:=.lst []) nD;have aiT:qs.length<=32:=by lia
  refine Gx qs.length (λi σ H'=>∃(y1 y2:Option V) (us:List Addr) (ps:List Dr),σ = [some (.ref sc),some (.ref p),some (.ref t),some (.ref aa),some (.ref l),some (.ref D),y1,y2]/\ao H1 H'/\dm K A.bJ A.cg H' D D us ps/\ps.Pairwise (λa b=>a.n<b.n)/\ps.length<=i/\∀x∈ps,qV P'.nc.length x.q/\x.q.kind≠"rest"/\x.q.at_<=1000000000000/\0<=x.n/\x.n<3*(i:Int)/\x.c=pD P'.nc x.q.first x.q.many/\x.q.bT∈as) (λQ q=>?_) ∅ ⟨none,none,[],[],rfl,s0,dm.start,.nil,Nat.le_refl _,λ_ h=>nomatch h⟩ ?_ ?_
  ·walk_at "rdm";refine⟨_,.inl (aE.of (s0 _ _ hq.l)),?_⟩;rw[length_map,hq.n];exact q
  ·rintro i σ H' N hN hi ⟨y1,y2,us,ps,rfl,s',hD,up,pl,pk⟩;have fD:=hq.same s';obtain⟨u,hu⟩:∃u,ts[i]? = some u:=⟨ts[i]'(by rw[hq.n];exact hi),getElem?_eq_getElem _⟩
   obtain⟨m,b,hK⟩:=fD.t i u qs[i] hu (getElem?_eq_getElem hi);obtain⟨ok,xN,am⟩:=qk qs[i] (getElem_mem hi);have LN:dW (ts.map V.ref) (i:Int)=some (.ref u):=l_ (by rw[getElem?_map,hu];rfl)
   generalize qs[i] = q' at hK ok xN am;wp_walk using bu,cV;refine⟨_,aE.of fD.l,_,LN,u,rfl,_,bg.of hK.o,_,rfl,rfl,cj (λh1=>?_) λh1=>?_⟩
   ·have nr:q'.kind≠"rest" := λz=>h1 (by rw[z])
    obtain⟨f0,f1,f2,f3⟩:=ok.f0 nr;intro N1 k1;refine⟨ns,(s1.trans s').seq hS,fX,∅,∅,k1 _ _ ?_⟩
    walk_at "rdm";refine⟨⟨_,aE.of hD.l⟩,_,aE.of fD.l,_,LN,_,aE.of fD.l,_,LN,u,q',m,b,_,rfl,hK,ok,∅,xN,λap mk bb xO H7 s7 xB xP=>?_⟩
    intro x dx nx gX dJ;have jz:=hP.same ((s1.trans s').trans s7);have mT:=ao.put (o:=.own x) gX;have cU:upd H7 dx (.own x) x=none:=by rw[aF (Ne.symm dJ)];exact nx
    have gI:=mT.trans (ao.put (o:=.ins A.cg dx []) cU);obtain⟨op,xQ⟩:=jz.here;have xp:x≠p:=(bX xQ nx).symm;have xf:x∉fp:=λhb=>by
     obtain⟨ob,jQ⟩:=jz.has hb;exact bX jQ nx rfl
    have d2:=cy (gm ns (8+(i:Int))) 81 (m:=2) (by decide)
    generalize aQ (gm ns (8+(i:Int))) 81 2=d at d2 ⊢;refine⟨C,x,p,ap,dx,3*(i:Int)+d,P',fp,q',mk,bb,xO,rfl,aD,hC,jz.same gI,xp,xf,xP.same gI,⟨f0,∅,∅,f3⟩,nM,λl' qT H8 xR sb rG=>⟨rfl,λpt lO=>?_⟩⟩
    have s68:ao H' H8:=λb o e=>sb _ _ (gI _ _ (s7 _ _ e)) (bX (s7 _ _ e) nx);have lD:l'≠D:=(bX (gI _ _ (s7 _ _ hD.l)) xR).symm;have s9:=ao.put (o:=.tup [V.int (3*(i:Int)+d),V.ref u,V.ref x]) lO;have DP:=s68.trans s9;refine⟨_,DP _ _ hD.l,by rw[length_map,hD.n];lia,hN _ _ ⟨_,_,us++[pt],ps++[⟨3*(i:Int)+d,q',pD P'.nc q'.first q'.many⟩],rfl,ao.put2 (s'.trans DP) nD,(hD.same DP).snoc ⟨aD,hK.same DP,rG.same s9,lD⟩,?_,by simp;lia,λy hy=>?_⟩⟩
    ·refine List.pairwise_append.mpr ⟨up,List.pairwise_singleton _ _,λy hy z hz=>?_⟩;rw[mem_singleton.mp hz];have:=(pk y hy).2.2.2.2.1
     show y.n<3*(i:Int)+d;lia
    ·rcases mem_append.mp hy with hy | hy
     ·obtain⟨h1,h2,h3,h4,h5,h6⟩:=pk y hy;exact⟨h1,h2,h3,h4,∅,h6⟩
     ·rw[mem_singleton.mp hy];exact⟨ok,nr,xN,by show 0<=3*(i:Int)+d;lia,by show 3*(i:Int)+d<_;lia,rfl,am.resolve_left nr⟩
   ·exact hN _ _ ⟨_,_,us,ps,rfl,s',hD,up,∅,λy hy=>by
     obtain⟨h1,h2,h3,h4,h5,h6⟩:=pk y hy;exact⟨h1,h2,h3,h4,∅,h6⟩⟩
  ·rintro σ H' ⟨y1,y2,us,ps,rfl,s',hD,up,pl,pk⟩;walk_at "rdm";exact q D us ps H' (s1.trans s') (s1.free nD) hD ⟨up,λx hx=>by
    obtain⟨h1,h2,h3,h4,h5,h6,_⟩:=pk x hx;exact⟨h1,h2,h3,h4,∅,h6⟩,∅⟩ λx hx=>(pk x hx).2.2.2.2.2.2
theorem afP(T:Tx K mg A)(aC:bF mg base A.bw A.br):bq P w K mg base bx 6 A.Cb A.Cc ["_law_rule", "_law_plate", "_law_ring", "_law_beat", "_law_dues"] (aeg K [A.bQ,A.bK] A.bJ A.cg A.cB):=by
 refine T.Kh.ok Av (λvs H Q E h=>?_) (λaV Ar outer s H vs Q E hr h=>?_)
 ·obtain⟨C,ru,p,dx,pl,r,b,bH,sh,t0,u0,D,D',ts,ps,P',fp,rfl,_⟩:=h
  rfl
 ·obtain⟨C,ru,p,rd,pl,r,b,bH,sh,t0,u0,D,D',ts,ps,P',fp,rfl,hru,ok0,h0,zY,kn,hC,hP,nM,hp,pk,p1,q⟩:=h;have hu1:=hr.Y_;have g8:=hp.n;have ju:=pk.ju;refine⟨_,(aB (aJ (nQ (i:=5) Av.nd rfl (Or.inl rfl) (N:=["_law_one"]) (nt:=1) (fv:=[]) (c7.of rfl rfl (by rfl) (by rfl) (by repeat (first | exact trivial | refine⟨rfl,?_⟩)) (by rfl) (by rfl) (by rfl) (by decide) (by decide +kernel)) rfl (fj (ah 4)) (λC s H fp=>(bE (i:=0) (show Nodup (["_law_one"]:List Str) by decide +kernel) rfl (Or.inl rfl))) (λC s H fp=>gS) (λC s H fp=>(aU (gW (K:=K) rfl) (ah 0) aq (λ_ _=>rfl)))))
   (aB (aJ (gH (fG (cM pK (aH kr (bI dh rfl T.cz boot_len (aj (ah 4) au)) aq) aq (bA _)) (aK (nQ (i:=5) Av.nd rfl (Or.inl rfl) (N:=["_law_one", "_law_plate"]) (nt:=1) (fv:=[1]) (c7.of rfl rfl (by rfl) (by rfl) (by repeat (first | exact trivial | refine⟨rfl,?_⟩)) (by rfl) (by rfl) (by rfl) (by decide) (by decide +kernel)) rfl (fj (ah 4)) (λC s H fp=>(bE (i:=0) (show Nodup (["_law_one", "_law_plate"]:List Str) by decide +kernel) rfl (Or.inl rfl))) (λC s H fp=>gS) (λC s H fp=>(nF T.CJ (Lw T aC) (hr.mono (by decide)) rfl T.CK T.Cv .nil aI (aj (ah 1) (aj (aU (gW (K:=K) rfl) (ah 0) aq (λ_ _=>rfl)) (aj (aN (VU T aC) (hr.mono (by decide)) rfl T.Kf T.CB.kp T.Ke .nil aI (aj (aU (gW (K:=K) rfl) (ah 0) aq (λ_ _=>rfl)) au)) au))))))) bY)))
   (aB (aJ (gH (aX (i:=6) Av.nd rfl (Or.inl rfl) (E7 (ah 0) T.pO T.Jz (Vd T aC) (hr.mono (by decide)) T.Jy .nil PB (aj (ah 1) (aj (ah 2) (aj (ah 3) (aj (ah 5) au))))))))
   (aB (dR (PW.pt (fZ (yt (uu (bI OZ rfl T.pQ boot_isinstance (aj (ah 6) (aj (Ez (v:=.ty "int") rfl T.tR boot_int rfl) au))))) (fY (uu (bI OZ rfl T.pQ boot_isinstance (aj (ah 6) (aj (Ez (v:=.ty "bool") rfl T.C6 boot_bool rfl) au))))))) (aK (bO nA)) bY)
   (aB (dR (dG (aam hu1) (jM (N:=["_law_due"]) (nt:=1) (fv:=[]) (c7.of rfl rfl (by rfl) (by rfl) (by repeat (first | exact trivial | refine⟨rfl,?_⟩)) (by rfl) (by rfl) (by rfl) (by decide) (by decide +kernel)) rfl (fj (ah 5)) (λC s H fp=>(bE (i:=0) (show Nodup (["_law_due"]:List Str) by decide +kernel) rfl (Or.inl rfl))) (λC s H fp=>gS) (λC s H fp=>(abB (K:=K) rfl (ah 0) rfl))) (jM (N:=["_law_one"]) (nt:=1) (fv:=[]) (c7.of rfl rfl (by rfl) (by rfl) (by repeat (first | exact trivial | refine⟨rfl,?_⟩)) (by rfl) (by rfl) (by rfl) (by decide) (by decide +kernel)) rfl (fj (ah 4)) (λC s H fp=>(bE (i:=0) (show Nodup (["_law_one"]:List Str) by decide +kernel) rfl (Or.inl rfl))) (λC s H fp=>gS) (λC s H fp=>(aU (gW (K:=K) rfl) (ah 0) aq (λ_ _=>rfl)))) (bA _)) (aK (bO nA)) bY)
   (aK (bO (ah 6)))))))),?_⟩
  refine aL λN1 k1=>?_;walk_at "rdt";refine jO D' (ts.map V.ref) (λD2 i ys aA H2=>∃(u:Option V) (as:List Addr),ys=as.map V.ref/\aA = [u]/\H2 D2=some (.lst ys)/\ao H H2/\H D2=none/\iQ K A.bJ A.cg H as (ps.take i)) (λQ q=>q) (aE.of hp.l) ?_ ?_ ?_ ?_
  ·intro D2 hD;exact⟨none,[],rfl,rfl,aD,ao.put hD,hD,iQ.nil⟩
  ·rintro D2 i ys aA H2 ⟨u,as,rfl,rfl,e1,e2,e3,e4⟩;have:=e4.n;rw[length_take] at this;exact⟨e1,fS (by rw[length_map];lia),aE.of (e2 _ _ hp.l)⟩
  ·rintro D2 i x ys aA H2 N hN hx ⟨u,as,rfl,rfl,e1,e2,e3,e4⟩;obtain⟨t,ht,rfl⟩:=fT hx;have hi:i<ps.length:=by rw[← g8];exact e8 ht
   refine hp.el i t ps[i] ht (getElem?_eq_getElem hi) λtk d m b1 dx ap l tW m' b' aR h1=>?_;walk_at "rdm";refine⟨_,bg.of (e2 _ _ h1.o),_,rfl,e1,hN _ _ _ ⟨_,as++[d],by rw[map_append];rfl,rfl,aD,ao.put2 e2 e3,e3,?_⟩⟩
   rw[take_succ_get (getElem?_eq_getElem hi)];exact e4.snoc ⟨_,_,_,_,_,_,_,h1.d⟩
  ·rintro D2 ys aA H2 ⟨u,as,rfl,rfl,e1,e2,e3,e4⟩;rw[length_map,g8,take_length] at e4;refine k1 _ _ ?_;refine aL λN2 k2=>?_;walk_at "rdt";refine⟨λσ H3=>∃(X:Addr) (xs:List Addr),σ = [some (.ref ru),some (.ref p),some (.int r),some (.int b),some (.ref D'),some (.ref X),none]/\ao H H3/\jS K A.bJ A.cg H3 X xs ps,⟨_,.inl (aE.of (e2 _ _ hp.l)),cj (λ_=>?_) λ_=>?_⟩,?_⟩
   ·refine jO D' (ts.map V.ref) (λD3 i ys aA H3=>∃(u:Option V) (xs:List Addr),ys=xs.map V.ref/\aA = [u,some (.ref p)]/\ao H2 H3/\H2 D3=none/\ow K A.bJ A.cg H3 D3 xs (ps.take i)) (λQ q=>q) (aE.of (e2 _ _ hp.l)) ?_ ?_ ?_ ?_
    ·intro D3 hD;exact⟨none,[],rfl,rfl,ao.put hD,hD,⟨aD,rfl,λi t k e=>by simp at e⟩⟩
    ·rintro D3 i ys aA H3 ⟨u,xs,rfl,rfl,s3,nD,hd⟩;have:=hd.n;rw[length_take] at this;exact⟨hd.hl,fS (by rw[length_map];lia),aE.of (s3 _ _ (e2 _ _ hp.l))⟩
    ·rintro D3 i x ys aA H3 N hN hx ⟨u,xs,rfl,rfl,s3,nD,hd⟩;obtain⟨t,ht,rfl⟩:=fT hx;have hi:i<ps.length:=by rw[← g8];exact e8 ht
     have V2:=e2.trans s3;refine(hp.same V2).el i t ps[i] ht (getElem?_eq_getElem hi) λtk d m b1 dx ap l tW m' b' aR h1=>?_;obtain⟨ok,nr,xN,n0,n99,ec⟩:=pk.ok ps[i] (getElem_mem hi);have tk2:=take_succ_get (getElem?_eq_getElem hi);obtain⟨f0,f1,f2,f3⟩:=ok.f0 nr;walk_at "rdm";refine⟨_,bg.of h1.o,_,rfl,_,bg.of h1.o,_,rfl,tk,ps[i].q,m,b1,_,rfl,h1.k,ok,∅,xN,λap7 mk bb xO H7 s7 xB xP=>?_⟩
     intro x qG nx gX dJ;have jz:=hP.same (V2.trans s7);have mT:=ao.put (o:=.own x) gX;have cU:upd H7 qG (.own x) x=none:=by rw[aF (Ne.symm dJ)];exact nx
     have gI:=mT.trans (ao.put (o:=.ins A.cg qG []) cU);obtain⟨op,xQ⟩:=jz.here;have xp:x≠p:=(bX xQ nx).symm;have xf:x∉fp:=λhb=>by
      obtain⟨ob,jQ⟩:=jz.has hb;exact bX jQ nx rfl
     refine⟨C,x,p,ap7,qG,ps[i].n,P',fp,ps[i].q,mk,bb,xO,rfl,aD,hC,jz.same gI,xp,xf,xP.same gI,⟨f0,∅,∅,f3⟩,nM,λl' qT H8 xR sb rG=>⟨rfl,?_⟩⟩
     have LO:ao H3 H8:=λb o e=>sb _ _ (gI _ _ (s7 _ _ e)) (bX (s7 _ _ e) nx);have lD:l'≠D3:=(bX (gI _ _ (s7 _ _ hd.hl)) xR).symm;refine⟨LO _ _ hd.hl,hN _ _ _ ⟨_,xs++[x],by rw[map_append];rfl,rfl,ao.put2 (s3.trans LO) nD,nD,?_⟩⟩
     rw[tk2];rw[← ec] at rG;exact(hd.same LO).snoc rG lD
    ·rintro D3 ys aA H3 ⟨u,xs,rfl,rfl,s3,nD,hd⟩;rw[length_map,g8,take_length] at hd;exact⟨D3,xs,rfl,e2.trans s3,hd.dus⟩
   ·exact⟨D2,as,rfl,e2,⟨e1,e4.n,λi a d h1 h2=>let ⟨dx,ap,l,ts,m,b,aR,hD⟩:=e4.t i a d h1 h2;⟨dx,ap,l,ts,m,b,aR,hD.same e2⟩⟩⟩
   ·rintro σ H3 ⟨X,xs,rfl,s3,hX⟩;refine k2 _ _ ?_;refine aL λN3 k3=>?_;have DQ:=hru.same s3;have mY:=DQ.o;unfold gJ at mY;wp_walk using T,mY;refine⟨λσ H4=>∃(t' u' n:Int),σ = [some (.ref ru),some (.ref p),some (.int r),some (.int b),some (.ref D'),some (.ref X),some (.int n)]/\SameBut ru H H4/\dF H3 H4/\eN A.cB H4 ru sh t' u' rd pl bH/\jV sh ps t0 u0 t' u'/\fz (dc sh t') ps=some n/\jS K A.bJ A.cg H4 X xs ps,?_,?_⟩
    ·exact⟨ru,p,rd,pl,r,b,bH,sh,t0,u0,X,xs,ps,rfl,DQ,ok0,h0,zY,hX,p1,∅,λ_ t' u' n H4 sb hs st ln=>⟨t',u',n,rfl,λb o e hb=>sb b o (s3 _ _ e) hb,DQ.s_ sb,hs,st,ln,hX.kt (DQ.s_ sb)⟩,λno=>absurd kn no⟩
    ·rintro σ H4 ⟨t',u',n',rfl,sb,kt,hs4,st,ln,DR⟩;refine k3 _ _ ?_;walk_at "rdt";have hp4:=(hp.same s3).kt kt;have V3:=DR.n;refine⟨_,.int _,true,by rfl,ite_no (by simp) ⟨_,.int _,false,by rfl,ite_no (by simp) ?_⟩⟩
     refine jO X (xs.map V.ref) (λD5 i ys aA H5=>∃(u:Option V),ys=((ps.take i).map (·.n)).map V.int/\aA = [u]/\H5 D5=some (.lst ys)/\ao H4 H5/\H4 D5=none) (λQ q=>q) (aE.of DR.l) ?_ ?_ ?_ ?_
     ·intro D5 hD;exact⟨none,rfl,rfl,aD,ao.put hD,hD⟩
     ·rintro D5 i ys aA H5 ⟨u,rfl,rfl,g1,g2,g3⟩;exact⟨g1,fS (by simp only[length_map,length_take];lia),aE.of (g2 _ _ DR.l)⟩
     ·rintro D5 i x ys aA H5 N hN hx ⟨u,rfl,rfl,g1,g2,g3⟩;obtain⟨dp,V4,rfl⟩:=fT hx;have hi:i<ps.length:=by rw[← V3];exact e8 V4
      refine(DR.same g2).el i dp ps[i] V4 (getElem?_eq_getElem hi) λdx ap l tW m b' aR hD=>?_;have mK:=hD.o;unfold vU at mK;wp_walk using T,mK;refine⟨g1,hN _ _ _ ⟨_,?_,rfl,aD,ao.put2 g2 g3,g3⟩⟩;rw[take_succ_get (getElem?_eq_getElem hi),map_append,map_append];rfl
     ·rintro D5 ys aA H5 ⟨u,rfl,rfl,g1,g2,g3⟩;rw[length_map,V3,take_length] at g1;have rD:=hp4.same g2;refine jO D' (ts.map V.ref) (λD6 i ys aA H6=>∃(u:Option V),ys=((ps.take i).map (·.n)).map V.int/\aA = [u]/\H6 D6=some (.lst ys)/\ao H5 H6/\H5 D6=none) (λQ q=>q) (aE.of rD.l) ?_ ?_ ?_ ?_
      ·intro D6 hD;exact⟨none,rfl,rfl,aD,ao.put hD,hD⟩
      ·rintro D6 i ys aA H6 ⟨u,rfl,rfl,k1,k2,k3⟩;exact⟨k1,fS (by simp only[length_map,length_take];lia),aE.of (k2 _ _ rD.l)⟩
      ·rintro D6 i x ys aA H6 N hN hx ⟨u,rfl,rfl,k1,k2,k3⟩;obtain⟨t,ht,rfl⟩:=fT hx;have hi:i<ps.length:=by rw[← g8];exact e8 ht
       refine(rD.same k2).el i t ps[i] ht (getElem?_eq_getElem hi) λtk d' m b1 dx ap l tW m' b' aR h1=>?_;walk_at "rdm";refine⟨_,bg.of h1.o,_,rfl,k1,hN _ _ _ ⟨_,?_,rfl,aD,ao.put2 k2 k3,k3⟩⟩;rw[take_succ_get (getElem?_eq_getElem hi),map_append,map_append];rfl
      ·rintro D6 ys aA H6 ⟨u,rfl,rfl,k1,k2,k3⟩;rw[length_map,g8,take_length] at k1;refine⟨D5,rfl,D6,rfl,_,aE.of (k2 _ _ g1),aE.of k1,λv hv=>?_,q t' u' n' H6 (λb o e hb=>k2 _ _ (g2 _ _ (sb b o e hb))) ((hs4.same g2).same k2) st ln⟩;obtain⟨n,_,rfl⟩:=mem_map.mp hv;exact⟨(λ_ z=>nomatch z),(λ_ z=>nomatch z)⟩
theorem afQ(T:Tx K mg A)(aC:bF mg base A.bw A.br):bq P w K mg base bx 6 A.Ci A.Cj ["_law_rule", "_law_plate", "_law_dues", "_law_stranger", "_law_cell_here"] (aeb K [A.bQ,A.bK] A.bJ A.cg A.cB):=by
 refine T.Ko.ok oF (λvs H Q E h=>?_) (λaV Ar outer s H vs Q E hr h=>?_)
 ·obtain⟨C,x,p,dx,pl,bH,sh,t,u,st,c,D,D',ts,ps,P',fp,rfl,_⟩:=h
  rfl
 ·obtain⟨C,x,p,dx,pl,bH,sh,t,u,st,c,D,D',ts,ps,P',fp,rfl,hx,ok,t0,t1,hC,hP,n1,nM,hp,p1,Du,vd,vW,LQ,q⟩:=h;have g8:=hp.n;refine⟨_,(aB (aJ (aX (i:=5) oF.nd rfl (Or.inl rfl) (aN (bW T aC) (hr.mono (by decide)) rfl T.bV T.bR.kp T.bU .nil aI (aj (ah 4) (aj aq (aj (aH b_ (bI dh rfl T.cz boot_len (aj (ah 2) au)) aq) au))))))
   (aB (aJ (gH (dR (PW.pt (ED (cM pK (ah 5) aq (bA _)) (EC (dG fQ (aU je (aU cX (ah 2) aq (λ_ _=>rfl)) aq (λ_ _=>rfl)) aq (bA _))))) (aK (aX (i:=5) oF.nd rfl (Or.inl rfl) aq)) bY)))
   (aB (aJ (gH (aX (i:=6) oF.nd rfl (Or.inl rfl) (aH jc (aH qj aq (aH EY (aU je (aU iL (ah 2) (bI (NL rfl) rfl T.xj boot_max (aj aq (aj (aH oE (ah 5) aq) au))) (λ_ _=>rfl)) aq (λ_ _=>rfl)) aq)) aq))))
   (aB (aJ (gH (fG (cM pK (ah 5) aq (bA _)) (aK (aX (i:=6) oF.nd rfl (Or.inl rfl) (aH qi (aH qj aq (aH EY (aU je (aU cX (ah 2) aq (λ_ _=>rfl)) aq (λ_ _=>rfl)) aq)) aq))) bY)))
   (aB (aJ (nQ (i:=7) oF.nd rfl (Or.inl rfl) (N:=["_law_one"]) (nt:=1) (fv:=[]) (c7.of rfl rfl (by rfl) (by rfl) (by repeat (first | exact trivial | refine⟨rfl,?_⟩)) (by rfl) (by rfl) (by rfl) (by decide) (by decide +kernel)) rfl (fj (ah 2)) (λC s H fp=>(bE (i:=0) (show Nodup (["_law_one"]:List Str) by decide +kernel) rfl (Or.inl rfl))) (λC s H fp=>gS) (λC s H fp=>(aU (gW (K:=K) rfl) (ah 0) aq (λ_ _=>rfl)))))
   (aB (aJ (c8 (jI plainAttrs_list PySem.F.slot_list_insert PySem.F.type_list_insert adQ (ah 7) (aj (ah 5) (aj (nF T.CJ (Lw T aC) (hr.mono (by decide)) rfl T.CK T.Cv .nil aI (aj (ah 1) (aj (ah 6) (aj (aN (VG T aC) (hr.mono (by decide)) rfl T.JF T.Cu.kp T.SD (show Vals [.aW,.aW] [.none,.none] from(.cons rfl (.cons rfl .nil))) aI (aj aq (aj aq (aj aq (aj (ah 3) au))))) au)))) au)))))
   (aB (aJ (aX (i:=8) oF.nd rfl (Or.inl rfl) jC))
   (aB (PY rfl rfl (λE=>(PF (abe (ah 0) T.pO T.Jz (Vd T aC) (hr.mono (by decide)) T.Jy .nil (aj (ah 1) (aj aq (aj aq (aj (ah 7) au)))))))
   (PR (i:=9) rfl T.KY T.KZ oF.nd rfl rfl rfl (λa=>(aK (aX (i:=8) oF.nd rfl (Or.inl rfl) (RM (U_ T aC) (hr.mono (by decide)) rfl T.Km T.CC.kp T.Kl (aj (ah 9) au))))) PN))
   (aK (bO (ah 8))))))))))),?_⟩
  refine aL λN1 k1=>?_;wp_walk using T,bu;refine⟨_,.inl (aE.of hp.l),∅,k1 _ _ ?_⟩
  rw[length_map,g8];have V5:=cy c 91 (m:=(ps.length:Int)+1) ∅
  generalize aQ c 91 ((ps.length:Int)+1)=a0 at V5 ⊢;refine aL λN2 k2=>?_;wp_walk using T,bu;obtain⟨f0,fn,fa,fb,f1,f2⟩:=hp.ti (i:=0) (by decide) ∅
  refine⟨λσ H1=>∃k:Nat,σ = [some (.ref x),some (.ref p),some (.ref D'),some (.int st),some (.int c),some (.int (k:Int)),none,none,none,none]/\H1=H/\k<=ps.length,cj (λh0=>⟨_,aE.of hp.l,_,f1,f0,rfl,_,bg.of f2,_,rfl,fn,rfl,cj (λ_=>⟨1,rfl,rfl,p1⟩) λ_=>⟨0,by rw[h0];rfl,rfl,∅⟩⟩) λ_=>⟨a0.toNat,by rw[toNat_of_nonneg V5.1],rfl,∅⟩,?_⟩
  rintro σ H1 ⟨k,rfl,rfl,kl⟩;refine k2 _ _ ?_;refine aL λN3 k3=>?_;wp_walk using T,bu;obtain⟨g0,gn,ga,gb,g1,g2⟩:=hp.ti (i:=if 0<(k:Int) - 1 then(k:Int) - 1 else 0) (by split <;> lia) (by split <;> lia)
  refine⟨λσ H2=>∃n:Int,σ = [some (.ref x),some (.ref p),some (.ref D'),some (.int st),some (.int c),some (.int (k:Int)),some (.int n),none,none,none]/\H2=H1,⟨_,aE.of hp.l,_,g1,g0,rfl,_,bg.of g2,_,rfl,gn,rfl,_,rfl,rfl⟩,?_⟩;rintro σ H2 ⟨n,rfl,rfl⟩;refine k3 _ _ ?_;refine aL λN4 k4=>?_;wp_walk using T,bu;refine⟨λσ H3=>∃n:Int,σ = [some (.ref x),some (.ref p),some (.ref D'),some (.int st),some (.int c),some (.int (k:Int)),some (.int n),none,none,none]/\H3=H2,cj (λ_=>⟨_,aE.of hp.l,_,f1,f0,rfl,_,bg.of f2,_,rfl,fn,rfl,_,rfl,rfl⟩) λ_=>⟨_,rfl,rfl⟩,?_⟩
  clear g1 g2 f1 f2 n;rintro σ H3 ⟨n,rfl,rfl⟩;refine k4 _ _ ?_;refine aL λN5 k5=>?_;refine jO D' (ts.map V.ref) (λD2 i ys aA H2=>∃(v:Option V) (as:List Addr),ys=as.map V.ref/\aA = [v]/\H2 D2=some (.lst ys)/\ao H3 H2/\H3 D2=none/\iQ K A.bJ A.cg H3 as (ps.take i)) (λQ q=>q) (aE.of hp.l) ?_ ?_ ?_ ?_
  ·intro D2 hD;exact⟨none,[],rfl,rfl,aD,ao.put hD,hD,iQ.nil⟩
  ·rintro D2 i ys aA H2 ⟨v,as,rfl,rfl,e1,e2,e3,e4⟩;have:=e4.n;rw[length_take] at this;exact⟨e1,fS (by rw[length_map];lia),aE.of (e2 _ _ hp.l)⟩
  ·rintro D2 i y ys aA H2 N hN hx ⟨v,as,rfl,rfl,e1,e2,e3,e4⟩;obtain⟨a,ha,rfl⟩:=fT hx;have hi:i<ps.length:=by rw[← g8];exact e8 ha
   refine hp.el i a ps[i] ha (getElem?_eq_getElem hi) λtk d m b1 dx ap l tW m' b' aR h1=>?_;walk_at "rdm";refine⟨_,bg.of (e2 _ _ h1.o),_,rfl,e1,hN _ _ _ ⟨_,as++[d],by rw[map_append];rfl,rfl,aD,ao.put2 e2 e3,e3,?_⟩⟩
   rw[take_succ_get (getElem?_eq_getElem hi)];exact e4.snoc ⟨_,_,_,_,_,_,_,h1.d⟩
  ·rintro D2 ys aA H2 ⟨v,as,rfl,rfl,e1,e2,e3,e4⟩;rw[length_map,g8,take_length] at e4;have e4n:=e4.n;refine k5 _ _ ?_;refine aL λN6 k6=>?_;wp_walk using T,bu;refine⟨⟨_,aE.of e1⟩,0,1,0,st,none,.aW,[],rfl,⟨by decide,by decide,by decide,by decide,by decide,by decide,vd,vW,λ_ z=>nomatch z⟩,.inl ⟨rfl,rfl⟩,jl.nil,λap mk bb xO H7 s7 xB xP=>?_⟩
   intro x2 xK DT LM dJ;have jz:=hP.same (e2.trans s7);have gI:=HS (C:=A.cg) DT LM dJ;obtain⟨op,xQ⟩:=jz.here;have xp:x2≠p:=(bX xQ DT).symm;have xf:x2∉fp:=λhb=>by
    obtain⟨ob,jQ⟩:=jz.has hb;exact bX jQ DT rfl
   refine⟨C,x2,p,ap,xK,n,P',fp,_,mk,bb,xO,rfl,aD,hC,jz.same gI,xp,xf,xP.same gI,⟨Int.le_refl _,(by show (0:Int)<=1;decide),(by show (1:Int)<=16;decide),by show (0:Int)+1<=_;lia⟩,nM,λl' qT H8 xR sb rG=>⟨rfl,?_⟩⟩
   have LR:ao H2 H8:=λb o e=>sb _ _ (gI _ _ (s7 _ _ e)) (bX (s7 _ _ e) DT);have lD:l'≠D2:=(bX (gI _ _ (s7 _ _ e1)) xR).symm;have LS:=LR _ _ e1;refine⟨_,LS,∅,by rw[length_map];lia,by rw[length_map];lia,k6 _ _ ?_⟩
   have s9:ao H3 (upd H8 D2 (.lst ((as.take k++x2::as.drop k).map V.ref))):=ao.put2 (e2.trans LR) e3;have V6:=rG.eO (ys:=(as.take k++x2::as.drop k).map V.ref) LS lD;have dz:=(e4.same s9).put ⟨_,_,_,_,_,_,_,V6⟩ k;have oM:upd H8 D2 (.lst ((as.take k++x2::as.drop k).map V.ref)) D2=some (.lst ((as.take k++x2::as.drop k).map V.ref)):=aD;rw[map_append,map_cons,map_take,map_drop] at s9 dz oM;rw[toNat_natCast];generalize upd H8 D2 _=H9 at s9 dz oM ⊢;rw[← map_take,← map_drop,← map_cons,← map_append] at oM;clear V6 rG LS LR sb e4;refine aL λN7 k7=>?_;walk_at "rdm";refine k7 _ _ ?_;have V7:=hx.same s9;have V8:=V7.o;unfold gJ at V8;wp_walk using T,V8;refine⟨x,p,dx,pl,0,0,bH,sh,t,u,D2,_,_,rfl,V7,ok,t0,t1,⟨oM,dz.n,dz.t⟩,by simp only[length_append,length_cons];lia,by simp only[length_append,length_cons,length_take,length_drop];lia,λkn=>?_,λ_ H10 DO=>?_⟩
   ·exact absurd (kn _ (mem_append_right _ (mem_cons_self ..))) LQ
   ·walk_at "rdd";refine⟨A.bN,rfl,T.K4,λa' ha=>.inl ⟨T.K6,?_⟩⟩;exact⟨a',rfl,aD,λH' s11=>q H' ((s9.trans DO).trans ((ao.put ha).trans s11))⟩
theorem afR(T:Tx K mg A)(aC:bF mg base A.bw A.br):bq P w K mg base bx 7 A.Cp A.Cq ["_law_script"] (zR K [(A.bw,A.br)]):=by
 refine T.Ut.ok g7 (λvs H Q E h=>?_) (λaV Ar outer s H vs Q E hr h=>?_)
 ·obtain⟨a,ns,rfl,_⟩:=h
  rfl
 ·obtain⟨a,ns,rfl,hS,fX,hT,q⟩:=h;have V9:=hT (A.bw,A.br) (by simp)
  have TN:cu A.br (oh gr) (oq "nearest_rings") H:=⟨#[],V9,trivial,.inl rfl⟩;refine⟨_,(aB (aJ (rQ (aN (afM T aC) (hr.mono (by decide)) rfl T.T4 T.J8.kp T.T3 .nil aI (aj (ah 0) au)) (kM rfl (eF (bE (i:=1) g7.nd rfl (Or.inl rfl)) (eF (bE (i:=2) g7.nd rfl (Or.inl rfl)) jF)))))
   (aB (aJ (aX (i:=3) g7.nd rfl (Or.inr rfl) (aN (afx T aC) (hr.mono (by decide)) rfl T.T7 T.J9.kp T.T6 .nil aI (aj (aN (jx T aC) (hr.mono (by decide)) rfl T.iY T.iA.kp T.iX .nil aI (aj (ah 0) (aj aq au))) au))))
   (aB (aJ (nQ (i:=4) g7.nd rfl (Or.inl rfl) (N:=["_law_k", "_law_askers_here", "_law_script"]) (nt:=1) (fv:=[3,0]) (c7.of rfl rfl (by rfl) (by rfl) (by repeat (first | exact trivial | refine⟨rfl,?_⟩)) (by rfl) (by rfl) (by rfl) (by decide) (by decide +kernel)) rfl (iH rfl T.e7 (aj (bI dh rfl T.cz boot_len (aj (ah 3) au)) au)) (λC s H fp=>(bE (i:=0) (show Nodup (["_law_k", "_law_askers_here", "_law_script"]:List Str) by decide +kernel) rfl (Or.inl rfl))) (λC s H fp=>gS) (λC s H fp=>(cD (aj (aU (Gw (K:=K) rfl) (ah 1) (ah 0) (λ_ _=>rfl)) (aj (aH b_ aq (aN (bW T aC) (hr.mono (by decide)) rfl T.bV T.bR.kp T.bU .nil aI (aj (aN (jx T aC) (hr.mono (by decide)) rfl T.iY T.iA.kp T.iX .nil aI (aj (ah 2) (aj aq au))) (aj (aH b_ aq (ah 0)) (aj aq au))))) au))))))
   (aB (aJ (aX (i:=5) g7.nd rfl (Or.inl rfl) (aN (afO T aC) (hr.mono (by decide)) rfl T.Ug T.Kg.kp T.Ue .nil aI (aj (ah 0) (aj (ah 1) (aj (ah 2) (aj (ah 3) au)))))))
   (aB (aJ (gH (aX (i:=6) g7.nd rfl (Or.inl rfl) (aU iL (jM (N:=["_law_asker", "_law_askers_here"]) (nt:=1) (fv:=[3]) (c7.of rfl rfl (by rfl) (by rfl) (by repeat (first | exact trivial | refine⟨rfl,?_⟩)) (by rfl) (by rfl) (by rfl) (by decide) (by decide +kernel)) rfl (iH rfl T.e7 (aj aq au)) (λC s H fp=>(bE (i:=0) (show Nodup (["_law_asker", "_law_askers_here"]:List Str) by decide +kernel) rfl (Or.inl rfl))) (λC s H fp=>(uX (dG (aa6 (K:=K) rfl) (ah 0) (ah 1) rfl))) (λC s H fp=>(ah 0))) (aN (bW T aC) (hr.mono (by decide)) rfl T.bV T.bR.kp T.bU .nil aI (aj (aN (jx T aC) (hr.mono (by decide)) rfl T.iY T.iA.kp T.iX .nil aI (aj (ah 0) (aj aq au))) (aj aq (aj aq au)))) (λ_ _=>rfl)))))
   (aB (aJ (dR (yt (uu (bI (aaW rfl) rfl T.C5 boot_all (aj (jM (N:=["_law_bad_here"]) (nt:=1) (fv:=[]) (c7.of rfl rfl (by rfl) (by rfl) (by repeat (first | exact trivial | refine⟨rfl,?_⟩)) (by rfl) (by rfl) (by rfl) (by decide) (by decide +kernel)) rfl (fj (aN (afy T aC) (hr.mono (by decide)) rfl T.Up T.Kq.kp T.Uo .nil aI (aj (aN (jx T aC) (hr.mono (by decide)) rfl T.iY T.iA.kp T.iX .nil aI (aj (ah 0) (aj aq au))) (aj (ah 4) au)))) (λC s H fp=>(bE (i:=0) (show Nodup (["_law_bad_here"]:List Str) by decide +kernel) rfl (Or.inl rfl))) (λC s H fp=>gS) (λC s H fp=>(aN (afL T aC) (hr.mono (by decide)) rfl T.Uk T.Kn.kp T.Uj .nil aI (aj (ah 0) au)))) au)))) (aK (bO jC)) bY))
   (aB (aJ (aX (i:=7) g7.nd rfl (Or.inl rfl) (l8 Fo rfl T.tT boot_list (aj (ah 4) au))))
   (aB (aJ (aX (i:=8) g7.nd rfl (Or.inl rfl) (nF T.Kz (Vc T aC) (hr.mono (by decide)) rfl T.KA T.Jx .nil PB (aj (ah 7) au))))
   (aB (aJ (c8 (ZJ plainAttrs_list PySem.F.slot_list_reverse PySem.F.type_list_reverse ZM (ah 7))))
   (aB (aJ (c8 (jI plainAttrs_list PySem.F.slot_list_append PySem.F.type_list_append kQ (ah 7) (aj (cD (aj (ah 6) (aj aq au))) au))))
   (aB (aJ (aX (i:=9) g7.nd rfl (Or.inl rfl) (dH (aj aq (aj aq au)))))
   (aB (aJ (aX (i:=10) g7.nd rfl (Or.inl rfl) (dH au)))
   (aB (EN PassesOwn.never (cM jd (aH b_ (bI dh rfl T.cz boot_len (aj (ah 5) au)) (bI dh rfl T.cz boot_len (aj (ah 10) au))) aq (bA _))
   (aB (aJ (aX (i:=11) g7.nd rfl (Or.inl rfl) (aH b_ (aH b_ (aN (jx T aC) (hr.mono (by decide)) rfl T.iY T.iA.kp T.iX .nil aI (aj (ah 0) (aj aq au))) (bI dh rfl T.cz boot_len (aj (ah 5) au))) (aH iS aq (bI dh rfl T.cz boot_len (aj (ah 10) au))))))
   (aB (aJ (gH (aX (i:=12) g7.nd rfl (Or.inl rfl) (aH jc (aU iL (dH (aj aq (aj aq (aj aq (aj aq (aj aq au)))))) (aN (bW T aC) (hr.mono (by decide)) rfl T.bV T.bR.kp T.bU .nil aI (aj (ah 11) (aj aq (aj aq au)))) (λ_ _=>rfl)) (aH qj aq (l8 QL rfl T.tR boot_int (aj (uD lZ (bI dh rfl T.cz boot_len (aj (ah 10) au)) aq (bA _)) au)))))))
   (aB (aJ (aX (i:=10) g7.nd rfl (Or.inl rfl) (adL (afn T aC) (hr.mono (by decide)).in1.in1 T.Uc rfl T.q_ rfl T.Ud rfl rfl (aH qx (ah 10) (qt uL (ah 5) rZ (o8 (ah 12)))))))
   (aB (aJ (aX (i:=5) g7.nd rfl (Or.inl rfl) (qt uL (ah 5) (o8 (ah 12)) rZ)))
   (aB (aJ (gH (dR (PW.pt (ED (cM pK (aN (bW T aC) (hr.mono (by decide)) rfl T.bV T.bR.kp T.bU .nil aI (aj (ah 11) (aj aq (aj aq au)))) aq (bA _)) (EC (yt (uu (aN (afQ T aC) (hr.mono (by decide)) rfl T.Um T.Ko.kp T.Ul .nil aI (aj (ah 8) (aj (ah 1) (aj (ah 10) (aj (ah 6) (aj (ah 11) au))))))))))) (aK (bO jC)) bY)))
   (aB (aJ (aX (i:=13) g7.nd rfl (Or.inr rfl) (aN (afo T aC) (hr.mono (by decide)) rfl T.Ur T.Kr.kp T.Uq .nil aI (aj (ah 9) (aj (ah 4) (aj (ah 10) au))))))
   (aB (aJ (dR (dG rW (aN (afP T aC) (hr.mono (by decide)) rfl T.Ui T.Kh.kp T.Uh .nil aI (aj (ah 8) (aj (ah 1) (aj aq (aj aq (aj (ah 10) au)))))) (aU e_ (ah 13) aq (λ_ _=>rfl)) (bA _)) (aK (bO jC)) bY))
   (aK (nQ (i:=10) g7.nd rfl (Or.inl rfl) (N:=["_law_one", "_law_best"]) (nt:=1) (fv:=[13]) (c7.of rfl rfl (by rfl) (by rfl) (by repeat (first | exact trivial | refine⟨rfl,?_⟩)) (by rfl) (by rfl) (by rfl) (by decide) (by decide +kernel)) rfl (fj (ah 10)) (λC s H fp=>(bE (i:=0) (show Nodup (["_law_one", "_law_best"]:List Str) by decide +kernel) rfl (Or.inl rfl))) (λC s H fp=>(uX (dG rW (aU (gW (K:=K) rfl) (ah 0) aq (λ_ _=>rfl)) (aU (gW (K:=K) rfl) (ah 1) aq (λ_ _=>rfl)) (bA _)))) (λC s H fp=>(ah 0))))))))))))
   (aK (bO jC))))))))))))))),?_⟩
  refine aL λN1 k1=>?_;wp_walk using bu,cV;refine⟨a,ns,rfl,hS,fX,TN,λt C p wt z aP sk sw ca sa na eE nc fp H1 sb ht hC hP wo nk hw=>?_⟩;have vX:=(TN.s_ sb).seq hS;clear sb TN V9 hT;have n1:1<=(qR z aP sk sw nc).nc.length:=Nat.le_trans (by decide) nk.n2
  have nM:(qR z aP sk sw nc).nc.length<=1000000:=Nat.le_trans nk.n1 (by decide)
  refine⟨t,rfl,_,bg.of ht,rfl,_,_,rfl,_,_,rfl,rfl,k1 _ _ ?_⟩;refine aL λN2 k2=>?_;wp_walk using bu,cV;refine⟨ns,vX,fX,_,rfl,λal as H2 s2 nal ha a1 a4 ng and=>k2 _ _ ?_⟩;have iP:=s2.seq vX;refine aL λN3 k3=>?_;wp_walk using bu,cV;refine qH (as.length:Int) (λD i ys aA H3=>∃(u:Option V) (c9:List Addr) (zz:List (Int×Int)),ys=c9.map V.ref/\aA = [u,some (.ref al),some (.ref a)]/\Zn H3 D c9 zz/\zz.map (·.1)=as.take i/\(∀y∈zz,1<=y.2/\y.2<=4)/\ao H2 H3/\H2 D=none/\i<=4) (λQ q=>?_) ∅ ∅ ?_ ?_ ?_ ?_
  ·walk_at "rdm";refine⟨_,.inl (aE.of ha),?_⟩;rw[length_map];exact q
  ·intro D hD;exact⟨none,[],[],rfl,rfl,Zn.start,rfl,(λ_ h=>nomatch h),ao.put hD,hD,∅⟩
  ·rintro D i ys aA H3 ⟨u,c9,zz,rfl,rfl,g1,g2,g3,g4,g5,g6⟩;have gl:=congrArg List.length g2;rw[length_map,length_take] at gl;exact⟨g1.l,fS (by rw[length_map,g1.n];lia)⟩
  ·rintro D i ys aA H3 N hN hi ⟨u,c9,zz,rfl,rfl,g1,g2,g3,g4,g5,g6⟩;have gh:i<as.length:=by lia
   wp_walk using bu,cV;have b75:=cy (gm ns 5) (75+(i:Int)) (m:=4) (by decide)
   refine⟨_,aE.of (g4 _ _ ha),_,gU ∅ ∅,ns,g4.seq iP,fX,∅,∅,λp1 cU=>⟨ao.put cU _ _ g1.l,hN _ _ _ ⟨_,c9++[p1],_,by rw[map_append];rfl,rfl,g1.snoc cU _ _,?_,λy hy=>?_,ao.put2 (g4.trans (ao.put cU)) g5,g5,∅⟩⟩⟩
   ·rw[map_append,g2,take_succ_get (getElem?_eq_getElem gh)];simp[gh]
   ·rcases mem_append.mp hy with hy | hy
    ·exact g3 y hy
    ·rw[mem_singleton.mp hy];lia
  rintro shl ys aA H3 ⟨u,c9,sh,rfl,rfl,hz,zf,zs,s3,afS,_⟩;rw[toNat_natCast,take_length] at zf;refine k3 _ _ ?_;have aiU:sh.length=as.length:=by rw[← zf,length_map]
  have ok:iy sh:=⟨∅,∅,λy hy=>⟨(ng y.1 (zf▸mem_map_of_mem hy)).1,(ng y.1 (zf▸mem_map_of_mem hy)).2,(zs y hy).1,(zs y hy).2⟩,zf▸and⟩
  have DU:=s2.trans s3;refine aL λN4 k4=>?_;walk_at "rdd";refine⟨C,a,p,wt,al,qR z aP sk sw nc,fp,ns,counts z,aP,sk,sw,ca,sa,na,eE,as,rfl,hC,hP.same DU,s3.seq iP,fX,hw.same DU,n1,nM,wo.l1,wo.l2,s3 _ _ ha,a1,ng,λD ts ps H4 s4 nD hp pk am=>k4 _ _ ?_⟩;have qU:=s4.seq (s3.seq iP);have ha4:=s4 _ _ (s3 _ _ ha);have V_:=hP.same (DU.trans s4);have Dt:=hz.same s4;clear vX iP ha hP hw hz s2 s3 s4 DU nD afS nal ht zs ng;refine aL λN5 k5=>?_;wp_walk using bu,cV;refine⟨λσ H5=>∃st:Int,σ = [some (.ref a),some (.ref p),some (.ref wt),some (.ref al),some (.ref shl),some (.ref D),some (.int st),none,none,none,none,none,none,none]/\ao H4 H5/\0<=st/\st<=20/\st∉sh.map (·.1),?_,?_⟩
  ·refine qH 21 (λD6 i ys aA H6=>∃(u:Option V) (xs:List Int),ys=xs.map V.int/\aA = [u,some (.ref al)]/\H6 D6=some (.lst ys)/\xs=((List.range i).map λ(k:Nat)=>(k:Int)).filter (λx => !decide (x∈as))/\ao H4 H6/\H4 D6=none/\i<=21) (λQ q=>?_) (by decide) (by decide) ?_ ?_ ?_ ?_
   ·walk_at "rdm";exact q
   ·intro D6 hD;exact⟨none,[],rfl,rfl,aD,rfl,ao.put hD,hD,∅⟩
   ·rintro D6 i ys aA H6 ⟨u,xs,rfl,rfl,g1,g2,g3,g4,g5⟩;have gl:=congrArg List.length g2;have:=length_filter_le (λx => !decide (x∈as)) ((List.range i).map λ(k:Nat)=>(k:Int))
    rw[length_map,length_range] at this;exact⟨g1,fS (by rw[length_map];lia)⟩
   ·rintro D6 i ys aA H6 N hN hi ⟨u,xs,rfl,rfl,g1,g2,g3,g4,g5⟩;walk_at "rdm";refine⟨_,.inl (aE.of (g3 _ _ ha4)),rfl,zB _,?_⟩;rw[vh];refine cj (λhm=>⟨g1,hN _ _ _ ⟨_,xs++[(i:Int)],by rw[map_append];rfl,rfl,aD,?_,ao.put2 g3 g4,g4,∅⟩⟩) λhm=>hN _ _ _ ⟨_,xs,rfl,rfl,g1,?_,g3,g4,∅⟩
    ·rw[range_succ,map_append,filter_append,← g2];simp[of_decide_eq_false hm]
    ·rw[range_succ,map_append,filter_append,← g2];simp[of_decide_eq_true (by simpa using hm:decide ((i:Int)∈as)=true)]
   ·rintro D6 ys aA H6 ⟨u,xs,rfl,rfl,g1,g2,g3,g4,g5⟩;have nf:=RO as ((List.range (21:Int).toNat).map λ(k:Nat)=>(k:Int)) (aei _);rw[← g2,length_map,length_range] at nf;have nf:21<=xs.length+as.length:=nf;have d95:=cy (gm ns 6) 95 (m:=17) (by decide)
    refine⟨ns,g3.seq qU,fX,D6,rfl,_,aE.of g1,_,gU d95.1 ∅,_,rfl,g3,?_⟩
    have hm:=get_mem (O9 xs (show (aQ (gm ns 6) 95 17).toNat<xs.length by lia))
    rw[g2] at hm;obtain⟨h1,h2⟩:=mem_filter.mp hm;obtain⟨kk,Wa,pF⟩:=mem_map.mp h1;have Wa:kk<21:=mem_range.mp Wa;rw[← g2] at pF h2;refine⟨∅,∅,?_⟩
    rw[zf];simpa using h2
  rintro σ H5 ⟨st,rfl,s5,vd,vW,LQ⟩;refine k5 _ _ ?_;have lM:=Dt.same s5;have tX:=s5.seq qU;refine aL λN6 k6=>?_;walk_at "rdd";refine adX ?_;wp_walk using bu,cV;refine⟨ns,tX,fX,_,shl,c9,sh,rfl,lM,ok,λL bs H6 s6 hb=>?_⟩;refine jO L (bs.map V.ref) (λD6 i ys aA H7=>∃(u:Option V),ys=(List.replicate i true).map V.bl/\aA = [u]/\H7 D6=some (.lst ys)/\ao H6 H7/\H6 D6=none/\i<=4) (λQ q=>q) (aE.of hb.l) ?_ ?_ ?_ ?_
  ·intro D6 hD;exact⟨none,rfl,rfl,aD,ao.put hD,hD,∅⟩
  ·rintro D6 i ys aA H7 ⟨u,rfl,rfl,g1,g2,g3,g4⟩;exact⟨g1,fS (by rw[length_map,length_replicate];lia),aE.of (g2 _ _ hb.l)⟩
  ·rintro D6 i x ys aA H7 N hN hx ⟨u,rfl,rfl,g1,g2,g3,g4⟩;obtain⟨b,HG,rfl⟩:=fT hx;obtain⟨eL,bz,b1,b2,b3⟩:=hb.t b (get_mem HG);have hi4:=e8 HG;have U9:=hb.n;walk_at "rdd";exact⟨b,eL,bz,rfl,b1.same g2,b2,b3,λH8 s8=>⟨s8 _ _ g1,hN _ _ _ ⟨_,by rw[List.replicate_succ',map_append];rfl,rfl,aD,ao.put2 (g2.trans s8) g3,g3,∅⟩⟩⟩
  rintro D6 ys aA H7 ⟨u,rfl,rfl,g1,g2,g3,g4⟩;refine⟨D6,rfl,_,aE.of g1,ite_no (by simp) (k6 _ _ ?_)⟩
  have pZ:=s6.trans g2;have xS:=lM.same pZ;have DV:=pZ.seq tX;have jz:=V_.same (s5.trans pZ);have rH:=hp.same (s5.trans pZ);clear Dt lM qU tX V_ hp s5 s6 g1 g2 g3 hb pZ;refine aL λN7 k7=>?_;wp_walk using bu,cV;refine⟨_,.inl xS.sq,λhd DW=>k7 _ _ ?_⟩;have s8:=ao.put (o:=.lst (c9.map V.ref)) DW;have xT:Zn _ hd c9 sh:=(xS.zz.same s8).zn aD;generalize upd H7 hd (.lst (c9.map V.ref))=H8 at s8 xT ⊢;refine aL λN8 k8=>?_;walk_at "rdd";intro x1 d1 vf Wb ne1;have si:=HS (C:=A.cB) vf Wb ne1;refine⟨x1,d1,hd,c9,sh,rfl,aD,xT.same si,∅,λ_ pl bH H9 sb Wc hx=>⟨rfl,k8 _ _ ?_⟩,λno=>absurd ok no⟩
  have dN:hd≠pl:=λz=>by have:=si _ _ xT.l;rw[z,Wc] at this;cases this
  have LU:ao H8 H9:=λb o e=>sb b o (si _ _ e) (bX e vf);have Wd:=s8.trans LU;have oM:=LU _ _ xT.l;clear sb Wc si s8 LU vf Wb ne1 xT;refine aL λN9 k9=>?_;wp_walk using bu,cV;refine⟨⟨_,aE.of oM⟩,_,oM,k9 _ _ ?_⟩;have sA:=ao.put2 (o:=.lst (c9.map V.ref).reverse) Wd DW;have LV:=hx.eO (ys:=(c9.map V.ref).reverse) oM dN;have xU:upd H9 hd (.lst (c9.map V.ref).reverse) hd=some (.lst (c9.map V.ref).reverse):=aD;generalize upd H9 hd (.lst (c9.map V.ref).reverse)=HA at sA LV xU ⊢;clear hx oM Wd;refine aL λVC k10=>?_;wp_walk using bu,cV;refine⟨⟨_,aE.of xU⟩,λpt lO=>⟨_,ao.put lO _ _ xU,by rw[List.length_reverse,length_map,xS.n];lia,k10 _ _ ?_⟩⟩
  have sB:=ao.put2 (o:=.lst ((c9.map V.ref).reverse++[V.ref pt])) (sA.trans (ao.put (o:=.tup [.int st,.int 1]) lO)) DW;have LW:=(LV.same (ao.put (o:=.tup [.int st,.int 1]) lO)).eO (ys:=(c9.map V.ref).reverse++[V.ref pt]) (ao.put lO _ _ xU) dN;generalize upd (upd HA pt (.tup [.int st,.int 1])) hd (.lst ((c9.map V.ref).reverse++[V.ref pt]))=HB at sB LW ⊢;have hzB:=xS.same sB;have hSB:=sB.seq DV;have We:=jz.same sB;have Wf:=rH.same sB;clear LV xU sA sB lO DW xS DV jz rH;refine aL λN11 k11=>?_;wp_walk using bu,cV;intro S nS;refine k11 _ _ ?_;refine aL λN12 PL=>?_;wp_walk using bu,cV;intro Dd Wg;refine PL _ _ ?_;have t1:=ao.put (o:=.lst [.int 0,.int 0]) nS;have t2:=ao.put (o:=.lst []) Wg;have Wh:0<=gq sh 0:=by
   have:=ok.n1;have:=(ok.a _ (mem_of_getElem? (tD (sh:=sh) (t:=0) (by decide) ∅))).2.2.1
   lia
  have w0:tE K A.bJ A.cg A.cB HB shl c9 x1 d1 pl bH S sh nc _ (upd (upd HB S (.lst [.int 0,.int 0])) Dd (.lst [])) D Dd ts ps [] [] 0 0 :=
   ⟨dF.of (t1.trans t2),t2 _ _ aD,LW.same (t1.trans t2),by decide,by have:=ok.n1;lia,by decide,Wh,Wf.same (t1.trans t2),⟨aD,rfl,λi t p e=>by simp at e⟩,jv.start pk,λy hy=>by rw[zf];exact am y (by simpa using hy),rfl⟩
  generalize upd (upd HB S (.lst [.int 0,.int 0])) Dd (.lst [])=HC at w0 ⊢;clear t1 t2 Wg LW Wf Wh pk am;refine adP λB hB=>?_;refine⟨Ag K A.bJ A.cg A.cB HB a p wt al shl c9 st hd x1 d1 pl bH S sh nc,⟨_,D,Dd,ts,ps,[],[],0,0,none,none,none,rfl,w0⟩,?_⟩;clear w0;intro m σ H' hW;refine hW.el ?_;clear hW σ;intro Lp Dd eU dZ fF d7 t u kq tF pI f;walk_at "rdd";have g8:=f.pp.n;have tU:=f.dd.n;have ju:=f.bo.ju;have hm:=f.hm;refine⟨_,.inl (aE.of f.pp.l),_,.inl (aE.of f.dd.l),?_⟩;rw[length_map,length_map,g8,tU];refine cj (λh0=>?_) λh0=>q _;refine⟨λbf H2=>∃m',m' < m/\Ag K A.bJ A.cg A.cB HB a p wt al shl c9 st hd x1 d1 pl bH S sh nc m' bf H2,λ_ _ h=>h,hB _ _ _ ?_⟩;refine aL λN13 k13=>?_;wp_walk using bu,cV;refine⟨ns,f.kt.seq hSB,fX,_,.inl (aE.of f.pp.l),_,.inl (aE.of f.dd.l),k13 _ _ ?_⟩;generalize gm ns 7+_+41*_=c;refine aL λN14 k14=>?_;wp_walk using bu,cV;have d84:=cy c 84 (m:=5) (by decide)
  obtain⟨w,xy,hw0⟩:∃w:Nat,dW [V.int 1,V.int 2,V.int 1,V.int 1,V.int 0] (aQ c 84 5)=some (.int (w:Int))/\w<=2:=by
   have:aQ c 84 5=0\/aQ c 84 5=1\/aQ c 84 5=2\/aQ c 84 5=3\/aQ c 84 5=4:=by lia
   rcases this with e | e | e | e | e <;> rw[e]
   ·exact⟨1,rfl,by decide⟩
   ·exact⟨2,rfl,by decide⟩
   ·exact⟨1,rfl,by decide⟩
   ·exact⟨1,rfl,by decide⟩
   ·exact⟨0,rfl,by decide⟩
  refine⟨λdU H1=>∃k:Nat,(1<=d7.length\/2<=k)/\dU = [some (.ref a),some (.ref p),some (.ref wt),some (.ref al),some (.ref shl),some (.ref Lp),some (.int st),some (.ref hd),some (.ref x1),some (.ref S),some (.ref Dd),some (.int c),some (.int (k:Int)),pI]/\ao H' H1,λo1 lN=>⟨_,aE.of aD,_,xy,_,.inl (aE.of (ao.put lN _ _ f.dd.l)),_,rfl,w+2*(if d7.length=0 then 1 else 0),?_,?_,ao.put lN⟩,?_⟩
  ·split <;> lia
  ·have e:((w:Int)+2*if (((fF.map V.ref).length:Nat):Int)=0 then 1 else 0)=((w+2*(if d7.length=0 then 1 else 0):Nat):Int):=by
    rw[length_map,tU];split <;> split <;> lia
   rw[e]
  rintro dU H1 ⟨k,kk,rfl,s1⟩;refine k14 _ _ ?_;have f1:=f.same s1;clear f s1 xy d84;refine aL λN15 k15=>?_;wp_walk using bu,cV;refine⟨_,aE.of f1.pp.l,λq1 Wi=>?_⟩;simp only[QZ,← map_take];have s1:=ao.put (o:=.lst ((eU.take k).map V.ref)) Wi;generalize upd H1 q1 (.lst ((eU.take k).map V.ref))=Ha at s1 ⊢;refine⟨_,s1 _ _ f1.dd.l,by simp only[length_map,length_take];lia,λq2 xV=>?_⟩
  simp only[← map_append];have s2:=s1.trans (ao.put (o:=.lst ((fF++eU.take k).map V.ref)) xV);have pz:=(((f1.dd.same s1).pz xV).cat (((f1.pp.same s1).pz xV).take k)).same (ao.put (o:=.lst ((fF++eU.take k).map V.ref)) xV);generalize upd Ha q2 (.lst ((fF++eU.take k).map V.ref))=Hb at s2 pz ⊢;have DX:(fF++eU.take k).length=(d7++dZ.take k).length:=pz.n;refine⟨by simp only[length_map,length_append,length_take];lia,pG (d7++dZ.take k),?_,λj v ej=>?_,λD2 is DY jo asc=>?_⟩
  ·intro i j hi hj;rw[length_map,DX] at hi hj;exact adN (f1.bo.cat k) i j hi hj
  ·obtain⟨t,a',b',rfl,et⟩:=pz.key ej;exact⟨t,_,a',b',rfl,et,rfl,rfl⟩
  rw[length_map,DX] at jo asc;obtain⟨eT,eZ,em,n2,pm,LX,hs⟩:=adO DX jo asc;simp only[em];refine k15 _ _ ?_;have hd2:=((pz.sort n2 hs).new DY).pos (ao.put (o:=.lst (eT.map V.ref)) DY) aD;have s3:=s2.trans (ao.put (o:=.lst (eT.map V.ref)) DY);generalize upd Hb D2 (.lst (eT.map V.ref))=Hc at s3 hd2 ⊢;obtain⟨bo2,Wj,ln2⟩:=f1.bo.more pm LX;have l2:1<=eZ.length:=by
   have:=pm.length_eq;rw[length_append,length_take] at this;lia
  have f2:=f1.same s3;clear em hs jo asc pz DY s2 s1 s3 Wi xV DX n2 f1;refine aL λN16 k16=>?_;wp_walk using bu,cV;refine⟨_,aE.of f2.pp.l,λq3 LY=>k16 _ _ ?_⟩;simp only[Q0,← map_drop];have s4:=ao.put (o:=.lst ((eU.drop k).map V.ref)) LY;have hq:=((f2.pp.pz LY).drop k).pos s4 aD;have DZ:=hd2.same s4;have f4:=f2.same s4;generalize upd Hc q3 (.lst ((eU.drop k).map V.ref))=H4 at hq DZ f4 ⊢;clear hd2 f2 s4 LY;have Wk:∀y∈eZ++dZ.drop k,y.q.bT∈sh.map (·.1):=λy hy=>f4.ak y (by
   rcases mem_append.mp hy with hy | hy
   ·rcases mem_append.mp (pm.mem_iff.mp hy) with hy | hy
    ·exact mem_append_left _ hy
    ·exact mem_append_right _ (List.mem_of_mem_take hy)
   ·exact mem_append_right _ (List.mem_of_mem_drop hy))
  have Wl:∀y∈eZ,y.q.bT∈sh.map (·.1):=λy hy=>Wk y (mem_append_left _ hy);have Du:=Wj.ju;refine aL λN17 k17=>?_;wp_walk using bu,cV;refine⟨λdU H5=>dU = [some (.ref a),some (.ref p),some (.ref wt),some (.ref al),some (.ref shl),some (.ref q3),some (.int st),some (.ref hd),some (.ref x1),some (.ref S),some (.ref D2),some (.int c),some (.int (k:Int)),pI]/\ao H4 H5,cj (λ_=>⟨C,x1,p,d1,pl,bH,sh,t,u,st,c,D2,D2,eT,eZ,qR z aP sk sw nc,fp,rfl,f4.x,ok,f4.t0,f4.t1,hC,We.kt f4.kt,n1,nM,DZ,l2,Du,vd,vW,LQ,λH5 s5=>⟨true,rfl,ite_no (by simp) ⟨rfl,s5⟩⟩⟩) λ_=>⟨rfl,λ_ _ e=>e⟩,?_⟩
  rintro dU H5 ⟨rfl,s5⟩;refine k17 _ _ ?_;have f5:=f4.same s5;have hq5:=hq.same s5;have Wm:=DZ.same s5;clear f4 hq DZ s5;refine aL λN18 k18=>?_;walk_at "rdd";refine⟨S,shl,c9,sh,t,u,D2,D2,eT,eZ,rfl,f5.s,hzB.kt f5.kt,ok,f5.t0,f5.t1,f5.u0,f5.u1,Wm,l2,Du,LX,Wl,λt' u' i ta pb H6 sb Wn sp oK Wo ln=>k18 _ _ ?_⟩;have LZ:=K2.of f5.s sb;have Wq:dF HB H6:=λb o e n=>sb b o (f5.kt b o e n) (λz=>by rw[z,nS] at e;cases e)
  have L4:=f5.x.k2 LZ;have hq6:=hq5.k2 LZ;have L5:=Wm.k2 LZ;refine L5.el i ta pb oK Wo λtk d mm b dx ap l pH m' b' aR Wr=>?_;obtain⟨⟨b0,b1⟩,v0,v1,_⟩:=sp.bd ok f5.t0 f5.t1 f5.u0;refine aL λN19 k19=>?_;wp_walk using bu,cV;refine⟨C,x1,p,d1,pl,0,0,bH,sh,t,u,D2,D2,eT,eZ,qR z aP sk sw nc,fp,rfl,L4,ok,f5.t0,f5.t1,Wl,hC,We.kt Wq,nM,L5,Wj,l2,λt'' u'' n H7 xM hx7 fJ Ws=>?_⟩;obtain⟨rfl,rfl⟩:=sp.one fJ;rw[ln] at Ws;cases Ws;have xW:=L4.s_ xM;refine⟨_,bg.of (xW.tup Wr.o),_,rfl,rfl,ite_no (by simp) (k19 _ _ ?_)⟩
  have rH:=L5.kt xW;have Wt:=rH.n;have ub:=xW.tup Wr.o;have DV:H7 S=some (.lst [.int t',.int u']):=xM _ _ Wn (λz=>by have:=L4.o;rw[← z,Wn] at this;cases this)
  refine jO D2 (eT.map V.ref) (λD5 kk ys aA H8=>∃(v:Option V) (xs:List Addr),ys=xs.map V.ref/\aA = [v,some (.ref ta)]/\H8 D5=some (.lst ys)/\ao H7 H8/\H7 D5=none/\dM K A.bJ A.cg H7 D5 xs (jU pb.n (eZ.take kk))) (λQ q=>q) (aE.of rH.l) ?_ ?_ ?_ ?_
  ·intro D5 hD;exact⟨none,[],rfl,rfl,aD,ao.put hD,hD,dM.nil⟩
  ·rintro D5 kk ys aA H8 ⟨v,xs,rfl,rfl,e1,e2,e3,e4⟩;have:=Ru pb.n (eZ.take kk);rw[length_take] at this;exact⟨e1,fS (by rw[length_map,e4.n];lia),aE.of (e2 _ _ rH.l)⟩
  ·rintro D5 kk x ys aA H8 N2 iB hx ⟨v,xs,rfl,rfl,e1,e2,e3,e4⟩;obtain⟨t',pT,rfl⟩:=fT hx;have hk:kk<eZ.length:=by rw[← Wt];exact e8 pT
   refine rH.el kk t' eZ[kk] pT (getElem?_eq_getElem hk) λtk d m b dx ap l pH m' b' aR h1=>?_;have sn:=adF (n:=pb.n) hk;walk_at "rdm";refine⟨_,bg.of (e2 _ _ h1.o),_,rfl,_,bg.of (e2 _ _ ub),_,rfl,rfl,cj (λhq=>?_) λhq=>?_⟩
   ·rw[if_neg (λz=>hq (by rw[z]))] at sn
    refine⟨e1,iB _ _ _ ⟨_,xs++[t'],by rw[map_append];rfl,rfl,aD,ao.put2 e2 e3,e3,?_⟩⟩
    rw[sn];exact e4.snoc ⟨_,_,_,_,_,_,_,_,_,_,_,h1.new e3⟩
   ·rw[if_pos (by simpa using hq)] at sn
    refine iB _ _ _ ⟨_,xs,rfl,rfl,e1,e2,e3,?_⟩;rw[sn];exact e4
  ·rintro D5 ys aA H8 ⟨v,xs,rfl,rfl,e1,e2,e3,e4⟩;rw[length_map,Wt,take_length] at e4;have bl:=Rv LX ⟨pb,mem_of_getElem? Wo,rfl⟩;refine⟨(jU pb.n eZ).length+(dZ.drop k).length,∅,q3,D5,eU.drop k,dZ.drop k,xs,jU pb.n eZ,t',u',_,_,_,rfl,⟨(Wq.trans xW).trans (dF.of e2),e2 _ _ DV,hx7.same e2,b0,b1,v0,v1,(hq6.kt xW).same e2,e4.pos e2 e1,bo2.but _,λy hy=>Wk y ?_,rfl⟩⟩
   rcases mem_append.mp hy with hy | hy
   ·exact mem_append_left _ (mem_filter.mp hy).1
   ·exact mem_append_right _ hy
end
theorem p7{C:List Value->Prop}(h:C []):∀us:List Value,us.length=0->C us:=λ| [],_=>h
theorem cS{n:Nat}{C:List Value->Prop}(h:∀a us,us.length=n->C (a::us)):∀us:List Value,us.length=n+1->C us:=λ| a::us,e=>h a us (Nat.succ.inj e)
theorem L6{K:Frag}{fd:FuncData}{ps:List Str}{ds:List Value}(n:Nat)(e:n+ds.length=ps.length)(h:∀s,K.In s.heap->∀us:List Value,us.length=n->BindsTo s fd ⟨us,[]⟩ (ps.zip (us++ds))):Binds K fd ps ds:=λs us X hl=>h s X us (by rw[length_append] at hl;lia)
theorem gv{C:List Value->Prop}(h:∀a0,C [a0]):∀us:List Value,us.length=1->C us:=cS λa0=>p7 (h a0)
theorem iZ{C:List Value->Prop}(h:∀a0 a1,C [a0,a1]):∀us:List Value,us.length=2->C us:=cS λa0=>cS λa1=>p7 (h a0 a1)
theorem jX{C:List Value->Prop}(h:∀a0 a1 a2,C [a0,a1,a2]):∀us:List Value,us.length=3->C us:=cS λa0=>cS λa1=>cS λa2=>p7 (h a0 a1 a2)
theorem uf{C:List Value->Prop}(h:∀a0 a1 a2 a3,C [a0,a1,a2,a3]):∀us:List Value,us.length=4->C us:=cS λa0=>cS λa1=>cS λa2=>cS λa3=>p7 (h a0 a1 a2 a3)
theorem ug{C:List Value->Prop}(h:∀a0 a1 a2 a3 a4,C [a0,a1,a2,a3,a4]):∀us:List Value,us.length=5->C us:=cS λa0=>cS λa1=>cS λa2=>cS λa3=>cS λa4=>p7 (h a0 a1 a2 a3 a4)
theorem Wu{C:List Value->Prop}(h:∀a0 a1 a2 a3 a4 a5,C [a0,a1,a2,a3,a4,a5]):∀us:List Value,us.length=6->C us:=cS λa0=>cS λa1=>cS λa2=>cS λa3=>cS λa4=>cS λa5=>p7 (h a0 a1 a2 a3 a4 a5)
theorem Wv{C:List Value->Prop}(h:∀a0 a1 a2 a3 a4 a5 a6,C [a0,a1,a2,a3,a4,a5,a6]):∀us:List Value,us.length=7->C us:=cS λa0=>cS λa1=>cS λa2=>cS λa3=>cS λa4=>cS λa5=>cS λa6=>p7 (h a0 a1 a2 a3 a4 a5 a6)
theorem afT{C:List Value->Prop}(h:∀a0 a1 a2 a3 a4 a5 a6 a7 a8 a9,C [a0,a1,a2,a3,a4,a5,a6,a7,a8,a9]):∀us:List Value,us.length=10->C us:=cS λa0=>cS λa1=>cS λa2=>cS λa3=>cS λa4=>cS λa5=>cS λa6=>cS λa7=>cS λa8=>cS λa9=>p7 (h a0 a1 a2 a3 a4 a5 a6 a7 a8 a9)
theorem all_mk{l:W.OpenLaw}{w:World}{K:Frag}{h:Heap}{mg:Str->Option Value}{fa:Addr}{L8 L_ D0 D4 D7 D8 D9 D_ Ma Mb Mc Me Ea xX Eb Ec Mf Mg Mh Ed Mi Mj Ml Mm Mn Mp Mq xY xZ x9 x_ Mr Ms Mt Ef Mu Mv Eg Mw Mx My Mz MA MB MC MD ME MF MG MH MI MJ MK ML MM MN MO MP MQ:Addr}{afU Eh afV afW MR afX afY Ww afZ MS:Option Addr}{af0 af1 af2 af3 af4 af5:Array (Option Value)}{af6 Ei Ej Ek ya El af7 af8 MT MU MV Em MW af9 af_ Wx Wy Wz En WA aga MX MY MZ Eo M0:Value}{agb agc:Nat}{WB WC:Tok}{WD HN HP WE WG WH WI WJ WK WL WM WN WO WQ WR WS WT WU WV WW WX WY WZ W0 W2 W3 W4 W5 W6 W7 W8 W9 W_ Xa Xb Xc Xd Xe Xf Xg Xh Xi Xj Xk Xl Xm Xn Xo Xp Xq Xr Xs Xu:FuncData}{cB:Addr}{bJ:Addr}{cg:Addr}{bQ:Addr}{bK:Addr}{kE:Addr}{iU:Addr}{iV:Addr}{kF:Addr}{bN:Addr}{iW:Addr}{wK:Tok}{wL:Tok}{wM:Tok}{wN:Tok}{wO:Tok}{wQ:Tok}{wR:Tok}{wU:Tok}{wV:Tok}{wW:Tok}{wX:Tok}{wY:Tok}{wZ:Tok}{w4:Tok}{w5:Tok}{w6:Tok}{bw br:Addr}{agd:Option Addr}{Xv:Array Value}{age:Array (Option Value)}(X:K.In h)(G:h.Ns mainGlobals mg)(hfa:mg "law" = some (.ref fa))
  (agf:nsIn K mainGlobals "Shares" = some (some (.ref cB)))
  (agg:nsIn K mainGlobals "Ask" = some (some (.ref bJ)))
  (agh:nsIn K mainGlobals "Due" = some (some (.ref cg)))
  (agi:nsIn K mainGlobals "Plate" = some (some (.ref bQ)))
  (agj:nsIn K mainGlobals "Mended" = some (some (.ref bK)))
  (ax0:nsIn K mainGlobals "check_shares" = some (some (.ref L8)))
  (F0:aO K "check_shares" "check_shares" Ie L8 WD)
  (ax1:nsIn K mainGlobals "least_by_asker" = some (some (.ref L_)))
  (F1:aO K "least_by_asker" "least_by_asker" Ig L_ HN)
  (ax2:findIn K (.ref cB) "__init__" = some (some (.ref D0)))
  (ix2:isFn K (.ref D0)=true)
  (F2:aO K "__init__" "Shares.__init__" Ih D0 HP)
  (ax3:findIn K (.ref cB) "anew" = some (some (.ref D4)))
  (ix3:isFn K (.ref D4)=true)
  (F3:aO K "anew" "Shares.anew" Ii D4 WE)
  (ax4:findIn K (.ref cB) "pick" = some (some (.ref D7)))
  (ix4:isFn K (.ref D7)=true)
  (F4:aO K "pick" "Shares.pick" Ij D7 WG)
  (ax5:findIn K (.ref cB) "check_askers" = some (some (.ref D8)))
  (ix5:isFn K (.ref D8)=true)
  (F5:aO K "check_askers" "Shares.check_askers" Ik D8 WH)
  (ax6:findIn K (.ref cB) "next_turn" = some (some (.ref D9)))
  (ix6:isFn K (.ref D9)=true)
  (F6:aO K "next_turn" "Shares.next_turn" Il D9 WI)
  (ax7:findIn K (.ref bJ) "__init__" = some (some (.ref D_)))
  (ix7:isFn K (.ref D_)=true)
  (F7:aO K "__init__" "Ask.__init__" Im D_ WJ)
  (ax8:nsIn K mainGlobals "check_between" = some (some (.ref Ma)))
  (F8:aO K "check_between" "check_between" Io Ma WK)
  (ax9:nsIn K mainGlobals "check_behind" = some (some (.ref Mb)))
  (F9:aO K "check_behind" "check_behind" Ip Mb WL)
  (agk:nsIn K mainGlobals "check_fields" = some (some (.ref Mc)))
  (Xw:aO K "check_fields" "check_fields" Iq Mc WM)
  (agl:nsIn K mainGlobals "told_behind" = some (some (.ref Me)))
  (Xx:aO K "told_behind" "told_behind" Ir Me WN)
  (agm:nsIn K mainGlobals "reading" = some (some (.ref Ea)))
  (agn:K.lookup Ea=some ⟨af6,afU,.func (fnOf "reading" "reading" (gf iT) (eY iT) (a_ iT) (.ref xX) Ei Ej Ek Eh ya El),af0⟩)
  (Xy:K.lookup xX=some ⟨af7,afV,.seq #[.int 0 WB,.none,.none] agb,af1⟩)
  (ago:codeIn K ya "reading" = true)
  (agp:keepIn K (.ref Ea)=true)
  (agq:nsIn K mainGlobals "writing" = some (some (.ref Eb)))
  (agr:K.lookup Eb=some ⟨af8,afW,.func (fnOf "writing" "writing" (gf kC) (eY kC) (a_ kC) (.ref Ec) MT MU MV MR Em MW),af2⟩)
  (ags:K.lookup Ec=some ⟨af9,afX,.seq #[.int 0 WC,.none,.none,.bool false] agc,af3⟩)
  (agt:codeIn K Em "writing" = true)
  (agu:keepIn K (.ref Eb)=true)
  (agv:nsIn K mainGlobals "resting" = some (some (.ref Mf)))
  (Xz:aO K "resting" "resting" Iu Mf WO)
  (agw:nsIn K mainGlobals "stretch" = some (some (.ref Mg)))
  (XA:aO K "stretch" "stretch" Iv Mg WQ)
  (agx:nsIn K mainGlobals "stretch_by_number" = some (some (.ref Mh)))
  (XC:aO K "stretch_by_number" "stretch_by_number" Iw Mh WR)
  (agy:findIn K (.ref cg) "__init__" = some (some (.ref Ed)))
  (agz:isFn K (.ref Ed)=true)
  (XD:aO K "__init__" "Due.__init__" Iz Ed WS)
  (agA:nsIn K mainGlobals "check_zones" = some (some (.ref Mi)))
  (XE:aO K "check_zones" "check_zones" IA Mi WT)
  (agB:nsIn K mainGlobals "check_turning" = some (some (.ref Mj)))
  (XF:aO K "check_turning" "check_turning" IB Mj WU)
  (agC:nsIn K mainGlobals "check_swing" = some (some (.ref Ml)))
  (XG:aO K "check_swing" "check_swing" IC Ml WV)
  (agD:nsIn K mainGlobals "check_no_detour" = some (some (.ref Mm)))
  (XH:aO K "check_no_detour" "check_no_detour" ID Mm WW)
  (agE:nsIn K mainGlobals "cells_by_ring" = some (some (.ref Mn)))
  (XI:aO K "cells_by_ring" "cells_by_ring" IE Mn WX)
  (agF:nsIn K mainGlobals "cells_by_number" = some (some (.ref Mp)))
  (XJ:aO K "cells_by_number" "cells_by_number" IF Mp WY)
  (agG:nsIn K mainGlobals "numbers_by_cell" = some (some (.ref Mq)))
  (XM:aO K "numbers_by_cell" "numbers_by_cell" IG Mq WZ)
  (agH:findIn K (.ref bQ) "__init__" = some (some (.ref xY)))
  (agI:isFn K (.ref xY)=true)
  (M1:aO K "__init__" "Plate.__init__" II xY W0)
  (agJ:findIn K (.ref bQ) "rings" = some (some (.ref xZ)))
  (XN:isFn K (.ref xZ)=true)
  (agK:findIn K (.ref bK) "rings" = some (some (.ref xZ)))
  (Ep:aO K "rings" "Plate.rings" IJ xZ W2)
  (agL:findIn K (.ref bQ) "has_cell" = some (some (.ref x9)))
  (XO:isFn K (.ref x9)=true)
  (agM:findIn K (.ref bK) "has_cell" = some (some (.ref x9)))
  (Er:aO K "has_cell" "Plate.has_cell" IK x9 W3)
  (agN:findIn K (.ref bQ) "cell_at" = some (some (.ref x_)))
  (XQ:isFn K (.ref x_)=true)
  (agO:findIn K (.ref bK) "cell_at" = some (some (.ref x_)))
  (Es:aO K "cell_at" "Plate.cell_at" IL x_ W4)
  (agP:nsIn K mainGlobals "check_spares" = some (some (.ref Mr)))
  (XR:aO K "check_spares" "check_spares" IM Mr W5)
  (agQ:nsIn K mainGlobals "bad_by_cell" = some (some (.ref Ms)))
  (XS:aO K "bad_by_cell" "bad_by_cell" IP Ms W6)
  (agR:nsIn K mainGlobals "bad_numbers" = some (some (.ref Mt)))
  (XT:aO K "bad_numbers" "bad_numbers" IQ Mt W7)
  (agS:nsIn K mainGlobals "nearest_rings" = some (some (.ref Ef)))
  (agT:K.lookup Ef=some ⟨af_,afY,.func (fnOf "nearest_rings" "nearest_rings" (gf gr) (eY gr) (a_ gr) .none Wx Wy Wz Ww En WA),af4⟩)
  (agU:codeIn K En "nearest_rings" = true)
  (agV:keepIn K (.ref Ef)=true)
  (agW:nsIn K mainGlobals "free_kept_cell" = some (some (.ref Mu)))
  (XU:aO K "free_kept_cell" "free_kept_cell" IS Mu W8)
  (agX:nsIn K mainGlobals "lay_elsewhere" = some (some (.ref Mv)))
  (XW:aO K "lay_elsewhere" "lay_elsewhere" IT Mv W9)
  (agY:findIn K (.ref bK) "__init__" = some (some (.ref Eg)))
  (agZ:isFn K (.ref Eg)=true)
  (XX:aO K "__init__" "Mended.__init__" IU Eg W_)
  (ag0:nsIn K mainGlobals "_law_cell" = some (some (.ref Mw)))
  (XY:aO K "_law_cell" "_law_cell" IV Mw Xa)
  (ag1:nsIn K mainGlobals "_law_draw" = some (some (.ref Mx)))
  (XZ:aO K "_law_draw" "_law_draw" IW Mx Xb)
  (ag2:nsIn K mainGlobals "_law_swing" = some (some (.ref My)))
  (X0:aO K "_law_swing" "_law_swing" IX My Xc)
  (ag3:nsIn K mainGlobals "_law_zones" = some (some (.ref Mz)))
  (X3:aO K "_law_zones" "_law_zones" IY Mz Xd)
  (ag4:nsIn K mainGlobals "_law_cells" = some (some (.ref MA)))
  (X4:aO K "_law_cells" "_law_cells" IZ MA Xe)
  (ag5:nsIn K mainGlobals "_law_bad" = some (some (.ref MB)))
  (X5:aO K "_law_bad" "_law_bad" I0 MB Xf)
  (ag6:nsIn K mainGlobals "_law_made_plate" = some (some (.ref MC)))
  (X6:aO K "_law_made_plate" "_law_made_plate" I_ MC Xg)
  (ag7:nsIn K mainGlobals "_law_askers" = some (some (.ref MD)))
  (X7:aO K "_law_askers" "_law_askers" Ja MD Xh)
  (ag8:nsIn K mainGlobals "_law_behind" = some (some (.ref ME)))
  (X8:aO K "_law_behind" "_law_behind" Jb ME Xi)
  (ag9:nsIn K mainGlobals "_law_ask" = some (some (.ref MF)))
  (X_:aO K "_law_ask" "_law_ask" Jc MF Xj)
  (ag_:nsIn K mainGlobals "_law_row" = some (some (.ref MG)))
  (Yb:aO K "_law_row" "_law_row" Jd MG Xk)
  (aha:nsIn K mainGlobals "_law_made" = some (some (.ref MH)))
  (Yc:aO K "_law_made" "_law_made" Je MH Xl)
  (ahb:nsIn K mainGlobals "_law_number" = some (some (.ref MI)))
  (Yd:aO K "_law_number" "_law_number" Jf MI Xm)
  (ahc:nsIn K mainGlobals "_law_pool" = some (some (.ref MJ)))
  (Ye:aO K "_law_pool" "_law_pool" Jg MJ Xn)
  (ahd:nsIn K mainGlobals "_law_picked" = some (some (.ref MK)))
  (Yg:aO K "_law_picked" "_law_picked" Jh MK Xo)
  (ahe:nsIn K mainGlobals "_law_no" = some (some (.ref ML)))
  (Yh:aO K "_law_no" "_law_no" Ji ML Xp)
  (ahf:nsIn K mainGlobals "_law_no_shares" = some (some (.ref MM)))
  (Yi:aO K "_law_no_shares" "_law_no_shares" Jj MM Xq)
  (ahg:nsIn K mainGlobals "_law_no_pick" = some (some (.ref MN)))
  (Yj:aO K "_law_no_pick" "_law_no_pick" Jk MN Xr)
  (ahh:nsIn K mainGlobals "_law_bad_shares" = some (some (.ref MO)))
  (Yk:aO K "_law_bad_shares" "_law_bad_shares" Jl MO Xs)
  (ahi:nsIn K mainGlobals "_law_turn" = some (some (.ref MP)))
  (Yl:aO K "_law_turn" "_law_turn" Jm MP Xu)
  (Ym:nsIn K mainGlobals "law" = some (some (.ref MQ)))
  (ahj:K.lookup MQ=some ⟨aga,afZ,.func (fnOf "law" "law" (gf kD) (eY kD) (a_ kD) .none MX MY MZ MS Eo M0),af5⟩)
  (ahk:codeIn K Eo "law" = true)
  (ahl:keepIn K (.ref MQ)=true)
  (ahm:plainGet K cB Str.empty=true)
  (ahn:hasDictIn K cB=true)
  (aho:plainOver K cB=true)
  (ahp:findIn K (.ref cB) "__setattr__" = some (some (.builtin "object.__setattr__")))
  (ahq:makesIn K cB=true)
  (ahr:keepIn K (.ref cB)=true)
  (KC:findIn K (.ref cB) "pairs" = some none)
  (CF:findIn K (.ref cB) "turn" = some none)
  (CG:findIn K (.ref cB) "used" = some none)
  (ahs:plainGet K bJ Str.empty=true)
  (aht:hasDictIn K bJ=true)
  (ahu:plainOver K bJ=true)
  (ahv:findIn K (.ref bJ) "__setattr__" = some (some (.builtin "object.__setattr__")))
  (ahw:makesIn K bJ=true)
  (ahx:keepIn K (.ref bJ)=true)
  (KD:findIn K (.ref bJ) "kind" = some none)
  (KG:findIn K (.ref bJ) "first" = some none)
  (KH:findIn K (.ref bJ) "many" = some none)
  (KI:findIn K (.ref bJ) "marks" = some none)
  (KJ:findIn K (.ref bJ) "at" = some none)
  (KL:findIn K (.ref bJ) "asker" = some none)
  (KN:findIn K (.ref bJ) "latest" = some none)
  (KO:findIn K (.ref bJ) "behind" = some none)
  (KP:findIn K (.ref bJ) "early" = some none)
  (ahy:plainGet K cg Str.empty=true)
  (ahz:hasDictIn K cg=true)
  (ahA:plainOver K cg=true)
  (ahB:findIn K (.ref cg) "__setattr__" = some (some (.builtin "object.__setattr__")))
  (ahC:makesIn K cg=true)
  (ahD:keepIn K (.ref cg)=true)
  (KQ:findIn K (.ref cg) "number" = some none)
  (KR:findIn K (.ref cg) "ask" = some none)
  (CM:findIn K (.ref cg) "cells" = some none)
  (ahE:plainGet K bQ Str.empty=true)
  (ahF:hasDictIn K bQ=true)
  (ahG:plainOver K bQ=true)
  (ahH:findIn K (.ref bQ) "__setattr__" = some (some (.builtin "object.__setattr__")))
  (ahI:makesIn K bQ=true)
  (ahJ:keepIn K (.ref bQ)=true)
  (CN:findIn K (.ref bQ) "ring_cells" = some none)
  (CO:findIn K (.ref bQ) "lap" = some none)
  (CQ:findIn K (.ref bQ) "skew" = some none)
  (CT:findIn K (.ref bQ) "swing" = some none)
  (CU:findIn K (.ref bQ) "number_cells" = some none)
  (CV:findIn K (.ref bQ) "cell_numbers" = some none)
  (ahK:plainGet K bK Str.empty=true)
  (ahL:hasDictIn K bK=true)
  (ahM:plainOver K bK=true)
  (ahN:findIn K (.ref bK) "__setattr__" = some (some (.builtin "object.__setattr__")))
  (ahO:makesIn K bK=true)
  (ahP:keepIn K (.ref bK)=true)
  (CW:findIn K (.ref bK) "ring_cells" = some none)
  (CY:findIn K (.ref bK) "lap" = some none)
  (CZ:findIn K (.ref bK) "skew" = some none)
  (C0:findIn K (.ref bK) "swing" = some none)
  (C1:findIn K (.ref bK) "number_cells" = some none)
  (C3:findIn K (.ref bK) "cell_numbers" = some none)
  (C4:findIn K (.ref bK) "moves" = some none)
  (ahQ:W.specialIn K (.ref bQ) "__getattribute__" = some (some (.builtin "type.__getattribute__")))
  (ahR:W.readsIn K bQ (.type "type")=true)
  (ahS:W.findCls K (.ref bQ) (.type "type") "__init__" = some (.val (.ref xY)))
  (Ks:findIn K (.ref bK) "__class__" = some (some (.builtin "object.__class__")))
  (Ku:W.specialIn K (.builtin "object.__class__") "__get__" = some (some (.builtin "getset_descriptor.__get__")))
  (Kv:W.takesIn K (.builtin "object.__class__")=some true)
  (Kw:W.mroIn K bK (.type "object")=some true)
  (Ky:kitOne K (.ref bK) (.ref bQ)=some true)
  (ahT:nsIn K mainGlobals "MOST_PAIRS" = some (some (.int 4 wK)))
  (ahU:nsIn K mainGlobals "GREATEST_ASKER_shares" = some (some (.int 20 wL)))
  (ahV:nsIn K mainGlobals "GREATEST_SHARE" = some (some (.int 4 wM)))
  (ahW:nsIn K mainGlobals "MOST_CELLS" = some (some (.int 16 wN)))
  (ahX:nsIn K mainGlobals "GREATEST_FIRST" = some (some (.int 1000000 wO)))
  (ahY:nsIn K mainGlobals "GREATEST_MARK" = some (some (.int 1000000000 wQ)))
  (ahZ:nsIn K mainGlobals "GREATEST_AT" = some (some (.int 1000000000000 wR)))
  (ah0:nsIn K mainGlobals "GREATEST_ASKER_asks" = some (some (.int 20 wU)))
  (ah1:nsIn K mainGlobals "GREATEST_LATEST" = some (some (.int 10000000000000 wV)))
  (ah2:nsIn K mainGlobals "GREATEST_BEHIND" = some (some (.int 99 wW)))
  (ah3:nsIn K mainGlobals "MOST_ZONES" = some (some (.int 5 wX)))
  (ah4:nsIn K mainGlobals "MOST_RINGS_IN_ZONE" = some (some (.int 40 wY)))
  (ah5:nsIn K mainGlobals "MOST_CELLS_IN_RING" = some (some (.int 60 wZ)))
  (ah6:nsIn K mainGlobals "LEAST_RINGS" = some (some (.int 2 w4)))
  (ah7:nsIn K mainGlobals "MOST_RINGS" = some (some (.int 120 w5)))
  (ah8:nsIn K mainGlobals "MOST_BEATS" = some (some (.int 1000000000 w6)))
  (xh:nsIn K mainGlobals "abs" = some none)
  (C5:nsIn K mainGlobals "all" = some none)
  (C6:nsIn K mainGlobals "bool" = some none)
  (C7:nsIn K mainGlobals "dict" = some none)
  (tQ:nsIn K mainGlobals "enumerate" = some none)
  (tR:nsIn K mainGlobals "int" = some none)
  (pQ:nsIn K mainGlobals "isinstance" = some none)
  (cz:nsIn K mainGlobals "len" = some none)
  (tT:nsIn K mainGlobals "list" = some none)
  (xj:nsIn K mainGlobals "max" = some none)
  (mX:nsIn K mainGlobals "min" = some none)
  (e7:nsIn K mainGlobals "range" = some none)
  (C8:nsIn K mainGlobals "set" = some none)
  (q_:nsIn K mainGlobals "sorted" = some none)
  (C9:nsIn K mainGlobals "sum" = some none)
  (rm:nsIn K mainGlobals "tuple" = some none)
  (ah9:nsIn K mainGlobals "ArmError" = some (some (.ref kE)))
  (ah_:nsIn K mainGlobals "NoPlate" = some (some (.ref iU)))
  (aia:nsIn K mainGlobals "NoAsk" = some (some (.ref iV)))
  (aib:nsIn K mainGlobals "NoOrder" = some (some (.ref kF)))
  (aic:nsIn K mainGlobals "NoRule" = some (some (.ref bN)))
  (aid:nsIn K mainGlobals "TooMany" = some (some (.ref iW)))
  (Dc:excIn K kE [.type "ValueError",.type "Exception",.type "BaseException",.type "object"] "ValueError.__new__" = true)
  (De:excIn K iU [.type "ValueError",.type "Exception",.type "BaseException",.type "object"] "ValueError.__new__" = true)
  (Df:excIn K iV [.type "ValueError",.type "Exception",.type "BaseException",.type "object"] "ValueError.__new__" = true)
  (oJ:excIn K bN [.type "ValueError",.type "Exception",.type "BaseException",.type "object"] "ValueError.__new__" = true)
  (aie:findIn K (.ref bN) "__getattribute__" = some (some (.builtin "BaseException.__getattribute__")))
  (aif:findIn K (.ref bN) "__getattr__" = some none)
  (aih:W.mroIn K bN (.type "BaseException")=some true)
  (Yn:W.mroIn K bN (.type "object")=some true)
  (aii:findIn K (.ref bN) "__class__" = some (some (.builtin "object.__class__")))
  (Dn:kitOne K (.ref bN) (.type "ValueError")=some true)
  (K5:kitOne K (.ref bN) (.ref kE)=some true)
  (aij:W.mroIn K bN (.ref kE)=some true)
  (Di:kitOne K (.ref bN) (.ref iU)=some false)
  (aik:W.mroIn K bN (.ref iU)=some false)
  (Dj:kitOne K (.ref bN) (.ref iV)=some false)
  (ail:W.mroIn K bN (.ref iV)=some false)
  (Dk:kitOne K (.ref bN) (.ref kF)=some false)
  (aim:W.mroIn K bN (.ref kF)=some false)
  (Dl:kitOne K (.ref bN) (.ref bN)=some true)
  (ain:W.mroIn K bN (.ref bN)=some true)
  (Dm:kitOne K (.ref bN) (.ref iW)=some false)
  (aio:W.mroIn K bN (.ref iW)=some false)
  (Dp:excIn K iW [.type "ValueError",.type "Exception",.type "BaseException",.type "object"] "ValueError.__new__" = true)
  (aip:W.specialIn K (.builtin "object.__class__") "__get__" = some (some (.builtin "getset_descriptor.__get__")))
  (aiq:W.takesIn K (.builtin "object.__class__")=some true)
  (C_:nsIn K mainGlobals "ValueError" = some none)
  (air:En = .ref bw)
  (aiV:K.lookup bw=some ⟨.type "code",agd,.fields Xv,age⟩)
  (aiW:Xv[11]? = some (.ref br))
  (ais:W.codeHdIn K bw br=true)
  (ait:h.get? br=some (W.tabObj #[]))
  : ∃(fd:FuncData) (tabs:List (Addr×Addr)),(∀(s:Shared) (v:Value),BindsTo s fd ⟨[v],[]⟩ [("_law_script",v)])/\W.TabsAt tabs h/\∀base:Heap,K.In base->base.Ns mainGlobals mg->(∀q∈tabs,bF mg base q.1 q.2)->bq l.prog w K mg base bx 7 fa fd ["_law_script"] (zR K tabs):=by
 have e:=hfa.symm.trans (mg_of X G Ym);cases e;have F12:=Pr (st:=iT) agn ago agp;have F13:=Pr (st:=kC) agr agt agu;have Yo:=fun_mk (st:=gr) agT agU agV;have Yp:=fun_mk (st:=kD) ahj ahk ahl;have b0:=F0.binds (ps:=["shares"]) λ_ _ _ _ _ _=>gv (λ_=>rfl)
 have b1:=F1.binds (ps:=["dues"]) λ_ _ _ _ _ _=>gv (λ_=>rfl)
 have b2:=F2.binds (ps:=["self", "shares"]) λ_ _ _ _ _ _=>iZ (λ_ _=>rfl);have b3:=F3.binds (ps:=["self"]) λ_ _ _ _ _ _=>gv (λ_=>rfl)
 have b4:=F4.binds (ps:=["self", "plate", "ring", "beat", "dues"]) λ_ _ _ _ _ _=>ug (λ_ _ _ _ _=>rfl);have b5:=F5.binds (ps:=["self", "least"]) λ_ _ _ _ _ _=>iZ (λ_ _=>rfl);have b6:=F6.binds (ps:=["self", "least"]) λ_ _ _ _ _ _=>iZ (λ_ _=>rfl);have b7:=F7.binds (ps:=["self", "kind", "first", "many", "marks", "at", "asker", "latest", "behind", "early"]) λ_ _ _ _ _ _=>afT (λ_ _ _ _ _ _ _ _ _ _=>rfl)
 have b8:=F8.binds (ps:=["number", "least", "greatest", "words"]) λ_ _ _ _ _ _=>uf (λ_ _ _ _=>rfl);have b9:=F9.binds (ps:=["behind"]) λ_ _ _ _ _ _=>gv (λ_=>rfl)
 have b10:=Xw.binds (ps:=["first", "many", "at", "asker", "latest", "behind"]) λ_ _ _ _ _ _=>Wu (λ_ _ _ _ _ _=>rfl)
 have b11:=Xx.binds (ps:=["behind"]) λ_ _ _ _ _ _=>gv (λ_=>rfl)
 have aiu:Binds K (fnOf "reading" "reading" (gf iT) (eY iT) (a_ iT) (.ref xX) Ei Ej Ek Eh ya El) ["first", "many", "at", "asker", "latest", "behind"] [.none,.none]:=L6 4 rfl λs X=>uf λ_ _ _ _=>W.binds_K X rfl Xy rfl rfl rfl
 have aiv:Binds K (fnOf "reading" "reading" (gf iT) (eY iT) (a_ iT) (.ref xX) Ei Ej Ek Eh ya El) ["first", "many", "at", "asker", "latest", "behind"] []:=L6 6 rfl λs X=>Wu λ_ _ _ _ _ _=>W.binds_K X rfl Xy rfl rfl rfl
 have aiw:Binds K (fnOf "writing" "writing" (gf kC) (eY kC) (a_ kC) (.ref Ec) MT MU MV MR Em MW) ["first", "marks", "at", "asker", "latest", "behind", "early"] []:=L6 7 rfl λs X=>Wv λ_ _ _ _ _ _ _=>W.binds_K X rfl ags rfl rfl rfl
 have b14:=Xz.binds (ps:=["at"]) λ_ _ _ _ _ _=>gv (λ_=>rfl)
 have Vm:=XA.binds (ps:=["plate", "ask"]) λ_ _ _ _ _ _=>iZ (λ_ _=>rfl);have b16:=XC.binds (ps:=["plate", "number", "ask"]) λ_ _ _ _ _ _=>jX (λ_ _ _=>rfl);have b17:=XD.binds (ps:=["self", "plate", "number", "ask"]) λ_ _ _ _ _ _=>uf (λ_ _ _ _=>rfl);have b18:=XE.binds (ps:=["zones"]) λ_ _ _ _ _ _=>gv (λ_=>rfl)
 have b19:=XF.binds (ps:=["zones", "lap", "skew"]) λ_ _ _ _ _ _=>jX (λ_ _ _=>rfl);have b20:=XG.binds (ps:=["swing", "rings"]) λ_ _ _ _ _ _=>iZ (λ_ _=>rfl);have Le:=XH.binds (ps:=["swing"]) λ_ _ _ _ _ _=>gv (λ_=>rfl)
 have b22:=XI.binds (ps:=["zones"]) λ_ _ _ _ _ _=>gv (λ_=>rfl)
 have b23:=XJ.binds (ps:=["ring_cells", "spares"]) λ_ _ _ _ _ _=>iZ (λ_ _=>rfl);have b24:=XM.binds (ps:=["number_cells"]) λ_ _ _ _ _ _=>gv (λ_=>rfl)
 have b25:=M1.binds (ps:=["self", "zones", "lap", "skew", "swing"]) λ_ _ _ _ _ _=>ug (λ_ _ _ _ _=>rfl);have b26:=Ep.binds (ps:=["self"]) λ_ _ _ _ _ _=>gv (λ_=>rfl)
 have b27:=Er.binds (ps:=["self", "ring", "place"]) λ_ _ _ _ _ _=>jX (λ_ _ _=>rfl);have b28:=Es.binds (ps:=["self", "number"]) λ_ _ _ _ _ _=>iZ (λ_ _=>rfl);have b29:=XR.binds (ps:=["spares", "ring_cells"]) λ_ _ _ _ _ _=>iZ (λ_ _=>rfl);have b30:=XS.binds (ps:=["plate", "bad"]) λ_ _ _ _ _ _=>iZ (λ_ _=>rfl);have b31:=XT.binds (ps:=["number_cells", "bad_cells"]) λ_ _ _ _ _ _=>iZ (λ_ _=>rfl);have b32:=Yo.binds (ps:=["ring", "rings"]) λ_ _ _ _ _ _=>iZ (λ_ _=>rfl);have b33:=XU.binds (ps:=["ring_cells", "spares", "ring", "used"]) λ_ _ _ _ _ _=>uf (λ_ _ _ _=>rfl);have b34:=XW.binds (ps:=["ring_cells", "spares", "number_cells", "bad_cells"]) λ_ _ _ _ _ _=>uf (λ_ _ _ _=>rfl);have b35:=XX.binds (ps:=["self", "zones", "lap", "skew", "swing", "spares", "bad"]) λ_ _ _ _ _ _=>Wv (λ_ _ _ _ _ _ _=>rfl);have b36:=XY.binds (ps:=["_law_script", "_law_k"]) λ_ _ _ _ _ _=>iZ (λ_ _=>rfl);have b37:=XZ.binds (ps:=["_law_cell_here", "_law_turn_here", "_law_many"]) λ_ _ _ _ _ _=>jX (λ_ _ _=>rfl);have b38:=X0.binds (ps:=["_law_cell_here", "_law_rings"]) λ_ _ _ _ _ _=>iZ (λ_ _=>rfl);have b39:=X3.binds (ps:=["_law_cell_here"]) λ_ _ _ _ _ _=>gv (λ_=>rfl)
 have b40:=X4.binds (ps:=["_law_counts", "_law_spares", "_law_bad_here"]) λ_ _ _ _ _ _=>jX (λ_ _ _=>rfl);have b41:=X5.binds (ps:=["_law_cell_here", "_law_counts", "_law_spares"]) λ_ _ _ _ _ _=>jX (λ_ _ _=>rfl);have b42:=X6.binds (ps:=["_law_script"]) λ_ _ _ _ _ _=>gv (λ_=>rfl)
 have b43:=X7.binds (ps:=["_law_cell_here"]) λ_ _ _ _ _ _=>gv (λ_=>rfl)
 have b44:=X8.binds (ps:=["_law_cell_here", "_law_row_here"]) λ_ _ _ _ _ _=>iZ (λ_ _=>rfl);have b45:=X_.binds (ps:=["_law_cell_here", "_law_row_here", "_law_beat", "_law_world", "_law_askers_here"]) λ_ _ _ _ _ _=>ug (λ_ _ _ _ _=>rfl);have b46:=Yb.binds (ps:=["_law_script", "_law_at", "_law_many", "_law_world", "_law_askers_here"]) λ_ _ _ _ _ _=>ug (λ_ _ _ _ _=>rfl);have b47:=Yc.binds (ps:=["_law_ask_here"]) λ_ _ _ _ _ _=>gv (λ_=>rfl)
 have b48:=Yd.binds (ps:=["_law_one"]) λ_ _ _ _ _ _=>gv (λ_=>rfl)
 have b49:=Ye.binds (ps:=["_law_script", "_law_plate", "_law_world", "_law_askers_here"]) λ_ _ _ _ _ _=>uf (λ_ _ _ _=>rfl);have b50:=Yg.binds (ps:=["_law_rule", "_law_plate", "_law_ring", "_law_beat", "_law_dues"]) λ_ _ _ _ _ _=>ug (λ_ _ _ _ _=>rfl);have b51:=Yh.binds (ps:=["_law_e"]) λ_ _ _ _ _ _=>gv (λ_=>rfl)
 have b52:=Yi.binds (ps:=["_law_shares"]) λ_ _ _ _ _ _=>gv (λ_=>rfl)
 have b53:=Yj.binds (ps:=["_law_rule", "_law_plate", "_law_dues", "_law_stranger", "_law_cell_here"]) λ_ _ _ _ _ _=>ug (λ_ _ _ _ _=>rfl);have b54:=Yk.binds (ps:=["_law_cell_here", "_law_shares"]) λ_ _ _ _ _ _=>iZ (λ_ _=>rfl);have b55:=Yl.binds (ps:=["_law_state", "_law_shares", "_law_dues"]) λ_ _ _ _ _ _=>jX (λ_ _ _=>rfl);have b56:=Yp.binds (ps:=["_law_script"]) λ_ _ _ _ _ _=>gv (λ_=>rfl)
 let A:pN:={ Ax:=L8,Ay:=WD,Az:=L_,AA:=HN,AB:=D0,AD:=HP,AE:=D4,AF:=WE,AG:=D7,AH:=WG,AI:=D8,AJ:=WH,AK:=D9,AL:=WI,AM:=D_,AN:=WJ,AO:=Ma,AQ:=WK,AR:=Mb,AS:=WL,AU:=Mc,AV:=WM,AW:=Me,AX:=WN,AY:=Ea,wH:=(fnOf "reading" "reading" (gf iT) (eY iT) (a_ iT) (.ref xX) Ei Ej Ek Eh ya El),aeN:=WB,AZ:=Eb,A0:=(fnOf "writing" "writing" (gf kC) (eY kC) (a_ kC) (.ref Ec) MT MU MV MR Em MW),aeO:=WC,A1:=Mf,A2:=WO,A3:=Mg,A4:=WQ,A5:=Mh,A6:=WR,A7:=Ed,A8:=WS,A9:=Mi,A_:=WT,Ba:=Mj,Bb:=WU,Bc:=Ml,Bd:=WV,Be:=Mm,Bf:=WW,Bg:=Mn,Bh:=WX,Bj:=Mp,Bk:=WY,Bl:=Mq,Bm:=WZ,wI:=xY,Bo:=W0,tK:=xZ,Bp:=W2,tL:=x9,Bq:=W3,tN:=x_,Br:=W4,Bs:=Mr,Bt:=W5,Bu:=Ms,Bv:=W6,Bw:=Mt,By:=W7,wJ:=Ef,tO:=(fnOf "nearest_rings" "nearest_rings" (gf gr) (eY gr) (a_ gr) .none Wx Wy Wz Ww En WA),BA:=Mu,BB:=W8,BC:=Mv,BD:=W9,BE:=Eg,BF:=W_,BG:=Mw,BH:=Xa,BI:=Mx,BJ:=Xb,BK:=My,BL:=Xc,BN:=Mz,BO:=Xd,BP:=MA,BQ:=Xe,BR:=MB,BS:=Xf,BU:=MC,BV:=Xg,BW:=MD,BX:=Xh,BY:=ME,BZ:=Xi,B0:=MF,B3:=Xj,B4:=MG,B5:=Xk,B6:=MH,B7:=Xl,B8:=MI,B9:=Xm,B_:=MJ,Ca:=Xn,Cb:=MK,Cc:=Xo,Cd:=ML,Ce:=Xp,Cf:=MM,Cg:=Xq,Ci:=MN,Cj:=Xr,Ck:=MO,Cm:=Xs,Cn:=MP,Co:=Xu,Cp:=fa,Cq:=(fnOf "law" "law" (gf kD) (eY kD) (a_ kD) .none MX MY MZ MS Eo M0),cB:=cB,bJ:=bJ,cg:=cg,bQ:=bQ,bK:=bK,kE:=kE,iU:=iU,iV:=iV,kF:=kF,bN:=bN,iW:=iW,wK:=wK,wL:=wL,wM:=wM,wN:=wN,wO:=wO,wQ:=wQ,wR:=wR,wU:=wU,wV:=wV,wW:=wW,wX:=wX,wY:=wY,wZ:=wZ,w4:=w4,w5:=w5,w6:=w6,bw:=bw,br:=br }
 have T:Tx K mg A:={ Jv:=F0,Sf:=b0,Sg:=mg_of X G ax0,Jw:=F1,Sh:=b1,Si:=mg_of X G ax1,Sj:=F2,Jx:=b2,Sk:=F3,Sl:=b3,Sm:=⟨ax3,ix3,F3.kp⟩,So:=F4,Jy:=b4,Jz:=⟨ax4,ix4,F4.kp⟩,Sq:=F5,Ss:=b5,Su:=⟨ax5,ix5,F5.kp⟩,Sv:=F6,Sw:=b6,Sx:=⟨ax6,ix6,F6.kp⟩,Sy:=F7,Cr:=b7,mW:=F8,oG:=b8,oH:=mg_of X G ax8,JA:=F9,Sz:=b9,SA:=mg_of X G ax9,Cs:=Xw,JB:=b10,JC:=mg_of X G agk,Ct:=Xx,JD:=b11,JE:=mg_of X G agl,Cu:=F12,SD:=aiu,SE:=aiv,JF:=mg_of X G agm,JG:=F13,SG:=aiw,SH:=mg_of X G agq,JH:=Xz,SI:=b14,SJ:=mg_of X G agv,JI:=XA,SK:=Vm,SM:=mg_of X G agw,JJ:=XC,SN:=b16,SO:=mg_of X G agx,SQ:=XD,Cv:=b17,JK:=XE,SR:=b18,SS:=mg_of X G agA,JL:=XF,SV:=b19,SW:=mg_of X G agB,JM:=XG,SX:=b20,SY:=mg_of X G agC,JN:=XH,S0:=Le,S2:=mg_of X G agD,JO:=XI,S3:=b22,S4:=mg_of X G agE,Cw:=XJ,JP:=b23,JQ:=mg_of X G agF,Cy:=XM,JR:=b24,JS:=mg_of X G agG,S5:=M1,JT:=b25,S6:=Ep,aeP:=b26,S7:=⟨agJ,XN,Ep.kp⟩,S8:=⟨agK,XN,Ep.kp⟩,S9:=Er,S_:=b27,Tc:=⟨agL,XO,Er.kp⟩,Td:=⟨agM,XO,Er.kp⟩,Te:=Es,Tf:=b28,Tg:=⟨agN,XQ,Es.kp⟩,Ti:=⟨agO,XQ,Es.kp⟩,JU:=XR,Tj:=b29,Tn:=mg_of X G agP,JV:=XS,To:=b30,Tp:=mg_of X G agQ,JW:=XT,Tq:=b31,Tr:=mg_of X G agR,JX:=Yo,Tt:=b32,Tu:=mg_of X G agS,JY:=XU,Tv:=b33,Tw:=mg_of X G agW,JZ:=XW,Tz:=b34,TF:=mg_of X G agX,TJ:=XX,TL:=b35,iA:=XY,iX:=b36,iY:=mg_of X G ag0,bR:=XZ,bU:=b37,bV:=mg_of X G ag1,J0:=X0,TM:=b38,TQ:=mg_of X G ag2,J5:=X3,TR:=b39,TU:=mg_of X G ag3,J6:=X4,TV:=b40,TX:=mg_of X G ag4,J7:=X5,TY:=b41,TZ:=mg_of X G ag5,J8:=X6,T3:=b42,T4:=mg_of X G ag6,J9:=X7,T6:=b43,T7:=mg_of X G ag7,Cz:=X8,J_:=b44,Ka:=mg_of X G ag8,Kc:=X_,T8:=b45,T9:=mg_of X G ag9,Kd:=Yb,T_:=b46,Ua:=mg_of X G ag_,CB:=Yc,Ke:=b47,Kf:=mg_of X G aha,Ub:=Yd,Uc:=b48,Ud:=mg_of X G ahb,Kg:=Ye,Ue:=b49,Ug:=mg_of X G ahc,Kh:=Yg,Uh:=b50,Ui:=mg_of X G ahd,CC:=Yh,Kl:=b51,Km:=mg_of X G ahe,Kn:=Yi,Uj:=b52,Uk:=mg_of X G ahf,Ko:=Yj,Ul:=b53,Um:=mg_of X G ahg,Kq:=Yk,Uo:=b54,Up:=mg_of X G ahh,Kr:=Yl,Uq:=b55,Ur:=mg_of X G ahi,Ut:=Yp,aeQ:=b56,aeR:=mg_of X G Ym,pO:=⟨ahm,ahn,aho,ahp⟩,Kz:=⟨ahq,ax2,ix2,ahr⟩,KA:=mg_of X G agf,KC:=KC,CF:=CF,CG:=CG,aeS:=⟨ahs,aht,ahu,ahv⟩,CH:=⟨ahw,ax7,ix7,ahx⟩,CI:=mg_of X G agg,KD:=KD,KG:=KG,KH:=KH,KI:=KI,KJ:=KJ,KL:=KL,KN:=KN,KO:=KO,KP:=KP,Uv:=⟨ahy,ahz,ahA,ahB⟩,CJ:=⟨ahC,agy,agz,ahD⟩,CK:=mg_of X G agh,KQ:=KQ,KR:=KR,CM:=CM,w_:=⟨ahE,ahF,ahG,ahH⟩,Uw:=⟨ahI,agH,agI,ahJ⟩,KS:=mg_of X G agi,CN:=CN,CO:=CO,CQ:=CQ,CT:=CT,CU:=CU,CV:=CV,xg:=⟨ahK,ahL,ahM,ahN⟩,Ux:=⟨ahO,agY,agZ,ahP⟩,Uy:=mg_of X G agj,CW:=CW,CY:=CY,CZ:=CZ,C0:=C0,C1:=C1,C3:=C3,C4:=C4,Uu:=⟨ahQ,ahR,ahS,M1.kp⟩,Ks:=Ks,Ku:=Ku,Kv:=Kv,Kw:=Kw,Ky:=Ky,Uz:=mg_of X G ahT,UA:=mg_of X G ahU,UB:=mg_of X G ahV,UC:=mg_of X G ahW,UD:=mg_of X G ahX,UE:=mg_of X G ahY,KU:=mg_of X G ahZ,UG:=mg_of X G ah0,UH:=mg_of X G ah1,UI:=mg_of X G ah2,UJ:=mg_of X G ah3,UK:=mg_of X G ah4,UL:=mg_of X G ah5,UM:=mg_of X G ah6,UN:=mg_of X G ah7,KW:=mg_of X G ah8,xh:=mg_none_of X G xh,C5:=mg_none_of X G C5,C6:=mg_none_of X G C6,C7:=mg_none_of X G C7,tQ:=mg_none_of X G tQ,tR:=mg_none_of X G tR,pQ:=mg_none_of X G pQ,cz:=mg_none_of X G cz,tT:=mg_none_of X G tT,xj:=mg_none_of X G xj,mX:=mg_none_of X G mX,e7:=mg_none_of X G e7,C8:=mg_none_of X G C8,q_:=mg_none_of X G q_,C9:=mg_none_of X G C9,rm:=mg_none_of X G rm,KY:=mg_of X G ah9,Dc:=Dc,KZ:=⟨_,_,Dc,by decide⟩,UP:=mg_of X G ah_,De:=De,aeT:=⟨_,_,De,by decide⟩,UQ:=mg_of X G aia,Df:=Df,aeU:=⟨_,_,Df,by decide⟩,UR:=mg_of X G aib,rq:=mg_of X G aic,oJ:=oJ,K4:=⟨_,_,oJ,by decide⟩,Dg:=⟨aie,aif,aih,Yn,aii,aip,aiq⟩,Dh:=abh Yn,Dn:=Dn,K5:=K5,K6:=sF aij,Di:=Di,aeV:=sF aik,Dj:=Dj,aeW:=sF ail,Dk:=Dk,aeX:=sF aim,Dl:=Dl,aeY:=sF ain,Dm:=Dm,aeZ:=sF aio,US:=mg_of X G aid,Dp:=Dp,ae0:=⟨_,_,Dp,by decide⟩,UO:=air,C_:=mg_none_of X G C_ }
 have hT:W.TabsAt [(bw,br)] h:=by
  intro q hq;simp only[mem_cons,not_mem_nil,or_false] at hq;rcases hq with rfl
  ·exact⟨W.codeHd_of_K X ais,ait⟩
 exact⟨(fnOf "law" "law" (gf kD) (eY kD) (a_ kD) .none MX MY MZ MS Eo M0),[(bw,br)],λs v=>.of_eq rfl,hT,λbase _ _ hL=>afR T (hL (bw,br) (by simp))⟩
end _W
/-! aiX names are taken,so aiY no fast copy is laid of the largest tables: the compiled file stays small -/
structure PySem.W.Fast:Prop where(tw10960802441754542418 tw4983969489493386394 tw6407355789452943070 tw9760426838085527601 tw2256096279805998242 tw1323578206576807743 tw17043882522487390653 tw4332933239261828895 tw742373271456713766 tw843373745101944828 tw10741059861501548790 tw11386446783841012638 tw14203284430113590870 tw16519598811419899589 tw6306704470930711808 tw3087582182896337210 tw1522133446203514887 tw7317727069264796602 tw2424368429354067893 tw12087562000904582877 tw11716726962821895338 tw7020098218318167645 tw15247198958870702204 tw250678030302700093 tw1840648582870612224 tw479298265550666807 tw12527949590435615180 tw9339532715083555887 tw6312825703209590003 tw11660629227980432453 tw16780641891854436806 tw17324045445193988024 tw8046099956230928007 tw3813063157252133996 tw1475177051154654328 tw17142727725484746182 tw9240596281466655854 tw11484343603265712187 tw8237250871679565098 tw7615104183510644803 tw14900347786053388975 tw4329402468444559343 tw10117748002902429064 tw182692939868164502 tw8529485655654360496 tw13012581519498023279 tw14763730965074977181 tw1663054602966955899 tw3251032701263009698 tw8115216304968924351 tw7098755011947840711 tw13774395169779887118 tw13187848115883594088 tw13437966498694579434 tw11031433793203007543 tw16793950455059041741 tw3806611611413660451 tw11767831448799510419 tw15969680166815058580 tw13249431971924024498 tw3551740470182126532 tw5689102327012121251 tw17337765336863314314 tw1013288868825468807 tw13730114332266738446 tw197792689747298115 tw13992120830014423554 tw6922967006606029765 tw1381995009066484915 tw11358398272451794152 tw16871525613590826552 tw3056095230436411599 tw10950615441145076660 tw17617192826926212812 tw12918346039263502684 tw11199632347297284523 tw10030516324415655219 tw1921326707528398084 tw13075759072692645029 tw11341326377489595615 tw2673549983872126506 tw14939161799187143160 tw12283175365457170806 tw1472349422411788956 tw17132260590852489355 tw15200414556292570063 tw18113176477581385654 tw16216784055475510621 tw11765722368410759505 tw4574531946277268848 tw11774256664853427058 tw14364850395262894776 tw7169742522202999063 tw53897880913090024 tw1182151866968137607 tw7649338498667143827 tw10560237377662288409 tw892521392700005525 tw86066149687655544 tw12945171666460736022 tw15457147360430423410 tw9217185553632009906 tw9649220766496294089 tw14106860035395260778 tw1482711545186203813 tw14241612112228957394 tw5209681246073533895 tw978808679058168795 tw17092720756467650360 tw12681188770058171656 tw14855828283476966125 tw15024435167935015072 tw3667573563487232674 tw12664348287495865244 tw3602258685604102989 tw611390989247351055 tw3029461217922134652 tw3373024407834984118 tw3778216700102780524 tw12394933461934640627 tw5682007343080864605 tw10076508699992466765 tw3859906402221910915 tw14775184876802100536 tw5125866309687556904 tw5915505729654832247 tw4605099723404117146 tw12547185312292012772 tw4407658874182296385 tw5989588850486788014 tw321695873521522385 tw9599643426840191457 tw7853485370338903502 tw3194556185814923787 tw2367142966851478831 tw660504368504821179 tw18303411860685456344 tw15224129952435686942 tw18337286024123162411 tw11403204181467160745 tw14030288678380313945 tw9731500046078406502 tw8874323992469682914 tw14023719135220642588 tw17990297834030411459 tw4885987413461609040 tw5262490598497334030 tw1539811379348949908 tw9446549610169762292 tw11933202410912225280 tw9343205785635237669 tw1569290023491582641 tw1925511487769929874 tw5975249712179417384 tw14335305449377982315 tw18345458607137131337 tw1311688350734660537 tw16150474015803368226 tw1117069142724866324 tw2807108261787508922 tw8509478132006520311 tw15943007480192334847 tw18342773130018107551 tw14280253510281021995 tw9239312274240882735 tw486237203962054178 tw7487285796439707299 tw12103679161340465199 tw8345818736987904938 tw9607385101576903374 tw10709077224298644946 tw5193228937787932861 tw15671998937171842528 tw16098811772145389484 tw5952170139015595381 tw10749738875103270766 tw1504727040080209316 tw16889681610918218019 tw3176761299804341808 tw77655822249245298 tw2776887292317217599 tw16510027202591957078 tw5788919114840997724 tw158847816990230895 tw17755817795615163615 tw2769512522734730125 tw4621372077413830563 tw12695997898275610391 tw9591970791615092823 tw3726269844721782396 tw2811856034423253246 tw17704214035435282000 tw7571126787836917811 tw16118524205590737115 tw17446895705225233312 tw6319747992078646217 tw2454987650086856953 tw12767620873261206591 tw16434961780042952870 tw10344340431622912744 tw12165102648964213580 tw8024756064927422286 tw7725252139737411751 tw17125167005837514219 tw12682555800360882825 tw12135756273781459706 tw16393019539434369602 tw9302402692799717603 tw7891764968989342910 tw4564427780372034457 tw7295096229424524350 tw104648167684763942 tw7048847113848588609 tw5570896448190471926 tw7058130171243780273 tw3411095408957561814 tw8229878636606552214 tw10202866428105812431 tw7471393151031401893 tw14445756631344315183 tw17183682318411079200 tw5853338038829855744 tw14056711880335810219 tw1787493413822793674 tw15574025673330404524 tw2987860859127687570 tw16440754833908742073 tw16045195880952769972 tw16169685376390537081 tw10001164940157110236 tw16987446113408499399 tw15600179546849092483 tw12673746599043552350 tw1531725375839562042 tw2180246703675022516 tw7313089537062297466 tw6232464670458943568 tw13358548021259880637 tw13358389573231060653 tw6134402199048931638 tw1831661035324850518 tw2076425111969202089 tw11536450631066796619 tw11777866524776602230 tw17622685335253138795 tw12664198295734800173 tw10511197885487571716 tw13952695251184900870 tw2138416352909216729 tw18060808291610219993 tw17140918297202707117 tw14205379824297313053 tw3937373189141010055 tw17366532731890794209 tw7287975724224937960 tw9667912516775397288 tw3772441958357261375 tw16190858077905477414 tw13194357105847865411 tw15609539324536405533 tw14257677352800850702 tw6182493975903352262 tw6849027091638520833 tw15189810891833560033 tw18436614793452060832 tw10949945364442858584 tw12375559831882097848 tw10000815293314648858 tw1579651974651655420 tw1162060721030086909 tw6995658808001567509 tw9395385338252142430 tw185399150515663357 tw12321625604765371744 tw13356643264470830214 tw196847473427656974 tw5448778351633691343 tw14868233291480574062 tw5928520960901590733 tw16955888207686164103 tw17463418037772826620 tw16094696708331055923 tw6022128470809947064 tw12655378272833017628 tw12566016699191588035 tw9470805583475341231 tw15806392053070029031 tw11665020092053494182 tw16725027518613976359 tw14388794650062000452 tw8584375454351100968 tw5865339777687046335 tw6479826005945060105 tw16625025625872930718 tw9288323640865585499 tw4637747873524810159 tw9528425874504905798 tw9649675697129440228 tw10157903752712463865 tw5825028498839917370 tw8218393338833528348 tw5769026152700547366 tw12103092777834866612 tw11471239549906255144 tw16095233733902981484 tw16200177591613084617 tw236080352295999652 tw12398185532029512698 tw11821394275718936376 tw10656761707536828079 tw14802604197969571687 tw13257779389162139406 tw2368584155993940202 tw13836835394563736687 tw3166834482994054215 tw3057859594143098456 tw6159006986556630294 tw15236528362652587497 tw15270874790396429610 tw5775772975258529685 tw10652703065252738596 tw9649299263327612800 tw16754353311475763128 tw13910613127716310542 tw14801001486739756948 tw15866935187209344430 tw9447685321829963143 tw17806192639718958384 tw15472373111715563699 tw7921174915869013407 tw9778718502825062046 tw3060477355729672782 tw8764243313109686092 tw7790174627959352444 tw16603003613694698720 tw14342553605418268618 tw3628081702635017960 tw13317203957437208102 tw8063569732061584201 tw6621146055631396952 tw15592353953140797324 tw9622669344790232068 tw13987781820788163029 tw13224524254989118165 tw7295727735514901024 tw14979396549899972925 tw16093801867550605143 tw8680703025574351247 tw3410874646003520705 tw7454885986646440307 tw7032439615939328344 tw9682336528478901259 tw14036619329089966264 tw2320474722757063031 tw13477459988017076527 tw15317722514186991424 tw5713187563601048665 tw3878393096088732957 tw11385560151553293835 tw7555597343006225725 tw9620205293282744035 tw13937989396513088229 tw7268565052807452425 tw6555675614463883650 tw7979550479620281495 tw2941684642847753298 tw1342054340567351834 tw4100055021955018554 tw7182432598134736622 tw6771027147358402825 tw16991275926943789722 tw4822790303672103902 tw18317143945000470100 tw16142854885620438260 tw6133656374190293999 tw5540042904660620348 tw13030623758879561762 tw14354237713782120682 tw15215945478904938076 tw1922822303285968276 tw14752946970323229401 tw9324010914861641792 tw5671510394392517277 tw1915528214325792177 tw6008663728700513269 tw9978952819720488894 tw8968691337784718793 tw12154837725715640567 tw7533307600550008841 tw16165747007921926757 tw7746678402288994178 tw1236179508769422378 tw11597201335904291369 tw11798621742107449457 tw16429046423214060374 tw1397415196313460804 tw11771612929167650298 tw11639936757854599253 tw14332370976587900891 tw14487497701026200058 tw7135545722181469157 tw8310298924894743163 tw714037360291211914 tw11296379072935419978 tw16885361310828468018 tw9149051315909678875 tw7067797725061333578 tw4687517158502775940 tw7272701152528448580 tw2408279056075885711 tw8969161364802740670 tw11550077819323175476 tw338824635824222607 tw15584059249508671473 tw17457512670613958618 tw12872971196136144680 tw2830537525199244780 tw7435748472188098090 tw5430647202434984584 tw12520230915806834307 tw17885948623118145585 tw7076523034345692826 tw15063270384736828401 tw9825168521864231078 tw4603592495600576088 tw11511077932540684983 tw1717096431891971936 tw17510279390499432448 tw10907059778655100699 tw2317416423974956682 tw9614181001048830250 tw697081595087323465 tw16018103482033001872 tw4441858007809530978 tw5695054550354015598 tw935307140302023724 tw11948312793770616046 tw12368501778108441233 tw8768809606375637294 tw13891326518486520905 tw17828034519717917379 tw5567627283531887311 tw12321553633335574522 tw6320925745955913362 tw13701068019928772374 tw7747192726922599063 tw1971591446384472780 tw7713994478307963818 tw6685507779174060908 tw14868835876159329574 tw2086348845982680847 tw9629231690856069681 tw3156770276073303997 tw11933108946581883867 tw10883107583034108018 tw2618053501794959161 tw16428145418497649672 tw6241320294825014579 tw13168510895172244545 tw8666340643939396138 tw9259204738835374110 tw11016882154622477920 tw6107077581369097926 tw7171524453469493839 tw15996846057150800154 tw13955627395328906925 tw8607327887841835742 tw13233261356098379517 tw4246340807159724676 tw14812938147857660089 tw11047731364110951679 tw9373943214135262875 tw14493301814341949276 tw5025334288258180902 tw180900542615485612 tw9935355480647528194 tw14495540222032981711 tw12491846269462562652 tw1948865559664454245 tw14070879182556853604:True)
open PySem PySem.W PyProof.Rows
set_option maxHeartbeats 0 in
theorem PySem.Challenge.cw_armswing_k36_shares_turns_holds : PySem.Challenge.rw_armswing_k36_shares_turns.Holds := by
 w_on; o_law; k_head; (case hw => w_witness2)
 k_fill
 refine _L.walk_lawT (l := PySem.Challenge.rw_armswing_k36_shares_turns) (k := 7) (x := "_law_script") rfl rfl ⟨rfl, by decide, by decide⟩ (λw h Y => PySem.W.km_in_of Y) ?nt ?F
 case nt => intro w; first | k_is | rfl
 case F =>
  intro w mg fa h Y KX G hmg
  refine' _W.all_mk KX G hmg ?_ ?_ ?_ ?_ ?_ ?_ ?_ ?_ ?_ ?_ ?_ ?_ ?_ ?_ ?_ ?_ ?_ ?_ ?_ ?_ ?_ ?_ ?_ ?_ ?_ ?_ ?_ ?_ ?_ ?_ ?_ ?_ ?_ ?_ ?_ ?_ ?_ ?_ ?_ ?_ ?_ ?_ ?_ ?_ ?_ ?_ ?_ ?_ ?_ ?_ ?_ ?_ ?_ ?_ ?_ ?_ ?_ ?_ ?_ ?_ ?_ ?_ ?_ ?_ ?_ ?_ ?_ ?_ ?_ ?_ ?_ ?_ ?_ ?_ ?_ ?_ ?_ ?_ ?_ ?_ ?_ ?_ ?_ ?_ ?_ ?_ ?_ ?_ ?_ ?_ ?_ ?_ ?_ ?_ ?_ ?_ ?_ ?_ ?_ ?_ ?_ ?_ ?_ ?_ ?_ ?_ ?_ ?_ ?_ ?_ ?_ ?_ ?_ ?_ ?_ ?_ ?_ ?_ ?_ ?_ ?_ ?_ ?_ ?_ ?_ ?_ ?_ ?_ ?_ ?_ ?_ ?_ ?_ ?_ ?_ ?_ ?_ ?_ ?_ ?_ ?_ ?_ ?_ ?_ ?_ ?_ ?_ ?_ ?_ ?_ ?_ ?_ ?_ ?_ ?_ ?_ ?_ ?_ ?_ ?_ ?_ ?_ ?_ ?_ ?_ ?_ ?_ ?_ ?_ ?_ ?_ ?_ ?_ ?_ ?_ ?_ ?_ ?_ ?_ ?_ ?_ ?_ ?_ ?_ ?_ ?_ ?_ ?_ ?_ ?_ ?_ ?_ ?_ ?_ ?_ ?_ ?_ ?_ ?_ ?_ ?_ ?_ ?_ ?_ ?_ ?_ ?_ ?_ ?_ ?_ ?_ ?_ ?_ ?_ ?_ ?_ ?_ ?_ ?_ ?_ ?_ ?_ ?_ ?_ ?_ ?_ ?_ ?_ ?_ ?_ ?_ ?_ ?_ ?_ ?_ ?_ ?_ ?_ ?_ ?_ ?_ ?_ ?_ ?_ ?_ ?_ ?_ ?_ ?_ ?_ ?_ ?_ ?_ ?_ ?_ ?_ ?_ ?_ ?_ ?_ ?_ ?_ ?_ ?_ ?_ ?_ ?_ ?_ ?_ ?_ ?_ ?_ ?_ ?_ ?_ ?_ ?_ ?_ ?_
  all_goals (first | k_is | kit_is | k_exc | exact _L.fun_mk (by k_is) (by k_is) (by k_is) | rfl | exact PySem.W.km_tabs_of Y _ (by decide) | skip)

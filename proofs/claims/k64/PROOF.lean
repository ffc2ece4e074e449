import PyProof.Rows.All
import Wide.All
import OpenK.AllK
import Wide.FinOn
import Lean
import PyProof.EqAt
import PyProof.EqKinds
import PyProof.TupleCall
import PySem.Challenge.RW_armswing_k64_least_order
set_option compiler.extract_closed false
set_option Elab.async false
set_option linter.all false
set_option maxRecDepth 100000
namespace _L
theorem _x1{A:Sort _}{p:A->Prop}{Q:Prop}(h:∃a,p a)(k:∀a,p a->Q):Q:=h.elim k
theorem _x2{A B:Sort _}{p:A->B->Prop}{Q:Prop}(h:∃a b,p a b)(k:∀a b,p a b->Q):Q:=h.elim fun a h=>_x1 h (k a)
theorem _x3{A B C:Sort _}{p:A->B->C->Prop}{Q:Prop}(h:∃a b c,p a b c)(k:∀a b c,p a b c->Q):Q:=h.elim fun a h=>_x2 h (k a)
theorem _x4{A B C D:Sort _}{p:A->B->C->D->Prop}{Q:Prop}(h:∃a b c d,p a b c d)(k:∀a b c d,p a b c d->Q):Q:=h.elim fun a h=>_x3 h (k a)
theorem _x5{A B C D E:Sort _}{p:A->B->C->D->E->Prop}{Q:Prop}(h:∃a b c d e,p a b c d e)(k:∀a b c d e,p a b c d e->Q):Q:=h.elim fun a h=>_x4 h (k a)
theorem _x6{A B C D E F:Sort _}{p:A->B->C->D->E->F->Prop}{Q:Prop}(h:∃a b c d e f,p a b c d e f)(k:∀a b c d e f,p a b c d e f->Q):Q:=h.elim fun a h=>_x5 h (k a)
theorem _x7{A B C D E F G:Sort _}{p:A->B->C->D->E->F->G->Prop}{Q:Prop}(h:∃a b c d e f g,p a b c d e f g)(k:∀a b c d e f g,p a b c d e f g->Q):Q:=h.elim fun a h=>_x6 h (k a)
theorem _x8{A B C D E F G H:Sort _}{p:A->B->C->D->E->F->G->H->Prop}{Q:Prop}(h:∃a b c d e f g h,p a b c d e f g h)(k:∀a b c d e f g h,p a b c d e f g h->Q):Q:=h.elim fun a h=>_x7 h (k a)
theorem _x9{A B C D E F G H I:Sort _}{p:A->B->C->D->E->F->G->H->I->Prop}{Q:Prop}(h:∃a b c d e f g h i,p a b c d e f g h i)(k:∀a b c d e f g h i,p a b c d e f g h i->Q):Q:=h.elim fun a h=>_x8 h (k a)
theorem _a1{A B Q:Prop}(h:A/\B)(k:A->B->Q):Q:=k h.1 h.2
theorem _a2{A B C Q:Prop}(h:A/\B/\C)(k:A->B->C->Q):Q:=_a1 h.2 (k h.1)
theorem _a3{A B C D Q:Prop}(h:A/\B/\C/\D)(k:A->B->C->D->Q):Q:=_a2 h.2 (k h.1)
theorem _a4{A B C D E Q:Prop}(h:A/\B/\C/\D/\E)(k:A->B->C->D->E->Q):Q:=_a3 h.2 (k h.1)
theorem _a5{A B C D E F Q:Prop}(h:A/\B/\C/\D/\E/\F)(k:A->B->C->D->E->F->Q):Q:=_a4 h.2 (k h.1)
theorem _a6{A B C D E F G Q:Prop}(h:A/\B/\C/\D/\E/\F/\G)(k:A->B->C->D->E->F->G->Q):Q:=_a5 h.2 (k h.1)
theorem _a7{A B C D E F G H Q:Prop}(h:A/\B/\C/\D/\E/\F/\G/\H)(k:A->B->C->D->E->F->G->H->Q):Q:=_a6 h.2 (k h.1)
theorem _a8{A B C D E F G H I Q:Prop}(h:A/\B/\C/\D/\E/\F/\G/\H/\I)(k:A->B->C->D->E->F->G->H->I->Q):Q:=_a7 h.2 (k h.1)
theorem _a9{A B C D E F G H I J Q:Prop}(h:A/\B/\C/\D/\E/\F/\G/\H/\I/\J)(k:A->B->C->D->E->F->G->H->I->J->Q):Q:=_a8 h.2 (k h.1)
end _L
local macro_rules|`(tactic|obtain $p:rcasesPatMed:=$e:term)=>do
 let p:=p.raw
 let t:=p[0][0]
 let s:=t[1].getSepArgs
 let n:=s.size
 if p[0].getNumArgs != 1||t[0].getAtomVal != "⟨"||n<2 then Lean.Macro.throwUnsupported
 let z←`(tactic|rcases $e:term with ($(⟨p⟩):rcasesPatMed))
 let I:=Lean.mkIdent
 let g:=e.raw.getId
 let r:=I (.num (if e.raw.isIdent then g else `p) n)
 if !e.raw.isIdent then return←`(tactic|first|(have $r:ident:=$e;obtain $(⟨p⟩):rcasesPatMed:=$r:ident)|$z:tactic)
 let v:Array (Lean.Term×Array (Lean.TSyntax `tactic))←s.mapIdxM fun i x=>do
  let y:=x[0][0]
  let f:=I (.num g i)
  if y.getNumArgs==1&&y[0][0].isIdent&&y[0][0].getId != `rfl then return(⟨y[0][0]⟩,#[]) else return(⟨f.raw⟩,#[←`(tactic|rcases $f:ident with $(⟨x⟩):rcasesPatLo)])
 let y:Lean.TSyntax `tactic←((List.range 18).filter fun i=>i%9+1<n).foldlM (init:=z) fun (z:Lean.TSyntax `tactic) (i:Nat)=>do
  let k:=i%9+1
  let l:=I (.str `_L ((if i<9 then"_a"else"_x")++toString k))
  let q:=k+1==n
  let a:=v.extract 0 (if q then n else k)
  let m:=p.setArg 0 (p[0].setArg 0 (t.setArg 1 (Lean.Syntax.mkSep (s.extract k n) (.atom .none ", "))))
  let x←`(tactic|obtain $(⟨m⟩):rcasesPatMed:=$r:ident)
  let o:=a.flatMap (fun x=>x.2)++if q then#[]else#[x]
  let a:=a.map (fun x=>x.1)++if q then#[]else#[⟨r.raw⟩]
  `(tactic|first|(refine $l $e ?_;(try clear $e);intro $a*;$[$o:tactic];*)|$z:tactic)
 return y
local macro_rules|`(tactic|rintro $p:rintroPat*)=>do
 let some i:=p.findIdx? fun p=>p.raw[0][0].getAtomVal=="⟨"&&p.raw[0][1].getSepArgs.size>2|Lean.Macro.throwUnsupported
 let r:=Lean.mkIdent (.num `p i)
 let t←`(tactic|(rintro $((p.extract 0 i).push (←`(rintroPat|$r:ident))):rintroPat*;obtain $(⟨p[i]!.raw[0]⟩):rcasesPat:=$r:ident))
 let b:=p.extract (i+1) p.size
 if b.isEmpty then return t else`(tactic|($t:tactic;rintro $b:rintroPat*))
local macro_rules|`(tactic|rcases $e:term with $p:rcasesPatLo)=>do
 let t:=p.raw[0][0]
 if p.raw[1].getNumArgs != 0||t.getNumArgs != 1||t[0][0].getAtomVal != "⟨"||t[0][1].getSepArgs.size<2 then Lean.Macro.throwUnsupported
 `(tactic|obtain $(⟨p.raw[0]⟩):rcasesPatMed:=$e)
namespace _L
open PySem PySem.Spec PyProof.Rows
abbrev FO:=@Array.Perm.refl
abbrev xH:=@Array.getD_eq_getD_getElem?
abbrev FP:=@Array.getElem?_eq_getElem
abbrev xJ:=@Array.getElem?_toList
abbrev Bu:=@Array.length_toList
abbrev FQ:=@Bool.and_eq_true
abbrev sL:=@Bool.eq_iff_iff
abbrev eS:=@Bool.false_ne_true
abbrev FT:=@Calls.callWith_builtin
abbrev FU:=@Calls.evalArgs_plain
abbrev FW:=@Calls.spliced_cons
abbrev FY:=@Calls.spliced_nil
abbrev FZ:=@Heap.SameBut.update
abbrev Bv:=@Heap.get?_none_of_le
abbrev dg:=@Heap.get?_push_of_some
abbrev fU:=@Heap.get?_push_size
abbrev F_:=@Heap.get?_update_self
abbrev cD:=@Heap.lt_size
abbrev vc:=@Heap.size_push
abbrev Bw:=@Int.dvd_refl
abbrev Bx:=@Int.ediv_nonneg
abbrev By:=@Int.emod_emod_of_dvd
abbrev fB:=@Int.emod_lt_of_pos
abbrev fD:=@Int.emod_nonneg
abbrev lq:=@Int.le_refl
abbrev BA:=@Int.le_trans
abbrev pL:=@Int.mul_le_mul
abbrev BB:=@Int.sub_emod
abbrev Ga:=@Int.toNat_of_nonneg
abbrev Gb:=@List.Pairwise.imp
abbrev pN:=@List.all_eq_true
abbrev vd:=@List.any_cons
abbrev sM:=@List.append_assoc
abbrev mF:=@List.append_nil
abbrev pO:=@List.cons_append
abbrev BC:=@List.eq_nil_of_length_eq_zero
abbrev BD:=@List.filterMap_cons
abbrev BE:=@List.filter_append
abbrev qQ:=@List.filter_cons
abbrev BF:=@List.flatMap_append
abbrev xK:=@List.flatMap_cons
abbrev ve:=@List.flatten_cons
abbrev xM:=@List.foldl_append
abbrev oh:=@List.foldl_cons
abbrev kF:=@List.getD_eq_getElem?_getD
abbrev d7:=@List.getElem?_append_left
abbrev d8:=@List.getElem?_append_right
abbrev BG:=@List.getElem?_cons_succ
abbrev aX:=@List.getElem?_eq_getElem
abbrev sN:=@List.getElem?_eq_none
abbrev ie:=@List.getElem?_eq_some_iff
abbrev ju:=@List.getElem?_map
abbrev Gd:=@List.getElem?_set_ne
abbrev Ge:=@List.getElem_append_left
abbrev cO:=@List.getElem_mem
abbrev lz:=@List.getElem_toArray
abbrev fE:=@List.length_append
abbrev eY:=@List.length_cons
abbrev xN:=@List.length_drop
abbrev lA:=@List.length_filter_le
abbrev aR:=@List.length_map
abbrev oq:=@List.length_range
abbrev mG:=@List.length_set
abbrev vf:=@List.length_singleton
abbrev d9:=@List.length_take
abbrev vg:=@List.lookup_cons
abbrev bZ:=@List.map_append
abbrev Gf:=@List.map_congr_left
abbrev dM:=@List.map_cons
abbrev BH:=@List.map_drop
abbrev sO:=@List.map_map
abbrev fM:=@List.mem_append
abbrev pQ:=@List.mem_append_left
abbrev eZ:=@List.mem_append_right
abbrev cE:=@List.mem_cons
abbrev bW:=@List.mem_cons_of_mem
abbrev cA:=@List.mem_cons_self
abbrev fF:=@List.mem_filter
abbrev Gg:=@List.mem_filterMap
abbrev Gh:=@List.mem_flatMap
abbrev mH:=@List.mem_iff_getElem
abbrev fG:=@List.mem_map
abbrev vh:=@List.mem_map_of_mem
abbrev jv:=@List.mem_of_getElem?
abbrev Gi:=@List.mem_of_mem_drop
abbrev pR:=@List.mem_of_mem_take
abbrev Gj:=@List.mem_or_eq_of_mem_set
abbrev gT:=@List.mem_range
abbrev gw:=@List.mem_singleton
abbrev BI:=@List.nodup_append
abbrev lB:=@List.nodup_cons
abbrev Gk:=@List.nodup_iff_pairwise_ne
abbrev BJ:=@List.nodup_nil
abbrev BK:=@List.nodup_range
abbrev BL:=@List.of_mem_zip
abbrev Gm:=@List.pairwise_append
abbrev Gn:=@List.pairwise_iff_getElem
abbrev Gp:=@List.pairwise_map
abbrev xO:=@List.range_succ
abbrev pS:=@List.replicate_succ
abbrev Gq:=@List.reverse_cons
abbrev f9:=@List.size_toArray
abbrev BN:=@List.sum_cons
abbrev xP:=@List.take_append_drop
abbrev eE:=@List.take_length
abbrev ou:=@List.take_of_length_le
abbrev qR:=@Nat.add_le_add_left
abbrev BO:=@Nat.le_of_eq
abbrev jR:=@Nat.le_of_lt
abbrev bH:=@Nat.le_refl
abbrev sP:=@Nat.le_succ
abbrev cX:=@Nat.le_trans
abbrev kG:=@Nat.lt_irrefl
abbrev pT:=@Nat.lt_of_le_of_lt
abbrev gA:=@Nat.lt_of_lt_of_le
abbrev Gr:=@Nat.lt_succ_self
abbrev kH:=@Nat.lt_trans
abbrev xQ:=@Nat.min_eq_left
abbrev Gs:=@Nat.min_eq_right
abbrev pU:=@Nat.ne_of_gt
abbrev dD:=@Nat.ne_of_lt
abbrev BP:=@Nat.sub_self
abbrev BQ:=@Nat.sub_zero
abbrev eF:=@Nat.zero_le
abbrev f_:=@Ne.symm
abbrev qT:=@Option.isSome_iff_exists
abbrev Gu:=@Option.isSome_map
abbrev BR:=@Option.map_some
abbrev dh:=@Option.some.inj
abbrev BS:=@Paired.length
abbrev dj:=@PassesOwn.never
abbrev xR:=@PyProof.Rows.callWith_type1
abbrev jS:=@PySem.F.plainAttrs_list
abbrev Gv:=@PySem.F.slot_dict_get
abbrev BU:=@PySem.F.slot_dict_keyiterator_next
abbrev mJ:=@PySem.F.slot_list_append
abbrev mK:=@PySem.F.type_list_append
abbrev xS:=@PySem.W.callWith_K
abbrev BV:=@PySem.W.cellsFrom_some
abbrev xT:=@PySem.W.hideAll_get
abbrev mL:=@PySem.W.kia_one
abbrev Gw:=@PySem.W.methodCall_KW
abbrev BW:=@PySem.W.of_hideAll
abbrev Gx:=@PySem.W.plainGet_of
abbrev vj:=@PySem.mem_of_lookup
abbrev BX:=@SeqAt.EqAt.int_int
abbrev sQ:=@SeqAt.EqAt.same
abbrev Gy:=@SeqAt.RcAt.lists
abbrev iY:=@W.mg_none_of
abbrev bw:=@W.mg_of
abbrev lC:=@beq_eq_false_iff_ne
abbrev lE:=@beq_iff_eq
abbrev Gz:=@beq_self_eq_true
abbrev ow:=@boot_isinstance
abbrev eT:=@boot_len
abbrev qU:=@boot_list
abbrev xU:=@boot_tuple
abbrev vm:=@call_meets
abbrev xV:=@codeAny_builtin
abbrev xW:=@codeAny_mono
abbrev ig:=@congrArg
abbrev BY:=@decide_eq_decide
abbrev kI:=@decide_eq_false
abbrev kJ:=@decide_eq_true
abbrev xX:=@sizeLine_eq
abbrev xY:=@tupleKind_room_in1
abbrev vn:=@wpAny_Call_Name_kw
abbrev BZ:=@wpAny_attempt
abbrev aM:=@wpAny_bind
abbrev vo:=@wpAny_call
abbrev B0:=@wpAny_call_entry
abbrev sR:=@wpAny_dictEntries
abbrev B3:=@wpAny_dictEpoch
abbrev GA:=@wpAny_eqBool_int
abbrev B4:=@wpAny_execs_cons
abbrev qV:=@wpAny_execs_nil
abbrev pW:=@wpAny_holding
abbrev GB:=@wpAny_isTrue_Compare1
abbrev eL:=@wpAny_mono
abbrev xZ:=@wpAny_newObj_type
abbrev sS:=@wpAny_passesOwn
abbrev bL:=@wpAny_pure
abbrev GC:=@wpAny_specialOf
abbrev pX:=@wpAny_truthy_bool
abbrev B5:=@wpAny_typeNameOfWhole_keyiter
abbrev B6:=@wpAny_typeNameOf_keyiter
noncomputable abbrev Key:=Sum Int Str
noncomputable def vp:Key->Value->Bool
 | .inl k,v=>Value.isInt k v
 | .inr x,v=>Value.isStrOf x v
noncomputable def aaS(w:World):Key->Int
 | .inl k=>hashInt k
 | .inr x=>hashStr w x
theorem pY:∀ {k:Key} {v:Value},vp k v=true->(∃i t,k=Sum.inl i/\v=Value.int i t)\/(∃x t,k=Sum.inr x/\v=Value.str x t)
 | .inl i,v,h=>by
  obtain⟨t,e⟩:=Value.isInt_shape (k:=i) (v:=v) h;exact .inl ⟨i,t,rfl,e⟩
 | .inr x,v,h=>by
  obtain⟨t,e⟩:=Value.isStrOf_shape (x:=x) (v:=v) h;exact .inr ⟨x,t,rfl,e⟩
theorem aaT(i:Int)(t:Tok):vp (.inl i) (.int i t)=true:=by simp[vp,Value.isInt]
theorem aaU(x:Str)(t:Tok):vp (.inr x) (.str x t)=true:=by simp[vp,Value.isStrOf]
theorem aaV(a b:Int):decide ((Sum.inl a:Key)=Sum.inl b)=(a == b):=by
 by_cases e:a=b
 ·subst e;simp
 ·have h:¬ (Sum.inl a:Key)=Sum.inl b:=λq=>e (Sum.inl.inj q);rw[kI h];exact(lC.mpr e).symm
theorem aaW(a b:Str):decide ((Sum.inr a:Key)=Sum.inr b)=decide (a=b):=by
 by_cases e:a=b
 ·subst e;simp
 ·have h:¬ (Sum.inr a:Key)=Sum.inr b:=λq=>e (Sum.inr.inj q);rw[kI h,kI e]
theorem aaX(a:Int)(b:Str):decide ((Sum.inl a:Key)=Sum.inr b)=false:=kI (λq=>nomatch q)
theorem aaY(a:Str)(b:Int):decide ((Sum.inr a:Key)=Sum.inl b)=false:=kI (λq=>nomatch q)
noncomputable def eU(prog:Program)(w:World):PySem.KeyKind prog w Key where
 is:=vp
 hash:=aaS w
 inj:=λv a b ha hb=>by
  rcases pY ha with⟨i,t,rfl,rfl⟩ | ⟨x,t,rfl,rfl⟩
  ·rcases pY hb with⟨j,u,rfl,e⟩ | ⟨y,u,rfl,e⟩
   ·injection e with e1 _;rw[e1]
   ·exact nomatch e
  ·rcases pY hb with⟨j,u,rfl,e⟩ | ⟨y,u,rfl,e⟩
   ·exact nomatch e
   ·injection e with e1 _;rw[e1]
 byValue:=λk v h=>by
  rcases pY h with⟨i,t,rfl,rfl⟩ | ⟨x,t,rfl,rfl⟩ <;> rfl
 pyHash:=λhv h=>by
  rcases pY hv with⟨i,t,rfl,rfl⟩ | ⟨x,t,rfl,rfl⟩
  ·exact wpAny_pyHash_int h
  ·exact wpAny_pyHash_str h
 eqBool:=λhu hv h=>by
  rcases pY hu with⟨i,t,rfl,rfl⟩ | ⟨x,t,rfl,rfl⟩
  ·rcases pY hv with⟨j,u,rfl,rfl⟩ | ⟨y,u,rfl,rfl⟩
   ·rw[aaV] at h;exact GA h
   ·rw[aaX] at h;exact SeqAt.EqAt.int_str i t y u _ _ _ _ h
  ·rcases pY hv with⟨j,u,rfl,rfl⟩ | ⟨y,u,rfl,rfl⟩
   ·rw[aaY] at h;exact SeqAt.EqAt.str_int x t j u _ _ _ _ h
   ·rw[aaW] at h;exact wpAny_eqBool_str h
 «strs» := λk x t v h=>by
  rcases pY h with⟨i,u,rfl,e⟩ | ⟨y,u,rfl,e⟩
  ·exact nomatch e
  ·injection e with e1 _;subst e1;cases v <;> rfl
theorem aaZ(prog:Program)(w:World)(i:Int)(t:Tok):(eU prog w).is (.inl i) (.int i t)=true:=aaT i t
theorem aa0(prog:Program)(w:World)(x:Str)(t:Tok):(eU prog w).is (.inr x) (.str x t)=true:=aaU x t
inductive V where
 | aO | bl (b:Bool) | int (i:Int) | str (x:Str) | iu (b:Array UInt8) | mO (b:UInt64) | ref (a:Addr) | ty (n:String)
 deriving DecidableEq
noncomputable def RelV:V->Value->Prop
 | .aO,u=>u=Value.none
 | .bl b,u=>u=Value.bool b
 | .int i,u=>∃t,u=Value.int i t
 | .str x,u=>∃t,u=Value.str x t
 | .iu b,u=>∃t,u=Value.bytes b t
 | .mO b,u=>∃t,u=Value.float b t
 | .ref a,u=>u=Value.ref a
 | .ty n,u=>u=Value.type n
noncomputable abbrev Vals:List V->List Value->Prop:=Paired RelV
theorem Vals.length{xs:List V}{us:List Value}(r:Vals xs us):xs.length=us.length:=BS r
theorem Vals.get:∀ {xs:List V} {us:List Value} {i:Nat} {x:V},Vals xs us->xs[i]? = some x->∃u,us[i]? = some u/\RelV x u
 | _,_,_,_,.nil,e=>by simp at e
 | _,_,0,_,.cons r _,e=>by simp at e;subst e;exact⟨_,rfl,r⟩
 | _,_,i+1,x,.cons _ t,e=>by
  obtain⟨u,h1,h2⟩:=Vals.get (i:=i) (x:=x) t (by simpa using e)
  exact⟨u,by simpa using h1,h2⟩
theorem Vals.set{x:V}{u:Value}(r:RelV x u):∀ {xs:List V} {us:List Value} (i:Nat),Vals xs us->Vals (xs.set i x) (us.set i u)
 | _,_,_,.nil=>.nil
 | _,_,0,.cons _ t=>.cons r t
 | _,_,i+1,.cons q t=>.cons q (Vals.set r i t)
theorem Vals.append{xs ys:List V}{us ws:List Value}(h:Vals xs us)(g:Vals ys ws):Vals (xs++ys) (us++ws):=by
 induction h with
 | nil=>exact g
 | cons r t ih=>exact .cons r ih
theorem Vals.take:∀ {xs:List V} {us:List Value} (n:Nat),Vals xs us->Vals (xs.take n) (us.take n)
 | _,_,0,_=>.nil
 | _,_,_+1,.nil=>.nil
 | _,_,n+1,.cons r t=>.cons r (Vals.take n t)
theorem Vals.drop:∀ {xs:List V} {us:List Value} (n:Nat),Vals xs us->Vals (xs.drop n) (us.drop n)
 | _,_,0,r=>r
 | _,_,_+1,.nil=>.nil
 | _,_,n+1,.cons _ t=>Vals.drop n t
noncomputable def iw:Option V->Option Value->Prop
 | some v,some u=>RelV v u
 | none,none=>True
 | _,_=>False
def KV{κ:Type}:List (κ×V)->List (κ×Value)->Prop:=Paired λ(p:κ×V) (q:κ×Value)=>p.1=q.1/\RelV p.2 q.2
noncomputable def kV:Key->V
 | .inl i=>.int i
 | .inr x=>.str x
inductive HO where
 /-- a list -/
 | lst (xs:List V)
 /-- a tuple (never changes) -/
 | tup (xs:List V)
 /-- a dict whose keys are ints and texts;one whose keys are tuples of ints and texts (the empty one is both) -/
 | dK (aA:List (Key×V)) | dT (aA:List (List Key×V))
 /-- a set of ints: its members,its size -/
 | set (S:Int->Bool) (n:Nat)
 /-- an instance of the class at C,its dict at dx,its attributes -/
 | ins (C dx:Addr) (fs:List (Str×V))
 /-- the dict of the instance at x -/
 | own (x:Addr)
 /-- the dict of an exception -/
 | xd (fs:List (Str×V))
 /-- a bound method,f of x -/
 | met (f x:Addr)
 /-- a range object lo,lo+1,.. below hi -/
 | B7 (lo hi:Int)
 /-- a thing that is known to the object (the script;a dict while a loop walks it): read,never written while it is so -/
 | iP (o:Obj) (u:HO)
 /-- a code object's table -/
 | fO (ps:Array Value)
 /-- any other thing,by what is true of its one object (a def of one's own: SetO a S n:=HO.ext λh=>..) -/
 | ext (φ:Heap->Prop)
noncomputable abbrev Hp:=Addr->Option HO
noncomputable def upd(H:Hp)(a:Addr)(o:HO):Hp:=λb=>if b=a then some o else H b
theorem aD{H:Hp}{a:Addr}{o:HO}:upd H a o a=some o:=by unfold upd;rw[if_pos rfl]
theorem aI{H:Hp}{a b:Addr}{o:HO}(h:b≠a):upd H a o b=H b:=by unfold upd;rw[if_neg h]
theorem B8{H:Hp}{a:Addr}{o u:HO}:upd (upd H a o) a u=upd H a u:=by
 funext b;unfold upd;split <;> rfl
theorem iZ{H:Hp}{a b:Addr}{o u:HO}(h:H a=some o)(h':H b=some u)(d:o≠u):a≠b:=by
 intro e;subst e;rw[h] at h';exact d (dh h')
theorem bX{H:Hp}{a b:Addr}{o:HO}(h:H a=some o)(h':H b=none):a≠b:=by
 intro e;subst e;rw[h] at h';cases h'
section
variable(P:Program)(w:World)
noncomputable def dU(H:Hp)(h:Heap)(a:Addr):HO->Prop
 | .lst xs=>xs.length<=sizeLine/\∃(aB:List Value) (n:Nat),Vals xs aB/\h.get? a=some { cls:=.type "list",data:=.seq aB.toArray n }
 | .tup xs=>xs.length<=sizeLine/\∃aB:List Value,Vals xs aB/\IsTup h a aB.toArray
 | .dK aA=>aA.length<=sizeLine/\(a == sysModules)=false/\∃vs,KV aA vs/\h.DictOf (eU P w) a vs
 | .dT aA=>aA.length<=sizeLine/\(a == sysModules)=false/\∃xs:List (List Key×Addr×Value),
   Paired (λ(p:List Key×V) (q:List Key×Addr×Value)=>p.1=q.1/\H q.2.1=some (.tup (p.1.map kV))/\RelV p.2 q.2.2) aA xs/\
   ∃o es ep,h.get? a=some o/\o.ExactDict/\o.data = .dict es ep/\es.toList=xs.map (entryOfKey (tupleKind (eU P w)))/\(xs.map (·.1)).Nodup
 | .set S n=>h.SetOf (intKind P w) a S n
 | .ins C dx fs=>H dx=some (.own a)/\fs.length<=1000/\dx≠a/\h.get? a=some (PySem.W.instObj C dx)/\
   ∃mA,h.Ns1 dx mA/\(∀f,iw (fs.lookup f) (mA f))/\PySem.Within mA (fs.map (·.1))
 | .own _=>∃o,h.get? a=some o
 | .xd fs=>∃mA,h.Ns1 a mA/\∀f,iw (fs.lookup f) (mA f)
 | .B7 lo hi=>∃t u v,h.get? a=some { cls:=.type "range",data:=.fields #[.int lo t,.int hi u,.int 1 v] }
 | .iP o u=>h.get? a=some o/\dU H h a u
 | .fO ps=>h.get? a=some { cls:=.none,data:=.fields ps }
 | .met f x=>h.get? a=some (PySem.W.methodObj (.ref f) (.ref x))
 | .ext φ=>φ h/\(∃o,h.get? a=some o)/\∀h1 h2:Heap,φ h1->(∀o,h1.get? a=some o->h2.get? a=some o)->φ h2
def cQ(H:Hp)(h:Heap):Prop:=∀a o,H a=some o->dU P w H h a o
end
section
variable{P:Program}{w:World}{H H':Hp}{h h':Heap}{a:Addr}{o:HO}
theorem dU.lt(x:dU P w H h a o):a<h.objs.size:=by
 cases o with
 | lst xs=>obtain⟨_,_,_,_,e⟩:=x;exact cD e
 | tup xs=>obtain⟨_,_,_,p⟩:=x;exact p.lt
 | dK aA=>obtain⟨_,_,_,_,o,_,_,e,_⟩:=x;exact cD e
 | dT aA=>obtain⟨_,_,_,_,o,_,_,e,_⟩:=x;exact cD e
 | set S n=>obtain⟨o,_,_,_,e,_⟩:=x;exact cD e
 | ins C dx fs=>obtain⟨_,_,_,e,_⟩:=x;exact cD e
 | own y=>obtain⟨_,e⟩:=x;exact cD e
 | xd fs=>obtain⟨_,⟨_,_,_,e,_⟩,_⟩:=x;exact cD e
 | B7 lo hi=>obtain⟨_,_,_,e⟩:=x;exact cD e
 | iP ob u=>obtain⟨e,_⟩:=x;exact cD e
 | fO ps=>exact cD (show h.get? a=some _ from x)
 | met f y=>exact cD (show h.get? a=some _ from x)
 | ext φ=>obtain⟨_,⟨_,e⟩,_⟩:=x;exact cD e
theorem Paired.Rz{α β:Type}{F G:α->β->Prop}{RA:List α}{RB:List β}(h:Paired F RA RB)(f:∀a b,F a b->G a b):Paired G RA RB:=by
 induction h with
 | nil=>exact .nil
 | cons r t ih=>exact .cons (f _ _ r) ih
theorem dU.jw(x:dU P w H h a o)(k:∀b u,(b=a\/H b=some (.own a))->h.get? b=some u->h'.get? b=some u)
  (ho:∀b,H b=some (.own a)->H' b=some (.own a)) (ht:∀b xs,H b=some (.tup xs)->H' b=some (.tup xs)):dU P w H' h' a o:=by
 induction o with
 | lst xs=>obtain⟨z,aB,n,r,e⟩:=x;exact⟨z,aB,n,r,k _ _ (.inl rfl) e⟩
 | tup xs=>obtain⟨z,aB,r,ob,e,c⟩:=x;exact⟨z,aB,r,ob,k _ _ (.inl rfl) e,c⟩
 | dK aA=>obtain⟨z,y,vs,r,ob,es,ep,e,c⟩:=x;exact⟨z,y,vs,r,ob,es,ep,k _ _ (.inl rfl) e,c⟩
 | dT aA =>
  obtain⟨z,y,xs,r,ob,es,ep,e,c⟩:=x;exact⟨z,y,xs,Paired.Rz r λp q z=>⟨z.1,ht _ _ z.2.1,z.2.2⟩,ob,es,ep,k _ _ (.inl rfl) e,c⟩
 | set S n=>obtain⟨ob,es,ep,t,e,c⟩:=x;exact⟨ob,es,ep,t,k _ _ (.inl rfl) e,c⟩
 | ins C dx fs =>
  obtain⟨d,z,ne,e,mA,⟨od,es,ep,e2,c⟩,r⟩:=x;exact⟨ho _ d,z,ne,k _ _ (.inl rfl) e,mA,⟨od,es,ep,k _ _ (.inr d) e2,c⟩,r⟩
 | own y=>obtain⟨ob,e⟩:=x;exact⟨ob,k _ _ (.inl rfl) e⟩
 | xd fs=>obtain⟨mA,⟨od,es,ep,e,c⟩,r⟩:=x;exact⟨mA,⟨od,es,ep,k _ _ (.inl rfl) e,c⟩,r⟩
 | B7 lo hi=>obtain⟨t,u,v,e⟩:=x;exact⟨t,u,v,k _ _ (.inl rfl) e⟩
 | iP ob u ih=>obtain⟨e,q⟩:=x;exact⟨k _ _ (.inl rfl) e,ih q⟩
 | fO ps =>
  have e:h.get? a=some { cls:=.none,data:=.fields ps }:=x
  show h'.get? a=some { cls:=.none,data:=.fields ps };exact k a _ (.inl rfl) e
 | met f y =>
  have e:h.get? a=some (PySem.W.methodObj (.ref f) (.ref y)):=x
  show h'.get? a=some (PySem.W.methodObj (.ref f) (.ref y));exact k a _ (.inl rfl) e
 | ext φ=>obtain⟨p,⟨o,e⟩,st⟩:=x;exact⟨st _ _ p λo q=>k _ _ (.inl rfl) q,⟨o,k _ _ (.inl rfl) e⟩,st⟩
theorem cQ.lt(x:cQ P w H h)(e:H a=some o):a<h.objs.size:=(x a o e).lt
theorem cQ.fresh(x:cQ P w H h)(e:h.objs.size<=a):H a=none:=by
 cases q:H a with
 | none=>rfl
 | some u=>exact absurd (gA (x.lt q) e) (kG _)
theorem cQ.kept(x:cQ P w H h)(k:∀b u,h.get? b=some u->h'.get? b=some u):cQ P w H h':=λa o e =>
 (x a o e).jw (λb u _ q=>k b u q) (λ_ q=>q) λ_ _ q=>q
theorem cQ.laid(x:cQ P w H h)(k:∀b u,h.get? b=some u->h'.get? b=some u)(hp:h.objs.size<=a)(new:dU P w (upd H a o) h' a o):cQ P w (upd H a o) h':=λb u e=>by
 have hn:=x.fresh hp;by_cases hb:b=a
 ·subst hb;rw[aD] at e;cases e;exact new
 ·rw[aI hb] at e;exact(x b u e).jw (λc v _ q=>k c v q) (λc q=>by rw[aI (bX q hn)];exact q) λc xs q=>by rw[aI (bX q hn)];exact q
end
def Rd(H:Hp)(a:Addr)(u:HO):Prop:=H a=some u\/∃o,H a=some (.iP o u)
theorem Rd.ok{P:Program}{w:World}{H:Hp}{h:Heap}{a:Addr}{u:HO}(r:Rd H a u)(x:cQ P w H h):dU P w H h a u:=by
 rcases r with r | ⟨o,r⟩
 ·exact x a u r
 ·obtain⟨_,q⟩:=x a _ r;exact q
noncomputable def x6:Option HO->Prop
 | some (.lst _)=>True
 | some (.dK _)=>True
 | some (.dT _)=>True
 | some (.set _ _)=>True
 | some (.ins _ _ _)=>True
 | some (.ext _)=>True
 | _=>False
section
variable{P:Program}{w:World}{H:Hp}{h h':Heap}{x e:Addr}{o':HO}
theorem cQ.write(ok:cQ P w H h)(mu:x6 (H x))(he:e=x\/H e=some (.own x))(k:∀b u,b≠e->h.get? b=some u->h'.get? b=some u)(vq:∃u,h'.get? e=some u)
  (new:dU P w (upd H x o') h' x o'):cQ P w (upd H x o') h':=λb u q=>by
 have RC:∀c y,H c=some (.own y)->c≠x:=λc y r z=>by subst z;rw[r] at mu;exact mu
 have aa1:∀c xs,H c=some (.tup xs)->c≠x:=λc xs r z=>by subst z;rw[r] at mu;exact mu
 by_cases hb:b=x
 ·subst hb;rw[aD] at q;cases q;exact new
 ·rw[aI hb] at q;by_cases sU:b=e
  ·have q':H b=some (.own x):=by
    rcases he with z | z
    ·exact absurd (sU.trans z) hb
    ·rw[sU];exact z
   rw[q] at q';cases q';obtain⟨v,hv⟩:=vq;exact⟨v,by rw[sU];exact hv⟩
  ·refine(ok b u q).jw (λc v hc r=>k c v ?_ r) (λc r=>by rw[aI (RC c b r)];exact r) λc xs r=>by rw[aI (aa1 c xs r)];exact r
   rcases hc with rfl | hc
   ·exact sU
   ·rintro rfl;rcases he with z | z
    ·exact RC c b hc z
    ·rw[hc] at z;cases z;exact hb rfl
end
structure Un(fs ex:List Addr)(H H':Hp)(h h':Heap):Prop where
 keep:∀b o,h.get? b=some o->H b=none->b∉fs->b∉ex->h'.get? b=some o
 slot:∀b o,h.get? b=some o->H b=none->b∈fs->b∉ex->∃sl,h'.get? b=some { o with slots:=sl }
 free:∀b o,h.get? b=some o->H b=none->b∉ex->H' b=none
 there:∀b o,h.get? b=some o->b∉ex->∃o',h'.get? b=some o'
 lF:∀b xs,H b=some (.tup xs)->H' b=some (.tup xs)
 jT:∀b o u,H b=some (.iP o u)->H' b=some (.iP o u)
 kK:∀b ps,H b=some (.fO ps)->∃more,H' b=some (.fO (ps++more))
section
variable{fs RD ex ex':List Addr}{H H1 H2:Hp}{h h1 h2 h':Heap}{a x e:Addr}{o:HO}
theorem Un.any(u:Un fs ex H H1 h h1){b:Addr}{ob:Obj}(q:h.get? b=some ob)(n:H b=none)(hx:b∉ex):∃sl,h1.get? b=some { ob with slots:=sl }:=by
 by_cases hb:b∈fs
 ·exact u.slot b ob q n hb hx
 ·exact⟨ob.slots,u.keep b ob q n hb hx⟩
theorem Un.kept(k:∀b u,h.get? b=some u->h'.get? b=some u):Un fs ex H H h h' :=
 ⟨λb ob q _ _ _=>k b ob q,λb ob q _ _ _=>⟨ob.slots,k b ob q⟩,λ_ _ _ n _=>n,λb ob q _=>⟨ob,k b ob q⟩,λ_ _ q=>q,λ_ _ _ q=>q,λ_ ps q=>⟨#[],by rw[q];simp⟩⟩
theorem Un.refl:Un fs ex H H h h:=Un.kept λ_ _ q=>q
theorem Un.laid(k:∀b u,h.get? b=some u->h'.get? b=some u)(hp:h.objs.size<=a)(hn:H a=none):Un fs ex H (upd H a o) h h' where
 keep:=λb u q _ _ _=>k b u q
 slot:=λb u q _ _ _=>⟨u.slots,k b u q⟩
 free:=λb u q n _=>by rw[aI (dD (gA (cD q) hp))];exact n
 there:=λb u q _=>⟨u,k b u q⟩
 lF:=λb xs q=>by rw[aI (bX q hn)];exact q
 jT:=λb u xs q=>by rw[aI (bX q hn)];exact q
 kK:=λb ps q=>⟨#[],by rw[aI (bX q hn),q];simp⟩
theorem Un.write(mu:x6 (H x))(he:e=x\/H e=some (.own x))(k:∀b u,b≠e->h.get? b=some u->h'.get? b=some u)(vq:∃u,h'.get? e=some u):Un fs ex H (upd H x o) h h':=by
 have hx:∀b,H b=none->b≠x:=λb n z=>by subst z;rw[n] at mu;exact mu
 have hb:∀b,H b=none->b≠e:=λb n z=>by
  subst z;rcases he with r | r
  ·exact hx b n r
  ·rw[n] at r;cases r
 have hm:∀b u,H b=some u->¬ x6 (some u)->b≠x:=λb u q nm z=>by subst z;rw[q] at mu;exact nm mu
 refine⟨λb u q n _ _=>k b u (hb b n) q,λb u q n _ _=>⟨u.slots,k b u (hb b n) q⟩,λb u q n _=>by rw[aI (hx b n)];exact n,λb u q _=>?_,
  λb xs q=>by rw[aI (hm b _ q λz=>z)];exact q,λb u xs q=>by rw[aI (hm b _ q λz=>z)];exact q,λb ps q=>⟨#[],by rw[aI (hm b _ q λz=>z),q];simp⟩⟩
 by_cases sU:b=e
 ·subst sU;exact vq
 ·exact⟨u,k b u sU q⟩
end
noncomputable def B9(h:Heap)(H:Hp):List Addr:=(List.range h.objs.size).filter λa=>(H a).isSome
noncomputable def jx(h:Heap)(H:Hp):Heap:=PySem.W.hideAll h (B9 h H)
theorem RE(h:Heap)(H:Hp):(jx h H).objs.size=h.objs.size:=PySem.W.hideAll_size _ _
theorem RG{h:Heap}{H:Hp}{b:Addr}{o:Obj}(e:h.get? b=some o)(n:H b=none):(jx h H).get? b=some o :=
 xT _ e λhm=>by
  have q:(H b).isSome=true:=(fF.mp hm).2;rw[n] at q;simp at q
theorem RH{h:Heap}{H:Hp}{b:Addr}{o:Obj}(e:(jx h H).get? b=some o):h.get? b=some o/\H b=none:=by
 have e':h.get? b=some o:=BW (B9 h H) e;refine⟨e',?_⟩;cases q:H b with
 | none=>rfl
 | some x =>
  have hm:b∈B9 h H:=fF.mpr ⟨gT.mpr (cD e'),by simp[q]⟩
  have z:(jx h H).get? b=none:=PySem.W.hideAll_none (B9 h H) hm;rw[z] at e;cases e
noncomputable def x8(g h:Heap)(L:Addr):List (Addr×Obj):=(List.range h.objs.size).filterMap λa=>if a=L\/(g.get? a).isSome=true then none else(h.get? a).map λo=>(a,o)
theorem GD{g h:Heap}{L a:Addr}{o:Obj}(h1:a≠L)(h2:g.get? a=none)(h3:h.get? a=some o):(a,o)∈x8 g h L :=
 Gg.mpr ⟨a,gT.mpr (cD h3),by simp[h1,h2,h3]⟩
theorem aa2{g h:Heap}{L:Addr}{p:Addr×Obj}(hp:p∈x8 g h L):p.1≠L/\g.get? p.1=none/\h.get? p.1=some p.2:=by
 obtain⟨b,_,e⟩:=List.mem_filterMap.mp hp;split at e
 ·cases e
 ·rename_i hn;cases q:h.get? b with
  | none=>rw[q] at e;simp at e
  | some u =>
   rw[q] at e;simp only[Option.map_some,Option.some.injEq] at e;subst e;refine⟨λz=>hn (.inl z),?_,q⟩
   show g.get? b=none;cases r:g.get? b with
   | none=>rfl
   | some v=>exact(hn (.inr (by simp[r]))).elim
noncomputable def rest(g h:Heap)(L d:Addr):List (Addr×Obj):=(x8 g h L).filter λp=>decide (p.1≠d)
theorem B_{g h:Heap}{L d:Addr}:∀p∈rest g h L d,p.1≠d:=λp hp=>of_decide_eq_true (fF.mp hp).2
theorem aa3{g h:Heap}{L d a:Addr}{o:Obj}(h1:a≠L)(h2:g.get? a=none)(h3:h.get? a=some o)(h4:a≠d):(a,o)∈rest g h L d :=
 fF.mpr ⟨GD h1 h2 h3,kJ h4⟩
theorem Ca{g h:Heap}{L:Addr}:News g L h (x8 g h L):=λp hp=>let ⟨a,b,c⟩:=aa2 hp;⟨c,a,b⟩
theorem news_at{g h:Heap}{L d:Addr}{o:Obj}(h1:d≠L)(h2:g.get? d=none)(h3:h.get? d=some o):News g L h ((d,o)::rest g h L d):=λp hp=>by
 rcases cE.mp hp with rfl | hp
 ·exact⟨h3,h1,h2⟩
 ·exact Ca p (fF.mp hp).1
theorem Cb{g h h':Heap}{L d:Addr}{m:Str->Option Value}(k:∀b o,g.get? b=some o->h.get? b=some o)(F:Fr g L h' m)(N:News g L h' (rest g h L d)) :
  ∀b o,b≠L->b≠d->h.get? b=some o->h'.get? b=some o:=λb o h1 h2 e=>by
 cases q:g.get? b with
 | some u =>
  have:=k b u q;rw[e] at this;cases this;exact F.keep b _ q
 | none=>exact(N (b,o) (aa3 h1 q e h2)).1
structure Mod(K:W.Frag)(mg:Str->Option Value)(base:Heap):Prop where
 qW:K.In base
 glob:base.Ns mainGlobals mg
 blt:∃mb,base.Ns builtinsNs mb/\∀x:Str,x≠"__name__"->mb x=bootBuiltins x
 nolimit:base.NoLimit
structure Cx where
 prog:Program
 w:World
 K:W.Frag
 mg:Str->Option Value
 base:Heap
 A:Around
 N:List Str
 bR:Shared
 iy:Hp
 env:Env
 outer:List Env
 stack:List Env
 ex:List Addr
 fn:Str->Bool
 calm:Bool
 pn:List (Addr×Obj)
 xe:Value->Shared->Prop
noncomputable def cK(l:List Env):List Addr:=l.filterMap (·.frame)
noncomputable abbrev Cx.fs(X:Cx):List Addr:=cK X.outer
def Cc(sc:Scope)(x:Str):Prop:=sc.names.lookup x=some .local\/sc.names.lookup x=some .cell\/sc.names.lookup x=some .free
def Loc(sc:Scope)(x:Str):Prop:=sc.names.lookup x=some .local\/sc.names.lookup x=some .cell
noncomputable def Look(env:Env)(h:Heap)(m:Str->Option Value)(x:Str)(u:Value):Prop :=
 (env.kindOf x=some .local/\m x=some u)\/((env.kindOf x=some .cell\/env.kindOf x=some .free)/\∃c,env.cells.lookup x=some c/\h.IsCell c (some u))
structure Cx.Ok(X:Cx):Prop where
 mod:Mod X.K X.mg X.base
 kind:X.env.scope.kind = .function
 glob:X.env.globals=mainGlobals
 blt:X.env.builtins=builtinsNs
 above:X.bR.heap.objs.size<=X.env.locals
 inj:∀x y c,X.env.cells.lookup x=some c->X.env.cells.lookup y=some c->x=y
 has:∀x,(X.env.kindOf x=some .cell\/X.env.kindOf x=some .free)->∃c,X.env.cells.lookup x=some c
 sV:∀x c,X.fn x=true->X.env.cells.lookup x=some c->X.bR.heap.objs.size<=c
 hd:X.calm=true->X.A.handled=none
 frames:X.A.frames=some X.stack
 vt:X.stack=X.outer\/(X.stack=X.env::X.outer/\X.env.frame=some X.env.locals)
 vv:∀b∈X.ex,b≠X.env.locals/\∀x c,X.env.cells.lookup x=some c->c≠b
 bs:∀b o,X.base.get? b=some o->X.bR.heap.get? b=some o/\X.iy b=none
 iz:X.base.objs.size<=X.bR.heap.objs.size
 sW:∀b o,X.base.get? b=some o->b∉X.ex
 sX:∀b∈X.ex,b∉X.fs
 i6:X.bR.heap.FunFrames X.base X.outer
 mQ:∀b∈X.fs,X.iy b=none
structure Inv(X:Cx)(pins:List (Addr×Obj))(σ:List (Option V))(H:Hp)(s:Shared):Prop where
 ok:X.Ok
 os:s.os=X.bR.os
 bare:AllBare s.gens
 base:Un X.fs X.ex X.iy H X.bR.heap s.heap
 loc:∃m,s.heap.Ns X.env.locals m/\∀(i:Nat) (x:Str) (v:V),X.N[i]? = some x->σ[i]? = some (some v)->Cc X.env.scope x->∃u,RelV v u/\Look X.env s.heap m x u
 cell:∀x c,X.env.cells.lookup x=some c->∃v,s.heap.IsCell c v
 free:H X.env.locals=none
 jy:∀x c,X.env.cells.lookup x=some c->H c=none
 pin:∀p∈X.pn++pins,s.heap.get? p.1=some p.2/\H p.1=none/\p.1≠X.env.locals/\p.1∉X.fs/\∀v,p.2.data≠.cell v
 aK:cQ X.prog X.w H s.heap
 len:σ.length=X.N.length
section
variable{X:Cx}{pins:List (Addr×Obj)}{σ:List (Option V)}{H H':Hp}{s:Shared}{h':Heap}
theorem Cx.Ok.aa4(ok:X.Ok){b:Addr}{o:Obj}(e:X.base.get? b=some o):b∉X.fs:=λhb=>by
 have:=(ok.i6.mem hb).1;rw[e] at this;cases this
theorem Inv.bs(I:Inv X pins σ H s):∀b o,X.base.get? b=some o->s.heap.get? b=some o/\H b=none:=λb o e =>
 ⟨I.base.keep b o (I.ok.bs b o e).1 (I.ok.bs b o e).2 (I.ok.aa4 e) (I.ok.sW b o e),I.base.free b o (I.ok.bs b o e).1 (I.ok.bs b o e).2 (I.ok.sW b o e)⟩
theorem Inv.bk(I:Inv X pins σ H s):∀b o,X.base.get? b=some o->s.heap.get? b=some o:=λb o e=>(I.bs b o e).1
theorem Inv.mod(I:Inv X pins σ H s):Mod X.K X.mg X.base:=I.ok.mod
theorem Inv.dW(I:Inv X pins σ H s):X.K.In s.heap:=I.ok.mod.qW.keeps I.bk
theorem Inv.nolimit(I:Inv X pins σ H s):s.heap.NoLimit:=I.ok.mod.nolimit.keeps I.bk
theorem Inv.fr(I:Inv X pins σ H s):∃m,Fr X.base X.env.locals s.heap m :=
 let ⟨m,hn,_⟩:=I.loc
 ⟨m,hn,I.bk,cX I.ok.iz I.ok.above⟩
theorem Inv.lt(I:Inv X pins σ H s):X.env.locals<s.heap.objs.size:=let ⟨_,hn,_⟩:=I.loc;hn.lt
theorem Inv.sz(I:Inv X pins σ H s):X.bR.heap.objs.size<=s.heap.objs.size:=cX I.ok.above (jR I.lt)
theorem Inv.x9(I:Inv X pins σ H s){a:Addr}(h:s.heap.objs.size<=a):a∉X.fs:=λhb=>by
 obtain⟨_,o,ho,_⟩:=I.ok.i6.mem hb;exact absurd (gA (cD ho) (cX I.sz h)) (kG _)
theorem Inv.mR(I:Inv X pins σ H s):∀x c,X.env.cells.lookup x=some c->c≠X.env.locals:=λx c e z=>by
 obtain⟨v,o,ho,hd⟩:=I.cell x c e;obtain⟨m,⟨o',es,ep,jz,fP,_⟩,_⟩:=I.loc;rw[z,jz] at ho;cases ho;rw[fP] at hd;cases hd
theorem Inv.i6(I:Inv X pins σ H s):s.heap.FunFrames X.base X.outer:=by
 have all:∀(l:List Env),(∀b∈cK l,b∈X.fs)->X.bR.heap.FunFrames X.base l->s.heap.FunFrames X.base l:=by
  intro l
  induction l with
  | nil=>intro _ _;trivial
  | cons env r ih =>
   intro hs hl;obtain⟨hk,⟨L,o,hf,hn,ho,hd⟩,hr⟩:=hl;have hL:L∈X.fs:=hs L (by unfold cK;rw[List.filterMap_cons,hf];exact List.mem_cons_self)
   obtain⟨sl,e⟩:=I.base.slot L o ho (I.ok.mQ L hL) hL λz=>I.ok.sX L z hL;exact⟨hk,⟨L,_,hf,hn,e,hd⟩,ih (λb hb=>hs b (by unfold cK;rw[List.filterMap_cons,hf];exact List.mem_cons_of_mem _ hb)) hr⟩
 exact all X.outer (λ_ hb=>hb) I.ok.i6
theorem Inv.stack(I:Inv X pins σ H s):s.heap.FunFrames X.base X.stack:=by
 rcases I.ok.vt with e | ⟨e,hf⟩
 ·rw[e];exact I.i6
 ·rw[e];obtain⟨m,hn,_⟩:=I.loc;refine .cons (by rw[I.ok.kind];decide) hf hn ?_ I.i6
  exact Bv (cX I.ok.iz I.ok.above)
theorem Inv.GF(I:Inv X pins σ H s):∀b∈cK X.stack,b∈X.env.locals::X.fs:=λb hb=>by
 rcases I.ok.vt with e | ⟨e,hf⟩
 ·rw[e] at hb;exact bW _ hb
 ·rw[e] at hb;unfold cK at hb;rw[BD,hf] at hb;exact hb
theorem Inv.Cd(I:Inv X pins σ H s):∀b∈cK X.stack,H b=none:=λb hb=>by
 rcases cE.mp (I.GF b hb) with e | hb
 ·rw[e];exact I.free
 ·obtain⟨_,o,ho,_⟩:=I.ok.i6.mem hb;exact I.base.free b o ho (I.ok.mQ b hb) λz=>I.ok.sX b z hb
theorem Inv.step{g':Array GenState}{t':Nat}{d':Drawn}{ch:List Addr}(I:Inv X pins σ H s)
  (mS:∀b∈ch,(b∈X.ex\/X.bR.heap.objs.size<=b)/\b≠X.env.locals/\(∀x c,X.env.cells.lookup x=some c->c≠b)/\∀p∈X.pn++pins,p.1≠b)
  (keep:∀b o,b≠X.env.locals->b∉X.fs->b∉ch->s.heap.get? b=some o->H b=none->h'.get? b=some o)
  (slot:∀b o,b≠X.env.locals->b∈X.fs->b∉ch->s.heap.get? b=some o->H b=none->∃sl,h'.get? b=some { o with slots:=sl }) (free:∀b o,b∉ch->s.heap.get? b=some o->H b=none->H' b=none)
  (there:∀b o,b∉ch->s.heap.get? b=some o->∃o',h'.get? b=some o')
  (lF:∀b xs,H b=some (.tup xs)->H' b=some (.tup xs)) (jT:∀b o u,H b=some (.iP o u)->H' b=some (.iP o u)) (kK:∀b ps,H b=some (.fO ps)->∃more,H' b=some (.fO (ps++more)))
  (ns:∀m,s.heap.Ns X.env.locals m->h'.Ns X.env.locals m) (aK:cQ X.prog X.w H' h') (hg:AllBare g') :
  Inv X pins σ H' { s with heap:=h',gens:=g',drawn:=d',toks:=t' }:=by
 have RI:∀b o,X.bR.heap.get? b=some o->b≠X.env.locals:=λb o e=>dD (gA (cD e) I.ok.above);have Ce:∀b o,X.bR.heap.get? b=some o->b∉X.ex->b∉ch:=λb o e hx hb=>by
  rcases(mS b hb).1 with z | z
  ·exact hx z
  ·exact absurd (gA (cD e) z) (kG _)
 have cellK:∀x c,X.env.cells.lookup x=some c->∀v,s.heap.IsCell c v->h'.IsCell c v:=λx c e v ⟨o,ho,hd⟩=>by
  have x_:c∉ch:=λz=>(mS c z).2.2.1 x c e rfl;by_cases hc:c∈X.fs
  ·obtain⟨sl,q⟩:=slot c o (I.mR x c e) hc x_ ho (I.jy x c e);exact⟨_,q,hd⟩
  ·exact⟨o,keep c o (I.mR x c e) hc x_ ho (I.jy x c e),hd⟩
 refine⟨I.ok,I.os,hg,⟨λb o e n hb hx=>?_,λb o e n hb hx=>?_,λb o e n hx=>?_,λb o e hx=>?_,λb xs e=>lF b xs (I.base.lF b xs e),λb o xs e=>jT b o xs (I.base.jT b o xs e),λb ps e=>?_⟩,?_,λx c e=>?_,?_,λx c e=>?_,λp hp=>?_,aK,I.len⟩
 ·exact keep b o (RI b o e) hb (Ce b o e hx) (I.base.keep b o e n hb hx) (I.base.free b o e n hx)
 ·obtain⟨sl,e1⟩:=I.base.slot b o e n hb hx;obtain⟨sl',e2⟩:=slot b _ (RI b o e) hb (Ce b o e hx) e1 (I.base.free b o e n hx);exact⟨sl',e2⟩
 ·obtain⟨o',e1⟩:=I.base.there b o e hx;exact free b o' (Ce b o e hx) e1 (I.base.free b o e n hx)
 ·obtain⟨o',e1⟩:=I.base.there b o e hx;exact there b o' (Ce b o e hx) e1
 ·obtain⟨m1,e1⟩:=I.base.kK b ps e;obtain⟨m2,e2⟩:=kK b _ e1;exact⟨m1++m2,by rw[e2,Array.append_assoc]⟩
 ·obtain⟨m,hn,hl⟩:=I.loc;refine⟨m,ns m hn,λi x v e1 e2 e3=>?_⟩;obtain⟨u,r,l⟩:=hl i x v e1 e2 e3;refine⟨u,r,?_⟩;rcases l with l | ⟨k,c,e,z⟩
  ·exact .inl l
  ·exact .inr ⟨k,c,e,cellK x c e _ z⟩
 ·obtain⟨v,z⟩:=I.cell x c e;exact⟨v,cellK x c e v z⟩
 ·obtain⟨m,⟨o,_,_,ho,_⟩,_⟩:=I.loc;exact free _ o (λz=>(mS _ z).2.1 rfl) ho I.free
 ·obtain⟨v,o,ho,hd⟩:=I.cell x c e;exact free c o (λz=>(mS c z).2.2.1 x c e rfl) ho (I.jy x c e)
 ·obtain⟨e,n,ne,nf,d⟩:=I.pin p hp;have x_:p.1∉ch:=λz=>(mS p.1 z).2.2.2 p hp rfl;exact⟨keep p.1 p.2 ne nf x_ e n,free p.1 p.2 x_ e n,ne,nf,d⟩
theorem Inv.un{t':Nat}(I:Inv X pins σ H s)(u:Un X.fs [] H H' s.heap h')(aK:cQ X.prog X.w H' h'):Inv X pins σ H' { s with heap:=h',toks:=t' }:=by
 obtain⟨m,⟨o,es,ep,ho,r⟩,_⟩:=id I.loc;obtain⟨sl,hL⟩:=u.any ho I.free (by simp)
 exact I.step (g':=s.gens) (d':=s.drawn) (ch:=[]) (λ_ z=>nomatch z) (λb o _ hb _ e n=>u.keep b o e n hb (by simp)) (λb o _ hb _ e n=>u.slot b o e n hb (by simp)) (λb o _ e n=>u.free b o e n (by simp)) (λb o _ e=>u.there b o e (by simp)) u.lF u.jT u.kK (λm' hm=>by
  obtain⟨o',kL,pZ,jz,r'⟩:=hm;rw[ho] at jz;cases jz;exact⟨_,kL,pZ,hL,r'⟩) aK I.bare
theorem Inv.call{g':Array GenState}{t':Nat}{d':Drawn}{ch:List Addr}(I:Inv X pins σ H s)(u:Un (cK X.stack) ch H H' s.heap h')(aK:cQ X.prog X.w H' h')(hg:AllBare g')
  (mS:∀b∈ch,(b∈X.ex\/X.bR.heap.objs.size<=b)/\b≠X.env.locals/\(∀x c,X.env.cells.lookup x=some c->c≠b)/\∀p∈X.pn++pins,p.1≠b) :
  Inv X pins σ H' { s with heap:=h',gens:=g',drawn:=d',toks:=t' }:=by
 obtain⟨m,⟨o,es,ep,ho,r⟩,_⟩:=id I.loc;obtain⟨sl,hL⟩:=u.any ho I.free λz=>(mS _ z).2.1 rfl;exact I.step (ch:=ch) mS (λb o hL hb hc e n=>u.keep b o e n (λz=>(cE.mp (I.GF b z)).elim hL hb) hc) (λb o _ _ hc e n=>u.any e n hc) (λb o hc e n=>u.free b o e n hc) (λb o hc e=>u.there b o e hc) u.lF u.jT u.kK (λm' hm=>by
  obtain⟨o',kL,pZ,jz,r'⟩:=hm;rw[ho] at jz;cases jz;exact⟨_,kL,pZ,hL,r'⟩) aK hg
theorem Inv.turned{t':Nat}{it:Addr}(I:Inv X pins σ H s)(k:∀b o,b≠it->s.heap.get? b=some o->h'.get? b=some o)(hn:H it=none)(hL:it≠X.env.locals)
  (h1:it∈X.ex\/X.bR.heap.objs.size<=it) (h2:∀x c,X.env.cells.lookup x=some c->c≠it) (h3:∀p∈X.pn++pins,p.1≠it):Inv X pins σ H { s with heap:=h',toks:=t' }:=by
 have ya:∀b u,H b=some u->b≠it:=λb u e z=>by rw[z,hn] at e;cases e
 refine I.step (g':=s.gens) (d':=s.drawn) (ch:=[it]) (λb hb=>?_) (λb o _ _ hc e _=>k b o (λz=>hc (by simp[z])) e) (λb o _ _ hc e _=>⟨o.slots,k b o (λz=>hc (by simp[z])) e⟩) (λ_ _ _ _ n=>n)
  (λb o hc e=>⟨o,k b o (λz=>hc (by simp[z])) e⟩) (λ_ _ e=>e) (λ_ _ _ e=>e) (λb ps e=>⟨#[],by rw[e];simp⟩) (λm hm=>?_) (λb u e=>?_) I.bare
 ·have e:b=it:=by simpa using hb
  subst e;exact⟨h1,hL,h2,h3⟩
 ·obtain⟨o,es,ep,ho,r⟩:=hm;exact⟨o,es,ep,k _ o (f_ hL) ho,r⟩
 ·refine(I.aK b u e).jw (λc v hc q=>k c v ?_ q) (λ_ q=>q) λ_ _ q=>q;rcases hc with z | z
  ·rw[z];exact ya b u e
  ·exact ya c _ z
theorem Inv.tok(I:Inv X pins σ H s)(t:Nat):Inv X pins σ H { s with toks:=t }:=I.un (h':=s.heap) (t':=t) Un.refl I.aK
theorem Inv.kept{t':Nat}(I:Inv X pins σ H s)(k:∀b u,s.heap.get? b=some u->h'.get? b=some u):Inv X pins σ H { s with heap:=h',toks:=t' }:=I.un (Un.kept k) (I.aK.kept k)
theorem Inv.laid{a:Addr}{o:HO}{t':Nat}(I:Inv X pins σ H s)(k:∀b u,s.heap.get? b=some u->h'.get? b=some u)(hp:s.heap.objs.size<=a)(new:dU X.prog X.w (upd H a o) h' a o) :
  Inv X pins σ (upd H a o) { s with heap:=h',toks:=t' }:=I.un (Un.laid k hp (I.aK.fresh hp)) (I.aK.laid k hp new)
theorem Inv.write{x e:Addr}{o:HO}{t':Nat}(I:Inv X pins σ H s)(mu:x6 (H x))(he:e=x\/H e=some (.own x))(k:∀b u,b≠e->s.heap.get? b=some u->h'.get? b=some u)(vq:∃u,h'.get? e=some u)
  (new:dU X.prog X.w (upd H x o) h' x o):Inv X pins σ (upd H x o) { s with heap:=h',toks:=t' }:=I.un (Un.write mu he k vq) (I.aK.write mu he k vq new)
theorem Inv.oz{GG:List (Addr×Obj)}(I:Inv X pins σ H s)(h:∀p∈GG,s.heap.get? p.1=some p.2/\H p.1=none/\p.1≠X.env.locals/\p.1∉X.fs/\∀v,p.2.data≠.cell v):Inv X GG σ H s :=
 ⟨I.ok,I.os,I.bare,I.base,I.loc,I.cell,I.free,I.jy,λp hp=>(fM.mp hp).elim (λz=>I.pin p (pQ _ z)) (h p),I.aK,I.len⟩
theorem GH{N:List Str}(hN:N.Nodup){i j:Nat}{x:Str}(a:N[i]? = some x)(b:N[j]? = some x):i=j:=by
 obtain⟨h1,e1⟩:=ie.mp a;obtain⟨h2,e2⟩:=ie.mp b;exact(List.getElem_inj hN).mp (e1.trans e2.symm)
theorem RJ{M:Model}{A:Around}{E:Value->Shared->Prop}{i:Nat}{x:Str}{v:V}{u:Value}{Q:Unit->Shared->Prop}(I:Inv X pins σ H s)(hN:X.N.Nodup)(hi:X.N[i]? = some x)(hx:Loc X.env.scope x)(r:RelV v u)
  (h:∀s',Inv X pins (σ.set i (some v)) H s'->(∃a,Heap.SameBut a s.heap s'.heap/\(a=X.env.locals\/X.env.cells.lookup x=some a))->Q () s') (hf:X.fn x=true\/X.env.scope.names.lookup x=some .local:=by first | exact .inl rfl | exact .inr rfl | assumption):wpAny M A (storeName X.env x u) Q E s:=by
 obtain⟨m,hn,hl⟩:=id I.loc;have yc:(X.env.scope.kind == .class || (X.env.scope.kind == .module && X.env.locals != X.env.globals))=false:=by rw[I.ok.kind];rfl
 have RK:i<σ.length:=by rw[I.len];exact(ie.mp hi).1
 have mR:=I.mR;have tracked:∀ {a:Addr} {h':Heap},(∃o,s.heap.get? a=some o/\H a=none)->Heap.SameBut a s.heap h'->cQ X.prog X.w H h':=λ{a h'} ha hs b ob e=>by
  obtain⟨_,_,RL⟩:=ha;refine(I.aK b ob e).jw (λc w' hc q=>(hs.2 c ?_).trans q) (λ_ q=>q) λ_ _ q=>q;rintro rfl;rcases hc with rfl | hc
  ·rw[RL] at e;cases e
  ·rw[RL] at hc;cases hc
 rcases hx with hk | hk
 ·refine wpAny_storeName_local hk hn (λh' Cf hs=>?_) yc;obtain⟨oL,_,_,GI,_⟩:=id hn;refine h _ ⟨I.ok,I.os,I.bare,⟨λb o e n hb hx=>?_,λb o e n hb hx=>?_,I.base.free,λb o e hx=>?_,I.base.lF,I.base.jT,I.base.kK⟩,⟨_,Cf,λj y v' e1 e2 e3=>?_⟩,λy c e=>?_,I.free,I.jy,λp hp=>?_,tracked ⟨oL,GI,I.free⟩ hs,by simpa using I.len⟩ ⟨_,hs,.inl rfl⟩
  ·exact(hs.2 b (dD (gA (cD e) I.ok.above))).trans (I.base.keep b o e n hb hx)
  ·obtain⟨sl,e1⟩:=I.base.slot b o e n hb hx;exact⟨sl,(hs.2 b (dD (gA (cD e) I.ok.above))).trans e1⟩
  ·obtain⟨o',e1⟩:=I.base.there b o e hx;exact⟨o',(hs.2 b (dD (gA (cD e) I.ok.above))).trans e1⟩
  ·by_cases hj:j=i
   ·subst hj;rw[hi] at e1;cases e1;rw[List.getElem?_set_self RK] at e2;cases e2;exact⟨u,r,.inl ⟨hk,by simp⟩⟩
   ·rw[Gd (f_ hj)] at e2;obtain⟨u',r',q⟩:=hl j y v' e1 e2 e3;refine⟨u',r',?_⟩;rcases q with⟨k,e⟩ | ⟨k,c,e,z⟩
    ·refine .inl ⟨k,?_⟩;have:y≠x:=λe=>hj (GH hN e1 (e▸hi));simp[this,e]
    ·exact .inr ⟨k,c,e,z.sameBut hs (mR y c e)⟩
  ·obtain⟨w',z⟩:=I.cell y c e;exact⟨w',z.sameBut hs (mR y c e)⟩
  ·obtain⟨e,n,ne,nf,d⟩:=I.pin p hp;exact⟨(hs.2 p.1 ne).trans e,n,ne,nf,d⟩
 ·have GJ:X.fn x=true:=by
   rcases hf with z | z
   ·exact z
   ·rw[z] at hk;cases hk
  obtain⟨c,hc⟩:=I.ok.has x (.inl hk);obtain⟨w',z⟩:=I.cell x c hc;refine wpAny_storeName_cell I.ok.kind hk hc z (λh' RM hs=>?_);obtain⟨oc,RN,aa5⟩:=id z;refine h { s with heap:=h' } ⟨I.ok,I.os,I.bare,⟨λb o e n hb hx=>?_,λb o e n hb hx=>?_,I.base.free,λb o e hx=>?_,I.base.lF,I.base.jT,I.base.kK⟩,⟨m,hn.sameBut hs (f_ (mR x c hc)),λj y v' e1 e2 e3=>?_⟩,λy c' e=>?_,I.free,I.jy,λp hp=>?_,tracked ⟨oc,RN,I.jy x c hc⟩ hs,by simpa using I.len⟩ ⟨c,hs,.inr hc⟩
  ·exact(hs.2 b (dD (gA (cD e) (I.ok.sV x c GJ hc)))).trans (I.base.keep b o e n hb hx)
  ·obtain⟨sl,e1⟩:=I.base.slot b o e n hb hx;exact⟨sl,(hs.2 b (dD (gA (cD e) (I.ok.sV x c GJ hc)))).trans e1⟩
  ·obtain⟨o',e1⟩:=I.base.there b o e hx;exact⟨o',(hs.2 b (dD (gA (cD e) (I.ok.sV x c GJ hc)))).trans e1⟩
  ·by_cases hj:j=i
   ·subst hj;rw[hi] at e1;cases e1;rw[List.getElem?_set_self RK] at e2;cases e2;exact⟨u,r,.inr ⟨.inl hk,c,hc,RM⟩⟩
   ·rw[Gd (f_ hj)] at e2;obtain⟨u',r',q⟩:=hl j y v' e1 e2 e3;refine⟨u',r',?_⟩;rcases q with q | ⟨k,c',e,z'⟩
    ·exact .inl q
    ·refine .inr ⟨k,c',e,z'.sameBut hs ?_⟩;rintro rfl;exact hj (GH hN e1 (I.ok.inj _ _ _ e hc▸hi))
  ·by_cases Cg:c' = c
   ·subst Cg;exact⟨_,RM⟩
   ·obtain⟨w2,z2⟩:=I.cell y c' e;exact⟨w2,z2.sameBut hs Cg⟩
  ·obtain⟨e,n,ne,nf,d⟩:=I.pin p hp;refine⟨(hs.2 p.1 ?_).trans e,n,ne,nf,d⟩;intro q;rw[q,RN] at e;have q':oc=p.2:=dh e;exact d w' (by rw[← q'];exact aa5)
theorem GK{M:Model}{A:Around}{E:Value->Shared->Prop}{i:Nat}{x:Str}{v:V}{u:Value}{Q:Unit->Shared->Prop}(I:Inv X pins σ H s)(hN:X.N.Nodup)(hi:X.N[i]? = some x)(hx:Loc X.env.scope x)(r:RelV v u)
  (h:∀s',Inv X pins (σ.set i (some v)) H s'->Q () s') (hf:X.fn x=true\/X.env.scope.names.lookup x=some .local:=by first | exact .inl rfl | exact .inr rfl | assumption):wpAny M A (storeName X.env x u) Q E s :=
 RJ I hN hi hx r (λs' I' _=>h s' I') hf
theorem Inv.Ci{s':Shared}{ch:List Addr}(I:Inv X pins σ H s)(ho:s'.os=s.os)(u:Un (cK X.stack) ch H H' s.heap s'.heap)(aK:cQ X.prog X.w H' s'.heap)(hg:AllBare s'.gens)
  (mS:∀b∈ch,(b∈X.ex\/X.bR.heap.objs.size<=b)/\b≠X.env.locals/\(∀x c,X.env.cells.lookup x=some c->c≠b)/\∀p∈X.pn++pins,p.1≠b):Inv X pins σ H' s':=by
 obtain⟨h',g',d',t',o'⟩:=s';have e:o' = s.os:=ho;subst e;exact I.call (g':=g') (t':=t') (d':=d') u aK hg mS
end
noncomputable abbrev XK:=Value->Option Addr->Hp->Prop
noncomputable abbrev St:=List (Option V)
noncomputable abbrev VK:=V->Hp->Prop
noncomputable abbrev TE:=St->Hp->VK->Prop
noncomputable abbrev TT:=St->Hp->(Bool->Hp->Prop)->Prop
noncomputable abbrev TA:=St->Hp->(List V->Hp->Prop)->Prop
structure Ends where
 nx:St->Hp->Prop
 rt:VK
 bk:St->Hp->Prop:=λ_ _=>False
 ct:St->Hp->Prop:=λ_ _=>False
noncomputable abbrev TS:=Ends->St->Hp->Prop
def EP(X:Cx)(pins:List (Addr×Obj))(σ:St)(Q:VK)(u:Value)(s':Shared):Prop:=∃v H',Inv X pins σ H' s'/\RelV v u/\Q v H'
def TP(X:Cx)(pins:List (Addr×Obj))(σ:St)(Q:Bool->Hp->Prop)(b:Bool)(s':Shared):Prop:=∃H',Inv X pins σ H' s'/\Q b H'
def AP(X:Cx)(pins:List (Addr×Obj))(σ:St)(Q:List V->Hp->Prop)(us:List Value)(s':Shared):Prop:=∃vs H',Inv X pins σ H' s'/\Vals vs us/\Q vs H'
noncomputable def SP(X:Cx)(pins:List (Addr×Obj))(D:Ends)(f:Flow)(s':Shared):Prop :=
 match f with
 | .next=>∃bK H',Inv X pins bK H' s'/\D.nx bK H'
 | .brk=>∃bK H',Inv X pins bK H' s'/\D.bk bK H'
 | .cont=>∃bK H',Inv X pins bK H' s'/\D.ct bK H'
 | .ret u=>∃v bK H',Inv X pins bK H' s'/\RelV v u/\D.rt v H'
noncomputable def PE(X:Cx)(e:Expr)(t:TE):Prop :=
 ∀(pins:List (Addr×Obj)) (s:Shared) (σ:St) (H:Hp) (Q:VK),Inv X pins σ H s->t σ H Q->wpAny (model X.prog X.w) X.A (eval e X.env) (EP X pins σ Q) X.xe s
noncomputable def PT(X:Cx)(e:Expr)(t:TT):Prop :=
 ∀(pins:List (Addr×Obj)) (s:Shared) (σ:St) (H:Hp) (Q:Bool->Hp->Prop),Inv X pins σ H s->t σ H Q->wpAny (model X.prog X.w) X.A (isTrue e X.env (eval e X.env)) (TP X pins σ Q) X.xe s
noncomputable def PW(X:Cx)(e:Expr)(t:TT):Prop :=
 ∀(whole:Sem Value) (pins:List (Addr×Obj)) (s:Shared) (σ:St) (H:Hp) (Q:Bool->Hp->Prop),Inv X pins σ H s->t σ H Q->wpAny (model X.prog X.w) X.A (isTrue e X.env whole) (TP X pins σ Q) X.xe s
theorem PW.pt{X:Cx}{e:Expr}{t:TT}(h:PW X e t):PT X e t:=h _
noncomputable def PA(X:Cx)(es:List Expr)(t:TA):Prop :=
 ∀(pos:Pos) (pins:List (Addr×Obj)) (s:Shared) (σ:St) (H:Hp) (Q:List V->Hp->Prop),Inv X pins σ H s->t σ H Q->wpAny (model X.prog X.w) X.A (spliced (backTo pos (starEach es X.env))) (AP X pins σ Q) X.xe s
noncomputable def PS(X:Cx)(st:Stmt)(t:TS):Prop :=
 ∀(pins:List (Addr×Obj)) (s:Shared) (σ:St) (H:Hp) (D:Ends),Inv X pins σ H s->t D σ H->wpAny (model X.prog X.w) X.A (exec st X.env) (SP X pins D) X.xe s
noncomputable def gB(X:Cx)(st:List Stmt)(t:TS):Prop :=
 ∀(pins:List (Addr×Obj)) (s:Shared) (σ:St) (H:Hp) (D:Ends),Inv X pins σ H s->t D σ H->wpAny (model X.prog X.w) X.A (execs st X.env) (SP X pins D) X.xe s
theorem aW{α:Type}{t:Sem α}{Q Q':α->Shared->Prop}{M:Model}{A:Around}{E:Value->Shared->Prop}{s:Shared}(h:wpAny M A t Q E s)(hQ:∀a s,Q a s->Q' a s):wpAny M A t Q' E s:=eL h hQ λ_ _ x=>x
section
variable{X:Cx}
theorem bin{a b:Expr}{ta tb:TE}(ha:PE X a ta)(hb:PE X b tb){pins:List (Addr×Obj)}{s:Shared}{σ:St}{H:Hp}{R:V->V->Hp->Prop}(I:Inv X pins σ H s)(h:ta σ H λx H1=>tb σ H1 λy H2=>R x y H2)
  {α:Type} {Q:α->Shared->Prop} {f:Value->Value->Sem α}
  (hf:∀v u s2 x y H2,Inv X pins σ H2 s2->RelV x v->RelV y u->R x y H2->wpAny (model X.prog X.w) X.A (f v u) Q X.xe s2) :
  wpAny (model X.prog X.w) X.A (eval a X.env) (λv bq=>wpAny (model X.prog X.w) X.A (eval b X.env) (λu jA=>wpAny (model X.prog X.w) X.A (f v u) Q X.xe jA) X.xe bq) X.xe s:=by
 refine aW (ha pins s σ H _ I h) λv s1 ⟨x,H1,I1,r1,q1⟩=>?_;refine aW (hb pins s1 σ H1 _ I1 q1) λu s2 ⟨y,H2,I2,r2,q2⟩=>?_;exact hf v u s2 x y H2 I2 r1 r2 q2
def vA(i:Nat):TE:=λσ H Q=>∃v,σ[i]? = some (some v)/\Q v H
def tC(v:V):TE:=λ_ H Q=>Q v H
theorem RO{i:Nat}{x:Str}{pos:Pos}(hN:X.N[i]? = some x)(hv:Cc X.env.scope x)(hd:(x == ("__debug__" : Str))=false:=by decide)(dN:(x == ("__classdict__" : Str))=false:=by decide):PE X (.Name x pos) (vA i):=by
 intro pins s σ H Q I h;obtain⟨v,e,h⟩:=h;obtain⟨m,hn,hl⟩:=I.loc;obtain⟨u,r,l⟩:=hl i x v hN e hv;have fin:EP X pins σ Q u s:=⟨v,H,I,r,h⟩;rcases l with⟨hk,hm⟩ | ⟨hk,c,hc,RP⟩
 ·exact wpAny_Name (wpAny_loadName_local I.ok.kind hk hn hm fin) hd
 ·rcases hk with hk | hk
  ·exact wpAny_Name (wpAny_loadName_cell I.ok.kind hk hc RP fin) hd
  ·exact wpAny_Name (wpAny_loadName_free I.ok.kind hk hc RP fin dN) hd
theorem ak{i j pos}:PE X (.Constant (.int i) j pos) (tC (.int i)):=λ_ _ _ H _ I h=>wpAny_Constant_int ⟨.int i,H,I.tok _,⟨_,rfl⟩,h⟩
theorem gb{b j pos}:PE X (.Constant (.bool b) j pos) (tC (.bl b)):=λ_ _ _ H _ I h=>Constant_bool ⟨.bl b,H,I,rfl,h⟩
theorem qX{j pos}:PE X (.Constant .none j pos) (tC .aO):=λ_ _ _ H _ I h=>Constant_none ⟨.aO,H,I,rfl,h⟩
theorem lG{x j pos}:PE X (.Constant (.str x) j pos) (tC (.str x)):=λ_ _ _ H _ I h=>Calls.Constant_str ⟨.str x,H,I.tok _,⟨_,rfl⟩,h⟩
def Gl(X:Cx)(x:Str):Prop:=X.env.kindOf x=some .globalImplicit
theorem sY{E:Value->Shared->Prop}{pins:List (Addr×Obj)}{s:Shared}{σ:St}{H:Hp}{x:Str}{u:Value}{pos:Pos}{Q:Value->Shared->Prop}(I:Inv X pins σ H s)(hg:Gl X x)(hm:X.mg x=some u)(h:Q u s)
  (hd:(x == ("__debug__" : Str))=false:=by decide):wpAny (model X.prog X.w) X.A (eval (.Name x pos) X.env) Q E s :=
 Calls.Name_function_global I.ok.kind hg (Calls.loadGlobal_global (by rw[I.ok.glob];exact I.mod.glob.keeps I.bk) hm h) hd
theorem qY{E:Value->Shared->Prop}{pins:List (Addr×Obj)}{s:Shared}{σ:St}{H:Hp}{x:Str}{u:Value}{pos:Pos}{Q:Value->Shared->Prop}(I:Inv X pins σ H s)(hg:Gl X x)(hm:X.mg x=none)(hv:bootBuiltins x=some u)(h:Q u s)
  (hn:x≠"__name__" := by decide) (hd:(x == ("__debug__" : Str))=false:=by decide):wpAny (model X.prog X.w) X.A (eval (.Name x pos) X.env) Q E s:=by
 obtain⟨mb,h1,h2⟩:=I.mod.blt;exact Calls.Name_function_global I.ok.kind hg (Calls.loadGlobal_builtin (by rw[I.ok.glob];exact I.mod.glob.keeps I.bk) hm (by rw[I.ok.blt];exact h1.keeps I.bk) ((h2 x hn).trans hv) h) hd
theorem gU{x:Str}{v:V}{u:Value}{pos:Pos}(hg:Gl X x)(hm:X.mg x=some u)(r:RelV v u)(hd:(x == ("__debug__" : Str))=false:=by decide):PE X (.Name x pos) (tC v) :=
 λ_ _ _ H _ I h=>sY I hg hm ⟨v,H,I,r,h⟩ hd
theorem vB{x:Str}{v:V}{u:Value}{pos:Pos}(hg:Gl X x)(hm:X.mg x=none)(hv:bootBuiltins x=some u)(r:RelV v u)(hn:x≠"__name__" := by decide)(hd:(x == ("__debug__" : Str))=false:=by decide):PE X (.Name x pos) (tC v) :=
 λ_ _ _ H _ I h=>qY I hg hm hv ⟨v,H,I,r,h⟩ hn hd
variable{a b:Expr}{ta tb:TE}{pos:Pos}
noncomputable def PC(X:Cx)(op:CmpOp)(a b:Expr)(t:TE):Prop :=
 ∀(pins:List (Addr×Obj)) (s:Shared) (σ:St) (H:Hp) (Q:VK),Inv X pins σ H s->t σ H Q->
  wpAny (model X.prog X.w) X.A (eval a X.env) (λv bq=>wpAny (model X.prog X.w) X.A (eval b X.env) (λu jA=>wpAny (model X.prog X.w) X.A (compareOp op v u) (EP X pins σ Q) X.xe jA) X.xe bq) X.xe s
theorem aa6(b:Expr){op:CmpOp}(h:op≠.In)(h2:op≠.NotIn):behindInMarks op b=false:=by
 have e1:(op == CmpOp.In)=false:=by cases op <;> first | rfl | exact absurd rfl h
 have e2:(op == CmpOp.NotIn)=false:=by cases op <;> first | rfl | exact absurd rfl h2
 cases b <;> simp[behindInMarks,e1,e2]
def tB(t:TE):TT:=λσ H Q=>t σ H λx H1=>∃c,x = .bl c/\Q c H1
theorem GL{op:CmpOp}{t:TE}(h:PC X op a b t)(h1:behindInMarks op b=false:=by first | exact aa6 _ (by decide) (by decide) | rfl):PT X (.Compare a [op] [b] pos) (tB t):=by
 intro pins s σ H Q I hw;refine GB (aW (h pins s σ H _ I hw) λv s1 h1=>aW h1 λu s2 h2=>aW h2 λc s3 ⟨x,H1,I1,r1,q1⟩=>?_) h1;obtain⟨d,rfl,q⟩:=q1;cases r1;exact pX ⟨H1,I1,q⟩
theorem iA{e:Expr}{t:TE}(h:PE X e t)(he:∀whole,isTrue e X.env whole=(do let v ← whole;standAt e.pos;holding [v] (truthy v)):=by intro _;rfl):PT X e (tB t):=by
 intro pins s σ H Q I hw;refine isTrue_plain (aW (h pins s σ H _ I hw) λv s1 ⟨x,H1,I1,r1,q1⟩=>?_) (he _);obtain⟨d,rfl,q⟩:=q1;cases r1;exact pX ⟨H1,I1,q⟩
variable{tA Cj:TT}{rest:List Expr}
def yd(t u:TT):TT:=λσ H Q=>t σ H λc H1=>if c=true then u σ H1 Q else Q false H1
def qZ(t u:TT):TT:=λσ H Q=>t σ H λc H1=>if c=true then Q true H1 else u σ H1 Q
def yf(t:TT):TT:=λσ H Q=>t σ H λc H1=>Q (!c) H1
theorem yg(ha:PT X a tA):PW X (.BoolOp .And [a] pos) tA:=by
 intro wh pins s σ H Q I h;refine isTrue_and (aW (ha pins s σ H Q I h) λc s1 e=>?_);cases c with
 | true=>exact isTrue_and_nil e
 | false=>exact e
theorem iQ(ha:PT X a tA):PW X (.BoolOp .Or [a] pos) tA:=by
 intro wh pins s σ H Q I h;refine isTrue_or (aW (ha pins s σ H Q I h) λc s1 e=>?_);cases c with
 | false=>exact isTrue_or_nil e
 | true=>exact e
theorem yh(ha:PT X a tA)(hb:PW X (.BoolOp .And (b::rest) pos) Cj):PW X (.BoolOp .And (a::b::rest) pos) (yd tA Cj):=by
 intro wh pins s σ H Q I h;refine isTrue_and (aW (ha pins s σ H _ I h) λc s1 ⟨H1,I1,q1⟩=>?_);cases c with
 | true=>exact hb wh pins s1 σ H1 Q I1 q1
 | false=>exact⟨H1,I1,q1⟩
theorem iB(ha:PT X a tA)(hb:PW X (.BoolOp .Or (b::rest) pos) Cj):PW X (.BoolOp .Or (a::b::rest) pos) (qZ tA Cj):=by
 intro wh pins s σ H Q I h;refine isTrue_or (aW (ha pins s σ H _ I h) λc s1 ⟨H1,I1,q1⟩=>?_);cases c with
 | true=>exact⟨H1,I1,q1⟩
 | false=>exact hb wh pins s1 σ H1 Q I1 q1
theorem jU(ha:PT X a tA):PT X (.UnaryOp .Not a pos) (yf tA):=by
 intro pins s σ H Q I h;exact isTrue_not (ha pins s σ H (λc H1=>Q (!c) H1) I h)
def yi(ta tb:TE):TE:=λσ H Q=>ta σ H λx H1=>∃c,x = .bl c/\if c=true then tb σ H1 Q else Q (.bl false) H1
def yj(ta tb:TE):TE:=λσ H Q=>ta σ H λx H1=>∃c,x = .bl c/\if c=true then Q (.bl true) H1 else tb σ H1 Q
def yl(ta:TE):TE:=λσ H Q=>ta σ H λx H1=>∃c,x = .bl c/\Q (.bl (!c)) H1
theorem p8{op}{t:TE}(h:PE X a t):PE X (.BoolOp op [a] pos) t:=λpins s σ H Q I hw=>BoolOp_one (h pins s σ H Q I hw)
theorem sZ(ha:PE X a ta)(hb:PE X (.BoolOp .And (b::rest) pos) tb):PE X (.BoolOp .And (a::b::rest) pos) (yi ta tb):=by
 intro pins s σ H Q I h;refine BoolOp_and (aW (ha pins s σ H _ I h) λv s1 ⟨x,H1,I1,r1,q1⟩=>?_);obtain⟨c,rfl,q1⟩:=q1;cases r1;refine pX ?_;cases c with
 | true=>exact hb pins s1 σ H1 Q I1 q1
 | false=>exact⟨.bl false,H1,I1,rfl,q1⟩
theorem GN(ha:PE X a ta)(hb:PE X (.BoolOp .Or (b::rest) pos) tb):PE X (.BoolOp .Or (a::b::rest) pos) (yj ta tb):=by
 intro pins s σ H Q I h;refine BoolOp_or (aW (ha pins s σ H _ I h) λv s1 ⟨x,H1,I1,r1,q1⟩=>?_);obtain⟨c,rfl,q1⟩:=q1;cases r1;refine pX ?_;cases c with
 | false=>exact hb pins s1 σ H1 Q I1 q1
 | true=>exact⟨.bl true,H1,I1,rfl,q1⟩
theorem aa7(ha:PE X a ta):PE X (.UnaryOp .Not a pos) (yl ta):=by
 intro pins s σ H Q I h;refine UnaryOp_ (aW (ha pins s σ H _ I h) λv s1 ⟨x,H1,I1,r1,q1⟩=>?_);obtain⟨c,rfl,q1⟩:=q1;cases r1;exact not_of (pX ⟨.bl (!c),H1,I1,rfl,q1⟩)
def ym(t:TT)(ta tb:TE):TE:=λσ H Q=>t σ H λc H1=>if c=true then ta σ H1 Q else tb σ H1 Q
theorem aa8{c:Expr}(hc:PT X c tA)(ha:PE X a ta)(hb:PE X b tb):PE X (.IfExp c a b pos) (ym tA ta tb):=by
 intro pins s σ H Q I h;refine wpAny_IfExp (aW (hc pins s σ H _ I h) λd s1 ⟨H1,I1,q1⟩=>?_);cases d with
 | true=>exact ha pins s1 σ H1 Q I1 q1
 | false=>exact hb pins s1 σ H1 Q I1 q1
end
noncomputable def az(K:W.Frag)(H:Hp)(a:Addr)(xs:List V):Prop :=
 Rd H a (.lst xs)\/
  ∃(o:Obj) (aB:Array Value) (n:Nat),K.lookup a=some o/\o.cls = .type "list"/\o.dict=none/\o.data = .seq aB n/\aB.size<=sizeLine/\Vals xs aB.toList
noncomputable def aL(K:W.Frag)(H:Hp)(a:Addr)(xs:List V):Prop :=
 Rd H a (.tup xs)\/
  ∃(o:Obj) (aB:Array Value) (n:Nat),K.lookup a=some o/\o.cls = .type "tuple"/\o.data = .seq aB n/\aB.size<=sizeLine/\Vals xs aB.toList
noncomputable def aa9:Value->Option V
 | .none=>some .aO
 | .bool b=>some (.bl b)
 | .int i _=>some (.int i)
 | .str x _=>some (.str x)
 | .bytes b _=>some (.iu b)
 | .float b _=>some (.mO b)
 | .ref a=>some (.ref a)
 | .type n=>some (.ty n)
 | _=>none
theorem RelV.abs{x:V}{u:Value}(r:RelV x u):aa9 u=some x:=by
 cases x with
 | aO=>cases r;rfl
 | bl _=>cases r;rfl
 | int _=>obtain⟨t,rfl⟩:=r;rfl
 | str _=>obtain⟨t,rfl⟩:=r;rfl
 | iu _=>obtain⟨t,rfl⟩:=r;rfl
 | mO _=>obtain⟨t,rfl⟩:=r;rfl
 | ref _=>cases r;rfl
 | ty _=>cases r;rfl
theorem RelV.inj{x y:V}{u:Value}(r:RelV x u)(q:RelV y u):x=y:=dh (r.abs.symm.trans q.abs)
theorem Vals.inj{xs ys:List V}{us:List Value}(h:Vals xs us):Vals ys us->xs=ys:=by
 induction h generalizing ys with
 | nil=>intro g;cases g;rfl
 | cons r t ih=>intro g;cases g with
  | cons r' t'=>rw[r.inj r',ih t']
section
variable{X:Cx}{pins:List (Addr×Obj)}{σ:St}{H:Hp}{s:Shared}{a:Addr}{xs ys:List V}
theorem az.of{K:W.Frag}(h:H a=some (.lst xs)):az K H a xs:=.inl (.inl h)
theorem aL.of{K:W.Frag}(h:H a=some (.tup xs)):aL K H a xs:=.inl (.inl h)
theorem Inv.list(I:Inv X pins σ H s)(h:az X.K H a xs):∃aB:List Value,Vals xs aB/\PlainL s.heap a aB.toArray/\xs.length<=sizeLine:=by
 rcases h with h | ⟨o,aB,n,hk,hc,hd,hs,hz,r⟩
 ·obtain⟨z,aB,n,r,e⟩:=h.ok I.aK;exact⟨aB,r,⟨_,n,e,rfl,rfl,rfl⟩,z⟩
 ·refine⟨aB.toList,r,⟨o,n,I.dW a o hk,hc,hd,by simpa using hs⟩,?_⟩
  have e:=r.length;simp only[Array.length_toList] at e;lia
theorem Inv.tuple(I:Inv X pins σ H s)(h:aL X.K H a xs):∃aB:List Value,Vals xs aB/\IsTup s.heap a aB.toArray/\xs.length<=sizeLine:=by
 rcases h with h | ⟨o,aB,n,hk,hc,hs,hz,r⟩
 ·obtain⟨z,aB,r,p⟩:=h.ok I.aK;exact⟨aB,r,p,z⟩
 ·refine⟨aB.toList,r,⟨o,I.dW a o hk,hc,n,by simpa using hs⟩,?_⟩
  have e:=r.length;simp only[Array.length_toList] at e;lia
theorem Inv.RQ(I:Inv X pins σ H s)(h:az X.K H a xs)(h':az X.K H a ys):xs=ys:=by
 obtain⟨aB,r,⟨o,n,e,_,_,d⟩,_⟩:=I.list h;obtain⟨its',r',⟨o',n',e',_,_,d'⟩,_⟩:=I.list h';rw[e] at e';cases e';rw[d] at d';injection d' with d1 _;have:aB=its':=by simpa using ig Array.toList d1
 subst this;exact r.inj r'
theorem Inv.aa_(I:Inv X pins σ H s)(h:aL X.K H a xs)(h':aL X.K H a ys):xs=ys:=by
 obtain⟨aB,r,⟨o,e,_,n,d⟩,_⟩:=I.tuple h;obtain⟨its',r',⟨o',e',_,n',d'⟩,_⟩:=I.tuple h';rw[e] at e';cases e';rw[d] at d';injection d' with d1 _;have:aB=its':=by simpa using ig Array.toList d1
 subst this;exact r.inj r'
end
noncomputable abbrev Cx.lH(X:Cx)(E:Value->Shared->Prop):Cx:={ X with xe:=E }
noncomputable abbrev Cx.p_(X:Cx):Cx:=X.lH λ_ _=>False
theorem Cx.Ok.lH{X:Cx}(ok:X.Ok)(E:Value->Shared->Prop):(X.lH E).Ok :=
 ⟨ok.mod,ok.kind,ok.glob,ok.blt,ok.above,ok.inj,ok.has,ok.sV,ok.hd,ok.frames,ok.vt,ok.vv,ok.bs,ok.iz,ok.sW,ok.sX,ok.i6,ok.mQ⟩
theorem Cx.Ok.qa{X:Cx}{E:Value->Shared->Prop}(ok:(X.lH E).Ok):X.Ok :=
 ⟨ok.mod,ok.kind,ok.glob,ok.blt,ok.above,ok.inj,ok.has,ok.sV,ok.hd,ok.frames,ok.vt,ok.vv,ok.bs,ok.iz,ok.sW,ok.sX,ok.i6,ok.mQ⟩
section
variable{X:Cx}{pins:List (Addr×Obj)}{σ:St}{H:Hp}{s:Shared}{E:Value->Shared->Prop}
theorem Inv.lH(I:Inv X pins σ H s)(E:Value->Shared->Prop):Inv (X.lH E) pins σ H s:=⟨I.ok.lH E,I.os,I.bare,I.base,I.loc,I.cell,I.free,I.jy,I.pin,I.aK,I.len⟩
theorem Inv.qa(I:Inv (X.lH E) pins σ H s):Inv X pins σ H s:=⟨I.ok.qa,I.os,I.bare,I.base,I.loc,I.cell,I.free,I.jy,I.pin,I.aK,I.len⟩
theorem SP.qa{D:Ends}{f:Flow}{s':Shared}(h:SP (X.lH E) pins D f s'):SP X pins D f s':=by
 cases f with
 | next=>obtain⟨bK,H',I,q⟩:=h;exact⟨bK,H',I.qa,q⟩
 | brk=>obtain⟨bK,H',I,q⟩:=h;exact⟨bK,H',I.qa,q⟩
 | cont=>obtain⟨bK,H',I,q⟩:=h;exact⟨bK,H',I.qa,q⟩
 | ret u=>obtain⟨v,bK,H',I,r,q⟩:=h;exact⟨v,bK,H',I.qa,r,q⟩
theorem gB.p_{st:List Stmt}{t:TS}(h:gB X.p_ st t):gB X st t:=λpins s σ H D I hw =>
 eL (h pins s σ H D (I.lH _) hw) (λ_ _ q=>q.qa) λ_ _ z=>False.elim z
end
section
variable{X:Cx}{st:Stmt}{rest:List Stmt}{t u:TS}{e:Expr}{te:TE}{pos:Pos}
def yp:TS:=λD σ H=>D.nx σ H
def vC(t u:TS):TS:=λD σ H=>t { D with nx:=u D } σ H
theorem b7:gB X [] yp:=λ_ _ σ H _ I h=>qV ⟨σ,H,I,h⟩
theorem aE(h1:PS X st t)(h2:gB X rest u):gB X (st::rest) (vC t u):=by
 intro pins s σ H D I h;refine B4 (aW (h1 pins s σ H { D with nx:=u D } I h) λf s1 q=>?_);cases f with
 | next =>
  obtain⟨bK,H',I',q⟩:=q;exact h2 pins s1 bK H' D I' q
 | ret v=>exact q
 | brk=>exact q
 | cont=>exact q
theorem aJ(h1:PS X st t):gB X [st] t:=by
 intro pins s σ H D I h;refine B4 (aW (h1 pins s σ H D I h) λf s1 q=>?_);cases f with
 | next=>exact qV q
 | ret v=>exact q
 | brk=>exact q
 | cont=>exact q
theorem Inv.quiet{pins:List (Addr×Obj)}{σ:St}{H:Hp}{s:Shared}(I:Inv X pins σ H s):interactive X.env=false:=by simp[interactive,I.ok.kind]
def vD(te:TE):TS:=λD σ H=>te σ H λ_ H1=>D.nx σ H1
theorem dm(he:PE X e te)(hs:swapsWith e none pos.line X.env=pure false:=by rfl):PS X (.Expr e pos) (vD te):=by
 intro pins s σ H D I h;exact wpAny_Expr_any (aW (he pins s σ H _ I h) λv s1 ⟨x,H1,I1,r1,q1⟩=>⟨σ,H1,I1,q1⟩) I.quiet hs
def yq(te:TE):TS:=λD σ H=>te σ H D.rt
theorem bF(he:PE X e te):PS X (.Return (some e) pos) (yq te):=by
 intro pins s σ H D I h;exact wpAny_Return_some (aW (he pins s σ H _ I h) λv s1 ⟨x,H1,I1,r1,q1⟩=>⟨x,σ,H1,I1,r1,q1⟩)
def Ck:TS:=λD _ H=>D.rt .aO H
def yr(c:TT)(t u:TS):TS:=λD σ H=>c σ H λb H1=>if b=true then t D σ H1 else u D σ H1
theorem dw{c:Expr}{a b:List Stmt}{tc:TT}(hc:PT X c tc)(ha:gB X a t)(hb:gB X b u):PS X (.If c a b pos) (yr tc t u):=by
 intro pins s σ H D I h;refine wpAny_If (aW (hc pins s σ H _ I h) λd s1 ⟨H1,I1,q1⟩=>?_);cases d with
 | true=>exact ha pins s1 σ H1 D I1 q1
 | false=>exact hb pins s1 σ H1 D I1 q1
def yt:TS:=λ_ _ _=>False
theorem iC{sts:List Stmt}:gB X sts yt:=λ_ _ _ _ _ _ h=>h.elim
end
noncomputable abbrev TG:=V->St->Hp->(St->Hp->Prop)->Prop
noncomputable abbrev oA:=List V->St->Hp->(St->Hp->Prop)->Prop
noncomputable def PG(X:Cx)(target:Expr)(t:TG):Prop :=
 ∀(pins:List (Addr×Obj)) (s:Shared) (σ:St) (H:Hp) (v:V) (u:Value) (Q:St->Hp->Prop),Inv X pins σ H s->RelV v u->t v σ H Q->
  wpAny (model X.prog X.w) X.A (assign target X.env u) (λ_ s'=>∃bK H',Inv X pins bK H' s'/\Q bK H') X.xe s
noncomputable def vE(X:Cx)(ts:List Expr)(t:oA):Prop :=
 ∀(pins:List (Addr×Obj)) (s:Shared) (σ:St) (H:Hp) (vs:List V) (us:List Value) (Q:St->Hp->Prop),Inv X pins σ H s->Vals vs us->t vs σ H Q->
  wpAny (model X.prog X.w) X.A (assignInOrder ((assignEach ts X.env).map (·.2)) us) (λ_ s'=>∃bK H',Inv X pins bK H' s'/\Q bK H') X.xe s
noncomputable abbrev Cm:=V->V->V->Hp->(Hp->Prop)->Prop
noncomputable def RS(X:Cx)(t:Cm):Prop :=
 ∀(pins:List (Addr×Obj)) (s:Shared) (σ:St) (H:Hp) (o i v:V) (ov iv u:Value) (Q:Hp->Prop),Inv X pins σ H s->RelV o ov->RelV i iv->RelV v u->t o i v H Q->
  wpAny (model X.prog X.w) X.A (setItem ov iv u) (λ_ s'=>∃H',Inv X pins σ H' s'/\Q H') X.xe s
section
variable{X:Cx}{pos:Pos}
def oB(i:Nat):TG:=λv σ H Q=>Q (σ.set i (some v)) H
theorem bI{i:Nat}{x:Str}(hN:X.N.Nodup)(hi:X.N[i]? = some x)(hx:Loc X.env.scope x)(hf:X.fn x=true\/X.env.scope.names.lookup x=some .local:=by first | exact .inl rfl | exact .inr rfl | assumption):PG X (.Name x pos) (oB i):=by
 intro pins s σ H v u Q I r h;exact wpAny_assign_Name (GK I hN hi hx r (λs' I'=>⟨_,H,I',h⟩) hf)
noncomputable def vF:oA:=λvs σ H Q=>vs = []/\Q σ H
noncomputable def s_(t:TG)(u:oA):oA:=λvs σ H Q=>∃v r,vs=v::r/\t v σ H λbK H'=>u r bK H' Q
theorem jV:vE X [] vF:=by
 intro pins s σ H vs us Q I r h;obtain⟨e,h⟩:=h;subst e;cases r;exact assignInOrder_nil ⟨σ,H,I,h⟩
theorem dO{e:Expr}{es:List Expr}{t:TG}{u:oA}(h1:PG X e t)(h2:vE X es u)
  (hs:(assignEach (e::es) X.env).map (·.2)=assign e X.env::(assignEach es X.env).map (·.2):=by rfl):vE X (e::es) (s_ t u):=by
 intro pins s σ H vs us Q I r h;obtain⟨v,vr,e1,h⟩:=h;subst e1;cases r with
 | cons r rr =>
  rw[hs];refine assignInOrder_cons (aW (h1 pins s σ H _ _ _ I r h) λ_ s1 ⟨fV,H1,I1,q1⟩=>?_);exact h2 pins s1 fV H1 _ _ Q I1 rr q1
def tu(K:W.Frag)(n:Nat)(t:oA):TG:=λv σ H Q=>∃a xs,v = .ref a/\aL K H a xs/\xs.length=n/\t xs σ H Q
theorem kM{es:List Expr}{k:Nat}{t:oA}{n:Nat}(hc:X.calm=true)(h:vE X es t)
  (hn:(assignEach es X.env).length=n:=by rfl) (fH:(assignEach es X.env).findIdx? (·.1)=none:=by rfl):PG X (.Tuple es k pos) (tu X.K n t):=by
 intro pins s σ H v u Q I r hw;obtain⟨a,xs,e1,hq,hl,hw⟩:=hw;subst e1;cases r;obtain⟨aB,rv,ht,hz⟩:=I.tuple hq;refine assign_Tuple_tuple (I.ok.hd hc) ht (by simp[hn,← hl,rv.length]) fH λh' hx=>?_
 have I1:Inv X pins σ H { s with heap:=h' }:=I.kept (t':=s.toks) λb o e=>hx b o (dD (cD e)) e;exact h pins _ σ H xs _ Q I1 (by simpa using rv) hw
def yu(to ti:TE)(t:Cm):TG:=λv σ H Q=>to σ H λo H1=>ti σ H1 λi H2=>t o i v H2 λH3=>Q σ H3
theorem yw{o i:Expr}{to ti:TE}{t:Cm}(ho:PE X o to)(hi:PE X i ti)(hs:RS X t)
  (ha:∀v,assign (.Subscript o i pos) X.env v=(do
   let ov ← holding [v] (eval o X.env)
   let iv ← holding [v,ov] (eval i X.env)
   standAt pos
   holding [v,ov,iv] (setItem ov iv v)
   release [v,ov,iv] []):=by intro _;rfl):PG X (.Subscript o i pos) (yu to ti t):=by
 intro pins s σ H v u Q I r h;rw[ha];refine aM (pW (aW (ho pins s σ H _ I h) λov s1 ⟨x,H1,I1,r1,q1⟩=>?_));refine aM (pW (aW (hi pins s1 σ H1 _ I1 q1) λiv s2 ⟨y,H2,I2,r2,q2⟩=>?_));refine aM (wpAny_standAt (aM (pW (aW (hs pins s2 σ H2 x y v ov iv u _ I2 r1 r2 r q2) λ_ s3 ⟨H3,I3,q3⟩=>?_))));exact wpAny_release ⟨σ,H3,I3,q3⟩
def tw(te:TE)(g:TG):TS:=λD σ H=>te σ H λx H1=>g x σ H1 D.nx
theorem tD{tg e:Expr}{te:TE}{g:TG}(he:PE X e te)(hg:PG X tg g)(hs:swapsWithSole [tg] e pos.line X.env=pure false:=by rfl)(hw:swappedStores [tg] e X.env=pure none:=by rfl)
  (h1:(assignEach [tg] X.env).map (·.2) = [assign tg X.env]:=by rfl):PS X (.Assign [tg] e pos) (tw te g):=by
 intro pins s σ H D I h;refine wpAny_Assign_stores (aW (he pins s σ H _ I h) λv s1 ⟨x,H1,I1,r1,q1⟩=>?_) hs hw;rw[h1];exact aW (hg pins s1 σ H1 x v _ I1 r1 q1) λ_ s2 q=>q
theorem aU{i:Nat}{x:Str}{e:Expr}{te:TE}{pos':Pos}(hN:X.N.Nodup)(hi:X.N[i]? = some x)(hx:Loc X.env.scope x)(he:PE X e te)(hs:swapsWith e (some (.Name x pos')) pos.line X.env=pure false:=by rfl)(hf:X.fn x=true\/X.env.scope.names.lookup x=some .local:=by first | exact .inl rfl | exact .inr rfl | assumption) :
  PS X (.Assign [.Name x pos'] e pos) (tw te (oB i)):=by
 intro pins s σ H D I h;refine wpAny_Assign_Name (aW (he pins s σ H _ I h) λv s1 ⟨y,H1,I1,r1,q1⟩=>?_) hs;exact GK I1 hN hi hx r1 (λs2 I2=>⟨_,H1,I2,q1⟩) hf
end
section
variable{X:Cx}{pos:Pos}
def aba(c:TT)(tb:TS):TS:=λD σ H=>∃W:Nat->St->Hp->Prop,(∃m,W m σ H)/\∀m σ H,W m σ H->
 c σ H λb H1=>if b=true then ∃N:St->Hp->Prop,(∀bK H',N bK H'->∃m',m' < m/\W m' bK H')/\tb { D with nx:=N,ct:=N,bk:=D.nx } σ H1 else D.nx σ H1
theorem Cn{c:Expr}{body:List Stmt}{tc:TT}{tb:TS}(hp:PassesOwn (model X.prog X.w) X.A X.env X.xe)(hc:PT X c tc)(hb:gB X body tb):PS X (.While c body [] pos) (aba tc tb):=by
 intro pins s σ H D I h;obtain⟨W,⟨m0,w0⟩,turn⟩:=h;refine wpAny_While (codeAny_whileLoop (λn s'=>∃bK H',Inv X pins bK H' s'/\W n bK H') ?_ m0 ⟨σ,H,I,w0⟩);rintro n s1 ⟨fV,H1,I1,w1⟩;refine sS hp (aW (hc pins s1 fV H1 _ I1 (turn n fV H1 w1)) λb s2 ⟨H2,I2,q2⟩=>?_);cases b with
 | true =>
  obtain⟨N,hN,q2⟩:=q2;rw[if_pos rfl];refine sS hp (aW (hb pins s2 fV H2 _ I2 q2) λf s3 q3=>?_);cases f with
  | next =>
   obtain⟨fc,H3,I3,n3⟩:=q3;obtain⟨m',hm,w3⟩:=hN fc H3 n3;exact⟨m',hm,fc,H3,I3,w3⟩
  | cont =>
   obtain⟨fc,H3,I3,n3⟩:=q3;obtain⟨m',hm,w3⟩:=hN fc H3 n3;exact⟨m',hm,fc,H3,I3,w3⟩
  | brk=>exact q3
  | ret v=>exact q3
 | false =>
  rw[if_neg eS];exact qV ⟨fV,H2,I2,q2⟩
end
structure It where
 go:Nat->Hp->Prop
 qb:Nat->Hp->V->Hp->Prop
 stop:Nat->Hp->Prop
noncomputable def oE(X:Cx)(pins:List (Addr×Obj))(H:Hp)(b:Addr):Prop :=
 H b=none/\b≠X.env.locals/\b∉X.fs/\(b∈X.ex\/X.bR.heap.objs.size<=b)/\(∀x c,X.env.cells.lookup x=some c->c≠b)/\∀p∈X.pn++pins,p.1≠b
theorem Inv.tE{X:Cx}{pins:List (Addr×Obj)}{σ:St}{H H':Hp}{s:Shared}{b:Addr}(I:Inv X pins σ H s)(hb:s.heap.objs.size<=b)(hn:H' b=none):oE X pins H' b:=by
 refine⟨hn,pU (gA I.lt hb),I.x9 hb,.inr (cX I.sz hb),λx c e z=>?_,λp hp z=>?_⟩
 ·obtain⟨v,q⟩:=I.cell x c e;exact absurd (gA q.lt (by rw[z];exact hb)) (kG _)
 ·exact absurd (gA (cD (I.pin p hp).1) (by rw[z];exact hb)) (kG _)
structure Turn(P:Program)(w:World)(K:W.Frag)(tg:Expr)(J:It)(fp:List Addr)(it:Addr)(tn:Nat->Heap->Prop):Prop where
 mem:it∈fp
 obj:∀i h,tn i h->∀b∈fp,∃o,h.get? b=some o/\∀v,o.data≠.cell v
 keep:∀i h h',tn i h->(∀b∈fp,∀o,h.get? b=some o->h'.get? b=some o)->tn i h'
 item:∀(X:Cx),X.prog=P->X.w=w->X.K=K->X.calm=true->∀(i:Nat) (pins:List (Addr×Obj)) (s:Shared) (σ:St) (H:Hp) (E:Value->Shared->Prop),Inv X pins σ H s->(∀b∈fp,oE X pins H b)->tn i s.heap->J.go i H->
  wpAny (model P w) X.A (pyNext (.ref it)) (λr s1=>∃u,r=some u/\
   wpAny (model P w) X.A (letOwnedTupleGo tg (.ref it) u) (λ_ s2=>∃x H',Inv X pins σ H' s2/\RelV x u/\J.qb i H x H'/\tn (i+1) s2.heap/\∀b∈fp,H' b=none) E s1) E s
 done:∀(X:Cx),X.prog=P->X.w=w->X.K=K->X.calm=true->∀(i:Nat) (pins:List (Addr×Obj)) (s:Shared) (σ:St) (H:Hp) (E:Value->Shared->Prop),Inv X pins σ H s->(∀b∈fp,oE X pins H b)->tn i s.heap->J.stop i H->
  wpAny (model P w) X.A (pyNext (.ref it)) (λr s1=>r=none/\Inv X pins σ H s1) E s
 self:∀(A:Around) (i:Nat) (s:Shared) (Q:Value->Shared->Prop) (E:Value->Shared->Prop),tn i s.heap->Q (.ref it) s->wpAny (model P w) A (pyIter (.ref it)) Q E s
noncomputable abbrev TI:=St->Hp->(It->Hp->Prop)->Prop
noncomputable def RT(X:Cx)(pins:List (Addr×Obj))(σ:St)(tg:Expr)(R:It->Hp->Prop)(Co:Value)(s2:Shared):Prop :=
 ∃(it:Addr) (fp:List Addr) (tn:Nat->Heap->Prop) (J:It) (H':Hp),Co = .ref it/\Inv X pins σ H' s2/\Turn X.prog X.w X.K tg J fp it tn/\tn 0 s2.heap/\(∀b∈fp,oE X pins H' b)/\R J H'
noncomputable def PI(X:Cx)(tg iter:Expr)(wi:TI):Prop :=
 ∀(pins:List (Addr×Obj)) (s:Shared) (σ:St) (H:Hp) (R:It->Hp->Prop),Inv X pins σ H s->wi σ H R->
  wpAny (model X.prog X.w) X.A (eval iter X.env) (λv s1=>wpAny (model X.prog X.w) X.A (pyIter v) (RT X pins σ tg R) X.xe s1) X.xe s
theorem GO{M:Model}{A:Around}{E:Value->Shared->Prop}{s:Shared}{tg:Expr}{it:Addr}{u:Value}{o:Obj}{n:String}{vs:Array Value}{Q:Unit->Shared->Prop}(ho:s.heap.get? it=some o)(hc:o.cls = .type n)(hd:o.data = .fields vs)
  (hn:["enumerate", "zip", "dict_itemiterator", "dict_reverseitemiterator", "odict_iterator", "itertools.zip_longest", "itertools.pairwise"].contains n=false) (hQ:Q () s):wpAny M A (letOwnedTupleGo tg (.ref it) u) Q E s:=by
 unfold letOwnedTupleGo;cases tg <;> first
  | exact bL hQ
  | (cases u <;> first
    | exact bL hQ
    | (refine aM (wpAny_load ho ?_)
       rw[hc,hd]
       show wpAny M A (if (["enumerate", "zip", "dict_itemiterator", "dict_reverseitemiterator", "odict_iterator", "itertools.zip_longest", "itertools.pairwise"].contains n && vs[0]? == some (rawInt _))=true then _ else _) Q E s
       rw[if_neg (by intro h;rw[hn,Bool.false_and] at h;cases h)]
       exact bL hQ))
noncomputable def q8(K:W.Frag)(a:Addr):It :=
 ⟨λi H=>∃xs x,az K H a xs/\xs[i]? = some x,λi H x H'=>H' = H/\∀xs,az K H a xs->xs[i]? = some x,λi H=>∃xs,az K H a xs/\xs.length<=i⟩
noncomputable def yx(K:W.Frag)(a:Addr):It :=
 ⟨λi H=>∃xs x,aL K H a xs/\xs[i]? = some x,λi H x H'=>H' = H/\∀xs,aL K H a xs->xs[i]? = some x,λi H=>∃xs,aL K H a xs/\xs.length<=i⟩
noncomputable def tF(lo:Int)(n:Nat):It:=⟨λi _=>i<n,λi H x H'=>H' = H/\x = .int (lo+i),λi _=>n<=i⟩
theorem abb{P:Program}{w:World}{K:W.Frag}{tg:Expr}(a it:Addr):Turn P w K tg (q8 K a) [it] it (λi h=>h.IsListIter it a i) where
 mem:=by simp
 obj:=λi h st b hb=>by
  have e:b=it:=by simpa using hb
  subst e;obtain⟨o,e,c,d⟩:=st;exact⟨o,e,λv z=>by rw[d] at z;cases z⟩
 keep:=λi h h' st k=>st.at λo e=>k it (by simp) o e
 item:=by
  intro X hP hw hK hc i pins s σ H E I hf st hg;subst hP hw hK;obtain⟨xs,x,hq,hx⟩:=hg;obtain⟨aB,rv,p,hz⟩:=I.list hq;obtain⟨u,hu,ru⟩:=rv.get hx;obtain⟨f0,f1,f2,f3,f4,f5⟩:=hf it (by simp)
  refine wpAny_pyNext_list_item st p.isList (x:=u) (by simpa using hu) λh' cZ sb=>?_
  have I1:Inv X pins σ H { s with heap:=h' }:=I.turned (t':=s.toks) (λb o hb e=>(sb.2 b hb).trans e) f0 f1 f3 f4 f5;obtain⟨o,e,c,d⟩:=id cZ;exact⟨u,rfl,GO (s:={ s with heap:=h' }) e c d (by decide) ⟨x,H,I1,ru,⟨rfl,λys hy=>by rw[I.RQ hy hq];exact hx⟩,cZ,λb hb=>(hf b hb).1⟩⟩
 done:=by
  intro X hP hw hK hc i pins s σ H E I hf st hg;subst hP hw hK;obtain⟨xs,hq,hx⟩:=hg;obtain⟨aB,rv,p,hz⟩:=I.list hq;obtain⟨f0,f1,f2,f3,f4,f5⟩:=hf it (by simp)
  have hl:=rv.length;exact wpAny_pyNext_list_end (I.ok.hd hc) st p.isList (by simp;lia) λh' eb=>⟨rfl,I.turned (t':=s.toks) (λb o hb e=>eb b o hb e) f0 f1 f3 f4 f5⟩
 self:=λ_ _ _ _ _ st h=>wpAny_pyIter_listiter st h
theorem abd{P:Program}{w:World}{K:W.Frag}{tg:Expr}(a it:Addr):Turn P w K tg (yx K a) [it] it (λi h=>h.IsTupleIter it a i) where
 mem:=by simp
 obj:=λi h st b hb=>by
  have e:b=it:=by simpa using hb
  subst e;obtain⟨o,e,c,d⟩:=st;exact⟨o,e,λv z=>by rw[d] at z;cases z⟩
 keep:=λi h h' st k=>st.at λo e=>k it (by simp) o e
 item:=by
  intro X hP hw hK hc i pins s σ H E I hf st hg;subst hP hw hK;obtain⟨xs,x,hq,hx⟩:=hg;obtain⟨aB,rv,p,hz⟩:=I.tuple hq;obtain⟨u,hu,ru⟩:=rv.get hx;obtain⟨f0,f1,f2,f3,f4,f5⟩:=hf it (by simp)
  refine wpAny_pyNext_tuple_item st (show s.heap.IsTuple a aB.toArray from p) (x:=u) (by simpa using hu) λh' cZ sb=>?_
  have I1:Inv X pins σ H { s with heap:=h' }:=I.turned (t':=s.toks) (λb o hb e=>(sb.2 b hb).trans e) f0 f1 f3 f4 f5;obtain⟨o,e,c,d⟩:=id cZ;exact⟨u,rfl,GO (s:={ s with heap:=h' }) e c d (by decide) ⟨x,H,I1,ru,⟨rfl,λys hy=>by rw[I.aa_ hy hq];exact hx⟩,cZ,λb hb=>(hf b hb).1⟩⟩
 done:=by
  intro X hP hw hK hc i pins s σ H E I hf st hg;subst hP hw hK;obtain⟨xs,hq,hx⟩:=hg;obtain⟨aB,rv,p,hz⟩:=I.tuple hq;obtain⟨f0,f1,f2,f3,f4,f5⟩:=hf it (by simp)
  have hl:=rv.length;exact wpAny_pyNext_tuple_end (I.ok.hd hc) st (show s.heap.IsTuple a aB.toArray from p) (by simp;lia) λh' eb=>⟨rfl,I.turned (t':=s.toks) (λb o hb e=>eb b o hb e) f0 f1 f3 f4 f5⟩
 self:=λ_ _ _ _ _ st h=>wpAny_pyIter_tupleiter st h
theorem abe{P:Program}{w:World}{K:W.Frag}{tg:Expr}(it:Addr)(lo:Int)(n:Nat):Turn P w K tg (tF lo n) [it] it (λi h=>IsRangeIter h it (lo+(i:Nat)*1) ((n:Int) - (i:Nat)) 1) where
 mem:=by simp
 obj:=λi h st b hb=>by
  have e:b=it:=by simpa using hb
  subst e;exact⟨_,st,λv z=>by
   have z':Data.fields _=Data.cell v:=z;cases z'⟩
 keep:=λi h h' st k=>k it (by simp) _ st
 item:=by
  intro X hP hw hK hc i pins s σ H E I hf st hg;subst hP hw hK;obtain⟨f0,f1,f2,f3,f4,f5⟩:=hf it (by simp)
  have W:=Walks.range (prog:=X.prog) (w:=X.w) (I.ok.hd hc) it lo 1 n;refine W.item i s _ _ hg st λv h' tk hv cZ kk=>?_;obtain⟨t,rfl⟩:=hv;have I1:Inv X pins σ H { s with heap:=h',toks:=tk }:=I.turned (λb o hb e=>kk b o (by simpa using hb) e) f0 f1 f3 f4 f5
  refine⟨_,rfl,GO (s:={ s with heap:=h',toks:=tk }) (n := "range_iterator") cZ rfl rfl (by decide) ⟨.int (lo+i),H,I1,⟨t,?_⟩,⟨rfl,rfl⟩,cZ,λb hb=>(hf b hb).1⟩⟩
  rw[Int.mul_one]
 done:=by
  intro X hP hw hK hc i pins s σ H E I hf st hg;subst hP hw hK;obtain⟨f0,f1,f2,f3,f4,f5⟩:=hf it (by simp)
  exact wpAny_pyNext_range_end (I.ok.hd hc) st (by have:n<=i:=hg;lia) λh' eb=>⟨rfl,I.turned (t':=s.toks) (λb o hb e=>eb b o hb e) f0 f1 f3 f4 f5⟩
 self:=λ_ _ _ _ _ st h=>wpAny_pyIter_rangeiter st h
section
variable{X:Cx}{tg:Expr}
def qc(K:W.Frag)(tl:TE):TI:=λσ H R=>tl σ H λx H1=>∃a,x = .ref a/\(∃xs,az K H1 a xs)/\R (q8 K a) H1
def GP(K:W.Frag)(tl:TE):TI:=λσ H R=>tl σ H λx H1=>∃a,x = .ref a/\(∃xs,aL K H1 a xs)/\R (yx K a) H1
theorem dX{l:Expr}{tl:TE}(hl:PE X l tl):PI X tg l (qc X.K tl):=by
 intro pins s σ H R I h;refine aW (hl pins s σ H _ I h) λv s1 ⟨x,H1,I1,r1,q1⟩=>?_;obtain⟨a,e,⟨xs,hq⟩,q⟩:=q1;subst e;cases r1;obtain⟨aB,rv,p,hz⟩:=I1.list hq;refine wpAny_pyIter_list p.isList ?_;refine⟨s1.heap.objs.size,[s1.heap.objs.size],_,_,H1,rfl,I1.kept (t':=s1.toks) λb o e=>dg _ e,abb a _,⟨_,fU _ rfl,rfl,rfl⟩,λb hb=>?_,q⟩;have e:b=s1.heap.objs.size:=by simpa using hb
 subst e;exact I1.tE (bH _) (I1.aK.fresh (bH _))
theorem GQ{l:Expr}{tl:TE}(hl:PE X l tl):PI X tg l (GP X.K tl):=by
 intro pins s σ H R I h;refine aW (hl pins s σ H _ I h) λv s1 ⟨x,H1,I1,r1,q1⟩=>?_;obtain⟨a,e,⟨xs,hq⟩,q⟩:=q1;subst e;cases r1;obtain⟨aB,rv,p,hz⟩:=I1.tuple hq;refine wpAny_pyIter_tuple (show s1.heap.IsTuple a aB.toArray from p) ?_;refine⟨s1.heap.objs.size,[s1.heap.objs.size],_,_,H1,rfl,I1.kept (t':=s1.toks) λb o e=>dg _ e,abd a _,⟨_,fU _ rfl,rfl,rfl⟩,λb hb=>?_,q⟩;have e:b=s1.heap.objs.size:=by simpa using hb
 subst e;exact I1.tE (bH _) (I1.aK.fresh (bH _))
theorem RU{pins:List (Addr×Obj)}{σ:St}{H:Hp}{s:Shared}{R:It->Hp->Prop}{E:Value->Shared->Prop}{lo hi:Int}{t u v:Tok}{tk:Nat}(I:Inv X pins σ H s)(h1 : -(2 ^ 62)<=lo)(h2:lo<2 ^ 62)(h3 : -(2 ^ 62)<=hi)(h4:hi<2 ^ 62)
  (q:R (tF lo (hi - lo).toNat) H):wpAny (model X.prog X.w) X.A (pyIter (.ref s.heap.objs.size)) (RT X pins σ tg R) E { s with heap:=s.heap.push { cls:=.type "range",data:=.fields #[.int lo t,.int hi u,.int 1 v] },toks:=tk }:=by
 refine wpAny_pyIter_range (IsRange.new ..) (small_one h1 h2 h3 h4) ?_;have I1:Inv X pins σ H { s with heap:=s.heap.push { cls:=.type "range",data:=.fields #[.int lo t,.int hi u,.int 1 v] },toks:=tk }:=I.kept λb o e=>dg _ e;refine⟨(s.heap.push { cls:=.type "range",data:=.fields #[.int lo t,.int hi u,.int 1 v] }).objs.size,[(s.heap.push { cls:=.type "range",data:=.fields #[.int lo t,.int hi u,.int 1 v] }).objs.size],_,_,H,rfl,
  I1.kept (t':=tk) λb o e=>dg _ e,abe _ lo (hi - lo).toNat,?_,λb hb=>?_,q⟩
 ·have e1:lo+((0:Nat):Int)*1=lo:=by simp
  have e2:(((hi - lo).toNat:Nat):Int) - ((0:Nat):Int)=Builtin.Range.rangeSize lo hi 1:=by rw[rangeSize_one];split <;> lia
  show IsRangeIter _ _ (lo+((0:Nat):Int)*1) ((((hi - lo).toNat:Nat):Int) - ((0:Nat):Int)) 1;rw[e1,e2];exact fU _ rfl
 ·have e:b=(s.heap.push { cls:=.type "range",data:=.fields #[.int lo t,.int hi u,.int 1 v] }).objs.size:=by simpa using hb
  subst e;exact I1.tE (bH _) (I1.aK.fresh (bH _))
def yy(ta:TA):TI:=λσ H R=>ta σ H λvs H1=>∃j:Int,vs = [.int j]/\-(2 ^ 62)<=j/\j<2 ^ 62/\R (tF 0 j.toNat) H1
def yz(ta:TA):TI:=λσ H R=>ta σ H λvs H1=>∃i j:Int,vs = [.int i,.int j]/\(-(2 ^ 62)<=i/\i<2 ^ 62/\-(2 ^ 62)<=j/\j<2 ^ 62)/\R (tF i (j - i).toNat) H1
theorem kN{a:Expr}{ta:TA}{p pos:Pos}(hg:Gl X "range")(hm:X.mg "range" = none)(ha:PA X [a] ta)(hs:starEach [a] X.env = [(false,eval a X.env)]:=by rfl):PI X tg (.Call (.Name "range" p) [a] [] pos) (yy ta):=by
 intro pins s σ H R I h;refine Call_ (qY I hg hm boot_range (xR (aW (ha pos pins s σ H _ I h) λus s1 ⟨vs,H1,I1,r1,q1⟩=>?_) hs rfl));obtain⟨j,e,q1,q2,q⟩:=q1;subst e;cases r1 with
 | cons r rr =>
  cases rr;obtain⟨t,rfl⟩:=r;exact call_range_1 (RU I1 (by lia) (by lia) q1 q2 (by simpa using q))
theorem tG{a b:Expr}{ta:TA}{p pos:Pos}(hg:Gl X "range")(hm:X.mg "range" = none)(ha:PA X [a,b] ta)(hs:starEach [a,b] X.env = [(false,eval a X.env),(false,eval b X.env)]:=by rfl)(oF:starEach [b] X.env = [(false,eval b X.env)]:=by rfl) :
  PI X tg (.Call (.Name "range" p) [a,b] [] pos) (yz ta):=by
 intro pins s σ H R I h;refine Call_ (qY I hg hm boot_range (xR (aW (ha pos pins s σ H _ I h) λus s1 ⟨vs,H1,I1,r1,q1⟩=>?_) (by rw[hs,oF]) (by rw[oF];rfl)))
 obtain⟨i,j,e,⟨q1,q2,q3,q4⟩,q⟩:=q1;subst e;cases r1 with
 | cons r rr =>
  cases rr with
  | cons r' rr =>
   cases rr;obtain⟨t,rfl⟩:=r;obtain⟨t',rfl⟩:=r';exact call_range_2 (RU I1 q1 q2 q3 q4 q)
def lI(wi:TI)(g:TG)(tb:TS):TS:=λD σ H=>wi σ H λJ H1=>∃W:Nat->Nat->St->Hp->Prop,(∃m,W 0 m σ H1)/\∀i m σ H,W i m σ H->
 (J.stop i H/\D.nx σ H)\/(J.go i H/\∃N:St->Hp->Prop,(∀bK H',N bK H'->∃m',m' < m/\W (i+1) m' bK H')/\∀x H',J.qb i H x H'->g x σ H' λaC H2=>tb { D with nx:=N,ct:=N,bk:=D.nx } aC H2)
noncomputable def yC(fp:List Addr)(h:Heap):List (Addr×Obj):=fp.filterMap λb=>(h.get? b).map λo=>(b,o)
theorem Cp{fp:List Addr}{h:Heap}{b:Addr}{o:Obj}(hb:b∈fp)(e:h.get? b=some o):(b,o)∈yC fp h:=Gg.mpr ⟨b,hb,by rw[e];rfl⟩
theorem abf{fp:List Addr}{h:Heap}{p:Addr×Obj}(hp:p∈yC fp h):p.1∈fp/\h.get? p.1=some p.2:=by
 obtain⟨b,hb,e⟩:=List.mem_filterMap.mp hp;cases q:h.get? b with
 | none=>rw[q] at e;cases e
 | some o =>
  rw[q] at e;have e':(b,o)=p:=dh e;subst e';exact⟨hb,q⟩
theorem Inv.pinned{pins:List (Addr×Obj)}{σ:St}{H:Hp}{s:Shared}{fp:List Addr}(I:Inv X pins σ H s)(hf:∀b∈fp,oE X pins H b)(ho:∀b∈fp,∃o,s.heap.get? b=some o/\∀v,o.data≠.cell v):Inv X (pins++yC fp s.heap) σ H s :=
 I.oz λp hp=>(fM.mp hp).elim (λz=>I.pin p (eZ _ z)) λz=>by
  obtain⟨hb,e⟩:=abf z;obtain⟨f0,f1,f2,_⟩:=hf p.1 hb;obtain⟨o,e',d⟩:=ho p.1 hb;rw[e] at e';cases e';exact⟨e,f0,f1,f2,d⟩
theorem Inv.yD{pins pl:List (Addr×Obj)}{σ:St}{H:Hp}{s:Shared}(I:Inv X (pins++pl) σ H s):Inv X pins σ H s:=I.oz λp hp=>I.pin p (eZ _ (pQ _ hp))
theorem dP{iter:Expr}{body:List Stmt}{wi:TI}{g:TG}{tb:TS}{pos:Pos}(hp:PassesOwn (model X.prog X.w) X.A X.env X.xe)(hc:X.calm=true)(hi:PI X tg iter wi)(hg:PG X tg g)(hb:gB X body tb)
  (hs:∀x,foldedSetIterable iter X.env x=pure x:=by intro _;rfl):PS X (.For tg iter body [] pos) (lI wi g tb):=by
 intro pins s σ H D I h;refine wpAny_For (aW (hi pins s σ H _ I h) λv s1 h1=>aW h1 λCo s2 h2=>?_) hs;obtain⟨it,fp,tn,J,H2,e,I2,T,cg,f2,W,⟨m0,w0⟩,turn⟩:=h2;subst e
 -- what stays true of the iterator's objects through the loop
 have tH:∀ {H':Hp},(∀b∈fp,H' b=none)->∀b∈fp,oE X pins H' b:=λhn b hb=>⟨hn b hb,(f2 b hb).2⟩;refine codeAny_forLoop_any (λn s'=>∃i bK H',Inv X pins bK H' s'/\tn i s'.heap/\(∀b∈fp,H' b=none)/\W i n bK H') ?_ m0 ⟨0,σ,H2,I2,cg,λb hb=>(f2 b hb).1,w0⟩;rintro n s3 ⟨i,fc,H3,I3,vG,tK,w3⟩;rcases turn i n fc H3 w3 with⟨stop,qn⟩ | ⟨go,N,hN,step⟩
 ·refine sS hp (aW (T.done X rfl rfl rfl hc i pins s3 fc H3 X.xe I3 (tH tK) vG stop) λr s4 ⟨hr,I4⟩=>?_);subst hr;exact qV ⟨fc,H3,I4,qn⟩
 ·refine sS hp (aW (T.item X rfl rfl rfl hc i pins s3 fc H3 X.xe I3 (tH tK) vG go) λr s4 ⟨u,hr,h4⟩=>?_);subst hr;refine sS hp (aW h4 λ_ s5 ⟨x,H5,I5,r5,zz⟩=>?_);obtain⟨y5,tL,GR⟩:=zz;have GS:=I5.pinned (tH GR) (T.obj _ _ tL);refine sS hp (aW (hg _ s5 fc H5 x u _ GS r5 (step x H5 y5)) λ_ s6 ⟨q9,H6,I6,q6⟩=>?_);refine sS hp (aW (hb _ s6 q9 H6 _ I6 q6) λf s7 q7=>?_);have again:∀ {jW:St} {H7:Hp},Inv X (pins++yC fp s5.heap) jW H7 s7->N jW H7->∃m,m<n/\∃i bK H',Inv X pins bK H' s7/\tn i s7.heap/\(∀b∈fp,H' b=none)/\W i m bK H':=λ{jW H7} I7 n7=>by
   obtain⟨m',hm,w7⟩:=hN jW H7 n7;refine⟨m',hm,i+1,jW,H7,I7.yD,T.keep _ _ _ tL λb hb o e=>(I7.pin (b,o) (eZ _ (eZ _ (Cp hb e)))).1,λb hb=>?_,w7⟩;obtain⟨o,e,d⟩:=T.obj _ _ tL b hb;exact(I7.pin (b,o) (eZ _ (eZ _ (Cp hb e)))).2.1
  cases f with
  | next=>obtain⟨jW,H7,I7,n7⟩:=q7;exact again I7 n7
  | cont=>obtain⟨jW,H7,I7,n7⟩:=q7;exact again I7 n7
  | brk=>obtain⟨jW,H7,I7,q7⟩:=q7;exact⟨jW,H7,I7.yD,q7⟩
  | ret v=>obtain⟨x7,jW,H7,I7,r7,q7⟩:=q7;exact⟨x7,jW,H7,I7.yD,r7,q7⟩
end
theorem RV{K:W.Frag}{a:Addr}{xs:List V}{g:TG}{tb:TS}{D:Ends}{σ:St}{H:Hp}(Pv:Nat->St->Hp->Prop)(h0:Pv 0 σ H)(hl:∀i σ H,i<=xs.length->Pv i σ H->az K H a xs)
  (hs:∀i x σ H,xs[i]? = some x->Pv i σ H->g x σ H λaC H2=>tb { D with nx:=Pv (i+1),ct:=Pv (i+1),bk:=D.nx } aC H2) (hd:∀σ H,Pv xs.length σ H->D.nx σ H) :
  ∃W:Nat->Nat->St->Hp->Prop,(∃m,W 0 m σ H)/\∀i m σ H,W i m σ H->
   ((q8 K a).stop i H/\D.nx σ H)\/((q8 K a).go i H/\∃N:St->Hp->Prop,(∀bK H',N bK H'->∃m',m' < m/\W (i+1) m' bK H')/\∀x H',(q8 K a).qb i H x H'->g x σ H' λaC H2=>tb { D with nx:=N,ct:=N,bk:=D.nx } aC H2):=by
 refine⟨λi m σ H=>m=xs.length - i/\i<=xs.length/\Pv i σ H,⟨xs.length,by simp,eF _,h0⟩,?_⟩
 rintro i m σ H ⟨rfl,hi,p⟩;have q:=hl i σ H hi p;by_cases cF:i<xs.length
 ·refine .inr ⟨⟨xs,xs[i],q,by simp[cF]⟩,Pv (i+1),λbK H' p'=>⟨xs.length - (i+1),by lia,rfl,cF,p'⟩,λx H' y=>?_⟩
  obtain⟨e,y⟩:=y;subst e;exact hs i x σ _ (y xs q) p
 ·have e:i=xs.length:=by lia
  subst e;exact .inl ⟨⟨xs,q,bH _⟩,hd σ H p⟩
theorem abg{K:W.Frag}{a:Addr}{xs:List V}{g:TG}{tb:TS}{D:Ends}{σ:St}{H:Hp}(Pv:Nat->St->Hp->Prop)(h0:Pv 0 σ H)(hl:∀i σ H,i<=xs.length->Pv i σ H->aL K H a xs)
  (hs:∀i x σ H,xs[i]? = some x->Pv i σ H->g x σ H λaC H2=>tb { D with nx:=Pv (i+1),ct:=Pv (i+1),bk:=D.nx } aC H2) (hd:∀σ H,Pv xs.length σ H->D.nx σ H) :
  ∃W:Nat->Nat->St->Hp->Prop,(∃m,W 0 m σ H)/\∀i m σ H,W i m σ H->
   ((yx K a).stop i H/\D.nx σ H)\/((yx K a).go i H/\∃N:St->Hp->Prop,(∀bK H',N bK H'->∃m',m' < m/\W (i+1) m' bK H')/\∀x H',(yx K a).qb i H x H'->g x σ H' λaC H2=>tb { D with nx:=N,ct:=N,bk:=D.nx } aC H2):=by
 refine⟨λi m σ H=>m=xs.length - i/\i<=xs.length/\Pv i σ H,⟨xs.length,by simp,eF _,h0⟩,?_⟩
 rintro i m σ H ⟨rfl,hi,p⟩;have q:=hl i σ H hi p;by_cases cF:i<xs.length
 ·refine .inr ⟨⟨xs,xs[i],q,by simp[cF]⟩,Pv (i+1),λbK H' p'=>⟨xs.length - (i+1),by lia,rfl,cF,p'⟩,λx H' y=>?_⟩
  obtain⟨e,y⟩:=y;subst e;exact hs i x σ _ (y xs q) p
 ·have e:i=xs.length:=by lia
  subst e;exact .inl ⟨⟨xs,q,bH _⟩,hd σ H p⟩
theorem GU{lo:Int}{n:Nat}{g:TG}{tb:TS}{D:Ends}{σ:St}{H:Hp}(Pv:Nat->St->Hp->Prop)(h0:Pv 0 σ H)
  (hs:∀i σ H,i<n->Pv i σ H->g (.int (lo+i)) σ H λaC H2=>tb { D with nx:=Pv (i+1),ct:=Pv (i+1),bk:=D.nx } aC H2) (hd:∀σ H,Pv n σ H->D.nx σ H) :
  ∃W:Nat->Nat->St->Hp->Prop,(∃m,W 0 m σ H)/\∀i m σ H,W i m σ H->
   ((tF lo n).stop i H/\D.nx σ H)\/((tF lo n).go i H/\∃N:St->Hp->Prop,(∀bK H',N bK H'->∃m',m' < m/\W (i+1) m' bK H')/\∀x H',(tF lo n).qb i H x H'->g x σ H' λaC H2=>tb { D with nx:=N,ct:=N,bk:=D.nx } aC H2):=by
 refine⟨λi m σ H=>m=n - i/\i<=n/\Pv i σ H,⟨n,by simp,eF _,h0⟩,?_⟩
 rintro i m σ H ⟨rfl,hi,p⟩;by_cases cF:i<n
 ·refine .inr ⟨cF,Pv (i+1),λbK H' p'=>⟨n - (i+1),by lia,rfl,cF,p'⟩,λx H' y=>?_⟩
  obtain⟨e,y⟩:=y;subst e y;exact hs i σ _ cF p
 ·have e:i=n:=by lia
  subst e;exact .inl ⟨bH _,hd σ H p⟩
noncomputable abbrev R2:=V->V->Hp->VK->Prop
noncomputable def cB(X:Cx)(f:Value->Value->Sem Value)(r:R2):Prop :=
 ∀(pins:List (Addr×Obj)) (s:Shared) (σ:St) (H:Hp) (x y:V) (v u:Value) (Q:VK),Inv X pins σ H s->RelV x v->RelV y u->r x y H Q->
  wpAny (model X.prog X.w) X.A (f v u) (EP X pins σ Q) X.xe s
noncomputable def GV(X:Cx)(f:Value->Sem Value)(r:V->Hp->VK->Prop):Prop :=
 ∀(pins:List (Addr×Obj)) (s:Shared) (σ:St) (H:Hp) (x:V) (v:Value) (Q:VK),Inv X pins σ H s->RelV x v->r x H Q->
  wpAny (model X.prog X.w) X.A (f v) (EP X pins σ Q) X.xe s
noncomputable def gC(X:Cx)(f:Value)(r:List V->Hp->VK->Prop):Prop :=
 ∀(pins:List (Addr×Obj)) (s:Shared) (σ:St) (H:Hp) (xs:List V) (us:List Value) (Q:VK),Inv X pins σ H s->Vals xs us->r xs H Q->
  wpAny (model X.prog X.w) X.A (call f us) (EP X pins σ Q) X.xe s
noncomputable def abh(X:Cx)(r:V->Hp->(Bool->Hp->Prop)->Prop):Prop :=
 ∀(pins:List (Addr×Obj)) (s:Shared) (σ:St) (H:Hp) (x:V) (v:Value) (Q:Bool->Hp->Prop),Inv X pins σ H s->RelV x v->r x H Q->
  wpAny (model X.prog X.w) X.A (truthy v) (TP X pins σ Q) X.xe s
def q_(r:R2)(ta tb:TE):TE:=λσ H Q=>ta σ H λx H1=>tb σ H1 λy H2=>r x y H2 Q
def yE(r:V->Hp->VK->Prop)(ta:TE):TE:=λσ H Q=>ta σ H λx H1=>r x H1 Q
def rI(C:Int->Int->Prop)(g:Int->Int->V):R2:=λx y H Q=>∃i j,x = .int i/\y = .int j/\C i j/\Q (g i j) H
def iR(g:Int->Int->V):R2:=λx y H Q=>∃i j,x = .int i/\y = .int j/\Q (g i j) H
def rU(g:Int->V):V->Hp->VK->Prop:=λx H Q=>∃i,x = .int i/\Q (g i) H
section
variable{X:Cx}{a b c:Expr}{ta tb tc:TE}{pos:Pos}
theorem GW(ha:PE X a ta)(hb:PE X b tb){pins:List (Addr×Obj)}{s:Shared}{σ:St}{H:Hp}{R:V->V->Hp->Prop}(I:Inv X pins σ H s)
  (h:ta σ H λx H1=>tb σ H1 λy H2=>R x y H2) {Q:Value->Shared->Prop} {f:Value->Value->Sem Value}
  (hf:∀v u s2 x y H2,Inv X pins σ H2 s2->RelV x v->RelV y u->R x y H2->wpAny (model X.prog X.w) X.A (f v u) Q X.xe s2) :
  wpAny (model X.prog X.w) X.A (eval a X.env) (λv bq=>wpAny (model X.prog X.w) X.A (eval b X.env) (λu jA=>wpAny (model X.prog X.w) X.A (f v u) Q X.xe jA) X.xe bq) X.xe s:=by
 refine aW (ha pins s σ H _ I h) λv s1 ⟨x,H1,I1,r1,q1⟩=>?_;refine aW (hb pins s1 σ H1 _ I1 q1) λu s2 ⟨y,H2,I2,r2,q2⟩=>?_;exact hf v u s2 x y H2 I2 r1 r2 q2
theorem aF{op:Operator}{r:R2}(ho:cB X (binaryOp op) r)(ha:PE X a ta)(hb:PE X b tb):PE X (.BinOp a op b pos) (q_ r ta tb):=by
 intro pins s σ H Q I h;exact wpAny_BinOp (GW ha hb I h λv u s2 x y H2 I2 rx ry q=>ho pins s2 σ H2 x y v u Q I2 rx ry q)
theorem tM{op:UnaryOp}{r:V->Hp->VK->Prop}(ho:GV X (unaryOp op) r)(ha:PE X a ta):PE X (.UnaryOp op a pos) (yE r ta):=by
 intro pins s σ H Q I h;exact UnaryOp_ (aW (ha pins s σ H _ I h) λv s1 ⟨x,H1,I1,r1,q1⟩=>ho pins s1 σ H1 x v Q I1 r1 q1)
theorem Cq{f:Value->Value->Sem Value}{C:Int->Int->Prop}{g:Int->Int->Int}
  (rule:∀(i j:Int) (t u:Tok) (s:Shared) (Q:Value->Shared->Prop) (E:Value->Shared->Prop),C i j->Q (.int (g i j) s.toks) { s with toks:=s.toks+1 }->wpAny (model X.prog X.w) X.A (f (.int i t) (.int j u)) Q E s) :
  cB X f (rI C λi j=>.int (g i j)):=by
 intro pins s σ H x y v u Q I rx ry h;obtain⟨i,j,rfl,rfl,hc,q⟩:=h;obtain⟨t,rfl⟩:=rx;obtain⟨t',rfl⟩:=ry;exact rule i j t t' s _ _ hc ⟨.int (g i j),H,I.tok _,⟨_,rfl⟩,q⟩
theorem RW{f:Value->Value->Sem Value}{g:Int->Int->Int}
  (rule:∀(i j:Int) (t u:Tok) (s:Shared) (Q:Value->Shared->Prop) (E:Value->Shared->Prop),Q (.int (g i j) s.toks) { s with toks:=s.toks+1 }->wpAny (model X.prog X.w) X.A (f (.int i t) (.int j u)) Q E s) :
  cB X f (iR λi j=>.int (g i j)):=by
 intro pins s σ H x y v u Q I rx ry h;obtain⟨i,j,rfl,rfl,q⟩:=h;obtain⟨t,rfl⟩:=rx;obtain⟨t',rfl⟩:=ry;exact rule i j t t' s _ _ ⟨.int (g i j),H,I.tok _,⟨_,rfl⟩,q⟩
theorem Cr{f:Value->Value->Sem Value}{g:Int->Int->Bool}
  (rule:∀(i j:Int) (t u:Tok) (s:Shared) (Q:Value->Shared->Prop) (E:Value->Shared->Prop),Q (.bool (g i j)) s->wpAny (model X.prog X.w) X.A (f (.int i t) (.int j u)) Q E s) :
  cB X f (iR λi j=>.bl (g i j)):=by
 intro pins s σ H x y v u Q I rx ry h;obtain⟨i,j,rfl,rfl,q⟩:=h;obtain⟨t,rfl⟩:=rx;obtain⟨t',rfl⟩:=ry;exact rule i j t t' s _ _ ⟨.bl (g i j),H,I,rfl,q⟩
def yF(i j:Int):Prop:=0<j/\j<1073741824
def Cs(i j:Int):Prop:=0<=j/\j<=1000000/\i.natAbs<2 ^ 64
def tN(i j:Int):Prop:=(-(2 ^ 64)<i/\i<2 ^ 64)\/(-(2 ^ 64)<j/\j<2 ^ 64)
theorem tN.ok{i j:Int}(h:tN i j):IntMulOk i j:=by
 rcases h with⟨h1,h2⟩ | ⟨h1,h2⟩
 ·exact .of_left (intBits_le_64 h1 h2)
 ·exact .of_right (intBits_le_64 h1 h2)
theorem d_:cB X (binaryOp .Add) (iR λi j=>.int (i+j)):=RW λ_ _ _ _ _ _ _ q=>add_int q
theorem oG:cB X (binaryOp .Sub) (iR λi j=>.int (i - j)):=RW λ_ _ _ _ _ _ _ q=>sub_int q
theorem vH:cB X (binaryOp .Mult) (rI tN λi j=>.int (i*j)):=Cq λ_ _ _ _ _ _ _ hc q=>mul_int q hc.ok
theorem vI:cB X (binaryOp .FloorDiv) (rI yF λi j=>.int (i / j)):=Cq λi j _ _ _ _ _ hc q=>by
 have h1:(0:Int)<j:=hc.1;have h2:j<1073741824:=hc.2;exact floordiv_int (by lia) (by rw[Int.fdiv_eq_ediv_of_nonneg i (by lia)];exact q) (.inl (PyProof.noPylong_small (by lia)))
theorem cR:cB X (binaryOp .Mod) (rI (λ_ j=>0<j) λi j=>.int (i % j)):=Cq λi j _ _ _ _ _ hc q=>by
 have h1:(0:Int)<j:=hc;exact mod_int' (by lia) (by rw[Int.fmod_eq_emod_of_nonneg i (by lia)];exact q)
theorem rm:cB X (binaryOp .Pow) (rI Cs λi j=>.int (i ^ j.toNat)):=Cq λ_ _ _ _ _ _ _ hc q=>pow_int_small hc.1 hc.2.1 hc.2.2 q
theorem unI{f:Value->Sem Value}{g:Int->Int}
  (rule:∀(i:Int) (t:Tok) (s:Shared) (Q:Value->Shared->Prop) (E:Value->Shared->Prop),Q (.int (g i) s.toks) { s with toks:=s.toks+1 }->wpAny (model X.prog X.w) X.A (f (.int i t)) Q E s) :
  GV X f (rU λi=>.int (g i)):=by
 intro pins s σ H x v Q I rx h;obtain⟨i,rfl,q⟩:=h;obtain⟨t,rfl⟩:=rx;exact rule i t s _ _ ⟨.int (g i),H,I.tok _,⟨_,rfl⟩,q⟩
theorem tO:GV X (unaryOp .USub) (rU λi=>.int (-i)):=unI λ_ _ _ _ _ q=>neg_int q
end
noncomputable def lJ:V->V->Bool
 | .aO,.aO=>true | .aO,.int _=>true | .int _,.aO=>true | .aO,.bl _=>true | .bl _,.aO=>true | .aO,.str _=>true | .str _,.aO=>true
 | .int _,.int _=>true | .bl _,.bl _=>true | .str _,.str _=>true | .iu _,.iu _=>true
 | .int _,.str _=>true | .str _,.int _=>true | .bl _,.str _=>true | .str _,.bl _=>true
 | _,_=>false
def yG:R2:=λx y H Q=>lJ x y=true/\Q (.bl (decide (x=y))) H
def yH:R2:=λx y H Q=>lJ x y=true/\Q (.bl (!decide (x=y))) H
theorem RX{i j:Int}:decide (V.int i=V.int j)=(i == j):=by
 rw[sL];simp
theorem RY{i j:Bool}:decide (V.bl i=V.bl j)=(i == j):=by
 rw[sL];simp
theorem RZ{i j:Str}:decide (V.str i=V.str j)=(i == j):=by
 rw[sL];simp
theorem R0{i j:Array UInt8}:decide (V.iu i=V.iu j)=(i.toList == j.toList):=by
 rw[sL];cases i;cases j;simp
section
variable{X:Cx}{a b c:Expr}{ta tb tc:TE}{pos:Pos}
theorem dY{pins:List (Addr×Obj)}{σ:St}{H:Hp}{s:Shared}{Q:VK}{k k':Bool}(I:Inv X pins σ H s)(q:Q (.bl k) H)(e:k=k'):EP X pins σ Q (.bool k') s:=by
 subst e;exact⟨.bl k,H,I,rfl,q⟩
theorem lK:cB X (compareOp .Eq) yG:=by
 intro pins s σ H x y v u Q I rx ry h;obtain⟨hs,q⟩:=h;cases x with
 | aO =>
  cases rx;cases y with
  | aO=>cases ry;exact PySem.EqNone.eq_none_none (dY I q (by simp))
  | bl j=>cases ry;exact PySem.EqNone.eq_none_bool (dY I q (by simp))
  | int j=>obtain⟨t',rfl⟩:=ry;exact PySem.EqNone.eq_none_int (dY I q (by simp))
  | str j=>obtain⟨t',rfl⟩:=ry;exact PySem.EqNone.eq_none_str (dY I q (by simp))
  | _=>exact absurd (show false=true from hs) eS
 | bl i =>
  cases rx;cases y with
  | aO=>cases ry;exact PySem.EqNone.eq_bool_none (dY I q (by simp))
  | bl j=>cases ry;exact eq_bool (dY I q RY)
  | str j=>obtain⟨t',rfl⟩:=ry;exact PySem.EqMixed.eq_bool_str (dY I q (by simp))
  | _=>exact absurd (show false=true from hs) eS
 | int i =>
  obtain⟨t,rfl⟩:=rx;cases y with
  | aO=>cases ry;exact PySem.EqNone.eq_int_none (dY I q (by simp))
  | int j=>obtain⟨t',rfl⟩:=ry;exact eq_int (dY I q RX)
  | str j=>obtain⟨t',rfl⟩:=ry;exact PySem.EqMixed.eq_int_str (dY I q (by simp))
  | _=>exact absurd (show false=true from hs) eS
 | str i =>
  obtain⟨t,rfl⟩:=rx;cases y with
  | aO=>cases ry;exact PySem.EqNone.eq_str_none (dY I q (by simp))
  | bl j=>cases ry;exact PySem.EqMixed.eq_str_bool (dY I q (by simp))
  | int j=>obtain⟨t',rfl⟩:=ry;exact PySem.EqMixed.eq_str_int (dY I q (by simp))
  | str j=>obtain⟨t',rfl⟩:=ry;exact eq_str (dY I q RZ)
  | _=>exact absurd (show false=true from hs) eS
 | iu i =>
  obtain⟨t,rfl⟩:=rx;cases y with
  | iu j=>obtain⟨t',rfl⟩:=ry;exact PySem.W.eq_bytes (dY I q R0)
  | _=>exact absurd (show false=true from hs) eS
 | _=>cases y <;> exact absurd (show false=true from hs) eS
theorem yI:cB X (compareOp .NotEq) yH:=by
 intro pins s σ H x y v u Q I rx ry h;obtain⟨hs,q⟩:=h;cases x with
 | aO =>
  cases rx;cases y with
  | aO=>cases ry;exact PySem.EqNone.ne_none_none (dY I q (by simp))
  | bl j=>cases ry;exact PySem.EqNone.ne_none_bool (dY I q (by simp))
  | int j=>obtain⟨t',rfl⟩:=ry;exact PySem.EqNone.ne_none_int (dY I q (by simp))
  | str j=>obtain⟨t',rfl⟩:=ry;exact PySem.EqNone.ne_none_str (dY I q (by simp))
  | _=>exact absurd (show false=true from hs) eS
 | bl i =>
  cases rx;cases y with
  | aO=>cases ry;exact PySem.EqNone.ne_bool_none (dY I q (by simp))
  | bl j=>cases ry;exact ne_bool (dY I q (ig not RY))
  | str j=>obtain⟨t',rfl⟩:=ry;exact PySem.EqMixed.ne_bool_str (dY I q (by simp))
  | _=>exact absurd (show false=true from hs) eS
 | int i =>
  obtain⟨t,rfl⟩:=rx;cases y with
  | aO=>cases ry;exact PySem.EqNone.ne_int_none (dY I q (by simp))
  | int j=>obtain⟨t',rfl⟩:=ry;exact ne_int (dY I q (ig not RX))
  | str j=>obtain⟨t',rfl⟩:=ry;exact PySem.EqMixed.ne_int_str (dY I q (by simp))
  | _=>exact absurd (show false=true from hs) eS
 | str i =>
  obtain⟨t,rfl⟩:=rx;cases y with
  | aO=>cases ry;exact PySem.EqNone.ne_str_none (dY I q (by simp))
  | bl j=>cases ry;exact PySem.EqMixed.ne_str_bool (dY I q (by simp))
  | int j=>obtain⟨t',rfl⟩:=ry;exact PySem.EqMixed.ne_str_int (dY I q (by simp))
  | str j=>obtain⟨t',rfl⟩:=ry;exact ne_str (dY I q (ig not RZ))
  | _=>exact absurd (show false=true from hs) eS
 | iu i =>
  obtain⟨t,rfl⟩:=rx;cases y with
  | iu j=>obtain⟨t',rfl⟩:=ry;exact PySem.W.ne_bytes (dY I q (ig not R0))
  | _=>exact absurd (show false=true from hs) eS
 | _=>cases y <;> exact absurd (show false=true from hs) eS
theorem gO:cB X (compareOp .Lt) (iR λi j=>.bl (decide (i<j))):=Cr λ_ _ _ _ _ _ _ q=>lt_int q
theorem abi:cB X (compareOp .LtE) (iR λi j=>.bl (decide (i<=j))):=Cr λ_ _ _ _ _ _ _ q=>le_int q
theorem jX:cB X (compareOp .Gt) (iR λi j=>.bl (decide (j<i))):=Cr λ_ _ _ _ _ _ _ q=>gt_int q
theorem vJ:cB X (compareOp .GtE) (iR λi j=>.bl (decide (j<=i))):=Cr λ_ _ _ _ _ _ _ q=>ge_int q
theorem R1:cB X (compareOp .Is) (λx y H Q=>y = .aO/\Q (.bl (decide (x = .aO))) H):=by
 intro pins s σ H x y v u Q I rx ry h;obtain⟨rfl,q⟩:=h;cases ry;refine is_none_gen (dY I q ?_);cases x <;> first
  | (cases rx;rfl)
  | (obtain⟨t,rfl⟩:=rx;rfl)
theorem R3:cB X (compareOp .IsNot) (λx y H Q=>y = .aO/\Q (.bl (!decide (x = .aO))) H):=by
 intro pins s σ H x y v u Q I rx ry h;obtain⟨rfl,q⟩:=h;cases ry;refine isnot_none_gen (dY I q ?_);cases x <;> first
  | (cases rx;rfl)
  | (obtain⟨t,rfl⟩:=rx;rfl)
theorem bM(b:Expr){op:CmpOp}(h:op≠.In:=by decide)(h2:op≠.NotIn:=by decide):behindInMarks op b=false:=by
 have e1:(op == CmpOp.In)=false:=by cases op <;> first | rfl | exact absurd rfl h
 have e2:(op == CmpOp.NotIn)=false:=by cases op <;> first | rfl | exact absurd rfl h2
 cases b <;> simp[behindInMarks,e1,e2]
theorem iD{op:CmpOp}{r:R2}(ho:cB X (compareOp op) r)(ha:PE X a ta)(hb:PE X b tb)(hm:behindInMarks op b=false):PE X (.Compare a [op] [b] pos) (q_ r ta tb):=by
 intro pins s σ H Q I h;exact wpAny_Compare1 (GW ha hb I h λv u s2 x y H2 I2 rx ry q=>ho pins s2 σ H2 x y v u Q I2 rx ry q) hm
def yJ(t:TE):TT:=λσ H Q=>t σ H λx H'=>∃k,x = .bl k/\Q k H'
theorem dz{op:CmpOp}{r:R2}(ho:cB X (compareOp op) r)(ha:PE X a ta)(hb:PE X b tb)(hm:behindInMarks op b=false):PT X (.Compare a [op] [b] pos) (yJ (q_ r ta tb)):=by
 intro pins s σ H Q I h;refine GB (aW (ha pins s σ H _ I h) λv s1 ⟨x,H1,I1,r1,q1⟩=>aW (hb pins s1 σ H1 _ I1 q1) λu s2 ⟨y,H2,I2,r2,q2⟩ =>
  aW (ho pins s2 σ H2 x y v u _ I2 r1 r2 q2) λc s3 ⟨z,H3,I3,r3,zz⟩=>?_) hm
 obtain⟨k,e,q3⟩:=zz;subst e;cases r3;exact pX ⟨H3,I3,q3⟩
def Ct(r r':R2)(ta tb tc:TE):TE:=λσ H Q=>ta σ H λx H1=>tb σ H1 λy H2=>r x y H2 λz H3=>∃k,z = .bl k/\
 (if k=true then tc σ H3 λw' H4=>r' y w' H4 Q else Q (.bl false) H3)
noncomputable def GX(K:W.Frag)(x:V)(H:Hp)(k:Bool):Prop :=
 match x with
 | .aO=>k=false
 | .bl b=>k=b
 | .int i=>k=(i != 0)
 | .str y=>y.length<=sizeLine/\k=((y.length:Int) != 0)
 | .iu y=>y.size<=sizeLine/\k=((y.size:Int) != 0)
 | .ref p=>(∃xs,az K H p xs/\k = !xs.isEmpty)\/(∃xs,aL K H p xs/\k = !xs.isEmpty)\/∃aA,H p=some (.dK aA)/\k = !aA.isEmpty
 | _=>False
theorem abj{κ:Type}{aA:List (κ×V)}{vs:List (κ×Value)}(r:KV aA vs):(!vs.isEmpty) = !aA.isEmpty:=by
 cases r <;> rfl
theorem R4{xs:List V}{aB:List Value}(r:Vals xs aB):(!aB.toArray.isEmpty) = !xs.isEmpty:=by
 cases r <;> simp
theorem yK:(sizeLine:Nat)<2 ^ 63:=by rw[xX];decide
theorem abk:abh X (λx H Q=>∃k,GX X.K x H k/\Q k H):=by
 intro pins s σ H x v Q I rx h;obtain⟨k,e,q⟩:=h;have hl:=yK;have hs:sizeLine=16777216:=xX;cases x with
 | aO =>
  cases rx;have e':k=false:=e;subst e';exact truthy_none ⟨H,I,q⟩
 | bl b =>
  cases rx;have e':k=b:=e;subst e';exact pX ⟨H,I,q⟩
 | int i =>
  obtain⟨t,rfl⟩:=rx;have e':k=(i != 0):=e;subst e';exact PySem.P.truthy_int ⟨H,I,q⟩
 | str y =>
  obtain⟨t,rfl⟩:=rx;obtain⟨hy,e'⟩:y.length<=sizeLine/\k=((y.length:Int) != 0):=e;subst e';exact PySem.P.truthy_str (by lia) ⟨H,I.tok _,q⟩
 | iu y =>
  obtain⟨t,rfl⟩:=rx;obtain⟨hy,e'⟩:y.size<=sizeLine/\k=((y.size:Int) != 0):=e;subst e';exact PySem.W.truthy_bytes (by lia) ⟨H,I.tok _,q⟩
 | ref p =>
  cases rx;have e':(∃xs,az X.K H p xs/\k = !xs.isEmpty)\/(∃xs,aL X.K H p xs/\k = !xs.isEmpty)\/∃aA,H p=some (.dK aA)/\k = !aA.isEmpty:=e;rcases e' with⟨xs,hx,e'⟩ | ⟨xs,hx,e'⟩ | ⟨aA,hx,e'⟩
  ·subst e';obtain⟨aB,r,pl,hz⟩:=I.list hx;have hlen:=r.length;exact wpAny_truthy_list pl.isList (by simp only[List.size_toArray];lia) ⟨H,I.tok _,by rw[R4 r];exact q⟩
  ·subst e';obtain⟨aB,r,pl,hz⟩:=I.tuple hx;have hlen:=r.length;exact truthy_tuple pl (by simp only[List.size_toArray];lia) ⟨H,I.tok _,by rw[R4 r];exact q⟩
  ·subst e';obtain⟨hz,hS,vs,r,m⟩:aA.length<=sizeLine/\(p == sysModules)=false/\∃vs,KV aA vs/\s.heap.DictOf (eU X.prog X.w) p vs:=I.aK p _ hx;have hlen:aA.length=vs.length:=BS r;exact wpAny_truthy_dict hS m (by lia) ⟨H,I.tok _,by rw[abj r];exact q⟩
 | _=>exact(show False from e).elim
theorem GY(ha:PE X a ta)(he:∀whole,isTrue a X.env whole=(do let v ← whole;standAt a.pos;holding [v] (truthy v))) :
  PT X a (λσ H Q=>ta σ H λx H'=>∃k,GX X.K x H' k/\Q k H'):=by
 intro pins s σ H Q I h;exact isTrue_plain (aW (ha pins s σ H _ I h) λv s1 ⟨x,H1,I1,r1,q1⟩=>abk pins s1 σ H1 x v Q I1 r1 q1) (he _)
theorem vals1{x:V}{us:List Value}(r:Vals [x] us):∃u,us = [u]/\RelV x u:=by
 cases r with
 | cons r1 r2=>cases r2;exact⟨_,rfl,r1⟩
theorem vals2{x y:V}{us:List Value}(r:Vals [x,y] us):∃u w',us = [u,w']/\RelV x u/\RelV y w':=by
 cases r with
 | cons r1 r2 =>
  cases r2 with
  | cons r3 r4=>cases r4;exact⟨_,_,rfl,r1,r3⟩
theorem GZ:gC X (.builtin "abs") (λxs H Q=>∃i,xs = [.int i]/\Q (.int (if i<0 then -i else i)) H):=by
 intro pins s σ H xs us Q I r h;obtain⟨i,rfl,q⟩:=h;obtain⟨u,rfl,t,rfl⟩:=vals1 r;exact call_abs_int λu tk=>⟨.int (if i<0 then -i else i),H,I.tok _,⟨_,rfl⟩,q⟩
theorem G0(hc:X.calm=true):gC X (.builtin "min") (λxs H Q=>∃i j,xs = [.int i,.int j]/\Q (.int (if j<i then j else i)) H):=by
 intro pins s σ H xs us Q I r h;obtain⟨i,j,rfl,q⟩:=h;obtain⟨u,w',rfl,⟨t,rfl⟩,⟨t',rfl⟩⟩:=vals2 r;refine min_two_ints (I.ok.hd hc) λh' tk k=>⟨_,H,I.kept k,?_,q⟩;by_cases hj:j<i
 ·rw[if_pos hj,if_pos hj];exact⟨_,rfl⟩
 ·rw[if_neg hj,if_neg hj];exact⟨_,rfl⟩
end
structure tQ(h:Heap)(x dx C:Addr)(mA:Str->Option Value):Prop where
 obj:h.get? x=some (PySem.W.instObj C dx)
 ns:h.Ns1 dx mA
 ne:dx≠x
theorem abl{h:Heap}{dx:Addr}{mA:Str->Option Value}(n:h.Ns1 dx mA):∃od,h.get? dx=some od/\∀name,PySem.W.lookIn name od=some (mA name):=by
 obtain⟨o,es,ep,ho,hd,hk,_,hm⟩:=n;refine⟨o,ho,λname=>?_⟩
 have e:=hm name;unfold nsFind findBy at e;rw[← Array.find?_toList] at e;unfold PySem.W.lookIn;rw[hd];dsimp only;split
 ·rename_i y q;rw[q] at e;exact ig some e
 ·rename_i q;rw[q] at e;have a:es.toList.any (·.refKey)=false:=by
   rw[List.any_eq_false];intro y hy;obtain⟨z,t,rq⟩:=hk y (Array.mem_toList_iff.mp hy);simp[DictEntry.refKey,rq]
  have a':¬ es.toList.any (·.refKey)=true:=by rw[a];exact eS
  rw[if_neg a'];exact ig some e
theorem tQ.look{h:Heap}{x dx C:Addr}{mA:Str->Option Value}(I:tQ h x dx C mA):∃od,PySem.W.InstAt h x (PySem.W.instObj C dx) C (some od)/\∀name,PySem.W.lookIn name od=some (mA name) :=
 let ⟨od,ho,hl⟩:=abl I.ns
 ⟨od,⟨I.obj,rfl,rfl,ho⟩,hl⟩
section
variable{prog:Program}{w:World}{A:Around}{E:Value->Shared->Prop}{s:Shared}{K:W.Frag}{x dx C f:Addr}{mA:Str->Option Value}{name:Str}{v:Value}
theorem get_map{expr:Bool}{Q:Value->Shared->Prop}(X:K.In s.heap)(I:tQ s.heap x dx C mA)(hg:PySem.W.plainGet K C name=true)(hh:PySem.W.hasDictIn K C=true)
  (ha:PySem.W.findIn K (.ref C) name=some none) (hv:mA name=some v) (hv':PySem.W.handedIn v=true) (h:Q v { s with toks:=s.toks+1 }) :
  wpAny (model prog w) A (getAttr (.ref x) name expr) Q E s:=by
 obtain⟨od,J,hl⟩:=I.look;exact PySem.W.get_value X J (Gx hg).1 (PySem.W.findObj_own hh ha rfl (by rw[hl,hv])) hv' h
theorem abm{pl:Sem Bool}{Q:Value×List Value->Shared->Prop}(X:K.In s.heap)(I:tQ s.heap x dx C mA)(hg:PySem.W.plainGet K C name=true)
  (hf:PySem.W.findIn K (.ref C) name=some (some (.ref f))) (ht:PySem.W.isFn K (.ref f)=true) (hv:mA name=none) (h:Q (.ref f,[.ref x]) s) :
  wpAny (model prog w) A (getMethod (.ref x) name pl) Q E s:=by
 obtain⟨od,J,hl⟩:=I.look;exact PySem.W.method_fn X J (Gx hg).1 (Gx hg).2 hf (lE.mp ht) (by show (PySem.W.lookIn name od).map (·.isSome)=some false;rw[hl,hv];rfl) h
theorem abn{ns:List Str}{Q:Unit->Shared->Prop}(X:K.In s.heap)(I:tQ s.heap x dx C mA)
  (hs:PySem.W.findIn K (.ref C) "__setattr__" = some (some (.builtin "object.__setattr__"))) (hp:PySem.W.plainOver K C=true) (ht:PySem.W.takerIn K C name=some none) (hh:PySem.W.hasDictIn K C=true)
  (hw:PySem.Within mA ns) (hsz:ns.length<=sizeLine)
  (h:∀h',tQ h' x dx C (λy=>if y=name then some v else mA y)->Heap.SameBut dx s.heap h'->Q () { s with heap:=h',toks:=s.toks+2 }) :
  wpAny (model prog w) A (setAttr (.ref x) name v) Q E s:=by
 obtain⟨od,J,hl⟩:=I.look;refine PySem.W.set_plain X J hs (PySem.W.osa_open (s:={ s with toks:=s.toks+1 }) (r:=none) X J hp ht λb=>?_)
 obtain⟨cd,hc,fP⟩:=PySem.W.any_some hh;have hx:s.heap.get? x=some ⟨.ref C,some dx,.plain,#[]⟩:=I.obj;refine aM (bL (aM (aM (wpAny_loadPart hx (aM (PySem.W.Looks.here (s:={ s with toks:=s.toks+1 }) (PySem.W.looks_clsIn X hc) ?_))))));rw[fP];refine bL (a:=some dx) (aM (bL (aM ?_)));refine wpAny_nsSet1 (s:={ s with toks:=s.toks+1 }) I.ns λh' vK oF=>?_;obtain⟨oD,esD,epD,hoD,hdD,hcD⟩:=vK.count (PySem.Within.cons name v hw);refine aM (wpAny_lookBehind hoD (by rw[hdD];exact pastItsLine_dict (cX hcD (by rw[eY];lia))) ?_)
 exact bL (h _ ⟨(oF.2 _ (f_ I.ne)).trans I.obj,vK,I.ne⟩ oF)
theorem abo{R:Result->Shared->Prop}{vs:List Value}{kw:List (Str×Value)}(X:K.In s.heap)(hm:PySem.W.makesIn K C=true)
  (hi:PySem.W.findIn K (.ref C) "__init__" = some (some (.ref f))) (hf:PySem.W.typeIn K (.ref f)=some (.type "function"))
  (h:codeAny (model prog w) (A.under (.builtin "type.__call__" ⟨.ref C::vs,kw⟩)) (.call (.ref f) ⟨.ref (s.heap.objs.size+1)::vs,kw⟩) (PySem.W.InitBack (s.heap.objs.size+1) R)
   { s with heap:=(s.heap.push PySem.W.emptyDict).push (PySem.W.instObj C s.heap.objs.size)}) :
  codeAny (model prog w) A (.call (.ref C) ⟨vs,kw⟩) R s:=by
 obtain⟨hh,g,d,t,os⟩:=s;exact PySem.W.make_core (PySem.W.makes_of X hm) (PySem.W.looks_findIn X hi) (λself=>PySem.W.bind_fn X self hf) (.inl rfl) h
end
noncomputable def fW(f:Str)(v:V):List (Str×V)->List (Str×V)
 | []=>[(f,v)]
 | (g,x)::r=>if g=f then(g,v)::r else(g,x)::fW f v r
theorem R5(f g:Str)(v:V):∀fs:List (Str×V),(fW f v fs).lookup g=if g=f then some v else fs.lookup g
 | []=>by
  show List.lookup g [(f,v)] = _;by_cases h:g=f
  ·have hb:(g == f)=true:=lE.mpr h;simp only[List.lookup,hb,if_pos h]
  ·have hb:(g == f)=false:=lC.mpr h;simp only[List.lookup,hb,if_neg h]
 | (k,x)::r=>by
  have ih:=R5 f g v r;rw[show fW f v ((k,x)::r)=(if k=f then(k,v)::r else(k,x)::fW f v r) from rfl]
  by_cases hk:k=f
  ·rw[if_pos hk];by_cases h:g=k
   ·have hb:(g == k)=true:=lE.mpr h;simp only[List.lookup,hb,if_pos (h.trans hk)]
   ·have hb:(g == k)=false:=lC.mpr h;simp only[List.lookup,hb,if_neg (λe:g=f=>h (e.trans hk.symm))]
  ·rw[if_neg hk];by_cases h:g=k
   ·have hb:(g == k)=true:=lE.mpr h;simp only[List.lookup,hb,if_neg (λe:g=f=>hk (h.symm.trans e))]
   ·have hb:(g == k)=false:=lC.mpr h;simp only[List.lookup,hb];exact ih
theorem G1(f:Str)(v:V):∀fs:List (Str×V),f∈(fW f v fs).map (·.1)/\∀g,g∈fs.map (·.1)->g∈(fW f v fs).map (·.1)
 | []=>⟨by simp[fW],λg h=>by simp at h⟩
 | (k,x)::r=>by
  obtain⟨i1,i2⟩:=G1 f v r;rw[show fW f v ((k,x)::r)=(if k=f then(k,v)::r else(k,x)::fW f v r) from rfl]
  by_cases hk:k=f
  ·rw[if_pos hk];subst hk;exact⟨by simp,λg h=>by simpa using h⟩
  ·rw[if_neg hk];refine⟨?_,λg h=>?_⟩
   ·rw[dM];exact bW _ i1
   ·rw[dM] at h ⊢;rcases cE.mp h with e | e
    ·exact List.mem_cons.mpr (.inl e)
    ·exact bW _ (i2 g e)
theorem R6(f:Str)(v:V):∀fs:List (Str×V),(fW f v fs).length<=fs.length+1
 | []=>by simp[fW]
 | (k,x)::r=>by
  have ih:=R6 f v r;rw[show fW f v ((k,x)::r)=(if k=f then(k,v)::r else(k,x)::fW f v r) from rfl]
  by_cases hk:k=f
  ·rw[if_pos hk,eY,eY];lia
  ·rw[if_neg hk,eY,eY];lia
theorem iw.some_of{v:V}{o:Option Value}(r:iw (some v) o):∃u,o=some u/\RelV v u:=by
 cases o with
 | none=>exact(show False from r).elim
 | some u=>exact⟨u,rfl,r⟩
theorem iw.none_of{o:Option Value}(r:iw none o):o=none:=by
 cases o with
 | none=>rfl
 | some u=>exact(show False from r).elim
theorem abp{v:V}{u:Value}(r:RelV v u):PySem.W.handedIn u=true:=by
 cases v with
 | aO=>cases (show u=Value.none from r);rfl
 | bl b=>cases (show u=Value.bool b from r);rfl
 | int i=>obtain⟨t,e⟩:=(show ∃t,u=Value.int i t from r);cases e;rfl
 | str x=>obtain⟨t,e⟩:=(show ∃t,u=Value.str x t from r);cases e;rfl
 | iu b=>obtain⟨t,e⟩:=(show ∃t,u=Value.bytes b t from r);cases e;rfl
 | mO b=>obtain⟨t,e⟩:=(show ∃t,u=Value.float b t from r);cases e;rfl
 | ref a=>cases (show u=Value.ref a from r);rfl
 | ty n=>cases (show u=Value.type n from r);rfl
section
variable{P:Program}{w:World}{H H':Hp}{h h':Heap}{a C dx:Addr}{fs RD:List (Str×V)}
theorem Cu(aK:cQ P w H h)(e:H a=some (.ins C dx fs)):∃mA,tQ h a dx C mA/\(∀f,iw (fs.lookup f) (mA f))/\PySem.Within mA (fs.map (·.1))/\fs.length<=1000/\H dx=some (.own a):=by
 obtain⟨d,z,ne,ob,mA,n,r,q⟩:=(show dU P w H h a (.ins C dx fs) from aK a _ e);exact⟨mA,⟨ob,n,ne⟩,r,q,z,d⟩
end
structure dF(K:W.Frag)(C:Addr):Prop where
 pg:PySem.W.plainGet K C Str.empty=true
 hd:PySem.W.hasDictIn K C=true
 po:PySem.W.plainOver K C=true
 sa:PySem.W.findIn K (.ref C) "__setattr__" = some (some (.builtin "object.__setattr__"))
theorem dF.get{K:W.Frag}{C:Addr}(c:dF K C)(f:Str):PySem.W.plainGet K C f=true:=c.pg
def b9(K:W.Frag)(C:Addr)(f:Str):Prop:=PySem.W.findIn K (.ref C) f=some none
theorem b9.abq{K:W.Frag}{C:Addr}{f:Str}(n:b9 K C f):PySem.W.takerIn K C f=some none:=by
 unfold PySem.W.takerIn;rw[show PySem.W.findIn K (.ref C) f=some none from n]
 rfl
structure Meth(K:W.Frag)(C:Addr)(m:Str)(f:Addr):Prop where
 at_:PySem.W.findIn K (.ref C) m=some (some (.ref f))
 fn:PySem.W.isFn K (.ref f)=true
 kp:PySem.W.keepIn K (.ref f)=true
section
variable{X:Cx}{pins:List (Addr×Obj)}{σ:St}{H:Hp}{s:Shared}{a C dx:Addr}{fs:List (Str×V)}{f:Str}{v:V}{A:Around}{E:Value->Shared->Prop}
theorem R7{b:Bool}{Q:Value->Shared->Prop}(I:Inv X pins σ H s)(e:H a=some (.ins C dx fs))(c:dF X.K C)(n:b9 X.K C f)(l:fs.lookup f=some v)
  (h:∀u s',Inv X pins σ H s'->RelV v u->Q u s'):wpAny (model X.prog X.w) A (getAttr (.ref a) f b) Q E s:=by
 obtain⟨mA,O,r,_,_,_⟩:=Cu I.aK e;obtain⟨u,hu,ru⟩:=iw.some_of (v:=v) (o:=mA f) (by rw[← l];exact r f)
 exact get_map I.dW O (c.get f) c.hd n hu (abp ru) (h u _ (I.tok _) ru)
theorem R8{m:Str}{g:Addr}{pl:Sem Bool}{Q:Value×List Value->Shared->Prop}(I:Inv X pins σ H s)(e:H a=some (.ins C dx fs))(c:dF X.K C)(k:Meth X.K C m g)(l:fs.lookup m=none)
  (h:Q (.ref g,[.ref a]) s):wpAny (model X.prog X.w) A (getMethod (.ref a) m pl) Q E s:=by
 obtain⟨mA,O,r,_,_,_⟩:=Cu I.aK e;have hn:mA m=none:=iw.none_of (by rw[← l];exact r m)
 exact abm I.dW O (c.get m) k.at_ k.fn hn h
theorem R9{y:V}{u:Value}{Q:Unit->Shared->Prop}(I:Inv X pins σ H s)(e:H a=some (.ins C dx fs))(c:dF X.K C)(n:b9 X.K C f)(hl:fs.length<1000)(ry:RelV y u)
  (h:∀s',Inv X pins σ (upd H a (.ins C dx (fW f y fs))) s'->Q () s'):wpAny (model X.prog X.w) A (setAttr (.ref a) f u) Q E s:=by
 obtain⟨mA,O,r,wi,_,ho⟩:=Cu I.aK e;have hz:(fs.map (·.1)).length<=sizeLine:=by rw[aR,xX];lia
 refine abn I.dW O c.sa c.po n.abq c.hd wi hz λh' O' sb=>h _ ?_;have hd:∃o,h'.get? dx=some o:=let ⟨o,_,_,e',_⟩:=O'.ns;⟨o,e'⟩
 refine I.write (x:=a) (e:=dx) (by rw[e];exact True.intro) (.inr ho) (λb q hb z=>(sb.2 b hb).trans z) hd ?_
 refine⟨by rw[aI O.ne];exact ho,?_,O.ne,O'.obj,_,O'.ns,λg=>?_,λg hg=>?_⟩
 ·have:=R6 f y fs;lia
 ·show iw ((fW f y fs).lookup g) (if g=f then some u else mA g)
  rw[R5];by_cases q:g=f
  ·rw[if_pos q,if_pos q];exact ry
  ·rw[if_neg q,if_neg q];exact r g
 ·by_cases q:g=f
  ·rw[q];exact(G1 f y fs).1
  ·refine(G1 f y fs).2 g (wi g λz=>hg ?_)
   show (if g=f then some u else mA g)=none
   rw[if_neg q];exact z
theorem Inv.made(I:Inv X pins σ H s):Inv X pins σ (upd (upd H s.heap.objs.size (.own (s.heap.objs.size+1))) (s.heap.objs.size+1) (.ins C s.heap.objs.size []))
  { s with heap:=(s.heap.push PySem.W.emptyDict).push (PySem.W.instObj C s.heap.objs.size)}:=by
 have e1:(s.heap.push PySem.W.emptyDict).get? s.heap.objs.size=some PySem.W.emptyDict:=fU s.heap rfl;have e2:((s.heap.push PySem.W.emptyDict).push (PySem.W.instObj C s.heap.objs.size)).get? (s.heap.objs.size+1)=some (PySem.W.instObj C s.heap.objs.size):=by
  have:=fU (s.heap.push PySem.W.emptyDict) (o:=PySem.W.instObj C s.heap.objs.size) rfl;rwa [vc] at this
 have e3:(s.heap.push PySem.W.emptyDict).Ns s.heap.objs.size (λ_=>none):=⟨PySem.W.emptyDict,#[],_,e1,rfl,(λe he=>absurd he (by simp)),λ_=>rfl⟩
 have I1:=I.laid (a:=s.heap.objs.size) (o:=.own (s.heap.objs.size+1)) (h':=s.heap.push PySem.W.emptyDict) (t':=s.toks) (λb u q=>dg _ q) (bH _) ⟨_,e1⟩;refine I1.laid (a:=s.heap.objs.size+1) (o:=.ins C s.heap.objs.size []) (t':=s.toks) (λb u q=>dg _ q) (BO (vc _ _)) ?_;have ne:s.heap.objs.size≠s.heap.objs.size+1:=dD (Gr _);refine⟨by rw[aI ne,aD],eF _,ne,e2,λ_=>none,(Heap.Ns1.of_empty e3).at λo q=>dg _ q,λ_=>True.intro,λy hy=>absurd rfl hy⟩
theorem R_{prog:Program}{w:World}{env:Env}{e:Expr}{f:Str}{pos:Pos}{s:Shared}{Q:Value->Shared->Prop}(hb:attributeBase e f env (eval e env)=eval e env)
  (h:wpAny (model prog w) A (eval e env) (λo bq=>wpAny (model prog w) A (getAttr o f true) Q E bq) E s):wpAny (model prog w) A (eval (.Attribute e f pos) env) Q E s :=
 Attribute_any_ h (by rw[arm_eval_Attribute,hb])
end
def vL(K:W.Frag)(ta:TE)(f:Str):TE:=λσ H Q=>ta σ H λx H1=>∃a C dx fs v,x = .ref a/\H1 a=some (.ins C dx fs)/\dF K C/\b9 K C f/\fs.lookup f=some v/\Q v H1
def yL(K:W.Frag)(ta tv:TE)(f:Str):TS:=λD σ H=>tv σ H λy H1=>ta σ H1 λx H2=>∃a C dx fs,x = .ref a/\H2 a=some (.ins C dx fs)/\dF K C/\b9 K C f/\fs.length<1000/\
 D.nx σ (upd H2 a (.ins C dx (fW f y fs)))
section
variable{X:Cx}{o e value:Expr}{f:Str}{pos pos' abr:Pos}{ta tv:TE}
theorem Sa(he:PE X e ta)(hb:attributeBase e f X.env (eval e X.env)=eval e X.env):PE X (.Attribute e f pos) (vL X.K ta f):=by
 intro pins s σ H Q I h;refine R_ hb (aW (he pins s σ H _ I h) λu s1 ⟨x,H1,I1,rx,zz⟩=>?_);obtain⟨a,C,dx,fs,v,ex,ea,c,n,l,q⟩:=zz;subst ex;obtain rfl:u=Value.ref a:=rx;exact R7 I1 ea c n l λu' s2 I2 ru=>⟨v,H1,I2,ru,q⟩
theorem G2(ha:PE X o ta)(hv:PE X value tv)(hs:swapsWith value (some (.Attribute o f pos')) pos.line X.env=pure false):PS X (.Assign [.Attribute o f pos'] value pos) (yL X.K ta tv f):=by
 intro pins s σ H D I h;refine plainObj_wpAny_Assign_Attribute (aW (hv pins s σ H _ I h) λu s1 ⟨y,H1,I1,ry,q⟩=>aW (ha pins s1 σ H1 _ I1 q) λov s2 ⟨x,H2,I2,rx,zz⟩=>?_) hs;obtain⟨a,C,dx,fs,ex,ea,c,n,l,q2⟩:=zz;subst ex;obtain rfl:ov=Value.ref a:=rx;exact R9 I2 ea c n l ry λs3 I3=>⟨σ,_,I3,q2⟩
end
section
variable{X:Cx}{pins:List (Addr×Obj)}{σ:St}{H:Hp}{s:Shared}{A:Around}{E:Value->Shared->Prop}{Q:Value->Shared->Prop}{c:Value}{b:Bool}
inductive kO (K:W.Frag) (H:Hp):V->Value->Prop where
 | aO:kO K H .aO (.type "NoneType")
 | bl (x:Bool):kO K H (.bl x) (.type "bool")
 | int (i:Int):kO K H (.int i) (.type "int")
 | str (x:Str):kO K H (.str x) (.type "str")
 | mO (x:UInt64):kO K H (.mO x) (.type "float")
 | lst {a:Addr} {xs:List V} (e:H a=some (.lst xs)):kO K H (.ref a) (.type "list")
 | iP {a:Addr} {o:Obj} {xs:List V} (e:H a=some (.iP o (.lst xs))):kO K H (.ref a) (.type "list")
 | tup {a:Addr} {xs:List V} (e:H a=some (.tup xs)):kO K H (.ref a) (.type "tuple")
 | dK {a:Addr} {aA:List (Key×V)} (e:H a=some (.dK aA)):kO K H (.ref a) (.type "dict")
 | dT {a:Addr} {aA:List (List Key×V)} (e:H a=some (.dT aA)):kO K H (.ref a) (.type "dict")
 | ins {a C dx:Addr} {fs:List (Str×V)} (e:H a=some (.ins C dx fs)) (cl:dF K C) (ha:PySem.W.findIn K (.ref C) "__class__" = some (some (.builtin "object.__class__")))
   (hn:PySem.W.specialIn K (.builtin "object.__class__") "__get__" = some (some (.builtin "getset_descriptor.__get__"))) (Sd:PySem.W.takesIn K (.builtin "object.__class__")=some true)
   (hm:PySem.W.mroIn K C (.type "object")=some true):kO K H (.ref a) (.ref C)
theorem abt{x:V}{u t:Value}(I:Inv X pins σ H s)(rx:RelV x u)(ty:kO X.K H x t)(e:PySem.W.kitOne X.K t c=some b)(h:∀tk,Q (.bool b) { s with toks:=tk }) :
  wpAny (model X.prog X.w) A (call (.builtin "isinstance") [u,c]) Q E s:=by
 cases ty with
 | aO=>cases (show u=Value.none from rx);exact mL PySem.W.kitx_none I.dW True.intro e (λz=>nomatch z) h
 | bl y=>cases (show u=Value.bool y from rx);exact mL PySem.W.kitx_bool I.dW True.intro e (λz=>nomatch z) h
 | int i=>obtain⟨t,q⟩:=(show ∃t,u=Value.int i t from rx);cases q;exact mL PySem.W.kitx_int I.dW True.intro e (λz=>nomatch z) h
 | str y=>obtain⟨t,q⟩:=(show ∃t,u=Value.str y t from rx);cases q;exact mL PySem.W.kitx_str I.dW True.intro e (λz=>nomatch z) h
 | mO y=>obtain⟨t,q⟩:=(show ∃t,u=Value.float y t from rx);cases q;exact mL PySem.W.kitx_float I.dW True.intro e (λz=>nomatch z) h
 | @lst a xs ea =>
  cases (show u=Value.ref a from rx);obtain⟨_,_,n,_,h1⟩:=(show dU X.prog X.w H s.heap a (.lst xs) from I.aK a _ ea);exact mL PySem.W.kitx_list I.dW ⟨_,h1,rfl⟩ e (λz=>nomatch z) h
 | @iP a ob xs ea =>
  cases (show u=Value.ref a from rx);obtain⟨_,_,_,n,_,h1⟩:=(show dU X.prog X.w H s.heap a (.iP ob (.lst xs)) from I.aK a _ ea);exact mL PySem.W.kitx_list I.dW ⟨_,h1,rfl⟩ e (λz=>nomatch z) h
 | @tup a xs ea =>
  cases (show u=Value.ref a from rx);obtain⟨_,_,_,p⟩:=(show dU X.prog X.w H s.heap a (.tup xs) from I.aK a _ ea);obtain⟨o,h1,h2,_⟩:=p;exact mL PySem.W.kitx_tuple I.dW ⟨o,h1,h2⟩ e (λz=>nomatch z) h
 | @dK a aA ea =>
  cases (show u=Value.ref a from rx);obtain⟨_,_,vs,_,p⟩:=(show dU X.prog X.w H s.heap a (.dK aA) from I.aK a _ ea);obtain⟨o,es,ep,h1,h2,_⟩:=p;exact mL PySem.W.kitx_dict I.dW ⟨o,h1,h2.1⟩ e (λz=>nomatch z) h
 | @dT a aA ea =>
  cases (show u=Value.ref a from rx);obtain⟨_,_,xs,_,o,es,ep,h1,h2,_⟩:=(show dU X.prog X.w H s.heap a (.dT aA) from I.aK a _ ea);exact mL PySem.W.kitx_dict I.dW ⟨o,h1,h2.1⟩ e (λz=>nomatch z) h
 | @ins a C dx fs ea cl ha hn Sd hm =>
  cases (show u=Value.ref a from rx);obtain⟨mA,O,_⟩:=Cu I.aK ea;obtain⟨od,J,_⟩:=O.look;exact mL (PySem.W.kitx_own (cl.get _) cl.hd ha hn Sd hm) I.dW J e (λz=>nomatch z) h
end
structure c7(k:Nat)(A:Around):Prop where
 hd:A.handled=none
 dp:A.depth+3*k+5<recursionLimit
 un:A.units+16*k+200<cLine
theorem c7.mono{j k:Nat}{A:Around}(r:c7 k A)(h:j<=k):c7 j A:=⟨r.hd,by have:=r.dp;lia,by have:=r.un;lia⟩
theorem c7.deeper{k:Nat}{A:Around}(r:c7 (k+1) A)(env:Env):c7 k (A.deeper env) :=
 ⟨r.hd,by have:=r.dp;show A.depth+1+3*k+5<_;lia,by have:=r.un;show A.units+3+16*k+200<_;lia⟩
theorem abu{A:Around}{C:Addr}{us:List Value}{kw:List (Str×Value)}:(A.under (.builtin "type.__call__" ⟨.ref C::us,kw⟩)).depth=A.depth+1:=by
 first | rfl | simp[Around.under,Code.weight,Code.isCreation,Code.isGuard,Code.isCaller,Code.frames,Code.isFrame,guardIds]
theorem abv{A:Around}{C:Addr}{us:List Value}{kw:List (Str×Value)}:(A.under (.builtin "type.__call__" ⟨.ref C::us,kw⟩)).units=A.units+1:=by
 first | rfl | simp[Around.under,Code.cUnits,Code.frames,Code.isFrame]
theorem c7.make{k:Nat}{A:Around}(r:c7 (k+1) A)(C:Addr)(us:List Value)(kw:List (Str×Value)):c7 k (A.under (.builtin "type.__call__" ⟨.ref C::us,kw⟩)) :=
 ⟨r.hd,by have:=r.dp;rw[abu];lia,by have:=r.un;rw[abv];lia⟩
theorem c7.depth{k:Nat}{A:Around}(r:c7 k A):A.depth<recursionLimit:=by have:=r.dp;lia
theorem c7.units{k:Nat}{A:Around}(r:c7 k A):A.units+64<cLine:=by have:=r.un;lia
theorem c7.Se{k:Nat}{A:Around}(r:c7 k A):A.units<cLine:=by have:=r.un;lia
def vM:TA:=λ_ H Q=>Q [] H
def yM(ta:TE)(tr:TA):TA:=λσ H Q=>ta σ H λx H1=>tr σ H1 λxs H2=>Q (x::xs) H2
section
variable{X:Cx}{e:Expr}{es:List Expr}{te:TE}{t:TA}{pos:Pos}
theorem ao:PA X [] vM:=λ_ _ _ _ H Q I h=>FY ⟨[],H,I,.nil,h⟩
theorem ah(ha:PE X e te)(hr:PA X es t)(hs:starEach (e::es) X.env=(false,eval e X.env)::starEach es X.env:=by rfl):PA X (e::es) (yM te t):=by
 intro pos pins s σ H Q I h;rw[hs]
 show wpAny _ _ (spliced ((false,eval e X.env)::backTo pos (starEach es X.env))) _ _ s;refine FW (aW (ha pins s σ H _ I h) λu s1 ⟨x,H1,I1,r1,q1⟩=>?_);exact aW (hr pos pins s1 σ H1 _ I1 q1) λus s2 ⟨xs,H2,I2,r2,q2⟩=>⟨x::xs,H2,I2,.cons r1 r2,q2⟩
def yN(t:TA):TE:=λσ H Q=>t σ H λxs H1=>xs.length<=sizeLine/\∀p,H1 p=none->Q (.ref p) (upd H1 p (.tup xs))
def yO(t:TA):TE:=λσ H Q=>t σ H λxs H1=>xs.length<=sizeLine/\∀p,H1 p=none->Q (.ref p) (upd H1 p (.lst xs))
theorem cL{x1}(h:PA X es t):PE X (.Tuple es x1 pos) (yN t):=by
 intro pins s σ H Q I hq;refine wpAny_Tuple_spliced (aW (h pos pins s σ H _ I hq) λus s1 ⟨xs,H1,I1,r,z,q⟩=>⟨by rw[← r.length];exact z,?_⟩)
 have hf:H1 s1.heap.objs.size=none:=I1.aK.fresh (bH _);refine⟨.ref s1.heap.objs.size,upd H1 s1.heap.objs.size (.tup xs),I1.laid (t':=s1.toks) (λb u e=>dg _ e) (bH _) ?_,rfl,q _ hf⟩;exact⟨z,us,r,⟨_,fU _ rfl,rfl,_,rfl⟩⟩
theorem dG(h:PA X es t):PE X (.List es pos) (yO t):=by
 intro pins s σ H Q I hq;refine wpAny_List_spliced (aW (h pos pins s σ H _ I hq) λus s1 ⟨xs,H1,I1,r,z,q⟩=>⟨by rw[← r.length];exact z,?_⟩)
 have hf:H1 s1.heap.objs.size=none:=I1.aK.fresh (bH _);refine⟨.ref s1.heap.objs.size,upd H1 s1.heap.objs.size (.lst xs),I1.laid (t':=s1.toks) (λb u e=>dg _ e) (bH _) ?_,rfl,q _ hf⟩;exact⟨z,us,0,r,fU _ rfl⟩
end
noncomputable abbrev Sp:=List V->Hp->VK->XK->Prop
noncomputable abbrev jB:=List Env->Hp->Shared->XK->Value->Shared->Prop
structure rz(P:Program)(w:World)(K:W.Frag)(mg:Str->Option Value)(base:Heap)(A:Around)(outer:List Env)(s:Shared)(H:Hp):Prop where
 frames:A.frames=some outer
 mod:Mod K mg base
 bs:∀b o,base.get? b=some o->s.heap.get? b=some o/\H b=none
 iz:base.objs.size<=s.heap.objs.size
 i6:s.heap.FunFrames base outer
 mQ:∀b∈cK outer,H b=none
 aK:cQ P w H s.heap
 bare:AllBare s.gens
noncomputable def CE(outer:List Env)(P:Program)(w:World)(H:Hp)(s:Shared)(Q:VK)(u:Value)(s':Shared):Prop :=
 ∃v H',s'.os=s.os/\AllBare s'.gens/\Un (cK outer) [] H H' s.heap s'.heap/\cQ P w H' s'.heap/\RelV v u/\Q v H'
noncomputable def CR(CX:jB)(outer:List Env)(P:Program)(w:World)(H:Hp)(s:Shared)(Q:VK)(E:XK)(r:Result)(s':Shared):Prop :=
 match r with
 | .ok (.ret u)=>CE outer P w H s Q u s'
 | .ok _=>False
 | .error e=>CX outer H s E e s'
structure a_(P:Program)(w:World)(K:W.Frag)(mg:Str->Option Value)(base:Heap)(CX:jB)(k:Nat)(f:Addr)(fd:FuncData)(ps:List Str)(sp:Sp):Prop where
 len:∀vs H Q E,sp vs H Q E->vs.length=ps.length
 run:∀(A:Around) (outer:List Env) (s:Shared) (H:Hp) (args:Args) (us:List Value) (vs:List V) (Q:VK) (E:XK),c7 k A->rz P w K mg base A outer s H->BindsTo s fd args (ps.zip us)->Vals vs us->sp vs H Q E->
  codeAny (model P w) A (.call (.ref f) args) (CR CX outer P w H s Q E) s
theorem rz.make{P:Program}{w:World}{K:W.Frag}{mg:Str->Option Value}{base:Heap}{A:Around}{outer:List Env}{s:Shared}{H:Hp}(e:rz P w K mg base A outer s H)(C:Addr)(us:List Value)(kw:List (Str×Value)) :
  rz P w K mg base (A.under (.builtin "type.__call__" ⟨.ref C::us,kw⟩)) outer s H:=⟨by first | exact e.frames | (simpa[Around.under,Code.envs,Code.isFrame,pushEnvs] using e.frames),e.mod,e.bs,e.iz,e.i6,e.mQ,e.aK,e.bare⟩
section
variable{X:Cx}{pins:List (Addr×Obj)}{σ:St}{H:Hp}{s s':Shared}
theorem Inv.G3(I:Inv X pins σ H s):rz X.prog X.w X.K X.mg X.base X.A X.stack s H :=
 ⟨I.ok.frames,I.ok.mod,I.bs,cX I.ok.iz I.sz,I.stack,I.Cd,I.aK,I.bare⟩
theorem Inv.after{Q:VK}{u:Value}(I:Inv X pins σ H s)(h:CE X.stack X.prog X.w H s Q u s'):EP X pins σ Q u s':=by
 obtain⟨v,H',os,bare,un,aK,r,q⟩:=h;obtain⟨hh,g,d,t,os'⟩:=s';obtain rfl:os' = s.os:=os;exact⟨v,H',I.call (h':=hh) (g':=g) (d':=d) (t':=t) (ch:=[]) un aK bare (λb z=>absurd z (by simp)),r,q⟩
end
def tR(sp:Sp)(cu:List V)(E:XK)(t:TA):TE:=λσ H Q=>t σ H λvs H1=>sp (vs++cu) H1 Q E
def Cv(C:Addr)(m:Str)(sp:Sp)(cu:List V)(E:XK)(ta:TE)(t:TA):TE:=λσ H Q=>ta σ H λx H1=>∃a dx fs,x = .ref a/\H1 a=some (.ins C dx fs)/\fs.lookup m=none/\
 t σ H1 λvs H2=>sp (x::(vs++cu)) H2 Q E
def yP(C:Addr)(sp:Sp)(cu:List V)(E:XK)(t:TA):TE:=λσ H Q=>t σ H λvs H1=>∀x dx,H1 x=none->H1 dx=none->dx≠x->
 sp (.ref x::(vs++cu)) (upd (upd H1 dx (.own x)) x (.ins C dx [])) (λv H2=>v = .aO/\Q (.ref x) H2) E
noncomputable def Binds(K:W.Frag)(fd:FuncData)(ps:List Str)(ds:List Value):Prop :=
 ∀(s:Shared) (us:List Value),K.In s.heap->(us++ds).length=ps.length->BindsTo s fd ⟨us,[]⟩ (ps.zip (us++ds))
theorem Binds.all{K:W.Frag}{fd:FuncData}{ps:List Str}(h:∀us:List Value,us.length=ps.length->bindArgs fd ⟨us,[]⟩=pure (ps.zip us)):Binds K fd ps []:=λs us _ hl=>by
 rw[mF] at hl ⊢;exact .of_eq (h us hl)
def Passes(CX:jB)(X:Cx)(E:XK):Prop:=∀(pins:List (Addr×Obj)) (σ:St) (H:Hp) (s:Shared) (e:Value) (s':Shared),Inv X pins σ H s->CX X.stack H s E e s'->X.xe e s'
section
variable{X:Cx}{CX:jB}{k:Nat}{f C:Addr}{fd:FuncData}{ps:List Str}{sp:Sp}{cu:List V}{ds:List Value}{E:XK}{x m:Str}{p pos apos:Pos}{e o:Expr}{es:List Expr}{ta:TE}{t:TA}
theorem Cw{pins:List (Addr×Obj)}{σ:St}{H:Hp}{s:Shared}{Q:VK}{us:List Value}{vs:List V}(F:a_ X.prog X.w X.K X.mg X.base CX k f fd ps sp)(hr:c7 k X.A)(hb:Binds X.K fd ps ds)(hd:Vals cu ds)(hx:Passes CX X E)
  (I:Inv X pins σ H s) (r:Vals vs us) (h:sp (vs++cu) H Q E):wpAny (model X.prog X.w) X.A (call (.ref f) us) (EP X pins σ Q) X.xe s:=by
 have r2:Vals (vs++cu) (us++ds):=r.append hd;have hl:(us++ds).length=ps.length:=by rw[← r2.length];exact F.len _ _ _ _ h
 refine vo (xW (F.run X.A X.stack s H ⟨us,[]⟩ (us++ds) (vs++cu) Q E hr I.G3 (hb s us I.dW hl) r2 h) λr s' hq=>?_);cases r with
 | error e=>exact hx pins σ H s e s' I hq
 | ok fl =>
  cases fl with
  | ret u=>exact I.after hq
  | next=>exact False.elim hq
  | brk=>exact False.elim hq
  | cont=>exact False.elim hq
theorem aY(F:a_ X.prog X.w X.K X.mg X.base CX k f fd ps sp)(hr:c7 k X.A)(hg:Gl X x)(hm:X.mg x=some (.ref f))(hk:PySem.W.keepIn X.K (.ref f)=true)(hb:Binds X.K fd ps ds)(hd:Vals cu ds)(hx:Passes CX X E)
  (ha:PA X (e::es) t) (jC:(x == ("__debug__" : Str))=false:=by decide) (he:starEach (e::es) X.env=(false,eval e X.env)::starEach es X.env:=by rfl) (iE:(backTo pos (starEach es X.env)).any (·.1)=false:=by rfl) :
  PE X (.Call (.Name x p) (e::es) [] pos) (tR sp cu E t):=by
 intro pins s σ H Q I h;refine vn (sY I hg hm ?_ jC);refine xS (h₀:=X.base) I.ok.mod.qW hk (aW (ha pos pins s σ H _ I h) λus s1 ⟨vs,H1,I1,r,q⟩=>⟨I1.dW,?_⟩) he iE;exact Cw F hr hb hd hx I1 r q
structure Mk(K:W.Frag)(C f:Addr):Prop where
 makes:PySem.W.makesIn K C=true
 init:PySem.W.findIn K (.ref C) "__init__" = some (some (.ref f))
 fn:PySem.W.isFn K (.ref f)=true
 kp:PySem.W.keepIn K (.ref C)=true
theorem abw{pins:List (Addr×Obj)}{σ:St}{H:Hp}{s:Shared}{Q:VK}{us:List Value}{vs:List V}(M:Mk X.K C f)(F:a_ X.prog X.w X.K X.mg X.base CX k f fd ps sp)(hr:c7 (k+1) X.A)(hb:Binds X.K fd ps ds)(hd:Vals cu ds)
  (hx:Passes CX X E) (I:Inv X pins σ H s) (r:Vals vs us)
  (h:∀x dx,H x=none->H dx=none->dx≠x->sp (.ref x::(vs++cu)) (upd (upd H dx (.own x)) x (.ins C dx [])) (λv H2=>v = .aO/\Q (.ref x) H2) E) :
  wpAny (model X.prog X.w) X.A (call (.ref C) us) (EP X pins σ Q) X.xe s:=by
 have hq:=h (s.heap.objs.size+1) s.heap.objs.size (I.aK.fresh (sP _)) (I.aK.fresh (bH _)) (dD (Gr _));have I2:=Inv.made (C:=C) I;have r2:Vals (V.ref (s.heap.objs.size+1)::(vs++cu)) (Value.ref (s.heap.objs.size+1)::(us++ds)):=.cons rfl (r.append hd);have hl:(Value.ref (s.heap.objs.size+1)::us++ds).length=ps.length:=by
  have e:=r2.length;rw[F.len _ _ _ _ hq] at e;exact e.symm
 refine vo (abo (f:=f) I.dW M.makes M.init (lE.mp M.fn) (xW (F.run _ X.stack _ _ ⟨Value.ref (s.heap.objs.size+1)::us,[]⟩ (Value.ref (s.heap.objs.size+1)::(us++ds)) _ _ E (hr.make C us [])
  (I2.G3.make C us []) (hb _ (Value.ref (s.heap.objs.size+1)::us) I2.dW hl) r2 hq) λr s' jY=>?_))
 cases r with
 | error e=>exact hx pins σ _ _ e s' I2 jY
 | ok fl =>
  cases fl with
  | ret u =>
   obtain⟨v,H',I3,rv,ev,q3⟩:=I2.after jY;subst ev;exact⟨rv,⟨V.ref (s.heap.objs.size+1),H',I3,rfl,q3⟩⟩
  | next=>exact False.elim jY
  | brk=>exact False.elim jY
  | cont=>exact False.elim jY
theorem vN(M:Mk X.K C f)(F:a_ X.prog X.w X.K X.mg X.base CX k f fd ps sp)(hr:c7 (k+1) X.A)(hg:Gl X x)(hm:X.mg x=some (.ref C))(hb:Binds X.K fd ps ds)(hd:Vals cu ds)(hx:Passes CX X E)
  (ha:PA X (e::es) t) (jC:(x == ("__debug__" : Str))=false:=by decide) (he:starEach (e::es) X.env=(false,eval e X.env)::starEach es X.env:=by rfl) (iE:(backTo pos (starEach es X.env)).any (·.1)=false:=by rfl) :
  PE X (.Call (.Name x p) (e::es) [] pos) (yP C sp cu E t):=by
 intro pins s σ H Q I h;refine vn (sY I hg hm ?_ jC);refine xS (h₀:=X.base) I.ok.mod.qW M.kp (aW (ha pos pins s σ H _ I h) λus s1 ⟨vs,H1,I1,r,q⟩=>⟨I1.dW,?_⟩) he iE;exact abw M F hr hb hd hx I1 r q
end
noncomputable def PK(X:Cx)(Sf:List Keyword)(t:TA):Prop :=
 ∀(pos:Pos) (pins:List (Addr×Obj)) (s:Shared) (σ:St) (H:Hp) (Q:List V->Hp->Prop),Inv X pins σ H s->t σ H Q->wpAny (model X.prog X.w) X.A (evalAll ((backToKw pos (keywordEach Sf X.env)).map (·.2))) (AP X pins σ Q) X.xe s
section
variable{X:Cx}{CX:jB}{k:Nat}{f C:Addr}{fd:FuncData}{ps ks:List Str}{sp:Sp}{E:XK}{x m:Str}{p pos apos aoF:Pos}{e o:Expr}{es:List Expr}{Sf:List Keyword}{te ta:TE}{t tk:TA}{nm:Option Str}
variable{g:List Value->List Value->List Value}{gV:List V->List V->List V}
end
structure bA(N P:List Str)(sc:Scope):Prop where
 kind:sc.kind = .function
 co:sc.isCoroutine=false
 gen:sc.isGenerator=false
 nd:N.Nodup
 pre:N.take P.length=P
 par:∀x∈P,sc.names.lookup x=some .local\/sc.names.lookup x=some .cell
 abx:∀y∈sc.names,y.2≠.free
theorem Sg{kindOf:Str->Option NameKind}{x:Str}:∀ {binds:List (Str×Value)} {m:Str->Option Value},(∀v,(x,v)∉binds)->bindL kindOf binds m x=m x
 | [],_,_=>rfl
 | (n,v)::r,m,h=>by
  unfold bindL;rw[Sg λw hw=>h w (bW _ hw)];split
  ·have:x≠n:=by rintro rfl;exact h v cA
   simp[this]
  ·rfl
theorem Sh{kindOf:Str->Option NameKind}{x:Str}:∀ {binds:List (Str×Value)} {m:Str->Option Value},(∀v,(x,v)∉binds)->bindC kindOf binds m x=m x
 | [],_,_=>rfl
 | (n,v)::r,m,h=>by
  unfold bindC;rw[Sh λw hw=>h w (bW _ hw)];split
  ·rfl
  ·have:x≠n:=by rintro rfl;exact h v cA
   simp[this]
theorem Si{kindOf:Str->Option NameKind}{x:Str}{v:Value}:∀ {P:List Str} {vs:List Value} {i:Nat} {m:Str->Option Value},P.Nodup->P[i]? = some x->vs[i]? = some v->kindOf x=some .local->
  bindL kindOf (P.zip vs) m x=some v
 | [],_,_,_,_,h,_,_=>by simp at h
 | _::_,[],_,_,_,_,h,_=>by simp at h
 | p::P,w::vs,0,m,nd,h1,h2,hk=>by
  simp at h1 h2;subst h1;subst h2
  show bindL kindOf ((p,w)::P.zip vs) m p=_;unfold bindL;rw[Sg λv hv=>(lB.mp nd).1 (BL hv).1,if_pos hk];simp
 | p::P,w::vs,i+1,m,nd,h1,h2,hk=>by
  show bindL kindOf ((p,w)::P.zip vs) m x=_;unfold bindL;exact Si (i:=i) (lB.mp nd).2 (by simpa using h1) (by simpa using h2) hk
theorem Sj{kindOf:Str->Option NameKind}{x:Str}{v:Value}:∀ {P:List Str} {vs:List Value} {i:Nat} {m:Str->Option Value},P.Nodup->P[i]? = some x->vs[i]? = some v->kindOf x≠some .local->
  bindC kindOf (P.zip vs) m x=some v
 | [],_,_,_,_,h,_,_=>by simp at h
 | _::_,[],_,_,_,_,h,_=>by simp at h
 | p::P,w::vs,0,m,nd,h1,h2,hk=>by
  simp at h1 h2;subst h1;subst h2
  show bindC kindOf ((p,w)::P.zip vs) m p=_;unfold bindC;rw[Sh λv hv=>(lB.mp nd).1 (BL hv).1,if_neg hk];simp
 | p::P,w::vs,i+1,m,nd,h1,h2,hk=>by
  show bindC kindOf ((p,w)::P.zip vs) m x=_;unfold bindC;exact Sj (i:=i) (lB.mp nd).2 (by simpa using h1) (by simpa using h2) hk
noncomputable def start(N:List Str)(vs:List V):St:=vs.map some++List.replicate (N.length - vs.length) none
noncomputable def i8(CX:jB)(P:Program)(w:World)(K:W.Frag)(mg:Str->Option Value)(base:Heap)(N:List Str)(qual:Str)(scope:Scope)(f:Addr)(cd:Value)(A:Around)(outer:List Env)(s:Shared)(H:Hp)(E:XK):Cx where
 prog:=P
 w:=w
 K:=K
 mg:=mg
 base:=base
 A:=A.deeper (envOfC qual scope s.heap.objs.size f cd)
 N:=N
 bR:=s
 iy:=H
 env:=envOfC qual scope s.heap.objs.size f cd
 outer:=outer
 stack:=envOfC qual scope s.heap.objs.size f cd::outer
 ex:=[]
 calm:=true
 fn:=λ_=>true
 pn:=[]
 xe:=λe s'=>wpAny (model P w) (A.deeper (envOfC qual scope s.heap.objs.size f cd)) (leaving (envOfC qual scope s.heap.objs.size f cd) e) (λ_ vO=>CX outer H s E e vO) (λe' vO=>CX outer H s E e' vO) s'
theorem Sk{sc:Scope}{n:Nat}{x:Str}(h:sc.names.lookup x=some .cell):∃c,(cellsFrom n sc.names []).lookup x=some c:=by
 have q:=BV sc.names n [] (.inl h);exact qT.mp q
theorem aby{CX:jB}{P:Program}{w:World}{K:W.Frag}{mg:Str->Option Value}{base:Heap}{N ps:List Str}{qual:Str}{scope:Scope}{f:Addr}{cd:Value}{A:Around}{outer:List Env}{s s1:Shared}{H:Hp}{E:XK}{us:List Value}{vs:List V}
  (S:bA N ps scope) (hd:A.handled=none) (e0:rz P w K mg base A outer s H) (hl:vs.length=ps.length) (r:Vals vs us)
  (x:InCallC s s.heap.objs.size (bindL (envOfC qual scope s.heap.objs.size f cd).kindOf (ps.zip us) λ_=>none) (cellsFrom (s.heap.objs.size+1) scope.names []) (bindC (envOfC qual scope s.heap.objs.size f cd).kindOf (ps.zip us) λ_=>none) s1) :
  Inv (i8 CX P w K mg base N qual scope f cd A outer s H E) [] (start N vs) H s1:=by
 have iE:ps.length<=N.length:=by have:=ig List.length S.pre;rw[d9] at this;lia
 obtain⟨h1,tk,rfl,hk⟩:=x.done;have yQ:∀b:Addr,b∉(i8 CX P w K mg base N qual scope f cd A outer s H E).ex:=λb z=>absurd (show b∈([]:List Addr) from z) (by simp)
 refine⟨⟨e0.mod,S.kind,rfl,rfl,bH _,λy z c h1 h2=>?_,λy hy=>?_,λy c _ h=>?_,λ_=>hd,Around.frames_deeper e0.frames,.inr ⟨rfl,rfl⟩,λb z=>absurd z (yQ b),e0.bs,e0.iz,λb _ _=>yQ b,λb z=>absurd z (yQ b),e0.i6,e0.mQ⟩,
  rfl,e0.bare,Un.kept hk,⟨_,x.toInCall.ns,λi y v h1 h2 h3=>?_⟩,λy c h=>⟨_,x.cell y c h⟩,e0.aK.fresh (bH _),λy c h=>?_,λp hp=>absurd (show p∈([]:List (Addr×Obj)) from hp) (by simp),e0.aK.kept hk,?_⟩
 ·exact name_of_addr x.apart (vj h1) (vj h2)
 ·have hy:scope.names.lookup y=some .cell\/scope.names.lookup y=some .free:=hy;rcases hy with hy | hy
  ·exact Sk hy
  ·exact absurd rfl (S.abx _ (vj hy))
 ·exact jR (x.above y c (vj h))
 ·have hi:i<vs.length:=by
   unfold start at h2;by_cases hi:i<vs.length
   ·exact hi
   ·rw[d8 (by simpa using hi)] at h2
    rw[List.getElem?_replicate] at h2;split at h2 <;> cases h2
  have ha:vs[i]? = some v:=by
   unfold start at h2;rw[d7 (by simpa using hi),ju] at h2
   cases e:vs[i]? with
   | none=>rw[e] at h2;cases h2
   | some a=>rw[e] at h2;cases h2;rfl
  obtain⟨u,hu,rv⟩:=r.get ha;have hp:ps[i]? = some y:=by
   rw[← S.pre,List.getElem?_take_of_lt (by lia)];exact h1
  have Sl:ps.Nodup:=by rw[← S.pre];exact S.nd.sublist (List.take_sublist _ _)
  refine⟨u,rv,?_⟩;rcases S.par y (jv hp) with k | k
  ·exact .inl ⟨k,Si Sl hp hu k⟩
  ·obtain⟨c,e⟩:=Sk (n:=s.heap.objs.size+1) k;refine .inr ⟨.inl k,c,e,?_⟩;have q:=x.cell y c e;rw[Sj Sl hp hu (by show scope.names.lookup y≠_;rw[k];decide)] at q
   exact q
 ·exact e0.aK.fresh (jR (x.above y c (vj h)))
 ·unfold start
  show _=N.length;rw[fE,aR,List.length_replicate];lia
theorem Cy{CX:jB}{P:Program}{w:World}{K:W.Frag}{mg:Str->Option Value}{base:Heap}{k:Nat}{f:Addr}{name qual:Str}{params:Arguments}{body:List Stmt}{scope:Scope}{dV kV doc pm aP ct oc:Value}{an od:Option Addr}
  {i9:Array (Option Value)} {N ps:List Str} {sp:Sp} (lk:K.lookup f=some ⟨oc,od,.func (PySem.W.fnOf name qual params body scope dV kV doc pm an aP ct),i9⟩) (dN:PySem.W.codeIn K aP qual=true) (S:bA N ps scope)
  (len:∀vs H Q E,sp vs H Q E->vs.length=ps.length)
  (qd:∀(A:Around) (outer:List Env) (s:Shared) (H:Hp) (vs:List V) (Q:VK) (E:XK),c7 k (A.deeper (envOfC qual scope s.heap.objs.size f aP))->sp vs H Q E->
   ∃t,gB (i8 CX P w K mg base N qual scope f aP A outer s H E) body t/\t { nx:=λ_ H'=>Q .aO H',rt:=Q } (start N vs) H) :
  a_ P w K mg base CX (k+1) f (PySem.W.fnOf name qual params body scope dV kV doc pm an aP ct) ps sp:=by
 refine⟨len,λA outer s H args us vs Q E hr e0 hb r dQ=>?_⟩;have hl:=len _ _ _ _ dQ;have KX:K.In s.heap:=e0.mod.qW.keeps λb o e=>(e0.bs b o e).1;have lim:s.heap.NoLimit:=e0.mod.nolimit.keeps λb o e=>(e0.bs b o e).1;have abz:∀y∈ps.zip us,scope.names.lookup y.1=some .local\/(scope.names.lookup y.1=some .cell/\((cellsFrom (s.heap.objs.size+1) scope.names []).lookup y.1).isSome=true):=λ⟨n,v⟩ hy=>by
  rcases S.par n (BL hy).1 with q | q
  ·exact .inl q
  ·exact .inr ⟨q,BV _ _ _ (.inl q)⟩
 refine codeAny_call_function hr.depth (KX _ _ lk) rfl S.co S.gen rfl (PySem.W.codeRec_of KX dN) (hb _ _ _ _ ?_);refine wpAny_newFunctionEnv_cells S.kind abz λenv he s1 x=>?_;subst he;refine⟨lim.keeps x.toInCall.keep,codeAny_func ?_⟩;obtain⟨t,ht,hq⟩:=qd A outer s H vs Q E (hr.deeper _) dQ;have I:Inv (i8 CX P w K mg base N qual scope f aP A outer s H E) [] (start N vs) H s1:=aby S hr.hd e0 hl r x;refine eL (ht [] s1 (start N vs) H _ I hq) (λfl s' hs=>?_) λe s' hs=>hs;have fin:∀ {bK:St} {H':Hp} {v:V} {u:Value},Inv (i8 CX P w K mg base N qual scope f aP A outer s H E) [] bK H' s'->RelV v u->Q v H'->CE outer P w H s Q u s' :=
  λ{bK H' v u} J rv q=>⟨v,H',J.os,J.bare,J.base,J.aK,rv,q⟩
 cases fl with
 | ret u =>
  obtain⟨v,bK,H',J,rv,q⟩:=hs;exact fin J rv q
 | next =>
  obtain⟨bK,H',J,q⟩:=hs;exact fin (v:=V.aO) (u:=Value.none) J rfl q
 | brk =>
  obtain⟨_,_,_,q⟩:=hs;exact False.elim q
 | cont =>
  obtain⟨_,_,_,q⟩:=hs;exact False.elim q
section
variable{X:Cx}{x:Str}{p pos:Pos}{e:Expr}{es:List Expr}{t:TA}{id T:String}{r:List V->Hp->VK->Prop}
def vP(r:List V->Hp->VK->Prop)(t:TA):TE:=λσ H Q=>t σ H λvs H1=>r vs H1 Q
theorem bY(hc:gC X (.builtin id) r)(hg:Gl X x)(hm:X.mg x=none)(hv:bootBuiltins x=some (.builtin id))(ha:PA X (e::es) t)(hn:x≠"__name__" := by decide)(jC:(x == ("__debug__" : Str))=false:=by decide)
  (he:starEach (e::es) X.env=(false,eval e X.env)::starEach es X.env:=by rfl) (iE:(backTo pos (starEach es X.env)).any (·.1)=false:=by rfl):PE X (.Call (.Name x p) (e::es) [] pos) (vP r t):=by
 intro pins s σ H Q I h;refine vn (qY I hg hm hv ?_ hn jC);exact PyProof.Rows.callWith_builtin1 (aW (ha pos pins s σ H _ I h) λus s1 ⟨vs,H1,I1,r1,q1⟩=>hc pins s1 σ H1 vs us Q I1 r1 q1) he iE
theorem jZ(hc:gC X (.type T) r)(hg:Gl X x)(hm:X.mg x=none)(hv:bootBuiltins x=some (.type T))(ha:PA X (e::es) t)(hn:x≠"__name__" := by decide)(jC:(x == ("__debug__" : Str))=false:=by decide)
  (he:starEach (e::es) X.env=(false,eval e X.env)::starEach es X.env:=by rfl) (iE:(backTo pos (starEach es X.env)).any (·.1)=false:=by rfl):PE X (.Call (.Name x p) (e::es) [] pos) (vP r t):=by
 intro pins s σ H Q I h;refine vn (qY I hg hm hv ?_ hn jC);exact xR (aW (ha pos pins s σ H _ I h) λus s1 ⟨vs,H1,I1,r1,q1⟩=>hc pins s1 σ H1 vs us Q I1 r1 q1) he iE
end
end _L
namespace _H
open PySem PyProof.Rows
noncomputable def lexLt:List Int->List Int->Bool
 | [],[]=>false
 | [],_::_=>true
 | _::_,[]=>false
 | x::xs,y::ys=>if x=y then lexLt xs ys else decide (x<y)
theorem abA(x y:Int)(xs ys:List Int):lexLt (x::xs) (y::ys)=if x=y then lexLt xs ys else decide (x<y):=rfl
theorem abB:lexLt [] [] = false:=rfl
theorem abC(y:Int)(ys:List Int):lexLt [] (y::ys)=true:=rfl
theorem abD(x:Int)(xs:List Int):lexLt (x::xs) [] = false:=rfl
theorem abE(A:Around)(s:Shared)(a:Int)(t:Tok)(c:Int)(u:Tok):∃e,SeqAt.EqAt A s (.int a t) (.int c u) e/\(e=true↔a=c) :=
 ⟨(a == c),SeqAt.EqAt.int_int a t c u,by simp⟩
theorem G4(A:Around)(s:Shared)(a:Int)(t:Tok)(c:Int)(u:Tok)(prog:Program)(w:World)(E:Value->Shared->Prop)(Q:Value->Shared->Prop)(h:Q (.bool (decide (a<c))) s) :
  wpAny (model prog w) A (richCompare .Lt (.int a t) (.int c u)) Q E s :=
 (PyProof.Rows.lt_int h:wpAny (model prog w) A (compareOp .Lt (.int a t) (.int c u)) Q E s)
section
open PySem.SeqAt
open PySem.AutoSeq1 (wpAny_loadPart')
open PySem.MeetsSeq PySem.MeetsSeq2 PySem.MeetsSeq3
theorem abF(l b:Addr)(items oH:Array Value)(n n2:Nat)(dd mT:Option Addr)(sl i_:Array (Option Value))(ns ms:List Int)(hi:IntsAre items.toList ns)(hj:IntsAre oH.toList ms) :
  Meets (Builtin.«tuple.__lt__» ⟨[.ref l,.ref b],[]⟩)
   (λ_ R s=>s.heap.get? l=some { cls:=.type "tuple",dict:=dd,data:=.seq items n,slots:=sl }/\s.heap.get? b=some { cls:=.type "tuple",dict:=mT,data:=.seq oH n2,slots:=i_ }/\
    R (.ok (.ret (.bool (lexLt ns ms)))) s) :=
 .of_wp λprog w A R s h=>by
  obtain⟨hp,g,d,tk,os⟩:=s;obtain⟨hl,hb,h⟩:=h;have f2:=AutoSeq1.sub_tuple_tuple;have z1:items.size=ns.length:=by rw[← hi.length];simp
  have z2:oH.size=ms.length:=by rw[← hj.length];simp
  wp_walk using wpAny_loadPart' hl,wpAny_loadPart' hb,wpAny_forIn_list _ (λrest b s'=>b.1=none/\s' = ⟨hp,g,d,tk,os⟩/\∃(vs ws:List Value) (gW vQ:List Int),rest=vs.zip ws/\
   IntsAre vs gW/\IntsAre ws vQ/\gW.length+oH.size=vQ.length+items.size/\R (.ok (.ret (.bool (lexLt gW vQ)))) ⟨hp,g,d,tk,os⟩) _
  case turn =>
   rintro⟨y,x⟩ rest b s' ⟨jD,rfl,vs,ws,gW,vQ,hz,G5,Cz,hlen,hR⟩;cases G5 with
   | nil=>rw[List.zip_nil_left] at hz;cases hz
   | cons a t abG =>
    cases Cz with
    | nil=>rw[List.zip_nil_right] at hz;cases hz
    | cons c u abH =>
     rw[List.zip_cons_cons] at hz;injection hz with hyx abI;injection hyx with hy hx;subst hy hx;rw[abA] at hR;simp only[List.length_cons] at hlen;obtain⟨e,he,Sm⟩:=abE A.in1 ⟨hp,g,d,tk,os⟩ a t c u;refine wpAny_bind (he prog w _ _ ?_);cases e with
     | true =>
      rw[if_pos (Sm.mp rfl)] at hR;wp_walk;exact⟨rfl,rfl,_,_,_,_,abI,abG,abH,by lia,hR⟩
     | false =>
      rw[if_neg (λq=>absurd (Sm.mpr q) Bool.false_ne_true)] at hR;have G6:=G4 A.in1 ⟨hp,g,d,tk,os⟩ a t c u prog w;wp_walk using G6;exact⟨_,rfl,by simpa using hR⟩
  case fin =>
   rintro⟨b1,b2⟩ s' ⟨jD,rfl,vs,ws,gW,vQ,hz,G5,Cz,hlen,hR⟩;simp only at jD;subst jD;have hv:lexLt gW vQ=decide (items.size<oH.size):=by
    cases G5 with
    | nil =>
     cases Cz with
     | nil =>
      simp only[List.length_nil] at hlen;rw[abB];exact(decide_eq_false (by lia)).symm
     | cons c u hw =>
      simp only[List.length_nil,List.length_cons] at hlen;rw[abC];exact(decide_eq_true (by lia)).symm
    | cons a t hv =>
     cases Cz with
     | nil =>
      simp only[List.length_nil,List.length_cons] at hlen;rw[abD];exact(decide_eq_false (by lia)).symm
     | cons c u hw =>
      rw[List.zip_cons_cons] at hz;cases hz
   rw[hv] at hR;wp_walk;exact⟨_,rfl,by simpa[Builtin.Tuple.tupleCompareSizes] using hR⟩
  case h =>
   exact⟨rfl,rfl,items.toList,oH.toList,ns,ms,rfl,hi,hj,by lia,h⟩
end
section
variable{prog:Program}{w:World}{A:Around}{E:Value->Shared->Prop}{s:Shared}
theorem abJ{l b:Addr}{items oH:Array Value}{ns ms:List Int}{Q:Value->Shared->Prop}(hl:IsTup s.heap l items)(hb:IsTup s.heap b oH)(hi:IntsAre items.toList ns)(hj:IntsAre oH.toList ms)
  (hu:A.units<cLine) (h:Q (.bool (lexLt ns ms)) s):wpAny (model prog w) A (compareOp .Lt (.ref l) (.ref b)) Q E s:=by
 obtain⟨⟨cls,dd,data,sl⟩,ho,hc,n,hd⟩:=id hl;obtain⟨⟨So,mT,data2,i_⟩,gP,mU,n2,hd2⟩:=id hb;simp only at hc hd mU hd2;subst hc hd mU hd2;exact richCompare_meets_room (op:=.Lt) ⟨_,ho,rfl⟩ ⟨_,gP,rfl⟩ PySem.F.slot_tuple_lt PySem.F.entry_tuple_lt (PySem.F.args_tuple_lt_2 _ _) (abF l b items oH n n2 dd mT sl i_ ns ms hi hj)
  ⟨ho,gP,show Value.bool (lexLt ns ms)≠Value.notImplemented/\Q (.bool (lexLt ns ms)) s from⟨(λx=>nomatch x),h⟩⟩ hu
theorem abK{t b:Addr}{vs ws:List Value}{Q:Value->Shared->Prop}(ht:IsTup s.heap t vs.toArray)(hb:IsTup s.heap b ws.toArray)(hv:vs≠[])
  (h1:ws = []->Q (.ref t) s) (h2:ws≠[]->Q (.ref s.heap.objs.size) { s with heap:=s.heap.push { cls:=.type "tuple",data:=.seq (vs++ws).toArray }})
  (hsz:vs.length+ws.length<=sizeLine):wpAny (model prog w) A (binaryOp .Add (.ref t) (.ref b)) Q E s:=by
 obtain⟨⟨cls,dd,data,sl⟩,ho,hc,n,hd⟩:=id ht;obtain⟨⟨So,mT,data2,i_⟩,gP,mU,n2,hd2⟩:=id hb;simp only at hc hd mU hd2;subst hc hd mU hd2;have e:vs.toArray++ws.toArray=(vs++ws).toArray:=by simp
 by_cases hw:ws = []
 ·exact concat_meets ⟨_,ho,rfl⟩ ⟨_,gP,rfl⟩ noFill_tuple_add seq_tuple_add PySem.F.slot_tuple_add PySem.F.entry_tuple_add (PySem.F.args_tuple_add_2 _ _)
   (tuple_addW1 t b vs.toArray ws.toArray n n2 dd mT sl i_ (by simpa using hv) (by simp[hw])) ⟨ho,gP,h1 hw⟩
 ·refine concat_meets ⟨_,ho,rfl⟩ ⟨_,gP,rfl⟩ noFill_tuple_add seq_tuple_add PySem.F.slot_tuple_add PySem.F.entry_tuple_add (PySem.F.args_tuple_add_2 _ _)
   (tuple_addW2 t b vs.toArray ws.toArray n n2 dd mT sl i_ (by simpa using hv) (by simpa using hw) (by rw[List.size_toArray,List.size_toArray];exact hsz)) ⟨ho,gP,?_⟩
  rw[e];exact h2 hw
noncomputable def bQ(n d:Nat):Option Int->Nat
 | none=>d
 | some v=>if v<0 then(v+(n:Int)).toNat else min v.toNat n
theorem abL(n d k:Nat):bQ n d (some (k:Int))=min k n:=by
 show (if (k:Int)<0 then((k:Int)+(n:Int)).toNat else min (k:Int).toNat n)=min k n
 rw[if_neg (by lia),Int.toNat_natCast]
theorem abM(n d:Nat)(hd:d<=n)(o:Option Int):bQ n d o<=n:=by
 cases o with
 | none=>exact hd
 | some v =>
  show (if v<0 then(v+(n:Int)).toNat else min v.toNat n)<=n
  by_cases hv:v<0
  ·rw[if_pos hv];lia
  ·rw[if_neg hv];exact Nat.min_le_right _ _
theorem Sq(v:Int)(n d:Nat):(if v<0 then max (v+(n:Int)) 0 else min v (n:Int))=((bQ n d (some v):Nat):Int):=by
 show (if v<0 then max (v+(n:Int)) 0 else min v (n:Int))=(((if v<0 then(v+(n:Int)).toNat else min v.toNat n):Nat):Int)
 by_cases hv:v<0
 ·simp only[if_pos hv];lia
 ·simp only[if_neg hv];lia
theorem abN(lo hi:Option Int)(n:Nat):Builtin.Slice.sliceAdjust lo hi 1 (n:Int)=(((bQ n 0 lo:Nat):Int),((bQ n n hi:Nat):Int)):=by
 have h1:¬ ((1:Int)<0):=by lia
 unfold Builtin.Slice.sliceAdjust;simp only[h1,if_false];refine Prod.ext ?_ ?_
 ·cases lo with
  | none=>rfl
  | some v=>exact Sq v n 0
 ·cases hi with
  | none=>rfl
  | some v=>exact Sq v n n
theorem abO(i j:Nat):Builtin.Slice.slicePlaces (i:Int) (j:Int) 1=j - i:=by
 unfold Builtin.Slice.slicePlaces;have h1:(1:Int) > 0:=by lia
 simp only[h1,if_true,Int.ediv_one];split <;> lia
theorem Ss{v:Value}{o:Option Int}{Q:Option Int->Shared->Prop}(p:IsPart v o)(h:Q o s):wpAny (model prog w) A (Builtin.Slice.slicePartIndex v) Q E s:=by
 cases p with
 | none=>exact slicePart_none h
 | int i t=>exact slicePart_int h
theorem abP{sl:Addr}{vl vu:Value}{lo hi:Option Int}{n:Nat}{Q:Int×Int×Nat->Shared->Prop}(hs:s.heap.IsSliceOf sl vl vu .none)(pl:IsPart vl lo)(pu:IsPart vu hi)
  (h:Q (((bQ n 0 lo:Nat):Int),1,bQ n n hi - bQ n 0 lo) s):wpAny (model prog w) A (Builtin.Slice.sliceApplied (.ref sl) (pure (n:Int))) Q E s:=by
 obtain⟨os,qe,Su,CB⟩:=id hs;unfold Builtin.Slice.sliceApplied Builtin.Slice.sliceFields;refine wpAny_bind (wpAny_bind (wpAny_field qe CB (x:=vl) rfl (wpAny_bind (wpAny_field qe CB (x:=vu) rfl (wpAny_bind (wpAny_field qe CB (x:=.none) rfl (wpAny_pure ?_)))))));refine wpAny_bind (slicePart_none ?_)
 show wpAny _ _ (if ((1:Int) == 0)=true then _ else _) _ _ s
 rw[if_neg (by decide)]
 refine wpAny_bind (Ss pl (wpAny_bind (Ss pu (wpAny_bind (wpAny_pure ?_)))))
 show wpAny _ _ (match Builtin.Slice.sliceAdjust lo hi 1 (n:Int) with | (lo,hi)=>pure (lo,(1:Int),Builtin.Slice.slicePlaces lo hi 1)) _ _ s
 rw[abN lo hi n]
 show wpAny _ _ (pure (((bQ n 0 lo:Nat):Int),(1:Int),Builtin.Slice.slicePlaces ((bQ n 0 lo:Nat):Int) ((bQ n n hi:Nat):Int) 1)) _ _ s;rw[abO];exact wpAny_pure h
theorem abQ(xs:Array Value)(i k:Nat):((List.range k).filterMap λ(m:Nat)=>xs[((i:Int)+(m:Int)*1).toNat]?).toArray=((xs.toList.drop i).take k).toArray:=by
 have e:(λ(m:Nat)=>xs[((i:Int)+(m:Int)*1).toNat]?)=λm=>xs[i+m]? := by
  funext m
  have:((i:Int)+(m:Int)*1).toNat=i+m:=by lia
  rw[this]
 rw[e];have:=pick_run xs i k;rw[List.filterMap_map] at this;have e2:((λx=>xs[x]?) ∘ λx=>i+x)=λm=>xs[i+m]? := rfl;rw[e2] at this;rw[this]
theorem abR{t sl:Addr}{items:Array Value}{vl vu:Value}{lo hi:Option Int}{Q:Value->Shared->Prop}(ht:IsTup s.heap t items)(hs:s.heap.IsSliceOf sl vl vu .none)(pl:IsPart vl lo)(pu:IsPart vu hi)
  (hw:¬ (bQ items.size 0 lo=0/\bQ items.size items.size hi=items.size))
  (h:Q (.ref s.heap.objs.size) { s with heap:=s.heap.push { cls:=.type "tuple",data:=.seq ((items.toList.drop (bQ items.size 0 lo)).take (bQ items.size items.size hi - bQ items.size 0 lo)).toArray }})
  (hsz:items.size<=sizeLine):wpAny (model prog w) A (getItem (.ref t) (.ref sl)) Q E s:=by
 have CC:sizeOk (.seq ((items.toList.drop (bQ items.size 0 lo)).take (bQ items.size items.size hi - bQ items.size 0 lo)).toArray):=by
  show ((items.toList.drop (bQ items.size 0 lo)).take (bQ items.size items.size hi - bQ items.size 0 lo)).toArray.size<=sizeLine;rw[List.size_toArray,List.length_take,List.length_drop,Array.length_toList];lia
 have hj:bQ items.size items.size hi<=items.size:=abM _ _ (Nat.le_refl _) hi;obtain⟨os,qe,Su,CB⟩:=id hs;have hTs:s.TypeIs (.ref sl) "slice" := ⟨os,qe,Su⟩;unfold getItem
 try with_reducible refine wpAny_holding ?_
 first | refine wpAny_bind (wpAny_pure ?_) | skip
 refine wpAny_bind (wpAny_sequenceKey ht.typeIs (by decide) ?_)
 refine wpAny_bind (wpAny_callSpecial?_slot (name:=Str.ofString "__getitem__") ht.typeIs PyProof.Rows.slot_tuple_getitem
  (wpAny_call_entry PyProof.Rows.slot_tuple_getitem ht.typeIs entry_tuple_getitem ?_ (args_tuple_getitem _ _)))
 show wpAny _ _ (Builtin.Tuple.tupleItemsOf (.ref t) >>= _) _ _ s;refine wpAny_bind (tupleItemsOf_ ht ?_);refine wpAny_bind (wpAny_typeOf hTs ?_);rw[if_pos (by decide)]
 refine wpAny_bind (abP hs pl pu ?_);have tT:¬ ((((bQ items.size 0 lo:Nat):Int) == 0 && (1:Int) == 1 && (bQ items.size items.size hi - bQ items.size 0 lo) == items.size)=true):=by
  intro q;rw[Bool.and_eq_true,Bool.and_eq_true] at q;have q1:((bQ items.size 0 lo:Nat):Int)=0:=eq_of_beq q.1.1;have q2:bQ items.size items.size hi - bQ items.size 0 lo=items.size:=eq_of_beq q.2;exact hw ⟨by lia,by lia⟩
 show wpAny _ _ (if (((bQ items.size 0 lo:Nat):Int) == 0 && (1:Int) == 1 && (bQ items.size items.size hi - bQ items.size 0 lo) == items.size)=true then _ else _) _ _ s
 rw[if_neg tT,abQ]
 first
  | exact wpAny_bind (m:=Builtin.Tuple.tupleExact _) (wpAny_newObj_type (wpAny_pure ⟨_,rfl,wpAny_pure h⟩) CC)
  | exact wpAny_bind (m:=Builtin.Tuple.tupleExact _) (wpAny_newObj_type (wpAny_bind (wpAny_pure (wpAny_pure ⟨_,rfl,wpAny_pure h⟩))) CC)
  | exact wpAny_bind (wpAny_bind (m:=Builtin.Tuple.tupleExact _) (wpAny_newObj_type (wpAny_pure (wpAny_pure ⟨_,rfl,wpAny_pure h⟩)) CC))
  | exact wpAny_bind (wpAny_bind (m:=Builtin.Tuple.tupleExact _) (wpAny_newObj_type (wpAny_pure ⟨_,rfl,wpAny_pure h⟩) CC))
end
end _H
namespace _L
open PySem PySem.Spec PyProof.Rows
noncomputable abbrev TO:=St->Hp->(Option Int->Hp->Prop)->Prop
noncomputable def PO(X:Cx)(e:Option Expr)(t:TO):Prop :=
 ∀(pins:List (Addr×Obj)) (s:Shared) (σ:St) (H:Hp) (Q:Option Int->Hp->Prop),Inv X pins σ H s->t σ H Q->
  wpAny (model X.prog X.w) X.A (evalPart e X.env) (λu s'=>∃o H',Inv X pins σ H' s'/\IsPart u o/\Q o H') X.xe s
def yR:TO:=λ_ H Q=>Q none H
def yS(t:TE):TO:=λσ H Q=>t σ H λx H1=>∃i,x = .int i/\Q (some i) H1
theorem intsAre_of{ns:List Int}:∀ {us:List Value},Vals (ns.map V.int) us->IntsAre us ns:=by
 induction ns with
 | nil=>intro us r;rw[List.map_nil] at r;cases r;exact .nil
 | cons n ns ih =>
  intro us r;rw[dM] at r;cases r with
  | cons r1 r2 =>
   obtain⟨t,e⟩:=r1;subst e;exact .cons n t (ih r2)
section
variable{X:Cx}{e:Expr}{te:TE}{lo hi:Option Expr}{tl th:TO}{pos p2:Pos}
theorem tU:PO X none yR:=by
 intro pins s σ H Q I h;rw[evalPart_none];exact bL ⟨none,H,I,.none,h⟩
theorem tV(h:PE X e te):PO X (some e) (yS te):=by
 intro pins s σ H Q I hw;rw[evalPart_some];refine aW (h pins s σ H _ I hw) λu s1 ⟨x,H1,I1,r1,q1⟩=>?_;obtain⟨i,rfl,q⟩:=q1;obtain⟨t,rfl⟩:=r1;exact⟨some i,H1,I1,.int i t,q⟩
noncomputable def G7(X:Cx)(r:V->Option Int->Option Int->Hp->VK->Prop):Prop :=
 ∀(pins:List (Addr×Obj)) (s:Shared) (σ:St) (H:Hp) (x:V) (v vl vu:Value) (lo hi:Option Int) (sl:Addr) (Q:VK),Inv X pins σ H s->RelV x v->s.heap.IsSliceOf sl vl vu .none->IsPart vl lo->IsPart vu hi->r x lo hi H Q->
  ∃T id,typeLookup (.type T) "__getitem__" = pure (some (.builtin id))/\s.TypeIs v T/\wpAny (model X.prog X.w) X.A (getItem v (.ref sl)) (EP X pins σ Q) X.xe s
def yT(r:V->Option Int->Option Int->Hp->VK->Prop)(te:TE)(tl th:TO):TE:=λσ H Q=>te σ H λx H1=>tl σ H1 λl H2=>th σ H2 λu H3=>r x l u H3 Q
theorem tW{r:V->Option Int->Option Int->Hp->VK->Prop}(hr:G7 X r)(he:PE X e te)(hl:PO X lo tl)(hu:PO X hi th):PE X (.Subscript e (.Slice lo hi none p2) pos) (yT r te tl th):=by
 intro pins s σ H Q I h;refine Subscript_ (aW (he pins s σ H _ I h) λv s1 ⟨x,H1,I1,r1,q1⟩=>?_);refine wpAny_Slice (aW (hl pins s1 σ H1 _ I1 q1) λvl s2 ⟨l,H2,I2,pl,q2⟩=>aW (hu pins s2 σ H2 _ I2 q2) λvu s3 ⟨u,H3,I3,pu,q3⟩=>?_);rw[evalPart_none];refine bL ?_;have I4:Inv X pins σ H3 { s3 with heap:=s3.heap.push { cls:=.type "slice",data:=.fields #[vl,vu,.none] }}:=I3.kept (t':=s3.toks) λb ob q=>dg _ q;obtain⟨T,id,hT,ht,hg⟩:=hr pins { s3 with heap:=s3.heap.push { cls:=.type "slice",data:=.fields #[vl,vu,.none] }} σ H3 x v vl vu l u s3.heap.objs.size Q I4 r1 (Heap.IsSliceOf.new ..) pl pu q3
 show wpAny (model X.prog X.w) X.A (subscriptTail e (.Slice lo hi none p2) v (.ref s3.heap.objs.size)) (EP X pins σ Q) X.xe { s3 with heap:=s3.heap.push { cls:=.type "slice",data:=.fields #[vl,vu,.none] }};exact tail_any (ops:=[.ref s3.heap.objs.size,v]) ht hT hg (by with_unfolding_all rfl)
noncomputable def iF(xs:List V)(lo hi:Option Int):List V:=(xs.drop (_H.bQ xs.length 0 lo)).take (_H.bQ xs.length xs.length hi - _H.bQ xs.length 0 lo)
theorem Sv(xs:List V)(lo hi:Option Int):(iF xs lo hi).length<=xs.length:=by
 unfold iF;rw[d9,xN];lia
def abS(K:W.Frag):V->Option Int->Option Int->Hp->VK->Prop:=λx lo hi H Q=>∃a xs,x = .ref a/\aL K H a xs/\
 ¬ (_H.bQ xs.length 0 lo=0/\_H.bQ xs.length xs.length hi=xs.length)/\∀p,H p=none->Q (.ref p) (upd H p (.tup (iF xs lo hi)))
theorem G8:G7 X (abS X.K):=by
 intro pins s σ H x v vl vu lo hi sl Q I rx hs pl pu h;obtain⟨a,xs,rfl,hx,hw,q⟩:=h;cases rx;obtain⟨aB,r,ht,hz⟩:=I.tuple hx;have hlen:aB.toArray.size=xs.length:=by rw[f9];exact r.length.symm
 refine⟨"tuple",_,PyProof.Rows.slot_tuple_getitem.lookup,ht.typeIs,?_⟩;refine _H.abR ht hs pl pu (by rw[hlen];exact hw) ?_ (by rw[hlen];exact hz)
 rw[hlen];refine⟨.ref s.heap.objs.size,_,I.laid (t':=s.toks) (o:=.tup (iF xs lo hi)) (λb ob q=>dg _ q) (bH _) ?_,rfl,q _ (I.aK.fresh (bH _))⟩;exact⟨cX (Sv xs lo hi) hz,_,(r.drop (_H.bQ xs.length 0 lo)).take (_H.bQ xs.length xs.length hi - _H.bQ xs.length 0 lo),IsTup.new _ _⟩
def yU(K:W.Frag):R2:=λx y H Q=>∃a b xs ys,x = .ref a/\y = .ref b/\aL K H a xs/\aL K H b ys/\xs≠[]/\xs.length+ys.length<=sizeLine/\
 (ys = []->Q (.ref a) H)/\(ys≠[]->∀p,H p=none->Q (.ref p) (upd H p (.tup (xs++ys))))
theorem Vals.CF{xs:List V}{us:List Value}(r:Vals xs us):us = []↔xs = []:=by
 cases r with
 | nil=>simp
 | cons _ _=>simp
theorem G9:cB X (binaryOp .Add) (yU X.K):=by
 intro pins s σ H x y v u Q I rx ry h;obtain⟨a,b,xs,ys,rfl,rfl,ha,hb,hx,hz,q1,q2⟩:=h;cases rx;cases ry;obtain⟨aB,r1,p1,_⟩:=I.tuple ha;obtain⟨dH,r2,p2,_⟩:=I.tuple hb;refine _H.abK p1 p2 (λz=>hx (r1.CF.mp z)) (λz=>⟨.ref a,H,I,rfl,q1 (r2.CF.mp z)⟩) (λz=>?_) (by rw[← r1.length,← r2.length];exact hz)
 refine⟨.ref s.heap.objs.size,_,I.laid (t':=s.toks) (o:=.tup (xs++ys)) (λb ob q=>dg _ q) (bH _) ?_,rfl,q2 (λw=>z (r2.CF.mpr w)) _ (I.aK.fresh (bH _))⟩;exact⟨by rw[fE];exact hz,_,r1.append r2,IsTup.new _ _⟩
end
noncomputable def jc(n:Nat)(i:Int):Option Nat:=if 0<=i then(if i<n then some i.toNat else none) else if -(n:Int)<=i then some (i+n).toNat else none
noncomputable def e7{α:Type}(xs:List α)(i:Int):Option α:=(jc xs.length i).bind λj=>xs[j]?
theorem Sw{n:Nat}{i:Int}{j:Nat}(h:jc n i=some j):seqIndex? i n=some j/\j<n/\-(n:Int)<=i/\i<n:=by
 unfold jc at h;by_cases h0:0<=i
 ·rw[if_pos h0] at h;by_cases h1:i<n
  ·rw[if_pos h1] at h;have e:i.toNat=j:=dh h;exact⟨by rw[seqIndex_of h0 h1,e],by lia,by lia,h1⟩
  ·rw[if_neg h1] at h;cases h
 ·rw[if_neg h0] at h;by_cases h1 : -(n:Int)<=i
  ·rw[if_pos h1] at h;have e:(i+n).toNat=j:=dh h;exact⟨by rw[seqIndex_neg (by lia) h1,e],by lia,h1,by lia⟩
  ·rw[if_neg h1] at h;cases h
theorem Sx{α:Type}{xs:List α}{i:Int}{v:α}(h:e7 xs i=some v):∃j,seqIndex? i xs.length=some j/\xs[j]? = some v/\j<xs.length/\-(xs.length:Int)<=i/\i<xs.length:=by
 unfold e7 at h;cases e:jc xs.length i with
 | none=>rw[e] at h;cases h
 | some j =>
  rw[e] at h;obtain⟨h1,h2,h3,h4⟩:=Sw e;exact⟨j,h1,h,h2,h3,h4⟩
theorem rA{α:Type}{xs:List α}{j:Nat}{v:α}(h:xs[j]? = some v):e7 xs (j:Int)=some v:=by
 have hj:j<xs.length:=(ie.mp h).1;have e:jc xs.length (j:Int)=some j:=by
  unfold jc;rw[if_pos (by lia),if_pos (by lia)];simp
 unfold e7;rw[e];exact h
def abT(b:Expr):Prop:=∀o i,subscripted b false o i=operate [o,i] (getItem o i)
noncomputable def mW(X:Cx)(r:R2):Prop :=
 ∀(value slice:Expr) (pins:List (Addr×Obj)) (s:Shared) (σ:St) (H:Hp) (x y:V) (v u:Value) (Q:VK),Inv X pins σ H s->RelV x v->RelV y u->r x y H Q->
  subscripted slice false v u=operate [v,u] (getItem v u)->wpAny (model X.prog X.w) X.A (subscriptTail value slice v u) (EP X pins σ Q) X.xe s
noncomputable def Sy(X:Cx)(id:String)(r:V->List V->Hp->VK->Prop):Prop :=
 ∀(pins:List (Addr×Obj)) (s:Shared) (σ:St) (H:Hp) (x:V) (xs:List V) (v:Value) (us:List Value) (Q:VK),Inv X pins σ H s->RelV x v->Vals xs us->r x xs H Q->
  wpAny (model X.prog X.w) X.A (call (.builtin id) (v::us)) (EP X pins σ Q) X.xe s
section
variable{X:Cx}{a b:Expr}{ta tb:TE}{pos:Pos}
theorem aH{r:R2}(hr:mW X r)(ha:PE X a ta)(hb:PE X b tb)(hs:abT b):PE X (.Subscript a b pos) (q_ r ta tb):=by
 intro pins s σ H Q I h;exact Subscript_ (GW ha hb I h λv u s2 x y H2 I2 rx ry q=>hr a b pins s2 σ H2 x y v u Q I2 rx ry q (hs _ _))
def vR(K:W.Frag):R2:=λx y H Q=>∃p xs i v,x = .ref p/\y = .int i/\az K H p xs/\e7 xs i=some v/\Q v H
def tX(K:W.Frag):R2:=λx y H Q=>∃p xs i v,x = .ref p/\y = .int i/\aL K H p xs/\e7 xs i=some v/\Q v H
theorem qg:mW X (vR X.K):=by
 intro value slice pins s σ H x y v u Q I rx ry h hs;obtain⟨p,xs,i,z,rfl,rfl,hq,he,q⟩:=h;cases rx;obtain⟨t,rfl⟩:=ry;obtain⟨aB,r,pl,hz⟩:=I.list hq;obtain⟨j,h1,h2,h3,h4,h5⟩:=Sx he;obtain⟨w,ew,mX⟩:=r.get h2;have hl:=r.length;have hn:=yK;have fin:EP X pins σ Q w s:=⟨z,H,I,mX,q⟩;by_cases h0:0<=i
 ·have hj:i.toNat=j:=by
   rw[seqIndex_of h0 h5] at h1;exact dh h1
  exact item_listR pl.isList h0 (by lia) (by rw[hj];simpa using ew) fin hs
 ·have hj:(i+(aB.toArray.size:Int)).toNat=j:=by
   rw[seqIndex_neg (by lia) h4] at h1
   rw[f9,← hl];exact dh h1
  exact subscriptTail_builtinR (x:=w) pl.isList.typeIs slot_list_getitem.lookup
   (wpAny_getItem_list_neg (Q:=λr s'=>r=w/\EP X pins σ Q r s') pl.isList (by lia) (by rw[f9] <;> lia) (by lia) (by rw[hj];simpa using ew) ⟨rfl,fin⟩) hs
theorem vU:mW X (tX X.K):=by
 intro value slice pins s σ H x y v u Q I rx ry h hs;obtain⟨p,xs,i,z,rfl,rfl,hq,he,q⟩:=h;cases rx;obtain⟨t,rfl⟩:=ry;obtain⟨aB,r,pl,hz⟩:=I.tuple hq;obtain⟨j,h1,h2,h3,h4,h5⟩:=Sx he;obtain⟨w,ew,mX⟩:=r.get h2;have hl:=r.length;have hn:=yK;have fin:EP X pins σ Q w s:=⟨z,H,I,mX,q⟩;exact subscriptTail_builtinR (x:=w) pl.typeIs slot_tuple_getitem.lookup
  (getItem_tuple (j:=j) (Q:=λr s'=>r=w/\EP X pins σ Q r s') pl (by lia) (by lia) (by rw[f9,← hl];exact h1) (by simpa using ew) ⟨rfl,fin⟩) hs
theorem abU(aB:List Value)(n j:Nat)(u:Value):Obj.mapSeq (·.setIfInBounds j u) { cls:=.type "list",data:=.seq aB.toArray n } = { cls:=.type "list",data:=.seq (aB.set j u).toArray n }:=by
 simp[Obj.mapSeq]
theorem Inv.lst{pins:List (Addr×Obj)}{σ:St}{H:Hp}{s:Shared}{p:Addr}{xs:List V}(I:Inv X pins σ H s)(h:H p=some (.lst xs)) :
  ∃(aB:List Value) (n:Nat),Vals xs aB/\s.heap.get? p=some { cls:=.type "list",data:=.seq aB.toArray n }/\xs.length<=sizeLine:=by
 obtain⟨z,aB,n,r,e⟩:=I.aK p _ h;exact⟨aB,n,r,e,z⟩
theorem Inv.abV{pins:List (Addr×Obj)}{σ:St}{H:Hp}{s:Shared}{p:Addr}{xs ys:List V}{aB its':List Value}{n n':Nat}{f:Obj->Obj}(I:Inv X pins σ H s)(h:H p=some (.lst xs))
  (ho:s.heap.get? p=some { cls:=.type "list",data:=.seq aB.toArray n }) (hf:f { cls:=.type "list",data:=.seq aB.toArray n } = { cls:=.type "list",data:=.seq its'.toArray n' }) (r:Vals ys its') (hz:ys.length<=sizeLine) (t:Nat) :
  Inv X pins σ (upd H p (.lst ys)) { s with heap:=s.heap.update p f,toks:=t }:=by
 have e:(s.heap.update p f).get? p=some { cls:=.type "list",data:=.seq its'.toArray n' }:=by
  rw[F_ f ho (by rw[hf] <;> rfl),hf]
 refine I.write (x:=p) (e:=p) (by rw[h];trivial) (.inl rfl) (λb u hb q=>(Heap.get?_update_other _ _ (f_ hb)).trans q) ⟨_,e⟩ ?_
 exact⟨hz,its',n',r,e⟩
def yV:V->V->V->Hp->(Hp->Prop)->Prop:=λo i v H Q=>∃p xs k j,o = .ref p/\i = .int k/\H p=some (.lst xs)/\jc xs.length k=some j/\Q (upd H p (.lst (xs.set j v)))
theorem set_list:RS X yV:=by
 intro pins s σ H o i v ov iv u Q I ro ri rv h;obtain⟨p,xs,k,j,rfl,rfl,hp,hj,q⟩:=h;cases ro;obtain⟨t,rfl⟩:=ri;obtain⟨aB,n,r,ho,hz⟩:=I.lst hp;obtain⟨h1,h2,h3,h4⟩:=Sw hj;have hl:=r.length;have hn:=yK;have I':Inv X pins σ (upd H p (.lst (xs.set j v))) { s with heap:=s.heap.update p (Obj.mapSeq (·.setIfInBounds j u))} :=
  I.abV hp ho (abU aB n j u) (r.set rv j) (by rw[mG];exact hz) s.toks
 by_cases h0:0<=k
 ·have hk:k.toNat=j:=by
   rw[seqIndex_of h0 h4] at h1;exact dh h1
  exact PySem.W.ki_setAt ho h0 (by lia) (by rw[f9,← hl];exact h4) (by rw[hk];exact⟨_,I',q⟩)
 ·have hk:(k+(aB.toArray.size:Int)).toNat=j:=by
   rw[seqIndex_neg (by lia) h3] at h1
   rw[f9,← hl];exact dh h1
  exact PySem.W.ki_setBack ho (by lia) (by rw[f9,← hl];exact h3) (by lia) (by rw[hk];exact⟨_,I',q⟩)
theorem abW(lo hi:Option Int)(n:Nat):(sliceBounds lo hi none n).1=((_H.bQ n 0 lo:Nat):Int)/\(sliceBounds lo hi none n).2.1=((_H.bQ n n hi:Nat):Int)/\(sliceBounds lo hi none n).2.2=1:=by
 refine⟨?_,?_,rfl⟩
 ·cases lo with
  | none=>simp[sliceBounds,_H.bQ]
  | some i =>
   simp only[sliceBounds,_H.bQ,Option.getD_none,show (1:Int) > 0 by decide,if_true]
   by_cases h:i<0
   ·simp only[h,if_true] <;> lia
   ·simp only[h,if_false] <;> lia
 ·cases hi with
  | none=>simp[sliceBounds,_H.bQ]
  | some i =>
   simp only[sliceBounds,_H.bQ,Option.getD_none,show (1:Int) > 0 by decide,if_true]
   by_cases h:i<0
   ·simp only[h,if_true] <;> lia
   ·simp only[h,if_false] <;> lia
theorem abX(aB:List Value)(lo hi:Option Int):slicePick aB.toArray lo hi none=((aB.drop (_H.bQ aB.length 0 lo)).take (_H.bQ aB.length aB.length hi - _H.bQ aB.length 0 lo)).toArray:=by
 obtain⟨h1,h2,h3⟩:=abW lo hi aB.toArray.size;unfold slicePick;rw[h1,h2,h3];simp only[sliceRange_one,pick_run,List.size_toArray] <;> rfl
def yW(K:W.Frag):V->Option Int->Option Int->Hp->VK->Prop:=λx lo hi H Q=>∃a xs,x = .ref a/\az K H a xs/\∀p,H p=none->Q (.ref p) (upd H p (.lst (iF xs lo hi)))
theorem CG:G7 X (yW X.K):=by
 intro pins s σ H x v vl vu lo hi sl Q I rx hs pl pu h;obtain⟨a,xs,rfl,hx,q⟩:=h;cases rx;obtain⟨aB,r,ht,hz⟩:=I.list hx;have hlen:=r.length;refine⟨"list",_,slot_list_getitem.lookup,ht.isList.typeIs,?_⟩;refine wpAny_getItem_list_slice ht.isList hs pl pu .none (by simp) ?_ (by rw[List.size_toArray] <;> lia)
 rw[abX,← hlen];refine⟨.ref s.heap.objs.size,_,I.laid (t':=s.toks) (o:=.lst (iF xs lo hi)) (λb ob q=>dg _ q) (bH _) ?_,rfl,q _ (I.aK.fresh (bH _))⟩;exact⟨cX (Sv xs lo hi) hz,_,0,(r.drop (_H.bQ xs.length 0 lo)).take (_H.bQ xs.length xs.length hi - _H.bQ xs.length 0 lo),fU _ rfl⟩
noncomputable def lM:V->Bool
 | .aO=>true
 | .bl _=>true
 | .int _=>true
 | .str _=>true
 | _=>false
noncomputable def kP:V->V->Bool
 | .aO,.aO=>true
 | .bl a,.bl b=>a == b
 | .bl a,.int b=>(if a then 1 else 0) == b
 | .int a,.bl b=>a == (if b then 1 else 0)
 | .int a,.int b=>a == b
 | .str a,.str b=>a == b
 | _,_=>false
theorem G_{A:Around}{s:Shared}{y x:V}{u v:Value}(ry:RelV y u)(rx:RelV x v)(fy:lM y=true)(fx:lM x=true):SeqAt.EqAt A s u v (kP y x):=by
 cases y with
 | aO =>
  cases ry;cases x with
  | aO=>cases rx;exact sQ _
  | bl b=>cases rx;exact SeqAt.EqAt.none_bool b
  | int b=>obtain⟨t,rfl⟩:=rx;exact SeqAt.EqAt.none_int b t
  | str b=>obtain⟨t,rfl⟩:=rx;exact SeqAt.EqAt.none_str b t
  | _=>exact absurd (show false=true from fx) eS
 | bl a =>
  cases ry;cases x with
  | aO=>cases rx;exact SeqAt.EqAt.bool_none a
  | bl b=>cases rx;exact SeqAt.EqAt.bool_bool a b
  | int b=>obtain⟨t,rfl⟩:=rx;exact SeqAt.EqAt.bool_int a b t
  | str b=>obtain⟨t,rfl⟩:=rx;exact SeqAt.EqAt.bool_str a b t
  | _=>exact absurd (show false=true from fx) eS
 | int a =>
  obtain⟨t',rfl⟩:=ry;cases x with
  | aO=>cases rx;exact SeqAt.EqAt.int_none a t'
  | bl b=>cases rx;exact SeqAt.EqAt.int_bool a t' b
  | int b=>obtain⟨t,rfl⟩:=rx;exact BX a t' b t
  | str b=>obtain⟨t,rfl⟩:=rx;exact SeqAt.EqAt.int_str a t' b t
  | _=>exact absurd (show false=true from fx) eS
 | str a =>
  obtain⟨t',rfl⟩:=ry;cases x with
  | aO=>cases rx;exact SeqAt.EqAt.str_none a t'
  | bl b=>cases rx;exact SeqAt.EqAt.str_bool a t' b
  | int b=>obtain⟨t,rfl⟩:=rx;exact SeqAt.EqAt.str_int a t' b t
  | str b=>obtain⟨t,rfl⟩:=rx;exact SeqAt.EqAt.str_str a t' b t
  | _=>exact absurd (show false=true from fx) eS
 | _=>exact absurd (show false=true from fy) eS
noncomputable def jE(x:V)(u:Value):Bool:=match u with
 | .none=>kP .aO x
 | .bool b=>kP (.bl b) x
 | .int i _=>kP (.int i) x
 | .str z _=>kP (.str z) x
 | _=>false
theorem Sz{x y:V}{u:Value}(r:RelV y u)(f:lM y=true):jE x u=kP y x:=by
 cases y with
 | aO=>cases r;rfl
 | bl b=>cases r;rfl
 | int i=>obtain⟨t,rfl⟩:=r;rfl
 | str z=>obtain⟨t,rfl⟩:=r;rfl
 | _=>exact absurd (show false=true from f) eS
theorem yX{x:V}:∀ {xs:List V} {us:List Value},Vals xs us->xs.all lM=true->us.any (jE x)=xs.any λy=>kP y x
 | _,_,.nil,_=>rfl
 | y::xs,u::us,.cons r t,f=>by
  rw[List.all_cons,FQ] at f;rw[vd,vd,Sz r f.1,yX t f.2]
theorem yY{A:Around}{s:Shared}{x:V}{v:Value}(rx:RelV x v)(fx:lM x=true):∀ {xs:List V} {us:List Value},Vals xs us->xs.all lM=true->∀u∈us,SeqAt.EqAt A s u v (jE x u)
 | _,_,.nil,_=>λu hu=>by cases hu
 | y::xs,u::us,.cons r t,f=>λu' hu=>by
  rw[List.all_cons,FQ] at f;rcases cE.mp hu with rfl | hu
  ·rw[Sz r f.1];exact G_ r rx f.1 fx
  ·exact yY rx fx t f.2 u' hu
noncomputable def vV(x:V)(xs:List V):Bool:=xs.any λy=>kP y x
def rB(K:W.Frag)(neg:Bool):R2:=λx y H Q=>∃p xs,y = .ref p/\(az K H p xs\/aL K H p xs)/\lM x=true/\xs.all lM=true/\Q (.bl (if neg then !vV x xs else vV x xs)) H
theorem CH:cB X (compareOp .In) (rB X.K false):=by
 intro pins s σ H x y v u Q I rx ry h;obtain⟨p,xs,rfl,hq,fx,fs,q⟩:=h;cases ry;rcases hq with hq | hq
 ·obtain⟨aB,r,pl,hz⟩:=I.list hq;refine SeqAt.in_listAt (jE x) pl.isList (λw hw=>yY rx fx r fs w (by simpa using hw)) ⟨.bl _,H,I,rfl,?_⟩
  rw[show aB.toArray.any (jE x)=aB.any (jE x) by simp,yX r fs]
  exact q
 ·obtain⟨aB,r,pl,hz⟩:=I.tuple hq;refine SeqAt.in_tupleAt (jE x) pl (λw hw=>yY rx fx r fs w (by simpa using hw)) ⟨.bl _,H,I,rfl,?_⟩
  rw[show aB.toArray.any (jE x)=aB.any (jE x) by simp,yX r fs]
  exact q
theorem SA:cB X (compareOp .NotIn) (rB X.K true):=by
 intro pins s σ H x y v u Q I rx ry h;obtain⟨p,xs,rfl,hq,fx,fs,q⟩:=h;cases ry;rcases hq with hq | hq
 ·obtain⟨aB,r,pl,hz⟩:=I.list hq;refine SeqAt.notIn_listAt (jE x) pl.isList (λw hw=>yY rx fx r fs w (by simpa using hw)) ⟨.bl _,H,I,rfl,?_⟩
  rw[show aB.toArray.any (jE x)=aB.any (jE x) by simp,yX r fs]
  exact q
 ·obtain⟨aB,r,pl,hz⟩:=I.tuple hq;refine SeqAt.notIn_tupleAt (jE x) pl (λw hw=>yY rx fx r fs w (by simpa using hw)) ⟨.bl _,H,I,rfl,?_⟩
  rw[show aB.toArray.any (jE x)=aB.any (jE x) by simp,yX r fs]
  exact q
theorem CI:gC X (.builtin "len") (λxs H Q=>∃p ys,xs = [.ref p]/\(az X.K H p ys\/aL X.K H p ys)/\Q (.int ys.length) H):=by
 intro pins s σ H xs us Q I r h;obtain⟨p,ys,rfl,hq,q⟩:=h;obtain⟨u,rfl,rx⟩:=vals1 r;cases rx;have hn:=yK;rcases hq with hq | hq
 ·obtain⟨aB,r',pl,hz⟩:=I.list hq;have hlen:=r'.length;exact Calls.call_len_list pl.isList (by simp only[List.size_toArray] <;> lia) ⟨.int ys.length,H,I.tok _,⟨s.toks+1,by rw[f9,hlen]⟩,q⟩
 ·obtain⟨aB,r',pl,hz⟩:=I.tuple hq;have hlen:=r'.length;exact len_tuple pl (by simp only[List.size_toArray] <;> lia) ⟨.int ys.length,H,I.tok _,⟨s.toks+1,by rw[f9,hlen]⟩,q⟩
theorem vW:gC X (.type "list") (λxs H Q=>∃p ys,xs = [.ref p]/\(az X.K H p ys\/aL X.K H p ys)/\∀l,H l=none->Q (.ref l) (upd H l (.lst ys))):=by
 intro pins s σ H xs us Q I r h;obtain⟨p,ys,rfl,hq,q⟩:=h;obtain⟨u,rfl,rx⟩:=vals1 r;cases rx;have fin:∀(aB:List Value),Vals ys aB->ys.length<=sizeLine->∀(h':Heap) (c':Nat),(∀b o',s.heap.get? b=some o'->h'.get? b=some o')->
   h'.get? s.heap.objs.size=some { cls:=.type "list",dict:=none,data:=.seq aB.toArray c',slots := #[] }->EP X pins σ Q (.ref s.heap.objs.size) { s with heap:=h' }:=λaB r' hz h' c' kp e =>
  ⟨.ref s.heap.objs.size,_,I.laid (t':=s.toks) kp (bH _) (show dU X.prog X.w _ h' _ (.lst ys) from⟨hz,aB,c',r',e⟩),rfl,q _ (I.aK.fresh (bH _))⟩
 rcases hq with hq | hq
 ·obtain⟨aB,r',pl,hz⟩:=I.list hq;have hlen:=r'.length;obtain⟨o,ho,hc,n,hd⟩:=pl.isList;exact call_list_seq p (.inl rfl) ho hc hd (λh' c' kp e=>fin aB r' hz h' c' kp e) (by simp only[List.size_toArray] <;> lia)
 ·obtain⟨aB,r',pl,hz⟩:=I.tuple hq;have hlen:=r'.length;obtain⟨o,ho,hc,n,hd⟩:=pl;exact call_list_seq p (.inr rfl) ho hc hd (λh' c' kp e=>fin aB r' hz h' c' kp e) (by simp only[List.size_toArray] <;> lia)
theorem Hf:gC X (.type "tuple") (λxs H Q=>∃p ys,xs = [.ref p]/\((az X.K H p ys/\∀l,H l=none->Q (.ref l) (upd H l (.tup ys)))\/(aL X.K H p ys/\Q (.ref p) H))):=by
 intro pins s σ H xs us Q I r h;obtain⟨p,ys,rfl,h⟩:=h;obtain⟨u,rfl,rx⟩:=vals1 r;cases rx;rcases h with⟨hq,q⟩ | ⟨hq,q⟩
 ·obtain⟨aB,r',pl,hz⟩:=I.list hq;have hlen:=r'.length;refine call_tuple_list pl.isList (λh' kp=>?_) (by simp only[List.size_toArray] <;> lia)
  have I1:Inv X pins σ H { s with heap:=h' }:=I.kept (t':=s.toks) kp;have I2:Inv X pins σ (upd H h'.objs.size (.tup ys)) { s with heap:=h'.push { cls:=.type "tuple",data:=.seq aB.toArray }} :=
   I1.laid (t':=s.toks) (λb o e=>dg _ e) (bH _) (show dU X.prog X.w _ _ _ (.tup ys) from⟨hz,aB,r',IsTup.new _ _⟩)
  exact⟨.ref h'.objs.size,_,I2,rfl,q _ (I1.aK.fresh (bH _))⟩
 ·obtain⟨aB,r',pl,hz⟩:=I.tuple hq;exact call_tuple_same pl ⟨.ref p,H,I,rfl,q⟩
def rC(K:W.Frag)(T:String)(x:V)(H:Hp):Prop:=match x with
 | .str _=>T = "str"
 | .int _=>T = "int"
 | .ref p=>(T = "list"/\∃xs,az K H p xs)\/(T = "tuple"/\∃o,K.lookup p=some o/\o.cls = .type "tuple"/\o.dict=none)\/
   (T = "dict"/\((∃aA,H p=some (.dK aA))\/∃aA,H p=some (.dT aA)))\/(T = "set"/\∃S n,H p=some (.set S n))
 | _=>False
theorem SD{pins:List (Addr×Obj)}{σ:St}{H:Hp}{s:Shared}{T:String}{x:V}{v:Value}(I:Inv X pins σ H s)(r:RelV x v)(ty:rC X.K T x H) :
  s.TypeIs v T/\∀a,v = .ref a->∃ob,s.heap.get? a=some ob/\ob.dict=none:=by
 cases x with
 | str z =>
  obtain⟨t,rfl⟩:=r;cases (show T = "str" from ty);exact⟨typeIs_str s z t,λ_ e=>nomatch e⟩
 | int i =>
  obtain⟨t,rfl⟩:=r;cases (show T = "int" from ty);exact⟨typeIs_int s i t,λ_ e=>nomatch e⟩
 | ref p =>
  cases r;rcases ty with⟨rfl,xs,hq⟩ | ⟨rfl,o,hk,hc,hd⟩ | ⟨rfl,hk⟩ | ⟨rfl,S,n,hk⟩
  ·obtain⟨aB,_,pl,_⟩:=I.list hq;refine⟨pl.isList.typeIs,λa e=>?_⟩;cases e;obtain⟨o,n,e,c,hd,_⟩:=pl;exact⟨o,e,hd⟩
  ·refine⟨⟨o,I.dW p o hk,hc⟩,λa e=>?_⟩;cases e;exact⟨o,I.dW _ o hk,hd⟩
  ·have z:∃o,s.heap.get? p=some o/\o.ExactDict:=by
    rcases hk with⟨aA,hk⟩ | ⟨aA,hk⟩
    ·obtain⟨_,_,_,_,o,_,_,e,ex,_⟩:=I.aK p _ hk;exact⟨o,e,ex⟩
    ·obtain⟨_,_,_,_,o,_,_,e,ex,_⟩:=I.aK p _ hk;exact⟨o,e,ex⟩
   obtain⟨o,e,ex⟩:=z;refine⟨⟨o,e,ex.1⟩,λa e2=>?_⟩;cases e2;exact⟨o,e,ex.2.1⟩
  ·obtain⟨o,_,_,_,e,ex,_⟩:=I.aK p _ hk;refine⟨⟨o,e,ex.1⟩,λa e2=>?_⟩;cases e2;exact⟨o,e,ex.2.1⟩
 | _=>exact False.elim ty
def yZ(K:W.Frag)(T:String)(r:V->List V->Hp->VK->Prop)(to:TE):TE:=λσ H Q=>to σ H λx H1=>rC K T x H1/\r x [] H1 Q
def y9(K:W.Frag)(T:String)(r:V->List V->Hp->VK->Prop)(to:TE)(t:TA):TE:=λσ H Q=>to σ H λx H1=>rC K T x H1/\t σ H1 λxs H2=>r x xs H2 Q
variable{o e:Expr}{es:List Expr}{to:TE}{t:TA}{name:Str}{apos gc:Pos}{T id:String}{r:V->List V->Hp->VK->Prop}
theorem SE(pa:PlainAttrs T)(slot:Slot T name id)(Hg:typeOf (.builtin id)=pure (.type "method_descriptor"))(hm:Sy X id r)(ho:PE X o to)
  (Hh:attributeBase o name X.env (eval o X.env)=eval o X.env:=by rfl) (Hi:(apos.endLine == gc.line)=true:=by rfl):PE X (.Call (.Attribute o name apos) [] [] gc) (yZ X.K T r to):=by
 intro pins s σ H Q I h;refine wpAny_Call_method0_late Hh Hi (aW (ho pins s σ H _ I h) λv s1 ⟨x,H1,I1,r1,zz⟩=>?_);obtain⟨ty,q1⟩:=zz;obtain⟨h1,h2⟩:=SD I1 r1 ty;exact⟨T,id,pa,slot,Hg,h1,h2,FT rfl (PySem.evalArgs_none (hm pins s1 σ H1 x [] v [] Q I1 r1 .nil q1))⟩
theorem lN(pa:PlainAttrs T)(slot:Slot T name id)(Hg:typeOf (.builtin id)=pure (.type "method_descriptor"))(hm:Sy X id r)(ho:PE X o to)(ha:PA X (e::es) t)
  (Hh:attributeBase o name X.env (eval o X.env)=eval o X.env:=by rfl)
  (abY:((backTo gc (starEach (e::es) X.env)).all (λx => !x.1) && (backToKw gc (keywordEach [] X.env)).all (λx=>x.1.isSome)
   && decide ((e::es).length+([]:List Keyword).length+(if ([]:List Keyword).isEmpty then 0 else 1)<30))=true:=by rfl)
  (Hi:(apos.endLine == gc.line)=true:=by rfl) (hs:starEach (e::es) X.env=(false,eval e X.env)::starEach es X.env:=by rfl) (abZ:(backTo gc (starEach es X.env)).any (·.1)=false:=by rfl) :
  PE X (.Call (.Attribute o name apos) (e::es) [] gc) (y9 X.K T r to t):=by
 intro pins s σ H Q I h;refine wpAny_Call_method_late Hh abY Hi rfl (aW (ho pins s σ H _ I h) λv s1 ⟨x,H1,I1,r1,zz⟩=>?_);obtain⟨ty,q1⟩:=zz;obtain⟨h1,h2⟩:=SD I1 r1 ty;refine⟨T,id,pa,slot,Hg,h1,h2,?_⟩;have hA:=ha gc pins s1 σ H1 _ I1 q1;rw[hs] at hA ⊢;refine FT (by show (false || (backTo gc (starEach es X.env)).any (·.1))=false;rw[abZ] <;> rfl) (FU ?_)
 exact aW hA λus s2 ⟨vs,H2,I2,r2,q2⟩=>hm pins s2 σ H2 x vs v us Q I2 r1 r2 q2
end
noncomputable def CJ(X:Cx)(id:String)(r:V->List V->Hp->VK->Prop):Prop :=
 ∀(pins:List (Addr×Obj)) (s:Shared) (σ:St) (H:Hp) (x:V) (xs:List V) (v:Value) (us:List Value) (Q:VK),Inv X pins σ H s->RelV x v->Vals xs us->r x xs H Q->
  wpAny (model X.prog X.w) X.A (call (.builtin id) (v::us)) (EP X pins σ Q) X.xe s
theorem Vals.one:∀ {x:V} {us:List Value},Vals [x] us->∃u,us = [u]/\RelV x u:=by
 intro x us h;cases h with
 | cons r t=>cases t;exact⟨_,rfl,r⟩
theorem Vals.zero:∀ {us:List Value},Vals [] us->us = []
 | _,.nil=>rfl
theorem Vals.dropLast{xs:List V}{us:List Value}(h:Vals xs us):Vals xs.dropLast us.dropLast:=by
 induction h with
 | nil=>exact .nil
 | cons r t ih =>
  cases t with
  | nil=>exact .nil
  | cons q t'=>exact .cons r ih
theorem Vals.reverse{xs:List V}{us:List Value}(h:Vals xs us):Vals xs.reverse us.reverse:=by
 induction h with
 | nil=>exact .nil
 | cons r t ih=>rw[Gq,Gq];exact Vals.append ih (.cons r .nil)
theorem Vals.rep{xs:List V}{us:List Value}(h:Vals xs us):∀k:Nat,Vals (List.replicate k xs).flatten (List.replicate k us).flatten
 | 0=>.nil
 | k+1=>by
  rw[pS,pS,ve,ve];exact Vals.append h (Vals.rep h k)
theorem ab0{α:Type}(l:List α):l.eraseIdx (l.length - 1)=l.dropLast:=by
 induction l with
 | nil=>rfl
 | cons a r ih =>
  cases r with
  | nil=>rfl
  | cons b r =>
   have e:(a::b::r).length - 1=((b::r).length - 1)+1:=by
    have h1:(a::b::r).length=r.length+2:=rfl;have h2:(b::r).length=r.length+1:=rfl;lia
   rw[e,List.eraseIdx_cons_succ,ih]
   all_goals rfl
theorem foldl_rep(aB:List Value):∀(k:Nat) (acc:List Value),
  List.foldl (λx1 x2=>x1++x2) acc.toArray (List.replicate k aB.toArray)=(acc++(List.replicate k aB).flatten).toArray
 | 0,acc=>by simp
 | k+1,acc=>by
  have e:acc.toArray++aB.toArray=(acc++aB).toArray:=by simp
  have e2:(acc++aB)++(List.replicate k aB).flatten=acc++(List.replicate (k+1) aB).flatten:=by
   rw[pS,ve,sM]
  rw[← e2,← foldl_rep aB k (acc++aB),← e,pS,oh]
section
variable{X:Cx}{pins:List (Addr×Obj)}{σ:St}{H:Hp}{s:Shared}{l b:Addr}{xs ys zs:List V}
theorem Inv.fJ{aB its':List Value}{n:Nat}{f:Array Value->Array Value}{t':Nat}(I:Inv X pins σ H s)(hH:H l=some (.lst xs))
  (e:s.heap.get? l=some { cls:=.type "list",data:=.seq aB.toArray n }) (hf:f aB.toArray=its'.toArray) (hv:Vals ys its') (hz:ys.length<=sizeLine) :
  Inv X pins σ (upd H l (.lst ys)) { s with heap:=s.heap.update l (Obj.mapSeq f),toks:=t' }:=by
 have q:=PySem.IsL.update e f;rw[hf] at q;refine I.write (x:=l) (e:=l) (by rw[hH];exact trivial) (.inl rfl) (λb' u hb hu=>(Heap.get?_update_other s.heap (Obj.mapSeq f) (f_ hb)).trans hu) ⟨_,q⟩ ?_
 exact⟨hz,its',_,hv,q⟩
theorem Inv.SG{aB:List Value}{t':Nat}(I:Inv X pins σ H s)(hv:Vals ys aB)(hz:ys.length<=sizeLine) :
  Inv X pins σ (upd H s.heap.objs.size (.lst ys)) { s with heap:=s.heap.push { cls:=.type "list",data:=.seq aB.toArray },toks:=t' } :=
 I.laid (λ_ _ q=>dg _ q) (bH _) ⟨hz,aB,0,hv,fU _ rfl⟩
theorem Inv.fresh(I:Inv X pins σ H s):H s.heap.objs.size=none:=I.aK.fresh (bH _)
theorem Inv.rD(I:Inv X pins σ H s)(hH:H l=some (.lst xs)):xs.length<=sizeLine/\∃(aB:List Value) (n:Nat),Vals xs aB/\xs.length=aB.length/\s.heap.get? l=some { cls:=.type "list",data:=.seq aB.toArray n }:=by
 obtain⟨z,aB,n,r,e⟩:=I.aK l _ hH;exact⟨z,aB,n,r,r.length,e⟩
theorem SH{n:Nat}(h:n<=sizeLine):Builtin.List.listTooLong n=false:=by
 unfold Builtin.List.listTooLong;exact kI (by lia)
end
section
variable{X:Cx}
def y_:V->List V->Hp->VK->Prop:=λx vs H Q=>∃l xs y,x = .ref l/\vs = [y]/\H l=some (.lst xs)/\xs.length<sizeLine/\Q .aO (upd H l (.lst (xs++[y])))
theorem lO:CJ X "list.append" y_:=by
 intro pins s σ H x vs v us Q I rx rv h;obtain⟨l,xs,y,rfl,rfl,hH,hz,q⟩:=h;cases rx;obtain⟨u,rfl,ru⟩:=rv.one;obtain⟨z,aB,n,r,hl,e⟩:=I.rD hH;refine vm F.slot_list_append ⟨_,e,rfl⟩ F.entry_list_append (F.args_list_append_2 _ _) (PySem.list_append l aB.toArray n u (by rw[f9];lia)) ⟨e,?_⟩
 refine⟨.aO,_,I.fJ (its':=aB++[u]) hH e (by simp) (r.append (.cons ru .nil)) ?_,rfl,q⟩
 rw[fE,vf];lia
def zb:V->List V->Hp->VK->Prop:=λx vs H Q=>∃l b xs zs,x = .ref l/\vs = [.ref b]/\H l=some (.lst xs)/\H b=some (.lst zs)/\xs.length+zs.length<=sizeLine/\Q .aO (upd H l (.lst (xs++zs)))
theorem ab1:CJ X "list.extend" zb:=by
 intro pins s σ H x vs v us Q I rx rv h;obtain⟨l,b,xs,zs,rfl,rfl,hH,hB,hz,q⟩:=h;cases rx;obtain⟨u,rfl,ru⟩:=rv.one;cases ru;obtain⟨z,aB,n,r,hl,e⟩:=I.rD hH;obtain⟨z2,dH,n2,r2,rE,e2⟩:=I.rD hB;have hsz:aB.toArray.size+dH.toArray.size<=sizeLine:=by rw[f9,f9];lia
 have Hj:¬ (!aB.toArray.isEmpty && Builtin.List.listTooLong (aB.toArray.size+dH.toArray.size))=true:=by
  rw[SH hsz,Bool.and_false];exact eS
 refine vm F.slot_list_extend ⟨_,e,rfl⟩ F.entry_list_extend (F.args_list_extend_2 _ _)
  (AutoSeq1.list_extend_list_list_0 l aB.toArray n b dH.toArray n2 Hj (by rw[f9];lia) (by lia)) ⟨e,e2,?_⟩
 refine⟨.aO,_,I.fJ (its':=aB++dH) hH e (by simp) (r.append r2) ?_,rfl,q⟩
 rw[fE];lia
def zd:V->List V->Hp->VK->Prop:=λx vs H Q=>∃l xs y,x = .ref l/\vs = []/\H l=some (.lst xs)/\xs[xs.length - 1]? = some y/\Q y (upd H l (.lst xs.dropLast))
theorem ab3:CJ X "list.pop" zd:=by
 intro pins s σ H x vs v us Q I rx rv h;obtain⟨l,xs,y,rfl,rfl,hH,hy,q⟩:=h;cases rx;have qh:=rv.zero;subst qh;obtain⟨z,aB,n,r,hl,e⟩:=I.rD hH;obtain⟨u,hu,ru⟩:=r.get hy;have vX:aB.toArray[aB.toArray.size - 1]? = some u:=by
  show aB.toArray[aB.length - 1]? = some u;rw[← xJ,← hl];exact hu
 refine vm F.slot_list_pop ⟨_,e,rfl⟩ F.entry_list_pop (F.args_list_pop_1 _) (MeetsSeq.list_pop_last l aB.toArray n u vX (by rw[f9];lia)) ⟨e,?_⟩
 refine⟨y,_,I.fJ (its':=aB.dropLast) hH e ?_ r.dropLast ?_,ru,q⟩
 ·show aB.toArray.eraseIdxIfInBounds (aB.toArray.size - 1)=aB.dropLast.toArray;rw[f9,List.eraseIdxIfInBounds_toArray,ab0]
 ·rw[List.length_dropLast];lia
def ze:V->List V->Hp->VK->Prop:=λx vs H Q=>∃l xs,x = .ref l/\vs = []/\H l=some (.lst xs)/\Q .aO (upd H l (.lst []))
theorem ab4:CJ X "list.clear" ze:=by
 intro pins s σ H x vs v us Q I rx rv h;obtain⟨l,xs,rfl,rfl,hH,q⟩:=h;cases rx;have qh:=rv.zero;subst qh;obtain⟨z,aB,n,r,hl,e⟩:=I.rD hH;refine vm F.slot_list_clear ⟨_,e,rfl⟩ F.entry_list_clear (F.args_list_clear_1 _) (AutoSeq1.list_clear_list_0 l aB.toArray n (by rw[f9];lia)) ⟨e,?_⟩
 exact⟨.aO,_,I.fJ (its':=[]) (ys:=[]) hH e rfl .nil (eF _),rfl,q⟩
def zf:R2:=λx y H Q=>∃l b xs zs,x = .ref l/\y = .ref b/\H l=some (.lst xs)/\H b=some (.lst zs)/\xs.length+zs.length<=sizeLine/\∀p,H p=none->Q (.ref p) (upd H p (.lst (xs++zs)))
theorem vY:cB X (binaryOp .Add) zf:=by
 intro pins s σ H x y v u Q I rx ry h;obtain⟨l,b,xs,zs,rfl,rfl,hH,hB,hz,q⟩:=h;cases rx;cases ry;obtain⟨z,aB,n,r,hl,e⟩:=I.rD hH;obtain⟨z2,dH,n2,r2,rE,e2⟩:=I.rD hB;refine PySem.P.add_list e e2 ?_ (by rw[f9,f9];lia)
 have ea:aB.toArray++dH.toArray=(aB++dH).toArray:=by simp
 rw[ea];exact⟨.ref _,_,I.SG (t':=s.toks) (r.append r2) (by rw[fE];lia),rfl,q _ I.fresh⟩
def zg:R2:=λx y H Q=>∃l k xs,x = .ref l/\y = .int k/\H l=some (.lst xs)/\-(2 ^ 63)<=k/\k<2 ^ 63/\xs.length*k.toNat<=sizeLine/\
 ∀p,H p=none->Q (.ref p) (upd H p (.lst (List.replicate k.toNat xs).flatten))
theorem len_rep{α:Type}(xs:List α)(k:Nat):(List.replicate k xs).flatten.length=k*xs.length:=by
 induction k with
 | zero=>simp
 | succ k ih=>rw[pS,ve,fE,ih,Nat.succ_mul,Nat.add_comm]
theorem SI:cB X (binaryOp .Mult) zg:=by
 intro pins s σ H x y v u Q I rx ry h;obtain⟨l,k,xs,rfl,rfl,hH,h1,h2,hz,q⟩:=h;cases rx;obtain⟨t,rfl⟩:=ry;obtain⟨z,aB,n,r,hl,e⟩:=I.rD hH;have hlen:aB.toArray.size*k.toNat<=sizeLine:=by rw[f9,← hl];exact hz
 have ab5:¬ aB.toArray.size*k.toNat > (2 ^ 63 - 1) / 8:=by
  have:(sizeLine:Nat)<=(2 ^ 63 - 1) / 8:=by decide
  lia
 have ab6:¬ (!Builtin.List.listFitsIndex k)=true:=by
  rw[fitsIndex_both h1 h2];exact eS
 have Hj:¬ Builtin.List.listTooLong (aB.toArray.size*k.toNat)=true:=by
  rw[SH hlen];exact eS
 have zh:List.foldl (λx1 x2=>x1++x2) #[] (List.replicate (if aB.toArray.isEmpty=true then 0 else k.toNat) aB.toArray)=(List.replicate k.toNat aB).flatten.toArray:=by
  have f0:∀m:Nat,List.foldl (λx1 x2=>x1++x2) #[] (List.replicate m aB.toArray)=(List.replicate m aB).flatten.toArray:=λm=>by
   have:=foldl_rep aB m [];rw[List.nil_append] at this;exact this
  rw[f0];cases aB with
  | nil=>simp
  | cons a r'=>rw[if_neg (by simp)]
 refine wpAny_binaryOp_repeat_ref (T := "list") (U := "int") (by decide) ⟨_,e,rfl⟩ (λs'=>typeIs_int s' k t) noFill_list_mul F.fills_int_mul F.slot_int_rmul repeat_list F.slot_int_index.lookup
  (vm F.slot_int_rmul (typeIs_int s k t) F.entry_int_rmul (F.args_int_rmul_2 _ _) (int___rmul___int_list k t l aB.toArray n)
   ⟨e,rfl,⟨_,e,rfl⟩,vm F.slot_list_mul ⟨_,e,rfl⟩ F.entry_list_mul (F.args_list_mul_2 _ _) (AutoListH.list___mul___list_int_3 l aB.toArray n k t ab6 ab5 Hj) ⟨e,?_⟩⟩)
 rw[zh];exact⟨.ref _,_,I.SG (t':=s.toks) (r.rep k.toNat) (by rw[len_rep,Nat.mul_comm];exact hz),rfl,q _ I.fresh⟩
end
section
variable{prog:Program}{w:World}{A:Around}{E:Value->Shared->Prop}{s:Shared}
end
section
variable{X:Cx}
end
section
variable{κ:Type}[DecidableEq κ]
noncomputable def c8(aA:List (κ×V))(k:κ):Option V:=(aA.find? λkv=>decide (kv.1=k)).map (·.2)
noncomputable def putK(aA:List (κ×V))(k:κ)(v:V):List (κ×V) :=
 if (aA.any λkv=>decide (kv.1=k))=true then aA.map (λkv=>if kv.1=k then(kv.1,v) else kv) else aA++[(k,v)]
theorem lP{p:κ×V}{r:List (κ×V)}{k:κ}(e:p.1=k):c8 (p::r) k=some p.2:=by simp[c8,List.find?_cons,e]
theorem kQ{p:κ×V}{r:List (κ×V)}{k:κ}(e:¬ p.1=k):c8 (p::r) k=c8 r k:=by simp[c8,List.find?_cons,e]
theorem vZ(k:κ):∀aA:List (κ×V),(aA.any λkv=>decide (kv.1=k))=(c8 aA k).isSome
 | []=>rfl
 | p::r=>by
  rw[vd];by_cases e:p.1=k
  ·simp only[lP e,decide_eq_true e,Bool.true_or,Option.isSome_some]
  ·rw[kQ e,kI e,Bool.false_or];exact vZ k r
theorem SJ(k j:κ)(y:V):∀aA:List (κ×V),c8 (aA.map λkv=>if kv.1=k then(kv.1,y) else kv) j=(c8 aA j).map λx=>if j=k then y else x
 | []=>rfl
 | p::r=>by
  have ih:=SJ k j y r;rw[dM];by_cases h:p.1=k
  ·rw[if_pos h];by_cases e:p.1=j
   ·rw[lP (p:=(p.1,y)) e,lP e,BR,if_pos (e.symm.trans h)]
   ·rw[kQ (p:=(p.1,y)) e,kQ e,ih]
  ·rw[if_neg h];by_cases e:p.1=j
   ·rw[lP (p:=p) e,lP e,BR,if_neg (λz=>h (e.trans z))]
   ·rw[kQ (p:=p) e,kQ e,ih]
theorem SK(k j:κ)(y:V):∀aA:List (κ×V),c8 aA k=none->c8 (aA++[(k,y)]) j=if j=k then some y else c8 aA j
 | [],_=>by
  by_cases e:k=j
  ·rw[if_pos e.symm];exact lP (p:=(k,y)) e
  ·rw[if_neg (λz=>e z.symm)];exact kQ (p:=(k,y)) e
 | p::r,hn=>by
  rw[pO];have hk:¬ p.1=k:=λz=>by rw[lP z] at hn;cases hn
  rw[kQ hk] at hn;have ih:=SK k j y r hn;by_cases e:p.1=j
  ·rw[lP e,lP e,if_neg (λz=>hk (e.trans z))]
  ·rw[kQ e,kQ e,ih]
theorem Hl(aA:List (κ×V))(k j:κ)(y:V):c8 (putK aA k y) j=if j=k then some y else c8 aA j:=by
 unfold putK;by_cases a:(aA.any λkv=>decide (kv.1=k))=true
 ·rw[if_pos a,SJ];rw[vZ] at a;by_cases e:j=k
  ·obtain⟨x,hx⟩:=qT.mp a;rw[if_pos e,e,hx,BR,if_pos rfl]
  ·rw[if_neg e];cases c8 aA j with
   | none=>rfl
   | some x=>rw[BR,if_neg e]
 ·rw[if_neg a];refine SK k j y aA ?_;rw[vZ] at a;cases q:c8 aA k with
  | none=>rfl
  | some x=>rw[q] at a;exact(a rfl).elim
theorem Ho(aA:List (κ×V))(k:κ)(v:V):(putK aA k v).length<=aA.length+1:=by
 unfold putK;split
 ·rw[aR];lia
 ·rw[fE,eY,List.length_nil];lia
theorem SM{aA:List (κ×V)}{k:κ}(v:V)(h:c8 aA k=none):putK aA k v=aA++[(k,v)]:=by
 unfold putK;rw[vZ,h];exact if_neg (by decide)
theorem iw.zj{o:Option V}{u:Option Value}(r:iw o u):o.isSome=u.isSome:=by
 cases o with
 | none=>cases u with
  | none=>rfl
  | some _=>exact(show False from r).elim
 | some _=>cases u with
  | none=>exact(show False from r).elim
  | some _=>rfl
theorem iw.getD{o:Option V}{u:Option Value}{d:V}{d':Value}(r:iw o u)(rd:RelV d d'):RelV (o.getD d) (u.getD d'):=by
 cases o with
 | none=>cases u with
  | none=>exact rd
  | some _=>exact(show False from r).elim
 | some _=>cases u with
  | none=>exact(show False from r).elim
  | some _=>exact r
theorem KV.val{aA:List (κ×V)}{vs:List (κ×Value)}(r:KV aA vs)(k:κ):iw (c8 aA k) (valueAt vs k):=by
 unfold KV at r
 induction r with
 | nil=>exact True.intro
 | @cons p q ps qs h t ih =>
  obtain⟨h1,h2⟩:=h;by_cases e:p.1=k
  ·have e':q.1=k:=h1.symm.trans e;have b:valueAt (q::qs) k=some q.2:=by simp[valueAt,List.find?_cons,e']
   rw[lP e,b];exact h2
  ·have e':¬ q.1=k:=λz=>e (h1.trans z);have b:valueAt (q::qs) k=valueAt qs k:=by simp[valueAt,List.find?_cons,e']
   rw[kQ e,b];exact ih
theorem KV.any{aA:List (κ×V)}{vs:List (κ×Value)}(r:KV aA vs)(k:κ):(aA.any λkv=>decide (kv.1=k))=vs.any λkv=>decide (kv.1=k):=by
 unfold KV at r
 induction r with
 | nil=>rfl
 | cons h t ih=>rw[vd,vd,ih,h.1]
theorem KV.Hq{aA:List (κ×V)}{vs:List (κ×Value)}(r:KV aA vs)(k:κ){y:V}{u:Value}(ry:RelV y u) :
  KV (aA.map λkv=>if kv.1=k then(kv.1,y) else kv) (vs.map λkv=>if kv.1=k then(kv.1,u) else kv):=by
 unfold KV at r ⊢
 induction r with
 | nil=>exact .nil
 | @cons p q ps qs h t ih =>
  rw[dM,dM];refine .cons ?_ ih;obtain⟨h1,h2⟩:=h;by_cases e:p.1=k
  ·rw[if_pos e,if_pos (h1.symm.trans e)];exact⟨h1,ry⟩
  ·rw[if_neg e,if_neg (λz=>e (h1.trans z))];exact⟨h1,h2⟩
theorem KV.put{aA:List (κ×V)}{vs:List (κ×Value)}(r:KV aA vs)(k:κ){y:V}{u:Value}(ry:RelV y u):KV (putK aA k y) (stored vs k u):=by
 unfold putK stored;rw[r.any k];by_cases e:(vs.any λkv=>decide (kv.1=k))=true
 ·rw[if_pos e,if_pos e];exact r.Hq k ry
 ·rw[if_neg e,if_neg e];exact Paired.snoc r ⟨rfl,ry⟩
theorem KV.length{aA:List (κ×V)}{vs:List (κ×Value)}(r:KV aA vs):aA.length=vs.length:=BS r
end
theorem v_{P:Program}{w:World}{k:Key}{u:Value}(r:RelV (kV k) u):(eU P w).is k u=true:=by
 cases k with
 | inl i=>obtain⟨t,e⟩:=(show ∃t,u=Value.int i t from r);subst e;exact aaZ P w i t
 | inr x=>obtain⟨t,e⟩:=(show ∃t,u=Value.str x t from r);subst e;exact aa0 P w x t
theorem SN{P:Program}{w:World}:∀ {ks:List Key} {us:List Value},Vals (ks.map kV) us->ItemsAre (eU P w) ks us
 | [],_,r=>by rw[List.map_nil] at r;cases r;exact .nil
 | k::ks,_,r=>by
  rw[dM] at r;cases r with
  | cons h t=>exact .cons (v_ h) (SN t)
noncomputable abbrev KT(H:Hp):List (List Key×V)->List (List Key×Addr×Value)->Prop:=Paired λp q=>p.1=q.1/\H q.2.1=some (.tup (p.1.map kV))/\RelV p.2 q.2.2
theorem KT.val{H:Hp}{aA:List (List Key×V)}{xs:List (List Key×Addr×Value)}(r:KT H aA xs)(k:List Key):iw (c8 aA k) ((atKey xs k).map (·.2)):=by
 induction r with
 | nil=>exact True.intro
 | @cons p q ps qs h t ih =>
  obtain⟨h1,_,h2⟩:=h;by_cases e:p.1=k
  ·have e':q.1=k:=h1.symm.trans e;have b:atKey (q::qs) k=some q.2:=by simp[atKey,List.find?_cons,e']
   rw[lP e,b];exact h2
  ·have e':¬ q.1=k:=λz=>e (h1.trans z);have b:atKey (q::qs) k=atKey qs k:=by simp[atKey,List.find?_cons,e']
   rw[kQ e,b];exact ih
theorem KT.Hq{H:Hp}{aA:List (List Key×V)}{xs:List (List Key×Addr×Value)}(r:KT H aA xs)(k:List Key){y:V}{u:Value}(ry:RelV y u) :
  KT H (aA.map λkv=>if kv.1=k then(kv.1,y) else kv) (xs.map (putAt k u)):=by
 induction r with
 | nil=>exact .nil
 | @cons p q ps qs h t ih =>
  rw[dM,dM];refine .cons ?_ ih;obtain⟨h1,h2,h3⟩:=h;unfold putAt;by_cases e:p.1=k
  ·rw[if_pos e,if_pos (h1.symm.trans e)];exact⟨h1,h2,ry⟩
  ·rw[if_neg e,if_neg (λz=>e (h1.trans z))];exact⟨h1,h2,h3⟩
theorem KT.put{H:Hp}{aA:List (List Key×V)}{xs:List (List Key×Addr×Value)}(r:KT H aA xs)(k:List Key){b:Addr}{y:V}{u:Value}(hb:H b=some (.tup (k.map kV)))(ry:RelV y u) :
  KT H (putK aA k y) (storedH xs k b u):=by
 have e:(aA.any λkv=>decide (kv.1=k))=(atKey xs k).isSome:=by
  rw[vZ,(r.val k).zj,Gu]
 unfold putK storedH;rw[e];by_cases q:(atKey xs k).isSome=true
 ·rw[if_pos q,if_pos q];exact r.Hq k ry
 ·rw[if_neg q,if_neg q];exact Paired.snoc r ⟨rfl,hb,ry⟩
theorem KT.keeps{H H':Hp}{aA:List (List Key×V)}{xs:List (List Key×Addr×Value)}(r:KT H aA xs)(ht:∀b ys,H b=some (.tup ys)->H' b=some (.tup ys)):KT H' aA xs :=
 Paired.Rz r λ_ _ z=>⟨z.1,ht _ _ z.2.1,z.2.2⟩
section
variable{P:Program}{w:World}{H:Hp}{h:Heap}{a:Addr}
theorem SO{u:HO}(ok:cQ P w H h)(e:Rd H a u):dU P w H h a u:=e.ok ok
theorem tY{aA:List (Key×V)}(ok:cQ P w H h)(e:Rd H a (.dK aA)):aA.length<=sizeLine/\(a == sysModules)=false/\∃vs,KV aA vs/\h.DictOf (eU P w) a vs :=
 show dU P w H h a (.dK aA) from SO ok e
theorem ab7{aA:List (Key×V)}(ok:cQ P w H h)(e:H a=some (.dK aA)):aA.length<=sizeLine/\(a == sysModules)=false/\∃vs,KV aA vs/\h.DictOf (eU P w) a vs:=tY ok (.inl e)
theorem wc{ks:List Key}(ok:cQ P w H h)(e:H a=some (.tup (ks.map kV))):(tupleKind (eU P w)).is h ks a:=by
 obtain⟨_,aB,r,o,h1,h2,n,h3⟩:=(show dU P w H h a (.tup (ks.map kV)) from ok a _ e);exact⟨o,aB.toArray,n,h1,h2,h3,by simpa using SN r⟩
theorem tZ{aA:List (List Key×V)}(ok:cQ P w H h)(e:Rd H a (.dT aA)):aA.length<=sizeLine/\(a == sysModules)=false/\
  ∃xs,KT H aA xs/\h.DictOfH (tupleKind (eU P w)) a xs:=by
 obtain⟨z,y,xs,r,o,es,ep,h1,h2,h3,h4,h5⟩:=(show dU P w H h a (.dT aA) from SO ok e);refine⟨z,y,xs,r,o,es,ep,h1,h2,h3,h4,λx hx=>?_,h5⟩;have all:∀ {l:List (List Key×V)} {m:List (List Key×Addr×Value)},KT H l m->∀x∈m,(tupleKind (eU P w)).is h x.1 x.2.1:=by
  intro l m q
  induction q with
  | nil=>intro x hx;exact nomatch hx
  | @cons p q ps qs hq t ih =>
   intro x hx;rcases cE.mp hx with e | hx
   ·subst e;exact wc ok (by rw[← hq.1];exact hq.2.1)
   ·exact ih x hx
 exact all r x hx
theorem Hr{aA:List (List Key×V)}(ok:cQ P w H h)(e:H a=some (.dT aA)):aA.length<=sizeLine/\(a == sysModules)=false/\
  ∃xs,KT H aA xs/\h.DictOfH (tupleKind (eU P w)) a xs:=tZ ok (.inl e)
end
noncomputable def gf(H:Hp)(a:Addr)(y:V)(r:Option V):Prop :=
 (∃aA k,Rd H a (.dK aA)/\y=kV k/\r=c8 aA k)\/∃aA k b,Rd H a (.dT aA)/\y = .ref b/\H b=some (.tup (k.map kV))/\r=c8 aA k
noncomputable def lQ(H:Hp)(a:Addr)(y v:V)(H':Hp):Prop :=
 (∃aA k,H a=some (.dK aA)/\y=kV k/\aA.length<sizeLine/\H' = upd H a (.dK (putK aA k v)))\/
 ∃aA k b,H a=some (.dT aA)/\y = .ref b/\H b=some (.tup (k.map kV))/\aA.length<sizeLine/\H' = upd H a (.dT (putK aA k v))
theorem gf.k{H:Hp}{a:Addr}{aA:List (Key×V)}{k:Key}(e:H a=some (.dK aA)):gf H a (kV k) (c8 aA k):=.inl ⟨aA,k,.inl e,rfl,rfl⟩
theorem gf.t{H:Hp}{a b:Addr}{aA:List (List Key×V)}{k:List Key}(e:H a=some (.dT aA))(eb:H b=some (.tup (k.map kV))):gf H a (.ref b) (c8 aA k):=.inr ⟨aA,k,b,.inl e,rfl,eb,rfl⟩
theorem lQ.k{H:Hp}{a:Addr}{aA:List (Key×V)}{k:Key}{v:V}(e:H a=some (.dK aA))(hl:aA.length<sizeLine):lQ H a (kV k) v (upd H a (.dK (putK aA k v))):=.inl ⟨aA,k,e,rfl,hl,rfl⟩
theorem lQ.t{H:Hp}{a b:Addr}{aA:List (List Key×V)}{k:List Key}{v:V}(e:H a=some (.dT aA))(eb:H b=some (.tup (k.map kV)))(hl:aA.length<sizeLine) :
  lQ H a (.ref b) v (upd H a (.dT (putK aA k v))):=.inr ⟨aA,k,b,e,rfl,eb,hl,rfl⟩
section
variable{X:Cx}{pins:List (Addr×Obj)}{σ:St}{H:Hp}{s:Shared}{a:Addr}{y v:V}{u r:Value}{o:Option V}{A:Around}{E:Value->Shared->Prop}
theorem Inv.big(I:Inv X pins σ H s):sysModules<s.heap.objs.size:=by
 have h:mainGlobals<s.heap.objs.size:=(I.mod.glob.keeps I.bk).lt;exact kH (by decide) h
theorem ab8{Q:Value->Shared->Prop}(hu:A.units+1<cLine)(I:Inv X pins σ H s)(g:gf H a y (some v))(ry:RelV y u)(h:∀w' s',Inv X pins σ H s'->RelV v w'->Q w' s') :
  wpAny (model X.prog X.w) A (getItem (.ref a) u) Q E s:=by
 rcases g with⟨aA,k,e,ey,l⟩ | ⟨aA,k,b,e,ey,eb,l⟩
 ·subst ey;obtain⟨z,hd,vs,rel,dd⟩:=tY I.aK e;obtain⟨w',hw,mX⟩:=iw.some_of (v:=v) (o:=valueAt vs k) (by rw[l];exact rel.val k)
  exact wpAny_getItem_of (v_ ry) dd.mapOf hw (h w' _ (I.tok _) mX)
 ·subst ey;cases (show u=Value.ref b from ry);obtain⟨z,hd,xs,rel,dd⟩:=tZ I.aK e;obtain⟨w',hw,mX⟩:=iw.some_of (v:=v) (o:=(atKey xs k).map (·.2)) (by rw[l];exact rel.val k)
  obtain⟨p,hp,gX⟩:=Option.map_eq_some_iff.mp hw;refine wpAny_getItem_heap (xY hu) (wc I.aK eb) dd hp ?_;rw[gX];exact h w' _ (I.tok _) mX
theorem ab9{Q:Value->Shared->Prop}(hu:A.units+1<cLine)(I:Inv X pins σ H s)(g:gf H a y o)(ry:RelV y u)(h:∀s',Inv X pins σ H s'->Q (.bool o.isSome) s') :
  wpAny (model X.prog X.w) A (compareOp .In u (.ref a)) Q E s:=by
 rcases g with⟨aA,k,e,ey,l⟩ | ⟨aA,k,b,e,ey,eb,l⟩
 ·subst ey;obtain⟨z,hd,vs,rel,dd⟩:=tY I.aK e;refine wpAny_in_of (v_ ry) hd dd.mapOf ?_;rw[← (rel.val k).zj,← l];exact h _ (I.tok _)
 ·subst ey;cases (show u=Value.ref b from ry);obtain⟨z,hd,xs,rel,dd⟩:=tZ I.aK e;refine wpAny_in_heap (xY hu) (wc I.aK eb) hd dd ?_;have q:=(rel.val k).zj;rw[Gu] at q;rw[← q,← l];exact h _ (I.tok _)
theorem ab_{Q:Value->Shared->Prop}(hu:A.units+1<cLine)(I:Inv X pins σ H s)(g:gf H a y o)(ry:RelV y u)(h:∀s',Inv X pins σ H s'->Q (.bool (!o.isSome)) s') :
  wpAny (model X.prog X.w) A (compareOp .NotIn u (.ref a)) Q E s:=by
 rcases g with⟨aA,k,e,ey,l⟩ | ⟨aA,k,b,e,ey,eb,l⟩
 ·subst ey;obtain⟨z,hd,vs,rel,dd⟩:=tY I.aK e;refine wpAny_notIn_of (v_ ry) hd dd.mapOf ?_;rw[← (rel.val k).zj,← l];exact h _ (I.tok _)
 ·subst ey;cases (show u=Value.ref b from ry);obtain⟨z,hd,xs,rel,dd⟩:=tZ I.aK e;refine wpAny_notIn_heap (xY hu) (wc I.aK eb) hd dd ?_;have q:=(rel.val k).zj;rw[Gu] at q;rw[← q,← l];exact h _ (I.tok _)
theorem SQ{h':Heap}{t':Nat}{ob:HO}(I:Inv X pins σ H s)(mu:x6 (H a))(hs:Heap.SameBut a s.heap h')(he:∃q,h'.get? a=some q)(new:dU X.prog X.w (upd H a ob) h' a ob) :
  Inv X pins σ (upd H a ob) { s with heap:=h',toks:=t' } :=
 I.write (x:=a) (e:=a) mu (.inl rfl) (λb q hb z=>(hs.2 b hb).trans z) he new
theorem acd{P:Program}{w:World}{H':Hp}{h':Heap}{aA:List (Key×V)}{vs:List (Key×Value)}(z:aA.length<=sizeLine)(hd:(a == sysModules)=false)(rel:KV aA vs)(dd:h'.DictOf (eU P w) a vs) :
  dU P w H' h' a (.dK aA):=⟨z,hd,vs,rel,dd⟩
theorem ace{H':Hp}{Q:Unit->Shared->Prop}(hu:A.units+1<cLine)(I:Inv X pins σ H s)(g:lQ H a y v H')(ry:RelV y u)(rv:RelV v r)(h:∀s',Inv X pins σ H' s'->Q () s') :
  wpAny (model X.prog X.w) A (setItem (.ref a) u r) Q E s:=by
 rcases g with⟨aA,k,e,ey,l,eH⟩ | ⟨aA,k,b,e,ey,eb,l,eH⟩
 ·subst ey eH;obtain⟨z,hd,vs,rel,dd⟩:=ab7 I.aK e;have hz:vs.length<=sizeLine:=by rw[← rel.length];exact z
  have hl:(putK aA k v).length<=sizeLine:=by have:=Ho aA k v;lia
  refine wpAny_setItem_pairs (hsz:=hz) (v_ ry) dd λh' we hs=>h _ ?_;have he:∃q,h'.get? a=some q:=let ⟨q,_,_,hq,_⟩:=we;⟨q,hq⟩
  exact SQ I (by rw[e];exact True.intro) hs he (acd hl hd (rel.put k rv) we)
 ·subst ey eH;cases (show u=Value.ref b from ry);obtain⟨z,hd,xs,rel,dd⟩:=Hr I.aK e;have hz:xs.length<=sizeLine:=by rw[← BS rel];exact z
  have hl:(putK aA k v).length<=sizeLine:=by have:=Ho aA k v;lia
  refine wpAny_setItem_heap (hsz:=hz) (xY hu) (wc I.aK eb) dd λh' we hs=>h _ ?_;obtain⟨q,es,ep,hq,h2,h3,h4,_,h5⟩:=we;refine SQ I (by rw[e];exact True.intro) hs ⟨q,hq⟩ ⟨hl,hd,_,(rel.put k eb rv).keeps λc ys ec=>?_,q,es,ep,hq,h2,h3,h4,h5⟩
  rw[aI (iZ ec e (λz=>nomatch z))];exact ec
end
section
variable{X:Cx}{pins:List (Addr×Obj)}{σ:St}{H:Hp}{s:Shared}{a:Addr}{aA:List (Key×V)}{k:Key}{u:Value}{A:Around}{E:Value->Shared->Prop}
end
def SR(i:Expr):Prop:=∀ov iv,subscripted i false ov iv=operate [ov,iv] (getItem ov iv)
theorem acf{prog:Program}{w:World}{A:Around}{E:Value->Shared->Prop}{s:Shared}{env:Env}{value slice:Expr}{pos:Pos}{T id:String}{Q:Value->Shared->Prop}
  (hl:typeLookup (.type T) "__getitem__" = pure (some (.builtin id))) (hs:SR slice)
  (h:wpAny (model prog w) A (eval value env) (λo bq=>wpAny (model prog w) A (eval slice env) (λi jA=>jA.TypeIs o T/\wpAny (model prog w) A (getItem o i) Q E jA) E bq) E s) :
  wpAny (model prog w) A (eval (.Subscript value slice pos) env) Q E s:=by
 refine Subscript_ (eL h (λo bq oJ=>eL oJ (λi jA t_=>?_) λ_ _ x=>x) λ_ _ x=>x);obtain⟨hT,t_⟩:=t_;unfold subscriptTail;refine aM ?_;rw[getitemInPython_of_ne hT.not_modules];refine aM (GC hT hl ?_);have fin:wpAny (model prog w) A (subscripted slice false o i) (λr lR=>wpAny (model prog w) A (letTemporaryGo value o r >>= λ_=>pure r) Q E lR) E jA:=by
  rw[hs o i];exact wpAny_operating (eL t_ (λr lR CK=>aM (wpAny_letTemporaryGo (bL CK))) λ_ _ x=>x)
 first
  | exact bL (aM fin)
  | exact aM (bL (aM fin))
  | exact aM fin
theorem acg{X:Cx}{pins:List (Addr×Obj)}{σ:St}{H:Hp}{s:Shared}{a:Addr}{y:V}{o:Option V}(I:Inv X pins σ H s)(g:gf H a y o):s.TypeIs (.ref a) "dict" := by
 rcases g with⟨aA,k,e,_,_⟩ | ⟨aA,k,b,e,_,_,_⟩
 ·obtain⟨_,_,vs,_,dd⟩:=tY I.aK e;exact dd.typeIs
 ·obtain⟨_,_,xs,_,dd⟩:=tZ I.aK e;exact dd.typeIs
def zm(td ty:TE):TE:=λσ H Q=>td σ H λx H1=>ty σ H1 λy H2=>∃a v,x = .ref a/\gf H2 a y (some v)/\Q v H2
def zo(ty td:TE):TE:=λσ H Q=>ty σ H λy H1=>td σ H1 λx H2=>∃a o,x = .ref a/\gf H2 a y o/\Q (.bl o.isSome) H2
def zq(ty td:TE):TE:=λσ H Q=>ty σ H λy H1=>td σ H1 λx H2=>∃a o,x = .ref a/\gf H2 a y o/\Q (.bl (!o.isSome)) H2
def zu(td ty tv:TE):TS:=λD σ H=>tv σ H λv H1=>td σ H1 λx H2=>ty σ H2 λy H3=>∃a H4,x = .ref a/\lQ H3 a y v H4/\D.nx σ H4
section
variable{X:Cx}{o i e value:Expr}{pos pos' abr:Pos}{td ty tv:TE}
theorem ach(hu:X.A.units+1<cLine)(ho:PE X o td)(hi:PE X i ty)(hs:SR i):PE X (.Subscript o i pos) (zm td ty):=by
 intro pins s σ H Q I h;refine acf PySem.F.slot_dict_getitem.lookup hs (aW (ho pins s σ H _ I h) λu s1 ⟨x,H1,I1,rx,q1⟩=>aW (hi pins s1 σ H1 _ I1 q1) λiv s2 ⟨y,H2,I2,ry,zz⟩=>?_);obtain⟨a,v,ex,g,q2⟩:=zz;subst ex;obtain rfl:u=Value.ref a:=rx;exact⟨acg I2 g,ab8 hu I2 g ry λw' s3 I3 mX=>⟨v,H2,I3,mX,q2⟩⟩
theorem SS(hu:X.A.units+1<cLine)(hi:PE X i ty)(ho:PE X o td):PC X .In i o (zo ty td):=by
 intro pins s σ H Q I h;refine aW (hi pins s σ H _ I h) λiv s1 ⟨y,H1,I1,ry,q1⟩=>aW (ho pins s1 σ H1 _ I1 q1) λu s2 ⟨x,H2,I2,rx,zz⟩=>?_;obtain⟨a,ov,ex,g,q2⟩:=zz;subst ex;obtain rfl:u=Value.ref a:=rx;exact ab9 hu I2 g ry λs3 I3=>⟨.bl ov.isSome,H2,I3,rfl,q2⟩
theorem aci(hu:X.A.units+1<cLine)(hi:PE X i ty)(ho:PE X o td):PC X .NotIn i o (zq ty td):=by
 intro pins s σ H Q I h;refine aW (hi pins s σ H _ I h) λiv s1 ⟨y,H1,I1,ry,q1⟩=>aW (ho pins s1 σ H1 _ I1 q1) λu s2 ⟨x,H2,I2,rx,zz⟩=>?_;obtain⟨a,ov,ex,g,q2⟩:=zz;subst ex;obtain rfl:u=Value.ref a:=rx;exact ab_ hu I2 g ry λs3 I3=>⟨.bl (!ov.isSome),H2,I3,rfl,q2⟩
theorem zw(hu:X.A.units+1<cLine)(ho:PE X o td)(hi:PE X i ty)(hv:PE X value tv)(hs:swapsWith value (some (.Subscript o i pos')) pos.line X.env=pure false) :
  PS X (.Assign [.Subscript o i pos'] value pos) (zu td ty tv):=by
 intro pins s σ H D I h;refine wpAny_Assign_Subscript (aW (hv pins s σ H _ I h) λr s1 ⟨v,H1,I1,rv,q1⟩=>aW (ho pins s1 σ H1 _ I1 q1) λu s2 ⟨x,H2,I2,rx,q2⟩=>aW (hi pins s2 σ H2 _ I2 q2) λiv s3 ⟨y,H3,I3,ry,zz⟩=>?_) hs;obtain⟨a,H4,ex,g,q3⟩:=zz;subst ex;obtain rfl:u=Value.ref a:=rx;exact ace hu I3 g ry rv λs4 I4=>⟨σ,H4,I4,q3⟩
end
theorem acj{P:Program}{w:World}{H:Hp}(h:Heap)(hb:sysModules<h.objs.size):dU P w H (h.push { cls:=.type "dict",data:=.dict #[] }) h.objs.size (.dK []) :=
 ⟨eF _,lC.mpr (f_ (dD hb)),[],.nil,Heap.DictOf.new h⟩
theorem ack{P:Program}{w:World}{H:Hp}(h:Heap)(hb:sysModules<h.objs.size):dU P w H (h.push { cls:=.type "dict",data:=.dict #[] }) h.objs.size (.dT []) :=
 ⟨eF _,lC.mpr (f_ (dD hb)),[],.nil,_,#[],0,fU _ rfl,⟨rfl,rfl,rfl⟩,rfl,rfl,BJ⟩
def zx:TE:=λ_ H Q=>∀p,H p=none->Q (.ref p) (upd H p (.dK []))
def zy:TE:=λ_ H Q=>∀p,H p=none->Q (.ref p) (upd H p (.dT []))
section
variable{X:Cx}{pos:Pos}
theorem acm:PE X (.Dict [] [] pos) zx:=λpins s σ H Q I h =>
 wpAny_Dict_empty ⟨.ref s.heap.objs.size,_,I.laid (a:=s.heap.objs.size) (o:=.dK []) (t':=s.toks) (λ_ _ q=>dg _ q) (bH _) (acj s.heap I.big),rfl,h _ (I.aK.fresh (bH _))⟩
theorem Hs:PE X (.Dict [] [] pos) zy:=λpins s σ H Q I h =>
 wpAny_Dict_empty ⟨.ref s.heap.objs.size,_,I.laid (a:=s.heap.objs.size) (o:=.dT []) (t':=s.toks) (λ_ _ q=>dg _ q) (bH _) (ack s.heap I.big),rfl,h _ (I.aK.fresh (bH _))⟩
end
structure M1(X:Cx)(o:Expr)(m:Str)(apos:Pos)(e:Expr)(gc:Pos):Prop where
 base:attributeBase o m X.env (eval o X.env)=eval o X.env
 CL:((backTo gc (starEach [e] X.env)).all (λx => !x.1) && (backToKw gc (keywordEach [] X.env)).all (λx=>x.1.isSome)
  && decide (([e]:List Expr).length+([]:List Keyword).length+(if ([]:List Keyword).isEmpty then 0 else 1)<30))=true
 line:(apos.endLine == gc.line)=true
 trees:backTo gc (starEach [e] X.env) = [(false,eval e X.env)]
def Ht(H:Hp)(a:Addr):Prop:=(∃aA,Rd H a (.dK aA))\/∃aA,Rd H a (.dT aA)
theorem acn{X:Cx}{pins:List (Addr×Obj)}{σ:St}{H:Hp}{s:Shared}{a:Addr}(I:Inv X pins σ H s)(d:Ht H a) :
  s.TypeIs (.ref a) "dict"/\(∀b,Value.ref a = .ref b->∃ob,s.heap.get? b=some ob/\ob.dict=none)/\(a == sysModules)=false:=by
 rcases d with⟨aA,e⟩ | ⟨aA,e⟩
 ·obtain⟨_,hd,vs,_,dd⟩:=tY I.aK e;refine⟨dd.typeIs,λb q=>?_,hd⟩;cases q;obtain⟨ob,_,_,h1,h2,_⟩:=dd;exact⟨ob,h1,h2.2.1⟩
 ·obtain⟨_,hd,xs,_,dd⟩:=tZ I.aK e;refine⟨dd.typeIs,λb q=>?_,hd⟩;cases q;obtain⟨ob,_,_,h1,h2,_⟩:=dd;exact⟨ob,h1,h2.2.1⟩
section
variable{X:Cx}{pins:List (Addr×Obj)}{σ:St}{H:Hp}{s:Shared}{a:Addr}{y d:V}{u r:Value}{o:Option V}{A:Around}{E:Value->Shared->Prop}
theorem aco{Q:Value->Shared->Prop}(hu:A.units+1<cLine)(I:Inv X pins σ H s)(g:gf H a y o)(ry:RelV y u)(h:∀w' s',Inv X pins σ H s'->RelV (o.getD .aO) w'->Q w' s') :
  wpAny (model X.prog X.w) A (call (.builtin "dict.get") [.ref a,u]) Q E s:=by
 rcases g with⟨aA,k,e,ey,l⟩ | ⟨aA,k,b,e,ey,eb,l⟩
 ·subst ey;obtain⟨z,hd,vs,rel,dd⟩:=tY I.aK e;refine call_meetsIn Gv dd.typeIs PySem.F.entry_dict_get (PySem.F.args_dict_get_2 _ _) (meets_dict_get (eU X.prog X.w) a (v_ ry) hd) ⟨_,dd.mapOf,h _ _ (I.tok _) ?_⟩;rw[l];exact(rel.val k).getD rfl
 ·subst ey;cases (show u=Value.ref b from ry);obtain⟨z,hd,xs,rel,dd⟩:=tZ I.aK e;refine call_meetsIn Gv dd.typeIs PySem.F.entry_dict_get (PySem.F.args_dict_get_2 _ _) (meetsH_dict_get (tupleKind (eU X.prog X.w)) a b hd) ⟨xY hu,k,xs,wc I.aK eb,dd,h _ _ (I.tok _) ?_⟩;rw[l];exact(rel.val k).getD rfl
end
def zA(td ty:TE):TE:=λσ H Q=>td σ H λx H1=>∃a,x = .ref a/\Ht H1 a/\ty σ H1 λy H2=>∃o,gf H2 a y o/\Q (o.getD .aO) H2
section
variable{X:Cx}{o e f:Expr}{apos gc:Pos}{td ty tx:TE}
theorem acp(hu:X.A.units+1<cLine)(ho:PE X o td)(he:PE X e ty)(m:M1 X o "get" apos e gc):PE X (.Call (.Attribute o "get" apos) [e] [] gc) (zA td ty):=by
 intro pins s σ H Q I h;refine wpAny_Call_method m.base m.CL m.line PySem.F.plainAttrs_dict Gv PySem.F.type_dict_get (aW (ho pins s σ H _ I h) λu s1 ⟨x,H1,I1,rx,zz⟩=>?_);obtain⟨a,ex,d,q1⟩:=zz;subst ex;obtain rfl:u=Value.ref a:=rx;obtain⟨t1,t2,_⟩:=acn I1 d;refine⟨t1,t2,?_⟩;rw[m.trees];refine FT rfl (FU (FW (aW (he pins s1 σ H1 _ I1 q1) λiv s2 ⟨y,H2,I2,ry,zz⟩=>FY ?_)));obtain⟨ov,g,q2⟩:=zz;exact aco hu I2 g ry λw' s3 I3 mX=>⟨_,H2,I3,mX,q2⟩
end
section
variable{X:Cx}{pins:List (Addr×Obj)}{σ:St}{H:Hp}{s:Shared}{a:Addr}{aA:List (Key×V)}{A:Around}{E:Value->Shared->Prop}
end
section
variable{X:Cx}{pins:List (Addr×Obj)}{σ:St}{H:Hp}{s:Shared}{a:Addr}{y:V}{u:Value}{A:Around}{E:Value->Shared->Prop}
end
end _L
namespace Hu
open PySem PySem.W PySem.Calls PyProof.Rows
theorem acq{P:Params}{h:Heap}:∀(ns:List Int) (vs:List Value),WellAll P h vs (ns.map WData.int)->IntsAre vs ns:=by
 intro ns
 induction ns with
 | nil =>
  intro vs w;rw[List.map_nil] at w;cases w;exact .nil
 | cons n ns ih =>
  intro vs w;rw[List.map_cons] at w;cases w with
  | cons a b =>
   cases a;exact .cons _ _ (ih _ b)
theorem acr{l:OpenLaw}{n:Nat}(hn:l.most=some n){P:Params}{h:Heap}{args:List WData}{vals:List Value}
  (CM:l.row.toRowW.claim.pre args=true) (uc:WellAll P h vals args) :
  ∃a vs ns,vals = [Value.ref a]/\args = [WData.list (ns.map WData.int)]/\h.get? a=some { cls:=.type "list",data:=.seq vs.toArray }/\IntsAre vs ns/\ns.length<=n:=by
 have hsh:WShape.hasAll [] args [.list .int] = true:=(pre_splitW CM).1;have hc:l.pre.holds [] { args:=args }=true:=(pre_splitW CM).2;obtain⟨d,r,rfl,h1,h2⟩:=hasAllW_cons hsh;obtain rfl:=hasAllW_nil h2;obtain⟨xs,rfl,h3⟩:=hasW_list h1;obtain⟨ns,rfl⟩:=items_int h3;have hlen:ns.length<=n:=by
  unfold OpenLaw.pre at hc;have h4:(WTm.not (.lt (.lit (.int (n:Int))) (.len (.arg 0)))).holds [] { args:=[.list (ns.map .int)] }=true:=by
   have h4:=(holds_andW hc).1;rw[hn] at h4;exact h4
  have h5:=condW_of h4 (w_not (w_lt w_lit (w_len_list (w_arg rfl))));rw[List.length_map] at h5;refine Nat.le_of_not_lt λq=>?_
  have q':(n:Int)<((ns.length:Nat):Int):=by lia
  first
   | (rw[decide_eq_true q'] at h5;exact absurd h5 (by decide))
   | (simp at h5;lia)
 cases uc with
 | cons w1 w2 =>
  cases w2;cases w1 with
  | list ho acs=>exact⟨_,_,ns,rfl,rfl,ho,acq ns _ acs,hlen⟩
theorem acu(l:OpenLaw)(args:List WData):l.row.toRowW.claim.post args (.bool true) args=true :=
 postW_of (r:=l.row.toRowW) (X:=(true == true))
  (show WShape.has [] (.bool true) .bool=true by first | rfl | decide | simp[WShape.has,WShape.arms,WShape.armsAll])
  (show (WTm.eq .res (.lit (.bool true))).value [] { args:=args,res:=some (.bool true),after:=args }=some (.bool (true == true)) from w_eq_bool (w_res rfl) w_lit) rfl
theorem SV{l:OpenLaw}{n:Nat}{q:Program}{loose:List Str}{XP:(Str->Option Value)->Heap->Prop}{YP:World->Heap->Prop}{d:DefRec}
  (hn:l.most=some n) (ue:d.params.defaults = [])
  (call:∀(w:World) (bR bq:Shared) (mg mb:Str->Option Value) (fa:Addr) (o:Obj) (pm cd doc:Value) (a:Addr) (vs:List Value) (ns:List Int),
   Ground q loose [] XP w bR mg mb bq.heap->YP w bq.heap->
   bq.heap.get? fa=some o->o.data = .func (docDef d.name d.params d.body d.scope pm cd doc)->bq.heap.CodeRec cd d.name->mg d.name=some (.ref fa)->
   bq.heap.get? a=some { cls:=.type "list",data:=.seq vs.toArray }->IntsAre vs ns->ns.length<=n->bq.gens = #[]->
   codeAny (model l.prog w) callerA (.call (.ref fa) ⟨[.ref a],[]⟩) (λr s'=>r = .ok (.ret (.bool true))/\OldK bq.heap s'.heap/\s'.os=bq.os/\AllBare s'.gens) bq) :
  WalkO q loose XP YP l.row.toRowW d [] (λf vs=>PySem.call f vs):=by
 intro w bR bq mg mb G Y fa o pm cd doc dV kV ho hd dN hD hmg hg args vals as CM aoG hrd uc hlo;obtain rfl:dV = .none:=Dflts.none hD ue;obtain rfl:kV = .none:=Dflts.noKw hD;obtain⟨a,vs,ns,rfl,rfl,zB,hints,hlen⟩:=acr hn CM uc;refine enter_call (codeAny_mono (call w bR bq mg mb fa o pm cd doc a vs ns G Y ho (fd_plain hd) dN hmg zB hints hlen hg) λr s' hq=>?_);obtain⟨rfl,h2,h3,h4⟩:=hq;exact⟨.inl ⟨.bool true,.bool true,[],rfl,λ_=>rfl,.bool true,acu l _,λ_=>⟨List.Pairwise.nil,λ_ hm=>(nomatch hm)⟩⟩,h2,h3,h4⟩
section
variable{prog:Program}{w:World}{A:Around}{E:Value->Shared->Prop}{s:Shared}{K:Frag}
noncomputable def ledger(h:Heap)(L d:Addr):List (Addr×Obj):=(List.range h.objs.size).filterMap λa=>if a=L\/a=d then none else(h.get? a).map λo=>(a,o)
end
end Hu
namespace _L
open PySem PySem.Spec PyProof.Rows
theorem zC:∀ {vs:List Value} {ns:List Int},IntsAre vs ns->Vals (ns.map V.int) vs
 | _,_,.nil=>.nil
 | _,_,.cons n t h=>.cons ⟨t,rfl⟩ (zC h)
def Hv(H:Hp):Prop:=∀b,H b=none\/∃o xs,H b=some (.iP o (.lst xs))
theorem acv{P:Program}{w:World}{K:W.Frag}{mg mb:Str->Option Value}{CX:jB}{k:Nat}{fa a:Addr}{fd:FuncData}{x:Str}{sp:Sp}{bq:Shared}{vs:List Value}{ns:List Int}
  (KX:K.In bq.heap) (mY:bq.heap.Ns mainGlobals mg) (hb:bq.heap.Ns builtinsNs mb) (Hw:∀x:Str,x≠"__name__"->mb x=bootBuiltins x) (Hx:bq.heap.NoLimit) (hg:bq.gens = #[])
  (ha:bq.heap.get? a=some { cls:=.type "list",data:=.seq vs.toArray }) (hi:IntsAre vs ns) (hl:ns.length<=sizeLine) (hr:c7 k callerA)
  (F:∀base:Heap,K.In base->base.Ns mainGlobals mg->a_ P w K mg base CX k fa fd [x] sp) (lT:∀(s:Shared) (u:Value),BindsTo s fd ⟨[u],[]⟩ [(x,u)])
  (dQ:∀H:Hp,Hv H->az K H a (ns.map V.int)->sp [.ref a] H (λv _=>v = .bl true) λ_ _ _=>False)
  (Hy:∀H e s',CX [] H bq (λ_ _ _=>False) e s'->False) :
  codeAny (model P w) callerA (.call (.ref fa) ⟨[.ref a],[]⟩) (λr s'=>r = .ok (.ret (.bool true))/\OldK bq.heap s'.heap/\s'.os=bq.os/\AllBare s'.gens) bq:=by
 have rv:=zC hi;have Hz:=hi.length
 -- from an abstract heap in which nothing but the script may be tracked
 have core:∀H:Hp,Hv H->az K H a (ns.map V.int)->cQ P w H bq.heap->(∀b,H b≠none->b=a)->(H a≠none->K.lookup a=none)->
   codeAny (model P w) callerA (.call (.ref fa) ⟨[.ref a],[]⟩) (λr s'=>r = .ok (.ret (.bool true))/\OldK bq.heap s'.heap/\s'.os=bq.os/\AllBare s'.gens) bq:=by
  intro H hO hS aK hA hK;have uf:∀ {b:Addr} {o:Obj},bq.heap.get? b=some o->H b=none->(jx bq.heap H).get? b=some o:=λe n=>RG e n;have yQ:∀ {b:Addr} {o:Obj} {es:Array DictEntry} {ep:Nat},bq.heap.get? b=some o->o.data = .dict es ep->H b=none:=λ{b o es ep} e d=>by
   cases q:H b with
   | none=>rfl
   | some u =>
    have e':b=a:=hA b (by rw[q];simp)
    subst e';rw[ha] at e;cases e;have d':Data.seq vs.toArray _=Data.dict es ep:=d;cases d'
  have qi:∀ {b:Addr} {m:Str->Option Value},bq.heap.Ns b m->(jx bq.heap H).Ns b m:=λ{b m} ⟨o,es,ep,e,d,r⟩=>⟨o,es,ep,uf e (yQ e d),d,r⟩;have zD:K.In (jx bq.heap H):=λb o e=>uf (KX b o e) (by
   cases q:H b with
   | none=>rfl
   | some u =>
    have e':b=a:=hA b (by rw[q];simp)
    subst e';rw[hK (by rw[q];simp)] at e;cases e)
  have hM:Mod K mg (jx bq.heap H):=⟨zD,qi mY,⟨mb,qi hb,Hw⟩,let ⟨mc,h1,h2⟩:=Hx;⟨mc,qi h1,h2⟩⟩
  have e0:rz P w K mg (jx bq.heap H) callerA [] bq H:=⟨rfl,hM,λb o e=>RH e,BO (RE _ _),trivial,λb hb=>absurd (show b∈([]:List Addr) from hb) (by simp),aK,.of_eq hg⟩
  refine xW ((F _ zD (qi mY)).run callerA [] bq H ⟨[.ref a],[]⟩ [.ref a] [.ref a] _ _ hr e0 (lT bq (.ref a)) (.cons rfl .nil) (dQ H hO hS)) λr s' h=>?_;cases r with
  | error e=>exact(Hy H e s' h).elim
  | ok fl =>
   cases fl with
   | next=>exact False.elim h
   | brk=>exact False.elim h
   | cont=>exact False.elim h
   | ret u =>
    obtain⟨v,H',os,bare,un,CN,r',q⟩:=h;have q':v = .bl true:=q;subst q';obtain rfl:u=Value.bool true:=r';refine⟨rfl,OldK.of_keep λb o e=>?_,os,bare⟩;cases q:H b with
    | none=>exact un.keep b o e q (by intro z;exact absurd (show b∈([]:List Addr) from z) (by simp)) (by simp)
    | some u =>
     rcases hO b with z | ⟨ob,xs,z⟩
     ·rw[q] at z;cases z
     ·have z2:=un.jT b ob _ z;obtain⟨e1,_⟩:=aK b _ z;obtain⟨e2,_⟩:=CN b _ z2;rw[e] at e1;cases e1;exact e2
 cases hk:K.lookup a with
 | some o =>
  -- the script is one of the module's own objects
  have e:=KX a o hk;rw[ha] at e;cases e;refine core (λ_=>none) (λ_=>.inl rfl) (.inr ⟨_,vs.toArray,_,hk,rfl,rfl,rfl,by rw[f9,Hz];exact hl,by simpa using rv⟩) (λb u z=>by have z':(none:Option HO)=some u:=z;cases z') (λb z=>absurd rfl z) λz=>absurd rfl z
 | none =>
  refine core (λb=>if b=a then some (.iP { cls:=.type "list",data:=.seq vs.toArray } (.lst (ns.map V.int))) else none) (λb=>?_) (.inl (.inr ⟨{ cls:=.type "list",data:=.seq vs.toArray },if_pos rfl⟩)) (λb u z=>?_) (λb z=>?_) λ_=>hk
  ·by_cases hb:b=a
   ·exact .inr ⟨_,_,if_pos hb⟩
   ·exact .inl (if_neg hb)
  ·by_cases hb:b=a
   ·have z':=(if_pos hb).symm.trans z;cases z';subst hb;exact⟨ha,by rw[aR];exact hl,vs,_,rv,ha⟩
   ·have z':=(if_neg hb).symm.trans z;cases z'
  ·by_cases hb:b=a
   ·exact hb
   ·exact absurd (if_neg hb) z
noncomputable abbrev KOf{K:W.Frag}{h:Heap}(_:K.In h):W.Frag:=K
theorem aoH{l:PySem.W.OpenLaw}{n k:Nat}{q:Program}{loose:List Str}{XP:(Str->Option Value)->Heap->Prop}{YP:World->Heap->Prop}{d:DefRec}{K:Params->W.Frag}{CX:World->jB}{sp:World->Sp}{x:Str}
  (hn:l.most=some n) (vK:n<=sizeLine) (ue:d.params.defaults = []) (hr:c7 k callerA)
  (hY:∀(w:World) (h:Heap),YP w h->(K w.params).In h)
  (F:∀(w:World) (mg:Str->Option Value) (fa:Addr) (h:Heap),(K w.params).In h->h.Ns mainGlobals mg->mg d.name=some (.ref fa)->
   ∃fd:FuncData,(∀(s:Shared) (u:Value),BindsTo s fd ⟨[u],[]⟩ [(x,u)])/\
    ∀base:Heap,(K w.params).In base->base.Ns mainGlobals mg->a_ l.prog w (K w.params) mg base (CX w) k fa fd [x] (sp w))
  (dQ:∀(w:World) (H:Hp) (a:Addr) (ns:List Int),ns.length<=n->Hv H->az (K w.params) H a (ns.map V.int)->sp w [.ref a] H (λv _=>v = .bl true) λ_ _ _=>False)
  (Hy:∀(w:World) (H:Hp) (s:Shared) (e:Value) (s':Shared),CX w [] H s (λ_ _ _=>False) e s'->False) :
  PySem.W.WalkO q loose XP YP l.row.toRowW d [] (λf vs=>PySem.call f vs):=by
 refine Hu.SV hn ue λw bR bq mg mb fa o pm cd doc a vs ns G Y ho hd dN hmg zB hints hlen hg=>?_;have KX:=hY w _ Y;obtain⟨fd,hb,hF⟩:=F w mg fa _ KX G.T.g hmg;exact acv KX G.T.g G.T.b G.T.builtins G.T.nolimit hg zB hints (cX hlen vK) hr hF hb (λH hO hS=>dQ w H a ns hlen hO hS) λH e s'=>Hy w H bq e s'
noncomputable def inClass(s:Stmt)(j:Nat):Stmt:=match s with
 | .ClassDef _ _ _ body _ _ _ _ _ _ _=>body.getD j (.Pass ⟨0,0,0,0⟩)
 | _=>.Pass ⟨0,0,0,0⟩
noncomputable def gY(s:Stmt):Arguments:=match s with
 | .FunctionDef _ a _ _ _ _ _ _ _ _=>a
 | _=>{ posonlyargs:=[],args:=[],vararg:=none,kwonlyargs:=[],kw_defaults:=[],kwarg:=none,defaults:=[] }
noncomputable def fQ(s:Stmt):List Stmt:=match s with
 | .FunctionDef _ _ b _ _ _ _ _ _ _=>b
 | _=>[]
noncomputable def aV(s:Stmt):Scope:=match s with
 | .FunctionDef _ _ _ _ _ _ sc _ _ _=>sc
 | _=>{ kind:=.function,names:=[],isGenerator:=false,isCoroutine:=false }
noncomputable abbrev bx:jB:=λ_ _ _ _ _ _=>False
noncomputable abbrev E0:XK:=λ_ _ _=>False
theorem aQ{X:Cx}:Passes bx X E0:=λ_ _ _ _ _ _ _ h=>h.elim
structure c9(K:W.Frag)(x qual:Str)(st:Stmt)(f:Addr)(fd:FuncData):Prop where
 ex:∃(oc:Value) (od:Option Addr) (kV doc pm:Value) (an:Option Addr) (aP ct:Value) (i9:Array (Option Value)),
  fd=PySem.W.fnOf x qual (gY st) (fQ st) (aV st) .none kV doc pm an aP ct/\K.lookup f=some ⟨oc,od,.func fd,i9⟩/\PySem.W.codeIn K aP qual=true
 kp:PySem.W.keepIn K (.ref f)=true
section
variable{P:Program}{w:World}{K:W.Frag}{mg:Str->Option Value}{base:Heap}
theorem c9.ok{x qual:Str}{st:Stmt}{f:Addr}{fd:FuncData}{N ps:List Str}{k:Nat}{sp:Sp}(F:c9 K x qual st f fd)(S:bA N ps (aV st))(len:∀vs H Q E,sp vs H Q E->vs.length=ps.length)
  (qd:∀(aP:Value) (A:Around) (outer:List Env) (s:Shared) (H:Hp) (vs:List V) (Q:VK) (E:XK),c7 k (A.deeper (envOfC qual (aV st) s.heap.objs.size f aP))->sp vs H Q E->
   ∃t,gB (i8 bx P w K mg base N qual (aV st) f aP A outer s H E).p_ (fQ st) t/\t { nx:=λ_ H'=>Q .aO H',rt:=Q } (start N vs) H):a_ P w K mg base bx (k+1) f fd ps sp:=by
 obtain⟨oc,od,kV,doc,pm,an,aP,ct,i9,rfl,lk,dN⟩:=F.ex;refine Cy lk dN S len λA outer s H vs Q E hr dQ=>?_;obtain⟨t,h,q⟩:=qd aP A outer s H vs Q E hr dQ;exact⟨t,h.p_,q⟩
theorem c9.binds{x qual:Str}{st:Stmt}{f:Addr}{fd:FuncData}{ps:List Str}(F:c9 K x qual st f fd)
  (h:∀(kV doc pm:Value) (an:Option Addr) (aP ct:Value) (us:List Value),us.length=ps.length->bindArgs (PySem.W.fnOf x qual (gY st) (fQ st) (aV st) .none kV doc pm an aP ct) ⟨us,[]⟩=pure (ps.zip us)):Binds K fd ps []:=by
 obtain⟨oc,od,kV,doc,pm,an,aP,ct,i9,rfl,lk,dN⟩:=F.ex;exact .all (h kV doc pm an aP ct)
theorem fun_mk{x qual:Str}{st:Stmt}{f:Addr}{oc:Value}{od an:Option Addr}{i9:Array (Option Value)}{kV doc pm aP ct:Value}(l:K.lookup f=some ⟨oc,od,.func (PySem.W.fnOf x qual (gY st) (fQ st) (aV st) .none kV doc pm an aP ct),i9⟩)
  (c:PySem.W.codeIn K aP qual=true) (k:PySem.W.keepIn K (.ref f)=true):c9 K x qual st f (PySem.W.fnOf x qual (gY st) (fQ st) (aV st) .none kV doc pm an aP ct):=⟨⟨oc,od,kV,doc,pm,an,aP,ct,i9,rfl,l,c⟩,k⟩
end
theorem qj{A:Around}{k:Nat}(hr:c7 k A):A.units+1<cLine:=pT (qR (by decide:1<=64) _) hr.units
theorem gh{n:Nat}(h:n<=1000):n<sizeLine:=pT h (by decide)
section
variable{X:Cx}
theorem pv(i:Nat){x:Str}{pos:Pos}(hN:X.N[i]? = some x:=by rfl)(hv:Cc X.env.scope x:=by first | exact Or.inl rfl | exact Or.inr (Or.inl rfl) | exact Or.inr (Or.inr rfl))(hd:(x == ("__debug__" : Str))=false:=by decide)
  (dN:(x == ("__classdict__" : Str))=false:=by decide):PE X (.Name x pos) (vA i):=RO hN hv hd dN
end
theorem cG{c A B:Prop}[Decidable c](h1:c->A)(h2:¬ c->B):if c then A else B:=by
 by_cases h:c
 ·rw[if_pos h];exact h1 h
 ·rw[if_neg h];exact h2 h
def aj(H H':Hp):Prop:=∀b o,H b=some o->H' b=some o
theorem aj.refl(H:Hp):aj H H:=λ_ _ h=>h
theorem aj.trans{H H1 H2:Hp}(a:aj H H1)(b:aj H1 H2):aj H H2:=λc o h=>b c o (a c o h)
theorem aj.free{H H':Hp}(e:aj H H'){l:Addr}(h:H' l=Option.none):H l=Option.none:=by
 cases q:H l with
 | none=>rfl
 | some o =>
  rw[e l o q] at h;cases h
theorem aj.seq{K:W.Frag}{H H':Hp}{a:Addr}{xs:List V}(e:aj H H')(h:az K H a xs):az K H' a xs:=by
 rcases h with(h | ⟨o,h⟩) | h
 ·exact .inl (.inl (e _ _ h))
 ·exact .inl (.inr ⟨o,e _ _ h⟩)
 ·exact .inr h
section
variable{κ:Type}[DecidableEq κ]
end
end _L
set_option maxHeartbeats 4000000
namespace _L
open PySem PySem.Spec PyProof.Rows
section
variable{prog:Program}{w:World}{A:Around}{R:Result->Shared->Prop}{s:Shared}
theorem acw{elt target iter:Expr}{ifs:List Expr}{scope:Scope}{pos:Pos}{it acc:Value}{env:Env}(I:Nat->Shared->Prop)
  (turn:∀n s,I n s->wpAny (model prog w) A (pyNext it) (λr bq=>match r with
   | none=>R (.ok .next) bq
   | some v=>wpAny (model prog w) A (letOwnedTupleGo target it v) (λ_ SW=>wpAny (model prog w) A (assign target env v) (λ_ jA =>
     wpAny (model prog w) A (forIn ifs true λc r=>if r=true then do let ok ← isTrue c env (eval c env);pure (ForInStep.yield ok) else pure (ForInStep.yield r)) (λok lR =>
      if ok=true then wpAny (model prog w) A (eval elt env) (λx CO =>
       wpAny (model prog w) A (call (.builtin "list.append") [acc,x]) (λ_ SX=>∃m,m<n/\I m SX) (λ_ _=>False) CO) (λ_ _=>False) lR
      else ∃m,m<n/\I m lR) (λ_ _=>False) jA) (λ_ _=>False) SW) (λ_ _=>False) bq) (λ_ _=>False) s)
  (n:Nat) (h:I n s):codeAny (model prog w) A (.compLoop (.ListComp elt [⟨target,iter,ifs,0⟩] scope pos) 0 it acc env) R s:=by
 refine codeAny_loop rfl I (λn s hI=>?_) n h
 show wpAny _ A ((compTurn (.ListComp elt [⟨target,iter,ifs,0⟩] scope pos) 0 it acc env).onRaise (λx=>do noteFrame x env;theTreesLotGoes x)) _ _ s
 refine wpAny_noted ?_;rw[compTurn_list];refine aM (wpAny_standAt (aM (eL (turn n s hI) (λr bq oJ=>?_) λ_ _ h'=>h'.elim)));cases r with
 | none=>exact bL oJ
 | some v =>
  refine aM (eL oJ (λ_ SW acy=>?_) λ_ _ h'=>h'.elim);refine aM (eL acy (λ_ jA t_=>aM (eL t_ (λok lR CK=>?_) λ_ _ h'=>h'.elim)) λ_ _ h'=>h'.elim);cases ok with
  | false=>exact bL ⟨rfl,CK⟩
  | true =>
   exact aM (aM (eL CK (λx CO acz=>aM (eL acz (λ_ SX acA=>bL (bL ⟨rfl,acA⟩)) λ_ _ h'=>h'.elim)) λ_ _ h'=>h'.elim))
end
theorem CQ{env:Env}:∀ {names:List (Str×NameKind)} {x:Str} {k:NameKind},
  (names.map λ(n,k)=>if (k == NameKind.free && env.scope.kind == .function && env.kindOf n == some .cell) then(n,NameKind.cell) else(n,k)).lookup x=some k->
  ∃k0,names.lookup x=some k0/\(k=k0\/(k0 = .free/\k = .cell))
 | [],_,_,h=>by simp at h
 | (n,k0)::r,x,k,h=>by
  have ih:=@CQ env r x k;have h:List.lookup x ((if (k0 == NameKind.free && env.scope.kind == .function && env.kindOf n == some .cell)=true then(n,NameKind.cell) else(n,k0))::_)=_:=h
  cases hx:x == n with
  | true =>
   by_cases hc:(k0 == NameKind.free && env.scope.kind == .function && env.kindOf n == some .cell)=true
   ·rw[if_pos hc] at h;simp only[List.lookup_cons,hx,Option.some.injEq] at h;simp only[Bool.and_eq_true,beq_iff_eq] at hc;exact⟨k0,by simp[List.lookup_cons,hx],.inr ⟨hc.1.1,h.symm⟩⟩
   ·rw[if_neg hc] at h;simp only[List.lookup_cons,hx,Option.some.injEq] at h;exact⟨k0,by simp[List.lookup_cons,hx],.inl h.symm⟩
  | false =>
   have h':List.lookup x (r.map λ(n,k)=>if (k == NameKind.free && env.scope.kind == .function && env.kindOf n == some .cell) then(n,NameKind.cell) else(n,k))=some k:=by
    by_cases hc:(k0 == NameKind.free && env.scope.kind == .function && env.kindOf n == some .cell)=true
    ·rw[if_pos hc] at h;simpa only[List.lookup_cons,hx] using h
    ·rw[if_neg hc] at h;simpa only[List.lookup_cons,hx] using h
   obtain⟨q,e,z⟩:=ih h';exact⟨q,by simp only[List.lookup_cons,hx];exact e,z⟩
theorem qk{α:Type}{x:Str}{v:α}:∀ {l:List (Str×α)},l.lookup x=some v->(x,v)∈l:=λh=>vj h
section
variable{X:Cx}{pins:List (Addr×Obj)}{σ:St}{H:Hp}{s:Shared}{scope:Scope}{cl:List (Str×Addr)}{N:List Str}{nt:Nat}{fv:List Nat}{fp:List Addr}
noncomputable def jF(σ:St)(nt:Nat)(fv:List Nat):St:=List.replicate nt none++fv.map λj=>(σ[j]?).getD none
end
noncomputable def wg(X:Cx)(ifs:List Expr)(t:TT):Prop :=
 ∀(pins:List (Addr×Obj)) (s:Shared) (σ:St) (H:Hp) (Q:Bool->Hp->Prop),Inv X pins σ H s->t σ H Q->
  wpAny (model X.prog X.w) X.A (forIn ifs true λc r=>if r=true then do let ok ← isTrue c X.env (eval c X.env);pure (ForInStep.yield ok) else pure (ForInStep.yield r)) (TP X pins σ Q) X.xe s
def zE:TT:=λ_ H Q=>Q true H
theorem jd{X:Cx}:wg X [] zE:=λpins s σ H Q I h=>wpAny_tests_nil ⟨H,I,h⟩
theorem oK{X:Cx}{c:Expr}{t:TT}(hc:PT X c t):wg X [c] t:=λpins s σ H Q I h=>wpAny_tests_one (hc pins s σ H Q I h)
def mZ(wi:TI)(g:TG)(tt:TT)(te:TE)(nt:Nat)(fv:List Nat):TE:=λσ H Q=>wi σ H λJ H1=>∀D,H1 D=none->∃W:Nat->Nat->List V->St->Hp->Prop,
 (∃m,W 0 m [] (jF σ nt fv) (upd H1 D (.lst [])))/\∀i m ys aC H2,W i m ys aC H2->H2 D=some (.lst ys)/\ys.length<sizeLine/\
  ((J.stop i H2/\Q (.ref D) H2)\/(J.go i H2/\∀x H3,J.qb i H2 x H3->g x aC H3 λcH H4=>tt cH H4 λb H5=>if b=true then te cH H5 λv H6=>H6 D=some (.lst ys)/\∃m',m' < m/\W (i+1) m' (ys++[v]) cH (upd H6 D (.lst (ys++[v])))
   else ∃m',m' < m/\W (i+1) m' ys cH H5))
section
variable{X:Cx}{tg iter elt:Expr}{ifs:List Expr}{scope:Scope}{cl:List (Str×Addr)}{N:List Str}{nt:Nat}{fv:List Nat}{pos:Pos}{wi:TI}{g:TG}{tt:TT}{te:TE}
end
noncomputable def zF(K:W.Frag)(a:Addr):It :=
 ⟨λi H=>∃xs x,az K H a xs/\xs[i]? = some x,λi H v H'=>∃T x,H T=none/\v = .ref T/\(∀xs,az K H a xs->xs[i]? = some x)/\H' = upd H T (.tup [.int i,x]),λi H=>∃xs,az K H a xs/\xs.length<=i⟩
theorem acB{P:Program}{w:World}{K:W.Frag}{elts:List Expr}{x1}{tp:Pos}(a e it:Addr)(HC:e≠it) :
  Turn P w K (.Tuple elts x1 tp) (zF K a) [e,it] e (λi h=>(∃old,IsEnum h e it (i:Nat) old)/\h.IsListIter it a i) where
 mem:=by simp
 obj:=λi h st b hb=>by
  obtain⟨⟨old,he⟩,o,e1,c,d⟩:=st;rcases cE.mp hb with z | hb
  ·rw[z];exact⟨_,he,λv z=>by
    have z':Data.fields _=Data.cell v:=z;cases z'⟩
  ·have e2:b=it:=by simpa using hb
   rw[e2];exact⟨o,e1,λv z=>by rw[d] at z;cases z⟩
 keep:=λi h h' st k=>by
  obtain⟨⟨old,he⟩,hi⟩:=st;exact⟨⟨old,k e (by simp) _ he⟩,hi.at λo q=>k it (by simp) o q⟩
 item:=by
  intro X hP hw hK hc i pins s σ H E I hf st hg;subst hP hw hK;obtain⟨xs,x,hq,hx⟩:=hg;obtain⟨aB,rv,p,hz⟩:=I.list hq;obtain⟨u,hu,ru⟩:=rv.get hx;obtain⟨⟨old,he⟩,hit⟩:=st;obtain⟨f0,f1,f2,f3,f4,f5⟩:=hf e (by simp)
  obtain⟨g0,g1,g2,g3,g4,g5⟩:=hf it (by simp)
  have SY:e<s.heap.objs.size:=cD he;have acC:it<s.heap.objs.size:=by obtain⟨_,z,_⟩:=hit;exact cD z
  refine wpAny_pyNext_enum_item he hit p.isList (x:=u) (by simpa using hu) HC λh' ho ug hT hsz hk=>?_
  refine⟨_,rfl,?_⟩;refine wpAny_letOwnedTupleGo_enum ho λwj CS iS=>?_
  replace iS:Heap.SameBut e h' wj:=iS
  -- two records have turned,a tuple is new
  have I1:Inv X pins σ H { s with heap:=(s.heap),toks:=s.toks+1 }:=I.tok _;have kk:∀b o,b∉[e,it]->s.heap.get? b=some o->wj.get? b=some o:=λb o hb q=>by
   have h1:b≠e:=λz=>hb (by simp[z])
   have h2:b≠it:=λz=>hb (by simp[z])
   exact iS.extBut b o h1 (hk b o h1 h2 q)
  have ya:∀b v,H b=some v->b∉[e,it]:=λb v q hb=>by
   rcases cE.mp hb with z | hb
   ·rw[z,f0] at q;cases q
   ·have e2:b=it:=by simpa using hb
    rw[e2,g0] at q;cases q
  have S0:H s.heap.objs.size=none:=I.aK.fresh (bH _);have zG:∀b v,H b=some v->b≠s.heap.objs.size:=λb v q z=>by rw[z,S0] at q;cases q
  have acD:wj.get? s.heap.objs.size=some { cls:=.type "tuple",data:=.seq #[.int (i:Nat) s.toks,u] }:=iS.extBut _ _ (pU SY) hT;have aoI:∃o,wj.get? e=some o:=⟨_,CS⟩;have aoJ:∃o,wj.get? it=some o:=by
   obtain⟨o,q,_⟩:=ug;exact⟨o,iS.extBut _ _ (f_ HC) q⟩
  have I2:Inv X pins σ (upd H s.heap.objs.size (.tup [.int i,x])) { s with heap:=wj,toks:=s.toks+1 }:=by
   refine I.step (g':=s.gens) (d':=s.drawn) (ch:=[e,it]) (λb hb=>?_) (λb o _ _ hc q _=>kk b o hc q) (λb o _ _ hc q _=>⟨o.slots,kk b o hc q⟩) (λb o _ q n=>?_) (λb o hc q=>⟨o,kk b o hc q⟩)
    (λb ys q=>by rw[aI (zG b _ q)];exact q) (λb o v q=>by rw[aI (zG b _ q)];exact q) (λb ps q=>⟨#[],by rw[aI (zG b _ q),q];simp⟩) (λm hm=>?_) (λb v q=>?_) I.bare
   ·rcases cE.mp hb with z | hb
    ·rw[z];exact⟨f3,f1,f4,f5⟩
    ·have e2:b=it:=by simpa using hb
     rw[e2];exact⟨g3,g1,g4,g5⟩
   ·rw[aI (dD (cD q))];exact n
   ·obtain⟨o,es,ep,q,r⟩:=hm;exact⟨o,es,ep,kk _ o (by
     intro hb;rcases cE.mp hb with z | hb
     ·exact f1 z.symm
     ·exact g1 (by simpa using hb:X.env.locals=it).symm) q,r⟩
   ·by_cases hb:b=s.heap.objs.size
    ·subst hb;rw[aD] at q;cases q;refine⟨by show 2<=sizeLine;decide,[.int (i:Nat) s.toks,u],.cons ⟨_,rfl⟩ (.cons ru .nil),_,acD,rfl,_,rfl⟩
    ·rw[aI hb] at q;refine(I.aK b v q).jw (λc o Cg z=>kk c o ?_ z) (λc z=>by rw[aI (zG c _ z)];exact z) (λc ys z=>by rw[aI (zG c _ z)];exact z)
     rcases Cg with z2 | z2
     ·rw[z2];exact ya b v q
     ·exact ya c _ z2
  refine⟨.ref s.heap.objs.size,_,I2,rfl,⟨_,x,S0,rfl,λys hy=>by rw[I.RQ hy hq];exact hx,rfl⟩,⟨⟨u,?_⟩,?_⟩,λb hb=>?_⟩
  ·have z:((i+1:Nat):Int)=(i:Int)+1:=by lia
   rw[z];exact CS
  ·exact ug.at λo q=>iS.extBut _ _ (f_ HC) q
  ·have cF:b<s.heap.objs.size:=by
    rcases cE.mp hb with z | hb
    ·rw[z];exact SY
    ·rw[show b=it by simpa using hb];exact acC
   rw[aI (dD cF)];exact(hf b hb).1
 done:=by
  intro X hP hw hK hc i pins s σ H E I hf st hg;subst hP hw hK;obtain⟨xs,hq,hx⟩:=hg;obtain⟨aB,rv,p,hz⟩:=I.list hq;obtain⟨⟨old,he⟩,hit⟩:=st;obtain⟨g0,g1,g2,g3,g4,g5⟩:=hf it (by simp)
  have hl:=rv.length;exact wpAny_pyNext_enum_end (I.ok.hd hc) he hit p.isList (by simp;lia) λh' eb=>⟨rfl,I.turned (t':=s.toks) (λb o hb e=>eb b o hb e) g0 g1 g3 g4 g5⟩
 self:=λ_ _ _ _ _ st h=>by
  obtain⟨⟨old,he⟩,_⟩:=st;exact wpAny_pyIter_enum he h
section
variable{X:Cx}
def CT(K:W.Frag)(ta:TA):TI:=λσ H R=>ta σ H λvs H1=>∃a,vs = [.ref a]/\(∃xs,az K H1 a xs)/\R (zF K a) H1
theorem HD{l:Expr}{ta:TA}{p pos tp:Pos}{elts:List Expr}{x1}(hg:Gl X "enumerate")(hm:X.mg "enumerate" = none)(hl:PA X [l] ta)(hs:starEach [l] X.env = [(false,eval l X.env)]:=by rfl) :
  PI X (.Tuple elts x1 tp) (.Call (.Name "enumerate" p) [l] [] pos) (CT X.K ta):=by
 intro pins s σ H R I h;refine Call_ (qY I hg hm boot_enumerate (xR (aW (hl pos pins s σ H _ I h) λus s1 ⟨vs,H1,I1,r1,q1⟩=>?_) hs rfl));obtain⟨a,e,⟨xs,hq⟩,q⟩:=q1;subst e;obtain⟨u,rfl,ru⟩:=vals1 r1;cases ru;obtain⟨aB,rv,p,hz⟩:=I1.list hq;refine call_enumerate_list p.isList λh' he hit hsz hk=>?_;have I2:Inv X pins σ H1 { s1 with heap:=h' }:=I1.kept (t':=s1.toks) hk;refine wpAny_pyIter_enum he ?_;have n1:H1 (s1.heap.objs.size+1)=none:=I1.aK.fresh (sP _);have n0:H1 s1.heap.objs.size=none:=I1.aK.fresh (bH _);refine⟨s1.heap.objs.size+1,[s1.heap.objs.size+1,s1.heap.objs.size],_,_,H1,rfl,I2,acB a _ _ (Nat.succ_ne_self _),⟨⟨_,he⟩,hit⟩,λb hb=>?_,q⟩;rcases cE.mp hb with z | hb
 ·rw[z];exact I1.tE (sP _) n1
 ·rw[show b=s1.heap.objs.size by simpa using hb];exact I1.tE (bH _) n0
theorem acE{K:W.Frag}{a:Addr}{xs:List V}{g:TG}{tb:TS}{D:Ends}{σ:St}{H:Hp}(Pv:Nat->St->Hp->Prop)(h0:Pv 0 σ H)(hl:∀i σ H,i<=xs.length->Pv i σ H->az K H a xs)
  (hs:∀i x σ H T,xs[i]? = some x->Pv i σ H->H T=none->g (.ref T) σ (upd H T (.tup [.int i,x])) λaC H2=>tb { D with nx:=Pv (i+1),ct:=Pv (i+1),bk:=D.nx } aC H2) (hd:∀σ H,Pv xs.length σ H->D.nx σ H) :
  ∃W:Nat->Nat->St->Hp->Prop,(∃m,W 0 m σ H)/\∀i m σ H,W i m σ H->
   ((zF K a).stop i H/\D.nx σ H)\/((zF K a).go i H/\∃N:St->Hp->Prop,(∀bK H',N bK H'->∃m',m' < m/\W (i+1) m' bK H')/\∀x H',(zF K a).qb i H x H'->g x σ H' λaC H2=>tb { D with nx:=N,ct:=N,bk:=D.nx } aC H2):=by
 refine⟨λi m σ H=>m=xs.length - i/\i<=xs.length/\Pv i σ H,⟨xs.length,by simp,eF _,h0⟩,?_⟩
 rintro i m σ H ⟨rfl,hi,p⟩;have q:=hl i σ H hi p;by_cases cF:i<xs.length
 ·refine .inr ⟨⟨xs,xs[i],q,by simp[cF]⟩,Pv (i+1),λbK H' p'=>⟨xs.length - (i+1),by lia,rfl,cF,p'⟩,λx H' y=>?_⟩
  obtain⟨T,z,hT,e,y,e2⟩:=y;subst e e2;exact hs i z σ H T (y xs q) p hT
 ·have e:i=xs.length:=by lia
  subst e;exact .inl ⟨⟨xs,q,bH _⟩,hd σ H p⟩
theorem HE(hc:X.calm=true):gC X (.builtin "sum") (λxs H Q=>∃(p:Addr) (ns:List Int),xs = [.ref p]/\az X.K H p (ns.map V.int)/\Q (.int ns.sum) H):=by
 intro pins s σ H xs us Q I r h;obtain⟨p,ns,rfl,hq,q⟩:=h;obtain⟨u,rfl,ru⟩:=vals1 r;cases ru;obtain⟨aB,rv,pl,hz⟩:=I.list hq;have hi:IntsAre aB ns:=intsAre_of rv;obtain⟨xs,hx⟩:=hi.allInts.items;have uh:s.heap.IsList p (intItems xs):=hx▸pl.isList;refine sum_intListG (I.ok.hd hc) uh λh' tk t' hk=>?_;have e1:ns=xs.toList.map (·.1):=by
  rw[← nums_intItems,← hx];exact(show numsOf aB.toArray.toList=ns from hi.numsOf).symm
 have e2:preSum (numAt xs) xs.size=ns.sum:=by
  rw[preSum_eq,ou (by simp),e1]
 rw[e2];exact⟨.int ns.sum,H,I.kept hk,⟨t',rfl⟩,q⟩
theorem acF:gC X (.builtin "sorted") (λxs H Q=>∃(p:Addr) (ns:List Int),xs = [.ref p]/\az X.K H p (ns.map V.int)/\ns.length<64/\
  ∀(l:Addr) (gW:List Int),H l=none->gW.Perm ns->gW.Pairwise (·<=·)->Q (.ref l) (upd H l (.lst (gW.map V.int)))):=by
 intro pins s σ H xs us Q I r h;obtain⟨p,ns,rfl,hq,kR,q⟩:=h;obtain⟨u,rfl,ru⟩:=vals1 r;cases ru;obtain⟨aB,rv,pl,hz⟩:=I.list hq;have hi:IntsAre aB ns:=intsAre_of rv;have hlen:=hi.length;refine sorted_ints pl.isList hi (by lia) λout gW a1 a2 a3=>?_
 obtain⟨e,he⟩:=sortedAll_at s.heap aB out;have hn:H (s.heap.objs.size+1)=none:=I.aK.fresh (sP _);refine⟨.ref (s.heap.objs.size+1),upd H (s.heap.objs.size+1) (.lst (gW.map V.int)),I.laid (t':=s.toks) (λb o q=>sortedAll_old q) (sP _) ?_,rfl,q _ gW hn a2 a3⟩;refine⟨?_,out.toList,e,zC a1,by simpa using he⟩
 rw[aR,a2.length_eq];exact cX (jR kR) (by decide)
theorem S2(hc:X.calm=true):gC X (.builtin "min") (λxs H Q=>∃(p:Addr) (ns:List Int),xs = [.ref p]/\az X.K H p (ns.map V.int)/\0<ns.length/\∀M,M∈ns->(∀a,a∈ns->M<=a)->Q (.int M) H):=by
 intro pins s σ H xs us Q I r h;obtain⟨p,ns,rfl,hq,h0,q⟩:=h;obtain⟨u,rfl,ru⟩:=vals1 r;cases ru;obtain⟨aB,rv,pl,hz⟩:=I.list hq;have hi:IntsAre aB ns:=intsAre_of rv;obtain⟨m,F⟩:=I.fr;refine min_list_N (I.ok.hd hc) F (Ca (h:=s.heap)) pl.isList hi h0 λh' M t tk F' N' h1 h2=>?_;have kk:∀b o,b≠X.env.locals->s.heap.get? b=some o->h'.get? b=some o:=λb o hb e=>by
  cases q:X.base.get? b with
  | some z =>
   have:=F.keep b z q;rw[e] at this;cases this;exact F'.keep b _ q
  | none=>exact(N' (b,o) (GD hb q e)).1
 have nl:∀b v,H b=some v->b≠X.env.locals:=λb v e z=>by rw[z,I.free] at e;cases e
 have I':Inv X pins σ H { s with heap:=h',toks:=tk }:=by
  refine I.step (g':=s.gens) (d':=s.drawn) (ch:=[]) (λ_ z=>nomatch z) (λb o hb _ _ e _=>kk b o hb e) (λb o hb _ _ e _=>⟨o.slots,kk b o hb e⟩) (λ_ _ _ _ n=>n) (λb o _ e=>?_) (λ_ _ e=>e) (λ_ _ _ e=>e)
   (λb ps e=>⟨#[],by rw[e];simp⟩) (λm' hm=>?_) (λb v e=>(I.aK b v e).jw (λc o hc e'=>kk c o ?_ e') (λ_ e=>e) (λ_ _ e=>e)) I.bare
  ·by_cases hb:b=X.env.locals
   ·obtain⟨o',_,_,z,_⟩:=F'.ns;exact⟨o',by rw[hb];exact z⟩
   ·exact⟨o,kk b o hb e⟩
  ·have:m' = m:=by
    obtain⟨o1,HF,HG,g1,d1,k1,z1⟩:=hm;obtain⟨o2,HJ,HK,g2,d2,k2,z2⟩:=F.ns;rw[g1] at g2;cases g2;rw[d1] at d2;cases d2
    funext x
    rw[← z1 x,← z2 x]
   rw[this];exact F'.ns
  ·rcases hc with z | z
   ·rw[z];exact nl b v e
   ·exact nl c _ z
 exact⟨.int M,H,I',⟨t,rfl⟩,q M h1 h2⟩
theorem zH:gC X (.builtin "isinstance") (λxs H Q=>∃x T t b,xs = [x,.ty T]/\kO X.K H x t/\PySem.W.kitOne X.K t (.type T)=some b/\Q (.bl b) H):=by
 intro pins s σ H xs us Q I r h;obtain⟨x,T,t,b,rfl,ty,e,q⟩:=h;obtain⟨u,v,rfl,ru,rv⟩:=vals2 r;cases (show v=Value.type T from rv);exact abt I ru ty e λtk=>⟨.bl b,H,I.tok _,rfl,q⟩
theorem um{A:Around}{s:Shared}{x:V}{u v:Value}(ru:RelV x u)(rv:RelV x v)(hx:∀b,x≠.mO b)(hb:∀b,x≠.iu b):SeqAt.EqAt A s u v true:=by
 cases x with
 | aO=>cases ru;cases rv;exact sQ _
 | bl b=>cases ru;cases rv;exact sQ _
 | ref a=>cases ru;cases rv;exact sQ _
 | ty n=>cases ru;cases rv;exact sQ _
 | mO b=>exact absurd rfl (hx b)
 | int i =>
  have:=G_ (A:=A) (s:=s) ru rv rfl rfl;rwa [show kP (V.int i) (V.int i)=true by simp[kP]] at this
 | str z =>
  have:=G_ (A:=A) (s:=s) ru rv rfl rfl;rwa [show kP (V.str z) (V.str z)=true by simp[kP]] at this
 | iu z=>exact absurd rfl (hb z)
theorem S3(hu:X.A.units<cLine):cB X (compareOp .NotEq) (λx y H Q=>∃(a b:Addr) (xs:List V),x = .ref a/\y = .ref b/\az X.K H a xs/\az X.K H b xs/\(∀v∈xs,(∀b,v≠.mO b)/\∀b,v≠.iu b)/\Q (.bl false) H):=by
 rintro pins s σ H x y v u Q I rx ry ⟨a,b,xs,rfl,rfl,ha,hb,hv,q⟩;cases rx;cases ry;obtain⟨aB,r1,p1,z1⟩:=I.list ha;obtain⟨dH,r2,p2,z2⟩:=I.list hb;have l1:=r1.length;have l2:=r2.length;have e0:(!(List.range aB.toArray.size).all λ_=>true)=false:=by simp
 have fin:=SeqAt.RcNeAt.lists (A:=X.A) (s:=s) (e:=λ_=>true) p1.isList p2.isList (by simp;lia) hu (λj h1 h2=>?_) X.prog X.w X.xe (EP X pins σ Q) (by rw[e0];exact⟨.bl false,H,I,rfl,q⟩)
 ·exact fin
 ·have g1:aB[j]? = some aB.toArray[j]:=by
   rw[lz,aX (by simpa using h1)]
  have g2:dH[j]? = some dH.toArray[j]:=by
   rw[lz,aX (by simpa using h2)]
  have hj:j<xs.length:=by rw[l1];simpa using h1
  obtain⟨u1,q1,w1⟩:=r1.get (aX hj);obtain⟨u2,q2,w2⟩:=r2.get (aX hj);rw[g1] at q1;cases q1;rw[g2] at q2;cases q2;exact um w1 w2 (hv _ (cO hj)).1 (hv _ (cO hj)).2
end
noncomputable def AllP{α:Type}(P:α->Prop):List α->Prop
 | []=>True
 | a::r=>P a/\AllP P r
theorem AllP.mem{α:Type}{P:α->Prop}:∀ {l:List α},AllP P l->∀a∈l,P a
 | _::_,h,a,hm=>by
  rcases cE.mp hm with rfl | hm
  ·exact h.1
  ·exact AllP.mem h.2 a hm
theorem HL{CX:jB}{P:Program}{w:World}{K:W.Frag}{mg:Str->Option Value}{base:Heap}{N:List Str}{qual:Str}{scope:Scope}{f:Addr}{cd:Value}{A:Around}{outer:List Env}{s:Shared}{H:Hp}{E:XK} :
  (i8 CX P w K mg base N qual scope f cd A outer s H E).K=K:=rfl
theorem HM{X:Cx}{E:Value->Shared->Prop}:(X.lH E).K=X.K:=rfl
structure Zn(H:Hp)(a:Addr)(ts:List Addr)(z:List (Int×Int)):Prop where
 l:H a=some (.lst (ts.map V.ref))
 n:ts.length=z.length
 t:∀(i:Nat) (t:Addr) (p:Int×Int),ts[i]? = some t->z[i]? = some p->H t=some (.tup [.int p.1,.int p.2])
theorem Zn.same{H H':Hp}{a:Addr}{ts:List Addr}{z:List (Int×Int)}(h:Zn H a ts z)(e:aj H H'):Zn H' a ts z:=⟨e _ _ h.l,h.n,λi t p h1 h2=>e _ _ (h.t i t p h1 h2)⟩
theorem Zn.at{H:Hp}{a:Addr}{ts:List Addr}{z:List (Int×Int)}(h:Zn H a ts z){i:Nat}{x:V}(e:(ts.map V.ref)[i]? = some x):∃t p,x = .ref t/\z[i]? = some p/\H t=some (.tup [.int p.1,.int p.2]):=by
 rw[ju] at e;cases q:ts[i]? with
 | none=>rw[q] at e;cases e
 | some t =>
  rw[q] at e;have hi:i<z.length:=by rw[← h.n];exact(ie.mp q).1
  exact⟨t,z[i],(dh e).symm,aX hi,h.t i t _ q (aX hi)⟩
noncomputable def fK(ns:List Int)(k:Int):Int:=ns.getD k.toNat 0
def iT(K:W.Frag):Sp:=λvs H Q _=>∃(a:Addr) (ns:List Int) (k:Int),vs = [.ref a,.int k]/\az K H a (ns.map V.int)/\ns.length<=63/\0<=k/\Q (.int (fK ns k)) H
section
variable{K:W.Frag}{ta:TA}{tl:TE}{g:TG}{tb:TS}{D:Ends}{σ:St}{H:Hp}
theorem acG(n:Nat)(gF:∀Q:List V->Hp->Prop,Q [.int (n:Int)] H->ta σ H Q)(hn:n<1000000000)(Pv:Nat->St->Hp->Prop)(h0:Pv 0 σ H)
  (hs:∀i σ H,i<n->Pv i σ H->g (.int (i:Int)) σ H λaC H2=>tb { D with nx:=Pv (i+1),ct:=Pv (i+1),bk:=D.nx } aC H2) (hd:∀σ H,Pv n σ H->D.nx σ H):lI (yy ta) g tb D σ H:=by
 refine gF _ ⟨n,rfl,by lia,by lia,?_⟩
 have e:((n:Int)).toNat=n:=by lia
 rw[e];refine GU Pv h0 (λi σ H hi p=>?_) hd;have e2:(0:Int)+(i:Int)=i:=by lia
 rw[e2];exact hs i σ H hi p
theorem acH(lo hi:Int)(gF:∀Q:List V->Hp->Prop,Q [.int lo,.int hi] H->ta σ H Q)(b1 : -1000000000000<lo)(b2:lo<1000000000000)(b3 : -1000000000000<hi)(b4:hi<1000000000000)(Pv:Nat->St->Hp->Prop)(h0:Pv 0 σ H)
  (hs:∀i σ H,i<(hi - lo).toNat->Pv i σ H->g (.int (lo+(i:Int))) σ H λaC H2=>tb { D with nx:=Pv (i+1),ct:=Pv (i+1),bk:=D.nx } aC H2) (hd:∀σ H,Pv (hi - lo).toNat σ H->D.nx σ H):lI (yz ta) g tb D σ H :=
 gF _ ⟨lo,hi,rfl,⟨by lia,by lia,by lia,by lia⟩,GU Pv h0 hs hd⟩
theorem acI(a:Addr)(xs:List V)(m_:∀Q:VK,Q (.ref a) H->tl σ H Q)(eg:az K H a xs)(Pv:Nat->St->Hp->Prop)(h0:Pv 0 σ H)(hl:∀i σ H,i<=xs.length->Pv i σ H->az K H a xs)
  (hs:∀i x σ H,xs[i]? = some x->Pv i σ H->g x σ H λaC H2=>tb { D with nx:=Pv (i+1),ct:=Pv (i+1),bk:=D.nx } aC H2) (hd:∀σ H,Pv xs.length σ H->D.nx σ H):lI (qc K tl) g tb D σ H :=
 m_ _ ⟨a,rfl,⟨xs,eg⟩,RV Pv h0 hl hs hd⟩
theorem acJ(a:Addr)(xs:List V)(gF:∀Q:List V->Hp->Prop,Q [.ref a] H->ta σ H Q)(eg:az K H a xs)(Pv:Nat->St->Hp->Prop)(h0:Pv 0 σ H)(hl:∀i σ H,i<=xs.length->Pv i σ H->az K H a xs)
  (hs:∀i x σ H T,xs[i]? = some x->Pv i σ H->H T=none->g (.ref T) σ (upd H T (.tup [.int i,x])) λaC H2=>tb { D with nx:=Pv (i+1),ct:=Pv (i+1),bk:=D.nx } aC H2) (hd:∀σ H,Pv xs.length σ H->D.nx σ H):lI (CT K ta) g tb D σ H :=
 gF _ ⟨a,rfl,⟨xs,eg⟩,acE Pv h0 hl hs hd⟩
variable{tt:TT}{te:TE}{nt:Nat}{fv:List Nat}{Q:VK}
def NX(n i:Nat)(P:Prop):Prop:=∃m',m' < n - i/\m' = n - (i+1)/\i+1<=n/\P
theorem NX.of{n i:Nat}{P:Prop}(hi:i<n)(p:P):NX n i P:=⟨n - (i+1),by lia,rfl,hi,p⟩
theorem acK(lo hi:Int)(gF:∀Q:List V->Hp->Prop,Q [.int lo,.int hi] H->ta σ H Q)(b1 : -1000000000000<lo)(b2:lo<1000000000000)(b3 : -1000000000000<hi)(b4:hi<1000000000000)
  (Pv:Addr->Nat->List V->St->Hp->Prop) (h0:∀D,H D=none->Pv D 0 [] (jF σ nt fv) (upd H D (.lst []))) (hD:∀D i ys σ H,Pv D i ys σ H->H D=some (.lst ys)/\ys.length<sizeLine)
  (hs:∀D i ys aC H2,i<(hi - lo).toNat->Pv D i ys aC H2->g (.int (lo+(i:Int))) aC H2 λcH H4=>tt cH H4 λb H5=>if b=true then te cH H5 λv H6=>H6 D=some (.lst ys)/\NX (hi - lo).toNat i (Pv D (i+1) (ys++[v]) cH (upd H6 D (.lst (ys++[v])))) else NX (hi - lo).toNat i (Pv D (i+1) ys cH H5))
  (hd:∀D ys aC H2,Pv D (hi - lo).toNat ys aC H2->Q (.ref D) H2):mZ (yz ta) g tt te nt fv σ H Q:=by
 refine gF _ ⟨lo,hi,rfl,⟨by lia,by lia,by lia,by lia⟩,λD ng=>?_⟩
 refine⟨λi m ys aC H2=>m=(hi - lo).toNat - i/\i<=(hi - lo).toNat/\Pv D i ys aC H2,⟨_,rfl,eF _,h0 D ng⟩,?_⟩;rintro i m ys aC H2 ⟨rfl,jG,p⟩;obtain⟨d1,d2⟩:=hD D i ys aC H2 p;refine⟨d1,d2,?_⟩;by_cases cF:i<(hi - lo).toNat
 ·refine .inr ⟨cF,λx H3 y=>?_⟩;obtain⟨e1,e2⟩:=y;subst e1 e2;exact hs D i ys aC _ cF p
 ·have e:i=(hi - lo).toNat:=by lia
  subst e;exact .inl ⟨bH _,hd D ys aC H2 p⟩
theorem acL(a:Addr)(xs:List V)(m_:∀Q:VK,Q (.ref a) H->tl σ H Q)(eg:az K H a xs)
  (Pv:Addr->Nat->List V->St->Hp->Prop) (h0:∀D,H D=none->Pv D 0 [] (jF σ nt fv) (upd H D (.lst []))) (hD:∀D i ys σ H,Pv D i ys σ H->H D=some (.lst ys)/\ys.length<sizeLine/\az K H a xs)
  (hs:∀D i x ys aC H2,xs[i]? = some x->Pv D i ys aC H2->g x aC H2 λcH H4=>tt cH H4 λb H5=>if b=true then te cH H5 λv H6=>H6 D=some (.lst ys)/\NX xs.length i (Pv D (i+1) (ys++[v]) cH (upd H6 D (.lst (ys++[v])))) else NX xs.length i (Pv D (i+1) ys cH H5))
  (hd:∀D ys aC H2,Pv D xs.length ys aC H2->Q (.ref D) H2):mZ (qc K tl) g tt te nt fv σ H Q:=by
 refine m_ _ ⟨a,rfl,⟨xs,eg⟩,λD ng=>?_⟩;refine⟨λi m ys aC H2=>m=xs.length - i/\i<=xs.length/\Pv D i ys aC H2,⟨_,rfl,eF _,h0 D ng⟩,?_⟩;rintro i m ys aC H2 ⟨rfl,jG,p⟩;obtain⟨d1,d2,d3⟩:=hD D i ys aC H2 p;refine⟨d1,d2,?_⟩;by_cases cF:i<xs.length
 ·refine .inr ⟨⟨xs,xs[i],d3,by simp[cF]⟩,λx H3 y=>?_⟩
  obtain⟨e1,e2⟩:=y;subst e1;exact hs D i x ys aC _ (e2 xs d3) p
 ·have e:i=xs.length:=by lia
  subst e;exact .inl ⟨⟨xs,d3,bH _⟩,hd D ys aC H2 p⟩
end
theorem gG{ns:List Int}{k:Int}(h0:0<=k)(h:k<(ns.length:Int)):e7 (ns.map V.int) k=some (.int (ns.getD k.toNat 0)):=by
 have hk:k.toNat<ns.length:=by lia
 unfold e7 jc;rw[if_pos h0,if_pos (by simpa using h)]
 simp[List.getD_eq_getElem?_getD,List.getElem?_eq_getElem hk]
theorem HN{ns:List Int}(h:0<ns.length):e7 (ns.map V.int) (-1)=some (.int (ns.getD (ns.length - 1) 0)):=by
 have hk:ns.length - 1<ns.length:=by lia
 unfold e7 jc;rw[if_neg (by decide),if_pos (by simp;lia)]
 have e:(-1+((ns.map V.int).length:Int)).toNat=ns.length - 1:=by simp;lia
 rw[e];simp[List.getD_eq_getElem?_getD,List.getElem?_eq_getElem hk]
theorem CU(a b:String):(Str.ofString a=Str.ofString b)=(a=b):=by
 refine propext ⟨λh=>?_,λh=>by rw[h]⟩
 rw[Str.ofString_eq_toList,Str.ofString_eq_toList] at h;have h:a.toList.map Char.toNat=b.toList.map Char.toNat:=by
  injection h with h;exact Array.toList_inj.mpr h |> λz=>by simpa using h
 have inj:∀(x y:List Char),x.map Char.toNat=y.map Char.toNat->x=y:=by
  intro x
  induction x with
  | nil=>intro y h;cases y with | nil=>rfl | cons c r=>simp at h
  | cons c r ih =>
   intro y h;cases y with
   | nil=>simp at h
   | cons d q =>
    simp only[List.map_cons,List.cons.injEq] at h;rw[ih q h.2,Char.toNat_inj.mp h.1]
 exact String.ext (inj _ _ h)
theorem wk(a b:String):(Str.ofString a == Str.ofString b)=(a == b):=by
 by_cases h:a=b
 ·subst h;simp
 ·have h2:¬ Str.ofString a=Str.ofString b:=by rw[CU];exact h
  rw[lC.mpr h,lC.mpr h2]
structure uo(z:List (Int×Int)):Prop where
 l1:1<=z.length
 l5:z.length<=5
 r:∀p∈z,1<=p.1/\p.1<=40/\1<=p.2/\p.2<=60
 s2:2<=(z.map (·.1)).sum
 CV:(z.map (·.1)).sum<=120
noncomputable def counts(z:List (Int×Int)):List Int:=z.flatMap λp=>List.replicate p.1.toNat p.2
structure SwOk(sw:List Int)(n:Int):Prop where
 len:(sw.length:Int)=n
 two:2<=n
 z:sw.getD 0 0=0
 pos:∀i:Nat,1<=i->i<sw.length->1<=sw.getD i 0/\sw.getD i 0<=1000000000
 up:∀i:Nat,1<=i->i<sw.length->sw.getD (i - 1) 0<=sw.getD i 0
 no:∀a b:Nat,1<=a->1<=b->a+b<sw.length->sw.getD (a+b) 0<=sw.getD a 0+sw.getD b 0
noncomputable def fj(s:Int):Nat->List Int->List (Int×Int)
 | _,[]=>[]
 | r,c::cs=>(List.range (c - s).toNat).map (λ(k:Nat)=>((r:Int),(k:Int)))++fj s (r+1) cs
noncomputable def gi(rc:List Int)(s:Int):List (Int×Int):=fj s 0 rc
noncomputable def kT(p:Int×Int):List Key:=[.inl p.1,.inl p.2]
noncomputable def iU:Nat->List (Int×Int)->List (List Key×V)->List (List Key×V)
 | _,[],acc=>acc
 | i,p::r,acc=>iU (i+1) r (putK acc (kT p) (.int i))
noncomputable def ql(z:List (Int×Int)):List (List Key×V):=iU 0 z []
theorem S4(s:Int):∀(xs ys:List Int) (r:Nat),fj s r (xs++ys)=fj s r xs++fj s (r+xs.length) ys
 | [],ys,r=>by simp[fj]
 | x::xs,ys,r=>by
  rw[pO,fj,fj,S4 s xs ys (r+1),sM,eY];congr 3;lia
theorem S5:∀(xs ys:List (Int×Int)) (i:Nat) (acc:List (List Key×V)),iU i (xs++ys) acc=iU (i+xs.length) ys (iU i xs acc)
 | [],ys,i,acc=>by simp[iU]
 | x::xs,ys,i,acc=>by
  rw[pO,iU,iU,S5 xs ys (i+1),eY];congr 1;lia
theorem S6:∀(xs:List (Int×Int)) (i:Nat) (acc:List (List Key×V)),(iU i xs acc).length<=acc.length+xs.length
 | [],i,acc=>by simp[iU]
 | x::xs,i,acc=>by
  rw[iU];have h1:=S6 xs (i+1) (putK acc (kT x) (.int i));have h2:=Ho acc (kT x) (.int i);rw[eY];lia
theorem S7(x y:List (Int×Int)):counts (x++y)=counts x++counts y:=by simp[counts]
theorem rF:∀(z:List (Int×Int)),(∀p∈z,1<=p.1)->((counts z).length:Int)=(z.map (·.1)).sum
 | [],_=>rfl
 | p::z,h=>by
  have ih:=rF z λp hp=>h p (bW _ hp);have h1:=h p cA;simp only[counts,List.flatMap_cons,List.length_append,List.length_replicate,List.map_cons,List.sum_cons] at ih ⊢;lia
theorem S8{z:List (Int×Int)}(ok:uo z)(i:Nat):(counts (z.take i)).length<=120:=by
 have h0:=rF z λp hp=>(ok.r p hp).1;have e:z=z.take i++z.drop i:=(xP i z).symm;have e2:(counts z).length=(counts (z.take i)).length+(counts (z.drop i)).length:=by
  rw[← fE,← S7,xP]
 have:=ok.CV;lia
theorem rG{z:List (Int×Int)}{c:Int}(h:c∈counts z):∃p∈z,c=p.2:=by
 obtain⟨p,hp,hc⟩:=Gh.mp h;exact⟨p,hp,(List.mem_replicate.mp hc).2⟩
theorem CW{s:Int}(hs:0<=s):∀(rc:List Int) (r:Nat),(∀c∈rc,0<=c/\c<=1000)->(fj s r rc).length<=1000*rc.length
 | [],_,_=>by simp[fj]
 | c::rc,r,h=>by
  have ih:=CW hs rc (r+1) λc hc=>h c (bW _ hc);have h1:=h c cA;simp only[fj,List.length_append,List.length_map,List.length_range,List.length_cons];lia
theorem acM{s:Int}(hs:0<=s){rc:List Int}(h:∀c∈rc,0<=c/\c<=1000)(i:Nat):(fj s 0 (rc.take i)).length<=1000*rc.length:=by
 have h1:=CW hs (rc.take i) 0 λc hc=>h c (pR hc);rw[d9] at h1;have h2:1000*min i rc.length<=1000*rc.length:=Nat.mul_le_mul_left _ (Nat.min_le_right _ _);exact cX h1 h2
theorem oM:sizeLine=16777216:=by decide
theorem S9(n:Nat)(c:Int):(List.replicate n [V.int c]).flatten=(List.replicate n c).map V.int:=by
 induction n with
 | zero=>rfl
 | succ n ih=>rw[pS,ve,ih,pS,dM];rfl
theorem S_{α:Type}{l:List α}{i:Nat}{x:α}(h:l[i]? = some x):i<l.length:=(ie.mp h).1
theorem take_succ_get{α:Type}{l:List α}{i:Nat}{x:α}(h:l[i]? = some x):l.take (i+1)=l.take i++[x]:=by
 rw[List.take_add_one,h];rfl
theorem zI(l:List Int){i:Nat}(h:i<l.length):l[i]? = some (l.getD i 0):=by
 simp[List.getD_eq_getElem?_getD,List.getElem?_eq_getElem h]
theorem e8{α β:Type}{f:α->β}{l:List α}{i:Nat}{y:β}(h:(l.map f)[i]? = some y):∃x,l[i]? = some x/\y=f x:=by
 rw[ju] at h;cases e:l[i]? with
 | none=>rw[e] at h;cases h
 | some x=>rw[e] at h;exact⟨x,rfl,(dh h).symm⟩
theorem get_mem{α:Type}{l:List α}{i:Nat}{x:α}(h:l[i]? = some x):x∈l:=jv h
theorem dB{α:Type}{l:List α}{i:Nat}{x:α}(h:l[i]? = some x):i<l.length:=(ie.mp h).1
theorem aj.put{H:Hp}{a:Addr}{o:HO}(h:H a=none):aj H (upd H a o):=λb u e=>by rw[aI (bX e h)];exact e
theorem aj.put2{H H':Hp}{a:Addr}{o:HO}(s:aj H H')(h:H a=none):aj H (upd H' a o):=λb u e=>by rw[aI (bX e h)];exact s b u e
theorem aj.gH{K:W.Frag}{H H':Hp}{a:Addr}{xs:List V}(e:aj H H')(h:aL K H a xs):aL K H' a xs:=by
 rcases h with(h | ⟨o,h⟩) | h
 ·exact .inl (.inl (e _ _ h))
 ·exact .inl (.inr ⟨o,e _ _ h⟩)
 ·exact .inr h
theorem Zn.sq{K:W.Frag}{H:Hp}{a:Addr}{ts:List Addr}{z:List (Int×Int)}(h:Zn H a ts z):az K H a (ts.map V.ref):=az.of h.l
section
variable{X:Cx}{K:W.Frag}
theorem acN(h:X.K=K):mW X (tX K):=h▸vU
end
section
variable{K:W.Frag}{ta:TA}{tl:TE}{g:TG}{tb:TS}{D:Ends}{σ:St}{H:Hp}
theorem rl(a:Addr)(xs:List V)(Pv:Nat->St->Hp->Prop)(m_:∀Q:VK,Q (.ref a) H->tl σ H Q)(eg:az K H a xs)(h0:Pv 0 σ H)(hl:∀i σ H,i<=xs.length->Pv i σ H->az K H a xs)
  (hs:∀i x σ H (N:St->Hp->Prop),(∀σ H,Pv (i+1) σ H->N σ H)->xs[i]? = some x->Pv i σ H->g x σ H λaC H2=>tb { D with nx:=N,ct:=N,bk:=D.nx } aC H2) (hd:∀σ H,Pv xs.length σ H->D.nx σ H):lI (qc K tl) g tb D σ H :=
 acI a xs m_ eg Pv h0 hl (λi x σ H hx p=>hs i x σ H _ (λ_ _ z=>z) hx p) hd
theorem CY(n:Nat)(Pv:Nat->St->Hp->Prop)(gF:∀Q:List V->Hp->Prop,Q [.int (n:Int)] H->ta σ H Q)(hn:n<1000000000)(h0:Pv 0 σ H)
  (hs:∀i σ H (N:St->Hp->Prop),(∀σ H,Pv (i+1) σ H->N σ H)->i<n->Pv i σ H->g (.int (i:Int)) σ H λaC H2=>tb { D with nx:=N,ct:=N,bk:=D.nx } aC H2) (hd:∀σ H,Pv n σ H->D.nx σ H):lI (yy ta) g tb D σ H :=
 acG n gF hn Pv h0 (λi σ H hx p=>hs i σ H _ (λ_ _ z=>z) hx p) hd
theorem wm(lo hi:Int)(Pv:Nat->St->Hp->Prop)(gF:∀Q:List V->Hp->Prop,Q [.int lo,.int hi] H->ta σ H Q)(b1 : -1000000000000<lo)(b2:lo<1000000000000)(b3 : -1000000000000<hi)(b4:hi<1000000000000)(h0:Pv 0 σ H)
  (hs:∀i σ H (N:St->Hp->Prop),(∀σ H,Pv (i+1) σ H->N σ H)->i<(hi - lo).toNat->Pv i σ H->g (.int (lo+(i:Int))) σ H λaC H2=>tb { D with nx:=N,ct:=N,bk:=D.nx } aC H2) (hd:∀σ H,Pv (hi - lo).toNat σ H->D.nx σ H):lI (yz ta) g tb D σ H :=
 acH lo hi gF b1 b2 b3 b4 Pv h0 (λi σ H hx p=>hs i σ H _ (λ_ _ z=>z) hx p) hd
theorem CZ(n:Int)(Pv:Nat->St->Hp->Prop)(gF:∀Q:List V->Hp->Prop,Q [.int n] H->ta σ H Q)(HP : -1000000000000<n)(hn:n<1000000000000)(h0:Pv 0 σ H)
  (hs:∀i σ H (N:St->Hp->Prop),(∀σ H,Pv (i+1) σ H->N σ H)->i<n.toNat->Pv i σ H->g (.int (i:Int)) σ H λaC H2=>tb { D with nx:=N,ct:=N,bk:=D.nx } aC H2) (hd:∀σ H,Pv n.toNat σ H->D.nx σ H):lI (yy ta) g tb D σ H:=by
 refine gF _ ⟨n,rfl,by lia,by lia,?_⟩
 refine GU Pv h0 (λi σ H hi p=>?_) hd;have e2:(0:Int)+(i:Int)=i:=by lia
 rw[e2];exact hs i σ H _ (λ_ _ z=>z) hi p
theorem re(a:Addr)(xs:List V)(Pv:Nat->St->Hp->Prop)(gF:∀Q:List V->Hp->Prop,Q [.ref a] H->ta σ H Q)(eg:az K H a xs)(h0:Pv 0 σ H)(hl:∀i σ H,i<=xs.length->Pv i σ H->az K H a xs)
  (hs:∀i x σ H T (N:St->Hp->Prop),(∀σ H,Pv (i+1) σ H->N σ H)->xs[i]? = some x->Pv i σ H->H T=none->g (.ref T) σ (upd H T (.tup [.int i,x])) λaC H2=>tb { D with nx:=N,ct:=N,bk:=D.nx } aC H2) (hd:∀σ H,Pv xs.length σ H->D.nx σ H):lI (CT K ta) g tb D σ H :=
 acJ a xs gF eg Pv h0 hl (λi x σ H T hx p hT=>hs i x σ H T _ (λ_ _ z=>z) hx p hT) hd
def rH(K:W.Frag)(a:Addr)(g:TG)(tb:TS)(D:Ends)(σ:St)(H:Hp):Prop:=(∃xs,az K H a xs)/\∃W:Nat->Nat->St->Hp->Prop,(∃m,W 0 m σ H)/\∀i m σ H,W i m σ H->
 ((q8 K a).stop i H/\D.nx σ H)\/((q8 K a).go i H/\∃N:St->Hp->Prop,(∀bK H',N bK H'->∃m',m' < m/\W (i+1) m' bK H')/\∀x H',(q8 K a).qb i H x H'->g x σ H' λaC H2=>tb { D with nx:=N,ct:=N,bk:=D.nx } aC H2)
theorem zJ(h:tl σ H λx H1=>∃a,x = .ref a/\rH K a g tb D σ H1):lI (qc K tl) g tb D σ H:=h
theorem rH.by(a:Addr)(xs:List V)(Pv:Nat->St->Hp->Prop)(eg:az K H a xs)(h0:Pv 0 σ H)(hl:∀i σ H,i<=xs.length->Pv i σ H->az K H a xs)
  (hs:∀i x σ H (N:St->Hp->Prop),(∀σ H,Pv (i+1) σ H->N σ H)->xs[i]? = some x->Pv i σ H->g x σ H λaC H2=>tb { D with nx:=N,ct:=N,bk:=D.nx } aC H2) (hd:∀σ H,Pv xs.length σ H->D.nx σ H):rH K a g tb D σ H :=
 ⟨⟨xs,eg⟩,RV Pv h0 hl (λi x σ H hx p=>hs i x σ H _ (λ_ _ z=>z) hx p) hd⟩
variable{tt:TT}{te:TE}{nt:Nat}{fv:List Nat}{Q:VK}
theorem Tc(lo hi:Int)(Pv:Addr->Nat->List V->St->Hp->Prop)(gF:∀Q:List V->Hp->Prop,Q [.int lo,.int hi] H->ta σ H Q)(b1 : -1000000000000<lo)(b2:lo<1000000000000)(b3 : -1000000000000<hi)(b4:hi<1000000000000)
  (h0:∀D,H D=none->Pv D 0 [] (jF σ nt fv) (upd H D (.lst []))) (hD:∀D i ys σ H,Pv D i ys σ H->H D=some (.lst ys)/\ys.length<sizeLine)
  (hs:∀D i ys aC H2 (N:List V->St->Hp->Prop),(∀ys σ H,Pv D (i+1) ys σ H->N ys σ H)->i<(hi - lo).toNat->Pv D i ys aC H2->g (.int (lo+(i:Int))) aC H2 λcH H4=>tt cH H4 λb H5=>if b=true then te cH H5 λv H6=>H6 D=some (.lst ys)/\N (ys++[v]) cH (upd H6 D (.lst (ys++[v]))) else N ys cH H5)
  (hd:∀D ys aC H2,Pv D (hi - lo).toNat ys aC H2->Q (.ref D) H2):mZ (yz ta) g tt te nt fv σ H Q :=
 acK lo hi gF b1 b2 b3 b4 Pv h0 hD (λD i ys aC H2 hi p=>hs D i ys aC H2 _ (λ_ _ _ z=>NX.of hi z) hi p) hd
theorem je(a:Addr)(xs:List V)(Pv:Addr->Nat->List V->St->Hp->Prop)(m_:∀Q:VK,Q (.ref a) H->tl σ H Q)(eg:az K H a xs)
  (h0:∀D,H D=none->Pv D 0 [] (jF σ nt fv) (upd H D (.lst []))) (hD:∀D i ys σ H,Pv D i ys σ H->H D=some (.lst ys)/\ys.length<sizeLine/\az K H a xs)
  (hs:∀D i x ys aC H2 (N:List V->St->Hp->Prop),(∀ys σ H,Pv D (i+1) ys σ H->N ys σ H)->xs[i]? = some x->Pv D i ys aC H2->g x aC H2 λcH H4=>tt cH H4 λb H5=>if b=true then te cH H5 λv H6=>H6 D=some (.lst ys)/\N (ys++[v]) cH (upd H6 D (.lst (ys++[v]))) else N ys cH H5)
  (hd:∀D ys aC H2,Pv D xs.length ys aC H2->Q (.ref D) H2):mZ (qc K tl) g tt te nt fv σ H Q :=
 acL a xs m_ eg Pv h0 hD (λD i x ys aC H2 hx p=>hs D i x ys aC H2 _ (λ_ _ _ z=>NX.of (ie.mp hx).1 z) hx p) hd
end
theorem ni{K:W.Frag}{H:Hp}{σ:St}{t:Addr}{x y:V}{n i j:Nat}{Q:St->Hp->Prop}(h:aL K H t [x,y])(hn:2=n)(q:Q ((σ.set i (some x)).set j (some y)) H):tu K n (s_ (oB i) (s_ (oB j) vF)) (.ref t) σ H Q :=
 ⟨t,[x,y],rfl,h,hn,x,[y],rfl,y,[],rfl,rfl,q⟩
theorem lenZ{ts:List Addr}{z:List (Int×Int)}(h:ts.length=z.length):(ts.map V.ref).length=z.length:=by simpa using h
theorem Zn.snoc{H:Hp}{l p:Addr}{ts:List Addr}{z:List (Int×Int)}(h:Zn H l ts z)(hp:H p=none)(a b:Int):Zn (upd (upd H p (.tup [.int a,.int b])) l (.lst (ts.map V.ref++[V.ref p]))) l (ts++[p]) (z++[(a,b)]):=by
 have zK:l≠p:=bX h.l hp;refine⟨by rw[aD,bZ];rfl,by simp[h.n],λi t q e1 e2=>?_⟩
 have hn:=h.n;by_cases hi:i<ts.length
 ·rw[d7 hi] at e1;rw[d7 (by lia)] at e2
  have ht:=h.t i t q e1 e2;rw[aI (iZ ht h.l (by intro z;cases z)),aI (bX ht hp)]
  exact ht
 ·rw[d8 (by lia)] at e1
  rw[d8 (by lia)] at e2
  have c_:i - ts.length=0:=by
   have:=S_ e1;simp at this;lia
  rw[c_] at e1;rw[← hn,c_] at e2;simp at e1 e2;subst e1 e2;rw[aI zK.symm,aD]
def acO(t:TS):TS:=λD σ H=>∃M:St->Hp->Prop,t { D with nx:=M } σ H/\∀fV H1,M fV H1->D.nx fV H1
theorem acP{X:Cx}{st:Stmt}{t:TS}(h:PS X st t):PS X st (acO t):=by
 rintro pins s σ H D I ⟨M,hM,k⟩;refine aW (h pins s σ H _ I hM) λf s1 q=>?_;cases f with
 | next=>obtain⟨fV,H1,I1,q⟩:=q;exact⟨fV,H1,I1,k _ _ q⟩
 | brk=>exact q
 | cont=>exact q
 | ret u=>exact q
def acQ(K:W.Frag):Sp:=λvs H Q _=>∃(a:Addr) (ts:List Addr) (z:List (Int×Int)),vs = [.ref a]/\Zn H a ts z/\uo z/\∀H',aj H H'->Q .aO H'
def acR(K:W.Frag):Sp:=λvs H Q _=>∃(a:Addr) (ts:List Addr) (z:List (Int×Int)) (au cy:Int),vs = [.ref a,.int au,.int cy]/\Zn H a ts z/\uo z/\1<=au/\au<=1000000000/\0<=cy/\cy<au/\
 (∀p∈z,au % p.2=0)/\Q .aO H
def acS(K:W.Frag):Sp:=λvs H Q _=>∃(a:Addr) (sw:List Int) (n:Int),vs = [.ref a,.int n]/\az K H a (sw.map V.int)/\SwOk sw n/\n<=1000/\Q .aO H
def acT(K:W.Frag):Sp:=λvs H Q _=>∃(a:Addr) (sw:List Int) (n:Int),vs = [.ref a]/\az K H a (sw.map V.int)/\SwOk sw n/\n<=1000/\Q .aO H
def acU(K:W.Frag):Sp:=λvs H Q _=>∃(a:Addr) (ts:List Addr) (z:List (Int×Int)),vs = [.ref a]/\Zn H a ts z/\uo z/\
 ∀l H',aj H H'->H l=none->H' l=some (.lst ((counts z).map V.int))->Q (.ref l) H'
def acV(K:W.Frag):Sp:=λvs H Q _=>∃(a:Addr) (rc:List Int) (s:Int),vs = [.ref a,.int s]/\az K H a (rc.map V.int)/\rc.length<=1000/\(∀c∈rc,0<=c/\c<=1000)/\0<=s/\s<=1000/\
 ∀l ts H',aj H H'->H l=none->(∀t∈ts,H t=none)->Zn H' l ts (gi rc s)->Q (.ref l) H'
def acW(K:W.Frag):Sp:=λvs H Q _=>∃(a:Addr) (ts:List Addr) (z:List (Int×Int)),vs = [.ref a]/\Zn H a ts z/\z.length<=1000000/\
 ∀d H',aj H H'->H d=none->H' d=some (.dT (ql z))->Q (.ref d) H'
structure Pl where
 rc:List Int
 au:Int
 cy:Int
 sw:List Int
 nc:List (Int×Int)
structure CP(K:W.Frag)(C:Addr):Prop where
 cl:dF K C
 n1:b9 K C "ring_cells"
 n2:b9 K C "lap"
 n3:b9 K C "skew"
 n4:b9 K C "swing"
 n5:b9 K C "number_cells"
 n6:b9 K C "cell_numbers"
noncomputable def uq(a1:Addr)(au cy:Int)(a2 a3 a4:Addr):List (Str×V):=[("ring_cells",.ref a1),("lap",.int au),("skew",.int cy),("swing",.ref a2),("number_cells",.ref a3),("cell_numbers",.ref a4)]
structure qm(K:W.Frag)(C:Addr)(H:Hp)(p:Addr)(P:Pl)(dx a1 a2 a3 a4:Addr)(ts:List Addr)(fs:List (Str×V)):Prop where
 cp:CP K C
 o:H p=some (.ins C dx fs)
 f1:fs.lookup ("ring_cells" : Str)=some (.ref a1)
 f2:fs.lookup ("lap" : Str)=some (.int P.au)
 f3:fs.lookup ("skew" : Str)=some (.int P.cy)
 f4:fs.lookup ("swing" : Str)=some (.ref a2)
 f5:fs.lookup ("number_cells" : Str)=some (.ref a3)
 f6:fs.lookup ("cell_numbers" : Str)=some (.ref a4)
 m1:fs.lookup ("rings" : Str)=none
 m2:fs.lookup ("total" : Str)=none
 m3:fs.lookup ("cells_of" : Str)=none
 m4:fs.lookup ("beats_of" : Str)=none
 m5:fs.lookup ("lap_beats" : Str)=none
 m6:fs.lookup ("begins" : Str)=none
 m7:fs.lookup ("swing_of" : Str)=none
 m8:fs.lookup ("has_cell" : Str)=none
 m9:fs.lookup ("cell_at" : Str)=none
 gI:fs.lookup ("number_of" : Str)=none
 gZ:fs.lookup ("laid" : Str)=none
 rc:H a1=some (.lst (P.rc.map V.int))
 sw:H a2=some (.lst (P.sw.map V.int))
 nc:Zn H a3 ts P.nc
 cn:H a4=some (.dT (ql P.nc))
theorem qm.lit{K:W.Frag}{C:Addr}{H:Hp}{p:Addr}{P:Pl}{dx a1 a2 a3 a4:Addr}{ts:List Addr}(cp:CP K C)(o:H p=some (.ins C dx (uq a1 P.au P.cy a2 a3 a4)))(rc:H a1=some (.lst (P.rc.map V.int)))(sw:H a2=some (.lst (P.sw.map V.int)))
  (nc:Zn H a3 ts P.nc) (cn:H a4=some (.dT (ql P.nc))):qm K C H p P dx a1 a2 a3 a4 ts (uq a1 P.au P.cy a2 a3 a4):=by
 refine⟨cp,o,?_,?_,?_,?_,?_,?_,?_,?_,?_,?_,?_,?_,?_,?_,?_,?_,?_,rc,sw,nc,cn⟩ <;> simp[uq,List.lookup_cons,wk]
def cY(K:W.Frag)(C:Addr)(H:Hp)(p:Addr)(P:Pl)(fp:List Addr):Prop:=∃dx a1 a2 a3 a4 ts fs,fp=a1::a2::a3::a4::ts/\qm K C H p P dx a1 a2 a3 a4 ts fs
theorem Zn.keep{H H':Hp}{a:Addr}{ts:List Addr}{z:List (Int×Int)}(h:Zn H a ts z)(ha:H' a=H a)(ht:∀t∈ts,H' t=H t):Zn H' a ts z :=
 ⟨ha.trans h.l,h.n,λi t p e1 e2=>(ht t (jv e1)).trans (h.t i t p e1 e2)⟩
theorem Zn.has{H:Hp}{a:Addr}{ts:List Addr}{z:List (Int×Int)}(h:Zn H a ts z){t:Addr}(ht:t∈ts):∃o,H t=some o:=by
 obtain⟨i,hi,rfl⟩:=mH.mp ht;have hz:i<z.length:=by rw[← h.n];exact hi
 exact⟨_,h.t i _ _ (aX hi) (aX hz)⟩
section
variable{K:W.Frag}{C:Addr}{H H':Hp}{p x:Addr}{P:Pl}{fp:List Addr}
theorem qm.move{dx a1 a2 a3 a4:Addr}{ts:List Addr}{fs:List (Str×V)}(h:qm K C H p P dx a1 a2 a3 a4 ts fs)(ho:H' p=H p)(h1:H' a1=H a1)(h2:H' a2=H a2)(h3:H' a3=H a3)(h4:H' a4=H a4)(ht:∀t∈ts,H' t=H t):qm K C H' p P dx a1 a2 a3 a4 ts fs :=
 { h with o:=ho.trans h.o,rc:=h1.trans h.rc,sw:=h2.trans h.sw,nc:=h.nc.keep h3 ht,cn:=h4.trans h.cn }
theorem cY.keep(h:cY K C H p P fp)(hp:H' p=H p)(e:∀b∈fp,H' b=H b):cY K C H' p P fp:=by
 obtain⟨dx,a1,a2,a3,a4,ts,fs,rfl,h⟩:=h;exact⟨dx,a1,a2,a3,a4,ts,fs,rfl,h.move hp (e a1 (by simp)) (e a2 (by simp)) (e a3 (by simp)) (e a4 (by simp)) λt ht=>e t (by simp[ht])⟩
theorem cY.has(h:cY K C H p P fp){b:Addr}(hb:b∈fp):∃o,H b=some o:=by
 obtain⟨nj,a1,a2,a3,a4,ts,fs,rfl,h⟩:=h;simp only[List.mem_cons] at hb;rcases hb with rfl | rfl | rfl | rfl | hb
 ·exact⟨_,h.rc⟩
 ·exact⟨_,h.sw⟩
 ·exact⟨_,h.nc.l⟩
 ·exact⟨_,h.cn⟩
 ·exact h.nc.has hb
theorem cY.here(h:cY K C H p P fp):∃o,H p=some o:=by
 obtain⟨nj,a1,a2,a3,a4,ts,fs,rfl,h⟩:=h;exact⟨_,h.o⟩
theorem cY.same(h:cY K C H p P fp)(s:aj H H'):cY K C H' p P fp:=by
 refine h.keep ?_ λb hb=>?_
 ·obtain⟨o,e⟩:=h.here;rw[e];exact s _ _ e
 ·obtain⟨o,e⟩:=h.has hb;rw[e];exact s _ _ e
def SameBut(x:Addr)(H H':Hp):Prop:=∀b o,H b=some o->b≠x->H' b=some o
theorem SameBut.put{o:HO}(s:SameBut x H H'):SameBut x H (upd H' x o):=λb u e h=>by rw[aI h];exact s b u e h
theorem SameBut.step{H1 H2:Hp}(s:SameBut x H H1)(t:aj H1 H2):SameBut x H H2:=λb u e h=>t _ _ (s b u e h)
theorem SameBut.of(s:aj H H'):SameBut x H H':=λb u e _=>s _ _ e
end
def acX(K:W.Frag):Sp:=λvs H Q _=>∃(C p dx za sa:Addr) (bB:List Addr) (z:List (Int×Int)) (au cy:Int) (sw:List Int),vs = [.ref p,.ref za,.int au,.int cy,.ref sa]/\CP K C/\H p=some (.ins C dx [])/\Zn H za bB z/\uo z/\
 1<=au/\au<=1000000000/\0<=cy/\cy<au/\(∀p∈z,au % p.2=0)/\az K H sa (sw.map V.int)/\SwOk sw (z.map (·.1)).sum/\
 ∀H' dx a1 a2 a3 a4 ts,SameBut p H H'->(∀b∈a1::a2::a3::a4::ts,H b=none)->H' p=some (.ins C dx (uq a1 au cy a2 a3 a4))->qm K C H' p ⟨counts z,au,cy,sw,gi (counts z) 0⟩ dx a1 a2 a3 a4 ts (uq a1 au cy a2 a3 a4)->Q .aO H'
def acY(K:W.Frag):Sp:=λvs H Q _=>∃(C p:Addr) (P:Pl) (fp:List Addr) (i j:Int),vs = [.ref p,.int i,.int j]/\cY K C H p P fp/\(i - j).natAbs<P.sw.length/\Q (.int (P.sw.getD (i - j).natAbs 0)) H
def acZ(K:W.Frag):Sp:=λvs H Q _=>∃(C p:Addr) (P:Pl) (fp:List Addr),vs = [.ref p]/\cY K C H p P fp/\Q (.int P.rc.length) H
def ac0(K:W.Frag):Sp:=λvs H Q _=>∃(C p:Addr) (P:Pl) (fp:List Addr),vs = [.ref p]/\cY K C H p P fp/\Q (.int P.nc.length) H
def ac1(K:W.Frag):Sp:=λvs H Q _=>∃(C p:Addr) (P:Pl) (fp:List Addr),vs = [.ref p]/\cY K C H p P fp/\Q (.int P.au) H
def ac2(K:W.Frag):Sp:=λvs H Q _=>∃(C p:Addr) (P:Pl) (fp:List Addr) (r:Int),vs = [.ref p,.int r]/\cY K C H p P fp/\0<=r/\r<P.rc.length/\0<P.rc.getD r.toNat 0/\P.rc.getD r.toNat 0<=1000/\Q (.int (P.au / P.rc.getD r.toNat 0)) H
def ac3(K:W.Frag)(cs:List Addr):Sp:=λvs H Q _=>∃(C p:Addr) (P:Pl) (fp:List Addr) (r c:Int),vs = [.ref p,.int r,.int c]/\C∈cs/\cY K C H p P fp/\0<=r/\r<P.rc.length/\P.rc.length<=1000/\0<P.rc.getD r.toNat 0/\P.rc.getD r.toNat 0<=1000/\
 0<=c/\c<=1000/\0<P.au/\Q (.int ((c*(P.au / P.rc.getD r.toNat 0)+r*P.cy) % P.au)) H
def ac4(K:W.Frag):Sp:=λvs H Q _=>∃(C p:Addr) (P:Pl) (fp:List Addr) (r c:Int),vs = [.ref p,.int r,.int c]/\cY K C H p P fp/\Q (.bl (decide (0<=r/\r<P.rc.length/\0<=c/\c<P.rc.getD r.toNat 0))) H
def ac5(K:W.Frag):Sp:=λvs H Q _=>∃(C p:Addr) (P:Pl) (fp:List Addr) (k:Int),vs = [.ref p,.int k]/\cY K C H p P fp/\0<=k/\k<P.nc.length/\∀t q,P.nc[k.toNat]? = some q->H t=some (.tup [.int q.1,.int q.2])->Q (.ref t) H
def ac6(K:W.Frag)(cs:List Addr):Sp:=λvs H Q _=>∃(C p:Addr) (P:Pl) (fp:List Addr) (r c:Int),vs = [.ref p,.int r,.int c]/\C∈cs/\cY K C H p P fp/\0<=r/\r<P.rc.length/\0<=c/\c<P.rc.getD r.toNat 0/\
 ∀H',aj H H'->Q ((c8 (ql P.nc) (kT (r,c))).getD .aO) H'
inductive Dt where
 | aO | bl (b:Bool) | int (i:Int) | str (s:Str) | tup (xs:List Dt) | lst (xs:List Dt)
inductive Rep (H:Hp):Nat->V->Dt->Prop where
 | aO {n:Nat}:Rep H n .aO .aO
 | bl {n:Nat} (b:Bool):Rep H n (.bl b) (.bl b)
 | int {n:Nat} (i:Int):Rep H n (.int i) (.int i)
 | str {n:Nat} (s:Str):Rep H n (.str s) (.str s)
 | tup {n:Nat} {a:Addr} {xs:List V} {ds:List Dt} (h:H a=some (.tup xs)) (l:xs.length=ds.length) (hl:ds.length<=1000000) (r:∀(i:Nat) (x:V) (d:Dt),xs[i]? = some x->ds[i]? = some d->Rep H n x d):Rep H (n+1) (.ref a) (.tup ds)
 | lst {n:Nat} {a:Addr} {xs:List V} {ds:List Dt} (h:H a=some (.lst xs)) (l:xs.length=ds.length) (hl:ds.length<=1000000) (r:∀(i:Nat) (x:V) (d:Dt),xs[i]? = some x->ds[i]? = some d->Rep H n x d):Rep H (n+1) (.ref a) (.lst ds)
noncomputable def eV(z:List (Int×Int)):Int:=z.foldl (λp x=>p*x.2) 1
theorem range_getD{f:Nat->Int}{n i:Nat}(h:i<n):((List.range n).map f).getD i 0=f i:=by
 simp[List.getD_eq_getElem?_getD,h]
theorem ac7{L:Int}(h:1<=L)(h8:L<=100000000){ns:List Int}(hb:∀x∈ns,L<=x/\x<=2*L)(hp:ns.Pairwise (·<=·))(h1:1<=ns.length):SwOk (0::ns) ((ns.length+1:Nat):Int):=by
 have at_:∀i:Nat,1<=i->i<(0::ns).length->∃hi:i - 1<ns.length,(0::ns).getD i 0=ns[i - 1]:=λi h1 hi=>by
  obtain⟨j,rfl⟩:∃j,i=j+1:=⟨i - 1,by lia⟩
  have hj:j<ns.length:=by simpa using hi
  exact⟨hj,by simp[List.getD_eq_getElem?_getD,List.getElem?_eq_getElem hj]⟩
 refine⟨by simp,by lia,rfl,λi h1 hi=>?_,λi h1 hi=>?_,λa b ha jD oN=>?_⟩
 ·obtain⟨hj,e⟩:=at_ i h1 hi;have:=hb _ (cO hj);rw[e];lia
 ·obtain⟨hj,e⟩:=at_ i h1 hi;rw[e];by_cases h2:i=1
  ·subst h2;have:=hb _ (cO hj)
   show (0:Int)<=_;lia
  ·obtain⟨lU,e2⟩:=at_ (i - 1) (by lia) (by lia)
   rw[e2];exact Gn.mp hp _ _ lU hj (by lia)
 ·obtain⟨h1,e1⟩:=at_ (a+b) (by lia) oN
  obtain⟨h2,e2⟩:=at_ a ha (by lia)
  obtain⟨h3,e3⟩:=at_ b jD (by lia)
  have:=hb _ (cO h1);have:=hb _ (cO h2);have:=hb _ (cO h3);rw[e1,e2,e3];lia
structure ZL(z:List (Int×Int)):Prop where
 ok:uo z
 pr:eV z<=32768
 sm:(z.map (·.1)).sum<=15
theorem prodF(z:List (Int×Int)):∀p:Int,z.foldl (λp x=>p*x.2) p=p*eV z:=by
 induction z with
 | nil=>intro p;simp[eV]
 | cons x z ih =>
  intro p;rw[eV,oh,oh,ih,ih (1*x.2),Int.one_mul,Int.mul_assoc]
theorem Td(x:Int×Int)(z:List (Int×Int)):eV (x::z)=x.2*eV z:=by
 rw[eV,oh,prodF,Int.one_mul]
theorem ac8(x:Int×Int)(z:List (Int×Int)):eV (z++[x])=eV z*x.2:=by
 rw[eV,xM];rfl
theorem C0{m:Int}(hm:1<=m):∀z:List (Int×Int),(∀p∈z,1<=p.2/\p.2<=m)->1<=eV z/\eV z<=m ^ z.length
 | [],_=>by simp[eV]
 | x::z,h=>by
  have ih:=C0 hm z λp hp=>h p (bW _ hp);have hx:=h x cA;rw[Td,eY,Int.pow_succ,Int.mul_comm (m ^ z.length)];constructor
  ·have:=pL hx.1 ih.1 (by decide) (by lia)
   lia
  ·exact pL hx.2 ih.2 (by lia) (by lia)
theorem Te{x:Int×Int}:∀ {z:List (Int×Int)},x∈z->x.2 ∣ eV z
 | y::z,h=>by
  rw[Td];rcases cE.mp h with rfl | h
  ·exact Int.dvd_mul_right _ _
  ·exact Int.dvd_trans (Te h) (Int.dvd_mul_left _ _)
theorem Tf{m:Int}(hm:1<=m){a b:Nat}(h:a<=b):m ^ a<=m ^ b:=by
 induction h with
 | refl=>exact lq _
 | @step b h ih =>
  rw[Int.pow_succ];have h1:1<=m ^ b:=by
   clear ih h
   induction b with
   | zero=>simp
   | succ b ih =>
    rw[Int.pow_succ];have:=pL ih hm (by decide) (by lia)
    lia
  have:=pL (lq (m ^ b)) hm (by decide) (by lia)
  lia
theorem ite_no{c A B:Prop}[Decidable c](h:¬ c)(b:B):if c then A else B:=by rw[if_neg h];exact b
theorem ite_yes{c A B:Prop}[Decidable c](h:c)(a:A):if c then A else B:=by rw[if_pos h];exact a
theorem ac9{n:Nat}(h:0<n):jc n (-1)=some (n - 1):=by
 unfold jc;rw[if_neg (by decide),if_pos (by lia)]
 congr 1;lia
structure Tg(K:W.Frag)(C:Addr)(m:Str)(f:Addr):Prop where
 ga:PySem.W.specialIn K (.ref C) "__getattribute__" = some (some (.builtin "type.__getattribute__"))
 rd:PySem.W.readsIn K C (.type "type")=true
 at_:PySem.W.findCls K (.ref C) (.type "type") m=some (.val (.ref f))
 kp:PySem.W.keepIn K (.ref f)=true
section
variable{X:Cx}{CX:jB}{k:Nat}{f C:Addr}{fd:FuncData}{ps:List Str}{sp:Sp}{cu:List V}{ds:List Value}{E:XK}{x m:Str}{p pos apos:Pos}{e:Expr}{es:List Expr}{t:TA}
theorem ac_{pl:Sem Bool}(hg:Gl X x)(hm:X.mg x=some (.ref C))(c:Tg X.K C m f)(F:a_ X.prog X.w X.K X.mg X.base CX k f fd ps sp)(hr:c7 k X.A)(hb:Binds X.K fd ps ds)(hd:Vals cu ds)(hx:Passes CX X E)(ha:PA X (e::es) t)
  (fH:starEach (e::es) X.env=(false,eval e X.env)::starEach es X.env:=by rfl) (iE:(backTo pos (starEach es X.env)).any (·.1)=false:=by rfl) (jC:(x == ("__debug__" : Str))=false:=by decide)
  (ht:eval (.Call (.Attribute (.Name x p) m apos) (e::es) [] pos) X.env=(do
   let ov ← eval (.Name x p) X.env
   standAt apos.atName
   let (f,first) ← holding [ov] (getMethod ov m pl)
   callWith pos f first (backTo pos (starEach (e::es) X.env)) (backToKw pos (keywordEach [] X.env))):=by rfl) :
  PE X (.Call (.Attribute (.Name x p) m apos) (e::es) [] pos) (tR sp cu E t):=by
 intro pins s σ H Q I h;refine Gw (pl:=pl) (sY I hg hm ?_ jC) ht;refine PySem.W.method_cls I.dW c.ga (PySem.W.cls_value I.dW c.rd c.at_ rfl ?_);have I':=I.tok (s.toks+1);refine xS (first:=[]) (h₀:=X.base) I.ok.mod.qW c.kp (aW (ha pos pins _ σ H _ I' h) λus s2 ⟨vs,H2,I2,r,q2⟩=>⟨I2.dW,?_⟩) fH iE
 exact Cw (us:=us) (vs:=vs) F hr hb hd hx I2 r q2
end
section
variable{X:Cx}
end
section
variable{X:Cx}{pins:List (Addr×Obj)}{σ:St}{H:Hp}{s:Shared}
theorem ada(I:Inv X pins σ H s):∀(n:Nat) {x y:V} {d:Dt} {u v:Value} {A:Around},A.units+n<cLine->Rep H n x d->Rep H n y d->RelV x u->RelV y v->SeqAt.EqAt A s u v true:=by
 intro n
 induction n with
 | zero =>
  intro x y d u v A hu r1 r2 rx ry;cases r1 <;> cases r2 <;> exact um rx ry (λb z=>nomatch z) (λb z=>nomatch z)
 | succ n ih =>
  intro x y d u v A hu r1 r2 rx ry;cases r1 with
  | aO=>cases r2;exact um rx ry (λb z=>nomatch z) (λb z=>nomatch z)
  | bl b=>cases r2;exact um rx ry (λb z=>nomatch z) (λb z=>nomatch z)
  | int b=>cases r2;exact um rx ry (λb z=>nomatch z) (λb z=>nomatch z)
  | str b=>cases r2;exact um rx ry (λb z=>nomatch z) (λb z=>nomatch z)
  | @lst _ a xs ds h l hl r =>
   cases r2 with
   | @lst _ b ys _ h' l' uh r' =>
    cases rx;cases ry;by_cases oN:a=b
    ·subst oN;exact sQ _
    ·obtain⟨aB,q1,p1,z1⟩:=I.list (az.of (K:=X.K) h);obtain⟨dH,q2,p2,z2⟩:=I.list (az.of (K:=X.K) h');have l1:=q1.length;have l2:=q2.length;refine SeqAt.EqAt.of_refs oN ?_;have e0:((List.range aB.toArray.size).all λ_=>true)=true:=by simp
     have fin:=Gy (A:=A) (s:=s) (e:=λ_=>true) p1.isList p2.isList (by simp;lia) (by lia) (λj h1 h2=>?_)
     ·rwa [e0] at fin
     ·have hj:j<xs.length:=by rw[l1];simpa using h1
      have lU:j<ys.length:=by lia
      have rJ:j<ds.length:=by lia
      obtain⟨u1,g1,w1⟩:=q1.get (aX hj);obtain⟨u2,g2,w2⟩:=q2.get (aX lU);have e1:aB.toArray[j] = u1:=by
       rw[lz];exact dh ((aX (by simpa using h1)).symm.trans g1)
      have e2:dH.toArray[j] = u2:=by
       rw[lz];exact dh ((aX (by simpa using h2)).symm.trans g2)
      rw[e1,e2];exact ih (by show A.units+1+n<cLine;lia) (r j _ _ (aX hj) (aX rJ)) (r' j _ _ (aX lU) (aX rJ)) w1 w2
  | @tup _ a xs ds h l hl r =>
   cases r2 with
   | @tup _ b ys _ h' l' uh r' =>
    cases rx;cases ry;by_cases oN:a=b
    ·subst oN;exact sQ _
    ·obtain⟨aB,q1,p1,z1⟩:=I.tuple (aL.of (K:=X.K) h);obtain⟨dH,q2,p2,z2⟩:=I.tuple (aL.of (K:=X.K) h');have l1:=q1.length;have l2:=q2.length;refine SeqAt.EqAt.of_refs oN ?_;have e0:((List.range (min aB.toArray.size dH.toArray.size)).all (λ_=>true) && aB.toArray.size == dH.toArray.size)=true:=by simp;lia
     have fin:=SeqAt.RcAt.tuples (A:=A) (s:=s) (e:=λ_=>true) p1 p2 (by lia) (λj h1 h2=>?_)
     ·rwa [e0] at fin
     ·have hj:j<xs.length:=by rw[l1];simpa using h1
      have lU:j<ys.length:=by lia
      have rJ:j<ds.length:=by lia
      obtain⟨u1,g1,w1⟩:=q1.get (aX hj);obtain⟨u2,g2,w2⟩:=q2.get (aX lU);have e1:aB.toArray[j] = u1:=by
       rw[lz];exact dh ((aX (by simpa using h1)).symm.trans g1)
      have e2:dH.toArray[j] = u2:=by
       rw[lz];exact dh ((aX (by simpa using h2)).symm.trans g2)
      rw[e1,e2];exact ih (by show A.units+1+n<cLine;lia) (r j _ _ (aX hj) (aX rJ)) (r' j _ _ (aX lU) (aX rJ)) w1 w2
end
section
variable{X:Cx}
end
section
variable{K:W.Frag}{ta:TA}{g:TG}{D:Ends}{σ:St}{H:Hp}{tt:TT}{te:TE}{nt:Nat}{fv:List Nat}{Q:VK}
theorem rcE(a:Addr)(xs:List V)(Pv:Addr->Nat->List V->St->Hp->Prop)(gF:∀Q:List V->Hp->Prop,Q [.ref a] H->ta σ H Q)(eg:az K H a xs)
  (h0:∀D,H D=none->Pv D 0 [] (jF σ nt fv) (upd H D (.lst []))) (hD:∀D i ys σ H,Pv D i ys σ H->H D=some (.lst ys)/\ys.length<sizeLine/\az K H a xs)
  (hs:∀D i x ys aC H2 T (N:List V->St->Hp->Prop),(∀ys σ H,Pv D (i+1) ys σ H->N ys σ H)->xs[i]? = some x->Pv D i ys aC H2->H2 T=none->g (.ref T) aC (upd H2 T (.tup [.int i,x])) λcH H4=>tt cH H4 λb H5=>if b=true then te cH H5 λv H6=>H6 D=some (.lst ys)/\N (ys++[v]) cH (upd H6 D (.lst (ys++[v]))) else N ys cH H5)
  (hd:∀D ys aC H2,Pv D xs.length ys aC H2->Q (.ref D) H2):mZ (CT K ta) g tt te nt fv σ H Q:=by
 refine gF _ ⟨a,rfl,⟨xs,eg⟩,λD ng=>?_⟩;refine⟨λi m ys aC H2=>m=xs.length - i/\i<=xs.length/\Pv D i ys aC H2,⟨_,rfl,eF _,h0 D ng⟩,?_⟩;rintro i m ys aC H2 ⟨rfl,jG,p⟩;obtain⟨d1,d2,d3⟩:=hD D i ys aC H2 p;refine⟨d1,d2,?_⟩;by_cases cF:i<xs.length
 ·refine .inr ⟨⟨xs,xs[i],d3,by simp[cF]⟩,λx H3 y=>?_⟩
  obtain⟨T,z,hT,e1,e2,e3⟩:=y;subst e1 e3;exact hs D i z ys aC H2 T (λys σ H=>NX xs.length i (Pv D (i+1) ys σ H)) (λ_ _ _ q=>NX.of cF q) (e2 xs d3) p hT
 ·have e:i=xs.length:=by lia
  subst e;exact .inl ⟨⟨xs,d3,bH _⟩,hd D ys aC H2 p⟩
end
theorem Ti{X:Cx}{K:W.Frag}{pos:Pos}{es:List Expr}{k n:Nat}{t:oA}(hK:X.K=K)(hc:X.calm=true)(h:vE X es t)(hn:(assignEach es X.env).length=n:=by rfl)(fH:(assignEach es X.env).findIdx? (·.1)=none:=by rfl):PG X (.Tuple es k pos) (tu K n t):=hK▸kM hc h hn fH
def wu(cs:List Addr)(m:Str)(sp:Sp)(cu:List V)(E:XK)(ta:TE)(t:TA):TE:=λσ H Q=>ta σ H λx H1=>∃C a dx fs,x = .ref a/\H1 a=some (.ins C dx fs)/\C∈cs/\fs.lookup m=none/\t σ H1 λvs H2=>sp (x::(vs++cu)) H2 Q E
section
variable{X:Cx}{CX:jB}{k:Nat}{f:Addr}{cs:List Addr}{fd:FuncData}{ps:List Str}{sp:Sp}{cu:List V}{ds:List Value}{E:XK}{m:Str}{pos apos:Pos}{o e:Expr}{es:List Expr}{ta:TE}{t:TA}
theorem nq{pl:Sem Bool}(ho:PE X o ta)(hc:∀C∈cs,dF X.K C/\Meth X.K C m f)(F:a_ X.prog X.w X.K X.mg X.base CX k f fd ps sp)(hr:c7 k X.A)(hb:Binds X.K fd ps ds)(hd:Vals cu ds)(hx:Passes CX X E)(ha:PA X (e::es) t)
  (fH:starEach (e::es) X.env=(false,eval e X.env)::starEach es X.env:=by rfl) (iE:(backTo pos (starEach es X.env)).any (·.1)=false:=by rfl)
  (HQ:eval (.Call (.Attribute o m apos) (e::es) [] pos) X.env=(do
   let ov ← eval o X.env
   standAt apos.atName
   let (f,first) ← holding [ov] (getMethod ov m pl)
   callWith pos f first (backTo pos (starEach (e::es) X.env)) (backToKw pos (keywordEach [] X.env))):=by rfl):PE X (.Call (.Attribute o m apos) (e::es) [] pos) (wu cs m sp cu E ta t):=by
 intro pins s σ H Q I h;refine Gw (pl:=pl) (aW (ho pins s σ H _ I h) λu s1 hz=>?_) HQ;obtain⟨x,H1,I1,rx,C,a,dx,fs,ex,ea,hC,hl,q⟩:=hz;subst ex;cases (show u=Value.ref a from rx);obtain⟨c1,c2⟩:=hc C hC;refine R8 I1 ea c1 c2 hl (xS (first:=[.ref a]) (h₀:=X.base) I.ok.mod.qW c2.kp (aW (ha pos pins s1 σ H1 _ I1 q) λus s2 hw=>?_) fH iE)
 obtain⟨vs,H2,I2,r,q2⟩:=hw;exact⟨I2.dW,Cw (us:=.ref a::us) (vs:=.ref a::vs) F hr hb hd hx I2 (.cons rfl r) q2⟩
theorem zL{pl:Sem Bool}(ho:PE X o ta)(hc:∀C∈cs,dF X.K C/\Meth X.K C m f)(F:a_ X.prog X.w X.K X.mg X.base CX k f fd ps sp)(hr:c7 k X.A)(hb:Binds X.K fd ps ds)(hd:Vals cu ds)(hx:Passes CX X E)
  (HQ:eval (.Call (.Attribute o m apos) [] [] pos) X.env=(do
   let ov ← eval o X.env
   standAt apos.atName
   let (f,first) ← holding [ov] (getMethod ov m pl)
   callWith pos f first (backTo pos (starEach [] X.env)) (backToKw pos (keywordEach [] X.env))):=by rfl):PE X (.Call (.Attribute o m apos) [] [] pos) (wu cs m sp cu E ta vM):=by
 intro pins s σ H Q I h;refine Gw (pl:=pl) (aW (ho pins s σ H _ I h) λu s1 hz=>?_) HQ;obtain⟨x,H1,I1,rx,C,a,dx,fs,ex,ea,hC,hl,q⟩:=hz;subst ex;cases (show u=Value.ref a from rx);obtain⟨c1,c2⟩:=hc C hC;refine R8 I1 ea c1 c2 hl (PySem.W.callWith_K0 (first:=[.ref a]) I1.dW c2.kp ?_)
 exact Cw (us:=[.ref a]) (vs:=[.ref a]) F hr hb hd hx I1 (.cons rfl .nil) q
end
theorem HR{p q:Int×Int}(h:kT p=kT q):p=q:=by
 unfold kT at h;simp only[List.cons.injEq,Sum.inl.injEq,and_true] at h;exact Prod.ext h.1 h.2
theorem Tj{s:Int}:∀ {rc:List Int} {r:Nat} {q:Int×Int},q∈fj s r rc↔∃j:Nat,j<rc.length/\q.1=((r+j:Nat):Int)/\0<=q.2/\q.2<rc.getD j 0 - s
 | [],r,q=>by simp[fj]
 | c::rc,r,q=>by
  rw[fj,fM,Tj (rc:=rc) (r:=r+1)];constructor
  ·rintro(h | ⟨j,h1,h2,h3,h4⟩)
   ·obtain⟨k,hk,rfl⟩:=fG.mp h;rw[List.mem_range] at hk;exact⟨0,by simp,by simp,by dsimp only;lia,by simp only[List.getD_cons_zero];lia⟩
   ·exact⟨j+1,by simpa using h1,by rw[h2];congr 1;lia,h3,by simpa using h4⟩
  ·rintro⟨j,h1,h2,h3,h4⟩;cases j with
   | zero =>
    left;refine fG.mpr ⟨q.2.toNat,gT.mpr ?_,?_⟩
    ·simp only[List.getD_cons_zero] at h4;lia
    ·refine Prod.ext ?_ ?_
     ·rw[h2];simp
     ·dsimp only;lia
   | succ j =>
    right;exact⟨j,by simpa using h1,by rw[h2];congr 1;lia,h3,by simpa using h4⟩
theorem Tn{s:Int}:∀(rc:List Int) (r:Nat),(fj s r rc).Nodup
 | [],r=>BJ
 | c::rc,r=>by
  rw[fj,BI];refine⟨?_,Tn rc (r+1),?_⟩
  ·rw[Gk,Gp];refine Gb ?_ (List.nodup_iff_pairwise_ne.mp BK);intro a b h e;simp at e;lia
  ·intro x hx y hy e;subst e;obtain⟨k,_,rfl⟩:=fG.mp hx;obtain⟨j,_,h2,_⟩:=Tj.mp hy;simp at h2;lia
noncomputable def j0(aA:List (List Key×V)):Nat->List (Int×Int)->List Int
 | _,[]=>[]
 | i,q::z=>if (c8 aA (kT q)).isSome=true then(i:Int)::j0 aA (i+1) z else j0 aA (i+1) z
theorem HS(aA:List (List Key×V)):∀(z:List (Int×Int)) (i:Nat) (q:Int×Int),j0 aA i (z++[q])=j0 aA i z++(if (c8 aA (kT q)).isSome=true then [((i+z.length:Nat):Int)] else [])
 | [],i,q=>by simp[j0]
 | x::z,i,q=>by
  rw[pO,j0,j0,HS aA z (i+1) q];have e:i+1+z.length=i+(x::z).length:=by simp;lia
  rw[e];split <;> simp
theorem HU(aA:List (List Key×V)):∀(z:List (Int×Int)) (i:Nat),(j0 aA i z).length<=z.length
 | [],i=>by simp[j0]
 | x::z,i=>by
  have:=HU aA z (i+1);rw[j0];split <;> simp <;> lia
def adb(K:W.Frag):Sp:=λvs H Q _=>∃(a:Addr) (rc:List Int) (s:Int),vs = [.int s,.ref a]/\az K H a (rc.map V.int)/\0<rc.length/\0<=s/\(∀c∈rc,s<c)/\Q .aO H
noncomputable def cS(z:List (Int×Int)):List (List Key×V):=z.map λq=>(kT q,V.bl true)
theorem zM{z:List (Int×Int)}{q:Int×Int}(h:q∉z):c8 (cS z) (kT q)=none:=by
 induction z with
 | nil=>rfl
 | cons x z ih =>
  rw[cS,dM,kQ,← cS,ih λm=>h (bW _ m)];intro e;exact h (HR e▸cA)
theorem HV{z:List (Int×Int)}{q:Int×Int}(h:q∈z):c8 (cS z) (kT q)=some (.bl true):=by
 induction z with
 | nil=>cases h
 | cons x z ih =>
  by_cases e:x=q
  ·subst e;rw[cS,dM,lP rfl]
  ·rw[cS,dM,kQ (λz=>e (HR z)),← cS];exact ih ((cE.mp h).resolve_left λz=>e z.symm)
def ade(K:W.Frag)(cs:List Addr):Sp:=λvs H Q _=>∃(C p ba:Addr) (P:Pl) (fp j8:List Addr) (bz:List (Int×Int)),vs = [.ref p,.ref ba]/\C∈cs/\cY K C H p P fp/\Zn H ba j8 bz/\bz.length<=1000000/\bz.Nodup/\
 (∀q∈bz,0<=q.1/\q.1<P.rc.length/\0<=q.2/\q.2<P.rc.getD q.1.toNat 0)/\∀d H',aj H H'->H d=none->H' d=some (.dT (cS bz))->Q (.ref d) H'
def adf(K:W.Frag):Sp:=λvs H Q _=>∃(a d:Addr) (ts:List Addr) (z:List (Int×Int)) (aA:List (List Key×V)),vs = [.ref a,.ref d]/\Zn H a ts z/\z.length<=1000000/\H d=some (.dT aA)/\
 ∀l H',aj H H'->H l=none->H' l=some (.lst ((j0 aA 0 z).map V.int))->Q (.ref l) H'
noncomputable def HW(K:W.Frag)(C:Addr)(H:Hp)(p:Addr)(P:Pl)(fp:List Addr)(mv:Addr)(ms:List V):Prop :=
 ∃dx a1 a2 a3 a4 ts fs,fp=a1::a2::a3::a4::ts/\qm K C H p P dx a1 a2 a3 a4 ts fs/\b9 K C "moves"/\fs.lookup ("moves" : Str)=some (.ref mv)/\H mv=some (.lst ms)
theorem HW.adg{K:W.Frag}{C:Addr}{H:Hp}{p:Addr}{P:Pl}{fp:List Addr}{mv:Addr}{ms:List V}(h:HW K C H p P fp mv ms):cY K C H p P fp:=by
 obtain⟨dx,a1,a2,a3,a4,ts,fs,e,h,_⟩:=h;exact⟨dx,a1,a2,a3,a4,ts,fs,e,h⟩
section
variable{K:W.Frag}{C:Addr}{H H':Hp}{p:Addr}{P:Pl}{fp:List Addr}{mv:Addr}{ms:List V}
end
structure Zt(H:Hp)(a:Addr)(ts:List Addr)(z:List (List Int)):Prop where
 l:H a=some (.lst (ts.map V.ref))
 n:ts.length=z.length
 t:∀(i:Nat) (t:Addr) (r:List Int),ts[i]? = some t->z[i]? = some r->H t=some (.tup (r.map V.int))
section
variable{H H':Hp}{a:Addr}{ts:List Addr}{z:List (List Int)}
theorem Zt.at(h:Zt H a ts z){i:Nat}(hi:i<z.length):∃t,(ts.map V.ref)[i]? = some (.ref t)/\H t=some (.tup ((z.getD i []).map V.int)):=by
 have ht:i<ts.length:=by rw[h.n];exact hi
 refine⟨ts[i],by simp[ht],h.t i _ _ (aX ht) ?_⟩
 simp[List.getD_eq_getElem?_getD,List.getElem?_eq_getElem hi]
theorem Zt.start{l:Addr}:Zt (upd H l (.lst [])) l [] []:=⟨aD,rfl,λi t r e=>by simp at e⟩
theorem Zt.snoc{l p:Addr}(h:Zt H l ts z)(hp:H p=none)(r:List Int):Zt (upd (upd H p (.tup (r.map V.int))) l (.lst (ts.map V.ref++[V.ref p]))) l (ts++[p]) (z++[r]):=by
 have zK:l≠p:=bX h.l hp;refine⟨by rw[aD,bZ];rfl,by simp[h.n],λi t q e1 e2=>?_⟩
 have hn:=h.n;by_cases hi:i<ts.length
 ·rw[d7 hi] at e1;rw[d7 (by lia)] at e2
  have ht:=h.t i t q e1 e2;rw[aI (iZ ht h.l (by intro z;cases z)),aI (bX ht hp)]
  exact ht
 ·rw[d8 (by lia)] at e1
  rw[d8 (by lia)] at e2
  have c_:i - ts.length=0:=by
   have:=S_ e1;simp at this;lia
  rw[c_] at e1;rw[← hn,c_] at e2;simp at e1 e2;subst e1 e2;rw[aI zK.symm,aD]
theorem Zn.start{l:Addr}:Zn (upd H l (.lst [])) l [] []:=⟨aD,rfl,λi t r e=>by simp at e⟩
end
section
variable{ta:TA}{g:TG}{tt:TT}{te:TE}{nt:Nat}{fv:List Nat}{Q:VK}{σ:St}{H:Hp}
theorem zN(n:Int)(Pv:Addr->Nat->List V->St->Hp->Prop)(gF:∀Q:List V->Hp->Prop,Q [.int n] H->ta σ H Q)(b1 : -1000000000000<n)(b2:n<1000000000000)
  (h0:∀D,H D=none->Pv D 0 [] (jF σ nt fv) (upd H D (.lst []))) (hD:∀D i ys σ H,Pv D i ys σ H->H D=some (.lst ys)/\ys.length<sizeLine)
  (hs:∀D i ys aC H2 (N:List V->St->Hp->Prop),(∀ys σ H,Pv D (i+1) ys σ H->N ys σ H)->i<n.toNat->Pv D i ys aC H2->g (.int (i:Int)) aC H2 λcH H4=>tt cH H4 λb H5=>if b=true then te cH H5 λv H6=>H6 D=some (.lst ys)/\N (ys++[v]) cH (upd H6 D (.lst (ys++[v]))) else N ys cH H5)
  (hd:∀D ys aC H2,Pv D n.toNat ys aC H2->Q (.ref D) H2):mZ (yy ta) g tt te nt fv σ H Q:=by
 refine gF _ ⟨n,rfl,by lia,by lia,λD ng=>?_⟩
 refine⟨λi m ys aC H2=>m=n.toNat - i/\i<=n.toNat/\Pv D i ys aC H2,⟨_,rfl,eF _,h0 D ng⟩,?_⟩;rintro i m ys aC H2 ⟨rfl,jG,p⟩;obtain⟨d1,d2⟩:=hD D i ys aC H2 p;refine⟨d1,d2,?_⟩;by_cases cF:i<n.toNat
 ·refine .inr ⟨cF,λx H3 y=>?_⟩;obtain⟨e1,e2⟩:=y;subst e1 e2;have e2:(0:Int)+(i:Int)=i:=by lia
  rw[e2];exact hs D i ys aC _ _ (λ_ _ _ z=>NX.of cF z) cF p
 ·have e:i=n.toNat:=by lia
  subst e;exact .inl ⟨bH _,hd D ys aC H2 p⟩
end
structure fq(P:Pl):Prop where
 n2:2<=P.rc.length
 n1:P.rc.length<=1000
 c:∀i:Nat,i<P.rc.length->1<=P.rc.getD i 0/\P.rc.getD i 0<=1000
 au:1<=P.au
 sw:SwOk P.sw P.rc.length
noncomputable def oO(P:Pl)(r c:Int):Int:=(c*(P.au / P.rc.getD r.toNat 0)+r*P.cy) % P.au
noncomputable def jH(P:Pl)(r c b:Int):Int:=b+(oO P r c - b) % P.au
noncomputable def rK(P:Pl)(s q:Int×Int):Int:=jH P q.1 q.2 (s.2+P.sw.getD (s.1 - q.1).natAbs 0)
noncomputable def dI(P:Pl)(s q:Int×Int):Int×Int:=(q.1,rK P s q+P.au / P.rc.getD q.1.toNat 0)
noncomputable def qo(P:Pl)(s q:Int×Int):List Int:=[q.1,q.2,rK P s q,(dI P s q).2]
noncomputable def bf(P:Pl):Int×Int->List (Int×Int)->Int×Int
 | s,[]=>s
 | s,q::r=>bf P (dI P s q) r
noncomputable def dZ(P:Pl):Int×Int->List (Int×Int)->List (List Int)
 | _,[]=>[]
 | s,q::r=>qo P s q::dZ P (dI P s q) r
theorem wz(P:Pl)(q:Int×Int):∀(xs:List (Int×Int)) (s:Int×Int),bf P s (xs++[q])=dI P (bf P s xs) q
 | [],s=>rfl
 | x::xs,s=>wz P q xs (dI P s x)
theorem wA(P:Pl)(q:Int×Int):∀(xs:List (Int×Int)) (s:Int×Int),dZ P s (xs++[q])=dZ P s xs++[qo P (bf P s xs) q]
 | [],s=>rfl
 | x::xs,s=>by rw[pO,dZ,wA P q xs,dZ];rfl
theorem nA(P:Pl):∀(xs:List (Int×Int)) (s:Int×Int),(dZ P s xs).length=xs.length
 | [],s=>rfl
 | x::xs,s=>by rw[dZ,eY,nA P xs,eY]
theorem To(P:Pl):∀(xs:List (Int×Int)) (s:Int×Int) (r:List Int),r∈dZ P s xs->r.length=4
 | [],s,r,h=>by cases h
 | x::xs,s,r,h=>by
  rcases cE.mp h with rfl | hr
  ·rfl
  ·exact To P xs _ r hr
theorem adh(P:Pl)(s:Int×Int){xs:List (Int×Int)}(h:xs≠[]):∃a b,(dZ P s xs).getD (xs.length - 1) [] = [(bf P s xs).1,a,b,(bf P s xs).2]:=by
 obtain⟨ys,q,rfl⟩:∃ys q,xs=ys++[q]:=⟨xs.dropLast,xs.getLast h,(List.dropLast_concat_getLast h).symm⟩;rw[wA,wz,kF,d8 (by rw[nA];simp),nA]
 exact⟨_,_,by simp[qo,dI];exact⟨rfl,rfl⟩⟩
theorem kU(P:Pl){n:Int}:∀(xs:List (Int×Int)) (s:Int×Int),0<=s.1->s.1<n->(∀q∈xs,0<=q.1/\q.1<n)->0<=(bf P s xs).1/\(bf P s xs).1<n
 | [],s,h0,h1,_=>⟨h0,h1⟩
 | x::xs,s,h0,h1,h=>kU P xs (dI P s x) (h x cA).1 (h x cA).2 λq hq=>h q (bW _ hq)
def iG(P:Pl)(z:List (Int×Int)):Prop:=∀q∈z,0<=q.1/\q.1<P.rc.length/\0<=q.2/\q.2<=1000
def adi(K:W.Frag)(cs:List Addr):Sp:=λvs H Q _=>∃(C p:Addr) (P:Pl) (fp:List Addr) (r c b:Int),vs = [.ref p,.int r,.int c,.int b]/\C∈cs/\cY K C H p P fp/\fq P/\0<=r/\r<P.rc.length/\0<=c/\c<=1000/\Q (.int (jH P r c b)) H
def adk(K:W.Frag)(cs:List Addr):Sp:=λvs H Q _=>∃(C p:Addr) (P:Pl) (fp:List Addr) (r b:Int) (ca:Addr) (bC:List Addr) (cz:List (Int×Int)),vs = [.ref p,.int r,.int b,.ref ca]/\C∈cs/\cY K C H p P fp/\fq P/\0<=r/\r<P.rc.length/\
 Zn H ca bC cz/\iG P cz/\cz.length<=1000/\∀l ts H',aj H H'->H l=none->(∀t∈ts,H t=none)->Zt H' l ts (dZ P (r,b) cz)->Q (.ref l) H'
def adl(K:W.Frag)(cs:List Addr):Sp:=λvs H Q _=>∃(C p:Addr) (P:Pl) (fp:List Addr) (r b:Int) (ca:Addr) (bC:List Addr) (cz:List (Int×Int)),vs = [.ref p,.int r,.int b,.ref ca]/\C∈cs/\cY K C H p P fp/\fq P/\0<=r/\r<P.rc.length/\
 Zn H ca bC cz/\iG P cz/\cz.length<=1000/\∀t H',aj H H'->H t=none->H' t=some (.tup [.int (bf P (r,b) cz).1,.int (bf P (r,b) cz).2])->Q (.ref t) H'
theorem adm{z:List (Int×Int)}(zl:ZL z){au sk:Int}{sw:List Int}{nc:List (Int×Int)}(l1:1<=au)(so:SwOk sw (z.map (·.1)).sum):fq ⟨counts z,au,sk,sw,nc⟩:=by
 have cl:=rF z λp hp=>(zl.ok.r p hp).1;have nB:=zl.sm;have c2:=zl.ok.s2;refine⟨by dsimp only;lia,by dsimp only;lia,λi hi=>?_,l1,by dsimp only;rw[cl];exact so⟩
 obtain⟨y,hy,e⟩:=rG (get_mem (zI (counts z) hi));have:=zl.ok.r y hy;dsimp only;lia
theorem C1{P:Pl}(ok:fq P)(r c b:Int):b<=jH P r c b/\jH P r c b<b+P.au:=by
 have:=ok.au;have h1:=fD (oO P r c - b) (show P.au≠0 by lia)
 have h2:=fB (oO P r c - b) (show 0<P.au by lia)
 unfold jH;lia
theorem adn{P:Pl}(ok:fq P)(r c b:Int):jH P r c b % P.au=oO P r c:=by
 have:=ok.au;unfold jH;rw[Int.add_emod,By _ (Bw _),← Int.add_emod];have e:b+(oO P r c - b)=oO P r c:=by lia
 rw[e];unfold oO;exact By _ (Bw _)
theorem ado{P:Pl}(ok:fq P)(r c b t:Int)(hb:b<=t)(ht:t % P.au=oO P r c):jH P r c b<=t:=by
 have hl:=ok.au;have e:(oO P r c - b) % P.au=(t - b) % P.au:=by rw[← ht,BB,By _ (Bw _),← BB]
 have h1:=Int.emod_add_mul_ediv (t - b) P.au;have h2:=Bx (show 0<=t - b by lia) (show 0<=P.au by lia)
 have h3:=Int.mul_nonneg (show 0<=P.au by lia) h2
 unfold jH;rw[e];lia
theorem adp{P:Pl}(ok:fq P)(r c:Int){b b':Int}(h:b<=b'):jH P r c b<=jH P r c b':=ado ok r c b _ (BA h (C1 ok r c b').1) (adn ok r c b')
section
variable{α:Type}{lt:α->α->Prop}
structure Ord(lt:α->α->Prop):Prop where
 as:∀ {a b},lt a b->¬ lt b a
 tr:∀ {a b c},¬ lt b a->¬ lt c b->¬ lt c a
theorem Ord.ir(o:Ord lt)(a:α):¬ lt a a:=λh=>o.as h h
noncomputable def par(i:Nat):Nat:=(i - 1) / 2
def adq(lt:α->α->Prop)(n k:Nat)(f:Nat->α):Prop:=∀i,1<=i->i<n->i≠k->¬ lt (f i) (f (par i))
def ads(lt:α->α->Prop)(n k:Nat)(f:Nat->α):Prop:=∀i,1<=i->i<n->par i≠k->¬ lt (f i) (f (par i))
def jf(lt:α->α->Prop)(n:Nat)(f:Nat->α):Prop:=∀i,1<=i->i<n->¬ lt (f i) (f (par i))
noncomputable def put(f:Nat->α)(k:Nat)(x:α):Nat->α:=λi=>if i=k then x else f i
theorem kW(f:Nat->α)(k:Nat)(x:α):put f k x k=x:=by simp[put]
theorem fR{f:Nat->α}{k i:Nat}{x:α}(h:i≠k):put f k x i=f i:=by simp[put,h]
structure Up(lt:α->α->Prop)(n k:Nat)(f:Nat->α)(x:α):Prop where
 h:adq lt n k (put f k x)
 g:1<=k->∀i,i<n->1<=i->par i=k->¬ lt (f i) (f (par k))
 d:∀i,1<=i->i<n->par i=k->¬ lt (f i) x
theorem nC{i:Nat}(h:1<=i):par i<i:=by unfold par;lia
theorem Up.step(o:Ord lt){n k:Nat}{f:Nat->α}{x:α}(u:Up lt n k f x)(h1:1<=k)(hk:k<n)(hx:lt x (f (par k))):Up lt n (par k) (put f k (f (par k))) x:=by
 have pk:=nC h1;have e0:∀i,i≠k->i≠par k->put (put f k (f (par k))) (par k) x i=f i:=λi a b=>by rw[fR b,fR a]
 have ek:put (put f k (f (par k))) (par k) x k=f (par k):=by rw[fR (by lia),kW]
 have rL:∀i,1<=i->i<n->i≠k->par i≠k->¬ lt (f i) (f (par i)):=λi a b c d=>by
  have:=u.h i a b c;rwa [fR c,fR d] at this
 refine⟨λi hi hn fX=>?_,λhp i hn hi e=>?_,λi hi hn e=>?_⟩
 ·by_cases jg:i=k
  ·subst jg;rw[ek,kW];exact o.as hx
  ·rw[e0 i jg fX];by_cases h2:par i=k
   ·rw[h2,ek];exact u.g h1 i hn hi h2
   ·by_cases h3:par i=par k
    ·rw[h3,kW];have:=rL i hi hn jg h2;rw[h3] at this;exact o.tr (o.as hx) this
    ·rw[e0 _ h2 h3];exact rL i hi hn jg h2
 ·have pp:=nC hp;rw[fR (f:=f) (k:=k) (show par (par k)≠k by lia)]
  have h4:¬ lt (f (par k)) (f (par (par k))):=rL (par k) hp (by lia) (by lia) (by lia)
  by_cases jg:i=k
  ·subst jg;rw[kW];exact h4
  ·rw[fR jg];have:=rL i hi hn jg (by lia)
   rw[e] at this;exact o.tr h4 this
 ·by_cases jg:i=k
  ·subst jg;rw[kW];exact o.as hx
  ·rw[fR jg];have:=rL i hi hn jg (by lia)
   rw[e] at this;exact o.tr (o.as hx) this
theorem Up.done{n k:Nat}{f:Nat->α}{x:α}(u:Up lt n k f x)(h:1<=k->¬ lt x (f (par k))):jf lt n (put f k x):=by
 intro i hi hn;by_cases e:i=k
 ·subst e;have:=nC hi;rw[kW,fR (by lia)]
  exact h hi
 ·exact u.h i hi hn e
structure Down(lt:α->α->Prop)(n k:Nat)(f:Nat->α)(x:α):Prop where
 h:ads lt n k (put f k x)
 g:1<=k->∀i,i<n->1<=i->par i=k->¬ lt (f i) (f (par k))
structure rM(lt:α->α->Prop)(n k c:Nat)(f:Nat->α):Prop where
 p:c=2*k+1\/c=2*k+2
 m:c<n->∀i,1<=i->i<n->par i=k->¬ lt (f i) (f c)
 out:n<=c->∀i,1<=i->i<n->par i≠k
theorem rM.of(o:Ord lt){n k:Nat}{f:Nat->α}:(2*k+1+1<n/\lt (f (2*k+1+1)) (f (2*k+1))->rM lt n k (2*k+1+1) f)/\(¬ (2*k+1+1<n/\lt (f (2*k+1+1)) (f (2*k+1)))->rM lt n k (2*k+1) f):=by
 have two:∀i,1<=i->par i=k->i=2*k+1\/i=2*k+1+1:=λi h1 h=>by unfold par at h;lia
 constructor
 ·rintro⟨h1,h2⟩;refine⟨by lia,λ_ i hi hn e=>?_,λh i hi hn e=>?_⟩
  ·rcases two i hi e with rfl | rfl
   ·exact o.as h2
   ·exact o.ir _
  ·lia
 ·intro h;refine⟨by lia,λhc i hi hn e=>?_,λh i hi hn e=>?_⟩
  ·rcases two i hi e with rfl | rfl
   ·exact o.ir _
   ·exact λz=>h ⟨hn,z⟩
  ·rcases two i hi e with rfl | rfl <;> lia
theorem Down.step(o:Ord lt){n k c:Nat}{f:Nat->α}{x:α}(u:Down lt n k f x)(L:rM lt n k c f)(hc:c<n)(hx:lt (f c) x):Down lt n c (put f k (f c)) x:=by
 have pc:par c=k:=by unfold par;rcases L.p with e | e <;> lia
 have kc:k<c:=by rcases L.p with e | e <;> lia
 have rL:∀i,1<=i->i<n->i≠k->par i≠k->¬ lt (f i) (f (par i)):=λi a b c d=>by
  have:=u.h i a b d;rwa [fR c,fR d] at this
 refine⟨λi hi hn fX=>?_,λh1 i hn hi e=>?_⟩
 ·have pi:=nC hi;by_cases Tp:i=c
  ·subst Tp;rw[kW,pc,fR (by lia),kW]
   exact o.as hx
  ·rw[fR Tp,fR fX];by_cases jg:i=k
   ·subst jg;rw[kW,fR (by lia)]
    have:=u.g hi c hc (by lia) pc
    exact this
   ·rw[fR jg];by_cases h2:par i=k
    ·rw[h2,kW];exact L.m hc i hi hn h2
    ·rw[fR h2];exact rL i hi hn jg h2
 ·have pi:=nC hi;rw[pc,kW,fR (by lia)]
  have:=rL i hi hn (by lia) (by lia)
  rwa [e] at this
theorem Down.done(o:Ord lt){n k c:Nat}{f:Nat->α}{x:α}(u:Down lt n k f x)(L:rM lt n k c f)(h:¬ (c<n/\lt (f c) x)):jf lt n (put f k x):=by
 intro i hi hn;have pi:=nC hi;by_cases e:par i=k
 ·rw[e,kW,fR (by lia)]
  by_cases hc:c<n
  ·exact o.tr (λz=>h ⟨hc,z⟩) (L.m hc i hi hn e)
  ·exact absurd e (L.out (by lia) i hi hn)
 ·exact u.h i hi hn e
theorem jf.least(o:Ord lt){n:Nat}{f:Nat->α}(h:jf lt n f):∀i,i<n->¬ lt (f i) (f 0):=by
 intro i
 induction i using Nat.strongRecOn with
 | _ i ih =>
  intro hi;by_cases h0:i=0
  ·subst h0;exact o.ir _
  ·exact o.tr (ih (par i) (nC (by lia)) (by have:=nC (show 1<=i by lia);lia)) (h i (by lia) hi)
end
theorem Ord.of{α:Type}{lt:α->α->Prop}(ir:∀a,¬ lt a a)(tr:∀a b c,lt a b->lt b c->lt a c)(ur:∀a b,lt a b\/a=b\/lt b a):Ord lt:=by
 refine⟨λ{a b} h1 h2=>ir a (tr _ _ _ h1 h2),λ{a b c} h1 h2 h3=>?_⟩;rcases ur a b with h | h | h
 ·exact h2 (tr _ _ _ h3 h)
 ·subst h;exact h2 h3
 ·exact h1 h
theorem C3:∀a:List Int,¬ _H.lexLt a a=true
 | []=>by simp[_H.lexLt]
 | x::a=>by simpa[_H.lexLt] using C3 a
theorem Tq:∀a b c:List Int,_H.lexLt a b=true->_H.lexLt b c=true->_H.lexLt a c=true
 | [],b,[],h1,h2=>by cases b <;> simp[_H.lexLt] at h1 h2
 | [],b,z::c,h1,h2=>by simp[_H.lexLt]
 | x::a,[],c,h1,h2=>by simp[_H.lexLt] at h1
 | x::a,y::b,[],h1,h2=>by simp[_H.lexLt] at h2
 | x::a,y::b,z::c,h1,h2=>by
  simp only[_H.lexLt] at h1 h2 ⊢;by_cases e1:x=y
  ·rw[if_pos e1] at h1;by_cases e2:y=z
   ·rw[if_pos e2] at h2;rw[if_pos (by lia)];exact Tq a b c h1 h2
   ·rw[if_neg e2] at h2;simp at h2;rw[if_neg (by lia)];simp;lia
  ·rw[if_neg e1] at h1;simp at h1;by_cases e2:y=z
   ·rw[if_neg (by lia)];simp;lia
   ·rw[if_neg e2] at h2;simp at h2;rw[if_neg (by lia)];simp;lia
theorem Tr:∀a b:List Int,_H.lexLt a b=true\/a=b\/_H.lexLt b a=true
 | [],[]=>.inr (.inl rfl)
 | [],_::_=>.inl rfl
 | _::_,[]=>.inr (.inr rfl)
 | x::a,y::b=>by
  simp only[_H.lexLt,List.cons.injEq];by_cases e:x=y
  ·subst e;simpa using Tr a b
  ·rw[if_neg e,if_neg (λz=>e z.symm)];simp;lia
noncomputable abbrev Th:=Int×List Int×Int
def HX(a b:Th):Prop:=a.1<b.1\/(a.1=b.1/\(_H.lexLt a.2.1 b.2.1=true\/(a.2.1=b.2.1/\a.2.2<b.2.2)))
theorem Tt{α:Type}:∀ {l:List α} {k:Nat} (h:k<l.length),(l[k]::l.eraseIdx k).Perm l
 | x::l,0,_=>.refl _
 | x::l,k+1,h=>by
  have ih:=Tt (l:=l) (k:=k) (by simpa using h)
  exact(List.Perm.swap _ _ _).trans (ih.cons x)
theorem wB{α:Type}:∀ {l:List α} {k:Nat} (h:k<l.length) (x:α),(l.set k x).Perm (x::l.eraseIdx k)
 | y::l,0,_,x=>.refl _
 | y::l,k+1,h,x=>by
  have ih:=wB (l:=l) (k:=k) (by simpa using h) x
  exact(ih.cons y).trans (List.Perm.swap _ _ _)
theorem Tu{α:Type}{l:List α}{k p:Nat}(hk:k<l.length)(hp:p<l.length)(hn:p≠k):((l.set k l[p]).eraseIdx p).Perm (l.eraseIdx k):=by
 have h1:(l[p]::(l.set k l[p]).eraseIdx p).Perm (l.set k l[p]):=by
  have:=Tt (l:=l.set k l[p]) (k:=p) (by simpa using hp)
  rwa [List.getElem_set_ne (λz=>hn z.symm)] at this
 exact(h1.trans (wB hk l[p])).cons_inv
theorem adt{α:Type}{l:List α}{x:α}:((l++[x]).eraseIdx l.length).Perm l:=by
 rw[List.eraseIdx_append_of_length_le (bH _)];simp
section
open PySem.SeqAt PySem.MeetsSeq PySem.MeetsSeq2 PySem.MeetsSeq3
open PySem.AutoSeq1 (wpAny_loadPart')
inductive uu (A:Around) (s:Shared):List (Value×Value)->List (Bool×Bool)->Prop
 | nil:uu A s [] []
 | cons {u v:Value} {e b:Bool} {r:List (Value×Value)} {ds:List (Bool×Bool)} (he:EqAt A s u v e)
   (hb:e=false->∀(prog:Program) (w:World) (E Q:Value->Shared->Prop),Q (.bool b) s->wpAny (model prog w) A (richCompare .Lt u v) Q E s) (t:uu A s r ds):uu A s ((u,v)::r) ((e,b)::ds)
noncomputable def nF:List (Bool×Bool)->Bool
 | []=>false
 | (e,b)::r=>if e then nF r else b
theorem adu(l b:Addr)(xs ys:Array Value)(c c2:Nat)(dd mT:Option Addr)(sl i_:Array (Option Value))(hz:xs.size=ys.size) :
  Meets (Builtin.«tuple.__lt__» ⟨[.ref l,.ref b],[]⟩)
   (λA R s=>s.heap.get? l=some { cls:=.type "tuple",dict:=dd,data:=.seq xs c,slots:=sl }/\s.heap.get? b=some { cls:=.type "tuple",dict:=mT,data:=.seq ys c2,slots:=i_ }/\
    ∃ds,uu A.in1 s (xs.toList.zip ys.toList) ds/\R (.ok (.ret (.bool (nF ds)))) s) :=
 .of_wp λprog w A R s h=>by
  obtain⟨hp,g,d,tk,os⟩:=s;obtain⟨hl,hb,ds,hd,hR⟩:=h;have sub:=AutoSeq1.sub_tuple_tuple;wp_walk using wpAny_loadPart' hl,wpAny_loadPart' hb,wpAny_forIn_list _ (λrest st s'=>st.1=none/\s' = ⟨hp,g,d,tk,os⟩/\∃C4,uu A.in1 s' rest C4/\R (.ok (.ret (.bool (nF C4)))) s') _
  case turn =>
   rintro⟨y,x⟩ rest st s' ⟨fH,rfl,C4,fP,C5⟩;cases fP with
   | @cons _ _ e b _ ds2 he jD t =>
    refine aM (he prog w _ _ ?_);cases e with
    | true =>
     wp_walk;exact⟨rfl,rfl,ds2,t,by simpa[nF] using C5⟩
    | false =>
     have G6:=jD rfl prog w;wp_walk using G6;exact⟨_,rfl,by simpa[nF] using C5⟩
  case fin =>
   rintro⟨b1,b2⟩ s' ⟨fH,rfl,C4,fP,C5⟩;simp only at fH;subst fH;cases fP;wp_walk;exact⟨_,rfl,by simpa[Builtin.Tuple.tupleCompareSizes,hz,nF] using C5⟩
  case h=>exact⟨rfl,rfl,ds,hd,hR⟩
end
section
variable{prog:Program}{w:World}{A:Around}{E:Value->Shared->Prop}{s:Shared}
theorem adv{l b:Addr}{xs ys:Array Value}{ds:List (Bool×Bool)}{Q:Value->Shared->Prop}(hl:IsTup s.heap l xs)(hb:IsTup s.heap b ys)(hz:xs.size=ys.size)
  (hu:A.units<cLine) (hd:uu A.in1 s (xs.toList.zip ys.toList) ds) (h:Q (.bool (nF ds)) s):wpAny (model prog w) A (richCompare .Lt (.ref l) (.ref b)) Q E s:=by
 obtain⟨⟨k1,d1,data1,sl1⟩,ho,hc,n,qp⟩:=id hl;obtain⟨⟨k2,d2,data2,i_⟩,gP,mU,n2,hd2⟩:=id hb;simp only at hc qp mU hd2;subst hc qp mU hd2;exact richCompare_meets_room (op:=.Lt) ⟨_,ho,rfl⟩ ⟨_,gP,rfl⟩ PySem.F.slot_tuple_lt PySem.F.entry_tuple_lt (PySem.F.args_tuple_lt_2 _ _) (adu l b xs ys n n2 d1 d2 sl1 i_ hz)
  ⟨ho,gP,ds,hd,show Value.bool (nF ds)≠Value.notImplemented/\Q (.bool (nF ds)) s from⟨(λx=>nomatch x),h⟩⟩ hu
end
def HY(H:Hp)(a:Addr)(t:Th):Prop:=∃p,H a=some (.tup [.int t.1,.ref p,.int t.2.2])/\H p=some (.tup (t.2.1.map V.int))
theorem Tv:∀ {ns ms:List Int},ns.map V.int=ms.map V.int->ns=ms
 | [],[],_=>rfl
 | [],_::_,h=>by cases h
 | _::_,[],h=>by cases h
 | a::r,b::q,h=>by
  rw[dM,dM] at h;injection h with h1 h2;injection h1 with h1;rw[h1,Tv h2]
noncomputable instance (a b:Th):Decidable (HX a b):=by unfold HX;infer_instance
section
variable{X:Cx}{pins:List (Addr×Obj)}{σ:St}{H:Hp}{s:Shared}
theorem Tw(I:Inv X pins σ H s){A:Around}(hu:A.units+1<cLine){p q:Addr}{ns ms:List Int}(h:H p=some (.tup (ns.map V.int)))(h':H q=some (.tup (ms.map V.int))):SeqAt.EqAt A s (.ref p) (.ref q) (decide (ns=ms)):=by
 by_cases e:p=q
 ·subst e;have:ns=ms:=by
   have z:=h.symm.trans h';injection z with z;injection z with z;exact Tv z
  rw[kJ this];exact .same _
 ·refine .of_refs e ?_;obtain⟨aB,r1,q1,_⟩:=I.tuple (aL.of (K:=X.K) h);obtain⟨dH,r2,q2,_⟩:=I.tuple (aL.of (K:=X.K) h');have l1:ns.length=aB.length:=by have:=r1.length;simpa using this
  have l2:ms.length=dH.length:=by have:=r2.length;simpa using this
  have e0:((List.range (min aB.toArray.size dH.toArray.size)).all (λj=>decide (ns[j]? = ms[j]?)) && aB.toArray.size == dH.toArray.size)=decide (ns=ms):=by
   rw[sL];simp only[Bool.and_eq_true,List.all_eq_true,List.mem_range,decide_eq_true_eq,beq_iff_eq,List.size_toArray];constructor
   ·rintro⟨h1,h2⟩;refine List.ext_getElem? λj=>?_
    by_cases hj:j<min aB.length dH.length
    ·exact h1 j hj
    ·rw[sN (by lia),sN (by lia)]
   ·rintro rfl;exact⟨λ_ _=>rfl,by lia⟩
  have fin:=SeqAt.RcAt.tuples (A:=A) (s:=s) (e:=λj=>decide (ns[j]? = ms[j]?)) q1 q2 (by lia) (λj h1 h2=>?_)
  ·rwa [e0] at fin
  ·have j1:j<ns.length:=by rw[l1];simpa using h1
   have j2:j<ms.length:=by rw[l2];simpa using h2
   obtain⟨u1,g1,w1⟩:=r1.get (show (ns.map V.int)[j]? = some (.int ns[j]) by simp[j1])
   obtain⟨u2,g2,w2⟩:=r2.get (show (ms.map V.int)[j]? = some (.int ms[j]) by simp[j2])
   have e1:aB.toArray[j] = u1:=by
    rw[lz];exact dh ((aX (by simpa using h1)).symm.trans g1)
   have e2:dH.toArray[j] = u2:=by
    rw[lz];exact dh ((aX (by simpa using h2)).symm.trans g2)
   obtain⟨t1,rfl⟩:=w1;obtain⟨t2,rfl⟩:=w2;rw[e1,e2];have:=BX (A:=A.in1) (s:=s) ns[j] t1 ms[j] t2;have e3:(ns[j] == ms[j])=decide (ns[j]? = ms[j]?):=by
    simp only[List.getElem?_eq_getElem j1,List.getElem?_eq_getElem j2,Option.some.injEq];rw[sL];simp
   rwa [e3] at this
end
section
variable{X:Cx}
theorem Tz(hu:X.A.units+16<cLine):cB X (compareOp .Eq) (λx y H Q=>∃a b xs,x = .ref a/\y = .ref b/\az X.K H a xs/\az X.K H b []/\Q (.bl xs.isEmpty) H):=by
 rintro pins s σ H x y v u Q I rx ry ⟨a,b,xs,rfl,rfl,ha,hb,q⟩;cases rx;cases ry;obtain⟨aB,r1,p1,z1⟩:=I.list ha;obtain⟨dH,r2,p2,z2⟩:=I.list hb;cases r2;cases r1 with
 | nil =>
  have fin:=Gy (A:=X.A) (s:=s) (e:=λ_=>true) p1.isList p2.isList rfl (by lia) (λj h1 h2=>absurd (show j<0 from h1) (by lia))
  exact fin X.prog X.w _ _ ⟨.bl true,H,I,rfl,q⟩
 | cons r t =>
  have fin:=SeqAt.RcAt.lists_lengths (A:=X.A) (s:=s) p1.isList p2.isList (by simp) (by lia)
  exact fin X.prog X.w _ _ ⟨.bl false,H,I,rfl,q⟩
noncomputable abbrev Zs:=List (Addr×Th)
noncomputable def zV(zs:Zs):List V:=zs.map λz=>V.ref z.1
def TF(H:Hp)(zs:Zs):Prop:=∀z,z∈zs->HY H z.1 z.2
def C6:V->List V->Hp->VK->Prop:=λx vs H Q=>∃l a zs t,x = .ref l/\vs = [.ref a]/\H l=some (.lst (zV zs))/\TF H zs/\HY H a t/\t∈zs.map (·.2)/\
 ∀(k:Nat) (h:k<zs.length),zs[k].2=t->Q .aO (upd H l (.lst (zV (zs.eraseIdx k))))
end
def TJ(a b:Addr×Th):Prop:=HX a.2 b.2
noncomputable instance (a b:Addr×Th):Decidable (TJ a b):=by unfold TJ;infer_instance
section
variable{H H':Hp}{l a:Addr}{zs ys:Zs}{t:Th}{k:Nat}
theorem wC{n j:Nat}(h:j<n):jc n (j:Int)=some j:=by
 unfold jc;rw[if_pos (by lia),if_pos (by lia)]
 simp
theorem adw{o:HO}(h:H l=some o):upd H l o=H:=by
 funext b
 by_cases e:b=l
 ·subst e;rw[aD,h]
 ·rw[aI e]
theorem TL{k:Nat}(h:1<=k):((k:Int) - 1) / 2=((par k:Nat):Int):=by
 unfold par;lia
theorem ady{ns:List Int}(h:1<=ns.length):iF (ns.map V.int) (some 1) none=(ns.drop 1).map V.int:=by
 unfold iF;have e:_H.bQ (ns.map V.int).length 0 (some 1)=1:=by
  simp only[_H.bQ];rw[if_neg (by decide),aR]
  simp;lia
 rw[e,BH];exact ou (by simp[_H.bQ])
theorem TM{ns:List Int}{k:Int}(h:0<=k):iF (ns.map V.int) none (some k)=(ns.take k.toNat).map V.int:=by
 unfold iF;have e:_H.bQ (ns.map V.int).length 0 none=0:=rfl;have e2:_H.bQ (ns.map V.int).length (ns.map V.int).length (some k)=min k.toNat ns.length:=by
  simp only[_H.bQ];rw[if_neg (by lia),aR]
 rw[e,e2,List.drop_zero,List.map_take,BQ];by_cases hk:k.toNat<=ns.length
 ·rw[xQ hk]
 ·rw[Gs (by lia),ou (by simp),ou (by simp;lia)]
end
structure zO(K:W.Frag)(x qual:Str)(st:Stmt)(f:Addr)(fd:FuncData):Prop where
 ex:∃(oc:Value) (od:Option Addr) (dV kV doc pm:Value) (an:Option Addr) (aP ct:Value) (i9:Array (Option Value)),
  fd=PySem.W.fnOf x qual (gY st) (fQ st) (aV st) dV kV doc pm an aP ct/\K.lookup f=some ⟨oc,od,.func fd,i9⟩/\PySem.W.codeIn K aP qual=true
 kp:PySem.W.keepIn K (.ref f)=true
section
variable{P:Program}{w:World}{K:W.Frag}{mg:Str->Option Value}{base:Heap}
theorem zO.ok{x qual:Str}{st:Stmt}{f:Addr}{fd:FuncData}{N ps:List Str}{k:Nat}{sp:Sp}(F:zO K x qual st f fd)(S:bA N ps (aV st))(len:∀vs H Q E,sp vs H Q E->vs.length=ps.length)
  (qd:∀(aP:Value) (A:Around) (outer:List Env) (s:Shared) (H:Hp) (vs:List V) (Q:VK) (E:XK),c7 k (A.deeper (envOfC qual (aV st) s.heap.objs.size f aP))->sp vs H Q E->
   ∃t,gB (i8 bx P w K mg base N qual (aV st) f aP A outer s H E).p_ (fQ st) t/\t { nx:=λ_ H'=>Q .aO H',rt:=Q } (start N vs) H):a_ P w K mg base bx (k+1) f fd ps sp:=by
 obtain⟨oc,od,dV,kV,doc,pm,an,aP,ct,i9,rfl,lk,dN⟩:=F.ex;refine Cy lk dN S len λA outer s H vs Q E hr dQ=>?_;obtain⟨t,h,q⟩:=qd aP A outer s H vs Q E hr dQ;exact⟨t,h.p_,q⟩
theorem TN{x qual:Str}{st:Stmt}{f:Addr}{oc:Value}{od an:Option Addr}{i9:Array (Option Value)}{dV kV doc pm aP ct:Value}(l:K.lookup f=some ⟨oc,od,.func (PySem.W.fnOf x qual (gY st) (fQ st) (aV st) dV kV doc pm an aP ct),i9⟩)
  (c:PySem.W.codeIn K aP qual=true) (k:PySem.W.keepIn K (.ref f)=true):zO K x qual st f (PySem.W.fnOf x qual (gY st) (fQ st) (aV st) dV kV doc pm an aP ct):=⟨⟨oc,od,dV,kV,doc,pm,an,aP,ct,i9,rfl,l,c⟩,k⟩
end
section
variable{X:Cx}
theorem adz{xs:List Bool}{aB:List Value}(r:Vals (xs.map V.bl) aB):aB=xs.map Value.bool:=by
 induction xs generalizing aB with
 | nil=>cases r;rfl
 | cons b xs ih =>
  cases r with
  | cons r1 r2=>cases (show _=Value.bool b from r1);rw[ih r2];rfl
theorem adA(hc:X.calm=true):gC X (.builtin "all") (λxs H Q=>∃(p:Addr) (bs:List Bool),xs = [.ref p]/\az X.K H p (bs.map V.bl)/\Q (.bl (bs.all id)) H):=by
 intro pins s σ H xs us Q I r h;obtain⟨p,bs,rfl,hq,q⟩:=h;obtain⟨u,rfl,ru⟩:=vals1 r;cases ru;obtain⟨aB,rv,pl,hz⟩:=I.list hq;have eb:=adz rv;subst eb;have rN:p<s.heap.objs.size:=by obtain⟨_,q1,_⟩:=pl.isList;exact cD q1
 refine call_all_walk (wpAny_pyIter_list pl.isList ?_);refine⟨s.heap.objs.size,[s.heap.objs.size,p],[s.heap.objs.size],(bs.map Value.bool).toArray.size,_,_,λi=>(bs[i]?).getD true,rfl,Walks.list (A:=X.A.in1) (I.ok.hd hc) _ p (dD rN) (bs.map Value.bool).toArray,
  ⟨⟨_,fU _ rfl,rfl,rfl⟩,pl.isList.push _⟩,λi v s2 Q2 E2 hiv hw=>?_,λh' tk hk=>?_⟩
 ·have adB:(bs.map Value.bool)[i]? = some v:=by simpa using hiv
  obtain⟨b,eb,rfl⟩:=e8 adB;simp only[eb,Option.getD_some] at hw;exact pX hw
 ·have e:((List.range (bs.map Value.bool).toArray.size).all λi=>(bs[i]?).getD true)=bs.all id:=by
   rw[f9,aR];exact LSm.range_all bs
  rw[e];exact⟨.bl (bs.all id),H,I.kept (LSm.kept_iter hk),rfl,q⟩
def C7(ta:TA):TE:=λσ H Q=>ta σ H λvs H1=>∃i j:Int,vs = [.int i,.int j]/\(-1000000000000<i/\i<1000000000000/\-1000000000000<j/\j<1000000000000)/\(j - i).toNat<=1000000/\
 ∀l,H1 l=none->Q (.ref l) (upd H1 l (.lst ((List.range (j - i).toNat).map λ(k:Nat)=>V.int (i+(k:Int)))))
end
section
variable{X:Cx}
def C8(K:W.Frag):R2:=λx y H Q=>∃l k xs,x = .ref l/\y = .int k/\H l=some (.tup xs)/\xs≠[]/\xs.length<=1000/\1<=k/\k<=1000/\∀p H',aj H H'->H' p=some (.tup (List.replicate k.toNat xs).flatten)->Q (.ref p) H'
end
structure Ak where
 kind:Str
 first:Int
 many:Int
 marks:List Int
 at_:Int
 C9:Int
 TQ:Option Int
 behind:List Int
 early:Bool
noncomputable def jI:Option Int->V
 | none=>.aO
 | some i=>.int i
noncomputable def qq(q:Ak)(m b:Addr):List (Str×V):=[("kind",.str q.kind),("first",.int q.first),("many",.int q.many),("marks",.ref m),("at",.int q.at_),("asker",.int q.C9),("latest",jI q.TQ),("behind",.ref b),("early",.bl q.early)]
structure j9(K:W.Frag)(C:Addr)(H:Hp)(p:Addr)(q:Ak)(m b dx:Addr):Prop where
 o:H p=some (.ins C dx (qq q m b))
 ms:H m=some (.tup (q.marks.map V.int))
 bh:H b=some (.tup (q.behind.map V.int))
theorem j9.same{K:W.Frag}{C:Addr}{H H':Hp}{p:Addr}{q:Ak}{m b dx:Addr}(h:j9 K C H p q m b dx)(s:aj H H'):j9 K C H' p q m b dx:=⟨s _ _ h.o,s _ _ h.ms,s _ _ h.bh⟩
theorem TR{K:W.Frag}{C:Addr}{H H1:Hp}{x dx m b:Addr}{q:Ak}(s:aj H H1)(nx:H1 x=none)(j_:H1 dx=none)(fX:dx≠x)(hm:H1 m=some (.tup (q.marks.map V.int)))(hb:H1 b=some (.tup (q.behind.map V.int))) :
  aj H (upd (upd (upd H1 dx (.own x)) x (.ins C dx [])) x (.ins C dx (qq q m b)))/\H x=none/\j9 K C (upd (upd (upd H1 dx (.own x)) x (.ins C dx [])) x (.ins C dx (qq q m b))) x q m b dx:=by
 have s1:=aj.put (o:=.own x) j_;have nx1:upd H1 dx (.own x) x=none:=by rw[aI (f_ fX)];exact nx
 have s2:aj H1 (upd (upd (upd H1 dx (.own x)) x (.ins C dx [])) x (.ins C dx (qq q m b))):=aj.put2 (s1.trans (aj.put nx1)) nx;exact⟨s.trans s2,s.free nx,⟨aD,s2 _ _ hm,s2 _ _ hb⟩⟩
structure nG(ns:List Int):Prop where
 up:ns.Pairwise (· < ·)
 lo:∀n∈ns,0<=n
 hi:∀n∈ns,n<=99
theorem nG.nil:nG []:=⟨.nil,(λ_ h=>nomatch h),λ_ h=>nomatch h⟩
noncomputable def zP(x:Int)(ns:List Int)(i:Nat):Int:=if i=0 then x else ns.getD (i - 1) 0
theorem nG.step{ns:List Int}(h:nG ns){i:Nat}{n:Int}(e:ns[i]? = some n):zP (-1) ns i+1<=n/\n<=99:=by
 refine⟨?_,h.hi n (get_mem e)⟩;unfold zP;split
 ·have:=h.lo n (get_mem e);lia
 ·have hi:=dB e;obtain⟨h1,e1⟩:=ie.mp e;have e2:ns.getD (i - 1) 0=ns[i - 1]:=by simp[List.getD_eq_getElem?_getD,List.getElem?_eq_getElem (show i - 1<ns.length by lia)]
  have:=Gn.mp h.up (i - 1) i (by lia) h1 (by lia)
  rw[e2];lia
theorem adC{x:Int}{ns:List Int}{i:Nat}{n:Int}(e:ns[i]? = some n):zP x ns (i+1)=n:=by
 simp[zP,List.getD_eq_getElem?_getD,e]
def HZ(K:W.Frag)(H:Hp)(v:V)(ns:List Int):Prop:=(v = .aO/\ns = [])\/∃a,v = .ref a/\(az K H a (ns.map V.int)\/H a=some (.tup (ns.map V.int)))
structure C_(first many at_ C9:Int)(lV:Option Int):Prop where
 f0:0<=first
 f1:first<=1000000
 m0:1<=many
 m1:many<=16
 a0:0<=at_
 a1:at_<=1000000000000
 s0:0<=C9
 s1:C9<=20
 l:∀x,lV=some x->0<=x/\x<=10000000000000
def adD:Sp:=λvs H Q _=>∃(n lo hi:Int) (w:Str),vs = [.int n,.int lo,.int hi,.str w]/\lo<=n/\n<=hi/\Q .aO H
def adE(K:W.Frag):Sp:=λvs H Q _=>∃(b:Addr) (ns:List Int),vs = [.ref b]/\aL K H b (ns.map V.int)/\nG ns/\Q .aO H
def adF(K:W.Frag):Sp:=λvs H Q _=>∃(f m a s:Int) (l:Option Int) (b:Addr) (ns:List Int),vs = [.int f,.int m,.int a,.int s,jI l,.ref b]/\C_ f m a s l/\aL K H b (ns.map V.int)/\nG ns/\Q .aO H
def adG(K:W.Frag):Sp:=λvs H Q _=>∃(v:V) (ns:List Int),vs = [v]/\HZ K H v ns/\∀b H',aj H H'->H' b=some (.tup (ns.map V.int))->Q (.ref b) H'
def adH(C:Addr):Sp:=λvs H Q _=>∃(p dx:Addr) (v1 v2 v3 v4 v5 v6 v7 v8 v9:V),vs = [.ref p,v1,v2,v3,v4,v5,v6,v7,v8,v9]/\H p=some (.ins C dx [])/\
 Q .aO (upd H p (.ins C dx [("kind",v1),("first",v2),("many",v3),("marks",v4),("at",v5),("asker",v6),("latest",v7),("behind",v8),("early",v9)]))
def adI(K:W.Frag)(C:Addr):Sp:=λvs H Q _=>∃(f m a s:Int) (l:Option Int) (bv:V) (ns:List Int),vs = [.int f,.int m,.int a,.int s,jI l,bv]/\C_ f m a s l/\HZ K H bv ns/\nG ns/\
 ∀p mk b dx H',aj H H'->H p=none->j9 K C H' p ⟨"read",f,m,[],a,s,l,ns,false⟩ mk b dx->Q (.ref p) H'
def adJ(K:W.Frag)(C:Addr):Sp:=λvs H Q _=>∃(f a s:Int) (ma:Addr) (ms:List Int) (l:Option Int) (bv:V) (ns:List Int) (e:Bool),vs = [.int f,.ref ma,.int a,.int s,jI l,bv,.bl e]/\az K H ma (ms.map V.int)/\(∀x∈ms,0<=x/\x<=1000000000)/\
 C_ f ms.length a s l/\HZ K H bv ns/\nG ns/\∀p mk b dx H',aj H H'->H p=none->j9 K C H' p ⟨"write",f,ms.length,ms,a,s,l,ns,e⟩ mk b dx->Q (.ref p) H'
noncomputable def Dc(x y:Ak):Bool:=decide ((x.kind = "write"\/y.kind = "write")/\x.first<y.first+y.many/\y.first<x.first+x.many)
def adK(K:W.Frag)(C:Addr):Sp:=λvs H Q _=>∃(p r:Addr) (x y:Ak) (m b dx m' b' nj:Addr),vs = [.ref p,.ref r]/\j9 K C H p x m b dx/\j9 K C H r y m' b' nj/\Q (.bl (Dc x y)) H
theorem qt(n:Int):∀ms:List Int,vV (.int n) (ms.map V.int)=decide (n∈ms)
 | []=>rfl
 | m::ms=>by
  have ih:=qt n ms;unfold vV at ih ⊢;rw[dM,vd,ih,sL];simp only[kP,Bool.or_eq_true,beq_iff_eq,decide_eq_true_eq,List.mem_cons];constructor
  ·rintro(h | h)
   ·exact .inl h.symm
   ·exact .inr h
  ·rintro(h | h)
   ·exact .inl h.symm
   ·exact .inr h
theorem wD(ms:List Int):(ms.map V.int).all lM=true:=by simp[lM]
theorem adL{X:Cx}{K:W.Frag}(h:X.K=K):cB X (compareOp .In) (rB K false):=h▸CH
theorem TU{X:Cx}{K:W.Frag}(h:X.K=K):cB X (compareOp .NotIn) (rB K true):=h▸SA
section
variable{K:W.Frag}{tl:TE}{g:TG}{tb:TS}{D:Ends}{σ:St}{H:Hp}
theorem rt(a:Addr)(xs:List V)(Pv:Nat->St->Hp->Prop)(m_:∀Q:VK,Q (.ref a) H->tl σ H Q)(eg:aL K H a xs)(h0:Pv 0 σ H)(hl:∀i σ H,i<=xs.length->Pv i σ H->aL K H a xs)
  (hs:∀i x σ H (N:St->Hp->Prop),(∀σ H,Pv (i+1) σ H->N σ H)->xs[i]? = some x->Pv i σ H->g x σ H λaC H2=>tb { D with nx:=N,ct:=N,bk:=D.nx } aC H2) (hd:∀σ H,Pv xs.length σ H->D.nx σ H):lI (GP K tl) g tb D σ H :=
 m_ _ ⟨a,rfl,⟨xs,eg⟩,abg Pv h0 hl (λi x σ H hx p=>hs i x σ H _ (λ_ _ z=>z) hx p) hd⟩
end
noncomputable def f2(o:Obj):Option Value:=match o.data with
 | .fields vs=>vs[2]?
 | _=>none
def Dk(h h':Heap):Prop:=∀(b:Nat) (o:Obj),h.objs[b]? = some o->∃o':Obj,h'.objs[b]? = some o'/\o'.dict=o.dict/\f2 o' = f2 o
theorem Dk.refl(h:Heap):Dk h h:=λ_ o e=>⟨o,e,rfl,rfl⟩
theorem Dk.push{h h':Heap}(k:Dk h h')(o:Obj):Dk h (h'.push o):=λb ob e=>by
 obtain⟨o',e',d⟩:=k b ob e;refine⟨o',?_,d⟩
 show (h'.objs.push o)[b]? = some o';rw[Array.getElem?_push];have:b<h'.objs.size:=(Array.getElem?_eq_some_iff.mp e').1;rw[if_neg (by lia)];exact e'
theorem Dk.upd{h h':Heap}(k:Dk h h'){a:Addr}{f:Obj->Obj}(hf:∀o,(f o).dict=o.dict/\f2 (f o)=f2 o):Dk h (h'.update a f):=λb ob e=>by
 obtain⟨o',e',d⟩:=k b ob e;by_cases hb:a=b
 ·subst hb;exact⟨f o',by show (h'.objs.modify a f)[a]? = _;rw[Array.getElem?_modify,if_pos rfl,e'];rfl,(hf o').1.trans d.1,(hf o').2.trans d.2⟩
 ·exact⟨o',by show (h'.objs.modify a f)[b]? = _;rw[Array.getElem?_modify,if_neg hb];exact e',d⟩
theorem TV{h:Heap}{a:Addr}{o:Obj}(e:h.get? a=some o):h.objs[a]? = some o:=by
 unfold Heap.get? at e;split at e
 ·cases e
 ·exact e
theorem Dk.at{h h':Heap}(k:Dk h h'){a:Addr}{o o':Obj}(e:h.get? a=some o)(e':h'.get? a=some o'):o'.dict=o.dict/\f2 o' = f2 o:=by
 obtain⟨o2,q,d⟩:=k a o (TV e);have:=TV e';rw[q] at this;cases this;exact d
noncomputable def KD{α:Type}:Sem α->Prop
 | .pure _=>True
 | .raise _=>True
 | .unsupported _=>True
 | .finish _=>True
 | .rule _ k=>KD (k ())
 | .at _ k=>KD (k ())
 | .load _ _ k=>∀o,KD (k o)
 | .update _ _ f k=>(∀o,(f o).dict=o.dict/\f2 (f o)=f2 o)/\KD (k ())
 | .alloc _ k=>∀a,KD (k a)
 | .loadIfAlive _ k=>∀o,KD (k o)
 | .point _ k=>KD (k ())
 | .register _ _=>True
 | .fresh k=>∀t,KD (k t)
 | .ask k=>∀x,KD (k x)
 | .choose _ _ k=>∀n,KD (k n)
 | .os _ _ k=>∀r,KD (k r)
 | .call .. => False
 | .handled _ k=>∀x,KD (k x)
 | .newGen _ k=>∀n,KD (k n)
 | .genState _ k=>∀x,KD (k x)
 | .resume .. => False
 | .yield .. => True
 | .stack k=>∀x,KD (k x)
 | .fork .. => True
 | .thread k=>∀n,KD (k n)
 | .await .. => True
theorem KD.wp{α:Type}{M:Model}{Γ:PySem.Ctx}{Q:α->Pos->Shared->Prop}{E:Value->Pos->Shared->Prop}{h0:Heap}(t:Sem α):KD t->∀p (s:Shared),Dk h0 s.heap->Sem.wp M Γ t Q E p s->
  Sem.wp M Γ t (λa p s'=>Q a p s'/\Dk h0 s'.heap) (λe p s'=>E e p s'/\Dk h0 s'.heap) p s:=by
 induction t with
 | pure a=>exact λ_ p s d h=>by rw[Sem.wp] at h ⊢;exact⟨h,d⟩
 | raise e=>exact λ_ p s d h=>by rw[Sem.wp] at h ⊢;exact⟨h,d⟩
 | unsupported _=>exact λ_ p s d h=>by rw[Sem.wp] at h;exact h.elim
 | finish _=>exact λ_ p s d h=>by rw[Sem.wp] at h;exact h.elim
 | rule _ k ih=>exact λq p s d h=>by rw[Sem.wp] at h ⊢;exact ih () q p s d h
 | «at» _ k ih=>exact λq p s d h=>by rw[Sem.wp] at h ⊢;exact ih () q _ s d h
 | load a _ k ih=>exact λq p s d h=>by rw[Sem.wp] at h ⊢;obtain⟨o,e,h⟩:=h;exact⟨o,e,ih o (q o) p s d h⟩
 | update a _ f k ih=>exact λq p s d h=>by rw[Sem.wp] at h ⊢;exact⟨h.1,ih () q.2 p _ (d.upd q.1) h.2⟩
 | alloc o k ih=>exact λq p s d h=>by rw[Sem.wp] at h ⊢;exact ih _ (q _) p _ (d.push o) h
 | loadIfAlive a k ih=>exact λq p s d h=>by rw[Sem.wp] at h ⊢;exact ih _ (q _) p s d h
 | point _ k ih=>exact λq p s d h=>by rw[Sem.wp] at h ⊢;exact ih () q p s d h
 | register _ k ih=>exact λq p s d h=>by rw[Sem.wp] at h;exact h.elim
 | fresh k ih=>exact λq p s d h=>by rw[Sem.wp] at h ⊢;exact ih _ (q _) p _ d h
 | ask k ih=>exact λq p s d h=>by rw[Sem.wp] at h ⊢;exact ih _ (q _) p _ d h
 | choose src n k ih=>exact λq p s d h=>by rw[Sem.wp] at h ⊢;exact⟨h.1,ih _ (q _) p _ d h.2⟩
 | os r _ k ih=>exact λq p s d h=>by rw[Sem.wp] at h ⊢;exact ih _ (q _) p _ d h
 | call c hd g l k ih=>exact λq p s d h=>False.elim q
 | handled own k ih=>exact λq p s d h=>by rw[Sem.wp] at h ⊢;exact ih _ (q _) p _ d h
 | newGen c k ih=>exact λq p s d h=>by rw[Sem.wp] at h ⊢;exact ih _ (q _) p _ d h
 | genState g k ih=>exact λq p s d h=>by rw[Sem.wp] at h ⊢;obtain⟨o,e,h⟩:=h;exact⟨o,e,ih _ (q _) p s d h⟩
 | resume g r l k ih=>exact λq p s d h=>False.elim q
 | yield v g l k ih=>exact λq p s d h=>by rw[Sem.wp] at h;exact h.elim
 | stack k ih=>exact λq p s d h=>by rw[Sem.wp] at h ⊢;exact ih _ (q _) p _ d h
 | fork c k ih=>exact λq p s d h=>by rw[Sem.wp] at h;exact h.elim
 | thread k ih=>exact λq p s d h=>by rw[Sem.wp] at h ⊢;exact ih _ (q _) p _ d h
 | await a t d l k ih=>exact λq p s d h=>by rw[Sem.wp] at h;exact h.elim
theorem KD.any{α:Type}{M:Model}{A:Around}{t:Sem α}{Q:α->Shared->Prop}{E:Value->Shared->Prop}{s:Shared}(k:KD t)(h:wpAny M A t Q E s):wpAny M A t (λa s'=>Q a s'/\Dk s.heap s'.heap) (λe s'=>E e s'/\Dk s.heap s'.heap) s :=
 λΓ p hΓ=>k.wp (h0:=s.heap) t p s (Dk.refl _) (h Γ p hΓ)
theorem KD.bind{α β:Type}{f:α->Sem β}(hf:∀a,KD (f a)):∀(m:Sem α),KD m->KD (m >>= f):=by
 intro m
 show KD m->KD (Sem.bind m f)
 induction m with
 | pure a=>exact λ_=>hf a
 | raise e=>exact λ_=>trivial
 | unsupported _=>exact λ_=>trivial
 | finish _=>exact λ_=>trivial
 | rule _ k ih=>exact λq=>ih () q
 | «at» _ k ih=>exact λq=>ih () q
 | load a _ k ih=>exact λq o=>ih o (q o)
 | update a _ f k ih=>exact λq=>⟨q.1,ih () q.2⟩
 | alloc o k ih=>exact λq a=>ih a (q a)
 | loadIfAlive a k ih=>exact λq o=>ih o (q o)
 | point _ k ih=>exact λq=>ih () q
 | register _ k ih=>exact λq=>trivial
 | fresh k ih=>exact λq a=>ih a (q a)
 | ask k ih=>exact λq a=>ih a (q a)
 | choose src n k ih=>exact λq a=>ih a (q a)
 | os r _ k ih=>exact λq a=>ih a (q a)
 | call c hd g l k ih=>exact λq=>q
 | handled own k ih=>exact λq a=>ih a (q a)
 | newGen c k ih=>exact λq a=>ih a (q a)
 | genState g k ih=>exact λq a=>ih a (q a)
 | resume g r l k ih=>exact λq=>q
 | yield v g l k ih=>exact λq=>trivial
 | stack k ih=>exact λq a=>ih a (q a)
 | fork c k ih=>exact λq=>trivial
 | thread k ih=>exact λq a=>ih a (q a)
 | await a t d l k ih=>exact λq=>trivial
theorem KD.ite{α:Type}{c:Prop}[Decidable c]{a b:Sem α}(ha:KD a)(hb:KD b):KD (if c then a else b):=by split <;> assumption
theorem H_{i:Nat}(hi:i≠2)(v:Value)(o:Obj):(Obj.mapFields (·.setIfInBounds i v) o).dict=o.dict/\f2 (Obj.mapFields (·.setIfInBounds i v) o)=f2 o:=by
 obtain⟨c,d,dt,sl⟩:=o;cases dt <;> first | exact⟨rfl,rfl⟩ | (refine⟨rfl,?_⟩;show (Array.setIfInBounds _ i v)[2]? = _;rw[Array.getElem?_setIfInBounds_ne hi];rfl)
theorem KD.then{α β:Type}{m:Sem α}{f:α->Sem β}(hm:KD m)(hf:∀a,KD (f a)):KD (m >>= f):=KD.bind hf m hm
theorem Dd(v:Value)(i:Nat):KD (field v i):=by
 unfold field fieldsOf load;repeat' first | exact trivial | exact λ_=>trivial | assumption | exact⟨H_ (by assumption) _,trivial⟩ | exact⟨λ_=>⟨rfl,rfl⟩,trivial⟩ | refine KD.ite ?_ ?_ | refine KD.then ?_ λ_=>?_ | split
theorem Ia(v:Value){i:Nat}(hi:i≠2)(x:Value):KD (setField v i x):=by
 unfold setField updateField load update;repeat' first | exact trivial | exact λ_=>trivial | assumption | exact⟨H_ (by assumption) _,trivial⟩ | exact⟨λ_=>⟨rfl,rfl⟩,trivial⟩ | refine KD.ite ?_ ?_ | refine KD.then ?_ λ_=>?_ | split
theorem Ib(e:Value)(f:Option Addr):KD (setFlight e f):=by
 have h1:=Dd e 1;unfold setFlight;refine KD.then h1 λtb=>KD.ite ?_ ?_
 ·exact Ia _ (by decide) _
 ·trivial
theorem TX:∀l,KD (readyFrames l)
 | []=>trivial
 | env::outer=>by
  have ih:=TX outer;have hf:=λv i=>Dd v i;unfold readyFrames;split
  ·refine KD.then (λ_=>trivial) λo=>?_
   refine KD.ite trivial ?_;refine KD.then ?_ λi=>KD.then ?_ λb=>?_
   ·unfold behindIsImport;refine KD.ite trivial (KD.ite trivial ?_);exact KD.then (hf _ _) λ_=>(trivial:KD (.pure _))
   ·unfold keptBack underTheClaimsCaller stack;split
    ·refine KD.ite trivial ?_;refine KD.then ?_ λ_=>(trivial:KD (.pure _));exact λ_=>trivial
    ·trivial
   ·refine KD.then (m:=update _ _) ⟨λ_=>⟨rfl,rfl⟩,trivial⟩ λ_=>?_
    exact ih
  ·trivial
theorem adM(env:Env):KD (PySem.frameOf env):=by
 unfold PySem.frameOf;refine KD.then ?_ λl=>?_
 ·unfold frameEnvs stack;exact λ_=>trivial
 ·refine KD.then ?_ λa=>?_
  ·unfold frameObject;split
   ·trivial
   ·refine KD.then (TX _) λ_=>?_
    trivial
  ·split <;> trivial
theorem adN(ty:String)(vs:List Value):KD (newFields ty vs):=by
 unfold newFields newObj newObjAsIs alloc;repeat' first | exact trivial | exact λ_=>trivial | assumption | exact⟨H_ (by assumption) _,trivial⟩ | exact⟨λ_=>⟨rfl,rfl⟩,trivial⟩ | refine KD.ite ?_ ?_ | refine KD.then ?_ λ_=>?_ | split
theorem adO(f:Addr)(b:Bool):KD (entryPlaceOf f b):=by
 unfold entryPlaceOf;refine KD.then (m:=stack) (λ_=>trivial) λl=>?_
 split <;> trivial
theorem TY(e:Value)(env:Env):KD (noteFrame e env):=by
 have last:∀head f,KD (do setField e 1 (← EntryCells.newEntry head (← PySem.frameOf env) .none (rawInt f) .none (← entryPlaceOf f (head != .none)))):=λhead f =>
  KD.then (adM _) λa=>KD.then (adO _ _) λp=>KD.then (adN _ _) λx=>Ia _ (by decide) _
 unfold noteFrame;split
 ·refine KD.then (Dd _ _) λhead=>?_
  refine KD.ite ?_ ?_
  ·refine KD.then (Dd _ _) λx=>?_
   refine KD.ite trivial ?_;refine KD.then (Ia _ (by decide) _) λ_=>?_
   exact last _ _
  ·exact last _ _
 ·trivial
theorem TZ(env:Env)(e:Value):KD (leaving env e):=KD.then (TY _ _) λ_=>Ib _ _
def iV(h:Heap)(a:Addr)(od:Option Addr):Prop:=∃oe,h.get? a=some oe/\oe.dict=od.map (· / 2)/\(od.getD 0 % 2=0->f2 oe=some .none)
theorem iV.dk{h h':Heap}{a:Addr}{od:Option Addr}(x:iV h a od)(k:Dk h h')(th:∃o,h'.get? a=some o):iV h' a od :=
 let ⟨_,e,d,c⟩:=x;let ⟨o',e'⟩:=th;⟨o',e',(k.at e e').1.trans d,λy=>(k.at e e').2.trans (c y)⟩
section
variable{M:Model}{A:Around}{E:Value->Shared->Prop}{s:Shared}{base:Heap}{env:Env}{l outer:List Env}{L e:Addr}{cls a0:Value}{od:Option Addr}{Q:Unit->Shared->Prop}
theorem adP(kg:A.frames=some (env::outer))(hf:env.frame=some L)(Ic:Heap.FlyingW base (env::outer) e cls a0 s.heap)(hd:iV s.heap e od)
  (hQ:∀h',Heap.FlyingW base outer e cls a0 h'->s.heap.UpToSlots h'->iV h' e od->Q () { s with heap:=h' }):wpAny M A (leaving env (.ref e)) Q E s:=by
 refine eL ((TZ env (.ref e)).any (wpAny_leaves_onW (E:=E) (Q:=λ_ s2=>∃h',Heap.FlyingW base outer e cls a0 h'/\s.heap.UpToSlots h'/\s2 = { s with heap:=h' }) kg hf Ic λh' x1 x2=>⟨h',x1,x2,rfl⟩)) (λu s2 z=>?_) λ_ _ z=>z.1;obtain⟨⟨h',x1,x2,rfl⟩,k⟩:=z;obtain⟨o,q,_⟩:=x1.there;exact hQ h' x1 x2 (hd.dk k ⟨o,q⟩)
theorem adQ(kg:A.frames=some (env::outer))(hf:env.frame=some L)(Ic:Heap.FlyingW base (env::outer) e cls a0 s.heap)(hd:iV s.heap e od)
  (hQ:∀h',Heap.HeldW base (env::outer) e cls a0 L h'->s.heap.UpToSlots h'->iV h' e od->Q () { s with heap:=h' }):wpAny M A (noteFrame (.ref e) env) Q E s:=by
 refine eL ((TY (.ref e) env).any (wpAny_looks_onW (E:=E) (Q:=λ_ s2=>∃h',Heap.HeldW base (env::outer) e cls a0 L h'/\s.heap.UpToSlots h'/\s2 = { s with heap:=h' }) kg hf Ic λh' x1 x2=>⟨h',x1,x2,rfl⟩)) (λu s2 z=>?_) λ_ _ z=>z.1;obtain⟨⟨h',x1,x2,rfl⟩,k⟩:=z;obtain⟨o,q,_⟩:=x1.there;exact hQ h' x1 x2 (hd.dk k ⟨o,q⟩)
theorem adR(hh:Heap.HeldW base l e cls a0 L s.heap)(hd:iV s.heap e od)
  (hQ:∀h',Heap.FlyingW base l e cls a0 h'->s.heap.UpToSlots h'->iV h' e od->Q () { s with heap:=h' }):wpAny M A (setFlight (.ref e) none) Q E s:=by
 refine eL ((Ib (.ref e) none).any (wpAny_landsW (E:=E) (Q:=λ_ s2=>∃h',Heap.FlyingW base l e cls a0 h'/\s.heap.UpToSlots h'/\s2 = { s with heap:=h' }) hh λh' x1 x2=>⟨h',x1,x2,rfl⟩)) (λu s2 z=>?_) λ_ _ z=>z.1;obtain⟨⟨h',x1,x2,rfl⟩,k⟩:=z;obtain⟨o,q,_⟩:=x1.there;exact hQ h' x1 x2 (hd.dk k ⟨o,q⟩)
theorem adS(hh:Heap.FlyingW base l e cls a0 s.heap)(hd:iV s.heap e od)
  (hQ:∀h',Heap.FlyingW base l e cls a0 h'->s.heap.UpToSlots h'->iV h' e od->Q () { s with heap:=h' }):wpAny M A (setFlight (.ref e) none) Q E s:=by
 refine eL ((Ib (.ref e) none).any (lands_againW (E:=E) (Q:=λ_ s2=>∃h',Heap.FlyingW base l e cls a0 h'/\s.heap.UpToSlots h'/\s2 = { s with heap:=h' }) hh λh' x1 x2=>⟨h',x1,x2,rfl⟩)) (λu s2 z=>?_) λ_ _ z=>z.1;obtain⟨⟨h',x1,x2,rfl⟩,k⟩:=z;obtain⟨o,q,_⟩:=x1.there;exact hQ h' x1 x2 (hd.dk k ⟨o,q⟩)
theorem adT{oe:Obj}{vs:Array Value}(kg:A.frames=some (env::outer))(hf:env.frame=some L)(hkb:base.StaysIn s.heap)(hl:s.heap.FunFrames base (env::outer))(he:s.heap.get? e=some oe)(T3:base.get? e=none)
  (hdt:oe.data = .fields vs) (h1:vs[1]? = some .none) (h0:vs[0]? = some a0) (hd:iV s.heap e od)
  (hQ:∀h',Heap.FlyingW base outer e oe.cls a0 h'->s.heap.UpToSlots h'->iV h' e od->Q () { s with heap:=h' }):wpAny M A (leaving env (.ref e)) Q E s:=by
 refine eL ((TZ env (.ref e)).any (wpAny_leaving_firstW (E:=E) (Q:=λ_ s2=>∃h',Heap.LeftW base (env::outer) e oe.cls a0 s.heap h'/\s2 = { s with heap:=h' }) kg hl hf he hkb T3 hdt h1 h0 λh' x=>⟨h',x,rfl⟩)) (λu s2 z=>?_) λ_ _ z=>z.1;obtain⟨⟨h',⟨k1,⟨_,_,k2⟩,k3,k4⟩,rfl⟩,k⟩:=z;have fl:Heap.FlyingW base outer e oe.cls a0 h':=⟨k1,T3,k2,k3⟩;obtain⟨o,q,_⟩:=fl.there;exact hQ h' fl k4 (hd.dk k ⟨o,q⟩)
end
theorem cQ.there{P:Program}{w:World}{H:Hp}{h:Heap}{a:Addr}{o:HO}(x:cQ P w H h)(e:H a=some o):∃u,h.get? a=some u:=by
 have x:=x a o e;cases o with
 | lst xs=>obtain⟨_,_,_,_,e⟩:=x;exact⟨_,e⟩
 | tup xs=>obtain⟨_,_,_,ob,e,_⟩:=x;exact⟨_,e⟩
 | dK aA=>obtain⟨_,_,_,_,o,_,_,e,_⟩:=x;exact⟨_,e⟩
 | dT aA=>obtain⟨_,_,_,_,o,_,_,e,_⟩:=x;exact⟨_,e⟩
 | set S n=>obtain⟨o,_,_,_,e,_⟩:=x;exact⟨_,e⟩
 | ins C dx fs=>obtain⟨_,_,_,e,_⟩:=x;exact⟨_,e⟩
 | own y=>obtain⟨_,e⟩:=x;exact⟨_,e⟩
 | xd fs=>obtain⟨_,⟨_,_,_,e,_⟩,_⟩:=x;exact⟨_,e⟩
 | B7 lo hi=>obtain⟨_,_,_,e⟩:=x;exact⟨_,e⟩
 | iP ob u=>obtain⟨e,_⟩:=x;exact⟨_,e⟩
 | fO ps=>exact⟨_,(show h.get? a=some _ from x)⟩
 | met f y=>exact⟨_,(show h.get? a=some _ from x)⟩
 | ext φ=>obtain⟨_,⟨_,e⟩,_⟩:=x;exact⟨_,e⟩
structure Cut(base B:Heap)(outer:List Env)(H H':Hp)(h:Heap):Prop where
 stays:base.StaysIn B
 k1:∀b o,h.get? b=some o->H b=none->b∉cK outer->B.get? b=some o
 k2:∀b u,H' b=some u->∃o,B.get? b=some o
 k3:∀b o,h.get? b=some o->b∉cK outer->∃o',B.get? b=some o'
noncomputable def jJ(P:Program)(w:World)(base:Heap):jB:=λouter H s E e s' =>
 ∃a C a0 H' B od,e = .ref a/\s'.os=s.os/\AllBare s'.gens/\Un (cK outer) [] H H' s.heap s'.heap/\cQ P w H' s'.heap/\H' a=none/\s.heap.get? a=none/\
  Cut base B outer H H' s.heap/\Heap.FlyingW B outer a (.ref C) a0 s'.heap/\iV s'.heap a od/\E (.ref C) od H'
section
variable{P:Program}{w:World}{K:W.Frag}{mg:Str->Option Value}{base B:Heap}{N:List Str}{qual:Str}{scope:Scope}{f:Addr}{cd:Value}{A:Around}{outer:List Env}{bR sc s':Shared}{iy Hc H':Hp}{E:XK}
 {pins:List (Addr×Obj)} {σ:St} {a C:Addr} {a0:Value} {h':Heap} {od:Option Addr}
theorem T4:cK (envOfC qual scope bR.heap.objs.size f cd::outer)=bR.heap.objs.size::cK outer:=rfl
theorem T5(I:Inv (i8 (jJ P w base) P w K mg base N qual scope f cd A outer bR iy E) pins σ Hc sc)(u:Un (cK (envOfC qual scope bR.heap.objs.size f cd::outer)) [] Hc H' sc.heap s'.heap)(ho:s'.os=sc.os)(hg:AllBare s'.gens)(aK:cQ P w H' s'.heap)
  (na:H' a=none) (nh:sc.heap.get? a=none) (c:Cut base B (envOfC qual scope bR.heap.objs.size f cd::outer) Hc H' sc.heap) (kB:B.StaysIn s'.heap) (gJ:Heap.FlyingW B outer a (.ref C) a0 h') (up:s'.heap.UpToSlots h') (hd:iV h' a od) (hE:E (.ref C) od H') :
  jJ P w base outer iy bR E (.ref a) { s' with heap:=h' }:=by
 have J:=I.Ci ho u aK hg (λ_ z=>nomatch z);have bs:Un (cK outer) [] iy Hc bR.heap sc.heap:=I.base;have zQ:Un (cK outer) [] iy H' bR.heap s'.heap:=J.base;have nl:∀b o,bR.heap.get? b=some o->b∉cK outer->b∉cK (envOfC qual scope bR.heap.objs.size f cd::outer):=λb o q n z=>by
  rw[T4] at z;rcases cE.mp z with e | z
  ·exact absurd (cD q) (by rw[e];exact kG _)
  ·exact n z
 have k1:∀b o,bR.heap.get? b=some o->iy b=none->b∉cK outer->B.get? b=some o:=λb o q n hb =>
  c.k1 b o (bs.keep b o q n hb (by simp)) (bs.free b o q n (by simp)) (nl b o q hb)
 have k3:∀b o,bR.heap.get? b=some o->b∉cK outer->∃o',B.get? b=some o':=λb o q hb =>
  let ⟨o1,q1⟩:=bs.there b o q (by simp);c.k3 b o1 q1 (nl b o q hb)
 have sl:∀b o,bR.heap.get? b=some o->iy b=none->b∈cK outer->∃sl,h'.get? b=some { o with slots:=sl }:=λb o q n hb=>by
  obtain⟨sl,q1⟩:=zQ.slot b o q n hb (by simp)
  obtain⟨_,o2,q2,nf⟩:=I.ok.i6.mem hb;have q2:bR.heap.get? b=some o2:=q2;rw[q] at q2;cases q2;obtain⟨i_,q3⟩:=up b _ q1 nf;exact⟨i_,q3⟩
 refine⟨a,C,a0,H',B,od,rfl,J.os,hg,⟨λb o q n hb _=>gJ.1 _ _ (k1 b o q n hb),λb o q n hb _=>sl b o q n hb,zQ.free,λb o q _=>?_,zQ.lF,zQ.jT,zQ.kK⟩,λb v e=>?_,na,?_,⟨c.stays,k1,c.k2,k3⟩,gJ,hd,hE⟩
 ·by_cases hb:b∈cK outer
  ·obtain⟨sl,q1⟩:=sl b o q (I.ok.mQ b hb) hb;exact⟨_,q1⟩
  ·obtain⟨o',q1⟩:=k3 b o q hb;exact⟨o',gJ.1 _ _ q1⟩
 ·refine(aK b v e).jw (λd z hd q=>?_) (λ_ q=>q) λ_ _ q=>q;have tr:∃v',H' d=some v':=by
   rcases hd with rfl | hd
   ·exact⟨_,e⟩
   ·exact⟨_,hd⟩
  obtain⟨v',e'⟩:=tr;obtain⟨o,q1⟩:=c.k2 d v' e';have:=kB d o q1;rw[q] at this;cases this;exact gJ.1 _ _ q1
 ·cases q:bR.heap.get? a with
  | none=>rfl
  | some o =>
   obtain⟨o1,q1⟩:=bs.there a o q (by simp)
   rw[nh] at q1;cases q1
theorem T6:Passes (jJ P w base) (i8 (jJ P w base) P w K mg base N qual scope f cd A outer bR iy E) E:=by
 intro pins σ H s e s' I hx;obtain⟨a,C,a0,H',B,od,rfl,ho,hg,u,aK,na,nh,c,gJ,hd,hE⟩:=hx
 show wpAny _ _ (leaving _ _) _ _ _;exact adP I.ok.frames rfl gJ hd λh' x1 x2 x3=>T5 I u ho hg aK na nh c gJ.1 x1 x2 x3 hE
theorem adU{h1:Heap}{vs:List Value}(I:Inv (i8 (jJ P w base) P w K mg base N qual scope f cd A outer bR iy E) pins σ Hc sc)(hx:Heap.MadeExcOf sc.heap h1 a (.ref C) vs)(hE:E (.ref C) none Hc) :
  (i8 (jJ P w base) P w K mg base N qual scope f cd A outer bR iy E).xe (.ref a) { sc with heap:=h1 }:=by
 show wpAny _ _ (leaving _ _) _ _ _;have fr:sc.heap.FunFrames base (envOfC qual scope bR.heap.objs.size f cd::outer):=I.stack;have free:∀b∈cK (envOfC qual scope bR.heap.objs.size f cd::outer),Hc b=none:=λb hb=>by
  rw[T4] at hb;rcases cE.mp hb with rfl | hb
  ·exact I.free
  ·obtain⟨_,o,q,_⟩:=I.ok.i6.mem hb;exact I.base.free b o q (I.ok.mQ b hb) (by simp[i8])
 have nb:∀b o,base.get? b=some o->b∉cK (envOfC qual scope bR.heap.objs.size f cd::outer):=λb o q hm=>by
  have z:=(fr.mem hm).1;rw[q] at z;cases z
 have c:Cut base (PySem.W.hideAll sc.heap (cK (envOfC qual scope bR.heap.objs.size f cd::outer))) (envOfC qual scope bR.heap.objs.size f cd::outer) Hc Hc sc.heap :=
  ⟨λb o q=>xT _ (I.bk b o q) (nb b o q),
   λb o q _ hb=>xT _ q hb,
   λb v e=>let ⟨o,q⟩:=I.aK.there e;⟨o,xT _ q λhm=>(Option.some_ne_none v (e.symm.trans (free b hm))).elim⟩,
   λb o q hb=>⟨o,xT _ q hb⟩⟩
 have na:Hc a=none:=by
  cases e:Hc a with
  | none=>rfl
  | some v =>
   obtain⟨o,q⟩:=I.aK.there e;rw[hx.new] at q;cases q
 obtain⟨t,he,htn,ht⟩:=hx.there;refine adT (s:={ sc with heap:=h1 }) (e:=a) (oe:={ cls:=.ref C,data:=.fields #[.ref t,.none,.none,.none,.bool false,.none] }) (a0:=.ref t) I.ok.frames rfl (base:=PySem.W.hideAll sc.heap (cK (envOfC qual scope bR.heap.objs.size f cd::outer))) (λb o q=>hx.keeps b o (BW _ q))
  ((PySem.W.funFrames_hide fr λenv he b hb=>Gg.mpr ⟨env,he,hb⟩).of_keeps λb o hb _=>⟨o,hx.keeps b o hb,rfl⟩) he ?_ rfl rfl rfl (od:=none) ⟨_,he,rfl,λ_=>rfl⟩ λh' x1 x2 x3=>?_
 ·cases q:(PySem.W.hideAll sc.heap (cK (envOfC qual scope bR.heap.objs.size f cd::outer))).get? a with
  | none=>rfl
  | some o=>have:=BW _ q;rw[hx.new] at this;cases this
 exact T5 (s':={ sc with heap:=h1 }) I (Un.kept hx.keeps) rfl I.bare (I.aK.kept hx.keeps) na hx.new c (λb o q=>hx.keeps b o (BW _ q)) x1 x2 x3 hE
end
theorem adV{K:W.Frag}{h₀:Heap}{C:Addr}{rO:List Value}{newId:String}(X:K.In h₀)(q:PySem.W.excIn K C rO newId=true) :
  ∃bm N nm q bs hdct sn sub ab col dd k0 k1 k2 k3 k5 mN,h₀.get? C=some (excClassObj nm q C N bs bm hdct sn sub ab col dd k0 k1 k2 k3 k5 newId)/\h₀.Ns N mN/\mN "__init__" = none/\OwnTail h₀ rO bm:=by
 unfold PySem.W.excIn at q;cases e:K.lookup C with
 | none=>rw[e] at q;cases q
 | some o =>
  rw[e] at q;split at q
  ·rename_i dd cd sl ho;cases ho;split at q
   ·rename_i C' bm k0 k1 k2 k3 n k5 hm hs;simp only[Bool.and_eq_true,beq_iff_eq,Bool.not_eq_true'] at q;obtain⟨⟨⟨⟨⟨c1,c2⟩,c3⟩,c4⟩,c5⟩,c6⟩:=q;obtain⟨nm,bs,mro,ns,qn,hd,sn,sub,ab,col,del⟩:=cd;obtain⟨l⟩:=sl;dsimp only at hm hs c3 c5 c6;subst c1 c2 hm c3 hs;exact⟨bm,ns,nm,qn,bs,hd,sn,sub,ab,col,dd,k0,k1,k2,k3,k5,_,X _ _ e,.of_isNs (PySem.W.isNs_of_in X c5),PySem.W.nsMap_none_of_in X c5 c6,PySem.W.tail_of_in X c4⟩
   ·cases q
  ·cases q
def Makes(X:Cx)(E:XK):Prop:=∀(pins:List (Addr×Obj)) (σ:St) (H:Hp) (s:Shared) (a C:Addr) (vs:List Value) (h1:Heap),Inv X pins σ H s->Heap.MadeExcOf s.heap h1 a (.ref C) vs->E (.ref C) none H->X.xe (.ref a) { s with heap:=h1 }
def De(C:Addr)(E:XK)(t:TA):TS:=λ_ σ H=>t σ H λvs H1=>vs.length<=sizeLine/\E (.ref C) none H1
section
variable{X:Cx}{E:XK}{x:Str}{C:Addr}{bm:List Value}{newId adW B:String}{np gc pos:Pos}{Df:Expr}{rest:List Expr}{t:TA}
theorem adX(hx:Makes X E)(hg:Gl X x)(hm:X.mg x=some (.ref C))(q:PySem.W.excIn X.K C bm newId=true)(FB:ExcBaseFacts B newId adW bm)(hc:X.calm=true)(ha:PA X (Df::rest) t)
  (he:starEach (Df::rest) X.env=(false,eval Df X.env)::starEach rest X.env:=by rfl) (iE:(backTo gc (starEach rest X.env)).any (·.1)=false:=by rfl) (jC:(x == ("__debug__" : Str))=false:=by rfl) :
  PS X (.Raise (some (.Call (.Name x np) (Df::rest) [] gc)) none pos) (De C E t):=by
 intro pins s σ H D I h;obtain⟨tl,N,nm,q,bs,hdct,sn,sub,ab,col,dd,k0,k1,k2,k3,k5,mN,hC,hN,hni,T⟩:=adV I.mod.qW q;refine wpAny_Raise_call_subT (C:=C) (nm:=nm) (q:=q) (N:=N) (bs:=bs) (bm:=tl) (hdct:=hdct) (sn:=sn) (sub:=sub) (ab:=ab) (col:=col) (dd:=dd) (k0:=k0) (k1:=k1) (k2:=k2) (k3:=k3) (k5:=k5)
  FB (mN:=mN) (T.hasType FB.hasBase) (I.ok.hd hc) (by rw[he];show (false || (backTo gc (starEach rest X.env)).any (·.1))=false;rw[iE];rfl) hni (sY I hg hm ⟨rfl,?_⟩ jC)
 have hA:=ha gc pins s σ H _ I h;rw[he] at hA ⊢;refine FU (eL hA (λus jA t_=>?_) λ_ _ y=>y);obtain⟨vs,H1,J,r,hl,hE⟩:=t_;exact⟨rfl,by show us.length<=_;rw[← r.length];exact hl,J.bk _ _ hC,hN.keeps J.bk,T.keeps J.bk,λh' e mx=>hx pins σ H1 jA e C us h' J mx hE⟩
end
theorem adY{base B:Heap}{l:List Env}{H H':Hp}{h h1 h':Heap}(u:Un (cK l) [] H H' h h1)(c:Cut base B l H H' h)(kB:B.StaysIn h')(up:h1.UpToSlots h')(ff:∀b∈cK l,H b=none/\∀o,h.get? b=some o->∀vs,o.data≠.fields vs) :
  Un (cK l) [] H H' h h':=by
 have sl:∀b o,h.get? b=some o->H b=none->b∈cK l->∃sl,h'.get? b=some { o with slots:=sl }:=λb o q n hb=>by
  obtain⟨sl,q1⟩:=u.slot b o q n hb (by simp)
  obtain⟨i_,q3⟩:=up b _ q1 ((ff b hb).2 o q);exact⟨i_,q3⟩
 refine⟨λb o q n hb _=>kB _ _ (c.k1 b o q n hb),λb o q n hb _=>sl b o q n hb,u.free,λb o q _=>?_,u.lF,u.jT,u.kK⟩;by_cases hb:b∈cK l
 ·obtain⟨sl,q1⟩:=sl b o q (ff b hb).1 hb;exact⟨_,q1⟩
 ·obtain⟨o',q1⟩:=c.k3 b o q hb;exact⟨o',kB _ _ q1⟩
theorem adZ{P:Program}{w:World}{base B:Heap}{l:List Env}{H H':Hp}{h h1 h':Heap}(aK:cQ P w H' h1)(c:Cut base B l H H' h)(k1:B.StaysIn h1)(kB:B.StaysIn h'):cQ P w H' h':=λb v e=>by
 refine(aK b v e).jw (λd z hd q=>?_) (λ_ q=>q) λ_ _ q=>q;have tr:∃v',H' d=some v':=by
  rcases hd with rfl | hd
  ·exact⟨_,e⟩
  ·exact⟨_,hd⟩
 obtain⟨v',e'⟩:=tr;obtain⟨o,q1⟩:=c.k2 d v' e';have:=k1 d o q1;rw[q] at this;cases this;exact kB _ _ q1
section
variable{X:Cx}{pins:List (Addr×Obj)}{σ:St}{H H':Hp}{s s':Shared}{a C:Addr}{h':Heap}{E:XK}
theorem Inv.ff(I:Inv X pins σ H s):∀b∈cK X.stack,H b=none/\∀o,s.heap.get? b=some o->∀vs,o.data≠.fields vs:=λb hb =>
 ⟨I.Cd b hb,λo q=>by
  obtain⟨_,o2,q2,nf⟩:=I.stack.mem hb;rw[q] at q2;cases q2;exact nf⟩
noncomputable def Cx.within(X:Cx)(e:Value):Cx:={ X with A:=X.A.mark (some e),calm:=false,xe:=λ_ _=>False }
theorem Inv.within(I:Inv X pins σ H s)(e:Value):Inv (X.within e) pins σ H s :=
 ⟨⟨I.ok.mod,I.ok.kind,I.ok.glob,I.ok.blt,I.ok.above,I.ok.inj,I.ok.has,I.ok.sV,(λz=>nomatch z),I.ok.frames,I.ok.vt,I.ok.vv,I.ok.bs,I.ok.iz,I.ok.sW,I.ok.sX,I.ok.i6,I.ok.mQ⟩,
  I.os,I.bare,I.base,I.loc,I.cell,I.free,I.jy,I.pin,I.aK,I.len⟩
theorem Inv.out{e:Value}(I:Inv (X.within e) pins σ H s)(ok:X.Ok):Inv X pins σ H s :=
 ⟨ok,I.os,I.bare,I.base,I.loc,I.cell,I.free,I.jy,I.pin,I.aK,I.len⟩
noncomputable def Ie(a C:Addr):HO:=.ext λh=>∃o,h.get? a=some o/\o.cls = .ref C/\∃vs,o.data = .fields vs/\vs[2]? = some .none
noncomputable def wF(a C:Addr):Option Addr->HO
 | none=>Ie a C
 | some k=>.ext λh=>∃o,h.get? a=some o/\o.cls = .ref C/\o.dict=some (k / 2)/\∃vs,o.data = .fields vs/\(k % 2=0->vs[2]? = some .none)
theorem Inv.ad0{φ:Heap->Prop}(I:Inv X pins σ H s)(n:H a=none)(e0:X.bR.heap.get? a=none)(nL:a≠X.env.locals)(nc:∀x c,X.env.cells.lookup x=some c->c≠a)(np:∀p∈X.pn++pins,p.1≠a)(h:φ s.heap)(th:∃o,s.heap.get? a=some o)
  (st:∀h1 h2:Heap,φ h1->(∀o,h1.get? a=some o->h2.get? a=some o)->φ h2):Inv X pins σ (upd H a (.ext φ)) s:=by
 have ne:∀b v,H b=some v->b≠a:=λb v q z=>by rw[z,n] at q;cases q
 have up:∀b v,H b=some v->upd H a (.ext φ) b=some v:=λb v q=>by rw[aI (ne b v q)];exact q
 have un:∀b,b≠a->H b=none->upd H a (.ext φ) b=none:=λb z q=>by rw[aI z];exact q
 refine⟨I.ok,I.os,I.bare,⟨I.base.keep,I.base.slot,λb o q n' hx=>un b (λz=>by rw[z,e0] at q;cases q) (I.base.free b o q n' hx),I.base.there,λb xs q=>up b _ (I.base.lF b xs q),λb o u q=>up b _ (I.base.jT b o u q),λb ps q=>let ⟨m,z⟩:=I.base.kK b ps q;⟨m,up b _ z⟩⟩,
  I.loc,I.cell,un _ (f_ nL) I.free,λx c q=>un c (nc x c q) (I.jy x c q),λp hp=>let ⟨q1,q2,q3⟩:=I.pin p hp;⟨q1,un _ (np p hp) q2,q3⟩,λb v q=>?_,I.len⟩
 by_cases z:b=a
 ·subst z;rw[aD] at q;cases q;exact⟨h,th,st⟩
 ·rw[aI z] at q;exact(I.aK b v q).jw (λ_ _ _ e=>e) (λd e=>up d _ e) λd xs e=>up d _ e
end
def XP(P:Program)(w:World)(base:Heap)(X:Cx)(pins:List (Addr×Obj))(σ:St)(E:XK)(e:Value)(s':Shared):Prop:=∃H1 s1,Inv X pins σ H1 s1/\jJ P w base X.stack H1 s1 E e s'
noncomputable def T7(X:Cx)(E:XK)(e:Expr)(t:TE):Prop :=
 ∀(pins:List (Addr×Obj)) (s:Shared) (σ:St) (H:Hp) (Q:VK),Inv X pins σ H s->t σ H Q->wpAny (model X.prog X.w) X.A (eval e X.env) (EP X pins σ Q) (XP X.prog X.w X.base X pins σ E) s
section
variable{X:Cx}{k:Nat}{f C:Addr}{fd:FuncData}{ps:List Str}{sp:Sp}{cu:List V}{ds:List Value}{E:XK}{x m:Str}{p pos apos:Pos}{e o:Expr}{es:List Expr}{ta:TE}{t:TA}
theorem ad1{pins:List (Addr×Obj)}{σ:St}{H:Hp}{s:Shared}{Q:VK}{us:List Value}{vs:List V}(F:a_ X.prog X.w X.K X.mg X.base (jJ X.prog X.w X.base) k f fd ps sp)(hr:c7 k X.A)(hb:Binds X.K fd ps ds)(hd:Vals cu ds)
  (I:Inv X pins σ H s) (r:Vals vs us) (h:sp (vs++cu) H Q E):wpAny (model X.prog X.w) X.A (call (.ref f) us) (EP X pins σ Q) (XP X.prog X.w X.base X pins σ E) s:=by
 have r2:Vals (vs++cu) (us++ds):=r.append hd;refine vo (xW (F.run X.A X.stack s H ⟨us,[]⟩ (us++ds) (vs++cu) Q E hr I.G3 (hb s us I.dW (r2.length.symm.trans (F.len _ _ _ _ h))) r2 h) λr s' hq=>?_)
 match r,hq with
 | .error e,hq=>exact⟨H,s,I,hq⟩
 | .ok (.ret u),hq=>exact I.after hq
 | .ok .next,hq=>exact False.elim hq
 | .ok .brk,hq=>exact False.elim hq
 | .ok .cont,hq=>exact False.elim hq
theorem ad2(F:a_ X.prog X.w X.K X.mg X.base (jJ X.prog X.w X.base) k f fd ps sp)(hr:c7 k X.A)(hg:Gl X x)(hm:X.mg x=some (.ref f))(hk:PySem.W.keepIn X.K (.ref f)=true)(hb:Binds X.K fd ps ds)(hd:Vals cu ds)
  (ha:PA X.p_ (e::es) t) (jC:(x == ("__debug__" : Str))=false:=by decide) (he:starEach (e::es) X.env=(false,eval e X.env)::starEach es X.env:=by rfl) (iE:(backTo pos (starEach es X.env)).any (·.1)=false:=by rfl) :
  T7 X E (.Call (.Name x p) (e::es) [] pos) (tR sp cu E t):=by
 intro pins s σ H Q I h;refine vn (sY I hg hm ?_ jC);refine xS (h₀:=X.base) I.ok.mod.qW hk (eL (ha pos pins s σ H _ (I.lH _) h) (λus s1 ⟨vs,H1,I1,r,q⟩=>⟨I1.dW,?_⟩) λ_ _ z=>False.elim z) he iE;exact ad1 F hr hb hd I1.qa r q
end
theorem Ig{X:Cx}{P:Program}{w:World}{base:Heap}:Passes (jJ P w base) X E0:=λ_ _ _ _ _ _ _ h=>by
 obtain⟨_,_,_,_,_,_,_,_,_,_,_,_,_,_,_,_,z⟩:=h;exact z.elim
theorem ad3{P:Program}{w:World}{K:W.Frag}{mg:Str->Option Value}{base:Heap}{N:List Str}{qual:Str}{scope:Scope}{f:Addr}{cd:Value}{A:Around}{outer:List Env}{bR:Shared}{iy:Hp}{E:XK} :
  Makes (i8 (jJ P w base) P w K mg base N qual scope f cd A outer bR iy E) E:=λ_ _ _ _ _ _ _ _ I mx hE=>adU I mx hE
theorem c9.T8{P:Program}{w:World}{K:W.Frag}{mg:Str->Option Value}{base:Heap}{x qual:Str}{st:Stmt}{f:Addr}{fd:FuncData}{N ps:List Str}{k:Nat}{sp:Sp}(F:c9 K x qual st f fd)(S:bA N ps (aV st))(len:∀vs H Q E,sp vs H Q E->vs.length=ps.length)
  (qd:∀(aP:Value) (A:Around) (outer:List Env) (s:Shared) (H:Hp) (vs:List V) (Q:VK) (E:XK),c7 k (A.deeper (envOfC qual (aV st) s.heap.objs.size f aP))->sp vs H Q E->
   ∃t,gB (i8 (jJ P w base) P w K mg base N qual (aV st) f aP A outer s H E) (fQ st) t/\t { nx:=λ_ H'=>Q .aO H',rt:=Q } (start N vs) H):a_ P w K mg base (jJ P w base) (k+1) f fd ps sp:=by
 obtain⟨oc,od,kV,doc,pm,an,aP,ct,i9,rfl,lk,dN⟩:=F.ex;exact Cy lk dN S len λA outer s H vs Q E hr dQ=>qd aP A outer s H vs Q E hr dQ
noncomputable def T9(X:Cx)(E:XK)(st:Stmt)(t:TS):Prop :=
 ∀(pins:List (Addr×Obj)) (s:Shared) (σ:St) (H:Hp) (D:Ends),Inv X pins σ H s->t D σ H->wpAny (model X.prog X.w) X.A (exec st X.env) (SP X pins D) (XP X.prog X.w X.base X pins σ E) s
section
variable{X:Cx}{E:XK}{e:Expr}{te:TE}{pos:Pos}
theorem ad4(he:T7 X E e te)(hs:swapsWith e none pos.line X.env=pure false:=by rfl):T9 X E (.Expr e pos) (vD te):=by
 intro pins s σ H D I h;exact wpAny_Expr_any (aW (he pins s σ H _ I h) λv s1 ⟨x,H1,I1,r1,q1⟩=>⟨σ,H1,I1,q1⟩) I.quiet hs
end
structure Fl(X:Cx)(pins:List (Addr×Obj))(σ:St)(a C:Addr)(a0:Value)(H1:Hp)(s1:Shared)(H':Hp)(B:Heap)(od:Option Addr)(s':Shared):Prop where
 I:Inv X pins σ H1 s1
 ho:s'.os=s1.os
 hg:AllBare s'.gens
 u:Un (cK X.stack) [] H1 H' s1.heap s'.heap
 aK:cQ X.prog X.w H' s'.heap
 na:H' a=none
 nh:s1.heap.get? a=none
 c:Cut X.base B X.stack H1 H' s1.heap
 gJ:Heap.FlyingW B X.stack a (.ref C) a0 s'.heap
 hd:iV s'.heap a od
section
variable{X:Cx}{pins:List (Addr×Obj)}{σ:St}{a C:Addr}{a0:Value}{H1 H':Hp}{s1 s':Shared}{B h':Heap}{od:Option Addr}
theorem Fl.move(x:Fl X pins σ a C a0 H1 s1 H' B od s')(gJ:Heap.FlyingW B X.stack a (.ref C) a0 h')(up:s'.heap.UpToSlots h')(hd:iV h' a od):Fl X pins σ a C a0 H1 s1 H' B od { s' with heap:=h' } :=
 ⟨x.I,x.ho,x.hg,adY x.u x.c gJ.1 up x.I.ff,adZ x.aK x.c x.gJ.1 gJ.1,x.na,x.nh,x.c,gJ,hd⟩
theorem Fl.inv(x:Fl X pins σ a C a0 H1 s1 H' B od s'):Inv X pins σ H' s':=x.I.Ci x.ho x.u x.aK x.hg (λ_ z=>nomatch z)
theorem Fl.tracked(x:Fl X pins σ a C a0 H1 s1 H' B od s')(hex:X.ex = []):Inv X pins σ (upd H' a (wF a C od)) s':=by
 have no:∀b o,s1.heap.get? b=some o->b≠a:=λb o q z=>by rw[z,x.nh] at q;cases q
 obtain⟨m,⟨oL,_,_,GI,_⟩,_⟩:=x.I.loc;have f1:X.bR.heap.get? a=none:=by
  cases q:X.bR.heap.get? a with
  | none=>rfl
  | some o =>
   obtain⟨o1,q1⟩:=x.I.base.there a o q (by rw[hex];simp)
   rw[x.nh] at q1;cases q1
 have f2:∀y c,X.env.cells.lookup y=some c->c≠a:=λy c e=>by
  obtain⟨v,o,q,_⟩:=x.I.cell y c e;exact no _ _ q
 have tr:=λφ=>x.inv.ad0 (φ:=φ) x.na f1 (f_ (no _ _ GI)) f2 (λp hp=>no _ _ (x.I.pin p hp).1);have th:∃o,s'.heap.get? a=some o:=let ⟨o,q,_⟩:=x.gJ.there;⟨o,q⟩
 cases od with
 | none =>
  refine tr _ ?_ th λh1 h2 ⟨o,q,z⟩ k=>⟨o,k o q,z⟩;obtain⟨o,vs,q,z,y,_⟩:=x.gJ.first;obtain⟨o',q',z',c'⟩:=x.hd;rw[q] at q';cases q';refine⟨o,q,z,vs,y,?_⟩;have:=c' rfl;unfold _L.f2 at this;rw[y] at this;exact this
 | some d =>
  refine tr _ ?_ th λh1 h2 ⟨o,q,z⟩ k=>⟨o,k o q,z⟩;obtain⟨o,vs,q,z,y,_⟩:=x.gJ.first;obtain⟨o',q',z',c'⟩:=x.hd;rw[q] at q';cases q';refine⟨o,q,z,z',vs,y,λhk=>?_⟩
  have:=c' hk;unfold _L.f2 at this;rw[y] at this;exact this
end
section
variable{X:Cx}{pins:List (Addr×Obj)}{σ:St}{H:Hp}{s:Shared}
theorem Dg{M:Model}{A:Around}{E:Value->Shared->Prop}{i:Nat}{n:Str}{pos:Pos}{Q:Unit->Shared->Prop}(I:Inv X pins σ H s)(hN:X.N.Nodup)(hi:X.N[i]? = some n)(hk:X.env.kindOf n=some .local)
  (h:∀s',Inv X pins (σ.set i none) H s'->Q () s'):wpAny M A (do bindName X.env n .none;unbindBehindTheSuite X.env n pos) Q E s:=by
 obtain⟨m,hn,hl⟩:=id I.loc;have yc:(X.env.scope.kind == .class || (X.env.scope.kind == .module && X.env.locals != X.env.globals))=false:=by rw[I.ok.kind];rfl
 have mR:=I.mR;refine wpAny_nameGoes_keeps hk hn yc λh' v Cf hs=>?_;have old:∀b o,X.bR.heap.get? b=some o->h'.get? b=s.heap.get? b:=λb o e=>hs.2 b (dD (gA (cD e) I.ok.above));refine h _ ⟨I.ok,I.os,I.bare,⟨λb o e n hb hx=>?_,λb o e n hb hx=>?_,I.base.free,λb o e hx=>?_,I.base.lF,I.base.jT,I.base.kK⟩,⟨_,Cf,λj y v' e1 e2 e3=>?_⟩,λy c e=>?_,I.free,I.jy,λp hp=>?_,λb ob e=>?_,by simpa using I.len⟩
 ·exact(old b o e).trans (I.base.keep b o e n hb hx)
 ·obtain⟨sl,e1⟩:=I.base.slot b o e n hb hx;exact⟨sl,(old b o e).trans e1⟩
 ·obtain⟨o',e1⟩:=I.base.there b o e hx;exact⟨o',(old b o e).trans e1⟩
 ·by_cases hj:j=i
  ·subst hj;rw[List.getElem?_set] at e2;simp only[if_true] at e2;split at e2 <;> cases e2
  ·rw[Gd (f_ hj)] at e2;obtain⟨u',r',q⟩:=hl j y v' e1 e2 e3;refine⟨u',r',?_⟩;rcases q with⟨k,e⟩ | ⟨k,c,e,z⟩
   ·refine .inl ⟨k,?_⟩;have:y≠n:=λe=>hj (GH hN e1 (e▸hi));simp[this,e]
   ·exact .inr ⟨k,c,e,z.sameBut hs (mR y c e)⟩
 ·obtain⟨w',z⟩:=I.cell y c e;exact⟨w',z.sameBut hs (mR y c e)⟩
 ·obtain⟨e,n,ne,nf,d⟩:=I.pin p hp;exact⟨(hs.2 p.1 ne).trans e,n,ne,nf,d⟩
 ·refine(I.aK b ob e).jw (λc w' hc q=>(hs.2 c ?_).trans q) (λ_ q=>q) λ_ _ q=>q;rintro rfl;rcases hc with z | hc
  ·rw[← z,I.free] at e;cases e
  ·rw[I.free] at hc;cases hc
end
noncomputable def mroIn(K:W.Frag)(C:Addr):List Value:=match K.lookup C with
 | some ⟨_,_,.cls cd,_⟩=>cd.mro
 | _=>[]
noncomputable def subIn(K:W.Frag)(C:Addr)(c:Value):Bool:=(mroIn K C).contains c
theorem zR{K:W.Frag}{C:Addr}{c:Value}{b:Bool}(h:PySem.W.mroIn K C c=some b):subIn K C c=b:=by
 unfold PySem.W.mroIn PySem.W.clsIn at h;unfold subIn mroIn;cases e:K.lookup C with
 | none=>rw[e] at h;cases h
 | some o =>
  rw[e] at h;obtain⟨c0,d0,dt,sl⟩:=o;cases dt <;> first | (cases h;done) | skip
  simp only[Option.bind_some] at h;split at h
  ·cases h
  ·exact dh h
theorem ad5{K:W.Frag}{C:Addr}{c:Value}{b:Bool}(h:PySem.W.mroIn K C c=some b):(PySem.W.clsIn K C).isSome=true:=by
 unfold PySem.W.mroIn at h;cases e:PySem.W.clsIn K C with
 | none=>rw[e] at h;cases h
 | some cd=>rfl
noncomputable def Dh(K:W.Frag)(C:Addr)(rO:List Value)(newId:String):Bool:=match K.lookup C with
 | some ⟨.type "type",_,.cls cd,sl⟩=>(match cd.mro,sl.toList with
  | .ref C'::bm,[_,_,_,_,some (.builtin n),_]=>C' == C && n == newId && !cd.hasDel && PySem.W.tailIn K rO bm && PySem.W.nsOkIn K cd.ns
  | _,_=>false)
 | _=>false
theorem ad6{K:W.Frag}{C:Addr}{rO:List Value}{newId:String}(q:PySem.W.excIn K C rO newId=true):Dh K C rO newId=true:=by
 unfold PySem.W.excIn at q;unfold Dh;cases e:K.lookup C with
 | none=>rw[e] at q;cases q
 | some o =>
  rw[e] at q;split at q
  ·rename_i dd cd sl ho;cases ho;split at q
   ·rename_i C' bm k0 k1 k2 k3 n k5 hm hs;simp only[Bool.and_eq_true] at q;simp only[hm,hs,Bool.and_eq_true];exact q.1
   ·cases q
  ·cases q
structure jh(K:W.Frag)(C:Addr):Prop where
 ex:∃bm id,Dh K C bm id=true/\bm.contains (.type "BaseException")=true
theorem jh.of{K:W.Frag}{C:Addr}{bm:List Value}{id:String}(q:PySem.W.excIn K C bm id=true)(h:bm.contains (.type "BaseException")=true):jh K C:=⟨bm,id,ad6 q,h⟩
theorem T_{K:W.Frag}{h₀:Heap}{C:Addr}(X:K.In h₀)(x:jh K C) :
  ∃bm N nm q bs hdct sn sub ab col dd k0 k1 k2 k3 k5 newId,h₀.get? C=some (excClassObj nm q C N bs bm hdct sn sub ab col dd k0 k1 k2 k3 k5 newId)/\mroIn K C = .ref C::bm/\bm.contains (.type "BaseException")=true:=by
 obtain⟨rO,newId,q,hb⟩:=x.ex;unfold Dh at q;unfold mroIn;cases e:K.lookup C with
 | none=>rw[e] at q;cases q
 | some o =>
  rw[e] at q;split at q
  ·rename_i dd cd sl ho;cases ho;split at q
   ·rename_i C' bm k0 k1 k2 k3 n k5 hm hs;simp only[Bool.and_eq_true,beq_iff_eq,Bool.not_eq_true'] at q;obtain⟨⟨⟨⟨c1,c2⟩,c3⟩,c4⟩,c5⟩:=q;obtain⟨nm,bs,mro,ns,qn,hd,sn,sub,ab,col,del⟩:=cd;obtain⟨l⟩:=sl;dsimp only at hm hs c3 c5;subst c1 c2 hm c3 hs;exact⟨bm,ns,nm,qn,bs,hd,sn,sub,ab,col,dd,k0,k1,k2,k3,k5,n,X _ _ e,rfl,(PySem.W.tail_of_in X c4).hasType hb⟩
   ·cases q
  ·cases q
theorem ad7{M:Model}{A:Around}{E:Value->Shared->Prop}{K:W.Frag}{s:Shared}{e C C2:Addr}{oe:Obj}{Q:Bool->Shared->Prop}(X:K.In s.heap)(x:jh K C)(y:jh K C2)(he:s.heap.get? e=some oe)(yc:oe.cls = .ref C)
  (hq:Q (subIn K C (.ref C2)) s):wpAny M A (excMatches (.ref e) (.ref C2)) Q E s:=by
 obtain⟨bm,N,nm,q,bs,hdct,sn,sub,ab,col,dd,k0,k1,k2,k3,k5,newId,hC,hm,_⟩:=T_ X x;obtain⟨bm2,N2,nm2,q2,bs2,aoK,sn2,aoL,ab2,aoM,mT,k02,k12,k22,k32,k52,aoN,Ua,wG,kX⟩:=T_ X y;have hcB:(Value.ref C2::bm2).contains (.type "BaseException")=true:=by rw[List.contains_cons,kX,Bool.or_true]
 unfold subIn at hq;rw[hm] at hq;have f:=tc_notTuple;obtain⟨h,g,d,t,os⟩:=s;unfold excMatches
 repeat (first | (with_reducible refine wpAny_loadPart_at he ?_;rw[yc]) | with_reducible refine wpAny_loadPart_at Ua ?_ | (with_reducible refine wpAny_isSubtype_exc Ua ?_;rw[hcB]) | (with_reducible refine wpAny_isSubtype_exc hC ?_) | wp_step)
 all_goals first | exact hq | (cases hh:(Value.ref C::bm).contains (.ref C2) <;> (rw[hh] at hq;wp_walk;exact hq))
noncomputable abbrev TH:=Option Addr->Addr->Addr->Ends->St->Hp->Prop
noncomputable def PH(X:Cx)(hs:List ExceptHandler)(t:TH):Prop :=
 ∀(pins:List (Addr×Obj)) (σ:St) (a C:Addr) (a0:Value) (H1:Hp) (s1:Shared) (H':Hp) (B:Heap) (od:Option Addr) (s':Shared) (D:Ends) (E:Value->Shared->Prop),Fl X pins σ a C a0 H1 s1 H' B od s'->jh X.K C->t od C a D σ H'->
  wpAny (model X.prog X.w) X.A (handleBy (.ref a) X.env hs) (SP X pins D) E s'
theorem ad8{X:Cx}:PH X [] (λ_ _ _ _ _ _=>False):=λ_ _ _ _ _ _ _ _ _ _ _ _ _ _ _ h=>h.elim
noncomputable def zS(i:Nat)(D:Ends):Ends:={ nx:=λσ H=>D.nx (σ.set i none) H,rt:=D.rt,bk:=λσ H=>D.bk (σ.set i none) H,ct:=λσ H=>D.ct (σ.set i none) H }
def Di(K:W.Frag)(C2:Addr)(i:Nat)(ts:Addr->TS)(t:TH):TH:=λod C a D σ H =>
 (subIn K C (.ref C2)=true/\ts a (zS i D) (σ.set i (some (.ref a))) (upd H a (wF a C od)))\/(subIn K C (.ref C2)=false/\t od C a D σ H)
theorem ad9{X:Cx}{x n:Str}{np ad_:Pos}{Ub:Stmt}{Uc:List Stmt}{rest:List ExceptHandler}{C2:Addr}{i:Nat}{ts:Addr->TS}{t:TH}(hg:Gl X x)(hm:X.mg x=some (.ref C2))(y:jh X.K C2)(hN:X.N.Nodup)(hi:X.N[i]? = some n)
  (hk:X.env.kindOf n=some .local) (hex:X.ex = []) (hs:∀a,gB (X.within (.ref a)) (Ub::Uc) (ts a)) (hr:PH X rest t) (jC:(x == ("__debug__" : Str))=false:=by decide) :
  PH X (.ExceptHandler (some (.Name x np)) (some n) (Ub::Uc) ad_::rest) (Di X.K C2 i ts t):=by
 intro pins σ a C a0 H1 s1 H' B od s' D E F xc h;obtain⟨ob,zT,aea⟩:=F.gJ.there;refine wpAny_handleBy_cons (codeAny_handlers_test (sY (X:=X.within (.ref a)) (F.inv.within (.ref a)) hg hm (ad7 F.inv.dW xc y zT aea ?_) jC)) (by intro q;cases q)
 rcases h with⟨hb,h⟩ | ⟨hb,h⟩
 ·rw[hb];refine codeAny_handlers_suite_as (adS F.gJ F.hd λh6 fl6 up6 hd6=>?_);have F6:=F.move fl6 up6 hd6;refine GK (X:=X.within (.ref a)) (i:=i) (v:=V.ref a) ((F6.tracked hex).within (.ref a)) hN hi (.inl hk) rfl (λs2 I2=>?_) (.inr hk);refine eL (hs a pins s2 _ _ (zS i D) I2 h) (λf s3 q=>?_) λ_ _ z=>False.elim z;cases f with
  | next=>obtain⟨bK,H2,J,q⟩:=q;exact Dg (J.out F.I.ok) hN hi hk λs4 J4=>⟨_,_,J4,q⟩
  | brk=>obtain⟨bK,H2,J,q⟩:=q;exact Dg (J.out F.I.ok) hN hi hk λs4 J4=>⟨_,_,J4,q⟩
  | cont=>obtain⟨bK,H2,J,q⟩:=q;exact Dg (J.out F.I.ok) hN hi hk λs4 J4=>⟨_,_,J4,q⟩
  | ret u=>obtain⟨v,bK,H2,J,r,q⟩:=q;exact Dg (J.out F.I.ok) hN hi hk λs4 J4=>⟨v,_,_,J4,r,q⟩
 ·rw[hb];exact hr pins σ a C a0 H1 s1 H' B od s' D E F xc h
theorem Ih{X:Cx}{e:Value}:(X.within e).K=X.K:=rfl
noncomputable def Dj(K:W.Frag)(th:TH)(D:Ends)(σ:St):XK:=λcls od H'=>∃C,cls = .ref C/\jh K C/\∀a,H' a=none->th od C a D σ H'
def Dm(K:W.Frag)(tb:XK->TS)(th:TH):TS:=λD σ H=>tb (Dj K th D σ) D σ H
theorem aeb{X:Cx}{st:Stmt}{h₀:ExceptHandler}{hs:List ExceptHandler}{pos:Pos}{tb:XK->TS}{th:TH}(fH:X.stack=X.env::X.outer)(hf:X.env.frame=some X.env.locals)(hb:∀E,T9 X E st (tb E))(hh:PH X (h₀::hs) th) :
  PS X (.Try [st] (h₀::hs) [] [] pos) (Dm X.K tb th):=by
 intro pins s σ H D I h;refine wpAny_Try_except (B4 (eL (hb _ pins s σ H D I h) (λf s1 q=>?_) λe s' z=>?_))
 ·cases f with
  | next=>exact qV (qV q)
  | ret v=>exact q
  | brk=>exact q
  | cont=>exact q
 ·obtain⟨H1,s1,I1,a,C,a0,H',B,od,rfl,ho,hg,u,aK,na,nh,c,gJ,hd,C',eC,xc,hE⟩:=z;cases eC;have F:Fl X pins σ a C a0 H1 s1 H' B od s':=⟨I1,ho,hg,u,aK,na,nh,c,gJ,hd⟩;have Ud:=gJ;rw[fH] at Ud;refine adQ (by rw[I1.ok.frames,fH]) hf Ud hd λh4 held up4 hd4=>?_
  refine adR held hd4 λh5 Ue up5 hd5=>?_;rw[← fH] at Ue;exact hh pins σ a C a0 H1 s1 H' B _ _ D _ (F.move Ue (up4.trans up5) hd5) xc (hE a na)
end _L
namespace _L
open PySem PySem.Spec PyProof.Rows PySem.W PySem.Builtin.ObjectAttr PySem.Builtin.Getset_descriptor
section
variable{prog:Program}{w:World}{A:Around}{E:Value->Shared->Prop}{s:Shared}{K:Frag}{x D:Addr}{ox:Obj}{name:Str}
structure uv(K:Frag)(D:Addr):Prop where
 ga:findIn K (.ref D) "__getattribute__" = some (some (.builtin "BaseException.__getattribute__"))
 gt:findIn K (.ref D) "__getattr__" = some none
 mro:PySem.W.mroIn K D (.type "BaseException")=some true
 obj:PySem.W.mroIn K D (.type "object")=some true
 cl:findIn K (.ref D) "__class__" = some (some (.builtin "object.__class__"))
 sp:specialIn K (.builtin "object.__class__") "__get__" = some (some (.builtin "getset_descriptor.__get__"))
 tk:takesIn K (.builtin "object.__class__")=some true
theorem Ug{M:Model}{h:Heap}(hx:h.get? x=some ox)(hc:ox.cls = .ref D):Looks M h (typeOf (.ref x)) (.ref D):=hc▸(Looks.ld hx).andThen .now
theorem aec{M:Model}{h:Heap}{a g:Value}(X:K.In h)(ha:findIn K (.ref D) name=some (some a))(hg:specialIn K a "__get__" = some (some g))(ht:takesIn K a=some true):Looks M h (find (.ref x) (.ref D) name) (.bind g a):=by
 have L1:=looks_findIn (M:=M) X ha;have _L:Looks M h (getOf (some a)) (some g):=looks_specialIn X hg;have L3:=looks_takesIn (M:=M) X ht;refine L1.andThen (_L.andThen ?_);refine Looks.andThen (a:=some (g,a)) ?_ (Looks.tag .now);unfold dataDescriptor?;refine L3.andThen ?_;exact .now
theorem aed{g a:Value}{tk:Tok}{Q:Value->Shared->Prop}(T:Looks (model prog w) s.heap (typeOf (.ref x)) (.ref D))(L1:Looks (model prog w) s.heap (find (.ref x) (.ref D) name) (.bind g a))(h:wpAny (model prog w) A (call g [a,.ref x,.ref D]) Q E s) :
  wpAny (model prog w) A (Builtin.«object.__getattribute__» ⟨[.ref x,.str name tk],[]⟩) (λfin s'=>match fin with | .done (.ret v)=>Q v s' | _=>False) E s:=by
 obtain⟨hh,gg,d,t,os⟩:=s;refine aM (bL (aM (bL (aM (T.at (aM (L1.at ?_)))))))
 show wpAny _ _ (holding [a] (call g [a,.ref x,.ref D]) >>= ret) _ _ _;exact aM (pW (eL h (λv s' z=>bL z) λ_ _ z=>z))
theorem aee{nameV:Value}{Q:Unit->Shared->Prop}(X:K.In s.heap)(T:Looks (model prog w) s.heap (typeOf (.ref x)) (.ref D))(G:uv K D)(hq:Q () s):wpAny (model prog w) A (checkBuiltinCall "BaseException.__getattribute__" ⟨[.ref x,nameV],[]⟩) Q E s:=by
 have hk:builtinKind "BaseException.__getattribute__" = some .slot:=by decide +kernel
 have aef:splitId "BaseException.__getattribute__" = some ("BaseException", "__getattribute__"):=by decide +kernel
 obtain⟨hh,gg,d,t,os⟩:=s;have L1:=looks_mroIn (M:=model prog w) X G.mro;have ha:=F.args_bexc_ga (.ref x) nameV;simp only[checkBuiltinCall,hk,aef];refine aM ?_;unfold isInstance
 repeat (first | lk | wp_step)
 exact hq
theorem aeg{tk:Tok}{fill expr:Bool}{Q:Value->Shared->Prop}(X:K.In s.heap)(T:Looks (model prog w) s.heap (typeOf (.ref x)) (.ref D))(G:uv K D)
  (h:∀A,wpAny (model prog w) A (Builtin.«object.__getattribute__» ⟨[.ref x,.str name tk],[]⟩) (λfin s'=>match fin with | .done (.ret v)=>handedIn v=true/\Q v s' | _=>False) (λ_ _=>False) s) :
  wpAny (model prog w) A (getAttrBy (.ref x) (.str name tk) fill expr) Q E s:=by
 have f3:=F.attr_ValueError.ga.bind (.ref x);have hx0:(expr && onTheHeap (Value.builtin "BaseException.__getattribute__"))=false:=by cases expr <;> rfl
 have hx1:(onTheHeap (Value.ref D) && Value.builtin "BaseException.__getattribute__" == Value.builtin "object.__getattribute__")=false:=by
  rw[show (Value.builtin "BaseException.__getattribute__" == Value.builtin "object.__getattribute__")=false from by decide +kernel];rfl
 have chk:=λ{A:Around} {E:Value->Shared->Prop} {Q:Unit->Shared->Prop}=>aee (prog:=prog) (w:=w) (A:=A) (E:=E) (nameV:=.str name tk) (Q:=Q) X T G;obtain⟨hh,gg,d,t,os⟩:=s;have L1:=looks_findIn (M:=model prog w) X G.ga;have _L:=looks_findIn (M:=model prog w) X G.gt;unfold getAttrBy;refine pW (aM (T.at (aM (L1.at ?_))));simp only[hx1,Bool.false_eq_true,if_false];unfold getAttrByItsOwn hookBefore;simp only[onTheHeap,if_true];refine aM (_L.at (aM (BZ (pW ?_))));unfold callGetattribute boundAndCalled;simp only[hx0,Bool.false_eq_true,if_false,f3];refine aM (bL (vo (codeAny_call_builtin F.attr_ValueError.ga.plain F.entry_bexc_ga (chk (eL (h _) (λfin s' z=>?_) λ_ _ z=>False.elim z)))));rcases fin with(_ | _ | _ | v) | _ <;> first | exact handed_on z.1 z.2 | exact z.elim
theorem aeh{R:Result->Shared->Prop}{tp:Value}(X:K.In s.heap)(L0:Looks (model prog w) s.heap (typeOf (.ref x)) (.ref D))(hm:PySem.W.mroIn K D (.type "object")=some true)
  (h:R (.ok (.ret (.ref D))) s):codeAny (model prog w) A (.call (.builtin "getset_descriptor.__get__") ⟨[.builtin "object.__class__",.ref x,tp],[]⟩) R s:=by
 obtain⟨hh,g,dr,t,os⟩:=s;have L1:=looks_mroIn (M:=model prog w) X hm;refine codeAny_call_builtin KF.slot_gs.plain KF.entry_gs (KF.slot_gs.check _ _ _ _ _ _ _ _ KF.type_class (KF.args_gs _ _ _) ?_);unfold Builtin.«getset_descriptor.__get__» descrGet;rw[dga_obj];refine aM (bL ?_);unfold descrGetter descrCheckInstance descrNameAndClass isInstance;simp only[KF.owner_class]
 repeat lk
 refine⟨Code.quiet_builtin _ (by decide +kernel),xV KF.entry_class ?_⟩
 unfold Builtin.«object.__class__» shownTypeOf
 repeat lk
 exact h
theorem aei{Q:Option Value->Shared->Prop}(X:K.In s.heap)(T:∀s':Shared,s'.heap=s.heap->Looks (model prog w) s'.heap (typeOf (.ref x)) (.ref D))(G:uv K D)(h:Q (some (.ref D)) { s with toks:=s.toks+1 }) :
  wpAny (model prog w) A (getAttr? (.ref x) "__class__") Q E s:=by
 unfold getAttr? getAttrBy?;refine aM (wpAny_mkText (aM (BZ ?_)));refine aeg (s:={ s with toks:=s.toks+1 }) X (T _ rfl) G λA=>?_
 refine eL (aed (s:={ s with toks:=s.toks+1 }) (Q:=λv s'=>v = .ref D/\s' = { s with toks:=s.toks+1 }) (T _ rfl) (aec X G.cl G.sp G.tk) (vo (aeh (s:={ s with toks:=s.toks+1 }) X (T _ rfl) G.obj ⟨rfl,rfl⟩))) (λfin s' z=>?_) λ_ _ z=>z;rcases fin with(_ | _ | _ | v) | _ <;> first | exact z.elim | (obtain⟨rfl,rfl⟩:=z;exact⟨rfl,bL h⟩)
end
theorem aej{K:Frag}{x D:Addr}(G:uv K D)(hc:(clsIn K D).isSome=true):KitX K (.ref x) (.ref D) (λh=>∃o,h.get? x=some o/\o.cls = .ref D) where
 ty:=λ_ _ _ ⟨o,h1,h2⟩=>Ug h1 h2
 it:=λ_ _ X _=>by
  obtain⟨cd,dN⟩:=qT.mp hc;unfold clsIn at dN;split at dN
  ·rename_i ho;intro A' Q' E' s' k q;unfold isType loadHead;exact aM (wpAny_loadPart (k _ _ (X _ _ ho)) (bL q))
  ·cases dN
 ne:=λh tp dd aB n sl X htp=>by
  obtain⟨cd,dN⟩:=qT.mp hc;refine Bool.eq_false_iff.mpr λq=>?_
  have e:D=tp:=Value.ref.inj (lE.mp q);subst e;unfold clsIn at dN;split at dN
  ·rename_i ho;have z:=(X _ _ ho).symm.trans htp;cases z
  ·cases dN
 ca:=λ{_ _ _ _ _ s} X ⟨o,h1,h2⟩ k=>aei X (λs' e=>by rw[e];exact Ug h1 h2) G k
section
variable{X:Cx}
theorem aek{pins:List (Addr×Obj)}{σ:St}{H:Hp}{s:Shared}{a C:Addr}{od:Option Addr}(I:Inv X pins σ H s)(e:H a=some (wF a C od)):∃o,s.heap.get? a=some o/\o.cls = .ref C:=by
 cases od with
 | none =>
  obtain⟨⟨o,h1,h2,_⟩,_,_⟩:=(show dU X.prog X.w H s.heap a (Ie a C) from I.aK a _ e);exact⟨o,h1,h2⟩
 | some d =>
  obtain⟨⟨o,h1,h2,_⟩,_,_⟩:=(show dU X.prog X.w H s.heap a (wF a C (some d)) from I.aK a _ e);exact⟨o,h1,h2⟩
theorem ael:gC X (.builtin "isinstance") (λxs H Q=>∃a C c v b,xs = [.ref a,v]/\((∃C2,v = .ref C2/\c = .ref C2)\/(∃T,v = .ty T/\c = .type T))/\(∃od,H a=some (wF a C od))/\uv X.K C/\(clsIn X.K C).isSome=true/\kitOne X.K (.ref C) c=some b/\Q (.bl b) H):=by
 intro pins s σ H xs us Q I r h;obtain⟨a,C,c,v,b,rfl,hv,⟨od,ea⟩,G,hc,e,q⟩:=h;obtain⟨u,v',rfl,ru,rv⟩:=vals2 r;cases (show u=Value.ref a from ru);have ev:v' = c:=by
  rcases hv with⟨C2,rfl,rfl⟩ | ⟨T,rfl,rfl⟩
  ·exact rv
  ·exact rv
 subst ev;exact kia_one (aej G hc) I.dW (aek I ea) e (λz=>nomatch z) λtk=>⟨.bl b,H,I.tok _,rfl,q⟩
theorem zW:gC X (.builtin "isinstance") (λxs H Q=>∃a C c v b,xs = [.ref a,v]/\((∃C2,v = .ref C2/\c = .ref C2)\/(∃T,v = .ty T/\c = .type T))/\H a=some (Ie a C)/\uv X.K C/\(clsIn X.K C).isSome=true/\kitOne X.K (.ref C) c=some b/\Q (.bl b) H) :=
 λpins s σ H xs us Q I r ⟨a,C,c,v,b,e1,hv,ea,h⟩=>ael pins s σ H xs us Q I r ⟨a,C,c,v,b,e1,hv,⟨none,ea⟩,h⟩
end
end _L
namespace _L
open PySem PySem.Spec PyProof.Rows PySem.W
noncomputable def eG{α:Type}(lt:Nat->Nat->Bool):KasT α->α
 | .ret a=>a
 | .ask i j k=>eG lt (k (lt i j))
theorem wH{α β:Type}{lt:Nat->Nat->Bool}{f:α->KasT β}:∀t:KasT α,eG lt (t.bind f)=eG lt (f (eG lt t))
 | .ret _=>rfl
 | .ask i j k=>wH (k (lt i j))
section
variable(key:Nat->Int)
noncomputable def kk(p:Array Nat)(i:Nat):Int:=key (p.getD i 0)
noncomputable def klt:Nat->Nat->Bool:=λi j=>decide (key i<key j)
def nH(p:Array Nat)(m:Nat):Prop:=∀i j,i<j->j<m->kk key p i<kk key p j
def zX(p:Array Nat)(m:Nat):Prop:=∀i j,i<j->j<m->kk key p j<kk key p i
def lW(p:Array Nat):Prop:=∀i j,i<p.size->j<p.size->kk key p i=kk key p j->i=j
variable{key}{p:Array Nat}
theorem zY{i j:Nat}(c:kk key p i<kk key p j):klt key (p.getD i 0) (p.getD j 0)=true:=kJ c
theorem Ii{p q:Array Nat}{i j:Nat}(h:p[i]? = q[j]?):kk key p i=kk key q j:=by
 unfold kk;rw[xH,xH,h]
theorem Ij{m i:Nat}(hm:m<=p.size)(hi:i<m):kk key (kas_rev p 0 m) i=kk key p (m - 1 - i):=Ii (by
 unfold kas_rev;rw[getElem?_mirror_all hm,if_pos ⟨eF _,hi⟩];congr 1;lia)
theorem Ik:∀(f n:Nat),1<=n->n+f<=p.size->lW key p->nH key p n->n<=eG (klt key) (kas_asc p f n)/\eG (klt key) (kas_asc p f n)<=n+f/\nH key p (eG (klt key) (kas_asc p f n))/\
  (eG (klt key) (kas_asc p f n)<n+f->kk key p (eG (klt key) (kas_asc p f n))<kk key p (eG (klt key) (kas_asc p f n) - 1))
 | 0,n,_,_,_,h=>⟨bH _,bH _,h,λz=>absurd z (kG _)⟩
 | f+1,n,h1,hz,hd,h=>by
  by_cases c:kk key p n<kk key p (n - 1)
  ·have e:eG (klt key) (kas_asc p (f+1) n)=n:=by
    show eG (klt key) (if klt key (p.getD n 0) (p.getD (n - 1) 0)=true then _ else _)=n
    rw[if_pos (zY c)];rfl
   rw[e];exact⟨bH _,by lia,h,λ_=>c⟩
  ·have e:eG (klt key) (kas_asc p (f+1) n)=eG (klt key) (kas_asc p f (n+1)):=by
    show eG (klt key) (if klt key (p.getD n 0) (p.getD (n - 1) 0)=true then _ else _)=_
    rw[if_neg (by unfold klt;rw[decide_eq_true_eq];exact c)]
   have hn:kk key p (n - 1)<kk key p n:=by
    have:kk key p (n - 1)≠kk key p n:=λz=>by have:=hd _ _ (by lia) (by lia) z;lia
    lia
   have h':nH key p (n+1):=λi j rP hj=>by
    by_cases e1:j=n
    ·subst e1;by_cases e2:i=j - 1
     ·subst e2;exact hn
     ·have:=h i (j - 1) (by lia) (by lia);lia
    ·exact h i j rP (by lia)
   obtain⟨a,b,c1,c2⟩:=Ik f (n+1) (by lia) (by lia) hd h'
   rw[e];exact⟨by lia,by lia,c1,λz=>c2 (by lia)⟩
theorem Uh:∀(f n:Nat),2<=n->n+f<=p.size->lW key p->zX key p n->∃m,eG (klt key) (kas_desc f p n 0)=(p,m,0)/\n<=m/\m<=n+f/\zX key p m
 | 0,n,_,_,_,h=>⟨n,rfl,bH _,bH _,h⟩
 | f+1,n,h1,hz,hd,h=>by
  by_cases c:kk key p n<kk key p (n - 1)
  ·have e:eG (klt key) (kas_desc (f+1) p n 0)=eG (klt key) (kas_desc f p (n+1) 0):=by
    show eG (klt key) (if klt key (p.getD n 0) (p.getD (n - 1) 0)=true then(if 0 > 0 then _ else _) else _)=_
    rw[if_pos (zY c),if_neg (by lia)]
   have h':zX key p (n+1):=λi j rP hj=>by
    by_cases e1:j=n
    ·subst e1;by_cases e2:i=j - 1
     ·subst e2;exact c
     ·have:=h i (j - 1) (by lia) (by lia);lia
    ·exact h i j rP (by lia)
   obtain⟨m,a,b,c1,c2⟩:=Uh f (n+1) (by lia) (by lia) hd h'
   exact⟨m,e.trans a,by lia,by lia,c2⟩
  ·have hn:kk key p (n - 1)<kk key p n:=by
    have:kk key p (n - 1)≠kk key p n:=λz=>by have:=hd _ _ (by lia) (by lia) z;lia
    lia
   refine⟨n,?_,bH _,by lia,h⟩
   show eG (klt key) (if klt key (p.getD n 0) (p.getD (n - 1) 0)=true then _ else _)=_
   rw[if_neg (by unfold klt;rw[decide_eq_true_eq];exact c)]
   show eG (klt key) (if klt key (p.getD (n - 1) 0) (p.getD n 0)=true then _ else _)=_
   rw[if_pos (zY hn)];rfl
theorem aem{m:Nat}(hm:m<=p.size)(h:lW key p):lW key (kas_rev p 0 m):=λi j hi hj e=>by
 have hs:(kas_rev p 0 m).size=p.size:=mirror_size _ _ _ _;rw[hs] at hi hj;have at_:∀i,kk key (kas_rev p 0 m) i=kk key p (if i<m then m - 1 - i else i):=λi=>by
  by_cases z:i<m
  ·rw[if_pos z,Ij hm z]
  ·rw[if_neg z];exact Ii (by unfold kas_rev;rw[getElem?_mirror_all hm,if_neg (by lia)])
 rw[at_,at_] at e;have:=h _ _ (by split <;> lia) (by split <;> lia) e
 split at this <;> split at this <;> lia
theorem aen{n kh:Nat}(h1:1<=n)(hn:n<=kh)(hz:kh<=p.size)(hd:lW key p)(h:zX key p n) :
  ∃m q,eG (klt key) (kas_tail3 n kh p)=(m,q)/\1<=m/\m<=kh/\q.Perm p/\lW key q/\nH key q m:=by
 have fP:=aem (cX hn hz) hd;have ha:nH key (kas_rev p 0 n) n:=λi j rP hj=>by
  rw[Ij (by lia) (by lia),Ij (by lia) hj]
  exact h _ _ (by lia) (by lia)
 have hs:(kas_rev p 0 n).size=p.size:=mirror_size _ _ _ _;obtain⟨a,b,c,_⟩:=Ik (p:=kas_rev p 0 n) (kh - n) n h1 (by lia) fP ha
 exact⟨_,_,by unfold kas_tail3;rw[wH];rfl,by lia,by lia,mirror_perm _ _ _ _,fP,c⟩
theorem aeo{kh:Nat}(h1:1<=kh)(hz:kh<=p.size)(hd:lW key p) :
  ∃m q,eG (klt key) (kas_count kh p)=(m,q)/\1<=m/\m<=kh/\q.Perm p/\lW key q/\nH key q m:=by
 obtain⟨a,b,c,d⟩:=Ik (p:=p) (kh - 1) 1 (by lia) (by lia) hd (λi j _ _=>by lia)
 unfold kas_count;rw[wH];generalize eG (klt key) (kas_asc p (kh - 1) 1)=n at a b c d;by_cases e:n=kh
 ·rw[if_pos (by rw[lE];exact e)]
  exact⟨n,p,rfl,a,by lia,FO _,hd,c⟩
 ·rw[if_neg (by rw[lE];exact e)]
  by_cases g:n > 1
  ·rw[if_pos g];refine⟨n,p,?_,a,by lia,FO _,hd,c⟩
   show eG (klt key) (if klt key (p.getD 0 0) (p.getD (n - 1) 0)=true then _ else _)=_
   rw[if_pos (zY (c _ _ (by lia) (by lia)))];rfl
  ·rw[if_neg g];have en:n=1:=by lia
   subst en;have d1:=d (by lia)
   have hde:zX key p 2:=λi j rP hj=>by
    have e1:j=1:=by lia
    have e2:i=0:=by lia
    subst e1 e2;exact d1
   obtain⟨m,e1,e2,e3,e4⟩:=Uh (p:=p) (kh - 2) 2 (by lia) (by lia) hd hde
   unfold kas_descPart;rw[wH,show (1+1)=2 from rfl,e1];dsimp only;rw[if_neg (by lia)]
   exact aen (by lia) (by lia) hz hd e4
theorem Il{k:Nat}:∀(f l r:Nat),r - l<=f->l<=r->r<=k->k<p.size->lW key p->nH key p k->(∀i,i<l->kk key p i<kk key p k)->(∀i,r<=i->i<k->kk key p k<kk key p i)->
  ∃m,eG (klt key) (kas_place p k f l r)=m/\m<=k/\(∀i,i<m->kk key p i<kk key p k)/\(∀i,m<=i->i<k->kk key p k<kk key p i)
 | 0,l,r,hf,hlr,hr,hk,hd,ha,h1,h2=>⟨l,rfl,by lia,h1,λi a b=>h2 i (by lia) b⟩
 | f+1,l,r,hf,hlr,hr,hk,hd,ha,h1,h2=>by
  unfold kas_place;by_cases c:l ≥ r
  ·rw[if_pos c];exact⟨l,rfl,by lia,h1,λi a b=>h2 i (by lia) b⟩
  ·rw[if_neg c]
   show ∃m,eG (klt key) (if klt key (p.getD k 0) (p.getD ((l+r) / 2) 0)=true then _ else _)=m/\_
   have hm:(l+r) / 2<r:=by lia
   have hl:l<=(l+r) / 2:=by lia
   generalize (l+r) / 2=q at hm hl;by_cases d:kk key p k<kk key p q
   ·rw[if_pos (zY d)];refine Il f l q (by lia) hl (by lia) hk hd ha h1 λi a b=>?_
    by_cases e:i=q
    ·subst e;exact d
    ·have:=ha q i (by lia) b;lia
   ·rw[if_neg (by unfold klt;rw[decide_eq_true_eq];exact d)]
    have hq:kk key p q<kk key p k:=by
     have:kk key p q≠kk key p k:=λz=>by have:=hd _ _ (by lia) (by lia) z;lia
     lia
    refine Il f (q+1) r (by lia) (by lia) hr hk hd ha (λi a=>?_) h2
    by_cases e:i=q
    ·subst e;exact hq
    ·have:=ha i q (by lia) (by lia);lia
theorem Dn{k l i:Nat}(hk:k<p.size)(hl:l<=k):kk key (bubble p k (k - l)) i=kk key p (if i=l then k else if l<i/\i<=k then i - 1 else i):=Ii (by
 rw[getElem?_bubble hk _ (by lia),show k - (k - l)=l by lia]
 split
 ·rfl
 ·split <;> rfl)
theorem Ui:∀(f:Nat) (p:Array Nat) (k:Nat),k+f=p.size->lW key p->nH key p k->∃q,eG (klt key) (kas_bin f p k)=q/\q.Perm p/\nH key q p.size
 | 0,p,k,hz,hd,ha=>⟨p,rfl,FO _,by rw[← hz];exact ha⟩
 | f+1,p,k,hz,hd,ha=>by
  obtain⟨l,e,hl,h1,h2⟩:=Il (p:=p) (k:=k) k 0 k (by lia) (by lia) (bH _) (by lia) hd ha (λi z=>by lia) (λi a b=>by lia)
  unfold kas_bin;rw[wH,e];have hs:(bubble p k (k - l)).size=p.size:=bubble_size _ _ _;have fP:lW key (bubble p k (k - l)):=λi j hi hj z=>by
   rw[hs] at hi hj;rw[Dn (by lia) hl,Dn (by lia) hl] at z
   have:=hd _ _ (by split;lia;split <;> lia) (by split;lia;split <;> lia) z
   repeat' split at this
   all_goals lia
  have ha':nH key (bubble p k (k - l)) (k+1):=λi j rP hj=>by
   rw[Dn (by lia) hl,Dn (by lia) hl]
   by_cases e1:i=l
   ·rw[if_pos e1,if_neg (by lia),if_pos (by lia)]
    exact h2 _ (by lia) (by lia)
   ·rw[if_neg e1];by_cases e2:j=l
    ·rw[if_neg (by lia),if_pos e2]
     exact h1 _ (by lia)
    ·rw[if_neg e2];split <;> split
     ·exact ha _ _ (by lia) (by lia)
     ·exact ha _ _ (by lia) (by lia)
     ·exact ha _ _ (by lia) (by lia)
     ·exact ha _ _ (by lia) (by lia)
  obtain⟨q,e3,e4,e5⟩:=Ui f (bubble p k (k - l)) (k+1) (by lia) fP ha'
  exact⟨q,e3,e4.trans (bubble_perm _ _ _),by rw[hs] at e5;exact e5⟩
theorem aep{n:Nat}(h1:1<=n)(hi:∀i j,i<n->j<n->key i=key j->i=j):∃q,eG (klt key) (kas_sort n)=q/\q.Perm (List.toArray (List.range n))/\nH key q n:=by
 have Uj:∀i,i<n->(List.toArray (List.range n)).getD i 0=i:=λi h=>by
  rw[xH];simp[h]
 have hd:lW key (List.toArray (List.range n)):=λi j jG ki e=>by
  have a:i<n:=by simpa using jG
  have b:j<n:=by simpa using ki
  unfold kk at e;rw[Uj i a,Uj j b] at e;exact hi i j a b e
 have hz:(List.toArray (List.range n)).size=n:=by simp
 obtain⟨m,q,e1,e2,e3,e4,e5,e6⟩:=aeo (p:=List.toArray (List.range n)) h1 (by lia) hd
 have hq:q.size=n:=by rw[e4.size_eq,hz]
 unfold kas_sort;rw[wH,e1];by_cases c:m<n
 ·rw[if_pos c];have em:max m 1=m:=by lia
  rw[em];obtain⟨q',a,b,d⟩:=Ui (n - m) q m (by lia) e5 e6
  exact⟨q',a,b.trans e4,by rw[hq] at d;exact d⟩
 ·rw[if_neg c];have:m=n:=by lia
  subst this;exact⟨q,rfl,e4,e6⟩
end
section
variable{prog:Program}{w:World}{A:Around}{E:Value->Shared->Prop}{s:Shared}
def Im(h:Heap)(a:Addr)(d r:Int):Prop:=∃o t u n,h.get? a=some o/\o.cls = .type "tuple"/\o.data = .seq #[.int d t,.int r u] n
theorem aer{x y:Addr}{d1 r1 d2 r2:Int}{Q:Bool->Shared->Prop}(hx:Im s.heap x d1 r1)(hy:Im s.heap y d2 r2)(h:Q (decide (d1<d2\/(d1=d2/\r1<r2))) s) :
  wpAny (model prog w) A (keyLt' (tuples' true) (.ref x) (.ref y)) Q E s:=by
 obtain⟨ox,t1,u1,n1,ex,_,dx⟩:=hx;obtain⟨oy,t2,u2,n2,ey,_,dy⟩:=hy;refine kat_lt ex dx ey dy (kat_cons (GA ?_));by_cases e:d1=d2
 ·subst e;rw[Gz];refine kat_yes (kat_cons (GA ?_));by_cases e2:r1=r2
  ·subst e2;rw[Gz];refine kat_yes (kat_nil ?_);have z:decide (d1<d1\/(d1=d1/\r1<r1))=decide ((#[Value.int d1 t1,Value.int r1 u1]:Array Value).size<(#[Value.int d1 t2,Value.int r1 u2]:Array Value).size):=by
    rw[BY];simp
   rw[← z];exact h
  ·rw[lC.mpr e2];refine kat_no ?_
   show wpAny _ _ (oneLt' false _ _) _ _ _;refine kat_one _ _ (lt_int ?_);have z:decide (d1<d1\/(d1=d1/\r1<r2))=decide (r1<r2):=by rw[BY];simp
   rw[z] at h;exact h
 ·rw[lC.mpr e];refine kat_no ?_
  show wpAny _ _ (oneLt' true _ _) _ _ _;refine oneLt_int ?_;have z:decide (d1<d2\/(d1=d2/\r1<r2))=decide (d1<d2):=by rw[BY];simp[e]
  rw[z] at h;exact h
def Dp(h:Heap)(ks:List Value)(kv:List (Int×Int)):Prop:=ks.length=kv.length/\∀i (hi:i<kv.length),∃a,ks.getD i Value.none = .ref a/\Im h a (kv[i]).1 (kv[i]).2
noncomputable def lX(kv:List (Int×Int))(i:Nat):Int:=(kv.getD i (0,0)).1*64+(kv.getD i (0,0)).2
theorem aes{ks:List Value}{kv:List (Int×Int)}{i j:Nat}{C:Bool->Shared->Prop}(hk:Dp s.heap ks kv)(hb:∀q∈kv,0<=q.2/\q.2<64)(hi:i<kv.length)(hj:j<kv.length)(h:C (klt (lX kv) i j) s) :
  kas_ask prog w A (tuples' true) ks i j C s:=by
 obtain⟨a,ea,pa⟩:=hk.2 i hi;obtain⟨b,eb,pb⟩:=hk.2 j hj;unfold kas_ask;rw[ea,eb];have h1:=hb _ (cO hi);have h2:=hb _ (cO hj);have z:klt (lX kv) i j=decide ((kv[i]).1<(kv[j]).1\/((kv[i]).1=(kv[j]).1/\(kv[i]).2<(kv[j]).2)):=by
  unfold klt lX;rw[BY,show kv.getD i (0,0)=kv[i] by simp[hi],show kv.getD j (0,0)=kv[j] by simp[hj]]
  constructor
  ·intro q;lia
  ·intro q;lia
 rw[z] at h;exact aer pa pb h
end
noncomputable def KB{α:Type}(n:Nat)(P:α->Prop):KasT α->Prop
 | .ret a=>P a
 | .ask i j k=>i<n/\j<n/\∀b,KB n P (k b)
theorem KB.bind{α β:Type}{n:Nat}{P:α->Prop}{R:β->Prop}{f:α->KasT β}(hf:∀a,P a->KB n R (f a)):∀t:KasT α,KB n P t->KB n R (t.bind f)
 | .ret a,h=>hf a h
 | .ask i j k,h=>⟨h.1,h.2.1,λb=>KB.bind hf (k b) (h.2.2 b)⟩
theorem Uk{α:Type}{n:Nat}{P:α->Prop}{cmp:Nat->Nat->(Bool->Shared->Prop)->Shared->Prop}{lt:Nat->Nat->Bool}{s:Shared}(hc:∀i j C,i<n->j<n->C (lt i j) s->cmp i j C s) :
  ∀(t:KasT α) (Q:α->Shared->Prop),KB n P t->Q (eG lt t) s->t.kasWp cmp Q s
 | .ret _,_,_,h=>h
 | .ask i j k,Q,z,h=>hc i j _ z.1 z.2.1 (Uk hc (k (lt i j)) Q (z.2.2 _) h)
def AllLt(n:Nat)(p:Array Nat):Prop:=0<n/\∀x∈p.toList,x<n
section
variable{n:Nat}{p q:Array Nat}
theorem AllLt.at(h:AllLt n p)(i:Nat):p.getD i 0<n:=by
 rw[xH];cases e:p[i]? with
 | none=>exact h.1
 | some x=>exact h.2 x (jv (by rw[← xJ] at e;exact e))
theorem AllLt.perm(h:AllLt n p)(e:q.Perm p):AllLt n q:=⟨h.1,λx hx=>h.2 x (e.toList.mem_iff.mp hx)⟩
theorem AllLt.rev(h:AllLt n p)(i j:Nat):AllLt n (kas_rev p i j):=h.perm (mirror_perm _ _ _ _)
theorem Io(h:AllLt n p):∀f m,KB n (λ_=>True) (kas_asc p f m)
 | 0,_=>trivial
 | f+1,m=>⟨h.at _,h.at _,λb=>by
  show KB n _ (if b=true then _ else _)
  cases b
  ·exact Io h f (m+1)
  ·trivial⟩
theorem Dq:∀(f:Nat) (p:Array Nat) (m q:Nat),AllLt n p->KB n (λr=>AllLt n r.1) (kas_desc f p m q)
 | 0,p,_,_,h=>h
 | f+1,p,m,q,h=>⟨h.at _,h.at _,λb=>by
  show KB n _ (if b=true then(if q > 0 then _ else _) else _)
  cases b
  ·refine⟨h.at _,h.at _,λd=>?_⟩
   show KB n _ (if d=true then _ else _)
   cases d
   ·exact Dq f p _ _ h
   ·exact h
  ·rw[if_pos rfl];split
   ·exact Dq f _ _ _ (h.rev _ _)
   ·exact Dq f _ _ _ h⟩
theorem Ul{m r:Nat}(h:AllLt n p):KB n (λr=>AllLt n r.2) (kas_tail3 m r p):=by
 unfold kas_tail3;refine KB.bind (P:=λ_=>True) (λa _=>?_) _ (Io (h.rev _ _) _ _)
 show AllLt n _;exact h.rev _ _
theorem Um{m r:Nat}(h:AllLt n p):KB n (λr=>AllLt n r.2) (kas_descPart m r p):=KB.bind (λa ha=>by
 split
 ·exact Ul (ha.rev _ _)
 ·exact Ul ha) _ (Dq _ _ _ _ h)
theorem aet{r:Nat}(h:AllLt n p):KB n (λr=>AllLt n r.2) (kas_count r p):=KB.bind (λm _=>by
 split
 ·exact h
 ·split
  ·refine⟨h.at _,h.at _,λb=>?_⟩
   show KB n _ (if b=true then _ else _)
   cases b
   ·exact Um (h.rev _ _)
   ·exact h
  ·exact Um h) _ (Io h _ _)
theorem Ip{k:Nat}(h:AllLt n p):∀f l r,KB n (λ_=>True) (kas_place p k f l r)
 | 0,_,_=>trivial
 | f+1,l,r=>by
  unfold kas_place;split
  ·trivial
  ·refine⟨h.at _,h.at _,λb=>?_⟩
   show KB n _ (if b=true then _ else _)
   cases b
   ·exact Ip h f _ _
   ·exact Ip h f _ _
theorem Uo:∀(f:Nat) (p:Array Nat) (k:Nat),AllLt n p->KB n (AllLt n) (kas_bin f p k)
 | 0,_,_,h=>h
 | f+1,p,k,h=>KB.bind (λl _=>Uo f _ _ (h.perm (bubble_perm _ _ _))) _ (Ip h _ _ _)
theorem aeu(h:1<=n):KB n (AllLt n) (kas_sort n):=KB.bind (λr hr=>by
 split
 ·exact Uo _ _ _ hr
 ·exact hr) _ (aet ⟨h,λx hx=>by simpa using hx⟩)
end
theorem aev{prog:Program}{w:World}{A:Around}{s:Shared}{ks:List Value}{kv:List (Int×Int)}{Q:Array Nat->Shared->Prop}(h1:1<=kv.length)(hk:Dp s.heap ks kv)(hb:∀q∈kv,0<=q.2/\q.2<64)(hd:kv.Nodup)
  (h:∀p:Array Nat,p.Perm (List.toArray (List.range kv.length))->(∀i j,i<j->j<kv.length->lX kv (p.getD i 0)<lX kv (p.getD j 0))->Q p s) :
  (kas_sort kv.length).kasWp (kas_ask prog w A (tuples' true) ks) Q s:=by
 have hi:∀i j,i<kv.length->j<kv.length->lX kv i=lX kv j->i=j:=λi j a b e=>by
  unfold lX at e;rw[show kv.getD i (0,0)=kv[i] by simp[a],show kv.getD j (0,0)=kv[j] by simp[b]] at e
  have z1:=hb _ (cO a);have z2:=hb _ (cO b);have e1:(kv[i]).1=(kv[j]).1:=by lia
  have e2:(kv[i]).2=(kv[j]).2:=by lia
  exact(List.getElem_inj hd).mp (Prod.ext e1 e2)
 obtain⟨q,e,hp,ha⟩:=aep (key:=lX kv) h1 hi;exact Uk (lt:=klt (lX kv)) (λi j C a b c=>aes hk hb a b c) _ _ (aeu h1) (by rw[e];exact h q hp ha)
end _L
namespace _L
open PySem PySem.Spec PyProof.Rows
theorem aew{X:Cx}{st:Stmt}{h₀:ExceptHandler}{hs:List ExceptHandler}{pos:Pos}{t:TS}(hx:X.xe=λ_ _=>False)(hb:PS X st t):PS X (.Try [st] (h₀::hs) [] [] pos) t:=by
 intro pins s σ H D I h;refine wpAny_Try_except (B4 (eL (hb pins s σ H D I h) (λf s1 q=>?_) λe s' z=>?_))
 ·cases f with
  | next=>exact qV (qV q)
  | ret v=>exact q
  | brk=>exact q
  | cont=>exact q
 ·rw[hx] at z;exact False.elim z
theorem aex{X:Cx}{K:W.Frag}{e:Expr}{f:Str}{pos:Pos}{ta:TE}(h:X.K=K)(he:PE X e ta)(hb:attributeBase e f X.env (eval e X.env)=eval e X.env):PE X (.Attribute e f pos) (vL K ta f):=h▸Sa he hb
section
variable{K:W.Frag}{C:Addr}{H H':Hp}{l:Addr}{ps:List Addr}{qs:List Ak}
structure Iq(T:Int)(q:Ak):Prop where
 f0:0<=q.first
 m0:0<=q.many
 m1:q.many<=16
 fit:q.first+q.many<=T
end
noncomputable abbrev Ir(qual:Str)(scope:Scope)(L f c':Addr)(cl:List (Str×Addr)):Env:=PySem.W.envX qual scope L f (.ref c') cl
noncomputable def zZ(X:Cx)(A:Around)(qual:Str)(scope:Scope)(f c':Addr)(cl:List (Str×Addr))(N:List Str)(s:Shared)(H:Hp):Cx where
 prog:=X.prog
 w:=X.w
 K:=X.K
 mg:=X.mg
 base:=X.base
 A:=A.deeper (Ir qual scope s.heap.objs.size f c' cl)
 N:=N
 bR:=s
 iy:=H
 env:=Ir qual scope s.heap.objs.size f c' cl
 outer:=X.stack
 stack:=Ir qual scope s.heap.objs.size f c' cl::X.stack
 ex:=[]
 fn:=λ_=>false
 calm:=X.calm
 pn:=[]
 xe:=λ_ _=>False
structure nI(X:Cx)(scope:Scope)(cl:List (Str×Addr))(ps fs:List Str)(fv:List Nat):Prop where
 oR:closureFor scope X.env=pure cl
 kind:scope.kind = .function
 co:scope.isCoroutine=false
 gen:scope.isGenerator=false
 z7:∀y∈scope.names,y.2≠.cell
 par:∀y∈ps,scope.names.lookup y=some .local
 sub:∀p∈cl,X.env.cells.lookup p.1=some p.2
 has:∀y∈scope.names,y.2 = .free->∃c,cl.lookup y.1=some c
 free:fv.map (λj=>X.N[j]?)=fs.map some
 fk:∀y∈fs,scope.names.lookup y=some .free/\X.env.scope.names.lookup y=some .cell
 nd:(ps++fs).Nodup
theorem Uq{α:Type}:∀ {l:List (Str×α)} {x:Str} {v:α},(l.map (·.1)).Nodup->(x,v)∈l->l.lookup x=some v
 | (y,u)::r,x,v,nd,hm=>by
  rw[dM,lB] at nd;rcases cE.mp hm with e | e
  ·cases e;simp[List.lookup_cons]
  ·have:x≠y:=λz=>nd.1 (by rw[← z];exact fG.mpr ⟨_,e,rfl⟩)
   rw[vg,lC.mpr this];exact Uq nd.2 e
section
variable{X:Cx}{pins:List (Addr×Obj)}{σ:St}{H:Hp}{s:Shared}{scope:Scope}{cl:List (Str×Addr)}{ps fs:List Str}{fv:List Nat}{A:Around}{qual:Str}{f c':Addr}
noncomputable def rQ(σ:St)(vs:List V)(fv:List Nat):St:=vs.map some++fv.map λj=>(σ[j]?).getD none
theorem nI.cell(S:nI X scope cl ps fs fv){x:Str}{c:Addr}(e:cl.lookup x=some c):X.env.cells.lookup x=some c:=S.sub (x,c) (qk e)
theorem aey{ps:List Str}{us:List Value}{i:Nat}{x:Str}{u:Value}(nd:ps.Nodup)(e1:ps[i]? = some x)(e2:us[i]? = some u):(ps.zip us).reverse.lookup x=some u:=by
 have nd2:((ps.zip us).reverse.map (·.1)).Nodup:=by
  rw[List.map_reverse];refine List.pairwise_reverse.mpr (Gb f_ (show ((ps.zip us).map (·.1)).Nodup from ?_));have:(ps.zip us).map (·.1)=ps.take us.length:=by
   clear e1 e2 nd
   induction ps generalizing us with
   | nil=>simp
   | cons a r ih=>cases us with
    | nil=>simp
    | cons b q=>simp[ih]
  rw[this];exact nd.sublist (List.take_sublist _ _)
 have hm:(x,u)∈(ps.zip us).reverse:=by
  rw[List.mem_reverse];refine jv (i:=i) ?_;rw[List.getElem?_zip_eq_some];exact⟨e1,e2⟩
 exact Uq nd2 hm
theorem nI.inv(S:nI X scope cl ps fs fv)(I:Inv X pins σ H s)(hA:A.frames=some X.stack)(hd:X.calm=true->A.handled=none){h1:Heap}{tk:Nat}{us:List Value}{vs:List V}(r:Vals vs us)(hl:vs.length=ps.length)
  (old:∀b o,s.heap.get? b=some o->h1.get? b=some o) (mY:h1.Ns s.heap.objs.size λy=>(ps.zip us).reverse.lookup y) :
  Inv (zZ X A qual scope f c' cl (ps++fs) s H) [] (rQ σ vs fv) H { s with heap:=h1,toks:=tk }:=by
 have I1:Inv X pins σ H { s with heap:=h1,toks:=tk }:=I.kept old;have hlen:fv.length=fs.length:=by simpa using ig List.length S.free
 refine⟨⟨I.ok.mod,S.kind,rfl,rfl,bH _,λx y c e1 e2=>I.ok.inj x y c (S.cell e1) (S.cell e2),λx hx=>?_,λx c z _=>?_,hd,Around.frames_deeper hA,.inr ⟨rfl,rfl⟩,λb z=>absurd (show b∈([]:List Addr) from z) (by simp),I.bs,cX I.ok.iz I.sz,
  λb _ _ z=>absurd (show b∈([]:List Addr) from z) (by simp),λb z=>absurd (show b∈([]:List Addr) from z) (by simp),I.stack,I.Cd⟩,rfl,I.bare,Un.kept old,⟨_,mY,λi x v e1 e2 e3=>?_⟩,λx c e=>?_,I.aK.fresh (bH _),λx c e=>I.jy x c (S.cell e),
  λp hp=>absurd (show p∈([]:List (Addr×Obj)) from hp) (by simp),I1.aK,?_⟩
 ·have hx:scope.names.lookup x=some .cell\/scope.names.lookup x=some .free:=hx;rcases hx with z | z
  ·exact absurd rfl (S.z7 _ (qk z))
  ·exact S.has _ (qk z) rfl
 ·cases (show false=true from z)
 ·have e1:(ps++fs)[i]? = some x:=e1;unfold rQ at e2;by_cases hi:i<ps.length
  ·rw[d7 hi] at e1;rw[d7 (by simp;lia),ju] at e2
   cases hv:vs[i]? with
   | none=>rw[hv] at e2;simp at e2
   | some v' =>
    rw[hv] at e2;simp only[Option.map_some,Option.some.injEq] at e2;subst e2;obtain⟨u,hu,ru⟩:=r.get hv;exact⟨u,ru,.inl ⟨S.par x (jv e1),aey (List.nodup_append.mp S.nd).1 e1 hu⟩⟩
  ·rw[d8 (by lia)] at e1
   rw[d8 (by simp;lia)] at e2
   simp only[List.length_map,List.getElem?_map,hl] at e2;cases hj:fv[i - ps.length]? with
   | none=>rw[hj] at e2;simp at e2
   | some j =>
    rw[hj] at e2;simp only[Option.map_some,Option.some.injEq] at e2;have hN:X.N[j]? = some x:=by
     have q:=ig (λl=>l[i - ps.length]?) S.free;simp only[List.getElem?_map,hj,Option.map_some] at q;rw[e1] at q;exact(dh q)
    have Iu:σ[j]? = some (some v):=by
     cases z:σ[j]? with
     | none=>rw[z] at e2;simp at e2
     | some y=>rw[z] at e2;simp at e2;rw[e2]
    obtain⟨f1,f2⟩:=S.fk x (jv e1);obtain⟨m,hn,hlk⟩:=I1.loc;obtain⟨u,ru,lk⟩:=hlk j x v hN Iu (.inr (.inl f2));refine⟨u,ru,?_⟩;rcases lk with⟨k,_⟩ | ⟨_,c,ec,hc⟩
    ·have k:X.env.scope.names.lookup x=some .local:=k;rw[f2] at k;cases k
    ·obtain⟨c2,e'⟩:=S.has _ (qk f1) rfl;have:=S.cell e';rw[ec] at this;cases this;exact .inr ⟨.inr f1,c,e',hc⟩
 ·obtain⟨v,z⟩:=I1.cell x c (S.cell e);exact⟨v,z⟩
 ·unfold rQ
  show _=(ps++fs).length;simp only[List.length_append,List.length_map];lia
theorem aez{name:Str}{params:Arguments}{body:Expr}{te:TE}{pm e_:Value}{us:List Value}{vs:List V}{Q:VK}(S:nI X scope cl ps fs fv)(I:Inv X pins σ H s)(hA:A.frames=some X.stack)(hd:X.calm=true->A.handled=none)(oU:A.depth<recursionLimit)
  (ho:s.heap.get? f=some (PySem.W.kla_obj name qual params body scope cl pm c' e_)) (dN:s.heap.CodeRec (.ref c') qual)
  (lT:bindArgs (PySem.W.kla_fn name qual params body scope cl pm (.ref c') e_) ⟨us,[]⟩=pure (ps.zip us)) (r:Vals vs us) (hl:vs.length=ps.length)
  (he:PE (zZ X A qual scope f c' cl (ps++fs) s H) body te) (h:te (rQ σ vs fv) H Q) :
  wpAny (model X.prog X.w) A (call (.ref f) us) (λu s'=>∃v H',Inv X pins σ H' s'/\RelV v u/\Q v H'/\Un (cK X.stack) [] H H' s.heap s'.heap) (λ_ _=>False) s:=by
 refine vo (PySem.W.kla_callFunE (A:=A) oU ho rfl S.co S.gen rfl dN ?_);rw[lT];refine bL (wpAny_newFunctionEnv S.z7 (λy hy=>S.par _ (BL hy).1) (λh1 mY Ur=>⟨(I.nolimit).fresh _ Ur,?_⟩) S.kind);have old:∀b o,s.heap.get? b=some o->h1.get? b=some o:=λb o e=>Ur.extBut b o (dD (cD e)) (dg _ e);have J:=S.inv (qual:=qual) (f:=f) (c':=c') (A:=A) (tk:=s.toks+(ps.zip us).length) I hA hd r hl old mY;refine PySem.W.kla_codeExpr (eL (he [] _ _ _ Q J h) (λu s' hq=>?_) λ_ _ z=>False.elim z);obtain⟨v,H',J',rv,q⟩:=hq;exact⟨v,H',I.Ci J'.os J'.base J'.aK J'.bare (λ_ z=>nomatch z),rv,q,J'.base⟩
end
noncomputable def rR(c':Addr)(qual:Str):HO:=.ext λh=>h.CodeRec (.ref c') qual
def cT(P:Addr)(pos:Pos)(qual:Str)(H:Hp):Prop:=∃ps,H P=some (.fO ps)/\TriplesOk ps.toList/\(codeAmong pos ps.toList=none\/∃c',codeAmong pos ps.toList=some (.ref c')/\H c' = some (rR c' qual))
structure bE(mg:Str->Option Value)(base:Heap)(c P:Addr):Prop where
 hd:PySem.W.CodeHd base c P
 bm:∃bm ob,mg "__builtins__" = some (.ref bm)/\bm≠builtinsNs/\base.get? bm=some ob/\ob.cls = .type "module"/\ob.dict=some builtinsNs/\ob.data = .plain
theorem aeA{P:Program}{w:World}{H:Hp}{h:Heap}{c':Addr}{qual:Str}(x:h.CodeRec (.ref c') qual):dU P w H h c' (rR c' qual):=by
 refine⟨x,?_,λh1 h2 y k=>?_⟩
 ·obtain⟨c,o,vs,t,e,g,_⟩:=x;cases e;exact⟨o,g⟩
 ·obtain⟨c,o,vs,t,e,g,r⟩:=y;cases e;exact⟨c',o,vs,t,rfl,k o g,r⟩
theorem aeB{P:Program}{w:World}{H:Hp}{h:Heap}{c':Addr}{qual:Str}(x:cQ P w H h)(e:H c' = some (rR c' qual)):h.CodeRec (.ref c') qual:=(x c' _ e).1
theorem Ut{a b:Int}{t u:Tok}{c:Value}:∀ {l:List Value},TriplesOk l->TriplesOk (l++[.int a t,.int b u,c])
 | [],_=>trivial
 | .int _ _::.int _ _::_::r,h=>Ut (l:=r) h
section
variable{X:Cx}{pins:List (Addr×Obj)}{σ:St}{H:Hp}{s:Shared}{scope:Scope}{cl:List (Str×Addr)}{M:Model}{A:Around}{E:Value->Shared->Prop}{name qual:Str}{params:Arguments}{body:Expr}{pos:Pos}{firstLine:Nat}{c P:Addr}
theorem aeC{Q:Value->Shared->Prop}(B:bE X.mg X.base c P)(wI:X.env.code = .ref c)(oV:closureFor scope X.env=pure cl)(I:Inv X pins σ H s)(hT:cT P pos qual H)
  (h:∀(f c':Addr) (e_ pm:Value) (H':Hp) (s':Shared),Inv X ((f,PySem.W.kla_obj name qual params body scope cl pm c' e_)::pins) σ H' s'->SameBut P H H'->cT P pos qual H'->H' c' = some (rR c' qual)->Q (.ref f) s') :
  wpAny M A (makeFunction name qual params (.expr body) scope X.env [] [] [] pos firstLine) Q E s:=by
 obtain⟨ps,hP,tr,hc⟩:=hT;have oP:s.heap.get? P=some (PySem.W.tabObj ps):=I.aK P _ hP;have Iv:s.heap.Ns mainGlobals X.mg:=I.mod.glob.keeps I.bk;obtain⟨bm,ob,b1,b2,b3,b4,b5,b6⟩:=B.bm;have hgP:mainGlobals≠P:=λq=>by
  obtain⟨o,es,ep,e,hd,_⟩:=Iv;rw[q,oP] at e;cases e;cases hd
 have hbP:bm≠P:=λq=>by
  have e:=I.bk _ _ b3;rw[q,oP] at e;cases e;cases b4
 have hbG:bm≠mainGlobals:=λq=>by
  obtain⟨o,es,ep,e,hd,_⟩:=I.mod.glob;rw[q,e] at b3;cases b3;rw[hd] at b6;cases b6
 have Uu:s.heap.BuiltinsAt X.mg P:=⟨bm,ob,b1,b2,hbG,hbP,I.bk _ _ b3,b4,b5,b6⟩;have nf:∀(h1:Heap) (o:Obj),s.heap.objs.size<=h1.objs.size->(h1.push o).get? h1.objs.size=some o->True:=λ_ _ _ _=>trivial;have LP:X.env.locals≠P:=λz=>by rw[← z,I.free] at hP;cases hP
 rcases hc with hc | ⟨c',hc,Uv⟩
 ·refine PySem.W.kla_makeFunction (mg:=X.mg) oV I.ok.glob Iv wI (B.hd.keeps I.bk) oP tr hc hgP Uu λc' e_ h1 tk hx Ds cF aeD htb=>?_;have nc:H c' = none:=I.aK.fresh Ds;have cP:c'≠P:=λz=>by rw[z,hP] at nc;cases nc
  have kp:∀b o,b≠P->s.heap.get? b=some o->(h1.push (PySem.W.kla_obj name qual params body scope cl ((X.mg "__name__").getD .none) c' e_)).get? b=some o:=λb o hb e=>dg _ (hx b o hb e);have Uw:=dg (PySem.W.kla_obj name qual params body scope cl ((X.mg "__name__").getD .none) c' e_) htb;have wJ:∀b u,H b=some u->b≠P->upd (upd H P (.fO (ps ++ #[rawInt pos.line,rawInt pos.col,.ref c']))) c' (rR c' qual) b=some u:=λb u e hb=>by
   rw[aI (λz=>by rw[z,nc] at e;cases e),aI hb];exact e
  have I1:Inv X pins σ (upd (upd H P (.fO (ps ++ #[rawInt pos.line,rawInt pos.col,.ref c']))) c' (rR c' qual)) { s with heap:=h1.push (PySem.W.kla_obj name qual params body scope cl ((X.mg "__name__").getD .none) c' e_),toks:=tk }:=by
   refine I.step (g':=s.gens) (d':=s.drawn) (ch:=[]) (λ_ z=>nomatch z) (λb o _ _ _ e n=>kp b o (λz=>by rw[z,hP] at n;cases n) e) (λb o _ _ _ e n=>⟨o.slots,kp b o (λz=>by rw[z,hP] at n;cases n) e⟩) (λb o _ e n=>?_)
    (λb o _ e=>?_) (λb xs e=>wJ b _ e (λz=>by rw[z,hP] at e;cases e)) (λb o u e=>wJ b _ e (λz=>by rw[z,hP] at e;cases e)) (λb eW e=>?_) (λm hm=>(hm.extBut hx LP).push _) (λb v e=>?_) I.bare
   ·rw[aI (λz=>absurd (gA (cD e) Ds) (by rw[z];exact kG _)),aI (λz=>by rw[z,hP] at n;cases n)];exact n
   ·by_cases hb:b=P
    ·rw[hb];exact⟨_,Uw⟩
    ·exact⟨o,kp b o hb e⟩
   ·by_cases hb:b=P
    ·subst hb;rw[hP] at e;cases e;exact⟨#[rawInt pos.line,rawInt pos.col,.ref c'],by rw[aI cP.symm,aD]⟩
    ·exact⟨#[],by rw[Array.append_empty];exact wJ b _ e hb⟩
   ·by_cases Ux:b=c'
    ·subst Ux;rw[aD] at e;cases e;exact aeA (aeD.push _)
    ·rw[aI Ux] at e;by_cases hb:b=P
     ·subst hb;rw[aD] at e;cases e;exact Uw
     ·rw[aI hb] at e;refine(I.aK b v e).jw (λd o hd q=>kp d o ?_ q) (λd q=>wJ d _ q (λz=>by rw[z,hP] at q;cases q)) (λd xs q=>wJ d _ q (λz=>by rw[z,hP] at q;cases q))
      rcases hd with z | z
      ·rw[z];exact hb
      ·exact λy=>by rw[y,hP] at z;cases z
  have of:=fU h1 (o:=PySem.W.kla_obj name qual params body scope cl ((X.mg "__name__").getD .none) c' e_) rfl;have Iw:s.heap.objs.size<=h1.objs.size:=by lia
  refine h h1.objs.size c' e_ ((X.mg "__name__").getD .none) _ _ (I1.oz λp hp=>?_) ?_ ⟨_,by rw[aI cP.symm,aD],?_,.inr ⟨c',?_,aD⟩⟩ aD
  ·rcases cE.mp hp with e | hp
   ·rw[e];refine⟨of,?_,λz=>absurd (gA I.lt (by assumption)) (by rw[← z];exact kG _),I.x9 Iw,λv z=>by cases z⟩
    show upd (upd H P _) c' _ h1.objs.size=none;rw[aI (pU cF),aI (pU (gA (cD oP) Iw))];exact I.aK.fresh Iw
   ·exact I1.pin p (eZ _ hp)
  ·intro b o e hb;exact wJ b o e hb
  ·rw[Array.toList_append];exact Ut tr
  ·rw[Array.toList_append];exact codeAmong_snoc _ tr hc
 ·refine PySem.W.kla_makeFunctionHit (mg:=X.mg) oV I.ok.glob Iv wI (B.hd.keeps I.bk) oP tr hc Uu λe_ h1 tk hk hsz=>?_;have kp:∀b o,s.heap.get? b=some o->(h1.push (PySem.W.kla_obj name qual params body scope cl ((X.mg "__name__").getD .none) c' e_)).get? b=some o:=λb o e=>dg _ (hk b o e);have I1:=I.kept (t':=tk) kp;have of:=fU h1 (o:=PySem.W.kla_obj name qual params body scope cl ((X.mg "__name__").getD .none) c' e_) rfl;refine h h1.objs.size c' e_ ((X.mg "__name__").getD .none) _ _ (I1.oz λp hp=>?_) (λb o e _=>e) ⟨ps,hP,tr,.inr ⟨c',hc,Uv⟩⟩ Uv;rcases cE.mp hp with e | hp
  ·rw[e];exact⟨of,I.aK.fresh hsz,λz=>absurd (gA I.lt (by assumption)) (by rw[← z];exact kG _),I.x9 hsz,λv z=>by cases z⟩
  ·exact I1.pin p (eZ _ hp)
end
end _L
namespace _L
open PySem PySem.Spec PyProof.Rows PySem.W
section
variable{prog:Program}{w:World}{A:Around}{E:Value->Shared->Prop}{s:Shared}
theorem aeE{r S:Addr}{n:Nat}{t u v:Tok}{R:Result->Shared->Prop}(hh:A.handled=none)(hr:IsRange s.heap r 0 (n:Int) 1 t u v)(hn:n<64)(hS:s.heap.get? S=some { cls:=.type "list",data:=.seq #[] })
  (hR:∀(h':Heap) (tk:Nat) (acc:Array Value) (c:Nat),(∀b o,b≠S->s.heap.get? b=some o->h'.get? b=some o)->h'.get? S=some { cls:=.type "list",dict:=none,data:=.seq acc c,slots := #[] }->acc.size=n->(∀(i:Nat) (x:Value),acc[i]? = some x->∃t,x = .int (i:Int) t)->R (.ok (.ret (.ref S))) { s with heap:=h',toks:=tk }) :
  codeAny (model prog w) A (.builtin "list.__iadd__" ⟨[.ref S,.ref r],[]⟩) R s:=by
 refine xV PySem.F.entry_list_iadd ?_;rw[Around.under_plainId PySem.F.plain_list_iadd _];have en:Builtin.Range.rangeSize 0 (n:Int) 1=((n:Nat):Int):=by rw[rangeSize_one];split <;> lia
 refine wpAny_extend_range hh hr (small_one (by lia) (by lia) (by lia) (by lia)) en (by lia) S (.ref S) _ hS λh' tk acc c hk hS' kY=>hR h' tk acc c hk hS' kY.1 λi x e=>?_
 obtain⟨t,z⟩:=kY.2 i x e;exact⟨t,by rw[z];congr 1;lia⟩
theorem aeF{r:Addr}{n:Nat}{t u v:Tok}{Q:List Value->Shared->Prop}(hh:A.handled=none)(hr:IsRange s.heap r 0 (n:Int) 1 t u v)(hn:n<64)
  (hQ:∀(h':Heap) (tk:Nat) (vs:List Value),(∀b o,s.heap.get? b=some o->h'.get? b=some o)->s.heap.objs.size<h'.objs.size->vs.length=n->(∀(i:Nat) (x:Value),vs[i]? = some x->∃t,x = .int (i:Int) t)->Q vs { s with heap:=h',toks:=tk }) :
  wpAny (model prog w) A (collect (.ref r)) Q E s:=by
 unfold collect;refine aM (wpAny_runValue (xV PySem.F.entry_proto_collect ?_));rw[Around.under_plainId PySem.F.plain_proto_collect _];show wpAny _ A.in1 (newList [] >>= λl=>again (.builtin "list.__iadd__" ⟨[l,.ref r],[]⟩)) _ _ s;refine aM (xZ (bL ⟨plainId_quiet PySem.F.plain_list_iadd _,aeE hh (dg _ hr) hn (fU _ rfl) λh' tk acc c hk hS kY ha=>?_⟩))
 show wpAny _ A (load s.heap.objs.size >>= _) _ _ _;refine aM (wpAny_load hS (bL (hQ h' tk acc.toList (λb o e=>hk b o (dD (cD e)) (dg _ e)) (cD hS) (by simpa using kY) λi x e=>ha i x (by simpa using e))))
end
section
variable{X:Cx}{pins:List (Addr×Obj)}{σ:St}{H:Hp}{s:Shared}
theorem Inv.chg{h':Heap}{tk:Nat}{k:Addr}{m:Str->Option Value}(I:Inv X pins σ H s)(hm:s.heap.Ns X.env.locals m)(z8:h'.Ns X.env.locals m)(n:H k=none)(hs:X.bR.heap.objs.size<=k)(hL:k≠X.env.locals)
  (hc:∀x c,X.env.cells.lookup x=some c->c≠k) (hp:∀p∈X.pn++pins,p.1≠k) (ho:∃o,h'.get? k=some o) (kk:∀b o,b≠X.env.locals->b≠k->s.heap.get? b=some o->h'.get? b=some o):Inv X pins σ H { s with heap:=h',toks:=tk }:=by
 have nl:∀b v,H b=some v->b≠X.env.locals:=λb v e z=>by rw[z,I.free] at e;cases e
 have nk:∀b v,H b=some v->b≠k:=λb v e z=>by rw[z,n] at e;cases e
 refine I.step (g':=s.gens) (d':=s.drawn) (ch:=[k]) (λb z=>by rw[gw.mp z];exact⟨.inr hs,hL,hc,hp⟩) (λb o hb _ hk e _=>kk b o hb (by simpa using hk) e) (λb o hb _ hk e _=>⟨o.slots,kk b o hb (by simpa using hk) e⟩) (λ_ _ _ _ n=>n) (λb o hk e=>?_) (λ_ _ e=>e) (λ_ _ _ e=>e)
  (λb ps e=>⟨#[],by rw[e];simp⟩) (λm' wG=>?_) (λb v e=>(I.aK b v e).jw (λc o hc e'=>kk c o ?_ ?_ e') (λ_ e=>e) (λ_ _ e=>e)) I.bare
 ·by_cases hb:b=X.env.locals
  ·obtain⟨o',_,_,z,_⟩:=z8;exact⟨o',by rw[hb];exact z⟩
  ·exact⟨o,kk b o hb (by simpa using hk) e⟩
 ·have:m' = m:=by
   obtain⟨o1,HF,HG,g1,d1,k1,z1⟩:=wG;obtain⟨o2,HJ,HK,g2,d2,k2,z2⟩:=hm;rw[g1] at g2;cases g2;rw[d1] at d2;cases d2
   funext x
   rw[← z1 x,← z2 x]
  rw[this];exact z8
 ·rcases hc with z | z
  ·rw[z];exact nl b v e
  ·exact nl c _ z
 ·rcases hc with z | z
  ·rw[z];exact nk b v e
  ·exact nk c _ z
theorem Inv.aeG{h':Heap}{tk:Nat}{k D:Addr}{xs:List V}{m:Str->Option Value}(I:Inv X pins σ H s)(hm:s.heap.Ns X.env.locals m)(z8:h'.Ns X.env.locals m)(nk:H k=none)(nD:H D=none)
  (two:∀b,b=k\/b=D->X.bR.heap.objs.size<=b/\b≠X.env.locals/\(∀x c,X.env.cells.lookup x=some c->c≠b)/\∀p∈X.pn++pins,p.1≠b)
  (kk:∀b o,b≠X.env.locals->b≠k->b≠D->s.heap.get? b=some o->h'.get? b=some o) (new:dU X.prog X.w (upd H D (.lst xs)) h' D (.lst xs)):Inv X pins σ (upd H D (.lst xs)) { s with heap:=h',toks:=tk }:=by
 have nl:∀b v,H b=some v->b≠X.env.locals:=λb v e z=>by rw[z,I.free] at e;cases e
 have n1:∀b v,H b=some v->b≠k:=λb v e z=>by rw[z,nk] at e;cases e
 have n2:∀b v,H b=some v->b≠D:=λb v e z=>by rw[z,nD] at e;cases e
 have up:∀b v,H b=some v->upd H D (.lst xs) b=some v:=λb v e=>by rw[aI (n2 b v e)];exact e
 have mem:∀b,b∉[k,D]->b≠k/\b≠D:=λb h=>⟨λz=>h (by rw[z];exact .head _),λz=>h (by rw[z];exact .tail _ (.head _))⟩
 refine I.step (g':=s.gens) (d':=s.drawn) (ch:=[k,D]) (λb z=>?_) (λb o hb _ hk e _=>kk b o hb (mem b hk).1 (mem b hk).2 e) (λb o hb _ hk e _=>⟨o.slots,kk b o hb (mem b hk).1 (mem b hk).2 e⟩) (λb o hk _ n=>by rw[aI (mem b hk).2];exact n) (λb o hk e=>?_) (λb xs e=>up b _ e) (λb o u e=>up b _ e)
  (λb ps e=>⟨#[],by rw[up b _ e];simp⟩) (λm' wG=>?_) (λb v e=>?_) I.bare
 ·have:b=k\/b=D:=by
   rcases cE.mp z with q | q
   ·exact .inl q
   ·exact .inr (gw.mp q)
  obtain⟨a1,a2,a3,a4⟩:=two b this;exact⟨.inr a1,a2,a3,a4⟩
 ·by_cases hb:b=X.env.locals
  ·obtain⟨o',_,_,z,_⟩:=z8;exact⟨o',by rw[hb];exact z⟩
  ·exact⟨o,kk b o hb (mem b hk).1 (mem b hk).2 e⟩
 ·have:m' = m:=by
   obtain⟨o1,HF,HG,g1,d1,k1,z1⟩:=wG;obtain⟨o2,HJ,HK,g2,d2,k2,z2⟩:=hm;rw[g1] at g2;cases g2;rw[d1] at d2;cases d2
   funext x
   rw[← z1 x,← z2 x]
  rw[this];exact z8
 ·by_cases hb:b=D
  ·subst hb;rw[aD] at e;cases e;exact new
  ·rw[aI hb] at e;refine(I.aK b v e).jw (λc o hc e'=>?_) (λd e=>up d _ e) (λd xs e=>up d _ e);have q:∃v',H c=some v':=by
    rcases hc with z | z
    ·rw[z];exact⟨_,e⟩
    ·exact⟨_,z⟩
   obtain⟨v',q⟩:=q;exact kk c o (nl c _ q) (n1 c _ q) (n2 c _ q) e'
structure Iz(X:Cx)(pins:List (Addr×Obj))(σ:St)(H1:Hp)(P:Addr)(pos:Pos)(qual:Str)(m:Str->Option Value)(kS:Addr)(kv:Nat->Int×Int)(ks:List Value)(e:Nat)(H:Hp)(s:Shared):Prop where
 I:Inv X ((kS,seqObj "list" ks.toArray e)::pins) σ H s
 ns:s.heap.Ns X.env.locals m
 sb:SameBut P H1 H
 tab:cT P pos qual H
 ky:∀(i:Nat) (hi:i<ks.length),∃a,ks[i] = .ref a/\H a=some (.tup [.int (kv i).1,.int (kv i).2])
variable{scope:Scope}{cl:List (Str×Addr)}{ps fs:List Str}{fv:List Nat}{A:Around}{qual name:Str}{f c' P kS:Addr}{params:Arguments}{body:Expr}{te:TE}{pm e_:Value}{pos:Pos}{kv:Nat->Int×Int}{n:Nat}{H1:Hp}{m:Str->Option Value}
theorem Uy(S:nI X scope cl ps fs fv)(wK:ps.length=1)(he:∀s H,PE (zZ X A qual scope f c' cl (ps++fs) s H) body te)(hA:A.frames=some X.stack)(hd:X.calm=true->A.handled=none)(oU:A.depth<recursionLimit)(fH:X.stack=X.env::X.outer)(kg:X.env.frame=some X.env.locals)
  (hex:X.ex = []) (hf:(f,kla_obj name qual params body scope cl pm c' e_)∈pins) (hc:H1 c' = some (rR c' qual)) (wL:c'≠P) (lT:∀u,bindArgs (kla_fn name qual params body scope cl pm (.ref c') e_) ⟨[u],[]⟩=pure (ps.zip [u]))
  (rq:∀(j:Nat) (H:Hp),j<n->SameBut P H1 H->cT P pos qual H->te (rQ σ [.int (j:Int)] fv) H λv H'=>∃a,v = .ref a/\H a=none/\H' = upd H a (.tup [.int (kv j).1,.int (kv j).2]))
  (lo:X.bR.heap.objs.size<=kS) (Du:kS≠X.env.locals) (Dv:∀x c,X.env.cells.lookup x=some c->c≠kS) (Uz:∀p∈X.pn++pins,p.1≠kS)
  {Fin:List Value->Nat->Shared->Prop} (UA:∀ks e H s,Iz X pins σ H1 P pos qual m kS kv ks e H s->ks.length=n->Fin ks e s) :
  ∀(r ks:List Value) (e:Nat) (H:Hp) (s:Shared),ks.length+r.length=n->(∀(i:Nat) (x:Value),r[i]? = some x->∃t,x = .int ((ks.length+i:Nat):Int) t)->Iz X pins σ H1 P pos qual m kS kv ks e H s->KatKeys X.prog X.w A X.base X.env.locals m kS (.ref f) Fin r ks e s
 | [],ks,e,H,s,hl,_,K=>KatKeys.nil (UA ks e H s K (by simpa using hl))
 | x::r,ks,e,H,s,hl,hi,K=>by
  rw[eY] at hl;obtain⟨t,rfl⟩:=hi 0 x rfl;have pf:=K.I.pin _ (eZ _ (bW _ hf));have pk:=K.I.pin (kS,seqObj "list" ks.toArray e) (eZ _ (cA ..));have wI:s.heap.CodeRec (.ref c') qual:=aeB K.I.aK (K.sb _ _ hc wL);have hx:=rq ks.length H (by lia) K.sb K.tab
  refine KatKeys.cons (eL (aez (us:=[.int ((ks.length+0:Nat):Int) t]) (vs:=[.int (ks.length:Int)]) S K.I hA hd oU pf.1 wI (lT _) (.cons ⟨t,by simp⟩ .nil) (by simpa using wK.symm) (he s H) hx) (λu s' hq=>?_) λ_ _ z=>z)
  obtain⟨v,H',J,rv,⟨a,rfl,na,rfl⟩,un⟩:=hq;cases rv;have gW:s'.heap.Ns X.env.locals m:=by
   obtain⟨o,es,ep,eo,fP,r'⟩:=K.ns;have mem:X.env.locals∈cK X.stack:=by unfold cK;rw[fH,List.filterMap_cons,kg];exact List.mem_cons_self ..
   obtain⟨sl,q⟩:=un.slot _ o eo K.I.free mem (by simp)
   exact⟨_,es,ep,q,fP,r'⟩
  have bk:X.base.get? kS=none:=Bv (cX K.I.ok.iz lo);have Dw:=J.pin (kS,seqObj "list" ks.toArray e) (eZ _ (cA ..));refine KatBack.intro (news:=(kS,seqObj "list" ks.toArray e)::rest X.base s'.heap X.env.locals kS) (g:=λo=>(kS,o)::rest X.base s'.heap X.env.locals kS) ⟨gW,J.bk,cX J.ok.iz J.ok.above⟩ (news_at Du bk Dw.1) (.head B_) λh2 c2 F2 N2=>?_;have kept:=Cb (d:=kS) J.bk F2 λp hp=>N2 p (bW _ hp);have qu:=(N2 _ (cA ..)).1;have J1:Inv X pins σ (upd H a (.tup [.int (kv ks.length).1,.int (kv ks.length).2])) s':=J.oz λp hp=>J.pin p (eZ _ (bW _ hp));have J2:=J1.chg (tk:=s'.toks) gW F2.ns Dw.2.1 lo Du Dv Uz ⟨_,qu⟩ λb o hb hk e=>kept b o hb hk e;have aeH:∀v,(seqObj "list" (ks++[Value.ref a]).toArray c2).data≠.cell v:=λv z=>by cases z
  refine Uy S wK he hA hd oU fH kg hex hf hc wL lT rq lo Du Dv Uz UA r (ks++[.ref a]) c2 _ { s' with heap:=h2 } (by simp;lia) (λi x e=>?_) ⟨J2.oz λp hp=>?_,F2.ns,?_,?_,λi jG=>?_⟩
  ·obtain⟨t',z⟩:=hi (i+1) x (by simpa using e)
   exact⟨t',by rw[z];congr 1;simp;lia⟩
  ·rcases cE.mp hp with q | q
   ·rw[q];exact⟨qu,Dw.2.1,Du,Dw.2.2.2.1,aeH⟩
   ·exact J2.pin p (eZ _ q)
  ·intro b o e hb;have:=K.sb b o e hb;rw[aI (λz=>by rw[z,na] at this;cases this)];exact this
  ·obtain⟨eW,e1,e2,e3⟩:=K.tab;refine⟨eW,by rw[aI (λz=>by rw[z,na] at e1;cases e1)];exact e1,e2,e3.imp id λ⟨c2,z1,z2⟩=>⟨c2,z1,by rw[aI (λz=>by rw[z,na] at z2;cases z2)];exact z2⟩⟩
  ·by_cases cF:i<ks.length
   ·obtain⟨a',z1,z2⟩:=K.ky i cF;exact⟨a',by rw[Ge cF];exact z1,by rw[aI (λz=>by rw[z,na] at z2;cases z2)];exact z2⟩
   ·have e:i=ks.length:=by simp at jG;lia
    subst e;exact⟨a,by simp,aD⟩
theorem UB{h:Heap}:∀ {ks:List Value} {z9:List (Int×Int)},Dp h ks z9->∃fs,KatTups h ks fs/\fs.length=ks.length/\∀v∈fs,∃d t,v = .int d t
 | [],z9,_=>⟨[],trivial,rfl,λv z=>nomatch z⟩
 | k::ks,[],p=>absurd p.1 (by simp)
 | k::ks,q::z9,p=>by
  obtain⟨a,ea,o,t,u,n,e1,e2,e3⟩:=p.2 0 (by simp)
  have ea:k = .ref a:=by simpa using ea
  subst ea;obtain⟨fs,h1,h2,h3⟩:=UB (ks:=ks) (z9:=z9) ⟨by have:=p.1;simpa using this,λi hi=>by
   obtain⟨b,z1,z2⟩:=p.2 (i+1) (by simpa using hi)
   exact⟨b,by simpa using z1,by simpa using z2⟩⟩
  refine⟨.int _ t::fs,.cons e1 e2 e3 rfl h1,by simp[h2],λv hv=>?_⟩
  rcases cE.mp hv with z | z
  ·exact⟨_,_,z⟩
  ·exact h3 v z
def nJ(kv:Nat->Int×Int)(n:Nat)(is:List Nat):Prop:=is.Perm (List.range n)/\∀i j,i<j->j<n->(kv (is.getD i 0)).1*64+(kv (is.getD i 0)).2<(kv (is.getD j 0)).1*64+(kv (is.getD j 0)).2
theorem aeI{Q:VK}{rg:Addr}{t u v:Tok}(S:nI X scope cl ps fs fv)(wK:ps.length=1)(he:∀s H,PE (zZ X X.A.in1.in1 qual scope f c' cl (ps++fs) s H) body te)(IA:X.calm=true)(oU:X.A.in1.in1.depth<recursionLimit)(fH:X.stack=X.env::X.outer)(kg:X.env.frame=some X.env.locals)
  (hex:X.ex = []) (I:Inv X ((f,kla_obj name qual params body scope cl pm c' e_)::pins) σ H s) (hc:H c' = some (rR c' qual)) (wL:c'≠P) (tab:cT P pos qual H) (lT:∀u,bindArgs (kla_fn name qual params body scope cl pm (.ref c') e_) ⟨[u],[]⟩=pure (ps.zip [u]))
  (hr:IsRange s.heap rg 0 (n:Int) 1 t u v) (h2:2<=n) (kR:n<64) (hb:∀j,j<n->0<=(kv j).2/\(kv j).2<64) (IB:∀i j,i<n->j<n->kv i=kv j->i=j)
  (rq:∀(j:Nat) (H2:Hp),j<n->SameBut P H H2->cT P pos qual H2->te (rQ σ [.int (j:Int)] fv) H2 λv H'=>∃a,v = .ref a/\H2 a=none/\H' = upd H2 a (.tup [.int (kv j).1,.int (kv j).2]))
  (q:∀(D:Addr) (is:List Nat) (H':Hp),SameBut P H H'->cT P pos qual H'->H D=none->H' D=none->nJ kv n is->Q (.ref D) (upd H' D (.lst (is.map λ(i:Nat)=>V.int (i:Int))))) :
  wpAny (model X.prog X.w) X.A (call (.builtin "sorted") [.ref rg] [(Str.ofString "key",.ref f)]) (EP X pins σ Q) X.xe s:=by
 have UC:=I.ok.hd IA;refine call_function_entry_kw kind_sorted plain_sorted entry_sorted (ksk_s1 _ _) ?_;unfold Builtin.«sorted»;refine aM (m:=checkCount "sorted" 1 1 _) (bL ?_);refine aM (aeF (A:=X.A.in1) UC hr kR λh1 z_ vs k1 sz len items=>?_);refine aM (wpAny_newList ?_ (by rw[xX];lia))
 obtain⟨m,hm,aoO⟩:=I.loc;have oD:(h1.push (seqObj "list" vs.toArray 0)).get? h1.objs.size=some (seqObj "list" vs.toArray 0):=fU _ rfl;have k2:∀b o,s.heap.get? b=some o->(h1.push (seqObj "list" vs.toArray 0)).get? b=some o:=λb o e=>dg _ (k1 b o e);have I1:=I.kept (t':=z_) k2;have Dy:X.bR.heap.objs.size<=h1.objs.size:=cX I.sz (jR sz);have DL:h1.objs.size≠X.env.locals:=pU (kH I.lt sz);have nD:H h1.objs.size=none:=I.aK.fresh (jR sz);have old:∀b o,s.heap.get? b=some o->b<h1.objs.size:=λb o e=>kH (cD e) sz;have bD:X.base.get? h1.objs.size=none:=Bv (cX I.ok.iz Dy);have uw:(h1.push (seqObj "list" vs.toArray 0)).Ns X.env.locals m:=hm.keeps k2;have above:X.base.objs.size<=X.env.locals:=cX I.ok.iz I.ok.above
 show wpAny _ _ _ _ _ { s with heap:=h1.push (seqObj "list" vs.toArray 0),toks:=z_ };refine aM (pW (wpAny_call_entry_kw slot_list_sort ⟨_,oD,rfl⟩ entry_list_sort ?body (ksk_l1 _ _)))
 case body =>
  show wpAny (model X.prog X.w) X.A.in1.in1 (Builtin.«list.sort» ⟨[.ref h1.objs.size],[(Str.ofString "key",.ref f)]⟩) _ _ _;rw[ksk_t1];refine kat_keyed (s:={ s with heap:=h1.push (seqObj "list" vs.toArray 0),toks:=z_ }) (h₀:=X.base) (L:=X.env.locals) (m:=m) (news:=rest X.base (h1.push (seqObj "list" vs.toArray 0)) X.env.locals h1.objs.size) ⟨uw,I1.bk,above⟩ (λp hp=>Ca p (fF.mp hp).1) oD DL bD B_ (by lia) (by lia) λkS e1 h' F' N' l0 l1=>?_
  have aeJ:=Cb (d:=h1.objs.size) I1.bk F' λp hp=>N' p (bW _ (bW _ hp));have okS:=N' _ (cA ..);have UD:=N' _ (bW _ (cA ..));have IC:X.bR.heap.objs.size<=kS:=cX Dy (jR l0);have Dz:∀x c,X.env.cells.lookup x=some c->c<h1.objs.size:=λx c e=>by
   obtain⟨v,o,z,_⟩:=I.cell x c e;exact old _ _ z
  have DA:∀p∈X.pn++((f,kla_obj name qual params body scope cl pm c' e_)::pins),p.1<h1.objs.size:=λp hp=>old _ _ (I.pin p hp).1;have UE:X.env.locals<h1.objs.size:=kH I.lt sz;have I2:=I1.chg (tk:=z_) uw F'.ns nD Dy DL (λx c e=>dD (Dz x c e)) (λp hp=>dD (DA p hp)) ⟨_,UD.1⟩ aeJ;have nS:H kS=none:=I.aK.fresh (jR (kH sz l0));have UG:∀b,s.heap.objs.size<=b->b∉X.fs:=λb hb=>I.x9 hb;have UH:∀(a:Array Value) (e:Nat) v,(seqObj "list" a e).data≠.cell v:=λa e v z=>by cases z
  have K0:Iz X ((h1.objs.size,seqObj "list" #[] e1)::(f,kla_obj name qual params body scope cl pm c' e_)::pins) σ H P pos qual m kS kv [] 0 H { s with heap:=h',toks:=z_ }:=by
   refine⟨I2.oz λp hp=>?_,F'.ns,λb o e _=>e,tab,λi hi=>absurd hi (by simp)⟩
   rcases cE.mp hp with z | hp
   ·rw[z];exact⟨okS.1,nS,pU (kH UE l0),UG _ (jR (kH sz l0)),UH _ _⟩
   ·rcases cE.mp hp with z | hp
    ·rw[z];exact⟨UD.1,nD,DL,UG _ (jR sz),UH _ _⟩
    ·exact I2.pin p (eZ _ hp)
  have aeK:∀p∈X.pn++((h1.objs.size,seqObj "list" #[] e1)::(f,kla_obj name qual params body scope cl pm c' e_)::pins),p.1≠kS:=λp hp=>by
   rcases fM.mp hp with hp | hp
   ·exact dD (kH (DA p (pQ _ hp)) l0)
   ·rcases cE.mp hp with z | hp
    ·rw[z];exact dD l0
    ·exact dD (kH (DA p (eZ _ hp)) l0)
  have SL:kS≠X.env.locals:=pU (kH UE l0);refine Uy (n:=n) (pins:=(h1.objs.size,seqObj "list" #[] e1)::(f,kla_obj name qual params body scope cl pm c' e_)::pins) S wK he I.ok.frames (λ_=>UC) oU fH kg hex (bW _ (cA ..)) hc wL lT rq IC SL
   (λx c e=>dD (kH (Dz x c e) l0)) aeK (λks e H3 s3 K hl=>?_) vs [] 0 H _ (by simpa using len) (λi x e=>by simpa using items i x e) K0
  have UI:Dp s3.heap ks ((List.range n).map kv):=by
   refine⟨by simp[hl],λi hi=>?_⟩
   have jG:i<ks.length:=by simp at hi;lia
   obtain⟨a,z1,z2⟩:=K.ky i jG;obtain⟨aB,r1,q1,_⟩:=K.I.tuple (aL.of (K:=X.K) z2);cases r1 with
   | cons w1 r1 =>
   cases r1 with
   | cons w2 r1 =>
   cases r1;obtain⟨t1,rfl⟩:=w1;obtain⟨t2,rfl⟩:=w2;obtain⟨o,e1,e2,n1,e3⟩:=q1;exact⟨a,by simp[jG,z1],o,t1,t2,n1,e1,e2,by simpa using e3⟩
  obtain⟨RD,t1,t2,t3⟩:=UB UI;refine kat_kind (T:=.type "int") t1 (by lia) (λv hv=>?_) (by decide) ?_
  ·obtain⟨d,tt,rfl⟩:=t3 v hv;exact .now
  ·rw[show (Value.type "int" != Value.type "tuple")=true by decide]
   show (kas_sort vs.length).kasWp (kas_ask X.prog X.w X.A.in1.in1 (tuples' true) ks) _ s3;rw[len,show n=((List.range n).map kv).length by simp]
   refine aev (by simp;lia) UI (λq' hq=>?_) ?_ λp hp aeL=>?_
   ·obtain⟨j,hj,rfl⟩:=fG.mp hq;exact hb j (gT.mp hj)
   ·rw[Gk,Gp];exact List.Pairwise.imp_of_mem (λha jD fX heq=>fX (IB _ _ (gT.mp ha) (gT.mp jD) heq)) BK
   ·have bS:X.base.get? kS=none:=Bv (cX I.ok.iz IC);have pk:=K.I.pin (kS,seqObj "list" ks.toArray e) (eZ _ (cA ..));have pd:=K.I.pin (h1.objs.size,seqObj "list" #[] e1) (eZ _ (bW _ (cA ..)));refine KatFin.intro (news:=(kS,seqObj "list" ks.toArray e)::rest X.base s3.heap X.env.locals kS) (g:=λo=>(kS,o)::rest X.base s3.heap X.env.locals kS) ⟨K.ns,K.I.bk,above⟩ (news_at SL bS pk.1) (.head B_) λh4 c4 F4 N4=>?_;have UJ:=Cb (d:=kS) K.I.bk F4 λp hp=>N4 p (bW _ hp);have oD4:=UJ _ _ DL (dD l0) pd.1;refine KasFin.intro (news:=(h1.objs.size,seqObj "list" #[] e1)::rest X.base h4 X.env.locals h1.objs.size) (g:=λo=>(h1.objs.size,o)::rest X.base h4 X.env.locals h1.objs.size) F4 (news_at DL bD oD4) (.head B_) λh5 c5 F5 N5=>?_;have bk4:∀b o,X.base.get? b=some o->h4.get? b=some o:=F4.keep;have aeM:=Cb (d:=h1.objs.size) bk4 F5 λp hp=>N5 p (bW _ hp);have oD5:=(N5 _ (cA ..)).1;refine⟨_,rfl,bL ⟨_,rfl,?_⟩⟩;have ID:p.toList.Perm (List.range n):=by
     have:=hp.toList;simpa using this
    have UK:∀i∈p.toList,i<n:=λi hi=>gT.mp (ID.mem_iff.mp hi);have isL:p.toList.length=n:=by simpa using ID.length_eq
    have gd:∀i,i<n->p.getD i 0=p.toList.getD i 0/\p.toList.getD i 0<n:=λi hi=>by
     have c_:i<p.toList.length:=by lia
     have e:p.toList.getD i 0=p.toList[i]:=by rw[kF,aX c_];rfl
     exact⟨by rw[xH,kF,xJ],by rw[e];exact UK _ (cO c_)⟩
    have UL:∀k,k<n->lX ((List.range n).map kv) k=(kv k).1*64+(kv k).2:=λk hk=>by
     unfold lX;have:((List.range n).map kv).getD k (0,0)=kv k:=by simp[hk]
     rw[this]
    have asc:nJ kv n p.toList:=⟨ID,λi j h1 h2=>by
     have:=aeL i j h1 (by simpa using h2)
     rw[(gd i (by lia)).1,(gd j h2).1,UL _ (gd i (by lia)).2,UL _ (gd j h2).2] at this
     exact this⟩
    have vals:∀l:List Nat,(∀i∈l,i<n)->Vals (l.map λ(i:Nat)=>V.int (i:Int)) (l.map λi=>vs.getD i Value.none):=by
     intro l
     induction l with
     | nil=>intro _;exact .nil
     | cons i l ih =>
      intro rE;have hi:i<vs.length:=by rw[len];exact rE i (cA ..)
      obtain⟨t5,e5⟩:=items i vs[i] (aX hi);refine .cons ⟨t5,?_⟩ (ih λk hk=>rE k (bW _ hk));rw[← e5];simp[hi]
    refine⟨.ref h1.objs.size,_,(K.I.oz (GG:=pins) λp hp=>K.I.pin p (eZ _ (bW _ (bW _ (bW _ hp))))).aeG (tk:=s3.toks) (xs:=p.toList.map λ(i:Nat)=>V.int (i:Int)) K.ns F5.ns pk.2.1 pd.2.1 (λb kX=>?_)
     (λb o hL hS hD e=>aeM b o hL hD (UJ b o hL hS e)) ⟨by rw[aR,isL,xX];lia,_,c5,vals p.toList UK,oD5⟩,rfl,q _ p.toList H3 K.sb K.tab nD pd.2.1 asc⟩
    have sub:∀p∈X.pn++pins,p.1<h1.objs.size:=λp hp=>DA p (by
     rcases fM.mp hp with z | z
     ·exact pQ _ z
     ·exact eZ _ (bW _ z))
    rcases kX with z | z
    ·rw[z];exact⟨IC,SL,λx c e=>dD (kH (Dz x c e) l0),λp hp=>dD (kH (sub p hp) l0)⟩
    ·rw[z];exact⟨Dy,DL,λx c e=>dD (Dz x c e),λp hp=>dD (sub p hp)⟩
theorem SameBut.trans{H H1 H2:Hp}{x:Addr}(a:SameBut x H H1)(b:SameBut x H1 H2):SameBut x H H2:=λc o e h=>b c o (a c o e h) h
def UM(P:Addr)(pos:Pos)(qual:Str)(te:TE)(fv:List Nat)(ta:TA):TE:=λσ H Q=>ta σ H λvs H1=>∃(n:Nat) (kv:Nat->Int×Int),vs = [.int (n:Int)]/\2<=n/\n<64/\(∀j,j<n->0<=(kv j).2/\(kv j).2<64)/\(∀i j,i<n->j<n->kv i=kv j->i=j)/\cT P pos qual H1/\
 (∀(j:Nat) (H2:Hp),j<n->SameBut P H1 H2->cT P pos qual H2->te (rQ σ [.int (j:Int)] fv) H2 λv H'=>∃a,v = .ref a/\H2 a=none/\H' = upd H2 a (.tup [.int (kv j).1,.int (kv j).2]))/\
 ∀(D:Addr) (is:List Nat) (H':Hp),SameBut P H1 H'->cT P pos qual H'->H1 D=none->H' D=none->nJ kv n is->Q (.ref D) (upd H' D (.lst (is.map λ(i:Nat)=>V.int (i:Int))))
theorem aeN{c:Addr}{e:Expr}{ta:TA}{p1 p2 p3 p4 kp:Pos}(hgS:Gl X "sorted")(hmS:X.mg "sorted" = none)(hgR:Gl X "range")(hmR:X.mg "range" = none)(B:bE X.mg X.base c P)(wI:X.env.code = .ref c)(S:nI X scope cl ps fs fv)(wK:ps.length=1)
  (aeO:defaultsOf params X.env=([],[])) (hq:X.env.qual ++ "<lambda>" = qual) (lT:∀c' pm e_ u,bindArgs (kla_fn "<lambda>" qual params body scope cl pm (.ref c') e_) ⟨[u],[]⟩=pure (ps.zip [u]))
  (he:∀f c' s H,PE (zZ X X.A.in1.in1 qual scope f c' cl (ps++fs) s H) body te) (IA:X.calm=true) (oU:X.A.in1.in1.depth<recursionLimit) (fH:X.stack=X.env::X.outer) (kg:X.env.frame=some X.env.locals) (hex:X.ex = []) (ha:PA X [e] ta)
  (hs:starEach [e] X.env = [(false,eval e X.env)]:=by rfl) (gQ:starEach [.Call (.Name "range" p2) [e] [] p3] X.env = [(false,eval (.Call (.Name "range" p2) [e] [] p3) X.env)]:=by rfl) :
  PE X (.Call (.Name "sorted" p1) [.Call (.Name "range" p2) [e] [] p3] [⟨some "key",.Lambda params body scope pos,kp⟩] p4) (UM P pos qual te fv ta):=by
 intro pins s σ H Q I h;refine vn (qY I hgS hmS boot_sorted (callWith_kw ?_));rw[gQ];refine FW ?_;refine Call_ (qY I hgR hmR boot_range (xR (aW (ha p3 pins s σ H _ I h) λus s1 ⟨vs,H1,I1,r1,q1⟩=>?_) (by rw[hs];rfl) (by rfl)))
 obtain⟨n,kv,e,h2,kR,hb,IB,tab,rq,q⟩:=q1;subst e;obtain⟨u,rfl,ru⟩:=vals1 r1;obtain⟨t,rfl⟩:=ru;refine call_range_1 ?_;refine FY ?_;refine kws_cons (kla_eval aeO ?_);rw[hq];have k1:∀b o,s1.heap.get? b=some o->(s1.heap.push { cls:=.type "range",data:=.fields #[.int 0 s1.toks,.int (n:Int) t,.int 1 (s1.toks+1)] }).get? b=some o:=λb o e=>dg _ e;have I2:Inv X ((s1.heap.objs.size,{ cls:=.type "range",data:=.fields #[.int 0 s1.toks,.int (n:Int) t,.int 1 (s1.toks+1)] })::pins) σ H1 { s1 with heap:=s1.heap.push { cls:=.type "range",data:=.fields #[.int 0 s1.toks,.int (n:Int) t,.int 1 (s1.toks+1)] },toks:=s1.toks+1+1 }:=by
  refine(I1.kept k1).oz λp hp=>?_;rcases cE.mp hp with z | hp
  ·rw[z];exact⟨fU _ rfl,I1.aK.fresh (bH _),pU I1.lt,I1.x9 (bH _),λv z=>by cases z⟩
  ·exact(I1.kept (t':=s1.toks+1+1) k1).pin p (eZ _ hp)
 refine aeC B wI S.oR I2 tab λf c' e_ pm H' s' J sb wM hc=>kws_nil ?_;have wL:c'≠P:=by
  obtain⟨eW,z,_⟩:=wM;exact iZ hc z (by intro y;cases y)
 refine eL (aeI (n:=n) (kv:=kv) S wK (he f c') IA oU fH kg hex J hc wL wM (lT c' pm e_) (J.pin _ (eZ _ (bW _ (cA ..)))).1 h2 kR hb IB (λj H2 hj ux IE=>rq j H2 hj (sb.trans ux) IE)
  (λD is H2 ux IE n1 n2 ho=>q D is H2 (sb.trans ux) IE ?_ n2 ho)) (λv vO z=>?_) (λ_ _ z=>z)
 ·cases z:H1 D with
  | none=>rfl
  | some o =>
   by_cases hD:D=P
   ·obtain⟨eW,z2,_⟩:=wM;rw[hD,z2] at n1;cases n1
   ·rw[sb _ _ z hD] at n1;cases n1
 ·obtain⟨v',H'',K,rv,qv⟩:=z;exact⟨v',H'',K.oz λp hp=>K.pin p (eZ _ (bW _ hp)),rv,qv⟩
end
theorem aeP{P:Program}{w:World}{K:W.Frag}{mg mb:Str->Option Value}{k:Nat}{fa a:Addr}{fd:FuncData}{x:Str}{sp:Sp}{bq:Shared}{vs:List Value}{ns:List Int}{tabs:List (Addr×Addr)}
  (KX:K.In bq.heap) (mY:bq.heap.Ns mainGlobals mg) (hb:bq.heap.Ns builtinsNs mb) (Hw:∀x:Str,x≠"__name__"->mb x=bootBuiltins x) (Hx:bq.heap.NoLimit) (hg:bq.gens = #[])
  (ha:bq.heap.get? a=some { cls:=.type "list",data:=.seq vs.toArray }) (hi:IntsAre vs ns) (hl:ns.length<=sizeLine) (hr:c7 k callerA)
  (hT:TabsAt tabs bq.heap) (Aa:noTabs K=true) (bm:∃bm ob,mg "__builtins__" = some (.ref bm)/\bm≠builtinsNs/\bq.heap.get? bm=some ob/\ob.cls = .type "module"/\ob.dict=some builtinsNs/\ob.data = .plain)
  (F:∀base:Heap,K.In base->base.Ns mainGlobals mg->(∀q∈tabs,bE mg base q.1 q.2)->a_ P w K mg base bx k fa fd [x] sp) (lT:∀(s:Shared) (u:Value),BindsTo s fd ⟨[u],[]⟩ [(x,u)])
  (dQ:∀H:Hp,(∀q∈tabs,H q.2=some (.fO #[]))->az K H a (ns.map V.int)->sp [.ref a] H (λv _=>v = .bl true) λ_ _ _=>False) :
  codeAny (model P w) callerA (.call (.ref fa) ⟨[.ref a],[]⟩) (λr s'=>r = .ok (.ret (.bool true))/\OldK bq.heap s'.heap/\s'.os=bq.os/\AllBare s'.gens) bq:=by
 have rv:=zC hi;have Hz:=hi.length;have uy:∀b,b∈tabs.map (·.2)->bq.heap.get? b=some (tabObj #[])/\isCodeTable bq.heap b:=λb hb=>by
  obtain⟨q,hq,rfl⟩:=fG.mp hb;exact⟨(hT q hq).2,((hT q hq).1.tab (hT q hq).2).isCodeTable⟩
 have aT:a∉tabs.map (·.2):=λhb=>by
  have:=(uy a hb).1;rw[ha] at this;cases this
 have core:∀H:Hp,(∀b u,H b=some u->(b=a/\∃o xs,u = .iP o (.lst xs))\/(b∈tabs.map (·.2)/\u = .fO #[]))->(∀q∈tabs,H q.2=some (.fO #[]))->az K H a (ns.map V.int)->cQ P w H bq.heap->(H a≠none->K.lookup a=none)->
   codeAny (model P w) callerA (.call (.ref fa) ⟨[.ref a],[]⟩) (λr s'=>r = .ok (.ret (.bool true))/\OldK bq.heap s'.heap/\s'.os=bq.os/\AllBare s'.gens) bq:=by
  intro H hO IF hS aK hK;have uf:∀ {b:Addr} {o:Obj},bq.heap.get? b=some o->H b=none->(jx bq.heap H).get? b=some o:=λe n=>RG e n;have free:∀ {b:Addr} {o:Obj},bq.heap.get? b=some o->(b≠a)->o≠tabObj #[]->H b=none:=λ{b o} e n1 n2=>by
   cases q:H b with
   | none=>rfl
   | some u =>
    rcases hO b u q with⟨z,_⟩ | ⟨z,_⟩
    ·exact absurd z n1
    ·have:=(uy b z).1;rw[e] at this;exact absurd (dh this) n2
  have UN:∀ {b:Addr} {o:Obj},bq.heap.get? b=some o->o.cls≠.type "list"->b≠a:=λ{b o} e n z=>by
   rw[z,ha] at e;cases e;exact n rfl
  have aeQ:∀ {b:Addr} {o:Obj} {es:Array DictEntry} {ep:Nat},bq.heap.get? b=some o->o.data = .dict es ep->b≠a:=λ{b o es ep} e d z=>by
   rw[z,ha] at e;cases e;cases d
  have qi:∀ {b:Addr} {m:Str->Option Value},bq.heap.Ns b m->(jx bq.heap H).Ns b m:=λ{b m} ⟨o,es,ep,e,d,r⟩=>⟨o,es,ep,uf e (free e (aeQ e d) (λz=>by rw[z] at d;cases d)),d,r⟩
  have zD:K.In (jx bq.heap H):=λb o e=>uf (KX b o e) (by
   cases q:H b with
   | none=>rfl
   | some u =>
    rcases hO b u q with⟨z,_⟩ | ⟨z,_⟩
    ·subst z;rw[hK (by rw[q];simp)] at e;cases e
    ·have e2:=KX b o e;rw[(uy b z).1] at e2;have h2:=pN.mp Aa (b,o) (mem_of_lookupK e);cases e2;exact absurd (show false=true from h2) eS)
  have hM:Mod K mg (jx bq.heap H):=⟨zD,qi mY,⟨mb,qi hb,Hw⟩,let ⟨mc,h1,h2⟩:=Hx;⟨mc,qi h1,h2⟩⟩
  have hL:∀q∈tabs,bE mg (jx bq.heap H) q.1 q.2:=λq hq=>by
   obtain⟨b,ob,b1,b2,b3,b4,b5,b6⟩:=bm;obtain⟨o,vs',file,tf,flags,tg,inF,text,tt,e1,r1,r2⟩:=(hT q hq).1;refine⟨⟨o,vs',file,tf,flags,tg,inF,text,tt,uf e1 (free e1 (UN e1 (by rw[r1];intro z;injection z with z;exact absurd z (by decide))) (λz=>by rw[z] at r1;cases r1)),r1,r2⟩,b,ob,b1,b2,uf b3 (free b3 (UN b3 (by rw[b4];intro z;injection z with z;exact absurd z (by decide))) (λz=>by rw[z] at b4;cases b4)),b4,b5,b6⟩
  have e0:rz P w K mg (jx bq.heap H) callerA [] bq H:=⟨rfl,hM,λb o e=>RH e,BO (RE _ _),trivial,λb hb=>absurd (show b∈([]:List Addr) from hb) (by simp),aK,.of_eq hg⟩
  refine xW ((F _ zD (qi mY) hL).run callerA [] bq H ⟨[.ref a],[]⟩ [.ref a] [.ref a] _ _ hr e0 (lT bq (.ref a)) (.cons rfl .nil) (dQ H IF hS)) λr s' h=>?_;cases r with
  | error e=>exact False.elim h
  | ok fl =>
   cases fl with
   | next=>exact False.elim h
   | brk=>exact False.elim h
   | cont=>exact False.elim h
   | ret u =>
    obtain⟨v,H',os,bare,un,CN,r',q⟩:=h;have q':v = .bl true:=q;subst q';obtain rfl:u=Value.bool true:=r';have noS:∀b:Addr,b∉cK ([]:List Env):=λb z=>absurd (show b∈([]:List Addr) from z) (by simp)
    have all:∀b o,bq.heap.get? b=some o->asItWas bq.heap s'.heap b o/\∃o',s'.heap.get? b=some o':=λb o e=>by
     cases q:H b with
     | none =>
      have:=un.keep b o e q (noS b) (by simp)
      exact⟨.inl this,o,this⟩
     | some u =>
      rcases hO b u q with⟨z,ob,xs,rfl⟩ | ⟨z,rfl⟩
      ·have z2:=un.jT b ob _ q;obtain⟨e1,_⟩:=aK b _ q;obtain⟨e2,_⟩:=CN b _ z2;rw[e] at e1;cases e1;exact⟨.inl e2,_,e2⟩
      ·obtain⟨more,z2⟩:=un.kK b _ q;have e1:=(uy b z).1;rw[e] at e1;cases e1;have e2:s'.heap.get? b=some { cls:=.none,data:=.fields (#[]++more)}:=CN b _ z2;exact⟨.inr (.inl ⟨(uy b z).2,rfl,#[],more,rfl,e2⟩),_,e2⟩
    exact⟨rfl,⟨λb o e=>(all b o e).1,λb o e=>(all b o e).2⟩,os,bare⟩
 have tq:∀q∈tabs,q.2∈tabs.map (·.2):=λq hq=>vh hq;cases hk:K.lookup a with
 | some o =>
  have e:=KX a o hk;rw[ha] at e;cases e;refine core (λb=>if b∈tabs.map (·.2) then some (.fO #[]) else none) (λb u z=>?_) (λq hq=>if_pos (tq q hq)) (.inr ⟨_,vs.toArray,_,hk,rfl,rfl,rfl,by rw[f9,Hz];exact hl,by simpa using rv⟩) (λb u z=>?_) (λz=>absurd (if_neg aT) z)
  ·by_cases hb:b∈tabs.map (·.2)
   ·have z':=(if_pos hb).symm.trans z;cases z';exact .inr ⟨hb,rfl⟩
   ·have z':=(if_neg hb).symm.trans z;cases z'
  ·by_cases hb:b∈tabs.map (·.2)
   ·have z':=(if_pos hb).symm.trans z;cases z';exact(uy b hb).1
   ·have z':=(if_neg hb).symm.trans z;cases z'
 | none =>
  refine core (λb=>if b=a then some (.iP { cls:=.type "list",data:=.seq vs.toArray } (.lst (ns.map V.int))) else if b∈tabs.map (·.2) then some (.fO #[]) else none) (λb u z=>?_) (λq hq=>?_) (.inl (.inr ⟨{ cls:=.type "list",data:=.seq vs.toArray },if_pos rfl⟩)) (λb u z=>?_) λ_=>hk
  ·by_cases hb:b=a
   ·have z':=(if_pos hb).symm.trans z;cases z';exact .inl ⟨hb,_,_,rfl⟩
   ·have z':=(if_neg hb).symm.trans z;by_cases kX:b∈tabs.map (·.2)
    ·have z2:=(if_pos kX).symm.trans z';cases z2;exact .inr ⟨kX,rfl⟩
    ·have z2:=(if_neg kX).symm.trans z';cases z2
  ·have ne:q.2≠a:=λz=>aT (by rw[← z];exact tq q hq)
   exact(if_neg ne).trans (if_pos (tq q hq))
  ·by_cases hb:b=a
   ·have z':=(if_pos hb).symm.trans z;cases z';subst hb;exact⟨ha,by rw[aR];exact hl,vs,_,rv,ha⟩
   ·have z':=(if_neg hb).symm.trans z;by_cases kX:b∈tabs.map (·.2)
    ·have z2:=(if_pos kX).symm.trans z';cases z2;exact(uy b kX).1
    ·have z2:=(if_neg kX).symm.trans z';cases z2
theorem nI.of{X:Cx}{scope:Scope}{cl:List (Str×Addr)}{ps fs:List Str}{fv:List Nat}(oR:closureFor scope X.env=pure cl)(kind:scope.kind = .function)(co:scope.isCoroutine=false)(gen:scope.isGenerator=false)
  (z7:(scope.names.all λy=>y.2 != .cell)=true) (par:(ps.all λy=>scope.names.lookup y == some .local)=true) (sub:AllP (λp:Str×Addr=>X.env.cells.lookup p.1=some p.2) cl) (has:(scope.names.all λy=>y.2 != .free || (cl.lookup y.1).isSome)=true)
  (free:fv.map (λj=>X.N[j]?)=fs.map some) (fk:(fs.all λy=>scope.names.lookup y == some .free && X.env.scope.names.lookup y == some .cell)=true) (nd:(ps++fs).Nodup):nI X scope cl ps fs fv where
 oR:=oR
 kind:=kind
 co:=co
 gen:=gen
 z7:=λy hy=>by have:=pN.mp z7 y hy;simpa using this
 par:=λy hy=>by have:=pN.mp par y hy;simpa using this
 sub:=sub.mem
 has:=λy hy hl=>by
  have:=pN.mp has y hy;rw[hl] at this;exact qT.mp (by simpa only[bne_self_eq_false,Bool.false_or] using this)
 free:=free
 fk:=λy hy=>by have:=pN.mp fk y hy;simpa using this
 nd:=nd
theorem c9.okC{P:Program}{w:World}{K:W.Frag}{mg:Str->Option Value}{base:Heap}{x qual:Str}{st:Stmt}{f:Addr}{fd:FuncData}{N ps:List Str}{k:Nat}{sp:Sp}(F:c9 K x qual st f fd)(S:bA N ps (aV st))(len:∀vs H Q E,sp vs H Q E->vs.length=ps.length)
  (qd:∀(A:Around) (outer:List Env) (s:Shared) (H:Hp) (vs:List V) (Q:VK) (E:XK),c7 k (A.deeper (envOfC qual (aV st) s.heap.objs.size f fd.code))->sp vs H Q E->
   ∃t,gB (i8 bx P w K mg base N qual (aV st) f fd.code A outer s H E).p_ (fQ st) t/\t { nx:=λ_ H'=>Q .aO H',rt:=Q } (start N vs) H):a_ P w K mg base bx (k+1) f fd ps sp:=by
 obtain⟨oc,od,kV,doc,pm,an,aP,ct,i9,rfl,lk,dN⟩:=F.ex;refine Cy lk dN S len λA outer s H vs Q E hr dQ=>?_;obtain⟨t,h,q⟩:=qd A outer s H vs Q E hr dQ;exact⟨t,h.p_,q⟩
theorem aeR{l:PySem.W.OpenLaw}{n k:Nat}{q:Program}{loose:List Str}{XP:(Str->Option Value)->Heap->Prop}{YP:World->Heap->Prop}{d:DefRec}{K:Params->W.Frag}{sp:World->List (Addr×Addr)->Sp}{x:Str}
  (hn:l.most=some n) (vK:n<=sizeLine) (ue:d.params.defaults = []) (hr:c7 k callerA)
  (hY:∀(w:World) (h:Heap),YP w h->(K w.params).In h) (Aa:∀w:World,noTabs (K w.params)=true)
  (F:∀(w:World) (mg:Str->Option Value) (fa:Addr) (h:Heap),YP w h->(K w.params).In h->h.Ns mainGlobals mg->mg d.name=some (.ref fa)->
   ∃(fd:FuncData) (tabs:List (Addr×Addr)),(∀(s:Shared) (u:Value),BindsTo s fd ⟨[u],[]⟩ [(x,u)])/\TabsAt tabs h/\
    ∀base:Heap,(K w.params).In base->base.Ns mainGlobals mg->(∀q∈tabs,bE mg base q.1 q.2)->a_ l.prog w (K w.params) mg base bx k fa fd [x] (sp w tabs))
  (dQ:∀(w:World) (tabs:List (Addr×Addr)) (H:Hp) (a:Addr) (ns:List Int),ns.length<=n->(∀q∈tabs,H q.2=some (.fO #[]))->az (K w.params) H a (ns.map V.int)->sp w tabs [.ref a] H (λv _=>v = .bl true) λ_ _ _=>False) :
  PySem.W.WalkO q loose XP YP l.row.toRowW d [] (λf vs=>PySem.call f vs):=by
 refine Hu.SV hn ue λw bR bq mg mb fa o pm cd doc a vs ns G Y ho hd dN hmg zB hints hlen hg=>?_;have KX:=hY w _ Y;obtain⟨fd,tabs,hb,hT,hF⟩:=F w mg fa _ Y KX G.T.g hmg;exact aeP KX G.T.g G.T.b G.T.builtins G.T.nolimit hg zB hints (cX hlen vK) hr hT (Aa w) G.T.bmain hF hb λH IF hS=>dQ w tabs H a ns hlen IF hS
noncomputable def qw(s:Stmt):Pos:=match fQ s with
 | [.Return (some (.Call _ _ [⟨_,.Lambda _ _ _ pos,_⟩] _)) _]=>pos
 | _=>⟨0,0,0,0⟩
noncomputable def qx(x:Str):Str:=x ++ ".<locals>." ++ "<lambda>"
noncomputable def kj(r:Int)(j:Nat):Int×Int:=(((j:Int) - r).natAbs,j)
def aeS(P:Addr)(pos:Pos)(qual:Str):Sp:=λvs H Q _=>∃(r:Int) (n:Nat),vs = [.int r,.int (n:Int)]/\2<=n/\n<64/\cT P pos qual H/\
 ∀(l:Addr) (is:List Nat) (H':Hp),SameBut P H H'->cT P pos qual H'->H l=none->H' l=none->nJ (kj r) n is->Q (.ref l) (upd H' l (.lst (is.map λ(i:Nat)=>V.int (i:Int))))
end _L
namespace _L
open PySem PySem.Spec PyProof.Rows
noncomputable def ji(i:Nat):Nat:=(reduceHash (Builtin.Tuple.tupleHashOf [hashInt ((i / 60:Nat):Int),hashInt ((i % 60:Nat):Int)]) % 524291).toNat
noncomputable def DB:Nat->Nat->Bool
 | 0,_=>true
 | n+1,acc=>(Nat.land acc (Nat.shiftLeft 1 (ji n)) == 0) && DB n (Nat.lor acc (Nat.shiftLeft 1 (ji n)))
theorem UO:∀(n acc:Nat),DB n acc=true->(∀i,i<n->acc.testBit (ji i)=false)/\∀i j,i<n->j<n->ji i=ji j->i=j
 | 0,_,_=>⟨λ_ h=>absurd h (by lia),λ_ _ h=>absurd h (by lia)⟩
 | n+1,acc,h=>by
  unfold DB at h;rw[FQ,lE] at h;obtain⟨h1,h2⟩:=h;have e1:acc.testBit (ji n)=false:=by
   have z:(acc &&& 1 <<< ji n).testBit (ji n)=false:=by
    show Nat.testBit (Nat.land acc (Nat.shiftLeft 1 (ji n))) _=false;rw[h1,Nat.zero_testBit]
   rw[Nat.testBit_and,Nat.testBit_shiftLeft] at z;simpa using z
  obtain⟨g1,g2⟩:=UO n _ h2;have e2:∀i,i<n->acc.testBit (ji i)=false/\ji i≠ji n:=λi hi=>by
   have z:(acc ||| 1 <<< ji n).testBit (ji i)=false:=g1 i hi
   rw[Nat.testBit_or,Nat.testBit_shiftLeft] at z;rw[Bool.or_eq_false_iff] at z;refine⟨z.1,λe=>?_⟩
   have:=z.2;rw[e] at this;simp at this
  refine⟨λi hi=>?_,λi j hi hj e=>?_⟩
  ·by_cases q:i=n
   ·rw[q];exact e1
   ·exact(e2 i (by lia)).1
  ·by_cases q:i=n
   ·by_cases q':j=n
    ·lia
    ·exact absurd (by rw[← e,q]) (e2 j (by lia)).2
   ·by_cases q':j=n
    ·exact absurd (by rw[e,q']) (e2 i (by lia)).2
    ·exact g2 i j (by lia) (by lia) e
theorem aeT:DB 3840 0=true:=by decide +kernel
theorem aeU{a b c d:Int}(a0:0<=a)(a1:a<64)(b0:0<=b)(b1:b<60)(c0:0<=c)(c1:c<64)(d0:0<=d)(d1:d<60)
  (h:reduceHash (Builtin.Tuple.tupleHashOf [hashInt a,hashInt b])=reduceHash (Builtin.Tuple.tupleHashOf [hashInt c,hashInt d])):a=c/\b=d:=by
 have e:∀ {x y:Int},0<=x->0<=y->y<60->ji (x.toNat*60+y.toNat)=(reduceHash (Builtin.Tuple.tupleHashOf [hashInt x,hashInt y]) % 524291).toNat:=λ{x y} h0 h1 h2=>by
  unfold ji;have q1:((x.toNat*60+y.toNat) / 60:Nat)=x.toNat:=by lia
  have q2:((x.toNat*60+y.toNat) % 60:Nat)=y.toNat:=by lia
  rw[q1,q2,Ga h0,Ga h1]
 have:=(UO 3840 0 aeT).2 (a.toNat*60+b.toNat) (c.toNat*60+d.toNat) (by lia) (by lia) (by rw[e a0 b0 b1,e c0 d0 d1,h])
 lia
theorem UP{α:Type}{f:α->Int}:∀ {l:List α},(l.map f).Nodup->∀h:Int,(l.filter λx=>f x == h).length<=1
 | [],_,_=>eF _
 | x::l,n,h=>by
  rw[dM,lB] at n;by_cases q:f x=h
  ·have z:(l.filter λy=>f y == h) = []:=by
    rw[List.filter_eq_nil_iff];intro y hy e;exact n.1 (by rw[q,← (lE.mp e)];exact vh hy)
   rw[qQ,if_pos (by rw[q];exact Gz h),z]
   exact bH _
  ·rw[qQ,if_neg (by rw[lE];exact q)]
   exact UP n.2 h
section
variable{M:Model}{prog:Program}{w:World}{A:Around}{E:Value->Shared->Prop}{s:Shared}
theorem aeV{id:String}{d:Addr}{o:Obj}{es:Array DictEntry}{ep}{Q:Array DictEntry->Shared->Prop}(ho:s.heap.get? d=some o)(hd:o.data = .dict es ep)
  (hT:∀e∈es.toList,∃t,e.key = .ref t/\s.TypeIs (.ref t) "tuple") (hn:(es.toList.map (·.hash)).Nodup) (h:Q es s):wpAny M A (Builtin.Dict.entriesForEmpty id d) Q E s:=by
 unfold Builtin.Dict.entriesForEmpty;refine aM (sR ho hd ?_);refine aM ?_;rw[← Array.forIn_toList];refine wpAny_forIn_list _ (λrest _ s'=>s' = s/\∀e∈rest,e∈es.toList) _ ?_ ?_ _ _ ⟨rfl,λe he=>he⟩
 ·rintro e rest b s' ⟨rfl,hr⟩;obtain⟨t,ek,IG⟩:=hT e (hr e (by simp))
  rw[ek];unfold Builtin.Dict.quietEq;refine aM (aM (GC IG PySem.F.slot_tuple_eq.lookup (bL ?_)));have hz:¬ (es.filter (·.hash == e.hash)).size > 1:=by
   have:=UP hn e.hash;have e2:(es.filter (·.hash == e.hash)).size=(es.toList.filter (·.hash == e.hash)).length:=by rw[← Bu,Array.toList_filter]
   lia
  have q:(some (Value.builtin "tuple.__eq__") == some (Value.builtin "object.__eq__"))=false:=by decide +kernel
  rw[q];simp only[Bool.not_false,if_true,if_neg hz];exact bL ⟨rfl,λe he=>hr e (bW _ he)⟩
 ·rintro b s' ⟨rfl,_⟩;exact bL h
theorem aeW{nm:String}{d o:Addr}{knd:HeapKind prog w (List Key)}{xs:List (List Key×Addr×Value)}{Q:Unit->Shared->Prop}(eB:d≠o)(II:(o == sysModules)=false)
  (hd:s.heap.DictOfH knd d []) (ho:s.heap.DictOfH knd o xs) (hT:∀x∈xs,s.TypeIs (.ref x.2.1) "tuple") (hn:(xs.map λx=>knd.hash x.1).Nodup) (hsz:xs.length<=sizeLine)
  (hQ:∀h',(∃o' kL pZ,h'.get? d=some o'/\o'.ExactDict/\o'.data = .dict kL pZ/\kL.toList=xs.map (entryOfKey knd))->Heap.SameBut d s.heap h'->Q () { s with heap:=h' }) :
  wpAny (model prog w) A (Builtin.Dict.mergeDict nm d o) Q E s:=by
 obtain⟨od,esd,UQ,oW,dN,nK,hpd,_⟩:=id hd;obtain⟨oo,oX,UR,oY,US,wN,oZ,IJ,tT⟩:=id ho;have aeX:esd = #[]:=Array.toList_eq_nil_iff.mp hpd;subst aeX;unfold Builtin.Dict.mergeDict;rw[if_neg (by simpa using eB)]
 unfold Builtin.Dict.showsAll;rw[if_neg (by rw[II];exact eS)]
 refine aM (bL ?_);refine aM (sR oY wN ?_);dsimp only;cases hx:xs with
 | nil =>
  rw[hx] at oZ;have h0:oX = #[]:=Array.toList_eq_nil_iff.mp oZ;subst h0;rw[if_neg (by simp)]
  refine aM (B3 oY wN ?_);refine aM (sR oY wN ?_);refine aM ?_;rw[Std.Legacy.Range.forIn_eq_forIn_range']
  show wpAny _ _ (forIn [] _ _) _ _ _;rw[List.forIn_nil];refine bL (bL (hQ s.heap ⟨od,#[],UQ,oW,dN,nK,by rw[hx];rfl⟩ (Heap.SameBut.refl _ _)))
 | cons x rest =>
  have fX:oX.toList≠[]:=by rw[oZ,hx];exact List.cons_ne_nil _ _
  have CL:(decide (oX.size<=8) && oX.all λe=>(keyPart e.key).isSome)=false:=by
   rw[Bool.and_eq_false_iff];refine .inr ?_;rw[← Array.all_toList,oZ,hx]
   rfl
  rw[CL];refine aM (sR oW nK ?_);rw[if_pos (by rfl)]
  refine aM (aeV oY wN (λe he=>?_) ?_ ?_)
  ·rw[oZ] at he;obtain⟨y,hy,rfl⟩:=fG.mp he;exact⟨y.2.1,rfl,hT y hy⟩
  ·rw[oZ,sO];exact hn
  have he0:oX.isEmpty=false:=by
   cases q:oX.isEmpty with
   | false=>rfl
   | true=>exact absurd (by rw[Array.isEmpty_iff.mp q]) fX
  rw[if_pos (by rw[he0];rfl)]
  have hto:oX.size<=sizeLine+1:=by
   have:oX.size=xs.length:=by rw[← Bu,oZ,aR]
   lia
  exact aM (wpAny_updateDictKeysTo oW nK (bL (hQ _ ⟨_,_,UQ+1,F_ _ oW (Obj.isFreed_of_dict (Obj.data_mapDictKeys nK _)),dN.mapDictKeys _,Obj.data_mapDictKeys nK _,oZ⟩ (FZ ..))) hto)
end
section
variable{prog:Program}{w:World}{A:Around}{E:Value->Shared->Prop}{s:Shared}
theorem aeY{o:Addr}{xs:List (List Key×Addr×Value)}{Q:Value->Shared->Prop}(II:(o == sysModules)=false)(ho:s.heap.DictOfH (tupleKind (eU prog w)) o xs)(hsz:xs.length<=sizeLine)
  (hn:(xs.map λx=>(tupleKind (eU prog w)).hash x.1).Nodup)
  (h:∀h',(∃o' kL pZ,h'.get? s.heap.objs.size=some o'/\o'.ExactDict/\o'.data = .dict kL pZ/\kL.toList=xs.map (entryOfKey (tupleKind (eU prog w))))->Heap.SameBut s.heap.objs.size (s.heap.push { cls:=.type "dict",data:=.dict #[] }) h'->Q (.ref s.heap.objs.size) { s with heap:=h' }) :
  wpAny (model prog w) A (call (.type "dict") [.ref o]) Q E s:=by
 refine callType_codes (Q₁:=λobj bq=>obj = .ref s.heap.objs.size/\bq = { s with heap:=s.heap.push { cls:=.type "dict",data:=.dict #[] }}) PySem.F.kt_called_dict (PySem.F.kt_typeCall_dict_1 _) PySem.F.entry_dict_init (kt_code_dict_new _ ⟨rfl,rfl⟩) ?_;rintro obj bq ⟨rfl,rfl⟩;have zh:(s.heap.push { cls:=.type "dict",data:=.dict #[] }).DictOfH (tupleKind (eU prog w)) s.heap.objs.size []:=Heap.DictOfH.new s.heap;obtain⟨oo,oX,UR,oY,US,wN,oZ,IJ,tT⟩:=id ho;have IG:∀x∈xs,({ s with heap:=s.heap.push { cls:=.type "dict",data:=.dict #[] }}:Shared).TypeIs (.ref x.2.1) "tuple" := λx hx=>by
  obtain⟨o1,aB,n,g1,c1,_⟩:=(show IsTupleKey (eU prog w) s.heap x.1 x.2.1 from IJ x hx);exact⟨o1,dg _ g1,c1⟩
 have nM:∀x∈xs,(tupleKind (eU prog w)).is (s.heap.push { cls:=.type "dict",data:=.dict #[] }) x.1 x.2.1:=λx hx=>by
  obtain⟨o1,aB,n,g1,c1⟩:=(show IsTupleKey (eU prog w) s.heap x.1 x.2.1 from IJ x hx);exact⟨o1,aB,n,dg _ g1,c1⟩
 have jz:(s.heap.push { cls:=.type "dict",data:=.dict #[] }).DictOfH (tupleKind (eU prog w)) o xs:=⟨oo,oX,UR,dg _ oY,US,wN,oZ,nM,tT⟩;have eB:s.heap.objs.size≠o:=λe=>absurd (cD oY) (by rw[e];exact kG _)
 refine⟨zh.typeIs,PySem.F.args_dict_init_2 _ _,?_⟩;unfold Builtin.«dict.__init__»;refine aM ?_;unfold Builtin.Dict.selfAndRest;refine aM (wpAny_notOrdered_dict zh.typeIs ?_)
 show wpAny _ _ (pure (s.heap.objs.size,[Value.ref o])) _ _ _;refine bL ?_
 show wpAny _ _ (Builtin.Dict.updateFrom "dict.__init__" s.heap.objs.size (.ref o) [] .none) _ _ _;unfold Builtin.Dict.updateFrom;refine aM (wpAny_typeOf jz.typeIs ?_);rw[if_neg (by decide)]
 refine aM ?_;unfold Builtin.Dict.merge;refine aM ?_;unfold Builtin.Dict.readDirectly;refine aM (wpAny_isInstance jz.typeIs isSubtype_dict_dict ?_);simp only[Bool.not_true,Bool.false_eq_true,if_false];refine aM (GC jz.typeIs PySem.F.slot_dict_iter.lookup (bL ?_));simp only[beq_self_eq_true,if_true];refine aM (bL ?_);refine aeW (xs:=xs) (knd:=tupleKind (eU prog w)) eB II zh jz IG hn hsz λh' fP iS=>?_
 show wpAny _ _ (Builtin.Dict.addKeywords s.heap.objs.size [] >>= _) _ _ _;exact aM (bL (bL ⟨rfl,h h' fP iS⟩))
end
def DC(ks:List (List Key)):Prop:=∀(P:Program) (w:World),(ks.map (tupleKeyHash (eU P w))).Nodup
theorem KT.keys{H:Hp}{aA:List (List Key×V)}{xs:List (List Key×Addr×Value)}(h:KT H aA xs):xs.map (·.1)=aA.map (·.1):=by
 induction h with
 | nil=>rfl
 | cons hq _ ih=>rw[dM,dM,ih,hq.1]
theorem KT.len{H:Hp}{aA:List (List Key×V)}{xs:List (List Key×Addr×Value)}(h:KT H aA xs):xs.length=aA.length:=by
 have:=ig List.length h.keys;simpa using this
section
variable{X:Cx}
theorem aeZ:gC X (.type "dict") (λxs H Q=>∃a aA,xs = [.ref a]/\H a=some (.dT aA)/\DC (aA.map (·.1))/\∀p,H p=none->Q (.ref p) (upd H p (.dT aA))):=by
 intro pins s σ H xs us Q I r h;obtain⟨a,aA,rfl,ha,wO,q⟩:=h;obtain⟨u,rfl,ru⟩:=vals1 r;cases ru;obtain⟨z,hs,ks,kt,dd⟩:=Hr I.aK ha;obtain⟨o,es,ep,h1,h2,h3,h4,h5,h6⟩:=id dd;refine aeY (xs:=ks) hs dd (by rw[kt.len];exact z) (by have:=wO X.prog X.w;rw[← kt.keys,sO] at this;exact this) λh' we iS=>?_
 obtain⟨o',kL,pZ,g1,g2,g3,g4⟩:=we;have fr:H s.heap.objs.size=none:=I.aK.fresh (bH _);have kt':∀ob,KT (upd H s.heap.objs.size ob) aA ks:=λob=>by
  clear q ha wO z h4 h5 h6 g4 dd
  induction kt with
  | nil=>exact .nil
  | cons hq _ ih =>
   refine .cons ⟨hq.1,?_,hq.2.2⟩ ih;rw[aI (bX hq.2.1 fr)];exact hq.2.1
 refine⟨.ref s.heap.objs.size,upd H s.heap.objs.size (.dT aA),?_,rfl,q _ fr⟩;refine I.laid (a:=s.heap.objs.size) (o:=.dT aA) (t':=s.toks) (λb q hq=>?_) (bH _) ?_
 ·exact(iS.2 b (dD (cD hq))).trans (dg _ hq)
 ·exact⟨z,lC.mpr (f_ (dD I.big)),ks,kt' _,o',kL,pZ,g1,g2,g3,g4,h6⟩
end
theorem UT(P:Program)(w:World)(p:Int×Int):tupleKeyHash (eU P w) (kT p)=reduceHash (Builtin.Tuple.tupleHashOf [hashInt p.1,hashInt p.2]):=by
 have e:(kT p).map (eU P w).hash = [hashInt p.1,hashInt p.2]:=rfl;unfold tupleKeyHash;rw[e]
theorem ae0{z:List (Int×Int)}(h:∀p∈z,0<=p.1/\p.1<64/\0<=p.2/\p.2<60)(nd:z.Nodup):DC (z.map kT):=by
 intro P w;rw[sO]
 induction z with
 | nil=>exact BJ
 | cons x z ih =>
  rw[lB] at nd;rw[dM,lB];refine⟨λhm=>?_,ih (λp hp=>h p (bW _ hp)) nd.2⟩;obtain⟨y,hy,e⟩:=fG.mp hm;have hx:=h x (by simp)
  have vX:=h y (bW _ hy);rw[Function.comp_apply,Function.comp_apply,UT,UT] at e;obtain⟨e1,e2⟩:=aeU vX.1 vX.2.1 vX.2.2.1 vX.2.2.2 hx.1 hx.2.1 hx.2.2.1 hx.2.2.2 e;exact nd.1 (by rw[show x=y from Prod.ext e1.symm e2.symm];exact hy)
def lY(h:Heap)(d:Addr)(es:Array DictEntry)(ep:Nat):Prop:=∃o,h.get? d=some o/\o.ExactDict/\o.data = .dict es ep
section
variable{prog:Program}{w:World}{A:Around}{E:Value->Shared->Prop}{s:Shared}{d it:Addr}{es:Array DictEntry}{ep i:Nat}
theorem lY.type(m:lY s.heap d es ep):s.TypeIs (.ref d) "dict" := let ⟨o,h1,h2,_⟩:=m;⟨o,h1,h2.1⟩
theorem lY.lt{h:Heap}(m:lY h d es ep):d<h.objs.size:=let ⟨_,h1,_⟩:=m;cD h1
theorem lY.keep{h h':Heap}(m:lY h d es ep)(k:∀o,h.get? d=some o->h'.get? d=some o):lY h' d es ep:=let ⟨o,h1,r⟩:=m;⟨o,k o h1,r⟩
theorem ae1{Q:Value->Shared->Prop}(hd:(d == sysModules)=false)(m:lY s.heap d es ep)
  (q:Q (.ref s.heap.objs.size) { s with heap:=s.heap.push { cls:=.type "dict_keyiterator",data:=.fields #[.ref d,.int 0 0,.int es.size 0,.int ep 0] }}):wpAny (model prog w) A (pyIter (.ref d)) Q E s:=by
 obtain⟨o,h1,h2,h3⟩:=id m;refine wpAny_pyIter_slot m.type PySem.F.slot_dict_iter (B0 PySem.F.slot_dict_iter m.type PySem.F.entry_dict_iter ?_ (PySem.F.args_dict_iter_1 _));unfold Builtin.«dict.__iter__» Builtin.Dict.dictSlotNone;refine aM (aM (wpAny_notOrdered_dict m.type (show wpAny _ _ (pure (Value.ref d)) _ _ s from bL ?_)))
 show wpAny _ _ (Builtin.Dict.showsAll d >>= _) _ _ s;unfold Builtin.Dict.showsAll;rw[if_neg (by rw[hd];exact eS)]
 refine aM (bL (aM (sR h1 h3 (aM (B3 h1 h3 ?_)))));refine aM (xZ (bL ⟨_,rfl, "dict_keyiterator",_,⟨_,fU _ rfl,rfl⟩,PySem.F.slot_dict_keyiterator_next.lookup,?_⟩));simpa[rawInt] using q
theorem ae2{Q:Option Value->Shared->Prop}(hit:s.heap.IsKeyIter it d i es.size ep)(m:lY s.heap d es ep)(hi:i<es.size)
  (q:∀h',h'.IsKeyIter it d (i+1) es.size ep->Heap.SameBut it s.heap h'->Q (some es[i].key) { s with heap:=h' }):wpAny (model prog w) A (pyNext (.ref it)) Q E s:=by
 obtain⟨o,ho,hc,hd⟩:=id hit;obtain⟨od,oW,_,nK⟩:=id m;unfold pyNext;refine aM (BZ (wpAny_callSpecial?_slot (name:=Str.ofString "__next__") hit.typeIs BU
  (B0 BU hit.typeIs PySem.F.entry_dict_keyiterator_next ?_ (PySem.F.args_dict_keyiterator_next_1 _))))
 refine aM (bL (aM (aM ?_)))
 first | refine aM (B5 hit.typeIs (bL ?_)) | refine aM (B6 hit.typeIs (bL ?_))
 refine aM (wpAny_fieldsOf ho hd ?_);simp only[show Builtin.Dict_items.ownsTuple "dict_keyiterator" = false by decide,Bool.false_eq_true,if_false]
 show wpAny _ _ (if (Value.ref d == Value.none)=true then _ else _) _ _ s
 rw[if_neg (show ¬ ((Value.ref d == Value.none)=true) from eS)];refine aM (bL (aM (sR oW nK ?_)));rw[if_neg (by simp)]
 refine aM (bL (aM (B3 oW nK ?_)));rw[if_neg (by simp)]
 refine bL ?_;simp only[show ¬ ((i:Int)<0) from by lia,if_false,Int.toNat_natCast,Array.getElem?_eq_getElem hi]
 refine aM ?_
 first | refine aM (B5 hit.typeIs (bL ?_)) | refine aM (B6 hit.typeIs (bL ?_))
 refine aM (wpAny_isOneOf_keyiter hit.typeIs ?_)
 show wpAny _ _ (setField (.ref it) 1 (rawInt ((i:Int)+1)) >>= _) _ _ s;refine aM (wpAny_setField ho hd (by simp) ?_)
 have ug:(s.heap.update it (Obj.mapFields (·.setIfInBounds 1 (rawInt ((i:Int)+1))))).IsKeyIter it d (i+1) es.size ep :=
  ⟨_,F_ _ ho (Obj.isFreed_of_fields (Obj.data_mapFields hd _)),(Obj.cls_mapFields ..).trans hc,by rw[Obj.data_mapFields hd];simp[rawInt]⟩
 refine aM (pW (aM (wpAny_isOneOf_keyiter (s:={ s with heap:=s.heap.update it (Obj.mapFields (·.setIfInBounds 1 (rawInt ((i:Int)+1))))}) ug.typeIs ?_)))
 show wpAny _ _ (pure es[i].key) _ _ _;exact bL (bL ⟨_,rfl,bL (q _ ug (FZ ..))⟩)
theorem ae3{Q:Option Value->Shared->Prop}(hh:A.handled=none)(hit:s.heap.IsKeyIter it d es.size es.size ep)(m:lY s.heap d es ep)(q:∀h',Heap.ExtBut it s.heap h'->Q none { s with heap:=h' }):wpAny (model prog w) A (pyNext (.ref it)) Q E s:=by
 obtain⟨o,ho,hc,hd⟩:=id hit;obtain⟨od,oW,_,nK⟩:=id m;unfold pyNext;refine aM (BZ (wpAny_callSpecial?_slot (name:=Str.ofString "__next__") hit.typeIs BU
  (B0 BU hit.typeIs PySem.F.entry_dict_keyiterator_next ?_ (PySem.F.args_dict_keyiterator_next_1 _))))
 refine aM (bL (aM (aM ?_)))
 first | refine aM (B5 hit.typeIs (bL ?_)) | refine aM (B6 hit.typeIs (bL ?_))
 refine aM (wpAny_fieldsOf ho hd ?_);simp only[show Builtin.Dict_items.ownsTuple "dict_keyiterator" = false by decide,Bool.false_eq_true,if_false]
 show wpAny _ _ (if (Value.ref d == Value.none)=true then _ else _) _ _ s
 rw[if_neg (show ¬ ((Value.ref d == Value.none)=true) from eS)];refine aM (bL (aM (sR oW nK ?_)));rw[if_neg (by simp)]
 refine aM (bL (aM (B3 oW nK ?_)));rw[if_neg (by simp)]
 refine bL ?_;simp only[show ¬ ((es.size:Int)<0) from by lia,if_false,Int.toNat_natCast,Array.getElem?_eq_none (Nat.le_refl es.size)]
 refine aM ?_
 first | refine aM (B5 hit.typeIs (bL ?_)) | refine aM (B6 hit.typeIs (bL ?_))
 show wpAny _ _ (setField (.ref it) 0 .none >>= _) _ _ s;refine aM (wpAny_setField ho hd (by simp) ?_)
 show wpAny _ _ (newExc (.type "StopIteration") [] >>= _) _ _ _;refine aM ?_;simp only[newExc,newTuple];refine aM (xZ ?_ (by size_fits))
 refine aM (m:=firstArgMember _ _) (wpAny_of_eq (a:=Value.none) (by first | rfl | (simp only[firstArgMember];rfl)) ?_)
 refine xZ ?_ (by size_fits)
 simp only[raiseNew];refine aM (wpAny_handled ?_);rw[show A.in1.handled=none from hh];refine aM (bL (wpAny_throw ?_));refine aM (wpAny_isInstance (T := "StopIteration") (b:=true) ⟨_,fU _ rfl,rfl⟩ isSubtype_stop ?_);exact bL (q _ (((FZ ..).extBut.push _).push _))
theorem ae4(hh:A.handled=none)(I:Addr)(fX:d≠I):Walks prog w A I [I,d] [I] es.size (λi v=>∃e,es[i]? = some e/\v=e.key) (λi h=>h.IsKeyIter I d i es.size ep/\lY h d es ep) where
 sub:=λb hb=>by simp at hb;simp[hb]
 frame:=λ_ _ _ st hk=>⟨st.1.at λo e=>hk I (by simp) o e,st.2.keep λo e=>hk d (by simp) o e⟩
 item:=λi s Q E hi st hQ=>ae2 st.1 st.2 hi λh' ug iS=>hQ _ h' s.toks ⟨_,FP hi,rfl⟩ ⟨ug,st.2.keep λo e=>iS.extBut d o fX e⟩ λb o hb e=>iS.extBut b o (λh=>hb (by simp[h])) e
 done:=λs Q E st hQ=>ae3 hh st.1 st.2 λh' CS=>hQ h' s.toks λb o hb e=>CS b o (λh=>hb (by simp[h])) e
 self:=λ_ _ _ _ st hQ=>wpAny_pyIter_keyiter st.1 hQ
theorem ae5(lo:(d == sysModules)=false):PySem.W.KdlSrc prog w "dict" d d es.size (λi v=>∃e,es[i]? = some e/\v=e.key) (λh=>lY h d es ep) where
 type:=λ_ hm=>hm.type
 there:=λ_ hm=>⟨hm.lt,hm.lt⟩
 keep:=λ_ _ hm hk=>hm.keep λo e=>hk d (.inl rfl) o e
 notList:=by decide
 notTuple:=by decide
 hint:=λ_ _ _ _ hm hq=>PySem.W.kdl_hint_dict hm.type hq
 iter:=λ_ _ hh hm=>⟨_,_,(λ_ _ hq=>ae1 lo hm hq),ae4 hh _ (dD hm.lt),⟨⟨_,fU _ rfl,rfl,rfl⟩,hm.keep λ_ e=>dg _ e⟩⟩
end
section
variable{X:Cx}
def DE(H:Hp)(aA:List (List Key×V))(ts:List Addr):Prop:=ts.length=aA.length/\∀(i:Nat) (t:Addr) (kv:List Key×V),ts[i]? = some t->aA[i]? = some kv->H t=some (.tup (kv.1.map kV))
theorem KT.at{H:Hp}{aA:List (List Key×V)}{xs:List (List Key×Addr×Value)}(h:KT H aA xs):∀(i:Nat) (x:List Key×Addr×Value) (kv:List Key×V),xs[i]? = some x->aA[i]? = some kv->H x.2.1=some (.tup (kv.1.map kV)):=by
 induction h with
 | nil=>intro i x kv e;cases e
 | @cons p q ps qs hq _ ih =>
  intro i x kv e1 e2;cases i with
  | zero =>
   rw[List.getElem?_cons_zero] at e1 e2;cases e1;cases e2;exact hq.2.1
  | succ i =>
   rw[BG] at e1 e2;exact ih i x kv e1 e2
theorem ae6(hc:X.calm=true):gC X (.type "list") (λxs H Q=>∃a aA,xs = [.ref a]/\H a=some (.dT aA)/\∀l ts,H l=none->DE H aA ts->Q (.ref l) (upd H l (.lst (ts.map V.ref)))):=by
 intro pins s σ H xs us Q I r h;obtain⟨a,aA,rfl,ha,q⟩:=h;obtain⟨u,rfl,ru⟩:=vals1 r;cases ru;obtain⟨z,hs,ks,kt,dd⟩:=Hr I.aK ha;obtain⟨o,es,ep,h1,h2,h3,h4,h5,h6⟩:=id dd;have IK:es.size=ks.length:=by rw[← Bu,h4,aR]
 refine PySem.W.kdl_call (ae5 (es:=es) (ep:=ep) hs) (I.ok.hd hc) ⟨o,h1,h2,h3⟩ (by rw[IK,kt.len];exact z) λh' tk acc c' keep hl kY=>?_
 have fr:H s.heap.objs.size=none:=I.aK.fresh (bH _);have al:acc.toList=ks.map λx=>Value.ref x.2.1:=by
  refine List.ext_getElem? λi=>?_
  by_cases hi:i<ks.length
  ·have c_:i<acc.size:=by rw[kY.1,IK];exact hi
   obtain⟨e,e1,e2⟩:=kY.2 i acc[i] (FP c_);have e3:es.toList[i]? = some e:=by rw[xJ];exact e1
   rw[h4,ju,aX hi] at e3;rw[xJ,FP c_,ju,aX hi,e2,← dh e3]
   rfl
  ·rw[sN (by rw[Bu,kY.1,IK];lia),sN (by rw[aR];lia)]
 have ka:DE H aA (ks.map λx=>x.2.1):=⟨by rw[aR];exact kt.len,λi t kv e1 e2=>by
  obtain⟨x,ex,rfl⟩:=e8 e1;exact kt.at i x kv ex e2⟩
 refine⟨.ref s.heap.objs.size,upd H s.heap.objs.size (.lst ((ks.map λx=>x.2.1).map V.ref)),?_,rfl,q _ _ fr ka⟩;refine I.laid (a:=s.heap.objs.size) (o:=.lst ((ks.map λx=>x.2.1).map V.ref)) (t':=tk) (λb o hb=>keep b o hb) (bH _) ?_;refine⟨by rw[aR,aR,kt.len];exact z,acc.toList,c',?_,by rw[Array.toArray_toList];exact hl⟩
 rw[al];clear al kY;generalize ks=ks
 induction ks with
 | nil=>exact .nil
 | cons x ks ih=>exact .cons rfl ih
end
noncomputable def jK(rc:List Int)(s:Int)(o:Nat):List (Int×Int):=(List.range s.toNat).map λ(j:Nat)=>((o:Int),rc.getD o 0 - s+(j:Int))
noncomputable def jL(rc:List Int)(s:Int)(us:List (Int×Int))(is:List Nat):Option (Int×Int):=(is.flatMap (jK rc s)).find? λc=>decide (c∉us)
structure Kp(P:Addr)(pos:Pos)(qual:Str)(H H':Hp):Prop where
 b:SameBut P H H'
 t:cT P pos qual H'
theorem cT.same{P:Addr}{pos:Pos}{qual:Str}{H H':Hp}(h:cT P pos qual H)(s:aj H H'):cT P pos qual H':=by
 obtain⟨ps,e,k,c⟩:=h;refine⟨ps,s _ _ e,k,?_⟩;rcases c with c | ⟨c',c1,c2⟩
 ·exact .inl c
 ·exact .inr ⟨c',c1,s _ _ c2⟩
section
variable{P:Addr}{pos:Pos}{qual:Str}{H H1 H2:Hp}
theorem Kp.step(k:Kp P pos qual H H1)(s:aj H1 H2):Kp P pos qual H H2:=⟨k.b.step s,k.t.same s⟩
theorem Kp.trans(k:Kp P pos qual H H1)(k2:Kp P pos qual H1 H2):Kp P pos qual H H2:=⟨k.b.trans k2.b,k2.t⟩
theorem Kp.of(t:cT P pos qual H)(s:aj H H1):Kp P pos qual H H1:=⟨.of s,t.same s⟩
theorem cT.ne(t:cT P pos qual H){a:Addr}{o:HO}(e:H a=some o)(n:∀ps,o≠.fO ps):a≠P:=λz=>by
 obtain⟨ps,e',_⟩:=t;rw[z,e'] at e;exact n ps (dh e).symm
theorem Kp.get(k:Kp P pos qual H H1)(t:cT P pos qual H){a:Addr}{o:HO}(e:H a=some o)(n:∀ps,o≠.fO ps:=by intro _ z;cases z):H1 a=some o:=k.b _ _ e (t.ne e n)
theorem Kp.free(k:Kp P pos qual H H1){a:Addr}(n:H1 a=none):H a=none:=by
 cases e:H a with
 | none=>rfl
 | some o =>
  by_cases z:a=P
  ·obtain⟨ps,e',_⟩:=k.t;rw[z,e'] at n;cases n
  ·rw[k.b _ _ e z] at n;cases n
theorem Kp.seq{K:W.Frag}{a:Addr}{xs:List V}(k:Kp P pos qual H H1)(t:cT P pos qual H)(h:az K H a xs):az K H1 a xs:=by
 rcases h with(h | ⟨o,h⟩) | h
 ·exact .inl (.inl (k.get t h))
 ·exact .inl (.inr ⟨o,k.get t h⟩)
 ·exact .inr h
end
theorem cT.put{P:Addr}{pos:Pos}{qual:Str}{H:Hp}{a:Addr}{o ob:HO}(t:cT P pos qual H)(e:H a=some ob)(n1:∀ps,ob≠.fO ps:=by intro _ z;cases z)(n2:∀φ,ob≠.ext φ:=by intro _ z;cases z):cT P pos qual (upd H a o):=by
 obtain⟨ps,e',k,c⟩:=t;refine⟨ps,?_,k,?_⟩
 ·rw[aI (λz=>n1 ps (by rw[z,e] at e';exact dh e'))];exact e'
 ·rcases c with c | ⟨c',c1,c2⟩
  ·exact .inl c
  ·refine .inr ⟨c',c1,?_⟩;rw[aI (λz=>n2 _ (by rw[z,e] at c2;exact dh c2))];exact c2
theorem cT.keep{P:Addr}{pos:Pos}{qual:Str}{H H':Hp}{x:Addr}{ob:HO}(t:cT P pos qual H)(h:∀b,b≠x->H' b=H b)(e:H x=some ob)(n1:∀ps,ob≠.fO ps:=by intro _ z;cases z)(n2:∀φ,ob≠.ext φ:=by intro _ z;cases z):cT P pos qual H':=by
 obtain⟨ps,e',k,c⟩:=t;refine⟨ps,?_,k,?_⟩
 ·rw[h _ (λz=>n1 ps (by rw[z,e] at e';exact dh e'))];exact e'
 ·rcases c with c | ⟨c',c1,c2⟩
  ·exact .inl c
  ·refine .inr ⟨c',c1,?_⟩;rw[h _ (λz=>n2 _ (by rw[z,e] at c2;exact dh c2))];exact c2
theorem Kp.put{P:Addr}{pos:Pos}{qual:Str}{H H1:Hp}{a:Addr}{o ob:HO}(k:Kp P pos qual H H1)(n:H a=none)(e:H1 a=some ob)(n1:∀ps,ob≠.fO ps:=by intro _ z;cases z)(n2:∀φ,ob≠.ext φ:=by intro _ z;cases z):Kp P pos qual H (upd H1 a o) :=
 ⟨λb u q h=>by rw[aI (bX q n)];exact k.b b u q h,k.t.put e n1 n2⟩
theorem ae7{rc:List Int}{s:Int}{us:List (Int×Int)}{is:List Nat}{o:Int×Int}(h:jL rc s us is=some o):o∉us:=by
 have:=List.find?_some h;simpa using this
theorem ae8{rc:List Int}{s:Int}{us:List (Int×Int)}{is:List Nat}{i o:Nat}(h:∀c∈(is.take i).flatMap (jK rc s),c∈us)(e:is[i]? = some o)(h2:∀c∈jK rc s o,c∈us) :
  ∀c∈(is.take (i+1)).flatMap (jK rc s),c∈us:=by
 intro c hc;rw[take_succ_get e,BF,fM] at hc;rcases hc with hc | hc
 ·exact h c hc
 ·exact h2 c (by simpa using hc)
theorem ae9{rc:List Int}{s:Int}{us:List (Int×Int)}{is:List Nat}(h:∀c∈is.flatMap (jK rc s),c∈us):jL rc s us is=none:=by
 unfold jL;rw[List.find?_eq_none];intro c hc;simpa using h c hc
theorem ae_{rc:List Int}{s:Int}{us:List (Int×Int)}{is:List Nat}{i o j:Nat}(h:∀c∈(is.take i).flatMap (jK rc s),c∈us)(e:is[i]? = some o)(hj:j<s.toNat)
  (h2:∀j',j' < j->((o:Int),rc.getD o 0 - s+(j':Int))∈us) (h3:((o:Int),rc.getD o 0 - s+(j:Int))∉us):jL rc s us is=some ((o:Int),rc.getD o 0 - s+(j:Int)):=by
 have hi:=dB e;have e1:is=is.take i++o::is.drop (i+1):=by
  have:is.drop i=o::is.drop (i+1):=by
   rw[List.drop_eq_getElem_cons hi];rw[aX hi] at e;rw[dh e]
  rw[← this,xP]
 have e2:jK rc s o=(List.range j).map (λ(j:Nat)=>((o:Int),rc.getD o 0 - s+(j:Int)))++((o:Int),rc.getD o 0 - s+(j:Int))::((List.range s.toNat).drop (j+1)).map λ(j:Nat)=>((o:Int),rc.getD o 0 - s+(j:Int)):=by
  unfold jK;have:List.range s.toNat=List.range j++j::(List.range s.toNat).drop (j+1):=by
   have q:(List.range s.toNat).drop j=j::(List.range s.toNat).drop (j+1):=by
    rw[List.drop_eq_getElem_cons (by simpa using hj)]
    rw[List.getElem_range]
   have q2:(List.range s.toNat).take j=List.range j:=by
    rw[List.take_range,xQ (by lia)]
   rw[← q,← q2,xP]
  conv=>lhs;rw[this]
  rw[bZ,dM]
 unfold jL;rw[e1,BF,xK,e2,List.find?_append,List.find?_eq_none.mpr (λc hc=>by simpa using h c hc),Option.none_or,sM,List.find?_append,
  List.find?_eq_none.mpr (λc hc=>by
   obtain⟨j',ki,rfl⟩:=fG.mp hc;simpa using h2 j' (gT.mp ki)),Option.none_or,pO,List.find?_cons_of_pos (by simpa using h3)]
def afa(K:W.Frag)(P:Addr)(pos:Pos)(qual:Str):Sp:=λvs H Q _=>∃(ra ud:Addr) (r s:Int) (rc:List Int) (us:List (Int×Int)),vs = [.ref ra,.int s,.int r,.ref ud]/\az K H ra (rc.map V.int)/\2<=rc.length/\rc.length<64/\0<=s/\s<=1000/\(∀c∈rc,s<=c/\c<=1000)/\
 H ud=some (.dT (cS us))/\cT P pos qual H/\∀(is:List Nat) (H':Hp),nJ (kj r) rc.length is->Kp P pos qual H H'->
  (jL rc s us is=none->Q .aO H')/\∀c t,jL rc s us is=some c->H t=none->H' t=some (.tup [.int c.1,.int c.2])->Q (.ref t) H'
inductive lZ (rc:List Int) (s:Int) (z:List (Int×Int)) (us:List (Int×Int)):List Nat->List (Nat×(Int×Int)×(Int×Int))->Prop
 | nil:lZ rc s z us [] []
 | snoc {ns:List Nat} {ms:List (Nat×(Int×Int)×(Int×Int))} {n:Nat} {c o:Int×Int} (h:lZ rc s z us ns ms) (hc:z[n]? = some c) {is:List Nat} (ho:nJ (kj c.1) rc.length is)
   (hf:jL rc s (us++ms.map λm=>m.2.2) is=some o):lZ rc s z us (ns++[n]) (ms++[(n,c,o)])
theorem lZ.len{rc:List Int}{s:Int}{z us:List (Int×Int)}{ns:List Nat}{ms:List (Nat×(Int×Int)×(Int×Int))}(h:lZ rc s z us ns ms):ms.length=ns.length:=by
 induction h with
 | nil=>rfl
 | snoc _ _ _ _ ih=>simp[ih]
structure jj(H:Hp)(l:Addr)(ts us os:List Addr)(ms:List (Nat×(Int×Int)×(Int×Int))):Prop where
 l:H l=some (.lst (us.map V.ref))
 n:us.length=ms.length
 no:os.length=ms.length
 t:∀(i:Nat) (u:Addr) (m:Nat×(Int×Int)×(Int×Int)),us[i]? = some u->ms[i]? = some m->∃tc to,os[i]? = some to/\H u=some (.tup [.int (m.1:Int),.ref tc,.ref to])/\ts[m.1]? = some tc/\H tc=some (.tup [.int m.2.1.1,.int m.2.1.2])/\H to=some (.tup [.int m.2.2.1,.int m.2.2.2])
theorem jj.but{P:Addr}{pos:Pos}{qual:Str}{H H':Hp}{l:Addr}{ts us os:List Addr}{ms:List (Nat×(Int×Int)×(Int×Int))}(h:jj H l ts us os ms)(t:cT P pos qual H)(k:Kp P pos qual H H'):jj H' l ts us os ms :=
 ⟨k.get t h.l,h.n,h.no,λi u m e1 e2=>let ⟨tc,to,x,a,b,c,d⟩:=h.t i u m e1 e2;⟨tc,to,x,k.get t a,b,k.get t c,k.get t d⟩⟩
theorem jj.same{H H':Hp}{l:Addr}{ts us os:List Addr}{ms:List (Nat×(Int×Int)×(Int×Int))}(h:jj H l ts us os ms)(k:aj H H'):jj H' l ts us os ms :=
 ⟨k _ _ h.l,h.n,h.no,λi u m e1 e2=>let ⟨tc,to,x,a,b,c,d⟩:=h.t i u m e1 e2;⟨tc,to,x,k _ _ a,b,k _ _ c,k _ _ d⟩⟩
theorem jj.other{H:Hp}{l x:Addr}{o:HO}{ts us os:List Addr}{ms:List (Nat×(Int×Int)×(Int×Int))}(h:jj H l ts us os ms)(hx:∃aA,H x=some (.dT aA)):jj (upd H x o) l ts us os ms:=by
 obtain⟨aA,hx⟩:=hx;have ne:∀ {a:Addr} {o':HO},H a=some o'->(∀aA,o'≠.dT aA)->a≠x:=λe n z=>n aA (by rw[z,hx] at e;exact(dh e).symm)
 refine⟨by rw[aI (ne h.l (by intro _ z;cases z))];exact h.l,h.n,h.no,λi u m e1 e2=>?_⟩
 obtain⟨tc,to,x,a,b,c,d⟩:=h.t i u m e1 e2;exact⟨tc,to,x,by rw[aI (ne a (by intro _ z;cases z))];exact a,b,by rw[aI (ne c (by intro _ z;cases z))];exact c,by rw[aI (ne d (by intro _ z;cases z))];exact d⟩
theorem jj.snoc{H:Hp}{l:Addr}{ts us os:List Addr}{ms:List (Nat×(Int×Int)×(Int×Int))}(h:jj H l ts us os ms){u tc to:Addr}{m:Nat×(Int×Int)×(Int×Int)}(hu:H u=some (.tup [.int (m.1:Int),.ref tc,.ref to]))(ht:ts[m.1]? = some tc)
  (hc:H tc=some (.tup [.int m.2.1.1,.int m.2.1.2])) (ho:H to=some (.tup [.int m.2.2.1,.int m.2.2.2])):jj (upd H l (.lst (us.map V.ref++[V.ref u]))) l ts (us++[u]) (os++[to]) (ms++[m]):=by
 have ne:∀ {a:Addr} {xs:List V},H a=some (.tup xs)->a≠l:=λe q=>by rw[q,h.l] at e;cases e
 refine⟨by rw[aD,bZ];rfl,by simp[h.n],by simp[h.no],λi u' m' e1 e2=>?_⟩
 by_cases hi:i<us.length
 ·rw[d7 hi] at e1;rw[d7 (by rw[← h.n];exact hi)] at e2
  obtain⟨tc',to',x,a,b,c,d⟩:=h.t i u' m' e1 e2;exact⟨tc',to',by rw[d7 (dB x)];exact x,by rw[aI (ne a)];exact a,b,by rw[aI (ne c)];exact c,by rw[aI (ne d)];exact d⟩
 ·rw[d8 (by lia)] at e1
  rw[d8 (by rw[← h.n];lia),← h.n] at e2
  have hj:i - us.length=0:=by
   have:=(ie.mp e1).1;simp at this;lia
  rw[hj] at e1 e2;cases e1;cases e2;exact⟨tc,to,by rw[d8 (by rw[h.no,← h.n];lia),h.no,← h.n,hj];rfl,by rw[aI (ne hu)];exact hu,ht,by rw[aI (ne hc)];exact hc,by rw[aI (ne ho)];exact ho⟩
noncomputable def fu(bz:List (Int×Int)):Nat->List (Int×Int)->List Nat
 | _,[]=>[]
 | i,q::z=>if q∈bz then i::fu bz (i+1) z else fu bz (i+1) z
theorem DF(bz:List (Int×Int)):∀(z:List (Int×Int)) (i:Nat),j0 (cS bz) i z=(fu bz i z).map λ(n:Nat)=>(n:Int)
 | [],i=>rfl
 | q::z,i=>by
  rw[j0,fu];by_cases h:q∈bz
  ·rw[HV h,if_pos (show (some (V.bl true)).isSome=true from rfl),if_pos h,dM,DF bz z]
  ·rw[zM h,if_neg (by simp),if_neg h,DF bz z]
theorem UU{bz:List (Int×Int)}:∀ {z:List (Int×Int)} {i n:Nat},n∈fu bz i z->i<=n/\∃c,z[n - i]? = some c/\c∈bz
 | [],i,n,h=>by cases h
 | q::z,i,n,h=>by
  rw[fu] at h;have tl:n∈fu bz (i+1) z->i<=n/\∃c,(q::z)[n - i]? = some c/\c∈bz:=λh=>by
   obtain⟨h1,c,h2,h3⟩:=UU h;refine⟨by lia,c,?_,h3⟩
   rw[show n - i=(n - (i+1))+1 by lia,BG]
   exact h2
  split at h
  ·rename_i hq;rcases cE.mp h with rfl | h
   ·exact⟨bH _,q,by simp,hq⟩
   ·exact tl h
  ·exact tl h
theorem afb(bz z:List (Int×Int)):(fu bz 0 z).length<=z.length:=by
 have:=HU (cS bz) z 0;rw[DF,aR] at this;exact this
theorem UW(us:List (Int×Int)){o:Int×Int}(h:o∉us):putK (cS us) (kT o) (.bl true)=cS (us++[o]):=by
 rw[SM _ (zM h)];simp[cS]
def afc(K:W.Frag)(P:Addr)(pos:Pos)(qual:Str):Sp:=λvs H Q _=>∃(ra na d:Addr) (s:Int) (rc:List Int) (ts:List Addr) (z bz:List (Int×Int)),vs = [.ref ra,.int s,.ref na,.ref d]/\az K H ra (rc.map V.int)/\2<=rc.length/\rc.length<64/\0<=s/\s<=1000/\(∀c∈rc,s<=c/\c<=1000)/\
 Zn H na ts z/\z.length<=1000000/\H d=some (.dT (cS bz))/\DC (bz.map kT)/\bz.length<=1000/\cT P pos qual H/\
 (∀(os:List (Int×Int)) (r:Int) (is:List Nat),os.length<(fu bz 0 z).length->nJ (kj r) rc.length is->jL rc s (bz++os) is≠none)/\
 ∀l us os ms H',Kp P pos qual H H'->H l=none->(∀t∈os,H t=none)->lZ rc s z bz (fu bz 0 z) ms->jj H' l ts us os ms->Q (.ref l) H'
theorem afd{n j:Nat}(h:j<n):jc n (j:Int)=some j:=by
 unfold jc;rw[if_pos (by lia),if_pos (by lia)]
 simp
noncomputable def o7(nc:List (Int×Int))(ms:List (Nat×(Int×Int)×(Int×Int))):List (Int×Int):=ms.foldl (λa m=>a.set m.1 m.2.2) nc
theorem afe(nc:List (Int×Int))(ms:List (Nat×(Int×Int)×(Int×Int)))(m:Nat×(Int×Int)×(Int×Int)):o7 nc (ms++[m])=(o7 nc ms).set m.1 m.2.2:=by
 unfold o7;rw[xM];rfl
theorem DG(nc:List (Int×Int))(ms:List (Nat×(Int×Int)×(Int×Int))):(o7 nc ms).length=nc.length:=by
 unfold o7
 induction ms generalizing nc with
 | nil=>rfl
 | cons m ms ih=>rw[oh,ih,mG]
theorem Zn.setAt{H:Hp}{l t:Addr}{ts:List Addr}{z:List (Int×Int)}(h:Zn H l ts z){k:Nat}{c:Int×Int}(ht:H t=some (.tup [.int c.1,.int c.2])):Zn (upd H l (.lst ((ts.set k t).map V.ref))) l (ts.set k t) (z.set k c):=by
 have ne:∀ {a:Addr} {xs:List V},H a=some (.tup xs)->a≠l:=λe q=>by rw[q,h.l] at e;cases e
 refine⟨aD,by simp[h.n],λi t' p e1 e2=>?_⟩
 rw[List.getElem?_set] at e1 e2;by_cases hk:k=i
 ·subst hk;rw[if_pos rfl] at e1 e2;have hl:k<ts.length:=by
   by_cases q:k<ts.length
   ·exact q
   ·rw[if_neg q] at e1;cases e1
  rw[if_pos hl] at e1;rw[if_pos (by rw[← h.n];exact hl)] at e2
  cases e1;cases e2;rw[aI (ne ht)];exact ht
 ·rw[if_neg hk] at e1 e2;have:=h.t i t' p e1 e2;rw[aI (ne this)];exact this
def afg(K:W.Frag)(C P:Addr)(pos:Pos)(qual:Str):Sp:=λvs H Q _=>∃(p dx za sa ba:Addr) (bB j8:List Addr) (z bz:List (Int×Int)) (au cy s:Int) (sw:List Int),vs = [.ref p,.ref za,.int au,.int cy,.ref sa,.int s,.ref ba]/\CP K C/\b9 K C "moves"/\H p=some (.ins C dx [])/\Zn H za bB z/\uo z/\
 1<=au/\au<=1000000000/\0<=cy/\cy<au/\(∀p∈z,au % p.2=0)/\az K H sa (sw.map V.int)/\SwOk sw (z.map (·.1)).sum/\Zn H ba j8 bz/\bz.length<=1000/\bz.Nodup/\(∀q∈bz,0<=q.1/\q.1<(counts z).length/\0<=q.2/\q.2<(counts z).getD q.1.toNat 0)/\
 (counts z).length<64/\0<=s/\(∀c∈counts z,s<c)/\cT P pos qual H/\
 (∀(os:List (Int×Int)) (r:Int) (is:List Nat),os.length<(fu bz 0 (gi (counts z) s)).length->nJ (kj r) (counts z).length is->jL (counts z) s (bz++os) is≠none)/\
 ∀H' fp mv ts us os ms,(∀b o,H b=some o->b≠p->b≠P->H' b=some o)->cT P pos qual H'->(∀b∈mv::fp,H b=none)->lZ (counts z) s (gi (counts z) s) bz (fu bz 0 (gi (counts z) s)) ms->
  HW K C H' p ⟨counts z,au,cy,sw,o7 (gi (counts z) s) ms⟩ fp mv (us.map V.ref)->jj H' mv ts us os ms->Q .aO H'
theorem IL{α:Type}[DecidableEq α]:∀ {l l':List α},l.Nodup->(∀x∈l,x∈l')->l.length<=l'.length
 | [],_,_,_=>eF _
 | x::l,l',n,h=>by
  rw[lB] at n;have hx:=h x (by simp)
  have:=IL (l:=l) (l':=l'.erase x) n.2 λy hy=>(List.mem_erase_of_ne (λ(e:y=x)=>n.1 (by rw[← e];exact hy))).mpr (h y (bW _ hy))
  rw[List.length_erase_of_mem hx] at this;have:=List.length_pos_of_mem hx;simp only[List.length_cons];lia
theorem IM(bz:List (Int×Int)):∀(z:List (Int×Int)) (i:Nat),(fu bz i z).length=(z.filter λc=>decide (c∈bz)).length
 | [],_=>rfl
 | q::z,i=>by
  rw[fu,qQ];by_cases h:q∈bz
  ·rw[if_pos h,if_pos (kJ h),eY,eY,IM bz z]
  ·rw[if_neg h,if_neg (by simpa using h),IM bz z]
theorem IP{s:Int}:∀(rc:List Int) (r:Nat) (c:Int×Int),c∈fj s r rc->∃j:Nat,j<rc.length/\c.1=((r+j:Nat):Int)/\0<=c.2/\c.2<rc.getD j 0 - s
 | [],r,c,h=>by cases h
 | x::rc,r,c,h=>by
  rw[fj,fM] at h;rcases h with h | h
  ·obtain⟨k,hk,rfl⟩:=fG.mp h;have:=gT.mp hk;exact⟨0,by simp,by simp,by show 0<=(k:Int);lia,by show (k:Int)<x - s;lia⟩
  ·obtain⟨j,h1,h2,h3,h4⟩:=IP rc (r+1) c h;exact⟨j+1,by simpa using h1,by rw[h2];congr 1;lia,h3,by simpa using h4⟩
theorem UX(rc:List Int)(s:Int):∀is:List Nat,(is.flatMap (jK rc s)).length=is.length*s.toNat
 | []=>by simp
 | o::is=>by
  rw[xK,fE,UX rc s is,eY,Nat.succ_mul];unfold jK;simp;lia
theorem IQ{rc:List Int}{s:Int}{is:List Nat}{c:Int×Int}(h:c∈is.flatMap (jK rc s)):∃o∈is,c.1=(o:Int)/\rc.getD o 0 - s<=c.2/\c.2<rc.getD o 0 - s+s.toNat:=by
 obtain⟨o,ho,hc⟩:=Gh.mp h;obtain⟨j,hj,rfl⟩:=fG.mp hc;have:=gT.mp hj;exact⟨o,ho,rfl,by show _<=rc.getD o 0 - s+(j:Int);lia,by show rc.getD o 0 - s+(j:Int)<_;lia⟩
theorem UY(rc:List Int)(s:Int):∀ {is:List Nat},is.Nodup->(is.flatMap (jK rc s)).Nodup
 | [],_=>by simp
 | o::is,n=>by
  rw[lB] at n;rw[xK,BI];refine⟨?_,UY rc s n.2,λa ha b hb e=>?_⟩
  ·unfold jK;rw[Gk,Gp];refine Gb ?_ (List.nodup_iff_pairwise_ne.mp BK);intro a b h e;have:=ig Prod.snd e;simp only at this;lia
  ·obtain⟨j,hj,rfl⟩:=fG.mp ha;obtain⟨o',jz,e1,_⟩:=IQ hb;rw[← e] at e1;have e1:(o:Int)=(o':Int):=e1;have:o=o':=by lia
   exact n.1 (this▸jz)
theorem afh{rc:List Int}{s:Int}{bz:List (Int×Int)}(hs:0<=s)(hb:bz.length<=s.toNat*rc.length)(os:List (Int×Int))(r:Int)(is:List Nat)
  (ho:os.length<(fu bz 0 (gi rc s)).length) (ord:nJ (kj r) rc.length is):jL rc s (bz++os) is≠none:=by
 intro h;unfold jL at h;rw[List.find?_eq_none] at h;have nd:is.Nodup:=ord.1.nodup_iff.mpr BK;have il:is.length=rc.length:=by rw[ord.1.length_eq,oq]
 have K1:=UX rc s is;have K2:=UY rc s nd;have c1:=IL (l':=(bz.filter λc => !decide (c∈gi rc s))++os) K2 λc hc=>by
  have:=h c hc;have hm:c∈bz++os:=by
   by_cases q:c∈bz++os
   ·exact q
   ·exact absurd (kJ q) this
  rw[fM] at hm ⊢;rcases hm with hm | hm
  ·refine .inl (fF.mpr ⟨hm,?_⟩);rw[Bool.not_eq_true',decide_eq_false_iff_not];intro hz;obtain⟨o,jz,e1,e2,_⟩:=IQ hc;obtain⟨j,j1,j2,j3,j4⟩:=IP rc 0 c hz;have:o=j:=by lia
   rw[this] at e2;lia
  ·exact .inr hm
 have c2:=IL (l:=(gi rc s).filter λc=>decide (c∈bz)) (l':=bz.filter λc=>decide (c∈gi rc s)) ((Tn rc 0).filter _) λc hc=>by
  obtain⟨h1,h2⟩:=fF.mp hc;exact fF.mpr ⟨by simpa using h2,by simpa using h1⟩
 have c3:(bz.filter λc=>decide (c∈gi rc s)).length+(bz.filter λc => !decide (c∈gi rc s)).length=bz.length:=by
  clear h ho hb c1 c2
  induction bz with
  | nil=>rfl
  | cons x bz ih =>
   rw[qQ,qQ];by_cases q:x∈gi rc s
   ·rw[if_pos (kJ q),if_neg (by simpa using q)];simp only[List.length_cons];lia
   ·rw[if_neg (by simpa using q),if_pos (by simpa using q)];simp only[List.length_cons];lia
 rw[IM] at ho;rw[fE] at c1;rw[K1,il,Nat.mul_comm] at c1;lia
theorem afi(us:List (Int×Int)){o:Int×Int}(h:o∈us):putK (cS us) (kT o) (.bl true)=cS us:=by
 unfold putK;rw[vZ,HV h,if_pos (show (some (V.bl true)).isSome=true from rfl)];unfold cS;rw[sO];refine Gf λx _=>?_
 show (if kT x=kT o then(kT x,V.bl true) else(kT x,V.bl true))=_
 split <;> rfl
theorem DE.zn{H:Hp}{l:Addr}{ts:List Addr}{bz:List (Int×Int)}(h:DE H (cS bz) ts)(nl:H l=none):Zn (upd H l (.lst (ts.map V.ref))) l ts bz:=by
 refine⟨aD,by rw[h.1,cS,aR],λi t p e1 e2=>?_⟩
 have e3:(cS bz)[i]? = some (kT p,V.bl true):=by unfold cS;rw[List.getElem?_map,e2];rfl
 have:=h.2 i t _ e1 e3;rw[aI (bX this nl)];exact this
def DH(K:W.Frag)(tabs:List (Addr×Addr)):Sp:=λvs H Q _=>∃(a:Addr) (ns:List Int),vs = [.ref a]/\az K H a (ns.map V.int)/\ns.length<=63/\(∀q∈tabs,H q.2=some (.fO #[]))/\∀H',Q (.bl true) H'
theorem walk_lawT{l:PySem.W.OpenLaw}{k:Nat}{q:Program}{loose:List Str}{XP:(Str->Option Value)->Heap->Prop}{YP:World->Heap->Prop}{d:DefRec}{K:Params->W.Frag}{x:Str}
  (hn:l.most=some 63) (ue:d.params.defaults = []) (hr:c7 k callerA) (hY:∀(w:World) (h:Heap),YP w h->(K w.params).In h) (Aa:∀w:World,PySem.W.noTabs (K w.params)=true)
  (F:∀(w:World) (mg:Str->Option Value) (fa:Addr) (h:Heap),YP w h->(K w.params).In h->h.Ns mainGlobals mg->mg d.name=some (.ref fa)->
   ∃(fd:FuncData) (tabs:List (Addr×Addr)),(∀(s:Shared) (u:Value),BindsTo s fd ⟨[u],[]⟩ [(x,u)])/\PySem.W.TabsAt tabs h/\
    ∀base:Heap,(K w.params).In base->base.Ns mainGlobals mg->(∀q∈tabs,bE mg base q.1 q.2)->a_ l.prog w (K w.params) mg base bx k fa fd [x] (DH (K w.params) tabs)) :
  PySem.W.WalkO q loose XP YP l.row.toRowW d [] (λf vs=>PySem.call f vs) :=
 aeR (n:=63) (sp:=λw tabs=>DH (K w.params) tabs) hn (by decide) ue hr hY Aa F (λ_ tabs H a ns hl hT hS=>⟨a,ns,rfl,hS,hl,hT,λ_=>rfl⟩)
noncomputable abbrev Us:=List (Addr×List Int)
noncomputable def uV(zs:Us):List V:=zs.map λz=>V.ref z.1
def DI(H:Hp)(zs:Us):Prop:=∀z,z∈zs->H z.1=some (.tup (z.2.map V.int))
section
variable{X:Cx}{pins:List (Addr×Obj)}{σ:St}{H:Hp}{s:Shared}
end
section
variable{X:Cx}
def DJ(K:W.Frag)(neg:Bool):R2:=λx y H Q=>∃(a p:Addr) (c:List Int) (zs:Us),x = .ref a/\y = .ref p/\H a=some (.tup (c.map V.int))/\az K H p (uV zs)/\DI H zs/\
 Q (.bl (if neg then !decide (c∈zs.map (·.2)) else decide (c∈zs.map (·.2)))) H
def DK:V->List V->Hp->VK->Prop:=λx vs H Q=>∃(l a:Addr) (zs:Us) (c:List Int),x = .ref l/\vs = [.ref a]/\H l=some (.lst (uV zs))/\DI H zs/\H a=some (.tup (c.map V.int))/\c∈zs.map (·.2)/\
 ∀(k:Nat) (h:k<zs.length),zs[k].2=c->(∀m (hm:m<zs.length),m<k->zs[m].2≠c)->Q .aO (upd H l (.lst (uV (zs.eraseIdx k))))
end
theorem lZ.at{rc:List Int}{s:Int}{z us:List (Int×Int)}{ns:List Nat}{ms:List (Nat×(Int×Int)×(Int×Int))}(h:lZ rc s z us ns ms):∀(k:Nat) (m:Nat×(Int×Int)×(Int×Int)),ms[k]? = some m->
  ns[k]? = some m.1/\z[m.1]? = some m.2.1/\∃is,nJ (kj m.2.1.1) rc.length is/\jL rc s (us++(ms.take k).map λm=>m.2.2) is=some m.2.2:=by
 induction h with
 | nil=>intro k m e;simp at e
 | @snoc ns ms n c o h hc is ho hf ih =>
  intro k m e;have ln:=h.len;by_cases hk:k<ms.length
  ·rw[d7 hk] at e;obtain⟨a,b,is',c1,d⟩:=ih k m e;refine⟨by rw[d7 (by lia)];exact a,b,is',c1,?_⟩
   rw[List.take_append_of_le_length (by lia)];exact d
  ·rw[d8 (by lia)] at e
   have hj:k - ms.length=0:=by
    have:=(ie.mp e).1;simp at this;lia
   rw[hj] at e;cases e;have nM:k=ms.length:=by lia
   subst nM;refine⟨by rw[d8 (by lia),ln];simp,hc,is,ho,?_⟩
   rw[List.take_append_of_le_length (by lia),eE];exact hf
theorem UZ(bz:List (Int×Int)):∀(z:List (Int×Int)) (i k n:Nat),(fu bz i z)[k]? = some n->(z.filter λc=>decide (c∈bz))[k]? = z[n - i]?/\i<=n
 | [],i,k,n,h=>by simp[fu] at h
 | q::z,i,k,n,h=>by
  have tl:∀k,(fu bz (i+1) z)[k]? = some n->(z.filter λc=>decide (c∈bz))[k]? = (q::z)[n - i]?/\i<=n:=λk h=>by
   obtain⟨h1,h2⟩:=UZ bz z (i+1) k n h;refine⟨?_,by lia⟩
   rw[h1,show n - i=(n - (i+1))+1 by lia,BG]
  rw[fu] at h;rw[qQ];by_cases hq:q∈bz
  ·rw[if_pos hq] at h;rw[if_pos (kJ hq)];cases k with
   | zero =>
    rw[List.getElem?_cons_zero] at h;cases h;exact⟨by simp,bH _⟩
   | succ k =>
    rw[BG] at h ⊢;exact tl k h
  ·rw[if_neg hq] at h;rw[if_neg (by simpa using hq)]
   exact tl k h
theorem afj{rc:List Int}{s:Int}{z bz:List (Int×Int)}{ms:List (Nat×(Int×Int)×(Int×Int))}(h:lZ rc s z bz (fu bz 0 z) ms){k:Nat}(hk:k<ms.length) :
  (z.filter λc=>decide (c∈bz))[k]? = some ms[k].2.1/\∃is,nJ (kj ms[k].2.1.1) rc.length is/\jL rc s (bz++(ms.take k).map λm=>m.2.2) is=some ms[k].2.2:=by
 obtain⟨a,b,is,c,d⟩:=h.at k ms[k] (aX hk);obtain⟨e,_⟩:=UZ bz z 0 k _ a;exact⟨by rw[e,BQ];exact b,is,c,d⟩
noncomputable def zU:List Addr->List (Int×Int)->Us:=λts z=>(ts.zip z).map λp=>(p.1,[p.2.1,p.2.2])
section
variable{K:W.Frag}{tl:TE}{g:TG}{tt:TT}{te:TE}{nt:Nat}{fv:List Nat}{Q:VK}{σ:St}{H:Hp}
theorem Zn.push{l t:Addr}{ts:List Addr}{z:List (Int×Int)}{c:Int×Int}(h:Zn H l ts z)(ht:H t=some (.tup [.int c.1,.int c.2])):Zn (upd H l (.lst (ts.map V.ref++[V.ref t]))) l (ts++[t]) (z++[c]):=by
 have ne:∀ {a:Addr} {xs:List V},H a=some (.tup xs)->a≠l:=λe q=>by rw[q,h.l] at e;cases e
 refine⟨by rw[aD,bZ];rfl,by simp[h.n],λi t' p e1 e2=>?_⟩
 by_cases hi:i<ts.length
 ·rw[d7 hi] at e1;rw[d7 (by rw[← h.n];exact hi)] at e2
  have:=h.t i t' p e1 e2;rw[aI (ne this)];exact this
 ·rw[d8 (by lia)] at e1
  rw[d8 (by rw[← h.n];lia),← h.n] at e2
  have hj:i - ts.length=0:=by
   have:=(ie.mp e1).1;simp at this;lia
  rw[hj] at e1 e2;cases e1;cases e2;rw[aI (ne ht)];exact ht
end
theorem U0{s:Int}(hs:0<=s):∀(rc:List Int) (r:Nat),(∀c∈rc,c<=60)->(fj s r rc).length<=rc.length*60
 | [],_,_=>eF _
 | c::rc,r,h=>by
  have ih:=U0 hs rc (r+1) λx hx=>h x (bW _ hx);have:=h c cA;rw[fj,fE,aR,oq,eY];lia
section
variable{X:Cx}
theorem IS:gC X (.type "int") (λxs H Q=>∃b,xs = [.bl b]/\Q (.int (if b then 1 else 0)) H):=by
 intro pins s σ H xs us Q I r h;obtain⟨b,rfl,q⟩:=h;obtain⟨u,rfl,ru⟩:=vals1 r;cases (show u=Value.bool b from ru);exact call_int_bool ⟨.int _,H,I.tok _,⟨_,rfl⟩,q⟩
theorem afk{pins:List (Addr×Obj)}{σ:St}{H:Hp}{s:Shared}{h':Heap}{tk:Nat}{m:Str->Option Value}(I:Inv X pins σ H s)(F:Fr X.base X.env.locals s.heap m)(F':Fr X.base X.env.locals h' m)(N':News X.base X.env.locals h' (x8 X.base s.heap X.env.locals)):Inv X pins σ H { s with heap:=h',toks:=tk }:=by
 have kk:∀b o,b≠X.env.locals->s.heap.get? b=some o->h'.get? b=some o:=λb o hb e=>by
  cases q:X.base.get? b with
  | some z =>
   have:=F.keep b z q;rw[e] at this;cases this;exact F'.keep b _ q
  | none=>exact(N' (b,o) (GD hb q e)).1
 have nl:∀b v,H b=some v->b≠X.env.locals:=λb v e z=>by rw[z,I.free] at e;cases e
 refine I.step (g':=s.gens) (d':=s.drawn) (ch:=[]) (λ_ z=>nomatch z) (λb o hb _ _ e _=>kk b o hb e) (λb o hb _ _ e _=>⟨o.slots,kk b o hb e⟩) (λ_ _ _ _ n=>n) (λb o _ e=>?_) (λ_ _ e=>e) (λ_ _ _ e=>e)
  (λb ps e=>⟨#[],by rw[e];simp⟩) (λm' hm=>?_) (λb v e=>(I.aK b v e).jw (λc o hc e'=>kk c o ?_ e') (λ_ e=>e) (λ_ _ e=>e)) I.bare
 ·by_cases hb:b=X.env.locals
  ·obtain⟨o',_,_,z,_⟩:=F'.ns;exact⟨o',by rw[hb];exact z⟩
  ·exact⟨o,kk b o hb e⟩
 ·have:m' = m:=by
   obtain⟨o1,HF,HG,g1,d1,k1,z1⟩:=hm;obtain⟨o2,HJ,HK,g2,d2,k2,z2⟩:=F.ns;rw[g1] at g2;cases g2;rw[d1] at d2;cases d2
   funext x
   rw[← z1 x,← z2 x]
  rw[this];exact F'.ns
 ·rcases hc with z | z
  ·rw[z];exact nl b v e
  ·exact nl c _ z
theorem afl(hc:X.calm=true):gC X (.builtin "max") (λxs H Q=>∃(p:Addr) (ns:List Int),xs = [.ref p]/\az X.K H p (ns.map V.int)/\0<ns.length/\∀M,M∈ns->(∀a,a∈ns->a<=M)->Q (.int M) H):=by
 intro pins s σ H xs us Q I r h;obtain⟨p,ns,rfl,hq,h0,q⟩:=h;obtain⟨u,rfl,ru⟩:=vals1 r;cases ru;obtain⟨aB,rv,pl,hz⟩:=I.list hq;obtain⟨m,F⟩:=I.fr;refine max_list_N (I.ok.hd hc) F (Ca (h:=s.heap)) pl.isList (intsAre_of rv) h0 λh' M t tk F' N' h1 h2=>?_;exact⟨.int M,H,afk I F F' N',⟨t,rfl⟩,q M h1 h2⟩
end
theorem U1{α:Type}:∀r:List α,(List.range r.length).filterMap (λk=>r[k]?)=r
 | []=>rfl
 | x::r=>by
  rw[eY,List.range_succ_eq_map,BD]
  show x::_=_;rw[List.filterMap_map];exact ig (x :: ·) (U1 r)
theorem U3{α β:Type}{f g:α->Option β}:∀ {l:List α},(∀x∈l,f x=g x)->l.filterMap f=l.filterMap g
 | [],_=>rfl
 | x::l,h=>by
  rw[BD,BD,h x cA,U3 λy hy=>h y (bW _ hy)]
theorem afm(aB:List Value):slicePick aB.toArray none none (some (-1))=aB.reverse.toArray:=by
 have e:sliceBounds none none (some (-1)) aB.toArray.size=((aB.length:Int) - 1,-1,-1):=by simp[sliceBounds]
 have e2:sliceRange ((aB.length:Int) - 1) (-1) (-1)=(List.range aB.length).map λk=>aB.length - 1 - k:=by
  unfold sliceRange;have c:(if (aB.length:Int) - 1 > -1 then((aB.length:Int) - 1 - -1 - -1 - 1) / (- -1) else 0).toNat=aB.length:=by
   rw[show (- -1:Int)=1 by decide,Int.ediv_one]
   split <;> lia
  simp only[show ¬ ((-1:Int) > 0) by decide,if_false]
  rw[c];refine Gf λk hk=>?_;have:=gT.mp hk;lia
 unfold slicePick;rw[e]
 show (List.filterMap _ (sliceRange ((aB.length:Int) - 1) (-1) (-1))).toArray=_;rw[e2,List.filterMap_map];have e3:=U1 aB.reverse;rw[List.length_reverse] at e3;refine ig List.toArray (Eq.trans ?_ e3);refine U3 λk hk=>?_;have:=gT.mp hk;rw[List.getElem?_reverse this];simp
section
variable{X:Cx}{e st:Expr}{te ts:TE}{pos p2:Pos}
def Ab(K:W.Frag)(te ts:TE):TE:=λσ H Q=>te σ H λx H1=>ts σ H1 λk H2=>∃a xs,x = .ref a/\k = .int (-1)/\az K H2 a xs/\∀p,H2 p=none->Q (.ref p) (upd H2 p (.lst xs.reverse))
theorem afn(he:PE X e te)(hs:PE X st ts):PE X (.Subscript e (.Slice none none (some st) p2) pos) (Ab X.K te ts):=by
 intro pins s σ H Q I h;refine Subscript_ (aW (he pins s σ H _ I h) λv s1 ⟨x,H1,I1,r1,q1⟩=>?_);refine wpAny_Slice ?_;rw[evalPart_none];refine bL (bL ?_);rw[evalPart_some];refine aW (hs pins s1 σ H1 _ I1 q1) λvk s3 ⟨k,H3,I3,r3,zz⟩=>?_;obtain⟨a,xs,ex,ek,hx,q⟩:=zz;subst ex ek;cases r1;obtain⟨t,rfl⟩:=r3;have I4:Inv X pins σ H3 { s3 with heap:=s3.heap.push { cls:=.type "slice",data:=.fields #[.none,.none,.int (-1) t] }}:=I3.kept (t':=s3.toks) λb ob q=>dg _ q;obtain⟨aB,r,ht,hz⟩:=I4.list hx;have hlen:=r.length
 show wpAny (model X.prog X.w) X.A (subscriptTail e (.Slice none none (some st) p2) (.ref a) (.ref s3.heap.objs.size)) (EP X pins σ Q) X.xe { s3 with heap:=s3.heap.push { cls:=.type "slice",data:=.fields #[.none,.none,.int (-1) t] }};refine tail_any (ops:=[.ref a,.ref s3.heap.objs.size]) (ht.isList.typeIs) (slot_list_getitem.lookup) ?_ (by with_unfolding_all rfl)
 refine wpAny_getItem_list_slice ht.isList (Heap.IsSliceOf.new ..) .none .none (.int _ _) (by simp) ?_ (by rw[List.size_toArray] <;> lia)
 rw[afm];refine⟨.ref _,_,I4.laid (t':=s3.toks) (o:=.lst xs.reverse) (λb ob q=>dg _ q) (bH _) ?_,rfl,q _ (I4.aK.fresh (bH _))⟩;exact⟨by rw[List.length_reverse];exact hz,_,0,r.reverse,fU _ rfl⟩
end
structure qy(xs:List Int)(n:Nat):Prop where
 n:xs.length=n
 b:∀x∈xs,0<=x/\x<2147483647
theorem qy.at{xs:List Int}{n:Nat}(h:qy xs n)(i:Nat):0<=xs.getD i 0/\xs.getD i 0<2147483647:=by
 by_cases hi:i<xs.length
 ·rw[show xs.getD i 0=xs[i] by simp[hi]];exact h.b _ (cO hi)
 ·rw[show xs.getD i 0=0 by simp;rw[sN (by lia)];rfl];lia
theorem qy.md{xs:List Int}{n:Nat}(h:qy xs n)(i:Nat){k:Int}(hk:0<k):0<=xs.getD i 0 % k/\xs.getD i 0 % k<k:=⟨fD _ (by lia),fB _ hk⟩
def afo:Sp:=λvs H Q _=>∃(c m:Int),vs = [.int c,.int m]/\0<=m/\m<=100/\∀(l:Addr) (ns:List Int) (H':Hp),aj H H'->H l=none->H' l=some (.lst (ns.map V.int))->qy ns m.toNat->Q (.ref l) H'
noncomputable def sumF(f:Nat->Int):Nat->Int
 | 0=>0
 | i+1=>sumF f i+f i
theorem U4{f:Nat->Int}(hd:∀i,f (i+1)<=f i)(a:Nat):∀b,f (a+b)<=f b
 | b=>by
  induction a with
  | zero=>rw[Nat.zero_add];exact lq _
  | succ a ih=>rw[show a+1+b=a+b+1 by lia];exact BA (hd _) ih
theorem U5{f:Nat->Int}(hd:∀i,f (i+1)<=f i)(a:Nat):∀b,sumF f (a+b)<=sumF f a+sumF f b
 | 0=>by simp[sumF]
 | b+1=>by
  have ih:=U5 hd a b;have:=U4 hd a b;rw[← Nat.add_assoc,sumF,sumF];lia
theorem U6{f:Nat->Int}(h1:1<=f 0)(hd:∀i,0<=f i/\f (i+1)<=f i):∀i:Nat,(1<=i->1<=sumF f i)/\0<=sumF f i/\sumF f i<=f 0*(i:Int)
 | 0=>by simp[sumF]
 | i+1=>by
  have ih:=U6 h1 hd i;have h2:=(hd i).1;have h3:f i<=f 0:=U4 (λi=>(hd i).2) i 0;have e:f 0*((i+1:Nat):Int)=f 0*(i:Int)+f 0:=by
   rw[show ((i+1:Nat):Int)=(i:Int)+1 by lia,Int.mul_add,Int.mul_one]
  refine⟨λ_=>?_,?_,?_⟩
  ·rw[sumF];by_cases hi:i=0
   ·subst hi;simp only[sumF];lia
   ·have:=ih.1 (by lia);lia
  ·rw[sumF];lia
  ·rw[sumF,e];lia
theorem U7{f:Nat->Int}(h1:1<=f 0)(h7:f 0<=10000000)(hd:∀i,0<=f i/\f (i+1)<=f i){n:Nat}(h2:2<=n)(aoP:n<=100):SwOk ((List.range n).map (sumF f)) (n:Int):=by
 refine⟨by simp,by lia,by rw[range_getD (by lia)];rfl,λi U8 hi=>?_,λi U8 hi=>?_,λa b ha hb oN=>?_⟩
 ·rw[aR,oq] at hi;rw[range_getD hi];have:=U6 h1 hd i;have e:f 0*(i:Int)<=10000000*(i:Int):=Int.mul_le_mul_of_nonneg_right h7 (by lia)
  have:=this.1 U8;lia
 ·rw[aR,oq] at hi;rw[range_getD hi,range_getD (by lia)]
  obtain⟨j,rfl⟩:∃j,i=j+1:=⟨i - 1,by lia⟩
  have:=(hd j).1;rw[sumF];show sumF f j<=_;lia
 ·rw[aR,oq] at oN;rw[range_getD oN,range_getD (by lia),range_getD (by lia)]
  exact U5 (λi=>(hd i).2) a b
noncomputable def gK(xs:List Int)(s0:Int):Nat->Int
 | 0=>s0
 | i+1=>gK xs s0 i - xs.getD (12+(1+(i:Int)) % 10).toNat 0 % (gK xs s0 i+1)
theorem DM(xs:List Int){s0:Int}(h:1<=s0):∀i,0<=gK xs s0 i/\gK xs s0 (i+1)<=gK xs s0 i:=by
 have h0:∀i,0<=gK xs s0 i:=λi=>by
  induction i with
  | zero=>simp only[gK];lia
  | succ i ih =>
   rw[gK];have:=fB (xs.getD (12+(1+(i:Int)) % 10).toNat 0) (show 0<gK xs s0 i+1 by lia)
   lia
 intro i;refine⟨h0 i,?_⟩;have:=h0 i;rw[gK];have:=fD (xs.getD (12+(1+(i:Int)) % 10).toNat 0) (show gK xs s0 i+1≠0 by lia)
 lia
def afp(K:W.Frag):Sp:=λvs H Q _=>∃(xa:Addr) (xs:List Int) (m:Int),vs = [.ref xa,.int m]/\H xa=some (.lst (xs.map V.int))/\qy xs 24/\2<=m/\m<=60/\
 ∀l sw H',aj H H'->H l=none->H' l=some (.lst (sw.map V.int))->SwOk sw m->Q (.ref l) H'
structure jk(H:Hp)(t:Addr)(z:List (Int×Int))(au sk:Int)(sw:List Int)(za:Addr)(bB:List Addr)(ca sa:Addr):Prop where
 o:H t=some (.tup [.ref za,.ref ca,.int au,.int sk,.ref sa])
 zn:Zn H za bB z
 c:H ca=some (.lst ((counts z).map V.int))
 s:H sa=some (.lst (sw.map V.int))
structure jm(z:List (Int×Int))(au sk:Int)(sw:List Int):Prop where
 zl:ZL z
 l1:1<=au
 l2:au<=1000000000
 l3:∀p∈z,au % p.2=0
 k0:0<=sk
 k1:sk<au
 so:SwOk sw (z.map (·.1)).sum
theorem jk.same{H H':Hp}{t:Addr}{z:List (Int×Int)}{au sk:Int}{sw:List Int}{za:Addr}{bB:List Addr}{ca sa:Addr}(h:jk H t z au sk sw za bB ca sa)(s:aj H H'):jk H' t z au sk sw za bB ca sa :=
 ⟨s _ _ h.o,h.zn.same s,s _ _ h.c,s _ _ h.s⟩
def afq(K:W.Frag):Sp:=λvs H Q _=>∃(c m:Int),vs = [.int c,.int m]/\∀t z au sk sw za bB ca sa H',aj H H'->H t=none->jk H' t z au sk sw za bB ca sa->jm z au sk sw->Q (.ref t) H'
noncomputable def bO(z:List (Int×Int))(au sk:Int)(sw:List Int)(nc:List (Int×Int)):Pl:=⟨counts z,au,sk,sw,nc⟩
theorem jm.pl{z:List (Int×Int)}{au sk:Int}{sw:List Int}(h:jm z au sk sw)(nc:List (Int×Int)):fq (bO z au sk sw nc):=adm h.zl h.l1 h.so
theorem afr(P:Pl)(r c b:Int):b+(c*(P.au / P.rc.getD r.toNat 0)+r*P.cy - b) % P.au=jH P r c b:=by
 unfold jH oO;rw[BB ((c*(P.au / P.rc.getD r.toNat 0)+r*P.cy) % P.au),By _ (Bw _),← BB]
def afs(K:W.Frag):Sp:=λvs H Q _=>∃(t:Addr) (z:List (Int×Int)) (au sk:Int) (sw:List Int) (za:Addr) (bB:List Addr) (ca sa:Addr) (r b:Int) (cl:Addr) (bC:List Addr) (cz:List (Int×Int)),vs = [.ref t,.int r,.int b,.ref cl]/\
 jk H t z au sk sw za bB ca sa/\jm z au sk sw/\0<=r/\r<(counts z).length/\Zn H cl bC cz/\iG (bO z au sk sw []) cz/\cz.length<=1000/\
 ∀l ts H',aj H H'->H l=none->(∀t∈ts,H t=none)->Zt H' l ts (dZ (bO z au sk sw []) (r,b) cz)->Q (.ref l) H'
def aft(K:W.Frag):Sp:=λvs H Q _=>∃(t:Addr) (z:List (Int×Int)) (au sk:Int) (sw:List Int) (za:Addr) (bB:List Addr) (ca sa:Addr) (r b:Int) (cl:Addr) (bC:List Addr) (cz:List (Int×Int)),vs = [.ref t,.int r,.int b,.ref cl]/\
 jk H t z au sk sw za bB ca sa/\jm z au sk sw/\0<=r/\r<(counts z).length/\Zn H cl bC cz/\iG (bO z au sk sw []) cz/\cz.length<=1000/\
 ∀u H',aj H H'->H u=none->H' u=some (.tup [.int (bf (bO z au sk sw []) (r,b) cz).1,.int (bf (bO z au sk sw []) (r,b) cz).2])->Q (.ref u) H'
theorem U9(P:Pl):∀(xs:List (Int×Int)) (s:Int×Int) {i:Nat},i<xs.length->∃x y,(dZ P s xs).getD i [] = [(bf P s (xs.take (i+1))).1,x,y,(bf P s (xs.take (i+1))).2]
 | [],_,i,h=>by simp at h
 | q::xs,s,0,_=>⟨q.2,rK P s q,by simp[dZ,qo,bf,dI]⟩
 | q::xs,s,i+1,h=>by
  obtain⟨x,y,e⟩:=U9 P xs (dI P s q) (i:=i) (by simpa using h)
  refine⟨x,y,?_⟩;rw[dZ,List.getD_cons_succ,e,List.take_succ_cons,bf]
structure ZP(z:List (Int×Int)):Prop where
 r:∀p∈z,1<=p.1/\p.1<=3/\1<=p.2/\p.2<=8
 s2:2<=(z.map (·.1)).sum
theorem U_:∀ {z:List (Int×Int)},(∀p∈z,1<=p.1/\p.1<=3)->0<=(z.map (·.1)).sum/\(z.map (·.1)).sum<=3*(z.length:Int)
 | [],_=>by simp
 | p::z,h=>by
  have ih:=U_ λq hq=>h q (bW _ hq);have:=h p cA;rw[dM,BN,eY];lia
theorem ZP.snoc{z:List (Int×Int)}(h:ZP z){p:Int×Int}(hp:1<=p.1/\p.1<=3/\1<=p.2/\p.2<=8):ZP (z++[p]):=by
 refine⟨λq hq=>?_,?_⟩
 ·rcases fM.mp hq with hq | hq
  ·exact h.r q hq
  ·rw[gw.mp hq];exact hp
 ·have:=h.s2;rw[bZ,List.sum_append];simp;lia
theorem ZP.zl{z:List (Int×Int)}(h:ZP z)(h1:1<=z.length)(h3:z.length<=3):ZL z:=by
 have s:=U_ λp hp=>⟨(h.r p hp).1,(h.r p hp).2.1⟩;have s2:=h.s2;refine⟨⟨h1,by lia,λp hp=>?_,s2,by lia⟩,?_,by lia⟩
 ·have:=h.r p hp;lia
 ·have b:=(C0 (m:=8) (by decide) z λp hp=>(h.r p hp).2.2).2
  have:=Tf (m:=8) (by decide) (show z.length<=5 by lia)
  have e:(8:Int) ^ 5=32768:=by decide
  lia
theorem afu{z:List (Int×Int)}{i:Nat}{p:Int×Int}(h:z[i]? = some p):counts (z.take (i+1))=counts (z.take i)++List.replicate p.1.toNat p.2:=by
 rw[take_succ_get h];simp[counts]
theorem Va{z:List (Int×Int)}(zl:ZL z){x:Int}(h0:0<=x)(h1:x<900\/x<1000000000 / eV z):1<=eV z*(1+x)/\eV z*(1+x)<=1000000000/\∀p∈z,eV z*(1+x) % p.2=0:=by
 have hb:=C0 (m:=60) (by decide) z λp hp=>(zl.ok.r p hp).2.2
 have hp:=zl.pr;have hm:∃m,1+x<=m/\eV z*m<=1000000000:=by
  rcases h1 with h1 | h1
  ·exact⟨900,by lia,by lia⟩
  ·exact⟨1000000000 / eV z,by lia,Int.mul_ediv_self_le (by lia)⟩
 obtain⟨m,m1,m2⟩:=hm;refine⟨?_,?_,λp hp=>Int.emod_eq_zero_of_dvd (Int.dvd_trans (Te hp) (Int.dvd_mul_right _ _))⟩
 ·have:=pL hb.1 (show 1<=1+x by lia) (by decide) (by lia);lia
 ·have:=pL (lq (eV z)) m1 (by lia) (by lia);lia
theorem Zn.one{H:Hp}{l t:Addr}{c:Int×Int}(h:H t=some (.tup [.int c.1,.int c.2]))(nl:H l=none):Zn (upd H l (.lst [.ref t])) l [t] [c]:=by
 refine⟨aD,rfl,λi t' p e1 e2=>?_⟩;cases i with
 | zero =>
  simp at e1 e2;subst e1 e2;rw[aI (bX h nl)];exact h
 | succ i=>simp at e1
theorem Vb(v:Int):∀k:Nat,(List.replicate k [V.int v]).flatten=(List.replicate k v).map V.int
 | 0=>rfl
 | k+1=>by rw[pS,ve,Vb v k,pS,dM];rfl
structure uz(rc:List Int)(nc:List (Int×Int)):Prop where
 n2:2<=nc.length
 n1:nc.length<=1000
 c:∀q∈nc,0<=q.1/\q.1<rc.length/\0<=q.2/\q.2<rc.getD q.1.toNat 0
theorem Vc{c:Int×Int}:∀(ms:List (Nat×(Int×Int)×(Int×Int))) (nc:List (Int×Int)),c∈o7 nc ms->c∈nc\/∃m∈ms,c=m.2.2
 | [],nc,h=>.inl h
 | m::ms,nc,h=>by
  have h:c∈o7 (nc.set m.1 m.2.2) ms:=h;rcases Vc ms _ h with h | ⟨m',hm,e⟩
  ·rcases Gj h with h | h
   ·exact .inl h
   ·exact .inr ⟨m,cA,h⟩
  ·exact .inr ⟨m',bW _ hm,e⟩
theorem Vd{rc:List Int}{s:Int}{bz:List (Int×Int)}{ms:List (Nat×(Int×Int)×(Int×Int))}(h2:2<=rc.length)(Ve:rc.length<=15)(wQ:∀c∈rc,s<c/\c<=60)(hs:0<=s)(L:lZ rc s (gi rc s) bz (fu bz 0 (gi rc s)) ms):uz rc (o7 (gi rc s) ms):=by
 have gd:∀i:Nat,i<rc.length->rc.getD i 0∈rc:=λi hi=>by rw[show rc.getD i 0=rc[i] by simp[hi]];exact cO hi
 have ge:∀(rc:List Int) (r:Nat),(∀c∈rc,s<c)->rc.length<=(fj s r rc).length:=by
  intro rc
  induction rc with
  | nil=>intro r _;exact eF _
  | cons c rc ih =>
   intro r h;have:=ih (r+1) λx hx=>h x (bW _ hx);have:=h c cA;rw[fj,fE,aR,oq,eY];lia
 have lo:=ge rc 0 λc hc=>(wQ c hc).1;have hi:=U0 hs rc 0 λc hc=>(wQ c hc).2;refine⟨by rw[DG];exact cX h2 lo,by rw[DG];exact cX hi (by lia),λq hq=>?_⟩
 rcases Vc ms _ hq with hq | ⟨m,hm,rfl⟩
 ·obtain⟨j,j1,j2,j3,j4⟩:=IP rc 0 q hq;rw[show q.1.toNat=j by lia]
  lia
 ·obtain⟨k,hk,rfl⟩:=mH.mp hm;obtain⟨_,is,ord,ff⟩:=afj L hk;unfold jL at ff;obtain⟨_,as,bs,e,_⟩:=List.find?_eq_some_iff_append.mp ff;have wG:ms[k].2.2∈is.flatMap (jK rc s):=by rw[e];simp
  obtain⟨o,ho,o1,o2,o3⟩:=IQ wG;have ol:=gT.mp (ord.1.mem_iff.mp ho);have:=wQ _ (gd o ol);rw[show ms[k].2.2.1.toNat=o by lia]
  lia
theorem afv{rc:List Int}(h2:2<=rc.length)(Ve:rc.length<=15)(wQ:∀c∈rc,0<c/\c<=60):uz rc (gi rc 0):=by
 have:=Vd (s:=0) (bz:=[]) (ms:=[]) h2 Ve wQ (lq _) (by
  have e:∀(z:List (Int×Int)) (i:Nat),fu [] i z = []:=by
   intro z
   induction z with
   | nil=>intro i;rfl
   | cons q z ih=>intro i;simp[fu,ih]
  rw[e];exact .nil)
 exact this
def afw(K:W.Frag)(cs:List Addr)(P:Addr)(pos:Pos)(qual:Str):Sp:=λvs H Q _=>∃(t:Addr) (z:List (Int×Int)) (au sk:Int) (sw:List Int) (za:Addr) (bB:List Addr) (ca sa:Addr) (c:Int),vs = [.ref t,.int c]/\
 jk H t z au sk sw za bB ca sa/\jm z au sk sw/\cT P pos qual H/\
 ∀C p nc fp H',(∀b o,H b=some o->b≠P->H' b=some o)->C∈cs->cY K C H' p (bO z au sk sw nc) fp->uz (counts z) nc->Q (.ref p) H'
theorem jk.but{H H':Hp}{P:Addr}{pos:Pos}{qual:Str}{t:Addr}{z:List (Int×Int)}{au sk:Int}{sw:List Int}{za:Addr}{bB:List Addr}{ca sa:Addr}(h:jk H t z au sk sw za bB ca sa)(T:cT P pos qual H)(k:∀b o,H b=some o->b≠P->H' b=some o):jk H' t z au sk sw za bB ca sa:=by
 have g:∀ {a:Addr} {o:HO},H a=some o->(∀ps,o≠.fO ps)->H' a=some o:=λe n=>k _ _ e (T.ne e n);exact⟨g h.o (λ_ z=>nomatch z),⟨g h.zn.l (λ_ z=>nomatch z),h.zn.n,λi t p e1 e2=>g (h.zn.t i t p e1 e2) (λ_ z=>nomatch z)⟩,g h.c (λ_ z=>nomatch z),g h.s (λ_ z=>nomatch z)⟩
noncomputable def gj(nc:List (Int×Int))(f m:Int):List (Int×Int):=(nc.drop f.toNat).take m.toNat
theorem Vf{nc:List (Int×Int)}{f m:Int}{c:Int×Int}(h:c∈gj nc f m):c∈nc:=Gi (pR h)
theorem Vg{nc:List (Int×Int)}{f m:Int}(h0:0<=f)(h1:0<=m)(h:f+m<=nc.length):(gj nc f m).length=m.toNat:=by
 unfold gj;rw[d9,xN];lia
theorem IT{nc:List (Int×Int)}{f:Int}{i:Nat}{c:Int×Int}(h0:0<=f)(h:nc[(f+(i:Int)).toNat]? = some c):(nc.drop f.toNat).take (i+1)=(nc.drop f.toNat).take i++[c]:=by
 refine take_succ_get ?_;rw[List.getElem?_drop,show f.toNat+i=(f+(i:Int)).toNat by lia];exact h
def afx(K:W.Frag)(cs:List Addr)(CA:Addr):Sp:=λvs H Q _=>∃(C p ap:Addr) (P:Pl) (fp:List Addr) (q:Ak) (m b dx:Addr),vs = [.ref p,.ref ap]/\C∈cs/\cY K C H p P fp/\j9 K CA H ap q m b dx/\Iq P.nc.length q/\P.nc.length<=1000000/\
 ∀l ts H',aj H H'->H l=none->Zn H' l ts (gj P.nc q.first q.many)->Q (.ref l) H'
def afy(K:W.Frag)(cs:List Addr)(CA:Addr):Sp:=λvs H Q _=>∃(C p ap:Addr) (k:Int) (P:Pl) (fp:List Addr) (q:Ak) (m b dx:Addr),vs = [.ref p,.int k,.ref ap]/\C∈cs/\cY K C H p P fp/\j9 K CA H ap q m b dx/\Iq P.nc.length q/\P.nc.length<=1000000/\
 ∀l ts H',aj H H'->H l=none->Zn H' l ts (gj P.nc q.first q.many)->Q (.ref l) H'
structure Dr where
 n:Int
 q:Ak
 c:List (Int×Int)
noncomputable def o8(n:Int)(ap l:Addr):List (Str×V):=[("number",.int n),("ask",.ref ap),("cells",.ref l)]
structure jM(K:W.Frag)(CA CD:Addr)(H:Hp)(p:Addr)(d:Dr)(dx ap l:Addr)(ts:List Addr)(m b b_:Addr):Prop where
 o:H p=some (.ins CD dx (o8 d.n ap l))
 a:j9 K CA H ap d.q m b b_
 c:Zn H l ts d.c
theorem jM.same{K:W.Frag}{CA CD:Addr}{H H':Hp}{p:Addr}{d:Dr}{dx ap l:Addr}{ts:List Addr}{m b b_:Addr}(h:jM K CA CD H p d dx ap l ts m b b_)(s:aj H H'):jM K CA CD H' p d dx ap l ts m b b_:=⟨s _ _ h.o,h.a.same s,h.c.same s⟩
def afz(K:W.Frag)(cs:List Addr)(CA CD:Addr):Sp:=λvs H Q _=>∃(C p pl ap dx:Addr) (n:Int) (P:Pl) (fp:List Addr) (q:Ak) (m b b_:Addr),vs = [.ref p,.ref pl,.int n,.ref ap]/\H p=some (.ins CD dx [])/\C∈cs/\cY K C H pl P fp/\p≠pl/\p∉fp/\j9 K CA H ap q m b b_/\Iq P.nc.length q/\P.nc.length<=1000000/\
 ∀l ts H',H l=none->SameBut p H H'->jM K CA CD H' p ⟨n,q,gj P.nc q.first q.many⟩ dx ap l ts m b b_->Q .aO H'
structure Kn where
 n:Int
 f:Int
 m:Int
 w:Bool
 bh:List Int
 lV:Option Int
 c:List (Int×Int)
structure iH(H:Hp)(t:Addr)(k:Kn)(b cl:Addr)(bC:List Addr):Prop where
 o:H t=some (.tup [.int k.n,.int k.f,.int k.m,.bl k.w,.ref b,jI k.lV,.ref cl])
 b:H b=some (.tup (k.bh.map V.int))
 c:Zn H cl bC k.c
theorem iH.same{H H':Hp}{t:Addr}{k:Kn}{b cl:Addr}{bC:List Addr}(h:iH H t k b cl bC)(s:aj H H'):iH H' t k b cl bC:=⟨s _ _ h.o,s _ _ h.b,h.c.same s⟩
structure gm(H:Hp)(l:Addr)(ts:List Addr)(ks:List Kn):Prop where
 l:H l=some (.lst (ts.map V.ref))
 n:ts.length=ks.length
 t:∀(i:Nat) (t:Addr) (k:Kn),ts[i]? = some t->ks[i]? = some k->∃b cl bC,iH H t k b cl bC
theorem gm.same{H H':Hp}{l:Addr}{ts:List Addr}{ks:List Kn}(h:gm H l ts ks)(s:aj H H'):gm H' l ts ks :=
 ⟨s _ _ h.l,h.n,λi t k e1 e2=>let ⟨b,cl,bC,a⟩:=h.t i t k e1 e2;⟨b,cl,bC,a.same s⟩⟩
theorem gm.at{H:Hp}{l:Addr}{ts:List Addr}{ks:List Kn}(h:gm H l ts ks){i:Nat}(hi:i<ks.length):∃t b cl bC,(ts.map V.ref)[i]? = some (.ref t)/\iH H t ks[i] b cl bC:=by
 have ht:i<ts.length:=by rw[h.n];exact hi
 obtain⟨b,cl,bC,a⟩:=h.t i ts[i] ks[i] (aX ht) (aX hi);exact⟨ts[i],b,cl,bC,by simp[ht],a⟩
theorem gm.sq{K:W.Frag}{H:Hp}{l:Addr}{ts:List Addr}{ks:List Kn}(h:gm H l ts ks):az K H l (ts.map V.ref):=az.of h.l
theorem iH.fJ{H:Hp}{l t:Addr}{xs ys:List V}{k:Kn}{b cl:Addr}{bC:List Addr}(hl:H l=some (.lst xs))(hc:cl≠l)(h:iH H t k b cl bC):iH (upd H l (.lst ys)) t k b cl bC:=by
 have ne:∀ {a:Addr} {us:List V},H a=some (.tup us)->a≠l:=λe z=>by rw[z,hl] at e;cases e
 refine⟨(aI (ne h.o)).trans h.o,(aI (ne h.b)).trans h.b,h.c.keep (aI hc) λt ht=>?_⟩;obtain⟨i,hi,et⟩:=mH.mp ht;have c_:i<k.c.length:=by rw[← h.c.n];exact hi
 have:=h.c.t i t _ (by rw[← et];exact aX hi) (aX c_)
 exact aI (ne this)
structure nN(H0 H:Hp)(l:Addr)(ts:List Addr)(ks:List Kn):Prop where
 hl:H l=some (.lst (ts.map V.ref))
 n:ts.length=ks.length
 nl:H0 l=none
 t:∀(i:Nat) (t:Addr) (k:Kn),ts[i]? = some t->ks[i]? = some k->∃b cl bC,cl≠l/\iH H t k b cl bC
theorem nN.Ac{H0 H:Hp}{l:Addr}{ts:List Addr}{ks:List Kn}(h:nN H0 H l ts ks):gm H l ts ks:=⟨h.hl,h.n,λi t k e1 e2=>let ⟨b,cl,bC,_,a⟩:=h.t i t k e1 e2;⟨b,cl,bC,a⟩⟩
theorem nN.same{H0 H H':Hp}{l:Addr}{ts:List Addr}{ks:List Kn}(h:nN H0 H l ts ks)(s:aj H H'):nN H0 H' l ts ks :=
 ⟨s _ _ h.hl,h.n,h.nl,λi t k e1 e2=>let ⟨b,cl,bC,n,a⟩:=h.t i t k e1 e2;⟨b,cl,bC,n,a.same s⟩⟩
theorem nN.snoc{H0 H:Hp}{l:Addr}{ts:List Addr}{ks:List Kn}(h:nN H0 H l ts ks){t:Addr}{k:Kn}{b cl:Addr}{bC:List Addr}(hk:iH H t k b cl bC)(hc:cl≠l):nN H0 (upd H l (.lst (ts.map V.ref++[.ref t]))) l (ts++[t]) (ks++[k]):=by
 refine⟨by rw[aD,bZ];rfl,by simp[h.n],h.nl,λi t' k' e1 e2=>?_⟩
 have hn:=h.n;by_cases hi:i<ts.length
 ·rw[d7 hi] at e1;rw[d7 (by lia)] at e2
  obtain⟨b',uA,Ad,n',a'⟩:=h.t i t' k' e1 e2;exact⟨b',uA,Ad,n',a'.fJ h.hl n'⟩
 ·rw[d8 (by lia)] at e1
  rw[d8 (by lia)] at e2
  have c_:i - ts.length=0:=by
   have:=(ie.mp e1).1;simp at this;lia
  rw[c_] at e1;rw[← hn,c_] at e2;simp at e1 e2;subst e1 e2;exact⟨b,cl,bC,hc,hk.fJ h.hl hc⟩
structure uB(nc:List (Int×Int))(k:Kn):Prop where
 f0:0<=k.f
 m0:1<=k.m
 m1:k.m<=16
 fit:k.f+k.m<=nc.length
 c:k.c=gj nc k.f k.m
 r:nG k.bh
 l:∀x,k.lV=some x->0<=x/\x<=10000000000000
structure uC(nc:List (Int×Int))(ks:List Kn):Prop where
 ok:∀k∈ks,uB nc k
 up:ks.Pairwise λa b=>a.n<b.n
 n7:ks.length<=7
def Vh(k:Kn)(q:Ak):Prop:=q.first=k.f/\q.many=k.m/\q.behind=k.bh/\q.kind=(if k.w then "write" else "read")/\q.TQ=k.lV
def afA(K:W.Frag)(C:Addr):Sp:=λvs H Q _=>∃(t:Addr) (k:Kn) (b cl:Addr) (bC:List Addr) (c:Int) (nc:List (Int×Int)),vs = [.ref t,.int c]/\iH H t k b cl bC/\uB nc k/\nc.length<=1000000/\
 ∀q p mk bb dx H',Vh k q->aj H H'->H p=none->j9 K C H' p q mk bb dx->Q (.ref p) H'
def afB:Sp:=λvs H Q _=>∃n:Int,vs = [.int n]/\Q (.bl true) H
noncomputable def fS(P:Pl)(cz:List (Int×Int)):Int:=(cz.map λq=>P.au / P.rc.getD q.1.toNat 0).sum
def afC(K:W.Frag)(cs:List Addr)(CA CD:Addr):Sp:=λvs H Q _=>∃(C p dp:Addr) (P:Pl) (fp:List Addr) (d:Dr) (dx ap l:Addr) (ts:List Addr) (m b b_:Addr),vs = [.ref p,.ref dp]/\C∈cs/\cY K C H p P fp/\fq P/\jM K CA CD H dp d dx ap l ts m b b_/\iG P d.c/\d.c.length<=1000/\∀H',aj H H'->Q (.int (fS P d.c)) H'
structure g8(K:W.Frag)(CA CD:Addr)(H:Hp)(l:Addr)(ps:List Addr)(ds:List Dr):Prop where
 l:H l=some (.lst (ps.map V.ref))
 n:ps.length=ds.length
 t:∀(i:Nat) (p:Addr) (d:Dr),ps[i]? = some p->ds[i]? = some d->∃dx ap l ts m b b_,jM K CA CD H p d dx ap l ts m b b_
theorem g8.same{K:W.Frag}{CA CD:Addr}{H H':Hp}{l:Addr}{ps:List Addr}{ds:List Dr}(h:g8 K CA CD H l ps ds)(s:aj H H'):g8 K CA CD H' l ps ds :=
 ⟨s _ _ h.l,h.n,λi p d e1 e2=>let ⟨dx,ap,l,ts,m,b,b_,a⟩:=h.t i p d e1 e2;⟨dx,ap,l,ts,m,b,b_,a.same s⟩⟩
noncomputable def qz(P:Pl)(r b:Int)(cs:List (List (Int×Int))):Int:=cs.foldl (λx c=>max x (bf P (r,b) c).2) (b+(cs.map (fS P)).sum)
def afD(K:W.Frag)(cs:List Addr)(CA CD:Addr):Sp:=λvs H Q _=>∃(C p dl:Addr) (P:Pl) (fp:List Addr) (r b:Int) (ps:List Addr) (ds:List Dr),vs = [.ref p,.int r,.int b,.ref dl]/\C∈cs/\cY K C H p P fp/\fq P/\0<=r/\r<P.rc.length/\g8 K CA CD H dl ps ds/\ds.length<=100/\(∀d∈ds,iG P d.c/\d.c.length<=1000)/\
 ∀H',aj H H'->Q (.int (qz P r b (ds.map (·.c)))) H'
theorem afE{cs:List (List (Int×Int))}{f:List (Int×Int)->Int}:∀ {x M:Int},(M=x\/M∈cs.map f)->x<=M->(∀y∈cs.map f,y<=M)->cs.foldl (λx c=>max x (f c)) x=M:=by
 induction cs with
 | nil=>intro x M h _ _;rcases h with h | h;exact h.symm;cases h
 | cons c cs ih =>
  intro x M h h1 h2;rw[oh];have hc:=h2 (f c) (by simp)
  refine ih ?_ (by lia) λy hy=>h2 y (by simp only[List.map_cons,List.mem_cons];exact .inr hy)
  rcases h with h | h
  ·left;lia
  ·rw[dM,cE] at h;rcases h with h | h
   ·left;lia
   ·exact .inr h
theorem Vi{sw:List Int}{n:Int}(so:SwOk sw n)(i:Nat):0<=sw.getD i 0/\sw.getD i 0<=1000000000:=by
 by_cases hi:i<sw.length
 ·by_cases h0:i=0
  ·subst h0;rw[so.z];lia
  ·have:=so.pos i (by lia) hi;lia
 ·rw[show sw.getD i 0=0 by simp;rw[sN (by lia)];rfl];lia
theorem Vj{P:Pl}(ok:fq P)(l2:P.au<=1000000000)(s q:Int×Int)(q0:0<=q.1)(q1:q.1<P.rc.length):s.2+1<=(dI P s q).2/\(dI P s q).2<=s.2+3000000000\/P.au / P.rc.getD q.1.toNat 0=0/\s.2<=(dI P s q).2/\(dI P s q).2<=s.2+3000000000:=by
 have l1:=ok.au;have c:=ok.c q.1.toNat (by lia)
 have b:=C1 ok q.1 q.2 (s.2+P.sw.getD (s.1 - q.1).natAbs 0);have w:=Vi ok.sw (s.1 - q.1).natAbs;have d0:0<=P.au / P.rc.getD q.1.toNat 0:=Bx (by lia) (by lia)
 have d1:P.au / P.rc.getD q.1.toNat 0<=P.au:=Int.ediv_le_self _ (by lia)
 have e:(dI P s q).2=jH P q.1 q.2 (s.2+P.sw.getD (s.1 - q.1).natAbs 0)+P.au / P.rc.getD q.1.toNat 0:=rfl;rw[e];by_cases z:P.au / P.rc.getD q.1.toNat 0=0
 ·right;lia
 ·left;lia
theorem DN{P:Pl}(ok:fq P)(l2:P.au<=1000000000):∀(cz:List (Int×Int)) (s:Int×Int),iG P cz->s.2<=(bf P s cz).2/\(bf P s cz).2<=s.2+3000000000*(cz.length:Int)
 | [],s,_=>by simp[bf]
 | q::cz,s,h=>by
  obtain⟨q0,q1,_⟩:=h q cA;have ih:=DN ok l2 cz (dI P s q) λx hx=>h x (bW _ hx);have b:=Vj ok l2 s q q0 q1;rw[bf,eY];lia
def IU(ks iI:List Kn):Prop:=iI.length=ks.length/\∀(i:Nat) (k:Kn),ks[i]? = some k->∃x,0<=x/\x<=10000000000000/\iI[i]? = some { k with lV:=some x }
theorem IU.ok{nc:List (Int×Int)}{ks iI:List Kn}(r:IU ks iI)(h:uC nc ks):uC nc iI:=by
 have g:∀(i:Nat) (hi:i<iI.length),∃(hj:i<ks.length) (x:Int),0<=x/\x<=10000000000000/\iI[i] = { ks[i] with lV:=some x }:=λi hi=>by
  have hj:i<ks.length:=by rw[← r.1];exact hi
  obtain⟨x,x0,x1,e⟩:=r.2 i ks[i] (aX hj);rw[aX hi] at e;exact⟨hj,x,x0,x1,dh e⟩
 refine⟨λk hk=>?_,?_,by rw[r.1];exact h.n7⟩
 ·obtain⟨i,hi,rfl⟩:=mH.mp hk;obtain⟨hj,x,x0,x1,e⟩:=g i hi;have o:=h.ok ks[i] (cO hj);rw[e];exact⟨o.f0,o.m0,o.m1,o.fit,o.c,o.r,λy hy=>by cases hy;exact⟨x0,x1⟩⟩
 ·rw[List.pairwise_iff_getElem];intro i j hi hj rP;obtain⟨jG,_,_,_,e1⟩:=g i hi;obtain⟨ki,_,_,_,e2⟩:=g j hj;rw[e1,e2];exact Gn.mp h.up i j jG ki rP
def afF(K:W.Frag):Sp:=λvs H Q _=>∃(t sp kl:Addr) (z:List (Int×Int)) (au sk:Int) (sw:List Int) (za:Addr) (bB:List Addr) (ca sa:Addr) (r b:Int) (cM:List Addr) (ks:List Kn),vs = [.ref t,.ref sp,.ref kl]/\
 jk H t z au sk sw za bB ca sa/\jm z au sk sw/\H sp=some (.tup [.int r,.int b])/\0<=r/\r<(counts z).length/\0<=b/\b<=2000000000000/\gm H kl cM ks/\(∀k∈ks,iG (bO z au sk sw []) k.c/\k.c.length<=16)/\ks.length<=10/\
 ∀l ts iI H',aj H H'->H l=none->gm H' l ts iI->IU ks iI->Q (.ref l) H'
theorem afG(a b c d e f g:V):iF [a,b,c,d,e,f,g] none (some 5) = [a,b,c,d,e]:=rfl
theorem afH(a b c d e f g:V):iF [a,b,c,d,e,f,g] (some 6) none = [g]:=rfl
theorem IV(q:Int×Int):∀(z:List (Int×Int)) (i:Nat) (acc:List (List Key×V)),(q∉z->c8 (iU i z acc) (kT q)=c8 acc (kT q))/\(q∈z->∃j:Nat,z[j]? = some q/\c8 (iU i z acc) (kT q)=some (.int ((i+j:Nat):Int)))
 | [],i,acc=>⟨λ_=>rfl,λh=>by cases h⟩
 | x::z,i,acc=>by
  obtain⟨h1,h2⟩:=IV q z (i+1) (putK acc (kT x) (.int i));constructor
  ·intro h;rw[iU,h1 λw=>h (bW _ w),Hl,if_neg];intro e;exact h (HR e▸cA)
  ·intro h;rw[iU];by_cases hz:q∈z
   ·obtain⟨j,e1,e2⟩:=h2 hz;exact⟨j+1,by simpa using e1,by rw[e2];congr 2;lia⟩
   ·have:q=x:=(cE.mp h).resolve_right hz;subst this;exact⟨0,by simp,by rw[h1 hz,Hl,if_pos rfl];rfl⟩
theorem Vk{z:List (Int×Int)}{q:Int×Int}(h:q∈z):∃j:Nat,z[j]? = some q/\c8 (ql z) (kT q)=some (.int (j:Int)):=by
 obtain⟨j,e1,e2⟩:=(IV q z 0 []).2 h;exact⟨j,e1,by rw[Nat.zero_add] at e2;exact e2⟩
theorem afI{z:List (Int×Int)}{q:Int×Int}(h:q∉z):c8 (ql z) (kT q)=none:=(IV q z 0 []).1 h
theorem afJ{nc:List (Int×Int)}{j:Nat}{q:Int×Int}(h:nc[j]? = some q):gj nc (j:Int) 1 = [q]:=by
 have:=IT (nc:=nc) (f:=(j:Int)) (i:=0) (c:=q) (by lia) (by simpa using h)
 simpa[gj] using this
structure wR(rc:List Int)(nc:List (Int×Int))(r:Int)(xs:List Int):Prop where
 i:∀x∈xs,(r,x)∈nc/\0<=x/\x<rc.getD r.toNat 0
 n:xs.length<=100
theorem wR.sub{rc:List Int}{nc:List (Int×Int)}{r:Int}{xs ys:List Int}(h:wR rc nc r xs)(s:∀y∈ys,y∈xs)(n:ys.length<=xs.length):wR rc nc r ys:=⟨λy hy=>h.i y (s y hy),cX n h.n⟩
theorem afK{ns:List Int}{k:Int}(h:0<=k):iF (ns.map V.int) (some k) none=(ns.drop k.toNat).map V.int:=by
 unfold iF;have e:_H.bQ (ns.map V.int).length 0 (some k)=min k.toNat ns.length:=by
  simp only[_H.bQ];rw[if_neg (by lia),aR]
 have e2:_H.bQ (ns.map V.int).length (ns.map V.int).length none=ns.length:=by simp[_H.bQ]
 rw[e,e2,← BH,BH];rw[ou (by simp)]
 by_cases hk:k.toNat<=ns.length
 ·rw[xQ hk,BH]
 ·rw[Gs (by lia),List.drop_of_length_le (by simp),List.drop_of_length_le (by lia)];rfl
def afL(K:W.Frag)(cs:List Addr):Sp:=λvs H Q _=>∃(C p t sp:Addr) (z:List (Int×Int)) (au sk:Int) (sw:List Int) (za:Addr) (bB:List Addr) (ca sa:Addr) (nc:List (Int×Int)) (fp:List Addr) (r b c:Int),vs = [.ref p,.ref t,.ref sp,.int c]/\C∈cs/\cY K C H p (bO z au sk sw nc) fp/\uz (counts z) nc/\
 jk H t z au sk sw za bB ca sa/\jm z au sk sw/\H sp=some (.tup [.int r,.int b])/\0<=r/\r<(counts z).length/\∀l ts ks H',aj H H'->H l=none->gm H' l ts ks->uC nc ks->Q (.ref l) H'
def afM(K:W.Frag)(cs:List Addr):Sp:=λvs H Q _=>∃(C sc p t sp:Addr) (z:List (Int×Int)) (au sk:Int) (sw:List Int) (za:Addr) (bB:List Addr) (ca sa:Addr) (nc:List (Int×Int)) (fp:List Addr) (r b most:Int) (ns:List Int),vs = [.ref sc,.ref p,.ref t,.ref sp,.int most]/\az K H sc (ns.map V.int)/\ns.length<=63/\C∈cs/\cY K C H p (bO z au sk sw nc) fp/\uz (counts z) nc/\
 jk H t z au sk sw za bB ca sa/\jm z au sk sw/\H sp=some (.tup [.int r,.int b])/\0<=r/\r<(counts z).length/\0<=b/\b<=1000000000000/\1<=most/\most<=7/\∀l ts ks H',aj H H'->H l=none->gm H' l ts ks->uC nc ks->Q (.ref l) H'
theorem jm.part{z:List (Int×Int)}{au sk:Int}{sw:List Int}(h:jm z au sk sw){i:Nat}(hi:i<(counts z).length):1<=au / (counts z).getD i 0:=by
 obtain⟨y,hy,e⟩:=rG (get_mem (zI (counts z) hi));have r:=h.zl.ok.r y hy;have d:=Int.emod_add_mul_ediv au y.2;rw[h.l3 y hy,Int.zero_add] at d;have l1:=h.l1;rw[e];by_cases q:1<=au / y.2
 ·exact q
 ·have:y.2*(au / y.2)<=0:=Int.mul_nonpos_of_nonneg_of_nonpos (by lia) (by lia)
  lia
theorem afN{z:List (Int×Int)}{au sk:Int}{sw:List Int}(h:jm z au sk sw){cz:List (Int×Int)}(s:Int×Int)(hc:iG (bO z au sk sw []) cz)(hn:cz≠[]):s.2+1<=(bf (bO z au sk sw []) s cz).2:=by
 have pk:=h.pl [];have l2:(bO z au sk sw []).au<=1000000000:=h.l2;cases cz with
 | nil=>exact absurd rfl hn
 | cons q cz =>
  obtain⟨q0,q1,_⟩:=hc q cA;have q1':q.1<((counts z).length:Int):=q1;have b:=Vj pk l2 s q q0 q1;have p:=h.part (i:=q.1.toNat) (by lia)
  have e:=DN pk l2 cz (dI (bO z au sk sw []) s q) λx hx=>hc x (bW _ hx);rw[bf];rcases b with b | ⟨b,_⟩
  ·lia
  ·have b:au / (counts z).getD q.1.toNat 0=0:=b;lia
theorem uB.cells{z:List (Int×Int)}{au sk:Int}{sw:List Int}{nc:List (Int×Int)}{k:Kn}(h:uB nc k)(nk:uz (counts z) nc)(ok:jm z au sk sw):iG (bO z au sk sw []) k.c/\k.c.length<=16:=by
 have m0:=h.m0;have m1:=h.m1;rw[h.c];refine⟨λq hq=>?_,by rw[Vg h.f0 (by lia) h.fit];lia⟩
 have:=nk.c q (Vf hq);refine⟨this.1,this.2.1,this.2.2.1,?_⟩;obtain⟨y,hy,e⟩:=rG (get_mem (zI (counts z) (show q.1.toNat<(counts z).length by lia)))
 have:=ok.zl.ok.r y hy;lia
def DO(nc:List (Int×Int))(k:Kn)(d:Dr):Prop:=d.n=k.n/\Vh k d.q/\d.c=gj nc k.f k.m
structure afO(K:W.Frag)(cs:List Addr)(CA CD:Addr)(H:Hp)(sa p:Addr)(r b:Int)(kl dl:Addr)(z:List (Int×Int))(au sk:Int)(sw:List Int)(nc:List (Int×Int))(ks:List Kn)(ds:List Dr):Prop where
 sp:∃za bB ca DP,jk H sa z au sk sw za bB ca DP
 wo:jm z au sk sw
 pl:∃C fp,C∈cs/\cY K C H p (bO z au sk sw nc) fp
 nk:uz (counts z) nc
 r0:0<=r
 r1:r<(counts z).length
 b0:0<=b
 b1:b<=1000000000000
 kn:∃cM,gm H kl cM ks
 ok:uC nc ks
 du:∃ps,g8 K CA CD H dl ps ds
 dk:ds.length=ks.length/\∀(i:Nat) (k:Kn) (d:Dr),ks[i]? = some k->ds[i]? = some d->DO nc k d
def afP(K:W.Frag)(cs:List Addr)(CA CD:Addr)(P:Addr)(pos:Pos)(qual:Str):Sp:=λvs H Q _=>∃(sc:Addr) (ns:List Int) (most:Int),vs = [.ref sc,.int most]/\az K H sc (ns.map V.int)/\ns.length<=63/\1<=most/\most<=7/\cT P pos qual H/\
 ∀t sa p r b kl dl z au sk sw nc ks ds H',H' t=some (.tup [.ref sa,.ref p,.int r,.int b,.ref kl,.ref dl])->az K H' sc (ns.map V.int)->afO K cs CA CD H' sa p r b kl dl z au sk sw nc ks ds->Q (.ref t) H'
theorem az.but{K:W.Frag}{H H':Hp}{P:Addr}{pos:Pos}{qual:Str}{a:Addr}{xs:List V}(h:az K H a xs)(T:cT P pos qual H)(k:∀b o,H b=some o->b≠P->H' b=some o):az K H' a xs:=by
 rcases h with(h | ⟨o,h⟩) | h
 ·exact .inl (.inl (k _ _ h (T.ne h (λ_ z=>nomatch z))))
 ·exact .inl (.inr ⟨o,k _ _ h (T.ne h (λ_ z=>nomatch z))⟩)
 ·exact .inr h
theorem jM.fJ{K:W.Frag}{CA CD:Addr}{H:Hp}{D p:Addr}{xs ys:List V}{d:Dr}{dx ap l:Addr}{ts:List Addr}{m b b_:Addr}(hD:H D=some (.lst xs))(nl:l≠D)(h:jM K CA CD H p d dx ap l ts m b b_):jM K CA CD (upd H D (.lst ys)) p d dx ap l ts m b b_:=by
 have ne:∀ {a:Addr} {o:HO},H a=some o->(∀zs,o≠.lst zs)->a≠D:=λe n z=>by rw[z,hD] at e;exact n _ (dh e).symm
 have t:∀ {a:Addr} {us:List V},H a=some (.tup us)->a≠D:=λe=>ne e λ_ z=>nomatch z;have i:∀ {a C dx:Addr} {fs:List (Str×V)},H a=some (.ins C dx fs)->a≠D:=λe=>ne e λ_ z=>nomatch z;refine⟨(aI (i h.o)).trans h.o,⟨(aI (i h.a.o)).trans h.a.o,(aI (t h.a.ms)).trans h.a.ms,(aI (t h.a.bh)).trans h.a.bh⟩,h.c.keep (aI nl) λu hu=>?_⟩;obtain⟨i,hi,et⟩:=mH.mp hu;have c_:i<d.c.length:=by rw[← h.c.n];exact hi
 have:=h.c.t i u _ (by rw[← et];exact aX hi) (aX c_)
 exact aI (t this)
structure o9(K:W.Frag)(CA CD:Addr)(H:Hp)(D:Addr)(ps:List Addr)(ds:List Dr):Prop where
 hl:H D=some (.lst (ps.map V.ref))
 n:ps.length=ds.length
 t:∀(i:Nat) (p:Addr) (d:Dr),ps[i]? = some p->ds[i]? = some d->∃dx ap l ts m b b_,l≠D/\jM K CA CD H p d dx ap l ts m b b_
theorem o9.DQ{K:W.Frag}{CA CD:Addr}{H:Hp}{D:Addr}{ps:List Addr}{ds:List Dr}(h:o9 K CA CD H D ps ds):g8 K CA CD H D ps ds:=⟨h.hl,h.n,λi p d e1 e2=>let ⟨dx,ap,l,ts,m,b,b_,_,a⟩:=h.t i p d e1 e2;⟨dx,ap,l,ts,m,b,b_,a⟩⟩
theorem o9.same{K:W.Frag}{CA CD:Addr}{H H':Hp}{D:Addr}{ps:List Addr}{ds:List Dr}(h:o9 K CA CD H D ps ds)(s:aj H H'):o9 K CA CD H' D ps ds :=
 ⟨s _ _ h.hl,h.n,λi p d e1 e2=>let ⟨dx,ap,l,ts,m,b,b_,n,a⟩:=h.t i p d e1 e2;⟨dx,ap,l,ts,m,b,b_,n,a.same s⟩⟩
theorem o9.snoc{K:W.Frag}{CA CD:Addr}{H:Hp}{D:Addr}{ps:List Addr}{ds:List Dr}(h:o9 K CA CD H D ps ds){p:Addr}{d:Dr}{dx ap l:Addr}{ts:List Addr}{m b b_:Addr}(hd:jM K CA CD H p d dx ap l ts m b b_)(nl:l≠D):o9 K CA CD (upd H D (.lst (ps.map V.ref++[.ref p]))) D (ps++[p]) (ds++[d]):=by
 refine⟨by rw[aD,bZ];rfl,by simp[h.n],λi p' d' e1 e2=>?_⟩
 have hn:=h.n;by_cases hi:i<ps.length
 ·rw[d7 hi] at e1;rw[d7 (by lia)] at e2
  obtain⟨nj,Ae,l',fz,m',b',Af,n',a'⟩:=h.t i p' d' e1 e2;exact⟨nj,Ae,l',fz,m',b',Af,n',a'.fJ h.hl n'⟩
 ·rw[d8 (by lia)] at e1
  rw[d8 (by lia)] at e2
  have c_:i - ps.length=0:=by
   have:=(ie.mp e1).1;simp at this;lia
  rw[c_] at e1;rw[← hn,c_] at e2;simp at e1 e2;subst e1 e2;exact⟨dx,ap,l,ts,m,b,b_,nl,hd.fJ h.hl nl⟩
theorem afQ(xs:List V)(k:Nat):iF xs none (some (k:Int))=xs.take k:=by
 unfold iF;have e:_H.bQ xs.length 0 none=0:=rfl;have e2:_H.bQ xs.length xs.length (some (k:Int))=min k xs.length:=by
  simp only[_H.bQ];rw[if_neg (by lia)];simp
 rw[e,e2,List.drop_zero,BQ];by_cases h:k<=xs.length
 ·rw[xQ h]
 ·rw[Gs (by lia),ou (bH _),ou (by lia)]
theorem Vl(z:List (Int×Int))(au sk:Int)(sw:List Int)(nc:List (Int×Int)):∀(cz:List (Int×Int)) (s:Int×Int),bf (bO z au sk sw nc) s cz=bf (bO z au sk sw []) s cz
 | [],_=>rfl
 | q::cz,s=>Vl z au sk sw nc cz (dI (bO z au sk sw nc) s q)
theorem afR{α β γ:Type}{as:List α}{bs:List β}{f:α->γ}{g:β->γ}(hn:as.length=bs.length)(h:∀(i:Nat) (a:α) (b:β),as[i]? = some a->bs[i]? = some b->f a=g b):as.map f=bs.map g:=by
 refine List.ext_getElem (by simpa using hn) λi h1 h2=>?_
 rw[List.getElem_map,List.getElem_map];have i1:i<as.length:=by simpa using h1
 have i2:i<bs.length:=by simpa using h2
 exact h i _ _ (aX i1) (aX i2)
theorem bN{N ps:List Str}{scope:Scope}(h:bA N ps scope:=by exact⟨rfl,rfl,rfl,by decide +kernel,rfl,by decide +kernel,by decide +kernel⟩):bA N ps scope:=h
class Vm where
 nx:St->Hp->Prop
def Later[c:Vm](σ:St)(H:Hp):Prop:=c.nx σ H
def Ag(t:TS):TS:=λD σ H=>∃M:St->Hp->Prop,t { D with nx:=M } σ H/\∀fV H1,M fV H1->@Later ⟨D.nx⟩ fV H1
theorem qA{X:Cx}{st:Stmt}{t:TS}(h:PS X st t):PS X st (Ag t):=acP h
theorem IW{c:Vm}{x:Option V}{σ:St}{H:Hp}:@Later c (x::σ) H=c.nx (x::σ) H:=rfl
theorem DR{a b c:Nat}(h1:b+1<=c)(h2:c<a)(h3:a<=b):False:=by lia
theorem Vn{a b c:Nat}(h1:b+1<=c)(h3:a<=b):a<=c:=by lia
theorem DS:∀(names:List (Str×NameKind)) (n:Nat) (a b:List (Str×Addr)),cellsFrom n names (a++b)=cellsFrom n names a++b
 | [],n,a,b=>rfl
 | (nm,k)::r,n,a,b=>by
  unfold cellsFrom;split
  ·exact DS r (n+1) ((nm,n)::a) b
  ·exact DS r n a b
theorem Vo{α:Type}{x:Str}{v:α}:∀ {a b:List (Str×α)},(a++b).lookup x=some v->a.lookup x=some v\/(a.lookup x=none/\b.lookup x=some v)
 | [],b,h=>.inr ⟨rfl,h⟩
 | (k,w)::a,b,h=>by
  rw[pO,vg] at h;rw[vg];cases e:x == k with
  | true=>rw[e] at h;exact .inl h
  | false=>rw[e] at h;exact Vo h
theorem Vp{α:Type}{x:Str}{v:α}:∀ {a b:List (Str×α)},a.lookup x=none->b.lookup x=some v->(a++b).lookup x=some v
 | [],b,_,h=>h
 | (k,w)::a,b,n,h=>by
  rw[vg] at n;rw[pO,vg];cases e:x == k with
  | true=>rw[e] at n;cases n
  | false=>rw[e] at n;exact Vp n h
theorem DT{x:Str}{c:Addr}:∀ {names:List (Str×NameKind)} {n:Nat} {acc:List (Str×Addr)},(cellsFrom n names acc).lookup x=some c->(x,NameKind.cell)∈names\/acc.lookup x=some c
 | [],n,acc,h=>.inr h
 | (nm,k)::r,n,acc,h=>by
  unfold cellsFrom at h;split at h
  ·rename_i hk;have hk:k = .cell:=by simpa using hk
   rcases DT h with z | z
   ·exact .inl (bW _ z)
   ·rw[vg] at z;cases e:x == nm with
    | true=>rw[lE.mp e,hk];exact .inl (cA ..)
    | false=>rw[e] at z;exact .inr z
  ·rcases DT h with z | z
   ·exact .inl (bW _ z)
   ·exact .inr z
theorem afS{M:Model}{A:Around}{E:Value->Shared->Prop}{s:Shared}{scope:Scope}{globals:Addr}{closure:List (Str×Addr)}{qual:Str}{func:Option Addr}{code:Value}{outer:Env}{builtins:Addr}{Q:Env->Shared->Prop}
  (hQ:∀h',h'.Ns s.heap.objs.size (λ_=>none)->(∀b o,s.heap.get? b=some o->h'.get? b=some o)->(∀n c,(n,c)∈cellsFrom (s.heap.objs.size+1) scope.names []->h'.IsCell c none/\s.heap.objs.size+1<=c)->(cellsFrom (s.heap.objs.size+1) scope.names []).Pairwise (λx y=>x.2≠y.2)->
   Q (newEnv scope s.heap.objs.size globals (cellsFrom (s.heap.objs.size+1) scope.names closure) qual func code (some outer) builtins) { s with heap:=h' }) :
  wpAny M A (newFunctionEnv scope globals closure [] qual func code (some outer) builtins) Q E s:=by
 simp only[newFunctionEnv,Option.isSome_some,if_true];refine aM (wpAny_alloc ?_);refine aM (wpAny_layCells _ (λname kind cells=>by cases Dv:kind == NameKind.cell <;> simp[Dv]) _ _ _ _ ?_)
 have ok:=cellsFrom_ok scope.names (s.heap.push { cls:=.type "dict",data:=.dict #[] }) (s.heap.objs.size+1) [] ⟨λ_ _ hm=>(nomatch hm),List.Pairwise.nil⟩ (by rw[vc];exact bH _)
 rw[vc] at ok;rw[show ({ s with heap:=s.heap.push { cls:=.type "dict",data:=.dict #[] }}:Shared).heap.objs.size=s.heap.objs.size+1 from vc ..];rw[List.forIn_nil];refine aM (bL (bL ?_));exact hQ _ ((Heap.Ns.new s.heap (.type "dict")).keeps (pushCells_keeps _ _)) (λb o e=>pushCells_keeps _ _ b o (dg _ e)) ok.empty ok.apart
noncomputable def iJ(X:Cx)(scope:Scope)(cl:List (Str×Addr))(N:List Str)(C:Addr)(s:Shared)(H:Hp)(fp:List Addr):Cx where
 prog:=X.prog
 w:=X.w
 K:=X.K
 mg:=X.mg
 base:=X.base
 A:=X.A
 N:=N
 bR:=s
 iy:=H
 env:=compEnvC scope (cellsFrom (C+1) scope.names cl) C X.env
 outer:=X.stack
 stack:=X.stack
 ex:=fp
 fn:=λx=>scope.names.lookup x == some .cell
 calm:=X.calm
 pn:=[]
 xe:=λ_ _=>False
structure cN(X:Cx)(scope:Scope)(cl:List (Str×Addr))(N:List Str)(nt:Nat)(fv:List Nat):Prop where
 oR:closureFor scope X.env=pure cl
 kind:scope.kind = .function
 names:∀y∈scope.names,y.2 = .local->scope.names.lookup y.1=some .local
 cells:∀y∈scope.names,y.2 = .cell->scope.names.lookup y.1=some .cell/\cl.lookup y.1=none
 sub:∀p∈cl,X.env.cells.lookup p.1=some p.2
 has:∀y∈scope.names,y.2 = .free->∃c,cl.lookup y.1=some c
 free:fv.map (λj=>X.N[j]?)=(N.drop nt).map some
 fk:∀y∈N.drop nt,scope.names.lookup y=some .free/\X.env.scope.names.lookup y=some .cell
 le:nt<=N.length
 nd:N.Nodup
theorem cN.of{X:Cx}{scope:Scope}{cl:List (Str×Addr)}{N:List Str}{nt:Nat}{fv:List Nat}(oR:closureFor scope X.env=pure cl)(kind:scope.kind = .function)
  (cells:(scope.names.all λy=>y.2 != .cell || (scope.names.lookup y.1 == some .cell && (cl.lookup y.1).isNone))=true) (names:(scope.names.all λy=>y.2 != .local || scope.names.lookup y.1 == some .local)=true)
  (sub:AllP (λp:Str×Addr=>X.env.cells.lookup p.1=some p.2) cl) (has:(scope.names.all λy=>y.2 != .free || (cl.lookup y.1).isSome)=true)
  (free:fv.map (λj=>X.N[j]?)=(N.drop nt).map some) (fk:((N.drop nt).all λy=>scope.names.lookup y == some .free && X.env.scope.names.lookup y == some .cell)=true) (le:nt<=N.length) (nd:N.Nodup) :
  cN X scope cl N nt fv where
 oR:=oR
 kind:=kind
 cells:=λy hy hl=>by
  have:=pN.mp cells y hy;rw[hl] at this;simpa using this
 names:=λy hy hl=>by have:=pN.mp names y hy;simp[hl] at this;exact this
 sub:=sub.mem
 has:=λy hy hl=>by
  have:=pN.mp has y hy;rw[hl] at this;exact qT.mp (by simpa only[bne_self_eq_false,Bool.false_or] using this)
 free:=free
 fk:=λy hy=>by have:=pN.mp fk y hy;simpa using this
 le:=le
 nd:=nd
section
variable{X:Cx}{pins:List (Addr×Obj)}{σ:St}{H:Hp}{s:Shared}{scope:Scope}{cl:List (Str×Addr)}{N:List Str}{nt:Nat}{fv:List Nat}{fp:List Addr}
theorem cN.cell(S:cN X scope cl N nt fv){x:Str}{c:Addr}(e:cl.lookup x=some c):X.env.cells.lookup x=some c:=S.sub (x,c) (qk e)
theorem cN.kinds(S:cN X scope cl N nt fv){l:List (Str×Addr)}{C:Addr}{x:Str}(h:(compEnvC scope l C X.env).kindOf x=some .cell\/(compEnvC scope l C X.env).kindOf x=some .free):scope.names.lookup x=some .free\/scope.names.lookup x=some .cell:=by
 have h:(scope.names.map λ(n,k)=>if (k == NameKind.free && X.env.scope.kind == .function && X.env.kindOf n == some .cell) then(n,NameKind.cell) else(n,k)).lookup x=some .cell\/
  (scope.names.map λ(n,k)=>if (k == NameKind.free && X.env.scope.kind == .function && X.env.kindOf n == some .cell) then(n,NameKind.cell) else(n,k)).lookup x=some .free:=h
 rcases h with h | h
 ·obtain⟨k0,e,z | ⟨z,_⟩⟩:=CQ h
  ·rw[← z] at e;exact .inr e
  ·rw[z] at e;exact .inl e
 ·obtain⟨k0,e,z | ⟨z,_⟩⟩:=CQ h
  ·rw[← z] at e;exact .inl e
  ·rw[z] at e;exact .inl e
theorem cN.uD(S:cN X scope cl N nt fv){C:Addr}{x:Str}{c:Addr}(e:(cellsFrom (C+1) scope.names cl).lookup x=some c) :
  ((x,c)∈cellsFrom (C+1) scope.names []/\scope.names.lookup x=some .cell)\/(cl.lookup x=some c/\scope.names.lookup x≠some .cell):=by
 have q:cellsFrom (C+1) scope.names cl=cellsFrom (C+1) scope.names []++cl:=DS scope.names (C+1) [] cl;rw[q] at e;rcases Vo e with z | ⟨_,z⟩
 ·rcases DT z with y | y
  ·exact .inl ⟨qk z,(S.cells _ y rfl).1⟩
  ·cases y
 ·refine .inr ⟨z,λy=>?_⟩
  have:=(S.cells _ (qk y) rfl).2;rw[this] at z;cases z
theorem cN.ok(S:cN X scope cl N nt fv)(I:Inv X pins σ H s)(hf:∀b∈fp,oE X pins H b)(cF:∀b∈fp,b<s.heap.objs.size){C:Addr}(hC:s.heap.objs.size<=C)
  (own:∀n c,(n,c)∈cellsFrom (C+1) scope.names []->C+1<=c) (apart:(cellsFrom (C+1) scope.names []).Pairwise (λx y=>x.2≠y.2)) :
  (iJ X scope cl N C s H fp).Ok where
 mod:=I.ok.mod
 kind:=S.kind
 glob:=I.ok.glob
 blt:=I.ok.blt
 above:=hC
 inj:=λx y c h1 h2=>by
  have old:∀ {x:Str} {c:Addr},cl.lookup x=some c->c<s.heap.objs.size:=λe=>by
   obtain⟨v,o,z,_⟩:=I.cell _ _ (S.cell e);exact cD z
  rcases S.uD h1 with⟨a,_⟩ | ⟨a,_⟩
  ·rcases S.uD h2 with⟨b,_⟩ | ⟨b,_⟩
   ·exact name_of_addr apart a b
   ·exact(DR (own _ _ a) (old b) hC).elim
  ·rcases S.uD h2 with⟨b,_⟩ | ⟨b,_⟩
   ·exact(DR (own _ _ b) (old a) hC).elim
   ·exact I.ok.inj x y c (S.cell a) (S.cell b)
 has:=λx h=>by
  rcases S.kinds h with e | e
  ·obtain⟨c,z⟩:=S.has _ (qk e) rfl;exact qT.mp (BV scope.names (C+1) cl (.inr (by rw[z];rfl)))
  ·exact qT.mp (BV scope.names (C+1) cl (.inl e))
 sV:=λx c h e=>by
  have h:(scope.names.lookup x == some .cell)=true:=h;rcases S.uD e with⟨a,_⟩ | ⟨_,a⟩
  ·exact Vn (own _ _ a) hC
  ·exact absurd (by simpa using h) a
 hd:=I.ok.hd
 frames:=I.ok.frames
 vt:=.inl rfl
 vv:=λb hb=>⟨λz=>absurd (gA (cF b hb) (by rw[z];exact hC)) (kG _),λx c h=>by
  rcases S.uD h with⟨a,_⟩ | ⟨a,_⟩
  ·intro z;rw[z] at a;exact DR (own _ _ a) (cF b hb) hC
  ·exact(hf b hb).2.2.2.2.1 x c (S.cell a)⟩
 bs:=I.bs
 iz:=cX I.ok.iz I.sz
 sW:=λb o e hb=>by
  rcases(hf b hb).2.2.2.1 with z | z
  ·exact I.ok.sW b o e z
  ·exact absurd (gA (cD e) (cX I.ok.iz z)) (kG _)
 sX:=λb hb hm=>by
  rcases cE.mp (I.GF b hm) with z | z
  ·exact(hf b hb).2.1 z
  ·exact(hf b hb).2.2.1 z
 i6:=I.stack
 mQ:=I.Cd
theorem cN.inv(S:cN X scope cl N nt fv)(I:Inv X pins σ H s)(hf:∀b∈fp,oE X pins H b)(cF:∀b∈fp,b<s.heap.objs.size){h1:Heap}{tk:Nat}{D C:Addr}
  (hD:s.heap.objs.size<=D) (hC:s.heap.objs.size<=C) (Ah:D<C) (old:∀b o,s.heap.get? b=some o->h1.get? b=some o) (kY:h1.get? D=some { cls:=.type "list",data:=.seq #[] }) (mY:h1.Ns C λ_=>none)
  (own:∀n c,(n,c)∈cellsFrom (C+1) scope.names []->h1.IsCell c none/\C+1<=c) (apart:(cellsFrom (C+1) scope.names []).Pairwise (λx y=>x.2≠y.2)) :
  Inv (iJ X scope cl N C s H fp) [] (jF σ nt fv) (upd H D (.lst [])) { s with heap:=h1,toks:=tk }:=by
 have I1:Inv X pins σ (upd H D (.lst [])) { s with heap:=h1,toks:=tk }:=I.laid old hD ⟨eF _,[],0,.nil,kY⟩;have hlen:fv.length=(N.drop nt).length:=by simpa using ig List.length S.free
 refine⟨S.ok I hf cF hC (λn c e=>(own n c e).2) apart,rfl,I.bare,Un.laid old hD (I.aK.fresh hD),⟨_,mY,λi x v e1 e2 e3=>?_⟩,λx c e=>?_,?_,λx c e=>?_,λp hp=>absurd (show p∈([]:List (Addr×Obj)) from hp) (by simp),I1.aK,?_⟩
 ·unfold jF at e2;have hi:nt<=i:=by
   by_cases h:nt<=i
   ·exact h
   ·rw[d7 (by simp;lia),List.getElem?_replicate] at e2
    split at e2 <;> cases e2
  rw[d8 (by simpa using hi)] at e2
  simp only[List.length_replicate,List.getElem?_map] at e2;cases hj:fv[i - nt]? with
  | none=>rw[hj] at e2;simp at e2
  | some j =>
   rw[hj] at e2;simp only[Option.map_some,Option.some.injEq] at e2;have hN:X.N[j]? = some x:=by
    have q:=ig (λl=>l[i - nt]?) S.free;simp only[List.getElem?_map,hj,Option.map_some,List.getElem?_drop] at q;rw[show nt+(i - nt)=i by lia] at q
    have Ai:N[i]? = some x:=e1;rw[Ai] at q;exact(dh q)
   have Iu:σ[j]? = some (some v):=by
    cases z:σ[j]? with
    | none=>rw[z] at e2;simp at e2
    | some y=>rw[z] at e2;simp at e2;rw[e2]
   have afT:x∈N.drop nt:=by
    refine jv (i:=i - nt) ?_;rw[List.getElem?_drop,show nt+(i - nt)=i by lia];exact e1
   obtain⟨f1,f2⟩:=S.fk x afT;obtain⟨m,hn,hl⟩:=I1.loc;obtain⟨u,ru,lk⟩:=hl j x v hN Iu (.inr (.inl f2));refine⟨u,ru,?_⟩;rcases lk with⟨k,_⟩ | ⟨_,c,ec,hc⟩
   ·have k:X.env.scope.names.lookup x=some .local:=k;rw[f2] at k;cases k
   ·obtain⟨c',e'⟩:=S.has _ (qk f1) rfl;have:=S.cell e';rw[ec] at this;cases this;have lk2:(cellsFrom (C+1) scope.names cl).lookup x=some c:=by
     rw[show cellsFrom (C+1) scope.names cl=cellsFrom (C+1) scope.names []++cl from DS scope.names (C+1) [] cl];refine Vp ?_ e';cases q:(cellsFrom (C+1) scope.names []).lookup x with
     | none=>rfl
     | some c2 =>
      rcases DT q with y | y
      ·have:=(S.cells _ y rfl).1;rw[f1] at this;cases this
      ·cases y
    refine .inr ⟨?_,c,lk2,hc⟩;rcases e3 with z | z | z
    ·obtain⟨k0,ek,q | ⟨_,q⟩⟩:=CQ (show (scope.names.map λ(n,k)=>if (k == NameKind.free && X.env.scope.kind == .function && X.env.kindOf n == some .cell) then(n,NameKind.cell) else(n,k)).lookup x=some .local from z)
     ·rw[f1] at ek;cases ek;cases q
     ·cases q
    ·exact .inl z
    ·exact .inr z
 ·rcases S.uD e with⟨a,_⟩ | ⟨a,_⟩
  ·exact⟨_,(own _ _ a).1⟩
  ·obtain⟨v,z⟩:=I1.cell x c (S.cell a);exact⟨v,z⟩
 ·show upd H D (.lst []) C=none;rw[aI (pU Ah)];exact I.aK.fresh hC
 ·rcases S.uD e with⟨a,_⟩ | ⟨a,_⟩
  ·have q:=(own _ _ a).2;rw[aI (λz=>by rw[z] at q;exact DR q Ah (bH C))]
   exact I.aK.fresh (Vn q hC)
  ·exact I1.jy x c (S.cell a)
 ·unfold jF
  show _=N.length;have:=S.le;simp only[List.length_append,List.length_replicate,List.length_map,List.length_drop] at hlen ⊢;lia
end
section
variable{X:Cx}{tg iter elt:Expr}{ifs:List Expr}{scope:Scope}{cl:List (Str×Addr)}{N:List Str}{nt:Nat}{fv:List Nat}{pos:Pos}{wi:TI}{g:TG}{tt:TT}{te:TE}
theorem Vq{pins:List (Addr×Obj)}{σ:St}{s2:Shared}{H2:Hp}{it:Addr}{fp:List Addr}{tn:Nat->Heap->Prop}{J:It}{Q:VK}{RR:Value->Addr->Result->Shared->Prop}{E:Value->Shared->Prop}
  (S:cN X scope cl N nt fv) (hc:X.calm=true)
  (hg:∀C s H fp,PG (iJ X scope cl N C s H fp) tg g) (ht:∀C s H fp,wg (iJ X scope cl N C s H fp) ifs tt) (he:∀C s H fp,PE (iJ X scope cl N C s H fp) elt te)
  (I2:Inv X pins σ H2 s2) (T:Turn X.prog X.w X.K tg J fp it tn) (cg:tn 0 s2.heap) (f2:∀b∈fp,oE X pins H2 b)
  (hq:∀D,H2 D=none->∃W:Nat->Nat->List V->St->Hp->Prop,
   (∃m,W 0 m [] (jF σ nt fv) (upd H2 D (.lst [])))/\∀i m ys aC H2,W i m ys aC H2->H2 D=some (.lst ys)/\ys.length<sizeLine/\
    ((J.stop i H2/\Q (.ref D) H2)\/(J.go i H2/\∀x H3,J.qb i H2 x H3->g x aC H3 λcH H4=>tt cH H4 λb H5=>if b=true then te cH H5 λv H6=>H6 D=some (.lst ys)/\∃m',m' < m/\W (i+1) m' (ys++[v]) cH (upd H6 D (.lst (ys++[v])))
     else ∃m',m' < m/\W (i+1) m' ys cH H5)))
  (hRR:∀(D C:Addr) (s':Shared) (H':Hp) (m':Str->Option Value),Inv X pins σ H' s'->s'.heap.Ns C m'->s2.heap.objs.size<=C->H' C=none->Q (.ref D) H'->RR (.ref D) C (.ok .next) s') :
  wpAny (model X.prog X.w) X.A (newList []) (λacc lR=>wpAny (model X.prog X.w) X.A (newFunctionEnv scope X.env.globals cl [] X.env.qual none .none (some X.env)) (λVr CO =>
   codeAny (model X.prog X.w) X.A (.compStart (.ListComp elt [⟨tg,iter,ifs,0⟩] scope pos) 0 (.ref it) acc { Vr with scope:=relabel scope X.env }) (RR acc Vr.locals) CO) E lR) E s2:=by
 refine xZ (afS λoJ IX DU DV DW=>?_);dsimp only at IX DU DV DW ⊢;generalize IY:s2.heap.push { cls:=.type "list",dict:=none,data:=.seq ([]:List Value).toArray }=HH at IX DU DV DW ⊢;have hC:HH.objs.size=s2.heap.objs.size+1:=by rw[← IY,vc]
 have Ah:s2.heap.objs.size<HH.objs.size:=by rw[hC];exact Gr _
 have IZ:s2.heap.objs.size<=HH.objs.size:=jR Ah;have old:∀b o,s2.heap.get? b=some o->oJ.get? b=some o:=λb o e=>DU b o (IY▸dg _ e);have kY:oJ.get? s2.heap.objs.size=some { cls:=.type "list",data:=.seq #[] }:=DU _ _ (IY▸fU _ rfl);have cF:∀b∈fp,b<s2.heap.objs.size:=λb hb=>by
  obtain⟨o,e,_⟩:=T.obj 0 _ cg b hb;exact cD e
 have hD:H2 s2.heap.objs.size=none:=I2.aK.fresh (bH _);obtain⟨W,⟨m0,w0⟩,turn⟩:=hq _ hD;have vG:tn 0 oJ:=T.keep _ _ _ cg λb _ o e=>old b o e;have I3:=S.inv I2 f2 cF (h1:=oJ) (tk:=s2.toks) (D:=s2.heap.objs.size) (C:=HH.objs.size) (bH _) IZ Ah old kY IX DV DW;have nD:∀b∈fp,b≠s2.heap.objs.size:=λb hb=>dD (cF b hb);have tH:∀ {H':Hp},(∀b∈fp,H' b=none)->∀b∈fp,oE (iJ X scope cl N HH.objs.size s2 H2 fp) [] H' b:=λ{H'} hn b hb=>by
  have ok:=S.ok I2 f2 cF IZ (λn c e=>(DV n c e).2) DW;refine⟨hn b hb,(ok.vv b hb).1,ok.sX b hb,.inl hb,(ok.vv b hb).2,λp hp=>absurd (show p∈([]:List (Addr×Obj)) from hp) (by simp)⟩
 have loop:∀lR:Shared,lR = { s2 with heap:=oJ,toks:=s2.toks }->
   codeAny (model X.prog X.w) X.A (.compLoop (.ListComp elt [⟨tg,iter,ifs,0⟩] scope pos) 0 (.ref it) (.ref s2.heap.objs.size) (compEnvC scope (cellsFrom (HH.objs.size+1) scope.names cl) HH.objs.size X.env)) (RR (.ref s2.heap.objs.size) HH.objs.size) lR:=by
  rintro lR rfl;refine acw (λn s'=>∃i ys bK H',Inv (iJ X scope cl N HH.objs.size s2 H2 fp) [] bK H' s'/\tn i s'.heap/\(∀b∈fp,H' b=none)/\W i n ys bK H') ?_ m0
   ⟨0,[],_,_,I3,vG,λb hb=>by rw[aI (nD b hb)];exact(f2 b hb).1,w0⟩
  rintro n s3 ⟨i,ys,fc,H3,J3,t3,tK,w3⟩;obtain⟨eD,hys,afU⟩:=turn i n ys fc H3 w3;rcases afU with⟨stop,qn⟩ | ⟨go,step⟩
  ·refine aW (T.done (iJ X scope cl N HH.objs.size s2 H2 fp) rfl rfl rfl hc i [] s3 fc H3 (λ_ _=>False) J3 (tH tK) t3 stop) λr s4 ⟨hr,I4⟩=>?_;subst hr;have I5:Inv X pins σ H3 s4:=I2.Ci (ch:=fp) I4.os I4.base I4.aK I4.bare λb hb=>⟨(f2 b hb).2.2.2.1,(f2 b hb).2.1,(f2 b hb).2.2.2.2.1,(f2 b hb).2.2.2.2.2⟩;obtain⟨m,hn,_⟩:=I4.loc;exact hRR _ _ s4 H3 m I5 hn IZ I4.free qn
  ·refine aW (T.item (iJ X scope cl N HH.objs.size s2 H2 fp) rfl rfl rfl hc i [] s3 fc H3 (λ_ _=>False) J3 (tH tK) t3 go) λr s4 ⟨u,hr,h4⟩=>?_;subst hr;refine aW h4 λ_ s5 ⟨x,H5,I5,r5,zz⟩=>?_;obtain⟨y5,tL,GR⟩:=zz;have GS:=I5.pinned (tH GR) (T.obj _ _ tL);refine aW (hg _ _ _ _ _ s5 fc H5 x u _ GS r5 (step x H5 y5)) λ_ s6 ⟨q9,H6,I6,q6⟩=>?_;have Vs:∀ {jW:St} {H7:Hp} {s7:Shared},Inv (iJ X scope cl N HH.objs.size s2 H2 fp) ([]++yC fp s5.heap) jW H7 s7->tn (i+1) s7.heap/\∀b∈fp,H7 b=none:=λ{jW H7 s7} I7=>by
    refine⟨T.keep _ _ _ tL λb hb o e=>(I7.pin (b,o) (eZ _ (eZ _ (Cp hb e)))).1,λb hb=>?_⟩;obtain⟨o,e,d⟩:=T.obj _ _ tL b hb;exact(I7.pin (b,o) (eZ _ (eZ _ (Cp hb e)))).2.1
   refine aW (ht _ _ _ _ _ s6 q9 H6 _ I6 q6) λb s7 ⟨H7,I7,q7⟩=>?_;cases b with
   | false =>
    obtain⟨m',hm,w7⟩:=q7;obtain⟨t7,n7⟩:=Vs I7;exact⟨m',hm,i+1,ys,q9,H7,I7.yD,t7,n7,w7⟩
   | true =>
    refine aW (he _ _ _ _ _ s7 q9 H7 _ I7 q7) λu8 s8 ⟨v8,H8,I8,r8,zz⟩=>?_;obtain⟨eD8,m',hm,w8⟩:=zz;refine aW (lO (X:=iJ X scope cl N HH.objs.size s2 H2 fp) _ s8 q9 H8 (.ref s2.heap.objs.size) [v8] (.ref s2.heap.objs.size) [u8] (λ_ H9=>∃m',m' < n/\W (i+1) m' (ys++[v8]) q9 H9) I8 rfl (.cons r8 .nil)
     ⟨s2.heap.objs.size,ys,v8,rfl,rfl,eD8,hys,m',hm,w8⟩) λ_ s9 ⟨_,H9,I9,_,m9,hm9,w9⟩=>?_
    obtain⟨t9,n9⟩:=Vs I9;exact⟨m9,hm9,i+1,ys++[v8],q9,H9,I9.yD,t9,n9,w9⟩
 exact codeAny_compStart_list (loop _ rfl) (T.self _ 0 _ _ _ vG (loop _ rfl))
theorem gR(S:cN X scope cl N nt fv)(hc:X.calm=true)(hi:PI X tg iter wi)
  (hg:∀C s H fp,PG (iJ X scope cl N C s H fp) tg g) (ht:∀C s H fp,wg (iJ X scope cl N C s H fp) ifs tt) (he:∀C s H fp,PE (iJ X scope cl N C s H fp) elt te)
  (hs:∀x,foldedSetIterable iter X.env x=pure x:=by intro _;rfl):PE X (.ListComp elt [⟨tg,iter,ifs,0⟩] scope pos) (mZ wi g tt te nt fv):=by
 intro pins s σ H Q I h;rw[eval_ListComp];refine wpAny_comprehension_free (use:=none) rfl hs S.oR S.kind S.names (aW (hi pins s σ H _ I h) λxv s1 h1=>aW h1 λCo s2 h2=>?_);obtain⟨it,fp,tn,J,H2,rfl,I2,T,cg,f2,hq⟩:=h2;refine Vq (RR:=λacc C=>compPost (model X.prog X.w) X.A X.xe none (EP X pins σ Q) acc C) S hc hg ht he I2 T cg f2 hq λD C s' H' m' I' hn hC fC q=>?_;refine⟨m',hn,λh' iS=>⟨.ref D,H',?_,rfl,q⟩⟩;have nO:=I2.tE hC fC;exact I'.turned (t':=s'.toks) (it:=C) (λb o hb e=>iS.extBut b o hb e) fC nO.2.1 nO.2.2.2.1 nO.2.2.2.2.1 nO.2.2.2.2.2
theorem wU{i:Nat}{y:Str}{py Vt:Pos}(hN:X.N.Nodup)(jG:X.N[i]? = some y)(hy:Loc X.env.scope y)(S:cN X scope cl N nt fv)(hc:X.calm=true)(hi:PI X tg iter wi)
  (hg:∀C s H fp,PG (iJ X scope cl N C s H fp) tg g) (ht:∀C s H fp,wg (iJ X scope cl N C s H fp) ifs tt) (he:∀C s H fp,PE (iJ X scope cl N C s H fp) elt te)
  (I0:swapsWith (.ListComp elt [⟨tg,iter,ifs,0⟩] scope pos) (some (.Name y py)) Vt.line X.env=pure true:=by rfl)
  (hs:∀x,foldedSetIterable iter X.env x=pure x:=by intro _;rfl) (hf:X.fn y=true\/X.env.scope.names.lookup y=some .local:=by first | exact .inl rfl | exact .inr rfl | assumption) :
  PS X (.Assign [.Name y py] (.ListComp elt [⟨tg,iter,ifs,0⟩] scope pos) Vt) (tw (mZ wi g tt te nt fv) (oB i)):=by
 intro pins s σ H D' I h;rw[exec_Assign_Name_used _ _ _ _ I0];refine aM (wpAny_standAt (aM ?_))
 show wpAny _ _ (do let _ ← comprehension (.ListComp elt [⟨tg,iter,ifs,0⟩] scope pos) scope X.env _ (newList []) false (eval iter X.env) (some (assign (.Name y py) X.env))) _ _ s
 refine aM (eL (wpAny_comprehension_free (use:=some (assign (.Name y py) X.env)) (Q:=λ_ s'=>SP X pins D' .next s') rfl hs S.oR S.kind S.names
  (aW (hi pins s σ H _ I h) λxv s1 h1=>aW h1 λCo s2 h2=>?_)) (λ_ s' hq=>bL (bL hq)) λ_ _ e=>e)
 obtain⟨it,fp,tn,J,H2,rfl,I2,T,cg,f2,hq⟩:=h2;refine Vq (RR:=λacc C=>compPost (model X.prog X.w) X.A X.xe (some (assign (.Name y py) X.env)) (λ_ s'=>SP X pins D' .next s') acc C) (Q:=λx H1=>oB i x σ H1 D'.nx) S hc hg ht he I2 T cg f2 hq λD C s' H' m' I' hn hC fC q=>?_;have nO:=I2.tE hC fC
 show wpAny _ _ (assign (.Name y py) X.env (.ref D)) _ _ _;refine wpAny_assign_Name (RJ I' hN jG hy (v:=.ref D) rfl (λvO I'' ⟨a,hsa,ha⟩=>?_) hf);have hCa:C≠a:=by
  rcases ha with z | z
  ·rw[z];exact nO.2.1
  ·exact λe=>nO.2.2.2.2.1 y a z e.symm
 refine⟨m',hn.sameBut hsa hCa,λh' iS=>⟨_,H',?_,q⟩⟩;exact I''.turned (t':=vO.toks) (it:=C) (λb o hb e=>iS.extBut b o hb e) fC nO.2.1 nO.2.2.2.1 nO.2.2.2.2.1 nO.2.2.2.2.2
end
section
variable{X:Cx}
theorem afV{K:W.Frag}(h:X.K=K)(hu:X.A.units+16<cLine):cB X (compareOp .Eq) (λx y H Q=>∃a b xs,x = .ref a/\y = .ref b/\az K H a xs/\az K H b []/\Q (.bl xs.isEmpty) H):=h▸Tz hu
theorem afW(hu:X.A.units<cLine):cB X (compareOp .Eq) (λx y H Q=>∃(a b:Addr) (xs:List V),x = .ref a/\y = .ref b/\az X.K H a xs/\az X.K H b xs/\(∀v∈xs,(∀b,v≠.mO b)/\∀b,v≠.iu b)/\Q (.bl true) H):=by
 rintro pins s σ H x y v u Q I rx ry ⟨a,b,xs,rfl,rfl,ha,hb,hv,q⟩;cases rx;cases ry;obtain⟨aB,r1,p1,z1⟩:=I.list ha;obtain⟨dH,r2,p2,z2⟩:=I.list hb;have l1:=r1.length;have l2:=r2.length;have e0:((List.range aB.toArray.size).all λ_=>true)=true:=by simp
 have fin:=Gy (A:=X.A) (s:=s) (e:=λ_=>true) p1.isList p2.isList (by simp;lia) hu (λj h1 h2=>?_) X.prog X.w X.xe (EP X pins σ Q) (by rw[e0];exact⟨.bl true,H,I,rfl,q⟩)
 ·exact fin
 ·have g1:aB[j]? = some aB.toArray[j]:=by
   rw[lz,aX (by simpa using h1)]
  have g2:dH[j]? = some dH.toArray[j]:=by
   rw[lz,aX (by simpa using h2)]
  have hj:j<xs.length:=by rw[l1];simpa using h1
  obtain⟨u1,q1,w1⟩:=r1.get (aX hj);obtain⟨u2,q2,w2⟩:=r2.get (aX hj);rw[g1] at q1;cases q1;rw[g2] at q2;cases q2;exact um w1 w2 (hv _ (cO hj)).1 (hv _ (cO hj)).2
end
theorem Vu{X:Cx}{K:W.Frag}{tg l:Expr}{tl:TE}(h:X.K=K)(hl:PE X l tl):PI X tg l (qc K tl):=h▸dX hl
theorem I_{X:Cx}{scope:Scope}{cl:List (Str×Addr)}{N:List Str}{C:Addr}{s:Shared}{H:Hp}{fp:List Addr}:(iJ X scope cl N C s H fp).K=X.K:=rfl
noncomputable def o_(d o:Dr):Bool:=decide (o.n<d.n) && (decide (o.n∈d.q.behind) || Dc d.q o.q)
def afX(K:W.Frag)(CA CD:Addr):Sp:=λvs H Q _=>∃(p r:Addr) (d o:Dr) (dx ap l:Addr) (ts:List Addr) (m b b_ nj Ae l':Addr) (fz:List Addr) (m' b' Af:Addr),vs = [.ref p,.ref r]/\jM K CA CD H p d dx ap l ts m b b_/\jM K CA CD H r o nj Ae l' fz m' b' Af/\Q (.bl (o_ d o)) H
noncomputable def nQ(ds:List Dr)(d:Dr):List Int:=(ds.filter (o_ d)).map (·.n)
noncomputable def uE(n:Int):Key:=.inl n
structure DX(H:Hp)(kd:Addr)(ds all:List Dr)(aA:List (Key×V)):Prop where
 d:H kd=some (.dK aA)
 n:aA.length<=ds.length
 v:∀(i:Nat) (d:Dr),ds[i]? = some d->∃li,c8 aA (uE d.n)=some (.ref li)/\li≠kd/\H li=some (.lst ((nQ all d).map V.int))
def afY(K:W.Frag)(CA CD:Addr):Sp:=λvs H Q _=>∃(l:Addr) (ps:List Addr) (ds:List Dr),vs = [.ref l]/\g8 K CA CD H l ps ds/\ds.length<=100/\(ds.map (·.n)).Nodup/\
 ∀kd aA H',aj H H'->H kd=none->DX H' kd ds ds aA->Q (.ref kd) H'
noncomputable def keepsK(k o:Kn):Bool:=decide (o.n<k.n) && (decide (o.n∈k.bh) || ((k.w || o.w) && decide (k.f<o.f+o.m) && decide (o.f<k.f+k.m)))
def afZ(K:W.Frag):Sp:=λvs H Q _=>∃(t u:Addr) (k o:Kn) (b cl:Addr) (bC:List Addr) (b' uA:Addr) (Ad:List Addr),vs = [.ref t,.ref u]/\iH H t k b cl bC/\iH H u o b' uA Ad/\Q (.bl (keepsK k o)) H
noncomputable def DY(ks:List Kn):List Int:=(ks.filter λk=>(ks.filter (keepsK k)).isEmpty).map (·.n)
def af0(K:W.Frag):Sp:=λvs H Q _=>∃(kl:Addr) (cM:List Addr) (ks:List Kn),vs = [.ref kl]/\gm H kl cM ks/\ks.length<=100/\
 ∀D H',aj H H'->H D=none->H' D=some (.lst ((DY ks).map V.int))->Q (.ref D) H'
theorem af1(aA:List (Key×V))(k:Key)(v:V):(putK aA k v).length<=aA.length+1:=by
 unfold putK;split
 ·rw[aR];lia
 ·rw[fE];exact bH _
theorem af2{nc:List (Int×Int)}{k k':Kn}{d d':Dr}(h:DO nc k d)(h':DO nc k' d'):o_ d d' = keepsK k k':=by
 obtain⟨e1,⟨f1,m1,b1,k1,_⟩,_⟩:=h;obtain⟨e2,⟨f2,m2,b2,k2,_⟩,_⟩:=h';unfold o_ keepsK Dc;rw[e1,e2,b1,f1,m1,f2,m2,k1,k2];have fX:¬ (("read" : Str) = "write"):=by decide
 cases k.w <;> cases k'.w <;> simp[fX,Bool.and_assoc]
theorem wV{α:Type}{l:List α}{p:α->Bool}{i:Nat}{a:α}(h:l[i]? = some a):(l.take (i+1)).filter p=(l.take i).filter p++(if p a then [a] else []):=by
 rw[take_succ_get h,BE,qQ];split <;> rfl
theorem SwOk.mono{sw:List Int}{n:Int}(so:SwOk sw n):∀(j i:Nat),i<=j->j<sw.length->sw.getD i 0<=sw.getD j 0
 | 0,i,h,_=>by rw[show i=0 by lia];exact lq _
 | j+1,i,h,hj=>by
  by_cases e:i=j+1
  ·rw[e];exact lq _
  ·exact BA (so.mono j i (by lia) (by lia)) (so.up (j+1) (by lia) hj)
theorem SwOk.nonneg{sw:List Int}{n:Int}(so:SwOk sw n){j:Nat}(hj:j<sw.length):0<=sw.getD j 0:=by
 have:=so.mono j 0 (by lia) hj
 rw[so.z] at this;exact this
theorem SwOk.ur{sw:List Int}{n:Int}(so:SwOk sw n){s x q:Int}(s0:0<=s)(s1:s<n)(x0:0<=x)(x1:x<n)(q0:0<=q)(q1:q<n):sw.getD (s - q).natAbs 0<=sw.getD (s - x).natAbs 0+sw.getD (x - q).natAbs 0:=by
 have len:=so.len;have ha:(s - x).natAbs<sw.length:=by lia
 have hb:(x - q).natAbs<sw.length:=by lia
 have hd:(s - q).natAbs<sw.length:=by lia
 have tr:(s - q).natAbs<=(s - x).natAbs+(x - q).natAbs:=by lia
 generalize (s - x).natAbs=a at *
 generalize (x - q).natAbs=b at *
 generalize (s - q).natAbs=d at *
 have na:=so.nonneg ha;have nb:=so.nonneg hb;by_cases h1:d<=a
 ·have:=so.mono a d h1 ha;lia
 ·by_cases h2:a=0
  ·have:=so.mono b d (by lia) hb
   lia
  ·have h3:=so.no a (d - a) (by lia) (by lia) (by lia)
   rw[show a+(d - a)=d by lia] at h3
   have h4:=so.mono b (d - a) (by lia) hb
   lia
def Aj(P:Pl)(s t:Int×Int):Prop:=∀q:Int,0<=q->q<P.rc.length->s.2+P.sw.getD (s.1 - q).natAbs 0<=t.2+P.sw.getD (t.1 - q).natAbs 0
noncomputable def jN(p:Nat->Bool)(xs:List (Int×Int)):List (Int×Int):=((List.range xs.length).filter p).map λk=>xs.getD k (0,0)
theorem af3(p:Nat->Bool)(xs:List (Int×Int))(x:Int×Int):jN p (xs++[x])=jN p xs++if p xs.length then [x] else []:=by
 unfold jN;rw[fE,vf,xO,BE,bZ];congr 1
 ·refine Gf λk hk=>?_;have:k<xs.length:=gT.mp (fF.mp hk).1;rw[kF,kF,d7 this]
 ·cases h:p xs.length with
  | true=>simp[h]
  | false=>simp[h]
theorem snoc_ind{α:Type}{C:List α->Prop}(h0:C [])(h1:∀xs x,C xs->C (xs++[x]))(l:List α):C l:=by
 rw[← List.reverse_reverse l];generalize l.reverse=r
 induction r with
 | nil=>exact h0
 | cons x r ih=>rw[Gq];exact h1 _ _ ih
theorem af4{P:Pl}(ok:fq P)(s q:Int×Int)(h0:0<=q.1)(h1:q.1<P.rc.length):s.2+P.sw.getD (s.1 - q.1).natAbs 0<=(dI P s q).2:=by
 unfold dI rK;have:=(C1 ok q.1 q.2 (s.2+P.sw.getD (s.1 - q.1).natAbs 0)).1;have hc:=ok.c q.1.toNat (by lia)
 have hl:=ok.au;have:0<=P.au / P.rc.getD q.1.toNat 0:=Bx (by lia) (by lia)
 dsimp only;lia
theorem Vv{P:Pl}(ok:fq P){s t:Int×Int}(nl:Aj P s t)(q:Int×Int)(h0:0<=q.1)(h1:q.1<P.rc.length):(dI P s q).2<=(dI P t q).2:=by
 unfold dI rK;have:=adp ok q.1 q.2 (nl q.1 h0 h1);dsimp only;lia
theorem af5{P:Pl}(ok:fq P)(p:Nat->Bool)(s:Int×Int)(s0:0<=s.1)(s1:s.1<P.rc.length):∀xs:List (Int×Int),(∀q∈xs,0<=q.1/\q.1<P.rc.length)->Aj P (bf P s (jN p xs)) (bf P s xs)/\
  ∀(i k:Nat),((List.range xs.length).filter p)[i]? = some k->((dZ P s (jN p xs)).getD i []).getD 3 0<=((dZ P s xs).getD k []).getD 3 0/\((dZ P s (jN p xs)).getD i []).take 2 = [(xs.getD k (0,0)).1,(xs.getD k (0,0)).2]:=by
 have so:=ok.sw;refine snoc_ind (λ_=>⟨λq _ _=>lq _,λi k h=>by simp at h⟩) λxs x ih kZ=>?_
 have hx:=kZ x (by simp)
 obtain⟨Vw,Vx⟩:=ih λq hq=>kZ q (pQ _ hq);have e1:=kU P (n:=P.rc.length) xs s s0 s1 λq hq=>kZ q (pQ _ hq);have sub:∀q∈jN p xs,0<=q.1/\q.1<(P.rc.length:Int):=λq hq=>by
  obtain⟨k,hk,rfl⟩:=fG.mp hq;have hk:=gT.mp (fF.mp hk).1;refine kZ _ (pQ _ ?_);rw[kF,aX hk];exact cO hk
 have e2:=kU P (n:=P.rc.length) (jN p xs) s s0 s1 sub;have ls:(jN p xs).length=((List.range xs.length).filter p).length:=by simp[jN]
 have Ja:∀(ys:List (Int×Int)) (y:Int×Int) (k:Nat),k<ys.length->(dZ P s (ys++[y])).getD k [] = (dZ P s ys).getD k []:=λys y k hk=>by
  rw[wA,kF,d7 (by rw[nA];exact hk),← kF]
 have Vy:∀(ys:List (Int×Int)) (y:Int×Int),(dZ P s (ys++[y])).getD ys.length [] = qo P (bf P s ys) y:=λys y=>by
  rw[wA,kF,d8 (by rw[nA];exact bH _),nA]
  simp
 have Vz:∀k,k<xs.length->(xs++[x]).getD k (0,0)=xs.getD k (0,0):=λk hk=>by
  rw[kF,kF,d7 hk]
 have st:=Vv ok Vw x hx.1 hx.2;rw[af3,wz];rw[fE,vf,xO,BE];cases hp:p xs.length with
 | true =>
  simp only[if_true];rw[wz];refine⟨λq q0 q1=>?_,λi k h=>?_⟩
  ·show (dI P (bf P s (jN p xs)) x).2+P.sw.getD (x.1 - q).natAbs 0<=(dI P (bf P s xs) x).2+P.sw.getD (x.1 - q).natAbs 0;lia
  ·rw[show List.filter p [xs.length] = [xs.length] by simp[hp]] at h
   by_cases hi:i<((List.range xs.length).filter p).length
   ·rw[d7 hi] at h;have hk:k<xs.length:=gT.mp (fF.mp (jv h)).1;rw[Ja _ _ _ (by rw[ls];exact hi),Ja _ _ _ hk,Vz k hk]
    exact Vx i k h
   ·rw[d8 (by lia)] at h
    have c_:i=((List.range xs.length).filter p).length:=by
     have:=(ie.mp h).1;simp at this;lia
    rw[c_,BP] at h;have hk:k=xs.length:=by simpa using h.symm
    subst hk;rw[c_,← ls,Vy,Vy];refine⟨st,?_⟩;rw[kF,d8 (bH _),BP]
    rfl
 | false =>
  simp only[Bool.false_eq_true,if_false,List.append_nil];refine⟨λq q0 q1=>?_,λi k h=>?_⟩
  ·have a:=Vw x.1 hx.1 hx.2;have b:=af4 ok (bf P s xs) x hx.1 hx.2;have n:=so.len;have t:=so.ur (s:=(bf P s (jN p xs)).1) (x:=x.1) (q:=q) e2.1 e2.2 hx.1 hx.2 q0 q1
   show (bf P s (jN p xs)).2+_<=(dI P (bf P s xs) x).2+P.sw.getD (x.1 - q).natAbs 0;lia
  ·rw[show List.filter p [xs.length] = [] by simp[hp],mF] at h
   have hk:k<xs.length:=gT.mp (fF.mp (jv h)).1;rw[Ja _ _ _ hk,Vz k hk];exact Vx i k h
theorem af6{P:Pl}(ok:fq P){s t:Int×Int}(nl:Aj P s t)(h0:0<=t.1)(h1:t.1<P.rc.length)(hs:0<=s.1)(DZ:s.1<P.rc.length):s.2<=t.2:=by
 have so:=ok.sw;have a:=nl t.1 h0 h1;have len:=so.len;have b:=so.nonneg (j:=(s.1 - t.1).natAbs) (by lia)
 rw[Int.sub_self] at a;have c:=so.z;simp only[Int.natAbs_zero] at a;lia
section
variable{X:Cx}
end
structure uF{α:Type}(lt:α->α->Prop):Prop where
 ir:∀a,¬ lt a a
 tr:∀a b c,lt a b->lt b c->lt a c
 ur:∀a b,lt a b\/a=b\/lt b a
def rN{α β:Type}(l:α->α->Prop)(m:β->β->Prop)(x y:α×β):Prop:=l x.1 y.1\/(x.1=y.1/\m x.2 y.2)
theorem uF.prod{α β:Type}{l:α->α->Prop}{m:β->β->Prop}(a:uF l)(b:uF m):uF (rN l m):=by
 refine⟨λx h=>h.elim (a.ir _) λh=>b.ir _ h.2,λx y z h1 h2=>?_,λx y=>?_⟩
 ·rcases h1 with h1 | ⟨e1,h1⟩
  ·rcases h2 with h2 | ⟨e2,h2⟩
   ·exact .inl (a.tr _ _ _ h1 h2)
   ·exact .inl (e2▸h1)
  ·rcases h2 with h2 | ⟨e2,h2⟩
   ·exact .inl (e1▸h2)
   ·exact .inr ⟨e1.trans e2,b.tr _ _ _ h1 h2⟩
 ·rcases a.ur x.1 y.1 with h | h | h
  ·exact .inl (.inl h)
  ·rcases b.ur x.2 y.2 with g | g | g
   ·exact .inl (.inr ⟨h,g⟩)
   ·exact .inr (.inl (Prod.ext h g))
   ·exact .inr (.inr (.inr ⟨h.symm,g⟩))
  ·exact .inr (.inr (.inl h))
theorem VA:uF (λa b:Int=>a<b):=⟨λa=>Int.lt_irrefl a,λa b c=>Int.lt_trans,λa b=>by rcases Int.lt_trichotomy a b with h | h | h <;> simp[h]⟩
theorem VB:uF (λa b:List Int=>_H.lexLt a b=true):=⟨C3,Tq,Tr⟩
noncomputable abbrev Nd:=Int×Int×List Int×List Int
def ltN:Nd->Nd->Prop:=rN (· < ·) (rN (· < ·) (rN (λa b=>_H.lexLt a b=true) λa b=>_H.lexLt a b=true))
theorem Jb:uF ltN:=VA.prod (VA.prod (VB.prod VB))
theorem VC:Ord ltN:=Ord.of Jb.ir Jb.tr Jb.ur
noncomputable instance (a b:Nd):Decidable (ltN a b):=by unfold ltN rN;infer_instance
def gM(H:Hp)(a:Addr)(t:Nd):Prop:=∃p q,H a=some (.tup [.int t.1,.int t.2.1,.ref p,.ref q])/\H p=some (.tup (t.2.2.1.map V.int))/\H q=some (.tup (t.2.2.2.map V.int))
theorem gM.same{H H':Hp}(s:aj H H'){a:Addr}{t:Nd}(h:gM H a t):gM H' a t:=by
 obtain⟨p,q,h1,h2,h3⟩:=h;exact⟨p,q,s _ _ h1,s _ _ h2,s _ _ h3⟩
theorem gM.fJ{H:Hp}{l a:Addr}{xs ys:List V}{t:Nd}(hl:H l=some (.lst xs))(h:gM H a t):gM (upd H l (.lst ys)) a t:=by
 obtain⟨p,q,h1,h2,h3⟩:=h;have g:∀ {c:Addr} {us:List V},H c=some (.tup us)->upd H l (.lst ys) c=some (.tup us):=λe=>by rw[aI (λz=>by rw[z,hl] at e;cases e)];exact e
 exact⟨p,q,g h1,g h2,g h3⟩
section
variable{X:Cx}{pins:List (Addr×Obj)}{σ:St}{H:Hp}{s:Shared}
theorem VD(I:Inv X pins σ H s){a:Addr}{t:Nd}(h:gM H a t):∃p q k1 k2,H p=some (.tup (t.2.2.1.map V.int))/\H q=some (.tup (t.2.2.2.map V.int))/\IsTup s.heap a #[.int t.1 k1,.int t.2.1 k2,.ref p,.ref q]:=by
 obtain⟨p,q,h1,h2,h3⟩:=h;obtain⟨aB,r1,q1,_⟩:=I.tuple (aL.of (K:=X.K) h1);cases r1 with
 | cons w1 r1 =>
 cases r1 with
 | cons w2 r1 =>
 cases r1 with
 | cons w3 r1 =>
 cases r1 with
 | cons w4 r1 =>
 cases r1;obtain⟨k1,rfl⟩:=w1;obtain⟨k2,rfl⟩:=w2;cases w3;cases w4;exact⟨p,q,k1,k2,h2,h3,q1⟩
theorem af7(I:Inv X pins σ H s){A:Around}(hu:A.units+3<cLine){a b:Addr}{t u:Nd}(ha:gM H a t)(hb:gM H b u)(prog:Program)(w:World){Q E:Value->Shared->Prop}(h:Q (.bool (decide (ltN t u))) s) :
  wpAny (model prog w) A (richCompare .Lt (.ref a) (.ref b)) Q E s:=by
 obtain⟨p,p',k1,k2,hp,pA,ip⟩:=VD I ha;obtain⟨q,q',k3,k4,hq,jY,iq⟩:=VD I hb;have lx:∀ {c d:Addr} {ns ms:List Int},H c=some (.tup (ns.map V.int))->H d=some (.tup (ms.map V.int))->∀(prog:Program) (w:World) (E Q:Value->Shared->Prop),Q (.bool (_H.lexLt ns ms)) s->wpAny (model prog w) A.in1 (richCompare .Lt (.ref c) (.ref d)) Q E s:=λhc hd prog w E Q hQ=>by
  obtain⟨aB,r1,q1,_⟩:=I.tuple (aL.of (K:=X.K) hc);obtain⟨dH,r2,q2,_⟩:=I.tuple (aL.of (K:=X.K) hd);exact _H.abJ q1 q2 (intsAre_of r1) (intsAre_of r2) (by show A.units+1<cLine;lia) hQ
 have hd:uu A.in1 s ((#[Value.int t.1 k1,.int t.2.1 k2,.ref p,.ref p']).toList.zip (#[Value.int u.1 k3,.int u.2.1 k4,.ref q,.ref q']).toList)
   [(t.1 == u.1,decide (t.1<u.1)),(t.2.1 == u.2.1,decide (t.2.1<u.2.1)),(decide (t.2.2.1=u.2.2.1),_H.lexLt t.2.2.1 u.2.2.1),(decide (t.2.2.2=u.2.2.2),_H.lexLt t.2.2.2 u.2.2.2)] :=
  .cons (BX _ _ _ _) (λ_ prog w E Q hq=>_H.G4 _ _ _ _ _ _ prog w E Q hq) (.cons (BX _ _ _ _) (λ_ prog w E Q hq=>_H.G4 _ _ _ _ _ _ prog w E Q hq)
   (.cons (Tw I (by show A.units+1+1<cLine;lia) hp hq) (λ_=>lx hp hq) (.cons (Tw I (by show A.units+1+1<cLine;lia) pA jY) (λ_=>lx pA jY) .nil)))
 refine adv ip iq rfl (by lia) hd ?_
 have e:nF [(t.1 == u.1,decide (t.1<u.1)),(t.2.1 == u.2.1,decide (t.2.1<u.2.1)),(decide (t.2.2.1=u.2.2.1),_H.lexLt t.2.2.1 u.2.2.1),(decide (t.2.2.2=u.2.2.2),_H.lexLt t.2.2.2 u.2.2.2)] = decide (ltN t u):=by
  simp only[nF,ltN,rN];have i1:=C3 u.2.2.1;have i2:=C3 u.2.2.2;by_cases e1:t.1=u.1
  ·by_cases e2:t.2.1=u.2.1
   ·by_cases e3:t.2.2.1=u.2.2.1
    ·by_cases e4:t.2.2.2=u.2.2.2
     ·simp[e1,e2,e3,e4,i1,i2]
     ·simp[e1,e2,e3,e4,i1]
    ·simp[e1,e2,e3]
   ·simp[e1,e2]
  ·simp[e1]
 rw[e];exact h
end
section
variable{X:Cx}
theorem Jc(hu:X.A.units+16<cLine):cB X (compareOp .Lt) (λx y H Q=>∃a b t u,x = .ref a/\y = .ref b/\gM H a t/\gM H b u/\Q (.bl (decide (ltN t u))) H):=by
 rintro pins s σ H x y v u Q I rx ry ⟨a,b,t,t',rfl,rfl,ha,hb,q⟩;cases rx;cases ry;exact af7 I (by lia) ha hb X.prog X.w ⟨.bl (decide (ltN t t')),H,I,rfl,q⟩
def D4(K:W.Frag):R2:=λx y H Q=>∃a b xs ys,x = .ref a/\y = .ref b/\aL K H a xs/\H b=some (.tup ys)/\ys≠[]/\xs.length+ys.length<=sizeLine/\∀p H',aj H H'->H' p=some (.tup (xs++ys))->Q (.ref p) H'
theorem af8:cB X (binaryOp .Add) (D4 X.K):=by
 rintro pins s σ H x y v u Q I rx ry ⟨a,b,xs,ys,rfl,rfl,ha,hb,hy,hz,q⟩;cases rx;cases ry;by_cases hx:xs = []
 ·obtain⟨aB,r1,p1,_⟩:=I.tuple ha;obtain⟨dH,r2,p2,_⟩:=I.tuple (aL.of (K:=X.K) hb);obtain⟨⟨cls,dd,data,sl⟩,ho,hc,n,hd⟩:=id p1;obtain⟨⟨So,mT,data2,i_⟩,gP,mU,n2,hd2⟩:=id p2;simp only at hc hd mU hd2;subst hc hd mU hd2;exact concat_meets ⟨_,ho,rfl⟩ ⟨_,gP,rfl⟩ noFill_tuple_add seq_tuple_add PySem.F.slot_tuple_add PySem.F.entry_tuple_add (PySem.F.args_tuple_add_2 _ _)
   (tuple_addW0 a b aB.toArray dH.toArray n n2 dd mT sl i_ (by simp[r1.CF.mpr hx])) ⟨ho,gP,⟨.ref b,H,I,rfl,q b H (λ_ _ e=>e) (by rw[hx];exact hb)⟩⟩
 ·exact G9 pins s σ H (.ref a) (.ref b) _ _ Q I rfl rfl ⟨a,b,xs,ys,rfl,rfl,ha,aL.of hb,hx,hz,λz=>absurd z hy,λ_ p hp=>q p _ (aj.put hp) aD⟩
end
noncomputable abbrev Ms:=List (Addr×Nd)
noncomputable def mV(zs:Ms):List V:=zs.map λz=>V.ref z.1
def iK(H:Hp)(zs:Ms):Prop:=∀z,z∈zs->gM H z.1 z.2
theorem jo(zs:Ms):(mV zs).length=zs.length:=by simp[mV]
theorem VE{zs:Ms}{k:Nat}(h:k<zs.length):(mV zs)[k]? = some (.ref zs[k].1):=by simp[mV,h]
theorem wW(zs:Ms)(k:Nat)(z:Addr×Nd):(mV zs).set k (.ref z.1)=mV (zs.set k z):=by simp[mV,List.map_set]
theorem iK.fJ{H:Hp}{l:Addr}{xs ys:List V}{zs:Ms}(hl:H l=some (.lst xs))(h:iK H zs):iK (upd H l (.lst ys)) zs:=λz hz=>(h z hz).fJ hl
theorem iK.same{H H':Hp}(s:aj H H'){zs:Ms}(h:iK H zs):iK H' zs:=λz hz=>(h z hz).same s
theorem VF{n:Nat}(h:n<20000):n<sizeLine:=by rw[oM];lia
def gq(a b:Addr×Nd):Prop:=ltN a.2 b.2
noncomputable instance (a b:Addr×Nd):Decidable (gq a b):=by unfold gq;infer_instance
theorem uG:Ord gq:=⟨λh=>VC.as h,λh1 h2=>VC.tr h1 h2⟩
noncomputable def fm(zs:Ms):Nat->Addr×Nd:=λi=>zs.getD i (0,(0,0,[],[]))
theorem iW{zs:Ms}{k:Nat}(h:k<zs.length):fm zs k=zs[k]:=by simp[fm,h]
theorem wX{zs:Ms}{k:Nat}(h:k<zs.length)(x:Addr×Nd):fm (zs.set k x)=put (fm zs) k x:=by
 funext i
 by_cases e:i=k
 ·subst e;rw[kW,iW (by simpa using h)]
  simp
 ·rw[fR e];simp[fm,List.getElem?_set_ne (λz=>e z.symm)]
structure fT(H:Hp)(l:Addr)(zs:Ms):Prop where
 l:H l=some (.lst (mV zs))
 z:iK H zs
 n:zs.length<=20000
section
variable{H H':Hp}{l a:Addr}{zs ys:Ms}{t:Nd}{k:Nat}
theorem fT.get(hk:k<zs.length):e7 (mV zs) (k:Int)=some (.ref zs[k].1):=rA (VE hk)
theorem fT.th(h:fT H l zs)(hk:k<zs.length):gM H zs[k].1 zs[k].2:=h.z _ (cO hk)
theorem fT.set(h:fT H l zs)(hy:iK H ys)(n:ys.length<=20000):fT (upd H l (.lst (mV ys))) l ys:=⟨aD,hy.fJ h.l,n⟩
theorem fT.same(s:aj H H')(h:fT H l zs):fT H' l zs:=⟨s _ _ h.l,h.z.same s,h.n⟩
theorem VG(h:iK H zs){x:Addr×Nd}(hx:gM H x.1 x.2):iK H (zs.set k x):=λz hz=>by
 rcases Gj hz with q | q
 ·exact h z q
 ·rw[q];exact hx
theorem VH{zs:Ms}{x:Addr×Nd}{i:Nat}(h:i<zs.length):fm (zs++[x]) i=fm zs i:=by
 rw[iW h,iW (by simp;lia),Ge h]
theorem af9{zs:Ms}{x:Addr×Nd}(h:jf gq zs.length (fm zs)):Up gq (zs++[x]).length zs.length (fm (zs++[x])) x:=by
 have jq:∀i,i<(zs++[x]).length->1<=i->par i≠zs.length:=λi hi h1=>by
  rw[fE,vf] at hi;unfold par;lia
 refine⟨λi h1 hn hk=>?_,λ_ i hn h1 e=>absurd e (jq i hn h1),λi h1 hn e=>absurd e (jq i hn h1)⟩;rw[fE,vf] at hn;have pl:=nC h1;rw[fR hk,fR (by lia),VH (by lia),VH (by lia)]
 exact h i h1 (by lia)
theorem af_{cU:Ms}(p:cU.Perm zs)(h:iK H zs):iK H cU:=λz hz=>h z (p.mem_iff.mp hz)
theorem VI{x:Addr×Nd}(hx:gM H x.1 x.2)(h:iK H zs):iK H (x::zs):=λz hz=>by
 rcases cE.mp hz with e | e
 ·rw[e];exact hx
 ·exact h z e
theorem aga(zs:Ms)(x:Addr×Nd):mV zs++[V.ref x.1] = mV (zs++[x]):=by simp[mV]
theorem agb(zs:Ms):(mV zs).dropLast=mV zs.dropLast:=by simp[mV,List.map_dropLast]
noncomputable def g9(zs:Ms)(k:Nat):Nat:=if 2*k+1+1<zs.length/\gq (fm zs (2*k+1+1)) (fm zs (2*k+1)) then 2*k+1+1 else 2*k+1
theorem agc(zs:Ms)(k:Nat):rM gq zs.length k (g9 zs k) (fm zs):=by
 unfold g9;split
 ·exact(rM.of uG).1 (by assumption)
 ·exact(rM.of uG).2 (by assumption)
theorem agd(zs:Ms)(k:Nat):k<g9 zs k/\g9 zs k<=2*k+2:=by
 unfold g9;split <;> lia
def age:Sp:=λvs H Q _=>∃(l:Addr) (zs:Ms) (k:Nat),vs = [.ref l,.int (k:Int)]/\fT H l zs/\k<=20000/\Q (.int (g9 zs k:Nat)) H
def agf:Sp:=λvs H Q _=>∃(l a:Addr) (t:Nd) (zs:Ms),vs = [.ref l,.ref a]/\fT H l zs/\gM H a t/\0<zs.length/\Down gq zs.length 0 (fm zs) (a,t)/\
 ∀cU:Ms,cU.Perm ((a,t)::zs.eraseIdx 0)->jf gq cU.length (fm cU)->Q .aO (upd H l (.lst (mV cU)))
def agg:Sp:=λvs H Q _=>∃(l:Addr) (zs:Ms),vs = [.ref l]/\fT H l zs/\jf gq zs.length (fm zs)/\(zs = []->Q .aO H)/\
 ∀(z:Addr×Nd) (cU:Ms),zs.Perm (z::cU)->(∀y,y∈zs->¬ ltN y.2 z.2)->jf gq cU.length (fm cU)->Q (.ref z.1) (upd H l (.lst (mV cU)))
def agh:Sp:=λvs H Q _=>∃(l a:Addr) (t:Nd) (zs:Ms),vs = [.ref l,.ref a]/\fT H l zs/\zs.length<20000/\gM H a t/\jf gq zs.length (fm zs)/\
 ∀cU:Ms,cU.Perm ((a,t)::zs)->jf gq cU.length (fm cU)->Q .aO (upd H l (.lst (mV cU)))
theorem agi{z:Addr×Nd}{r:Ms}{u:Addr×Nd}(h:jf gq (z::(r++[u])).length (fm (z::(r++[u])))):Down gq (z::r).length 0 (fm (z::r)) u:=by
 refine⟨λi hi hn hp=>?_,λh0=>absurd h0 (by lia)⟩
 have pl:=nC hi;have:=h i hi (by simp at hn ⊢;lia)
 rw[fR (by lia),fR hp]
 have e:∀j,j<(z::r).length->fm (z::(r++[u])) j=fm (z::r) j:=λj hj=>by
  rw[iW hj,iW (by simp at hj ⊢;lia)]
  rw[← Ge (bs:=[u]) hj]
  rfl
 rwa [e i hn,e _ (by lia)] at this
theorem agj{zs:Ms}(h:jf gq zs.length (fm zs))(h0:0<zs.length):∀y,y∈zs->¬ ltN y.2 (zs[0]).2:=by
 intro y hy;obtain⟨j,hj,rfl⟩:=mH.mp hy;have:=h.least uG j hj;rwa [iW hj,iW h0] at this
end
noncomputable def bV(ds:List Dr)(bg:List Int):List Dr:=ds.filter λd => !decide (d.n∈bg)
noncomputable def iL(ds:List Dr)(bg:List Int):List Dr:=(bV ds bg).filter λd=>(nQ ds d).all λo=>decide (o∈bg)
inductive Reach (P:Pl) (ds:List Dr) (s:Int×Int):List Int->(Int×Int)->Prop
 | nil:Reach P ds s [] s
 | snoc {bg:List Int} {st:Int×Int} {d:Dr} (h:Reach P ds s bg st) (hd:d∈iL ds bg):Reach P ds s (bg++[d.n]) (bf P st d.c)
theorem wY{ds:List Dr}{bg:List Int}{d:Dr}:d∈bV ds bg↔d∈ds/\d.n∉bg:=by simp[bV]
theorem rS{ds:List Dr}{bg:List Int}{d:Dr}:d∈iL ds bg↔(d∈ds/\d.n∉bg)/\∀o∈nQ ds d,o∈bg:=by
 unfold iL;rw[List.mem_filter,wY];simp
theorem agk{ds:List Dr}{d:Dr}{o:Int}(h:o∈nQ ds d):∃e∈ds,e.n=o/\e.n<d.n:=by
 obtain⟨e,he,rfl⟩:=fG.mp h;obtain⟨h1,h2⟩:=fF.mp he;unfold o_ at h2;simp only[Bool.and_eq_true,decide_eq_true_eq] at h2;exact⟨e,h1,rfl,h2.1⟩
theorem D6(ds:List Dr):bV ds [] = ds:=by simp[bV]
theorem agl(ds:List Dr)(bg:List Int)(n:Int):bV ds (bg++[n])=(bV ds bg).filter λd => !decide (d.n=n):=by
 unfold bV;rw[List.filter_filter];congr 1;funext d;by_cases h:d.n∈bg <;> by_cases h2:d.n=n <;> simp[h,h2]
theorem agm{ds:List Dr}(nd:(ds.map (·.n)).Nodup){d:Dr}(hd:d∈ds):∃as bs,ds=as++d::bs/\(ds.filter λx => !decide (x.n=d.n))=as++bs:=by
 obtain⟨as,bs,rfl⟩:=List.append_of_mem hd;refine⟨as,bs,rfl,?_⟩;rw[bZ,dM,BI] at nd;obtain⟨n1,n2,n3⟩:=nd;rw[lB] at n2;rw[BE,qQ];simp only[decide_true,Bool.not_true,Bool.false_eq_true,if_false];rw[List.filter_eq_self.mpr,List.filter_eq_self.mpr]
 ·intro x hx;simp only[Bool.not_eq_true',decide_eq_false_iff_not];exact λe=>n2.1 (e▸vh hx)
 ·intro x hx;simp only[Bool.not_eq_true',decide_eq_false_iff_not];exact λe=>n3 x.n (vh hx) d.n (cA ..) e
theorem agn{ds:List Dr}(nd:(ds.map (·.n)).Nodup)(bg:List Int):((bV ds bg).map (·.n)).Nodup:=(List.Sublist.map _ List.filter_sublist).nodup nd
theorem VJ{ds:List Dr}(nd:(ds.map (·.n)).Nodup){bg:List Int}{d:Dr}(hd:d∈bV ds bg):(bV ds bg).Perm (d::bV ds (bg++[d.n])):=by
 obtain⟨as,bs,e1,e2⟩:=agm (agn nd bg) hd;rw[agl,e2,e1];exact List.perm_middle
theorem VL{ds:List Dr}(nd:(ds.map (·.n)).Nodup){bg:List Int}{d:Dr}(hd:d∈bV ds bg):(bV ds bg).length=(bV ds (bg++[d.n])).length+1:=by
 have:=(VJ nd hd).length_eq;simpa using this
theorem Jd{ds:List Dr}{bg:List Int}{d:Dr}(h:d∈iL ds bg):d∈bV ds bg:=(fF.mp h).1
theorem ago{ds:List Dr}{bg:List Int}(h:bV ds bg≠[]):iL ds bg≠[]:=by
 have low:∀l:List Dr,l≠[]->∃d∈l,∀e∈l,d.n<=e.n:=by
  intro l
  induction l with
  | nil=>intro h;exact absurd rfl h
  | cons x l ih =>
   intro _;by_cases hl:l = []
   ·subst hl;exact⟨x,cA ..,λe he=>by rw[gw.mp he];exact lq _⟩
   ·obtain⟨d,hd,h2⟩:=ih hl;by_cases hx:x.n<=d.n
    ·exact⟨x,cA ..,λe he=>by
      rcases cE.mp he with e1 | e1
      ·rw[e1];exact lq _
      ·have:=h2 e e1;lia⟩
    ·exact⟨d,bW _ hd,λe he=>by
      rcases cE.mp he with e1 | e1
      ·rw[e1];lia
      ·exact h2 e e1⟩
 obtain⟨d,hd,hl⟩:=low _ h;have:d∈iL ds bg:=by
  refine rS.mpr ⟨wY.mp hd,λo ho=>?_⟩;obtain⟨e,he,rfl,lt⟩:=agk ho;by_cases hb:e.n∈bg
  ·exact hb
  ·have:=hl e (wY.mpr ⟨he,hb⟩);lia
 exact List.ne_nil_of_mem this
theorem D7(P:Pl):∀(a b:List (Int×Int)) (s:Int×Int),bf P s (a++b)=bf P (bf P s a) b
 | [],_,_=>rfl
 | q::a,b,s=>D7 P a b (dI P s q)
theorem Reach.pre{P:Pl}{ds:List Dr}{s:Int×Int}:∀ {eN:List Int} {cZ:Int×Int},Reach P ds s eN cZ->∀ {bg:List Int},bg <+: eN->∃st,Reach P ds s bg st/\Reach P ds s eN cZ:=by
 intro eN cZ h
 induction h with
 | nil=>intro bg hp;rw[List.prefix_nil.mp hp];exact⟨s,.nil,.nil⟩
 | snoc h hd ih =>
  intro bg hp;rcases List.prefix_concat_iff.mp hp with e | e
  ·subst e;exact⟨_,h.snoc hd,h.snoc hd⟩
  ·obtain⟨st,h1,_⟩:=ih e;exact⟨st,h1,h.snoc hd⟩
theorem VM:∀ {ds:List Dr},(ds.map (·.n)).Nodup->∀ {d e:Dr},d∈ds->e∈ds->d.n=e.n->d=e
 | [],_,_,_,h,_,_=>nomatch h
 | x::ds,nd,d,e,h1,h2,h=>by
  rw[dM,lB] at nd;rcases cE.mp h1 with a | a <;> rcases cE.mp h2 with b | b
  ·rw[a,b]
  ·exact absurd (a▸h▸vh b) nd.1
  ·exact absurd (b▸h▸vh a) nd.1
  ·exact VM nd.2 a b h
theorem Reach.uniq{P:Pl}{ds:List Dr}{s:Int×Int}(nd:(ds.map (·.n)).Nodup):∀ {bg:List Int} {st cZ:Int×Int},Reach P ds s bg st->Reach P ds s bg cZ->st=cZ:=by
 intro bg st cZ h
 induction h generalizing cZ with
 | nil =>
  intro h';generalize hb:([]:List Int)=b at h';cases h' with
  | nil=>rfl
  | snoc=>simp at hb
 | @snoc b1 rT d h hd ih =>
  intro h';generalize hb:b1++[d.n] = b at h';cases h' with
  | nil=>simp at hb
  | @snoc b2 cg d2 h2 hd2 =>
   obtain⟨e1,e2⟩:=List.append_inj' hb rfl;subst e1;rw[ih h2];have e3:d.n=d2.n:=by simpa using e2
   rw[VM nd (rS.mp hd).1.1 (rS.mp hd2).1.1 e3]
theorem Reach.ext{P:Pl}{ds:List Dr}{s:Int×Int}(nd:(ds.map (·.n)).Nodup){bg:List Int}{st:Int×Int}(h0:Reach P ds s bg st):∀ {eN:List Int} {cZ:Int×Int},Reach P ds s eN cZ->bg <+: eN->∃xs:List Dr,eN=bg++xs.map (·.n)/\cZ=bf P st (xs.flatMap (·.c))/\(bV ds bg).Perm (xs++bV ds eN):=by
 intro eN cZ h
 induction h with
 | nil =>
  intro hp;have e:=List.prefix_nil.mp hp;subst e;rw[Reach.uniq nd h0 .nil];exact⟨[],rfl,rfl,.refl _⟩
 | @snoc b1 rT d h hd ih =>
  intro hp;rcases List.prefix_concat_iff.mp hp with e | e
  ·subst e;rw[Reach.uniq nd h0 (h.snoc hd)];exact⟨[],by simp,rfl,.refl _⟩
  ·obtain⟨xs,e1,e2,e3⟩:=ih e;refine⟨xs++[d],by rw[e1];simp,?_,?_⟩
   ·rw[e2,BF,D7];simp
   ·rw[sM];exact e3.trans ((VJ nd (Jd hd)).append_left xs)
theorem agp{α:Type}{f:α->Int}{xs ys:List α}(h:xs.Perm ys):(xs.map f).sum=(ys.map f).sum:=by
 induction h with
 | nil=>rfl
 | cons x _ ih=>simp[ih]
 | swap x y l=>simp;lia
 | trans _ _ h1 h2=>exact h1.trans h2
theorem agq(P:Pl)(a b:List (Int×Int)):fS P (a++b)=fS P a+fS P b:=by simp[fS]
theorem VN(P:Pl):∀xs:List Dr,fS P (xs.flatMap (·.c))=(xs.map λd=>fS P d.c).sum
 | []=>rfl
 | d::xs=>by rw[xK,agq,VN P xs];simp
theorem VO{P:Pl}(ok:fq P):∀ {cz:List (Int×Int)},(∀q∈cz,0<=q.1/\q.1<P.rc.length)->0<=fS P cz
 | [],_=>by simp[fS]
 | q::cz,h=>by
  have ih:=VO ok (cz:=cz) λx hx=>h x (bW _ hx);obtain⟨q0,q1⟩:=h q (cA ..);have:=ok.c q.1.toNat (by lia)
  have:=Bx (a:=P.au) (b:=P.rc.getD q.1.toNat 0) (by have:=ok.au;lia) (by lia)
  unfold fS at *
  rw[dM,BN];lia
theorem Je{P:Pl}(ok:fq P):∀ {cz:List (Int×Int)} {s:Int×Int},(∀q∈cz,0<=q.1/\q.1<P.rc.length)->s.1<P.rc.length->0<=s.1->s.2+fS P cz<=(bf P s cz).2
 | [],s,_,_,_=>by simp[fS,bf]
 | q::cz,s,h,h1,h0=>by
  obtain⟨q0,q1⟩:=h q (cA ..);have ih:=Je ok (cz:=cz) (s:=dI P s q) (λx hx=>h x (bW _ hx)) q1 q0;have b:=C1 ok q.1 q.2 (s.2+P.sw.getD (s.1 - q.1).natAbs 0);have w:=ok.sw.nonneg (j:=(s.1 - q.1).natAbs) (by have:=ok.sw.len;lia)
  have e:(dI P s q).2=jH P q.1 q.2 (s.2+P.sw.getD (s.1 - q.1).natAbs 0)+P.au / P.rc.getD q.1.toNat 0:=rfl;have e2:fS P (q::cz)=P.au / P.rc.getD q.1.toNat 0+fS P cz:=by simp[fS]
  rw[bf,e2];lia
theorem VP{P:Pl}(ok:fq P):∀ {cz:List (Int×Int)} {s t:Int×Int},(∀q∈cz,0<=q.1/\q.1<P.rc.length)->Aj P s t->Aj P (bf P s cz) (bf P t cz)
 | [],s,t,_,nl=>nl
 | q::cz,s,t,h,nl=>by
  obtain⟨q0,q1⟩:=h q (cA ..);rw[bf,bf];refine VP ok (λx hx=>h x (bW _ hx)) λr r0 r1=>?_;have:=Vv ok nl q q0 q1
  show (dI P s q).2+P.sw.getD (q.1 - r).natAbs 0<=(dI P t q).2+P.sw.getD (q.1 - r).natAbs 0;lia
theorem agr(xs:List (Int×Int)):jN (λ_=>false) xs = []:=by simp[jN]
theorem ags{P:Pl}(ok:fq P){s:Int×Int}(s0:0<=s.1)(s1:s.1<P.rc.length){a c b:List (Int×Int)}(ha:∀q∈a,0<=q.1/\q.1<P.rc.length)(hc:∀q∈c,0<=q.1/\q.1<P.rc.length)(hb:∀q∈b,0<=q.1/\q.1<P.rc.length) :
  (bf P s c).2<=(bf P s (a++(c++b))).2:=by
 have n1:=(af5 ok (λ_=>false) s s0 s1 a ha).1;rw[agr] at n1;have n2:=VP ok hc n1;have i0:=kU P (n:=P.rc.length) a s s0 s1 ha;have i1:=kU P (n:=P.rc.length) c (bf P s a) i0.1 i0.2 hc;have i2:=kU P (n:=P.rc.length) c s s0 s1 hc;have l:=af6 ok n2 i1.1 i1.2 i2.1 i2.2;have p:=Je ok hb i1.2 i1.1;have z:=VO ok hb;rw[D7,D7];have l:(bf P s c).2<=(bf P (bf P s a) c).2:=l;lia
theorem VQ{f:List (Int×Int)->Int}{M:Int}:∀ {cs:List (List (Int×Int))} {x:Int},x<=M->(∀c∈cs,f c<=M)->cs.foldl (λx c=>max x (f c)) x<=M
 | [],_,h,_=>h
 | c::cs,x,h,g=>by
  rw[oh];have:=g c (cA ..);exact VQ (by lia) λd hd=>g d (bW _ hd)
theorem agt{P:Pl}(ok:fq P){ds:List Dr}(hd:∀d∈ds,∀q∈d.c,0<=q.1/\q.1<P.rc.length){s st:Int×Int}(nd:(ds.map (·.n)).Nodup){bg:List Int}(h0:Reach P ds s bg st)(r0:0<=st.1)(r1:st.1<P.rc.length){eN:List Int}{cZ:Int×Int}(h:Reach P ds s eN cZ)(hp:bg <+: eN)(hf:bV ds eN = []) :
  qz P st.1 st.2 ((bV ds bg).map (·.c))<=cZ.2:=by
 obtain⟨xs,e1,e2,e3⟩:=h0.ext nd h hp;rw[hf,mF] at e3;have hx:∀d∈xs,∀q∈d.c,0<=q.1/\q.1<P.rc.length:=λd fP=>hd d (wY.mp (e3.mem_iff.mpr fP)).1;have fl:∀ys:List Dr,(∀d∈ys,d∈xs)->∀q∈ys.flatMap (·.c),0<=q.1/\q.1<(P.rc.length:Int):=λys hy q hq=>by
  obtain⟨d,qp,hd2⟩:=Gh.mp hq;exact hx d (hy d qp) q hd2
 unfold qz;rw[e2];refine VQ ?_ λc hc=>?_
 ·rw[sO,show (bV ds bg).map (fS P ∘ λd=>d.c)=(bV ds bg).map (λd=>fS P d.c) from rfl,agp e3,← VN];exact Je ok (fl xs λ_ h=>h) r1 r0
 ·obtain⟨d,qB,rfl⟩:=fG.mp hc;obtain⟨as,bs,e4⟩:=List.append_of_mem (e3.mem_iff.mp qB);have:=ags ok r0 r1 (fl as λx hx=>by rw[e4];simp[hx]) (hx d (e3.mem_iff.mp qB)) (fl bs λx hx=>by rw[e4];simp[hx])
  rw[e4,BF,xK];exact this
theorem Reach.len{P:Pl}{ds:List Dr}(nd:(ds.map (·.n)).Nodup){s:Int×Int}:∀ {bg:List Int} {st:Int×Int},Reach P ds s bg st->bg.length+(bV ds bg).length=ds.length:=by
 intro bg st h
 induction h with
 | nil=>rw[D6];simp
 | snoc h hd ih =>
  have:=VL nd (Jd hd);rw[fE,vf];lia
theorem Reach.Al{P:Pl}{ds:List Dr}(hd:∀d∈ds,∀q∈d.c,0<=q.1/\q.1<(P.rc.length:Int)){s:Int×Int}(s0:0<=s.1)(s1:s.1<P.rc.length):∀ {bg:List Int} {st:Int×Int},Reach P ds s bg st->0<=st.1/\st.1<P.rc.length:=by
 intro bg st h
 induction h with
 | nil=>exact⟨s0,s1⟩
 | @snoc b1 rT d h fP ih=>exact kU P (n:=P.rc.length) d.c rT ih.1 ih.2 (hd d (rS.mp fP).1.1)
theorem Reach.last{P:Pl}{ds:List Dr}{s:Int×Int}(nd:(ds.map (·.n)).Nodup){bg:List Int}{n:Int}{st cZ:Int×Int}(h:Reach P ds s (bg++[n]) cZ)(h0:Reach P ds s bg st):∃d∈iL ds bg,d.n=n/\cZ=bf P st d.c:=by
 generalize hb:bg++[n] = b at h;cases h with
 | nil=>simp at hb
 | @snoc b2 cg d2 h2 hd2 =>
  obtain⟨e1,e2⟩:=List.append_inj' hb rfl;subst e1;exact⟨d2,hd2,by simpa using e2.symm,by rw[Reach.uniq nd h2 h0]⟩
noncomputable def dJ(P:Pl)(ds:List Dr)(bg:List Int)(st:Int×Int):Nd:=(qz P st.1 st.2 ((bV ds bg).map (·.c)),((bV ds bg).length:Int),bg,[st.1,st.2])
noncomputable def iM:Nat->Nat
 | 0=>1
 | k+1=>1+(k+1)*iM k
theorem agu:∀ {k n:Nat},k<=n->iM k<=iM n:=by
 have one:∀n,iM n<=iM (n+1):=λn=>by
  rw[iM,Nat.add_mul];lia
 intro k n h
 induction h with
 | refl=>exact bH _
 | step _ ih=>exact cX ih (one _)
theorem agv:∀k,1<=iM k
 | 0=>bH _
 | k+1=>by rw[iM];lia
noncomputable def gr(ms:List Nd):Nat:=(ms.map λt=>iM t.2.1.toNat).sum
theorem VR{a b:List Nd}(h:a.Perm b):gr a=gr b:=by
 unfold gr
 induction h with
 | nil=>rfl
 | cons x _ ih=>simp[ih]
 | swap x y l=>simp;lia
 | trans _ _ h1 h2=>exact h1.trans h2
theorem Jf:∀ms:List Nd,ms.length<=gr ms
 | []=>bH _
 | t::ms=>by
  have:=Jf ms;have:=agv t.2.1.toNat;unfold gr at *
  rw[dM,BN,eY];lia
theorem VS(a b:List Nd):gr (a++b)=gr a+gr b:=by simp[gr]
noncomputable def wZ(P:Pl)(ds:List Dr)(bg:List Int)(st:Int×Int):List Nd:=(iL ds bg).map λd=>dJ P ds (bg++[d.n]) (bf P st d.c)
theorem agw{P:Pl}{ds:List Dr}(nd:(ds.map (·.n)).Nodup){bg:List Int}{st:Int×Int}(h:bV ds bg≠[]):gr (wZ P ds bg st)<iM (bV ds bg).length:=by
 obtain⟨k,hk⟩:∃k,(bV ds bg).length=k+1:=by
  cases e:bV ds bg with
  | nil=>exact absurd e h
  | cons x l=>exact⟨l.length,rfl⟩
 have all:∀l:List Dr,(∀d∈l,d∈iL ds bg)->gr (l.map λd=>dJ P ds (bg++[d.n]) (bf P st d.c))=l.length*iM k:=by
  intro l
  induction l with
  | nil=>intro _;simp[gr]
  | cons d l ih =>
   intro hl;have:=VL nd (Jd (hl d (cA ..)));have ih:=ih λe he=>hl e (bW _ he);unfold gr at *
   rw[dM,dM,BN,ih,eY]
   show iM ((bV ds (bg++[d.n])).length:Int).toNat+_=_;rw[Int.toNat_natCast,show (bV ds (bg++[d.n])).length=k by lia,Nat.add_mul];lia
 have e:=all (iL ds bg) λ_ h=>h;unfold wZ;rw[e,hk,iM];have l:(iL ds bg).length<=k+1:=by rw[← hk];exact lA _ _
 have:=Nat.mul_le_mul_right (iM k) l;lia
structure nR(P:Pl)(ds:List Dr)(s:Int×Int)(t:Nd)(hp:List Nd):Prop where
 nd:∀u∈t::hp,∃bg st,Reach P ds s bg st/\u=dJ P ds bg st
 VT:∀eN cZ,Reach P ds s eN cZ->bV ds eN = []->∃u∈t::hp,u.2.2.1 <+: eN
 low:∀u∈hp,¬ ltN u t
theorem nR.start(P:Pl)(ds:List Dr)(s:Int×Int):nR P ds s (dJ P ds [] s) [] :=
 ⟨λu hu=>⟨[],s,.nil,gw.mp hu⟩,λeN _ _ _=>⟨_,List.mem_singleton.mpr rfl,List.nil_prefix⟩,λ_ h=>nomatch h⟩
theorem nR.step{P:Pl}{ds:List Dr}{s:Int×Int}(nd:(ds.map (·.n)).Nodup){bg:List Int}{st:Int×Int}{hp gX pA:List Nd}{z:Nd}(I:nR P ds s (dJ P ds bg st) hp)(hr:Reach P ds s bg st)(hl:bV ds bg≠[])
  (p2:gX.Perm (wZ P ds bg st++hp)) (p:gX.Perm (z::pA)) (lo:∀y∈gX,¬ ltN y z):nR P ds s z pA/\gr (z::pA)<gr (dJ P ds bg st::hp):=by
 have mem:∀u,u∈z::pA↔u∈wZ P ds bg st++hp:=λu=>p.mem_iff.symm.trans p2.mem_iff;refine⟨⟨λu hu=>?_,λeN cZ h hf=>?_,λu hu=>lo u (p.mem_iff.mpr (bW _ hu))⟩,?_⟩
 ·rcases fM.mp ((mem u).mp hu) with h | h
  ·obtain⟨d,hd,rfl⟩:=fG.mp h;exact⟨_,_,hr.snoc hd,rfl⟩
  ·exact I.nd u (bW _ h)
 ·obtain⟨u,hu,qC⟩:=I.VT eN cZ h hf;rcases cE.mp hu with e | e
  ·subst e;have qC:bg <+: eN:=qC;obtain⟨xs,e1,_,e3⟩:=hr.ext nd h qC;cases xs with
   | nil=>rw[hf] at e3;exact absurd e3.length_eq (by cases e:bV ds bg with | nil=>exact absurd e hl | cons x l=>simp)
   | cons x xs =>
    have uH:bg++[x.n] <+: eN:=by rw[e1];exact⟨xs.map (·.n),by simp⟩
    obtain⟨cg,h2,_⟩:=h.pre uH;obtain⟨d,hd,en,_⟩:=h2.last nd hr;refine⟨dJ P ds (bg++[d.n]) (bf P st d.c),(mem _).mpr (pQ _ (fG.mpr ⟨d,hd,rfl⟩)),?_⟩
    show bg++[d.n] <+: eN;rw[en];exact uH
  ·exact⟨u,(mem u).mpr (eZ _ e),qC⟩
 ·rw[← VR p,VR p2,VS];have:=agw (P:=P) (st:=st) nd hl
  show _<gr ([dJ P ds bg st]++hp);rw[VS];have e:gr [dJ P ds bg st] = iM (bV ds bg).length:=by simp[gr,dJ]
  lia
structure agx(P:Pl)(ds:List Dr)(s:Int×Int)(bg:List Int)(e:Int):Prop where
 r:∃st,Reach P ds s bg st/\st.2=e
 f:bV ds bg = []
 m:∀eN cZ,Reach P ds s eN cZ->bV ds eN = []->e<=cZ.2
theorem agy{u t:Nd}(h:¬ ltN u t):t.1<=u.1:=by
 by_cases e:u.1<t.1
 ·exact absurd (.inl e) h
 ·lia
theorem nR.done{P:Pl}(ok:fq P){ds:List Dr}(hd:∀d∈ds,∀q∈d.c,0<=q.1/\q.1<(P.rc.length:Int)){s:Int×Int}(s0:0<=s.1)(s1:s.1<P.rc.length)(nd:(ds.map (·.n)).Nodup){t:Nd}{hp:List Nd}(I:nR P ds s t hp)(h0:t.2.1<=0):agx P ds s t.2.2.1 t.1:=by
 obtain⟨bg,st,hr,rfl⟩:=I.nd t (cA ..);have hf:bV ds bg = []:=by
  have:((bV ds bg).length:Int)<=0:=h0;exact BC (by lia)
 have e:(dJ P ds bg st).1=st.2:=by
  show qz P st.1 st.2 ((bV ds bg).map (·.c))=_;rw[hf];simp[qz]
 refine⟨⟨st,hr,e.symm⟩,hf,λeN cZ h Am=>?_⟩;obtain⟨u,hu,qC⟩:=I.VT eN cZ h Am;have le:(dJ P ds bg st).1<=u.1:=by
  rcases cE.mp hu with e | e
  ·rw[e];exact lq _
  ·exact agy (I.low u e)
 obtain⟨bg2,cg,uI,rfl⟩:=I.nd u hu;have i:=uI.Al hd s0 s1;have:=agt ok hd nd uI i.1 i.2 h qC Am;exact BA le this
structure jr(K:W.Frag)(CA CD:Addr)(H:Hp)(ps:List Addr)(ds:List Dr):Prop where
 n:ps.length=ds.length
 t:∀(i:Nat) (p:Addr) (d:Dr),ps[i]? = some p->ds[i]? = some d->∃dx ap l ts m b b_,jM K CA CD H p d dx ap l ts m b b_
section
variable{K:W.Frag}{CA CD:Addr}{H H' H0:Hp}{ps:List Addr}{ds:List Dr}
theorem jr.nil:jr K CA CD H [] []:=⟨rfl,λi p d e=>nomatch e⟩
theorem jr.snoc(h:jr K CA CD H ps ds){p:Addr}{d:Dr}(hd:∃dx ap l ts m b b_,jM K CA CD H p d dx ap l ts m b b_):jr K CA CD H (ps++[p]) (ds++[d]):=by
 refine⟨by simp[h.n],λi p' d' e1 e2=>?_⟩
 have hn:=h.n;by_cases hi:i<ps.length
 ·rw[d7 hi] at e1;rw[d7 (by lia)] at e2
  exact h.t i p' d' e1 e2
 ·rw[d8 (by lia)] at e1
  rw[d8 (by lia)] at e2
  have c_:i - ps.length=0:=by
   have:=(ie.mp e1).1;simp at this;lia
  rw[c_] at e1;rw[← hn,c_] at e2;simp at e1 e2;subst e1 e2;exact hd
theorem jr.same(h:jr K CA CD H ps ds)(s:aj H H'):jr K CA CD H' ps ds:=⟨h.n,λi p d e1 e2=>let ⟨dx,ap,l,ts,m,b,b_,a⟩:=h.t i p d e1 e2;⟨dx,ap,l,ts,m,b,b_,a.same s⟩⟩
theorem jr.DQ(h:jr K CA CD H ps ds){l:Addr}(hl:H l=some (.lst (ps.map V.ref))):g8 K CA CD H l ps ds:=⟨hl,h.n,h.t⟩
end
theorem agz{X:Cx}{K:W.Frag}(h:X.K=K)(hc:X.calm=true):gC X (.builtin "all") (λxs H Q=>∃(p:Addr) (bs:List Bool),xs = [.ref p]/\az K H p (bs.map V.bl)/\Q (.bl (bs.all id)) H):=h▸adA hc
def agA(K:W.Frag)(CA CD:Addr):Sp:=λvs H Q _=>∃(l:Addr) (ps:List Addr) (ds:List Dr),vs = [.ref l]/\g8 K CA CD H l ps ds/\Q (.bl (decide (ds.length<=7))) H
def agB(K:W.Frag)(CA CD:Addr):Sp:=λvs H Q _=>∃(l b:Addr) (ps:List Addr) (ds:List Dr) (bg:List Int) (H0:Hp),vs = [.ref l,.ref b]/\aj H0 H/\g8 K CA CD H0 l ps ds/\ds.length<=100/\H b=some (.tup (bg.map V.int))/\
 ∀(D:Addr) (eW:List Addr) (H':Hp),aj H H'->H D=none->H' D=some (.lst (eW.map V.ref))->jr K CA CD H0 eW (bV ds bg)->Q (.ref D) H'
def agC(K:W.Frag)(CA CD:Addr):Sp:=λvs H Q _=>∃(l kd b:Addr) (ps:List Addr) (ds:List Dr) (aA:List (Key×V)) (bg:List Int) (H0:Hp),vs = [.ref l,.ref kd,.ref b]/\aj H0 H/\g8 K CA CD H0 l ps ds/\ds.length<=100/\DX H0 kd ds ds aA/\H b=some (.tup (bg.map V.int))/\
 ∀(D:Addr) (eW:List Addr) (H':Hp),aj H H'->H D=none->H' D=some (.lst (eW.map V.ref))->jr K CA CD H0 eW (iL ds bg)->Q (.ref D) H'
def agD(K:W.Frag)(cs:List Addr)(CA CD:Addr):Sp:=λvs H Q _=>∃(C p l b st:Addr) (P:Pl) (fp:List Addr) (ps:List Addr) (ds:List Dr) (bg:List Int) (s:Int×Int),vs = [.ref p,.ref l,.ref b,.ref st]/\C∈cs/\cY K C H p P fp/\fq P/\0<=s.1/\s.1<P.rc.length/\g8 K CA CD H l ps ds/\ds.length<=100/\(∀d∈ds,iG P d.c/\d.c.length<=1000)/\H b=some (.tup (bg.map V.int))/\H st=some (.tup [.int s.1,.int s.2])/\
 ∀(a:Addr) (H':Hp),aj H H'->H a=none->gM H' a (dJ P ds bg s)->Q (.ref a) H'
def agE(K:W.Frag)(cs:List Addr)(CA CD:Addr):Sp:=λvs H Q _=>∃(C hp p l kd a:Addr) (P:Pl) (fp:List Addr) (ps:List Addr) (ds:List Dr) (aA:List (Key×V)) (bg:List Int) (s:Int×Int) (zs:Ms) (H0:Hp),vs = [.ref hp,.ref p,.ref l,.ref kd,.ref a]/\aj H0 H/\H0 hp=none/\C∈cs/\cY K C H0 p P fp/\fq P/\0<=s.1/\s.1<P.rc.length/\g8 K CA CD H0 l ps ds/\ds.length<=7/\(∀d∈ds,iG P d.c/\d.c.length<=1000)/\DX H0 kd ds ds aA/\gM H a (dJ P ds bg s)/\fT H hp zs/\jf gq zs.length (fm zs)/\zs.length<=15000/\bg.length<=100/\
 ∀(cU:Ms) (H':Hp),aj H0 H'->fT H' hp cU->jf gq cU.length (fm cU)->(cU.map (·.2)).Perm (wZ P ds bg s++zs.map (·.2))->Q .aO H'
theorem agF{K:W.Frag}{H:Hp}{σ:St}{g:TG}{tt:TT}{te tl:TE}{nt:Nat}{fv:List Nat}{Q:VK}(h:tl σ H λv H1=>mZ (qc K λ_ H' Q'=>Q' v H') g tt te nt fv σ H1 Q):mZ (qc K tl) g tt te nt fv σ H Q:=h
structure pB(H:Hp)(eX:List Addr)(us:List Nd):Prop where
 n:eX.length=us.length
 t:∀(i:Nat) (a:Addr) (u:Nd),eX[i]? = some a->us[i]? = some u->∃p,H a=some (.tup [.ref p,.int u.1])/\H p=some (.tup (u.2.2.1.map V.int))
theorem pB.same{H H':Hp}{eX:List Addr}{us:List Nd}(h:pB H eX us)(s:aj H H'):pB H' eX us:=⟨h.n,λi a u e1 e2=>let ⟨p,h1,h2⟩:=h.t i a u e1 e2;⟨p,s _ _ h1,s _ _ h2⟩⟩
theorem pB.fJ{H:Hp}{eX:List Addr}{us:List Nd}(h:pB H eX us){D:Addr}{xs ys:List V}(hD:H D=some (.lst xs)):pB (upd H D (.lst ys)) eX us:=⟨h.n,λi a u e1 e2=>by
 obtain⟨p,h1,h2⟩:=h.t i a u e1 e2;exact⟨p,by rw[aI (λz=>by rw[z,hD] at h1;cases h1)];exact h1,by rw[aI (λz=>by rw[z,hD] at h2;cases h2)];exact h2⟩⟩
theorem pB.snoc{H:Hp}{eX:List Addr}{us:List Nd}(h:pB H eX us){a p:Addr}{u:Nd}(h1:H a=some (.tup [.ref p,.int u.1]))(h2:H p=some (.tup (u.2.2.1.map V.int))):pB H (eX++[a]) (us++[u]):=by
 refine⟨by simp[h.n],λi a' u' e1 e2=>?_⟩
 have hn:=h.n;by_cases hi:i<eX.length
 ·rw[d7 hi] at e1;rw[d7 (by lia)] at e2
  exact h.t i a' u' e1 e2
 ·rw[d8 (by lia)] at e1
  rw[d8 (by lia)] at e2
  have c_:i - eX.length=0:=by
   have:=(ie.mp e1).1;simp at this;lia
  rw[c_] at e1;rw[← hn,c_] at e2;simp at e1 e2;subst e1 e2;exact⟨p,h1,h2⟩
structure agG(H:Hp)(l:Addr)(eX:List Addr)(us:List Nd):Prop where
 l:H l=some (.lst (eX.map V.ref))
 n:eX.length=us.length
 t:∀(i:Nat) (a:Addr) (u:Nd),eX[i]? = some a->us[i]? = some u->∃p,H a=some (.tup [.ref p,.int u.1])/\H p=some (.tup (u.2.2.1.map V.int))
section
variable{prog:Program}{w:World}{A:Around}{E:Value->Shared->Prop}{s:Shared}
theorem agH{t:Addr}{us:List Value}{R:List Value->Shared->Prop}(it:IsTup s.heap t us.toArray)(CL:us.length<=sizeLine)
  (k:R us { s with heap:=(s.heap.push (seqObj "list" #[] 0)).update s.heap.objs.size (Obj.mapSeq (· ++ us.toArray))}):wpAny (model prog w) A (collect (.ref t)) R E s:=by
 obtain⟨ob,g,tc,m,td⟩:=id it;have g1:=dg (seqObj "list" #[] 0) g;have fresh:(s.heap.push (seqObj "list" #[] 0)).get? s.heap.objs.size=some (seqObj "list" #[] 0):=fU _ rfl;unfold collect;refine aM (wpAny_runValue (xV entry_proto_collect' (aM (wpAny_newList (bL ⟨Code.quiet_builtin _ (by decide +kernel),xV entry_list_iadd' ?_⟩)))))
 show wpAny _ _ (Builtin.List.listExtendWith (.ref s.heap.objs.size) (.ref t) _) _ _ ⟨s.heap.push (seqObj "list" #[] 0),_,_,_,_⟩;unfold Builtin.List.listExtendWith;refine aM (wpAny_typeOf (T := "tuple") ⟨ob,g1,tc⟩ ?_);rw[if_pos (by rw[show (Value.type "tuple" == Value.type "tuple")=true from rfl];simp)]
 refine aM (listItems_at g1 td (aM (listItems_at (xs := #[]) (n:=0) fresh rfl ?_)));rw[if_neg (by simp)]
 refine aM (listUpdate_at (xs := #[]) (n:=0) fresh rfl (bL ?_) (eF _) (by simp only[Array.size_append,List.size_toArray,List.length_nil,Array.size_empty];lia))
 refine aM (wpAny_load (get?_update_seq fresh _) ?_)
 show wpAny _ _ (pure ((#[]:Array Value)++us.toArray).toList) R E _;rw[show ((#[]:Array Value)++us.toArray).toList=us by simp];exact bL k
theorem agI{t:Addr}{us:List Value}{ns:List Int}{R:Value->Shared->Prop}(it:IsTup s.heap t us.toArray)(ai:IntsAre us ns)(lt:us.length<64)
  (k:∀(out:Array Value) (ms:List Int),IntsAre out.toList ms->ms.Perm ns->ms.Pairwise (·<=·)->R (.ref (s.heap.objs.size+1)) { s with heap:=sortedAll s.heap us out }):wpAny (model prog w) A (call (.builtin "sorted") [.ref t]) R E s:=by
 have z:((s.heap.push (seqObj "list" #[] 0)).update s.heap.objs.size (Obj.mapSeq (· ++ us.toArray))).objs.size=s.heap.objs.size+1:=(Heap.size_update ..).trans (size_push' ..);have o2:=fU ((s.heap.push (seqObj "list" #[] 0)).update s.heap.objs.size (Obj.mapSeq (· ++ us.toArray))) (o:=seqObj "list" us.toArray 0) rfl;rw[z] at o2;refine Calls.call_function_entry kind_sorted plain_sorted entry_sorted (args_sorted1 _) ?_;unfold Builtin.«sorted»;refine aM (m:=checkCount "sorted" 1 1 _) (bL (aM (agH it (cX (jR lt) (by decide)) (aM (wpAny_newList ?_)))))
 rw[z];refine aM (pW (B0 slot_list_sort ⟨_,o2,rfl⟩ entry_list_sort (list_sort_tree o2 ai lt λout ms b1 b2 b3=>⟨_,rfl,?_⟩) (args_list_sort _)));exact bL ⟨_,rfl,k out ms b1 b2 b3⟩
end
variable{X:Cx}
theorem agJ:gC X (.builtin "sorted") (λxs H Q=>∃(p:Addr) (ns:List Int),xs = [.ref p]/\aL X.K H p (ns.map V.int)/\ns.length<64/\
  ∀(l:Addr) (ms:List Int),H l=none->ms.Perm ns->ms.Pairwise (·<=·)->Q (.ref l) (upd H l (.lst (ms.map V.int)))):=by
 rintro pins s σ H xs us Q I r ⟨p,ns,rfl,hq,kR,q⟩;obtain⟨u,rfl,ru⟩:=vals1 r;cases ru;obtain⟨aB,rv,pl,hz⟩:=I.tuple hq;have hi:IntsAre aB ns:=intsAre_of rv;have hlen:=hi.length;refine agI pl hi (by lia) λout ms a1 a2 a3=>?_
 obtain⟨e,he⟩:=sortedAll_at s.heap aB out;refine⟨.ref (s.heap.objs.size+1),upd H (s.heap.objs.size+1) (.lst (ms.map V.int)),I.laid (t':=s.toks) (λb o q=>sortedAll_old q) (sP _) ?_,rfl,q _ ms (I.aK.fresh (sP _)) a2 a3⟩;refine⟨?_,out.toList,e,zC a1,by simpa using he⟩
 rw[aR,a2.length_eq];exact cX (jR kR) (by decide)
noncomputable def rW(ks:List Kn)(bg:List Int):List Kn:=ks.filter λk => !decide (k.n∈bg)
noncomputable def rX(P:Pl)(s:Int×Int)(ks:List Kn)(bg:List Int):Int×Int:=bg.foldl (λst n=>ks.foldl (λst k=>if k.n=n then bf P st k.c else st) st) s
structure Kd(ks:List Kn)(ds:List Dr):Prop where
 n:ds.length=ks.length
 e:∀(i:Nat) (k:Kn) (d:Dr),ks[i]? = some k->ds[i]? = some d->d.n=k.n/\d.c=k.c
 q:∀(i j:Nat) (k k':Kn) (d d':Dr),ks[i]? = some k->ds[i]? = some d->ks[j]? = some k'->ds[j]? = some d'->o_ d d' = keepsK k k'
 up:ks.Pairwise λa b=>a.n<b.n
section
variable{ks:List Kn}{ds:List Dr}
theorem Kd.at(h:Kd ks ds){d:Dr}(hd:d∈ds):∃(i:Nat) (k:Kn),ks[i]? = some k/\ds[i]? = some d:=by
 obtain⟨i,hi,rfl⟩:=mH.mp hd;have hk:i<ks.length:=by rw[← h.n];exact hi
 exact⟨i,ks[i],aX hk,aX hi⟩
theorem Kd.ta(h:Kd ks ds){k:Kn}(hk:k∈ks):∃(i:Nat) (d:Dr),ks[i]? = some k/\ds[i]? = some d:=by
 obtain⟨i,hi,rfl⟩:=mH.mp hk;have hd:i<ds.length:=by rw[h.n];exact hi
 exact⟨i,ds[i],aX hi,aX hd⟩
theorem Kd.ns(h:Kd ks ds):ds.map (·.n)=ks.map (·.n):=afR h.n λi d k e1 e2=>(h.e i k d e2 e1).1
theorem Kd.nd(h:Kd ks ds):(ds.map (·.n)).Nodup:=by
 rw[h.ns];exact(List.pairwise_map.mpr h.up).imp λh=>Int.ne_of_lt h
theorem Kd.free(h:Kd ks ds){bg:List Int}{n:Int}:n∈DY (rW ks bg)↔∃d∈iL ds bg,d.n=n:=by
 unfold DY;constructor
 ·intro hn;obtain⟨k,hk,rfl⟩:=fG.mp hn;obtain⟨h1,h2⟩:=fF.mp hk;obtain⟨h3,h4⟩:=fF.mp h1;obtain⟨i,d,e1,e2⟩:=h.ta h3;obtain⟨en,_⟩:=h.e i k d e1 e2;refine⟨d,rS.mpr ⟨⟨jv e2,by rw[en];simpa using h4⟩,λo ho=>?_⟩,en⟩
  obtain⟨x,hx,rfl⟩:=fG.mp ho;obtain⟨x1,x2⟩:=fF.mp hx;obtain⟨j,k',f1,f2⟩:=h.at x1;rw[h.q i j k k' d x e1 e2 f1 f2] at x2;by_cases hb:x.n∈bg
  ·exact hb
  ·have:k'∈(rW ks bg).filter (keepsK k):=fF.mpr ⟨fF.mpr ⟨jv f1,by rw[← (h.e j k' x f1 f2).1];simpa using hb⟩,x2⟩
   rw[List.isEmpty_iff.mp h2] at this;cases this
 ·rintro⟨d,hd,rfl⟩;obtain⟨⟨h1,h2⟩,h3⟩:=rS.mp hd;obtain⟨i,k,e1,e2⟩:=h.at h1;obtain⟨en,_⟩:=h.e i k d e1 e2;refine fG.mpr ⟨k,fF.mpr ⟨fF.mpr ⟨jv e1,by rw[← en];simpa using h2⟩,?_⟩,en.symm⟩
  rw[List.isEmpty_iff];refine List.eq_nil_iff_forall_not_mem.mpr λk' nM=>?_;obtain⟨h4,h5⟩:=fF.mp nM;obtain⟨h6,h7⟩:=fF.mp h4;obtain⟨j,x,f1,f2⟩:=h.ta h6;have:=h3 x.n (fG.mpr ⟨x,fF.mpr ⟨jv f2,by rw[h.q i j k k' d x e1 e2 f1 f2];exact h5⟩,rfl⟩)
  rw[(h.e j k' x f1 f2).1] at this;simp[this] at h7
theorem VU(P:Pl)(n:Int):∀(ks:List Kn) (s:Int×Int),(∀k∈ks,k.n≠n)->ks.foldl (λst k=>if k.n=n then bf P st k.c else st) s=s
 | [],_,_=>rfl
 | k::ks,s,h=>by
  rw[oh,if_neg (h k (cA ..))];exact VU P n ks s λx hx=>h x (bW _ hx)
theorem VV(P:Pl){k:Kn}:∀ {ks:List Kn} {s:Int×Int},ks.Pairwise (λa b=>a.n<b.n)->k∈ks->ks.foldl (λst x=>if x.n=k.n then bf P st x.c else st) s=bf P s k.c
 | x::ks,s,up,h=>by
  rw[List.pairwise_cons] at up;rw[oh];rcases cE.mp h with e | e
  ·subst e;rw[if_pos rfl];exact VU P _ ks _ λy hy=>by have:=up.1 y hy;lia
  ·rw[if_neg (by have:=up.1 k e;lia)]
   exact VV P up.2 e
theorem Kd.agK(h:Kd ks ds)(P:Pl):∀ {bg:List Int} {s st:Int×Int},Reach P ds s bg st->rX P s ks bg=st:=by
 intro bg s st hr
 induction hr with
 | nil=>rfl
 | @snoc b1 rT d hr hd ih =>
  obtain⟨i,k,e1,e2⟩:=h.at (rS.mp hd).1.1;obtain⟨en,ec⟩:=h.e i k d e1 e2;unfold rX at ih ⊢;rw[xM,ih,oh,List.foldl_nil,en,ec];exact VV P h.up (jv e1)
end
structure D8(ks:List Kn)(bg:List Int):Prop where
 p:bg.Perm (ks.map (·.n))
 f:∀(i:Nat) (n:Int),bg[i]? = some n->n∈DY (rW ks (bg.take i))
theorem Kd.ord{ks:List Kn}{ds:List Dr}(h:Kd ks ds){P:Pl}{s st:Int×Int}{bg:List Int}(hr:Reach P ds s bg st)(hf:bV ds bg = []):D8 ks bg:=by
 refine⟨?_,λi n hi=>?_⟩
 ·obtain⟨xs,e1,_,e3⟩:=Reach.ext h.nd .nil hr List.nil_prefix;rw[hf,mF,D6] at e3;rw[e1,← h.ns];exact(e3.map _).symm
 ·have hp:bg.take i++[n] <+: bg:=⟨bg.drop (i+1),by rw[← take_succ_get hi,xP]⟩
  obtain⟨cg,h2,_⟩:=hr.pre hp;obtain⟨rT,h1,_⟩:=hr.pre (List.take_prefix i bg);obtain⟨d,hd,en,_⟩:=h2.last h.nd h1;exact h.free.mpr ⟨d,hd,en⟩
theorem VW:∀ {a b:List Int},a.Perm b->a.Pairwise (·<=·)->b.Pairwise (· < ·)->a=b
 | [],b,p,_,_=>(List.nil_perm.mp p).symm
 | x::a,[],p,_,_=>absurd p.length_eq (by simp)
 | x::a,y::b,p,h1,h2=>by
  rw[List.pairwise_cons] at h1 h2;have e:x=y:=by
   have m1:x∈y::b:=p.mem_iff.mp (cA ..);have m2:y∈x::a:=p.mem_iff.mpr (cA ..);rcases cE.mp m1 with e | e
   ·exact e
   ·rcases cE.mp m2 with g | g
    ·exact g.symm
    ·have:=h1.1 y g;have:=h2.1 x e;lia
  subst e;rw[VW p.cons_inv h1.2 h2.2]
structure l6(H:Hp)(ts:List Addr)(ks:List Kn):Prop where
 n:ts.length=ks.length
 t:∀(i:Nat) (t:Addr) (k:Kn),ts[i]? = some t->ks[i]? = some k->∃b cl bC,iH H t k b cl bC
section
variable{H H':Hp}{ts:List Addr}{ks:List Kn}
theorem l6.nil:l6 H [] []:=⟨rfl,λi p d e=>nomatch e⟩
theorem l6.snoc(h:l6 H ts ks){t:Addr}{k:Kn}(hk:∃b cl bC,iH H t k b cl bC):l6 H (ts++[t]) (ks++[k]):=by
 refine⟨by simp[h.n],λi p' d' e1 e2=>?_⟩
 have hn:=h.n;by_cases hi:i<ts.length
 ·rw[d7 hi] at e1;rw[d7 (by lia)] at e2
  exact h.t i p' d' e1 e2
 ·rw[d8 (by lia)] at e1
  rw[d8 (by lia)] at e2
  have c_:i - ts.length=0:=by
   have:=(ie.mp e1).1;simp at this;lia
  rw[c_] at e1;rw[← hn,c_] at e2;simp at e1 e2;subst e1 e2;exact hk
theorem l6.same(h:l6 H ts ks)(s:aj H H'):l6 H' ts ks:=⟨h.n,λi t k e1 e2=>let ⟨b,cl,bC,a⟩:=h.t i t k e1 e2;⟨b,cl,bC,a.same s⟩⟩
theorem l6.Ac(h:l6 H ts ks){l:Addr}(hl:H l=some (.lst (ts.map V.ref))):gm H l ts ks:=⟨hl,h.n,h.t⟩
end
section
variable{K:W.Frag}{H:Hp}{σ:St}{g:TG}{tt:TT}{te tl:TE}{nt:Nat}{fv:List Nat}{Q:VK}
theorem agL(a:Addr)(xs:List V)(Pv:Addr->Nat->List V->St->Hp->Prop)(m_:∀Q:VK,Q (.ref a) H->tl σ H Q)(eg:aL K H a xs)
  (h0:∀D,H D=none->Pv D 0 [] (jF σ nt fv) (upd H D (.lst []))) (hD:∀D i ys σ H,Pv D i ys σ H->H D=some (.lst ys)/\ys.length<sizeLine/\aL K H a xs)
  (hs:∀D i x ys aC H2 (N:List V->St->Hp->Prop),(∀ys σ H,Pv D (i+1) ys σ H->N ys σ H)->xs[i]? = some x->Pv D i ys aC H2->g x aC H2 λcH H4=>tt cH H4 λb H5=>if b=true then te cH H5 λv H6=>H6 D=some (.lst ys)/\N (ys++[v]) cH (upd H6 D (.lst (ys++[v]))) else N ys cH H5)
  (hd:∀D ys aC H2,Pv D xs.length ys aC H2->Q (.ref D) H2):mZ (GP K tl) g tt te nt fv σ H Q:=by
 refine m_ _ ⟨a,rfl,⟨xs,eg⟩,λD ng=>?_⟩;refine⟨λi m ys aC H2=>m=xs.length - i/\i<=xs.length/\Pv D i ys aC H2,⟨_,rfl,eF _,h0 D ng⟩,?_⟩;rintro i m ys aC H2 ⟨rfl,jG,p⟩;obtain⟨d1,d2,d3⟩:=hD D i ys aC H2 p;refine⟨d1,d2,?_⟩;by_cases cF:i<xs.length
 ·refine .inr ⟨⟨xs,xs[i],d3,by simp[cF]⟩,λx H3 y=>?_⟩
  obtain⟨e1,e2⟩:=y;subst e1;exact hs D i x ys aC _ (λuJ bK H'=>∃m',m' < xs.length - i/\m' = xs.length - (i+1)/\i+1<=xs.length/\Pv D (i+1) uJ bK H') (λys σ H p=>⟨_,by lia,rfl,by lia,p⟩) (e2 xs d3) p
 ·have e:i=xs.length:=by lia
  subst e;exact .inl ⟨⟨xs,d3,bH _⟩,hd D ys aC H2 p⟩
end
def agM(K:W.Frag):Sp:=λvs H Q _=>∃(kl b:Addr) (cM:List Addr) (ks:List Kn) (bg:List Int),vs = [.ref kl,.ref b]/\gm H kl cM ks/\ks.length<=100/\H b=some (.tup (bg.map V.int))/\
 ∀(D:Addr) (ts:List Addr) (H':Hp),aj H H'->H D=none->gm H' D ts (rW ks bg)->Q (.ref D) H'
def agN(K:W.Frag):Sp:=λvs H Q _=>∃(t kl b:Addr) (z:List (Int×Int)) (au sk:Int) (sw:List Int) (za:Addr) (bB:List Addr) (ca sa:Addr) (r bt:Int) (cM:List Addr) (ks:List Kn) (bg:List Int),vs = [.ref t,.int r,.int bt,.ref kl,.ref b]/\
 jk H t z au sk sw za bB ca sa/\jm z au sk sw/\0<=r/\r<(counts z).length/\gm H kl cM ks/\(∀k∈ks,iG (bO z au sk sw []) k.c/\k.c.length<=16)/\H b=some (.tup (bg.map V.int))/\
 ∀(u:Addr) (H':Hp),aj H H'->H u=none->H' u=some (.tup [.int (rX (bO z au sk sw []) (r,bt) ks bg).1,.int (rX (bO z au sk sw []) (r,bt) ks bg).2])->Q (.ref u) H'
def agO:Sp:=λvs H Q _=>∃(a:Addr) (ns:List Int),vs = [.ref a]/\H a=some (.tup (ns.map V.int))/\∀H',aj H H'->Q (.bl true) H'
def agP(K:W.Frag):Sp:=λvs H Q _=>∃(f kl:Addr) (cM:List Addr) (ks:List Kn) (bg:List Int),vs = [.ref f,.ref kl]/\H f=some (.tup (bg.map V.int))/\gm H kl cM ks/\ks.length<=60/\ks.Pairwise (λa b=>a.n<b.n)/\D8 ks bg/\∀H',aj H H'->Q (.bl true) H'
def VX(t:TS):TS:=λD σ H=>∀N:St->Hp->Prop,(∀fV H1,@Later ⟨D.nx⟩ fV H1->N fV H1)->t { D with nx:=N } σ H
theorem cI{X:Cx}{st:Stmt}{t:TS}(h:PS X st t):PS X st (VX t):=λpins s σ H D I q=>h pins s σ H D I (q D.nx λ_ _ z=>z)
theorem cJ{t b:TS}{D:Ends}{σ:St}{H:Hp}(h:∀N:St->Hp->Prop,(∀fV H1,b D fV H1->N fV H1)->t { D with nx:=N } σ H):vC (VX t) b D σ H:=λN hN=>h N hN
theorem agQ{X:Cx}(hu:X.A.units+16<cLine):cB X (compareOp .NotEq) (λx y H Q=>∃(n:Nat) (a b:Addr) (ds:List Dt),n<=10/\x = .ref a/\y = .ref b/\Rep H (n+1) (.ref a) (.tup ds)/\Rep H (n+1) (.ref b) (.tup ds)/\Q (.bl false) H):=by
 rintro pins s σ H x y v u Q I rx ry ⟨n,a,b,ds,hn,rfl,rfl,r1,r2,q⟩;cases rx;cases ry;cases r1 with
 | @tup _ _ xs _ h l hl r =>
 cases r2 with
 | @tup _ _ ys _ h' l' uh r' =>
 obtain⟨aB,q1,p1,z1⟩:=I.tuple (aL.of (K:=X.K) h);obtain⟨dH,q2,p2,z2⟩:=I.tuple (aL.of (K:=X.K) h');have l1:=q1.length;have l2:=q2.length;have e0:((List.range (min aB.toArray.size dH.toArray.size)).all (λ_=>true) && aB.toArray.size == dH.toArray.size)=true:=by simp;lia
 have fin:=SeqAt.RcNeAt.tuples (A:=X.A) (s:=s) (e:=λ_=>true) p1 p2 (by lia) (λj h1 h2=>?_)
 ·rw[e0] at fin;exact fin X.prog X.w _ _ ⟨.bl false,H,I,rfl,q⟩
 ·have hj:j<xs.length:=by rw[l1];simpa using h1
  have lU:j<ys.length:=by lia
  have rJ:j<ds.length:=by lia
  obtain⟨u1,g1,w1⟩:=q1.get (aX hj);obtain⟨u2,g2,w2⟩:=q2.get (aX lU);have e1:aB.toArray[j] = u1:=by
   rw[lz];exact dh ((aX (by simpa using h1)).symm.trans g1)
  have e2:dH.toArray[j] = u2:=by
   rw[lz];exact dh ((aX (by simpa using h2)).symm.trans g2)
  rw[e1,e2];exact ada I n (by show X.A.units+1+n<cLine;lia) (r j _ _ (aX hj) (aX rJ)) (r' j _ _ (aX lU) (aX rJ)) w1 w2
theorem Reach.agR{P P':Pl}{ds:List Dr}(h:∀s c,bf P s c=bf P' s c){s:Int×Int}:∀ {bg:List Int} {st:Int×Int},Reach P ds s bg st->Reach P' ds s bg st:=by
 intro bg st hr
 induction hr with
 | nil=>exact .nil
 | snoc hr hd ih=>rw[h];exact ih.snoc hd
def agS(K:W.Frag)(CA CD X:Addr):Sp:=λvs H Q E=>∃(l:Addr) (ps:List Addr) (ds:List Dr),vs = [.ref l]/\g8 K CA CD H l ps ds/\(ds.length<=7->Q .aO H)/\(¬ ds.length<=7->E (.ref X) none H)
def agT(K:W.Frag)(cs:List Addr)(CA CD X:Addr):Sp:=λvs H Q E=>(∃(C p l:Addr) (P:Pl) (fp:List Addr) (r b:Int) (ps:List Addr) (ds:List Dr),vs = [.ref p,.int r,.int b,.ref l]/\C∈cs/\cY K C H p P fp/\fq P/\0<=r/\r<P.rc.length/\g8 K CA CD H l ps ds/\ds.length<=7/\(ds.map (·.n)).Nodup/\(∀d∈ds,iG P d.c/\d.c.length<=1000)/\  ∀(u pb lv:Addr) (eX:List Addr) (t:Nd) (hp:List Nd) (H':Hp),aj H H'->H lv=none->H' u=some (.tup [.ref pb,.int t.1,.ref lv])->H' pb=some (.tup (t.2.2.1.map V.int))->agG H' lv eX (t::hp)->nR P ds (r,b) t hp->t.2.1<=0->gr (t::hp)<=iM ds.length->Q (.ref u) H')\/∃(p l:Addr) (r b:Int) (ps:List Addr) (ds:List Dr),vs = [.ref p,.int r,.int b,.ref l]/\g8 K CA CD H l ps ds/\¬ ds.length<=7/\E (.ref X) none H
def agU(K:W.Frag)(cs:List Addr)(CA CD:Addr):Sp:=λvs H Q _=>∃(p l:Addr) (r b:Int) (ps:List Addr) (ds:List Dr),vs = [.ref p,.int r,.int b,.ref l]/\g8 K CA CD H l ps ds/\¬ ds.length<=7/\∀(D:Addr) (H':Hp),H' D=some (.lst [.bl true,.bl true,.bl false])->Q (.ref D) H'
def agV(K:W.Frag):Sp:=λvs H Q _=>∃(u t kl pb lv:Addr) (e:Int) (z:List (Int×Int)) (au sk:Int) (sw:List Int) (za:Addr) (bB:List Addr) (ca sa:Addr) (r bt:Int) (cM:List Addr) (ks:List Kn) (bg:List Int) (xs:List V),vs = [.ref u,.ref t,.int r,.int bt,.ref kl]/\H u=some (.tup [.ref pb,.int e,.ref lv])/\H pb=some (.tup (bg.map V.int))/\H lv=some (.lst xs)/\
 jk H t z au sk sw za bB ca sa/\jm z au sk sw/\0<=r/\r<(counts z).length/\gm H kl cM ks/\(∀k∈ks,iG (bO z au sk sw []) k.c/\k.c.length<=16)/\ks.length<=60/\ks.Pairwise (λa b=>a.n<b.n)/\D8 ks bg/\(rX (bO z au sk sw []) (r,bt) ks bg).2=e/\∀H',aj H H'->Q (.bl true) H'
theorem VY{H:Hp}{w wp wl a q:Addr}{b:Int}(h1:H w=some (.tup [.ref wp,.int b,.ref wl]))(h2:H wp=some (.tup []))(h3:H wl=some (.lst [.ref a]))(h4:H a=some (.tup [.ref q,.int b]))(h5:H q=some (.tup [])):Rep H 4 (.ref w) (.tup [.tup [],.int b,.lst [.tup [.tup [],.int b]]]):=by
 have nil:∀ {n:Nat} {x:Addr},H x=some (.tup [])->Rep H (n+1) (.ref x) (.tup []):=λh=>.tup h rfl (by simp) λi x d e=>by simp at e
 refine .tup h1 rfl (by simp) λi x d e1 e2=>?_
 match i with
 | 0=>cases e1;cases e2;exact nil h2
 | 1=>cases e1;cases e2;exact .int b
 | 2 =>
  cases e1;cases e2;refine .lst h3 rfl (by simp) λi x d e1 e2=>?_
  match i with
  | 0 =>
   cases e1;cases e2;refine .tup h4 rfl (by simp) λi x d e1 e2=>?_
   match i with
   | 0=>cases e1;cases e2;exact nil h5
   | 1=>cases e1;cases e2;exact .int b
   | i+2=>simp at e1
  | i+1=>simp at e1
 | i+3=>simp at e1
theorem agW{t:Nd}{hp:List Nd}(h:gr (t::hp)<=1):hp = []:=by
 have:=Jf (t::hp);rw[eY] at this;exact BC (by lia)
def rY(i:Nat):TE:=λσ H Q=>match σ[i]? with
 | some (some v)=>Q v H
 | _=>False
def mI(g:Int->Int->V):R2:=λx y H Q=>match x,y with
 | .int i,.int j=>Q (g i j) H
 | _,_=>False
def pC(C:Int->Int->Prop)(g:Int->Int->V):R2:=λx y H Q=>match x,y with
 | .int i,.int j=>C i j/\Q (g i j) H
 | _,_=>False
def onR(x:V)(k:Addr->Prop):Prop:=match x with
 | .ref a=>k a
 | _=>False
def uK(K:W.Frag)(o:Option HO)(f:Str)(k:V->Prop):Prop:=match o with
 | some (.ins C _ fs)=>(dF K C/\b9 K C f)/\match fs.lookup f with
  | some v=>k v
  | none=>False
 | _=>False
def setM(K:W.Frag)(o:Option HO)(f:Str)(k:Addr->Addr->List (Str×V)->Prop):Prop:=match o with
 | some (.ins C dx fs)=>(dF K C/\b9 K C f/\fs.length<1000)/\k C dx fs
 | _=>False
theorem Jg{K:W.Frag}{C dx:Addr}{fs:List (Str×V)}{f:Str}{k:V->Prop}(c:dF K C)(n:b9 K C f):uK K (some (.ins C dx fs)) f k=match fs.lookup f with
  | some v=>k v
  | none=>False:=propext ⟨λh=>h.2,λh=>⟨⟨c,n⟩,h⟩⟩
theorem Jh{K:W.Frag}{C dx:Addr}{fs:List (Str×V)}{f:Str}{k:Addr->Addr->List (Str×V)->Prop}(c:dF K C)(n:b9 K C f)(l:fs.length<1000):setM K (some (.ins C dx fs)) f k=k C dx fs :=
 propext ⟨λh=>h.2,λh=>⟨⟨c,n,l⟩,h⟩⟩
theorem uK.o{K:W.Frag}{o:Option HO}{f:Str}{k:V->Prop}(h:uK K o f k):∃C dx fs v,o=some (.ins C dx fs)/\dF K C/\b9 K C f/\fs.lookup f=some v/\k v:=by
 unfold uK at h;split at h
 ·obtain⟨⟨c,n⟩,h⟩:=h;split at h
  ·exact⟨_,_,_,_,rfl,c,n,by assumption,h⟩
  ·exact h.elim
 ·exact h.elim
theorem setM.o{K:W.Frag}{o:Option HO}{f:Str}{k:Addr->Addr->List (Str×V)->Prop}(h:setM K o f k):∃C dx fs,o=some (.ins C dx fs)/\dF K C/\b9 K C f/\fs.length<1000/\k C dx fs:=by
 unfold setM at h;split at h
 ·exact⟨_,_,_,rfl,h.1.1,h.1.2.1,h.1.2.2,h.2⟩
 ·exact h.elim
section
variable{X:Cx}
theorem PE.mn{e:Expr}{t t':TE}(h:PE X e t)(m:∀σ H Q,t' σ H Q->t σ H Q):PE X e t':=λpins s σ H Q I q=>h pins s σ H Q I (m _ _ _ q)
theorem cB.mn{f:Value->Value->Sem Value}{r r':R2}(h:cB X f r)(m:∀x y H Q,r' x y H Q->r x y H Q):cB X f r':=λpins s σ H x y v u Q I rx ry q=>h pins s σ H x y v u Q I rx ry (m _ _ _ _ q)
theorem rY.o{i:Nat}{σ:St}{H:Hp}{Q:VK}(h:rY i σ H Q):∃v,σ[i]? = some (some v)/\Q v H:=by
 unfold rY at h;split at h
 ·exact⟨_,by assumption,h⟩
 ·exact h.elim
theorem aa(i:Nat){x:Str}{pos:Pos}(hN:X.N[i]? = some x:=by rfl)(hv:Cc X.env.scope x:=by first | exact Or.inl rfl | exact Or.inr (Or.inl rfl) | exact Or.inr (Or.inr rfl))(hd:(x == ("__debug__" : Str))=false:=by decide)
  (dN:(x == ("__classdict__" : Str))=false:=by decide):PE X (.Name x pos) (rY i):=(RO hN hv hd dN).mn λ_ _ _ h=>h.o
theorem mI.o{g:Int->Int->V}{x y:V}{H:Hp}{Q:VK}(h:mI g x y H Q):iR g x y H Q:=by
 unfold mI at h;split at h
 ·exact⟨_,_,rfl,rfl,h⟩
 ·exact h.elim
theorem pC.o{C:Int->Int->Prop}{g:Int->Int->V}{x y:V}{H:Hp}{Q:VK}(h:pC C g x y H Q):rI C g x y H Q:=by
 unfold pC at h;split at h
 ·exact⟨_,_,rfl,rfl,h⟩
 ·exact h.elim
theorem dR:cB X (binaryOp .Add) (mI λi j=>.int (i+j)):=d_.mn λ_ _ _ _ h=>h.o
theorem nT:cB X (binaryOp .Sub) (mI λi j=>.int (i - j)):=oG.mn λ_ _ _ _ h=>h.o
theorem l7:cB X (binaryOp .Mult) (pC tN λi j=>.int (i*j)):=vH.mn λ_ _ _ _ h=>h.o
theorem kq:cB X (binaryOp .FloorDiv) (pC yF λi j=>.int (i / j)):=vI.mn λ_ _ _ _ h=>h.o
theorem fY:cB X (binaryOp .Mod) (pC (λ_ j=>0<j) λi j=>.int (i % j)):=cR.mn λ_ _ _ _ h=>h.o
def c0:Int->Int->Prop->Prop:=λi j k=>k
section
variable{f:Value->Value->Sem Value}{C:Int->Int->Prop}{c:Int->Int->Prop->Prop}{g:Int->Int->V}
end
def An(p:Int->Int->Prop)[∀i j,Decidable (p i j)](ta tb:TE):TT:=λσ H Q=>ta σ H λx H1=>tb σ H1 λy H2=>match x,y with
 | .int i,.int j=>if p i j then Q true H2 else Q false H2
 | _,_=>False
theorem agX{p:Int->Int->Prop}[∀i j,Decidable (p i j)]{x y:V}{H:Hp}{Q:Bool->Hp->Prop} (h:match x,y with
 | .int i,.int j=>if p i j then Q true H else Q false H
 | _,_=>False):iR (λi j=>.bl (decide (p i j))) x y H λz H'=>∃k,z = .bl k/\Q k H':=by
 split at h
 ·refine⟨_,_,rfl,rfl,_,rfl,?_⟩;split at h
  ·rw[kJ (by assumption)];exact h
  ·rw[kI (by assumption)];exact h
 ·exact h.elim
theorem eO{op:CmpOp}{a b:Expr}{pos:Pos}{ta tb:TE}{p:Int->Int->Prop}[∀i j,Decidable (p i j)](ho:cB X (compareOp op) (iR λi j=>.bl (decide (p i j))))(ha:PE X a ta)(hb:PE X b tb)(hm:behindInMarks op b=false):PT X (.Compare a [op] [b] pos) (An p ta tb):=by
 intro pins s σ H Q I h;refine GB (aW (ha pins s σ H _ I h) λv s1 ⟨x,H1,I1,r1,q1⟩=>aW (hb pins s1 σ H1 _ I1 q1) λu s2 ⟨y,H2,I2,r2,q2⟩ =>
  aW (ho pins s2 σ H2 x y v u _ I2 r1 r2 (agX q2)) λc s3 ⟨z,H3,I3,r3,zz⟩=>?_) hm
 obtain⟨k,e,q3⟩:=zz;subst e;cases r3;exact pX ⟨H3,I3,q3⟩
theorem Ji:cB X (compareOp .Eq) (iR λi j=>.bl (decide (i=j))):=λpins s σ H x y v u Q I rx ry ⟨i,j,e1,e2,q⟩=>by
 subst e1 e2;exact lK pins s σ H _ _ v u Q I rx ry ⟨rfl,by simpa only[V.int.injEq] using q⟩
theorem Jj:cB X (compareOp .NotEq) (iR λi j=>.bl (decide (¬ i=j))):=λpins s σ H x y v u Q I rx ry ⟨i,j,e1,e2,q⟩=>by
 subst e1 e2;exact yI pins s σ H _ _ v u Q I rx ry ⟨rfl,by simpa only[V.int.injEq,decide_not] using q⟩
def Ao(c:TT)(t u:TS):TS:=λD σ H=>c σ H λb H1=>match b with
 | true=>t D σ H1
 | false=>u D σ H1
theorem jO{c:Expr}{a b:List Stmt}{tc:TT}{t u:TS}{pos:Pos}(hc:PT X c tc)(ha:gB X a t)(hb:gB X b u):PS X (.If c a b pos) (Ao tc t u):=by
 intro pins s σ H D I h;refine wpAny_If (aW (hc pins s σ H _ I h) λd s1 ⟨H1,I1,q1⟩=>?_);cases d with
 | true=>exact ha pins s1 σ H1 D I1 q1
 | false=>exact hb pins s1 σ H1 D I1 q1
def uL(t u:TT):TT:=λσ H Q=>t σ H λc H1=>match c with
 | true=>Q true H1
 | false=>u σ H1 Q
def D9(t u:TT):TT:=λσ H Q=>t σ H λc H1=>match c with
 | true=>u σ H1 Q
 | false=>Q false H1
theorem ofM{b:Bool}{x y:Prop}:(if b=true then x else y)=(match b with
 | true=>x
 | false=>y):=by cases b <;> simp
theorem agY{t u:TT}:qZ t u=uL t u:=by
 funext σ H Q
 unfold qZ uL;congr 1;funext c H1;exact ofM
theorem qD{a:Expr}{bs:List Expr}{tA tB:TT}{pos:Pos}(h:PW X (.BoolOp .Or (a::bs) pos) (qZ tA tB)):PW X (.BoolOp .Or (a::bs) pos) (uL tA tB):=agY▸h
def w5(K:W.Frag):List V->Hp->VK->Prop:=λxs H Q=>match xs with
 | [.ref p]=>∃ys,(az K H p ys\/aL K H p ys)/\Q (.int ys.length) H
 | _=>False
theorem fL:gC X (.builtin "len") (w5 X.K):=λpins s σ H xs us Q I r h=>by
 unfold w5 at h;split at h
 ·obtain⟨ys,hq,q⟩:=h;exact CI pins s σ H _ us Q I r ⟨_,ys,rfl,hq,q⟩
 ·exact h.elim
def qE(K:W.Frag):R2:=λx y H Q=>match x,y with
 | .ref p,.int i=>∃xs,az K H p xs/\∃v,e7 xs i=some v/\Q v H
 | _,_=>False
def qF(K:W.Frag):R2:=λx y H Q=>match x,y with
 | .ref p,.int i=>∃xs,aL K H p xs/\∃v,e7 xs i=some v/\Q v H
 | _,_=>False
theorem mW.mn{r r':R2}(h:mW X r)(m:∀x y H Q,r' x y H Q->r x y H Q):mW X r':=λvalue slice pins s σ H x y v u Q I rx ry q hs=>h value slice pins s σ H x y v u Q I rx ry (m _ _ _ _ q) hs
theorem qE.o{K:W.Frag}{x y:V}{H:Hp}{Q:VK}(h:qE K x y H Q):vR K x y H Q:=by
 unfold qE at h;split at h
 ·obtain⟨xs,hx,w,hw,q⟩:=h;exact⟨_,xs,_,w,rfl,rfl,hx,hw,q⟩
 ·exact h.elim
theorem qF.o{K:W.Frag}{x y:V}{H:Hp}{Q:VK}(h:qF K x y H Q):tX K x y H Q:=by
 unfold qF at h;split at h
 ·obtain⟨xs,hx,w,hw,q⟩:=h;exact⟨_,xs,_,w,rfl,rfl,hx,hw,q⟩
 ·exact h.elim
theorem bT:mW X (qE X.K):=qg.mn λ_ _ _ _ h=>h.o
theorem bJ:mW X (qF X.K):=vU.mn λ_ _ _ _ h=>h.o
theorem Jk{K:W.Frag}(h:X.K=K):mW X (qE K):=h▸bT
theorem l8{K:W.Frag}(h:X.K=K):mW X (qF K):=h▸bJ
def w6(K:W.Frag)(ta:TE)(f:Str):TE:=λσ H Q=>ta σ H λx H1=>match x with
 | .ref a=>uK K (H1 a) f λv=>Q v H1
 | _=>False
def Aq(K:W.Frag)(ta tv:TE)(f:Str):TS:=λD σ H=>tv σ H λy H1=>ta σ H1 λx H2=>match x with
 | .ref a=>setM K (H2 a) f λC dx fs=>D.nx σ (upd H2 a (.ins C dx (fW f y fs)))
 | _=>False
theorem agZ{K:W.Frag}{f:Str}{x:V}{H:Hp}{Q:VK} (h:match x with
 | .ref a=>uK K (H a) f λv=>Q v H
 | _=>False):∃a C dx fs v,x = .ref a/\H a=some (.ins C dx fs)/\dF K C/\b9 K C f/\fs.lookup f=some v/\Q v H:=by
 split at h
 ·obtain⟨C,dx,fs,v,e⟩:=h.o;exact⟨_,C,dx,fs,v,rfl,e⟩
 ·exact h.elim
theorem ag0{K:W.Frag}{f:Str}{x:V}{H:Hp}{k:Addr->Addr->Addr->List (Str×V)->Prop} (h:match x with
 | .ref a=>setM K (H a) f (k a)
 | _=>False):∃a C dx fs,x = .ref a/\H a=some (.ins C dx fs)/\dF K C/\b9 K C f/\fs.length<1000/\k a C dx fs:=by
 split at h
 ·obtain⟨C,dx,fs,e⟩:=h.o;exact⟨_,C,dx,fs,rfl,e⟩
 ·exact h.elim
variable{o e value:Expr}{f:Str}{pos pos':Pos}{ta tv:TE}
theorem cC(he:PE X e ta)(hb:attributeBase e f X.env (eval e X.env)=eval e X.env):PE X (.Attribute e f pos) (w6 X.K ta f):=by
 intro pins s σ H Q I h;refine R_ hb (aW (he pins s σ H _ I h) λu s1 ⟨x,H1,I1,rx,q⟩=>?_);obtain⟨a,C,dx,fs,v,ex,ea,c,n,l,q1⟩:=agZ q;subst ex;obtain rfl:u=Value.ref a:=rx;exact R7 I1 ea c n l λu' s2 I2 ru=>⟨v,H1,I2,ru,q1⟩
theorem D_{K:W.Frag}(h:X.K=K)(he:PE X e ta)(hb:attributeBase e f X.env (eval e X.env)=eval e X.env):PE X (.Attribute e f pos) (w6 K ta f):=h▸cC he hb
theorem iN(ha:PE X o ta)(hv:PE X value tv)(hs:swapsWith value (some (.Attribute o f pos')) pos.line X.env=pure false):PS X (.Assign [.Attribute o f pos'] value pos) (Aq X.K ta tv f):=by
 intro pins s σ H D I h;refine plainObj_wpAny_Assign_Attribute (aW (hv pins s σ H _ I h) λu s1 ⟨y,H1,I1,ry,q⟩=>aW (ha pins s1 σ H1 _ I1 q) λov s2 ⟨x,H2,I2,rx,q2⟩=>?_) hs;obtain⟨a,C,dx,fs,ex,ea,c,n,l,q3⟩:=ag0 (k:=λa C dx fs=>D.nx σ (upd H2 a (.ins C dx (fW f y fs)))) q2;subst ex;obtain rfl:ov=Value.ref a:=rx;exact R9 I2 ea c n l ry λs3 I3=>⟨σ,_,I3,q3⟩
end
theorem aoQ{α β:Type}{f:α->β}{a:α}{l:List α}:List.map f (a::l)=f a::List.map f l:=rfl
theorem aoR{α β:Type}{f:α->β}:List.map f [] = []:=rfl
theorem aoS{ta:TA}{σ H Q}:C7 ta σ H Q=(ta σ H λvs H1=>∃i j:Int,vs = [.int i,.int j]/\(-1000000000000<i/\i<1000000000000/\-1000000000000<j/\j<1000000000000)/\(j - i).toNat<=1000000/\
 ∀l,H1 l=none->Q (.ref l) (upd H1 l (.lst ((List.range (j - i).toNat).map λ(k:Nat)=>V.int (i+(k:Int)))))):=rfl
theorem aoT{K:W.Frag}{x y H Q}:C8 K x y H Q=(∃l k xs,x = .ref l/\y = .int k/\H l=some (.tup xs)/\xs≠[]/\xs.length<=1000/\1<=k/\k<=1000/\∀p H',aj H H'->H' p=some (.tup (List.replicate k.toNat xs).flatten)->Q (.ref p) H'):=rfl
theorem aoU{x vs H Q}:C6 x vs H Q=(∃l a zs t,x = .ref l/\vs = [.ref a]/\H l=some (.lst (zV zs))/\TF H zs/\HY H a t/\t∈zs.map (·.2)/\
 ∀(k:Nat) (h:k<zs.length),zs[k].2=t->Q .aO (upd H l (.lst (zV (zs.eraseIdx k))))):=rfl
theorem aoV{x vs H Q}:zd x vs H Q=(∃l xs y,x = .ref l/\vs = []/\H l=some (.lst xs)/\xs[xs.length - 1]? = some y/\Q y (upd H l (.lst xs.dropLast))):=rfl
theorem aoW{K:W.Frag}{neg:Bool}{x y H Q}:DJ K neg x y H Q=(∃(a p:Addr) (c:List Int) (zs:Us),x = .ref a/\y = .ref p/\H a=some (.tup (c.map V.int))/\az K H p (uV zs)/\DI H zs/\
 Q (.bl (if neg then !decide (c∈zs.map (·.2)) else decide (c∈zs.map (·.2)))) H):=rfl
theorem aoX{x vs H Q}:DK x vs H Q=(∃(l a:Addr) (zs:Us) (c:List Int),x = .ref l/\vs = [.ref a]/\H l=some (.lst (uV zs))/\DI H zs/\H a=some (.tup (c.map V.int))/\c∈zs.map (·.2)/\
 ∀(k:Nat) (h:k<zs.length),zs[k].2=c->(∀m (hm:m<zs.length),m<k->zs[m].2≠c)->Q .aO (upd H l (.lst (uV (zs.eraseIdx k))))):=rfl
theorem aoY{K:W.Frag}{te ts:TE}{σ H Q}:Ab K te ts σ H Q=(te σ H λx H1=>ts σ H1 λk H2=>∃a xs,x = .ref a/\k = .int (-1)/\az K H2 a xs/\∀p,H2 p=none->Q (.ref p) (upd H2 p (.lst xs.reverse))):=rfl
theorem aoZ{K:W.Frag}{x y H Q}:yU K x y H Q=(∃a b xs ys,x = .ref a/\y = .ref b/\aL K H a xs/\aL K H b ys/\xs≠[]/\xs.length+ys.length<=sizeLine/\
 (ys = []->Q (.ref a) H)/\(ys≠[]->∀p,H p=none->Q (.ref p) (upd H p (.tup (xs++ys))))):=rfl
theorem ao0{t:TS}{D σ H}:Ag t D σ H=(∃M:St->Hp->Prop,t { D with nx:=M } σ H/\∀fV H1,M fV H1->@Later ⟨D.nx⟩ fV H1):=rfl
theorem ao1{i:Nat}{σ H Q}:rY i σ H Q=(match σ[i]? with
 | some (some v)=>Q v H
 | _=>False):=rfl
theorem ao2{g:Int->Int->V}{x y H Q}:mI g x y H Q=(match x,y with
 | .int i,.int j=>Q (g i j) H
 | _,_=>False):=rfl
theorem ao3{C:Int->Int->Prop}{g:Int->Int->V}{x y H Q}:pC C g x y H Q=(match x,y with
 | .int i,.int j=>C i j/\Q (g i j) H
 | _,_=>False):=rfl
theorem ao4{p:Int->Int->Prop}[∀i j,Decidable (p i j)]{ta tb:TE}{σ H Q}:An p ta tb σ H Q=(ta σ H λx H1=>tb σ H1 λy H2=>match x,y with
 | .int i,.int j=>if p i j then Q true H2 else Q false H2
 | _,_=>False):=rfl
theorem ao5{c:TT}{t u:TS}{D σ H}:Ao c t u D σ H=(c σ H λb H1=>match b with
 | true=>t D σ H1
 | false=>u D σ H1):=rfl
theorem ao6{t u:TT}{σ H Q}:uL t u σ H Q=(t σ H λc H1=>match c with
 | true=>Q true H1
 | false=>u σ H1 Q):=rfl
theorem ao7{t u:TT}{σ H Q}:D9 t u σ H Q=(t σ H λc H1=>match c with
 | true=>u σ H1 Q
 | false=>Q false H1):=rfl
theorem ao8{K:W.Frag}{xs H Q}:w5 K xs H Q=(match xs with
 | [.ref p]=>∃ys,(az K H p ys\/aL K H p ys)/\Q (.int ys.length) H
 | _=>False):=rfl
theorem ao9{K:W.Frag}{x y H Q}:qE K x y H Q=(match x,y with
 | .ref p,.int i=>∃xs,az K H p xs/\∃v,e7 xs i=some v/\Q v H
 | _,_=>False):=rfl
theorem ao_{K:W.Frag}{x y H Q}:qF K x y H Q=(match x,y with
 | .ref p,.int i=>∃xs,aL K H p xs/\∃v,e7 xs i=some v/\Q v H
 | _,_=>False):=rfl
theorem apa{K:W.Frag}{ta:TE}{f:Str}{σ H Q}:w6 K ta f σ H Q=(ta σ H λx H1=>match x with
 | .ref a=>uK K (H1 a) f λv=>Q v H1
 | _=>False):=rfl
theorem apb{K:W.Frag}{ta tv:TE}{f:Str}{D σ H}:Aq K ta tv f D σ H=(tv σ H λy H1=>ta σ H1 λx H2=>match x with
 | .ref a=>setM K (H2 a) f λC dx fs=>D.nx σ (upd H2 a (.ins C dx (fW f y fs)))
 | _=>False):=rfl
theorem apc{cs:List Addr}{m:Str}{sp:Sp}{cu:List V}{E:XK}{ta:TE}{t:TA}{σ H Q}:wu cs m sp cu E ta t σ H Q=(ta σ H λx H1=>∃C a dx fs,x = .ref a/\H1 a=some (.ins C dx fs)/\C∈cs/\fs.lookup m=none/\t σ H1 λvs H2=>sp (x::(vs++cu)) H2 Q E):=rfl
theorem apd{K:W.Frag}{neg:Bool}{x y H Q}:rB K neg x y H Q=(∃p xs,y = .ref p/\(az K H p xs\/aL K H p xs)/\lM x=true/\xs.all lM=true/\Q (.bl (if neg then !vV x xs else vV x xs)) H):=rfl
theorem ape{K:W.Frag}{T:String}{r:V->List V->Hp->VK->Prop}{to:TE}{σ H Q}:yZ K T r to σ H Q=(to σ H λx H1=>rC K T x H1/\r x [] H1 Q):=rfl
theorem apf{x vs H Q}:ze x vs H Q=(∃l xs,x = .ref l/\vs = []/\H l=some (.lst xs)/\Q .aO (upd H l (.lst []))):=rfl
theorem apg{r r':R2}{ta tb tc:TE}{σ H Q}:Ct r r' ta tb tc σ H Q=(ta σ H λx H1=>tb σ H1 λy H2=>r x y H2 λz H3=>∃k,z = .bl k/\
 (if k=true then tc σ H3 λw' H4=>r' y w' H4 Q else Q (.bl false) H3)):=rfl
theorem aph{r:V->Option Int->Option Int->Hp->VK->Prop}{te:TE}{tl th:TO}{σ H Q}:yT r te tl th σ H Q=(te σ H λx H1=>tl σ H1 λl H2=>th σ H2 λu H3=>r x l u H3 Q):=rfl
theorem api{t:TE}{σ H Q}:yS t σ H Q=(t σ H λx H1=>∃i,x = .int i/\Q (some i) H1):=rfl
theorem apj{z0 H Q}:yR z0 H Q=(Q none H):=rfl
theorem apk{K:W.Frag}{x lo hi H Q}:yW K x lo hi H Q=(∃a xs,x = .ref a/\az K H a xs/\∀p,H p=none->Q (.ref p) (upd H p (.lst (iF xs lo hi)))):=rfl
theorem apl{o i v H Q}:yV o i v H Q=(∃p xs k j,o = .ref p/\i = .int k/\H p=some (.lst xs)/\jc xs.length k=some j/\Q (upd H p (.lst (xs.set j v)))):=rfl
theorem apm{z0 H Q}:zy z0 H Q=(∀p,H p=none->Q (.ref p) (upd H p (.dT []))):=rfl
theorem apn{z0 H Q}:zx z0 H Q=(∀p,H p=none->Q (.ref p) (upd H p (.dK []))):=rfl
theorem apo{td ty tv:TE}{D σ H}:zu td ty tv D σ H=(tv σ H λv H1=>td σ H1 λx H2=>ty σ H2 λy H3=>∃a H4,x = .ref a/\lQ H3 a y v H4/\D.nx σ H4):=rfl
theorem apq{td ty:TE}{σ H Q}:zm td ty σ H Q=(td σ H λx H1=>ty σ H1 λy H2=>∃a v,x = .ref a/\gf H2 a y (some v)/\Q v H2):=rfl
theorem apr{ty td:TE}{σ H Q}:zo ty td σ H Q=(ty σ H λy H1=>td σ H1 λx H2=>∃a o,x = .ref a/\gf H2 a y o/\Q (.bl o.isSome) H2):=rfl
theorem aps{ty td:TE}{σ H Q}:zq ty td σ H Q=(ty σ H λy H1=>td σ H1 λx H2=>∃a o,x = .ref a/\gf H2 a y o/\Q (.bl (!o.isSome)) H2):=rfl
theorem apt{td ty:TE}{σ H Q}:zA td ty σ H Q=(td σ H λx H1=>∃a,x = .ref a/\Ht H1 a/\ty σ H1 λy H2=>∃o,gf H2 a y o/\Q (o.getD .aO) H2):=rfl
theorem apu{z0 z1 z2}:yt z0 z1 z2=(False):=rfl
theorem apv{z0 H Q}:zE z0 H Q=(Q true H):=rfl
theorem apw{t:TT}{ta tb:TE}{σ H Q}:ym t ta tb σ H Q=(t σ H λc H1=>if c=true then ta σ H1 Q else tb σ H1 Q):=rfl
theorem apx{t u:TS}{D σ H}:vC t u D σ H=(t { D with nx:=u D } σ H):=rfl
theorem apy{te:TE}{g:TG}{D σ H}:tw te g D σ H=(te σ H λx H1=>g x σ H1 D.nx):=rfl
theorem apz{i:Nat}{v σ H Q}:oB i v σ H Q=(Q (σ.set i (some v)) H):=rfl
theorem apA{vs σ H Q}:vF vs σ H Q=(vs = []/\Q σ H):=rfl
theorem apB{t:TG}{u:oA}{vs σ H Q}:s_ t u vs σ H Q=(∃v r,vs=v::r/\t v σ H λbK H'=>u r bK H' Q):=rfl
theorem apC{K:W.Frag}{n:Nat}{t:oA}{v σ H Q}:tu K n t v σ H Q=(∃a xs,v = .ref a/\aL K H a xs/\xs.length=n/\t xs σ H Q):=rfl
theorem apD{to ti:TE}{t:Cm}{v σ H Q}:yu to ti t v σ H Q=(to σ H λo H1=>ti σ H1 λi H2=>t o i v H2 λH3=>Q σ H3):=rfl
theorem apE{i:Nat}{σ H Q}:vA i σ H Q=(∃v,σ[i]? = some (some v)/\Q v H):=rfl
theorem apF{v:V}{z0 H Q}:tC v z0 H Q=(Q v H):=rfl
theorem apG{r:R2}{ta tb:TE}{σ H Q}:q_ r ta tb σ H Q=(ta σ H λx H1=>tb σ H1 λy H2=>r x y H2 Q):=rfl
theorem apH{g:Int->Int->V}{x y H Q}:iR g x y H Q=(∃i j,x = .int i/\y = .int j/\Q (g i j) H):=rfl
theorem apI{C:Int->Int->Prop}{g:Int->Int->V}{x y H Q}:rI C g x y H Q=(∃i j,x = .int i/\y = .int j/\C i j/\Q (g i j) H):=rfl
theorem apJ{r:V->Hp->VK->Prop}{ta:TE}{σ H Q}:yE r ta σ H Q=(ta σ H λx H1=>r x H1 Q):=rfl
theorem apK{g:Int->V}{x H Q}:rU g x H Q=(∃i,x = .int i/\Q (g i) H):=rfl
theorem apL{t:TE}{σ H Q}:yJ t σ H Q=(t σ H λx H'=>∃k,x = .bl k/\Q k H'):=rfl
theorem apM{t:TE}{σ H Q}:tB t σ H Q=(t σ H λx H1=>∃c,x = .bl c/\Q c H1):=rfl
theorem apN{c:TT}{t u:TS}{D σ H}:yr c t u D σ H=(c σ H λb H1=>if b=true then t D σ H1 else u D σ H1):=rfl
theorem apO{te:TE}{D σ H}:yq te D σ H=(te σ H D.rt):=rfl
theorem apP{D z0 H}:Ck D z0 H=(D.rt .aO H):=rfl
theorem apQ{te:TE}{D σ H}:vD te D σ H=(te σ H λ_ H1=>D.nx σ H1):=rfl
theorem apR{r:List V->Hp->VK->Prop}{t:TA}{σ H Q}:vP r t σ H Q=(t σ H λvs H1=>r vs H1 Q):=rfl
theorem apS{ta:TE}{tr:TA}{σ H Q}:yM ta tr σ H Q=(ta σ H λx H1=>tr σ H1 λxs H2=>Q (x::xs) H2):=rfl
theorem apT{z0 H Q}:vM z0 H Q=(Q [] H):=rfl
theorem apU{sp:Sp}{cu:List V}{E:XK}{t:TA}{σ H Q}:tR sp cu E t σ H Q=(t σ H λvs H1=>sp (vs++cu) H1 Q E):=rfl
theorem apV{D σ H}:yp D σ H=(D.nx σ H):=rfl
theorem apW{t u:TT}{σ H Q}:yd t u σ H Q=(t σ H λc H1=>if c=true then u σ H1 Q else Q false H1):=rfl
theorem apX{t u:TT}{σ H Q}:qZ t u σ H Q=(t σ H λc H1=>if c=true then Q true H1 else u σ H1 Q):=rfl
theorem apY{t:TT}{σ H Q}:yf t σ H Q=(t σ H λc H1=>Q (!c) H1):=rfl
theorem apZ{ta tb:TE}{σ H Q}:yi ta tb σ H Q=(ta σ H λx H1=>∃c,x = .bl c/\if c=true then tb σ H1 Q else Q (.bl false) H1):=rfl
theorem ap0{ta tb:TE}{σ H Q}:yj ta tb σ H Q=(ta σ H λx H1=>∃c,x = .bl c/\if c=true then Q (.bl true) H1 else tb σ H1 Q):=rfl
theorem ap1{ta:TE}{σ H Q}:yl ta σ H Q=(ta σ H λx H1=>∃c,x = .bl c/\Q (.bl (!c)) H1):=rfl
theorem ap3{t:TA}{σ H Q}:yO t σ H Q=(t σ H λxs H1=>xs.length<=sizeLine/\∀p,H1 p=none->Q (.ref p) (upd H1 p (.lst xs))):=rfl
theorem ap4{t:TA}{σ H Q}:yN t σ H Q=(t σ H λxs H1=>xs.length<=sizeLine/\∀p,H1 p=none->Q (.ref p) (upd H1 p (.tup xs))):=rfl
theorem ap5{K:W.Frag}{T:String}{r:V->List V->Hp->VK->Prop}{to:TE}{t:TA}{σ H Q}:y9 K T r to t σ H Q=(to σ H λx H1=>rC K T x H1/\t σ H1 λxs H2=>r x xs H2 Q):=rfl
theorem ap6{x vs H Q}:y_ x vs H Q=(∃l xs y,x = .ref l/\vs = [y]/\H l=some (.lst xs)/\xs.length<sizeLine/\Q .aO (upd H l (.lst (xs++[y])))):=rfl
theorem ap7{x vs H Q}:zb x vs H Q=(∃l b xs zs,x = .ref l/\vs = [.ref b]/\H l=some (.lst xs)/\H b=some (.lst zs)/\xs.length+zs.length<=sizeLine/\Q .aO (upd H l (.lst (xs++zs)))):=rfl
theorem ap8{x y H Q}:zf x y H Q=(∃l b xs zs,x = .ref l/\y = .ref b/\H l=some (.lst xs)/\H b=some (.lst zs)/\xs.length+zs.length<=sizeLine/\∀p,H p=none->Q (.ref p) (upd H p (.lst (xs++zs)))):=rfl
theorem ap9{x y H Q}:zg x y H Q=(∃l k xs,x = .ref l/\y = .int k/\H l=some (.lst xs)/\-(2 ^ 63)<=k/\k<2 ^ 63/\xs.length*k.toNat<=sizeLine/\
 ∀p,H p=none->Q (.ref p) (upd H p (.lst (List.replicate k.toNat xs).flatten))):=rfl
theorem ap_{K:W.Frag}{x y H Q}:vR K x y H Q=(∃p xs i v,x = .ref p/\y = .int i/\az K H p xs/\e7 xs i=some v/\Q v H):=rfl
theorem aqa{K:W.Frag}{x y H Q}:tX K x y H Q=(∃p xs i v,x = .ref p/\y = .int i/\aL K H p xs/\e7 xs i=some v/\Q v H):=rfl
theorem aqb{x y H Q}:yG x y H Q=(lJ x y=true/\Q (.bl (decide (x=y))) H):=rfl
theorem aqc{x y H Q}:yH x y H Q=(lJ x y=true/\Q (.bl (!decide (x=y))) H):=rfl
theorem aqd{K:W.Frag}{ta:TE}{f:Str}{σ H Q}:vL K ta f σ H Q=(ta σ H λx H1=>∃a C dx fs v,x = .ref a/\H1 a=some (.ins C dx fs)/\dF K C/\b9 K C f/\fs.lookup f=some v/\Q v H1):=rfl
theorem aqe{K:W.Frag}{ta tv:TE}{f:Str}{D σ H}:yL K ta tv f D σ H=(tv σ H λy H1=>ta σ H1 λx H2=>∃a C dx fs,x = .ref a/\H2 a=some (.ins C dx fs)/\dF K C/\b9 K C f/\fs.length<1000/\
 D.nx σ (upd H2 a (.ins C dx (fW f y fs)))):=rfl
theorem aqf{C:Addr}{m:Str}{sp:Sp}{cu:List V}{E:XK}{ta:TE}{t:TA}{σ H Q}:Cv C m sp cu E ta t σ H Q=(ta σ H λx H1=>∃a dx fs,x = .ref a/\H1 a=some (.ins C dx fs)/\fs.lookup m=none/\
 t σ H1 λvs H2=>sp (x::(vs++cu)) H2 Q E):=rfl
theorem aqg{C:Addr}{sp:Sp}{cu:List V}{E:XK}{t:TA}{σ H Q}:yP C sp cu E t σ H Q=(t σ H λvs H1=>∀x dx,H1 x=none->H1 dx=none->dx≠x->
 sp (.ref x::(vs++cu)) (upd (upd H1 dx (.own x)) x (.ins C dx [])) (λv H2=>v = .aO/\Q (.ref x) H2) E):=rfl
end _L
namespace _W
open PySem _L PyProof.Rows
theorem Jl{i j:Int}:lJ (.int i) (.int j)=true:=rfl
theorem Jm{i j:Str}:lJ (.str i) (.str j)=true:=rfl
theorem Jo{i j:Bool}:lJ (.bl i) (.bl j)=true:=rfl
theorem Jp: lJ (.aO) (.aO)=true:=rfl
theorem Jq{i:Int}:lJ (.aO) (.int i)=true:=rfl
theorem Jr{i:Int}:lJ (.int i) (.aO)=true:=rfl
theorem Js{i:Str}:lJ (.aO) (.str i)=true:=rfl
theorem Jt{i:Str}:lJ (.str i) (.aO)=true:=rfl
local macro_rules | `(tactic| wp_walk using $ts,*)=>do
 let a ← ("^ao1 ^ao2 ^ao3 ^ao4 ^ao5 ^ao6 ^ao7 ^ao8 ^ao9 ^ao_ ^apa Jg ^apb Jh D4 ^aoY ^aoZ ^aoW ^aoX De Dm Dj Di zS Ih ^aoS qq ^aoT ^aoU ^aoV ^apc ^apd ^ape ^apf ^apg ^ao0 IW ^aph ^api ^apj ^apk ^apl and_assoc B8 HO.ins.injEq CU wk fW String.reduceBEq List.lookup_cons List.lookup_nil aD HO.lst.injEq HO.dT.injEq HO.tup.injEq String.reduceEq false_and or_false false_or oM ^apm ^apn ^apo ^apq ^apr ^aps ^apt Bool.not_eq_true' decide_eq_false_iff_not Classical.not_not ^apu if_false_left if_false_right ^apv ^apw jF List.length_map List.getElem?_nil ^apx ^apy ^apz ^apA ^apB ^apC ^apD ^apE ^apF ^apG ^apH ^apI ^apJ ^apK ^apL ^apM ^apN ^apO ^apP ^apQ ^apR ^apS ^apT ^apU ^apV ^apW ^apX ^apY ^apZ ^ap0 ^ap1 ^ap3 ^ap4 ^ap5 rC ^ap6 ^ap7 ^ap8 ^ap9 ^ap_ ^aqa ^aqb ^aqc Jl Jm Jo Jp Jq Jr Js Jt tN yF Cs ^aqd ^aqe ^aqf ^aqg _L.start HL HM I_ aoQ aoR List.cons_append List.nil_append List.length_cons List.length_nil List.getElem?_cons_zero List.getElem?_cons_succ Option.some.injEq exists_eq_left exists_eq_left' exists_and_left exists_eq V.int.injEq V.ref.injEq V.bl.injEq V.ty.injEq V.str.injEq List.cons.injEq and_true true_and List.set_cons_zero List.set_cons_succ decide_eq_true_eq Nat.reduceSub Nat.reduceAdd List.replicate_succ List.replicate_zero List.replicate Int.reduceLT Int.reduceLE Int.reducePow Int.reduceToNat Int.reduceNeg Nat.reduceLT Nat.reduceLeDiff Nat.reducePow Int.reduceMul Int.reduceAdd Int.reduceSub and_self or_true true_or gt_iff_lt ge_iff_le if_true if_false Bool.false_eq_true reduceIte Nat.sub_self Nat.sub_zero".splitOn " ").toArray.mapM λx=>if x.startsWith "^" then `(Lean.Parser.Tactic.simpLemma| ↓ $(Lean.mkIdent (x.drop 1).toString.toName):ident) else `(Lean.Parser.Tactic.simpLemma| $(Lean.mkIdent x.toName):ident)
 let d:Array (Lean.TSyntax `term):=("T.aql T.Oh T.pF T.pG T.Xs T.Xu T.Xv T.Xw T.Xx T.Xy T.Xz T.XA T.XC T.EI T.XF T.Oi T.Oj T.Ol T.Om T.Oo T.Oq T.Ot T.Ou T.Ov T.Ow T.Ox T.Oz T.OA T.OB".splitOn " ").toArray.map λx=>⟨Lean.mkIdent x.toName⟩
 let b ← (ts.getElems.flatMap λt=>if t.raw.getId == `T then d else #[t]).mapM λt => `(Lean.Parser.Tactic.simpLemma| $t:term)
 let c:=a++b
 `(tactic| simp (maxSteps:=4000000) only[$c,*])
local macro_rules | `(tactic| walk_at "rdm") => `(tactic| wp_walk using and_self)
seal gB PS PE PT PW PA PG vE PI PK PC PO wg
noncomputable def top(i:Nat):Stmt:=PySem.Challenge.pw_armswing_k64_least_order.main.body.getD i (.Pass ⟨0,0,0,0⟩)
noncomputable abbrev Ju:Stmt:=inClass (top 18) 0
noncomputable abbrev Jv:Stmt:=top 19
noncomputable abbrev Jw:Stmt:=top 20
noncomputable abbrev Jx:Stmt:=top 21
noncomputable abbrev Jy:Stmt:=top 22
noncomputable abbrev jP:Stmt:=top 23
noncomputable abbrev l9:Stmt:=top 24
noncomputable abbrev Jz:Stmt:=top 25
noncomputable abbrev JA:Stmt:=top 27
noncomputable abbrev JB:Stmt:=top 28
noncomputable abbrev JC:Stmt:=top 29
noncomputable abbrev JD:Stmt:=top 30
noncomputable abbrev JE:Stmt:=top 32
noncomputable abbrev JF:Stmt:=top 33
noncomputable abbrev JG:Stmt:=inClass (top 34) 0
noncomputable abbrev JH:Stmt:=top 36
noncomputable abbrev JI:Stmt:=top 37
noncomputable abbrev JJ:Stmt:=top 38
noncomputable abbrev JK:Stmt:=top 41
noncomputable abbrev JL:Stmt:=top 42
noncomputable abbrev JM:Stmt:=top 43
noncomputable abbrev JN:Stmt:=top 44
noncomputable abbrev JO:Stmt:=top 45
noncomputable abbrev JP:Stmt:=top 46
noncomputable abbrev JQ:Stmt:=top 47
noncomputable abbrev JR:Stmt:=top 48
noncomputable abbrev JS:Stmt:=top 49
noncomputable abbrev JT:Stmt:=top 50
noncomputable abbrev JU:Stmt:=top 51
noncomputable abbrev JV:Stmt:=top 59
noncomputable abbrev JW:Stmt:=top 60
noncomputable abbrev JX:Stmt:=top 61
noncomputable abbrev JY:Stmt:=top 62
noncomputable abbrev JZ:Stmt:=top 63
noncomputable abbrev J0:Stmt:=top 64
noncomputable abbrev J5:Stmt:=top 65
noncomputable abbrev J6:Stmt:=inClass (top 66) 0
noncomputable abbrev J7:Stmt:=inClass (top 66) 1
noncomputable abbrev J8:Stmt:=inClass (top 66) 2
noncomputable abbrev J9:Stmt:=inClass (top 66) 4
noncomputable abbrev J_:Stmt:=inClass (top 66) 5
noncomputable abbrev Ka:Stmt:=inClass (top 66) 6
noncomputable abbrev Kc:Stmt:=inClass (top 66) 7
noncomputable abbrev Ke:Stmt:=inClass (top 66) 8
noncomputable abbrev Kf:Stmt:=inClass (top 66) 9
noncomputable abbrev Kg:Stmt:=inClass (top 66) 10
noncomputable abbrev Kh:Stmt:=top 68
noncomputable abbrev Kl:Stmt:=top 69
noncomputable abbrev Km:Stmt:=top 70
noncomputable abbrev g_:Stmt:=top 71
noncomputable abbrev Ko:Stmt:=top 72
noncomputable abbrev Kq:Stmt:=top 73
noncomputable abbrev Kr:Stmt:=inClass (top 74) 0
noncomputable abbrev Ks:Stmt:=top 76
noncomputable abbrev Ku:Stmt:=top 77
noncomputable abbrev Kv:Stmt:=top 78
noncomputable abbrev Kw:Stmt:=top 79
noncomputable abbrev Ky:Stmt:=top 80
noncomputable abbrev Kz:Stmt:=top 81
noncomputable abbrev KA:Stmt:=top 82
noncomputable abbrev KC:Stmt:=top 83
noncomputable abbrev KG:Stmt:=top 84
noncomputable abbrev KH:Stmt:=top 85
noncomputable abbrev KI:Stmt:=top 86
noncomputable abbrev KJ:Stmt:=top 87
noncomputable abbrev KL:Stmt:=top 88
noncomputable abbrev KN:Stmt:=top 89
noncomputable abbrev KO:Stmt:=top 90
noncomputable abbrev KP:Stmt:=top 91
noncomputable abbrev KQ:Stmt:=top 92
noncomputable abbrev KR:Stmt:=top 93
noncomputable abbrev KS:Stmt:=top 94
noncomputable abbrev KU:Stmt:=top 95
noncomputable abbrev KW:Stmt:=top 96
noncomputable abbrev l_:Stmt:=top 97
theorem ag1:bA ["self", "kind", "first", "many", "marks", "at", "asker", "latest", "behind", "early"] ["self", "kind", "first", "many", "marks", "at", "asker", "latest", "behind", "early"] (aV Ju):=bN
theorem ag2:bA ["number", "least", "greatest", "words"] ["number", "least", "greatest", "words"] (aV Jv):=bN
theorem Ea:bA ["behind", "ahead", "number"] ["behind"] (aV Jw):=bN
theorem ag3:bA ["first", "many", "at", "asker", "latest", "behind"] ["first", "many", "at", "asker", "latest", "behind"] (aV Jx):=bN
theorem ag4:bA ["behind"] ["behind"] (aV Jy):=bN
theorem VZ:bA ["first", "many", "at", "asker", "latest", "behind", "others"] ["first", "many", "at", "asker", "latest", "behind"] (aV jP):=bN
theorem KY:bA ["first", "marks", "at", "asker", "latest", "behind", "early", "others", "mark"] ["first", "marks", "at", "asker", "latest", "behind", "early"] (aV l9):=bN
theorem ag5:bA ["one", "other"] ["one", "other"] (aV Jz):=bN
theorem KZ:bA ["heap", "thing", "at"] ["heap", "thing"] (aV JA):=bN
theorem K3:bA ["heap", "least", "last"] ["heap"] (aV JB):=bN
theorem V0:bA ["heap", "at", "child"] ["heap", "at"] (aV JC):=bN
theorem As:bA ["heap", "thing", "at", "child"] ["heap", "thing"] (aV JD):=bN
theorem ag6:bA ["plate", "ask"] ["plate", "ask"] (aV JE):=bN
theorem ag7:bA ["plate", "number", "ask", "e"] ["plate", "number", "ask"] (aV JF):=bN
theorem ag8:bA ["self", "plate", "number", "ask"] ["self", "plate", "number", "ask"] (aV JG):=bN
theorem ag9:bA ["plate", "ring", "place", "beat"] ["plate", "ring", "place", "beat"] (aV JH):=bN
theorem uM:bA ["plate", "ring", "beat", "cells", "rows", "other", "place", "begun"] ["plate", "ring", "beat", "cells"] (aV JI):=bN
theorem V1:bA ["plate", "ring", "beat", "cells", "rows"] ["plate", "ring", "beat", "cells"] (aV JJ):=bN
theorem ag_:bA ["dues"] ["dues"] (aV JK):=bN
theorem aha:bA ["dues"] ["dues"] (aV JL):=bN
theorem ahb:bA ["due", "other"] ["due", "other"] (aV JM):=bN
theorem K4:bA ["dues", "kept", "due"] ["dues"] (aV JN):=bN
theorem ahc:bA ["dues", "begun"] ["dues", "begun"] (aV JO):=bN
theorem V2:bA ["dues", "kept", "begun", "left"] ["dues", "kept", "begun"] (aV JP):=bN
theorem ahd:bA ["plate", "due"] ["plate", "due"] (aV JQ):=bN
theorem V3:bA ["plate", "ring", "beat", "dues", "one_by_one"] ["plate", "ring", "beat", "dues"] (aV JR):=bN
theorem V4:bA ["plate", "dues", "begun", "stop", "left"] ["plate", "dues", "begun", "stop"] (aV JS):=bN
theorem Au:bA ["heap", "plate", "dues", "kept", "node", "begun", "stop", "due", "later"] ["heap", "plate", "dues", "kept", "node"] (aV JT):=bN
theorem nU:bA ["plate", "ring", "beat", "dues", "kept", "heap", "node", "leaves"] ["plate", "ring", "beat", "dues"] (aV JU):=bN
theorem Eb:bA ["zones", "rings", "cells", "in_all"] ["zones"] (aV JV):=bN
theorem K5:bA ["zones", "lap", "skew", "rings", "cells"] ["zones", "lap", "skew"] (aV JW):=bN
theorem V5:bA ["swing", "rings", "far"] ["swing", "rings"] (aV JX):=bN
theorem K6:bA ["swing", "far", "part"] ["swing"] (aV JY):=bN
theorem Ec:bA ["zones", "counts", "rings", "cells"] ["zones"] (aV JZ):=bN
theorem Av:bA ["ring_cells", "spares", "cells", "ring", "count", "place"] ["ring_cells", "spares"] (aV J0):=bN
theorem Ed:bA ["number_cells", "numbers", "number", "cell"] ["number_cells"] (aV J5):=bN
theorem ahe:bA ["self", "zones", "lap", "skew", "swing"] ["self", "zones", "lap", "skew", "swing"] (aV J6):=bN
theorem ahf:bA ["self"] ["self"] (aV J7):=bN
theorem ahg:bA ["self"] ["self"] (aV J8):=bN
theorem ahh:bA ["self", "ring"] ["self", "ring"] (aV J9):=bN
theorem ahi:bA ["self"] ["self"] (aV J_):=bN
theorem ahj:bA ["self", "ring", "place"] ["self", "ring", "place"] (aV Ka):=bN
theorem ahk:bA ["self", "ring", "other"] ["self", "ring", "other"] (aV Kc):=bN
theorem ahl:bA ["self", "ring", "place"] ["self", "ring", "place"] (aV Ke):=bN
theorem ahm:bA ["self", "number"] ["self", "number"] (aV Kf):=bN
theorem ahn:bA ["self", "ring", "place"] ["self", "ring", "place"] (aV Kg):=bN
theorem aho:bA ["spares", "ring_cells"] ["spares", "ring_cells"] (aV Kh):=bN
theorem Ef:bA ["plate", "bad", "found", "ring", "place"] ["plate", "bad"] (aV Kl):=bN
theorem ahp:bA ["number_cells", "bad_cells"] ["number_cells", "bad_cells"] (aV Km):=bN
theorem ahq:bA ["ring", "rings"] ["ring", "rings"] (aV g_):=bN
theorem Eg:bA ["ring_cells", "spares", "ring", "used", "other", "count", "place"] ["ring_cells", "spares", "ring", "used"] (aV Ko):=bN
theorem w_:bA ["ring_cells", "spares", "number_cells", "bad_cells", "moves", "used", "number", "cell", "other"] ["ring_cells", "spares", "number_cells", "bad_cells"] (aV Kq):=bN
theorem Aw:bA ["self", "zones", "lap", "skew", "swing", "spares", "bad", "bad_cells", "number", "cell", "other"] ["self", "zones", "lap", "skew", "swing", "spares", "bad"] (aV Kr):=bN
theorem ahr:bA ["_law_script", "_law_k"] ["_law_script", "_law_k"] (aV Ks):=bN
theorem Ax:bA ["_law_cell", "_law_many", "_law_found", "_law_number", "_law_k"] ["_law_cell", "_law_many"] (aV Ku):=bN
theorem uN:bA ["_law_xs", "_law_rings", "_law_step", "_law_far", "_law_k", "_law_least"] ["_law_xs", "_law_rings"] (aV Kv):=bN
theorem mh:bA ["_law_cell", "_law_more", "_law_xs", "_law_zones", "_law_k", "_law_whole_here", "_law_counts", "_law_many", "_law_cells", "_law_lap"] ["_law_cell", "_law_more"] (aV Kw):=bN
theorem xg:bA ["_law_spec_here", "_law_cell", "_law_xs", "_law_spares", "_law_bad", "_law_k", "_law_ring"] ["_law_spec_here", "_law_cell"] (aV Ky):=bN
theorem qG:bA ["_law_spec_here", "_law_ring", "_law_beat", "_law_cells", "_law_rows", "_law_other", "_law_place", "_law_part", "_law_free", "_law_begun"] ["_law_spec_here", "_law_ring", "_law_beat", "_law_cells"] (aV Kz):=bN
theorem Eh:bA ["_law_spec_here", "_law_ring", "_law_beat", "_law_cells", "_law_row"] ["_law_spec_here", "_law_ring", "_law_beat", "_law_cells"] (aV KA):=bN
theorem rZ:bA ["_law_plate_here", "_law_spec_here", "_law_spot_here", "_law_cell", "_law_places", "_law_at", "_law_known_here", "_law_k", "_law_first"] ["_law_plate_here", "_law_spec_here", "_law_spot_here", "_law_cell"] (aV KC):=bN
theorem Ay:bA ["_law_spec_here", "_law_spot_here", "_law_known_here", "_law_one", "_law_found", "_law_k"] ["_law_spec_here", "_law_spot_here", "_law_known_here"] (aV KG):=bN
theorem gu:bA ["_law_script", "_law_plate_here", "_law_spec_here", "_law_spot_here", "_law_most", "_law_cell", "_law_chains", "_law_many", "_law_far", "_law_known_here", "_law_number", "_law_there", "_law_k", "_law_xs", "_law_first", "_law_size", "_law_cells", "_law_latest", "_law_behind"] ["_law_script", "_law_plate_here", "_law_spec_here", "_law_spot_here", "_law_most"] (aV KH):=bN
theorem V6:bA ["_law_one", "_law_cell", "_law_marks"] ["_law_one", "_law_cell"] (aV KI):=bN
theorem ahs:bA ["_law_one", "_law_other"] ["_law_one", "_law_other"] (aV KJ):=bN
theorem aht:bA ["_law_known_here"] ["_law_known_here"] (aV KL):=bN
theorem ahu:bA ["_law_found"] ["_law_found"] (aV KN):=bN
theorem ahv:bA ["_law_known_here", "_law_begun"] ["_law_known_here", "_law_begun"] (aV KO):=bN
theorem Az:bA ["_law_spec_here", "_law_ring", "_law_beat", "_law_known_here", "_law_begun", "_law_number", "_law_one"] ["_law_spec_here", "_law_ring", "_law_beat", "_law_known_here", "_law_begun"] (aV KP):=bN
theorem ahw:bA ["_law_found"] ["_law_found"] (aV KQ):=bN
theorem V7:bA ["_law_found", "_law_known_here", "_law_k"] ["_law_found", "_law_known_here"] (aV KR):=bN
theorem uO:bA ["_law_script", "_law_most", "_law_spec_here", "_law_plate_here", "_law_ring", "_law_beat", "_law_known_here", "_law_dues"] ["_law_script", "_law_most"] (aV KS):=bN
theorem K7:bA ["_law_plate_here", "_law_ring", "_law_beat", "_law_dues", "e", "_law_others"] ["_law_plate_here", "_law_ring", "_law_beat", "_law_dues"] (aV KU):=bN
theorem ahx:bA ["_law_found", "_law_spec_here", "_law_ring", "_law_beat", "_law_known_here"] ["_law_found", "_law_spec_here", "_law_ring", "_law_beat", "_law_known_here"] (aV KW):=bN
theorem mj:bA ["_law_script", "_law_spec_here", "_law_plate_here", "_law_ring", "_law_beat", "_law_known_here", "_law_dues", "_law_handed", "_law_found", "_law_again", "_law_none", "_law_many"] ["_law_script"] (aV l_):=bN
set_option genInjectivity false
set_option genSizeOf false
structure kr where
 K8:Addr
 K9:FuncData
 K_:Addr
 La:FuncData
 Lb:Addr
 Lc:FuncData
 Ld:Addr
 Le:FuncData
 Lf:Addr
 Lh:FuncData
 Li:Addr
 Ei:FuncData
 V8:Tok
 Lj:Addr
 Lk:FuncData
 aqh:Tok
 Ll:Addr
 Lm:FuncData
 Ln:Addr
 Lo:FuncData
 Lp:Addr
 Lq:FuncData
 Lr:Addr
 Ls:FuncData
 Lu:Addr
 Lv:FuncData
 Lw:Addr
 Lx:FuncData
 Ly:Addr
 Lz:FuncData
 LA:Addr
 LB:FuncData
 LC:Addr
 LD:FuncData
 LF:Addr
 LG:FuncData
 LH:Addr
 LI:FuncData
 LJ:Addr
 LK:FuncData
 LL:Addr
 LM:FuncData
 LN:Addr
 LO:FuncData
 LQ:Addr
 LR:FuncData
 LS:Addr
 LU:FuncData
 LV:Addr
 LW:FuncData
 LX:Addr
 LY:FuncData
 LZ:Addr
 L4:FuncData
 L5:Addr
 L6:FuncData
 L7:Addr
 L8:FuncData
 L_:Addr
 Ma:FuncData
 Mb:Addr
 Mc:FuncData
 Me:Addr
 Mf:FuncData
 Mg:Addr
 Mh:FuncData
 Mi:Addr
 Mj:FuncData
 Ml:Addr
 Mm:FuncData
 Mn:Addr
 Mp:FuncData
 Mq:Addr
 Mr:FuncData
 Ej:Addr
 Mt:FuncData
 AA:Addr
 Mu:FuncData
 AB:Addr
 Mv:FuncData
 AD:Addr
 Mw:FuncData
 AE:Addr
 Mx:FuncData
 AF:Addr
 My:FuncData
 AG:Addr
 Mz:FuncData
 AH:Addr
 MA:FuncData
 AI:Addr
 MB:FuncData
 AJ:Addr
 MC:FuncData
 MD:Addr
 ME:FuncData
 MF:Addr
 MG:FuncData
 MH:Addr
 MI:FuncData
 Ek:Addr
 AK:FuncData
 MJ:Addr
 MK:FuncData
 ML:Addr
 MM:FuncData
 MN:Addr
 MO:FuncData
 MP:Addr
 MQ:FuncData
 MR:Addr
 MS:FuncData
 MT:Addr
 MU:FuncData
 MV:Addr
 MW:FuncData
 MX:Addr
 MY:FuncData
 MZ:Addr
 M0:FuncData
 M3:Addr
 M4:FuncData
 M5:Addr
 M7:FuncData
 M8:Addr
 M9:FuncData
 M_:Addr
 Ng:FuncData
 Nh:Addr
 Ni:FuncData
 Nj:Addr
 Nk:FuncData
 Nl:Addr
 Nm:FuncData
 Nn:Addr
 Np:FuncData
 Nq:Addr
 Nr:FuncData
 Nt:Addr
 Nu:FuncData
 Nv:Addr
 Nx:FuncData
 Ny:Addr
 Nz:FuncData
 NB:Addr
 NC:FuncData
 ND:Addr
 NF:FuncData
 NG:Addr
 NH:FuncData
 NI:Addr
 NJ:FuncData
 bU:Addr
 cj:Addr
 bG:Addr
 br:Addr
 nW:Addr
 mq:Addr
 qH:Addr
 mw:Addr
 b8:Addr
 bu:Addr
 aZ:Addr
 El:Tok
 Em:Tok
 En:Tok
 Eo:Tok
 Ep:Tok
 Er:Tok
 Es:Tok
 Et:Tok
 Eu:Tok
 Ew:Tok
 Ex:Tok
 Ey:Tok
 Ez:Tok
 EA:Tok
noncomputable abbrev aN(K:W.Frag)(n:Str)(st:Stmt)(f:Addr)(fd:FuncData):Prop:=c9 K n n st f fd
structure Tx(K:W.Frag)(mg:Str->Option Value)(A:kr):Prop where
 ahy:c9 K "__init__" "Ask.__init__" Ju A.K8 A.K9
 V9:Binds K A.K9 ["self", "kind", "first", "many", "marks", "at", "asker", "latest", "behind", "early"] []
 r9:aN K "check_between" Jv A.K_ A.La
 uP:Binds K A.La ["number", "least", "greatest", "words"] []
 uQ:mg "check_between" = some (.ref A.K_)
 V_:aN K "check_behind" Jw A.Lb A.Lc
 ahz:Binds K A.Lc ["behind"] []
 ahA:mg "check_behind" = some (.ref A.Lb)
 NK:aN K "check_fields" Jx A.Ld A.Le
 Wa:Binds K A.Le ["first", "many", "at", "asker", "latest", "behind"] []
 Wb:mg "check_fields" = some (.ref A.Ld)
 NL:aN K "told_behind" Jy A.Lf A.Lh
 Wc:Binds K A.Lh ["behind"] []
 Wd:mg "told_behind" = some (.ref A.Lf)
 NN:zO K "reading" "reading" jP A.Li A.Ei
 ahB:Binds K A.Ei ["first", "many", "at", "asker", "latest", "behind"] [.int 0 A.V8,.none,.none]
 ahC:Binds K A.Ei ["first", "many", "at", "asker", "latest", "behind"] []
 We:mg "reading" = some (.ref A.Li)
 Wf:zO K "writing" "writing" l9 A.Lj A.Lk
 ahD:Binds K A.Lk ["first", "marks", "at", "asker", "latest", "behind", "early"] []
 ahE:mg "writing" = some (.ref A.Lj)
 Wg:aN K "clash" Jz A.Ll A.Lm
 ahF:Binds K A.Lm ["one", "other"] []
 ahG:mg "clash" = some (.ref A.Ll)
 Wh:aN K "heap_put" JA A.Ln A.Lo
 ahH:Binds K A.Lo ["heap", "thing"] []
 ahI:mg "heap_put" = some (.ref A.Ln)
 NO:aN K "heap_take" JB A.Lp A.Lq
 Wi:Binds K A.Lq ["heap"] []
 Wj:mg "heap_take" = some (.ref A.Lp)
 NP:aN K "lesser_child" JC A.Lr A.Ls
 Wk:Binds K A.Ls ["heap", "at"] []
 Wl:mg "lesser_child" = some (.ref A.Lr)
 Wm:aN K "sink" JD A.Lu A.Lv
 ahJ:Binds K A.Lv ["heap", "thing"] []
 ahK:mg "sink" = some (.ref A.Lu)
 Wn:aN K "stretch" JE A.Lw A.Lx
 ahL:Binds K A.Lx ["plate", "ask"] []
 ahM:mg "stretch" = some (.ref A.Lw)
 Wo:aN K "stretch_by_number" JF A.Ly A.Lz
 ahN:Binds K A.Lz ["plate", "number", "ask"] []
 ahO:mg "stretch_by_number" = some (.ref A.Ly)
 ahP:c9 K "__init__" "Due.__init__" JG A.LA A.LB
 Wq:Binds K A.LB ["self", "plate", "number", "ask"] []
 Wr:aN K "next_begin" JH A.LC A.LD
 ahQ:Binds K A.LD ["plate", "ring", "place", "beat"] []
 ahR:mg "next_begin" = some (.ref A.LC)
 Ws:aN K "way" JI A.LF A.LG
 ahS:Binds K A.LG ["plate", "ring", "beat", "cells"] []
 ahT:mg "way" = some (.ref A.LF)
 NQ:aN K "way_end" JJ A.LH A.LI
 Wt:Binds K A.LI ["plate", "ring", "beat", "cells"] []
 Wu:mg "way_end" = some (.ref A.LH)
 Wv:aN K "are_few" JK A.LJ A.LK
 ahU:Binds K A.LK ["dues"] []
 ahV:mg "are_few" = some (.ref A.LJ)
 NR:aN K "check_few" JL A.LL A.LM
 Ww:Binds K A.LM ["dues"] []
 Wx:mg "check_few" = some (.ref A.LL)
 Wy:aN K "keeps_behind" JM A.LN A.LO
 ahW:Binds K A.LO ["due", "other"] []
 ahX:mg "keeps_behind" = some (.ref A.LN)
 NS:aN K "behind_among" JN A.LQ A.LR
 Wz:Binds K A.LR ["dues"] []
 WA:mg "behind_among" = some (.ref A.LQ)
 NT:aN K "left_behind" JO A.LS A.LU
 WB:Binds K A.LU ["dues", "begun"] []
 WC:mg "left_behind" = some (.ref A.LS)
 WD:aN K "next_behind" JP A.LV A.LW
 ahY:Binds K A.LW ["dues", "kept", "begun"] []
 ahZ:mg "next_behind" = some (.ref A.LV)
 WE:aN K "passing_beats" JQ A.LX A.LY
 ah0:Binds K A.LY ["plate", "due"] []
 ah1:mg "passing_beats" = some (.ref A.LX)
 WG:aN K "bound_of" JR A.LZ A.L4
 ah2:Binds K A.L4 ["plate", "ring", "beat", "dues"] []
 ah3:mg "bound_of" = some (.ref A.LZ)
 EB:aN K "beginning" JS A.L5 A.L6
 NU:Binds K A.L6 ["plate", "dues", "begun", "stop"] []
 NV:mg "beginning" = some (.ref A.L5)
 NW:aN K "put_longer_ones" JT A.L7 A.L8
 WH:Binds K A.L8 ["heap", "plate", "dues", "kept", "node"] []
 WI:mg "put_longer_ones" = some (.ref A.L7)
 AL:aN K "least_way" JU A.L_ A.Ma
 EC:Binds K A.Ma ["plate", "ring", "beat", "dues"] []
 ED:mg "least_way" = some (.ref A.L_)
 WJ:aN K "check_zones" JV A.Mb A.Mc
 ah4:Binds K A.Mc ["zones"] []
 ah5:mg "check_zones" = some (.ref A.Mb)
 WK:aN K "check_turning" JW A.Me A.Mf
 ah6:Binds K A.Mf ["zones", "lap", "skew"] []
 ah7:mg "check_turning" = some (.ref A.Me)
 WL:aN K "check_swing" JX A.Mg A.Mh
 ah8:Binds K A.Mh ["swing", "rings"] []
 ah9:mg "check_swing" = some (.ref A.Mg)
 WM:aN K "check_no_detour" JY A.Mi A.Mj
 ah_:Binds K A.Mj ["swing"] []
 aia:mg "check_no_detour" = some (.ref A.Mi)
 WN:aN K "cells_by_ring" JZ A.Ml A.Mm
 aib:Binds K A.Mm ["zones"] []
 aic:mg "cells_by_ring" = some (.ref A.Ml)
 NY:aN K "cells_by_number" J0 A.Mn A.Mp
 WO:Binds K A.Mp ["ring_cells", "spares"] []
 WQ:mg "cells_by_number" = some (.ref A.Mn)
 NZ:aN K "numbers_by_cell" J5 A.Mq A.Mr
 WR:Binds K A.Mr ["number_cells"] []
 WS:mg "numbers_by_cell" = some (.ref A.Mq)
 aid:c9 K "__init__" "Plate.__init__" J6 A.Ej A.Mt
 WT:Binds K A.Mt ["self", "zones", "lap", "skew", "swing"] []
 aie:c9 K "rings" "Plate.rings" J7 A.AA A.Mu
 aqi:Binds K A.Mu ["self"] []
 aif:Meth K A.bG "rings" A.AA
 aih:Meth K A.br "rings" A.AA
 aii:c9 K "total" "Plate.total" J8 A.AB A.Mv
 EE:Binds K A.Mv ["self"] []
 aij:Meth K A.bG "total" A.AB
 aik:Meth K A.br "total" A.AB
 ail:c9 K "beats_of" "Plate.beats_of" J9 A.AD A.Mw
 N_:Binds K A.Mw ["self", "ring"] []
 aim:Meth K A.bG "beats_of" A.AD
 ain:Meth K A.br "beats_of" A.AD
 aio:c9 K "lap_beats" "Plate.lap_beats" J_ A.AE A.Mx
 aip:Binds K A.Mx ["self"] []
 aiq:Meth K A.bG "lap_beats" A.AE
 air:Meth K A.br "lap_beats" A.AE
 ais:c9 K "begins" "Plate.begins" Ka A.AF A.My
 ait:Binds K A.My ["self", "ring", "place"] []
 aiu:Meth K A.bG "begins" A.AF
 aiv:Meth K A.br "begins" A.AF
 aiw:c9 K "swing_of" "Plate.swing_of" Kc A.AG A.Mz
 aix:Binds K A.Mz ["self", "ring", "other"] []
 aiy:Meth K A.bG "swing_of" A.AG
 aiz:Meth K A.br "swing_of" A.AG
 aiA:c9 K "has_cell" "Plate.has_cell" Ke A.AH A.MA
 WU:Binds K A.MA ["self", "ring", "place"] []
 aiB:Meth K A.bG "has_cell" A.AH
 aiC:Meth K A.br "has_cell" A.AH
 aiD:c9 K "cell_at" "Plate.cell_at" Kf A.AI A.MB
 WV:Binds K A.MB ["self", "number"] []
 aiE:Meth K A.bG "cell_at" A.AI
 aiF:Meth K A.br "cell_at" A.AI
 aiG:c9 K "number_of" "Plate.number_of" Kg A.AJ A.MC
 WW:Binds K A.MC ["self", "ring", "place"] []
 aiH:Meth K A.bG "number_of" A.AJ
 aiI:Meth K A.br "number_of" A.AJ
 WX:aN K "check_spares" Kh A.MD A.ME
 aiJ:Binds K A.ME ["spares", "ring_cells"] []
 aiK:mg "check_spares" = some (.ref A.MD)
 WY:aN K "bad_by_cell" Kl A.MF A.MG
 aiL:Binds K A.MG ["plate", "bad"] []
 aiM:mg "bad_by_cell" = some (.ref A.MF)
 WZ:aN K "bad_numbers" Km A.MH A.MI
 aiN:Binds K A.MI ["number_cells", "bad_cells"] []
 aiO:mg "bad_numbers" = some (.ref A.MH)
 W0:aN K "nearest_rings" g_ A.Ek A.AK
 aiP:Binds K A.AK ["ring", "rings"] []
 aiQ:mg "nearest_rings" = some (.ref A.Ek)
 W2:aN K "free_kept_cell" Ko A.MJ A.MK
 aiR:Binds K A.MK ["ring_cells", "spares", "ring", "used"] []
 aiS:mg "free_kept_cell" = some (.ref A.MJ)
 W3:aN K "lay_elsewhere" Kq A.ML A.MM
 aiT:Binds K A.MM ["ring_cells", "spares", "number_cells", "bad_cells"] []
 aiU:mg "lay_elsewhere" = some (.ref A.ML)
 aiV:c9 K "__init__" "Mended.__init__" Kr A.MN A.MO
 aiW:Binds K A.MO ["self", "zones", "lap", "skew", "swing", "spares", "bad"] []
 pD:aN K "_law_cell_at" Ks A.MP A.MQ
 qI:Binds K A.MQ ["_law_script", "_law_k"] []
 qJ:mg "_law_cell_at" = some (.ref A.MP)
 EF:aN K "_law_stream" Ku A.MR A.MS
 Oa:Binds K A.MS ["_law_cell", "_law_many"] []
 Ob:mg "_law_stream" = some (.ref A.MR)
 W4:aN K "_law_swing" Kv A.MT A.MU
 aiX:Binds K A.MU ["_law_xs", "_law_rings"] []
 aiY:mg "_law_swing" = some (.ref A.MT)
 W5:aN K "_law_spec" Kw A.MV A.MW
 aiZ:Binds K A.MW ["_law_cell", "_law_more"] []
 ai0:mg "_law_spec" = some (.ref A.MV)
 W6:aN K "_law_plate" Ky A.MX A.MY
 ai1:Binds K A.MY ["_law_spec_here", "_law_cell"] []
 ai2:mg "_law_plate" = some (.ref A.MX)
 W7:aN K "_law_walk" Kz A.MZ A.M0
 ai3:Binds K A.M0 ["_law_spec_here", "_law_ring", "_law_beat", "_law_cells"] []
 ai4:mg "_law_walk" = some (.ref A.MZ)
 EG:aN K "_law_behind_way" KA A.M3 A.M4
 Oc:Binds K A.M4 ["_law_spec_here", "_law_ring", "_law_beat", "_law_cells"] []
 Od:mg "_law_behind_way" = some (.ref A.M3)
 W8:aN K "_law_beside" KC A.M5 A.M7
 ai5:Binds K A.M7 ["_law_plate_here", "_law_spec_here", "_law_spot_here", "_law_cell"] []
 ai6:mg "_law_beside" = some (.ref A.M5)
 W9:aN K "_law_tight" KG A.M8 A.M9
 ai7:Binds K A.M9 ["_law_spec_here", "_law_spot_here", "_law_known_here"] []
 ai8:mg "_law_tight" = some (.ref A.M8)
 W_:aN K "_law_known" KH A.M_ A.Ng
 ai9:Binds K A.Ng ["_law_script", "_law_plate_here", "_law_spec_here", "_law_spot_here", "_law_most"] []
 ai_:mg "_law_known" = some (.ref A.M_)
 Xa:aN K "_law_ask" KI A.Nh A.Ni
 aja:Binds K A.Ni ["_law_one", "_law_cell"] []
 ajb:mg "_law_ask" = some (.ref A.Nh)
 Xb:aN K "_law_keeps" KJ A.Nj A.Nk
 ajc:Binds K A.Nk ["_law_one", "_law_other"] []
 ajd:mg "_law_keeps" = some (.ref A.Nj)
 Xc:aN K "_law_free_ones" KL A.Nl A.Nm
 aje:Binds K A.Nm ["_law_known_here"] []
 ajf:mg "_law_free_ones" = some (.ref A.Nl)
 EH:aN K "_law_whole" KN A.Nn A.Np
 Oe:Binds K A.Np ["_law_found"] []
 Of:mg "_law_whole" = some (.ref A.Nn)
 Xd:aN K "_law_without" KO A.Nq A.Nr
 ajg:Binds K A.Nr ["_law_known_here", "_law_begun"] []
 ajh:mg "_law_without" = some (.ref A.Nq)
 Xe:aN K "_law_spot" KP A.Nt A.Nu
 aji:Binds K A.Nu ["_law_spec_here", "_law_ring", "_law_beat", "_law_known_here", "_law_begun"] []
 ajj:mg "_law_spot" = some (.ref A.Nt)
 Xf:aN K "_law_numbers" KQ A.Nv A.Nx
 ajk:Binds K A.Nx ["_law_found"] []
 ajl:mg "_law_numbers" = some (.ref A.Nv)
 Xg:aN K "_law_is_order" KR A.Ny A.Nz
 ajm:Binds K A.Nz ["_law_found", "_law_known_here"] []
 ajn:mg "_law_is_order" = some (.ref A.Ny)
 Xh:aN K "_law_start" KS A.NB A.NC
 ajo:Binds K A.NC ["_law_script", "_law_most"] []
 ajp:mg "_law_start" = some (.ref A.NB)
 Xi:aN K "_law_refused" KU A.ND A.NF
 ajq:Binds K A.NF ["_law_plate_here", "_law_ring", "_law_beat", "_law_dues"] []
 ajr:mg "_law_refused" = some (.ref A.ND)
 Og:aN K "_law_right" KW A.NG A.NH
 Xj:Binds K A.NH ["_law_found", "_law_spec_here", "_law_ring", "_law_beat", "_law_known_here"] []
 Xk:mg "_law_right" = some (.ref A.NG)
 ajs:aN K "law" l_ A.NI A.NJ
 aqj:Binds K A.NJ ["_law_script"] []
 aqk:mg "law" = some (.ref A.NI)
 ajt:Tg K A.bG "__init__" A.Ej
 Xl:W.findIn K (.ref A.br) "__class__" = some (some (.builtin "object.__class__"))
 Xm:W.specialIn K (.builtin "object.__class__") "__get__" = some (some (.builtin "getset_descriptor.__get__"))
 Xn:W.takesIn K (.builtin "object.__class__")=some true
 Xo:W.mroIn K A.br (.type "object")=some true
 Xp:W.kitOne K (.ref A.br) (.ref A.bG)=some true
 aql:dF K A.bU
 Xq:Mk K A.bU A.K8
 Xr:mg "Ask" = some (.ref A.bU)
 Xs:b9 K A.bU "kind"
 Xu:b9 K A.bU "first"
 Xv:b9 K A.bU "many"
 Xw:b9 K A.bU "marks"
 Xx:b9 K A.bU "at"
 Xy:b9 K A.bU "asker"
 Xz:b9 K A.bU "latest"
 XA:b9 K A.bU "behind"
 XC:b9 K A.bU "early"
 Oh:dF K A.cj
 XD:Mk K A.cj A.LA
 XE:mg "Due" = some (.ref A.cj)
 EI:b9 K A.cj "number"
 XF:b9 K A.cj "ask"
 Oi:b9 K A.cj "cells"
 pF:dF K A.bG
 aju:Mk K A.bG A.Ej
 XG:mg "Plate" = some (.ref A.bG)
 Oj:b9 K A.bG "ring_cells"
 Ol:b9 K A.bG "lap"
 Om:b9 K A.bG "skew"
 Oo:b9 K A.bG "swing"
 Oq:b9 K A.bG "number_cells"
 Ot:b9 K A.bG "cell_numbers"
 pG:dF K A.br
 ajv:Mk K A.br A.MN
 ajw:mg "Mended" = some (.ref A.br)
 Ou:b9 K A.br "ring_cells"
 Ov:b9 K A.br "lap"
 Ow:b9 K A.br "skew"
 Ox:b9 K A.br "swing"
 Oz:b9 K A.br "number_cells"
 OA:b9 K A.br "cell_numbers"
 OB:b9 K A.br "moves"
 ajx:mg "MOST_CELLS" = some (.int 16 A.El)
 ajy:mg "GREATEST_FIRST" = some (.int 1000000 A.Em)
 ajz:mg "GREATEST_MARK" = some (.int 1000000000 A.En)
 ajA:mg "GREATEST_AT" = some (.int 1000000000000 A.Eo)
 ajB:mg "GREATEST_ASKER" = some (.int 20 A.Ep)
 ajC:mg "GREATEST_LATEST" = some (.int 10000000000000 A.Er)
 ajD:mg "GREATEST_BEHIND" = some (.int 99 A.Es)
 ajE:mg "MOST_DUES" = some (.int 7 A.Et)
 ajF:mg "MOST_ZONES" = some (.int 5 A.Eu)
 ajG:mg "MOST_RINGS_IN_ZONE" = some (.int 40 A.Ew)
 ajH:mg "MOST_CELLS_IN_RING" = some (.int 60 A.Ex)
 ajI:mg "LEAST_RINGS" = some (.int 2 A.Ey)
 ajJ:mg "MOST_RINGS" = some (.int 120 A.Ez)
 XH:mg "MOST_BEATS" = some (.int 1000000000 A.EA)
 AM:mg "abs" = none
 OC:mg "all" = none
 OD:mg "bool" = none
 OE:mg "dict" = none
 AN:mg "enumerate" = none
 xh:mg "int" = none
 mz:mg "isinstance" = none
 eK:mg "len" = none
 pH:mg "list" = none
 OF:mg "max" = none
 uR:mg "min" = none
 fZ:mg "range" = none
 AO:mg "sorted" = none
 AQ:mg "sum" = none
 uS:mg "tuple" = none
 ajK:A.AK.code = .ref A.bu
 OG:mg "ValueError" = none
 ajL:mg "ArmError" = some (.ref A.nW)
 OH:W.excIn K A.nW [.type "ValueError",.type "Exception",.type "BaseException",.type "object"] "ValueError.__new__" = true
 ajM:jh K A.nW
 ajN:mg "NoAsk" = some (.ref A.mq)
 OI:W.excIn K A.mq [.type "ValueError",.type "Exception",.type "BaseException",.type "object"] "ValueError.__new__" = true
 aqm:jh K A.mq
 ajO:mg "NoOrder" = some (.ref A.qH)
 ajP:mg "NoRule" = some (.ref A.mw)
 OJ:W.excIn K A.mw [.type "ValueError",.type "Exception",.type "BaseException",.type "object"] "ValueError.__new__" = true
 aqn:jh K A.mw
 XI:mg "TooMany" = some (.ref A.b8)
 EJ:W.excIn K A.b8 [.type "ValueError",.type "Exception",.type "BaseException",.type "object"] "ValueError.__new__" = true
 ajQ:jh K A.b8
 AR:uv K A.b8
 AS:(W.clsIn K A.b8).isSome=true
 XJ:W.kitOne K (.ref A.b8) (.ref A.nW)=some true
 ajR:subIn K A.b8 (.ref A.nW)=true
 OL:W.kitOne K (.ref A.b8) (.ref A.mq)=some false
 aqo:subIn K A.b8 (.ref A.mq)=false
 OM:W.kitOne K (.ref A.b8) (.ref A.qH)=some false
 aqp:subIn K A.b8 (.ref A.qH)=false
 ON:W.kitOne K (.ref A.b8) (.ref A.mw)=some false
 aqq:subIn K A.b8 (.ref A.mw)=false
 OO:W.kitOne K (.ref A.b8) (.ref A.b8)=some true
 aqr:subIn K A.b8 (.ref A.b8)=true
 OP:W.kitOne K (.ref A.b8) (.type "ValueError")=some true
theorem Tx.ajS{K:W.Frag}{mg:Str->Option Value}{A:kr}(T:Tx K mg A):CP K A.bG:=⟨T.pF,T.Oj,T.Ol,T.Om,T.Oo,T.Oq,T.Ot⟩
theorem Tx.ajT{K:W.Frag}{mg:Str->Option Value}{A:kr}(T:Tx K mg A):CP K A.br:=⟨T.pG,T.Ou,T.Ov,T.Ow,T.Ox,T.Oz,T.OA⟩
theorem Tx.aqs{K:W.Frag}{mg:Str->Option Value}{A:kr}(T:Tx K mg A):∀C∈[A.bG,A.br],dF K C/\Meth K C "rings" A.AA:=by
 intro C hC;simp only[List.mem_cons,List.not_mem_nil,or_false] at hC;rcases hC with rfl | rfl
 ·exact⟨T.pF,T.aif⟩
 ·exact⟨T.pG,T.aih⟩
theorem Tx.EK{K:W.Frag}{mg:Str->Option Value}{A:kr}(T:Tx K mg A):∀C∈[A.bG,A.br],dF K C/\Meth K C "total" A.AB:=by
 intro C hC;simp only[List.mem_cons,List.not_mem_nil,or_false] at hC;rcases hC with rfl | rfl
 ·exact⟨T.pF,T.aij⟩
 ·exact⟨T.pG,T.aik⟩
theorem Tx.OQ{K:W.Frag}{mg:Str->Option Value}{A:kr}(T:Tx K mg A):∀C∈[A.bG,A.br],dF K C/\Meth K C "beats_of" A.AD:=by
 intro C hC;simp only[List.mem_cons,List.not_mem_nil,or_false] at hC;rcases hC with rfl | rfl
 ·exact⟨T.pF,T.aim⟩
 ·exact⟨T.pG,T.ain⟩
theorem Tx.ajU{K:W.Frag}{mg:Str->Option Value}{A:kr}(T:Tx K mg A):∀C∈[A.bG,A.br],dF K C/\Meth K C "lap_beats" A.AE:=by
 intro C hC;simp only[List.mem_cons,List.not_mem_nil,or_false] at hC;rcases hC with rfl | rfl
 ·exact⟨T.pF,T.aiq⟩
 ·exact⟨T.pG,T.air⟩
theorem Tx.ajV{K:W.Frag}{mg:Str->Option Value}{A:kr}(T:Tx K mg A):∀C∈[A.bG,A.br],dF K C/\Meth K C "begins" A.AF:=by
 intro C hC;simp only[List.mem_cons,List.not_mem_nil,or_false] at hC;rcases hC with rfl | rfl
 ·exact⟨T.pF,T.aiu⟩
 ·exact⟨T.pG,T.aiv⟩
theorem Tx.ajW{K:W.Frag}{mg:Str->Option Value}{A:kr}(T:Tx K mg A):∀C∈[A.bG,A.br],dF K C/\Meth K C "swing_of" A.AG:=by
 intro C hC;simp only[List.mem_cons,List.not_mem_nil,or_false] at hC;rcases hC with rfl | rfl
 ·exact⟨T.pF,T.aiy⟩
 ·exact⟨T.pG,T.aiz⟩
theorem Tx.XM{K:W.Frag}{mg:Str->Option Value}{A:kr}(T:Tx K mg A):∀C∈[A.bG,A.br],dF K C/\Meth K C "has_cell" A.AH:=by
 intro C hC;simp only[List.mem_cons,List.not_mem_nil,or_false] at hC;rcases hC with rfl | rfl
 ·exact⟨T.pF,T.aiB⟩
 ·exact⟨T.pG,T.aiC⟩
theorem Tx.XN{K:W.Frag}{mg:Str->Option Value}{A:kr}(T:Tx K mg A):∀C∈[A.bG,A.br],dF K C/\Meth K C "cell_at" A.AI:=by
 intro C hC;simp only[List.mem_cons,List.not_mem_nil,or_false] at hC;rcases hC with rfl | rfl
 ·exact⟨T.pF,T.aiE⟩
 ·exact⟨T.pG,T.aiF⟩
theorem Tx.XO{K:W.Frag}{mg:Str->Option Value}{A:kr}(T:Tx K mg A):∀C∈[A.bG,A.br],dF K C/\Meth K C "number_of" A.AJ:=by
 intro C hC;simp only[List.mem_cons,List.not_mem_nil,or_false] at hC;rcases hC with rfl | rfl
 ·exact⟨T.pF,T.aiH⟩
 ·exact⟨T.pG,T.aiI⟩
local macro_rules | `(tactic| walk_at "rdt") => `(tactic| wp_walk using $(Lean.mkIdent `T))
section
variable{P:Program}{w:World}{K:W.Frag}{mg:Str->Option Value}{base:Heap}{A:kr}
theorem XQ(T:Tx K mg A)(aG:bE mg base A.bu A.aZ):a_ P w K mg base bx 1 A.K8 A.K9 ["self", "kind", "first", "many", "marks", "at", "asker", "latest", "behind", "early"] (adH A.bU):=by
 refine T.ahy.ok ag1 (λvs H Q E h=>?_) (λaP Ar outer s H vs Q E hr h=>?_)
 ·obtain⟨p,dx,v1,v2,v3,v4,v5,v6,v7,v8,v9,rfl,_⟩:=h
  rfl
 ·obtain⟨p,dx,v1,v2,v3,v4,v5,v6,v7,v8,v9,rfl,hp,q⟩:=h;refine⟨_,(aE (cI (iN (aa 0) (aa 1) rfl))
   (aE (cI (iN (aa 0) (aa 2) rfl))
   (aE (cI (iN (aa 0) (aa 3) rfl))
   (aE (cI (iN (aa 0) (aa 4) rfl))
   (aE (cI (iN (aa 0) (aa 5) rfl))
   (aE (cI (iN (aa 0) (aa 6) rfl))
   (aE (cI (iN (aa 0) (aa 7) rfl))
   (aE (cI (iN (aa 0) (aa 8) rfl))
   (aJ (iN (aa 0) (aa 9) rfl)))))))))),?_⟩
  refine cJ λN1 k1=>?_;wp_walk using T,hp;refine k1 _ _ ?_;refine cJ λN2 k2=>?_;wp_walk using T,hp;refine k2 _ _ ?_;refine cJ λN3 k3=>?_;wp_walk using T,hp;refine k3 _ _ ?_;refine cJ λN4 k4=>?_;wp_walk using T,hp;refine k4 _ _ ?_;refine cJ λN5 k5=>?_;wp_walk using T,hp;refine k5 _ _ ?_;refine cJ λN6 k6=>?_;wp_walk using T,hp;refine k6 _ _ ?_;refine cJ λN7 k7=>?_;wp_walk using T,hp;refine k7 _ _ ?_;refine cJ λN8 k8=>?_;wp_walk using T,hp;refine k8 _ _ ?_;wp_walk using T,hp;exact q
theorem OR(T:Tx K mg A)(aG:bE mg base A.bu A.aZ):a_ P w K mg base bx 1 A.K_ A.La ["number", "least", "greatest", "words"] adD:=by
 refine T.r9.ok ag2 (λvs H Q E h=>?_) (λaP Ar outer s H vs Q E hr h=>?_)
 ·obtain⟨n,lo,hi,w,rfl,_⟩:=h
  rfl
 ·obtain⟨n,lo,hi,w,rfl,h1,h2,q⟩:=h;refine⟨_,(aJ (jO (PW.pt (qD (iB (eO gO (aa 0) (aa 1) (bM _)) (iQ (eO jX (aa 0) (aa 2) (bM _)))))) iC b7)),?_⟩;walk_at "rdm";exact⟨by lia,by lia,q⟩
theorem XR(T:Tx K mg A)(aG:bE mg base A.bu A.aZ):a_ P w K mg base bx 1 A.Lf A.Lh ["behind"] (adG K):=by
 refine T.NL.ok ag4 (λvs H Q E h=>?_) (λaP Ar outer s H vs Q E hr h=>?_)
 ·obtain⟨v,ns,rfl,_⟩:=h
  rfl
 ·obtain⟨v,ns,rfl,hv,q⟩:=h;refine⟨_,(aJ (bF (aa8 (dz R1 (aa 0) qX (bM _)) (cL ao) (jZ Hf rfl T.uS xU (ah (aa 0) ao))))),?_⟩;walk_at "rdm";rcases hv with⟨rfl,rfl⟩ | ⟨a,rfl,hS | hS⟩
  ·exact ite_yes rfl λt nt=>q t _ (aj.put nt) aD
  ·exact ite_no (by simp) ⟨a,rfl,_,.inl ⟨hS,λl nl=>q l _ (aj.put nl) aD⟩⟩
  ·exact ite_no (by simp) ⟨a,rfl,_,.inr ⟨aL.of hS,q a _ (aj.refl _) hS⟩⟩
theorem ajX(T:Tx K mg A)(aG:bE mg base A.bu A.aZ):a_ P w K mg base bx 1 A.Ll A.Lm ["one", "other"] (adK K A.bU):=by
 refine T.Wg.ok ag5 (λvs H Q E h=>?_) (λaP Ar outer s H vs Q E hr h=>?_)
 ·obtain⟨p,r,x,y,m,b,dx,m',b',nj,rfl,_⟩:=h
  rfl
 ·obtain⟨p,r,x,y,m,b,dx,m',b',nj,rfl,hx,hy,q⟩:=h;refine⟨_,(aE (dw (PW.pt (yh (dz yI (cC (aa 0) rfl) lG (bM _)) (yg (dz yI (cC (aa 1) rfl) lG (bM _))))) (aJ (bF gb)) b7)
   (aJ (bF (sZ (iD gO (cC (aa 0) rfl) (aF dR (cC (aa 1) rfl) (cC (aa 1) rfl)) (bM _)) (p8 (iD gO (cC (aa 1) rfl) (aF dR (cC (aa 0) rfl) (cC (aa 0) rfl)) (bM _))))))),?_⟩
  wp_walk using T,hx.o,hy.o;unfold Dc at q;by_cases k1:x.kind = "write" <;> by_cases k2:y.kind = "write" <;> by_cases k3:x.first<y.first+y.many <;> simpa[k1,k2,k3] using q
theorem ajY(T:Tx K mg A)(aG:bE mg base A.bu A.aZ):a_ P w K mg base bx 1 A.Ln A.Lo ["heap", "thing"] agh:=by
 refine T.Wh.ok KZ (λvs H Q E h=>?_) (λaP Ar outer s H vs Q E hr h=>?_)
 ·obtain⟨l,a,t,zs,rfl,_⟩:=h
  rfl
 ·obtain⟨l,a,t,zs,rfl,hl,hn,ha,hh,q⟩:=h;have mC:_+16<cLine:=pT (qR (by decide:16<=64) _) hr.units
  refine⟨_,(aE (dm (lN jS mJ mK lO (aa 0) (ah (aa 1) ao)))
   (aE (aU (i:=2) KZ.nd rfl (Or.inl rfl) (aF nT (bY fL rfl T.eK eT (ah (aa 0) ao)) ak))
   (aE (Cn dj (PW.pt (yh (eO jX (aa 2) ak (bM _)) (yg (dz (Jc mC) (aa 1) (aH bT (aa 0) (aF kq (aF nT (aa 2) ak) ak) (λ_ _=>rfl)) (bM _)))))
   (aE (tD (aH bT (aa 0) (aF kq (aF nT (aa 2) ak) ak) (λ_ _=>rfl)) (yw (aa 0) (aa 2) set_list))
   (aJ (aU (i:=2) KZ.nd rfl (Or.inl rfl) (aF kq (aF nT (aa 2) ak) ak)))))
   (aJ (tD (aa 1) (yw (aa 0) (aa 2) set_list)))))),?_⟩
  walk_at "rdm";refine⟨⟨_,az.of hl.l⟩,_,hl.l,VF (by rw[jo];lia),?_⟩
  have e0:((mV zs++[V.ref a]).length:Int) - 1=(zs.length:Int):=by rw[fE,jo];simp
  have e1:mV zs++[V.ref a] = mV (zs++[(a,t)]):=aga zs (a,t);refine⟨_,.inl (az.of aD),?_⟩;rw[e0,e1];refine⟨λm σ H'=>∃(ys:Ms),σ = [some (.ref l),some (.ref a),some (.int (m:Int))]/\H' = upd H l (.lst (mV ys))/\m<ys.length/\ys.length=zs.length+1/\iK H ys/\Up gq ys.length m (fm ys) (a,t)/\(ys.eraseIdx m).Perm zs,⟨zs.length,zs++[(a,t)],rfl,rfl,by simp,by simp,?_,af9 hh,adt⟩,?_⟩
  ·intro z hz;rcases fM.mp hz with hz | hz
   ·exact hl.z z hz
   ·rw[gw.mp hz];exact ha
  ·rintro k σ H' ⟨ys,rfl,rfl,hk,hy,hZ,up,pe⟩;walk_at "rdm";refine cG (λh0=>?_) (λh0=>?_)
   ·have k1:1<=k:=by lia
    have pk:=nC k1;have hp:par k<ys.length:=by lia
    have g1:e7 (mV ys) (((k:Int) - 1) / 2)=some (.ref ys[par k].1):=by rw[TL k1];exact fT.get hp
    refine⟨_,az.of aD,_,g1,_,rfl,_,ha.fJ hl.l,_,(hZ _ (cO hp)).fJ hl.l,cG (λh4=>?_) (λh4=>?_)⟩
    ·refine⟨_,λ_ _ h=>h,_,az.of aD,_,g1,_,by rw[jo];exact wC hk,par k,pk,by rw[TL k1],ys.set k ys[par k],?_,by rw[mG];exact hp,by rw[mG];exact hy,VG hZ (hZ _ (cO hp)),?_,(Tu hk hp (by lia)).trans pe⟩
     ·rw[wW]
     ·rw[mG,wX hk];have:=up.step uG k1 hk (by rw[iW hp];exact h4)
      rw[iW hp] at this;exact this
    ·skip
     refine⟨_,by rw[jo];exact wC hk,?_⟩
     rw[show (mV ys).set k (V.ref a)=mV (ys.set k (a,t)) from wW ys k (a,t)];refine q _ ((wB hk (a,t)).trans (pe.cons _)) ?_;rw[mG,wX hk];exact up.done (λ_=>by rw[iW hp];exact h4)
   ·skip
    refine⟨_,by rw[jo];exact wC hk,?_⟩
    rw[show (mV ys).set k (V.ref a)=mV (ys.set k (a,t)) from wW ys k (a,t)];refine q _ ((wB hk (a,t)).trans (pe.cons _)) ?_;rw[mG,wX hk];exact up.done (λz=>absurd z (by lia))
theorem ajZ(T:Tx K mg A)(aG:bE mg base A.bu A.aZ):a_ P w K mg base bx 1 A.Lr A.Ls ["heap", "at"] age:=by
 refine T.NP.ok V0 (λvs H Q E h=>?_) (λaP Ar outer s H vs Q E hr h=>?_)
 ·obtain⟨l,zs,k,rfl,_⟩:=h
  rfl
 ·obtain⟨l,zs,k,rfl,hl,hk,q⟩:=h;have mC:_+16<cLine:=pT (qR (by decide:16<=64) _) hr.units
  refine⟨_,(aE (aU (i:=2) V0.nd rfl (Or.inl rfl) (aF dR (aF l7 ak (aa 1)) ak))
   (aE (dw (PW.pt (yh (eO gO (aF dR (aa 2) ak) (bY fL rfl T.eK eT (ah (aa 0) ao)) (bM _)) (yg (dz (Jc mC) (aH bT (aa 0) (aF dR (aa 2) ak) (λ_ _=>rfl)) (aH bT (aa 0) (aa 2) (λ_ _=>rfl)) (bM _))))) (aJ (bF (aF dR (aa 2) ak))) b7)
   (aJ (bF (aa 2))))),?_⟩
  walk_at "rdm";refine⟨_,.inl (az.of hl.l),cG (λh1=>?_) (λh1=>?_)⟩
  ·rw[jo] at h1;have h2:2*k+1+1<zs.length:=by lia
   have h3:2*k+1<zs.length:=by lia
   have g1:=fT.get h2;have g2:=fT.get h3
   push_cast at g1 g2
   refine⟨_,az.of hl.l,_,g1,_,az.of hl.l,_,g2,?_⟩;refine⟨_,rfl,_,rfl,_,hl.th h2,_,hl.th h3,cG (λh4=>?_) (λh4=>?_)⟩
   ·have e:g9 zs k=2*k+1+1:=by
     unfold g9;rw[if_pos ⟨h2,by rw[iW h2,iW h3];exact h4⟩]
    rw[e] at q
    push_cast at q
    exact q
   ·have e:g9 zs k=2*k+1:=by
     unfold g9;rw[if_neg (λz=>h4 (by have:=z.2;rw[iW h2,iW h3] at this;exact this))]
    rw[e] at q
    push_cast at q
    exact q
  ·rw[jo] at h1;have e:g9 zs k=2*k+1:=by unfold g9;rw[if_neg (λz=>h1 (by lia))]
   rw[e] at q
   push_cast at q
   exact q
theorem aj0(T:Tx K mg A)(aG:bE mg base A.bu A.aZ):a_ P w K mg base bx 1 A.LJ A.LK ["dues"] (agA K A.bU A.cj):=by
 refine T.Wv.ok ag_ (λvs H Q E h=>?_) (λaP Ar outer s H vs Q E hr h=>?_)
 ·obtain⟨l,ps,ds,rfl,_⟩:=h
  rfl
 ·obtain⟨l,ps,ds,rfl,hd,q⟩:=h;refine⟨_,(aJ (bF (iD abi (bY fL rfl T.eK eT (ah (aa 0) ao)) (gU (v:=.int 7) rfl T.ajE ⟨_,rfl⟩) (bM _)))),?_⟩;walk_at "rdm";refine⟨_,.inl (az.of hd.l),?_⟩;rw[aR,hd.n,show decide (((ds.length:Nat):Int)<=7)=decide (ds.length<=7) from by simp only[decide_eq_decide];lia]
  exact q
theorem XS(T:Tx K mg A)(aG:bE mg base A.bu A.aZ):a_ P w K mg base bx 1 A.LS A.LU ["dues", "begun"] (agB K A.bU A.cj):=by
 refine T.NT.ok ahc (λvs H Q E h=>?_) (λaP Ar outer s H vs Q E hr h=>?_)
 ·obtain⟨l,b,ps,ds,bg,H0,rfl,_⟩:=h
  rfl
 ·obtain⟨l,b,ps,ds,bg,H0,rfl,s0,hd,qK,hb,q⟩:=h;refine⟨_,(aJ (bF (gR (N:=["due", "begun"]) (nt:=1) (fv:=[1]) (cN.of rfl rfl (by rfl) (by rfl) (by repeat (first | exact trivial | refine⟨rfl,?_⟩)) (by rfl) (by rfl) (by rfl) (by decide) (by decide +kernel)) rfl (dX (aa 0)) (λC s H fp=>(bI (i:=0) (show List.Nodup (["due", "begun"]:List Str) by decide +kernel) rfl (Or.inl rfl))) (λC s H fp=>(oK (dz (TU (K:=K) rfl) (D_ (K:=K) rfl (aa 0) rfl) (aa 1) rfl))) (λC s H fp=>(aa 0))))),?_⟩
  walk_at "rdt";have jQ:=hd.n;refine je l (ps.map V.ref) (λD i ys aC H2=>∃(u:Option V) (eW:List Addr),ys=eW.map V.ref/\aC = [u,some (.ref b)]/\H2 D=some (.lst ys)/\aj H H2/\H D=none/\jr K A.bU A.cj H0 eW (bV (ds.take i) bg)) (λQ q=>q) (az.of (s0 _ _ hd.l)) ?_ ?_ ?_ ?_
  ·intro D hD;exact⟨none,[],rfl,rfl,aD,aj.put hD,hD,jr.nil⟩
  ·rintro D i ys aC H2 ⟨u,eW,rfl,rfl,e1,e2,e3,e4⟩;refine⟨e1,gh ?_,az.of (e2 _ _ (s0 _ _ hd.l))⟩;have:=lA (λd:Dr => !decide (d.n∈bg)) (ds.take i);rw[d9] at this;have e5:=e4.n;unfold bV at e5;rw[aR];lia
  ·rintro D i x ys aC H2 N hN hx ⟨u,eW,rfl,rfl,e1,e2,e3,e4⟩;obtain⟨dp,kC,rfl⟩:=e8 hx;have hi:i<ds.length:=by rw[← jQ];exact dB kC
   obtain⟨dx,ap,la,ts,m,b',b_,hD⟩:=hd.t i dp ds[i] kC (aX hi);have eB:=e2 _ _ (s0 _ _ hD.o);unfold o8 at eB;have et:=wV (p:=λd:Dr => !decide (d.n∈bg)) (aX hi);wp_walk using T,eB;refine⟨_,.inr (aL.of (e2 _ _ hb)),rfl,wD _,cG (λh1=>?_) λh1=>?_⟩
   ·rw[qt] at h1;refine⟨e1,hN _ _ _ ⟨_,eW++[dp],by simp,rfl,aD,aj.put2 e2 e3,e3,?_⟩⟩
    unfold bV at e4 ⊢;rw[et,if_pos (by simpa using h1)]
    exact e4.snoc ⟨_,_,_,_,_,_,_,hD⟩
   ·rw[qt] at h1;refine hN _ _ _ ⟨_,eW,rfl,rfl,e1,e2,e3,?_⟩;unfold bV at e4 ⊢;rw[et,if_neg (by simpa using h1),mF]
    exact e4
  ·rintro D ys aC H2 ⟨u,eW,rfl,rfl,e1,e2,e3,e4⟩;rw[aR,jQ,eE] at e4;exact q D eW H2 e2 e3 e1 e4
theorem aj1(T:Tx K mg A)(aG:bE mg base A.bu A.aZ):a_ P w K mg base bx 1 A.Mb A.Mc ["zones"] (acQ K):=by
 refine T.WJ.ok Eb (λvs H Q E h=>?_) (λaP Ar outer s H vs Q E hr h=>?_)
 ·obtain⟨a,ts,z,rfl,_⟩:=h
  rfl
 ·obtain⟨a,ts,z,rfl,hz,ok,q⟩:=h;refine⟨_,(aE (jO (PW.pt (qD (iB (eO gO (bY fL rfl T.eK eT (ah (aa 0) ao)) ak (bM _)) (iQ (eO jX (bY fL rfl T.eK eT (ah (aa 0) ao)) (gU (v:=.int 5) rfl T.ajF ⟨_,rfl⟩) (bM _)))))) iC b7)
   (aE (dP dj rfl (dX (aa 0)) (kM rfl (dO (bI (i:=1) Eb.nd rfl (Or.inl rfl)) (dO (bI (i:=2) Eb.nd rfl (Or.inl rfl)) jV)))
   (aE (jO (PW.pt (qD (iB (eO gO (aa 1) ak (bM _)) (iQ (eO jX (aa 1) (gU (v:=.int 40) rfl T.ajG ⟨_,rfl⟩) (bM _)))))) iC b7)
   (aJ (jO (PW.pt (qD (iB (eO gO (aa 2) ak (bM _)) (iQ (eO jX (aa 2) (gU (v:=.int 60) rfl T.ajH ⟨_,rfl⟩) (bM _)))))) iC b7))))
   (aE (aU (i:=3) Eb.nd rfl (Or.inl rfl) (bY (HE rfl) rfl T.AQ boot_sum (ah (gR (N:=["zone"]) (nt:=1) (fv:=[]) (cN.of rfl rfl (by rfl) (by rfl) (by repeat (first | exact trivial | refine⟨rfl,?_⟩)) (by rfl) (by rfl) (by rfl) (by decide) (by decide +kernel)) rfl (dX (aa 0)) (λC s H fp=>(bI (i:=0) (show List.Nodup (["zone"]:List Str) by decide +kernel) rfl (Or.inl rfl))) (λC s H fp=>jd) (λC s H fp=>(aH (l8 (K:=K) rfl) (aa 0) ak (λ_ _=>rfl)))) ao)))
   (aJ (jO (PW.pt (qD (iB (eO gO (aa 3) (gU (v:=.int 2) rfl T.ajI ⟨_,rfl⟩) (bM _)) (iQ (eO jX (aa 3) (gU (v:=.int 120) rfl T.ajJ ⟨_,rfl⟩) (bM _)))))) iC b7))))),?_⟩
  walk_at "rdm";have hn:=hz.n;have l1:=ok.l1;have l5:=ok.l5;refine⟨_,.inl hz.sq,by simp only[List.length_map];lia,_,.inl hz.sq,by simp only[List.length_map];lia,?_⟩
  refine rl a (ts.map V.ref) (λi σ H'=>∃r c,σ = [some (.ref a),r,c,none]/\H' = H) (λQ q=>q) hz.sq ⟨none,none,rfl,rfl⟩ (by rintro i σ H' _ ⟨r,c,rfl,rfl⟩;exact hz.sq) ?_ ?_
  ·rintro i x σ H' N hN hx ⟨r,c,rfl,rfl⟩;obtain⟨t,p,rfl,hp,ht⟩:=hz.at hx;refine ni (aL.of ht) rfl ?_;walk_at "rdm";obtain⟨h1,h2,h3,h4⟩:=ok.r p (get_mem hp);exact⟨by lia,by lia,by lia,by lia,hN _ _ ⟨_,_,rfl,rfl⟩⟩
  ·rintro σ H' ⟨r,c,rfl,rfl⟩;walk_at "rdm";refine je a (ts.map V.ref) (λD i ys aC H2=>ys=((z.take i).map λp=>V.int p.1)/\H2 D=some (.lst ys)/\aj H' H2/\H' D=none/\i<=z.length/\∃u,aC = [u]) (λQ q=>q) hz.sq ?_ ?_ ?_ ?_
   ·intro D hD;exact⟨rfl,aD,aj.put hD,hD,eF _,_,rfl⟩
   ·rintro D i ys aC H2 ⟨e,e1,e2,e3,e4,_⟩;refine⟨e1,?_,e2.seq hz.sq⟩;rw[e];refine gh ?_;simp only[List.length_map,List.length_take];lia
   ·rintro D i x ys aC H2 N hN hx ⟨e,e1,e2,e3,e4,u,rfl⟩;obtain⟨t,p,rfl,hp,ht⟩:=hz.at hx;have hl:=dB hp;walk_at "rdm";refine⟨_,aL.of (e2 _ _ ht),_,rfl,e1,hN _ _ _ ⟨?_,aD,aj.put2 e2 e3,e3,hl,_,rfl⟩⟩;rw[take_succ_get hp,bZ,e];rfl
   ·rintro D ys aC H2 ⟨e,e1,e2,e3,e4,u,rfl⟩;have e5:ys=(z.map λp=>p.1).map V.int:=by
     rw[e,lenZ hz.n,eE,sO];rfl
    rw[e5] at e1;walk_at "rdm";have s2:=ok.s2;have s1:=ok.CV;exact⟨_,az.of e1,by lia,by lia,q _ e2⟩
theorem aj2(T:Tx K mg A)(aG:bE mg base A.bu A.aZ):a_ P w K mg base bx 1 A.Me A.Mf ["zones", "lap", "skew"] (acR K):=by
 refine T.WK.ok K5 (λvs H Q E h=>?_) (λaP Ar outer s H vs Q E hr h=>?_)
 ·obtain⟨a,ts,z,au,cy,rfl,_⟩:=h
  rfl
 ·obtain⟨a,ts,z,au,cy,rfl,hz,ok,h1,h2,h3,h4,hd,q⟩:=h;refine⟨_,(aE (jO (PW.pt (qD (iB (eO gO (aa 1) ak (bM _)) (iQ (eO jX (aa 1) (gU (v:=.int 1000000000) rfl T.XH ⟨_,rfl⟩) (bM _)))))) iC b7)
   (aE (dP dj rfl (dX (aa 0)) (kM rfl (dO (bI (i:=3) K5.nd rfl (Or.inl rfl)) (dO (bI (i:=4) K5.nd rfl (Or.inl rfl)) jV)))
   (aJ (jO (eO Jj (aF fY (aa 1) (aa 4)) ak (bM _)) iC b7)))
   (aJ (jO (PW.pt (qD (iB (eO gO (aa 2) ak (bM _)) (iQ (eO vJ (aa 2) (aa 1) (bM _)))))) iC b7)))),?_⟩
  walk_at "rdm";refine⟨by lia,by lia,?_⟩
  refine rl a (ts.map V.ref) (λi σ H'=>∃r c,σ = [some (.ref a),some (.int au),some (.int cy),r,c]/\H' = H) (λQ q=>q) hz.sq ⟨none,none,rfl,rfl⟩ (by rintro i σ H' _ ⟨r,c,rfl,rfl⟩;exact hz.sq) ?_ ?_
  ·rintro i x σ H' N hN hx ⟨r,c,rfl,rfl⟩;obtain⟨t,p,rfl,hp,ht⟩:=hz.at hx;refine ni (aL.of ht) rfl ?_;obtain⟨g1,g2,g3,g4⟩:=ok.r p (get_mem hp);have g5:=hd p (get_mem hp);walk_at "rdm";exact⟨by lia,g5,hN _ _ ⟨_,_,rfl,rfl⟩⟩
  ·rintro σ H' ⟨r,c,rfl,rfl⟩;walk_at "rdm";exact⟨by lia,by lia,q⟩
theorem aj3(T:Tx K mg A)(aG:bE mg base A.bu A.aZ):a_ P w K mg base bx 1 A.Mi A.Mj ["swing"] (acT K):=by
 refine T.WM.ok K6 (λvs H Q E h=>?_) (λaP Ar outer s H vs Q E hr h=>?_)
 ·obtain⟨a,sw,n,rfl,_⟩:=h
  rfl
 ·obtain⟨a,sw,n,rfl,hS,ok,hn,q⟩:=h;refine⟨_,(aJ (dP dj rfl (tG rfl T.fZ (ah ak (ah (bY fL rfl T.eK eT (ah (aa 0) ao)) ao))) (bI (i:=1) K6.nd rfl (Or.inl rfl))
   (aJ (dP dj rfl (tG rfl T.fZ (ah ak (ah (aF dR (aF kq (aa 1) ak) ak) ao))) (bI (i:=2) K6.nd rfl (Or.inl rfl))
   (aJ (dw (dz jX (aH bT (aa 0) (aa 1) (λ_ _=>rfl)) (aF d_ (aH bT (aa 0) (aa 2) (λ_ _=>rfl)) (aH bT (aa 0) (aF nT (aa 1) (aa 2)) (λ_ _=>rfl))) (bM _)) iC b7)))))),?_⟩
  walk_at "rdm";have hl:=ok.len;have h2:=ok.two;refine wm 2 (sw.length:Int) (λi σ H'=>∃r c,σ = [some (.ref a),r,c]/\H' = H) (λQ q=>?_) (by lia) (by lia) (by lia) (by lia) ⟨none,none,rfl,rfl⟩ ?_ ?_
  ·walk_at "rdm";refine⟨_,.inl hS,?_⟩;simpa using q
  ·rintro i σ H' N hN hi ⟨r,c,rfl,rfl⟩;walk_at "rdm";refine wm 1 ((2+(i:Int)) / 2+1) (λj σ H2=>∃c,σ = [some (.ref a),some (.int (2+(i:Int))),c]/\H2=H') (λQ q=>?_) (by lia) (by lia) (by lia) (by lia) ⟨_,rfl,rfl⟩ ?_ ?_
   ·walk_at "rdm";exact q
   ·rintro j σ H2 N2 h_ hj ⟨c,rfl,rfl⟩;walk_at "rdm";have e1:((2:Int)+(i:Int)).toNat=(1+j)+(1+i - j):=by lia
    have e2:((1:Int)+(j:Int)).toNat=1+j:=by lia
    have e3:((2:Int)+(i:Int) - (1+(j:Int))).toNat=1+i - j:=by lia
    have g:=ok.no (1+j) (1+i - j) (by lia) (by lia) (by lia)
    refine⟨_,hS,_,gG (by lia) (by lia),_,hS,_,gG (by lia) (by lia),_,hS,_,gG (by lia) (by lia),?_⟩
    walk_at "rdm";rw[e1,e2,e3];exact⟨by lia,h_ _ _ ⟨_,rfl,rfl⟩⟩
   ·rintro σ H2 ⟨c,rfl,rfl⟩;exact hN _ _ ⟨_,_,rfl,rfl⟩
  ·rintro σ H' ⟨r,c,rfl,rfl⟩;exact q
theorem aj4(T:Tx K mg A)(aG:bE mg base A.bu A.aZ):a_ P w K mg base bx 1 A.Ml A.Mm ["zones"] (acU K):=by
 refine T.WN.ok Ec (λvs H Q E h=>?_) (λaP Ar outer s H vs Q E hr h=>?_)
 ·obtain⟨a,ts,z,rfl,_⟩:=h
  rfl
 ·obtain⟨a,ts,z,rfl,hz,ok,q⟩:=h;refine⟨_,(aE (aU (i:=1) Ec.nd rfl (Or.inl rfl) (dG ao))
   (aE (dP dj rfl (dX (aa 0)) (kM rfl (dO (bI (i:=2) Ec.nd rfl (Or.inl rfl)) (dO (bI (i:=3) Ec.nd rfl (Or.inl rfl)) jV)))
   (aJ (dm (lN jS PySem.F.slot_list_extend PySem.F.type_list_extend ab1 (aa 1) (ah (aF SI (dG (ah (aa 3) ao)) (aa 2)) ao)))))
   (aJ (bF (aa 1))))),?_⟩
  walk_at "rdm";refine λl hl=>?_;refine rl a (ts.map V.ref) (λi σ H'=>∃r c,σ = [some (.ref a),some (.ref l),r,c]/\aj H H'/\H' l=some (.lst ((counts (z.take i)).map V.int))) (λQ q=>q) (aj.put hl |>.seq hz.sq) ⟨none,none,rfl,aj.put hl,aD⟩ (by rintro i σ H' _ ⟨r,c,rfl,hs,_⟩;exact hs.seq hz.sq) ?_ ?_
  ·rintro i x σ H' N hN hx ⟨r,c,rfl,hs,h1⟩;obtain⟨t,p,rfl,hp,ht⟩:=hz.at hx;refine ni (aL.of (hs _ _ ht)) rfl ?_;obtain⟨g1,g2,g3,g4⟩:=ok.r p (get_mem hp);have g5:=S8 ok i;walk_at "rdm";refine⟨⟨_,az.of h1⟩,λp1 pI=>⟨by lia,by lia,by lia,λp2 gX=>?_⟩⟩
   have s1:=(aj.put (o:=.lst [V.int p.2]) pI).trans (aj.put (o:=.lst (List.replicate p.1.toNat [V.int p.2]).flatten) gX);refine⟨_,s1 _ _ h1,?_,hN _ _ ⟨_,_,rfl,aj.put2 (hs.trans s1) hl,?_⟩⟩
   ·simp only[S9,List.length_map,List.length_replicate];lia
   ·rw[aD,take_succ_get hp,S7,bZ,S9];simp[counts]
  ·rintro σ H' ⟨r,c,rfl,hs,h1⟩;walk_at "rdm";rw[lenZ hz.n,eE] at h1;exact q _ _ hs hl h1
theorem XT(T:Tx K mg A)(aG:bE mg base A.bu A.aZ):a_ P w K mg base bx 1 A.Mn A.Mp ["ring_cells", "spares"] (acV K):=by
 refine T.NY.ok Av (λvs H Q E h=>?_) (λaP Ar outer s H vs Q E hr h=>?_)
 ·obtain⟨a,rc,s,rfl,_⟩:=h
  rfl
 ·obtain⟨a,rc,s,rfl,hS,hl,hc,gQ,DZ,q⟩:=h;refine⟨_,(aE (aU (i:=2) Av.nd rfl (Or.inl rfl) (dG ao))
   (aE (dP dj rfl (HD rfl T.AN (ah (aa 0) ao)) (kM rfl (dO (bI (i:=3) Av.nd rfl (Or.inl rfl)) (dO (bI (i:=4) Av.nd rfl (Or.inl rfl)) jV)))
   (aJ (dP dj rfl (kN rfl T.fZ (ah (aF nT (aa 4) (aa 1)) ao)) (bI (i:=5) Av.nd rfl (Or.inl rfl))
   (aJ (dm (lN jS mJ mK lO (aa 2) (ah (cL (ah (aa 3) (ah (aa 5) ao))) ao)))))))
   (aJ (bF (aa 2))))),?_⟩
  walk_at "rdm";refine λl eg=>?_;have oV:=acM (s:=s) gQ (λc hx=>hc c hx);refine re a (rc.map V.int) (λi σ H'=>∃r c pl ts,σ = [some (.ref a),some (.int s),some (.ref l),r,c,pl]/\aj H H'/\(∀t∈ts,H t=none)/\Zn H' l ts (fj s 0 (rc.take i))) (λQ q=>?_) (aj.put eg |>.seq hS)
   ⟨none,none,none,[],rfl,aj.put eg,(by intro t ht;cases ht),aD,rfl,by intro i t p h;simp at h⟩ (by rintro i σ H' _ ⟨r,c,pl,ts,rfl,hs,_⟩;exact hs.seq hS) ?_ ?_
  ·walk_at "rdm";exact q
  ·rintro i x σ H' T1 N hN hx ⟨r,c,pl,ts,rfl,hs,nX,hz⟩ hT;obtain⟨c0,OS,rfl⟩:=e8 hx;obtain⟨g1,g2⟩:=hc c0 (get_mem OS);refine ni (aL.of aD) rfl ?_;walk_at "rdm";have XU:=aj.put (o:=.tup [.int i,.int c0]) hT;refine CZ (c0 - s) (λj σ H2=>∃pl ts,σ = [some (.ref a),some (.int s),some (.ref l),some (.int i),some (.int c0),pl]/\aj H H2/\(∀t∈ts,H t=none)/\Zn H2 l ts (fj s 0 (rc.take i)++(List.range j).map λ(k:Nat)=>((i:Int),(k:Int)))) (λQ q=>?_) (by lia) (by lia) ?_ ?_ ?_
   ·walk_at "rdm";exact q
   ·exact⟨_,ts,rfl,hs.trans XU,nX,by simpa using hz.same XU⟩
   ·rintro j σ H2 N2 h_ hj ⟨pl,ts,rfl,oF,OT,r_⟩;walk_at "rdm";refine⟨⟨_,r_.sq⟩,λp hp=>⟨_,aj.put hp _ _ r_.l,?_,h_ _ _ ⟨_,ts++[p],rfl,aj.put2 (oF.trans (aj.put hp)) eg,?_,?_⟩⟩⟩
    ·have h1:=r_.n;have h2:=oV i;simp only[List.length_map,List.length_append,List.length_range] at h1 ⊢;lia
    ·intro t ht;rcases fM.mp ht with ht | ht
     ·exact OT t ht
     ·rw[gw.mp ht];exact oF.free hp
    ·have:=r_.snoc hp (i:Int) (j:Int);rw[xO,bZ,← sM];exact this
   ·rintro σ H2 ⟨pl,ts,rfl,oF,OT,r_⟩;refine hN _ _ ⟨_,_,_,ts,rfl,oF,OT,?_⟩;rw[take_succ_get OS,S4];have hi:=dB OS;simpa[fj,Nat.min_eq_left (Nat.le_of_lt hi)] using r_
  ·rintro σ H' ⟨r,c,pl,ts,rfl,hs,nX,hz⟩;walk_at "rdm";rw[aR,eE] at hz;exact q _ _ _ hs eg nX hz
theorem XW(T:Tx K mg A)(aG:bE mg base A.bu A.aZ):a_ P w K mg base bx 1 A.Mq A.Mr ["number_cells"] (acW K):=by
 refine T.NZ.ok Ed (λvs H Q E h=>?_) (λaP Ar outer s H vs Q E hr h=>?_)
 ·obtain⟨a,ts,z,rfl,_⟩:=h
  rfl
 ·obtain⟨a,ts,z,rfl,hz,hlen,q⟩:=h;have hu:=qj hr;refine⟨_,(aE (aU (i:=1) Ed.nd rfl (Or.inl rfl) Hs)
   (aE (dP dj rfl (HD rfl T.AN (ah (aa 0) ao)) (kM rfl (dO (bI (i:=2) Ed.nd rfl (Or.inl rfl)) (dO (bI (i:=3) Ed.nd rfl (Or.inl rfl)) jV)))
   (aJ (zw hu (aa 1) (aa 3) (aa 2) rfl)))
   (aJ (bF (aa 1))))),?_⟩
  walk_at "rdm";refine λd hd=>?_;refine re a (ts.map V.ref) (λi σ H'=>∃r c,σ = [some (.ref a),some (.ref d),r,c]/\aj H H'/\i<=z.length/\H' d=some (.dT (iU 0 (z.take i) []))) (λQ q=>?_) (aj.put hd |>.seq hz.sq)
   ⟨none,none,rfl,aj.put hd,eF _,aD⟩ (by rintro i σ H' _ ⟨r,c,rfl,hs,_⟩;exact hs.seq hz.sq) ?_ ?_
  ·walk_at "rdm";exact q
  ·rintro i x σ H' T1 N hN hx ⟨r,c,rfl,hs,hi,h1⟩ hT;obtain⟨t,p,rfl,hp,ht⟩:=hz.at hx;refine ni (aL.of aD) rfl ?_;walk_at "rdm";have DZ:=hs.trans (aj.put (o:=.tup [.int i,.ref t]) hT);have hl:=S6 (z.take i) 0 [];have qL:=dB hp;rw[d9,List.length_nil] at hl;refine⟨_,lQ.t (k:=kT p) (aj.put hT _ _ h1) (DZ _ _ ht) (by rw[oM];lia),hN _ _ ⟨_,_,rfl,aj.put2 DZ hd,qL,?_⟩⟩
   rw[aD,take_succ_get hp,S5];simp[iU,Nat.min_eq_left (Nat.le_of_lt qL)]
  ·rintro σ H' ⟨r,c,rfl,hs,hi,h1⟩;walk_at "rdm";rw[lenZ hz.n,eE] at h1;exact q _ _ hs hd h1
theorem aqt(T:Tx K mg A)(aG:bE mg base A.bu A.aZ):a_ P w K mg base bx 1 A.AA A.Mu ["self"] (acZ K):=by
 refine T.aie.ok ahf (λvs H Q E h=>?_) (λaP Ar outer s H vs Q E hr h=>?_)
 ·obtain⟨C,p,P,fp,rfl,_⟩:=h
  rfl
 ·obtain⟨C,p,P,fp,rfl,hP,q⟩:=h;obtain⟨dx,a1,a2,a3,a4,ts,fs,rfl,h⟩:=hP;refine⟨_,(aJ (bF (bY fL rfl T.eK eT (ah (cC (aa 0) rfl) ao)))),?_⟩;wp_walk using T,h.o,h.f1,h.f2,h.f3,h.f4,h.f5,h.f6,h.m1,h.m2,h.m3,h.m4,h.m5,h.m6,h.m7,h.m8,h.m9,h.gI,h.gZ,h.cp.cl,h.cp.n1,h.cp.n2,h.cp.n3,h.cp.n4,h.cp.n5,h.cp.n6;exact⟨_,.inl (az.of h.rc),by simpa  using q⟩
theorem aj5(T:Tx K mg A)(aG:bE mg base A.bu A.aZ):a_ P w K mg base bx 1 A.AB A.Mv ["self"] (ac0 K):=by
 refine T.aii.ok ahg (λvs H Q E h=>?_) (λaP Ar outer s H vs Q E hr h=>?_)
 ·obtain⟨C,p,P,fp,rfl,_⟩:=h
  rfl
 ·obtain⟨C,p,P,fp,rfl,hP,q⟩:=h;obtain⟨dx,a1,a2,a3,a4,ts,fs,rfl,h⟩:=hP;refine⟨_,(aJ (bF (bY fL rfl T.eK eT (ah (cC (aa 0) rfl) ao)))),?_⟩;wp_walk using T,h.o,h.f1,h.f2,h.f3,h.f4,h.f5,h.f6,h.m1,h.m2,h.m3,h.m4,h.m5,h.m6,h.m7,h.m8,h.m9,h.gI,h.gZ,h.cp.cl,h.cp.n1,h.cp.n2,h.cp.n3,h.cp.n4,h.cp.n5,h.cp.n6;exact⟨_,.inl (h.nc.sq),by simpa[h.nc.n] using q⟩
theorem OU(T:Tx K mg A)(aG:bE mg base A.bu A.aZ):a_ P w K mg base bx 1 A.AD A.Mw ["self", "ring"] (ac2 K):=by
 refine T.ail.ok ahh (λvs H Q E h=>?_) (λaP Ar outer s H vs Q E hr h=>?_)
 ·obtain⟨C,p,P,fp,r,rfl,_⟩:=h
  rfl
 ·obtain⟨C,p,P,fp,r,rfl,hP,h0,h1,h2,h3,q⟩:=h;obtain⟨dx,a1,a2,a3,a4,ts,fs,rfl,h⟩:=hP;refine⟨_,(aJ (bF (aF vI (cC (aa 0) rfl) (aH bT (cC (aa 0) rfl) (aa 1) (λ_ _=>rfl))))),?_⟩;wp_walk using T,h.o,h.f1,h.f2,h.f3,h.f4,h.f5,h.f6,h.m1,h.m2,h.m3,h.m4,h.m5,h.m6,h.m7,h.m8,h.m9,h.gI,h.gZ,h.cp.cl,h.cp.n1,h.cp.n2,h.cp.n3,h.cp.n4,h.cp.n5,h.cp.n6;refine⟨_,az.of h.rc,_,gG h0 h1,?_⟩;walk_at "rdm";exact⟨h2,by lia,q⟩
theorem aj6(T:Tx K mg A)(aG:bE mg base A.bu A.aZ):a_ P w K mg base bx 1 A.AE A.Mx ["self"] (ac1 K):=by
 refine T.aio.ok ahi (λvs H Q E h=>?_) (λaP Ar outer s H vs Q E hr h=>?_)
 ·obtain⟨C,p,P,fp,rfl,_⟩:=h
  rfl
 ·obtain⟨C,p,P,fp,rfl,hP,q⟩:=h;obtain⟨dx,a1,a2,a3,a4,ts,fs,rfl,h⟩:=hP;refine⟨_,(aJ (bF (cC (aa 0) rfl))),?_⟩;wp_walk using T,h.o,h.f1,h.f2,h.f3,h.f4,h.f5,h.f6,h.m1,h.m2,h.m3,h.m4,h.m5,h.m6,h.m7,h.m8,h.m9,h.gI,h.gZ,h.cp.cl,h.cp.n1,h.cp.n2,h.cp.n3,h.cp.n4,h.cp.n5,h.cp.n6;exact q
theorem aj7(T:Tx K mg A)(aG:bE mg base A.bu A.aZ):a_ P w K mg base bx 1 A.AG A.Mz ["self", "ring", "other"] (acY K):=by
 refine T.aiw.ok ahk (λvs H Q E h=>?_) (λaP Ar outer s H vs Q E hr h=>?_)
 ·obtain⟨C,p,P,fp,i,j,rfl,_⟩:=h
  rfl
 ·obtain⟨C,p,P,fp,i,j,rfl,hP,hi,q⟩:=h;obtain⟨dx,a1,a2,a3,a4,ts,fs,rfl,h⟩:=hP;refine⟨_,(aJ (bF (aH bT (cC (aa 0) rfl) (bY GZ rfl T.AM boot_abs (ah (aF nT (aa 1) (aa 2)) ao)) (λ_ _=>rfl)))),?_⟩;wp_walk using T,h.o,h.f1,h.f2,h.f3,h.f4,h.f5,h.f6,h.m1,h.m2,h.m3,h.m4,h.m5,h.m6,h.m7,h.m8,h.m9,h.gI,h.gZ,h.cp.cl,h.cp.n1,h.cp.n2,h.cp.n3,h.cp.n4,h.cp.n5,h.cp.n6;refine⟨_,az.of h.sw,_,gG (k:=if i - j<0 then -(i - j) else i - j) (by split <;> lia) (by split <;> lia),?_⟩
  have e:(if i - j<0 then -(i - j) else i - j).toNat=(i - j).natAbs:=by split <;> lia
  rw[e];exact q
theorem XX(T:Tx K mg A)(aG:bE mg base A.bu A.aZ):a_ P w K mg base bx 1 A.AH A.MA ["self", "ring", "place"] (ac4 K):=by
 refine T.aiA.ok ahl (λvs H Q E h=>?_) (λaP Ar outer s H vs Q E hr h=>?_)
 ·obtain⟨C,p,P,fp,r,c,rfl,_⟩:=h
  rfl
 ·obtain⟨C,p,P,fp,r,c,rfl,hP,q⟩:=h;obtain⟨dx,a1,a2,a3,a4,ts,fs,rfl,h⟩:=hP;refine⟨_,(aE (jO (PW.pt (qD (iB (eO gO (aa 1) ak (bM _)) (iQ (eO vJ (aa 1) (bY fL rfl T.eK eT (ah (cC (aa 0) rfl) ao)) (bM _)))))) (aJ (bF gb)) b7)
   (aJ (bF (sZ (iD vJ (aa 2) ak (bM _)) (p8 (iD gO (aa 2) (aH bT (cC (aa 0) rfl) (aa 1) (λ_ _=>rfl)) (bM _))))))),?_⟩
  wp_walk using h.o,h.f1,h.f2,h.f3,h.f4,h.f5,h.f6,h.m1,h.m2,h.m3,h.m4,h.m5,h.m6,h.m7,h.m8,h.m9,h.gI,h.gZ,h.cp.cl,h.cp.n1,h.cp.n2,h.cp.n3,h.cp.n4,h.cp.n5,h.cp.n6;refine cG (λh0=>?_) (λh0=>⟨_,.inl (az.of h.rc),cG (λh1=>?_) (λh1=>?_)⟩)
  ·rw[kI (by lia)] at q;exact q
  ·rw[aR] at h1;rw[kI (by lia)] at q;exact q
  ·rw[aR] at h1;refine cG (λh2=>⟨_,az.of h.rc,_,gG (by lia) (by lia),?_⟩) (λh2=>?_)
   ·walk_at "rdm";have e:decide (c<P.rc.getD r.toNat 0)=decide (0<=r/\r<P.rc.length/\0<=c/\c<P.rc.getD r.toNat 0):=by
     by_cases h3:c<P.rc.getD r.toNat 0
     ·rw[kJ h3,kJ ⟨by lia,by lia,h2,h3⟩]
     ·rw[kI h3,kI (by lia)]
    rw[e];exact q
   ·rw[kI (by lia)] at q;exact q
theorem XY(T:Tx K mg A)(aG:bE mg base A.bu A.aZ):a_ P w K mg base bx 1 A.AI A.MB ["self", "number"] (ac5 K):=by
 refine T.aiD.ok ahm (λvs H Q E h=>?_) (λaP Ar outer s H vs Q E hr h=>?_)
 ·obtain⟨C,p,P,fp,k,rfl,_⟩:=h
  rfl
 ·obtain⟨C,p,P,fp,k,rfl,hP,h0,h1,q⟩:=h;obtain⟨dx,a1,a2,a3,a4,ts,fs,rfl,h⟩:=hP;refine⟨_,(aE (jO (PW.pt (qD (iB (eO gO (aa 1) ak (bM _)) (iQ (eO vJ (aa 1) (bY fL rfl T.eK eT (ah (cC (aa 0) rfl) ao)) (bM _)))))) iC b7)
   (aJ (bF (aH bT (cC (aa 0) rfl) (aa 1) (λ_ _=>rfl))))),?_⟩
  wp_walk using h.o,h.f1,h.f2,h.f3,h.f4,h.f5,h.f6,h.m1,h.m2,h.m3,h.m4,h.m5,h.m6,h.m7,h.m8,h.m9,h.gI,h.gZ,h.cp.cl,h.cp.n1,h.cp.n2,h.cp.n3,h.cp.n4,h.cp.n5,h.cp.n6;have hn:=h.nc.n;refine⟨by lia,_,.inl h.nc.sq,by rw[aR];lia,?_⟩
  have hk:k.toNat<ts.length:=by lia
  have g1:(ts.map V.ref)[k.toNat]? = some (V.ref ts[k.toNat]):=by simp[hk]
  obtain⟨t,q',e1,e2,e3⟩:=h.nc.at g1;have ek:k=(k.toNat:Int):=by lia
  refine⟨_,h.nc.sq,V.ref ts[k.toNat],?_,?_⟩
  ·have:=rA g1;rwa [← ek] at this
  ·rw[e1];exact q t q' e2 e3
theorem aj8(T:Tx K mg A)(aG:bE mg base A.bu A.aZ):a_ P w K mg base bx 1 A.MD A.ME ["spares", "ring_cells"] (adb K):=by
 refine T.WX.ok aho (λvs H Q E h=>?_) (λaP Ar outer s H vs Q E hr h=>?_)
 ·obtain⟨a,rc,s,rfl,_⟩:=h
  rfl
 ·obtain⟨a,rc,s,rfl,hS,hl,h0,hc,q⟩:=h;refine⟨_,(aJ (dw (PW.pt (iB (eO gO (aa 0) ak (bM _)) (iQ (dz vJ (aa 0) (bY (S2 rfl) rfl T.uR boot_min (ah (aa 1) ao)) (bM _))))) iC b7)),?_⟩;walk_at "rdm";refine⟨by lia,_,hS,hl,λM hM XZ=>⟨?_,q⟩⟩
  have:=hc M hM;lia
theorem aj9(T:Tx K mg A)(aG:bE mg base A.bu A.aZ):a_ P w K mg base bx 1 A.MH A.MI ["number_cells", "bad_cells"] (adf K):=by
 refine T.WZ.ok ahp (λvs H Q E h=>?_) (λaP Ar outer s H vs Q E hr h=>?_)
 ·obtain⟨a,d,ts,z,aA,rfl,_⟩:=h
  rfl
 ·obtain⟨a,d,ts,z,aA,rfl,hz,hlen,hd,q⟩:=h;have hu:=qj hr;refine⟨_,(aJ (bF (gR (N:=["number", "cell", "bad_cells"]) (nt:=2) (fv:=[1]) (cN.of rfl rfl (by rfl) (by rfl) (by repeat (first | exact trivial | refine⟨rfl,?_⟩)) (by rfl) (by rfl) (by rfl) (by decide) (by decide +kernel)) rfl (HD rfl T.AN (ah (aa 0) ao)) (λC s H fp=>(Ti (K:=K) (n:=2) rfl rfl (dO (bI (i:=0) (show List.Nodup (["number", "cell", "bad_cells"]:List Str) by decide +kernel) rfl (Or.inl rfl)) (dO (bI (i:=1) (show List.Nodup (["number", "cell", "bad_cells"]:List Str) by decide +kernel) rfl (Or.inl rfl)) jV)))) (λC s H fp=>(oK (GL (SS hu (aa 1) (aa 2))))) (λC s H fp=>(aa 0))))),?_⟩
  walk_at "rdm";refine rcE a (ts.map V.ref) (λD i ys aC H2=>ys=(j0 aA 0 (z.take i)).map V.int/\H2 D=some (.lst ys)/\aj H H2/\H D=none/\i<=z.length/\∃u v,aC = [u,v,some (.ref d)]) (λQ q=>by walk_at "rdm";exact q) hz.sq ?_ ?_ ?_ ?_
  ·intro D hD;exact⟨rfl,aD,aj.put hD,hD,eF _,_,_,rfl⟩
  ·rintro D i ys aC H2 ⟨e,e1,e2,e3,e4,_⟩;refine⟨e1,?_,e2.seq hz.sq⟩;have:=HU aA (z.take i) 0;rw[e,oM,aR];rw[d9] at this;lia
  ·rintro D i x ys aC H2 T1 N hN hx ⟨e,e1,e2,e3,e4,u,v,rfl⟩ hT;obtain⟨t,p,rfl,hp,ht⟩:=hz.at hx;have hl:=dB hp;refine ni (aL.of aD) rfl ?_;walk_at "rdm";have s1:=e2.trans (aj.put (o:=.tup [.int i,.ref t]) hT);refine⟨_,gf.t (k:=kT p) (s1 _ _ hd) (s1 _ _ ht),?_⟩;have eD:upd H2 T1 (.tup [.int i,.ref t]) D=some (.lst ys):=aj.put hT _ _ e1;refine cG (λhb=>⟨eD,hN _ _ _ ⟨?_,aD,aj.put2 s1 e3,e3,hl,_,_,rfl⟩⟩) (λhb=>hN _ _ _ ⟨?_,eD,s1,e3,hl,_,_,rfl⟩)
   ·rw[take_succ_get hp,HS,if_pos hb,bZ,e,d9,xQ (jR hl),Nat.zero_add];rfl
   ·rw[take_succ_get hp,HS,if_neg hb,mF,e]
  ·rintro D ys aC H2 ⟨e,e1,e2,e3,e4,u,v,rfl⟩;rw[lenZ hz.n,eE] at e;rw[e] at e1;exact q _ _ e2 e3 e1
theorem aj_(T:Tx K mg A)(aG:bE mg base A.bu A.aZ):a_ P w K mg base bx 1 A.Ek A.AK ["ring", "rings"] (aeS A.aZ (qw g_) (qx "nearest_rings")):=by
 refine T.W0.okC ahq (λvs H Q E h=>?_) (λAr outer s H vs Q E hr h=>?_)
 ·obtain⟨r,n,rfl,_⟩:=h
  rfl
 ·obtain⟨r,n,rfl,h2,kR,tab,q⟩:=h;have oU:(Ar.deeper (envOfC "nearest_rings" (aV g_) s.heap.objs.size A.Ek A.AK.code)).in1.in1.depth<recursionLimit:=hr.depth;refine⟨_,(aJ (bF (aeN (c:=A.bu) (P:=A.aZ) (ps:=["other"]) (fs:=["ring"]) (fv:=[0]) rfl T.AO rfl T.fZ aG T.ajK (nI.of rfl rfl rfl rfl (by rfl) (by rfl) (by repeat (first | exact trivial | refine⟨rfl,?_⟩)) (by rfl) (by rfl) (by rfl) (by decide +kernel)) rfl rfl rfl (λ_ _ _ _=>rfl) (λf c2 s2 H2=>(cL (ah (bY GZ rfl T.AM boot_abs (ah (aF oG (pv 0) (pv 1)) ao)) (ah (pv 0) ao)))) rfl oU rfl rfl rfl (ah (pv 1) ao)))),?_⟩
  simp only[UM,rQ,rY,mI,pC,An,Ao,uL,D9,w5,qE,qF,w6,Jg,Aq,Jh,D4,Ab,yU,DJ,DK,De,Dm,Dj,Di,zS,Ih,C7,qq,C8,C6,zd,wu,rB,yZ,ze,Ct,Ag,IW,yT,yS,yR,yW,yV,and_assoc,B8,HO.ins.injEq,CU,wk,fW,String.reduceBEq,List.lookup_cons,List.lookup_nil,aD,HO.lst.injEq,HO.dT.injEq,HO.tup.injEq,String.reduceEq,false_and,or_false,false_or,oM,zy,zx,zu,zm,zo,zq,zA,Bool.not_eq_true',decide_eq_false_iff_not,Classical.not_not,yt,if_false_left,if_false_right,zE,ym,jF,List.length_map,List.getElem?_nil,vC,tw,oB,vF,s_,tu,yu,vA,tC,q_,iR,rI,yE,rU,yJ,tB,yr,yq,Ck,vD,vP,yM,vM,tR,yp,yd,qZ,yf,yi,yj,yl,yO,yN,y9,rC,y_,zb,zf,zg,vR,tX,yG,yH,Jl,Jm,Jo,Jp,Jq,Jr,Js,Jt,tN,yF,Cs,vL,yL,Cv,yP,_L.start,HL,HM,I_,List.map_cons,List.map_nil,List.cons_append,List.nil_append,List.append_nil,List.length_cons,List.length_nil,List.getElem?_cons_zero,List.getElem?_cons_succ,Option.some.injEq,exists_eq_left,exists_eq_left',exists_and_left,exists_eq,V.int.injEq,V.ref.injEq,V.bl.injEq,V.ty.injEq,V.str.injEq,List.cons.injEq,and_true,true_and,List.set_cons_zero,List.set_cons_succ,decide_eq_true_eq,Nat.reduceSub,Nat.reduceAdd,List.replicate_succ,List.replicate_zero,List.replicate,Int.reduceLT,Int.reduceLE,Int.reducePow,Int.reduceToNat,Int.reduceNeg,Nat.reduceLT,Nat.reduceLeDiff,Nat.reducePow,Int.reduceMul,Int.reduceAdd,Int.reduceSub,and_self,or_true,true_or,gt_iff_lt,ge_iff_le,if_true,if_false,Bool.false_eq_true,reduceIte,Nat.sub_self,Nat.sub_zero];refine⟨n,rfl,h2,kR,kj r,λj hj=>⟨by unfold kj;dsimp only;lia,by unfold kj;dsimp only;lia⟩,λi j hi hj e=>by unfold kj at e;injection e with e1 e2;lia,tab,λj H2 hj sb tb=>?_,λD is H' a b c d e=>q D is H' a b c d e⟩
  have e:(if (j:Int) - r<0 then -((j:Int) - r) else(j:Int) - r)=(kj r j).1:=by unfold kj;dsimp only;split <;> lia
  refine⟨_,rfl,_,rfl,λp hp=>⟨hp,?_⟩⟩;rw[e]
  rfl
theorem X0(T:Tx K mg A)(aG:bE mg base A.bu A.aZ):a_ P w K mg base bx 1 A.MP A.MQ ["_law_script", "_law_k"] (iT K):=by
 refine T.pD.ok ahr (λvs H Q E h=>?_) (λaP Ar outer s H vs Q E hr h=>?_)
 ·obtain⟨a,ns,k,rfl,_⟩:=h
  rfl
 ·obtain⟨a,ns,k,rfl,hS,hl,hk,q⟩:=h;refine⟨_,(aE (jO (eO gO (aa 1) (bY fL rfl T.eK eT (ah (aa 0) ao)) (bM _)) (aJ (bF (aH bT (aa 0) (aa 1) (λ_ _=>rfl)))) b7)
   (aJ (bF ak))),?_⟩
  walk_at "rdm";refine⟨_,.inl hS,cG (λcF=>⟨_,hS,_,gG hk (by simpa using cF),q⟩) λDs=>?_⟩
  have e:fK ns k=0:=by
   unfold fK;rw[aR] at Ds;rw[kF,sN (by lia)];rfl
  rw[e] at q;exact q
theorem OV(T:Tx K mg A)(aG:bE mg base A.bu A.aZ):a_ P w K mg base bx 1 A.MR A.MS ["_law_cell", "_law_many"] afo:=by
 refine T.EF.ok Ax (λvs H Q E h=>?_) (λaP Ar outer s H vs Q E hr h=>?_)
 ·obtain⟨c,m,rfl,_⟩:=h
  rfl
 ·obtain⟨c,m,rfl,m0,m1,q⟩:=h;refine⟨_,(aE (aU (i:=2) Ax.nd rfl (Or.inl rfl) (dG ao))
   (aE (aU (i:=3) Ax.nd rfl (Or.inl rfl) (aF dR (aF fY (aa 0) ak) ak))
   (aE (dP dj rfl (kN rfl T.fZ (ah (aF dR (aa 1) ak) ao)) (bI (i:=4) Ax.nd rfl (Or.inl rfl))
   (aE (aU (i:=3) Ax.nd rfl (Or.inl rfl) (aF fY (aF dR (aF dR (aF l7 (aa 3) (aa 3)) (aF l7 ak (aa 3))) (aa 4)) ak))
   (aJ (dm (lN jS mJ mK lO (aa 2) (ah (aa 3) ao))))))
   (aJ (bF (tW CG (aa 2) (tV ak) tU)))))),?_⟩
  walk_at "rdm";intro p hp;refine CZ (m+1) (λi σ H'=>∃(x4:Option V) (nn:Int) (ns:List Int),σ = [some (.int c),some (.int m),some (.ref p),some (.int nn),x4]/\H' = upd H p (.lst (ns.map V.int))/\ns.length=i/\0<=nn/\nn<2147531918/\∀x∈ns,0<=x/\x<2147483647) (λQ q=>?_) (by lia) (by lia) ⟨none,_,[],rfl,rfl,rfl,by lia,by lia,λ_ h=>nomatch h⟩ ?_ ?_
  ·walk_at "rdm";exact q
  ·rintro i σ H' N hN hi ⟨x4,nn,ns,rfl,rfl,hn,n0,n1,nb⟩;walk_at "rdm";have k0:=fD (nn*nn+48271*nn+(i:Int)) (show (2147483647:Int)≠0 by decide)
   have k1:=fB (nn*nn+48271*nn+(i:Int)) (show (0:Int)<2147483647 by decide)
   refine⟨.inl ⟨by lia,by lia⟩,⟨_,az.of aD⟩,by lia,hN _ _ ⟨_,_,ns++[(nn*nn+48271*nn+(i:Int)) % 2147483647],rfl,?_,by simp[hn],k0,by lia,λx hx=>?_⟩⟩
   ·rw[bZ];rfl
   ·rcases fM.mp hx with hx | hx
    ·exact nb x hx
    ·rw[gw.mp hx];exact⟨k0,k1⟩
  ·rintro σ H' ⟨x4,nn,ns,rfl,rfl,hn,n0,n1,nb⟩;walk_at "rdm";refine⟨_,az.of aD,λl hl=>?_⟩;have zK:l≠p:=(bX aD hl).symm;have uh:H l=none:=by rw[aI zK] at hl;exact hl
   refine q l (ns.drop 1) _ (aj.put2 (aj.put hp) uh) uh ?_ ⟨by rw[xN];lia,λx hx=>nb x (Gi hx)⟩
   rw[aD,ady (by lia)]
theorem aka(T:Tx K mg A)(aG:bE mg base A.bu A.aZ):a_ P w K mg base bx 1 A.MT A.MU ["_law_xs", "_law_rings"] (afp K):=by
 refine T.W4.ok uN (λvs H Q E h=>?_) (λaP Ar outer s H vs Q E hr h=>?_)
 ·obtain⟨xa,xs,m,rfl,_⟩:=h
  rfl
 ·obtain⟨xa,xs,m,rfl,hx,X,h2,wQ,q⟩:=h;refine⟨_,(aE (dw (dz lK (aF cR (aH bT (aa 0) ak (λ_ _=>rfl)) ak) ak (bM _)) (aE (aU (i:=2) uN.nd rfl (Or.inl rfl) (aF d_ ak (aF cR (aH bT (aa 0) ak (λ_ _=>rfl)) ak)))
   (aE (dw (dz lK (aF cR (aF vI (aH bT (aa 0) ak (λ_ _=>rfl)) ak) ak) ak (bM _)) (aJ (aU (i:=2) uN.nd rfl (Or.inl rfl) (aF d_ ak (aF cR (aH bT (aa 0) ak (λ_ _=>rfl)) (aF rm ak ak))))) b7)
   (aE (aU (i:=3) uN.nd rfl (Or.inl rfl) (dG (ah ak ao)))
   (aE (dP dj rfl (tG rfl T.fZ (ah ak (ah (aa 1) ao))) (bI (i:=4) uN.nd rfl (Or.inl rfl))
   (aE (dm (lN jS mJ mK lO (aa 3) (ah (aF d_ (aH bT (aa 3) (tM tO ak) (λ_ _=>rfl)) (aa 2)) ao)))
   (aJ (aU (i:=2) uN.nd rfl (Or.inl rfl) (aF oG (aa 2) (aF cR (aH bT (aa 0) (aF dR ak (aF fY (aa 4) ak)) (λ_ _=>rfl)) (aF dR (aa 2) ak)))))))
   (aJ (bF (aa 3))))))) b7)
   (aE (aU (i:=5) uN.nd rfl (Or.inr rfl) (aF d_ ak (aF cR (aH bT (aa 0) ak (λ_ _=>rfl)) (aF rm ak ak))))
   (aJ (bF (aF vY (dG (ah ak ao)) (bY acF rfl T.AO boot_sorted (ah (gR (N:=["_law_k", "_law_least", "_law_xs"]) (nt:=1) (fv:=[5,0]) (cN.of rfl rfl (by rfl) (by rfl) (by repeat (first | exact trivial | refine⟨rfl,?_⟩)) (by rfl) (by rfl) (by rfl) (by decide) (by decide +kernel)) rfl (tG rfl T.fZ (ah ak (ah (aa 1) ao))) (λC s H fp=>(bI (i:=0) (show List.Nodup (["_law_k", "_law_least", "_law_xs"]:List Str) by decide +kernel) rfl (Or.inl rfl))) (λC s H fp=>jd) (λC s H fp=>(aF d_ (aa 1) (aF cR (aH (Jk (K:=K) rfl) (aa 2) (aF dR ak (aF fY (aa 0) ak)) (λ_ _=>rfl)) (aF dR (aa 1) ak))))) ao))))))),?_⟩
  have xl:=X.n;have g:∀k:Int,0<=k->k<24->e7 (xs.map V.int) k=some (.int (xs.getD k.toNat 0)):=λk h0 h1=>gG h0 (by lia)
  walk_at "rdm";refine⟨_,az.of hx,_,g 10 (by decide) (by decide),?_⟩
  walk_at "rdm";refine cG (λh8=>⟨_,az.of hx,_,g 11 (by decide) (by decide),_,rfl,_,az.of hx,_,g 11 (by decide) (by decide),_,rfl,cG (λh9=>⟨_,az.of hx,_,g 11 (by decide) (by decide),by decide,_,rfl,?_⟩) λh9=>?_⟩) λh8=>⟨_,az.of hx,_,g 11 (by decide) (by decide),by decide,_,rfl,?_⟩
  ·skip
   intro l hl;have gQ:1<=(1+xs.getD (Int.toNat 11) 0 % 10000000)/\(1+xs.getD (Int.toNat 11) 0 % 10000000)<=10000000:=⟨by have:=(X.md 11 (k:=10000000) (by decide)).1;lia,by have:=(X.md 11 (k:=10000000) (by decide)).2;lia⟩
   generalize (1+xs.getD (Int.toNat 11) 0 % 10000000)=s0 at gQ ⊢;refine wm 1 m (λj σ H'=>∃kk,σ = [some (.ref xa),some (.int m),some (.int (gK xs s0 j)),some (.ref l),kk,none]/\aj H H'/\H' l=some (.lst (((List.range (1+j)).map (sumF (gK xs s0))).map V.int)))
    (λQ q=>?_) (by lia) (by lia) (by lia) (by lia) ⟨none,rfl,aj.put hl,?_⟩ ?_ ?_
   ·walk_at "rdm";exact q
   ·rw[aD];simp[List.range_succ,sumF,gK]
   ·rintro j σ H' N hN hj ⟨kk,rfl,hs,h1⟩;have b:=DM xs gQ.1 j;have X3:0<=(1+(j:Int)) % 10/\(1+(j:Int)) % 10<10:=⟨fD _ (by decide),fB _ (by decide)⟩
    walk_at "rdm";refine⟨⟨_,az.of h1⟩,_,az.of h1,_,HN (by simp;lia),?_⟩
    wp_walk using h1;refine⟨by rw[oq];lia,_,az.of (by rw[aI (bX hx hl)];exact hs _ _ hx),_,g _ (by lia) (by lia),_,rfl,by lia,hN _ _ ⟨some (.int (1+(j:Int))),?_,aj.put2 hs hl,?_⟩⟩
    ·rw[gK]
    ·rw[aD,show 1+(j+1)=1+j+1 by lia,xO,bZ,bZ,oq,_L.range_getD (by lia)]
     congr 4;simp only[List.map_cons,List.map_nil,List.cons.injEq,and_true,V.int.injEq];rw[show 1+j - 1=j by lia,show 1+j=j+1 by lia,sumF]
   ·rintro σ H' ⟨kk,rfl,hs,h1⟩;walk_at "rdm";have e:1+(m - 1).toNat=m.toNat:=by lia
    rw[e] at h1;have so:=U7 (f:=gK xs s0) gQ.1 gQ.2 (DM xs gQ.1) (n:=m.toNat) (by lia) (by lia)
    rw[show ((m.toNat:Nat):Int)=m by lia] at so
    exact q _ _ _ hs hl h1 so
  ·skip
   intro l hl;have gQ:1<=(1+xs.getD (Int.toNat 11) 0 % 1000)/\(1+xs.getD (Int.toNat 11) 0 % 1000)<=10000000:=⟨by have:=(X.md 11 (k:=1000) (by decide)).1;lia,by have:=(X.md 11 (k:=1000) (by decide)).2;lia⟩
   generalize (1+xs.getD (Int.toNat 11) 0 % 1000)=s0 at gQ ⊢;refine wm 1 m (λj σ H'=>∃kk,σ = [some (.ref xa),some (.int m),some (.int (gK xs s0 j)),some (.ref l),kk,none]/\aj H H'/\H' l=some (.lst (((List.range (1+j)).map (sumF (gK xs s0))).map V.int)))
    (λQ q=>?_) (by lia) (by lia) (by lia) (by lia) ⟨none,rfl,aj.put hl,?_⟩ ?_ ?_
   ·walk_at "rdm";exact q
   ·rw[aD];simp[List.range_succ,sumF,gK]
   ·rintro j σ H' N hN hj ⟨kk,rfl,hs,h1⟩;have b:=DM xs gQ.1 j;have X3:0<=(1+(j:Int)) % 10/\(1+(j:Int)) % 10<10:=⟨fD _ (by decide),fB _ (by decide)⟩
    walk_at "rdm";refine⟨⟨_,az.of h1⟩,_,az.of h1,_,HN (by simp;lia),?_⟩
    wp_walk using h1;refine⟨by rw[oq];lia,_,az.of (by rw[aI (bX hx hl)];exact hs _ _ hx),_,g _ (by lia) (by lia),_,rfl,by lia,hN _ _ ⟨some (.int (1+(j:Int))),?_,aj.put2 hs hl,?_⟩⟩
    ·rw[gK]
    ·rw[aD,show 1+(j+1)=1+j+1 by lia,xO,bZ,bZ,oq,_L.range_getD (by lia)]
     congr 4;simp only[List.map_cons,List.map_nil,List.cons.injEq,and_true,V.int.injEq];rw[show 1+j - 1=j by lia,show 1+j=j+1 by lia,sumF]
   ·rintro σ H' ⟨kk,rfl,hs,h1⟩;walk_at "rdm";have e:1+(m - 1).toNat=m.toNat:=by lia
    rw[e] at h1;have so:=U7 (f:=gK xs s0) gQ.1 gQ.2 (DM xs gQ.1) (n:=m.toNat) (by lia) (by lia)
    rw[show ((m.toNat:Nat):Int)=m by lia] at so
    exact q _ _ _ hs hl h1 so
  ·intro l0 eg;have hL:1<=1+xs.getD (Int.toNat 11) 0 % 100000000/\1+xs.getD (Int.toNat 11) 0 % 100000000<=100000000:=⟨by have:=(X.md 11 (k:=100000000) (by decide)).1;lia,by have:=(X.md 11 (k:=100000000) (by decide)).2;lia⟩
   generalize 1+xs.getD (Int.toNat 11) 0 % 100000000=L at hL ⊢;have s0:=aj.put (o:=.lst [V.int 0]) eg;refine Tc 1 m (λD i ys aC H2=>∃ns:List Int,ys=ns.map V.int/\ns.length=i/\(∀x∈ns,L<=x/\x<=2*L)/\H2 D=some (.lst ys)/\aj (upd H l0 (.lst [V.int 0])) H2/\upd H l0 (.lst [V.int 0]) D=none/\i<=60/\∃u,aC = [u,some (.int L),some (.ref xa)])
    (λQ q=>?_) (by lia) (by lia) (by lia) (by lia) ?_ ?_ ?_ ?_
   ·walk_at "rdm";exact q
   ·intro D hD;exact⟨[],rfl,rfl,(by intro x hx;cases hx),aD,aj.put hD,hD,by lia,none,rfl⟩
   ·rintro D i ys aC H2 ⟨ns,rfl,e0,_,e1,e2,e3,e4,_⟩;exact⟨e1,gh (by rw[aR];lia)⟩
   ·rintro D i ys aC H2 N hN hi ⟨ns,rfl,e0,eb,e1,e2,e3,e4,u,rfl⟩;have X3:0<=(1+(i:Int)) % 10/\(1+(i:Int)) % 10<10:=⟨fD _ (by decide),fB _ (by decide)⟩
    walk_at "rdm";have b1:=fD (xs.getD (12+(1+(i:Int)) % 10).toNat 0) (show L+1≠0 by lia)
    have b2:=fB (xs.getD (12+(1+(i:Int)) % 10).toNat 0) (show 0<L+1 by lia)
    refine⟨_,az.of (e2 _ _ (s0 _ _ hx)),_,g _ (by lia) (by lia),_,rfl,by lia,e1,hN _ _ _ ⟨ns++[L+xs.getD (12+(1+(i:Int)) % 10).toNat 0 % (L+1)],by rw[bZ];rfl,by simp[e0],?_,aD,aj.put2 e2 e3,e3,by lia,_,rfl⟩⟩
    intro x hx;rcases fM.mp hx with hx | hx
    ·exact eb x hx
    ·rw[gw.mp hx];generalize xs.getD (12+(1+(i:Int)) % 10).toNat 0 % (L+1)=y at b1 b2 ⊢;lia
   ·rintro D ys aC H2 ⟨ns,rfl,e0,eb,e1,e2,e3,e4,u,rfl⟩
    try walk_at "rdm"
    refine⟨ns,az.of e1,by lia,λl gW hl hp hs=>?_⟩
    have X4:=e2 _ _ aD;have fX:l0≠l:=bX X4 hl;refine⟨[V.int 0],by rw[aI fX];exact X4,?_,λp gX=>?_⟩
    ·have:=hp.length_eq;simp;lia
    ·have iE:p≠l:=(bX aD gX).symm;have pA:H2 p=none:=by rw[aI iE] at gX;exact gX
     have hH:H p=none:=(s0.trans e2).free pA;have hHl:H l=none:=(s0.trans e2).free hl;have so:=ac7 hL.1 hL.2 (ns:=gW) (λx hx=>eb x (hp.mem_iff.mp hx)) hs (by rw[hp.length_eq];lia)
     rw[hp.length_eq,show ((ns.length+1:Nat):Int)=m by lia] at so
     exact q p (0::gW) _ (aj.put2 (aj.put2 (s0.trans e2) hHl) hH) hH (by rw[aD];rfl) so
theorem akb(T:Tx K mg A)(aG:bE mg base A.bu A.aZ):a_ P w K mg base bx 1 A.MZ A.M0 ["_law_spec_here", "_law_ring", "_law_beat", "_law_cells"] (afs K):=by
 refine T.W7.ok qG (λvs H Q E h=>?_) (λaP Ar outer s H vs Q E hr h=>?_)
 ·obtain⟨t,z,au,sk,sw,za,bB,ca,sa,r,b,cl,bC,cz,rfl,_⟩:=h
  rfl
 ·obtain⟨t,z,au,sk,sw,za,bB,ca,sa,r,b,cl,bC,cz,rfl,hS,ok,r0,r1,hz,hq,hlen,q⟩:=h;have pk:=ok.pl [];have X5:=pk.sw.len;refine⟨_,(aE (aU (i:=4) qG.nd rfl (Or.inl rfl) (dG ao))
   (aE (dP dj rfl (dX (aa 3)) (kM rfl (dO (bI (i:=5) qG.nd rfl (Or.inl rfl)) (dO (bI (i:=6) qG.nd rfl (Or.inl rfl)) jV)))
   (aE (aU (i:=7) qG.nd rfl (Or.inl rfl) (aF vI (aH bJ (aa 0) ak (λ_ _=>rfl)) (aH qg (aH bJ (aa 0) ak (λ_ _=>rfl)) (aa 5) (λ_ _=>rfl))))
   (aE (aU (i:=8) qG.nd rfl (Or.inl rfl) (aF d_ (aa 2) (aH qg (aH bJ (aa 0) ak (λ_ _=>rfl)) (bY GZ rfl T.AM boot_abs (ah (aF nT (aa 1) (aa 5)) ao)) (λ_ _=>rfl))))
   (aE (aU (i:=9) qG.nd rfl (Or.inl rfl) (aF d_ (aa 8) (aF cR (aF oG (aF d_ (aF l7 (aa 6) (aa 7)) (aF vH (aa 5) (aH bJ (aa 0) ak (λ_ _=>rfl)))) (aa 8)) (aH bJ (aa 0) ak (λ_ _=>rfl)))))
   (aE (aU (i:=1) qG.nd rfl (Or.inl rfl) (aa 5))
   (aE (aU (i:=2) qG.nd rfl (Or.inl rfl) (aF dR (aa 9) (aa 7)))
   (aJ (dm (lN jS mJ mK lO (aa 4) (ah (cL (ah (aa 5) (ah (aa 6) (ah (aa 9) (ah (aa 2) ao))))) ao))))))))))
   (aJ (bF (aa 4))))),?_⟩
  walk_at "rdm";intro l hl;have sl:=aj.put (o:=.lst []) hl;generalize hP:bO z au sk sw [] = P at pk X5 hq q;have e1:P.rc=counts z:=by rw[← hP];rfl
  have e2:P.au=au:=by rw[← hP];rfl
  have e3:P.cy=sk:=by rw[← hP];rfl
  have e4:P.sw=sw:=by rw[← hP];rfl
  rw[← e1] at r1;have iX:=hS.o;have mD:=hS.c;have X6:=hS.s;rw[← e1] at mD;rw[← e2,← e3] at iX;rw[← e4] at X6;clear e1 e2 e3 e4 hP ok hS;refine rl cl (bC.map V.ref) (λi σ H'=>∃x y z w v u ts,σ = [some (.ref t),some (.int (bf P (r,b) (cz.take i)).1),some (.int (bf P (r,b) (cz.take i)).2),some (.ref cl),some (.ref l),x,y,z,w,v]/\aj H H'/\(∀t∈ts,H t=none)/\i<=cz.length/\Zt H' l ts (dZ P (r,b) (cz.take i))/\u=0) (λQ q=>q) (sl.seq hz.sq)
   ⟨none,none,none,none,none,0,[],rfl,sl,(λ_ h=>nomatch h),eF _,Zt.start,rfl⟩ (by rintro i σ H' _ ⟨x,y,z,w,v,u,ts,rfl,hs,_⟩;exact hs.seq hz.sq) ?_ ?_
  ·rintro i x σ H' N hN hx ⟨x0,y0,z0,w0',v0,u0,fz,rfl,hs,nX,hi,h1,_⟩;obtain⟨t',w,rfl,hw,ht⟩:=hz.at hx;have qL:=dB hw;obtain⟨w0,w1,w2,w3⟩:=hq w (get_mem hw);have se:=pk.c w.1.toNat (by lia)
   obtain⟨e0,e1⟩:=kU P (n:=P.rc.length) (cz.take i) (r,b) r0 r1 λq jY=>⟨(hq q (pR jY)).1,(hq q (pR jY)).2.1⟩;have es:bf P (r,b) (cz.take (i+1))=dI P (bf P (r,b) (cz.take i)) w:=by rw[take_succ_get hw,wz]
   have ws:dZ P (r,b) (cz.take (i+1))=dZ P (r,b) (cz.take i)++[qo P (bf P (r,b) (cz.take i)) w]:=by rw[take_succ_get hw,wA]
   rw[es,ws] at hN;have wl:(dZ P (r,b) (cz.take i)).length=i:=by rw[nA,d9];lia
   generalize bf P (r,b) (cz.take i)=st at e0 e1 hN ⊢;generalize dZ P (r,b) (cz.take i)=rows at h1 wl hN ⊢;refine ni (aL.of (hs _ _ ht)) rfl ?_;have k1:=aL.of (K:=K) (hs _ _ iX);have k2:=az.of (K:=K) (hs _ _ mD);have k3:=az.of (K:=K) (hs _ _ X6);walk_at "rdm";have e:(if st.1 - w.1<0 then -(st.1 - w.1) else st.1 - w.1).toNat=(st.1 - w.1).natAbs:=by split <;> lia
   refine⟨_,k1,_,rfl,_,k1,_,rfl,ca,rfl,_,k2,_,gG w0 w1,_,rfl,_,rfl,by lia,by lia,_,k1,_,rfl,sa,rfl,_,k3,_,gG (k:=if st.1 - w.1<0 then -(st.1 - w.1) else st.1 - w.1) (by split <;> lia) (by split <;> lia),?_⟩
   rw[e];walk_at "rdm";have pl:=pk.au;have pn:=pk.n1;refine⟨.inl ⟨by lia,by lia⟩,_,k1,_,rfl,_,rfl,.inl ⟨by lia,by lia⟩,_,k1,_,rfl,_,rfl,by lia,⟨_,az.of h1.l⟩,λt1 n1=>?_⟩
   have en:st.2+P.sw.getD (st.1 - w.1).natAbs 0+(w.2*(P.au / P.rc.getD w.1.toNat 0)+w.1*P.cy - (st.2+P.sw.getD (st.1 - w.1).natAbs 0)) % P.au=rK P st w:=afr P w.1 w.2 _;rw[en];have hn:=h1.n;have e2:=aj.put n1 (o:=.tup [V.int w.1,V.int w.2,V.int (rK P st w),V.int (dI P st w).2]) _ _ h1.l;refine⟨_,e2,by simp;lia,hN _ _ ⟨_,_,_,_,_,_,fz++[t1],rfl,aj.put2 (hs.trans (aj.put n1)) hl,?_,qL,h1.snoc n1 (qo P st w),rfl⟩⟩
   intro t' k_;rcases fM.mp k_ with k_ | k_
   ·exact nX t' k_
   ·rw[gw.mp k_];exact hs.free n1
  ·rintro σ H' ⟨x0,y0,z0,w0',v0,u0,fz,rfl,hs,nX,hi,h1,_⟩;walk_at "rdm";rw[lenZ hz.n,eE] at h1;exact q _ _ _ hs hl nX h1
theorem akc(T:Tx K mg A)(aG:bE mg base A.bu A.aZ):a_ P w K mg base bx 1 A.Nj A.Nk ["_law_one", "_law_other"] (afZ K):=by
 refine T.Xb.ok ahs (λvs H Q E h=>?_) (λaP Ar outer s H vs Q E hr h=>?_)
 ·obtain⟨t,u,k,o,b,cl,bC,b',uA,Ad,rfl,_⟩:=h
  rfl
 ·obtain⟨t,u,k,o,b,cl,bC,b',uA,Ad,rfl,hk,ho,q⟩:=h;refine⟨_,(aE (dw (dz vJ (aH bJ (aa 1) ak (λ_ _=>rfl)) (aH bJ (aa 0) ak (λ_ _=>rfl)) (bM _)) (aJ (bF gb)) b7)
   (aE (dw (dz CH (aH bJ (aa 1) ak (λ_ _=>rfl)) (aH bJ (aa 0) ak (λ_ _=>rfl)) rfl) (aJ (bF gb)) b7)
   (aJ (bF (sZ (GN (aH bJ (aa 0) ak (λ_ _=>rfl)) (p8 (aH bJ (aa 1) ak (λ_ _=>rfl)))) (sZ (iD gO (aH bJ (aa 0) ak (λ_ _=>rfl)) (aF d_ (aH bJ (aa 1) ak (λ_ _=>rfl)) (aH bJ (aa 1) ak (λ_ _=>rfl))) (bM _)) (p8 (iD gO (aH bJ (aa 1) ak (λ_ _=>rfl)) (aF d_ (aH bJ (aa 0) ak (λ_ _=>rfl)) (aH bJ (aa 0) ak (λ_ _=>rfl))) (bM _))))))))),?_⟩
  have k1:=aL.of (K:=K) hk.o;have o1:=aL.of (K:=K) ho.o;walk_at "rdt";unfold keepsK at q;refine⟨_,o1,_,rfl,_,k1,_,rfl,_,rfl,_,rfl,cG (λh1=>?_) λh1=>?_⟩
  ·rw[show decide (o.n<k.n)=false by simpa using h1] at q
   exact q
  rw[show decide (o.n<k.n)=true by simp;lia] at q
  refine⟨_,o1,_,rfl,_,k1,_,rfl,b,rfl,_,.inr (aL.of hk.b),rfl,wD _,?_⟩;rw[qt];refine cG (λh2=>by simpa[h2] using q) λh2=>⟨_,k1,_,rfl,k.w,rfl,?_⟩
  have h2':decide (o.n∈k.bh)=false:=by simpa using h2
  rw[h2'] at q;refine cG (λh3=>?_) λh3=>⟨_,o1,_,rfl,o.w,rfl,cG (λh4=>?_) λh4=>?_⟩
  ·refine⟨_,k1,_,rfl,_,o1,_,rfl,_,o1,_,rfl,_,rfl,_,rfl,_,rfl,cG (λh5=>⟨_,o1,_,rfl,_,k1,_,rfl,_,k1,_,rfl,_,rfl,_,rfl,_,rfl,?_⟩) λh5=>?_⟩
   ·simpa[h3,h5] using q
   ·simpa[h3,h5] using q
  ·refine⟨_,k1,_,rfl,_,o1,_,rfl,_,o1,_,rfl,_,rfl,_,rfl,_,rfl,cG (λh5=>⟨_,o1,_,rfl,_,k1,_,rfl,_,k1,_,rfl,_,rfl,_,rfl,_,rfl,?_⟩) λh5=>?_⟩
   ·simpa[h4,h5] using q
   ·simpa[h4,h5] using q
  ·simpa[h3,h4] using q
theorem OW(T:Tx K mg A)(aG:bE mg base A.bu A.aZ):a_ P w K mg base bx 1 A.Nn A.Np ["_law_found"] afB:=by
 refine T.EH.ok ahu (λvs H Q E h=>?_) (λaP Ar outer s H vs Q E hr h=>?_)
 ·obtain⟨n,rfl,_⟩:=h
  rfl
 ·obtain⟨n,rfl,q⟩:=h;refine⟨_,(aJ (bF (sZ (bY zH rfl T.mz ow (ah (aa 0) (ah (vB (v:=.ty "int") rfl T.xh boot_int rfl) ao))) (p8 (aa7 (bY zH rfl T.mz ow (ah (aa 0) (ah (vB (v:=.ty "bool") rfl T.OD boot_bool rfl) ao)))))))),?_⟩;walk_at "rdm";refine⟨_,.int n,true,by rfl,?_⟩
  rw[if_pos rfl];exact⟨_,.int n,false,by rfl,q⟩
theorem akd(T:Tx K mg A)(aG:bE mg base A.bu A.aZ):a_ P w K mg base bx 1 A.Nq A.Nr ["_law_known_here", "_law_begun"] (agM K):=by
 refine T.Xd.ok ahv (λvs H Q E h=>?_) (λaP Ar outer s H vs Q E hr h=>?_)
 ·obtain⟨kl,b,cM,ks,bg,rfl,_⟩:=h
  rfl
 ·obtain⟨kl,b,cM,ks,bg,rfl,hk,qK,hb,q⟩:=h;refine⟨_,(aJ (bF (gR (N:=["_law_one", "_law_begun"]) (nt:=1) (fv:=[1]) (cN.of rfl rfl (by rfl) (by rfl) (by repeat (first | exact trivial | refine⟨rfl,?_⟩)) (by rfl) (by rfl) (by rfl) (by decide) (by decide +kernel)) rfl (dX (aa 0)) (λC s H fp=>(bI (i:=0) (show List.Nodup (["_law_one", "_law_begun"]:List Str) by decide +kernel) rfl (Or.inl rfl))) (λC s H fp=>(oK (dz (TU (K:=K) rfl) (aH (l8 (K:=K) rfl) (aa 0) ak (λ_ _=>rfl)) (aa 1) rfl))) (λC s H fp=>(aa 0))))),?_⟩
  walk_at "rdt";have gv:=hk.n;refine je kl (cM.map V.ref) (λD i ys aC H2=>∃(u:Option V) (ts:List Addr),ys=ts.map V.ref/\aC = [u,some (.ref b)]/\H2 D=some (.lst ys)/\aj H H2/\H D=none/\l6 H ts (rW (ks.take i) bg)) (λQ q=>q) hk.sq ?_ ?_ ?_ ?_
  ·intro D hD;exact⟨none,[],rfl,rfl,aD,aj.put hD,hD,l6.nil⟩
  ·rintro D i ys aC H2 ⟨u,ts,rfl,rfl,e1,e2,e3,e4⟩;refine⟨e1,gh ?_,(hk.same e2).sq⟩;have:=lA (λk:Kn => !decide (k.n∈bg)) (ks.take i);rw[d9] at this;have e5:=e4.n;unfold rW at e5;rw[aR];lia
  ·rintro D i x ys aC H2 N hN hx ⟨u,ts,rfl,rfl,e1,e2,e3,e4⟩;obtain⟨t,ht,rfl⟩:=e8 hx;have hi:i<ks.length:=by rw[← gv];exact dB ht
   obtain⟨b2,cl,bC,hK⟩:=hk.t i t ks[i] ht (aX hi);have et:=wV (p:=λk:Kn => !decide (k.n∈bg)) (aX hi);walk_at "rdt";refine⟨_,aL.of (e2 _ _ hK.o),_,rfl,_,.inr (aL.of (e2 _ _ hb)),rfl,wD _,cG (λh1=>?_) λh1=>?_⟩
   ·rw[qt] at h1;refine⟨e1,hN _ _ _ ⟨_,ts++[t],by simp,rfl,aD,aj.put2 e2 e3,e3,?_⟩⟩
    unfold rW at e4 ⊢;rw[et,if_pos (by simpa using h1)]
    exact e4.snoc ⟨_,_,_,hK⟩
   ·rw[qt] at h1;refine hN _ _ _ ⟨_,ts,rfl,rfl,e1,e2,e3,?_⟩;unfold rW at e4 ⊢;rw[et,if_neg (by simpa using h1),mF]
    exact e4
  ·rintro D ys aC H2 ⟨u,ts,rfl,rfl,e1,e2,e3,e4⟩;rw[aR,gv,eE] at e4;exact q D ts H2 e2 e3 ((e4.same e2).Ac e1)
theorem ake(T:Tx K mg A)(aG:bE mg base A.bu A.aZ):a_ P w K mg base bx 2 A.Lb A.Lc ["behind"] (adE K):=by
 have qM:=OR (P:=P) (w:=w) (base:=base) T aG;refine T.V_.ok Ea (λvs H Q E h=>?_) (λaP Ar outer s H vs Q E hr h=>?_)
 ·obtain⟨b,ns,rfl,_⟩:=h
  rfl
 ·obtain⟨b,ns,rfl,hS,hR,q⟩:=h;refine⟨_,(aE (aU (i:=1) Ea.nd rfl (Or.inl rfl) (tM tO ak))
   (aJ (dP dj rfl (GQ (aa 0)) (bI (i:=2) Ea.nd rfl (Or.inl rfl))
   (aE (dm (aY qM (hr.mono (by first | decide | lia)) rfl T.uQ T.r9.kp T.uP .nil aQ (ah (aa 2) (ah (aF dR (aa 1) ak) (ah (gU (v:=.int 99) rfl T.ajD ⟨_,rfl⟩) (ah lG ao))))))
   (aJ (aU (i:=1) Ea.nd rfl (Or.inl rfl) (aa 2))))))),?_⟩
  walk_at "rdm";refine rt b (ns.map V.int) (λi σ H'=>∃x,σ = [some (.ref b),some (.int (zP (-1) ns i)),x]/\H' = H) (λQ q=>q) hS ⟨none,rfl,rfl⟩ (by rintro i σ H' _ ⟨x,rfl,rfl⟩;exact hS) ?_ ?_
  ·rintro i x σ H' N hN hx ⟨x0,rfl,rfl⟩;obtain⟨n,hn,rfl⟩:=e8 hx;have st:=hR.step hn;walk_at "rdm";exact⟨n,_,99,_,rfl,st.1,st.2,hN _ _ ⟨some (.int n),by rw[adC hn],rfl⟩⟩
  ·rintro σ H' ⟨x0,rfl,rfl⟩;walk_at "rdm";exact q
theorem akf(T:Tx K mg A)(aG:bE mg base A.bu A.aZ):a_ P w K mg base bx 2 A.Lu A.Lv ["heap", "thing"] agf:=by
 have X7:=ajZ (P:=P) (w:=w) (base:=base) T aG;refine T.Wm.ok As (λvs H Q E h=>?_) (λaP Ar outer s H vs Q E hr h=>?_)
 ·obtain⟨l,a,t,zs,rfl,_⟩:=h
  rfl
 ·obtain⟨l,a,t,zs,rfl,hl,ha,h0,hd,q⟩:=h;have mC:_+16<cLine:=pT (qR (by decide:16<=64) _) hr.units
  refine⟨_,(aE (aU (i:=2) As.nd rfl (Or.inl rfl) ak)
   (aE (aU (i:=3) As.nd rfl (Or.inl rfl) (aY X7 (hr.mono (by first | decide | lia)) rfl T.Wl T.NP.kp T.Wk .nil aQ (ah (aa 0) (ah (aa 2) ao))))
   (aE (Cn dj (PW.pt (yh (eO gO (aa 3) (bY fL rfl T.eK eT (ah (aa 0) ao)) (bM _)) (yg (dz (Jc mC) (aH bT (aa 0) (aa 3) (λ_ _=>rfl)) (aa 1) (bM _)))))
   (aE (tD (aH bT (aa 0) (aa 3) (λ_ _=>rfl)) (yw (aa 0) (aa 2) set_list))
   (aE (aU (i:=2) As.nd rfl (Or.inl rfl) (aa 3))
   (aJ (aU (i:=3) As.nd rfl (Or.inl rfl) (aY X7 (hr.mono (by first | decide | lia)) rfl T.Wl T.NP.kp T.Wk .nil aQ (ah (aa 0) (ah (aa 2) ao))))))))
   (aJ (tD (aa 1) (yw (aa 0) (aa 2) set_list)))))),?_⟩
  walk_at "rdm";refine⟨l,zs,0,rfl,hl,by lia,?_⟩
  refine⟨λm σ H'=>∃(k:Nat) (ys:Ms),σ = [some (.ref l),some (.ref a),some (.int (k:Int)),some (.int ((g9 ys k:Nat):Int))]/\H' = upd H l (.lst (mV ys))/\m+k=ys.length/\k<ys.length/\ys.length=zs.length/\iK H ys/\Down gq ys.length k (fm ys) (a,t)/\(ys.eraseIdx k).Perm (zs.eraseIdx 0),⟨zs.length,0,zs,rfl,(adw hl.l).symm,rfl,h0,rfl,hl.z,hd,.refl _⟩,?_⟩;rintro m σ H' ⟨k,ys,rfl,rfl,hm,hk,hy,hZ,dn,pe⟩;walk_at "rdm";have L:=agc ys k;have Lg:=agd ys k;have ln:=hl.n;refine⟨_,.inl (az.of aD),cG (λh1=>?_) (λh1=>?_)⟩
  ·rw[jo] at h1;have hc:g9 ys k<ys.length:=by lia
   have g1:=fT.get (zs:=ys) hc;refine⟨_,az.of aD,_,g1,_,rfl,_,(hZ _ (cO hc)).fJ hl.l,_,ha.fJ hl.l,cG (λh4=>?_) (λh4=>?_)⟩
   ·refine⟨_,λ_ _ h=>h,_,az.of aD,_,g1,_,by rw[jo];exact wC hk,?_⟩
    rw[wW];have Z2:=VG (k:=k) hZ (hZ _ (cO hc));refine⟨l,ys.set k ys[g9 ys k],g9 ys k,rfl,hl.set Z2 (by rw[mG];lia),by lia,ys.length - g9 ys k,by lia,g9 ys k,ys.set k ys[g9 ys k],rfl,rfl,?_⟩
    rw[mG,wX hk];refine⟨by lia,hc,hy,Z2,?_,(Tu hk hc (by lia)).trans pe⟩
    have:=dn.step uG L hc (by rw[iW hc];exact h4)
    rw[iW hc] at this;exact this
   ·skip
    refine⟨_,by rw[jo];exact wC hk,?_⟩
    rw[show (mV ys).set k (V.ref a)=mV (ys.set k (a,t)) from wW ys k (a,t)];refine q _ ((wB hk (a,t)).trans (pe.cons _)) ?_;rw[mG,wX hk];exact dn.done uG L (λz=>h4 (by have:=z.2;rw[iW hc] at this;exact this))
  ·rw[jo] at h1;refine⟨_,by rw[jo];exact wC hk,?_⟩
   rw[show (mV ys).set k (V.ref a)=mV (ys.set k (a,t)) from wW ys k (a,t)];refine q _ ((wB hk (a,t)).trans (pe.cons _)) ?_;rw[mG,wX hk];exact dn.done uG L (λz=>h1 (by have:=z.1;lia))
theorem akg(T:Tx K mg A)(aG:bE mg base A.bu A.aZ):a_ P w K mg base bx 2 A.Lw A.Lx ["plate", "ask"] (afx K [A.bG,A.br] A.bU):=by
 have OX:=XY (P:=P) (w:=w) (base:=base) T aG;refine T.Wn.ok ag6 (λvs H Q E h=>?_) (λaP Ar outer s H vs Q E hr h=>?_)
 ·obtain⟨C,p,ap,P,fp,q',m,b,dx,rfl,_⟩:=h
  rfl
 ·obtain⟨C,p,ap,P,fp,q',m,b,dx,rfl,hC,hP,ha,hf,hn,q⟩:=h;refine⟨_,(aJ (bF (gR (N:=["number", "plate"]) (nt:=1) (fv:=[0]) (cN.of rfl rfl (by rfl) (by rfl) (by repeat (first | exact trivial | refine⟨rfl,?_⟩)) (by rfl) (by rfl) (by rfl) (by decide) (by decide +kernel)) rfl (tG rfl T.fZ (ah (cC (aa 1) rfl) (ah (aF dR (cC (aa 1) rfl) (cC (aa 1) rfl)) ao))) (λC s H fp=>(bI (i:=0) (show List.Nodup (["number", "plate"]:List Str) by decide +kernel) rfl (Or.inl rfl))) (λC s H fp=>jd) (λC s H fp=>(nq (aa 1) T.XN OX (hr.mono (by first | decide | lia)) T.WV .nil aQ (ah (aa 0) ao)))))),?_⟩
  wp_walk using T,ha.o;obtain⟨f0,m0,m1,fit⟩:=hf;refine Tc q'.first (q'.first+q'.many) (λD i ys aC H2=>∃(u:Option V) (ts:List Addr),aC = [u,some (.ref p)]/\ys=ts.map V.ref/\Zn H2 D ts ((P.nc.drop q'.first.toNat).take i)/\aj H H2/\H D=none/\i<=16) (λQ q=>?_) (by lia) (by lia) (by lia) (by lia) ?_ ?_ ?_ ?_
  ·wp_walk using T,ha.o
   try exact q
  ·intro D hD;exact⟨none,[],rfl,rfl,by rw[List.take_zero];exact Zn.start,aj.put hD,hD,by lia⟩
  ·rintro D i ys aC H2 ⟨u,ts,rfl,rfl,g2,g3,g4,g5⟩;exact⟨g2.l,gh (by rw[aR,g2.n,d9];lia)⟩
  ·rintro D i ys aC H2 N hN hi ⟨u,ts,rfl,rfl,g2,g3,g4,g5⟩;walk_at "rdm";obtain⟨lg,a1,a2,a3,a4,fz,fs,qN,hA⟩:=hP.same g3;refine⟨C,lg,fs,hA.o,hC,hA.m9,⟨C,p,P,fp,_,rfl,hP.same g3,by lia,by lia,λt q0 eq ht=>⟨g2.l,hN _ _ _ ⟨_,ts++[t],rfl,by rw[bZ];rfl,?_,aj.put2 g3 g4,g4,by lia⟩⟩⟩⟩
   rw[IT f0 eq];exact g2.push ht
  ·rintro D ys aC H2 ⟨u,ts,rfl,rfl,g2,g3,g4,g5⟩;rw[show (q'.first+q'.many - q'.first).toNat=q'.many.toNat by lia] at g2
   exact q _ _ _ g3 g4 g2
theorem akh(T:Tx K mg A)(aG:bE mg base A.bu A.aZ):a_ P w K mg base (jJ P w base) 2 A.LL A.LM ["dues"] (agS K A.bU A.cj A.b8):=by
 have aki:=aj0 (P:=P) (w:=w) (base:=base) T aG;refine T.NR.T8 aha (λvs H Q E h=>?_) (λaP Ar outer s H vs Q E hr h=>?_)
 ·obtain⟨l,ps,ds,rfl,_⟩:=h
  rfl
 ·obtain⟨l,ps,ds,rfl,hd,q1,q2⟩:=h;refine⟨_,(aJ (dw (jU (iA (aY aki (hr.mono (by first | decide | lia)) rfl T.ahV T.Wv.kp T.ahU .nil aQ (ah (aa 0) ao)))) (aJ (adX ad3 rfl T.XI T.EJ PySem.F.excBase_ValueError rfl (ah lG ao))) b7)),?_⟩
  walk_at "rdm";exact⟨l,ps,ds,rfl,hd,_,rfl,cG (λh=>q2 (by simpa using h)) λh=>q1 (by simpa using h)⟩
theorem akj(T:Tx K mg A)(aG:bE mg base A.bu A.aZ):a_ P w K mg base bx 2 A.LN A.LO ["due", "other"] (afX K A.bU A.cj):=by
 have akk:=ajX (P:=P) (w:=w) (base:=base) T aG;refine T.Wy.ok ahb (λvs H Q E h=>?_) (λaP Ar outer s H vs Q E hr h=>?_)
 ·obtain⟨p,r,d,o,dx,ap,l,ts,m,b,b_,nj,Ae,l',fz,m',b',Af,rfl,_⟩:=h
  rfl
 ·obtain⟨p,r,d,o,dx,ap,l,ts,m,b,b_,nj,Ae,l',fz,m',b',Af,rfl,hd,ho,q⟩:=h;refine⟨_,(aJ (bF (sZ (iD jX (cC (aa 0) rfl) (cC (aa 1) rfl) (bM _)) (p8 (GN (iD CH (cC (aa 1) rfl) (cC (cC (aa 0) rfl) rfl) rfl) (p8 (aY akk (hr.mono (by first | decide | lia)) rfl T.ahG T.Wg.kp T.ahF .nil aQ (ah (cC (aa 0) rfl) (ah (cC (aa 1) rfl) ao))))))))),?_⟩
  have eB:=hd.o;have oY:=ho.o;have X8:=hd.a.o;unfold o8 at eB oY;unfold qq at X8;wp_walk using T,eB,oY,X8;unfold o_ at q;refine cG (λh1=>⟨_,.inr (aL.of hd.a.bh),rfl,wD _,?_⟩) λh1=>?_
  ·rw[qt];rw[show decide (o.n<d.n)=true by simpa using h1] at q
   refine cG (λh2=>?_) λh2=>⟨_,_,_,_,_,_,_,_,_,_,rfl,hd.a,ho.a,?_⟩
   ·simpa[h2] using q
   ·simpa[h2] using q
  ·rw[show decide (o.n<d.n)=false by simpa using h1] at q
   exact q
theorem akl(T:Tx K mg A)(aG:bE mg base A.bu A.aZ):a_ P w K mg base bx 2 A.LV A.LW ["dues", "kept", "begun"] (agC K A.bU A.cj):=by
 have OY:=XS (P:=P) (w:=w) (base:=base) T aG;refine T.WD.ok V2 (λvs H Q E h=>?_) (λaP Ar outer s H vs Q E hr h=>?_)
 ·obtain⟨l,kd,b,ps,ds,aA,bg,H0,rfl,_⟩:=h
  rfl
 ·obtain⟨l,kd,b,ps,ds,aA,bg,H0,rfl,s0,hd,qK,hk,hb,q⟩:=h;have hu:=qj hr;refine⟨_,(aE (aU (i:=3) V2.nd rfl (Or.inl rfl) (aY OY (hr.mono (by first | decide | lia)) rfl T.WC T.NT.kp T.WB .nil aQ (ah (aa 0) (ah (aa 2) ao))))
   (aJ (bF (gR (N:=["due", "begun", "kept"]) (nt:=1) (fv:=[2,1]) (cN.of rfl rfl (by rfl) (by rfl) (by repeat (first | exact trivial | refine⟨rfl,?_⟩)) (by rfl) (by rfl) (by rfl) (by decide) (by decide +kernel)) rfl (dX (aa 3)) (λC s H fp=>(bI (i:=0) (show List.Nodup (["due", "begun", "kept"]:List Str) by decide +kernel) rfl (Or.inl rfl))) (λC s H fp=>(oK (iA (bY (agz (K:=K) rfl rfl) rfl T.OC boot_all (ah (gR (N:=["other", "begun"]) (nt:=1) (fv:=[1]) (cN.of rfl rfl (by rfl) (by rfl) (by repeat (first | exact trivial | refine⟨rfl,?_⟩)) (by rfl) (by rfl) (by rfl) (by decide) (by decide +kernel)) rfl (Vu (K:=K) rfl (ach hu (aa 2) (D_ (K:=K) rfl (aa 0) rfl) (λ_ _=>rfl))) (λC s H fp=>(bI (i:=0) (show List.Nodup (["other", "begun"]:List Str) by decide +kernel) rfl (Or.inl rfl))) (λC s H fp=>jd) (λC s H fp=>(iD (adL (K:=K) rfl) (aa 0) (aa 1) rfl))) ao))))) (λC s H fp=>(aa 0)))))),?_⟩
  walk_at "rdt";refine⟨l,b,ps,ds,bg,H0,rfl,s0,hd,qK,hb,λL pl H1 s1 nL hL hl=>?_⟩;have OZ:=s0.trans s1;have X_:=hl.n;have ll:(bV ds bg).length<=100:=cX (lA _ _) qK;walk_at "rdt";refine je L (pl.map V.ref) (λD i ys aC H2=>∃(u:Option V) (eW:List Addr),ys=eW.map V.ref/\aC = [u,some (.ref b),some (.ref kd)]/\H2 D=some (.lst ys)/\aj H1 H2/\H1 D=none/\jr K A.bU A.cj H0 eW (((bV ds bg).take i).filter λd=>(nQ ds d).all λo=>decide (o∈bg))) (λQ q=>q) (az.of hL) ?_ ?_ ?_ ?_
  ·intro D hD;exact⟨none,[],rfl,rfl,aD,aj.put hD,hD,jr.nil⟩
  ·rintro D i ys aC H2 ⟨u,eW,rfl,rfl,e1,e2,e3,e4⟩;refine⟨e1,gh ?_,az.of (e2 _ _ hL)⟩;have:=lA (λd:Dr=>(nQ ds d).all λo=>decide (o∈bg)) ((bV ds bg).take i);rw[d9] at this;have e5:=e4.n;rw[aR];lia
  ·rintro D i x ys aC H2 N hN hx ⟨u,eW,rfl,rfl,e1,e2,e3,e4⟩;obtain⟨dp,kC,rfl⟩:=e8 hx;have hi:i<(bV ds bg).length:=by rw[← X_];exact dB kC
   obtain⟨dx,ap,la,ts,m,b',b_,hD⟩:=hl.t i dp (bV ds bg)[i] kC (aX hi);have eB:=e2 _ _ (OZ _ _ hD.o);unfold o8 at eB;have et:=wV (p:=λd:Dr=>(nQ ds d).all λo=>decide (o∈bg)) (aX hi);have hmd:=(wY.mp (cO hi)).1;obtain⟨j,hj,ej⟩:=mH.mp hmd;obtain⟨li,v1,v2,v3⟩:=hk.v j _ (by rw[aX hj,ej])
   generalize (bV ds bg)[i] = d at *
   wp_walk using T,eB;have kD:=e2 _ _ (OZ _ _ hk.d);have Yb:=e2 _ _ (OZ _ _ v3);refine je li ((nQ ds d).map V.int) (λD2 j zs fc H3=>∃(u:Option V),zs=(((nQ ds d).take j).map λo=>decide (o∈bg)).map V.bl/\fc = [u,some (.ref b)]/\H3 D2=some (.lst zs)/\aj H2 H3/\H2 D2=none) (λQ q=>?_) (az.of Yb) ?_ ?_ ?_ ?_
   ·wp_walk using T,eB;have hg:=gf.k (k:=uE d.n) kD;rw[v1] at hg;exact⟨_,hg,q⟩
   ·intro D2 kE;exact⟨none,rfl,rfl,aD,aj.put kE,kE⟩
   ·rintro D2 j zs fc H3 ⟨u,rfl,rfl,f1,f2,f3⟩;refine⟨f1,gh ?_,az.of (f2 _ _ Yb)⟩;have:(nQ ds d).length<=ds.length:=by unfold nQ;rw[List.length_map];exact List.length_filter_le _ _
    simp only[List.length_map,List.length_take];lia
   ·rintro D2 j x zs fc H3 N3 hN3 hx3 ⟨u,rfl,rfl,f1,f2,f3⟩;obtain⟨o,ho,rfl⟩:=e8 hx3;walk_at "rdt";refine⟨_,.inr (aL.of (f2 _ _ (e2 _ _ (s1 _ _ hb)))),rfl,wD _,f1,hN3 _ _ _ ⟨_,?_,rfl,aD,aj.put2 f2 f3,f3⟩⟩;rw[take_succ_get ho,bZ,bZ,qt];rfl
   ·rintro D2 zs fc H3 ⟨u,rfl,rfl,f1,f2,f3⟩;rw[aR,eE] at f1;refine⟨D2,rfl,_,az.of f1,cG (λh1=>?_) λh1=>?_⟩
    ·refine⟨f2 _ _ e1,hN _ _ _ ⟨_,eW++[dp],by simp,rfl,aD,aj.put2 (e2.trans f2) e3,e3,?_⟩⟩
     rw[et,if_pos (by rw[List.all_map] at h1;exact h1)]
     exact e4.snoc ⟨_,_,_,_,_,_,_,hD⟩
    ·refine hN _ _ _ ⟨_,eW,rfl,rfl,f2 _ _ e1,e2.trans f2,e3,?_⟩;rw[et,if_neg (by rw[List.all_map] at h1;exact h1),mF]
     exact e4
  ·rintro D ys aC H2 ⟨u,eW,rfl,rfl,e1,e2,e3,e4⟩;rw[aR,X_,eE] at e4;exact q D eW H2 (s1.trans e2) (s1.free e3) e1 e4
theorem akm(T:Tx K mg A)(aG:bE mg base A.bu A.aZ):a_ P w K mg base bx 2 A.LX A.LY ["plate", "due"] (afC K [A.bG,A.br] A.bU A.cj):=by
 have AU:=OU (P:=P) (w:=w) (base:=base) T aG;refine T.WE.ok ahd (λvs H Q E h=>?_) (λaP Ar outer s H vs Q E hr h=>?_)
 ·obtain⟨C,p,dp,P,fp,d,dx,ap,l,ts,m,b,b_,rfl,_⟩:=h
  rfl
 ·obtain⟨C,p,dp,P,fp,d,dx,ap,l,ts,m,b,b_,rfl,hC,hP,ok,hd,ci,n1,q⟩:=h;refine⟨_,(aJ (bF (bY (HE rfl) rfl T.AQ boot_sum (ah (gR (N:=["ring", "place", "plate"]) (nt:=2) (fv:=[0]) (cN.of rfl rfl (by rfl) (by rfl) (by repeat (first | exact trivial | refine⟨rfl,?_⟩)) (by rfl) (by rfl) (by rfl) (by decide) (by decide +kernel)) rfl (dX (cC (aa 1) rfl)) (λC s H fp=>(Ti (K:=K) (n:=2) rfl rfl (dO (bI (i:=0) (show List.Nodup (["ring", "place", "plate"]:List Str) by decide +kernel) rfl (Or.inl rfl)) (dO (bI (i:=1) (show List.Nodup (["ring", "place", "plate"]:List Str) by decide +kernel) rfl (Or.inl rfl)) jV)))) (λC s H fp=>jd) (λC s H fp=>(nq (aa 2) T.OQ AU (hr.mono (by first | decide | lia)) T.N_ .nil aQ (ah (aa 0) ao)))) ao)))),?_⟩
  have eB:=hd.o;unfold o8 at eB;wp_walk using T,eB;have hz:=hd.c;refine je l (ts.map V.ref) (λD i ys aC H2=>∃(u v:Option V),ys=((d.c.take i).map λq=>P.au / P.rc.getD q.1.toNat 0).map V.int/\aC = [u,v,some (.ref p)]/\H2 D=some (.lst ys)/\aj H H2/\H D=none) (λQ q=>?_) hz.sq ?_ ?_ ?_ ?_
  ·wp_walk using T,eB
   try exact q
  ·intro D hD;exact⟨none,none,rfl,rfl,aD,aj.put hD,hD⟩
  ·rintro D i ys aC H2 ⟨u,v,rfl,rfl,e1,e2,e3⟩;exact⟨e1,gh (by rw[aR,aR,d9];lia),(hz.same e2).sq⟩
  ·rintro D i x ys aC H2 N hN hx ⟨u,v,rfl,rfl,e1,e2,e3⟩;obtain⟨t,w,rfl,hw,ht⟩:=(hz.same e2).at hx;obtain⟨w0,w1,w2,w3⟩:=ci w (get_mem hw);have se:=ok.c w.1.toNat (by lia)
   refine ni (aL.of ht) rfl ?_;walk_at "rdm";obtain⟨lg,a1,a2,a3,a4,fz,fs,qN,hA⟩:=hP.same e2;refine⟨C,lg,fs,hA.o,hC,hA.m4,⟨C,p,P,fp,_,rfl,hP.same e2,w0,w1,se.1,se.2,e1,hN _ _ _ ⟨_,_,?_,rfl,aD,aj.put2 e2 e3,e3⟩⟩⟩;rw[take_succ_get hw,bZ,bZ];rfl
  ·rintro D ys aC H2 ⟨u,v,rfl,rfl,e1,e2,e3⟩;rw[lenZ hz.n,eE] at e1;exact⟨D,rfl,_,az.of e1,q H2 e2⟩
theorem akn(T:Tx K mg A)(aG:bE mg base A.bu A.aZ):a_ P w K mg base bx 2 A.Mg A.Mh ["swing", "rings"] (acS K):=by
 have ako:=aj3 (P:=P) (w:=w) (base:=base) T aG;refine T.WL.ok V5 (λvs H Q E h=>?_) (λaP Ar outer s H vs Q E hr h=>?_)
 ·obtain⟨a,sw,n,rfl,_⟩:=h
  rfl
 ·obtain⟨a,sw,n,rfl,hS,ok,hn,q⟩:=h;refine⟨_,(aE (cI (jO (eO Jj (bY fL rfl T.eK eT (ah (aa 0) ao)) (aa 1) (bM _)) iC b7))
   (aE (cI (dw (dz yI (aH bT (aa 0) ak (λ_ _=>rfl)) ak (bM _)) iC b7))
   (aE (cI (dP dj rfl (tG rfl T.fZ (ah ak (ah (aa 1) ao))) (bI (i:=2) V5.nd rfl (Or.inl rfl))
   (aE (cI (dw (PW.pt (iB (dz gO (aH bT (aa 0) (aa 2) (λ_ _=>rfl)) ak (bM _)) (iQ (dz jX (aH bT (aa 0) (aa 2) (λ_ _=>rfl)) (gU (v:=.int 1000000000) rfl T.XH ⟨_,rfl⟩) (bM _))))) iC b7))
   (aJ (dw (dz gO (aH bT (aa 0) (aa 2) (λ_ _=>rfl)) (aH bT (aa 0) (aF nT (aa 2) ak) (λ_ _=>rfl)) (bM _)) iC b7)))))
   (aJ (dm (aY ako (hr.mono (by first | decide | lia)) rfl T.aia T.WM.kp T.ah_ .nil aQ (ah (aa 0) ao))))))),?_⟩
  have hl:=ok.len;have h2:=ok.two;refine cJ λNa ka=>?_;walk_at "rdm";refine⟨_,.inl hS,by simpa using hl,ka _ _ ?_⟩
  refine cJ λNb kb=>?_;walk_at "rdm";refine⟨_,hS,_,gG (by lia) (by lia),rfl,by rw[show (0:Int).toNat=0 from rfl,ok.z],kb _ _ ?_⟩
  refine cJ λNc kc=>?_;refine wm 1 n (λi σ H'=>∃r,σ = [some (.ref a),some (.int n),r]/\H' = H) (λQ q=>?_) (by lia) (by lia) (by lia) (by lia) ⟨none,rfl,rfl⟩ ?_ ?_
  ·walk_at "rdm";exact q
  ·rintro i σ H' N hN hi ⟨r,rfl,rfl⟩;have e1:((1:Int)+(i:Int)).toNat=1+i:=by lia
   have e2:((1:Int)+(i:Int) - 1).toNat=1+i - 1:=by lia
   have g:=ok.pos (1+i) (by lia) (by lia)
   have g2:=ok.up (1+i) (by lia) (by lia)
   refine cJ λNd kd=>?_;walk_at "rdm";refine⟨_,hS,_,gG (by lia) (by lia),?_⟩
   walk_at "rdm";rw[e1];refine⟨by lia,_,hS,_,gG (by lia) (by lia),?_⟩
   walk_at "rdm";rw[e1];refine⟨by lia,kd _ _ ?_⟩
   walk_at "rdm";refine⟨_,hS,_,gG (by lia) (by lia),_,hS,_,gG (by lia) (by lia),?_⟩
   walk_at "rdm";rw[e1,e2];exact⟨by lia,hN _ _ ⟨_,rfl,rfl⟩⟩
  ·rintro σ H' ⟨r,rfl,rfl⟩;refine kc _ _ ?_;walk_at "rdm";exact⟨a,sw,n,rfl,hS,ok,hn,q⟩
theorem akp(T:Tx K mg A)(aG:bE mg base A.bu A.aZ):a_ P w K mg base bx 2 A.AF A.My ["self", "ring", "place"] (ac3 K [A.bG,A.br]):=by
 have AU:=OU (P:=P) (w:=w) (base:=base) T aG;refine T.ais.ok ahj (λvs H Q E h=>?_) (λaP Ar outer s H vs Q E hr h=>?_)
 ·obtain⟨C,p,P,fp,r,c,rfl,_⟩:=h
  rfl
 ·obtain⟨C,p,P,fp,r,c,rfl,hC,hP,h0,h1,h2,h3,h4,h5,h6,h7,q⟩:=h;obtain⟨dx,a1,a2,a3,a4,ts,fs,qN,h⟩:=id hP;refine⟨_,(aJ (bF (aF cR (aF d_ (aF vH (aa 2) (nq (aa 0) T.OQ AU (hr.mono (by first | decide | lia)) T.N_ .nil aQ (ah (aa 1) ao))) (aF l7 (aa 1) (cC (aa 0) rfl))) (cC (aa 0) rfl)))),?_⟩
  wp_walk using h.o,h.f1,h.f2,h.f3,h.f4,h.f5,h.f6,h.m1,h.m2,h.m3,h.m4,h.m5,h.m6,h.m7,h.m8,h.m9,h.gI,h.gZ,h.cp.cl,h.cp.n1,h.cp.n2,h.cp.n3,h.cp.n4,h.cp.n5,h.cp.n6;refine⟨hC,C,p,P,fp,r,rfl,hP,h0,h1,h3,h4,?_⟩;wp_walk using h.o,h.f1,h.f2,h.f3,h.f4,h.f5,h.f6,h.m1,h.m2,h.m3,h.m4,h.m5,h.m6,h.m7,h.m8,h.m9,h.gI,h.gZ,h.cp.cl,h.cp.n1,h.cp.n2,h.cp.n3,h.cp.n4,h.cp.n5,h.cp.n6;exact⟨.inl ⟨by lia,by lia⟩,.inl ⟨by lia,by lia⟩,h7,q⟩
theorem akq(T:Tx K mg A)(aG:bE mg base A.bu A.aZ):a_ P w K mg base bx 2 A.AJ A.MC ["self", "ring", "place"] (ac6 K [A.bG,A.br]):=by
 have O0:=XX (P:=P) (w:=w) (base:=base) T aG;refine T.aiG.ok ahn (λvs H Q E h=>?_) (λaP Ar outer s H vs Q E hr h=>?_)
 ·obtain⟨C,p,P,fp,r,c,rfl,_⟩:=h
  rfl
 ·obtain⟨C,p,P,fp,r,c,rfl,hC,hP,h0,h1,h2,h3,q⟩:=h;obtain⟨dx,a1,a2,a3,a4,ts,fs,qN,h⟩:=id hP;have hu:=qj hr;refine⟨_,(aE (dw (jU (iA (nq (aa 0) T.XM O0 (hr.mono (by first | decide | lia)) T.WU .nil aQ (ah (aa 1) (ah (aa 2) ao))))) iC b7)
   (aJ (bF (acp hu (cC (aa 0) rfl) (cL (ah (aa 1) (ah (aa 2) ao))) ⟨rfl,rfl,rfl,rfl⟩)))),?_⟩
  wp_walk using h.o,h.f1,h.f2,h.f3,h.f4,h.f5,h.f6,h.m1,h.m2,h.m3,h.m4,h.m5,h.m6,h.m7,h.m8,h.m9,h.gI,h.gZ,h.cp.cl,h.cp.n1,h.cp.n2,h.cp.n3,h.cp.n4,h.cp.n5,h.cp.n6;refine⟨hC,C,p,P,fp,r,c,rfl,hP,?_⟩;rw[kJ ⟨h0,h1,h2,h3⟩];wp_walk using h.o,h.f1,h.f2,h.f3,h.f4,h.f5,h.f6,h.m1,h.m2,h.m3,h.m4,h.m5,h.m6,h.m7,h.m8,h.m9,h.gI,h.gZ,h.cp.cl,h.cp.n1,h.cp.n2,h.cp.n3,h.cp.n4,h.cp.n5,h.cp.n6;refine⟨by simp,.inr ⟨_,.inl h.cn⟩,λt nt=>⟨_,gf.t (k:=kT (r,c)) (aj.put nt _ _ h.cn) aD,q _ (aj.put nt)⟩⟩
theorem akr(T:Tx K mg A)(aG:bE mg base A.bu A.aZ):a_ P w K mg base bx 2 A.MF A.MG ["plate", "bad"] (ade K [A.bG,A.br]):=by
 have O0:=XX (P:=P) (w:=w) (base:=base) T aG;refine T.WY.ok Ef (λvs H Q E h=>?_) (λaP Ar outer s H vs Q E hr h=>?_)
 ·obtain⟨C,p,ba,P,fp,j8,bz,rfl,_⟩:=h
  rfl
 ·obtain⟨C,p,ba,P,fp,j8,bz,rfl,hC,hP,hz,hlen,nd,hv,q⟩:=h;have hu:=qj hr;refine⟨_,(aE (aU (i:=2) Ef.nd rfl (Or.inl rfl) Hs)
   (aE (dP dj rfl (dX (aa 1)) (kM rfl (dO (bI (i:=3) Ef.nd rfl (Or.inl rfl)) (dO (bI (i:=4) Ef.nd rfl (Or.inl rfl)) jV)))
   (aE (dw (PW.pt (iB (jU (iA (nq (aa 0) T.XM O0 (hr.mono (by first | decide | lia)) T.WU .nil aQ (ah (aa 3) (ah (aa 4) ao))))) (iQ (GL (SS hu (cL (ah (aa 3) (ah (aa 4) ao))) (aa 2)))))) iC b7)
   (aJ (zw hu (aa 2) (cL (ah (aa 3) (ah (aa 4) ao))) gb rfl))))
   (aJ (bF (aa 2))))),?_⟩
  walk_at "rdm";refine λd hd=>?_;refine rl ba (j8.map V.ref) (λi σ H'=>∃r c,σ = [some (.ref p),some (.ref ba),some (.ref d),r,c]/\aj H H'/\i<=bz.length/\H' d=some (.dT (cS (bz.take i)))) (λQ q=>q) (aj.put hd |>.seq hz.sq)
   ⟨none,none,rfl,aj.put hd,eF _,aD⟩ (by rintro i σ H' _ ⟨r,c,rfl,hs,_⟩;exact hs.seq hz.sq) ?_ ?_
  ·rintro i x σ H' N hN hx ⟨r,c,rfl,hs,hi,h1⟩;obtain⟨t,w,rfl,hw,ht⟩:=hz.at hx;refine ni (aL.of (hs _ _ ht)) rfl ?_;have uT:=hP.same hs;obtain⟨dx,a1,a2,a3,a4,ts,fs,qN,h⟩:=id uT;obtain⟨v0,v1,v2,v3⟩:=hv w (get_mem hw);have qL:=dB hw;wp_walk using h.o,h.f1,h.f2,h.f3,h.f4,h.f5,h.f6,h.m1,h.m2,h.m3,h.m4,h.m5,h.m6,h.m7,h.m8,h.m9,h.gI,h.gZ,h.cp.cl,h.cp.n1,h.cp.n2,h.cp.n3,h.cp.n4,h.cp.n5,h.cp.n6;refine⟨hC,C,p,P,fp,_,_,rfl,uT,?_⟩;rw[kJ ⟨v0,v1,v2,v3⟩];refine⟨true,rfl,by simp,λt1 n1=>?_⟩
   have tT:w∉bz.take i:=by
    intro hm;obtain⟨j,hj,e⟩:=mH.mp hm;rw[d9] at hj;rw[List.getElem_take] at e;have g1:bz[j]? = some w:=by rw[← e];exact aX (by lia)
    have:=(List.getElem?_inj (by lia) nd).mp (g1.trans hw.symm)
    lia
   have s1:=aj.put (o:=.tup [V.int w.1,V.int w.2]) n1;refine⟨_,gf.t (k:=kT w) (s1 _ _ h1) aD,by rw[zM tT];simp,λt2 n2=>?_⟩
   have s2:=s1.trans (aj.put (o:=.tup [V.int w.1,V.int w.2]) n2);refine⟨_,lQ.t (k:=kT w) (s2 _ _ h1) aD (by rw[oM,cS,aR,d9];lia),hN _ _ ⟨_,_,rfl,aj.put2 (hs.trans s2) hd,qL,?_⟩⟩
   rw[aD,SM _ (zM tT),take_succ_get hw];simp[cS]
  ·rintro σ H' ⟨r,c,rfl,hs,hi,h1⟩;walk_at "rdm";rw[lenZ hz.n,eE] at h1;exact q _ _ hs hd h1
theorem aks(T:Tx K mg A)(aG:bE mg base A.bu A.aZ):a_ P w K mg base bx 2 A.MJ A.MK ["ring_cells", "spares", "ring", "used"] (afa K A.aZ (qw g_) (qx "nearest_rings")):=by
 have akt:=aj_ (P:=P) (w:=w) (base:=base) T aG;refine T.W2.ok Eg (λvs H Q E h=>?_) (λaP Ar outer s H vs Q E hr h=>?_)
 ·obtain⟨ra,ud,r,sp,rc,us,rfl,_⟩:=h
  rfl
 ·obtain⟨ra,ud,r,sp,rc,us,rfl,EL,h2,kR,s0,s1,hc,hud,tab,q⟩:=h;have hu:=qj hr;refine⟨_,(aE (dP dj rfl (dX (aY akt (hr.mono (by first | decide | lia)) rfl T.aiQ T.W0.kp T.aiP .nil aQ (ah (aa 2) (ah (bY fL rfl T.eK eT (ah (aa 0) ao)) ao)))) (bI (i:=4) Eg.nd rfl (Or.inl rfl))
   (aE (aU (i:=5) Eg.nd rfl (Or.inl rfl) (aH bT (aa 0) (aa 4) (λ_ _=>rfl)))
   (aJ (dP dj rfl (tG rfl T.fZ (ah (aF nT (aa 5) (aa 1)) (ah (aa 5) ao))) (bI (i:=6) Eg.nd rfl (Or.inl rfl))
   (aJ (dw (GL (aci hu (cL (ah (aa 4) (ah (aa 6) ao))) (aa 3))) (aJ (bF (cL (ah (aa 4) (ah (aa 6) ao))))) b7))))))
   (aJ (bF qX))),?_⟩
  walk_at "rdm";refine zJ ?_;walk_at "rdm";refine⟨_,.inl EL,r,rc.length,by rw[aR],h2,kR,tab,λl is H1 sb t1 nl O1 ord=>⟨l,rfl,?_⟩⟩
  have k1:=(Kp.mk sb t1).step (aj.put (o:=.lst (is.map λ(i:Nat)=>V.int (i:Int))) O1);refine rH.by l (is.map λ(i:Nat)=>V.int (i:Int)) (λi σ H'=>∃o c p,σ = [some (.ref ra),some (.int sp),some (.int r),some (.ref ud),o,c,p]/\aj (upd H1 l (.lst (is.map λ(i:Nat)=>V.int (i:Int)))) H'/\∀c∈(is.take i).flatMap (jK rc sp),c∈us)
   (az.of aD) ⟨none,none,none,rfl,aj.refl _,by simp⟩ (by rintro i σ H' _ ⟨o,c,p,rfl,sm,_⟩;exact az.of (sm _ _ aD)) ?_ ?_
  ·rintro i x σ H' N hN hx ⟨o,c,p,rfl,sm,qh⟩;obtain⟨k,hk,rfl⟩:=e8 hx;have kl:k<rc.length:=gT.mp (ord.1.mem_iff.mp (get_mem hk));have kk:=k1.step sm;have ra':=kk.seq tab EL;have ck:sp<=rc.getD k 0/\rc.getD k 0<=1000:=by
    have:=hc _ (cO kl);rw[show rc.getD k 0=rc[k] by simp[kl]]
    exact this
   walk_at "rdm";refine⟨_,ra',_,gG (by lia) (by lia),?_⟩
   try walk_at "rdm"
   rw[show ((k:Int)).toNat=k from rfl];refine wm (rc.getD k 0 - sp) (rc.getD k 0) (λj σ H3=>∃p,σ = [some (.ref ra),some (.int sp),some (.int r),some (.ref ud),some (.int (k:Int)),some (.int (rc.getD k 0)),p]/\aj H' H3/\∀j':Nat,j' < j->((k:Int),rc.getD k 0 - sp+(j':Int))∈us) (λQ q=>?_) (by lia) (by lia) (by lia) (by lia) ⟨p,rfl,aj.refl _,λj' z=>absurd z (by lia)⟩ ?_ ?_
   ·walk_at "rdm";exact q
   ·rintro j σ H3 N2 h_ hj ⟨p,rfl,s3,ki⟩;walk_at "rdm";refine λt1 n1=>?_;have e1:=aj.put (o:=HO.tup [V.int (k:Int),V.int (rc.getD k 0 - sp+(j:Int))]) n1;have O2:=(kk.step s3).step e1;have ud3:=O2.get tab hud;refine⟨_,gf.t (k:=kT ((k:Int),rc.getD k 0 - sp+(j:Int))) ud3 aD,?_⟩;by_cases hm:((k:Int),rc.getD k 0 - sp+(j:Int))∈us
    ·rw[HV hm];refine ite_no (by simp) (h_ _ _ ⟨_,rfl,s3.trans e1,λj' z=>?_⟩)
     by_cases e:j' = j
     ·rw[e];exact hm
     ·exact ki j' (by lia)
    ·rw[zM hm,if_pos (show (none:Option V).isSome=false from rfl)];intro t2 n2;exact(q is _ ord (O2.step (aj.put n2))).2 _ t2 (ae_ qh hk (by lia) ki hm) (O2.free n2) aD
   ·rintro σ H3 ⟨p,rfl,s3,ki⟩;refine hN _ _ ⟨_,_,_,rfl,sm.trans s3,ae8 qh hk λc hc=>?_⟩;obtain⟨j,hj,rfl⟩:=fG.mp hc;exact ki j (by have:=gT.mp hj;lia)
  ·rintro σ H' ⟨o,c,p,rfl,sm,qh⟩;walk_at "rdm";rw[aR,eE] at qh;exact(q is H' ord (k1.step sm)).1 (ae9 qh)
theorem aku(T:Tx K mg A)(aG:bE mg base A.bu A.aZ):a_ P w K mg base bx 2 A.MV A.MW ["_law_cell", "_law_more"] (afq K):=by
 have AV:=OV (P:=P) (w:=w) (base:=base) T aG;have akv:=aka (P:=P) (w:=w) (base:=base) T aG;refine T.W5.ok mh (λvs H Q E h=>?_) (λaP Ar outer s H vs Q E hr h=>?_)
 ·obtain⟨c,m,rfl,_⟩:=h
  rfl
 ·obtain⟨c,m,rfl,q⟩:=h;refine⟨_,(aE (aU (i:=2) mh.nd rfl (Or.inl rfl) (aY AV (hr.mono (by first | decide | lia)) rfl T.Ob T.EF.kp T.Oa .nil aQ (ah (aa 0) (ah ak ao))))
   (aE (aU (i:=3) mh.nd rfl (Or.inl rfl) (dG (ah (cL (ah (aF d_ ak (aF cR (aH bT (aa 2) ak (λ_ _=>rfl)) ak)) (ah (aF d_ ak (aF cR (aH bT (aa 2) ak (λ_ _=>rfl)) ak)) ao))) ao)))
   (aE (dP dj rfl (kN rfl T.fZ (ah (aF cR (aH bT (aa 2) ak (λ_ _=>rfl)) ak) ao)) (bI (i:=4) mh.nd rfl (Or.inl rfl))
   (aJ (dm (lN jS mJ mK lO (aa 3) (ah (cL (ah (aF d_ ak (aF cR (aH bT (aa 2) (aF dR ak (aF l7 ak (aa 4))) (λ_ _=>rfl)) ak)) (ah (aF d_ ak (aF cR (aH bT (aa 2) (aF dR ak (aF l7 ak (aa 4))) (λ_ _=>rfl)) ak)) ao))) ao)))))
   (aE (aU (i:=5) mh.nd rfl (Or.inl rfl) ak)
   (aE (aU (i:=6) mh.nd rfl (Or.inl rfl) (dG ao))
   (aE (dP dj rfl (dX (aa 3)) (kM rfl (dO (bI (i:=7) mh.nd rfl (Or.inl rfl)) (dO (bI (i:=8) mh.nd rfl (Or.inl rfl)) jV)))
   (aE (aU (i:=5) mh.nd rfl (Or.inl rfl) (aF l7 (aa 5) (aa 8)))
   (aJ (aU (i:=6) mh.nd rfl (Or.inl rfl) (aF vY (aa 6) (aF SI (dG (ah (aa 8) ao)) (aa 7)))))))
   (aE (aU (i:=9) mh.nd rfl (Or.inl rfl) (aF vH (aa 5) (aF d_ ak (aF cR (aH bT (aa 2) ak (λ_ _=>rfl)) ak))))
   (aE (qA (dw (dz lK (aF cR (aH bT (aa 2) ak (λ_ _=>rfl)) ak) ak (bM _)) (aJ (aU (i:=9) mh.nd rfl (Or.inl rfl) (aF l7 (aa 5) (aF dR ak (aF fY (aa 1) (aF kq (aF rm ak ak) (aa 5))))))) b7))
   (aJ (bF (cL (ah (aa 3) (ah (aa 6) (ah (aa 9) (ah (aF cR (aH bT (aa 2) ak (λ_ _=>rfl)) (aa 9)) (ah (aY akv (hr.mono (by first | decide | lia)) rfl T.aiY T.W4.kp T.aiX .nil aQ (ah (aa 2) (ah (bY fL rfl T.eK eT (ah (aa 6) ao)) ao))) ao)))))))))))))))),?_⟩
  walk_at "rdm";refine⟨c,24,rfl,by decide,by decide,λxa xs H1 s1 n1 hx X=>?_⟩
  have X:qy xs 24:=X;have xl:=X.n;have g:∀k:Int,0<=k->k<24->e7 (xs.map V.int) k=some (.int (xs.getD k.toNat 0)):=λk h0 h1=>gG h0 (by lia)
  try walk_at "rdm"
  have y1:=X.md (Int.toNat 1) (k:=2) (by decide)
  have y2:=X.md (Int.toNat 2) (k:=8) (by decide)
  have y0:=X.md (Int.toNat 0) (k:=3) (by decide)
  refine⟨_,az.of hx,_,g 1 (by decide) (by decide),_,rfl,_,az.of hx,_,g 2 (by decide) (by decide),_,rfl,λt0 O3 l nl=>?_⟩
  generalize xs.getD (Int.toNat 1) 0 % 2=a1 at *
  generalize xs.getD (Int.toNat 2) 0 % 8=a2 at *
  have O1:H1 l=none:=(aj.put O3).free nl;have EM:=Zn.one (c:=(2+a1,1+a2)) (aD (H:=H1) (a:=t0)) nl;have sA:aj H1 (upd (upd H1 t0 (HO.tup [V.int (2+a1),V.int (1+a2)])) l (HO.lst [V.ref t0])):=(aj.put O3).trans (aj.put nl);have O4:ZP [(2+a1,1+a2)]:=⟨λp hp=>by rw[gw.mp hp];dsimp only;have:=y1;have:=y2;exact⟨by lia,by lia,by lia,by lia⟩,by simp;lia⟩
  generalize upd (upd H1 t0 (HO.tup [V.int (2+a1),V.int (1+a2)])) l (HO.lst [V.ref t0])=H2 at EM sA ⊢;generalize (2+a1,1+a2)=p0 at EM O4;refine CZ (xs.getD (Int.toNat 0) 0 % 3) (λi σ H'=>∃(x4:Option V) (ts:List Addr) (z:List (Int×Int)),σ = [some (.int c),some (.int m),some (.ref xa),some (.ref l),x4,none,none,none,none,none]/\aj H1 H'/\Zn H' l ts z/\ZP z/\z.length=i+1) (λQ q=>?_) (by have:=y0.1;lia) (by have:=y0.2;lia) ⟨none,[t0],[p0],rfl,sA,EM,O4,rfl⟩ ?_ ?_
  ·walk_at "rdm";have ia:=sA _ _ hx;exact⟨_,az.of ia,_,g 0 (by decide) (by decide),_,rfl,q⟩
  ·rintro i σ H' N hN hi ⟨x4,ts,z,rfl,s',hz,zp,zn⟩;have c_:(i:Int)<2:=by have:=y0.2;lia
   have Yc:=s' _ _ hx;walk_at "rdm";have b1:=X.md (3+2*(i:Int)).toNat (k:=3) (by decide)
   have b2:=X.md (4+2*(i:Int)).toNat (k:=8) (by decide)
   refine⟨⟨_,hz.sq⟩,_,az.of Yc,_,g _ (by lia) (by lia),_,rfl,_,az.of Yc,_,g _ (by lia) (by lia),_,rfl,λp np=>⟨_,aj.put np _ _ hz.l,by rw[aR,hz.n];lia,hN _ _ ⟨_,ts++[p],z++[(1+xs.getD (3+2*(i:Int)).toNat 0 % 3,1+xs.getD (4+2*(i:Int)).toNat 0 % 8)],rfl,aj.put2 (s'.trans (aj.put np)) O1,hz.snoc np _ _,zp.snoc ⟨by lia,by lia,by lia,by lia⟩,by simp[zn]⟩⟩⟩
  ·rintro σ H' ⟨x4,ts,z,rfl,s',hz,zp,zn⟩;have zl:=zp.zl (by lia) (by have:=y0.2;lia)
   clear zp zn EM O4 sA nl O3;walk_at "rdm";intro c0 O5;have bd:∀i,1<=eV (z.take i)/\eV (z.take i)<=777600000:=λi=>by
    have h1:=C0 (m:=60) (by decide) (z.take i) λp hp=>(zl.ok.r p (pR hp)).2.2
    have h2:=Tf (m:=60) (by decide) (show (z.take i).length<=5 by have:=zl.ok.l5;rw[d9];lia)
    have e:(60:Int) ^ 5=777600000:=by decide
    lia
   refine rl l (ts.map V.ref) (λi σ H2=>∃(r d:Option V) (ca:Addr),σ = [some (.int c),some (.int m),some (.ref xa),some (.ref l),x4,some (.int (eV (z.take i))),some (.ref ca),r,d,none]/\aj H' H2/\H' ca=none/\H2 ca=some (.lst ((counts (z.take i)).map V.int))) (λQ q=>q) (hz.same (aj.put O5)).sq ⟨none,none,c0,rfl,aj.put O5,O5,aD⟩ (by rintro i σ H2 _ ⟨r,d,ca,rfl,s2,_⟩;exact(hz.same s2).sq) ?_ ?_
   ·rintro i x σ H2 N hN ia ⟨r,d,ca,rfl,s2,nca,AW⟩;obtain⟨t,p,rfl,hp,ht⟩:=(hz.same s2).at ia;refine ni (aL.of ht) rfl ?_;walk_at "rdm";have b:=bd i;have pr:=zl.ok.r p (get_mem hp);have cl:=S8 zl.ok i;refine⟨.inl ⟨by lia,by lia⟩,λp1 n1=>⟨by lia,by lia,by lia,λp2 n2=>?_⟩⟩
    rw[Vb];have sa1:=aj.put (o:=.lst [V.int p.2]) n1;have O6:=sa1.trans (aj.put (o:=.lst ((List.replicate p.1.toNat p.2).map V.int)) n2);refine⟨_,O6 _ _ AW,by rw[aR,aR,List.length_replicate];lia,λp3 n3=>hN _ _ ⟨some (.int p.1),some (.int p.2),p3,?_,(s2.trans O6).trans (aj.put n3),(s2.trans O6).free n3,?_⟩⟩
    ·rw[take_succ_get hp,ac8]
    ·rw[aD,afu hp,bZ]
   ·rintro σ H2 ⟨r,d,ca,rfl,s2,nca,AW⟩;rw[lenZ hz.n,eE] at AW ⊢;have hb:=bd z.length;rw[eE] at hb;walk_at "rdm";have ia:=s2 _ _ (s' _ _ hx);have y7:=X.md (Int.toNat 7) (k:=900) (by decide)
    have hq:1<=1000000000 / eV z:=(Int.le_ediv_iff_mul_le (by lia)).mpr (by lia)
    have ym0:=fD m (show 1000000000 / eV z≠0 by lia)
    have ym1:=fB m (show 0<1000000000 / eV z by lia)
    have w1:=Va zl y7.1 (.inl y7.2);have w2:=Va zl ym0 (.inr ym1);refine⟨_,az.of ia,_,g 7 (by decide) (by decide),_,rfl,.inl ⟨by lia,by lia⟩,λσ H3=>∃au,σ = [some (.int c),some (.int m),some (.ref xa),some (.ref l),x4,some (.int (eV z)),some (.ref ca),r,d,some (.int au)]/\H3=H2/\1<=au/\au<=1000000000/\∀p∈z,au % p.2=0,
     ⟨_,az.of ia,_,g 8 (by decide) (by decide),_,rfl,cG (λ_=>⟨by decide,by lia,by lia,by lia,.inl ⟨by lia,by lia⟩,_,rfl,rfl,w2.1,w2.2.1,w2.2.2⟩) λ_=>⟨_,rfl,rfl,w1.1,w1.2.1,w1.2.2⟩⟩,?_⟩
    rintro σ H3 ⟨au,rfl,rfl,l1,l2,l3⟩;have cl:=rF z λp hp=>(zl.ok.r p hp).1;have nB:=zl.sm;have c2:=zl.ok.s2;walk_at "rdm";refine⟨_,az.of ia,_,g 9 (by decide) (by decide),_,rfl,by lia,_,.inl (az.of AW),xa,xs,_,rfl,ia,X,by rw[aR];lia,by rw[aR];lia,λsa sw H4 s4 O7 I0 so=>?_⟩
    rw[aR,cl] at so;have k0:=fD (xs.getD (Int.toNat 9) 0) (show au≠0 by lia)
    have k1:=fB (xs.getD (Int.toNat 9) 0) (show 0<au by lia)
    try walk_at "rdm"
    intro t nt;have st:=aj.put (o:=.tup [V.ref l,V.ref ca,V.int au,V.int (xs.getD (Int.toNat 9) 0 % au),V.ref sa]) nt;have EN:=(s2.trans s4).trans st;exact q t z au _ sw l ts ca sa _ (s1.trans (s'.trans EN)) ((s1.trans (s'.trans (s2.trans s4))).free nt) ⟨aD,hz.same EN,(s4.trans st) _ _ AW,st _ _ I0⟩ ⟨zl,l1,l2,l3,k0,k1,so⟩
theorem O8(T:Tx K mg A)(aG:bE mg base A.bu A.aZ):a_ P w K mg base bx 2 A.M3 A.M4 ["_law_spec_here", "_law_ring", "_law_beat", "_law_cells"] (aft K):=by
 have akw:=akb (P:=P) (w:=w) (base:=base) T aG;refine T.EG.ok Eh (λvs H Q E h=>?_) (λaP Ar outer s H vs Q E hr h=>?_)
 ·obtain⟨t,z,au,sk,sw,za,bB,ca,sa,r,b,cl,bC,cz,rfl,_⟩:=h
  rfl
 ·obtain⟨t,z,au,sk,sw,za,bB,ca,sa,r,b,cl,bC,cz,rfl,hS,ok,r0,r1,hz,hq,hlen,q⟩:=h;refine⟨_,(aE (dP dj rfl (dX (aY akw (hr.mono (by first | decide | lia)) rfl T.ai4 T.W7.kp T.ai3 .nil aQ (ah (aa 0) (ah (aa 1) (ah (aa 2) (ah (aa 3) ao)))))) (bI (i:=4) Eh.nd rfl (Or.inl rfl))
   (aE (aU (i:=1) Eh.nd rfl (Or.inl rfl) (aH bJ (aa 4) ak (λ_ _=>rfl)))
   (aJ (aU (i:=2) Eh.nd rfl (Or.inl rfl) (aH bJ (aa 4) ak (λ_ _=>rfl))))))
   (aJ (bF (cL (ah (aa 1) (ah (aa 2) ao)))))),?_⟩
  walk_at "rdm";refine zJ ?_;walk_at "rdm";refine⟨t,z,au,sk,sw,za,bB,ca,sa,r,b,cl,bC,cz,rfl,hS,ok,r0,r1,hz,hq,hlen,λl ts H1 s1 n1 EO h1=>?_⟩;have wl:=nA (bO z au sk sw []) cz (r,b);have wr:=To (bO z au sk sw []) cz (r,b);have ef:∀i,i<cz.length->∃x y,(dZ (bO z au sk sw []) (r,b) cz).getD i [] = [(bf (bO z au sk sw []) (r,b) (cz.take (i+1))).1,x,y,(bf (bO z au sk sw []) (r,b) (cz.take (i+1))).2]:=λi hi=>U9 _ _ _ hi;generalize bO z au sk sw [] = P at *
  generalize dZ P (r,b) cz=rows at *
  refine⟨l,rfl,rH.by l (ts.map V.ref) (λi σ H'=>∃x,σ = [some (.ref t),some (.int (bf P (r,b) (cz.take i)).1),some (.int (bf P (r,b) (cz.take i)).2),some (.ref cl),x]/\H' = H1) (az.of h1.l) ⟨none,rfl,rfl⟩ (by rintro i σ H' _ ⟨_,rfl,rfl⟩;exact az.of h1.l) ?_ ?_⟩
  ·rintro i x σ H' N hN hx ⟨x0,rfl,rfl⟩;have hi:i<cz.length:=by
    have:=dB hx;rw[aR,h1.n,wl] at this;exact this
   obtain⟨u,eu,hu⟩:=h1.at (i:=i) (by rw[wl];exact hi)
   rw[hx] at eu;cases eu;obtain⟨c1,c2,e⟩:=ef i hi;rw[e] at hu;walk_at "rdm";refine⟨_,aL.of hu,_,rfl,_,aL.of hu,_,rfl,hN _ _ ⟨_,rfl,rfl⟩⟩
  ·rintro σ H' ⟨x0,rfl,rfl⟩;rw[aR,h1.n,wl,eE];walk_at "rdm";exact λu nu=>q u _ (s1.trans (aj.put nu)) (s1.free nu) aD
theorem akx(T:Tx K mg A)(aG:bE mg base A.bu A.aZ):a_ P w K mg base bx 2 A.Nl A.Nm ["_law_known_here"] (af0 K):=by
 have aky:=akc (P:=P) (w:=w) (base:=base) T aG;refine T.Xc.ok aht (λvs H Q E h=>?_) (λaP Ar outer s H vs Q E hr h=>?_)
 ·obtain⟨kl,cM,ks,rfl,_⟩:=h
  rfl
 ·obtain⟨kl,cM,ks,rfl,hk,qK,q⟩:=h;have mC:_+16<cLine:=pT (qR (by decide:16<=64) _) hr.units
  refine⟨_,(aJ (bF (gR (N:=["_law_one", "_law_known_here"]) (nt:=1) (fv:=[0]) (cN.of rfl rfl (by rfl) (by rfl) (by repeat (first | exact trivial | refine⟨rfl,?_⟩)) (by rfl) (by rfl) (by rfl) (by decide) (by decide +kernel)) rfl (dX (aa 0)) (λC s H fp=>(bI (i:=0) (show List.Nodup (["_law_one", "_law_known_here"]:List Str) by decide +kernel) rfl (Or.inr rfl))) (λC s H fp=>(oK (dz (afV (K:=K) rfl mC) (gR (N:=["_law_other", "_law_one"]) (nt:=1) (fv:=[0]) (cN.of rfl rfl (by rfl) (by rfl) (by repeat (first | exact trivial | refine⟨rfl,?_⟩)) (by rfl) (by rfl) (by rfl) (by decide) (by decide +kernel)) rfl (Vu (K:=K) rfl (aa 1)) (λC s H fp=>(bI (i:=0) (show List.Nodup (["_law_other", "_law_one"]:List Str) by decide +kernel) rfl (Or.inl rfl))) (λC s H fp=>(oK (iA (aY aky (hr.mono (by first | decide | lia)) rfl T.ajd T.Xb.kp T.ajc .nil aQ (ah (aa 1) (ah (aa 0) ao)))))) (λC s H fp=>(aa 0))) (dG ao) (bM _)))) (λC s H fp=>(aH (l8 (K:=K) rfl) (aa 0) ak (λ_ _=>rfl)))))),?_⟩
  walk_at "rdt";have gv:=hk.n;refine je kl (cM.map V.ref) (λD i ys aC H2=>∃(u:Option V),ys=(((ks.take i).filter λk=>(ks.filter (keepsK k)).isEmpty).map (·.n)).map V.int/\aC = [u,some (.ref kl)]/\H2 D=some (.lst ys)/\aj H H2/\H D=none) (λQ q=>q) hk.sq ?_ ?_ ?_ ?_
  ·intro D hD;exact⟨none,rfl,rfl,aD,aj.put hD,hD⟩
  ·rintro D i ys aC H2 ⟨u,rfl,rfl,e1,e2,e3⟩;refine⟨e1,gh ?_,(hk.same e2).sq⟩;have:=lA (λk=>(ks.filter (keepsK k)).isEmpty) (ks.take i);rw[d9] at this;simp only[List.length_map];lia
  ·rintro D i x ys aC H2 N hN hx ⟨u,rfl,rfl,e1,e2,e3⟩;obtain⟨t,ht,rfl⟩:=e8 hx;have hi:i<ks.length:=by rw[← gv];exact dB ht
   have kD:=hk.same e2;obtain⟨b,cl,bC,hK⟩:=kD.t i t ks[i] ht (aX hi);walk_at "rdt";refine je kl (cM.map V.ref) (λD' j uJ fc H3=>∃(v:Option V) (fz:List Addr),uJ=fz.map V.ref/\fz.length=((ks.take j).filter (keepsK ks[i])).length/\fc = [v,some (.ref t)]/\H3 D' = some (.lst uJ)/\aj H2 H3/\H2 D' = none) (λQ q=>q) kD.sq ?_ ?_ ?_ ?_
   ·intro D' AX;exact⟨none,[],rfl,rfl,rfl,aD,aj.put AX,AX⟩
   ·rintro D' j uJ fc H3 ⟨v,fz,rfl,g0,rfl,g1,g2,g3⟩;refine⟨g1,gh ?_,(kD.same g2).sq⟩;have:=lA (keepsK ks[i]) (ks.take j);rw[d9] at this;rw[aR,g0];lia
   ·rintro D' j x uJ fc H3 N2 h_ ia ⟨v,fz,rfl,g0,rfl,g1,g2,g3⟩;obtain⟨t2,AY,rfl⟩:=e8 ia;have hj:j<ks.length:=by rw[← gv];exact dB AY
    obtain⟨b2,cl2,akz,hK2⟩:=(kD.same g2).t j t2 ks[j] AY (aX hj);have et:=wV (p:=keepsK ks[i]) (aX hj);walk_at "rdt";refine⟨t,t2,ks[i],ks[j],b,cl,bC,b2,cl2,akz,rfl,hK.same g2,hK2,_,rfl,cG (λh1=>⟨g1,h_ _ _ _ ⟨_,fz++[t2],by rw[bZ];rfl,?_,rfl,aD,aj.put2 g2 g3,g3⟩⟩) λh1=>h_ _ _ _ ⟨_,fz,rfl,?_,rfl,g1,g2,g3⟩⟩
    ·rw[et,if_pos h1,fE,fE,g0];rfl
    ·rw[et,if_neg h1,mF,g0]
   ·rintro D' uJ fc H3 ⟨v,fz,rfl,g0,rfl,g1,g2,g3⟩;rw[aR,gv,eE] at g0;intro p np;have s3:=g2.trans (aj.put (o:=.lst []) np);have et:=wV (p:=λk=>(ks.filter (keepsK k)).isEmpty) (aX hi);have ee:(fz.map V.ref).isEmpty=(ks.filter (keepsK ks[i])).isEmpty:=by
     cases e:ks.filter (keepsK ks[i]) with
     | nil=>rw[e] at g0;rw[List.length_eq_zero_iff.mp g0];rfl
     | cons y r =>
      rw[e] at g0;cases fz with
      | nil=>simp at g0
      | cons _ _=>rfl
    refine⟨D',rfl,_,az.of (aj.put np _ _ g1),az.of aD,cG (λh1=>⟨_,aL.of (s3 _ _ hK.o),_,rfl,s3 _ _ e1,hN _ _ _ ⟨_,?_,rfl,aD,aj.put2 (e2.trans s3) e3,e3⟩⟩) λh1=>hN _ _ _ ⟨_,?_,rfl,s3 _ _ e1,e2.trans s3,e3⟩⟩
    ·rw[et,if_pos (by rw[← ee];exact h1),bZ,bZ];rfl
    ·rw[et,if_neg (by rw[← ee];exact h1),mF]
  ·rintro D ys aC H2 ⟨u,rfl,rfl,e1,e2,e3⟩;rw[aR,gv,eE] at e1;exact q D H2 e2 e3 e1
theorem akA(T:Tx K mg A)(aG:bE mg base A.bu A.aZ):a_ P w K mg base bx 2 A.Nv A.Nx ["_law_found"] agO:=by
 have AZ:=OW (P:=P) (w:=w) (base:=base) T aG;refine T.Xf.ok ahw (λvs H Q E h=>?_) (λaP Ar outer s H vs Q E hr h=>?_)
 ·obtain⟨a,ns,rfl,_⟩:=h
  rfl
 ·obtain⟨a,ns,rfl,ha,q⟩:=h;have mC:_+16<cLine:=pT (qR (by decide:16<=64) _) hr.units
  refine⟨_,(aJ (bF (sZ (bY zH rfl T.mz ow (ah (aa 0) (ah (vB (v:=.ty "tuple") rfl T.uS xU rfl) ao))) (p8 (iD (Tz mC) (gR (N:=["_law_one"]) (nt:=1) (fv:=[]) (cN.of rfl rfl (by rfl) (by rfl) (by repeat (first | exact trivial | refine⟨rfl,?_⟩)) (by rfl) (by rfl) (by rfl) (by decide) (by decide +kernel)) rfl (GQ (aa 0)) (λC s H fp=>(bI (i:=0) (show List.Nodup (["_law_one"]:List Str) by decide +kernel) rfl (Or.inl rfl))) (λC s H fp=>(oK (jU (iA (aY AZ (hr.mono (by first | decide | lia)) rfl T.Of T.EH.kp T.Oe .nil aQ (ah (aa 0) ao)))))) (λC s H fp=>(aa 0))) (dG ao) (bM _)))))),?_⟩
  walk_at "rdt";refine⟨_,.tup ha,_,rfl,ite_yes rfl ?_⟩;refine agL a (ns.map V.int) (λD i ys aC H2=>ys = []/\H2 D=some (.lst ys)/\aj H H2/\H D=none/\∃u,aC = [u]) (λQ q=>q) (aL.of ha) ?_ ?_ ?_ ?_
  ·intro D hD;exact⟨rfl,aD,aj.put hD,hD,_,rfl⟩
  ·rintro D i ys aC H2 ⟨rfl,e1,e2,e3,_⟩;exact⟨e1,by decide,aL.of (e2 _ _ ha)⟩
  ·rintro D i x ys aC H2 N hN hx ⟨rfl,e1,e2,e3,u,rfl⟩;obtain⟨n,Cf,rfl⟩:=e8 hx;walk_at "rdt";exact⟨n,rfl,_,rfl,ite_no (by simp) (hN _ _ _ ⟨rfl,e1,e2,e3,_,rfl⟩)⟩
  ·rintro D ys aC H2 ⟨rfl,e1,e2,e3,u,rfl⟩;intro p np;exact⟨D,rfl,_,az.of (aj.put np _ _ e1),az.of aD,q _ (e2.trans (aj.put np))⟩
theorem Yd(T:Tx K mg A)(aG:bE mg base A.bu A.aZ):a_ P w K mg base bx 3 A.Ld A.Le ["first", "many", "at", "asker", "latest", "behind"] (adF K):=by
 have qM:=OR (P:=P) (w:=w) (base:=base) T aG;have akB:=ake (P:=P) (w:=w) (base:=base) T aG;refine T.NK.ok ag3 (λvs H Q E h=>?_) (λaP Ar outer s H vs Q E hr h=>?_)
 ·obtain⟨f,m,a,s',l,b,ns,rfl,_⟩:=h
  rfl
 ·obtain⟨f,m,a,s',l,b,ns,rfl,hB,hS,hR,q⟩:=h;refine⟨_,(aE (dm (aY qM (hr.mono (by first | decide | lia)) rfl T.uQ T.r9.kp T.uP .nil aQ (ah (aa 0) (ah ak (ah (gU (v:=.int 1000000) rfl T.ajy ⟨_,rfl⟩) (ah lG ao))))))
   (aE (dm (aY qM (hr.mono (by first | decide | lia)) rfl T.uQ T.r9.kp T.uP .nil aQ (ah (aa 1) (ah ak (ah (gU (v:=.int 16) rfl T.ajx ⟨_,rfl⟩) (ah lG ao))))))
   (aE (dm (aY qM (hr.mono (by first | decide | lia)) rfl T.uQ T.r9.kp T.uP .nil aQ (ah (aa 2) (ah ak (ah (gU (v:=.int 1000000000000) rfl T.ajA ⟨_,rfl⟩) (ah lG ao))))))
   (aE (dm (aY qM (hr.mono (by first | decide | lia)) rfl T.uQ T.r9.kp T.uP .nil aQ (ah (aa 3) (ah ak (ah (gU (v:=.int 20) rfl T.ajB ⟨_,rfl⟩) (ah lG ao))))))
   (aE (dw (dz R3 (aa 4) qX (bM _)) (aJ (dm (aY qM (hr.mono (by first | decide | lia)) rfl T.uQ T.r9.kp T.uP .nil aQ (ah (aa 4) (ah ak (ah (gU (v:=.int 10000000000000) rfl T.ajC ⟨_,rfl⟩) (ah lG ao))))))) b7)
   (aJ (dm (aY akB (hr.mono (by first | decide | lia)) rfl T.ahA T.V_.kp T.ahz .nil aQ (ah (aa 5) ao))))))))),?_⟩
  walk_at "rdm";refine⟨_,_,_,_,rfl,hB.f0,hB.f1,_,_,_,_,rfl,hB.m0,hB.m1,_,_,_,_,rfl,hB.a0,hB.a1,_,_,_,_,rfl,hB.s0,hB.s1,?_⟩
  try dsimp only
  cases l with
  | none=>exact ite_no (by simp[jI]) ⟨b,ns,rfl,hS,hR,q⟩
  | some x=>exact ite_yes (by simp[jI]) ⟨x,0,10000000000000,_,rfl,(hB.l x rfl).1,(hB.l x rfl).2,b,ns,rfl,hS,hR,q⟩
theorem akC(T:Tx K mg A)(aG:bE mg base A.bu A.aZ):a_ P w K mg base bx 3 A.Lp A.Lq ["heap"] agg:=by
 have akD:=akf (P:=P) (w:=w) (base:=base) T aG;refine T.NO.ok K3 (λvs H Q E h=>?_) (λaP Ar outer s H vs Q E hr h=>?_)
 ·obtain⟨l,zs,rfl,_⟩:=h
  rfl
 ·obtain⟨l,zs,rfl,hl,hh,q0,q⟩:=h;have mC:_+16<cLine:=pT (qR (by decide:16<=64) _) hr.units
  refine⟨_,(aE (dw (jU (GY (aa 0) (λ_=>rfl))) (aJ (bF qX)) b7)
   (aE (aU (i:=1) K3.nd rfl (Or.inl rfl) (aH bT (aa 0) ak (λ_ _=>rfl)))
   (aE (aU (i:=2) K3.nd rfl (Or.inl rfl) (SE jS PySem.F.slot_list_pop PySem.F.type_list_pop ab3 (aa 0)))
   (aE (dw (GY (aa 0) (λ_=>rfl)) (aJ (dm (aY akD (hr.mono (by first | decide | lia)) rfl T.ahK T.Wm.kp T.ahJ .nil aQ (ah (aa 0) (ah (aa 2) ao))))) b7)
   (aJ (bF (aa 1))))))),?_⟩
  walk_at "rdm";have tr:∀(H':Hp) (ys:Ms),H' l=some (.lst (mV ys))->GX K (V.ref l) H' (!(mV ys).isEmpty):=λH' ys h=>.inl ⟨_,az.of h,rfl⟩;refine⟨_,tr H zs hl.l,cG (λh1=>?_) (λh1=>?_)⟩
  ·refine q0 ?_;cases zs with
   | nil=>rfl
   | cons z r=>simp[mV] at h1
  ·cases zs with
   | nil=>simp[mV] at h1
   | cons z0 r =>
    have least:=agj hh (by simp)
    rcases List.eq_nil_or_concat r with rfl | ⟨r',u,rfl⟩
    ·refine⟨_,az.of hl.l,_,rfl,⟨_,az.of hl.l⟩,_,hl.l,_,rfl,false,.inl ⟨_,az.of aD,rfl⟩,ite_no (by simp) ?_⟩
     exact q z0 [] (.refl _) least (λi _ h=>absurd h (by simp))
    ·rw[List.concat_eq_append] at *
     have rE:fT (upd H l (.lst (mV (z0::r')))) l (z0::r'):=hl.set (λz hz=>hl.z z (by
      rcases cE.mp hz with e | e
      ·rw[e];exact cA ..
      ·exact bW _ (pQ _ e))) (by have:=hl.n;simp at this ⊢;lia)
     have e1:(mV (z0::(r'++[u])))[(mV (z0::(r'++[u]))).length - 1]? = some (.ref u.1):=by
      rw[jo];simp[mV]
     have e2:(mV (z0::(r'++[u]))).dropLast=mV (z0::r'):=by
      rw[agb,← pO,List.dropLast_concat]
     refine⟨_,az.of hl.l,_,fT.get (k:=0) (by simp),⟨_,az.of hl.l⟩,_,hl.l,_,e1,true,?_⟩
     rw[e2];refine⟨.inl ⟨_,az.of aD,rfl⟩,ite_yes rfl ?_⟩;have hu:gM H u.1 u.2:=hl.z u (by simp)
     refine⟨l,u.1,u.2,z0::r',rfl,rE,hu.fJ hl.l,by simp,agi hh,λcU p1 h2=>?_⟩
     rw[B8];refine q z0 cU ?_ least h2;refine(List.Perm.cons z0 ?_).trans (List.Perm.cons z0 p1.symm)
     show (r'++[u]).Perm (u::r');exact List.perm_append_singleton u r'
theorem akE(T:Tx K mg A)(aG:bE mg base A.bu A.aZ):a_ P w K mg base bx 3 A.Ly A.Lz ["plate", "number", "ask"] (afy K [A.bG,A.br] A.bU):=by
 have akG:=akg (P:=P) (w:=w) (base:=base) T aG;refine T.Wo.ok ag7 (λvs H Q E h=>?_) (λaP Ar outer s H vs Q E hr h=>?_)
 ·obtain⟨C,p,ap,k,P,fp,q',m,b,dx,rfl,_⟩:=h
  rfl
 ·obtain⟨C,p,ap,k,P,fp,q',m,b,dx,rfl,hC,hP,ha,hf,hn,q⟩:=h;refine⟨_,(aJ (aew rfl (bF (aY akG (hr.mono (by first | decide | lia)) rfl T.ahM T.Wn.kp T.ahL .nil aQ (ah (aa 0) (ah (aa 2) ao)))))),?_⟩
  walk_at "rdt";exact⟨C,p,ap,P,fp,q',m,b,dx,rfl,hC,hP,ha,hf,hn,q⟩
theorem akH(T:Tx K mg A)(aG:bE mg base A.bu A.aZ):a_ P w K mg base bx 3 A.LC A.LD ["plate", "ring", "place", "beat"] (adi K [A.bG,A.br]):=by
 have akI:=aj6 (P:=P) (w:=w) (base:=base) T aG;have akJ:=akp (P:=P) (w:=w) (base:=base) T aG;refine T.Wr.ok ag9 (λvs H Q E h=>?_) (λaP Ar outer s H vs Q E hr h=>?_)
 ·obtain⟨C,p,P,fp,r,c,b,rfl,_⟩:=h
  rfl
 ·obtain⟨C,p,P,fp,r,c,b,rfl,hC,hP,ok,h0,h1,h5,h6,q⟩:=h;obtain⟨dx,a1,a2,a3,a4,ts,fs,qN,h⟩:=id hP;have se:=ok.c r.toNat (by lia)
  have hl:=ok.au;have hn:=ok.n1;refine⟨_,(aJ (bF (aF d_ (aa 3) (aF cR (aF oG (nq (aa 0) T.ajV akJ (hr.mono (by first | decide | lia)) T.ait .nil aQ (ah (aa 1) (ah (aa 2) ao))) (aa 3)) (zL (aa 0) T.ajU akI (hr.mono (by first | decide | lia)) T.aip .nil aQ))))),?_⟩
  wp_walk using h.o,h.f1,h.f2,h.f3,h.f4,h.f5,h.f6,h.m1,h.m2,h.m3,h.m4,h.m5,h.m6,h.m7,h.m8,h.m9,h.gI,h.gZ,h.cp.cl,h.cp.n1,h.cp.n2,h.cp.n3,h.cp.n4,h.cp.n5,h.cp.n6;refine⟨hC,C,p,P,fp,r,c,rfl,hC,hP,h0,h1,hn,by lia,se.2,h5,h6,by lia,?_⟩
  wp_walk using h.o,h.f1,h.f2,h.f3,h.f4,h.f5,h.f6,h.m1,h.m2,h.m3,h.m4,h.m5,h.m6,h.m7,h.m8,h.m9,h.gI,h.gZ,h.cp.cl,h.cp.n1,h.cp.n2,h.cp.n3,h.cp.n4,h.cp.n5,h.cp.n6;refine⟨hC,C,p,P,fp,rfl,hP,?_⟩;walk_at "rdm";exact⟨by lia,q⟩
theorem akK(T:Tx K mg A)(aG:bE mg base A.bu A.aZ):a_ P w K mg base bx 3 A.LQ A.LR ["dues"] (afY K A.bU A.cj):=by
 have akL:=akj (P:=P) (w:=w) (base:=base) T aG;refine T.NS.ok K4 (λvs H Q E h=>?_) (λaP Ar outer s H vs Q E hr h=>?_)
 ·obtain⟨l,ps,ds,rfl,_⟩:=h
  rfl
 ·obtain⟨l,ps,ds,rfl,hd,qK,nd,q⟩:=h;have hu:=qj hr;refine⟨_,(aE (aU (i:=1) K4.nd rfl (Or.inl rfl) acm)
   (aE (dP dj rfl (dX (aa 0)) (bI (i:=2) K4.nd rfl (Or.inr rfl))
   (aJ (zw hu (aa 1) (Sa (aa 2) rfl) (gR (N:=["other", "due"]) (nt:=1) (fv:=[2]) (cN.of rfl rfl (by rfl) (by rfl) (by repeat (first | exact trivial | refine⟨rfl,?_⟩)) (by rfl) (by rfl) (by rfl) (by decide) (by decide +kernel)) rfl (dX (aa 0)) (λC s H fp=>(bI (i:=0) (show List.Nodup (["other", "due"]:List Str) by decide +kernel) rfl (Or.inl rfl))) (λC s H fp=>(oK (iA (aY akL (hr.mono (by first | decide | lia)) rfl T.ahX T.Wy.kp T.ahW .nil aQ (ah (aa 1) (ah (aa 0) ao)))))) (λC s H fp=>(aex (K:=K) rfl (aa 0) rfl))) rfl)))
   (aJ (bF (aa 1))))),?_⟩
  walk_at "rdt";intro kd A0;have jQ:=hd.n;refine rl l (ps.map V.ref) (λi σ H'=>∃(x:Option V) (aA:List (Key×V)),σ = [some (.ref l),some (.ref kd),x]/\aj H H'/\DX H' kd (ds.take i) ds aA) (λQ q=>q) (az.of (aj.put A0 _ _ hd.l)) ⟨none,[],rfl,aj.put A0,⟨aD,eF _,λi d e=>by simp at e⟩⟩ (by rintro i σ H' _ ⟨_,_,rfl,s',_⟩;exact az.of (s' _ _ hd.l)) ?_ ?_
  ·rintro i x σ H' N hN hx ⟨x0,aA,rfl,s',hk⟩;obtain⟨p,hp,rfl⟩:=e8 hx;have hi:i<ds.length:=by rw[← jQ];exact dB hp
   have qp:=hd.same s';obtain⟨dx,ap,la,ts,m,b,b_,hD⟩:=qp.t i p ds[i] hp (aX hi);have eB:=hD.o;unfold o8 at eB;wp_walk using T,eB;have ER:=hk;refine je l (ps.map V.ref) (λD j ys aC H2=>∃(u:Option V),ys=(((ds.take j).filter (o_ ds[i])).map (·.n)).map V.int/\aC = [u,some (.ref p)]/\H2 D=some (.lst ys)/\aj H' H2/\H' D=none) (λQ q=>q) (az.of qp.l) ?_ ?_ ?_ ?_
   ·intro D AX;exact⟨none,rfl,rfl,aD,aj.put AX,AX⟩
   ·rintro D j ys aC H2 ⟨u,rfl,rfl,e1,e2,e3⟩;refine⟨e1,gh ?_,az.of (e2 _ _ qp.l)⟩;have:=lA (o_ ds[i]) (ds.take j);rw[d9] at this;simp only[List.length_map];lia
   ·rintro D j x ys aC H2 N2 h_ ia ⟨u,rfl,rfl,e1,e2,e3⟩;obtain⟨p2,gX,rfl⟩:=e8 ia;have hj:j<ds.length:=by rw[← jQ];exact dB gX
    obtain⟨dx2,ap2,la2,uU,m2,b2,aqu,kE⟩:=(qp.same e2).t j p2 ds[j] gX (aX hj);have et:=wV (p:=o_ ds[i]) (aX hj);have O9:=kE.o;unfold o8 at O9;wp_walk using T,O9;refine⟨p,p2,ds[i],ds[j],_,_,_,_,_,_,_,_,_,_,_,_,_,_,rfl,hD.same e2,kE,_,rfl,cG (λh1=>⟨_,_,_,O9,T.Oh,T.EI,_,rfl,e1,h_ _ _ _ ⟨_,?_,rfl,aD,aj.put2 e2 e3,e3⟩⟩) λh1=>h_ _ _ _ ⟨_,?_,rfl,e1,e2,e3⟩⟩
    ·rw[et,if_pos h1,bZ,bZ];rfl
    ·rw[et,if_neg h1,mF]
   ·rintro D ys aC H2 ⟨u,rfl,rfl,e1,e2,e3⟩;rw[aR,jQ,eE] at e1;have Ye:=e2 _ _ hk.d;have nD:D≠kd:=λz=>by rw[z,Ye] at e1;cases e1
    refine⟨_,_,_,e2 _ _ eB,T.Oh,T.EI,_,rfl,_,lQ.k (k:=uE ds[i].n) Ye (by rw[oM];have:=hk.n;rw[d9] at this;lia),hN _ _ ⟨_,_,rfl,aj.put2 (s'.trans e2) A0,⟨aD,?_,λj d e=>?_⟩⟩⟩
    ·have:=af1 aA (uE ds[i].n) (V.ref D);have:=hk.n;rw[d9] at this ⊢;lia
    ·rw[List.getElem?_take] at e;split at e
     ·rename_i hj;rw[Hl];by_cases Yg:j=i
      ·subst Yg;rw[aX hi] at e;cases e;exact⟨D,by rw[if_pos rfl],nD,by rw[aI nD];exact e1⟩
      ·have lU:j<i:=by lia
       obtain⟨li,v1,v2,v3⟩:=hk.v j d (by rw[List.getElem?_take,if_pos lU];exact e)
       have ne:uE d.n≠uE ds[i].n:=λz=>by
        have z:d.n=ds[i].n:=by unfold uE at z;exact Sum.inl.inj z
        have h1:(ds.map (·.n))[j]? = (ds.map (·.n))[i]? := by rw[ju,ju,e,aX hi];exact ig some z
        exact Yg ((List.getElem?_inj (by simp;lia) nd).mp h1)
       exact⟨li,by rw[if_neg ne];exact v1,v2,by rw[aI v2];exact e2 _ _ v3⟩
     ·cases e
  ·rintro σ H' ⟨x0,aA,rfl,s',hk⟩;rw[aR,jQ,eE] at hk;walk_at "rdt";exact q kd aA H' s' A0 hk
theorem Yh(T:Tx K mg A)(aG:bE mg base A.bu A.aZ):a_ P w K mg base bx 3 A.Ej A.Mt ["self", "zones", "lap", "skew", "swing"] (acX K):=by
 have akM:=aj1 (P:=P) (w:=w) (base:=base) T aG;have akN:=aj2 (P:=P) (w:=w) (base:=base) T aG;have akO:=akn (P:=P) (w:=w) (base:=base) T aG;have akP:=aj4 (P:=P) (w:=w) (base:=base) T aG;have O_:=XT (P:=P) (w:=w) (base:=base) T aG;have Pa:=XW (P:=P) (w:=w) (base:=base) T aG;refine T.aid.ok ahe (λvs H Q E h=>?_) (λaP Ar outer s H vs Q E hr h=>?_)
 ·obtain⟨C,p,dx,za,sa,bB,z,au,cy,sw,rfl,_⟩:=h
  rfl
 ·obtain⟨C,p,dx,za,sa,bB,z,au,cy,sw,rfl,cp,hp,hz,ok,h1,h2,h3,h4,hd,hS,so,q⟩:=h;refine⟨_,(aE (cI (dm (aY akM (hr.mono (by first | decide | lia)) rfl T.ah5 T.WJ.kp T.ah4 .nil aQ (ah (aa 1) ao))))
   (aE (cI (dm (aY akN (hr.mono (by first | decide | lia)) rfl T.ah7 T.WK.kp T.ah6 .nil aQ (ah (aa 1) (ah (aa 2) (ah (aa 3) ao))))))
   (aE (cI (iN (aa 0) (aY akP (hr.mono (by first | decide | lia)) rfl T.aic T.WN.kp T.aib .nil aQ (ah (aa 1) ao)) rfl))
   (aE (cI (dm (aY akO (hr.mono (by first | decide | lia)) rfl T.ah9 T.WL.kp T.ah8 .nil aQ (ah (aa 4) (ah (bY fL rfl T.eK eT (ah (cC (aa 0) rfl) ao)) ao)))))
   (aE (cI (iN (aa 0) (aa 2) rfl))
   (aE (cI (iN (aa 0) (aa 3) rfl))
   (aE (cI (iN (aa 0) (jZ vW rfl T.pH qU (ah (aa 4) ao)) rfl))
   (aE (cI (iN (aa 0) (aY O_ (hr.mono (by first | decide | lia)) rfl T.WQ T.NY.kp T.WO .nil aQ (ah (cC (aa 0) rfl) (ah ak ao))) rfl))
   (aJ (iN (aa 0) (aY Pa (hr.mono (by first | decide | lia)) rfl T.WS T.NZ.kp T.WR .nil aQ (ah (cC (aa 0) rfl) ao)) rfl)))))))))),?_⟩
  refine cJ λN1 k1=>?_;wp_walk using cp.cl,cp.n1,cp.n2,cp.n3,cp.n4,cp.n5,cp.n6;refine⟨za,bB,z,rfl,hz,ok,λH1 s1=>k1 _ _ ?_⟩;refine cJ λN2 k2=>?_;wp_walk using cp.cl,cp.n1,cp.n2,cp.n3,cp.n4,cp.n5,cp.n6;refine⟨za,bB,z,au,cy,rfl,hz.same s1,ok,h1,h2,h3,h4,hd,k2 _ _ ?_⟩;refine cJ λN3 k3=>?_;wp_walk using cp.cl,cp.n1,cp.n2,cp.n3,cp.n4,cp.n5,cp.n6;refine⟨za,bB,z,rfl,hz.same s1,ok,λa1 H2 s2 n1 e1=>?_⟩;have gX:=(s1.trans s2) _ _ hp;have gS:a1≠p:=(bX (s1 _ _ hp) n1).symm;have cl:=rF z λp hp=>(ok.r p hp).1;have akQ:=ok.CV;have c2:=ok.s2;have ux:SameBut p H H2:=.of (s1.trans s2);have fr1:H a1=none:=s1.free n1;wp_walk using cp.cl,cp.n1,cp.n2,cp.n3,cp.n4,cp.n5,cp.n6,gX;refine k3 _ _ ?_;refine cJ λN4 k4=>?_;wp_walk using cp.cl,cp.n1,cp.n2,cp.n3,cp.n4,cp.n5,cp.n6;refine⟨_,.inl (az.of ((aI gS).trans e1)),?_⟩;have O7:∀ {H':Hp},SameBut p H H'->az K H' sa (sw.map V.int):=λ{H'} sb=>by
   rcases hS with(h | ⟨o,h⟩) | h
   ·exact .inl (.inl (sb _ _ h (iZ h hp (by intro z;cases z))))
   ·exact .inl (.inr ⟨o,sb _ _ h (iZ h hp (by intro z;cases z))⟩)
   ·exact .inr h
  refine⟨sa,sw,_,rfl,O7 ux.put,?_,?_,k4 _ _ ?_⟩
  ·simpa only[List.length_map,cl] using so
  ·simp only[List.length_map];lia
  refine cJ λN5 k5=>?_;wp_walk using cp.cl,cp.n1,cp.n2,cp.n3,cp.n4,cp.n5,cp.n6;refine k5 _ _ ?_;refine cJ λN6 k6=>?_;wp_walk using cp.cl,cp.n1,cp.n2,cp.n3,cp.n4,cp.n5,cp.n6;refine k6 _ _ ?_;refine cJ λN7 k7=>?_;wp_walk using cp.cl,cp.n1,cp.n2,cp.n3,cp.n4,cp.n5,cp.n6;refine⟨_,.inl (O7 ux.put),λa2 n2=>?_⟩;have nY:p≠a2:=bX aD n2;have Yi:H2 a2=none:=by rw[aI nY.symm] at n2;exact n2
  wp_walk using cp.cl,cp.n1,cp.n2,cp.n3,cp.n4,cp.n5,cp.n6,aI nY;refine k7 _ _ ?_;have Yj:a1≠a2:=bX e1 Yi;have sf:SameBut p H (upd (upd (upd H2 p (HO.ins C dx [(Str.ofString "ring_cells",V.ref a1),(Str.ofString "lap",V.int au),(Str.ofString "skew",V.int cy)])) a2 (HO.lst (List.map V.int sw))) p
   (HO.ins C dx [(Str.ofString "ring_cells",V.ref a1),(Str.ofString "lap",V.int au),(Str.ofString "skew",V.int cy),(Str.ofString "swing",V.ref a2)])):=(ux.put.step (aj.put n2)).put
  have Ai:=e1;have fr2:H a2=none:=(s1.trans s2).free Yi;generalize Pb:upd (upd (upd H2 p _) a2 _) p _=H3 at sf ⊢;have p3:H3 p=some (HO.ins C dx [(Str.ofString "ring_cells",V.ref a1),(Str.ofString "lap",V.int au),(Str.ofString "skew",V.int cy),(Str.ofString "swing",V.ref a2)]):=by rw[← Pb,aD]
  have q1:H3 a1=some (.lst ((counts z).map V.int)):=by rw[← Pb,aI gS,aI Yj,aI gS];exact e1
  have q2:H3 a2=some (.lst (sw.map V.int)):=by rw[← Pb,aI nY.symm,aD]
  have cm:∀c∈counts z,0<=c/\c<=1000:=λc hc=>by
   obtain⟨y,hy,rfl⟩:=rG hc;have:=ok.r y hy;lia
  refine cJ λN8 k8=>?_;wp_walk using cp.cl,cp.n1,cp.n2,cp.n3,cp.n4,cp.n5,cp.n6,p3;refine⟨a1,counts z,0,rfl,az.of q1,by lia,cm,by decide,by decide,λa3 ts H4 s4 n3 EO z4=>?_⟩
  have p4:=s4 _ _ p3;have uW:a3≠p:=(bX p3 n3).symm;have tK:H a3=none:=by
   cases e:H a3 with
   | none=>rfl
   | some o=>rw[sf _ _ e uW] at n3;cases n3
  have Pc:∀t∈ts,t≠p:=λt ht=>(bX p3 (EO t ht)).symm;have frt:∀t∈ts,H t=none:=λt ht=>by
   cases e:H t with
   | none=>rfl
   | some o=>have:=sf _ _ e (Pc t ht);rw[EO t ht] at this;cases this
  wp_walk using cp.cl,cp.n1,cp.n2,cp.n3,cp.n4,cp.n5,cp.n6,p4;refine k8 _ _ ?_;have z5:=z4.keep (H':=upd H4 p (HO.ins C dx [(Str.ofString "ring_cells",V.ref a1),(Str.ofString "lap",V.int au),(Str.ofString "skew",V.int cy),(Str.ofString "swing",V.ref a2),(Str.ofString "number_cells",V.ref a3)])) (aI uW) λt ht=>aI (Pc t ht);have zl:(gi (counts z) 0).length<=1000000:=by
   have:=CW (s:=0) (by decide) (counts z) 0 cm
   have e:(counts z).length<=120:=by lia
   unfold gi;lia
  wp_walk using cp.cl,cp.n1,cp.n2,cp.n3,cp.n4,cp.n5,cp.n6;refine⟨a3,ts,_,rfl,z5,zl,λa4 H5 s5 n4 e4=>?_⟩;have uX:a4≠p:=(bX aD n4).symm;have sb5:SameBut p H H5:=((sf.step s4).put).step s5;have Yk:H4 a4=none:=by rw[aI uX] at n4;exact n4
  have fr4:H a4=none:=by
   cases e:H a4 with
   | none=>rfl
   | some o=>rw[(sf.step s4) _ _ e uX] at Yk;cases Yk
  wp_walk using cp.cl,cp.n1,cp.n2,cp.n3,cp.n4,cp.n5,cp.n6,s5 _ _ aD;refine q _ dx a1 a2 a3 a4 ts sb5.put ?_ aD (qm.lit cp aD ?_ ?_ ?_ ?_)
  ·intro b hb;simp only[List.mem_cons] at hb;rcases hb with rfl | rfl | rfl | rfl | hb
   ·exact fr1
   ·exact fr2
   ·exact tK
   ·exact fr4
   ·exact frt b hb
  ·rw[aI gS];exact s5 _ _ ((aI gS).trans (s4 _ _ q1))
  ·rw[aI nY.symm];exact s5 _ _ ((aI nY.symm).trans (s4 _ _ q2))
  ·exact(z5.same s5).keep (aI uW) λt ht=>aI (Pc t ht)
  ·rw[aI uX];exact e4
theorem akR(T:Tx K mg A)(aG:bE mg base A.bu A.aZ):a_ P w K mg base bx 3 A.ML A.MM ["ring_cells", "spares", "number_cells", "bad_cells"] (afc K A.aZ (qw g_) (qx "nearest_rings")):=by
 have akS:=aj9 (P:=P) (w:=w) (base:=base) T aG;have akT:=aks (P:=P) (w:=w) (base:=base) T aG;refine T.W3.ok w_ (λvs H Q E h=>?_) (λaP Ar outer s H vs Q E hr h=>?_)
 ·obtain⟨ra,na,d,sp,rc,ts,z,bz,rfl,_⟩:=h
  rfl
 ·obtain⟨ra,na,d,sp,rc,ts,z,bz,rfl,EL,h2,kR,s0,s1,hc,hz,hlen,hd,wO,Yl,tab,en,q⟩:=h;have hu:=qj hr;refine⟨_,(aE (aU (i:=4) w_.nd rfl (Or.inl rfl) (dG ao))
   (aE (aU (i:=5) w_.nd rfl (Or.inl rfl) (jZ aeZ rfl T.OE boot_dict (ah (pv 3) ao)))
   (aE (dP dj rfl (dX (aY akS (hr.mono (by first | decide | lia)) rfl T.aiO T.WZ.kp T.aiN .nil aQ (ah (pv 2) (ah (pv 3) ao)))) (bI (i:=6) w_.nd rfl (Or.inl rfl))
   (aE (aU (i:=7) w_.nd rfl (Or.inl rfl) (aH qg (pv 2) (pv 6) (λ_ _=>rfl)))
   (aE (aU (i:=8) w_.nd rfl (Or.inl rfl) (aY akT (hr.mono (by first | decide | lia)) rfl T.aiS T.W2.kp T.aiR .nil aQ (ah (pv 0) (ah (pv 1) (ah (aH vU (pv 7) ak (λ_ _=>rfl)) (ah (pv 5) ao))))))
   (aE (dw (dz R1 (pv 8) qX (bM _)) iC b7)
   (aE (zw hu (pv 5) (pv 8) gb rfl)
   (aJ (dm (lN jS mJ mK lO (pv 4) (ah (cL (ah (pv 6) (ah (pv 7) (ah (pv 8) ao)))) ao)))))))))
   (aJ (bF (pv 4)))))),?_⟩
  walk_at "rdm";refine λl hl=>?_;have bk:(cS bz).map (λx=>x.1)=bz.map kT:=by unfold cS;rw[List.map_map];rfl
  refine⟨_,aj.put hl _ _ hd,by rw[bk];exact wO,λu nu=>?_⟩
  have Pd:=(aj.put (o:=.lst []) hl).trans (aj.put (o:=.dT (cS bz)) nu);have nuH:H u=none:=(aj.put (o:=.lst []) hl).free nu;refine zJ ?_;walk_at "rdm";refine⟨na,d,ts,z,cS bz,rfl,hz.same Pd,hlen,Pd _ _ hd,λb H2 s2 nb eb=>⟨b,rfl,?_⟩⟩;rw[DF,sO] at eb;have s3:=Pd.trans s2;have el:H2 l=some (.lst []):=s2 _ _ (aj.put nu _ _ aD);have eu:H2 u=some (.dT (cS bz)):=s2 _ _ aD;have lu:l≠u:=bX aD nu;have xj:b≠l:=(bX (aj.put nu _ _ aD) nb).symm;have hbu:b≠u:=(bX aD nb).symm;refine rH.by b ((fu bz 0 z).map (V.int ∘ λ(n:Nat)=>(n:Int))) (λi σ H'=>∃x y w us os ms,σ = [some (.ref ra),some (.int sp),some (.ref na),some (.ref d),some (.ref l),some (.ref u),x,y,w]/\Kp A.aZ (qw g_) (qx "nearest_rings") H H'/\
    H' b=some (.lst ((fu bz 0 z).map (V.int ∘ λ(n:Nat)=>(n:Int))))/\H' u=some (.dT (cS (bz++ms.map λm=>m.2.2)))/\lZ rc sp z bz ((fu bz 0 z).take i) ms/\jj H' l ts us os ms/\∀t∈os,H t=none)
   (az.of eb) ⟨none,none,none,[],[],[],rfl,Kp.of tab s3,eb,by simpa using eu,.nil,⟨el,rfl,rfl,λi u m e=>by cases e⟩,λt z=>by cases z⟩ (by rintro i σ H' _ ⟨x,y,w,us,os,ms,rfl,k,hb,_⟩;exact az.of hb) ?_ ?_
  ·rintro i x σ H' N hN hx ⟨x0,y0,w0,us,os,ms,rfl,k,hb,qO,hL,hM,qe⟩;obtain⟨n,hn,rfl⟩:=e8 hx;obtain⟨_,c,ES,hcb⟩:=UU (get_mem hn);rw[BQ] at ES;have nZ:Zn H' na ts z:=⟨k.get tab hz.l,hz.n,λi t p e1 e2=>k.get tab (hz.t i t p e1 e2)⟩;simp only[Function.comp_apply,rY,mI,pC,An,Ao,uL,D9,w5,qE,qF,w6,Jg,Aq,Jh,D4,Ab,yU,DJ,DK,De,Dm,Dj,Di,zS,Ih,C7,qq,C8,C6,zd,wu,rB,yZ,ze,Ct,Ag,IW,yT,yS,yR,yW,yV,and_assoc,B8,HO.ins.injEq,CU,wk,fW,String.reduceBEq,List.lookup_cons,List.lookup_nil,aD,HO.lst.injEq,HO.dT.injEq,HO.tup.injEq,String.reduceEq,false_and,or_false,false_or,oM,zy,zx,zu,zm,zo,zq,zA,Bool.not_eq_true',decide_eq_false_iff_not,Classical.not_not,yt,if_false_left,if_false_right,zE,ym,jF,List.length_map,List.getElem?_nil,vC,tw,oB,vF,s_,tu,yu,vA,tC,q_,iR,rI,yE,rU,yJ,tB,yr,yq,Ck,vD,vP,yM,vM,tR,yp,yd,qZ,yf,yi,yj,yl,yO,yN,y9,rC,y_,zb,zf,zg,vR,tX,yG,yH,Jl,Jm,Jo,Jp,Jq,Jr,Js,Jt,tN,yF,Cs,vL,yL,Cv,yP,_L.start,HL,HM,I_,List.map_cons,List.map_nil,List.cons_append,List.nil_append,List.append_nil,List.length_cons,List.length_nil,List.getElem?_cons_zero,List.getElem?_cons_succ,Option.some.injEq,exists_eq_left,exists_eq_left',exists_and_left,exists_eq,V.int.injEq,V.ref.injEq,V.bl.injEq,V.ty.injEq,V.str.injEq,List.cons.injEq,and_true,true_and,List.set_cons_zero,List.set_cons_succ,decide_eq_true_eq,Nat.reduceSub,Nat.reduceAdd,List.replicate_succ,List.replicate_zero,List.replicate,Int.reduceLT,Int.reduceLE,Int.reducePow,Int.reduceToNat,Int.reduceNeg,Nat.reduceLT,Nat.reduceLeDiff,Nat.reducePow,Int.reduceMul,Int.reduceAdd,Int.reduceSub,and_self,or_true,true_or,gt_iff_lt,ge_iff_le,if_true,if_false,Bool.false_eq_true,reduceIte,Nat.sub_self,Nat.sub_zero];have hnl:n<ts.length:=by rw[hz.n];exact dB ES
   obtain⟨t,g1⟩:∃t,ts[n]? = some t:=⟨_,aX hnl⟩;have g2:(ts.map V.ref)[n]? = some (V.ref t):=by rw[ju,g1];rfl
   have ht:=nZ.t n t c g1 ES;have akU:=hL.len;rw[d9] at akU;have qL:=dB hn;have bl:=afb bz z;refine⟨_,nZ.sq,_,rA g2,t,rfl,_,aL.of ht,_,rfl,?_⟩;refine⟨ra,u,c.1,sp,rc,bz++ms.map (λm=>m.2.2),rfl,k.seq tab EL,h2,kR,s0,s1,hc,qO,k.t,λis H3 ord k3=>⟨λz=>absurd z (en _ _ _ (by rw[aR];lia) ord),λo to hf nto Pe=>?_⟩⟩
   have sr:=k3.get k.t qO;have ho:=ae7 hf;have hM3:=hM.but k.t k3;have Ym:=hM3.other (o:=.dT (putK (cS (bz++ms.map λm=>m.2.2)) (kT o) (.bl true))) ⟨_,sr⟩;have kA:=(k.trans k3).put (o:=.dT (putK (cS (bz++ms.map λm=>m.2.2)) (kT o) (.bl true))) nuH sr;have l4:=Ym.l;refine⟨(by intro z;cases z),_,lQ.t (k:=kT o) sr Pe (by rw[oM,cS,aR,fE,aR];lia),⟨_,az.of l4⟩,λp np=>?_⟩
   have su:=aj.put (o:=HO.tup [V.int (n:Int),V.ref t,V.ref to]) np;have e9:cS (bz++(ms++[(n,c,o)]).map λm=>m.2.2)=putK (cS (bz++ms.map λm=>m.2.2)) (kT o) (.bl true):=by
    rw[UW _ ho,bZ,← sM];rfl
   have t3:=k3.get k.t ht;refine⟨_,su _ _ l4,by rw[aR,hM.n];lia,hN _ _ ⟨_,_,_,us++[p],os++[to],ms++[(n,c,o)],rfl,?_,?_,?_,?_,?_,?_⟩⟩
   ·exact(kA.step su).put hl (su _ _ l4)
   ·rw[aI xj];refine su _ _ ?_;rw[aI hbu];exact k3.get k.t hb
   ·rw[aI lu.symm,e9];exact su _ _ aD
   ·rw[take_succ_get hn];exact hL.snoc ES ord hf
   ·refine(Ym.same su).snoc (m:=(n,c,o)) aD g1 (su _ _ ?_) (su _ _ ?_)
    ·rw[aI (iZ t3 sr (by intro z;cases z))];exact t3
    ·rw[aI (iZ Pe sr (by intro z;cases z))];exact Pe
   ·intro t' k_;rcases fM.mp k_ with h' | h'
    ·exact qe t' h'
    ·rw[gw.mp h'];exact k.free nto
  ·rintro σ H' ⟨x,y,w,us,os,ms,rfl,k,hb,qO,hL,hM,qe⟩;walk_at "rdm";rw[aR,eE] at hL;exact q l us os ms H' k hl qe hL hM
theorem akV(T:Tx K mg A)(aG:bE mg base A.bu A.aZ):a_ P w K mg base bx 3 A.M5 A.M7 ["_law_plate_here", "_law_spec_here", "_law_spot_here", "_law_cell"] (afL K [A.bG,A.br]):=by
 have Yn:=akq (P:=P) (w:=w) (base:=base) T aG;refine T.W8.ok rZ (λvs H Q E h=>?_) (λaP Ar outer s H vs Q E hr h=>?_)
 ·obtain⟨C,p,t,sp,z,au,sk,sw,za,bB,ca,sa,nc,fp,r,b,c,rfl,_⟩:=h
  rfl
 ·obtain⟨C,p,t,sp,z,au,sk,sw,za,bB,ca,sa,nc,fp,r,b,c,rfl,hC,hP,nk,hS,ok,dQ,r0,r1,q⟩:=h;refine⟨_,(aE (aU (i:=4) rZ.nd rfl (Or.inl rfl) (tW CG (gR (N:=["_law_k", "_law_plate_here", "_law_spot_here"]) (nt:=1) (fv:=[0,2]) (cN.of rfl rfl (by rfl) (by rfl) (by repeat (first | exact trivial | refine⟨rfl,?_⟩)) (by rfl) (by rfl) (by rfl) (by decide) (by decide +kernel)) rfl (kN rfl T.fZ (ah (aH qg (aH bJ (aa 1) ak (λ_ _=>rfl)) (aH bJ (aa 2) ak (λ_ _=>rfl)) (λ_ _=>rfl)) ao)) (λC s H fp=>(bI (i:=0) (show List.Nodup (["_law_k", "_law_plate_here", "_law_spot_here"]:List Str) by decide +kernel) rfl (Or.inl rfl))) (λC s H fp=>(oK (dz R3 (nq (aa 1) T.XO Yn (hr.mono (by first | decide | lia)) T.WW .nil aQ (ah (aH (l8 (K:=K) rfl) (aa 2) ak (λ_ _=>rfl)) (ah (aa 0) ao))) qX (bM _)))) (λC s H fp=>(aa 0))) tU (tV ak)))
   (aE (aU (i:=5) rZ.nd rfl (Or.inl rfl) (aF fY (aa 3) (aF dR (bY fL rfl T.eK eT (ah (aa 4) ao)) ak)))
   (aE (aU (i:=4) rZ.nd rfl (Or.inl rfl) (aF vY (tW CG (aa 4) (tV (aa 5)) tU) (tW CG (aa 4) tU (tV (aa 5)))))
   (aE (qA (jO (eO Ji (aF fY (aF kq (aa 3) ak) ak) ak (bM _)) (aJ (aU (i:=4) rZ.nd rfl (Or.inl rfl) (afn (aa 4) (tM tO ak)))) b7))
   (aE (aU (i:=6) rZ.nd rfl (Or.inl rfl) (dG ao))
   (aE (dP dj rfl (kN rfl T.fZ (ah (bY fL rfl T.eK eT (ah (aa 4) ao)) ao)) (bI (i:=7) rZ.nd rfl (Or.inl rfl))
   (aE (aU (i:=8) rZ.nd rfl (Or.inl rfl) (nq (aa 0) T.XO Yn (hr.mono (by first | decide | lia)) T.WW .nil aQ (ah (aH bJ (aa 2) ak (λ_ _=>rfl)) (ah (aH bT (aa 4) (aa 7) (λ_ _=>rfl)) ao))))
   (aJ (dm (lN jS mJ mK lO (aa 6) (ah (cL (ah (aF dR (aF l7 ak (aa 7)) (aF fY (aF kq (aa 3) ak) ak)) (ah (aa 8) (ah ak (ah gb (ah (cL ao) (ah qX (ah (dG (ah (cL (ah (aH bJ (aa 2) ak (λ_ _=>rfl)) (ah (aH bT (aa 4) (aa 7) (λ_ _=>rfl)) ao))) ao)) ao)))))))) ao))))))
   (aJ (bF (aa 6))))))))),?_⟩
  walk_at "rdm";have ET:=aL.of (K:=K) hS.o;have kp:=aL.of (K:=K) dQ;have cr:1<=(counts z).getD r.toNat 0/\(counts z).getD r.toNat 0<=60:=by
   obtain⟨y,hy,e⟩:=rG (get_mem (zI (counts z) (show r.toNat<(counts z).length by lia)))
   have:=ok.zl.ok.r y hy;rw[e];lia
  refine zN ((counts z).getD r.toNat 0) (λD i ys aC H2=>∃(u:Option V) (xs:List Int),ys=xs.map V.int/\aC = [u,some (.ref p),some (.ref sp)]/\H2 D=some (.lst ys)/\aj H H2/\H D=none/\xs.length<=i/\i<=60/\∀x∈xs,(r,x)∈nc/\0<=x/\x<(counts z).getD r.toNat 0) (λQ q=>?_) (by lia) (by lia) ?_ ?_ ?_ ?_
  ·walk_at "rdm";refine⟨_,ET,_,rfl,_,kp,_,rfl,?_⟩;walk_at "rdm";exact⟨_,az.of hS.c,_,gG r0 r1,q⟩
  ·intro D hD;exact⟨none,[],rfl,rfl,aD,aj.put hD,hD,bH _,by lia,λ_ h=>nomatch h⟩
  ·rintro D i ys aC H2 ⟨u,xs,rfl,rfl,e1,e2,e3,e4,e5,e6⟩;exact⟨e1,gh (by rw[aR];lia)⟩
  ·rintro D i ys aC H2 N hN hi ⟨u,xs,rfl,rfl,e1,e2,e3,e4,e5,e6⟩;walk_at "rdm";obtain⟨lg,a1,a2,a3,a4,fz,fs,qN,hA⟩:=hP.same e2;have i1:(i:Int)<(counts z).getD r.toNat 0:=by lia
   refine⟨C,lg,fs,hA.o,hC,hA.gI,_,e2.gH kp,_,rfl,C,p,bO z au sk sw nc,fp,r,(i:Int),rfl,hC,hP.same e2,r0,r1,by lia,i1,λH3 s3=>?_⟩
   show if ¬ (c8 (ql nc) (kT (r,(i:Int)))).getD .aO = .aO then _ else _
   by_cases kZ:(r,(i:Int))∈nc
   ·obtain⟨j,ej,ev⟩:=Vk kZ;rw[ev,Option.getD_some,if_pos (by simp)]
    refine⟨s3 _ _ e1,hN _ _ _ ⟨_,xs++[(i:Int)],by rw[bZ];rfl,rfl,aD,aj.put2 (e2.trans s3) e3,e3,by simp;lia,by lia,λx hx=>?_⟩⟩
    rcases fM.mp hx with hx | hx
    ·exact e6 x hx
    ·rw[gw.mp hx];exact⟨kZ,by lia,i1⟩
   ·rw[afI kZ,Option.getD_none,if_neg (by simp)]
    exact hN _ _ _ ⟨_,xs,rfl,rfl,s3 _ _ e1,e2.trans s3,e3,by lia,by lia,e6⟩
  ·rintro D ys aC H2 ⟨u,xs,rfl,rfl,e1,e2,e3,e4,e5,e6⟩;walk_at "rdm";refine⟨_,az.of e1,λl1 n1=>?_⟩;rw[TM (by decide)]
   have Pf:wR (counts z) nc r (xs.take (Int.toNat 7)):=⟨λx hx=>e6 x (pR hx),by rw[d9];lia⟩
   have p7:(xs.take (Int.toNat 7)).length<=7:=by rw[d9];exact Nat.min_le_left _ _
   generalize xs.take (Int.toNat 7)=ys at Pf p7 ⊢;have s1:=e2.trans (aj.put (o:=.lst (ys.map V.int)) n1);have h1:upd H2 l1 (.lst (ys.map V.int)) l1=some (.lst (ys.map V.int)):=aD;generalize upd H2 l1 (.lst (ys.map V.int))=H3 at s1 h1 ⊢;refine⟨_,.inl (az.of h1),by lia,_,az.of h1,λl2 n2=>?_⟩
   rw[aR];have a0:=fD c (show (ys.length:Int)+1≠0 by lia)
   have a1:=fB c (show (0:Int)<(ys.length:Int)+1 by lia)
   generalize c % ((ys.length:Int)+1)=at' at a0 a1 ⊢;rw[afK a0];have s2:=aj.put (o:=.lst ((ys.drop at'.toNat).map V.int)) n2;have h2:upd H3 l2 (.lst ((ys.drop at'.toNat).map V.int)) l2=some (.lst ((ys.drop at'.toNat).map V.int)):=aD;generalize upd H3 l2 (.lst ((ys.drop at'.toNat).map V.int))=H4 at s2 h2 ⊢;refine⟨_,az.of (s2 _ _ h1),λl3 n3=>?_⟩;rw[TM a0];have s3:=aj.put (o:=.lst ((ys.take at'.toNat).map V.int)) n3;generalize upd H4 l3 (.lst ((ys.take at'.toNat).map V.int))=H5 at s3 ⊢;refine⟨_,s3 _ _ h2,by simp only[List.length_map,List.length_drop,List.length_take];lia,λl4 n4=>?_⟩
   rw[← bZ];have EU:wR (counts z) nc r (ys.drop at'.toNat++ys.take at'.toNat):=Pf.sub (λy hy=>by
    rcases fM.mp hy with h | h
    ·exact Gi h
    ·exact pR h) (by rw[fE,xN,d9];lia)
   have EV:(ys.drop at'.toNat++ys.take at'.toNat).length<=7:=by rw[fE,xN,d9];lia
   generalize ys.drop at'.toNat++ys.take at'.toNat=us at EU EV ⊢;have s4:=(s1.trans (s2.trans s3)).trans (aj.put (o:=.lst (us.map V.int)) n4);have h4:upd H5 l4 (.lst (us.map V.int)) l4=some (.lst (us.map V.int)):=aD;generalize upd H5 l4 (.lst (us.map V.int))=H6 at s4 h4 ⊢;refine⟨λσ H7=>∃(l5:Addr) (vs:List Int),σ = [some (.ref p),some (.ref t),some (.ref sp),some (.int c),some (.ref l5),some (.int at'),none,none,none]/\aj H H7/\H7 l5=some (.lst (vs.map V.int))/\wR (counts z) nc r vs/\vs.length<=7,cG (λ_=>⟨_,az.of h4,λl5 n5=>⟨l5,us.reverse,rfl,s4.trans (aj.put n5),by rw[aD,List.map_reverse],EU.sub (λy hy=>by simpa using hy) (by simp),by simpa using EV⟩⟩) λ_=>⟨l4,us,rfl,s4,h4,EU,EV⟩,?_⟩
   rintro σ H7 ⟨l5,vs,rfl,s7,h5,pl5,p75⟩;clear h4 s4 EU EV n4 s3 n3 s2 h2 n2 a0 a1 s1 h1 n1 e1 e2 e3 e4 e5 e6 Pf p7;walk_at "rdm";intro l nl;have xm:=hP.same s7;have Yo:=s7.gH kp;have c0:=fD (c / 16) (show (2:Int)≠0 by decide)
   have c1:=fB (c / 16) (show (0:Int)<2 by decide)
   refine CY vs.length (λi σ H8=>∃(x y:Option V) (ts:List Addr) (ks:List Kn),σ = [some (.ref p),some (.ref t),some (.ref sp),some (.int c),some (.ref l5),some (.int at'),some (.ref l),x,y]/\aj H7 H8/\nN H7 H8 l ts ks/\ks.length=i/\(∀k∈ks,uB nc k/\k.n<2*(i:Int))/\ks.Pairwise λa b=>a.n<b.n) (λQ q=>?_) (by lia) ⟨none,none,[],[],rfl,aj.put nl,⟨aD,rfl,nl,λi t k e=>by simp at e⟩,rfl,(λ_ h=>nomatch h),.nil⟩ ?_ ?_
   ·walk_at "rdm";refine⟨_,.inl (az.of (aj.put nl _ _ h5)),?_⟩;rw[aR];exact q
   ·rintro i σ H8 N hN hi ⟨x,y,ts,ks,rfl,s8,hg,gn,gk,gp⟩;walk_at "rdm";obtain⟨lg,a1,a2,a3,a4,fz,fs,qN,hA⟩:=xm.same s8;have vi:vs[i]? = some vs[i]:=aX hi;obtain⟨w1,w2,w3⟩:=pl5.i vs[i] (cO hi);refine⟨C,lg,fs,hA.o,hC,hA.gI,_,s8.gH Yo,_,rfl,_,az.of (s8 _ _ h5),_,rA (by rw[ju,vi];rfl),C,p,bO z au sk sw nc,fp,r,vs[i],rfl,hC,xm.same s8,r0,r1,w2,w3,λH9 s9=>?_⟩
    obtain⟨j,ej,ev⟩:=Vk w1;have ev':(c8 (ql (bO z au sk sw nc).nc) (kT (r,vs[i]))).getD .aO = .int (j:Int):=by show (c8 (ql nc) (kT (r,vs[i]))).getD .aO=_;rw[ev];rfl
    rw[ev']
    try walk_at "rdm"
    have Pg:=hg.same s9;refine⟨⟨_,az.of Pg.hl⟩,λe1 ne1=>?_⟩;have t1:=aj.put (o:=.tup []) ne1;have Yp:upd H9 e1 (.tup []) e1=some (.tup []):=aD;generalize upd H9 e1 (.tup [])=HA at t1 Yp ⊢;have Ph:=s8.trans s9;refine⟨_,(Ph.trans t1).gH Yo,_,rfl,_,az.of (t1 _ _ (Ph _ _ h5)),_,rA (by rw[ju,vi];rfl),λe2 ne2 e3 ne3 e4 ne4=>?_⟩
    have t2:=aj.put (o:=.tup [V.int r,V.int vs[i]]) ne2;have Yq:=Zn.one (c:=(r,vs[i])) (aD (H:=HA) (a:=e2)) ne3;have t3:=t2.trans (aj.put (o:=.lst [V.ref e2]) ne3);generalize upd (upd HA e2 (.tup [V.int r,V.int vs[i]])) e3 (.lst [V.ref e2])=HB at t3 Yq ne4 ⊢;have t4:=aj.put (o:=.tup [V.int (2*(i:Int)+c / 16 % 2),V.int (j:Int),V.int 1,V.bl false,V.ref e1,V.aO,V.ref e3]) ne4;have t9:=t1.trans (t3.trans t4);have nel:e3≠l:=by
     intro z;have:=t1 _ _ Pg.hl;rw[← z] at this;have n2:HA e3=none:=t2.free ne3;rw[n2] at this;cases this
    have hK:iH (upd HB e4 (.tup [V.int (2*(i:Int)+c / 16 % 2),V.int (j:Int),V.int 1,V.bl false,V.ref e1,V.aO,V.ref e3])) e4 ⟨2*(i:Int)+c / 16 % 2,(j:Int),1,false,[],none,[(r,vs[i])]⟩ e1 e3 [e2]:=⟨aD,(t3.trans t4) _ _ Yp,Yq.same t4⟩;have Yr:=Pg.same t9;have jl:j<nc.length:=dB ej;refine⟨_,Yr.hl,by rw[aR,hg.n,gn];lia,hN _ _ ⟨_,_,ts++[e4],ks++[_],rfl,aj.put2 (Ph.trans t9) nl,Yr.snoc hK nel,by simp[gn],λk hk=>?_,?_⟩⟩
    ·rcases fM.mp hk with hk | hk
     ·have:=gk k hk;exact⟨this.1,by have:=this.2;lia⟩
     ·rw[gw.mp hk];exact⟨⟨by dsimp only;lia,by dsimp only;lia,by dsimp only;lia,by dsimp only;lia,(afJ ej).symm,nG.nil,λx hx=>by cases hx⟩,by dsimp only;lia⟩
    ·rw[Gm];refine⟨gp,by simp,λk hk k' nM=>?_⟩
     rw[gw.mp nM];have:=(gk k hk).2;dsimp only;lia
   ·rintro σ H8 ⟨x,y,ts,ks,rfl,s8,hg,gn,gk,gp⟩;walk_at "rdm";exact q l ts ks H8 (s7.trans s8) (s7.free nl) hg.Ac ⟨λk hk=>(gk k hk).1,gp,by lia⟩
theorem akW(T:Tx K mg A)(aG:bE mg base A.bu A.aZ):a_ P w K mg base bx 3 A.M8 A.M9 ["_law_spec_here", "_law_spot_here", "_law_known_here"] (afF K):=by
 have A1:=O8 (P:=P) (w:=w) (base:=base) T aG;refine T.W9.ok Ay (λvs H Q E h=>?_) (λaP Ar outer s H vs Q E hr h=>?_)
 ·obtain⟨t,sp,kl,z,au,sk,sw,za,bB,ca,sa,r,b,cM,ks,rfl,_⟩:=h
  rfl
 ·obtain⟨t,sp,kl,z,au,sk,sw,za,bB,ca,sa,r,b,cM,ks,rfl,hS,ok,dQ,r0,r1,b0,b1,hk,kc,Ys,q⟩:=h;refine⟨_,(aE (dP dj rfl (dX (aa 2)) (bI (i:=3) Ay.nd rfl (Or.inl rfl))
   (aJ (aU (i:=1) Ay.nd rfl (Or.inl rfl) (aY A1 (hr.mono (by first | decide | lia)) rfl T.Od T.EG.kp T.Oc .nil aQ (ah (aa 0) (ah (aH bJ (aa 1) ak (λ_ _=>rfl)) (ah (aH bJ (aa 1) ak (λ_ _=>rfl)) (ah (aH bJ (aa 3) ak (λ_ _=>rfl)) ao))))))))
   (aE (aU (i:=4) Ay.nd rfl (Or.inl rfl) (dG ao))
   (aE (dP dj rfl (kN rfl T.fZ (ah (bY fL rfl T.eK eT (ah (aa 2) ao)) ao)) (bI (i:=5) Ay.nd rfl (Or.inl rfl))
   (aJ (dm (lN jS mJ mK lO (aa 4) (ah (aF G9 (aF G9 (tW G8 (aH bT (aa 2) (aa 5) (λ_ _=>rfl)) tU (tV ak)) (cL (ah (aF oG (aF oG (aF d_ (aH bJ (aa 1) ak (λ_ _=>rfl)) (bY fL rfl T.eK eT (ah (aa 2) ao))) ak) (aa 5)) ao))) (tW G8 (aH bT (aa 2) (aa 5) (λ_ _=>rfl)) (tV ak) tU)) ao)))))
   (aJ (bF (aa 4)))))),?_⟩
  walk_at "rdm";have gv:=hk.n;have pk:=ok.pl [];have l2:(bO z au sk sw []).au<=1000000000:=ok.l2;have r1':r<((bO z au sk sw []).rc.length:Int):=r1;refine rl kl (cM.map V.ref) (λi σ H'=>∃(x:Option V) (u:Addr) (st:Int×Int),σ = [some (.ref t),some (.ref u),some (.ref kl),x,none,none]/\aj H H'/\H' u=some (.tup [.int st.1,.int st.2])/\0<=st.1/\st.1<(counts z).length/\0<=st.2/\st.2<=2000000000000+48000000000*(i:Int)) (λQ q=>q) hk.sq ⟨none,sp,(r,b),rfl,aj.refl _,dQ,r0,r1,b0,by dsimp only;lia⟩ (by rintro i σ H' _ ⟨_,_,_,rfl,s',_⟩;exact(hk.same s').sq) ?_ ?_
  ·rintro i x σ H' N hN hx ⟨x0,u,st,rfl,s',hu,u0,u1,t0,t1⟩;obtain⟨a,ha,rfl⟩:=e8 hx;have hi:i<ks.length:=by rw[← gv];exact dB ha
   obtain⟨b',cl,bC,hK⟩:=(hk.same s').t i a ks[i] ha (aX hi);obtain⟨c1,c2⟩:=kc ks[i] (cO hi);have k1:=aL.of (K:=K) hK.o;have k2:=aL.of (K:=K) hu;walk_at "rdm";have eb:=DN pk l2 ks[i].c st c1;have ei:=kU (bO z au sk sw []) (n:=((bO z au sk sw []).rc.length:Int)) ks[i].c st u0 u1 λq hq=>⟨(c1 q hq).1,(c1 q hq).2.1⟩;refine⟨_,k2,_,rfl,_,k2,_,rfl,_,k1,_,rfl,t,z,au,sk,sw,za,bB,ca,sa,st.1,st.2,cl,bC,ks[i].c,rfl,hS.same s',ok,u0,u1,hK.c,c1,by lia,λu2 H2 s2 nu xq=>hN _ _ ⟨_,u2,bf (bO z au sk sw []) st ks[i].c,rfl,s'.trans s2,xq,ei.1,ei.2,by lia,by lia⟩⟩
  ·rintro σ H' ⟨x0,u,st,rfl,s',hu,u0,u1,t0,t1⟩;rw[aR,gv] at t1;walk_at "rdm";intro l nl;have ER:=hk.same s';have k2:=aL.of (K:=K) hu;refine CY ks.length (λi σ H2=>∃(x y:Option V) (ts:List Addr) (iI:List Kn),σ = [some (.ref t),some (.ref u),some (.ref kl),x0,some (.ref l),y]/\aj H' H2/\nN H' H2 l ts iI/\iI.length=i/\∀(j:Nat) (k:Kn),j<i->ks[j]? = some k->∃x,0<=x/\x<=10000000000000/\iI[j]? = some { k with lV:=some x }) (λQ q=>?_) (by lia) ⟨none,none,[],[],rfl,aj.put nl,⟨aD,rfl,nl,λi t k e=>by simp at e⟩,rfl,λj k h=>absurd h (by lia)⟩ ?_ ?_
   ·walk_at "rdm";refine⟨_,.inl (ER.same (aj.put nl)).sq,?_⟩;rw[aR,gv];exact q
   ·rintro i σ H2 N hN hi ⟨x,y,ts,iI,rfl,s2,hg,gn,ge⟩;have kD:=ER.same s2;obtain⟨a,b',cl,bC,ha,Yt⟩:=ER.at hi;have ncl:cl≠l:=bX Yt.c.l nl;have hK:=Yt.same s2;have k1:=aL.of (K:=K) hK.o;walk_at "rdm";refine⟨⟨_,az.of hg.hl⟩,_,kD.sq,_,rA ha,a,_,rfl,k1,by simp[_H.bQ],λc1 nc1=>?_⟩
    rw[afG];have s3:=aj.put (o:=.tup [V.int ks[i].n,V.int ks[i].f,V.int ks[i].m,V.bl ks[i].w,V.ref b']) nc1;have Yu:upd H2 c1 (.tup [V.int ks[i].n,V.int ks[i].f,V.int ks[i].m,V.bl ks[i].w,V.ref b']) c1=some (.tup [V.int ks[i].n,V.int ks[i].f,V.int ks[i].m,V.bl ks[i].w,V.ref b']):=aD;generalize upd H2 c1 (.tup [V.int ks[i].n,V.int ks[i].f,V.int ks[i].m,V.bl ks[i].w,V.ref b'])=H3 at s3 Yu ⊢;refine⟨_,(s2.trans s3).gH k2,_,rfl,_,.inl (kD.same s3).sq,_,rfl,λp1 gS=>?_⟩;rw[aR,gv];have s4:=aj.put (o:=.tup [V.int (st.2+(ks.length:Int) - 1 - (i:Int))]) gS;have pI:upd H3 p1 (.tup [V.int (st.2+(ks.length:Int) - 1 - (i:Int))]) p1=some (.tup [V.int (st.2+(ks.length:Int) - 1 - (i:Int))]):=aD;generalize upd H3 p1 (.tup [V.int (st.2+(ks.length:Int) - 1 - (i:Int))])=H4 at s4 pI ⊢;refine⟨c1,rfl,_,aL.of (s4 _ _ Yu),_,aL.of pI,by simp,by simp,λe=>by simp at e,λ_ p2 nY=>?_⟩
    have s5:=aj.put (o:=.tup ([V.int ks[i].n,V.int ks[i].f,V.int ks[i].m,V.bl ks[i].w,V.ref b']++[V.int (st.2+(ks.length:Int) - 1 - (i:Int))])) nY;have gX:upd H4 p2 (.tup ([V.int ks[i].n,V.int ks[i].f,V.int ks[i].m,V.bl ks[i].w,V.ref b']++[V.int (st.2+(ks.length:Int) - 1 - (i:Int))])) p2=some (.tup ([V.int ks[i].n,V.int ks[i].f,V.int ks[i].m,V.bl ks[i].w,V.ref b']++[V.int (st.2+(ks.length:Int) - 1 - (i:Int))])):=aD;generalize upd H4 p2 (.tup ([V.int ks[i].n,V.int ks[i].f,V.int ks[i].m,V.bl ks[i].w,V.ref b']++[V.int (st.2+(ks.length:Int) - 1 - (i:Int))]))=H5 at s5 gX ⊢;have Pj:=s3.trans (s4.trans s5);refine⟨_,(kD.same Pj).sq,_,rA ha,a,_,rfl,Pj.gH k1,by simp[_H.bQ],λp3 uW=>?_⟩
    rw[afH];have s6:=aj.put (o:=.tup [V.ref cl]) uW;have qC:upd H5 p3 (.tup [V.ref cl]) p3=some (.tup [V.ref cl]):=aD;generalize upd H5 p3 (.tup [V.ref cl])=H6 at s6 qC ⊢
    try walk_at "rdm"
    refine⟨_,aL.of (s6 _ _ gX),_,aL.of qC,by simp,by simp,λe=>by simp at e,λ_ p4 uX=>?_⟩
    have s7:=aj.put (o:=.tup ([V.int ks[i].n,V.int ks[i].f,V.int ks[i].m,V.bl ks[i].w,V.ref b']++[V.int (st.2+(ks.length:Int) - 1 - (i:Int))]++[V.ref cl])) uX;have sy:=(Pj.trans s6).trans s7;have hK7:iH (upd H6 p4 (.tup ([V.int ks[i].n,V.int ks[i].f,V.int ks[i].m,V.bl ks[i].w,V.ref b']++[V.int (st.2+(ks.length:Int) - 1 - (i:Int))]++[V.ref cl]))) p4 { ks[i] with lV:=some (st.2+(ks.length:Int) - 1 - (i:Int))} b' cl bC:=⟨aD,sy _ _ hK.b,hK.c.same sy⟩;have Yv:=hg.same sy;refine⟨_,Yv.hl,by rw[aR,hg.n,gn];lia,hN _ _ ⟨x,_,ts++[p4],iI++[_],rfl,aj.put2 (s2.trans sy) nl,Yv.snoc hK7 ncl,by simp[gn],λj k hj e=>?_⟩⟩
    by_cases ki:j<i
    ·obtain⟨x',x0',x1',e'⟩:=ge j k ki e;exact⟨x',x0',x1',by rw[d7 (by lia)];exact e'⟩
    ·have:j=i:=by lia
     subst this;rw[aX hi] at e;cases e;refine⟨_,?_,?_,by rw[d8 (by lia),gn,BP];rfl⟩
     ·lia
     ·lia
   ·rintro σ H2 ⟨x,y,ts,iI,rfl,s2,hg,gn,ge⟩;walk_at "rdm";exact q l ts iI H2 (s'.trans s2) (s'.free nl) hg.Ac ⟨gn,λi k e=>ge i k (dB e) e⟩
theorem akX(T:Tx K mg A)(aG:bE mg base A.bu A.aZ):a_ P w K mg base bx 3 A.Nt A.Nu ["_law_spec_here", "_law_ring", "_law_beat", "_law_known_here", "_law_begun"] (agN K):=by
 have A1:=O8 (P:=P) (w:=w) (base:=base) T aG;refine T.Xe.ok Az (λvs H Q E h=>?_) (λaP Ar outer s H vs Q E hr h=>?_)
 ·obtain⟨t,kl,b,z,au,sk,sw,za,bB,ca,sa,r,bt,cM,ks,bg,rfl,_⟩:=h
  rfl
 ·obtain⟨t,kl,b,z,au,sk,sw,za,bB,ca,sa,r,bt,cM,ks,bg,rfl,hS,ok,r0,r1,hk,kc,hb,q⟩:=h;have gv:=hk.n;refine⟨_,(aE (dP dj rfl (GQ (aa 4)) (bI (i:=5) Az.nd rfl (Or.inl rfl))
   (aJ (dP dj rfl (dX (aa 3)) (bI (i:=6) Az.nd rfl (Or.inl rfl))
   (aJ (dw (dz lK (aH bJ (aa 6) ak (λ_ _=>rfl)) (aa 5) (bM _)) (aJ (tD (aY A1 (hr.mono (by first | decide | lia)) rfl T.Od T.EG.kp T.Oc .nil aQ (ah (aa 0) (ah (aa 1) (ah (aa 2) (ah (aH bJ (aa 6) ak (λ_ _=>rfl)) ao))))) (kM rfl (dO (bI (i:=1) Az.nd rfl (Or.inl rfl)) (dO (bI (i:=2) Az.nd rfl (Or.inl rfl)) jV))))) b7)))))
   (aJ (bF (cL (ah (aa 1) (ah (aa 2) ao)))))),?_⟩
  walk_at "rdt";refine rt b (bg.map V.int) (λi σ H'=>∃(st:Int×Int) (x y:Option V),st=rX (bO z au sk sw []) (r,bt) ks (bg.take i)/\0<=st.1/\st.1<(counts z).length/\σ = [some (.ref t),some (.int st.1),some (.int st.2),some (.ref kl),some (.ref b),x,y]/\aj H H') (λQ q=>q) (aL.of hb) ⟨(r,bt),none,none,rfl,r0,r1,rfl,aj.refl H⟩ (by rintro i σ H' _ ⟨st,x,y,_,_,_,rfl,s'⟩;exact aL.of (s' _ _ hb)) ?_ ?_
  ·rintro i x σ H' N hN hx ⟨st,x0,y0,e,Yw,rT,rfl,s'⟩;obtain⟨n,hn,rfl⟩:=e8 hx;walk_at "rdt";refine rl kl (cM.map V.ref) (λj σ H2=>∃(cg:Int×Int) (w:Option V),cg=(ks.take j).foldl (λst k=>if k.n=n then bf (bO z au sk sw []) st k.c else st) st/\0<=cg.1/\cg.1<(counts z).length/\σ = [some (.ref t),some (.int cg.1),some (.int cg.2),some (.ref kl),some (.ref b),some (.int n),w]/\aj H H2) (λQ q=>q) (hk.same s').sq ⟨st,y0,rfl,Yw,rT,rfl,s'⟩ (by rintro j σ H2 _ ⟨cg,w,_,_,_,rfl,s2⟩;exact(hk.same s2).sq) ?_ ?_
   ·rintro j x σ H2 N2 h_ ia ⟨cg,w,e2,a0,a1,rfl,s2⟩;obtain⟨t2,AY,rfl⟩:=e8 ia;have hj:j<ks.length:=by rw[← gv];exact dB AY
    obtain⟨b2,cl,bC,hK⟩:=(hk.same s2).t j t2 ks[j] AY (aX hj);have tk:=take_succ_get (aX hj);obtain⟨c1,c2⟩:=kc ks[j] (cO hj);generalize ks[j] = k at *
    have ef:(ks.take (j+1)).foldl (λst k=>if k.n=n then bf (bO z au sk sw []) st k.c else st) st=if k.n=n then bf (bO z au sk sw []) cg k.c else cg:=by rw[tk,xM,← e2];rfl
    walk_at "rdt";refine⟨_,aL.of hK.o,_,rfl,rfl,?_⟩;walk_at "rdt";refine cG (λh1=>?_) λh1=>?_
    ·refine⟨_,aL.of hK.o,_,rfl,t,z,au,sk,sw,za,bB,ca,sa,cg.1,cg.2,cl,bC,k.c,rfl,hS.same s2,ok,a0,a1,hK.c,c1,by lia,λu H3 s3 nu hu=>?_⟩
     have i:=kU (bO z au sk sw []) (n:=(counts z).length) k.c cg a0 a1 λq hq=>⟨(c1 q hq).1,(c1 q hq).2.1⟩;exact⟨u,rfl,_,aL.of hu,rfl,_,_,rfl,_,_,rfl,rfl,h_ _ _ ⟨bf (bO z au sk sw []) cg k.c,_,by rw[ef,if_pos h1],i.1,i.2,rfl,s2.trans s3⟩⟩
    ·exact h_ _ _ ⟨cg,_,by rw[ef,if_neg h1],a0,a1,rfl,s2⟩
   ·rintro σ H2 ⟨cg,w,e2,a0,a1,rfl,s2⟩;rw[aR,gv,eE] at e2;refine hN _ _ ⟨cg,_,_,?_,a0,a1,rfl,s2⟩;rw[e2,e,take_succ_get hn];unfold rX;rw[xM];rfl
  ·rintro σ H' ⟨st,x0,y0,e,Yw,rT,rfl,s'⟩;rw[aR,eE] at e;subst e;walk_at "rdt";exact λu nu=>q u _ (s'.trans (aj.put nu)) (s'.free nu) aD
theorem akY(T:Tx K mg A)(aG:bE mg base A.bu A.aZ):a_ P w K mg base bx 3 A.Ny A.Nz ["_law_found", "_law_known_here"] (agP K):=by
 have akZ:=akx (P:=P) (w:=w) (base:=base) T aG;have ak0:=akd (P:=P) (w:=w) (base:=base) T aG;have ak1:=akA (P:=P) (w:=w) (base:=base) T aG;refine T.Xg.ok V7 (λvs H Q E h=>?_) (λaP Ar outer s H vs Q E hr h=>?_)
 ·obtain⟨f,kl,cM,ks,bg,rfl,_⟩:=h
  rfl
 ·obtain⟨f,kl,cM,ks,bg,rfl,hf,hk,Yx,up,od,q⟩:=h;have pJ:=hr.Se;have gv:=hk.n;have bl:bg.length=ks.length:=by have:=od.p.length_eq;simpa using this
  refine⟨_,(aE (dw (PW.pt (iB (jU (iA (aY ak1 (hr.mono (by first | decide | lia)) rfl T.ajl T.Xf.kp T.ajk .nil aQ (ah (aa 0) ao)))) (iQ (dz (S3 pJ) (bY agJ rfl T.AO boot_sorted (ah (aa 0) ao)) (gR (N:=["_law_one"]) (nt:=1) (fv:=[]) (cN.of rfl rfl (by rfl) (by rfl) (by repeat (first | exact trivial | refine⟨rfl,?_⟩)) (by rfl) (by rfl) (by rfl) (by decide) (by decide +kernel)) rfl (dX (aa 1)) (λC s H fp=>(bI (i:=0) (show List.Nodup (["_law_one"]:List Str) by decide +kernel) rfl (Or.inl rfl))) (λC s H fp=>jd) (λC s H fp=>(aH (l8 (K:=K) rfl) (aa 0) ak (λ_ _=>rfl)))) (bM _))))) (aJ (bF gb)) b7)
   (aE (dP dj rfl (kN rfl T.fZ (ah (bY fL rfl T.eK eT (ah (aa 0) ao)) ao)) (bI (i:=2) V7.nd rfl (Or.inl rfl))
   (aJ (dw (dz SA (aH bJ (aa 0) (aa 2) (λ_ _=>rfl)) (aY akZ (hr.mono (by first | decide | lia)) rfl T.ajf T.Xc.kp T.aje .nil aQ (ah (aY ak0 (hr.mono (by first | decide | lia)) rfl T.ajh T.Xd.kp T.ajg .nil aQ (ah (aa 1) (ah (tW G8 (aa 0) tU (tV (aa 2))) ao))) ao)) rfl) (aJ (bF gb)) b7)))
   (aJ (bF gb)))),?_⟩
  walk_at "rdt";refine⟨f,bg,rfl,hf,λH1 s1=>⟨_,rfl,ite_no (by simp) ⟨bg,aL.of (s1 _ _ hf),by lia,λl ms nl pm srt=>?_⟩⟩⟩
  have es:ms=ks.map (·.n):=VW (pm.trans od.p) srt (List.pairwise_map.mpr up);subst es;have s2:=aj.put (o:=.lst ((ks.map (·.n)).map V.int)) nl;have rE:upd H1 l (.lst ((ks.map (·.n)).map V.int)) l=some (.lst ((ks.map (·.n)).map V.int)):=aD;generalize upd H1 l (.lst ((ks.map (·.n)).map V.int))=H2 at *
  have kD:=hk.same (s1.trans s2);refine je kl (cM.map V.ref) (λD i ys aC H3=>∃(u:Option V),ys=((ks.take i).map (·.n)).map V.int/\aC = [u]/\H3 D=some (.lst ys)/\aj H2 H3/\H2 D=none) (λQ q=>q) kD.sq ?_ ?_ ?_ ?_
  ·intro D hD;exact⟨none,rfl,rfl,aD,aj.put hD,hD⟩
  ·rintro D i ys aC H3 ⟨u,rfl,rfl,e1,e2,e3⟩;exact⟨e1,gh (by simp only[List.length_map,List.length_take];lia),(kD.same e2).sq⟩
  ·rintro D i x ys aC H3 N hN hx ⟨u,rfl,rfl,e1,e2,e3⟩;obtain⟨t,ht,rfl⟩:=e8 hx;have hi:i<ks.length:=by rw[← gv];exact dB ht
   obtain⟨b2,cl,bC,hK⟩:=(kD.same e2).t i t ks[i] ht (aX hi);walk_at "rdt";refine⟨_,aL.of hK.o,_,rfl,e1,hN _ _ _ ⟨_,?_,rfl,aD,aj.put2 e2 e3,e3⟩⟩;rw[take_succ_get (aX hi),bZ,bZ];rfl
  ·rintro D ys aC H3 ⟨u,rfl,rfl,e1,e2,e3⟩;rw[aR,gv,eE] at e1;have s3:=(s1.trans s2).trans e2;refine⟨D,rfl,_,az.of (e2 _ _ rE),az.of e1,λv hv=>?_,?_⟩
   ·obtain⟨n,_,rfl⟩:=fG.mp hv;exact⟨λ_ z=>(nomatch z),λ_ z=>(nomatch z)⟩
   ·refine CY bg.length (λi σ H'=>∃x,σ = [some (.ref f),some (.ref kl),x]/\aj H H') (λQ q=>?_) (by lia) ⟨none,rfl,s3⟩ ?_ ?_
    ·walk_at "rdt";refine⟨_,.inr (aL.of (s3 _ _ hf)),?_⟩;rw[aR];exact q
    ·rintro i σ H' N hN hi ⟨x,rfl,s'⟩;obtain⟨n,hn⟩:∃n,bg[i]? = some n:=⟨_,aX hi⟩;have kg:=od.f i n hn;walk_at "rdt";have Am:=s' _ _ hf;refine⟨_,aL.of Am,_,rA (by rw[ju,hn];rfl),f,_,rfl,aL.of Am,λz=>?_,λp np=>?_⟩
     ·have z2:=z.2;rw[aR,_H.abL] at z2;lia
     ·have s4:=aj.put (o:=.tup (iF (bg.map V.int) none (some (i:Int)))) np;have Yy:=s'.trans s4;refine⟨kl,p,cM,ks,bg.take i,rfl,hk.same Yy,by lia,by rw[aD,afQ,List.map_take],λD2 ts H5 s5 nD2 hk5=>⟨D2,ts,_,rfl,hk5,cX (lA _ _) (by lia),λD3 H6 s6 nD3 hD3=>⟨D3,rfl,_,.inl (az.of hD3),rfl,wD _,ite_no ?_ (hN _ _ ⟨_,rfl,(Yy.trans s5).trans s6⟩)⟩⟩⟩
      rw[qt];simp[kg]
    ·rintro σ H' ⟨x,rfl,s'⟩;walk_at "rdt";exact q _ s'
theorem Yz(T:Tx K mg A)(aG:bE mg base A.bu A.aZ):a_ P w K mg base bx 4 A.Li A.Ei ["first", "many", "at", "asker", "latest", "behind"] (adI K A.bU):=by
 have Pk:=XQ (P:=P) (w:=w) (base:=base) T aG;have Pn:=Yd (P:=P) (w:=w) (base:=base) T aG;have Po:=XR (P:=P) (w:=w) (base:=base) T aG;refine T.NN.ok VZ (λvs H Q E h=>?_) (λaP Ar outer s H vs Q E hr h=>?_)
 ·obtain⟨f,m,a,s',l,bv,ns,rfl,_⟩:=h
  rfl
 ·obtain⟨f,m,a,s',l,bv,ns,rfl,hB,hv,hR,q⟩:=h;refine⟨_,(aE (aU (i:=6) VZ.nd rfl (Or.inl rfl) (aY Po (hr.mono (by first | decide | lia)) rfl T.Wd T.NL.kp T.Wc .nil aQ (ah (aa 5) ao)))
   (aE (dm (aY Pn (hr.mono (by first | decide | lia)) rfl T.Wb T.NK.kp T.Wa .nil aQ (ah (aa 0) (ah (aa 1) (ah (aa 2) (ah (aa 3) (ah (aa 4) (ah (aa 6) ao))))))))
   (aJ (bF (vN T.Xq Pk (hr.mono (by first | decide | lia)) rfl T.Xr T.V9 .nil aQ (ah lG (ah (aa 0) (ah (aa 1) (ah (cL ao) (ah (aa 2) (ah (aa 3) (ah (aa 4) (ah (aa 6) (ah gb ao)))))))))))))),?_⟩
  walk_at "rdt";refine⟨_,ns,rfl,hv,λb H1 s1 hb=>?_⟩;walk_at "rdt";refine⟨_,_,_,_,_,_,ns,rfl,hB,aL.of hb,hR,?_⟩;walk_at "rdt";intro mk nm x dx nx j_ fX;refine⟨x,dx,_,_,_,_,_,_,_,_,_,rfl,aD,rfl,?_⟩;obtain⟨a1,a2,a3⟩:=TR (K:=K) (C:=A.bU) (q:=⟨"read",f,m,[],a,s',l,ns,false⟩) (s1.trans (aj.put nm)) nx j_ fX aD (aj.put nm _ _ hb);exact q _ _ _ _ _ a1 a2 a3
theorem ak2(T:Tx K mg A)(aG:bE mg base A.bu A.aZ):a_ P w K mg base bx 4 A.Lj A.Lk ["first", "marks", "at", "asker", "latest", "behind", "early"] (adJ K A.bU):=by
 have Pk:=XQ (P:=P) (w:=w) (base:=base) T aG;have qM:=OR (P:=P) (w:=w) (base:=base) T aG;have Pn:=Yd (P:=P) (w:=w) (base:=base) T aG;have Po:=XR (P:=P) (w:=w) (base:=base) T aG;refine T.Wf.ok KY (λvs H Q E h=>?_) (λaP Ar outer s H vs Q E hr h=>?_)
 ·obtain⟨f,a,s',ma,ms,l,bv,ns,e,rfl,_⟩:=h
  rfl
 ·obtain⟨f,a,s',ma,ms,l,bv,ns,e,rfl,hm,YA,hB,hv,hR,q⟩:=h;refine⟨_,(aE (aU (i:=7) KY.nd rfl (Or.inl rfl) (aY Po (hr.mono (by first | decide | lia)) rfl T.Wd T.NL.kp T.Wc .nil aQ (ah (aa 5) ao)))
   (aE (dm (aY Pn (hr.mono (by first | decide | lia)) rfl T.Wb T.NK.kp T.Wa .nil aQ (ah (aa 0) (ah (bY fL rfl T.eK eT (ah (aa 1) ao)) (ah (aa 2) (ah (aa 3) (ah (aa 4) (ah (aa 7) ao))))))))
   (aE (dP dj rfl (dX (aa 1)) (bI (i:=8) KY.nd rfl (Or.inl rfl))
   (aJ (dm (aY qM (hr.mono (by first | decide | lia)) rfl T.uQ T.r9.kp T.uP .nil aQ (ah (aa 8) (ah ak (ah (gU (v:=.int 1000000000) rfl T.ajz ⟨_,rfl⟩) (ah lG ao))))))))
   (aJ (bF (vN T.Xq Pk (hr.mono (by first | decide | lia)) rfl T.Xr T.V9 .nil aQ (ah lG (ah (aa 0) (ah (bY fL rfl T.eK eT (ah (aa 1) ao)) (ah (jZ Hf rfl T.uS xU (ah (aa 1) ao)) (ah (aa 2) (ah (aa 3) (ah (aa 4) (ah (aa 7) (ah (aa 6) ao))))))))))))))),?_⟩
  walk_at "rdt";refine⟨_,ns,rfl,hv,λb H1 s1 hb=>?_⟩;walk_at "rdt";refine⟨_,.inl (s1.seq hm),?_⟩;simp only[List.length_map];refine⟨_,_,_,_,_,_,ns,rfl,hB,aL.of hb,hR,?_⟩
  try dsimp only
  have uw:=s1.seq hm;refine rl ma (ms.map V.int) (λi σ H'=>∃x,σ = [some (.int f),some (.ref ma),some (.int a),some (.int s'),some (jI l),some bv,some (.bl e),some (.ref b),x]/\H' = H1) (λQ q=>q) uw ⟨none,rfl,rfl⟩ (by rintro i σ H' _ ⟨x,rfl,rfl⟩;exact uw) ?_ ?_
  ·rintro i x σ H' N hN hx ⟨x0,rfl,rfl⟩;obtain⟨n,hn,rfl⟩:=e8 hx;walk_at "rdm";exact⟨n,0,1000000000,_,rfl,(YA n (get_mem hn)).1,(YA n (get_mem hn)).2,hN _ _ ⟨_,rfl,rfl⟩⟩
  ·rintro σ H' ⟨x0,rfl,rfl⟩;walk_at "rdt";refine⟨_,.inl uw,_,.inl ⟨uw,λmk nm=>?_⟩⟩;intro x dx nx j_ fX;refine⟨x,dx,_,_,_,_,_,_,_,_,_,rfl,aD,rfl,?_⟩;simp only[List.length_map];obtain⟨a1,a2,a3⟩:=TR (K:=K) (C:=A.bU) (q:=⟨"write",f,ms.length,ms,a,s',l,ns,e⟩) (s1.trans (aj.put nm)) nx j_ fX aD (aj.put nm _ _ hb);exact q _ _ _ _ _ a1 a2 a3
theorem YB(T:Tx K mg A)(aG:bE mg base A.bu A.aZ):a_ P w K mg base bx 4 A.LA A.LB ["self", "plate", "number", "ask"] (afz K [A.bG,A.br] A.bU A.cj):=by
 have ak3:=akE (P:=P) (w:=w) (base:=base) T aG;refine T.ahP.ok ag8 (λvs H Q E h=>?_) (λaP Ar outer s H vs Q E hr h=>?_)
 ·obtain⟨C,p,pl,ap,dx,n,P,fp,q',m,b,b_,rfl,_⟩:=h
  rfl
 ·obtain⟨C,p,pl,ap,dx,n,P,fp,q',m,b,b_,rfl,hp,hC,hP,gS,nY,ha,hf,hn,q⟩:=h;refine⟨_,(aE (G2 (aa 0) (aa 2) rfl)
   (aE (G2 (aa 0) (aa 3) rfl)
   (aJ (G2 (aa 0) (aY ak3 (hr.mono (by first | decide | lia)) rfl T.ahO T.Wo.kp T.ahN .nil aQ (ah (aa 1) (ah (aa 2) (ah (aa 3) ao)))) rfl)))),?_⟩
  wp_walk using T,hp;have EW:ap≠p:=λe=>by
   have:=ha.o;rw[e,hp] at this;simp[qq] at this
  have nm:m≠p:=λe=>by have:=ha.ms;rw[e,hp] at this;cases this
  have nb:b≠p:=λe=>by have:=ha.bh;rw[e,hp] at this;cases this
  have xr:cY K C (upd H p (HO.ins A.cj dx [("number",V.int n),("ask",V.ref ap)])) pl P fp:=hP.keep (aI (f_ gS)) λb hb=>aI (λe=>nY (e▸hb));have Pp:j9 K A.bU (upd H p (HO.ins A.cj dx [("number",V.int n),("ask",V.ref ap)])) ap q' m b b_:=⟨(aI EW).trans ha.o,(aI nm).trans ha.ms,(aI nb).trans ha.bh⟩;have sb:SameBut p H (upd H p (HO.ins A.cj dx [("number",V.int n),("ask",V.ref ap)])):=(SameBut.of (aj.refl H)).put;have pI:upd H p (HO.ins A.cj dx [("number",V.int n),("ask",V.ref ap)]) p=some (HO.ins A.cj dx [("number",V.int n),("ask",V.ref ap)]):=aD;generalize upd H p (HO.ins A.cj dx [("number",V.int n),("ask",V.ref ap)])=H1 at xr Pp sb pI ⊢;refine⟨C,pl,ap,n,P,fp,q',m,b,b_,rfl,hC,xr,Pp,hf,hn,λl ts H2 s2 nl hz=>⟨_,_,_,s2 _ _ pI,T.Oh,T.Oi,by simp,?_⟩⟩
  have Pq:=Pp.same s2;have xu:l≠p:=bX pI nl |>.symm
  have nlH:H l=none:=by
   cases e:H l with
   | none=>rfl
   | some o =>
    have:=sb l o e xu;rw[nl] at this;cases this
  refine q l ts _ nlH (sb.step s2).put ⟨aD,⟨(aI EW).trans Pq.o,(aI nm).trans Pq.ms,(aI nb).trans Pq.bh⟩,hz.keep (aI xu) λt ht=>aI λe=>?_⟩
  obtain⟨i,hi,et⟩:=mH.mp ht;have c_:i<(gj P.nc q'.first q'.many).length:=by rw[← hz.n];exact hi
  have:=hz.t i t _ (by rw[← et];exact aX hi) (aX c_)
  rw[e,s2 _ _ pI] at this;cases this
theorem ak4(T:Tx K mg A)(aG:bE mg base A.bu A.aZ):a_ P w K mg base bx 4 A.LF A.LG ["plate", "ring", "beat", "cells"] (adk K [A.bG,A.br]):=by
 have ak5:=akH (P:=P) (w:=w) (base:=base) T aG;have AU:=OU (P:=P) (w:=w) (base:=base) T aG;have ak6:=aj7 (P:=P) (w:=w) (base:=base) T aG;refine T.Ws.ok uM (λvs H Q E h=>?_) (λaP Ar outer s H vs Q E hr h=>?_)
 ·obtain⟨C,p,P,fp,r,b,ca,bC,cz,rfl,_⟩:=h
  rfl
 ·obtain⟨C,p,P,fp,r,b,ca,bC,cz,rfl,hC,hP,ok,r0,r1,hz,hq,hlen,q⟩:=h;have X5:=ok.sw.len;refine⟨_,(aE (aU (i:=4) uM.nd rfl (Or.inl rfl) (dG ao))
   (aE (dP dj rfl (dX (aa 3)) (kM rfl (dO (bI (i:=5) uM.nd rfl (Or.inl rfl)) (dO (bI (i:=6) uM.nd rfl (Or.inl rfl)) jV)))
   (aE (aU (i:=7) uM.nd rfl (Or.inl rfl) (aY ak5 (hr.mono (by first | decide | lia)) rfl T.ahR T.Wr.kp T.ahQ .nil aQ (ah (aa 0) (ah (aa 5) (ah (aa 6) (ah (aF d_ (aa 2) (nq (aa 0) T.ajW ak6 (hr.mono (by first | decide | lia)) T.aix .nil aQ (ah (aa 1) (ah (aa 5) ao)))) ao))))))
   (aE (aU (i:=1) uM.nd rfl (Or.inl rfl) (aa 5))
   (aE (aU (i:=2) uM.nd rfl (Or.inl rfl) (aF d_ (aa 7) (nq (aa 0) T.OQ AU (hr.mono (by first | decide | lia)) T.N_ .nil aQ (ah (aa 5) ao))))
   (aJ (dm (lN jS mJ mK lO (aa 4) (ah (cL (ah (aa 1) (ah (aa 6) (ah (aa 7) (ah (aa 2) ao))))) ao))))))))
   (aJ (bF (aa 4))))),?_⟩
  walk_at "rdm";intro l hl;have sl:=aj.put (o:=.lst []) hl;refine rl ca (bC.map V.ref) (λi σ H'=>∃x y z ts,σ = [some (.ref p),some (.int (bf P (r,b) (cz.take i)).1),some (.int (bf P (r,b) (cz.take i)).2),some (.ref ca),some (.ref l),x,y,z]/\aj H H'/\(∀t∈ts,H t=none)/\i<=cz.length/\Zt H' l ts (dZ P (r,b) (cz.take i))) (λQ q=>q) (sl.seq hz.sq)
   ⟨none,none,none,[],rfl,sl,(λ_ h=>nomatch h),eF _,Zt.start⟩ (by rintro i σ H' _ ⟨x,y,z,ts,rfl,hs,_⟩;exact hs.seq hz.sq) ?_ ?_
  ·rintro i x σ H' N hN hx ⟨x0,y0,z0,fz,rfl,hs,nX,hi,h1⟩;obtain⟨t,w,rfl,hw,ht⟩:=hz.at hx;have qL:=dB hw;obtain⟨w0,w1,w2,w3⟩:=hq w (get_mem hw);have se:=ok.c w.1.toNat (by lia)
   obtain⟨e0,e1⟩:=kU P (n:=P.rc.length) (cz.take i) (r,b) r0 r1 λq jY=>⟨(hq q (pR jY)).1,(hq q (pR jY)).2.1⟩;have es:bf P (r,b) (cz.take (i+1))=dI P (bf P (r,b) (cz.take i)) w:=by rw[take_succ_get hw,wz]
   have ws:dZ P (r,b) (cz.take (i+1))=dZ P (r,b) (cz.take i)++[qo P (bf P (r,b) (cz.take i)) w]:=by rw[take_succ_get hw,wA]
   rw[es,ws] at hN;have wl:(dZ P (r,b) (cz.take i)).length=i:=by rw[nA,d9];lia
   generalize bf P (r,b) (cz.take i)=st at e0 e1 hN ⊢;generalize dZ P (r,b) (cz.take i)=rows at h1 wl hN ⊢;refine ni (aL.of (hs _ _ ht)) rfl ?_;have uT:=hP.same hs;obtain⟨dx,a1,a2,a3,a4,ts,fs,qN,h⟩:=id uT;wp_walk using h.o,h.f1,h.f2,h.f3,h.f4,h.f5,h.f6,h.m1,h.m2,h.m3,h.m4,h.m5,h.m6,h.m7,h.m8,h.m9,h.gI,h.gZ,h.cp.cl,h.cp.n1,h.cp.n2,h.cp.n3,h.cp.n4,h.cp.n5,h.cp.n6;refine⟨hC,C,p,P,fp,st.1,w.1,rfl,uT,by lia,?_⟩
   wp_walk using h.o,h.f1,h.f2,h.f3,h.f4,h.f5,h.f6,h.m1,h.m2,h.m3,h.m4,h.m5,h.m6,h.m7,h.m8,h.m9,h.gI,h.gZ,h.cp.cl,h.cp.n1,h.cp.n2,h.cp.n3,h.cp.n4,h.cp.n5,h.cp.n6;refine⟨C,p,P,fp,w.1,w.2,_,rfl,hC,uT,ok,w0,w1,w2,w3,?_⟩;wp_walk using h.o,h.f1,h.f2,h.f3,h.f4,h.f5,h.f6,h.m1,h.m2,h.m3,h.m4,h.m5,h.m6,h.m7,h.m8,h.m9,h.gI,h.gZ,h.cp.cl,h.cp.n1,h.cp.n2,h.cp.n3,h.cp.n4,h.cp.n5,h.cp.n6;refine⟨hC,C,p,P,fp,w.1,rfl,uT,w0,w1,se.1,se.2,?_⟩;walk_at "rdm";refine⟨⟨_,az.of h1.l⟩,λt1 n1=>?_⟩;have hn:=h1.n;have e2:=aj.put n1 (o:=.tup [V.int w.1,V.int w.2,V.int (rK P st w),V.int (dI P st w).2]) _ _ h1.l;refine⟨_,e2,by simp;lia,hN _ _ ⟨_,_,_,fz++[t1],rfl,aj.put2 (hs.trans (aj.put n1)) hl,?_,qL,h1.snoc n1 (qo P st w)⟩⟩
   intro t' k_;rcases fM.mp k_ with k_ | k_
   ·exact nX t' k_
   ·rw[gw.mp k_];exact hs.free n1
  ·rintro σ H' ⟨x0,y0,z0,fz,rfl,hs,nX,hi,h1⟩;walk_at "rdm";rw[lenZ hz.n,eE] at h1;exact q _ _ _ hs hl nX h1
theorem ak7(T:Tx K mg A)(aG:bE mg base A.bu A.aZ):a_ P w K mg base bx 4 A.MN A.MO ["self", "zones", "lap", "skew", "swing", "spares", "bad"] (afg K A.br A.aZ (qw g_) (qx "nearest_rings")):=by
 have O_:=XT (P:=P) (w:=w) (base:=base) T aG;have Pa:=XW (P:=P) (w:=w) (base:=base) T aG;have Pr:=Yh (P:=P) (w:=w) (base:=base) T aG;have ak8:=aj8 (P:=P) (w:=w) (base:=base) T aG;have ak9:=akr (P:=P) (w:=w) (base:=base) T aG;have ak_:=akR (P:=P) (w:=w) (base:=base) T aG;refine T.aiV.ok Aw (λvs H Q E h=>?_) (λaP Ar outer s H vs Q E hr h=>?_)
 ·obtain⟨p,dx,za,sa,ba,bB,j8,z,bz,au,cy,s,sw,rfl,_⟩:=h
  rfl
 ·obtain⟨p,dx,za,sa,ba,bB,j8,z,bz,au,cy,s,sw,rfl,cp,nm,hp,hz,ok,h1,h2,h3,h4,hd,hS,so,A2,Yl,bnd,bin,c64,gQ,jt,tab,en,q⟩:=h;refine⟨_,(aE (cI (dm (ac_ rfl T.XG T.ajt Pr (hr.mono (by first | decide | lia)) T.WT .nil aQ (ah (aa 0) (ah (aa 1) (ah (aa 2) (ah (aa 3) (ah (aa 4) ao))))))))
   (aE (cI (dm (aY ak8 (hr.mono (by first | decide | lia)) rfl T.aiK T.WX.kp T.aiJ .nil aQ (ah (aa 5) (ah (cC (aa 0) rfl) ao)))))
   (aE (cI (aU (i:=7) Aw.nd rfl (Or.inl rfl) (aY ak9 (hr.mono (by first | decide | lia)) rfl T.aiM T.WY.kp T.aiL .nil aQ (ah (aa 0) (ah (aa 6) ao)))))
   (aE (cI (iN (aa 0) (aY O_ (hr.mono (by first | decide | lia)) rfl T.WQ T.NY.kp T.WO .nil aQ (ah (cC (aa 0) rfl) (ah (aa 5) ao))) rfl))
   (aE (cI (iN (aa 0) (aY ak_ (hr.mono (by first | decide | lia)) rfl T.aiU T.W3.kp T.aiT .nil aQ (ah (cC (aa 0) rfl) (ah (aa 5) (ah (cC (aa 0) rfl) (ah (aa 7) ao))))) rfl))
   (aE (cI (dP dj rfl (dX (cC (aa 0) rfl)) (kM rfl (dO (bI (i:=8) Aw.nd rfl (Or.inl rfl)) (dO (bI (i:=9) Aw.nd rfl (Or.inl rfl)) (dO (bI (i:=10) Aw.nd rfl (Or.inl rfl)) jV))))
   (aJ (tD (aa 10) (yw (cC (aa 0) rfl) (aa 8) set_list)))))
   (aJ (iN (aa 0) (aY Pa (hr.mono (by first | decide | lia)) rfl T.WS T.NZ.kp T.WR .nil aQ (ah (cC (aa 0) rfl) ao)) rfl)))))))),?_⟩
  refine cJ λN1 k1=>?_;walk_at "rdm";refine⟨_,p,dx,za,sa,bB,z,au,cy,sw,rfl,cp,hp,hz,ok,h1,h2,h3,h4,hd,hS,so,λH1 sD a1 a2 a3 a4 ts sb nf pI hA=>k1 _ _ ?_⟩;have cl:=rF z λp hp=>(ok.r p hp).1;have akQ:=ok.CV;have c2:=ok.s2;have cm:∀c∈counts z,0<=c/\c<=60:=λc hc=>by
   obtain⟨y,hy,rfl⟩:=rG hc;have:=ok.r y hy;lia
  have YC:∀c∈counts z,0<=c/\c<=1000:=λc hc=>by have:=cm c hc;lia
  have eg:0<(counts z).length:=by lia
  have s60:s<60:=by
   have:=jt _ (cO eg);have:=cm _ (cO eg);lia
  have Pu:∀ {a:Addr} {o:HO},H a=some o->(∀C d f,o≠.ins C d f)->a≠p:=λe n z=>n _ _ _ (by rw[z,hp] at e;exact(dh e).symm)
  have ba1:Zn H1 ba j8 bz:=⟨sb _ _ A2.l (Pu A2.l (by intro _ _ _ z;cases z)),A2.n,λi t x e1 e2=>sb _ _ (A2.t i t x e1 e2) (Pu (A2.t i t x e1 e2) (by intro _ _ _ z;cases z))⟩
  have pP:A.aZ≠p:=(tab.ne hp (by intro _ z;cases z)).symm
  have ala:cT A.aZ (qw g_) (qx "nearest_rings") H1:=by
   obtain⟨ps,e',k,c⟩:=tab;refine⟨ps,sb _ _ e' pP,k,?_⟩;rcases c with c | ⟨c',c1,c2⟩
   ·exact .inl c
   ·exact .inr ⟨c',c1,sb _ _ c2 (Pu c2 (by intro _ _ _ z;cases z))⟩
  refine cJ λN2 k2=>?_;wp_walk using hA.o,hA.f1,hA.f2,hA.f3,hA.f4,hA.f5,hA.f6,hA.m1,hA.m2,hA.m3,hA.m4,hA.m5,hA.m6,hA.m7,hA.m8,hA.m9,hA.gI,hA.gZ,hA.cp.cl,hA.cp.n1,hA.cp.n2,hA.cp.n3,hA.cp.n4,hA.cp.n5,hA.cp.n6;refine⟨a1,counts z,s,rfl,az.of hA.rc,by lia,gQ,jt,k2 _ _ ?_⟩
  refine cJ λN3 k3=>?_;walk_at "rdm";refine⟨_,p,ba,_,_,j8,bz,rfl,by simp,⟨sD,a1,a2,a3,a4,ts,_,rfl,hA⟩,ba1,by lia,bnd,bin,λd H2 s2 nd e2=>k3 _ _ ?_⟩
  have cV:=hA.move (H':=H2) (by rw[hA.o];exact s2 _ _ hA.o) (by rw[hA.rc];exact s2 _ _ hA.rc) (by rw[hA.sw];exact s2 _ _ hA.sw) (by rw[hA.nc.l];exact s2 _ _ hA.nc.l) (by rw[hA.cn];exact s2 _ _ hA.cn) (λt ht=>by obtain⟨o,e⟩:=hA.nc.has ht;rw[e];exact s2 _ _ e)
  refine cJ λN4 k4=>?_;wp_walk using cV.o,cV.f1,cV.f2,cV.f3,cV.f4,cV.f5,cV.f6,cV.m1,cV.m2,cV.m3,cV.m4,cV.m5,cV.m6,cV.m7,cV.m8,cV.m9,cV.gI,cV.gZ,cV.cp.cl,cV.cp.n1,cV.cp.n2,cV.cp.n3,cV.cp.n4,cV.cp.n5,cV.cp.n6;refine⟨a1,counts z,s,rfl,az.of cV.rc,by lia,YC,gQ,?_,λl3 t3 H3 s3 n3 YD z3=>?_⟩
  ·have:=jt _ (cO eg);have:=cm _ (cO eg);lia
  have o3:=s3 _ _ cV.o;wp_walk using o3,uq,cp.cl,cp.n1,cp.n5,nm;have uY:l3≠p:=(bX cV.o n3).symm;have A3:∀t∈t3,t≠p:=λt ht=>(bX cV.o (YD t ht)).symm;have pd:d≠p:=(bX hA.o nd).symm;have EX:a1≠p:=iZ cV.rc cV.o (by intro z;cases z)
  have Pw:a2≠p:=iZ cV.sw cV.o (by intro z;cases z)
  have sf:SameBut p H H3:=(sb.step s2).step s3;have YE:=ala.same (s2.trans s3);have zl:(gi (counts z) s).length<=1000000:=by
   have:=CW (s:=s) gQ (counts z) 0 YC;have e:(counts z).length<=120:=by lia
   unfold gi;lia
  have wO:DC (bz.map kT):=ae0 (λx hx=>by
   obtain⟨b1,b2,b3,b4⟩:=bin x hx;have hi:x.1.toNat<(counts z).length:=by lia
   rw[show (counts z).getD x.1.toNat 0=(counts z)[x.1.toNat] by simp[hi]] at b4
   have:=cm _ (cO hi);lia) bnd
  refine k4 _ _ ?_;refine cJ λN5 kk5=>?_;wp_walk using o3,uq,cp.cl,cp.n1,cp.n5,nm;refine⟨a1,l3,d,s,counts z,t3,_,bz,rfl,az.of ((aI EX).trans (s3 _ _ cV.rc)),by lia,c64,gQ,by lia,λc hc=>by have:=jt c hc;have:=cm c hc;lia,z3.keep (aI uY) (λt ht=>aI (A3 t ht)),zl,(aI pd).trans (s3 _ _ e2),wO,Yl,YE.put o3,en,λmv us os ms H5 k5 EY YF hL hM=>?_⟩
  have A4:mv≠p:=(bX aD EY).symm;have alb:H3 mv=none:=by rw[aI A4] at EY;exact EY
  have A5:=YE.put (o:=HO.ins A.br sD [(Str.ofString "ring_cells",V.ref a1),(Str.ofString "lap",V.int au),(Str.ofString "skew",V.int cy),(Str.ofString "swing",V.ref a2),(Str.ofString "number_cells",V.ref l3),(Str.ofString "cell_numbers",V.ref a4)]) o3;have p5:=k5.get A5 aD;wp_walk using p5,cp.cl,nm;refine kk5 _ _ ?_;refine cJ λN6 kk6=>?_;refine zJ ?_;wp_walk using cp.cl,nm;have zU:=z3.keep (H':=upd H3 p (HO.ins A.br sD [(Str.ofString "ring_cells",V.ref a1),(Str.ofString "lap",V.int au),(Str.ofString "skew",V.int cy),(Str.ofString "swing",V.ref a2),(Str.ofString "number_cells",V.ref l3),(Str.ofString "cell_numbers",V.ref a4)])) (aI uY) (λt ht=>aI (A3 t ht));have z5:Zn H5 l3 t3 _:=⟨k5.get A5 zU.l,zU.n,λi t x e1 e2=>k5.get A5 (zU.t i t x e1 e2)⟩;have Px:mv≠l3:=(bX zU.l EY).symm;generalize e6:upd H5 p (HO.ins A.br sD [(Str.ofString "ring_cells",V.ref a1),(Str.ofString "lap",V.int au),(Str.ofString "skew",V.int cy),(Str.ofString "swing",V.ref a2),(Str.ofString "number_cells",V.ref l3),(Str.ofString "cell_numbers",V.ref a4),(Str.ofString "moves",V.ref mv)])=H6;have p6:H6 p=some (HO.ins A.br sD [(Str.ofString "ring_cells",V.ref a1),(Str.ofString "lap",V.int au),(Str.ofString "skew",V.int cy),(Str.ofString "swing",V.ref a2),(Str.ofString "number_cells",V.ref l3),(Str.ofString "cell_numbers",V.ref a4),(Str.ofString "moves",V.ref mv)]):=by rw[← e6];exact aD
  have o6:∀b,b≠p->H6 b=H5 b:=λb hb=>by rw[← e6];exact aI hb
  have YG:cT A.aZ (qw g_) (qx "nearest_rings") H6:=by rw[← e6];exact k5.t.put p5
  have M6:jj H6 mv t3 us os ms:=⟨(o6 mv A4).trans hM.l,hM.n,hM.no,λi u m e1 e2=>by
   obtain⟨tc,to,x,a,b,c,d⟩:=hM.t i u m e1 e2;exact⟨tc,to,x,(o6 _ (iZ a p5 (by intro z;cases z))).trans a,b,(o6 _ (iZ c p5 (by intro z;cases z))).trans c,(o6 _ (iZ d p5 (by intro z;cases z))).trans d⟩⟩
  have z6:=z5.keep (o6 l3 uY) (λt ht=>o6 t (A3 t ht));refine rH.by mv (us.map V.ref) (λi σ H'=>∃x y w n8,σ = [some (V.ref p),some (V.ref za),some (V.int au),some (V.int cy),some (V.ref sa),some (V.int s),some (V.ref ba),some (V.ref d),x,y,w]/\(∀b,b≠l3->H' b=H6 b)/\Zn H' l3 n8 (o7 (gi (counts z) s) (ms.take i))/\∀t∈n8,t∈t3\/t∈os)
   (az.of M6.l) ⟨none,none,none,t3,rfl,λ_ _=>rfl,z6,λt ht=>.inl ht⟩ (by rintro i σ H' _ ⟨x,y,w,n8,rfl,hb,_⟩;exact az.of ((hb mv Px).trans M6.l)) ?_ ?_
  ·rintro i x σ H' N hN hx ⟨x0,y0,w0,n8,rfl,hb,nZ,kZ⟩;obtain⟨u,qO,rfl⟩:=e8 hx;have hi:i<ms.length:=by rw[← M6.n];exact dB qO
   obtain⟨m,hm⟩:∃m,ms[i]? = some m:=⟨_,aX hi⟩;obtain⟨tc,to,ho,ea,eb,ec,ed⟩:=M6.t i u m qO hm;have EZ:∀ {a:Addr} {xs:List V},H6 a=some (.tup xs)->H' a=some (.tup xs):=λ{a xs} e=>(hb a (iZ e z6.l (by intro z;cases z))).trans e
   refine⟨u,[.int (m.1:Int),.ref tc,.ref to],rfl,aL.of (EZ ea),rfl,_,_,rfl,_,_,rfl,_,_,rfl,rfl,?_⟩;wp_walk using(hb p uY.symm).trans p6,cp.cl,cp.n5;have hml:m.1<n8.length:=by rw[nZ.n,DG,← z6.n];exact dB eb
   refine⟨_,nZ.l,m.1,afd (by rw[aR];exact hml),?_⟩
   rw[← List.map_set];refine hN _ _ ⟨_,_,_,n8.set m.1 to,rfl,λb h=>by rw[aI h];exact hb b h,?_,?_⟩
   ·rw[take_succ_get hm,afe];exact nZ.setAt (EZ ed)
   ·intro t ht;rcases Gj ht with h | h
    ·exact kZ t h
    ·rw[h];exact .inr (get_mem ho)
  ·rintro σ H' ⟨x,y,w,n8,rfl,hb,nZ,kZ⟩;rw[aR,M6.n,eE] at nZ;have E1:=(hb p uY.symm).trans p6;refine kk6 _ _ ?_;wp_walk using E1,cp.cl,cp.n5,cp.n6;have wM:=YG.keep hb z6.l;refine⟨l3,n8,_,rfl,nZ,by rw[DG];exact zl,λcn H7 s7 A6 ecn=>?_⟩
   have YH:cn≠p:=(bX E1 A6).symm;wp_walk using s7 _ _ E1,cp.cl,cp.n6;have fresh:∀b,b≠p->H3 b=none->H b=none:=λb hb e=>by
    cases q':H b with
    | none=>rfl
    | some o=>rw[sf _ _ q' hb] at e;cases e
   have xw:H l3=none:=by
    cases q':H l3 with
    | none=>rfl
    | some o=>rw[(sb.step s2) _ _ q' uY] at n3;cases n3
   have YI:∀b o,H b=some o->b≠p->b≠A.aZ->H' b=some o:=λb o e np nP=>by
    rw[hb b (bX e xw),o6 b np];exact k5.b _ _ ((aI np).trans (sf _ _ e np)) nP
   have a13:a1≠l3:=bX cV.rc n3;have a23:a2≠l3:=bX cV.sw n3;have r7:=s7 _ _ ((hb a1 a13).trans ((o6 a1 EX).trans (k5.get A5 ((aI EX).trans (s3 _ _ cV.rc)))));have w7:=s7 _ _ ((hb a2 a23).trans ((o6 a2 Pw).trans (k5.get A5 ((aI Pw).trans (s3 _ _ cV.sw)))));have tp:∀t∈n8,t≠p:=λt ht=>by
    obtain⟨o,e⟩:=nZ.has ht;rcases kZ t ht with h | h
    ·exact A3 t h
    ·exact(bX aD (YF t h)).symm
   have EZ:∀ {a:Addr} {xs:List V},H6 a=some (.tup xs)->H7 a=some (.tup xs):=λ{a xs} e=>s7 _ _ ((hb a (iZ e z6.l (by intro z;cases z))).trans e)
   have Py:∀ {a:Addr} {xs:List V} {o:HO},H6 a=some (.tup xs)->upd H7 p o a=some (.tup xs):=λ{a xs o} e=>(aI (iZ e p6 (by intro z;cases z))).trans (EZ e)
   refine q _ (a1::a2::l3::cn::n8) mv t3 us os ms (λb o e np nP=>(aI np).trans (s7 _ _ (YI b o e np nP))) ((wM.same s7).put (s7 _ _ E1)) ?_ hL ⟨sD,a1,a2,l3,cn,n8,[(Str.ofString "ring_cells",V.ref a1),(Str.ofString "lap",V.int au),(Str.ofString "skew",V.int cy),(Str.ofString "swing",V.ref a2),(Str.ofString "number_cells",V.ref l3),(Str.ofString "cell_numbers",V.ref cn),(Str.ofString "moves",V.ref mv)],rfl,?_,nm,?_,?_⟩ ⟨?_,M6.n,M6.no,λi u m e1 e2=>?_⟩
   ·intro b jD;simp only[List.mem_cons] at jD;rcases jD with rfl | rfl | rfl | rfl | rfl | jD
    ·exact fresh _ A4 alb
    ·exact nf _ (by simp)
    ·exact nf _ (by simp)
    ·exact xw
    ·cases q':H b with
     | none=>rfl
     | some o =>
      by_cases nP:b=A.aZ
      ·obtain⟨ps,e',_⟩:=wM;rw[nP,e'] at A6;cases A6
      ·rw[YI _ _ q' YH nP] at A6;cases A6
    ·rcases kZ b jD with h | h
     ·have:=YD b h;cases q':H b with
      | none=>rfl
      | some o=>rw[(sb.step s2) _ _ q' (A3 b h)] at this;cases this
     ·have np:=tp b jD;have:=YF b h;rw[aI np] at this;exact fresh b np this
   ·refine⟨cp,aD,?_,?_,?_,?_,?_,?_,?_,?_,?_,?_,?_,?_,?_,?_,?_,?_,?_,?_,?_,?_,?_⟩
    rotate_left 17
    ·exact(aI EX).trans r7
    ·exact(aI Pw).trans w7
    ·exact(nZ.same s7).keep (aI uY) (λt ht=>aI (tp t ht))
    ·exact(aI YH).trans ecn
    all_goals simp[List.lookup_cons,wk]
   ·simp[List.lookup_cons,wk]
   ·exact(aI A4).trans (s7 _ _ ((hb mv Px).trans M6.l))
   ·exact(aI A4).trans (s7 _ _ ((hb mv Px).trans M6.l))
   ·obtain⟨tc,to,x,a,b,c,d⟩:=M6.t i u m e1 e2;exact⟨tc,to,x,Py a,b,Py c,Py d⟩
theorem alc(T:Tx K mg A)(aG:bE mg base A.bu A.aZ):a_ P w K mg base bx 4 A.M_ A.Ng ["_law_script", "_law_plate_here", "_law_spec_here", "_law_spot_here", "_law_most"] (afM K [A.bG,A.br]):=by
 have E3:=aj5 (P:=P) (w:=w) (base:=base) T aG;have OX:=XY (P:=P) (w:=w) (base:=base) T aG;have pK:=X0 (P:=P) (w:=w) (base:=base) T aG;have AV:=OV (P:=P) (w:=w) (base:=base) T aG;have A1:=O8 (P:=P) (w:=w) (base:=base) T aG;have ald:=akV (P:=P) (w:=w) (base:=base) T aG;have ale:=akW (P:=P) (w:=w) (base:=base) T aG;refine T.W_.ok gu (λvs H Q E h=>?_) (λaP Ar outer s H vs Q E hr h=>?_)
 ·obtain⟨C,sc,p,t,sp,z,au,sk,sw,za,bB,ca,sa,nc,fp,r,b,most,ns,rfl,_⟩:=h
  rfl
 ·obtain⟨C,sc,p,t,sp,z,au,sk,sw,za,bB,ca,sa,nc,fp,r,b,most,ns,rfl,jt,n_,hC,hP,nk,hS,ok,dQ,r0,r1,b0,b1,m1,m7,q⟩:=h;refine⟨_,(aE (aU (i:=5) gu.nd rfl (Or.inl rfl) (aY pK (hr.mono (by first | decide | lia)) rfl T.qJ T.pD.kp T.qI .nil aQ (ah (aa 0) (ah ak ao))))
   (aE (aU (i:=6) gu.nd rfl (Or.inl rfl) (iD lK (aF fY (aF kq (aa 5) ak) ak) ak (bM _)))
   (aE (aU (i:=7) gu.nd rfl (Or.inl rfl) (aH bT (dG (ah (aF fY (aa 5) (aa 4)) (ah (aa 4) ao))) (jZ IS rfl T.xh boot_int (ah (iD lK (aF fY (aF kq (aa 5) (aa 4)) ak) ak (bM _)) ao)) (λ_ _=>rfl)))
   (aE (qA (dw (iA (aa 6)) (aJ (aU (i:=7) gu.nd rfl (Or.inl rfl) (aF dR ak (aF fY (aF kq (aa 5) ak) ak)))) b7))
   (aE (aU (i:=8) gu.nd rfl (Or.inl rfl) (aF d_ (aH bJ (aa 2) ak (λ_ _=>rfl)) (aH qg (aH bJ (aa 2) ak (λ_ _=>rfl)) (tM tO ak) (λ_ _=>rfl))))
   (aE (aU (i:=9) gu.nd rfl (Or.inl rfl) (dG ao))
   (aE (aU (i:=10) gu.nd rfl (Or.inl rfl) (tM tO ak))
   (aE (aU (i:=11) gu.nd rfl (Or.inl rfl) (aa 3))
   (aE (dP dj rfl (kN rfl T.fZ (ah (aa 7) ao)) (bI (i:=12) gu.nd rfl (Or.inl rfl))
   (aE (cI (aU (i:=13) gu.nd rfl (Or.inr rfl) (aY AV (hr.mono (by first | decide | lia)) rfl T.Ob T.EF.kp T.Oa .nil aQ (ah (aF d_ (aY pK (hr.mono (by first | decide | lia)) rfl T.qJ T.pD.kp T.qI .nil aQ (ah (aa 0) (ah (aF dR ak (aa 12)) ao))) (aa 12)) (ah ak ao)))))
   (aE (cI (aU (i:=14) gu.nd rfl (Or.inr rfl) (aF cR (aH bT (aa 13) ak (λ_ _=>rfl)) (aH bT (dG (ah (zL (aa 1) T.EK E3 (hr.mono (by first | decide | lia)) T.EE .nil aQ) (ah (bY (G0 rfl) rfl T.uR boot_min (ah (zL (aa 1) T.EK E3 (hr.mono (by first | decide | lia)) T.EE .nil aQ) (ah ak ao))) ao))) (aF fY (aF kq (aa 5) ak) ak) (λ_ _=>rfl)))))
   (aE (qA (dw (iA (aa 6)) (aJ (aU (i:=14) gu.nd rfl (Or.inr rfl) (aF vH (aF cR (aH bT (aa 13) ak (λ_ _=>rfl)) ak) (aF oG (zL (aa 1) T.EK E3 (hr.mono (by first | decide | lia)) T.EE .nil aQ) ak)))) b7))
   (aE (cI (aU (i:=15) gu.nd rfl (Or.inl rfl) (aF d_ ak (aF cR (aH bT (aa 13) ak (λ_ _=>rfl)) (bY (G0 rfl) rfl T.uR boot_min (ah (aF nT ak (jZ IS rfl T.xh boot_int (ah (aa 6) ao))) (ah (aF oG (zL (aa 1) T.EK E3 (hr.mono (by first | decide | lia)) T.EE .nil aQ) (aa 14)) ao)))))))
   (aE (cI (aU (i:=10) gu.nd rfl (Or.inl rfl) (aF d_ (aF dR (aa 10) ak) (aF cR (aH bT (aa 13) ak (λ_ _=>rfl)) ak))))
   (aE (qA (wU (i:=16) gu.nd rfl (Or.inl rfl) (N:=["_law_j", "_law_plate_here", "_law_first"]) (nt:=1) (fv:=[1,14]) (cN.of rfl rfl (by rfl) (by rfl) (by repeat (first | exact trivial | refine⟨rfl,?_⟩)) (by rfl) (by rfl) (by rfl) (by decide) (by decide +kernel)) rfl (kN rfl T.fZ (ah (aa 15) ao)) (λC s H fp=>(bI (i:=0) (show List.Nodup (["_law_j", "_law_plate_here", "_law_first"]:List Str) by decide +kernel) rfl (Or.inl rfl))) (λC s H fp=>jd) (λC s H fp=>(nq (aa 1) T.XN OX (hr.mono (by first | decide | lia)) T.WV .nil aQ (ah (aF dR (aa 2) (aa 0)) ao)))))
   (aE (qA (aU (i:=11) gu.nd rfl (Or.inl rfl) (aY A1 (hr.mono (by first | decide | lia)) rfl T.Od T.EG.kp T.Oc .nil aQ (ah (aa 2) (ah (aH bJ (aa 11) ak (λ_ _=>rfl)) (ah (aH bJ (aa 11) ak (λ_ _=>rfl)) (ah (aa 16) ao)))))))
   (aE (cI (aU (i:=17) gu.nd rfl (Or.inl rfl) (aH qg (dG (ah qX (ah (aF oG (aH bJ (aa 11) ak (λ_ _=>rfl)) (aF cR (aH bT (aa 13) ak (λ_ _=>rfl)) ak)) ao))) (aF cR (aH bT (aa 13) ak (λ_ _=>rfl)) ak) (λ_ _=>rfl))))
   (aE (qA (dw (dz jX (aF cR (aH bT (aa 13) ak (λ_ _=>rfl)) ak) ak (bM _)) (aJ (aU (i:=17) gu.nd rfl (Or.inl rfl) (aF d_ (aH bJ (aa 3) ak (λ_ _=>rfl)) (aF cR (aH bT (aa 13) ak (λ_ _=>rfl)) (aF d_ ak (aF vH (aa 8) (aF d_ ak (aF cR (aH bT (aa 13) ak (λ_ _=>rfl)) (aH bT (dG (ah ak (ah ak ao))) (jZ IS rfl T.xh boot_int (ah (aa 6) ao)) (λ_ _=>rfl)))))))))) b7))
   (aE (cI (aU (i:=18) gu.nd rfl (Or.inl rfl) (jZ Hf rfl T.uS xU (ah (gR (N:=["_law_j", "_law_xs"]) (nt:=1) (fv:=[13]) (cN.of rfl rfl (by rfl) (by rfl) (by repeat (first | exact trivial | refine⟨rfl,?_⟩)) (by rfl) (by rfl) (by rfl) (by decide) (by decide +kernel)) rfl (kN rfl T.fZ (ah (aa 10) ao)) (λC s H fp=>(bI (i:=0) (show List.Nodup (["_law_j", "_law_xs"]:List Str) by decide +kernel) rfl (Or.inl rfl))) (λC s H fp=>(oK (PW.pt (yh (dz lK (aF cR (aF vI (aH (Jk (K:=K) rfl) (aa 1) ak (λ_ _=>rfl)) (aF dR ak (aa 0))) ak) ak (bM _)) (yg (dz lK (aF cR (aH (Jk (K:=K) rfl) (aa 1) ak (λ_ _=>rfl)) ak) ak (bM _))))))) (λC s H fp=>(aa 0))) ao))))
   (aJ (dm (lN jS mJ mK lO (aa 9) (ah (cL (ah (aa 10) (ah (aa 14) (ah (aa 15) (ah (GN (aa 6) (p8 (iD lK (aF cR (aH bT (aa 13) ak (λ_ _=>rfl)) ak) ak (bM _)))) (ah (aa 18) (ah (aa 17) (ah (aa 16) ao)))))))) ao)))))))))))))))
   (aE (qA (jO (eO Ji (aF fY (aF kq (aa 5) ak) ak) ak (bM _)) (aJ (aU (i:=9) gu.nd rfl (Or.inl rfl) (aY ald (hr.mono (by first | decide | lia)) rfl T.ai6 T.W8.kp T.ai5 .nil aQ (ah (aa 1) (ah (aa 2) (ah (aa 3) (ah (aF kq (aa 5) ak) ao))))))) b7))
   (aE (qA (jO (eO Ji (aF fY (aF kq (aa 5) ak) ak) ak (bM _)) (aJ (aU (i:=9) gu.nd rfl (Or.inl rfl) (aY ale (hr.mono (by first | decide | lia)) rfl T.ai8 T.W9.kp T.ai7 .nil aQ (ah (aa 2) (ah (aa 3) (ah (aa 9) ao)))))) b7))
   (aJ (bF (pv 9)))))))))))))),?_⟩
  wp_walk using iT;have ET:=aL.of (K:=K) hS.o;have kp:=aL.of (K:=K) dQ;refine⟨ns,jt,n_,by lia,λo1 sF=>⟨by lia,by lia,_,az.of aD,.int (if fK ns 5 / most % 5=1 then most else fK ns 5 % most),by split <;> rfl,?_⟩⟩
  have sA:=aj.put (o:=.lst [V.int (fK ns 5 % most),V.int most]) sF;generalize upd H o1 (.lst [V.int (fK ns 5 % most),V.int most])=H1 at sA ⊢;have e0:=fD (fK ns 5) (show most≠0 by lia)
  have e1:=fB (fK ns 5) (show 0<most by lia)
  have f0:=fD (fK ns 5 / 400) (show (2:Int)≠0 by decide)
  have f1:=fB (fK ns 5 / 400) (show (0:Int)<2 by decide)
  generalize mS:decide (fK ns 5 / 50 % 8=1)=ch;refine⟨λσ H'=>∃mn:Int,σ = [some (.ref sc),some (.ref p),some (.ref t),some (.ref sp),some (.int most),some (.int (fK ns 5)),some (.bl ch),some (.int mn),none,none,none,none,none,none,none,none,none,none,none]/\H' = H1/\0<=mn/\mn<=7,cG (λ_=>⟨_,rfl,rfl,by lia,by lia⟩) λ_=>⟨_,rfl,rfl,by split <;> lia,by split <;> lia⟩,?_⟩
  rintro σ H' ⟨mn,rfl,rfl,mn0,mn7⟩;generalize fK ns 5=cell at *
  have swl:=ok.so.len;have sw2:=ok.so.two;have fr:=Vi ok.so (sw.length - 1);wp_walk using iT;refine⟨_,sA.gH ET,_,rfl,_,sA.gH ET,_,rfl,sa,rfl,_,az.of (sA _ _ hS.s),_,HN (by lia),?_⟩
  wp_walk using iT;have fl1:=ok.l1;have fl2:=ok.l2;intro l nl;have iX:=hS.same sA;have xr:=hP.same sA;have kp1:=sA.gH kp;have A7:=sA.seq jt;have nn2:=nk.n2;have nn1:=nk.n1;generalize alf:au+sw.getD (sw.length - 1) 0=jq;have alg:1<=jq:=by lia
  have alh:jq<=2000000000:=by lia
  have pk:=ok.pl [];have l2':(bO z au sk sw []).au<=1000000000:=ok.l2;clear alf;refine CZ mn (λi σ H2=>∃(y1 y2 y3 y4 y5 y6 y7:Option V) (nu:Int) (u:Addr) (st:Int×Int) (ts:List Addr) (ks:List Kn),σ = [some (.ref sc),some (.ref p),some (.ref t),some (.ref sp),some (.int most),some (.int cell),some (.bl ch),some (.int mn),some (.int jq),some (.ref l),some (.int nu),some (.ref u),y1,y2,y3,y4,y5,y6,y7]/\aj H' H2/\H2 u=some (.tup [.int st.1,.int st.2])/\0<=st.1/\st.1<(counts z).length/\0<=st.2/\st.2<=1000000000000+6000000000*(i:Int)/\nN H' H2 l ts ks/\ks.length=i/\-1<=nu/\nu<3*(i:Int)/\(∀k∈ks,uB nc k/\k.n<=nu)/\ks.Pairwise λa b=>a.n<b.n) (λQ q=>q) (by lia) (by lia) ⟨none,none,none,none,none,none,none,-1,sp,(r,b),[],[],rfl,aj.put nl,aj.put nl _ _ (sA _ _ dQ),r0,r1,b0,by dsimp only;lia,⟨aD,rfl,nl,λi t k e=>by simp at e⟩,rfl,by lia,by lia,(λ_ h=>nomatch h),.nil⟩ ?_ ?_
  ·rintro i σ H2 N hN hi ⟨y1,y2,y3,y4,y5,y6,y7,nu,u,st,ts,ks,rfl,s2,hu,u0,u1,t0,t1,hg,gn,g0,g1,gk,gp⟩;have i7:(i:Int)<7:=by lia
   refine cJ λNa ka=>?_;wp_walk using iT;refine⟨ns,s2.seq A7,n_,by lia,_,_,rfl,by decide,by decide,λxa xs H3 s3 nx hx X=>ka _ _ ?_⟩
   have X:qy xs 9:=X;have xl:=X.n;have g:∀k:Int,0<=k->k<9->e7 (xs.map V.int) k=some (.int (xs.getD k.toNat 0)):=λk h0 h1=>gG h0 (by lia)
   have Pz:=s2.trans s3;obtain⟨lg,a1,a2,a3,a4,fz,fs,qN,hA⟩:=xr.same Pz;have hp:=hA.o;refine cJ λNb kb=>?_;wp_walk using iT;have PB:=xr.same Pz;refine⟨_,az.of hx,_,g 0 (by decide) (by decide),C,lg,fs,hp,hC,hA.m2,C,p,bO z au sk sw nc,fp,rfl,PB,C,lg,fs,hp,hC,hA.m2,C,p,bO z au sk sw nc,fp,rfl,PB,_,rfl,λo2 PD=>?_⟩
   have enc:(bO z au sk sw nc).nc=nc:=rfl;simp only[enc];have sG:=aj.put (o:=.lst [V.int (nc.length:Int),V.int (if 5<(nc.length:Int) then 5 else(nc.length:Int))]) PD
   have gP:upd H3 o2 (.lst [V.int (nc.length:Int),V.int (if 5<(nc.length:Int) then 5 else(nc.length:Int))]) o2=some (.lst [V.int (nc.length:Int),V.int (if 5<(nc.length:Int) then 5 else(nc.length:Int))]):=aD
   generalize upd H3 o2 (.lst [V.int (nc.length:Int),V.int (if 5<(nc.length:Int) then 5 else(nc.length:Int))])=H4 at sG gP ⊢
   obtain⟨D,hD,D0,D1⟩:∃D:Int,e7 [V.int (nc.length:Int),V.int (if 5<(nc.length:Int) then 5 else(nc.length:Int))] (cell / 25 % 2)=some (.int D)/\1<=D/\D<=nc.length:=by
    have h0:=fD (cell / 25) (show (2:Int)≠0 by decide)
    have h1:=fB (cell / 25) (show (0:Int)<2 by decide)
    have:cell / 25 % 2=0\/cell / 25 % 2=1:=by lia
    rcases this with e | e <;> rw[e]
    ·exact⟨_,rfl,by lia,by lia⟩
    ·exact⟨_,rfl,by split <;> lia,by split <;> lia⟩
   have EN:=Pz.trans sG;have E4:=sG _ _ hx;have PF:=PB.same sG;have uH:=sG _ _ hp;have q0:=X.md (Int.toNat 0) (k:=D) (by lia)
   have q2:=X.md (Int.toNat 0) (k:=2) (by decide)
   refine⟨_,az.of gP,_,hD,_,rfl,_,rfl,by lia,kb _ _ ?_⟩
   generalize xs.getD (Int.toNat 0) 0 % D=fd at q0 ⊢;wp_walk using iT;refine⟨λσ H5=>∃f:Int,σ = [some (.ref sc),some (.ref p),some (.ref t),some (.ref sp),some (.int most),some (.int cell),some (.bl ch),some (.int mn),some (.int jq),some (.ref l),some (.int nu),some (.ref u),some (.int (i:Int)),some (.ref xa),some (.int f),y4,y5,y6,y7]/\H5=H4/\0<=f/\f<nc.length,cG (λ_=>⟨_,az.of E4,_,g 0 (by decide) (by decide),_,rfl,?_⟩) λ_=>⟨_,rfl,rfl,q0.1,by lia⟩,?_⟩
   ·refine⟨C,lg,fs,uH,hC,hA.m2,C,p,bO z au sk sw nc,fp,rfl,PF,_,rfl,.inl ⟨by lia,by lia⟩,_,rfl,rfl,?_,?_⟩
    ·exact Int.mul_nonneg q2.1 (by simp only[enc];lia)
    ·simp only[enc];have:xs.getD (Int.toNat 0) 0 % 2=0\/xs.getD (Int.toNat 0) 0 % 2=1:=by lia
     rcases this with e | e <;> rw[e] <;> lia
   rintro σ H5 ⟨f,rfl,rfl,PJ,f1'⟩;clear hD D0 D1 q0 q2 gP;refine cJ λNc kc=>?_;wp_walk using iT;obtain⟨m0,YJ,m01,m02,m03⟩:∃m0:Int,(if (nc.length:Int) - f<2 - (if ch=true then 1 else 0) then(nc.length:Int) - f else 2 - (if ch=true then 1 else 0))=m0/\1<=m0/\m0<=2/\m0<=nc.length - f:=by
    refine⟨_,rfl,?_,?_,?_⟩ <;> (split <;> split <;> lia)
   have y1':=X.md (Int.toNat 1) (k:=m0) (by lia)
   have y3':=X.md (Int.toNat 3) (k:=3) (by decide)
   refine⟨_,az.of E4,_,g 1 (by decide) (by decide),C,lg,fs,uH,hC,hA.m2,C,p,bO z au sk sw nc,fp,rfl,PF,_,rfl,_,rfl,?_⟩
   simp only[enc,YJ];refine⟨by lia,kc _ _ ?_⟩
   generalize hsz:1+xs.getD (Int.toNat 1) 0 % m0=sz;have sz1:1<=sz:=by lia
   have sz2:sz<=2:=by lia
   have YK:f+sz<=nc.length:=by lia
   clear hsz y1' YJ;refine cJ λNd kd=>?_;wp_walk using iT;refine⟨_,az.of E4,_,g 3 (by decide) (by decide),_,rfl,kd _ _ ?_⟩
   generalize xs.getD (Int.toNat 3) 0 % 3=d3 at y3' ⊢;wp_walk using iT;refine⟨λσ H6=>∃(D:Addr) (bC:List Addr),σ = [some (.ref sc),some (.ref p),some (.ref t),some (.ref sp),some (.int most),some (.int cell),some (.bl ch),some (.int mn),some (.int jq),some (.ref l),some (.int (nu+1+d3)),some (.ref u),some (.int (i:Int)),some (.ref xa),some (.int f),some (.int sz),some (.ref D),y6,y7]/\aj H5 H6/\H5 D=none/\Zn H6 D bC (gj nc f sz),?_,?_⟩
   ·refine zN sz (λD j ys aC H6=>∃(v:Option V) (bC:List Addr),aC = [v,some (.ref p),some (.int f)]/\ys=bC.map V.ref/\Zn H6 D bC ((nc.drop f.toNat).take j)/\aj H5 H6/\H5 D=none/\j<=2) (λQ q=>q) (by lia) (by lia) ?_ ?_ ?_ ?_
    ·intro D hD;exact⟨none,[],rfl,rfl,by rw[List.take_zero];exact Zn.start,aj.put hD,hD,by lia⟩
    ·rintro D j ys aC H6 ⟨v,bC,rfl,rfl,g2,g3,g4,g5⟩;exact⟨g2.l,gh (by rw[aR,g2.n,d9];lia)⟩
    ·rintro D j ys aC H6 N2 h_ hj ⟨v,bC,rfl,rfl,g2,g3,g4,g5⟩;walk_at "rdm";refine⟨C,lg,fs,g3 _ _ uH,hC,hA.m9,C,p,bO z au sk sw nc,fp,_,rfl,PF.same g3,by lia,by simp only[enc];lia,λct q0 eq ht=>⟨g2.l,h_ _ _ _ ⟨_,bC++[ct],rfl,by rw[bZ];rfl,?_,aj.put2 g3 g4,g4,by lia⟩⟩⟩
     have eq':nc[(f+(j:Int)).toNat]? = some q0:=eq;rw[IT PJ eq'];exact g2.push ht
    ·rintro D ys aC H6 ⟨v,bC,rfl,rfl,g2,g3,g4,g5⟩;exact⟨D,bC,rfl,g3,g4,g2⟩
   ·rintro σ H6 ⟨D,bC,rfl,g3,g4,g2⟩;have cin:iG (bO z au sk sw []) (gj nc f sz):=λq hq=>by
     have:=nk.c q (Vf hq);refine⟨this.1,this.2.1,this.2.2.1,?_⟩;obtain⟨y,hy,e⟩:=rG (get_mem (zI (counts z) (show q.1.toNat<(counts z).length by lia)))
     have:=ok.zl.ok.r y hy;lia
    have PL:(gj nc f sz).length=sz.toNat:=Vg PJ (by lia) YK
    have uZ:=EN.trans g3;have PM:=(s3.trans (sG.trans g3)) _ _ hu;have ku:=aL.of (K:=K) PM;walk_at "rdm";refine⟨λσ H7=>∃(u2:Addr) (cg:Int×Int),σ = [some (.ref sc),some (.ref p),some (.ref t),some (.ref sp),some (.int most),some (.int cell),some (.bl ch),some (.int mn),some (.int jq),some (.ref l),some (.int (nu+1+d3)),some (.ref u2),some (.int (i:Int)),some (.ref xa),some (.int f),some (.int sz),some (.ref D),y6,y7]/\aj H6 H7/\H7 u2=some (.tup [.int cg.1,.int cg.2])/\0<=cg.1/\cg.1<(counts z).length/\1<=cg.2/\cg.2<=st.2+6000000000,⟨_,ku,_,rfl,_,ku,_,rfl,t,z,au,sk,sw,za,bB,ca,sa,st.1,st.2,D,bC,gj nc f sz,rfl,iX.same uZ,ok,u0,u1,g2,cin,by lia,λu2 H7 s7 nu2 xq=>?_⟩,?_⟩
    ·have eb:=DN pk l2' (gj nc f sz) st cin;have ei:=kU (bO z au sk sw []) (n:=((bO z au sk sw []).rc.length:Int)) (gj nc f sz) st u0 u1 λq hq=>⟨(cin q hq).1,(cin q hq).2.1⟩;have Ai:1<=(bf (bO z au sk sw []) st (gj nc f sz)).2:=by
      have:=afN ok st cin (λe=>by rw[e] at PL;simp at PL;lia)
      lia
     exact⟨u2,bf (bO z au sk sw []) st (gj nc f sz),rfl,s7,xq,ei.1,ei.2,Ai,by rw[PL] at eb;lia⟩
    rintro σ H7 ⟨u2,cg,rfl,s7,xq,ei1,ei2,Ai,eb⟩;have YL:=(s7 _ _ (g3 _ _ E4));have ku2:=aL.of (K:=K) xq;refine cJ λNe ke=>?_;walk_at "rdm";have z6:=X.md (Int.toNat 6) (k:=2) (by decide)
    have z4:=X.md (Int.toNat 4) (k:=2) (by decide)
    refine⟨_,ku2,_,rfl,_,az.of YL,_,g 6 (by decide) (by decide),_,rfl,_,rfl,λo3 no3=>?_⟩
    have xx:=aj.put (o:=.lst [V.aO,V.int (cg.2 - xs.getD (Int.toNat 6) 0 % 2)]) no3;have PN:upd H7 o3 (.lst [V.aO,V.int (cg.2 - xs.getD (Int.toNat 6) 0 % 2)]) o3=some (.lst [V.aO,V.int (cg.2 - xs.getD (Int.toNat 6) 0 % 2)]):=aD;generalize upd H7 o3 (.lst [V.aO,V.int (cg.2 - xs.getD (Int.toNat 6) 0 % 2)])=H8 at xx PN ⊢;have A8:=xx _ _ YL;obtain⟨la,YM,YN⟩:∃la:Option Int,e7 [V.aO,V.int (cg.2 - xs.getD (Int.toNat 6) 0 % 2)] (xs.getD (Int.toNat 4) 0 % 2)=some (jI la)/\∀x,la=some x->0<=x/\x<=10000000000000:=by
     have:xs.getD (Int.toNat 4) 0 % 2=0\/xs.getD (Int.toNat 4) 0 % 2=1:=by lia
     rcases this with e | e <;> rw[e]
     ·exact⟨none,rfl,λx hx=>by cases hx⟩
     ·refine⟨some (cg.2 - xs.getD (Int.toNat 6) 0 % 2),rfl,λx hx=>?_⟩;cases hx;constructor <;> lia
    have kp8:=((uZ.trans s7).trans xx).gH kp1;refine⟨_,az.of A8,_,g 4 (by decide) (by decide),_,rfl,_,az.of PN,_,YM,ke _ _ ?_⟩
    walk_at "rdm";refine⟨λσ H9=>∃lb:Option Int,σ = [some (.ref sc),some (.ref p),some (.ref t),some (.ref sp),some (.int most),some (.int cell),some (.bl ch),some (.int mn),some (.int jq),some (.ref l),some (.int (nu+1+d3)),some (.ref u2),some (.int (i:Int)),some (.ref xa),some (.int f),some (.int sz),some (.ref D),some (jI lb),y7]/\aj H8 H9/\∀x,lb=some x->0<=x/\x<=10000000000000,⟨_,az.of A8,_,g 4 (by decide) (by decide),_,rfl,cG (λ_=>?_) λ_=>⟨la,rfl,aj.refl _,YN⟩⟩,?_⟩
    ·try walk_at "rdm"
     have v6:∀k:Int,0<k->k<=9->1<=jq*(1+xs.getD (Int.toNat 6) 0 % k)/\jq*(1+xs.getD (Int.toNat 6) 0 % k)<=2000000000*9:=λk hk xy=>by
      have:=X.md (Int.toNat 6) (k:=k) hk;have h1:=pL alg (show 1<=1+xs.getD (Int.toNat 6) 0 % k by lia) (by decide) (by lia)
      have h2:=pL alh (show 1+xs.getD (Int.toNat 6) 0 % k<=9 by lia) (by lia) (by decide)
      exact⟨by lia,h2⟩
     have vk:=v6 (if ch=true then 9 else 4) (by split <;> decide) (by split <;> decide)
     have v5a:=fD (xs.getD (Int.toNat 5) 0) (show 1+jq*(1+xs.getD (Int.toNat 6) 0 % (if ch=true then 9 else 4))≠0 by lia)
     have v5b:=fB (xs.getD (Int.toNat 5) 0) (show 0<1+jq*(1+xs.getD (Int.toNat 6) 0 % (if ch=true then 9 else 4)) by lia)
     refine⟨_,kp8,_,rfl,_,az.of A8,_,g 5 (by decide) (by decide),_,az.of A8,_,g 6 (by decide) (by decide),λo4 no4=>⟨_,az.of aD,.int (if ch=true then 9 else 4),by cases ch <;> rfl,_,rfl,_,rfl,by split <;> decide,.inl ⟨by lia,by lia⟩,_,rfl,by lia,_,rfl,some _,rfl,aj.put no4,λx hx=>?_⟩⟩
     cases hx;constructor <;> lia
    rintro σ H9 ⟨lb,rfl,E5,lbb⟩;clear YM YN PN;have YO:=E5 _ _ A8;have n9:0<=nu+1+d3/\nu+1+d3<=30:=by lia
    refine cJ λNf kf=>?_;walk_at "rdm";refine zN (nu+1+d3) (λD2 j ys aC HA=>∃(v:Option V) (js:List Int),ys=js.map V.int/\aC = [v,some (.ref xa)]/\HA D2=some (.lst ys)/\aj H9 HA/\H9 D2=none/\js.length<=j/\j<=30/\js.Pairwise (· < ·)/\∀x∈js,0<=x/\x<(j:Int)) (λQ q=>q) (by lia) (by lia) ?_ ?_ ?_ ?_
    ·intro D2 kE;exact⟨none,[],rfl,rfl,aD,aj.put kE,kE,bH _,by lia,.nil,λ_ h=>nomatch h⟩
    ·rintro D2 j ys aC HA ⟨v,js,rfl,rfl,j1,j2,j3,j4,j5,j6,j7⟩;exact⟨j1,gh (by rw[aR];lia)⟩
    ·rintro D2 j ys aC HA N2 h_ hj ⟨v,js,rfl,rfl,j1,j2,j3,j4,j5,j6,j7⟩;have YQ:=j2 _ _ YO;walk_at "rdm";have yes:HA D2=some (.lst (js.map V.int))/\N2 (js.map V.int++[V.int (j:Int)]) [some (V.int (j:Int)),some (V.ref xa)] (upd HA D2 (.lst (js.map V.int++[V.int (j:Int)]))):=by
      refine⟨j1,h_ _ _ _ ⟨_,js++[(j:Int)],by rw[bZ];rfl,rfl,aD,aj.put2 j2 j3,j3,by simp;lia,by lia,?_,λx hx=>?_⟩⟩
      ·rw[Gm];exact⟨j6,by simp,λa ha b' hb=>by rw[List.mem_singleton.mp hb];exact(j7 a ha).2⟩
      ·rcases fM.mp hx with hx | hx
       ·have:=j7 x hx;lia
       ·rw[gw.mp hx];lia
     have no:N2 (js.map V.int) [some (V.int (j:Int)),some (V.ref xa)] HA:=h_ _ _ _ ⟨_,js,rfl,rfl,j1,j2,j3,by lia,by lia,j6,λx hx=>by have:=j7 x hx;lia⟩
     exact⟨_,az.of YQ,_,g 7 (by decide) (by decide),_,rfl,by lia,by lia,cG (λ_=>⟨_,az.of YQ,_,g 8 (by decide) (by decide),_,rfl,cG (λ_=>yes) λ_=>no⟩) λ_=>no⟩
    ·rintro D2 ys aC HA ⟨v,js,rfl,rfl,j1,j2,j3,j4,j5,j6,j7⟩;refine⟨D2,rfl,_,.inl ⟨az.of j1,λbt nbt=>kf _ _ ?_⟩⟩;have YR:upd HA bt (.tup (js.map V.int)) bt=some (.tup (js.map V.int)):=aD;have A9:=j2.trans (aj.put (o:=.tup (js.map V.int)) nbt);generalize upd HA bt (.tup (js.map V.int))=HB at YR A9 ⊢;have hxB:=A9 _ _ YO;walk_at "rdm";have s5B:=g3.trans (s7.trans (xx.trans (E5.trans A9)));have YS:=s3.trans (sG.trans s5B);have YT:=hg.same YS;have Dl:D≠l:=(bX ((s3.trans sG) _ _ hg.hl) g4).symm;have fin:∀(wr:Bool) (kt:Addr),HB kt=none->∃x,upd HB kt (.tup [V.int (nu+1+d3),V.int f,V.int sz,V.bl wr,V.ref bt,jI lb,V.ref D]) l=some (.lst x)/\x.length<16777216/\
       N [some (V.ref sc),some (V.ref p),some (V.ref t),some (V.ref sp),some (V.int most),some (V.int cell),some (V.bl ch),some (V.int mn),some (V.int jq),some (V.ref l),some (V.int (nu+1+d3)),some (V.ref u2),some (V.int (i:Int)),some (V.ref xa),some (V.int f),some (V.int sz),some (V.ref D),some (jI lb),some (V.ref bt)]
        (upd (upd HB kt (.tup [V.int (nu+1+d3),V.int f,V.int sz,V.bl wr,V.ref bt,jI lb,V.ref D])) l (.lst (x++[V.ref kt]))):=by
      intro wr kt nkt;have sK:=aj.put (o:=.tup [V.int (nu+1+d3),V.int f,V.int sz,V.bl wr,V.ref bt,jI lb,V.ref D]) nkt;have hK:iH (upd HB kt (.tup [V.int (nu+1+d3),V.int f,V.int sz,V.bl wr,V.ref bt,jI lb,V.ref D])) kt ⟨nu+1+d3,f,sz,wr,js,lb,gj nc f sz⟩ bt D bC:=⟨aD,sK _ _ YR,g2.same ((s7.trans (xx.trans (E5.trans A9))).trans sK)⟩;have PR:=YT.same sK;have PU:=((xx.trans (E5.trans A9)).trans sK) _ _ xq;have u2l:u2≠l:=λe=>by rw[e,PR.hl] at PU;cases PU
      have hnk:uB nc ⟨nu+1+d3,f,sz,wr,js,lb,gj nc f sz⟩:=⟨PJ,sz1,by dsimp only;lia,YK,rfl,⟨j6,λx hx=>(j7 x hx).1,λx hx=>by have:=(j7 x hx).2;lia⟩,lbb⟩
      refine⟨_,PR.hl,by rw[aR,hg.n,gn];lia,hN _ _ ⟨_,_,_,_,_,_,_,nu+1+d3,u2,cg,ts++[kt],ks++[_],rfl,aj.put2 (s2.trans (YS.trans sK)) nl,(aI u2l).trans PU,ei1,ei2,by lia,by lia,PR.snoc hK Dl,by simp[gn],by lia,by lia,λk hk=>?_,?_⟩⟩
      ·rcases fM.mp hk with hk | hk
       ·have:=gk k hk;exact⟨this.1,by have:=this.2;lia⟩
       ·rw[gw.mp hk];exact⟨hnk,lq _⟩
      ·rw[Gm];refine⟨gp,by simp,λk hk k' nM=>?_⟩
       rw[gw.mp nM];have:=(gk k hk).2;dsimp only;lia
     exact⟨⟨_,az.of YT.hl⟩,cG (λ_=>fin true) λ_=>⟨_,az.of hxB,_,g 2 (by decide) (by decide),_,rfl,fin _⟩⟩
  ·rintro σ H2 ⟨y1,y2,y3,y4,y5,y6,y7,nu,u,st,ts,ks,rfl,s2,hu,u0,u1,t0,t1,hg,gn,g0,g1,gk,gp⟩;wp_walk using iT;have ali:=s2 _ _ (sA _ _ dQ);refine⟨λσ H5=>∃(l2:Addr) (uU:List Addr) (u5:List Kn),σ = [some (.ref sc),some (.ref p),some (.ref t),some (.ref sp),some (.int most),some (.int cell),some (.bl ch),some (.int mn),some (.int jq),some (.ref l2),some (.int nu),some (.ref u),y1,y2,y3,y4,y5,y6,y7]/\aj H' H5/\H' l2=none/\gm H5 l2 uU u5/\uC nc u5,cG (λ_=>⟨C,p,t,sp,z,au,sk,sw,za,bB,ca,sa,nc,fp,r,b,_,rfl,hC,xr.same s2,nk,iX.same s2,ok,ali,r0,r1,λl2 uU u5 H3 s3 xu hk qu=>⟨l2,uU,u5,rfl,s2.trans s3,s2.free xu,hk,qu⟩⟩) λ_=>⟨l,ts,ks,rfl,s2,hg.nl,hg.Ac,⟨λk hk=>(gk k hk).1,gp,by lia⟩⟩,?_⟩
   rintro σ H5 ⟨l2,uU,u5,rfl,s5,xu,hk,qu⟩;walk_at "rdm";refine⟨λσ H6=>∃(l3:Addr) (A_:List Addr) (xA:List Kn),σ[9]? = some (some (.ref l3))/\aj H' H6/\H' l3=none/\gm H6 l3 A_ xA/\uC nc xA,cG (λ_=>⟨t,sp,l2,z,au,sk,sw,za,bB,ca,sa,r,b,uU,u5,rfl,iX.same s5,ok,s5 _ _ (sA _ _ dQ),r0,r1,b0,by lia,hk,λk nM=>(qu.ok k nM).cells nk ok,(cX qu.n7 (by decide)),λl3 A_ xA H6 s6 xw PV rt=>⟨l3,A_,xA,rfl,s5.trans s6,s5.free xw,PV,rt.ok qu⟩⟩) λ_=>⟨l2,uU,u5,rfl,s5,xu,hk,qu⟩,?_⟩
   rintro σ H6 ⟨l3,A_,xA,e9,s6,xw,PV,ok3⟩;simp only[_L.Later,rY,mI,pC,An,Ao,uL,D9,w5,qE,qF,w6,Jg,Aq,Jh,D4,Ab,yU,DJ,DK,De,Dm,Dj,Di,zS,Ih,C7,qq,C8,C6,zd,wu,rB,yZ,ze,Ct,Ag,IW,yT,yS,yR,yW,yV,and_assoc,B8,HO.ins.injEq,CU,wk,fW,String.reduceBEq,List.lookup_cons,List.lookup_nil,aD,HO.lst.injEq,HO.dT.injEq,HO.tup.injEq,String.reduceEq,false_and,or_false,false_or,oM,zy,zx,zu,zm,zo,zq,zA,Bool.not_eq_true',decide_eq_false_iff_not,Classical.not_not,yt,if_false_left,if_false_right,zE,ym,jF,List.length_map,List.getElem?_nil,vC,tw,oB,vF,s_,tu,yu,vA,tC,q_,iR,rI,yE,rU,yJ,tB,yr,yq,Ck,vD,vP,yM,vM,tR,yp,yd,qZ,yf,yi,yj,yl,yO,yN,y9,rC,y_,zb,zf,zg,vR,tX,yG,yH,Jl,Jm,Jo,Jp,Jq,Jr,Js,Jt,tN,yF,Cs,vL,yL,Cv,yP,_L.start,HL,HM,I_,List.map_cons,List.map_nil,List.cons_append,List.nil_append,List.append_nil,List.length_cons,List.length_nil,List.getElem?_cons_zero,List.getElem?_cons_succ,Option.some.injEq,exists_eq_left,exists_eq_left',exists_and_left,exists_eq,V.int.injEq,V.ref.injEq,V.bl.injEq,V.ty.injEq,V.str.injEq,List.cons.injEq,and_true,true_and,List.set_cons_zero,List.set_cons_succ,decide_eq_true_eq,Nat.reduceSub,Nat.reduceAdd,List.replicate_succ,List.replicate_zero,List.replicate,Int.reduceLT,Int.reduceLE,Int.reducePow,Int.reduceToNat,Int.reduceNeg,Nat.reduceLT,Nat.reduceLeDiff,Nat.reducePow,Int.reduceMul,Int.reduceAdd,Int.reduceSub,and_self,or_true,true_or,gt_iff_lt,ge_iff_le,if_true,if_false,Bool.false_eq_true,reduceIte,Nat.sub_self,Nat.sub_zero];exact⟨_,e9,q l3 A_ xA H6 (sA.trans s6) (sA.free xw) PV ok3⟩
theorem alj(T:Tx K mg A)(aG:bE mg base A.bu A.aZ):a_ P w K mg base bx 4 A.NG A.NH ["_law_found", "_law_spec_here", "_law_ring", "_law_beat", "_law_known_here"] (agV K):=by
 have AZ:=OW (P:=P) (w:=w) (base:=base) T aG;have alk:=akX (P:=P) (w:=w) (base:=base) T aG;have alm:=akY (P:=P) (w:=w) (base:=base) T aG;refine T.Og.ok ahx (λvs H Q E h=>?_) (λaP Ar outer s H vs Q E hr h=>?_)
 ·obtain⟨u,t,kl,pb,lv,e,z,au,sk,sw,za,bB,ca,sa,r,bt,cM,ks,bg,xs,rfl,_⟩:=h
  rfl
 ·obtain⟨u,t,kl,pb,lv,e,z,au,sk,sw,za,bB,ca,sa,r,bt,cM,ks,bg,xs,rfl,hu,hb,E6,hS,ok,r0,r1,hk,kc,Yx,up,od,he,q⟩:=h;refine⟨_,(aE (dw (PW.pt (iB (jU (iA (bY zH rfl T.mz ow (ah (aa 0) (ah (vB (v:=.ty "tuple") rfl T.uS xU rfl) ao))))) (iB (eO Jj (bY fL rfl T.eK eT (ah (aa 0) ao)) ak (bM _)) (iQ (jU (iA (bY zH rfl T.mz ow (ah (aH bJ (aa 0) ak (λ_ _=>rfl)) (ah (vB (v:=.ty "list") rfl T.pH qU rfl) ao))))))))) (aJ (bF gb)) b7)
   (aE (dw (PW.pt (iB (jU (iA (aY alm (hr.mono (by first | decide | lia)) rfl T.ajn T.Xg.kp T.ajm .nil aQ (ah (aH bJ (aa 0) ak (λ_ _=>rfl)) (ah (aa 4) ao))))) (iQ (jU (iA (aY AZ (hr.mono (by first | decide | lia)) rfl T.Of T.EH.kp T.Oe .nil aQ (ah (aH bJ (aa 0) ak (λ_ _=>rfl)) ao))))))) (aJ (bF gb)) b7)
   (aJ (bF (iD lK (aH vU (aY alk (hr.mono (by first | decide | lia)) rfl T.ajj T.Xe.kp T.aji .nil aQ (ah (aa 1) (ah (aa 2) (ah (aa 3) (ah (aa 4) (ah (aH bJ (aa 0) ak (λ_ _=>rfl)) ao)))))) ak (λ_ _=>rfl)) (aH bJ (aa 0) ak (λ_ _=>rfl)) (bM _)))))),?_⟩
  walk_at "rdt";refine⟨_,.tup hu,true,rfl,ite_no (by simp) ⟨_,.inr (aL.of hu),ite_no (by simp) ⟨_,aL.of hu,_,rfl,_,.lst E6,true,rfl,ite_no (by simp) ⟨_,aL.of hu,_,rfl,pb,kl,cM,ks,bg,rfl,hb,hk,Yx,up,od,λH1 s1=>⟨_,rfl,ite_no (by simp) ?_⟩⟩⟩⟩⟩
  refine⟨_,aL.of (s1 _ _ hu),_,rfl,_,rfl,_,rfl,ite_no (by simp) ?_⟩
  refine⟨_,aL.of (s1 _ _ hu),_,rfl,t,kl,pb,z,au,sk,sw,za,bB,ca,sa,r,bt,cM,ks,bg,rfl,hS.same s1,ok,r0,r1,hk.same s1,kc,s1 _ _ hb,λv H2 s2 nv hv=>?_⟩;refine⟨v,rfl,_,aL.of hv,_,rfl,_,aL.of (s2 _ _ (s1 _ _ hu)),_,rfl,rfl,?_⟩;rw[he,show decide (V.int e=V.int e)=true from kJ rfl];exact q _ (s1.trans s2)
theorem YU(T:Tx K mg A)(aG:bE mg base A.bu A.aZ):a_ P w K mg base bx 5 A.LH A.LI ["plate", "ring", "beat", "cells"] (adl K [A.bG,A.br]):=by
 have aln:=ak4 (P:=P) (w:=w) (base:=base) T aG;refine T.NQ.ok V1 (λvs H Q E h=>?_) (λaP Ar outer s H vs Q E hr h=>?_)
 ·obtain⟨C,p,P,fp,r,b,ca,bC,cz,rfl,_⟩:=h
  rfl
 ·obtain⟨C,p,P,fp,r,b,ca,bC,cz,rfl,hC,hP,ok,r0,r1,hz,hq,hlen,q⟩:=h;refine⟨_,(aE (aU (i:=4) V1.nd rfl (Or.inl rfl) (aY aln (hr.mono (by first | decide | lia)) rfl T.ahT T.Ws.kp T.ahS .nil aQ (ah (aa 0) (ah (aa 1) (ah (aa 2) (ah (aa 3) ao))))))
   (aE (dw (jU (GY (aa 4) (λ_=>rfl))) (aJ (bF (cL (ah (aa 1) (ah (aa 2) ao))))) b7)
   (aJ (bF (cL (ah (aH vU (aH bT (aa 4) (tM tO ak) (λ_ _=>rfl)) ak (λ_ _=>rfl)) (ah (aH vU (aH bT (aa 4) (tM tO ak) (λ_ _=>rfl)) ak (λ_ _=>rfl)) ao))))))),?_⟩
  walk_at "rdm";refine⟨C,p,P,fp,r,b,ca,bC,cz,rfl,hC,hP,ok,r0,r1,hz,hq,hlen,λl ts H1 s1 n1 EO h1=>?_⟩;walk_at "rdm";have hn:=h1.n;rw[nA] at hn;refine⟨_,.inl ⟨_,az.of h1.l,rfl⟩,cG (λe=>λt nt=>?_) λe=>?_⟩
  ·have ez:cz = []:=by
    have:cz.length=0:=by
     have e1:ts = []:=by simpa using e
     rw[e1] at hn;simpa using hn.symm
    exact BC this
   subst ez;exact q t _ (aj.put2 s1 (s1.free nt)) (s1.free nt) aD
  ·have ez:cz≠[]:=by
    rintro rfl;have e1:ts = []:=BC hn;rw[e1] at e;exact e rfl
   have hp:0<cz.length:=List.length_pos_iff.mpr ez;obtain⟨t,et,ht⟩:=h1.at (i:=cz.length - 1) (by rw[nA];lia)
   obtain⟨a,c,ew⟩:=adh P (r,b) ez;rw[ew] at ht;have ei:e7 (ts.map V.ref) (-1)=some (.ref t):=by
    unfold e7;rw[ac9 (by rw[aR];lia),aR,hn]
    exact et
   refine⟨_,az.of h1.l,_,ei,?_⟩;walk_at "rdm";refine⟨_,aL.of ht,_,rfl,_,az.of h1.l,_,ei,?_⟩;walk_at "rdm";refine⟨_,aL.of ht,_,rfl,λt2 nt=>?_⟩;exact q t2 _ (aj.put2 s1 (s1.free nt)) (s1.free nt) aD
theorem alo(T:Tx K mg A)(aG:bE mg base A.bu A.aZ):a_ P w K mg base bx 5 A.Nh A.Ni ["_law_one", "_law_cell"] (afA K A.bU):=by
 have PX:=Yz (P:=P) (w:=w) (base:=base) T aG;have alp:=ak2 (P:=P) (w:=w) (base:=base) T aG;refine T.Xa.ok V6 (λvs H Q E h=>?_) (λaP Ar outer s H vs Q E hr h=>?_)
 ·obtain⟨t,k,b,cl,bC,c,nc,rfl,_⟩:=h
  rfl
 ·obtain⟨t,k,b,cl,bC,c,nc,rfl,hk,ok,hn,q⟩:=h;refine⟨_,(aE (dw (iA (aH bJ (aa 0) ak (λ_ _=>rfl))) (aE (wU (i:=2) V6.nd rfl (Or.inl rfl) (N:=["_law_j", "_law_cell"]) (nt:=1) (fv:=[1]) (cN.of rfl rfl (by rfl) (by rfl) (by repeat (first | exact trivial | refine⟨rfl,?_⟩)) (by rfl) (by rfl) (by rfl) (by decide) (by decide +kernel)) rfl (kN rfl T.fZ (ah (aH bJ (aa 0) ak (λ_ _=>rfl)) ao)) (λC s H fp=>(bI (i:=0) (show List.Nodup (["_law_j", "_law_cell"]:List Str) by decide +kernel) rfl (Or.inl rfl))) (λC s H fp=>jd) (λC s H fp=>(aF fY (aF dR (aa 1) (aF l7 ak (aa 0))) (aF dR (aF rm ak ak) ak))))
   (aJ (bF (aY alp (hr.mono (by first | decide | lia)) rfl T.ahE T.Wf.kp T.ahD .nil aQ (ah (aH bJ (aa 0) ak (λ_ _=>rfl)) (ah (aa 2) (ah (aF fY (aa 1) (aF rm ak ak)) (ah (aF fY (aa 1) ak) (ah (aH bJ (aa 0) ak (λ_ _=>rfl)) (ah (aH bJ (aa 0) ak (λ_ _=>rfl)) (ah (iD lK (aF fY (aa 1) ak) ak (bM _)) ao))))))))))) b7)
   (aJ (bF (aY PX (hr.mono (by first | decide | lia)) rfl T.We T.NN.kp T.ahC .nil aQ (ah (aH bJ (aa 0) ak (λ_ _=>rfl)) (ah (aH bJ (aa 0) ak (λ_ _=>rfl)) (ah (aF fY (aa 1) (aF rm ak ak)) (ah (aF fY (aa 1) ak) (ah (aH bJ (aa 0) ak (λ_ _=>rfl)) (ah (aH bJ (aa 0) ak (λ_ _=>rfl)) ao)))))))))),?_⟩
  have k1:=aL.of (K:=K) hk.o;walk_at "rdm";have a0:=fD c (show (1000000000000:Int)≠0 by decide)
  have a1:=fB c (show (0:Int)<1000000000000 by decide)
  have b0:=fD c (show (21:Int)≠0 by decide)
  have b1:=fB c (show (0:Int)<21 by decide)
  have o1:=ok.m0;have o2:=ok.m1;have o3:=ok.fit;have hB:C_ k.f k.m (c % 1000000000000) (c % 21) k.lV:=⟨ok.f0,by lia,ok.m0,ok.m1,a0,by lia,b0,by lia,ok.l⟩
  refine⟨_,k1,_,rfl,k.w,rfl,cG (λhw=>?_) λhw=>⟨_,k1,_,rfl,_,k1,_,rfl,by decide,_,k1,_,rfl,_,k1,_,rfl,k.f,k.m,_,_,k.lV,_,k.bh,rfl,hB,.inr ⟨b,rfl,.inr hk.b⟩,ok.r,λp mk bb dx H' s np ha=>q _ p mk bb dx H' ⟨rfl,rfl,rfl,?_,rfl⟩ s np ha⟩⟩
  ·refine zN k.m (λD i ys aC H2=>∃(u:Option V) (ns:List Int),ys=ns.map V.int/\ns.length=i/\(∀x∈ns,0<=x/\x<=1000000000)/\aC = [u,some (.int c)]/\H2 D=some (.lst ys)/\aj H H2/\H D=none/\i<=16) (λQ q=>?_) (by lia) (by lia) ?_ ?_ ?_ ?_
   ·walk_at "rdm";exact⟨_,k1,_,rfl,q⟩
   ·intro D hD;exact⟨none,[],rfl,rfl,(λ_ h=>nomatch h),rfl,aD,aj.put hD,hD,by lia⟩
   ·rintro D i ys aC H2 ⟨u,ns,rfl,e0,eb,rfl,e1,e2,e3,e4⟩;exact⟨e1,gh (by rw[aR];lia)⟩
   ·rintro D i ys aC H2 N hN hi ⟨u,ns,rfl,e0,eb,rfl,e1,e2,e3,e4⟩;walk_at "rdm";have m0:=fD (c+7*(i:Int)) (show (1000000001:Int)≠0 by decide)
    have m1:=fB (c+7*(i:Int)) (show (0:Int)<1000000001 by decide)
    refine⟨by decide,e1,hN _ _ _ ⟨_,ns++[(c+7*(i:Int)) % 1000000001],by rw[bZ];rfl,by simp[e0],λx hx=>?_,rfl,aD,aj.put2 e2 e3,e3,by lia⟩⟩
    rcases fM.mp hx with hx | hx
    ·exact eb x hx
    ·rw[gw.mp hx];lia
   ·rintro D ys aC H2 ⟨u,ns,rfl,e0,eb,rfl,e1,e2,e3,e4⟩;have k2:=e2.gH k1;have el:(ns.length:Int)=k.m:=by lia
    refine⟨_,k2,_,rfl,by decide,_,k2,_,rfl,_,k2,_,rfl,k.f,_,_,D,ns,k.lV,_,k.bh,_,rfl,az.of e1,eb,by rw[el];exact hB,.inr ⟨b,rfl,.inr (e2 _ _ hk.b)⟩,ok.r,λp mk bb dx H' s np ha=>q _ p mk bb dx H' ⟨rfl,el,rfl,by rw[if_pos hw],rfl⟩ (e2.trans s) (e2.free np) ha⟩
  ·rw[if_neg hw]
theorem alq(T:Tx K mg A)(aG:bE mg base A.bu A.aZ):a_ P w K mg base bx 6 A.LZ A.L4 ["plate", "ring", "beat", "dues"] (afD K [A.bG,A.br] A.bU A.cj):=by
 have PY:=YU (P:=P) (w:=w) (base:=base) T aG;have alr:=akm (P:=P) (w:=w) (base:=base) T aG;refine T.WG.ok V3 (λvs H Q E h=>?_) (λaP Ar outer s H vs Q E hr h=>?_)
 ·obtain⟨C,p,dl,P,fp,r,b,ps,ds,rfl,_⟩:=h
  rfl
 ·obtain⟨C,p,dl,P,fp,r,b,ps,ds,rfl,hC,hP,ok,r0,r1,hd,dn,dc,q⟩:=h;refine⟨_,(aE (aU (i:=4) V3.nd rfl (Or.inl rfl) (aF d_ (aa 2) (bY (HE rfl) rfl T.AQ boot_sum (ah (gR (N:=["due", "plate"]) (nt:=1) (fv:=[0]) (cN.of rfl rfl (by rfl) (by rfl) (by repeat (first | exact trivial | refine⟨rfl,?_⟩)) (by rfl) (by rfl) (by rfl) (by decide) (by decide +kernel)) rfl (dX (aa 3)) (λC s H fp=>(bI (i:=0) (show List.Nodup (["due", "plate"]:List Str) by decide +kernel) rfl (Or.inl rfl))) (λC s H fp=>jd) (λC s H fp=>(aY alr (hr.mono (by first | decide | lia)) rfl T.ah1 T.WE.kp T.ah0 .nil aQ (ah (aa 1) (ah (aa 0) ao))))) ao))))
   (aJ (bF (bY (afl rfl) rfl T.OF boot_max (ah (aF vY (dG (ah (aa 4) ao)) (gR (N:=["due", "plate", "ring", "beat"]) (nt:=1) (fv:=[0,1,2]) (cN.of rfl rfl (by rfl) (by rfl) (by repeat (first | exact trivial | refine⟨rfl,?_⟩)) (by rfl) (by rfl) (by rfl) (by decide) (by decide +kernel)) rfl (dX (aa 3)) (λC s H fp=>(bI (i:=0) (show List.Nodup (["due", "plate", "ring", "beat"]:List Str) by decide +kernel) rfl (Or.inl rfl))) (λC s H fp=>jd) (λC s H fp=>(aH (acN (K:=K) rfl) (aY PY (hr.mono (by first | decide | lia)) rfl T.Wu T.NQ.kp T.Wt .nil aQ (ah (aa 1) (ah (aa 2) (ah (aa 3) (ah (D_ (K:=K) rfl (aa 0) rfl) ao))))) ak (λ_ _=>rfl))))) ao))))),?_⟩
  walk_at "rdt";have jQ:=hd.n;refine je dl (ps.map V.ref) (λD i ys aC H2=>∃(u:Option V),ys=(((ds.take i).map (·.c)).map (fS P)).map V.int/\aC = [u,some (.ref p)]/\H2 D=some (.lst ys)/\aj H H2/\H D=none) (λQ q=>q) (az.of hd.l) ?_ ?_ ?_ ?_
  ·intro D hD;exact⟨none,rfl,rfl,aD,aj.put hD,hD⟩
  ·rintro D i ys aC H2 ⟨u,rfl,rfl,e1,e2,e3⟩;exact⟨e1,gh (by simp only[List.length_map,List.length_take];lia),az.of (e2 _ _ hd.l)⟩
  ·rintro D i x ys aC H2 N hN hx ⟨u,rfl,rfl,e1,e2,e3⟩;obtain⟨dp,kC,rfl⟩:=e8 hx;have hi:i<ds.length:=by rw[← jQ];exact dB kC
   obtain⟨dx,ap,l,ts,m,b',b_,hD⟩:=(hd.same e2).t i dp ds[i] kC (aX hi);obtain⟨c1,c2⟩:=dc ds[i] (cO hi);walk_at "rdm";refine⟨C,p,dp,P,fp,ds[i],dx,ap,l,ts,m,b',b_,rfl,hC,hP.same e2,ok,hD,c1,c2,λH3 s3=>⟨s3 _ _ e1,hN _ _ _ ⟨_,?_,rfl,aD,aj.put2 (e2.trans s3) e3,e3⟩⟩⟩;rw[take_succ_get (aX hi),bZ,bZ,bZ];rfl
  ·rintro D ys aC H2 ⟨u,rfl,rfl,e1,e2,e3⟩;rw[aR,jQ,eE] at e1
   try walk_at "rdm"
   refine⟨_,az.of e1,λo1 sF=>?_⟩;have so:=aj.put (o:=.lst [V.int (b+((ds.map (·.c)).map (fS P)).sum)]) sF;have Ba:upd H2 o1 (.lst [V.int (b+((ds.map (·.c)).map (fS P)).sum)]) o1=some (.lst [V.int (b+((ds.map (·.c)).map (fS P)).sum)]):=aD;generalize upd H2 o1 (.lst [V.int (b+((ds.map (·.c)).map (fS P)).sum)])=H3 at so Ba ⊢;have s3:=e2.trans so;refine je dl (ps.map V.ref) (λD i ys aC H4=>∃(u:Option V),ys=(((ds.take i).map (·.c)).map λc=>(bf P (r,b) c).2).map V.int/\aC = [u,some (.ref p),some (.int r),some (.int b)]/\H4 D=some (.lst ys)/\aj H3 H4/\H3 D=none) (λQ q=>q) (az.of (s3 _ _ hd.l)) ?_ ?_ ?_ ?_
   ·intro D hD;exact⟨none,rfl,rfl,aD,aj.put hD,hD⟩
   ·rintro D i ys aC H4 ⟨u,rfl,rfl,g1,g2,g3⟩;exact⟨g1,gh (by simp only[List.length_map,List.length_take];lia),az.of (g2 _ _ (s3 _ _ hd.l))⟩
   ·rintro D i x ys aC H4 N hN hx ⟨u,rfl,rfl,g1,g2,g3⟩;obtain⟨dp,kC,rfl⟩:=e8 hx;have hi:i<ds.length:=by rw[← jQ];exact dB kC
    obtain⟨dx,ap,l,ts,m,b',b_,hD⟩:=((hd.same s3).same g2).t i dp ds[i] kC (aX hi);obtain⟨c1,c2⟩:=dc ds[i] (cO hi);have eB:=hD.o;unfold o8 at eB;wp_walk using T,eB;refine⟨C,p,P,fp,r,b,l,ts,ds[i].c,rfl,hC,(hP.same s3).same g2,ok,r0,r1,hD.c,c1,c2,λt H5 s5 nt ht=>⟨t,rfl,_,aL.of ht,_,rfl,s5 _ _ g1,hN _ _ _ ⟨_,?_,rfl,aD,aj.put2 (g2.trans s5) g3,g3⟩⟩⟩;rw[take_succ_get (aX hi),bZ,bZ,bZ];rfl
   ·rintro D ys aC H4 ⟨u,rfl,rfl,g1,g2,g3⟩;rw[aR,jQ,eE] at g1;refine⟨D,rfl,_,g2 _ _ Ba,_,g1,by simp only[List.length_map,List.length_cons,List.length_nil];lia,λl nl=>⟨(b+((ds.map (·.c)).map (fS P)).sum)::(ds.map (·.c)).map (λc=>(bf P (r,b) c).2),az.of aD,by simp,λM hM YV=>?_⟩⟩
    have eb:qz P r b (ds.map (·.c))=M:=afE (f:=λc=>(bf P (r,b) c).2) (by
      rcases cE.mp hM with h | h
      ·exact .inl h
      ·exact .inr h) (YV _ cA) λy hy=>YV y (bW _ hy)
    rw[← eb];exact q _ ((s3.trans g2).trans (aj.put nl))
theorem als(T:Tx K mg A)(aG:bE mg base A.bu A.aZ):a_ P w K mg base bx 6 A.MX A.MY ["_law_spec_here", "_law_cell"] (afw K [A.bG,A.br] A.aZ (qw g_) (qx "nearest_rings")):=by
 have Pr:=Yh (P:=P) (w:=w) (base:=base) T aG;have alu:=ak7 (P:=P) (w:=w) (base:=base) T aG;have AV:=OV (P:=P) (w:=w) (base:=base) T aG;refine T.W6.ok xg (λvs H Q E h=>?_) (λaP Ar outer s H vs Q E hr h=>?_)
 ·obtain⟨t,z,au,sk,sw,za,bB,ca,sa,c,rfl,_⟩:=h
  rfl
 ·obtain⟨t,z,au,sk,sw,za,bB,ca,sa,c,rfl,hS,ok,T0,q⟩:=h;have hu:=qj hr;refine⟨_,(aE (aU (i:=2) xg.nd rfl (Or.inl rfl) (aY AV (hr.mono (by first | decide | lia)) rfl T.Ob T.EF.kp T.Oa .nil aQ (ah (aa 1) (ah ak ao))))
   (aE (dw (dz jX (aF cR (aH bT (aa 2) ak (λ_ _=>rfl)) ak) ak (bM _)) (aJ (bF (vN T.aju Pr (hr.mono (by first | decide | lia)) rfl T.XG T.WT .nil aQ (ah (jZ vW rfl T.pH qU (ah (aH bJ (aa 0) ak (λ_ _=>rfl)) ao)) (ah (aH bJ (aa 0) ak (λ_ _=>rfl)) (ah (aH bJ (aa 0) ak (λ_ _=>rfl)) (ah (jZ vW rfl T.pH qU (ah (aH bJ (aa 0) ak (λ_ _=>rfl)) ao)) ao))))))) b7)
   (aE (aU (i:=3) xg.nd rfl (Or.inl rfl) (aF cR (aH bT (aa 2) ak (λ_ _=>rfl)) (bY (S2 rfl) rfl T.uR boot_min (ah (aH bJ (aa 0) ak (λ_ _=>rfl)) ao))))
   (aE (aU (i:=4) xg.nd rfl (Or.inl rfl) Hs)
   (aE (dP dj rfl (kN rfl T.fZ (ah (bY (G0 rfl) rfl T.uR boot_min (ah (aF cR (aH bT (aa 2) ak (λ_ _=>rfl)) ak) (ah (aF l7 (aa 3) (bY CI rfl T.eK eT (ah (aH bJ (aa 0) ak (λ_ _=>rfl)) ao))) ao))) ao)) (bI (i:=5) xg.nd rfl (Or.inl rfl))
   (aE (aU (i:=6) xg.nd rfl (Or.inl rfl) (aF cR (aH bT (aa 2) (aF dR ak (aa 5)) (λ_ _=>rfl)) (bY CI rfl T.eK eT (ah (aH bJ (aa 0) ak (λ_ _=>rfl)) ao))))
   (aJ (zw hu (aa 4) (cL (ah (aa 6) (ah (aF cR (aH bT (aa 2) (aF dR ak (aa 5)) (λ_ _=>rfl)) (aH qg (aH bJ (aa 0) ak (λ_ _=>rfl)) (aa 6) (λ_ _=>rfl))) ao))) gb rfl))))
   (aJ (bF (vN T.ajv alu (hr.mono (by first | decide | lia)) rfl T.ajw T.aiW .nil aQ (ah (jZ vW rfl T.pH qU (ah (aH bJ (aa 0) ak (λ_ _=>rfl)) ao)) (ah (aH bJ (aa 0) ak (λ_ _=>rfl)) (ah (aH bJ (aa 0) ak (λ_ _=>rfl)) (ah (jZ vW rfl T.pH qU (ah (aH bJ (aa 0) ak (λ_ _=>rfl)) ao)) (ah (aa 3) (ah (jZ (ae6 rfl) rfl T.pH qU (ah (aa 4) ao)) ao)))))))))))))),?_⟩
  walk_at "rdm";refine⟨c,16,rfl,by decide,by decide,λxa xs H1 s1 n1 hx X=>?_⟩
  have X:qy xs 16:=X;have xl:=X.n;have g:∀k:Int,0<=k->k<16->e7 (xs.map V.int) k=some (.int (xs.getD k.toNat 0)):=λk h0 h1=>gG h0 (by lia)
  have iX:=hS.same s1;have T1:=T0.same s1;have zl:=ok.zl;have cl:=rF z λp hp=>(zl.ok.r p hp).1;have nB:=zl.sm;have c2:=zl.ok.s2;have cm:∀c∈counts z,1<=c/\c<=60:=λc hc=>by
   obtain⟨y,hy,rfl⟩:=rG hc;have:=zl.ok.r y hy;lia
  have k1:=aL.of (K:=K) iX.o;walk_at "rdm";refine⟨_,az.of hx,_,g 0 (by decide) (by decide),_,rfl,cG (λh0=>?_) λh0=>?_⟩
  ·refine⟨_,k1,_,rfl,za,rfl,_,.inl iX.zn.sq,λzc Bb=>?_⟩;have z2:=aj.put (o:=.lst (bB.map V.ref)) Bb;refine⟨_,z2.gH k1,_,rfl,_,z2.gH k1,_,rfl,_,z2.gH k1,_,rfl,sa,rfl,_,.inl (az.of (z2 _ _ iX.s)),λsc PZ p dx np j_ nd=>?_⟩;clear z2;have z2:=aj.put (o:=.lst (bB.map V.ref)) Bb;have z3:=aj.put (o:=.lst (sw.map V.int)) PZ;have u6:=z2.trans z3;have P0:Zn (upd (upd H1 zc (.lst (bB.map V.ref))) sc (.lst (sw.map V.int))) zc bB z:=⟨z3 _ _ aD,iX.zn.n,(iX.zn.same u6).t⟩;have jt:upd (upd H1 zc (.lst (bB.map V.ref))) sc (.lst (sw.map V.int)) sc=some (.lst (sw.map V.int)):=aD;generalize upd (upd H1 zc (.lst (bB.map V.ref))) sc (.lst (sw.map V.int))=H3 at *
   have u7:=aj.put (o:=.own p) j_;have gS:upd H3 dx (.own p) p=none:=by rw[aI (f_ nd)];exact np
   have iO:=u7.trans (aj.put (o:=.ins A.bG dx []) gS);refine⟨A.bG,p,dx,zc,sc,bB,z,au,sk,sw,rfl,T.ajS,aD,P0.same iO,zl.ok,ok.l1,ok.l2,ok.k0,ok.k1,ok.l3,az.of (iO _ _ jt),ok.so,λH5 sD b1 b2 b3 b4 tss sb nf hp5 hA=>⟨rfl,?_⟩⟩;exact q A.bG p _ _ H5 (λb o e _=>sb _ _ (iO _ _ (u6 _ _ (s1 _ _ e))) (bX (u6 _ _ (s1 _ _ e)) np)) (by simp) ⟨sD,b1,b2,b3,b4,tss,_,rfl,hA⟩ (afv (by lia) (by lia) λc hc=>⟨by have:=cm c hc;lia,(cm c hc).2⟩)
  ·refine⟨_,az.of hx,_,g 1 (by decide) (by decide),_,k1,_,rfl,ca,rfl,_,az.of iX.c,by lia,λM hM XZ=>⟨_,rfl,?_⟩⟩
   have hM1:=cm M hM;have p0:=fD (xs.getD (Int.toNat 1) 0) (show M≠0 by lia)
   have p1:∀c∈counts z,xs.getD (Int.toNat 1) 0 % M<c:=λc hc=>Int.lt_of_lt_of_le (fB _ (by lia)) (XZ c hc)
   refine⟨by lia,λd nd=>?_⟩
   generalize xs.getD (Int.toNat 1) 0 % M=sp at p0 p1 ⊢;have pM:=p1 M hM;have gD:∀i:Nat,i<(counts z).length->(counts z).getD i 0∈counts z:=λi hi=>by
    rw[show (counts z).getD i 0=(counts z)[i] by simp[hi]];exact cO hi
   have y2:=X.md (Int.toNat 2) (k:=7) (by decide)
   have q0:0<=sp*((counts z).length:Int):=Int.mul_nonneg p0 (by lia)
   have q1:sp*((counts z).length:Int)<=60*15:=pL (by lia) (by lia) (by lia) (by decide)
   obtain⟨M',eM,M6,Ms⟩:∃M':Nat,(if sp*((counts z).length:Int)<xs.getD (Int.toNat 2) 0 % 7 then sp*((counts z).length:Int) else xs.getD (Int.toNat 2) 0 % 7)=(M':Int)/\M'<=6/\(M':Int)<=sp*((counts z).length:Int) :=
    ⟨(if sp*((counts z).length:Int)<xs.getD (Int.toNat 2) 0 % 7 then sp*((counts z).length:Int) else xs.getD (Int.toNat 2) 0 % 7).toNat,by split <;> lia,by split <;> lia,by split <;> lia⟩
   have sd:=aj.put (o:=.dT []) nd;refine CY M' (λi σ H'=>∃x y bz,σ = [some (.ref t),some (.int c),some (.ref xa),some (.int sp),some (.ref d),x,y]/\aj H1 H'/\H' d=some (.dT (cS bz))/\bz.Nodup/\(∀q∈bz,0<=q.1/\q.1<(counts z).length/\0<=q.2/\q.2<(counts z).getD q.1.toNat 0)/\bz.length<=i) (λQ q=>?_) (by lia) ⟨none,none,[],rfl,sd,aD,BJ,(λ_ h=>nomatch h),bH _⟩ ?_ ?_
   ·have ia:=sd _ _ hx;walk_at "rdm";refine⟨_,az.of ia,_,g 2 (by decide) (by decide),_,rfl,_,sd.gH k1,_,rfl,ca,rfl,_,.inl (az.of (sd _ _ iX.c)),.inl ⟨by lia,by lia⟩,?_⟩
    rw[aR,eM];exact q
   ·rintro i σ H' N hN hi ⟨x,y,bz,rfl,hs,hd,nb,E7,bl⟩;have ia:=hs _ _ hx;have r0:=fD (xs.getD (3+(i:Int)).toNat 0) (show ((counts z).length:Int)≠0 by lia)
    have r1:=fB (xs.getD (3+(i:Int)).toNat 0) (show 0<((counts z).length:Int) by lia)
    walk_at "rdm";refine⟨_,az.of ia,_,g _ (by lia) (by lia),_,hs.gH k1,_,rfl,ca,rfl,_,.inl (az.of (hs _ _ iX.c)),?_⟩
    rw[aR]
    try walk_at "rdm"
    generalize xs.getD (3+(i:Int)).toNat 0 % ((counts z).length:Int)=r at r0 r1 ⊢;have hcr:=cm _ (gD r.toNat (by lia))
    have c0:=fD (xs.getD (9+(i:Int)).toNat 0) (show (counts z).getD r.toNat 0≠0 by lia)
    have c1:=fB (xs.getD (9+(i:Int)).toNat 0) (show 0<(counts z).getD r.toNat 0 by lia)
    refine⟨by lia,_,az.of ia,_,g _ (by lia) (by lia),_,hs.gH k1,_,rfl,ca,rfl,_,az.of (hs _ _ iX.c),_,gG r0 r1,_,rfl,_,rfl,by lia,λp np=>?_⟩
    generalize xs.getD (9+(i:Int)).toNat 0 % (counts z).getD r.toNat 0=c' at c0 c1 ⊢;have P1:=aj.put (o:=.tup [V.int r,V.int c']) np;refine⟨_,lQ.t (k:=kT (r,c')) (P1 _ _ hd) aD (by rw[oM,cS,aR];lia),hN _ _ ?_⟩
    by_cases hm:(r,c')∈bz
    ·rw[afi _ hm];exact⟨_,_,bz,rfl,aj.put2 (hs.trans P1) nd,aD,nb,E7,by lia⟩
    ·rw[UW _ hm];refine⟨_,_,bz++[(r,c')],rfl,aj.put2 (hs.trans P1) nd,aD,?_,?_,by simp;lia⟩
     ·rw[BI];exact⟨nb,by simp,λx hx y hy e=>hm (by rw[List.mem_singleton.mp hy] at e;rw[← e];exact hx)⟩
     ·intro x hx;rcases fM.mp hx with h | h
      ·exact E7 x h
      ·rw[gw.mp h];exact⟨r0,r1,c0,c1⟩
   ·rintro σ H' ⟨x,y,bz,rfl,hs,hd,nb,E7,bl⟩;walk_at "rdm";have k2:=hs.gH k1;have mD:=iX.same hs;refine⟨_,k2,_,rfl,za,rfl,_,.inl mD.zn.sq,λzc Bb=>?_⟩;have z2:=aj.put (o:=.lst (bB.map V.ref)) Bb;refine⟨_,z2.gH k2,_,rfl,_,z2.gH k2,_,rfl,_,z2.gH k2,_,rfl,sa,rfl,_,.inl (az.of (z2 _ _ mD.s)),λsc PZ=>?_⟩;clear z2;have z2:=aj.put (o:=.lst (bB.map V.ref)) Bb;have z3:=aj.put (o:=.lst (sw.map V.int)) PZ;have u6:=z2.trans z3;have P0:Zn (upd (upd H' zc (.lst (bB.map V.ref))) sc (.lst (sw.map V.int))) zc bB z:=⟨z3 _ _ aD,mD.zn.n,(mD.zn.same u6).t⟩;have jt:upd (upd H' zc (.lst (bB.map V.ref))) sc (.lst (sw.map V.int)) sc=some (.lst (sw.map V.int)):=aD;generalize upd (upd H' zc (.lst (bB.map V.ref))) sc (.lst (sw.map V.int))=H3 at *
    refine⟨_,u6 _ _ hd,λYW j8 YX ka p dx np j_ ndp=>?_⟩;have xj:=ka.zn YX;have P4:=aj.put (o:=.lst (j8.map V.ref)) YX;generalize upd H3 YW (.lst (j8.map V.ref))=H4 at xj P4 np j_ ⊢;have u7:=aj.put (o:=.own p) j_;have gS:upd H4 dx (.own p) p=none:=by rw[aI (f_ ndp)];exact np
    have iO:=u7.trans (aj.put (o:=.ins A.br dx []) gS);have sH:=P4.trans iO;have P5:=(s1.trans hs).trans (u6.trans P4);have ben:bz.length<=sp.toNat*(counts z).length:=by
     have:((sp.toNat*(counts z).length:Nat):Int)=sp*((counts z).length:Int):=by rw[Int.natCast_mul,Ga p0]
     lia
    try walk_at "rdm"
    refine⟨p,dx,zc,sc,YW,bB,j8,z,bz,au,sk,sp,sw,rfl,T.ajT,T.OB,aD,P0.same sH,zl.ok,ok.l1,ok.l2,ok.k0,ok.k1,ok.l3,az.of (sH _ _ jt),ok.so,xj.same iO,by lia,nb,E7,by lia,p0,p1,
     (T0.same P5).same iO,λos r is=>afh p0 ben os r is,λH6 fp mv ts us os ms keep YG nf alv hM hmv=>⟨rfl,?_⟩⟩
    exact q A.br p _ _ H6 (λb o e nP=>keep b o (iO _ _ (P5 _ _ e)) (bX (P5 _ _ e) np) nP) (by simp) hM.adg (Vd (by lia) (by lia) (λc hc=>⟨p1 c hc,(cm c hc).2⟩) p0 alv)
theorem YY(T:Tx K mg A)(aG:bE mg base A.bu A.aZ):a_ P w K mg base bx 7 A.L5 A.L6 ["plate", "dues", "begun", "stop"] (agD K [A.bG,A.br] A.bU A.cj):=by
 have OY:=XS (P:=P) (w:=w) (base:=base) T aG;have alw:=alq (P:=P) (w:=w) (base:=base) T aG;refine T.EB.ok V4 (λvs H Q E h=>?_) (λaP Ar outer s H vs Q E hr h=>?_)
 ·obtain⟨C,p,l,b,st,P,fp,ps,ds,bg,s0,rfl,_⟩:=h
  rfl
 ·obtain⟨C,p,l,b,st,P,fp,ps,ds,bg,s0,rfl,hC,hP,ok,r0,r1,hd,qK,dc,hb,fH,q⟩:=h;refine⟨_,(aE (aU (i:=4) V4.nd rfl (Or.inl rfl) (aY OY (hr.mono (by first | decide | lia)) rfl T.WC T.NT.kp T.WB .nil aQ (ah (aa 1) (ah (aa 2) ao))))
   (aJ (bF (cL (ah (aY alw (hr.mono (by first | decide | lia)) rfl T.ah3 T.WG.kp T.ah2 .nil aQ (ah (aa 0) (ah (aH bJ (aa 3) ak (λ_ _=>rfl)) (ah (aH bJ (aa 3) ak (λ_ _=>rfl)) (ah (aa 4) ao))))) (ah (bY fL rfl T.eK eT (ah (aa 4) ao)) (ah (aa 2) (ah (aa 3) ao)))))))),?_⟩
  walk_at "rdt";refine⟨l,b,ps,ds,bg,H,rfl,aj.refl H,hd,qK,hb,λL pl H1 s1 nL hL hl=>?_⟩;have hl1:=(hl.same s1).DQ hL;walk_at "rdt";have YZ:=s1 _ _ fH;refine⟨_,aL.of YZ,_,rfl,_,aL.of YZ,_,rfl,C,p,L,P,fp,s0.1,s0.2,pl,bV ds bg,rfl,hC,hP.same s1,ok,r0,r1,hl1,cX (lA _ _) qK,λd fP=>dc d (wY.mp fP).1,λH2 s2=>⟨_,.inl (az.of (s2 _ _ hL)),λa na=>?_⟩⟩;have s3:=(s1.trans s2).trans (aj.put (o:=.tup [V.int (qz P s0.1 s0.2 ((bV ds bg).map (·.c))),V.int ((pl.map V.ref).length:Int),V.ref b,V.ref st]) na);refine q a _ s3 ((s1.trans s2).free na) ⟨b,st,?_,s3 _ _ hb,s3 _ _ fH⟩;rw[aD,aR,hl.n];rfl
theorem alx(T:Tx K mg A)(aG:bE mg base A.bu A.aZ):a_ P w K mg base bx 7 A.NB A.NC ["_law_script", "_law_most"] (afP K [A.bG,A.br] A.bU A.cj A.aZ (qw g_) (qx "nearest_rings")):=by
 have P6:=YB (P:=P) (w:=w) (base:=base) T aG;have pK:=X0 (P:=P) (w:=w) (base:=base) T aG;have aly:=aku (P:=P) (w:=w) (base:=base) T aG;have alz:=als (P:=P) (w:=w) (base:=base) T aG;have alA:=alc (P:=P) (w:=w) (base:=base) T aG;have alB:=alo (P:=P) (w:=w) (base:=base) T aG;refine T.Xh.ok uO (λvs H Q E h=>?_) (λaP Ar outer s H vs Q E hr h=>?_)
 ·obtain⟨sc,ns,most,rfl,_⟩:=h
  rfl
 ·obtain⟨sc,ns,most,rfl,jt,n_,m1,m7,T0,q⟩:=h;refine⟨_,(aE (aU (i:=2) uO.nd rfl (Or.inl rfl) (aY aly (hr.mono (by first | decide | lia)) rfl T.ai0 T.W5.kp T.aiZ .nil aQ (ah (aY pK (hr.mono (by first | decide | lia)) rfl T.qJ T.pD.kp T.qI .nil aQ (ah (aa 0) (ah ak ao))) (ah (aY pK (hr.mono (by first | decide | lia)) rfl T.qJ T.pD.kp T.qI .nil aQ (ah (aa 0) (ah ak ao))) ao))))
   (aE (aU (i:=3) uO.nd rfl (Or.inr rfl) (aY alz (hr.mono (by first | decide | lia)) rfl T.ai2 T.W6.kp T.ai1 .nil aQ (ah (aa 2) (ah (aY pK (hr.mono (by first | decide | lia)) rfl T.qJ T.pD.kp T.qI .nil aQ (ah (aa 0) (ah ak ao))) ao))))
   (aE (aU (i:=4) uO.nd rfl (Or.inl rfl) (aF cR (aY pK (hr.mono (by first | decide | lia)) rfl T.qJ T.pD.kp T.qI .nil aQ (ah (aa 0) (ah ak ao))) (bY CI rfl T.eK eT (ah (aH bJ (aa 2) ak (λ_ _=>rfl)) ao))))
   (aE (aU (i:=5) uO.nd rfl (Or.inl rfl) (aF cR (aY pK (hr.mono (by first | decide | lia)) rfl T.qJ T.pD.kp T.qI .nil aQ (ah (aa 0) (ah ak ao))) (aH qg (dG (ah (aF rm ak ak) (ah (aF rm ak ak) ao))) (aF cR (aF vI (aY pK (hr.mono (by first | decide | lia)) rfl T.qJ T.pD.kp T.qI .nil aQ (ah (aa 0) (ah ak ao))) ak) ak) (λ_ _=>rfl))))
   (aE (aU (i:=6) uO.nd rfl (Or.inl rfl) (aY alA (hr.mono (by first | decide | lia)) rfl T.ai_ T.W_.kp T.ai9 .nil aQ (ah (aa 0) (ah (aa 3) (ah (aa 2) (ah (cL (ah (aa 4) (ah (aa 5) ao))) (ah (aa 1) ao)))))))
   (aE (wU (i:=7) uO.nd rfl (Or.inl rfl) (N:=["_law_one", "_law_plate_here", "_law_script"]) (nt:=1) (fv:=[3,0]) (cN.of rfl rfl (by rfl) (by rfl) (by repeat (first | exact trivial | refine⟨rfl,?_⟩)) (by rfl) (by rfl) (by rfl) (by decide) (by decide +kernel)) rfl (dX (aa 6)) (λC s H fp=>(bI (i:=0) (show List.Nodup (["_law_one", "_law_plate_here", "_law_script"]:List Str) by decide +kernel) rfl (Or.inl rfl))) (λC s H fp=>jd) (λC s H fp=>(vN T.XD P6 (hr.mono (by first | decide | lia)) rfl T.XE T.Wq .nil aQ (ah (aa 1) (ah (aH (l8 (K:=K) rfl) (aa 0) ak (λ_ _=>rfl)) (ah (aY alB (hr.mono (by first | decide | lia)) rfl T.ajb T.Xa.kp T.aja .nil aQ (ah (aa 0) (ah (aF d_ (aY pK (hr.mono (by first | decide | lia)) rfl T.qJ T.pD.kp T.qI .nil aQ (ah (aa 2) (ah ak ao))) (aH (l8 (K:=K) rfl) (aa 0) ak (λ_ _=>rfl))) ao))) ao))))))
   (aJ (bF (cL (ah (aa 2) (ah (aa 3) (ah (aa 4) (ah (aa 5) (ah (aa 6) (ah (aa 7) ao))))))))))))))),?_⟩
  wp_walk using iT;refine⟨ns,jt,n_,ns,jt,n_,_,_,rfl,λt z au sk sw za bB ca sa H1 s1 nt hS ok=>?_⟩;have A7:=s1.seq jt;have T1:=T0.same s1
  try wp_walk using iT
  refine⟨ns,A7,n_,t,z,au,sk,sw,za,bB,ca,sa,_,rfl,hS,ok,T1,λC p nc fp H2 keep hC hP nk=>?_⟩;have mD:=hS.but T1 keep;have xB:=A7.but T1 keep;clear keep T1 A7 hS s1 nt T0;have cl:=rF z λp hp=>(ok.zl.ok.r p hp).1;have nB:=ok.zl.sm;have c2:=ok.zl.ok.s2;have k1:=aL.of (K:=K) mD.o
  try wp_walk using iT
  refine⟨ns,xB,n_,_,k1,_,rfl,ca,rfl,_,.inl (az.of mD.c),by rw[aR];lia,ns,xB,n_,by decide,by decide,λo1 sF=>?_⟩
  rw[aR];have s3:=aj.put (o:=.lst [V.int 10000,V.int 1000000000000]) sF;have Ba:upd H2 o1 (.lst [V.int 10000,V.int 1000000000000]) o1=some (.lst [V.int 10000,V.int 1000000000000]):=aD;generalize upd H2 o1 (.lst [V.int 10000,V.int 1000000000000])=H3 at s3 Ba ⊢;have r0:=fD (fK ns 3) (show ((counts z).length:Int)≠0 by lia)
  have r1:=fB (fK ns 3) (show 0<((counts z).length:Int) by lia)
  obtain⟨D,hD,D0,D1⟩:∃D:Int,e7 [V.int 10000,V.int 1000000000000] (fK ns 3 / 16 % 2)=some (.int D)/\1<=D/\D<=1000000000000:=by
   have h0:=fD (fK ns 3 / 16) (show (2:Int)≠0 by decide)
   have h1:=fB (fK ns 3 / 16) (show (0:Int)<2 by decide)
   have:fK ns 3 / 16 % 2=0\/fK ns 3 / 16 % 2=1:=by lia
   rcases this with e | e <;> rw[e]
   ·exact⟨_,rfl,by decide,by decide⟩
   ·exact⟨_,rfl,by decide,by decide⟩
  refine⟨ns,s3.seq xB,n_,_,az.of Ba,_,hD,_,rfl,by lia,λsp nsp=>?_⟩
  have b0:=fD (fK ns 4) (show D≠0 by lia)
  have b1:=fB (fK ns 4) (show 0<D by lia)
  generalize fK ns 3 % ((counts z).length:Int)=r at r0 r1 ⊢;generalize fK ns 4 % D=b at b0 b1 ⊢;have s4:=s3.trans (aj.put (o:=.tup [V.int r,V.int b]) nsp);have dQ:upd H3 sp (.tup [V.int r,V.int b]) sp=some (.tup [V.int r,V.int b]):=aD;generalize upd H3 sp (.tup [V.int r,V.int b])=H4 at s4 dQ ⊢;refine⟨C,sc,p,t,sp,z,au,sk,sw,za,bB,ca,sa,nc,fp,r,b,most,ns,rfl,s4.seq xB,n_,hC,hP.same s4,nk,mD.same s4,ok,dQ,r0,r1,b0,by lia,m1,m7,λkl cM ks H5 s5 nkl hk P7=>?_⟩
  have P8:=s4.trans s5;have hP5:=hP.same P8;have alC:=P8.seq xB;have gv:=hk.n;have n10:=P7.n7;have nn1:=nk.n1;refine je kl (cM.map V.ref) (λD2 i ys aC H6=>∃(v:Option V) (ps:List Addr) (ds:List Dr),ys=ps.map V.ref/\aC = [v,some (.ref p),some (.ref sc)]/\aj H5 H6/\H5 D2=none/\o9 K A.bU A.cj H6 D2 ps ds/\ds.length=i/\i<=ks.length/\∀(j:Nat) (k:Kn) (d:Dr),j<i->ks[j]? = some k->ds[j]? = some d->DO nc k d) (λQ q=>q) hk.sq ?_ ?_ ?_ ?_
  ·intro D2 kE;exact⟨none,[],[],rfl,rfl,aj.put kE,kE,⟨aD,rfl,λi t k e=>by simp at e⟩,rfl,eF _,λj k d h=>absurd h (by lia)⟩
  ·rintro D2 i ys aC H6 ⟨v,ps,ds,rfl,rfl,s6,nD,hd,dn,di,dk⟩;exact⟨hd.hl,gh (by rw[aR,hd.n];lia),(hk.same s6).sq⟩
  ·rintro D2 i x ys aC H6 N hN hx ⟨v,ps,ds,rfl,rfl,s6,nD,hd,dn,di,dk⟩;obtain⟨u,hu,rfl⟩:=e8 hx;have hi:i<ks.length:=by rw[← gv];exact dB hu
   obtain⟨b',uA,bC,hK⟩:=(hk.same s6).t i u ks[i] hu (aX hi);have Bc:=P7.ok ks[i] (cO hi);have ku:=aL.of (K:=K) hK.o;wp_walk using iT;refine⟨_,ku,_,rfl,ns,s6.seq alC,n_,_,ku,_,rfl,?_⟩
   try wp_walk using iT
   refine⟨u,ks[i],b',uA,bC,_,nc,rfl,hK,Bc,by lia,λaq ap mk bb P9 H7 sI s7 EW ha=>?_⟩
   try wp_walk using iT
   intro x dx nx j_ fX;have s67:=s6.trans s7;have xm:=hP5.same s67;have u7:=aj.put (o:=.own x) j_;have gS:upd H7 dx (.own x) x=none:=by rw[aI (f_ fX)];exact nx
   have iO:=u7.trans (aj.put (o:=.ins A.cj dx []) gS);obtain⟨op,P_⟩:=xm.here;have xp:x≠p:=(bX P_ nx).symm;have xf:x∉fp:=λhb=>by
    obtain⟨ob,zT⟩:=xm.has hb;exact bX zT nx rfl
   have o1:=Bc.m0;have o2:=Bc.m1;refine⟨C,x,p,ap,dx,ks[i].n,bO z au sk sw nc,fp,aq,mk,bb,P9,rfl,aD,hC,xm.same iO,xp,xf,ha.same iO,⟨by rw[sI.1];exact Bc.f0,by rw[sI.2.1];lia,by rw[sI.2.1];lia,by rw[sI.1,sI.2.1];exact Bc.fit⟩,by show nc.length<=1000000;lia,λl ts H8 nl sb qP=>⟨rfl,?_⟩⟩
   have u9:aj H6 H8:=λb o e=>sb _ _ (iO _ _ (s7 _ _ e)) (bX (s7 _ _ e) nx);have lD:l≠D2:=(bX (iO _ _ (s7 _ _ hd.hl)) nl).symm;refine⟨u9 _ _ hd.hl,hN _ _ _ ⟨_,ps++[x],ds++[_],by rw[bZ];rfl,rfl,aj.put2 (s6.trans u9) nD,nD,(hd.same u9).snoc qP lD,by simp[dn],by lia,λj k d hj e1 e2=>?_⟩⟩
   by_cases ki:j<i
   ·rw[d7 (by lia)] at e2
    exact dk j k d ki e1 e2
   ·have:j=i:=by lia
    subst this;rw[aX hi] at e1;rw[d8 (by lia),dn,BP] at e2
    cases e1;cases e2;exact⟨rfl,sI,by show gj nc aq.first aq.many=_;rw[sI.1,sI.2.1]⟩
  ·rintro D2 ys aC H6 ⟨v,ps,ds,rfl,rfl,s6,nD,hd,dn,di,dk⟩;rw[aR,gv] at dn;intro tt ntt;have s7:=aj.put (o:=.tup [V.ref t,V.ref p,V.int r,V.int b,V.ref kl,V.ref D2]) ntt;have sy:=(P8.trans s6).trans s7;refine q tt t p r b kl D2 z au sk sw nc ks ds _ aD (sy.seq xB) ⟨⟨za,bB,ca,sa,mD.same sy⟩,ok,⟨C,fp,hC,hP.same sy⟩,nk,r0,r1,b0,by lia,⟨cM,(hk.same s6).same s7⟩,P7,⟨ps,hd.DQ.same s7⟩,dn,λj k d e1 e2=>dk j k d ?_ e1 e2⟩
   rw[aR,gv];exact dB e1
theorem alD(T:Tx K mg A)(aG:bE mg base A.bu A.aZ):a_ P w K mg base bx 8 A.L7 A.L8 ["heap", "plate", "dues", "kept", "node"] (agE K [A.bG,A.br] A.bU A.cj):=by
 have alE:=ajY (P:=P) (w:=w) (base:=base) T aG;have PY:=YU (P:=P) (w:=w) (base:=base) T aG;have alF:=akl (P:=P) (w:=w) (base:=base) T aG;have E8:=YY (P:=P) (w:=w) (base:=base) T aG;refine T.NW.ok Au (λvs H Q E h=>?_) (λaP Ar outer s H vs Q E hr h=>?_)
 ·obtain⟨C,hp,p,l,kd,a,P,fp,ps,ds,aA,bg,s0,zs,H0,rfl,_⟩:=h
  rfl
 ·obtain⟨C,hp,p,l,kd,a,P,fp,ps,ds,aA,bg,s0,zs,H0,rfl,s1,fh,hC,hP,ok,r0,r1,hd,n7,dc,hk,⟨pb,pq,ha,hb,hq⟩,hz,hf,hzn,hbn,q⟩:=h;refine⟨_,(aE (aU (i:=5) Au.nd rfl (Or.inl rfl) (aH bJ (aa 4) ak (λ_ _=>rfl)))
   (aE (aU (i:=6) Au.nd rfl (Or.inl rfl) (aH bJ (aa 4) ak (λ_ _=>rfl)))
   (aJ (dP dj rfl (dX (aY alF (hr.mono (by first | decide | lia)) rfl T.ahZ T.WD.kp T.ahY .nil aQ (ah (aa 2) (ah (aa 3) (ah (aa 5) ao))))) (bI (i:=7) Au.nd rfl (Or.inl rfl))
   (aE (aU (i:=8) Au.nd rfl (Or.inl rfl) (aY PY (hr.mono (by first | decide | lia)) rfl T.Wu T.NQ.kp T.Wt .nil aQ (ah (aa 1) (ah (aH bJ (aa 6) ak (λ_ _=>rfl)) (ah (aH bJ (aa 6) ak (λ_ _=>rfl)) (ah (cC (aa 7) rfl) ao))))))
   (aJ (dm (aY alE (hr.mono (by first | decide | lia)) rfl T.ahI T.Wh.kp T.ahH .nil aQ (ah (aa 0) (ah (aY E8 (hr.mono (by first | decide | lia)) rfl T.NV T.EB.kp T.NU .nil aQ (ah (aa 1) (ah (aa 2) (ah (aF af8 (aa 5) (cL (ah (cC (aa 7) rfl) ao))) (ah (aa 8) ao))))) ao)))))))))),?_⟩
  walk_at "rdt";refine⟨_,aL.of ha,_,rfl,_,aL.of ha,_,rfl,?_⟩;refine zJ ?_;walk_at "rdt";refine⟨l,kd,pb,ps,ds,aA,bg,H0,rfl,s1,hd,by lia,hk,hb,λD pd H1 s2 nD hD qB=>⟨D,rfl,?_⟩⟩
  have Qa:=s1.trans s2;have nDh:D≠hp:=λz=>by rw[z,hz.l] at nD;cases nD
  have jQ:=qB.n;have kX:H1 pb=some (.tup (bg.map V.int)):=s2 _ _ hb;have hq2:H1 pq=some (.tup [.int s0.1,.int s0.2]):=s2 _ _ hq;have xj:bg.length<=100:=hbn;have nx7:(iL ds bg).length<=7:=cX (lA _ _) (cX (lA _ _) n7);refine rH.by D (pd.map V.ref) (λi σ H'=>∃(x y:Option V) (cU:Ms),σ = [some (V.ref hp),some (V.ref p),some (V.ref l),some (V.ref kd),some (V.ref a),some (V.ref pb),some (V.ref pq),x,y]/\aj H0 H'/\H' D=some (.lst (pd.map V.ref))/\H' pb=some (.tup (bg.map V.int))/\H' pq=some (.tup [.int s0.1,.int s0.2])/\fT H' hp cU/\jf gq cU.length (fm cU)/\(cU.map (·.2)).Perm (((iL ds bg).take i).map (λd=>dJ P ds (bg++[d.n]) (bf P s0 d.c))++zs.map (·.2))) (az.of hD) ⟨none,none,zs,rfl,Qa,hD,kX,hq2,hz.same s2,hf,by simp⟩ (by rintro i σ H' _ ⟨x,y,cU,rfl,_,h,_⟩;exact az.of h) ?_ ?_
  ·rintro i x σ H' N hN hx ⟨x0,y0,cU,rfl,g1,g2,g3,g4,g5,g6,g7⟩;obtain⟨dp,kC,rfl⟩:=e8 hx;have hi:i<(iL ds bg).length:=by rw[← jQ];exact dB kC
   obtain⟨dx,ap,la,ts,m,b',b_,Y0⟩:=qB.t i dp (iL ds bg)[i] kC (aX hi);have tk:=take_succ_get (aX hi);have hm:=(rS.mp (cO hi)).1.1;have zl:cU.length<=zs.length+7:=by
    have:=g7.length_eq;simp only[List.length_map,List.length_append,List.length_take] at this;lia
   generalize (iL ds bg)[i] = d at *
   obtain⟨c1,c2⟩:=dc d hm;have eB:=g1 _ _ Y0.o;unfold o8 at eB;wp_walk using T,eB;refine⟨_,aL.of g4,_,rfl,_,aL.of g4,_,rfl,C,p,P,fp,s0.1,s0.2,la,ts,d.c,rfl,hC,hP.same g1,ok,r0,r1,(Y0.same g1).c,c1,c2,λt H3 s3 nt ht=>?_⟩;have alG:=s3 _ _ eB;wp_walk using T,alG;intro p1 gS;have s4:=s3.trans (aj.put (o:=.tup [V.int d.n]) gS);refine⟨_,aL.of (s4 _ _ g3),by simp,?_,λpn H5 s5 hpn=>?_⟩
   ·have nb:bg.length<=100:=xj;rw[aR];lia
   have Y3:=s4.trans s5;have Bd:=g1.trans Y3;have alH:H5 t=some (.tup [.int (bf P s0 d.c).1,.int (bf P s0 d.c).2]):=s5 _ _ (aj.put gS _ _ ht);have en:=kU P (n:=P.rc.length) d.c s0 r0 r1 (λq hq=>⟨(c1 q hq).1,(c1 q hq).2.1⟩);refine⟨C,p,l,pn,t,P,fp,ps,ds,bg++[d.n],bf P s0 d.c,rfl,hC,hP.same Bd,ok,en.1,en.2,hd.same Bd,by lia,dc,by rw[hpn];simp,alH,λa2 H6 s6 Yj Y4=>?_⟩
   have sH:=Y3.trans s6;have xC:=g5.same sH;refine⟨hp,a2,dJ P ds (bg++[d.n]) (bf P s0 d.c),cU,rfl,xC,by lia,Y4,g6,λE9 pz hf2=>?_⟩
   have gz:=E9;refine hN _ _ ⟨_,_,E9,rfl,aj.put2 (g1.trans sH) fh,?_,?_,?_,⟨aD,af_ pz (VI (x:=(a2,_)) (Y4.fJ xC.l) (xC.z.fJ xC.l)),by rw[pz.length_eq];simp only[List.length_cons];lia⟩,hf2,?_⟩
   ·rw[aI nDh];exact sH _ _ g2
   ·have:=sH _ _ g3;rw[aI (λz=>by rw[z,xC.l] at this;cases this)];exact this
   ·have:=sH _ _ g4;rw[aI (λz=>by rw[z,xC.l] at this;cases this)];exact this
   ·rw[tk,bZ,sM];refine(pz.map λz:Addr×Nd=>z.2).trans ?_;rw[dM];exact(g7.cons _).trans (List.perm_middle.symm)
  ·rintro σ H' ⟨x0,y0,cU,rfl,g1,g2,g3,g4,g5,g6,g7⟩;rw[aR,jQ,eE] at g7;exact q cU H' g1 g5 g6 g7
theorem Y5(T:Tx K mg A)(aG:bE mg base A.bu A.aZ):a_ P w K mg base (jJ P w base) 9 A.L_ A.Ma ["plate", "ring", "beat", "dues"] (agT K [A.bG,A.br] A.bU A.cj A.b8):=by
 have Y6:=akC (P:=P) (w:=w) (base:=base) T aG;have Y7:=akh (P:=P) (w:=w) (base:=base) T aG;have Y8:=akK (P:=P) (w:=w) (base:=base) T aG;have E8:=YY (P:=P) (w:=w) (base:=base) T aG;have Y9:=alD (P:=P) (w:=w) (base:=base) T aG;refine T.AL.T8 nU (λvs H Q E h=>?_) (λaP Ar outer s H vs Q E hr h=>?_)
 ·rcases h with⟨C,p,l,P,fp,r,b,ps,ds,rfl,_⟩ | ⟨p,l,r,b,ps,ds,rfl,_⟩ <;> rfl
 ·rcases h with⟨C,p,l,P,fp,r,b,ps,ds,rfl,hC,hP,ok,r0,r1,hd,n7,nd,dc,q⟩ | ⟨p,l,r,b,ps,ds,rfl,hd,n7,q⟩
  case inr =>
   refine⟨_,(aE (dm (aY Y7 (hr.mono (by first | decide | lia)) rfl T.Wx T.NR.kp T.Ww .nil T6 (ah (aa 3) ao)))
   (aE (aU (i:=4) nU.nd rfl (Or.inl rfl) (aY Y8 (hr.mono (by first | decide | lia)) rfl T.WA T.NS.kp T.Wz .nil aQ (ah (aa 3) ao)))
   (aE (aU (i:=5) nU.nd rfl (Or.inl rfl) (dG ao))
   (aE (aU (i:=6) nU.nd rfl (Or.inl rfl) (aY E8 (hr.mono (by first | decide | lia)) rfl T.NV T.EB.kp T.NU .nil aQ (ah (aa 0) (ah (aa 3) (ah (cL ao) (ah (cL (ah (aa 1) (ah (aa 2) ao))) ao))))))
   (aE (Cn PassesOwn.leaving (dz jX (aH bJ (aa 6) ak (λ_ _=>rfl)) ak (bM _))
   (aE (dm (aY Y9 (hr.mono (by first | decide | lia)) rfl T.WI T.NW.kp T.WH .nil aQ (ah (aa 5) (ah (aa 0) (ah (aa 3) (ah (aa 4) (ah (aa 6) ao)))))))
   (aJ (aU (i:=6) nU.nd rfl (Or.inl rfl) (aY Y6 (hr.mono (by first | decide | lia)) rfl T.Wj T.NO.kp T.Wi .nil aQ (ah (aa 5) ao))))))
   (aE (wU (i:=7) nU.nd rfl (Or.inl rfl) (N:=["other"]) (nt:=1) (fv:=[]) (cN.of rfl rfl (by rfl) (by rfl) (by repeat (first | exact trivial | refine⟨rfl,?_⟩)) (by rfl) (by rfl) (by rfl) (by decide) (by decide +kernel)) rfl (dX (aF vY (dG (ah (aa 6) ao)) (aa 5))) (λC s H fp=>(bI (i:=0) (show List.Nodup (["other"]:List Str) by decide +kernel) rfl (Or.inl rfl))) (λC s H fp=>jd) (λC s H fp=>(cL (ah (aH (l8 (K:=K) rfl) (aa 0) ak (λ_ _=>rfl)) (ah (aH (l8 (K:=K) rfl) (aa 0) ak (λ_ _=>rfl)) ao)))))
   (aJ (bF (cL (ah (aH bJ (aa 6) ak (λ_ _=>rfl)) (ah (aH bJ (aa 6) ak (λ_ _=>rfl)) (ah (aa 7) ao)))))))))))),?_⟩
   walk_at "rdt";exact⟨l,ps,ds,rfl,hd,λz=>absurd z n7,λ_=>q⟩
  have oV:∀d∈ds,∀q∈d.c,0<=q.1/\q.1<(P.rc.length:Int):=λd hd q hq=>⟨((dc d hd).1 q hq).1,((dc d hd).1 q hq).2.1⟩;refine⟨_,(aE (dm (aY Y7 (hr.mono (by first | decide | lia)) rfl T.Wx T.NR.kp T.Ww .nil T6 (ah (aa 3) ao)))
   (aE (aU (i:=4) nU.nd rfl (Or.inl rfl) (aY Y8 (hr.mono (by first | decide | lia)) rfl T.WA T.NS.kp T.Wz .nil aQ (ah (aa 3) ao)))
   (aE (aU (i:=5) nU.nd rfl (Or.inl rfl) (dG ao))
   (aE (aU (i:=6) nU.nd rfl (Or.inl rfl) (aY E8 (hr.mono (by first | decide | lia)) rfl T.NV T.EB.kp T.NU .nil aQ (ah (aa 0) (ah (aa 3) (ah (cL ao) (ah (cL (ah (aa 1) (ah (aa 2) ao))) ao))))))
   (aE (Cn PassesOwn.leaving (dz jX (aH bJ (aa 6) ak (λ_ _=>rfl)) ak (bM _))
   (aE (dm (aY Y9 (hr.mono (by first | decide | lia)) rfl T.WI T.NW.kp T.WH .nil aQ (ah (aa 5) (ah (aa 0) (ah (aa 3) (ah (aa 4) (ah (aa 6) ao)))))))
   (aJ (aU (i:=6) nU.nd rfl (Or.inl rfl) (aY Y6 (hr.mono (by first | decide | lia)) rfl T.Wj T.NO.kp T.Wi .nil aQ (ah (aa 5) ao))))))
   (aE (wU (i:=7) nU.nd rfl (Or.inl rfl) (N:=["other"]) (nt:=1) (fv:=[]) (cN.of rfl rfl (by rfl) (by rfl) (by repeat (first | exact trivial | refine⟨rfl,?_⟩)) (by rfl) (by rfl) (by rfl) (by decide) (by decide +kernel)) rfl (dX (aF vY (dG (ah (aa 6) ao)) (aa 5))) (λC s H fp=>(bI (i:=0) (show List.Nodup (["other"]:List Str) by decide +kernel) rfl (Or.inl rfl))) (λC s H fp=>jd) (λC s H fp=>(cL (ah (aH (l8 (K:=K) rfl) (aa 0) ak (λ_ _=>rfl)) (ah (aH (l8 (K:=K) rfl) (aa 0) ak (λ_ _=>rfl)) ao)))))
   (aJ (bF (cL (ah (aH bJ (aa 6) ak (λ_ _=>rfl)) (ah (aH bJ (aa 6) ak (λ_ _=>rfl)) (ah (aa 7) ao)))))))))))),?_⟩
  walk_at "rdt";refine⟨l,ps,ds,rfl,hd,λ_=>?_,λz=>absurd n7 z⟩;walk_at "rdt";refine⟨l,ps,ds,rfl,hd,by lia,nd,λkd aA H0 s0 A0 hk=>?_⟩
  walk_at "rdt";intro hp Qc pe npe xD alI;have sA:=aj.put (o:=.lst []) Qc;have sB:=aj.put (o:=.tup []) npe;have sC:=aj.put (o:=.tup [V.int r,V.int b]) alI;have Y_:=(sA.trans sB).trans sC;have eh:upd (upd (upd H0 hp (.lst [])) pe (.tup [])) xD (.tup [V.int r,V.int b]) hp=some (.lst []):=sC _ _ (sB _ _ aD);have ee:upd (upd (upd H0 hp (.lst [])) pe (.tup [])) xD (.tup [V.int r,V.int b]) pe=some (.tup []):=sC _ _ aD;have es:upd (upd (upd H0 hp (.lst [])) pe (.tup [])) xD (.tup [V.int r,V.int b]) xD=some (.tup [V.int r,V.int b]):=aD;generalize upd (upd (upd H0 hp (.lst [])) pe (.tup [])) xD (.tup [V.int r,V.int b])=H1 at *
  have s1:=s0.trans Y_;refine⟨C,p,l,pe,xD,P,fp,ps,ds,[],(r,b),rfl,hC,hP.same s1,ok,r0,r1,hd.same s1,by lia,dc,ee,es,λa H2 s2 na hn=>?_⟩
  have Qa:=Y_.trans s2;have hp0:=hP.same s0;have hd0:=hd.same s0;have r_:fT H2 hp []:=⟨s2 _ _ eh,λ_ h=>(nomatch h),eF _⟩;have hw:iM ds.length<=13700:=cX (agu n7) (by decide)
  refine⟨λm σ H'=>∃(a:Addr) (t:Nd) (zs:Ms),m=gr (t::zs.map (·.2))/\σ = [some (V.ref p),some (V.int r),some (V.int b),some (V.ref l),some (V.ref kd),some (V.ref hp),some (V.ref a),none]/\aj H0 H'/\fT H' hp zs/\jf gq zs.length (fm zs)/\gM H' a t/\nR P ds (r,b) t (zs.map (·.2))/\m<=iM ds.length,⟨_,a,dJ P ds [] (r,b),[],rfl,rfl,Qa,r_,λi _ h=>absurd h (by simp),hn,nR.start P ds (r,b),?_⟩,?_⟩
  ·exact BO (by simp[gr,dJ,D6])
  ·rintro m σ H3 ⟨a3,t,zs,rfl,rfl,g1,g2,g3,g4,g5,g6⟩;obtain⟨bg,st,Be,rfl⟩:=g5.nd _ (cA ..);have g4':=g4;obtain⟨pb,pq,h1,h2,h3⟩:=g4';walk_at "rdt";have tl:=Jf (dJ P ds bg st::zs.map (·.2));rw[eY,aR] at tl;refine⟨_,aL.of h1,_,rfl,_,rfl,cG (λh0=>?_) λh0=>?_⟩
   ·have hl:bV ds bg≠[]:=λz=>by
     have h0:(0:Int)<((bV ds bg).length:Int):=h0;rw[z] at h0;simp at h0
    have Al:=Be.Al oV r0 r1;have bl:=Be.len nd;refine⟨_,λ_ _ h=>h,C,hp,p,l,kd,a3,P,fp,ps,ds,aA,bg,st,zs,H0,rfl,g1,Qc,hC,hp0,ok,Al.1,Al.2,hd0,n7,dc,hk,g4,g2,g3,by lia,by lia,λE9 H4 s4 xE hf4 pm=>?_⟩
    refine⟨hp,E9,rfl,xE,hf4,λe=>?_,λz cU pz lo hf5=>?_⟩
    ·rw[e] at pm;have:=List.length_pos_iff.mpr (ago hl);have:=pm.length_eq;unfold wZ at this;simp at this;lia
    ·obtain⟨I2,lt2⟩:=g5.step nd Be hl pm (pz.map λz:Addr×Nd=>z.2) (λy hy=>by
      obtain⟨w,hw,rfl⟩:=fG.mp hy;exact lo w hw)
     have hzs:iK H4 cU:=λw hw=>xE.z w (pz.mem_iff.mpr (bW _ hw));have ln:=xE.n;have ln2:=pz.length_eq;rw[eY] at ln2;exact⟨_,lt2,z.1,z.2,cU,rfl,rfl,aj.put2 s4 Qc,⟨aD,hzs.fJ xE.l,by lia⟩,hf5,(xE.z z (pz.mem_iff.mpr (cA ..))).fJ xE.l,I2,by lia⟩
   ·refine agF ?_;walk_at "rdt";intro o1 sF;have n1:hp≠o1:=bX g2.l sF;have t1:=aj.put (o:=.lst [V.ref a3]) sF;refine⟨mV zs,by rw[aI n1];exact g2.l,by rw[jo];lia,λo2 PD=>?_⟩
    have t2:=aj.put (o:=.lst (V.ref a3::mV zs)) PD;have Qd:=t1.trans t2;have gP:upd (upd H3 o1 (.lst [V.ref a3])) o2 (.lst (V.ref a3::mV zs)) o2=some (.lst (mV ((a3,dJ P ds bg st)::zs))):=aD;have Za:=g4.same Qd;have g25:iK (upd (upd H3 o1 (.lst [V.ref a3])) o2 (.lst (V.ref a3::mV zs))) ((a3,dJ P ds bg st)::zs):=VI (x:=(a3,dJ P ds bg st)) Za (g2.z.same Qd);have Bd:=g1.trans Qd;have zl:((a3,dJ P ds bg st)::zs).length<=13701:=by rw[eY];lia
    have h0:(dJ P ds bg st).2.1<=0:=by lia
    generalize upd (upd H3 o1 (.lst [V.ref a3])) o2 (.lst (V.ref a3::mV zs))=H5 at *
    refine je o2 (mV ((a3,dJ P ds bg st)::zs)) (λD i ys aC H6=>∃(u:Option V) (eX:List Addr),ys=eX.map V.ref/\aC = [u]/\H6 D=some (.lst ys)/\aj H5 H6/\H5 D=none/\pB H6 eX ((((a3,dJ P ds bg st)::zs).map (·.2)).take i)) (λQ q=>q) (az.of gP) ?_ ?_ ?_ ?_
    ·intro D hD;exact⟨none,[],rfl,rfl,aD,aj.put hD,hD,⟨rfl,λi a u e=>nomatch e⟩⟩
    ·rintro D i ys aC H6 ⟨u,eX,rfl,rfl,f1,f2,f3,f4⟩;refine⟨f1,VF ?_,az.of (f2 _ _ gP)⟩;have:=f4.n;rw[d9,aR] at this;rw[aR];lia
    ·rintro D i x ys aC H6 N hN hx ⟨u,eX,rfl,rfl,f1,f2,f3,f4⟩;have hi:i<((a3,dJ P ds bg st)::zs).length:=by have:=dB hx;rwa [jo] at this
     rw[VE hi] at hx;cases hx;obtain⟨E_,pq2,k1,k2,k3⟩:=(g25 _ (cO hi)).same f2;walk_at "rdt";refine⟨_,aL.of k1,_,rfl,_,aL.of k1,_,rfl,λc nc=>?_⟩;have s7:=aj.put (o:=.tup [V.ref E_,V.int (((a3,dJ P ds bg st)::zs)[i]).2.1]) nc;refine⟨s7 _ _ f1,hN _ _ _ ⟨_,eX++[c],by simp,rfl,aD,aj.put2 (f2.trans s7) f3,f3,?_⟩⟩
     rw[take_succ_get (show (((a3,dJ P ds bg st)::zs).map (·.2))[i]? = some (((a3,dJ P ds bg st)::zs)[i]).2 by rw[ju,aX hi];rfl)]
     exact((f4.same s7).snoc aD (s7 _ _ k2)).fJ (s7 _ _ f1)
    ·rintro D ys aC H6 ⟨u,eX,rfl,rfl,f1,f2,f3,f4⟩;rw[jo,ou (by rw[aR];exact bH _)] at f4
     obtain⟨E_,pq2,k1,k2,k3⟩:=Za.same f2;refine⟨_,aL.of k1,_,rfl,_,aL.of k1,_,rfl,λc nc=>?_⟩;have s7:=aj.put (o:=.tup [V.ref E_,V.int (dJ P ds bg st).1,V.ref D]) nc;have Zb:=f4.same s7;exact q c E_ D eX (dJ P ds bg st) (zs.map λz:Addr×Nd=>z.2) _ ((s0.trans Bd).trans (f2.trans s7)) ((s0.trans Bd).free f3) aD (s7 _ _ k2) ⟨s7 _ _ f1,Zb.n,Zb.t⟩ g5 h0 g6
theorem alJ(T:Tx K mg A)(aG:bE mg base A.bu A.aZ):a_ P w K mg base bx 10 A.ND A.NF ["_law_plate_here", "_law_ring", "_law_beat", "_law_dues"] (agU K [A.bG,A.br] A.bU A.cj):=by
 have Bf:=Y5 (P:=P) (w:=w) (base:=base) T aG;refine T.Xi.ok K7 (λvs H Q E h=>?_) (λaP Ar outer s H vs Q E hr h=>?_)
 ·obtain⟨p,l,r,b,ps,ds,rfl,_⟩:=h
  rfl
 ·obtain⟨p,l,r,b,ps,ds,rfl,hd,n7,q⟩:=h;refine⟨_,(aE (aeb rfl rfl (λE=>(ad4 (ad2 Bf (hr.mono (by first | decide | lia)) rfl T.ED T.AL.kp T.EC .nil (ah (aa 0) (ah (aa 1) (ah (aa 2) (ah (aa 3) ao)))))))
   (ad9 (i:=4) rfl T.ajL T.ajM K7.nd rfl rfl rfl (λa=>(aE (aU (i:=5) K7.nd rfl (Or.inl rfl) (dG (ah (bY zW rfl T.mz ow (ah (aa 4) (ah (gU (v:=.ref A.mw) rfl T.ajP rfl) ao))) (ah (bY zW rfl T.mz ow (ah (aa 4) (ah (gU (v:=.ref A.qH) rfl T.ajO rfl) ao))) (ah (bY zW rfl T.mz ow (ah (aa 4) (ah (gU (v:=.ref A.mq) rfl T.ajN rfl) ao))) ao)))))
   (aJ (bF (dG (ah (bY zW rfl T.mz ow (ah (aa 4) (ah (gU (v:=.ref A.b8) rfl T.XI rfl) ao))) (ah (bY zW rfl T.mz ow (ah (aa 4) (ah (vB (v:=.ty "ValueError") rfl T.OG PyProof.Rows.Boot.«ValueError» rfl) ao))) (ah (iD CH gb (aa 5) rfl) ao)))))))) ad8))
   (aJ (bF (dG ao)))),?_⟩
  walk_at "rdt";refine .inr ⟨p,l,r,b,ps,ds,rfl,hd,n7,A.b8,rfl,T.ajQ,λa ha=>.inl ⟨T.ajR,?_⟩⟩;walk_at "rdt";refine⟨A.b8,_,.inl rfl,rfl,T.AR,T.AS,_,T.ON,A.b8,_,.inl rfl,rfl,T.AR,T.AS,_,T.OM,A.b8,_,.inl rfl,rfl,T.AR,T.AS,_,T.OL,λo no=>?_⟩;have ho:=aj.put (o:=.lst [V.bl false,V.bl false,V.bl false]) no;have ea:=ho _ _ (aD (H:=H) (a:=a) (o:=wF a A.b8 none));refine⟨A.b8,_,.inl rfl,ea,T.AR,T.AS,_,T.OO,?_⟩;refine⟨A.b8,_,.inr rfl,ea,T.AR,T.AS,_,T.OP,_,.inl (az.of aD),rfl,rfl,λD nD=>?_⟩;exact q D _ aD
theorem alK(T:Tx K mg A)(aG:bE mg base A.bu A.aZ):a_ P w K mg base bx 11 A.NI A.NJ ["_law_script"] (DH K [(A.bu,A.aZ)]):=by
 have PX:=Yz (P:=P) (w:=w) (base:=base) T aG;have P6:=YB (P:=P) (w:=w) (base:=base) T aG;have Bf:=Y5 (P:=P) (w:=w) (base:=base) T aG;have AZ:=OW (P:=P) (w:=w) (base:=base) T aG;have alL:=alx (P:=P) (w:=w) (base:=base) T aG;have alM:=alJ (P:=P) (w:=w) (base:=base) T aG;have Zc:=alj (P:=P) (w:=w) (base:=base) T aG;refine T.ajs.ok mj (λvs H Q E h=>?_) (λaP Ar outer s H vs Q E hr h=>?_)
 ·obtain⟨a,ns,rfl,_⟩:=h
  rfl
 ·obtain⟨a,ns,rfl,hS,hl,tabs,q⟩:=h;have tab:=tabs (A.bu,A.aZ) (by simp)
  have pJ:=hr.Se;have mC:_+16<cLine:=pT (qR (by decide:16<=64) _) hr.units
  refine⟨_,(aE (cI (tD (aY alL (hr.mono (by first | decide | lia)) rfl T.ajp T.Xh.kp T.ajo .nil aQ (ah (aa 0) (ah ak ao))) (kM rfl (dO (bI (i:=1) mj.nd rfl (Or.inl rfl)) (dO (bI (i:=2) mj.nd rfl (Or.inr rfl)) (dO (bI (i:=3) mj.nd rfl (Or.inl rfl)) (dO (bI (i:=4) mj.nd rfl (Or.inl rfl)) (dO (bI (i:=5) mj.nd rfl (Or.inl rfl)) (dO (bI (i:=6) mj.nd rfl (Or.inl rfl)) jV)))))))))
   (aE (cI (aU (i:=7) mj.nd rfl (Or.inl rfl) (jZ vW rfl T.pH qU (ah (aa 6) ao))))
   (aE (cI (aU (i:=8) mj.nd rfl (Or.inl rfl) (aY Bf (hr.mono (by first | decide | lia)) rfl T.ED T.AL.kp T.EC .nil Ig (ah (aa 2) (ah (aa 3) (ah (aa 4) (ah (aa 7) ao)))))))
   (aE (cI (dw (jU (iA (aY Zc (hr.mono (by first | decide | lia)) rfl T.Xk T.Og.kp T.Xj .nil aQ (ah (aa 8) (ah (aa 1) (ah (aa 3) (ah (aa 4) (ah (aa 5) ao)))))))) (aJ (bF gb)) b7))
   (aE (cI (dm (SE jS PySem.F.slot_list_clear PySem.F.type_list_clear ab4 (aH bJ (aa 8) ak (λ_ _=>rfl)))))
   (aE (cI (aU (i:=9) mj.nd rfl (Or.inl rfl) (aY Bf (hr.mono (by first | decide | lia)) rfl T.ED T.AL.kp T.EC .nil Ig (ah (aa 2) (ah (aa 3) (ah (aa 4) (ah (aa 7) ao)))))))
   (aE (cI (dw (PW.pt (iB (jU (iA (aY Zc (hr.mono (by first | decide | lia)) rfl T.Xk T.Og.kp T.Xj .nil aQ (ah (aa 9) (ah (aa 1) (ah (aa 3) (ah (aa 4) (ah (aa 5) ao)))))))) (iQ (dz yI (aH bJ (aa 9) ak (λ_ _=>rfl)) (aH bJ (aa 8) ak (λ_ _=>rfl)) (bM _))))) (aJ (bF gb)) b7))
   (aE (cI (dw (dz (S3 pJ) (gR (N:=["_law_one"]) (nt:=1) (fv:=[]) (cN.of rfl rfl (by rfl) (by rfl) (by repeat (first | exact trivial | refine⟨rfl,?_⟩)) (by rfl) (by rfl) (by rfl) (by decide) (by decide +kernel)) rfl (dX (aa 7)) (λC s H fp=>(bI (i:=0) (show List.Nodup (["_law_one"]:List Str) by decide +kernel) rfl (Or.inl rfl))) (λC s H fp=>jd) (λC s H fp=>(D_ (K:=K) rfl (aa 0) rfl))) (gR (N:=["_law_one"]) (nt:=1) (fv:=[]) (cN.of rfl rfl (by rfl) (by rfl) (by repeat (first | exact trivial | refine⟨rfl,?_⟩)) (by rfl) (by rfl) (by rfl) (by decide) (by decide +kernel)) rfl (dX (aa 5)) (λC s H fp=>(bI (i:=0) (show List.Nodup (["_law_one"]:List Str) by decide +kernel) rfl (Or.inl rfl))) (λC s H fp=>jd) (λC s H fp=>(aH (l8 (K:=K) rfl) (aa 0) ak (λ_ _=>rfl)))) (bM _)) (aJ (bF gb)) b7))
   (aE (cI (aU (i:=10) mj.nd rfl (Or.inl rfl) (aY Bf (hr.mono (by first | decide | lia)) rfl T.ED T.AL.kp T.EC .nil Ig (ah (aa 2) (ah (aa 3) (ah (aa 4) (ah (dG ao) ao)))))))
   (aE (cI (dw (PW.pt (iB (dz (agQ mC) (aa 10) (cL (ah (cL ao) (ah (aa 4) (ah (dG (ah (cL (ah (cL ao) (ah (aa 4) ao))) ao)) ao)))) (bM _)) (iQ (jU (iA (aY AZ (hr.mono (by first | decide | lia)) rfl T.Of T.EH.kp T.Oe .nil aQ (ah (aH bJ (aa 10) ak (λ_ _=>rfl)) ao))))))) (aJ (bF gb)) b7))
   (aE (cI (wU (i:=11) mj.nd rfl (Or.inl rfl) (N:=["_law_k", "_law_plate_here"]) (nt:=1) (fv:=[2]) (cN.of rfl rfl (by rfl) (by rfl) (by repeat (first | exact trivial | refine⟨rfl,?_⟩)) (by rfl) (by rfl) (by rfl) (by decide) (by decide +kernel)) rfl (kN rfl T.fZ (ah ak ao)) (λC s H fp=>(bI (i:=0) (show List.Nodup (["_law_k", "_law_plate_here"]:List Str) by decide +kernel) rfl (Or.inl rfl))) (λC s H fp=>jd) (λC s H fp=>(vN T.XD P6 (hr.mono (by first | decide | lia)) rfl T.XE T.Wq .nil aQ (ah (aa 1) (ah (aF dR ak (aa 0)) (ah (aY PX (hr.mono (by first | decide | lia)) rfl T.We T.NN.kp T.ahB (show Vals [.int 0,.aO,.aO] [.int 0 A.V8,.none,.none] from(.cons ⟨_,rfl⟩ (.cons rfl (.cons rfl .nil)))) aQ (ah (aF fY (aa 0) ak) (ah ak (ah ak ao)))) ao)))))))
   (aJ (bF (iD (afW pJ) (aY alM (hr.mono (by first | decide | lia)) rfl T.ajr T.Xi.kp T.ajq .nil aQ (ah (aa 2) (ah (aa 3) (ah (aa 4) (ah (aa 11) ao))))) (dG (ah gb (ah gb (ah gb ao)))) (bM _))))))))))))))),?_⟩
  refine cJ λN1 k1=>?_;walk_at "rdt";refine⟨a,ns,5,rfl,hS,hl,by decide,by decide,⟨#[],tab,trivial,.inl rfl⟩,λt sa p r b kl dl z au sk sw nc ks ds H1 ht jt st=>?_⟩
  try walk_at "rdt"
  refine⟨_,aL.of ht,rfl,_,_,rfl,_,_,rfl,_,_,rfl,_,_,rfl,_,_,rfl,_,_,rfl,rfl,k1 _ _ ?_⟩;obtain⟨⟨za,bB,ca,DP,dQ⟩,wo,⟨C,fp,hC,hP⟩,nk,r0,r1,b0,b1,⟨cM,hk⟩,xF,⟨ps,hd⟩,dn,dk⟩:=id st;have n7:=xF.n7;have kd:Kd ks ds:=⟨dn,λi k d e1 e2=>⟨(dk i k d e1 e2).1,by rw[(dk i k d e1 e2).2.2,(xF.ok k (get_mem e1)).c]⟩,λi j k k' d d' e1 e2 e3 e4=>af2 (dk i k d e1 e2) (dk j k' d' e3 e4),xF.up⟩
  have kc:∀k∈ks,iG (bO z au sk sw []) k.c/\k.c.length<=16:=λk hk=>(xF.ok k hk).cells nk wo;have pk:=wo.pl nc;have dc:∀d∈ds,iG (bO z au sk sw nc) d.c/\d.c.length<=1000:=λd fP=>by
   obtain⟨i,k,e1,e2⟩:=kd.at fP;have:=kc k (get_mem e1);rw[(kd.e i k d e1 e2).2];exact⟨this.1,by lia⟩
  have oV:∀d∈ds,∀q∈d.c,0<=q.1/\q.1<((bO z au sk sw nc).rc.length:Int):=λd hd q hq=>⟨((dc d hd).1 q hq).1,((dc d hd).1 q hq).2.1⟩;have rt:∀ {t2:Nd} {hp:List Nd},nR (bO z au sk sw nc) ds (r,b) t2 hp->t2.2.1<=0->D8 ks t2.2.2.1/\(rX (bO z au sk sw []) (r,b) ks t2.2.2.1).2=t2.1:=λI h0=>by
   have W:=I.done pk oV r0 r1 kd.nd h0;obtain⟨cg,uI,e2⟩:=W.r;exact⟨kd.ord uI W.f,by rw[kd.agK _ (uI.agR λs c=>Vl z au sk sw nc c s)];exact e2⟩
  refine cJ λN2 k2=>?_;walk_at "rdt";refine⟨_,.inl (az.of hd.l),λl nl=>k2 _ _ ?_⟩;have sl:=aj.put (o:=.lst (ps.map V.ref)) nl;have qB:g8 K A.bU A.cj (upd H1 l (.lst (ps.map V.ref))) l ps ds:=⟨aD,hd.n,(hd.same sl).t⟩;generalize upd H1 l (.lst (ps.map V.ref))=H2 at *
  refine cJ λN3 k3=>?_;walk_at "rdt";refine .inl ⟨C,p,l,bO z au sk sw nc,fp,r,b,ps,ds,rfl,hC,hP.same sl,pk,r0,r1,qB,by rw[kd.n];exact n7,kd.nd,dc,λu pb lv eX t2 hp H4 s4 nlv hu hpb E6 I h0 _=>k3 _ _ ?_⟩
  obtain⟨od,es⟩:=rt I h0;have Zd:=sl.trans s4;refine cJ λN4 k4=>?_;walk_at "rdt";refine⟨u,sa,kl,pb,lv,t2.1,z,au,sk,sw,za,bB,ca,DP,r,b,cM,ks,_,_,rfl,hu,hpb,E6.l,dQ.same Zd,wo,r0,r1,hk.same Zd,kc,by lia,xF.up,od,es,λH5 s5=>⟨_,rfl,ite_no (by simp) (k4 _ _ ?_)⟩⟩
  have Fb:=s5 _ _ hu;have Qe:=s5 _ _ E6.l;refine cJ λN5 k5=>?_;walk_at "rdt";refine⟨_,aL.of Fb,_,rfl,⟨_,az.of Qe⟩,lv,rfl,_,Qe,k5 _ _ ?_⟩;have uZ:aj H2 (upd H5 lv (.lst [])):=aj.put2 (s4.trans s5) nlv;have PM:upd H5 lv (.lst []) u=some (.tup [.ref pb,.int t2.1,.ref lv]):=by
   rw[aI (λe=>by rw[e,Qe] at Fb;cases Fb)];exact Fb
  generalize upd H5 lv (.lst [])=H6 at *
  refine cJ λN6 k6=>?_;walk_at "rdt";refine .inl ⟨C,p,l,bO z au sk sw nc,fp,r,b,ps,ds,rfl,hC,(hP.same sl).same uZ,pk,r0,r1,qB.same uZ,by rw[kd.n];exact n7,kd.nd,dc,λu' pb' lv' aqv t3 pA H7 s7 aqw qO alN alO I' HP _=>k6 _ _ ?_⟩
  obtain⟨od',kL⟩:=rt I' HP;have Fc:=sl.trans (uZ.trans s7);refine cJ λN7 k7=>?_;walk_at "rdt";refine⟨u',sa,kl,pb',lv',t3.1,z,au,sk,sw,za,bB,ca,DP,r,b,cM,ks,_,_,rfl,qO,alN,alO.l,dQ.same Fc,wo,r0,r1,hk.same Fc,kc,by lia,xF.up,od',kL,λH8 s8=>⟨_,rfl,ite_no (by simp) ?_⟩⟩
  have ee:t3.1=t2.1:=by
   have W:=I.done pk oV r0 r1 kd.nd h0;have W':=I'.done pk oV r0 r1 kd.nd HP;obtain⟨cg,uI,e2⟩:=W.r;obtain⟨vG,Be,e3⟩:=W'.r;have:=W.m _ _ Be W'.f;have:=W'.m _ _ uI W.f;lia
  have hu8:=s8 _ _ qO;have alP:=(s7.trans s8) _ _ PM;refine⟨_,aL.of hu8,_,rfl,_,aL.of alP,_,rfl,?_⟩;refine⟨rfl,ite_no (by rw[ee];simp) (k7 _ _ ?_)⟩
  refine cJ λN8 k8=>?_;walk_at "rdt";have Qf:=uZ.trans (s7.trans s8);have qP:=qB.same Qf;have hk8:=hk.same (sl.trans Qf);refine je l (ps.map V.ref) (λD i ys aC H9=>∃v,ys=((ds.map (·.n)).take i).map V.int/\aC = [v]/\H9 D=some (.lst ys)/\aj H8 H9/\H8 D=none) (λQ q=>q) (az.of qP.l) ?_ ?_ ?_ ?_
  ·intro D hD;exact⟨none,rfl,rfl,aD,aj.put hD,hD⟩
  ·rintro D i ys aC H9 ⟨v,rfl,rfl,f1,f2,f3⟩;exact⟨f1,gh (by rw[aR,d9,aR,kd.n];lia),az.of (f2 _ _ qP.l)⟩
  ·rintro D i x ys aC H9 N hN hx ⟨v,rfl,rfl,f1,f2,f3⟩;obtain⟨u1,pJ,rfl⟩:=e8 hx;have hi:i<ds.length:=by rw[← qP.n];exact dB pJ
   obtain⟨dx,ap,l1,ts,m1,b1,b_,hD⟩:=(qP.same f2).t i u1 ds[i] pJ (aX hi);have eB:=hD.o;unfold o8 at eB;wp_walk using T,eB;have et:((ds.map (·.n)).take i).map V.int++[V.int ds[i].n] = ((ds.map (·.n)).take (i+1)).map V.int:=by
    rw[take_succ_get (show (ds.map (·.n))[i]? = some ds[i].n by rw[ju,aX hi];rfl),bZ];rfl
   exact⟨f1,hN _ _ _ ⟨_,et,rfl,aD,aj.put2 f2 f3,f3⟩⟩
  ·rintro D ys aC H9 ⟨v,rfl,rfl,f1,f2,f3⟩;rw[aR,qP.n,ou (by rw[aR];exact bH _),kd.ns] at f1
   have xy:=hk8.same f2;refine je kl (cM.map V.ref) (λD2 i ys aC u_=>∃v,ys=((ks.map (·.n)).take i).map V.int/\aC = [v]/\u_ D2=some (.lst ys)/\aj H9 u_/\H9 D2=none) (λQ q=>q) (az.of xy.l) ?_ ?_ ?_ ?_
   ·intro D2 kE;exact⟨none,rfl,rfl,aD,aj.put kE,kE⟩
   ·rintro D2 i ys aC u_ ⟨v,rfl,rfl,g1,g2,g3⟩;exact⟨g1,gh (by rw[aR,d9,aR];lia),az.of (g2 _ _ xy.l)⟩
   ·rintro D2 i x ys aC u_ N hN hx ⟨v,rfl,rfl,g1,g2,g3⟩;obtain⟨u1,pJ,rfl⟩:=e8 hx;have hi:i<ks.length:=by rw[← xy.n];exact dB pJ
    obtain⟨b1,cl1,aqx,hK⟩:=(xy.same g2).t i u1 ks[i] pJ (aX hi);walk_at "rdm";have et:((ks.map (·.n)).take i).map V.int++[V.int ks[i].n] = ((ks.map (·.n)).take (i+1)).map V.int:=by
     rw[take_succ_get (show (ks.map (·.n))[i]? = some ks[i].n by rw[ju,aX hi];rfl),bZ];rfl
    exact⟨_,aL.of hK.o,_,rfl,g1,hN _ _ _ ⟨_,et,rfl,aD,aj.put2 g2 g3,g3⟩⟩
   ·rintro D2 ys aC u_ ⟨v,rfl,rfl,g1,g2,g3⟩;rw[aR,xy.n,ou (by rw[aR];exact bH _)] at g1
    refine⟨D,rfl,D2,rfl,_,az.of (g2 _ _ f1),az.of g1,?_,k8 _ _ ?_⟩
    ·intro v hv;obtain⟨n,_,rfl⟩:=fG.mp hv;exact⟨λ_ h=>(nomatch h),λ_ h=>(nomatch h)⟩
    ·refine cJ λN9 k9=>?_;walk_at "rdt";intro e3 ne3;have sE:=aj.put (o:=.lst []) ne3;have s2b:=((Qf.trans f2).trans g2).trans sE;have ng:g8 K A.bU A.cj (upd u_ e3 (.lst [])) e3 [] []:=⟨aD,rfl,λi p d e=>nomatch e⟩;generalize upd u_ e3 (.lst [])=H11 at *
     have Ze:=(hP.same sl).same s2b;refine .inl ⟨C,p,e3,bO z au sk sw nc,fp,r,b,[],[],rfl,hC,Ze,pk,r0,r1,ng,by decide,.nil,λ_ h=>(nomatch h),λw wp wl wts t4 uH Zf s12 nwl hw hwp uc I4 _ tt4=>k9 _ _ ?_⟩
     have eh4:=agW tt4;subst eh4;obtain⟨bg4,st4,hr4,rfl⟩:=I4.nd _ (cA ..);have:bg4 = []/\st4=(r,b):=by
      cases hr4 with
      | nil=>exact⟨rfl,rfl⟩
      | snoc _ hd=>exact(nomatch hd)
     obtain⟨rfl,rfl⟩:=this;have e1:(dJ (bO z au sk sw nc) [] [] (r,b)).1=b:=by simp[dJ,qz,D6]
     rw[e1] at hw;refine cJ λN10 Ys=>?_;walk_at "rdt";intro p2 nY p3 uW p4 uX p5 np5 p6 np6;have c1:=aj.put (o:=.tup []) nY;have c2:=aj.put (o:=.tup []) uW;have c3:=aj.put (o:=.tup [V.ref p3,V.int b]) uX;have c4:=aj.put (o:=.lst [V.ref p4]) np5;have c5:=aj.put (o:=.tup [V.ref p2,V.int b,V.ref p5]) np6;obtain⟨k1,k2,k3,k4,k5⟩:_/\_/\_/\_/\_:=⟨((((c2.trans c3).trans c4).trans c5) _ _ aD),(((c3.trans c4).trans c5) _ _ aD),((c4.trans c5) _ _ aD),(c5 _ _ aD),aD (H:=upd (upd (upd (upd Zf p2 (.tup [])) p3 (.tup [])) p4 (.tup [V.ref p3,V.int b])) p5 (.lst [V.ref p4])) (a:=p6) (o:=.tup [V.ref p2,V.int b,V.ref p5])⟩;have nB:=(((c1.trans c2).trans c3).trans c4).trans c5;generalize upd (upd (upd (upd (upd Zf p2 (.tup [])) p3 (.tup [])) p4 (.tup [V.ref p3,V.int b])) p5 (.lst [V.ref p4])) p6 (.tup [V.ref p2,V.int b,V.ref p5])=Zg at *
     obtain⟨wa,rfl⟩:∃wa,wts = [wa]:=List.length_eq_one_iff.mp uc.n;obtain⟨wq,Zh,hwq⟩:=uc.t 0 wa _ rfl rfl;rw[e1] at Zh;refine⟨3,by decide,_,VY (nB _ _ hw) (nB _ _ hwp) (nB _ _ uc.l) (nB _ _ Zh) (nB _ _ hwq),VY k5 k1 k4 k3 k2,_,aL.of (nB _ _ hw),_,rfl,b,rfl,_,rfl,ite_no (by simp) (Ys _ _ ?_)⟩
     have alQ:=Ze.same (s12.trans nB);have n2:(2:Int)<=(nc.length:Int):=by have:=nk.n2;lia
     have n1:=nk.n1;refine cJ λN11 k11=>?_;walk_at "rdt";refine zN 8 (λD i ys aC xG=>∃(v:Option V) (ps:List Addr) (ds:List Dr),ys=ps.map V.ref/\aC = [v,some (.ref p)]/\aj Zg xG/\Zg D=none/\o9 K A.bU A.cj xG D ps ds/\ds.length=i/\i<=8) (λQ q=>q) (by decide) (by decide) ?_ ?_ ?_ ?_
     ·intro D hD;exact⟨none,[],[],rfl,rfl,aj.put hD,hD,⟨aD,rfl,λi t k e=>nomatch e⟩,rfl,eF _⟩
     ·rintro D i ys aC xG ⟨v,ps,ds,rfl,rfl,f2,nD,hd,dn,di⟩;exact⟨hd.hl,gh (by rw[aR,hd.n];lia)⟩
     ·rintro D i ys aC xG N hN hi ⟨v,ps,ds,rfl,rfl,f2,nD,hd,dn,di⟩;walk_at "rdm";have hi:i<8:=hi;refine⟨(i:Int) % 2,1,0,0,none,.aO,[],rfl,⟨by lia,by lia,by decide,by decide,by decide,by decide,by decide,by decide,λ_ h=>(nomatch h)⟩,.inl ⟨rfl,rfl⟩,nG.nil,λap mk bb P9 H15 Fd EW ha=>?_⟩
      try walk_at "rdm"
      intro x dx nx j_ fX;have Qg:=alQ.same (f2.trans Fd);have u7:=aj.put (o:=.own x) j_;have gS:upd H15 dx (.own x) x=none:=by rw[aI (f_ fX)];exact nx
      have iO:=u7.trans (aj.put (o:=.ins A.cj dx []) gS);obtain⟨op,P_⟩:=Qg.here;have xp:x≠p:=(bX P_ nx).symm;have xf:x∉fp:=λhb=>by
       obtain⟨ob,zT⟩:=Qg.has hb;exact bX zT nx rfl
      refine⟨C,x,p,ap,dx,_,bO z au sk sw nc,fp,_,mk,bb,P9,rfl,aD,hC,Qg.same iO,xp,xf,ha.same iO,⟨by show (0:Int)<=(i:Int) % 2;lia,by show (0:Int)<=1;decide,by show (1:Int)<=16;decide,by show (i:Int) % 2+1<=(nc.length:Int);lia⟩,by show nc.length<=1000000;lia,λl ts H16 nl sb qP=>⟨rfl,?_⟩⟩
      have u9:aj xG H16:=λb o e=>sb _ _ (iO _ _ (Fd _ _ e)) (bX (Fd _ _ e) nx);have lD:l≠D:=(bX (iO _ _ (Fd _ _ hd.hl)) nl).symm;exact⟨u9 _ _ hd.hl,hN _ _ _ ⟨_,ps++[x],ds++[_],by rw[bZ];rfl,rfl,aj.put2 (f2.trans u9) nD,nD,(hd.same u9).snoc qP lD,by simp[dn],by lia⟩⟩
     ·rintro D ys aC xG ⟨v,ps,ds,rfl,rfl,f2,nD,hd,dn,di⟩;have dn:ds.length=8:=dn;refine k11 _ _ ?_;walk_at "rdt";refine⟨p,D,r,b,ps,ds,rfl,hd.DQ,by lia,λD5 H17 h17 p9 np9=>?_⟩
      have Fc:=aj.put (o:=.lst [V.bl true,V.bl true,V.bl false]) np9;refine⟨D5,rfl,_,az.of (Fc _ _ h17),az.of aD,?_,q _⟩;intro v hv;refine⟨λ_ h=>?_,λ_ h=>?_⟩ <;> rw[h] at hv <;> simp at hv
end
theorem sJ{C:List Value->Prop}(h:C []):∀us:List Value,us.length=0->C us:=λ| [],_=>h
theorem cW{n:Nat}{C:List Value->Prop}(h:∀a us,us.length=n->C (a::us)):∀us:List Value,us.length=n+1->C us:=λ| a::us,e=>h a us (Nat.succ.inj e)
theorem Qh{K:W.Frag}{fd:FuncData}{ps:List Str}{ds:List Value}(n:Nat)(e:n+ds.length=ps.length)(h:∀s,K.In s.heap->∀us:List Value,us.length=n->BindsTo s fd ⟨us,[]⟩ (ps.zip (us++ds))):Binds K fd ps ds:=λs us X hl=>h s X us (by rw[fE] at hl;lia)
theorem us1{C:List Value->Prop}(h:∀a0,C [a0]):∀us:List Value,us.length=1->C us:=cW λa0=>sJ (h a0)
theorem us2{C:List Value->Prop}(h:∀a0 a1,C [a0,a1]):∀us:List Value,us.length=2->C us:=cW λa0=>cW λa1=>sJ (h a0 a1)
theorem sr{C:List Value->Prop}(h:∀a0 a1 a2,C [a0,a1,a2]):∀us:List Value,us.length=3->C us:=cW λa0=>cW λa1=>cW λa2=>sJ (h a0 a1 a2)
theorem us4{C:List Value->Prop}(h:∀a0 a1 a2 a3,C [a0,a1,a2,a3]):∀us:List Value,us.length=4->C us:=cW λa0=>cW λa1=>cW λa2=>cW λa3=>sJ (h a0 a1 a2 a3)
theorem us5{C:List Value->Prop}(h:∀a0 a1 a2 a3 a4,C [a0,a1,a2,a3,a4]):∀us:List Value,us.length=5->C us:=cW λa0=>cW λa1=>cW λa2=>cW λa3=>cW λa4=>sJ (h a0 a1 a2 a3 a4)
theorem Zi{C:List Value->Prop}(h:∀a0 a1 a2 a3 a4 a5,C [a0,a1,a2,a3,a4,a5]):∀us:List Value,us.length=6->C us:=cW λa0=>cW λa1=>cW λa2=>cW λa3=>cW λa4=>cW λa5=>sJ (h a0 a1 a2 a3 a4 a5)
theorem Zj{C:List Value->Prop}(h:∀a0 a1 a2 a3 a4 a5 a6,C [a0,a1,a2,a3,a4,a5,a6]):∀us:List Value,us.length=7->C us:=cW λa0=>cW λa1=>cW λa2=>cW λa3=>cW λa4=>cW λa5=>cW λa6=>sJ (h a0 a1 a2 a3 a4 a5 a6)
theorem alR{C:List Value->Prop}(h:∀a0 a1 a2 a3 a4 a5 a6 a7 a8 a9,C [a0,a1,a2,a3,a4,a5,a6,a7,a8,a9]):∀us:List Value,us.length=10->C us:=cW λa0=>cW λa1=>cW λa2=>cW λa3=>cW λa4=>cW λa5=>cW λa6=>cW λa7=>cW λa8=>cW λa9=>sJ (h a0 a1 a2 a3 a4 a5 a6 a7 a8 a9)
noncomputable abbrev Nq_(K:W.Frag)(n:Str)(a:Addr):Prop:=W.nsIn K mainGlobals n=some (some (.ref a))
noncomputable abbrev No_(K:W.Frag)(n:Str):Prop:=W.nsIn K mainGlobals n=some none
noncomputable abbrev Ni_(K:W.Frag)(n:Str)(i:Int)(t:Tok):Prop:=W.nsIn K mainGlobals n=some (some (.int i t))
local macro_rules | `(tactic| walk_at "u1") => `(tactic| exact λ_ _ _ _ _ _=>us1 (λ_=>rfl))
local macro_rules | `(tactic| walk_at "u2") => `(tactic| exact λ_ _ _ _ _ _=>us2 (λ_ _=>rfl))
local macro_rules | `(tactic| walk_at "u3") => `(tactic| exact λ_ _ _ _ _ _=>sr (λ_ _ _=>rfl))
local macro_rules | `(tactic| walk_at "u4") => `(tactic| exact λ_ _ _ _ _ _=>us4 (λ_ _ _ _=>rfl))
local macro_rules | `(tactic| walk_at "u5") => `(tactic| exact λ_ _ _ _ _ _=>us5 (λ_ _ _ _ _=>rfl))
local macro_rules | `(tactic| walk_at "u6") => `(tactic| exact λ_ _ _ _ _ _=>Zi (λ_ _ _ _ _ _=>rfl))
local macro_rules | `(tactic| walk_at "u7") => `(tactic| exact λ_ _ _ _ _ _=>Zj (λ_ _ _ _ _ _ _=>rfl))
local macro_rules | `(tactic| walk_at "u10") => `(tactic| exact λ_ _ _ _ _ _=>alR (λ_ _ _ _ _ _ _ _ _ _=>rfl))
theorem all_mk{l:W.OpenLaw}{w:World}{K:W.Frag}{h:Heap}{mg:Str->Option Value}{fa:Addr}{Fe Qi Qj Qk Ql Ff Bg Fg Fi Qm Qn Qo Qp Qq Qs Qt Fj Qu Qv Qw Qx Qy Qz QA QB QC QD QE QF QG QH QI QJ QK QL QM QN QO Bh Bj Bk Bl Bm Bo Bp Bq Br Bs QS QT QU Fo QV QW Fp QX QY QZ Q0 Q3 Q4 Q5 Q6 Q7 Q8 Q9 Q_ Ra Rb Rc Rf Rg Rh Ri Rj Rk Rl:Addr}{alS Fq alT alU Rm alV alW Zk alX Rn:Option Addr}{alY alZ al0 al1 al2 al3:Array (Option Value)}{al4 Ft Fv Fw Bt Fx al5 al6 Ro Rp Rq Fy Rr al7 al8 Zl Zm Zo Fz Zp al9 Rt Ru Rv FA Rw:Value}{al_ ama:Nat}{Rx Zq:Tok}{Zr Zu Zv Zw Zx Zy Zz ZA ZC ZD ZE ZF ZG ZI ZJ ZK ZM ZN ZO ZQ ZR ZS ZT ZU ZV ZW ZX ZY ZZ Z0 Z1 Z3 Z4 Z5 Z6 Z7 Z8 Z9 Z_ aaa aab aac aad aae aaf aag aah aai aaj aak aal aam aan aao aap aaq aar aas aat aau aav aaw aax aay aaz aaA aaB aaC aaD aaE aaF:FuncData}{bU:Addr}{cj:Addr}{bG:Addr}{br:Addr}{nW:Addr}{mq:Addr}{qH:Addr}{mw:Addr}{b8:Addr}{El:Tok}{Em:Tok}{En:Tok}{Eo:Tok}{Ep:Tok}{Er:Tok}{Es:Tok}{Et:Tok}{Eu:Tok}{Ew:Tok}{Ex:Tok}{Ey:Tok}{Ez:Tok}{EA:Tok}{bu aZ:Addr}{amb:Option Addr}{aaG:Array Value}{amc:Array (Option Value)}(X:K.In h)(G:h.Ns mainGlobals mg)(hfa:mg "law" = some (.ref fa))
  (amd:Nq_ K "ArmError" nW)
  (ame:Nq_ K "NoAsk" mq)
  (amf:Nq_ K "NoOrder" qH)
  (amg:Nq_ K "NoRule" mw)
  (amh:Nq_ K "TooMany" b8)
  (ami:Nq_ K "Ask" bU)
  (amj:Nq_ K "Due" cj)
  (amk:Nq_ K "Plate" bG)
  (aml:Nq_ K "Mended" br)
  (ax0:W.findIn K (.ref bU) "__init__" = some (some (.ref Fe)))
  (ix0:W.isFn K (.ref Fe)=true)
  (F0:c9 K "__init__" "Ask.__init__" Ju Fe Zr)
  (ax1:Nq_ K "check_between" Qi)
  (F1:aN K "check_between" Jv Qi Zu)
  (ax2:Nq_ K "check_behind" Qj)
  (F2:aN K "check_behind" Jw Qj Zv)
  (ax3:Nq_ K "check_fields" Qk)
  (F3:aN K "check_fields" Jx Qk Zw)
  (ax4:Nq_ K "told_behind" Ql)
  (F4:aN K "told_behind" Jy Ql Zx)
  (ax5:Nq_ K "reading" Ff)
  (lx5:K.lookup Ff=some ⟨al4,alS,.func (W.fnOf "reading" "reading" (gY jP) (fQ jP) (aV jP) (.ref Bg) Ft Fv Fw Fq Bt Fx),alY⟩)
  (dx5:K.lookup Bg=some ⟨al5,alT,.seq #[.int 0 Rx,.none,.none] al_,alZ⟩)
  (cx5:W.codeIn K Bt "reading" = true)
  (kx5:W.keepIn K (.ref Ff)=true)
  (ax6:Nq_ K "writing" Fg)
  (lx6:K.lookup Fg=some ⟨al6,alU,.func (W.fnOf "writing" "writing" (gY l9) (fQ l9) (aV l9) (.ref Fi) Ro Rp Rq Rm Fy Rr),al0⟩)
  (dx6:K.lookup Fi=some ⟨al7,alV,.seq #[.int 0 Zq,.none,.none,.bool false] ama,al1⟩)
  (cx6:W.codeIn K Fy "writing" = true)
  (kx6:W.keepIn K (.ref Fg)=true)
  (ax7:Nq_ K "clash" Qm)
  (F7:aN K "clash" Jz Qm Zy)
  (ax8:Nq_ K "heap_put" Qn)
  (F8:aN K "heap_put" JA Qn Zz)
  (ax9:Nq_ K "heap_take" Qo)
  (F9:aN K "heap_take" JB Qo ZA)
  (amm:Nq_ K "lesser_child" Qp)
  (F10:aN K "lesser_child" JC Qp ZC)
  (amn:Nq_ K "sink" Qq)
  (F11:aN K "sink" JD Qq ZD)
  (amo:Nq_ K "stretch" Qs)
  (F12:aN K "stretch" JE Qs ZE)
  (amq:Nq_ K "stretch_by_number" Qt)
  (F13:aN K "stretch_by_number" JF Qt ZF)
  (amr:W.findIn K (.ref cj) "__init__" = some (some (.ref Fj)))
  (ams:W.isFn K (.ref Fj)=true)
  (F14:c9 K "__init__" "Due.__init__" JG Fj ZG)
  (amt:Nq_ K "next_begin" Qu)
  (F15:aN K "next_begin" JH Qu ZI)
  (amu:Nq_ K "way" Qv)
  (F16:aN K "way" JI Qv ZJ)
  (amv:Nq_ K "way_end" Qw)
  (F17:aN K "way_end" JJ Qw ZK)
  (amw:Nq_ K "are_few" Qx)
  (F18:aN K "are_few" JK Qx ZM)
  (amx:Nq_ K "check_few" Qy)
  (F19:aN K "check_few" JL Qy ZN)
  (amy:Nq_ K "keeps_behind" Qz)
  (F20:aN K "keeps_behind" JM Qz ZO)
  (amz:Nq_ K "behind_among" QA)
  (F21:aN K "behind_among" JN QA ZQ)
  (amA:Nq_ K "left_behind" QB)
  (F22:aN K "left_behind" JO QB ZR)
  (amB:Nq_ K "next_behind" QC)
  (F23:aN K "next_behind" JP QC ZS)
  (amC:Nq_ K "passing_beats" QD)
  (F24:aN K "passing_beats" JQ QD ZT)
  (amD:Nq_ K "bound_of" QE)
  (F25:aN K "bound_of" JR QE ZU)
  (amE:Nq_ K "beginning" QF)
  (F26:aN K "beginning" JS QF ZV)
  (amF:Nq_ K "put_longer_ones" QG)
  (F27:aN K "put_longer_ones" JT QG ZW)
  (amG:Nq_ K "least_way" QH)
  (F28:aN K "least_way" JU QH ZX)
  (amH:Nq_ K "check_zones" QI)
  (F29:aN K "check_zones" JV QI ZY)
  (amI:Nq_ K "check_turning" QJ)
  (F30:aN K "check_turning" JW QJ ZZ)
  (amJ:Nq_ K "check_swing" QK)
  (F31:aN K "check_swing" JX QK Z0)
  (amK:Nq_ K "check_no_detour" QL)
  (F32:aN K "check_no_detour" JY QL Z1)
  (amL:Nq_ K "cells_by_ring" QM)
  (F33:aN K "cells_by_ring" JZ QM Z3)
  (amM:Nq_ K "cells_by_number" QN)
  (F34:aN K "cells_by_number" J0 QN Z4)
  (amN:Nq_ K "numbers_by_cell" QO)
  (F35:aN K "numbers_by_cell" J5 QO Z5)
  (amO:W.findIn K (.ref bG) "__init__" = some (some (.ref Bh)))
  (amP:W.isFn K (.ref Bh)=true)
  (Ry:c9 K "__init__" "Plate.__init__" J6 Bh Z6)
  (amQ:W.findIn K (.ref bG) "rings" = some (some (.ref Bj)))
  (aaH:W.isFn K (.ref Bj)=true)
  (amR:W.findIn K (.ref br) "rings" = some (some (.ref Bj)))
  (FD:c9 K "rings" "Plate.rings" J7 Bj Z7)
  (amS:W.findIn K (.ref bG) "total" = some (some (.ref Bk)))
  (aaI:W.isFn K (.ref Bk)=true)
  (amT:W.findIn K (.ref br) "total" = some (some (.ref Bk)))
  (FE:c9 K "total" "Plate.total" J8 Bk Z8)
  (amU:W.findIn K (.ref bG) "beats_of" = some (some (.ref Bl)))
  (aaJ:W.isFn K (.ref Bl)=true)
  (amV:W.findIn K (.ref br) "beats_of" = some (some (.ref Bl)))
  (FF:c9 K "beats_of" "Plate.beats_of" J9 Bl Z9)
  (amW:W.findIn K (.ref bG) "lap_beats" = some (some (.ref Bm)))
  (aaK:W.isFn K (.ref Bm)=true)
  (amX:W.findIn K (.ref br) "lap_beats" = some (some (.ref Bm)))
  (FG:c9 K "lap_beats" "Plate.lap_beats" J_ Bm Z_)
  (amY:W.findIn K (.ref bG) "begins" = some (some (.ref Bo)))
  (aaL:W.isFn K (.ref Bo)=true)
  (amZ:W.findIn K (.ref br) "begins" = some (some (.ref Bo)))
  (FH:c9 K "begins" "Plate.begins" Ka Bo aaa)
  (am0:W.findIn K (.ref bG) "swing_of" = some (some (.ref Bp)))
  (aaM:W.isFn K (.ref Bp)=true)
  (am1:W.findIn K (.ref br) "swing_of" = some (some (.ref Bp)))
  (FI:c9 K "swing_of" "Plate.swing_of" Kc Bp aab)
  (am2:W.findIn K (.ref bG) "has_cell" = some (some (.ref Bq)))
  (aaN:W.isFn K (.ref Bq)=true)
  (am3:W.findIn K (.ref br) "has_cell" = some (some (.ref Bq)))
  (FJ:c9 K "has_cell" "Plate.has_cell" Ke Bq aac)
  (am4:W.findIn K (.ref bG) "cell_at" = some (some (.ref Br)))
  (aaO:W.isFn K (.ref Br)=true)
  (am5:W.findIn K (.ref br) "cell_at" = some (some (.ref Br)))
  (FL:c9 K "cell_at" "Plate.cell_at" Kf Br aad)
  (am6:W.findIn K (.ref bG) "number_of" = some (some (.ref Bs)))
  (aaP:W.isFn K (.ref Bs)=true)
  (am7:W.findIn K (.ref br) "number_of" = some (some (.ref Bs)))
  (FN:c9 K "number_of" "Plate.number_of" Kg Bs aae)
  (am8:Nq_ K "check_spares" QS)
  (F46:aN K "check_spares" Kh QS aaf)
  (am9:Nq_ K "bad_by_cell" QT)
  (F47:aN K "bad_by_cell" Kl QT aag)
  (am_:Nq_ K "bad_numbers" QU)
  (F48:aN K "bad_numbers" Km QU aah)
  (ana:Nq_ K "nearest_rings" Fo)
  (anb:K.lookup Fo=some ⟨al8,alW,.func (W.fnOf "nearest_rings" "nearest_rings" (gY g_) (fQ g_) (aV g_) .none Zl Zm Zo Zk Fz Zp),al2⟩)
  (anc:W.codeIn K Fz "nearest_rings" = true)
  (ane:W.keepIn K (.ref Fo)=true)
  (anf:Nq_ K "free_kept_cell" QV)
  (F50:aN K "free_kept_cell" Ko QV aai)
  (ang:Nq_ K "lay_elsewhere" QW)
  (F51:aN K "lay_elsewhere" Kq QW aaj)
  (anh:W.findIn K (.ref br) "__init__" = some (some (.ref Fp)))
  (ani:W.isFn K (.ref Fp)=true)
  (F52:c9 K "__init__" "Mended.__init__" Kr Fp aak)
  (anj:Nq_ K "_law_cell_at" QX)
  (F53:aN K "_law_cell_at" Ks QX aal)
  (ank:Nq_ K "_law_stream" QY)
  (F54:aN K "_law_stream" Ku QY aam)
  (anl:Nq_ K "_law_swing" QZ)
  (F55:aN K "_law_swing" Kv QZ aan)
  (anm:Nq_ K "_law_spec" Q0)
  (F56:aN K "_law_spec" Kw Q0 aao)
  (ano:Nq_ K "_law_plate" Q3)
  (F57:aN K "_law_plate" Ky Q3 aap)
  (anp:Nq_ K "_law_walk" Q4)
  (F58:aN K "_law_walk" Kz Q4 aaq)
  (anq:Nq_ K "_law_behind_way" Q5)
  (F59:aN K "_law_behind_way" KA Q5 aar)
  (anr:Nq_ K "_law_beside" Q6)
  (F60:aN K "_law_beside" KC Q6 aas)
  (ans:Nq_ K "_law_tight" Q7)
  (F61:aN K "_law_tight" KG Q7 aat)
  (ant:Nq_ K "_law_known" Q8)
  (F62:aN K "_law_known" KH Q8 aau)
  (anu:Nq_ K "_law_ask" Q9)
  (F63:aN K "_law_ask" KI Q9 aav)
  (anv:Nq_ K "_law_keeps" Q_)
  (F64:aN K "_law_keeps" KJ Q_ aaw)
  (anw:Nq_ K "_law_free_ones" Ra)
  (F65:aN K "_law_free_ones" KL Ra aax)
  (anx:Nq_ K "_law_whole" Rb)
  (F66:aN K "_law_whole" KN Rb aay)
  (anz:Nq_ K "_law_without" Rc)
  (F67:aN K "_law_without" KO Rc aaz)
  (anA:Nq_ K "_law_spot" Rf)
  (F68:aN K "_law_spot" KP Rf aaA)
  (anB:Nq_ K "_law_numbers" Rg)
  (F69:aN K "_law_numbers" KQ Rg aaB)
  (anC:Nq_ K "_law_is_order" Rh)
  (F70:aN K "_law_is_order" KR Rh aaC)
  (anD:Nq_ K "_law_start" Ri)
  (F71:aN K "_law_start" KS Ri aaD)
  (anE:Nq_ K "_law_refused" Rj)
  (F72:aN K "_law_refused" KU Rj aaE)
  (anF:Nq_ K "_law_right" Rk)
  (F73:aN K "_law_right" KW Rk aaF)
  (aaQ:Nq_ K "law" Rl)
  (anG:K.lookup Rl=some ⟨al9,alX,.func (W.fnOf "law" "law" (gY l_) (fQ l_) (aV l_) .none Rt Ru Rv Rn FA Rw),al3⟩)
  (anH:W.codeIn K FA "law" = true)
  (anI:W.keepIn K (.ref Rl)=true)
  (anJ:W.plainGet K bU Str.empty=true)
  (anK:W.hasDictIn K bU=true)
  (anL:W.plainOver K bU=true)
  (anM:W.findIn K (.ref bU) "__setattr__" = some (some (.builtin "object.__setattr__")))
  (anN:W.makesIn K bU=true)
  (anO:W.keepIn K (.ref bU)=true)
  (Xs:W.findIn K (.ref bU) "kind" = some none)
  (Xu:W.findIn K (.ref bU) "first" = some none)
  (Xv:W.findIn K (.ref bU) "many" = some none)
  (Xw:W.findIn K (.ref bU) "marks" = some none)
  (Xx:W.findIn K (.ref bU) "at" = some none)
  (Xy:W.findIn K (.ref bU) "asker" = some none)
  (Xz:W.findIn K (.ref bU) "latest" = some none)
  (XA:W.findIn K (.ref bU) "behind" = some none)
  (XC:W.findIn K (.ref bU) "early" = some none)
  (anP:W.plainGet K cj Str.empty=true)
  (anQ:W.hasDictIn K cj=true)
  (anR:W.plainOver K cj=true)
  (anS:W.findIn K (.ref cj) "__setattr__" = some (some (.builtin "object.__setattr__")))
  (anT:W.makesIn K cj=true)
  (anU:W.keepIn K (.ref cj)=true)
  (EI:W.findIn K (.ref cj) "number" = some none)
  (XF:W.findIn K (.ref cj) "ask" = some none)
  (Oi:W.findIn K (.ref cj) "cells" = some none)
  (anV:W.plainGet K bG Str.empty=true)
  (anW:W.hasDictIn K bG=true)
  (anY:W.plainOver K bG=true)
  (anZ:W.findIn K (.ref bG) "__setattr__" = some (some (.builtin "object.__setattr__")))
  (an0:W.makesIn K bG=true)
  (an1:W.keepIn K (.ref bG)=true)
  (Oj:W.findIn K (.ref bG) "ring_cells" = some none)
  (Ol:W.findIn K (.ref bG) "lap" = some none)
  (Om:W.findIn K (.ref bG) "skew" = some none)
  (Oo:W.findIn K (.ref bG) "swing" = some none)
  (Oq:W.findIn K (.ref bG) "number_cells" = some none)
  (Ot:W.findIn K (.ref bG) "cell_numbers" = some none)
  (an2:W.plainGet K br Str.empty=true)
  (an3:W.hasDictIn K br=true)
  (an4:W.plainOver K br=true)
  (an5:W.findIn K (.ref br) "__setattr__" = some (some (.builtin "object.__setattr__")))
  (an6:W.makesIn K br=true)
  (an7:W.keepIn K (.ref br)=true)
  (Ou:W.findIn K (.ref br) "ring_cells" = some none)
  (Ov:W.findIn K (.ref br) "lap" = some none)
  (Ow:W.findIn K (.ref br) "skew" = some none)
  (Ox:W.findIn K (.ref br) "swing" = some none)
  (Oz:W.findIn K (.ref br) "number_cells" = some none)
  (OA:W.findIn K (.ref br) "cell_numbers" = some none)
  (OB:W.findIn K (.ref br) "moves" = some none)
  (an8:W.specialIn K (.ref bG) "__getattribute__" = some (some (.builtin "type.__getattribute__")))
  (an9:W.readsIn K bG (.type "type")=true)
  (an_:W.findCls K (.ref bG) (.type "type") "__init__" = some (.val (.ref Bh)))
  (Xl:W.findIn K (.ref br) "__class__" = some (some (.builtin "object.__class__")))
  (Xm:W.specialIn K (.builtin "object.__class__") "__get__" = some (some (.builtin "getset_descriptor.__get__")))
  (Xn:W.takesIn K (.builtin "object.__class__")=some true)
  (Xo:W.mroIn K br (.type "object")=some true)
  (Xp:W.kitOne K (.ref br) (.ref bG)=some true)
  (aoa:Ni_ K "MOST_CELLS" 16 El)
  (aob:Ni_ K "GREATEST_FIRST" 1000000 Em)
  (aoc:Ni_ K "GREATEST_MARK" 1000000000 En)
  (aod:Ni_ K "GREATEST_AT" 1000000000000 Eo)
  (aoe:Ni_ K "GREATEST_ASKER" 20 Ep)
  (aof:Ni_ K "GREATEST_LATEST" 10000000000000 Er)
  (aog:Ni_ K "GREATEST_BEHIND" 99 Es)
  (aoh:Ni_ K "MOST_DUES" 7 Et)
  (aoi:Ni_ K "MOST_ZONES" 5 Eu)
  (aoj:Ni_ K "MOST_RINGS_IN_ZONE" 40 Ew)
  (aok:Ni_ K "MOST_CELLS_IN_RING" 60 Ex)
  (aol:Ni_ K "LEAST_RINGS" 2 Ey)
  (aom:Ni_ K "MOST_RINGS" 120 Ez)
  (aon:Ni_ K "MOST_BEATS" 1000000000 EA)
  (AM:No_ K "abs")
  (OC:No_ K "all")
  (OD:No_ K "bool")
  (OE:No_ K "dict")
  (AN:No_ K "enumerate")
  (xh:No_ K "int")
  (mz:No_ K "isinstance")
  (eK:No_ K "len")
  (pH:No_ K "list")
  (OF:No_ K "max")
  (uR:No_ K "min")
  (fZ:No_ K "range")
  (AO:No_ K "sorted")
  (AQ:No_ K "sum")
  (uS:No_ K "tuple")
  (OH:W.excIn K nW [.type "ValueError",.type "Exception",.type "BaseException",.type "object"] "ValueError.__new__" = true)
  (OI:W.excIn K mq [.type "ValueError",.type "Exception",.type "BaseException",.type "object"] "ValueError.__new__" = true)
  (OJ:W.excIn K mw [.type "ValueError",.type "Exception",.type "BaseException",.type "object"] "ValueError.__new__" = true)
  (EJ:W.excIn K b8 [.type "ValueError",.type "Exception",.type "BaseException",.type "object"] "ValueError.__new__" = true)
  (aoo:W.findIn K (.ref b8) "__getattribute__" = some (some (.builtin "BaseException.__getattribute__")))
  (aop:W.findIn K (.ref b8) "__getattr__" = some none)
  (aoq:W.mroIn K b8 (.type "BaseException")=some true)
  (aaR:W.mroIn K b8 (.type "object")=some true)
  (aor:W.findIn K (.ref b8) "__class__" = some (some (.builtin "object.__class__")))
  (OP:W.kitOne K (.ref b8) (.type "ValueError")=some true)
  (XJ:W.kitOne K (.ref b8) (.ref nW)=some true)
  (aos:W.mroIn K b8 (.ref nW)=some true)
  (OL:W.kitOne K (.ref b8) (.ref mq)=some false)
  (aot:W.mroIn K b8 (.ref mq)=some false)
  (OM:W.kitOne K (.ref b8) (.ref qH)=some false)
  (aou:W.mroIn K b8 (.ref qH)=some false)
  (ON:W.kitOne K (.ref b8) (.ref mw)=some false)
  (aov:W.mroIn K b8 (.ref mw)=some false)
  (OO:W.kitOne K (.ref b8) (.ref b8)=some true)
  (aow:W.mroIn K b8 (.ref b8)=some true)
  (aox:W.specialIn K (.builtin "object.__class__") "__get__" = some (some (.builtin "getset_descriptor.__get__")))
  (aoy:W.takesIn K (.builtin "object.__class__")=some true)
  (OG:No_ K "ValueError")
  (aoz:Fz = .ref bu)
  (aqy:K.lookup bu=some ⟨.type "code",amb,.fields aaG,amc⟩)
  (aqz:aaG[11]? = some (.ref aZ))
  (aoA:W.codeHdIn K bu aZ=true)
  (aoB:h.get? aZ=some (W.tabObj #[]))
  : ∃(fd:FuncData) (tabs:List (Addr×Addr)),(∀(s:Shared) (v:Value),BindsTo s fd ⟨[v],[]⟩ [("_law_script",v)])/\W.TabsAt tabs h/\∀base:Heap,K.In base->base.Ns mainGlobals mg->(∀q∈tabs,bE mg base q.1 q.2)->a_ l.prog w K mg base bx 11 fa fd ["_law_script"] (DH K tabs):=by
 have e:=hfa.symm.trans (bw X G aaQ);cases e;have F5:=TN (st:=jP) lx5 cx5 kx5;have F6:=TN (st:=l9) lx6 cx6 kx6;have F49:=fun_mk (st:=g_) anb anc ane;have F74:=fun_mk (st:=l_) anG anH anI;have aoC:Binds K (W.fnOf "reading" "reading" (gY jP) (fQ jP) (aV jP) (.ref Bg) Ft Fv Fw Fq Bt Fx) ["first", "many", "at", "asker", "latest", "behind"] [.int 0 Rx,.none,.none]:=Qh 3 rfl λs X=>sr λ_ _ _=>W.binds_K X rfl dx5 rfl rfl rfl
 have aoD:Binds K (W.fnOf "reading" "reading" (gY jP) (fQ jP) (aV jP) (.ref Bg) Ft Fv Fw Fq Bt Fx) ["first", "many", "at", "asker", "latest", "behind"] []:=Qh 6 rfl λs X=>Zi λ_ _ _ _ _ _=>W.binds_K X rfl dx5 rfl rfl rfl
 have aoE:Binds K (W.fnOf "writing" "writing" (gY l9) (fQ l9) (aV l9) (.ref Fi) Ro Rp Rq Rm Fy Rr) ["first", "marks", "at", "asker", "latest", "behind", "early"] []:=Qh 7 rfl λs X=>Zj λ_ _ _ _ _ _ _=>W.binds_K X rfl dx6 rfl rfl rfl
 have mq_:=λ{n a} (h:Nq_ K n a)=>W.mg_of X G h
 let A:kr:=⟨Fe,Zr,Qi,Zu,Qj,Zv,Qk,Zw,Ql,Zx,Ff,(W.fnOf "reading" "reading" (gY jP) (fQ jP) (aV jP) (.ref Bg) Ft Fv Fw Fq Bt Fx),Rx,Fg,(W.fnOf "writing" "writing" (gY l9) (fQ l9) (aV l9) (.ref Fi) Ro Rp Rq Rm Fy Rr),Zq,Qm,Zy,Qn,Zz,Qo,ZA,Qp,ZC,Qq,ZD,Qs,ZE,Qt,ZF,Fj,ZG,Qu,ZI,Qv,ZJ,Qw,ZK,Qx,ZM,Qy,ZN,Qz,ZO,QA,ZQ,QB,ZR,QC,ZS,QD,ZT,QE,ZU,QF,ZV,QG,ZW,QH,ZX,QI,ZY,QJ,ZZ,QK,Z0,QL,Z1,QM,Z3,QN,Z4,QO,Z5,Bh,Z6,Bj,Z7,Bk,Z8,Bl,Z9,Bm,Z_,Bo,aaa,Bp,aab,Bq,aac,Br,aad,Bs,aae,QS,aaf,QT,aag,QU,aah,Fo,(W.fnOf "nearest_rings" "nearest_rings" (gY g_) (fQ g_) (aV g_) .none Zl Zm Zo Zk Fz Zp),QV,aai,QW,aaj,Fp,aak,QX,aal,QY,aam,QZ,aan,Q0,aao,Q3,aap,Q4,aaq,Q5,aar,Q6,aas,Q7,aat,Q8,aau,Q9,aav,Q_,aaw,Ra,aax,Rb,aay,Rc,aaz,Rf,aaA,Rg,aaB,Rh,aaC,Ri,aaD,Rj,aaE,Rk,aaF,fa,(W.fnOf "law" "law" (gY l_) (fQ l_) (aV l_) .none Rt Ru Rv Rn FA Rw),bU,cj,bG,br,nW,mq,qH,mw,b8,bu,aZ,El,Em,En,Eo,Ep,Er,Es,Et,Eu,Ew,Ex,Ey,Ez,EA⟩
 have T:Tx K mg A:=⟨F0,F0.binds (by walk_at "u10"),F1,F1.binds (by walk_at "u4"),bw X G ax1,F2,F2.binds (by walk_at "u1"),bw X G ax2,F3,F3.binds (by walk_at "u6"),bw X G ax3,F4,F4.binds (by walk_at "u1"),bw X G ax4,F5,aoC,aoD,bw X G ax5,F6,aoE,bw X G ax6,F7,F7.binds (by walk_at "u2"),bw X G ax7,F8,F8.binds (by walk_at "u2"),bw X G ax8,F9,F9.binds (by walk_at "u1"),bw X G ax9,F10,F10.binds (by walk_at "u2"),bw X G amm,F11,F11.binds (by walk_at "u2"),bw X G amn,F12,F12.binds (by walk_at "u2"),bw X G amo,F13,F13.binds (by walk_at "u3"),bw X G amq,F14,F14.binds (by walk_at "u4"),F15,F15.binds (by walk_at "u4"),bw X G amt,F16,F16.binds (by walk_at "u4"),bw X G amu,F17,F17.binds (by walk_at "u4"),bw X G amv,F18,F18.binds (by walk_at "u1"),bw X G amw,F19,F19.binds (by walk_at "u1"),bw X G amx,F20,F20.binds (by walk_at "u2"),bw X G amy,F21,F21.binds (by walk_at "u1"),bw X G amz,F22,F22.binds (by walk_at "u2"),bw X G amA,F23,F23.binds (by walk_at "u3"),bw X G amB,F24,F24.binds (by walk_at "u2"),bw X G amC,F25,F25.binds (by walk_at "u4"),bw X G amD,F26,F26.binds (by walk_at "u4"),bw X G amE,F27,F27.binds (by walk_at "u5"),bw X G amF,F28,F28.binds (by walk_at "u4"),bw X G amG,F29,F29.binds (by walk_at "u1"),bw X G amH,F30,F30.binds (by walk_at "u3"),bw X G amI,F31,F31.binds (by walk_at "u2"),bw X G amJ,F32,F32.binds (by walk_at "u1"),bw X G amK,F33,F33.binds (by walk_at "u1"),bw X G amL,F34,F34.binds (by walk_at "u2"),bw X G amM,F35,F35.binds (by walk_at "u1"),bw X G amN,Ry,Ry.binds (by walk_at "u5"),FD,FD.binds (by walk_at "u1"),⟨amQ,aaH,FD.kp⟩,⟨amR,aaH,FD.kp⟩,FE,FE.binds (by walk_at "u1"),⟨amS,aaI,FE.kp⟩,⟨amT,aaI,FE.kp⟩,FF,FF.binds (by walk_at "u2"),⟨amU,aaJ,FF.kp⟩,⟨amV,aaJ,FF.kp⟩,FG,FG.binds (by walk_at "u1"),⟨amW,aaK,FG.kp⟩,⟨amX,aaK,FG.kp⟩,FH,FH.binds (by walk_at "u3"),⟨amY,aaL,FH.kp⟩,⟨amZ,aaL,FH.kp⟩,FI,FI.binds (by walk_at "u3"),⟨am0,aaM,FI.kp⟩,⟨am1,aaM,FI.kp⟩,FJ,FJ.binds (by walk_at "u3"),⟨am2,aaN,FJ.kp⟩,⟨am3,aaN,FJ.kp⟩,FL,FL.binds (by walk_at "u2"),⟨am4,aaO,FL.kp⟩,⟨am5,aaO,FL.kp⟩,FN,FN.binds (by walk_at "u3"),⟨am6,aaP,FN.kp⟩,⟨am7,aaP,FN.kp⟩,F46,F46.binds (by walk_at "u2"),bw X G am8,F47,F47.binds (by walk_at "u2"),bw X G am9,F48,F48.binds (by walk_at "u2"),bw X G am_,F49,F49.binds (by walk_at "u2"),bw X G ana,F50,F50.binds (by walk_at "u4"),bw X G anf,F51,F51.binds (by walk_at "u4"),bw X G ang,F52,F52.binds (by walk_at "u7"),F53,F53.binds (by walk_at "u2"),bw X G anj,F54,F54.binds (by walk_at "u2"),bw X G ank,F55,F55.binds (by walk_at "u2"),bw X G anl,F56,F56.binds (by walk_at "u2"),bw X G anm,F57,F57.binds (by walk_at "u2"),bw X G ano,F58,F58.binds (by walk_at "u4"),bw X G anp,F59,F59.binds (by walk_at "u4"),bw X G anq,F60,F60.binds (by walk_at "u4"),bw X G anr,F61,F61.binds (by walk_at "u3"),bw X G ans,F62,F62.binds (by walk_at "u5"),bw X G ant,F63,F63.binds (by walk_at "u2"),bw X G anu,F64,F64.binds (by walk_at "u2"),bw X G anv,F65,F65.binds (by walk_at "u1"),bw X G anw,F66,F66.binds (by walk_at "u1"),bw X G anx,F67,F67.binds (by walk_at "u2"),bw X G anz,F68,F68.binds (by walk_at "u5"),bw X G anA,F69,F69.binds (by walk_at "u1"),bw X G anB,F70,F70.binds (by walk_at "u2"),bw X G anC,F71,F71.binds (by walk_at "u2"),bw X G anD,F72,F72.binds (by walk_at "u4"),bw X G anE,F73,F73.binds (by walk_at "u5"),bw X G anF,F74,F74.binds (by walk_at "u1"),bw X G aaQ,⟨an8,an9,an_,Ry.kp⟩,Xl,Xm,Xn,Xo,Xp,⟨anJ,anK,anL,anM⟩,⟨anN,ax0,ix0,anO⟩,bw X G ami,Xs,Xu,Xv,Xw,Xx,Xy,Xz,XA,XC,⟨anP,anQ,anR,anS⟩,⟨anT,amr,ams,anU⟩,bw X G amj,EI,XF,Oi,⟨anV,anW,anY,anZ⟩,⟨an0,amO,amP,an1⟩,bw X G amk,Oj,Ol,Om,Oo,Oq,Ot,⟨an2,an3,an4,an5⟩,⟨an6,anh,ani,an7⟩,bw X G aml,Ou,Ov,Ow,Ox,Oz,OA,OB,bw X G aoa,bw X G aob,bw X G aoc,bw X G aod,bw X G aoe,bw X G aof,bw X G aog,bw X G aoh,bw X G aoi,bw X G aoj,bw X G aok,bw X G aol,bw X G aom,bw X G aon,iY X G AM,iY X G OC,iY X G OD,iY X G OE,iY X G AN,iY X G xh,iY X G mz,iY X G eK,iY X G pH,iY X G OF,iY X G uR,iY X G fZ,iY X G AO,iY X G AQ,iY X G uS,aoz,iY X G OG,bw X G amd,OH,jh.of OH (by decide),bw X G ame,OI,jh.of OI (by decide),bw X G amf,bw X G amg,OJ,jh.of OJ (by decide),bw X G amh,EJ,jh.of EJ (by decide),⟨aoo,aop,aoq,aaR,aor,aox,aoy⟩,ad5 aaR,XJ,zR aos,OL,zR aot,OM,zR aou,ON,zR aov,OO,zR aow,OP⟩
 have hT:W.TabsAt [(bu,aZ)] h:=by
  intro q hq;simp only[List.mem_cons,List.not_mem_nil,or_false] at hq;rcases hq with rfl
  ·exact⟨W.codeHd_of_K X aoA,aoB⟩
 exact⟨(W.fnOf "law" "law" (gY l_) (fQ l_) (aV l_) .none Rt Ru Rv Rn FA Rw),[(bu,aZ)],λs v=>.of_eq rfl,hT,λbase _ _ hL=>alK T (hL (bu,aZ) (by simp))⟩
end _W
/-! aqA names are taken,so aqB no fast copy is laid of the largest tables: the compiled file stays small -/
structure PySem.W.Fast:Prop where(tw13961167946826772519 tw18249556991923605771 tw10754872812517869445 tw7930092560912004335 tw17661829068790866722 tw16785602367986004934 tw629989485252623223 tw16710066960171001814 tw9107442202218168318 tw2247729000613637366 tw5889701366343054088 tw1483880205271414052 tw3569050540072747213 tw10882563186633909856 tw10185535741216778841 tw14822646723320142930 tw14347449663398898074 tw11085498433135534116 tw17106559158386743567 tw17591071132551061996 tw3258619794298015111 tw8268468594530129359 tw3551314243843224751 tw7038470812901660358 tw17138975641298799243 tw12184652037234026229 tw11587764342830017847 tw8530947822500705880 tw1944239764667060598 tw6071789770521404009 tw8844536677594332735 tw3651344995037614034 tw15596247029392785220 tw1029713595227216601 tw14448955058210389725 tw17355041500765274601 tw5708890040509235542 tw5510242373145106814 tw12830654708230936305 tw8679153705196273334 tw11347467399346439401 tw12985244559639099388 tw14112115841799986934 tw4280249216607936236 tw8380746968759304729 tw16278093541372777152 tw6511991419467009764 tw2826828833720659837 tw13719795675297187369 tw16216570839157919102 tw10377422722262817846 tw11061547631913335263 tw14880258545880312366 tw7827810312936952796 tw12670946322547066710 tw6000095592516740096 tw6785516123345188059 tw4367039368328363003 tw15644011055661167145 tw15119253605610641973 tw13701931360440418790 tw10344585372420162646 tw10984254697850842446 tw12722257725326056741 tw585026111770734218 tw14053398851531753853 tw5363270505469289342 tw14101319065567143889 tw15156623672361767026 tw2601394073378248920 tw812522272593324626 tw9995381664564398536 tw18195861464466706426 tw14051707665376035375 tw661374635375322845 tw85497400023394730 tw15581944404676896440 tw18213517300214950636 tw1114532513072679467 tw14696902641164727853 tw4181163754154603262 tw11316324826436540602 tw14391886309032921770 tw13857856664534713400 tw228193888475395654 tw18102038149363544036 tw17495818954823502311 tw843401573261733779 tw16164261402306159990 tw18333487640237423860 tw11652943673290732868 tw11525146587534243220 tw14509139229874389135 tw13130574027421076608 tw16945790364480711030 tw5511527776613159953 tw4644549210969008043 tw12168635082402263010 tw6692883094707604381 tw17486513949369273608 tw9890455441454811260 tw8127736153950510048 tw16104473974316061516 tw8530989323628869418 tw14499862953358412526 tw5096658999029378801 tw16858445524190607493 tw10873348110849940710 tw4516504943843366473 tw6292316689813947139 tw6673834798206967516 tw693312687743141226 tw10692410816923634089 tw7541148933654821775 tw12747915946754020805 tw3268627445620170652 tw7696967095314458244 tw1442734758334088685 tw15335572209133678482 tw6480084872411100713 tw10950699294571824838 tw4441518428534765496 tw3095695864128037204 tw1486552729237001007 tw14023014855053924487 tw12447908381358906486 tw1803516871524294956 tw12517830235899155175 tw16281862742230312339 tw3710312220191214512 tw15880764437569450059 tw4625108619056574583 tw10689564955880722641 tw5178329033999660111 tw16063578432136175633 tw18170797647620135006 tw945242861556009237 tw8670770049626932936 tw12738318237095092335 tw919162883576354342 tw14430090270878612771 tw4842296872876249206 tw14444752886647157888 tw15853821612348678457 tw3997210900573476071 tw12171199048642479427 tw11808284500702735690 tw10069342254577466234 tw8945038443925817278 tw16826325104273478661 tw8264819800145843705 tw7785968079120802146 tw13341320598664811862 tw10889876462980949626 tw14817754842773376547 tw621011114741934030 tw14640718431236929314 tw6653041286973349740 tw5279503731700058870 tw8699149182488670601 tw616432412029631101 tw12247891120291513899 tw157211318162207731 tw13543099116628219162 tw6354819078731930428 tw17481355497856778752 tw6178552506904463906 tw17816935539997419933 tw14493971800086191023 tw16189269737522737596 tw6362756148107283352 tw15817485452526067447:True)
open PySem PySem.W PyProof.Rows
set_option maxHeartbeats 0 in
theorem PySem.Challenge.cw_armswing_k64_least_order_holds : PySem.Challenge.rw_armswing_k64_least_order.Holds := by
 w_on; o_law; k_head; (case hw => w_witness2)
 k_fill
 refine _L.walk_lawT (l := PySem.Challenge.rw_armswing_k64_least_order) (k := 11) (x := "_law_script") rfl rfl ⟨rfl, by decide, by decide⟩ (λw h Y => PySem.W.km_in_of Y) ?nt ?F
 case nt => intro w; first | k_is | rfl
 case F =>
  intro w mg fa h Y KX G hmg
  refine' _W.all_mk KX G hmg ..
  all_goals ((try unfold _W.Nq_); (try unfold _W.No_); (try unfold _W.Ni_); first | k_is | kit_is | k_exc | exact _L.fun_mk (by k_is) (by k_is) (by k_is) | rfl | exact PySem.W.km_tabs_of Y _ (by decide) | decide +kernel | kernel_rfl | skip)

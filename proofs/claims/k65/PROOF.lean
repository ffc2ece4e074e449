import PyProof.Rows.All
import Wide.All
import OpenK.AllK
import Wide.FinOn
import Lean
import PyProof.EqAt
import PyProof.EqKinds
import PyProof.TupleCall
import PySem.Challenge.RW_armswing_k65_whole_least_cut
set_option compiler.extract_closed false
set_option Elab.async false
set_option linter.all false
set_option maxRecDepth 100000
namespace _L
theorem _x1{A:Sort _}{p:A->Prop}{Q:Prop}(h:∃a,p a)(k:∀a,p a->Q):Q:=h.elim k
theorem _x2{A B:Sort _}{p:A->B->Prop}{Q:Prop}(h:∃a b,p a b)(k:∀a b,p a b->Q):Q:=h.elim fun a h=>_x1 h (k a)
theorem _x3{A B C:Sort _}{p:A->B->C->Prop}{Q:Prop}(h:∃a b c,p a b c)(k:∀a b c,p a b c->Q):Q:=h.elim fun a h=>_x2 h (k a)
theorem _x4{A B C D:Sort _}{p:A->B->C->D->Prop}{Q:Prop}(h:∃a b c d,p a b c d)(k:∀a b c d,p a b c d->Q):Q:=h.elim fun a h=>_x3 h (k a)
theorem _x5{A B C D E:Sort _}{p:A->B->C->D->E->Prop}{Q:Prop}(h:∃a b c d e,p a b c d e)(k:∀a b c d e,p a b c d e->Q):Q:=h.elim fun a h=>_x4 h (k a)
theorem _x6{A B C D E F:Sort _}{p:A->B->C->D->E->F->Prop}{Q:Prop}(h:∃a b c d e f,p a b c d e f)(k:∀a b c d e f,p a b c d e f->Q):Q:=h.elim fun a h=>_x5 h (k a)
theorem _x7{A B C D E F G:Sort _}{p:A->B->C->D->E->F->G->Prop}{Q:Prop}(h:∃a b c d e f g,p a b c d e f g)(k:∀a b c d e f g,p a b c d e f g->Q):Q:=h.elim fun a h=>_x6 h (k a)
theorem _x8{A B C D E F G H:Sort _}{p:A->B->C->D->E->F->G->H->Prop}{Q:Prop}(h:∃a b c d e f g h,p a b c d e f g h)(k:∀a b c d e f g h,p a b c d e f g h->Q):Q:=h.elim fun a h=>_x7 h (k a)
theorem _x9{A B C D E F G H I:Sort _}{p:A->B->C->D->E->F->G->H->I->Prop}{Q:Prop}(h:∃a b c d e f g h i,p a b c d e f g h i)(k:∀a b c d e f g h i,p a b c d e f g h i->Q):Q:=h.elim fun a h=>_x8 h (k a)
theorem _a1{A B Q:Prop}(h:A/\B)(k:A->B->Q):Q:=k h.1 h.2
theorem _a2{A B C Q:Prop}(h:A/\B/\C)(k:A->B->C->Q):Q:=_a1 h.2 (k h.1)
theorem _a3{A B C D Q:Prop}(h:A/\B/\C/\D)(k:A->B->C->D->Q):Q:=_a2 h.2 (k h.1)
theorem _a4{A B C D E Q:Prop}(h:A/\B/\C/\D/\E)(k:A->B->C->D->E->Q):Q:=_a3 h.2 (k h.1)
theorem _a5{A B C D E F Q:Prop}(h:A/\B/\C/\D/\E/\F)(k:A->B->C->D->E->F->Q):Q:=_a4 h.2 (k h.1)
theorem _a6{A B C D E F G Q:Prop}(h:A/\B/\C/\D/\E/\F/\G)(k:A->B->C->D->E->F->G->Q):Q:=_a5 h.2 (k h.1)
theorem _a7{A B C D E F G H Q:Prop}(h:A/\B/\C/\D/\E/\F/\G/\H)(k:A->B->C->D->E->F->G->H->Q):Q:=_a6 h.2 (k h.1)
theorem _a8{A B C D E F G H I Q:Prop}(h:A/\B/\C/\D/\E/\F/\G/\H/\I)(k:A->B->C->D->E->F->G->H->I->Q):Q:=_a7 h.2 (k h.1)
theorem _a9{A B C D E F G H I J Q:Prop}(h:A/\B/\C/\D/\E/\F/\G/\H/\I/\J)(k:A->B->C->D->E->F->G->H->I->J->Q):Q:=_a8 h.2 (k h.1)
end _L
local macro_rules|`(tactic|obtain $p:rcasesPatMed:=$e:term)=>do
 let p:=p.raw
 let t:=p[0][0]
 let s:=t[1].getSepArgs
 let n:=s.size
 if p[0].getNumArgs != 1||t[0].getAtomVal != "⟨"||n<2 then Lean.Macro.throwUnsupported
 let z←`(tactic|rcases $e:term with ($(⟨p⟩):rcasesPatMed))
 let I:=Lean.mkIdent
 let g:=e.raw.getId
 let r:=I (.num (if e.raw.isIdent then g else `p) n)
 if !e.raw.isIdent then return←`(tactic|first|(have $r:ident:=$e;obtain $(⟨p⟩):rcasesPatMed:=$r:ident)|$z:tactic)
 let v:Array (Lean.Term×Array (Lean.TSyntax `tactic))←s.mapIdxM fun i x=>do
  let y:=x[0][0]
  let f:=I (.num g i)
  if y.getNumArgs==1&&y[0][0].isIdent&&y[0][0].getId != `rfl then return(⟨y[0][0]⟩,#[]) else return(⟨f.raw⟩,#[←`(tactic|rcases $f:ident with $(⟨x⟩):rcasesPatLo)])
 let y:Lean.TSyntax `tactic←((List.range 18).filter fun i=>i%9+1<n).foldlM (init:=z) fun (z:Lean.TSyntax `tactic) (i:Nat)=>do
  let k:=i%9+1
  let l:=I (.str `_L ((if i<9 then"_a"else"_x")++toString k))
  let q:=k+1==n
  let a:=v.extract 0 (if q then n else k)
  let m:=p.setArg 0 (p[0].setArg 0 (t.setArg 1 (Lean.Syntax.mkSep (s.extract k n) (.atom .none ", "))))
  let x←`(tactic|obtain $(⟨m⟩):rcasesPatMed:=$r:ident)
  let o:=a.flatMap (fun x=>x.2)++if q then#[]else#[x]
  let a:=a.map (fun x=>x.1)++if q then#[]else#[⟨r.raw⟩]
  `(tactic|first|(refine $l $e ?_;(try clear $e);intro $a*;$[$o:tactic];*)|$z:tactic)
 return y
local macro_rules|`(tactic|rintro $p:rintroPat*)=>do
 let some i:=p.findIdx? fun p=>p.raw[0][0].getAtomVal=="⟨"&&p.raw[0][1].getSepArgs.size>2|Lean.Macro.throwUnsupported
 let r:=Lean.mkIdent (.num `p i)
 let t←`(tactic|(rintro $((p.extract 0 i).push (←`(rintroPat|$r:ident))):rintroPat*;obtain $(⟨p[i]!.raw[0]⟩):rcasesPat:=$r:ident))
 let b:=p.extract (i+1) p.size
 if b.isEmpty then return t else`(tactic|($t:tactic;rintro $b:rintroPat*))
local macro_rules|`(tactic|rcases $e:term with $p:rcasesPatLo)=>do
 let t:=p.raw[0][0]
 if p.raw[1].getNumArgs != 0||t.getNumArgs != 1||t[0][0].getAtomVal != "⟨"||t[0][1].getSepArgs.size<2 then Lean.Macro.throwUnsupported
 `(tactic|obtain $(⟨p.raw[0]⟩):rcasesPatMed:=$e)
local macro_rules|`(∅)=>`(by lia)
local macro_rules|`(⋯)=>`(by decide)
local macro_rules|`(‹$x›)=>`($x rfl rfl (by rfl) (by rfl) (by repeat (first|exact trivial|refine ⟨rfl,?_⟩)) (by rfl) (by rfl) (by rfl) (by decide) (by decide +kernel))
theorem OL_{α:Sort _}{a:α}{b:Prop}:a=a\/b:=.inl rfl
namespace _L
open PySem PySem.Spec PyProof.Rows
abbrev xR:=@Around.under_plainId
abbrev E4:=@Array.Perm.refl
abbrev E5:=@Array.forIn_toList
abbrev qW:=@Array.getD_eq_getD_getElem?
abbrev AX:=@Array.getElem?_eq_getElem
abbrev pU:=@Array.getElem?_toList
abbrev mG:=@Array.length_toList
abbrev xS:=@Bool.and_eq_true
abbrev pW:=@Bool.eq_iff_iff
abbrev eU:=@Bool.false_ne_true
abbrev E6:=@Calls.callWith_builtin
abbrev AY:=@Calls.spliced_cons
abbrev AZ:=@Calls.spliced_nil
abbrev A0:=@Classical.byContradiction
abbrev E7:=@F.plain_set_update_loop
abbrev u9:=@Heap.SameBut.update
abbrev A1:=@Heap.get?_none_of_le
abbrev cK:=@Heap.get?_push_of_some
abbrev fM:=@Heap.get?_push_size
abbrev xT:=@Heap.get?_update_self
abbrev cB:=@Heap.lt_size
abbrev sN:=@Heap.size_push
abbrev A2:=@Int.dvd_refl
abbrev A3:=@Int.ediv_nonneg
abbrev A4:=@Int.emod_emod_of_dvd
abbrev fB:=@Int.emod_lt_of_pos
abbrev fD:=@Int.emod_nonneg
abbrev kL:=@Int.le_refl
abbrev A5:=@Int.le_trans
abbrev pX:=@Int.mul_le_mul
abbrev A6:=@Int.sub_emod
abbrev E8:=@Int.toNat_of_nonneg
abbrev A7:=@List.Pairwise.imp
abbrev E9:=@List.Sublist.map
abbrev mH:=@List.all_eq_true
abbrev u_:=@List.any_cons
abbrev pY:=@List.append_assoc
abbrev mJ:=@List.append_nil
abbrev pZ:=@List.cons_append
abbrev E_:=@List.eq_nil_of_length_eq_zero
abbrev sO:=@List.filterMap_cons
abbrev Fb:=@List.filterMap_map
abbrev A8:=@List.filter_append
abbrev oz:=@List.filter_cons
abbrev Fc:=@List.filter_eq_nil_iff
abbrev xU:=@List.filter_sublist
abbrev A9:=@List.find?_eq_none
abbrev A_:=@List.flatMap_append
abbrev xV:=@List.flatMap_cons
abbrev vc:=@List.flatten_cons
abbrev vd:=@List.foldl_append
abbrev mK:=@List.foldl_cons
abbrev jg:=@List.getD_eq_getElem?_getD
abbrev d9:=@List.getElem?_append_left
abbrev d_:=@List.getElem?_append_right
abbrev Ba:=@List.getElem?_cons_succ
abbrev bC:=@List.getElem?_eq_getElem
abbrev sP:=@List.getElem?_eq_none
abbrev iB:=@List.getElem?_eq_some_iff
abbrev jZ:=@List.getElem?_map
abbrev Fd:=@List.getElem_append_left
abbrev Bb:=@List.getElem_map
abbrev cI:=@List.getElem_mem
abbrev Fe:=@List.getElem_range
abbrev Ff:=@List.getElem_take
abbrev Bc:=@List.getElem_toArray
abbrev e_:=@List.length_append
abbrev dR:=@List.length_cons
abbrev ve:=@List.length_drop
abbrev Fg:=@List.length_eq_zero_iff
abbrev kM:=@List.length_filter_le
abbrev aM:=@List.length_map
abbrev jD:=@List.length_range
abbrev mL:=@List.length_set
abbrev vf:=@List.length_singleton
abbrev dH:=@List.length_take
abbrev vg:=@List.lookup_cons
abbrev bT:=@List.map_append
abbrev vh:=@List.map_congr_left
abbrev cH:=@List.map_cons
abbrev Bd:=@List.map_drop
abbrev oA:=@List.map_map
abbrev fE:=@List.mem_append
abbrev p8:=@List.mem_append_left
abbrev fc:=@List.mem_append_right
abbrev b_:=@List.mem_cons
abbrev bU:=@List.mem_cons_of_mem
abbrev b8:=@List.mem_cons_self
abbrev fj:=@List.mem_filter
abbrev Be:=@List.mem_filterMap
abbrev Fi:=@List.mem_flatMap
abbrev jh:=@List.mem_iff_getElem
abbrev dh:=@List.mem_map
abbrev vj:=@List.mem_map_of_mem
abbrev g_:=@List.mem_of_getElem?
abbrev Bf:=@List.mem_of_mem_drop
abbrev oB:=@List.mem_of_mem_take
abbrev Fj:=@List.mem_or_eq_of_mem_set
abbrev fF:=@List.mem_range
abbrev fQ:=@List.mem_singleton
abbrev Fl:=@List.nil_prefix
abbrev Bg:=@List.nodup_append
abbrev kN:=@List.nodup_cons
abbrev vm:=@List.nodup_iff_pairwise_ne
abbrev Bh:=@List.nodup_nil
abbrev Bj:=@List.nodup_range
abbrev Bk:=@List.of_mem_zip
abbrev Bl:=@List.pairwise_append
abbrev Bm:=@List.pairwise_cons
abbrev sQ:=@List.pairwise_iff_getElem
abbrev p9:=@List.pairwise_map
abbrev Fo:=@List.prefix_append
abbrev Rp:=@List.prefix_append_right_inj
abbrev Fp:=@List.prefix_concat_iff
abbrev Fq:=@List.prefix_nil
abbrev vn:=@List.range_succ
abbrev p_:=@List.replicate_succ
abbrev Ft:=@List.reverse_cons
abbrev gB:=@List.size_toArray
abbrev xW:=@List.sum_append
abbrev qa:=@List.sum_cons
abbrev vo:=@List.take_append_drop
abbrev Rq:=@List.take_append_of_le_length
abbrev c9:=@List.take_length
abbrev qX:=@List.take_of_length_le
abbrev Fv:=@List.take_sublist
abbrev qb:=@Nat.add_le_add_left
abbrev Bo:=@Nat.le_of_eq
abbrev j0:=@Nat.le_of_lt
abbrev bu:=@Nat.le_refl
abbrev sR:=@Nat.le_succ
abbrev cQ:=@Nat.le_trans
abbrev lF:=@Nat.lt_irrefl
abbrev oE:=@Nat.lt_of_le_of_lt
abbrev gW:=@Nat.lt_of_lt_of_le
abbrev Fw:=@Nat.lt_succ_of_lt
abbrev Bp:=@Nat.lt_succ_self
abbrev ji:=@Nat.lt_trans
abbrev xX:=@Nat.min_eq_left
abbrev Fx:=@Nat.min_eq_right
abbrev vp:=@Nat.mod_lt
abbrev sS:=@Nat.mul_add
abbrev xY:=@Nat.mul_assoc
abbrev mO:=@Nat.mul_comm
abbrev xZ:=@Nat.mul_left_comm
abbrev oF:=@Nat.ne_of_gt
abbrev cR:=@Nat.ne_of_lt
abbrev qc:=@Nat.pow_succ
abbrev Bq:=@Nat.sub_self
abbrev Br:=@Nat.sub_zero
abbrev qY:=@Nat.zero_add
abbrev eL:=@Nat.zero_le
abbrev iC:=@Ne.symm
abbrev vq:=@Option.isSome_iff_exists
abbrev Fy:=@Option.isSome_map
abbrev Bs:=@Option.map_some
abbrev eN:=@Option.some.inj
abbrev Bt:=@Paired.length
abbrev cL:=@PassesOwn.never
abbrev qZ:=@Prod.ext
abbrev Rr:=@PyProof.Rows.callWith_builtin1
abbrev vt:=@PyProof.Rows.callWith_type1
abbrev Rt:=@PySem.F.args_dict_keyiterator_next_1
abbrev Ru:=@PySem.F.entry_dict_keyiterator_next
abbrev j8:=@PySem.F.plainAttrs_list
abbrev Fz:=@PySem.F.slot_dict_get
abbrev Bu:=@PySem.F.slot_dict_keyiterator_next
abbrev lG:=@PySem.F.slot_list_append
abbrev lH:=@PySem.F.type_list_append
abbrev Bv:=@PySem.W.callWith_K
abbrev Bw:=@PySem.W.cellsFrom_some
abbrev mQ:=@PySem.W.kia_one
abbrev FA:=@PySem.W.methodCall_KW
abbrev FD:=@PySem.W.plainGet_of
abbrev vv:=@PySem.mem_of_lookup
abbrev Bx:=@SeqAt.EqAt.int_int
abbrev x6:=@SeqAt.EqAt.same
abbrev jj:=@W.mg_none_of
abbrev bI:=@W.mg_of
abbrev lI:=@beq_eq_false_iff_ne
abbrev mR:=@beq_iff_eq
abbrev FE:=@beq_self_eq_true
abbrev vA:=@boot_isinstance
abbrev dU:=@boot_len
abbrev sU:=@boot_list
abbrev vB:=@boot_tuple
abbrev x8:=@call_meets
abbrev q8:=@codeAny_builtin
abbrev vC:=@codeAny_mono
abbrev fR:=@congrArg
abbrev By:=@decide_eq_decide
abbrev j9:=@decide_eq_false
abbrev kO:=@decide_eq_true
abbrev Rv:=@plainObj_wpAny_Assign_Attribute
abbrev q9:=@sizeLine_eq
abbrev x9:=@tupleKind_room_in1
abbrev vD:=@wpAny_Call_Name_kw
abbrev aJ:=@wpAny_bind
abbrev BA:=@wpAny_call_entry
abbrev sV:=@wpAny_dictEntries
abbrev BB:=@wpAny_dictEpoch
abbrev FF:=@wpAny_eqBool_int
abbrev FG:=@wpAny_execs_cons
abbrev vE:=@wpAny_execs_nil
abbrev BC:=@wpAny_forIn_list
abbrev mS:=@wpAny_holding
abbrev FH:=@wpAny_isTrue_Compare1
abbrev iS:=@wpAny_mono
abbrev x_:=@wpAny_newObj_type
abbrev sW:=@wpAny_passesOwn
abbrev bq:=@wpAny_pure
abbrev FI:=@wpAny_pyIter_list
abbrev vF:=@wpAny_setState_of
abbrev BD:=@wpAny_specialOf
abbrev qd:=@wpAny_truthy_bool
abbrev BE:=@wpAny_typeNameOfWhole_keyiter
abbrev BF:=@wpAny_typeNameOf_keyiter
noncomputable abbrev Key:=Sum Int Str
noncomputable def sX:Key->Value->Bool
 | .inl k,v=>Value.isInt k v
 | .inr x,v=>Value.isStrOf x v
noncomputable def abj(w:World):Key->Int
 | .inl k=>hashInt k
 | .inr x=>hashStr w x
theorem oG:∀ {k:Key} {v:Value},sX k v=true->(∃i t,k=Sum.inl i/\v=Value.int i t)\/(∃x t,k=Sum.inr x/\v=Value.str x t)
 | .inl i,v,h=>by
  obtain⟨t,e⟩:=Value.isInt_shape (k:=i) (v:=v) h;exact .inl ⟨i,t,rfl,e⟩
 | .inr x,v,h=>by
  obtain⟨t,e⟩:=Value.isStrOf_shape (x:=x) (v:=v) h;exact .inr ⟨x,t,rfl,e⟩
theorem Rw(i:Int)(t:Tok):sX (.inl i) (.int i t)=true:=by simp[sX,Value.isInt]
theorem abk(x:Str)(t:Tok):sX (.inr x) (.str x t)=true:=by simp[sX,Value.isStrOf]
theorem abl(a b:Int):decide ((Sum.inl a:Key)=Sum.inl b)=(a == b):=by
 by_cases e:a=b
 ·subst e;simp
 ·have h:¬ (Sum.inl a:Key)=Sum.inl b:=λq=>e (Sum.inl.inj q);rw[j9 h];exact(lI.mpr e).symm
theorem abm(a b:Str):decide ((Sum.inr a:Key)=Sum.inr b)=decide (a=b):=by
 by_cases e:a=b
 ·subst e;simp
 ·have h:¬ (Sum.inr a:Key)=Sum.inr b:=λq=>e (Sum.inr.inj q);rw[j9 h,j9 e]
theorem abn(a:Int)(b:Str):decide ((Sum.inl a:Key)=Sum.inr b)=false:=j9 (λq=>nomatch q)
theorem abo(a:Str)(b:Int):decide ((Sum.inr a:Key)=Sum.inl b)=false:=j9 (λq=>nomatch q)
noncomputable def dN(prog:Program)(w:World):PySem.KeyKind prog w Key where
 is:=sX
 hash:=abj w
 inj:=λv a b ha hb=>by
  rcases oG ha with⟨i,t,rfl,rfl⟩ | ⟨x,t,rfl,rfl⟩
  ·rcases oG hb with⟨j,u,rfl,e⟩ | ⟨y,u,rfl,e⟩
   ·injection e with e1 _;rw[e1]
   ·exact nomatch e
  ·rcases oG hb with⟨j,u,rfl,e⟩ | ⟨y,u,rfl,e⟩
   ·exact nomatch e
   ·injection e with e1 _;rw[e1]
 byValue:=λk v h=>by
  rcases oG h with⟨i,t,rfl,rfl⟩ | ⟨x,t,rfl,rfl⟩ <;> rfl
 pyHash:=λhv h=>by
  rcases oG hv with⟨i,t,rfl,rfl⟩ | ⟨x,t,rfl,rfl⟩
  ·exact wpAny_pyHash_int h
  ·exact wpAny_pyHash_str h
 eqBool:=λhu hv h=>by
  rcases oG hu with⟨i,t,rfl,rfl⟩ | ⟨x,t,rfl,rfl⟩
  ·rcases oG hv with⟨j,u,rfl,rfl⟩ | ⟨y,u,rfl,rfl⟩
   ·rw[abl] at h;exact FF h
   ·rw[abn] at h;exact SeqAt.EqAt.int_str i t y u _ _ _ _ h
  ·rcases oG hv with⟨j,u,rfl,rfl⟩ | ⟨y,u,rfl,rfl⟩
   ·rw[abo] at h;exact SeqAt.EqAt.str_int x t j u _ _ _ _ h
   ·rw[abm] at h;exact wpAny_eqBool_str h
 «strs» := λk x t v h=>by
  rcases oG h with⟨i,u,rfl,e⟩ | ⟨y,u,rfl,e⟩
  ·exact nomatch e
  ·injection e with e1 _;subst e1;cases v <;> rfl
theorem abp(prog:Program)(w:World)(k:Key)(v:Value):(dN prog w).is k v=sX k v:=rfl
theorem abq(prog:Program)(w:World)(i:Int)(t:Tok):(dN prog w).is (.inl i) (.int i t)=true:=Rw i t
theorem abr(prog:Program)(w:World)(x:Str)(t:Tok):(dN prog w).is (.inr x) (.str x t)=true:=abk x t
inductive V where
 | aU | bl (b:Bool) | int (i:Int) | str (x:Str) | iT (b:Array UInt8) | oH (b:UInt64) | ref (a:Addr) | ty (n:String)
 deriving DecidableEq
noncomputable def RelV:V->Value->Prop
 | .aU,u=>u=Value.none
 | .bl b,u=>u=Value.bool b
 | .int i,u=>∃t,u=Value.int i t
 | .str x,u=>∃t,u=Value.str x t
 | .iT b,u=>∃t,u=Value.bytes b t
 | .oH b,u=>∃t,u=Value.float b t
 | .ref a,u=>u=Value.ref a
 | .ty n,u=>u=Value.type n
noncomputable abbrev Vals:List V->List Value->Prop:=Paired RelV
theorem Vals.length{xs:List V}{us:List Value}(r:Vals xs us):xs.length=us.length:=Bt r
theorem Vals.get:∀ {xs:List V} {us:List Value} {i:Nat} {x:V},Vals xs us->xs[i]? = some x->∃u,us[i]? = some u/\RelV x u
 | _,_,_,_,.nil,e=>by simp at e
 | _,_,0,_,.cons r _,e=>by simp at e;subst e;exact⟨_,rfl,r⟩
 | _,_,i+1,x,.cons _ t,e=>by
  obtain⟨u,h1,h2⟩:=Vals.get (i:=i) (x:=x) t (by simpa using e)
  exact⟨u,by simpa using h1,h2⟩
theorem Vals.set{x:V}{u:Value}(r:RelV x u):∀ {xs:List V} {us:List Value} (i:Nat),Vals xs us->Vals (xs.set i x) (us.set i u)
 | _,_,_,.nil=>.nil
 | _,_,0,.cons _ t=>.cons r t
 | _,_,i+1,.cons q t=>.cons q (Vals.set r i t)
theorem Vals.append{xs ys:List V}{us ws:List Value}(h:Vals xs us)(g:Vals ys ws):Vals (xs++ys) (us++ws):=by
 induction h with
 | nil=>exact g
 | cons r t ih=>exact .cons r ih
theorem Vals.take:∀ {xs:List V} {us:List Value} (n:Nat),Vals xs us->Vals (xs.take n) (us.take n)
 | _,_,0,_=>.nil
 | _,_,_+1,.nil=>.nil
 | _,_,n+1,.cons r t=>.cons r (Vals.take n t)
theorem Vals.drop:∀ {xs:List V} {us:List Value} (n:Nat),Vals xs us->Vals (xs.drop n) (us.drop n)
 | _,_,0,r=>r
 | _,_,_+1,.nil=>.nil
 | _,_,n+1,.cons _ t=>Vals.drop n t
noncomputable def iD:Option V->Option Value->Prop
 | some v,some u=>RelV v u
 | none,none=>True
 | _,_=>False
def KV{κ:Type}:List (κ×V)->List (κ×Value)->Prop:=Paired λ(p:κ×V) (q:κ×Value)=>p.1=q.1/\RelV p.2 q.2
noncomputable def kV:Key->V
 | .inl i=>.int i
 | .inr x=>.str x
inductive HO where
 /-- a list -/
 | lst (xs:List V)
 /-- a tuple (never changes) -/
 | tup (xs:List V)
 /-- a dict whose keys are ints and texts;one whose keys are tuples of ints and texts (the empty one is both) -/
 | dK (aA:List (Key×V)) | dT (aA:List (List Key×V))
 /-- a set of ints: its members,its size -/
 | set (S:Int->Bool) (n:Nat)
 /-- an instance of the class at C,its dict at dx,its attributes -/
 | ins (C dx:Addr) (fs:List (Str×V))
 /-- the dict of the instance at x -/
 | own (x:Addr)
 /-- the dict of an exception -/
 | xd (fs:List (Str×V))
 /-- a bound method,f of x -/
 | met (f x:Addr)
 /-- a range object lo,lo+1,.. below hi -/
 | FJ (lo hi:Int)
 /-- a thing that is known to the object (the script;a dict while a loop walks it): read,never written while it is so -/
 | jk (o:Obj) (u:HO)
 /-- a code object's table -/
 | fY (ps:Array Value)
 /-- any other thing,by what is true of its one object (a def of one's own: SetO a S n:=HO.ext λh=>..) -/
 | ext (φ:Heap->Prop)
noncomputable abbrev Hp:=Addr->Option HO
noncomputable def upd(H:Hp)(a:Addr)(o:HO):Hp:=λb=>if b=a then some o else H b
theorem aE{H:Hp}{a:Addr}{o:HO}:upd H a o a=some o:=by unfold upd;rw[if_pos rfl]
theorem aI{H:Hp}{a b:Addr}{o:HO}(h:b≠a):upd H a o b=H b:=by unfold upd;rw[if_neg h]
theorem Rx{H:Hp}{a:Addr}{o u:HO}:upd (upd H a o) a u=upd H a u:=by
 funext b;unfold upd;split <;> rfl
theorem jm{H:Hp}{a b:Addr}{o u:HO}(h:H a=some o)(h':H b=some u)(d:o≠u):a≠b:=by
 intro e;subst e;rw[h] at h';exact d (eN h')
theorem bY{H:Hp}{a b:Addr}{o:HO}(h:H a=some o)(h':H b=none):a≠b:=by
 intro e;subst e;rw[h] at h';cases h'
section
variable(P:Program)(w:World)
noncomputable def eF(H:Hp)(h:Heap)(a:Addr):HO->Prop
 | .lst xs=>xs.length<=sizeLine/\∃(aB:List Value) (n:Nat),Vals xs aB/\h.get? a=some { cls:=.type "list",data:=.seq aB.toArray n }
 | .tup xs=>xs.length<=sizeLine/\∃aB:List Value,Vals xs aB/\IsTup h a aB.toArray
 | .dK aA=>aA.length<=sizeLine/\(a == sysModules)=false/\∃vs,KV aA vs/\h.DictOf (dN P w) a vs
 | .dT aA=>aA.length<=sizeLine/\(a == sysModules)=false/\∃xs:List (List Key×Addr×Value),
   Paired (λ(p:List Key×V) (q:List Key×Addr×Value)=>p.1=q.1/\H q.2.1=some (.tup (p.1.map kV))/\RelV p.2 q.2.2) aA xs/\
   ∃o es ep,h.get? a=some o/\o.ExactDict/\o.data = .dict es ep/\es.toList=xs.map (entryOfKey (tupleKind (dN P w)))/\(xs.map (·.1)).Nodup
 | .set S n=>h.SetOf (intKind P w) a S n
 | .ins C dx fs=>H dx=some (.own a)/\fs.length<=1000/\dx≠a/\h.get? a=some (PySem.W.instObj C dx)/\
   ∃mA,h.Ns1 dx mA/\(∀f,iD (fs.lookup f) (mA f))/\PySem.Within mA (fs.map (·.1))
 | .own _=>∃o,h.get? a=some o
 | .xd fs=>∃mA,h.Ns1 a mA/\∀f,iD (fs.lookup f) (mA f)
 | .FJ lo hi=>∃t u v,h.get? a=some { cls:=.type "range",data:=.fields #[.int lo t,.int hi u,.int 1 v] }
 | .jk o u=>h.get? a=some o/\eF H h a u
 | .fY ps=>h.get? a=some { cls:=.none,data:=.fields ps }
 | .met f x=>h.get? a=some (PySem.W.methodObj (.ref f) (.ref x))
 | .ext φ=>φ h/\(∃o,h.get? a=some o)/\∀h1 h2:Heap,φ h1->(∀o,h1.get? a=some o->h2.get? a=some o)->φ h2
def dO(H:Hp)(h:Heap):Prop:=∀a o,H a=some o->eF P w H h a o
end
section
variable{P:Program}{w:World}{H H':Hp}{h h':Heap}{a:Addr}{o:HO}
theorem eF.lt(x:eF P w H h a o):a<h.objs.size:=by
 cases o with
 | lst xs=>obtain⟨_,_,_,_,e⟩:=x;exact cB e
 | tup xs=>obtain⟨_,_,_,p⟩:=x;exact p.lt
 | dK aA=>obtain⟨_,_,_,_,o,_,_,e,_⟩:=x;exact cB e
 | dT aA=>obtain⟨_,_,_,_,o,_,_,e,_⟩:=x;exact cB e
 | set S n=>obtain⟨o,_,_,_,e,_⟩:=x;exact cB e
 | ins C dx fs=>obtain⟨_,_,_,e,_⟩:=x;exact cB e
 | own y=>obtain⟨_,e⟩:=x;exact cB e
 | xd fs=>obtain⟨_,⟨_,_,_,e,_⟩,_⟩:=x;exact cB e
 | FJ lo hi=>obtain⟨_,_,_,e⟩:=x;exact cB e
 | jk ob u=>obtain⟨e,_⟩:=x;exact cB e
 | fY ps=>exact cB (show h.get? a=some _ from x)
 | met f y=>exact cB (show h.get? a=some _ from x)
 | ext φ=>obtain⟨_,⟨_,e⟩,_⟩:=x;exact cB e
theorem Paired.Ry{α β:Type}{F G:α->β->Prop}{l₁:List α}{Rz:List β}(h:Paired F l₁ Rz)(f:∀a b,F a b->G a b):Paired G l₁ Rz:=by
 induction h with
 | nil=>exact .nil
 | cons r t ih=>exact .cons (f _ _ r) ih
theorem eF.mT(x:eF P w H h a o)(k:∀b u,(b=a\/H b=some (.own a))->h.get? b=some u->h'.get? b=some u)
  (ho:∀b,H b=some (.own a)->H' b=some (.own a)) (ht:∀b xs,H b=some (.tup xs)->H' b=some (.tup xs)):eF P w H' h' a o:=by
 induction o with
 | lst xs=>obtain⟨z,aB,n,r,e⟩:=x;exact⟨z,aB,n,r,k _ _ (.inl rfl) e⟩
 | tup xs=>obtain⟨z,aB,r,ob,e,c⟩:=x;exact⟨z,aB,r,ob,k _ _ (.inl rfl) e,c⟩
 | dK aA=>obtain⟨z,y,vs,r,ob,es,ep,e,c⟩:=x;exact⟨z,y,vs,r,ob,es,ep,k _ _ (.inl rfl) e,c⟩
 | dT aA =>
  obtain⟨z,y,xs,r,ob,es,ep,e,c⟩:=x;exact⟨z,y,xs,Paired.Ry r λp q z=>⟨z.1,ht _ _ z.2.1,z.2.2⟩,ob,es,ep,k _ _ (.inl rfl) e,c⟩
 | set S n=>obtain⟨ob,es,ep,t,e,c⟩:=x;exact⟨ob,es,ep,t,k _ _ (.inl rfl) e,c⟩
 | ins C dx fs =>
  obtain⟨d,z,ne,e,mA,⟨od,es,ep,e2,c⟩,r⟩:=x;exact⟨ho _ d,z,ne,k _ _ (.inl rfl) e,mA,⟨od,es,ep,k _ _ (.inr d) e2,c⟩,r⟩
 | own y=>obtain⟨ob,e⟩:=x;exact⟨ob,k _ _ (.inl rfl) e⟩
 | xd fs=>obtain⟨mA,⟨od,es,ep,e,c⟩,r⟩:=x;exact⟨mA,⟨od,es,ep,k _ _ (.inl rfl) e,c⟩,r⟩
 | FJ lo hi=>obtain⟨t,u,v,e⟩:=x;exact⟨t,u,v,k _ _ (.inl rfl) e⟩
 | jk ob u ih=>obtain⟨e,q⟩:=x;exact⟨k _ _ (.inl rfl) e,ih q⟩
 | fY ps =>
  have e:h.get? a=some { cls:=.none,data:=.fields ps }:=x
  show h'.get? a=some { cls:=.none,data:=.fields ps };exact k a _ (.inl rfl) e
 | met f y =>
  have e:h.get? a=some (PySem.W.methodObj (.ref f) (.ref y)):=x
  show h'.get? a=some (PySem.W.methodObj (.ref f) (.ref y));exact k a _ (.inl rfl) e
 | ext φ=>obtain⟨p,⟨o,e⟩,st⟩:=x;exact⟨st _ _ p λo q=>k _ _ (.inl rfl) q,⟨o,k _ _ (.inl rfl) e⟩,st⟩
theorem dO.lt(x:dO P w H h)(e:H a=some o):a<h.objs.size:=(x a o e).lt
theorem dO.fresh(x:dO P w H h)(e:h.objs.size<=a):H a=none:=by
 cases q:H a with
 | none=>rfl
 | some u=>exact absurd (gW (x.lt q) e) (lF _)
theorem dO.kept(x:dO P w H h)(k:∀b u,h.get? b=some u->h'.get? b=some u):dO P w H h':=λa o e =>
 (x a o e).mT (λb u _ q=>k b u q) (λ_ q=>q) λ_ _ q=>q
theorem dO.laid(x:dO P w H h)(k:∀b u,h.get? b=some u->h'.get? b=some u)(hp:h.objs.size<=a)(new:eF P w (upd H a o) h' a o):dO P w (upd H a o) h':=λb u e=>by
 have hn:=x.fresh hp;by_cases hb:b=a
 ·subst hb;rw[aE] at e;cases e;exact new
 ·rw[aI hb] at e;exact(x b u e).mT (λc v _ q=>k c v q) (λc q=>by rw[aI (bY q hn)];exact q) λc xs q=>by rw[aI (bY q hn)];exact q
end
def Rd(H:Hp)(a:Addr)(u:HO):Prop:=H a=some u\/∃o,H a=some (.jk o u)
theorem Rd.ok{P:Program}{w:World}{H:Hp}{h:Heap}{a:Addr}{u:HO}(r:Rd H a u)(x:dO P w H h):eF P w H h a u:=by
 rcases r with r | ⟨o,r⟩
 ·exact x a u r
 ·obtain⟨_,q⟩:=x a _ r;exact q
noncomputable def ya:Option HO->Prop
 | some (.lst _)=>True
 | some (.dK _)=>True
 | some (.dT _)=>True
 | some (.set _ _)=>True
 | some (.ins _ _ _)=>True
 | some (.ext _)=>True
 | _=>False
section
variable{P:Program}{w:World}{H:Hp}{h h':Heap}{x e:Addr}{o':HO}
theorem dO.write(ok:dO P w H h)(mu:ya (H x))(he:e=x\/H e=some (.own x))(k:∀b u,b≠e->h.get? b=some u->h'.get? b=some u)(vG:∃u,h'.get? e=some u)
  (new:eF P w (upd H x o') h' x o'):dO P w (upd H x o') h':=λb u q=>by
 have RA:∀c y,H c=some (.own y)->c≠x:=λc y r z=>by subst z;rw[r] at mu;exact mu
 have abt:∀c xs,H c=some (.tup xs)->c≠x:=λc xs r z=>by subst z;rw[r] at mu;exact mu
 by_cases hb:b=x
 ·subst hb;rw[aE] at q;cases q;exact new
 ·rw[aI hb] at q;by_cases sY:b=e
  ·have q':H b=some (.own x):=by
    rcases he with z | z
    ·exact absurd (sY.trans z) hb
    ·rw[sY];exact z
   rw[q] at q';cases q';obtain⟨v,hv⟩:=vG;exact⟨v,by rw[sY];exact hv⟩
  ·refine(ok b u q).mT (λc v hc r=>k c v ?_ r) (λc r=>by rw[aI (RA c b r)];exact r) λc xs r=>by rw[aI (abt c xs r)];exact r
   rcases hc with rfl | hc
   ·exact sY
   ·rintro rfl;rcases he with z | z
    ·exact RA c b hc z
    ·rw[hc] at z;cases z;exact hb rfl
end
structure Un(fs ex:List Addr)(H H':Hp)(h h':Heap):Prop where
 keep:∀b o,h.get? b=some o->H b=none->b∉fs->b∉ex->h'.get? b=some o
 slot:∀b o,h.get? b=some o->H b=none->b∈fs->b∉ex->∃sl,h'.get? b=some { o with slots:=sl }
 free:∀b o,h.get? b=some o->H b=none->b∉ex->H' b=none
 there:∀b o,h.get? b=some o->b∉ex->∃o',h'.get? b=some o'
 q_:∀b xs,H b=some (.tup xs)->H' b=some (.tup xs)
 oJ:∀b o u,H b=some (.jk o u)->H' b=some (.jk o u)
 qe:∀b ps,H b=some (.fY ps)->∃more,H' b=some (.fY (ps++more))
section
variable{fs RB ex ex':List Addr}{H H1 H2:Hp}{h h1 h2 h':Heap}{a x e:Addr}{o:HO}
theorem Un.any(u:Un fs ex H H1 h h1){b:Addr}{ob:Obj}(q:h.get? b=some ob)(n:H b=none)(hx:b∉ex):∃sl,h1.get? b=some { ob with slots:=sl }:=by
 by_cases hb:b∈fs
 ·exact u.slot b ob q n hb hx
 ·exact⟨ob.slots,u.keep b ob q n hb hx⟩
theorem Un.kept(k:∀b u,h.get? b=some u->h'.get? b=some u):Un fs ex H H h h' :=
 ⟨λb ob q _ _ _=>k b ob q,λb ob q _ _ _=>⟨ob.slots,k b ob q⟩,λ_ _ _ n _=>n,λb ob q _=>⟨ob,k b ob q⟩,λ_ _ q=>q,λ_ _ _ q=>q,λ_ ps q=>⟨#[],by rw[q];simp⟩⟩
theorem Un.refl:Un fs ex H H h h:=Un.kept λ_ _ q=>q
theorem Un.laid(k:∀b u,h.get? b=some u->h'.get? b=some u)(hp:h.objs.size<=a)(hn:H a=none):Un fs ex H (upd H a o) h h' where
 keep:=λb u q _ _ _=>k b u q
 slot:=λb u q _ _ _=>⟨u.slots,k b u q⟩
 free:=λb u q n _=>by rw[aI (cR (gW (cB q) hp))];exact n
 there:=λb u q _=>⟨u,k b u q⟩
 q_:=λb xs q=>by rw[aI (bY q hn)];exact q
 oJ:=λb u xs q=>by rw[aI (bY q hn)];exact q
 qe:=λb ps q=>⟨#[],by rw[aI (bY q hn),q];simp⟩
theorem Un.write(mu:ya (H x))(he:e=x\/H e=some (.own x))(k:∀b u,b≠e->h.get? b=some u->h'.get? b=some u)(vG:∃u,h'.get? e=some u):Un fs ex H (upd H x o) h h':=by
 have hx:∀b,H b=none->b≠x:=λb n z=>by subst z;rw[n] at mu;exact mu
 have hb:∀b,H b=none->b≠e:=λb n z=>by
  subst z;rcases he with r | r
  ·exact hx b n r
  ·rw[n] at r;cases r
 have hm:∀b u,H b=some u->¬ ya (some u)->b≠x:=λb u q nm z=>by subst z;rw[q] at mu;exact nm mu
 refine⟨λb u q n _ _=>k b u (hb b n) q,λb u q n _ _=>⟨u.slots,k b u (hb b n) q⟩,λb u q n _=>by rw[aI (hx b n)];exact n,λb u q _=>?_,
  λb xs q=>by rw[aI (hm b _ q λz=>z)];exact q,λb u xs q=>by rw[aI (hm b _ q λz=>z)];exact q,λb ps q=>⟨#[],by rw[aI (hm b _ q λz=>z),q];simp⟩⟩
 by_cases sY:b=e
 ·subst sY;exact vG
 ·exact⟨u,k b u sY q⟩
end
noncomputable def BG(h:Heap)(H:Hp):List Addr:=(List.range h.objs.size).filter λa=>(H a).isSome
noncomputable def jE(h:Heap)(H:Hp):Heap:=PySem.W.hideAll h (BG h H)
theorem RC(h:Heap)(H:Hp):(jE h H).objs.size=h.objs.size:=PySem.W.hideAll_size _ _
theorem RD{h:Heap}{H:Hp}{b:Addr}{o:Obj}(e:h.get? b=some o)(n:H b=none):(jE h H).get? b=some o :=
 PySem.W.hideAll_get _ e λhm=>by
  have q:(H b).isSome=true:=(fj.mp hm).2;rw[n] at q;simp at q
theorem RE{h:Heap}{H:Hp}{b:Addr}{o:Obj}(e:(jE h H).get? b=some o):h.get? b=some o/\H b=none:=by
 have e':h.get? b=some o:=PySem.W.of_hideAll (BG h H) e;refine⟨e',?_⟩;cases q:H b with
 | none=>rfl
 | some x =>
  have hm:b∈BG h H:=fj.mpr ⟨fF.mpr (cB e'),by simp[q]⟩
  have z:(jE h H).get? b=none:=PySem.W.hideAll_none (BG h H) hm;rw[z] at e;cases e
noncomputable def yc(g h:Heap)(L:Addr):List (Addr×Obj):=(List.range h.objs.size).filterMap λa=>if a=L\/(g.get? a).isSome=true then none else(h.get? a).map λo=>(a,o)
theorem FL{g h:Heap}{L a:Addr}{o:Obj}(h1:a≠L)(h2:g.get? a=none)(h3:h.get? a=some o):(a,o)∈yc g h L :=
 Be.mpr ⟨a,fF.mpr (cB h3),by simp[h1,h2,h3]⟩
theorem abu{g h:Heap}{L:Addr}{p:Addr×Obj}(hp:p∈yc g h L):p.1≠L/\g.get? p.1=none/\h.get? p.1=some p.2:=by
 obtain⟨b,_,e⟩:=Be.mp hp;split at e
 ·cases e
 ·rename_i hn;cases q:h.get? b with
  | none=>rw[q] at e;simp at e
  | some u =>
   rw[q] at e;simp only[Option.map_some,Option.some.injEq] at e;subst e;refine⟨λz=>hn (.inl z),?_,q⟩
   show g.get? b=none;cases r:g.get? b with
   | none=>rfl
   | some v=>exact(hn (.inr (by simp[r]))).elim
noncomputable def rest(g h:Heap)(L d:Addr):List (Addr×Obj):=(yc g h L).filter λp=>decide (p.1≠d)
theorem BH{g h:Heap}{L d:Addr}:∀p∈rest g h L d,p.1≠d:=λp hp=>of_decide_eq_true (fj.mp hp).2
theorem abv{g h:Heap}{L d a:Addr}{o:Obj}(h1:a≠L)(h2:g.get? a=none)(h3:h.get? a=some o)(h4:a≠d):(a,o)∈rest g h L d :=
 fj.mpr ⟨FL h1 h2 h3,kO h4⟩
theorem BI{g h:Heap}{L:Addr}:News g L h (yc g h L):=λp hp=>let ⟨a,b,c⟩:=abu hp;⟨c,a,b⟩
theorem news_at{g h:Heap}{L d:Addr}{o:Obj}(h1:d≠L)(h2:g.get? d=none)(h3:h.get? d=some o):News g L h ((d,o)::rest g h L d):=λp hp=>by
 rcases b_.mp hp with rfl | hp
 ·exact⟨h3,h1,h2⟩
 ·exact BI p (fj.mp hp).1
theorem BJ{g h h':Heap}{L d:Addr}{m:Str->Option Value}(k:∀b o,g.get? b=some o->h.get? b=some o)(F:Fr g L h' m)(N:News g L h' (rest g h L d)) :
  ∀b o,b≠L->b≠d->h.get? b=some o->h'.get? b=some o:=λb o h1 h2 e=>by
 cases q:g.get? b with
 | some u =>
  have:=k b u q;rw[e] at this;cases this;exact F.keep b _ q
 | none=>exact(N (b,o) (abv h1 q e h2)).1
structure Mod(K:W.Frag)(mg:Str->Option Value)(base:Heap):Prop where
 vH:K.In base
 glob:base.Ns mainGlobals mg
 blt:∃mb,base.Ns builtinsNs mb/\∀x:Str,x≠"__name__"->mb x=bootBuiltins x
 nolimit:base.NoLimit
structure Cx where
 prog:Program
 w:World
 K:W.Frag
 mg:Str->Option Value
 base:Heap
 A:Around
 N:List Str
 eg:Shared
 sZ:Hp
 env:Env
 outer:List Env
 stack:List Env
 ex:List Addr
 fn:Str->Bool
 calm:Bool
 pn:List (Addr×Obj)
 xe:Value->Shared->Prop
noncomputable def iE(l:List Env):List Addr:=l.filterMap (·.frame)
noncomputable abbrev Cx.fs(X:Cx):List Addr:=iE X.outer
def BK(sc:Scope)(x:Str):Prop:=sc.names.lookup x=some .local\/sc.names.lookup x=some .cell\/sc.names.lookup x=some .free
def Loc(sc:Scope)(x:Str):Prop:=sc.names.lookup x=some .local\/sc.names.lookup x=some .cell
noncomputable def Look(env:Env)(h:Heap)(m:Str->Option Value)(x:Str)(u:Value):Prop :=
 (env.kindOf x=some .local/\m x=some u)\/((env.kindOf x=some .cell\/env.kindOf x=some .free)/\∃c,env.cells.lookup x=some c/\h.IsCell c (some u))
structure Cx.Ok(X:Cx):Prop where
 mod:Mod X.K X.mg X.base
 kind:X.env.scope.kind = .function
 glob:X.env.globals=mainGlobals
 blt:X.env.builtins=builtinsNs
 above:X.eg.heap.objs.size<=X.env.locals
 inj:∀x y c,X.env.cells.lookup x=some c->X.env.cells.lookup y=some c->x=y
 has:∀x,(X.env.kindOf x=some .cell\/X.env.kindOf x=some .free)->∃c,X.env.cells.lookup x=some c
 vI:∀x c,X.fn x=true->X.env.cells.lookup x=some c->X.eg.heap.objs.size<=c
 hd:X.calm=true->X.A.handled=none
 frames:X.A.frames=some X.stack
 yd:X.stack=X.outer\/(X.stack=X.env::X.outer/\X.env.frame=some X.env.locals)
 yf:∀b∈X.ex,b≠X.env.locals/\∀x c,X.env.cells.lookup x=some c->c≠b
 bs:∀b o,X.base.get? b=some o->X.eg.heap.get? b=some o/\X.sZ b=none
 iU:X.base.objs.size<=X.eg.heap.objs.size
 vJ:∀b o,X.base.get? b=some o->b∉X.ex
 vK:∀b∈X.ex,b∉X.fs
 kP:X.eg.heap.FunFrames X.base X.outer
 rm:∀b∈X.fs,X.sZ b=none
structure Inv(X:Cx)(pins:List (Addr×Obj))(σ:List (Option V))(H:Hp)(s:Shared):Prop where
 ok:X.Ok
 os:s.os=X.eg.os
 bare:AllBare s.gens
 base:Un X.fs X.ex X.sZ H X.eg.heap s.heap
 loc:∃m,s.heap.Ns X.env.locals m/\∀(i:Nat) (x:Str) (v:V),X.N[i]? = some x->σ[i]? = some (some v)->BK X.env.scope x->∃u,RelV v u/\Look X.env s.heap m x u
 cell:∀x c,X.env.cells.lookup x=some c->∃v,s.heap.IsCell c v
 free:H X.env.locals=none
 mU:∀x c,X.env.cells.lookup x=some c->H c=none
 pin:∀p∈X.pn++pins,s.heap.get? p.1=some p.2/\H p.1=none/\p.1≠X.env.locals/\p.1∉X.fs/\∀v,p.2.data≠.cell v
 aO:dO X.prog X.w H s.heap
 len:σ.length=X.N.length
section
variable{X:Cx}{pins:List (Addr×Obj)}{σ:List (Option V)}{H H':Hp}{s:Shared}{h':Heap}
theorem Cx.Ok.abw(ok:X.Ok){b:Addr}{o:Obj}(e:X.base.get? b=some o):b∉X.fs:=λhb=>by
 have:=(ok.kP.mem hb).1;rw[e] at this;cases this
theorem Inv.bs(I:Inv X pins σ H s):∀b o,X.base.get? b=some o->s.heap.get? b=some o/\H b=none:=λb o e =>
 ⟨I.base.keep b o (I.ok.bs b o e).1 (I.ok.bs b o e).2 (I.ok.abw e) (I.ok.vJ b o e),I.base.free b o (I.ok.bs b o e).1 (I.ok.bs b o e).2 (I.ok.vJ b o e)⟩
theorem Inv.bk(I:Inv X pins σ H s):∀b o,X.base.get? b=some o->s.heap.get? b=some o:=λb o e=>(I.bs b o e).1
theorem Inv.mod(I:Inv X pins σ H s):Mod X.K X.mg X.base:=I.ok.mod
theorem Inv.eV(I:Inv X pins σ H s):X.K.In s.heap:=I.ok.mod.vH.keeps I.bk
theorem Inv.nolimit(I:Inv X pins σ H s):s.heap.NoLimit:=I.ok.mod.nolimit.keeps I.bk
theorem Inv.fr(I:Inv X pins σ H s):∃m,Fr X.base X.env.locals s.heap m :=
 let ⟨m,hn,_⟩:=I.loc
 ⟨m,hn,I.bk,cQ I.ok.iU I.ok.above⟩
theorem Inv.lt(I:Inv X pins σ H s):X.env.locals<s.heap.objs.size:=let ⟨_,hn,_⟩:=I.loc;hn.lt
theorem Inv.sz(I:Inv X pins σ H s):X.eg.heap.objs.size<=s.heap.objs.size:=cQ I.ok.above (j0 I.lt)
theorem Inv.yg(I:Inv X pins σ H s){a:Addr}(h:s.heap.objs.size<=a):a∉X.fs:=λhb=>by
 obtain⟨_,o,ho,_⟩:=I.ok.kP.mem hb;exact absurd (gW (cB ho) (cQ I.sz h)) (lF _)
theorem Inv.s_(I:Inv X pins σ H s):∀x c,X.env.cells.lookup x=some c->c≠X.env.locals:=λx c e z=>by
 obtain⟨v,o,ho,hd⟩:=I.cell x c e;obtain⟨m,⟨o',es,ep,jF,fS,_⟩,_⟩:=I.loc;rw[z,jF] at ho;cases ho;rw[fS] at hd;cases hd
theorem Inv.kP(I:Inv X pins σ H s):s.heap.FunFrames X.base X.outer:=by
 have all:∀(l:List Env),(∀b∈iE l,b∈X.fs)->X.eg.heap.FunFrames X.base l->s.heap.FunFrames X.base l:=by
  intro l
  induction l with
  | nil=>intro _ _;trivial
  | cons env r ih =>
   intro hs hl;obtain⟨hk,⟨L,o,hf,hn,ho,hd⟩,hr⟩:=hl;have hL:L∈X.fs:=hs L (by unfold iE;rw[List.filterMap_cons,hf];exact List.mem_cons_self)
   obtain⟨sl,e⟩:=I.base.slot L o ho (I.ok.rm L hL) hL λz=>I.ok.vK L z hL;exact⟨hk,⟨L,_,hf,hn,e,hd⟩,ih (λb hb=>hs b (by unfold iE;rw[List.filterMap_cons,hf];exact List.mem_cons_of_mem _ hb)) hr⟩
 exact all X.outer (λ_ hb=>hb) I.ok.kP
theorem Inv.stack(I:Inv X pins σ H s):s.heap.FunFrames X.base X.stack:=by
 rcases I.ok.yd with e | ⟨e,hf⟩
 ·rw[e];exact I.kP
 ·rw[e];obtain⟨m,hn,_⟩:=I.loc;refine .cons (by rw[I.ok.kind];decide) hf hn ?_ I.kP
  exact A1 (cQ I.ok.iU I.ok.above)
theorem Inv.FN(I:Inv X pins σ H s):∀b∈iE X.stack,b∈X.env.locals::X.fs:=λb hb=>by
 rcases I.ok.yd with e | ⟨e,hf⟩
 ·rw[e] at hb;exact bU _ hb
 ·rw[e] at hb;unfold iE at hb;rw[sO,hf] at hb;exact hb
theorem Inv.FO(I:Inv X pins σ H s):∀b∈iE X.stack,H b=none:=λb hb=>by
 rcases b_.mp (I.FN b hb) with e | hb
 ·rw[e];exact I.free
 ·obtain⟨_,o,ho,_⟩:=I.ok.kP.mem hb;exact I.base.free b o ho (I.ok.rm b hb) λz=>I.ok.vK b z hb
theorem Inv.step{g':Array GenState}{t':Nat}{d':Drawn}{ch:List Addr}(I:Inv X pins σ H s)
  (mW:∀b∈ch,(b∈X.ex\/X.eg.heap.objs.size<=b)/\b≠X.env.locals/\(∀x c,X.env.cells.lookup x=some c->c≠b)/\∀p∈X.pn++pins,p.1≠b)
  (keep:∀b o,b≠X.env.locals->b∉X.fs->b∉ch->s.heap.get? b=some o->H b=none->h'.get? b=some o)
  (slot:∀b o,b≠X.env.locals->b∈X.fs->b∉ch->s.heap.get? b=some o->H b=none->∃sl,h'.get? b=some { o with slots:=sl }) (free:∀b o,b∉ch->s.heap.get? b=some o->H b=none->H' b=none)
  (there:∀b o,b∉ch->s.heap.get? b=some o->∃o',h'.get? b=some o')
  (q_:∀b xs,H b=some (.tup xs)->H' b=some (.tup xs)) (oJ:∀b o u,H b=some (.jk o u)->H' b=some (.jk o u)) (qe:∀b ps,H b=some (.fY ps)->∃more,H' b=some (.fY (ps++more)))
  (ns:∀m,s.heap.Ns X.env.locals m->h'.Ns X.env.locals m) (aO:dO X.prog X.w H' h') (hg:AllBare g') :
  Inv X pins σ H' { s with heap:=h',gens:=g',drawn:=d',toks:=t' }:=by
 have RG:∀b o,X.eg.heap.get? b=some o->b≠X.env.locals:=λb o e=>cR (gW (cB e) I.ok.above);have BL:∀b o,X.eg.heap.get? b=some o->b∉X.ex->b∉ch:=λb o e hx hb=>by
  rcases(mW b hb).1 with z | z
  ·exact hx z
  ·exact absurd (gW (cB e) z) (lF _)
 have cellK:∀x c,X.env.cells.lookup x=some c->∀v,s.heap.IsCell c v->h'.IsCell c v:=λx c e v ⟨o,ho,hd⟩=>by
  have yh:c∉ch:=λz=>(mW c z).2.2.1 x c e rfl;by_cases hc:c∈X.fs
  ·obtain⟨sl,q⟩:=slot c o (I.s_ x c e) hc yh ho (I.mU x c e);exact⟨_,q,hd⟩
  ·exact⟨o,keep c o (I.s_ x c e) hc yh ho (I.mU x c e),hd⟩
 refine⟨I.ok,I.os,hg,⟨λb o e n hb hx=>?_,λb o e n hb hx=>?_,λb o e n hx=>?_,λb o e hx=>?_,λb xs e=>q_ b xs (I.base.q_ b xs e),λb o xs e=>oJ b o xs (I.base.oJ b o xs e),λb ps e=>?_⟩,?_,λx c e=>?_,?_,λx c e=>?_,λp hp=>?_,aO,I.len⟩
 ·exact keep b o (RG b o e) hb (BL b o e hx) (I.base.keep b o e n hb hx) (I.base.free b o e n hx)
 ·obtain⟨sl,e1⟩:=I.base.slot b o e n hb hx;obtain⟨sl',e2⟩:=slot b _ (RG b o e) hb (BL b o e hx) e1 (I.base.free b o e n hx);exact⟨sl',e2⟩
 ·obtain⟨o',e1⟩:=I.base.there b o e hx;exact free b o' (BL b o e hx) e1 (I.base.free b o e n hx)
 ·obtain⟨o',e1⟩:=I.base.there b o e hx;exact there b o' (BL b o e hx) e1
 ·obtain⟨m1,e1⟩:=I.base.qe b ps e;obtain⟨m2,e2⟩:=qe b _ e1;exact⟨m1++m2,by rw[e2,Array.append_assoc]⟩
 ·obtain⟨m,hn,hl⟩:=I.loc;refine⟨m,ns m hn,λi x v e1 e2 e3=>?_⟩;obtain⟨u,r,l⟩:=hl i x v e1 e2 e3;refine⟨u,r,?_⟩;rcases l with l | ⟨k,c,e,z⟩
  ·exact .inl l
  ·exact .inr ⟨k,c,e,cellK x c e _ z⟩
 ·obtain⟨v,z⟩:=I.cell x c e;exact⟨v,cellK x c e v z⟩
 ·obtain⟨m,⟨o,_,_,ho,_⟩,_⟩:=I.loc;exact free _ o (λz=>(mW _ z).2.1 rfl) ho I.free
 ·obtain⟨v,o,ho,hd⟩:=I.cell x c e;exact free c o (λz=>(mW c z).2.2.1 x c e rfl) ho (I.mU x c e)
 ·obtain⟨e,n,ne,nf,d⟩:=I.pin p hp;have yh:p.1∉ch:=λz=>(mW p.1 z).2.2.2 p hp rfl;exact⟨keep p.1 p.2 ne nf yh e n,free p.1 p.2 yh e n,ne,nf,d⟩
theorem Inv.un{t':Nat}(I:Inv X pins σ H s)(u:Un X.fs [] H H' s.heap h')(aO:dO X.prog X.w H' h'):Inv X pins σ H' { s with heap:=h',toks:=t' }:=by
 obtain⟨m,⟨o,es,ep,ho,r⟩,_⟩:=id I.loc;obtain⟨sl,hL⟩:=u.any ho I.free (by simp)
 exact I.step (g':=s.gens) (d':=s.drawn) (ch:=[]) (λ_ z=>nomatch z) (λb o _ hb _ e n=>u.keep b o e n hb (by simp)) (λb o _ hb _ e n=>u.slot b o e n hb (by simp)) (λb o _ e n=>u.free b o e n (by simp)) (λb o _ e=>u.there b o e (by simp)) u.q_ u.oJ u.qe (λm' hm=>by
  obtain⟨o',fO,gX,jF,r'⟩:=hm;rw[ho] at jF;cases jF;exact⟨_,fO,gX,hL,r'⟩) aO I.bare
theorem Inv.call{g':Array GenState}{t':Nat}{d':Drawn}{ch:List Addr}(I:Inv X pins σ H s)(u:Un (iE X.stack) ch H H' s.heap h')(aO:dO X.prog X.w H' h')(hg:AllBare g')
  (mW:∀b∈ch,(b∈X.ex\/X.eg.heap.objs.size<=b)/\b≠X.env.locals/\(∀x c,X.env.cells.lookup x=some c->c≠b)/\∀p∈X.pn++pins,p.1≠b) :
  Inv X pins σ H' { s with heap:=h',gens:=g',drawn:=d',toks:=t' }:=by
 obtain⟨m,⟨o,es,ep,ho,r⟩,_⟩:=id I.loc;obtain⟨sl,hL⟩:=u.any ho I.free λz=>(mW _ z).2.1 rfl;exact I.step (ch:=ch) mW (λb o hL hb hc e n=>u.keep b o e n (λz=>(b_.mp (I.FN b z)).elim hL hb) hc) (λb o _ _ hc e n=>u.any e n hc) (λb o hc e n=>u.free b o e n hc) (λb o hc e=>u.there b o e hc) u.q_ u.oJ u.qe (λm' hm=>by
  obtain⟨o',fO,gX,jF,r'⟩:=hm;rw[ho] at jF;cases jF;exact⟨_,fO,gX,hL,r'⟩) aO hg
theorem Inv.turned{t':Nat}{it:Addr}(I:Inv X pins σ H s)(k:∀b o,b≠it->s.heap.get? b=some o->h'.get? b=some o)(hn:H it=none)(hL:it≠X.env.locals)
  (h1:it∈X.ex\/X.eg.heap.objs.size<=it) (h2:∀x c,X.env.cells.lookup x=some c->c≠it) (h3:∀p∈X.pn++pins,p.1≠it):Inv X pins σ H { s with heap:=h',toks:=t' }:=by
 have yi:∀b u,H b=some u->b≠it:=λb u e z=>by rw[z,hn] at e;cases e
 refine I.step (g':=s.gens) (d':=s.drawn) (ch:=[it]) (λb hb=>?_) (λb o _ _ hc e _=>k b o (λz=>hc (by simp[z])) e) (λb o _ _ hc e _=>⟨o.slots,k b o (λz=>hc (by simp[z])) e⟩) (λ_ _ _ _ n=>n)
  (λb o hc e=>⟨o,k b o (λz=>hc (by simp[z])) e⟩) (λ_ _ e=>e) (λ_ _ _ e=>e) (λb ps e=>⟨#[],by rw[e];simp⟩) (λm hm=>?_) (λb u e=>?_) I.bare
 ·have e:b=it:=by simpa using hb
  subst e;exact⟨h1,hL,h2,h3⟩
 ·obtain⟨o,es,ep,ho,r⟩:=hm;exact⟨o,es,ep,k _ o (iC hL) ho,r⟩
 ·refine(I.aO b u e).mT (λc v hc q=>k c v ?_ q) (λ_ q=>q) λ_ _ q=>q;rcases hc with z | z
  ·rw[z];exact yi b u e
  ·exact yi c _ z
theorem Inv.tok(I:Inv X pins σ H s)(t:Nat):Inv X pins σ H { s with toks:=t }:=I.un (h':=s.heap) (t':=t) Un.refl I.aO
theorem Inv.kept{t':Nat}(I:Inv X pins σ H s)(k:∀b u,s.heap.get? b=some u->h'.get? b=some u):Inv X pins σ H { s with heap:=h',toks:=t' }:=I.un (Un.kept k) (I.aO.kept k)
theorem Inv.laid{a:Addr}{o:HO}{t':Nat}(I:Inv X pins σ H s)(k:∀b u,s.heap.get? b=some u->h'.get? b=some u)(hp:s.heap.objs.size<=a)(new:eF X.prog X.w (upd H a o) h' a o) :
  Inv X pins σ (upd H a o) { s with heap:=h',toks:=t' }:=I.un (Un.laid k hp (I.aO.fresh hp)) (I.aO.laid k hp new)
theorem Inv.write{x e:Addr}{o:HO}{t':Nat}(I:Inv X pins σ H s)(mu:ya (H x))(he:e=x\/H e=some (.own x))(k:∀b u,b≠e->s.heap.get? b=some u->h'.get? b=some u)(vG:∃u,h'.get? e=some u)
  (new:eF X.prog X.w (upd H x o) h' x o):Inv X pins σ (upd H x o) { s with heap:=h',toks:=t' }:=I.un (Un.write mu he k vG) (I.aO.write mu he k vG new)
theorem Inv.oK{FP:List (Addr×Obj)}(I:Inv X pins σ H s)(h:∀p∈FP,s.heap.get? p.1=some p.2/\H p.1=none/\p.1≠X.env.locals/\p.1∉X.fs/\∀v,p.2.data≠.cell v):Inv X FP σ H s :=
 ⟨I.ok,I.os,I.bare,I.base,I.loc,I.cell,I.free,I.mU,λp hp=>(fE.mp hp).elim (λz=>I.pin p (p8 _ z)) (h p),I.aO,I.len⟩
theorem RH{N:List Str}(hN:N.Nodup){i j:Nat}{x:Str}(a:N[i]? = some x)(b:N[j]? = some x):i=j:=by
 obtain⟨h1,e1⟩:=iB.mp a;obtain⟨h2,e2⟩:=iB.mp b;exact(List.getElem_inj hN).mp (e1.trans e2.symm)
theorem RI{M:Model}{A:Around}{E:Value->Shared->Prop}{i:Nat}{x:Str}{v:V}{u:Value}{Q:Unit->Shared->Prop}(I:Inv X pins σ H s)(hN:X.N.Nodup)(hi:X.N[i]? = some x)(hx:Loc X.env.scope x)(r:RelV v u)
  (h:∀s',Inv X pins (σ.set i (some v)) H s'->(∃a,Heap.SameBut a s.heap s'.heap/\(a=X.env.locals\/X.env.cells.lookup x=some a))->Q () s') (hf:X.fn x=true\/X.env.scope.names.lookup x=some .local:=by first | exact .inl rfl | exact .inr rfl | assumption):wpAny M A (storeName X.env x u) Q E s:=by
 obtain⟨m,hn,hl⟩:=id I.loc;have abx:(X.env.scope.kind == .class || (X.env.scope.kind == .module && X.env.locals != X.env.globals))=false:=by rw[I.ok.kind];rfl
 have RJ:i<σ.length:=by rw[I.len];exact(iB.mp hi).1
 have s_:=I.s_;have tracked:∀ {a:Addr} {h':Heap},(∃o,s.heap.get? a=some o/\H a=none)->Heap.SameBut a s.heap h'->dO X.prog X.w H h':=λ{a h'} ha hs b ob e=>by
  obtain⟨_,_,RK⟩:=ha;refine(I.aO b ob e).mT (λc w' hc q=>(hs.2 c ?_).trans q) (λ_ q=>q) λ_ _ q=>q;rintro rfl;rcases hc with rfl | hc
  ·rw[RK] at e;cases e
  ·rw[RK] at hc;cases hc
 rcases hx with hk | hk
 ·refine wpAny_storeName_local hk hn (λh' RL hs=>?_) abx;obtain⟨oL,_,_,hoL,_⟩:=id hn;refine h _ ⟨I.ok,I.os,I.bare,⟨λb o e n hb hx=>?_,λb o e n hb hx=>?_,I.base.free,λb o e hx=>?_,I.base.q_,I.base.oJ,I.base.qe⟩,⟨_,RL,λj y v' e1 e2 e3=>?_⟩,λy c e=>?_,I.free,I.mU,λp hp=>?_,tracked ⟨oL,hoL,I.free⟩ hs,by simpa using I.len⟩ ⟨_,hs,.inl rfl⟩
  ·exact(hs.2 b (cR (gW (cB e) I.ok.above))).trans (I.base.keep b o e n hb hx)
  ·obtain⟨sl,e1⟩:=I.base.slot b o e n hb hx;exact⟨sl,(hs.2 b (cR (gW (cB e) I.ok.above))).trans e1⟩
  ·obtain⟨o',e1⟩:=I.base.there b o e hx;exact⟨o',(hs.2 b (cR (gW (cB e) I.ok.above))).trans e1⟩
  ·by_cases hj:j=i
   ·subst hj;rw[hi] at e1;cases e1;rw[List.getElem?_set_self RJ] at e2;cases e2;exact⟨u,r,.inl ⟨hk,by simp⟩⟩
   ·rw[List.getElem?_set_ne (iC hj)] at e2;obtain⟨u',r',q⟩:=hl j y v' e1 e2 e3;refine⟨u',r',?_⟩;rcases q with⟨k,e⟩ | ⟨k,c,e,z⟩
    ·refine .inl ⟨k,?_⟩;have:y≠x:=λe=>hj (RH hN e1 (e▸hi));simp[this,e]
    ·exact .inr ⟨k,c,e,z.sameBut hs (s_ y c e)⟩
  ·obtain⟨w',z⟩:=I.cell y c e;exact⟨w',z.sameBut hs (s_ y c e)⟩
  ·obtain⟨e,n,ne,nf,d⟩:=I.pin p hp;exact⟨(hs.2 p.1 ne).trans e,n,ne,nf,d⟩
 ·have FQ:X.fn x=true:=by
   rcases hf with z | z
   ·exact z
   ·rw[z] at hk;cases hk
  obtain⟨c,hc⟩:=I.ok.has x (.inl hk);obtain⟨w',z⟩:=I.cell x c hc;refine wpAny_storeName_cell I.ok.kind hk hc z (λh' RM hs=>?_);obtain⟨oc,RN,aby⟩:=id z;refine h { s with heap:=h' } ⟨I.ok,I.os,I.bare,⟨λb o e n hb hx=>?_,λb o e n hb hx=>?_,I.base.free,λb o e hx=>?_,I.base.q_,I.base.oJ,I.base.qe⟩,⟨m,hn.sameBut hs (iC (s_ x c hc)),λj y v' e1 e2 e3=>?_⟩,λy c' e=>?_,I.free,I.mU,λp hp=>?_,tracked ⟨oc,RN,I.mU x c hc⟩ hs,by simpa using I.len⟩ ⟨c,hs,.inr hc⟩
  ·exact(hs.2 b (cR (gW (cB e) (I.ok.vI x c FQ hc)))).trans (I.base.keep b o e n hb hx)
  ·obtain⟨sl,e1⟩:=I.base.slot b o e n hb hx;exact⟨sl,(hs.2 b (cR (gW (cB e) (I.ok.vI x c FQ hc)))).trans e1⟩
  ·obtain⟨o',e1⟩:=I.base.there b o e hx;exact⟨o',(hs.2 b (cR (gW (cB e) (I.ok.vI x c FQ hc)))).trans e1⟩
  ·by_cases hj:j=i
   ·subst hj;rw[hi] at e1;cases e1;rw[List.getElem?_set_self RJ] at e2;cases e2;exact⟨u,r,.inr ⟨.inl hk,c,hc,RM⟩⟩
   ·rw[List.getElem?_set_ne (iC hj)] at e2;obtain⟨u',r',q⟩:=hl j y v' e1 e2 e3;refine⟨u',r',?_⟩;rcases q with q | ⟨k,c',e,z'⟩
    ·exact .inl q
    ·refine .inr ⟨k,c',e,z'.sameBut hs ?_⟩;rintro rfl;exact hj (RH hN e1 (I.ok.inj _ _ _ e hc▸hi))
  ·by_cases BN:c' = c
   ·subst BN;exact⟨_,RM⟩
   ·obtain⟨w2,z2⟩:=I.cell y c' e;exact⟨w2,z2.sameBut hs BN⟩
  ·obtain⟨e,n,ne,nf,d⟩:=I.pin p hp;refine⟨(hs.2 p.1 ?_).trans e,n,ne,nf,d⟩;intro q;rw[q,RN] at e;have q':oc=p.2:=eN e;exact d w' (by rw[← q'];exact aby)
theorem RO{M:Model}{A:Around}{E:Value->Shared->Prop}{i:Nat}{x:Str}{v:V}{u:Value}{Q:Unit->Shared->Prop}(I:Inv X pins σ H s)(hN:X.N.Nodup)(hi:X.N[i]? = some x)(hx:Loc X.env.scope x)(r:RelV v u)
  (h:∀s',Inv X pins (σ.set i (some v)) H s'->Q () s') (hf:X.fn x=true\/X.env.scope.names.lookup x=some .local:=by first | exact .inl rfl | exact .inr rfl | assumption):wpAny M A (storeName X.env x u) Q E s :=
 RI I hN hi hx r (λs' I' _=>h s' I') hf
theorem Inv.RP{s':Shared}{ch:List Addr}(I:Inv X pins σ H s)(ho:s'.os=s.os)(u:Un (iE X.stack) ch H H' s.heap s'.heap)(aO:dO X.prog X.w H' s'.heap)(hg:AllBare s'.gens)
  (mW:∀b∈ch,(b∈X.ex\/X.eg.heap.objs.size<=b)/\b≠X.env.locals/\(∀x c,X.env.cells.lookup x=some c->c≠b)/\∀p∈X.pn++pins,p.1≠b):Inv X pins σ H' s':=by
 obtain⟨h',g',d',t',o'⟩:=s';have e:o' = s.os:=ho;subst e;exact I.call (g':=g') (t':=t') (d':=d') u aO hg mW
end
noncomputable abbrev XK:=Value->Option Addr->Hp->Prop
noncomputable abbrev St:=List (Option V)
noncomputable abbrev VK:=V->Hp->Prop
noncomputable abbrev TE:=St->Hp->VK->Prop
noncomputable abbrev TT:=St->Hp->(Bool->Hp->Prop)->Prop
noncomputable abbrev TA:=St->Hp->(List V->Hp->Prop)->Prop
structure Ends where
 nx:St->Hp->Prop
 rt:VK
 bk:St->Hp->Prop:=λ_ _=>False
 ct:St->Hp->Prop:=λ_ _=>False
noncomputable abbrev TS:=Ends->St->Hp->Prop
def EP(X:Cx)(pins:List (Addr×Obj))(σ:St)(Q:VK)(u:Value)(s':Shared):Prop:=∃v H',Inv X pins σ H' s'/\RelV v u/\Q v H'
def TP(X:Cx)(pins:List (Addr×Obj))(σ:St)(Q:Bool->Hp->Prop)(b:Bool)(s':Shared):Prop:=∃H',Inv X pins σ H' s'/\Q b H'
def AP(X:Cx)(pins:List (Addr×Obj))(σ:St)(Q:List V->Hp->Prop)(us:List Value)(s':Shared):Prop:=∃vs H',Inv X pins σ H' s'/\Vals vs us/\Q vs H'
noncomputable def SP(X:Cx)(pins:List (Addr×Obj))(D:Ends)(f:Flow)(s':Shared):Prop :=
 match f with
 | .next=>∃bO H',Inv X pins bO H' s'/\D.nx bO H'
 | .brk=>∃bO H',Inv X pins bO H' s'/\D.bk bO H'
 | .cont=>∃bO H',Inv X pins bO H' s'/\D.ct bO H'
 | .ret u=>∃v bO H',Inv X pins bO H' s'/\RelV v u/\D.rt v H'
noncomputable def PE(X:Cx)(e:Expr)(t:TE):Prop :=
 ∀(pins:List (Addr×Obj)) (s:Shared) (σ:St) (H:Hp) (Q:VK),Inv X pins σ H s->t σ H Q->wpAny (model X.prog X.w) X.A (eval e X.env) (EP X pins σ Q) X.xe s
noncomputable def PT(X:Cx)(e:Expr)(t:TT):Prop :=
 ∀(pins:List (Addr×Obj)) (s:Shared) (σ:St) (H:Hp) (Q:Bool->Hp->Prop),Inv X pins σ H s->t σ H Q->wpAny (model X.prog X.w) X.A (isTrue e X.env (eval e X.env)) (TP X pins σ Q) X.xe s
noncomputable def PW(X:Cx)(e:Expr)(t:TT):Prop :=
 ∀(whole:Sem Value) (pins:List (Addr×Obj)) (s:Shared) (σ:St) (H:Hp) (Q:Bool->Hp->Prop),Inv X pins σ H s->t σ H Q->wpAny (model X.prog X.w) X.A (isTrue e X.env whole) (TP X pins σ Q) X.xe s
theorem PW.pt{X:Cx}{e:Expr}{t:TT}(h:PW X e t):PT X e t:=h _
noncomputable def PA(X:Cx)(es:List Expr)(t:TA):Prop :=
 ∀(pos:Pos) (pins:List (Addr×Obj)) (s:Shared) (σ:St) (H:Hp) (Q:List V->Hp->Prop),Inv X pins σ H s->t σ H Q->wpAny (model X.prog X.w) X.A (spliced (backTo pos (starEach es X.env))) (AP X pins σ Q) X.xe s
noncomputable def PS(X:Cx)(st:Stmt)(t:TS):Prop :=
 ∀(pins:List (Addr×Obj)) (s:Shared) (σ:St) (H:Hp) (D:Ends),Inv X pins σ H s->t D σ H->wpAny (model X.prog X.w) X.A (exec st X.env) (SP X pins D) X.xe s
noncomputable def h_(X:Cx)(st:List Stmt)(t:TS):Prop :=
 ∀(pins:List (Addr×Obj)) (s:Shared) (σ:St) (H:Hp) (D:Ends),Inv X pins σ H s->t D σ H->wpAny (model X.prog X.w) X.A (execs st X.env) (SP X pins D) X.xe s
theorem aW{α:Type}{t:Sem α}{Q Q':α->Shared->Prop}{M:Model}{A:Around}{E:Value->Shared->Prop}{s:Shared}(h:wpAny M A t Q E s)(hQ:∀a s,Q a s->Q' a s):wpAny M A t Q' E s:=iS h hQ λ_ _ x=>x
section
variable{X:Cx}
theorem bin{a b:Expr}{ta tb:TE}(ha:PE X a ta)(hb:PE X b tb){pins:List (Addr×Obj)}{s:Shared}{σ:St}{H:Hp}{R:V->V->Hp->Prop}(I:Inv X pins σ H s)(h:ta σ H λx H1=>tb σ H1 λy H2=>R x y H2)
  {α:Type} {Q:α->Shared->Prop} {f:Value->Value->Sem α}
  (hf:∀v u s2 x y H2,Inv X pins σ H2 s2->RelV x v->RelV y u->R x y H2->wpAny (model X.prog X.w) X.A (f v u) Q X.xe s2) :
  wpAny (model X.prog X.w) X.A (eval a X.env) (λv bf=>wpAny (model X.prog X.w) X.A (eval b X.env) (λu jo=>wpAny (model X.prog X.w) X.A (f v u) Q X.xe jo) X.xe bf) X.xe s:=by
 refine aW (ha pins s σ H _ I h) λv s1 ⟨x,H1,I1,r1,q1⟩=>?_;refine aW (hb pins s1 σ H1 _ I1 q1) λu s2 ⟨y,H2,I2,r2,q2⟩=>?_;exact hf v u s2 x y H2 I2 r1 r2 q2
def BO(i:Nat):TE:=λσ H Q=>∃v,σ[i]? = some (some v)/\Q v H
def tC(v:V):TE:=λ_ H Q=>Q v H
theorem RQ{i:Nat}{x:Str}{pos:Pos}(hN:X.N[i]? = some x)(hv:BK X.env.scope x)(hd:(x == ("__debug__" : Str))=false:=by decide)(fZ:(x == ("__classdict__" : Str))=false:=by decide):PE X (.Name x pos) (BO i):=by
 intro pins s σ H Q I h;obtain⟨v,e,h⟩:=h;obtain⟨m,hn,hl⟩:=I.loc;obtain⟨u,r,l⟩:=hl i x v hN e hv;have fin:EP X pins σ Q u s:=⟨v,H,I,r,h⟩;rcases l with⟨hk,hm⟩ | ⟨hk,c,hc,RS⟩
 ·exact wpAny_Name (wpAny_loadName_local I.ok.kind hk hn hm fin) hd
 ·rcases hk with hk | hk
  ·exact wpAny_Name (wpAny_loadName_cell I.ok.kind hk hc RS fin) hd
  ·exact wpAny_Name (wpAny_loadName_free I.ok.kind hk hc RS fin fZ) hd
theorem ak{i j pos}:PE X (.Constant (.int i) j pos) (tC (.int i)):=λ_ _ _ H _ I h=>wpAny_Constant_int ⟨.int i,H,I.tok _,⟨_,rfl⟩,h⟩
theorem gb{b j pos}:PE X (.Constant (.bool b) j pos) (tC (.bl b)):=λ_ _ _ H _ I h=>Constant_bool ⟨.bl b,H,I,rfl,h⟩
theorem rq{j pos}:PE X (.Constant .none j pos) (tC .aU):=λ_ _ _ H _ I h=>Constant_none ⟨.aU,H,I,rfl,h⟩
theorem mX{x j pos}:PE X (.Constant (.str x) j pos) (tC (.str x)):=λ_ _ _ H _ I h=>Calls.Constant_str ⟨.str x,H,I.tok _,⟨_,rfl⟩,h⟩
def Gl(X:Cx)(x:Str):Prop:=X.env.kindOf x=some .globalImplicit
theorem BP{E:Value->Shared->Prop}{pins:List (Addr×Obj)}{s:Shared}{σ:St}{H:Hp}{x:Str}{u:Value}{pos:Pos}{Q:Value->Shared->Prop}(I:Inv X pins σ H s)(hg:Gl X x)(hm:X.mg x=some u)(h:Q u s)
  (hd:(x == ("__debug__" : Str))=false:=by decide):wpAny (model X.prog X.w) X.A (eval (.Name x pos) X.env) Q E s :=
 Calls.Name_function_global I.ok.kind hg (Calls.loadGlobal_global (by rw[I.ok.glob];exact I.mod.glob.keeps I.bk) hm h) hd
theorem oM{E:Value->Shared->Prop}{pins:List (Addr×Obj)}{s:Shared}{σ:St}{H:Hp}{x:Str}{u:Value}{pos:Pos}{Q:Value->Shared->Prop}(I:Inv X pins σ H s)(hg:Gl X x)(hm:X.mg x=none)(hv:bootBuiltins x=some u)(h:Q u s)
  (hn:x≠"__name__" := by decide) (hd:(x == ("__debug__" : Str))=false:=by decide):wpAny (model X.prog X.w) X.A (eval (.Name x pos) X.env) Q E s:=by
 obtain⟨mb,h1,h2⟩:=I.mod.blt;exact Calls.Name_function_global I.ok.kind hg (Calls.loadGlobal_builtin (by rw[I.ok.glob];exact I.mod.glob.keeps I.bk) hm (by rw[I.ok.blt];exact h1.keeps I.bk) ((h2 x hn).trans hv) h) hd
theorem jG{x:Str}{v:V}{u:Value}{pos:Pos}(hg:Gl X x)(hm:X.mg x=some u)(r:RelV v u)(hd:(x == ("__debug__" : Str))=false:=by decide):PE X (.Name x pos) (tC v) :=
 λ_ _ _ H _ I h=>BP I hg hm ⟨v,H,I,r,h⟩ hd
theorem vL{x:Str}{v:V}{u:Value}{pos:Pos}(hg:Gl X x)(hm:X.mg x=none)(hv:bootBuiltins x=some u)(r:RelV v u)(hn:x≠"__name__" := by decide)(hd:(x == ("__debug__" : Str))=false:=by decide):PE X (.Name x pos) (tC v) :=
 λ_ _ _ H _ I h=>oM I hg hm hv ⟨v,H,I,r,h⟩ hn hd
variable{a b:Expr}{ta tb:TE}{pos:Pos}
noncomputable def PC(X:Cx)(op:CmpOp)(a b:Expr)(t:TE):Prop :=
 ∀(pins:List (Addr×Obj)) (s:Shared) (σ:St) (H:Hp) (Q:VK),Inv X pins σ H s->t σ H Q->
  wpAny (model X.prog X.w) X.A (eval a X.env) (λv bf=>wpAny (model X.prog X.w) X.A (eval b X.env) (λu jo=>wpAny (model X.prog X.w) X.A (compareOp op v u) (EP X pins σ Q) X.xe jo) X.xe bf) X.xe s
theorem abz(b:Expr){op:CmpOp}(h:op≠.In)(h2:op≠.NotIn):behindInMarks op b=false:=by
 have e1:(op == CmpOp.In)=false:=by cases op <;> first | rfl | exact absurd rfl h
 have e2:(op == CmpOp.NotIn)=false:=by cases op <;> first | rfl | exact absurd rfl h2
 cases b <;> simp[behindInMarks,e1,e2]
def tB(t:TE):TT:=λσ H Q=>t σ H λx H1=>∃c,x = .bl c/\Q c H1
theorem FT{op:CmpOp}{t:TE}(h:PC X op a b t)(h1:behindInMarks op b=false:=by first | exact abz _ ⋯ ⋯ | rfl):PT X (.Compare a [op] [b] pos) (tB t):=by
 intro pins s σ H Q I hw;refine FH (aW (h pins s σ H _ I hw) λv s1 h1=>aW h1 λu s2 h2=>aW h2 λc s3 ⟨x,H1,I1,r1,q1⟩=>?_) h1;obtain⟨d,rfl,q⟩:=q1;cases r1;exact qd ⟨H1,I1,q⟩
theorem gC{e:Expr}{t:TE}(h:PE X e t)(he:∀whole,isTrue e X.env whole=(do let v ← whole;standAt e.pos;holding [v] (truthy v)):=by intro _;rfl):PT X e (tB t):=by
 intro pins s σ H Q I hw;refine isTrue_plain (aW (h pins s σ H _ I hw) λv s1 ⟨x,H1,I1,r1,q1⟩=>?_) (he _);obtain⟨d,rfl,q⟩:=q1;cases r1;exact qd ⟨H1,I1,q⟩
variable{tA BQ:TT}{rest:List Expr}
def FU(t u:TT):TT:=λσ H Q=>t σ H λc H1=>if c=true then u σ H1 Q else Q false H1
def vM(t u:TT):TT:=λσ H Q=>t σ H λc H1=>if c=true then Q true H1 else u σ H1 Q
def FW(t:TT):TT:=λσ H Q=>t σ H λc H1=>Q (!c) H1
theorem yj(ha:PT X a tA):PW X (.BoolOp .And [a] pos) tA:=by
 intro wh pins s σ H Q I h;refine isTrue_and (aW (ha pins s σ H Q I h) λc s1 e=>?_);cases c with
 | true=>exact isTrue_and_nil e
 | false=>exact e
theorem iF(ha:PT X a tA):PW X (.BoolOp .Or [a] pos) tA:=by
 intro wh pins s σ H Q I h;refine isTrue_or (aW (ha pins s σ H Q I h) λc s1 e=>?_);cases c with
 | false=>exact isTrue_or_nil e
 | true=>exact e
theorem yl(ha:PT X a tA)(hb:PW X (.BoolOp .And (b::rest) pos) BQ):PW X (.BoolOp .And (a::b::rest) pos) (FU tA BQ):=by
 intro wh pins s σ H Q I h;refine isTrue_and (aW (ha pins s σ H _ I h) λc s1 ⟨H1,I1,q1⟩=>?_);cases c with
 | true=>exact hb wh pins s1 σ H1 Q I1 q1
 | false=>exact⟨H1,I1,q1⟩
theorem gF(ha:PT X a tA)(hb:PW X (.BoolOp .Or (b::rest) pos) BQ):PW X (.BoolOp .Or (a::b::rest) pos) (vM tA BQ):=by
 intro wh pins s σ H Q I h;refine isTrue_or (aW (ha pins s σ H _ I h) λc s1 ⟨H1,I1,q1⟩=>?_);cases c with
 | true=>exact⟨H1,I1,q1⟩
 | false=>exact hb wh pins s1 σ H1 Q I1 q1
theorem iV(ha:PT X a tA):PT X (.UnaryOp .Not a pos) (FW tA):=by
 intro pins s σ H Q I h;exact isTrue_not (ha pins s σ H (λc H1=>Q (!c) H1) I h)
def FY(ta tb:TE):TE:=λσ H Q=>ta σ H λx H1=>∃c,x = .bl c/\if c=true then tb σ H1 Q else Q (.bl false) H1
def FZ(ta tb:TE):TE:=λσ H Q=>ta σ H λx H1=>∃c,x = .bl c/\if c=true then Q (.bl true) H1 else tb σ H1 Q
def F_(ta:TE):TE:=λσ H Q=>ta σ H λx H1=>∃c,x = .bl c/\Q (.bl (!c)) H1
theorem qg{op}{t:TE}(h:PE X a t):PE X (.BoolOp op [a] pos) t:=λpins s σ H Q I hw=>BoolOp_one (h pins s σ H Q I hw)
theorem tu(ha:PE X a ta)(hb:PE X (.BoolOp .And (b::rest) pos) tb):PE X (.BoolOp .And (a::b::rest) pos) (FY ta tb):=by
 intro pins s σ H Q I h;refine BoolOp_and (aW (ha pins s σ H _ I h) λv s1 ⟨x,H1,I1,r1,q1⟩=>?_);obtain⟨c,rfl,q1⟩:=q1;cases r1;refine qd ?_;cases c with
 | true=>exact hb pins s1 σ H1 Q I1 q1
 | false=>exact⟨.bl false,H1,I1,rfl,q1⟩
theorem Ga(ha:PE X a ta)(hb:PE X (.BoolOp .Or (b::rest) pos) tb):PE X (.BoolOp .Or (a::b::rest) pos) (FZ ta tb):=by
 intro pins s σ H Q I h;refine BoolOp_or (aW (ha pins s σ H _ I h) λv s1 ⟨x,H1,I1,r1,q1⟩=>?_);obtain⟨c,rfl,q1⟩:=q1;cases r1;refine qd ?_;cases c with
 | false=>exact hb pins s1 σ H1 Q I1 q1
 | true=>exact⟨.bl true,H1,I1,rfl,q1⟩
theorem abA(ha:PE X a ta):PE X (.UnaryOp .Not a pos) (F_ ta):=by
 intro pins s σ H Q I h;refine UnaryOp_ (aW (ha pins s σ H _ I h) λv s1 ⟨x,H1,I1,r1,q1⟩=>?_);obtain⟨c,rfl,q1⟩:=q1;cases r1;exact not_of (qd ⟨.bl (!c),H1,I1,rfl,q1⟩)
def Gb(t:TT)(ta tb:TE):TE:=λσ H Q=>t σ H λc H1=>if c=true then ta σ H1 Q else tb σ H1 Q
theorem abB{c:Expr}(hc:PT X c tA)(ha:PE X a ta)(hb:PE X b tb):PE X (.IfExp c a b pos) (Gb tA ta tb):=by
 intro pins s σ H Q I h;refine wpAny_IfExp (aW (hc pins s σ H _ I h) λd s1 ⟨H1,I1,q1⟩=>?_);cases d with
 | true=>exact ha pins s1 σ H1 Q I1 q1
 | false=>exact hb pins s1 σ H1 Q I1 q1
end
noncomputable def az(K:W.Frag)(H:Hp)(a:Addr)(xs:List V):Prop :=
 Rd H a (.lst xs)\/
  ∃(o:Obj) (aB:Array Value) (n:Nat),K.lookup a=some o/\o.cls = .type "list"/\o.dict=none/\o.data = .seq aB n/\aB.size<=sizeLine/\Vals xs aB.toList
noncomputable def aL(K:W.Frag)(H:Hp)(a:Addr)(xs:List V):Prop :=
 Rd H a (.tup xs)\/
  ∃(o:Obj) (aB:Array Value) (n:Nat),K.lookup a=some o/\o.cls = .type "tuple"/\o.data = .seq aB n/\aB.size<=sizeLine/\Vals xs aB.toList
noncomputable def abC:Value->Option V
 | .none=>some .aU
 | .bool b=>some (.bl b)
 | .int i _=>some (.int i)
 | .str x _=>some (.str x)
 | .bytes b _=>some (.iT b)
 | .float b _=>some (.oH b)
 | .ref a=>some (.ref a)
 | .type n=>some (.ty n)
 | _=>none
theorem RelV.abs{x:V}{u:Value}(r:RelV x u):abC u=some x:=by
 cases x with
 | aU=>cases r;rfl
 | bl _=>cases r;rfl
 | int _=>obtain⟨t,rfl⟩:=r;rfl
 | str _=>obtain⟨t,rfl⟩:=r;rfl
 | iT _=>obtain⟨t,rfl⟩:=r;rfl
 | oH _=>obtain⟨t,rfl⟩:=r;rfl
 | ref _=>cases r;rfl
 | ty _=>cases r;rfl
theorem RelV.inj{x y:V}{u:Value}(r:RelV x u)(q:RelV y u):x=y:=eN (r.abs.symm.trans q.abs)
theorem Vals.inj{xs ys:List V}{us:List Value}(h:Vals xs us):Vals ys us->xs=ys:=by
 induction h generalizing ys with
 | nil=>intro g;cases g;rfl
 | cons r t ih=>intro g;cases g with
  | cons r' t'=>rw[r.inj r',ih t']
section
variable{X:Cx}{pins:List (Addr×Obj)}{σ:St}{H:Hp}{s:Shared}{a:Addr}{xs ys:List V}
theorem az.of{K:W.Frag}(h:H a=some (.lst xs)):az K H a xs:=.inl (.inl h)
theorem aL.of{K:W.Frag}(h:H a=some (.tup xs)):aL K H a xs:=.inl (.inl h)
theorem Inv.list(I:Inv X pins σ H s)(h:az X.K H a xs):∃aB:List Value,Vals xs aB/\PlainL s.heap a aB.toArray/\xs.length<=sizeLine:=by
 rcases h with h | ⟨o,aB,n,hk,hc,hd,hs,hz,r⟩
 ·obtain⟨z,aB,n,r,e⟩:=h.ok I.aO;exact⟨aB,r,⟨_,n,e,rfl,rfl,rfl⟩,z⟩
 ·refine⟨aB.toList,r,⟨o,n,I.eV a o hk,hc,hd,by simpa using hs⟩,?_⟩
  have e:=r.length;simp only[Array.length_toList] at e;lia
theorem Inv.tuple(I:Inv X pins σ H s)(h:aL X.K H a xs):∃aB:List Value,Vals xs aB/\IsTup s.heap a aB.toArray/\xs.length<=sizeLine:=by
 rcases h with h | ⟨o,aB,n,hk,hc,hs,hz,r⟩
 ·obtain⟨z,aB,r,p⟩:=h.ok I.aO;exact⟨aB,r,p,z⟩
 ·refine⟨aB.toList,r,⟨o,I.eV a o hk,hc,n,by simpa using hs⟩,?_⟩
  have e:=r.length;simp only[Array.length_toList] at e;lia
theorem Inv.RT(I:Inv X pins σ H s)(h:az X.K H a xs)(h':az X.K H a ys):xs=ys:=by
 obtain⟨aB,r,⟨o,n,e,_,_,d⟩,_⟩:=I.list h;obtain⟨its',r',⟨o',n',e',_,_,d'⟩,_⟩:=I.list h';rw[e] at e';cases e';rw[d] at d';injection d' with d1 _;have:aB=its':=by simpa using fR Array.toList d1
 subst this;exact r.inj r'
theorem Inv.abD(I:Inv X pins σ H s)(h:aL X.K H a xs)(h':aL X.K H a ys):xs=ys:=by
 obtain⟨aB,r,⟨o,e,_,n,d⟩,_⟩:=I.tuple h;obtain⟨its',r',⟨o',e',_,n',d'⟩,_⟩:=I.tuple h';rw[e] at e';cases e';rw[d] at d';injection d' with d1 _;have:aB=its':=by simpa using fR Array.toList d1
 subst this;exact r.inj r'
end
noncomputable abbrev Cx.mY(X:Cx)(E:Value->Shared->Prop):Cx:={ X with xe:=E }
noncomputable abbrev Cx.rz(X:Cx):Cx:=X.mY λ_ _=>False
theorem Cx.Ok.mY{X:Cx}(ok:X.Ok)(E:Value->Shared->Prop):(X.mY E).Ok :=
 ⟨ok.mod,ok.kind,ok.glob,ok.blt,ok.above,ok.inj,ok.has,ok.vI,ok.hd,ok.frames,ok.yd,ok.yf,ok.bs,ok.iU,ok.vJ,ok.vK,ok.kP,ok.rm⟩
theorem Cx.Ok.rA{X:Cx}{E:Value->Shared->Prop}(ok:(X.mY E).Ok):X.Ok :=
 ⟨ok.mod,ok.kind,ok.glob,ok.blt,ok.above,ok.inj,ok.has,ok.vI,ok.hd,ok.frames,ok.yd,ok.yf,ok.bs,ok.iU,ok.vJ,ok.vK,ok.kP,ok.rm⟩
section
variable{X:Cx}{pins:List (Addr×Obj)}{σ:St}{H:Hp}{s:Shared}{E:Value->Shared->Prop}
theorem Inv.mY(I:Inv X pins σ H s)(E:Value->Shared->Prop):Inv (X.mY E) pins σ H s:=⟨I.ok.mY E,I.os,I.bare,I.base,I.loc,I.cell,I.free,I.mU,I.pin,I.aO,I.len⟩
theorem Inv.rA(I:Inv (X.mY E) pins σ H s):Inv X pins σ H s:=⟨I.ok.rA,I.os,I.bare,I.base,I.loc,I.cell,I.free,I.mU,I.pin,I.aO,I.len⟩
theorem SP.rA{D:Ends}{f:Flow}{s':Shared}(h:SP (X.mY E) pins D f s'):SP X pins D f s':=by
 cases f with
 | next=>obtain⟨bO,H',I,q⟩:=h;exact⟨bO,H',I.rA,q⟩
 | brk=>obtain⟨bO,H',I,q⟩:=h;exact⟨bO,H',I.rA,q⟩
 | cont=>obtain⟨bO,H',I,q⟩:=h;exact⟨bO,H',I.rA,q⟩
 | ret u=>obtain⟨v,bO,H',I,r,q⟩:=h;exact⟨v,bO,H',I.rA,r,q⟩
theorem h_.rz{st:List Stmt}{t:TS}(h:h_ X.rz st t):h_ X st t:=λpins s σ H D I hw =>
 iS (h pins s σ H D (I.mY _) hw) (λ_ _ q=>q.rA) λ_ _ z=>False.elim z
end
section
variable{X:Cx}{st:Stmt}{rest:List Stmt}{t u:TS}{e:Expr}{te:TE}{pos:Pos}
def Gd:TS:=λD σ H=>D.nx σ H
def Ge(t u:TS):TS:=λD σ H=>t { D with nx:=u D } σ H
theorem bZ:h_ X [] Gd:=λ_ _ σ H _ I h=>vE ⟨σ,H,I,h⟩
theorem aD(h1:PS X st t)(h2:h_ X rest u):h_ X (st::rest) (Ge t u):=by
 intro pins s σ H D I h;refine FG (aW (h1 pins s σ H { D with nx:=u D } I h) λf s1 q=>?_);cases f with
 | next =>
  obtain⟨bO,H',I',q⟩:=q;exact h2 pins s1 bO H' D I' q
 | ret v=>exact q
 | brk=>exact q
 | cont=>exact q
theorem aK(h1:PS X st t):h_ X [st] t:=by
 intro pins s σ H D I h;refine FG (aW (h1 pins s σ H D I h) λf s1 q=>?_);cases f with
 | next=>exact vE q
 | ret v=>exact q
 | brk=>exact q
 | cont=>exact q
theorem Inv.quiet{pins:List (Addr×Obj)}{σ:St}{H:Hp}{s:Shared}(I:Inv X pins σ H s):interactive X.env=false:=by simp[interactive,I.ok.kind]
def Gf(te:TE):TS:=λD σ H=>te σ H λ_ H1=>D.nx σ H1
theorem dP(he:PE X e te)(hs:swapsWith e none pos.line X.env=pure false:=by rfl):PS X (.Expr e pos) (Gf te):=by
 intro pins s σ H D I h;exact wpAny_Expr_any (aW (he pins s σ H _ I h) λv s1 ⟨x,H1,I1,r1,q1⟩=>⟨σ,H1,I1,q1⟩) I.quiet hs
def Gg(te:TE):TS:=λD σ H=>te σ H D.rt
theorem bG(he:PE X e te):PS X (.Return (some e) pos) (Gg te):=by
 intro pins s σ H D I h;exact wpAny_Return_some (aW (he pins s σ H _ I h) λv s1 ⟨x,H1,I1,r1,q1⟩=>⟨x,σ,H1,I1,r1,q1⟩)
def RU:TS:=λD _ H=>D.rt .aU H
def Gh(c:TT)(t u:TS):TS:=λD σ H=>c σ H λb H1=>if b=true then t D σ H1 else u D σ H1
theorem cU{c:Expr}{a b:List Stmt}{tc:TT}(hc:PT X c tc)(ha:h_ X a t)(hb:h_ X b u):PS X (.If c a b pos) (Gh tc t u):=by
 intro pins s σ H D I h;refine wpAny_If (aW (hc pins s σ H _ I h) λd s1 ⟨H1,I1,q1⟩=>?_);cases d with
 | true=>exact ha pins s1 σ H1 D I1 q1
 | false=>exact hb pins s1 σ H1 D I1 q1
def Gi:TS:=λ_ _ _=>False
theorem ia{sts:List Stmt}:h_ X sts Gi:=λ_ _ _ _ _ _ h=>h.elim
end
noncomputable abbrev TG:=V->St->Hp->(St->Hp->Prop)->Prop
noncomputable abbrev oN:=List V->St->Hp->(St->Hp->Prop)->Prop
noncomputable def PG(X:Cx)(target:Expr)(t:TG):Prop :=
 ∀(pins:List (Addr×Obj)) (s:Shared) (σ:St) (H:Hp) (v:V) (u:Value) (Q:St->Hp->Prop),Inv X pins σ H s->RelV v u->t v σ H Q->
  wpAny (model X.prog X.w) X.A (assign target X.env u) (λ_ s'=>∃bO H',Inv X pins bO H' s'/\Q bO H') X.xe s
noncomputable def vN(X:Cx)(ts:List Expr)(t:oN):Prop :=
 ∀(pins:List (Addr×Obj)) (s:Shared) (σ:St) (H:Hp) (vs:List V) (us:List Value) (Q:St->Hp->Prop),Inv X pins σ H s->Vals vs us->t vs σ H Q->
  wpAny (model X.prog X.w) X.A (assignInOrder ((assignEach ts X.env).map (·.2)) us) (λ_ s'=>∃bO H',Inv X pins bO H' s'/\Q bO H') X.xe s
noncomputable abbrev BR:=V->V->V->Hp->(Hp->Prop)->Prop
noncomputable def RV(X:Cx)(t:BR):Prop :=
 ∀(pins:List (Addr×Obj)) (s:Shared) (σ:St) (H:Hp) (o i v:V) (ov iv u:Value) (Q:Hp->Prop),Inv X pins σ H s->RelV o ov->RelV i iv->RelV v u->t o i v H Q->
  wpAny (model X.prog X.w) X.A (setItem ov iv u) (λ_ s'=>∃H',Inv X pins σ H' s'/\Q H') X.xe s
section
variable{X:Cx}{pos:Pos}
def rB(i:Nat):TG:=λv σ H Q=>Q (σ.set i (some v)) H
theorem bE{i:Nat}{x:Str}(hN:X.N.Nodup)(hi:X.N[i]? = some x)(hx:Loc X.env.scope x)(hf:X.fn x=true\/X.env.scope.names.lookup x=some .local:=by first | exact .inl rfl | exact .inr rfl | assumption):PG X (.Name x pos) (rB i):=by
 intro pins s σ H v u Q I r h;exact wpAny_assign_Name (RO I hN hi hx r (λs' I'=>⟨_,H,I',h⟩) hf)
noncomputable def BS:oN:=λvs σ H Q=>vs = []/\Q σ H
noncomputable def ym(t:TG)(u:oN):oN:=λvs σ H Q=>∃v r,vs=v::r/\t v σ H λbO H'=>u r bO H' Q
theorem jH:vN X [] BS:=by
 intro pins s σ H vs us Q I r h;obtain⟨e,h⟩:=h;subst e;cases r;exact assignInOrder_nil ⟨σ,H,I,h⟩
theorem dz{e:Expr}{es:List Expr}{t:TG}{u:oN}(h1:PG X e t)(h2:vN X es u)
  (hs:(assignEach (e::es) X.env).map (·.2)=assign e X.env::(assignEach es X.env).map (·.2):=by rfl):vN X (e::es) (ym t u):=by
 intro pins s σ H vs us Q I r h;obtain⟨v,vr,e1,h⟩:=h;subst e1;cases r with
 | cons r rr =>
  rw[hs];refine assignInOrder_cons (aW (h1 pins s σ H _ _ _ I r h) λ_ s1 ⟨iW,H1,I1,q1⟩=>?_);exact h2 pins s1 iW H1 _ _ Q I1 rr q1
def yp(K:W.Frag)(n:Nat)(t:oN):TG:=λv σ H Q=>∃a xs,v = .ref a/\aL K H a xs/\xs.length=n/\t xs σ H Q
theorem j_{es:List Expr}{k:Nat}{t:oN}{n:Nat}(hc:X.calm=true)(h:vN X es t)
  (hn:(assignEach es X.env).length=n:=by rfl) (gG:(assignEach es X.env).findIdx? (·.1)=none:=by rfl):PG X (.Tuple es k pos) (yp X.K n t):=by
 intro pins s σ H v u Q I r hw;obtain⟨a,xs,e1,hq,hl,hw⟩:=hw;subst e1;cases r;obtain⟨aB,rv,ht,hz⟩:=I.tuple hq;refine assign_Tuple_tuple (I.ok.hd hc) ht (by simp[hn,← hl,rv.length]) gG λh' hx=>?_
 have I1:Inv X pins σ H { s with heap:=h' }:=I.kept (t':=s.toks) λb o e=>hx b o (cR (cB e)) e;exact h pins _ σ H xs _ Q I1 (by simpa using rv) hw
def Gj(to ti:TE)(t:BR):TG:=λv σ H Q=>to σ H λo H1=>ti σ H1 λi H2=>t o i v H2 λH3=>Q σ H3
theorem yq{o i:Expr}{to ti:TE}{t:BR}(ho:PE X o to)(hi:PE X i ti)(hs:RV X t)
  (ha:∀v,assign (.Subscript o i pos) X.env v=(do
   let ov ← holding [v] (eval o X.env)
   let iv ← holding [v,ov] (eval i X.env)
   standAt pos
   holding [v,ov,iv] (setItem ov iv v)
   release [v,ov,iv] []):=by intro _;rfl):PG X (.Subscript o i pos) (Gj to ti t):=by
 intro pins s σ H v u Q I r h;rw[ha];refine aJ (mS (aW (ho pins s σ H _ I h) λov s1 ⟨x,H1,I1,r1,q1⟩=>?_));refine aJ (mS (aW (hi pins s1 σ H1 _ I1 q1) λiv s2 ⟨y,H2,I2,r2,q2⟩=>?_));refine aJ (wpAny_standAt (aJ (mS (aW (hs pins s2 σ H2 x y v ov iv u _ I2 r1 r2 r q2) λ_ s3 ⟨H3,I3,q3⟩=>?_))));exact wpAny_release ⟨σ,H3,I3,q3⟩
def yr(te:TE)(g:TG):TS:=λD σ H=>te σ H λx H1=>g x σ H1 D.nx
theorem tw{tg e:Expr}{te:TE}{g:TG}(he:PE X e te)(hg:PG X tg g)(hs:swapsWithSole [tg] e pos.line X.env=pure false:=by rfl)(hw:swappedStores [tg] e X.env=pure none:=by rfl)
  (h1:(assignEach [tg] X.env).map (·.2) = [assign tg X.env]:=by rfl):PS X (.Assign [tg] e pos) (yr te g):=by
 intro pins s σ H D I h;refine wpAny_Assign_stores (aW (he pins s σ H _ I h) λv s1 ⟨x,H1,I1,r1,q1⟩=>?_) hs hw;rw[h1];exact aW (hg pins s1 σ H1 x v _ I1 r1 q1) λ_ s2 q=>q
theorem aR{i:Nat}{x:Str}{e:Expr}{te:TE}{pos':Pos}(hN:X.N.Nodup)(hi:X.N[i]? = some x)(hx:Loc X.env.scope x)(he:PE X e te)(hs:swapsWith e (some (.Name x pos')) pos.line X.env=pure false:=by rfl)(hf:X.fn x=true\/X.env.scope.names.lookup x=some .local:=by first | exact .inl rfl | exact .inr rfl | assumption) :
  PS X (.Assign [.Name x pos'] e pos) (yr te (rB i)):=by
 intro pins s σ H D I h;refine wpAny_Assign_Name (aW (he pins s σ H _ I h) λv s1 ⟨y,H1,I1,r1,q1⟩=>?_) hs;exact RO I1 hN hi hx r1 (λs2 I2=>⟨_,H1,I2,q1⟩) hf
end
section
variable{X:Cx}{pos:Pos}
def abE(c:TT)(tb:TS):TS:=λD σ H=>∃W:Nat->St->Hp->Prop,(∃m,W m σ H)/\∀m σ H,W m σ H->
 c σ H λb H1=>if b=true then ∃N:St->Hp->Prop,(∀bO H',N bO H'->∃m',m' < m/\W m' bO H')/\tb { D with nx:=N,ct:=N,bk:=D.nx } σ H1 else D.nx σ H1
theorem Gk{c:Expr}{body:List Stmt}{tc:TT}{tb:TS}(hp:PassesOwn (model X.prog X.w) X.A X.env X.xe)(hc:PT X c tc)(hb:h_ X body tb):PS X (.While c body [] pos) (abE tc tb):=by
 intro pins s σ H D I h;obtain⟨W,⟨m0,w0⟩,turn⟩:=h;refine wpAny_While (codeAny_whileLoop (λn s'=>∃bO H',Inv X pins bO H' s'/\W n bO H') ?_ m0 ⟨σ,H,I,w0⟩);rintro n s1 ⟨iW,H1,I1,w1⟩;refine sW hp (aW (hc pins s1 iW H1 _ I1 (turn n iW H1 w1)) λb s2 ⟨H2,I2,q2⟩=>?_);cases b with
 | true =>
  obtain⟨N,hN,q2⟩:=q2;rw[if_pos rfl];refine sW hp (aW (hb pins s2 iW H2 _ I2 q2) λf s3 q3=>?_);cases f with
  | next =>
   obtain⟨fG,H3,I3,n3⟩:=q3;obtain⟨m',hm,w3⟩:=hN fG H3 n3;exact⟨m',hm,fG,H3,I3,w3⟩
  | cont =>
   obtain⟨fG,H3,I3,n3⟩:=q3;obtain⟨m',hm,w3⟩:=hN fG H3 n3;exact⟨m',hm,fG,H3,I3,w3⟩
  | brk=>exact q3
  | ret v=>exact q3
 | false =>
  rw[if_neg eU];exact vE ⟨iW,H2,I2,q2⟩
end
structure It where
 go:Nat->Hp->Prop
 qh:Nat->Hp->V->Hp->Prop
 stop:Nat->Hp->Prop
noncomputable def oO(X:Cx)(pins:List (Addr×Obj))(H:Hp)(b:Addr):Prop :=
 H b=none/\b≠X.env.locals/\b∉X.fs/\(b∈X.ex\/X.eg.heap.objs.size<=b)/\(∀x c,X.env.cells.lookup x=some c->c≠b)/\∀p∈X.pn++pins,p.1≠b
theorem Inv.tD{X:Cx}{pins:List (Addr×Obj)}{σ:St}{H H':Hp}{s:Shared}{b:Addr}(I:Inv X pins σ H s)(hb:s.heap.objs.size<=b)(hn:H' b=none):oO X pins H' b:=by
 refine⟨hn,oF (gW I.lt hb),I.yg hb,.inr (cQ I.sz hb),λx c e z=>?_,λp hp z=>?_⟩
 ·obtain⟨v,q⟩:=I.cell x c e;exact absurd (gW q.lt (by rw[z];exact hb)) (lF _)
 ·exact absurd (gW (cB (I.pin p hp).1) (by rw[z];exact hb)) (lF _)
structure Turn(P:Program)(w:World)(K:W.Frag)(tg:Expr)(J:It)(fp:List Addr)(it:Addr)(tn:Nat->Heap->Prop):Prop where
 mem:it∈fp
 obj:∀i h,tn i h->∀b∈fp,∃o,h.get? b=some o/\∀v,o.data≠.cell v
 keep:∀i h h',tn i h->(∀b∈fp,∀o,h.get? b=some o->h'.get? b=some o)->tn i h'
 item:∀(X:Cx),X.prog=P->X.w=w->X.K=K->X.calm=true->∀(i:Nat) (pins:List (Addr×Obj)) (s:Shared) (σ:St) (H:Hp) (E:Value->Shared->Prop),Inv X pins σ H s->(∀b∈fp,oO X pins H b)->tn i s.heap->J.go i H->
  wpAny (model P w) X.A (pyNext (.ref it)) (λr s1=>∃u,r=some u/\
   wpAny (model P w) X.A (letOwnedTupleGo tg (.ref it) u) (λ_ s2=>∃x H',Inv X pins σ H' s2/\RelV x u/\J.qh i H x H'/\tn (i+1) s2.heap/\∀b∈fp,H' b=none) E s1) E s
 done:∀(X:Cx),X.prog=P->X.w=w->X.K=K->X.calm=true->∀(i:Nat) (pins:List (Addr×Obj)) (s:Shared) (σ:St) (H:Hp) (E:Value->Shared->Prop),Inv X pins σ H s->(∀b∈fp,oO X pins H b)->tn i s.heap->J.stop i H->
  wpAny (model P w) X.A (pyNext (.ref it)) (λr s1=>r=none/\Inv X pins σ H s1) E s
 self:∀(A:Around) (i:Nat) (s:Shared) (Q:Value->Shared->Prop) (E:Value->Shared->Prop),tn i s.heap->Q (.ref it) s->wpAny (model P w) A (pyIter (.ref it)) Q E s
noncomputable abbrev TI:=St->Hp->(It->Hp->Prop)->Prop
noncomputable def RW(X:Cx)(pins:List (Addr×Obj))(σ:St)(tg:Expr)(R:It->Hp->Prop)(BU:Value)(s2:Shared):Prop :=
 ∃(it:Addr) (fp:List Addr) (tn:Nat->Heap->Prop) (J:It) (H':Hp),BU = .ref it/\Inv X pins σ H' s2/\Turn X.prog X.w X.K tg J fp it tn/\tn 0 s2.heap/\(∀b∈fp,oO X pins H' b)/\R J H'
noncomputable def PI(X:Cx)(tg iter:Expr)(wi:TI):Prop :=
 ∀(pins:List (Addr×Obj)) (s:Shared) (σ:St) (H:Hp) (R:It->Hp->Prop),Inv X pins σ H s->wi σ H R->
  wpAny (model X.prog X.w) X.A (eval iter X.env) (λv s1=>wpAny (model X.prog X.w) X.A (pyIter v) (RW X pins σ tg R) X.xe s1) X.xe s
theorem Gm{M:Model}{A:Around}{E:Value->Shared->Prop}{s:Shared}{tg:Expr}{it:Addr}{u:Value}{o:Obj}{n:String}{vs:Array Value}{Q:Unit->Shared->Prop}(ho:s.heap.get? it=some o)(hc:o.cls = .type n)(hd:o.data = .fields vs)
  (hn:["enumerate", "zip", "dict_itemiterator", "dict_reverseitemiterator", "odict_iterator", "itertools.zip_longest", "itertools.pairwise"].contains n=false) (hQ:Q () s):wpAny M A (letOwnedTupleGo tg (.ref it) u) Q E s:=by
 unfold letOwnedTupleGo;cases tg <;> first
  | exact bq hQ
  | (cases u <;> first
    | exact bq hQ
    | (refine aJ (wpAny_load ho ?_)
       rw[hc,hd]
       show wpAny M A (if (["enumerate", "zip", "dict_itemiterator", "dict_reverseitemiterator", "odict_iterator", "itertools.zip_longest", "itertools.pairwise"].contains n && vs[0]? == some (rawInt _))=true then _ else _) Q E s
       rw[if_neg (by intro h;rw[hn,Bool.false_and] at h;cases h)]
       exact bq hQ))
noncomputable def rC(K:W.Frag)(a:Addr):It :=
 ⟨λi H=>∃xs x,az K H a xs/\xs[i]? = some x,λi H x H'=>H' = H/\∀xs,az K H a xs->xs[i]? = some x,λi H=>∃xs,az K H a xs/\xs.length<=i⟩
noncomputable def yt(K:W.Frag)(a:Addr):It :=
 ⟨λi H=>∃xs x,aL K H a xs/\xs[i]? = some x,λi H x H'=>H' = H/\∀xs,aL K H a xs->xs[i]? = some x,λi H=>∃xs,aL K H a xs/\xs.length<=i⟩
noncomputable def tE(lo:Int)(n:Nat):It:=⟨λi _=>i<n,λi H x H'=>H' = H/\x = .int (lo+i),λi _=>n<=i⟩
theorem abF{P:Program}{w:World}{K:W.Frag}{tg:Expr}(a it:Addr):Turn P w K tg (rC K a) [it] it (λi h=>h.IsListIter it a i) where
 mem:=by simp
 obj:=λi h st b hb=>by
  have e:b=it:=by simpa using hb
  subst e;obtain⟨o,e,c,d⟩:=st;exact⟨o,e,λv z=>by rw[d] at z;cases z⟩
 keep:=λi h h' st k=>st.at λo e=>k it (by simp) o e
 item:=by
  intro X hP hw hK hc i pins s σ H E I hf st hg;subst hP hw hK;obtain⟨xs,x,hq,hx⟩:=hg;obtain⟨aB,rv,p,hz⟩:=I.list hq;obtain⟨u,hu,ru⟩:=rv.get hx;obtain⟨f0,f1,f2,f3,f4,f5⟩:=hf it (by simp)
  refine wpAny_pyNext_list_item st p.isList (x:=u) (by simpa using hu) λh' cy sb=>?_
  have I1:Inv X pins σ H { s with heap:=h' }:=I.turned (t':=s.toks) (λb o hb e=>(sb.2 b hb).trans e) f0 f1 f3 f4 f5;obtain⟨o,e,c,d⟩:=id cy;exact⟨u,rfl,Gm (s:={ s with heap:=h' }) e c d ⋯ ⟨x,H,I1,ru,⟨rfl,λys hy=>by rw[I.RT hy hq];exact hx⟩,cy,λb hb=>(hf b hb).1⟩⟩
 done:=by
  intro X hP hw hK hc i pins s σ H E I hf st hg;subst hP hw hK;obtain⟨xs,hq,hx⟩:=hg;obtain⟨aB,rv,p,hz⟩:=I.list hq;obtain⟨f0,f1,f2,f3,f4,f5⟩:=hf it (by simp)
  have hl:=rv.length;exact wpAny_pyNext_list_end (I.ok.hd hc) st p.isList (by simp;lia) λh' eb=>⟨rfl,I.turned (t':=s.toks) (λb o hb e=>eb b o hb e) f0 f1 f3 f4 f5⟩
 self:=λ_ _ _ _ _ st h=>wpAny_pyIter_listiter st h
theorem abG{P:Program}{w:World}{K:W.Frag}{tg:Expr}(a it:Addr):Turn P w K tg (yt K a) [it] it (λi h=>h.IsTupleIter it a i) where
 mem:=by simp
 obj:=λi h st b hb=>by
  have e:b=it:=by simpa using hb
  subst e;obtain⟨o,e,c,d⟩:=st;exact⟨o,e,λv z=>by rw[d] at z;cases z⟩
 keep:=λi h h' st k=>st.at λo e=>k it (by simp) o e
 item:=by
  intro X hP hw hK hc i pins s σ H E I hf st hg;subst hP hw hK;obtain⟨xs,x,hq,hx⟩:=hg;obtain⟨aB,rv,p,hz⟩:=I.tuple hq;obtain⟨u,hu,ru⟩:=rv.get hx;obtain⟨f0,f1,f2,f3,f4,f5⟩:=hf it (by simp)
  refine wpAny_pyNext_tuple_item st (show s.heap.IsTuple a aB.toArray from p) (x:=u) (by simpa using hu) λh' cy sb=>?_
  have I1:Inv X pins σ H { s with heap:=h' }:=I.turned (t':=s.toks) (λb o hb e=>(sb.2 b hb).trans e) f0 f1 f3 f4 f5;obtain⟨o,e,c,d⟩:=id cy;exact⟨u,rfl,Gm (s:={ s with heap:=h' }) e c d ⋯ ⟨x,H,I1,ru,⟨rfl,λys hy=>by rw[I.abD hy hq];exact hx⟩,cy,λb hb=>(hf b hb).1⟩⟩
 done:=by
  intro X hP hw hK hc i pins s σ H E I hf st hg;subst hP hw hK;obtain⟨xs,hq,hx⟩:=hg;obtain⟨aB,rv,p,hz⟩:=I.tuple hq;obtain⟨f0,f1,f2,f3,f4,f5⟩:=hf it (by simp)
  have hl:=rv.length;exact wpAny_pyNext_tuple_end (I.ok.hd hc) st (show s.heap.IsTuple a aB.toArray from p) (by simp;lia) λh' eb=>⟨rfl,I.turned (t':=s.toks) (λb o hb e=>eb b o hb e) f0 f1 f3 f4 f5⟩
 self:=λ_ _ _ _ _ st h=>wpAny_pyIter_tupleiter st h
theorem abH{P:Program}{w:World}{K:W.Frag}{tg:Expr}(it:Addr)(lo:Int)(n:Nat):Turn P w K tg (tE lo n) [it] it (λi h=>IsRangeIter h it (lo+(i:Nat)*1) ((n:Int) - (i:Nat)) 1) where
 mem:=by simp
 obj:=λi h st b hb=>by
  have e:b=it:=by simpa using hb
  subst e;exact⟨_,st,λv z=>by
   have z':Data.fields _=Data.cell v:=z;cases z'⟩
 keep:=λi h h' st k=>k it (by simp) _ st
 item:=by
  intro X hP hw hK hc i pins s σ H E I hf st hg;subst hP hw hK;obtain⟨f0,f1,f2,f3,f4,f5⟩:=hf it (by simp)
  have W:=Walks.range (prog:=X.prog) (w:=X.w) (I.ok.hd hc) it lo 1 n;refine W.item i s _ _ hg st λv h' tk hv cy kk=>?_;obtain⟨t,rfl⟩:=hv;have I1:Inv X pins σ H { s with heap:=h',toks:=tk }:=I.turned (λb o hb e=>kk b o (by simpa using hb) e) f0 f1 f3 f4 f5
  refine⟨_,rfl,Gm (s:={ s with heap:=h',toks:=tk }) (n := "range_iterator") cy rfl rfl ⋯ ⟨.int (lo+i),H,I1,⟨t,?_⟩,⟨rfl,rfl⟩,cy,λb hb=>(hf b hb).1⟩⟩
  rw[Int.mul_one]
 done:=by
  intro X hP hw hK hc i pins s σ H E I hf st hg;subst hP hw hK;obtain⟨f0,f1,f2,f3,f4,f5⟩:=hf it (by simp)
  exact wpAny_pyNext_range_end (I.ok.hd hc) st (by have:n<=i:=hg;lia) λh' eb=>⟨rfl,I.turned (t':=s.toks) (λb o hb e=>eb b o hb e) f0 f1 f3 f4 f5⟩
 self:=λ_ _ _ _ _ st h=>wpAny_pyIter_rangeiter st h
section
variable{X:Cx}{tg:Expr}
def qi(K:W.Frag)(tl:TE):TI:=λσ H R=>tl σ H λx H1=>∃a,x = .ref a/\(∃xs,az K H1 a xs)/\R (rC K a) H1
def Gn(K:W.Frag)(tl:TE):TI:=λσ H R=>tl σ H λx H1=>∃a,x = .ref a/\(∃xs,aL K H1 a xs)/\R (yt K a) H1
theorem c_{l:Expr}{tl:TE}(hl:PE X l tl):PI X tg l (qi X.K tl):=by
 intro pins s σ H R I h;refine aW (hl pins s σ H _ I h) λv s1 ⟨x,H1,I1,r1,q1⟩=>?_;obtain⟨a,e,⟨xs,hq⟩,q⟩:=q1;subst e;cases r1;obtain⟨aB,rv,p,hz⟩:=I1.list hq;refine FI p.isList ?_;refine⟨s1.heap.objs.size,[s1.heap.objs.size],_,_,H1,rfl,I1.kept (t':=s1.toks) λb o e=>cK _ e,abF a _,⟨_,fM _ rfl,rfl,rfl⟩,λb hb=>?_,q⟩;have e:b=s1.heap.objs.size:=by simpa using hb
 subst e;exact I1.tD (bu _) (I1.aO.fresh (bu _))
theorem Gp{l:Expr}{tl:TE}(hl:PE X l tl):PI X tg l (Gn X.K tl):=by
 intro pins s σ H R I h;refine aW (hl pins s σ H _ I h) λv s1 ⟨x,H1,I1,r1,q1⟩=>?_;obtain⟨a,e,⟨xs,hq⟩,q⟩:=q1;subst e;cases r1;obtain⟨aB,rv,p,hz⟩:=I1.tuple hq;refine wpAny_pyIter_tuple (show s1.heap.IsTuple a aB.toArray from p) ?_;refine⟨s1.heap.objs.size,[s1.heap.objs.size],_,_,H1,rfl,I1.kept (t':=s1.toks) λb o e=>cK _ e,abG a _,⟨_,fM _ rfl,rfl,rfl⟩,λb hb=>?_,q⟩;have e:b=s1.heap.objs.size:=by simpa using hb
 subst e;exact I1.tD (bu _) (I1.aO.fresh (bu _))
theorem RX{pins:List (Addr×Obj)}{σ:St}{H:Hp}{s:Shared}{R:It->Hp->Prop}{E:Value->Shared->Prop}{lo hi:Int}{t u v:Tok}{tk:Nat}(I:Inv X pins σ H s)(h1 : -(2 ^ 62)<=lo)(h2:lo<2 ^ 62)(h3 : -(2 ^ 62)<=hi)(h4:hi<2 ^ 62)
  (q:R (tE lo (hi - lo).toNat) H):wpAny (model X.prog X.w) X.A (pyIter (.ref s.heap.objs.size)) (RW X pins σ tg R) E { s with heap:=s.heap.push { cls:=.type "range",data:=.fields #[.int lo t,.int hi u,.int 1 v] },toks:=tk }:=by
 refine wpAny_pyIter_range (IsRange.new ..) (small_one h1 h2 h3 h4) ?_;have I1:Inv X pins σ H { s with heap:=s.heap.push { cls:=.type "range",data:=.fields #[.int lo t,.int hi u,.int 1 v] },toks:=tk }:=I.kept λb o e=>cK _ e;refine⟨(s.heap.push { cls:=.type "range",data:=.fields #[.int lo t,.int hi u,.int 1 v] }).objs.size,[(s.heap.push { cls:=.type "range",data:=.fields #[.int lo t,.int hi u,.int 1 v] }).objs.size],_,_,H,rfl,
  I1.kept (t':=tk) λb o e=>cK _ e,abH _ lo (hi - lo).toNat,?_,λb hb=>?_,q⟩
 ·have e1:lo+((0:Nat):Int)*1=lo:=by simp
  have e2:(((hi - lo).toNat:Nat):Int) - ((0:Nat):Int)=Builtin.Range.rangeSize lo hi 1:=by rw[rangeSize_one];split <;> lia
  show IsRangeIter _ _ (lo+((0:Nat):Int)*1) ((((hi - lo).toNat:Nat):Int) - ((0:Nat):Int)) 1;rw[e1,e2];exact fM _ rfl
 ·have e:b=(s.heap.push { cls:=.type "range",data:=.fields #[.int lo t,.int hi u,.int 1 v] }).objs.size:=by simpa using hb
  subst e;exact I1.tD (bu _) (I1.aO.fresh (bu _))
def yu(ta:TA):TI:=λσ H R=>ta σ H λvs H1=>∃j:Int,vs = [.int j]/\-(2 ^ 62)<=j/\j<2 ^ 62/\R (tE 0 j.toNat) H1
def yw(ta:TA):TI:=λσ H R=>ta σ H λvs H1=>∃i j:Int,vs = [.int i,.int j]/\(-(2 ^ 62)<=i/\i<2 ^ 62/\-(2 ^ 62)<=j/\j<2 ^ 62)/\R (tE i (j - i).toNat) H1
theorem lJ{a:Expr}{ta:TA}{p pos:Pos}(hg:Gl X "range")(hm:X.mg "range" = none)(ha:PA X [a] ta)(hs:starEach [a] X.env = [(false,eval a X.env)]:=by rfl):PI X tg (.Call (.Name "range" p) [a] [] pos) (yu ta):=by
 intro pins s σ H R I h;refine Call_ (oM I hg hm boot_range (vt (aW (ha pos pins s σ H _ I h) λus s1 ⟨vs,H1,I1,r1,q1⟩=>?_) hs rfl));obtain⟨j,e,q1,q2,q⟩:=q1;subst e;cases r1 with
 | cons r rr =>
  cases rr;obtain⟨t,rfl⟩:=r;exact call_range_1 (RX I1 ∅ ∅ q1 q2 (by simpa using q))
theorem tF{a b:Expr}{ta:TA}{p pos:Pos}(hg:Gl X "range")(hm:X.mg "range" = none)(ha:PA X [a,b] ta)(hs:starEach [a,b] X.env = [(false,eval a X.env),(false,eval b X.env)]:=by rfl)(mZ:starEach [b] X.env = [(false,eval b X.env)]:=by rfl) :
  PI X tg (.Call (.Name "range" p) [a,b] [] pos) (yw ta):=by
 intro pins s σ H R I h;refine Call_ (oM I hg hm boot_range (vt (aW (ha pos pins s σ H _ I h) λus s1 ⟨vs,H1,I1,r1,q1⟩=>?_) (by rw[hs,mZ]) (by rw[mZ];rfl)))
 obtain⟨i,j,e,⟨q1,q2,q3,q4⟩,q⟩:=q1;subst e;cases r1 with
 | cons r rr =>
  cases rr with
  | cons r' rr =>
   cases rr;obtain⟨t,rfl⟩:=r;obtain⟨t',rfl⟩:=r';exact call_range_2 (RX I1 q1 q2 q3 q4 q)
def lK(wi:TI)(g:TG)(tb:TS):TS:=λD σ H=>wi σ H λJ H1=>∃W:Nat->Nat->St->Hp->Prop,(∃m,W 0 m σ H1)/\∀i m σ H,W i m σ H->
 (J.stop i H/\D.nx σ H)\/(J.go i H/\∃N:St->Hp->Prop,(∀bO H',N bO H'->∃m',m' < m/\W (i+1) m' bO H')/\∀x H',J.qh i H x H'->g x σ H' λaC H2=>tb { D with nx:=N,ct:=N,bk:=D.nx } aC H2)
noncomputable def yx(fp:List Addr)(h:Heap):List (Addr×Obj):=fp.filterMap λb=>(h.get? b).map λo=>(b,o)
theorem BV{fp:List Addr}{h:Heap}{b:Addr}{o:Obj}(hb:b∈fp)(e:h.get? b=some o):(b,o)∈yx fp h:=Be.mpr ⟨b,hb,by rw[e];rfl⟩
theorem abI{fp:List Addr}{h:Heap}{p:Addr×Obj}(hp:p∈yx fp h):p.1∈fp/\h.get? p.1=some p.2:=by
 obtain⟨b,hb,e⟩:=Be.mp hp;cases q:h.get? b with
 | none=>rw[q] at e;cases e
 | some o =>
  rw[q] at e;have e':(b,o)=p:=eN e;subst e';exact⟨hb,q⟩
theorem Inv.pinned{pins:List (Addr×Obj)}{σ:St}{H:Hp}{s:Shared}{fp:List Addr}(I:Inv X pins σ H s)(hf:∀b∈fp,oO X pins H b)(ho:∀b∈fp,∃o,s.heap.get? b=some o/\∀v,o.data≠.cell v):Inv X (pins++yx fp s.heap) σ H s :=
 I.oK λp hp=>(fE.mp hp).elim (λz=>I.pin p (fc _ z)) λz=>by
  obtain⟨hb,e⟩:=abI z;obtain⟨f0,f1,f2,_⟩:=hf p.1 hb;obtain⟨o,e',d⟩:=ho p.1 hb;rw[e] at e';cases e';exact⟨e,f0,f1,f2,d⟩
theorem Inv.yy{pins pl:List (Addr×Obj)}{σ:St}{H:Hp}{s:Shared}(I:Inv X (pins++pl) σ H s):Inv X pins σ H s:=I.oK λp hp=>I.pin p (fc _ (p8 _ hp))
theorem cV{iter:Expr}{body:List Stmt}{wi:TI}{g:TG}{tb:TS}{pos:Pos}(hp:PassesOwn (model X.prog X.w) X.A X.env X.xe)(hc:X.calm=true)(hi:PI X tg iter wi)(hg:PG X tg g)(hb:h_ X body tb)
  (hs:∀x,foldedSetIterable iter X.env x=pure x:=by intro _;rfl):PS X (.For tg iter body [] pos) (lK wi g tb):=by
 intro pins s σ H D I h;refine wpAny_For (aW (hi pins s σ H _ I h) λv s1 h1=>aW h1 λBU s2 h2=>?_) hs;obtain⟨it,fp,tn,J,H2,e,I2,T,b7,f2,W,⟨m0,w0⟩,turn⟩:=h2;subst e
 -- what stays true of the iterator's objects through the loop
 have tG:∀ {H':Hp},(∀b∈fp,H' b=none)->∀b∈fp,oO X pins H' b:=λhn b hb=>⟨hn b hb,(f2 b hb).2⟩;refine codeAny_forLoop_any (λn s'=>∃i bO H',Inv X pins bO H' s'/\tn i s'.heap/\(∀b∈fp,H' b=none)/\W i n bO H') ?_ m0 ⟨0,σ,H2,I2,b7,λb hb=>(f2 b hb).1,w0⟩;rintro n s3 ⟨i,fG,H3,I3,vO,tH,w3⟩;rcases turn i n fG H3 w3 with⟨stop,qn⟩ | ⟨go,N,hN,step⟩
 ·refine sW hp (aW (T.done X rfl rfl rfl hc i pins s3 fG H3 X.xe I3 (tG tH) vO stop) λr s4 ⟨hr,I4⟩=>?_);subst hr;exact vE ⟨fG,H3,I4,qn⟩
 ·refine sW hp (aW (T.item X rfl rfl rfl hc i pins s3 fG H3 X.xe I3 (tG tH) vO go) λr s4 ⟨u,hr,h4⟩=>?_);subst hr;refine sW hp (aW h4 λ_ s5 ⟨x,H5,I5,r5,zz⟩=>?_);obtain⟨y5,tK,Gq⟩:=zz;have Gr:=I5.pinned (tG Gq) (T.obj _ _ tK);refine sW hp (aW (hg _ s5 fG H5 x u _ Gr r5 (step x H5 y5)) λ_ s6 ⟨rD,H6,I6,q6⟩=>?_);refine sW hp (aW (hb _ s6 rD H6 _ I6 q6) λf s7 q7=>?_);have again:∀ {kg:St} {H7:Hp},Inv X (pins++yx fp s5.heap) kg H7 s7->N kg H7->∃m,m<n/\∃i bO H',Inv X pins bO H' s7/\tn i s7.heap/\(∀b∈fp,H' b=none)/\W i m bO H':=λ{kg H7} I7 n7=>by
   obtain⟨m',hm,w7⟩:=hN kg H7 n7;refine⟨m',hm,i+1,kg,H7,I7.yy,T.keep _ _ _ tK λb hb o e=>(I7.pin (b,o) (fc _ (fc _ (BV hb e)))).1,λb hb=>?_,w7⟩;obtain⟨o,e,d⟩:=T.obj _ _ tK b hb;exact(I7.pin (b,o) (fc _ (fc _ (BV hb e)))).2.1
  cases f with
  | next=>obtain⟨kg,H7,I7,n7⟩:=q7;exact again I7 n7
  | cont=>obtain⟨kg,H7,I7,n7⟩:=q7;exact again I7 n7
  | brk=>obtain⟨kg,H7,I7,q7⟩:=q7;exact⟨kg,H7,I7.yy,q7⟩
  | ret v=>obtain⟨x7,kg,H7,I7,r7,q7⟩:=q7;exact⟨x7,kg,H7,I7.yy,r7,q7⟩
end
theorem RY{K:W.Frag}{a:Addr}{xs:List V}{g:TG}{tb:TS}{D:Ends}{σ:St}{H:Hp}(Pv:Nat->St->Hp->Prop)(h0:Pv 0 σ H)(hl:∀i σ H,i<=xs.length->Pv i σ H->az K H a xs)
  (hs:∀i x σ H,xs[i]? = some x->Pv i σ H->g x σ H λaC H2=>tb { D with nx:=Pv (i+1),ct:=Pv (i+1),bk:=D.nx } aC H2) (hd:∀σ H,Pv xs.length σ H->D.nx σ H) :
  ∃W:Nat->Nat->St->Hp->Prop,(∃m,W 0 m σ H)/\∀i m σ H,W i m σ H->
   ((rC K a).stop i H/\D.nx σ H)\/((rC K a).go i H/\∃N:St->Hp->Prop,(∀bO H',N bO H'->∃m',m' < m/\W (i+1) m' bO H')/\∀x H',(rC K a).qh i H x H'->g x σ H' λaC H2=>tb { D with nx:=N,ct:=N,bk:=D.nx } aC H2):=by
 refine⟨λi m σ H=>m=xs.length - i/\i<=xs.length/\Pv i σ H,⟨xs.length,by simp,eL _,h0⟩,?_⟩
 rintro i m σ H ⟨rfl,hi,p⟩;have q:=hl i σ H hi p;by_cases cE:i<xs.length
 ·refine .inr ⟨⟨xs,xs[i],q,by simp[cE]⟩,Pv (i+1),λbO H' p'=>⟨xs.length - (i+1),∅,rfl,cE,p'⟩,λx H' y=>?_⟩
  obtain⟨e,y⟩:=y;subst e;exact hs i x σ _ (y xs q) p
 ·have e:i=xs.length:=by lia
  subst e;exact .inl ⟨⟨xs,q,bu _⟩,hd σ H p⟩
theorem abJ{K:W.Frag}{a:Addr}{xs:List V}{g:TG}{tb:TS}{D:Ends}{σ:St}{H:Hp}(Pv:Nat->St->Hp->Prop)(h0:Pv 0 σ H)(hl:∀i σ H,i<=xs.length->Pv i σ H->aL K H a xs)
  (hs:∀i x σ H,xs[i]? = some x->Pv i σ H->g x σ H λaC H2=>tb { D with nx:=Pv (i+1),ct:=Pv (i+1),bk:=D.nx } aC H2) (hd:∀σ H,Pv xs.length σ H->D.nx σ H) :
  ∃W:Nat->Nat->St->Hp->Prop,(∃m,W 0 m σ H)/\∀i m σ H,W i m σ H->
   ((yt K a).stop i H/\D.nx σ H)\/((yt K a).go i H/\∃N:St->Hp->Prop,(∀bO H',N bO H'->∃m',m' < m/\W (i+1) m' bO H')/\∀x H',(yt K a).qh i H x H'->g x σ H' λaC H2=>tb { D with nx:=N,ct:=N,bk:=D.nx } aC H2):=by
 refine⟨λi m σ H=>m=xs.length - i/\i<=xs.length/\Pv i σ H,⟨xs.length,by simp,eL _,h0⟩,?_⟩
 rintro i m σ H ⟨rfl,hi,p⟩;have q:=hl i σ H hi p;by_cases cE:i<xs.length
 ·refine .inr ⟨⟨xs,xs[i],q,by simp[cE]⟩,Pv (i+1),λbO H' p'=>⟨xs.length - (i+1),∅,rfl,cE,p'⟩,λx H' y=>?_⟩
  obtain⟨e,y⟩:=y;subst e;exact hs i x σ _ (y xs q) p
 ·have e:i=xs.length:=by lia
  subst e;exact .inl ⟨⟨xs,q,bu _⟩,hd σ H p⟩
theorem Gs{lo:Int}{n:Nat}{g:TG}{tb:TS}{D:Ends}{σ:St}{H:Hp}(Pv:Nat->St->Hp->Prop)(h0:Pv 0 σ H)
  (hs:∀i σ H,i<n->Pv i σ H->g (.int (lo+i)) σ H λaC H2=>tb { D with nx:=Pv (i+1),ct:=Pv (i+1),bk:=D.nx } aC H2) (hd:∀σ H,Pv n σ H->D.nx σ H) :
  ∃W:Nat->Nat->St->Hp->Prop,(∃m,W 0 m σ H)/\∀i m σ H,W i m σ H->
   ((tE lo n).stop i H/\D.nx σ H)\/((tE lo n).go i H/\∃N:St->Hp->Prop,(∀bO H',N bO H'->∃m',m' < m/\W (i+1) m' bO H')/\∀x H',(tE lo n).qh i H x H'->g x σ H' λaC H2=>tb { D with nx:=N,ct:=N,bk:=D.nx } aC H2):=by
 refine⟨λi m σ H=>m=n - i/\i<=n/\Pv i σ H,⟨n,by simp,eL _,h0⟩,?_⟩
 rintro i m σ H ⟨rfl,hi,p⟩;by_cases cE:i<n
 ·refine .inr ⟨cE,Pv (i+1),λbO H' p'=>⟨n - (i+1),∅,rfl,cE,p'⟩,λx H' y=>?_⟩
  obtain⟨e,y⟩:=y;subst e y;exact hs i σ _ cE p
 ·have e:i=n:=by lia
  subst e;exact .inl ⟨bu _,hd σ H p⟩
noncomputable abbrev R2:=V->V->Hp->VK->Prop
noncomputable def cC(X:Cx)(f:Value->Value->Sem Value)(r:R2):Prop :=
 ∀(pins:List (Addr×Obj)) (s:Shared) (σ:St) (H:Hp) (x y:V) (v u:Value) (Q:VK),Inv X pins σ H s->RelV x v->RelV y u->r x y H Q->
  wpAny (model X.prog X.w) X.A (f v u) (EP X pins σ Q) X.xe s
noncomputable def Gu(X:Cx)(f:Value->Sem Value)(r:V->Hp->VK->Prop):Prop :=
 ∀(pins:List (Addr×Obj)) (s:Shared) (σ:St) (H:Hp) (x:V) (v:Value) (Q:VK),Inv X pins σ H s->RelV x v->r x H Q->
  wpAny (model X.prog X.w) X.A (f v) (EP X pins σ Q) X.xe s
noncomputable def gY(X:Cx)(f:Value)(r:List V->Hp->VK->Prop):Prop :=
 ∀(pins:List (Addr×Obj)) (s:Shared) (σ:St) (H:Hp) (xs:List V) (us:List Value) (Q:VK),Inv X pins σ H s->Vals xs us->r xs H Q->
  wpAny (model X.prog X.w) X.A (call f us) (EP X pins σ Q) X.xe s
noncomputable def abK(X:Cx)(r:V->Hp->(Bool->Hp->Prop)->Prop):Prop :=
 ∀(pins:List (Addr×Obj)) (s:Shared) (σ:St) (H:Hp) (x:V) (v:Value) (Q:Bool->Hp->Prop),Inv X pins σ H s->RelV x v->r x H Q->
  wpAny (model X.prog X.w) X.A (truthy v) (TP X pins σ Q) X.xe s
def vP(r:R2)(ta tb:TE):TE:=λσ H Q=>ta σ H λx H1=>tb σ H1 λy H2=>r x y H2 Q
def Gv(r:V->Hp->VK->Prop)(ta:TE):TE:=λσ H Q=>ta σ H λx H1=>r x H1 Q
def rI(C:Int->Int->Prop)(g:Int->Int->V):R2:=λx y H Q=>∃i j,x = .int i/\y = .int j/\C i j/\Q (g i j) H
def jI(g:Int->Int->V):R2:=λx y H Q=>∃i j,x = .int i/\y = .int j/\Q (g i j) H
def rU(g:Int->V):V->Hp->VK->Prop:=λx H Q=>∃i,x = .int i/\Q (g i) H
section
variable{X:Cx}{a b c:Expr}{ta tb tc:TE}{pos:Pos}
theorem Gw(ha:PE X a ta)(hb:PE X b tb){pins:List (Addr×Obj)}{s:Shared}{σ:St}{H:Hp}{R:V->V->Hp->Prop}(I:Inv X pins σ H s)
  (h:ta σ H λx H1=>tb σ H1 λy H2=>R x y H2) {Q:Value->Shared->Prop} {f:Value->Value->Sem Value}
  (hf:∀v u s2 x y H2,Inv X pins σ H2 s2->RelV x v->RelV y u->R x y H2->wpAny (model X.prog X.w) X.A (f v u) Q X.xe s2) :
  wpAny (model X.prog X.w) X.A (eval a X.env) (λv bf=>wpAny (model X.prog X.w) X.A (eval b X.env) (λu jo=>wpAny (model X.prog X.w) X.A (f v u) Q X.xe jo) X.xe bf) X.xe s:=by
 refine aW (ha pins s σ H _ I h) λv s1 ⟨x,H1,I1,r1,q1⟩=>?_;refine aW (hb pins s1 σ H1 _ I1 q1) λu s2 ⟨y,H2,I2,r2,q2⟩=>?_;exact hf v u s2 x y H2 I2 r1 r2 q2
theorem aF{op:Operator}{r:R2}(ho:cC X (binaryOp op) r)(ha:PE X a ta)(hb:PE X b tb):PE X (.BinOp a op b pos) (vP r ta tb):=by
 intro pins s σ H Q I h;exact wpAny_BinOp (Gw ha hb I h λv u s2 x y H2 I2 rx ry q=>ho pins s2 σ H2 x y v u Q I2 rx ry q)
theorem tL{op:UnaryOp}{r:V->Hp->VK->Prop}(ho:Gu X (unaryOp op) r)(ha:PE X a ta):PE X (.UnaryOp op a pos) (Gv r ta):=by
 intro pins s σ H Q I h;exact UnaryOp_ (aW (ha pins s σ H _ I h) λv s1 ⟨x,H1,I1,r1,q1⟩=>ho pins s1 σ H1 x v Q I1 r1 q1)
theorem BW{f:Value->Value->Sem Value}{C:Int->Int->Prop}{g:Int->Int->Int}
  (rule:∀(i j:Int) (t u:Tok) (s:Shared) (Q:Value->Shared->Prop) (E:Value->Shared->Prop),C i j->Q (.int (g i j) s.toks) { s with toks:=s.toks+1 }->wpAny (model X.prog X.w) X.A (f (.int i t) (.int j u)) Q E s) :
  cC X f (rI C λi j=>.int (g i j)):=by
 intro pins s σ H x y v u Q I rx ry h;obtain⟨i,j,rfl,rfl,hc,q⟩:=h;obtain⟨t,rfl⟩:=rx;obtain⟨t',rfl⟩:=ry;exact rule i j t t' s _ _ hc ⟨.int (g i j),H,I.tok _,⟨_,rfl⟩,q⟩
theorem RZ{f:Value->Value->Sem Value}{g:Int->Int->Int}
  (rule:∀(i j:Int) (t u:Tok) (s:Shared) (Q:Value->Shared->Prop) (E:Value->Shared->Prop),Q (.int (g i j) s.toks) { s with toks:=s.toks+1 }->wpAny (model X.prog X.w) X.A (f (.int i t) (.int j u)) Q E s) :
  cC X f (jI λi j=>.int (g i j)):=by
 intro pins s σ H x y v u Q I rx ry h;obtain⟨i,j,rfl,rfl,q⟩:=h;obtain⟨t,rfl⟩:=rx;obtain⟨t',rfl⟩:=ry;exact rule i j t t' s _ _ ⟨.int (g i j),H,I.tok _,⟨_,rfl⟩,q⟩
theorem BX{f:Value->Value->Sem Value}{g:Int->Int->Bool}
  (rule:∀(i j:Int) (t u:Tok) (s:Shared) (Q:Value->Shared->Prop) (E:Value->Shared->Prop),Q (.bool (g i j)) s->wpAny (model X.prog X.w) X.A (f (.int i t) (.int j u)) Q E s) :
  cC X f (jI λi j=>.bl (g i j)):=by
 intro pins s σ H x y v u Q I rx ry h;obtain⟨i,j,rfl,rfl,q⟩:=h;obtain⟨t,rfl⟩:=rx;obtain⟨t',rfl⟩:=ry;exact rule i j t t' s _ _ ⟨.bl (g i j),H,I,rfl,q⟩
def Gx(i j:Int):Prop:=0<j/\j<1073741824
def R0(i j:Int):Prop:=0<=j/\j<=1000000/\i.natAbs<2 ^ 64
def yz(i j:Int):Prop:=(-(2 ^ 64)<i/\i<2 ^ 64)\/(-(2 ^ 64)<j/\j<2 ^ 64)
theorem yz.ok{i j:Int}(h:yz i j):IntMulOk i j:=by
 rcases h with⟨h1,h2⟩ | ⟨h1,h2⟩
 ·exact .of_left (intBits_le_64 h1 h2)
 ·exact .of_right (intBits_le_64 h1 h2)
theorem dW:cC X (binaryOp .Add) (jI λi j=>.int (i+j)):=RZ λ_ _ _ _ _ _ _ q=>add_int q
theorem oR:cC X (binaryOp .Sub) (jI λi j=>.int (i - j)):=RZ λ_ _ _ _ _ _ _ q=>sub_int q
theorem vQ:cC X (binaryOp .Mult) (rI yz λi j=>.int (i*j)):=BW λ_ _ _ _ _ _ _ hc q=>mul_int q hc.ok
theorem tM:cC X (binaryOp .FloorDiv) (rI Gx λi j=>.int (i / j)):=BW λi j _ _ _ _ _ hc q=>by
 have h1:(0:Int)<j:=hc.1;have h2:j<1073741824:=hc.2;exact floordiv_int ∅ (by rw[Int.fdiv_eq_ediv_of_nonneg i ∅];exact q) (.inl (PyProof.noPylong_small ∅))
theorem cS:cC X (binaryOp .Mod) (rI (λ_ j=>0<j) λi j=>.int (i % j)):=BW λi j _ _ _ _ _ hc q=>by
 have h1:(0:Int)<j:=hc;exact mod_int' ∅ (by rw[Int.fmod_eq_emod_of_nonneg i ∅];exact q)
theorem rE:cC X (binaryOp .Pow) (rI R0 λi j=>.int (i ^ j.toNat)):=BW λ_ _ _ _ _ _ _ hc q=>pow_int_small hc.1 hc.2.1 hc.2.2 q
theorem unI{f:Value->Sem Value}{g:Int->Int}
  (rule:∀(i:Int) (t:Tok) (s:Shared) (Q:Value->Shared->Prop) (E:Value->Shared->Prop),Q (.int (g i) s.toks) { s with toks:=s.toks+1 }->wpAny (model X.prog X.w) X.A (f (.int i t)) Q E s) :
  Gu X f (rU λi=>.int (g i)):=by
 intro pins s σ H x v Q I rx h;obtain⟨i,rfl,q⟩:=h;obtain⟨t,rfl⟩:=rx;exact rule i t s _ _ ⟨.int (g i),H,I.tok _,⟨_,rfl⟩,q⟩
theorem tN:Gu X (unaryOp .USub) (rU λi=>.int (-i)):=unI λ_ _ _ _ _ q=>neg_int q
end
noncomputable def lM:V->V->Bool
 | .aU,.aU=>true | .aU,.int _=>true | .int _,.aU=>true | .aU,.bl _=>true | .bl _,.aU=>true | .aU,.str _=>true | .str _,.aU=>true
 | .int _,.int _=>true | .bl _,.bl _=>true | .str _,.str _=>true | .iT _,.iT _=>true
 | .int _,.str _=>true | .str _,.int _=>true | .bl _,.str _=>true | .str _,.bl _=>true
 | _,_=>false
def Gy:R2:=λx y H Q=>lM x y=true/\Q (.bl (decide (x=y))) H
def Gz:R2:=λx y H Q=>lM x y=true/\Q (.bl (!decide (x=y))) H
theorem R1{i j:Int}:decide (V.int i=V.int j)=(i == j):=by
 rw[pW];simp
theorem R3{i j:Bool}:decide (V.bl i=V.bl j)=(i == j):=by
 rw[pW];simp
theorem R4{i j:Str}:decide (V.str i=V.str j)=(i == j):=by
 rw[pW];simp
theorem R5{i j:Array UInt8}:decide (V.iT i=V.iT j)=(i.toList == j.toList):=by
 rw[pW];cases i;cases j;simp
section
variable{X:Cx}{a b c:Expr}{ta tb tc:TE}{pos:Pos}
theorem dX{pins:List (Addr×Obj)}{σ:St}{H:Hp}{s:Shared}{Q:VK}{k k':Bool}(I:Inv X pins σ H s)(q:Q (.bl k) H)(e:k=k'):EP X pins σ Q (.bool k') s:=by
 subst e;exact⟨.bl k,H,I,rfl,q⟩
theorem lN:cC X (compareOp .Eq) Gy:=by
 intro pins s σ H x y v u Q I rx ry h;obtain⟨hs,q⟩:=h;cases x with
 | aU =>
  cases rx;cases y with
  | aU=>cases ry;exact PySem.EqNone.eq_none_none (dX I q (by simp))
  | bl j=>cases ry;exact PySem.EqNone.eq_none_bool (dX I q (by simp))
  | int j=>obtain⟨t',rfl⟩:=ry;exact PySem.EqNone.eq_none_int (dX I q (by simp))
  | str j=>obtain⟨t',rfl⟩:=ry;exact PySem.EqNone.eq_none_str (dX I q (by simp))
  | _=>exact absurd (show false=true from hs) eU
 | bl i =>
  cases rx;cases y with
  | aU=>cases ry;exact PySem.EqNone.eq_bool_none (dX I q (by simp))
  | bl j=>cases ry;exact eq_bool (dX I q R3)
  | str j=>obtain⟨t',rfl⟩:=ry;exact PySem.EqMixed.eq_bool_str (dX I q (by simp))
  | _=>exact absurd (show false=true from hs) eU
 | int i =>
  obtain⟨t,rfl⟩:=rx;cases y with
  | aU=>cases ry;exact PySem.EqNone.eq_int_none (dX I q (by simp))
  | int j=>obtain⟨t',rfl⟩:=ry;exact eq_int (dX I q R1)
  | str j=>obtain⟨t',rfl⟩:=ry;exact PySem.EqMixed.eq_int_str (dX I q (by simp))
  | _=>exact absurd (show false=true from hs) eU
 | str i =>
  obtain⟨t,rfl⟩:=rx;cases y with
  | aU=>cases ry;exact PySem.EqNone.eq_str_none (dX I q (by simp))
  | bl j=>cases ry;exact PySem.EqMixed.eq_str_bool (dX I q (by simp))
  | int j=>obtain⟨t',rfl⟩:=ry;exact PySem.EqMixed.eq_str_int (dX I q (by simp))
  | str j=>obtain⟨t',rfl⟩:=ry;exact eq_str (dX I q R4)
  | _=>exact absurd (show false=true from hs) eU
 | iT i =>
  obtain⟨t,rfl⟩:=rx;cases y with
  | iT j=>obtain⟨t',rfl⟩:=ry;exact PySem.W.eq_bytes (dX I q R5)
  | _=>exact absurd (show false=true from hs) eU
 | _=>cases y <;> exact absurd (show false=true from hs) eU
theorem vR:cC X (compareOp .NotEq) Gz:=by
 intro pins s σ H x y v u Q I rx ry h;obtain⟨hs,q⟩:=h;cases x with
 | aU =>
  cases rx;cases y with
  | aU=>cases ry;exact PySem.EqNone.ne_none_none (dX I q (by simp))
  | bl j=>cases ry;exact PySem.EqNone.ne_none_bool (dX I q (by simp))
  | int j=>obtain⟨t',rfl⟩:=ry;exact PySem.EqNone.ne_none_int (dX I q (by simp))
  | str j=>obtain⟨t',rfl⟩:=ry;exact PySem.EqNone.ne_none_str (dX I q (by simp))
  | _=>exact absurd (show false=true from hs) eU
 | bl i =>
  cases rx;cases y with
  | aU=>cases ry;exact PySem.EqNone.ne_bool_none (dX I q (by simp))
  | bl j=>cases ry;exact ne_bool (dX I q (fR not R3))
  | str j=>obtain⟨t',rfl⟩:=ry;exact PySem.EqMixed.ne_bool_str (dX I q (by simp))
  | _=>exact absurd (show false=true from hs) eU
 | int i =>
  obtain⟨t,rfl⟩:=rx;cases y with
  | aU=>cases ry;exact PySem.EqNone.ne_int_none (dX I q (by simp))
  | int j=>obtain⟨t',rfl⟩:=ry;exact ne_int (dX I q (fR not R1))
  | str j=>obtain⟨t',rfl⟩:=ry;exact PySem.EqMixed.ne_int_str (dX I q (by simp))
  | _=>exact absurd (show false=true from hs) eU
 | str i =>
  obtain⟨t,rfl⟩:=rx;cases y with
  | aU=>cases ry;exact PySem.EqNone.ne_str_none (dX I q (by simp))
  | bl j=>cases ry;exact PySem.EqMixed.ne_str_bool (dX I q (by simp))
  | int j=>obtain⟨t',rfl⟩:=ry;exact PySem.EqMixed.ne_str_int (dX I q (by simp))
  | str j=>obtain⟨t',rfl⟩:=ry;exact ne_str (dX I q (fR not R4))
  | _=>exact absurd (show false=true from hs) eU
 | iT i =>
  obtain⟨t,rfl⟩:=rx;cases y with
  | iT j=>obtain⟨t',rfl⟩:=ry;exact PySem.W.ne_bytes (dX I q (fR not R5))
  | _=>exact absurd (show false=true from hs) eU
 | _=>cases y <;> exact absurd (show false=true from hs) eU
theorem gH:cC X (compareOp .Lt) (jI λi j=>.bl (decide (i<j))):=BX λ_ _ _ _ _ _ _ q=>lt_int q
theorem abL:cC X (compareOp .LtE) (jI λi j=>.bl (decide (i<=j))):=BX λ_ _ _ _ _ _ _ q=>le_int q
theorem kQ:cC X (compareOp .Gt) (jI λi j=>.bl (decide (j<i))):=BX λ_ _ _ _ _ _ _ q=>gt_int q
theorem vU:cC X (compareOp .GtE) (jI λi j=>.bl (decide (j<=i))):=BX λ_ _ _ _ _ _ _ q=>ge_int q
theorem R6:cC X (compareOp .Is) (λx y H Q=>y = .aU/\Q (.bl (decide (x = .aU))) H):=by
 intro pins s σ H x y v u Q I rx ry h;obtain⟨rfl,q⟩:=h;cases ry;refine is_none_gen (dX I q ?_);cases x <;> first
  | (cases rx;rfl)
  | (obtain⟨t,rfl⟩:=rx;rfl)
theorem R7:cC X (compareOp .IsNot) (λx y H Q=>y = .aU/\Q (.bl (!decide (x = .aU))) H):=by
 intro pins s σ H x y v u Q I rx ry h;obtain⟨rfl,q⟩:=h;cases ry;refine isnot_none_gen (dX I q ?_);cases x <;> first
  | (cases rx;rfl)
  | (obtain⟨t,rfl⟩:=rx;rfl)
theorem bL(b:Expr){op:CmpOp}(h:op≠.In:=by decide)(h2:op≠.NotIn:=by decide):behindInMarks op b=false:=by
 have e1:(op == CmpOp.In)=false:=by cases op <;> first | rfl | exact absurd rfl h
 have e2:(op == CmpOp.NotIn)=false:=by cases op <;> first | rfl | exact absurd rfl h2
 cases b <;> simp[behindInMarks,e1,e2]
theorem iX{op:CmpOp}{r:R2}(ho:cC X (compareOp op) r)(ha:PE X a ta)(hb:PE X b tb)(hm:behindInMarks op b=false):PE X (.Compare a [op] [b] pos) (vP r ta tb):=by
 intro pins s σ H Q I h;exact wpAny_Compare1 (Gw ha hb I h λv u s2 x y H2 I2 rx ry q=>ho pins s2 σ H2 x y v u Q I2 rx ry q) hm
def GA(t:TE):TT:=λσ H Q=>t σ H λx H'=>∃k,x = .bl k/\Q k H'
theorem dB{op:CmpOp}{r:R2}(ho:cC X (compareOp op) r)(ha:PE X a ta)(hb:PE X b tb)(hm:behindInMarks op b=false):PT X (.Compare a [op] [b] pos) (GA (vP r ta tb)):=by
 intro pins s σ H Q I h;refine FH (aW (ha pins s σ H _ I h) λv s1 ⟨x,H1,I1,r1,q1⟩=>aW (hb pins s1 σ H1 _ I1 q1) λu s2 ⟨y,H2,I2,r2,q2⟩ =>
  aW (ho pins s2 σ H2 x y v u _ I2 r1 r2 q2) λc s3 ⟨z,H3,I3,r3,zz⟩=>?_) hm
 obtain⟨k,e,q3⟩:=zz;subst e;cases r3;exact qd ⟨H3,I3,q3⟩
def R8(r r':R2)(ta tb tc:TE):TE:=λσ H Q=>ta σ H λx H1=>tb σ H1 λy H2=>r x y H2 λz H3=>∃k,z = .bl k/\
 (if k=true then tc σ H3 λw' H4=>r' y w' H4 Q else Q (.bl false) H3)
noncomputable def GB(K:W.Frag)(x:V)(H:Hp)(k:Bool):Prop :=
 match x with
 | .aU=>k=false
 | .bl b=>k=b
 | .int i=>k=(i != 0)
 | .str y=>y.length<=sizeLine/\k=((y.length:Int) != 0)
 | .iT y=>y.size<=sizeLine/\k=((y.size:Int) != 0)
 | .ref p=>(∃xs,az K H p xs/\k = !xs.isEmpty)\/(∃xs,aL K H p xs/\k = !xs.isEmpty)\/∃aA,H p=some (.dK aA)/\k = !aA.isEmpty
 | _=>False
theorem abM{κ:Type}{aA:List (κ×V)}{vs:List (κ×Value)}(r:KV aA vs):(!vs.isEmpty) = !aA.isEmpty:=by
 cases r <;> rfl
theorem R9{xs:List V}{aB:List Value}(r:Vals xs aB):(!aB.toArray.isEmpty) = !xs.isEmpty:=by
 cases r <;> simp
theorem yC:(sizeLine:Nat)<2 ^ 63:=by rw[q9];decide
theorem abN:abK X (λx H Q=>∃k,GB X.K x H k/\Q k H):=by
 intro pins s σ H x v Q I rx h;obtain⟨k,e,q⟩:=h;have hl:=yC;have hs:sizeLine=16777216:=q9;cases x with
 | aU =>
  cases rx;have e':k=false:=e;subst e';exact truthy_none ⟨H,I,q⟩
 | bl b =>
  cases rx;have e':k=b:=e;subst e';exact qd ⟨H,I,q⟩
 | int i =>
  obtain⟨t,rfl⟩:=rx;have e':k=(i != 0):=e;subst e';exact PySem.P.truthy_int ⟨H,I,q⟩
 | str y =>
  obtain⟨t,rfl⟩:=rx;obtain⟨hy,e'⟩:y.length<=sizeLine/\k=((y.length:Int) != 0):=e;subst e';exact PySem.P.truthy_str ∅ ⟨H,I.tok _,q⟩
 | iT y =>
  obtain⟨t,rfl⟩:=rx;obtain⟨hy,e'⟩:y.size<=sizeLine/\k=((y.size:Int) != 0):=e;subst e';exact PySem.W.truthy_bytes ∅ ⟨H,I.tok _,q⟩
 | ref p =>
  cases rx;have e':(∃xs,az X.K H p xs/\k = !xs.isEmpty)\/(∃xs,aL X.K H p xs/\k = !xs.isEmpty)\/∃aA,H p=some (.dK aA)/\k = !aA.isEmpty:=e;rcases e' with⟨xs,hx,e'⟩ | ⟨xs,hx,e'⟩ | ⟨aA,hx,e'⟩
  ·subst e';obtain⟨aB,r,pl,hz⟩:=I.list hx;have hlen:=r.length;exact wpAny_truthy_list pl.isList (by simp only[List.size_toArray];lia) ⟨H,I.tok _,by rw[R9 r];exact q⟩
  ·subst e';obtain⟨aB,r,pl,hz⟩:=I.tuple hx;have hlen:=r.length;exact truthy_tuple pl (by simp only[List.size_toArray];lia) ⟨H,I.tok _,by rw[R9 r];exact q⟩
  ·subst e';obtain⟨hz,hS,vs,r,m⟩:aA.length<=sizeLine/\(p == sysModules)=false/\∃vs,KV aA vs/\s.heap.DictOf (dN X.prog X.w) p vs:=I.aO p _ hx;have hlen:aA.length=vs.length:=Bt r;exact wpAny_truthy_dict hS m ∅ ⟨H,I.tok _,by rw[abM r];exact q⟩
 | _=>exact(show False from e).elim
theorem GC(ha:PE X a ta)(he:∀whole,isTrue a X.env whole=(do let v ← whole;standAt a.pos;holding [v] (truthy v))) :
  PT X a (λσ H Q=>ta σ H λx H'=>∃k,GB X.K x H' k/\Q k H'):=by
 intro pins s σ H Q I h;exact isTrue_plain (aW (ha pins s σ H _ I h) λv s1 ⟨x,H1,I1,r1,q1⟩=>abN pins s1 σ H1 x v Q I1 r1 q1) (he _)
theorem vals1{x:V}{us:List Value}(r:Vals [x] us):∃u,us = [u]/\RelV x u:=by
 cases r with
 | cons r1 r2=>cases r2;exact⟨_,rfl,r1⟩
theorem vals2{x y:V}{us:List Value}(r:Vals [x,y] us):∃u w',us = [u,w']/\RelV x u/\RelV y w':=by
 cases r with
 | cons r1 r2 =>
  cases r2 with
  | cons r3 r4=>cases r4;exact⟨_,_,rfl,r1,r3⟩
theorem GD:gY X (.builtin "abs") (λxs H Q=>∃i,xs = [.int i]/\Q (.int (if i<0 then -i else i)) H):=by
 intro pins s σ H xs us Q I r h;obtain⟨i,rfl,q⟩:=h;obtain⟨u,rfl,t,rfl⟩:=vals1 r;exact call_abs_int λu tk=>⟨.int (if i<0 then -i else i),H,I.tok _,⟨_,rfl⟩,q⟩
theorem abO(hc:X.calm=true):gY X (.builtin "max") (λxs H Q=>∃i j,xs = [.int i,.int j]/\Q (.int (if j > i then j else i)) H):=by
 intro pins s σ H xs us Q I r h;obtain⟨i,j,rfl,q⟩:=h;obtain⟨u,w',rfl,⟨t,rfl⟩,⟨t',rfl⟩⟩:=vals2 r;refine max_two_ints (I.ok.hd hc) λh' tk k=>⟨_,H,I.kept k,?_,q⟩;by_cases hj:j > i
 ·rw[if_pos hj,if_pos hj];exact⟨_,rfl⟩
 ·rw[if_neg hj,if_neg hj];exact⟨_,rfl⟩
theorem GF(hc:X.calm=true):gY X (.builtin "min") (λxs H Q=>∃i j,xs = [.int i,.int j]/\Q (.int (if j<i then j else i)) H):=by
 intro pins s σ H xs us Q I r h;obtain⟨i,j,rfl,q⟩:=h;obtain⟨u,w',rfl,⟨t,rfl⟩,⟨t',rfl⟩⟩:=vals2 r;refine min_two_ints (I.ok.hd hc) λh' tk k=>⟨_,H,I.kept k,?_,q⟩;by_cases hj:j<i
 ·rw[if_pos hj,if_pos hj];exact⟨_,rfl⟩
 ·rw[if_neg hj,if_neg hj];exact⟨_,rfl⟩
end
structure tO(h:Heap)(x dx C:Addr)(mA:Str->Option Value):Prop where
 obj:h.get? x=some (PySem.W.instObj C dx)
 ns:h.Ns1 dx mA
 ne:dx≠x
theorem abP{h:Heap}{dx:Addr}{mA:Str->Option Value}(n:h.Ns1 dx mA):∃od,h.get? dx=some od/\∀name,PySem.W.lookIn name od=some (mA name):=by
 obtain⟨o,es,ep,ho,hd,hk,_,hm⟩:=n;refine⟨o,ho,λname=>?_⟩
 have e:=hm name;unfold nsFind findBy at e;rw[← Array.find?_toList] at e;unfold PySem.W.lookIn;rw[hd];dsimp only;split
 ·rename_i y q;rw[q] at e;exact fR some e
 ·rename_i q;rw[q] at e;have a:es.toList.any (·.refKey)=false:=by
   rw[List.any_eq_false];intro y hy;obtain⟨z,t,rF⟩:=hk y (Array.mem_toList_iff.mp hy);simp[DictEntry.refKey,rF]
  have a':¬ es.toList.any (·.refKey)=true:=by rw[a];exact eU
  rw[if_neg a'];exact fR some e
theorem tO.look{h:Heap}{x dx C:Addr}{mA:Str->Option Value}(I:tO h x dx C mA):∃od,PySem.W.InstAt h x (PySem.W.instObj C dx) C (some od)/\∀name,PySem.W.lookIn name od=some (mA name) :=
 let ⟨od,ho,hl⟩:=abP I.ns
 ⟨od,⟨I.obj,rfl,rfl,ho⟩,hl⟩
section
variable{prog:Program}{w:World}{A:Around}{E:Value->Shared->Prop}{s:Shared}{K:W.Frag}{x dx C f:Addr}{mA:Str->Option Value}{name:Str}{v:Value}
theorem get_map{expr:Bool}{Q:Value->Shared->Prop}(X:K.In s.heap)(I:tO s.heap x dx C mA)(hg:PySem.W.plainGet K C name=true)(hh:PySem.W.hasDictIn K C=true)
  (ha:PySem.W.findIn K (.ref C) name=some none) (hv:mA name=some v) (hv':PySem.W.handedIn v=true) (h:Q v { s with toks:=s.toks+1 }) :
  wpAny (model prog w) A (getAttr (.ref x) name expr) Q E s:=by
 obtain⟨od,J,hl⟩:=I.look;exact PySem.W.get_value X J (FD hg).1 (PySem.W.findObj_own hh ha rfl (by rw[hl,hv])) hv' h
theorem abQ{pl:Sem Bool}{Q:Value×List Value->Shared->Prop}(X:K.In s.heap)(I:tO s.heap x dx C mA)(hg:PySem.W.plainGet K C name=true)
  (hf:PySem.W.findIn K (.ref C) name=some (some (.ref f))) (ht:PySem.W.isFn K (.ref f)=true) (hv:mA name=none) (h:Q (.ref f,[.ref x]) s) :
  wpAny (model prog w) A (getMethod (.ref x) name pl) Q E s:=by
 obtain⟨od,J,hl⟩:=I.look;exact PySem.W.method_fn X J (FD hg).1 (FD hg).2 hf (mR.mp ht) (by show (PySem.W.lookIn name od).map (·.isSome)=some false;rw[hl,hv];rfl) h
theorem abR{ns:List Str}{Q:Unit->Shared->Prop}(X:K.In s.heap)(I:tO s.heap x dx C mA)
  (hs:PySem.W.findIn K (.ref C) "__setattr__" = some (some (.builtin "object.__setattr__"))) (hp:PySem.W.plainOver K C=true) (ht:PySem.W.takerIn K C name=some none) (hh:PySem.W.hasDictIn K C=true)
  (hw:PySem.Within mA ns) (hsz:ns.length<=sizeLine)
  (h:∀h',tO h' x dx C (λy=>if y=name then some v else mA y)->Heap.SameBut dx s.heap h'->Q () { s with heap:=h',toks:=s.toks+2 }) :
  wpAny (model prog w) A (setAttr (.ref x) name v) Q E s:=by
 obtain⟨od,J,hl⟩:=I.look;refine PySem.W.set_plain X J hs (PySem.W.osa_open (s:={ s with toks:=s.toks+1 }) (r:=none) X J hp ht λb=>?_)
 obtain⟨cd,hc,fS⟩:=PySem.W.any_some hh;have hx:s.heap.get? x=some ⟨.ref C,some dx,.plain,#[]⟩:=I.obj;refine aJ (bq (aJ (aJ (wpAny_loadPart hx (aJ (PySem.W.Looks.here (s:={ s with toks:=s.toks+1 }) (PySem.W.looks_clsIn X hc) ?_))))));rw[fS];refine bq (a:=some dx) (aJ (bq (aJ ?_)));refine wpAny_nsSet1 (s:={ s with toks:=s.toks+1 }) I.ns λh' vV mZ=>?_;obtain⟨oD,esD,epD,hoD,hdD,hcD⟩:=vV.count (PySem.Within.cons name v hw);refine aJ (wpAny_lookBehind hoD (by rw[hdD];exact pastItsLine_dict (cQ hcD (by rw[dR];lia))) ?_)
 exact bq (h _ ⟨(mZ.2 _ (iC I.ne)).trans I.obj,vV,I.ne⟩ mZ)
theorem abS{R:Result->Shared->Prop}{vs:List Value}{kw:List (Str×Value)}(X:K.In s.heap)(hm:PySem.W.makesIn K C=true)
  (hi:PySem.W.findIn K (.ref C) "__init__" = some (some (.ref f))) (hf:PySem.W.typeIn K (.ref f)=some (.type "function"))
  (h:codeAny (model prog w) (A.under (.builtin "type.__call__" ⟨.ref C::vs,kw⟩)) (.call (.ref f) ⟨.ref (s.heap.objs.size+1)::vs,kw⟩) (PySem.W.InitBack (s.heap.objs.size+1) R)
   { s with heap:=(s.heap.push PySem.W.emptyDict).push (PySem.W.instObj C s.heap.objs.size)}) :
  codeAny (model prog w) A (.call (.ref C) ⟨vs,kw⟩) R s:=by
 obtain⟨hh,g,d,t,os⟩:=s;exact PySem.W.make_core (PySem.W.makes_of X hm) (PySem.W.looks_findIn X hi) (λself=>PySem.W.bind_fn X self hf) (.inl rfl) h
end
noncomputable def gI(f:Str)(v:V):List (Str×V)->List (Str×V)
 | []=>[(f,v)]
 | (g,x)::r=>if g=f then(g,v)::r else(g,x)::gI f v r
theorem R_(f g:Str)(v:V):∀fs:List (Str×V),(gI f v fs).lookup g=if g=f then some v else fs.lookup g
 | []=>by
  show List.lookup g [(f,v)] = _;by_cases h:g=f
  ·have hb:(g == f)=true:=mR.mpr h;simp only[List.lookup,hb,if_pos h]
  ·have hb:(g == f)=false:=lI.mpr h;simp only[List.lookup,hb,if_neg h]
 | (k,x)::r=>by
  have ih:=R_ f g v r;rw[show gI f v ((k,x)::r)=(if k=f then(k,v)::r else(k,x)::gI f v r) from rfl]
  by_cases hk:k=f
  ·rw[if_pos hk];by_cases h:g=k
   ·have hb:(g == k)=true:=mR.mpr h;simp only[List.lookup,hb,if_pos (h.trans hk)]
   ·have hb:(g == k)=false:=lI.mpr h;simp only[List.lookup,hb,if_neg (λe:g=f=>h (e.trans hk.symm))]
  ·rw[if_neg hk];by_cases h:g=k
   ·have hb:(g == k)=true:=mR.mpr h;simp only[List.lookup,hb,if_neg (λe:g=f=>hk (h.symm.trans e))]
   ·have hb:(g == k)=false:=lI.mpr h;simp only[List.lookup,hb];exact ih
theorem GG(f:Str)(v:V):∀fs:List (Str×V),f∈(gI f v fs).map (·.1)/\∀g,g∈fs.map (·.1)->g∈(gI f v fs).map (·.1)
 | []=>⟨by simp[gI],λg h=>by simp at h⟩
 | (k,x)::r=>by
  obtain⟨i1,i2⟩:=GG f v r;rw[show gI f v ((k,x)::r)=(if k=f then(k,v)::r else(k,x)::gI f v r) from rfl]
  by_cases hk:k=f
  ·rw[if_pos hk];subst hk;exact⟨by simp,λg h=>by simpa using h⟩
  ·rw[if_neg hk];refine⟨?_,λg h=>?_⟩
   ·rw[cH];exact bU _ i1
   ·rw[cH] at h ⊢;rcases b_.mp h with e | e
    ·exact List.mem_cons.mpr (.inl e)
    ·exact bU _ (i2 g e)
theorem Sa(f:Str)(v:V):∀fs:List (Str×V),(gI f v fs).length<=fs.length+1
 | []=>by simp[gI]
 | (k,x)::r=>by
  have ih:=Sa f v r;rw[show gI f v ((k,x)::r)=(if k=f then(k,v)::r else(k,x)::gI f v r) from rfl]
  by_cases hk:k=f
  ·rw[if_pos hk,dR,dR];lia
  ·rw[if_neg hk,dR,dR];lia
theorem iD.some_of{v:V}{o:Option Value}(r:iD (some v) o):∃u,o=some u/\RelV v u:=by
 cases o with
 | none=>exact(show False from r).elim
 | some u=>exact⟨u,rfl,r⟩
theorem iD.none_of{o:Option Value}(r:iD none o):o=none:=by
 cases o with
 | none=>rfl
 | some u=>exact(show False from r).elim
theorem abT{v:V}{u:Value}(r:RelV v u):PySem.W.handedIn u=true:=by
 cases v with
 | aU=>cases (show u=Value.none from r);rfl
 | bl b=>cases (show u=Value.bool b from r);rfl
 | int i=>obtain⟨t,e⟩:=(show ∃t,u=Value.int i t from r);cases e;rfl
 | str x=>obtain⟨t,e⟩:=(show ∃t,u=Value.str x t from r);cases e;rfl
 | iT b=>obtain⟨t,e⟩:=(show ∃t,u=Value.bytes b t from r);cases e;rfl
 | oH b=>obtain⟨t,e⟩:=(show ∃t,u=Value.float b t from r);cases e;rfl
 | ref a=>cases (show u=Value.ref a from r);rfl
 | ty n=>cases (show u=Value.type n from r);rfl
section
variable{P:Program}{w:World}{H H':Hp}{h h':Heap}{a C dx:Addr}{fs RB:List (Str×V)}
theorem BY(aO:dO P w H h)(e:H a=some (.ins C dx fs)):∃mA,tO h a dx C mA/\(∀f,iD (fs.lookup f) (mA f))/\PySem.Within mA (fs.map (·.1))/\fs.length<=1000/\H dx=some (.own a):=by
 obtain⟨d,z,ne,ob,mA,n,r,q⟩:=(show eF P w H h a (.ins C dx fs) from aO a _ e);exact⟨mA,⟨ob,n,ne⟩,r,q,z,d⟩
end
structure dI(K:W.Frag)(C:Addr):Prop where
 pg:PySem.W.plainGet K C Str.empty=true
 hd:PySem.W.hasDictIn K C=true
 po:PySem.W.plainOver K C=true
 sa:PySem.W.findIn K (.ref C) "__setattr__" = some (some (.builtin "object.__setattr__"))
theorem dI.get{K:W.Frag}{C:Addr}(c:dI K C)(f:Str):PySem.W.plainGet K C f=true:=c.pg
def cj(K:W.Frag)(C:Addr)(f:Str):Prop:=PySem.W.findIn K (.ref C) f=some none
theorem cj.abU{K:W.Frag}{C:Addr}{f:Str}(n:cj K C f):PySem.W.takerIn K C f=some none:=by
 unfold PySem.W.takerIn;rw[show PySem.W.findIn K (.ref C) f=some none from n]
 rfl
structure Meth(K:W.Frag)(C:Addr)(m:Str)(f:Addr):Prop where
 at_:PySem.W.findIn K (.ref C) m=some (some (.ref f))
 fn:PySem.W.isFn K (.ref f)=true
 kp:PySem.W.keepIn K (.ref f)=true
section
variable{X:Cx}{pins:List (Addr×Obj)}{σ:St}{H:Hp}{s:Shared}{a C dx:Addr}{fs:List (Str×V)}{f:Str}{v:V}{A:Around}{E:Value->Shared->Prop}
theorem Sd{b:Bool}{Q:Value->Shared->Prop}(I:Inv X pins σ H s)(e:H a=some (.ins C dx fs))(c:dI X.K C)(n:cj X.K C f)(l:fs.lookup f=some v)
  (h:∀u s',Inv X pins σ H s'->RelV v u->Q u s'):wpAny (model X.prog X.w) A (getAttr (.ref a) f b) Q E s:=by
 obtain⟨mA,O,r,_,_,_⟩:=BY I.aO e;obtain⟨u,hu,ru⟩:=iD.some_of (v:=v) (o:=mA f) (by rw[← l];exact r f)
 exact get_map I.eV O (c.get f) c.hd n hu (abT ru) (h u _ (I.tok _) ru)
theorem Se{m:Str}{g:Addr}{pl:Sem Bool}{Q:Value×List Value->Shared->Prop}(I:Inv X pins σ H s)(e:H a=some (.ins C dx fs))(c:dI X.K C)(k:Meth X.K C m g)(l:fs.lookup m=none)
  (h:Q (.ref g,[.ref a]) s):wpAny (model X.prog X.w) A (getMethod (.ref a) m pl) Q E s:=by
 obtain⟨mA,O,r,_,_,_⟩:=BY I.aO e;have hn:mA m=none:=iD.none_of (by rw[← l];exact r m)
 exact abQ I.eV O (c.get m) k.at_ k.fn hn h
theorem Sf{y:V}{u:Value}{Q:Unit->Shared->Prop}(I:Inv X pins σ H s)(e:H a=some (.ins C dx fs))(c:dI X.K C)(n:cj X.K C f)(hl:fs.length<1000)(ry:RelV y u)
  (h:∀s',Inv X pins σ (upd H a (.ins C dx (gI f y fs))) s'->Q () s'):wpAny (model X.prog X.w) A (setAttr (.ref a) f u) Q E s:=by
 obtain⟨mA,O,r,wi,_,ho⟩:=BY I.aO e;have hz:(fs.map (·.1)).length<=sizeLine:=by rw[aM,q9];lia
 refine abR I.eV O c.sa c.po n.abU c.hd wi hz λh' O' sb=>h _ ?_;have hd:∃o,h'.get? dx=some o:=let ⟨o,_,_,e',_⟩:=O'.ns;⟨o,e'⟩
 refine I.write (x:=a) (e:=dx) (by rw[e];exact True.intro) (.inr ho) (λb q hb z=>(sb.2 b hb).trans z) hd ?_
 refine⟨by rw[aI O.ne];exact ho,?_,O.ne,O'.obj,_,O'.ns,λg=>?_,λg hg=>?_⟩
 ·have:=Sa f y fs;lia
 ·show iD ((gI f y fs).lookup g) (if g=f then some u else mA g)
  rw[R_];by_cases q:g=f
  ·rw[if_pos q,if_pos q];exact ry
  ·rw[if_neg q,if_neg q];exact r g
 ·by_cases q:g=f
  ·rw[q];exact(GG f y fs).1
  ·refine(GG f y fs).2 g (wi g λz=>hg ?_)
   show (if g=f then some u else mA g)=none
   rw[if_neg q];exact z
theorem Inv.made(I:Inv X pins σ H s):Inv X pins σ (upd (upd H s.heap.objs.size (.own (s.heap.objs.size+1))) (s.heap.objs.size+1) (.ins C s.heap.objs.size []))
  { s with heap:=(s.heap.push PySem.W.emptyDict).push (PySem.W.instObj C s.heap.objs.size)}:=by
 have e1:(s.heap.push PySem.W.emptyDict).get? s.heap.objs.size=some PySem.W.emptyDict:=fM s.heap rfl;have e2:((s.heap.push PySem.W.emptyDict).push (PySem.W.instObj C s.heap.objs.size)).get? (s.heap.objs.size+1)=some (PySem.W.instObj C s.heap.objs.size):=by
  have:=fM (s.heap.push PySem.W.emptyDict) (o:=PySem.W.instObj C s.heap.objs.size) rfl;rwa [sN] at this
 have e3:(s.heap.push PySem.W.emptyDict).Ns s.heap.objs.size (λ_=>none):=⟨PySem.W.emptyDict,#[],_,e1,rfl,(λe he=>absurd he (by simp)),λ_=>rfl⟩
 have I1:=I.laid (a:=s.heap.objs.size) (o:=.own (s.heap.objs.size+1)) (h':=s.heap.push PySem.W.emptyDict) (t':=s.toks) (λb u q=>cK _ q) (bu _) ⟨_,e1⟩;refine I1.laid (a:=s.heap.objs.size+1) (o:=.ins C s.heap.objs.size []) (t':=s.toks) (λb u q=>cK _ q) (Bo (sN _ _)) ?_;have ne:s.heap.objs.size≠s.heap.objs.size+1:=cR (Bp _);refine⟨by rw[aI ne,aE],eL _,ne,e2,λ_=>none,(Heap.Ns1.of_empty e3).at λo q=>cK _ q,λ_=>True.intro,λy hy=>absurd rfl hy⟩
theorem Sg{prog:Program}{w:World}{env:Env}{e:Expr}{f:Str}{pos:Pos}{s:Shared}{Q:Value->Shared->Prop}(hb:attributeBase e f env (eval e env)=eval e env)
  (h:wpAny (model prog w) A (eval e env) (λo bf=>wpAny (model prog w) A (getAttr o f true) Q E bf) E s):wpAny (model prog w) A (eval (.Attribute e f pos) env) Q E s :=
 Attribute_any_ h (by rw[arm_eval_Attribute,hb])
end
def BZ(K:W.Frag)(ta:TE)(f:Str):TE:=λσ H Q=>ta σ H λx H1=>∃a C dx fs v,x = .ref a/\H1 a=some (.ins C dx fs)/\dI K C/\cj K C f/\fs.lookup f=some v/\Q v H1
def GH(K:W.Frag)(ta tv:TE)(f:Str):TS:=λD σ H=>tv σ H λy H1=>ta σ H1 λx H2=>∃a C dx fs,x = .ref a/\H2 a=some (.ins C dx fs)/\dI K C/\cj K C f/\fs.length<1000/\
 D.nx σ (upd H2 a (.ins C dx (gI f y fs)))
section
variable{X:Cx}{o e value:Expr}{f:Str}{pos pos' abV:Pos}{ta tv:TE}
theorem Sh(he:PE X e ta)(hb:attributeBase e f X.env (eval e X.env)=eval e X.env):PE X (.Attribute e f pos) (BZ X.K ta f):=by
 intro pins s σ H Q I h;refine Sg hb (aW (he pins s σ H _ I h) λu s1 ⟨x,H1,I1,rx,zz⟩=>?_);obtain⟨a,C,dx,fs,v,ex,ea,c,n,l,q⟩:=zz;subst ex;obtain rfl:u=Value.ref a:=rx;exact Sd I1 ea c n l λu' s2 I2 ru=>⟨v,H1,I2,ru,q⟩
theorem GI(ha:PE X o ta)(hv:PE X value tv)(hs:swapsWith value (some (.Attribute o f pos')) pos.line X.env=pure false):PS X (.Assign [.Attribute o f pos'] value pos) (GH X.K ta tv f):=by
 intro pins s σ H D I h;refine Rv (aW (hv pins s σ H _ I h) λu s1 ⟨y,H1,I1,ry,q⟩=>aW (ha pins s1 σ H1 _ I1 q) λov s2 ⟨x,H2,I2,rx,zz⟩=>?_) hs;obtain⟨a,C,dx,fs,ex,ea,c,n,l,q2⟩:=zz;subst ex;obtain rfl:ov=Value.ref a:=rx;exact Sf I2 ea c n l ry λs3 I3=>⟨σ,_,I3,q2⟩
end
section
variable{X:Cx}{pins:List (Addr×Obj)}{σ:St}{H:Hp}{s:Shared}{A:Around}{E:Value->Shared->Prop}{Q:Value->Shared->Prop}{c:Value}{b:Bool}
inductive kR (K:W.Frag) (H:Hp):V->Value->Prop where
 | aU:kR K H .aU (.type "NoneType")
 | bl (x:Bool):kR K H (.bl x) (.type "bool")
 | int (i:Int):kR K H (.int i) (.type "int")
 | str (x:Str):kR K H (.str x) (.type "str")
 | oH (x:UInt64):kR K H (.oH x) (.type "float")
 | lst {a:Addr} {xs:List V} (e:H a=some (.lst xs)):kR K H (.ref a) (.type "list")
 | jk {a:Addr} {o:Obj} {xs:List V} (e:H a=some (.jk o (.lst xs))):kR K H (.ref a) (.type "list")
 | tup {a:Addr} {xs:List V} (e:H a=some (.tup xs)):kR K H (.ref a) (.type "tuple")
 | dK {a:Addr} {aA:List (Key×V)} (e:H a=some (.dK aA)):kR K H (.ref a) (.type "dict")
 | dT {a:Addr} {aA:List (List Key×V)} (e:H a=some (.dT aA)):kR K H (.ref a) (.type "dict")
 | ins {a C dx:Addr} {fs:List (Str×V)} (e:H a=some (.ins C dx fs)) (cl:dI K C) (ha:PySem.W.findIn K (.ref C) "__class__" = some (some (.builtin "object.__class__")))
   (hn:PySem.W.specialIn K (.builtin "object.__class__") "__get__" = some (some (.builtin "getset_descriptor.__get__"))) (Si:PySem.W.takesIn K (.builtin "object.__class__")=some true)
   (hm:PySem.W.mroIn K C (.type "object")=some true):kR K H (.ref a) (.ref C)
theorem abW{x:V}{u t:Value}(I:Inv X pins σ H s)(rx:RelV x u)(ty:kR X.K H x t)(e:PySem.W.kitOne X.K t c=some b)(h:∀tk,Q (.bool b) { s with toks:=tk }) :
  wpAny (model X.prog X.w) A (call (.builtin "isinstance") [u,c]) Q E s:=by
 cases ty with
 | aU=>cases (show u=Value.none from rx);exact mQ PySem.W.kitx_none I.eV True.intro e (λz=>nomatch z) h
 | bl y=>cases (show u=Value.bool y from rx);exact mQ PySem.W.kitx_bool I.eV True.intro e (λz=>nomatch z) h
 | int i=>obtain⟨t,q⟩:=(show ∃t,u=Value.int i t from rx);cases q;exact mQ PySem.W.kitx_int I.eV True.intro e (λz=>nomatch z) h
 | str y=>obtain⟨t,q⟩:=(show ∃t,u=Value.str y t from rx);cases q;exact mQ PySem.W.kitx_str I.eV True.intro e (λz=>nomatch z) h
 | oH y=>obtain⟨t,q⟩:=(show ∃t,u=Value.float y t from rx);cases q;exact mQ PySem.W.kitx_float I.eV True.intro e (λz=>nomatch z) h
 | @lst a xs ea =>
  cases (show u=Value.ref a from rx);obtain⟨_,_,n,_,h1⟩:=(show eF X.prog X.w H s.heap a (.lst xs) from I.aO a _ ea);exact mQ PySem.W.kitx_list I.eV ⟨_,h1,rfl⟩ e (λz=>nomatch z) h
 | @jk a ob xs ea =>
  cases (show u=Value.ref a from rx);obtain⟨_,_,_,n,_,h1⟩:=(show eF X.prog X.w H s.heap a (.jk ob (.lst xs)) from I.aO a _ ea);exact mQ PySem.W.kitx_list I.eV ⟨_,h1,rfl⟩ e (λz=>nomatch z) h
 | @tup a xs ea =>
  cases (show u=Value.ref a from rx);obtain⟨_,_,_,p⟩:=(show eF X.prog X.w H s.heap a (.tup xs) from I.aO a _ ea);obtain⟨o,h1,h2,_⟩:=p;exact mQ PySem.W.kitx_tuple I.eV ⟨o,h1,h2⟩ e (λz=>nomatch z) h
 | @dK a aA ea =>
  cases (show u=Value.ref a from rx);obtain⟨_,_,vs,_,p⟩:=(show eF X.prog X.w H s.heap a (.dK aA) from I.aO a _ ea);obtain⟨o,es,ep,h1,h2,_⟩:=p;exact mQ PySem.W.kitx_dict I.eV ⟨o,h1,h2.1⟩ e (λz=>nomatch z) h
 | @dT a aA ea =>
  cases (show u=Value.ref a from rx);obtain⟨_,_,xs,_,o,es,ep,h1,h2,_⟩:=(show eF X.prog X.w H s.heap a (.dT aA) from I.aO a _ ea);exact mQ PySem.W.kitx_dict I.eV ⟨o,h1,h2.1⟩ e (λz=>nomatch z) h
 | @ins a C dx fs ea cl ha hn Si hm =>
  cases (show u=Value.ref a from rx);obtain⟨mA,O,_⟩:=BY I.aO ea;obtain⟨od,J,_⟩:=O.look;exact mQ (PySem.W.kitx_own (cl.get _) cl.hd ha hn Si hm) I.eV J e (λz=>nomatch z) h
end
structure dQ(k:Nat)(A:Around):Prop where
 hd:A.handled=none
 dp:A.depth+3*k+5<recursionLimit
 un:A.units+16*k+200<cLine
theorem dQ.mono{j k:Nat}{A:Around}(r:dQ k A)(h:j<=k):dQ j A:=⟨r.hd,by have:=r.dp;lia,by have:=r.un;lia⟩
theorem dQ.deeper{k:Nat}{A:Around}(r:dQ (k+1) A)(env:Env):dQ k (A.deeper env) :=
 ⟨r.hd,by have:=r.dp;show A.depth+1+3*k+5<_;lia,by have:=r.un;show A.units+3+16*k+200<_;lia⟩
theorem abX{A:Around}{C:Addr}{us:List Value}{kw:List (Str×Value)}:(A.under (.builtin "type.__call__" ⟨.ref C::us,kw⟩)).depth=A.depth+1:=by
 first | rfl | simp[Around.under,Code.weight,Code.isCreation,Code.isGuard,Code.isCaller,Code.frames,Code.isFrame,guardIds]
theorem abY{A:Around}{C:Addr}{us:List Value}{kw:List (Str×Value)}:(A.under (.builtin "type.__call__" ⟨.ref C::us,kw⟩)).units=A.units+1:=by
 first | rfl | simp[Around.under,Code.cUnits,Code.frames,Code.isFrame]
theorem dQ.make{k:Nat}{A:Around}(r:dQ (k+1) A)(C:Addr)(us:List Value)(kw:List (Str×Value)):dQ k (A.under (.builtin "type.__call__" ⟨.ref C::us,kw⟩)) :=
 ⟨r.hd,by have:=r.dp;rw[abX];lia,by have:=r.un;rw[abY];lia⟩
theorem dQ.depth{k:Nat}{A:Around}(r:dQ k A):A.depth<recursionLimit:=by have:=r.dp;lia
theorem dQ.units{k:Nat}{A:Around}(r:dQ k A):A.units+64<cLine:=by have:=r.un;lia
theorem dQ.Sj{k:Nat}{A:Around}(r:dQ k A):A.units<cLine:=by have:=r.un;lia
def yD:TA:=λ_ H Q=>Q [] H
def B0(ta:TE)(tr:TA):TA:=λσ H Q=>ta σ H λx H1=>tr σ H1 λxs H2=>Q (x::xs) H2
section
variable{X:Cx}{e:Expr}{es:List Expr}{te:TE}{t:TA}{pos:Pos}
theorem au:PA X [] yD:=λ_ _ _ _ H Q I h=>AZ ⟨[],H,I,.nil,h⟩
theorem ah(ha:PE X e te)(hr:PA X es t)(hs:starEach (e::es) X.env=(false,eval e X.env)::starEach es X.env:=by rfl):PA X (e::es) (B0 te t):=by
 intro pos pins s σ H Q I h;rw[hs]
 show wpAny _ _ (spliced ((false,eval e X.env)::backTo pos (starEach es X.env))) _ _ s;refine AY (aW (ha pins s σ H _ I h) λu s1 ⟨x,H1,I1,r1,q1⟩=>?_);exact aW (hr pos pins s1 σ H1 _ I1 q1) λus s2 ⟨xs,H2,I2,r2,q2⟩=>⟨x::xs,H2,I2,.cons r1 r2,q2⟩
def GJ(t:TA):TE:=λσ H Q=>t σ H λxs H1=>xs.length<=sizeLine/\∀p,H1 p=none->Q (.ref p) (upd H1 p (.tup xs))
def GK(t:TA):TE:=λσ H Q=>t σ H λxs H1=>xs.length<=sizeLine/\∀p,H1 p=none->Q (.ref p) (upd H1 p (.lst xs))
theorem dD{x1}(h:PA X es t):PE X (.Tuple es x1 pos) (GJ t):=by
 intro pins s σ H Q I hq;refine wpAny_Tuple_spliced (aW (h pos pins s σ H _ I hq) λus s1 ⟨xs,H1,I1,r,z,q⟩=>⟨by rw[← r.length];exact z,?_⟩)
 have hf:H1 s1.heap.objs.size=none:=I1.aO.fresh (bu _);refine⟨.ref s1.heap.objs.size,upd H1 s1.heap.objs.size (.tup xs),I1.laid (t':=s1.toks) (λb u e=>cK _ e) (bu _) ?_,rfl,q _ hf⟩;exact⟨z,us,r,⟨_,fM _ rfl,rfl,_,rfl⟩⟩
theorem eW(h:PA X es t):PE X (.List es pos) (GK t):=by
 intro pins s σ H Q I hq;refine wpAny_List_spliced (aW (h pos pins s σ H _ I hq) λus s1 ⟨xs,H1,I1,r,z,q⟩=>⟨by rw[← r.length];exact z,?_⟩)
 have hf:H1 s1.heap.objs.size=none:=I1.aO.fresh (bu _);refine⟨.ref s1.heap.objs.size,upd H1 s1.heap.objs.size (.lst xs),I1.laid (t':=s1.toks) (λb u e=>cK _ e) (bu _) ?_,rfl,q _ hf⟩;exact⟨z,us,0,r,fM _ rfl⟩
end
noncomputable abbrev Sp:=List V->Hp->VK->XK->Prop
noncomputable abbrev jq:=List Env->Hp->Shared->XK->Value->Shared->Prop
structure rG(P:Program)(w:World)(K:W.Frag)(mg:Str->Option Value)(base:Heap)(A:Around)(outer:List Env)(s:Shared)(H:Hp):Prop where
 frames:A.frames=some outer
 mod:Mod K mg base
 bs:∀b o,base.get? b=some o->s.heap.get? b=some o/\H b=none
 iU:base.objs.size<=s.heap.objs.size
 kP:s.heap.FunFrames base outer
 rm:∀b∈iE outer,H b=none
 aO:dO P w H s.heap
 bare:AllBare s.gens
noncomputable def CE(outer:List Env)(P:Program)(w:World)(H:Hp)(s:Shared)(Q:VK)(u:Value)(s':Shared):Prop :=
 ∃v H',s'.os=s.os/\AllBare s'.gens/\Un (iE outer) [] H H' s.heap s'.heap/\dO P w H' s'.heap/\RelV v u/\Q v H'
noncomputable def CR(CX:jq)(outer:List Env)(P:Program)(w:World)(H:Hp)(s:Shared)(Q:VK)(E:XK)(r:Result)(s':Shared):Prop :=
 match r with
 | .ok (.ret u)=>CE outer P w H s Q u s'
 | .ok _=>False
 | .error e=>CX outer H s E e s'
structure aY(P:Program)(w:World)(K:W.Frag)(mg:Str->Option Value)(base:Heap)(CX:jq)(k:Nat)(f:Addr)(fd:FuncData)(ps:List Str)(sp:Sp):Prop where
 len:∀vs H Q E,sp vs H Q E->vs.length=ps.length
 run:∀(A:Around) (outer:List Env) (s:Shared) (H:Hp) (args:Args) (us:List Value) (vs:List V) (Q:VK) (E:XK),dQ k A->rG P w K mg base A outer s H->BindsTo s fd args (ps.zip us)->Vals vs us->sp vs H Q E->
  codeAny (model P w) A (.call (.ref f) args) (CR CX outer P w H s Q E) s
theorem aY.mono{P:Program}{w:World}{K:W.Frag}{mg:Str->Option Value}{base:Heap}{CX:jq}{j k:Nat}{f:Addr}{fd:FuncData}{ps:List Str}{sp:Sp}(F:aY P w K mg base CX j f fd ps sp)(h:j<=k) :
  aY P w K mg base CX k f fd ps sp:=⟨F.len,λA outer s H args us vs Q E hr=>F.run A outer s H args us vs Q E (hr.mono h)⟩
theorem rG.make{P:Program}{w:World}{K:W.Frag}{mg:Str->Option Value}{base:Heap}{A:Around}{outer:List Env}{s:Shared}{H:Hp}(e:rG P w K mg base A outer s H)(C:Addr)(us:List Value)(kw:List (Str×Value)) :
  rG P w K mg base (A.under (.builtin "type.__call__" ⟨.ref C::us,kw⟩)) outer s H:=⟨by first | exact e.frames | (simpa[Around.under,Code.envs,Code.isFrame,pushEnvs] using e.frames),e.mod,e.bs,e.iU,e.kP,e.rm,e.aO,e.bare⟩
section
variable{X:Cx}{pins:List (Addr×Obj)}{σ:St}{H:Hp}{s s':Shared}
theorem Inv.Sk(I:Inv X pins σ H s):rG X.prog X.w X.K X.mg X.base X.A X.stack s H :=
 ⟨I.ok.frames,I.ok.mod,I.bs,cQ I.ok.iU I.sz,I.stack,I.FO,I.aO,I.bare⟩
theorem Inv.after{Q:VK}{u:Value}(I:Inv X pins σ H s)(h:CE X.stack X.prog X.w H s Q u s'):EP X pins σ Q u s':=by
 obtain⟨v,H',os,bare,un,aO,r,q⟩:=h;obtain⟨hh,g,d,t,os'⟩:=s';obtain rfl:os' = s.os:=os;exact⟨v,H',I.call (h':=hh) (g':=g) (d':=d) (t':=t) (ch:=[]) un aO bare (λb z=>absurd z (by simp)),r,q⟩
end
def B3(sp:Sp)(cM:List V)(E:XK)(t:TA):TE:=λσ H Q=>t σ H λvs H1=>sp (vs++cM) H1 Q E
def Sl(C:Addr)(m:Str)(sp:Sp)(cM:List V)(E:XK)(ta:TE)(t:TA):TE:=λσ H Q=>ta σ H λx H1=>∃a dx fs,x = .ref a/\H1 a=some (.ins C dx fs)/\fs.lookup m=none/\
 t σ H1 λvs H2=>sp (x::(vs++cM)) H2 Q E
def GL(C:Addr)(sp:Sp)(cM:List V)(E:XK)(t:TA):TE:=λσ H Q=>t σ H λvs H1=>∀x dx,H1 x=none->H1 dx=none->dx≠x->
 sp (.ref x::(vs++cM)) (upd (upd H1 dx (.own x)) x (.ins C dx [])) (λv H2=>v = .aU/\Q (.ref x) H2) E
noncomputable def Binds(K:W.Frag)(fd:FuncData)(ps:List Str)(ds:List Value):Prop :=
 ∀(s:Shared) (us:List Value),K.In s.heap->(us++ds).length=ps.length->BindsTo s fd ⟨us,[]⟩ (ps.zip (us++ds))
theorem Binds.all{K:W.Frag}{fd:FuncData}{ps:List Str}(h:∀us:List Value,us.length=ps.length->bindArgs fd ⟨us,[]⟩=pure (ps.zip us)):Binds K fd ps []:=λs us _ hl=>by
 rw[mJ] at hl ⊢;exact .of_eq (h us hl)
def Passes(CX:jq)(X:Cx)(E:XK):Prop:=∀(pins:List (Addr×Obj)) (σ:St) (H:Hp) (s:Shared) (e:Value) (s':Shared),Inv X pins σ H s->CX X.stack H s E e s'->X.xe e s'
section
variable{X:Cx}{CX:jq}{k:Nat}{f C:Addr}{fd:FuncData}{ps:List Str}{sp:Sp}{cM:List V}{ds:List Value}{E:XK}{x m:Str}{p pos apos:Pos}{e o:Expr}{es:List Expr}{ta:TE}{t:TA}
theorem B4{pins:List (Addr×Obj)}{σ:St}{H:Hp}{s:Shared}{Q:VK}{us:List Value}{vs:List V}(F:aY X.prog X.w X.K X.mg X.base CX k f fd ps sp)(hr:dQ k X.A)(hb:Binds X.K fd ps ds)(hd:Vals cM ds)(hx:Passes CX X E)
  (I:Inv X pins σ H s) (r:Vals vs us) (h:sp (vs++cM) H Q E):wpAny (model X.prog X.w) X.A (call (.ref f) us) (EP X pins σ Q) X.xe s:=by
 have r2:Vals (vs++cM) (us++ds):=r.append hd;have hl:(us++ds).length=ps.length:=by rw[← r2.length];exact F.len _ _ _ _ h
 refine wpAny_call (vC (F.run X.A X.stack s H ⟨us,[]⟩ (us++ds) (vs++cM) Q E hr I.Sk (hb s us I.eV hl) r2 h) λr s' hq=>?_);cases r with
 | error e=>exact hx pins σ H s e s' I hq
 | ok fl =>
  cases fl with
  | ret u=>exact I.after hq
  | next=>exact False.elim hq
  | brk=>exact False.elim hq
  | cont=>exact False.elim hq
theorem aZ(F:aY X.prog X.w X.K X.mg X.base CX k f fd ps sp)(hr:dQ k X.A)(hg:Gl X x)(hm:X.mg x=some (.ref f))(hk:PySem.W.keepIn X.K (.ref f)=true)(hb:Binds X.K fd ps ds)(hd:Vals cM ds)(hx:Passes CX X E)
  (ha:PA X (e::es) t) (qj:(x == ("__debug__" : Str))=false:=by decide) (he:starEach (e::es) X.env=(false,eval e X.env)::starEach es X.env:=by rfl) (kh:(backTo pos (starEach es X.env)).any (·.1)=false:=by rfl) :
  PE X (.Call (.Name x p) (e::es) [] pos) (B3 sp cM E t):=by
 intro pins s σ H Q I h;refine vD (BP I hg hm ?_ qj);refine Bv (h₀:=X.base) I.ok.mod.vH hk (aW (ha pos pins s σ H _ I h) λus s1 ⟨vs,H1,I1,r,q⟩=>⟨I1.eV,?_⟩) he kh;exact B4 F hr hb hd hx I1 r q
structure Mk(K:W.Frag)(C f:Addr):Prop where
 makes:PySem.W.makesIn K C=true
 init:PySem.W.findIn K (.ref C) "__init__" = some (some (.ref f))
 fn:PySem.W.isFn K (.ref f)=true
 kp:PySem.W.keepIn K (.ref C)=true
theorem abZ{pins:List (Addr×Obj)}{σ:St}{H:Hp}{s:Shared}{Q:VK}{us:List Value}{vs:List V}(M:Mk X.K C f)(F:aY X.prog X.w X.K X.mg X.base CX k f fd ps sp)(hr:dQ (k+1) X.A)(hb:Binds X.K fd ps ds)(hd:Vals cM ds)
  (hx:Passes CX X E) (I:Inv X pins σ H s) (r:Vals vs us)
  (h:∀x dx,H x=none->H dx=none->dx≠x->sp (.ref x::(vs++cM)) (upd (upd H dx (.own x)) x (.ins C dx [])) (λv H2=>v = .aU/\Q (.ref x) H2) E) :
  wpAny (model X.prog X.w) X.A (call (.ref C) us) (EP X pins σ Q) X.xe s:=by
 have hq:=h (s.heap.objs.size+1) s.heap.objs.size (I.aO.fresh (sR _)) (I.aO.fresh (bu _)) (cR (Bp _));have I2:=Inv.made (C:=C) I;have r2:Vals (V.ref (s.heap.objs.size+1)::(vs++cM)) (Value.ref (s.heap.objs.size+1)::(us++ds)):=.cons rfl (r.append hd);have hl:(Value.ref (s.heap.objs.size+1)::us++ds).length=ps.length:=by
  have e:=r2.length;rw[F.len _ _ _ _ hq] at e;exact e.symm
 refine wpAny_call (abS (f:=f) I.eV M.makes M.init (mR.mp M.fn) (vC (F.run _ X.stack _ _ ⟨Value.ref (s.heap.objs.size+1)::us,[]⟩ (Value.ref (s.heap.objs.size+1)::(us++ds)) _ _ E (hr.make C us [])
  (I2.Sk.make C us []) (hb _ (Value.ref (s.heap.objs.size+1)::us) I2.eV hl) r2 hq) λr s' ki=>?_))
 cases r with
 | error e=>exact hx pins σ _ _ e s' I2 ki
 | ok fl =>
  cases fl with
  | ret u =>
   obtain⟨v,H',I3,rv,ev,q3⟩:=I2.after ki;subst ev;exact⟨rv,⟨V.ref (s.heap.objs.size+1),H',I3,rfl,q3⟩⟩
  | next=>exact False.elim ki
  | brk=>exact False.elim ki
  | cont=>exact False.elim ki
theorem yE(M:Mk X.K C f)(F:aY X.prog X.w X.K X.mg X.base CX k f fd ps sp)(hr:dQ (k+1) X.A)(hg:Gl X x)(hm:X.mg x=some (.ref C))(hb:Binds X.K fd ps ds)(hd:Vals cM ds)(hx:Passes CX X E)
  (ha:PA X (e::es) t) (qj:(x == ("__debug__" : Str))=false:=by decide) (he:starEach (e::es) X.env=(false,eval e X.env)::starEach es X.env:=by rfl) (kh:(backTo pos (starEach es X.env)).any (·.1)=false:=by rfl) :
  PE X (.Call (.Name x p) (e::es) [] pos) (GL C sp cM E t):=by
 intro pins s σ H Q I h;refine vD (BP I hg hm ?_ qj);refine Bv (h₀:=X.base) I.ok.mod.vH M.kp (aW (ha pos pins s σ H _ I h) λus s1 ⟨vs,H1,I1,r,q⟩=>⟨I1.eV,?_⟩) he kh;exact abZ M F hr hb hd hx I1 r q
end
noncomputable def PK(X:Cx)(Sm:List Keyword)(t:TA):Prop :=
 ∀(pos:Pos) (pins:List (Addr×Obj)) (s:Shared) (σ:St) (H:Hp) (Q:List V->Hp->Prop),Inv X pins σ H s->t σ H Q->wpAny (model X.prog X.w) X.A (evalAll ((backToKw pos (keywordEach Sm X.env)).map (·.2))) (AP X pins σ Q) X.xe s
section
variable{X:Cx}{CX:jq}{k:Nat}{f C:Addr}{fd:FuncData}{ps ks:List Str}{sp:Sp}{E:XK}{x m:Str}{p pos apos apb:Pos}{e o:Expr}{es:List Expr}{Sm:List Keyword}{te ta:TE}{t tk:TA}{nm:Option Str}
variable{g:List Value->List Value->List Value}{gV:List V->List V->List V}
end
structure bH(N P:List Str)(sc:Scope):Prop where
 kind:sc.kind = .function
 co:sc.isCoroutine=false
 gen:sc.isGenerator=false
 nd:N.Nodup
 pre:N.take P.length=P
 par:∀x∈P,sc.names.lookup x=some .local\/sc.names.lookup x=some .cell
 ab0:∀y∈sc.names,y.2≠.free
theorem So{kindOf:Str->Option NameKind}{x:Str}:∀ {binds:List (Str×Value)} {m:Str->Option Value},(∀v,(x,v)∉binds)->bindL kindOf binds m x=m x
 | [],_,_=>rfl
 | (n,v)::r,m,h=>by
  unfold bindL;rw[So λw hw=>h w (bU _ hw)];split
  ·have:x≠n:=by rintro rfl;exact h v b8
   simp[this]
  ·rfl
theorem Sq{kindOf:Str->Option NameKind}{x:Str}:∀ {binds:List (Str×Value)} {m:Str->Option Value},(∀v,(x,v)∉binds)->bindC kindOf binds m x=m x
 | [],_,_=>rfl
 | (n,v)::r,m,h=>by
  unfold bindC;rw[Sq λw hw=>h w (bU _ hw)];split
  ·rfl
  ·have:x≠n:=by rintro rfl;exact h v b8
   simp[this]
theorem Ss{kindOf:Str->Option NameKind}{x:Str}{v:Value}:∀ {P:List Str} {vs:List Value} {i:Nat} {m:Str->Option Value},P.Nodup->P[i]? = some x->vs[i]? = some v->kindOf x=some .local->
  bindL kindOf (P.zip vs) m x=some v
 | [],_,_,_,_,h,_,_=>by simp at h
 | _::_,[],_,_,_,_,h,_=>by simp at h
 | p::P,w::vs,0,m,nd,h1,h2,hk=>by
  simp at h1 h2;subst h1;subst h2
  show bindL kindOf ((p,w)::P.zip vs) m p=_;unfold bindL;rw[So λv hv=>(kN.mp nd).1 (Bk hv).1,if_pos hk];simp
 | p::P,w::vs,i+1,m,nd,h1,h2,hk=>by
  show bindL kindOf ((p,w)::P.zip vs) m x=_;unfold bindL;exact Ss (i:=i) (kN.mp nd).2 (by simpa using h1) (by simpa using h2) hk
theorem Su{kindOf:Str->Option NameKind}{x:Str}{v:Value}:∀ {P:List Str} {vs:List Value} {i:Nat} {m:Str->Option Value},P.Nodup->P[i]? = some x->vs[i]? = some v->kindOf x≠some .local->
  bindC kindOf (P.zip vs) m x=some v
 | [],_,_,_,_,h,_,_=>by simp at h
 | _::_,[],_,_,_,_,h,_=>by simp at h
 | p::P,w::vs,0,m,nd,h1,h2,hk=>by
  simp at h1 h2;subst h1;subst h2
  show bindC kindOf ((p,w)::P.zip vs) m p=_;unfold bindC;rw[Sq λv hv=>(kN.mp nd).1 (Bk hv).1,if_neg hk];simp
 | p::P,w::vs,i+1,m,nd,h1,h2,hk=>by
  show bindC kindOf ((p,w)::P.zip vs) m x=_;unfold bindC;exact Su (i:=i) (kN.mp nd).2 (by simpa using h1) (by simpa using h2) hk
noncomputable def start(N:List Str)(vs:List V):St:=vs.map some++List.replicate (N.length - vs.length) none
noncomputable def qk(CX:jq)(P:Program)(w:World)(K:W.Frag)(mg:Str->Option Value)(base:Heap)(N:List Str)(qual:Str)(scope:Scope)(f:Addr)(cd:Value)(A:Around)(outer:List Env)(s:Shared)(H:Hp)(E:XK):Cx where
 prog:=P
 w:=w
 K:=K
 mg:=mg
 base:=base
 A:=A.deeper (envOfC qual scope s.heap.objs.size f cd)
 N:=N
 eg:=s
 sZ:=H
 env:=envOfC qual scope s.heap.objs.size f cd
 outer:=outer
 stack:=envOfC qual scope s.heap.objs.size f cd::outer
 ex:=[]
 calm:=true
 fn:=λ_=>true
 pn:=[]
 xe:=λe s'=>wpAny (model P w) (A.deeper (envOfC qual scope s.heap.objs.size f cd)) (leaving (envOfC qual scope s.heap.objs.size f cd) e) (λ_ vW=>CX outer H s E e vW) (λe' vW=>CX outer H s E e' vW) s'
theorem Sv{sc:Scope}{n:Nat}{x:Str}(h:sc.names.lookup x=some .cell):∃c,(cellsFrom n sc.names []).lookup x=some c:=by
 have q:=Bw sc.names n [] (.inl h);exact vq.mp q
theorem ab1{CX:jq}{P:Program}{w:World}{K:W.Frag}{mg:Str->Option Value}{base:Heap}{N ps:List Str}{qual:Str}{scope:Scope}{f:Addr}{cd:Value}{A:Around}{outer:List Env}{s s1:Shared}{H:Hp}{E:XK}{us:List Value}{vs:List V}
  (S:bH N ps scope) (hd:A.handled=none) (e0:rG P w K mg base A outer s H) (hl:vs.length=ps.length) (r:Vals vs us)
  (x:InCallC s s.heap.objs.size (bindL (envOfC qual scope s.heap.objs.size f cd).kindOf (ps.zip us) λ_=>none) (cellsFrom (s.heap.objs.size+1) scope.names []) (bindC (envOfC qual scope s.heap.objs.size f cd).kindOf (ps.zip us) λ_=>none) s1) :
  Inv (qk CX P w K mg base N qual scope f cd A outer s H E) [] (start N vs) H s1:=by
 have kh:ps.length<=N.length:=by have:=fR List.length S.pre;rw[dH] at this;lia
 obtain⟨h1,tk,rfl,hk⟩:=x.done;have yF:∀b:Addr,b∉(qk CX P w K mg base N qual scope f cd A outer s H E).ex:=λb z=>absurd (show b∈([]:List Addr) from z) (by simp)
 refine⟨⟨e0.mod,S.kind,rfl,rfl,bu _,λy z c h1 h2=>?_,λy hy=>?_,λy c _ h=>?_,λ_=>hd,Around.frames_deeper e0.frames,.inr ⟨rfl,rfl⟩,λb z=>absurd z (yF b),e0.bs,e0.iU,λb _ _=>yF b,λb z=>absurd z (yF b),e0.kP,e0.rm⟩,
  rfl,e0.bare,Un.kept hk,⟨_,x.toInCall.ns,λi y v h1 h2 h3=>?_⟩,λy c h=>⟨_,x.cell y c h⟩,e0.aO.fresh (bu _),λy c h=>?_,λp hp=>absurd (show p∈([]:List (Addr×Obj)) from hp) (by simp),e0.aO.kept hk,?_⟩
 ·exact name_of_addr x.apart (vv h1) (vv h2)
 ·have hy:scope.names.lookup y=some .cell\/scope.names.lookup y=some .free:=hy;rcases hy with hy | hy
  ·exact Sv hy
  ·exact absurd rfl (S.ab0 _ (vv hy))
 ·exact j0 (x.above y c (vv h))
 ·have hi:i<vs.length:=by
   unfold start at h2;by_cases hi:i<vs.length
   ·exact hi
   ·rw[d_ (by simpa using hi)] at h2
    rw[List.getElem?_replicate] at h2;split at h2 <;> cases h2
  have ha:vs[i]? = some v:=by
   unfold start at h2;rw[d9 (by simpa using hi),jZ] at h2
   cases e:vs[i]? with
   | none=>rw[e] at h2;cases h2
   | some a=>rw[e] at h2;cases h2;rfl
  obtain⟨u,hu,rv⟩:=r.get ha;have hp:ps[i]? = some y:=by
   rw[← S.pre,List.getElem?_take_of_lt ∅];exact h1
  have Sw:ps.Nodup:=by rw[← S.pre];exact S.nd.sublist (Fv _ _)
  refine⟨u,rv,?_⟩;rcases S.par y (g_ hp) with k | k
  ·exact .inl ⟨k,Ss Sw hp hu k⟩
  ·obtain⟨c,e⟩:=Sv (n:=s.heap.objs.size+1) k;refine .inr ⟨.inl k,c,e,?_⟩;have q:=x.cell y c e;rw[Su Sw hp hu (by show scope.names.lookup y≠_;rw[k];decide)] at q
   exact q
 ·exact e0.aO.fresh (j0 (x.above y c (vv h)))
 ·unfold start
  show _=N.length;rw[e_,aM,List.length_replicate];lia
theorem GN{CX:jq}{P:Program}{w:World}{K:W.Frag}{mg:Str->Option Value}{base:Heap}{k:Nat}{f:Addr}{name qual:Str}{params:Arguments}{body:List Stmt}{scope:Scope}{dV kV doc pm aQ ct oc:Value}{an od:Option Addr}
  {jJ:Array (Option Value)} {N ps:List Str} {sp:Sp} (lk:K.lookup f=some ⟨oc,od,.func (PySem.W.fnOf name qual params body scope dV kV doc pm an aQ ct),jJ⟩) (fZ:PySem.W.codeIn K aQ qual=true) (S:bH N ps scope)
  (len:∀vs H Q E,sp vs H Q E->vs.length=ps.length)
  (tQ:∀(A:Around) (outer:List Env) (s:Shared) (H:Hp) (vs:List V) (Q:VK) (E:XK),dQ k (A.deeper (envOfC qual scope s.heap.objs.size f aQ))->sp vs H Q E->
   ∃t,h_ (qk CX P w K mg base N qual scope f aQ A outer s H E) body t/\t { nx:=λ_ H'=>Q .aU H',rt:=Q } (start N vs) H) :
  aY P w K mg base CX (k+1) f (PySem.W.fnOf name qual params body scope dV kV doc pm an aQ ct) ps sp:=by
 refine⟨len,λA outer s H args us vs Q E hr e0 hb r dF=>?_⟩;have hl:=len _ _ _ _ dF;have KX:K.In s.heap:=e0.mod.vH.keeps λb o e=>(e0.bs b o e).1;have lim:s.heap.NoLimit:=e0.mod.nolimit.keeps λb o e=>(e0.bs b o e).1;have ab2:∀y∈ps.zip us,scope.names.lookup y.1=some .local\/(scope.names.lookup y.1=some .cell/\((cellsFrom (s.heap.objs.size+1) scope.names []).lookup y.1).isSome=true):=λ⟨n,v⟩ hy=>by
  rcases S.par n (Bk hy).1 with q | q
  ·exact .inl q
  ·exact .inr ⟨q,Bw _ _ _ (.inl q)⟩
 refine codeAny_call_function hr.depth (KX _ _ lk) rfl S.co S.gen rfl (PySem.W.codeRec_of KX fZ) (hb _ _ _ _ ?_);refine wpAny_newFunctionEnv_cells S.kind ab2 λenv he s1 x=>?_;subst he;refine⟨lim.keeps x.toInCall.keep,codeAny_func ?_⟩;obtain⟨t,ht,hq⟩:=tQ A outer s H vs Q E (hr.deeper _) dF;have I:Inv (qk CX P w K mg base N qual scope f aQ A outer s H E) [] (start N vs) H s1:=ab1 S hr.hd e0 hl r x;refine iS (ht [] s1 (start N vs) H _ I hq) (λfl s' hs=>?_) λe s' hs=>hs;have fin:∀ {bO:St} {H':Hp} {v:V} {u:Value},Inv (qk CX P w K mg base N qual scope f aQ A outer s H E) [] bO H' s'->RelV v u->Q v H'->CE outer P w H s Q u s' :=
  λ{bO H' v u} J rv q=>⟨v,H',J.os,J.bare,J.base,J.aO,rv,q⟩
 cases fl with
 | ret u =>
  obtain⟨v,bO,H',J,rv,q⟩:=hs;exact fin J rv q
 | next =>
  obtain⟨bO,H',J,q⟩:=hs;exact fin (v:=V.aU) (u:=Value.none) J rfl q
 | brk =>
  obtain⟨_,_,_,q⟩:=hs;exact False.elim q
 | cont =>
  obtain⟨_,_,_,q⟩:=hs;exact False.elim q
section
variable{X:Cx}{x:Str}{p pos:Pos}{e:Expr}{es:List Expr}{t:TA}{id T:String}{r:List V->Hp->VK->Prop}
def B5(r:List V->Hp->VK->Prop)(t:TA):TE:=λσ H Q=>t σ H λvs H1=>r vs H1 Q
theorem bX(hc:gY X (.builtin id) r)(hg:Gl X x)(hm:X.mg x=none)(hv:bootBuiltins x=some (.builtin id))(ha:PA X (e::es) t)(hn:x≠"__name__" := by decide)(qj:(x == ("__debug__" : Str))=false:=by decide)
  (he:starEach (e::es) X.env=(false,eval e X.env)::starEach es X.env:=by rfl) (kh:(backTo pos (starEach es X.env)).any (·.1)=false:=by rfl):PE X (.Call (.Name x p) (e::es) [] pos) (B5 r t):=by
 intro pins s σ H Q I h;refine vD (oM I hg hm hv ?_ hn qj);exact Rr (aW (ha pos pins s σ H _ I h) λus s1 ⟨vs,H1,I1,r1,q1⟩=>hc pins s1 σ H1 vs us Q I1 r1 q1) he kh
theorem kU(hc:gY X (.type T) r)(hg:Gl X x)(hm:X.mg x=none)(hv:bootBuiltins x=some (.type T))(ha:PA X (e::es) t)(hn:x≠"__name__" := by decide)(qj:(x == ("__debug__" : Str))=false:=by decide)
  (he:starEach (e::es) X.env=(false,eval e X.env)::starEach es X.env:=by rfl) (kh:(backTo pos (starEach es X.env)).any (·.1)=false:=by rfl):PE X (.Call (.Name x p) (e::es) [] pos) (B5 r t):=by
 intro pins s σ H Q I h;refine vD (oM I hg hm hv ?_ hn qj);exact vt (aW (ha pos pins s σ H _ I h) λus s1 ⟨vs,H1,I1,r1,q1⟩=>hc pins s1 σ H1 vs us Q I1 r1 q1) he kh
end
end _L
namespace _H
open PySem PyProof.Rows
noncomputable def lexLt:List Int->List Int->Bool
 | [],[]=>false
 | [],_::_=>true
 | _::_,[]=>false
 | x::xs,y::ys=>if x=y then lexLt xs ys else decide (x<y)
theorem ab3(x y:Int)(xs ys:List Int):lexLt (x::xs) (y::ys)=if x=y then lexLt xs ys else decide (x<y):=rfl
theorem ab4:lexLt [] [] = false:=rfl
theorem ab5(y:Int)(ys:List Int):lexLt [] (y::ys)=true:=rfl
theorem ab6(x:Int)(xs:List Int):lexLt (x::xs) [] = false:=rfl
theorem ab7(A:Around)(s:Shared)(a:Int)(t:Tok)(c:Int)(u:Tok):∃e,SeqAt.EqAt A s (.int a t) (.int c u) e/\(e=true↔a=c) :=
 ⟨(a == c),SeqAt.EqAt.int_int a t c u,by simp⟩
theorem GO(A:Around)(s:Shared)(a:Int)(t:Tok)(c:Int)(u:Tok)(prog:Program)(w:World)(E:Value->Shared->Prop)(Q:Value->Shared->Prop)(h:Q (.bool (decide (a<c))) s) :
  wpAny (model prog w) A (richCompare .Lt (.int a t) (.int c u)) Q E s :=
 (PyProof.Rows.lt_int h:wpAny (model prog w) A (compareOp .Lt (.int a t) (.int c u)) Q E s)
section
open PySem.SeqAt
open PySem.AutoSeq1 (wpAny_loadPart')
open PySem.MeetsSeq PySem.MeetsSeq2 PySem.MeetsSeq3
theorem ab8(l b:Addr)(items oU:Array Value)(n n2:Nat)(dd oV:Option Addr)(sl lO:Array (Option Value))(ns ms:List Int)(hi:IntsAre items.toList ns)(hj:IntsAre oU.toList ms) :
  Meets (Builtin.«tuple.__lt__» ⟨[.ref l,.ref b],[]⟩)
   (λ_ R s=>s.heap.get? l=some { cls:=.type "tuple",dict:=dd,data:=.seq items n,slots:=sl }/\s.heap.get? b=some { cls:=.type "tuple",dict:=oV,data:=.seq oU n2,slots:=lO }/\
    R (.ok (.ret (.bool (lexLt ns ms)))) s) :=
 .of_wp λprog w A R s h=>by
  obtain⟨hp,g,d,tk,os⟩:=s;obtain⟨hl,hb,h⟩:=h;have f2:=AutoSeq1.sub_tuple_tuple;have z1:items.size=ns.length:=by rw[← hi.length];simp
  have z2:oU.size=ms.length:=by rw[← hj.length];simp
  wp_walk using wpAny_loadPart' hl,wpAny_loadPart' hb,wpAny_forIn_list _ (λrest b s'=>b.1=none/\s' = ⟨hp,g,d,tk,os⟩/\∃(vs ws:List Value) (ie rH:List Int),rest=vs.zip ws/\
   IntsAre vs ie/\IntsAre ws rH/\ie.length+oU.size=rH.length+items.size/\R (.ok (.ret (.bool (lexLt ie rH)))) ⟨hp,g,d,tk,os⟩) _
  case turn =>
   rintro⟨y,x⟩ rest b s' ⟨iY,rfl,vs,ws,ie,rH,hz,GP,B6,hlen,hR⟩;cases GP with
   | nil=>rw[List.zip_nil_left] at hz;cases hz
   | cons a t ab9 =>
    cases B6 with
    | nil=>rw[List.zip_nil_right] at hz;cases hz
    | cons c u ab_ =>
     rw[List.zip_cons_cons] at hz;injection hz with hyx acd;injection hyx with hy hx;subst hy hx;rw[ab3] at hR;simp only[List.length_cons] at hlen;obtain⟨e,he,Sx⟩:=ab7 A.in1 ⟨hp,g,d,tk,os⟩ a t c u;refine wpAny_bind (he prog w _ _ ?_);cases e with
     | true =>
      rw[if_pos (Sx.mp rfl)] at hR;wp_walk;exact⟨rfl,rfl,_,_,_,_,acd,ab9,ab_,∅,hR⟩
     | false =>
      rw[if_neg (λq=>absurd (Sx.mpr q) Bool.false_ne_true)] at hR;have GQ:=GO A.in1 ⟨hp,g,d,tk,os⟩ a t c u prog w;wp_walk using GQ;exact⟨_,rfl,by simpa using hR⟩
  case fin =>
   rintro⟨b1,b2⟩ s' ⟨iY,rfl,vs,ws,ie,rH,hz,GP,B6,hlen,hR⟩;simp only at iY;subst iY;have hv:lexLt ie rH=decide (items.size<oU.size):=by
    cases GP with
    | nil =>
     cases B6 with
     | nil =>
      simp only[List.length_nil] at hlen;rw[ab4];exact(decide_eq_false ∅).symm
     | cons c u hw =>
      simp only[List.length_nil,List.length_cons] at hlen;rw[ab5];exact(decide_eq_true ∅).symm
    | cons a t hv =>
     cases B6 with
     | nil =>
      simp only[List.length_nil,List.length_cons] at hlen;rw[ab6];exact(decide_eq_false ∅).symm
     | cons c u hw =>
      rw[List.zip_cons_cons] at hz;cases hz
   rw[hv] at hR;wp_walk;exact⟨_,rfl,by simpa[Builtin.Tuple.tupleCompareSizes] using hR⟩
  case h =>
   exact⟨rfl,rfl,items.toList,oU.toList,ns,ms,rfl,hi,hj,∅,h⟩
end
section
variable{prog:Program}{w:World}{A:Around}{E:Value->Shared->Prop}{s:Shared}
theorem ace{l b:Addr}{items oU:Array Value}{ns ms:List Int}{Q:Value->Shared->Prop}(hl:IsTup s.heap l items)(hb:IsTup s.heap b oU)(hi:IntsAre items.toList ns)(hj:IntsAre oU.toList ms)
  (hu:A.units<cLine) (h:Q (.bool (lexLt ns ms)) s):wpAny (model prog w) A (compareOp .Lt (.ref l) (.ref b)) Q E s:=by
 obtain⟨⟨cls,dd,data,sl⟩,ho,hc,n,hd⟩:=id hl;obtain⟨⟨Sy,oV,data2,lO⟩,gZ,m_,n2,hd2⟩:=id hb;simp only at hc hd m_ hd2;subst hc hd m_ hd2;exact richCompare_meets_room (op:=.Lt) ⟨_,ho,rfl⟩ ⟨_,gZ,rfl⟩ PySem.F.slot_tuple_lt PySem.F.entry_tuple_lt (PySem.F.args_tuple_lt_2 _ _) (ab8 l b items oU n n2 dd oV sl lO ns ms hi hj)
  ⟨ho,gZ,show Value.bool (lexLt ns ms)≠Value.notImplemented/\Q (.bool (lexLt ns ms)) s from⟨(λx=>nomatch x),h⟩⟩ hu
theorem acf{t b:Addr}{vs ws:List Value}{Q:Value->Shared->Prop}(ht:IsTup s.heap t vs.toArray)(hb:IsTup s.heap b ws.toArray)(hv:vs≠[])
  (h1:ws = []->Q (.ref t) s) (h2:ws≠[]->Q (.ref s.heap.objs.size) { s with heap:=s.heap.push { cls:=.type "tuple",data:=.seq (vs++ws).toArray }})
  (hsz:vs.length+ws.length<=sizeLine):wpAny (model prog w) A (binaryOp .Add (.ref t) (.ref b)) Q E s:=by
 obtain⟨⟨cls,dd,data,sl⟩,ho,hc,n,hd⟩:=id ht;obtain⟨⟨Sy,oV,data2,lO⟩,gZ,m_,n2,hd2⟩:=id hb;simp only at hc hd m_ hd2;subst hc hd m_ hd2;have e:vs.toArray++ws.toArray=(vs++ws).toArray:=by simp
 by_cases hw:ws = []
 ·exact concat_meets ⟨_,ho,rfl⟩ ⟨_,gZ,rfl⟩ noFill_tuple_add seq_tuple_add PySem.F.slot_tuple_add PySem.F.entry_tuple_add (PySem.F.args_tuple_add_2 _ _)
   (tuple_addW1 t b vs.toArray ws.toArray n n2 dd oV sl lO (by simpa using hv) (by simp[hw])) ⟨ho,gZ,h1 hw⟩
 ·refine concat_meets ⟨_,ho,rfl⟩ ⟨_,gZ,rfl⟩ noFill_tuple_add seq_tuple_add PySem.F.slot_tuple_add PySem.F.entry_tuple_add (PySem.F.args_tuple_add_2 _ _)
   (tuple_addW2 t b vs.toArray ws.toArray n n2 dd oV sl lO (by simpa using hv) (by simpa using hw) (by rw[List.size_toArray,List.size_toArray];exact hsz)) ⟨ho,gZ,?_⟩
  rw[e];exact h2 hw
noncomputable def bQ(n d:Nat):Option Int->Nat
 | none=>d
 | some v=>if v<0 then(v+(n:Int)).toNat else min v.toNat n
theorem acg(n d k:Nat):bQ n d (some (k:Int))=min k n:=by
 show (if (k:Int)<0 then((k:Int)+(n:Int)).toNat else min (k:Int).toNat n)=min k n
 rw[if_neg ∅,Int.toNat_natCast]
theorem ach(n d:Nat)(hd:d<=n)(o:Option Int):bQ n d o<=n:=by
 cases o with
 | none=>exact hd
 | some v =>
  show (if v<0 then(v+(n:Int)).toNat else min v.toNat n)<=n
  by_cases hv:v<0
  ·rw[if_pos hv];lia
  ·rw[if_neg hv];exact Nat.min_le_right _ _
theorem Sz(v:Int)(n d:Nat):(if v<0 then max (v+(n:Int)) 0 else min v (n:Int))=((bQ n d (some v):Nat):Int):=by
 show (if v<0 then max (v+(n:Int)) 0 else min v (n:Int))=(((if v<0 then(v+(n:Int)).toNat else min v.toNat n):Nat):Int)
 by_cases hv:v<0
 ·simp only[if_pos hv];lia
 ·simp only[if_neg hv];lia
theorem aci(lo hi:Option Int)(n:Nat):Builtin.Slice.sliceAdjust lo hi 1 (n:Int)=(((bQ n 0 lo:Nat):Int),((bQ n n hi:Nat):Int)):=by
 have h1:¬ ((1:Int)<0):=by lia
 unfold Builtin.Slice.sliceAdjust;simp only[h1,if_false];refine Prod.ext ?_ ?_
 ·cases lo with
  | none=>rfl
  | some v=>exact Sz v n 0
 ·cases hi with
  | none=>rfl
  | some v=>exact Sz v n n
theorem acj(i j:Nat):Builtin.Slice.slicePlaces (i:Int) (j:Int) 1=j - i:=by
 unfold Builtin.Slice.slicePlaces;have h1:(1:Int) > 0:=by lia
 simp only[h1,if_true,Int.ediv_one];split <;> lia
theorem SA{v:Value}{o:Option Int}{Q:Option Int->Shared->Prop}(p:IsPart v o)(h:Q o s):wpAny (model prog w) A (Builtin.Slice.slicePartIndex v) Q E s:=by
 cases p with
 | none=>exact slicePart_none h
 | int i t=>exact slicePart_int h
theorem ack{sl:Addr}{vl vu:Value}{lo hi:Option Int}{n:Nat}{Q:Int×Int×Nat->Shared->Prop}(hs:s.heap.IsSliceOf sl vl vu .none)(pl:IsPart vl lo)(pu:IsPart vu hi)
  (h:Q (((bQ n 0 lo:Nat):Int),1,bQ n n hi - bQ n 0 lo) s):wpAny (model prog w) A (Builtin.Slice.sliceApplied (.ref sl) (pure (n:Int))) Q E s:=by
 obtain⟨os,ql,SD,B7⟩:=id hs;unfold Builtin.Slice.sliceApplied Builtin.Slice.sliceFields;refine wpAny_bind (wpAny_bind (wpAny_field ql B7 (x:=vl) rfl (wpAny_bind (wpAny_field ql B7 (x:=vu) rfl (wpAny_bind (wpAny_field ql B7 (x:=.none) rfl (wpAny_pure ?_)))))));refine wpAny_bind (slicePart_none ?_)
 show wpAny _ _ (if ((1:Int) == 0)=true then _ else _) _ _ s
 rw[if_neg ⋯]
 refine wpAny_bind (SA pl (wpAny_bind (SA pu (wpAny_bind (wpAny_pure ?_)))))
 show wpAny _ _ (match Builtin.Slice.sliceAdjust lo hi 1 (n:Int) with | (lo,hi)=>pure (lo,(1:Int),Builtin.Slice.slicePlaces lo hi 1)) _ _ s
 rw[aci lo hi n]
 show wpAny _ _ (pure (((bQ n 0 lo:Nat):Int),(1:Int),Builtin.Slice.slicePlaces ((bQ n 0 lo:Nat):Int) ((bQ n n hi:Nat):Int) 1)) _ _ s;rw[acj];exact wpAny_pure h
theorem acm(xs:Array Value)(i k:Nat):((List.range k).filterMap λ(m:Nat)=>xs[((i:Int)+(m:Int)*1).toNat]?).toArray=((xs.toList.drop i).take k).toArray:=by
 have e:(λ(m:Nat)=>xs[((i:Int)+(m:Int)*1).toNat]?)=λm=>xs[i+m]? := by
  funext m
  have:((i:Int)+(m:Int)*1).toNat=i+m:=by lia
  rw[this]
 rw[e];have:=pick_run xs i k;rw[List.filterMap_map] at this;have e2:((λx=>xs[x]?) ∘ λx=>i+x)=λm=>xs[i+m]? := rfl;rw[e2] at this;rw[this]
theorem acn{t sl:Addr}{items:Array Value}{vl vu:Value}{lo hi:Option Int}{Q:Value->Shared->Prop}(ht:IsTup s.heap t items)(hs:s.heap.IsSliceOf sl vl vu .none)(pl:IsPart vl lo)(pu:IsPart vu hi)
  (hw:¬ (bQ items.size 0 lo=0/\bQ items.size items.size hi=items.size))
  (h:Q (.ref s.heap.objs.size) { s with heap:=s.heap.push { cls:=.type "tuple",data:=.seq ((items.toList.drop (bQ items.size 0 lo)).take (bQ items.size items.size hi - bQ items.size 0 lo)).toArray }})
  (hsz:items.size<=sizeLine):wpAny (model prog w) A (getItem (.ref t) (.ref sl)) Q E s:=by
 have B8:sizeOk (.seq ((items.toList.drop (bQ items.size 0 lo)).take (bQ items.size items.size hi - bQ items.size 0 lo)).toArray):=by
  show ((items.toList.drop (bQ items.size 0 lo)).take (bQ items.size items.size hi - bQ items.size 0 lo)).toArray.size<=sizeLine;rw[List.size_toArray,List.length_take,List.length_drop,Array.length_toList];lia
 have hj:bQ items.size items.size hi<=items.size:=ach _ _ (Nat.le_refl _) hi;obtain⟨os,ql,SD,B7⟩:=id hs;have hTs:s.TypeIs (.ref sl) "slice" := ⟨os,ql,SD⟩;unfold getItem
 try with_reducible refine wpAny_holding ?_
 first | refine wpAny_bind (wpAny_pure ?_) | skip
 refine wpAny_bind (wpAny_sequenceKey ht.typeIs ⋯ ?_)
 refine wpAny_bind (wpAny_callSpecial?_slot (name:=Str.ofString "__getitem__") ht.typeIs PyProof.Rows.slot_tuple_getitem
  (wpAny_call_entry PyProof.Rows.slot_tuple_getitem ht.typeIs entry_tuple_getitem ?_ (args_tuple_getitem _ _)))
 show wpAny _ _ (Builtin.Tuple.tupleItemsOf (.ref t) >>= _) _ _ s;refine wpAny_bind (tupleItemsOf_ ht ?_);refine wpAny_bind (wpAny_typeOf hTs ?_);rw[if_pos ⋯]
 refine wpAny_bind (ack hs pl pu ?_);have tR:¬ ((((bQ items.size 0 lo:Nat):Int) == 0 && (1:Int) == 1 && (bQ items.size items.size hi - bQ items.size 0 lo) == items.size)=true):=by
  intro q;rw[Bool.and_eq_true,Bool.and_eq_true] at q;have q1:((bQ items.size 0 lo:Nat):Int)=0:=eq_of_beq q.1.1;have q2:bQ items.size items.size hi - bQ items.size 0 lo=items.size:=eq_of_beq q.2;exact hw ⟨∅,∅⟩
 show wpAny _ _ (if (((bQ items.size 0 lo:Nat):Int) == 0 && (1:Int) == 1 && (bQ items.size items.size hi - bQ items.size 0 lo) == items.size)=true then _ else _) _ _ s
 rw[if_neg tR,acm]
 first
  | exact wpAny_bind (m:=Builtin.Tuple.tupleExact _) (wpAny_newObj_type (wpAny_pure ⟨_,rfl,wpAny_pure h⟩) B8)
  | exact wpAny_bind (m:=Builtin.Tuple.tupleExact _) (wpAny_newObj_type (wpAny_bind (wpAny_pure (wpAny_pure ⟨_,rfl,wpAny_pure h⟩))) B8)
  | exact wpAny_bind (wpAny_bind (m:=Builtin.Tuple.tupleExact _) (wpAny_newObj_type (wpAny_pure (wpAny_pure ⟨_,rfl,wpAny_pure h⟩)) B8))
  | exact wpAny_bind (wpAny_bind (m:=Builtin.Tuple.tupleExact _) (wpAny_newObj_type (wpAny_pure ⟨_,rfl,wpAny_pure h⟩) B8))
end
end _H
namespace _L
open PySem PySem.Spec PyProof.Rows
noncomputable abbrev TO:=St->Hp->(Option Int->Hp->Prop)->Prop
noncomputable def PO(X:Cx)(e:Option Expr)(t:TO):Prop :=
 ∀(pins:List (Addr×Obj)) (s:Shared) (σ:St) (H:Hp) (Q:Option Int->Hp->Prop),Inv X pins σ H s->t σ H Q->
  wpAny (model X.prog X.w) X.A (evalPart e X.env) (λu s'=>∃o H',Inv X pins σ H' s'/\IsPart u o/\Q o H') X.xe s
def GR:TO:=λ_ H Q=>Q none H
def GS(t:TE):TO:=λσ H Q=>t σ H λx H1=>∃i,x = .int i/\Q (some i) H1
theorem intsAre_of{ns:List Int}:∀ {us:List Value},Vals (ns.map V.int) us->IntsAre us ns:=by
 induction ns with
 | nil=>intro us r;rw[List.map_nil] at r;cases r;exact .nil
 | cons n ns ih =>
  intro us r;rw[cH] at r;cases r with
  | cons r1 r2 =>
   obtain⟨t,e⟩:=r1;subst e;exact .cons n t (ih r2)
section
variable{X:Cx}{e:Expr}{te:TE}{lo hi:Option Expr}{tl th:TO}{pos p2:Pos}
theorem tT:PO X none GR:=by
 intro pins s σ H Q I h;rw[evalPart_none];exact bq ⟨none,H,I,.none,h⟩
theorem tU(h:PE X e te):PO X (some e) (GS te):=by
 intro pins s σ H Q I hw;rw[evalPart_some];refine aW (h pins s σ H _ I hw) λu s1 ⟨x,H1,I1,r1,q1⟩=>?_;obtain⟨i,rfl,q⟩:=q1;obtain⟨t,rfl⟩:=r1;exact⟨some i,H1,I1,.int i t,q⟩
noncomputable def GU(X:Cx)(r:V->Option Int->Option Int->Hp->VK->Prop):Prop :=
 ∀(pins:List (Addr×Obj)) (s:Shared) (σ:St) (H:Hp) (x:V) (v vl vu:Value) (lo hi:Option Int) (sl:Addr) (Q:VK),Inv X pins σ H s->RelV x v->s.heap.IsSliceOf sl vl vu .none->IsPart vl lo->IsPart vu hi->r x lo hi H Q->
  ∃T id,typeLookup (.type T) "__getitem__" = pure (some (.builtin id))/\s.TypeIs v T/\wpAny (model X.prog X.w) X.A (getItem v (.ref sl)) (EP X pins σ Q) X.xe s
def GV(r:V->Option Int->Option Int->Hp->VK->Prop)(te:TE)(tl th:TO):TE:=λσ H Q=>te σ H λx H1=>tl σ H1 λl H2=>th σ H2 λu H3=>r x l u H3 Q
theorem tV{r:V->Option Int->Option Int->Hp->VK->Prop}(hr:GU X r)(he:PE X e te)(hl:PO X lo tl)(hu:PO X hi th):PE X (.Subscript e (.Slice lo hi none p2) pos) (GV r te tl th):=by
 intro pins s σ H Q I h;refine Subscript_ (aW (he pins s σ H _ I h) λv s1 ⟨x,H1,I1,r1,q1⟩=>?_);refine wpAny_Slice (aW (hl pins s1 σ H1 _ I1 q1) λvl s2 ⟨l,H2,I2,pl,q2⟩=>aW (hu pins s2 σ H2 _ I2 q2) λvu s3 ⟨u,H3,I3,pu,q3⟩=>?_);rw[evalPart_none];refine bq ?_;have I4:Inv X pins σ H3 { s3 with heap:=s3.heap.push { cls:=.type "slice",data:=.fields #[vl,vu,.none] }}:=I3.kept (t':=s3.toks) λb ob q=>cK _ q;obtain⟨T,id,hT,ht,hg⟩:=hr pins { s3 with heap:=s3.heap.push { cls:=.type "slice",data:=.fields #[vl,vu,.none] }} σ H3 x v vl vu l u s3.heap.objs.size Q I4 r1 (Heap.IsSliceOf.new ..) pl pu q3
 show wpAny (model X.prog X.w) X.A (subscriptTail e (.Slice lo hi none p2) v (.ref s3.heap.objs.size)) (EP X pins σ Q) X.xe { s3 with heap:=s3.heap.push { cls:=.type "slice",data:=.fields #[vl,vu,.none] }};exact tail_any (ops:=[.ref s3.heap.objs.size,v]) ht hT hg (by with_unfolding_all rfl)
noncomputable def iG(xs:List V)(lo hi:Option Int):List V:=(xs.drop (_H.bQ xs.length 0 lo)).take (_H.bQ xs.length xs.length hi - _H.bQ xs.length 0 lo)
theorem SE(xs:List V)(lo hi:Option Int):(iG xs lo hi).length<=xs.length:=by
 unfold iG;rw[dH,ve];lia
def aco(K:W.Frag):V->Option Int->Option Int->Hp->VK->Prop:=λx lo hi H Q=>∃a xs,x = .ref a/\aL K H a xs/\
 ¬ (_H.bQ xs.length 0 lo=0/\_H.bQ xs.length xs.length hi=xs.length)/\∀p,H p=none->Q (.ref p) (upd H p (.tup (iG xs lo hi)))
theorem GW:GU X (aco X.K):=by
 intro pins s σ H x v vl vu lo hi sl Q I rx hs pl pu h;obtain⟨a,xs,rfl,hx,hw,q⟩:=h;cases rx;obtain⟨aB,r,ht,hz⟩:=I.tuple hx;have hlen:aB.toArray.size=xs.length:=by rw[gB];exact r.length.symm
 refine⟨"tuple",_,PyProof.Rows.slot_tuple_getitem.lookup,ht.typeIs,?_⟩;refine _H.acn ht hs pl pu (by rw[hlen];exact hw) ?_ (by rw[hlen];exact hz)
 rw[hlen];refine⟨.ref s.heap.objs.size,_,I.laid (t':=s.toks) (o:=.tup (iG xs lo hi)) (λb ob q=>cK _ q) (bu _) ?_,rfl,q _ (I.aO.fresh (bu _))⟩;exact⟨cQ (SE xs lo hi) hz,_,(r.drop (_H.bQ xs.length 0 lo)).take (_H.bQ xs.length xs.length hi - _H.bQ xs.length 0 lo),IsTup.new _ _⟩
def GX(K:W.Frag):R2:=λx y H Q=>∃a b xs ys,x = .ref a/\y = .ref b/\aL K H a xs/\aL K H b ys/\xs≠[]/\xs.length+ys.length<=sizeLine/\
 (ys = []->Q (.ref a) H)/\(ys≠[]->∀p,H p=none->Q (.ref p) (upd H p (.tup (xs++ys))))
theorem Vals.B9{xs:List V}{us:List Value}(r:Vals xs us):us = []↔xs = []:=by
 cases r with
 | nil=>simp
 | cons _ _=>simp
theorem GY:cC X (binaryOp .Add) (GX X.K):=by
 intro pins s σ H x y v u Q I rx ry h;obtain⟨a,b,xs,ys,rfl,rfl,ha,hb,hx,hz,q1,q2⟩:=h;cases rx;cases ry;obtain⟨aB,r1,p1,_⟩:=I.tuple ha;obtain⟨gc,r2,p2,_⟩:=I.tuple hb;refine _H.acf p1 p2 (λz=>hx (r1.B9.mp z)) (λz=>⟨.ref a,H,I,rfl,q1 (r2.B9.mp z)⟩) (λz=>?_) (by rw[← r1.length,← r2.length];exact hz)
 refine⟨.ref s.heap.objs.size,_,I.laid (t':=s.toks) (o:=.tup (xs++ys)) (λb ob q=>cK _ q) (bu _) ?_,rfl,q2 (λw=>z (r2.B9.mpr w)) _ (I.aO.fresh (bu _))⟩;exact⟨by rw[e_];exact hz,_,r1.append r2,IsTup.new _ _⟩
end
noncomputable def jr(n:Nat)(i:Int):Option Nat:=if 0<=i then(if i<n then some i.toNat else none) else if -(n:Int)<=i then some (i+n).toNat else none
noncomputable def fq{α:Type}(xs:List α)(i:Int):Option α:=(jr xs.length i).bind λj=>xs[j]?
theorem SG{n:Nat}{i:Int}{j:Nat}(h:jr n i=some j):seqIndex? i n=some j/\j<n/\-(n:Int)<=i/\i<n:=by
 unfold jr at h;by_cases h0:0<=i
 ·rw[if_pos h0] at h;by_cases h1:i<n
  ·rw[if_pos h1] at h;have e:i.toNat=j:=eN h;exact⟨by rw[seqIndex_of h0 h1,e],∅,∅,h1⟩
  ·rw[if_neg h1] at h;cases h
 ·rw[if_neg h0] at h;by_cases h1 : -(n:Int)<=i
  ·rw[if_pos h1] at h;have e:(i+n).toNat=j:=eN h;exact⟨by rw[seqIndex_neg ∅ h1,e],∅,h1,∅⟩
  ·rw[if_neg h1] at h;cases h
theorem SH{α:Type}{xs:List α}{i:Int}{v:α}(h:fq xs i=some v):∃j,seqIndex? i xs.length=some j/\xs[j]? = some v/\j<xs.length/\-(xs.length:Int)<=i/\i<xs.length:=by
 unfold fq at h;cases e:jr xs.length i with
 | none=>rw[e] at h;cases h
 | some j =>
  rw[e] at h;obtain⟨h1,h2,h3,h4⟩:=SG e;exact⟨j,h1,h,h2,h3,h4⟩
theorem rJ{α:Type}{xs:List α}{j:Nat}{v:α}(h:xs[j]? = some v):fq xs (j:Int)=some v:=by
 have hj:j<xs.length:=(iB.mp h).1;have e:jr xs.length (j:Int)=some j:=by
  unfold jr;rw[if_pos ∅,if_pos ∅];simp
 unfold fq;rw[e];exact h
def acp(b:Expr):Prop:=∀o i,subscripted b false o i=operate [o,i] (getItem o i)
noncomputable def lP(X:Cx)(r:R2):Prop :=
 ∀(value slice:Expr) (pins:List (Addr×Obj)) (s:Shared) (σ:St) (H:Hp) (x y:V) (v u:Value) (Q:VK),Inv X pins σ H s->RelV x v->RelV y u->r x y H Q->
  subscripted slice false v u=operate [v,u] (getItem v u)->wpAny (model X.prog X.w) X.A (subscriptTail value slice v u) (EP X pins σ Q) X.xe s
noncomputable def SI(X:Cx)(id:String)(r:V->List V->Hp->VK->Prop):Prop :=
 ∀(pins:List (Addr×Obj)) (s:Shared) (σ:St) (H:Hp) (x:V) (xs:List V) (v:Value) (us:List Value) (Q:VK),Inv X pins σ H s->RelV x v->Vals xs us->r x xs H Q->
  wpAny (model X.prog X.w) X.A (call (.builtin id) (v::us)) (EP X pins σ Q) X.xe s
section
variable{X:Cx}{a b:Expr}{ta tb:TE}{pos:Pos}
theorem aH{r:R2}(hr:lP X r)(ha:PE X a ta)(hb:PE X b tb)(hs:acp b):PE X (.Subscript a b pos) (vP r ta tb):=by
 intro pins s σ H Q I h;exact Subscript_ (Gw ha hb I h λv u s2 x y H2 I2 rx ry q=>hr a b pins s2 σ H2 x y v u Q I2 rx ry q (hs _ _))
def yG(K:W.Frag):R2:=λx y H Q=>∃p xs i v,x = .ref p/\y = .int i/\az K H p xs/\fq xs i=some v/\Q v H
def yH(K:W.Frag):R2:=λx y H Q=>∃p xs i v,x = .ref p/\y = .int i/\aL K H p xs/\fq xs i=some v/\Q v H
theorem oW:lP X (yG X.K):=by
 intro value slice pins s σ H x y v u Q I rx ry h hs;obtain⟨p,xs,i,z,rfl,rfl,hq,he,q⟩:=h;cases rx;obtain⟨t,rfl⟩:=ry;obtain⟨aB,r,pl,hz⟩:=I.list hq;obtain⟨j,h1,h2,h3,h4,h5⟩:=SH he;obtain⟨w,ew,ng⟩:=r.get h2;have hl:=r.length;have hn:=yC;have fin:EP X pins σ Q w s:=⟨z,H,I,ng,q⟩;by_cases h0:0<=i
 ·have hj:i.toNat=j:=by
   rw[seqIndex_of h0 h5] at h1;exact eN h1
  exact item_listR pl.isList h0 ∅ (by rw[hj];simpa using ew) fin hs
 ·have hj:(i+(aB.toArray.size:Int)).toNat=j:=by
   rw[seqIndex_neg ∅ h4] at h1
   rw[gB,← hl];exact eN h1
  exact subscriptTail_builtinR (x:=w) pl.isList.typeIs slot_list_getitem.lookup
   (wpAny_getItem_list_neg (Q:=λr s'=>r=w/\EP X pins σ Q r s') pl.isList ∅ (by rw[gB] <;> lia) ∅ (by rw[hj];simpa using ew) ⟨rfl,fin⟩) hs
theorem tW:lP X (yH X.K):=by
 intro value slice pins s σ H x y v u Q I rx ry h hs;obtain⟨p,xs,i,z,rfl,rfl,hq,he,q⟩:=h;cases rx;obtain⟨t,rfl⟩:=ry;obtain⟨aB,r,pl,hz⟩:=I.tuple hq;obtain⟨j,h1,h2,h3,h4,h5⟩:=SH he;obtain⟨w,ew,ng⟩:=r.get h2;have hl:=r.length;have hn:=yC;have fin:EP X pins σ Q w s:=⟨z,H,I,ng,q⟩;exact subscriptTail_builtinR (x:=w) pl.typeIs slot_tuple_getitem.lookup
  (getItem_tuple (j:=j) (Q:=λr s'=>r=w/\EP X pins σ Q r s') pl ∅ ∅ (by rw[gB,← hl];exact h1) (by simpa using ew) ⟨rfl,fin⟩) hs
theorem acq(aB:List Value)(n j:Nat)(u:Value):Obj.mapSeq (·.setIfInBounds j u) { cls:=.type "list",data:=.seq aB.toArray n } = { cls:=.type "list",data:=.seq (aB.set j u).toArray n }:=by
 simp[Obj.mapSeq]
theorem Inv.lst{pins:List (Addr×Obj)}{σ:St}{H:Hp}{s:Shared}{p:Addr}{xs:List V}(I:Inv X pins σ H s)(h:H p=some (.lst xs)) :
  ∃(aB:List Value) (n:Nat),Vals xs aB/\s.heap.get? p=some { cls:=.type "list",data:=.seq aB.toArray n }/\xs.length<=sizeLine:=by
 obtain⟨z,aB,n,r,e⟩:=I.aO p _ h;exact⟨aB,n,r,e,z⟩
theorem Inv.acr{pins:List (Addr×Obj)}{σ:St}{H:Hp}{s:Shared}{p:Addr}{xs ys:List V}{aB its':List Value}{n n':Nat}{f:Obj->Obj}(I:Inv X pins σ H s)(h:H p=some (.lst xs))
  (ho:s.heap.get? p=some { cls:=.type "list",data:=.seq aB.toArray n }) (hf:f { cls:=.type "list",data:=.seq aB.toArray n } = { cls:=.type "list",data:=.seq its'.toArray n' }) (r:Vals ys its') (hz:ys.length<=sizeLine) (t:Nat) :
  Inv X pins σ (upd H p (.lst ys)) { s with heap:=s.heap.update p f,toks:=t }:=by
 have e:(s.heap.update p f).get? p=some { cls:=.type "list",data:=.seq its'.toArray n' }:=by
  rw[xT f ho (by rw[hf] <;> rfl),hf]
 refine I.write (x:=p) (e:=p) (by rw[h];trivial) (.inl rfl) (λb u hb q=>(Heap.get?_update_other _ _ (iC hb)).trans q) ⟨_,e⟩ ?_
 exact⟨hz,its',n',r,e⟩
def GZ:V->V->V->Hp->(Hp->Prop)->Prop:=λo i v H Q=>∃p xs k j,o = .ref p/\i = .int k/\H p=some (.lst xs)/\jr xs.length k=some j/\Q (upd H p (.lst (xs.set j v)))
theorem set_list:RV X GZ:=by
 intro pins s σ H o i v ov iv u Q I ro ri rv h;obtain⟨p,xs,k,j,rfl,rfl,hp,hj,q⟩:=h;cases ro;obtain⟨t,rfl⟩:=ri;obtain⟨aB,n,r,ho,hz⟩:=I.lst hp;obtain⟨h1,h2,h3,h4⟩:=SG hj;have hl:=r.length;have hn:=yC;have I':Inv X pins σ (upd H p (.lst (xs.set j v))) { s with heap:=s.heap.update p (Obj.mapSeq (·.setIfInBounds j u))} :=
  I.acr hp ho (acq aB n j u) (r.set rv j) (by rw[mL];exact hz) s.toks
 by_cases h0:0<=k
 ·have hk:k.toNat=j:=by
   rw[seqIndex_of h0 h4] at h1;exact eN h1
  exact PySem.W.ki_setAt ho h0 ∅ (by rw[gB,← hl];exact h4) (by rw[hk];exact⟨_,I',q⟩)
 ·have hk:(k+(aB.toArray.size:Int)).toNat=j:=by
   rw[seqIndex_neg ∅ h3] at h1
   rw[gB,← hl];exact eN h1
  exact PySem.W.ki_setBack ho ∅ (by rw[gB,← hl];exact h3) ∅ (by rw[hk];exact⟨_,I',q⟩)
theorem acs(lo hi:Option Int)(n:Nat):(sliceBounds lo hi none n).1=((_H.bQ n 0 lo:Nat):Int)/\(sliceBounds lo hi none n).2.1=((_H.bQ n n hi:Nat):Int)/\(sliceBounds lo hi none n).2.2=1:=by
 refine⟨?_,?_,rfl⟩
 ·cases lo with
  | none=>simp[sliceBounds,_H.bQ]
  | some i =>
   simp only[sliceBounds,_H.bQ,Option.getD_none,show (1:Int) > 0 by decide,if_true]
   by_cases h:i<0
   ·simp only[h,if_true] <;> lia
   ·simp only[h,if_false] <;> lia
 ·cases hi with
  | none=>simp[sliceBounds,_H.bQ]
  | some i =>
   simp only[sliceBounds,_H.bQ,Option.getD_none,show (1:Int) > 0 by decide,if_true]
   by_cases h:i<0
   ·simp only[h,if_true] <;> lia
   ·simp only[h,if_false] <;> lia
theorem acu(aB:List Value)(lo hi:Option Int):slicePick aB.toArray lo hi none=((aB.drop (_H.bQ aB.length 0 lo)).take (_H.bQ aB.length aB.length hi - _H.bQ aB.length 0 lo)).toArray:=by
 obtain⟨h1,h2,h3⟩:=acs lo hi aB.toArray.size;unfold slicePick;rw[h1,h2,h3];simp only[sliceRange_one,pick_run,List.size_toArray] <;> rfl
def G0(K:W.Frag):V->Option Int->Option Int->Hp->VK->Prop:=λx lo hi H Q=>∃a xs,x = .ref a/\az K H a xs/\∀p,H p=none->Q (.ref p) (upd H p (.lst (iG xs lo hi)))
theorem B_:GU X (G0 X.K):=by
 intro pins s σ H x v vl vu lo hi sl Q I rx hs pl pu h;obtain⟨a,xs,rfl,hx,q⟩:=h;cases rx;obtain⟨aB,r,ht,hz⟩:=I.list hx;have hlen:=r.length;refine⟨"list",_,slot_list_getitem.lookup,ht.isList.typeIs,?_⟩;refine wpAny_getItem_list_slice ht.isList hs pl pu .none (by simp) ?_ (by rw[List.size_toArray] <;> lia)
 rw[acu,← hlen];refine⟨.ref s.heap.objs.size,_,I.laid (t':=s.toks) (o:=.lst (iG xs lo hi)) (λb ob q=>cK _ q) (bu _) ?_,rfl,q _ (I.aO.fresh (bu _))⟩;exact⟨cQ (SE xs lo hi) hz,_,0,(r.drop (_H.bQ xs.length 0 lo)).take (_H.bQ xs.length xs.length hi - _H.bQ xs.length 0 lo),fM _ rfl⟩
noncomputable def lQ:V->Bool
 | .aU=>true
 | .bl _=>true
 | .int _=>true
 | .str _=>true
 | _=>false
noncomputable def kW:V->V->Bool
 | .aU,.aU=>true
 | .bl a,.bl b=>a == b
 | .bl a,.int b=>(if a then 1 else 0) == b
 | .int a,.bl b=>a == (if b then 1 else 0)
 | .int a,.int b=>a == b
 | .str a,.str b=>a == b
 | _,_=>false
theorem G1{A:Around}{s:Shared}{y x:V}{u v:Value}(ry:RelV y u)(rx:RelV x v)(fy:lQ y=true)(fx:lQ x=true):SeqAt.EqAt A s u v (kW y x):=by
 cases y with
 | aU =>
  cases ry;cases x with
  | aU=>cases rx;exact x6 _
  | bl b=>cases rx;exact SeqAt.EqAt.none_bool b
  | int b=>obtain⟨t,rfl⟩:=rx;exact SeqAt.EqAt.none_int b t
  | str b=>obtain⟨t,rfl⟩:=rx;exact SeqAt.EqAt.none_str b t
  | _=>exact absurd (show false=true from fx) eU
 | bl a =>
  cases ry;cases x with
  | aU=>cases rx;exact SeqAt.EqAt.bool_none a
  | bl b=>cases rx;exact SeqAt.EqAt.bool_bool a b
  | int b=>obtain⟨t,rfl⟩:=rx;exact SeqAt.EqAt.bool_int a b t
  | str b=>obtain⟨t,rfl⟩:=rx;exact SeqAt.EqAt.bool_str a b t
  | _=>exact absurd (show false=true from fx) eU
 | int a =>
  obtain⟨t',rfl⟩:=ry;cases x with
  | aU=>cases rx;exact SeqAt.EqAt.int_none a t'
  | bl b=>cases rx;exact SeqAt.EqAt.int_bool a t' b
  | int b=>obtain⟨t,rfl⟩:=rx;exact Bx a t' b t
  | str b=>obtain⟨t,rfl⟩:=rx;exact SeqAt.EqAt.int_str a t' b t
  | _=>exact absurd (show false=true from fx) eU
 | str a =>
  obtain⟨t',rfl⟩:=ry;cases x with
  | aU=>cases rx;exact SeqAt.EqAt.str_none a t'
  | bl b=>cases rx;exact SeqAt.EqAt.str_bool a t' b
  | int b=>obtain⟨t,rfl⟩:=rx;exact SeqAt.EqAt.str_int a t' b t
  | str b=>obtain⟨t,rfl⟩:=rx;exact SeqAt.EqAt.str_str a t' b t
  | _=>exact absurd (show false=true from fx) eU
 | _=>exact absurd (show false=true from fy) eU
noncomputable def jK(x:V)(u:Value):Bool:=match u with
 | .none=>kW .aU x
 | .bool b=>kW (.bl b) x
 | .int i _=>kW (.int i) x
 | .str z _=>kW (.str z) x
 | _=>false
theorem SJ{x y:V}{u:Value}(r:RelV y u)(f:lQ y=true):jK x u=kW y x:=by
 cases y with
 | aU=>cases r;rfl
 | bl b=>cases r;rfl
 | int i=>obtain⟨t,rfl⟩:=r;rfl
 | str z=>obtain⟨t,rfl⟩:=r;rfl
 | _=>exact absurd (show false=true from f) eU
theorem yI{x:V}:∀ {xs:List V} {us:List Value},Vals xs us->xs.all lQ=true->us.any (jK x)=xs.any λy=>kW y x
 | _,_,.nil,_=>rfl
 | y::xs,u::us,.cons r t,f=>by
  rw[List.all_cons,xS] at f;rw[u_,u_,SJ r f.1,yI t f.2]
theorem yJ{A:Around}{s:Shared}{x:V}{v:Value}(rx:RelV x v)(fx:lQ x=true):∀ {xs:List V} {us:List Value},Vals xs us->xs.all lQ=true->∀u∈us,SeqAt.EqAt A s u v (jK x u)
 | _,_,.nil,_=>λu hu=>by cases hu
 | y::xs,u::us,.cons r t,f=>λu' hu=>by
  rw[List.all_cons,xS] at f;rcases b_.mp hu with rfl | hu
  ·rw[SJ r f.1];exact G1 r rx f.1 fx
  ·exact yJ rx fx t f.2 u' hu
noncomputable def vX(x:V)(xs:List V):Bool:=xs.any λy=>kW y x
def vY(K:W.Frag)(neg:Bool):R2:=λx y H Q=>∃p xs,y = .ref p/\(az K H p xs\/aL K H p xs)/\lQ x=true/\xs.all lQ=true/\Q (.bl (if neg then !vX x xs else vX x xs)) H
theorem G2:cC X (compareOp .In) (vY X.K false):=by
 intro pins s σ H x y v u Q I rx ry h;obtain⟨p,xs,rfl,hq,fx,fs,q⟩:=h;cases ry;rcases hq with hq | hq
 ·obtain⟨aB,r,pl,hz⟩:=I.list hq;refine SeqAt.in_listAt (jK x) pl.isList (λw hw=>yJ rx fx r fs w (by simpa using hw)) ⟨.bl _,H,I,rfl,?_⟩
  rw[show aB.toArray.any (jK x)=aB.any (jK x) by simp,yI r fs]
  exact q
 ·obtain⟨aB,r,pl,hz⟩:=I.tuple hq;refine SeqAt.in_tupleAt (jK x) pl (λw hw=>yJ rx fx r fs w (by simpa using hw)) ⟨.bl _,H,I,rfl,?_⟩
  rw[show aB.toArray.any (jK x)=aB.any (jK x) by simp,yI r fs]
  exact q
theorem SK:cC X (compareOp .NotIn) (vY X.K true):=by
 intro pins s σ H x y v u Q I rx ry h;obtain⟨p,xs,rfl,hq,fx,fs,q⟩:=h;cases ry;rcases hq with hq | hq
 ·obtain⟨aB,r,pl,hz⟩:=I.list hq;refine SeqAt.notIn_listAt (jK x) pl.isList (λw hw=>yJ rx fx r fs w (by simpa using hw)) ⟨.bl _,H,I,rfl,?_⟩
  rw[show aB.toArray.any (jK x)=aB.any (jK x) by simp,yI r fs]
  exact q
 ·obtain⟨aB,r,pl,hz⟩:=I.tuple hq;refine SeqAt.notIn_tupleAt (jK x) pl (λw hw=>yJ rx fx r fs w (by simpa using hw)) ⟨.bl _,H,I,rfl,?_⟩
  rw[show aB.toArray.any (jK x)=aB.any (jK x) by simp,yI r fs]
  exact q
theorem Ca:gY X (.builtin "len") (λxs H Q=>∃p ys,xs = [.ref p]/\(az X.K H p ys\/aL X.K H p ys)/\Q (.int ys.length) H):=by
 intro pins s σ H xs us Q I r h;obtain⟨p,ys,rfl,hq,q⟩:=h;obtain⟨u,rfl,rx⟩:=vals1 r;cases rx;have hn:=yC;rcases hq with hq | hq
 ·obtain⟨aB,r',pl,hz⟩:=I.list hq;have hlen:=r'.length;exact Calls.call_len_list pl.isList (by simp only[List.size_toArray] <;> lia) ⟨.int ys.length,H,I.tok _,⟨s.toks+1,by rw[gB,hlen]⟩,q⟩
 ·obtain⟨aB,r',pl,hz⟩:=I.tuple hq;have hlen:=r'.length;exact len_tuple pl (by simp only[List.size_toArray] <;> lia) ⟨.int ys.length,H,I.tok _,⟨s.toks+1,by rw[gB,hlen]⟩,q⟩
theorem yK:gY X (.type "list") (λxs H Q=>∃p ys,xs = [.ref p]/\(az X.K H p ys\/aL X.K H p ys)/\∀l,H l=none->Q (.ref l) (upd H l (.lst ys))):=by
 intro pins s σ H xs us Q I r h;obtain⟨p,ys,rfl,hq,q⟩:=h;obtain⟨u,rfl,rx⟩:=vals1 r;cases rx;have fin:∀(aB:List Value),Vals ys aB->ys.length<=sizeLine->∀(h':Heap) (c':Nat),(∀b o',s.heap.get? b=some o'->h'.get? b=some o')->
   h'.get? s.heap.objs.size=some { cls:=.type "list",dict:=none,data:=.seq aB.toArray c',slots := #[] }->EP X pins σ Q (.ref s.heap.objs.size) { s with heap:=h' }:=λaB r' hz h' c' kp e =>
  ⟨.ref s.heap.objs.size,_,I.laid (t':=s.toks) kp (bu _) (show eF X.prog X.w _ h' _ (.lst ys) from⟨hz,aB,c',r',e⟩),rfl,q _ (I.aO.fresh (bu _))⟩
 rcases hq with hq | hq
 ·obtain⟨aB,r',pl,hz⟩:=I.list hq;have hlen:=r'.length;obtain⟨o,ho,hc,n,hd⟩:=pl.isList;exact call_list_seq p (.inl rfl) ho hc hd (λh' c' kp e=>fin aB r' hz h' c' kp e) (by simp only[List.size_toArray] <;> lia)
 ·obtain⟨aB,r',pl,hz⟩:=I.tuple hq;have hlen:=r'.length;obtain⟨o,ho,hc,n,hd⟩:=pl;exact call_list_seq p (.inr rfl) ho hc hd (λh' c' kp e=>fin aB r' hz h' c' kp e) (by simp only[List.size_toArray] <;> lia)
theorem G3:gY X (.type "tuple") (λxs H Q=>∃p ys,xs = [.ref p]/\((az X.K H p ys/\∀l,H l=none->Q (.ref l) (upd H l (.tup ys)))\/(aL X.K H p ys/\Q (.ref p) H))):=by
 intro pins s σ H xs us Q I r h;obtain⟨p,ys,rfl,h⟩:=h;obtain⟨u,rfl,rx⟩:=vals1 r;cases rx;rcases h with⟨hq,q⟩ | ⟨hq,q⟩
 ·obtain⟨aB,r',pl,hz⟩:=I.list hq;have hlen:=r'.length;refine call_tuple_list pl.isList (λh' kp=>?_) (by simp only[List.size_toArray] <;> lia)
  have I1:Inv X pins σ H { s with heap:=h' }:=I.kept (t':=s.toks) kp;have I2:Inv X pins σ (upd H h'.objs.size (.tup ys)) { s with heap:=h'.push { cls:=.type "tuple",data:=.seq aB.toArray }} :=
   I1.laid (t':=s.toks) (λb o e=>cK _ e) (bu _) (show eF X.prog X.w _ _ _ (.tup ys) from⟨hz,aB,r',IsTup.new _ _⟩)
  exact⟨.ref h'.objs.size,_,I2,rfl,q _ (I1.aO.fresh (bu _))⟩
 ·obtain⟨aB,r',pl,hz⟩:=I.tuple hq;exact call_tuple_same pl ⟨.ref p,H,I,rfl,q⟩
def vZ(K:W.Frag)(T:String)(x:V)(H:Hp):Prop:=match x with
 | .str _=>T = "str"
 | .int _=>T = "int"
 | .ref p=>(T = "list"/\∃xs,az K H p xs)\/(T = "tuple"/\∃o,K.lookup p=some o/\o.cls = .type "tuple"/\o.dict=none)\/
   (T = "dict"/\((∃aA,H p=some (.dK aA))\/∃aA,H p=some (.dT aA)))\/(T = "set"/\∃S n,H p=some (.set S n))
 | _=>False
theorem SM{pins:List (Addr×Obj)}{σ:St}{H:Hp}{s:Shared}{T:String}{x:V}{v:Value}(I:Inv X pins σ H s)(r:RelV x v)(ty:vZ X.K T x H) :
  s.TypeIs v T/\∀a,v = .ref a->∃ob,s.heap.get? a=some ob/\ob.dict=none:=by
 cases x with
 | str z =>
  obtain⟨t,rfl⟩:=r;cases (show T = "str" from ty);exact⟨typeIs_str s z t,λ_ e=>nomatch e⟩
 | int i =>
  obtain⟨t,rfl⟩:=r;cases (show T = "int" from ty);exact⟨typeIs_int s i t,λ_ e=>nomatch e⟩
 | ref p =>
  cases r;rcases ty with⟨rfl,xs,hq⟩ | ⟨rfl,o,hk,hc,hd⟩ | ⟨rfl,hk⟩ | ⟨rfl,S,n,hk⟩
  ·obtain⟨aB,_,pl,_⟩:=I.list hq;refine⟨pl.isList.typeIs,λa e=>?_⟩;cases e;obtain⟨o,n,e,c,hd,_⟩:=pl;exact⟨o,e,hd⟩
  ·refine⟨⟨o,I.eV p o hk,hc⟩,λa e=>?_⟩;cases e;exact⟨o,I.eV _ o hk,hd⟩
  ·have z:∃o,s.heap.get? p=some o/\o.ExactDict:=by
    rcases hk with⟨aA,hk⟩ | ⟨aA,hk⟩
    ·obtain⟨_,_,_,_,o,_,_,e,ex,_⟩:=I.aO p _ hk;exact⟨o,e,ex⟩
    ·obtain⟨_,_,_,_,o,_,_,e,ex,_⟩:=I.aO p _ hk;exact⟨o,e,ex⟩
   obtain⟨o,e,ex⟩:=z;refine⟨⟨o,e,ex.1⟩,λa e2=>?_⟩;cases e2;exact⟨o,e,ex.2.1⟩
  ·obtain⟨o,_,_,_,e,ex,_⟩:=I.aO p _ hk;refine⟨⟨o,e,ex.1⟩,λa e2=>?_⟩;cases e2;exact⟨o,e,ex.2.1⟩
 | _=>exact False.elim ty
def G4(K:W.Frag)(T:String)(r:V->List V->Hp->VK->Prop)(to:TE):TE:=λσ H Q=>to σ H λx H1=>vZ K T x H1/\r x [] H1 Q
def G5(K:W.Frag)(T:String)(r:V->List V->Hp->VK->Prop)(to:TE)(t:TA):TE:=λσ H Q=>to σ H λx H1=>vZ K T x H1/\t σ H1 λxs H2=>r x xs H2 Q
variable{o e:Expr}{es:List Expr}{to:TE}{t:TA}{name:Str}{apos iH:Pos}{T id:String}{r:V->List V->Hp->VK->Prop}
theorem acv(pa:PlainAttrs T)(slot:Slot T name id)(G6:typeOf (.builtin id)=pure (.type "method_descriptor"))(hm:SI X id r)(ho:PE X o to)
  (G7:attributeBase o name X.env (eval o X.env)=eval o X.env:=by rfl) (G8:(apos.endLine == iH.line)=true:=by rfl):PE X (.Call (.Attribute o name apos) [] [] iH) (G4 X.K T r to):=by
 intro pins s σ H Q I h;refine wpAny_Call_method0_late G7 G8 (aW (ho pins s σ H _ I h) λv s1 ⟨x,H1,I1,r1,zz⟩=>?_);obtain⟨ty,q1⟩:=zz;obtain⟨h1,h2⟩:=SM I1 r1 ty;exact⟨T,id,pa,slot,G6,h1,h2,E6 rfl (PySem.evalArgs_none (hm pins s1 σ H1 x [] v [] Q I1 r1 .nil q1))⟩
theorem kX(pa:PlainAttrs T)(slot:Slot T name id)(G6:typeOf (.builtin id)=pure (.type "method_descriptor"))(hm:SI X id r)(ho:PE X o to)(ha:PA X (e::es) t)
  (G7:attributeBase o name X.env (eval o X.env)=eval o X.env:=by rfl)
  (acw:((backTo iH (starEach (e::es) X.env)).all (λx => !x.1) && (backToKw iH (keywordEach [] X.env)).all (λx=>x.1.isSome)
   && decide ((e::es).length+([]:List Keyword).length+(if ([]:List Keyword).isEmpty then 0 else 1)<30))=true:=by rfl)
  (G8:(apos.endLine == iH.line)=true:=by rfl) (hs:starEach (e::es) X.env=(false,eval e X.env)::starEach es X.env:=by rfl) (acy:(backTo iH (starEach es X.env)).any (·.1)=false:=by rfl) :
  PE X (.Call (.Attribute o name apos) (e::es) [] iH) (G5 X.K T r to t):=by
 intro pins s σ H Q I h;refine wpAny_Call_method_late G7 acw G8 rfl (aW (ho pins s σ H _ I h) λv s1 ⟨x,H1,I1,r1,zz⟩=>?_);obtain⟨ty,q1⟩:=zz;obtain⟨h1,h2⟩:=SM I1 r1 ty;refine⟨T,id,pa,slot,G6,h1,h2,?_⟩;have hA:=ha iH pins s1 σ H1 _ I1 q1;rw[hs] at hA ⊢;refine E6 (by show (false || (backTo iH (starEach es X.env)).any (·.1))=false;rw[acy] <;> rfl) (Calls.evalArgs_plain ?_)
 exact aW hA λus s2 ⟨vs,H2,I2,r2,q2⟩=>hm pins s2 σ H2 x vs v us Q I2 r1 r2 q2
end
noncomputable def G9(X:Cx)(id:String)(r:V->List V->Hp->VK->Prop):Prop :=
 ∀(pins:List (Addr×Obj)) (s:Shared) (σ:St) (H:Hp) (x:V) (xs:List V) (v:Value) (us:List Value) (Q:VK),Inv X pins σ H s->RelV x v->Vals xs us->r x xs H Q->
  wpAny (model X.prog X.w) X.A (call (.builtin id) (v::us)) (EP X pins σ Q) X.xe s
theorem Vals.one:∀ {x:V} {us:List Value},Vals [x] us->∃u,us = [u]/\RelV x u:=by
 intro x us h;cases h with
 | cons r t=>cases t;exact⟨_,rfl,r⟩
theorem Vals.zero:∀ {us:List Value},Vals [] us->us = []
 | _,.nil=>rfl
theorem Vals.dropLast{xs:List V}{us:List Value}(h:Vals xs us):Vals xs.dropLast us.dropLast:=by
 induction h with
 | nil=>exact .nil
 | cons r t ih =>
  cases t with
  | nil=>exact .nil
  | cons q t'=>exact .cons r ih
theorem Vals.reverse{xs:List V}{us:List Value}(h:Vals xs us):Vals xs.reverse us.reverse:=by
 induction h with
 | nil=>exact .nil
 | cons r t ih=>rw[Ft,Ft];exact Vals.append ih (.cons r .nil)
theorem Vals.rep{xs:List V}{us:List Value}(h:Vals xs us):∀k:Nat,Vals (List.replicate k xs).flatten (List.replicate k us).flatten
 | 0=>.nil
 | k+1=>by
  rw[p_,p_,vc,vc];exact Vals.append h (Vals.rep h k)
theorem acz{α:Type}(l:List α):l.eraseIdx (l.length - 1)=l.dropLast:=by
 induction l with
 | nil=>rfl
 | cons a r ih =>
  cases r with
  | nil=>rfl
  | cons b r =>
   have e:(a::b::r).length - 1=((b::r).length - 1)+1:=by
    have h1:(a::b::r).length=r.length+2:=rfl;have h2:(b::r).length=r.length+1:=rfl;lia
   rw[e,List.eraseIdx_cons_succ,ih]
   all_goals rfl
theorem foldl_rep(aB:List Value):∀(k:Nat) (acc:List Value),
  List.foldl (λx1 x2=>x1++x2) acc.toArray (List.replicate k aB.toArray)=(acc++(List.replicate k aB).flatten).toArray
 | 0,acc=>by simp
 | k+1,acc=>by
  have e:acc.toArray++aB.toArray=(acc++aB).toArray:=by simp
  have e2:(acc++aB)++(List.replicate k aB).flatten=acc++(List.replicate (k+1) aB).flatten:=by
   rw[p_,vc,pY]
  rw[← e2,← foldl_rep aB k (acc++aB),← e,p_,mK]
section
variable{X:Cx}{pins:List (Addr×Obj)}{σ:St}{H:Hp}{s:Shared}{l b:Addr}{xs ys zs:List V}
theorem Inv.fT{aB its':List Value}{n:Nat}{f:Array Value->Array Value}{t':Nat}(I:Inv X pins σ H s)(hH:H l=some (.lst xs))
  (e:s.heap.get? l=some { cls:=.type "list",data:=.seq aB.toArray n }) (hf:f aB.toArray=its'.toArray) (hv:Vals ys its') (hz:ys.length<=sizeLine) :
  Inv X pins σ (upd H l (.lst ys)) { s with heap:=s.heap.update l (Obj.mapSeq f),toks:=t' }:=by
 have q:=PySem.IsL.update e f;rw[hf] at q;refine I.write (x:=l) (e:=l) (by rw[hH];exact trivial) (.inl rfl) (λb' u hb hu=>(Heap.get?_update_other s.heap (Obj.mapSeq f) (iC hb)).trans hu) ⟨_,q⟩ ?_
 exact⟨hz,its',_,hv,q⟩
theorem Inv.SN{aB:List Value}{t':Nat}(I:Inv X pins σ H s)(hv:Vals ys aB)(hz:ys.length<=sizeLine) :
  Inv X pins σ (upd H s.heap.objs.size (.lst ys)) { s with heap:=s.heap.push { cls:=.type "list",data:=.seq aB.toArray },toks:=t' } :=
 I.laid (λ_ _ q=>cK _ q) (bu _) ⟨hz,aB,0,hv,fM _ rfl⟩
theorem Inv.fresh(I:Inv X pins σ H s):H s.heap.objs.size=none:=I.aO.fresh (bu _)
theorem Inv.tX(I:Inv X pins σ H s)(hH:H l=some (.lst xs)):xs.length<=sizeLine/\∃(aB:List Value) (n:Nat),Vals xs aB/\xs.length=aB.length/\s.heap.get? l=some { cls:=.type "list",data:=.seq aB.toArray n }:=by
 obtain⟨z,aB,n,r,e⟩:=I.aO l _ hH;exact⟨z,aB,n,r,r.length,e⟩
theorem SO{n:Nat}(h:n<=sizeLine):Builtin.List.listTooLong n=false:=by
 unfold Builtin.List.listTooLong;exact j9 ∅
end
section
variable{X:Cx}
def G_:V->List V->Hp->VK->Prop:=λx vs H Q=>∃l xs y,x = .ref l/\vs = [y]/\H l=some (.lst xs)/\xs.length<sizeLine/\Q .aU (upd H l (.lst (xs++[y])))
theorem kY:G9 X "list.append" G_:=by
 intro pins s σ H x vs v us Q I rx rv h;obtain⟨l,xs,y,rfl,rfl,hH,hz,q⟩:=h;cases rx;obtain⟨u,rfl,ru⟩:=rv.one;obtain⟨z,aB,n,r,hl,e⟩:=I.tX hH;refine x8 F.slot_list_append ⟨_,e,rfl⟩ F.entry_list_append (F.args_list_append_2 _ _) (PySem.list_append l aB.toArray n u (by rw[gB];lia)) ⟨e,?_⟩
 refine⟨.aU,_,I.fT (its':=aB++[u]) hH e (by simp) (r.append (.cons ru .nil)) ?_,rfl,q⟩
 rw[e_,vf];lia
def Hf:V->List V->Hp->VK->Prop:=λx vs H Q=>∃l b xs zs,x = .ref l/\vs = [.ref b]/\H l=some (.lst xs)/\H b=some (.lst zs)/\xs.length+zs.length<=sizeLine/\Q .aU (upd H l (.lst (xs++zs)))
theorem acA:G9 X "list.extend" Hf:=by
 intro pins s σ H x vs v us Q I rx rv h;obtain⟨l,b,xs,zs,rfl,rfl,hH,hB,hz,q⟩:=h;cases rx;obtain⟨u,rfl,ru⟩:=rv.one;cases ru;obtain⟨z,aB,n,r,hl,e⟩:=I.tX hH;obtain⟨z2,gc,n2,r2,rK,e2⟩:=I.tX hB;have hsz:aB.toArray.size+gc.toArray.size<=sizeLine:=by rw[gB,gB];lia
 have Hg:¬ (!aB.toArray.isEmpty && Builtin.List.listTooLong (aB.toArray.size+gc.toArray.size))=true:=by
  rw[SO hsz,Bool.and_false];exact eU
 refine x8 F.slot_list_extend ⟨_,e,rfl⟩ F.entry_list_extend (F.args_list_extend_2 _ _)
  (AutoSeq1.list_extend_list_list_0 l aB.toArray n b gc.toArray n2 Hg (by rw[gB];lia) ∅) ⟨e,e2,?_⟩
 refine⟨.aU,_,I.fT (its':=aB++gc) hH e (by simp) (r.append r2) ?_,rfl,q⟩
 rw[e_];lia
def Hh:V->List V->Hp->VK->Prop:=λx vs H Q=>∃l xs y,x = .ref l/\vs = []/\H l=some (.lst xs)/\xs[xs.length - 1]? = some y/\Q y (upd H l (.lst xs.dropLast))
theorem acB:G9 X "list.pop" Hh:=by
 intro pins s σ H x vs v us Q I rx rv h;obtain⟨l,xs,y,rfl,rfl,hH,hy,q⟩:=h;cases rx;have tY:=rv.zero;subst tY;obtain⟨z,aB,n,r,hl,e⟩:=I.tX hH;obtain⟨u,hu,ru⟩:=r.get hy;have v_:aB.toArray[aB.toArray.size - 1]? = some u:=by
  show aB.toArray[aB.length - 1]? = some u;rw[← pU,← hl];exact hu
 refine x8 F.slot_list_pop ⟨_,e,rfl⟩ F.entry_list_pop (F.args_list_pop_1 _) (MeetsSeq.list_pop_last l aB.toArray n u v_ (by rw[gB];lia)) ⟨e,?_⟩
 refine⟨y,_,I.fT (its':=aB.dropLast) hH e ?_ r.dropLast ?_,ru,q⟩
 ·show aB.toArray.eraseIdxIfInBounds (aB.toArray.size - 1)=aB.dropLast.toArray;rw[gB,List.eraseIdxIfInBounds_toArray,acz]
 ·rw[List.length_dropLast];lia
def SQ:V->List V->Hp->VK->Prop:=λx vs H Q=>∃l xs,x = .ref l/\vs = []/\H l=some (.lst xs)/\Q .aU (upd H l (.lst []))
def Hi:R2:=λx y H Q=>∃l b xs zs,x = .ref l/\y = .ref b/\H l=some (.lst xs)/\H b=some (.lst zs)/\xs.length+zs.length<=sizeLine/\∀p,H p=none->Q (.ref p) (upd H p (.lst (xs++zs)))
theorem yL:cC X (binaryOp .Add) Hi:=by
 intro pins s σ H x y v u Q I rx ry h;obtain⟨l,b,xs,zs,rfl,rfl,hH,hB,hz,q⟩:=h;cases rx;cases ry;obtain⟨z,aB,n,r,hl,e⟩:=I.tX hH;obtain⟨z2,gc,n2,r2,rK,e2⟩:=I.tX hB;refine PySem.P.add_list e e2 ?_ (by rw[gB,gB];lia)
 have ea:aB.toArray++gc.toArray=(aB++gc).toArray:=by simp
 rw[ea];exact⟨.ref _,_,I.SN (t':=s.toks) (r.append r2) (by rw[e_];lia),rfl,q _ I.fresh⟩
def Hj:R2:=λx y H Q=>∃l k xs,x = .ref l/\y = .int k/\H l=some (.lst xs)/\-(2 ^ 63)<=k/\k<2 ^ 63/\xs.length*k.toNat<=sizeLine/\
 ∀p,H p=none->Q (.ref p) (upd H p (.lst (List.replicate k.toNat xs).flatten))
theorem len_rep{α:Type}(xs:List α)(k:Nat):(List.replicate k xs).flatten.length=k*xs.length:=by
 induction k with
 | zero=>simp
 | succ k ih=>rw[p_,vc,e_,ih,Nat.succ_mul,Nat.add_comm]
theorem SR:cC X (binaryOp .Mult) Hj:=by
 intro pins s σ H x y v u Q I rx ry h;obtain⟨l,k,xs,rfl,rfl,hH,h1,h2,hz,q⟩:=h;cases rx;obtain⟨t,rfl⟩:=ry;obtain⟨z,aB,n,r,hl,e⟩:=I.tX hH;have hlen:aB.toArray.size*k.toNat<=sizeLine:=by rw[gB,← hl];exact hz
 have acC:¬ aB.toArray.size*k.toNat > (2 ^ 63 - 1) / 8:=by
  have:(sizeLine:Nat)<=(2 ^ 63 - 1) / 8:=by decide
  lia
 have acD:¬ (!Builtin.List.listFitsIndex k)=true:=by
  rw[fitsIndex_both h1 h2];exact eU
 have Hg:¬ Builtin.List.listTooLong (aB.toArray.size*k.toNat)=true:=by
  rw[SO hlen];exact eU
 have yM:List.foldl (λx1 x2=>x1++x2) #[] (List.replicate (if aB.toArray.isEmpty=true then 0 else k.toNat) aB.toArray)=(List.replicate k.toNat aB).flatten.toArray:=by
  have f0:∀m:Nat,List.foldl (λx1 x2=>x1++x2) #[] (List.replicate m aB.toArray)=(List.replicate m aB).flatten.toArray:=λm=>by
   have:=foldl_rep aB m [];rw[List.nil_append] at this;exact this
  rw[f0];cases aB with
  | nil=>simp
  | cons a r'=>rw[if_neg (by simp)]
 refine wpAny_binaryOp_repeat_ref (T := "list") (U := "int") ⋯ ⟨_,e,rfl⟩ (λs'=>typeIs_int s' k t) noFill_list_mul F.fills_int_mul F.slot_int_rmul repeat_list F.slot_int_index.lookup
  (x8 F.slot_int_rmul (typeIs_int s k t) F.entry_int_rmul (F.args_int_rmul_2 _ _) (int___rmul___int_list k t l aB.toArray n)
   ⟨e,rfl,⟨_,e,rfl⟩,x8 F.slot_list_mul ⟨_,e,rfl⟩ F.entry_list_mul (F.args_list_mul_2 _ _) (AutoListH.list___mul___list_int_3 l aB.toArray n k t acD acC Hg) ⟨e,?_⟩⟩)
 rw[yM];exact⟨.ref _,_,I.SN (t':=s.toks) (r.rep k.toNat) (by rw[len_rep,mO];exact hz),rfl,q _ I.fresh⟩
end
section
variable{prog:Program}{w:World}{A:Around}{E:Value->Shared->Prop}{s:Shared}
end
section
variable{X:Cx}
end
section
variable{κ:Type}[DecidableEq κ]
noncomputable def dj(aA:List (κ×V))(k:κ):Option V:=(aA.find? λkv=>decide (kv.1=k)).map (·.2)
noncomputable def putK(aA:List (κ×V))(k:κ)(v:V):List (κ×V) :=
 if (aA.any λkv=>decide (kv.1=k))=true then aA.map (λkv=>if kv.1=k then(kv.1,v) else kv) else aA++[(k,v)]
theorem lR{p:κ×V}{r:List (κ×V)}{k:κ}(e:p.1=k):dj (p::r) k=some p.2:=by simp[dj,List.find?_cons,e]
theorem kZ{p:κ×V}{r:List (κ×V)}{k:κ}(e:¬ p.1=k):dj (p::r) k=dj r k:=by simp[dj,List.find?_cons,e]
theorem wc(k:κ):∀aA:List (κ×V),(aA.any λkv=>decide (kv.1=k))=(dj aA k).isSome
 | []=>rfl
 | p::r=>by
  rw[u_];by_cases e:p.1=k
  ·simp only[lR e,decide_eq_true e,Bool.true_or,Option.isSome_some]
  ·rw[kZ e,j9 e,Bool.false_or];exact wc k r
theorem SS(k j:κ)(y:V):∀aA:List (κ×V),dj (aA.map λkv=>if kv.1=k then(kv.1,y) else kv) j=(dj aA j).map λx=>if j=k then y else x
 | []=>rfl
 | p::r=>by
  have ih:=SS k j y r;rw[cH];by_cases h:p.1=k
  ·rw[if_pos h];by_cases e:p.1=j
   ·rw[lR (p:=(p.1,y)) e,lR e,Bs,if_pos (e.symm.trans h)]
   ·rw[kZ (p:=(p.1,y)) e,kZ e,ih]
  ·rw[if_neg h];by_cases e:p.1=j
   ·rw[lR (p:=p) e,lR e,Bs,if_neg (λz=>h (e.trans z))]
   ·rw[kZ (p:=p) e,kZ e,ih]
theorem SV(k j:κ)(y:V):∀aA:List (κ×V),dj aA k=none->dj (aA++[(k,y)]) j=if j=k then some y else dj aA j
 | [],_=>by
  by_cases e:k=j
  ·rw[if_pos e.symm];exact lR (p:=(k,y)) e
  ·rw[if_neg (λz=>e z.symm)];exact kZ (p:=(k,y)) e
 | p::r,hn=>by
  rw[pZ];have hk:¬ p.1=k:=λz=>by rw[lR z] at hn;cases hn
  rw[kZ hk] at hn;have ih:=SV k j y r hn;by_cases e:p.1=j
  ·rw[lR e,lR e,if_neg (λz=>hk (e.trans z))]
  ·rw[kZ e,kZ e,ih]
theorem Hl(aA:List (κ×V))(k j:κ)(y:V):dj (putK aA k y) j=if j=k then some y else dj aA j:=by
 unfold putK;by_cases a:(aA.any λkv=>decide (kv.1=k))=true
 ·rw[if_pos a,SS];rw[wc] at a;by_cases e:j=k
  ·obtain⟨x,hx⟩:=vq.mp a;rw[if_pos e,e,hx,Bs,if_pos rfl]
  ·rw[if_neg e];cases dj aA j with
   | none=>rfl
   | some x=>rw[Bs,if_neg e]
 ·rw[if_neg a];refine SV k j y aA ?_;rw[wc] at a;cases q:dj aA k with
  | none=>rfl
  | some x=>rw[q] at a;exact(a rfl).elim
theorem Ho(aA:List (κ×V))(k:κ)(v:V):(putK aA k v).length<=aA.length+1:=by
 unfold putK;split
 ·rw[aM];lia
 ·rw[e_,dR,List.length_nil];lia
theorem SW{aA:List (κ×V)}{k:κ}(v:V)(h:dj aA k=none):putK aA k v=aA++[(k,v)]:=by
 unfold putK;rw[wc,h];exact if_neg ⋯
theorem iD.yN{o:Option V}{u:Option Value}(r:iD o u):o.isSome=u.isSome:=by
 cases o with
 | none=>cases u with
  | none=>rfl
  | some _=>exact(show False from r).elim
 | some _=>cases u with
  | none=>exact(show False from r).elim
  | some _=>rfl
theorem iD.getD{o:Option V}{u:Option Value}{d:V}{d':Value}(r:iD o u)(rd:RelV d d'):RelV (o.getD d) (u.getD d'):=by
 cases o with
 | none=>cases u with
  | none=>exact rd
  | some _=>exact(show False from r).elim
 | some _=>cases u with
  | none=>exact(show False from r).elim
  | some _=>exact r
theorem KV.val{aA:List (κ×V)}{vs:List (κ×Value)}(r:KV aA vs)(k:κ):iD (dj aA k) (valueAt vs k):=by
 unfold KV at r
 induction r with
 | nil=>exact True.intro
 | @cons p q ps qs h t ih =>
  obtain⟨h1,h2⟩:=h;by_cases e:p.1=k
  ·have e':q.1=k:=h1.symm.trans e;have b:valueAt (q::qs) k=some q.2:=by simp[valueAt,List.find?_cons,e']
   rw[lR e,b];exact h2
  ·have e':¬ q.1=k:=λz=>e (h1.trans z);have b:valueAt (q::qs) k=valueAt qs k:=by simp[valueAt,List.find?_cons,e']
   rw[kZ e,b];exact ih
theorem KV.any{aA:List (κ×V)}{vs:List (κ×Value)}(r:KV aA vs)(k:κ):(aA.any λkv=>decide (kv.1=k))=vs.any λkv=>decide (kv.1=k):=by
 unfold KV at r
 induction r with
 | nil=>rfl
 | cons h t ih=>rw[u_,u_,ih,h.1]
theorem KV.Hq{aA:List (κ×V)}{vs:List (κ×Value)}(r:KV aA vs)(k:κ){y:V}{u:Value}(ry:RelV y u) :
  KV (aA.map λkv=>if kv.1=k then(kv.1,y) else kv) (vs.map λkv=>if kv.1=k then(kv.1,u) else kv):=by
 unfold KV at r ⊢
 induction r with
 | nil=>exact .nil
 | @cons p q ps qs h t ih =>
  rw[cH,cH];refine .cons ?_ ih;obtain⟨h1,h2⟩:=h;by_cases e:p.1=k
  ·rw[if_pos e,if_pos (h1.symm.trans e)];exact⟨h1,ry⟩
  ·rw[if_neg e,if_neg (λz=>e (h1.trans z))];exact⟨h1,h2⟩
theorem KV.put{aA:List (κ×V)}{vs:List (κ×Value)}(r:KV aA vs)(k:κ){y:V}{u:Value}(ry:RelV y u):KV (putK aA k y) (stored vs k u):=by
 unfold putK stored;rw[r.any k];by_cases e:(vs.any λkv=>decide (kv.1=k))=true
 ·rw[if_pos e,if_pos e];exact r.Hq k ry
 ·rw[if_neg e,if_neg e];exact Paired.snoc r ⟨rfl,ry⟩
theorem KV.length{aA:List (κ×V)}{vs:List (κ×Value)}(r:KV aA vs):aA.length=vs.length:=Bt r
end
theorem we{P:Program}{w:World}{k:Key}{u:Value}(r:RelV (kV k) u):(dN P w).is k u=true:=by
 cases k with
 | inl i=>obtain⟨t,e⟩:=(show ∃t,u=Value.int i t from r);subst e;exact abq P w i t
 | inr x=>obtain⟨t,e⟩:=(show ∃t,u=Value.str x t from r);subst e;exact abr P w x t
theorem SX{P:Program}{w:World}:∀ {ks:List Key} {us:List Value},Vals (ks.map kV) us->ItemsAre (dN P w) ks us
 | [],_,r=>by rw[List.map_nil] at r;cases r;exact .nil
 | k::ks,_,r=>by
  rw[cH] at r;cases r with
  | cons h t=>exact .cons (we h) (SX t)
noncomputable abbrev KT(H:Hp):List (List Key×V)->List (List Key×Addr×Value)->Prop:=Paired λp q=>p.1=q.1/\H q.2.1=some (.tup (p.1.map kV))/\RelV p.2 q.2.2
theorem KT.val{H:Hp}{aA:List (List Key×V)}{xs:List (List Key×Addr×Value)}(r:KT H aA xs)(k:List Key):iD (dj aA k) ((atKey xs k).map (·.2)):=by
 induction r with
 | nil=>exact True.intro
 | @cons p q ps qs h t ih =>
  obtain⟨h1,_,h2⟩:=h;by_cases e:p.1=k
  ·have e':q.1=k:=h1.symm.trans e;have b:atKey (q::qs) k=some q.2:=by simp[atKey,List.find?_cons,e']
   rw[lR e,b];exact h2
  ·have e':¬ q.1=k:=λz=>e (h1.trans z);have b:atKey (q::qs) k=atKey qs k:=by simp[atKey,List.find?_cons,e']
   rw[kZ e,b];exact ih
theorem KT.Hq{H:Hp}{aA:List (List Key×V)}{xs:List (List Key×Addr×Value)}(r:KT H aA xs)(k:List Key){y:V}{u:Value}(ry:RelV y u) :
  KT H (aA.map λkv=>if kv.1=k then(kv.1,y) else kv) (xs.map (putAt k u)):=by
 induction r with
 | nil=>exact .nil
 | @cons p q ps qs h t ih =>
  rw[cH,cH];refine .cons ?_ ih;obtain⟨h1,h2,h3⟩:=h;unfold putAt;by_cases e:p.1=k
  ·rw[if_pos e,if_pos (h1.symm.trans e)];exact⟨h1,h2,ry⟩
  ·rw[if_neg e,if_neg (λz=>e (h1.trans z))];exact⟨h1,h2,h3⟩
theorem KT.put{H:Hp}{aA:List (List Key×V)}{xs:List (List Key×Addr×Value)}(r:KT H aA xs)(k:List Key){b:Addr}{y:V}{u:Value}(hb:H b=some (.tup (k.map kV)))(ry:RelV y u) :
  KT H (putK aA k y) (storedH xs k b u):=by
 have e:(aA.any λkv=>decide (kv.1=k))=(atKey xs k).isSome:=by
  rw[wc,(r.val k).yN,Fy]
 unfold putK storedH;rw[e];by_cases q:(atKey xs k).isSome=true
 ·rw[if_pos q,if_pos q];exact r.Hq k ry
 ·rw[if_neg q,if_neg q];exact Paired.snoc r ⟨rfl,hb,ry⟩
theorem KT.keeps{H H':Hp}{aA:List (List Key×V)}{xs:List (List Key×Addr×Value)}(r:KT H aA xs)(ht:∀b ys,H b=some (.tup ys)->H' b=some (.tup ys)):KT H' aA xs :=
 Paired.Ry r λ_ _ z=>⟨z.1,ht _ _ z.2.1,z.2.2⟩
section
variable{P:Program}{w:World}{H:Hp}{h:Heap}{a:Addr}
theorem SY{u:HO}(ok:dO P w H h)(e:Rd H a u):eF P w H h a u:=e.ok ok
theorem tZ{aA:List (Key×V)}(ok:dO P w H h)(e:Rd H a (.dK aA)):aA.length<=sizeLine/\(a == sysModules)=false/\∃vs,KV aA vs/\h.DictOf (dN P w) a vs :=
 show eF P w H h a (.dK aA) from SY ok e
theorem acE{aA:List (Key×V)}(ok:dO P w H h)(e:H a=some (.dK aA)):aA.length<=sizeLine/\(a == sysModules)=false/\∃vs,KV aA vs/\h.DictOf (dN P w) a vs:=tZ ok (.inl e)
theorem wg{ks:List Key}(ok:dO P w H h)(e:H a=some (.tup (ks.map kV))):(tupleKind (dN P w)).is h ks a:=by
 obtain⟨_,aB,r,o,h1,h2,n,h3⟩:=(show eF P w H h a (.tup (ks.map kV)) from ok a _ e);exact⟨o,aB.toArray,n,h1,h2,h3,by simpa using SX r⟩
theorem t_{aA:List (List Key×V)}(ok:dO P w H h)(e:Rd H a (.dT aA)):aA.length<=sizeLine/\(a == sysModules)=false/\
  ∃xs,KT H aA xs/\h.DictOfH (tupleKind (dN P w)) a xs:=by
 obtain⟨z,y,xs,r,o,es,ep,h1,h2,h3,h4,h5⟩:=(show eF P w H h a (.dT aA) from SY ok e);refine⟨z,y,xs,r,o,es,ep,h1,h2,h3,h4,λx hx=>?_,h5⟩;have all:∀ {l:List (List Key×V)} {m:List (List Key×Addr×Value)},KT H l m->∀x∈m,(tupleKind (dN P w)).is h x.1 x.2.1:=by
  intro l m q
  induction q with
  | nil=>intro x hx;exact nomatch hx
  | @cons p q ps qs hq t ih =>
   intro x hx;rcases b_.mp hx with e | hx
   ·subst e;exact wg ok (by rw[← hq.1];exact hq.2.1)
   ·exact ih x hx
 exact all r x hx
theorem Hr{aA:List (List Key×V)}(ok:dO P w H h)(e:H a=some (.dT aA)):aA.length<=sizeLine/\(a == sysModules)=false/\
  ∃xs,KT H aA xs/\h.DictOfH (tupleKind (dN P w)) a xs:=t_ ok (.inl e)
end
noncomputable def gf(H:Hp)(a:Addr)(y:V)(r:Option V):Prop :=
 (∃aA k,Rd H a (.dK aA)/\y=kV k/\r=dj aA k)\/∃aA k b,Rd H a (.dT aA)/\y = .ref b/\H b=some (.tup (k.map kV))/\r=dj aA k
noncomputable def lT(H:Hp)(a:Addr)(y v:V)(H':Hp):Prop :=
 (∃aA k,H a=some (.dK aA)/\y=kV k/\aA.length<sizeLine/\H' = upd H a (.dK (putK aA k v)))\/
 ∃aA k b,H a=some (.dT aA)/\y = .ref b/\H b=some (.tup (k.map kV))/\aA.length<sizeLine/\H' = upd H a (.dT (putK aA k v))
theorem gf.k{H:Hp}{a:Addr}{aA:List (Key×V)}{k:Key}(e:H a=some (.dK aA)):gf H a (kV k) (dj aA k):=.inl ⟨aA,k,.inl e,rfl,rfl⟩
theorem gf.t{H:Hp}{a b:Addr}{aA:List (List Key×V)}{k:List Key}(e:H a=some (.dT aA))(eb:H b=some (.tup (k.map kV))):gf H a (.ref b) (dj aA k):=.inr ⟨aA,k,b,.inl e,rfl,eb,rfl⟩
theorem lT.k{H:Hp}{a:Addr}{aA:List (Key×V)}{k:Key}{v:V}(e:H a=some (.dK aA))(hl:aA.length<sizeLine):lT H a (kV k) v (upd H a (.dK (putK aA k v))):=.inl ⟨aA,k,e,rfl,hl,rfl⟩
theorem lT.t{H:Hp}{a b:Addr}{aA:List (List Key×V)}{k:List Key}{v:V}(e:H a=some (.dT aA))(eb:H b=some (.tup (k.map kV)))(hl:aA.length<sizeLine) :
  lT H a (.ref b) v (upd H a (.dT (putK aA k v))):=.inr ⟨aA,k,b,e,rfl,eb,hl,rfl⟩
section
variable{X:Cx}{pins:List (Addr×Obj)}{σ:St}{H:Hp}{s:Shared}{a:Addr}{y v:V}{u r:Value}{o:Option V}{A:Around}{E:Value->Shared->Prop}
theorem Inv.big(I:Inv X pins σ H s):sysModules<s.heap.objs.size:=by
 have h:mainGlobals<s.heap.objs.size:=(I.mod.glob.keeps I.bk).lt;exact ji ⋯ h
theorem acF{Q:Value->Shared->Prop}(hu:A.units+1<cLine)(I:Inv X pins σ H s)(g:gf H a y (some v))(ry:RelV y u)(h:∀w' s',Inv X pins σ H s'->RelV v w'->Q w' s') :
  wpAny (model X.prog X.w) A (getItem (.ref a) u) Q E s:=by
 rcases g with⟨aA,k,e,ey,l⟩ | ⟨aA,k,b,e,ey,eb,l⟩
 ·subst ey;obtain⟨z,hd,vs,rel,dd⟩:=tZ I.aO e;obtain⟨w',hw,ng⟩:=iD.some_of (v:=v) (o:=valueAt vs k) (by rw[l];exact rel.val k)
  exact wpAny_getItem_of (we ry) dd.mapOf hw (h w' _ (I.tok _) ng)
 ·subst ey;cases (show u=Value.ref b from ry);obtain⟨z,hd,xs,rel,dd⟩:=t_ I.aO e;obtain⟨w',hw,ng⟩:=iD.some_of (v:=v) (o:=(atKey xs k).map (·.2)) (by rw[l];exact rel.val k)
  obtain⟨p,hp,ig⟩:=Option.map_eq_some_iff.mp hw;refine wpAny_getItem_heap (x9 hu) (wg I.aO eb) dd hp ?_;rw[ig];exact h w' _ (I.tok _) ng
theorem acG{Q:Value->Shared->Prop}(hu:A.units+1<cLine)(I:Inv X pins σ H s)(g:gf H a y o)(ry:RelV y u)(h:∀s',Inv X pins σ H s'->Q (.bool o.isSome) s') :
  wpAny (model X.prog X.w) A (compareOp .In u (.ref a)) Q E s:=by
 rcases g with⟨aA,k,e,ey,l⟩ | ⟨aA,k,b,e,ey,eb,l⟩
 ·subst ey;obtain⟨z,hd,vs,rel,dd⟩:=tZ I.aO e;refine wpAny_in_of (we ry) hd dd.mapOf ?_;rw[← (rel.val k).yN,← l];exact h _ (I.tok _)
 ·subst ey;cases (show u=Value.ref b from ry);obtain⟨z,hd,xs,rel,dd⟩:=t_ I.aO e;refine wpAny_in_heap (x9 hu) (wg I.aO eb) hd dd ?_;have q:=(rel.val k).yN;rw[Fy] at q;rw[← q,← l];exact h _ (I.tok _)
theorem acH{Q:Value->Shared->Prop}(hu:A.units+1<cLine)(I:Inv X pins σ H s)(g:gf H a y o)(ry:RelV y u)(h:∀s',Inv X pins σ H s'->Q (.bool (!o.isSome)) s') :
  wpAny (model X.prog X.w) A (compareOp .NotIn u (.ref a)) Q E s:=by
 rcases g with⟨aA,k,e,ey,l⟩ | ⟨aA,k,b,e,ey,eb,l⟩
 ·subst ey;obtain⟨z,hd,vs,rel,dd⟩:=tZ I.aO e;refine wpAny_notIn_of (we ry) hd dd.mapOf ?_;rw[← (rel.val k).yN,← l];exact h _ (I.tok _)
 ·subst ey;cases (show u=Value.ref b from ry);obtain⟨z,hd,xs,rel,dd⟩:=t_ I.aO e;refine wpAny_notIn_heap (x9 hu) (wg I.aO eb) hd dd ?_;have q:=(rel.val k).yN;rw[Fy] at q;rw[← q,← l];exact h _ (I.tok _)
theorem S0{h':Heap}{t':Nat}{ob:HO}(I:Inv X pins σ H s)(mu:ya (H a))(hs:Heap.SameBut a s.heap h')(he:∃q,h'.get? a=some q)(new:eF X.prog X.w (upd H a ob) h' a ob) :
  Inv X pins σ (upd H a ob) { s with heap:=h',toks:=t' } :=
 I.write (x:=a) (e:=a) mu (.inl rfl) (λb q hb z=>(hs.2 b hb).trans z) he new
theorem acI{P:Program}{w:World}{H':Hp}{h':Heap}{aA:List (Key×V)}{vs:List (Key×Value)}(z:aA.length<=sizeLine)(hd:(a == sysModules)=false)(rel:KV aA vs)(dd:h'.DictOf (dN P w) a vs) :
  eF P w H' h' a (.dK aA):=⟨z,hd,vs,rel,dd⟩
theorem acJ{H':Hp}{Q:Unit->Shared->Prop}(hu:A.units+1<cLine)(I:Inv X pins σ H s)(g:lT H a y v H')(ry:RelV y u)(rv:RelV v r)(h:∀s',Inv X pins σ H' s'->Q () s') :
  wpAny (model X.prog X.w) A (setItem (.ref a) u r) Q E s:=by
 rcases g with⟨aA,k,e,ey,l,eH⟩ | ⟨aA,k,b,e,ey,eb,l,eH⟩
 ·subst ey eH;obtain⟨z,hd,vs,rel,dd⟩:=acE I.aO e;have hz:vs.length<=sizeLine:=by rw[← rel.length];exact z
  have hl:(putK aA k v).length<=sizeLine:=by have:=Ho aA k v;lia
  refine wpAny_setItem_pairs (hsz:=hz) (we ry) dd λh' wj hs=>h _ ?_;have he:∃q,h'.get? a=some q:=let ⟨q,_,_,hq,_⟩:=wj;⟨q,hq⟩
  exact S0 I (by rw[e];exact True.intro) hs he (acI hl hd (rel.put k rv) wj)
 ·subst ey eH;cases (show u=Value.ref b from ry);obtain⟨z,hd,xs,rel,dd⟩:=Hr I.aO e;have hz:xs.length<=sizeLine:=by rw[← Bt rel];exact z
  have hl:(putK aA k v).length<=sizeLine:=by have:=Ho aA k v;lia
  refine wpAny_setItem_heap (hsz:=hz) (x9 hu) (wg I.aO eb) dd λh' wj hs=>h _ ?_;obtain⟨q,es,ep,hq,h2,h3,h4,_,h5⟩:=wj;refine S0 I (by rw[e];exact True.intro) hs ⟨q,hq⟩ ⟨hl,hd,_,(rel.put k eb rv).keeps λc ys ec=>?_,q,es,ep,hq,h2,h3,h4,h5⟩
  rw[aI (jm ec e (λz=>nomatch z))];exact ec
end
section
variable{X:Cx}{pins:List (Addr×Obj)}{σ:St}{H:Hp}{s:Shared}{a:Addr}{aA:List (Key×V)}{k:Key}{u:Value}{A:Around}{E:Value->Shared->Prop}
end
def S2(i:Expr):Prop:=∀ov iv,subscripted i false ov iv=operate [ov,iv] (getItem ov iv)
theorem acK{prog:Program}{w:World}{A:Around}{E:Value->Shared->Prop}{s:Shared}{env:Env}{value slice:Expr}{pos:Pos}{T id:String}{Q:Value->Shared->Prop}
  (hl:typeLookup (.type T) "__getitem__" = pure (some (.builtin id))) (hs:S2 slice)
  (h:wpAny (model prog w) A (eval value env) (λo bf=>wpAny (model prog w) A (eval slice env) (λi jo=>jo.TypeIs o T/\wpAny (model prog w) A (getItem o i) Q E jo) E bf) E s) :
  wpAny (model prog w) A (eval (.Subscript value slice pos) env) Q E s:=by
 refine Subscript_ (iS h (λo bf oX=>iS oX (λi jo yO=>?_) λ_ _ x=>x) λ_ _ x=>x);obtain⟨hT,yO⟩:=yO;unfold subscriptTail;refine aJ ?_;rw[getitemInPython_of_ne hT.not_modules];refine aJ (BD hT hl ?_);have fin:wpAny (model prog w) A (subscripted slice false o i) (λr lU=>wpAny (model prog w) A (letTemporaryGo value o r >>= λ_=>pure r) Q E lU) E jo:=by
  rw[hs o i];exact wpAny_operating (iS yO (λr lU Cb=>aJ (wpAny_letTemporaryGo (bq Cb))) λ_ _ x=>x)
 first
  | exact bq (aJ fin)
  | exact aJ (bq (aJ fin))
  | exact aJ fin
theorem acL{X:Cx}{pins:List (Addr×Obj)}{σ:St}{H:Hp}{s:Shared}{a:Addr}{y:V}{o:Option V}(I:Inv X pins σ H s)(g:gf H a y o):s.TypeIs (.ref a) "dict" := by
 rcases g with⟨aA,k,e,_,_⟩ | ⟨aA,k,b,e,_,_,_⟩
 ·obtain⟨_,_,vs,_,dd⟩:=tZ I.aO e;exact dd.typeIs
 ·obtain⟨_,_,xs,_,dd⟩:=t_ I.aO e;exact dd.typeIs
def Hs(td ty:TE):TE:=λσ H Q=>td σ H λx H1=>ty σ H1 λy H2=>∃a v,x = .ref a/\gf H2 a y (some v)/\Q v H2
def Ht(ty td:TE):TE:=λσ H Q=>ty σ H λy H1=>td σ H1 λx H2=>∃a o,x = .ref a/\gf H2 a y o/\Q (.bl o.isSome) H2
def Hu(ty td:TE):TE:=λσ H Q=>ty σ H λy H1=>td σ H1 λx H2=>∃a o,x = .ref a/\gf H2 a y o/\Q (.bl (!o.isSome)) H2
def Hv(td ty tv:TE):TS:=λD σ H=>tv σ H λv H1=>td σ H1 λx H2=>ty σ H2 λy H3=>∃a H4,x = .ref a/\lT H3 a y v H4/\D.nx σ H4
section
variable{X:Cx}{o i e value:Expr}{pos pos' abV:Pos}{td ty tv:TE}
theorem acM(hu:X.A.units+1<cLine)(ho:PE X o td)(hi:PE X i ty)(hs:S2 i):PE X (.Subscript o i pos) (Hs td ty):=by
 intro pins s σ H Q I h;refine acK PySem.F.slot_dict_getitem.lookup hs (aW (ho pins s σ H _ I h) λu s1 ⟨x,H1,I1,rx,q1⟩=>aW (hi pins s1 σ H1 _ I1 q1) λiv s2 ⟨y,H2,I2,ry,zz⟩=>?_);obtain⟨a,v,ex,g,q2⟩:=zz;subst ex;obtain rfl:u=Value.ref a:=rx;exact⟨acL I2 g,acF hu I2 g ry λw' s3 I3 ng=>⟨v,H2,I3,ng,q2⟩⟩
theorem S3(hu:X.A.units+1<cLine)(hi:PE X i ty)(ho:PE X o td):PC X .In i o (Ht ty td):=by
 intro pins s σ H Q I h;refine aW (hi pins s σ H _ I h) λiv s1 ⟨y,H1,I1,ry,q1⟩=>aW (ho pins s1 σ H1 _ I1 q1) λu s2 ⟨x,H2,I2,rx,zz⟩=>?_;obtain⟨a,ov,ex,g,q2⟩:=zz;subst ex;obtain rfl:u=Value.ref a:=rx;exact acG hu I2 g ry λs3 I3=>⟨.bl ov.isSome,H2,I3,rfl,q2⟩
theorem acN(hu:X.A.units+1<cLine)(hi:PE X i ty)(ho:PE X o td):PC X .NotIn i o (Hu ty td):=by
 intro pins s σ H Q I h;refine aW (hi pins s σ H _ I h) λiv s1 ⟨y,H1,I1,ry,q1⟩=>aW (ho pins s1 σ H1 _ I1 q1) λu s2 ⟨x,H2,I2,rx,zz⟩=>?_;obtain⟨a,ov,ex,g,q2⟩:=zz;subst ex;obtain rfl:u=Value.ref a:=rx;exact acH hu I2 g ry λs3 I3=>⟨.bl (!ov.isSome),H2,I3,rfl,q2⟩
theorem yP(hu:X.A.units+1<cLine)(ho:PE X o td)(hi:PE X i ty)(hv:PE X value tv)(hs:swapsWith value (some (.Subscript o i pos')) pos.line X.env=pure false) :
  PS X (.Assign [.Subscript o i pos'] value pos) (Hv td ty tv):=by
 intro pins s σ H D I h;refine wpAny_Assign_Subscript (aW (hv pins s σ H _ I h) λr s1 ⟨v,H1,I1,rv,q1⟩=>aW (ho pins s1 σ H1 _ I1 q1) λu s2 ⟨x,H2,I2,rx,q2⟩=>aW (hi pins s2 σ H2 _ I2 q2) λiv s3 ⟨y,H3,I3,ry,zz⟩=>?_) hs;obtain⟨a,H4,ex,g,q3⟩:=zz;subst ex;obtain rfl:u=Value.ref a:=rx;exact acJ hu I3 g ry rv λs4 I4=>⟨σ,H4,I4,q3⟩
end
theorem acO{P:Program}{w:World}{H:Hp}(h:Heap)(hb:sysModules<h.objs.size):eF P w H (h.push { cls:=.type "dict",data:=.dict #[] }) h.objs.size (.dK []) :=
 ⟨eL _,lI.mpr (iC (cR hb)),[],.nil,Heap.DictOf.new h⟩
theorem acP{P:Program}{w:World}{H:Hp}(h:Heap)(hb:sysModules<h.objs.size):eF P w H (h.push { cls:=.type "dict",data:=.dict #[] }) h.objs.size (.dT []) :=
 ⟨eL _,lI.mpr (iC (cR hb)),[],.nil,_,#[],0,fM _ rfl,⟨rfl,rfl,rfl⟩,rfl,rfl,Bh⟩
def Hw:TE:=λ_ H Q=>∀p,H p=none->Q (.ref p) (upd H p (.dK []))
def Hx:TE:=λ_ H Q=>∀p,H p=none->Q (.ref p) (upd H p (.dT []))
section
variable{X:Cx}{pos:Pos}
theorem acQ:PE X (.Dict [] [] pos) Hw:=λpins s σ H Q I h =>
 wpAny_Dict_empty ⟨.ref s.heap.objs.size,_,I.laid (a:=s.heap.objs.size) (o:=.dK []) (t':=s.toks) (λ_ _ q=>cK _ q) (bu _) (acO s.heap I.big),rfl,h _ (I.aO.fresh (bu _))⟩
theorem Hy:PE X (.Dict [] [] pos) Hx:=λpins s σ H Q I h =>
 wpAny_Dict_empty ⟨.ref s.heap.objs.size,_,I.laid (a:=s.heap.objs.size) (o:=.dT []) (t':=s.toks) (λ_ _ q=>cK _ q) (bu _) (acP s.heap I.big),rfl,h _ (I.aO.fresh (bu _))⟩
end
structure M1(X:Cx)(o:Expr)(m:Str)(apos:Pos)(e:Expr)(iH:Pos):Prop where
 base:attributeBase o m X.env (eval o X.env)=eval o X.env
 Cc:((backTo iH (starEach [e] X.env)).all (λx => !x.1) && (backToKw iH (keywordEach [] X.env)).all (λx=>x.1.isSome)
  && decide (([e]:List Expr).length+([]:List Keyword).length+(if ([]:List Keyword).isEmpty then 0 else 1)<30))=true
 line:(apos.endLine == iH.line)=true
 trees:backTo iH (starEach [e] X.env) = [(false,eval e X.env)]
def Hz(H:Hp)(a:Addr):Prop:=(∃aA,Rd H a (.dK aA))\/∃aA,Rd H a (.dT aA)
theorem acR{X:Cx}{pins:List (Addr×Obj)}{σ:St}{H:Hp}{s:Shared}{a:Addr}(I:Inv X pins σ H s)(d:Hz H a) :
  s.TypeIs (.ref a) "dict"/\(∀b,Value.ref a = .ref b->∃ob,s.heap.get? b=some ob/\ob.dict=none)/\(a == sysModules)=false:=by
 rcases d with⟨aA,e⟩ | ⟨aA,e⟩
 ·obtain⟨_,hd,vs,_,dd⟩:=tZ I.aO e;refine⟨dd.typeIs,λb q=>?_,hd⟩;cases q;obtain⟨ob,_,_,h1,h2,_⟩:=dd;exact⟨ob,h1,h2.2.1⟩
 ·obtain⟨_,hd,xs,_,dd⟩:=t_ I.aO e;refine⟨dd.typeIs,λb q=>?_,hd⟩;cases q;obtain⟨ob,_,_,h1,h2,_⟩:=dd;exact⟨ob,h1,h2.2.1⟩
section
variable{X:Cx}{pins:List (Addr×Obj)}{σ:St}{H:Hp}{s:Shared}{a:Addr}{y d:V}{u r:Value}{o:Option V}{A:Around}{E:Value->Shared->Prop}
theorem acS{Q:Value->Shared->Prop}(hu:A.units+1<cLine)(I:Inv X pins σ H s)(g:gf H a y o)(ry:RelV y u)(h:∀w' s',Inv X pins σ H s'->RelV (o.getD .aU) w'->Q w' s') :
  wpAny (model X.prog X.w) A (call (.builtin "dict.get") [.ref a,u]) Q E s:=by
 rcases g with⟨aA,k,e,ey,l⟩ | ⟨aA,k,b,e,ey,eb,l⟩
 ·subst ey;obtain⟨z,hd,vs,rel,dd⟩:=tZ I.aO e;refine call_meetsIn Fz dd.typeIs PySem.F.entry_dict_get (PySem.F.args_dict_get_2 _ _) (meets_dict_get (dN X.prog X.w) a (we ry) hd) ⟨_,dd.mapOf,h _ _ (I.tok _) ?_⟩;rw[l];exact(rel.val k).getD rfl
 ·subst ey;cases (show u=Value.ref b from ry);obtain⟨z,hd,xs,rel,dd⟩:=t_ I.aO e;refine call_meetsIn Fz dd.typeIs PySem.F.entry_dict_get (PySem.F.args_dict_get_2 _ _) (meetsH_dict_get (tupleKind (dN X.prog X.w)) a b hd) ⟨x9 hu,k,xs,wg I.aO eb,dd,h _ _ (I.tok _) ?_⟩;rw[l];exact(rel.val k).getD rfl
end
def HC(td ty:TE):TE:=λσ H Q=>td σ H λx H1=>∃a,x = .ref a/\Hz H1 a/\ty σ H1 λy H2=>∃o,gf H2 a y o/\Q (o.getD .aU) H2
section
variable{X:Cx}{o e f:Expr}{apos iH:Pos}{td ty tx:TE}
theorem acT(hu:X.A.units+1<cLine)(ho:PE X o td)(he:PE X e ty)(m:M1 X o "get" apos e iH):PE X (.Call (.Attribute o "get" apos) [e] [] iH) (HC td ty):=by
 intro pins s σ H Q I h;refine wpAny_Call_method m.base m.Cc m.line PySem.F.plainAttrs_dict Fz PySem.F.type_dict_get (aW (ho pins s σ H _ I h) λu s1 ⟨x,H1,I1,rx,zz⟩=>?_);obtain⟨a,ex,d,q1⟩:=zz;subst ex;obtain rfl:u=Value.ref a:=rx;obtain⟨t1,t2,_⟩:=acR I1 d;refine⟨t1,t2,?_⟩;rw[m.trees];refine E6 rfl (Calls.evalArgs_plain (AY (aW (he pins s1 σ H1 _ I1 q1) λiv s2 ⟨y,H2,I2,ry,zz⟩=>AZ ?_)));obtain⟨ov,g,q2⟩:=zz;exact acS hu I2 g ry λw' s3 I3 ng=>⟨_,H2,I3,ng,q2⟩
end
section
variable{X:Cx}{pins:List (Addr×Obj)}{σ:St}{H:Hp}{s:Shared}{a:Addr}{aA:List (Key×V)}{A:Around}{E:Value->Shared->Prop}
end
section
variable{X:Cx}{pins:List (Addr×Obj)}{σ:St}{H:Hp}{s:Shared}{a:Addr}{y:V}{u:Value}{A:Around}{E:Value->Shared->Prop}
end
end _L
namespace HD
open PySem PySem.W PySem.Calls PyProof.Rows
theorem acU{P:Params}{h:Heap}:∀(ns:List Int) (vs:List Value),WellAll P h vs (ns.map WData.int)->IntsAre vs ns:=by
 intro ns
 induction ns with
 | nil =>
  intro vs w;rw[List.map_nil] at w;cases w;exact .nil
 | cons n ns ih =>
  intro vs w;rw[List.map_cons] at w;cases w with
  | cons a b =>
   cases a;exact .cons _ _ (ih _ b)
theorem acV{l:OpenLaw}{n:Nat}(hn:l.most=some n){P:Params}{h:Heap}{args:List WData}{vals:List Value}
  (wk:l.row.toRowW.claim.pre args=true) (HE:WellAll P h vals args) :
  ∃a vs ns,vals = [Value.ref a]/\args = [WData.list (ns.map WData.int)]/\h.get? a=some { cls:=.type "list",data:=.seq vs.toArray }/\IntsAre vs ns/\ns.length<=n:=by
 have hsh:WShape.hasAll [] args [.list .int] = true:=(pre_splitW wk).1;have hc:l.pre.holds [] { args:=args }=true:=(pre_splitW wk).2;obtain⟨d,r,rfl,h1,h2⟩:=hasAllW_cons hsh;obtain rfl:=hasAllW_nil h2;obtain⟨xs,rfl,h3⟩:=hasW_list h1;obtain⟨ns,rfl⟩:=items_int h3;have hlen:ns.length<=n:=by
  unfold OpenLaw.pre at hc;have h4:(WTm.not (.lt (.lit (.int (n:Int))) (.len (.arg 0)))).holds [] { args:=[.list (ns.map .int)] }=true:=by
   have h4:=(holds_andW hc).1;rw[hn] at h4;exact h4
  have h5:=condW_of h4 (w_not (w_lt w_lit (w_len_list (w_arg rfl))));rw[List.length_map] at h5;refine Nat.le_of_not_lt λq=>?_
  have q':(n:Int)<((ns.length:Nat):Int):=by lia
  first
   | (rw[decide_eq_true q'] at h5;exact absurd h5 ⋯)
   | (simp at h5;lia)
 cases HE with
 | cons w1 w2 =>
  cases w2;cases w1 with
  | list ho oY=>exact⟨_,_,ns,rfl,rfl,ho,acU ns _ oY,hlen⟩
theorem acW(l:OpenLaw)(args:List WData):l.row.toRowW.claim.post args (.bool true) args=true :=
 postW_of (r:=l.row.toRowW) (X:=(true == true))
  (show WShape.has [] (.bool true) .bool=true by first | rfl | decide | simp[WShape.has,WShape.arms,WShape.armsAll])
  (show (WTm.eq .res (.lit (.bool true))).value [] { args:=args,res:=some (.bool true),after:=args }=some (.bool (true == true)) from w_eq_bool (w_res rfl) w_lit) rfl
theorem S4{l:OpenLaw}{n:Nat}{q:Program}{loose:List Str}{XP:(Str->Option Value)->Heap->Prop}{YP:World->Heap->Prop}{d:DefRec}
  (hn:l.most=some n) (uc:d.params.defaults = [])
  (call:∀(w:World) (eg bf:Shared) (mg mb:Str->Option Value) (fa:Addr) (o:Obj) (pm cd doc:Value) (a:Addr) (vs:List Value) (ns:List Int),
   Ground q loose [] XP w eg mg mb bf.heap->YP w bf.heap->
   bf.heap.get? fa=some o->o.data = .func (docDef d.name d.params d.body d.scope pm cd doc)->bf.heap.CodeRec cd d.name->mg d.name=some (.ref fa)->
   bf.heap.get? a=some { cls:=.type "list",data:=.seq vs.toArray }->IntsAre vs ns->ns.length<=n->bf.gens = #[]->
   codeAny (model l.prog w) callerA (.call (.ref fa) ⟨[.ref a],[]⟩) (λr s'=>r = .ok (.ret (.bool true))/\OldK bf.heap s'.heap/\s'.os=bf.os/\AllBare s'.gens) bf) :
  WalkO q loose XP YP l.row.toRowW d [] (λf vs=>PySem.call f vs):=by
 intro w eg bf mg mb G Y fa o pm cd doc dV kV ho hd fZ hD hmg hg args vals as wk apc hrd HE hlo;obtain rfl:dV = .none:=Dflts.none hD uc;obtain rfl:kV = .none:=Dflts.noKw hD;obtain⟨a,vs,ns,rfl,rfl,yQ,hints,hlen⟩:=acV hn wk HE;refine enter_call (codeAny_mono (call w eg bf mg mb fa o pm cd doc a vs ns G Y ho (fd_plain hd) fZ hmg yQ hints hlen hg) λr s' hq=>?_);obtain⟨rfl,h2,h3,h4⟩:=hq;exact⟨.inl ⟨.bool true,.bool true,[],rfl,λ_=>rfl,.bool true,acW l _,λ_=>⟨List.Pairwise.nil,λ_ hm=>(nomatch hm)⟩⟩,h2,h3,h4⟩
section
variable{prog:Program}{w:World}{A:Around}{E:Value->Shared->Prop}{s:Shared}{K:Frag}
noncomputable def ledger(h:Heap)(L d:Addr):List (Addr×Obj):=(List.range h.objs.size).filterMap λa=>if a=L\/a=d then none else(h.get? a).map λo=>(a,o)
end
end HD
namespace _L
open PySem PySem.Spec PyProof.Rows
theorem yR:∀ {vs:List Value} {ns:List Int},IntsAre vs ns->Vals (ns.map V.int) vs
 | _,_,.nil=>.nil
 | _,_,.cons n t h=>.cons ⟨t,rfl⟩ (yR h)
def HF(H:Hp):Prop:=∀b,H b=none\/∃o xs,H b=some (.jk o (.lst xs))
theorem acX{P:Program}{w:World}{K:W.Frag}{mg mb:Str->Option Value}{CX:jq}{k:Nat}{fa a:Addr}{fd:FuncData}{x:Str}{sp:Sp}{bf:Shared}{vs:List Value}{ns:List Int}
  (KX:K.In bf.heap) (nh:bf.heap.Ns mainGlobals mg) (hb:bf.heap.Ns builtinsNs mb) (HG:∀x:Str,x≠"__name__"->mb x=bootBuiltins x) (HJ:bf.heap.NoLimit) (hg:bf.gens = #[])
  (ha:bf.heap.get? a=some { cls:=.type "list",data:=.seq vs.toArray }) (hi:IntsAre vs ns) (hl:ns.length<=sizeLine) (hr:dQ k callerA)
  (F:∀base:Heap,K.In base->base.Ns mainGlobals mg->aY P w K mg base CX k fa fd [x] sp) (lV:∀(s:Shared) (u:Value),BindsTo s fd ⟨[u],[]⟩ [(x,u)])
  (dF:∀H:Hp,HF H->az K H a (ns.map V.int)->sp [.ref a] H (λv _=>v = .bl true) λ_ _ _=>False)
  (HK:∀H e s',CX [] H bf (λ_ _ _=>False) e s'->False) :
  codeAny (model P w) callerA (.call (.ref fa) ⟨[.ref a],[]⟩) (λr s'=>r = .ok (.ret (.bool true))/\OldK bf.heap s'.heap/\s'.os=bf.os/\AllBare s'.gens) bf:=by
 have rv:=yR hi;have HL:=hi.length
 -- from an abstract heap in which nothing but the script may be tracked
 have core:∀H:Hp,HF H->az K H a (ns.map V.int)->dO P w H bf.heap->(∀b,H b≠none->b=a)->(H a≠none->K.lookup a=none)->
   codeAny (model P w) callerA (.call (.ref fa) ⟨[.ref a],[]⟩) (λr s'=>r = .ok (.ret (.bool true))/\OldK bf.heap s'.heap/\s'.os=bf.os/\AllBare s'.gens) bf:=by
  intro H hO hS aO hA hK;have ue:∀ {b:Addr} {o:Obj},bf.heap.get? b=some o->H b=none->(jE bf.heap H).get? b=some o:=λe n=>RD e n;have yF:∀ {b:Addr} {o:Obj} {es:Array DictEntry} {ep:Nat},bf.heap.get? b=some o->o.data = .dict es ep->H b=none:=λ{b o es ep} e d=>by
   cases q:H b with
   | none=>rfl
   | some u =>
    have e':b=a:=hA b (by rw[q];simp)
    subst e';rw[ha] at e;cases e;have d':Data.seq vs.toArray _=Data.dict es ep:=d;cases d'
  have qm:∀ {b:Addr} {m:Str->Option Value},bf.heap.Ns b m->(jE bf.heap H).Ns b m:=λ{b m} ⟨o,es,ep,e,d,r⟩=>⟨o,es,ep,ue e (yF e d),d,r⟩;have yS:K.In (jE bf.heap H):=λb o e=>ue (KX b o e) (by
   cases q:H b with
   | none=>rfl
   | some u =>
    have e':b=a:=hA b (by rw[q];simp)
    subst e';rw[hK (by rw[q];simp)] at e;cases e)
  have hM:Mod K mg (jE bf.heap H):=⟨yS,qm nh,⟨mb,qm hb,HG⟩,let ⟨mc,h1,h2⟩:=HJ;⟨mc,qm h1,h2⟩⟩
  have e0:rG P w K mg (jE bf.heap H) callerA [] bf H:=⟨rfl,hM,λb o e=>RE e,Bo (RC _ _),trivial,λb hb=>absurd (show b∈([]:List Addr) from hb) (by simp),aO,.of_eq hg⟩
  refine vC ((F _ yS (qm nh)).run callerA [] bf H ⟨[.ref a],[]⟩ [.ref a] [.ref a] _ _ hr e0 (lV bf (.ref a)) (.cons rfl .nil) (dF H hO hS)) λr s' h=>?_;cases r with
  | error e=>exact(HK H e s' h).elim
  | ok fl =>
   cases fl with
   | next=>exact False.elim h
   | brk=>exact False.elim h
   | cont=>exact False.elim h
   | ret u =>
    obtain⟨v,H',os,bare,un,Cd,r',q⟩:=h;have q':v = .bl true:=q;subst q';obtain rfl:u=Value.bool true:=r';refine⟨rfl,OldK.of_keep λb o e=>?_,os,bare⟩;cases q:H b with
    | none=>exact un.keep b o e q (by intro z;exact absurd (show b∈([]:List Addr) from z) (by simp)) (by simp)
    | some u =>
     rcases hO b with z | ⟨ob,xs,z⟩
     ·rw[q] at z;cases z
     ·have z2:=un.oJ b ob _ z;obtain⟨e1,_⟩:=aO b _ z;obtain⟨e2,_⟩:=Cd b _ z2;rw[e] at e1;cases e1;exact e2
 cases hk:K.lookup a with
 | some o =>
  -- the script is one of the module's own objects
  have e:=KX a o hk;rw[ha] at e;cases e;refine core (λ_=>none) (λ_=>.inl rfl) (.inr ⟨_,vs.toArray,_,hk,rfl,rfl,rfl,by rw[gB,HL];exact hl,by simpa using rv⟩) (λb u z=>by have z':(none:Option HO)=some u:=z;cases z') (λb z=>absurd rfl z) λz=>absurd rfl z
 | none =>
  refine core (λb=>if b=a then some (.jk { cls:=.type "list",data:=.seq vs.toArray } (.lst (ns.map V.int))) else none) (λb=>?_) (.inl (.inr ⟨{ cls:=.type "list",data:=.seq vs.toArray },if_pos rfl⟩)) (λb u z=>?_) (λb z=>?_) λ_=>hk
  ·by_cases hb:b=a
   ·exact .inr ⟨_,_,if_pos hb⟩
   ·exact .inl (if_neg hb)
  ·by_cases hb:b=a
   ·have z':=(if_pos hb).symm.trans z;cases z';subst hb;exact⟨ha,by rw[aM];exact hl,vs,_,rv,ha⟩
   ·have z':=(if_neg hb).symm.trans z;cases z'
  ·by_cases hb:b=a
   ·exact hb
   ·exact absurd (if_neg hb) z
noncomputable abbrev KOf{K:W.Frag}{h:Heap}(_:K.In h):W.Frag:=K
theorem apd{l:PySem.W.OpenLaw}{n k:Nat}{q:Program}{loose:List Str}{XP:(Str->Option Value)->Heap->Prop}{YP:World->Heap->Prop}{d:DefRec}{K:Params->W.Frag}{CX:World->jq}{sp:World->Sp}{x:Str}
  (hn:l.most=some n) (vV:n<=sizeLine) (uc:d.params.defaults = []) (hr:dQ k callerA)
  (hY:∀(w:World) (h:Heap),YP w h->(K w.params).In h)
  (F:∀(w:World) (mg:Str->Option Value) (fa:Addr) (h:Heap),(K w.params).In h->h.Ns mainGlobals mg->mg d.name=some (.ref fa)->
   ∃fd:FuncData,(∀(s:Shared) (u:Value),BindsTo s fd ⟨[u],[]⟩ [(x,u)])/\
    ∀base:Heap,(K w.params).In base->base.Ns mainGlobals mg->aY l.prog w (K w.params) mg base (CX w) k fa fd [x] (sp w))
  (dF:∀(w:World) (H:Hp) (a:Addr) (ns:List Int),ns.length<=n->HF H->az (K w.params) H a (ns.map V.int)->sp w [.ref a] H (λv _=>v = .bl true) λ_ _ _=>False)
  (HK:∀(w:World) (H:Hp) (s:Shared) (e:Value) (s':Shared),CX w [] H s (λ_ _ _=>False) e s'->False) :
  PySem.W.WalkO q loose XP YP l.row.toRowW d [] (λf vs=>PySem.call f vs):=by
 refine HD.S4 hn uc λw eg bf mg mb fa o pm cd doc a vs ns G Y ho hd fZ hmg yQ hints hlen hg=>?_;have KX:=hY w _ Y;obtain⟨fd,hb,hF⟩:=F w mg fa _ KX G.T.g hmg;exact acX KX G.T.g G.T.b G.T.builtins G.T.nolimit hg yQ hints (cQ hlen vV) hr hF hb (λH hO hS=>dF w H a ns hlen hO hS) λH e s'=>HK w H bf e s'
noncomputable def inClass(s:Stmt)(j:Nat):Stmt:=match s with
 | .ClassDef _ _ _ body _ _ _ _ _ _ _=>body.getD j (.Pass ⟨0,0,0,0⟩)
 | _=>.Pass ⟨0,0,0,0⟩
noncomputable def iI(s:Stmt):Arguments:=match s with
 | .FunctionDef _ a _ _ _ _ _ _ _ _=>a
 | _=>{ posonlyargs:=[],args:=[],vararg:=none,kwonlyargs:=[],kw_defaults:=[],kwarg:=none,defaults:=[] }
noncomputable def gg(s:Stmt):List Stmt:=match s with
 | .FunctionDef _ _ b _ _ _ _ _ _ _=>b
 | _=>[]
noncomputable def aV(s:Stmt):Scope:=match s with
 | .FunctionDef _ _ _ _ _ _ sc _ _ _=>sc
 | _=>{ kind:=.function,names:=[],isGenerator:=false,isCoroutine:=false }
noncomputable abbrev bw:jq:=λ_ _ _ _ _ _=>False
noncomputable abbrev E0:XK:=λ_ _ _=>False
theorem aP{X:Cx}:Passes bw X E0:=λ_ _ _ _ _ _ _ h=>h.elim
structure dJ(K:W.Frag)(x qual:Str)(st:Stmt)(f:Addr)(fd:FuncData):Prop where
 ex:∃(oc:Value) (od:Option Addr) (kV doc pm:Value) (an:Option Addr) (aQ ct:Value) (jJ:Array (Option Value)),
  fd=PySem.W.fnOf x qual (iI st) (gg st) (aV st) .none kV doc pm an aQ ct/\K.lookup f=some ⟨oc,od,.func fd,jJ⟩/\PySem.W.codeIn K aQ qual=true
 kp:PySem.W.keepIn K (.ref f)=true
section
variable{P:Program}{w:World}{K:W.Frag}{mg:Str->Option Value}{base:Heap}
theorem dJ.ok{x qual:Str}{st:Stmt}{f:Addr}{fd:FuncData}{N ps:List Str}{k:Nat}{sp:Sp}(F:dJ K x qual st f fd)(S:bH N ps (aV st))(len:∀vs H Q E,sp vs H Q E->vs.length=ps.length)
  (tQ:∀(aQ:Value) (A:Around) (outer:List Env) (s:Shared) (H:Hp) (vs:List V) (Q:VK) (E:XK),dQ k (A.deeper (envOfC qual (aV st) s.heap.objs.size f aQ))->sp vs H Q E->
   ∃t,h_ (qk bw P w K mg base N qual (aV st) f aQ A outer s H E).rz (gg st) t/\t { nx:=λ_ H'=>Q .aU H',rt:=Q } (start N vs) H):aY P w K mg base bw (k+1) f fd ps sp:=by
 obtain⟨oc,od,kV,doc,pm,an,aQ,ct,jJ,rfl,lk,fZ⟩:=F.ex;refine GN lk fZ S len λA outer s H vs Q E hr dF=>?_;obtain⟨t,h,q⟩:=tQ aQ A outer s H vs Q E hr dF;exact⟨t,h.rz,q⟩
theorem dJ.binds{x qual:Str}{st:Stmt}{f:Addr}{fd:FuncData}{ps:List Str}(F:dJ K x qual st f fd)
  (h:∀(kV doc pm:Value) (an:Option Addr) (aQ ct:Value) (us:List Value),us.length=ps.length->bindArgs (PySem.W.fnOf x qual (iI st) (gg st) (aV st) .none kV doc pm an aQ ct) ⟨us,[]⟩=pure (ps.zip us)):Binds K fd ps []:=by
 obtain⟨oc,od,kV,doc,pm,an,aQ,ct,jJ,rfl,lk,fZ⟩:=F.ex;exact .all (h kV doc pm an aQ ct)
theorem fun_mk{x qual:Str}{st:Stmt}{f:Addr}{oc:Value}{od an:Option Addr}{jJ:Array (Option Value)}{kV doc pm aQ ct:Value}(l:K.lookup f=some ⟨oc,od,.func (PySem.W.fnOf x qual (iI st) (gg st) (aV st) .none kV doc pm an aQ ct),jJ⟩)
  (c:PySem.W.codeIn K aQ qual=true) (k:PySem.W.keepIn K (.ref f)=true):dJ K x qual st f (PySem.W.fnOf x qual (iI st) (gg st) (aV st) .none kV doc pm an aQ ct):=⟨⟨oc,od,kV,doc,pm,an,aQ,ct,jJ,rfl,l,c⟩,k⟩
end
theorem qo{A:Around}{k:Nat}(hr:dQ k A):A.units+1<cLine:=oE (qb (by decide:1<=64) _) hr.units
theorem g8{n:Nat}(h:n<=1000):n<sizeLine:=oE h ⋯
section
variable{X:Cx}
theorem pv(i:Nat){x:Str}{pos:Pos}(hN:X.N[i]? = some x:=by rfl)(hv:BK X.env.scope x:=by first | exact Or.inl rfl | exact Or.inr OL_ | exact Or.inr (Or.inr rfl))(hd:(x == ("__debug__" : Str))=false:=by decide)
  (fZ:(x == ("__classdict__" : Str))=false:=by decide):PE X (.Name x pos) (BO i):=RQ hN hv hd fZ
end
theorem cF{c A B:Prop}[Decidable c](h1:c->A)(h2:¬ c->B):if c then A else B:=by
 by_cases h:c
 ·rw[if_pos h];exact h1 h
 ·rw[if_neg h];exact h2 h
def aj(H H':Hp):Prop:=∀b o,H b=some o->H' b=some o
theorem aj.refl(H:Hp):aj H H:=λ_ _ h=>h
theorem aj.trans{H H1 H2:Hp}(a:aj H H1)(b:aj H1 H2):aj H H2:=λc o h=>b c o (a c o h)
theorem aj.free{H H':Hp}(e:aj H H'){l:Addr}(h:H' l=Option.none):H l=Option.none:=by
 cases q:H l with
 | none=>rfl
 | some o =>
  rw[e l o q] at h;cases h
theorem aj.seq{K:W.Frag}{H H':Hp}{a:Addr}{xs:List V}(e:aj H H')(h:az K H a xs):az K H' a xs:=by
 rcases h with(h | ⟨o,h⟩) | h
 ·exact .inl (.inl (e _ _ h))
 ·exact .inl (.inr ⟨o,e _ _ h⟩)
 ·exact .inr h
section
variable{κ:Type}[DecidableEq κ]
end
end _L
set_option maxHeartbeats 4000000
namespace _L
open PySem PySem.Spec PyProof.Rows
section
variable{prog:Program}{w:World}{A:Around}{R:Result->Shared->Prop}{s:Shared}
theorem acY{elt target iter:Expr}{ifs:List Expr}{scope:Scope}{pos:Pos}{it acc:Value}{env:Env}(I:Nat->Shared->Prop)
  (turn:∀n s,I n s->wpAny (model prog w) A (pyNext it) (λr bf=>match r with
   | none=>R (.ok .next) bf
   | some v=>wpAny (model prog w) A (letOwnedTupleGo target it v) (λ_ S5=>wpAny (model prog w) A (assign target env v) (λ_ jo =>
     wpAny (model prog w) A (forIn ifs true λc r=>if r=true then do let ok ← isTrue c env (eval c env);pure (ForInStep.yield ok) else pure (ForInStep.yield r)) (λok lU =>
      if ok=true then wpAny (model prog w) A (eval elt env) (λx Ce =>
       wpAny (model prog w) A (call (.builtin "list.append") [acc,x]) (λ_ S6=>∃m,m<n/\I m S6) (λ_ _=>False) Ce) (λ_ _=>False) lU
      else ∃m,m<n/\I m lU) (λ_ _=>False) jo) (λ_ _=>False) S5) (λ_ _=>False) bf) (λ_ _=>False) s)
  (n:Nat) (h:I n s):codeAny (model prog w) A (.compLoop (.ListComp elt [⟨target,iter,ifs,0⟩] scope pos) 0 it acc env) R s:=by
 refine codeAny_loop rfl I (λn s hI=>?_) n h
 show wpAny _ A ((compTurn (.ListComp elt [⟨target,iter,ifs,0⟩] scope pos) 0 it acc env).onRaise (λx=>do noteFrame x env;theTreesLotGoes x)) _ _ s
 refine wpAny_noted ?_;rw[compTurn_list];refine aJ (wpAny_standAt (aJ (iS (turn n s hI) (λr bf oX=>?_) λ_ _ h'=>h'.elim)));cases r with
 | none=>exact bq oX
 | some v =>
  refine aJ (iS oX (λ_ S5 acZ=>?_) λ_ _ h'=>h'.elim);refine aJ (iS acZ (λ_ jo yO=>aJ (iS yO (λok lU Cb=>?_) λ_ _ h'=>h'.elim)) λ_ _ h'=>h'.elim);cases ok with
  | false=>exact bq ⟨rfl,Cb⟩
  | true =>
   exact aJ (aJ (iS Cb (λx Ce ac0=>aJ (iS ac0 (λ_ S6 ac1=>bq (bq ⟨rfl,ac1⟩)) λ_ _ h'=>h'.elim)) λ_ _ h'=>h'.elim))
end
theorem Cf{env:Env}:∀ {names:List (Str×NameKind)} {x:Str} {k:NameKind},
  (names.map λ(n,k)=>if (k == NameKind.free && env.scope.kind == .function && env.kindOf n == some .cell) then(n,NameKind.cell) else(n,k)).lookup x=some k->
  ∃k0,names.lookup x=some k0/\(k=k0\/(k0 = .free/\k = .cell))
 | [],_,_,h=>by simp at h
 | (n,k0)::r,x,k,h=>by
  have ih:=@Cf env r x k;have h:List.lookup x ((if (k0 == NameKind.free && env.scope.kind == .function && env.kindOf n == some .cell)=true then(n,NameKind.cell) else(n,k0))::_)=_:=h
  cases hx:x == n with
  | true =>
   by_cases hc:(k0 == NameKind.free && env.scope.kind == .function && env.kindOf n == some .cell)=true
   ·rw[if_pos hc] at h;simp only[List.lookup_cons,hx,Option.some.injEq] at h;simp only[Bool.and_eq_true,beq_iff_eq] at hc;exact⟨k0,by simp[List.lookup_cons,hx],.inr ⟨hc.1.1,h.symm⟩⟩
   ·rw[if_neg hc] at h;simp only[List.lookup_cons,hx,Option.some.injEq] at h;exact⟨k0,by simp[List.lookup_cons,hx],.inl h.symm⟩
  | false =>
   have h':List.lookup x (r.map λ(n,k)=>if (k == NameKind.free && env.scope.kind == .function && env.kindOf n == some .cell) then(n,NameKind.cell) else(n,k))=some k:=by
    by_cases hc:(k0 == NameKind.free && env.scope.kind == .function && env.kindOf n == some .cell)=true
    ·rw[if_pos hc] at h;simpa only[List.lookup_cons,hx] using h
    ·rw[if_neg hc] at h;simpa only[List.lookup_cons,hx] using h
   obtain⟨q,e,z⟩:=ih h';exact⟨q,by simp only[List.lookup_cons,hx];exact e,z⟩
theorem qp{α:Type}{x:Str}{v:α}:∀ {l:List (Str×α)},l.lookup x=some v->(x,v)∈l:=λh=>vv h
section
variable{X:Cx}{pins:List (Addr×Obj)}{σ:St}{H:Hp}{s:Shared}{scope:Scope}{cl:List (Str×Addr)}{N:List Str}{nt:Nat}{fv:List Nat}{fp:List Addr}
noncomputable def k6(σ:St)(nt:Nat)(fv:List Nat):St:=List.replicate nt none++fv.map λj=>(σ[j]?).getD none
end
noncomputable def wm(X:Cx)(ifs:List Expr)(t:TT):Prop :=
 ∀(pins:List (Addr×Obj)) (s:Shared) (σ:St) (H:Hp) (Q:Bool->Hp->Prop),Inv X pins σ H s->t σ H Q->
  wpAny (model X.prog X.w) X.A (forIn ifs true λc r=>if r=true then do let ok ← isTrue c X.env (eval c X.env);pure (ForInStep.yield ok) else pure (ForInStep.yield r)) (TP X pins σ Q) X.xe s
def HM:TT:=λ_ H Q=>Q true H
theorem jL{X:Cx}:wm X [] HM:=λpins s σ H Q I h=>wpAny_tests_nil ⟨H,I,h⟩
theorem oZ{X:Cx}{c:Expr}{t:TT}(hc:PT X c t):wm X [c] t:=λpins s σ H Q I h=>wpAny_tests_one (hc pins s σ H Q I h)
def ni(wi:TI)(g:TG)(tt:TT)(te:TE)(nt:Nat)(fv:List Nat):TE:=λσ H Q=>wi σ H λJ H1=>∀D,H1 D=none->∃W:Nat->Nat->List V->St->Hp->Prop,
 (∃m,W 0 m [] (k6 σ nt fv) (upd H1 D (.lst [])))/\∀i m ys aC H2,W i m ys aC H2->H2 D=some (.lst ys)/\ys.length<sizeLine/\
  ((J.stop i H2/\Q (.ref D) H2)\/(J.go i H2/\∀x H3,J.qh i H2 x H3->g x aC H3 λcG H4=>tt cG H4 λb H5=>if b=true then te cG H5 λv H6=>H6 D=some (.lst ys)/\∃m',m' < m/\W (i+1) m' (ys++[v]) cG (upd H6 D (.lst (ys++[v])))
   else ∃m',m' < m/\W (i+1) m' ys cG H5))
section
variable{X:Cx}{tg iter elt:Expr}{ifs:List Expr}{scope:Scope}{cl:List (Str×Addr)}{N:List Str}{nt:Nat}{fv:List Nat}{pos:Pos}{wi:TI}{g:TG}{tt:TT}{te:TE}
end
noncomputable def yT(K:W.Frag)(a:Addr):It :=
 ⟨λi H=>∃xs x,az K H a xs/\xs[i]? = some x,λi H v H'=>∃T x,H T=none/\v = .ref T/\(∀xs,az K H a xs->xs[i]? = some x)/\H' = upd H T (.tup [.int i,x]),λi H=>∃xs,az K H a xs/\xs.length<=i⟩
theorem ac2{P:Program}{w:World}{K:W.Frag}{elts:List Expr}{x1}{tp:Pos}(a e it:Addr)(HN:e≠it) :
  Turn P w K (.Tuple elts x1 tp) (yT K a) [e,it] e (λi h=>(∃old,IsEnum h e it (i:Nat) old)/\h.IsListIter it a i) where
 mem:=by simp
 obj:=λi h st b hb=>by
  obtain⟨⟨old,he⟩,o,e1,c,d⟩:=st;rcases b_.mp hb with z | hb
  ·rw[z];exact⟨_,he,λv z=>by
    have z':Data.fields _=Data.cell v:=z;cases z'⟩
  ·have e2:b=it:=by simpa using hb
   rw[e2];exact⟨o,e1,λv z=>by rw[d] at z;cases z⟩
 keep:=λi h h' st k=>by
  obtain⟨⟨old,he⟩,hi⟩:=st;exact⟨⟨old,k e (by simp) _ he⟩,hi.at λo q=>k it (by simp) o q⟩
 item:=by
  intro X hP hw hK hc i pins s σ H E I hf st hg;subst hP hw hK;obtain⟨xs,x,hq,hx⟩:=hg;obtain⟨aB,rv,p,hz⟩:=I.list hq;obtain⟨u,hu,ru⟩:=rv.get hx;obtain⟨⟨old,he⟩,hit⟩:=st;obtain⟨f0,f1,f2,f3,f4,f5⟩:=hf e (by simp)
  obtain⟨g0,g1,g2,g3,g4,g5⟩:=hf it (by simp)
  have S7:e<s.heap.objs.size:=cB he;have ac3:it<s.heap.objs.size:=by obtain⟨_,z,_⟩:=hit;exact cB z
  refine wpAny_pyNext_enum_item he hit p.isList (x:=u) (by simpa using hu) HN λh' ho uf hT hsz hk=>?_
  refine⟨_,rfl,?_⟩;refine wpAny_letOwnedTupleGo_enum ho λwu ug iZ=>?_
  replace iZ:Heap.SameBut e h' wu:=iZ
  -- two records have turned,a tuple is new
  have I1:Inv X pins σ H { s with heap:=(s.heap),toks:=s.toks+1 }:=I.tok _;have kk:∀b o,b∉[e,it]->s.heap.get? b=some o->wu.get? b=some o:=λb o hb q=>by
   have h1:b≠e:=λz=>hb (by simp[z])
   have h2:b≠it:=λz=>hb (by simp[z])
   exact iZ.extBut b o h1 (hk b o h1 h2 q)
  have yi:∀b v,H b=some v->b∉[e,it]:=λb v q hb=>by
   rcases b_.mp hb with z | hb
   ·rw[z,f0] at q;cases q
   ·have e2:b=it:=by simpa using hb
    rw[e2,g0] at q;cases q
  have S8:H s.heap.objs.size=none:=I.aO.fresh (bu _);have yU:∀b v,H b=some v->b≠s.heap.objs.size:=λb v q z=>by rw[z,S8] at q;cases q
  have ac4:wu.get? s.heap.objs.size=some { cls:=.type "tuple",data:=.seq #[.int (i:Nat) s.toks,u] }:=iZ.extBut _ _ (oF S7) hT;have ape:∃o,wu.get? e=some o:=⟨_,ug⟩;have apf:∃o,wu.get? it=some o:=by
   obtain⟨o,q,_⟩:=uf;exact⟨o,iZ.extBut _ _ (iC HN) q⟩
  have I2:Inv X pins σ (upd H s.heap.objs.size (.tup [.int i,x])) { s with heap:=wu,toks:=s.toks+1 }:=by
   refine I.step (g':=s.gens) (d':=s.drawn) (ch:=[e,it]) (λb hb=>?_) (λb o _ _ hc q _=>kk b o hc q) (λb o _ _ hc q _=>⟨o.slots,kk b o hc q⟩) (λb o _ q n=>?_) (λb o hc q=>⟨o,kk b o hc q⟩)
    (λb ys q=>by rw[aI (yU b _ q)];exact q) (λb o v q=>by rw[aI (yU b _ q)];exact q) (λb ps q=>⟨#[],by rw[aI (yU b _ q),q];simp⟩) (λm hm=>?_) (λb v q=>?_) I.bare
   ·rcases b_.mp hb with z | hb
    ·rw[z];exact⟨f3,f1,f4,f5⟩
    ·have e2:b=it:=by simpa using hb
     rw[e2];exact⟨g3,g1,g4,g5⟩
   ·rw[aI (cR (cB q))];exact n
   ·obtain⟨o,es,ep,q,r⟩:=hm;exact⟨o,es,ep,kk _ o (by
     intro hb;rcases b_.mp hb with z | hb
     ·exact f1 z.symm
     ·exact g1 (by simpa using hb:X.env.locals=it).symm) q,r⟩
   ·by_cases hb:b=s.heap.objs.size
    ·subst hb;rw[aE] at q;cases q;refine⟨by show 2<=sizeLine;decide,[.int (i:Nat) s.toks,u],.cons ⟨_,rfl⟩ (.cons ru .nil),_,ac4,rfl,_,rfl⟩
    ·rw[aI hb] at q;refine(I.aO b v q).mT (λc o BN z=>kk c o ?_ z) (λc z=>by rw[aI (yU c _ z)];exact z) (λc ys z=>by rw[aI (yU c _ z)];exact z)
     rcases BN with z2 | z2
     ·rw[z2];exact yi b v q
     ·exact yi c _ z2
  refine⟨.ref s.heap.objs.size,_,I2,rfl,⟨_,x,S8,rfl,λys hy=>by rw[I.RT hy hq];exact hx,rfl⟩,⟨⟨u,?_⟩,?_⟩,λb hb=>?_⟩
  ·have z:((i+1:Nat):Int)=(i:Int)+1:=by lia
   rw[z];exact ug
  ·exact uf.at λo q=>iZ.extBut _ _ (iC HN) q
  ·have cE:b<s.heap.objs.size:=by
    rcases b_.mp hb with z | hb
    ·rw[z];exact S7
    ·rw[show b=it by simpa using hb];exact ac3
   rw[aI (cR cE)];exact(hf b hb).1
 done:=by
  intro X hP hw hK hc i pins s σ H E I hf st hg;subst hP hw hK;obtain⟨xs,hq,hx⟩:=hg;obtain⟨aB,rv,p,hz⟩:=I.list hq;obtain⟨⟨old,he⟩,hit⟩:=st;obtain⟨g0,g1,g2,g3,g4,g5⟩:=hf it (by simp)
  have hl:=rv.length;exact wpAny_pyNext_enum_end (I.ok.hd hc) he hit p.isList (by simp;lia) λh' eb=>⟨rfl,I.turned (t':=s.toks) (λb o hb e=>eb b o hb e) g0 g1 g3 g4 g5⟩
 self:=λ_ _ _ _ _ st h=>by
  obtain⟨⟨old,he⟩,_⟩:=st;exact wpAny_pyIter_enum he h
section
variable{X:Cx}
def Cg(K:W.Frag)(ta:TA):TI:=λσ H R=>ta σ H λvs H1=>∃a,vs = [.ref a]/\(∃xs,az K H1 a xs)/\R (yT K a) H1
theorem HP{l:Expr}{ta:TA}{p pos tp:Pos}{elts:List Expr}{x1}(hg:Gl X "enumerate")(hm:X.mg "enumerate" = none)(hl:PA X [l] ta)(hs:starEach [l] X.env = [(false,eval l X.env)]:=by rfl) :
  PI X (.Tuple elts x1 tp) (.Call (.Name "enumerate" p) [l] [] pos) (Cg X.K ta):=by
 intro pins s σ H R I h;refine Call_ (oM I hg hm boot_enumerate (vt (aW (hl pos pins s σ H _ I h) λus s1 ⟨vs,H1,I1,r1,q1⟩=>?_) hs rfl));obtain⟨a,e,⟨xs,hq⟩,q⟩:=q1;subst e;obtain⟨u,rfl,ru⟩:=vals1 r1;cases ru;obtain⟨aB,rv,p,hz⟩:=I1.list hq;refine call_enumerate_list p.isList λh' he hit hsz hk=>?_;have I2:Inv X pins σ H1 { s1 with heap:=h' }:=I1.kept (t':=s1.toks) hk;refine wpAny_pyIter_enum he ?_;have n1:H1 (s1.heap.objs.size+1)=none:=I1.aO.fresh (sR _);have n0:H1 s1.heap.objs.size=none:=I1.aO.fresh (bu _);refine⟨s1.heap.objs.size+1,[s1.heap.objs.size+1,s1.heap.objs.size],_,_,H1,rfl,I2,ac2 a _ _ (Nat.succ_ne_self _),⟨⟨_,he⟩,hit⟩,λb hb=>?_,q⟩;rcases b_.mp hb with z | hb
 ·rw[z];exact I1.tD (sR _) n1
 ·rw[show b=s1.heap.objs.size by simpa using hb];exact I1.tD (bu _) n0
theorem ac5{K:W.Frag}{a:Addr}{xs:List V}{g:TG}{tb:TS}{D:Ends}{σ:St}{H:Hp}(Pv:Nat->St->Hp->Prop)(h0:Pv 0 σ H)(hl:∀i σ H,i<=xs.length->Pv i σ H->az K H a xs)
  (hs:∀i x σ H T,xs[i]? = some x->Pv i σ H->H T=none->g (.ref T) σ (upd H T (.tup [.int i,x])) λaC H2=>tb { D with nx:=Pv (i+1),ct:=Pv (i+1),bk:=D.nx } aC H2) (hd:∀σ H,Pv xs.length σ H->D.nx σ H) :
  ∃W:Nat->Nat->St->Hp->Prop,(∃m,W 0 m σ H)/\∀i m σ H,W i m σ H->
   ((yT K a).stop i H/\D.nx σ H)\/((yT K a).go i H/\∃N:St->Hp->Prop,(∀bO H',N bO H'->∃m',m' < m/\W (i+1) m' bO H')/\∀x H',(yT K a).qh i H x H'->g x σ H' λaC H2=>tb { D with nx:=N,ct:=N,bk:=D.nx } aC H2):=by
 refine⟨λi m σ H=>m=xs.length - i/\i<=xs.length/\Pv i σ H,⟨xs.length,by simp,eL _,h0⟩,?_⟩
 rintro i m σ H ⟨rfl,hi,p⟩;have q:=hl i σ H hi p;by_cases cE:i<xs.length
 ·refine .inr ⟨⟨xs,xs[i],q,by simp[cE]⟩,Pv (i+1),λbO H' p'=>⟨xs.length - (i+1),∅,rfl,cE,p'⟩,λx H' y=>?_⟩
  obtain⟨T,z,hT,e,y,e2⟩:=y;subst e e2;exact hs i z σ H T (y xs q) p hT
 ·have e:i=xs.length:=by lia
  subst e;exact .inl ⟨⟨xs,q,bu _⟩,hd σ H p⟩
theorem Ci(hc:X.calm=true):gY X (.builtin "sum") (λxs H Q=>∃(p:Addr) (ns:List Int),xs = [.ref p]/\az X.K H p (ns.map V.int)/\Q (.int ns.sum) H):=by
 intro pins s σ H xs us Q I r h;obtain⟨p,ns,rfl,hq,q⟩:=h;obtain⟨u,rfl,ru⟩:=vals1 r;cases ru;obtain⟨aB,rv,pl,hz⟩:=I.list hq;have hi:IntsAre aB ns:=intsAre_of rv;obtain⟨xs,hx⟩:=hi.allInts.items;have rL:s.heap.IsList p (intItems xs):=hx▸pl.isList;refine sum_intListG (I.ok.hd hc) rL λh' tk t' hk=>?_;have e1:ns=xs.toList.map (·.1):=by
  rw[← nums_intItems,← hx];exact(show numsOf aB.toArray.toList=ns from hi.numsOf).symm
 have e2:preSum (numAt xs) xs.size=ns.sum:=by
  rw[preSum_eq,qX (by simp),e1]
 rw[e2];exact⟨.int ns.sum,H,I.kept hk,⟨t',rfl⟩,q⟩
theorem ac6:gY X (.builtin "sorted") (λxs H Q=>∃(p:Addr) (ns:List Int),xs = [.ref p]/\az X.K H p (ns.map V.int)/\ns.length<64/\
  ∀(l:Addr) (ie:List Int),H l=none->ie.Perm ns->ie.Pairwise (·<=·)->Q (.ref l) (upd H l (.lst (ie.map V.int)))):=by
 intro pins s σ H xs us Q I r h;obtain⟨p,ns,rfl,hq,k9,q⟩:=h;obtain⟨u,rfl,ru⟩:=vals1 r;cases ru;obtain⟨aB,rv,pl,hz⟩:=I.list hq;have hi:IntsAre aB ns:=intsAre_of rv;have hlen:=hi.length;refine sorted_ints pl.isList hi ∅ λout ie a1 a2 a3=>?_
 obtain⟨e,he⟩:=sortedAll_at s.heap aB out;have hn:H (s.heap.objs.size+1)=none:=I.aO.fresh (sR _);refine⟨.ref (s.heap.objs.size+1),upd H (s.heap.objs.size+1) (.lst (ie.map V.int)),I.laid (t':=s.toks) (λb o q=>sortedAll_old q) (sR _) ?_,rfl,q _ ie hn a2 a3⟩;refine⟨?_,out.toList,e,yR a1,by simpa using he⟩
 rw[aM,a2.length_eq];exact cQ (j0 k9) ⋯
theorem S9(hc:X.calm=true):gY X (.builtin "min") (λxs H Q=>∃(p:Addr) (ns:List Int),xs = [.ref p]/\az X.K H p (ns.map V.int)/\0<ns.length/\∀M,M∈ns->(∀a,a∈ns->M<=a)->Q (.int M) H):=by
 intro pins s σ H xs us Q I r h;obtain⟨p,ns,rfl,hq,h0,q⟩:=h;obtain⟨u,rfl,ru⟩:=vals1 r;cases ru;obtain⟨aB,rv,pl,hz⟩:=I.list hq;have hi:IntsAre aB ns:=intsAre_of rv;obtain⟨m,F⟩:=I.fr;refine min_list_N (I.ok.hd hc) F (BI (h:=s.heap)) pl.isList hi h0 λh' M t tk F' N' h1 h2=>?_;have kk:∀b o,b≠X.env.locals->s.heap.get? b=some o->h'.get? b=some o:=λb o hb e=>by
  cases q:X.base.get? b with
  | some z =>
   have:=F.keep b z q;rw[e] at this;cases this;exact F'.keep b _ q
  | none=>exact(N' (b,o) (FL hb q e)).1
 have nl:∀b v,H b=some v->b≠X.env.locals:=λb v e z=>by rw[z,I.free] at e;cases e
 have I':Inv X pins σ H { s with heap:=h',toks:=tk }:=by
  refine I.step (g':=s.gens) (d':=s.drawn) (ch:=[]) (λ_ z=>nomatch z) (λb o hb _ _ e _=>kk b o hb e) (λb o hb _ _ e _=>⟨o.slots,kk b o hb e⟩) (λ_ _ _ _ n=>n) (λb o _ e=>?_) (λ_ _ e=>e) (λ_ _ _ e=>e)
   (λb ps e=>⟨#[],by rw[e];simp⟩) (λm' hm=>?_) (λb v e=>(I.aO b v e).mT (λc o hc e'=>kk c o ?_ e') (λ_ e=>e) (λ_ _ e=>e)) I.bare
  ·by_cases hb:b=X.env.locals
   ·obtain⟨o',_,_,z,_⟩:=F'.ns;exact⟨o',by rw[hb];exact z⟩
   ·exact⟨o,kk b o hb e⟩
  ·have:m' = m:=by
    obtain⟨o1,dg,Cj,g1,d1,k1,z1⟩:=hm;obtain⟨o2,nj,HQ,g2,d2,k2,z2⟩:=F.ns;rw[g1] at g2;cases g2;rw[d1] at d2;cases d2
    funext x
    rw[← z1 x,← z2 x]
   rw[this];exact F'.ns
  ·rcases hc with z | z
   ·rw[z];exact nl b v e
   ·exact nl c _ z
 exact⟨.int M,H,I',⟨t,rfl⟩,q M h1 h2⟩
theorem wz:gY X (.builtin "isinstance") (λxs H Q=>∃x T t b,xs = [x,.ty T]/\kR X.K H x t/\PySem.W.kitOne X.K t (.type T)=some b/\Q (.bl b) H):=by
 intro pins s σ H xs us Q I r h;obtain⟨x,T,t,b,rfl,ty,e,q⟩:=h;obtain⟨u,v,rfl,ru,rv⟩:=vals2 r;cases (show v=Value.type T from rv);exact abW I ru ty e λtk=>⟨.bl b,H,I.tok _,rfl,q⟩
theorem ac7{A:Around}{s:Shared}{x:V}{u v:Value}(ru:RelV x u)(rv:RelV x v)(hx:∀b,x≠.oH b)(hb:∀b,x≠.iT b):SeqAt.EqAt A s u v true:=by
 cases x with
 | aU=>cases ru;cases rv;exact x6 _
 | bl b=>cases ru;cases rv;exact x6 _
 | ref a=>cases ru;cases rv;exact x6 _
 | ty n=>cases ru;cases rv;exact x6 _
 | oH b=>exact absurd rfl (hx b)
 | int i =>
  have:=G1 (A:=A) (s:=s) ru rv rfl rfl;rwa [show kW (V.int i) (V.int i)=true by simp[kW]] at this
 | str z =>
  have:=G1 (A:=A) (s:=s) ru rv rfl rfl;rwa [show kW (V.str z) (V.str z)=true by simp[kW]] at this
 | iT z=>exact absurd rfl (hb z)
theorem ac8(hu:X.A.units<cLine):cC X (compareOp .NotEq) (λx y H Q=>∃(a b:Addr) (xs:List V),x = .ref a/\y = .ref b/\az X.K H a xs/\az X.K H b xs/\(∀v∈xs,(∀b,v≠.oH b)/\∀b,v≠.iT b)/\Q (.bl false) H):=by
 rintro pins s σ H x y v u Q I rx ry ⟨a,b,xs,rfl,rfl,ha,hb,hv,q⟩;cases rx;cases ry;obtain⟨aB,r1,p1,z1⟩:=I.list ha;obtain⟨gc,r2,p2,z2⟩:=I.list hb;have l1:=r1.length;have l2:=r2.length;have e0:(!(List.range aB.toArray.size).all λ_=>true)=false:=by simp
 have fin:=SeqAt.RcNeAt.lists (A:=X.A) (s:=s) (e:=λ_=>true) p1.isList p2.isList (by simp;lia) hu (λj h1 h2=>?_) X.prog X.w X.xe (EP X pins σ Q) (by rw[e0];exact⟨.bl false,H,I,rfl,q⟩)
 ·exact fin
 ·have g1:aB[j]? = some aB.toArray[j]:=by
   rw[Bc,bC (by simpa using h1)]
  have g2:gc[j]? = some gc.toArray[j]:=by
   rw[Bc,bC (by simpa using h2)]
  have hj:j<xs.length:=by rw[l1];simpa using h1
  obtain⟨u1,q1,w1⟩:=r1.get (bC hj);obtain⟨u2,q2,w2⟩:=r2.get (bC hj);rw[g1] at q1;cases q1;rw[g2] at q2;cases q2;exact ac7 w1 w2 (hv _ (cI hj)).1 (hv _ (cI hj)).2
end
noncomputable def AllP{α:Type}(P:α->Prop):List α->Prop
 | []=>True
 | a::r=>P a/\AllP P r
theorem AllP.mem{α:Type}{P:α->Prop}:∀ {l:List α},AllP P l->∀a∈l,P a
 | _::_,h,a,hm=>by
  rcases b_.mp hm with rfl | hm
  ·exact h.1
  ·exact AllP.mem h.2 a hm
theorem ac9{CX:jq}{P:Program}{w:World}{K:W.Frag}{mg:Str->Option Value}{base:Heap}{N:List Str}{qual:Str}{scope:Scope}{f:Addr}{cd:Value}{A:Around}{outer:List Env}{s:Shared}{H:Hp}{E:XK} :
  (qk CX P w K mg base N qual scope f cd A outer s H E).K=K:=rfl
theorem ac_{X:Cx}{E:Value->Shared->Prop}:(X.mY E).K=X.K:=rfl
structure Zn(H:Hp)(a:Addr)(ts:List Addr)(z:List (Int×Int)):Prop where
 l:H a=some (.lst (ts.map V.ref))
 n:ts.length=z.length
 t:∀(i:Nat) (t:Addr) (p:Int×Int),ts[i]? = some t->z[i]? = some p->H t=some (.tup [.int p.1,.int p.2])
theorem Zn.same{H H':Hp}{a:Addr}{ts:List Addr}{z:List (Int×Int)}(h:Zn H a ts z)(e:aj H H'):Zn H' a ts z:=⟨e _ _ h.l,h.n,λi t p h1 h2=>e _ _ (h.t i t p h1 h2)⟩
theorem Zn.at{H:Hp}{a:Addr}{ts:List Addr}{z:List (Int×Int)}(h:Zn H a ts z){i:Nat}{x:V}(e:(ts.map V.ref)[i]? = some x):∃t p,x = .ref t/\z[i]? = some p/\H t=some (.tup [.int p.1,.int p.2]):=by
 rw[jZ] at e;cases q:ts[i]? with
 | none=>rw[q] at e;cases e
 | some t =>
  rw[q] at e;have hi:i<z.length:=by rw[← h.n];exact(iB.mp q).1
  exact⟨t,z[i],(eN e).symm,bC hi,h.t i t _ q (bC hi)⟩
noncomputable def fP(ns:List Int)(k:Int):Int:=ns.getD k.toNat 0
def kj(K:W.Frag):Sp:=λvs H Q _=>∃(a:Addr) (ns:List Int) (k:Int),vs = [.ref a,.int k]/\az K H a (ns.map V.int)/\ns.length<=63/\0<=k/\Q (.int (fP ns k)) H
section
variable{K:W.Frag}{ta:TA}{tl:TE}{g:TG}{tb:TS}{D:Ends}{σ:St}{H:Hp}
theorem ada(n:Nat)(gJ:∀Q:List V->Hp->Prop,Q [.int (n:Int)] H->ta σ H Q)(hn:n<1000000000)(Pv:Nat->St->Hp->Prop)(h0:Pv 0 σ H)
  (hs:∀i σ H,i<n->Pv i σ H->g (.int (i:Int)) σ H λaC H2=>tb { D with nx:=Pv (i+1),ct:=Pv (i+1),bk:=D.nx } aC H2) (hd:∀σ H,Pv n σ H->D.nx σ H):lK (yu ta) g tb D σ H:=by
 refine gJ _ ⟨n,rfl,∅,∅,?_⟩
 have e:((n:Int)).toNat=n:=by lia
 rw[e];refine Gs Pv h0 (λi σ H hi p=>?_) hd;have e2:(0:Int)+(i:Int)=i:=by lia
 rw[e2];exact hs i σ H hi p
theorem adb(lo hi:Int)(gJ:∀Q:List V->Hp->Prop,Q [.int lo,.int hi] H->ta σ H Q)(b1 : -1000000000000<lo)(b2:lo<1000000000000)(b3 : -1000000000000<hi)(b4:hi<1000000000000)(Pv:Nat->St->Hp->Prop)(h0:Pv 0 σ H)
  (hs:∀i σ H,i<(hi - lo).toNat->Pv i σ H->g (.int (lo+(i:Int))) σ H λaC H2=>tb { D with nx:=Pv (i+1),ct:=Pv (i+1),bk:=D.nx } aC H2) (hd:∀σ H,Pv (hi - lo).toNat σ H->D.nx σ H):lK (yw ta) g tb D σ H :=
 gJ _ ⟨lo,hi,rfl,⟨∅,∅,∅,∅⟩,Gs Pv h0 hs hd⟩
theorem ade(a:Addr)(xs:List V)(nq:∀Q:VK,Q (.ref a) H->tl σ H Q)(eB:az K H a xs)(Pv:Nat->St->Hp->Prop)(h0:Pv 0 σ H)(hl:∀i σ H,i<=xs.length->Pv i σ H->az K H a xs)
  (hs:∀i x σ H,xs[i]? = some x->Pv i σ H->g x σ H λaC H2=>tb { D with nx:=Pv (i+1),ct:=Pv (i+1),bk:=D.nx } aC H2) (hd:∀σ H,Pv xs.length σ H->D.nx σ H):lK (qi K tl) g tb D σ H :=
 nq _ ⟨a,rfl,⟨xs,eB⟩,RY Pv h0 hl hs hd⟩
theorem adf(a:Addr)(xs:List V)(gJ:∀Q:List V->Hp->Prop,Q [.ref a] H->ta σ H Q)(eB:az K H a xs)(Pv:Nat->St->Hp->Prop)(h0:Pv 0 σ H)(hl:∀i σ H,i<=xs.length->Pv i σ H->az K H a xs)
  (hs:∀i x σ H T,xs[i]? = some x->Pv i σ H->H T=none->g (.ref T) σ (upd H T (.tup [.int i,x])) λaC H2=>tb { D with nx:=Pv (i+1),ct:=Pv (i+1),bk:=D.nx } aC H2) (hd:∀σ H,Pv xs.length σ H->D.nx σ H):lK (Cg K ta) g tb D σ H :=
 gJ _ ⟨a,rfl,⟨xs,eB⟩,ac5 Pv h0 hl hs hd⟩
variable{tt:TT}{te:TE}{nt:Nat}{fv:List Nat}{Q:VK}
def NX(n i:Nat)(P:Prop):Prop:=∃m',m' < n - i/\m' = n - (i+1)/\i+1<=n/\P
theorem NX.of{n i:Nat}{P:Prop}(hi:i<n)(p:P):NX n i P:=⟨n - (i+1),∅,rfl,hi,p⟩
theorem adg(lo hi:Int)(gJ:∀Q:List V->Hp->Prop,Q [.int lo,.int hi] H->ta σ H Q)(b1 : -1000000000000<lo)(b2:lo<1000000000000)(b3 : -1000000000000<hi)(b4:hi<1000000000000)
  (Pv:Addr->Nat->List V->St->Hp->Prop) (h0:∀D,H D=none->Pv D 0 [] (k6 σ nt fv) (upd H D (.lst []))) (hD:∀D i ys σ H,Pv D i ys σ H->H D=some (.lst ys)/\ys.length<sizeLine)
  (hs:∀D i ys aC H2,i<(hi - lo).toNat->Pv D i ys aC H2->g (.int (lo+(i:Int))) aC H2 λcG H4=>tt cG H4 λb H5=>if b=true then te cG H5 λv H6=>H6 D=some (.lst ys)/\NX (hi - lo).toNat i (Pv D (i+1) (ys++[v]) cG (upd H6 D (.lst (ys++[v])))) else NX (hi - lo).toNat i (Pv D (i+1) ys cG H5))
  (hd:∀D ys aC H2,Pv D (hi - lo).toNat ys aC H2->Q (.ref D) H2):ni (yw ta) g tt te nt fv σ H Q:=by
 refine gJ _ ⟨lo,hi,rfl,⟨∅,∅,∅,∅⟩,λD qq=>?_⟩
 refine⟨λi m ys aC H2=>m=(hi - lo).toNat - i/\i<=(hi - lo).toNat/\Pv D i ys aC H2,⟨_,rfl,eL _,h0 D qq⟩,?_⟩;rintro i m ys aC H2 ⟨rfl,gh,p⟩;obtain⟨d1,d2⟩:=hD D i ys aC H2 p;refine⟨d1,d2,?_⟩;by_cases cE:i<(hi - lo).toNat
 ·refine .inr ⟨cE,λx H3 y=>?_⟩;obtain⟨e1,e2⟩:=y;subst e1 e2;exact hs D i ys aC _ cE p
 ·have e:i=(hi - lo).toNat:=by lia
  subst e;exact .inl ⟨bu _,hd D ys aC H2 p⟩
theorem adh(a:Addr)(xs:List V)(nq:∀Q:VK,Q (.ref a) H->tl σ H Q)(eB:az K H a xs)
  (Pv:Addr->Nat->List V->St->Hp->Prop) (h0:∀D,H D=none->Pv D 0 [] (k6 σ nt fv) (upd H D (.lst []))) (hD:∀D i ys σ H,Pv D i ys σ H->H D=some (.lst ys)/\ys.length<sizeLine/\az K H a xs)
  (hs:∀D i x ys aC H2,xs[i]? = some x->Pv D i ys aC H2->g x aC H2 λcG H4=>tt cG H4 λb H5=>if b=true then te cG H5 λv H6=>H6 D=some (.lst ys)/\NX xs.length i (Pv D (i+1) (ys++[v]) cG (upd H6 D (.lst (ys++[v])))) else NX xs.length i (Pv D (i+1) ys cG H5))
  (hd:∀D ys aC H2,Pv D xs.length ys aC H2->Q (.ref D) H2):ni (qi K tl) g tt te nt fv σ H Q:=by
 refine nq _ ⟨a,rfl,⟨xs,eB⟩,λD qq=>?_⟩;refine⟨λi m ys aC H2=>m=xs.length - i/\i<=xs.length/\Pv D i ys aC H2,⟨_,rfl,eL _,h0 D qq⟩,?_⟩;rintro i m ys aC H2 ⟨rfl,gh,p⟩;obtain⟨d1,d2,d3⟩:=hD D i ys aC H2 p;refine⟨d1,d2,?_⟩;by_cases cE:i<xs.length
 ·refine .inr ⟨⟨xs,xs[i],d3,by simp[cE]⟩,λx H3 y=>?_⟩
  obtain⟨e1,e2⟩:=y;subst e1;exact hs D i x ys aC _ (e2 xs d3) p
 ·have e:i=xs.length:=by lia
  subst e;exact .inl ⟨⟨xs,d3,bu _⟩,hd D ys aC H2 p⟩
end
theorem gi{ns:List Int}{k:Int}(h0:0<=k)(h:k<(ns.length:Int)):fq (ns.map V.int) k=some (.int (ns.getD k.toNat 0)):=by
 have hk:k.toNat<ns.length:=by lia
 unfold fq jr;rw[if_pos h0,if_pos (by simpa using h)]
 simp[List.getD_eq_getElem?_getD,List.getElem?_eq_getElem hk]
theorem HR{ns:List Int}(h:0<ns.length):fq (ns.map V.int) (-1)=some (.int (ns.getD (ns.length - 1) 0)):=by
 have hk:ns.length - 1<ns.length:=by lia
 unfold fq jr;rw[if_neg ⋯,if_pos (by simp;lia)]
 have e:(-1+((ns.map V.int).length:Int)).toNat=ns.length - 1:=by simp;lia
 rw[e];simp[List.getD_eq_getElem?_getD,List.getElem?_eq_getElem hk]
theorem S_(a b:String):(Str.ofString a=Str.ofString b)=(a=b):=by
 refine propext ⟨λh=>?_,λh=>by rw[h]⟩
 rw[Str.ofString_eq_toList,Str.ofString_eq_toList] at h;have h:a.toList.map Char.toNat=b.toList.map Char.toNat:=by
  injection h with h;exact Array.toList_inj.mpr h |> λz=>by simpa using h
 have inj:∀(x y:List Char),x.map Char.toNat=y.map Char.toNat->x=y:=by
  intro x
  induction x with
  | nil=>intro y h;cases y with | nil=>rfl | cons c r=>simp at h
  | cons c r ih =>
   intro y h;cases y with
   | nil=>simp at h
   | cons d q =>
    simp only[List.map_cons,List.cons.injEq] at h;rw[ih q h.2,Char.toNat_inj.mp h.1]
 exact String.ext (inj _ _ h)
theorem Ck(a b:String):(Str.ofString a == Str.ofString b)=(a == b):=by
 by_cases h:a=b
 ·subst h;simp
 ·have h2:¬ Str.ofString a=Str.ofString b:=by rw[S_];exact h
  rw[lI.mpr h,lI.mpr h2]
structure uh(z:List (Int×Int)):Prop where
 l1:1<=z.length
 l5:z.length<=5
 r:∀p∈z,1<=p.1/\p.1<=40/\1<=p.2/\p.2<=60
 s2:2<=(z.map (·.1)).sum
 Cm:(z.map (·.1)).sum<=120
noncomputable def counts(z:List (Int×Int)):List Int:=z.flatMap λp=>List.replicate p.1.toNat p.2
structure SwOk(sw:List Int)(n:Int):Prop where
 len:(sw.length:Int)=n
 two:2<=n
 z:sw.getD 0 0=0
 pos:∀i:Nat,1<=i->i<sw.length->1<=sw.getD i 0/\sw.getD i 0<=1000000000
 up:∀i:Nat,1<=i->i<sw.length->sw.getD (i - 1) 0<=sw.getD i 0
 no:∀a b:Nat,1<=a->1<=b->a+b<sw.length->sw.getD (a+b) 0<=sw.getD a 0+sw.getD b 0
noncomputable def fH(s:Int):Nat->List Int->List (Int×Int)
 | _,[]=>[]
 | r,c::cs=>(List.range (c - s).toNat).map (λ(k:Nat)=>((r:Int),(k:Int)))++fH s (r+1) cs
noncomputable def gj(rc:List Int)(s:Int):List (Int×Int):=fH s 0 rc
noncomputable def kT(p:Int×Int):List Key:=[.inl p.1,.inl p.2]
noncomputable def i6:Nat->List (Int×Int)->List (List Key×V)->List (List Key×V)
 | _,[],acc=>acc
 | i,p::r,acc=>i6 (i+1) r (putK acc (kT p) (.int i))
noncomputable def qt(z:List (Int×Int)):List (List Key×V):=i6 0 z []
theorem Tc(s:Int):∀(xs ys:List Int) (r:Nat),fH s r (xs++ys)=fH s r xs++fH s (r+xs.length) ys
 | [],ys,r=>by simp[fH]
 | x::xs,ys,r=>by
  rw[pZ,fH,fH,Tc s xs ys (r+1),pY,dR];congr 3;lia
theorem Td:∀(xs ys:List (Int×Int)) (i:Nat) (acc:List (List Key×V)),i6 i (xs++ys) acc=i6 (i+xs.length) ys (i6 i xs acc)
 | [],ys,i,acc=>by simp[i6]
 | x::xs,ys,i,acc=>by
  rw[pZ,i6,i6,Td xs ys (i+1),dR];congr 1;lia
theorem Te:∀(xs:List (Int×Int)) (i:Nat) (acc:List (List Key×V)),(i6 i xs acc).length<=acc.length+xs.length
 | [],i,acc=>by simp[i6]
 | x::xs,i,acc=>by
  rw[i6];have h1:=Te xs (i+1) (putK acc (kT x) (.int i));have h2:=Ho acc (kT x) (.int i);rw[dR];lia
theorem Tf(x y:List (Int×Int)):counts (x++y)=counts x++counts y:=by simp[counts]
theorem rM:∀(z:List (Int×Int)),(∀p∈z,1<=p.1)->((counts z).length:Int)=(z.map (·.1)).sum
 | [],_=>rfl
 | p::z,h=>by
  have ih:=rM z λp hp=>h p (bU _ hp);have h1:=h p b8;simp only[counts,List.flatMap_cons,List.length_append,List.length_replicate,List.map_cons,List.sum_cons] at ih ⊢;lia
theorem Tg{z:List (Int×Int)}(ok:uh z)(i:Nat):(counts (z.take i)).length<=120:=by
 have h0:=rM z λp hp=>(ok.r p hp).1;have e:z=z.take i++z.drop i:=(vo i z).symm;have e2:(counts z).length=(counts (z.take i)).length+(counts (z.drop i)).length:=by
  rw[← e_,← Tf,vo]
 have:=ok.Cm;lia
theorem rN{z:List (Int×Int)}{c:Int}(h:c∈counts z):∃p∈z,c=p.2:=by
 obtain⟨p,hp,hc⟩:=Fi.mp h;exact⟨p,hp,(List.mem_replicate.mp hc).2⟩
theorem Cn{s:Int}(hs:0<=s):∀(rc:List Int) (r:Nat),(∀c∈rc,0<=c/\c<=1000)->(fH s r rc).length<=1000*rc.length
 | [],_,_=>by simp[fH]
 | c::rc,r,h=>by
  have ih:=Cn hs rc (r+1) λc hc=>h c (bU _ hc);have h1:=h c b8;simp only[fH,List.length_append,List.length_map,List.length_range,List.length_cons];lia
theorem adi{s:Int}(hs:0<=s){rc:List Int}(h:∀c∈rc,0<=c/\c<=1000)(i:Nat):(fH s 0 (rc.take i)).length<=1000*rc.length:=by
 have h1:=Cn hs (rc.take i) 0 λc hc=>h c (oB hc);rw[dH] at h1;have h2:1000*min i rc.length<=1000*rc.length:=Nat.mul_le_mul_left _ (Nat.min_le_right _ _);exact cQ h1 h2
theorem rO:sizeLine=16777216:=by decide
theorem Ti(n:Nat)(c:Int):(List.replicate n [V.int c]).flatten=(List.replicate n c).map V.int:=by
 induction n with
 | zero=>rfl
 | succ n ih=>rw[p_,vc,ih,p_,cH];rfl
theorem Tj{α:Type}{l:List α}{i:Nat}{x:α}(h:l[i]? = some x):i<l.length:=(iB.mp h).1
theorem take_succ_get{α:Type}{l:List α}{i:Nat}{x:α}(h:l[i]? = some x):l.take (i+1)=l.take i++[x]:=by
 rw[List.take_add_one,h];rfl
theorem yV(l:List Int){i:Nat}(h:i<l.length):l[i]? = some (l.getD i 0):=by
 simp[List.getD_eq_getElem?_getD,List.getElem?_eq_getElem h]
theorem dY{α β:Type}{f:α->β}{l:List α}{i:Nat}{y:β}(h:(l.map f)[i]? = some y):∃x,l[i]? = some x/\y=f x:=by
 rw[jZ] at h;cases e:l[i]? with
 | none=>rw[e] at h;cases h
 | some x=>rw[e] at h;exact⟨x,rfl,(eN h).symm⟩
theorem get_mem{α:Type}{l:List α}{i:Nat}{x:α}(h:l[i]? = some x):x∈l:=g_ h
theorem cT{α:Type}{l:List α}{i:Nat}{x:α}(h:l[i]? = some x):i<l.length:=(iB.mp h).1
theorem aj.put{H:Hp}{a:Addr}{o:HO}(h:H a=none):aj H (upd H a o):=λb u e=>by rw[aI (bY e h)];exact e
theorem aj.put2{H H':Hp}{a:Addr}{o:HO}(s:aj H H')(h:H a=none):aj H (upd H' a o):=λb u e=>by rw[aI (bY e h)];exact s b u e
theorem aj.f9{K:W.Frag}{H H':Hp}{a:Addr}{xs:List V}(e:aj H H')(h:aL K H a xs):aL K H' a xs:=by
 rcases h with(h | ⟨o,h⟩) | h
 ·exact .inl (.inl (e _ _ h))
 ·exact .inl (.inr ⟨o,e _ _ h⟩)
 ·exact .inr h
theorem Zn.sq{K:W.Frag}{H:Hp}{a:Addr}{ts:List Addr}{z:List (Int×Int)}(h:Zn H a ts z):az K H a (ts.map V.ref):=az.of h.l
section
variable{X:Cx}{K:W.Frag}
theorem adk(h:X.K=K):lP X (yH K):=h▸tW
theorem adl(h:X.K=K):lP X (yG K):=h▸oW
end
section
variable{K:W.Frag}{ta:TA}{tl:TE}{g:TG}{tb:TS}{D:Ends}{σ:St}{H:Hp}
theorem rl(a:Addr)(xs:List V)(Pv:Nat->St->Hp->Prop)(nq:∀Q:VK,Q (.ref a) H->tl σ H Q)(eB:az K H a xs)(h0:Pv 0 σ H)(hl:∀i σ H,i<=xs.length->Pv i σ H->az K H a xs)
  (hs:∀i x σ H (N:St->Hp->Prop),(∀σ H,Pv (i+1) σ H->N σ H)->xs[i]? = some x->Pv i σ H->g x σ H λaC H2=>tb { D with nx:=N,ct:=N,bk:=D.nx } aC H2) (hd:∀σ H,Pv xs.length σ H->D.nx σ H):lK (qi K tl) g tb D σ H :=
 ade a xs nq eB Pv h0 hl (λi x σ H hx p=>hs i x σ H _ (λ_ _ z=>z) hx p) hd
theorem Co(n:Nat)(Pv:Nat->St->Hp->Prop)(gJ:∀Q:List V->Hp->Prop,Q [.int (n:Int)] H->ta σ H Q)(hn:n<1000000000)(h0:Pv 0 σ H)
  (hs:∀i σ H (N:St->Hp->Prop),(∀σ H,Pv (i+1) σ H->N σ H)->i<n->Pv i σ H->g (.int (i:Int)) σ H λaC H2=>tb { D with nx:=N,ct:=N,bk:=D.nx } aC H2) (hd:∀σ H,Pv n σ H->D.nx σ H):lK (yu ta) g tb D σ H :=
 ada n gJ hn Pv h0 (λi σ H hx p=>hs i σ H _ (λ_ _ z=>z) hx p) hd
theorem wA(lo hi:Int)(Pv:Nat->St->Hp->Prop)(gJ:∀Q:List V->Hp->Prop,Q [.int lo,.int hi] H->ta σ H Q)(b1 : -1000000000000<lo)(b2:lo<1000000000000)(b3 : -1000000000000<hi)(b4:hi<1000000000000)(h0:Pv 0 σ H)
  (hs:∀i σ H (N:St->Hp->Prop),(∀σ H,Pv (i+1) σ H->N σ H)->i<(hi - lo).toNat->Pv i σ H->g (.int (lo+(i:Int))) σ H λaC H2=>tb { D with nx:=N,ct:=N,bk:=D.nx } aC H2) (hd:∀σ H,Pv (hi - lo).toNat σ H->D.nx σ H):lK (yw ta) g tb D σ H :=
 adb lo hi gJ b1 b2 b3 b4 Pv h0 (λi σ H hx p=>hs i σ H _ (λ_ _ z=>z) hx p) hd
theorem Cp(n:Int)(Pv:Nat->St->Hp->Prop)(gJ:∀Q:List V->Hp->Prop,Q [.int n] H->ta σ H Q)(h0' : -1000000000000<n)(hn:n<1000000000000)(h0:Pv 0 σ H)
  (hs:∀i σ H (N:St->Hp->Prop),(∀σ H,Pv (i+1) σ H->N σ H)->i<n.toNat->Pv i σ H->g (.int (i:Int)) σ H λaC H2=>tb { D with nx:=N,ct:=N,bk:=D.nx } aC H2) (hd:∀σ H,Pv n.toNat σ H->D.nx σ H):lK (yu ta) g tb D σ H:=by
 refine gJ _ ⟨n,rfl,∅,∅,?_⟩
 refine Gs Pv h0 (λi σ H hi p=>?_) hd;have e2:(0:Int)+(i:Int)=i:=by lia
 rw[e2];exact hs i σ H _ (λ_ _ z=>z) hi p
theorem re(a:Addr)(xs:List V)(Pv:Nat->St->Hp->Prop)(gJ:∀Q:List V->Hp->Prop,Q [.ref a] H->ta σ H Q)(eB:az K H a xs)(h0:Pv 0 σ H)(hl:∀i σ H,i<=xs.length->Pv i σ H->az K H a xs)
  (hs:∀i x σ H T (N:St->Hp->Prop),(∀σ H,Pv (i+1) σ H->N σ H)->xs[i]? = some x->Pv i σ H->H T=none->g (.ref T) σ (upd H T (.tup [.int i,x])) λaC H2=>tb { D with nx:=N,ct:=N,bk:=D.nx } aC H2) (hd:∀σ H,Pv xs.length σ H->D.nx σ H):lK (Cg K ta) g tb D σ H :=
 adf a xs gJ eB Pv h0 hl (λi x σ H T hx p hT=>hs i x σ H T _ (λ_ _ z=>z) hx p hT) hd
def qu(K:W.Frag)(a:Addr)(g:TG)(tb:TS)(D:Ends)(σ:St)(H:Hp):Prop:=(∃xs,az K H a xs)/\∃W:Nat->Nat->St->Hp->Prop,(∃m,W 0 m σ H)/\∀i m σ H,W i m σ H->
 ((rC K a).stop i H/\D.nx σ H)\/((rC K a).go i H/\∃N:St->Hp->Prop,(∀bO H',N bO H'->∃m',m' < m/\W (i+1) m' bO H')/\∀x H',(rC K a).qh i H x H'->g x σ H' λaC H2=>tb { D with nx:=N,ct:=N,bk:=D.nx } aC H2)
theorem wB(h:tl σ H λx H1=>∃a,x = .ref a/\qu K a g tb D σ H1):lK (qi K tl) g tb D σ H:=h
theorem qu.by(a:Addr)(xs:List V)(Pv:Nat->St->Hp->Prop)(eB:az K H a xs)(h0:Pv 0 σ H)(hl:∀i σ H,i<=xs.length->Pv i σ H->az K H a xs)
  (hs:∀i x σ H (N:St->Hp->Prop),(∀σ H,Pv (i+1) σ H->N σ H)->xs[i]? = some x->Pv i σ H->g x σ H λaC H2=>tb { D with nx:=N,ct:=N,bk:=D.nx } aC H2) (hd:∀σ H,Pv xs.length σ H->D.nx σ H):qu K a g tb D σ H :=
 ⟨⟨xs,eB⟩,RY Pv h0 hl (λi x σ H hx p=>hs i x σ H _ (λ_ _ z=>z) hx p) hd⟩
variable{tt:TT}{te:TE}{nt:Nat}{fv:List Nat}{Q:VK}
theorem Tn(lo hi:Int)(Pv:Addr->Nat->List V->St->Hp->Prop)(gJ:∀Q:List V->Hp->Prop,Q [.int lo,.int hi] H->ta σ H Q)(b1 : -1000000000000<lo)(b2:lo<1000000000000)(b3 : -1000000000000<hi)(b4:hi<1000000000000)
  (h0:∀D,H D=none->Pv D 0 [] (k6 σ nt fv) (upd H D (.lst []))) (hD:∀D i ys σ H,Pv D i ys σ H->H D=some (.lst ys)/\ys.length<sizeLine)
  (hs:∀D i ys aC H2 (N:List V->St->Hp->Prop),(∀ys σ H,Pv D (i+1) ys σ H->N ys σ H)->i<(hi - lo).toNat->Pv D i ys aC H2->g (.int (lo+(i:Int))) aC H2 λcG H4=>tt cG H4 λb H5=>if b=true then te cG H5 λv H6=>H6 D=some (.lst ys)/\N (ys++[v]) cG (upd H6 D (.lst (ys++[v]))) else N ys cG H5)
  (hd:∀D ys aC H2,Pv D (hi - lo).toNat ys aC H2->Q (.ref D) H2):ni (yw ta) g tt te nt fv σ H Q :=
 adg lo hi gJ b1 b2 b3 b4 Pv h0 hD (λD i ys aC H2 hi p=>hs D i ys aC H2 _ (λ_ _ _ z=>NX.of hi z) hi p) hd
theorem i8(a:Addr)(xs:List V)(Pv:Addr->Nat->List V->St->Hp->Prop)(nq:∀Q:VK,Q (.ref a) H->tl σ H Q)(eB:az K H a xs)
  (h0:∀D,H D=none->Pv D 0 [] (k6 σ nt fv) (upd H D (.lst []))) (hD:∀D i ys σ H,Pv D i ys σ H->H D=some (.lst ys)/\ys.length<sizeLine/\az K H a xs)
  (hs:∀D i x ys aC H2 (N:List V->St->Hp->Prop),(∀ys σ H,Pv D (i+1) ys σ H->N ys σ H)->xs[i]? = some x->Pv D i ys aC H2->g x aC H2 λcG H4=>tt cG H4 λb H5=>if b=true then te cG H5 λv H6=>H6 D=some (.lst ys)/\N (ys++[v]) cG (upd H6 D (.lst (ys++[v]))) else N ys cG H5)
  (hd:∀D ys aC H2,Pv D xs.length ys aC H2->Q (.ref D) H2):ni (qi K tl) g tt te nt fv σ H Q :=
 adh a xs nq eB Pv h0 hD (λD i x ys aC H2 hx p=>hs D i x ys aC H2 _ (λ_ _ _ z=>NX.of (iB.mp hx).1 z) hx p) hd
end
theorem nv{K:W.Frag}{H:Hp}{σ:St}{t:Addr}{x y:V}{n i j:Nat}{Q:St->Hp->Prop}(h:aL K H t [x,y])(hn:2=n)(q:Q ((σ.set i (some x)).set j (some y)) H):yp K n (ym (rB i) (ym (rB j) BS)) (.ref t) σ H Q :=
 ⟨t,[x,y],rfl,h,hn,x,[y],rfl,y,[],rfl,rfl,q⟩
theorem lenZ{ts:List Addr}{z:List (Int×Int)}(h:ts.length=z.length):(ts.map V.ref).length=z.length:=by simpa using h
theorem Zn.snoc{H:Hp}{l p:Addr}{ts:List Addr}{z:List (Int×Int)}(h:Zn H l ts z)(hp:H p=none)(a b:Int):Zn (upd (upd H p (.tup [.int a,.int b])) l (.lst (ts.map V.ref++[V.ref p]))) l (ts++[p]) (z++[(a,b)]):=by
 have yW:l≠p:=bY h.l hp;refine⟨by rw[aE,bT];rfl,by simp[h.n],λi t q e1 e2=>?_⟩
 have hn:=h.n;by_cases hi:i<ts.length
 ·rw[d9 hi] at e1;rw[d9 ∅] at e2
  have ht:=h.t i t q e1 e2;rw[aI (jm ht h.l (by intro z;cases z)),aI (bY ht hp)]
  exact ht
 ·rw[d_ ∅] at e1
  rw[d_ ∅] at e2
  have dm:i - ts.length=0:=by
   have:=Tj e1;simp at this;lia
  rw[dm] at e1;rw[← hn,dm] at e2;simp at e1 e2;subst e1 e2;rw[aI yW.symm,aE]
def adm(t:TS):TS:=λD σ H=>∃M:St->Hp->Prop,t { D with nx:=M } σ H/\∀iW H1,M iW H1->D.nx iW H1
theorem adn{X:Cx}{st:Stmt}{t:TS}(h:PS X st t):PS X st (adm t):=by
 rintro pins s σ H D I ⟨M,hM,k⟩;refine aW (h pins s σ H _ I hM) λf s1 q=>?_;cases f with
 | next=>obtain⟨iW,H1,I1,q⟩:=q;exact⟨iW,H1,I1,k _ _ q⟩
 | brk=>exact q
 | cont=>exact q
 | ret u=>exact q
def ado(K:W.Frag):Sp:=λvs H Q _=>∃(a:Addr) (ts:List Addr) (z:List (Int×Int)),vs = [.ref a]/\Zn H a ts z/\uh z/\∀H',aj H H'->Q .aU H'
def adp(K:W.Frag):Sp:=λvs H Q _=>∃(a:Addr) (ts:List Addr) (z:List (Int×Int)) (ao cA:Int),vs = [.ref a,.int ao,.int cA]/\Zn H a ts z/\uh z/\1<=ao/\ao<=1000000000/\0<=cA/\cA<ao/\
 (∀p∈z,ao % p.2=0)/\Q .aU H
def adq(K:W.Frag):Sp:=λvs H Q _=>∃(a:Addr) (sw:List Int) (n:Int),vs = [.ref a,.int n]/\az K H a (sw.map V.int)/\SwOk sw n/\n<=1000/\Q .aU H
def ads(K:W.Frag):Sp:=λvs H Q _=>∃(a:Addr) (sw:List Int) (n:Int),vs = [.ref a]/\az K H a (sw.map V.int)/\SwOk sw n/\n<=1000/\Q .aU H
def adt(K:W.Frag):Sp:=λvs H Q _=>∃(a:Addr) (ts:List Addr) (z:List (Int×Int)),vs = [.ref a]/\Zn H a ts z/\uh z/\
 ∀l H',aj H H'->H l=none->H' l=some (.lst ((counts z).map V.int))->Q (.ref l) H'
def adu(K:W.Frag):Sp:=λvs H Q _=>∃(a:Addr) (rc:List Int) (s:Int),vs = [.ref a,.int s]/\az K H a (rc.map V.int)/\rc.length<=1000/\(∀c∈rc,0<=c/\c<=1000)/\0<=s/\s<=1000/\
 ∀l ts H',aj H H'->H l=none->(∀t∈ts,H t=none)->Zn H' l ts (gj rc s)->Q (.ref l) H'
def adw(K:W.Frag):Sp:=λvs H Q _=>∃(a:Addr) (ts:List Addr) (z:List (Int×Int)),vs = [.ref a]/\Zn H a ts z/\z.length<=1000000/\
 ∀d H',aj H H'->H d=none->H' d=some (.dT (qt z))->Q (.ref d) H'
structure Pl where
 rc:List Int
 ao:Int
 cA:Int
 sw:List Int
 nc:List (Int×Int)
structure CP(K:W.Frag)(C:Addr):Prop where
 cl:dI K C
 n1:cj K C "ring_cells"
 n2:cj K C "lap"
 n3:cj K C "skew"
 n4:cj K C "swing"
 n5:cj K C "number_cells"
 n6:cj K C "cell_numbers"
noncomputable def wC(a1:Addr)(ao cA:Int)(a2 a3 a4:Addr):List (Str×V):=[("ring_cells",.ref a1),("lap",.int ao),("skew",.int cA),("swing",.ref a2),("number_cells",.ref a3),("cell_numbers",.ref a4)]
structure qw(K:W.Frag)(C:Addr)(H:Hp)(p:Addr)(P:Pl)(dx a1 a2 a3 a4:Addr)(ts:List Addr)(fs:List (Str×V)):Prop where
 cp:CP K C
 o:H p=some (.ins C dx fs)
 f1:fs.lookup ("ring_cells" : Str)=some (.ref a1)
 f2:fs.lookup ("lap" : Str)=some (.int P.ao)
 f3:fs.lookup ("skew" : Str)=some (.int P.cA)
 f4:fs.lookup ("swing" : Str)=some (.ref a2)
 f5:fs.lookup ("number_cells" : Str)=some (.ref a3)
 f6:fs.lookup ("cell_numbers" : Str)=some (.ref a4)
 m1:fs.lookup ("rings" : Str)=none
 m2:fs.lookup ("total" : Str)=none
 m3:fs.lookup ("cells_of" : Str)=none
 m4:fs.lookup ("beats_of" : Str)=none
 m5:fs.lookup ("lap_beats" : Str)=none
 m6:fs.lookup ("begins" : Str)=none
 m7:fs.lookup ("swing_of" : Str)=none
 m8:fs.lookup ("has_cell" : Str)=none
 m9:fs.lookup ("cell_at" : Str)=none
 gK:fs.lookup ("number_of" : Str)=none
 iu:fs.lookup ("laid" : Str)=none
 rc:H a1=some (.lst (P.rc.map V.int))
 sw:H a2=some (.lst (P.sw.map V.int))
 nc:Zn H a3 ts P.nc
 cn:H a4=some (.dT (qt P.nc))
theorem qw.lit{K:W.Frag}{C:Addr}{H:Hp}{p:Addr}{P:Pl}{dx a1 a2 a3 a4:Addr}{ts:List Addr}(cp:CP K C)(o:H p=some (.ins C dx (wC a1 P.ao P.cA a2 a3 a4)))(rc:H a1=some (.lst (P.rc.map V.int)))(sw:H a2=some (.lst (P.sw.map V.int)))
  (nc:Zn H a3 ts P.nc) (cn:H a4=some (.dT (qt P.nc))):qw K C H p P dx a1 a2 a3 a4 ts (wC a1 P.ao P.cA a2 a3 a4):=by
 refine⟨cp,o,?_,?_,?_,?_,?_,?_,?_,?_,?_,?_,?_,?_,?_,?_,?_,?_,?_,rc,sw,nc,cn⟩ <;> simp[wC,List.lookup_cons,Ck]
def cW(K:W.Frag)(C:Addr)(H:Hp)(p:Addr)(P:Pl)(fp:List Addr):Prop:=∃dx a1 a2 a3 a4 ts fs,fp=a1::a2::a3::a4::ts/\qw K C H p P dx a1 a2 a3 a4 ts fs
theorem Zn.keep{H H':Hp}{a:Addr}{ts:List Addr}{z:List (Int×Int)}(h:Zn H a ts z)(ha:H' a=H a)(ht:∀t∈ts,H' t=H t):Zn H' a ts z :=
 ⟨ha.trans h.l,h.n,λi t p e1 e2=>(ht t (g_ e1)).trans (h.t i t p e1 e2)⟩
theorem Zn.has{H:Hp}{a:Addr}{ts:List Addr}{z:List (Int×Int)}(h:Zn H a ts z){t:Addr}(ht:t∈ts):∃o,H t=some o:=by
 obtain⟨i,hi,rfl⟩:=jh.mp ht;have hz:i<z.length:=by rw[← h.n];exact hi
 exact⟨_,h.t i _ _ (bC hi) (bC hz)⟩
section
variable{K:W.Frag}{C:Addr}{H H':Hp}{p x:Addr}{P:Pl}{fp:List Addr}
theorem qw.move{dx a1 a2 a3 a4:Addr}{ts:List Addr}{fs:List (Str×V)}(h:qw K C H p P dx a1 a2 a3 a4 ts fs)(ho:H' p=H p)(h1:H' a1=H a1)(h2:H' a2=H a2)(h3:H' a3=H a3)(h4:H' a4=H a4)(ht:∀t∈ts,H' t=H t):qw K C H' p P dx a1 a2 a3 a4 ts fs :=
 { h with o:=ho.trans h.o,rc:=h1.trans h.rc,sw:=h2.trans h.sw,nc:=h.nc.keep h3 ht,cn:=h4.trans h.cn }
theorem cW.keep(h:cW K C H p P fp)(hp:H' p=H p)(e:∀b∈fp,H' b=H b):cW K C H' p P fp:=by
 obtain⟨dx,a1,a2,a3,a4,ts,fs,rfl,h⟩:=h;exact⟨dx,a1,a2,a3,a4,ts,fs,rfl,h.move hp (e a1 (by simp)) (e a2 (by simp)) (e a3 (by simp)) (e a4 (by simp)) λt ht=>e t (by simp[ht])⟩
theorem cW.has(h:cW K C H p P fp){b:Addr}(hb:b∈fp):∃o,H b=some o:=by
 obtain⟨nA,a1,a2,a3,a4,ts,fs,rfl,h⟩:=h;simp only[List.mem_cons] at hb;rcases hb with rfl | rfl | rfl | rfl | hb
 ·exact⟨_,h.rc⟩
 ·exact⟨_,h.sw⟩
 ·exact⟨_,h.nc.l⟩
 ·exact⟨_,h.cn⟩
 ·exact h.nc.has hb
theorem cW.here(h:cW K C H p P fp):∃o,H p=some o:=by
 obtain⟨nA,a1,a2,a3,a4,ts,fs,rfl,h⟩:=h;exact⟨_,h.o⟩
theorem cW.same(h:cW K C H p P fp)(s:aj H H'):cW K C H' p P fp:=by
 refine h.keep ?_ λb hb=>?_
 ·obtain⟨o,e⟩:=h.here;rw[e];exact s _ _ e
 ·obtain⟨o,e⟩:=h.has hb;rw[e];exact s _ _ e
def SameBut(x:Addr)(H H':Hp):Prop:=∀b o,H b=some o->b≠x->H' b=some o
theorem SameBut.put{o:HO}(s:SameBut x H H'):SameBut x H (upd H' x o):=λb u e h=>by rw[aI h];exact s b u e h
theorem SameBut.step{H1 H2:Hp}(s:SameBut x H H1)(t:aj H1 H2):SameBut x H H2:=λb u e h=>t _ _ (s b u e h)
theorem SameBut.of(s:aj H H'):SameBut x H H':=λb u e _=>s _ _ e
end
def ady(K:W.Frag):Sp:=λvs H Q _=>∃(C p dx za sa:Addr) (bA:List Addr) (z:List (Int×Int)) (ao cA:Int) (sw:List Int),vs = [.ref p,.ref za,.int ao,.int cA,.ref sa]/\CP K C/\H p=some (.ins C dx [])/\Zn H za bA z/\uh z/\
 1<=ao/\ao<=1000000000/\0<=cA/\cA<ao/\(∀p∈z,ao % p.2=0)/\az K H sa (sw.map V.int)/\SwOk sw (z.map (·.1)).sum/\
 ∀H' dx a1 a2 a3 a4 ts,SameBut p H H'->(∀b∈a1::a2::a3::a4::ts,H b=none)->H' p=some (.ins C dx (wC a1 ao cA a2 a3 a4))->qw K C H' p ⟨counts z,ao,cA,sw,gj (counts z) 0⟩ dx a1 a2 a3 a4 ts (wC a1 ao cA a2 a3 a4)->Q .aU H'
def adz(K:W.Frag):Sp:=λvs H Q _=>∃(C p:Addr) (P:Pl) (fp:List Addr) (i j:Int),vs = [.ref p,.int i,.int j]/\cW K C H p P fp/\(i - j).natAbs<P.sw.length/\Q (.int (P.sw.getD (i - j).natAbs 0)) H
def adA(K:W.Frag):Sp:=λvs H Q _=>∃(C p:Addr) (P:Pl) (fp:List Addr),vs = [.ref p]/\cW K C H p P fp/\Q (.int P.rc.length) H
def adB(K:W.Frag):Sp:=λvs H Q _=>∃(C p:Addr) (P:Pl) (fp:List Addr),vs = [.ref p]/\cW K C H p P fp/\Q (.int P.nc.length) H
def adC(K:W.Frag):Sp:=λvs H Q _=>∃(C p:Addr) (P:Pl) (fp:List Addr),vs = [.ref p]/\cW K C H p P fp/\Q (.int P.ao) H
def adD(K:W.Frag):Sp:=λvs H Q _=>∃(C p:Addr) (P:Pl) (fp:List Addr) (r:Int),vs = [.ref p,.int r]/\cW K C H p P fp/\0<=r/\r<P.rc.length/\0<P.rc.getD r.toNat 0/\P.rc.getD r.toNat 0<=1000/\Q (.int (P.ao / P.rc.getD r.toNat 0)) H
def adE(K:W.Frag)(cs:List Addr):Sp:=λvs H Q _=>∃(C p:Addr) (P:Pl) (fp:List Addr) (r c:Int),vs = [.ref p,.int r,.int c]/\C∈cs/\cW K C H p P fp/\0<=r/\r<P.rc.length/\P.rc.length<=1000/\0<P.rc.getD r.toNat 0/\P.rc.getD r.toNat 0<=1000/\
 0<=c/\c<=1000/\0<P.ao/\Q (.int ((c*(P.ao / P.rc.getD r.toNat 0)+r*P.cA) % P.ao)) H
def adF(K:W.Frag):Sp:=λvs H Q _=>∃(C p:Addr) (P:Pl) (fp:List Addr) (r c:Int),vs = [.ref p,.int r,.int c]/\cW K C H p P fp/\Q (.bl (decide (0<=r/\r<P.rc.length/\0<=c/\c<P.rc.getD r.toNat 0))) H
def adG(K:W.Frag):Sp:=λvs H Q _=>∃(C p:Addr) (P:Pl) (fp:List Addr) (k:Int),vs = [.ref p,.int k]/\cW K C H p P fp/\0<=k/\k<P.nc.length/\∀t q,P.nc[k.toNat]? = some q->H t=some (.tup [.int q.1,.int q.2])->Q (.ref t) H
def adH(K:W.Frag)(cs:List Addr):Sp:=λvs H Q _=>∃(C p:Addr) (P:Pl) (fp:List Addr) (r c:Int),vs = [.ref p,.int r,.int c]/\C∈cs/\cW K C H p P fp/\0<=r/\r<P.rc.length/\0<=c/\c<P.rc.getD r.toNat 0/\
 ∀H',aj H H'->Q ((dj (qt P.nc) (kT (r,c))).getD .aU) H'
noncomputable def eX(z:List (Int×Int)):Int:=z.foldl (λp x=>p*x.2) 1
theorem range_getD{f:Nat->Int}{n i:Nat}(h:i<n):((List.range n).map f).getD i 0=f i:=by
 simp[List.getD_eq_getElem?_getD,h]
theorem adI{L:Int}(h:1<=L)(h8:L<=100000000){ns:List Int}(hb:∀x∈ns,L<=x/\x<=2*L)(hp:ns.Pairwise (·<=·))(h1:1<=ns.length):SwOk (0::ns) ((ns.length+1:Nat):Int):=by
 have at_:∀i:Nat,1<=i->i<(0::ns).length->∃hi:i - 1<ns.length,(0::ns).getD i 0=ns[i - 1]:=λi h1 hi=>by
  obtain⟨j,rfl⟩:∃j,i=j+1:=⟨i - 1,∅⟩
  have hj:j<ns.length:=by simpa using hi
  exact⟨hj,by simp[List.getD_eq_getElem?_getD,List.getElem?_eq_getElem hj]⟩
 refine⟨by simp,∅,rfl,λi h1 hi=>?_,λi h1 hi=>?_,λa b ha iY yX=>?_⟩
 ·obtain⟨hj,e⟩:=at_ i h1 hi;have:=hb _ (cI hj);rw[e];lia
 ·obtain⟨hj,e⟩:=at_ i h1 hi;rw[e];by_cases h2:i=1
  ·subst h2;have:=hb _ (cI hj)
   show (0:Int)<=_;lia
  ·obtain⟨HS,e2⟩:=at_ (i - 1) ∅ ∅
   rw[e2];exact sQ.mp hp _ _ HS hj ∅
 ·obtain⟨h1,e1⟩:=at_ (a+b) ∅ yX
  obtain⟨h2,e2⟩:=at_ a ha ∅
  obtain⟨h3,e3⟩:=at_ b iY ∅
  have:=hb _ (cI h1);have:=hb _ (cI h2);have:=hb _ (cI h3);rw[e1,e2,e3];lia
structure ZL(z:List (Int×Int)):Prop where
 ok:uh z
 pr:eX z<=32768
 sm:(z.map (·.1)).sum<=15
theorem prodF(z:List (Int×Int)):∀p:Int,z.foldl (λp x=>p*x.2) p=p*eX z:=by
 induction z with
 | nil=>intro p;simp[eX]
 | cons x z ih =>
  intro p;rw[eX,mK,mK,ih,ih (1*x.2),Int.one_mul,Int.mul_assoc]
theorem To(x:Int×Int)(z:List (Int×Int)):eX (x::z)=x.2*eX z:=by
 rw[eX,mK,prodF,Int.one_mul]
theorem adJ(x:Int×Int)(z:List (Int×Int)):eX (z++[x])=eX z*x.2:=by
 rw[eX,vd];rfl
theorem Cq{m:Int}(hm:1<=m):∀z:List (Int×Int),(∀p∈z,1<=p.2/\p.2<=m)->1<=eX z/\eX z<=m ^ z.length
 | [],_=>by simp[eX]
 | x::z,h=>by
  have ih:=Cq hm z λp hp=>h p (bU _ hp);have hx:=h x b8;rw[To,dR,Int.pow_succ,Int.mul_comm (m ^ z.length)];constructor
  ·have:=pX hx.1 ih.1 ⋯ ∅
   lia
  ·exact pX hx.2 ih.2 ∅ ∅
theorem Tp{x:Int×Int}:∀ {z:List (Int×Int)},x∈z->x.2 ∣ eX z
 | y::z,h=>by
  rw[To];rcases b_.mp h with rfl | h
  ·exact Int.dvd_mul_right _ _
  ·exact Int.dvd_trans (Tp h) (Int.dvd_mul_left _ _)
theorem Tq{m:Int}(hm:1<=m){a b:Nat}(h:a<=b):m ^ a<=m ^ b:=by
 induction h with
 | refl=>exact kL _
 | @step b h ih =>
  rw[Int.pow_succ];have h1:1<=m ^ b:=by
   clear ih h
   induction b with
   | zero=>simp
   | succ b ih =>
    rw[Int.pow_succ];have:=pX ih hm ⋯ ∅
    lia
  have:=pX (kL (m ^ b)) hm ⋯ ∅
  lia
theorem ite_no{c A B:Prop}[Decidable c](h:¬ c)(b:B):if c then A else B:=by rw[if_neg h];exact b
theorem ite_yes{c A B:Prop}[Decidable c](h:c)(a:A):if c then A else B:=by rw[if_pos h];exact a
theorem adK{n:Nat}(h:0<n):jr n (-1)=some (n - 1):=by
 unfold jr;rw[if_neg ⋯,if_pos ∅]
 congr 1;lia
structure Tr(K:W.Frag)(C:Addr)(m:Str)(f:Addr):Prop where
 ga:PySem.W.specialIn K (.ref C) "__getattribute__" = some (some (.builtin "type.__getattribute__"))
 rd:PySem.W.readsIn K C (.type "type")=true
 at_:PySem.W.findCls K (.ref C) (.type "type") m=some (.val (.ref f))
 kp:PySem.W.keepIn K (.ref f)=true
section
variable{X:Cx}{CX:jq}{k:Nat}{f C:Addr}{fd:FuncData}{ps:List Str}{sp:Sp}{cM:List V}{ds:List Value}{E:XK}{x m:Str}{p pos apos:Pos}{e:Expr}{es:List Expr}{t:TA}
theorem adL{pl:Sem Bool}(hg:Gl X x)(hm:X.mg x=some (.ref C))(c:Tr X.K C m f)(F:aY X.prog X.w X.K X.mg X.base CX k f fd ps sp)(hr:dQ k X.A)(hb:Binds X.K fd ps ds)(hd:Vals cM ds)(hx:Passes CX X E)(ha:PA X (e::es) t)
  (gG:starEach (e::es) X.env=(false,eval e X.env)::starEach es X.env:=by rfl) (kh:(backTo pos (starEach es X.env)).any (·.1)=false:=by rfl) (qj:(x == ("__debug__" : Str))=false:=by decide)
  (ht:eval (.Call (.Attribute (.Name x p) m apos) (e::es) [] pos) X.env=(do
   let ov ← eval (.Name x p) X.env
   standAt apos.atName
   let (f,first) ← holding [ov] (getMethod ov m pl)
   callWith pos f first (backTo pos (starEach (e::es) X.env)) (backToKw pos (keywordEach [] X.env))):=by rfl) :
  PE X (.Call (.Attribute (.Name x p) m apos) (e::es) [] pos) (B3 sp cM E t):=by
 intro pins s σ H Q I h;refine FA (pl:=pl) (BP I hg hm ?_ qj) ht;refine PySem.W.method_cls I.eV c.ga (PySem.W.cls_value I.eV c.rd c.at_ rfl ?_);have I':=I.tok (s.toks+1);refine Bv (first:=[]) (h₀:=X.base) I.ok.mod.vH c.kp (aW (ha pos pins _ σ H _ I' h) λus s2 ⟨vs,H2,I2,r,q2⟩=>⟨I2.eV,?_⟩) gG kh
 exact B4 (us:=us) (vs:=vs) F hr hb hd hx I2 r q2
end
section
variable{X:Cx}
end
section
variable{X:Cx}{pins:List (Addr×Obj)}{σ:St}{H:Hp}{s:Shared}
end
section
variable{X:Cx}
end
section
variable{K:W.Frag}{ta:TA}{g:TG}{D:Ends}{σ:St}{H:Hp}{tt:TT}{te:TE}{nt:Nat}{fv:List Nat}{Q:VK}
theorem rcE(a:Addr)(xs:List V)(Pv:Addr->Nat->List V->St->Hp->Prop)(gJ:∀Q:List V->Hp->Prop,Q [.ref a] H->ta σ H Q)(eB:az K H a xs)
  (h0:∀D,H D=none->Pv D 0 [] (k6 σ nt fv) (upd H D (.lst []))) (hD:∀D i ys σ H,Pv D i ys σ H->H D=some (.lst ys)/\ys.length<sizeLine/\az K H a xs)
  (hs:∀D i x ys aC H2 T (N:List V->St->Hp->Prop),(∀ys σ H,Pv D (i+1) ys σ H->N ys σ H)->xs[i]? = some x->Pv D i ys aC H2->H2 T=none->g (.ref T) aC (upd H2 T (.tup [.int i,x])) λcG H4=>tt cG H4 λb H5=>if b=true then te cG H5 λv H6=>H6 D=some (.lst ys)/\N (ys++[v]) cG (upd H6 D (.lst (ys++[v]))) else N ys cG H5)
  (hd:∀D ys aC H2,Pv D xs.length ys aC H2->Q (.ref D) H2):ni (Cg K ta) g tt te nt fv σ H Q:=by
 refine gJ _ ⟨a,rfl,⟨xs,eB⟩,λD qq=>?_⟩;refine⟨λi m ys aC H2=>m=xs.length - i/\i<=xs.length/\Pv D i ys aC H2,⟨_,rfl,eL _,h0 D qq⟩,?_⟩;rintro i m ys aC H2 ⟨rfl,gh,p⟩;obtain⟨d1,d2,d3⟩:=hD D i ys aC H2 p;refine⟨d1,d2,?_⟩;by_cases cE:i<xs.length
 ·refine .inr ⟨⟨xs,xs[i],d3,by simp[cE]⟩,λx H3 y=>?_⟩
  obtain⟨T,z,hT,e1,e2,e3⟩:=y;subst e1 e3;exact hs D i z ys aC H2 T (λys σ H=>NX xs.length i (Pv D (i+1) ys σ H)) (λ_ _ _ q=>NX.of cE q) (e2 xs d3) p hT
 ·have e:i=xs.length:=by lia
  subst e;exact .inl ⟨⟨xs,d3,bu _⟩,hd D ys aC H2 p⟩
end
theorem Tt{X:Cx}{K:W.Frag}{pos:Pos}{es:List Expr}{k n:Nat}{t:oN}(hK:X.K=K)(hc:X.calm=true)(h:vN X es t)(hn:(assignEach es X.env).length=n:=by rfl)(gG:(assignEach es X.env).findIdx? (·.1)=none:=by rfl):PG X (.Tuple es k pos) (yp K n t):=hK▸j_ hc h hn gG
def Cr(cs:List Addr)(m:Str)(sp:Sp)(cM:List V)(E:XK)(ta:TE)(t:TA):TE:=λσ H Q=>ta σ H λx H1=>∃C a dx fs,x = .ref a/\H1 a=some (.ins C dx fs)/\C∈cs/\fs.lookup m=none/\t σ H1 λvs H2=>sp (x::(vs++cM)) H2 Q E
section
variable{X:Cx}{CX:jq}{k:Nat}{f:Addr}{cs:List Addr}{fd:FuncData}{ps:List Str}{sp:Sp}{cM:List V}{ds:List Value}{E:XK}{m:Str}{pos apos:Pos}{o e:Expr}{es:List Expr}{ta:TE}{t:TA}
theorem nB{pl:Sem Bool}(ho:PE X o ta)(hc:∀C∈cs,dI X.K C/\Meth X.K C m f)(F:aY X.prog X.w X.K X.mg X.base CX k f fd ps sp)(hr:dQ k X.A)(hb:Binds X.K fd ps ds)(hd:Vals cM ds)(hx:Passes CX X E)(ha:PA X (e::es) t)
  (gG:starEach (e::es) X.env=(false,eval e X.env)::starEach es X.env:=by rfl) (kh:(backTo pos (starEach es X.env)).any (·.1)=false:=by rfl)
  (HU:eval (.Call (.Attribute o m apos) (e::es) [] pos) X.env=(do
   let ov ← eval o X.env
   standAt apos.atName
   let (f,first) ← holding [ov] (getMethod ov m pl)
   callWith pos f first (backTo pos (starEach (e::es) X.env)) (backToKw pos (keywordEach [] X.env))):=by rfl):PE X (.Call (.Attribute o m apos) (e::es) [] pos) (Cr cs m sp cM E ta t):=by
 intro pins s σ H Q I h;refine FA (pl:=pl) (aW (ho pins s σ H _ I h) λu s1 hz=>?_) HU;obtain⟨x,H1,I1,rx,C,a,dx,fs,ex,ea,hC,hl,q⟩:=hz;subst ex;cases (show u=Value.ref a from rx);obtain⟨c1,c2⟩:=hc C hC;refine Se I1 ea c1 c2 hl (Bv (first:=[.ref a]) (h₀:=X.base) I.ok.mod.vH c2.kp (aW (ha pos pins s1 σ H1 _ I1 q) λus s2 hw=>?_) gG kh)
 obtain⟨vs,H2,I2,r,q2⟩:=hw;exact⟨I2.eV,B4 (us:=.ref a::us) (vs:=.ref a::vs) F hr hb hd hx I2 (.cons rfl r) q2⟩
theorem yY{pl:Sem Bool}(ho:PE X o ta)(hc:∀C∈cs,dI X.K C/\Meth X.K C m f)(F:aY X.prog X.w X.K X.mg X.base CX k f fd ps sp)(hr:dQ k X.A)(hb:Binds X.K fd ps ds)(hd:Vals cM ds)(hx:Passes CX X E)
  (HU:eval (.Call (.Attribute o m apos) [] [] pos) X.env=(do
   let ov ← eval o X.env
   standAt apos.atName
   let (f,first) ← holding [ov] (getMethod ov m pl)
   callWith pos f first (backTo pos (starEach [] X.env)) (backToKw pos (keywordEach [] X.env))):=by rfl):PE X (.Call (.Attribute o m apos) [] [] pos) (Cr cs m sp cM E ta yD):=by
 intro pins s σ H Q I h;refine FA (pl:=pl) (aW (ho pins s σ H _ I h) λu s1 hz=>?_) HU;obtain⟨x,H1,I1,rx,C,a,dx,fs,ex,ea,hC,hl,q⟩:=hz;subst ex;cases (show u=Value.ref a from rx);obtain⟨c1,c2⟩:=hc C hC;refine Se I1 ea c1 c2 hl (PySem.W.callWith_K0 (first:=[.ref a]) I1.eV c2.kp ?_)
 exact B4 (us:=[.ref a]) (vs:=[.ref a]) F hr hb hd hx I1 (.cons rfl .nil) q
end
theorem HV{p q:Int×Int}(h:kT p=kT q):p=q:=by
 unfold kT at h;simp only[List.cons.injEq,Sum.inl.injEq,and_true] at h;exact qZ h.1 h.2
theorem Tu{s:Int}:∀ {rc:List Int} {r:Nat} {q:Int×Int},q∈fH s r rc↔∃j:Nat,j<rc.length/\q.1=((r+j:Nat):Int)/\0<=q.2/\q.2<rc.getD j 0 - s
 | [],r,q=>by simp[fH]
 | c::rc,r,q=>by
  rw[fH,fE,Tu (rc:=rc) (r:=r+1)];constructor
  ·rintro(h | ⟨j,h1,h2,h3,h4⟩)
   ·obtain⟨k,hk,rfl⟩:=dh.mp h;rw[fF] at hk;exact⟨0,by simp,by simp,by dsimp only;lia,by simp only[List.getD_cons_zero];lia⟩
   ·exact⟨j+1,by simpa using h1,by rw[h2];congr 1;lia,h3,by simpa using h4⟩
  ·rintro⟨j,h1,h2,h3,h4⟩;cases j with
   | zero =>
    left;refine dh.mpr ⟨q.2.toNat,fF.mpr ?_,?_⟩
    ·simp only[List.getD_cons_zero] at h4;lia
    ·refine qZ ?_ ?_
     ·rw[h2];simp
     ·dsimp only;lia
   | succ j =>
    right;exact⟨j,by simpa using h1,by rw[h2];congr 1;lia,h3,by simpa using h4⟩
theorem Tv{s:Int}:∀(rc:List Int) (r:Nat),(fH s r rc).Nodup
 | [],r=>Bh
 | c::rc,r=>by
  rw[fH,Bg];refine⟨?_,Tv rc (r+1),?_⟩
  ·rw[vm,p9];refine A7 ?_ (vm.mp Bj);intro a b h e;simp at e;lia
  ·intro x hx y hy e;subst e;obtain⟨k,_,rfl⟩:=dh.mp hx;obtain⟨j,_,h2,_⟩:=Tu.mp hy;simp at h2;lia
noncomputable def kq(aA:List (List Key×V)):Nat->List (Int×Int)->List Int
 | _,[]=>[]
 | i,q::z=>if (dj aA (kT q)).isSome=true then(i:Int)::kq aA (i+1) z else kq aA (i+1) z
theorem HW(aA:List (List Key×V)):∀(z:List (Int×Int)) (i:Nat) (q:Int×Int),kq aA i (z++[q])=kq aA i z++(if (dj aA (kT q)).isSome=true then [((i+z.length:Nat):Int)] else [])
 | [],i,q=>by simp[kq]
 | x::z,i,q=>by
  rw[pZ,kq,kq,HW aA z (i+1) q];have e:i+1+z.length=i+(x::z).length:=by simp;lia
  rw[e];split <;> simp
theorem HX(aA:List (List Key×V)):∀(z:List (Int×Int)) (i:Nat),(kq aA i z).length<=z.length
 | [],i=>by simp[kq]
 | x::z,i=>by
  have:=HX aA z (i+1);rw[kq];split <;> simp <;> lia
def adM(K:W.Frag):Sp:=λvs H Q _=>∃(a:Addr) (rc:List Int) (s:Int),vs = [.int s,.ref a]/\az K H a (rc.map V.int)/\0<rc.length/\0<=s/\(∀c∈rc,s<c)/\Q .aU H
noncomputable def cX(z:List (Int×Int)):List (List Key×V):=z.map λq=>(kT q,V.bl true)
theorem yZ{z:List (Int×Int)}{q:Int×Int}(h:q∉z):dj (cX z) (kT q)=none:=by
 induction z with
 | nil=>rfl
 | cons x z ih =>
  rw[cX,cH,kZ,← cX,ih λm=>h (bU _ m)];intro e;exact h (HV e▸b8)
theorem HY{z:List (Int×Int)}{q:Int×Int}(h:q∈z):dj (cX z) (kT q)=some (.bl true):=by
 induction z with
 | nil=>cases h
 | cons x z ih =>
  by_cases e:x=q
  ·subst e;rw[cX,cH,lR rfl]
  ·rw[cX,cH,kZ (λz=>e (HV z)),← cX];exact ih ((b_.mp h).resolve_left λz=>e z.symm)
def adN(K:W.Frag)(cs:List Addr):Sp:=λvs H Q _=>∃(C p ba:Addr) (P:Pl) (fp kr:List Addr) (bz:List (Int×Int)),vs = [.ref p,.ref ba]/\C∈cs/\cW K C H p P fp/\Zn H ba kr bz/\bz.length<=1000000/\bz.Nodup/\
 (∀q∈bz,0<=q.1/\q.1<P.rc.length/\0<=q.2/\q.2<P.rc.getD q.1.toNat 0)/\∀d H',aj H H'->H d=none->H' d=some (.dT (cX bz))->Q (.ref d) H'
def adO(K:W.Frag):Sp:=λvs H Q _=>∃(a d:Addr) (ts:List Addr) (z:List (Int×Int)) (aA:List (List Key×V)),vs = [.ref a,.ref d]/\Zn H a ts z/\z.length<=1000000/\H d=some (.dT aA)/\
 ∀l H',aj H H'->H l=none->H' l=some (.lst ((kq aA 0 z).map V.int))->Q (.ref l) H'
noncomputable def HZ(K:W.Frag)(C:Addr)(H:Hp)(p:Addr)(P:Pl)(fp:List Addr)(mv:Addr)(ms:List V):Prop :=
 ∃dx a1 a2 a3 a4 ts fs,fp=a1::a2::a3::a4::ts/\qw K C H p P dx a1 a2 a3 a4 ts fs/\cj K C "moves"/\fs.lookup ("moves" : Str)=some (.ref mv)/\H mv=some (.lst ms)
theorem HZ.adP{K:W.Frag}{C:Addr}{H:Hp}{p:Addr}{P:Pl}{fp:List Addr}{mv:Addr}{ms:List V}(h:HZ K C H p P fp mv ms):cW K C H p P fp:=by
 obtain⟨dx,a1,a2,a3,a4,ts,fs,e,h,_⟩:=h;exact⟨dx,a1,a2,a3,a4,ts,fs,e,h⟩
section
variable{K:W.Frag}{C:Addr}{H H':Hp}{p:Addr}{P:Pl}{fp:List Addr}{mv:Addr}{ms:List V}
end
structure Zt(H:Hp)(a:Addr)(ts:List Addr)(z:List (List Int)):Prop where
 l:H a=some (.lst (ts.map V.ref))
 n:ts.length=z.length
 t:∀(i:Nat) (t:Addr) (r:List Int),ts[i]? = some t->z[i]? = some r->H t=some (.tup (r.map V.int))
section
variable{H H':Hp}{a:Addr}{ts:List Addr}{z:List (List Int)}
theorem Zt.at(h:Zt H a ts z){i:Nat}(hi:i<z.length):∃t,(ts.map V.ref)[i]? = some (.ref t)/\H t=some (.tup ((z.getD i []).map V.int)):=by
 have ht:i<ts.length:=by rw[h.n];exact hi
 refine⟨ts[i],by simp[ht],h.t i _ _ (bC ht) ?_⟩
 simp[List.getD_eq_getElem?_getD,List.getElem?_eq_getElem hi]
theorem Zt.start{l:Addr}:Zt (upd H l (.lst [])) l [] []:=⟨aE,rfl,λi t r e=>by simp at e⟩
theorem Zt.snoc{l p:Addr}(h:Zt H l ts z)(hp:H p=none)(r:List Int):Zt (upd (upd H p (.tup (r.map V.int))) l (.lst (ts.map V.ref++[V.ref p]))) l (ts++[p]) (z++[r]):=by
 have yW:l≠p:=bY h.l hp;refine⟨by rw[aE,bT];rfl,by simp[h.n],λi t q e1 e2=>?_⟩
 have hn:=h.n;by_cases hi:i<ts.length
 ·rw[d9 hi] at e1;rw[d9 ∅] at e2
  have ht:=h.t i t q e1 e2;rw[aI (jm ht h.l (by intro z;cases z)),aI (bY ht hp)]
  exact ht
 ·rw[d_ ∅] at e1
  rw[d_ ∅] at e2
  have dm:i - ts.length=0:=by
   have:=Tj e1;simp at this;lia
  rw[dm] at e1;rw[← hn,dm] at e2;simp at e1 e2;subst e1 e2;rw[aI yW.symm,aE]
theorem Zn.start{l:Addr}:Zn (upd H l (.lst [])) l [] []:=⟨aE,rfl,λi t r e=>by simp at e⟩
end
section
variable{ta:TA}{g:TG}{tt:TT}{te:TE}{nt:Nat}{fv:List Nat}{Q:VK}{σ:St}{H:Hp}
theorem Cs(n:Int)(Pv:Addr->Nat->List V->St->Hp->Prop)(gJ:∀Q:List V->Hp->Prop,Q [.int n] H->ta σ H Q)(b1 : -1000000000000<n)(b2:n<1000000000000)
  (h0:∀D,H D=none->Pv D 0 [] (k6 σ nt fv) (upd H D (.lst []))) (hD:∀D i ys σ H,Pv D i ys σ H->H D=some (.lst ys)/\ys.length<sizeLine)
  (hs:∀D i ys aC H2 (N:List V->St->Hp->Prop),(∀ys σ H,Pv D (i+1) ys σ H->N ys σ H)->i<n.toNat->Pv D i ys aC H2->g (.int (i:Int)) aC H2 λcG H4=>tt cG H4 λb H5=>if b=true then te cG H5 λv H6=>H6 D=some (.lst ys)/\N (ys++[v]) cG (upd H6 D (.lst (ys++[v]))) else N ys cG H5)
  (hd:∀D ys aC H2,Pv D n.toNat ys aC H2->Q (.ref D) H2):ni (yu ta) g tt te nt fv σ H Q:=by
 refine gJ _ ⟨n,rfl,∅,∅,λD qq=>?_⟩
 refine⟨λi m ys aC H2=>m=n.toNat - i/\i<=n.toNat/\Pv D i ys aC H2,⟨_,rfl,eL _,h0 D qq⟩,?_⟩;rintro i m ys aC H2 ⟨rfl,gh,p⟩;obtain⟨d1,d2⟩:=hD D i ys aC H2 p;refine⟨d1,d2,?_⟩;by_cases cE:i<n.toNat
 ·refine .inr ⟨cE,λx H3 y=>?_⟩;obtain⟨e1,e2⟩:=y;subst e1 e2;have e2:(0:Int)+(i:Int)=i:=by lia
  rw[e2];exact hs D i ys aC _ _ (λ_ _ _ z=>NX.of cE z) cE p
 ·have e:i=n.toNat:=by lia
  subst e;exact .inl ⟨bu _,hd D ys aC H2 p⟩
end
structure fJ(P:Pl):Prop where
 n2:2<=P.rc.length
 n1:P.rc.length<=1000
 c:∀i:Nat,i<P.rc.length->1<=P.rc.getD i 0/\P.rc.getD i 0<=1000
 ao:1<=P.ao
 sw:SwOk P.sw P.rc.length
noncomputable def o7(P:Pl)(r c:Int):Int:=(c*(P.ao / P.rc.getD r.toNat 0)+r*P.cA) % P.ao
noncomputable def jM(P:Pl)(r c b:Int):Int:=b+(o7 P r c - b) % P.ao
noncomputable def rP(P:Pl)(s q:Int×Int):Int:=jM P q.1 q.2 (s.2+P.sw.getD (s.1 - q.1).natAbs 0)
noncomputable def dM(P:Pl)(s q:Int×Int):Int×Int:=(q.1,rP P s q+P.ao / P.rc.getD q.1.toNat 0)
noncomputable def qx(P:Pl)(s q:Int×Int):List Int:=[q.1,q.2,rP P s q,(dM P s q).2]
noncomputable def a_(P:Pl):Int×Int->List (Int×Int)->Int×Int
 | s,[]=>s
 | s,q::r=>a_ P (dM P s q) r
noncomputable def dZ(P:Pl):Int×Int->List (Int×Int)->List (List Int)
 | _,[]=>[]
 | s,q::r=>qx P s q::dZ P (dM P s q) r
theorem wD(P:Pl)(q:Int×Int):∀(xs:List (Int×Int)) (s:Int×Int),a_ P s (xs++[q])=dM P (a_ P s xs) q
 | [],s=>rfl
 | x::xs,s=>wD P q xs (dM P s x)
theorem wF(P:Pl)(q:Int×Int):∀(xs:List (Int×Int)) (s:Int×Int),dZ P s (xs++[q])=dZ P s xs++[qx P (a_ P s xs) q]
 | [],s=>rfl
 | x::xs,s=>by rw[pZ,dZ,wF P q xs,dZ];rfl
theorem nC(P:Pl):∀(xs:List (Int×Int)) (s:Int×Int),(dZ P s xs).length=xs.length
 | [],s=>rfl
 | x::xs,s=>by rw[dZ,dR,nC P xs,dR]
theorem Tw(P:Pl):∀(xs:List (Int×Int)) (s:Int×Int) (r:List Int),r∈dZ P s xs->r.length=4
 | [],s,r,h=>by cases h
 | x::xs,s,r,h=>by
  rcases b_.mp h with rfl | hr
  ·rfl
  ·exact Tw P xs _ r hr
theorem adQ(P:Pl)(s:Int×Int){xs:List (Int×Int)}(h:xs≠[]):∃a b,(dZ P s xs).getD (xs.length - 1) [] = [(a_ P s xs).1,a,b,(a_ P s xs).2]:=by
 obtain⟨ys,q,rfl⟩:∃ys q,xs=ys++[q]:=⟨xs.dropLast,xs.getLast h,(List.dropLast_concat_getLast h).symm⟩;rw[wF,wD,jg,d_ (by rw[nC];simp),nC]
 exact⟨_,_,by simp[qx,dM];exact⟨rfl,rfl⟩⟩
theorem k_(P:Pl){n:Int}:∀(xs:List (Int×Int)) (s:Int×Int),0<=s.1->s.1<n->(∀q∈xs,0<=q.1/\q.1<n)->0<=(a_ P s xs).1/\(a_ P s xs).1<n
 | [],s,h0,h1,_=>⟨h0,h1⟩
 | x::xs,s,h0,h1,h=>k_ P xs (dM P s x) (h x b8).1 (h x b8).2 λq hq=>h q (bU _ hq)
def iJ(P:Pl)(z:List (Int×Int)):Prop:=∀q∈z,0<=q.1/\q.1<P.rc.length/\0<=q.2/\q.2<=1000
def adR(K:W.Frag)(cs:List Addr):Sp:=λvs H Q _=>∃(C p:Addr) (P:Pl) (fp:List Addr) (r c b:Int),vs = [.ref p,.int r,.int c,.int b]/\C∈cs/\cW K C H p P fp/\fJ P/\0<=r/\r<P.rc.length/\0<=c/\c<=1000/\Q (.int (jM P r c b)) H
def adS(K:W.Frag)(cs:List Addr):Sp:=λvs H Q _=>∃(C p:Addr) (P:Pl) (fp:List Addr) (r b:Int) (ca:Addr) (bx:List Addr) (cz:List (Int×Int)),vs = [.ref p,.int r,.int b,.ref ca]/\C∈cs/\cW K C H p P fp/\fJ P/\0<=r/\r<P.rc.length/\
 Zn H ca bx cz/\iJ P cz/\cz.length<=1000/\∀l ts H',aj H H'->H l=none->(∀t∈ts,H t=none)->Zt H' l ts (dZ P (r,b) cz)->Q (.ref l) H'
def adT(K:W.Frag)(cs:List Addr):Sp:=λvs H Q _=>∃(C p:Addr) (P:Pl) (fp:List Addr) (r b:Int) (ca:Addr) (bx:List Addr) (cz:List (Int×Int)),vs = [.ref p,.int r,.int b,.ref ca]/\C∈cs/\cW K C H p P fp/\fJ P/\0<=r/\r<P.rc.length/\
 Zn H ca bx cz/\iJ P cz/\cz.length<=1000/\∀t H',aj H H'->H t=none->H' t=some (.tup [.int (a_ P (r,b) cz).1,.int (a_ P (r,b) cz).2])->Q (.ref t) H'
theorem adU{z:List (Int×Int)}(zl:ZL z){ao sk:Int}{sw:List Int}{nc:List (Int×Int)}(l1:1<=ao)(so:SwOk sw (z.map (·.1)).sum):fJ ⟨counts z,ao,sk,sw,nc⟩:=by
 have cl:=rM z λp hp=>(zl.ok.r p hp).1;have H_:=zl.sm;have c2:=zl.ok.s2;refine⟨by dsimp only;lia,by dsimp only;lia,λi hi=>?_,l1,by dsimp only;rw[cl];exact so⟩
 obtain⟨y,hy,e⟩:=rN (get_mem (yV (counts z) hi));have:=zl.ok.r y hy;dsimp only;lia
theorem Ct{P:Pl}(ok:fJ P)(r c b:Int):b<=jM P r c b/\jM P r c b<b+P.ao:=by
 have:=ok.ao;have h1:=fD (o7 P r c - b) (show P.ao≠0 by lia)
 have h2:=fB (o7 P r c - b) (show 0<P.ao by lia)
 unfold jM;lia
theorem adV{P:Pl}(ok:fJ P)(r c b:Int):jM P r c b % P.ao=o7 P r c:=by
 have:=ok.ao;unfold jM;rw[Int.add_emod,A4 _ (A2 _),← Int.add_emod];have e:b+(o7 P r c - b)=o7 P r c:=by lia
 rw[e];unfold o7;exact A4 _ (A2 _)
theorem adW{P:Pl}(ok:fJ P)(r c b t:Int)(hb:b<=t)(ht:t % P.ao=o7 P r c):jM P r c b<=t:=by
 have hl:=ok.ao;have e:(o7 P r c - b) % P.ao=(t - b) % P.ao:=by rw[← ht,A6,A4 _ (A2 _),← A6]
 have h1:=Int.emod_add_mul_ediv (t - b) P.ao;have h2:=A3 (show 0<=t - b by lia) (show 0<=P.ao by lia)
 have h3:=Int.mul_nonneg (show 0<=P.ao by lia) h2
 unfold jM;rw[e];lia
theorem adX{P:Pl}(ok:fJ P)(r c:Int){b b':Int}(h:b<=b'):jM P r c b<=jM P r c b':=adW ok r c b _ (A5 h (Ct ok r c b').1) (adV ok r c b')
section
variable{α:Type}{lt:α->α->Prop}
structure Ord(lt:α->α->Prop):Prop where
 as:∀ {a b},lt a b->¬ lt b a
 tr:∀ {a b c},¬ lt b a->¬ lt c b->¬ lt c a
theorem Ord.ir(o:Ord lt)(a:α):¬ lt a a:=λh=>o.as h h
noncomputable def par(i:Nat):Nat:=(i - 1) / 2
def adY(lt:α->α->Prop)(n k:Nat)(f:Nat->α):Prop:=∀i,1<=i->i<n->i≠k->¬ lt (f i) (f (par i))
def adZ(lt:α->α->Prop)(n k:Nat)(f:Nat->α):Prop:=∀i,1<=i->i<n->par i≠k->¬ lt (f i) (f (par i))
def jt(lt:α->α->Prop)(n:Nat)(f:Nat->α):Prop:=∀i,1<=i->i<n->¬ lt (f i) (f (par i))
noncomputable def put(f:Nat->α)(k:Nat)(x:α):Nat->α:=λi=>if i=k then x else f i
theorem lg(f:Nat->α)(k:Nat)(x:α):put f k x k=x:=by simp[put]
theorem fU{f:Nat->α}{k i:Nat}{x:α}(h:i≠k):put f k x i=f i:=by simp[put,h]
structure Up(lt:α->α->Prop)(n k:Nat)(f:Nat->α)(x:α):Prop where
 h:adY lt n k (put f k x)
 g:1<=k->∀i,i<n->1<=i->par i=k->¬ lt (f i) (f (par k))
 d:∀i,1<=i->i<n->par i=k->¬ lt (f i) x
theorem nF{i:Nat}(h:1<=i):par i<i:=by unfold par;lia
theorem Up.step(o:Ord lt){n k:Nat}{f:Nat->α}{x:α}(u:Up lt n k f x)(h1:1<=k)(hk:k<n)(hx:lt x (f (par k))):Up lt n (par k) (put f k (f (par k))) x:=by
 have pk:=nF h1;have e0:∀i,i≠k->i≠par k->put (put f k (f (par k))) (par k) x i=f i:=λi a b=>by rw[fU b,fU a]
 have ek:put (put f k (f (par k))) (par k) x k=f (par k):=by rw[fU ∅,lg]
 have rQ:∀i,1<=i->i<n->i≠k->par i≠k->¬ lt (f i) (f (par i)):=λi a b c d=>by
  have:=u.h i a b c;rwa [fU c,fU d] at this
 refine⟨λi hi hn fV=>?_,λhp i hn hi e=>?_,λi hi hn e=>?_⟩
 ·by_cases iK:i=k
  ·subst iK;rw[ek,lg];exact o.as hx
  ·rw[e0 i iK fV];by_cases h2:par i=k
   ·rw[h2,ek];exact u.g h1 i hn hi h2
   ·by_cases h3:par i=par k
    ·rw[h3,lg];have:=rQ i hi hn iK h2;rw[h3] at this;exact o.tr (o.as hx) this
    ·rw[e0 _ h2 h3];exact rQ i hi hn iK h2
 ·have pp:=nF hp;rw[fU (f:=f) (k:=k) (show par (par k)≠k by lia)]
  have h4:¬ lt (f (par k)) (f (par (par k))):=rQ (par k) hp ∅ ∅ ∅
  by_cases iK:i=k
  ·subst iK;rw[lg];exact h4
  ·rw[fU iK];have:=rQ i hi hn iK ∅
   rw[e] at this;exact o.tr h4 this
 ·by_cases iK:i=k
  ·subst iK;rw[lg];exact o.as hx
  ·rw[fU iK];have:=rQ i hi hn iK ∅
   rw[e] at this;exact o.tr (o.as hx) this
theorem Up.done{n k:Nat}{f:Nat->α}{x:α}(u:Up lt n k f x)(h:1<=k->¬ lt x (f (par k))):jt lt n (put f k x):=by
 intro i hi hn;by_cases e:i=k
 ·subst e;have:=nF hi;rw[lg,fU ∅]
  exact h hi
 ·exact u.h i hi hn e
structure Down(lt:α->α->Prop)(n k:Nat)(f:Nat->α)(x:α):Prop where
 h:adZ lt n k (put f k x)
 g:1<=k->∀i,i<n->1<=i->par i=k->¬ lt (f i) (f (par k))
structure rR(lt:α->α->Prop)(n k c:Nat)(f:Nat->α):Prop where
 p:c=2*k+1\/c=2*k+2
 m:c<n->∀i,1<=i->i<n->par i=k->¬ lt (f i) (f c)
 out:n<=c->∀i,1<=i->i<n->par i≠k
theorem rR.of(o:Ord lt){n k:Nat}{f:Nat->α}:(2*k+1+1<n/\lt (f (2*k+1+1)) (f (2*k+1))->rR lt n k (2*k+1+1) f)/\(¬ (2*k+1+1<n/\lt (f (2*k+1+1)) (f (2*k+1)))->rR lt n k (2*k+1) f):=by
 have two:∀i,1<=i->par i=k->i=2*k+1\/i=2*k+1+1:=λi h1 h=>by unfold par at h;lia
 constructor
 ·rintro⟨h1,h2⟩;refine⟨∅,λ_ i hi hn e=>?_,λh i hi hn e=>?_⟩
  ·rcases two i hi e with rfl | rfl
   ·exact o.as h2
   ·exact o.ir _
  ·lia
 ·intro h;refine⟨∅,λhc i hi hn e=>?_,λh i hi hn e=>?_⟩
  ·rcases two i hi e with rfl | rfl
   ·exact o.ir _
   ·exact λz=>h ⟨hn,z⟩
  ·rcases two i hi e with rfl | rfl <;> lia
theorem Down.step(o:Ord lt){n k c:Nat}{f:Nat->α}{x:α}(u:Down lt n k f x)(L:rR lt n k c f)(hc:c<n)(hx:lt (f c) x):Down lt n c (put f k (f c)) x:=by
 have pc:par c=k:=by unfold par;rcases L.p with e | e <;> lia
 have kc:k<c:=by rcases L.p with e | e <;> lia
 have rQ:∀i,1<=i->i<n->i≠k->par i≠k->¬ lt (f i) (f (par i)):=λi a b c d=>by
  have:=u.h i a b d;rwa [fU c,fU d] at this
 refine⟨λi hi hn fV=>?_,λh1 i hn hi e=>?_⟩
 ·have pi:=nF hi;by_cases Tz:i=c
  ·subst Tz;rw[lg,pc,fU ∅,lg]
   exact o.as hx
  ·rw[fU Tz,fU fV];by_cases iK:i=k
   ·subst iK;rw[lg,fU ∅]
    have:=u.g hi c hc ∅ pc
    exact this
   ·rw[fU iK];by_cases h2:par i=k
    ·rw[h2,lg];exact L.m hc i hi hn h2
    ·rw[fU h2];exact rQ i hi hn iK h2
 ·have pi:=nF hi;rw[pc,lg,fU ∅]
  have:=rQ i hi hn ∅ ∅
  rwa [e] at this
theorem Down.done(o:Ord lt){n k c:Nat}{f:Nat->α}{x:α}(u:Down lt n k f x)(L:rR lt n k c f)(h:¬ (c<n/\lt (f c) x)):jt lt n (put f k x):=by
 intro i hi hn;have pi:=nF hi;by_cases e:par i=k
 ·rw[e,lg,fU ∅]
  by_cases hc:c<n
  ·exact o.tr (λz=>h ⟨hc,z⟩) (L.m hc i hi hn e)
  ·exact absurd e (L.out ∅ i hi hn)
 ·exact u.h i hi hn e
theorem jt.least(o:Ord lt){n:Nat}{f:Nat->α}(h:jt lt n f):∀i,i<n->¬ lt (f i) (f 0):=by
 intro i
 induction i using Nat.strongRecOn with
 | _ i ih =>
  intro hi;by_cases h0:i=0
  ·subst h0;exact o.ir _
  ·exact o.tr (ih (par i) (nF ∅) (by have:=nF (show 1<=i by lia);lia)) (h i ∅ hi)
end
theorem Ord.of{α:Type}{lt:α->α->Prop}(ir:∀a,¬ lt a a)(tr:∀a b c,lt a b->lt b c->lt a c)(um:∀a b,lt a b\/a=b\/lt b a):Ord lt:=by
 refine⟨λ{a b} h1 h2=>ir a (tr _ _ _ h1 h2),λ{a b c} h1 h2 h3=>?_⟩;rcases um a b with h | h | h
 ·exact h2 (tr _ _ _ h3 h)
 ·subst h;exact h2 h3
 ·exact h1 h
theorem Cu:∀a:List Int,¬ _H.lexLt a a=true
 | []=>by simp[_H.lexLt]
 | x::a=>by simpa[_H.lexLt] using Cu a
theorem TF:∀a b c:List Int,_H.lexLt a b=true->_H.lexLt b c=true->_H.lexLt a c=true
 | [],b,[],h1,h2=>by cases b <;> simp[_H.lexLt] at h1 h2
 | [],b,z::c,h1,h2=>by simp[_H.lexLt]
 | x::a,[],c,h1,h2=>by simp[_H.lexLt] at h1
 | x::a,y::b,[],h1,h2=>by simp[_H.lexLt] at h2
 | x::a,y::b,z::c,h1,h2=>by
  simp only[_H.lexLt] at h1 h2 ⊢;by_cases e1:x=y
  ·rw[if_pos e1] at h1;by_cases e2:y=z
   ·rw[if_pos e2] at h2;rw[if_pos ∅];exact TF a b c h1 h2
   ·rw[if_neg e2] at h2;simp at h2;rw[if_neg ∅];simp;lia
  ·rw[if_neg e1] at h1;simp at h1;by_cases e2:y=z
   ·rw[if_neg ∅];simp;lia
   ·rw[if_neg e2] at h2;simp at h2;rw[if_neg ∅];simp;lia
theorem TH:∀a b:List Int,_H.lexLt a b=true\/a=b\/_H.lexLt b a=true
 | [],[]=>.inr (.inl rfl)
 | [],_::_=>.inl rfl
 | _::_,[]=>.inr (.inr rfl)
 | x::a,y::b=>by
  simp only[_H.lexLt,List.cons.injEq];by_cases e:x=y
  ·subst e;simpa using TH a b
  ·rw[if_neg e,if_neg (λz=>e z.symm)];simp;lia
noncomputable abbrev Th:=Int×List Int×Int
def Ia(a b:Th):Prop:=a.1<b.1\/(a.1=b.1/\(_H.lexLt a.2.1 b.2.1=true\/(a.2.1=b.2.1/\a.2.2<b.2.2)))
theorem TJ{α:Type}:∀ {l:List α} {k:Nat} (h:k<l.length),(l[k]::l.eraseIdx k).Perm l
 | x::l,0,_=>.refl _
 | x::l,k+1,h=>by
  have ih:=TJ (l:=l) (k:=k) (by simpa using h)
  exact(List.Perm.swap _ _ _).trans (ih.cons x)
theorem wG{α:Type}:∀ {l:List α} {k:Nat} (h:k<l.length) (x:α),(l.set k x).Perm (x::l.eraseIdx k)
 | y::l,0,_,x=>.refl _
 | y::l,k+1,h,x=>by
  have ih:=wG (l:=l) (k:=k) (by simpa using h) x
  exact(ih.cons y).trans (List.Perm.swap _ _ _)
theorem TL{α:Type}{l:List α}{k p:Nat}(hk:k<l.length)(hp:p<l.length)(hn:p≠k):((l.set k l[p]).eraseIdx p).Perm (l.eraseIdx k):=by
 have h1:(l[p]::(l.set k l[p]).eraseIdx p).Perm (l.set k l[p]):=by
  have:=TJ (l:=l.set k l[p]) (k:=p) (by simpa using hp)
  rwa [List.getElem_set_ne (λz=>hn z.symm)] at this
 exact(h1.trans (wG hk l[p])).cons_inv
theorem ad0{α:Type}{l:List α}{x:α}:((l++[x]).eraseIdx l.length).Perm l:=by
 rw[List.eraseIdx_append_of_length_le (bu _)];simp
section
open PySem.SeqAt PySem.MeetsSeq PySem.MeetsSeq2 PySem.MeetsSeq3
open PySem.AutoSeq1 (wpAny_loadPart')
inductive uo (A:Around) (s:Shared):List (Value×Value)->List (Bool×Bool)->Prop
 | nil:uo A s [] []
 | cons {u v:Value} {e b:Bool} {r:List (Value×Value)} {ds:List (Bool×Bool)} (he:EqAt A s u v e)
   (hb:e=false->∀(prog:Program) (w:World) (E Q:Value->Shared->Prop),Q (.bool b) s->wpAny (model prog w) A (richCompare .Lt u v) Q E s) (t:uo A s r ds):uo A s ((u,v)::r) ((e,b)::ds)
noncomputable def nG:List (Bool×Bool)->Bool
 | []=>false
 | (e,b)::r=>if e then nG r else b
theorem ad1(l b:Addr)(xs ys:Array Value)(c c2:Nat)(dd oV:Option Addr)(sl lO:Array (Option Value))(hz:xs.size=ys.size) :
  Meets (Builtin.«tuple.__lt__» ⟨[.ref l,.ref b],[]⟩)
   (λA R s=>s.heap.get? l=some { cls:=.type "tuple",dict:=dd,data:=.seq xs c,slots:=sl }/\s.heap.get? b=some { cls:=.type "tuple",dict:=oV,data:=.seq ys c2,slots:=lO }/\
    ∃ds,uo A.in1 s (xs.toList.zip ys.toList) ds/\R (.ok (.ret (.bool (nG ds)))) s) :=
 .of_wp λprog w A R s h=>by
  obtain⟨hp,g,d,tk,os⟩:=s;obtain⟨hl,hb,ds,hd,hR⟩:=h;have sub:=AutoSeq1.sub_tuple_tuple;wp_walk using wpAny_loadPart' hl,wpAny_loadPart' hb,wpAny_forIn_list _ (λrest st s'=>st.1=none/\s' = ⟨hp,g,d,tk,os⟩/\∃Cv,uo A.in1 s' rest Cv/\R (.ok (.ret (.bool (nG Cv)))) s') _
  case turn =>
   rintro⟨y,x⟩ rest st s' ⟨gG,rfl,Cv,fS,Cw⟩;cases fS with
   | @cons _ _ e b _ ds2 he iY t =>
    refine aJ (he prog w _ _ ?_);cases e with
    | true =>
     wp_walk;exact⟨rfl,rfl,ds2,t,by simpa[nG] using Cw⟩
    | false =>
     have GQ:=iY rfl prog w;wp_walk using GQ;exact⟨_,rfl,by simpa[nG] using Cw⟩
  case fin =>
   rintro⟨b1,b2⟩ s' ⟨gG,rfl,Cv,fS,Cw⟩;simp only at gG;subst gG;cases fS;wp_walk;exact⟨_,rfl,by simpa[Builtin.Tuple.tupleCompareSizes,hz,nG] using Cw⟩
  case h=>exact⟨rfl,rfl,ds,hd,hR⟩
end
section
variable{prog:Program}{w:World}{A:Around}{E:Value->Shared->Prop}{s:Shared}
theorem ad2{l b:Addr}{xs ys:Array Value}{ds:List (Bool×Bool)}{Q:Value->Shared->Prop}(hl:IsTup s.heap l xs)(hb:IsTup s.heap b ys)(hz:xs.size=ys.size)
  (hu:A.units<cLine) (hd:uo A.in1 s (xs.toList.zip ys.toList) ds) (h:Q (.bool (nG ds)) s):wpAny (model prog w) A (richCompare .Lt (.ref l) (.ref b)) Q E s:=by
 obtain⟨⟨k1,d1,data1,sl1⟩,ho,hc,n,qy⟩:=id hl;obtain⟨⟨k2,d2,data2,lO⟩,gZ,m_,n2,hd2⟩:=id hb;simp only at hc qy m_ hd2;subst hc qy m_ hd2;exact richCompare_meets_room (op:=.Lt) ⟨_,ho,rfl⟩ ⟨_,gZ,rfl⟩ PySem.F.slot_tuple_lt PySem.F.entry_tuple_lt (PySem.F.args_tuple_lt_2 _ _) (ad1 l b xs ys n n2 d1 d2 sl1 lO hz)
  ⟨ho,gZ,ds,hd,show Value.bool (nG ds)≠Value.notImplemented/\Q (.bool (nG ds)) s from⟨(λx=>nomatch x),h⟩⟩ hu
end
def Ib(H:Hp)(a:Addr)(t:Th):Prop:=∃p,H a=some (.tup [.int t.1,.ref p,.int t.2.2])/\H p=some (.tup (t.2.1.map V.int))
theorem Ic:∀ {ns ms:List Int},ns.map V.int=ms.map V.int->ns=ms
 | [],[],_=>rfl
 | [],_::_,h=>by cases h
 | _::_,[],h=>by cases h
 | a::r,b::q,h=>by
  rw[cH,cH] at h;injection h with h1 h2;injection h1 with h1;rw[h1,Ic h2]
noncomputable instance (a b:Th):Decidable (Ia a b):=by unfold Ia;infer_instance
section
variable{X:Cx}{pins:List (Addr×Obj)}{σ:St}{H:Hp}{s:Shared}
theorem Ie(I:Inv X pins σ H s){A:Around}(hu:A.units+1<cLine){p q:Addr}{ns ms:List Int}(h:H p=some (.tup (ns.map V.int)))(h':H q=some (.tup (ms.map V.int))):SeqAt.EqAt A s (.ref p) (.ref q) (decide (ns=ms)):=by
 by_cases e:p=q
 ·subst e;have:ns=ms:=by
   have z:=h.symm.trans h';injection z with z;injection z with z;exact Ic z
  rw[kO this];exact .same _
 ·refine .of_refs e ?_;obtain⟨aB,r1,q1,_⟩:=I.tuple (aL.of (K:=X.K) h);obtain⟨gc,r2,q2,_⟩:=I.tuple (aL.of (K:=X.K) h');have l1:ns.length=aB.length:=by have:=r1.length;simpa using this
  have l2:ms.length=gc.length:=by have:=r2.length;simpa using this
  have e0:((List.range (min aB.toArray.size gc.toArray.size)).all (λj=>decide (ns[j]? = ms[j]?)) && aB.toArray.size == gc.toArray.size)=decide (ns=ms):=by
   rw[pW];simp only[Bool.and_eq_true,List.all_eq_true,List.mem_range,decide_eq_true_eq,beq_iff_eq,List.size_toArray];constructor
   ·rintro⟨h1,h2⟩;refine List.ext_getElem? λj=>?_
    by_cases hj:j<min aB.length gc.length
    ·exact h1 j hj
    ·rw[sP ∅,sP ∅]
   ·rintro rfl;exact⟨λ_ _=>rfl,∅⟩
  have fin:=SeqAt.RcAt.tuples (A:=A) (s:=s) (e:=λj=>decide (ns[j]? = ms[j]?)) q1 q2 ∅ (λj h1 h2=>?_)
  ·rwa [e0] at fin
  ·have j1:j<ns.length:=by rw[l1];simpa using h1
   have j2:j<ms.length:=by rw[l2];simpa using h2
   obtain⟨u1,g1,w1⟩:=r1.get (show (ns.map V.int)[j]? = some (.int ns[j]) by simp[j1])
   obtain⟨u2,g2,w2⟩:=r2.get (show (ms.map V.int)[j]? = some (.int ms[j]) by simp[j2])
   have e1:aB.toArray[j] = u1:=by
    rw[Bc];exact eN ((bC (by simpa using h1)).symm.trans g1)
   have e2:gc.toArray[j] = u2:=by
    rw[Bc];exact eN ((bC (by simpa using h2)).symm.trans g2)
   obtain⟨t1,rfl⟩:=w1;obtain⟨t2,rfl⟩:=w2;rw[e1,e2];have:=Bx (A:=A.in1) (s:=s) ns[j] t1 ms[j] t2;have e3:(ns[j] == ms[j])=decide (ns[j]? = ms[j]?):=by
    simp only[List.getElem?_eq_getElem j1,List.getElem?_eq_getElem j2,Option.some.injEq];rw[pW];simp
   rwa [e3] at this
end
section
variable{X:Cx}
theorem TM(hu:X.A.units+16<cLine):cC X (compareOp .Eq) (λx y H Q=>∃a b xs,x = .ref a/\y = .ref b/\az X.K H a xs/\az X.K H b []/\Q (.bl xs.isEmpty) H):=by
 rintro pins s σ H x y v u Q I rx ry ⟨a,b,xs,rfl,rfl,ha,hb,q⟩;cases rx;cases ry;obtain⟨aB,r1,p1,z1⟩:=I.list ha;obtain⟨gc,r2,p2,z2⟩:=I.list hb;cases r2;cases r1 with
 | nil =>
  have fin:=SeqAt.RcAt.lists (A:=X.A) (s:=s) (e:=λ_=>true) p1.isList p2.isList rfl ∅ (λj h1 h2=>absurd (show j<0 from h1) ∅)
  exact fin X.prog X.w _ _ ⟨.bl true,H,I,rfl,q⟩
 | cons r t =>
  have fin:=SeqAt.RcAt.lists_lengths (A:=X.A) (s:=s) p1.isList p2.isList (by simp) ∅
  exact fin X.prog X.w _ _ ⟨.bl false,H,I,rfl,q⟩
noncomputable abbrev Zs:=List (Addr×Th)
noncomputable def zV(zs:Zs):List V:=zs.map λz=>V.ref z.1
def TN(H:Hp)(zs:Zs):Prop:=∀z,z∈zs->Ib H z.1 z.2
def TQ:V->List V->Hp->VK->Prop:=λx vs H Q=>∃l a zs t,x = .ref l/\vs = [.ref a]/\H l=some (.lst (zV zs))/\TN H zs/\Ib H a t/\t∈zs.map (·.2)/\
 ∀(k:Nat) (h:k<zs.length),zs[k].2=t->Q .aU (upd H l (.lst (zV (zs.eraseIdx k))))
end
def TR(a b:Addr×Th):Prop:=Ia a.2 b.2
noncomputable instance (a b:Addr×Th):Decidable (TR a b):=by unfold TR;infer_instance
section
variable{H H':Hp}{l a:Addr}{zs ys:Zs}{t:Th}{k:Nat}
theorem wH{n j:Nat}(h:j<n):jr n (j:Int)=some j:=by
 unfold jr;rw[if_pos ∅,if_pos ∅]
 simp
theorem ad3{o:HO}(h:H l=some o):upd H l o=H:=by
 funext b
 by_cases e:b=l
 ·subst e;rw[aE,h]
 ·rw[aI e]
theorem TU{k:Nat}(h:1<=k):((k:Int) - 1) / 2=((par k:Nat):Int):=by
 unfold par;lia
theorem ad4{ns:List Int}(h:1<=ns.length):iG (ns.map V.int) (some 1) none=(ns.drop 1).map V.int:=by
 unfold iG;have e:_H.bQ (ns.map V.int).length 0 (some 1)=1:=by
  simp only[_H.bQ];rw[if_neg ⋯,aM]
  simp;lia
 rw[e,Bd];exact qX (by simp[_H.bQ])
theorem TV{ns:List Int}{k:Int}(h:0<=k):iG (ns.map V.int) none (some k)=(ns.take k.toNat).map V.int:=by
 unfold iG;have e:_H.bQ (ns.map V.int).length 0 none=0:=rfl;have e2:_H.bQ (ns.map V.int).length (ns.map V.int).length (some k)=min k.toNat ns.length:=by
  simp only[_H.bQ];rw[if_neg ∅,aM]
 rw[e,e2,List.drop_zero,List.map_take,Br];by_cases hk:k.toNat<=ns.length
 ·rw[xX hk]
 ·rw[Fx ∅,qX (by simp),qX (by simp;lia)]
end
structure y9(K:W.Frag)(x qual:Str)(st:Stmt)(f:Addr)(fd:FuncData):Prop where
 ex:∃(oc:Value) (od:Option Addr) (dV kV doc pm:Value) (an:Option Addr) (aQ ct:Value) (jJ:Array (Option Value)),
  fd=PySem.W.fnOf x qual (iI st) (gg st) (aV st) dV kV doc pm an aQ ct/\K.lookup f=some ⟨oc,od,.func fd,jJ⟩/\PySem.W.codeIn K aQ qual=true
 kp:PySem.W.keepIn K (.ref f)=true
section
variable{P:Program}{w:World}{K:W.Frag}{mg:Str->Option Value}{base:Heap}
theorem y9.ok{x qual:Str}{st:Stmt}{f:Addr}{fd:FuncData}{N ps:List Str}{k:Nat}{sp:Sp}(F:y9 K x qual st f fd)(S:bH N ps (aV st))(len:∀vs H Q E,sp vs H Q E->vs.length=ps.length)
  (tQ:∀(aQ:Value) (A:Around) (outer:List Env) (s:Shared) (H:Hp) (vs:List V) (Q:VK) (E:XK),dQ k (A.deeper (envOfC qual (aV st) s.heap.objs.size f aQ))->sp vs H Q E->
   ∃t,h_ (qk bw P w K mg base N qual (aV st) f aQ A outer s H E).rz (gg st) t/\t { nx:=λ_ H'=>Q .aU H',rt:=Q } (start N vs) H):aY P w K mg base bw (k+1) f fd ps sp:=by
 obtain⟨oc,od,dV,kV,doc,pm,an,aQ,ct,jJ,rfl,lk,fZ⟩:=F.ex;refine GN lk fZ S len λA outer s H vs Q E hr dF=>?_;obtain⟨t,h,q⟩:=tQ aQ A outer s H vs Q E hr dF;exact⟨t,h.rz,q⟩
theorem TX{x qual:Str}{st:Stmt}{f:Addr}{oc:Value}{od an:Option Addr}{jJ:Array (Option Value)}{dV kV doc pm aQ ct:Value}(l:K.lookup f=some ⟨oc,od,.func (PySem.W.fnOf x qual (iI st) (gg st) (aV st) dV kV doc pm an aQ ct),jJ⟩)
  (c:PySem.W.codeIn K aQ qual=true) (k:PySem.W.keepIn K (.ref f)=true):y9 K x qual st f (PySem.W.fnOf x qual (iI st) (gg st) (aV st) dV kV doc pm an aQ ct):=⟨⟨oc,od,dV,kV,doc,pm,an,aQ,ct,jJ,rfl,l,c⟩,k⟩
end
section
variable{X:Cx}
theorem ad5{xs:List Bool}{aB:List Value}(r:Vals (xs.map V.bl) aB):aB=xs.map Value.bool:=by
 induction xs generalizing aB with
 | nil=>cases r;rfl
 | cons b xs ih =>
  cases r with
  | cons r1 r2=>cases (show _=Value.bool b from r1);rw[ih r2];rfl
theorem ad6(hc:X.calm=true):gY X (.builtin "all") (λxs H Q=>∃(p:Addr) (bs:List Bool),xs = [.ref p]/\az X.K H p (bs.map V.bl)/\Q (.bl (bs.all id)) H):=by
 intro pins s σ H xs us Q I r h;obtain⟨p,bs,rfl,hq,q⟩:=h;obtain⟨u,rfl,ru⟩:=vals1 r;cases ru;obtain⟨aB,rv,pl,hz⟩:=I.list hq;have eb:=ad5 rv;subst eb;have rS:p<s.heap.objs.size:=by obtain⟨_,q1,_⟩:=pl.isList;exact cB q1
 refine call_all_walk (FI pl.isList ?_);refine⟨s.heap.objs.size,[s.heap.objs.size,p],[s.heap.objs.size],(bs.map Value.bool).toArray.size,_,_,λi=>(bs[i]?).getD true,rfl,Walks.list (A:=X.A.in1) (I.ok.hd hc) _ p (cR rS) (bs.map Value.bool).toArray,
  ⟨⟨_,fM _ rfl,rfl,rfl⟩,pl.isList.push _⟩,λi v s2 Q2 E2 hiv hw=>?_,λh' tk hk=>?_⟩
 ·have ad7:(bs.map Value.bool)[i]? = some v:=by simpa using hiv
  obtain⟨b,eb,rfl⟩:=dY ad7;simp only[eb,Option.getD_some] at hw;exact qd hw
 ·have e:((List.range (bs.map Value.bool).toArray.size).all λi=>(bs[i]?).getD true)=bs.all id:=by
   rw[gB,aM];exact LSm.range_all bs
  rw[e];exact⟨.bl (bs.all id),H,I.kept (LSm.kept_iter hk),rfl,q⟩
def TY(ta:TA):TE:=λσ H Q=>ta σ H λvs H1=>∃i j:Int,vs = [.int i,.int j]/\(-1000000000000<i/\i<1000000000000/\-1000000000000<j/\j<1000000000000)/\(j - i).toNat<=1000000/\
 ∀l,H1 l=none->Q (.ref l) (upd H1 l (.lst ((List.range (j - i).toNat).map λ(k:Nat)=>V.int (i+(k:Int)))))
end
section
variable{X:Cx}
def TZ(K:W.Frag):R2:=λx y H Q=>∃l k xs,x = .ref l/\y = .int k/\H l=some (.tup xs)/\xs≠[]/\xs.length<=1000/\1<=k/\k<=1000/\∀p H',aj H H'->H' p=some (.tup (List.replicate k.toNat xs).flatten)->Q (.ref p) H'
end
structure Ak where
 kind:Str
 first:Int
 many:Int
 marks:List Int
 at_:Int
 Cy:Int
 T3:Option Int
 behind:List Int
 early:Bool
noncomputable def jN:Option Int->V
 | none=>.aU
 | some i=>.int i
noncomputable def uq(q:Ak)(m b:Addr):List (Str×V):=[("kind",.str q.kind),("first",.int q.first),("many",.int q.many),("marks",.ref m),("at",.int q.at_),("asker",.int q.Cy),("latest",jN q.T3),("behind",.ref b),("early",.bl q.early)]
structure kB(K:W.Frag)(C:Addr)(H:Hp)(p:Addr)(q:Ak)(m b dx:Addr):Prop where
 o:H p=some (.ins C dx (uq q m b))
 ms:H m=some (.tup (q.marks.map V.int))
 bh:H b=some (.tup (q.behind.map V.int))
theorem kB.same{K:W.Frag}{C:Addr}{H H':Hp}{p:Addr}{q:Ak}{m b dx:Addr}(h:kB K C H p q m b dx)(s:aj H H'):kB K C H' p q m b dx:=⟨s _ _ h.o,s _ _ h.ms,s _ _ h.bh⟩
theorem T4{K:W.Frag}{C:Addr}{H H1:Hp}{x dx m b:Addr}{q:Ak}(s:aj H H1)(nx:H1 x=none)(lW:H1 dx=none)(fV:dx≠x)(hm:H1 m=some (.tup (q.marks.map V.int)))(hb:H1 b=some (.tup (q.behind.map V.int))) :
  aj H (upd (upd (upd H1 dx (.own x)) x (.ins C dx [])) x (.ins C dx (uq q m b)))/\H x=none/\kB K C (upd (upd (upd H1 dx (.own x)) x (.ins C dx [])) x (.ins C dx (uq q m b))) x q m b dx:=by
 have s1:=aj.put (o:=.own x) lW;have nx1:upd H1 dx (.own x) x=none:=by rw[aI (iC fV)];exact nx
 have s2:aj H1 (upd (upd (upd H1 dx (.own x)) x (.ins C dx [])) x (.ins C dx (uq q m b))):=aj.put2 (s1.trans (aj.put nx1)) nx;exact⟨s.trans s2,s.free nx,⟨aE,s2 _ _ hm,s2 _ _ hb⟩⟩
structure o8(ns:List Int):Prop where
 up:ns.Pairwise (· < ·)
 lo:∀n∈ns,0<=n
 hi:∀n∈ns,n<=99
theorem o8.nil:o8 []:=⟨.nil,(λ_ h=>nomatch h),λ_ h=>nomatch h⟩
noncomputable def y_(x:Int)(ns:List Int)(i:Nat):Int:=if i=0 then x else ns.getD (i - 1) 0
theorem o8.step{ns:List Int}(h:o8 ns){i:Nat}{n:Int}(e:ns[i]? = some n):y_ (-1) ns i+1<=n/\n<=99:=by
 refine⟨?_,h.hi n (get_mem e)⟩;unfold y_;split
 ·have:=h.lo n (get_mem e);lia
 ·have hi:=cT e;obtain⟨h1,e1⟩:=iB.mp e;have e2:ns.getD (i - 1) 0=ns[i - 1]:=by simp[List.getD_eq_getElem?_getD,List.getElem?_eq_getElem (show i - 1<ns.length by lia)]
  have:=sQ.mp h.up (i - 1) i ∅ h1 ∅
  rw[e2];lia
theorem ad8{x:Int}{ns:List Int}{i:Nat}{n:Int}(e:ns[i]? = some n):y_ x ns (i+1)=n:=by
 simp[y_,List.getD_eq_getElem?_getD,e]
def Ig(K:W.Frag)(H:Hp)(v:V)(ns:List Int):Prop:=(v = .aU/\ns = [])\/∃a,v = .ref a/\(az K H a (ns.map V.int)\/H a=some (.tup (ns.map V.int)))
structure Cz(first many at_ Cy:Int)(lX:Option Int):Prop where
 f0:0<=first
 f1:first<=1000000
 m0:1<=many
 m1:many<=16
 a0:0<=at_
 a1:at_<=1000000000000
 s0:0<=Cy
 s1:Cy<=20
 l:∀x,lX=some x->0<=x/\x<=10000000000000
def ad9:Sp:=λvs H Q _=>∃(n lo hi:Int) (w:Str),vs = [.int n,.int lo,.int hi,.str w]/\lo<=n/\n<=hi/\Q .aU H
def ad_(K:W.Frag):Sp:=λvs H Q _=>∃(b:Addr) (ns:List Int),vs = [.ref b]/\aL K H b (ns.map V.int)/\o8 ns/\Q .aU H
def aea(K:W.Frag):Sp:=λvs H Q _=>∃(f m a s:Int) (l:Option Int) (b:Addr) (ns:List Int),vs = [.int f,.int m,.int a,.int s,jN l,.ref b]/\Cz f m a s l/\aL K H b (ns.map V.int)/\o8 ns/\Q .aU H
def aeb(K:W.Frag):Sp:=λvs H Q _=>∃(v:V) (ns:List Int),vs = [v]/\Ig K H v ns/\∀b H',aj H H'->H' b=some (.tup (ns.map V.int))->Q (.ref b) H'
def aec(C:Addr):Sp:=λvs H Q _=>∃(p dx:Addr) (v1 v2 v3 v4 v5 v6 v7 v8 v9:V),vs = [.ref p,v1,v2,v3,v4,v5,v6,v7,v8,v9]/\H p=some (.ins C dx [])/\
 Q .aU (upd H p (.ins C dx [("kind",v1),("first",v2),("many",v3),("marks",v4),("at",v5),("asker",v6),("latest",v7),("behind",v8),("early",v9)]))
def aed(K:W.Frag)(C:Addr):Sp:=λvs H Q _=>∃(f m a s:Int) (l:Option Int) (bv:V) (ns:List Int),vs = [.int f,.int m,.int a,.int s,jN l,bv]/\Cz f m a s l/\Ig K H bv ns/\o8 ns/\
 ∀p mk b dx H',aj H H'->H p=none->kB K C H' p ⟨"read",f,m,[],a,s,l,ns,false⟩ mk b dx->Q (.ref p) H'
def aee(K:W.Frag)(C:Addr):Sp:=λvs H Q _=>∃(f a s:Int) (ma:Addr) (ms:List Int) (l:Option Int) (bv:V) (ns:List Int) (e:Bool),vs = [.int f,.ref ma,.int a,.int s,jN l,bv,.bl e]/\az K H ma (ms.map V.int)/\(∀x∈ms,0<=x/\x<=1000000000)/\
 Cz f ms.length a s l/\Ig K H bv ns/\o8 ns/\∀p mk b dx H',aj H H'->H p=none->kB K C H' p ⟨"write",f,ms.length,ms,a,s,l,ns,e⟩ mk b dx->Q (.ref p) H'
noncomputable def CB(x y:Ak):Bool:=decide ((x.kind = "write"\/y.kind = "write")/\x.first<y.first+y.many/\y.first<x.first+x.many)
def aef(K:W.Frag)(C:Addr):Sp:=λvs H Q _=>∃(p r:Addr) (x y:Ak) (m b dx m' b' nA:Addr),vs = [.ref p,.ref r]/\kB K C H p x m b dx/\kB K C H r y m' b' nA/\Q (.bl (CB x y)) H
theorem qz(n:Int):∀ms:List Int,vX (.int n) (ms.map V.int)=decide (n∈ms)
 | []=>rfl
 | m::ms=>by
  have ih:=qz n ms;unfold vX at ih ⊢;rw[cH,u_,ih,pW];simp only[kW,Bool.or_eq_true,beq_iff_eq,decide_eq_true_eq,List.mem_cons];constructor
  ·rintro(h | h)
   ·exact .inl h.symm
   ·exact .inr h
  ·rintro(h | h)
   ·exact .inl h.symm
   ·exact .inr h
theorem wI(ms:List Int):(ms.map V.int).all lQ=true:=by simp[lQ]
theorem aeg{X:Cx}{K:W.Frag}(h:X.K=K):cC X (compareOp .In) (vY K false):=h▸G2
theorem T5{X:Cx}{K:W.Frag}(h:X.K=K):cC X (compareOp .NotIn) (vY K true):=h▸SK
section
variable{K:W.Frag}{tl:TE}{g:TG}{tb:TS}{D:Ends}{σ:St}{H:Hp}
theorem rt(a:Addr)(xs:List V)(Pv:Nat->St->Hp->Prop)(nq:∀Q:VK,Q (.ref a) H->tl σ H Q)(eB:aL K H a xs)(h0:Pv 0 σ H)(hl:∀i σ H,i<=xs.length->Pv i σ H->aL K H a xs)
  (hs:∀i x σ H (N:St->Hp->Prop),(∀σ H,Pv (i+1) σ H->N σ H)->xs[i]? = some x->Pv i σ H->g x σ H λaC H2=>tb { D with nx:=N,ct:=N,bk:=D.nx } aC H2) (hd:∀σ H,Pv xs.length σ H->D.nx σ H):lK (Gn K tl) g tb D σ H :=
 nq _ ⟨a,rfl,⟨xs,eB⟩,abJ Pv h0 hl (λi x σ H hx p=>hs i x σ H _ (λ_ _ z=>z) hx p) hd⟩
end
noncomputable def f2(o:Obj):Option Value:=match o.data with
 | .fields vs=>vs[2]?
 | _=>none
def Dk(h h':Heap):Prop:=∀(b:Nat) (o:Obj),h.objs[b]? = some o->∃o':Obj,h'.objs[b]? = some o'/\o'.dict=o.dict/\f2 o' = f2 o
def aeh(h:Heap)(a:Addr)(od:Option Addr):Prop:=∃oe,h.get? a=some oe/\oe.dict=od.map (· / 2)/\(od.getD 0 % 2=0->f2 oe=some .none)
section
variable{M:Model}{A:Around}{E:Value->Shared->Prop}{s:Shared}{base:Heap}{env:Env}{l outer:List Env}{L e:Addr}{cls a0:Value}{od:Option Addr}{Q:Unit->Shared->Prop}
end
structure Cut(base B:Heap)(outer:List Env)(H H':Hp)(h:Heap):Prop where
 stays:base.StaysIn B
 k1:∀b o,h.get? b=some o->H b=none->b∉iE outer->B.get? b=some o
 k2:∀b u,H' b=some u->∃o,B.get? b=some o
 k3:∀b o,h.get? b=some o->b∉iE outer->∃o',B.get? b=some o'
noncomputable def CX1(P:Program)(w:World)(base:Heap):jq:=λouter H s E e s' =>
 ∃a C a0 H' B od,e = .ref a/\s'.os=s.os/\AllBare s'.gens/\Un (iE outer) [] H H' s.heap s'.heap/\dO P w H' s'.heap/\H' a=none/\s.heap.get? a=none/\
  Cut base B outer H H' s.heap/\Heap.FlyingW B outer a (.ref C) a0 s'.heap/\aeh s'.heap a od/\E (.ref C) od H'
section
variable{P:Program}{w:World}{K:W.Frag}{mg:Str->Option Value}{base B:Heap}{N:List Str}{qual:Str}{scope:Scope}{f:Addr}{cd:Value}{A:Around}{outer:List Env}{eg sc s':Shared}{sZ Hc H':Hp}{E:XK}
 {pins:List (Addr×Obj)} {σ:St} {a C:Addr} {a0:Value} {h':Heap} {od:Option Addr}
end
section
variable{X:Cx}{E:XK}{x:Str}{C:Addr}{bm:List Value}{newId apg B:String}{np iH pos:Pos}{aph:Expr}{rest:List Expr}{t:TA}
end
section
variable{X:Cx}{pins:List (Addr×Obj)}{σ:St}{H H':Hp}{s s':Shared}{a C:Addr}{h':Heap}{E:XK}
end
def XP(P:Program)(w:World)(base:Heap)(X:Cx)(pins:List (Addr×Obj))(σ:St)(E:XK)(e:Value)(s':Shared):Prop:=∃H1 s1,Inv X pins σ H1 s1/\CX1 P w base X.stack H1 s1 E e s'
section
variable{X:Cx}{k:Nat}{f C:Addr}{fd:FuncData}{ps:List Str}{sp:Sp}{cM:List V}{ds:List Value}{E:XK}{x m:Str}{p pos apos:Pos}{e o:Expr}{es:List Expr}{ta:TE}{t:TA}
end
section
variable{X:Cx}{E:XK}{e:Expr}{te:TE}{pos:Pos}
end
section
variable{X:Cx}{pins:List (Addr×Obj)}{σ:St}{a C:Addr}{a0:Value}{H1 H':Hp}{s1 s':Shared}{B h':Heap}{od:Option Addr}
end
section
variable{X:Cx}{pins:List (Addr×Obj)}{σ:St}{H:Hp}{s:Shared}
end
end _L
namespace _L
open PySem PySem.Spec PyProof.Rows PySem.W PySem.Builtin.ObjectAttr PySem.Builtin.Getset_descriptor
section
variable{prog:Program}{w:World}{A:Around}{E:Value->Shared->Prop}{s:Shared}{K:Frag}{x D:Addr}{ox:Obj}{name:Str}
end
section
variable{X:Cx}
end
end _L
namespace _L
open PySem PySem.Spec PyProof.Rows PySem.W
noncomputable def eG{α:Type}(lt:Nat->Nat->Bool):KasT α->α
 | .ret a=>a
 | .ask i j k=>eG lt (k (lt i j))
theorem wJ{α β:Type}{lt:Nat->Nat->Bool}{f:α->KasT β}:∀t:KasT α,eG lt (t.bind f)=eG lt (f (eG lt t))
 | .ret _=>rfl
 | .ask i j k=>wJ (k (lt i j))
section
variable(key:Nat->Int)
noncomputable def kk(p:Array Nat)(i:Nat):Int:=key (p.getD i 0)
noncomputable def klt:Nat->Nat->Bool:=λi j=>decide (key i<key j)
def nH(p:Array Nat)(m:Nat):Prop:=∀i j,i<j->j<m->kk key p i<kk key p j
def zb(p:Array Nat)(m:Nat):Prop:=∀i j,i<j->j<m->kk key p j<kk key p i
def lY(p:Array Nat):Prop:=∀i j,i<p.size->j<p.size->kk key p i=kk key p j->i=j
variable{key}{p:Array Nat}
theorem zd{i j:Nat}(c:kk key p i<kk key p j):klt key (p.getD i 0) (p.getD j 0)=true:=kO c
theorem Ih{p q:Array Nat}{i j:Nat}(h:p[i]? = q[j]?):kk key p i=kk key q j:=by
 unfold kk;rw[qW,qW,h]
theorem Ii{m i:Nat}(hm:m<=p.size)(hi:i<m):kk key (kas_rev p 0 m) i=kk key p (m - 1 - i):=Ih (by
 unfold kas_rev;rw[getElem?_mirror_all hm,if_pos ⟨eL _,hi⟩];congr 1;lia)
theorem Ij:∀(f n:Nat),1<=n->n+f<=p.size->lY key p->nH key p n->n<=eG (klt key) (kas_asc p f n)/\eG (klt key) (kas_asc p f n)<=n+f/\nH key p (eG (klt key) (kas_asc p f n))/\
  (eG (klt key) (kas_asc p f n)<n+f->kk key p (eG (klt key) (kas_asc p f n))<kk key p (eG (klt key) (kas_asc p f n) - 1))
 | 0,n,_,_,_,h=>⟨bu _,bu _,h,λz=>absurd z (lF _)⟩
 | f+1,n,h1,hz,hd,h=>by
  by_cases c:kk key p n<kk key p (n - 1)
  ·have e:eG (klt key) (kas_asc p (f+1) n)=n:=by
    show eG (klt key) (if klt key (p.getD n 0) (p.getD (n - 1) 0)=true then _ else _)=n
    rw[if_pos (zd c)];rfl
   rw[e];exact⟨bu _,∅,h,λ_=>c⟩
  ·have e:eG (klt key) (kas_asc p (f+1) n)=eG (klt key) (kas_asc p f (n+1)):=by
    show eG (klt key) (if klt key (p.getD n 0) (p.getD (n - 1) 0)=true then _ else _)=_
    rw[if_neg (by unfold klt;rw[decide_eq_true_eq];exact c)]
   have hn:kk key p (n - 1)<kk key p n:=by
    have:kk key p (n - 1)≠kk key p n:=λz=>by have:=hd _ _ ∅ ∅ z;lia
    lia
   have h':nH key p (n+1):=λi j nI hj=>by
    by_cases e1:j=n
    ·subst e1;by_cases e2:i=j - 1
     ·subst e2;exact hn
     ·have:=h i (j - 1) ∅ ∅;lia
    ·exact h i j nI ∅
   obtain⟨a,b,c1,c2⟩:=Ij f (n+1) ∅ ∅ hd h'
   rw[e];exact⟨∅,∅,c1,λz=>c2 ∅⟩
theorem T6:∀(f n:Nat),2<=n->n+f<=p.size->lY key p->zb key p n->∃m,eG (klt key) (kas_desc f p n 0)=(p,m,0)/\n<=m/\m<=n+f/\zb key p m
 | 0,n,_,_,_,h=>⟨n,rfl,bu _,bu _,h⟩
 | f+1,n,h1,hz,hd,h=>by
  by_cases c:kk key p n<kk key p (n - 1)
  ·have e:eG (klt key) (kas_desc (f+1) p n 0)=eG (klt key) (kas_desc f p (n+1) 0):=by
    show eG (klt key) (if klt key (p.getD n 0) (p.getD (n - 1) 0)=true then(if 0 > 0 then _ else _) else _)=_
    rw[if_pos (zd c),if_neg ∅]
   have h':zb key p (n+1):=λi j nI hj=>by
    by_cases e1:j=n
    ·subst e1;by_cases e2:i=j - 1
     ·subst e2;exact c
     ·have:=h i (j - 1) ∅ ∅;lia
    ·exact h i j nI ∅
   obtain⟨m,a,b,c1,c2⟩:=T6 f (n+1) ∅ ∅ hd h'
   exact⟨m,e.trans a,∅,∅,c2⟩
  ·have hn:kk key p (n - 1)<kk key p n:=by
    have:kk key p (n - 1)≠kk key p n:=λz=>by have:=hd _ _ ∅ ∅ z;lia
    lia
   refine⟨n,?_,bu _,∅,h⟩
   show eG (klt key) (if klt key (p.getD n 0) (p.getD (n - 1) 0)=true then _ else _)=_
   rw[if_neg (by unfold klt;rw[decide_eq_true_eq];exact c)]
   show eG (klt key) (if klt key (p.getD (n - 1) 0) (p.getD n 0)=true then _ else _)=_
   rw[if_pos (zd hn)];rfl
theorem aei{m:Nat}(hm:m<=p.size)(h:lY key p):lY key (kas_rev p 0 m):=λi j hi hj e=>by
 have hs:(kas_rev p 0 m).size=p.size:=mirror_size _ _ _ _;rw[hs] at hi hj;have at_:∀i,kk key (kas_rev p 0 m) i=kk key p (if i<m then m - 1 - i else i):=λi=>by
  by_cases z:i<m
  ·rw[if_pos z,Ii hm z]
  ·rw[if_neg z];exact Ih (by unfold kas_rev;rw[getElem?_mirror_all hm,if_neg ∅])
 rw[at_,at_] at e;have:=h _ _ (by split <;> lia) (by split <;> lia) e
 split at this <;> split at this <;> lia
theorem aej{n kC:Nat}(h1:1<=n)(hn:n<=kC)(hz:kC<=p.size)(hd:lY key p)(h:zb key p n) :
  ∃m q,eG (klt key) (kas_tail3 n kC p)=(m,q)/\1<=m/\m<=kC/\q.Perm p/\lY key q/\nH key q m:=by
 have fS:=aei (cQ hn hz) hd;have ha:nH key (kas_rev p 0 n) n:=λi j nI hj=>by
  rw[Ii ∅ ∅,Ii ∅ hj]
  exact h _ _ ∅ ∅
 have hs:(kas_rev p 0 n).size=p.size:=mirror_size _ _ _ _;obtain⟨a,b,c,_⟩:=Ij (p:=kas_rev p 0 n) (kC - n) n h1 ∅ fS ha
 exact⟨_,_,by unfold kas_tail3;rw[wJ];rfl,∅,∅,mirror_perm _ _ _ _,fS,c⟩
theorem aek{kC:Nat}(h1:1<=kC)(hz:kC<=p.size)(hd:lY key p) :
  ∃m q,eG (klt key) (kas_count kC p)=(m,q)/\1<=m/\m<=kC/\q.Perm p/\lY key q/\nH key q m:=by
 obtain⟨a,b,c,d⟩:=Ij (p:=p) (kC - 1) 1 ∅ ∅ hd (λi j _ _=>by lia)
 unfold kas_count;rw[wJ];generalize eG (klt key) (kas_asc p (kC - 1) 1)=n at a b c d;by_cases e:n=kC
 ·rw[if_pos (by rw[mR];exact e)]
  exact⟨n,p,rfl,a,∅,E4 _,hd,c⟩
 ·rw[if_neg (by rw[mR];exact e)]
  by_cases g:n > 1
  ·rw[if_pos g];refine⟨n,p,?_,a,∅,E4 _,hd,c⟩
   show eG (klt key) (if klt key (p.getD 0 0) (p.getD (n - 1) 0)=true then _ else _)=_
   rw[if_pos (zd (c _ _ ∅ ∅))];rfl
  ·rw[if_neg g];have en:n=1:=by lia
   subst en;have d1:=d ∅
   have hde:zb key p 2:=λi j nI hj=>by
    have e1:j=1:=by lia
    have e2:i=0:=by lia
    subst e1 e2;exact d1
   obtain⟨m,e1,e2,e3,e4⟩:=T6 (p:=p) (kC - 2) 2 ∅ ∅ hd hde
   unfold kas_descPart;rw[wJ,show (1+1)=2 from rfl,e1];dsimp only;rw[if_neg ∅]
   exact aej ∅ ∅ hz hd e4
theorem Ik{k:Nat}:∀(f l r:Nat),r - l<=f->l<=r->r<=k->k<p.size->lY key p->nH key p k->(∀i,i<l->kk key p i<kk key p k)->(∀i,r<=i->i<k->kk key p k<kk key p i)->
  ∃m,eG (klt key) (kas_place p k f l r)=m/\m<=k/\(∀i,i<m->kk key p i<kk key p k)/\(∀i,m<=i->i<k->kk key p k<kk key p i)
 | 0,l,r,hf,hlr,hr,hk,hd,ha,h1,h2=>⟨l,rfl,∅,h1,λi a b=>h2 i ∅ b⟩
 | f+1,l,r,hf,hlr,hr,hk,hd,ha,h1,h2=>by
  unfold kas_place;by_cases c:l ≥ r
  ·rw[if_pos c];exact⟨l,rfl,∅,h1,λi a b=>h2 i ∅ b⟩
  ·rw[if_neg c]
   show ∃m,eG (klt key) (if klt key (p.getD k 0) (p.getD ((l+r) / 2) 0)=true then _ else _)=m/\_
   have hm:(l+r) / 2<r:=by lia
   have hl:l<=(l+r) / 2:=by lia
   generalize (l+r) / 2=q at hm hl;by_cases d:kk key p k<kk key p q
   ·rw[if_pos (zd d)];refine Ik f l q ∅ hl ∅ hk hd ha h1 λi a b=>?_
    by_cases e:i=q
    ·subst e;exact d
    ·have:=ha q i ∅ b;lia
   ·rw[if_neg (by unfold klt;rw[decide_eq_true_eq];exact d)]
    have hq:kk key p q<kk key p k:=by
     have:kk key p q≠kk key p k:=λz=>by have:=hd _ _ ∅ ∅ z;lia
     lia
    refine Ik f (q+1) r ∅ ∅ hr hk hd ha (λi a=>?_) h2
    by_cases e:i=q
    ·subst e;exact hq
    ·have:=ha i q ∅ ∅;lia
theorem CC{k l i:Nat}(hk:k<p.size)(hl:l<=k):kk key (bubble p k (k - l)) i=kk key p (if i=l then k else if l<i/\i<=k then i - 1 else i):=Ih (by
 rw[getElem?_bubble hk _ ∅,show k - (k - l)=l by lia]
 split
 ·rfl
 ·split <;> rfl)
theorem T7:∀(f:Nat) (p:Array Nat) (k:Nat),k+f=p.size->lY key p->nH key p k->∃q,eG (klt key) (kas_bin f p k)=q/\q.Perm p/\nH key q p.size
 | 0,p,k,hz,hd,ha=>⟨p,rfl,E4 _,by rw[← hz];exact ha⟩
 | f+1,p,k,hz,hd,ha=>by
  obtain⟨l,e,hl,h1,h2⟩:=Ik (p:=p) (k:=k) k 0 k ∅ ∅ (bu _) ∅ hd ha (λi z=>by lia) (λi a b=>by lia)
  unfold kas_bin;rw[wJ,e];have hs:(bubble p k (k - l)).size=p.size:=bubble_size _ _ _;have fS:lY key (bubble p k (k - l)):=λi j hi hj z=>by
   rw[hs] at hi hj;rw[CC ∅ hl,CC ∅ hl] at z
   have:=hd _ _ (by split;lia;split <;> lia) (by split;lia;split <;> lia) z
   repeat' split at this
   all_goals lia
  have ha':nH key (bubble p k (k - l)) (k+1):=λi j nI hj=>by
   rw[CC ∅ hl,CC ∅ hl]
   by_cases e1:i=l
   ·rw[if_pos e1,if_neg ∅,if_pos ∅]
    exact h2 _ ∅ ∅
   ·rw[if_neg e1];by_cases e2:j=l
    ·rw[if_neg ∅,if_pos e2]
     exact h1 _ ∅
    ·rw[if_neg e2];split <;> split
     ·exact ha _ _ ∅ ∅
     ·exact ha _ _ ∅ ∅
     ·exact ha _ _ ∅ ∅
     ·exact ha _ _ ∅ ∅
  obtain⟨q,e3,e4,e5⟩:=T7 f (bubble p k (k - l)) (k+1) ∅ fS ha'
  exact⟨q,e3,e4.trans (bubble_perm _ _ _),by rw[hs] at e5;exact e5⟩
theorem ael{n:Nat}(h1:1<=n)(hi:∀i j,i<n->j<n->key i=key j->i=j):∃q,eG (klt key) (kas_sort n)=q/\q.Perm (List.toArray (List.range n))/\nH key q n:=by
 have T8:∀i,i<n->(List.toArray (List.range n)).getD i 0=i:=λi h=>by
  rw[qW];simp[h]
 have hd:lY key (List.toArray (List.range n)):=λi j gh kD e=>by
  have a:i<n:=by simpa using gh
  have b:j<n:=by simpa using kD
  unfold kk at e;rw[T8 i a,T8 j b] at e;exact hi i j a b e
 have hz:(List.toArray (List.range n)).size=n:=by simp
 obtain⟨m,q,e1,e2,e3,e4,e5,e6⟩:=aek (p:=List.toArray (List.range n)) h1 ∅ hd
 have hq:q.size=n:=by rw[e4.size_eq,hz]
 unfold kas_sort;rw[wJ,e1];by_cases c:m<n
 ·rw[if_pos c];have em:max m 1=m:=by lia
  rw[em];obtain⟨q',a,b,d⟩:=T7 (n - m) q m ∅ e5 e6
  exact⟨q',a,b.trans e4,by rw[hq] at d;exact d⟩
 ·rw[if_neg c];have:m=n:=by lia
  subst this;exact⟨q,rfl,e4,e6⟩
end
section
variable{prog:Program}{w:World}{A:Around}{E:Value->Shared->Prop}{s:Shared}
def Il(h:Heap)(a:Addr)(d r:Int):Prop:=∃o t u n,h.get? a=some o/\o.cls = .type "tuple"/\o.data = .seq #[.int d t,.int r u] n
theorem aem{x y:Addr}{d1 r1 d2 r2:Int}{Q:Bool->Shared->Prop}(hx:Il s.heap x d1 r1)(hy:Il s.heap y d2 r2)(h:Q (decide (d1<d2\/(d1=d2/\r1<r2))) s) :
  wpAny (model prog w) A (keyLt' (tuples' true) (.ref x) (.ref y)) Q E s:=by
 obtain⟨ox,t1,u1,n1,ex,_,dx⟩:=hx;obtain⟨oy,t2,u2,n2,ey,_,dy⟩:=hy;refine kat_lt ex dx ey dy (kat_cons (FF ?_));by_cases e:d1=d2
 ·subst e;rw[FE];refine kat_yes (kat_cons (FF ?_));by_cases e2:r1=r2
  ·subst e2;rw[FE];refine kat_yes (kat_nil ?_);have z:decide (d1<d1\/(d1=d1/\r1<r1))=decide ((#[Value.int d1 t1,Value.int r1 u1]:Array Value).size<(#[Value.int d1 t2,Value.int r1 u2]:Array Value).size):=by
    rw[By];simp
   rw[← z];exact h
  ·rw[lI.mpr e2];refine kat_no ?_
   show wpAny _ _ (oneLt' false _ _) _ _ _;refine kat_one _ _ (lt_int ?_);have z:decide (d1<d1\/(d1=d1/\r1<r2))=decide (r1<r2):=by rw[By];simp
   rw[z] at h;exact h
 ·rw[lI.mpr e];refine kat_no ?_
  show wpAny _ _ (oneLt' true _ _) _ _ _;refine oneLt_int ?_;have z:decide (d1<d2\/(d1=d2/\r1<r2))=decide (d1<d2):=by rw[By];simp[e]
  rw[z] at h;exact h
def CF(h:Heap)(ks:List Value)(kv:List (Int×Int)):Prop:=ks.length=kv.length/\∀i (hi:i<kv.length),∃a,ks.getD i Value.none = .ref a/\Il h a (kv[i]).1 (kv[i]).2
noncomputable def lZ(kv:List (Int×Int))(i:Nat):Int:=(kv.getD i (0,0)).1*64+(kv.getD i (0,0)).2
theorem aen{ks:List Value}{kv:List (Int×Int)}{i j:Nat}{C:Bool->Shared->Prop}(hk:CF s.heap ks kv)(hb:∀q∈kv,0<=q.2/\q.2<64)(hi:i<kv.length)(hj:j<kv.length)(h:C (klt (lZ kv) i j) s) :
  kas_ask prog w A (tuples' true) ks i j C s:=by
 obtain⟨a,ea,pa⟩:=hk.2 i hi;obtain⟨b,eb,pb⟩:=hk.2 j hj;unfold kas_ask;rw[ea,eb];have h1:=hb _ (cI hi);have h2:=hb _ (cI hj);have z:klt (lZ kv) i j=decide ((kv[i]).1<(kv[j]).1\/((kv[i]).1=(kv[j]).1/\(kv[i]).2<(kv[j]).2)):=by
  unfold klt lZ;rw[By,show kv.getD i (0,0)=kv[i] by simp[hi],show kv.getD j (0,0)=kv[j] by simp[hj]]
  constructor
  ·intro q;lia
  ·intro q;lia
 rw[z] at h;exact aem pa pb h
end
noncomputable def KB{α:Type}(n:Nat)(P:α->Prop):KasT α->Prop
 | .ret a=>P a
 | .ask i j k=>i<n/\j<n/\∀b,KB n P (k b)
theorem KB.bind{α β:Type}{n:Nat}{P:α->Prop}{R:β->Prop}{f:α->KasT β}(hf:∀a,P a->KB n R (f a)):∀t:KasT α,KB n P t->KB n R (t.bind f)
 | .ret a,h=>hf a h
 | .ask i j k,h=>⟨h.1,h.2.1,λb=>KB.bind hf (k b) (h.2.2 b)⟩
theorem T9{α:Type}{n:Nat}{P:α->Prop}{cmp:Nat->Nat->(Bool->Shared->Prop)->Shared->Prop}{lt:Nat->Nat->Bool}{s:Shared}(hc:∀i j C,i<n->j<n->C (lt i j) s->cmp i j C s) :
  ∀(t:KasT α) (Q:α->Shared->Prop),KB n P t->Q (eG lt t) s->t.kasWp cmp Q s
 | .ret _,_,_,h=>h
 | .ask i j k,Q,z,h=>hc i j _ z.1 z.2.1 (T9 hc (k (lt i j)) Q (z.2.2 _) h)
def AllLt(n:Nat)(p:Array Nat):Prop:=0<n/\∀x∈p.toList,x<n
section
variable{n:Nat}{p q:Array Nat}
theorem AllLt.at(h:AllLt n p)(i:Nat):p.getD i 0<n:=by
 rw[qW];cases e:p[i]? with
 | none=>exact h.1
 | some x=>exact h.2 x (g_ (by rw[← pU] at e;exact e))
theorem AllLt.perm(h:AllLt n p)(e:q.Perm p):AllLt n q:=⟨h.1,λx hx=>h.2 x (e.toList.mem_iff.mp hx)⟩
theorem AllLt.rev(h:AllLt n p)(i j:Nat):AllLt n (kas_rev p i j):=h.perm (mirror_perm _ _ _ _)
theorem Im(h:AllLt n p):∀f m,KB n (λ_=>True) (kas_asc p f m)
 | 0,_=>trivial
 | f+1,m=>⟨h.at _,h.at _,λb=>by
  show KB n _ (if b=true then _ else _)
  cases b
  ·exact Im h f (m+1)
  ·trivial⟩
theorem CG:∀(f:Nat) (p:Array Nat) (m q:Nat),AllLt n p->KB n (λr=>AllLt n r.1) (kas_desc f p m q)
 | 0,p,_,_,h=>h
 | f+1,p,m,q,h=>⟨h.at _,h.at _,λb=>by
  show KB n _ (if b=true then(if q > 0 then _ else _) else _)
  cases b
  ·refine⟨h.at _,h.at _,λd=>?_⟩
   show KB n _ (if d=true then _ else _)
   cases d
   ·exact CG f p _ _ h
   ·exact h
  ·rw[if_pos rfl];split
   ·exact CG f _ _ _ (h.rev _ _)
   ·exact CG f _ _ _ h⟩
theorem T_{m r:Nat}(h:AllLt n p):KB n (λr=>AllLt n r.2) (kas_tail3 m r p):=by
 unfold kas_tail3;refine KB.bind (P:=λ_=>True) (λa _=>?_) _ (Im (h.rev _ _) _ _)
 show AllLt n _;exact h.rev _ _
theorem Ua{m r:Nat}(h:AllLt n p):KB n (λr=>AllLt n r.2) (kas_descPart m r p):=KB.bind (λa ha=>by
 split
 ·exact T_ (ha.rev _ _)
 ·exact T_ ha) _ (CG _ _ _ _ h)
theorem aeo{r:Nat}(h:AllLt n p):KB n (λr=>AllLt n r.2) (kas_count r p):=KB.bind (λm _=>by
 split
 ·exact h
 ·split
  ·refine⟨h.at _,h.at _,λb=>?_⟩
   show KB n _ (if b=true then _ else _)
   cases b
   ·exact Ua (h.rev _ _)
   ·exact h
  ·exact Ua h) _ (Im h _ _)
theorem Io{k:Nat}(h:AllLt n p):∀f l r,KB n (λ_=>True) (kas_place p k f l r)
 | 0,_,_=>trivial
 | f+1,l,r=>by
  unfold kas_place;split
  ·trivial
  ·refine⟨h.at _,h.at _,λb=>?_⟩
   show KB n _ (if b=true then _ else _)
   cases b
   ·exact Io h f _ _
   ·exact Io h f _ _
theorem Ub:∀(f:Nat) (p:Array Nat) (k:Nat),AllLt n p->KB n (AllLt n) (kas_bin f p k)
 | 0,_,_,h=>h
 | f+1,p,k,h=>KB.bind (λl _=>Ub f _ _ (h.perm (bubble_perm _ _ _))) _ (Io h _ _ _)
theorem aep(h:1<=n):KB n (AllLt n) (kas_sort n):=KB.bind (λr hr=>by
 split
 ·exact Ub _ _ _ hr
 ·exact hr) _ (aeo ⟨h,λx hx=>by simpa using hx⟩)
end
theorem aer{prog:Program}{w:World}{A:Around}{s:Shared}{ks:List Value}{kv:List (Int×Int)}{Q:Array Nat->Shared->Prop}(h1:1<=kv.length)(hk:CF s.heap ks kv)(hb:∀q∈kv,0<=q.2/\q.2<64)(hd:kv.Nodup)
  (h:∀p:Array Nat,p.Perm (List.toArray (List.range kv.length))->(∀i j,i<j->j<kv.length->lZ kv (p.getD i 0)<lZ kv (p.getD j 0))->Q p s) :
  (kas_sort kv.length).kasWp (kas_ask prog w A (tuples' true) ks) Q s:=by
 have hi:∀i j,i<kv.length->j<kv.length->lZ kv i=lZ kv j->i=j:=λi j a b e=>by
  unfold lZ at e;rw[show kv.getD i (0,0)=kv[i] by simp[a],show kv.getD j (0,0)=kv[j] by simp[b]] at e
  have z1:=hb _ (cI a);have z2:=hb _ (cI b);have e1:(kv[i]).1=(kv[j]).1:=by lia
  have e2:(kv[i]).2=(kv[j]).2:=by lia
  exact(List.getElem_inj hd).mp (qZ e1 e2)
 obtain⟨q,e,hp,ha⟩:=ael (key:=lZ kv) h1 hi;exact T9 (lt:=klt (lZ kv)) (λi j C a b c=>aen hk hb a b c) _ _ (aep h1) (by rw[e];exact h q hp ha)
end _L
namespace _L
open PySem PySem.Spec PyProof.Rows
theorem aes{X:Cx}{st:Stmt}{h₀:ExceptHandler}{hs:List ExceptHandler}{pos:Pos}{t:TS}(hx:X.xe=λ_ _=>False)(hb:PS X st t):PS X (.Try [st] (h₀::hs) [] [] pos) t:=by
 intro pins s σ H D I h;refine wpAny_Try_except (FG (iS (hb pins s σ H D I h) (λf s1 q=>?_) λe s' z=>?_))
 ·cases f with
  | next=>exact vE (vE q)
  | ret v=>exact q
  | brk=>exact q
  | cont=>exact q
 ·rw[hx] at z;exact False.elim z
theorem aet{X:Cx}{K:W.Frag}{e:Expr}{f:Str}{pos:Pos}{ta:TE}(h:X.K=K)(he:PE X e ta)(hb:attributeBase e f X.env (eval e X.env)=eval e X.env):PE X (.Attribute e f pos) (BZ K ta f):=h▸Sh he hb
section
variable{K:W.Frag}{C:Addr}{H H':Hp}{l:Addr}{ps:List Addr}{qs:List Ak}
structure Ip(T:Int)(q:Ak):Prop where
 f0:0<=q.first
 m0:0<=q.many
 m1:q.many<=16
 fit:q.first+q.many<=T
end
noncomputable abbrev Iq(qual:Str)(scope:Scope)(L f c':Addr)(cl:List (Str×Addr)):Env:=PySem.W.envX qual scope L f (.ref c') cl
noncomputable def ze(X:Cx)(A:Around)(qual:Str)(scope:Scope)(f c':Addr)(cl:List (Str×Addr))(N:List Str)(s:Shared)(H:Hp):Cx where
 prog:=X.prog
 w:=X.w
 K:=X.K
 mg:=X.mg
 base:=X.base
 A:=A.deeper (Iq qual scope s.heap.objs.size f c' cl)
 N:=N
 eg:=s
 sZ:=H
 env:=Iq qual scope s.heap.objs.size f c' cl
 outer:=X.stack
 stack:=Iq qual scope s.heap.objs.size f c' cl::X.stack
 ex:=[]
 fn:=λ_=>false
 calm:=X.calm
 pn:=[]
 xe:=λ_ _=>False
structure nJ(X:Cx)(scope:Scope)(cl:List (Str×Addr))(ps fs:List Str)(fv:List Nat):Prop where
 o9:closureFor scope X.env=pure cl
 kind:scope.kind = .function
 co:scope.isCoroutine=false
 gen:scope.isGenerator=false
 zf:∀y∈scope.names,y.2≠.cell
 par:∀y∈ps,scope.names.lookup y=some .local
 sub:∀p∈cl,X.env.cells.lookup p.1=some p.2
 has:∀y∈scope.names,y.2 = .free->∃c,cl.lookup y.1=some c
 free:fv.map (λj=>X.N[j]?)=fs.map some
 fk:∀y∈fs,scope.names.lookup y=some .free/\X.env.scope.names.lookup y=some .cell
 nd:(ps++fs).Nodup
theorem Uc{α:Type}:∀ {l:List (Str×α)} {x:Str} {v:α},(l.map (·.1)).Nodup->(x,v)∈l->l.lookup x=some v
 | (y,u)::r,x,v,nd,hm=>by
  rw[cH,kN] at nd;rcases b_.mp hm with e | e
  ·cases e;simp[List.lookup_cons]
  ·have:x≠y:=λz=>nd.1 (by rw[← z];exact dh.mpr ⟨_,e,rfl⟩)
   rw[vg,lI.mpr this];exact Uc nd.2 e
section
variable{X:Cx}{pins:List (Addr×Obj)}{σ:St}{H:Hp}{s:Shared}{scope:Scope}{cl:List (Str×Addr)}{ps fs:List Str}{fv:List Nat}{A:Around}{qual:Str}{f c':Addr}
noncomputable def rT(σ:St)(vs:List V)(fv:List Nat):St:=vs.map some++fv.map λj=>(σ[j]?).getD none
theorem nJ.cell(S:nJ X scope cl ps fs fv){x:Str}{c:Addr}(e:cl.lookup x=some c):X.env.cells.lookup x=some c:=S.sub (x,c) (qp e)
theorem aeu{ps:List Str}{us:List Value}{i:Nat}{x:Str}{u:Value}(nd:ps.Nodup)(e1:ps[i]? = some x)(e2:us[i]? = some u):(ps.zip us).reverse.lookup x=some u:=by
 have Ir:((ps.zip us).reverse.map (·.1)).Nodup:=by
  rw[List.map_reverse];refine List.pairwise_reverse.mpr (A7 iC (show ((ps.zip us).map (·.1)).Nodup from ?_));have:(ps.zip us).map (·.1)=ps.take us.length:=by
   clear e1 e2 nd
   induction ps generalizing us with
   | nil=>simp
   | cons a r ih=>cases us with
    | nil=>simp
    | cons b q=>simp[ih]
  rw[this];exact nd.sublist (Fv _ _)
 have hm:(x,u)∈(ps.zip us).reverse:=by
  rw[List.mem_reverse];refine g_ (i:=i) ?_;rw[List.getElem?_zip_eq_some];exact⟨e1,e2⟩
 exact Uc Ir hm
theorem nJ.inv(S:nJ X scope cl ps fs fv)(I:Inv X pins σ H s)(hA:A.frames=some X.stack)(hd:X.calm=true->A.handled=none){h1:Heap}{tk:Nat}{us:List Value}{vs:List V}(r:Vals vs us)(hl:vs.length=ps.length)
  (old:∀b o,s.heap.get? b=some o->h1.get? b=some o) (nh:h1.Ns s.heap.objs.size λy=>(ps.zip us).reverse.lookup y) :
  Inv (ze X A qual scope f c' cl (ps++fs) s H) [] (rT σ vs fv) H { s with heap:=h1,toks:=tk }:=by
 have I1:Inv X pins σ H { s with heap:=h1,toks:=tk }:=I.kept old;have hlen:fv.length=fs.length:=by simpa using fR List.length S.free
 refine⟨⟨I.ok.mod,S.kind,rfl,rfl,bu _,λx y c e1 e2=>I.ok.inj x y c (S.cell e1) (S.cell e2),λx hx=>?_,λx c z _=>?_,hd,Around.frames_deeper hA,.inr ⟨rfl,rfl⟩,λb z=>absurd (show b∈([]:List Addr) from z) (by simp),I.bs,cQ I.ok.iU I.sz,
  λb _ _ z=>absurd (show b∈([]:List Addr) from z) (by simp),λb z=>absurd (show b∈([]:List Addr) from z) (by simp),I.stack,I.FO⟩,rfl,I.bare,Un.kept old,⟨_,nh,λi x v e1 e2 e3=>?_⟩,λx c e=>?_,I.aO.fresh (bu _),λx c e=>I.mU x c (S.cell e),
  λp hp=>absurd (show p∈([]:List (Addr×Obj)) from hp) (by simp),I1.aO,?_⟩
 ·have hx:scope.names.lookup x=some .cell\/scope.names.lookup x=some .free:=hx;rcases hx with z | z
  ·exact absurd rfl (S.zf _ (qp z))
  ·exact S.has _ (qp z) rfl
 ·cases (show false=true from z)
 ·have e1:(ps++fs)[i]? = some x:=e1;unfold rT at e2;by_cases hi:i<ps.length
  ·rw[d9 hi] at e1;rw[d9 (by simp;lia),jZ] at e2
   cases hv:vs[i]? with
   | none=>rw[hv] at e2;simp at e2
   | some v' =>
    rw[hv] at e2;simp only[Option.map_some,Option.some.injEq] at e2;subst e2;obtain⟨u,hu,ru⟩:=r.get hv;exact⟨u,ru,.inl ⟨S.par x (g_ e1),aeu (List.nodup_append.mp S.nd).1 e1 hu⟩⟩
  ·rw[d_ ∅] at e1
   rw[d_ (by simp;lia)] at e2
   simp only[List.length_map,List.getElem?_map,hl] at e2;cases hj:fv[i - ps.length]? with
   | none=>rw[hj] at e2;simp at e2
   | some j =>
    rw[hj] at e2;simp only[Option.map_some,Option.some.injEq] at e2;have hN:X.N[j]? = some x:=by
     have q:=fR (λl=>l[i - ps.length]?) S.free;simp only[List.getElem?_map,hj,Option.map_some] at q;rw[e1] at q;exact(eN q)
    have Iu:σ[j]? = some (some v):=by
     cases z:σ[j]? with
     | none=>rw[z] at e2;simp at e2
     | some y=>rw[z] at e2;simp at e2;rw[e2]
    obtain⟨f1,f2⟩:=S.fk x (g_ e1);obtain⟨m,hn,hlk⟩:=I1.loc;obtain⟨u,ru,lk⟩:=hlk j x v hN Iu (.inr (.inl f2));refine⟨u,ru,?_⟩;rcases lk with⟨k,_⟩ | ⟨_,c,ec,hc⟩
    ·have k:X.env.scope.names.lookup x=some .local:=k;rw[f2] at k;cases k
    ·obtain⟨c2,e'⟩:=S.has _ (qp f1) rfl;have:=S.cell e';rw[ec] at this;cases this;exact .inr ⟨.inr f1,c,e',hc⟩
 ·obtain⟨v,z⟩:=I1.cell x c (S.cell e);exact⟨v,z⟩
 ·unfold rT
  show _=(ps++fs).length;simp only[List.length_append,List.length_map];lia
theorem aev{name:Str}{params:Arguments}{body:Expr}{te:TE}{pm fu:Value}{us:List Value}{vs:List V}{Q:VK}(S:nJ X scope cl ps fs fv)(I:Inv X pins σ H s)(hA:A.frames=some X.stack)(hd:X.calm=true->A.handled=none)(o_:A.depth<recursionLimit)
  (ho:s.heap.get? f=some (PySem.W.kla_obj name qual params body scope cl pm c' fu)) (fZ:s.heap.CodeRec (.ref c') qual)
  (lV:bindArgs (PySem.W.kla_fn name qual params body scope cl pm (.ref c') fu) ⟨us,[]⟩=pure (ps.zip us)) (r:Vals vs us) (hl:vs.length=ps.length)
  (he:PE (ze X A qual scope f c' cl (ps++fs) s H) body te) (h:te (rT σ vs fv) H Q) :
  wpAny (model X.prog X.w) A (call (.ref f) us) (λu s'=>∃v H',Inv X pins σ H' s'/\RelV v u/\Q v H'/\Un (iE X.stack) [] H H' s.heap s'.heap) (λ_ _=>False) s:=by
 refine wpAny_call (PySem.W.kla_callFunE (A:=A) o_ ho rfl S.co S.gen rfl fZ ?_);rw[lV];refine bq (wpAny_newFunctionEnv S.zf (λy hy=>S.par _ (Bk hy).1) (λh1 nh Ud=>⟨(I.nolimit).fresh _ Ud,?_⟩) S.kind);have old:∀b o,s.heap.get? b=some o->h1.get? b=some o:=λb o e=>Ud.extBut b o (cR (cB e)) (cK _ e);have J:=S.inv (qual:=qual) (f:=f) (c':=c') (A:=A) (tk:=s.toks+(ps.zip us).length) I hA hd r hl old nh;refine PySem.W.kla_codeExpr (iS (he [] _ _ _ Q J h) (λu s' hq=>?_) λ_ _ z=>False.elim z);obtain⟨v,H',J',rv,q⟩:=hq;exact⟨v,H',I.RP J'.os J'.base J'.aO J'.bare (λ_ z=>nomatch z),rv,q,J'.base⟩
end
noncomputable def rW(c':Addr)(qual:Str):HO:=.ext λh=>h.CodeRec (.ref c') qual
def cY(P:Addr)(pos:Pos)(qual:Str)(H:Hp):Prop:=∃ps,H P=some (.fY ps)/\TriplesOk ps.toList/\(codeAmong pos ps.toList=none\/∃c',codeAmong pos ps.toList=some (.ref c')/\H c' = some (rW c' qual))
structure bF(mg:Str->Option Value)(base:Heap)(c P:Addr):Prop where
 hd:PySem.W.CodeHd base c P
 bm:∃bm ob,mg "__builtins__" = some (.ref bm)/\bm≠builtinsNs/\base.get? bm=some ob/\ob.cls = .type "module"/\ob.dict=some builtinsNs/\ob.data = .plain
theorem aew{P:Program}{w:World}{H:Hp}{h:Heap}{c':Addr}{qual:Str}(x:h.CodeRec (.ref c') qual):eF P w H h c' (rW c' qual):=by
 refine⟨x,?_,λh1 h2 y k=>?_⟩
 ·obtain⟨c,o,vs,t,e,g,_⟩:=x;cases e;exact⟨o,g⟩
 ·obtain⟨c,o,vs,t,e,g,r⟩:=y;cases e;exact⟨c',o,vs,t,rfl,k o g,r⟩
theorem aex{P:Program}{w:World}{H:Hp}{h:Heap}{c':Addr}{qual:Str}(x:dO P w H h)(e:H c' = some (rW c' qual)):h.CodeRec (.ref c') qual:=(x c' _ e).1
theorem Ue{a b:Int}{t u:Tok}{c:Value}:∀ {l:List Value},TriplesOk l->TriplesOk (l++[.int a t,.int b u,c])
 | [],_=>trivial
 | .int _ _::.int _ _::_::r,h=>Ue (l:=r) h
section
variable{X:Cx}{pins:List (Addr×Obj)}{σ:St}{H:Hp}{s:Shared}{scope:Scope}{cl:List (Str×Addr)}{M:Model}{A:Around}{E:Value->Shared->Prop}{name qual:Str}{params:Arguments}{body:Expr}{pos:Pos}{firstLine:Nat}{c P:Addr}
theorem aey{Q:Value->Shared->Prop}(B:bF X.mg X.base c P)(wK:X.env.code = .ref c)(l6:closureFor scope X.env=pure cl)(I:Inv X pins σ H s)(hT:cY P pos qual H)
  (h:∀(f c':Addr) (fu pm:Value) (H':Hp) (s':Shared),Inv X ((f,PySem.W.kla_obj name qual params body scope cl pm c' fu)::pins) σ H' s'->SameBut P H H'->cY P pos qual H'->H' c' = some (rW c' qual)->Q (.ref f) s') :
  wpAny M A (makeFunction name qual params (.expr body) scope X.env [] [] [] pos firstLine) Q E s:=by
 obtain⟨ps,hP,tr,hc⟩:=hT;have oP:s.heap.get? P=some (PySem.W.tabObj ps):=I.aO P _ hP;have Iv:s.heap.Ns mainGlobals X.mg:=I.mod.glob.keeps I.bk;obtain⟨bm,ob,b1,b2,b3,b4,b5,b6⟩:=B.bm;have hgP:mainGlobals≠P:=λq=>by
  obtain⟨o,es,ep,e,hd,_⟩:=Iv;rw[q,oP] at e;cases e;cases hd
 have hbP:bm≠P:=λq=>by
  have e:=I.bk _ _ b3;rw[q,oP] at e;cases e;cases b4
 have hbG:bm≠mainGlobals:=λq=>by
  obtain⟨o,es,ep,e,hd,_⟩:=I.mod.glob;rw[q,e] at b3;cases b3;rw[hd] at b6;cases b6
 have Ug:s.heap.BuiltinsAt X.mg P:=⟨bm,ob,b1,b2,hbG,hbP,I.bk _ _ b3,b4,b5,b6⟩;have nf:∀(h1:Heap) (o:Obj),s.heap.objs.size<=h1.objs.size->(h1.push o).get? h1.objs.size=some o->True:=λ_ _ _ _=>trivial;have LP:X.env.locals≠P:=λz=>by rw[← z,I.free] at hP;cases hP
 rcases hc with hc | ⟨c',hc,Uh⟩
 ·refine PySem.W.kla_makeFunction (mg:=X.mg) l6 I.ok.glob Iv wK (B.hd.keeps I.bk) oP tr hc hgP Ug λc' fu h1 tk hx CH cE aez htb=>?_;have nc:H c' = none:=I.aO.fresh CH;have cP:c'≠P:=λz=>by rw[z,hP] at nc;cases nc
  have kp:∀b o,b≠P->s.heap.get? b=some o->(h1.push (PySem.W.kla_obj name qual params body scope cl ((X.mg "__name__").getD .none) c' fu)).get? b=some o:=λb o hb e=>cK _ (hx b o hb e);have Ui:=cK (PySem.W.kla_obj name qual params body scope cl ((X.mg "__name__").getD .none) c' fu) htb;have wL:∀b u,H b=some u->b≠P->upd (upd H P (.fY (ps ++ #[rawInt pos.line,rawInt pos.col,.ref c']))) c' (rW c' qual) b=some u:=λb u e hb=>by
   rw[aI (λz=>by rw[z,nc] at e;cases e),aI hb];exact e
  have I1:Inv X pins σ (upd (upd H P (.fY (ps ++ #[rawInt pos.line,rawInt pos.col,.ref c']))) c' (rW c' qual)) { s with heap:=h1.push (PySem.W.kla_obj name qual params body scope cl ((X.mg "__name__").getD .none) c' fu),toks:=tk }:=by
   refine I.step (g':=s.gens) (d':=s.drawn) (ch:=[]) (λ_ z=>nomatch z) (λb o _ _ _ e n=>kp b o (λz=>by rw[z,hP] at n;cases n) e) (λb o _ _ _ e n=>⟨o.slots,kp b o (λz=>by rw[z,hP] at n;cases n) e⟩) (λb o _ e n=>?_)
    (λb o _ e=>?_) (λb xs e=>wL b _ e (λz=>by rw[z,hP] at e;cases e)) (λb o u e=>wL b _ e (λz=>by rw[z,hP] at e;cases e)) (λb eY e=>?_) (λm hm=>(hm.extBut hx LP).push _) (λb v e=>?_) I.bare
   ·rw[aI (λz=>absurd (gW (cB e) CH) (by rw[z];exact lF _)),aI (λz=>by rw[z,hP] at n;cases n)];exact n
   ·by_cases hb:b=P
    ·rw[hb];exact⟨_,Ui⟩
    ·exact⟨o,kp b o hb e⟩
   ·by_cases hb:b=P
    ·subst hb;rw[hP] at e;cases e;exact⟨#[rawInt pos.line,rawInt pos.col,.ref c'],by rw[aI cP.symm,aE]⟩
    ·exact⟨#[],by rw[Array.append_empty];exact wL b _ e hb⟩
   ·by_cases Uj:b=c'
    ·subst Uj;rw[aE] at e;cases e;exact aew (aez.push _)
    ·rw[aI Uj] at e;by_cases hb:b=P
     ·subst hb;rw[aE] at e;cases e;exact Ui
     ·rw[aI hb] at e;refine(I.aO b v e).mT (λd o hd q=>kp d o ?_ q) (λd q=>wL d _ q (λz=>by rw[z,hP] at q;cases q)) (λd xs q=>wL d _ q (λz=>by rw[z,hP] at q;cases q))
      rcases hd with z | z
      ·rw[z];exact hb
      ·exact λy=>by rw[y,hP] at z;cases z
  have of:=fM h1 (o:=PySem.W.kla_obj name qual params body scope cl ((X.mg "__name__").getD .none) c' fu) rfl;have Iw:s.heap.objs.size<=h1.objs.size:=by lia
  refine h h1.objs.size c' fu ((X.mg "__name__").getD .none) _ _ (I1.oK λp hp=>?_) ?_ ⟨_,by rw[aI cP.symm,aE],?_,.inr ⟨c',?_,aE⟩⟩ aE
  ·rcases b_.mp hp with e | hp
   ·rw[e];refine⟨of,?_,λz=>absurd (gW I.lt (by assumption)) (by rw[← z];exact lF _),I.yg Iw,λv z=>by cases z⟩
    show upd (upd H P _) c' _ h1.objs.size=none;rw[aI (oF cE),aI (oF (gW (cB oP) Iw))];exact I.aO.fresh Iw
   ·exact I1.pin p (fc _ hp)
  ·intro b o e hb;exact wL b o e hb
  ·rw[Array.toList_append];exact Ue tr
  ·rw[Array.toList_append];exact codeAmong_snoc _ tr hc
 ·refine PySem.W.kla_makeFunctionHit (mg:=X.mg) l6 I.ok.glob Iv wK (B.hd.keeps I.bk) oP tr hc Ug λfu h1 tk hk hsz=>?_;have kp:∀b o,s.heap.get? b=some o->(h1.push (PySem.W.kla_obj name qual params body scope cl ((X.mg "__name__").getD .none) c' fu)).get? b=some o:=λb o e=>cK _ (hk b o e);have I1:=I.kept (t':=tk) kp;have of:=fM h1 (o:=PySem.W.kla_obj name qual params body scope cl ((X.mg "__name__").getD .none) c' fu) rfl;refine h h1.objs.size c' fu ((X.mg "__name__").getD .none) _ _ (I1.oK λp hp=>?_) (λb o e _=>e) ⟨ps,hP,tr,.inr ⟨c',hc,Uh⟩⟩ Uh;rcases b_.mp hp with e | hp
  ·rw[e];exact⟨of,I.aO.fresh hsz,λz=>absurd (gW I.lt (by assumption)) (by rw[← z];exact lF _),I.yg hsz,λv z=>by cases z⟩
  ·exact I1.pin p (fc _ hp)
end
end _L
namespace _L
open PySem PySem.Spec PyProof.Rows PySem.W
section
variable{prog:Program}{w:World}{A:Around}{E:Value->Shared->Prop}{s:Shared}
theorem aeA{r S:Addr}{n:Nat}{t u v:Tok}{R:Result->Shared->Prop}(hh:A.handled=none)(hr:IsRange s.heap r 0 (n:Int) 1 t u v)(hn:n<64)(hS:s.heap.get? S=some { cls:=.type "list",data:=.seq #[] })
  (hR:∀(h':Heap) (tk:Nat) (acc:Array Value) (c:Nat),(∀b o,b≠S->s.heap.get? b=some o->h'.get? b=some o)->h'.get? S=some { cls:=.type "list",dict:=none,data:=.seq acc c,slots := #[] }->acc.size=n->(∀(i:Nat) (x:Value),acc[i]? = some x->∃t,x = .int (i:Int) t)->R (.ok (.ret (.ref S))) { s with heap:=h',toks:=tk }) :
  codeAny (model prog w) A (.builtin "list.__iadd__" ⟨[.ref S,.ref r],[]⟩) R s:=by
 refine q8 PySem.F.entry_list_iadd ?_;rw[xR PySem.F.plain_list_iadd _];have en:Builtin.Range.rangeSize 0 (n:Int) 1=((n:Nat):Int):=by rw[rangeSize_one];split <;> lia
 refine wpAny_extend_range hh hr (small_one ∅ ∅ ∅ ∅) en ∅ S (.ref S) _ hS λh' tk acc c hk pA lq=>hR h' tk acc c hk pA lq.1 λi x e=>?_
 obtain⟨t,z⟩:=lq.2 i x e;exact⟨t,by rw[z];congr 1;lia⟩
theorem aeB{r:Addr}{n:Nat}{t u v:Tok}{Q:List Value->Shared->Prop}(hh:A.handled=none)(hr:IsRange s.heap r 0 (n:Int) 1 t u v)(hn:n<64)
  (hQ:∀(h':Heap) (tk:Nat) (vs:List Value),(∀b o,s.heap.get? b=some o->h'.get? b=some o)->s.heap.objs.size<h'.objs.size->vs.length=n->(∀(i:Nat) (x:Value),vs[i]? = some x->∃t,x = .int (i:Int) t)->Q vs { s with heap:=h',toks:=tk }) :
  wpAny (model prog w) A (collect (.ref r)) Q E s:=by
 unfold collect;refine aJ (wpAny_runValue (q8 PySem.F.entry_proto_collect ?_));rw[xR PySem.F.plain_proto_collect _];show wpAny _ A.in1 (newList [] >>= λl=>again (.builtin "list.__iadd__" ⟨[l,.ref r],[]⟩)) _ _ s;refine aJ (x_ (bq ⟨plainId_quiet PySem.F.plain_list_iadd _,aeA hh (cK _ hr) hn (fM _ rfl) λh' tk acc c hk hS lq ha=>?_⟩))
 show wpAny _ A (load s.heap.objs.size >>= _) _ _ _;refine aJ (wpAny_load hS (bq (hQ h' tk acc.toList (λb o e=>hk b o (cR (cB e)) (cK _ e)) (cB hS) (by simpa using lq) λi x e=>ha i x (by simpa using e))))
end
section
variable{X:Cx}{pins:List (Addr×Obj)}{σ:St}{H:Hp}{s:Shared}
theorem Inv.chg{h':Heap}{tk:Nat}{k:Addr}{m:Str->Option Value}(I:Inv X pins σ H s)(hm:s.heap.Ns X.env.locals m)(zg:h'.Ns X.env.locals m)(n:H k=none)(hs:X.eg.heap.objs.size<=k)(hL:k≠X.env.locals)
  (hc:∀x c,X.env.cells.lookup x=some c->c≠k) (hp:∀p∈X.pn++pins,p.1≠k) (ho:∃o,h'.get? k=some o) (kk:∀b o,b≠X.env.locals->b≠k->s.heap.get? b=some o->h'.get? b=some o):Inv X pins σ H { s with heap:=h',toks:=tk }:=by
 have nl:∀b v,H b=some v->b≠X.env.locals:=λb v e z=>by rw[z,I.free] at e;cases e
 have nk:∀b v,H b=some v->b≠k:=λb v e z=>by rw[z,n] at e;cases e
 refine I.step (g':=s.gens) (d':=s.drawn) (ch:=[k]) (λb z=>by rw[fQ.mp z];exact⟨.inr hs,hL,hc,hp⟩) (λb o hb _ hk e _=>kk b o hb (by simpa using hk) e) (λb o hb _ hk e _=>⟨o.slots,kk b o hb (by simpa using hk) e⟩) (λ_ _ _ _ n=>n) (λb o hk e=>?_) (λ_ _ e=>e) (λ_ _ _ e=>e)
  (λb ps e=>⟨#[],by rw[e];simp⟩) (λm' zh=>?_) (λb v e=>(I.aO b v e).mT (λc o hc e'=>kk c o ?_ ?_ e') (λ_ e=>e) (λ_ _ e=>e)) I.bare
 ·by_cases hb:b=X.env.locals
  ·obtain⟨o',_,_,z,_⟩:=zg;exact⟨o',by rw[hb];exact z⟩
  ·exact⟨o,kk b o hb (by simpa using hk) e⟩
 ·have:m' = m:=by
   obtain⟨o1,dg,Cj,g1,d1,k1,z1⟩:=zh;obtain⟨o2,nj,HQ,g2,d2,k2,z2⟩:=hm;rw[g1] at g2;cases g2;rw[d1] at d2;cases d2
   funext x
   rw[← z1 x,← z2 x]
  rw[this];exact zg
 ·rcases hc with z | z
  ·rw[z];exact nl b v e
  ·exact nl c _ z
 ·rcases hc with z | z
  ·rw[z];exact nk b v e
  ·exact nk c _ z
theorem Inv.aeC{h':Heap}{tk:Nat}{k D:Addr}{xs:List V}{m:Str->Option Value}(I:Inv X pins σ H s)(hm:s.heap.Ns X.env.locals m)(zg:h'.Ns X.env.locals m)(nk:H k=none)(nD:H D=none)
  (two:∀b,b=k\/b=D->X.eg.heap.objs.size<=b/\b≠X.env.locals/\(∀x c,X.env.cells.lookup x=some c->c≠b)/\∀p∈X.pn++pins,p.1≠b)
  (kk:∀b o,b≠X.env.locals->b≠k->b≠D->s.heap.get? b=some o->h'.get? b=some o) (new:eF X.prog X.w (upd H D (.lst xs)) h' D (.lst xs)):Inv X pins σ (upd H D (.lst xs)) { s with heap:=h',toks:=tk }:=by
 have nl:∀b v,H b=some v->b≠X.env.locals:=λb v e z=>by rw[z,I.free] at e;cases e
 have n1:∀b v,H b=some v->b≠k:=λb v e z=>by rw[z,nk] at e;cases e
 have n2:∀b v,H b=some v->b≠D:=λb v e z=>by rw[z,nD] at e;cases e
 have up:∀b v,H b=some v->upd H D (.lst xs) b=some v:=λb v e=>by rw[aI (n2 b v e)];exact e
 have mem:∀b,b∉[k,D]->b≠k/\b≠D:=λb h=>⟨λz=>h (by rw[z];exact .head _),λz=>h (by rw[z];exact .tail _ (.head _))⟩
 refine I.step (g':=s.gens) (d':=s.drawn) (ch:=[k,D]) (λb z=>?_) (λb o hb _ hk e _=>kk b o hb (mem b hk).1 (mem b hk).2 e) (λb o hb _ hk e _=>⟨o.slots,kk b o hb (mem b hk).1 (mem b hk).2 e⟩) (λb o hk _ n=>by rw[aI (mem b hk).2];exact n) (λb o hk e=>?_) (λb xs e=>up b _ e) (λb o u e=>up b _ e)
  (λb ps e=>⟨#[],by rw[up b _ e];simp⟩) (λm' zh=>?_) (λb v e=>?_) I.bare
 ·have:b=k\/b=D:=by
   rcases b_.mp z with q | q
   ·exact .inl q
   ·exact .inr (fQ.mp q)
  obtain⟨a1,a2,a3,a4⟩:=two b this;exact⟨.inr a1,a2,a3,a4⟩
 ·by_cases hb:b=X.env.locals
  ·obtain⟨o',_,_,z,_⟩:=zg;exact⟨o',by rw[hb];exact z⟩
  ·exact⟨o,kk b o hb (mem b hk).1 (mem b hk).2 e⟩
 ·have:m' = m:=by
   obtain⟨o1,dg,Cj,g1,d1,k1,z1⟩:=zh;obtain⟨o2,nj,HQ,g2,d2,k2,z2⟩:=hm;rw[g1] at g2;cases g2;rw[d1] at d2;cases d2
   funext x
   rw[← z1 x,← z2 x]
  rw[this];exact zg
 ·by_cases hb:b=D
  ·subst hb;rw[aE] at e;cases e;exact new
  ·rw[aI hb] at e;refine(I.aO b v e).mT (λc o hc e'=>?_) (λd e=>up d _ e) (λd xs e=>up d _ e);have q:∃v',H c=some v':=by
    rcases hc with z | z
    ·rw[z];exact⟨_,e⟩
    ·exact⟨_,z⟩
   obtain⟨v',q⟩:=q;exact kk c o (nl c _ q) (n1 c _ q) (n2 c _ q) e'
structure Iz(X:Cx)(pins:List (Addr×Obj))(σ:St)(H1:Hp)(P:Addr)(pos:Pos)(qual:Str)(m:Str->Option Value)(kS:Addr)(kv:Nat->Int×Int)(ks:List Value)(e:Nat)(H:Hp)(s:Shared):Prop where
 I:Inv X ((kS,seqObj "list" ks.toArray e)::pins) σ H s
 ns:s.heap.Ns X.env.locals m
 sb:SameBut P H1 H
 tab:cY P pos qual H
 ky:∀(i:Nat) (hi:i<ks.length),∃a,ks[i] = .ref a/\H a=some (.tup [.int (kv i).1,.int (kv i).2])
variable{scope:Scope}{cl:List (Str×Addr)}{ps fs:List Str}{fv:List Nat}{A:Around}{qual name:Str}{f c' P kS:Addr}{params:Arguments}{body:Expr}{te:TE}{pm fu:Value}{pos:Pos}{kv:Nat->Int×Int}{n:Nat}{H1:Hp}{m:Str->Option Value}
theorem Uk(S:nJ X scope cl ps fs fv)(wM:ps.length=1)(he:∀s H,PE (ze X A qual scope f c' cl (ps++fs) s H) body te)(hA:A.frames=some X.stack)(hd:X.calm=true->A.handled=none)(o_:A.depth<recursionLimit)(gG:X.stack=X.env::X.outer)(rX:X.env.frame=some X.env.locals)
  (hex:X.ex = []) (hf:(f,kla_obj name qual params body scope cl pm c' fu)∈pins) (hc:H1 c' = some (rW c' qual)) (wN:c'≠P) (lV:∀u,bindArgs (kla_fn name qual params body scope cl pm (.ref c') fu) ⟨[u],[]⟩=pure (ps.zip [u]))
  (rF:∀(j:Nat) (H:Hp),j<n->SameBut P H1 H->cY P pos qual H->te (rT σ [.int (j:Int)] fv) H λv H'=>∃a,v = .ref a/\H a=none/\H' = upd H a (.tup [.int (kv j).1,.int (kv j).2]))
  (lo:X.eg.heap.objs.size<=kS) (CI:kS≠X.env.locals) (CJ:∀x c,X.env.cells.lookup x=some c->c≠kS) (Ul:∀p∈X.pn++pins,p.1≠kS)
  {Fin:List Value->Nat->Shared->Prop} (Um:∀ks e H s,Iz X pins σ H1 P pos qual m kS kv ks e H s->ks.length=n->Fin ks e s) :
  ∀(r ks:List Value) (e:Nat) (H:Hp) (s:Shared),ks.length+r.length=n->(∀(i:Nat) (x:Value),r[i]? = some x->∃t,x = .int ((ks.length+i:Nat):Int) t)->Iz X pins σ H1 P pos qual m kS kv ks e H s->KatKeys X.prog X.w A X.base X.env.locals m kS (.ref f) Fin r ks e s
 | [],ks,e,H,s,hl,_,K=>KatKeys.nil (Um ks e H s K (by simpa using hl))
 | x::r,ks,e,H,s,hl,hi,K=>by
  rw[dR] at hl;obtain⟨t,rfl⟩:=hi 0 x rfl;have pf:=K.I.pin _ (fc _ (bU _ hf));have pk:=K.I.pin (kS,seqObj "list" ks.toArray e) (fc _ (b8 ..));have wK:s.heap.CodeRec (.ref c') qual:=aex K.I.aO (K.sb _ _ hc wN);have hx:=rF ks.length H ∅ K.sb K.tab
  refine KatKeys.cons (iS (aev (us:=[.int ((ks.length+0:Nat):Int) t]) (vs:=[.int (ks.length:Int)]) S K.I hA hd o_ pf.1 wK (lV _) (.cons ⟨t,by simp⟩ .nil) (by simpa using wM.symm) (he s H) hx) (λu s' hq=>?_) λ_ _ z=>z)
  obtain⟨v,H',J,rv,⟨a,rfl,na,rfl⟩,un⟩:=hq;cases rv;have ie:s'.heap.Ns X.env.locals m:=by
   obtain⟨o,es,ep,eo,fS,r'⟩:=K.ns;have mem:X.env.locals∈iE X.stack:=by unfold iE;rw[gG,List.filterMap_cons,rX];exact List.mem_cons_self ..
   obtain⟨sl,q⟩:=un.slot _ o eo K.I.free mem (by simp)
   exact⟨_,es,ep,q,fS,r'⟩
  have bk:X.base.get? kS=none:=A1 (cQ K.I.ok.iU lo);have CK:=J.pin (kS,seqObj "list" ks.toArray e) (fc _ (b8 ..));refine KatBack.intro (news:=(kS,seqObj "list" ks.toArray e)::rest X.base s'.heap X.env.locals kS) (g:=λo=>(kS,o)::rest X.base s'.heap X.env.locals kS) ⟨ie,J.bk,cQ J.ok.iU J.ok.above⟩ (news_at CI bk CK.1) (.head BH) λh2 c2 F2 N2=>?_;have kept:=BJ (d:=kS) J.bk F2 λp hp=>N2 p (bU _ hp);have qA:=(N2 _ (b8 ..)).1;have J1:Inv X pins σ (upd H a (.tup [.int (kv ks.length).1,.int (kv ks.length).2])) s':=J.oK λp hp=>J.pin p (fc _ (bU _ hp));have J2:=J1.chg (tk:=s'.toks) ie F2.ns CK.2.1 lo CI CJ Ul ⟨_,qA⟩ λb o hb hk e=>kept b o hb hk e;have aeD:∀v,(seqObj "list" (ks++[Value.ref a]).toArray c2).data≠.cell v:=λv z=>by cases z
  refine Uk S wM he hA hd o_ gG rX hex hf hc wN lV rF lo CI CJ Ul Um r (ks++[.ref a]) c2 _ { s' with heap:=h2 } (by simp;lia) (λi x e=>?_) ⟨J2.oK λp hp=>?_,F2.ns,?_,?_,λi gh=>?_⟩
  ·obtain⟨t',z⟩:=hi (i+1) x (by simpa using e)
   exact⟨t',by rw[z];congr 1;simp;lia⟩
  ·rcases b_.mp hp with q | q
   ·rw[q];exact⟨qA,CK.2.1,CI,CK.2.2.2.1,aeD⟩
   ·exact J2.pin p (fc _ q)
  ·intro b o e hb;have:=K.sb b o e hb;rw[aI (λz=>by rw[z,na] at this;cases this)];exact this
  ·obtain⟨eY,e1,e2,e3⟩:=K.tab;refine⟨eY,by rw[aI (λz=>by rw[z,na] at e1;cases e1)];exact e1,e2,e3.imp id λ⟨c2,z1,z2⟩=>⟨c2,z1,by rw[aI (λz=>by rw[z,na] at z2;cases z2)];exact z2⟩⟩
  ·by_cases cE:i<ks.length
   ·obtain⟨a',z1,z2⟩:=K.ky i cE;exact⟨a',by rw[Fd cE];exact z1,by rw[aI (λz=>by rw[z,na] at z2;cases z2)];exact z2⟩
   ·have e:i=ks.length:=by simp at gh;lia
    subst e;exact⟨a,by simp,aE⟩
theorem Uo{h:Heap}:∀ {ks:List Value} {zj:List (Int×Int)},CF h ks zj->∃fs,KatTups h ks fs/\fs.length=ks.length/\∀v∈fs,∃d t,v = .int d t
 | [],zj,_=>⟨[],trivial,rfl,λv z=>nomatch z⟩
 | k::ks,[],p=>absurd p.1 (by simp)
 | k::ks,q::zj,p=>by
  obtain⟨a,ea,o,t,u,n,e1,e2,e3⟩:=p.2 0 (by simp)
  have ea:k = .ref a:=by simpa using ea
  subst ea;obtain⟨fs,h1,h2,h3⟩:=Uo (ks:=ks) (zj:=zj) ⟨by have:=p.1;simpa using this,λi hi=>by
   obtain⟨b,z1,z2⟩:=p.2 (i+1) (by simpa using hi)
   exact⟨b,by simpa using z1,by simpa using z2⟩⟩
  refine⟨.int _ t::fs,.cons e1 e2 e3 rfl h1,by simp[h2],λv hv=>?_⟩
  rcases b_.mp hv with z | z
  ·exact⟨_,_,z⟩
  ·exact h3 v z
def nK(kv:Nat->Int×Int)(n:Nat)(is:List Nat):Prop:=is.Perm (List.range n)/\∀i j,i<j->j<n->(kv (is.getD i 0)).1*64+(kv (is.getD i 0)).2<(kv (is.getD j 0)).1*64+(kv (is.getD j 0)).2
theorem aeE{Q:VK}{rg:Addr}{t u v:Tok}(S:nJ X scope cl ps fs fv)(wM:ps.length=1)(he:∀s H,PE (ze X X.A.in1.in1 qual scope f c' cl (ps++fs) s H) body te)(IA:X.calm=true)(o_:X.A.in1.in1.depth<recursionLimit)(gG:X.stack=X.env::X.outer)(rX:X.env.frame=some X.env.locals)
  (hex:X.ex = []) (I:Inv X ((f,kla_obj name qual params body scope cl pm c' fu)::pins) σ H s) (hc:H c' = some (rW c' qual)) (wN:c'≠P) (tab:cY P pos qual H) (lV:∀u,bindArgs (kla_fn name qual params body scope cl pm (.ref c') fu) ⟨[u],[]⟩=pure (ps.zip [u]))
  (hr:IsRange s.heap rg 0 (n:Int) 1 t u v) (h2:2<=n) (k9:n<64) (hb:∀j,j<n->0<=(kv j).2/\(kv j).2<64) (IB:∀i j,i<n->j<n->kv i=kv j->i=j)
  (rF:∀(j:Nat) (H2:Hp),j<n->SameBut P H H2->cY P pos qual H2->te (rT σ [.int (j:Int)] fv) H2 λv H'=>∃a,v = .ref a/\H2 a=none/\H' = upd H2 a (.tup [.int (kv j).1,.int (kv j).2]))
  (q:∀(D:Addr) (is:List Nat) (H':Hp),SameBut P H H'->cY P pos qual H'->H D=none->H' D=none->nK kv n is->Q (.ref D) (upd H' D (.lst (is.map λ(i:Nat)=>V.int (i:Int))))) :
  wpAny (model X.prog X.w) X.A (call (.builtin "sorted") [.ref rg] [(Str.ofString "key",.ref f)]) (EP X pins σ Q) X.xe s:=by
 have Uq:=I.ok.hd IA;refine call_function_entry_kw kind_sorted plain_sorted entry_sorted (ksk_s1 _ _) ?_;unfold Builtin.«sorted»;refine aJ (m:=checkCount "sorted" 1 1 _) (bq ?_);refine aJ (aeB (A:=X.A.in1) Uq hr k9 λh1 zm vs k1 sz len items=>?_);refine aJ (wpAny_newList ?_ (by rw[q9];lia))
 obtain⟨m,hm,api⟩:=I.loc;have oD:(h1.push (seqObj "list" vs.toArray 0)).get? h1.objs.size=some (seqObj "list" vs.toArray 0):=fM _ rfl;have k2:∀b o,s.heap.get? b=some o->(h1.push (seqObj "list" vs.toArray 0)).get? b=some o:=λb o e=>cK _ (k1 b o e);have I1:=I.kept (t':=zm) k2;have CL:X.eg.heap.objs.size<=h1.objs.size:=cQ I.sz (j0 sz);have DL:h1.objs.size≠X.env.locals:=oF (ji I.lt sz);have nD:H h1.objs.size=none:=I.aO.fresh (j0 sz);have old:∀b o,s.heap.get? b=some o->b<h1.objs.size:=λb o e=>ji (cB e) sz;have bD:X.base.get? h1.objs.size=none:=A1 (cQ I.ok.iU CL);have qB:(h1.push (seqObj "list" vs.toArray 0)).Ns X.env.locals m:=hm.keeps k2;have above:X.base.objs.size<=X.env.locals:=cQ I.ok.iU I.ok.above
 show wpAny _ _ _ _ _ { s with heap:=h1.push (seqObj "list" vs.toArray 0),toks:=zm };refine aJ (mS (wpAny_call_entry_kw slot_list_sort ⟨_,oD,rfl⟩ entry_list_sort ?body (ksk_l1 _ _)))
 case body =>
  show wpAny (model X.prog X.w) X.A.in1.in1 (Builtin.«list.sort» ⟨[.ref h1.objs.size],[(Str.ofString "key",.ref f)]⟩) _ _ _;rw[ksk_t1];refine kat_keyed (s:={ s with heap:=h1.push (seqObj "list" vs.toArray 0),toks:=zm }) (h₀:=X.base) (L:=X.env.locals) (m:=m) (news:=rest X.base (h1.push (seqObj "list" vs.toArray 0)) X.env.locals h1.objs.size) ⟨qB,I1.bk,above⟩ (λp hp=>BI p (fj.mp hp).1) oD DL bD BH ∅ ∅ λkS e1 h' F' N' l0 l1=>?_
  have aeF:=BJ (d:=h1.objs.size) I1.bk F' λp hp=>N' p (bU _ (bU _ hp));have okS:=N' _ (b8 ..);have Ur:=N' _ (bU _ (b8 ..));have IC:X.eg.heap.objs.size<=kS:=cQ CL (j0 l0);have CM:∀x c,X.env.cells.lookup x=some c->c<h1.objs.size:=λx c e=>by
   obtain⟨v,o,z,_⟩:=I.cell x c e;exact old _ _ z
  have CN:∀p∈X.pn++((f,kla_obj name qual params body scope cl pm c' fu)::pins),p.1<h1.objs.size:=λp hp=>old _ _ (I.pin p hp).1;have Ut:X.env.locals<h1.objs.size:=ji I.lt sz;have I2:=I1.chg (tk:=zm) qB F'.ns nD CL DL (λx c e=>cR (CM x c e)) (λp hp=>cR (CN p hp)) ⟨_,Ur.1⟩ aeF;have nS:H kS=none:=I.aO.fresh (j0 (ji sz l0));have Uu:∀b,s.heap.objs.size<=b->b∉X.fs:=λb hb=>I.yg hb;have Uv:∀(a:Array Value) (e:Nat) v,(seqObj "list" a e).data≠.cell v:=λa e v z=>by cases z
  have K0:Iz X ((h1.objs.size,seqObj "list" #[] e1)::(f,kla_obj name qual params body scope cl pm c' fu)::pins) σ H P pos qual m kS kv [] 0 H { s with heap:=h',toks:=zm }:=by
   refine⟨I2.oK λp hp=>?_,F'.ns,λb o e _=>e,tab,λi hi=>absurd hi (by simp)⟩
   rcases b_.mp hp with z | hp
   ·rw[z];exact⟨okS.1,nS,oF (ji Ut l0),Uu _ (j0 (ji sz l0)),Uv _ _⟩
   ·rcases b_.mp hp with z | hp
    ·rw[z];exact⟨Ur.1,nD,DL,Uu _ (j0 sz),Uv _ _⟩
    ·exact I2.pin p (fc _ hp)
  have aeG:∀p∈X.pn++((h1.objs.size,seqObj "list" #[] e1)::(f,kla_obj name qual params body scope cl pm c' fu)::pins),p.1≠kS:=λp hp=>by
   rcases fE.mp hp with hp | hp
   ·exact cR (ji (CN p (p8 _ hp)) l0)
   ·rcases b_.mp hp with z | hp
    ·rw[z];exact cR l0
    ·exact cR (ji (CN p (fc _ hp)) l0)
  have SL:kS≠X.env.locals:=oF (ji Ut l0);refine Uk (n:=n) (pins:=(h1.objs.size,seqObj "list" #[] e1)::(f,kla_obj name qual params body scope cl pm c' fu)::pins) S wM he I.ok.frames (λ_=>Uq) o_ gG rX hex (bU _ (b8 ..)) hc wN lV rF IC SL
   (λx c e=>cR (ji (CM x c e) l0)) aeG (λks e H3 s3 K hl=>?_) vs [] 0 H _ (by simpa using len) (λi x e=>by simpa using items i x e) K0
  have Uw:CF s3.heap ks ((List.range n).map kv):=by
   refine⟨by simp[hl],λi hi=>?_⟩
   have gh:i<ks.length:=by simp at hi;lia
   obtain⟨a,z1,z2⟩:=K.ky i gh;obtain⟨aB,r1,q1,_⟩:=K.I.tuple (aL.of (K:=X.K) z2);cases r1 with
   | cons w1 r1 =>
   cases r1 with
   | cons w2 r1 =>
   cases r1;obtain⟨t1,rfl⟩:=w1;obtain⟨t2,rfl⟩:=w2;obtain⟨o,e1,e2,n1,e3⟩:=q1;exact⟨a,by simp[gh,z1],o,t1,t2,n1,e1,e2,by simpa using e3⟩
  obtain⟨RB,t1,t2,t3⟩:=Uo Uw;refine kat_kind (T:=.type "int") t1 ∅ (λv hv=>?_) ⋯ ?_
  ·obtain⟨d,tt,rfl⟩:=t3 v hv;exact .now
  ·rw[show (Value.type "int" != Value.type "tuple")=true by decide]
   show (kas_sort vs.length).kasWp (kas_ask X.prog X.w X.A.in1.in1 (tuples' true) ks) _ s3;rw[len,show n=((List.range n).map kv).length by simp]
   refine aer (by simp;lia) Uw (λq' hq=>?_) ?_ λp hp aeH=>?_
   ·obtain⟨j,hj,rfl⟩:=dh.mp hq;exact hb j (fF.mp hj)
   ·rw[vm,p9];exact List.Pairwise.imp_of_mem (λha iY fV heq=>fV (IB _ _ (fF.mp ha) (fF.mp iY) heq)) Bj
   ·have bS:X.base.get? kS=none:=A1 (cQ I.ok.iU IC);have pk:=K.I.pin (kS,seqObj "list" ks.toArray e) (fc _ (b8 ..));have pd:=K.I.pin (h1.objs.size,seqObj "list" #[] e1) (fc _ (bU _ (b8 ..)));refine KatFin.intro (news:=(kS,seqObj "list" ks.toArray e)::rest X.base s3.heap X.env.locals kS) (g:=λo=>(kS,o)::rest X.base s3.heap X.env.locals kS) ⟨K.ns,K.I.bk,above⟩ (news_at SL bS pk.1) (.head BH) λh4 c4 F4 N4=>?_;have Ux:=BJ (d:=kS) K.I.bk F4 λp hp=>N4 p (bU _ hp);have oD4:=Ux _ _ DL (cR l0) pd.1;refine KasFin.intro (news:=(h1.objs.size,seqObj "list" #[] e1)::rest X.base h4 X.env.locals h1.objs.size) (g:=λo=>(h1.objs.size,o)::rest X.base h4 X.env.locals h1.objs.size) F4 (news_at DL bD oD4) (.head BH) λh5 c5 F5 N5=>?_;have bk4:∀b o,X.base.get? b=some o->h4.get? b=some o:=F4.keep;have aeI:=BJ (d:=h1.objs.size) bk4 F5 λp hp=>N5 p (bU _ hp);have oD5:=(N5 _ (b8 ..)).1;refine⟨_,rfl,bq ⟨_,rfl,?_⟩⟩;have ID:p.toList.Perm (List.range n):=by
     have:=hp.toList;simpa using this
    have Uy:∀i∈p.toList,i<n:=λi hi=>fF.mp (ID.mem_iff.mp hi);have isL:p.toList.length=n:=by simpa using ID.length_eq
    have gd:∀i,i<n->p.getD i 0=p.toList.getD i 0/\p.toList.getD i 0<n:=λi hi=>by
     have dm:i<p.toList.length:=by lia
     have e:p.toList.getD i 0=p.toList[i]:=by rw[jg,bC dm];rfl
     exact⟨by rw[qW,jg,pU],by rw[e];exact Uy _ (cI dm)⟩
    have Uz:∀k,k<n->lZ ((List.range n).map kv) k=(kv k).1*64+(kv k).2:=λk hk=>by
     unfold lZ;have:((List.range n).map kv).getD k (0,0)=kv k:=by simp[hk]
     rw[this]
    have asc:nK kv n p.toList:=⟨ID,λi j h1 h2=>by
     have:=aeH i j h1 (by simpa using h2)
     rw[(gd i ∅).1,(gd j h2).1,Uz _ (gd i ∅).2,Uz _ (gd j h2).2] at this
     exact this⟩
    have vals:∀l:List Nat,(∀i∈l,i<n)->Vals (l.map λ(i:Nat)=>V.int (i:Int)) (l.map λi=>vs.getD i Value.none):=by
     intro l
     induction l with
     | nil=>intro _;exact .nil
     | cons i l ih =>
      intro rK;have hi:i<vs.length:=by rw[len];exact rK i (b8 ..)
      obtain⟨t5,e5⟩:=items i vs[i] (bC hi);refine .cons ⟨t5,?_⟩ (ih λk hk=>rK k (bU _ hk));rw[← e5];simp[hi]
    refine⟨.ref h1.objs.size,_,(K.I.oK (FP:=pins) λp hp=>K.I.pin p (fc _ (bU _ (bU _ (bU _ hp))))).aeC (tk:=s3.toks) (xs:=p.toList.map λ(i:Nat)=>V.int (i:Int)) K.ns F5.ns pk.2.1 pd.2.1 (λb nM=>?_)
     (λb o hL hS hD e=>aeI b o hL hD (Ux b o hL hS e)) ⟨by rw[aM,isL,q9];lia,_,c5,vals p.toList Uy,oD5⟩,rfl,q _ p.toList H3 K.sb K.tab nD pd.2.1 asc⟩
    have sub:∀p∈X.pn++pins,p.1<h1.objs.size:=λp hp=>CN p (by
     rcases fE.mp hp with z | z
     ·exact p8 _ z
     ·exact fc _ (bU _ z))
    rcases nM with z | z
    ·rw[z];exact⟨IC,SL,λx c e=>cR (ji (CM x c e) l0),λp hp=>cR (ji (sub p hp) l0)⟩
    ·rw[z];exact⟨CL,DL,λx c e=>cR (CM x c e),λp hp=>cR (sub p hp)⟩
theorem SameBut.trans{H H1 H2:Hp}{x:Addr}(a:SameBut x H H1)(b:SameBut x H1 H2):SameBut x H H2:=λc o e h=>b c o (a c o e h) h
def UA(P:Addr)(pos:Pos)(qual:Str)(te:TE)(fv:List Nat)(ta:TA):TE:=λσ H Q=>ta σ H λvs H1=>∃(n:Nat) (kv:Nat->Int×Int),vs = [.int (n:Int)]/\2<=n/\n<64/\(∀j,j<n->0<=(kv j).2/\(kv j).2<64)/\(∀i j,i<n->j<n->kv i=kv j->i=j)/\cY P pos qual H1/\
 (∀(j:Nat) (H2:Hp),j<n->SameBut P H1 H2->cY P pos qual H2->te (rT σ [.int (j:Int)] fv) H2 λv H'=>∃a,v = .ref a/\H2 a=none/\H' = upd H2 a (.tup [.int (kv j).1,.int (kv j).2]))/\
 ∀(D:Addr) (is:List Nat) (H':Hp),SameBut P H1 H'->cY P pos qual H'->H1 D=none->H' D=none->nK kv n is->Q (.ref D) (upd H' D (.lst (is.map λ(i:Nat)=>V.int (i:Int))))
theorem aeJ{c:Addr}{e:Expr}{ta:TA}{p1 p2 p3 p4 kp:Pos}(IE:Gl X "sorted")(IF:X.mg "sorted" = none)(hgR:Gl X "range")(hmR:X.mg "range" = none)(B:bF X.mg X.base c P)(wK:X.env.code = .ref c)(S:nJ X scope cl ps fs fv)(wM:ps.length=1)
  (aeK:defaultsOf params X.env=([],[])) (hq:X.env.qual ++ "<lambda>" = qual) (lV:∀c' pm fu u,bindArgs (kla_fn "<lambda>" qual params body scope cl pm (.ref c') fu) ⟨[u],[]⟩=pure (ps.zip [u]))
  (he:∀f c' s H,PE (ze X X.A.in1.in1 qual scope f c' cl (ps++fs) s H) body te) (IA:X.calm=true) (o_:X.A.in1.in1.depth<recursionLimit) (gG:X.stack=X.env::X.outer) (rX:X.env.frame=some X.env.locals) (hex:X.ex = []) (ha:PA X [e] ta)
  (hs:starEach [e] X.env = [(false,eval e X.env)]:=by rfl) (f_:starEach [.Call (.Name "range" p2) [e] [] p3] X.env = [(false,eval (.Call (.Name "range" p2) [e] [] p3) X.env)]:=by rfl) :
  PE X (.Call (.Name "sorted" p1) [.Call (.Name "range" p2) [e] [] p3] [⟨some "key",.Lambda params body scope pos,kp⟩] p4) (UA P pos qual te fv ta):=by
 intro pins s σ H Q I h;refine vD (oM I IE IF boot_sorted (callWith_kw ?_));rw[f_];refine AY ?_;refine Call_ (oM I hgR hmR boot_range (vt (aW (ha p3 pins s σ H _ I h) λus s1 ⟨vs,H1,I1,r1,q1⟩=>?_) (by rw[hs];rfl) (by rfl)))
 obtain⟨n,kv,e,h2,k9,hb,IB,tab,rF,q⟩:=q1;subst e;obtain⟨u,rfl,ru⟩:=vals1 r1;obtain⟨t,rfl⟩:=ru;refine call_range_1 ?_;refine AZ ?_;refine kws_cons (kla_eval aeK ?_);rw[hq];have k1:∀b o,s1.heap.get? b=some o->(s1.heap.push { cls:=.type "range",data:=.fields #[.int 0 s1.toks,.int (n:Int) t,.int 1 (s1.toks+1)] }).get? b=some o:=λb o e=>cK _ e;have I2:Inv X ((s1.heap.objs.size,{ cls:=.type "range",data:=.fields #[.int 0 s1.toks,.int (n:Int) t,.int 1 (s1.toks+1)] })::pins) σ H1 { s1 with heap:=s1.heap.push { cls:=.type "range",data:=.fields #[.int 0 s1.toks,.int (n:Int) t,.int 1 (s1.toks+1)] },toks:=s1.toks+1+1 }:=by
  refine(I1.kept k1).oK λp hp=>?_;rcases b_.mp hp with z | hp
  ·rw[z];exact⟨fM _ rfl,I1.aO.fresh (bu _),oF I1.lt,I1.yg (bu _),λv z=>by cases z⟩
  ·exact(I1.kept (t':=s1.toks+1+1) k1).pin p (fc _ hp)
 refine aey B wK S.o9 I2 tab λf c' fu pm H' s' J sb wO hc=>kws_nil ?_;have wN:c'≠P:=by
  obtain⟨eY,z,_⟩:=wO;exact jm hc z (by intro y;cases y)
 refine iS (aeE (n:=n) (kv:=kv) S wM (he f c') IA o_ gG rX hex J hc wN wO (lV c' pm fu) (J.pin _ (fc _ (bU _ (b8 ..)))).1 h2 k9 hb IB (λj H2 hj nN IG=>rF j H2 hj (sb.trans nN) IG)
  (λD is H2 nN IG n1 n2 ho=>q D is H2 (sb.trans nN) IG ?_ n2 ho)) (λv vW z=>?_) (λ_ _ z=>z)
 ·cases z:H1 D with
  | none=>rfl
  | some o =>
   by_cases hD:D=P
   ·obtain⟨eY,z2,_⟩:=wO;rw[hD,z2] at n1;cases n1
   ·rw[sb _ _ z hD] at n1;cases n1
 ·obtain⟨v',H'',K,rv,qv⟩:=z;exact⟨v',H'',K.oK λp hp=>K.pin p (fc _ (bU _ hp)),rv,qv⟩
end
theorem aeL{P:Program}{w:World}{K:W.Frag}{mg mb:Str->Option Value}{k:Nat}{fa a:Addr}{fd:FuncData}{x:Str}{sp:Sp}{bf:Shared}{vs:List Value}{ns:List Int}{tabs:List (Addr×Addr)}
  (KX:K.In bf.heap) (nh:bf.heap.Ns mainGlobals mg) (hb:bf.heap.Ns builtinsNs mb) (HG:∀x:Str,x≠"__name__"->mb x=bootBuiltins x) (HJ:bf.heap.NoLimit) (hg:bf.gens = #[])
  (ha:bf.heap.get? a=some { cls:=.type "list",data:=.seq vs.toArray }) (hi:IntsAre vs ns) (hl:ns.length<=sizeLine) (hr:dQ k callerA)
  (hT:TabsAt tabs bf.heap) (zo:noTabs K=true) (bm:∃bm ob,mg "__builtins__" = some (.ref bm)/\bm≠builtinsNs/\bf.heap.get? bm=some ob/\ob.cls = .type "module"/\ob.dict=some builtinsNs/\ob.data = .plain)
  (F:∀base:Heap,K.In base->base.Ns mainGlobals mg->(∀q∈tabs,bF mg base q.1 q.2)->aY P w K mg base bw k fa fd [x] sp) (lV:∀(s:Shared) (u:Value),BindsTo s fd ⟨[u],[]⟩ [(x,u)])
  (dF:∀H:Hp,(∀q∈tabs,H q.2=some (.fY #[]))->az K H a (ns.map V.int)->sp [.ref a] H (λv _=>v = .bl true) λ_ _ _=>False) :
  codeAny (model P w) callerA (.call (.ref fa) ⟨[.ref a],[]⟩) (λr s'=>r = .ok (.ret (.bool true))/\OldK bf.heap s'.heap/\s'.os=bf.os/\AllBare s'.gens) bf:=by
 have rv:=yR hi;have HL:=hi.length;have ur:∀b,b∈tabs.map (·.2)->bf.heap.get? b=some (tabObj #[])/\isCodeTable bf.heap b:=λb hb=>by
  obtain⟨q,hq,rfl⟩:=dh.mp hb;exact⟨(hT q hq).2,((hT q hq).1.tab (hT q hq).2).isCodeTable⟩
 have aT:a∉tabs.map (·.2):=λhb=>by
  have:=(ur a hb).1;rw[ha] at this;cases this
 have core:∀H:Hp,(∀b u,H b=some u->(b=a/\∃o xs,u = .jk o (.lst xs))\/(b∈tabs.map (·.2)/\u = .fY #[]))->(∀q∈tabs,H q.2=some (.fY #[]))->az K H a (ns.map V.int)->dO P w H bf.heap->(H a≠none->K.lookup a=none)->
   codeAny (model P w) callerA (.call (.ref fa) ⟨[.ref a],[]⟩) (λr s'=>r = .ok (.ret (.bool true))/\OldK bf.heap s'.heap/\s'.os=bf.os/\AllBare s'.gens) bf:=by
  intro H hO II hS aO hK;have ue:∀ {b:Addr} {o:Obj},bf.heap.get? b=some o->H b=none->(jE bf.heap H).get? b=some o:=λe n=>RD e n;have free:∀ {b:Addr} {o:Obj},bf.heap.get? b=some o->(b≠a)->o≠tabObj #[]->H b=none:=λ{b o} e n1 n2=>by
   cases q:H b with
   | none=>rfl
   | some u =>
    rcases hO b u q with⟨z,_⟩ | ⟨z,_⟩
    ·exact absurd z n1
    ·have:=(ur b z).1;rw[e] at this;exact absurd (eN this) n2
  have UB:∀ {b:Addr} {o:Obj},bf.heap.get? b=some o->o.cls≠.type "list"->b≠a:=λ{b o} e n z=>by
   rw[z,ha] at e;cases e;exact n rfl
  have aeM:∀ {b:Addr} {o:Obj} {es:Array DictEntry} {ep:Nat},bf.heap.get? b=some o->o.data = .dict es ep->b≠a:=λ{b o es ep} e d z=>by
   rw[z,ha] at e;cases e;cases d
  have qm:∀ {b:Addr} {m:Str->Option Value},bf.heap.Ns b m->(jE bf.heap H).Ns b m:=λ{b m} ⟨o,es,ep,e,d,r⟩=>⟨o,es,ep,ue e (free e (aeM e d) (λz=>by rw[z] at d;cases d)),d,r⟩
  have yS:K.In (jE bf.heap H):=λb o e=>ue (KX b o e) (by
   cases q:H b with
   | none=>rfl
   | some u =>
    rcases hO b u q with⟨z,_⟩ | ⟨z,_⟩
    ·subst z;rw[hK (by rw[q];simp)] at e;cases e
    ·have e2:=KX b o e;rw[(ur b z).1] at e2;have h2:=mH.mp zo (b,o) (mem_of_lookupK e);cases e2;exact absurd (show false=true from h2) eU)
  have hM:Mod K mg (jE bf.heap H):=⟨yS,qm nh,⟨mb,qm hb,HG⟩,let ⟨mc,h1,h2⟩:=HJ;⟨mc,qm h1,h2⟩⟩
  have hL:∀q∈tabs,bF mg (jE bf.heap H) q.1 q.2:=λq hq=>by
   obtain⟨b,ob,b1,b2,b3,b4,b5,b6⟩:=bm;obtain⟨o,vs',file,tf,flags,tg,inF,text,tt,e1,r1,r2⟩:=(hT q hq).1;refine⟨⟨o,vs',file,tf,flags,tg,inF,text,tt,ue e1 (free e1 (UB e1 (by rw[r1];intro z;injection z with z;exact absurd z ⋯)) (λz=>by rw[z] at r1;cases r1)),r1,r2⟩,b,ob,b1,b2,ue b3 (free b3 (UB b3 (by rw[b4];intro z;injection z with z;exact absurd z ⋯)) (λz=>by rw[z] at b4;cases b4)),b4,b5,b6⟩
  have e0:rG P w K mg (jE bf.heap H) callerA [] bf H:=⟨rfl,hM,λb o e=>RE e,Bo (RC _ _),trivial,λb hb=>absurd (show b∈([]:List Addr) from hb) (by simp),aO,.of_eq hg⟩
  refine vC ((F _ yS (qm nh) hL).run callerA [] bf H ⟨[.ref a],[]⟩ [.ref a] [.ref a] _ _ hr e0 (lV bf (.ref a)) (.cons rfl .nil) (dF H II hS)) λr s' h=>?_;cases r with
  | error e=>exact False.elim h
  | ok fl =>
   cases fl with
   | next=>exact False.elim h
   | brk=>exact False.elim h
   | cont=>exact False.elim h
   | ret u =>
    obtain⟨v,H',os,bare,un,Cd,r',q⟩:=h;have q':v = .bl true:=q;subst q';obtain rfl:u=Value.bool true:=r';have noS:∀b:Addr,b∉iE ([]:List Env):=λb z=>absurd (show b∈([]:List Addr) from z) (by simp)
    have all:∀b o,bf.heap.get? b=some o->asItWas bf.heap s'.heap b o/\∃o',s'.heap.get? b=some o':=λb o e=>by
     cases q:H b with
     | none =>
      have:=un.keep b o e q (noS b) (by simp)
      exact⟨.inl this,o,this⟩
     | some u =>
      rcases hO b u q with⟨z,ob,xs,rfl⟩ | ⟨z,rfl⟩
      ·have z2:=un.oJ b ob _ q;obtain⟨e1,_⟩:=aO b _ q;obtain⟨e2,_⟩:=Cd b _ z2;rw[e] at e1;cases e1;exact⟨.inl e2,_,e2⟩
      ·obtain⟨more,z2⟩:=un.qe b _ q;have e1:=(ur b z).1;rw[e] at e1;cases e1;have e2:s'.heap.get? b=some { cls:=.none,data:=.fields (#[]++more)}:=Cd b _ z2;exact⟨.inr (.inl ⟨(ur b z).2,rfl,#[],more,rfl,e2⟩),_,e2⟩
    exact⟨rfl,⟨λb o e=>(all b o e).1,λb o e=>(all b o e).2⟩,os,bare⟩
 have tq:∀q∈tabs,q.2∈tabs.map (·.2):=λq hq=>vj hq;cases hk:K.lookup a with
 | some o =>
  have e:=KX a o hk;rw[ha] at e;cases e;refine core (λb=>if b∈tabs.map (·.2) then some (.fY #[]) else none) (λb u z=>?_) (λq hq=>if_pos (tq q hq)) (.inr ⟨_,vs.toArray,_,hk,rfl,rfl,rfl,by rw[gB,HL];exact hl,by simpa using rv⟩) (λb u z=>?_) (λz=>absurd (if_neg aT) z)
  ·by_cases hb:b∈tabs.map (·.2)
   ·have z':=(if_pos hb).symm.trans z;cases z';exact .inr ⟨hb,rfl⟩
   ·have z':=(if_neg hb).symm.trans z;cases z'
  ·by_cases hb:b∈tabs.map (·.2)
   ·have z':=(if_pos hb).symm.trans z;cases z';exact(ur b hb).1
   ·have z':=(if_neg hb).symm.trans z;cases z'
 | none =>
  refine core (λb=>if b=a then some (.jk { cls:=.type "list",data:=.seq vs.toArray } (.lst (ns.map V.int))) else if b∈tabs.map (·.2) then some (.fY #[]) else none) (λb u z=>?_) (λq hq=>?_) (.inl (.inr ⟨{ cls:=.type "list",data:=.seq vs.toArray },if_pos rfl⟩)) (λb u z=>?_) λ_=>hk
  ·by_cases hb:b=a
   ·have z':=(if_pos hb).symm.trans z;cases z';exact .inl ⟨hb,_,_,rfl⟩
   ·have z':=(if_neg hb).symm.trans z;by_cases nM:b∈tabs.map (·.2)
    ·have z2:=(if_pos nM).symm.trans z';cases z2;exact .inr ⟨nM,rfl⟩
    ·have z2:=(if_neg nM).symm.trans z';cases z2
  ·have ne:q.2≠a:=λz=>aT (by rw[← z];exact tq q hq)
   exact(if_neg ne).trans (if_pos (tq q hq))
  ·by_cases hb:b=a
   ·have z':=(if_pos hb).symm.trans z;cases z';subst hb;exact⟨ha,by rw[aM];exact hl,vs,_,rv,ha⟩
   ·have z':=(if_neg hb).symm.trans z;by_cases nM:b∈tabs.map (·.2)
    ·have z2:=(if_pos nM).symm.trans z';cases z2;exact(ur b nM).1
    ·have z2:=(if_neg nM).symm.trans z';cases z2
theorem nJ.of{X:Cx}{scope:Scope}{cl:List (Str×Addr)}{ps fs:List Str}{fv:List Nat}(o9:closureFor scope X.env=pure cl)(kind:scope.kind = .function)(co:scope.isCoroutine=false)(gen:scope.isGenerator=false)
  (zf:(scope.names.all λy=>y.2 != .cell)=true) (par:(ps.all λy=>scope.names.lookup y == some .local)=true) (sub:AllP (λp:Str×Addr=>X.env.cells.lookup p.1=some p.2) cl) (has:(scope.names.all λy=>y.2 != .free || (cl.lookup y.1).isSome)=true)
  (free:fv.map (λj=>X.N[j]?)=fs.map some) (fk:(fs.all λy=>scope.names.lookup y == some .free && X.env.scope.names.lookup y == some .cell)=true) (nd:(ps++fs).Nodup):nJ X scope cl ps fs fv where
 o9:=o9
 kind:=kind
 co:=co
 gen:=gen
 zf:=λy hy=>by have:=mH.mp zf y hy;simpa using this
 par:=λy hy=>by have:=mH.mp par y hy;simpa using this
 sub:=sub.mem
 has:=λy hy hl=>by
  have:=mH.mp has y hy;rw[hl] at this;exact vq.mp (by simpa only[bne_self_eq_false,Bool.false_or] using this)
 free:=free
 fk:=λy hy=>by have:=mH.mp fk y hy;simpa using this
 nd:=nd
theorem dJ.okC{P:Program}{w:World}{K:W.Frag}{mg:Str->Option Value}{base:Heap}{x qual:Str}{st:Stmt}{f:Addr}{fd:FuncData}{N ps:List Str}{k:Nat}{sp:Sp}(F:dJ K x qual st f fd)(S:bH N ps (aV st))(len:∀vs H Q E,sp vs H Q E->vs.length=ps.length)
  (tQ:∀(A:Around) (outer:List Env) (s:Shared) (H:Hp) (vs:List V) (Q:VK) (E:XK),dQ k (A.deeper (envOfC qual (aV st) s.heap.objs.size f fd.code))->sp vs H Q E->
   ∃t,h_ (qk bw P w K mg base N qual (aV st) f fd.code A outer s H E).rz (gg st) t/\t { nx:=λ_ H'=>Q .aU H',rt:=Q } (start N vs) H):aY P w K mg base bw (k+1) f fd ps sp:=by
 obtain⟨oc,od,kV,doc,pm,an,aQ,ct,jJ,rfl,lk,fZ⟩:=F.ex;refine GN lk fZ S len λA outer s H vs Q E hr dF=>?_;obtain⟨t,h,q⟩:=tQ A outer s H vs Q E hr dF;exact⟨t,h.rz,q⟩
theorem aeN{l:PySem.W.OpenLaw}{n k:Nat}{q:Program}{loose:List Str}{XP:(Str->Option Value)->Heap->Prop}{YP:World->Heap->Prop}{d:DefRec}{K:Params->W.Frag}{sp:World->List (Addr×Addr)->Sp}{x:Str}
  (hn:l.most=some n) (vV:n<=sizeLine) (uc:d.params.defaults = []) (hr:dQ k callerA)
  (hY:∀(w:World) (h:Heap),YP w h->(K w.params).In h) (zo:∀w:World,noTabs (K w.params)=true)
  (F:∀(w:World) (mg:Str->Option Value) (fa:Addr) (h:Heap),YP w h->(K w.params).In h->h.Ns mainGlobals mg->mg d.name=some (.ref fa)->
   ∃(fd:FuncData) (tabs:List (Addr×Addr)),(∀(s:Shared) (u:Value),BindsTo s fd ⟨[u],[]⟩ [(x,u)])/\TabsAt tabs h/\
    ∀base:Heap,(K w.params).In base->base.Ns mainGlobals mg->(∀q∈tabs,bF mg base q.1 q.2)->aY l.prog w (K w.params) mg base bw k fa fd [x] (sp w tabs))
  (dF:∀(w:World) (tabs:List (Addr×Addr)) (H:Hp) (a:Addr) (ns:List Int),ns.length<=n->(∀q∈tabs,H q.2=some (.fY #[]))->az (K w.params) H a (ns.map V.int)->sp w tabs [.ref a] H (λv _=>v = .bl true) λ_ _ _=>False) :
  PySem.W.WalkO q loose XP YP l.row.toRowW d [] (λf vs=>PySem.call f vs):=by
 refine HD.S4 hn uc λw eg bf mg mb fa o pm cd doc a vs ns G Y ho hd fZ hmg yQ hints hlen hg=>?_;have KX:=hY w _ Y;obtain⟨fd,tabs,hb,hT,hF⟩:=F w mg fa _ Y KX G.T.g hmg;exact aeL KX G.T.g G.T.b G.T.builtins G.T.nolimit hg yQ hints (cQ hlen vV) hr hT (zo w) G.T.bmain hF hb λH II hS=>dF w tabs H a ns hlen II hS
noncomputable def qC(s:Stmt):Pos:=match gg s with
 | [.Return (some (.Call _ _ [⟨_,.Lambda _ _ _ pos,_⟩] _)) _]=>pos
 | _=>⟨0,0,0,0⟩
noncomputable def qD(x:Str):Str:=x ++ ".<locals>." ++ "<lambda>"
noncomputable def kE(r:Int)(j:Nat):Int×Int:=(((j:Int) - r).natAbs,j)
def aeO(P:Addr)(pos:Pos)(qual:Str):Sp:=λvs H Q _=>∃(r:Int) (n:Nat),vs = [.int r,.int (n:Int)]/\2<=n/\n<64/\cY P pos qual H/\
 ∀(l:Addr) (is:List Nat) (H':Hp),SameBut P H H'->cY P pos qual H'->H l=none->H' l=none->nK (kE r) n is->Q (.ref l) (upd H' l (.lst (is.map λ(i:Nat)=>V.int (i:Int))))
end _L
namespace _L
open PySem PySem.Spec PyProof.Rows
noncomputable def ju(i:Nat):Nat:=(reduceHash (Builtin.Tuple.tupleHashOf [hashInt ((i / 60:Nat):Int),hashInt ((i % 60:Nat):Int)]) % 524291).toNat
noncomputable def CO:Nat->Nat->Bool
 | 0,_=>true
 | n+1,acc=>(Nat.land acc (Nat.shiftLeft 1 (ju n)) == 0) && CO n (Nat.lor acc (Nat.shiftLeft 1 (ju n)))
theorem UC:∀(n acc:Nat),CO n acc=true->(∀i,i<n->acc.testBit (ju i)=false)/\∀i j,i<n->j<n->ju i=ju j->i=j
 | 0,_,_=>⟨λ_ h=>absurd h ∅,λ_ _ h=>absurd h ∅⟩
 | n+1,acc,h=>by
  unfold CO at h;rw[xS,mR] at h;obtain⟨h1,h2⟩:=h;have e1:acc.testBit (ju n)=false:=by
   have z:(acc &&& 1 <<< ju n).testBit (ju n)=false:=by
    show Nat.testBit (Nat.land acc (Nat.shiftLeft 1 (ju n))) _=false;rw[h1,Nat.zero_testBit]
   rw[Nat.testBit_and,Nat.testBit_shiftLeft] at z;simpa using z
  obtain⟨g1,g2⟩:=UC n _ h2;have e2:∀i,i<n->acc.testBit (ju i)=false/\ju i≠ju n:=λi hi=>by
   have z:(acc ||| 1 <<< ju n).testBit (ju i)=false:=g1 i hi
   rw[Nat.testBit_or,Nat.testBit_shiftLeft] at z;rw[Bool.or_eq_false_iff] at z;refine⟨z.1,λe=>?_⟩
   have:=z.2;rw[e] at this;simp at this
  refine⟨λi hi=>?_,λi j hi hj e=>?_⟩
  ·by_cases q:i=n
   ·rw[q];exact e1
   ·exact(e2 i ∅).1
  ·by_cases q:i=n
   ·by_cases q':j=n
    ·lia
    ·exact absurd (by rw[← e,q]) (e2 j ∅).2
   ·by_cases q':j=n
    ·exact absurd (by rw[e,q']) (e2 i ∅).2
    ·exact g2 i j ∅ ∅ e
theorem aeP:CO 3840 0=true:=by decide +kernel
theorem aeQ{a b c d:Int}(a0:0<=a)(a1:a<64)(b0:0<=b)(b1:b<60)(c0:0<=c)(c1:c<64)(d0:0<=d)(d1:d<60)
  (h:reduceHash (Builtin.Tuple.tupleHashOf [hashInt a,hashInt b])=reduceHash (Builtin.Tuple.tupleHashOf [hashInt c,hashInt d])):a=c/\b=d:=by
 have e:∀ {x y:Int},0<=x->0<=y->y<60->ju (x.toNat*60+y.toNat)=(reduceHash (Builtin.Tuple.tupleHashOf [hashInt x,hashInt y]) % 524291).toNat:=λ{x y} h0 h1 h2=>by
  unfold ju;have q1:((x.toNat*60+y.toNat) / 60:Nat)=x.toNat:=by lia
  have q2:((x.toNat*60+y.toNat) % 60:Nat)=y.toNat:=by lia
  rw[q1,q2,E8 h0,E8 h1]
 have:=(UC 3840 0 aeP).2 (a.toNat*60+b.toNat) (c.toNat*60+d.toNat) ∅ ∅ (by rw[e a0 b0 b1,e c0 d0 d1,h])
 lia
theorem UD{α:Type}{f:α->Int}:∀ {l:List α},(l.map f).Nodup->∀h:Int,(l.filter λx=>f x == h).length<=1
 | [],_,_=>eL _
 | x::l,n,h=>by
  rw[cH,kN] at n;by_cases q:f x=h
  ·have z:(l.filter λy=>f y == h) = []:=by
    rw[Fc];intro y hy e;exact n.1 (by rw[q,← (mR.mp e)];exact vj hy)
   rw[oz,if_pos (by rw[q];exact FE h),z]
   exact bu _
  ·rw[oz,if_neg (by rw[mR];exact q)]
   exact UD n.2 h
section
variable{M:Model}{prog:Program}{w:World}{A:Around}{E:Value->Shared->Prop}{s:Shared}
theorem aeR{id:String}{d:Addr}{o:Obj}{es:Array DictEntry}{ep}{Q:Array DictEntry->Shared->Prop}(ho:s.heap.get? d=some o)(hd:o.data = .dict es ep)
  (hT:∀e∈es.toList,∃t,e.key = .ref t/\s.TypeIs (.ref t) "tuple") (hn:(es.toList.map (·.hash)).Nodup) (h:Q es s):wpAny M A (Builtin.Dict.entriesForEmpty id d) Q E s:=by
 unfold Builtin.Dict.entriesForEmpty;refine aJ (sV ho hd ?_);refine aJ ?_;rw[← E5];refine BC _ (λrest _ s'=>s' = s/\∀e∈rest,e∈es.toList) _ ?_ ?_ _ _ ⟨rfl,λe he=>he⟩
 ·rintro e rest b s' ⟨rfl,hr⟩;obtain⟨t,ek,zq⟩:=hT e (hr e (by simp))
  rw[ek];unfold Builtin.Dict.quietEq;refine aJ (aJ (BD zq PySem.F.slot_tuple_eq.lookup (bq ?_)));have hz:¬ (es.filter (·.hash == e.hash)).size > 1:=by
   have:=UD hn e.hash;have e2:(es.filter (·.hash == e.hash)).size=(es.toList.filter (·.hash == e.hash)).length:=by rw[← mG,Array.toList_filter]
   lia
  have q:(some (Value.builtin "tuple.__eq__") == some (Value.builtin "object.__eq__"))=false:=by decide +kernel
  rw[q];simp only[Bool.not_false,if_true,if_neg hz];exact bq ⟨rfl,λe he=>hr e (bU _ he)⟩
 ·rintro b s' ⟨rfl,_⟩;exact bq h
theorem aeS{nm:String}{d o:Addr}{knd:HeapKind prog w (List Key)}{xs:List (List Key×Addr×Value)}{Q:Unit->Shared->Prop}(eZ:d≠o)(IJ:(o == sysModules)=false)
  (hd:s.heap.DictOfH knd d []) (ho:s.heap.DictOfH knd o xs) (hT:∀x∈xs,s.TypeIs (.ref x.2.1) "tuple") (hn:(xs.map λx=>knd.hash x.1).Nodup) (hsz:xs.length<=sizeLine)
  (hQ:∀h',(∃o' fO gX,h'.get? d=some o'/\o'.ExactDict/\o'.data = .dict fO gX/\fO.toList=xs.map (entryOfKey knd))->Heap.SameBut d s.heap h'->Q () { s with heap:=h' }) :
  wpAny (model prog w) A (Builtin.Dict.mergeDict nm d o) Q E s:=by
 obtain⟨od,esd,UE,pB,fZ,nO,hpd,_⟩:=id hd;obtain⟨oo,pC,UG,pD,UH,wQ,pF,IK,tR⟩:=id ho;have aeT:esd = #[]:=Array.toList_eq_nil_iff.mp hpd;subst aeT;unfold Builtin.Dict.mergeDict;rw[if_neg (by simpa using eZ)]
 unfold Builtin.Dict.showsAll;rw[if_neg (by rw[IJ];exact eU)]
 refine aJ (bq ?_);refine aJ (sV pD wQ ?_);dsimp only;cases hx:xs with
 | nil =>
  rw[hx] at pF;have h0:pC = #[]:=Array.toList_eq_nil_iff.mp pF;subst h0;rw[if_neg (by simp)]
  refine aJ (BB pD wQ ?_);refine aJ (sV pD wQ ?_);refine aJ ?_;rw[Std.Legacy.Range.forIn_eq_forIn_range']
  show wpAny _ _ (forIn [] _ _) _ _ _;rw[List.forIn_nil];refine bq (bq (hQ s.heap ⟨od,#[],UE,pB,fZ,nO,by rw[hx];rfl⟩ (Heap.SameBut.refl _ _)))
 | cons x rest =>
  have fV:pC.toList≠[]:=by rw[pF,hx];exact List.cons_ne_nil _ _
  have Cc:(decide (pC.size<=8) && pC.all λe=>(keyPart e.key).isSome)=false:=by
   rw[Bool.and_eq_false_iff];refine .inr ?_;rw[← Array.all_toList,pF,hx]
   rfl
  rw[Cc];refine aJ (sV pB nO ?_);rw[if_pos (by rfl)]
  refine aJ (aeR pD wQ (λe he=>?_) ?_ ?_)
  ·rw[pF] at he;obtain⟨y,hy,rfl⟩:=dh.mp he;exact⟨y.2.1,rfl,hT y hy⟩
  ·rw[pF,oA];exact hn
  have he0:pC.isEmpty=false:=by
   cases q:pC.isEmpty with
   | false=>rfl
   | true=>exact absurd (by rw[Array.isEmpty_iff.mp q]) fV
  rw[if_pos (by rw[he0];rfl)]
  have hto:pC.size<=sizeLine+1:=by
   have:pC.size=xs.length:=by rw[← mG,pF,aM]
   lia
  exact aJ (wpAny_updateDictKeysTo pB nO (bq (hQ _ ⟨_,_,UE+1,xT _ pB (Obj.isFreed_of_dict (Obj.data_mapDictKeys nO _)),fZ.mapDictKeys _,Obj.data_mapDictKeys nO _,pF⟩ (u9 ..))) hto)
end
section
variable{prog:Program}{w:World}{A:Around}{E:Value->Shared->Prop}{s:Shared}
theorem aeU{o:Addr}{xs:List (List Key×Addr×Value)}{Q:Value->Shared->Prop}(IJ:(o == sysModules)=false)(ho:s.heap.DictOfH (tupleKind (dN prog w)) o xs)(hsz:xs.length<=sizeLine)
  (hn:(xs.map λx=>(tupleKind (dN prog w)).hash x.1).Nodup)
  (h:∀h',(∃o' fO gX,h'.get? s.heap.objs.size=some o'/\o'.ExactDict/\o'.data = .dict fO gX/\fO.toList=xs.map (entryOfKey (tupleKind (dN prog w))))->Heap.SameBut s.heap.objs.size (s.heap.push { cls:=.type "dict",data:=.dict #[] }) h'->Q (.ref s.heap.objs.size) { s with heap:=h' }) :
  wpAny (model prog w) A (call (.type "dict") [.ref o]) Q E s:=by
 refine callType_codes (Q₁:=λobj bf=>obj = .ref s.heap.objs.size/\bf = { s with heap:=s.heap.push { cls:=.type "dict",data:=.dict #[] }}) PySem.F.kt_called_dict (PySem.F.kt_typeCall_dict_1 _) PySem.F.entry_dict_init (kt_code_dict_new _ ⟨rfl,rfl⟩) ?_;rintro obj bf ⟨rfl,rfl⟩;have yM:(s.heap.push { cls:=.type "dict",data:=.dict #[] }).DictOfH (tupleKind (dN prog w)) s.heap.objs.size []:=Heap.DictOfH.new s.heap;obtain⟨oo,pC,UG,pD,UH,wQ,pF,IK,tR⟩:=id ho;have zq:∀x∈xs,({ s with heap:=s.heap.push { cls:=.type "dict",data:=.dict #[] }}:Shared).TypeIs (.ref x.2.1) "tuple" := λx hx=>by
  obtain⟨o1,aB,n,g1,c1,_⟩:=(show IsTupleKey (dN prog w) s.heap x.1 x.2.1 from IK x hx);exact⟨o1,cK _ g1,c1⟩
 have gM:∀x∈xs,(tupleKind (dN prog w)).is (s.heap.push { cls:=.type "dict",data:=.dict #[] }) x.1 x.2.1:=λx hx=>by
  obtain⟨o1,aB,n,g1,c1⟩:=(show IsTupleKey (dN prog w) s.heap x.1 x.2.1 from IK x hx);exact⟨o1,aB,n,cK _ g1,c1⟩
 have jF:(s.heap.push { cls:=.type "dict",data:=.dict #[] }).DictOfH (tupleKind (dN prog w)) o xs:=⟨oo,pC,UG,cK _ pD,UH,wQ,pF,gM,tR⟩;have eZ:s.heap.objs.size≠o:=λe=>absurd (cB pD) (by rw[e];exact lF _)
 refine⟨yM.typeIs,PySem.F.args_dict_init_2 _ _,?_⟩;unfold Builtin.«dict.__init__»;refine aJ ?_;unfold Builtin.Dict.selfAndRest;refine aJ (wpAny_notOrdered_dict yM.typeIs ?_)
 show wpAny _ _ (pure (s.heap.objs.size,[Value.ref o])) _ _ _;refine bq ?_
 show wpAny _ _ (Builtin.Dict.updateFrom "dict.__init__" s.heap.objs.size (.ref o) [] .none) _ _ _;unfold Builtin.Dict.updateFrom;refine aJ (wpAny_typeOf jF.typeIs ?_);rw[if_neg ⋯]
 refine aJ ?_;unfold Builtin.Dict.merge;refine aJ ?_;unfold Builtin.Dict.readDirectly;refine aJ (wpAny_isInstance jF.typeIs isSubtype_dict_dict ?_);simp only[Bool.not_true,Bool.false_eq_true,if_false];refine aJ (BD jF.typeIs PySem.F.slot_dict_iter.lookup (bq ?_));simp only[beq_self_eq_true,if_true];refine aJ (bq ?_);refine aeS (xs:=xs) (knd:=tupleKind (dN prog w)) eZ IJ yM jF zq hn hsz λh' fS iZ=>?_
 show wpAny _ _ (Builtin.Dict.addKeywords s.heap.objs.size [] >>= _) _ _ _;exact aJ (bq (bq ⟨rfl,h h' fS iZ⟩))
end
def CQ(ks:List (List Key)):Prop:=∀(P:Program) (w:World),(ks.map (tupleKeyHash (dN P w))).Nodup
theorem KT.keys{H:Hp}{aA:List (List Key×V)}{xs:List (List Key×Addr×Value)}(h:KT H aA xs):xs.map (·.1)=aA.map (·.1):=by
 induction h with
 | nil=>rfl
 | cons hq _ ih=>rw[cH,cH,ih,hq.1]
theorem KT.len{H:Hp}{aA:List (List Key×V)}{xs:List (List Key×Addr×Value)}(h:KT H aA xs):xs.length=aA.length:=by
 have:=fR List.length h.keys;simpa using this
section
variable{X:Cx}
theorem aeV:gY X (.type "dict") (λxs H Q=>∃a aA,xs = [.ref a]/\H a=some (.dT aA)/\CQ (aA.map (·.1))/\∀p,H p=none->Q (.ref p) (upd H p (.dT aA))):=by
 intro pins s σ H xs us Q I r h;obtain⟨a,aA,rfl,ha,wR,q⟩:=h;obtain⟨u,rfl,ru⟩:=vals1 r;cases ru;obtain⟨z,hs,ks,kt,dd⟩:=Hr I.aO ha;obtain⟨o,es,ep,h1,h2,h3,h4,h5,h6⟩:=id dd;refine aeU (xs:=ks) hs dd (by rw[kt.len];exact z) (by have:=wR X.prog X.w;rw[← kt.keys,oA] at this;exact this) λh' wj iZ=>?_
 obtain⟨o',fO,gX,g1,g2,g3,g4⟩:=wj;have fr:H s.heap.objs.size=none:=I.aO.fresh (bu _);have kt':∀ob,KT (upd H s.heap.objs.size ob) aA ks:=λob=>by
  clear q ha wR z h4 h5 h6 g4 dd
  induction kt with
  | nil=>exact .nil
  | cons hq _ ih =>
   refine .cons ⟨hq.1,?_,hq.2.2⟩ ih;rw[aI (bY hq.2.1 fr)];exact hq.2.1
 refine⟨.ref s.heap.objs.size,upd H s.heap.objs.size (.dT aA),?_,rfl,q _ fr⟩;refine I.laid (a:=s.heap.objs.size) (o:=.dT aA) (t':=s.toks) (λb q hq=>?_) (bu _) ?_
 ·exact(iZ.2 b (cR (cB hq))).trans (cK _ hq)
 ·exact⟨z,lI.mpr (iC (cR I.big)),ks,kt' _,o',fO,gX,g1,g2,g3,g4,h6⟩
end
theorem UI(P:Program)(w:World)(p:Int×Int):tupleKeyHash (dN P w) (kT p)=reduceHash (Builtin.Tuple.tupleHashOf [hashInt p.1,hashInt p.2]):=by
 have e:(kT p).map (dN P w).hash = [hashInt p.1,hashInt p.2]:=rfl;unfold tupleKeyHash;rw[e]
theorem aeW{z:List (Int×Int)}(h:∀p∈z,0<=p.1/\p.1<64/\0<=p.2/\p.2<60)(nd:z.Nodup):CQ (z.map kT):=by
 intro P w;rw[oA]
 induction z with
 | nil=>exact Bh
 | cons x z ih =>
  rw[kN] at nd;rw[cH,kN];refine⟨λhm=>?_,ih (λp hp=>h p (bU _ hp)) nd.2⟩;obtain⟨y,hy,e⟩:=dh.mp hm;have hx:=h x (by simp)
  have v_:=h y (bU _ hy);rw[Function.comp_apply,Function.comp_apply,UI,UI] at e;obtain⟨e1,e2⟩:=aeQ v_.1 v_.2.1 v_.2.2.1 v_.2.2.2 hx.1 hx.2.1 hx.2.2.1 hx.2.2.2 e;exact nd.1 (by rw[show x=y from qZ e1.symm e2.symm];exact hy)
def l7(h:Heap)(d:Addr)(es:Array DictEntry)(ep:Nat):Prop:=∃o,h.get? d=some o/\o.ExactDict/\o.data = .dict es ep
section
variable{prog:Program}{w:World}{A:Around}{E:Value->Shared->Prop}{s:Shared}{d it:Addr}{es:Array DictEntry}{ep i:Nat}
theorem l7.type(m:l7 s.heap d es ep):s.TypeIs (.ref d) "dict" := let ⟨o,h1,h2,_⟩:=m;⟨o,h1,h2.1⟩
theorem l7.lt{h:Heap}(m:l7 h d es ep):d<h.objs.size:=let ⟨_,h1,_⟩:=m;cB h1
theorem l7.keep{h h':Heap}(m:l7 h d es ep)(k:∀o,h.get? d=some o->h'.get? d=some o):l7 h' d es ep:=let ⟨o,h1,r⟩:=m;⟨o,k o h1,r⟩
theorem aeX{Q:Value->Shared->Prop}(hd:(d == sysModules)=false)(m:l7 s.heap d es ep)
  (q:Q (.ref s.heap.objs.size) { s with heap:=s.heap.push { cls:=.type "dict_keyiterator",data:=.fields #[.ref d,.int 0 0,.int es.size 0,.int ep 0] }}):wpAny (model prog w) A (pyIter (.ref d)) Q E s:=by
 obtain⟨o,h1,h2,h3⟩:=id m;refine wpAny_pyIter_slot m.type PySem.F.slot_dict_iter (BA PySem.F.slot_dict_iter m.type PySem.F.entry_dict_iter ?_ (PySem.F.args_dict_iter_1 _));unfold Builtin.«dict.__iter__» Builtin.Dict.dictSlotNone;refine aJ (aJ (wpAny_notOrdered_dict m.type (show wpAny _ _ (pure (Value.ref d)) _ _ s from bq ?_)))
 show wpAny _ _ (Builtin.Dict.showsAll d >>= _) _ _ s;unfold Builtin.Dict.showsAll;rw[if_neg (by rw[hd];exact eU)]
 refine aJ (bq (aJ (sV h1 h3 (aJ (BB h1 h3 ?_)))));refine aJ (x_ (bq ⟨_,rfl, "dict_keyiterator",_,⟨_,fM _ rfl,rfl⟩,PySem.F.slot_dict_keyiterator_next.lookup,?_⟩));simpa[rawInt] using q
theorem aeY{Q:Option Value->Shared->Prop}(hit:s.heap.IsKeyIter it d i es.size ep)(m:l7 s.heap d es ep)(hi:i<es.size)
  (q:∀h',h'.IsKeyIter it d (i+1) es.size ep->Heap.SameBut it s.heap h'->Q (some es[i].key) { s with heap:=h' }):wpAny (model prog w) A (pyNext (.ref it)) Q E s:=by
 obtain⟨o,ho,hc,hd⟩:=id hit;obtain⟨od,pB,_,nO⟩:=id m;unfold pyNext;refine aJ (wpAny_attempt (wpAny_callSpecial?_slot (name:=Str.ofString "__next__") hit.typeIs Bu
  (BA Bu hit.typeIs Ru ?_ (Rt _))))
 refine aJ (bq (aJ (aJ ?_)))
 first | refine aJ (BE hit.typeIs (bq ?_)) | refine aJ (BF hit.typeIs (bq ?_))
 refine aJ (wpAny_fieldsOf ho hd ?_);simp only[show Builtin.Dict_items.ownsTuple "dict_keyiterator" = false by decide,Bool.false_eq_true,if_false]
 show wpAny _ _ (if (Value.ref d == Value.none)=true then _ else _) _ _ s
 rw[if_neg (show ¬ ((Value.ref d == Value.none)=true) from eU)];refine aJ (bq (aJ (sV pB nO ?_)));rw[if_neg (by simp)]
 refine aJ (bq (aJ (BB pB nO ?_)));rw[if_neg (by simp)]
 refine bq ?_;simp only[show ¬ ((i:Int)<0) from by lia,if_false,Int.toNat_natCast,Array.getElem?_eq_getElem hi]
 refine aJ ?_
 first | refine aJ (BE hit.typeIs (bq ?_)) | refine aJ (BF hit.typeIs (bq ?_))
 refine aJ (wpAny_isOneOf_keyiter hit.typeIs ?_)
 show wpAny _ _ (setField (.ref it) 1 (rawInt ((i:Int)+1)) >>= _) _ _ s;refine aJ (wpAny_setField ho hd (by simp) ?_)
 have uf:(s.heap.update it (Obj.mapFields (·.setIfInBounds 1 (rawInt ((i:Int)+1))))).IsKeyIter it d (i+1) es.size ep :=
  ⟨_,xT _ ho (Obj.isFreed_of_fields (Obj.data_mapFields hd _)),(Obj.cls_mapFields ..).trans hc,by rw[Obj.data_mapFields hd];simp[rawInt]⟩
 refine aJ (mS (aJ (wpAny_isOneOf_keyiter (s:={ s with heap:=s.heap.update it (Obj.mapFields (·.setIfInBounds 1 (rawInt ((i:Int)+1))))}) uf.typeIs ?_)))
 show wpAny _ _ (pure es[i].key) _ _ _;exact bq (bq ⟨_,rfl,bq (q _ uf (u9 ..))⟩)
theorem aeZ{Q:Option Value->Shared->Prop}(hh:A.handled=none)(hit:s.heap.IsKeyIter it d es.size es.size ep)(m:l7 s.heap d es ep)(q:∀h',Heap.ExtBut it s.heap h'->Q none { s with heap:=h' }):wpAny (model prog w) A (pyNext (.ref it)) Q E s:=by
 obtain⟨o,ho,hc,hd⟩:=id hit;obtain⟨od,pB,_,nO⟩:=id m;unfold pyNext;refine aJ (wpAny_attempt (wpAny_callSpecial?_slot (name:=Str.ofString "__next__") hit.typeIs Bu
  (BA Bu hit.typeIs Ru ?_ (Rt _))))
 refine aJ (bq (aJ (aJ ?_)))
 first | refine aJ (BE hit.typeIs (bq ?_)) | refine aJ (BF hit.typeIs (bq ?_))
 refine aJ (wpAny_fieldsOf ho hd ?_);simp only[show Builtin.Dict_items.ownsTuple "dict_keyiterator" = false by decide,Bool.false_eq_true,if_false]
 show wpAny _ _ (if (Value.ref d == Value.none)=true then _ else _) _ _ s
 rw[if_neg (show ¬ ((Value.ref d == Value.none)=true) from eU)];refine aJ (bq (aJ (sV pB nO ?_)));rw[if_neg (by simp)]
 refine aJ (bq (aJ (BB pB nO ?_)));rw[if_neg (by simp)]
 refine bq ?_;simp only[show ¬ ((es.size:Int)<0) from by lia,if_false,Int.toNat_natCast,Array.getElem?_eq_none (Nat.le_refl es.size)]
 refine aJ ?_
 first | refine aJ (BE hit.typeIs (bq ?_)) | refine aJ (BF hit.typeIs (bq ?_))
 show wpAny _ _ (setField (.ref it) 0 .none >>= _) _ _ s;refine aJ (wpAny_setField ho hd (by simp) ?_)
 show wpAny _ _ (newExc (.type "StopIteration") [] >>= _) _ _ _;refine aJ ?_;simp only[newExc,newTuple];refine aJ (x_ ?_ (by size_fits))
 refine aJ (m:=firstArgMember _ _) (wpAny_of_eq (a:=Value.none) (by first | rfl | (simp only[firstArgMember];rfl)) ?_)
 refine x_ ?_ (by size_fits)
 simp only[raiseNew];refine aJ (wpAny_handled ?_);rw[show A.in1.handled=none from hh];refine aJ (bq (wpAny_throw ?_));refine aJ (wpAny_isInstance (T := "StopIteration") (b:=true) ⟨_,fM _ rfl,rfl⟩ isSubtype_stop ?_);exact bq (q _ (((u9 ..).extBut.push _).push _))
theorem ae0(hh:A.handled=none)(I:Addr)(fV:d≠I):Walks prog w A I [I,d] [I] es.size (λi v=>∃e,es[i]? = some e/\v=e.key) (λi h=>h.IsKeyIter I d i es.size ep/\l7 h d es ep) where
 sub:=λb hb=>by simp at hb;simp[hb]
 frame:=λ_ _ _ st hk=>⟨st.1.at λo e=>hk I (by simp) o e,st.2.keep λo e=>hk d (by simp) o e⟩
 item:=λi s Q E hi st hQ=>aeY st.1 st.2 hi λh' uf iZ=>hQ _ h' s.toks ⟨_,AX hi,rfl⟩ ⟨uf,st.2.keep λo e=>iZ.extBut d o fV e⟩ λb o hb e=>iZ.extBut b o (λh=>hb (by simp[h])) e
 done:=λs Q E st hQ=>aeZ hh st.1 st.2 λh' ug=>hQ h' s.toks λb o hb e=>ug b o (λh=>hb (by simp[h])) e
 self:=λ_ _ _ _ st hQ=>wpAny_pyIter_keyiter st.1 hQ
theorem ae1(lo:(d == sysModules)=false):PySem.W.KdlSrc prog w "dict" d d es.size (λi v=>∃e,es[i]? = some e/\v=e.key) (λh=>l7 h d es ep) where
 type:=λ_ hm=>hm.type
 there:=λ_ hm=>⟨hm.lt,hm.lt⟩
 keep:=λ_ _ hm hk=>hm.keep λo e=>hk d (.inl rfl) o e
 notList:=by decide
 notTuple:=by decide
 hint:=λ_ _ _ _ hm hq=>PySem.W.kdl_hint_dict hm.type hq
 iter:=λ_ _ hh hm=>⟨_,_,(λ_ _ hq=>aeX lo hm hq),ae0 hh _ (cR hm.lt),⟨⟨_,fM _ rfl,rfl,rfl⟩,hm.keep λ_ e=>cK _ e⟩⟩
end
section
variable{X:Cx}
def CS(H:Hp)(aA:List (List Key×V))(ts:List Addr):Prop:=ts.length=aA.length/\∀(i:Nat) (t:Addr) (kv:List Key×V),ts[i]? = some t->aA[i]? = some kv->H t=some (.tup (kv.1.map kV))
theorem KT.at{H:Hp}{aA:List (List Key×V)}{xs:List (List Key×Addr×Value)}(h:KT H aA xs):∀(i:Nat) (x:List Key×Addr×Value) (kv:List Key×V),xs[i]? = some x->aA[i]? = some kv->H x.2.1=some (.tup (kv.1.map kV)):=by
 induction h with
 | nil=>intro i x kv e;cases e
 | @cons p q ps qs hq _ ih =>
  intro i x kv e1 e2;cases i with
  | zero =>
   rw[List.getElem?_cons_zero] at e1 e2;cases e1;cases e2;exact hq.2.1
  | succ i =>
   rw[Ba] at e1 e2;exact ih i x kv e1 e2
theorem ae2(hc:X.calm=true):gY X (.type "list") (λxs H Q=>∃a aA,xs = [.ref a]/\H a=some (.dT aA)/\∀l ts,H l=none->CS H aA ts->Q (.ref l) (upd H l (.lst (ts.map V.ref)))):=by
 intro pins s σ H xs us Q I r h;obtain⟨a,aA,rfl,ha,q⟩:=h;obtain⟨u,rfl,ru⟩:=vals1 r;cases ru;obtain⟨z,hs,ks,kt,dd⟩:=Hr I.aO ha;obtain⟨o,es,ep,h1,h2,h3,h4,h5,h6⟩:=id dd;have IL:es.size=ks.length:=by rw[← mG,h4,aM]
 refine PySem.W.kdl_call (ae1 (es:=es) (ep:=ep) hs) (I.ok.hd hc) ⟨o,h1,h2,h3⟩ (by rw[IL,kt.len];exact z) λh' tk acc c' keep hl lq=>?_
 have fr:H s.heap.objs.size=none:=I.aO.fresh (bu _);have al:acc.toList=ks.map λx=>Value.ref x.2.1:=by
  refine List.ext_getElem? λi=>?_
  by_cases hi:i<ks.length
  ·have dm:i<acc.size:=by rw[lq.1,IL];exact hi
   obtain⟨e,e1,e2⟩:=lq.2 i acc[i] (AX dm);have e3:es.toList[i]? = some e:=by rw[pU];exact e1
   rw[h4,jZ,bC hi] at e3;rw[pU,AX dm,jZ,bC hi,e2,← eN e3]
   rfl
  ·rw[sP (by rw[mG,lq.1,IL];lia),sP (by rw[aM];lia)]
 have ka:CS H aA (ks.map λx=>x.2.1):=⟨by rw[aM];exact kt.len,λi t kv e1 e2=>by
  obtain⟨x,ex,rfl⟩:=dY e1;exact kt.at i x kv ex e2⟩
 refine⟨.ref s.heap.objs.size,upd H s.heap.objs.size (.lst ((ks.map λx=>x.2.1).map V.ref)),?_,rfl,q _ _ fr ka⟩;refine I.laid (a:=s.heap.objs.size) (o:=.lst ((ks.map λx=>x.2.1).map V.ref)) (t':=tk) (λb o hb=>keep b o hb) (bu _) ?_;refine⟨by rw[aM,aM,kt.len];exact z,acc.toList,c',?_,by rw[Array.toArray_toList];exact hl⟩
 rw[al];clear al lq;generalize ks=ks
 induction ks with
 | nil=>exact .nil
 | cons x ks ih=>exact .cons rfl ih
end
noncomputable def jO(rc:List Int)(s:Int)(o:Nat):List (Int×Int):=(List.range s.toNat).map λ(j:Nat)=>((o:Int),rc.getD o 0 - s+(j:Int))
noncomputable def jP(rc:List Int)(s:Int)(us:List (Int×Int))(is:List Nat):Option (Int×Int):=(is.flatMap (jO rc s)).find? λc=>decide (c∉us)
structure Kp(P:Addr)(pos:Pos)(qual:Str)(H H':Hp):Prop where
 b:SameBut P H H'
 t:cY P pos qual H'
theorem cY.same{P:Addr}{pos:Pos}{qual:Str}{H H':Hp}(h:cY P pos qual H)(s:aj H H'):cY P pos qual H':=by
 obtain⟨ps,e,k,c⟩:=h;refine⟨ps,s _ _ e,k,?_⟩;rcases c with c | ⟨c',c1,c2⟩
 ·exact .inl c
 ·exact .inr ⟨c',c1,s _ _ c2⟩
section
variable{P:Addr}{pos:Pos}{qual:Str}{H H1 H2:Hp}
theorem Kp.step(k:Kp P pos qual H H1)(s:aj H1 H2):Kp P pos qual H H2:=⟨k.b.step s,k.t.same s⟩
theorem Kp.trans(k:Kp P pos qual H H1)(k2:Kp P pos qual H1 H2):Kp P pos qual H H2:=⟨k.b.trans k2.b,k2.t⟩
theorem Kp.of(t:cY P pos qual H)(s:aj H H1):Kp P pos qual H H1:=⟨.of s,t.same s⟩
theorem cY.ne(t:cY P pos qual H){a:Addr}{o:HO}(e:H a=some o)(n:∀ps,o≠.fY ps):a≠P:=λz=>by
 obtain⟨ps,e',_⟩:=t;rw[z,e'] at e;exact n ps (eN e).symm
theorem Kp.get(k:Kp P pos qual H H1)(t:cY P pos qual H){a:Addr}{o:HO}(e:H a=some o)(n:∀ps,o≠.fY ps:=by intro _ z;cases z):H1 a=some o:=k.b _ _ e (t.ne e n)
theorem Kp.free(k:Kp P pos qual H H1){a:Addr}(n:H1 a=none):H a=none:=by
 cases e:H a with
 | none=>rfl
 | some o =>
  by_cases z:a=P
  ·obtain⟨ps,e',_⟩:=k.t;rw[z,e'] at n;cases n
  ·rw[k.b _ _ e z] at n;cases n
theorem Kp.seq{K:W.Frag}{a:Addr}{xs:List V}(k:Kp P pos qual H H1)(t:cY P pos qual H)(h:az K H a xs):az K H1 a xs:=by
 rcases h with(h | ⟨o,h⟩) | h
 ·exact .inl (.inl (k.get t h))
 ·exact .inl (.inr ⟨o,k.get t h⟩)
 ·exact .inr h
end
theorem cY.put{P:Addr}{pos:Pos}{qual:Str}{H:Hp}{a:Addr}{o ob:HO}(t:cY P pos qual H)(e:H a=some ob)(n1:∀ps,ob≠.fY ps:=by intro _ z;cases z)(n2:∀φ,ob≠.ext φ:=by intro _ z;cases z):cY P pos qual (upd H a o):=by
 obtain⟨ps,e',k,c⟩:=t;refine⟨ps,?_,k,?_⟩
 ·rw[aI (λz=>n1 ps (by rw[z,e] at e';exact eN e'))];exact e'
 ·rcases c with c | ⟨c',c1,c2⟩
  ·exact .inl c
  ·refine .inr ⟨c',c1,?_⟩;rw[aI (λz=>n2 _ (by rw[z,e] at c2;exact eN c2))];exact c2
theorem cY.keep{P:Addr}{pos:Pos}{qual:Str}{H H':Hp}{x:Addr}{ob:HO}(t:cY P pos qual H)(h:∀b,b≠x->H' b=H b)(e:H x=some ob)(n1:∀ps,ob≠.fY ps:=by intro _ z;cases z)(n2:∀φ,ob≠.ext φ:=by intro _ z;cases z):cY P pos qual H':=by
 obtain⟨ps,e',k,c⟩:=t;refine⟨ps,?_,k,?_⟩
 ·rw[h _ (λz=>n1 ps (by rw[z,e] at e';exact eN e'))];exact e'
 ·rcases c with c | ⟨c',c1,c2⟩
  ·exact .inl c
  ·refine .inr ⟨c',c1,?_⟩;rw[h _ (λz=>n2 _ (by rw[z,e] at c2;exact eN c2))];exact c2
theorem Kp.put{P:Addr}{pos:Pos}{qual:Str}{H H1:Hp}{a:Addr}{o ob:HO}(k:Kp P pos qual H H1)(n:H a=none)(e:H1 a=some ob)(n1:∀ps,ob≠.fY ps:=by intro _ z;cases z)(n2:∀φ,ob≠.ext φ:=by intro _ z;cases z):Kp P pos qual H (upd H1 a o) :=
 ⟨λb u q h=>by rw[aI (bY q n)];exact k.b b u q h,k.t.put e n1 n2⟩
theorem ae3{rc:List Int}{s:Int}{us:List (Int×Int)}{is:List Nat}{o:Int×Int}(h:jP rc s us is=some o):o∉us:=by
 have:=List.find?_some h;simpa using this
theorem ae4{rc:List Int}{s:Int}{us:List (Int×Int)}{is:List Nat}{i o:Nat}(h:∀c∈(is.take i).flatMap (jO rc s),c∈us)(e:is[i]? = some o)(h2:∀c∈jO rc s o,c∈us) :
  ∀c∈(is.take (i+1)).flatMap (jO rc s),c∈us:=by
 intro c hc;rw[take_succ_get e,A_,fE] at hc;rcases hc with hc | hc
 ·exact h c hc
 ·exact h2 c (by simpa using hc)
theorem ae5{rc:List Int}{s:Int}{us:List (Int×Int)}{is:List Nat}(h:∀c∈is.flatMap (jO rc s),c∈us):jP rc s us is=none:=by
 unfold jP;rw[A9];intro c hc;simpa using h c hc
theorem ae6{rc:List Int}{s:Int}{us:List (Int×Int)}{is:List Nat}{i o j:Nat}(h:∀c∈(is.take i).flatMap (jO rc s),c∈us)(e:is[i]? = some o)(hj:j<s.toNat)
  (h2:∀j',j' < j->((o:Int),rc.getD o 0 - s+(j':Int))∈us) (h3:((o:Int),rc.getD o 0 - s+(j:Int))∉us):jP rc s us is=some ((o:Int),rc.getD o 0 - s+(j:Int)):=by
 have hi:=cT e;have e1:is=is.take i++o::is.drop (i+1):=by
  have:is.drop i=o::is.drop (i+1):=by
   rw[List.drop_eq_getElem_cons hi];rw[bC hi] at e;rw[eN e]
  rw[← this,vo]
 have e2:jO rc s o=(List.range j).map (λ(j:Nat)=>((o:Int),rc.getD o 0 - s+(j:Int)))++((o:Int),rc.getD o 0 - s+(j:Int))::((List.range s.toNat).drop (j+1)).map λ(j:Nat)=>((o:Int),rc.getD o 0 - s+(j:Int)):=by
  unfold jO;have:List.range s.toNat=List.range j++j::(List.range s.toNat).drop (j+1):=by
   have q:(List.range s.toNat).drop j=j::(List.range s.toNat).drop (j+1):=by
    rw[List.drop_eq_getElem_cons (by simpa using hj)]
    rw[Fe]
   have q2:(List.range s.toNat).take j=List.range j:=by
    rw[List.take_range,xX ∅]
   rw[← q,← q2,vo]
  conv=>lhs;rw[this]
  rw[bT,cH]
 unfold jP;rw[e1,A_,xV,e2,List.find?_append,A9.mpr (λc hc=>by simpa using h c hc),Option.none_or,pY,List.find?_append,
  A9.mpr (λc hc=>by
   obtain⟨j',kD,rfl⟩:=dh.mp hc;simpa using h2 j' (fF.mp kD)),Option.none_or,pZ,List.find?_cons_of_pos (by simpa using h3)]
def ae7(K:W.Frag)(P:Addr)(pos:Pos)(qual:Str):Sp:=λvs H Q _=>∃(ra ud:Addr) (r s:Int) (rc:List Int) (us:List (Int×Int)),vs = [.ref ra,.int s,.int r,.ref ud]/\az K H ra (rc.map V.int)/\2<=rc.length/\rc.length<64/\0<=s/\s<=1000/\(∀c∈rc,s<=c/\c<=1000)/\
 H ud=some (.dT (cX us))/\cY P pos qual H/\∀(is:List Nat) (H':Hp),nK (kE r) rc.length is->Kp P pos qual H H'->
  (jP rc s us is=none->Q .aU H')/\∀c t,jP rc s us is=some c->H t=none->H' t=some (.tup [.int c.1,.int c.2])->Q (.ref t) H'
inductive l8 (rc:List Int) (s:Int) (z:List (Int×Int)) (us:List (Int×Int)):List Nat->List (Nat×(Int×Int)×(Int×Int))->Prop
 | nil:l8 rc s z us [] []
 | snoc {ns:List Nat} {ms:List (Nat×(Int×Int)×(Int×Int))} {n:Nat} {c o:Int×Int} (h:l8 rc s z us ns ms) (hc:z[n]? = some c) {is:List Nat} (ho:nK (kE c.1) rc.length is)
   (hf:jP rc s (us++ms.map λm=>m.2.2) is=some o):l8 rc s z us (ns++[n]) (ms++[(n,c,o)])
theorem l8.len{rc:List Int}{s:Int}{z us:List (Int×Int)}{ns:List Nat}{ms:List (Nat×(Int×Int)×(Int×Int))}(h:l8 rc s z us ns ms):ms.length=ns.length:=by
 induction h with
 | nil=>rfl
 | snoc _ _ _ _ ih=>simp[ih]
structure jv(H:Hp)(l:Addr)(ts us os:List Addr)(ms:List (Nat×(Int×Int)×(Int×Int))):Prop where
 l:H l=some (.lst (us.map V.ref))
 n:us.length=ms.length
 no:os.length=ms.length
 t:∀(i:Nat) (u:Addr) (m:Nat×(Int×Int)×(Int×Int)),us[i]? = some u->ms[i]? = some m->∃tc to,os[i]? = some to/\H u=some (.tup [.int (m.1:Int),.ref tc,.ref to])/\ts[m.1]? = some tc/\H tc=some (.tup [.int m.2.1.1,.int m.2.1.2])/\H to=some (.tup [.int m.2.2.1,.int m.2.2.2])
theorem jv.but{P:Addr}{pos:Pos}{qual:Str}{H H':Hp}{l:Addr}{ts us os:List Addr}{ms:List (Nat×(Int×Int)×(Int×Int))}(h:jv H l ts us os ms)(t:cY P pos qual H)(k:Kp P pos qual H H'):jv H' l ts us os ms :=
 ⟨k.get t h.l,h.n,h.no,λi u m e1 e2=>let ⟨tc,to,x,a,b,c,d⟩:=h.t i u m e1 e2;⟨tc,to,x,k.get t a,b,k.get t c,k.get t d⟩⟩
theorem jv.same{H H':Hp}{l:Addr}{ts us os:List Addr}{ms:List (Nat×(Int×Int)×(Int×Int))}(h:jv H l ts us os ms)(k:aj H H'):jv H' l ts us os ms :=
 ⟨k _ _ h.l,h.n,h.no,λi u m e1 e2=>let ⟨tc,to,x,a,b,c,d⟩:=h.t i u m e1 e2;⟨tc,to,x,k _ _ a,b,k _ _ c,k _ _ d⟩⟩
theorem jv.other{H:Hp}{l x:Addr}{o:HO}{ts us os:List Addr}{ms:List (Nat×(Int×Int)×(Int×Int))}(h:jv H l ts us os ms)(hx:∃aA,H x=some (.dT aA)):jv (upd H x o) l ts us os ms:=by
 obtain⟨aA,hx⟩:=hx;have ne:∀ {a:Addr} {o':HO},H a=some o'->(∀aA,o'≠.dT aA)->a≠x:=λe n z=>n aA (by rw[z,hx] at e;exact(eN e).symm)
 refine⟨by rw[aI (ne h.l (by intro _ z;cases z))];exact h.l,h.n,h.no,λi u m e1 e2=>?_⟩
 obtain⟨tc,to,x,a,b,c,d⟩:=h.t i u m e1 e2;exact⟨tc,to,x,by rw[aI (ne a (by intro _ z;cases z))];exact a,b,by rw[aI (ne c (by intro _ z;cases z))];exact c,by rw[aI (ne d (by intro _ z;cases z))];exact d⟩
theorem jv.snoc{H:Hp}{l:Addr}{ts us os:List Addr}{ms:List (Nat×(Int×Int)×(Int×Int))}(h:jv H l ts us os ms){u tc to:Addr}{m:Nat×(Int×Int)×(Int×Int)}(hu:H u=some (.tup [.int (m.1:Int),.ref tc,.ref to]))(ht:ts[m.1]? = some tc)
  (hc:H tc=some (.tup [.int m.2.1.1,.int m.2.1.2])) (ho:H to=some (.tup [.int m.2.2.1,.int m.2.2.2])):jv (upd H l (.lst (us.map V.ref++[V.ref u]))) l ts (us++[u]) (os++[to]) (ms++[m]):=by
 have ne:∀ {a:Addr} {xs:List V},H a=some (.tup xs)->a≠l:=λe q=>by rw[q,h.l] at e;cases e
 refine⟨by rw[aE,bT];rfl,by simp[h.n],by simp[h.no],λi u' m' e1 e2=>?_⟩
 by_cases hi:i<us.length
 ·rw[d9 hi] at e1;rw[d9 (by rw[← h.n];exact hi)] at e2
  obtain⟨tc',to',x,a,b,c,d⟩:=h.t i u' m' e1 e2;exact⟨tc',to',by rw[d9 (cT x)];exact x,by rw[aI (ne a)];exact a,b,by rw[aI (ne c)];exact c,by rw[aI (ne d)];exact d⟩
 ·rw[d_ ∅] at e1
  rw[d_ (by rw[← h.n];lia),← h.n] at e2
  have hj:i - us.length=0:=by
   have:=(iB.mp e1).1;simp at this;lia
  rw[hj] at e1 e2;cases e1;cases e2;exact⟨tc,to,by rw[d_ (by rw[h.no,← h.n];lia),h.no,← h.n,hj];rfl,by rw[aI (ne hu)];exact hu,ht,by rw[aI (ne hc)];exact hc,by rw[aI (ne ho)];exact ho⟩
noncomputable def fK(bz:List (Int×Int)):Nat->List (Int×Int)->List Nat
 | _,[]=>[]
 | i,q::z=>if q∈bz then i::fK bz (i+1) z else fK bz (i+1) z
theorem CT(bz:List (Int×Int)):∀(z:List (Int×Int)) (i:Nat),kq (cX bz) i z=(fK bz i z).map λ(n:Nat)=>(n:Int)
 | [],i=>rfl
 | q::z,i=>by
  rw[kq,fK];by_cases h:q∈bz
  ·rw[HY h,if_pos (show (some (V.bl true)).isSome=true from rfl),if_pos h,cH,CT bz z]
  ·rw[yZ h,if_neg (by simp),if_neg h,CT bz z]
theorem UJ{bz:List (Int×Int)}:∀ {z:List (Int×Int)} {i n:Nat},n∈fK bz i z->i<=n/\∃c,z[n - i]? = some c/\c∈bz
 | [],i,n,h=>by cases h
 | q::z,i,n,h=>by
  rw[fK] at h;have tl:n∈fK bz (i+1) z->i<=n/\∃c,(q::z)[n - i]? = some c/\c∈bz:=λh=>by
   obtain⟨h1,c,h2,h3⟩:=UJ h;refine⟨∅,c,?_,h3⟩
   rw[show n - i=(n - (i+1))+1 by lia,Ba]
   exact h2
  split at h
  ·rename_i hq;rcases b_.mp h with rfl | h
   ·exact⟨bu _,q,by simp,hq⟩
   ·exact tl h
  ·exact tl h
theorem ae8(bz z:List (Int×Int)):(fK bz 0 z).length<=z.length:=by
 have:=HX (cX bz) z 0;rw[CT,aM] at this;exact this
theorem UK(us:List (Int×Int)){o:Int×Int}(h:o∉us):putK (cX us) (kT o) (.bl true)=cX (us++[o]):=by
 rw[SW _ (yZ h)];simp[cX]
def ae9(K:W.Frag)(P:Addr)(pos:Pos)(qual:Str):Sp:=λvs H Q _=>∃(ra na d:Addr) (s:Int) (rc:List Int) (ts:List Addr) (z bz:List (Int×Int)),vs = [.ref ra,.int s,.ref na,.ref d]/\az K H ra (rc.map V.int)/\2<=rc.length/\rc.length<64/\0<=s/\s<=1000/\(∀c∈rc,s<=c/\c<=1000)/\
 Zn H na ts z/\z.length<=1000000/\H d=some (.dT (cX bz))/\CQ (bz.map kT)/\bz.length<=1000/\cY P pos qual H/\
 (∀(os:List (Int×Int)) (r:Int) (is:List Nat),os.length<(fK bz 0 z).length->nK (kE r) rc.length is->jP rc s (bz++os) is≠none)/\
 ∀l us os ms H',Kp P pos qual H H'->H l=none->(∀t∈os,H t=none)->l8 rc s z bz (fK bz 0 z) ms->jv H' l ts us os ms->Q (.ref l) H'
theorem ae_{n j:Nat}(h:j<n):jr n (j:Int)=some j:=by
 unfold jr;rw[if_pos ∅,if_pos ∅]
 simp
noncomputable def pG(nc:List (Int×Int))(ms:List (Nat×(Int×Int)×(Int×Int))):List (Int×Int):=ms.foldl (λa m=>a.set m.1 m.2.2) nc
theorem afa(nc:List (Int×Int))(ms:List (Nat×(Int×Int)×(Int×Int)))(m:Nat×(Int×Int)×(Int×Int)):pG nc (ms++[m])=(pG nc ms).set m.1 m.2.2:=by
 unfold pG;rw[vd];rfl
theorem CU(nc:List (Int×Int))(ms:List (Nat×(Int×Int)×(Int×Int))):(pG nc ms).length=nc.length:=by
 unfold pG
 induction ms generalizing nc with
 | nil=>rfl
 | cons m ms ih=>rw[mK,ih,mL]
theorem Zn.setAt{H:Hp}{l t:Addr}{ts:List Addr}{z:List (Int×Int)}(h:Zn H l ts z){k:Nat}{c:Int×Int}(ht:H t=some (.tup [.int c.1,.int c.2])):Zn (upd H l (.lst ((ts.set k t).map V.ref))) l (ts.set k t) (z.set k c):=by
 have ne:∀ {a:Addr} {xs:List V},H a=some (.tup xs)->a≠l:=λe q=>by rw[q,h.l] at e;cases e
 refine⟨aE,by simp[h.n],λi t' p e1 e2=>?_⟩
 rw[List.getElem?_set] at e1 e2;by_cases hk:k=i
 ·subst hk;rw[if_pos rfl] at e1 e2;have hl:k<ts.length:=by
   by_cases q:k<ts.length
   ·exact q
   ·rw[if_neg q] at e1;cases e1
  rw[if_pos hl] at e1;rw[if_pos (by rw[← h.n];exact hl)] at e2
  cases e1;cases e2;rw[aI (ne ht)];exact ht
 ·rw[if_neg hk] at e1 e2;have:=h.t i t' p e1 e2;rw[aI (ne this)];exact this
def afb(K:W.Frag)(C P:Addr)(pos:Pos)(qual:Str):Sp:=λvs H Q _=>∃(p dx za sa ba:Addr) (bA kr:List Addr) (z bz:List (Int×Int)) (ao cA s:Int) (sw:List Int),vs = [.ref p,.ref za,.int ao,.int cA,.ref sa,.int s,.ref ba]/\CP K C/\cj K C "moves"/\H p=some (.ins C dx [])/\Zn H za bA z/\uh z/\
 1<=ao/\ao<=1000000000/\0<=cA/\cA<ao/\(∀p∈z,ao % p.2=0)/\az K H sa (sw.map V.int)/\SwOk sw (z.map (·.1)).sum/\Zn H ba kr bz/\bz.length<=1000/\bz.Nodup/\(∀q∈bz,0<=q.1/\q.1<(counts z).length/\0<=q.2/\q.2<(counts z).getD q.1.toNat 0)/\
 (counts z).length<64/\0<=s/\(∀c∈counts z,s<c)/\cY P pos qual H/\
 (∀(os:List (Int×Int)) (r:Int) (is:List Nat),os.length<(fK bz 0 (gj (counts z) s)).length->nK (kE r) (counts z).length is->jP (counts z) s (bz++os) is≠none)/\
 ∀H' fp mv ts us os ms,(∀b o,H b=some o->b≠p->b≠P->H' b=some o)->cY P pos qual H'->(∀b∈mv::fp,H b=none)->l8 (counts z) s (gj (counts z) s) bz (fK bz 0 (gj (counts z) s)) ms->
  HZ K C H' p ⟨counts z,ao,cA,sw,pG (gj (counts z) s) ms⟩ fp mv (us.map V.ref)->jv H' mv ts us os ms->Q .aU H'
theorem IM{α:Type}[DecidableEq α]:∀ {l l':List α},l.Nodup->(∀x∈l,x∈l')->l.length<=l'.length
 | [],_,_,_=>eL _
 | x::l,l',n,h=>by
  rw[kN] at n;have hx:=h x (by simp)
  have:=IM (l:=l) (l':=l'.erase x) n.2 λy hy=>(List.mem_erase_of_ne (λ(e:y=x)=>n.1 (by rw[← e];exact hy))).mpr (h y (bU _ hy))
  rw[List.length_erase_of_mem hx] at this;have:=List.length_pos_of_mem hx;simp only[List.length_cons];lia
theorem IP(bz:List (Int×Int)):∀(z:List (Int×Int)) (i:Nat),(fK bz i z).length=(z.filter λc=>decide (c∈bz)).length
 | [],_=>rfl
 | q::z,i=>by
  rw[fK,oz];by_cases h:q∈bz
  ·rw[if_pos h,if_pos (kO h),dR,dR,IP bz z]
  ·rw[if_neg h,if_neg (by simpa using h),IP bz z]
theorem IQ{s:Int}:∀(rc:List Int) (r:Nat) (c:Int×Int),c∈fH s r rc->∃j:Nat,j<rc.length/\c.1=((r+j:Nat):Int)/\0<=c.2/\c.2<rc.getD j 0 - s
 | [],r,c,h=>by cases h
 | x::rc,r,c,h=>by
  rw[fH,fE] at h;rcases h with h | h
  ·obtain⟨k,hk,rfl⟩:=dh.mp h;have:=fF.mp hk;exact⟨0,by simp,by simp,by show 0<=(k:Int);lia,by show (k:Int)<x - s;lia⟩
  ·obtain⟨j,h1,h2,h3,h4⟩:=IQ rc (r+1) c h;exact⟨j+1,by simpa using h1,by rw[h2];congr 1;lia,h3,by simpa using h4⟩
theorem UL(rc:List Int)(s:Int):∀is:List Nat,(is.flatMap (jO rc s)).length=is.length*s.toNat
 | []=>by simp
 | o::is=>by
  rw[xV,e_,UL rc s is,dR,Nat.succ_mul];unfold jO;simp;lia
theorem IS{rc:List Int}{s:Int}{is:List Nat}{c:Int×Int}(h:c∈is.flatMap (jO rc s)):∃o∈is,c.1=(o:Int)/\rc.getD o 0 - s<=c.2/\c.2<rc.getD o 0 - s+s.toNat:=by
 obtain⟨o,ho,hc⟩:=Fi.mp h;obtain⟨j,hj,rfl⟩:=dh.mp hc;have:=fF.mp hj;exact⟨o,ho,rfl,by show _<=rc.getD o 0 - s+(j:Int);lia,by show rc.getD o 0 - s+(j:Int)<_;lia⟩
theorem UM(rc:List Int)(s:Int):∀ {is:List Nat},is.Nodup->(is.flatMap (jO rc s)).Nodup
 | [],_=>by simp
 | o::is,n=>by
  rw[kN] at n;rw[xV,Bg];refine⟨?_,UM rc s n.2,λa ha b hb e=>?_⟩
  ·unfold jO;rw[vm,p9];refine A7 ?_ (vm.mp Bj);intro a b h e;have:=fR Prod.snd e;simp only at this;lia
  ·obtain⟨j,hj,rfl⟩:=dh.mp ha;obtain⟨o',jF,e1,_⟩:=IS hb;rw[← e] at e1;have e1:(o:Int)=(o':Int):=e1;have:o=o':=by lia
   exact n.1 (this▸jF)
theorem afc{rc:List Int}{s:Int}{bz:List (Int×Int)}(hs:0<=s)(hb:bz.length<=s.toNat*rc.length)(os:List (Int×Int))(r:Int)(is:List Nat)
  (ho:os.length<(fK bz 0 (gj rc s)).length) (ord:nK (kE r) rc.length is):jP rc s (bz++os) is≠none:=by
 intro h;unfold jP at h;rw[A9] at h;have nd:is.Nodup:=ord.1.nodup_iff.mpr Bj;have il:is.length=rc.length:=by rw[ord.1.length_eq,jD]
 have K1:=UL rc s is;have K2:=UM rc s nd;have c1:=IM (l':=(bz.filter λc => !decide (c∈gj rc s))++os) K2 λc hc=>by
  have:=h c hc;have hm:c∈bz++os:=by
   by_cases q:c∈bz++os
   ·exact q
   ·exact absurd (kO q) this
  rw[fE] at hm ⊢;rcases hm with hm | hm
  ·refine .inl (fj.mpr ⟨hm,?_⟩);rw[Bool.not_eq_true',decide_eq_false_iff_not];intro hz;obtain⟨o,jF,e1,e2,_⟩:=IS hc;obtain⟨j,j1,j2,j3,j4⟩:=IQ rc 0 c hz;have:o=j:=by lia
   rw[this] at e2;lia
  ·exact .inr hm
 have c2:=IM (l:=(gj rc s).filter λc=>decide (c∈bz)) (l':=bz.filter λc=>decide (c∈gj rc s)) ((Tv rc 0).filter _) λc hc=>by
  obtain⟨h1,h2⟩:=fj.mp hc;exact fj.mpr ⟨by simpa using h2,by simpa using h1⟩
 have c3:(bz.filter λc=>decide (c∈gj rc s)).length+(bz.filter λc => !decide (c∈gj rc s)).length=bz.length:=by
  clear h ho hb c1 c2
  induction bz with
  | nil=>rfl
  | cons x bz ih =>
   rw[oz,oz];by_cases q:x∈gj rc s
   ·rw[if_pos (kO q),if_neg (by simpa using q)];simp only[List.length_cons];lia
   ·rw[if_neg (by simpa using q),if_pos (by simpa using q)];simp only[List.length_cons];lia
 rw[IP] at ho;rw[e_] at c1;rw[K1,il,mO] at c1;lia
theorem afd(us:List (Int×Int)){o:Int×Int}(h:o∈us):putK (cX us) (kT o) (.bl true)=cX us:=by
 unfold putK;rw[wc,HY h,if_pos (show (some (V.bl true)).isSome=true from rfl)];unfold cX;rw[oA];refine vh λx _=>?_
 show (if kT x=kT o then(kT x,V.bl true) else(kT x,V.bl true))=_
 split <;> rfl
theorem CS.zn{H:Hp}{l:Addr}{ts:List Addr}{bz:List (Int×Int)}(h:CS H (cX bz) ts)(nl:H l=none):Zn (upd H l (.lst (ts.map V.ref))) l ts bz:=by
 refine⟨aE,by rw[h.1,cX,aM],λi t p e1 e2=>?_⟩
 have e3:(cX bz)[i]? = some (kT p,V.bl true):=by unfold cX;rw[List.getElem?_map,e2];rfl
 have:=h.2 i t _ e1 e3;rw[aI (bY this nl)];exact this
def CV(K:W.Frag)(tabs:List (Addr×Addr)):Sp:=λvs H Q _=>∃(a:Addr) (ns:List Int),vs = [.ref a]/\az K H a (ns.map V.int)/\ns.length<=63/\(∀q∈tabs,H q.2=some (.fY #[]))/\∀H',Q (.bl true) H'
theorem walk_lawT{l:PySem.W.OpenLaw}{k:Nat}{q:Program}{loose:List Str}{XP:(Str->Option Value)->Heap->Prop}{YP:World->Heap->Prop}{d:DefRec}{K:Params->W.Frag}{x:Str}
  (hn:l.most=some 63) (uc:d.params.defaults = []) (hr:dQ k callerA) (hY:∀(w:World) (h:Heap),YP w h->(K w.params).In h) (zo:∀w:World,PySem.W.noTabs (K w.params)=true)
  (F:∀(w:World) (mg:Str->Option Value) (fa:Addr) (h:Heap),YP w h->(K w.params).In h->h.Ns mainGlobals mg->mg d.name=some (.ref fa)->
   ∃(fd:FuncData) (tabs:List (Addr×Addr)),(∀(s:Shared) (u:Value),BindsTo s fd ⟨[u],[]⟩ [(x,u)])/\PySem.W.TabsAt tabs h/\
    ∀base:Heap,(K w.params).In base->base.Ns mainGlobals mg->(∀q∈tabs,bF mg base q.1 q.2)->aY l.prog w (K w.params) mg base bw k fa fd [x] (CV (K w.params) tabs)) :
  PySem.W.WalkO q loose XP YP l.row.toRowW d [] (λf vs=>PySem.call f vs) :=
 aeN (n:=63) (sp:=λw tabs=>CV (K w.params) tabs) hn ⋯ uc hr hY zo F (λ_ tabs H a ns hl hT hS=>⟨a,ns,rfl,hS,hl,hT,λ_=>rfl⟩)
noncomputable abbrev Us:=List (Addr×List Int)
noncomputable def uV(zs:Us):List V:=zs.map λz=>V.ref z.1
def nQ(H:Hp)(zs:Us):Prop:=∀z,z∈zs->H z.1=some (.tup (z.2.map V.int))
theorem UN(zs:Us):(uV zs).length=zs.length:=by simp[uV]
theorem afe{H:Hp}{p:Addr}{ns ms:List Int}(h:H p=some (.tup (ns.map V.int)))(h':H p=some (.tup (ms.map V.int))):ns=ms:=by
 have z:=h.symm.trans h';injection z with z;injection z with z;exact Ic z
section
variable{X:Cx}{pins:List (Addr×Obj)}{σ:St}{H:Hp}{s:Shared}
noncomputable def CW(zs:Us)(c:List Int):Value->Bool
 | .ref a=>zs.any λz=>decide (z.1=a) && decide (z.2=c)
 | _=>false
theorem IT{zs:Us}{c:List Int}(h:nQ H zs){z:Addr×List Int}(hz:z∈zs):CW zs c (.ref z.1)=decide (z.2=c):=by
 unfold CW;rw[pW];simp only[List.any_eq_true,Bool.and_eq_true,decide_eq_true_eq];constructor
 ·rintro⟨y,hy,e1,e2⟩;have:=h y hy;rw[e1] at this;exact(afe (h z hz) this).trans e2
 ·exact λe=>⟨z,hz,rfl,e⟩
theorem UO{zs:Us}{aB:List Value}(r:Vals (uV zs) aB):aB=zs.map λz=>Value.ref z.1:=by
 induction zs generalizing aB with
 | nil=>cases r;rfl
 | cons z zs ih =>
  cases r with
  | cons a b =>
  cases a;rw[ih b];rfl
theorem afg{zs:Us}{c:List Int}(h:nQ H zs):(zs.map λz=>Value.ref z.1).any (CW zs c)=decide (c∈zs.map (·.2)):=by
 rw[pW];simp only[List.any_eq_true,decide_eq_true_eq,List.mem_map];constructor
 ·rintro⟨_,⟨z,hz,rfl⟩,e⟩;rw[IT h hz,decide_eq_true_eq] at e;exact⟨z,hz,e⟩
 ·rintro⟨z,hz,e⟩;exact⟨_,⟨z,hz,rfl⟩,by rw[IT h hz,decide_eq_true_eq];exact e⟩
end
section
variable{X:Cx}
def IU(K:W.Frag)(neg:Bool):R2:=λx y H Q=>∃(a p:Addr) (c:List Int) (zs:Us),x = .ref a/\y = .ref p/\H a=some (.tup (c.map V.int))/\az K H p (uV zs)/\nQ H zs/\
 Q (.bl (if neg then !decide (c∈zs.map (·.2)) else decide (c∈zs.map (·.2)))) H
theorem afh(hu:X.A.units+16<cLine):cC X (compareOp .In) (IU X.K false):=by
 intro pins s σ H x y v u Q I rx ry h;obtain⟨a,p,c,zs,rfl,rfl,ha,hq,hz,q⟩:=h;cases ry;cases rx;obtain⟨aB,r,pl,_⟩:=I.list hq;have e:=UO r;subst e;refine SeqAt.in_listAt (CW zs c) pl.isList (λw hw=>?_) ⟨.bl _,H,I,rfl,?_⟩
 ·rw[List.mem_toArray] at hw;obtain⟨z,h1,rfl⟩:=dh.mp hw;rw[IT hz h1];exact Ie I (by show X.A.units+1+1<cLine;lia) (hz z h1) ha
 ·rw[List.any_toArray,afg hz];exact q
def UP:V->List V->Hp->VK->Prop:=λx vs H Q=>∃(l a:Addr) (zs:Us) (c:List Int),x = .ref l/\vs = [.ref a]/\H l=some (.lst (uV zs))/\nQ H zs/\H a=some (.tup (c.map V.int))/\c∈zs.map (·.2)/\
 ∀(k:Nat) (h:k<zs.length),zs[k].2=c->(∀m (hm:m<zs.length),m<k->zs[m].2≠c)->Q .aU (upd H l (.lst (uV (zs.eraseIdx k))))
end
theorem l8.at{rc:List Int}{s:Int}{z us:List (Int×Int)}{ns:List Nat}{ms:List (Nat×(Int×Int)×(Int×Int))}(h:l8 rc s z us ns ms):∀(k:Nat) (m:Nat×(Int×Int)×(Int×Int)),ms[k]? = some m->
  ns[k]? = some m.1/\z[m.1]? = some m.2.1/\∃is,nK (kE m.2.1.1) rc.length is/\jP rc s (us++(ms.take k).map λm=>m.2.2) is=some m.2.2:=by
 induction h with
 | nil=>intro k m e;simp at e
 | @snoc ns ms n c o h hc is ho hf ih =>
  intro k m e;have ln:=h.len;by_cases hk:k<ms.length
  ·rw[d9 hk] at e;obtain⟨a,b,is',c1,d⟩:=ih k m e;refine⟨by rw[d9 ∅];exact a,b,is',c1,?_⟩
   rw[Rq ∅];exact d
  ·rw[d_ ∅] at e
   have hj:k - ms.length=0:=by
    have:=(iB.mp e).1;simp at this;lia
   rw[hj] at e;cases e;have gM:k=ms.length:=by lia
   subst gM;refine⟨by rw[d_ ∅,ln];simp,hc,is,ho,?_⟩
   rw[Rq ∅,c9];exact hf
theorem UQ(bz:List (Int×Int)):∀(z:List (Int×Int)) (i k n:Nat),(fK bz i z)[k]? = some n->(z.filter λc=>decide (c∈bz))[k]? = z[n - i]?/\i<=n
 | [],i,k,n,h=>by simp[fK] at h
 | q::z,i,k,n,h=>by
  have tl:∀k,(fK bz (i+1) z)[k]? = some n->(z.filter λc=>decide (c∈bz))[k]? = (q::z)[n - i]?/\i<=n:=λk h=>by
   obtain⟨h1,h2⟩:=UQ bz z (i+1) k n h;refine⟨?_,∅⟩
   rw[h1,show n - i=(n - (i+1))+1 by lia,Ba]
  rw[fK] at h;rw[oz];by_cases hq:q∈bz
  ·rw[if_pos hq] at h;rw[if_pos (kO hq)];cases k with
   | zero =>
    rw[List.getElem?_cons_zero] at h;cases h;exact⟨by simp,bu _⟩
   | succ k =>
    rw[Ba] at h ⊢;exact tl k h
  ·rw[if_neg hq] at h;rw[if_neg (by simpa using hq)]
   exact tl k h
theorem afi{rc:List Int}{s:Int}{z bz:List (Int×Int)}{ms:List (Nat×(Int×Int)×(Int×Int))}(h:l8 rc s z bz (fK bz 0 z) ms){k:Nat}(hk:k<ms.length) :
  (z.filter λc=>decide (c∈bz))[k]? = some ms[k].2.1/\∃is,nK (kE ms[k].2.1.1) rc.length is/\jP rc s (bz++(ms.take k).map λm=>m.2.2) is=some ms[k].2.2:=by
 obtain⟨a,b,is,c,d⟩:=h.at k ms[k] (bC hk);obtain⟨e,_⟩:=UQ bz z 0 k _ a;exact⟨by rw[e,Br];exact b,is,c,d⟩
noncomputable def zU:List Addr->List (Int×Int)->Us:=λts z=>(ts.zip z).map λp=>(p.1,[p.2.1,p.2.2])
section
variable{K:W.Frag}{tl:TE}{g:TG}{tt:TT}{te:TE}{nt:Nat}{fv:List Nat}{Q:VK}{σ:St}{H:Hp}
theorem Zn.push{l t:Addr}{ts:List Addr}{z:List (Int×Int)}{c:Int×Int}(h:Zn H l ts z)(ht:H t=some (.tup [.int c.1,.int c.2])):Zn (upd H l (.lst (ts.map V.ref++[V.ref t]))) l (ts++[t]) (z++[c]):=by
 have ne:∀ {a:Addr} {xs:List V},H a=some (.tup xs)->a≠l:=λe q=>by rw[q,h.l] at e;cases e
 refine⟨by rw[aE,bT];rfl,by simp[h.n],λi t' p e1 e2=>?_⟩
 by_cases hi:i<ts.length
 ·rw[d9 hi] at e1;rw[d9 (by rw[← h.n];exact hi)] at e2
  have:=h.t i t' p e1 e2;rw[aI (ne this)];exact this
 ·rw[d_ ∅] at e1
  rw[d_ (by rw[← h.n];lia),← h.n] at e2
  have hj:i - ts.length=0:=by
   have:=(iB.mp e1).1;simp at this;lia
  rw[hj] at e1 e2;cases e1;cases e2;rw[aI (ne ht)];exact ht
end
theorem UR{s:Int}(hs:0<=s):∀(rc:List Int) (r:Nat),(∀c∈rc,c<=60)->(fH s r rc).length<=rc.length*60
 | [],_,_=>eL _
 | c::rc,r,h=>by
  have ih:=UR hs rc (r+1) λx hx=>h x (bU _ hx);have:=h c b8;rw[fH,e_,aM,jD,dR];lia
section
variable{X:Cx}
theorem IV:gY X (.type "int") (λxs H Q=>∃b,xs = [.bl b]/\Q (.int (if b then 1 else 0)) H):=by
 intro pins s σ H xs us Q I r h;obtain⟨b,rfl,q⟩:=h;obtain⟨u,rfl,ru⟩:=vals1 r;cases (show u=Value.bool b from ru);exact call_int_bool ⟨.int _,H,I.tok _,⟨_,rfl⟩,q⟩
theorem afj{pins:List (Addr×Obj)}{σ:St}{H:Hp}{s:Shared}{h':Heap}{tk:Nat}{m:Str->Option Value}(I:Inv X pins σ H s)(F:Fr X.base X.env.locals s.heap m)(F':Fr X.base X.env.locals h' m)(N':News X.base X.env.locals h' (yc X.base s.heap X.env.locals)):Inv X pins σ H { s with heap:=h',toks:=tk }:=by
 have kk:∀b o,b≠X.env.locals->s.heap.get? b=some o->h'.get? b=some o:=λb o hb e=>by
  cases q:X.base.get? b with
  | some z =>
   have:=F.keep b z q;rw[e] at this;cases this;exact F'.keep b _ q
  | none=>exact(N' (b,o) (FL hb q e)).1
 have nl:∀b v,H b=some v->b≠X.env.locals:=λb v e z=>by rw[z,I.free] at e;cases e
 refine I.step (g':=s.gens) (d':=s.drawn) (ch:=[]) (λ_ z=>nomatch z) (λb o hb _ _ e _=>kk b o hb e) (λb o hb _ _ e _=>⟨o.slots,kk b o hb e⟩) (λ_ _ _ _ n=>n) (λb o _ e=>?_) (λ_ _ e=>e) (λ_ _ _ e=>e)
  (λb ps e=>⟨#[],by rw[e];simp⟩) (λm' hm=>?_) (λb v e=>(I.aO b v e).mT (λc o hc e'=>kk c o ?_ e') (λ_ e=>e) (λ_ _ e=>e)) I.bare
 ·by_cases hb:b=X.env.locals
  ·obtain⟨o',_,_,z,_⟩:=F'.ns;exact⟨o',by rw[hb];exact z⟩
  ·exact⟨o,kk b o hb e⟩
 ·have:m' = m:=by
   obtain⟨o1,dg,Cj,g1,d1,k1,z1⟩:=hm;obtain⟨o2,nj,HQ,g2,d2,k2,z2⟩:=F.ns;rw[g1] at g2;cases g2;rw[d1] at d2;cases d2
   funext x
   rw[← z1 x,← z2 x]
  rw[this];exact F'.ns
 ·rcases hc with z | z
  ·rw[z];exact nl b v e
  ·exact nl c _ z
theorem afk(hc:X.calm=true):gY X (.builtin "max") (λxs H Q=>∃(p:Addr) (ns:List Int),xs = [.ref p]/\az X.K H p (ns.map V.int)/\0<ns.length/\∀M,M∈ns->(∀a,a∈ns->a<=M)->Q (.int M) H):=by
 intro pins s σ H xs us Q I r h;obtain⟨p,ns,rfl,hq,h0,q⟩:=h;obtain⟨u,rfl,ru⟩:=vals1 r;cases ru;obtain⟨aB,rv,pl,hz⟩:=I.list hq;obtain⟨m,F⟩:=I.fr;refine max_list_N (I.ok.hd hc) F (BI (h:=s.heap)) pl.isList (intsAre_of rv) h0 λh' M t tk F' N' h1 h2=>?_;exact⟨.int M,H,afj I F F' N',⟨t,rfl⟩,q M h1 h2⟩
end
theorem IW{α:Type}:∀r:List α,(List.range r.length).filterMap (λk=>r[k]?)=r
 | []=>rfl
 | x::r=>by
  rw[dR,List.range_succ_eq_map,sO]
  show x::_=_;rw[Fb];exact fR (x :: ·) (IW r)
theorem US{α β:Type}{f g:α->Option β}:∀ {l:List α},(∀x∈l,f x=g x)->l.filterMap f=l.filterMap g
 | [],_=>rfl
 | x::l,h=>by
  rw[sO,sO,h x b8,US λy hy=>h y (bU _ hy)]
theorem afl(aB:List Value):slicePick aB.toArray none none (some (-1))=aB.reverse.toArray:=by
 have e:sliceBounds none none (some (-1)) aB.toArray.size=((aB.length:Int) - 1,-1,-1):=by simp[sliceBounds]
 have e2:sliceRange ((aB.length:Int) - 1) (-1) (-1)=(List.range aB.length).map λk=>aB.length - 1 - k:=by
  unfold sliceRange;have c:(if (aB.length:Int) - 1 > -1 then((aB.length:Int) - 1 - -1 - -1 - 1) / (- -1) else 0).toNat=aB.length:=by
   rw[show (- -1:Int)=1 by decide,Int.ediv_one]
   split <;> lia
  simp only[show ¬ ((-1:Int) > 0) by decide,if_false]
  rw[c];refine vh λk hk=>?_;have:=fF.mp hk;lia
 unfold slicePick;rw[e]
 show (List.filterMap _ (sliceRange ((aB.length:Int) - 1) (-1) (-1))).toArray=_;rw[e2,Fb];have e3:=IW aB.reverse;rw[List.length_reverse] at e3;refine fR List.toArray (Eq.trans ?_ e3);refine US λk hk=>?_;have:=fF.mp hk;rw[List.getElem?_reverse this];simp
section
variable{X:Cx}{e st:Expr}{te ts:TE}{pos p2:Pos}
def IX(K:W.Frag)(te ts:TE):TE:=λσ H Q=>te σ H λx H1=>ts σ H1 λk H2=>∃a xs,x = .ref a/\k = .int (-1)/\az K H2 a xs/\∀p,H2 p=none->Q (.ref p) (upd H2 p (.lst xs.reverse))
theorem afm(he:PE X e te)(hs:PE X st ts):PE X (.Subscript e (.Slice none none (some st) p2) pos) (IX X.K te ts):=by
 intro pins s σ H Q I h;refine Subscript_ (aW (he pins s σ H _ I h) λv s1 ⟨x,H1,I1,r1,q1⟩=>?_);refine wpAny_Slice ?_;rw[evalPart_none];refine bq (bq ?_);rw[evalPart_some];refine aW (hs pins s1 σ H1 _ I1 q1) λvk s3 ⟨k,H3,I3,r3,zz⟩=>?_;obtain⟨a,xs,ex,ek,hx,q⟩:=zz;subst ex ek;cases r1;obtain⟨t,rfl⟩:=r3;have I4:Inv X pins σ H3 { s3 with heap:=s3.heap.push { cls:=.type "slice",data:=.fields #[.none,.none,.int (-1) t] }}:=I3.kept (t':=s3.toks) λb ob q=>cK _ q;obtain⟨aB,r,ht,hz⟩:=I4.list hx;have hlen:=r.length
 show wpAny (model X.prog X.w) X.A (subscriptTail e (.Slice none none (some st) p2) (.ref a) (.ref s3.heap.objs.size)) (EP X pins σ Q) X.xe { s3 with heap:=s3.heap.push { cls:=.type "slice",data:=.fields #[.none,.none,.int (-1) t] }};refine tail_any (ops:=[.ref a,.ref s3.heap.objs.size]) (ht.isList.typeIs) (slot_list_getitem.lookup) ?_ (by with_unfolding_all rfl)
 refine wpAny_getItem_list_slice ht.isList (Heap.IsSliceOf.new ..) .none .none (.int _ _) (by simp) ?_ (by rw[List.size_toArray] <;> lia)
 rw[afl];refine⟨.ref _,_,I4.laid (t':=s3.toks) (o:=.lst xs.reverse) (λb ob q=>cK _ q) (bu _) ?_,rfl,q _ (I4.aO.fresh (bu _))⟩;exact⟨by rw[List.length_reverse];exact hz,_,0,r.reverse,fM _ rfl⟩
end
structure qE(xs:List Int)(n:Nat):Prop where
 n:xs.length=n
 b:∀x∈xs,0<=x/\x<2147483647
theorem qE.at{xs:List Int}{n:Nat}(h:qE xs n)(i:Nat):0<=xs.getD i 0/\xs.getD i 0<2147483647:=by
 by_cases hi:i<xs.length
 ·rw[show xs.getD i 0=xs[i] by simp[hi]];exact h.b _ (cI hi)
 ·rw[show xs.getD i 0=0 by simp;rw[sP ∅];rfl];lia
theorem qE.md{xs:List Int}{n:Nat}(h:qE xs n)(i:Nat){k:Int}(hk:0<k):0<=xs.getD i 0 % k/\xs.getD i 0 % k<k:=⟨fD _ ∅,fB _ hk⟩
def afn:Sp:=λvs H Q _=>∃(c m:Int),vs = [.int c,.int m]/\0<=m/\m<=100/\∀(l:Addr) (ns:List Int) (H':Hp),aj H H'->H l=none->H' l=some (.lst (ns.map V.int))->qE ns m.toNat->Q (.ref l) H'
noncomputable def sumF(f:Nat->Int):Nat->Int
 | 0=>0
 | i+1=>sumF f i+f i
theorem UT{f:Nat->Int}(hd:∀i,f (i+1)<=f i)(a:Nat):∀b,f (a+b)<=f b
 | b=>by
  induction a with
  | zero=>rw[qY];exact kL _
  | succ a ih=>rw[show a+1+b=a+b+1 by lia];exact A5 (hd _) ih
theorem UU{f:Nat->Int}(hd:∀i,f (i+1)<=f i)(a:Nat):∀b,sumF f (a+b)<=sumF f a+sumF f b
 | 0=>by simp[sumF]
 | b+1=>by
  have ih:=UU hd a b;have:=UT hd a b;rw[← Nat.add_assoc,sumF,sumF];lia
theorem UW{f:Nat->Int}(h1:1<=f 0)(hd:∀i,0<=f i/\f (i+1)<=f i):∀i:Nat,(1<=i->1<=sumF f i)/\0<=sumF f i/\sumF f i<=f 0*(i:Int)
 | 0=>by simp[sumF]
 | i+1=>by
  have ih:=UW h1 hd i;have h2:=(hd i).1;have h3:f i<=f 0:=UT (λi=>(hd i).2) i 0;have e:f 0*((i+1:Nat):Int)=f 0*(i:Int)+f 0:=by
   rw[show ((i+1:Nat):Int)=(i:Int)+1 by lia,Int.mul_add,Int.mul_one]
  refine⟨λ_=>?_,?_,?_⟩
  ·rw[sumF];by_cases hi:i=0
   ·subst hi;simp only[sumF];lia
   ·have:=ih.1 ∅;lia
  ·rw[sumF];lia
  ·rw[sumF,e];lia
theorem UX{f:Nat->Int}(h1:1<=f 0)(h7:f 0<=10000000)(hd:∀i,0<=f i/\f (i+1)<=f i){n:Nat}(h2:2<=n)(apj:n<=100):SwOk ((List.range n).map (sumF f)) (n:Int):=by
 refine⟨by simp,∅,by rw[range_getD ∅];rfl,λi uu hi=>?_,λi uu hi=>?_,λa b ha hb yX=>?_⟩
 ·rw[aM,jD] at hi;rw[range_getD hi];have:=UW h1 hd i;have e:f 0*(i:Int)<=10000000*(i:Int):=Int.mul_le_mul_of_nonneg_right h7 ∅
  have:=this.1 uu;lia
 ·rw[aM,jD] at hi;rw[range_getD hi,range_getD ∅]
  obtain⟨j,rfl⟩:∃j,i=j+1:=⟨i - 1,∅⟩
  have:=(hd j).1;rw[sumF];show sumF f j<=_;lia
 ·rw[aM,jD] at yX;rw[range_getD yX,range_getD ∅,range_getD ∅]
  exact UU (λi=>(hd i).2) a b
noncomputable def gO(xs:List Int)(s0:Int):Nat->Int
 | 0=>s0
 | i+1=>gO xs s0 i - xs.getD (12+(1+(i:Int)) % 10).toNat 0 % (gO xs s0 i+1)
theorem CY(xs:List Int){s0:Int}(h:1<=s0):∀i,0<=gO xs s0 i/\gO xs s0 (i+1)<=gO xs s0 i:=by
 have h0:∀i,0<=gO xs s0 i:=λi=>by
  induction i with
  | zero=>simp only[gO];lia
  | succ i ih =>
   rw[gO];have:=fB (xs.getD (12+(1+(i:Int)) % 10).toNat 0) (show 0<gO xs s0 i+1 by lia)
   lia
 intro i;refine⟨h0 i,?_⟩;have:=h0 i;rw[gO];have:=fD (xs.getD (12+(1+(i:Int)) % 10).toNat 0) (show gO xs s0 i+1≠0 by lia)
 lia
def afo(K:W.Frag):Sp:=λvs H Q _=>∃(xa:Addr) (xs:List Int) (m:Int),vs = [.ref xa,.int m]/\H xa=some (.lst (xs.map V.int))/\qE xs 24/\2<=m/\m<=60/\
 ∀l sw H',aj H H'->H l=none->H' l=some (.lst (sw.map V.int))->SwOk sw m->Q (.ref l) H'
structure i9(H:Hp)(t:Addr)(z:List (Int×Int))(ao sk:Int)(sw:List Int)(za:Addr)(bA:List Addr)(ca sa:Addr):Prop where
 o:H t=some (.tup [.ref za,.ref ca,.int ao,.int sk,.ref sa])
 zn:Zn H za bA z
 c:H ca=some (.lst ((counts z).map V.int))
 s:H sa=some (.lst (sw.map V.int))
structure i_(z:List (Int×Int))(ao sk:Int)(sw:List Int):Prop where
 zl:ZL z
 l1:1<=ao
 l2:ao<=1000000000
 l3:∀p∈z,ao % p.2=0
 k0:0<=sk
 k1:sk<ao
 so:SwOk sw (z.map (·.1)).sum
theorem i9.same{H H':Hp}{t:Addr}{z:List (Int×Int)}{ao sk:Int}{sw:List Int}{za:Addr}{bA:List Addr}{ca sa:Addr}(h:i9 H t z ao sk sw za bA ca sa)(s:aj H H'):i9 H' t z ao sk sw za bA ca sa :=
 ⟨s _ _ h.o,h.zn.same s,s _ _ h.c,s _ _ h.s⟩
def afp(K:W.Frag):Sp:=λvs H Q _=>∃(c m:Int),vs = [.int c,.int m]/\∀t z ao sk sw za bA ca sa H',aj H H'->H t=none->i9 H' t z ao sk sw za bA ca sa->i_ z ao sk sw->Q (.ref t) H'
noncomputable def bN(z:List (Int×Int))(ao sk:Int)(sw:List Int)(nc:List (Int×Int)):Pl:=⟨counts z,ao,sk,sw,nc⟩
theorem i_.pl{z:List (Int×Int)}{ao sk:Int}{sw:List Int}(h:i_ z ao sk sw)(nc:List (Int×Int)):fJ (bN z ao sk sw nc):=adU h.zl h.l1 h.so
theorem afq(P:Pl)(r c b:Int):b+(c*(P.ao / P.rc.getD r.toNat 0)+r*P.cA - b) % P.ao=jM P r c b:=by
 unfold jM o7;rw[A6 ((c*(P.ao / P.rc.getD r.toNat 0)+r*P.cA) % P.ao),A4 _ (A2 _),← A6]
def afr(K:W.Frag):Sp:=λvs H Q _=>∃(t:Addr) (z:List (Int×Int)) (ao sk:Int) (sw:List Int) (za:Addr) (bA:List Addr) (ca sa:Addr) (r b:Int) (cl:Addr) (bx:List Addr) (cz:List (Int×Int)),vs = [.ref t,.int r,.int b,.ref cl]/\
 i9 H t z ao sk sw za bA ca sa/\i_ z ao sk sw/\0<=r/\r<(counts z).length/\Zn H cl bx cz/\iJ (bN z ao sk sw []) cz/\cz.length<=1000/\
 ∀l ts H',aj H H'->H l=none->(∀t∈ts,H t=none)->Zt H' l ts (dZ (bN z ao sk sw []) (r,b) cz)->Q (.ref l) H'
def afs(K:W.Frag):Sp:=λvs H Q _=>∃(t:Addr) (z:List (Int×Int)) (ao sk:Int) (sw:List Int) (za:Addr) (bA:List Addr) (ca sa:Addr) (r b:Int) (cl:Addr) (bx:List Addr) (cz:List (Int×Int)),vs = [.ref t,.int r,.int b,.ref cl]/\
 i9 H t z ao sk sw za bA ca sa/\i_ z ao sk sw/\0<=r/\r<(counts z).length/\Zn H cl bx cz/\iJ (bN z ao sk sw []) cz/\cz.length<=1000/\
 ∀u H',aj H H'->H u=none->H' u=some (.tup [.int (a_ (bN z ao sk sw []) (r,b) cz).1,.int (a_ (bN z ao sk sw []) (r,b) cz).2])->Q (.ref u) H'
theorem UY(P:Pl):∀(xs:List (Int×Int)) (s:Int×Int) {i:Nat},i<xs.length->∃x y,(dZ P s xs).getD i [] = [(a_ P s (xs.take (i+1))).1,x,y,(a_ P s (xs.take (i+1))).2]
 | [],_,i,h=>by simp at h
 | q::xs,s,0,_=>⟨q.2,rP P s q,by simp[dZ,qx,a_,dM]⟩
 | q::xs,s,i+1,h=>by
  obtain⟨x,y,e⟩:=UY P xs (dM P s q) (i:=i) (by simpa using h)
  refine⟨x,y,?_⟩;rw[dZ,List.getD_cons_succ,e,List.take_succ_cons,a_]
structure ZP(z:List (Int×Int)):Prop where
 r:∀p∈z,1<=p.1/\p.1<=3/\1<=p.2/\p.2<=8
 s2:2<=(z.map (·.1)).sum
theorem UZ:∀ {z:List (Int×Int)},(∀p∈z,1<=p.1/\p.1<=3)->0<=(z.map (·.1)).sum/\(z.map (·.1)).sum<=3*(z.length:Int)
 | [],_=>by simp
 | p::z,h=>by
  have ih:=UZ λq hq=>h q (bU _ hq);have:=h p b8;rw[cH,qa,dR];lia
theorem ZP.snoc{z:List (Int×Int)}(h:ZP z){p:Int×Int}(hp:1<=p.1/\p.1<=3/\1<=p.2/\p.2<=8):ZP (z++[p]):=by
 refine⟨λq hq=>?_,?_⟩
 ·rcases fE.mp hq with hq | hq
  ·exact h.r q hq
  ·rw[fQ.mp hq];exact hp
 ·have:=h.s2;rw[bT,xW];simp;lia
theorem ZP.zl{z:List (Int×Int)}(h:ZP z)(h1:1<=z.length)(h3:z.length<=3):ZL z:=by
 have s:=UZ λp hp=>⟨(h.r p hp).1,(h.r p hp).2.1⟩;have s2:=h.s2;refine⟨⟨h1,∅,λp hp=>?_,s2,∅⟩,?_,∅⟩
 ·have:=h.r p hp;lia
 ·have b:=(Cq (m:=8) ⋯ z λp hp=>(h.r p hp).2.2).2
  have:=Tq (m:=8) ⋯ (show z.length<=5 by lia)
  have e:(8:Int) ^ 5=32768:=by decide
  lia
theorem aft{z:List (Int×Int)}{i:Nat}{p:Int×Int}(h:z[i]? = some p):counts (z.take (i+1))=counts (z.take i)++List.replicate p.1.toNat p.2:=by
 rw[take_succ_get h];simp[counts]
theorem U0{z:List (Int×Int)}(zl:ZL z){x:Int}(h0:0<=x)(h1:x<900\/x<1000000000 / eX z):1<=eX z*(1+x)/\eX z*(1+x)<=1000000000/\∀p∈z,eX z*(1+x) % p.2=0:=by
 have hb:=Cq (m:=60) ⋯ z λp hp=>(zl.ok.r p hp).2.2
 have hp:=zl.pr;have hm:∃m,1+x<=m/\eX z*m<=1000000000:=by
  rcases h1 with h1 | h1
  ·exact⟨900,∅,∅⟩
  ·exact⟨1000000000 / eX z,∅,Int.mul_ediv_self_le ∅⟩
 obtain⟨m,m1,m2⟩:=hm;refine⟨?_,?_,λp hp=>Int.emod_eq_zero_of_dvd (Int.dvd_trans (Tp hp) (Int.dvd_mul_right _ _))⟩
 ·have:=pX hb.1 (show 1<=1+x by lia) ⋯ ∅;lia
 ·have:=pX (kL (eX z)) m1 ∅ ∅;lia
theorem Zn.one{H:Hp}{l t:Addr}{c:Int×Int}(h:H t=some (.tup [.int c.1,.int c.2]))(nl:H l=none):Zn (upd H l (.lst [.ref t])) l [t] [c]:=by
 refine⟨aE,rfl,λi t' p e1 e2=>?_⟩;cases i with
 | zero =>
  simp at e1 e2;subst e1 e2;rw[aI (bY h nl)];exact h
 | succ i=>simp at e1
theorem U1(v:Int):∀k:Nat,(List.replicate k [V.int v]).flatten=(List.replicate k v).map V.int
 | 0=>rfl
 | k+1=>by rw[p_,vc,U1 v k,p_,cH];rfl
structure uv(rc:List Int)(nc:List (Int×Int)):Prop where
 n2:2<=nc.length
 n1:nc.length<=1000
 c:∀q∈nc,0<=q.1/\q.1<rc.length/\0<=q.2/\q.2<rc.getD q.1.toNat 0
theorem U3{c:Int×Int}:∀(ms:List (Nat×(Int×Int)×(Int×Int))) (nc:List (Int×Int)),c∈pG nc ms->c∈nc\/∃m∈ms,c=m.2.2
 | [],nc,h=>.inl h
 | m::ms,nc,h=>by
  have h:c∈pG (nc.set m.1 m.2.2) ms:=h;rcases U3 ms _ h with h | ⟨m',hm,e⟩
  ·rcases Fj h with h | h
   ·exact .inl h
   ·exact .inr ⟨m,b8,h⟩
  ·exact .inr ⟨m',bU _ hm,e⟩
theorem U4{rc:List Int}{s:Int}{bz:List (Int×Int)}{ms:List (Nat×(Int×Int)×(Int×Int))}(h2:2<=rc.length)(U5:rc.length<=15)(wU:∀c∈rc,s<c/\c<=60)(hs:0<=s)(L:l8 rc s (gj rc s) bz (fK bz 0 (gj rc s)) ms):uv rc (pG (gj rc s) ms):=by
 have gd:∀i:Nat,i<rc.length->rc.getD i 0∈rc:=λi hi=>by rw[show rc.getD i 0=rc[i] by simp[hi]];exact cI hi
 have ge:∀(rc:List Int) (r:Nat),(∀c∈rc,s<c)->rc.length<=(fH s r rc).length:=by
  intro rc
  induction rc with
  | nil=>intro r _;exact eL _
  | cons c rc ih =>
   intro r h;have:=ih (r+1) λx hx=>h x (bU _ hx);have:=h c b8;rw[fH,e_,aM,jD,dR];lia
 have lo:=ge rc 0 λc hc=>(wU c hc).1;have hi:=UR hs rc 0 λc hc=>(wU c hc).2;refine⟨by rw[CU];exact cQ h2 lo,by rw[CU];exact cQ hi ∅,λq hq=>?_⟩
 rcases U3 ms _ hq with hq | ⟨m,hm,rfl⟩
 ·obtain⟨j,j1,j2,j3,j4⟩:=IQ rc 0 q hq;rw[show q.1.toNat=j by lia]
  lia
 ·obtain⟨k,hk,rfl⟩:=jh.mp hm;obtain⟨_,is,ord,ff⟩:=afi L hk;unfold jP at ff;obtain⟨_,as,bs,e,_⟩:=List.find?_eq_some_iff_append.mp ff;have zh:ms[k].2.2∈is.flatMap (jO rc s):=by rw[e];simp
  obtain⟨o,ho,o1,o2,o3⟩:=IS zh;have ol:=fF.mp (ord.1.mem_iff.mp ho);have:=wU _ (gd o ol);rw[show ms[k].2.2.1.toNat=o by lia]
  lia
theorem afu{rc:List Int}(h2:2<=rc.length)(U5:rc.length<=15)(wU:∀c∈rc,0<c/\c<=60):uv rc (gj rc 0):=by
 have:=U4 (s:=0) (bz:=[]) (ms:=[]) h2 U5 wU (kL _) (by
  have e:∀(z:List (Int×Int)) (i:Nat),fK [] i z = []:=by
   intro z
   induction z with
   | nil=>intro i;rfl
   | cons q z ih=>intro i;simp[fK,ih]
  rw[e];exact .nil)
 exact this
def afv(K:W.Frag)(cs:List Addr)(P:Addr)(pos:Pos)(qual:Str):Sp:=λvs H Q _=>∃(t:Addr) (z:List (Int×Int)) (ao sk:Int) (sw:List Int) (za:Addr) (bA:List Addr) (ca sa:Addr) (c:Int),vs = [.ref t,.int c]/\
 i9 H t z ao sk sw za bA ca sa/\i_ z ao sk sw/\cY P pos qual H/\
 ∀C p nc fp H',(∀b o,H b=some o->b≠P->H' b=some o)->C∈cs->cW K C H' p (bN z ao sk sw nc) fp->uv (counts z) nc->Q (.ref p) H'
theorem i9.but{H H':Hp}{P:Addr}{pos:Pos}{qual:Str}{t:Addr}{z:List (Int×Int)}{ao sk:Int}{sw:List Int}{za:Addr}{bA:List Addr}{ca sa:Addr}(h:i9 H t z ao sk sw za bA ca sa)(T:cY P pos qual H)(k:∀b o,H b=some o->b≠P->H' b=some o):i9 H' t z ao sk sw za bA ca sa:=by
 have g:∀ {a:Addr} {o:HO},H a=some o->(∀ps,o≠.fY ps)->H' a=some o:=λe n=>k _ _ e (T.ne e n);exact⟨g h.o (λ_ z=>nomatch z),⟨g h.zn.l (λ_ z=>nomatch z),h.zn.n,λi t p e1 e2=>g (h.zn.t i t p e1 e2) (λ_ z=>nomatch z)⟩,g h.c (λ_ z=>nomatch z),g h.s (λ_ z=>nomatch z)⟩
noncomputable def gm(nc:List (Int×Int))(f m:Int):List (Int×Int):=(nc.drop f.toNat).take m.toNat
theorem U6{nc:List (Int×Int)}{f m:Int}{c:Int×Int}(h:c∈gm nc f m):c∈nc:=Bf (oB h)
theorem U7{nc:List (Int×Int)}{f m:Int}(h0:0<=f)(h1:0<=m)(h:f+m<=nc.length):(gm nc f m).length=m.toNat:=by
 unfold gm;rw[dH,ve];lia
theorem IY{nc:List (Int×Int)}{f:Int}{i:Nat}{c:Int×Int}(h0:0<=f)(h:nc[(f+(i:Int)).toNat]? = some c):(nc.drop f.toNat).take (i+1)=(nc.drop f.toNat).take i++[c]:=by
 refine take_succ_get ?_;rw[List.getElem?_drop,show f.toNat+i=(f+(i:Int)).toNat by lia];exact h
def afw(K:W.Frag)(cs:List Addr)(CA:Addr):Sp:=λvs H Q _=>∃(C p ap:Addr) (P:Pl) (fp:List Addr) (q:Ak) (m b dx:Addr),vs = [.ref p,.ref ap]/\C∈cs/\cW K C H p P fp/\kB K CA H ap q m b dx/\Ip P.nc.length q/\P.nc.length<=1000000/\
 ∀l ts H',aj H H'->H l=none->Zn H' l ts (gm P.nc q.first q.many)->Q (.ref l) H'
def afx(K:W.Frag)(cs:List Addr)(CA:Addr):Sp:=λvs H Q _=>∃(C p ap:Addr) (k:Int) (P:Pl) (fp:List Addr) (q:Ak) (m b dx:Addr),vs = [.ref p,.int k,.ref ap]/\C∈cs/\cW K C H p P fp/\kB K CA H ap q m b dx/\Ip P.nc.length q/\P.nc.length<=1000000/\
 ∀l ts H',aj H H'->H l=none->Zn H' l ts (gm P.nc q.first q.many)->Q (.ref l) H'
structure Dr where
 n:Int
 q:Ak
 c:List (Int×Int)
noncomputable def qF(n:Int)(ap l:Addr):List (Str×V):=[("number",.int n),("ask",.ref ap),("cells",.ref l)]
structure jQ(K:W.Frag)(CA CD:Addr)(H:Hp)(p:Addr)(d:Dr)(dx ap l:Addr)(ts:List Addr)(m b cu:Addr):Prop where
 o:H p=some (.ins CD dx (qF d.n ap l))
 a:kB K CA H ap d.q m b cu
 c:Zn H l ts d.c
theorem jQ.same{K:W.Frag}{CA CD:Addr}{H H':Hp}{p:Addr}{d:Dr}{dx ap l:Addr}{ts:List Addr}{m b cu:Addr}(h:jQ K CA CD H p d dx ap l ts m b cu)(s:aj H H'):jQ K CA CD H' p d dx ap l ts m b cu:=⟨s _ _ h.o,h.a.same s,h.c.same s⟩
def afy(K:W.Frag)(cs:List Addr)(CA CD:Addr):Sp:=λvs H Q _=>∃(C p pl ap dx:Addr) (n:Int) (P:Pl) (fp:List Addr) (q:Ak) (m b cu:Addr),vs = [.ref p,.ref pl,.int n,.ref ap]/\H p=some (.ins CD dx [])/\C∈cs/\cW K C H pl P fp/\p≠pl/\p∉fp/\kB K CA H ap q m b cu/\Ip P.nc.length q/\P.nc.length<=1000000/\
 ∀l ts H',H l=none->SameBut p H H'->jQ K CA CD H' p ⟨n,q,gm P.nc q.first q.many⟩ dx ap l ts m b cu->Q .aU H'
structure Kn where
 n:Int
 f:Int
 m:Int
 w:Bool
 bh:List Int
 lX:Option Int
 c:List (Int×Int)
structure iL(H:Hp)(t:Addr)(k:Kn)(b cl:Addr)(bx:List Addr):Prop where
 o:H t=some (.tup [.int k.n,.int k.f,.int k.m,.bl k.w,.ref b,jN k.lX,.ref cl])
 b:H b=some (.tup (k.bh.map V.int))
 c:Zn H cl bx k.c
theorem iL.same{H H':Hp}{t:Addr}{k:Kn}{b cl:Addr}{bx:List Addr}(h:iL H t k b cl bx)(s:aj H H'):iL H' t k b cl bx:=⟨s _ _ h.o,s _ _ h.b,h.c.same s⟩
structure fW(H:Hp)(l:Addr)(ts:List Addr)(ks:List Kn):Prop where
 l:H l=some (.lst (ts.map V.ref))
 n:ts.length=ks.length
 t:∀(i:Nat) (t:Addr) (k:Kn),ts[i]? = some t->ks[i]? = some k->∃b cl bx,iL H t k b cl bx
theorem fW.same{H H':Hp}{l:Addr}{ts:List Addr}{ks:List Kn}(h:fW H l ts ks)(s:aj H H'):fW H' l ts ks :=
 ⟨s _ _ h.l,h.n,λi t k e1 e2=>let ⟨b,cl,bx,a⟩:=h.t i t k e1 e2;⟨b,cl,bx,a.same s⟩⟩
theorem fW.at{H:Hp}{l:Addr}{ts:List Addr}{ks:List Kn}(h:fW H l ts ks){i:Nat}(hi:i<ks.length):∃t b cl bx,(ts.map V.ref)[i]? = some (.ref t)/\iL H t ks[i] b cl bx:=by
 have ht:i<ts.length:=by rw[h.n];exact hi
 obtain⟨b,cl,bx,a⟩:=h.t i ts[i] ks[i] (bC ht) (bC hi);exact⟨ts[i],b,cl,bx,by simp[ht],a⟩
theorem fW.sq{K:W.Frag}{H:Hp}{l:Addr}{ts:List Addr}{ks:List Kn}(h:fW H l ts ks):az K H l (ts.map V.ref):=az.of h.l
theorem iL.fT{H:Hp}{l t:Addr}{xs ys:List V}{k:Kn}{b cl:Addr}{bx:List Addr}(hl:H l=some (.lst xs))(hc:cl≠l)(h:iL H t k b cl bx):iL (upd H l (.lst ys)) t k b cl bx:=by
 have ne:∀ {a:Addr} {us:List V},H a=some (.tup us)->a≠l:=λe z=>by rw[z,hl] at e;cases e
 refine⟨(aI (ne h.o)).trans h.o,(aI (ne h.b)).trans h.b,h.c.keep (aI hc) λt ht=>?_⟩;obtain⟨i,hi,et⟩:=jh.mp ht;have dm:i<k.c.length:=by rw[← h.c.n];exact hi
 have:=h.c.t i t _ (by rw[← et];exact bC hi) (bC dm)
 exact aI (ne this)
structure nR(H0 H:Hp)(l:Addr)(ts:List Addr)(ks:List Kn):Prop where
 hl:H l=some (.lst (ts.map V.ref))
 n:ts.length=ks.length
 nl:H0 l=none
 t:∀(i:Nat) (t:Addr) (k:Kn),ts[i]? = some t->ks[i]? = some k->∃b cl bx,cl≠l/\iL H t k b cl bx
theorem nR.zu{H0 H:Hp}{l:Addr}{ts:List Addr}{ks:List Kn}(h:nR H0 H l ts ks):fW H l ts ks:=⟨h.hl,h.n,λi t k e1 e2=>let ⟨b,cl,bx,_,a⟩:=h.t i t k e1 e2;⟨b,cl,bx,a⟩⟩
theorem nR.same{H0 H H':Hp}{l:Addr}{ts:List Addr}{ks:List Kn}(h:nR H0 H l ts ks)(s:aj H H'):nR H0 H' l ts ks :=
 ⟨s _ _ h.hl,h.n,h.nl,λi t k e1 e2=>let ⟨b,cl,bx,n,a⟩:=h.t i t k e1 e2;⟨b,cl,bx,n,a.same s⟩⟩
theorem nR.snoc{H0 H:Hp}{l:Addr}{ts:List Addr}{ks:List Kn}(h:nR H0 H l ts ks){t:Addr}{k:Kn}{b cl:Addr}{bx:List Addr}(hk:iL H t k b cl bx)(hc:cl≠l):nR H0 (upd H l (.lst (ts.map V.ref++[.ref t]))) l (ts++[t]) (ks++[k]):=by
 refine⟨by rw[aE,bT];rfl,by simp[h.n],h.nl,λi t' k' e1 e2=>?_⟩
 have hn:=h.n;by_cases hi:i<ts.length
 ·rw[d9 hi] at e1;rw[d9 ∅] at e2
  obtain⟨b',uw,zw,n',a'⟩:=h.t i t' k' e1 e2;exact⟨b',uw,zw,n',a'.fT h.hl n'⟩
 ·rw[d_ ∅] at e1
  rw[d_ ∅] at e2
  have dm:i - ts.length=0:=by
   have:=(iB.mp e1).1;simp at this;lia
  rw[dm] at e1;rw[← hn,dm] at e2;simp at e1 e2;subst e1 e2;exact⟨b,cl,bx,hc,hk.fT h.hl hc⟩
structure ux(nc:List (Int×Int))(k:Kn):Prop where
 f0:0<=k.f
 m0:1<=k.m
 m1:k.m<=16
 fit:k.f+k.m<=nc.length
 c:k.c=gm nc k.f k.m
 r:o8 k.bh
 l:∀x,k.lX=some x->0<=x/\x<=10000000000000
structure uy(nc:List (Int×Int))(ks:List Kn):Prop where
 ok:∀k∈ks,ux nc k
 up:ks.Pairwise λa b=>a.n<b.n
 n7:ks.length<=7
def U8(k:Kn)(q:Ak):Prop:=q.first=k.f/\q.many=k.m/\q.behind=k.bh/\q.kind=(if k.w then "write" else "read")/\q.T3=k.lX
def afz(K:W.Frag)(C:Addr):Sp:=λvs H Q _=>∃(t:Addr) (k:Kn) (b cl:Addr) (bx:List Addr) (c:Int) (nc:List (Int×Int)),vs = [.ref t,.int c]/\iL H t k b cl bx/\ux nc k/\nc.length<=1000000/\
 ∀q p mk bb dx H',U8 k q->aj H H'->H p=none->kB K C H' p q mk bb dx->Q (.ref p) H'
def afA:Sp:=λvs H Q _=>∃n:Int,vs = [.int n]/\Q (.bl true) H
noncomputable def fz(P:Pl)(cz:List (Int×Int)):Int:=(cz.map λq=>P.ao / P.rc.getD q.1.toNat 0).sum
def afB(K:W.Frag)(cs:List Addr)(CA CD:Addr):Sp:=λvs H Q _=>∃(C p dp:Addr) (P:Pl) (fp:List Addr) (d:Dr) (dx ap l:Addr) (ts:List Addr) (m b cu:Addr),vs = [.ref p,.ref dp]/\C∈cs/\cW K C H p P fp/\fJ P/\jQ K CA CD H dp d dx ap l ts m b cu/\iJ P d.c/\d.c.length<=1000/\∀H',aj H H'->Q (.int (fz P d.c)) H'
structure jw(K:W.Frag)(CA CD:Addr)(H:Hp)(l:Addr)(ps:List Addr)(ds:List Dr):Prop where
 l:H l=some (.lst (ps.map V.ref))
 n:ps.length=ds.length
 t:∀(i:Nat) (p:Addr) (d:Dr),ps[i]? = some p->ds[i]? = some d->∃dx ap l ts m b cu,jQ K CA CD H p d dx ap l ts m b cu
theorem jw.same{K:W.Frag}{CA CD:Addr}{H H':Hp}{l:Addr}{ps:List Addr}{ds:List Dr}(h:jw K CA CD H l ps ds)(s:aj H H'):jw K CA CD H' l ps ds :=
 ⟨s _ _ h.l,h.n,λi p d e1 e2=>let ⟨dx,ap,l,ts,m,b,cu,a⟩:=h.t i p d e1 e2;⟨dx,ap,l,ts,m,b,cu,a.same s⟩⟩
noncomputable def kF(P:Pl)(r b:Int)(cs:List (List (Int×Int))):Int:=cs.foldl (λx c=>max x (a_ P (r,b) c).2) (b+(cs.map (fz P)).sum)
def afC(K:W.Frag)(cs:List Addr)(CA CD:Addr):Sp:=λvs H Q _=>∃(C p dl:Addr) (P:Pl) (fp:List Addr) (r b:Int) (ps:List Addr) (ds:List Dr),vs = [.ref p,.int r,.int b,.ref dl]/\C∈cs/\cW K C H p P fp/\fJ P/\0<=r/\r<P.rc.length/\jw K CA CD H dl ps ds/\ds.length<=100/\(∀d∈ds,iJ P d.c/\d.c.length<=1000)/\
 ∀H',aj H H'->Q (.int (kF P r b (ds.map (·.c)))) H'
theorem afD{cs:List (List (Int×Int))}{f:List (Int×Int)->Int}:∀ {x M:Int},(M=x\/M∈cs.map f)->x<=M->(∀y∈cs.map f,y<=M)->cs.foldl (λx c=>max x (f c)) x=M:=by
 induction cs with
 | nil=>intro x M h _ _;rcases h with h | h;exact h.symm;cases h
 | cons c cs ih =>
  intro x M h h1 h2;rw[mK];have hc:=h2 (f c) (by simp)
  refine ih ?_ ∅ λy hy=>h2 y (by simp only[List.map_cons,List.mem_cons];exact .inr hy)
  rcases h with h | h
  ·left;lia
  ·rw[cH,b_] at h;rcases h with h | h
   ·left;lia
   ·exact .inr h
theorem U9{sw:List Int}{n:Int}(so:SwOk sw n)(i:Nat):0<=sw.getD i 0/\sw.getD i 0<=1000000000:=by
 by_cases hi:i<sw.length
 ·by_cases h0:i=0
  ·subst h0;rw[so.z];lia
  ·have:=so.pos i ∅ hi;lia
 ·rw[show sw.getD i 0=0 by simp;rw[sP ∅];rfl];lia
theorem U_{P:Pl}(ok:fJ P)(l2:P.ao<=1000000000)(s q:Int×Int)(q0:0<=q.1)(q1:q.1<P.rc.length):s.2+1<=(dM P s q).2/\(dM P s q).2<=s.2+3000000000\/P.ao / P.rc.getD q.1.toNat 0=0/\s.2<=(dM P s q).2/\(dM P s q).2<=s.2+3000000000:=by
 have l1:=ok.ao;have c:=ok.c q.1.toNat ∅
 have b:=Ct ok q.1 q.2 (s.2+P.sw.getD (s.1 - q.1).natAbs 0);have w:=U9 ok.sw (s.1 - q.1).natAbs;have d0:0<=P.ao / P.rc.getD q.1.toNat 0:=A3 ∅ ∅
 have d1:P.ao / P.rc.getD q.1.toNat 0<=P.ao:=Int.ediv_le_self _ ∅
 have e:(dM P s q).2=jM P q.1 q.2 (s.2+P.sw.getD (s.1 - q.1).natAbs 0)+P.ao / P.rc.getD q.1.toNat 0:=rfl;rw[e];by_cases z:P.ao / P.rc.getD q.1.toNat 0=0
 ·right;lia
 ·left;lia
theorem CZ{P:Pl}(ok:fJ P)(l2:P.ao<=1000000000):∀(cz:List (Int×Int)) (s:Int×Int),iJ P cz->s.2<=(a_ P s cz).2/\(a_ P s cz).2<=s.2+3000000000*(cz.length:Int)
 | [],s,_=>by simp[a_]
 | q::cz,s,h=>by
  obtain⟨q0,q1,_⟩:=h q b8;have ih:=CZ ok l2 cz (dM P s q) λx hx=>h x (bU _ hx);have b:=U_ ok l2 s q q0 q1;rw[a_,dR];lia
def IZ(ks iM:List Kn):Prop:=iM.length=ks.length/\∀(i:Nat) (k:Kn),ks[i]? = some k->∃x,0<=x/\x<=10000000000000/\iM[i]? = some { k with lX:=some x }
theorem IZ.ok{nc:List (Int×Int)}{ks iM:List Kn}(r:IZ ks iM)(h:uy nc ks):uy nc iM:=by
 have g:∀(i:Nat) (hi:i<iM.length),∃(hj:i<ks.length) (x:Int),0<=x/\x<=10000000000000/\iM[i] = { ks[i] with lX:=some x }:=λi hi=>by
  have hj:i<ks.length:=by rw[← r.1];exact hi
  obtain⟨x,x0,x1,e⟩:=r.2 i ks[i] (bC hj);rw[bC hi] at e;exact⟨hj,x,x0,x1,eN e⟩
 refine⟨λk hk=>?_,?_,by rw[r.1];exact h.n7⟩
 ·obtain⟨i,hi,rfl⟩:=jh.mp hk;obtain⟨hj,x,x0,x1,e⟩:=g i hi;have o:=h.ok ks[i] (cI hj);rw[e];exact⟨o.f0,o.m0,o.m1,o.fit,o.c,o.r,λy hy=>by cases hy;exact⟨x0,x1⟩⟩
 ·rw[sQ];intro i j hi hj nI;obtain⟨gh,_,_,_,e1⟩:=g i hi;obtain⟨kD,_,_,_,e2⟩:=g j hj;rw[e1,e2];exact sQ.mp h.up i j gh kD nI
def afE(K:W.Frag):Sp:=λvs H Q _=>∃(t sp kl:Addr) (z:List (Int×Int)) (ao sk:Int) (sw:List Int) (za:Addr) (bA:List Addr) (ca sa:Addr) (r b:Int) (b9:List Addr) (ks:List Kn),vs = [.ref t,.ref sp,.ref kl]/\
 i9 H t z ao sk sw za bA ca sa/\i_ z ao sk sw/\H sp=some (.tup [.int r,.int b])/\0<=r/\r<(counts z).length/\0<=b/\b<=2000000000000/\fW H kl b9 ks/\(∀k∈ks,iJ (bN z ao sk sw []) k.c/\k.c.length<=16)/\ks.length<=10/\
 ∀l ts iM H',aj H H'->H l=none->fW H' l ts iM->IZ ks iM->Q (.ref l) H'
theorem afF(a b c d e f g:V):iG [a,b,c,d,e,f,g] none (some 5) = [a,b,c,d,e]:=rfl
theorem afG(a b c d e f g:V):iG [a,b,c,d,e,f,g] (some 6) none = [g]:=rfl
theorem I0(q:Int×Int):∀(z:List (Int×Int)) (i:Nat) (acc:List (List Key×V)),(q∉z->dj (i6 i z acc) (kT q)=dj acc (kT q))/\(q∈z->∃j:Nat,z[j]? = some q/\dj (i6 i z acc) (kT q)=some (.int ((i+j:Nat):Int)))
 | [],i,acc=>⟨λ_=>rfl,λh=>by cases h⟩
 | x::z,i,acc=>by
  obtain⟨h1,h2⟩:=I0 q z (i+1) (putK acc (kT x) (.int i));constructor
  ·intro h;rw[i6,h1 λw=>h (bU _ w),Hl,if_neg];intro e;exact h (HV e▸b8)
  ·intro h;rw[i6];by_cases hz:q∈z
   ·obtain⟨j,e1,e2⟩:=h2 hz;exact⟨j+1,by simpa using e1,by rw[e2];congr 2;lia⟩
   ·have:q=x:=(b_.mp h).resolve_right hz;subst this;exact⟨0,by simp,by rw[h1 hz,Hl,if_pos rfl];rfl⟩
theorem Va{z:List (Int×Int)}{q:Int×Int}(h:q∈z):∃j:Nat,z[j]? = some q/\dj (qt z) (kT q)=some (.int (j:Int)):=by
 obtain⟨j,e1,e2⟩:=(I0 q z 0 []).2 h;exact⟨j,e1,by rw[qY] at e2;exact e2⟩
theorem afH{z:List (Int×Int)}{q:Int×Int}(h:q∉z):dj (qt z) (kT q)=none:=(I0 q z 0 []).1 h
theorem afI{nc:List (Int×Int)}{j:Nat}{q:Int×Int}(h:nc[j]? = some q):gm nc (j:Int) 1 = [q]:=by
 have:=IY (nc:=nc) (f:=(j:Int)) (i:=0) (c:=q) ∅ (by simpa using h)
 simpa[gm] using this
structure wV(rc:List Int)(nc:List (Int×Int))(r:Int)(xs:List Int):Prop where
 i:∀x∈xs,(r,x)∈nc/\0<=x/\x<rc.getD r.toNat 0
 n:xs.length<=100
theorem wV.sub{rc:List Int}{nc:List (Int×Int)}{r:Int}{xs ys:List Int}(h:wV rc nc r xs)(s:∀y∈ys,y∈xs)(n:ys.length<=xs.length):wV rc nc r ys:=⟨λy hy=>h.i y (s y hy),cQ n h.n⟩
theorem afJ{ns:List Int}{k:Int}(h:0<=k):iG (ns.map V.int) (some k) none=(ns.drop k.toNat).map V.int:=by
 unfold iG;have e:_H.bQ (ns.map V.int).length 0 (some k)=min k.toNat ns.length:=by
  simp only[_H.bQ];rw[if_neg ∅,aM]
 have e2:_H.bQ (ns.map V.int).length (ns.map V.int).length none=ns.length:=by simp[_H.bQ]
 rw[e,e2,← Bd,Bd];rw[qX (by simp)]
 by_cases hk:k.toNat<=ns.length
 ·rw[xX hk,Bd]
 ·rw[Fx ∅,List.drop_of_length_le (by simp),List.drop_of_length_le ∅];rfl
def afK(K:W.Frag)(cs:List Addr):Sp:=λvs H Q _=>∃(C p t sp:Addr) (z:List (Int×Int)) (ao sk:Int) (sw:List Int) (za:Addr) (bA:List Addr) (ca sa:Addr) (nc:List (Int×Int)) (fp:List Addr) (r b c:Int),vs = [.ref p,.ref t,.ref sp,.int c]/\C∈cs/\cW K C H p (bN z ao sk sw nc) fp/\uv (counts z) nc/\
 i9 H t z ao sk sw za bA ca sa/\i_ z ao sk sw/\H sp=some (.tup [.int r,.int b])/\0<=r/\r<(counts z).length/\∀l ts ks H',aj H H'->H l=none->fW H' l ts ks->uy nc ks->Q (.ref l) H'
def afL(K:W.Frag)(cs:List Addr):Sp:=λvs H Q _=>∃(C sc p t sp:Addr) (z:List (Int×Int)) (ao sk:Int) (sw:List Int) (za:Addr) (bA:List Addr) (ca sa:Addr) (nc:List (Int×Int)) (fp:List Addr) (r b most:Int) (ns:List Int),vs = [.ref sc,.ref p,.ref t,.ref sp,.int most]/\az K H sc (ns.map V.int)/\ns.length<=63/\C∈cs/\cW K C H p (bN z ao sk sw nc) fp/\uv (counts z) nc/\
 i9 H t z ao sk sw za bA ca sa/\i_ z ao sk sw/\H sp=some (.tup [.int r,.int b])/\0<=r/\r<(counts z).length/\0<=b/\b<=1000000000000/\1<=most/\most<=7/\∀l ts ks H',aj H H'->H l=none->fW H' l ts ks->uy nc ks->Q (.ref l) H'
theorem i_.part{z:List (Int×Int)}{ao sk:Int}{sw:List Int}(h:i_ z ao sk sw){i:Nat}(hi:i<(counts z).length):1<=ao / (counts z).getD i 0:=by
 obtain⟨y,hy,e⟩:=rN (get_mem (yV (counts z) hi));have r:=h.zl.ok.r y hy;have d:=Int.emod_add_mul_ediv ao y.2;rw[h.l3 y hy,Int.zero_add] at d;have l1:=h.l1;rw[e];by_cases q:1<=ao / y.2
 ·exact q
 ·have:y.2*(ao / y.2)<=0:=Int.mul_nonpos_of_nonneg_of_nonpos ∅ ∅
  lia
theorem afM{z:List (Int×Int)}{ao sk:Int}{sw:List Int}(h:i_ z ao sk sw){cz:List (Int×Int)}(s:Int×Int)(hc:iJ (bN z ao sk sw []) cz)(hn:cz≠[]):s.2+1<=(a_ (bN z ao sk sw []) s cz).2:=by
 have pk:=h.pl [];have l2:(bN z ao sk sw []).ao<=1000000000:=h.l2;cases cz with
 | nil=>exact absurd rfl hn
 | cons q cz =>
  obtain⟨q0,q1,_⟩:=hc q b8;have q1':q.1<((counts z).length:Int):=q1;have b:=U_ pk l2 s q q0 q1;have p:=h.part (i:=q.1.toNat) ∅
  have e:=CZ pk l2 cz (dM (bN z ao sk sw []) s q) λx hx=>hc x (bU _ hx);rw[a_];rcases b with b | ⟨b,_⟩
  ·lia
  ·have b:ao / (counts z).getD q.1.toNat 0=0:=b;lia
theorem ux.cells{z:List (Int×Int)}{ao sk:Int}{sw:List Int}{nc:List (Int×Int)}{k:Kn}(h:ux nc k)(nk:uv (counts z) nc)(ok:i_ z ao sk sw):iJ (bN z ao sk sw []) k.c/\k.c.length<=16:=by
 have m0:=h.m0;have m1:=h.m1;rw[h.c];refine⟨λq hq=>?_,by rw[U7 h.f0 ∅ h.fit];lia⟩
 have:=nk.c q (U6 hq);refine⟨this.1,this.2.1,this.2.2.1,?_⟩;obtain⟨y,hy,e⟩:=rN (get_mem (yV (counts z) (show q.1.toNat<(counts z).length by lia)))
 have:=ok.zl.ok.r y hy;lia
def C0(nc:List (Int×Int))(k:Kn)(d:Dr):Prop:=d.n=k.n/\U8 k d.q/\d.c=gm nc k.f k.m
structure I_(K:W.Frag)(cs:List Addr)(CA CD:Addr)(H:Hp)(sa p:Addr)(r b:Int)(kl dl:Addr)(z:List (Int×Int))(ao sk:Int)(sw:List Int)(nc:List (Int×Int))(ks:List Kn)(ds:List Dr):Prop where
 sp:∃za bA ca uz,i9 H sa z ao sk sw za bA ca uz
 wo:i_ z ao sk sw
 pl:∃C fp,C∈cs/\cW K C H p (bN z ao sk sw nc) fp
 nk:uv (counts z) nc
 r0:0<=r
 r1:r<(counts z).length
 b0:0<=b
 b1:b<=1000000000000
 kn:∃b9,fW H kl b9 ks
 ok:uy nc ks
 du:∃ps,jw K CA CD H dl ps ds
 dk:ds.length=ks.length/\∀(i:Nat) (k:Kn) (d:Dr),ks[i]? = some k->ds[i]? = some d->C0 nc k d
def afN(K:W.Frag)(cs:List Addr)(CA CD:Addr)(P:Addr)(pos:Pos)(qual:Str):Sp:=λvs H Q _=>∃(sc:Addr) (ns:List Int) (most:Int),vs = [.ref sc,.int most]/\az K H sc (ns.map V.int)/\ns.length<=63/\1<=most/\most<=7/\cY P pos qual H/\
 ∀t sa p r b kl dl z ao sk sw nc ks ds H',H' t=some (.tup [.ref sa,.ref p,.int r,.int b,.ref kl,.ref dl])->az K H' sc (ns.map V.int)->I_ K cs CA CD H' sa p r b kl dl z ao sk sw nc ks ds->Q (.ref t) H'
theorem az.but{K:W.Frag}{H H':Hp}{P:Addr}{pos:Pos}{qual:Str}{a:Addr}{xs:List V}(h:az K H a xs)(T:cY P pos qual H)(k:∀b o,H b=some o->b≠P->H' b=some o):az K H' a xs:=by
 rcases h with(h | ⟨o,h⟩) | h
 ·exact .inl (.inl (k _ _ h (T.ne h (λ_ z=>nomatch z))))
 ·exact .inl (.inr ⟨o,k _ _ h (T.ne h (λ_ z=>nomatch z))⟩)
 ·exact .inr h
theorem jQ.fT{K:W.Frag}{CA CD:Addr}{H:Hp}{D p:Addr}{xs ys:List V}{d:Dr}{dx ap l:Addr}{ts:List Addr}{m b cu:Addr}(hD:H D=some (.lst xs))(nl:l≠D)(h:jQ K CA CD H p d dx ap l ts m b cu):jQ K CA CD (upd H D (.lst ys)) p d dx ap l ts m b cu:=by
 have ne:∀ {a:Addr} {o:HO},H a=some o->(∀zs,o≠.lst zs)->a≠D:=λe n z=>by rw[z,hD] at e;exact n _ (eN e).symm
 have t:∀ {a:Addr} {us:List V},H a=some (.tup us)->a≠D:=λe=>ne e λ_ z=>nomatch z;have i:∀ {a C dx:Addr} {fs:List (Str×V)},H a=some (.ins C dx fs)->a≠D:=λe=>ne e λ_ z=>nomatch z;refine⟨(aI (i h.o)).trans h.o,⟨(aI (i h.a.o)).trans h.a.o,(aI (t h.a.ms)).trans h.a.ms,(aI (t h.a.bh)).trans h.a.bh⟩,h.c.keep (aI nl) λu hu=>?_⟩;obtain⟨i,hi,et⟩:=jh.mp hu;have dm:i<d.c.length:=by rw[← h.c.n];exact hi
 have:=h.c.t i u _ (by rw[← et];exact bC hi) (bC dm)
 exact aI (t this)
structure qG(K:W.Frag)(CA CD:Addr)(H:Hp)(D:Addr)(ps:List Addr)(ds:List Dr):Prop where
 hl:H D=some (.lst (ps.map V.ref))
 n:ps.length=ds.length
 t:∀(i:Nat) (p:Addr) (d:Dr),ps[i]? = some p->ds[i]? = some d->∃dx ap l ts m b cu,l≠D/\jQ K CA CD H p d dx ap l ts m b cu
theorem qG.Ja{K:W.Frag}{CA CD:Addr}{H:Hp}{D:Addr}{ps:List Addr}{ds:List Dr}(h:qG K CA CD H D ps ds):jw K CA CD H D ps ds:=⟨h.hl,h.n,λi p d e1 e2=>let ⟨dx,ap,l,ts,m,b,cu,_,a⟩:=h.t i p d e1 e2;⟨dx,ap,l,ts,m,b,cu,a⟩⟩
theorem qG.same{K:W.Frag}{CA CD:Addr}{H H':Hp}{D:Addr}{ps:List Addr}{ds:List Dr}(h:qG K CA CD H D ps ds)(s:aj H H'):qG K CA CD H' D ps ds :=
 ⟨s _ _ h.hl,h.n,λi p d e1 e2=>let ⟨dx,ap,l,ts,m,b,cu,n,a⟩:=h.t i p d e1 e2;⟨dx,ap,l,ts,m,b,cu,n,a.same s⟩⟩
theorem qG.snoc{K:W.Frag}{CA CD:Addr}{H:Hp}{D:Addr}{ps:List Addr}{ds:List Dr}(h:qG K CA CD H D ps ds){p:Addr}{d:Dr}{dx ap l:Addr}{ts:List Addr}{m b cu:Addr}(hd:jQ K CA CD H p d dx ap l ts m b cu)(nl:l≠D):qG K CA CD (upd H D (.lst (ps.map V.ref++[.ref p]))) D (ps++[p]) (ds++[d]):=by
 refine⟨by rw[aE,bT];rfl,by simp[h.n],λi p' d' e1 e2=>?_⟩
 have hn:=h.n;by_cases hi:i<ps.length
 ·rw[d9 hi] at e1;rw[d9 ∅] at e2
  obtain⟨nA,zy,l',fL,m',b',zA,n',a'⟩:=h.t i p' d' e1 e2;exact⟨nA,zy,l',fL,m',b',zA,n',a'.fT h.hl n'⟩
 ·rw[d_ ∅] at e1
  rw[d_ ∅] at e2
  have dm:i - ps.length=0:=by
   have:=(iB.mp e1).1;simp at this;lia
  rw[dm] at e1;rw[← hn,dm] at e2;simp at e1 e2;subst e1 e2;exact⟨dx,ap,l,ts,m,b,cu,nl,hd.fT h.hl nl⟩
theorem afO(xs:List V)(k:Nat):iG xs none (some (k:Int))=xs.take k:=by
 unfold iG;have e:_H.bQ xs.length 0 none=0:=rfl;have e2:_H.bQ xs.length xs.length (some (k:Int))=min k xs.length:=by
  simp only[_H.bQ];rw[if_neg ∅];simp
 rw[e,e2,List.drop_zero,Br];by_cases h:k<=xs.length
 ·rw[xX h]
 ·rw[Fx ∅,qX (bu _),qX ∅]
theorem Jb(z:List (Int×Int))(ao sk:Int)(sw:List Int)(nc:List (Int×Int)):∀(cz:List (Int×Int)) (s:Int×Int),a_ (bN z ao sk sw nc) s cz=a_ (bN z ao sk sw []) s cz
 | [],_=>rfl
 | q::cz,s=>Jb z ao sk sw nc cz (dM (bN z ao sk sw nc) s q)
theorem afP(z:List (Int×Int))(ao sk:Int)(sw:List Int)(nc:List (Int×Int))(r b:Int)(cs:List (List (Int×Int))):kF (bN z ao sk sw nc) r b cs=kF (bN z ao sk sw []) r b cs:=by
 unfold kF;have e:(λ(x:Int) (c:List (Int×Int))=>max x (a_ (bN z ao sk sw nc) (r,b) c).2)=λx c=>max x (a_ (bN z ao sk sw []) (r,b) c).2:=by
  funext x c
  rw[Jb]
 rw[e];rfl
theorem Vb{α β γ:Type}{as:List α}{bs:List β}{f:α->γ}{g:β->γ}(hn:as.length=bs.length)(h:∀(i:Nat) (a:α) (b:β),as[i]? = some a->bs[i]? = some b->f a=g b):as.map f=bs.map g:=by
 refine List.ext_getElem (by simpa using hn) λi h1 h2=>?_
 rw[Bb,Bb];have i1:i<as.length:=by simpa using h1
 have i2:i<bs.length:=by simpa using h2
 exact h i _ _ (bC i1) (bC i2)
theorem bM{N ps:List Str}{scope:Scope}(h:bH N ps scope:=by exact⟨rfl,rfl,rfl,by decide +kernel,rfl,by decide +kernel,by decide +kernel⟩):bH N ps scope:=h
class Vc where
 nx:St->Hp->Prop
def Later[c:Vc](σ:St)(H:Hp):Prop:=c.nx σ H
def Jc(t:TS):TS:=λD σ H=>∃M:St->Hp->Prop,t { D with nx:=M } σ H/\∀iW H1,M iW H1->@Later ⟨D.nx⟩ iW H1
theorem qH{X:Cx}{st:Stmt}{t:TS}(h:PS X st t):PS X st (Jc t):=adn h
theorem afQ{c:Vc}{x:Option V}{σ:St}{H:Hp}:@Later c (x::σ) H=c.nx (x::σ) H:=rfl
theorem C1{a b c:Nat}(h1:b+1<=c)(h2:c<a)(h3:a<=b):False:=by lia
theorem Vd{a b c:Nat}(h1:b+1<=c)(h3:a<=b):a<=c:=by lia
theorem C2:∀(names:List (Str×NameKind)) (n:Nat) (a b:List (Str×Addr)),cellsFrom n names (a++b)=cellsFrom n names a++b
 | [],n,a,b=>rfl
 | (nm,k)::r,n,a,b=>by
  unfold cellsFrom;split
  ·exact C2 r (n+1) ((nm,n)::a) b
  ·exact C2 r n a b
theorem Ve{α:Type}{x:Str}{v:α}:∀ {a b:List (Str×α)},(a++b).lookup x=some v->a.lookup x=some v\/(a.lookup x=none/\b.lookup x=some v)
 | [],b,h=>.inr ⟨rfl,h⟩
 | (k,w)::a,b,h=>by
  rw[pZ,vg] at h;rw[vg];cases e:x == k with
  | true=>rw[e] at h;exact .inl h
  | false=>rw[e] at h;exact Ve h
theorem Vf{α:Type}{x:Str}{v:α}:∀ {a b:List (Str×α)},a.lookup x=none->b.lookup x=some v->(a++b).lookup x=some v
 | [],b,_,h=>h
 | (k,w)::a,b,n,h=>by
  rw[vg] at n;rw[pZ,vg];cases e:x == k with
  | true=>rw[e] at n;cases n
  | false=>rw[e] at n;exact Vf n h
theorem C3{x:Str}{c:Addr}:∀ {names:List (Str×NameKind)} {n:Nat} {acc:List (Str×Addr)},(cellsFrom n names acc).lookup x=some c->(x,NameKind.cell)∈names\/acc.lookup x=some c
 | [],n,acc,h=>.inr h
 | (nm,k)::r,n,acc,h=>by
  unfold cellsFrom at h;split at h
  ·rename_i hk;have hk:k = .cell:=by simpa using hk
   rcases C3 h with z | z
   ·exact .inl (bU _ z)
   ·rw[vg] at z;cases e:x == nm with
    | true=>rw[mR.mp e,hk];exact .inl (b8 ..)
    | false=>rw[e] at z;exact .inr z
  ·rcases C3 h with z | z
   ·exact .inl (bU _ z)
   ·exact .inr z
theorem afR{M:Model}{A:Around}{E:Value->Shared->Prop}{s:Shared}{scope:Scope}{globals:Addr}{closure:List (Str×Addr)}{qual:Str}{func:Option Addr}{code:Value}{outer:Env}{builtins:Addr}{Q:Env->Shared->Prop}
  (hQ:∀h',h'.Ns s.heap.objs.size (λ_=>none)->(∀b o,s.heap.get? b=some o->h'.get? b=some o)->(∀n c,(n,c)∈cellsFrom (s.heap.objs.size+1) scope.names []->h'.IsCell c none/\s.heap.objs.size+1<=c)->(cellsFrom (s.heap.objs.size+1) scope.names []).Pairwise (λx y=>x.2≠y.2)->
   Q (newEnv scope s.heap.objs.size globals (cellsFrom (s.heap.objs.size+1) scope.names closure) qual func code (some outer) builtins) { s with heap:=h' }) :
  wpAny M A (newFunctionEnv scope globals closure [] qual func code (some outer) builtins) Q E s:=by
 simp only[newFunctionEnv,Option.isSome_some,if_true];refine aJ (wpAny_alloc ?_);refine aJ (wpAny_layCells _ (λname kind cells=>by cases CJ:kind == NameKind.cell <;> simp[CJ]) _ _ _ _ ?_)
 have ok:=cellsFrom_ok scope.names (s.heap.push { cls:=.type "dict",data:=.dict #[] }) (s.heap.objs.size+1) [] ⟨λ_ _ hm=>(nomatch hm),List.Pairwise.nil⟩ (by rw[sN];exact bu _)
 rw[sN] at ok;rw[show ({ s with heap:=s.heap.push { cls:=.type "dict",data:=.dict #[] }}:Shared).heap.objs.size=s.heap.objs.size+1 from sN ..];rw[List.forIn_nil];refine aJ (bq (bq ?_));exact hQ _ ((Heap.Ns.new s.heap (.type "dict")).keeps (pushCells_keeps _ _)) (λb o e=>pushCells_keeps _ _ b o (cK _ e)) ok.empty ok.apart
noncomputable def iN(X:Cx)(scope:Scope)(cl:List (Str×Addr))(N:List Str)(C:Addr)(s:Shared)(H:Hp)(fp:List Addr):Cx where
 prog:=X.prog
 w:=X.w
 K:=X.K
 mg:=X.mg
 base:=X.base
 A:=X.A
 N:=N
 eg:=s
 sZ:=H
 env:=compEnvC scope (cellsFrom (C+1) scope.names cl) C X.env
 outer:=X.stack
 stack:=X.stack
 ex:=fp
 fn:=λx=>scope.names.lookup x == some .cell
 calm:=X.calm
 pn:=[]
 xe:=λ_ _=>False
structure cN(X:Cx)(scope:Scope)(cl:List (Str×Addr))(N:List Str)(nt:Nat)(fv:List Nat):Prop where
 o9:closureFor scope X.env=pure cl
 kind:scope.kind = .function
 names:∀y∈scope.names,y.2 = .local->scope.names.lookup y.1=some .local
 cells:∀y∈scope.names,y.2 = .cell->scope.names.lookup y.1=some .cell/\cl.lookup y.1=none
 sub:∀p∈cl,X.env.cells.lookup p.1=some p.2
 has:∀y∈scope.names,y.2 = .free->∃c,cl.lookup y.1=some c
 free:fv.map (λj=>X.N[j]?)=(N.drop nt).map some
 fk:∀y∈N.drop nt,scope.names.lookup y=some .free/\X.env.scope.names.lookup y=some .cell
 le:nt<=N.length
 nd:N.Nodup
theorem cN.of{X:Cx}{scope:Scope}{cl:List (Str×Addr)}{N:List Str}{nt:Nat}{fv:List Nat}(o9:closureFor scope X.env=pure cl)(kind:scope.kind = .function)
  (cells:(scope.names.all λy=>y.2 != .cell || (scope.names.lookup y.1 == some .cell && (cl.lookup y.1).isNone))=true) (names:(scope.names.all λy=>y.2 != .local || scope.names.lookup y.1 == some .local)=true)
  (sub:AllP (λp:Str×Addr=>X.env.cells.lookup p.1=some p.2) cl) (has:(scope.names.all λy=>y.2 != .free || (cl.lookup y.1).isSome)=true)
  (free:fv.map (λj=>X.N[j]?)=(N.drop nt).map some) (fk:((N.drop nt).all λy=>scope.names.lookup y == some .free && X.env.scope.names.lookup y == some .cell)=true) (le:nt<=N.length) (nd:N.Nodup) :
  cN X scope cl N nt fv where
 o9:=o9
 kind:=kind
 cells:=λy hy hl=>by
  have:=mH.mp cells y hy;rw[hl] at this;simpa using this
 names:=λy hy hl=>by have:=mH.mp names y hy;simp[hl] at this;exact this
 sub:=sub.mem
 has:=λy hy hl=>by
  have:=mH.mp has y hy;rw[hl] at this;exact vq.mp (by simpa only[bne_self_eq_false,Bool.false_or] using this)
 free:=free
 fk:=λy hy=>by have:=mH.mp fk y hy;simpa using this
 le:=le
 nd:=nd
section
variable{X:Cx}{pins:List (Addr×Obj)}{σ:St}{H:Hp}{s:Shared}{scope:Scope}{cl:List (Str×Addr)}{N:List Str}{nt:Nat}{fv:List Nat}{fp:List Addr}
theorem cN.cell(S:cN X scope cl N nt fv){x:Str}{c:Addr}(e:cl.lookup x=some c):X.env.cells.lookup x=some c:=S.sub (x,c) (qp e)
theorem cN.kinds(S:cN X scope cl N nt fv){l:List (Str×Addr)}{C:Addr}{x:Str}(h:(compEnvC scope l C X.env).kindOf x=some .cell\/(compEnvC scope l C X.env).kindOf x=some .free):scope.names.lookup x=some .free\/scope.names.lookup x=some .cell:=by
 have h:(scope.names.map λ(n,k)=>if (k == NameKind.free && X.env.scope.kind == .function && X.env.kindOf n == some .cell) then(n,NameKind.cell) else(n,k)).lookup x=some .cell\/
  (scope.names.map λ(n,k)=>if (k == NameKind.free && X.env.scope.kind == .function && X.env.kindOf n == some .cell) then(n,NameKind.cell) else(n,k)).lookup x=some .free:=h
 rcases h with h | h
 ·obtain⟨k0,e,z | ⟨z,_⟩⟩:=Cf h
  ·rw[← z] at e;exact .inr e
  ·rw[z] at e;exact .inl e
 ·obtain⟨k0,e,z | ⟨z,_⟩⟩:=Cf h
  ·rw[← z] at e;exact .inl e
  ·rw[z] at e;exact .inl e
theorem cN.uA(S:cN X scope cl N nt fv){C:Addr}{x:Str}{c:Addr}(e:(cellsFrom (C+1) scope.names cl).lookup x=some c) :
  ((x,c)∈cellsFrom (C+1) scope.names []/\scope.names.lookup x=some .cell)\/(cl.lookup x=some c/\scope.names.lookup x≠some .cell):=by
 have q:cellsFrom (C+1) scope.names cl=cellsFrom (C+1) scope.names []++cl:=C2 scope.names (C+1) [] cl;rw[q] at e;rcases Ve e with z | ⟨_,z⟩
 ·rcases C3 z with y | y
  ·exact .inl ⟨qp z,(S.cells _ y rfl).1⟩
  ·cases y
 ·refine .inr ⟨z,λy=>?_⟩
  have:=(S.cells _ (qp y) rfl).2;rw[this] at z;cases z
theorem cN.ok(S:cN X scope cl N nt fv)(I:Inv X pins σ H s)(hf:∀b∈fp,oO X pins H b)(cE:∀b∈fp,b<s.heap.objs.size){C:Addr}(hC:s.heap.objs.size<=C)
  (own:∀n c,(n,c)∈cellsFrom (C+1) scope.names []->C+1<=c) (apart:(cellsFrom (C+1) scope.names []).Pairwise (λx y=>x.2≠y.2)) :
  (iN X scope cl N C s H fp).Ok where
 mod:=I.ok.mod
 kind:=S.kind
 glob:=I.ok.glob
 blt:=I.ok.blt
 above:=hC
 inj:=λx y c h1 h2=>by
  have old:∀ {x:Str} {c:Addr},cl.lookup x=some c->c<s.heap.objs.size:=λe=>by
   obtain⟨v,o,z,_⟩:=I.cell _ _ (S.cell e);exact cB z
  rcases S.uA h1 with⟨a,_⟩ | ⟨a,_⟩
  ·rcases S.uA h2 with⟨b,_⟩ | ⟨b,_⟩
   ·exact name_of_addr apart a b
   ·exact(C1 (own _ _ a) (old b) hC).elim
  ·rcases S.uA h2 with⟨b,_⟩ | ⟨b,_⟩
   ·exact(C1 (own _ _ b) (old a) hC).elim
   ·exact I.ok.inj x y c (S.cell a) (S.cell b)
 has:=λx h=>by
  rcases S.kinds h with e | e
  ·obtain⟨c,z⟩:=S.has _ (qp e) rfl;exact vq.mp (Bw scope.names (C+1) cl (.inr (by rw[z];rfl)))
  ·exact vq.mp (Bw scope.names (C+1) cl (.inl e))
 vI:=λx c h e=>by
  have h:(scope.names.lookup x == some .cell)=true:=h;rcases S.uA e with⟨a,_⟩ | ⟨_,a⟩
  ·exact Vd (own _ _ a) hC
  ·exact absurd (by simpa using h) a
 hd:=I.ok.hd
 frames:=I.ok.frames
 yd:=.inl rfl
 yf:=λb hb=>⟨λz=>absurd (gW (cE b hb) (by rw[z];exact hC)) (lF _),λx c h=>by
  rcases S.uA h with⟨a,_⟩ | ⟨a,_⟩
  ·intro z;rw[z] at a;exact C1 (own _ _ a) (cE b hb) hC
  ·exact(hf b hb).2.2.2.2.1 x c (S.cell a)⟩
 bs:=I.bs
 iU:=cQ I.ok.iU I.sz
 vJ:=λb o e hb=>by
  rcases(hf b hb).2.2.2.1 with z | z
  ·exact I.ok.vJ b o e z
  ·exact absurd (gW (cB e) (cQ I.ok.iU z)) (lF _)
 vK:=λb hb hm=>by
  rcases b_.mp (I.FN b hm) with z | z
  ·exact(hf b hb).2.1 z
  ·exact(hf b hb).2.2.1 z
 kP:=I.stack
 rm:=I.FO
theorem cN.inv(S:cN X scope cl N nt fv)(I:Inv X pins σ H s)(hf:∀b∈fp,oO X pins H b)(cE:∀b∈fp,b<s.heap.objs.size){h1:Heap}{tk:Nat}{D C:Addr}
  (hD:s.heap.objs.size<=D) (hC:s.heap.objs.size<=C) (zB:D<C) (old:∀b o,s.heap.get? b=some o->h1.get? b=some o) (lq:h1.get? D=some { cls:=.type "list",data:=.seq #[] }) (nh:h1.Ns C λ_=>none)
  (own:∀n c,(n,c)∈cellsFrom (C+1) scope.names []->h1.IsCell c none/\C+1<=c) (apart:(cellsFrom (C+1) scope.names []).Pairwise (λx y=>x.2≠y.2)) :
  Inv (iN X scope cl N C s H fp) [] (k6 σ nt fv) (upd H D (.lst [])) { s with heap:=h1,toks:=tk }:=by
 have I1:Inv X pins σ (upd H D (.lst [])) { s with heap:=h1,toks:=tk }:=I.laid old hD ⟨eL _,[],0,.nil,lq⟩;have hlen:fv.length=(N.drop nt).length:=by simpa using fR List.length S.free
 refine⟨S.ok I hf cE hC (λn c e=>(own n c e).2) apart,rfl,I.bare,Un.laid old hD (I.aO.fresh hD),⟨_,nh,λi x v e1 e2 e3=>?_⟩,λx c e=>?_,?_,λx c e=>?_,λp hp=>absurd (show p∈([]:List (Addr×Obj)) from hp) (by simp),I1.aO,?_⟩
 ·unfold k6 at e2;have hi:nt<=i:=by
   by_cases h:nt<=i
   ·exact h
   ·rw[d9 (by simp;lia),List.getElem?_replicate] at e2
    split at e2 <;> cases e2
  rw[d_ (by simpa using hi)] at e2
  simp only[List.length_replicate,List.getElem?_map] at e2;cases hj:fv[i - nt]? with
  | none=>rw[hj] at e2;simp at e2
  | some j =>
   rw[hj] at e2;simp only[Option.map_some,Option.some.injEq] at e2;have hN:X.N[j]? = some x:=by
    have q:=fR (λl=>l[i - nt]?) S.free;simp only[List.getElem?_map,hj,Option.map_some,List.getElem?_drop] at q;rw[show nt+(i - nt)=i by lia] at q
    have zC:N[i]? = some x:=e1;rw[zC] at q;exact(eN q)
   have Iu:σ[j]? = some (some v):=by
    cases z:σ[j]? with
    | none=>rw[z] at e2;simp at e2
    | some y=>rw[z] at e2;simp at e2;rw[e2]
   have afS:x∈N.drop nt:=by
    refine g_ (i:=i - nt) ?_;rw[List.getElem?_drop,show nt+(i - nt)=i by lia];exact e1
   obtain⟨f1,f2⟩:=S.fk x afS;obtain⟨m,hn,hl⟩:=I1.loc;obtain⟨u,ru,lk⟩:=hl j x v hN Iu (.inr (.inl f2));refine⟨u,ru,?_⟩;rcases lk with⟨k,_⟩ | ⟨_,c,ec,hc⟩
   ·have k:X.env.scope.names.lookup x=some .local:=k;rw[f2] at k;cases k
   ·obtain⟨c',e'⟩:=S.has _ (qp f1) rfl;have:=S.cell e';rw[ec] at this;cases this;have lk2:(cellsFrom (C+1) scope.names cl).lookup x=some c:=by
     rw[show cellsFrom (C+1) scope.names cl=cellsFrom (C+1) scope.names []++cl from C2 scope.names (C+1) [] cl];refine Vf ?_ e';cases q:(cellsFrom (C+1) scope.names []).lookup x with
     | none=>rfl
     | some c2 =>
      rcases C3 q with y | y
      ·have:=(S.cells _ y rfl).1;rw[f1] at this;cases this
      ·cases y
    refine .inr ⟨?_,c,lk2,hc⟩;rcases e3 with z | z | z
    ·obtain⟨k0,ek,q | ⟨_,q⟩⟩:=Cf (show (scope.names.map λ(n,k)=>if (k == NameKind.free && X.env.scope.kind == .function && X.env.kindOf n == some .cell) then(n,NameKind.cell) else(n,k)).lookup x=some .local from z)
     ·rw[f1] at ek;cases ek;cases q
     ·cases q
    ·exact .inl z
    ·exact .inr z
 ·rcases S.uA e with⟨a,_⟩ | ⟨a,_⟩
  ·exact⟨_,(own _ _ a).1⟩
  ·obtain⟨v,z⟩:=I1.cell x c (S.cell a);exact⟨v,z⟩
 ·show upd H D (.lst []) C=none;rw[aI (oF zB)];exact I.aO.fresh hC
 ·rcases S.uA e with⟨a,_⟩ | ⟨a,_⟩
  ·have q:=(own _ _ a).2;rw[aI (λz=>by rw[z] at q;exact C1 q zB (bu C))]
   exact I.aO.fresh (Vd q hC)
  ·exact I1.mU x c (S.cell a)
 ·unfold k6
  show _=N.length;have:=S.le;simp only[List.length_append,List.length_replicate,List.length_map,List.length_drop] at hlen ⊢;lia
end
section
variable{X:Cx}{tg iter elt:Expr}{ifs:List Expr}{scope:Scope}{cl:List (Str×Addr)}{N:List Str}{nt:Nat}{fv:List Nat}{pos:Pos}{wi:TI}{g:TG}{tt:TT}{te:TE}
theorem Vg{pins:List (Addr×Obj)}{σ:St}{s2:Shared}{H2:Hp}{it:Addr}{fp:List Addr}{tn:Nat->Heap->Prop}{J:It}{Q:VK}{RR:Value->Addr->Result->Shared->Prop}{E:Value->Shared->Prop}
  (S:cN X scope cl N nt fv) (hc:X.calm=true)
  (hg:∀C s H fp,PG (iN X scope cl N C s H fp) tg g) (ht:∀C s H fp,wm (iN X scope cl N C s H fp) ifs tt) (he:∀C s H fp,PE (iN X scope cl N C s H fp) elt te)
  (I2:Inv X pins σ H2 s2) (T:Turn X.prog X.w X.K tg J fp it tn) (b7:tn 0 s2.heap) (f2:∀b∈fp,oO X pins H2 b)
  (hq:∀D,H2 D=none->∃W:Nat->Nat->List V->St->Hp->Prop,
   (∃m,W 0 m [] (k6 σ nt fv) (upd H2 D (.lst [])))/\∀i m ys aC H2,W i m ys aC H2->H2 D=some (.lst ys)/\ys.length<sizeLine/\
    ((J.stop i H2/\Q (.ref D) H2)\/(J.go i H2/\∀x H3,J.qh i H2 x H3->g x aC H3 λcG H4=>tt cG H4 λb H5=>if b=true then te cG H5 λv H6=>H6 D=some (.lst ys)/\∃m',m' < m/\W (i+1) m' (ys++[v]) cG (upd H6 D (.lst (ys++[v])))
     else ∃m',m' < m/\W (i+1) m' ys cG H5)))
  (hRR:∀(D C:Addr) (s':Shared) (H':Hp) (m':Str->Option Value),Inv X pins σ H' s'->s'.heap.Ns C m'->s2.heap.objs.size<=C->H' C=none->Q (.ref D) H'->RR (.ref D) C (.ok .next) s') :
  wpAny (model X.prog X.w) X.A (newList []) (λacc lU=>wpAny (model X.prog X.w) X.A (newFunctionEnv scope X.env.globals cl [] X.env.qual none .none (some X.env)) (λVh Ce =>
   codeAny (model X.prog X.w) X.A (.compStart (.ListComp elt [⟨tg,iter,ifs,0⟩] scope pos) 0 (.ref it) acc { Vh with scope:=relabel scope X.env }) (RR acc Vh.locals) Ce) E lU) E s2:=by
 refine x_ (afR λoX Jd C4 C5 C6=>?_);dsimp only at Jd C4 C5 C6 ⊢;generalize Je:s2.heap.push { cls:=.type "list",dict:=none,data:=.seq ([]:List Value).toArray }=HH at Jd C4 C5 C6 ⊢;have hC:HH.objs.size=s2.heap.objs.size+1:=by rw[← Je,sN]
 have zB:s2.heap.objs.size<HH.objs.size:=by rw[hC];exact Bp _
 have Jf:s2.heap.objs.size<=HH.objs.size:=j0 zB;have old:∀b o,s2.heap.get? b=some o->oX.get? b=some o:=λb o e=>C4 b o (Je▸cK _ e);have lq:oX.get? s2.heap.objs.size=some { cls:=.type "list",data:=.seq #[] }:=C4 _ _ (Je▸fM _ rfl);have cE:∀b∈fp,b<s2.heap.objs.size:=λb hb=>by
  obtain⟨o,e,_⟩:=T.obj 0 _ b7 b hb;exact cB e
 have hD:H2 s2.heap.objs.size=none:=I2.aO.fresh (bu _);obtain⟨W,⟨m0,w0⟩,turn⟩:=hq _ hD;have vO:tn 0 oX:=T.keep _ _ _ b7 λb _ o e=>old b o e;have I3:=S.inv I2 f2 cE (h1:=oX) (tk:=s2.toks) (D:=s2.heap.objs.size) (C:=HH.objs.size) (bu _) Jf zB old lq Jd C5 C6;have nD:∀b∈fp,b≠s2.heap.objs.size:=λb hb=>cR (cE b hb);have tG:∀ {H':Hp},(∀b∈fp,H' b=none)->∀b∈fp,oO (iN X scope cl N HH.objs.size s2 H2 fp) [] H' b:=λ{H'} hn b hb=>by
  have ok:=S.ok I2 f2 cE Jf (λn c e=>(C5 n c e).2) C6;refine⟨hn b hb,(ok.yf b hb).1,ok.vK b hb,.inl hb,(ok.yf b hb).2,λp hp=>absurd (show p∈([]:List (Addr×Obj)) from hp) (by simp)⟩
 have loop:∀lU:Shared,lU = { s2 with heap:=oX,toks:=s2.toks }->
   codeAny (model X.prog X.w) X.A (.compLoop (.ListComp elt [⟨tg,iter,ifs,0⟩] scope pos) 0 (.ref it) (.ref s2.heap.objs.size) (compEnvC scope (cellsFrom (HH.objs.size+1) scope.names cl) HH.objs.size X.env)) (RR (.ref s2.heap.objs.size) HH.objs.size) lU:=by
  rintro lU rfl;refine acY (λn s'=>∃i ys bO H',Inv (iN X scope cl N HH.objs.size s2 H2 fp) [] bO H' s'/\tn i s'.heap/\(∀b∈fp,H' b=none)/\W i n ys bO H') ?_ m0
   ⟨0,[],_,_,I3,vO,λb hb=>by rw[aI (nD b hb)];exact(f2 b hb).1,w0⟩
  rintro n s3 ⟨i,ys,fG,H3,J3,t3,tH,w3⟩;obtain⟨eD,hys,afT⟩:=turn i n ys fG H3 w3;rcases afT with⟨stop,qn⟩ | ⟨go,step⟩
  ·refine aW (T.done (iN X scope cl N HH.objs.size s2 H2 fp) rfl rfl rfl hc i [] s3 fG H3 (λ_ _=>False) J3 (tG tH) t3 stop) λr s4 ⟨hr,I4⟩=>?_;subst hr;have I5:Inv X pins σ H3 s4:=I2.RP (ch:=fp) I4.os I4.base I4.aO I4.bare λb hb=>⟨(f2 b hb).2.2.2.1,(f2 b hb).2.1,(f2 b hb).2.2.2.2.1,(f2 b hb).2.2.2.2.2⟩;obtain⟨m,hn,_⟩:=I4.loc;exact hRR _ _ s4 H3 m I5 hn Jf I4.free qn
  ·refine aW (T.item (iN X scope cl N HH.objs.size s2 H2 fp) rfl rfl rfl hc i [] s3 fG H3 (λ_ _=>False) J3 (tG tH) t3 go) λr s4 ⟨u,hr,h4⟩=>?_;subst hr;refine aW h4 λ_ s5 ⟨x,H5,I5,r5,zz⟩=>?_;obtain⟨y5,tK,Gq⟩:=zz;have Gr:=I5.pinned (tG Gq) (T.obj _ _ tK);refine aW (hg _ _ _ _ _ s5 fG H5 x u _ Gr r5 (step x H5 y5)) λ_ s6 ⟨rD,H6,I6,q6⟩=>?_;have Vi:∀ {kg:St} {H7:Hp} {s7:Shared},Inv (iN X scope cl N HH.objs.size s2 H2 fp) ([]++yx fp s5.heap) kg H7 s7->tn (i+1) s7.heap/\∀b∈fp,H7 b=none:=λ{kg H7 s7} I7=>by
    refine⟨T.keep _ _ _ tK λb hb o e=>(I7.pin (b,o) (fc _ (fc _ (BV hb e)))).1,λb hb=>?_⟩;obtain⟨o,e,d⟩:=T.obj _ _ tK b hb;exact(I7.pin (b,o) (fc _ (fc _ (BV hb e)))).2.1
   refine aW (ht _ _ _ _ _ s6 rD H6 _ I6 q6) λb s7 ⟨H7,I7,q7⟩=>?_;cases b with
   | false =>
    obtain⟨m',hm,w7⟩:=q7;obtain⟨t7,n7⟩:=Vi I7;exact⟨m',hm,i+1,ys,rD,H7,I7.yy,t7,n7,w7⟩
   | true =>
    refine aW (he _ _ _ _ _ s7 rD H7 _ I7 q7) λu8 s8 ⟨v8,H8,I8,r8,zz⟩=>?_;obtain⟨eD8,m',hm,w8⟩:=zz;refine aW (kY (X:=iN X scope cl N HH.objs.size s2 H2 fp) _ s8 rD H8 (.ref s2.heap.objs.size) [v8] (.ref s2.heap.objs.size) [u8] (λ_ H9=>∃m',m' < n/\W (i+1) m' (ys++[v8]) rD H9) I8 rfl (.cons r8 .nil)
     ⟨s2.heap.objs.size,ys,v8,rfl,rfl,eD8,hys,m',hm,w8⟩) λ_ s9 ⟨_,H9,I9,_,m9,hm9,w9⟩=>?_
    obtain⟨t9,n9⟩:=Vi I9;exact⟨m9,hm9,i+1,ys++[v8],rD,H9,I9.yy,t9,n9,w9⟩
 exact codeAny_compStart_list (loop _ rfl) (T.self _ 0 _ _ _ vO (loop _ rfl))
theorem gP(S:cN X scope cl N nt fv)(hc:X.calm=true)(hi:PI X tg iter wi)
  (hg:∀C s H fp,PG (iN X scope cl N C s H fp) tg g) (ht:∀C s H fp,wm (iN X scope cl N C s H fp) ifs tt) (he:∀C s H fp,PE (iN X scope cl N C s H fp) elt te)
  (hs:∀x,foldedSetIterable iter X.env x=pure x:=by intro _;rfl):PE X (.ListComp elt [⟨tg,iter,ifs,0⟩] scope pos) (ni wi g tt te nt fv):=by
 intro pins s σ H Q I h;rw[eval_ListComp];refine wpAny_comprehension_free (use:=none) rfl hs S.o9 S.kind S.names (aW (hi pins s σ H _ I h) λxv s1 h1=>aW h1 λBU s2 h2=>?_);obtain⟨it,fp,tn,J,H2,rfl,I2,T,b7,f2,hq⟩:=h2;refine Vg (RR:=λacc C=>compPost (model X.prog X.w) X.A X.xe none (EP X pins σ Q) acc C) S hc hg ht he I2 T b7 f2 hq λD C s' H' m' I' hn hC fC q=>?_;refine⟨m',hn,λh' iZ=>⟨.ref D,H',?_,rfl,q⟩⟩;have nT:=I2.tD hC fC;exact I'.turned (t':=s'.toks) (it:=C) (λb o hb e=>iZ.extBut b o hb e) fC nT.2.1 nT.2.2.2.1 nT.2.2.2.2.1 nT.2.2.2.2.2
theorem C7{i:Nat}{y:Str}{py Vj:Pos}(hN:X.N.Nodup)(gh:X.N[i]? = some y)(hy:Loc X.env.scope y)(S:cN X scope cl N nt fv)(hc:X.calm=true)(hi:PI X tg iter wi)
  (hg:∀C s H fp,PG (iN X scope cl N C s H fp) tg g) (ht:∀C s H fp,wm (iN X scope cl N C s H fp) ifs tt) (he:∀C s H fp,PE (iN X scope cl N C s H fp) elt te)
  (Jg:swapsWith (.ListComp elt [⟨tg,iter,ifs,0⟩] scope pos) (some (.Name y py)) Vj.line X.env=pure true:=by rfl)
  (hs:∀x,foldedSetIterable iter X.env x=pure x:=by intro _;rfl) (hf:X.fn y=true\/X.env.scope.names.lookup y=some .local:=by first | exact .inl rfl | exact .inr rfl | assumption) :
  PS X (.Assign [.Name y py] (.ListComp elt [⟨tg,iter,ifs,0⟩] scope pos) Vj) (yr (ni wi g tt te nt fv) (rB i)):=by
 intro pins s σ H D' I h;rw[exec_Assign_Name_used _ _ _ _ Jg];refine aJ (wpAny_standAt (aJ ?_))
 show wpAny _ _ (do let _ ← comprehension (.ListComp elt [⟨tg,iter,ifs,0⟩] scope pos) scope X.env _ (newList []) false (eval iter X.env) (some (assign (.Name y py) X.env))) _ _ s
 refine aJ (iS (wpAny_comprehension_free (use:=some (assign (.Name y py) X.env)) (Q:=λ_ s'=>SP X pins D' .next s') rfl hs S.o9 S.kind S.names
  (aW (hi pins s σ H _ I h) λxv s1 h1=>aW h1 λBU s2 h2=>?_)) (λ_ s' hq=>bq (bq hq)) λ_ _ e=>e)
 obtain⟨it,fp,tn,J,H2,rfl,I2,T,b7,f2,hq⟩:=h2;refine Vg (RR:=λacc C=>compPost (model X.prog X.w) X.A X.xe (some (assign (.Name y py) X.env)) (λ_ s'=>SP X pins D' .next s') acc C) (Q:=λx H1=>rB i x σ H1 D'.nx) S hc hg ht he I2 T b7 f2 hq λD C s' H' m' I' hn hC fC q=>?_;have nT:=I2.tD hC fC
 show wpAny _ _ (assign (.Name y py) X.env (.ref D)) _ _ _;refine wpAny_assign_Name (RI I' hN gh hy (v:=.ref D) rfl (λvW I'' ⟨a,hsa,ha⟩=>?_) hf);have hCa:C≠a:=by
  rcases ha with z | z
  ·rw[z];exact nT.2.1
  ·exact λe=>nT.2.2.2.2.1 y a z e.symm
 refine⟨m',hn.sameBut hsa hCa,λh' iZ=>⟨_,H',?_,q⟩⟩;exact I''.turned (t':=vW.toks) (it:=C) (λb o hb e=>iZ.extBut b o hb e) fC nT.2.1 nT.2.2.2.1 nT.2.2.2.2.1 nT.2.2.2.2.2
end
section
variable{X:Cx}
theorem afU{K:W.Frag}(h:X.K=K)(hu:X.A.units+16<cLine):cC X (compareOp .Eq) (λx y H Q=>∃a b xs,x = .ref a/\y = .ref b/\az K H a xs/\az K H b []/\Q (.bl xs.isEmpty) H):=h▸TM hu
end
theorem Vk{X:Cx}{K:W.Frag}{tg l:Expr}{tl:TE}(h:X.K=K)(hl:PE X l tl):PI X tg l (qi K tl):=h▸c_ hl
theorem afV{X:Cx}{scope:Scope}{cl:List (Str×Addr)}{N:List Str}{C:Addr}{s:Shared}{H:Hp}{fp:List Addr}:(iN X scope cl N C s H fp).K=X.K:=rfl
noncomputable def pH(d o:Dr):Bool:=decide (o.n<d.n) && (decide (o.n∈d.q.behind) || CB d.q o.q)
def afW(K:W.Frag)(CA CD:Addr):Sp:=λvs H Q _=>∃(p r:Addr) (d o:Dr) (dx ap l:Addr) (ts:List Addr) (m b cu nA zy l':Addr) (fL:List Addr) (m' b' zA:Addr),vs = [.ref p,.ref r]/\jQ K CA CD H p d dx ap l ts m b cu/\jQ K CA CD H r o nA zy l' fL m' b' zA/\Q (.bl (pH d o)) H
noncomputable def nU(ds:List Dr)(d:Dr):List Int:=(ds.filter (pH d)).map (·.n)
noncomputable def uB(n:Int):Key:=.inl n
structure C8(H:Hp)(kd:Addr)(ds all:List Dr)(aA:List (Key×V)):Prop where
 d:H kd=some (.dK aA)
 n:aA.length<=ds.length
 v:∀(i:Nat) (d:Dr),ds[i]? = some d->∃li,dj aA (uB d.n)=some (.ref li)/\li≠kd/\H li=some (.lst ((nU all d).map V.int))
def afX(K:W.Frag)(CA CD:Addr):Sp:=λvs H Q _=>∃(l:Addr) (ps:List Addr) (ds:List Dr),vs = [.ref l]/\jw K CA CD H l ps ds/\ds.length<=100/\(ds.map (·.n)).Nodup/\
 ∀kd aA H',aj H H'->H kd=none->C8 H' kd ds ds aA->Q (.ref kd) H'
noncomputable def keepsK(k o:Kn):Bool:=decide (o.n<k.n) && (decide (o.n∈k.bh) || ((k.w || o.w) && decide (k.f<o.f+o.m) && decide (o.f<k.f+k.m)))
def afY(K:W.Frag):Sp:=λvs H Q _=>∃(t u:Addr) (k o:Kn) (b cl:Addr) (bx:List Addr) (b' uw:Addr) (zw:List Addr),vs = [.ref t,.ref u]/\iL H t k b cl bx/\iL H u o b' uw zw/\Q (.bl (keepsK k o)) H
noncomputable def jR(ks:List Kn):List Int:=(ks.filter λk=>(ks.filter (keepsK k)).isEmpty).map (·.n)
def afZ(K:W.Frag):Sp:=λvs H Q _=>∃(kl:Addr) (b9:List Addr) (ks:List Kn),vs = [.ref kl]/\fW H kl b9 ks/\ks.length<=100/\
 ∀D H',aj H H'->H D=none->H' D=some (.lst ((jR ks).map V.int))->Q (.ref D) H'
theorem af0(aA:List (Key×V))(k:Key)(v:V):(putK aA k v).length<=aA.length+1:=by
 unfold putK;split
 ·rw[aM];lia
 ·rw[e_];exact bu _
theorem af1{nc:List (Int×Int)}{k k':Kn}{d d':Dr}(h:C0 nc k d)(h':C0 nc k' d'):pH d d' = keepsK k k':=by
 obtain⟨e1,⟨f1,m1,b1,k1,_⟩,_⟩:=h;obtain⟨e2,⟨f2,m2,b2,k2,_⟩,_⟩:=h';unfold pH keepsK CB;rw[e1,e2,b1,f1,m1,f2,m2,k1,k2];have fV:¬ (("read" : Str) = "write"):=by decide
 cases k.w <;> cases k'.w <;> simp[fV,Bool.and_assoc]
theorem Vl{α β γ:Type}{f:α->γ}{g:β->γ}:∀ {as:List α} {bs:List β} {p:α->Bool} {q:β->Bool},as.length=bs.length->(∀(i:Nat) (a:α) (b:β),as[i]? = some a->bs[i]? = some b->p a=q b/\f a=g b)->(as.filter p).map f=(bs.filter q).map g
 | [],[],_,_,_,_=>rfl
 | [],_::_,_,_,h,_=>by simp at h
 | _::_,[],_,_,h,_=>by simp at h
 | a::as,b::bs,p,q,h,r=>by
  obtain⟨r1,r2⟩:=r 0 a b rfl rfl;have ih:=Vl (as:=as) (bs:=bs) (p:=p) (q:=q) (f:=f) (g:=g) (by simpa using h) λi a' b' e1 e2=>r (i+1) a' b' (by simpa using e1) (by simpa using e2)
  rw[oz,oz,r1];split
  ·rw[cH,cH,r2,ih]
  ·exact ih
theorem wW{α:Type}{l:List α}{p:α->Bool}{i:Nat}{a:α}(h:l[i]? = some a):(l.take (i+1)).filter p=(l.take i).filter p++(if p a then [a] else []):=by
 rw[take_succ_get h,A8,oz];split <;> rfl
theorem SwOk.mono{sw:List Int}{n:Int}(so:SwOk sw n):∀(j i:Nat),i<=j->j<sw.length->sw.getD i 0<=sw.getD j 0
 | 0,i,h,_=>by rw[show i=0 by lia];exact kL _
 | j+1,i,h,hj=>by
  by_cases e:i=j+1
  ·rw[e];exact kL _
  ·exact A5 (so.mono j i ∅ ∅) (so.up (j+1) ∅ hj)
theorem SwOk.nonneg{sw:List Int}{n:Int}(so:SwOk sw n){j:Nat}(hj:j<sw.length):0<=sw.getD j 0:=by
 have:=so.mono j 0 ∅ hj
 rw[so.z] at this;exact this
theorem SwOk.um{sw:List Int}{n:Int}(so:SwOk sw n){s x q:Int}(s0:0<=s)(s1:s<n)(x0:0<=x)(x1:x<n)(q0:0<=q)(q1:q<n):sw.getD (s - q).natAbs 0<=sw.getD (s - x).natAbs 0+sw.getD (x - q).natAbs 0:=by
 have len:=so.len;have ha:(s - x).natAbs<sw.length:=by lia
 have hb:(x - q).natAbs<sw.length:=by lia
 have hd:(s - q).natAbs<sw.length:=by lia
 have tr:(s - q).natAbs<=(s - x).natAbs+(x - q).natAbs:=by lia
 generalize (s - x).natAbs=a at *
 generalize (x - q).natAbs=b at *
 generalize (s - q).natAbs=d at *
 have na:=so.nonneg ha;have nb:=so.nonneg hb;by_cases h1:d<=a
 ·have:=so.mono a d h1 ha;lia
 ·by_cases h2:a=0
  ·have:=so.mono b d ∅ hb
   lia
  ·have h3:=so.no a (d - a) ∅ ∅ ∅
   rw[show a+(d - a)=d by lia] at h3
   have h4:=so.mono b (d - a) ∅ hb
   lia
def zD(P:Pl)(s t:Int×Int):Prop:=∀q:Int,0<=q->q<P.rc.length->s.2+P.sw.getD (s.1 - q).natAbs 0<=t.2+P.sw.getD (t.1 - q).natAbs 0
noncomputable def jS(p:Nat->Bool)(xs:List (Int×Int)):List (Int×Int):=((List.range xs.length).filter p).map λk=>xs.getD k (0,0)
theorem af2(p:Nat->Bool)(xs:List (Int×Int))(x:Int×Int):jS p (xs++[x])=jS p xs++if p xs.length then [x] else []:=by
 unfold jS;rw[e_,vf,vn,A8,bT];congr 1
 ·refine vh λk hk=>?_;have:k<xs.length:=fF.mp (fj.mp hk).1;rw[jg,jg,d9 this]
 ·cases h:p xs.length with
  | true=>simp[h]
  | false=>simp[h]
theorem snoc_ind{α:Type}{C:List α->Prop}(h0:C [])(h1:∀xs x,C xs->C (xs++[x]))(l:List α):C l:=by
 rw[← List.reverse_reverse l];generalize l.reverse=r
 induction r with
 | nil=>exact h0
 | cons x r ih=>rw[Ft];exact h1 _ _ ih
theorem af3{P:Pl}(ok:fJ P)(s q:Int×Int)(h0:0<=q.1)(h1:q.1<P.rc.length):s.2+P.sw.getD (s.1 - q.1).natAbs 0<=(dM P s q).2:=by
 unfold dM rP;have:=(Ct ok q.1 q.2 (s.2+P.sw.getD (s.1 - q.1).natAbs 0)).1;have hc:=ok.c q.1.toNat ∅
 have hl:=ok.ao;have:0<=P.ao / P.rc.getD q.1.toNat 0:=A3 ∅ ∅
 dsimp only;lia
theorem Vm{P:Pl}(ok:fJ P){s t:Int×Int}(nl:zD P s t)(q:Int×Int)(h0:0<=q.1)(h1:q.1<P.rc.length):(dM P s q).2<=(dM P t q).2:=by
 unfold dM rP;have:=adX ok q.1 q.2 (nl q.1 h0 h1);dsimp only;lia
theorem af4{P:Pl}(ok:fJ P)(p:Nat->Bool)(s:Int×Int)(s0:0<=s.1)(s1:s.1<P.rc.length):∀xs:List (Int×Int),(∀q∈xs,0<=q.1/\q.1<P.rc.length)->zD P (a_ P s (jS p xs)) (a_ P s xs)/\
  ∀(i k:Nat),((List.range xs.length).filter p)[i]? = some k->((dZ P s (jS p xs)).getD i []).getD 3 0<=((dZ P s xs).getD k []).getD 3 0/\((dZ P s (jS p xs)).getD i []).take 2 = [(xs.getD k (0,0)).1,(xs.getD k (0,0)).2]:=by
 have so:=ok.sw;refine snoc_ind (λ_=>⟨λq _ _=>kL _,λi k h=>by simp at h⟩) λxs x ih lz=>?_
 have hx:=lz x (by simp)
 obtain⟨Vn,Vo⟩:=ih λq hq=>lz q (p8 _ hq);have e1:=k_ P (n:=P.rc.length) xs s s0 s1 λq hq=>lz q (p8 _ hq);have sub:∀q∈jS p xs,0<=q.1/\q.1<(P.rc.length:Int):=λq hq=>by
  obtain⟨k,hk,rfl⟩:=dh.mp hq;have hk:=fF.mp (fj.mp hk).1;refine lz _ (p8 _ ?_);rw[jg,bC hk];exact cI hk
 have e2:=k_ P (n:=P.rc.length) (jS p xs) s s0 s1 sub;have ls:(jS p xs).length=((List.range xs.length).filter p).length:=by simp[jS]
 have Jh:∀(ys:List (Int×Int)) (y:Int×Int) (k:Nat),k<ys.length->(dZ P s (ys++[y])).getD k [] = (dZ P s ys).getD k []:=λys y k hk=>by
  rw[wF,jg,d9 (by rw[nC];exact hk),← jg]
 have Vp:∀(ys:List (Int×Int)) (y:Int×Int),(dZ P s (ys++[y])).getD ys.length [] = qx P (a_ P s ys) y:=λys y=>by
  rw[wF,jg,d_ (by rw[nC];exact bu _),nC]
  simp
 have Vq:∀k,k<xs.length->(xs++[x]).getD k (0,0)=xs.getD k (0,0):=λk hk=>by
  rw[jg,jg,d9 hk]
 have st:=Vm ok Vn x hx.1 hx.2;rw[af2,wD];rw[e_,vf,vn,A8];cases hp:p xs.length with
 | true =>
  simp only[if_true];rw[wD];refine⟨λq q0 q1=>?_,λi k h=>?_⟩
  ·show (dM P (a_ P s (jS p xs)) x).2+P.sw.getD (x.1 - q).natAbs 0<=(dM P (a_ P s xs) x).2+P.sw.getD (x.1 - q).natAbs 0;lia
  ·rw[show List.filter p [xs.length] = [xs.length] by simp[hp]] at h
   by_cases hi:i<((List.range xs.length).filter p).length
   ·rw[d9 hi] at h;have hk:k<xs.length:=fF.mp (fj.mp (g_ h)).1;rw[Jh _ _ _ (by rw[ls];exact hi),Jh _ _ _ hk,Vq k hk]
    exact Vo i k h
   ·rw[d_ ∅] at h
    have dm:i=((List.range xs.length).filter p).length:=by
     have:=(iB.mp h).1;simp at this;lia
    rw[dm,Bq] at h;have hk:k=xs.length:=by simpa using h.symm
    subst hk;rw[dm,← ls,Vp,Vp];refine⟨st,?_⟩;rw[jg,d_ (bu _),Bq]
    rfl
 | false =>
  simp only[Bool.false_eq_true,if_false,List.append_nil];refine⟨λq q0 q1=>?_,λi k h=>?_⟩
  ·have a:=Vn x.1 hx.1 hx.2;have b:=af3 ok (a_ P s xs) x hx.1 hx.2;have n:=so.len;have t:=so.um (s:=(a_ P s (jS p xs)).1) (x:=x.1) (q:=q) e2.1 e2.2 hx.1 hx.2 q0 q1
   show (a_ P s (jS p xs)).2+_<=(dM P (a_ P s xs) x).2+P.sw.getD (x.1 - q).natAbs 0;lia
  ·rw[show List.filter p [xs.length] = [] by simp[hp],mJ] at h
   have hk:k<xs.length:=fF.mp (fj.mp (g_ h)).1;rw[Jh _ _ _ hk,Vq k hk];exact Vo i k h
theorem af5{P:Pl}(ok:fJ P){s t:Int×Int}(nl:zD P s t)(h0:0<=t.1)(h1:t.1<P.rc.length)(hs:0<=s.1)(C9:s.1<P.rc.length):s.2<=t.2:=by
 have so:=ok.sw;have a:=nl t.1 h0 h1;have len:=so.len;have b:=so.nonneg (j:=(s.1 - t.1).natAbs) ∅
 rw[Int.sub_self] at a;have c:=so.z;simp only[Int.natAbs_zero] at a;lia
section
variable{X:Cx}
end
structure uC{α:Type}(lt:α->α->Prop):Prop where
 ir:∀a,¬ lt a a
 tr:∀a b c,lt a b->lt b c->lt a c
 um:∀a b,lt a b\/a=b\/lt b a
def rS{α β:Type}(l:α->α->Prop)(m:β->β->Prop)(x y:α×β):Prop:=l x.1 y.1\/(x.1=y.1/\m x.2 y.2)
theorem uC.prod{α β:Type}{l:α->α->Prop}{m:β->β->Prop}(a:uC l)(b:uC m):uC (rS l m):=by
 refine⟨λx h=>h.elim (a.ir _) λh=>b.ir _ h.2,λx y z h1 h2=>?_,λx y=>?_⟩
 ·rcases h1 with h1 | ⟨e1,h1⟩
  ·rcases h2 with h2 | ⟨e2,h2⟩
   ·exact .inl (a.tr _ _ _ h1 h2)
   ·exact .inl (e2▸h1)
  ·rcases h2 with h2 | ⟨e2,h2⟩
   ·exact .inl (e1▸h2)
   ·exact .inr ⟨e1.trans e2,b.tr _ _ _ h1 h2⟩
 ·rcases a.um x.1 y.1 with h | h | h
  ·exact .inl (.inl h)
  ·rcases b.um x.2 y.2 with g | g | g
   ·exact .inl (.inr ⟨h,g⟩)
   ·exact .inr (.inl (qZ h g))
   ·exact .inr (.inr (.inr ⟨h.symm,g⟩))
  ·exact .inr (.inr (.inl h))
theorem Vr:uC (λa b:Int=>a<b):=⟨λa=>Int.lt_irrefl a,λa b c=>Int.lt_trans,λa b=>by rcases Int.lt_trichotomy a b with h | h | h <;> simp[h]⟩
theorem Vs:uC (λa b:List Int=>_H.lexLt a b=true):=⟨Cu,TF,TH⟩
noncomputable abbrev Nd:=Int×Int×List Int×List Int
def ltN:Nd->Nd->Prop:=rS (· < ·) (rS (· < ·) (rS (λa b=>_H.lexLt a b=true) λa b=>_H.lexLt a b=true))
theorem Ji:uC ltN:=Vr.prod (Vr.prod (Vs.prod Vs))
theorem Vt:Ord ltN:=Ord.of Ji.ir Ji.tr Ji.um
noncomputable instance (a b:Nd):Decidable (ltN a b):=by unfold ltN rS;infer_instance
def gQ(H:Hp)(a:Addr)(t:Nd):Prop:=∃p q,H a=some (.tup [.int t.1,.int t.2.1,.ref p,.ref q])/\H p=some (.tup (t.2.2.1.map V.int))/\H q=some (.tup (t.2.2.2.map V.int))
theorem gQ.same{H H':Hp}(s:aj H H'){a:Addr}{t:Nd}(h:gQ H a t):gQ H' a t:=by
 obtain⟨p,q,h1,h2,h3⟩:=h;exact⟨p,q,s _ _ h1,s _ _ h2,s _ _ h3⟩
theorem gQ.fT{H:Hp}{l a:Addr}{xs ys:List V}{t:Nd}(hl:H l=some (.lst xs))(h:gQ H a t):gQ (upd H l (.lst ys)) a t:=by
 obtain⟨p,q,h1,h2,h3⟩:=h;have g:∀ {c:Addr} {us:List V},H c=some (.tup us)->upd H l (.lst ys) c=some (.tup us):=λe=>by rw[aI (λz=>by rw[z,hl] at e;cases e)];exact e
 exact⟨p,q,g h1,g h2,g h3⟩
section
variable{X:Cx}{pins:List (Addr×Obj)}{σ:St}{H:Hp}{s:Shared}
theorem Vu(I:Inv X pins σ H s){a:Addr}{t:Nd}(h:gQ H a t):∃p q k1 k2,H p=some (.tup (t.2.2.1.map V.int))/\H q=some (.tup (t.2.2.2.map V.int))/\IsTup s.heap a #[.int t.1 k1,.int t.2.1 k2,.ref p,.ref q]:=by
 obtain⟨p,q,h1,h2,h3⟩:=h;obtain⟨aB,r1,q1,_⟩:=I.tuple (aL.of (K:=X.K) h1);cases r1 with
 | cons w1 r1 =>
 cases r1 with
 | cons w2 r1 =>
 cases r1 with
 | cons w3 r1 =>
 cases r1 with
 | cons w4 r1 =>
 cases r1;obtain⟨k1,rfl⟩:=w1;obtain⟨k2,rfl⟩:=w2;cases w3;cases w4;exact⟨p,q,k1,k2,h2,h3,q1⟩
theorem af6(I:Inv X pins σ H s){A:Around}(hu:A.units+3<cLine){a b:Addr}{t u:Nd}(ha:gQ H a t)(hb:gQ H b u)(prog:Program)(w:World){Q E:Value->Shared->Prop}(h:Q (.bool (decide (ltN t u))) s) :
  wpAny (model prog w) A (richCompare .Lt (.ref a) (.ref b)) Q E s:=by
 obtain⟨p,p',k1,k2,hp,jT,ip⟩:=Vu I ha;obtain⟨q,q',k3,k4,hq,ki,iq⟩:=Vu I hb;have lx:∀ {c d:Addr} {ns ms:List Int},H c=some (.tup (ns.map V.int))->H d=some (.tup (ms.map V.int))->∀(prog:Program) (w:World) (E Q:Value->Shared->Prop),Q (.bool (_H.lexLt ns ms)) s->wpAny (model prog w) A.in1 (richCompare .Lt (.ref c) (.ref d)) Q E s:=λhc hd prog w E Q hQ=>by
  obtain⟨aB,r1,q1,_⟩:=I.tuple (aL.of (K:=X.K) hc);obtain⟨gc,r2,q2,_⟩:=I.tuple (aL.of (K:=X.K) hd);exact _H.ace q1 q2 (intsAre_of r1) (intsAre_of r2) (by show A.units+1<cLine;lia) hQ
 have hd:uo A.in1 s ((#[Value.int t.1 k1,.int t.2.1 k2,.ref p,.ref p']).toList.zip (#[Value.int u.1 k3,.int u.2.1 k4,.ref q,.ref q']).toList)
   [(t.1 == u.1,decide (t.1<u.1)),(t.2.1 == u.2.1,decide (t.2.1<u.2.1)),(decide (t.2.2.1=u.2.2.1),_H.lexLt t.2.2.1 u.2.2.1),(decide (t.2.2.2=u.2.2.2),_H.lexLt t.2.2.2 u.2.2.2)] :=
  .cons (Bx _ _ _ _) (λ_ prog w E Q hq=>_H.GO _ _ _ _ _ _ prog w E Q hq) (.cons (Bx _ _ _ _) (λ_ prog w E Q hq=>_H.GO _ _ _ _ _ _ prog w E Q hq)
   (.cons (Ie I (by show A.units+1+1<cLine;lia) hp hq) (λ_=>lx hp hq) (.cons (Ie I (by show A.units+1+1<cLine;lia) jT ki) (λ_=>lx jT ki) .nil)))
 refine ad2 ip iq rfl ∅ hd ?_
 have e:nG [(t.1 == u.1,decide (t.1<u.1)),(t.2.1 == u.2.1,decide (t.2.1<u.2.1)),(decide (t.2.2.1=u.2.2.1),_H.lexLt t.2.2.1 u.2.2.1),(decide (t.2.2.2=u.2.2.2),_H.lexLt t.2.2.2 u.2.2.2)] = decide (ltN t u):=by
  simp only[nG,ltN,rS];have i1:=Cu u.2.2.1;have i2:=Cu u.2.2.2;by_cases e1:t.1=u.1
  ·by_cases e2:t.2.1=u.2.1
   ·by_cases e3:t.2.2.1=u.2.2.1
    ·by_cases e4:t.2.2.2=u.2.2.2
     ·simp[e1,e2,e3,e4,i1,i2]
     ·simp[e1,e2,e3,e4,i1]
    ·simp[e1,e2,e3]
   ·simp[e1,e2]
  ·simp[e1]
 rw[e];exact h
end
section
variable{X:Cx}
theorem Jj(hu:X.A.units+16<cLine):cC X (compareOp .Lt) (λx y H Q=>∃a b t u,x = .ref a/\y = .ref b/\gQ H a t/\gQ H b u/\Q (.bl (decide (ltN t u))) H):=by
 rintro pins s σ H x y v u Q I rx ry ⟨a,b,t,t',rfl,rfl,ha,hb,q⟩;cases rx;cases ry;exact af6 I ∅ ha hb X.prog X.w ⟨.bl (decide (ltN t t')),H,I,rfl,q⟩
def Vv(K:W.Frag):R2:=λx y H Q=>∃a b xs ys,x = .ref a/\y = .ref b/\aL K H a xs/\H b=some (.tup ys)/\ys≠[]/\xs.length+ys.length<=sizeLine/\∀p H',aj H H'->H' p=some (.tup (xs++ys))->Q (.ref p) H'
theorem Vw:cC X (binaryOp .Add) (Vv X.K):=by
 rintro pins s σ H x y v u Q I rx ry ⟨a,b,xs,ys,rfl,rfl,ha,hb,hy,hz,q⟩;cases rx;cases ry;by_cases hx:xs = []
 ·obtain⟨aB,r1,p1,_⟩:=I.tuple ha;obtain⟨gc,r2,p2,_⟩:=I.tuple (aL.of (K:=X.K) hb);obtain⟨⟨cls,dd,data,sl⟩,ho,hc,n,hd⟩:=id p1;obtain⟨⟨Sy,oV,data2,lO⟩,gZ,m_,n2,hd2⟩:=id p2;simp only at hc hd m_ hd2;subst hc hd m_ hd2;exact concat_meets ⟨_,ho,rfl⟩ ⟨_,gZ,rfl⟩ noFill_tuple_add seq_tuple_add PySem.F.slot_tuple_add PySem.F.entry_tuple_add (PySem.F.args_tuple_add_2 _ _)
   (tuple_addW0 a b aB.toArray gc.toArray n n2 dd oV sl lO (by simp[r1.B9.mpr hx])) ⟨ho,gZ,⟨.ref b,H,I,rfl,q b H (λ_ _ e=>e) (by rw[hx];exact hb)⟩⟩
 ·exact GY pins s σ H (.ref a) (.ref b) _ _ Q I rfl rfl ⟨a,b,xs,ys,rfl,rfl,ha,aL.of hb,hx,hz,λz=>absurd z hy,λ_ p hp=>q p _ (aj.put hp) aE⟩
end
noncomputable abbrev Ms:=List (Addr×Nd)
noncomputable def mV(zs:Ms):List V:=zs.map λz=>V.ref z.1
def iO(H:Hp)(zs:Ms):Prop:=∀z,z∈zs->gQ H z.1 z.2
theorem jx(zs:Ms):(mV zs).length=zs.length:=by simp[mV]
theorem Vx{zs:Ms}{k:Nat}(h:k<zs.length):(mV zs)[k]? = some (.ref zs[k].1):=by simp[mV,h]
theorem wX(zs:Ms)(k:Nat)(z:Addr×Nd):(mV zs).set k (.ref z.1)=mV (zs.set k z):=by simp[mV,List.map_set]
theorem iO.fT{H:Hp}{l:Addr}{xs ys:List V}{zs:Ms}(hl:H l=some (.lst xs))(h:iO H zs):iO (upd H l (.lst ys)) zs:=λz hz=>(h z hz).fT hl
theorem iO.same{H H':Hp}(s:aj H H'){zs:Ms}(h:iO H zs):iO H' zs:=λz hz=>(h z hz).same s
theorem C_{n:Nat}(h:n<20000):n<sizeLine:=by rw[rO];lia
def gq(a b:Addr×Nd):Prop:=ltN a.2 b.2
noncomputable instance (a b:Addr×Nd):Decidable (gq a b):=by unfold gq;infer_instance
theorem uD:Ord gq:=⟨λh=>Vt.as h,λh1 h2=>Vt.tr h1 h2⟩
noncomputable def fm(zs:Ms):Nat->Addr×Nd:=λi=>zs.getD i (0,(0,0,[],[]))
theorem jc{zs:Ms}{k:Nat}(h:k<zs.length):fm zs k=zs[k]:=by simp[fm,h]
theorem wY{zs:Ms}{k:Nat}(h:k<zs.length)(x:Addr×Nd):fm (zs.set k x)=put (fm zs) k x:=by
 funext i
 by_cases e:i=k
 ·subst e;rw[lg,jc (by simpa using h)]
  simp
 ·rw[fU e];simp[fm,List.getElem?_set_ne (λz=>e z.symm)]
structure fX(H:Hp)(l:Addr)(zs:Ms):Prop where
 l:H l=some (.lst (mV zs))
 z:iO H zs
 n:zs.length<=20000
section
variable{H H':Hp}{l a:Addr}{zs ys:Ms}{t:Nd}{k:Nat}
theorem fX.get(hk:k<zs.length):fq (mV zs) (k:Int)=some (.ref zs[k].1):=rJ (Vx hk)
theorem fX.th(h:fX H l zs)(hk:k<zs.length):gQ H zs[k].1 zs[k].2:=h.z _ (cI hk)
theorem fX.set(h:fX H l zs)(hy:iO H ys)(n:ys.length<=20000):fX (upd H l (.lst (mV ys))) l ys:=⟨aE,hy.fT h.l,n⟩
theorem fX.same(s:aj H H')(h:fX H l zs):fX H' l zs:=⟨s _ _ h.l,h.z.same s,h.n⟩
theorem Vy(h:iO H zs){x:Addr×Nd}(hx:gQ H x.1 x.2):iO H (zs.set k x):=λz hz=>by
 rcases Fj hz with q | q
 ·exact h z q
 ·rw[q];exact hx
theorem Vz{zs:Ms}{x:Addr×Nd}{i:Nat}(h:i<zs.length):fm (zs++[x]) i=fm zs i:=by
 rw[jc h,jc (by simp;lia),Fd h]
theorem af7{zs:Ms}{x:Addr×Nd}(h:jt gq zs.length (fm zs)):Up gq (zs++[x]).length zs.length (fm (zs++[x])) x:=by
 have jy:∀i,i<(zs++[x]).length->1<=i->par i≠zs.length:=λi hi h1=>by
  rw[e_,vf] at hi;unfold par;lia
 refine⟨λi h1 hn hk=>?_,λ_ i hn h1 e=>absurd e (jy i hn h1),λi h1 hn e=>absurd e (jy i hn h1)⟩;rw[e_,vf] at hn;have pl:=nF h1;rw[fU hk,fU ∅,Vz ∅,Vz ∅]
 exact h i h1 ∅
theorem af8{cZ:Ms}(p:cZ.Perm zs)(h:iO H zs):iO H cZ:=λz hz=>h z (p.mem_iff.mp hz)
theorem VA{x:Addr×Nd}(hx:gQ H x.1 x.2)(h:iO H zs):iO H (x::zs):=λz hz=>by
 rcases b_.mp hz with e | e
 ·rw[e];exact hx
 ·exact h z e
theorem af9(zs:Ms)(x:Addr×Nd):mV zs++[V.ref x.1] = mV (zs++[x]):=by simp[mV]
theorem af_(zs:Ms):(mV zs).dropLast=mV zs.dropLast:=by simp[mV,List.map_dropLast]
noncomputable def iw(zs:Ms)(k:Nat):Nat:=if 2*k+1+1<zs.length/\gq (fm zs (2*k+1+1)) (fm zs (2*k+1)) then 2*k+1+1 else 2*k+1
theorem aga(zs:Ms)(k:Nat):rR gq zs.length k (iw zs k) (fm zs):=by
 unfold iw;split
 ·exact(rR.of uD).1 (by assumption)
 ·exact(rR.of uD).2 (by assumption)
theorem agb(zs:Ms)(k:Nat):k<iw zs k/\iw zs k<=2*k+2:=by
 unfold iw;split <;> lia
def agc:Sp:=λvs H Q _=>∃(l:Addr) (zs:Ms) (k:Nat),vs = [.ref l,.int (k:Int)]/\fX H l zs/\k<=20000/\Q (.int (iw zs k:Nat)) H
def agd:Sp:=λvs H Q _=>∃(l a:Addr) (t:Nd) (zs:Ms),vs = [.ref l,.ref a]/\fX H l zs/\gQ H a t/\0<zs.length/\Down gq zs.length 0 (fm zs) (a,t)/\
 ∀cZ:Ms,cZ.Perm ((a,t)::zs.eraseIdx 0)->jt gq cZ.length (fm cZ)->Q .aU (upd H l (.lst (mV cZ)))
def age:Sp:=λvs H Q _=>∃(l:Addr) (zs:Ms),vs = [.ref l]/\fX H l zs/\jt gq zs.length (fm zs)/\(zs = []->Q .aU H)/\
 ∀(z:Addr×Nd) (cZ:Ms),zs.Perm (z::cZ)->(∀y,y∈zs->¬ ltN y.2 z.2)->jt gq cZ.length (fm cZ)->Q (.ref z.1) (upd H l (.lst (mV cZ)))
def agf:Sp:=λvs H Q _=>∃(l a:Addr) (t:Nd) (zs:Ms),vs = [.ref l,.ref a]/\fX H l zs/\zs.length<20000/\gQ H a t/\jt gq zs.length (fm zs)/\
 ∀cZ:Ms,cZ.Perm ((a,t)::zs)->jt gq cZ.length (fm cZ)->Q .aU (upd H l (.lst (mV cZ)))
theorem agg{z:Addr×Nd}{r:Ms}{u:Addr×Nd}(h:jt gq (z::(r++[u])).length (fm (z::(r++[u])))):Down gq (z::r).length 0 (fm (z::r)) u:=by
 refine⟨λi hi hn hp=>?_,λh0=>absurd h0 ∅⟩
 have pl:=nF hi;have:=h i hi (by simp at hn ⊢;lia)
 rw[fU ∅,fU hp]
 have e:∀j,j<(z::r).length->fm (z::(r++[u])) j=fm (z::r) j:=λj hj=>by
  rw[jc hj,jc (by simp at hj ⊢;lia)]
  rw[← Fd (bs:=[u]) hj]
  rfl
 rwa [e i hn,e _ ∅] at this
theorem agh{zs:Ms}(h:jt gq zs.length (fm zs))(h0:0<zs.length):∀y,y∈zs->¬ ltN y.2 (zs[0]).2:=by
 intro y hy;obtain⟨j,hj,rfl⟩:=jh.mp hy;have:=h.least uD j hj;rwa [jc hj,jc h0] at this
end
noncomputable def bR(ds:List Dr)(bg:List Int):List Dr:=ds.filter λd => !decide (d.n∈bg)
noncomputable def g9(ds:List Dr)(bg:List Int):List Dr:=(bR ds bg).filter λd=>(nU ds d).all λo=>decide (o∈bg)
inductive Reach (P:Pl) (ds:List Dr) (s:Int×Int):List Int->(Int×Int)->Prop
 | nil:Reach P ds s [] s
 | snoc {bg:List Int} {st:Int×Int} {d:Dr} (h:Reach P ds s bg st) (hd:d∈g9 ds bg):Reach P ds s (bg++[d.n]) (a_ P st d.c)
theorem wZ{ds:List Dr}{bg:List Int}{d:Dr}:d∈bR ds bg↔d∈ds/\d.n∉bg:=by simp[bR]
theorem rY{ds:List Dr}{bg:List Int}{d:Dr}:d∈g9 ds bg↔(d∈ds/\d.n∉bg)/\∀o∈nU ds d,o∈bg:=by
 unfold g9;rw[List.mem_filter,wZ];simp
theorem agi{ds:List Dr}{d:Dr}{o:Int}(h:o∈nU ds d):∃e∈ds,e.n=o/\e.n<d.n:=by
 obtain⟨e,he,rfl⟩:=dh.mp h;obtain⟨h1,h2⟩:=fj.mp he;unfold pH at h2;simp only[Bool.and_eq_true,decide_eq_true_eq] at h2;exact⟨e,h1,rfl,h2.1⟩
theorem Dc(ds:List Dr):bR ds [] = ds:=by simp[bR]
theorem agj(ds:List Dr)(bg:List Int)(n:Int):bR ds (bg++[n])=(bR ds bg).filter λd => !decide (d.n=n):=by
 unfold bR;rw[List.filter_filter];congr 1;funext d;by_cases h:d.n∈bg <;> by_cases h2:d.n=n <;> simp[h,h2]
theorem agk{ds:List Dr}(nd:(ds.map (·.n)).Nodup){d:Dr}(hd:d∈ds):∃as bs,ds=as++d::bs/\(ds.filter λx => !decide (x.n=d.n))=as++bs:=by
 obtain⟨as,bs,rfl⟩:=List.append_of_mem hd;refine⟨as,bs,rfl,?_⟩;rw[bT,cH,Bg] at nd;obtain⟨n1,n2,n3⟩:=nd;rw[kN] at n2;rw[A8,oz];simp only[decide_true,Bool.not_true,Bool.false_eq_true,if_false];rw[List.filter_eq_self.mpr,List.filter_eq_self.mpr]
 ·intro x hx;simp only[Bool.not_eq_true',decide_eq_false_iff_not];exact λe=>n2.1 (e▸vj hx)
 ·intro x hx;simp only[Bool.not_eq_true',decide_eq_false_iff_not];exact λe=>n3 x.n (vj hx) d.n (b8 ..) e
theorem agl{ds:List Dr}(nd:(ds.map (·.n)).Nodup)(bg:List Int):((bR ds bg).map (·.n)).Nodup:=(E9 _ xU).nodup nd
theorem VB{ds:List Dr}(nd:(ds.map (·.n)).Nodup){bg:List Int}{d:Dr}(hd:d∈bR ds bg):(bR ds bg).Perm (d::bR ds (bg++[d.n])):=by
 obtain⟨as,bs,e1,e2⟩:=agk (agl nd bg) hd;rw[agj,e2,e1];exact List.perm_middle
theorem Jk{ds:List Dr}(nd:(ds.map (·.n)).Nodup){bg:List Int}{d:Dr}(hd:d∈bR ds bg):(bR ds bg).length=(bR ds (bg++[d.n])).length+1:=by
 have:=(VB nd hd).length_eq;simpa using this
theorem Dd{ds:List Dr}{bg:List Int}{d:Dr}(h:d∈g9 ds bg):d∈bR ds bg:=(fj.mp h).1
theorem agm{ds:List Dr}{bg:List Int}(h:bR ds bg≠[]):g9 ds bg≠[]:=by
 have low:∀l:List Dr,l≠[]->∃d∈l,∀e∈l,d.n<=e.n:=by
  intro l
  induction l with
  | nil=>intro h;exact absurd rfl h
  | cons x l ih =>
   intro _;by_cases hl:l = []
   ·subst hl;exact⟨x,b8 ..,λe he=>by rw[fQ.mp he];exact kL _⟩
   ·obtain⟨d,hd,h2⟩:=ih hl;by_cases hx:x.n<=d.n
    ·exact⟨x,b8 ..,λe he=>by
      rcases b_.mp he with e1 | e1
      ·rw[e1];exact kL _
      ·have:=h2 e e1;lia⟩
    ·exact⟨d,bU _ hd,λe he=>by
      rcases b_.mp he with e1 | e1
      ·rw[e1];lia
      ·exact h2 e e1⟩
 obtain⟨d,hd,hl⟩:=low _ h;have:d∈g9 ds bg:=by
  refine rY.mpr ⟨wZ.mp hd,λo ho=>?_⟩;obtain⟨e,he,rfl,lt⟩:=agi ho;by_cases hb:e.n∈bg
  ·exact hb
  ·have:=hl e (wZ.mpr ⟨he,hb⟩);lia
 exact List.ne_nil_of_mem this
theorem De(P:Pl):∀(a b:List (Int×Int)) (s:Int×Int),a_ P s (a++b)=a_ P (a_ P s a) b
 | [],_,_=>rfl
 | q::a,b,s=>De P a b (dM P s q)
theorem Reach.pre{P:Pl}{ds:List Dr}{s:Int×Int}:∀ {eS:List Int} {cy:Int×Int},Reach P ds s eS cy->∀ {bg:List Int},bg <+: eS->∃st,Reach P ds s bg st/\Reach P ds s eS cy:=by
 intro eS cy h
 induction h with
 | nil=>intro bg hp;rw[Fq.mp hp];exact⟨s,.nil,.nil⟩
 | snoc h hd ih =>
  intro bg hp;rcases Fp.mp hp with e | e
  ·subst e;exact⟨_,h.snoc hd,h.snoc hd⟩
  ·obtain⟨st,h1,_⟩:=ih e;exact⟨st,h1,h.snoc hd⟩
theorem VC:∀ {ds:List Dr},(ds.map (·.n)).Nodup->∀ {d e:Dr},d∈ds->e∈ds->d.n=e.n->d=e
 | [],_,_,_,h,_,_=>nomatch h
 | x::ds,nd,d,e,h1,h2,h=>by
  rw[cH,kN] at nd;rcases b_.mp h1 with a | a <;> rcases b_.mp h2 with b | b
  ·rw[a,b]
  ·exact absurd (a▸h▸vj b) nd.1
  ·exact absurd (b▸h▸vj a) nd.1
  ·exact VC nd.2 a b h
theorem Reach.uniq{P:Pl}{ds:List Dr}{s:Int×Int}(nd:(ds.map (·.n)).Nodup):∀ {bg:List Int} {st cy:Int×Int},Reach P ds s bg st->Reach P ds s bg cy->st=cy:=by
 intro bg st cy h
 induction h generalizing cy with
 | nil =>
  intro h';generalize hb:([]:List Int)=b at h';cases h' with
  | nil=>rfl
  | snoc=>simp at hb
 | @snoc b1 pI d h hd ih =>
  intro h';generalize hb:b1++[d.n] = b at h';cases h' with
  | nil=>simp at hb
  | @snoc b2 b7 d2 h2 hd2 =>
   obtain⟨e1,e2⟩:=List.append_inj' hb rfl;subst e1;rw[ih h2];have e3:d.n=d2.n:=by simpa using e2
   rw[VC nd (rY.mp hd).1.1 (rY.mp hd2).1.1 e3]
theorem Reach.ext{P:Pl}{ds:List Dr}{s:Int×Int}(nd:(ds.map (·.n)).Nodup){bg:List Int}{st:Int×Int}(h0:Reach P ds s bg st):∀ {eS:List Int} {cy:Int×Int},Reach P ds s eS cy->bg <+: eS->∃xs:List Dr,eS=bg++xs.map (·.n)/\cy=a_ P st (xs.flatMap (·.c))/\(bR ds bg).Perm (xs++bR ds eS):=by
 intro eS cy h
 induction h with
 | nil =>
  intro hp;have e:=Fq.mp hp;subst e;rw[Reach.uniq nd h0 .nil];exact⟨[],rfl,rfl,.refl _⟩
 | @snoc b1 pI d h hd ih =>
  intro hp;rcases Fp.mp hp with e | e
  ·subst e;rw[Reach.uniq nd h0 (h.snoc hd)];exact⟨[],by simp,rfl,.refl _⟩
  ·obtain⟨xs,e1,e2,e3⟩:=ih e;refine⟨xs++[d],by rw[e1];simp,?_,?_⟩
   ·rw[e2,A_,De];simp
   ·rw[pY];exact e3.trans ((VB nd (Dd hd)).append_left xs)
theorem agn{α:Type}{f:α->Int}{xs ys:List α}(h:xs.Perm ys):(xs.map f).sum=(ys.map f).sum:=by
 induction h with
 | nil=>rfl
 | cons x _ ih=>simp[ih]
 | swap x y l=>simp;lia
 | trans _ _ h1 h2=>exact h1.trans h2
theorem ago(P:Pl)(a b:List (Int×Int)):fz P (a++b)=fz P a+fz P b:=by simp[fz]
theorem VD(P:Pl):∀xs:List Dr,fz P (xs.flatMap (·.c))=(xs.map λd=>fz P d.c).sum
 | []=>rfl
 | d::xs=>by rw[xV,ago,VD P xs];simp
theorem VE{P:Pl}(ok:fJ P):∀ {cz:List (Int×Int)},(∀q∈cz,0<=q.1/\q.1<P.rc.length)->0<=fz P cz
 | [],_=>by simp[fz]
 | q::cz,h=>by
  have ih:=VE ok (cz:=cz) λx hx=>h x (bU _ hx);obtain⟨q0,q1⟩:=h q (b8 ..);have:=ok.c q.1.toNat ∅
  have:=A3 (a:=P.ao) (b:=P.rc.getD q.1.toNat 0) (by have:=ok.ao;lia) ∅
  unfold fz at *
  rw[cH,qa];lia
theorem Jl{P:Pl}(ok:fJ P):∀ {cz:List (Int×Int)} {s:Int×Int},(∀q∈cz,0<=q.1/\q.1<P.rc.length)->s.1<P.rc.length->0<=s.1->s.2+fz P cz<=(a_ P s cz).2
 | [],s,_,_,_=>by simp[fz,a_]
 | q::cz,s,h,h1,h0=>by
  obtain⟨q0,q1⟩:=h q (b8 ..);have ih:=Jl ok (cz:=cz) (s:=dM P s q) (λx hx=>h x (bU _ hx)) q1 q0;have b:=Ct ok q.1 q.2 (s.2+P.sw.getD (s.1 - q.1).natAbs 0);have w:=ok.sw.nonneg (j:=(s.1 - q.1).natAbs) (by have:=ok.sw.len;lia)
  have e:(dM P s q).2=jM P q.1 q.2 (s.2+P.sw.getD (s.1 - q.1).natAbs 0)+P.ao / P.rc.getD q.1.toNat 0:=rfl;have e2:fz P (q::cz)=P.ao / P.rc.getD q.1.toNat 0+fz P cz:=by simp[fz]
  rw[a_,e2];lia
theorem VF{P:Pl}(ok:fJ P):∀ {cz:List (Int×Int)} {s t:Int×Int},(∀q∈cz,0<=q.1/\q.1<P.rc.length)->zD P s t->zD P (a_ P s cz) (a_ P t cz)
 | [],s,t,_,nl=>nl
 | q::cz,s,t,h,nl=>by
  obtain⟨q0,q1⟩:=h q (b8 ..);rw[a_,a_];refine VF ok (λx hx=>h x (bU _ hx)) λr r0 r1=>?_;have:=Vm ok nl q q0 q1
  show (dM P s q).2+P.sw.getD (q.1 - r).natAbs 0<=(dM P t q).2+P.sw.getD (q.1 - r).natAbs 0;lia
theorem agp(xs:List (Int×Int)):jS (λ_=>false) xs = []:=by simp[jS]
theorem agq{P:Pl}(ok:fJ P){s:Int×Int}(s0:0<=s.1)(s1:s.1<P.rc.length){a c b:List (Int×Int)}(ha:∀q∈a,0<=q.1/\q.1<P.rc.length)(hc:∀q∈c,0<=q.1/\q.1<P.rc.length)(hb:∀q∈b,0<=q.1/\q.1<P.rc.length) :
  (a_ P s c).2<=(a_ P s (a++(c++b))).2:=by
 have n1:=(af4 ok (λ_=>false) s s0 s1 a ha).1;rw[agp] at n1;have n2:=VF ok hc n1;have i0:=k_ P (n:=P.rc.length) a s s0 s1 ha;have i1:=k_ P (n:=P.rc.length) c (a_ P s a) i0.1 i0.2 hc;have i2:=k_ P (n:=P.rc.length) c s s0 s1 hc;have l:=af5 ok n2 i1.1 i1.2 i2.1 i2.2;have p:=Jl ok hb i1.2 i1.1;have z:=VE ok hb;rw[De,De];have l:(a_ P s c).2<=(a_ P (a_ P s a) c).2:=l;lia
theorem VG{f:List (Int×Int)->Int}{M:Int}:∀ {cs:List (List (Int×Int))} {x:Int},x<=M->(∀c∈cs,f c<=M)->cs.foldl (λx c=>max x (f c)) x<=M
 | [],_,h,_=>h
 | c::cs,x,h,g=>by
  rw[mK];have:=g c (b8 ..);exact VG ∅ λd hd=>g d (bU _ hd)
theorem agr{P:Pl}(ok:fJ P){ds:List Dr}(hd:∀d∈ds,∀q∈d.c,0<=q.1/\q.1<P.rc.length){s st:Int×Int}(nd:(ds.map (·.n)).Nodup){bg:List Int}(h0:Reach P ds s bg st)(r0:0<=st.1)(r1:st.1<P.rc.length){eS:List Int}{cy:Int×Int}(h:Reach P ds s eS cy)(hp:bg <+: eS)(hf:bR ds eS = []) :
  kF P st.1 st.2 ((bR ds bg).map (·.c))<=cy.2:=by
 obtain⟨xs,e1,e2,e3⟩:=h0.ext nd h hp;rw[hf,mJ] at e3;have hx:∀d∈xs,∀q∈d.c,0<=q.1/\q.1<P.rc.length:=λd fS=>hd d (wZ.mp (e3.mem_iff.mpr fS)).1;have fl:∀ys:List Dr,(∀d∈ys,d∈xs)->∀q∈ys.flatMap (·.c),0<=q.1/\q.1<(P.rc.length:Int):=λys hy q hq=>by
  obtain⟨d,qy,hd2⟩:=Fi.mp hq;exact hx d (hy d qy) q hd2
 unfold kF;rw[e2];refine VG ?_ λc hc=>?_
 ·rw[oA,show (bR ds bg).map (fz P ∘ λd=>d.c)=(bR ds bg).map (λd=>fz P d.c) from rfl,agn e3,← VD];exact Jl ok (fl xs λ_ h=>h) r1 r0
 ·obtain⟨d,rZ,rfl⟩:=dh.mp hc;obtain⟨as,bs,e4⟩:=List.append_of_mem (e3.mem_iff.mp rZ);have:=agq ok r0 r1 (fl as λx hx=>by rw[e4];simp[hx]) (hx d (e3.mem_iff.mp rZ)) (fl bs λx hx=>by rw[e4];simp[hx])
  rw[e4,A_,xV];exact this
theorem Reach.len{P:Pl}{ds:List Dr}(nd:(ds.map (·.n)).Nodup){s:Int×Int}:∀ {bg:List Int} {st:Int×Int},Reach P ds s bg st->bg.length+(bR ds bg).length=ds.length:=by
 intro bg st h
 induction h with
 | nil=>rw[Dc];simp
 | snoc h hd ih =>
  have:=Jk nd (Dd hd);rw[e_,vf];lia
theorem Reach.qI{P:Pl}{ds:List Dr}(hd:∀d∈ds,∀q∈d.c,0<=q.1/\q.1<(P.rc.length:Int)){s:Int×Int}(s0:0<=s.1)(s1:s.1<P.rc.length):∀ {bg:List Int} {st:Int×Int},Reach P ds s bg st->0<=st.1/\st.1<P.rc.length:=by
 intro bg st h
 induction h with
 | nil=>exact⟨s0,s1⟩
 | @snoc b1 pI d h fS ih=>exact k_ P (n:=P.rc.length) d.c pI ih.1 ih.2 (hd d (rY.mp fS).1.1)
theorem Reach.last{P:Pl}{ds:List Dr}{s:Int×Int}(nd:(ds.map (·.n)).Nodup){bg:List Int}{n:Int}{st cy:Int×Int}(h:Reach P ds s (bg++[n]) cy)(h0:Reach P ds s bg st):∃d∈g9 ds bg,d.n=n/\cy=a_ P st d.c:=by
 generalize hb:bg++[n] = b at h;cases h with
 | nil=>simp at hb
 | @snoc b2 b7 d2 h2 hd2 =>
  obtain⟨e1,e2⟩:=List.append_inj' hb rfl;subst e1;exact⟨d2,hd2,by simpa using e2.symm,by rw[Reach.uniq nd h2 h0]⟩
noncomputable def dw(P:Pl)(ds:List Dr)(bg:List Int)(st:Int×Int):Nd:=(kF P st.1 st.2 ((bR ds bg).map (·.c)),((bR ds bg).length:Int),bg,[st.1,st.2])
noncomputable def jd:Nat->Nat
 | 0=>1
 | k+1=>1+(k+1)*jd k
theorem ags:∀ {k n:Nat},k<=n->jd k<=jd n:=by
 have one:∀n,jd n<=jd (n+1):=λn=>by
  rw[jd,Nat.add_mul];lia
 intro k n h
 induction h with
 | refl=>exact bu _
 | step _ ih=>exact cQ ih (one _)
theorem agt:∀k,1<=jd k
 | 0=>bu _
 | k+1=>by rw[jd];lia
noncomputable def gR(ms:List Nd):Nat:=(ms.map λt=>jd t.2.1.toNat).sum
theorem VH{a b:List Nd}(h:a.Perm b):gR a=gR b:=by
 unfold gR
 induction h with
 | nil=>rfl
 | cons x _ ih=>simp[ih]
 | swap x y l=>simp;lia
 | trans _ _ h1 h2=>exact h1.trans h2
theorem VI:∀ms:List Nd,ms.length<=gR ms
 | []=>bu _
 | t::ms=>by
  have:=VI ms;have:=agt t.2.1.toNat;unfold gR at *
  rw[cH,qa,dR];lia
theorem VJ(a b:List Nd):gR (a++b)=gR a+gR b:=by simp[gR]
noncomputable def uE(P:Pl)(ds:List Dr)(bg:List Int)(st:Int×Int):List Nd:=(g9 ds bg).map λd=>dw P ds (bg++[d.n]) (a_ P st d.c)
theorem agu{P:Pl}{ds:List Dr}(nd:(ds.map (·.n)).Nodup){bg:List Int}{st:Int×Int}(h:bR ds bg≠[]):gR (uE P ds bg st)<jd (bR ds bg).length:=by
 obtain⟨k,hk⟩:∃k,(bR ds bg).length=k+1:=by
  cases e:bR ds bg with
  | nil=>exact absurd e h
  | cons x l=>exact⟨l.length,rfl⟩
 have all:∀l:List Dr,(∀d∈l,d∈g9 ds bg)->gR (l.map λd=>dw P ds (bg++[d.n]) (a_ P st d.c))=l.length*jd k:=by
  intro l
  induction l with
  | nil=>intro _;simp[gR]
  | cons d l ih =>
   intro hl;have:=Jk nd (Dd (hl d (b8 ..)));have ih:=ih λe he=>hl e (bU _ he);unfold gR at *
   rw[cH,cH,qa,ih,dR]
   show jd ((bR ds (bg++[d.n])).length:Int).toNat+_=_;rw[Int.toNat_natCast,show (bR ds (bg++[d.n])).length=k by lia,Nat.add_mul];lia
 have e:=all (g9 ds bg) λ_ h=>h;unfold uE;rw[e,hk,jd];have l:(g9 ds bg).length<=k+1:=by rw[← hk];exact kM _ _
 have:=Nat.mul_le_mul_right (jd k) l;lia
structure jU(P:Pl)(ds:List Dr)(s:Int×Int)(t:Nd)(hp:List Nd):Prop where
 nd:∀u∈t::hp,∃bg st,Reach P ds s bg st/\u=dw P ds bg st
 Jm:∀eS cy,Reach P ds s eS cy->bR ds eS = []->∃u∈t::hp,u.2.2.1 <+: eS
 low:∀u∈hp,¬ ltN u t
theorem jU.start(P:Pl)(ds:List Dr)(s:Int×Int):jU P ds s (dw P ds [] s) [] :=
 ⟨λu hu=>⟨[],s,.nil,fQ.mp hu⟩,λeS _ _ _=>⟨_,List.mem_singleton.mpr rfl,Fl⟩,λ_ h=>nomatch h⟩
theorem jU.step{P:Pl}{ds:List Dr}{s:Int×Int}(nd:(ds.map (·.n)).Nodup){bg:List Int}{st:Int×Int}{hp ig jT:List Nd}{z:Nd}(I:jU P ds s (dw P ds bg st) hp)(hr:Reach P ds s bg st)(hl:bR ds bg≠[])
  (p2:ig.Perm (uE P ds bg st++hp)) (p:ig.Perm (z::jT)) (lo:∀y∈ig,¬ ltN y z):jU P ds s z jT/\gR (z::jT)<gR (dw P ds bg st::hp):=by
 have mem:∀u,u∈z::jT↔u∈uE P ds bg st++hp:=λu=>p.mem_iff.symm.trans p2.mem_iff;refine⟨⟨λu hu=>?_,λeS cy h hf=>?_,λu hu=>lo u (p.mem_iff.mpr (bU _ hu))⟩,?_⟩
 ·rcases fE.mp ((mem u).mp hu) with h | h
  ·obtain⟨d,hd,rfl⟩:=dh.mp h;exact⟨_,_,hr.snoc hd,rfl⟩
  ·exact I.nd u (bU _ h)
 ·obtain⟨u,hu,qJ⟩:=I.Jm eS cy h hf;rcases b_.mp hu with e | e
  ·subst e;have qJ:bg <+: eS:=qJ;obtain⟨xs,e1,_,e3⟩:=hr.ext nd h qJ;cases xs with
   | nil=>rw[hf] at e3;exact absurd e3.length_eq (by cases e:bR ds bg with | nil=>exact absurd e hl | cons x l=>simp)
   | cons x xs =>
    have w5:bg++[x.n] <+: eS:=by rw[e1];exact⟨xs.map (·.n),by simp⟩
    obtain⟨b7,h2,_⟩:=h.pre w5;obtain⟨d,hd,en,_⟩:=h2.last nd hr;refine⟨dw P ds (bg++[d.n]) (a_ P st d.c),(mem _).mpr (p8 _ (dh.mpr ⟨d,hd,rfl⟩)),?_⟩
    show bg++[d.n] <+: eS;rw[en];exact w5
  ·exact⟨u,(mem u).mpr (fc _ e),qJ⟩
 ·rw[← VH p,VH p2,VJ];have:=agu (P:=P) (st:=st) nd hl
  show _<gR ([dw P ds bg st]++hp);rw[VJ];have e:gR [dw P ds bg st] = jd (bR ds bg).length:=by simp[gR,dw]
  lia
structure agv(P:Pl)(ds:List Dr)(s:Int×Int)(bg:List Int)(e:Int):Prop where
 r:∃st,Reach P ds s bg st/\st.2=e
 f:bR ds bg = []
 m:∀eS cy,Reach P ds s eS cy->bR ds eS = []->e<=cy.2
theorem VL{u t:Nd}(h:¬ ltN u t):t.1<=u.1:=by
 by_cases e:u.1<t.1
 ·exact absurd (.inl e) h
 ·lia
theorem jU.done{P:Pl}(ok:fJ P){ds:List Dr}(hd:∀d∈ds,∀q∈d.c,0<=q.1/\q.1<(P.rc.length:Int)){s:Int×Int}(s0:0<=s.1)(s1:s.1<P.rc.length)(nd:(ds.map (·.n)).Nodup){t:Nd}{hp:List Nd}(I:jU P ds s t hp)(h0:t.2.1<=0):agv P ds s t.2.2.1 t.1:=by
 obtain⟨bg,st,hr,rfl⟩:=I.nd t (b8 ..);have hf:bR ds bg = []:=by
  have:((bR ds bg).length:Int)<=0:=h0;exact E_ ∅
 have e:(dw P ds bg st).1=st.2:=by
  show kF P st.1 st.2 ((bR ds bg).map (·.c))=_;rw[hf];simp[kF]
 refine⟨⟨st,hr,e.symm⟩,hf,λeS cy h zE=>?_⟩;obtain⟨u,hu,qJ⟩:=I.Jm eS cy h zE;have le:(dw P ds bg st).1<=u.1:=by
  rcases b_.mp hu with e | e
  ·rw[e];exact kL _
  ·exact VL (I.low u e)
 obtain⟨Jo,b7,uF,rfl⟩:=I.nd u hu;have i:=uF.qI hd s0 s1;have:=agr ok hd nd uF i.1 i.2 h qJ zE;exact A5 le this
structure jz(K:W.Frag)(CA CD:Addr)(H:Hp)(ps:List Addr)(ds:List Dr):Prop where
 n:ps.length=ds.length
 t:∀(i:Nat) (p:Addr) (d:Dr),ps[i]? = some p->ds[i]? = some d->∃dx ap l ts m b cu,jQ K CA CD H p d dx ap l ts m b cu
section
variable{K:W.Frag}{CA CD:Addr}{H H' H0:Hp}{ps:List Addr}{ds:List Dr}
theorem jz.nil:jz K CA CD H [] []:=⟨rfl,λi p d e=>nomatch e⟩
theorem jz.snoc(h:jz K CA CD H ps ds){p:Addr}{d:Dr}(hd:∃dx ap l ts m b cu,jQ K CA CD H p d dx ap l ts m b cu):jz K CA CD H (ps++[p]) (ds++[d]):=by
 refine⟨by simp[h.n],λi p' d' e1 e2=>?_⟩
 have hn:=h.n;by_cases hi:i<ps.length
 ·rw[d9 hi] at e1;rw[d9 ∅] at e2
  exact h.t i p' d' e1 e2
 ·rw[d_ ∅] at e1
  rw[d_ ∅] at e2
  have dm:i - ps.length=0:=by
   have:=(iB.mp e1).1;simp at this;lia
  rw[dm] at e1;rw[← hn,dm] at e2;simp at e1 e2;subst e1 e2;exact hd
theorem jz.same(h:jz K CA CD H ps ds)(s:aj H H'):jz K CA CD H' ps ds:=⟨h.n,λi p d e1 e2=>let ⟨dx,ap,l,ts,m,b,cu,a⟩:=h.t i p d e1 e2;⟨dx,ap,l,ts,m,b,cu,a.same s⟩⟩
theorem jz.Ja(h:jz K CA CD H ps ds){l:Addr}(hl:H l=some (.lst (ps.map V.ref))):jw K CA CD H l ps ds:=⟨hl,h.n,h.t⟩
end
theorem agw{X:Cx}{K:W.Frag}(h:X.K=K)(hc:X.calm=true):gY X (.builtin "all") (λxs H Q=>∃(p:Addr) (bs:List Bool),xs = [.ref p]/\az K H p (bs.map V.bl)/\Q (.bl (bs.all id)) H):=h▸ad6 hc
def agx(K:W.Frag)(CA CD:Addr):Sp:=λvs H Q _=>∃(l:Addr) (ps:List Addr) (ds:List Dr),vs = [.ref l]/\jw K CA CD H l ps ds/\Q (.bl (decide (ds.length<=7))) H
def agy(K:W.Frag)(CA CD:Addr):Sp:=λvs H Q _=>∃(l:Addr) (ps:List Addr) (ds:List Dr),vs = [.ref l]/\jw K CA CD H l ps ds/\ds.length<=7/\Q .aU H
def agz(K:W.Frag)(CA CD:Addr):Sp:=λvs H Q _=>∃(l b:Addr) (ps:List Addr) (ds:List Dr) (bg:List Int) (H0:Hp),vs = [.ref l,.ref b]/\aj H0 H/\jw K CA CD H0 l ps ds/\ds.length<=100/\H b=some (.tup (bg.map V.int))/\
 ∀(D:Addr) (eY:List Addr) (H':Hp),aj H H'->H D=none->H' D=some (.lst (eY.map V.ref))->jz K CA CD H0 eY (bR ds bg)->Q (.ref D) H'
def agA(K:W.Frag)(CA CD:Addr):Sp:=λvs H Q _=>∃(l kd b:Addr) (ps:List Addr) (ds:List Dr) (aA:List (Key×V)) (bg:List Int) (H0:Hp),vs = [.ref l,.ref kd,.ref b]/\aj H0 H/\jw K CA CD H0 l ps ds/\ds.length<=100/\C8 H0 kd ds ds aA/\H b=some (.tup (bg.map V.int))/\
 ∀(D:Addr) (eY:List Addr) (H':Hp),aj H H'->H D=none->H' D=some (.lst (eY.map V.ref))->jz K CA CD H0 eY (g9 ds bg)->Q (.ref D) H'
def agB(K:W.Frag)(cs:List Addr)(CA CD:Addr):Sp:=λvs H Q _=>∃(C p l b st:Addr) (P:Pl) (fp:List Addr) (ps:List Addr) (ds:List Dr) (bg:List Int) (s:Int×Int),vs = [.ref p,.ref l,.ref b,.ref st]/\C∈cs/\cW K C H p P fp/\fJ P/\0<=s.1/\s.1<P.rc.length/\jw K CA CD H l ps ds/\ds.length<=100/\(∀d∈ds,iJ P d.c/\d.c.length<=1000)/\H b=some (.tup (bg.map V.int))/\H st=some (.tup [.int s.1,.int s.2])/\
 ∀(a:Addr) (H':Hp),aj H H'->H a=none->gQ H' a (dw P ds bg s)->Q (.ref a) H'
def agC(K:W.Frag)(cs:List Addr)(CA CD:Addr):Sp:=λvs H Q _=>∃(C hp p l kd a:Addr) (P:Pl) (fp:List Addr) (ps:List Addr) (ds:List Dr) (aA:List (Key×V)) (bg:List Int) (s:Int×Int) (zs:Ms) (H0:Hp),vs = [.ref hp,.ref p,.ref l,.ref kd,.ref a]/\aj H0 H/\H0 hp=none/\C∈cs/\cW K C H0 p P fp/\fJ P/\0<=s.1/\s.1<P.rc.length/\jw K CA CD H0 l ps ds/\ds.length<=7/\(∀d∈ds,iJ P d.c/\d.c.length<=1000)/\C8 H0 kd ds ds aA/\gQ H a (dw P ds bg s)/\fX H hp zs/\jt gq zs.length (fm zs)/\zs.length<=15000/\bg.length<=100/\
 ∀(cZ:Ms) (H':Hp),aj H0 H'->fX H' hp cZ->jt gq cZ.length (fm cZ)->(cZ.map (·.2)).Perm (uE P ds bg s++zs.map (·.2))->Q .aU H'
theorem agD{K:W.Frag}{H:Hp}{σ:St}{g:TG}{tt:TT}{te tl:TE}{nt:Nat}{fv:List Nat}{Q:VK}(h:tl σ H λv H1=>ni (qi K λ_ H' Q'=>Q' v H') g tt te nt fv σ H1 Q):ni (qi K tl) g tt te nt fv σ H Q:=h
structure pJ(H:Hp)(cO:List Addr)(us:List Nd):Prop where
 n:cO.length=us.length
 t:∀(i:Nat) (a:Addr) (u:Nd),cO[i]? = some a->us[i]? = some u->∃p,H a=some (.tup [.ref p,.int u.1])/\H p=some (.tup (u.2.2.1.map V.int))
theorem pJ.same{H H':Hp}{cO:List Addr}{us:List Nd}(h:pJ H cO us)(s:aj H H'):pJ H' cO us:=⟨h.n,λi a u e1 e2=>let ⟨p,h1,h2⟩:=h.t i a u e1 e2;⟨p,s _ _ h1,s _ _ h2⟩⟩
theorem pJ.fT{H:Hp}{cO:List Addr}{us:List Nd}(h:pJ H cO us){D:Addr}{xs ys:List V}(hD:H D=some (.lst xs)):pJ (upd H D (.lst ys)) cO us:=⟨h.n,λi a u e1 e2=>by
 obtain⟨p,h1,h2⟩:=h.t i a u e1 e2;exact⟨p,by rw[aI (λz=>by rw[z,hD] at h1;cases h1)];exact h1,by rw[aI (λz=>by rw[z,hD] at h2;cases h2)];exact h2⟩⟩
theorem pJ.snoc{H:Hp}{cO:List Addr}{us:List Nd}(h:pJ H cO us){a p:Addr}{u:Nd}(h1:H a=some (.tup [.ref p,.int u.1]))(h2:H p=some (.tup (u.2.2.1.map V.int))):pJ H (cO++[a]) (us++[u]):=by
 refine⟨by simp[h.n],λi a' u' e1 e2=>?_⟩
 have hn:=h.n;by_cases hi:i<cO.length
 ·rw[d9 hi] at e1;rw[d9 ∅] at e2
  exact h.t i a' u' e1 e2
 ·rw[d_ ∅] at e1
  rw[d_ ∅] at e2
  have dm:i - cO.length=0:=by
   have:=(iB.mp e1).1;simp at this;lia
  rw[dm] at e1;rw[← hn,dm] at e2;simp at e1 e2;subst e1 e2;exact⟨p,h1,h2⟩
structure zF(H:Hp)(l:Addr)(cO:List Addr)(us:List Nd):Prop where
 l:H l=some (.lst (cO.map V.ref))
 n:cO.length=us.length
 t:∀(i:Nat) (a:Addr) (u:Nd),cO[i]? = some a->us[i]? = some u->∃p,H a=some (.tup [.ref p,.int u.1])/\H p=some (.tup (u.2.2.1.map V.int))
section
variable{prog:Program}{w:World}{A:Around}{E:Value->Shared->Prop}{s:Shared}
theorem agE{t:Addr}{us:List Value}{R:List Value->Shared->Prop}(it:IsTup s.heap t us.toArray)(Cc:us.length<=sizeLine)
  (k:R us { s with heap:=(s.heap.push (seqObj "list" #[] 0)).update s.heap.objs.size (Obj.mapSeq (· ++ us.toArray))}):wpAny (model prog w) A (collect (.ref t)) R E s:=by
 obtain⟨ob,g,tc,m,td⟩:=id it;have g1:=cK (seqObj "list" #[] 0) g;have fresh:(s.heap.push (seqObj "list" #[] 0)).get? s.heap.objs.size=some (seqObj "list" #[] 0):=fM _ rfl;unfold collect;refine aJ (wpAny_runValue (q8 entry_proto_collect' (aJ (wpAny_newList (bq ⟨Code.quiet_builtin _ (by decide +kernel),q8 entry_list_iadd' ?_⟩)))))
 show wpAny _ _ (Builtin.List.listExtendWith (.ref s.heap.objs.size) (.ref t) _) _ _ ⟨s.heap.push (seqObj "list" #[] 0),_,_,_,_⟩;unfold Builtin.List.listExtendWith;refine aJ (wpAny_typeOf (T := "tuple") ⟨ob,g1,tc⟩ ?_);rw[if_pos (by rw[show (Value.type "tuple" == Value.type "tuple")=true from rfl];simp)]
 refine aJ (listItems_at g1 td (aJ (listItems_at (xs := #[]) (n:=0) fresh rfl ?_)));rw[if_neg (by simp)]
 refine aJ (listUpdate_at (xs := #[]) (n:=0) fresh rfl (bq ?_) (eL _) (by simp only[Array.size_append,List.size_toArray,List.length_nil,Array.size_empty];lia))
 refine aJ (wpAny_load (get?_update_seq fresh _) ?_)
 show wpAny _ _ (pure ((#[]:Array Value)++us.toArray).toList) R E _;rw[show ((#[]:Array Value)++us.toArray).toList=us by simp];exact bq k
theorem agF{t:Addr}{us:List Value}{ns:List Int}{R:Value->Shared->Prop}(it:IsTup s.heap t us.toArray)(ai:IntsAre us ns)(lt:us.length<64)
  (k:∀(out:Array Value) (ms:List Int),IntsAre out.toList ms->ms.Perm ns->ms.Pairwise (·<=·)->R (.ref (s.heap.objs.size+1)) { s with heap:=sortedAll s.heap us out }):wpAny (model prog w) A (call (.builtin "sorted") [.ref t]) R E s:=by
 have z:((s.heap.push (seqObj "list" #[] 0)).update s.heap.objs.size (Obj.mapSeq (· ++ us.toArray))).objs.size=s.heap.objs.size+1:=(Heap.size_update ..).trans (size_push' ..);have o2:=fM ((s.heap.push (seqObj "list" #[] 0)).update s.heap.objs.size (Obj.mapSeq (· ++ us.toArray))) (o:=seqObj "list" us.toArray 0) rfl;rw[z] at o2;refine Calls.call_function_entry kind_sorted plain_sorted entry_sorted (args_sorted1 _) ?_;unfold Builtin.«sorted»;refine aJ (m:=checkCount "sorted" 1 1 _) (bq (aJ (agE it (cQ (j0 lt) ⋯) (aJ (wpAny_newList ?_)))))
 rw[z];refine aJ (mS (BA slot_list_sort ⟨_,o2,rfl⟩ entry_list_sort (list_sort_tree o2 ai lt λout ms b1 b2 b3=>⟨_,rfl,?_⟩) (args_list_sort _)));exact bq ⟨_,rfl,k out ms b1 b2 b3⟩
end
variable{X:Cx}
theorem agG:gY X (.builtin "sorted") (λxs H Q=>∃(p:Addr) (ns:List Int),xs = [.ref p]/\aL X.K H p (ns.map V.int)/\ns.length<64/\
  ∀(l:Addr) (ms:List Int),H l=none->ms.Perm ns->ms.Pairwise (·<=·)->Q (.ref l) (upd H l (.lst (ms.map V.int)))):=by
 rintro pins s σ H xs us Q I r ⟨p,ns,rfl,hq,k9,q⟩;obtain⟨u,rfl,ru⟩:=vals1 r;cases ru;obtain⟨aB,rv,pl,hz⟩:=I.tuple hq;have hi:IntsAre aB ns:=intsAre_of rv;have hlen:=hi.length;refine agF pl hi ∅ λout ms a1 a2 a3=>?_
 obtain⟨e,he⟩:=sortedAll_at s.heap aB out;refine⟨.ref (s.heap.objs.size+1),upd H (s.heap.objs.size+1) (.lst (ms.map V.int)),I.laid (t':=s.toks) (λb o q=>sortedAll_old q) (sR _) ?_,rfl,q _ ms (I.aO.fresh (sR _)) a2 a3⟩;refine⟨?_,out.toList,e,yR a1,by simpa using he⟩
 rw[aM,a2.length_eq];exact cQ (j0 k9) ⋯
noncomputable def eK(ks:List Kn)(bg:List Int):List Kn:=ks.filter λk => !decide (k.n∈bg)
noncomputable def uG(P:Pl)(s:Int×Int)(ks:List Kn)(bg:List Int):Int×Int:=bg.foldl (λst n=>ks.foldl (λst k=>if k.n=n then a_ P st k.c else st) st) s
structure Kd(ks:List Kn)(ds:List Dr):Prop where
 n:ds.length=ks.length
 e:∀(i:Nat) (k:Kn) (d:Dr),ks[i]? = some k->ds[i]? = some d->d.n=k.n/\d.c=k.c
 q:∀(i j:Nat) (k k':Kn) (d d':Dr),ks[i]? = some k->ds[i]? = some d->ks[j]? = some k'->ds[j]? = some d'->pH d d' = keepsK k k'
 up:ks.Pairwise λa b=>a.n<b.n
section
variable{ks:List Kn}{ds:List Dr}
theorem Kd.at(h:Kd ks ds){d:Dr}(hd:d∈ds):∃(i:Nat) (k:Kn),ks[i]? = some k/\ds[i]? = some d:=by
 obtain⟨i,hi,rfl⟩:=jh.mp hd;have hk:i<ks.length:=by rw[← h.n];exact hi
 exact⟨i,ks[i],bC hk,bC hi⟩
theorem Kd.ta(h:Kd ks ds){k:Kn}(hk:k∈ks):∃(i:Nat) (d:Dr),ks[i]? = some k/\ds[i]? = some d:=by
 obtain⟨i,hi,rfl⟩:=jh.mp hk;have hd:i<ds.length:=by rw[h.n];exact hi
 exact⟨i,ds[i],bC hi,bC hd⟩
theorem Kd.ns(h:Kd ks ds):ds.map (·.n)=ks.map (·.n):=Vb h.n λi d k e1 e2=>(h.e i k d e2 e1).1
theorem Kd.nd(h:Kd ks ds):(ds.map (·.n)).Nodup:=by
 rw[h.ns];exact(p9.mpr h.up).imp λh=>Int.ne_of_lt h
theorem Kd.free(h:Kd ks ds){bg:List Int}{n:Int}:n∈jR (eK ks bg)↔∃d∈g9 ds bg,d.n=n:=by
 unfold jR;constructor
 ·intro hn;obtain⟨k,hk,rfl⟩:=dh.mp hn;obtain⟨h1,h2⟩:=fj.mp hk;obtain⟨h3,h4⟩:=fj.mp h1;obtain⟨i,d,e1,e2⟩:=h.ta h3;obtain⟨en,_⟩:=h.e i k d e1 e2;refine⟨d,rY.mpr ⟨⟨g_ e2,by rw[en];simpa using h4⟩,λo ho=>?_⟩,en⟩
  obtain⟨x,hx,rfl⟩:=dh.mp ho;obtain⟨x1,x2⟩:=fj.mp hx;obtain⟨j,k',f1,f2⟩:=h.at x1;rw[h.q i j k k' d x e1 e2 f1 f2] at x2;by_cases hb:x.n∈bg
  ·exact hb
  ·have:k'∈(eK ks bg).filter (keepsK k):=fj.mpr ⟨fj.mpr ⟨g_ f1,by rw[← (h.e j k' x f1 f2).1];simpa using hb⟩,x2⟩
   rw[List.isEmpty_iff.mp h2] at this;cases this
 ·rintro⟨d,hd,rfl⟩;obtain⟨⟨h1,h2⟩,h3⟩:=rY.mp hd;obtain⟨i,k,e1,e2⟩:=h.at h1;obtain⟨en,_⟩:=h.e i k d e1 e2;refine dh.mpr ⟨k,fj.mpr ⟨fj.mpr ⟨g_ e1,by rw[← en];simpa using h2⟩,?_⟩,en.symm⟩
  rw[List.isEmpty_iff];refine List.eq_nil_iff_forall_not_mem.mpr λk' gM=>?_;obtain⟨h4,h5⟩:=fj.mp gM;obtain⟨h6,h7⟩:=fj.mp h4;obtain⟨j,x,f1,f2⟩:=h.ta h6;have:=h3 x.n (dh.mpr ⟨x,fj.mpr ⟨g_ f2,by rw[h.q i j k k' d x e1 e2 f1 f2];exact h5⟩,rfl⟩)
  rw[(h.e j k' x f1 f2).1] at this;simp[this] at h7
theorem VM(P:Pl)(n:Int):∀(ks:List Kn) (s:Int×Int),(∀k∈ks,k.n≠n)->ks.foldl (λst k=>if k.n=n then a_ P st k.c else st) s=s
 | [],_,_=>rfl
 | k::ks,s,h=>by
  rw[mK,if_neg (h k (b8 ..))];exact VM P n ks s λx hx=>h x (bU _ hx)
theorem VN(P:Pl){k:Kn}:∀ {ks:List Kn} {s:Int×Int},ks.Pairwise (λa b=>a.n<b.n)->k∈ks->ks.foldl (λst x=>if x.n=k.n then a_ P st x.c else st) s=a_ P s k.c
 | x::ks,s,up,h=>by
  rw[Bm] at up;rw[mK];rcases b_.mp h with e | e
  ·subst e;rw[if_pos rfl];exact VM P _ ks _ λy hy=>by have:=up.1 y hy;lia
  ·rw[if_neg (by have:=up.1 k e;lia)]
   exact VN P up.2 e
theorem Kd.agH(h:Kd ks ds)(P:Pl):∀ {bg:List Int} {s st:Int×Int},Reach P ds s bg st->uG P s ks bg=st:=by
 intro bg s st hr
 induction hr with
 | nil=>rfl
 | @snoc b1 pI d hr hd ih =>
  obtain⟨i,k,e1,e2⟩:=h.at (rY.mp hd).1.1;obtain⟨en,ec⟩:=h.e i k d e1 e2;unfold uG at ih ⊢;rw[vd,ih,mK,List.foldl_nil,en,ec];exact VN P h.up (g_ e1)
theorem Kd.left(h:Kd ks ds){bg:List Int}:bR ds bg = []↔eK ks bg = []:=by
 unfold bR eK;rw[Fc,Fc];constructor
 ·intro g k hk;obtain⟨i,d,e1,e2⟩:=h.ta hk;have:=g d (g_ e2);rwa [(h.e i k d e1 e2).1] at this
 ·intro g d hd;obtain⟨i,k,e1,e2⟩:=h.at hd;have:=g k (g_ e1);rwa [(h.e i k d e1 e2).1]
theorem Kd.agI(h:Kd ks ds)(bg:List Int):(eK ks bg).length=(bR ds bg).length:=by
 have:=Vl (f:=λk:Kn=>k.n) (g:=λd:Dr=>d.n) (as:=ks) (bs:=ds) (p:=λk => !decide (k.n∈bg)) (q:=λd => !decide (d.n∈bg)) h.n.symm λi k d e1 e2=>by
  rw[(h.e i k d e1 e2).1];exact⟨rfl,rfl⟩
 have:=fR List.length this;simpa[eK,bR] using this
end
structure VO(ks:List Kn)(bg:List Int):Prop where
 p:bg.Perm (ks.map (·.n))
 f:∀(i:Nat) (n:Int),bg[i]? = some n->n∈jR (eK ks (bg.take i))
theorem Kd.ord{ks:List Kn}{ds:List Dr}(h:Kd ks ds){P:Pl}{s st:Int×Int}{bg:List Int}(hr:Reach P ds s bg st)(hf:bR ds bg = []):VO ks bg:=by
 refine⟨?_,λi n hi=>?_⟩
 ·obtain⟨xs,e1,_,e3⟩:=Reach.ext h.nd .nil hr Fl;rw[hf,mJ,Dc] at e3;rw[e1,← h.ns];exact(e3.map _).symm
 ·have hp:bg.take i++[n] <+: bg:=⟨bg.drop (i+1),by rw[← take_succ_get hi,vo]⟩
  obtain⟨b7,h2,_⟩:=hr.pre hp;obtain⟨pI,h1,_⟩:=hr.pre (List.take_prefix i bg);obtain⟨d,hd,en,_⟩:=h2.last h.nd h1;exact h.free.mpr ⟨d,hd,en⟩
theorem VP:∀ {a b:List Int},a.Perm b->a.Pairwise (·<=·)->b.Pairwise (· < ·)->a=b
 | [],b,p,_,_=>(List.nil_perm.mp p).symm
 | x::a,[],p,_,_=>absurd p.length_eq (by simp)
 | x::a,y::b,p,h1,h2=>by
  rw[Bm] at h1 h2;have e:x=y:=by
   have m1:x∈y::b:=p.mem_iff.mp (b8 ..);have m2:y∈x::a:=p.mem_iff.mpr (b8 ..);rcases b_.mp m1 with e | e
   ·exact e
   ·rcases b_.mp m2 with g | g
    ·exact g.symm
    ·have:=h1.1 y g;have:=h2.1 x e;lia
  subst e;rw[VP p.cons_inv h1.2 h2.2]
structure l9(H:Hp)(ts:List Addr)(ks:List Kn):Prop where
 n:ts.length=ks.length
 t:∀(i:Nat) (t:Addr) (k:Kn),ts[i]? = some t->ks[i]? = some k->∃b cl bx,iL H t k b cl bx
section
variable{H H':Hp}{ts:List Addr}{ks:List Kn}
theorem l9.nil:l9 H [] []:=⟨rfl,λi p d e=>nomatch e⟩
theorem l9.snoc(h:l9 H ts ks){t:Addr}{k:Kn}(hk:∃b cl bx,iL H t k b cl bx):l9 H (ts++[t]) (ks++[k]):=by
 refine⟨by simp[h.n],λi p' d' e1 e2=>?_⟩
 have hn:=h.n;by_cases hi:i<ts.length
 ·rw[d9 hi] at e1;rw[d9 ∅] at e2
  exact h.t i p' d' e1 e2
 ·rw[d_ ∅] at e1
  rw[d_ ∅] at e2
  have dm:i - ts.length=0:=by
   have:=(iB.mp e1).1;simp at this;lia
  rw[dm] at e1;rw[← hn,dm] at e2;simp at e1 e2;subst e1 e2;exact hk
theorem l9.same(h:l9 H ts ks)(s:aj H H'):l9 H' ts ks:=⟨h.n,λi t k e1 e2=>let ⟨b,cl,bx,a⟩:=h.t i t k e1 e2;⟨b,cl,bx,a.same s⟩⟩
theorem l9.zu(h:l9 H ts ks){l:Addr}(hl:H l=some (.lst (ts.map V.ref))):fW H l ts ks:=⟨hl,h.n,h.t⟩
end
section
variable{K:W.Frag}{H:Hp}{σ:St}{g:TG}{tt:TT}{te tl:TE}{nt:Nat}{fv:List Nat}{Q:VK}
theorem agJ(a:Addr)(xs:List V)(Pv:Addr->Nat->List V->St->Hp->Prop)(nq:∀Q:VK,Q (.ref a) H->tl σ H Q)(eB:aL K H a xs)
  (h0:∀D,H D=none->Pv D 0 [] (k6 σ nt fv) (upd H D (.lst []))) (hD:∀D i ys σ H,Pv D i ys σ H->H D=some (.lst ys)/\ys.length<sizeLine/\aL K H a xs)
  (hs:∀D i x ys aC H2 (N:List V->St->Hp->Prop),(∀ys σ H,Pv D (i+1) ys σ H->N ys σ H)->xs[i]? = some x->Pv D i ys aC H2->g x aC H2 λcG H4=>tt cG H4 λb H5=>if b=true then te cG H5 λv H6=>H6 D=some (.lst ys)/\N (ys++[v]) cG (upd H6 D (.lst (ys++[v]))) else N ys cG H5)
  (hd:∀D ys aC H2,Pv D xs.length ys aC H2->Q (.ref D) H2):ni (Gn K tl) g tt te nt fv σ H Q:=by
 refine nq _ ⟨a,rfl,⟨xs,eB⟩,λD qq=>?_⟩;refine⟨λi m ys aC H2=>m=xs.length - i/\i<=xs.length/\Pv D i ys aC H2,⟨_,rfl,eL _,h0 D qq⟩,?_⟩;rintro i m ys aC H2 ⟨rfl,gh,p⟩;obtain⟨d1,d2,d3⟩:=hD D i ys aC H2 p;refine⟨d1,d2,?_⟩;by_cases cE:i<xs.length
 ·refine .inr ⟨⟨xs,xs[i],d3,by simp[cE]⟩,λx H3 y=>?_⟩
  obtain⟨e1,e2⟩:=y;subst e1;exact hs D i x ys aC _ (λiy bO H'=>∃m',m' < xs.length - i/\m' = xs.length - (i+1)/\i+1<=xs.length/\Pv D (i+1) iy bO H') (λys σ H p=>⟨_,∅,rfl,∅,p⟩) (e2 xs d3) p
 ·have e:i=xs.length:=by lia
  subst e;exact .inl ⟨⟨xs,d3,bu _⟩,hd D ys aC H2 p⟩
end
def agK(K:W.Frag):Sp:=λvs H Q _=>∃(kl b:Addr) (b9:List Addr) (ks:List Kn) (bg:List Int),vs = [.ref kl,.ref b]/\fW H kl b9 ks/\ks.length<=100/\H b=some (.tup (bg.map V.int))/\
 ∀(D:Addr) (ts:List Addr) (H':Hp),aj H H'->H D=none->fW H' D ts (eK ks bg)->Q (.ref D) H'
def agL(K:W.Frag):Sp:=λvs H Q _=>∃(t kl b:Addr) (z:List (Int×Int)) (ao sk:Int) (sw:List Int) (za:Addr) (bA:List Addr) (ca sa:Addr) (r bt:Int) (b9:List Addr) (ks:List Kn) (bg:List Int),vs = [.ref t,.int r,.int bt,.ref kl,.ref b]/\
 i9 H t z ao sk sw za bA ca sa/\i_ z ao sk sw/\0<=r/\r<(counts z).length/\fW H kl b9 ks/\(∀k∈ks,iJ (bN z ao sk sw []) k.c/\k.c.length<=16)/\H b=some (.tup (bg.map V.int))/\
 ∀(u:Addr) (H':Hp),aj H H'->H u=none->H' u=some (.tup [.int (uG (bN z ao sk sw []) (r,bt) ks bg).1,.int (uG (bN z ao sk sw []) (r,bt) ks bg).2])->Q (.ref u) H'
def agM:Sp:=λvs H Q _=>∃(a:Addr) (ns:List Int),vs = [.ref a]/\H a=some (.tup (ns.map V.int))/\∀H',aj H H'->Q (.bl true) H'
def agN(K:W.Frag):Sp:=λvs H Q _=>∃(f kl:Addr) (b9:List Addr) (ks:List Kn) (bg:List Int),vs = [.ref f,.ref kl]/\H f=some (.tup (bg.map V.int))/\fW H kl b9 ks/\ks.length<=60/\ks.Pairwise (λa b=>a.n<b.n)/\VO ks bg/\∀H',aj H H'->Q (.bl true) H'
theorem Reach.agO{P P':Pl}{ds:List Dr}(h:∀s c,a_ P s c=a_ P' s c){s:Int×Int}:∀ {bg:List Int} {st:Int×Int},Reach P ds s bg st->Reach P' ds s bg st:=by
 intro bg st hr
 induction hr with
 | nil=>exact .nil
 | snoc hr hd ih=>rw[h];exact ih.snoc hd
structure agP(K:W.Frag)(cs:List Addr)(CA CD:Addr)(H:Hp)(sa p:Addr)(r b:Int)(kl dl:Addr)(z:List (Int×Int))(ao sk:Int)(sw:List Int)(nc:List (Int×Int))(ks:List Kn)(ds:List Dr):Prop where
 sp:∃za bA ca uz,i9 H sa z ao sk sw za bA ca uz
 wo:i_ z ao sk sw
 pl:∃C fp,C∈cs/\cW K C H p (bN z ao sk sw nc) fp
 r0:0<=r
 r1:r<(counts z).length
 kn:∃b9,fW H kl b9 ks
 du:∃ps,jw K CA CD H dl ps ds
 n7:ks.length<=7
 kd:Kd ks ds
 kc:∀k∈ks,iJ (bN z ao sk sw []) k.c/\k.c.length<=16
section
variable{K:W.Frag}{cs:List Addr}{CA CD:Addr}{H H':Hp}{sa p:Addr}{r b:Int}{kl dl kl' dl':Addr}{z:List (Int×Int)}{ao sk:Int}{sw:List Int}{nc:List (Int×Int)}{ks:List Kn}{ds:List Dr}
theorem I_.lw(h:I_ K cs CA CD H sa p r b kl dl z ao sk sw nc ks ds):agP K cs CA CD H sa p r b kl dl z ao sk sw nc ks ds:=by
 obtain⟨sp,wo,pl,nk,r0,r1,b0,b1,kn,ok,du,dn,dk⟩:=h;exact⟨sp,wo,pl,r0,r1,kn,du,ok.n7,⟨dn,λi k d e1 e2=>⟨(dk i k d e1 e2).1,by rw[(dk i k d e1 e2).2.2,(ok.ok k (get_mem e1)).c]⟩,λi j k k' d d' e1 e2 e3 e4=>af1 (dk i k d e1 e2) (dk j k' d' e3 e4),ok.up⟩,λk hk=>(ok.ok k hk).cells nk wo⟩
end
noncomputable def T1(m:Nat)(led:Bool):SetTable:={ mask:=7,place := #[m % 8],dummies := #[],finger:=0,led,moves:=0,plain:=true }
noncomputable def agQ(m n:Nat):Nat:=if n % 8=m % 8 then(5*(n % 8)+1+n / 32) % 8 else n % 8
noncomputable def nj(m n:Nat)(y x:Value):Array (Int×Value):=if agQ m n<m % 8 then #[((n:Int),x),((m:Int),y)] else #[((m:Int),y),((n:Int),x)]
noncomputable def gS(es:Array (Int×Value))(ep:Nat)(t:SetTable):Obj:={ cls:=.type "set",dict:=none,data:=.set es ep t }
section
variable{prog:Program}{w:World}{A:Around}{E:Value->Shared->Prop}{s:Shared}{a:Addr}{es dg:Array (Int×Value)}{ep:Nat}{t t1:SetTable}{n:Int}{tk:Tok}
end
section
variable{prog:Program}{w:World}{A:Around}{R:Result->Shared->Prop}{s:Shared}{l I S:Addr}{m n:Nat}{tm tn:Tok}{led:Bool}
end
def l_(xs:Array Nat):Prop:=∀i k:Nat,i<k->k<xs.size->xs.getD i 0<xs.getD k 0
theorem agR{xs:Array Nat}{i:Nat}(h:i<xs.size)(a b:Nat):xs.getD i a=xs.getD i b:=by simp[Array.getD,h]
theorem Jp{xs:Array Nat}{j:Nat}(hR:l_ xs):∀(fuel lo hi:Nat),lo<=hi->hi<=xs.size->hi - lo<=fuel->(∀k,k<lo->xs.getD k 0<j)->(∀k,hi<=k->k<xs.size->j<=xs.getD k 0)->
  (∀k,k<SetTable.below.go xs j fuel lo hi->xs.getD k 0<j)/\(∀k,SetTable.below.go xs j fuel lo hi<=k->k<xs.size->j<=xs.getD k 0)/\SetTable.below.go xs j fuel lo hi<=xs.size
 | 0,lo,hi,h1,h2,h3,a,b=>by
  have e:SetTable.below.go xs j 0 lo hi=lo:=rfl;rw[e];exact⟨a,λk hk=>b k ∅,∅⟩
 | fuel+1,lo,hi,h1,h2,h3,a,b=>by
  have e:SetTable.below.go xs j (fuel+1) lo hi=if lo<hi then(if xs.getD ((lo+hi) / 2) j<j then SetTable.below.go xs j fuel ((lo+hi) / 2+1) hi else SetTable.below.go xs j fuel lo ((lo+hi) / 2)) else lo:=rfl
  rw[e];by_cases h0:lo<hi
  ·have hm:(lo+hi) / 2<xs.size:=by lia
   rw[if_pos h0,agR hm j 0];by_cases h4:xs.getD ((lo+hi) / 2) 0<j
   ·rw[if_pos h4];refine Jp hR fuel _ hi ∅ h2 ∅ (λk hk=>?_) b
    by_cases iP:k=(lo+hi) / 2
    ·rw[iP];exact h4
    ·have:=hR k ((lo+hi) / 2) ∅ hm;lia
   ·rw[if_neg h4];refine Jp hR fuel lo _ ∅ ∅ ∅ a λk hk hs=>?_
    by_cases iP:k=(lo+hi) / 2
    ·rw[iP];lia
    ·have:=hR ((lo+hi) / 2) k ∅ hs;lia
  ·rw[if_neg h0];exact⟨a,λk hk=>b k ∅,∅⟩
theorem VQ{xs:Array Nat}(hR:l_ xs)(j:Nat):(∀k,k<SetTable.below xs j->xs.getD k 0<j)/\(∀k,SetTable.below xs j<=k->k<xs.size->j<=xs.getD k 0)/\SetTable.below xs j<=xs.size :=
 Jp hR xs.size 0 xs.size (eL _) (bu _) (bu _) (λk hk=>by lia) λk hk hs=>by lia
theorem below_at{xs:Array Nat}(hR:l_ xs){i:Nat}(hi:i<xs.size):SetTable.below xs (xs.getD i 0)=i:=by
 obtain⟨a,b,c⟩:=VQ hR (xs.getD i 0);rcases Nat.lt_trichotomy (SetTable.below xs (xs.getD i 0)) i with h | h | h
 ·have:=b _ (bu _) ∅;have:=hR _ _ h hi;lia
 ·exact h
 ·have:=a _ h;lia
theorem w6(xs:Array Nat)(i:Nat):xs.getD i 0=xs.toList.getD i 0:=by
 rw[jg,pU,qW]
theorem Jq{l:List Nat}:l_ l.toArray↔l.Pairwise (· < ·):=by
 rw[sQ];constructor
 ·intro h i j hi hj nI;have:=h i j nI (by simpa using hj)
  rw[w6,w6] at this;simpa[List.getD_eq_getElem?_getD,hi,hj] using this
 ·intro h i k iK hk;have gM:k<l.length:=by simpa using hk
  have:=h i k ∅ gM iK
  rw[w6,w6];simpa[List.getD_eq_getElem?_getD,gM,show i<l.length by lia] using this
theorem agS{xs:Array Nat}(hR:l_ xs){j:Nat}(hj:j∉xs.toList):l_ (SetTable.insertAt xs (SetTable.below xs j) j):=by
 obtain⟨a,b,c⟩:=VQ hR j;have hl:xs.toList.Pairwise (· < ·):=Jq.mp (by simpa using hR)
 rw[← Array.toArray_toList (xs:=SetTable.insertAt xs (SetTable.below xs j) j),Jq,SetTable.toList_insertAt];rw[Bl];have lt1:∀x∈xs.toList.take (SetTable.below xs j),x<j:=λx hx=>by
  obtain⟨k,hk,rfl⟩:=jh.mp hx;rw[dH] at hk;have:=a k ∅
  rw[w6] at this;rw[Ff];rw[jg,bC ∅] at this
  exact this
 have Df:∀x∈xs.toList.drop (SetTable.below xs j),j<x:=λx hx=>by
  have hm:=Bf hx;obtain⟨k,hk,rfl⟩:=jh.mp hx;rw[ve] at hk;have:=b (SetTable.below xs j+k) ∅ (by simp at hk;lia)
  rw[w6] at this;rw[List.getElem_drop] at hm ⊢;have e:xs.toList.getD (SetTable.below xs j+k) 0=xs.toList[SetTable.below xs j+k]:=by
   rw[jg,bC (by simp at hk ⊢;lia)];rfl
  rw[e] at this;rcases Nat.lt_or_ge j xs.toList[SetTable.below xs j+k] with h | h
  ·exact h
  ·exact absurd (by rw[show j=xs.toList[SetTable.below xs j+k] by lia];exact hm) hj
 refine⟨hl.sublist (Fv _ _),List.pairwise_cons.mpr ⟨Df,hl.sublist (List.drop_sublist _ _)⟩,λx hx y hy=>?_⟩;have:=lt1 x hx;rcases b_.mp hy with rfl | hy
 ·exact this
 ·have:=Df y hy;lia
theorem agT{t:SetTable}(hd:t.dummies = #[]){j:Nat}(hj:j∉t.place.toList):t.slot j = .empty:=by
 have e:t.slot j=if (t.place[SetTable.below t.place j]? == some j)=true then .live (SetTable.below t.place j) else if SetTable.has t.dummies j=true then .dummy else .empty:=rfl
 rw[e,if_neg,if_neg]
 ·rw[hd];simp[SetTable.has,SetTable.below,SetTable.below.go]
 ·intro h;have h:=eq_of_beq h;exact hj (g_ (by rw[pU];exact h))
theorem agU{t:SetTable}(hR:l_ t.place){j:Nat}(hj:j∈t.place.toList):∃i,t.slot j = .live i:=by
 have e:t.slot j=if (t.place[SetTable.below t.place j]? == some j)=true then .live (SetTable.below t.place j) else if SetTable.has t.dummies j=true then .dummy else .empty:=rfl
 obtain⟨k,hk,rfl⟩:=jh.mp hj;have gM:k<t.place.size:=by simpa using hk
 have e2:t.place.getD k 0=t.place.toList[k]:=by simp[Array.getD,gM]
 have:=below_at hR gM;rw[e2] at this;exact⟨_,by rw[e,if_pos (by rw[this];simp)]⟩
noncomputable def uH(mask:Nat)(x:Nat×Nat):SetTable.Probe:={ j:=x.1,more:=SetTable.runEnd mask x.1 - x.1,i:=x.1,perturb:=x.2,dummy:=none }
noncomputable def chain(mask:Nat):Nat->Nat×Nat->Nat×Nat
 | 0,x=>x
 | m+1,x=>chain mask m (SetTable.leap mask x.1 x.2)
theorem Dg(mask i:Nat)(h:i<=mask):SetTable.runEnd mask i - i<=9/\i+(SetTable.runEnd mask i - i)<=mask:=by
 unfold SetTable.runEnd;split <;> lia
theorem Dh(mask i p:Nat):(SetTable.leap mask i p).1<=mask:=by
 have:(SetTable.leap mask i p).1<mask+1:=vp _ ∅
 lia
theorem w_(mask:Nat):∀(a b:Nat) (x:Nat×Nat),chain mask (a+b) x=chain mask b (chain mask a x)
 | 0,b,x=>by rw[qY];rfl
 | a+1,b,x=>by
  rw[show a+1+b=(a+b)+1 by lia]
  exact w_ mask a b _
theorem Di(mask:Nat):∀(m:Nat) (x:Nat×Nat),(chain mask m x).2=x.2 / 32 ^ m
 | 0,x=>by simp[chain]
 | m+1,x=>by
  show (chain mask m (SetTable.leap mask x.1 x.2)).2=_;rw[Di mask m,show (SetTable.leap mask x.1 x.2).2=x.2 / 32 from rfl,Nat.div_div_eq_div_mul,qc,mO]
theorem Dj(mask:Nat):∀(m:Nat) (x:Nat×Nat),x.1<=mask->(chain mask m x).1<=mask
 | 0,_,h=>h
 | m+1,x,_=>Dj mask m _ (Dh _ _ _)
noncomputable def xg(mask:Nat):Nat->Nat->List Nat
 | 0,_=>[]
 | n+1,s=>s::xg mask n ((s*5+1) % (mask+1))
theorem VR(mask:Nat):∀(n s:Nat) (v:Nat),v∈xg mask n s->∃k,k<n/\(chain mask k (s,0)).1=v
 | 0,_,_,h=>by simp[xg] at h
 | n+1,s,v,h=>by
  rcases b_.mp h with rfl | h
  ·exact⟨0,∅,rfl⟩
  ·obtain⟨k,hk,e⟩:=VR mask n _ v h;refine⟨k+1,∅,?_⟩
   have e2:SetTable.leap mask s 0=((s*5+1) % (mask+1),0):=by unfold SetTable.leap;simp
   show (chain mask k (SetTable.leap mask s 0)).1=v;rw[e2];exact e
noncomputable def qK(mask:Nat):Bool:=((List.range (mask+1)).all λf=>(xg mask (mask+1) 0).contains f) && ((chain mask (mask+1) (0,0)).1 == 0)
theorem VS{mask:Nat}(m s:Nat):chain mask m (s,0)=((chain mask m (s,0)).1,0):=by
 have:=Di mask m (s,0);rw[Nat.zero_div] at this;exact qZ rfl this
theorem agV{mask:Nat}(h:qK mask=true){s f:Nat}(hs:s<=mask)(hf:f<=mask):∃k,k<mask+1/\(chain mask k (s,0)).1=f:=by
 unfold qK at h;rw[xS] at h;have all:∀v,v<=mask->∃k,k<mask+1/\(chain mask k (0,0)).1=v:=λv hv=>by
  have:=mH.mp h.1 v (fF.mpr ∅)
  exact VR mask (mask+1) 0 v (by simpa using this)
 have back:=eq_of_beq h.2;obtain⟨a,ha,ea⟩:=all s hs;obtain⟨b,hb,eb⟩:=all f hf;have pa:=VS (mask:=mask) a 0;rw[ea] at pa;by_cases yX:a<=b
 ·refine⟨b - a,∅,?_⟩
  rw[← pa,← w_,show a+(b - a)=b by lia];exact eb
 ·refine⟨mask+1 - a+b,∅,?_⟩
  rw[← pa,← w_,show a+(mask+1 - a+b)=(mask+1)+b by lia,w_,VS (mask+1) 0,back];exact eb
theorem reach{mask:Nat}(h:qK mask=true){x:Nat×Nat}(hx:x.1<=mask)(hp:x.2<2 ^ 64){f:Nat}(hf:f<=mask):∃m,m<mask+15/\(chain mask m x).1=f:=by
 have z:(chain mask 13 x).2=0:=by
  rw[Di];exact Nat.div_eq_of_lt (ji hp ⋯)
 obtain⟨k,hk,e⟩:=agV h (Dj mask 13 x hx) hf;refine⟨13+k,∅,?_⟩
 rw[w_,show chain mask 13 x=((chain mask 13 x).1,0) from qZ rfl z];exact e
theorem VT(h:Int):SetTable.bits h<2 ^ 64:=by
 unfold SetTable.bits;have:=fB h (show (0:Int)<2 ^ 64 by decide)
 have:=fD h (show (2 ^ 64:Int)≠0 by decide)
 lia
noncomputable def zG(owner:Array (Option Nat))(j:Nat):Bool:=(owner.getD j (some 0)).isNone
theorem VU{mask:Nat}{owner:Array (Option Nat)}:∀(m fuel:Nat) (x:Nat×Nat),m<fuel->x.1<=mask->zG owner (chain mask m x).1=true->∃j,SetTable.layClean.free mask owner fuel x.1 x.2=some j/\zG owner j=true
 | m,0,_,h,_,_=>by lia
 | m,fuel+1,x,h,hx,hf=>by
  have e:SetTable.layClean.free mask owner (fuel+1) x.1 x.2=match List.find? (λk=>(owner.getD (x.1+k) (some 0)).isNone) (List.range (SetTable.runEnd mask x.1+1 - x.1)) with
   | some k=>some (x.1+k)
   | none=>SetTable.layClean.free mask owner fuel (SetTable.leap mask x.1 x.2).1 (SetTable.leap mask x.1 x.2).2:=rfl
  rw[e];cases hk:List.find? (λk=>(owner.getD (x.1+k) (some 0)).isNone) (List.range (SetTable.runEnd mask x.1+1 - x.1)) with
  | some k =>
   have:=List.find?_some hk;exact⟨x.1+k,rfl,this⟩
  | none =>
   cases m with
   | zero =>
    have:=List.find?_eq_none.mp hk 0 (List.mem_range.mpr (by have:=Dg mask x.1 hx;unfold SetTable.runEnd;split <;> lia))
    exact absurd hf this
   | succ m=>exact VU m fuel _ ∅ (Dh _ _ _) hf
theorem agW{l:List (Option Nat)}:(l.filterMap id).length=l.length\/none∈l:=by
 induction l with
 | nil=>left;rfl
 | cons a l ih =>
  cases a with
  | none=>right;simp
  | some a =>
   rcases ih with h | h
   ·left;simp[h]
   ·right;simp[h]
theorem VV{k:Nat}:∀ {l:List (Option Nat)} {j:Nat},l[j]? = some none->((l.set j (some k)).filterMap id).Perm (k::l.filterMap id)
 | [],_,h=>by simp at h
 | a::l,0,h=>by
  simp at h;subst h;simp
 | a::l,j+1,h=>by
  have ih:=VV (k:=k) (l:=l) (j:=j) (by simpa using h)
  cases a with
  | none=>simpa using ih
  | some a =>
   show ((some a::l.set j (some k)).filterMap id).Perm (k::(some a::l).filterMap id);simp only[List.filterMap_cons,id];exact(ih.cons a).trans (List.Perm.swap k a _)
structure xh(mask:Nat)(owner:Array (Option Nat))(k:Nat):Prop where
 sz:owner.size=mask+1
 pm:(owner.toList.filterMap id).Perm (List.range k)
theorem agX{mask:Nat}{owner:Array (Option Nat)}{k:Nat}(h:xh mask owner k)(ho:qK mask=true)(hk:k<=mask)(hs:Int) :
  ∃j,SetTable.layClean.free mask owner (SetTable.turns mask) (SetTable.bits hs % (mask+1)) (SetTable.bits hs)=some j/\xh mask (owner.setIfInBounds j (some k)) (k+1):=by
 have hl:=h.pm.length_eq;rw[jD] at hl;have hn:none∈owner.toList:=by
  rcases agW (l:=owner.toList) with z | z
  ·rw[hl,mG,h.sz] at z;lia
  ·exact z
 obtain⟨f,hf,ef⟩:=jh.mp hn;rw[mG,h.sz] at hf;have ff:zG owner f=true:=by
  unfold zG;rw[qW,← pU,bC (by simpa[h.sz] using hf),ef];rfl
 have hx:SetTable.bits hs % (mask+1)<=mask:=by have:=vp (SetTable.bits hs) (show 0<mask+1 by lia);lia
 obtain⟨m,qB,e⟩:=reach ho (x:=(SetTable.bits hs % (mask+1),SetTable.bits hs)) hx (VT hs) (f:=f) ∅
 obtain⟨j,e1,e2⟩:=VU m (SetTable.turns mask) (SetTable.bits hs % (mask+1),SetTable.bits hs) qB hx (by rw[e];exact ff)
 refine⟨j,e1,by rw[Array.size_setIfInBounds];exact h.sz,?_⟩
 have e3:owner.toList[j]? = some none:=by
  unfold zG at e2;rw[qW,← pU] at e2;cases q:owner.toList[j]? with
  | none=>rw[q] at e2;simp at e2
  | some v =>
   rw[q] at e2;cases v with
   | none=>rfl
   | some v=>simp at e2
 rw[Array.toList_setIfInBounds,vn];exact(VV e3).trans ((h.pm.cons k).trans (List.perm_append_comm (l₁:=[k])))
theorem VW{mask:Nat}(ho:qK mask=true):∀(hs:List Int) (owner:Array (Option Nat)) (k:Nat),xh mask owner k->k+hs.length<=mask->
  ∃ow,hs.foldl (λ(acc:Option (Array (Option Nat)×Nat)) h=>do
    let __x ← acc
    match __x with
     | (owner,k)=>do
      let j ← SetTable.layClean.free mask owner (SetTable.turns mask) (SetTable.bits h % (mask+1)) (SetTable.bits h)
      pure (owner.setIfInBounds j (some k),k+1)) (some (owner,k))=some (ow,k+hs.length)/\xh mask ow (k+hs.length)
 | [],owner,k,h,hk=>⟨owner,rfl,h⟩
 | x::hs,owner,k,h,hk=>by
  rw[dR] at hk;obtain⟨j,e,h2⟩:=agX h ho ∅ x
  obtain⟨ow,e2,h3⟩:=VW ho hs _ (k+1) h2 ∅
  refine⟨ow,?_,by rw[dR,show k+(hs.length+1)=k+1+hs.length by lia];exact h3⟩
  rw[mK,dR,show k+(hs.length+1)=k+1+hs.length by lia,← e2]
  show List.foldl _ ((SetTable.layClean.free mask owner (SetTable.turns mask) (SetTable.bits x % (mask+1)) (SetTable.bits x)) >>= λj=>pure (owner.setIfInBounds j (some k),k+1)) hs=_;rw[e]
  rfl
theorem agY{mask:Nat}(ho:qK mask=true)(hs:Array Int)(hn:hs.size<=mask):∃ow,SetTable.layClean mask hs=some ow/\xh mask ow hs.size:=by
 have h0:xh mask (Array.replicate (mask+1) none) 0:=⟨by simp,by simp⟩
 obtain⟨ow,e,h⟩:=VW ho hs.toList _ 0 h0 (by simpa using hn)
 refine⟨ow,?_,by simpa using h⟩
 unfold SetTable.layClean;rw[← Array.foldl_toList];rw[show (hs.toList.foldl _ (some (Array.replicate (mask+1) none,0)))=some (ow,0+hs.toList.length) from e]
 rfl
theorem Dm(g:Nat->Option Nat):∀l:List Nat,((l.filterMap λj=>(g j).map λx=>(j,x)).map (·.1)).Sublist l
 | []=>.slnil
 | j::l=>by
  rw[sO];cases g j with
  | none=>exact(Dm g l).cons j
  | some v=>exact(Dm g l).cons₂ j
theorem Dn(g:Nat->Option Nat):∀l:List Nat,(l.filterMap λj=>(g j).map λx=>(j,x)).map (·.2)=l.filterMap g
 | []=>rfl
 | j::l=>by
  rw[sO,sO];cases g j with
  | none=>exact Dn g l
  | some v=>simp only[Option.map_some,List.map_cons,Dn g l]
theorem agZ{mask finger moves:Nat}{led plain:Bool}(ho:qK mask=true)(hs:Array Int)(hn:hs.size<=mask):∃ps order,SetTable.laid mask finger moves led plain hs=some ({ mask:=mask,place:=ps,dummies := #[],finger:=finger,led:=led,moves:=moves,plain:=plain },order)/\
  l_ ps/\ps.size=hs.size/\order.toList.Perm (List.range hs.size)/\∀p∈ps.toList,p<=mask:=by
 obtain⟨ow,e,h⟩:=agY ho hs hn;have eO:(List.range (mask+1)).filterMap (λj=>ow.getD j none)=ow.toList.filterMap id:=by
  have:ow.toList=(List.range (mask+1)).map λj=>ow.getD j none:=by
   apply List.ext_getElem
   ·simp[h.sz]
   ·intro i h1 h2;simp at h1;simp[Array.getD,h1]
  rw[this,Fb];rfl
 refine⟨(((List.range (mask+1)).filterMap λj=>(ow.getD j none).map λx=>(j,x)).map (·.1)).toArray,(((List.range (mask+1)).filterMap λj=>(ow.getD j none).map λx=>(j,x)).map (·.2)).toArray,?_,?_,?_,?_,?_⟩
 ·unfold SetTable.laid;rw[e];rfl
 ·rw[Jq];exact(List.pairwise_lt_range (n:=mask+1)).sublist (Dm _ _)
 ·have:=h.pm.length_eq;rw[← eO,← Dn,aM,jD] at this;simpa using this
 ·rw[List.toList_toArray,Dn,eO];exact h.pm
 ·intro p hp;rw[List.toList_toArray] at hp;have:=fF.mp ((Dm _ _).subset hp);lia
theorem ag0{α:Type}(es:Array α):(List.range es.size).filterMap (λi=>es[i]?)=es.toList:=by
 have e:=IW es.toList;simpa using e
noncomputable def jV(w:World):Bool:=w.params.followText "set-order"
section
variable{prog:Program}{w:World}{A:Around}{E:Value->Shared->Prop}{s:Shared}
theorem ag1(a:Value){Q₁:Value->Shared->Prop}
  (h:Q₁ (.ref s.heap.objs.size) { s with heap:=s.heap.push (gS #[] 0 (.fresh 0 0 (!jV w)))}) :
  codeAny (model prog w) A (.call (.builtin "set.__new__") ⟨[.type "set",a],[]⟩) (wants Q₁ E) s:=by
 refine codeAny_of_tree ?_
 show wpAny _ A.in1 (do checkBuiltinCall "set.__new__" ⟨[.type "set",a],[]⟩;again (.builtin "set.__new__" ⟨[.type "set",a],[]⟩)) _ _ s
 refine aJ (wpAny_of_eq (F.newCall_set_1 a) (bq ⟨plainId_quiet F.plain_set_new _,q8 F.entry_set_new ?_⟩));rw[xR F.plain_set_new _];unfold Builtin.«set.__new__» Builtin.Frozenset.newClass;have ag2:=sub_set_self;obtain⟨hp,g,d,tk,os⟩:=s;dsimp only;wp_walk;refine wpAny_askSetting (bq ?_);dsimp only;simp only[newObj];refine aJ (wpAny_alloc (bq ?_));exact bq h
end
section
variable{prog:Program}{w:World}{A:Around}{E:Value->Shared->Prop}{s:Shared}{it d:Addr}{slot i n ep:Nat}{es:Array (Int×Value)}{t:SetTable}
end
noncomputable def Tab(ps:List Nat)(led:Bool):SetTable:={ mask:=7,place:=ps.toArray,dummies := #[],finger:=0,led,moves:=0,plain:=true }
noncomputable def ag3:List Nat->Bool
 | []=>true
 | [a]=>decide (a<8)
 | [a,b]=>decide (a<b) && decide (b<8)
 | [a,b,c]=>decide (a<b) && decide (b<c) && decide (c<8)
 | _=>false
noncomputable def Dp(ps:List Nat)(n:Nat)(led:Bool):Bool:=match (Tab ps led).freeSlot (Int.ofNat n) with
 | some (i,false)=>Nat.blt i 8 && ps.all λa => !(Nat.beq a i)
 | _=>false
noncomputable def VX(ps:List Nat)(i:Nat):Bool:=ag3 (SetTable.insertAt ps.toArray (SetTable.below ps.toArray i) i).toList && Nat.ble (SetTable.below ps.toArray i) ps.length
theorem c1:((List.range 8).all λa=>(List.range 192).all λn=>Dp [a] n true && Dp [a] n false)=true:=by decide +kernel
theorem c2:((List.range 8).all λa=>(List.range 8).all λb => !(Nat.blt a b) || (List.range 192).all λn=>Dp [a,b] n true && Dp [a,b] n false)=true:=by decide +kernel
theorem d0:((List.range 8).all λi=>VX [] i)=true:=by decide +kernel
theorem d1:((List.range 8).all λa=>(List.range 8).all λi=>Nat.beq a i || VX [a] i)=true:=by decide +kernel
noncomputable def Dq(ps:List Nat):Bool:=(List.range (ps.length+1)).all λi=>SetTable.below ps.toArray (if i=0 then 0 else ps.toArray.getD (i - 1) 0+1) == i
theorem e3:((List.range 8).all λa=>(List.range 8).all λb=>(List.range 8).all λc=>Dq [] && Dq [a] && (!(Nat.blt a b) || Dq [a,b]) && (!(Nat.blt a b) || !(Nat.blt b c) || Dq [a,b,c]))=true:=by decide +kernel
noncomputable def ev(x:Nat×Tok):Int×Value:=((x.1:Int),.int x.1 x.2)
section
variable{prog:Program}{w:World}{A:Around}{R:Result->Shared->Prop}{l I S:Addr}{led:Bool}{xs:List (Nat×Tok)}
end
noncomputable def xN:Nat->Nat
 | 0=>0
 | m+1=>5*xN m+1
theorem Ds:∀a:Nat,4*xN a+1=5 ^ a
 | 0=>rfl
 | a+1=>by
  have:=Ds a;rw[qc,← this]
  show 4*(5*xN a+1)+1=_;lia
theorem Dt:∀a b:Nat,xN (a+b)=5 ^ a*xN b+xN a
 | 0,b=>by rw[qY];show xN b=1*xN b+0;lia
 | a+1,b=>by
  rw[show a+1+b=a+b+1 by lia]
  show 5*xN (a+b)+1=5 ^ (a+1)*xN b+(5*xN a+1);rw[Dt a b,qc,sS,mO (5 ^ a) 5,xY];lia
theorem ag4(m:Nat):xN (m+m)=xN m*(5 ^ m+1):=by
 rw[Dt,sS,mO (xN m)];lia
theorem VY:∀m:Nat,xN m % 2=m % 2
 | 0=>rfl
 | m+1=>by
  have:=VY m
  show (5*xN m+1) % 2=_;lia
theorem ag5(m:Nat):∃q,5 ^ m+1=2*(2*q+1):=by
 have:=Ds m;exact⟨xN m,∅⟩
theorem VZ(k q:Nat):Nat.Coprime (2 ^ k) (2*q+1):=by
 refine Nat.Coprime.pow_left k ?_;rw[Nat.coprime_iff_gcd_eq_one];have:Nat.gcd 2 (2*q+1)=Nat.gcd ((2*q+1) % 2) 2:=Nat.gcd_rec 2 (2*q+1);rw[this,show (2*q+1) % 2=1 by lia]
 rfl
theorem Jr:∀(k m:Nat),2 ^ k ∣ xN m↔2 ^ k ∣ m
 | 0,m=>by simp
 | k+1,m=>by
  have ev:∀n:Nat,2 ^ (k+1) ∣ n->n % 2=0:=λn ⟨c,e⟩=>by rw[e,qc,xY,mO 2,← xY,Nat.mul_mod_left]
  have half:∀n:Nat,m=n+n->(2 ^ (k+1) ∣ xN m↔2 ^ (k+1) ∣ m):=λn e=>by
   obtain⟨q,hq⟩:=ag5 n;rw[e,ag4,hq,qc,show xN n*(2*(2*q+1))=(xN n*(2*q+1))*2 by rw[xZ,mO],show n+n=n*2 by lia,Nat.mul_dvd_mul_iff_right ⋯,Nat.mul_dvd_mul_iff_right ⋯,← Jr k n]
   constructor
   ·exact λh=>(VZ k q).dvd_of_dvd_mul_right h
   ·exact λh=>Nat.dvd_trans h (Nat.dvd_mul_right _ _)
  constructor
  ·intro h;have h1:=ev _ h;rw[VY] at h1;exact(half (m / 2) ∅).mp h
  ·intro h;have h1:=ev _ h;exact(half (m / 2) ∅).mpr h
theorem Du(mask:Nat):∀(k s:Nat),s<=mask->(chain mask k (s,0)).1=(5 ^ k*s+xN k) % (mask+1)
 | 0,s,h=>by
  show s=(1*s+0) % (mask+1);rw[Nat.mod_eq_of_lt ∅];lia
 | k+1,s,h=>by
  have e:SetTable.leap mask s 0=((s*5+1) % (mask+1),0):=by unfold SetTable.leap;simp
  show (chain mask k (SetTable.leap mask s 0)).1=_;rw[e,Du mask k _ (by have:=vp (s*5+1) (show 0<mask+1 by lia);lia)]
  have x1:xN (k+1)=5 ^ k*1+xN k:=Dt k 1;rw[Nat.add_mod,Nat.mul_mod,Nat.mod_mod,← Nat.mul_mod,← Nat.add_mod,x1,qc];congr 1;rw[sS,mO s 5,← xY];lia
theorem ag6{e mask:Nat}(hm:mask+1=2 ^ e){s i d:Nat}(hs:s<=mask)(d0:0<d)(d1:d<=mask):(chain mask i (s,0)).1≠(chain mask (i+d) (s,0)).1:=by
 rw[Du mask i s hs,Du mask (i+d) s hs];have e1:5 ^ (i+d)*s+xN (i+d)=(5 ^ i*s+xN i)+xN d*(5 ^ i*(4*s+1)):=by
  rw[Dt,Nat.pow_add,← Ds d,sS,Nat.mul_one,Nat.add_mul,xY,mO (4*xN d) s,sS,sS];rw[show xN d*(5 ^ i*(4*s))=5 ^ i*(s*(4*xN d)) by rw[xZ];congr 1;rw[xZ,xZ s];congr 1;exact mO _ _,Nat.mul_one,mO (xN d) (5 ^ i)]
  lia
 intro h;rw[e1] at h;have dv:(mask+1) ∣ xN d*(5 ^ i*(4*s+1)):=by
  have:=(Nat.sub_mod_eq_zero_of_mod_eq h.symm);rw[Nat.add_sub_cancel_left] at this;exact Nat.dvd_of_mod_eq_zero this
 have od:∃q,5 ^ i*(4*s+1)=2*q+1:=by
  rw[← Ds i];refine⟨(4*xN i+1)*(2*s)+2*xN i,?_⟩;rw[sS (4*xN i+1),Nat.mul_one,show 4*s=2*(2*s) by lia,xZ]
  lia
 obtain⟨q,hq⟩:=od;rw[hm,hq] at dv;have:=(Jr e d).mp ((VZ e q).dvd_of_dvd_mul_right dv);have:=Nat.le_of_dvd d0 this;lia
theorem V0{e mask:Nat}(hm:mask+1=2 ^ e){s:Nat}(hs:s<=mask){n:Nat}(hn:n<=mask+1):((List.range n).map λk=>(chain mask k (s,0)).1).Nodup:=by
 rw[vm,p9,sQ];intro i j hi hj nI;rw[Fe,Fe];rw[jD] at hj;have:=ag6 hm hs (i:=i) (d:=j - i) ∅ ∅
 rwa [show i+(j - i)=j by lia] at this
theorem V1(mask:Nat):∀(n s:Nat),s<=mask->xg mask n s=(List.range n).map λk=>(chain mask k (s,0)).1
 | 0,_,_=>rfl
 | n+1,s,h=>by
  have e:SetTable.leap mask s 0=((s*5+1) % (mask+1),0):=by unfold SetTable.leap;simp
  have:=vp (s*5+1) (show 0<mask+1 by lia)
  show s::xg mask n ((s*5+1) % (mask+1))=_;rw[V1 mask n _ ∅,List.range_succ_eq_map,cH,oA]
  congr 1;refine vh λk _=>?_
  show _=(chain mask k (SetTable.leap mask s 0)).1;rw[e]
theorem ag7{e mask:Nat}(hm:mask+1=2 ^ e):qK mask=true:=by
 have nd:=V0 hm (s:=0) ∅ (n:=mask+1) (bu _)
 unfold qK;rw[xS,mH];refine⟨λf hf=>?_,?_⟩
 ·have hf:=fF.mp hf;rw[V1 mask _ 0 ∅]
  apply A0;intro hc;have hc:f∉(List.range (mask+1)).map λk=>(chain mask k (0,0)).1:=by simpa using hc
  have Ir:(f::(List.range (mask+1)).map λk=>(chain mask k (0,0)).1).Nodup:=List.nodup_cons.mpr ⟨hc,nd⟩;have sub:(f::(List.range (mask+1)).map λk=>(chain mask k (0,0)).1) ⊆ List.range (mask+1):=λv hv=>by
   rcases b_.mp hv with rfl | hv
   ·exact fF.mpr hf
   ·obtain⟨k,_,rfl⟩:=dh.mp hv;have:=Dj mask k (0,0) (by show 0<=mask;lia)
    exact fF.mpr ∅
  have:=Ir.length_le_of_subset sub;rw[dR,aM,jD] at this;lia
 ·rw[Du mask (mask+1) 0 ∅,Nat.mul_zero,qY]
  have:=(Jr e (2 ^ e)).mpr (Nat.dvd_refl _);rw[hm,Nat.mod_eq_zero_of_dvd this];rfl
noncomputable def d7(t:SetTable):Nat->SetTable.Probe->SetTable.Probe
 | 0,p=>p
 | k+1,p=>d7 t k (t.advance p)
def nX(t:SetTable)(p:SetTable.Probe):Prop:=p.dummy=none/\p.j+p.more<=t.mask
theorem nX.V2{t:SetTable}{p:SetTable.Probe}(h:nX t p):nX t (t.advance p):=by
 unfold SetTable.advance;split
 ·exact⟨h.1,by have:=h.2;show p.j+1+(p.more - 1)<=_;lia⟩
 ·have:=Dh t.mask p.i p.perturb;exact⟨h.1,(Dg t.mask _ this).2⟩
theorem nX.d7{t:SetTable}:∀(k:Nat) {p:SetTable.Probe},nX t p->nX t (d7 t k p)
 | 0,_,h=>h
 | k+1,_,h=>nX.d7 k h.V2
theorem Dv(t:SetTable):∀(a b:Nat) (p:SetTable.Probe),d7 t (a+b) p=d7 t b (d7 t a p)
 | 0,b,p=>by rw[qY];rfl
 | a+1,b,p=>by
  rw[show a+1+b=(a+b)+1 by lia]
  exact Dv t a b _
theorem V3(t:SetTable):∀(r:Nat) (p:SetTable.Probe),p.dummy=none->p.more=r->d7 t (r+1) p=uH t.mask (SetTable.leap t.mask p.i p.perturb)
 | 0,p,hp,hm=>by
  show t.advance p=_;unfold SetTable.advance;rw[hm,if_neg ⋯]
  unfold uH;rw[← hp]
 | r+1,p,hp,hm=>by
  have e:t.advance p = { j:=p.j+1,more:=p.more - 1,i:=p.i,perturb:=p.perturb,dummy:=p.dummy }:=by
   unfold SetTable.advance;rw[if_pos ∅]
  show d7 t (r+1) (t.advance p)=_;rw[e];exact V3 t r _ hp (by show p.more - 1=r;lia)
theorem V4(t:SetTable):∀(m:Nat) (x:Nat×Nat),x.1<=t.mask->∃k,k<=10*m/\d7 t k (uH t.mask x)=uH t.mask (chain t.mask m x)
 | 0,x,_=>⟨0,bu _,rfl⟩
 | m+1,x,hx=>by
  obtain⟨r1,r2⟩:=Dg t.mask x.1 hx;obtain⟨k,hk,e⟩:=V4 t m (SetTable.leap t.mask x.1 x.2) (Dh _ _ _);refine⟨SetTable.runEnd t.mask x.1 - x.1+1+k,∅,?_⟩
  rw[Dv,V3 t (SetTable.runEnd t.mask x.1 - x.1) (uH t.mask x) rfl rfl];exact e
theorem ag8{e:Nat}{t:SetTable}(hm:t.mask+1=2 ^ e)(hn:t.place.size<=t.mask){x:Nat×Nat}(hx:x.1<=t.mask)(hp:x.2<2 ^ 64):∃m,m<=t.place.size+13/\(chain t.mask m x).1∉t.place.toList:=by
 have z:(chain t.mask 13 x).2=0:=by
  rw[Di];exact Nat.div_eq_of_lt (ji hp ⋯)
 have c13:=Dj t.mask 13 x hx;apply A0;intro h;have nd:=V0 hm c13 (n:=t.place.size+1) ∅
 have sub:((List.range (t.place.size+1)).map λk=>(chain t.mask k ((chain t.mask 13 x).1,0)).1) ⊆ t.place.toList:=λv hv=>by
  obtain⟨k,hk,rfl⟩:=dh.mp hv;have hk:=fF.mp hk;apply A0;intro q;refine h ⟨13+k,∅,?_⟩
  rw[w_,show chain t.mask 13 x=((chain t.mask 13 x).1,0) from qZ rfl z];exact q
 have:=nd.length_le_of_subset sub;rw[aM,jD,mG] at this;lia
theorem ag9{e:Nat}{t:SetTable}(hm:t.mask+1=2 ^ e)(hn:t.place.size<=t.mask)(h:Int):∃n,n<=10*(t.place.size+13)/\(d7 t n (t.probeStart h)).j∉t.place.toList/\∀i,i<n->(d7 t i (t.probeStart h)).j∈t.place.toList:=by
 have hx:SetTable.bits h % (t.mask+1)<=t.mask:=by have:=vp (SetTable.bits h) (show 0<t.mask+1 by lia);lia
 obtain⟨m,m1,m2⟩:=ag8 hm hn (x:=(SetTable.bits h % (t.mask+1),SetTable.bits h)) hx (VT h);obtain⟨k,k1,k2⟩:=V4 t m (SetTable.bits h % (t.mask+1),SetTable.bits h) hx;have ex:∃n,(d7 t n (t.probeStart h)).j∉t.place.toList:=⟨k,by
  have:t.probeStart h=uH t.mask (SetTable.bits h % (t.mask+1),SetTable.bits h):=rfl;rw[this,k2];exact m2⟩
 have le:∀n,(d7 t n (t.probeStart h)).j∉t.place.toList->∃n',n'<=n/\(d7 t n' (t.probeStart h)).j∉t.place.toList/\∀i,i<n'->(d7 t i (t.probeStart h)).j∈t.place.toList:=by
  intro n
  induction n using Nat.strongRecOn with
  | _ n ih =>
   intro hn;by_cases q:∃i,i<n/\(d7 t i (t.probeStart h)).j∉t.place.toList
   ·obtain⟨i,hi,hq⟩:=q;obtain⟨n',a,b,c⟩:=ih i hi hq;exact⟨n',∅,b,c⟩
   ·exact⟨n,bu _,hn,λi hi=>A0 λz=>q ⟨i,hi,z⟩⟩
 obtain⟨n',a,b,c⟩:=le k (by
  have:t.probeStart h=uH t.mask (SetTable.bits h % (t.mask+1),SetTable.bits h):=rfl;rw[this,k2];exact m2)
 exact⟨n',∅,b,c⟩
theorem V5{t:SetTable}(hd:t.dummies = #[])(hR:l_ t.place){g:Nat->Int}{h:Int}:∀(n fuel:Nat) (p:SetTable.Probe),nX t p->n<fuel->(∀i,i<n->(d7 t i p).j∈t.place.toList)->(d7 t n p).j∉t.place.toList->
  (∃j,SetTable.probe.go t g h fuel p=some (.empty j none)/\j∉t.place.toList/\j<=t.mask)\/∃i q,i<n/\SetTable.probe.go t g h fuel p=some (.candidate (d7 t i p).j q (d7 t (i+1) p))/\t.slot (d7 t i p).j = .live q
 | n,0,p,_,hf,_,_=>by lia
 | 0,fuel+1,p,hp,hf,hl,he=>by
  have e:SetTable.probe.go t g h (fuel+1) p=match t.slot p.j with
   | .empty=>some (.empty p.j p.dummy)
   | .dummy=>SetTable.probe.go t g h fuel (t.advance { p with dummy:=some p.j })
   | .live i=>if (g i == h)=true then some (.candidate p.j i (t.advance p)) else SetTable.probe.go t g h fuel (t.advance p):=rfl
  have he:p.j∉t.place.toList:=he;exact .inl ⟨p.j,by rw[e,agT hd he,hp.1],he,by have:=hp.2;lia⟩
 | n+1,fuel+1,p,hp,hf,hl,he=>by
  have e:SetTable.probe.go t g h (fuel+1) p=match t.slot p.j with
   | .empty=>some (.empty p.j p.dummy)
   | .dummy=>SetTable.probe.go t g h fuel (t.advance { p with dummy:=some p.j })
   | .live i=>if (g i == h)=true then some (.candidate p.j i (t.advance p)) else SetTable.probe.go t g h fuel (t.advance p):=rfl
  obtain⟨q,hq⟩:=agU hR (show p.j∈t.place.toList from hl 0 ∅)
  rw[e,hq];dsimp only;by_cases c:(g q == h)=true
  ·rw[if_pos c];exact .inr ⟨0,q,∅,rfl,hq⟩
  ·rw[if_neg c];rcases V5 hd hR n fuel (t.advance p) hp.V2 ∅ (λi hi=>hl (i+1) ∅) he with z | ⟨i,q',h1,h2,h3⟩
   ·exact .inl z
   ·exact .inr ⟨i+1,q',∅,h2,h3⟩
theorem ag_{t:SetTable}{j i:Nat}(h:t.slot j = .live i):i<t.place.size:=by
 have e:t.slot j=if (t.place[SetTable.below t.place j]? == some j)=true then .live (SetTable.below t.place j) else if SetTable.has t.dummies j=true then .dummy else .empty:=rfl
 rw[e] at h;split at h
 ·rename_i c;have c:=eq_of_beq c;injection h with h;rw[← h];exact(Array.getElem?_eq_some_iff.mp c).1
 ·split at h <;> cases h
def je(prog:Program)(w:World)(h:Heap)(ks:List Int)(a:Addr):Prop:=IsTupleKey (dN prog w) h (ks.map (Sum.inl:Int->Key)) a
noncomputable def r9(prog:Program)(w:World)(ks:List Int):Int:=tupleKeyHash (dN prog w) (ks.map (Sum.inl:Int->Key))
section
variable{prog:Program}{w:World}{A:Around}{E:Value->Shared->Prop}{s:Shared}
theorem items_int:∀ {ks:List Int} {vs:List Value},ItemsAre (dN prog w) (ks.map (Sum.inl:Int->Key)) vs->∀v∈vs,∃i t,v = .int i t
 | [],_,.nil,v,h=>by cases h
 | k::ks,_,.cons e r,v,h=>by
  rcases b_.mp h with rfl | h
  ·rw[abp] at e;rcases oG e with⟨i,t,_,e2⟩ | ⟨x,t,e1,_⟩
   ·exact⟨i,t,e2⟩
   ·cases e1
  ·exact items_int r v h
theorem aha{a:Addr}{ks:List Int}{Q:Bool->Shared->Prop}(hk:je prog w s.heap ks a)(h:Q true s):wpAny (model prog w) A (hashByValue 8 (.ref a)) Q E s:=by
 have hT:=hk.typeIs;obtain⟨o,items,n,ho,_,hd,hi⟩:=hk;have hI:=items_int hi;unfold hashByValue;refine aJ (BD hT F.slot_tuple_hash.lookup ?_);dsimp only;refine aJ (wpAny_seqItems ho hd ?_);refine aJ ?_
 show wpAny _ _ (forIn items _ _) _ _ s;rw[← E5];refine BC _ (λrest r s'=>r.1=none/\s' = s/\∀v∈rest,∃i t,v = .int i t) _ ?_ ?_ _ _ ⟨rfl,rfl,hI⟩
 ·rintro v rest r s' ⟨hr,rfl,oY⟩;obtain⟨i,t,rfl⟩:=oY v b8;refine aJ (m:=hashByValue 7 (.int i t)) (bq ?_);simp only[Bool.not_true,Bool.false_eq_true,if_false];exact bq ⟨rfl,rfl,λu mh=>oY u (bU _ mh)⟩
 ·rintro⟨r1,r2⟩ s' ⟨hr,rfl,_⟩;simp only at hr;subst hr;exact bq h
theorem V6{a:Addr}{ks:List Int}{Q:Bool->Shared->Prop}(hk:je prog w s.heap ks a)(h:Q false s):wpAny (model prog w) A (ofAClassStatement 8 (.ref a)) Q E s:=by
 have hT:=hk.typeIs;obtain⟨o,items,n,ho,_,hd,hi⟩:=hk;have hI:=items_int hi;unfold ofAClassStatement;refine aJ (wpAny_typeOf hT ?_);dsimp only;rw[if_pos ⋯]
 refine aJ (bq ?_);simp only[Bool.not_true,Bool.false_eq_true,if_false];refine aJ (wpAny_seqItems ho hd ?_);dsimp only;refine aJ ?_
 show wpAny _ _ (forIn items _ _) _ _ s;rw[← E5];refine BC _ (λrest r s'=>r.1=none/\s' = s/\∀v∈rest,∃i t,v = .int i t) _ ?_ ?_ _ _ ⟨rfl,rfl,hI⟩
 ·rintro v rest r s' ⟨hr,rfl,oY⟩;obtain⟨i,t,rfl⟩:=oY v b8;refine aJ (m:=ofAClassStatement 7 (.int i t)) (bq ?_);simp only[Bool.false_eq_true,if_false];exact bq ⟨rfl,rfl,λu mh=>oY u (bU _ mh)⟩
 ·rintro⟨r1,r2⟩ s' ⟨hr,rfl,_⟩;simp only at hr;subst hr;exact bq h
theorem ahb{x:Addr}{ks:List Int}(hx:je prog w s.heap ks x):∀ {ys:List Value} {Q:Bool->Shared->Prop},(∀y∈ys,∃b ms,y = .ref b/\je prog w s.heap ms b)->Q false s->wpAny (model prog w) A (searchCouldBeSeen (.ref x) ys) Q E s:=by
 intro ys Q hy h;unfold searchCouldBeSeen;refine aJ ?_;refine BC _ (λrest r s'=>r.1=none/\s' = s/\∀y∈rest,∃b ms,y = .ref b/\je prog w s.heap ms b) _ ?_ ?_ _ _ ⟨rfl,rfl,hy⟩
 ·rintro v rest r s' ⟨hr,rfl,oY⟩;obtain⟨b,ms,rfl,hb⟩:=oY v b8;dsimp only;have more:∀y∈rest,∃b ms,y = .ref b/\je prog w s'.heap ms b:=λu mh=>oY u (bU _ mh);split
  ·exact bq ⟨rfl,rfl,more⟩
  ·refine aJ (wpAny_eqIsQuiet_tuple hx ?_);simp only[Bool.not_true,Bool.false_eq_true,if_false];refine aJ (wpAny_eqIsQuiet_tuple hb ?_);simp only[Bool.not_true,Bool.false_eq_true,if_false];refine aJ (V6 hx ?_);simp only[Bool.false_eq_true,if_false];refine aJ (V6 hb ?_);simp only[Bool.false_eq_true,if_false];exact bq ⟨rfl,rfl,more⟩
 ·rintro⟨r1,r2⟩ s' ⟨hr,rfl,_⟩;simp only at hr;subst hr;exact bq h
theorem ahc{ks ms:List Int}(h:ms.map (Sum.inl:Int->Key)=ks.map Sum.inl):ms=ks:=by
 induction ms generalizing ks with
 | nil=>cases ks with
  | nil=>rfl
  | cons k ks=>cases h
 | cons m ms ih=>cases ks with
  | nil=>cases h
  | cons k ks =>
   rw[cH,cH] at h;injection h with h1 h2;rw[Sum.inl.inj h1,ih h2]
theorem ahd(hu:A.units<cLine){a x:Addr}{es:Array (Int×Value)}{ep:Nat}{t:SetTable}{ks:List Int}{h:Int}(ho:s.heap.get? a=some (gS es ep t))(hf:t.fits es.size=true)(hd:t.dummies = #[])(hR:l_ t.place)(hz:t.place.size=es.size)(ahe:t.mask % 2=1)
  (hx:je prog w s.heap ks x) (Dw:∀e∈es.toList,∃b ms,e.2 = .ref b/\je prog w s.heap ms b/\ms≠ks) {Q:SetFound->Shared->Prop} (q:∀j,j∉t.place.toList->j<=t.mask->Q (.free j false) s) :
  ∀(n fuel:Nat) (xj:Option SetTable.Probe),nX t (xj.getD (t.probeStart h))->n<10*SetTable.turns t.mask->n<fuel->(∀i,i<n->(d7 t i (xj.getD (t.probeStart h))).j∈t.place.toList)->(d7 t n (xj.getD (t.probeStart h))).j∉t.place.toList->
  wpAny (model prog w) A (setSearchFrom a (.ref x) h true fuel xj) Q E s:=by
 intro n
 induction n using Nat.strongRecOn with
 | _ n ih =>
  intro fuel xj hp Js hfu hl he;obtain⟨f,rfl⟩:∃f,fuel=f+1:=⟨fuel - 1,∅⟩
  unfold setSearchFrom;refine aJ (vF ho rfl hf ?_);dsimp only;have gw:t.gaveWay=false:=by unfold SetTable.gaveWay;rw[ahe];rfl
  rw[gw];simp only[Bool.false_eq_true,if_false];generalize hpp:xj.getD (t.probeStart h)=p at *
  generalize hq:SetTable.probe t _ h p=pr;obtain⟨g,hg⟩:∃g,SetTable.probe.go t g h (10*SetTable.turns t.mask) p=pr:=⟨_,hq⟩;clear hq;rcases V5 hd hR (g:=g) (h:=h) n (10*SetTable.turns t.mask) p hp Js hl he with⟨j,e,j1,j2⟩ | ⟨i,c,i1,e,sl⟩
  ·rw[e] at hg;subst hg;exact bq (q j j1 j2)
  ·rw[e] at hg;subst hg;have hc:c<es.size:=by have:=ag_ sl;lia
   obtain⟨b,ms,eb,hb,fV⟩:=Dw es[c] (by simp)
   obtain⟨hv,hy⟩:∃hv,es[c] = (hv,Value.ref b):=⟨es[c].1,by rw[← eb]⟩
   have Jt:es[c]? = some (hv,Value.ref b):=by rw[AX hc,hy]
   have nk:decide (ms.map (Sum.inl:Int->Key)=ks.map Sum.inl)=false:=j9 λz=>fV (ahc z);have sm:t.sameMemory t.moves t.mask=some true:=by unfold SetTable.sameMemory;simp
   have pa:nX t (d7 t (i+1) p):=hp.d7 (i+1);have V7:wpAny (model prog w) A (setSearchFrom a (.ref x) h true f (some (d7 t (i+1) p))) Q E s:=by
    refine ih (n - (i+1)) ∅ f (some (d7 t (i+1) p)) pa ∅ ∅ (λk hk=>?_) ?_
    ·show (d7 t k (d7 t (i+1) p)).j∈_;rw[← Dv];exact hl _ ∅
    ·show (d7 t (n - (i+1)) (d7 t (i+1) p)).j∉_;rw[← Dv,show i+1+(n - (i+1))=n by lia]
     exact he
   dsimp only;rw[Jt];dsimp only;cases apk:t.led
   ·simp only[Bool.not_false,if_true];refine aJ (ahb hx (λy hy=>?_) ?_)
    ·obtain⟨e,ug,rfl⟩:=dh.mp hy;have:e∈es.toList:=by
      rw[Array.toList_filter] at ug;exact(fj.mp ug).1
     obtain⟨b',rH,e1,e2,_⟩:=Dw e this;exact⟨b',rH,e1,e2⟩
    simp only[Bool.false_eq_true,if_false];refine aJ (mS (wpAny_eqBool_tuple hu hb hx ?_));rw[nk];refine aJ (vF ho rfl hf ?_);simp only[Bool.and_false,Bool.false_eq_true,if_false];rw[sm];simp only[if_true];rw[sl];dsimp only;rw[Jt];dsimp only;refine aJ (wpAny_isSame_ref_self ?_);exact aJ (bq V7)
   ·simp only[Bool.not_true,Bool.false_eq_true,if_false];refine aJ (mS (wpAny_eqBool_tuple hu hb hx ?_));rw[nk];refine aJ (vF ho rfl hf ?_);simp only[Bool.and_false,Bool.false_eq_true,if_false];rw[sm];simp only[if_true];rw[sl];dsimp only;rw[Jt];dsimp only;refine aJ (wpAny_isSame_ref_self ?_);exact aJ (bq V7)
end
theorem V8:∀(fuel k m:Nat),m<2 ^ (k+fuel)->∃e,k<=e/\SetTable.sizeAbove.go m fuel (2 ^ k)=2 ^ e/\m<2 ^ e/\(e=k\/2 ^ e<=2*m)
 | 0,k,m,h=>⟨k,bu _,rfl,h,.inl rfl⟩
 | fuel+1,k,m,h=>by
  have e:SetTable.sizeAbove.go m (fuel+1) (2 ^ k)=if 2 ^ k<=m then SetTable.sizeAbove.go m fuel (2 ^ k*2) else 2 ^ k:=rfl
  rw[e];by_cases c:2 ^ k<=m
  ·rw[if_pos c,← qc];obtain⟨e',h1,h2,h3,h4⟩:=V8 fuel (k+1) m (by rwa [show k+1+fuel=k+(fuel+1) by lia])
   refine⟨e',∅,h2,h3,.inr ?_⟩
   rcases h4 with rfl | h4
   ·rw[qc];lia
   ·exact h4
  ·rw[if_neg c];exact⟨k,bu _,rfl,∅,.inl rfl⟩
theorem ahf{m:Nat}(h8:8<=m)(hm:m<1000000):∃e,SetTable.sizeAbove m=2 ^ e/\m<2 ^ e/\2 ^ e<=2*m:=by
 obtain⟨e,h1,h2,h3,h4⟩:=V8 64 3 m (ji hm ⋯)
 refine⟨e,h2,h3,?_⟩;rcases h4 with rfl | h4
 ·show 8<=2*m;lia
 ·exact h4
structure uI(led:Bool)(t:SetTable)(n:Nat):Prop where
 Ju:t.dummies = #[]
 rise:l_ t.place
 sz:t.place.size=n
 pl:t.plain=true
 ld:t.led=led
 pw:∃e,3<=e/\t.mask+1=2 ^ e
 room:n*5<t.mask*3
theorem uI.odd{led:Bool}{t:SetTable}{n:Nat}(h:uI led t n):t.mask % 2=1:=by
 obtain⟨e,h3,he⟩:=h.pw;obtain⟨d,rfl⟩:∃d,e=d+1:=⟨e - 1,∅⟩
 rw[qc] at he;lia
theorem uI.fits{led:Bool}{t:SetTable}{n:Nat}(h:uI led t n):t.fits n=true:=by
 unfold SetTable.fits SetTable.fill;rw[h.sz,h.Ju];have:=h.room;simp;lia
theorem ahg(led:Bool):uI led (.fresh 0 0 led) 0:=⟨rfl,λi k _ h=>absurd h (by simp[SetTable.fresh]),rfl,rfl,rfl,⟨3,bu _,rfl⟩,by show 0*5<7*3;decide⟩
noncomputable def qL(prog:Program)(w:World)(led:Bool)(xs:List (List Int×Addr))(es:Array (Int×Value))(t:SetTable):Prop :=
 uI led t es.size/\es.toList.Perm (xs.map λx=>(r9 prog w x.1,Value.ref x.2))
section
variable{prog:Program}{w:World}{A:Around}{E:Value->Shared->Prop}{s:Shared}{a x:Addr}{es:Array (Int×Value)}{ep:Nat}{t:SetTable}{led:Bool}{xs:List (List Int×Addr)}{ks:List Int}
theorem qL.size(st:qL prog w led xs es t):es.size=xs.length:=by
 have:=st.2.length_eq;rw[mG,aM] at this;exact this
theorem Jv{h h':Heap}{ms:List Int}{b:Addr}(z:je prog w h ms b)(k:∀o,h.get? b=some o->h'.get? b=some o):je prog w h' ms b:=by
 obtain⟨o,items,n,ho,r⟩:=z;exact⟨o,items,n,k o ho,r⟩
theorem qL.add{Q:Bool->Shared->Prop}(hu:A.units<cLine)(st:qL prog w led xs es t)(ho:s.heap.get? a=some (gS es ep t))(hn:xs.length<6000)(hx:je prog w s.heap ks x)(hxs:∀y∈xs,je prog w s.heap y.1 y.2)(new:∀y∈xs,y.1≠ks)
  (q:∀h' fO gX t',Heap.SameBut a s.heap h'->h'.get? a=some (gS fO gX t')->qL prog w led (xs++[(ks,x)]) fO t'->Q true { s with heap:=h' }):wpAny (model prog w) A (setAddHashed a (.ref x) (r9 prog w ks)) Q E s:=by
 have hsz:=st.size;obtain⟨hT,p⟩:=id st;have Dw:∀e∈es.toList,∃b ms,e.2 = .ref b/\je prog w s.heap ms b/\ms≠ks:=λe he=>by
  obtain⟨y,hy,rfl⟩:=dh.mp (p.mem_iff.mp he);exact⟨y.2,y.1,rfl,hxs y hy,new y hy⟩
 have hf:=hT.fits;obtain⟨e,e3,hm⟩:=hT.pw;have hr:=hT.room;have mZ:=hT.sz;have hsn:(Value.ref x).scannable=false:=rfl;unfold setAddHashed setAddHashedIn;refine mS (aJ (vF ho rfl hf ?_));dsimp only;have bs:byScan (.ref x) es=false:=by unfold byScan;rw[hsn];rfl
 rw[bs];simp only[Bool.false_eq_true,if_false];obtain⟨n,n1,n2,n3⟩:=ag9 hm ∅ (r9 prog w ks)
 have ps:nX t (t.probeStart (r9 prog w ks)):=⟨rfl,(Dg t.mask _ (show SetTable.bits (r9 prog w ks) % (t.mask+1)<=t.mask by have:=vp (SetTable.bits (r9 prog w ks)) (show 0<t.mask+1 by lia);lia)).2⟩
 unfold setSearch;refine wpAny_bind (ahd hu ho hf hT.Ju hT.rise hT.sz hT.odd hx Dw (λj j1 j2=>?_) n 100000 none ps (by unfold SetTable.turns;lia) ∅ n3 n2)
 dsimp only;have pe:t.put j=({ t with place:=SetTable.insertAt t.place (SetTable.below t.place j) j,dummies := #[] },SetTable.below t.place j):=by
  have e0:SetTable.has #[] j=false:=by simp[SetTable.has,SetTable.below,SetTable.below.go]
  unfold SetTable.put;simp only[hT.Ju,e0];simp
 refine aJ (vF ho rfl hf ?_);dsimp only;rw[pe];dsimp only;rw[if_pos hT.pl];refine aJ (aha hx ?_);simp only[if_true];generalize V9:SetTable.insertAt es (SetTable.below t.place j) (r9 prog w ks,Value.ref x)=dg;have pm:dg.toList.Perm (es.toList++[(r9 prog w ks,Value.ref x)]):=by
  rw[← V9];refine(SetTable.insertAt_perm es _ _).trans ?_;rw[Array.toList_push]
 have Dy:dg.size=es.size+1:=by
  have:=pm.length_eq;simpa using this
 generalize uJ:({ t with place:=SetTable.insertAt t.place (SetTable.below t.place j) j,dummies := #[] }:SetTable)=t1;have m1:t1.mask=t.mask:=by rw[← uJ]
 have d1:t1.dummies = #[]:=by rw[← uJ]
 have r1:l_ t1.place:=by rw[← uJ];exact agS hT.rise j1
 have z1:t1.place.size=dg.size:=by
  have:=(SetTable.insertAt_perm t.place (SetTable.below t.place j) j).length_eq;rw[mG] at this;rw[← uJ]
  show (SetTable.insertAt t.place (SetTable.below t.place j) j).size=_;rw[this,Dy];simp[hT.sz]
 have l1:t1.led=led:=by rw[← uJ];exact hT.ld
 have uK:t1.plain=true:=by rw[← uJ];exact hT.pl
 clear uJ V9;refine aJ (wpAny_storeSet_of ho rfl ?_ (by rw[q9];lia))
 have hg:(s.heap.update a (Obj.putSet dg t1)).get? a=some (gS dg (ep+1) t1):=by
  have:=xT (Obj.putSet dg t1) ho (by rw[putSet_of dg t1 (es:=es) (ep:=ep) (t:=t) rfl];rfl)
  rw[putSet_of dg t1 (es:=es) (ep:=ep) (t:=t) rfl] at this;exact this
 have fin:∀h' fO gX t',Heap.SameBut a s.heap h'->h'.get? a=some (gS fO gX t')->fO.toList.Perm dg.toList->uI led t' fO.size->Q true { s with heap:=h' }:=λh' fO gX t' sb hg' p' zq=>by
  refine q h' fO gX t' sb hg' ⟨zq,?_⟩;rw[bT];exact p'.trans (pm.trans (p.append_right _))
 cases xm:t1.tooFull with
 | false =>
  simp only[Bool.and_false,Bool.false_eq_true,if_false];have room:dg.size*5<t1.mask*3:=by
   unfold SetTable.tooFull SetTable.fill at xm;rw[d1,z1] at xm;simpa using xm
  exact bq (fin _ dg (ep+1) t1 (u9 _ _ _) hg (.refl _) ⟨d1,r1,z1,uK,l1,⟨e,e3,by rw[m1];exact hm⟩,room⟩)
 | true =>
  simp only[Bool.not_false,Bool.and_true,if_true];have V_:t1.mask*3<=dg.size*5:=by
   unfold SetTable.tooFull SetTable.fill at xm;rw[d1,z1] at xm;simpa using xm
  have e8:8<=2 ^ e:=cQ (show 8<=2 ^ 3 by decide) (Nat.pow_le_pow_right ⋯ e3)
  have gr:SetTable.grown (es.size+1)=dg.size*4:=by
   unfold SetTable.grown;rw[if_neg ∅,Dy]
  rw[gr];obtain⟨e',E1,E2,E3⟩:=ahf (m:=dg.size*4) ∅ ∅
  have e'3:3<=e':=by
   refine Nat.le_of_not_lt λz=>?_
   have:=Nat.pow_le_pow_right (show 0<2 by decide) (show e'<=2 by lia)
   lia
  obtain⟨mk,Wa⟩:∃mk,mk+1=2 ^ e':=⟨2 ^ e' - 1,∅⟩
  have ahh:SetTable.sizeAbove (dg.size*4) - 1=mk:=by lia
  obtain⟨ps2,order,o1,o2,o3,o4,o5⟩:=agZ (mask:=mk) (finger:=t1.finger) (moves:=t1.movedTo mk) (led:=t1.led) (plain:=t1.plain) (ag7 Wa) (dg.map λx=>x.1) (by rw[Array.size_map];lia)
  rw[Array.size_map] at o3 o4;have Wb:(order.filterMap λx=>dg[x]?).toList.Perm dg.toList:=by
   rw[Array.toList_filterMap];have:=o4.filterMap λx=>dg[x]?
   rw[ag0] at this;exact this
  have Dz:(order.filterMap λx=>dg[x]?).size=dg.size:=by
   have:=Wb.length_eq;rw[mG,mG] at this;exact this
  have T1:t1.fits dg.size=true:=by
   unfold SetTable.fits SetTable.fill;rw[z1,d1];simp;lia
  unfold setRelay;refine aJ (aJ (vF hg rfl T1 ?_));dsimp only;rw[if_neg (by rw[q9];lia)]
  unfold SetTable.relaid;rw[ahh,o1];refine aJ ?_
  show wpAny _ _ (if ((order.filterMap λx=>dg[x]?).size != dg.size)=true then _ else _) _ _ _
  rw[if_neg (by rw[Dz];simp)]
  refine bq ?_;dsimp only;refine wpAny_storeSet_of (s:={ s with heap:=s.heap.update a (Obj.putSet dg t1)}) hg rfl ?_ (by rw[q9];lia)
  generalize order.filterMap (λx=>dg[x]?)=nj at *
  generalize uL:({ mask:=mk,place:=ps2,dummies := #[],finger:=t1.finger,led:=t1.led,moves:=t1.movedTo mk,plain:=t1.plain }:SetTable)=t2;have hg2:((s.heap.update a (Obj.putSet dg t1)).update a (Obj.putSet nj t2)).get? a=some (gS nj (ep+2) t2):=by
   have:=xT (Obj.putSet nj t2) hg (by rw[putSet_of nj t2 (es:=dg) (ep:=ep+1) (t:=t1) rfl];rfl)
   rw[putSet_of nj t2 (es:=dg) (ep:=ep+1) (t:=t1) rfl] at this;exact this
  refine bq (fin _ nj (ep+2) t2 ((u9 _ _ _).trans (u9 _ _ _)) hg2 Wb ?_);subst uL;exact⟨rfl,o2,by rw[Dz];exact o3,uK,l1,⟨e',e'3,Wa⟩,by rw[Dz];show dg.size*5<mk*3;lia⟩
end
noncomputable def zx(zs:Us):List (List Int×Addr):=zs.map λz=>(z.2,z.1)
noncomputable def zr(z:Addr×List Int):Value:=.ref z.1
section
variable{prog:Program}{w:World}{A:Around}{R:Result->Shared->Prop}{l I S:Addr}{led:Bool}{zs:Us}
theorem ahi(hh:A.handled=none)(hu:A.units+1<cLine)(h6:zs.length<6000)(nd:(zs.map (·.2)).Nodup)(hlI:l≠I)(Jw:S≠I)(hSl:S≠l)(zI:∀z∈zs,z.1≠I/\z.1≠S):∀(k i:Nat) (s:Shared) (es:Array (Int×Value)) (t:SetTable) (ep:Nat),i+k=zs.length->
  s.heap.IsListIter I l i->s.heap.IsList l (zs.map zr).toArray->s.heap.get? S=some (gS es ep t)->(∀z∈zs,je prog w s.heap z.2 z.1)->qL prog w led (zx (zs.take i)) es t->
  (∀h' tk es t ep,(∀b o,b≠S->b≠I->s.heap.get? b=some o->h'.get? b=some o)->h'.get? S=some (gS es ep t)->qL prog w led (zx zs) es t->R (.ok (.ret .none)) { s with heap:=h',toks:=tk })->
  codeAny (model prog w) A (.builtin "set.update.loop" ⟨[.ref S,.ref I],[]⟩) R s:=by
 have W:=Walks.list (prog:=prog) (w:=w) (A:=A.in1) hh I l hlI (zs.map zr).toArray;intro k
 induction k with
 | zero =>
  intro i s es t ep hi hit hl hS pK st hR;refine q8 F.entry_set_update_loop ?_;rw[xR E7 _]
  show wpAny _ A.in1 (pyNext (.ref I) >>= _) _ _ _;have gh:i=zs.length:=hi;subst gh;have hz:((zs.map zr).toArray).size=zs.length:=by simp
  refine aJ (W.done _ _ _ ⟨by rw[hz];exact hit,hl⟩ λh5 t5 k5=>?_)
  show wpAny _ A.in1 (ret Value.none) _ _ _;rw[c9] at st;exact bq (hR h5 t5 es t ep (λb o hb hI e=>k5 b o (by simpa using hI) e) (k5 S _ (by simpa using Jw) hS) st)
 | succ k ih =>
  intro i s es t ep hi hit hl hS pK st hR;have gh:i<zs.length:=by lia
  refine q8 F.entry_set_update_loop ?_;rw[xR E7 _]
  show wpAny _ A.in1 (pyNext (.ref I) >>= _) _ _ s;refine aJ (W.item i s _ _ (by simpa using gh) ⟨hit,hl⟩ λv h1 t1 hP pI k1=>?_)
  have evv:v = .ref zs[i].1:=by
   have:(zs.map zr)[i]? = some v:=by simpa using hP
   rw[jZ,bC gh] at this;exact(eN this).symm
  subst evv;have iz:=k1 S _ (by simpa using Jw) hS
  have DA:∀z∈zs,je prog w h1 z.2 z.1:=λz hz=>Jv (pK z hz) λo q=>k1 z.1 o (by simpa using(zI z hz).1) q
  show wpAny _ A.in1 (holding [Value.ref zs[i].1] (setAdd S (.ref zs[i].1)) >>= _) _ _ _;refine aJ (mS ?_);unfold setAdd;refine mS ?_;have hm:zs[i]∈zs:=cI gh;refine aJ (wpAny_pyHash_tuple (s:={ s with heap:=h1,toks:=t1 }) hu (DA _ hm) ?_);refine st.add hu iz (by unfold zx;rw[List.length_map,List.length_take];lia) (DA _ hm) (λy hy=>?_) (λy hy=>?_) λh2 dg Cj tb1 nN jA cy=>?_
  ·obtain⟨z,hz,rfl⟩:=dh.mp hy;exact DA z (oB hz)
  ·obtain⟨z,hz,rfl⟩:=dh.mp hy;obtain⟨j,hj,rfl⟩:=jh.mp hz;rw[Ff];rw[dH] at hj;intro e;have:=sQ.mp nd j i (by rw[aM];lia) (by rw[aM];lia) ∅
   rw[Bb,Bb] at this;exact this e
  have b7:h2.IsListIter I l (i+1)/\h2.IsList l (zs.map zr).toArray:=W.frame (i+1) h1 h2 pI λb hb o e=>(nN.2 b (λz=>by
   rw[z] at hb;rcases b_.mp hb with q | q
   ·exact Jw q
   ·exact hSl (fQ.mp q))).trans e
  refine bq ⟨plainId_quiet E7 _,?_⟩;refine ih (i+1) _ dg tb1 _ ∅ b7.1 b7.2 jA (λz hz=>Jv (DA z hz) λo q=>(nN.2 _ (zI z hz).2).trans q) ?_ λh' tk fO t' gX kp pA stf=>hR h' tk fO t' gX (λb o hb hI e=>kp b o hb hI ((nN.2 b hb).trans (k1 b o (by simpa using hI) e))) pA stf
  rw[take_succ_get (bC gh)];unfold zx;rw[bT];exact cy
end
section
variable{prog:Program}{w:World}{A:Around}{E:Value->Shared->Prop}{s:Shared}
theorem ahj{l:Addr}{zs:Us}{Q:Value->Shared->Prop}(hh:A.handled=none)(hu:A.units+16<cLine)(h6:zs.length<6000)(nd:(zs.map (·.2)).Nodup)(pK:∀z∈zs,je prog w s.heap z.2 z.1)(hl:s.heap.IsList l (zs.map zr).toArray)
  (h:∀(h':Heap) (tk:Nat) (es:Array (Int×Value)) (ep:Nat) (t:SetTable),h'.get? s.heap.objs.size=some (gS es ep t)->qL prog w (!jV w) (zx zs) es t->
   (∀b o,b<s.heap.objs.size->s.heap.get? b=some o->h'.get? b=some o)->Q (.ref s.heap.objs.size) { s with heap:=h',toks:=tk }) :
  wpAny (model prog w) A (call (.type "set") [.ref l]) Q E s:=by
 obtain⟨c,tl,apl⟩:=F.called_set.mro;have apm:=F.called_set.made;have ag2:=F.called_set.sub;refine wpAny_call (codeAny_of_tree ?_)
 show wpAny _ _ (callAny (.type "set") _) _ _ _;refine bq ⟨Code.quiet_builtin _ (by decide +kernel),q8 F.entry_type_call ?_⟩
 rw[Around.under_plain (weight_type_call_type "set" [.ref l] []) rfl];have h1:=F.called_set.notType;have h2:=F.called_set.canCreate;have hct:=F.typeCall_set_1 (.ref l)
 repeat (any_goals (first | assumption | wp_step))
 refine vC (ag1 (.ref l) (E:=E) (Q₁:=λobj bf=>obj = .ref s.heap.objs.size/\bf = { s with heap:=s.heap.push (gS #[] 0 (.fresh 0 0 (!jV w)))}) ⟨rfl,rfl⟩) λr bf hr=>?_;cases r with
 | error e=>exact hr
 | ok fl =>
  cases fl with
  | ret obj =>
   obtain⟨rfl,rfl⟩:=hr;have hS:(s.heap.push (gS #[] 0 (.fresh 0 0 (!jV w)))).get? s.heap.objs.size=some (gS #[] 0 (.fresh 0 0 (!jV w))):=fM _ rfl;have hT:Shared.TypeIs { s with heap:=s.heap.push (gS #[] 0 (.fresh 0 0 (!jV w)))} (.ref s.heap.objs.size) "set" := ⟨_,hS,rfl⟩;have Jx:=F.called_set.init.lookup;have hbi:=F.called_set.init.bind (.ref s.heap.objs.size)
   repeat (any_goals (first | assumption | wp_step))
   refine vC (codeAny_call_builtin (R:=wants (λr jo=>r = .none/\∃h' tk,jo = { s with heap:=h',toks:=tk }/\
     (∃es ep t,h'.get? s.heap.objs.size=some (gS es ep t)/\qL prog w (!jV w) (zx zs) es t)/\
     (∀b o,b<s.heap.objs.size->s.heap.get? b=some o->h'.get? b=some o)) E) F.called_set.init.plain F.entry_set_init (check_set_init_1 hT ?_)) λahk jo Jy=>?_
   ·obtain⟨ol,Wc,l6,nl,rZ⟩:=hl;obtain⟨apn,ahl,apo,ahm⟩:=ol;simp only at l6 rZ;subst l6;subst rZ;have ahn:(s.heap.push (gS #[] 0 (.fresh 0 0 (!jV w)))).get? l=some { cls:=.type "list",dict:=ahl,data:=.seq (zs.map zr).toArray nl,slots:=ahm }:=cK _ Wc;have apq:=F.sub_list_set;have apr:=F.sub_list_frozenset;have fV:(Value.type "list" == Value.type "dict")=false:=by decide
    have DB:(s.heap.push (gS #[] 0 (.fresh 0 0 (!jV w)))).IsList l (zs.map zr).toArray:=⟨_,ahn,rfl,nl,rfl⟩;unfold Builtin.«set.__init__» noKeywords Builtin.Frozenset.updateFrom;generalize hPI:pyIter=PI;wp_walk;subst hPI;refine FI DB ?_;refine aJ (wpAny_runValue ?_);have Wd:l<s.heap.objs.size:=cB Wc;have hh3:A.in1.in1.in1.handled=none:=by simp[hh]
    have hz:(s.heap.push (gS #[] 0 (.fresh 0 0 (!jV w)))).objs.size=s.heap.objs.size+1:=sN ..;have aho:l≠(s.heap.push (gS #[] 0 (.fresh 0 0 (!jV w)))).objs.size:=by rw[hz];exact cR (Fw Wd)
    have zlt:∀z∈zs,z.1≠(s.heap.push (gS #[] 0 (.fresh 0 0 (!jV w)))).objs.size/\z.1≠s.heap.objs.size:=λz hm=>by
     obtain⟨o,_,_,ho,_⟩:=pK z hm;have:=cB ho;rw[hz];exact⟨cR (Fw this),cR this⟩
    refine ahi (A:=A.in1.in1) (led := !jV w) (zs:=zs) (l:=l) (I:=(s.heap.push (gS #[] 0 (.fresh 0 0 (!jV w)))).objs.size) (S:=s.heap.objs.size) hh3 (by show A.units+1+1+1<cLine;lia) h6 nd aho (by rw[hz];exact cR (Bp _)) (oF Wd) zlt zs.length 0 _ #[] (.fresh 0 0 (!jV w)) 0 (qY _) ?_ ?_ ?_ ?_ ⟨ahg _,.refl _⟩ ?_
    ·exact⟨_,fM _ rfl,rfl,rfl⟩
    ·exact DB.push _
    ·exact cK _ hS
    ·exact λz hz=>Jv (pK z hz) λo q=>cK _ (cK _ q)
    intro h' tk' fO We gX k' pA Jz
    show wpAny _ _ _ _ _ _;refine bq ?_
    show wpAny _ _ (ret Value.none) _ _ _;refine bq ⟨rfl,h',tk',rfl,⟨fO,gX,We,pA,Jz⟩,λb o hb e=>?_⟩;exact k' b o (cR hb) (by rw[hz];exact cR (Fw hb)) (cK _ (cK _ e))
   ·cases ahk with
    | error e=>exact Jy
    | ok ahp =>
     cases ahp with
     | ret r =>
      obtain⟨rfl,h',tk,rfl,⟨fO,gX,We,pA,Jz⟩,gM⟩:=Jy
      repeat (any_goals (first | assumption | wp_step))
      exact h _ _ _ _ _ pA Jz gM
     | _=>exact Jy.elim
  | _=>exact hr.elim
end
section
variable{X:Cx}{pins:List (Addr×Obj)}{σ:St}{H:Hp}{s:Shared}
theorem Wf{prog:Program}{w:World}:∀ {ks:List Int} {aB:List Value},Vals (ks.map V.int) aB->ItemsAre (dN prog w) (ks.map (Sum.inl:Int->Key)) aB
 | [],_,.nil=>.nil
 | k::ks,_,.cons ⟨t,e⟩ r=>.cons (by rw[e];exact Rw k t) (Wf r)
theorem ahq(I:Inv X pins σ H s){a:Addr}{ks:List Int}(h:H a=some (.tup (ks.map V.int))):je X.prog X.w s.heap ks a:=by
 obtain⟨aB,r,⟨o,ho,hc,n,hd⟩,_⟩:=I.tuple (aL.of (K:=X.K) h);exact⟨o,aB.toArray,n,ho,hc,hd,Wf r⟩
end
section
variable{X:Cx}{e:Expr}{tl:TE}{p1 p2 p3 p4:Pos}
def Wg(K:W.Frag)(tl:TE):TE:=λσ H Q=>tl σ H λx H1=>∃(l:Addr) (zs:Us),x = .ref l/\az K H1 l (uV zs)/\nQ H1 zs/\(zs.map (·.2)).Nodup/\zs.length<6000/\Q (.int zs.length) H1
theorem ahr(IE:Gl X "len")(IF:X.mg "len" = none)(hgT:Gl X "set")(hmT:X.mg "set" = none)(hc:X.calm=true)(hu:X.A.units+16<cLine)(hl:PE X e tl)
  (hs:starEach [e] X.env = [(false,eval e X.env)]:=by rfl) (f_:starEach [.Call (.Name "set" p2) [e] [] p3] X.env = [(false,eval (.Call (.Name "set" p2) [e] [] p3) X.env)]:=by rfl) :
  PE X (.Call (.Name "len" p1) [.Call (.Name "set" p2) [e] [] p3] [] p4) (Wg X.K tl):=by
 intro pins s σ H Q I h;refine vD (oM I IE IF (show bootBuiltins "len" = some (.builtin "len") by decide +kernel) (Rr ?_ (by rw[f_];rfl) (by rfl)))
 rw[f_];refine AY ?_
 let R:List V->Hp->Prop:=λvs H1=>match vs with
  | [x]=>∃(l:Addr) (zs:Us),x = .ref l/\az X.K H1 l (uV zs)/\nQ H1 zs/\(zs.map (·.2)).Nodup/\zs.length<6000/\Q (.int zs.length) H1
  | _=>False
 have h':B0 tl yD σ H R:=h;refine Call_ (oM I hgT hmT (show bootBuiltins "set" = some (.type "set") by decide +kernel) (vt (aW ((ah hl au (hs:=hs)) p3 pins s σ H R I h') λus s1 ⟨vs,H1,I1,r1,q1⟩=>?_) (by rw[hs];rfl) (by rfl)))
 cases r1 with
 | nil=>exact q1.elim
 | cons ru r1 =>
 cases r1 with
 | cons _ _=>exact q1.elim
 | nil =>
 obtain⟨l,zs,rfl,hq,hz,nd,h6,q⟩:=q1;cases ru;obtain⟨aB,rv,pl,_⟩:=I1.list hq;have e:=UO rv;subst e;have hh:=I1.ok.hd hc;refine ahj hh hu h6 nd (λz hm=>ahq I1 (hz z hm)) pl.isList λh2 t2 es ep tb jA b7 k2=>AZ ?_;have kp2:∀b o,s1.heap.get? b=some o->h2.get? b=some o:=λb o e=>k2 b o (cB e) e;have hsz:es.size=zs.length:=by rw[b7.size];unfold zx;rw[List.length_map]
 refine call_len_set (s:={ s1 with heap:=h2,toks:=t2 }) jA ⟨rfl,rfl,rfl⟩ rfl b7.1.fits (by rw[hsz];lia) ?_
 rw[hsz];exact⟨.int zs.length,H1,(I1.kept (t':=t2+1+1) kp2),⟨_,rfl⟩,q⟩
end
theorem ahs{X:Cx}(hu:X.A.units+16<cLine):cC X (compareOp .NotEq) (λx y H Q=>∃a b xs,x = .ref a/\y = .ref b/\az X.K H a xs/\az X.K H b []/\xs≠[]/\Q (.bl true) H):=by
 rintro pins s σ H x y v u Q I rx ry ⟨a,b,xs,rfl,rfl,ha,hb,ne,q⟩;cases rx;cases ry;obtain⟨aB,r1,p1,z1⟩:=I.list ha;obtain⟨gc,r2,p2,z2⟩:=I.list hb;cases r2;cases r1 with
 | nil=>exact absurd rfl ne
 | cons r t =>
  have fin:=SeqAt.RcNeAt.lists_lengths (A:=X.A) (s:=s) p1.isList p2.isList (by simp) ∅
  exact fin X.prog X.w _ _ ⟨.bl true,H,I,rfl,q⟩
def Apart(us:List Nd):Prop:=us.Pairwise λu v=>¬ u.2.2.1 <+: v.2.2.1/\¬ v.2.2.1 <+: u.2.2.1
theorem Apart.perm{us vs:List Nd}(p:us.Perm vs)(h:Apart us):Apart vs:=p.pairwise h (λh=>⟨h.2,h.1⟩)
theorem Wh{a b:List Int}{n:Int}(h:a <+: b++[n]):a <+: b\/a=b++[n]:=by
 rcases Fp.mp h with h | h
 ·exact .inr h
 ·exact .inl h
theorem Apart.step{P:Pl}{ds:List Dr}(nd:(ds.map (·.n)).Nodup){bg:List Int}{st:Int×Int}{hp:List Nd}(h:Apart (dw P ds bg st::hp)):Apart (uE P ds bg st++hp):=by
 obtain⟨h1,h2⟩:=Bm.mp h;refine List.pairwise_append.mpr ⟨?_,h2,λu hu v hv=>?_⟩
 ·refine p9.mpr ?_;have hn:(g9 ds bg).Pairwise λa b=>a.n≠b.n:=by
   have:ds.Pairwise λa b=>a.n≠b.n:=List.pairwise_map.mp nd;exact this.sublist ((xU (l:=bR ds bg)).trans (xU (l:=ds)))
  refine hn.imp λ{a b} ne=>⟨λz=>?_,λz=>?_⟩
  ·have z:bg++[a.n] <+: bg++[b.n]:=z;have:=Rp bg |>.mp z
   have:=this.eq_of_length rfl;exact ne (by simpa using this)
  ·have z:bg++[b.n] <+: bg++[a.n]:=z;have:=Rp bg |>.mp z
   have:=this.eq_of_length rfl;exact ne (by simpa using this.symm)
 ·obtain⟨d,_,rfl⟩:=dh.mp hu;have a:=h1 v hv;have a1:¬ bg <+: v.2.2.1:=a.1;have a2:¬ v.2.2.1 <+: bg:=a.2;refine⟨λz=>?_,λz=>?_⟩
  ·have z:bg++[d.n] <+: v.2.2.1:=z;exact a1 ((Fo _ _).trans z)
  ·have z:v.2.2.1 <+: bg++[d.n]:=z;rcases Wh z with z | z
   ·exact a2 z
   ·exact a1 (by rw[z];exact Fo _ _)
noncomputable def jf(us:List Nd)(bg:List Int):Nat:=(us.map λu=>if bg <+: u.2.2.1 then 1 else 0).sum
theorem zH{α:Type}{f:α->Nat}:∀ {l:List α},(∀x∈l,f x=0)->(l.map f).sum=0
 | [],_=>rfl
 | x::l,h=>by rw[cH,qa,h x (b8 ..),zH λy hy=>h y (bU _ hy)]
theorem Wi{α:Type}{f:α->Nat}{m:α}:∀ {l:List α},l.Nodup->m∈l->f m=1->(∀x∈l,x≠m->f x=0)->(l.map f).sum=1
 | [],_,h,_,_=>nomatch h
 | x::l,nd,hm,h1,h0=>by
  obtain⟨n1,n2⟩:=kN.mp nd;rw[cH,qa];rcases b_.mp hm with e | e
  ·subst e;rw[h1,zH λy hy=>h0 y (bU _ hy) λz=>n1 (z▸hy)]
  ·have ne:x≠m:=λz=>n1 (z▸e);rw[h0 x (b8 ..) ne,Wi n2 e h1 λy hy=>h0 y (bU _ hy)]
theorem sum_add{α:Type}{f g:α->Nat}:∀ {l:List α},(l.map λx=>f x+g x).sum=(l.map f).sum+(l.map g).sum
 | []=>rfl
 | x::l=>by simp only[List.map_cons,List.sum_cons];rw[sum_add (l:=l)];lia
theorem Wj{ms:List Int}(nd:ms.Nodup){bg:List Int}:∀ {us:List Nd},(∀u∈us,bg <+: u.2.2.1->∃m∈ms,bg++[m] <+: u.2.2.1)->jf us bg=(ms.map λm=>jf us (bg++[m])).sum
 | [],_=>(zH λm _=>show jf [] (bg++[m])=0 from rfl).symm
 | u::us,h=>by
  have ih:=Wj nd (us:=us) λv hv=>h v (bU _ hv);have e:∀c,jf (u::us) c=(if c <+: u.2.2.1 then 1 else 0)+jf us c:=λc=>by simp[jf]
  have e2:(ms.map λm=>jf (u::us) (bg++[m]))=ms.map λm=>(if bg++[m] <+: u.2.2.1 then 1 else 0)+jf us (bg++[m]):=vh λm _=>e _
  rw[e,ih,e2,sum_add];congr 1;by_cases hb:bg <+: u.2.2.1
  ·obtain⟨m,hm,hp⟩:=h u (b8 ..) hb;rw[if_pos hb];refine(Wi nd hm (if_pos hp) λx _ ne=>if_neg λz=>ne ?_).symm;obtain⟨r1,e1⟩:=hp;obtain⟨r2,e2⟩:=z;rw[← e1,pY,pY] at e2;have:=List.append_cancel_left e2;simpa using(List.cons.inj this).1
  ·rw[if_neg hb];exact(zH λx _=>if_neg λz=>hb ((Fo _ _).trans z)).symm
theorem Wk{us:List Nd}(ap:Apart us){u:Nd}(hu:u∈us):jf us u.2.2.1=1:=by
 unfold jf
 induction us with
 | nil=>exact nomatch hu
 | cons v us ih =>
  obtain⟨h1,h2⟩:=Bm.mp ap;rw[cH,qa];rcases b_.mp hu with e | e
  ·subst e;rw[if_pos (List.prefix_refl _),zH λw hw=>if_neg (h1 w hw).1]
  ·rw[if_neg (h1 u e).2,ih h2 e]
theorem aht{us:List Nd}:jf us [] = us.length:=by
 unfold jf
 induction us with
 | nil=>rfl
 | cons v us ih=>rw[cH,qa,if_pos Fl,ih,dR];lia
theorem Wl{P:Pl}{ds:List Dr}(nd:(ds.map (·.n)).Nodup){s:Int×Int}{t:Nd}{hp:List Nd}(I:jU P ds s t hp){bg:List Int}{st:Int×Int}(hr:Reach P ds s bg st)(hb:∀u∈t::hp,u.2.2.1 <+: bg->u.2.2.1=bg)(nb:∀u∈t::hp,u.2.2.1≠bg) :
  bR ds bg≠[]/\(∀u∈t::hp,bg <+: u.2.2.1->∃d∈g9 ds bg,bg++[d.n] <+: u.2.2.1)/\∀n,∀u∈t::hp,u.2.2.1 <+: bg++[n]->u.2.2.1=bg++[n]:=by
 refine⟨λz=>?_,λu hu jT=>?_,λn u hu jT=>?_⟩
 ·obtain⟨u,hu,h⟩:=I.Jm bg st hr z;exact nb u hu (hb u hu h)
 ·obtain⟨Jo,b7,uF,rfl⟩:=I.nd u hu;have jT:bg <+: Jo:=jT;obtain⟨r,e⟩:=jT;cases r with
  | nil=>exact absurd (by rw[← e];simp[dw]) (nb _ hu)
  | cons x r =>
   have hx:bg++[x] <+: Jo:=by rw[← e];exact⟨r,by simp⟩
   obtain⟨vO,zJ,_⟩:=uF.pre hx;obtain⟨d,hd,en,_⟩:=zJ.last nd hr;exact⟨d,hd,by rw[en];exact hx⟩
 ·rcases Wh jT with h | h
  ·exact absurd (hb u hu h) (nb u hu)
  ·exact h
noncomputable def zK(ks:List Kn)(ws:List (List Int)):Nat->List Int->Prop
 | 0,bg=>bg∈ws
 | n+1,bg=>bg∈ws\/(eK ks bg≠[]/\∀m∈jR (eK ks bg),zK ks ws n (bg++[m]))
noncomputable def nY(ks:List Kn)(ws:List (List Int)):Nat->List Int->Nat
 | 0,_=>1
 | n+1,bg=>if bg∈ws then 1 else((jR (eK ks bg)).map λm=>nY ks ws n (bg++[m])).sum
noncomputable def zL:Nat->Nat
 | 0=>1
 | n+1=>(n+1)*zL n
theorem Wm:∀n,1<=zL n
 | 0=>bu _
 | n+1=>cQ (Wm n) (Nat.le_mul_of_pos_left _ (Nat.succ_pos n))
theorem Wn{α:Type}{f:α->Nat}{B:Nat}:∀ {l:List α},(∀x∈l,f x<=B)->(l.map f).sum<=l.length*B
 | [],_=>by simp
 | x::l,h=>by
  rw[cH,qa,dR,Nat.succ_mul];have a:=h x (b8 ..);have b:=Wn (l:=l) λy hy=>h y (bU _ hy);lia
theorem Wo(ks:List Kn):(jR ks).Sublist (ks.map (·.n)):=E9 _ xU
theorem ahu{ks:List Kn}(up:ks.Pairwise λa b=>a.n<b.n):(ks.map (·.n)).Nodup:=p9.mpr (up.imp λh=>by lia)
theorem ahv{P:Pl}{ks:List Kn}{ds:List Dr}(kd:Kd ks ds){s:Int×Int}{t:Nd}{hp:List Nd}(I:jU P ds s t hp)(ap:Apart (t::hp)):∀(n:Nat) {bg:List Int} {st:Int×Int},Reach P ds s bg st->(∀u∈t::hp,u.2.2.1 <+: bg->u.2.2.1=bg)->(bR ds bg).length<=n->
  zK ks ((t::hp).map (·.2.2.1)) n bg/\nY ks ((t::hp).map (·.2.2.1)) n bg=jf (t::hp) bg/\jf (t::hp) bg<=zL n:=by
 intro n
 induction n with
 | zero =>
  intro bg st hr hb hl;by_cases c:bg∈(t::hp).map (·.2.2.1)
  ·obtain⟨u,hu,rfl⟩:=dh.mp c;have:=Wk ap hu;exact⟨c,this.symm,Bo this⟩
  ·exact absurd (Fg.mp (Nat.le_zero.mp hl)) (Wl kd.nd I hr hb λu hu z=>c (dh.mpr ⟨u,hu,z⟩)).1
 | succ n ih =>
  intro bg st hr hb hl;by_cases c:bg∈(t::hp).map (·.2.2.1)
  ·obtain⟨u,hu,rfl⟩:=dh.mp c;have:=Wk ap hu;refine⟨.inl c,?_,this.symm▸Wm _⟩
   show (if _ then _ else _)=_
   rw[if_pos c,this]
  ·obtain⟨c1,c2,c3⟩:=Wl kd.nd I hr hb λu hu z=>c (dh.mpr ⟨u,hu,z⟩);have each:∀m∈jR (eK ks bg),zK ks ((t::hp).map (·.2.2.1)) n (bg++[m])/\nY ks ((t::hp).map (·.2.2.1)) n (bg++[m])=jf (t::hp) (bg++[m])/\jf (t::hp) (bg++[m])<=zL n:=λm hm=>by
    obtain⟨d,hd,rfl⟩:=kd.free.mp hm;have:=Jk kd.nd (Dd hd);exact ih (hr.snoc hd) (c3 d.n) ∅
   have nd:(jR (eK ks bg)).Nodup:=(Wo _).nodup ((E9 _ xU).nodup (ahu kd.up));have sp:=Wj nd (bg:=bg) (us:=t::hp) λu hu wk=>by
    obtain⟨d,hd,h⟩:=c2 u hu wk;exact⟨d.n,kd.free.mpr ⟨d,hd,rfl⟩,h⟩
   refine⟨.inr ⟨λz=>c1 (kd.left.mpr z),λm hm=>(each m hm).1⟩,?_,?_⟩
   ·show (if _ then _ else _)=_
    rw[if_neg c,sp];exact fR List.sum (vh λm hm=>(each m hm).2.1)
   ·rw[sp];have a:=Wn (f:=λm=>jf (t::hp) (bg++[m])) (B:=zL n) λm hm=>(each m hm).2.2;have l1:(jR (eK ks bg)).length<=n+1:=by
     have:=(Wo (eK ks bg)).length_le;rw[aM,kd.agI] at this;lia
    exact cQ a (Nat.mul_le_mul_right _ l1)
theorem ahw{α:Type}(f:α->Nat)(l:List α)(k:Nat):((l.take k).map f).sum<=(l.map f).sum:=by
 have e:(l.map f).sum=((l.take k).map f).sum+((l.drop k).map f).sum:=by rw[← xW,← bT,vo]
 lia
theorem ahx{ks:List Kn}{ws:List (List Int)}{bg:List Int}:∀n,bg∈ws->nY ks ws n bg=1
 | 0,_=>rfl
 | n+1,h=>if_pos h
theorem Apart.nodup{us:List Nd}(h:Apart us):(us.map (·.2.2.1)).Nodup:=p9.mpr (A7 (λ{u v} h (z:u.2.2.1=v.2.2.1)=>h.1 (by rw[z];exact List.prefix_refl _)) h)
theorem ahy{P:Pl}{ks:List Kn}{ds:List Dr}(kd:Kd ks ds)(n7:ks.length<=7){s:Int×Int}{t:Nd}{hp:List Nd}(I:jU P ds s t hp)(ap:Apart (t::hp)):zK ks ((t::hp).map (·.2.2.1)) 7 []/\nY ks ((t::hp).map (·.2.2.1)) 7 [] = (t::hp).length/\(t::hp).length<=5040:=by
 have h:=ahv kd I ap 7 (bg:=[]) .nil (λu _ z=>Fq.mp z) (by rw[Dc,kd.n];exact n7)
 rw[aht] at h;exact h
theorem Kd.ahz{ks:List Kn}{ds:List Dr}(h:Kd ks ds)(bg:List Int):(bR ds bg).map (·.c)=(eK ks bg).map (·.c):=by
 have e:ds.map (λd=>(d.n,d.c))=ks.map (λk=>(k.n,k.c)):=Vb h.n λi d k e1 e2=>by
  obtain⟨a,b⟩:=h.e i k d e2 e1;rw[a,b]
 have l:(bR ds bg).map (·.c)=((ds.map λd=>(d.n,d.c)).filter λx => !decide (x.1∈bg)).map (·.2):=by
  rw[List.filter_map,oA];rfl
 have r:(eK ks bg).map (·.c)=((ks.map λk=>(k.n,k.c)).filter λx => !decide (x.1∈bg)).map (·.2):=by
  rw[List.filter_map,oA];rfl
 rw[l,r,e]
theorem jU.ahA{P:Pl}{ds:List Dr}{s:Int×Int}{t:Nd}{hp:List Nd}(I:jU P ds s t hp){u:Nd}(h:u∈t::hp):t.1<=u.1:=by
 rcases b_.mp h with rfl | h
 ·exact kL _
 ·exact VL (I.low u h)
theorem zF.same{H H':Hp}{l:Addr}{cO:List Addr}{us:List Nd}(h:zF H l cO us)(s:aj H H'):zF H' l cO us :=
 ⟨s _ _ h.l,h.n,λi a u e1 e2=>let ⟨p,h1,h2⟩:=h.t i a u e1 e2;⟨p,s _ _ h1,s _ _ h2⟩⟩
def Wq(a:Addr)(H H':Hp):Prop:=∀b o,b≠a->H b=some o->H' b=some o
def ahB(K:W.Frag)(cs:List Addr)(CA CD:Addr):Sp:=λvs H Q _=>∃(C p l:Addr) (P:Pl) (fp:List Addr) (r b:Int) (ps:List Addr) (ds:List Dr),vs = [.ref p,.int r,.int b,.ref l]/\C∈cs/\cW K C H p P fp/\fJ P/\0<=r/\r<P.rc.length/\jw K CA CD H l ps ds/\ds.length<=7/\(ds.map (·.n)).Nodup/\(∀d∈ds,iJ P d.c/\d.c.length<=1000)/\
 ∀(u pb lv:Addr) (cO:List Addr) (t:Nd) (hp:List Nd) (H':Hp),aj H H'->H lv=none->H' u=some (.tup [.ref pb,.int t.1,.ref lv])->H' pb=some (.tup (t.2.2.1.map V.int))->zF H' lv cO (t::hp)->jU P ds (r,b) t hp->Apart (t::hp)->t.2.1<=0->Q (.ref u) H'
def ahC:Sp:=λvs H Q _=>∃(lv:Addr) (cO:List Addr) (us:List Nd),vs = [.ref lv]/\zF H lv cO us/\us.length<=5040/\(us.map (·.2.2.1)).Nodup/\∀H',aj H H'->Q (.bl true) H'
def Wr(K:W.Frag)(m:Nat):Sp:=λvs H Q _=>∃(kl pb ea ma:Addr) (b9:List Addr) (ks:List Kn) (bg:List Int) (zs:Us) (ys:List V) (H0:Hp) (n:Nat),vs = [.ref kl,.ref pb,.ref ea,.ref ma]/\n<m/\aj H0 H/\H0 ma=none/\fW H0 kl b9 ks/\ks.length<=7/\ks.Pairwise (λa b=>a.n<b.n)/\H pb=some (.tup (bg.map V.int))/\bg.length+n<=7/\H ea=some (.lst (uV zs))/\zs.length<=5040/\nQ H zs/\ea≠ma/\H ma=some (.lst ys)/\ys.length+nY ks (zs.map (·.2)) n bg<=5040/\zK ks (zs.map (·.2)) n bg/\
 ∀(H':Hp) (iy:List V),Wq ma H H'->H' ma=some (.lst iy)->iy.length=ys.length+nY ks (zs.map (·.2)) n bg->Q (.bl true) H'
def ahD(K:W.Frag):Sp:=λvs H Q _=>∃(t:Addr) (z:List (Int×Int)) (ao sk:Int) (sw:List Int) (za:Addr) (bA:List Addr) (ca sa:Addr) (sp:Addr) (r b:Int) (kl:Addr) (b9:List Addr) (ks:List Kn),vs = [.ref t,.ref sp,.ref kl]/\H sp=some (.tup [.int r,.int b])/\
 i9 H t z ao sk sw za bA ca sa/\i_ z ao sk sw/\0<=r/\r<(counts z).length/\fW H kl b9 ks/\(∀k∈ks,iJ (bN z ao sk sw []) k.c/\k.c.length<=1000)/\
 ∀H',aj H H'->Q (.int (kF (bN z ao sk sw []) r b (ks.map (·.c)))) H'
def xq(i:Nat):TE:=λσ H Q=>match σ[i]? with
 | some (some v)=>Q v H
 | _=>False
def mI(g:Int->Int->V):R2:=λx y H Q=>match x,y with
 | .int i,.int j=>Q (g i j) H
 | _,_=>False
def r_(C:Int->Int->Prop)(g:Int->Int->V):R2:=λx y H Q=>match x,y with
 | .int i,.int j=>C i j/\Q (g i j) H
 | _,_=>False
def onR(x:V)(k:Addr->Prop):Prop:=match x with
 | .ref a=>k a
 | _=>False
def uM(K:W.Frag)(o:Option HO)(f:Str)(k:V->Prop):Prop:=match o with
 | some (.ins C _ fs)=>(dI K C/\cj K C f)/\match fs.lookup f with
  | some v=>k v
  | none=>False
 | _=>False
def setM(K:W.Frag)(o:Option HO)(f:Str)(k:Addr->Addr->List (Str×V)->Prop):Prop:=match o with
 | some (.ins C dx fs)=>(dI K C/\cj K C f/\fs.length<1000)/\k C dx fs
 | _=>False
theorem ahE{K:W.Frag}{C dx:Addr}{fs:List (Str×V)}{f:Str}{k:V->Prop}(c:dI K C)(n:cj K C f):uM K (some (.ins C dx fs)) f k=match fs.lookup f with
  | some v=>k v
  | none=>False:=propext ⟨λh=>h.2,λh=>⟨⟨c,n⟩,h⟩⟩
theorem ahF{K:W.Frag}{C dx:Addr}{fs:List (Str×V)}{f:Str}{k:Addr->Addr->List (Str×V)->Prop}(c:dI K C)(n:cj K C f)(l:fs.length<1000):setM K (some (.ins C dx fs)) f k=k C dx fs :=
 propext ⟨λh=>h.2,λh=>⟨⟨c,n,l⟩,h⟩⟩
theorem uM.o{K:W.Frag}{o:Option HO}{f:Str}{k:V->Prop}(h:uM K o f k):∃C dx fs v,o=some (.ins C dx fs)/\dI K C/\cj K C f/\fs.lookup f=some v/\k v:=by
 unfold uM at h;split at h
 ·obtain⟨⟨c,n⟩,h⟩:=h;split at h
  ·exact⟨_,_,_,_,rfl,c,n,by assumption,h⟩
  ·exact h.elim
 ·exact h.elim
theorem setM.o{K:W.Frag}{o:Option HO}{f:Str}{k:Addr->Addr->List (Str×V)->Prop}(h:setM K o f k):∃C dx fs,o=some (.ins C dx fs)/\dI K C/\cj K C f/\fs.length<1000/\k C dx fs:=by
 unfold setM at h;split at h
 ·exact⟨_,_,_,rfl,h.1.1,h.1.2.1,h.1.2.2,h.2⟩
 ·exact h.elim
section
variable{X:Cx}
theorem PE.mn{e:Expr}{t t':TE}(h:PE X e t)(m:∀σ H Q,t' σ H Q->t σ H Q):PE X e t':=λpins s σ H Q I q=>h pins s σ H Q I (m _ _ _ q)
theorem cC.mn{f:Value->Value->Sem Value}{r r':R2}(h:cC X f r)(m:∀x y H Q,r' x y H Q->r x y H Q):cC X f r':=λpins s σ H x y v u Q I rx ry q=>h pins s σ H x y v u Q I rx ry (m _ _ _ _ q)
theorem xq.o{i:Nat}{σ:St}{H:Hp}{Q:VK}(h:xq i σ H Q):∃v,σ[i]? = some (some v)/\Q v H:=by
 unfold xq at h;split at h
 ·exact⟨_,by assumption,h⟩
 ·exact h.elim
theorem aa(i:Nat){x:Str}{pos:Pos}(hN:X.N[i]? = some x:=by rfl)(hv:BK X.env.scope x:=by first | exact Or.inl rfl | exact Or.inr OL_ | exact Or.inr (Or.inr rfl))(hd:(x == ("__debug__" : Str))=false:=by decide)
  (fZ:(x == ("__classdict__" : Str))=false:=by decide):PE X (.Name x pos) (xq i):=(RQ hN hv hd fZ).mn λ_ _ _ h=>h.o
theorem mI.o{g:Int->Int->V}{x y:V}{H:Hp}{Q:VK}(h:mI g x y H Q):jI g x y H Q:=by
 unfold mI at h;split at h
 ·exact⟨_,_,rfl,rfl,h⟩
 ·exact h.elim
theorem r_.o{C:Int->Int->Prop}{g:Int->Int->V}{x y:V}{H:Hp}{Q:VK}(h:r_ C g x y H Q):rI C g x y H Q:=by
 unfold r_ at h;split at h
 ·exact⟨_,_,rfl,rfl,h⟩
 ·exact h.elim
theorem d8:cC X (binaryOp .Add) (mI λi j=>.int (i+j)):=dW.mn λ_ _ _ _ h=>h.o
theorem nZ:cC X (binaryOp .Sub) (mI λi j=>.int (i - j)):=oR.mn λ_ _ _ _ h=>h.o
theorem mj:cC X (binaryOp .Mult) (r_ yz λi j=>.int (i*j)):=vQ.mn λ_ _ _ _ h=>h.o
theorem kG:cC X (binaryOp .FloorDiv) (r_ Gx λi j=>.int (i / j)):=tM.mn λ_ _ _ _ h=>h.o
theorem gu:cC X (binaryOp .Mod) (r_ (λ_ j=>0<j) λi j=>.int (i % j)):=cS.mn λ_ _ _ _ h=>h.o
def c0:Int->Int->Prop->Prop:=λi j k=>k
section
variable{f:Value->Value->Sem Value}{C:Int->Int->Prop}{c:Int->Int->Prop->Prop}{g:Int->Int->V}
end
def JA(p:Int->Int->Prop)[∀i j,Decidable (p i j)](ta tb:TE):TT:=λσ H Q=>ta σ H λx H1=>tb σ H1 λy H2=>match x,y with
 | .int i,.int j=>if p i j then Q true H2 else Q false H2
 | _,_=>False
theorem ahG{p:Int->Int->Prop}[∀i j,Decidable (p i j)]{x y:V}{H:Hp}{Q:Bool->Hp->Prop} (h:match x,y with
 | .int i,.int j=>if p i j then Q true H else Q false H
 | _,_=>False):jI (λi j=>.bl (decide (p i j))) x y H λz H'=>∃k,z = .bl k/\Q k H':=by
 split at h
 ·refine⟨_,_,rfl,rfl,_,rfl,?_⟩;split at h
  ·rw[kO (by assumption)];exact h
  ·rw[j9 (by assumption)];exact h
 ·exact h.elim
theorem eE{op:CmpOp}{a b:Expr}{pos:Pos}{ta tb:TE}{p:Int->Int->Prop}[∀i j,Decidable (p i j)](ho:cC X (compareOp op) (jI λi j=>.bl (decide (p i j))))(ha:PE X a ta)(hb:PE X b tb)(hm:behindInMarks op b=false):PT X (.Compare a [op] [b] pos) (JA p ta tb):=by
 intro pins s σ H Q I h;refine FH (aW (ha pins s σ H _ I h) λv s1 ⟨x,H1,I1,r1,q1⟩=>aW (hb pins s1 σ H1 _ I1 q1) λu s2 ⟨y,H2,I2,r2,q2⟩ =>
  aW (ho pins s2 σ H2 x y v u _ I2 r1 r2 (ahG q2)) λc s3 ⟨z,H3,I3,r3,zz⟩=>?_) hm
 obtain⟨k,e,q3⟩:=zz;subst e;cases r3;exact qd ⟨H3,I3,q3⟩
theorem JB:cC X (compareOp .Eq) (jI λi j=>.bl (decide (i=j))):=λpins s σ H x y v u Q I rx ry ⟨i,j,e1,e2,q⟩=>by
 subst e1 e2;exact lN pins s σ H _ _ v u Q I rx ry ⟨rfl,by simpa only[V.int.injEq] using q⟩
theorem zM:cC X (compareOp .NotEq) (jI λi j=>.bl (decide (¬ i=j))):=λpins s σ H x y v u Q I rx ry ⟨i,j,e1,e2,q⟩=>by
 subst e1 e2;exact vR pins s σ H _ _ v u Q I rx ry ⟨rfl,by simpa only[V.int.injEq,decide_not] using q⟩
def JC(c:TT)(t u:TS):TS:=λD σ H=>c σ H λb H1=>match b with
 | true=>t D σ H1
 | false=>u D σ H1
theorem jW{c:Expr}{a b:List Stmt}{tc:TT}{t u:TS}{pos:Pos}(hc:PT X c tc)(ha:h_ X a t)(hb:h_ X b u):PS X (.If c a b pos) (JC tc t u):=by
 intro pins s σ H D I h;refine wpAny_If (aW (hc pins s σ H _ I h) λd s1 ⟨H1,I1,q1⟩=>?_);cases d with
 | true=>exact ha pins s1 σ H1 D I1 q1
 | false=>exact hb pins s1 σ H1 D I1 q1
def zN(t u:TT):TT:=λσ H Q=>t σ H λc H1=>match c with
 | true=>Q true H1
 | false=>u σ H1 Q
def Ws(t u:TT):TT:=λσ H Q=>t σ H λc H1=>match c with
 | true=>u σ H1 Q
 | false=>Q false H1
theorem ofM{b:Bool}{x y:Prop}:(if b=true then x else y)=(match b with
 | true=>x
 | false=>y):=by cases b <;> simp
theorem ahH{t u:TT}:vM t u=zN t u:=by
 funext σ H Q
 unfold vM zN;congr 1;funext c H1;exact ofM
theorem qM{a:Expr}{bs:List Expr}{tA tB:TT}{pos:Pos}(h:PW X (.BoolOp .Or (a::bs) pos) (vM tA tB)):PW X (.BoolOp .Or (a::bs) pos) (zN tA tB):=ahH▸h
def DC(K:W.Frag):List V->Hp->VK->Prop:=λxs H Q=>match xs with
 | [.ref p]=>∃ys,(az K H p ys\/aL K H p ys)/\Q (.int ys.length) H
 | _=>False
theorem eT:gY X (.builtin "len") (DC X.K):=λpins s σ H xs us Q I r h=>by
 unfold DC at h;split at h
 ·obtain⟨ys,hq,q⟩:=h;exact Ca pins s σ H _ us Q I r ⟨_,ys,rfl,hq,q⟩
 ·exact h.elim
def uN(K:W.Frag):R2:=λx y H Q=>match x,y with
 | .ref p,.int i=>∃xs,az K H p xs/\∃v,fq xs i=some v/\Q v H
 | _,_=>False
def uO(K:W.Frag):R2:=λx y H Q=>match x,y with
 | .ref p,.int i=>∃xs,aL K H p xs/\∃v,fq xs i=some v/\Q v H
 | _,_=>False
theorem lP.mn{r r':R2}(h:lP X r)(m:∀x y H Q,r' x y H Q->r x y H Q):lP X r':=λvalue slice pins s σ H x y v u Q I rx ry q hs=>h value slice pins s σ H x y v u Q I rx ry (m _ _ _ _ q) hs
theorem uN.o{K:W.Frag}{x y:V}{H:Hp}{Q:VK}(h:uN K x y H Q):yG K x y H Q:=by
 unfold uN at h;split at h
 ·obtain⟨xs,hx,w,hw,q⟩:=h;exact⟨_,xs,_,w,rfl,rfl,hx,hw,q⟩
 ·exact h.elim
theorem uO.o{K:W.Frag}{x y:V}{H:Hp}{Q:VK}(h:uO K x y H Q):yH K x y H Q:=by
 unfold uO at h;split at h
 ·obtain⟨xs,hx,w,hw,q⟩:=h;exact⟨_,xs,_,w,rfl,rfl,hx,hw,q⟩
 ·exact h.elim
theorem bV:lP X (uN X.K):=oW.mn λ_ _ _ _ h=>h.o
theorem bJ:lP X (uO X.K):=tW.mn λ_ _ _ _ h=>h.o
theorem JD{K:W.Frag}(h:X.K=K):lP X (uN K):=h▸bV
theorem kH{K:W.Frag}(h:X.K=K):lP X (uO K):=h▸bJ
def DE(K:W.Frag)(ta:TE)(f:Str):TE:=λσ H Q=>ta σ H λx H1=>match x with
 | .ref a=>uM K (H1 a) f λv=>Q v H1
 | _=>False
def JE(K:W.Frag)(ta tv:TE)(f:Str):TS:=λD σ H=>tv σ H λy H1=>ta σ H1 λx H2=>match x with
 | .ref a=>setM K (H2 a) f λC dx fs=>D.nx σ (upd H2 a (.ins C dx (gI f y fs)))
 | _=>False
theorem ahI{K:W.Frag}{f:Str}{x:V}{H:Hp}{Q:VK} (h:match x with
 | .ref a=>uM K (H a) f λv=>Q v H
 | _=>False):∃a C dx fs v,x = .ref a/\H a=some (.ins C dx fs)/\dI K C/\cj K C f/\fs.lookup f=some v/\Q v H:=by
 split at h
 ·obtain⟨C,dx,fs,v,e⟩:=h.o;exact⟨_,C,dx,fs,v,rfl,e⟩
 ·exact h.elim
theorem ahJ{K:W.Frag}{f:Str}{x:V}{H:Hp}{k:Addr->Addr->Addr->List (Str×V)->Prop} (h:match x with
 | .ref a=>setM K (H a) f (k a)
 | _=>False):∃a C dx fs,x = .ref a/\H a=some (.ins C dx fs)/\dI K C/\cj K C f/\fs.length<1000/\k a C dx fs:=by
 split at h
 ·obtain⟨C,dx,fs,e⟩:=h.o;exact⟨_,C,dx,fs,rfl,e⟩
 ·exact h.elim
variable{o e value:Expr}{f:Str}{pos pos':Pos}{ta tv:TE}
theorem cD(he:PE X e ta)(hb:attributeBase e f X.env (eval e X.env)=eval e X.env):PE X (.Attribute e f pos) (DE X.K ta f):=by
 intro pins s σ H Q I h;refine Sg hb (aW (he pins s σ H _ I h) λu s1 ⟨x,H1,I1,rx,q⟩=>?_);obtain⟨a,C,dx,fs,v,ex,ea,c,n,l,q1⟩:=ahI q;subst ex;obtain rfl:u=Value.ref a:=rx;exact Sd I1 ea c n l λu' s2 I2 ru=>⟨v,H1,I2,ru,q1⟩
theorem JF{K:W.Frag}(h:X.K=K)(he:PE X e ta)(hb:attributeBase e f X.env (eval e X.env)=eval e X.env):PE X (.Attribute e f pos) (DE K ta f):=h▸cD he hb
theorem iQ(ha:PE X o ta)(hv:PE X value tv)(hs:swapsWith value (some (.Attribute o f pos')) pos.line X.env=pure false):PS X (.Assign [.Attribute o f pos'] value pos) (JE X.K ta tv f):=by
 intro pins s σ H D I h;refine Rv (aW (hv pins s σ H _ I h) λu s1 ⟨y,H1,I1,ry,q⟩=>aW (ha pins s1 σ H1 _ I1 q) λov s2 ⟨x,H2,I2,rx,q2⟩=>?_) hs;obtain⟨a,C,dx,fs,ex,ea,c,n,l,q3⟩:=ahJ (k:=λa C dx fs=>D.nx σ (upd H2 a (.ins C dx (gI f y fs)))) q2;subst ex;obtain rfl:ov=Value.ref a:=rx;exact Sf I2 ea c n l ry λs3 I3=>⟨σ,_,I3,q3⟩
end
theorem aps{α β:Type}{f:α->β}{a:α}{l:List α}:List.map f (a::l)=f a::List.map f l:=rfl
theorem apt{α β:Type}{f:α->β}:List.map f [] = []:=rfl
theorem apu{ta:TA}{σ H Q}:TY ta σ H Q=(ta σ H λvs H1=>∃i j:Int,vs = [.int i,.int j]/\(-1000000000000<i/\i<1000000000000/\-1000000000000<j/\j<1000000000000)/\(j - i).toNat<=1000000/\
 ∀l,H1 l=none->Q (.ref l) (upd H1 l (.lst ((List.range (j - i).toNat).map λ(k:Nat)=>V.int (i+(k:Int)))))):=rfl
theorem apv{K:W.Frag}{x y H Q}:TZ K x y H Q=(∃l k xs,x = .ref l/\y = .int k/\H l=some (.tup xs)/\xs≠[]/\xs.length<=1000/\1<=k/\k<=1000/\∀p H',aj H H'->H' p=some (.tup (List.replicate k.toNat xs).flatten)->Q (.ref p) H'):=rfl
theorem apw{x vs H Q}:TQ x vs H Q=(∃l a zs t,x = .ref l/\vs = [.ref a]/\H l=some (.lst (zV zs))/\TN H zs/\Ib H a t/\t∈zs.map (·.2)/\
 ∀(k:Nat) (h:k<zs.length),zs[k].2=t->Q .aU (upd H l (.lst (zV (zs.eraseIdx k))))):=rfl
theorem apx{x vs H Q}:Hh x vs H Q=(∃l xs y,x = .ref l/\vs = []/\H l=some (.lst xs)/\xs[xs.length - 1]? = some y/\Q y (upd H l (.lst xs.dropLast))):=rfl
theorem apy{K:W.Frag}{neg:Bool}{x y H Q}:IU K neg x y H Q=(∃(a p:Addr) (c:List Int) (zs:Us),x = .ref a/\y = .ref p/\H a=some (.tup (c.map V.int))/\az K H p (uV zs)/\nQ H zs/\
 Q (.bl (if neg then !decide (c∈zs.map (·.2)) else decide (c∈zs.map (·.2)))) H):=rfl
theorem apz{x vs H Q}:UP x vs H Q=(∃(l a:Addr) (zs:Us) (c:List Int),x = .ref l/\vs = [.ref a]/\H l=some (.lst (uV zs))/\nQ H zs/\H a=some (.tup (c.map V.int))/\c∈zs.map (·.2)/\
 ∀(k:Nat) (h:k<zs.length),zs[k].2=c->(∀m (hm:m<zs.length),m<k->zs[m].2≠c)->Q .aU (upd H l (.lst (uV (zs.eraseIdx k))))):=rfl
theorem apA{K:W.Frag}{te ts:TE}{σ H Q}:IX K te ts σ H Q=(te σ H λx H1=>ts σ H1 λk H2=>∃a xs,x = .ref a/\k = .int (-1)/\az K H2 a xs/\∀p,H2 p=none->Q (.ref p) (upd H2 p (.lst xs.reverse))):=rfl
theorem apB{K:W.Frag}{x y H Q}:GX K x y H Q=(∃a b xs ys,x = .ref a/\y = .ref b/\aL K H a xs/\aL K H b ys/\xs≠[]/\xs.length+ys.length<=sizeLine/\
 (ys = []->Q (.ref a) H)/\(ys≠[]->∀p,H p=none->Q (.ref p) (upd H p (.tup (xs++ys))))):=rfl
theorem apC{t:TS}{D σ H}:Jc t D σ H=(∃M:St->Hp->Prop,t { D with nx:=M } σ H/\∀iW H1,M iW H1->@Later ⟨D.nx⟩ iW H1):=rfl
theorem apD{i:Nat}{σ H Q}:xq i σ H Q=(match σ[i]? with
 | some (some v)=>Q v H
 | _=>False):=rfl
theorem apE{g:Int->Int->V}{x y H Q}:mI g x y H Q=(match x,y with
 | .int i,.int j=>Q (g i j) H
 | _,_=>False):=rfl
theorem apF{C:Int->Int->Prop}{g:Int->Int->V}{x y H Q}:r_ C g x y H Q=(match x,y with
 | .int i,.int j=>C i j/\Q (g i j) H
 | _,_=>False):=rfl
theorem apG{p:Int->Int->Prop}[∀i j,Decidable (p i j)]{ta tb:TE}{σ H Q}:JA p ta tb σ H Q=(ta σ H λx H1=>tb σ H1 λy H2=>match x,y with
 | .int i,.int j=>if p i j then Q true H2 else Q false H2
 | _,_=>False):=rfl
theorem apH{c:TT}{t u:TS}{D σ H}:JC c t u D σ H=(c σ H λb H1=>match b with
 | true=>t D σ H1
 | false=>u D σ H1):=rfl
theorem apI{t u:TT}{σ H Q}:zN t u σ H Q=(t σ H λc H1=>match c with
 | true=>Q true H1
 | false=>u σ H1 Q):=rfl
theorem apJ{t u:TT}{σ H Q}:Ws t u σ H Q=(t σ H λc H1=>match c with
 | true=>u σ H1 Q
 | false=>Q false H1):=rfl
theorem apK{K:W.Frag}{xs H Q}:DC K xs H Q=(match xs with
 | [.ref p]=>∃ys,(az K H p ys\/aL K H p ys)/\Q (.int ys.length) H
 | _=>False):=rfl
theorem apL{K:W.Frag}{x y H Q}:uN K x y H Q=(match x,y with
 | .ref p,.int i=>∃xs,az K H p xs/\∃v,fq xs i=some v/\Q v H
 | _,_=>False):=rfl
theorem apM{K:W.Frag}{x y H Q}:uO K x y H Q=(match x,y with
 | .ref p,.int i=>∃xs,aL K H p xs/\∃v,fq xs i=some v/\Q v H
 | _,_=>False):=rfl
theorem apN{K:W.Frag}{ta:TE}{f:Str}{σ H Q}:DE K ta f σ H Q=(ta σ H λx H1=>match x with
 | .ref a=>uM K (H1 a) f λv=>Q v H1
 | _=>False):=rfl
theorem apO{K:W.Frag}{ta tv:TE}{f:Str}{D σ H}:JE K ta tv f D σ H=(tv σ H λy H1=>ta σ H1 λx H2=>match x with
 | .ref a=>setM K (H2 a) f λC dx fs=>D.nx σ (upd H2 a (.ins C dx (gI f y fs)))
 | _=>False):=rfl
theorem apP{cs:List Addr}{m:Str}{sp:Sp}{cM:List V}{E:XK}{ta:TE}{t:TA}{σ H Q}:Cr cs m sp cM E ta t σ H Q=(ta σ H λx H1=>∃C a dx fs,x = .ref a/\H1 a=some (.ins C dx fs)/\C∈cs/\fs.lookup m=none/\t σ H1 λvs H2=>sp (x::(vs++cM)) H2 Q E):=rfl
theorem apQ{K:W.Frag}{neg:Bool}{x y H Q}:vY K neg x y H Q=(∃p xs,y = .ref p/\(az K H p xs\/aL K H p xs)/\lQ x=true/\xs.all lQ=true/\Q (.bl (if neg then !vX x xs else vX x xs)) H):=rfl
theorem apR{K:W.Frag}{T:String}{r:V->List V->Hp->VK->Prop}{to:TE}{σ H Q}:G4 K T r to σ H Q=(to σ H λx H1=>vZ K T x H1/\r x [] H1 Q):=rfl
theorem apS{x vs H Q}:SQ x vs H Q=(∃l xs,x = .ref l/\vs = []/\H l=some (.lst xs)/\Q .aU (upd H l (.lst []))):=rfl
theorem apT{r r':R2}{ta tb tc:TE}{σ H Q}:R8 r r' ta tb tc σ H Q=(ta σ H λx H1=>tb σ H1 λy H2=>r x y H2 λz H3=>∃k,z = .bl k/\
 (if k=true then tc σ H3 λw' H4=>r' y w' H4 Q else Q (.bl false) H3)):=rfl
theorem apU{r:V->Option Int->Option Int->Hp->VK->Prop}{te:TE}{tl th:TO}{σ H Q}:GV r te tl th σ H Q=(te σ H λx H1=>tl σ H1 λl H2=>th σ H2 λu H3=>r x l u H3 Q):=rfl
theorem apV{t:TE}{σ H Q}:GS t σ H Q=(t σ H λx H1=>∃i,x = .int i/\Q (some i) H1):=rfl
theorem apW{z0 H Q}:GR z0 H Q=(Q none H):=rfl
theorem apX{K:W.Frag}{x lo hi H Q}:G0 K x lo hi H Q=(∃a xs,x = .ref a/\az K H a xs/\∀p,H p=none->Q (.ref p) (upd H p (.lst (iG xs lo hi)))):=rfl
theorem apY{o i v H Q}:GZ o i v H Q=(∃p xs k j,o = .ref p/\i = .int k/\H p=some (.lst xs)/\jr xs.length k=some j/\Q (upd H p (.lst (xs.set j v)))):=rfl
theorem apZ{z0 H Q}:Hx z0 H Q=(∀p,H p=none->Q (.ref p) (upd H p (.dT []))):=rfl
theorem ap0{z0 H Q}:Hw z0 H Q=(∀p,H p=none->Q (.ref p) (upd H p (.dK []))):=rfl
theorem ap1{td ty tv:TE}{D σ H}:Hv td ty tv D σ H=(tv σ H λv H1=>td σ H1 λx H2=>ty σ H2 λy H3=>∃a H4,x = .ref a/\lT H3 a y v H4/\D.nx σ H4):=rfl
theorem ap3{td ty:TE}{σ H Q}:Hs td ty σ H Q=(td σ H λx H1=>ty σ H1 λy H2=>∃a v,x = .ref a/\gf H2 a y (some v)/\Q v H2):=rfl
theorem ap4{ty td:TE}{σ H Q}:Ht ty td σ H Q=(ty σ H λy H1=>td σ H1 λx H2=>∃a o,x = .ref a/\gf H2 a y o/\Q (.bl o.isSome) H2):=rfl
theorem ap5{ty td:TE}{σ H Q}:Hu ty td σ H Q=(ty σ H λy H1=>td σ H1 λx H2=>∃a o,x = .ref a/\gf H2 a y o/\Q (.bl (!o.isSome)) H2):=rfl
theorem ap6{td ty:TE}{σ H Q}:HC td ty σ H Q=(td σ H λx H1=>∃a,x = .ref a/\Hz H1 a/\ty σ H1 λy H2=>∃o,gf H2 a y o/\Q (o.getD .aU) H2):=rfl
theorem ap7{z0 z1 z2}:Gi z0 z1 z2=(False):=rfl
theorem ap8{z0 H Q}:HM z0 H Q=(Q true H):=rfl
theorem ap9{t:TT}{ta tb:TE}{σ H Q}:Gb t ta tb σ H Q=(t σ H λc H1=>if c=true then ta σ H1 Q else tb σ H1 Q):=rfl
theorem ap_{t u:TS}{D σ H}:Ge t u D σ H=(t { D with nx:=u D } σ H):=rfl
theorem aqa{te:TE}{g:TG}{D σ H}:yr te g D σ H=(te σ H λx H1=>g x σ H1 D.nx):=rfl
theorem aqb{i:Nat}{v σ H Q}:rB i v σ H Q=(Q (σ.set i (some v)) H):=rfl
theorem aqc{vs σ H Q}:BS vs σ H Q=(vs = []/\Q σ H):=rfl
theorem aqd{t:TG}{u:oN}{vs σ H Q}:ym t u vs σ H Q=(∃v r,vs=v::r/\t v σ H λbO H'=>u r bO H' Q):=rfl
theorem aqe{K:W.Frag}{n:Nat}{t:oN}{v σ H Q}:yp K n t v σ H Q=(∃a xs,v = .ref a/\aL K H a xs/\xs.length=n/\t xs σ H Q):=rfl
theorem aqf{to ti:TE}{t:BR}{v σ H Q}:Gj to ti t v σ H Q=(to σ H λo H1=>ti σ H1 λi H2=>t o i v H2 λH3=>Q σ H3):=rfl
theorem aqg{i:Nat}{σ H Q}:BO i σ H Q=(∃v,σ[i]? = some (some v)/\Q v H):=rfl
theorem aqh{v:V}{z0 H Q}:tC v z0 H Q=(Q v H):=rfl
theorem aqi{r:R2}{ta tb:TE}{σ H Q}:vP r ta tb σ H Q=(ta σ H λx H1=>tb σ H1 λy H2=>r x y H2 Q):=rfl
theorem aqj{g:Int->Int->V}{x y H Q}:jI g x y H Q=(∃i j,x = .int i/\y = .int j/\Q (g i j) H):=rfl
theorem aqk{C:Int->Int->Prop}{g:Int->Int->V}{x y H Q}:rI C g x y H Q=(∃i j,x = .int i/\y = .int j/\C i j/\Q (g i j) H):=rfl
theorem aql{r:V->Hp->VK->Prop}{ta:TE}{σ H Q}:Gv r ta σ H Q=(ta σ H λx H1=>r x H1 Q):=rfl
theorem aqm{g:Int->V}{x H Q}:rU g x H Q=(∃i,x = .int i/\Q (g i) H):=rfl
theorem aqn{t:TE}{σ H Q}:GA t σ H Q=(t σ H λx H'=>∃k,x = .bl k/\Q k H'):=rfl
theorem aqo{t:TE}{σ H Q}:tB t σ H Q=(t σ H λx H1=>∃c,x = .bl c/\Q c H1):=rfl
theorem aqp{c:TT}{t u:TS}{D σ H}:Gh c t u D σ H=(c σ H λb H1=>if b=true then t D σ H1 else u D σ H1):=rfl
theorem aqq{te:TE}{D σ H}:Gg te D σ H=(te σ H D.rt):=rfl
theorem aqr{D z0 H}:RU D z0 H=(D.rt .aU H):=rfl
theorem aqs{te:TE}{D σ H}:Gf te D σ H=(te σ H λ_ H1=>D.nx σ H1):=rfl
theorem aqt{r:List V->Hp->VK->Prop}{t:TA}{σ H Q}:B5 r t σ H Q=(t σ H λvs H1=>r vs H1 Q):=rfl
theorem aqu{ta:TE}{tr:TA}{σ H Q}:B0 ta tr σ H Q=(ta σ H λx H1=>tr σ H1 λxs H2=>Q (x::xs) H2):=rfl
theorem aqv{z0 H Q}:yD z0 H Q=(Q [] H):=rfl
theorem aqw{sp:Sp}{cM:List V}{E:XK}{t:TA}{σ H Q}:B3 sp cM E t σ H Q=(t σ H λvs H1=>sp (vs++cM) H1 Q E):=rfl
theorem aqx{D σ H}:Gd D σ H=(D.nx σ H):=rfl
theorem aqy{t u:TT}{σ H Q}:FU t u σ H Q=(t σ H λc H1=>if c=true then u σ H1 Q else Q false H1):=rfl
theorem aqz{t u:TT}{σ H Q}:vM t u σ H Q=(t σ H λc H1=>if c=true then Q true H1 else u σ H1 Q):=rfl
theorem aqA{t:TT}{σ H Q}:FW t σ H Q=(t σ H λc H1=>Q (!c) H1):=rfl
theorem aqB{ta tb:TE}{σ H Q}:FY ta tb σ H Q=(ta σ H λx H1=>∃c,x = .bl c/\if c=true then tb σ H1 Q else Q (.bl false) H1):=rfl
theorem aqC{ta tb:TE}{σ H Q}:FZ ta tb σ H Q=(ta σ H λx H1=>∃c,x = .bl c/\if c=true then Q (.bl true) H1 else tb σ H1 Q):=rfl
theorem aqD{ta:TE}{σ H Q}:F_ ta σ H Q=(ta σ H λx H1=>∃c,x = .bl c/\Q (.bl (!c)) H1):=rfl
theorem aqE{t:TA}{σ H Q}:GK t σ H Q=(t σ H λxs H1=>xs.length<=sizeLine/\∀p,H1 p=none->Q (.ref p) (upd H1 p (.lst xs))):=rfl
theorem aqF{t:TA}{σ H Q}:GJ t σ H Q=(t σ H λxs H1=>xs.length<=sizeLine/\∀p,H1 p=none->Q (.ref p) (upd H1 p (.tup xs))):=rfl
theorem aqG{K:W.Frag}{T:String}{r:V->List V->Hp->VK->Prop}{to:TE}{t:TA}{σ H Q}:G5 K T r to t σ H Q=(to σ H λx H1=>vZ K T x H1/\t σ H1 λxs H2=>r x xs H2 Q):=rfl
theorem aqH{x vs H Q}:G_ x vs H Q=(∃l xs y,x = .ref l/\vs = [y]/\H l=some (.lst xs)/\xs.length<sizeLine/\Q .aU (upd H l (.lst (xs++[y])))):=rfl
theorem aqI{x vs H Q}:Hf x vs H Q=(∃l b xs zs,x = .ref l/\vs = [.ref b]/\H l=some (.lst xs)/\H b=some (.lst zs)/\xs.length+zs.length<=sizeLine/\Q .aU (upd H l (.lst (xs++zs)))):=rfl
theorem aqJ{x y H Q}:Hi x y H Q=(∃l b xs zs,x = .ref l/\y = .ref b/\H l=some (.lst xs)/\H b=some (.lst zs)/\xs.length+zs.length<=sizeLine/\∀p,H p=none->Q (.ref p) (upd H p (.lst (xs++zs)))):=rfl
theorem aqK{x y H Q}:Hj x y H Q=(∃l k xs,x = .ref l/\y = .int k/\H l=some (.lst xs)/\-(2 ^ 63)<=k/\k<2 ^ 63/\xs.length*k.toNat<=sizeLine/\
 ∀p,H p=none->Q (.ref p) (upd H p (.lst (List.replicate k.toNat xs).flatten))):=rfl
theorem aqL{K:W.Frag}{x y H Q}:yG K x y H Q=(∃p xs i v,x = .ref p/\y = .int i/\az K H p xs/\fq xs i=some v/\Q v H):=rfl
theorem aqM{K:W.Frag}{x y H Q}:yH K x y H Q=(∃p xs i v,x = .ref p/\y = .int i/\aL K H p xs/\fq xs i=some v/\Q v H):=rfl
theorem aqN{x y H Q}:Gy x y H Q=(lM x y=true/\Q (.bl (decide (x=y))) H):=rfl
theorem aqO{x y H Q}:Gz x y H Q=(lM x y=true/\Q (.bl (!decide (x=y))) H):=rfl
theorem aqP{K:W.Frag}{ta:TE}{f:Str}{σ H Q}:BZ K ta f σ H Q=(ta σ H λx H1=>∃a C dx fs v,x = .ref a/\H1 a=some (.ins C dx fs)/\dI K C/\cj K C f/\fs.lookup f=some v/\Q v H1):=rfl
theorem aqQ{K:W.Frag}{ta tv:TE}{f:Str}{D σ H}:GH K ta tv f D σ H=(tv σ H λy H1=>ta σ H1 λx H2=>∃a C dx fs,x = .ref a/\H2 a=some (.ins C dx fs)/\dI K C/\cj K C f/\fs.length<1000/\
 D.nx σ (upd H2 a (.ins C dx (gI f y fs)))):=rfl
theorem aqR{C:Addr}{m:Str}{sp:Sp}{cM:List V}{E:XK}{ta:TE}{t:TA}{σ H Q}:Sl C m sp cM E ta t σ H Q=(ta σ H λx H1=>∃a dx fs,x = .ref a/\H1 a=some (.ins C dx fs)/\fs.lookup m=none/\
 t σ H1 λvs H2=>sp (x::(vs++cM)) H2 Q E):=rfl
theorem aqS{C:Addr}{sp:Sp}{cM:List V}{E:XK}{t:TA}{σ H Q}:GL C sp cM E t σ H Q=(t σ H λvs H1=>∀x dx,H1 x=none->H1 dx=none->dx≠x->
 sp (.ref x::(vs++cM)) (upd (upd H1 dx (.own x)) x (.ins C dx [])) (λv H2=>v = .aU/\Q (.ref x) H2) E):=rfl
end _L
namespace _W
open PySem _L PyProof.Rows
theorem sc1{i j:Int}:lM (.int i) (.int j)=true:=rfl
theorem sc2{i j:Str}:lM (.str i) (.str j)=true:=rfl
theorem sc3{i j:Bool}:lM (.bl i) (.bl j)=true:=rfl
theorem sc4: lM (.aU) (.aU)=true:=rfl
theorem sc5{i:Int}:lM (.aU) (.int i)=true:=rfl
theorem sc6{i:Int}:lM (.int i) (.aU)=true:=rfl
theorem sc7{i:Str}:lM (.aU) (.str i)=true:=rfl
theorem sc8{i:Str}:lM (.str i) (.aU)=true:=rfl
local macro_rules | `(tactic| wp_walk using $ts,*)=>do
 let a ← ("^apD ^apE ^apF ^apG ^apH ^apI ^apJ ^apK ^apL ^apM ^apN ahE ^apO ahF Vv Wg ^apA ^apB ^apy ^apz ^apu uq ^apv ^apw ^apx ^apP ^apQ ^apR ^apS ^apT ^apC afQ ^apU ^apV ^apW ^apX ^apY and_assoc Rx HO.ins.injEq S_ Ck gI String.reduceBEq List.lookup_cons List.lookup_nil aE HO.lst.injEq HO.dT.injEq HO.tup.injEq String.reduceEq false_and or_false false_or rO ^apZ ^ap0 ^ap1 ^ap3 ^ap4 ^ap5 ^ap6 Bool.not_eq_true' decide_eq_false_iff_not Classical.not_not ^ap7 if_false_left if_false_right ^ap8 ^ap9 k6 List.length_map List.getElem?_nil ^ap_ ^aqa ^aqb ^aqc ^aqd ^aqe ^aqf ^aqg ^aqh ^aqi ^aqj ^aqk ^aql ^aqm ^aqn ^aqo ^aqp ^aqq ^aqr ^aqs ^aqt ^aqu ^aqv ^aqw ^aqx ^aqy ^aqz ^aqA ^aqB ^aqC ^aqD ^aqE ^aqF ^aqG vZ ^aqH ^aqI ^aqJ ^aqK ^aqL ^aqM ^aqN ^aqO sc1 sc2 sc3 sc4 sc5 sc6 sc7 sc8 yz Gx R0 ^aqP ^aqQ ^aqR ^aqS _L.start ac9 ac_ afV aps apt List.cons_append List.nil_append List.length_cons List.length_nil List.getElem?_cons_zero List.getElem?_cons_succ Option.some.injEq exists_eq_left exists_eq_left' exists_and_left exists_eq V.int.injEq V.ref.injEq V.bl.injEq V.ty.injEq V.str.injEq List.cons.injEq and_true true_and List.set_cons_zero List.set_cons_succ decide_eq_true_eq Nat.reduceSub Nat.reduceAdd List.replicate_succ List.replicate_zero List.replicate Int.reduceLT Int.reduceLE Int.reducePow Int.reduceToNat Int.reduceNeg Nat.reduceLT Nat.reduceLeDiff Nat.reducePow Int.reduceMul Int.reduceAdd Int.reduceSub and_self or_true true_or gt_iff_lt ge_iff_le if_true if_false Bool.false_eq_true reduceIte Nat.sub_self Nat.sub_zero".splitOn " ").toArray.mapM λx=>if x.startsWith "^" then `(Lean.Parser.Tactic.simpLemma| ↓ $(Lean.mkIdent (x.drop 1).toString.toName):ident) else `(Lean.Parser.Tactic.simpLemma| $(Lean.mkIdent x.toName):ident)
 let d:Array (Lean.TSyntax `term):=("T.aqY T.Oe T.pN T.pO T.X5 T.X6 T.X7 T.X8 T.X_ T.Yb T.Yc T.Yd T.Ye T.Ef T.Yg T.Of T.Og T.Oh T.Oi T.Oj T.Ol T.Om T.Oo T.Oq T.Ot T.Ou T.Ov T.Ow T.Ox".splitOn " ").toArray.map λx=>⟨Lean.mkIdent x.toName⟩
 let b ← (ts.getElems.flatMap λt=>if t.raw.getId == `T then d else #[t]).mapM λt => `(Lean.Parser.Tactic.simpLemma| $t:term)
 let c:=a++b
 `(tactic| simp (maxSteps:=4000000) only[$c,*])
local macro_rules | `(tactic| walk_at "rdm") => `(tactic| wp_walk using and_self)
seal h_ PS PE PT PW PA PG vN PI PK PC PO wm
noncomputable def top(i:Nat):Stmt:=PySem.Challenge.pw_armswing_k65_whole_least_cut.main.body.getD i (.Pass ⟨0,0,0,0⟩)
noncomputable abbrev JG:Stmt:=inClass (top 16) 0
noncomputable abbrev JH:Stmt:=top 17
noncomputable abbrev JI:Stmt:=top 18
noncomputable abbrev JJ:Stmt:=top 19
noncomputable abbrev JK:Stmt:=top 20
noncomputable abbrev mq:Stmt:=top 21
noncomputable abbrev mw:Stmt:=top 22
noncomputable abbrev JL:Stmt:=top 23
noncomputable abbrev JM:Stmt:=top 25
noncomputable abbrev JN:Stmt:=top 26
noncomputable abbrev JO:Stmt:=top 27
noncomputable abbrev JP:Stmt:=top 28
noncomputable abbrev JQ:Stmt:=top 30
noncomputable abbrev JR:Stmt:=top 31
noncomputable abbrev JS:Stmt:=inClass (top 32) 0
noncomputable abbrev JT:Stmt:=top 34
noncomputable abbrev JU:Stmt:=top 35
noncomputable abbrev JV:Stmt:=top 36
noncomputable abbrev JW:Stmt:=top 39
noncomputable abbrev JX:Stmt:=top 40
noncomputable abbrev JY:Stmt:=top 41
noncomputable abbrev JZ:Stmt:=top 42
noncomputable abbrev J0:Stmt:=top 43
noncomputable abbrev J4:Stmt:=top 44
noncomputable abbrev J5:Stmt:=top 45
noncomputable abbrev J6:Stmt:=top 46
noncomputable abbrev J7:Stmt:=top 47
noncomputable abbrev J8:Stmt:=top 48
noncomputable abbrev J9:Stmt:=top 49
noncomputable abbrev J_:Stmt:=top 57
noncomputable abbrev Ka:Stmt:=top 58
noncomputable abbrev Kc:Stmt:=top 59
noncomputable abbrev Ke:Stmt:=top 60
noncomputable abbrev Kf:Stmt:=top 61
noncomputable abbrev Kg:Stmt:=top 62
noncomputable abbrev Kh:Stmt:=top 63
noncomputable abbrev Kl:Stmt:=inClass (top 64) 0
noncomputable abbrev Km:Stmt:=inClass (top 64) 1
noncomputable abbrev Ko:Stmt:=inClass (top 64) 2
noncomputable abbrev Kq:Stmt:=inClass (top 64) 4
noncomputable abbrev Kr:Stmt:=inClass (top 64) 5
noncomputable abbrev Ks:Stmt:=inClass (top 64) 6
noncomputable abbrev Ku:Stmt:=inClass (top 64) 7
noncomputable abbrev Kv:Stmt:=inClass (top 64) 8
noncomputable abbrev Kw:Stmt:=inClass (top 64) 9
noncomputable abbrev Ky:Stmt:=inClass (top 64) 10
noncomputable abbrev Kz:Stmt:=top 66
noncomputable abbrev KA:Stmt:=top 67
noncomputable abbrev KC:Stmt:=top 68
noncomputable abbrev iA:Stmt:=top 69
noncomputable abbrev KD:Stmt:=top 70
noncomputable abbrev KG:Stmt:=top 71
noncomputable abbrev KH:Stmt:=inClass (top 72) 0
noncomputable abbrev KI:Stmt:=top 74
noncomputable abbrev KJ:Stmt:=top 75
noncomputable abbrev KL:Stmt:=top 76
noncomputable abbrev KN:Stmt:=top 77
noncomputable abbrev KO:Stmt:=top 78
noncomputable abbrev KP:Stmt:=top 79
noncomputable abbrev KQ:Stmt:=top 80
noncomputable abbrev KR:Stmt:=top 81
noncomputable abbrev KS:Stmt:=top 82
noncomputable abbrev KU:Stmt:=top 83
noncomputable abbrev KW:Stmt:=top 84
noncomputable abbrev KY:Stmt:=top 85
noncomputable abbrev KZ:Stmt:=top 86
noncomputable abbrev K3:Stmt:=top 87
noncomputable abbrev K4:Stmt:=top 88
noncomputable abbrev K5:Stmt:=top 89
noncomputable abbrev K6:Stmt:=top 90
noncomputable abbrev K7:Stmt:=top 91
noncomputable abbrev K8:Stmt:=top 92
noncomputable abbrev K9:Stmt:=top 93
noncomputable abbrev K_:Stmt:=top 94
noncomputable abbrev La:Stmt:=top 95
noncomputable abbrev mz:Stmt:=top 96
theorem ahK:bH ["self", "kind", "first", "many", "marks", "at", "asker", "latest", "behind", "early"] ["self", "kind", "first", "many", "marks", "at", "asker", "latest", "behind", "early"] (aV JG):=bM
theorem ahL:bH ["number", "least", "greatest", "words"] ["number", "least", "greatest", "words"] (aV JH):=bM
theorem DF:bH ["behind", "ahead", "number"] ["behind"] (aV JI):=bM
theorem ahM:bH ["first", "many", "at", "asker", "latest", "behind"] ["first", "many", "at", "asker", "latest", "behind"] (aV JJ):=bM
theorem ahN:bH ["behind"] ["behind"] (aV JK):=bM
theorem Wt:bH ["first", "many", "at", "asker", "latest", "behind", "others"] ["first", "many", "at", "asker", "latest", "behind"] (aV mq):=bM
theorem Lb:bH ["first", "marks", "at", "asker", "latest", "behind", "early", "others", "mark"] ["first", "marks", "at", "asker", "latest", "behind", "early"] (aV mw):=bM
theorem ahO:bH ["one", "other"] ["one", "other"] (aV JL):=bM
theorem Lc:bH ["heap", "thing", "at"] ["heap", "thing"] (aV JM):=bM
theorem Ld:bH ["heap", "least", "last"] ["heap"] (aV JN):=bM
theorem Wu:bH ["heap", "at", "child"] ["heap", "at"] (aV JO):=bM
theorem zO:bH ["heap", "thing", "at", "child"] ["heap", "thing"] (aV JP):=bM
theorem ahP:bH ["plate", "ask"] ["plate", "ask"] (aV JQ):=bM
theorem ahQ:bH ["plate", "number", "ask", "e"] ["plate", "number", "ask"] (aV JR):=bM
theorem ahR:bH ["self", "plate", "number", "ask"] ["self", "plate", "number", "ask"] (aV JS):=bM
theorem ahS:bH ["plate", "ring", "place", "beat"] ["plate", "ring", "place", "beat"] (aV JT):=bM
theorem uP:bH ["plate", "ring", "beat", "cells", "rows", "other", "place", "begun"] ["plate", "ring", "beat", "cells"] (aV JU):=bM
theorem Wv:bH ["plate", "ring", "beat", "cells", "rows"] ["plate", "ring", "beat", "cells"] (aV JV):=bM
theorem ahT:bH ["dues"] ["dues"] (aV JW):=bM
theorem ahU:bH ["dues"] ["dues"] (aV JX):=bM
theorem ahV:bH ["due", "other"] ["due", "other"] (aV JY):=bM
theorem Le:bH ["dues", "kept", "due"] ["dues"] (aV JZ):=bM
theorem ahW:bH ["dues", "begun"] ["dues", "begun"] (aV J0):=bM
theorem Ww:bH ["dues", "kept", "begun", "left"] ["dues", "kept", "begun"] (aV J4):=bM
theorem ahX:bH ["plate", "due"] ["plate", "due"] (aV J5):=bM
theorem Wx:bH ["plate", "ring", "beat", "dues", "one_by_one"] ["plate", "ring", "beat", "dues"] (aV J6):=bM
theorem Wy:bH ["plate", "dues", "begun", "stop", "left"] ["plate", "dues", "begun", "stop"] (aV J7):=bM
theorem zP:bH ["heap", "plate", "dues", "kept", "node", "begun", "stop", "due", "later"] ["heap", "plate", "dues", "kept", "node"] (aV J8):=bM
theorem xr:bH ["plate", "ring", "beat", "dues", "kept", "heap", "node", "leaves"] ["plate", "ring", "beat", "dues"] (aV J9):=bM
theorem DG:bH ["zones", "rings", "cells", "in_all"] ["zones"] (aV J_):=bM
theorem Lf:bH ["zones", "lap", "skew", "rings", "cells"] ["zones", "lap", "skew"] (aV Ka):=bM
theorem Wz:bH ["swing", "rings", "far"] ["swing", "rings"] (aV Kc):=bM
theorem Lh:bH ["swing", "far", "part"] ["swing"] (aV Ke):=bM
theorem DH:bH ["zones", "counts", "rings", "cells"] ["zones"] (aV Kf):=bM
theorem zQ:bH ["ring_cells", "spares", "cells", "ring", "count", "place"] ["ring_cells", "spares"] (aV Kg):=bM
theorem DI:bH ["number_cells", "numbers", "number", "cell"] ["number_cells"] (aV Kh):=bM
theorem ahY:bH ["self", "zones", "lap", "skew", "swing"] ["self", "zones", "lap", "skew", "swing"] (aV Kl):=bM
theorem ahZ:bH ["self"] ["self"] (aV Km):=bM
theorem ah0:bH ["self"] ["self"] (aV Ko):=bM
theorem ah1:bH ["self", "ring"] ["self", "ring"] (aV Kq):=bM
theorem ah2:bH ["self"] ["self"] (aV Kr):=bM
theorem ah3:bH ["self", "ring", "place"] ["self", "ring", "place"] (aV Ks):=bM
theorem ah4:bH ["self", "ring", "other"] ["self", "ring", "other"] (aV Ku):=bM
theorem ah5:bH ["self", "ring", "place"] ["self", "ring", "place"] (aV Kv):=bM
theorem ah6:bH ["self", "number"] ["self", "number"] (aV Kw):=bM
theorem ah7:bH ["self", "ring", "place"] ["self", "ring", "place"] (aV Ky):=bM
theorem ah8:bH ["spares", "ring_cells"] ["spares", "ring_cells"] (aV Kz):=bM
theorem DJ:bH ["plate", "bad", "found", "ring", "place"] ["plate", "bad"] (aV KA):=bM
theorem ah9:bH ["number_cells", "bad_cells"] ["number_cells", "bad_cells"] (aV KC):=bM
theorem ah_:bH ["ring", "rings"] ["ring", "rings"] (aV iA):=bM
theorem DK:bH ["ring_cells", "spares", "ring", "used", "other", "count", "place"] ["ring_cells", "spares", "ring", "used"] (aV KD):=bM
theorem xu:bH ["ring_cells", "spares", "number_cells", "bad_cells", "moves", "used", "number", "cell", "other"] ["ring_cells", "spares", "number_cells", "bad_cells"] (aV KG):=bM
theorem zR:bH ["self", "zones", "lap", "skew", "swing", "spares", "bad", "bad_cells", "number", "cell", "other"] ["self", "zones", "lap", "skew", "swing", "spares", "bad"] (aV KH):=bM
theorem aia:bH ["_law_script", "_law_k"] ["_law_script", "_law_k"] (aV KI):=bM
theorem zS:bH ["_law_cell", "_law_many", "_law_found", "_law_number", "_law_k"] ["_law_cell", "_law_many"] (aV KJ):=bM
theorem uQ:bH ["_law_xs", "_law_rings", "_law_step", "_law_far", "_law_k", "_law_least"] ["_law_xs", "_law_rings"] (aV KL):=bM
theorem mC:bH ["_law_cell", "_law_more", "_law_xs", "_law_zones", "_law_k", "_law_whole_here", "_law_counts", "_law_many", "_law_cells", "_law_lap"] ["_law_cell", "_law_more"] (aV KN):=bM
theorem xw:bH ["_law_spec_here", "_law_cell", "_law_xs", "_law_spares", "_law_bad", "_law_k", "_law_ring"] ["_law_spec_here", "_law_cell"] (aV KO):=bM
theorem qN:bH ["_law_spec_here", "_law_ring", "_law_beat", "_law_cells", "_law_rows", "_law_other", "_law_place", "_law_part", "_law_free", "_law_begun"] ["_law_spec_here", "_law_ring", "_law_beat", "_law_cells"] (aV KP):=bM
theorem DM:bH ["_law_spec_here", "_law_ring", "_law_beat", "_law_cells", "_law_row"] ["_law_spec_here", "_law_ring", "_law_beat", "_law_cells"] (aV KQ):=bM
theorem se:bH ["_law_plate_here", "_law_spec_here", "_law_spot_here", "_law_cell", "_law_places", "_law_at", "_law_known_here", "_law_k", "_law_first"] ["_law_plate_here", "_law_spec_here", "_law_spot_here", "_law_cell"] (aV KR):=bM
theorem zT:bH ["_law_spec_here", "_law_spot_here", "_law_known_here", "_law_one", "_law_found", "_law_k"] ["_law_spec_here", "_law_spot_here", "_law_known_here"] (aV KS):=bM
theorem gv:bH ["_law_script", "_law_plate_here", "_law_spec_here", "_law_spot_here", "_law_most", "_law_cell", "_law_chains", "_law_many", "_law_far", "_law_known_here", "_law_number", "_law_there", "_law_k", "_law_xs", "_law_first", "_law_size", "_law_cells", "_law_latest", "_law_behind"] ["_law_script", "_law_plate_here", "_law_spec_here", "_law_spot_here", "_law_most"] (aV KU):=bM
theorem WA:bH ["_law_one", "_law_cell", "_law_marks"] ["_law_one", "_law_cell"] (aV KW):=bM
theorem aib:bH ["_law_one", "_law_other"] ["_law_one", "_law_other"] (aV KY):=bM
theorem aic:bH ["_law_known_here"] ["_law_known_here"] (aV KZ):=bM
theorem aid:bH ["_law_found"] ["_law_found"] (aV K3):=bM
theorem aie:bH ["_law_known_here", "_law_begun"] ["_law_known_here", "_law_begun"] (aV K4):=bM
theorem zW:bH ["_law_spec_here", "_law_ring", "_law_beat", "_law_known_here", "_law_begun", "_law_number", "_law_one"] ["_law_spec_here", "_law_ring", "_law_beat", "_law_known_here", "_law_begun"] (aV K5):=bM
theorem aif:bH ["_law_found"] ["_law_found"] (aV K6):=bM
theorem WB:bH ["_law_found", "_law_known_here", "_law_k"] ["_law_found", "_law_known_here"] (aV K7):=bM
theorem uR:bH ["_law_script", "_law_most", "_law_spec_here", "_law_plate_here", "_law_ring", "_law_beat", "_law_known_here", "_law_dues"] ["_law_script", "_law_most"] (aV K8):=bM
theorem WC:bH ["_law_leaves", "_law_leaf"] ["_law_leaves"] (aV K9):=bM
theorem Li:bH ["_law_known_here", "_law_begun", "_law_ends", "_law_met", "_law_left", "_law_number"] ["_law_known_here", "_law_begun", "_law_ends", "_law_met"] (aV K_):=bM
theorem xx:bH ["_law_spec_here", "_law_spot_here", "_law_known_here", "_law_bound_here", "_law_one"] ["_law_spec_here", "_law_spot_here", "_law_known_here"] (aV La):=bM
theorem lA:bH ["_law_script", "_law_spec_here", "_law_plate_here", "_law_ring", "_law_beat", "_law_known_here", "_law_dues", "_law_found", "_law_leaves", "_law_met", "_law_begun", "_law_bound_here", "_law_spot_here"] ["_law_script"] (aV mz):=bM
set_option genInjectivity false
set_option genSizeOf false
structure kI where
 Lj:Addr
 Lk:FuncData
 Ll:Addr
 Lm:FuncData
 Ln:Addr
 Lo:FuncData
 Lp:Addr
 Lq:FuncData
 Lr:Addr
 Ls:FuncData
 Lu:Addr
 Lv:FuncData
 aqT:Tok
 Lw:Addr
 Lx:FuncData
 aqU:Tok
 Ly:Addr
 Lz:FuncData
 LA:Addr
 LB:FuncData
 LC:Addr
 LD:FuncData
 LF:Addr
 LG:FuncData
 LH:Addr
 LI:FuncData
 LJ:Addr
 LK:FuncData
 LL:Addr
 LM:FuncData
 LN:Addr
 LO:FuncData
 LQ:Addr
 LR:FuncData
 LS:Addr
 LU:FuncData
 LV:Addr
 LW:FuncData
 LX:Addr
 LY:FuncData
 LZ:Addr
 L0:FuncData
 L1:Addr
 L3:FuncData
 L4:Addr
 L5:FuncData
 L6:Addr
 L7:FuncData
 L8:Addr
 L_:FuncData
 Ma:Addr
 Mb:FuncData
 Mc:Addr
 Me:FuncData
 Mf:Addr
 Mg:FuncData
 Mh:Addr
 Mi:FuncData
 Mj:Addr
 Ml:FuncData
 Mm:Addr
 Mn:FuncData
 Mp:Addr
 Mq:FuncData
 Mr:Addr
 Mt:FuncData
 Mu:Addr
 Mv:FuncData
 Mw:Addr
 Mx:FuncData
 My:Addr
 Mz:FuncData
 MA:Addr
 MB:FuncData
 DN:Addr
 MC:FuncData
 zX:Addr
 MD:FuncData
 zY:Addr
 ME:FuncData
 zZ:Addr
 MF:FuncData
 z7:Addr
 MG:FuncData
 z8:Addr
 MH:FuncData
 z9:Addr
 MI:FuncData
 z_:Addr
 MJ:FuncData
 Aa:Addr
 MK:FuncData
 Ab:Addr
 ML:FuncData
 MM:Addr
 MN:FuncData
 MO:Addr
 MP:FuncData
 MQ:Addr
 MR:FuncData
 DO:Addr
 Ac:FuncData
 MS:Addr
 MT:FuncData
 MU:Addr
 MV:FuncData
 MW:Addr
 MX:FuncData
 MY:Addr
 MZ:FuncData
 M0:Addr
 M3:FuncData
 M4:Addr
 M5:FuncData
 M7:Addr
 M8:FuncData
 M9:Addr
 M_:FuncData
 Na:Addr
 Nb:FuncData
 Nc:Addr
 Nf:FuncData
 Ng:Addr
 Nh:FuncData
 Ni:Addr
 Nj:FuncData
 Nk:Addr
 Nl:FuncData
 Nm:Addr
 Nn:FuncData
 Np:Addr
 Nq:FuncData
 Nr:Addr
 Nt:FuncData
 Nu:Addr
 Nv:FuncData
 Nx:Addr
 Ny:FuncData
 Nz:Addr
 NB:FuncData
 NC:Addr
 ND:FuncData
 NF:Addr
 NG:FuncData
 NH:Addr
 NI:FuncData
 NJ:Addr
 NK:FuncData
 DP:Addr
 DQ:FuncData
 NL:Addr
 NN:FuncData
 NO:Addr
 NP:FuncData
 bW:Addr
 cJ:Addr
 bK:Addr
 bB:Addr
 br:Addr
 aX:Addr
 DR:Tok
 DS:Tok
 DT:Tok
 DU:Tok
 DV:Tok
 DW:Tok
 DX:Tok
 DY:Tok
 DZ:Tok
 D4:Tok
 D5:Tok
 D6:Tok
 D7:Tok
 D8:Tok
noncomputable abbrev aN(K:W.Frag)(n:Str)(st:Stmt)(f:Addr)(fd:FuncData):Prop:=dJ K n n st f fd
structure Tx(K:W.Frag)(mg:Str->Option Value)(A:kI):Prop where
 aih:dJ K "__init__" "Ask.__init__" JG A.Lj A.Lk
 WD:Binds K A.Lk ["self", "kind", "first", "many", "marks", "at", "asker", "latest", "behind", "early"] []
 sf:aN K "check_between" JH A.Ll A.Lm
 uS:Binds K A.Lm ["number", "least", "greatest", "words"] []
 uT:mg "check_between" = some (.ref A.Ll)
 WE:aN K "check_behind" JI A.Ln A.Lo
 aii:Binds K A.Lo ["behind"] []
 aij:mg "check_behind" = some (.ref A.Ln)
 NQ:aN K "check_fields" JJ A.Lp A.Lq
 WG:Binds K A.Lq ["first", "many", "at", "asker", "latest", "behind"] []
 WH:mg "check_fields" = some (.ref A.Lp)
 NR:aN K "told_behind" JK A.Lr A.Ls
 WI:Binds K A.Ls ["behind"] []
 WJ:mg "told_behind" = some (.ref A.Lr)
 WK:y9 K "reading" "reading" mq A.Lu A.Lv
 aik:Binds K A.Lv ["first", "many", "at", "asker", "latest", "behind"] []
 ail:mg "reading" = some (.ref A.Lu)
 WL:y9 K "writing" "writing" mw A.Lw A.Lx
 aim:Binds K A.Lx ["first", "marks", "at", "asker", "latest", "behind", "early"] []
 ain:mg "writing" = some (.ref A.Lw)
 WM:aN K "clash" JL A.Ly A.Lz
 aio:Binds K A.Lz ["one", "other"] []
 aip:mg "clash" = some (.ref A.Ly)
 WN:aN K "heap_put" JM A.LA A.LB
 aiq:Binds K A.LB ["heap", "thing"] []
 air:mg "heap_put" = some (.ref A.LA)
 WO:aN K "heap_take" JN A.LC A.LD
 ais:Binds K A.LD ["heap"] []
 ait:mg "heap_take" = some (.ref A.LC)
 NS:aN K "lesser_child" JO A.LF A.LG
 WQ:Binds K A.LG ["heap", "at"] []
 WR:mg "lesser_child" = some (.ref A.LF)
 WS:aN K "sink" JP A.LH A.LI
 aiu:Binds K A.LI ["heap", "thing"] []
 aiv:mg "sink" = some (.ref A.LH)
 WT:aN K "stretch" JQ A.LJ A.LK
 aiw:Binds K A.LK ["plate", "ask"] []
 aix:mg "stretch" = some (.ref A.LJ)
 WU:aN K "stretch_by_number" JR A.LL A.LM
 aiy:Binds K A.LM ["plate", "number", "ask"] []
 aiz:mg "stretch_by_number" = some (.ref A.LL)
 aiA:dJ K "__init__" "Due.__init__" JS A.LN A.LO
 aiB:Binds K A.LO ["self", "plate", "number", "ask"] []
 WV:aN K "next_begin" JT A.LQ A.LR
 aiC:Binds K A.LR ["plate", "ring", "place", "beat"] []
 aiD:mg "next_begin" = some (.ref A.LQ)
 WW:aN K "way" JU A.LS A.LU
 aiE:Binds K A.LU ["plate", "ring", "beat", "cells"] []
 aiF:mg "way" = some (.ref A.LS)
 NT:aN K "way_end" JV A.LV A.LW
 WX:Binds K A.LW ["plate", "ring", "beat", "cells"] []
 WY:mg "way_end" = some (.ref A.LV)
 WZ:aN K "are_few" JW A.LX A.LY
 aiG:Binds K A.LY ["dues"] []
 aiH:mg "are_few" = some (.ref A.LX)
 W0:aN K "check_few" JX A.LZ A.L0
 aiI:Binds K A.L0 ["dues"] []
 aiJ:mg "check_few" = some (.ref A.LZ)
 W2:aN K "keeps_behind" JY A.L1 A.L3
 aiK:Binds K A.L3 ["due", "other"] []
 aiL:mg "keeps_behind" = some (.ref A.L1)
 W3:aN K "behind_among" JZ A.L4 A.L5
 aiM:Binds K A.L5 ["dues"] []
 aiN:mg "behind_among" = some (.ref A.L4)
 NU:aN K "left_behind" J0 A.L6 A.L7
 W4:Binds K A.L7 ["dues", "begun"] []
 W5:mg "left_behind" = some (.ref A.L6)
 W6:aN K "next_behind" J4 A.L8 A.L_
 aiO:Binds K A.L_ ["dues", "kept", "begun"] []
 aiP:mg "next_behind" = some (.ref A.L8)
 W7:aN K "passing_beats" J5 A.Ma A.Mb
 aiQ:Binds K A.Mb ["plate", "due"] []
 aiR:mg "passing_beats" = some (.ref A.Ma)
 W8:aN K "bound_of" J6 A.Mc A.Me
 aiS:Binds K A.Me ["plate", "ring", "beat", "dues"] []
 aiT:mg "bound_of" = some (.ref A.Mc)
 NV:aN K "beginning" J7 A.Mf A.Mg
 W9:Binds K A.Mg ["plate", "dues", "begun", "stop"] []
 W_:mg "beginning" = some (.ref A.Mf)
 Xa:aN K "put_longer_ones" J8 A.Mh A.Mi
 aiU:Binds K A.Mi ["heap", "plate", "dues", "kept", "node"] []
 aiV:mg "put_longer_ones" = some (.ref A.Mh)
 Xb:aN K "least_way" J9 A.Mj A.Ml
 aiW:Binds K A.Ml ["plate", "ring", "beat", "dues"] []
 aiX:mg "least_way" = some (.ref A.Mj)
 Xc:aN K "check_zones" J_ A.Mm A.Mn
 aiY:Binds K A.Mn ["zones"] []
 aiZ:mg "check_zones" = some (.ref A.Mm)
 Xd:aN K "check_turning" Ka A.Mp A.Mq
 ai0:Binds K A.Mq ["zones", "lap", "skew"] []
 ai1:mg "check_turning" = some (.ref A.Mp)
 Xe:aN K "check_swing" Kc A.Mr A.Mt
 ai2:Binds K A.Mt ["swing", "rings"] []
 ai3:mg "check_swing" = some (.ref A.Mr)
 Xf:aN K "check_no_detour" Ke A.Mu A.Mv
 ai4:Binds K A.Mv ["swing"] []
 ai5:mg "check_no_detour" = some (.ref A.Mu)
 Xg:aN K "cells_by_ring" Kf A.Mw A.Mx
 ai6:Binds K A.Mx ["zones"] []
 ai7:mg "cells_by_ring" = some (.ref A.Mw)
 NW:aN K "cells_by_number" Kg A.My A.Mz
 Xh:Binds K A.Mz ["ring_cells", "spares"] []
 Xi:mg "cells_by_number" = some (.ref A.My)
 NY:aN K "numbers_by_cell" Kh A.MA A.MB
 Xj:Binds K A.MB ["number_cells"] []
 Xk:mg "numbers_by_cell" = some (.ref A.MA)
 ai8:dJ K "__init__" "Plate.__init__" Kl A.DN A.MC
 Xl:Binds K A.MC ["self", "zones", "lap", "skew", "swing"] []
 ai9:dJ K "rings" "Plate.rings" Km A.zX A.MD
 aqV:Binds K A.MD ["self"] []
 ai_:Meth K A.bK "rings" A.zX
 aja:Meth K A.bB "rings" A.zX
 ajb:dJ K "total" "Plate.total" Ko A.zY A.ME
 D9:Binds K A.ME ["self"] []
 ajc:Meth K A.bK "total" A.zY
 ajd:Meth K A.bB "total" A.zY
 aje:dJ K "beats_of" "Plate.beats_of" Kq A.zZ A.MF
 NZ:Binds K A.MF ["self", "ring"] []
 ajf:Meth K A.bK "beats_of" A.zZ
 ajg:Meth K A.bB "beats_of" A.zZ
 ajh:dJ K "lap_beats" "Plate.lap_beats" Kr A.z7 A.MG
 aji:Binds K A.MG ["self"] []
 ajj:Meth K A.bK "lap_beats" A.z7
 ajk:Meth K A.bB "lap_beats" A.z7
 ajl:dJ K "begins" "Plate.begins" Ks A.z8 A.MH
 ajm:Binds K A.MH ["self", "ring", "place"] []
 ajn:Meth K A.bK "begins" A.z8
 ajo:Meth K A.bB "begins" A.z8
 ajp:dJ K "swing_of" "Plate.swing_of" Ku A.z9 A.MI
 ajq:Binds K A.MI ["self", "ring", "other"] []
 ajr:Meth K A.bK "swing_of" A.z9
 ajs:Meth K A.bB "swing_of" A.z9
 ajt:dJ K "has_cell" "Plate.has_cell" Kv A.z_ A.MJ
 Xm:Binds K A.MJ ["self", "ring", "place"] []
 aju:Meth K A.bK "has_cell" A.z_
 ajv:Meth K A.bB "has_cell" A.z_
 ajw:dJ K "cell_at" "Plate.cell_at" Kw A.Aa A.MK
 Xn:Binds K A.MK ["self", "number"] []
 ajx:Meth K A.bK "cell_at" A.Aa
 ajy:Meth K A.bB "cell_at" A.Aa
 ajz:dJ K "number_of" "Plate.number_of" Ky A.Ab A.ML
 Xo:Binds K A.ML ["self", "ring", "place"] []
 ajA:Meth K A.bK "number_of" A.Ab
 ajB:Meth K A.bB "number_of" A.Ab
 Xp:aN K "check_spares" Kz A.MM A.MN
 ajC:Binds K A.MN ["spares", "ring_cells"] []
 ajD:mg "check_spares" = some (.ref A.MM)
 Xq:aN K "bad_by_cell" KA A.MO A.MP
 ajE:Binds K A.MP ["plate", "bad"] []
 ajF:mg "bad_by_cell" = some (.ref A.MO)
 Xr:aN K "bad_numbers" KC A.MQ A.MR
 ajG:Binds K A.MR ["number_cells", "bad_cells"] []
 ajH:mg "bad_numbers" = some (.ref A.MQ)
 Xs:aN K "nearest_rings" iA A.DO A.Ac
 ajI:Binds K A.Ac ["ring", "rings"] []
 ajJ:mg "nearest_rings" = some (.ref A.DO)
 Xu:aN K "free_kept_cell" KD A.MS A.MT
 ajK:Binds K A.MT ["ring_cells", "spares", "ring", "used"] []
 ajL:mg "free_kept_cell" = some (.ref A.MS)
 Xv:aN K "lay_elsewhere" KG A.MU A.MV
 ajM:Binds K A.MV ["ring_cells", "spares", "number_cells", "bad_cells"] []
 ajN:mg "lay_elsewhere" = some (.ref A.MU)
 ajO:dJ K "__init__" "Mended.__init__" KH A.MW A.MX
 ajP:Binds K A.MX ["self", "zones", "lap", "skew", "swing", "spares", "bad"] []
 pL:aN K "_law_cell_at" KI A.MY A.MZ
 qO:Binds K A.MZ ["_law_script", "_law_k"] []
 qP:mg "_law_cell_at" = some (.ref A.MY)
 D_:aN K "_law_stream" KJ A.M0 A.M3
 N1:Binds K A.M3 ["_law_cell", "_law_many"] []
 N6:mg "_law_stream" = some (.ref A.M0)
 Xw:aN K "_law_swing" KL A.M4 A.M5
 ajQ:Binds K A.M5 ["_law_xs", "_law_rings"] []
 ajR:mg "_law_swing" = some (.ref A.M4)
 Xx:aN K "_law_spec" KN A.M7 A.M8
 ajS:Binds K A.M8 ["_law_cell", "_law_more"] []
 ajT:mg "_law_spec" = some (.ref A.M7)
 Xy:aN K "_law_plate" KO A.M9 A.M_
 ajU:Binds K A.M_ ["_law_spec_here", "_law_cell"] []
 ajV:mg "_law_plate" = some (.ref A.M9)
 Xz:aN K "_law_walk" KP A.Na A.Nb
 ajW:Binds K A.Nb ["_law_spec_here", "_law_ring", "_law_beat", "_law_cells"] []
 ajX:mg "_law_walk" = some (.ref A.Na)
 Ad:aN K "_law_behind_way" KQ A.Nc A.Nf
 Ea:Binds K A.Nf ["_law_spec_here", "_law_ring", "_law_beat", "_law_cells"] []
 Eb:mg "_law_behind_way" = some (.ref A.Nc)
 XA:aN K "_law_beside" KR A.Ng A.Nh
 ajY:Binds K A.Nh ["_law_plate_here", "_law_spec_here", "_law_spot_here", "_law_cell"] []
 ajZ:mg "_law_beside" = some (.ref A.Ng)
 XC:aN K "_law_tight" KS A.Ni A.Nj
 aj0:Binds K A.Nj ["_law_spec_here", "_law_spot_here", "_law_known_here"] []
 aj1:mg "_law_tight" = some (.ref A.Ni)
 XD:aN K "_law_known" KU A.Nk A.Nl
 aj2:Binds K A.Nl ["_law_script", "_law_plate_here", "_law_spec_here", "_law_spot_here", "_law_most"] []
 aj3:mg "_law_known" = some (.ref A.Nk)
 XE:aN K "_law_ask" KW A.Nm A.Nn
 aj4:Binds K A.Nn ["_law_one", "_law_cell"] []
 aj5:mg "_law_ask" = some (.ref A.Nm)
 XF:aN K "_law_keeps" KY A.Np A.Nq
 aj6:Binds K A.Nq ["_law_one", "_law_other"] []
 aj7:mg "_law_keeps" = some (.ref A.Np)
 N7:aN K "_law_free_ones" KZ A.Nr A.Nt
 XG:Binds K A.Nt ["_law_known_here"] []
 XH:mg "_law_free_ones" = some (.ref A.Nr)
 Ec:aN K "_law_whole" K3 A.Nu A.Nv
 N8:Binds K A.Nv ["_law_found"] []
 N9:mg "_law_whole" = some (.ref A.Nu)
 Ed:aN K "_law_without" K4 A.Nx A.Ny
 N_:Binds K A.Ny ["_law_known_here", "_law_begun"] []
 Oa:mg "_law_without" = some (.ref A.Nx)
 Ob:aN K "_law_spot" K5 A.Nz A.NB
 XI:Binds K A.NB ["_law_spec_here", "_law_ring", "_law_beat", "_law_known_here", "_law_begun"] []
 XJ:mg "_law_spot" = some (.ref A.Nz)
 Oc:aN K "_law_numbers" K6 A.NC A.ND
 XM:Binds K A.ND ["_law_found"] []
 XN:mg "_law_numbers" = some (.ref A.NC)
 XO:aN K "_law_is_order" K7 A.NF A.NG
 aj8:Binds K A.NG ["_law_found", "_law_known_here"] []
 aj9:mg "_law_is_order" = some (.ref A.NF)
 XQ:aN K "_law_start" K8 A.NH A.NI
 aj_:Binds K A.NI ["_law_script", "_law_most"] []
 aka:mg "_law_start" = some (.ref A.NH)
 XR:aN K "_law_are_leaves" K9 A.NJ A.NK
 akb:Binds K A.NK ["_law_leaves"] []
 akc:mg "_law_are_leaves" = some (.ref A.NJ)
 Od:aN K "_law_covered" K_ A.DP A.DQ
 XS:Binds K A.DQ ["_law_known_here", "_law_begun", "_law_ends", "_law_met"] []
 XT:mg "_law_covered" = some (.ref A.DP)
 XU:aN K "_law_bound" La A.NL A.NN
 akd:Binds K A.NN ["_law_spec_here", "_law_spot_here", "_law_known_here"] []
 ake:mg "_law_bound" = some (.ref A.NL)
 akf:aN K "law" mz A.NO A.NP
 aqW:Binds K A.NP ["_law_script"] []
 aqX:mg "law" = some (.ref A.NO)
 akg:Tr K A.bK "__init__" A.DN
 XW:W.findIn K (.ref A.bB) "__class__" = some (some (.builtin "object.__class__"))
 XX:W.specialIn K (.builtin "object.__class__") "__get__" = some (some (.builtin "getset_descriptor.__get__"))
 XY:W.takesIn K (.builtin "object.__class__")=some true
 XZ:W.mroIn K A.bB (.type "object")=some true
 X0:W.kitOne K (.ref A.bB) (.ref A.bK)=some true
 aqY:dI K A.bW
 X3:Mk K A.bW A.Lj
 X4:mg "Ask" = some (.ref A.bW)
 X5:cj K A.bW "kind"
 X6:cj K A.bW "first"
 X7:cj K A.bW "many"
 X8:cj K A.bW "marks"
 X_:cj K A.bW "at"
 Yb:cj K A.bW "asker"
 Yc:cj K A.bW "latest"
 Yd:cj K A.bW "behind"
 Ye:cj K A.bW "early"
 Oe:dI K A.cJ
 akh:Mk K A.cJ A.LN
 aki:mg "Due" = some (.ref A.cJ)
 Ef:cj K A.cJ "number"
 Yg:cj K A.cJ "ask"
 Of:cj K A.cJ "cells"
 pN:dI K A.bK
 akj:Mk K A.bK A.DN
 Yh:mg "Plate" = some (.ref A.bK)
 Og:cj K A.bK "ring_cells"
 Oh:cj K A.bK "lap"
 Oi:cj K A.bK "skew"
 Oj:cj K A.bK "swing"
 Ol:cj K A.bK "number_cells"
 Om:cj K A.bK "cell_numbers"
 pO:dI K A.bB
 akk:Mk K A.bB A.MW
 akl:mg "Mended" = some (.ref A.bB)
 Oo:cj K A.bB "ring_cells"
 Oq:cj K A.bB "lap"
 Ot:cj K A.bB "skew"
 Ou:cj K A.bB "swing"
 Ov:cj K A.bB "number_cells"
 Ow:cj K A.bB "cell_numbers"
 Ox:cj K A.bB "moves"
 akm:mg "MOST_CELLS" = some (.int 16 A.DR)
 akn:mg "GREATEST_FIRST" = some (.int 1000000 A.DS)
 ako:mg "GREATEST_MARK" = some (.int 1000000000 A.DT)
 akp:mg "GREATEST_AT" = some (.int 1000000000000 A.DU)
 akq:mg "GREATEST_ASKER" = some (.int 20 A.DV)
 akr:mg "GREATEST_LATEST" = some (.int 10000000000000 A.DW)
 aks:mg "GREATEST_BEHIND" = some (.int 99 A.DX)
 akt:mg "MOST_DUES" = some (.int 7 A.DY)
 aku:mg "MOST_ZONES" = some (.int 5 A.DZ)
 akv:mg "MOST_RINGS_IN_ZONE" = some (.int 40 A.D4)
 akw:mg "MOST_CELLS_IN_RING" = some (.int 60 A.D5)
 akx:mg "LEAST_RINGS" = some (.int 2 A.D6)
 aky:mg "MOST_RINGS" = some (.int 120 A.D7)
 Yi:mg "MOST_BEATS" = some (.int 1000000000 A.D8)
 Ae:mg "abs" = none
 Oz:mg "all" = none
 OA:mg "bool" = none
 OB:mg "dict" = none
 Af:mg "enumerate" = none
 xy:mg "int" = none
 sr:mg "isinstance" = none
 dG:mg "len" = none
 qQ:mg "list" = none
 Eg:mg "max" = none
 uU:mg "min" = none
 gA:mg "range" = none
 OC:mg "set" = none
 Ag:mg "sorted" = none
 xA:mg "sum" = none
 su:mg "tuple" = none
 akz:A.Ac.code = .ref A.br
theorem Tx.akA{K:W.Frag}{mg:Str->Option Value}{A:kI}(T:Tx K mg A):CP K A.bK:=⟨T.pN,T.Og,T.Oh,T.Oi,T.Oj,T.Ol,T.Om⟩
theorem Tx.akB{K:W.Frag}{mg:Str->Option Value}{A:kI}(T:Tx K mg A):CP K A.bB:=⟨T.pO,T.Oo,T.Oq,T.Ot,T.Ou,T.Ov,T.Ow⟩
theorem Tx.aqZ{K:W.Frag}{mg:Str->Option Value}{A:kI}(T:Tx K mg A):∀C∈[A.bK,A.bB],dI K C/\Meth K C "rings" A.zX:=by
 intro C hC;simp only[List.mem_cons,List.not_mem_nil,or_false] at hC;rcases hC with rfl | rfl
 ·exact⟨T.pN,T.ai_⟩
 ·exact⟨T.pO,T.aja⟩
theorem Tx.Eh{K:W.Frag}{mg:Str->Option Value}{A:kI}(T:Tx K mg A):∀C∈[A.bK,A.bB],dI K C/\Meth K C "total" A.zY:=by
 intro C hC;simp only[List.mem_cons,List.not_mem_nil,or_false] at hC;rcases hC with rfl | rfl
 ·exact⟨T.pN,T.ajc⟩
 ·exact⟨T.pO,T.ajd⟩
theorem Tx.OD{K:W.Frag}{mg:Str->Option Value}{A:kI}(T:Tx K mg A):∀C∈[A.bK,A.bB],dI K C/\Meth K C "beats_of" A.zZ:=by
 intro C hC;simp only[List.mem_cons,List.not_mem_nil,or_false] at hC;rcases hC with rfl | rfl
 ·exact⟨T.pN,T.ajf⟩
 ·exact⟨T.pO,T.ajg⟩
theorem Tx.akC{K:W.Frag}{mg:Str->Option Value}{A:kI}(T:Tx K mg A):∀C∈[A.bK,A.bB],dI K C/\Meth K C "lap_beats" A.z7:=by
 intro C hC;simp only[List.mem_cons,List.not_mem_nil,or_false] at hC;rcases hC with rfl | rfl
 ·exact⟨T.pN,T.ajj⟩
 ·exact⟨T.pO,T.ajk⟩
theorem Tx.akD{K:W.Frag}{mg:Str->Option Value}{A:kI}(T:Tx K mg A):∀C∈[A.bK,A.bB],dI K C/\Meth K C "begins" A.z8:=by
 intro C hC;simp only[List.mem_cons,List.not_mem_nil,or_false] at hC;rcases hC with rfl | rfl
 ·exact⟨T.pN,T.ajn⟩
 ·exact⟨T.pO,T.ajo⟩
theorem Tx.akE{K:W.Frag}{mg:Str->Option Value}{A:kI}(T:Tx K mg A):∀C∈[A.bK,A.bB],dI K C/\Meth K C "swing_of" A.z9:=by
 intro C hC;simp only[List.mem_cons,List.not_mem_nil,or_false] at hC;rcases hC with rfl | rfl
 ·exact⟨T.pN,T.ajr⟩
 ·exact⟨T.pO,T.ajs⟩
theorem Tx.Yj{K:W.Frag}{mg:Str->Option Value}{A:kI}(T:Tx K mg A):∀C∈[A.bK,A.bB],dI K C/\Meth K C "has_cell" A.z_:=by
 intro C hC;simp only[List.mem_cons,List.not_mem_nil,or_false] at hC;rcases hC with rfl | rfl
 ·exact⟨T.pN,T.aju⟩
 ·exact⟨T.pO,T.ajv⟩
theorem Tx.Yk{K:W.Frag}{mg:Str->Option Value}{A:kI}(T:Tx K mg A):∀C∈[A.bK,A.bB],dI K C/\Meth K C "cell_at" A.Aa:=by
 intro C hC;simp only[List.mem_cons,List.not_mem_nil,or_false] at hC;rcases hC with rfl | rfl
 ·exact⟨T.pN,T.ajx⟩
 ·exact⟨T.pO,T.ajy⟩
theorem Tx.Yl{K:W.Frag}{mg:Str->Option Value}{A:kI}(T:Tx K mg A):∀C∈[A.bK,A.bB],dI K C/\Meth K C "number_of" A.Ab:=by
 intro C hC;simp only[List.mem_cons,List.not_mem_nil,or_false] at hC;rcases hC with rfl | rfl
 ·exact⟨T.pN,T.ajA⟩
 ·exact⟨T.pO,T.ajB⟩
local macro_rules | `(tactic| walk_at "rdt") => `(tactic| wp_walk using $(Lean.mkIdent `T))
section
variable{P:Program}{w:World}{K:W.Frag}{mg:Str->Option Value}{base:Heap}{A:kI}
theorem Ym(T:Tx K mg A)(aG:bF mg base A.br A.aX):aY P w K mg base bw 1 A.Lj A.Lk ["self", "kind", "first", "many", "marks", "at", "asker", "latest", "behind", "early"] (aec A.bW):=by
 refine T.aih.ok ahK (λvs H Q E h=>?_) (λaQ Ar outer s H vs Q E hr h=>?_)
 ·obtain⟨p,dx,v1,v2,v3,v4,v5,v6,v7,v8,v9,rfl,_⟩:=h
  rfl
 ·obtain⟨p,dx,v1,v2,v3,v4,v5,v6,v7,v8,v9,rfl,hp,q⟩:=h;refine⟨_,(aD (iQ (aa 0) (aa 1) rfl)
   (aD (iQ (aa 0) (aa 2) rfl)
   (aD (iQ (aa 0) (aa 3) rfl)
   (aD (iQ (aa 0) (aa 4) rfl)
   (aD (iQ (aa 0) (aa 5) rfl)
   (aD (iQ (aa 0) (aa 6) rfl)
   (aD (iQ (aa 0) (aa 7) rfl)
   (aD (iQ (aa 0) (aa 8) rfl)
   (aK (iQ (aa 0) (aa 9) rfl)))))))))),?_⟩
  wp_walk using T,hp;exact q
theorem OE(T:Tx K mg A)(aG:bF mg base A.br A.aX):aY P w K mg base bw 1 A.Ll A.Lm ["number", "least", "greatest", "words"] ad9:=by
 refine T.sf.ok ahL (λvs H Q E h=>?_) (λaQ Ar outer s H vs Q E hr h=>?_)
 ·obtain⟨n,lo,hi,w,rfl,_⟩:=h
  rfl
 ·obtain⟨n,lo,hi,w,rfl,h1,h2,q⟩:=h;refine⟨_,(aK (jW (PW.pt (qM (gF (eE gH (aa 0) (aa 1) (bL _)) (iF (eE kQ (aa 0) (aa 2) (bL _)))))) ia bZ)),?_⟩;walk_at "rdm";exact⟨∅,∅,q⟩
theorem Yn(T:Tx K mg A)(aG:bF mg base A.br A.aX):aY P w K mg base bw 1 A.Lr A.Ls ["behind"] (aeb K):=by
 refine T.NR.ok ahN (λvs H Q E h=>?_) (λaQ Ar outer s H vs Q E hr h=>?_)
 ·obtain⟨v,ns,rfl,_⟩:=h
  rfl
 ·obtain⟨v,ns,rfl,hv,q⟩:=h;refine⟨_,(aK (bG (abB (dB R6 (aa 0) rq (bL _)) (dD au) (kU G3 rfl T.su vB (ah (aa 0) au))))),?_⟩;walk_at "rdm";rcases hv with⟨rfl,rfl⟩ | ⟨a,rfl,hS | hS⟩
  ·exact ite_yes rfl λt nt=>q t _ (aj.put nt) aE
  ·exact ite_no (by simp) ⟨a,rfl,_,.inl ⟨hS,λl nl=>q l _ (aj.put nl) aE⟩⟩
  ·exact ite_no (by simp) ⟨a,rfl,_,.inr ⟨aL.of hS,q a _ (aj.refl _) hS⟩⟩
theorem akG(T:Tx K mg A)(aG:bF mg base A.br A.aX):aY P w K mg base bw 1 A.Ly A.Lz ["one", "other"] (aef K A.bW):=by
 refine T.WM.ok ahO (λvs H Q E h=>?_) (λaQ Ar outer s H vs Q E hr h=>?_)
 ·obtain⟨p,r,x,y,m,b,dx,m',b',nA,rfl,_⟩:=h
  rfl
 ·obtain⟨p,r,x,y,m,b,dx,m',b',nA,rfl,hx,hy,q⟩:=h;refine⟨_,(aD (cU (PW.pt (yl (dB vR (cD (aa 0) rfl) mX (bL _)) (yj (dB vR (cD (aa 1) rfl) mX (bL _))))) (aK (bG gb)) bZ)
   (aK (bG (tu (iX gH (cD (aa 0) rfl) (aF d8 (cD (aa 1) rfl) (cD (aa 1) rfl)) (bL _)) (qg (iX gH (cD (aa 1) rfl) (aF d8 (cD (aa 0) rfl) (cD (aa 0) rfl)) (bL _))))))),?_⟩
  wp_walk using T,hx.o,hy.o;unfold CB at q;by_cases k1:x.kind = "write" <;> by_cases k2:y.kind = "write" <;> by_cases k3:x.first<y.first+y.many <;> simpa[k1,k2,k3] using q
theorem akH(T:Tx K mg A)(aG:bF mg base A.br A.aX):aY P w K mg base bw 1 A.LA A.LB ["heap", "thing"] agf:=by
 refine T.WN.ok Lc (λvs H Q E h=>?_) (λaQ Ar outer s H vs Q E hr h=>?_)
 ·obtain⟨l,a,t,zs,rfl,_⟩:=h
  rfl
 ·obtain⟨l,a,t,zs,rfl,hl,hn,ha,hh,q⟩:=h;have jX:_+16<cLine:=oE (qb (by decide:16<=64) _) hr.units
  refine⟨_,(aD (dP (kX j8 lG lH kY (aa 0) (ah (aa 1) au)))
   (aD (aR (i:=2) Lc.nd rfl OL_ (aF nZ (bX eT rfl T.dG dU (ah (aa 0) au)) ak))
   (aD (Gk cL (PW.pt (yl (eE kQ (aa 2) ak (bL _)) (yj (dB (Jj jX) (aa 1) (aH bV (aa 0) (aF kG (aF nZ (aa 2) ak) ak) (λ_ _=>rfl)) (bL _)))))
   (aD (tw (aH bV (aa 0) (aF kG (aF nZ (aa 2) ak) ak) (λ_ _=>rfl)) (yq (aa 0) (aa 2) set_list))
   (aK (aR (i:=2) Lc.nd rfl OL_ (aF kG (aF nZ (aa 2) ak) ak)))))
   (aK (tw (aa 1) (yq (aa 0) (aa 2) set_list)))))),?_⟩
  walk_at "rdm";refine⟨⟨_,az.of hl.l⟩,_,hl.l,C_ (by rw[jx];lia),?_⟩
  have e0:((mV zs++[V.ref a]).length:Int) - 1=(zs.length:Int):=by rw[e_,jx];simp
  have e1:mV zs++[V.ref a] = mV (zs++[(a,t)]):=af9 zs (a,t);refine⟨_,.inl (az.of aE),?_⟩;rw[e0,e1];refine⟨λm σ H'=>∃(ys:Ms),σ = [some (.ref l),some (.ref a),some (.int (m:Int))]/\H' = upd H l (.lst (mV ys))/\m<ys.length/\ys.length=zs.length+1/\iO H ys/\Up gq ys.length m (fm ys) (a,t)/\(ys.eraseIdx m).Perm zs,⟨zs.length,zs++[(a,t)],rfl,rfl,by simp,by simp,?_,af7 hh,ad0⟩,?_⟩
  ·intro z hz;rcases fE.mp hz with hz | hz
   ·exact hl.z z hz
   ·rw[fQ.mp hz];exact ha
  ·rintro k σ H' ⟨ys,rfl,rfl,hk,hy,hZ,up,pe⟩;walk_at "rdm";refine cF (λh0=>?_) (λh0=>?_)
   ·have k1:1<=k:=by lia
    have pk:=nF k1;have hp:par k<ys.length:=by lia
    have g1:fq (mV ys) (((k:Int) - 1) / 2)=some (.ref ys[par k].1):=by rw[TU k1];exact fX.get hp
    refine⟨_,az.of aE,_,g1,_,rfl,_,ha.fT hl.l,_,(hZ _ (cI hp)).fT hl.l,cF (λh4=>?_) (λh4=>?_)⟩
    ·refine⟨_,λ_ _ h=>h,_,az.of aE,_,g1,_,by rw[jx];exact wH hk,par k,pk,by rw[TU k1],ys.set k ys[par k],?_,by rw[mL];exact hp,by rw[mL];exact hy,Vy hZ (hZ _ (cI hp)),?_,(TL hk hp ∅).trans pe⟩
     ·rw[wX]
     ·rw[mL,wY hk];have:=up.step uD k1 hk (by rw[jc hp];exact h4)
      rw[jc hp] at this;exact this
    ·skip
     refine⟨_,by rw[jx];exact wH hk,?_⟩
     rw[show (mV ys).set k (V.ref a)=mV (ys.set k (a,t)) from wX ys k (a,t)];refine q _ ((wG hk (a,t)).trans (pe.cons _)) ?_;rw[mL,wY hk];exact up.done (λ_=>by rw[jc hp];exact h4)
   ·skip
    refine⟨_,by rw[jx];exact wH hk,?_⟩
    rw[show (mV ys).set k (V.ref a)=mV (ys.set k (a,t)) from wX ys k (a,t)];refine q _ ((wG hk (a,t)).trans (pe.cons _)) ?_;rw[mL,wY hk];exact up.done (λz=>absurd z ∅)
theorem akI(T:Tx K mg A)(aG:bF mg base A.br A.aX):aY P w K mg base bw 1 A.LF A.LG ["heap", "at"] agc:=by
 refine T.NS.ok Wu (λvs H Q E h=>?_) (λaQ Ar outer s H vs Q E hr h=>?_)
 ·obtain⟨l,zs,k,rfl,_⟩:=h
  rfl
 ·obtain⟨l,zs,k,rfl,hl,hk,q⟩:=h;have jX:_+16<cLine:=oE (qb (by decide:16<=64) _) hr.units
  refine⟨_,(aD (aR (i:=2) Wu.nd rfl OL_ (aF d8 (aF mj ak (aa 1)) ak))
   (aD (cU (PW.pt (yl (eE gH (aF d8 (aa 2) ak) (bX eT rfl T.dG dU (ah (aa 0) au)) (bL _)) (yj (dB (Jj jX) (aH bV (aa 0) (aF d8 (aa 2) ak) (λ_ _=>rfl)) (aH bV (aa 0) (aa 2) (λ_ _=>rfl)) (bL _))))) (aK (bG (aF d8 (aa 2) ak))) bZ)
   (aK (bG (aa 2))))),?_⟩
  walk_at "rdm";refine⟨_,.inl (az.of hl.l),cF (λh1=>?_) (λh1=>?_)⟩
  ·rw[jx] at h1;have h2:2*k+1+1<zs.length:=by lia
   have h3:2*k+1<zs.length:=by lia
   have g1:=fX.get h2;have g2:=fX.get h3
   push_cast at g1 g2
   refine⟨_,az.of hl.l,_,g1,_,az.of hl.l,_,g2,?_⟩;refine⟨_,rfl,_,rfl,_,hl.th h2,_,hl.th h3,cF (λh4=>?_) (λh4=>?_)⟩
   ·have e:iw zs k=2*k+1+1:=by
     unfold iw;rw[if_pos ⟨h2,by rw[jc h2,jc h3];exact h4⟩]
    rw[e] at q
    push_cast at q
    exact q
   ·have e:iw zs k=2*k+1:=by
     unfold iw;rw[if_neg (λz=>h4 (by have:=z.2;rw[jc h2,jc h3] at this;exact this))]
    rw[e] at q
    push_cast at q
    exact q
  ·rw[jx] at h1;have e:iw zs k=2*k+1:=by unfold iw;rw[if_neg (λz=>h1 ∅)]
   rw[e] at q
   push_cast at q
   exact q
theorem akJ(T:Tx K mg A)(aG:bF mg base A.br A.aX):aY P w K mg base bw 1 A.LX A.LY ["dues"] (agx K A.bW A.cJ):=by
 refine T.WZ.ok ahT (λvs H Q E h=>?_) (λaQ Ar outer s H vs Q E hr h=>?_)
 ·obtain⟨l,ps,ds,rfl,_⟩:=h
  rfl
 ·obtain⟨l,ps,ds,rfl,hd,q⟩:=h;refine⟨_,(aK (bG (iX abL (bX eT rfl T.dG dU (ah (aa 0) au)) (jG (v:=.int 7) rfl T.akt ⟨_,rfl⟩) (bL _)))),?_⟩;walk_at "rdm";refine⟨_,.inl (az.of hd.l),?_⟩;rw[aM,hd.n,show decide (((ds.length:Nat):Int)<=7)=decide (ds.length<=7) from by simp only[decide_eq_decide];lia]
  exact q
theorem Yo(T:Tx K mg A)(aG:bF mg base A.br A.aX):aY P w K mg base bw 1 A.L6 A.L7 ["dues", "begun"] (agz K A.bW A.cJ):=by
 refine T.NU.ok ahW (λvs H Q E h=>?_) (λaQ Ar outer s H vs Q E hr h=>?_)
 ·obtain⟨l,b,ps,ds,bg,H0,rfl,_⟩:=h
  rfl
 ·obtain⟨l,b,ps,ds,bg,H0,rfl,s0,hd,qR,hb,q⟩:=h;refine⟨_,(aK (bG (gP (N:=["due", "begun"]) (nt:=1) (fv:=[1]) ‹cN.of› rfl (c_ (aa 0)) (λC s H fp=>(bE (i:=0) (show List.Nodup (["due", "begun"]:List Str) by decide +kernel) rfl OL_)) (λC s H fp=>(oZ (dB (T5 (K:=K) rfl) (JF (K:=K) rfl (aa 0) rfl) (aa 1) rfl))) (λC s H fp=>(aa 0))))),?_⟩
  walk_at "rdt";have jY:=hd.n;refine i8 l (ps.map V.ref) (λD i ys aC H2=>∃(u:Option V) (eY:List Addr),ys=eY.map V.ref/\aC = [u,some (.ref b)]/\H2 D=some (.lst ys)/\aj H H2/\H D=none/\jz K A.bW A.cJ H0 eY (bR (ds.take i) bg)) (λQ q=>q) (az.of (s0 _ _ hd.l)) ?_ ?_ ?_ ?_
  ·intro D hD;exact⟨none,[],rfl,rfl,aE,aj.put hD,hD,jz.nil⟩
  ·rintro D i ys aC H2 ⟨u,eY,rfl,rfl,e1,e2,e3,e4⟩;refine⟨e1,g8 ?_,az.of (e2 _ _ (s0 _ _ hd.l))⟩;have:=kM (λd:Dr => !decide (d.n∈bg)) (ds.take i);rw[dH] at this;have e5:=e4.n;unfold bR at e5;rw[aM];lia
  ·rintro D i x ys aC H2 N hN hx ⟨u,eY,rfl,rfl,e1,e2,e3,e4⟩;obtain⟨dp,kJ,rfl⟩:=dY hx;have hi:i<ds.length:=by rw[← jY];exact cT kJ
   obtain⟨dx,ap,la,ts,m,b',cu,hD⟩:=hd.t i dp ds[i] kJ (bC hi);have eZ:=e2 _ _ (s0 _ _ hD.o);unfold qF at eZ;have et:=wW (p:=λd:Dr => !decide (d.n∈bg)) (bC hi);wp_walk using T,eZ;refine⟨_,.inr (aL.of (e2 _ _ hb)),rfl,wI _,cF (λh1=>?_) λh1=>?_⟩
   ·rw[qz] at h1;refine⟨e1,hN _ _ _ ⟨_,eY++[dp],by simp,rfl,aE,aj.put2 e2 e3,e3,?_⟩⟩
    unfold bR at e4 ⊢;rw[et,if_pos (by simpa using h1)]
    exact e4.snoc ⟨_,_,_,_,_,_,_,hD⟩
   ·rw[qz] at h1;refine hN _ _ _ ⟨_,eY,rfl,rfl,e1,e2,e3,?_⟩;unfold bR at e4 ⊢;rw[et,if_neg (by simpa using h1),mJ]
    exact e4
  ·rintro D ys aC H2 ⟨u,eY,rfl,rfl,e1,e2,e3,e4⟩;rw[aM,jY,c9] at e4;exact q D eY H2 e2 e3 e1 e4
theorem akK(T:Tx K mg A)(aG:bF mg base A.br A.aX):aY P w K mg base bw 1 A.Mm A.Mn ["zones"] (ado K):=by
 refine T.Xc.ok DG (λvs H Q E h=>?_) (λaQ Ar outer s H vs Q E hr h=>?_)
 ·obtain⟨a,ts,z,rfl,_⟩:=h
  rfl
 ·obtain⟨a,ts,z,rfl,hz,ok,q⟩:=h;refine⟨_,(aD (jW (PW.pt (qM (gF (eE gH (bX eT rfl T.dG dU (ah (aa 0) au)) ak (bL _)) (iF (eE kQ (bX eT rfl T.dG dU (ah (aa 0) au)) (jG (v:=.int 5) rfl T.aku ⟨_,rfl⟩) (bL _)))))) ia bZ)
   (aD (cV cL rfl (c_ (aa 0)) (j_ rfl (dz (bE (i:=1) DG.nd rfl OL_) (dz (bE (i:=2) DG.nd rfl OL_) jH)))
   (aD (jW (PW.pt (qM (gF (eE gH (aa 1) ak (bL _)) (iF (eE kQ (aa 1) (jG (v:=.int 40) rfl T.akv ⟨_,rfl⟩) (bL _)))))) ia bZ)
   (aK (jW (PW.pt (qM (gF (eE gH (aa 2) ak (bL _)) (iF (eE kQ (aa 2) (jG (v:=.int 60) rfl T.akw ⟨_,rfl⟩) (bL _)))))) ia bZ))))
   (aD (aR (i:=3) DG.nd rfl OL_ (bX (Ci rfl) rfl T.xA boot_sum (ah (gP (N:=["zone"]) (nt:=1) (fv:=[]) ‹cN.of› rfl (c_ (aa 0)) (λC s H fp=>(bE (i:=0) (show List.Nodup (["zone"]:List Str) by decide +kernel) rfl OL_)) (λC s H fp=>jL) (λC s H fp=>(aH (kH (K:=K) rfl) (aa 0) ak (λ_ _=>rfl)))) au)))
   (aK (jW (PW.pt (qM (gF (eE gH (aa 3) (jG (v:=.int 2) rfl T.akx ⟨_,rfl⟩) (bL _)) (iF (eE kQ (aa 3) (jG (v:=.int 120) rfl T.aky ⟨_,rfl⟩) (bL _)))))) ia bZ))))),?_⟩
  walk_at "rdm";have hn:=hz.n;have l1:=ok.l1;have l5:=ok.l5;refine⟨_,.inl hz.sq,by simp only[List.length_map];lia,_,.inl hz.sq,by simp only[List.length_map];lia,?_⟩
  refine rl a (ts.map V.ref) (λi σ H'=>∃r c,σ = [some (.ref a),r,c,none]/\H' = H) (λQ q=>q) hz.sq ⟨none,none,rfl,rfl⟩ (by rintro i σ H' _ ⟨r,c,rfl,rfl⟩;exact hz.sq) ?_ ?_
  ·rintro i x σ H' N hN hx ⟨r,c,rfl,rfl⟩;obtain⟨t,p,rfl,hp,ht⟩:=hz.at hx;refine nv (aL.of ht) rfl ?_;walk_at "rdm";obtain⟨h1,h2,h3,h4⟩:=ok.r p (get_mem hp);exact⟨∅,∅,∅,∅,hN _ _ ⟨_,_,rfl,rfl⟩⟩
  ·rintro σ H' ⟨r,c,rfl,rfl⟩;walk_at "rdm";refine i8 a (ts.map V.ref) (λD i ys aC H2=>ys=((z.take i).map λp=>V.int p.1)/\H2 D=some (.lst ys)/\aj H' H2/\H' D=none/\i<=z.length/\∃u,aC = [u]) (λQ q=>q) hz.sq ?_ ?_ ?_ ?_
   ·intro D hD;exact⟨rfl,aE,aj.put hD,hD,eL _,_,rfl⟩
   ·rintro D i ys aC H2 ⟨e,e1,e2,e3,e4,_⟩;refine⟨e1,?_,e2.seq hz.sq⟩;rw[e];refine g8 ?_;simp only[List.length_map,List.length_take];lia
   ·rintro D i x ys aC H2 N hN hx ⟨e,e1,e2,e3,e4,u,rfl⟩;obtain⟨t,p,rfl,hp,ht⟩:=hz.at hx;have hl:=cT hp;walk_at "rdm";refine⟨_,aL.of (e2 _ _ ht),_,rfl,e1,hN _ _ _ ⟨?_,aE,aj.put2 e2 e3,e3,hl,_,rfl⟩⟩;rw[take_succ_get hp,bT,e];rfl
   ·rintro D ys aC H2 ⟨e,e1,e2,e3,e4,u,rfl⟩;have e5:ys=(z.map λp=>p.1).map V.int:=by
     rw[e,lenZ hz.n,c9,oA];rfl
    rw[e5] at e1;walk_at "rdm";have s2:=ok.s2;have s1:=ok.Cm;exact⟨_,az.of e1,∅,∅,q _ e2⟩
theorem akL(T:Tx K mg A)(aG:bF mg base A.br A.aX):aY P w K mg base bw 1 A.Mp A.Mq ["zones", "lap", "skew"] (adp K):=by
 refine T.Xd.ok Lf (λvs H Q E h=>?_) (λaQ Ar outer s H vs Q E hr h=>?_)
 ·obtain⟨a,ts,z,ao,cA,rfl,_⟩:=h
  rfl
 ·obtain⟨a,ts,z,ao,cA,rfl,hz,ok,h1,h2,h3,h4,hd,q⟩:=h;refine⟨_,(aD (jW (PW.pt (qM (gF (eE gH (aa 1) ak (bL _)) (iF (eE kQ (aa 1) (jG (v:=.int 1000000000) rfl T.Yi ⟨_,rfl⟩) (bL _)))))) ia bZ)
   (aD (cV cL rfl (c_ (aa 0)) (j_ rfl (dz (bE (i:=3) Lf.nd rfl OL_) (dz (bE (i:=4) Lf.nd rfl OL_) jH)))
   (aK (jW (eE zM (aF gu (aa 1) (aa 4)) ak (bL _)) ia bZ)))
   (aK (jW (PW.pt (qM (gF (eE gH (aa 2) ak (bL _)) (iF (eE vU (aa 2) (aa 1) (bL _)))))) ia bZ)))),?_⟩
  walk_at "rdm";refine⟨∅,∅,?_⟩
  refine rl a (ts.map V.ref) (λi σ H'=>∃r c,σ = [some (.ref a),some (.int ao),some (.int cA),r,c]/\H' = H) (λQ q=>q) hz.sq ⟨none,none,rfl,rfl⟩ (by rintro i σ H' _ ⟨r,c,rfl,rfl⟩;exact hz.sq) ?_ ?_
  ·rintro i x σ H' N hN hx ⟨r,c,rfl,rfl⟩;obtain⟨t,p,rfl,hp,ht⟩:=hz.at hx;refine nv (aL.of ht) rfl ?_;obtain⟨g1,g2,g3,g4⟩:=ok.r p (get_mem hp);have g5:=hd p (get_mem hp);walk_at "rdm";exact⟨∅,g5,hN _ _ ⟨_,_,rfl,rfl⟩⟩
  ·rintro σ H' ⟨r,c,rfl,rfl⟩;walk_at "rdm";exact⟨∅,∅,q⟩
theorem akM(T:Tx K mg A)(aG:bF mg base A.br A.aX):aY P w K mg base bw 1 A.Mu A.Mv ["swing"] (ads K):=by
 refine T.Xf.ok Lh (λvs H Q E h=>?_) (λaQ Ar outer s H vs Q E hr h=>?_)
 ·obtain⟨a,sw,n,rfl,_⟩:=h
  rfl
 ·obtain⟨a,sw,n,rfl,hS,ok,hn,q⟩:=h;refine⟨_,(aK (cV cL rfl (tF rfl T.gA (ah ak (ah (bX eT rfl T.dG dU (ah (aa 0) au)) au))) (bE (i:=1) Lh.nd rfl OL_)
   (aK (cV cL rfl (tF rfl T.gA (ah ak (ah (aF d8 (aF kG (aa 1) ak) ak) au))) (bE (i:=2) Lh.nd rfl OL_)
   (aK (cU (dB kQ (aH bV (aa 0) (aa 1) (λ_ _=>rfl)) (aF dW (aH bV (aa 0) (aa 2) (λ_ _=>rfl)) (aH bV (aa 0) (aF nZ (aa 1) (aa 2)) (λ_ _=>rfl))) (bL _)) ia bZ)))))),?_⟩
  walk_at "rdm";have hl:=ok.len;have h2:=ok.two;refine wA 2 (sw.length:Int) (λi σ H'=>∃r c,σ = [some (.ref a),r,c]/\H' = H) (λQ q=>?_) ∅ ∅ ∅ ∅ ⟨none,none,rfl,rfl⟩ ?_ ?_
  ·walk_at "rdm";refine⟨_,.inl hS,?_⟩;simpa using q
  ·rintro i σ H' N hN hi ⟨r,c,rfl,rfl⟩;walk_at "rdm";refine wA 1 ((2+(i:Int)) / 2+1) (λj σ H2=>∃c,σ = [some (.ref a),some (.int (2+(i:Int))),c]/\H2=H') (λQ q=>?_) ∅ ∅ ∅ ∅ ⟨_,rfl,rfl⟩ ?_ ?_
   ·walk_at "rdm";exact q
   ·rintro j σ H2 N2 gT hj ⟨c,rfl,rfl⟩;walk_at "rdm";have e1:((2:Int)+(i:Int)).toNat=(1+j)+(1+i - j):=by lia
    have e2:((1:Int)+(j:Int)).toNat=1+j:=by lia
    have e3:((2:Int)+(i:Int) - (1+(j:Int))).toNat=1+i - j:=by lia
    have g:=ok.no (1+j) (1+i - j) ∅ ∅ ∅
    refine⟨_,hS,_,gi ∅ ∅,_,hS,_,gi ∅ ∅,_,hS,_,gi ∅ ∅,?_⟩
    walk_at "rdm";rw[e1,e2,e3];exact⟨∅,gT _ _ ⟨_,rfl,rfl⟩⟩
   ·rintro σ H2 ⟨c,rfl,rfl⟩;exact hN _ _ ⟨_,_,rfl,rfl⟩
  ·rintro σ H' ⟨r,c,rfl,rfl⟩;exact q
theorem akN(T:Tx K mg A)(aG:bF mg base A.br A.aX):aY P w K mg base bw 1 A.Mw A.Mx ["zones"] (adt K):=by
 refine T.Xg.ok DH (λvs H Q E h=>?_) (λaQ Ar outer s H vs Q E hr h=>?_)
 ·obtain⟨a,ts,z,rfl,_⟩:=h
  rfl
 ·obtain⟨a,ts,z,rfl,hz,ok,q⟩:=h;refine⟨_,(aD (aR (i:=1) DH.nd rfl OL_ (eW au))
   (aD (cV cL rfl (c_ (aa 0)) (j_ rfl (dz (bE (i:=2) DH.nd rfl OL_) (dz (bE (i:=3) DH.nd rfl OL_) jH)))
   (aK (dP (kX j8 PySem.F.slot_list_extend PySem.F.type_list_extend acA (aa 1) (ah (aF SR (eW (ah (aa 3) au)) (aa 2)) au)))))
   (aK (bG (aa 1))))),?_⟩
  walk_at "rdm";refine λl hl=>?_;refine rl a (ts.map V.ref) (λi σ H'=>∃r c,σ = [some (.ref a),some (.ref l),r,c]/\aj H H'/\H' l=some (.lst ((counts (z.take i)).map V.int))) (λQ q=>q) (aj.put hl |>.seq hz.sq) ⟨none,none,rfl,aj.put hl,aE⟩ (by rintro i σ H' _ ⟨r,c,rfl,hs,_⟩;exact hs.seq hz.sq) ?_ ?_
  ·rintro i x σ H' N hN hx ⟨r,c,rfl,hs,h1⟩;obtain⟨t,p,rfl,hp,ht⟩:=hz.at hx;refine nv (aL.of (hs _ _ ht)) rfl ?_;obtain⟨g1,g2,g3,g4⟩:=ok.r p (get_mem hp);have g5:=Tg ok i;walk_at "rdm";refine⟨⟨_,az.of h1⟩,λp1 pQ=>⟨∅,∅,∅,λp2 ig=>?_⟩⟩
   have s1:=(aj.put (o:=.lst [V.int p.2]) pQ).trans (aj.put (o:=.lst (List.replicate p.1.toNat [V.int p.2]).flatten) ig);refine⟨_,s1 _ _ h1,?_,hN _ _ ⟨_,_,rfl,aj.put2 (hs.trans s1) hl,?_⟩⟩
   ·simp only[Ti,List.length_map,List.length_replicate];lia
   ·rw[aE,take_succ_get hp,Tf,bT,Ti];simp[counts]
  ·rintro σ H' ⟨r,c,rfl,hs,h1⟩;walk_at "rdm";rw[lenZ hz.n,c9] at h1;exact q _ _ hs hl h1
theorem Yp(T:Tx K mg A)(aG:bF mg base A.br A.aX):aY P w K mg base bw 1 A.My A.Mz ["ring_cells", "spares"] (adu K):=by
 refine T.NW.ok zQ (λvs H Q E h=>?_) (λaQ Ar outer s H vs Q E hr h=>?_)
 ·obtain⟨a,rc,s,rfl,_⟩:=h
  rfl
 ·obtain⟨a,rc,s,rfl,hS,hl,hc,f_,C9,q⟩:=h;refine⟨_,(aD (aR (i:=2) zQ.nd rfl OL_ (eW au))
   (aD (cV cL rfl (HP rfl T.Af (ah (aa 0) au)) (j_ rfl (dz (bE (i:=3) zQ.nd rfl OL_) (dz (bE (i:=4) zQ.nd rfl OL_) jH)))
   (aK (cV cL rfl (lJ rfl T.gA (ah (aF nZ (aa 4) (aa 1)) au)) (bE (i:=5) zQ.nd rfl OL_)
   (aK (dP (kX j8 lG lH kY (aa 2) (ah (dD (ah (aa 3) (ah (aa 5) au))) au)))))))
   (aK (bG (aa 2))))),?_⟩
  walk_at "rdm";refine λl eB=>?_;have l6:=adi (s:=s) f_ (λc hx=>hc c hx);refine re a (rc.map V.int) (λi σ H'=>∃r c pl ts,σ = [some (.ref a),some (.int s),some (.ref l),r,c,pl]/\aj H H'/\(∀t∈ts,H t=none)/\Zn H' l ts (fH s 0 (rc.take i))) (λQ q=>?_) (aj.put eB |>.seq hS)
   ⟨none,none,none,[],rfl,aj.put eB,(by intro t ht;cases ht),aE,rfl,by intro i t p h;simp at h⟩ (by rintro i σ H' _ ⟨r,c,pl,ts,rfl,hs,_⟩;exact hs.seq hS) ?_ ?_
  ·walk_at "rdm";exact q
  ·rintro i x σ H' T1 N hN hx ⟨r,c,pl,ts,rfl,hs,n8,hz⟩ hT;obtain⟨c0,OF,rfl⟩:=dY hx;obtain⟨g1,g2⟩:=hc c0 (get_mem OF);refine nv (aL.of aE) rfl ?_;walk_at "rdm";have Yq:=aj.put (o:=.tup [.int i,.int c0]) hT;refine Cp (c0 - s) (λj σ H2=>∃pl ts,σ = [some (.ref a),some (.int s),some (.ref l),some (.int i),some (.int c0),pl]/\aj H H2/\(∀t∈ts,H t=none)/\Zn H2 l ts (fH s 0 (rc.take i)++(List.range j).map λ(k:Nat)=>((i:Int),(k:Int)))) (λQ q=>?_) ∅ ∅ ?_ ?_ ?_
   ·walk_at "rdm";exact q
   ·exact⟨_,ts,rfl,hs.trans Yq,n8,by simpa using hz.same Yq⟩
   ·rintro j σ H2 N2 gT hj ⟨pl,ts,rfl,mZ,OG,jB⟩;walk_at "rdm";refine⟨⟨_,jB.sq⟩,λp hp=>⟨_,aj.put hp _ _ jB.l,?_,gT _ _ ⟨_,ts++[p],rfl,aj.put2 (mZ.trans (aj.put hp)) eB,?_,?_⟩⟩⟩
    ·have h1:=jB.n;have h2:=l6 i;simp only[List.length_map,List.length_append,List.length_range] at h1 ⊢;lia
    ·intro t ht;rcases fE.mp ht with ht | ht
     ·exact OG t ht
     ·rw[fQ.mp ht];exact mZ.free hp
    ·have:=jB.snoc hp (i:Int) (j:Int);rw[vn,bT,← pY];exact this
   ·rintro σ H2 ⟨pl,ts,rfl,mZ,OG,jB⟩;refine hN _ _ ⟨_,_,_,ts,rfl,mZ,OG,?_⟩;rw[take_succ_get OF,Tc];have hi:=cT OF;simpa[fH,Nat.min_eq_left (Nat.le_of_lt hi)] using jB
  ·rintro σ H' ⟨r,c,pl,ts,rfl,hs,n8,hz⟩;walk_at "rdm";rw[aM,c9] at hz;exact q _ _ _ hs eB n8 hz
theorem Yr(T:Tx K mg A)(aG:bF mg base A.br A.aX):aY P w K mg base bw 1 A.MA A.MB ["number_cells"] (adw K):=by
 refine T.NY.ok DI (λvs H Q E h=>?_) (λaQ Ar outer s H vs Q E hr h=>?_)
 ·obtain⟨a,ts,z,rfl,_⟩:=h
  rfl
 ·obtain⟨a,ts,z,rfl,hz,hlen,q⟩:=h;have hu:=qo hr;refine⟨_,(aD (aR (i:=1) DI.nd rfl OL_ Hy)
   (aD (cV cL rfl (HP rfl T.Af (ah (aa 0) au)) (j_ rfl (dz (bE (i:=2) DI.nd rfl OL_) (dz (bE (i:=3) DI.nd rfl OL_) jH)))
   (aK (yP hu (aa 1) (aa 3) (aa 2) rfl)))
   (aK (bG (aa 1))))),?_⟩
  walk_at "rdm";refine λd hd=>?_;refine re a (ts.map V.ref) (λi σ H'=>∃r c,σ = [some (.ref a),some (.ref d),r,c]/\aj H H'/\i<=z.length/\H' d=some (.dT (i6 0 (z.take i) []))) (λQ q=>?_) (aj.put hd |>.seq hz.sq)
   ⟨none,none,rfl,aj.put hd,eL _,aE⟩ (by rintro i σ H' _ ⟨r,c,rfl,hs,_⟩;exact hs.seq hz.sq) ?_ ?_
  ·walk_at "rdm";exact q
  ·rintro i x σ H' T1 N hN hx ⟨r,c,rfl,hs,hi,h1⟩ hT;obtain⟨t,p,rfl,hp,ht⟩:=hz.at hx;refine nv (aL.of aE) rfl ?_;walk_at "rdm";have C9:=hs.trans (aj.put (o:=.tup [.int i,.ref t]) hT);have hl:=Te (z.take i) 0 [];have qT:=cT hp;rw[dH,List.length_nil] at hl;refine⟨_,lT.t (k:=kT p) (aj.put hT _ _ h1) (C9 _ _ ht) (by rw[rO];lia),hN _ _ ⟨_,_,rfl,aj.put2 C9 hd,qT,?_⟩⟩
   rw[aE,take_succ_get hp,Td];simp[i6,Nat.min_eq_left (Nat.le_of_lt qT)]
  ·rintro σ H' ⟨r,c,rfl,hs,hi,h1⟩;walk_at "rdm";rw[lenZ hz.n,c9] at h1;exact q _ _ hs hd h1
theorem aq0(T:Tx K mg A)(aG:bF mg base A.br A.aX):aY P w K mg base bw 1 A.zX A.MD ["self"] (adA K):=by
 refine T.ai9.ok ahZ (λvs H Q E h=>?_) (λaQ Ar outer s H vs Q E hr h=>?_)
 ·obtain⟨C,p,P,fp,rfl,_⟩:=h
  rfl
 ·obtain⟨C,p,P,fp,rfl,hP,q⟩:=h;obtain⟨dx,a1,a2,a3,a4,ts,fs,rfl,h⟩:=hP;refine⟨_,(aK (bG (bX eT rfl T.dG dU (ah (cD (aa 0) rfl) au)))),?_⟩;wp_walk using T,h.o,h.f1,h.f2,h.f3,h.f4,h.f5,h.f6,h.m1,h.m2,h.m3,h.m4,h.m5,h.m6,h.m7,h.m8,h.m9,h.gK,h.iu,h.cp.cl,h.cp.n1,h.cp.n2,h.cp.n3,h.cp.n4,h.cp.n5,h.cp.n6;exact⟨_,.inl (az.of h.rc),by simpa  using q⟩
theorem akO(T:Tx K mg A)(aG:bF mg base A.br A.aX):aY P w K mg base bw 1 A.zY A.ME ["self"] (adB K):=by
 refine T.ajb.ok ah0 (λvs H Q E h=>?_) (λaQ Ar outer s H vs Q E hr h=>?_)
 ·obtain⟨C,p,P,fp,rfl,_⟩:=h
  rfl
 ·obtain⟨C,p,P,fp,rfl,hP,q⟩:=h;obtain⟨dx,a1,a2,a3,a4,ts,fs,rfl,h⟩:=hP;refine⟨_,(aK (bG (bX eT rfl T.dG dU (ah (cD (aa 0) rfl) au)))),?_⟩;wp_walk using T,h.o,h.f1,h.f2,h.f3,h.f4,h.f5,h.f6,h.m1,h.m2,h.m3,h.m4,h.m5,h.m6,h.m7,h.m8,h.m9,h.gK,h.iu,h.cp.cl,h.cp.n1,h.cp.n2,h.cp.n3,h.cp.n4,h.cp.n5,h.cp.n6;exact⟨_,.inl (h.nc.sq),by simpa[h.nc.n] using q⟩
theorem OH(T:Tx K mg A)(aG:bF mg base A.br A.aX):aY P w K mg base bw 1 A.zZ A.MF ["self", "ring"] (adD K):=by
 refine T.aje.ok ah1 (λvs H Q E h=>?_) (λaQ Ar outer s H vs Q E hr h=>?_)
 ·obtain⟨C,p,P,fp,r,rfl,_⟩:=h
  rfl
 ·obtain⟨C,p,P,fp,r,rfl,hP,h0,h1,h2,h3,q⟩:=h;obtain⟨dx,a1,a2,a3,a4,ts,fs,rfl,h⟩:=hP;refine⟨_,(aK (bG (aF tM (cD (aa 0) rfl) (aH bV (cD (aa 0) rfl) (aa 1) (λ_ _=>rfl))))),?_⟩;wp_walk using T,h.o,h.f1,h.f2,h.f3,h.f4,h.f5,h.f6,h.m1,h.m2,h.m3,h.m4,h.m5,h.m6,h.m7,h.m8,h.m9,h.gK,h.iu,h.cp.cl,h.cp.n1,h.cp.n2,h.cp.n3,h.cp.n4,h.cp.n5,h.cp.n6;refine⟨_,az.of h.rc,_,gi h0 h1,?_⟩;walk_at "rdm";exact⟨h2,∅,q⟩
theorem akP(T:Tx K mg A)(aG:bF mg base A.br A.aX):aY P w K mg base bw 1 A.z7 A.MG ["self"] (adC K):=by
 refine T.ajh.ok ah2 (λvs H Q E h=>?_) (λaQ Ar outer s H vs Q E hr h=>?_)
 ·obtain⟨C,p,P,fp,rfl,_⟩:=h
  rfl
 ·obtain⟨C,p,P,fp,rfl,hP,q⟩:=h;obtain⟨dx,a1,a2,a3,a4,ts,fs,rfl,h⟩:=hP;refine⟨_,(aK (bG (cD (aa 0) rfl))),?_⟩;wp_walk using T,h.o,h.f1,h.f2,h.f3,h.f4,h.f5,h.f6,h.m1,h.m2,h.m3,h.m4,h.m5,h.m6,h.m7,h.m8,h.m9,h.gK,h.iu,h.cp.cl,h.cp.n1,h.cp.n2,h.cp.n3,h.cp.n4,h.cp.n5,h.cp.n6;exact q
theorem akQ(T:Tx K mg A)(aG:bF mg base A.br A.aX):aY P w K mg base bw 1 A.z9 A.MI ["self", "ring", "other"] (adz K):=by
 refine T.ajp.ok ah4 (λvs H Q E h=>?_) (λaQ Ar outer s H vs Q E hr h=>?_)
 ·obtain⟨C,p,P,fp,i,j,rfl,_⟩:=h
  rfl
 ·obtain⟨C,p,P,fp,i,j,rfl,hP,hi,q⟩:=h;obtain⟨dx,a1,a2,a3,a4,ts,fs,rfl,h⟩:=hP;refine⟨_,(aK (bG (aH bV (cD (aa 0) rfl) (bX GD rfl T.Ae boot_abs (ah (aF nZ (aa 1) (aa 2)) au)) (λ_ _=>rfl)))),?_⟩;wp_walk using T,h.o,h.f1,h.f2,h.f3,h.f4,h.f5,h.f6,h.m1,h.m2,h.m3,h.m4,h.m5,h.m6,h.m7,h.m8,h.m9,h.gK,h.iu,h.cp.cl,h.cp.n1,h.cp.n2,h.cp.n3,h.cp.n4,h.cp.n5,h.cp.n6;refine⟨_,az.of h.sw,_,gi (k:=if i - j<0 then -(i - j) else i - j) (by split <;> lia) (by split <;> lia),?_⟩
  have e:(if i - j<0 then -(i - j) else i - j).toNat=(i - j).natAbs:=by split <;> lia
  rw[e];exact q
theorem Ys(T:Tx K mg A)(aG:bF mg base A.br A.aX):aY P w K mg base bw 1 A.z_ A.MJ ["self", "ring", "place"] (adF K):=by
 refine T.ajt.ok ah5 (λvs H Q E h=>?_) (λaQ Ar outer s H vs Q E hr h=>?_)
 ·obtain⟨C,p,P,fp,r,c,rfl,_⟩:=h
  rfl
 ·obtain⟨C,p,P,fp,r,c,rfl,hP,q⟩:=h;obtain⟨dx,a1,a2,a3,a4,ts,fs,rfl,h⟩:=hP;refine⟨_,(aD (jW (PW.pt (qM (gF (eE gH (aa 1) ak (bL _)) (iF (eE vU (aa 1) (bX eT rfl T.dG dU (ah (cD (aa 0) rfl) au)) (bL _)))))) (aK (bG gb)) bZ)
   (aK (bG (tu (iX vU (aa 2) ak (bL _)) (qg (iX gH (aa 2) (aH bV (cD (aa 0) rfl) (aa 1) (λ_ _=>rfl)) (bL _))))))),?_⟩
  wp_walk using h.o,h.f1,h.f2,h.f3,h.f4,h.f5,h.f6,h.m1,h.m2,h.m3,h.m4,h.m5,h.m6,h.m7,h.m8,h.m9,h.gK,h.iu,h.cp.cl,h.cp.n1,h.cp.n2,h.cp.n3,h.cp.n4,h.cp.n5,h.cp.n6;refine cF (λh0=>?_) (λh0=>⟨_,.inl (az.of h.rc),cF (λh1=>?_) (λh1=>?_)⟩)
  ·rw[j9 ∅] at q;exact q
  ·rw[aM] at h1;rw[j9 ∅] at q;exact q
  ·rw[aM] at h1;refine cF (λh2=>⟨_,az.of h.rc,_,gi ∅ ∅,?_⟩) (λh2=>?_)
   ·walk_at "rdm";have e:decide (c<P.rc.getD r.toNat 0)=decide (0<=r/\r<P.rc.length/\0<=c/\c<P.rc.getD r.toNat 0):=by
     by_cases h3:c<P.rc.getD r.toNat 0
     ·rw[kO h3,kO ⟨∅,∅,h2,h3⟩]
     ·rw[j9 h3,j9 ∅]
    rw[e];exact q
   ·rw[j9 ∅] at q;exact q
theorem Yt(T:Tx K mg A)(aG:bF mg base A.br A.aX):aY P w K mg base bw 1 A.Aa A.MK ["self", "number"] (adG K):=by
 refine T.ajw.ok ah6 (λvs H Q E h=>?_) (λaQ Ar outer s H vs Q E hr h=>?_)
 ·obtain⟨C,p,P,fp,k,rfl,_⟩:=h
  rfl
 ·obtain⟨C,p,P,fp,k,rfl,hP,h0,h1,q⟩:=h;obtain⟨dx,a1,a2,a3,a4,ts,fs,rfl,h⟩:=hP;refine⟨_,(aD (jW (PW.pt (qM (gF (eE gH (aa 1) ak (bL _)) (iF (eE vU (aa 1) (bX eT rfl T.dG dU (ah (cD (aa 0) rfl) au)) (bL _)))))) ia bZ)
   (aK (bG (aH bV (cD (aa 0) rfl) (aa 1) (λ_ _=>rfl))))),?_⟩
  wp_walk using h.o,h.f1,h.f2,h.f3,h.f4,h.f5,h.f6,h.m1,h.m2,h.m3,h.m4,h.m5,h.m6,h.m7,h.m8,h.m9,h.gK,h.iu,h.cp.cl,h.cp.n1,h.cp.n2,h.cp.n3,h.cp.n4,h.cp.n5,h.cp.n6;have hn:=h.nc.n;refine⟨∅,_,.inl h.nc.sq,by rw[aM];lia,?_⟩
  have hk:k.toNat<ts.length:=by lia
  have g1:(ts.map V.ref)[k.toNat]? = some (V.ref ts[k.toNat]):=by simp[hk]
  obtain⟨t,q',e1,e2,e3⟩:=h.nc.at g1;have ek:k=(k.toNat:Int):=by lia
  refine⟨_,h.nc.sq,V.ref ts[k.toNat],?_,?_⟩
  ·have:=rJ g1;rwa [← ek] at this
  ·rw[e1];exact q t q' e2 e3
theorem akR(T:Tx K mg A)(aG:bF mg base A.br A.aX):aY P w K mg base bw 1 A.MM A.MN ["spares", "ring_cells"] (adM K):=by
 refine T.Xp.ok ah8 (λvs H Q E h=>?_) (λaQ Ar outer s H vs Q E hr h=>?_)
 ·obtain⟨a,rc,s,rfl,_⟩:=h
  rfl
 ·obtain⟨a,rc,s,rfl,hS,hl,h0,hc,q⟩:=h;refine⟨_,(aK (cU (PW.pt (gF (eE gH (aa 0) ak (bL _)) (iF (dB vU (aa 0) (bX (S9 rfl) rfl T.uU boot_min (ah (aa 1) au)) (bL _))))) ia bZ)),?_⟩;walk_at "rdm";refine⟨∅,_,hS,hl,λM hM Yu=>⟨?_,q⟩⟩
  have:=hc M hM;lia
theorem akS(T:Tx K mg A)(aG:bF mg base A.br A.aX):aY P w K mg base bw 1 A.MQ A.MR ["number_cells", "bad_cells"] (adO K):=by
 refine T.Xr.ok ah9 (λvs H Q E h=>?_) (λaQ Ar outer s H vs Q E hr h=>?_)
 ·obtain⟨a,d,ts,z,aA,rfl,_⟩:=h
  rfl
 ·obtain⟨a,d,ts,z,aA,rfl,hz,hlen,hd,q⟩:=h;have hu:=qo hr;refine⟨_,(aK (bG (gP (N:=["number", "cell", "bad_cells"]) (nt:=2) (fv:=[1]) ‹cN.of› rfl (HP rfl T.Af (ah (aa 0) au)) (λC s H fp=>(Tt (K:=K) (n:=2) rfl rfl (dz (bE (i:=0) (show List.Nodup (["number", "cell", "bad_cells"]:List Str) by decide +kernel) rfl OL_) (dz (bE (i:=1) (show List.Nodup (["number", "cell", "bad_cells"]:List Str) by decide +kernel) rfl OL_) jH)))) (λC s H fp=>(oZ (FT (S3 hu (aa 1) (aa 2))))) (λC s H fp=>(aa 0))))),?_⟩
  walk_at "rdm";refine rcE a (ts.map V.ref) (λD i ys aC H2=>ys=(kq aA 0 (z.take i)).map V.int/\H2 D=some (.lst ys)/\aj H H2/\H D=none/\i<=z.length/\∃u v,aC = [u,v,some (.ref d)]) (λQ q=>by walk_at "rdm";exact q) hz.sq ?_ ?_ ?_ ?_
  ·intro D hD;exact⟨rfl,aE,aj.put hD,hD,eL _,_,_,rfl⟩
  ·rintro D i ys aC H2 ⟨e,e1,e2,e3,e4,_⟩;refine⟨e1,?_,e2.seq hz.sq⟩;have:=HX aA (z.take i) 0;rw[e,rO,aM];rw[dH] at this;lia
  ·rintro D i x ys aC H2 T1 N hN hx ⟨e,e1,e2,e3,e4,u,v,rfl⟩ hT;obtain⟨t,p,rfl,hp,ht⟩:=hz.at hx;have hl:=cT hp;refine nv (aL.of aE) rfl ?_;walk_at "rdm";have s1:=e2.trans (aj.put (o:=.tup [.int i,.ref t]) hT);refine⟨_,gf.t (k:=kT p) (s1 _ _ hd) (s1 _ _ ht),?_⟩;have eD:upd H2 T1 (.tup [.int i,.ref t]) D=some (.lst ys):=aj.put hT _ _ e1;refine cF (λhb=>⟨eD,hN _ _ _ ⟨?_,aE,aj.put2 s1 e3,e3,hl,_,_,rfl⟩⟩) (λhb=>hN _ _ _ ⟨?_,eD,s1,e3,hl,_,_,rfl⟩)
   ·rw[take_succ_get hp,HW,if_pos hb,bT,e,dH,xX (j0 hl),qY];rfl
   ·rw[take_succ_get hp,HW,if_neg hb,mJ,e]
  ·rintro D ys aC H2 ⟨e,e1,e2,e3,e4,u,v,rfl⟩;rw[lenZ hz.n,c9] at e;rw[e] at e1;exact q _ _ e2 e3 e1
theorem akT(T:Tx K mg A)(aG:bF mg base A.br A.aX):aY P w K mg base bw 1 A.DO A.Ac ["ring", "rings"] (aeO A.aX (qC iA) (qD "nearest_rings")):=by
 refine T.Xs.okC ah_ (λvs H Q E h=>?_) (λAr outer s H vs Q E hr h=>?_)
 ·obtain⟨r,n,rfl,_⟩:=h
  rfl
 ·obtain⟨r,n,rfl,h2,k9,tab,q⟩:=h;have o_:(Ar.deeper (envOfC "nearest_rings" (aV iA) s.heap.objs.size A.DO A.Ac.code)).in1.in1.depth<recursionLimit:=hr.depth;refine⟨_,(aK (bG (aeJ (c:=A.br) (P:=A.aX) (ps:=["other"]) (fs:=["ring"]) (fv:=[0]) rfl T.Ag rfl T.gA aG T.akz (nJ.of rfl rfl rfl rfl (by rfl) (by rfl) (by repeat (first | exact trivial | refine⟨rfl,?_⟩)) (by rfl) (by rfl) (by rfl) (by decide +kernel)) rfl rfl rfl (λ_ _ _ _=>rfl) (λf c2 s2 H2=>(dD (ah (bX GD rfl T.Ae boot_abs (ah (aF oR (pv 0) (pv 1)) au)) (ah (pv 0) au)))) rfl o_ rfl rfl rfl (ah (pv 1) au)))),?_⟩
  wp_walk using UA,rT;refine⟨n,rfl,h2,k9,kE r,λj hj=>⟨by unfold kE;dsimp only;lia,by unfold kE;dsimp only;lia⟩,λi j hi hj e=>by unfold kE at e;injection e with e1 e2;lia,tab,λj H2 hj sb tb=>?_,λD is H' a b c d e=>q D is H' a b c d e⟩
  have e:(if (j:Int) - r<0 then -((j:Int) - r) else(j:Int) - r)=(kE r j).1:=by unfold kE;dsimp only;split <;> lia
  refine⟨_,rfl,_,rfl,λp hp=>⟨hp,?_⟩⟩;rw[e]
  rfl
theorem Yv(T:Tx K mg A)(aG:bF mg base A.br A.aX):aY P w K mg base bw 1 A.MY A.MZ ["_law_script", "_law_k"] (kj K):=by
 refine T.pL.ok aia (λvs H Q E h=>?_) (λaQ Ar outer s H vs Q E hr h=>?_)
 ·obtain⟨a,ns,k,rfl,_⟩:=h
  rfl
 ·obtain⟨a,ns,k,rfl,hS,hl,hk,q⟩:=h;refine⟨_,(aD (jW (eE gH (aa 1) (bX eT rfl T.dG dU (ah (aa 0) au)) (bL _)) (aK (bG (aH bV (aa 0) (aa 1) (λ_ _=>rfl)))) bZ)
   (aK (bG ak))),?_⟩
  walk_at "rdm";refine⟨_,.inl hS,cF (λcE=>⟨_,hS,_,gi hk (by simpa using cE),q⟩) λCH=>?_⟩
  have e:fP ns k=0:=by
   unfold fP;rw[aM] at CH;rw[jg,sP ∅];rfl
  rw[e] at q;exact q
theorem OI(T:Tx K mg A)(aG:bF mg base A.br A.aX):aY P w K mg base bw 1 A.M0 A.M3 ["_law_cell", "_law_many"] afn:=by
 refine T.D_.ok zS (λvs H Q E h=>?_) (λaQ Ar outer s H vs Q E hr h=>?_)
 ·obtain⟨c,m,rfl,_⟩:=h
  rfl
 ·obtain⟨c,m,rfl,m0,m1,q⟩:=h;refine⟨_,(aD (aR (i:=2) zS.nd rfl OL_ (eW au))
   (aD (aR (i:=3) zS.nd rfl OL_ (aF d8 (aF gu (aa 0) ak) ak))
   (aD (cV cL rfl (lJ rfl T.gA (ah (aF d8 (aa 1) ak) au)) (bE (i:=4) zS.nd rfl OL_)
   (aD (aR (i:=3) zS.nd rfl OL_ (aF gu (aF d8 (aF d8 (aF mj (aa 3) (aa 3)) (aF mj ak (aa 3))) (aa 4)) ak))
   (aK (dP (kX j8 lG lH kY (aa 2) (ah (aa 3) au))))))
   (aK (bG (tV B_ (aa 2) (tU ak) tT)))))),?_⟩
  walk_at "rdm";intro p hp;refine Cp (m+1) (λi σ H'=>∃(x4:Option V) (nn:Int) (ns:List Int),σ = [some (.int c),some (.int m),some (.ref p),some (.int nn),x4]/\H' = upd H p (.lst (ns.map V.int))/\ns.length=i/\0<=nn/\nn<2147531918/\∀x∈ns,0<=x/\x<2147483647) (λQ q=>?_) ∅ ∅ ⟨none,_,[],rfl,rfl,rfl,∅,∅,λ_ h=>nomatch h⟩ ?_ ?_
  ·walk_at "rdm";exact q
  ·rintro i σ H' N hN hi ⟨x4,nn,ns,rfl,rfl,hn,n0,n1,nb⟩;walk_at "rdm";have k0:=fD (nn*nn+48271*nn+(i:Int)) (show (2147483647:Int)≠0 by decide)
   have k1:=fB (nn*nn+48271*nn+(i:Int)) (show (0:Int)<2147483647 by decide)
   refine⟨.inl ⟨∅,∅⟩,⟨_,az.of aE⟩,∅,hN _ _ ⟨_,_,ns++[(nn*nn+48271*nn+(i:Int)) % 2147483647],rfl,?_,by simp[hn],k0,∅,λx hx=>?_⟩⟩
   ·rw[bT];rfl
   ·rcases fE.mp hx with hx | hx
    ·exact nb x hx
    ·rw[fQ.mp hx];exact⟨k0,k1⟩
  ·rintro σ H' ⟨x4,nn,ns,rfl,rfl,hn,n0,n1,nb⟩;walk_at "rdm";refine⟨_,az.of aE,λl hl=>?_⟩;have yW:l≠p:=(bY aE hl).symm;have rL:H l=none:=by rw[aI yW] at hl;exact hl
   refine q l (ns.drop 1) _ (aj.put2 (aj.put hp) rL) rL ?_ ⟨by rw[ve];lia,λx hx=>nb x (Bf hx)⟩
   rw[aE,ad4 ∅]
theorem akU(T:Tx K mg A)(aG:bF mg base A.br A.aX):aY P w K mg base bw 1 A.M4 A.M5 ["_law_xs", "_law_rings"] (afo K):=by
 refine T.Xw.ok uQ (λvs H Q E h=>?_) (λaQ Ar outer s H vs Q E hr h=>?_)
 ·obtain⟨xa,xs,m,rfl,_⟩:=h
  rfl
 ·obtain⟨xa,xs,m,rfl,hx,X,h2,wU,q⟩:=h;refine⟨_,(aD (cU (dB lN (aF cS (aH bV (aa 0) ak (λ_ _=>rfl)) ak) ak (bL _)) (aD (aR (i:=2) uQ.nd rfl OL_ (aF dW ak (aF cS (aH bV (aa 0) ak (λ_ _=>rfl)) ak)))
   (aD (cU (dB lN (aF cS (aF tM (aH bV (aa 0) ak (λ_ _=>rfl)) ak) ak) ak (bL _)) (aK (aR (i:=2) uQ.nd rfl OL_ (aF dW ak (aF cS (aH bV (aa 0) ak (λ_ _=>rfl)) (aF rE ak ak))))) bZ)
   (aD (aR (i:=3) uQ.nd rfl OL_ (eW (ah ak au)))
   (aD (cV cL rfl (tF rfl T.gA (ah ak (ah (aa 1) au))) (bE (i:=4) uQ.nd rfl OL_)
   (aD (dP (kX j8 lG lH kY (aa 3) (ah (aF dW (aH bV (aa 3) (tL tN ak) (λ_ _=>rfl)) (aa 2)) au)))
   (aK (aR (i:=2) uQ.nd rfl OL_ (aF oR (aa 2) (aF cS (aH bV (aa 0) (aF d8 ak (aF gu (aa 4) ak)) (λ_ _=>rfl)) (aF d8 (aa 2) ak)))))))
   (aK (bG (aa 3))))))) bZ)
   (aD (aR (i:=5) uQ.nd rfl (Or.inr rfl) (aF dW ak (aF cS (aH bV (aa 0) ak (λ_ _=>rfl)) (aF rE ak ak))))
   (aK (bG (aF yL (eW (ah ak au)) (bX ac6 rfl T.Ag boot_sorted (ah (gP (N:=["_law_k", "_law_least", "_law_xs"]) (nt:=1) (fv:=[5,0]) ‹cN.of› rfl (tF rfl T.gA (ah ak (ah (aa 1) au))) (λC s H fp=>(bE (i:=0) (show List.Nodup (["_law_k", "_law_least", "_law_xs"]:List Str) by decide +kernel) rfl OL_)) (λC s H fp=>jL) (λC s H fp=>(aF dW (aa 1) (aF cS (aH (JD (K:=K) rfl) (aa 2) (aF d8 ak (aF gu (aa 0) ak)) (λ_ _=>rfl)) (aF d8 (aa 1) ak))))) au))))))),?_⟩
  have xl:=X.n;have g:∀k:Int,0<=k->k<24->fq (xs.map V.int) k=some (.int (xs.getD k.toNat 0)):=λk h0 h1=>gi h0 ∅
  walk_at "rdm";refine⟨_,az.of hx,_,g 10 ⋯ ⋯,?_⟩
  walk_at "rdm";refine cF (λh8=>⟨_,az.of hx,_,g 11 ⋯ ⋯,_,rfl,_,az.of hx,_,g 11 ⋯ ⋯,_,rfl,cF (λh9=>⟨_,az.of hx,_,g 11 ⋯ ⋯,⋯,_,rfl,?_⟩) λh9=>?_⟩) λh8=>⟨_,az.of hx,_,g 11 ⋯ ⋯,⋯,_,rfl,?_⟩
  ·skip
   intro l hl;have f_:1<=(1+xs.getD (Int.toNat 11) 0 % 10000000)/\(1+xs.getD (Int.toNat 11) 0 % 10000000)<=10000000:=⟨by have:=(X.md 11 (k:=10000000) ⋯).1;lia,by have:=(X.md 11 (k:=10000000) ⋯).2;lia⟩
   generalize (1+xs.getD (Int.toNat 11) 0 % 10000000)=s0 at f_ ⊢;refine wA 1 m (λj σ H'=>∃kk,σ = [some (.ref xa),some (.int m),some (.int (gO xs s0 j)),some (.ref l),kk,none]/\aj H H'/\H' l=some (.lst (((List.range (1+j)).map (sumF (gO xs s0))).map V.int)))
    (λQ q=>?_) ∅ ∅ ∅ ∅ ⟨none,rfl,aj.put hl,?_⟩ ?_ ?_
   ·walk_at "rdm";exact q
   ·rw[aE];simp[List.range_succ,sumF,gO]
   ·rintro j σ H' N hN hj ⟨kk,rfl,hs,h1⟩;have b:=CY xs f_.1 j;have Yw:0<=(1+(j:Int)) % 10/\(1+(j:Int)) % 10<10:=⟨fD _ ⋯,fB _ ⋯⟩
    walk_at "rdm";refine⟨⟨_,az.of h1⟩,_,az.of h1,_,HR (by simp;lia),?_⟩
    wp_walk using h1;refine⟨by rw[jD];lia,_,az.of (by rw[aI (bY hx hl)];exact hs _ _ hx),_,g _ ∅ ∅,_,rfl,∅,hN _ _ ⟨some (.int (1+(j:Int))),?_,aj.put2 hs hl,?_⟩⟩
    ·rw[gO]
    ·rw[aE,show 1+(j+1)=1+j+1 by lia,vn,bT,bT,jD,_L.range_getD ∅]
     congr 4;simp only[List.map_cons,List.map_nil,List.cons.injEq,and_true,V.int.injEq];rw[show 1+j - 1=j by lia,show 1+j=j+1 by lia,sumF]
   ·rintro σ H' ⟨kk,rfl,hs,h1⟩;walk_at "rdm";have e:1+(m - 1).toNat=m.toNat:=by lia
    rw[e] at h1;have so:=UX (f:=gO xs s0) f_.1 f_.2 (CY xs f_.1) (n:=m.toNat) ∅ ∅
    rw[show ((m.toNat:Nat):Int)=m by lia] at so
    exact q _ _ _ hs hl h1 so
  ·skip
   intro l hl;have f_:1<=(1+xs.getD (Int.toNat 11) 0 % 1000)/\(1+xs.getD (Int.toNat 11) 0 % 1000)<=10000000:=⟨by have:=(X.md 11 (k:=1000) ⋯).1;lia,by have:=(X.md 11 (k:=1000) ⋯).2;lia⟩
   generalize (1+xs.getD (Int.toNat 11) 0 % 1000)=s0 at f_ ⊢;refine wA 1 m (λj σ H'=>∃kk,σ = [some (.ref xa),some (.int m),some (.int (gO xs s0 j)),some (.ref l),kk,none]/\aj H H'/\H' l=some (.lst (((List.range (1+j)).map (sumF (gO xs s0))).map V.int)))
    (λQ q=>?_) ∅ ∅ ∅ ∅ ⟨none,rfl,aj.put hl,?_⟩ ?_ ?_
   ·walk_at "rdm";exact q
   ·rw[aE];simp[List.range_succ,sumF,gO]
   ·rintro j σ H' N hN hj ⟨kk,rfl,hs,h1⟩;have b:=CY xs f_.1 j;have Yw:0<=(1+(j:Int)) % 10/\(1+(j:Int)) % 10<10:=⟨fD _ ⋯,fB _ ⋯⟩
    walk_at "rdm";refine⟨⟨_,az.of h1⟩,_,az.of h1,_,HR (by simp;lia),?_⟩
    wp_walk using h1;refine⟨by rw[jD];lia,_,az.of (by rw[aI (bY hx hl)];exact hs _ _ hx),_,g _ ∅ ∅,_,rfl,∅,hN _ _ ⟨some (.int (1+(j:Int))),?_,aj.put2 hs hl,?_⟩⟩
    ·rw[gO]
    ·rw[aE,show 1+(j+1)=1+j+1 by lia,vn,bT,bT,jD,_L.range_getD ∅]
     congr 4;simp only[List.map_cons,List.map_nil,List.cons.injEq,and_true,V.int.injEq];rw[show 1+j - 1=j by lia,show 1+j=j+1 by lia,sumF]
   ·rintro σ H' ⟨kk,rfl,hs,h1⟩;walk_at "rdm";have e:1+(m - 1).toNat=m.toNat:=by lia
    rw[e] at h1;have so:=UX (f:=gO xs s0) f_.1 f_.2 (CY xs f_.1) (n:=m.toNat) ∅ ∅
    rw[show ((m.toNat:Nat):Int)=m by lia] at so
    exact q _ _ _ hs hl h1 so
  ·intro l0 eB;have hL:1<=1+xs.getD (Int.toNat 11) 0 % 100000000/\1+xs.getD (Int.toNat 11) 0 % 100000000<=100000000:=⟨by have:=(X.md 11 (k:=100000000) ⋯).1;lia,by have:=(X.md 11 (k:=100000000) ⋯).2;lia⟩
   generalize 1+xs.getD (Int.toNat 11) 0 % 100000000=L at hL ⊢;have s0:=aj.put (o:=.lst [V.int 0]) eB;refine Tn 1 m (λD i ys aC H2=>∃ns:List Int,ys=ns.map V.int/\ns.length=i/\(∀x∈ns,L<=x/\x<=2*L)/\H2 D=some (.lst ys)/\aj (upd H l0 (.lst [V.int 0])) H2/\upd H l0 (.lst [V.int 0]) D=none/\i<=60/\∃u,aC = [u,some (.int L),some (.ref xa)])
    (λQ q=>?_) ∅ ∅ ∅ ∅ ?_ ?_ ?_ ?_
   ·walk_at "rdm";exact q
   ·intro D hD;exact⟨[],rfl,rfl,(by intro x hx;cases hx),aE,aj.put hD,hD,∅,none,rfl⟩
   ·rintro D i ys aC H2 ⟨ns,rfl,e0,_,e1,e2,e3,e4,_⟩;exact⟨e1,g8 (by rw[aM];lia)⟩
   ·rintro D i ys aC H2 N hN hi ⟨ns,rfl,e0,eb,e1,e2,e3,e4,u,rfl⟩;have Yw:0<=(1+(i:Int)) % 10/\(1+(i:Int)) % 10<10:=⟨fD _ ⋯,fB _ ⋯⟩
    walk_at "rdm";have b1:=fD (xs.getD (12+(1+(i:Int)) % 10).toNat 0) (show L+1≠0 by lia)
    have b2:=fB (xs.getD (12+(1+(i:Int)) % 10).toNat 0) (show 0<L+1 by lia)
    refine⟨_,az.of (e2 _ _ (s0 _ _ hx)),_,g _ ∅ ∅,_,rfl,∅,e1,hN _ _ _ ⟨ns++[L+xs.getD (12+(1+(i:Int)) % 10).toNat 0 % (L+1)],by rw[bT];rfl,by simp[e0],?_,aE,aj.put2 e2 e3,e3,∅,_,rfl⟩⟩
    intro x hx;rcases fE.mp hx with hx | hx
    ·exact eb x hx
    ·rw[fQ.mp hx];generalize xs.getD (12+(1+(i:Int)) % 10).toNat 0 % (L+1)=y at b1 b2 ⊢;lia
   ·rintro D ys aC H2 ⟨ns,rfl,e0,eb,e1,e2,e3,e4,u,rfl⟩
    try walk_at "rdm"
    refine⟨ns,az.of e1,∅,λl ie hl hp hs=>?_⟩
    have Yx:=e2 _ _ aE;have fV:l0≠l:=bY Yx hl;refine⟨[V.int 0],by rw[aI fV];exact Yx,?_,λp ig=>?_⟩
    ·have:=hp.length_eq;simp;lia
    ·have kh:p≠l:=(bY aE ig).symm;have jT:H2 p=none:=by rw[aI kh] at ig;exact ig
     have hH:H p=none:=(s0.trans e2).free jT;have hHl:H l=none:=(s0.trans e2).free hl;have so:=adI hL.1 hL.2 (ns:=ie) (λx hx=>eb x (hp.mem_iff.mp hx)) hs (by rw[hp.length_eq];lia)
     rw[hp.length_eq,show ((ns.length+1:Nat):Int)=m by lia] at so
     exact q p (0::ie) _ (aj.put2 (aj.put2 (s0.trans e2) hHl) hH) hH (by rw[aE];rfl) so
theorem akV(T:Tx K mg A)(aG:bF mg base A.br A.aX):aY P w K mg base bw 1 A.Na A.Nb ["_law_spec_here", "_law_ring", "_law_beat", "_law_cells"] (afr K):=by
 refine T.Xz.ok qN (λvs H Q E h=>?_) (λaQ Ar outer s H vs Q E hr h=>?_)
 ·obtain⟨t,z,ao,sk,sw,za,bA,ca,sa,r,b,cl,bx,cz,rfl,_⟩:=h
  rfl
 ·obtain⟨t,z,ao,sk,sw,za,bA,ca,sa,r,b,cl,bx,cz,rfl,hS,ok,r0,r1,hz,hq,hlen,q⟩:=h;have pk:=ok.pl [];have Yy:=pk.sw.len;refine⟨_,(aD (aR (i:=4) qN.nd rfl OL_ (eW au))
   (aD (cV cL rfl (c_ (aa 3)) (j_ rfl (dz (bE (i:=5) qN.nd rfl OL_) (dz (bE (i:=6) qN.nd rfl OL_) jH)))
   (aD (aR (i:=7) qN.nd rfl OL_ (aF tM (aH bJ (aa 0) ak (λ_ _=>rfl)) (aH oW (aH bJ (aa 0) ak (λ_ _=>rfl)) (aa 5) (λ_ _=>rfl))))
   (aD (aR (i:=8) qN.nd rfl OL_ (aF dW (aa 2) (aH oW (aH bJ (aa 0) ak (λ_ _=>rfl)) (bX GD rfl T.Ae boot_abs (ah (aF nZ (aa 1) (aa 5)) au)) (λ_ _=>rfl))))
   (aD (aR (i:=9) qN.nd rfl OL_ (aF dW (aa 8) (aF cS (aF oR (aF dW (aF mj (aa 6) (aa 7)) (aF vQ (aa 5) (aH bJ (aa 0) ak (λ_ _=>rfl)))) (aa 8)) (aH bJ (aa 0) ak (λ_ _=>rfl)))))
   (aD (aR (i:=1) qN.nd rfl OL_ (aa 5))
   (aD (aR (i:=2) qN.nd rfl OL_ (aF d8 (aa 9) (aa 7)))
   (aK (dP (kX j8 lG lH kY (aa 4) (ah (dD (ah (aa 5) (ah (aa 6) (ah (aa 9) (ah (aa 2) au))))) au))))))))))
   (aK (bG (aa 4))))),?_⟩
  walk_at "rdm";intro l hl;have sl:=aj.put (o:=.lst []) hl;generalize hP:bN z ao sk sw [] = P at pk Yy hq q;have e1:P.rc=counts z:=by rw[← hP];rfl
  have e2:P.ao=ao:=by rw[← hP];rfl
  have e3:P.cA=sk:=by rw[← hP];rfl
  have e4:P.sw=sw:=by rw[← hP];rfl
  rw[← e1] at r1;have iz:=hS.o;have jA:=hS.c;have Yz:=hS.s;rw[← e1] at jA;rw[← e2,← e3] at iz;rw[← e4] at Yz;clear e1 e2 e3 e4 hP ok hS;refine rl cl (bx.map V.ref) (λi σ H'=>∃x y z w v u ts,σ = [some (.ref t),some (.int (a_ P (r,b) (cz.take i)).1),some (.int (a_ P (r,b) (cz.take i)).2),some (.ref cl),some (.ref l),x,y,z,w,v]/\aj H H'/\(∀t∈ts,H t=none)/\i<=cz.length/\Zt H' l ts (dZ P (r,b) (cz.take i))/\u=0) (λQ q=>q) (sl.seq hz.sq)
   ⟨none,none,none,none,none,0,[],rfl,sl,(λ_ h=>nomatch h),eL _,Zt.start,rfl⟩ (by rintro i σ H' _ ⟨x,y,z,w,v,u,ts,rfl,hs,_⟩;exact hs.seq hz.sq) ?_ ?_
  ·rintro i x σ H' N hN hx ⟨x0,y0,z0,w0',v0,u0,fL,rfl,hs,n8,hi,h1,_⟩;obtain⟨t',w,rfl,hw,ht⟩:=hz.at hx;have qT:=cT hw;obtain⟨w0,w1,w2,w3⟩:=hq w (get_mem hw);have pR:=pk.c w.1.toNat ∅
   obtain⟨e0,e1⟩:=k_ P (n:=P.rc.length) (cz.take i) (r,b) r0 r1 λq ki=>⟨(hq q (oB ki)).1,(hq q (oB ki)).2.1⟩;have es:a_ P (r,b) (cz.take (i+1))=dM P (a_ P (r,b) (cz.take i)) w:=by rw[take_succ_get hw,wD]
   have ws:dZ P (r,b) (cz.take (i+1))=dZ P (r,b) (cz.take i)++[qx P (a_ P (r,b) (cz.take i)) w]:=by rw[take_succ_get hw,wF]
   rw[es,ws] at hN;have wl:(dZ P (r,b) (cz.take i)).length=i:=by rw[nC,dH];lia
   generalize a_ P (r,b) (cz.take i)=st at e0 e1 hN ⊢;generalize dZ P (r,b) (cz.take i)=rows at h1 wl hN ⊢;refine nv (aL.of (hs _ _ ht)) rfl ?_;have k1:=aL.of (K:=K) (hs _ _ iz);have k2:=az.of (K:=K) (hs _ _ jA);have k3:=az.of (K:=K) (hs _ _ Yz);walk_at "rdm";have e:(if st.1 - w.1<0 then -(st.1 - w.1) else st.1 - w.1).toNat=(st.1 - w.1).natAbs:=by split <;> lia
   refine⟨_,k1,_,rfl,_,k1,_,rfl,ca,rfl,_,k2,_,gi w0 w1,_,rfl,_,rfl,∅,∅,_,k1,_,rfl,sa,rfl,_,k3,_,gi (k:=if st.1 - w.1<0 then -(st.1 - w.1) else st.1 - w.1) (by split <;> lia) (by split <;> lia),?_⟩
   rw[e];walk_at "rdm";have pl:=pk.ao;have pn:=pk.n1;refine⟨.inl ⟨∅,∅⟩,_,k1,_,rfl,_,rfl,.inl ⟨∅,∅⟩,_,k1,_,rfl,_,rfl,∅,⟨_,az.of h1.l⟩,λt1 n1=>?_⟩
   have en:st.2+P.sw.getD (st.1 - w.1).natAbs 0+(w.2*(P.ao / P.rc.getD w.1.toNat 0)+w.1*P.cA - (st.2+P.sw.getD (st.1 - w.1).natAbs 0)) % P.ao=rP P st w:=afq P w.1 w.2 _;rw[en];have hn:=h1.n;have e2:=aj.put n1 (o:=.tup [V.int w.1,V.int w.2,V.int (rP P st w),V.int (dM P st w).2]) _ _ h1.l;refine⟨_,e2,by simp;lia,hN _ _ ⟨_,_,_,_,_,_,fL++[t1],rfl,aj.put2 (hs.trans (aj.put n1)) hl,?_,qT,h1.snoc n1 (qx P st w),rfl⟩⟩
   intro t' lB;rcases fE.mp lB with lB | lB
   ·exact n8 t' lB
   ·rw[fQ.mp lB];exact hs.free n1
  ·rintro σ H' ⟨x0,y0,z0,w0',v0,u0,fL,rfl,hs,n8,hi,h1,_⟩;walk_at "rdm";rw[lenZ hz.n,c9] at h1;exact q _ _ _ hs hl n8 h1
theorem akW(T:Tx K mg A)(aG:bF mg base A.br A.aX):aY P w K mg base bw 1 A.Np A.Nq ["_law_one", "_law_other"] (afY K):=by
 refine T.XF.ok aib (λvs H Q E h=>?_) (λaQ Ar outer s H vs Q E hr h=>?_)
 ·obtain⟨t,u,k,o,b,cl,bx,b',uw,zw,rfl,_⟩:=h
  rfl
 ·obtain⟨t,u,k,o,b,cl,bx,b',uw,zw,rfl,hk,ho,q⟩:=h;refine⟨_,(aD (cU (dB vU (aH bJ (aa 1) ak (λ_ _=>rfl)) (aH bJ (aa 0) ak (λ_ _=>rfl)) (bL _)) (aK (bG gb)) bZ)
   (aD (cU (dB G2 (aH bJ (aa 1) ak (λ_ _=>rfl)) (aH bJ (aa 0) ak (λ_ _=>rfl)) rfl) (aK (bG gb)) bZ)
   (aK (bG (tu (Ga (aH bJ (aa 0) ak (λ_ _=>rfl)) (qg (aH bJ (aa 1) ak (λ_ _=>rfl)))) (tu (iX gH (aH bJ (aa 0) ak (λ_ _=>rfl)) (aF dW (aH bJ (aa 1) ak (λ_ _=>rfl)) (aH bJ (aa 1) ak (λ_ _=>rfl))) (bL _)) (qg (iX gH (aH bJ (aa 1) ak (λ_ _=>rfl)) (aF dW (aH bJ (aa 0) ak (λ_ _=>rfl)) (aH bJ (aa 0) ak (λ_ _=>rfl))) (bL _))))))))),?_⟩
  have k1:=aL.of (K:=K) hk.o;have o1:=aL.of (K:=K) ho.o;walk_at "rdt";unfold keepsK at q;refine⟨_,o1,_,rfl,_,k1,_,rfl,_,rfl,_,rfl,cF (λh1=>?_) λh1=>?_⟩
  ·rw[show decide (o.n<k.n)=false by simpa using h1] at q
   exact q
  rw[show decide (o.n<k.n)=true by simp;lia] at q
  refine⟨_,o1,_,rfl,_,k1,_,rfl,b,rfl,_,.inr (aL.of hk.b),rfl,wI _,?_⟩;rw[qz];refine cF (λh2=>by simpa[h2] using q) λh2=>⟨_,k1,_,rfl,k.w,rfl,?_⟩
  have h2':decide (o.n∈k.bh)=false:=by simpa using h2
  rw[h2'] at q;refine cF (λh3=>?_) λh3=>⟨_,o1,_,rfl,o.w,rfl,cF (λh4=>?_) λh4=>?_⟩
  ·refine⟨_,k1,_,rfl,_,o1,_,rfl,_,o1,_,rfl,_,rfl,_,rfl,_,rfl,cF (λh5=>⟨_,o1,_,rfl,_,k1,_,rfl,_,k1,_,rfl,_,rfl,_,rfl,_,rfl,?_⟩) λh5=>?_⟩
   ·simpa[h3,h5] using q
   ·simpa[h3,h5] using q
  ·refine⟨_,k1,_,rfl,_,o1,_,rfl,_,o1,_,rfl,_,rfl,_,rfl,_,rfl,cF (λh5=>⟨_,o1,_,rfl,_,k1,_,rfl,_,k1,_,rfl,_,rfl,_,rfl,_,rfl,?_⟩) λh5=>?_⟩
   ·simpa[h4,h5] using q
   ·simpa[h4,h5] using q
  ·simpa[h3,h4] using q
theorem OJ(T:Tx K mg A)(aG:bF mg base A.br A.aX):aY P w K mg base bw 1 A.Nu A.Nv ["_law_found"] afA:=by
 refine T.Ec.ok aid (λvs H Q E h=>?_) (λaQ Ar outer s H vs Q E hr h=>?_)
 ·obtain⟨n,rfl,_⟩:=h
  rfl
 ·obtain⟨n,rfl,q⟩:=h;refine⟨_,(aK (bG (tu (bX wz rfl T.sr vA (ah (aa 0) (ah (vL (v:=.ty "int") rfl T.xy boot_int rfl) au))) (qg (abA (bX wz rfl T.sr vA (ah (aa 0) (ah (vL (v:=.ty "bool") rfl T.OA boot_bool rfl) au)))))))),?_⟩;walk_at "rdm";refine⟨_,.int n,true,by rfl,?_⟩
  rw[if_pos rfl];exact⟨_,.int n,false,by rfl,q⟩
theorem OL(T:Tx K mg A)(aG:bF mg base A.br A.aX):aY P w K mg base bw 1 A.Nx A.Ny ["_law_known_here", "_law_begun"] (agK K):=by
 refine T.Ed.ok aie (λvs H Q E h=>?_) (λaQ Ar outer s H vs Q E hr h=>?_)
 ·obtain⟨kl,b,b9,ks,bg,rfl,_⟩:=h
  rfl
 ·obtain⟨kl,b,b9,ks,bg,rfl,hk,qR,hb,q⟩:=h;refine⟨_,(aK (bG (gP (N:=["_law_one", "_law_begun"]) (nt:=1) (fv:=[1]) ‹cN.of› rfl (c_ (aa 0)) (λC s H fp=>(bE (i:=0) (show List.Nodup (["_law_one", "_law_begun"]:List Str) by decide +kernel) rfl OL_)) (λC s H fp=>(oZ (dB (T5 (K:=K) rfl) (aH (kH (K:=K) rfl) (aa 0) ak (λ_ _=>rfl)) (aa 1) rfl))) (λC s H fp=>(aa 0))))),?_⟩
  walk_at "rdt";have e7:=hk.n;refine i8 kl (b9.map V.ref) (λD i ys aC H2=>∃(u:Option V) (ts:List Addr),ys=ts.map V.ref/\aC = [u,some (.ref b)]/\H2 D=some (.lst ys)/\aj H H2/\H D=none/\l9 H ts (eK (ks.take i) bg)) (λQ q=>q) hk.sq ?_ ?_ ?_ ?_
  ·intro D hD;exact⟨none,[],rfl,rfl,aE,aj.put hD,hD,l9.nil⟩
  ·rintro D i ys aC H2 ⟨u,ts,rfl,rfl,e1,e2,e3,e4⟩;refine⟨e1,g8 ?_,(hk.same e2).sq⟩;have:=kM (λk:Kn => !decide (k.n∈bg)) (ks.take i);rw[dH] at this;have e5:=e4.n;unfold eK at e5;rw[aM];lia
  ·rintro D i x ys aC H2 N hN hx ⟨u,ts,rfl,rfl,e1,e2,e3,e4⟩;obtain⟨t,ht,rfl⟩:=dY hx;have hi:i<ks.length:=by rw[← e7];exact cT ht
   obtain⟨b2,cl,bx,hK⟩:=hk.t i t ks[i] ht (bC hi);have et:=wW (p:=λk:Kn => !decide (k.n∈bg)) (bC hi);walk_at "rdt";refine⟨_,aL.of (e2 _ _ hK.o),_,rfl,_,.inr (aL.of (e2 _ _ hb)),rfl,wI _,cF (λh1=>?_) λh1=>?_⟩
   ·rw[qz] at h1;refine⟨e1,hN _ _ _ ⟨_,ts++[t],by simp,rfl,aE,aj.put2 e2 e3,e3,?_⟩⟩
    unfold eK at e4 ⊢;rw[et,if_pos (by simpa using h1)]
    exact e4.snoc ⟨_,_,_,hK⟩
   ·rw[qz] at h1;refine hN _ _ _ ⟨_,ts,rfl,rfl,e1,e2,e3,?_⟩;unfold eK at e4 ⊢;rw[et,if_neg (by simpa using h1),mJ]
    exact e4
  ·rintro D ys aC H2 ⟨u,ts,rfl,rfl,e1,e2,e3,e4⟩;rw[aM,e7,c9] at e4;exact q D ts H2 e2 e3 ((e4.same e2).zu e1)
theorem akX(T:Tx K mg A)(aG:bF mg base A.br A.aX):aY P w K mg base bw 2 A.Ln A.Lo ["behind"] (ad_ K):=by
 have qU:=OE (P:=P) (w:=w) (base:=base) T aG;refine T.WE.ok DF (λvs H Q E h=>?_) (λaQ Ar outer s H vs Q E hr h=>?_)
 ·obtain⟨b,ns,rfl,_⟩:=h
  rfl
 ·obtain⟨b,ns,rfl,hS,hR,q⟩:=h;refine⟨_,(aD (aR (i:=1) DF.nd rfl OL_ (tL tN ak))
   (aK (cV cL rfl (Gp (aa 0)) (bE (i:=2) DF.nd rfl OL_)
   (aD (dP (aZ qU (hr.mono (by first | decide | lia)) rfl T.uT T.sf.kp T.uS .nil aP (ah (aa 2) (ah (aF d8 (aa 1) ak) (ah (jG (v:=.int 99) rfl T.aks ⟨_,rfl⟩) (ah mX au))))))
   (aK (aR (i:=1) DF.nd rfl OL_ (aa 2))))))),?_⟩
  walk_at "rdm";refine rt b (ns.map V.int) (λi σ H'=>∃x,σ = [some (.ref b),some (.int (y_ (-1) ns i)),x]/\H' = H) (λQ q=>q) hS ⟨none,rfl,rfl⟩ (by rintro i σ H' _ ⟨x,rfl,rfl⟩;exact hS) ?_ ?_
  ·rintro i x σ H' N hN hx ⟨x0,rfl,rfl⟩;obtain⟨n,hn,rfl⟩:=dY hx;have st:=hR.step hn;walk_at "rdm";exact⟨n,_,99,_,rfl,st.1,st.2,hN _ _ ⟨some (.int n),by rw[ad8 hn],rfl⟩⟩
  ·rintro σ H' ⟨x0,rfl,rfl⟩;walk_at "rdm";exact q
theorem akY(T:Tx K mg A)(aG:bF mg base A.br A.aX):aY P w K mg base bw 2 A.LH A.LI ["heap", "thing"] agd:=by
 have YA:=akI (P:=P) (w:=w) (base:=base) T aG;refine T.WS.ok zO (λvs H Q E h=>?_) (λaQ Ar outer s H vs Q E hr h=>?_)
 ·obtain⟨l,a,t,zs,rfl,_⟩:=h
  rfl
 ·obtain⟨l,a,t,zs,rfl,hl,ha,h0,hd,q⟩:=h;have jX:_+16<cLine:=oE (qb (by decide:16<=64) _) hr.units
  refine⟨_,(aD (aR (i:=2) zO.nd rfl OL_ ak)
   (aD (aR (i:=3) zO.nd rfl OL_ (aZ YA (hr.mono (by first | decide | lia)) rfl T.WR T.NS.kp T.WQ .nil aP (ah (aa 0) (ah (aa 2) au))))
   (aD (Gk cL (PW.pt (yl (eE gH (aa 3) (bX eT rfl T.dG dU (ah (aa 0) au)) (bL _)) (yj (dB (Jj jX) (aH bV (aa 0) (aa 3) (λ_ _=>rfl)) (aa 1) (bL _)))))
   (aD (tw (aH bV (aa 0) (aa 3) (λ_ _=>rfl)) (yq (aa 0) (aa 2) set_list))
   (aD (aR (i:=2) zO.nd rfl OL_ (aa 3))
   (aK (aR (i:=3) zO.nd rfl OL_ (aZ YA (hr.mono (by first | decide | lia)) rfl T.WR T.NS.kp T.WQ .nil aP (ah (aa 0) (ah (aa 2) au))))))))
   (aK (tw (aa 1) (yq (aa 0) (aa 2) set_list)))))),?_⟩
  walk_at "rdm";refine⟨l,zs,0,rfl,hl,∅,?_⟩
  refine⟨λm σ H'=>∃(k:Nat) (ys:Ms),σ = [some (.ref l),some (.ref a),some (.int (k:Int)),some (.int ((iw ys k:Nat):Int))]/\H' = upd H l (.lst (mV ys))/\m+k=ys.length/\k<ys.length/\ys.length=zs.length/\iO H ys/\Down gq ys.length k (fm ys) (a,t)/\(ys.eraseIdx k).Perm (zs.eraseIdx 0),⟨zs.length,0,zs,rfl,(ad3 hl.l).symm,rfl,h0,rfl,hl.z,hd,.refl _⟩,?_⟩;rintro m σ H' ⟨k,ys,rfl,rfl,hm,hk,hy,hZ,dn,pe⟩;walk_at "rdm";have L:=aga ys k;have Lg:=agb ys k;have ln:=hl.n;refine⟨_,.inl (az.of aE),cF (λh1=>?_) (λh1=>?_)⟩
  ·rw[jx] at h1;have hc:iw ys k<ys.length:=by lia
   have g1:=fX.get (zs:=ys) hc;refine⟨_,az.of aE,_,g1,_,rfl,_,(hZ _ (cI hc)).fT hl.l,_,ha.fT hl.l,cF (λh4=>?_) (λh4=>?_)⟩
   ·refine⟨_,λ_ _ h=>h,_,az.of aE,_,g1,_,by rw[jx];exact wH hk,?_⟩
    rw[wX];have Z2:=Vy (k:=k) hZ (hZ _ (cI hc));refine⟨l,ys.set k ys[iw ys k],iw ys k,rfl,hl.set Z2 (by rw[mL];lia),∅,ys.length - iw ys k,∅,iw ys k,ys.set k ys[iw ys k],rfl,rfl,?_⟩
    rw[mL,wY hk];refine⟨∅,hc,hy,Z2,?_,(TL hk hc ∅).trans pe⟩
    have:=dn.step uD L hc (by rw[jc hc];exact h4)
    rw[jc hc] at this;exact this
   ·skip
    refine⟨_,by rw[jx];exact wH hk,?_⟩
    rw[show (mV ys).set k (V.ref a)=mV (ys.set k (a,t)) from wX ys k (a,t)];refine q _ ((wG hk (a,t)).trans (pe.cons _)) ?_;rw[mL,wY hk];exact dn.done uD L (λz=>h4 (by have:=z.2;rw[jc hc] at this;exact this))
  ·rw[jx] at h1;refine⟨_,by rw[jx];exact wH hk,?_⟩
   rw[show (mV ys).set k (V.ref a)=mV (ys.set k (a,t)) from wX ys k (a,t)];refine q _ ((wG hk (a,t)).trans (pe.cons _)) ?_;rw[mL,wY hk];exact dn.done uD L (λz=>h1 (by have:=z.1;lia))
theorem akZ(T:Tx K mg A)(aG:bF mg base A.br A.aX):aY P w K mg base bw 2 A.LJ A.LK ["plate", "ask"] (afw K [A.bK,A.bB] A.bW):=by
 have OM:=Yt (P:=P) (w:=w) (base:=base) T aG;refine T.WT.ok ahP (λvs H Q E h=>?_) (λaQ Ar outer s H vs Q E hr h=>?_)
 ·obtain⟨C,p,ap,P,fp,q',m,b,dx,rfl,_⟩:=h
  rfl
 ·obtain⟨C,p,ap,P,fp,q',m,b,dx,rfl,hC,hP,ha,hf,hn,q⟩:=h;refine⟨_,(aK (bG (gP (N:=["number", "plate"]) (nt:=1) (fv:=[0]) ‹cN.of› rfl (tF rfl T.gA (ah (cD (aa 1) rfl) (ah (aF d8 (cD (aa 1) rfl) (cD (aa 1) rfl)) au))) (λC s H fp=>(bE (i:=0) (show List.Nodup (["number", "plate"]:List Str) by decide +kernel) rfl OL_)) (λC s H fp=>jL) (λC s H fp=>(nB (aa 1) T.Yk OM (hr.mono (by first | decide | lia)) T.Xn .nil aP (ah (aa 0) au)))))),?_⟩
  wp_walk using T,ha.o;obtain⟨f0,m0,m1,fit⟩:=hf;refine Tn q'.first (q'.first+q'.many) (λD i ys aC H2=>∃(u:Option V) (ts:List Addr),aC = [u,some (.ref p)]/\ys=ts.map V.ref/\Zn H2 D ts ((P.nc.drop q'.first.toNat).take i)/\aj H H2/\H D=none/\i<=16) (λQ q=>?_) ∅ ∅ ∅ ∅ ?_ ?_ ?_ ?_
  ·wp_walk using T,ha.o
   try exact q
  ·intro D hD;exact⟨none,[],rfl,rfl,by rw[List.take_zero];exact Zn.start,aj.put hD,hD,∅⟩
  ·rintro D i ys aC H2 ⟨u,ts,rfl,rfl,g2,g3,g4,g5⟩;exact⟨g2.l,g8 (by rw[aM,g2.n,dH];lia)⟩
  ·rintro D i ys aC H2 N hN hi ⟨u,ts,rfl,rfl,g2,g3,g4,g5⟩;walk_at "rdm";obtain⟨lC,a1,a2,a3,a4,fL,fs,qV,hA⟩:=hP.same g3;refine⟨C,lC,fs,hA.o,hC,hA.m9,⟨C,p,P,fp,_,rfl,hP.same g3,∅,∅,λt q0 eq ht=>⟨g2.l,hN _ _ _ ⟨_,ts++[t],rfl,by rw[bT];rfl,?_,aj.put2 g3 g4,g4,∅⟩⟩⟩⟩
   rw[IY f0 eq];exact g2.push ht
  ·rintro D ys aC H2 ⟨u,ts,rfl,rfl,g2,g3,g4,g5⟩;rw[show (q'.first+q'.many - q'.first).toNat=q'.many.toNat by lia] at g2
   exact q _ _ _ g3 g4 g2
theorem ak0(T:Tx K mg A)(aG:bF mg base A.br A.aX):aY P w K mg base bw 2 A.LZ A.L0 ["dues"] (agy K A.bW A.cJ):=by
 have ak1:=akJ (P:=P) (w:=w) (base:=base) T aG;refine T.W0.ok ahU (λvs H Q E h=>?_) (λaQ Ar outer s H vs Q E hr h=>?_)
 ·obtain⟨l,ps,ds,rfl,_⟩:=h
  rfl
 ·obtain⟨l,ps,ds,rfl,hd,h7,q⟩:=h;refine⟨_,(aK (cU (iV (gC (aZ ak1 (hr.mono (by first | decide | lia)) rfl T.aiH T.WZ.kp T.aiG .nil aP (ah (aa 0) au)))) ia bZ)),?_⟩
  walk_at "rdm";exact⟨l,ps,ds,rfl,hd,_,rfl,by simpa using h7,q⟩
theorem ak2(T:Tx K mg A)(aG:bF mg base A.br A.aX):aY P w K mg base bw 2 A.L1 A.L3 ["due", "other"] (afW K A.bW A.cJ):=by
 have ak3:=akG (P:=P) (w:=w) (base:=base) T aG;refine T.W2.ok ahV (λvs H Q E h=>?_) (λaQ Ar outer s H vs Q E hr h=>?_)
 ·obtain⟨p,r,d,o,dx,ap,l,ts,m,b,cu,nA,zy,l',fL,m',b',zA,rfl,_⟩:=h
  rfl
 ·obtain⟨p,r,d,o,dx,ap,l,ts,m,b,cu,nA,zy,l',fL,m',b',zA,rfl,hd,ho,q⟩:=h;refine⟨_,(aK (bG (tu (iX kQ (cD (aa 0) rfl) (cD (aa 1) rfl) (bL _)) (qg (Ga (iX G2 (cD (aa 1) rfl) (cD (cD (aa 0) rfl) rfl) rfl) (qg (aZ ak3 (hr.mono (by first | decide | lia)) rfl T.aip T.WM.kp T.aio .nil aP (ah (cD (aa 0) rfl) (ah (cD (aa 1) rfl) au))))))))),?_⟩
  have eZ:=hd.o;have pD:=ho.o;have YB:=hd.a.o;unfold qF at eZ pD;unfold uq at YB;wp_walk using T,eZ,pD,YB;unfold pH at q;refine cF (λh1=>⟨_,.inr (aL.of hd.a.bh),rfl,wI _,?_⟩) λh1=>?_
  ·rw[qz];rw[show decide (o.n<d.n)=true by simpa using h1] at q
   refine cF (λh2=>?_) λh2=>⟨_,_,_,_,_,_,_,_,_,_,rfl,hd.a,ho.a,?_⟩
   ·simpa[h2] using q
   ·simpa[h2] using q
  ·rw[show decide (o.n<d.n)=false by simpa using h1] at q
   exact q
theorem ak4(T:Tx K mg A)(aG:bF mg base A.br A.aX):aY P w K mg base bw 2 A.L8 A.L_ ["dues", "kept", "begun"] (agA K A.bW A.cJ):=by
 have ON:=Yo (P:=P) (w:=w) (base:=base) T aG;refine T.W6.ok Ww (λvs H Q E h=>?_) (λaQ Ar outer s H vs Q E hr h=>?_)
 ·obtain⟨l,kd,b,ps,ds,aA,bg,H0,rfl,_⟩:=h
  rfl
 ·obtain⟨l,kd,b,ps,ds,aA,bg,H0,rfl,s0,hd,qR,hk,hb,q⟩:=h;have hu:=qo hr;refine⟨_,(aD (aR (i:=3) Ww.nd rfl OL_ (aZ ON (hr.mono (by first | decide | lia)) rfl T.W5 T.NU.kp T.W4 .nil aP (ah (aa 0) (ah (aa 2) au))))
   (aK (bG (gP (N:=["due", "begun", "kept"]) (nt:=1) (fv:=[2,1]) ‹cN.of› rfl (c_ (aa 3)) (λC s H fp=>(bE (i:=0) (show List.Nodup (["due", "begun", "kept"]:List Str) by decide +kernel) rfl OL_)) (λC s H fp=>(oZ (gC (bX (agw (K:=K) rfl rfl) rfl T.Oz boot_all (ah (gP (N:=["other", "begun"]) (nt:=1) (fv:=[1]) ‹cN.of› rfl (Vk (K:=K) rfl (acM hu (aa 2) (JF (K:=K) rfl (aa 0) rfl) (λ_ _=>rfl))) (λC s H fp=>(bE (i:=0) (show List.Nodup (["other", "begun"]:List Str) by decide +kernel) rfl OL_)) (λC s H fp=>jL) (λC s H fp=>(iX (aeg (K:=K) rfl) (aa 0) (aa 1) rfl))) au))))) (λC s H fp=>(aa 0)))))),?_⟩
  walk_at "rdt";refine⟨l,b,ps,ds,bg,H0,rfl,s0,hd,qR,hb,λL pl H1 s1 nL hL hl=>?_⟩;have OO:=s0.trans s1;have YC:=hl.n;have ll:(bR ds bg).length<=100:=cQ (kM _ _) qR;walk_at "rdt";refine i8 L (pl.map V.ref) (λD i ys aC H2=>∃(u:Option V) (eY:List Addr),ys=eY.map V.ref/\aC = [u,some (.ref b),some (.ref kd)]/\H2 D=some (.lst ys)/\aj H1 H2/\H1 D=none/\jz K A.bW A.cJ H0 eY (((bR ds bg).take i).filter λd=>(nU ds d).all λo=>decide (o∈bg))) (λQ q=>q) (az.of hL) ?_ ?_ ?_ ?_
  ·intro D hD;exact⟨none,[],rfl,rfl,aE,aj.put hD,hD,jz.nil⟩
  ·rintro D i ys aC H2 ⟨u,eY,rfl,rfl,e1,e2,e3,e4⟩;refine⟨e1,g8 ?_,az.of (e2 _ _ hL)⟩;have:=kM (λd:Dr=>(nU ds d).all λo=>decide (o∈bg)) ((bR ds bg).take i);rw[dH] at this;have e5:=e4.n;rw[aM];lia
  ·rintro D i x ys aC H2 N hN hx ⟨u,eY,rfl,rfl,e1,e2,e3,e4⟩;obtain⟨dp,kJ,rfl⟩:=dY hx;have hi:i<(bR ds bg).length:=by rw[← YC];exact cT kJ
   obtain⟨dx,ap,la,ts,m,b',cu,hD⟩:=hl.t i dp (bR ds bg)[i] kJ (bC hi);have eZ:=e2 _ _ (OO _ _ hD.o);unfold qF at eZ;have et:=wW (p:=λd:Dr=>(nU ds d).all λo=>decide (o∈bg)) (bC hi);have hmd:=(wZ.mp (cI hi)).1;obtain⟨j,hj,ej⟩:=jh.mp hmd;obtain⟨li,v1,v2,v3⟩:=hk.v j _ (by rw[bC hj,ej])
   generalize (bR ds bg)[i] = d at *
   wp_walk using T,eZ;have iP:=e2 _ _ (OO _ _ hk.d);have Jx:=e2 _ _ (OO _ _ v3);refine i8 li ((nU ds d).map V.int) (λD2 j zs fG H3=>∃(u:Option V),zs=(((nU ds d).take j).map λo=>decide (o∈bg)).map V.bl/\fG = [u,some (.ref b)]/\H3 D2=some (.lst zs)/\aj H2 H3/\H2 D2=none) (λQ q=>?_) (az.of Jx) ?_ ?_ ?_ ?_
   ·wp_walk using T,eZ;have hg:=gf.k (k:=uB d.n) iP;rw[v1] at hg;exact⟨_,hg,q⟩
   ·intro D2 n_;exact⟨none,rfl,rfl,aE,aj.put n_,n_⟩
   ·rintro D2 j zs fG H3 ⟨u,rfl,rfl,f1,f2,f3⟩;refine⟨f1,g8 ?_,az.of (f2 _ _ Jx)⟩;have:(nU ds d).length<=ds.length:=by unfold nU;rw[List.length_map];exact List.length_filter_le _ _
    simp only[List.length_map,List.length_take];lia
   ·rintro D2 j x zs fG H3 N3 hN3 hx3 ⟨u,rfl,rfl,f1,f2,f3⟩;obtain⟨o,ho,rfl⟩:=dY hx3;walk_at "rdt";refine⟨_,.inr (aL.of (f2 _ _ (e2 _ _ (s1 _ _ hb)))),rfl,wI _,f1,hN3 _ _ _ ⟨_,?_,rfl,aE,aj.put2 f2 f3,f3⟩⟩;rw[take_succ_get ho,bT,bT,qz];rfl
   ·rintro D2 zs fG H3 ⟨u,rfl,rfl,f1,f2,f3⟩;rw[aM,c9] at f1;refine⟨D2,rfl,_,az.of f1,cF (λh1=>?_) λh1=>?_⟩
    ·refine⟨f2 _ _ e1,hN _ _ _ ⟨_,eY++[dp],by simp,rfl,aE,aj.put2 (e2.trans f2) e3,e3,?_⟩⟩
     rw[et,if_pos (by rw[List.all_map] at h1;exact h1)]
     exact e4.snoc ⟨_,_,_,_,_,_,_,hD⟩
    ·refine hN _ _ _ ⟨_,eY,rfl,rfl,f2 _ _ e1,e2.trans f2,e3,?_⟩;rw[et,if_neg (by rw[List.all_map] at h1;exact h1),mJ]
     exact e4
  ·rintro D ys aC H2 ⟨u,eY,rfl,rfl,e1,e2,e3,e4⟩;rw[aM,YC,c9] at e4;exact q D eY H2 (s1.trans e2) (s1.free e3) e1 e4
theorem ak5(T:Tx K mg A)(aG:bF mg base A.br A.aX):aY P w K mg base bw 2 A.Ma A.Mb ["plate", "due"] (afB K [A.bK,A.bB] A.bW A.cJ):=by
 have Ah:=OH (P:=P) (w:=w) (base:=base) T aG;refine T.W7.ok ahX (λvs H Q E h=>?_) (λaQ Ar outer s H vs Q E hr h=>?_)
 ·obtain⟨C,p,dp,P,fp,d,dx,ap,l,ts,m,b,cu,rfl,_⟩:=h
  rfl
 ·obtain⟨C,p,dp,P,fp,d,dx,ap,l,ts,m,b,cu,rfl,hC,hP,ok,hd,ci,n1,q⟩:=h;refine⟨_,(aK (bG (bX (Ci rfl) rfl T.xA boot_sum (ah (gP (N:=["ring", "place", "plate"]) (nt:=2) (fv:=[0]) ‹cN.of› rfl (c_ (cD (aa 1) rfl)) (λC s H fp=>(Tt (K:=K) (n:=2) rfl rfl (dz (bE (i:=0) (show List.Nodup (["ring", "place", "plate"]:List Str) by decide +kernel) rfl OL_) (dz (bE (i:=1) (show List.Nodup (["ring", "place", "plate"]:List Str) by decide +kernel) rfl OL_) jH)))) (λC s H fp=>jL) (λC s H fp=>(nB (aa 2) T.OD Ah (hr.mono (by first | decide | lia)) T.NZ .nil aP (ah (aa 0) au)))) au)))),?_⟩
  have eZ:=hd.o;unfold qF at eZ;wp_walk using T,eZ;have hz:=hd.c;refine i8 l (ts.map V.ref) (λD i ys aC H2=>∃(u v:Option V),ys=((d.c.take i).map λq=>P.ao / P.rc.getD q.1.toNat 0).map V.int/\aC = [u,v,some (.ref p)]/\H2 D=some (.lst ys)/\aj H H2/\H D=none) (λQ q=>?_) hz.sq ?_ ?_ ?_ ?_
  ·wp_walk using T,eZ
   try exact q
  ·intro D hD;exact⟨none,none,rfl,rfl,aE,aj.put hD,hD⟩
  ·rintro D i ys aC H2 ⟨u,v,rfl,rfl,e1,e2,e3⟩;exact⟨e1,g8 (by rw[aM,aM,dH];lia),(hz.same e2).sq⟩
  ·rintro D i x ys aC H2 N hN hx ⟨u,v,rfl,rfl,e1,e2,e3⟩;obtain⟨t,w,rfl,hw,ht⟩:=(hz.same e2).at hx;obtain⟨w0,w1,w2,w3⟩:=ci w (get_mem hw);have pR:=ok.c w.1.toNat ∅
   refine nv (aL.of ht) rfl ?_;walk_at "rdm";obtain⟨lC,a1,a2,a3,a4,fL,fs,qV,hA⟩:=hP.same e2;refine⟨C,lC,fs,hA.o,hC,hA.m4,⟨C,p,P,fp,_,rfl,hP.same e2,w0,w1,pR.1,pR.2,e1,hN _ _ _ ⟨_,_,?_,rfl,aE,aj.put2 e2 e3,e3⟩⟩⟩;rw[take_succ_get hw,bT,bT];rfl
  ·rintro D ys aC H2 ⟨u,v,rfl,rfl,e1,e2,e3⟩;rw[lenZ hz.n,c9] at e1;exact⟨D,rfl,_,az.of e1,q H2 e2⟩
theorem ak6(T:Tx K mg A)(aG:bF mg base A.br A.aX):aY P w K mg base bw 2 A.Mr A.Mt ["swing", "rings"] (adq K):=by
 have ak7:=akM (P:=P) (w:=w) (base:=base) T aG;refine T.Xe.ok Wz (λvs H Q E h=>?_) (λaQ Ar outer s H vs Q E hr h=>?_)
 ·obtain⟨a,sw,n,rfl,_⟩:=h
  rfl
 ·obtain⟨a,sw,n,rfl,hS,ok,hn,q⟩:=h;refine⟨_,(aD (jW (eE zM (bX eT rfl T.dG dU (ah (aa 0) au)) (aa 1) (bL _)) ia bZ)
   (aD (cU (dB vR (aH bV (aa 0) ak (λ_ _=>rfl)) ak (bL _)) ia bZ)
   (aD (cV cL rfl (tF rfl T.gA (ah ak (ah (aa 1) au))) (bE (i:=2) Wz.nd rfl OL_)
   (aD (cU (PW.pt (gF (dB gH (aH bV (aa 0) (aa 2) (λ_ _=>rfl)) ak (bL _)) (iF (dB kQ (aH bV (aa 0) (aa 2) (λ_ _=>rfl)) (jG (v:=.int 1000000000) rfl T.Yi ⟨_,rfl⟩) (bL _))))) ia bZ)
   (aK (cU (dB gH (aH bV (aa 0) (aa 2) (λ_ _=>rfl)) (aH bV (aa 0) (aF nZ (aa 2) ak) (λ_ _=>rfl)) (bL _)) ia bZ))))
   (aK (dP (aZ ak7 (hr.mono (by first | decide | lia)) rfl T.ai5 T.Xf.kp T.ai4 .nil aP (ah (aa 0) au))))))),?_⟩
  walk_at "rdm";have hl:=ok.len;have h2:=ok.two;refine⟨_,.inl hS,by simpa using hl,_,hS,_,gi ∅ ∅,rfl,by rw[show (0:Int).toNat=0 from rfl,ok.z],?_⟩
  refine wA 1 n (λi σ H'=>∃r,σ = [some (.ref a),some (.int n),r]/\H' = H) (λQ q=>?_) ∅ ∅ ∅ ∅ ⟨none,rfl,rfl⟩ ?_ ?_
  ·walk_at "rdm";exact q
  ·rintro i σ H' N hN hi ⟨r,rfl,rfl⟩;walk_at "rdm";have e1:((1:Int)+(i:Int)).toNat=1+i:=by lia
   have e2:((1:Int)+(i:Int) - 1).toNat=1+i - 1:=by lia
   have g:=ok.pos (1+i) ∅ ∅
   have g2:=ok.up (1+i) ∅ ∅
   refine⟨_,hS,_,gi ∅ ∅,?_⟩
   walk_at "rdm";rw[e1];refine⟨∅,_,hS,_,gi ∅ ∅,?_⟩
   walk_at "rdm";rw[e1];refine⟨∅,_,hS,_,gi ∅ ∅,_,hS,_,gi ∅ ∅,?_⟩
   walk_at "rdm";rw[e1,e2];exact⟨∅,hN _ _ ⟨_,rfl,rfl⟩⟩
  ·rintro σ H' ⟨r,rfl,rfl⟩;walk_at "rdm";exact⟨a,sw,n,rfl,hS,ok,hn,q⟩
theorem ak8(T:Tx K mg A)(aG:bF mg base A.br A.aX):aY P w K mg base bw 2 A.z8 A.MH ["self", "ring", "place"] (adE K [A.bK,A.bB]):=by
 have Ah:=OH (P:=P) (w:=w) (base:=base) T aG;refine T.ajl.ok ah3 (λvs H Q E h=>?_) (λaQ Ar outer s H vs Q E hr h=>?_)
 ·obtain⟨C,p,P,fp,r,c,rfl,_⟩:=h
  rfl
 ·obtain⟨C,p,P,fp,r,c,rfl,hC,hP,h0,h1,h2,h3,h4,h5,h6,h7,q⟩:=h;obtain⟨dx,a1,a2,a3,a4,ts,fs,qV,h⟩:=id hP;refine⟨_,(aK (bG (aF cS (aF dW (aF vQ (aa 2) (nB (aa 0) T.OD Ah (hr.mono (by first | decide | lia)) T.NZ .nil aP (ah (aa 1) au))) (aF mj (aa 1) (cD (aa 0) rfl))) (cD (aa 0) rfl)))),?_⟩
  wp_walk using h.o,h.f1,h.f2,h.f3,h.f4,h.f5,h.f6,h.m1,h.m2,h.m3,h.m4,h.m5,h.m6,h.m7,h.m8,h.m9,h.gK,h.iu,h.cp.cl,h.cp.n1,h.cp.n2,h.cp.n3,h.cp.n4,h.cp.n5,h.cp.n6;refine⟨hC,C,p,P,fp,r,rfl,hP,h0,h1,h3,h4,?_⟩;wp_walk using h.o,h.f1,h.f2,h.f3,h.f4,h.f5,h.f6,h.m1,h.m2,h.m3,h.m4,h.m5,h.m6,h.m7,h.m8,h.m9,h.gK,h.iu,h.cp.cl,h.cp.n1,h.cp.n2,h.cp.n3,h.cp.n4,h.cp.n5,h.cp.n6;exact⟨.inl ⟨∅,∅⟩,.inl ⟨∅,∅⟩,h7,q⟩
theorem ak9(T:Tx K mg A)(aG:bF mg base A.br A.aX):aY P w K mg base bw 2 A.Ab A.ML ["self", "ring", "place"] (adH K [A.bK,A.bB]):=by
 have OP:=Ys (P:=P) (w:=w) (base:=base) T aG;refine T.ajz.ok ah7 (λvs H Q E h=>?_) (λaQ Ar outer s H vs Q E hr h=>?_)
 ·obtain⟨C,p,P,fp,r,c,rfl,_⟩:=h
  rfl
 ·obtain⟨C,p,P,fp,r,c,rfl,hC,hP,h0,h1,h2,h3,q⟩:=h;obtain⟨dx,a1,a2,a3,a4,ts,fs,qV,h⟩:=id hP;have hu:=qo hr;refine⟨_,(aD (cU (iV (gC (nB (aa 0) T.Yj OP (hr.mono (by first | decide | lia)) T.Xm .nil aP (ah (aa 1) (ah (aa 2) au))))) ia bZ)
   (aK (bG (acT hu (cD (aa 0) rfl) (dD (ah (aa 1) (ah (aa 2) au))) ⟨rfl,rfl,rfl,rfl⟩)))),?_⟩
  wp_walk using h.o,h.f1,h.f2,h.f3,h.f4,h.f5,h.f6,h.m1,h.m2,h.m3,h.m4,h.m5,h.m6,h.m7,h.m8,h.m9,h.gK,h.iu,h.cp.cl,h.cp.n1,h.cp.n2,h.cp.n3,h.cp.n4,h.cp.n5,h.cp.n6;refine⟨hC,C,p,P,fp,r,c,rfl,hP,?_⟩;rw[kO ⟨h0,h1,h2,h3⟩];wp_walk using h.o,h.f1,h.f2,h.f3,h.f4,h.f5,h.f6,h.m1,h.m2,h.m3,h.m4,h.m5,h.m6,h.m7,h.m8,h.m9,h.gK,h.iu,h.cp.cl,h.cp.n1,h.cp.n2,h.cp.n3,h.cp.n4,h.cp.n5,h.cp.n6;refine⟨by simp,.inr ⟨_,.inl h.cn⟩,λt nt=>⟨_,gf.t (k:=kT (r,c)) (aj.put nt _ _ h.cn) aE,q _ (aj.put nt)⟩⟩
theorem ak_(T:Tx K mg A)(aG:bF mg base A.br A.aX):aY P w K mg base bw 2 A.MO A.MP ["plate", "bad"] (adN K [A.bK,A.bB]):=by
 have OP:=Ys (P:=P) (w:=w) (base:=base) T aG;refine T.Xq.ok DJ (λvs H Q E h=>?_) (λaQ Ar outer s H vs Q E hr h=>?_)
 ·obtain⟨C,p,ba,P,fp,kr,bz,rfl,_⟩:=h
  rfl
 ·obtain⟨C,p,ba,P,fp,kr,bz,rfl,hC,hP,hz,hlen,nd,hv,q⟩:=h;have hu:=qo hr;refine⟨_,(aD (aR (i:=2) DJ.nd rfl OL_ Hy)
   (aD (cV cL rfl (c_ (aa 1)) (j_ rfl (dz (bE (i:=3) DJ.nd rfl OL_) (dz (bE (i:=4) DJ.nd rfl OL_) jH)))
   (aD (cU (PW.pt (gF (iV (gC (nB (aa 0) T.Yj OP (hr.mono (by first | decide | lia)) T.Xm .nil aP (ah (aa 3) (ah (aa 4) au))))) (iF (FT (S3 hu (dD (ah (aa 3) (ah (aa 4) au))) (aa 2)))))) ia bZ)
   (aK (yP hu (aa 2) (dD (ah (aa 3) (ah (aa 4) au))) gb rfl))))
   (aK (bG (aa 2))))),?_⟩
  walk_at "rdm";refine λd hd=>?_;refine rl ba (kr.map V.ref) (λi σ H'=>∃r c,σ = [some (.ref p),some (.ref ba),some (.ref d),r,c]/\aj H H'/\i<=bz.length/\H' d=some (.dT (cX (bz.take i)))) (λQ q=>q) (aj.put hd |>.seq hz.sq)
   ⟨none,none,rfl,aj.put hd,eL _,aE⟩ (by rintro i σ H' _ ⟨r,c,rfl,hs,_⟩;exact hs.seq hz.sq) ?_ ?_
  ·rintro i x σ H' N hN hx ⟨r,c,rfl,hs,hi,h1⟩;obtain⟨t,w,rfl,hw,ht⟩:=hz.at hx;refine nv (aL.of (hs _ _ ht)) rfl ?_;have uW:=hP.same hs;obtain⟨dx,a1,a2,a3,a4,ts,fs,qV,h⟩:=id uW;obtain⟨v0,v1,v2,v3⟩:=hv w (get_mem hw);have qT:=cT hw;wp_walk using h.o,h.f1,h.f2,h.f3,h.f4,h.f5,h.f6,h.m1,h.m2,h.m3,h.m4,h.m5,h.m6,h.m7,h.m8,h.m9,h.gK,h.iu,h.cp.cl,h.cp.n1,h.cp.n2,h.cp.n3,h.cp.n4,h.cp.n5,h.cp.n6;refine⟨hC,C,p,P,fp,_,_,rfl,uW,?_⟩;rw[kO ⟨v0,v1,v2,v3⟩];refine⟨true,rfl,by simp,λt1 n1=>?_⟩
   have tR:w∉bz.take i:=by
    intro hm;obtain⟨j,hj,e⟩:=jh.mp hm;rw[dH] at hj;rw[Ff] at e;have g1:bz[j]? = some w:=by rw[← e];exact bC ∅
    have:=(List.getElem?_inj ∅ nd).mp (g1.trans hw.symm)
    lia
   have s1:=aj.put (o:=.tup [V.int w.1,V.int w.2]) n1;refine⟨_,gf.t (k:=kT w) (s1 _ _ h1) aE,by rw[yZ tR];simp,λt2 n2=>?_⟩
   have s2:=s1.trans (aj.put (o:=.tup [V.int w.1,V.int w.2]) n2);refine⟨_,lT.t (k:=kT w) (s2 _ _ h1) aE (by rw[rO,cX,aM,dH];lia),hN _ _ ⟨_,_,rfl,aj.put2 (hs.trans s2) hd,qT,?_⟩⟩
   rw[aE,SW _ (yZ tR),take_succ_get hw];simp[cX]
  ·rintro σ H' ⟨r,c,rfl,hs,hi,h1⟩;walk_at "rdm";rw[lenZ hz.n,c9] at h1;exact q _ _ hs hd h1
theorem ala(T:Tx K mg A)(aG:bF mg base A.br A.aX):aY P w K mg base bw 2 A.MS A.MT ["ring_cells", "spares", "ring", "used"] (ae7 K A.aX (qC iA) (qD "nearest_rings")):=by
 have alb:=akT (P:=P) (w:=w) (base:=base) T aG;refine T.Xu.ok DK (λvs H Q E h=>?_) (λaQ Ar outer s H vs Q E hr h=>?_)
 ·obtain⟨ra,ud,r,sp,rc,us,rfl,_⟩:=h
  rfl
 ·obtain⟨ra,ud,r,sp,rc,us,rfl,Ei,h2,k9,s0,s1,hc,hud,tab,q⟩:=h;have hu:=qo hr;refine⟨_,(aD (cV cL rfl (c_ (aZ alb (hr.mono (by first | decide | lia)) rfl T.ajJ T.Xs.kp T.ajI .nil aP (ah (aa 2) (ah (bX eT rfl T.dG dU (ah (aa 0) au)) au)))) (bE (i:=4) DK.nd rfl OL_)
   (aD (aR (i:=5) DK.nd rfl OL_ (aH bV (aa 0) (aa 4) (λ_ _=>rfl)))
   (aK (cV cL rfl (tF rfl T.gA (ah (aF nZ (aa 5) (aa 1)) (ah (aa 5) au))) (bE (i:=6) DK.nd rfl OL_)
   (aK (cU (FT (acN hu (dD (ah (aa 4) (ah (aa 6) au))) (aa 3))) (aK (bG (dD (ah (aa 4) (ah (aa 6) au))))) bZ))))))
   (aK (bG rq))),?_⟩
  walk_at "rdm";refine wB ?_;walk_at "rdm";refine⟨_,.inl Ei,r,rc.length,by rw[aM],h2,k9,tab,λl is H1 sb t1 nl OQ ord=>⟨l,rfl,?_⟩⟩
  have k1:=(Kp.mk sb t1).step (aj.put (o:=.lst (is.map λ(i:Nat)=>V.int (i:Int))) OQ);refine qu.by l (is.map λ(i:Nat)=>V.int (i:Int)) (λi σ H'=>∃o c p,σ = [some (.ref ra),some (.int sp),some (.int r),some (.ref ud),o,c,p]/\aj (upd H1 l (.lst (is.map λ(i:Nat)=>V.int (i:Int)))) H'/\∀c∈(is.take i).flatMap (jO rc sp),c∈us)
   (az.of aE) ⟨none,none,none,rfl,aj.refl _,by simp⟩ (by rintro i σ H' _ ⟨o,c,p,rfl,sm,_⟩;exact az.of (sm _ _ aE)) ?_ ?_
  ·rintro i x σ H' N hN hx ⟨o,c,p,rfl,sm,tY⟩;obtain⟨k,hk,rfl⟩:=dY hx;have kl:k<rc.length:=fF.mp (ord.1.mem_iff.mp (get_mem hk));have kk:=k1.step sm;have ra':=kk.seq tab Ei;have ck:sp<=rc.getD k 0/\rc.getD k 0<=1000:=by
    have:=hc _ (cI kl);rw[show rc.getD k 0=rc[k] by simp[kl]]
    exact this
   walk_at "rdm";refine⟨_,ra',_,gi ∅ ∅,?_⟩
   try walk_at "rdm"
   rw[show ((k:Int)).toNat=k from rfl];refine wA (rc.getD k 0 - sp) (rc.getD k 0) (λj σ H3=>∃p,σ = [some (.ref ra),some (.int sp),some (.int r),some (.ref ud),some (.int (k:Int)),some (.int (rc.getD k 0)),p]/\aj H' H3/\∀j':Nat,j' < j->((k:Int),rc.getD k 0 - sp+(j':Int))∈us) (λQ q=>?_) ∅ ∅ ∅ ∅ ⟨p,rfl,aj.refl _,λj' z=>absurd z ∅⟩ ?_ ?_
   ·walk_at "rdm";exact q
   ·rintro j σ H3 N2 gT hj ⟨p,rfl,s3,kD⟩;walk_at "rdm";refine λt1 n1=>?_;have e1:=aj.put (o:=HO.tup [V.int (k:Int),V.int (rc.getD k 0 - sp+(j:Int))]) n1;have OR:=(kk.step s3).step e1;have ud3:=OR.get tab hud;refine⟨_,gf.t (k:=kT ((k:Int),rc.getD k 0 - sp+(j:Int))) ud3 aE,?_⟩;by_cases hm:((k:Int),rc.getD k 0 - sp+(j:Int))∈us
    ·rw[HY hm];refine ite_no (by simp) (gT _ _ ⟨_,rfl,s3.trans e1,λj' z=>?_⟩)
     by_cases e:j' = j
     ·rw[e];exact hm
     ·exact kD j' ∅
    ·rw[yZ hm,if_pos (show (none:Option V).isSome=false from rfl)];intro t2 n2;exact(q is _ ord (OR.step (aj.put n2))).2 _ t2 (ae6 tY hk ∅ kD hm) (OR.free n2) aE
   ·rintro σ H3 ⟨p,rfl,s3,kD⟩;refine hN _ _ ⟨_,_,_,rfl,sm.trans s3,ae4 tY hk λc hc=>?_⟩;obtain⟨j,hj,rfl⟩:=dh.mp hc;exact kD j (by have:=fF.mp hj;lia)
  ·rintro σ H' ⟨o,c,p,rfl,sm,tY⟩;walk_at "rdm";rw[aM,c9] at tY;exact(q is H' ord (k1.step sm)).1 (ae5 tY)
theorem alc(T:Tx K mg A)(aG:bF mg base A.br A.aX):aY P w K mg base bw 2 A.M7 A.M8 ["_law_cell", "_law_more"] (afp K):=by
 have Ai:=OI (P:=P) (w:=w) (base:=base) T aG;have ald:=akU (P:=P) (w:=w) (base:=base) T aG;refine T.Xx.ok mC (λvs H Q E h=>?_) (λaQ Ar outer s H vs Q E hr h=>?_)
 ·obtain⟨c,m,rfl,_⟩:=h
  rfl
 ·obtain⟨c,m,rfl,q⟩:=h;refine⟨_,(aD (aR (i:=2) mC.nd rfl OL_ (aZ Ai (hr.mono (by first | decide | lia)) rfl T.N6 T.D_.kp T.N1 .nil aP (ah (aa 0) (ah ak au))))
   (aD (aR (i:=3) mC.nd rfl OL_ (eW (ah (dD (ah (aF dW ak (aF cS (aH bV (aa 2) ak (λ_ _=>rfl)) ak)) (ah (aF dW ak (aF cS (aH bV (aa 2) ak (λ_ _=>rfl)) ak)) au))) au)))
   (aD (cV cL rfl (lJ rfl T.gA (ah (aF cS (aH bV (aa 2) ak (λ_ _=>rfl)) ak) au)) (bE (i:=4) mC.nd rfl OL_)
   (aK (dP (kX j8 lG lH kY (aa 3) (ah (dD (ah (aF dW ak (aF cS (aH bV (aa 2) (aF d8 ak (aF mj ak (aa 4))) (λ_ _=>rfl)) ak)) (ah (aF dW ak (aF cS (aH bV (aa 2) (aF d8 ak (aF mj ak (aa 4))) (λ_ _=>rfl)) ak)) au))) au)))))
   (aD (aR (i:=5) mC.nd rfl OL_ ak)
   (aD (aR (i:=6) mC.nd rfl OL_ (eW au))
   (aD (cV cL rfl (c_ (aa 3)) (j_ rfl (dz (bE (i:=7) mC.nd rfl OL_) (dz (bE (i:=8) mC.nd rfl OL_) jH)))
   (aD (aR (i:=5) mC.nd rfl OL_ (aF mj (aa 5) (aa 8)))
   (aK (aR (i:=6) mC.nd rfl OL_ (aF yL (aa 6) (aF SR (eW (ah (aa 8) au)) (aa 7)))))))
   (aD (aR (i:=9) mC.nd rfl OL_ (aF vQ (aa 5) (aF dW ak (aF cS (aH bV (aa 2) ak (λ_ _=>rfl)) ak))))
   (aD (qH (cU (dB lN (aF cS (aH bV (aa 2) ak (λ_ _=>rfl)) ak) ak (bL _)) (aK (aR (i:=9) mC.nd rfl OL_ (aF mj (aa 5) (aF d8 ak (aF gu (aa 1) (aF kG (aF rE ak ak) (aa 5))))))) bZ))
   (aK (bG (dD (ah (aa 3) (ah (aa 6) (ah (aa 9) (ah (aF cS (aH bV (aa 2) ak (λ_ _=>rfl)) (aa 9)) (ah (aZ ald (hr.mono (by first | decide | lia)) rfl T.ajR T.Xw.kp T.ajQ .nil aP (ah (aa 2) (ah (bX eT rfl T.dG dU (ah (aa 6) au)) au))) au)))))))))))))))),?_⟩
  walk_at "rdm";refine⟨c,24,rfl,⋯,⋯,λxa xs H1 s1 n1 hx X=>?_⟩
  have X:qE xs 24:=X;have xl:=X.n;have g:∀k:Int,0<=k->k<24->fq (xs.map V.int) k=some (.int (xs.getD k.toNat 0)):=λk h0 h1=>gi h0 ∅
  try walk_at "rdm"
  have y1:=X.md (Int.toNat 1) (k:=2) ⋯
  have y2:=X.md (Int.toNat 2) (k:=8) ⋯
  have y0:=X.md (Int.toNat 0) (k:=3) ⋯
  refine⟨_,az.of hx,_,g 1 ⋯ ⋯,_,rfl,_,az.of hx,_,g 2 ⋯ ⋯,_,rfl,λt0 OS l nl=>?_⟩
  generalize xs.getD (Int.toNat 1) 0 % 2=a1 at *
  generalize xs.getD (Int.toNat 2) 0 % 8=a2 at *
  have OQ:H1 l=none:=(aj.put OS).free nl;have pK:=Zn.one (c:=(2+a1,1+a2)) (aE (H:=H1) (a:=t0)) nl;have sA:aj H1 (upd (upd H1 t0 (HO.tup [V.int (2+a1),V.int (1+a2)])) l (HO.lst [V.ref t0])):=(aj.put OS).trans (aj.put nl);have OT:ZP [(2+a1,1+a2)]:=⟨λp hp=>by rw[fQ.mp hp];dsimp only;have:=y1;have:=y2;exact⟨∅,∅,∅,∅⟩,by simp;lia⟩
  generalize upd (upd H1 t0 (HO.tup [V.int (2+a1),V.int (1+a2)])) l (HO.lst [V.ref t0])=H2 at pK sA ⊢;generalize (2+a1,1+a2)=p0 at pK OT;refine Cp (xs.getD (Int.toNat 0) 0 % 3) (λi σ H'=>∃(x4:Option V) (ts:List Addr) (z:List (Int×Int)),σ = [some (.int c),some (.int m),some (.ref xa),some (.ref l),x4,none,none,none,none,none]/\aj H1 H'/\Zn H' l ts z/\ZP z/\z.length=i+1) (λQ q=>?_) (by have:=y0.1;lia) (by have:=y0.2;lia) ⟨none,[t0],[p0],rfl,sA,pK,OT,rfl⟩ ?_ ?_
  ·walk_at "rdm";have gU:=sA _ _ hx;exact⟨_,az.of gU,_,g 0 ⋯ ⋯,_,rfl,q⟩
  ·rintro i σ H' N hN hi ⟨x4,ts,z,rfl,s',hz,zp,zn⟩;have dm:(i:Int)<2:=by have:=y0.2;lia
   have YD:=s' _ _ hx;walk_at "rdm";have b1:=X.md (3+2*(i:Int)).toNat (k:=3) ⋯
   have b2:=X.md (4+2*(i:Int)).toNat (k:=8) ⋯
   refine⟨⟨_,hz.sq⟩,_,az.of YD,_,g _ ∅ ∅,_,rfl,_,az.of YD,_,g _ ∅ ∅,_,rfl,λp np=>⟨_,aj.put np _ _ hz.l,by rw[aM,hz.n];lia,hN _ _ ⟨_,ts++[p],z++[(1+xs.getD (3+2*(i:Int)).toNat 0 % 3,1+xs.getD (4+2*(i:Int)).toNat 0 % 8)],rfl,aj.put2 (s'.trans (aj.put np)) OQ,hz.snoc np _ _,zp.snoc ⟨∅,∅,∅,∅⟩,by simp[zn]⟩⟩⟩
  ·rintro σ H' ⟨x4,ts,z,rfl,s',hz,zp,zn⟩;have zl:=zp.zl ∅ (by have:=y0.2;lia)
   clear zp zn pK OT sA nl OS;walk_at "rdm";intro c0 OU;have bd:∀i,1<=eX (z.take i)/\eX (z.take i)<=777600000:=λi=>by
    have h1:=Cq (m:=60) ⋯ (z.take i) λp hp=>(zl.ok.r p (oB hp)).2.2
    have h2:=Tq (m:=60) ⋯ (show (z.take i).length<=5 by have:=zl.ok.l5;rw[dH];lia)
    have e:(60:Int) ^ 5=777600000:=by decide
    lia
   refine rl l (ts.map V.ref) (λi σ H2=>∃(r d:Option V) (ca:Addr),σ = [some (.int c),some (.int m),some (.ref xa),some (.ref l),x4,some (.int (eX (z.take i))),some (.ref ca),r,d,none]/\aj H' H2/\H' ca=none/\H2 ca=some (.lst ((counts (z.take i)).map V.int))) (λQ q=>q) (hz.same (aj.put OU)).sq ⟨none,none,c0,rfl,aj.put OU,OU,aE⟩ (by rintro i σ H2 _ ⟨r,d,ca,rfl,s2,_⟩;exact(hz.same s2).sq) ?_ ?_
   ·rintro i x σ H2 N hN gU ⟨r,d,ca,rfl,s2,nca,Aj⟩;obtain⟨t,p,rfl,hp,ht⟩:=(hz.same s2).at gU;refine nv (aL.of ht) rfl ?_;walk_at "rdm";have b:=bd i;have pr:=zl.ok.r p (get_mem hp);have cl:=Tg zl.ok i;refine⟨.inl ⟨∅,∅⟩,λp1 n1=>⟨∅,∅,∅,λp2 n2=>?_⟩⟩
    rw[U1];have sa1:=aj.put (o:=.lst [V.int p.2]) n1;have OV:=sa1.trans (aj.put (o:=.lst ((List.replicate p.1.toNat p.2).map V.int)) n2);refine⟨_,OV _ _ Aj,by rw[aM,aM,List.length_replicate];lia,λp3 n3=>hN _ _ ⟨some (.int p.1),some (.int p.2),p3,?_,(s2.trans OV).trans (aj.put n3),(s2.trans OV).free n3,?_⟩⟩
    ·rw[take_succ_get hp,adJ]
    ·rw[aE,aft hp,bT]
   ·rintro σ H2 ⟨r,d,ca,rfl,s2,nca,Aj⟩;rw[lenZ hz.n,c9] at Aj ⊢;have hb:=bd z.length;rw[c9] at hb;walk_at "rdm";have gU:=s2 _ _ (s' _ _ hx);have y7:=X.md (Int.toNat 7) (k:=900) ⋯
    have hq:1<=1000000000 / eX z:=(Int.le_ediv_iff_mul_le ∅).mpr ∅
    have ym0:=fD m (show 1000000000 / eX z≠0 by lia)
    have ym1:=fB m (show 0<1000000000 / eX z by lia)
    have w1:=U0 zl y7.1 (.inl y7.2);have w2:=U0 zl ym0 (.inr ym1);refine⟨_,az.of gU,_,g 7 ⋯ ⋯,_,rfl,.inl ⟨∅,∅⟩,λσ H3=>∃ao,σ = [some (.int c),some (.int m),some (.ref xa),some (.ref l),x4,some (.int (eX z)),some (.ref ca),r,d,some (.int ao)]/\H3=H2/\1<=ao/\ao<=1000000000/\∀p∈z,ao % p.2=0,
     ⟨_,az.of gU,_,g 8 ⋯ ⋯,_,rfl,cF (λ_=>⟨⋯,∅,∅,∅,.inl ⟨∅,∅⟩,_,rfl,rfl,w2.1,w2.2.1,w2.2.2⟩) λ_=>⟨_,rfl,rfl,w1.1,w1.2.1,w1.2.2⟩⟩,?_⟩
    rintro σ H3 ⟨ao,rfl,rfl,l1,l2,l3⟩;have cl:=rM z λp hp=>(zl.ok.r p hp).1;have H_:=zl.sm;have c2:=zl.ok.s2;walk_at "rdm";refine⟨_,az.of gU,_,g 9 ⋯ ⋯,_,rfl,∅,_,.inl (az.of Aj),xa,xs,_,rfl,gU,X,by rw[aM];lia,by rw[aM];lia,λsa sw H4 s4 OW Jg so=>?_⟩
    rw[aM,cl] at so;have k0:=fD (xs.getD (Int.toNat 9) 0) (show ao≠0 by lia)
    have k1:=fB (xs.getD (Int.toNat 9) 0) (show 0<ao by lia)
    try walk_at "rdm"
    intro t nt;have st:=aj.put (o:=.tup [V.ref l,V.ref ca,V.int ao,V.int (xs.getD (Int.toNat 9) 0 % ao),V.ref sa]) nt;have Ej:=(s2.trans s4).trans st;exact q t z ao _ sw l ts ca sa _ (s1.trans (s'.trans Ej)) ((s1.trans (s'.trans (s2.trans s4))).free nt) ⟨aE,hz.same Ej,(s4.trans st) _ _ Aj,st _ _ Jg⟩ ⟨zl,l1,l2,l3,k0,k1,so⟩
theorem Ek(T:Tx K mg A)(aG:bF mg base A.br A.aX):aY P w K mg base bw 2 A.Nc A.Nf ["_law_spec_here", "_law_ring", "_law_beat", "_law_cells"] (afs K):=by
 have ale:=akV (P:=P) (w:=w) (base:=base) T aG;refine T.Ad.ok DM (λvs H Q E h=>?_) (λaQ Ar outer s H vs Q E hr h=>?_)
 ·obtain⟨t,z,ao,sk,sw,za,bA,ca,sa,r,b,cl,bx,cz,rfl,_⟩:=h
  rfl
 ·obtain⟨t,z,ao,sk,sw,za,bA,ca,sa,r,b,cl,bx,cz,rfl,hS,ok,r0,r1,hz,hq,hlen,q⟩:=h;refine⟨_,(aD (cV cL rfl (c_ (aZ ale (hr.mono (by first | decide | lia)) rfl T.ajX T.Xz.kp T.ajW .nil aP (ah (aa 0) (ah (aa 1) (ah (aa 2) (ah (aa 3) au)))))) (bE (i:=4) DM.nd rfl OL_)
   (aD (aR (i:=1) DM.nd rfl OL_ (aH bJ (aa 4) ak (λ_ _=>rfl)))
   (aK (aR (i:=2) DM.nd rfl OL_ (aH bJ (aa 4) ak (λ_ _=>rfl))))))
   (aK (bG (dD (ah (aa 1) (ah (aa 2) au)))))),?_⟩
  walk_at "rdm";refine wB ?_;walk_at "rdm";refine⟨t,z,ao,sk,sw,za,bA,ca,sa,r,b,cl,bx,cz,rfl,hS,ok,r0,r1,hz,hq,hlen,λl ts H1 s1 n1 El h1=>?_⟩;have wl:=nC (bN z ao sk sw []) cz (r,b);have wr:=Tw (bN z ao sk sw []) cz (r,b);have ef:∀i,i<cz.length->∃x y,(dZ (bN z ao sk sw []) (r,b) cz).getD i [] = [(a_ (bN z ao sk sw []) (r,b) (cz.take (i+1))).1,x,y,(a_ (bN z ao sk sw []) (r,b) (cz.take (i+1))).2]:=λi hi=>UY _ _ _ hi;generalize bN z ao sk sw [] = P at *
  generalize dZ P (r,b) cz=rows at *
  refine⟨l,rfl,qu.by l (ts.map V.ref) (λi σ H'=>∃x,σ = [some (.ref t),some (.int (a_ P (r,b) (cz.take i)).1),some (.int (a_ P (r,b) (cz.take i)).2),some (.ref cl),x]/\H' = H1) (az.of h1.l) ⟨none,rfl,rfl⟩ (by rintro i σ H' _ ⟨_,rfl,rfl⟩;exact az.of h1.l) ?_ ?_⟩
  ·rintro i x σ H' N hN hx ⟨x0,rfl,rfl⟩;have hi:i<cz.length:=by
    have:=cT hx;rw[aM,h1.n,wl] at this;exact this
   obtain⟨u,eu,hu⟩:=h1.at (i:=i) (by rw[wl];exact hi)
   rw[hx] at eu;cases eu;obtain⟨c1,c2,e⟩:=ef i hi;rw[e] at hu;walk_at "rdm";refine⟨_,aL.of hu,_,rfl,_,aL.of hu,_,rfl,hN _ _ ⟨_,rfl,rfl⟩⟩
  ·rintro σ H' ⟨x0,rfl,rfl⟩;rw[aM,h1.n,wl,c9];walk_at "rdm";exact λu nu=>q u _ (s1.trans (aj.put nu)) (s1.free nu) aE
theorem YE(T:Tx K mg A)(aG:bF mg base A.br A.aX):aY P w K mg base bw 2 A.Nr A.Nt ["_law_known_here"] (afZ K):=by
 have alf:=akW (P:=P) (w:=w) (base:=base) T aG;refine T.N7.ok aic (λvs H Q E h=>?_) (λaQ Ar outer s H vs Q E hr h=>?_)
 ·obtain⟨kl,b9,ks,rfl,_⟩:=h
  rfl
 ·obtain⟨kl,b9,ks,rfl,hk,qR,q⟩:=h;have jX:_+16<cLine:=oE (qb (by decide:16<=64) _) hr.units
  refine⟨_,(aK (bG (gP (N:=["_law_one", "_law_known_here"]) (nt:=1) (fv:=[0]) ‹cN.of› rfl (c_ (aa 0)) (λC s H fp=>(bE (i:=0) (show List.Nodup (["_law_one", "_law_known_here"]:List Str) by decide +kernel) rfl (Or.inr rfl))) (λC s H fp=>(oZ (dB (afU (K:=K) rfl jX) (gP (N:=["_law_other", "_law_one"]) (nt:=1) (fv:=[0]) ‹cN.of› rfl (Vk (K:=K) rfl (aa 1)) (λC s H fp=>(bE (i:=0) (show List.Nodup (["_law_other", "_law_one"]:List Str) by decide +kernel) rfl OL_)) (λC s H fp=>(oZ (gC (aZ alf (hr.mono (by first | decide | lia)) rfl T.aj7 T.XF.kp T.aj6 .nil aP (ah (aa 1) (ah (aa 0) au)))))) (λC s H fp=>(aa 0))) (eW au) (bL _)))) (λC s H fp=>(aH (kH (K:=K) rfl) (aa 0) ak (λ_ _=>rfl)))))),?_⟩
  walk_at "rdt";have e7:=hk.n;refine i8 kl (b9.map V.ref) (λD i ys aC H2=>∃(u:Option V),ys=(((ks.take i).filter λk=>(ks.filter (keepsK k)).isEmpty).map (·.n)).map V.int/\aC = [u,some (.ref kl)]/\H2 D=some (.lst ys)/\aj H H2/\H D=none) (λQ q=>q) hk.sq ?_ ?_ ?_ ?_
  ·intro D hD;exact⟨none,rfl,rfl,aE,aj.put hD,hD⟩
  ·rintro D i ys aC H2 ⟨u,rfl,rfl,e1,e2,e3⟩;refine⟨e1,g8 ?_,(hk.same e2).sq⟩;have:=kM (λk=>(ks.filter (keepsK k)).isEmpty) (ks.take i);rw[dH] at this;simp only[List.length_map];lia
  ·rintro D i x ys aC H2 N hN hx ⟨u,rfl,rfl,e1,e2,e3⟩;obtain⟨t,ht,rfl⟩:=dY hx;have hi:i<ks.length:=by rw[← e7];exact cT ht
   have iP:=hk.same e2;obtain⟨b,cl,bx,hK⟩:=iP.t i t ks[i] ht (bC hi);walk_at "rdt";refine i8 kl (b9.map V.ref) (λD' j iy fG H3=>∃(v:Option V) (fL:List Addr),iy=fL.map V.ref/\fL.length=((ks.take j).filter (keepsK ks[i])).length/\fG = [v,some (.ref t)]/\H3 D' = some (.lst iy)/\aj H2 H3/\H2 D' = none) (λQ q=>q) iP.sq ?_ ?_ ?_ ?_
   ·intro D' Al;exact⟨none,[],rfl,rfl,rfl,aE,aj.put Al,Al⟩
   ·rintro D' j iy fG H3 ⟨v,fL,rfl,g0,rfl,g1,g2,g3⟩;refine⟨g1,g8 ?_,(iP.same g2).sq⟩;have:=kM (keepsK ks[i]) (ks.take j);rw[dH] at this;rw[aM,g0];lia
   ·rintro D' j x iy fG H3 N2 gT gU ⟨v,fL,rfl,g0,rfl,g1,g2,g3⟩;obtain⟨t2,uL,rfl⟩:=dY gU;have hj:j<ks.length:=by rw[← e7];exact cT uL
    obtain⟨b2,cl2,alg,hK2⟩:=(iP.same g2).t j t2 ks[j] uL (bC hj);have et:=wW (p:=keepsK ks[i]) (bC hj);walk_at "rdt";refine⟨t,t2,ks[i],ks[j],b,cl,bx,b2,cl2,alg,rfl,hK.same g2,hK2,_,rfl,cF (λh1=>⟨g1,gT _ _ _ ⟨_,fL++[t2],by rw[bT];rfl,?_,rfl,aE,aj.put2 g2 g3,g3⟩⟩) λh1=>gT _ _ _ ⟨_,fL,rfl,?_,rfl,g1,g2,g3⟩⟩
    ·rw[et,if_pos h1,e_,e_,g0];rfl
    ·rw[et,if_neg h1,mJ,g0]
   ·rintro D' iy fG H3 ⟨v,fL,rfl,g0,rfl,g1,g2,g3⟩;rw[aM,e7,c9] at g0;intro p np;have s3:=g2.trans (aj.put (o:=.lst []) np);have et:=wW (p:=λk=>(ks.filter (keepsK k)).isEmpty) (bC hi);have ee:(fL.map V.ref).isEmpty=(ks.filter (keepsK ks[i])).isEmpty:=by
     cases e:ks.filter (keepsK ks[i]) with
     | nil=>rw[e] at g0;rw[Fg.mp g0];rfl
     | cons y r =>
      rw[e] at g0;cases fL with
      | nil=>simp at g0
      | cons _ _=>rfl
    refine⟨D',rfl,_,az.of (aj.put np _ _ g1),az.of aE,cF (λh1=>⟨_,aL.of (s3 _ _ hK.o),_,rfl,s3 _ _ e1,hN _ _ _ ⟨_,?_,rfl,aE,aj.put2 (e2.trans s3) e3,e3⟩⟩) λh1=>hN _ _ _ ⟨_,?_,rfl,s3 _ _ e1,e2.trans s3,e3⟩⟩
    ·rw[et,if_pos (by rw[← ee];exact h1),bT,bT];rfl
    ·rw[et,if_neg (by rw[← ee];exact h1),mJ]
  ·rintro D ys aC H2 ⟨u,rfl,rfl,e1,e2,e3⟩;rw[aM,e7,c9] at e1;exact q D H2 e2 e3 e1
theorem YF(T:Tx K mg A)(aG:bF mg base A.br A.aX):aY P w K mg base bw 2 A.NC A.ND ["_law_found"] agM:=by
 have Am:=OJ (P:=P) (w:=w) (base:=base) T aG;refine T.Oc.ok aif (λvs H Q E h=>?_) (λaQ Ar outer s H vs Q E hr h=>?_)
 ·obtain⟨a,ns,rfl,_⟩:=h
  rfl
 ·obtain⟨a,ns,rfl,ha,q⟩:=h;have jX:_+16<cLine:=oE (qb (by decide:16<=64) _) hr.units
  refine⟨_,(aK (bG (tu (bX wz rfl T.sr vA (ah (aa 0) (ah (vL (v:=.ty "tuple") rfl T.su vB rfl) au))) (qg (iX (TM jX) (gP (N:=["_law_one"]) (nt:=1) (fv:=[]) ‹cN.of› rfl (Gp (aa 0)) (λC s H fp=>(bE (i:=0) (show List.Nodup (["_law_one"]:List Str) by decide +kernel) rfl OL_)) (λC s H fp=>(oZ (iV (gC (aZ Am (hr.mono (by first | decide | lia)) rfl T.N9 T.Ec.kp T.N8 .nil aP (ah (aa 0) au)))))) (λC s H fp=>(aa 0))) (eW au) (bL _)))))),?_⟩
  walk_at "rdt";refine⟨_,.tup ha,_,rfl,ite_yes rfl ?_⟩;refine agJ a (ns.map V.int) (λD i ys aC H2=>ys = []/\H2 D=some (.lst ys)/\aj H H2/\H D=none/\∃u,aC = [u]) (λQ q=>q) (aL.of ha) ?_ ?_ ?_ ?_
  ·intro D hD;exact⟨rfl,aE,aj.put hD,hD,_,rfl⟩
  ·rintro D i ys aC H2 ⟨rfl,e1,e2,e3,_⟩;exact⟨e1,⋯,aL.of (e2 _ _ ha)⟩
  ·rintro D i x ys aC H2 N hN hx ⟨rfl,e1,e2,e3,u,rfl⟩;obtain⟨n,RL,rfl⟩:=dY hx;walk_at "rdt";exact⟨n,rfl,_,rfl,ite_no (by simp) (hN _ _ _ ⟨rfl,e1,e2,e3,_,rfl⟩)⟩
  ·rintro D ys aC H2 ⟨rfl,e1,e2,e3,u,rfl⟩;intro p np;exact⟨D,rfl,_,az.of (aj.put np _ _ e1),az.of aE,q _ (e2.trans (aj.put np))⟩
theorem YG(T:Tx K mg A)(aG:bF mg base A.br A.aX):aY P w K mg base bw 3 A.Lp A.Lq ["first", "many", "at", "asker", "latest", "behind"] (aea K):=by
 have qU:=OE (P:=P) (w:=w) (base:=base) T aG;have alh:=akX (P:=P) (w:=w) (base:=base) T aG;refine T.NQ.ok ahM (λvs H Q E h=>?_) (λaQ Ar outer s H vs Q E hr h=>?_)
 ·obtain⟨f,m,a,s',l,b,ns,rfl,_⟩:=h
  rfl
 ·obtain⟨f,m,a,s',l,b,ns,rfl,hB,hS,hR,q⟩:=h;refine⟨_,(aD (dP (aZ qU (hr.mono (by first | decide | lia)) rfl T.uT T.sf.kp T.uS .nil aP (ah (aa 0) (ah ak (ah (jG (v:=.int 1000000) rfl T.akn ⟨_,rfl⟩) (ah mX au))))))
   (aD (dP (aZ qU (hr.mono (by first | decide | lia)) rfl T.uT T.sf.kp T.uS .nil aP (ah (aa 1) (ah ak (ah (jG (v:=.int 16) rfl T.akm ⟨_,rfl⟩) (ah mX au))))))
   (aD (dP (aZ qU (hr.mono (by first | decide | lia)) rfl T.uT T.sf.kp T.uS .nil aP (ah (aa 2) (ah ak (ah (jG (v:=.int 1000000000000) rfl T.akp ⟨_,rfl⟩) (ah mX au))))))
   (aD (dP (aZ qU (hr.mono (by first | decide | lia)) rfl T.uT T.sf.kp T.uS .nil aP (ah (aa 3) (ah ak (ah (jG (v:=.int 20) rfl T.akq ⟨_,rfl⟩) (ah mX au))))))
   (aD (cU (dB R7 (aa 4) rq (bL _)) (aK (dP (aZ qU (hr.mono (by first | decide | lia)) rfl T.uT T.sf.kp T.uS .nil aP (ah (aa 4) (ah ak (ah (jG (v:=.int 10000000000000) rfl T.akr ⟨_,rfl⟩) (ah mX au))))))) bZ)
   (aK (dP (aZ alh (hr.mono (by first | decide | lia)) rfl T.aij T.WE.kp T.aii .nil aP (ah (aa 5) au))))))))),?_⟩
  walk_at "rdm";refine⟨_,_,_,_,rfl,hB.f0,hB.f1,_,_,_,_,rfl,hB.m0,hB.m1,_,_,_,_,rfl,hB.a0,hB.a1,_,_,_,_,rfl,hB.s0,hB.s1,?_⟩
  try dsimp only
  cases l with
  | none=>exact ite_no (by simp[jN]) ⟨b,ns,rfl,hS,hR,q⟩
  | some x=>exact ite_yes (by simp[jN]) ⟨x,0,10000000000000,_,rfl,(hB.l x rfl).1,(hB.l x rfl).2,b,ns,rfl,hS,hR,q⟩
theorem ali(T:Tx K mg A)(aG:bF mg base A.br A.aX):aY P w K mg base bw 3 A.LC A.LD ["heap"] age:=by
 have alj:=akY (P:=P) (w:=w) (base:=base) T aG;refine T.WO.ok Ld (λvs H Q E h=>?_) (λaQ Ar outer s H vs Q E hr h=>?_)
 ·obtain⟨l,zs,rfl,_⟩:=h
  rfl
 ·obtain⟨l,zs,rfl,hl,hh,q0,q⟩:=h;have jX:_+16<cLine:=oE (qb (by decide:16<=64) _) hr.units
  refine⟨_,(aD (cU (iV (GC (aa 0) (λ_=>rfl))) (aK (bG rq)) bZ)
   (aD (aR (i:=1) Ld.nd rfl OL_ (aH bV (aa 0) ak (λ_ _=>rfl)))
   (aD (aR (i:=2) Ld.nd rfl OL_ (acv j8 PySem.F.slot_list_pop PySem.F.type_list_pop acB (aa 0)))
   (aD (cU (GC (aa 0) (λ_=>rfl)) (aK (dP (aZ alj (hr.mono (by first | decide | lia)) rfl T.aiv T.WS.kp T.aiu .nil aP (ah (aa 0) (ah (aa 2) au))))) bZ)
   (aK (bG (aa 1))))))),?_⟩
  walk_at "rdm";have tr:∀(H':Hp) (ys:Ms),H' l=some (.lst (mV ys))->GB K (V.ref l) H' (!(mV ys).isEmpty):=λH' ys h=>.inl ⟨_,az.of h,rfl⟩;refine⟨_,tr H zs hl.l,cF (λh1=>?_) (λh1=>?_)⟩
  ·refine q0 ?_;cases zs with
   | nil=>rfl
   | cons z r=>simp[mV] at h1
  ·cases zs with
   | nil=>simp[mV] at h1
   | cons z0 r =>
    have least:=agh hh (by simp)
    rcases List.eq_nil_or_concat r with rfl | ⟨r',u,rfl⟩
    ·refine⟨_,az.of hl.l,_,rfl,⟨_,az.of hl.l⟩,_,hl.l,_,rfl,false,.inl ⟨_,az.of aE,rfl⟩,ite_no (by simp) ?_⟩
     exact q z0 [] (.refl _) least (λi _ h=>absurd h (by simp))
    ·rw[List.concat_eq_append] at *
     have rK:fX (upd H l (.lst (mV (z0::r')))) l (z0::r'):=hl.set (λz hz=>hl.z z (by
      rcases b_.mp hz with e | e
      ·rw[e];exact b8 ..
      ·exact bU _ (p8 _ e))) (by have:=hl.n;simp at this ⊢;lia)
     have e1:(mV (z0::(r'++[u])))[(mV (z0::(r'++[u]))).length - 1]? = some (.ref u.1):=by
      rw[jx];simp[mV]
     have e2:(mV (z0::(r'++[u]))).dropLast=mV (z0::r'):=by
      rw[af_,← pZ,List.dropLast_concat]
     refine⟨_,az.of hl.l,_,fX.get (k:=0) (by simp),⟨_,az.of hl.l⟩,_,hl.l,_,e1,true,?_⟩
     rw[e2];refine⟨.inl ⟨_,az.of aE,rfl⟩,ite_yes rfl ?_⟩;have hu:gQ H u.1 u.2:=hl.z u (by simp)
     refine⟨l,u.1,u.2,z0::r',rfl,rK,hu.fT hl.l,by simp,agg hh,λcZ p1 h2=>?_⟩
     rw[Rx];refine q z0 cZ ?_ least h2;refine(List.Perm.cons z0 ?_).trans (List.Perm.cons z0 p1.symm)
     show (r'++[u]).Perm (u::r');exact List.perm_append_singleton u r'
theorem alk(T:Tx K mg A)(aG:bF mg base A.br A.aX):aY P w K mg base bw 3 A.LL A.LM ["plate", "number", "ask"] (afx K [A.bK,A.bB] A.bW):=by
 have alm:=akZ (P:=P) (w:=w) (base:=base) T aG;refine T.WU.ok ahQ (λvs H Q E h=>?_) (λaQ Ar outer s H vs Q E hr h=>?_)
 ·obtain⟨C,p,ap,k,P,fp,q',m,b,dx,rfl,_⟩:=h
  rfl
 ·obtain⟨C,p,ap,k,P,fp,q',m,b,dx,rfl,hC,hP,ha,hf,hn,q⟩:=h;refine⟨_,(aK (aes rfl (bG (aZ alm (hr.mono (by first | decide | lia)) rfl T.aix T.WT.kp T.aiw .nil aP (ah (aa 0) (ah (aa 2) au)))))),?_⟩
  walk_at "rdt";exact⟨C,p,ap,P,fp,q',m,b,dx,rfl,hC,hP,ha,hf,hn,q⟩
theorem aln(T:Tx K mg A)(aG:bF mg base A.br A.aX):aY P w K mg base bw 3 A.LQ A.LR ["plate", "ring", "place", "beat"] (adR K [A.bK,A.bB]):=by
 have alo:=akP (P:=P) (w:=w) (base:=base) T aG;have alp:=ak8 (P:=P) (w:=w) (base:=base) T aG;refine T.WV.ok ahS (λvs H Q E h=>?_) (λaQ Ar outer s H vs Q E hr h=>?_)
 ·obtain⟨C,p,P,fp,r,c,b,rfl,_⟩:=h
  rfl
 ·obtain⟨C,p,P,fp,r,c,b,rfl,hC,hP,ok,h0,h1,h5,h6,q⟩:=h;obtain⟨dx,a1,a2,a3,a4,ts,fs,qV,h⟩:=id hP;have pR:=ok.c r.toNat ∅
  have hl:=ok.ao;have hn:=ok.n1;refine⟨_,(aK (bG (aF dW (aa 3) (aF cS (aF oR (nB (aa 0) T.akD alp (hr.mono (by first | decide | lia)) T.ajm .nil aP (ah (aa 1) (ah (aa 2) au))) (aa 3)) (yY (aa 0) T.akC alo (hr.mono (by first | decide | lia)) T.aji .nil aP))))),?_⟩
  wp_walk using h.o,h.f1,h.f2,h.f3,h.f4,h.f5,h.f6,h.m1,h.m2,h.m3,h.m4,h.m5,h.m6,h.m7,h.m8,h.m9,h.gK,h.iu,h.cp.cl,h.cp.n1,h.cp.n2,h.cp.n3,h.cp.n4,h.cp.n5,h.cp.n6;refine⟨hC,C,p,P,fp,r,c,rfl,hC,hP,h0,h1,hn,∅,pR.2,h5,h6,∅,?_⟩
  wp_walk using h.o,h.f1,h.f2,h.f3,h.f4,h.f5,h.f6,h.m1,h.m2,h.m3,h.m4,h.m5,h.m6,h.m7,h.m8,h.m9,h.gK,h.iu,h.cp.cl,h.cp.n1,h.cp.n2,h.cp.n3,h.cp.n4,h.cp.n5,h.cp.n6;refine⟨hC,C,p,P,fp,rfl,hP,?_⟩;walk_at "rdm";exact⟨∅,q⟩
theorem alq(T:Tx K mg A)(aG:bF mg base A.br A.aX):aY P w K mg base bw 3 A.L4 A.L5 ["dues"] (afX K A.bW A.cJ):=by
 have alr:=ak2 (P:=P) (w:=w) (base:=base) T aG;refine T.W3.ok Le (λvs H Q E h=>?_) (λaQ Ar outer s H vs Q E hr h=>?_)
 ·obtain⟨l,ps,ds,rfl,_⟩:=h
  rfl
 ·obtain⟨l,ps,ds,rfl,hd,qR,nd,q⟩:=h;have hu:=qo hr;refine⟨_,(aD (aR (i:=1) Le.nd rfl OL_ acQ)
   (aD (cV cL rfl (c_ (aa 0)) (bE (i:=2) Le.nd rfl (Or.inr rfl))
   (aK (yP hu (aa 1) (Sh (aa 2) rfl) (gP (N:=["other", "due"]) (nt:=1) (fv:=[2]) ‹cN.of› rfl (c_ (aa 0)) (λC s H fp=>(bE (i:=0) (show List.Nodup (["other", "due"]:List Str) by decide +kernel) rfl OL_)) (λC s H fp=>(oZ (gC (aZ alr (hr.mono (by first | decide | lia)) rfl T.aiL T.W2.kp T.aiK .nil aP (ah (aa 1) (ah (aa 0) au)))))) (λC s H fp=>(aet (K:=K) rfl (aa 0) rfl))) rfl)))
   (aK (bG (aa 1))))),?_⟩
  walk_at "rdt";intro kd An;have jY:=hd.n;refine rl l (ps.map V.ref) (λi σ H'=>∃(x:Option V) (aA:List (Key×V)),σ = [some (.ref l),some (.ref kd),x]/\aj H H'/\C8 H' kd (ds.take i) ds aA) (λQ q=>q) (az.of (aj.put An _ _ hd.l)) ⟨none,[],rfl,aj.put An,⟨aE,eL _,λi d e=>by simp at e⟩⟩ (by rintro i σ H' _ ⟨_,_,rfl,s',_⟩;exact az.of (s' _ _ hd.l)) ?_ ?_
  ·rintro i x σ H' N hN hx ⟨x0,aA,rfl,s',hk⟩;obtain⟨p,hp,rfl⟩:=dY hx;have hi:i<ds.length:=by rw[← jY];exact cT hp
   have qy:=hd.same s';obtain⟨dx,ap,la,ts,m,b,cu,hD⟩:=qy.t i p ds[i] hp (bC hi);have eZ:=hD.o;unfold qF at eZ;wp_walk using T,eZ;have sy:=hk;refine i8 l (ps.map V.ref) (λD j ys aC H2=>∃(u:Option V),ys=(((ds.take j).filter (pH ds[i])).map (·.n)).map V.int/\aC = [u,some (.ref p)]/\H2 D=some (.lst ys)/\aj H' H2/\H' D=none) (λQ q=>q) (az.of qy.l) ?_ ?_ ?_ ?_
   ·intro D Al;exact⟨none,rfl,rfl,aE,aj.put Al,Al⟩
   ·rintro D j ys aC H2 ⟨u,rfl,rfl,e1,e2,e3⟩;refine⟨e1,g8 ?_,az.of (e2 _ _ qy.l)⟩;have:=kM (pH ds[i]) (ds.take j);rw[dH] at this;simp only[List.length_map];lia
   ·rintro D j x ys aC H2 N2 gT gU ⟨u,rfl,rfl,e1,e2,e3⟩;obtain⟨p2,ig,rfl⟩:=dY gU;have hj:j<ds.length:=by rw[← jY];exact cT ig
    obtain⟨dx2,ap2,la2,uX,m2,b2,aq1,n_⟩:=(qy.same e2).t j p2 ds[j] ig (bC hj);have et:=wW (p:=pH ds[i]) (bC hj);have OX:=n_.o;unfold qF at OX;wp_walk using T,OX;refine⟨p,p2,ds[i],ds[j],_,_,_,_,_,_,_,_,_,_,_,_,_,_,rfl,hD.same e2,n_,_,rfl,cF (λh1=>⟨_,_,_,OX,T.Oe,T.Ef,_,rfl,e1,gT _ _ _ ⟨_,?_,rfl,aE,aj.put2 e2 e3,e3⟩⟩) λh1=>gT _ _ _ ⟨_,?_,rfl,e1,e2,e3⟩⟩
    ·rw[et,if_pos h1,bT,bT];rfl
    ·rw[et,if_neg h1,mJ]
   ·rintro D ys aC H2 ⟨u,rfl,rfl,e1,e2,e3⟩;rw[aM,jY,c9] at e1;have YH:=e2 _ _ hk.d;have nD:D≠kd:=λz=>by rw[z,YH] at e1;cases e1
    refine⟨_,_,_,e2 _ _ eZ,T.Oe,T.Ef,_,rfl,_,lT.k (k:=uB ds[i].n) YH (by rw[rO];have:=hk.n;rw[dH] at this;lia),hN _ _ ⟨_,_,rfl,aj.put2 (s'.trans e2) An,⟨aE,?_,λj d e=>?_⟩⟩⟩
    ·have:=af0 aA (uB ds[i].n) (V.ref D);have:=hk.n;rw[dH] at this ⊢;lia
    ·rw[List.getElem?_take] at e;split at e
     ·rename_i hj;rw[Hl];by_cases YI:j=i
      ·subst YI;rw[bC hi] at e;cases e;exact⟨D,by rw[if_pos rfl],nD,by rw[aI nD];exact e1⟩
      ·have HS:j<i:=by lia
       obtain⟨li,v1,v2,v3⟩:=hk.v j d (by rw[List.getElem?_take,if_pos HS];exact e)
       have ne:uB d.n≠uB ds[i].n:=λz=>by
        have z:d.n=ds[i].n:=by unfold uB at z;exact Sum.inl.inj z
        have h1:(ds.map (·.n))[j]? = (ds.map (·.n))[i]? := by rw[jZ,jZ,e,bC hi];exact fR some z
        exact YI ((List.getElem?_inj (by simp;lia) nd).mp h1)
       exact⟨li,by rw[if_neg ne];exact v1,v2,by rw[aI v2];exact e2 _ _ v3⟩
     ·cases e
  ·rintro σ H' ⟨x0,aA,rfl,s',hk⟩;rw[aM,jY,c9] at hk;walk_at "rdt";exact q kd aA H' s' An hk
theorem YJ(T:Tx K mg A)(aG:bF mg base A.br A.aX):aY P w K mg base bw 3 A.DN A.MC ["self", "zones", "lap", "skew", "swing"] (ady K):=by
 have als:=akK (P:=P) (w:=w) (base:=base) T aG;have alu:=akL (P:=P) (w:=w) (base:=base) T aG;have alv:=ak6 (P:=P) (w:=w) (base:=base) T aG;have alw:=akN (P:=P) (w:=w) (base:=base) T aG;have OY:=Yp (P:=P) (w:=w) (base:=base) T aG;have OZ:=Yr (P:=P) (w:=w) (base:=base) T aG;refine T.ai8.ok ahY (λvs H Q E h=>?_) (λaQ Ar outer s H vs Q E hr h=>?_)
 ·obtain⟨C,p,dx,za,sa,bA,z,ao,cA,sw,rfl,_⟩:=h
  rfl
 ·obtain⟨C,p,dx,za,sa,bA,z,ao,cA,sw,rfl,cp,hp,hz,ok,h1,h2,h3,h4,hd,hS,so,q⟩:=h;refine⟨_,(aD (dP (aZ als (hr.mono (by first | decide | lia)) rfl T.aiZ T.Xc.kp T.aiY .nil aP (ah (aa 1) au)))
   (aD (dP (aZ alu (hr.mono (by first | decide | lia)) rfl T.ai1 T.Xd.kp T.ai0 .nil aP (ah (aa 1) (ah (aa 2) (ah (aa 3) au)))))
   (aD (iQ (aa 0) (aZ alw (hr.mono (by first | decide | lia)) rfl T.ai7 T.Xg.kp T.ai6 .nil aP (ah (aa 1) au)) rfl)
   (aD (dP (aZ alv (hr.mono (by first | decide | lia)) rfl T.ai3 T.Xe.kp T.ai2 .nil aP (ah (aa 4) (ah (bX eT rfl T.dG dU (ah (cD (aa 0) rfl) au)) au))))
   (aD (iQ (aa 0) (aa 2) rfl)
   (aD (iQ (aa 0) (aa 3) rfl)
   (aD (iQ (aa 0) (kU yK rfl T.qQ sU (ah (aa 4) au)) rfl)
   (aD (iQ (aa 0) (aZ OY (hr.mono (by first | decide | lia)) rfl T.Xi T.NW.kp T.Xh .nil aP (ah (cD (aa 0) rfl) (ah ak au))) rfl)
   (aK (iQ (aa 0) (aZ OZ (hr.mono (by first | decide | lia)) rfl T.Xk T.NY.kp T.Xj .nil aP (ah (cD (aa 0) rfl) au)) rfl)))))))))),?_⟩
  wp_walk using cp.cl,cp.n1,cp.n2,cp.n3,cp.n4,cp.n5,cp.n6;refine⟨za,bA,z,rfl,hz,ok,λH1 s1=>⟨za,bA,z,ao,cA,rfl,hz.same s1,ok,h1,h2,h3,h4,hd,?_⟩⟩;refine⟨za,bA,z,rfl,hz.same s1,ok,λa1 H2 s2 n1 e1=>?_⟩;have ig:=(s1.trans s2) _ _ hp;have iR:a1≠p:=(bY (s1 _ _ hp) n1).symm;have cl:=rM z λp hp=>(ok.r p hp).1;have alx:=ok.Cm;have c2:=ok.s2;have nN:SameBut p H H2:=.of (s1.trans s2);have fr1:H a1=none:=s1.free n1;wp_walk using cp.cl,cp.n1,cp.n2,cp.n3,cp.n4,cp.n5,cp.n6,ig;refine⟨_,.inl (az.of ((aI iR).trans e1)),?_⟩;have OW:∀ {H':Hp},SameBut p H H'->az K H' sa (sw.map V.int):=λ{H'} sb=>by
   rcases hS with(h | ⟨o,h⟩) | h
   ·exact .inl (.inl (sb _ _ h (jm h hp (by intro z;cases z))))
   ·exact .inl (.inr ⟨o,sb _ _ h (jm h hp (by intro z;cases z))⟩)
   ·exact .inr h
  refine⟨sa,sw,_,rfl,OW nN.put,?_,?_,?_⟩
  ·simpa only[List.length_map,cl] using so
  ·simp only[List.length_map];lia
  wp_walk using cp.cl,cp.n1,cp.n2,cp.n3,cp.n4,cp.n5,cp.n6;refine⟨_,.inl (OW nN.put),λa2 n2=>?_⟩;have mD:p≠a2:=bY aE n2;have YK:H2 a2=none:=by rw[aI mD.symm] at n2;exact n2
  wp_walk using cp.cl,cp.n1,cp.n2,cp.n3,cp.n4,cp.n5,cp.n6,aI mD;have YL:a1≠a2:=bY e1 YK;have sD:SameBut p H (upd (upd (upd H2 p (HO.ins C dx [(Str.ofString "ring_cells",V.ref a1),(Str.ofString "lap",V.int ao),(Str.ofString "skew",V.int cA)])) a2 (HO.lst (List.map V.int sw))) p
   (HO.ins C dx [(Str.ofString "ring_cells",V.ref a1),(Str.ofString "lap",V.int ao),(Str.ofString "skew",V.int cA),(Str.ofString "swing",V.ref a2)])):=(nN.put.step (aj.put n2)).put
  have zC:=e1;have fr2:H a2=none:=(s1.trans s2).free YK;generalize O0:upd (upd (upd H2 p _) a2 _) p _=H3 at sD ⊢;have p3:H3 p=some (HO.ins C dx [(Str.ofString "ring_cells",V.ref a1),(Str.ofString "lap",V.int ao),(Str.ofString "skew",V.int cA),(Str.ofString "swing",V.ref a2)]):=by rw[← O0,aE]
  have q1:H3 a1=some (.lst ((counts z).map V.int)):=by rw[← O0,aI iR,aI YL,aI iR];exact e1
  have q2:H3 a2=some (.lst (sw.map V.int)):=by rw[← O0,aI mD.symm,aE]
  have cm:∀c∈counts z,0<=c/\c<=1000:=λc hc=>by
   obtain⟨y,hy,rfl⟩:=rN hc;have:=ok.r y hy;lia
  refine⟨a1,counts z,0,rfl,az.of q1,∅,cm,⋯,⋯,λa3 ts H4 s4 n3 El z4=>?_⟩
  have p4:=s4 _ _ p3;have Ao:a3≠p:=(bY p3 n3).symm;have tH:H a3=none:=by
   cases e:H a3 with
   | none=>rfl
   | some o=>rw[sD _ _ e Ao] at n3;cases n3
  have O1:∀t∈ts,t≠p:=λt ht=>(bY p3 (El t ht)).symm;have frt:∀t∈ts,H t=none:=λt ht=>by
   cases e:H t with
   | none=>rfl
   | some o=>have:=sD _ _ e (O1 t ht);rw[El t ht] at this;cases this
  wp_walk using cp.cl,cp.n1,cp.n2,cp.n3,cp.n4,cp.n5,cp.n6,p4;have z5:=z4.keep (H':=upd H4 p (HO.ins C dx [(Str.ofString "ring_cells",V.ref a1),(Str.ofString "lap",V.int ao),(Str.ofString "skew",V.int cA),(Str.ofString "swing",V.ref a2),(Str.ofString "number_cells",V.ref a3)])) (aI Ao) λt ht=>aI (O1 t ht);have zl:(gj (counts z) 0).length<=1000000:=by
   have:=Cn (s:=0) ⋯ (counts z) 0 cm
   have e:(counts z).length<=120:=by lia
   unfold gj;lia
  refine⟨a3,ts,_,rfl,z5,zl,λa4 H5 s5 n4 e4=>?_⟩;have Aq:a4≠p:=(bY aE n4).symm;have sb5:SameBut p H H5:=((sD.step s4).put).step s5;have YM:H4 a4=none:=by rw[aI Aq] at n4;exact n4
  have fr4:H a4=none:=by
   cases e:H a4 with
   | none=>rfl
   | some o=>rw[(sD.step s4) _ _ e Aq] at YM;cases YM
  wp_walk using cp.cl,cp.n1,cp.n2,cp.n3,cp.n4,cp.n5,cp.n6,s5 _ _ aE;refine q _ dx a1 a2 a3 a4 ts sb5.put ?_ aE (qw.lit cp aE ?_ ?_ ?_ ?_)
  ·intro b hb;simp only[List.mem_cons] at hb;rcases hb with rfl | rfl | rfl | rfl | hb
   ·exact fr1
   ·exact fr2
   ·exact tH
   ·exact fr4
   ·exact frt b hb
  ·rw[aI iR];exact s5 _ _ ((aI iR).trans (s4 _ _ q1))
  ·rw[aI mD.symm];exact s5 _ _ ((aI mD.symm).trans (s4 _ _ q2))
  ·exact(z5.same s5).keep (aI Ao) λt ht=>aI (O1 t ht)
  ·rw[aI Aq];exact e4
theorem aly(T:Tx K mg A)(aG:bF mg base A.br A.aX):aY P w K mg base bw 3 A.MU A.MV ["ring_cells", "spares", "number_cells", "bad_cells"] (ae9 K A.aX (qC iA) (qD "nearest_rings")):=by
 have alz:=akS (P:=P) (w:=w) (base:=base) T aG;have alA:=ala (P:=P) (w:=w) (base:=base) T aG;refine T.Xv.ok xu (λvs H Q E h=>?_) (λaQ Ar outer s H vs Q E hr h=>?_)
 ·obtain⟨ra,na,d,sp,rc,ts,z,bz,rfl,_⟩:=h
  rfl
 ·obtain⟨ra,na,d,sp,rc,ts,z,bz,rfl,Ei,h2,k9,s0,s1,hc,hz,hlen,hd,wR,YN,tab,en,q⟩:=h;have hu:=qo hr;refine⟨_,(aD (aR (i:=4) xu.nd rfl OL_ (eW au))
   (aD (aR (i:=5) xu.nd rfl OL_ (kU aeV rfl T.OB boot_dict (ah (pv 3) au)))
   (aD (cV cL rfl (c_ (aZ alz (hr.mono (by first | decide | lia)) rfl T.ajH T.Xr.kp T.ajG .nil aP (ah (pv 2) (ah (pv 3) au)))) (bE (i:=6) xu.nd rfl OL_)
   (aD (aR (i:=7) xu.nd rfl OL_ (aH oW (pv 2) (pv 6) (λ_ _=>rfl)))
   (aD (aR (i:=8) xu.nd rfl OL_ (aZ alA (hr.mono (by first | decide | lia)) rfl T.ajL T.Xu.kp T.ajK .nil aP (ah (pv 0) (ah (pv 1) (ah (aH tW (pv 7) ak (λ_ _=>rfl)) (ah (pv 5) au))))))
   (aD (cU (dB R6 (pv 8) rq (bL _)) ia bZ)
   (aD (yP hu (pv 5) (pv 8) gb rfl)
   (aK (dP (kX j8 lG lH kY (pv 4) (ah (dD (ah (pv 6) (ah (pv 7) (ah (pv 8) au)))) au)))))))))
   (aK (bG (pv 4)))))),?_⟩
  walk_at "rdm";refine λl hl=>?_;have bk:(cX bz).map (λx=>x.1)=bz.map kT:=by unfold cX;rw[List.map_map];rfl
  refine⟨_,aj.put hl _ _ hd,by rw[bk];exact wR,λu nu=>?_⟩
  have O2:=(aj.put (o:=.lst []) hl).trans (aj.put (o:=.dT (cX bz)) nu);have nuH:H u=none:=(aj.put (o:=.lst []) hl).free nu;refine wB ?_;walk_at "rdm";refine⟨na,d,ts,z,cX bz,rfl,hz.same O2,hlen,O2 _ _ hd,λb H2 s2 nb eb=>⟨b,rfl,?_⟩⟩;rw[CT,oA] at eb;have s3:=O2.trans s2;have el:H2 l=some (.lst []):=s2 _ _ (aj.put nu _ _ aE);have eu:H2 u=some (.dT (cX bz)):=s2 _ _ aE;have lu:l≠u:=bY aE nu;have xB:b≠l:=(bY (aj.put nu _ _ aE) nb).symm;have hbu:b≠u:=(bY aE nb).symm;refine qu.by b ((fK bz 0 z).map (V.int ∘ λ(n:Nat)=>(n:Int))) (λi σ H'=>∃x y w us os ms,σ = [some (.ref ra),some (.int sp),some (.ref na),some (.ref d),some (.ref l),some (.ref u),x,y,w]/\Kp A.aX (qC iA) (qD "nearest_rings") H H'/\
    H' b=some (.lst ((fK bz 0 z).map (V.int ∘ λ(n:Nat)=>(n:Int))))/\H' u=some (.dT (cX (bz++ms.map λm=>m.2.2)))/\l8 rc sp z bz ((fK bz 0 z).take i) ms/\jv H' l ts us os ms/\∀t∈os,H t=none)
   (az.of eb) ⟨none,none,none,[],[],[],rfl,Kp.of tab s3,eb,by simpa using eu,.nil,⟨el,rfl,rfl,λi u m e=>by cases e⟩,λt z=>by cases z⟩ (by rintro i σ H' _ ⟨x,y,w,us,os,ms,rfl,k,hb,_⟩;exact az.of hb) ?_ ?_
  ·rintro i x σ H' N hN hx ⟨x0,y0,w0,us,os,ms,rfl,k,hb,mh,hL,hM,ql⟩;obtain⟨n,hn,rfl⟩:=dY hx;obtain⟨_,c,Em,hcb⟩:=UJ (get_mem hn);rw[Br] at Em;have kK:Zn H' na ts z:=⟨k.get tab hz.l,hz.n,λi t p e1 e2=>k.get tab (hz.t i t p e1 e2)⟩;wp_walk using Function.comp_apply;have hnl:n<ts.length:=by rw[hz.n];exact cT Em
   obtain⟨t,g1⟩:∃t,ts[n]? = some t:=⟨_,bC hnl⟩;have g2:(ts.map V.ref)[n]? = some (V.ref t):=by rw[jZ,g1];rfl
   have ht:=kK.t n t c g1 Em;have alB:=hL.len;rw[dH] at alB;have qT:=cT hn;have bl:=ae8 bz z;refine⟨_,kK.sq,_,rJ g2,t,rfl,_,aL.of ht,_,rfl,?_⟩;refine⟨ra,u,c.1,sp,rc,bz++ms.map (λm=>m.2.2),rfl,k.seq tab Ei,h2,k9,s0,s1,hc,mh,k.t,λis H3 ord k3=>⟨λz=>absurd z (en _ _ _ (by rw[aM];lia) ord),λo to hf nto O3=>?_⟩⟩
   have uY:=k3.get k.t mh;have ho:=ae3 hf;have hM3:=hM.but k.t k3;have YO:=hM3.other (o:=.dT (putK (cX (bz++ms.map λm=>m.2.2)) (kT o) (.bl true))) ⟨_,uY⟩;have kA:=(k.trans k3).put (o:=.dT (putK (cX (bz++ms.map λm=>m.2.2)) (kT o) (.bl true))) nuH uY;have l4:=YO.l;refine⟨(by intro z;cases z),_,lT.t (k:=kT o) uY O3 (by rw[rO,cX,aM,e_,aM];lia),⟨_,az.of l4⟩,λp np=>?_⟩
   have sE:=aj.put (o:=HO.tup [V.int (n:Int),V.ref t,V.ref to]) np;have e9:cX (bz++(ms++[(n,c,o)]).map λm=>m.2.2)=putK (cX (bz++ms.map λm=>m.2.2)) (kT o) (.bl true):=by
    rw[UK _ ho,bT,← pY];rfl
   have t3:=k3.get k.t ht;refine⟨_,sE _ _ l4,by rw[aM,hM.n];lia,hN _ _ ⟨_,_,_,us++[p],os++[to],ms++[(n,c,o)],rfl,?_,?_,?_,?_,?_,?_⟩⟩
   ·exact(kA.step sE).put hl (sE _ _ l4)
   ·rw[aI xB];refine sE _ _ ?_;rw[aI hbu];exact k3.get k.t hb
   ·rw[aI lu.symm,e9];exact sE _ _ aE
   ·rw[take_succ_get hn];exact hL.snoc Em ord hf
   ·refine(YO.same sE).snoc (m:=(n,c,o)) aE g1 (sE _ _ ?_) (sE _ _ ?_)
    ·rw[aI (jm t3 uY (by intro z;cases z))];exact t3
    ·rw[aI (jm O3 uY (by intro z;cases z))];exact O3
   ·intro t' lB;rcases fE.mp lB with h' | h'
    ·exact ql t' h'
    ·rw[fQ.mp h'];exact k.free nto
  ·rintro σ H' ⟨x,y,w,us,os,ms,rfl,k,hb,mh,hL,hM,ql⟩;walk_at "rdm";rw[aM,c9] at hL;exact q l us os ms H' k hl ql hL hM
theorem alC(T:Tx K mg A)(aG:bF mg base A.br A.aX):aY P w K mg base bw 3 A.Ng A.Nh ["_law_plate_here", "_law_spec_here", "_law_spot_here", "_law_cell"] (afK K [A.bK,A.bB]):=by
 have YQ:=ak9 (P:=P) (w:=w) (base:=base) T aG;refine T.XA.ok se (λvs H Q E h=>?_) (λaQ Ar outer s H vs Q E hr h=>?_)
 ·obtain⟨C,p,t,sp,z,ao,sk,sw,za,bA,ca,sa,nc,fp,r,b,c,rfl,_⟩:=h
  rfl
 ·obtain⟨C,p,t,sp,z,ao,sk,sw,za,bA,ca,sa,nc,fp,r,b,c,rfl,hC,hP,nk,hS,ok,dF,r0,r1,q⟩:=h;refine⟨_,(aD (aR (i:=4) se.nd rfl OL_ (tV B_ (gP (N:=["_law_k", "_law_plate_here", "_law_spot_here"]) (nt:=1) (fv:=[0,2]) ‹cN.of› rfl (lJ rfl T.gA (ah (aH oW (aH bJ (aa 1) ak (λ_ _=>rfl)) (aH bJ (aa 2) ak (λ_ _=>rfl)) (λ_ _=>rfl)) au)) (λC s H fp=>(bE (i:=0) (show List.Nodup (["_law_k", "_law_plate_here", "_law_spot_here"]:List Str) by decide +kernel) rfl OL_)) (λC s H fp=>(oZ (dB R7 (nB (aa 1) T.Yl YQ (hr.mono (by first | decide | lia)) T.Xo .nil aP (ah (aH (kH (K:=K) rfl) (aa 2) ak (λ_ _=>rfl)) (ah (aa 0) au))) rq (bL _)))) (λC s H fp=>(aa 0))) tT (tU ak)))
   (aD (aR (i:=5) se.nd rfl OL_ (aF gu (aa 3) (aF d8 (bX eT rfl T.dG dU (ah (aa 4) au)) ak)))
   (aD (aR (i:=4) se.nd rfl OL_ (aF yL (tV B_ (aa 4) (tU (aa 5)) tT) (tV B_ (aa 4) tT (tU (aa 5)))))
   (aD (qH (jW (eE JB (aF gu (aF kG (aa 3) ak) ak) ak (bL _)) (aK (aR (i:=4) se.nd rfl OL_ (afm (aa 4) (tL tN ak)))) bZ))
   (aD (aR (i:=6) se.nd rfl OL_ (eW au))
   (aD (cV cL rfl (lJ rfl T.gA (ah (bX eT rfl T.dG dU (ah (aa 4) au)) au)) (bE (i:=7) se.nd rfl OL_)
   (aD (aR (i:=8) se.nd rfl OL_ (nB (aa 0) T.Yl YQ (hr.mono (by first | decide | lia)) T.Xo .nil aP (ah (aH bJ (aa 2) ak (λ_ _=>rfl)) (ah (aH bV (aa 4) (aa 7) (λ_ _=>rfl)) au))))
   (aK (dP (kX j8 lG lH kY (aa 6) (ah (dD (ah (aF d8 (aF mj ak (aa 7)) (aF gu (aF kG (aa 3) ak) ak)) (ah (aa 8) (ah ak (ah gb (ah (dD au) (ah rq (ah (eW (ah (dD (ah (aH bJ (aa 2) ak (λ_ _=>rfl)) (ah (aH bV (aa 4) (aa 7) (λ_ _=>rfl)) au))) au)) au)))))))) au))))))
   (aK (bG (aa 6))))))))),?_⟩
  walk_at "rdm";have En:=aL.of (K:=K) hS.o;have kp:=aL.of (K:=K) dF;have cr:1<=(counts z).getD r.toNat 0/\(counts z).getD r.toNat 0<=60:=by
   obtain⟨y,hy,e⟩:=rN (get_mem (yV (counts z) (show r.toNat<(counts z).length by lia)))
   have:=ok.zl.ok.r y hy;rw[e];lia
  refine Cs ((counts z).getD r.toNat 0) (λD i ys aC H2=>∃(u:Option V) (xs:List Int),ys=xs.map V.int/\aC = [u,some (.ref p),some (.ref sp)]/\H2 D=some (.lst ys)/\aj H H2/\H D=none/\xs.length<=i/\i<=60/\∀x∈xs,(r,x)∈nc/\0<=x/\x<(counts z).getD r.toNat 0) (λQ q=>?_) ∅ ∅ ?_ ?_ ?_ ?_
  ·walk_at "rdm";refine⟨_,En,_,rfl,_,kp,_,rfl,?_⟩;walk_at "rdm";exact⟨_,az.of hS.c,_,gi r0 r1,q⟩
  ·intro D hD;exact⟨none,[],rfl,rfl,aE,aj.put hD,hD,bu _,∅,λ_ h=>nomatch h⟩
  ·rintro D i ys aC H2 ⟨u,xs,rfl,rfl,e1,e2,e3,e4,e5,e6⟩;exact⟨e1,g8 (by rw[aM];lia)⟩
  ·rintro D i ys aC H2 N hN hi ⟨u,xs,rfl,rfl,e1,e2,e3,e4,e5,e6⟩;walk_at "rdm";obtain⟨lC,a1,a2,a3,a4,fL,fs,qV,hA⟩:=hP.same e2;have i1:(i:Int)<(counts z).getD r.toNat 0:=by lia
   refine⟨C,lC,fs,hA.o,hC,hA.gK,_,e2.f9 kp,_,rfl,C,p,bN z ao sk sw nc,fp,r,(i:Int),rfl,hC,hP.same e2,r0,r1,∅,i1,λH3 s3=>?_⟩
   show if ¬ (dj (qt nc) (kT (r,(i:Int)))).getD .aU = .aU then _ else _
   by_cases lz:(r,(i:Int))∈nc
   ·obtain⟨j,ej,ev⟩:=Va lz;rw[ev,Option.getD_some,if_pos (by simp)]
    refine⟨s3 _ _ e1,hN _ _ _ ⟨_,xs++[(i:Int)],by rw[bT];rfl,rfl,aE,aj.put2 (e2.trans s3) e3,e3,by simp;lia,∅,λx hx=>?_⟩⟩
    rcases fE.mp hx with hx | hx
    ·exact e6 x hx
    ·rw[fQ.mp hx];exact⟨lz,∅,i1⟩
   ·rw[afH lz,Option.getD_none,if_neg (by simp)]
    exact hN _ _ _ ⟨_,xs,rfl,rfl,s3 _ _ e1,e2.trans s3,e3,∅,∅,e6⟩
  ·rintro D ys aC H2 ⟨u,xs,rfl,rfl,e1,e2,e3,e4,e5,e6⟩;walk_at "rdm";refine⟨_,az.of e1,λl1 n1=>?_⟩;rw[TV ⋯]
   have O4:wV (counts z) nc r (xs.take (Int.toNat 7)):=⟨λx hx=>e6 x (oB hx),by rw[dH];lia⟩
   have p7:(xs.take (Int.toNat 7)).length<=7:=by rw[dH];exact Nat.min_le_left _ _
   generalize xs.take (Int.toNat 7)=ys at O4 p7 ⊢;have s1:=e2.trans (aj.put (o:=.lst (ys.map V.int)) n1);have h1:upd H2 l1 (.lst (ys.map V.int)) l1=some (.lst (ys.map V.int)):=aE;generalize upd H2 l1 (.lst (ys.map V.int))=H3 at s1 h1 ⊢;refine⟨_,.inl (az.of h1),∅,_,az.of h1,λl2 n2=>?_⟩
   rw[aM];have a0:=fD c (show (ys.length:Int)+1≠0 by lia)
   have a1:=fB c (show (0:Int)<(ys.length:Int)+1 by lia)
   generalize c % ((ys.length:Int)+1)=at' at a0 a1 ⊢;rw[afJ a0];have s2:=aj.put (o:=.lst ((ys.drop at'.toNat).map V.int)) n2;have h2:upd H3 l2 (.lst ((ys.drop at'.toNat).map V.int)) l2=some (.lst ((ys.drop at'.toNat).map V.int)):=aE;generalize upd H3 l2 (.lst ((ys.drop at'.toNat).map V.int))=H4 at s2 h2 ⊢;refine⟨_,az.of (s2 _ _ h1),λl3 n3=>?_⟩;rw[TV a0];have s3:=aj.put (o:=.lst ((ys.take at'.toNat).map V.int)) n3;generalize upd H4 l3 (.lst ((ys.take at'.toNat).map V.int))=H5 at s3 ⊢;refine⟨_,s3 _ _ h2,by simp only[List.length_map,List.length_drop,List.length_take];lia,λl4 n4=>?_⟩
   rw[← bT];have uK:wV (counts z) nc r (ys.drop at'.toNat++ys.take at'.toNat):=O4.sub (λy hy=>by
    rcases fE.mp hy with h | h
    ·exact Bf h
    ·exact oB h) (by rw[e_,ve,dH];lia)
   have Eo:(ys.drop at'.toNat++ys.take at'.toNat).length<=7:=by rw[e_,ve,dH];lia
   generalize ys.drop at'.toNat++ys.take at'.toNat=us at uK Eo ⊢;have s4:=(s1.trans (s2.trans s3)).trans (aj.put (o:=.lst (us.map V.int)) n4);have h4:upd H5 l4 (.lst (us.map V.int)) l4=some (.lst (us.map V.int)):=aE;generalize upd H5 l4 (.lst (us.map V.int))=H6 at s4 h4 ⊢;refine⟨λσ H7=>∃(l5:Addr) (vs:List Int),σ = [some (.ref p),some (.ref t),some (.ref sp),some (.int c),some (.ref l5),some (.int at'),none,none,none]/\aj H H7/\H7 l5=some (.lst (vs.map V.int))/\wV (counts z) nc r vs/\vs.length<=7,cF (λ_=>⟨_,az.of h4,λl5 n5=>⟨l5,us.reverse,rfl,s4.trans (aj.put n5),by rw[aE,List.map_reverse],uK.sub (λy hy=>by simpa using hy) (by simp),by simpa using Eo⟩⟩) λ_=>⟨l4,us,rfl,s4,h4,uK,Eo⟩,?_⟩
   rintro σ H7 ⟨l5,vs,rfl,s7,h5,pl5,p75⟩;clear h4 s4 uK Eo n4 s3 n3 s2 h2 n2 a0 a1 s1 h1 n1 e1 e2 e3 e4 e5 e6 O4 p7;walk_at "rdm";intro l nl;have xC:=hP.same s7;have YR:=s7.f9 kp;have c0:=fD (c / 16) (show (2:Int)≠0 by decide)
   have c1:=fB (c / 16) (show (0:Int)<2 by decide)
   refine Co vs.length (λi σ H8=>∃(x y:Option V) (ts:List Addr) (ks:List Kn),σ = [some (.ref p),some (.ref t),some (.ref sp),some (.int c),some (.ref l5),some (.int at'),some (.ref l),x,y]/\aj H7 H8/\nR H7 H8 l ts ks/\ks.length=i/\(∀k∈ks,ux nc k/\k.n<2*(i:Int))/\ks.Pairwise λa b=>a.n<b.n) (λQ q=>?_) ∅ ⟨none,none,[],[],rfl,aj.put nl,⟨aE,rfl,nl,λi t k e=>by simp at e⟩,rfl,(λ_ h=>nomatch h),.nil⟩ ?_ ?_
   ·walk_at "rdm";refine⟨_,.inl (az.of (aj.put nl _ _ h5)),?_⟩;rw[aM];exact q
   ·rintro i σ H8 N hN hi ⟨x,y,ts,ks,rfl,s8,hg,gn,gk,gp⟩;walk_at "rdm";obtain⟨lC,a1,a2,a3,a4,fL,fs,qV,hA⟩:=xC.same s8;have vi:vs[i]? = some vs[i]:=bC hi;obtain⟨w1,w2,w3⟩:=pl5.i vs[i] (cI hi);refine⟨C,lC,fs,hA.o,hC,hA.gK,_,s8.f9 YR,_,rfl,_,az.of (s8 _ _ h5),_,rJ (by rw[jZ,vi];rfl),C,p,bN z ao sk sw nc,fp,r,vs[i],rfl,hC,xC.same s8,r0,r1,w2,w3,λH9 s9=>?_⟩
    obtain⟨j,ej,ev⟩:=Va w1;have ev':(dj (qt (bN z ao sk sw nc).nc) (kT (r,vs[i]))).getD .aU = .int (j:Int):=by show (dj (qt nc) (kT (r,vs[i]))).getD .aU=_;rw[ev];rfl
    rw[ev']
    try walk_at "rdm"
    have O5:=hg.same s9;refine⟨⟨_,az.of O5.hl⟩,λe1 ne1=>?_⟩;have t1:=aj.put (o:=.tup []) ne1;have YS:upd H9 e1 (.tup []) e1=some (.tup []):=aE;generalize upd H9 e1 (.tup [])=HA at t1 YS ⊢;have xD:=s8.trans s9;refine⟨_,(xD.trans t1).f9 YR,_,rfl,_,az.of (t1 _ _ (xD _ _ h5)),_,rJ (by rw[jZ,vi];rfl),λe2 ne2 e3 ne3 e4 ne4=>?_⟩
    have t2:=aj.put (o:=.tup [V.int r,V.int vs[i]]) ne2;have YT:=Zn.one (c:=(r,vs[i])) (aE (H:=HA) (a:=e2)) ne3;have t3:=t2.trans (aj.put (o:=.lst [V.ref e2]) ne3);generalize upd (upd HA e2 (.tup [V.int r,V.int vs[i]])) e3 (.lst [V.ref e2])=HB at t3 YT ne4 ⊢;have t4:=aj.put (o:=.tup [V.int (2*(i:Int)+c / 16 % 2),V.int (j:Int),V.int 1,V.bl false,V.ref e1,V.aU,V.ref e3]) ne4;have t9:=t1.trans (t3.trans t4);have nel:e3≠l:=by
     intro z;have:=t1 _ _ O5.hl;rw[← z] at this;have n2:HA e3=none:=t2.free ne3;rw[n2] at this;cases this
    have hK:iL (upd HB e4 (.tup [V.int (2*(i:Int)+c / 16 % 2),V.int (j:Int),V.int 1,V.bl false,V.ref e1,V.aU,V.ref e3])) e4 ⟨2*(i:Int)+c / 16 % 2,(j:Int),1,false,[],none,[(r,vs[i])]⟩ e1 e3 [e2]:=⟨aE,(t3.trans t4) _ _ YS,YT.same t4⟩;have YU:=O5.same t9;have jl:j<nc.length:=cT ej;refine⟨_,YU.hl,by rw[aM,hg.n,gn];lia,hN _ _ ⟨_,_,ts++[e4],ks++[_],rfl,aj.put2 (xD.trans t9) nl,YU.snoc hK nel,by simp[gn],λk hk=>?_,?_⟩⟩
    ·rcases fE.mp hk with hk | hk
     ·have:=gk k hk;exact⟨this.1,by have:=this.2;lia⟩
     ·rw[fQ.mp hk];exact⟨⟨by dsimp only;lia,by dsimp only;lia,by dsimp only;lia,by dsimp only;lia,(afI ej).symm,o8.nil,λx hx=>by cases hx⟩,by dsimp only;lia⟩
    ·rw[Bl];refine⟨gp,by simp,λk hk k' gM=>?_⟩
     rw[fQ.mp gM];have:=(gk k hk).2;dsimp only;lia
   ·rintro σ H8 ⟨x,y,ts,ks,rfl,s8,hg,gn,gk,gp⟩;walk_at "rdm";exact q l ts ks H8 (s7.trans s8) (s7.free nl) hg.zu ⟨λk hk=>(gk k hk).1,gp,∅⟩
theorem alD(T:Tx K mg A)(aG:bF mg base A.br A.aX):aY P w K mg base bw 3 A.Ni A.Nj ["_law_spec_here", "_law_spot_here", "_law_known_here"] (afE K):=by
 have uZ:=Ek (P:=P) (w:=w) (base:=base) T aG;refine T.XC.ok zT (λvs H Q E h=>?_) (λaQ Ar outer s H vs Q E hr h=>?_)
 ·obtain⟨t,sp,kl,z,ao,sk,sw,za,bA,ca,sa,r,b,b9,ks,rfl,_⟩:=h
  rfl
 ·obtain⟨t,sp,kl,z,ao,sk,sw,za,bA,ca,sa,r,b,b9,ks,rfl,hS,ok,dF,r0,r1,b0,b1,hk,kc,k10,q⟩:=h;refine⟨_,(aD (cV cL rfl (c_ (aa 2)) (bE (i:=3) zT.nd rfl OL_)
   (aK (aR (i:=1) zT.nd rfl OL_ (aZ uZ (hr.mono (by first | decide | lia)) rfl T.Eb T.Ad.kp T.Ea .nil aP (ah (aa 0) (ah (aH bJ (aa 1) ak (λ_ _=>rfl)) (ah (aH bJ (aa 1) ak (λ_ _=>rfl)) (ah (aH bJ (aa 3) ak (λ_ _=>rfl)) au))))))))
   (aD (aR (i:=4) zT.nd rfl OL_ (eW au))
   (aD (cV cL rfl (lJ rfl T.gA (ah (bX eT rfl T.dG dU (ah (aa 2) au)) au)) (bE (i:=5) zT.nd rfl OL_)
   (aK (dP (kX j8 lG lH kY (aa 4) (ah (aF GY (aF GY (tV GW (aH bV (aa 2) (aa 5) (λ_ _=>rfl)) tT (tU ak)) (dD (ah (aF oR (aF oR (aF dW (aH bJ (aa 1) ak (λ_ _=>rfl)) (bX eT rfl T.dG dU (ah (aa 2) au))) ak) (aa 5)) au))) (tV GW (aH bV (aa 2) (aa 5) (λ_ _=>rfl)) (tU ak) tT)) au)))))
   (aK (bG (aa 4)))))),?_⟩
  walk_at "rdm";have e7:=hk.n;have pk:=ok.pl [];have l2:(bN z ao sk sw []).ao<=1000000000:=ok.l2;have r1':r<((bN z ao sk sw []).rc.length:Int):=r1;refine rl kl (b9.map V.ref) (λi σ H'=>∃(x:Option V) (u:Addr) (st:Int×Int),σ = [some (.ref t),some (.ref u),some (.ref kl),x,none,none]/\aj H H'/\H' u=some (.tup [.int st.1,.int st.2])/\0<=st.1/\st.1<(counts z).length/\0<=st.2/\st.2<=2000000000000+48000000000*(i:Int)) (λQ q=>q) hk.sq ⟨none,sp,(r,b),rfl,aj.refl _,dF,r0,r1,b0,by dsimp only;lia⟩ (by rintro i σ H' _ ⟨_,_,_,rfl,s',_⟩;exact(hk.same s').sq) ?_ ?_
  ·rintro i x σ H' N hN hx ⟨x0,u,st,rfl,s',hu,u0,u1,t0,t1⟩;obtain⟨a,ha,rfl⟩:=dY hx;have hi:i<ks.length:=by rw[← e7];exact cT ha
   obtain⟨b',cl,bx,hK⟩:=(hk.same s').t i a ks[i] ha (bC hi);obtain⟨c1,c2⟩:=kc ks[i] (cI hi);have k1:=aL.of (K:=K) hK.o;have k2:=aL.of (K:=K) hu;walk_at "rdm";have eb:=CZ pk l2 ks[i].c st c1;have ei:=k_ (bN z ao sk sw []) (n:=((bN z ao sk sw []).rc.length:Int)) ks[i].c st u0 u1 λq hq=>⟨(c1 q hq).1,(c1 q hq).2.1⟩;refine⟨_,k2,_,rfl,_,k2,_,rfl,_,k1,_,rfl,t,z,ao,sk,sw,za,bA,ca,sa,st.1,st.2,cl,bx,ks[i].c,rfl,hS.same s',ok,u0,u1,hK.c,c1,∅,λu2 H2 s2 nu sF=>hN _ _ ⟨_,u2,a_ (bN z ao sk sw []) st ks[i].c,rfl,s'.trans s2,sF,ei.1,ei.2,∅,∅⟩⟩
  ·rintro σ H' ⟨x0,u,st,rfl,s',hu,u0,u1,t0,t1⟩;rw[aM,e7] at t1;walk_at "rdm";intro l nl;have sy:=hk.same s';have k2:=aL.of (K:=K) hu;refine Co ks.length (λi σ H2=>∃(x y:Option V) (ts:List Addr) (iM:List Kn),σ = [some (.ref t),some (.ref u),some (.ref kl),x0,some (.ref l),y]/\aj H' H2/\nR H' H2 l ts iM/\iM.length=i/\∀(j:Nat) (k:Kn),j<i->ks[j]? = some k->∃x,0<=x/\x<=10000000000000/\iM[j]? = some { k with lX:=some x }) (λQ q=>?_) ∅ ⟨none,none,[],[],rfl,aj.put nl,⟨aE,rfl,nl,λi t k e=>by simp at e⟩,rfl,λj k h=>absurd h ∅⟩ ?_ ?_
   ·walk_at "rdm";refine⟨_,.inl (sy.same (aj.put nl)).sq,?_⟩;rw[aM,e7];exact q
   ·rintro i σ H2 N hN hi ⟨x,y,ts,iM,rfl,s2,hg,gn,ge⟩;have iP:=sy.same s2;obtain⟨a,b',cl,bx,ha,YV⟩:=sy.at hi;have ncl:cl≠l:=bY YV.c.l nl;have hK:=YV.same s2;have k1:=aL.of (K:=K) hK.o;walk_at "rdm";refine⟨⟨_,az.of hg.hl⟩,_,iP.sq,_,rJ ha,a,_,rfl,k1,by simp[_H.bQ],λc1 nc1=>?_⟩
    rw[afF];have s3:=aj.put (o:=.tup [V.int ks[i].n,V.int ks[i].f,V.int ks[i].m,V.bl ks[i].w,V.ref b']) nc1;have YW:upd H2 c1 (.tup [V.int ks[i].n,V.int ks[i].f,V.int ks[i].m,V.bl ks[i].w,V.ref b']) c1=some (.tup [V.int ks[i].n,V.int ks[i].f,V.int ks[i].m,V.bl ks[i].w,V.ref b']):=aE;generalize upd H2 c1 (.tup [V.int ks[i].n,V.int ks[i].f,V.int ks[i].m,V.bl ks[i].w,V.ref b'])=H3 at s3 YW ⊢;refine⟨_,(s2.trans s3).f9 k2,_,rfl,_,.inl (iP.same s3).sq,_,rfl,λp1 iR=>?_⟩;rw[aM,e7];have s4:=aj.put (o:=.tup [V.int (st.2+(ks.length:Int) - 1 - (i:Int))]) iR;have pQ:upd H3 p1 (.tup [V.int (st.2+(ks.length:Int) - 1 - (i:Int))]) p1=some (.tup [V.int (st.2+(ks.length:Int) - 1 - (i:Int))]):=aE;generalize upd H3 p1 (.tup [V.int (st.2+(ks.length:Int) - 1 - (i:Int))])=H4 at s4 pQ ⊢;refine⟨c1,rfl,_,aL.of (s4 _ _ YW),_,aL.of pQ,by simp,by simp,λe=>by simp at e,λ_ p2 mD=>?_⟩
    have s5:=aj.put (o:=.tup ([V.int ks[i].n,V.int ks[i].f,V.int ks[i].m,V.bl ks[i].w,V.ref b']++[V.int (st.2+(ks.length:Int) - 1 - (i:Int))])) mD;have ig:upd H4 p2 (.tup ([V.int ks[i].n,V.int ks[i].f,V.int ks[i].m,V.bl ks[i].w,V.ref b']++[V.int (st.2+(ks.length:Int) - 1 - (i:Int))])) p2=some (.tup ([V.int ks[i].n,V.int ks[i].f,V.int ks[i].m,V.bl ks[i].w,V.ref b']++[V.int (st.2+(ks.length:Int) - 1 - (i:Int))])):=aE;generalize upd H4 p2 (.tup ([V.int ks[i].n,V.int ks[i].f,V.int ks[i].m,V.bl ks[i].w,V.ref b']++[V.int (st.2+(ks.length:Int) - 1 - (i:Int))]))=H5 at s5 ig ⊢;have O6:=s3.trans (s4.trans s5);refine⟨_,(iP.same O6).sq,_,rJ ha,a,_,rfl,O6.f9 k1,by simp[_H.bQ],λp3 Ao=>?_⟩
    rw[afG];have s6:=aj.put (o:=.tup [V.ref cl]) Ao;have qJ:upd H5 p3 (.tup [V.ref cl]) p3=some (.tup [V.ref cl]):=aE;generalize upd H5 p3 (.tup [V.ref cl])=H6 at s6 qJ ⊢
    try walk_at "rdm"
    refine⟨_,aL.of (s6 _ _ ig),_,aL.of qJ,by simp,by simp,λe=>by simp at e,λ_ p4 Aq=>?_⟩
    have s7:=aj.put (o:=.tup ([V.int ks[i].n,V.int ks[i].f,V.int ks[i].m,V.bl ks[i].w,V.ref b']++[V.int (st.2+(ks.length:Int) - 1 - (i:Int))]++[V.ref cl])) Aq;have sG:=(O6.trans s6).trans s7;have hK7:iL (upd H6 p4 (.tup ([V.int ks[i].n,V.int ks[i].f,V.int ks[i].m,V.bl ks[i].w,V.ref b']++[V.int (st.2+(ks.length:Int) - 1 - (i:Int))]++[V.ref cl]))) p4 { ks[i] with lX:=some (st.2+(ks.length:Int) - 1 - (i:Int))} b' cl bx:=⟨aE,sG _ _ hK.b,hK.c.same sG⟩;have YX:=hg.same sG;refine⟨_,YX.hl,by rw[aM,hg.n,gn];lia,hN _ _ ⟨x,_,ts++[p4],iM++[_],rfl,aj.put2 (s2.trans sG) nl,YX.snoc hK7 ncl,by simp[gn],λj k hj e=>?_⟩⟩
    by_cases kD:j<i
    ·obtain⟨x',x0',x1',e'⟩:=ge j k kD e;exact⟨x',x0',x1',by rw[d9 ∅];exact e'⟩
    ·have:j=i:=by lia
     subst this;rw[bC hi] at e;cases e;refine⟨_,?_,?_,by rw[d_ ∅,gn,Bq];rfl⟩
     ·lia
     ·lia
   ·rintro σ H2 ⟨x,y,ts,iM,rfl,s2,hg,gn,ge⟩;walk_at "rdm";exact q l ts iM H2 (s'.trans s2) (s'.free nl) hg.zu ⟨gn,λi k e=>ge i k (cT e) e⟩
theorem alE(T:Tx K mg A)(aG:bF mg base A.br A.aX):aY P w K mg base bw 3 A.Nz A.NB ["_law_spec_here", "_law_ring", "_law_beat", "_law_known_here", "_law_begun"] (agL K):=by
 have uZ:=Ek (P:=P) (w:=w) (base:=base) T aG;refine T.Ob.ok zW (λvs H Q E h=>?_) (λaQ Ar outer s H vs Q E hr h=>?_)
 ·obtain⟨t,kl,b,z,ao,sk,sw,za,bA,ca,sa,r,bt,b9,ks,bg,rfl,_⟩:=h
  rfl
 ·obtain⟨t,kl,b,z,ao,sk,sw,za,bA,ca,sa,r,bt,b9,ks,bg,rfl,hS,ok,r0,r1,hk,kc,hb,q⟩:=h;have e7:=hk.n;refine⟨_,(aD (cV cL rfl (Gp (aa 4)) (bE (i:=5) zW.nd rfl OL_)
   (aK (cV cL rfl (c_ (aa 3)) (bE (i:=6) zW.nd rfl OL_)
   (aK (cU (dB lN (aH bJ (aa 6) ak (λ_ _=>rfl)) (aa 5) (bL _)) (aK (tw (aZ uZ (hr.mono (by first | decide | lia)) rfl T.Eb T.Ad.kp T.Ea .nil aP (ah (aa 0) (ah (aa 1) (ah (aa 2) (ah (aH bJ (aa 6) ak (λ_ _=>rfl)) au))))) (j_ rfl (dz (bE (i:=1) zW.nd rfl OL_) (dz (bE (i:=2) zW.nd rfl OL_) jH))))) bZ)))))
   (aK (bG (dD (ah (aa 1) (ah (aa 2) au)))))),?_⟩
  walk_at "rdt";refine rt b (bg.map V.int) (λi σ H'=>∃(st:Int×Int) (x y:Option V),st=uG (bN z ao sk sw []) (r,bt) ks (bg.take i)/\0<=st.1/\st.1<(counts z).length/\σ = [some (.ref t),some (.int st.1),some (.int st.2),some (.ref kl),some (.ref b),x,y]/\aj H H') (λQ q=>q) (aL.of hb) ⟨(r,bt),none,none,rfl,r0,r1,rfl,aj.refl H⟩ (by rintro i σ H' _ ⟨st,x,y,_,_,_,rfl,s'⟩;exact aL.of (s' _ _ hb)) ?_ ?_
  ·rintro i x σ H' N hN hx ⟨st,x0,y0,e,YY,pI,rfl,s'⟩;obtain⟨n,hn,rfl⟩:=dY hx;walk_at "rdt";refine rl kl (b9.map V.ref) (λj σ H2=>∃(b7:Int×Int) (w:Option V),b7=(ks.take j).foldl (λst k=>if k.n=n then a_ (bN z ao sk sw []) st k.c else st) st/\0<=b7.1/\b7.1<(counts z).length/\σ = [some (.ref t),some (.int b7.1),some (.int b7.2),some (.ref kl),some (.ref b),some (.int n),w]/\aj H H2) (λQ q=>q) (hk.same s').sq ⟨st,y0,rfl,YY,pI,rfl,s'⟩ (by rintro j σ H2 _ ⟨b7,w,_,_,_,rfl,s2⟩;exact(hk.same s2).sq) ?_ ?_
   ·rintro j x σ H2 N2 gT gU ⟨b7,w,e2,a0,a1,rfl,s2⟩;obtain⟨t2,uL,rfl⟩:=dY gU;have hj:j<ks.length:=by rw[← e7];exact cT uL
    obtain⟨b2,cl,bx,hK⟩:=(hk.same s2).t j t2 ks[j] uL (bC hj);have tk:=take_succ_get (bC hj);obtain⟨c1,c2⟩:=kc ks[j] (cI hj);generalize ks[j] = k at *
    have ef:(ks.take (j+1)).foldl (λst k=>if k.n=n then a_ (bN z ao sk sw []) st k.c else st) st=if k.n=n then a_ (bN z ao sk sw []) b7 k.c else b7:=by rw[tk,vd,← e2];rfl
    walk_at "rdt";refine⟨_,aL.of hK.o,_,rfl,rfl,?_⟩;walk_at "rdt";refine cF (λh1=>?_) λh1=>?_
    ·refine⟨_,aL.of hK.o,_,rfl,t,z,ao,sk,sw,za,bA,ca,sa,b7.1,b7.2,cl,bx,k.c,rfl,hS.same s2,ok,a0,a1,hK.c,c1,∅,λu H3 s3 nu hu=>?_⟩
     have i:=k_ (bN z ao sk sw []) (n:=(counts z).length) k.c b7 a0 a1 λq hq=>⟨(c1 q hq).1,(c1 q hq).2.1⟩;exact⟨u,rfl,_,aL.of hu,rfl,_,_,rfl,_,_,rfl,rfl,gT _ _ ⟨a_ (bN z ao sk sw []) b7 k.c,_,by rw[ef,if_pos h1],i.1,i.2,rfl,s2.trans s3⟩⟩
    ·exact gT _ _ ⟨b7,_,by rw[ef,if_neg h1],a0,a1,rfl,s2⟩
   ·rintro σ H2 ⟨b7,w,e2,a0,a1,rfl,s2⟩;rw[aM,e7,c9] at e2;refine hN _ _ ⟨b7,_,_,?_,a0,a1,rfl,s2⟩;rw[e2,e,take_succ_get hn];unfold uG;rw[vd];rfl
  ·rintro σ H' ⟨st,x0,y0,e,YY,pI,rfl,s'⟩;rw[aM,c9] at e;subst e;walk_at "rdt";exact λu nu=>q u _ (s'.trans (aj.put nu)) (s'.free nu) aE
theorem alF(T:Tx K mg A)(aG:bF mg base A.br A.aX):aY P w K mg base bw 3 A.NF A.NG ["_law_found", "_law_known_here"] (agN K):=by
 have O7:=YE (P:=P) (w:=w) (base:=base) T aG;have As:=OL (P:=P) (w:=w) (base:=base) T aG;have O8:=YF (P:=P) (w:=w) (base:=base) T aG;refine T.XO.ok WB (λvs H Q E h=>?_) (λaQ Ar outer s H vs Q E hr h=>?_)
 ·obtain⟨f,kl,b9,ks,bg,rfl,_⟩:=h
  rfl
 ·obtain⟨f,kl,b9,ks,bg,rfl,hf,hk,n60,up,od,q⟩:=h;have Au:=hr.Sj;have e7:=hk.n;have bl:bg.length=ks.length:=by have:=od.p.length_eq;simpa using this
  refine⟨_,(aD (cU (PW.pt (gF (iV (gC (aZ O8 (hr.mono (by first | decide | lia)) rfl T.XN T.Oc.kp T.XM .nil aP (ah (aa 0) au)))) (iF (dB (ac8 Au) (bX agG rfl T.Ag boot_sorted (ah (aa 0) au)) (gP (N:=["_law_one"]) (nt:=1) (fv:=[]) ‹cN.of› rfl (c_ (aa 1)) (λC s H fp=>(bE (i:=0) (show List.Nodup (["_law_one"]:List Str) by decide +kernel) rfl OL_)) (λC s H fp=>jL) (λC s H fp=>(aH (kH (K:=K) rfl) (aa 0) ak (λ_ _=>rfl)))) (bL _))))) (aK (bG gb)) bZ)
   (aD (cV cL rfl (lJ rfl T.gA (ah (bX eT rfl T.dG dU (ah (aa 0) au)) au)) (bE (i:=2) WB.nd rfl OL_)
   (aK (cU (dB SK (aH bJ (aa 0) (aa 2) (λ_ _=>rfl)) (aZ O7 (hr.mono (by first | decide | lia)) rfl T.XH T.N7.kp T.XG .nil aP (ah (aZ As (hr.mono (by first | decide | lia)) rfl T.Oa T.Ed.kp T.N_ .nil aP (ah (aa 1) (ah (tV GW (aa 0) tT (tU (aa 2))) au))) au)) rfl) (aK (bG gb)) bZ)))
   (aK (bG gb)))),?_⟩
  walk_at "rdt";refine⟨f,bg,rfl,hf,λH1 s1=>⟨_,rfl,ite_no (by simp) ⟨bg,aL.of (s1 _ _ hf),∅,λl ms nl pm srt=>?_⟩⟩⟩
  have es:ms=ks.map (·.n):=VP (pm.trans od.p) srt (p9.mpr up);subst es;have s2:=aj.put (o:=.lst ((ks.map (·.n)).map V.int)) nl;have rK:upd H1 l (.lst ((ks.map (·.n)).map V.int)) l=some (.lst ((ks.map (·.n)).map V.int)):=aE;generalize upd H1 l (.lst ((ks.map (·.n)).map V.int))=H2 at *
  have iP:=hk.same (s1.trans s2);refine i8 kl (b9.map V.ref) (λD i ys aC H3=>∃(u:Option V),ys=((ks.take i).map (·.n)).map V.int/\aC = [u]/\H3 D=some (.lst ys)/\aj H2 H3/\H2 D=none) (λQ q=>q) iP.sq ?_ ?_ ?_ ?_
  ·intro D hD;exact⟨none,rfl,rfl,aE,aj.put hD,hD⟩
  ·rintro D i ys aC H3 ⟨u,rfl,rfl,e1,e2,e3⟩;exact⟨e1,g8 (by simp only[List.length_map,List.length_take];lia),(iP.same e2).sq⟩
  ·rintro D i x ys aC H3 N hN hx ⟨u,rfl,rfl,e1,e2,e3⟩;obtain⟨t,ht,rfl⟩:=dY hx;have hi:i<ks.length:=by rw[← e7];exact cT ht
   obtain⟨b2,cl,bx,hK⟩:=(iP.same e2).t i t ks[i] ht (bC hi);walk_at "rdt";refine⟨_,aL.of hK.o,_,rfl,e1,hN _ _ _ ⟨_,?_,rfl,aE,aj.put2 e2 e3,e3⟩⟩;rw[take_succ_get (bC hi),bT,bT];rfl
  ·rintro D ys aC H3 ⟨u,rfl,rfl,e1,e2,e3⟩;rw[aM,e7,c9] at e1;have s3:=(s1.trans s2).trans e2;refine⟨D,rfl,_,az.of (e2 _ _ rK),az.of e1,λv hv=>?_,?_⟩
   ·obtain⟨n,_,rfl⟩:=dh.mp hv;exact⟨λ_ z=>(nomatch z),λ_ z=>(nomatch z)⟩
   ·refine Co bg.length (λi σ H'=>∃x,σ = [some (.ref f),some (.ref kl),x]/\aj H H') (λQ q=>?_) ∅ ⟨none,rfl,s3⟩ ?_ ?_
    ·walk_at "rdt";refine⟨_,.inr (aL.of (s3 _ _ hf)),?_⟩;rw[aM];exact q
    ·rintro i σ H' N hN hi ⟨x,rfl,s'⟩;obtain⟨n,hn⟩:∃n,bg[i]? = some n:=⟨_,bC hi⟩;have rX:=od.f i n hn;walk_at "rdt";have zE:=s' _ _ hf;refine⟨_,aL.of zE,_,rJ (by rw[jZ,hn];rfl),f,_,rfl,aL.of zE,λz=>?_,λp np=>?_⟩
     ·have z2:=z.2;rw[aM,_H.acg] at z2;lia
     ·have s4:=aj.put (o:=.tup (iG (bg.map V.int) none (some (i:Int)))) np;have YZ:=s'.trans s4;refine⟨kl,p,b9,ks,bg.take i,rfl,hk.same YZ,∅,by rw[aE,afO,List.map_take],λD2 ts H5 s5 nD2 hk5=>⟨D2,ts,_,rfl,hk5,cQ (kM _ _) ∅,λD3 H6 s6 nD3 hD3=>⟨D3,rfl,_,.inl (az.of hD3),rfl,wI _,ite_no ?_ (hN _ _ ⟨_,rfl,(YZ.trans s5).trans s6⟩)⟩⟩⟩
      rw[qz];simp[rX]
    ·rintro σ H' ⟨x,rfl,s'⟩;walk_at "rdt";exact q _ s'
theorem alG(T:Tx K mg A)(aG:bF mg base A.br A.aX):aY P w K mg base bw 3 A.NJ A.NK ["_law_leaves"] ahC:=by
 have Am:=OJ (P:=P) (w:=w) (base:=base) T aG;have O8:=YF (P:=P) (w:=w) (base:=base) T aG;refine T.XR.ok WC (λvs H Q E h=>?_) (λaQ Ar outer s H vs Q E hr h=>?_)
 ·obtain⟨lv,cO,us,rfl,_⟩:=h
  rfl
 ·obtain⟨lv,cO,us,rfl,hl,hn,nd,q⟩:=h;have jX:_+16<cLine:=oE (qb (by decide:16<=64) _) hr.units
  refine⟨_,(aD (cU (iV (gC (bX wz rfl T.sr vA (ah (aa 0) (ah (vL (v:=.ty "list") rfl T.qQ sU rfl) au))))) (aK (bG gb)) bZ)
   (aD (cV cL rfl (c_ (aa 0)) (bE (i:=1) WC.nd rfl OL_)
   (aK (cU (PW.pt (gF (iV (gC (bX wz rfl T.sr vA (ah (aa 1) (ah (vL (v:=.ty "tuple") rfl T.su vB rfl) au))))) (gF (eE zM (bX eT rfl T.dG dU (ah (aa 1) au)) ak (bL _)) (gF (iV (gC (aZ O8 (hr.mono (by first | decide | lia)) rfl T.XN T.Oc.kp T.XM .nil aP (ah (aH bJ (aa 1) ak (λ_ _=>rfl)) au)))) (iF (iV (gC (aZ Am (hr.mono (by first | decide | lia)) rfl T.N9 T.Ec.kp T.N8 .nil aP (ah (aH bJ (aa 1) ak (λ_ _=>rfl)) au))))))))) (aK (bG gb)) bZ)))
   (aK (bG (iX lN (ahr rfl T.dG rfl T.OC rfl jX (gP (N:=["_law_leaf"]) (nt:=1) (fv:=[]) ‹cN.of› rfl (c_ (aa 0)) (λC s H fp=>(bE (i:=0) (show List.Nodup (["_law_leaf"]:List Str) by decide +kernel) rfl OL_)) (λC s H fp=>jL) (λC s H fp=>(aH (kH (K:=K) rfl) (aa 0) ak (λ_ _=>rfl))))) (bX eT rfl T.dG dU (ah (aa 0) au)) (bL _)))))),?_⟩
  walk_at "rdt";refine⟨_,.lst hl.l,_,rfl,ite_no (by simp) ?_⟩
  refine rl lv (cO.map V.ref) (λi σ H'=>∃x,σ = [some (.ref lv),x]/\aj H H') (λQ q=>q) (az.of hl.l) ⟨none,rfl,aj.refl _⟩ (by rintro i σ H' _ ⟨_,rfl,s'⟩;exact az.of (s' _ _ hl.l)) ?_ ?_
  ·rintro i x σ H' N hN hx ⟨x0,rfl,s'⟩;obtain⟨u,hu,rfl⟩:=dY hx;have hi:i<us.length:=by rw[← hl.n];exact cT hu
   obtain⟨p,h1,h2⟩:=hl.t i u us[i] hu (bC hi);walk_at "rdt";have uu:=s' _ _ h1;refine⟨_,.tup uu,_,rfl,ite_no (by simp) ⟨_,.inr (aL.of uu),ite_no (by simp) ⟨_,aL.of uu,_,rfl,p,us[i].2.2.1,rfl,s' _ _ h2,λH2 s2=>⟨_,rfl,ite_no (by simp) ⟨_,aL.of (s2 _ _ uu),_,rfl,us[i].1,rfl,_,rfl,ite_no (by simp) (hN _ _ ⟨_,rfl,s'.trans s2⟩)⟩⟩⟩⟩⟩
  ·rintro σ H' ⟨x0,rfl,s'⟩;walk_at "rdt";have rL:=s' _ _ hl.l;refine i8 lv (cO.map V.ref) (λD i ys aC H2=>∃(v:Option V) (zs:Us),ys=uV zs/\aC = [v]/\H2 D=some (.lst ys)/\aj H' H2/\H' D=none/\nQ H2 zs/\zs.map (·.2)=(us.take i).map (·.2.2.1)) (λQ q=>q) (az.of rL) ?_ ?_ ?_ ?_
   ·intro D hD;exact⟨none,[],rfl,rfl,aE,aj.put hD,hD,(λ_ h=>nomatch h),rfl⟩
   ·rintro D i ys aC H2 ⟨v,zs,rfl,rfl,e1,e2,e3,e4,e5⟩;refine⟨e1,C_ ?_,az.of (e2 _ _ rL)⟩;have:=fR List.length e5;rw[aM,aM,dH] at this;rw[UN];lia
   ·rintro D i x ys aC H2 N hN hx ⟨v,zs,rfl,rfl,e1,e2,e3,e4,e5⟩;obtain⟨u,hu,rfl⟩:=dY hx;have hi:i<us.length:=by rw[← hl.n];exact cT hu
    obtain⟨p,h1,h2⟩:=hl.t i u us[i] hu (bC hi);walk_at "rdt";refine⟨_,aL.of (e2 _ _ (s' _ _ h1)),_,rfl,e1,hN _ _ _ ⟨_,zs++[(p,us[i].2.2.1)],by simp[uV],rfl,aE,aj.put2 e2 e3,e3,λz hz=>?_,?_⟩⟩
    ·have jB:H2 z.1=some (.tup (z.2.map V.int)):=by
      rcases fE.mp hz with h | h
      ·exact e4 z h
      ·rw[fQ.mp h];exact e2 _ _ (s' _ _ h2)
     rw[aI (λe=>by rw[e,e1] at jB;cases jB)]
     exact jB
    ·rw[bT,e5,take_succ_get (bC hi),bT];rfl
   ·rintro D ys aC H2 ⟨v,zs,rfl,rfl,e1,e2,e3,e4,e5⟩;rw[aM,hl.n,c9] at e5;have en:zs.length=us.length:=by
     have:=fR List.length e5;rwa [aM,aM] at this
    refine⟨D,rfl,zs,az.of e1,e4,by rw[e5];exact nd,∅,_,.inl (az.of (e2 _ _ rL)),?_⟩
    rw[kO (by rw[aM,hl.n,en])]
    exact q _ (s'.trans e2)
theorem alH(T:Tx K mg A)(aG:bF mg base A.br A.aX):aY P w K mg base bw 3 A.NL A.NN ["_law_spec_here", "_law_spot_here", "_law_known_here"] (ahD K):=by
 have uZ:=Ek (P:=P) (w:=w) (base:=base) T aG;refine T.XU.ok xx (λvs H Q E h=>?_) (λaQ Ar outer s H vs Q E hr h=>?_)
 ·obtain⟨t,z,ao,sk,sw,za,bA,ca,sa,sp,r,b,kl,b9,ks,rfl,_⟩:=h
  rfl
 ·obtain⟨t,z,ao,sk,sw,za,bA,ca,sa,sp,r,b,kl,b9,ks,rfl,dF,hS,ok,r0,r1,hk,kc,q⟩:=h;refine⟨_,(aD (aR (i:=3) xx.nd rfl OL_ (aH bJ (aa 1) ak (λ_ _=>rfl)))
   (aD (cV cL rfl (c_ (aa 2)) (bE (i:=4) xx.nd rfl OL_)
   (aK (aR (i:=3) xx.nd rfl OL_ (aF dW (aa 3) (bX (Ci rfl) rfl T.xA boot_sum (ah (gP (N:=["_law_cell", "_law_spec_here"]) (nt:=1) (fv:=[0]) ‹cN.of› rfl (c_ (aH bJ (aa 4) ak (λ_ _=>rfl))) (λC s H fp=>(bE (i:=0) (show List.Nodup (["_law_cell", "_law_spec_here"]:List Str) by decide +kernel) rfl OL_)) (λC s H fp=>jL) (λC s H fp=>(aF tM (aH (kH (K:=K) rfl) (aa 1) ak (λ_ _=>rfl)) (aH (adl (K:=K) rfl) (aH (kH (K:=K) rfl) (aa 1) ak (λ_ _=>rfl)) (aH (kH (K:=K) rfl) (aa 0) ak (λ_ _=>rfl)) (λ_ _=>rfl))))) au))))))
   (aD (cV cL rfl (c_ (aa 2)) (bE (i:=4) xx.nd rfl OL_)
   (aK (aR (i:=3) xx.nd rfl OL_ (bX (abO rfl) rfl T.Eg boot_max (ah (aa 3) (ah (aH tW (aZ uZ (hr.mono (by first | decide | lia)) rfl T.Eb T.Ad.kp T.Ea .nil aP (ah (aa 0) (ah (aH bJ (aa 1) ak (λ_ _=>rfl)) (ah (aH bJ (aa 1) ak (λ_ _=>rfl)) (ah (aH bJ (aa 4) ak (λ_ _=>rfl)) au))))) ak (λ_ _=>rfl)) au))))))
   (aK (bG (aa 3)))))),?_⟩
  walk_at "rdm";have e7:=hk.n;have pk:=ok.pl [];refine⟨_,aL.of dF,_,rfl,?_⟩;refine rl kl (b9.map V.ref) (λi σ H'=>∃x,σ = [some (.ref t),some (.ref sp),some (.ref kl),some (.int (b+(((ks.take i).map (·.c)).map (fz (bN z ao sk sw []))).sum)),x]/\aj H H') (λQ q=>q) hk.sq ⟨none,by simp,aj.refl _⟩ (by rintro i σ H' _ ⟨_,rfl,s'⟩;exact(hk.same s').sq) ?_ ?_
  ·rintro i x σ H' N hN hx ⟨x0,rfl,s'⟩;obtain⟨u,hu,rfl⟩:=dY hx;have hi:i<ks.length:=by rw[← e7];exact cT hu
   obtain⟨b',cl,bx,hK⟩:=(hk.same s').t i u ks[i] hu (bC hi);obtain⟨c1,c2⟩:=kc ks[i] (cI hi);have k1:=aL.of (K:=K) hK.o;walk_at "rdm";have pA:=aL.of (K:=K) (s' _ _ hS.o);have hz:=hK.c;refine i8 cl (bx.map V.ref) (λD j ys aC H2=>∃(v:Option V),ys=((ks[i].c.take j).map λq=>ao / (counts z).getD q.1.toNat 0).map V.int/\aC = [v,some (.ref t)]/\H2 D=some (.lst ys)/\aj H' H2/\H' D=none) (λQ q=>?_) hz.sq ?_ ?_ ?_ ?_
   ·walk_at "rdm";exact⟨_,k1,_,rfl,q⟩
   ·intro D hD;exact⟨none,rfl,rfl,aE,aj.put hD,hD⟩
   ·rintro D j ys aC H2 ⟨v,rfl,rfl,e1,e2,e3⟩;exact⟨e1,g8 (by rw[aM,aM,dH];lia),(hz.same e2).sq⟩
   ·rintro D j x ys aC H2 N2 gT gU ⟨v,rfl,rfl,e1,e2,e3⟩;obtain⟨ct,w,rfl,hw,ht⟩:=(hz.same e2).at gU;obtain⟨w0,w1,w2,w3⟩:=c1 w (get_mem hw);have pR:=pk.c w.1.toNat ∅
    have w1':w.1<((counts z).length:Int):=w1;have aq2:1<=(counts z).getD w.1.toNat 0/\(counts z).getD w.1.toNat 0<=1000:=pR;walk_at "rdm";refine⟨_,e2.f9 pA,_,rfl,_,e2.f9 pA,_,rfl,_,aL.of ht,_,rfl,ca,rfl,?_⟩;walk_at "rdm";refine⟨_,az.of (e2 _ _ (s' _ _ hS.c)),_,gi w0 w1',?_⟩;walk_at "rdm";refine⟨∅,∅,e1,gT _ _ _ ⟨_,?_,rfl,aE,aj.put2 e2 e3,e3⟩⟩
    rw[take_succ_get hw,bT,bT];rfl
   ·rintro D ys aC H2 ⟨v,rfl,rfl,e1,e2,e3⟩;rw[lenZ hz.n,c9] at e1;refine⟨D,rfl,_,az.of e1,hN _ _ ⟨some (.ref u),?_,s'.trans e2⟩⟩;rw[take_succ_get (bC hi),bT,bT,xW,Int.add_assoc];simp[fz,bN]
  ·rintro σ H' ⟨x0,rfl,s'⟩;rw[aM,e7,c9];walk_at "rdm";have sy:=hk.same s';refine rl kl (b9.map V.ref) (λi σ H2=>∃x,σ = [some (.ref t),some (.ref sp),some (.ref kl),some (.int (((ks.take i).map (·.c)).foldl (λx c=>max x (a_ (bN z ao sk sw []) (r,b) c).2) (b+((ks.map (·.c)).map (fz (bN z ao sk sw []))).sum))),x]/\aj H' H2) (λQ q=>q) sy.sq ⟨x0,rfl,aj.refl _⟩ (by rintro i σ H2 _ ⟨_,rfl,s2⟩;exact(sy.same s2).sq) ?_ ?_
   ·rintro i x σ H2 N hN hx ⟨x1,rfl,s2⟩;obtain⟨u,hu,rfl⟩:=dY hx;have hi:i<ks.length:=by rw[← e7];exact cT hu
    obtain⟨b',cl,bx,hK⟩:=(sy.same s2).t i u ks[i] hu (bC hi);obtain⟨c1,c2⟩:=kc ks[i] (cI hi);have k1:=aL.of (K:=K) hK.o;walk_at "rdm";have Ep:=aL.of (K:=K) (s2 _ _ (s' _ _ dF));refine⟨_,Ep,_,rfl,_,Ep,_,rfl,_,k1,_,rfl,t,z,ao,sk,sw,za,bA,ca,sa,r,b,cl,bx,ks[i].c,rfl,(hS.same s').same s2,ok,r0,r1,hK.c,c1,c2,λu2 H3 s3 nu sF=>?_⟩;refine⟨u2,rfl,_,aL.of sF,_,rfl,?_⟩;walk_at "rdm";have em:∀x y:Int,(if x<y then y else x)=max x y:=λx y=>by split <;> lia
    refine hN _ _ ⟨some (.ref u),?_,s2.trans s3⟩;rw[em,take_succ_get (bC hi),bT,vd];rfl
   ·rintro σ H2 ⟨x1,rfl,s2⟩;rw[aM,e7,c9];walk_at "rdm";exact q _ (s'.trans s2)
theorem alI(T:Tx K mg A)(aG:bF mg base A.br A.aX):aY P w K mg base bw 4 A.Lu A.Lv ["first", "many", "at", "asker", "latest", "behind"] (aed K A.bW):=by
 have O9:=Ym (P:=P) (w:=w) (base:=base) T aG;have O_:=YG (P:=P) (w:=w) (base:=base) T aG;have Pa:=Yn (P:=P) (w:=w) (base:=base) T aG;refine T.WK.ok Wt (λvs H Q E h=>?_) (λaQ Ar outer s H vs Q E hr h=>?_)
 ·obtain⟨f,m,a,s',l,bv,ns,rfl,_⟩:=h
  rfl
 ·obtain⟨f,m,a,s',l,bv,ns,rfl,hB,hv,hR,q⟩:=h;refine⟨_,(aD (aR (i:=6) Wt.nd rfl OL_ (aZ Pa (hr.mono (by first | decide | lia)) rfl T.WJ T.NR.kp T.WI .nil aP (ah (aa 5) au)))
   (aD (dP (aZ O_ (hr.mono (by first | decide | lia)) rfl T.WH T.NQ.kp T.WG .nil aP (ah (aa 0) (ah (aa 1) (ah (aa 2) (ah (aa 3) (ah (aa 4) (ah (aa 6) au))))))))
   (aK (bG (yE T.X3 O9 (hr.mono (by first | decide | lia)) rfl T.X4 T.WD .nil aP (ah mX (ah (aa 0) (ah (aa 1) (ah (dD au) (ah (aa 2) (ah (aa 3) (ah (aa 4) (ah (aa 6) (ah gb au)))))))))))))),?_⟩
  walk_at "rdt";refine⟨_,ns,rfl,hv,λb H1 s1 hb=>?_⟩;walk_at "rdt";refine⟨_,_,_,_,_,_,ns,rfl,hB,aL.of hb,hR,?_⟩;walk_at "rdt";intro mk nm x dx nx lW fV;refine⟨x,dx,_,_,_,_,_,_,_,_,_,rfl,aE,rfl,?_⟩;obtain⟨a1,a2,a3⟩:=T4 (K:=K) (C:=A.bW) (q:=⟨"read",f,m,[],a,s',l,ns,false⟩) (s1.trans (aj.put nm)) nx lW fV aE (aj.put nm _ _ hb);exact q _ _ _ _ _ a1 a2 a3
theorem alJ(T:Tx K mg A)(aG:bF mg base A.br A.aX):aY P w K mg base bw 4 A.Lw A.Lx ["first", "marks", "at", "asker", "latest", "behind", "early"] (aee K A.bW):=by
 have O9:=Ym (P:=P) (w:=w) (base:=base) T aG;have qU:=OE (P:=P) (w:=w) (base:=base) T aG;have O_:=YG (P:=P) (w:=w) (base:=base) T aG;have Pa:=Yn (P:=P) (w:=w) (base:=base) T aG;refine T.WL.ok Lb (λvs H Q E h=>?_) (λaQ Ar outer s H vs Q E hr h=>?_)
 ·obtain⟨f,a,s',ma,ms,l,bv,ns,e,rfl,_⟩:=h
  rfl
 ·obtain⟨f,a,s',ma,ms,l,bv,ns,e,rfl,hm,Y0,hB,hv,hR,q⟩:=h;refine⟨_,(aD (aR (i:=7) Lb.nd rfl OL_ (aZ Pa (hr.mono (by first | decide | lia)) rfl T.WJ T.NR.kp T.WI .nil aP (ah (aa 5) au)))
   (aD (dP (aZ O_ (hr.mono (by first | decide | lia)) rfl T.WH T.NQ.kp T.WG .nil aP (ah (aa 0) (ah (bX eT rfl T.dG dU (ah (aa 1) au)) (ah (aa 2) (ah (aa 3) (ah (aa 4) (ah (aa 7) au))))))))
   (aD (cV cL rfl (c_ (aa 1)) (bE (i:=8) Lb.nd rfl OL_)
   (aK (dP (aZ qU (hr.mono (by first | decide | lia)) rfl T.uT T.sf.kp T.uS .nil aP (ah (aa 8) (ah ak (ah (jG (v:=.int 1000000000) rfl T.ako ⟨_,rfl⟩) (ah mX au))))))))
   (aK (bG (yE T.X3 O9 (hr.mono (by first | decide | lia)) rfl T.X4 T.WD .nil aP (ah mX (ah (aa 0) (ah (bX eT rfl T.dG dU (ah (aa 1) au)) (ah (kU G3 rfl T.su vB (ah (aa 1) au)) (ah (aa 2) (ah (aa 3) (ah (aa 4) (ah (aa 7) (ah (aa 6) au))))))))))))))),?_⟩
  walk_at "rdt";refine⟨_,ns,rfl,hv,λb H1 s1 hb=>?_⟩;walk_at "rdt";refine⟨_,.inl (s1.seq hm),?_⟩;simp only[List.length_map];refine⟨_,_,_,_,_,_,ns,rfl,hB,aL.of hb,hR,?_⟩
  try dsimp only
  have qB:=s1.seq hm;refine rl ma (ms.map V.int) (λi σ H'=>∃x,σ = [some (.int f),some (.ref ma),some (.int a),some (.int s'),some (jN l),some bv,some (.bl e),some (.ref b),x]/\H' = H1) (λQ q=>q) qB ⟨none,rfl,rfl⟩ (by rintro i σ H' _ ⟨x,rfl,rfl⟩;exact qB) ?_ ?_
  ·rintro i x σ H' N hN hx ⟨x0,rfl,rfl⟩;obtain⟨n,hn,rfl⟩:=dY hx;walk_at "rdm";exact⟨n,0,1000000000,_,rfl,(Y0 n (get_mem hn)).1,(Y0 n (get_mem hn)).2,hN _ _ ⟨_,rfl,rfl⟩⟩
  ·rintro σ H' ⟨x0,rfl,rfl⟩;walk_at "rdt";refine⟨_,.inl qB,_,.inl ⟨qB,λmk nm=>?_⟩⟩;intro x dx nx lW fV;refine⟨x,dx,_,_,_,_,_,_,_,_,_,rfl,aE,rfl,?_⟩;simp only[List.length_map];obtain⟨a1,a2,a3⟩:=T4 (K:=K) (C:=A.bW) (q:=⟨"write",f,ms.length,ms,a,s',l,ns,e⟩) (s1.trans (aj.put nm)) nx lW fV aE (aj.put nm _ _ hb);exact q _ _ _ _ _ a1 a2 a3
theorem alK(T:Tx K mg A)(aG:bF mg base A.br A.aX):aY P w K mg base bw 4 A.LN A.LO ["self", "plate", "number", "ask"] (afy K [A.bK,A.bB] A.bW A.cJ):=by
 have alL:=alk (P:=P) (w:=w) (base:=base) T aG;refine T.aiA.ok ahR (λvs H Q E h=>?_) (λaQ Ar outer s H vs Q E hr h=>?_)
 ·obtain⟨C,p,pl,ap,dx,n,P,fp,q',m,b,cu,rfl,_⟩:=h
  rfl
 ·obtain⟨C,p,pl,ap,dx,n,P,fp,q',m,b,cu,rfl,hp,hC,hP,iR,mD,ha,hf,hn,q⟩:=h;refine⟨_,(aD (GI (aa 0) (aa 2) rfl)
   (aD (GI (aa 0) (aa 3) rfl)
   (aK (GI (aa 0) (aZ alL (hr.mono (by first | decide | lia)) rfl T.aiz T.WU.kp T.aiy .nil aP (ah (aa 1) (ah (aa 2) (ah (aa 3) au)))) rfl)))),?_⟩
  wp_walk using T,hp;have Pb:ap≠p:=λe=>by
   have:=ha.o;rw[e,hp] at this;simp[uq] at this
  have nm:m≠p:=λe=>by have:=ha.ms;rw[e,hp] at this;cases this
  have nb:b≠p:=λe=>by have:=ha.bh;rw[e,hp] at this;cases this
  have xE:cW K C (upd H p (HO.ins A.cJ dx [("number",V.int n),("ask",V.ref ap)])) pl P fp:=hP.keep (aI (iC iR)) λb hb=>aI (λe=>mD (e▸hb));have Pc:kB K A.bW (upd H p (HO.ins A.cJ dx [("number",V.int n),("ask",V.ref ap)])) ap q' m b cu:=⟨(aI Pb).trans ha.o,(aI nm).trans ha.ms,(aI nb).trans ha.bh⟩;have sb:SameBut p H (upd H p (HO.ins A.cJ dx [("number",V.int n),("ask",V.ref ap)])):=(SameBut.of (aj.refl H)).put;have pQ:upd H p (HO.ins A.cJ dx [("number",V.int n),("ask",V.ref ap)]) p=some (HO.ins A.cJ dx [("number",V.int n),("ask",V.ref ap)]):=aE;generalize upd H p (HO.ins A.cJ dx [("number",V.int n),("ask",V.ref ap)])=H1 at xE Pc sb pQ ⊢;refine⟨C,pl,ap,n,P,fp,q',m,b,cu,rfl,hC,xE,Pc,hf,hn,λl ts H2 s2 nl hz=>⟨_,_,_,s2 _ _ pQ,T.Oe,T.Of,by simp,?_⟩⟩
  have Pd:=Pc.same s2;have xF:l≠p:=bY pQ nl |>.symm
  have nlH:H l=none:=by
   cases e:H l with
   | none=>rfl
   | some o =>
    have:=sb l o e xF;rw[nl] at this;cases this
  refine q l ts _ nlH (sb.step s2).put ⟨aE,⟨(aI Pb).trans Pd.o,(aI nm).trans Pd.ms,(aI nb).trans Pd.bh⟩,hz.keep (aI xF) λt ht=>aI λe=>?_⟩
  obtain⟨i,hi,et⟩:=jh.mp ht;have dm:i<(gm P.nc q'.first q'.many).length:=by rw[← hz.n];exact hi
  have:=hz.t i t _ (by rw[← et];exact bC hi) (bC dm)
  rw[e,s2 _ _ pQ] at this;cases this
theorem alM(T:Tx K mg A)(aG:bF mg base A.br A.aX):aY P w K mg base bw 4 A.LS A.LU ["plate", "ring", "beat", "cells"] (adS K [A.bK,A.bB]):=by
 have alN:=aln (P:=P) (w:=w) (base:=base) T aG;have Ah:=OH (P:=P) (w:=w) (base:=base) T aG;have alO:=akQ (P:=P) (w:=w) (base:=base) T aG;refine T.WW.ok uP (λvs H Q E h=>?_) (λaQ Ar outer s H vs Q E hr h=>?_)
 ·obtain⟨C,p,P,fp,r,b,ca,bx,cz,rfl,_⟩:=h
  rfl
 ·obtain⟨C,p,P,fp,r,b,ca,bx,cz,rfl,hC,hP,ok,r0,r1,hz,hq,hlen,q⟩:=h;have Yy:=ok.sw.len;refine⟨_,(aD (aR (i:=4) uP.nd rfl OL_ (eW au))
   (aD (cV cL rfl (c_ (aa 3)) (j_ rfl (dz (bE (i:=5) uP.nd rfl OL_) (dz (bE (i:=6) uP.nd rfl OL_) jH)))
   (aD (aR (i:=7) uP.nd rfl OL_ (aZ alN (hr.mono (by first | decide | lia)) rfl T.aiD T.WV.kp T.aiC .nil aP (ah (aa 0) (ah (aa 5) (ah (aa 6) (ah (aF dW (aa 2) (nB (aa 0) T.akE alO (hr.mono (by first | decide | lia)) T.ajq .nil aP (ah (aa 1) (ah (aa 5) au)))) au))))))
   (aD (aR (i:=1) uP.nd rfl OL_ (aa 5))
   (aD (aR (i:=2) uP.nd rfl OL_ (aF dW (aa 7) (nB (aa 0) T.OD Ah (hr.mono (by first | decide | lia)) T.NZ .nil aP (ah (aa 5) au))))
   (aK (dP (kX j8 lG lH kY (aa 4) (ah (dD (ah (aa 1) (ah (aa 6) (ah (aa 7) (ah (aa 2) au))))) au))))))))
   (aK (bG (aa 4))))),?_⟩
  walk_at "rdm";intro l hl;have sl:=aj.put (o:=.lst []) hl;refine rl ca (bx.map V.ref) (λi σ H'=>∃x y z ts,σ = [some (.ref p),some (.int (a_ P (r,b) (cz.take i)).1),some (.int (a_ P (r,b) (cz.take i)).2),some (.ref ca),some (.ref l),x,y,z]/\aj H H'/\(∀t∈ts,H t=none)/\i<=cz.length/\Zt H' l ts (dZ P (r,b) (cz.take i))) (λQ q=>q) (sl.seq hz.sq)
   ⟨none,none,none,[],rfl,sl,(λ_ h=>nomatch h),eL _,Zt.start⟩ (by rintro i σ H' _ ⟨x,y,z,ts,rfl,hs,_⟩;exact hs.seq hz.sq) ?_ ?_
  ·rintro i x σ H' N hN hx ⟨x0,y0,z0,fL,rfl,hs,n8,hi,h1⟩;obtain⟨t,w,rfl,hw,ht⟩:=hz.at hx;have qT:=cT hw;obtain⟨w0,w1,w2,w3⟩:=hq w (get_mem hw);have pR:=ok.c w.1.toNat ∅
   obtain⟨e0,e1⟩:=k_ P (n:=P.rc.length) (cz.take i) (r,b) r0 r1 λq ki=>⟨(hq q (oB ki)).1,(hq q (oB ki)).2.1⟩;have es:a_ P (r,b) (cz.take (i+1))=dM P (a_ P (r,b) (cz.take i)) w:=by rw[take_succ_get hw,wD]
   have ws:dZ P (r,b) (cz.take (i+1))=dZ P (r,b) (cz.take i)++[qx P (a_ P (r,b) (cz.take i)) w]:=by rw[take_succ_get hw,wF]
   rw[es,ws] at hN;have wl:(dZ P (r,b) (cz.take i)).length=i:=by rw[nC,dH];lia
   generalize a_ P (r,b) (cz.take i)=st at e0 e1 hN ⊢;generalize dZ P (r,b) (cz.take i)=rows at h1 wl hN ⊢;refine nv (aL.of (hs _ _ ht)) rfl ?_;have uW:=hP.same hs;obtain⟨dx,a1,a2,a3,a4,ts,fs,qV,h⟩:=id uW;wp_walk using h.o,h.f1,h.f2,h.f3,h.f4,h.f5,h.f6,h.m1,h.m2,h.m3,h.m4,h.m5,h.m6,h.m7,h.m8,h.m9,h.gK,h.iu,h.cp.cl,h.cp.n1,h.cp.n2,h.cp.n3,h.cp.n4,h.cp.n5,h.cp.n6;refine⟨hC,C,p,P,fp,st.1,w.1,rfl,uW,∅,?_⟩
   wp_walk using h.o,h.f1,h.f2,h.f3,h.f4,h.f5,h.f6,h.m1,h.m2,h.m3,h.m4,h.m5,h.m6,h.m7,h.m8,h.m9,h.gK,h.iu,h.cp.cl,h.cp.n1,h.cp.n2,h.cp.n3,h.cp.n4,h.cp.n5,h.cp.n6;refine⟨C,p,P,fp,w.1,w.2,_,rfl,hC,uW,ok,w0,w1,w2,w3,?_⟩;wp_walk using h.o,h.f1,h.f2,h.f3,h.f4,h.f5,h.f6,h.m1,h.m2,h.m3,h.m4,h.m5,h.m6,h.m7,h.m8,h.m9,h.gK,h.iu,h.cp.cl,h.cp.n1,h.cp.n2,h.cp.n3,h.cp.n4,h.cp.n5,h.cp.n6;refine⟨hC,C,p,P,fp,w.1,rfl,uW,w0,w1,pR.1,pR.2,?_⟩;walk_at "rdm";refine⟨⟨_,az.of h1.l⟩,λt1 n1=>?_⟩;have hn:=h1.n;have e2:=aj.put n1 (o:=.tup [V.int w.1,V.int w.2,V.int (rP P st w),V.int (dM P st w).2]) _ _ h1.l;refine⟨_,e2,by simp;lia,hN _ _ ⟨_,_,_,fL++[t1],rfl,aj.put2 (hs.trans (aj.put n1)) hl,?_,qT,h1.snoc n1 (qx P st w)⟩⟩
   intro t' lB;rcases fE.mp lB with lB | lB
   ·exact n8 t' lB
   ·rw[fQ.mp lB];exact hs.free n1
  ·rintro σ H' ⟨x0,y0,z0,fL,rfl,hs,n8,hi,h1⟩;walk_at "rdm";rw[lenZ hz.n,c9] at h1;exact q _ _ _ hs hl n8 h1
theorem alP(T:Tx K mg A)(aG:bF mg base A.br A.aX):aY P w K mg base bw 4 A.MW A.MX ["self", "zones", "lap", "skew", "swing", "spares", "bad"] (afb K A.bB A.aX (qC iA) (qD "nearest_rings")):=by
 have OY:=Yp (P:=P) (w:=w) (base:=base) T aG;have OZ:=Yr (P:=P) (w:=w) (base:=base) T aG;have Pe:=YJ (P:=P) (w:=w) (base:=base) T aG;have alQ:=akR (P:=P) (w:=w) (base:=base) T aG;have alR:=ak_ (P:=P) (w:=w) (base:=base) T aG;have alS:=aly (P:=P) (w:=w) (base:=base) T aG;refine T.ajO.ok zR (λvs H Q E h=>?_) (λaQ Ar outer s H vs Q E hr h=>?_)
 ·obtain⟨p,dx,za,sa,ba,bA,kr,z,bz,ao,cA,s,sw,rfl,_⟩:=h
  rfl
 ·obtain⟨p,dx,za,sa,ba,bA,kr,z,bz,ao,cA,s,sw,rfl,cp,nm,hp,hz,ok,h1,h2,h3,h4,hd,hS,so,Av,YN,bnd,bin,c64,f_,jC,tab,en,q⟩:=h;refine⟨_,(aD (dP (adL rfl T.Yh T.akg Pe (hr.mono (by first | decide | lia)) T.Xl .nil aP (ah (aa 0) (ah (aa 1) (ah (aa 2) (ah (aa 3) (ah (aa 4) au)))))))
   (aD (dP (aZ alQ (hr.mono (by first | decide | lia)) rfl T.ajD T.Xp.kp T.ajC .nil aP (ah (aa 5) (ah (cD (aa 0) rfl) au))))
   (aD (aR (i:=7) zR.nd rfl OL_ (aZ alR (hr.mono (by first | decide | lia)) rfl T.ajF T.Xq.kp T.ajE .nil aP (ah (aa 0) (ah (aa 6) au))))
   (aD (iQ (aa 0) (aZ OY (hr.mono (by first | decide | lia)) rfl T.Xi T.NW.kp T.Xh .nil aP (ah (cD (aa 0) rfl) (ah (aa 5) au))) rfl)
   (aD (iQ (aa 0) (aZ alS (hr.mono (by first | decide | lia)) rfl T.ajN T.Xv.kp T.ajM .nil aP (ah (cD (aa 0) rfl) (ah (aa 5) (ah (cD (aa 0) rfl) (ah (aa 7) au))))) rfl)
   (aD (cV cL rfl (c_ (cD (aa 0) rfl)) (j_ rfl (dz (bE (i:=8) zR.nd rfl OL_) (dz (bE (i:=9) zR.nd rfl OL_) (dz (bE (i:=10) zR.nd rfl OL_) jH))))
   (aK (tw (aa 10) (yq (cD (aa 0) rfl) (aa 8) set_list))))
   (aK (iQ (aa 0) (aZ OZ (hr.mono (by first | decide | lia)) rfl T.Xk T.NY.kp T.Xj .nil aP (ah (cD (aa 0) rfl) au)) rfl)))))))),?_⟩
  walk_at "rdm";refine⟨_,p,dx,za,sa,bA,z,ao,cA,sw,rfl,cp,hp,hz,ok,h1,h2,h3,h4,hd,hS,so,λH1 sH a1 a2 a3 a4 ts sb nf pQ hA=>?_⟩;have cl:=rM z λp hp=>(ok.r p hp).1;have alx:=ok.Cm;have c2:=ok.s2;have cm:∀c∈counts z,0<=c/\c<=60:=λc hc=>by
   obtain⟨y,hy,rfl⟩:=rN hc;have:=ok.r y hy;lia
  have Y3:∀c∈counts z,0<=c/\c<=1000:=λc hc=>by have:=cm c hc;lia
  have eB:0<(counts z).length:=by lia
  have s60:s<60:=by
   have:=jC _ (cI eB);have:=cm _ (cI eB);lia
  have Pf:∀ {a:Addr} {o:HO},H a=some o->(∀C d f,o≠.ins C d f)->a≠p:=λe n z=>n _ _ _ (by rw[z,hp] at e;exact(eN e).symm)
  have ba1:Zn H1 ba kr bz:=⟨sb _ _ Av.l (Pf Av.l (by intro _ _ _ z;cases z)),Av.n,λi t x e1 e2=>sb _ _ (Av.t i t x e1 e2) (Pf (Av.t i t x e1 e2) (by intro _ _ _ z;cases z))⟩
  have pP:A.aX≠p:=(tab.ne hp (by intro _ z;cases z)).symm
  have alT:cY A.aX (qC iA) (qD "nearest_rings") H1:=by
   obtain⟨ps,e',k,c⟩:=tab;refine⟨ps,sb _ _ e' pP,k,?_⟩;rcases c with c | ⟨c',c1,c2⟩
   ·exact .inl c
   ·exact .inr ⟨c',c1,sb _ _ c2 (Pf c2 (by intro _ _ _ z;cases z))⟩
  wp_walk using hA.o,hA.f1,hA.f2,hA.f3,hA.f4,hA.f5,hA.f6,hA.m1,hA.m2,hA.m3,hA.m4,hA.m5,hA.m6,hA.m7,hA.m8,hA.m9,hA.gK,hA.iu,hA.cp.cl,hA.cp.n1,hA.cp.n2,hA.cp.n3,hA.cp.n4,hA.cp.n5,hA.cp.n6;refine⟨a1,counts z,s,rfl,az.of hA.rc,∅,f_,jC,?_⟩
  refine⟨_,p,ba,_,_,kr,bz,rfl,by simp,⟨sH,a1,a2,a3,a4,ts,_,rfl,hA⟩,ba1,∅,bnd,bin,λd H2 s2 nd e2=>?_⟩
  have c7:=hA.move (H':=H2) (by rw[hA.o];exact s2 _ _ hA.o) (by rw[hA.rc];exact s2 _ _ hA.rc) (by rw[hA.sw];exact s2 _ _ hA.sw) (by rw[hA.nc.l];exact s2 _ _ hA.nc.l) (by rw[hA.cn];exact s2 _ _ hA.cn) (λt ht=>by obtain⟨o,e⟩:=hA.nc.has ht;rw[e];exact s2 _ _ e)
  wp_walk using c7.o,c7.f1,c7.f2,c7.f3,c7.f4,c7.f5,c7.f6,c7.m1,c7.m2,c7.m3,c7.m4,c7.m5,c7.m6,c7.m7,c7.m8,c7.m9,c7.gK,c7.iu,c7.cp.cl,c7.cp.n1,c7.cp.n2,c7.cp.n3,c7.cp.n4,c7.cp.n5,c7.cp.n6;refine⟨a1,counts z,s,rfl,az.of c7.rc,∅,Y3,f_,?_,λl3 t3 H3 s3 n3 Y4 z3=>?_⟩
  ·have:=jC _ (cI eB);have:=cm _ (cI eB);lia
  have o3:=s3 _ _ c7.o;wp_walk using o3,wC,cp.cl,cp.n1,cp.n5,nm;have u5:l3≠p:=(bY c7.o n3).symm;have Aw:∀t∈t3,t≠p:=λt ht=>(bY c7.o (Y4 t ht)).symm;have pd:d≠p:=(bY hA.o nd).symm;have Er:a1≠p:=jm c7.rc c7.o (by intro z;cases z)
  have Pg:a2≠p:=jm c7.sw c7.o (by intro z;cases z)
  have sD:SameBut p H H3:=(sb.step s2).step s3;have Y5:=alT.same (s2.trans s3);have zl:(gj (counts z) s).length<=1000000:=by
   have:=Cn (s:=s) f_ (counts z) 0 Y3;have e:(counts z).length<=120:=by lia
   unfold gj;lia
  have wR:CQ (bz.map kT):=aeW (λx hx=>by
   obtain⟨b1,b2,b3,b4⟩:=bin x hx;have hi:x.1.toNat<(counts z).length:=by lia
   rw[show (counts z).getD x.1.toNat 0=(counts z)[x.1.toNat] by simp[hi]] at b4
   have:=cm _ (cI hi);lia) bnd
  refine⟨a1,l3,d,s,counts z,t3,_,bz,rfl,az.of ((aI Er).trans (s3 _ _ c7.rc)),∅,c64,f_,∅,λc hc=>by have:=jC c hc;have:=cm c hc;lia,z3.keep (aI u5) (λt ht=>aI (Aw t ht)),zl,(aI pd).trans (s3 _ _ e2),wR,YN,Y5.put o3,en,λmv us os ms H5 k5 Es Y6 hL hM=>?_⟩
  have Ax:mv≠p:=(bY aE Es).symm;have alU:H3 mv=none:=by rw[aI Ax] at Es;exact Es
  have Ay:=Y5.put (o:=HO.ins A.bB sH [(Str.ofString "ring_cells",V.ref a1),(Str.ofString "lap",V.int ao),(Str.ofString "skew",V.int cA),(Str.ofString "swing",V.ref a2),(Str.ofString "number_cells",V.ref l3),(Str.ofString "cell_numbers",V.ref a4)]) o3;have p5:=k5.get Ay aE;wp_walk using p5,cp.cl,nm;refine wB ?_;wp_walk using cp.cl,nm;have zU:=z3.keep (H':=upd H3 p (HO.ins A.bB sH [(Str.ofString "ring_cells",V.ref a1),(Str.ofString "lap",V.int ao),(Str.ofString "skew",V.int cA),(Str.ofString "swing",V.ref a2),(Str.ofString "number_cells",V.ref l3),(Str.ofString "cell_numbers",V.ref a4)])) (aI u5) (λt ht=>aI (Aw t ht));have z5:Zn H5 l3 t3 _:=⟨k5.get Ay zU.l,zU.n,λi t x e1 e2=>k5.get Ay (zU.t i t x e1 e2)⟩;have Ph:mv≠l3:=(bY zU.l Es).symm;generalize e6:upd H5 p (HO.ins A.bB sH [(Str.ofString "ring_cells",V.ref a1),(Str.ofString "lap",V.int ao),(Str.ofString "skew",V.int cA),(Str.ofString "swing",V.ref a2),(Str.ofString "number_cells",V.ref l3),(Str.ofString "cell_numbers",V.ref a4),(Str.ofString "moves",V.ref mv)])=H6;have p6:H6 p=some (HO.ins A.bB sH [(Str.ofString "ring_cells",V.ref a1),(Str.ofString "lap",V.int ao),(Str.ofString "skew",V.int cA),(Str.ofString "swing",V.ref a2),(Str.ofString "number_cells",V.ref l3),(Str.ofString "cell_numbers",V.ref a4),(Str.ofString "moves",V.ref mv)]):=by rw[← e6];exact aE
  have o6:∀b,b≠p->H6 b=H5 b:=λb hb=>by rw[← e6];exact aI hb
  have Y7:cY A.aX (qC iA) (qD "nearest_rings") H6:=by rw[← e6];exact k5.t.put p5
  have M6:jv H6 mv t3 us os ms:=⟨(o6 mv Ax).trans hM.l,hM.n,hM.no,λi u m e1 e2=>by
   obtain⟨tc,to,x,a,b,c,d⟩:=hM.t i u m e1 e2;exact⟨tc,to,x,(o6 _ (jm a p5 (by intro z;cases z))).trans a,b,(o6 _ (jm c p5 (by intro z;cases z))).trans c,(o6 _ (jm d p5 (by intro z;cases z))).trans d⟩⟩
  have z6:=z5.keep (o6 l3 u5) (λt ht=>o6 t (Aw t ht));refine qu.by mv (us.map V.ref) (λi σ H'=>∃x y w oh,σ = [some (V.ref p),some (V.ref za),some (V.int ao),some (V.int cA),some (V.ref sa),some (V.int s),some (V.ref ba),some (V.ref d),x,y,w]/\(∀b,b≠l3->H' b=H6 b)/\Zn H' l3 oh (pG (gj (counts z) s) (ms.take i))/\∀t∈oh,t∈t3\/t∈os)
   (az.of M6.l) ⟨none,none,none,t3,rfl,λ_ _=>rfl,z6,λt ht=>.inl ht⟩ (by rintro i σ H' _ ⟨x,y,w,oh,rfl,hb,_⟩;exact az.of ((hb mv Ph).trans M6.l)) ?_ ?_
  ·rintro i x σ H' N hN hx ⟨x0,y0,w0,oh,rfl,hb,kK,lz⟩;obtain⟨u,mh,rfl⟩:=dY hx;have hi:i<ms.length:=by rw[← M6.n];exact cT mh
   obtain⟨m,hm⟩:∃m,ms[i]? = some m:=⟨_,bC hi⟩;obtain⟨tc,to,ho,ea,eb,ec,ed⟩:=M6.t i u m mh hm;have Et:∀ {a:Addr} {xs:List V},H6 a=some (.tup xs)->H' a=some (.tup xs):=λ{a xs} e=>(hb a (jm e z6.l (by intro z;cases z))).trans e
   refine⟨u,[.int (m.1:Int),.ref tc,.ref to],rfl,aL.of (Et ea),rfl,_,_,rfl,_,_,rfl,_,_,rfl,rfl,?_⟩;wp_walk using(hb p u5.symm).trans p6,cp.cl,cp.n5;have hml:m.1<oh.length:=by rw[kK.n,CU,← z6.n];exact cT eb
   refine⟨_,kK.l,m.1,ae_ (by rw[aM];exact hml),?_⟩
   rw[← List.map_set];refine hN _ _ ⟨_,_,_,oh.set m.1 to,rfl,λb h=>by rw[aI h];exact hb b h,?_,?_⟩
   ·rw[take_succ_get hm,afa];exact kK.setAt (Et ed)
   ·intro t ht;rcases Fj ht with h | h
    ·exact lz t h
    ·rw[h];exact .inr (get_mem ho)
  ·rintro σ H' ⟨x,y,w,oh,rfl,hb,kK,lz⟩;rw[aM,M6.n,c9] at kK;have Eu:=(hb p u5.symm).trans p6;wp_walk using Eu,cp.cl,cp.n5,cp.n6;have wO:=Y7.keep hb z6.l;refine⟨l3,oh,_,rfl,kK,by rw[CU];exact zl,λcn H7 s7 Az ecn=>?_⟩
   have Y8:cn≠p:=(bY Eu Az).symm;wp_walk using s7 _ _ Eu,cp.cl,cp.n6;have fresh:∀b,b≠p->H3 b=none->H b=none:=λb hb e=>by
    cases q':H b with
    | none=>rfl
    | some o=>rw[sD _ _ q' hb] at e;cases e
   have xG:H l3=none:=by
    cases q':H l3 with
    | none=>rfl
    | some o=>rw[(sb.step s2) _ _ q' u5] at n3;cases n3
   have Y9:∀b o,H b=some o->b≠p->b≠A.aX->H' b=some o:=λb o e np nP=>by
    rw[hb b (bY e xG),o6 b np];exact k5.b _ _ ((aI np).trans (sD _ _ e np)) nP
   have a13:a1≠l3:=bY c7.rc n3;have a23:a2≠l3:=bY c7.sw n3;have r7:=s7 _ _ ((hb a1 a13).trans ((o6 a1 Er).trans (k5.get Ay ((aI Er).trans (s3 _ _ c7.rc)))));have w7:=s7 _ _ ((hb a2 a23).trans ((o6 a2 Pg).trans (k5.get Ay ((aI Pg).trans (s3 _ _ c7.sw)))));have tp:∀t∈oh,t≠p:=λt ht=>by
    obtain⟨o,e⟩:=kK.has ht;rcases lz t ht with h | h
    ·exact Aw t h
    ·exact(bY aE (Y6 t h)).symm
   have Et:∀ {a:Addr} {xs:List V},H6 a=some (.tup xs)->H7 a=some (.tup xs):=λ{a xs} e=>s7 _ _ ((hb a (jm e z6.l (by intro z;cases z))).trans e)
   have Pj:∀ {a:Addr} {xs:List V} {o:HO},H6 a=some (.tup xs)->upd H7 p o a=some (.tup xs):=λ{a xs o} e=>(aI (jm e p6 (by intro z;cases z))).trans (Et e)
   refine q _ (a1::a2::l3::cn::oh) mv t3 us os ms (λb o e np nP=>(aI np).trans (s7 _ _ (Y9 b o e np nP))) ((wO.same s7).put (s7 _ _ Eu)) ?_ hL ⟨sH,a1,a2,l3,cn,oh,[(Str.ofString "ring_cells",V.ref a1),(Str.ofString "lap",V.int ao),(Str.ofString "skew",V.int cA),(Str.ofString "swing",V.ref a2),(Str.ofString "number_cells",V.ref l3),(Str.ofString "cell_numbers",V.ref cn),(Str.ofString "moves",V.ref mv)],rfl,?_,nm,?_,?_⟩ ⟨?_,M6.n,M6.no,λi u m e1 e2=>?_⟩
   ·intro b iY;simp only[List.mem_cons] at iY;rcases iY with rfl | rfl | rfl | rfl | rfl | iY
    ·exact fresh _ Ax alU
    ·exact nf _ (by simp)
    ·exact nf _ (by simp)
    ·exact xG
    ·cases q':H b with
     | none=>rfl
     | some o =>
      by_cases nP:b=A.aX
      ·obtain⟨ps,e',_⟩:=wO;rw[nP,e'] at Az;cases Az
      ·rw[Y9 _ _ q' Y8 nP] at Az;cases Az
    ·rcases lz b iY with h | h
     ·have:=Y4 b h;cases q':H b with
      | none=>rfl
      | some o=>rw[(sb.step s2) _ _ q' (Aw b h)] at this;cases this
     ·have np:=tp b iY;have:=Y6 b h;rw[aI np] at this;exact fresh b np this
   ·refine⟨cp,aE,?_,?_,?_,?_,?_,?_,?_,?_,?_,?_,?_,?_,?_,?_,?_,?_,?_,?_,?_,?_,?_⟩
    rotate_left 17
    ·exact(aI Er).trans r7
    ·exact(aI Pg).trans w7
    ·exact(kK.same s7).keep (aI u5) (λt ht=>aI (tp t ht))
    ·exact(aI Y8).trans ecn
    all_goals simp[List.lookup_cons,Ck]
   ·simp[List.lookup_cons,Ck]
   ·exact(aI Ax).trans (s7 _ _ ((hb mv Ph).trans M6.l))
   ·exact(aI Ax).trans (s7 _ _ ((hb mv Ph).trans M6.l))
   ·obtain⟨tc,to,x,a,b,c,d⟩:=M6.t i u m e1 e2;exact⟨tc,to,x,Pj a,b,Pj c,Pj d⟩
theorem alV(T:Tx K mg A)(aG:bF mg base A.br A.aX):aY P w K mg base bw 4 A.Nk A.Nl ["_law_script", "_law_plate_here", "_law_spec_here", "_law_spot_here", "_law_most"] (afL K [A.bK,A.bB]):=by
 have Ew:=akO (P:=P) (w:=w) (base:=base) T aG;have OM:=Yt (P:=P) (w:=w) (base:=base) T aG;have pS:=Yv (P:=P) (w:=w) (base:=base) T aG;have Ai:=OI (P:=P) (w:=w) (base:=base) T aG;have uZ:=Ek (P:=P) (w:=w) (base:=base) T aG;have alW:=alC (P:=P) (w:=w) (base:=base) T aG;have alX:=alD (P:=P) (w:=w) (base:=base) T aG;refine T.XD.ok gv (λvs H Q E h=>?_) (λaQ Ar outer s H vs Q E hr h=>?_)
 ·obtain⟨C,sc,p,t,sp,z,ao,sk,sw,za,bA,ca,sa,nc,fp,r,b,most,ns,rfl,_⟩:=h
  rfl
 ·obtain⟨C,sc,p,t,sp,z,ao,sk,sw,za,bA,ca,sa,nc,fp,r,b,most,ns,rfl,jC,oq,hC,hP,nk,hS,ok,dF,r0,r1,b0,b1,m1,m7,q⟩:=h;refine⟨_,(aD (aR (i:=5) gv.nd rfl OL_ (aZ pS (hr.mono (by first | decide | lia)) rfl T.qP T.pL.kp T.qO .nil aP (ah (aa 0) (ah ak au))))
   (aD (aR (i:=6) gv.nd rfl OL_ (iX lN (aF gu (aF kG (aa 5) ak) ak) ak (bL _)))
   (aD (aR (i:=7) gv.nd rfl OL_ (aH bV (eW (ah (aF gu (aa 5) (aa 4)) (ah (aa 4) au))) (kU IV rfl T.xy boot_int (ah (iX lN (aF gu (aF kG (aa 5) (aa 4)) ak) ak (bL _)) au)) (λ_ _=>rfl)))
   (aD (qH (cU (gC (aa 6)) (aK (aR (i:=7) gv.nd rfl OL_ (aF d8 ak (aF gu (aF kG (aa 5) ak) ak)))) bZ))
   (aD (aR (i:=8) gv.nd rfl OL_ (aF dW (aH bJ (aa 2) ak (λ_ _=>rfl)) (aH oW (aH bJ (aa 2) ak (λ_ _=>rfl)) (tL tN ak) (λ_ _=>rfl))))
   (aD (aR (i:=9) gv.nd rfl OL_ (eW au))
   (aD (aR (i:=10) gv.nd rfl OL_ (tL tN ak))
   (aD (aR (i:=11) gv.nd rfl OL_ (aa 3))
   (aD (cV cL rfl (lJ rfl T.gA (ah (aa 7) au)) (bE (i:=12) gv.nd rfl OL_)
   (aD (aR (i:=13) gv.nd rfl (Or.inr rfl) (aZ Ai (hr.mono (by first | decide | lia)) rfl T.N6 T.D_.kp T.N1 .nil aP (ah (aF dW (aZ pS (hr.mono (by first | decide | lia)) rfl T.qP T.pL.kp T.qO .nil aP (ah (aa 0) (ah (aF d8 ak (aa 12)) au))) (aa 12)) (ah ak au))))
   (aD (aR (i:=14) gv.nd rfl (Or.inr rfl) (aF cS (aH bV (aa 13) ak (λ_ _=>rfl)) (aH bV (eW (ah (yY (aa 1) T.Eh Ew (hr.mono (by first | decide | lia)) T.D9 .nil aP) (ah (bX (GF rfl) rfl T.uU boot_min (ah (yY (aa 1) T.Eh Ew (hr.mono (by first | decide | lia)) T.D9 .nil aP) (ah ak au))) au))) (aF gu (aF kG (aa 5) ak) ak) (λ_ _=>rfl))))
   (aD (qH (cU (gC (aa 6)) (aK (aR (i:=14) gv.nd rfl (Or.inr rfl) (aF vQ (aF cS (aH bV (aa 13) ak (λ_ _=>rfl)) ak) (aF oR (yY (aa 1) T.Eh Ew (hr.mono (by first | decide | lia)) T.D9 .nil aP) ak)))) bZ))
   (aD (aR (i:=15) gv.nd rfl OL_ (aF dW ak (aF cS (aH bV (aa 13) ak (λ_ _=>rfl)) (bX (GF rfl) rfl T.uU boot_min (ah (aF nZ ak (kU IV rfl T.xy boot_int (ah (aa 6) au))) (ah (aF oR (yY (aa 1) T.Eh Ew (hr.mono (by first | decide | lia)) T.D9 .nil aP) (aa 14)) au))))))
   (aD (aR (i:=10) gv.nd rfl OL_ (aF dW (aF d8 (aa 10) ak) (aF cS (aH bV (aa 13) ak (λ_ _=>rfl)) ak)))
   (aD (qH (C7 (i:=16) gv.nd rfl OL_ (N:=["_law_j", "_law_plate_here", "_law_first"]) (nt:=1) (fv:=[1,14]) ‹cN.of› rfl (lJ rfl T.gA (ah (aa 15) au)) (λC s H fp=>(bE (i:=0) (show List.Nodup (["_law_j", "_law_plate_here", "_law_first"]:List Str) by decide +kernel) rfl OL_)) (λC s H fp=>jL) (λC s H fp=>(nB (aa 1) T.Yk OM (hr.mono (by first | decide | lia)) T.Xn .nil aP (ah (aF d8 (aa 2) (aa 0)) au)))))
   (aD (qH (aR (i:=11) gv.nd rfl OL_ (aZ uZ (hr.mono (by first | decide | lia)) rfl T.Eb T.Ad.kp T.Ea .nil aP (ah (aa 2) (ah (aH bJ (aa 11) ak (λ_ _=>rfl)) (ah (aH bJ (aa 11) ak (λ_ _=>rfl)) (ah (aa 16) au)))))))
   (aD (aR (i:=17) gv.nd rfl OL_ (aH oW (eW (ah rq (ah (aF oR (aH bJ (aa 11) ak (λ_ _=>rfl)) (aF cS (aH bV (aa 13) ak (λ_ _=>rfl)) ak)) au))) (aF cS (aH bV (aa 13) ak (λ_ _=>rfl)) ak) (λ_ _=>rfl)))
   (aD (qH (cU (dB kQ (aF cS (aH bV (aa 13) ak (λ_ _=>rfl)) ak) ak (bL _)) (aK (aR (i:=17) gv.nd rfl OL_ (aF dW (aH bJ (aa 3) ak (λ_ _=>rfl)) (aF cS (aH bV (aa 13) ak (λ_ _=>rfl)) (aF dW ak (aF vQ (aa 8) (aF dW ak (aF cS (aH bV (aa 13) ak (λ_ _=>rfl)) (aH bV (eW (ah ak (ah ak au))) (kU IV rfl T.xy boot_int (ah (aa 6) au)) (λ_ _=>rfl)))))))))) bZ))
   (aD (aR (i:=18) gv.nd rfl OL_ (kU G3 rfl T.su vB (ah (gP (N:=["_law_j", "_law_xs"]) (nt:=1) (fv:=[13]) ‹cN.of› rfl (lJ rfl T.gA (ah (aa 10) au)) (λC s H fp=>(bE (i:=0) (show List.Nodup (["_law_j", "_law_xs"]:List Str) by decide +kernel) rfl OL_)) (λC s H fp=>(oZ (PW.pt (yl (dB lN (aF cS (aF tM (aH (JD (K:=K) rfl) (aa 1) ak (λ_ _=>rfl)) (aF d8 ak (aa 0))) ak) ak (bL _)) (yj (dB lN (aF cS (aH (JD (K:=K) rfl) (aa 1) ak (λ_ _=>rfl)) ak) ak (bL _))))))) (λC s H fp=>(aa 0))) au)))
   (aK (dP (kX j8 lG lH kY (aa 9) (ah (dD (ah (aa 10) (ah (aa 14) (ah (aa 15) (ah (Ga (aa 6) (qg (iX lN (aF cS (aH bV (aa 13) ak (λ_ _=>rfl)) ak) ak (bL _)))) (ah (aa 18) (ah (aa 17) (ah (aa 16) au)))))))) au)))))))))))))))
   (aD (qH (jW (eE JB (aF gu (aF kG (aa 5) ak) ak) ak (bL _)) (aK (aR (i:=9) gv.nd rfl OL_ (aZ alW (hr.mono (by first | decide | lia)) rfl T.ajZ T.XA.kp T.ajY .nil aP (ah (aa 1) (ah (aa 2) (ah (aa 3) (ah (aF kG (aa 5) ak) au))))))) bZ))
   (aD (qH (jW (eE JB (aF gu (aF kG (aa 5) ak) ak) ak (bL _)) (aK (aR (i:=9) gv.nd rfl OL_ (aZ alX (hr.mono (by first | decide | lia)) rfl T.aj1 T.XC.kp T.aj0 .nil aP (ah (aa 2) (ah (aa 3) (ah (aa 9) au)))))) bZ))
   (aK (bG (pv 9)))))))))))))),?_⟩
  wp_walk using kj;have En:=aL.of (K:=K) hS.o;have kp:=aL.of (K:=K) dF;refine⟨ns,jC,oq,∅,λo1 sI=>⟨∅,∅,_,az.of aE,.int (if fP ns 5 / most % 5=1 then most else fP ns 5 % most),by split <;> rfl,?_⟩⟩
  have sA:=aj.put (o:=.lst [V.int (fP ns 5 % most),V.int most]) sI;generalize upd H o1 (.lst [V.int (fP ns 5 % most),V.int most])=H1 at sA ⊢;have e0:=fD (fP ns 5) (show most≠0 by lia)
  have e1:=fB (fP ns 5) (show 0<most by lia)
  have f0:=fD (fP ns 5 / 400) (show (2:Int)≠0 by decide)
  have f1:=fB (fP ns 5 / 400) (show (0:Int)<2 by decide)
  generalize mW:decide (fP ns 5 / 50 % 8=1)=ch;refine⟨λσ H'=>∃mn:Int,σ = [some (.ref sc),some (.ref p),some (.ref t),some (.ref sp),some (.int most),some (.int (fP ns 5)),some (.bl ch),some (.int mn),none,none,none,none,none,none,none,none,none,none,none]/\H' = H1/\0<=mn/\mn<=7,cF (λ_=>⟨_,rfl,rfl,∅,∅⟩) λ_=>⟨_,rfl,rfl,by split <;> lia,by split <;> lia⟩,?_⟩
  rintro σ H' ⟨mn,rfl,rfl,mn0,mn7⟩;generalize fP ns 5=cell at *
  have swl:=ok.so.len;have sw2:=ok.so.two;have fr:=U9 ok.so (sw.length - 1);wp_walk using kj;refine⟨_,sA.f9 En,_,rfl,_,sA.f9 En,_,rfl,sa,rfl,_,az.of (sA _ _ hS.s),_,HR ∅,?_⟩
  wp_walk using kj;have fl1:=ok.l1;have fl2:=ok.l2;intro l nl;have iz:=hS.same sA;have xE:=hP.same sA;have kp1:=sA.f9 kp;have AA:=sA.seq jC;have nn2:=nk.n2;have nn1:=nk.n1;generalize alY:ao+sw.getD (sw.length - 1) 0=jy;have alZ:1<=jy:=by lia
  have al0:jy<=2000000000:=by lia
  have pk:=ok.pl [];have l2':(bN z ao sk sw []).ao<=1000000000:=ok.l2;clear alY;refine Cp mn (λi σ H2=>∃(y1 y2 y3 y4 y5 y6 y7:Option V) (nu:Int) (u:Addr) (st:Int×Int) (ts:List Addr) (ks:List Kn),σ = [some (.ref sc),some (.ref p),some (.ref t),some (.ref sp),some (.int most),some (.int cell),some (.bl ch),some (.int mn),some (.int jy),some (.ref l),some (.int nu),some (.ref u),y1,y2,y3,y4,y5,y6,y7]/\aj H' H2/\H2 u=some (.tup [.int st.1,.int st.2])/\0<=st.1/\st.1<(counts z).length/\0<=st.2/\st.2<=1000000000000+6000000000*(i:Int)/\nR H' H2 l ts ks/\ks.length=i/\-1<=nu/\nu<3*(i:Int)/\(∀k∈ks,ux nc k/\k.n<=nu)/\ks.Pairwise λa b=>a.n<b.n) (λQ q=>q) ∅ ∅ ⟨none,none,none,none,none,none,none,-1,sp,(r,b),[],[],rfl,aj.put nl,aj.put nl _ _ (sA _ _ dF),r0,r1,b0,by dsimp only;lia,⟨aE,rfl,nl,λi t k e=>by simp at e⟩,rfl,∅,∅,(λ_ h=>nomatch h),.nil⟩ ?_ ?_
  ·rintro i σ H2 N hN hi ⟨y1,y2,y3,y4,y5,y6,y7,nu,u,st,ts,ks,rfl,s2,hu,u0,u1,t0,t1,hg,gn,g0,g1,gk,gp⟩;have i7:(i:Int)<7:=by lia
   wp_walk using kj;refine⟨ns,s2.seq AA,oq,∅,_,_,rfl,⋯,⋯,λxa xs H3 s3 nx hx X=>?_⟩
   have X:qE xs 9:=X;have xl:=X.n;have g:∀k:Int,0<=k->k<9->fq (xs.map V.int) k=some (.int (xs.getD k.toNat 0)):=λk h0 h1=>gi h0 ∅
   have Pk:=s2.trans s3;obtain⟨lC,a1,a2,a3,a4,fL,fs,qV,hA⟩:=xE.same Pk;have hp:=hA.o;wp_walk using kj;have Pn:=xE.same Pk;refine⟨_,az.of hx,_,g 0 ⋯ ⋯,C,lC,fs,hp,hC,hA.m2,C,p,bN z ao sk sw nc,fp,rfl,Pn,C,lC,fs,hp,hC,hA.m2,C,p,bN z ao sk sw nc,fp,rfl,Pn,_,rfl,λo2 Po=>?_⟩
   have enc:(bN z ao sk sw nc).nc=nc:=rfl;simp only[enc];have sJ:=aj.put (o:=.lst [V.int (nc.length:Int),V.int (if 5<(nc.length:Int) then 5 else(nc.length:Int))]) Po
   have gZ:upd H3 o2 (.lst [V.int (nc.length:Int),V.int (if 5<(nc.length:Int) then 5 else(nc.length:Int))]) o2=some (.lst [V.int (nc.length:Int),V.int (if 5<(nc.length:Int) then 5 else(nc.length:Int))]):=aE
   generalize upd H3 o2 (.lst [V.int (nc.length:Int),V.int (if 5<(nc.length:Int) then 5 else(nc.length:Int))])=H4 at sJ gZ ⊢
   obtain⟨D,hD,D0,D1⟩:∃D:Int,fq [V.int (nc.length:Int),V.int (if 5<(nc.length:Int) then 5 else(nc.length:Int))] (cell / 25 % 2)=some (.int D)/\1<=D/\D<=nc.length:=by
    have h0:=fD (cell / 25) (show (2:Int)≠0 by decide)
    have h1:=fB (cell / 25) (show (0:Int)<2 by decide)
    have:cell / 25 % 2=0\/cell / 25 % 2=1:=by lia
    rcases this with e | e <;> rw[e]
    ·exact⟨_,rfl,∅,∅⟩
    ·exact⟨_,rfl,by split <;> lia,by split <;> lia⟩
   have Ej:=Pk.trans sJ;have Ex:=sJ _ _ hx;have Pp:=Pn.same sJ;have w5:=sJ _ _ hp;have q0:=X.md (Int.toNat 0) (k:=D) ∅
   have q2:=X.md (Int.toNat 0) (k:=2) ⋯
   refine⟨_,az.of gZ,_,hD,_,rfl,_,rfl,∅,λσ H5=>∃f:Int,σ = [some (.ref sc),some (.ref p),some (.ref t),some (.ref sp),some (.int most),some (.int cell),some (.bl ch),some (.int mn),some (.int jy),some (.ref l),some (.int nu),some (.ref u),some (.int (i:Int)),some (.ref xa),some (.int f),y4,y5,y6,y7]/\H5=H4/\0<=f/\f<nc.length,cF (λ_=>⟨_,az.of Ex,_,g 0 ⋯ ⋯,_,rfl,?_⟩) λ_=>⟨_,rfl,rfl,q0.1,∅⟩,?_⟩
   ·refine⟨C,lC,fs,w5,hC,hA.m2,C,p,bN z ao sk sw nc,fp,rfl,Pp,_,rfl,.inl ⟨∅,∅⟩,_,rfl,rfl,?_,?_⟩
    ·exact Int.mul_nonneg q2.1 (by simp only[enc];lia)
    ·simp only[enc];have:xs.getD (Int.toNat 0) 0 % 2=0\/xs.getD (Int.toNat 0) 0 % 2=1:=by lia
     rcases this with e | e <;> rw[e] <;> lia
   rintro σ H5 ⟨f,rfl,rfl,Pq,f1'⟩;clear hD D0 D1 q0 q2 gZ;wp_walk using kj;obtain⟨m0,Y_,m01,m02,m03⟩:∃m0:Int,(if (nc.length:Int) - f<2 - (if ch=true then 1 else 0) then(nc.length:Int) - f else 2 - (if ch=true then 1 else 0))=m0/\1<=m0/\m0<=2/\m0<=nc.length - f:=by
    refine⟨_,rfl,?_,?_,?_⟩ <;> (split <;> split <;> lia)
   have y1':=X.md (Int.toNat 1) (k:=m0) ∅
   have y3':=X.md (Int.toNat 3) (k:=3) ⋯
   refine⟨_,az.of Ex,_,g 1 ⋯ ⋯,C,lC,fs,w5,hC,hA.m2,C,p,bN z ao sk sw nc,fp,rfl,Pp,_,rfl,_,rfl,?_⟩
   simp only[enc,Y_];refine⟨∅,_,az.of Ex,_,g 3 ⋯ ⋯,_,rfl,?_⟩
   generalize xs.getD (Int.toNat 3) 0 % 3=d3 at y3' ⊢;generalize hsz:1+xs.getD (Int.toNat 1) 0 % m0=sz;have Dy:1<=sz:=by lia
   have Dz:sz<=2:=by lia
   have Za:f+sz<=nc.length:=by lia
   clear hsz y1' Y_;refine⟨λσ H6=>∃(D:Addr) (bx:List Addr),σ = [some (.ref sc),some (.ref p),some (.ref t),some (.ref sp),some (.int most),some (.int cell),some (.bl ch),some (.int mn),some (.int jy),some (.ref l),some (.int (nu+1+d3)),some (.ref u),some (.int (i:Int)),some (.ref xa),some (.int f),some (.int sz),some (.ref D),y6,y7]/\aj H5 H6/\H5 D=none/\Zn H6 D bx (gm nc f sz),?_,?_⟩
   ·refine Cs sz (λD j ys aC H6=>∃(v:Option V) (bx:List Addr),aC = [v,some (.ref p),some (.int f)]/\ys=bx.map V.ref/\Zn H6 D bx ((nc.drop f.toNat).take j)/\aj H5 H6/\H5 D=none/\j<=2) (λQ q=>q) ∅ ∅ ?_ ?_ ?_ ?_
    ·intro D hD;exact⟨none,[],rfl,rfl,by rw[List.take_zero];exact Zn.start,aj.put hD,hD,∅⟩
    ·rintro D j ys aC H6 ⟨v,bx,rfl,rfl,g2,g3,g4,g5⟩;exact⟨g2.l,g8 (by rw[aM,g2.n,dH];lia)⟩
    ·rintro D j ys aC H6 N2 gT hj ⟨v,bx,rfl,rfl,g2,g3,g4,g5⟩;walk_at "rdm";refine⟨C,lC,fs,g3 _ _ w5,hC,hA.m9,C,p,bN z ao sk sw nc,fp,_,rfl,Pp.same g3,∅,by simp only[enc];lia,λct q0 eq ht=>⟨g2.l,gT _ _ _ ⟨_,bx++[ct],rfl,by rw[bT];rfl,?_,aj.put2 g3 g4,g4,∅⟩⟩⟩
     have eq':nc[(f+(j:Int)).toNat]? = some q0:=eq;rw[IY Pq eq'];exact g2.push ht
    ·rintro D ys aC H6 ⟨v,bx,rfl,rfl,g2,g3,g4,g5⟩;exact⟨D,bx,rfl,g3,g4,g2⟩
   ·rintro σ H6 ⟨D,bx,rfl,g3,g4,g2⟩;have cin:iJ (bN z ao sk sw []) (gm nc f sz):=λq hq=>by
     have:=nk.c q (U6 hq);refine⟨this.1,this.2.1,this.2.2.1,?_⟩;obtain⟨y,hy,e⟩:=rN (get_mem (yV (counts z) (show q.1.toNat<(counts z).length by lia)))
     have:=ok.zl.ok.r y hy;lia
    have Pr:(gm nc f sz).length=sz.toNat:=U7 Pq ∅ Za
    have Zb:=Ej.trans g3;have AB:=(s3.trans (sJ.trans g3)) _ _ hu;have ku:=aL.of (K:=K) AB;walk_at "rdm";refine⟨λσ H7=>∃(u2:Addr) (b7:Int×Int),σ = [some (.ref sc),some (.ref p),some (.ref t),some (.ref sp),some (.int most),some (.int cell),some (.bl ch),some (.int mn),some (.int jy),some (.ref l),some (.int (nu+1+d3)),some (.ref u2),some (.int (i:Int)),some (.ref xa),some (.int f),some (.int sz),some (.ref D),y6,y7]/\aj H6 H7/\H7 u2=some (.tup [.int b7.1,.int b7.2])/\0<=b7.1/\b7.1<(counts z).length/\1<=b7.2/\b7.2<=st.2+6000000000,⟨_,ku,_,rfl,_,ku,_,rfl,t,z,ao,sk,sw,za,bA,ca,sa,st.1,st.2,D,bx,gm nc f sz,rfl,iz.same Zb,ok,u0,u1,g2,cin,∅,λu2 H7 s7 nu2 sF=>?_⟩,?_⟩
    ·have eb:=CZ pk l2' (gm nc f sz) st cin;have ei:=k_ (bN z ao sk sw []) (n:=((bN z ao sk sw []).rc.length:Int)) (gm nc f sz) st u0 u1 λq hq=>⟨(cin q hq).1,(cin q hq).2.1⟩;have zC:1<=(a_ (bN z ao sk sw []) st (gm nc f sz)).2:=by
      have:=afM ok st cin (λe=>by rw[e] at Pr;simp at Pr;lia)
      lia
     exact⟨u2,a_ (bN z ao sk sw []) st (gm nc f sz),rfl,s7,sF,ei.1,ei.2,zC,by rw[Pr] at eb;lia⟩
    rintro σ H7 ⟨u2,b7,rfl,s7,sF,ei1,ei2,zC,eb⟩;have Zc:=(s7 _ _ (g3 _ _ Ex));have ku2:=aL.of (K:=K) sF;walk_at "rdm";have z6:=X.md (Int.toNat 6) (k:=2) ⋯
    have z4:=X.md (Int.toNat 4) (k:=2) ⋯
    refine⟨_,ku2,_,rfl,_,az.of Zc,_,g 6 ⋯ ⋯,_,rfl,_,rfl,λo3 no3=>?_⟩
    have xH:=aj.put (o:=.lst [V.aU,V.int (b7.2 - xs.getD (Int.toNat 6) 0 % 2)]) no3;have Pu:upd H7 o3 (.lst [V.aU,V.int (b7.2 - xs.getD (Int.toNat 6) 0 % 2)]) o3=some (.lst [V.aU,V.int (b7.2 - xs.getD (Int.toNat 6) 0 % 2)]):=aE;generalize upd H7 o3 (.lst [V.aU,V.int (b7.2 - xs.getD (Int.toNat 6) 0 % 2)])=H8 at xH Pu ⊢;have AD:=xH _ _ Zc;obtain⟨la,Zd,Ze⟩:∃la:Option Int,fq [V.aU,V.int (b7.2 - xs.getD (Int.toNat 6) 0 % 2)] (xs.getD (Int.toNat 4) 0 % 2)=some (jN la)/\∀x,la=some x->0<=x/\x<=10000000000000:=by
     have:xs.getD (Int.toNat 4) 0 % 2=0\/xs.getD (Int.toNat 4) 0 % 2=1:=by lia
     rcases this with e | e <;> rw[e]
     ·exact⟨none,rfl,λx hx=>by cases hx⟩
     ·refine⟨some (b7.2 - xs.getD (Int.toNat 6) 0 % 2),rfl,λx hx=>?_⟩;cases hx;constructor <;> lia
    have kp8:=((Zb.trans s7).trans xH).f9 kp1;refine⟨_,az.of AD,_,g 4 ⋯ ⋯,_,rfl,_,az.of Pu,_,Zd,λσ H9=>∃lb:Option Int,σ = [some (.ref sc),some (.ref p),some (.ref t),some (.ref sp),some (.int most),some (.int cell),some (.bl ch),some (.int mn),some (.int jy),some (.ref l),some (.int (nu+1+d3)),some (.ref u2),some (.int (i:Int)),some (.ref xa),some (.int f),some (.int sz),some (.ref D),some (jN lb),y7]/\aj H8 H9/\∀x,lb=some x->0<=x/\x<=10000000000000,⟨_,az.of AD,_,g 4 ⋯ ⋯,_,rfl,cF (λ_=>?_) λ_=>⟨la,rfl,aj.refl _,Ze⟩⟩,?_⟩
    ·try walk_at "rdm"
     have v6:∀k:Int,0<k->k<=9->1<=jy*(1+xs.getD (Int.toNat 6) 0 % k)/\jy*(1+xs.getD (Int.toNat 6) 0 % k)<=2000000000*9:=λk hk hk9=>by
      have:=X.md (Int.toNat 6) (k:=k) hk;have h1:=pX alZ (show 1<=1+xs.getD (Int.toNat 6) 0 % k by lia) ⋯ ∅
      have h2:=pX al0 (show 1+xs.getD (Int.toNat 6) 0 % k<=9 by lia) ∅ ⋯
      exact⟨∅,h2⟩
     have vk:=v6 (if ch=true then 9 else 4) (by split <;> decide) (by split <;> decide)
     have v5a:=fD (xs.getD (Int.toNat 5) 0) (show 1+jy*(1+xs.getD (Int.toNat 6) 0 % (if ch=true then 9 else 4))≠0 by lia)
     have v5b:=fB (xs.getD (Int.toNat 5) 0) (show 0<1+jy*(1+xs.getD (Int.toNat 6) 0 % (if ch=true then 9 else 4)) by lia)
     refine⟨_,kp8,_,rfl,_,az.of AD,_,g 5 ⋯ ⋯,_,az.of AD,_,g 6 ⋯ ⋯,λo4 no4=>⟨_,az.of aE,.int (if ch=true then 9 else 4),by cases ch <;> rfl,_,rfl,_,rfl,by split <;> decide,.inl ⟨∅,∅⟩,_,rfl,∅,_,rfl,some _,rfl,aj.put no4,λx hx=>?_⟩⟩
     cases hx;constructor <;> lia
    rintro σ H9 ⟨lb,rfl,Ey,lbb⟩;clear Zd Ze Pu;have Zf:=Ey _ _ AD;have n9:0<=nu+1+d3/\nu+1+d3<=30:=by lia
    walk_at "rdm";refine Cs (nu+1+d3) (λD2 j ys aC HA=>∃(v:Option V) (js:List Int),ys=js.map V.int/\aC = [v,some (.ref xa)]/\HA D2=some (.lst ys)/\aj H9 HA/\H9 D2=none/\js.length<=j/\j<=30/\js.Pairwise (· < ·)/\∀x∈js,0<=x/\x<(j:Int)) (λQ q=>q) ∅ ∅ ?_ ?_ ?_ ?_
    ·intro D2 n_;exact⟨none,[],rfl,rfl,aE,aj.put n_,n_,bu _,∅,.nil,λ_ h=>nomatch h⟩
    ·rintro D2 j ys aC HA ⟨v,js,rfl,rfl,j1,j2,j3,j4,j5,j6,j7⟩;exact⟨j1,g8 (by rw[aM];lia)⟩
    ·rintro D2 j ys aC HA N2 gT hj ⟨v,js,rfl,rfl,j1,j2,j3,j4,j5,j6,j7⟩;have Zg:=j2 _ _ Zf;walk_at "rdm";have yes:HA D2=some (.lst (js.map V.int))/\N2 (js.map V.int++[V.int (j:Int)]) [some (V.int (j:Int)),some (V.ref xa)] (upd HA D2 (.lst (js.map V.int++[V.int (j:Int)]))):=by
      refine⟨j1,gT _ _ _ ⟨_,js++[(j:Int)],by rw[bT];rfl,rfl,aE,aj.put2 j2 j3,j3,by simp;lia,∅,?_,λx hx=>?_⟩⟩
      ·rw[Bl];exact⟨j6,by simp,λa ha b' hb=>by rw[List.mem_singleton.mp hb];exact(j7 a ha).2⟩
      ·rcases fE.mp hx with hx | hx
       ·have:=j7 x hx;lia
       ·rw[fQ.mp hx];lia
     have no:N2 (js.map V.int) [some (V.int (j:Int)),some (V.ref xa)] HA:=gT _ _ _ ⟨_,js,rfl,rfl,j1,j2,j3,∅,∅,j6,λx hx=>by have:=j7 x hx;lia⟩
     exact⟨_,az.of Zg,_,g 7 ⋯ ⋯,_,rfl,∅,∅,cF (λ_=>⟨_,az.of Zg,_,g 8 ⋯ ⋯,_,rfl,cF (λ_=>yes) λ_=>no⟩) λ_=>no⟩
    ·rintro D2 ys aC HA ⟨v,js,rfl,rfl,j1,j2,j3,j4,j5,j6,j7⟩;refine⟨D2,rfl,_,.inl ⟨az.of j1,λbt nbt=>?_⟩⟩;have Zh:upd HA bt (.tup (js.map V.int)) bt=some (.tup (js.map V.int)):=aE;have AE:=j2.trans (aj.put (o:=.tup (js.map V.int)) nbt);generalize upd HA bt (.tup (js.map V.int))=HB at Zh AE ⊢;have hxB:=AE _ _ Zf;walk_at "rdm";have s5B:=g3.trans (s7.trans (xH.trans (Ey.trans AE)));have Zi:=s3.trans (sJ.trans s5B);have Zj:=hg.same Zi;have Dl:D≠l:=(bY ((s3.trans sJ) _ _ hg.hl) g4).symm;have fin:∀(wr:Bool) (kt:Addr),HB kt=none->∃x,upd HB kt (.tup [V.int (nu+1+d3),V.int f,V.int sz,V.bl wr,V.ref bt,jN lb,V.ref D]) l=some (.lst x)/\x.length<16777216/\
       N [some (V.ref sc),some (V.ref p),some (V.ref t),some (V.ref sp),some (V.int most),some (V.int cell),some (V.bl ch),some (V.int mn),some (V.int jy),some (V.ref l),some (V.int (nu+1+d3)),some (V.ref u2),some (V.int (i:Int)),some (V.ref xa),some (V.int f),some (V.int sz),some (V.ref D),some (jN lb),some (V.ref bt)]
        (upd (upd HB kt (.tup [V.int (nu+1+d3),V.int f,V.int sz,V.bl wr,V.ref bt,jN lb,V.ref D])) l (.lst (x++[V.ref kt]))):=by
      intro wr kt nkt;have sK:=aj.put (o:=.tup [V.int (nu+1+d3),V.int f,V.int sz,V.bl wr,V.ref bt,jN lb,V.ref D]) nkt;have hK:iL (upd HB kt (.tup [V.int (nu+1+d3),V.int f,V.int sz,V.bl wr,V.ref bt,jN lb,V.ref D])) kt ⟨nu+1+d3,f,sz,wr,js,lb,gm nc f sz⟩ bt D bx:=⟨aE,sK _ _ Zh,g2.same ((s7.trans (xH.trans (Ey.trans AE))).trans sK)⟩;have Pw:=Zj.same sK;have Px:=((xH.trans (Ey.trans AE)).trans sK) _ _ sF;have u2l:u2≠l:=λe=>by rw[e,Pw.hl] at Px;cases Px
      have hnk:ux nc ⟨nu+1+d3,f,sz,wr,js,lb,gm nc f sz⟩:=⟨Pq,Dy,by dsimp only;lia,Za,rfl,⟨j6,λx hx=>(j7 x hx).1,λx hx=>by have:=(j7 x hx).2;lia⟩,lbb⟩
      refine⟨_,Pw.hl,by rw[aM,hg.n,gn];lia,hN _ _ ⟨_,_,_,_,_,_,_,nu+1+d3,u2,b7,ts++[kt],ks++[_],rfl,aj.put2 (s2.trans (Zi.trans sK)) nl,(aI u2l).trans Px,ei1,ei2,∅,∅,Pw.snoc hK Dl,by simp[gn],∅,∅,λk hk=>?_,?_⟩⟩
      ·rcases fE.mp hk with hk | hk
       ·have:=gk k hk;exact⟨this.1,by have:=this.2;lia⟩
       ·rw[fQ.mp hk];exact⟨hnk,kL _⟩
      ·rw[Bl];refine⟨gp,by simp,λk hk k' gM=>?_⟩
       rw[fQ.mp gM];have:=(gk k hk).2;dsimp only;lia
     exact⟨⟨_,az.of Zj.hl⟩,cF (λ_=>fin true) λ_=>⟨_,az.of hxB,_,g 2 ⋯ ⋯,_,rfl,fin _⟩⟩
  ·rintro σ H2 ⟨y1,y2,y3,y4,y5,y6,y7,nu,u,st,ts,ks,rfl,s2,hu,u0,u1,t0,t1,hg,gn,g0,g1,gk,gp⟩;wp_walk using kj;have Ep:=s2 _ _ (sA _ _ dF);refine⟨λσ H5=>∃(l2:Addr) (uX:List Addr) (u6:List Kn),σ = [some (.ref sc),some (.ref p),some (.ref t),some (.ref sp),some (.int most),some (.int cell),some (.bl ch),some (.int mn),some (.int jy),some (.ref l2),some (.int nu),some (.ref u),y1,y2,y3,y4,y5,y6,y7]/\aj H' H5/\H' l2=none/\fW H5 l2 uX u6/\uy nc u6,cF (λ_=>⟨C,p,t,sp,z,ao,sk,sw,za,bA,ca,sa,nc,fp,r,b,_,rfl,hC,xE.same s2,nk,iz.same s2,ok,Ep,r0,r1,λl2 uX u6 H3 s3 xF hk qA=>⟨l2,uX,u6,rfl,s2.trans s3,s2.free xF,hk,qA⟩⟩) λ_=>⟨l,ts,ks,rfl,s2,hg.nl,hg.zu,⟨λk hk=>(gk k hk).1,gp,∅⟩⟩,?_⟩
   rintro σ H5 ⟨l2,uX,u6,rfl,s5,xF,hk,qA⟩;walk_at "rdm";refine⟨λσ H6=>∃(l3:Addr) (AF:List Addr) (xJ:List Kn),σ[9]? = some (some (.ref l3))/\aj H' H6/\H' l3=none/\fW H6 l3 AF xJ/\uy nc xJ,cF (λ_=>⟨t,sp,l2,z,ao,sk,sw,za,bA,ca,sa,r,b,uX,u6,rfl,iz.same s5,ok,s5 _ _ (sA _ _ dF),r0,r1,b0,∅,hk,λk gM=>(qA.ok k gM).cells nk ok,(cQ qA.n7 ⋯),λl3 AF xJ H6 s6 xG Py rt=>⟨l3,AF,xJ,rfl,s5.trans s6,s5.free xG,Py,rt.ok qA⟩⟩) λ_=>⟨l2,uX,u6,rfl,s5,xF,hk,qA⟩,?_⟩
   rintro σ H6 ⟨l3,AF,xJ,e9,s6,xG,Py,ok3⟩;simp only[_L.Later,xq,mI,r_,JA,JC,zN,Ws,DC,uN,uO,DE,ahE,JE,ahF,Vv,Wg,IX,GX,IU,UP,TY,uq,TZ,TQ,Hh,Cr,vY,G4,SQ,R8,Jc,afQ,GV,GS,GR,G0,GZ,and_assoc,Rx,HO.ins.injEq,S_,Ck,gI,String.reduceBEq,List.lookup_cons,List.lookup_nil,aE,HO.lst.injEq,HO.dT.injEq,HO.tup.injEq,String.reduceEq,false_and,or_false,false_or,rO,Hx,Hw,Hv,Hs,Ht,Hu,HC,Bool.not_eq_true',decide_eq_false_iff_not,Classical.not_not,Gi,if_false_left,if_false_right,HM,Gb,k6,List.length_map,List.getElem?_nil,Ge,yr,rB,BS,ym,yp,Gj,BO,tC,vP,jI,rI,Gv,rU,GA,tB,Gh,Gg,RU,Gf,B5,B0,yD,B3,Gd,FU,vM,FW,FY,FZ,F_,GK,GJ,G5,vZ,G_,Hf,Hi,Hj,yG,yH,Gy,Gz,sc1,sc2,sc3,sc4,sc5,sc6,sc7,sc8,yz,Gx,R0,BZ,GH,Sl,GL,_L.start,ac9,ac_,afV,List.map_cons,List.map_nil,List.cons_append,List.nil_append,List.append_nil,List.length_cons,List.length_nil,List.getElem?_cons_zero,List.getElem?_cons_succ,Option.some.injEq,exists_eq_left,exists_eq_left',exists_and_left,exists_eq,V.int.injEq,V.ref.injEq,V.bl.injEq,V.ty.injEq,V.str.injEq,List.cons.injEq,and_true,true_and,List.set_cons_zero,List.set_cons_succ,decide_eq_true_eq,Nat.reduceSub,Nat.reduceAdd,List.replicate_succ,List.replicate_zero,List.replicate,Int.reduceLT,Int.reduceLE,Int.reducePow,Int.reduceToNat,Int.reduceNeg,Nat.reduceLT,Nat.reduceLeDiff,Nat.reducePow,Int.reduceMul,Int.reduceAdd,Int.reduceSub,and_self,or_true,true_or,gt_iff_lt,ge_iff_le,if_true,if_false,Bool.false_eq_true,reduceIte,Nat.sub_self,Nat.sub_zero];exact⟨_,e9,q l3 AF xJ H6 (sA.trans s6) (sA.free xG) Py ok3⟩
theorem Zk(T:Tx K mg A)(aG:bF mg base A.br A.aX):aY P w K mg base bw 5 A.LV A.LW ["plate", "ring", "beat", "cells"] (adT K [A.bK,A.bB]):=by
 have al1:=alM (P:=P) (w:=w) (base:=base) T aG;refine T.NT.ok Wv (λvs H Q E h=>?_) (λaQ Ar outer s H vs Q E hr h=>?_)
 ·obtain⟨C,p,P,fp,r,b,ca,bx,cz,rfl,_⟩:=h
  rfl
 ·obtain⟨C,p,P,fp,r,b,ca,bx,cz,rfl,hC,hP,ok,r0,r1,hz,hq,hlen,q⟩:=h;refine⟨_,(aD (aR (i:=4) Wv.nd rfl OL_ (aZ al1 (hr.mono (by first | decide | lia)) rfl T.aiF T.WW.kp T.aiE .nil aP (ah (aa 0) (ah (aa 1) (ah (aa 2) (ah (aa 3) au))))))
   (aD (cU (iV (GC (aa 4) (λ_=>rfl))) (aK (bG (dD (ah (aa 1) (ah (aa 2) au))))) bZ)
   (aK (bG (dD (ah (aH tW (aH bV (aa 4) (tL tN ak) (λ_ _=>rfl)) ak (λ_ _=>rfl)) (ah (aH tW (aH bV (aa 4) (tL tN ak) (λ_ _=>rfl)) ak (λ_ _=>rfl)) au))))))),?_⟩
  walk_at "rdm";refine⟨C,p,P,fp,r,b,ca,bx,cz,rfl,hC,hP,ok,r0,r1,hz,hq,hlen,λl ts H1 s1 n1 El h1=>?_⟩;walk_at "rdm";have hn:=h1.n;rw[nC] at hn;refine⟨_,.inl ⟨_,az.of h1.l,rfl⟩,cF (λe=>λt nt=>?_) λe=>?_⟩
  ·have ez:cz = []:=by
    have:cz.length=0:=by
     have e1:ts = []:=by simpa using e
     rw[e1] at hn;simpa using hn.symm
    exact E_ this
   subst ez;exact q t _ (aj.put2 s1 (s1.free nt)) (s1.free nt) aE
  ·have ez:cz≠[]:=by
    rintro rfl;have e1:ts = []:=E_ hn;rw[e1] at e;exact e rfl
   have hp:0<cz.length:=List.length_pos_iff.mpr ez;obtain⟨t,et,ht⟩:=h1.at (i:=cz.length - 1) (by rw[nC];lia)
   obtain⟨a,c,ew⟩:=adQ P (r,b) ez;rw[ew] at ht;have ei:fq (ts.map V.ref) (-1)=some (.ref t):=by
    unfold fq;rw[adK (by rw[aM];lia),aM,hn]
    exact et
   refine⟨_,az.of h1.l,_,ei,?_⟩;walk_at "rdm";refine⟨_,aL.of ht,_,rfl,_,az.of h1.l,_,ei,?_⟩;walk_at "rdm";refine⟨_,aL.of ht,_,rfl,λt2 nt=>?_⟩;exact q t2 _ (aj.put2 s1 (s1.free nt)) (s1.free nt) aE
theorem al2(T:Tx K mg A)(aG:bF mg base A.br A.aX):aY P w K mg base bw 5 A.Nm A.Nn ["_law_one", "_law_cell"] (afz K A.bW):=by
 have al3:=alI (P:=P) (w:=w) (base:=base) T aG;have al4:=alJ (P:=P) (w:=w) (base:=base) T aG;refine T.XE.ok WA (λvs H Q E h=>?_) (λaQ Ar outer s H vs Q E hr h=>?_)
 ·obtain⟨t,k,b,cl,bx,c,nc,rfl,_⟩:=h
  rfl
 ·obtain⟨t,k,b,cl,bx,c,nc,rfl,hk,ok,hn,q⟩:=h;refine⟨_,(aD (cU (gC (aH bJ (aa 0) ak (λ_ _=>rfl))) (aD (C7 (i:=2) WA.nd rfl OL_ (N:=["_law_j", "_law_cell"]) (nt:=1) (fv:=[1]) ‹cN.of› rfl (lJ rfl T.gA (ah (aH bJ (aa 0) ak (λ_ _=>rfl)) au)) (λC s H fp=>(bE (i:=0) (show List.Nodup (["_law_j", "_law_cell"]:List Str) by decide +kernel) rfl OL_)) (λC s H fp=>jL) (λC s H fp=>(aF gu (aF d8 (aa 1) (aF mj ak (aa 0))) (aF d8 (aF rE ak ak) ak))))
   (aK (bG (aZ al4 (hr.mono (by first | decide | lia)) rfl T.ain T.WL.kp T.aim .nil aP (ah (aH bJ (aa 0) ak (λ_ _=>rfl)) (ah (aa 2) (ah (aF gu (aa 1) (aF rE ak ak)) (ah (aF gu (aa 1) ak) (ah (aH bJ (aa 0) ak (λ_ _=>rfl)) (ah (aH bJ (aa 0) ak (λ_ _=>rfl)) (ah (iX lN (aF gu (aa 1) ak) ak (bL _)) au))))))))))) bZ)
   (aK (bG (aZ al3 (hr.mono (by first | decide | lia)) rfl T.ail T.WK.kp T.aik .nil aP (ah (aH bJ (aa 0) ak (λ_ _=>rfl)) (ah (aH bJ (aa 0) ak (λ_ _=>rfl)) (ah (aF gu (aa 1) (aF rE ak ak)) (ah (aF gu (aa 1) ak) (ah (aH bJ (aa 0) ak (λ_ _=>rfl)) (ah (aH bJ (aa 0) ak (λ_ _=>rfl)) au)))))))))),?_⟩
  have k1:=aL.of (K:=K) hk.o;walk_at "rdm";have a0:=fD c (show (1000000000000:Int)≠0 by decide)
  have a1:=fB c (show (0:Int)<1000000000000 by decide)
  have b0:=fD c (show (21:Int)≠0 by decide)
  have b1:=fB c (show (0:Int)<21 by decide)
  have o1:=ok.m0;have o2:=ok.m1;have o3:=ok.fit;have hB:Cz k.f k.m (c % 1000000000000) (c % 21) k.lX:=⟨ok.f0,∅,ok.m0,ok.m1,a0,∅,b0,∅,ok.l⟩
  refine⟨_,k1,_,rfl,k.w,rfl,cF (λhw=>?_) λhw=>⟨_,k1,_,rfl,_,k1,_,rfl,⋯,_,k1,_,rfl,_,k1,_,rfl,k.f,k.m,_,_,k.lX,_,k.bh,rfl,hB,.inr ⟨b,rfl,.inr hk.b⟩,ok.r,λp mk bb dx H' s np ha=>q _ p mk bb dx H' ⟨rfl,rfl,rfl,?_,rfl⟩ s np ha⟩⟩
  ·refine Cs k.m (λD i ys aC H2=>∃(u:Option V) (ns:List Int),ys=ns.map V.int/\ns.length=i/\(∀x∈ns,0<=x/\x<=1000000000)/\aC = [u,some (.int c)]/\H2 D=some (.lst ys)/\aj H H2/\H D=none/\i<=16) (λQ q=>?_) ∅ ∅ ?_ ?_ ?_ ?_
   ·walk_at "rdm";exact⟨_,k1,_,rfl,q⟩
   ·intro D hD;exact⟨none,[],rfl,rfl,(λ_ h=>nomatch h),rfl,aE,aj.put hD,hD,∅⟩
   ·rintro D i ys aC H2 ⟨u,ns,rfl,e0,eb,rfl,e1,e2,e3,e4⟩;exact⟨e1,g8 (by rw[aM];lia)⟩
   ·rintro D i ys aC H2 N hN hi ⟨u,ns,rfl,e0,eb,rfl,e1,e2,e3,e4⟩;walk_at "rdm";have m0:=fD (c+7*(i:Int)) (show (1000000001:Int)≠0 by decide)
    have m1:=fB (c+7*(i:Int)) (show (0:Int)<1000000001 by decide)
    refine⟨⋯,e1,hN _ _ _ ⟨_,ns++[(c+7*(i:Int)) % 1000000001],by rw[bT];rfl,by simp[e0],λx hx=>?_,rfl,aE,aj.put2 e2 e3,e3,∅⟩⟩
    rcases fE.mp hx with hx | hx
    ·exact eb x hx
    ·rw[fQ.mp hx];lia
   ·rintro D ys aC H2 ⟨u,ns,rfl,e0,eb,rfl,e1,e2,e3,e4⟩;have k2:=e2.f9 k1;have el:(ns.length:Int)=k.m:=by lia
    refine⟨_,k2,_,rfl,⋯,_,k2,_,rfl,_,k2,_,rfl,k.f,_,_,D,ns,k.lX,_,k.bh,_,rfl,az.of e1,eb,by rw[el];exact hB,.inr ⟨b,rfl,.inr (e2 _ _ hk.b)⟩,ok.r,λp mk bb dx H' s np ha=>q _ p mk bb dx H' ⟨rfl,el,rfl,by rw[if_pos hw],rfl⟩ (e2.trans s) (e2.free np) ha⟩
  ·rw[if_neg hw]
theorem al5(T:Tx K mg A)(aG:bF mg base A.br A.aX):aY P w K mg base bw 6 A.Mc A.Me ["plate", "ring", "beat", "dues"] (afC K [A.bK,A.bB] A.bW A.cJ):=by
 have Pz:=Zk (P:=P) (w:=w) (base:=base) T aG;have al6:=ak5 (P:=P) (w:=w) (base:=base) T aG;refine T.W8.ok Wx (λvs H Q E h=>?_) (λaQ Ar outer s H vs Q E hr h=>?_)
 ·obtain⟨C,p,dl,P,fp,r,b,ps,ds,rfl,_⟩:=h
  rfl
 ·obtain⟨C,p,dl,P,fp,r,b,ps,ds,rfl,hC,hP,ok,r0,r1,hd,dn,dc,q⟩:=h;refine⟨_,(aD (aR (i:=4) Wx.nd rfl OL_ (aF dW (aa 2) (bX (Ci rfl) rfl T.xA boot_sum (ah (gP (N:=["due", "plate"]) (nt:=1) (fv:=[0]) ‹cN.of› rfl (c_ (aa 3)) (λC s H fp=>(bE (i:=0) (show List.Nodup (["due", "plate"]:List Str) by decide +kernel) rfl OL_)) (λC s H fp=>jL) (λC s H fp=>(aZ al6 (hr.mono (by first | decide | lia)) rfl T.aiR T.W7.kp T.aiQ .nil aP (ah (aa 1) (ah (aa 0) au))))) au))))
   (aK (bG (bX (afk rfl) rfl T.Eg boot_max (ah (aF yL (eW (ah (aa 4) au)) (gP (N:=["due", "plate", "ring", "beat"]) (nt:=1) (fv:=[0,1,2]) ‹cN.of› rfl (c_ (aa 3)) (λC s H fp=>(bE (i:=0) (show List.Nodup (["due", "plate", "ring", "beat"]:List Str) by decide +kernel) rfl OL_)) (λC s H fp=>jL) (λC s H fp=>(aH (adk (K:=K) rfl) (aZ Pz (hr.mono (by first | decide | lia)) rfl T.WY T.NT.kp T.WX .nil aP (ah (aa 1) (ah (aa 2) (ah (aa 3) (ah (JF (K:=K) rfl (aa 0) rfl) au))))) ak (λ_ _=>rfl))))) au))))),?_⟩
  walk_at "rdt";have jY:=hd.n;refine i8 dl (ps.map V.ref) (λD i ys aC H2=>∃(u:Option V),ys=(((ds.take i).map (·.c)).map (fz P)).map V.int/\aC = [u,some (.ref p)]/\H2 D=some (.lst ys)/\aj H H2/\H D=none) (λQ q=>q) (az.of hd.l) ?_ ?_ ?_ ?_
  ·intro D hD;exact⟨none,rfl,rfl,aE,aj.put hD,hD⟩
  ·rintro D i ys aC H2 ⟨u,rfl,rfl,e1,e2,e3⟩;exact⟨e1,g8 (by simp only[List.length_map,List.length_take];lia),az.of (e2 _ _ hd.l)⟩
  ·rintro D i x ys aC H2 N hN hx ⟨u,rfl,rfl,e1,e2,e3⟩;obtain⟨dp,kJ,rfl⟩:=dY hx;have hi:i<ds.length:=by rw[← jY];exact cT kJ
   obtain⟨dx,ap,l,ts,m,b',cu,hD⟩:=(hd.same e2).t i dp ds[i] kJ (bC hi);obtain⟨c1,c2⟩:=dc ds[i] (cI hi);walk_at "rdm";refine⟨C,p,dp,P,fp,ds[i],dx,ap,l,ts,m,b',cu,rfl,hC,hP.same e2,ok,hD,c1,c2,λH3 s3=>⟨s3 _ _ e1,hN _ _ _ ⟨_,?_,rfl,aE,aj.put2 (e2.trans s3) e3,e3⟩⟩⟩;rw[take_succ_get (bC hi),bT,bT,bT];rfl
  ·rintro D ys aC H2 ⟨u,rfl,rfl,e1,e2,e3⟩;rw[aM,jY,c9] at e1
   try walk_at "rdm"
   refine⟨_,az.of e1,λo1 sI=>?_⟩;have so:=aj.put (o:=.lst [V.int (b+((ds.map (·.c)).map (fz P)).sum)]) sI;have AG:upd H2 o1 (.lst [V.int (b+((ds.map (·.c)).map (fz P)).sum)]) o1=some (.lst [V.int (b+((ds.map (·.c)).map (fz P)).sum)]):=aE;generalize upd H2 o1 (.lst [V.int (b+((ds.map (·.c)).map (fz P)).sum)])=H3 at so AG ⊢;have s3:=e2.trans so;refine i8 dl (ps.map V.ref) (λD i ys aC H4=>∃(u:Option V),ys=(((ds.take i).map (·.c)).map λc=>(a_ P (r,b) c).2).map V.int/\aC = [u,some (.ref p),some (.int r),some (.int b)]/\H4 D=some (.lst ys)/\aj H3 H4/\H3 D=none) (λQ q=>q) (az.of (s3 _ _ hd.l)) ?_ ?_ ?_ ?_
   ·intro D hD;exact⟨none,rfl,rfl,aE,aj.put hD,hD⟩
   ·rintro D i ys aC H4 ⟨u,rfl,rfl,g1,g2,g3⟩;exact⟨g1,g8 (by simp only[List.length_map,List.length_take];lia),az.of (g2 _ _ (s3 _ _ hd.l))⟩
   ·rintro D i x ys aC H4 N hN hx ⟨u,rfl,rfl,g1,g2,g3⟩;obtain⟨dp,kJ,rfl⟩:=dY hx;have hi:i<ds.length:=by rw[← jY];exact cT kJ
    obtain⟨dx,ap,l,ts,m,b',cu,hD⟩:=((hd.same s3).same g2).t i dp ds[i] kJ (bC hi);obtain⟨c1,c2⟩:=dc ds[i] (cI hi);have eZ:=hD.o;unfold qF at eZ;wp_walk using T,eZ;refine⟨C,p,P,fp,r,b,l,ts,ds[i].c,rfl,hC,(hP.same s3).same g2,ok,r0,r1,hD.c,c1,c2,λt H5 s5 nt ht=>⟨t,rfl,_,aL.of ht,_,rfl,s5 _ _ g1,hN _ _ _ ⟨_,?_,rfl,aE,aj.put2 (g2.trans s5) g3,g3⟩⟩⟩;rw[take_succ_get (bC hi),bT,bT,bT];rfl
   ·rintro D ys aC H4 ⟨u,rfl,rfl,g1,g2,g3⟩;rw[aM,jY,c9] at g1;refine⟨D,rfl,_,g2 _ _ AG,_,g1,by simp only[List.length_map,List.length_cons,List.length_nil];lia,λl nl=>⟨(b+((ds.map (·.c)).map (fz P)).sum)::(ds.map (·.c)).map (λc=>(a_ P (r,b) c).2),az.of aE,by simp,λM hM Zl=>?_⟩⟩
    have eb:kF P r b (ds.map (·.c))=M:=afD (f:=λc=>(a_ P (r,b) c).2) (by
      rcases b_.mp hM with h | h
      ·exact .inl h
      ·exact .inr h) (Zl _ b8) λy hy=>Zl y (bU _ hy)
    rw[← eb];exact q _ ((s3.trans g2).trans (aj.put nl))
theorem al7(T:Tx K mg A)(aG:bF mg base A.br A.aX):aY P w K mg base bw 6 A.M9 A.M_ ["_law_spec_here", "_law_cell"] (afv K [A.bK,A.bB] A.aX (qC iA) (qD "nearest_rings")):=by
 have Pe:=YJ (P:=P) (w:=w) (base:=base) T aG;have al8:=alP (P:=P) (w:=w) (base:=base) T aG;have Ai:=OI (P:=P) (w:=w) (base:=base) T aG;refine T.Xy.ok xw (λvs H Q E h=>?_) (λaQ Ar outer s H vs Q E hr h=>?_)
 ·obtain⟨t,z,ao,sk,sw,za,bA,ca,sa,c,rfl,_⟩:=h
  rfl
 ·obtain⟨t,z,ao,sk,sw,za,bA,ca,sa,c,rfl,hS,ok,T0,q⟩:=h;have hu:=qo hr;refine⟨_,(aD (aR (i:=2) xw.nd rfl OL_ (aZ Ai (hr.mono (by first | decide | lia)) rfl T.N6 T.D_.kp T.N1 .nil aP (ah (aa 1) (ah ak au))))
   (aD (cU (dB kQ (aF cS (aH bV (aa 2) ak (λ_ _=>rfl)) ak) ak (bL _)) (aK (bG (yE T.akj Pe (hr.mono (by first | decide | lia)) rfl T.Yh T.Xl .nil aP (ah (kU yK rfl T.qQ sU (ah (aH bJ (aa 0) ak (λ_ _=>rfl)) au)) (ah (aH bJ (aa 0) ak (λ_ _=>rfl)) (ah (aH bJ (aa 0) ak (λ_ _=>rfl)) (ah (kU yK rfl T.qQ sU (ah (aH bJ (aa 0) ak (λ_ _=>rfl)) au)) au))))))) bZ)
   (aD (aR (i:=3) xw.nd rfl OL_ (aF cS (aH bV (aa 2) ak (λ_ _=>rfl)) (bX (S9 rfl) rfl T.uU boot_min (ah (aH bJ (aa 0) ak (λ_ _=>rfl)) au))))
   (aD (aR (i:=4) xw.nd rfl OL_ Hy)
   (aD (cV cL rfl (lJ rfl T.gA (ah (bX (GF rfl) rfl T.uU boot_min (ah (aF cS (aH bV (aa 2) ak (λ_ _=>rfl)) ak) (ah (aF mj (aa 3) (bX Ca rfl T.dG dU (ah (aH bJ (aa 0) ak (λ_ _=>rfl)) au))) au))) au)) (bE (i:=5) xw.nd rfl OL_)
   (aD (aR (i:=6) xw.nd rfl OL_ (aF cS (aH bV (aa 2) (aF d8 ak (aa 5)) (λ_ _=>rfl)) (bX Ca rfl T.dG dU (ah (aH bJ (aa 0) ak (λ_ _=>rfl)) au))))
   (aK (yP hu (aa 4) (dD (ah (aa 6) (ah (aF cS (aH bV (aa 2) (aF d8 ak (aa 5)) (λ_ _=>rfl)) (aH oW (aH bJ (aa 0) ak (λ_ _=>rfl)) (aa 6) (λ_ _=>rfl))) au))) gb rfl))))
   (aK (bG (yE T.akk al8 (hr.mono (by first | decide | lia)) rfl T.akl T.ajP .nil aP (ah (kU yK rfl T.qQ sU (ah (aH bJ (aa 0) ak (λ_ _=>rfl)) au)) (ah (aH bJ (aa 0) ak (λ_ _=>rfl)) (ah (aH bJ (aa 0) ak (λ_ _=>rfl)) (ah (kU yK rfl T.qQ sU (ah (aH bJ (aa 0) ak (λ_ _=>rfl)) au)) (ah (aa 3) (ah (kU (ae2 rfl) rfl T.qQ sU (ah (aa 4) au)) au)))))))))))))),?_⟩
  walk_at "rdm";refine⟨c,16,rfl,⋯,⋯,λxa xs H1 s1 n1 hx X=>?_⟩
  have X:qE xs 16:=X;have xl:=X.n;have g:∀k:Int,0<=k->k<16->fq (xs.map V.int) k=some (.int (xs.getD k.toNat 0)):=λk h0 h1=>gi h0 ∅
  have iz:=hS.same s1;have T1:=T0.same s1;have zl:=ok.zl;have cl:=rM z λp hp=>(zl.ok.r p hp).1;have H_:=zl.sm;have c2:=zl.ok.s2;have cm:∀c∈counts z,1<=c/\c<=60:=λc hc=>by
   obtain⟨y,hy,rfl⟩:=rN hc;have:=zl.ok.r y hy;lia
  have k1:=aL.of (K:=K) iz.o;walk_at "rdm";refine⟨_,az.of hx,_,g 0 ⋯ ⋯,_,rfl,cF (λh0=>?_) λh0=>?_⟩
  ·refine⟨_,k1,_,rfl,za,rfl,_,.inl iz.zn.sq,λzc AH=>?_⟩;have z2:=aj.put (o:=.lst (bA.map V.ref)) AH;refine⟨_,z2.f9 k1,_,rfl,_,z2.f9 k1,_,rfl,_,z2.f9 k1,_,rfl,sa,rfl,_,.inl (az.of (z2 _ _ iz.s)),λsc PB p dx np lW nd=>?_⟩;clear z2;have z2:=aj.put (o:=.lst (bA.map V.ref)) AH;have z3:=aj.put (o:=.lst (sw.map V.int)) PB;have mF:=z2.trans z3;have PD:Zn (upd (upd H1 zc (.lst (bA.map V.ref))) sc (.lst (sw.map V.int))) zc bA z:=⟨z3 _ _ aE,iz.zn.n,(iz.zn.same mF).t⟩;have jC:upd (upd H1 zc (.lst (bA.map V.ref))) sc (.lst (sw.map V.int)) sc=some (.lst (sw.map V.int)):=aE;generalize upd (upd H1 zc (.lst (bA.map V.ref))) sc (.lst (sw.map V.int))=H3 at *
   have AI:=aj.put (o:=.own p) lW;have iR:upd H3 dx (.own p) p=none:=by rw[aI (iC nd)];exact np
   have lE:=AI.trans (aj.put (o:=.ins A.bK dx []) iR);refine⟨A.bK,p,dx,zc,sc,bA,z,ao,sk,sw,rfl,T.akA,aE,PD.same lE,zl.ok,ok.l1,ok.l2,ok.k0,ok.k1,ok.l3,az.of (lE _ _ jC),ok.so,λH5 sH b1 b2 b3 b4 tss sb nf hp5 hA=>⟨rfl,?_⟩⟩;exact q A.bK p _ _ H5 (λb o e _=>sb _ _ (lE _ _ (mF _ _ (s1 _ _ e))) (bY (mF _ _ (s1 _ _ e)) np)) (by simp) ⟨sH,b1,b2,b3,b4,tss,_,rfl,hA⟩ (afu ∅ ∅ λc hc=>⟨by have:=cm c hc;lia,(cm c hc).2⟩)
  ·refine⟨_,az.of hx,_,g 1 ⋯ ⋯,_,k1,_,rfl,ca,rfl,_,az.of iz.c,∅,λM hM Yu=>⟨_,rfl,?_⟩⟩
   have hM1:=cm M hM;have p0:=fD (xs.getD (Int.toNat 1) 0) (show M≠0 by lia)
   have p1:∀c∈counts z,xs.getD (Int.toNat 1) 0 % M<c:=λc hc=>Int.lt_of_lt_of_le (fB _ ∅) (Yu c hc)
   refine⟨∅,λd nd=>?_⟩
   generalize xs.getD (Int.toNat 1) 0 % M=sp at p0 p1 ⊢;have pM:=p1 M hM;have gD:∀i:Nat,i<(counts z).length->(counts z).getD i 0∈counts z:=λi hi=>by
    rw[show (counts z).getD i 0=(counts z)[i] by simp[hi]];exact cI hi
   have y2:=X.md (Int.toNat 2) (k:=7) ⋯
   have q0:0<=sp*((counts z).length:Int):=Int.mul_nonneg p0 ∅
   have q1:sp*((counts z).length:Int)<=60*15:=pX ∅ ∅ ∅ ⋯
   obtain⟨M',eM,M6,Ms⟩:∃M':Nat,(if sp*((counts z).length:Int)<xs.getD (Int.toNat 2) 0 % 7 then sp*((counts z).length:Int) else xs.getD (Int.toNat 2) 0 % 7)=(M':Int)/\M'<=6/\(M':Int)<=sp*((counts z).length:Int) :=
    ⟨(if sp*((counts z).length:Int)<xs.getD (Int.toNat 2) 0 % 7 then sp*((counts z).length:Int) else xs.getD (Int.toNat 2) 0 % 7).toNat,by split <;> lia,by split <;> lia,by split <;> lia⟩
   have sd:=aj.put (o:=.dT []) nd;refine Co M' (λi σ H'=>∃x y bz,σ = [some (.ref t),some (.int c),some (.ref xa),some (.int sp),some (.ref d),x,y]/\aj H1 H'/\H' d=some (.dT (cX bz))/\bz.Nodup/\(∀q∈bz,0<=q.1/\q.1<(counts z).length/\0<=q.2/\q.2<(counts z).getD q.1.toNat 0)/\bz.length<=i) (λQ q=>?_) ∅ ⟨none,none,[],rfl,sd,aE,Bh,(λ_ h=>nomatch h),bu _⟩ ?_ ?_
   ·have gU:=sd _ _ hx;walk_at "rdm";refine⟨_,az.of gU,_,g 2 ⋯ ⋯,_,rfl,_,sd.f9 k1,_,rfl,ca,rfl,_,.inl (az.of (sd _ _ iz.c)),.inl ⟨∅,∅⟩,?_⟩
    rw[aM,eM];exact q
   ·rintro i σ H' N hN hi ⟨x,y,bz,rfl,hs,hd,nb,Ez,bl⟩;have gU:=hs _ _ hx;have r0:=fD (xs.getD (3+(i:Int)).toNat 0) (show ((counts z).length:Int)≠0 by lia)
    have r1:=fB (xs.getD (3+(i:Int)).toNat 0) (show 0<((counts z).length:Int) by lia)
    walk_at "rdm";refine⟨_,az.of gU,_,g _ ∅ ∅,_,hs.f9 k1,_,rfl,ca,rfl,_,.inl (az.of (hs _ _ iz.c)),?_⟩
    rw[aM]
    try walk_at "rdm"
    generalize xs.getD (3+(i:Int)).toNat 0 % ((counts z).length:Int)=r at r0 r1 ⊢;have hcr:=cm _ (gD r.toNat ∅)
    have c0:=fD (xs.getD (9+(i:Int)).toNat 0) (show (counts z).getD r.toNat 0≠0 by lia)
    have c1:=fB (xs.getD (9+(i:Int)).toNat 0) (show 0<(counts z).getD r.toNat 0 by lia)
    refine⟨∅,_,az.of gU,_,g _ ∅ ∅,_,hs.f9 k1,_,rfl,ca,rfl,_,az.of (hs _ _ iz.c),_,gi r0 r1,_,rfl,_,rfl,∅,λp np=>?_⟩
    generalize xs.getD (9+(i:Int)).toNat 0 % (counts z).getD r.toNat 0=c' at c0 c1 ⊢;have PF:=aj.put (o:=.tup [V.int r,V.int c']) np;refine⟨_,lT.t (k:=kT (r,c')) (PF _ _ hd) aE (by rw[rO,cX,aM];lia),hN _ _ ?_⟩
    by_cases hm:(r,c')∈bz
    ·rw[afd _ hm];exact⟨_,_,bz,rfl,aj.put2 (hs.trans PF) nd,aE,nb,Ez,∅⟩
    ·rw[UK _ hm];refine⟨_,_,bz++[(r,c')],rfl,aj.put2 (hs.trans PF) nd,aE,?_,?_,by simp;lia⟩
     ·rw[Bg];exact⟨nb,by simp,λx hx y hy e=>hm (by rw[List.mem_singleton.mp hy] at e;rw[← e];exact hx)⟩
     ·intro x hx;rcases fE.mp hx with h | h
      ·exact Ez x h
      ·rw[fQ.mp h];exact⟨r0,r1,c0,c1⟩
   ·rintro σ H' ⟨x,y,bz,rfl,hs,hd,nb,Ez,bl⟩;walk_at "rdm";have k2:=hs.f9 k1;have jA:=iz.same hs;refine⟨_,k2,_,rfl,za,rfl,_,.inl jA.zn.sq,λzc AH=>?_⟩;have z2:=aj.put (o:=.lst (bA.map V.ref)) AH;refine⟨_,z2.f9 k2,_,rfl,_,z2.f9 k2,_,rfl,_,z2.f9 k2,_,rfl,sa,rfl,_,.inl (az.of (z2 _ _ jA.s)),λsc PB=>?_⟩;clear z2;have z2:=aj.put (o:=.lst (bA.map V.ref)) AH;have z3:=aj.put (o:=.lst (sw.map V.int)) PB;have mF:=z2.trans z3;have PD:Zn (upd (upd H' zc (.lst (bA.map V.ref))) sc (.lst (sw.map V.int))) zc bA z:=⟨z3 _ _ aE,jA.zn.n,(jA.zn.same mF).t⟩;have jC:upd (upd H' zc (.lst (bA.map V.ref))) sc (.lst (sw.map V.int)) sc=some (.lst (sw.map V.int)):=aE;generalize upd (upd H' zc (.lst (bA.map V.ref))) sc (.lst (sw.map V.int))=H3 at *
    refine⟨_,mF _ _ hd,λZm kr Zo ka p dx np lW ndp=>?_⟩;have xB:=ka.zn Zo;have PJ:=aj.put (o:=.lst (kr.map V.ref)) Zo;generalize upd H3 Zm (.lst (kr.map V.ref))=H4 at xB PJ np lW ⊢;have AI:=aj.put (o:=.own p) lW;have iR:upd H4 dx (.own p) p=none:=by rw[aI (iC ndp)];exact np
    have lE:=AI.trans (aj.put (o:=.ins A.bB dx []) iR);have pT:=PJ.trans lE;have PL:=(s1.trans hs).trans (mF.trans PJ);have ben:bz.length<=sp.toNat*(counts z).length:=by
     have:((sp.toNat*(counts z).length:Nat):Int)=sp*((counts z).length:Int):=by rw[Int.natCast_mul,E8 p0]
     lia
    try walk_at "rdm"
    refine⟨p,dx,zc,sc,Zm,bA,kr,z,bz,ao,sk,sp,sw,rfl,T.akB,T.Ox,aE,PD.same pT,zl.ok,ok.l1,ok.l2,ok.k0,ok.k1,ok.l3,az.of (pT _ _ jC),ok.so,xB.same lE,∅,nb,Ez,∅,p0,p1,
     (T0.same PL).same lE,λos r is=>afc p0 ben os r is,λH6 fp mv ts us os ms keep Y7 nf al9 hM hmv=>⟨rfl,?_⟩⟩
    exact q A.bB p _ _ H6 (λb o e nP=>keep b o (lE _ _ (PL _ _ e)) (bY (PL _ _ e) np) nP) (by simp) hM.adP (U4 ∅ ∅ (λc hc=>⟨p1 c hc,(cm c hc).2⟩) p0 al9)
theorem Zp(T:Tx K mg A)(aG:bF mg base A.br A.aX):aY P w K mg base bw 7 A.Mf A.Mg ["plate", "dues", "begun", "stop"] (agB K [A.bK,A.bB] A.bW A.cJ):=by
 have ON:=Yo (P:=P) (w:=w) (base:=base) T aG;have al_:=al5 (P:=P) (w:=w) (base:=base) T aG;refine T.NV.ok Wy (λvs H Q E h=>?_) (λaQ Ar outer s H vs Q E hr h=>?_)
 ·obtain⟨C,p,l,b,st,P,fp,ps,ds,bg,s0,rfl,_⟩:=h
  rfl
 ·obtain⟨C,p,l,b,st,P,fp,ps,ds,bg,s0,rfl,hC,hP,ok,r0,r1,hd,qR,dc,hb,gG,q⟩:=h;refine⟨_,(aD (aR (i:=4) Wy.nd rfl OL_ (aZ ON (hr.mono (by first | decide | lia)) rfl T.W5 T.NU.kp T.W4 .nil aP (ah (aa 1) (ah (aa 2) au))))
   (aK (bG (dD (ah (aZ al_ (hr.mono (by first | decide | lia)) rfl T.aiT T.W8.kp T.aiS .nil aP (ah (aa 0) (ah (aH bJ (aa 3) ak (λ_ _=>rfl)) (ah (aH bJ (aa 3) ak (λ_ _=>rfl)) (ah (aa 4) au))))) (ah (bX eT rfl T.dG dU (ah (aa 4) au)) (ah (aa 2) (ah (aa 3) au)))))))),?_⟩
  walk_at "rdt";refine⟨l,b,ps,ds,bg,H,rfl,aj.refl H,hd,qR,hb,λL pl H1 s1 nL hL hl=>?_⟩;have DB:=(hl.same s1).Ja hL;walk_at "rdt";have Zq:=s1 _ _ gG;refine⟨_,aL.of Zq,_,rfl,_,aL.of Zq,_,rfl,C,p,L,P,fp,s0.1,s0.2,pl,bR ds bg,rfl,hC,hP.same s1,ok,r0,r1,DB,cQ (kM _ _) qR,λd fS=>dc d (wZ.mp fS).1,λH2 s2=>⟨_,.inl (az.of (s2 _ _ hL)),λa na=>?_⟩⟩;have s3:=(s1.trans s2).trans (aj.put (o:=.tup [V.int (kF P s0.1 s0.2 ((bR ds bg).map (·.c))),V.int ((pl.map V.ref).length:Int),V.ref b,V.ref st]) na);refine q a _ s3 ((s1.trans s2).free na) ⟨b,st,?_,s3 _ _ hb,s3 _ _ gG⟩;rw[aE,aM,hl.n];rfl
theorem ama(T:Tx K mg A)(aG:bF mg base A.br A.aX):aY P w K mg base bw 7 A.NH A.NI ["_law_script", "_law_most"] (afN K [A.bK,A.bB] A.bW A.cJ A.aX (qC iA) (qD "nearest_rings")):=by
 have amb:=alK (P:=P) (w:=w) (base:=base) T aG;have pS:=Yv (P:=P) (w:=w) (base:=base) T aG;have amc:=alc (P:=P) (w:=w) (base:=base) T aG;have amd:=al7 (P:=P) (w:=w) (base:=base) T aG;have ame:=alV (P:=P) (w:=w) (base:=base) T aG;have amf:=al2 (P:=P) (w:=w) (base:=base) T aG;refine T.XQ.ok uR (λvs H Q E h=>?_) (λaQ Ar outer s H vs Q E hr h=>?_)
 ·obtain⟨sc,ns,most,rfl,_⟩:=h
  rfl
 ·obtain⟨sc,ns,most,rfl,jC,oq,m1,m7,T0,q⟩:=h;refine⟨_,(aD (aR (i:=2) uR.nd rfl OL_ (aZ amc (hr.mono (by first | decide | lia)) rfl T.ajT T.Xx.kp T.ajS .nil aP (ah (aZ pS (hr.mono (by first | decide | lia)) rfl T.qP T.pL.kp T.qO .nil aP (ah (aa 0) (ah ak au))) (ah (aZ pS (hr.mono (by first | decide | lia)) rfl T.qP T.pL.kp T.qO .nil aP (ah (aa 0) (ah ak au))) au))))
   (aD (aR (i:=3) uR.nd rfl (Or.inr rfl) (aZ amd (hr.mono (by first | decide | lia)) rfl T.ajV T.Xy.kp T.ajU .nil aP (ah (aa 2) (ah (aZ pS (hr.mono (by first | decide | lia)) rfl T.qP T.pL.kp T.qO .nil aP (ah (aa 0) (ah ak au))) au))))
   (aD (aR (i:=4) uR.nd rfl OL_ (aF cS (aZ pS (hr.mono (by first | decide | lia)) rfl T.qP T.pL.kp T.qO .nil aP (ah (aa 0) (ah ak au))) (bX Ca rfl T.dG dU (ah (aH bJ (aa 2) ak (λ_ _=>rfl)) au))))
   (aD (aR (i:=5) uR.nd rfl OL_ (aF cS (aZ pS (hr.mono (by first | decide | lia)) rfl T.qP T.pL.kp T.qO .nil aP (ah (aa 0) (ah ak au))) (aH oW (eW (ah (aF rE ak ak) (ah (aF rE ak ak) au))) (aF cS (aF tM (aZ pS (hr.mono (by first | decide | lia)) rfl T.qP T.pL.kp T.qO .nil aP (ah (aa 0) (ah ak au))) ak) ak) (λ_ _=>rfl))))
   (aD (aR (i:=6) uR.nd rfl OL_ (aZ ame (hr.mono (by first | decide | lia)) rfl T.aj3 T.XD.kp T.aj2 .nil aP (ah (aa 0) (ah (aa 3) (ah (aa 2) (ah (dD (ah (aa 4) (ah (aa 5) au))) (ah (aa 1) au)))))))
   (aD (C7 (i:=7) uR.nd rfl OL_ (N:=["_law_one", "_law_plate_here", "_law_script"]) (nt:=1) (fv:=[3,0]) ‹cN.of› rfl (c_ (aa 6)) (λC s H fp=>(bE (i:=0) (show List.Nodup (["_law_one", "_law_plate_here", "_law_script"]:List Str) by decide +kernel) rfl OL_)) (λC s H fp=>jL) (λC s H fp=>(yE T.akh amb (hr.mono (by first | decide | lia)) rfl T.aki T.aiB .nil aP (ah (aa 1) (ah (aH (kH (K:=K) rfl) (aa 0) ak (λ_ _=>rfl)) (ah (aZ amf (hr.mono (by first | decide | lia)) rfl T.aj5 T.XE.kp T.aj4 .nil aP (ah (aa 0) (ah (aF dW (aZ pS (hr.mono (by first | decide | lia)) rfl T.qP T.pL.kp T.qO .nil aP (ah (aa 2) (ah ak au))) (aH (kH (K:=K) rfl) (aa 0) ak (λ_ _=>rfl))) au))) au))))))
   (aK (bG (dD (ah (aa 2) (ah (aa 3) (ah (aa 4) (ah (aa 5) (ah (aa 6) (ah (aa 7) au))))))))))))))),?_⟩
  wp_walk using kj;refine⟨ns,jC,oq,ns,jC,oq,_,_,rfl,λt z ao sk sw za bA ca sa H1 s1 nt hS ok=>?_⟩;have AA:=s1.seq jC;have T1:=T0.same s1
  try wp_walk using kj
  refine⟨ns,AA,oq,t,z,ao,sk,sw,za,bA,ca,sa,_,rfl,hS,ok,T1,λC p nc fp H2 keep hC hP nk=>?_⟩;have jA:=hS.but T1 keep;have xK:=AA.but T1 keep;clear keep T1 AA hS s1 nt T0;have cl:=rM z λp hp=>(ok.zl.ok.r p hp).1;have H_:=ok.zl.sm;have c2:=ok.zl.ok.s2;have k1:=aL.of (K:=K) jA.o
  try wp_walk using kj
  refine⟨ns,xK,oq,_,k1,_,rfl,ca,rfl,_,.inl (az.of jA.c),by rw[aM];lia,ns,xK,oq,⋯,⋯,λo1 sI=>?_⟩
  rw[aM];have s3:=aj.put (o:=.lst [V.int 10000,V.int 1000000000000]) sI;have AG:upd H2 o1 (.lst [V.int 10000,V.int 1000000000000]) o1=some (.lst [V.int 10000,V.int 1000000000000]):=aE;generalize upd H2 o1 (.lst [V.int 10000,V.int 1000000000000])=H3 at s3 AG ⊢;have r0:=fD (fP ns 3) (show ((counts z).length:Int)≠0 by lia)
  have r1:=fB (fP ns 3) (show 0<((counts z).length:Int) by lia)
  obtain⟨D,hD,D0,D1⟩:∃D:Int,fq [V.int 10000,V.int 1000000000000] (fP ns 3 / 16 % 2)=some (.int D)/\1<=D/\D<=1000000000000:=by
   have h0:=fD (fP ns 3 / 16) (show (2:Int)≠0 by decide)
   have h1:=fB (fP ns 3 / 16) (show (0:Int)<2 by decide)
   have:fP ns 3 / 16 % 2=0\/fP ns 3 / 16 % 2=1:=by lia
   rcases this with e | e <;> rw[e]
   ·exact⟨_,rfl,⋯,⋯⟩
   ·exact⟨_,rfl,⋯,⋯⟩
  refine⟨ns,s3.seq xK,oq,_,az.of AG,_,hD,_,rfl,∅,λsp nsp=>?_⟩
  have b0:=fD (fP ns 4) (show D≠0 by lia)
  have b1:=fB (fP ns 4) (show 0<D by lia)
  generalize fP ns 3 % ((counts z).length:Int)=r at r0 r1 ⊢;generalize fP ns 4 % D=b at b0 b1 ⊢;have s4:=s3.trans (aj.put (o:=.tup [V.int r,V.int b]) nsp);have dF:upd H3 sp (.tup [V.int r,V.int b]) sp=some (.tup [V.int r,V.int b]):=aE;generalize upd H3 sp (.tup [V.int r,V.int b])=H4 at s4 dF ⊢;refine⟨C,sc,p,t,sp,z,ao,sk,sw,za,bA,ca,sa,nc,fp,r,b,most,ns,rfl,s4.seq xK,oq,hC,hP.same s4,nk,jA.same s4,ok,dF,r0,r1,b0,∅,m1,m7,λkl b9 ks H5 s5 nkl hk PM=>?_⟩
  have PN:=s4.trans s5;have hP5:=hP.same PN;have amg:=PN.seq xK;have e7:=hk.n;have n10:=PM.n7;have nn1:=nk.n1;refine i8 kl (b9.map V.ref) (λD2 i ys aC H6=>∃(v:Option V) (ps:List Addr) (ds:List Dr),ys=ps.map V.ref/\aC = [v,some (.ref p),some (.ref sc)]/\aj H5 H6/\H5 D2=none/\qG K A.bW A.cJ H6 D2 ps ds/\ds.length=i/\i<=ks.length/\∀(j:Nat) (k:Kn) (d:Dr),j<i->ks[j]? = some k->ds[j]? = some d->C0 nc k d) (λQ q=>q) hk.sq ?_ ?_ ?_ ?_
  ·intro D2 n_;exact⟨none,[],[],rfl,rfl,aj.put n_,n_,⟨aE,rfl,λi t k e=>by simp at e⟩,rfl,eL _,λj k d h=>absurd h ∅⟩
  ·rintro D2 i ys aC H6 ⟨v,ps,ds,rfl,rfl,s6,nD,hd,dn,di,dk⟩;exact⟨hd.hl,g8 (by rw[aM,hd.n];lia),(hk.same s6).sq⟩
  ·rintro D2 i x ys aC H6 N hN hx ⟨v,ps,ds,rfl,rfl,s6,nD,hd,dn,di,dk⟩;obtain⟨u,hu,rfl⟩:=dY hx;have hi:i<ks.length:=by rw[← e7];exact cT hu
   obtain⟨b',uw,bx,hK⟩:=(hk.same s6).t i u ks[i] hu (bC hi);have AJ:=PM.ok ks[i] (cI hi);have ku:=aL.of (K:=K) hK.o;wp_walk using kj;refine⟨_,ku,_,rfl,ns,s6.seq amg,oq,_,ku,_,rfl,?_⟩
   try wp_walk using kj
   refine⟨u,ks[i],b',uw,bx,_,nc,rfl,hK,AJ,∅,λaq ap mk bb adx H7 sL s7 Pb ha=>?_⟩
   try wp_walk using kj
   intro x dx nx lW fV;have s67:=s6.trans s7;have xC:=hP5.same s67;have AI:=aj.put (o:=.own x) lW;have iR:upd H7 dx (.own x) x=none:=by rw[aI (iC fV)];exact nx
   have lE:=AI.trans (aj.put (o:=.ins A.cJ dx []) iR);obtain⟨op,hop⟩:=xC.here;have xp:x≠p:=(bY hop nx).symm;have xf:x∉fp:=λhb=>by
    obtain⟨ob,hob⟩:=xC.has hb;exact bY hob nx rfl
   have o1:=AJ.m0;have o2:=AJ.m1;refine⟨C,x,p,ap,dx,ks[i].n,bN z ao sk sw nc,fp,aq,mk,bb,adx,rfl,aE,hC,xC.same lE,xp,xf,ha.same lE,⟨by rw[sL.1];exact AJ.f0,by rw[sL.2.1];lia,by rw[sL.2.1];lia,by rw[sL.1,sL.2.1];exact AJ.fit⟩,by show nc.length<=1000000;lia,λl ts H8 nl sb hd8=>⟨rfl,?_⟩⟩
   have PR:aj H6 H8:=λb o e=>sb _ _ (lE _ _ (s7 _ _ e)) (bY (s7 _ _ e) nx);have lD:l≠D2:=(bY (lE _ _ (s7 _ _ hd.hl)) nl).symm;refine⟨PR _ _ hd.hl,hN _ _ _ ⟨_,ps++[x],ds++[_],by rw[bT];rfl,rfl,aj.put2 (s6.trans PR) nD,nD,(hd.same PR).snoc hd8 lD,by simp[dn],∅,λj k d hj e1 e2=>?_⟩⟩
   by_cases kD:j<i
   ·rw[d9 ∅] at e2
    exact dk j k d kD e1 e2
   ·have:j=i:=by lia
    subst this;rw[bC hi] at e1;rw[d_ ∅,dn,Bq] at e2
    cases e1;cases e2;exact⟨rfl,sL,by show gm nc aq.first aq.many=_;rw[sL.1,sL.2.1]⟩
  ·rintro D2 ys aC H6 ⟨v,ps,ds,rfl,rfl,s6,nD,hd,dn,di,dk⟩;rw[aM,e7] at dn;intro tt ntt;have s7:=aj.put (o:=.tup [V.ref t,V.ref p,V.int r,V.int b,V.ref kl,V.ref D2]) ntt;have sG:=(PN.trans s6).trans s7;refine q tt t p r b kl D2 z ao sk sw nc ks ds _ aE (sG.seq xK) ⟨⟨za,bA,ca,sa,jA.same sG⟩,ok,⟨C,fp,hC,hP.same sG⟩,nk,r0,r1,b0,∅,⟨b9,(hk.same s6).same s7⟩,PM,⟨ps,hd.Ja.same s7⟩,dn,λj k d e1 e2=>dk j k d ?_ e1 e2⟩
   rw[aM,e7];exact cT e1
theorem amh(T:Tx K mg A)(aG:bF mg base A.br A.aX):aY P w K mg base bw 8 A.Mh A.Mi ["heap", "plate", "dues", "kept", "node"] (agC K [A.bK,A.bB] A.bW A.cJ):=by
 have ami:=akH (P:=P) (w:=w) (base:=base) T aG;have Pz:=Zk (P:=P) (w:=w) (base:=base) T aG;have amj:=ak4 (P:=P) (w:=w) (base:=base) T aG;have PU:=Zp (P:=P) (w:=w) (base:=base) T aG;refine T.Xa.ok zP (λvs H Q E h=>?_) (λaQ Ar outer s H vs Q E hr h=>?_)
 ·obtain⟨C,hp,p,l,kd,a,P,fp,ps,ds,aA,bg,s0,zs,H0,rfl,_⟩:=h
  rfl
 ·obtain⟨C,hp,p,l,kd,a,P,fp,ps,ds,aA,bg,s0,zs,H0,rfl,s1,fh,hC,hP,ok,r0,r1,hd,n7,dc,hk,⟨pb,pq,ha,hb,hq⟩,hz,hf,hzn,hbn,q⟩:=h;refine⟨_,(aD (aR (i:=5) zP.nd rfl OL_ (aH bJ (aa 4) ak (λ_ _=>rfl)))
   (aD (aR (i:=6) zP.nd rfl OL_ (aH bJ (aa 4) ak (λ_ _=>rfl)))
   (aK (cV cL rfl (c_ (aZ amj (hr.mono (by first | decide | lia)) rfl T.aiP T.W6.kp T.aiO .nil aP (ah (aa 2) (ah (aa 3) (ah (aa 5) au))))) (bE (i:=7) zP.nd rfl OL_)
   (aD (aR (i:=8) zP.nd rfl OL_ (aZ Pz (hr.mono (by first | decide | lia)) rfl T.WY T.NT.kp T.WX .nil aP (ah (aa 1) (ah (aH bJ (aa 6) ak (λ_ _=>rfl)) (ah (aH bJ (aa 6) ak (λ_ _=>rfl)) (ah (cD (aa 7) rfl) au))))))
   (aK (dP (aZ ami (hr.mono (by first | decide | lia)) rfl T.air T.WN.kp T.aiq .nil aP (ah (aa 0) (ah (aZ PU (hr.mono (by first | decide | lia)) rfl T.W_ T.NV.kp T.W9 .nil aP (ah (aa 1) (ah (aa 2) (ah (aF Vw (aa 5) (dD (ah (cD (aa 7) rfl) au))) (ah (aa 8) au))))) au)))))))))),?_⟩
  walk_at "rdt";refine⟨_,aL.of ha,_,rfl,_,aL.of ha,_,rfl,?_⟩;refine wB ?_;walk_at "rdt";refine⟨l,kd,pb,ps,ds,aA,bg,H0,rfl,s1,hd,∅,hk,hb,λD pd H1 s2 nD hD rZ=>⟨D,rfl,?_⟩⟩
  have PV:=s1.trans s2;have nDh:D≠hp:=λz=>by rw[z,hz.l] at nD;cases nD
  have jY:=rZ.n;have nM:H1 pb=some (.tup (bg.map V.int)):=s2 _ _ hb;have hq2:H1 pq=some (.tup [.int s0.1,.int s0.2]):=s2 _ _ hq;have xB:bg.length<=100:=hbn;have nx7:(g9 ds bg).length<=7:=cQ (kM _ _) (cQ (kM _ _) n7);refine qu.by D (pd.map V.ref) (λi σ H'=>∃(x y:Option V) (cZ:Ms),σ = [some (V.ref hp),some (V.ref p),some (V.ref l),some (V.ref kd),some (V.ref a),some (V.ref pb),some (V.ref pq),x,y]/\aj H0 H'/\H' D=some (.lst (pd.map V.ref))/\H' pb=some (.tup (bg.map V.int))/\H' pq=some (.tup [.int s0.1,.int s0.2])/\fX H' hp cZ/\jt gq cZ.length (fm cZ)/\(cZ.map (·.2)).Perm (((g9 ds bg).take i).map (λd=>dw P ds (bg++[d.n]) (a_ P s0 d.c))++zs.map (·.2))) (az.of hD) ⟨none,none,zs,rfl,PV,hD,nM,hq2,hz.same s2,hf,by simp⟩ (by rintro i σ H' _ ⟨x,y,cZ,rfl,_,h,_⟩;exact az.of h) ?_ ?_
  ·rintro i x σ H' N hN hx ⟨x0,y0,cZ,rfl,g1,g2,g3,g4,g5,g6,g7⟩;obtain⟨dp,kJ,rfl⟩:=dY hx;have hi:i<(g9 ds bg).length:=by rw[← jY];exact cT kJ
   obtain⟨dx,ap,la,ts,m,b',cu,Zr⟩:=rZ.t i dp (g9 ds bg)[i] kJ (bC hi);have tk:=take_succ_get (bC hi);have hm:=(rY.mp (cI hi)).1.1;have zl:cZ.length<=zs.length+7:=by
    have:=g7.length_eq;simp only[List.length_map,List.length_append,List.length_take] at this;lia
   generalize (g9 ds bg)[i] = d at *
   obtain⟨c1,c2⟩:=dc d hm;have eZ:=g1 _ _ Zr.o;unfold qF at eZ;wp_walk using T,eZ;refine⟨_,aL.of g4,_,rfl,_,aL.of g4,_,rfl,C,p,P,fp,s0.1,s0.2,la,ts,d.c,rfl,hC,hP.same g1,ok,r0,r1,(Zr.same g1).c,c1,c2,λt H3 s3 nt ht=>?_⟩;have amk:=s3 _ _ eZ;wp_walk using T,amk;intro p1 iR;have s4:=s3.trans (aj.put (o:=.tup [V.int d.n]) iR);refine⟨_,aL.of (s4 _ _ g3),by simp,?_,λpn H5 s5 hpn=>?_⟩
   ·have nb:bg.length<=100:=xB;rw[aM];lia
   have xM:=s4.trans s5;have AK:=g1.trans xM;have aml:H5 t=some (.tup [.int (a_ P s0 d.c).1,.int (a_ P s0 d.c).2]):=s5 _ _ (aj.put iR _ _ ht);have en:=k_ P (n:=P.rc.length) d.c s0 r0 r1 (λq hq=>⟨(c1 q hq).1,(c1 q hq).2.1⟩);refine⟨C,p,l,pn,t,P,fp,ps,ds,bg++[d.n],a_ P s0 d.c,rfl,hC,hP.same AK,ok,en.1,en.2,hd.same AK,∅,dc,by rw[hpn];simp,aml,λa2 H6 s6 YL Zu=>?_⟩
   have pT:=xM.trans s6;have xO:=g5.same pT;refine⟨hp,a2,dw P ds (bg++[d.n]) (a_ P s0 d.c),cZ,rfl,xO,∅,Zu,g6,λEA pz V_=>?_⟩
   have gz:=EA;refine hN _ _ ⟨_,_,EA,rfl,aj.put2 (g1.trans pT) fh,?_,?_,?_,⟨aE,af8 pz (VA (x:=(a2,_)) (Zu.fT xO.l) (xO.z.fT xO.l)),by rw[pz.length_eq];simp only[List.length_cons];lia⟩,V_,?_⟩
   ·rw[aI nDh];exact pT _ _ g2
   ·have:=pT _ _ g3;rw[aI (λz=>by rw[z,xO.l] at this;cases this)];exact this
   ·have:=pT _ _ g4;rw[aI (λz=>by rw[z,xO.l] at this;cases this)];exact this
   ·rw[tk,bT,pY];refine(pz.map λz:Addr×Nd=>z.2).trans ?_;rw[cH];exact(g7.cons _).trans (List.perm_middle.symm)
  ·rintro σ H' ⟨x0,y0,cZ,rfl,g1,g2,g3,g4,g5,g6,g7⟩;rw[aM,jY,c9] at g7;exact q cZ H' g1 g5 g6 g7
theorem amm(T:Tx K mg A)(aG:bF mg base A.br A.aX):aY P w K mg base bw 9 A.Mj A.Ml ["plate", "ring", "beat", "dues"] (ahB K [A.bK,A.bB] A.bW A.cJ):=by
 have amn:=ali (P:=P) (w:=w) (base:=base) T aG;have amo:=ak0 (P:=P) (w:=w) (base:=base) T aG;have amq:=alq (P:=P) (w:=w) (base:=base) T aG;have PU:=Zp (P:=P) (w:=w) (base:=base) T aG;have amr:=amh (P:=P) (w:=w) (base:=base) T aG;refine T.Xb.ok xr (λvs H Q E h=>?_) (λaQ Ar outer s H vs Q E hr h=>?_)
 ·obtain⟨C,p,l,P,fp,r,b,ps,ds,rfl,_⟩:=h
  rfl
 ·obtain⟨C,p,l,P,fp,r,b,ps,ds,rfl,hC,hP,ok,r0,r1,hd,n7,nd,dc,q⟩:=h;have l6:∀d∈ds,∀q∈d.c,0<=q.1/\q.1<(P.rc.length:Int):=λd hd q hq=>⟨((dc d hd).1 q hq).1,((dc d hd).1 q hq).2.1⟩;refine⟨_,(aD (dP (aZ amo (hr.mono (by first | decide | lia)) rfl T.aiJ T.W0.kp T.aiI .nil aP (ah (aa 3) au)))
   (aD (aR (i:=4) xr.nd rfl OL_ (aZ amq (hr.mono (by first | decide | lia)) rfl T.aiN T.W3.kp T.aiM .nil aP (ah (aa 3) au)))
   (aD (aR (i:=5) xr.nd rfl OL_ (eW au))
   (aD (aR (i:=6) xr.nd rfl OL_ (aZ PU (hr.mono (by first | decide | lia)) rfl T.W_ T.NV.kp T.W9 .nil aP (ah (aa 0) (ah (aa 3) (ah (dD au) (ah (dD (ah (aa 1) (ah (aa 2) au))) au))))))
   (aD (Gk cL (dB kQ (aH bJ (aa 6) ak (λ_ _=>rfl)) ak (bL _))
   (aD (dP (aZ amr (hr.mono (by first | decide | lia)) rfl T.aiV T.Xa.kp T.aiU .nil aP (ah (aa 5) (ah (aa 0) (ah (aa 3) (ah (aa 4) (ah (aa 6) au)))))))
   (aK (aR (i:=6) xr.nd rfl OL_ (aZ amn (hr.mono (by first | decide | lia)) rfl T.ait T.WO.kp T.ais .nil aP (ah (aa 5) au))))))
   (aD (C7 (i:=7) xr.nd rfl OL_ (N:=["other"]) (nt:=1) (fv:=[]) ‹cN.of› rfl (c_ (aF yL (eW (ah (aa 6) au)) (aa 5))) (λC s H fp=>(bE (i:=0) (show List.Nodup (["other"]:List Str) by decide +kernel) rfl OL_)) (λC s H fp=>jL) (λC s H fp=>(dD (ah (aH (kH (K:=K) rfl) (aa 0) ak (λ_ _=>rfl)) (ah (aH (kH (K:=K) rfl) (aa 0) ak (λ_ _=>rfl)) au)))))
   (aK (bG (dD (ah (aH bJ (aa 6) ak (λ_ _=>rfl)) (ah (aH bJ (aa 6) ak (λ_ _=>rfl)) (ah (aa 7) au)))))))))))),?_⟩
  walk_at "rdt";refine⟨l,ps,ds,rfl,hd,n7,?_⟩;walk_at "rdt";refine⟨l,ps,ds,rfl,hd,∅,nd,λkd aA H0 s0 An hk=>?_⟩
  walk_at "rdt";intro hp PX pe npe xP ams;have sA:=aj.put (o:=.lst []) PX;have sB:=aj.put (o:=.tup []) npe;have sC:=aj.put (o:=.tup [V.int r,V.int b]) ams;have Zv:=(sA.trans sB).trans sC;have eh:upd (upd (upd H0 hp (.lst [])) pe (.tup [])) xP (.tup [V.int r,V.int b]) hp=some (.lst []):=sC _ _ (sB _ _ aE);have ee:upd (upd (upd H0 hp (.lst [])) pe (.tup [])) xP (.tup [V.int r,V.int b]) pe=some (.tup []):=sC _ _ aE;have es:upd (upd (upd H0 hp (.lst [])) pe (.tup [])) xP (.tup [V.int r,V.int b]) xP=some (.tup [V.int r,V.int b]):=aE;generalize upd (upd (upd H0 hp (.lst [])) pe (.tup [])) xP (.tup [V.int r,V.int b])=H1 at *
  have s1:=s0.trans Zv;refine⟨C,p,l,pe,xP,P,fp,ps,ds,[],(r,b),rfl,hC,hP.same s1,ok,r0,r1,hd.same s1,∅,dc,ee,es,λa H2 s2 na hn=>?_⟩
  have PV:=Zv.trans s2;have hp0:=hP.same s0;have hd0:=hd.same s0;have jB:fX H2 hp []:=⟨s2 _ _ eh,λ_ h=>(nomatch h),eL _⟩;have hw:jd 7=13700:=by decide
  refine⟨λm σ H'=>∃(a:Addr) (t:Nd) (zs:Ms),m=gR (t::zs.map (·.2))/\σ = [some (V.ref p),some (V.int r),some (V.int b),some (V.ref l),some (V.ref kd),some (V.ref hp),some (V.ref a),none]/\aj H0 H'/\fX H' hp zs/\jt gq zs.length (fm zs)/\gQ H' a t/\jU P ds (r,b) t (zs.map (·.2))/\m<=13700/\Apart (t::zs.map (·.2)),⟨_,a,dw P ds [] (r,b),[],rfl,rfl,PV,jB,λi _ h=>absurd h (by simp),hn,jU.start P ds (r,b),?_,List.pairwise_singleton ..⟩,?_⟩
  ·rw[← hw];have e:gR (dw P ds [] (r,b)::([]:Ms).map (·.2))=jd ds.length:=by simp[gR,dw,Dc]
   rw[e];exact ags n7
  ·rintro m σ H3 ⟨a3,t,zs,rfl,rfl,g1,g2,g3,g4,g5,g6,g7⟩;obtain⟨bg,st,zJ,rfl⟩:=g5.nd _ (b8 ..);have g4':=g4;obtain⟨pb,pq,h1,h2,h3⟩:=g4';walk_at "rdt";have tl:=VI (dw P ds bg st::zs.map (·.2));rw[dR,aM] at tl;refine⟨_,aL.of h1,_,rfl,_,rfl,cF (λh0=>?_) λh0=>?_⟩
   ·have hl:bR ds bg≠[]:=λz=>by
     have h0:(0:Int)<((bR ds bg).length:Int):=h0;rw[z] at h0;simp at h0
    have qI:=zJ.qI l6 r0 r1;have bl:=zJ.len nd;refine⟨_,λ_ _ h=>h,C,hp,p,l,kd,a3,P,fp,ps,ds,aA,bg,st,zs,H0,rfl,g1,PX,hC,hp0,ok,qI.1,qI.2,hd0,n7,dc,hk,g4,g2,g3,∅,∅,λEA H4 s4 xQ hf4 pm=>?_⟩
    refine⟨hp,EA,rfl,xQ,hf4,λe=>?_,λz cZ pz lo hf5=>?_⟩
    ·rw[e] at pm;have:=List.length_pos_iff.mpr (agm hl);have:=pm.length_eq;unfold uE at this;simp at this;lia
    ·obtain⟨I2,Df⟩:=g5.step nd zJ hl pm (pz.map λz:Addr×Nd=>z.2) (λy hy=>by
      obtain⟨w,hw,rfl⟩:=dh.mp hy;exact lo w hw)
     have hzs:iO H4 cZ:=λw hw=>xQ.z w (pz.mem_iff.mpr (bU _ hw));have ln:=xQ.n;have ln2:=pz.length_eq;rw[dR] at ln2;exact⟨_,Df,z.1,z.2,cZ,rfl,rfl,aj.put2 s4 PX,⟨aE,hzs.fT xQ.l,∅⟩,hf5,(xQ.z z (pz.mem_iff.mpr (b8 ..))).fT xQ.l,I2,∅,((g7.step nd).perm pm.symm).perm (pz.map λz:Addr×Nd=>z.2)⟩
   ·refine agD ?_;walk_at "rdt";intro o1 sI;have n1:hp≠o1:=bY g2.l sI;have t1:=aj.put (o:=.lst [V.ref a3]) sI;refine⟨mV zs,by rw[aI n1];exact g2.l,by rw[jx];lia,λo2 Po=>?_⟩
    have t2:=aj.put (o:=.lst (V.ref a3::mV zs)) Po;have PY:=t1.trans t2;have gZ:upd (upd H3 o1 (.lst [V.ref a3])) o2 (.lst (V.ref a3::mV zs)) o2=some (.lst (mV ((a3,dw P ds bg st)::zs))):=aE;have Zw:=g4.same PY;have g25:iO (upd (upd H3 o1 (.lst [V.ref a3])) o2 (.lst (V.ref a3::mV zs))) ((a3,dw P ds bg st)::zs):=VA (x:=(a3,dw P ds bg st)) Zw (g2.z.same PY);have AK:=g1.trans PY;have zl:((a3,dw P ds bg st)::zs).length<=13701:=by rw[dR];lia
    have h0:(dw P ds bg st).2.1<=0:=by lia
    generalize upd (upd H3 o1 (.lst [V.ref a3])) o2 (.lst (V.ref a3::mV zs))=H5 at *
    refine i8 o2 (mV ((a3,dw P ds bg st)::zs)) (λD i ys aC H6=>∃(u:Option V) (cO:List Addr),ys=cO.map V.ref/\aC = [u]/\H6 D=some (.lst ys)/\aj H5 H6/\H5 D=none/\pJ H6 cO ((((a3,dw P ds bg st)::zs).map (·.2)).take i)) (λQ q=>q) (az.of gZ) ?_ ?_ ?_ ?_
    ·intro D hD;exact⟨none,[],rfl,rfl,aE,aj.put hD,hD,⟨rfl,λi a u e=>nomatch e⟩⟩
    ·rintro D i ys aC H6 ⟨u,cO,rfl,rfl,f1,f2,f3,f4⟩;refine⟨f1,C_ ?_,az.of (f2 _ _ gZ)⟩;have:=f4.n;rw[dH,aM] at this;rw[aM];lia
    ·rintro D i x ys aC H6 N hN hx ⟨u,cO,rfl,rfl,f1,f2,f3,f4⟩;have hi:i<((a3,dw P ds bg st)::zs).length:=by have:=cT hx;rwa [jx] at this
     rw[Vx hi] at hx;cases hx;obtain⟨EB,pq2,k1,k2,k3⟩:=(g25 _ (cI hi)).same f2;walk_at "rdt";refine⟨_,aL.of k1,_,rfl,_,aL.of k1,_,rfl,λc nc=>?_⟩;have s7:=aj.put (o:=.tup [V.ref EB,V.int (((a3,dw P ds bg st)::zs)[i]).2.1]) nc;refine⟨s7 _ _ f1,hN _ _ _ ⟨_,cO++[c],by simp,rfl,aE,aj.put2 (f2.trans s7) f3,f3,?_⟩⟩
     rw[take_succ_get (show (((a3,dw P ds bg st)::zs).map (·.2))[i]? = some (((a3,dw P ds bg st)::zs)[i]).2 by rw[jZ,bC hi];rfl)]
     exact((f4.same s7).snoc aE (s7 _ _ k2)).fT (s7 _ _ f1)
    ·rintro D ys aC H6 ⟨u,cO,rfl,rfl,f1,f2,f3,f4⟩;rw[jx,qX (by rw[aM];exact bu _)] at f4
     obtain⟨EB,pq2,k1,k2,k3⟩:=Zw.same f2;refine⟨_,aL.of k1,_,rfl,_,aL.of k1,_,rfl,λc nc=>?_⟩;have s7:=aj.put (o:=.tup [V.ref EB,V.int (dw P ds bg st).1,V.ref D]) nc;have Zx:=f4.same s7;exact q c EB D cO (dw P ds bg st) (zs.map λz:Addr×Nd=>z.2) _ ((s0.trans AK).trans (f2.trans s7)) ((s0.trans AK).free f3) aE (s7 _ _ k2) ⟨s7 _ _ f1,Zx.n,Zx.t⟩ g5 g7 h0
theorem amt(T:Tx K mg A)(aG:bF mg base A.br A.aX):∀n,aY P w K mg base bw (n+3) A.DP A.DQ ["_law_known_here", "_law_begun", "_law_ends", "_law_met"] (Wr K n):=by
 have O7:=YE (P:=P) (w:=w) (base:=base) T aG;have As:=OL (P:=P) (w:=w) (base:=base) T aG;intro n
 induction n with
 | zero=>exact⟨λ_ _ _ _ ⟨_,_,_,_,_,_,_,_,_,_,_,_,z,_⟩=>absurd z (Nat.not_lt_zero _),λ_ _ _ _ _ _ _ _ _ _ _ _ _ ⟨_,_,_,_,_,_,_,_,_,_,_,_,z,_⟩=>absurd z (Nat.not_lt_zero _)⟩
 | succ n ih =>
  refine T.Od.ok Li (λvs H Q E h=>?_) (λaQ Ar outer s H vs Q E hr h=>?_)
  ·obtain⟨kl,pb,ea,ma,b9,ks,bg,zs,ys,H0,m,rfl,_⟩:=h
   rfl
  ·obtain⟨kl,pb,ea,ma,b9,ks,bg,zs,ys,H0,m,rfl,hm,s0,n0,hk,k7,up,hb,bn,he,zn,hz,em,u7,yn,cv,q⟩:=h;have jX:_+16<cLine:=oE (qb (by decide:16<=64) _) hr.units
   have e7:=hk.n;refine⟨_,(aD (cU (dB (afh jX) (aa 1) (aa 2) rfl) (aD (dP (kX j8 lG lH kY (aa 3) (ah (aa 1) au)))
   (aK (bG gb))) bZ)
   (aD (aR (i:=4) Li.nd rfl OL_ (aZ As (hr.mono (by first | decide | lia)) rfl T.Oa T.Ed.kp T.N_ .nil aP (ah (aa 0) (ah (aa 1) au))))
   (aD (cV cL rfl (c_ (aZ O7 (hr.mono (by first | decide | lia)) rfl T.XH T.N7.kp T.XG .nil aP (ah (aa 4) au))) (bE (i:=5) Li.nd rfl OL_)
   (aK (cU (iV (gC (aZ ih (hr.mono (by first | decide | lia)) rfl T.XT T.Od.kp T.XS .nil aP (ah (aa 0) (ah (aF Vw (aa 1) (dD (ah (aa 5) au))) (ah (aa 2) (ah (aa 3) au))))))) (aK (bG gb)) bZ)))
   (aK (bG (iX (ahs jX) (aa 4) (eW au) (bL _))))))),?_⟩
   walk_at "rdt";refine⟨bg,hb,zs,az.of he,hz,cF (λh0=>?_) λh0=>?_⟩
   ·have e1:=ahx (ks:=ks) m h0;exact⟨⟨ys,az.of u7⟩,ys,u7,∅,q _ (ys++[.ref pb]) (λb o nb e=>by rw[aI nb];exact e) aE (by rw[e1,e_];rfl)⟩
   ·cases m with
    | zero=>exact absurd cv h0
    | succ m =>
    rcases cv with z | ⟨cw,cf⟩
    ·exact absurd z h0
    have hkH:=hk.same s0;have wl:(eK ks bg).length<=ks.length:=kM _ _;refine⟨kl,pb,b9,ks,bg,rfl,hkH,∅,hb,λW Zy H1 s1 nW hW=>?_⟩
    refine wB ?_;walk_at "rdt";refine⟨W,Zy,eK ks bg,rfl,hW,∅,λD H2 s2 nD hD=>⟨D,rfl,?_⟩⟩
    have ou:=s1.trans s2;have nDm:D≠ma:=(bY (s1 _ _ u7) nD).symm;have nWm:W≠ma:=(bY u7 nW).symm;have em':nY ks (zs.map (·.2)) (m+1) bg=((jR (eK ks bg)).map λx=>nY ks (zs.map (·.2)) m (bg++[x])).sum:=if_neg h0;rw[em'] at yn q;refine qu.by D ((jR (eK ks bg)).map V.int) (λi σ H'=>∃(x:Option V) (iy:List V),σ = [some (.ref kl),some (.ref pb),some (.ref ea),some (.ref ma),some (.ref W),x]/\Wq ma H2 H'/\H' ma=some (.lst iy)/\iy.length=ys.length+(((jR (eK ks bg)).take i).map λx=>nY ks (zs.map (·.2)) m (bg++[x])).sum) (az.of hD) ⟨none,ys,rfl,λ_ _ _ e=>e,ou _ _ u7,by simp⟩ (by rintro i σ H' _ ⟨x,iy,rfl,g1,_⟩;exact az.of (g1 _ _ nDm hD)) ?_ ?_
    ·rintro i' x σ H' N hN hx ⟨x0,iy,rfl,g1,g2,g3⟩;obtain⟨mm,Zz,rfl⟩:=dY hx;walk_at "rdt";have nbm:pb≠ma:=λz=>by rw[z,u7] at hb;cases hb
     have iY:=g1 _ _ nbm (ou _ _ hb);intro pm npm;have k1:=aj.put (o:=.tup [V.int mm]) npm;refine⟨bg.map V.int,aL.of (k1 _ _ iY),by simp,by rw[List.length_map];lia,λp2 H3 s3 h3=>?_⟩
     have k2:=k1.trans s3;have tk:=take_succ_get Zz;have mem:mm∈jR (eK ks bg):=g_ Zz;have sl:=ahw (λx=>nY ks (zs.map (·.2)) m (bg++[x])) (jR (eK ks bg)) (i' + 1);rw[tk,bT,xW,List.map_singleton,List.sum_singleton] at sl;refine⟨kl,p2,ea,ma,b9,ks,bg++[mm],zs,iy,H0,m,rfl,∅,λb o e=>k2 _ _ (g1 _ _ (λz=>by rw[z,n0] at e;cases e) (ou _ _ (s0 _ _ e))),n0,hk,k7,up,by rw[h3,bT];rfl,by rw[e_];show bg.length+1+m<=7;lia,k2 _ _ (g1 _ _ em (ou _ _ he)),zn,λz kK=>k2 _ _ (g1 _ _ (λe=>by have:=hz z kK;rw[e,u7] at this;cases this) (ou _ _ (hz z kK))),em,k2 _ _ g2,∅,cf mm mem,λH4 ys2 x4 h4 e4=>⟨true,rfl,ite_no (by simp) (hN _ _ ⟨_,ys2,rfl,λb o nb e=>x4 b o nb (k2 _ _ (g1 _ _ nb e)),h4,?_⟩)⟩⟩
     rw[e4,g3,tk,bT,xW,List.map_singleton,List.sum_singleton];lia
    ·rintro σ H' ⟨x0,iy,rfl,g1,g2,g3⟩;rw[aM,c9] at g3;walk_at "rdt";intro p np;refine⟨Zy.map V.ref,az.of (aj.put np _ _ (g1 _ _ nWm (s2 _ _ hW.l))),az.of aE,λz=>cw ?_,q _ iy (λb o nb e=>aj.put np _ _ (g1 _ _ nb (ou _ _ e))) (aj.put np _ _ g2) g3⟩;have:=hW.n;rw[List.map_eq_nil_iff.mp z] at this;exact Fg.mp this.symm
theorem amu(T:Tx K mg A)(aG:bF mg base A.br A.aX):aY P w K mg base bw 11 A.DP A.DQ ["_law_known_here", "_law_begun", "_law_ends", "_law_met"] (Wr K 8):=(amt T aG 8).mono ⋯
theorem amv(T:Tx K mg A)(aG:bF mg base A.br A.aX):aY P w K mg base bw 12 A.NO A.NP ["_law_script"] (CV K [(A.br,A.aX)]):=by
 have amw:=amm (P:=P) (w:=w) (base:=base) T aG;have Am:=OJ (P:=P) (w:=w) (base:=base) T aG;have As:=OL (P:=P) (w:=w) (base:=base) T aG;have ZA:=alE (P:=P) (w:=w) (base:=base) T aG;have amx:=alF (P:=P) (w:=w) (base:=base) T aG;have amy:=ama (P:=P) (w:=w) (base:=base) T aG;have amz:=alG (P:=P) (w:=w) (base:=base) T aG;have amA:=amu (P:=P) (w:=w) (base:=base) T aG;have amB:=alH (P:=P) (w:=w) (base:=base) T aG;refine T.akf.ok lA (λvs H Q E h=>?_) (λaQ Ar outer s H vs Q E hr h=>?_)
 ·obtain⟨a,ns,rfl,_⟩:=h
  rfl
 ·obtain⟨a,ns,rfl,hS,hl,tabs,q⟩:=h;have tab:=tabs (A.br,A.aX) (by simp)
  have Au:=hr.Sj;refine⟨_,(aD (tw (aZ amy (hr.mono (by first | decide | lia)) rfl T.aka T.XQ.kp T.aj_ .nil aP (ah (aa 0) (ah ak au))) (j_ rfl (dz (bE (i:=1) lA.nd rfl OL_) (dz (bE (i:=2) lA.nd rfl OL_) (dz (bE (i:=3) lA.nd rfl OL_) (dz (bE (i:=4) lA.nd rfl OL_) (dz (bE (i:=5) lA.nd rfl OL_) (dz (bE (i:=6) lA.nd rfl OL_) jH))))))))
   (aD (aR (i:=7) lA.nd rfl OL_ (aZ amw (hr.mono (by first | decide | lia)) rfl T.aiX T.Xb.kp T.aiW .nil aP (ah (aa 2) (ah (aa 3) (ah (aa 4) (ah (aa 6) au))))))
   (aD (cU (PW.pt (gF (iV (gC (bX wz rfl T.sr vA (ah (aa 7) (ah (vL (v:=.ty "tuple") rfl T.su vB rfl) au))))) (gF (eE zM (bX eT rfl T.dG dU (ah (aa 7) au)) ak (bL _)) (iF (iV (gC (aZ amx (hr.mono (by first | decide | lia)) rfl T.aj9 T.XO.kp T.aj8 .nil aP (ah (aH bJ (aa 7) ak (λ_ _=>rfl)) (ah (aa 5) au))))))))) (aK (bG gb)) bZ)
   (aD (cU (PW.pt (gF (iV (gC (aZ Am (hr.mono (by first | decide | lia)) rfl T.N9 T.Ec.kp T.N8 .nil aP (ah (aH bJ (aa 7) ak (λ_ _=>rfl)) au)))) (iF (dB vR (aH tW (aZ ZA (hr.mono (by first | decide | lia)) rfl T.XJ T.Ob.kp T.XI .nil aP (ah (aa 1) (ah (aa 3) (ah (aa 4) (ah (aa 5) (ah (aH bJ (aa 7) ak (λ_ _=>rfl)) au)))))) ak (λ_ _=>rfl)) (aH bJ (aa 7) ak (λ_ _=>rfl)) (bL _))))) (aK (bG gb)) bZ)
   (aD (aR (i:=8) lA.nd rfl OL_ (aH bJ (aa 7) ak (λ_ _=>rfl)))
   (aD (cU (iV (gC (aZ amz (hr.mono (by first | decide | lia)) rfl T.akc T.XR.kp T.akb .nil aP (ah (aa 8) au)))) (aK (bG gb)) bZ)
   (aD (aR (i:=9) lA.nd rfl OL_ (eW au))
   (aD (cU (PW.pt (gF (iV (gC (aZ amA (hr.mono (by first | decide | lia)) rfl T.XT T.Od.kp T.XS .nil aP (ah (aa 5) (ah (dD au) (ah (gP (N:=["_law_leaf"]) (nt:=1) (fv:=[]) ‹cN.of› rfl (c_ (aa 8)) (λC s H fp=>(bE (i:=0) (show List.Nodup (["_law_leaf"]:List Str) by decide +kernel) rfl OL_)) (λC s H fp=>jL) (λC s H fp=>(aH (kH (K:=K) rfl) (aa 0) ak (λ_ _=>rfl)))) (ah (aa 9) au))))))) (iF (eE zM (bX eT rfl T.dG dU (ah (aa 9) au)) (bX eT rfl T.dG dU (ah (aa 8) au)) (bL _))))) (aK (bG gb)) bZ)
   (aD (cV cL rfl (c_ (aa 8)) (j_ rfl (dz (bE (i:=10) lA.nd rfl OL_) (dz (bE (i:=11) lA.nd rfl OL_) jH)))
   (aD (aR (i:=12) lA.nd rfl OL_ (aZ ZA (hr.mono (by first | decide | lia)) rfl T.XJ T.Ob.kp T.XI .nil aP (ah (aa 1) (ah (aa 3) (ah (aa 4) (ah (aa 5) (ah (aa 10) au)))))))
   (aK (cU (PW.pt (gF (dB vR (aa 11) (aZ amB (hr.mono (by first | decide | lia)) rfl T.ake T.XU.kp T.akd .nil aP (ah (aa 1) (ah (aa 12) (ah (aZ As (hr.mono (by first | decide | lia)) rfl T.Oa T.Ed.kp T.N_ .nil aP (ah (aa 5) (ah (aa 10) au))) au)))) (bL _)) (iF (dB gH (aa 11) (aH bJ (aa 7) ak (λ_ _=>rfl)) (bL _))))) (aK (bG gb)) bZ))))
   (aK (bG gb))))))))))),?_⟩
  walk_at "rdt";refine⟨a,ns,5,rfl,hS,hl,⋯,⋯,⟨#[],tab,trivial,.inl rfl⟩,λt sa p r b kl dl z ao sk sw nc ks ds H1 ht jC st=>?_⟩
  try walk_at "rdt"
  refine⟨_,aL.of ht,rfl,_,_,rfl,_,_,rfl,_,_,rfl,_,_,rfl,_,_,rfl,_,_,rfl,rfl,?_⟩
  replace st:=st.lw
  obtain⟨b9,hk⟩:=st.kn;obtain⟨ps,hd⟩:=st.du;obtain⟨za,bA,ca,uz,dF⟩:=st.sp;obtain⟨C,fp,hC,hP⟩:=st.pl;have n7:=st.n7;have kd:=st.kd;have pk:=st.wo.pl nc;have dc:∀d∈ds,iJ (bN z ao sk sw nc) d.c/\d.c.length<=1000:=λd fS=>by
   obtain⟨i,k,e1,e2⟩:=kd.at fS;have:=st.kc k (get_mem e1);rw[(kd.e i k d e1 e2).2];exact⟨this.1,∅⟩
  have l6:∀d∈ds,∀q∈d.c,0<=q.1/\q.1<((bN z ao sk sw nc).rc.length:Int):=λd hd q hq=>⟨((dc d hd).1 q hq).1,((dc d hd).1 q hq).2.1⟩
  try walk_at "rdt"
  refine⟨C,p,dl,bN z ao sk sw nc,fp,r,b,ps,ds,rfl,hC,hP,pk,st.r0,st.r1,hd,by rw[kd.n];exact n7,kd.nd,dc,λu pb lv cO t2 hp H4 s4 nlv hu ZC hlv I ap h0=>?_⟩
  have W:=I.done pk l6 st.r0 st.r1 kd.nd h0;obtain⟨b7,uF,e2⟩:=W.r
  try walk_at "rdt"
  refine⟨_,.tup hu,true,rfl,ite_no (by simp) ⟨_,.inr (aL.of hu),ite_no (by simp) ⟨_,aL.of hu,_,rfl,pb,kl,b9,ks,_,rfl,ZC,hk.same s4,∅,kd.up,kd.ord uF W.f,λH5 s5=>⟨_,rfl,ite_no (by simp) ?_⟩⟩⟩⟩
  have PZ:=s5 _ _ hu;refine⟨_,aL.of PZ,_,rfl,t2.1,rfl,_,rfl,ite_no (by simp) ⟨_,aL.of PZ,_,rfl,?_⟩⟩
  have xM:=s4.trans s5;refine⟨sa,kl,pb,z,ao,sk,sw,za,bA,ca,uz,r,b,b9,ks,t2.2.2.1,rfl,dF.same xM,st.wo,st.r0,st.r1,hk.same xM,st.kc,s5 _ _ ZC,λw H6 s6 nw hw=>?_⟩;have pT:=xM.trans s6;have cg:∀ {bg:List Int} {cy:Int×Int},Reach (bN z ao sk sw nc) ds (r,b) bg cy->uG (bN z ao sk sw []) (r,b) ks bg=cy:=λh=>kd.agH _ (h.agO λs c=>Jb z ao sk sw nc c s);rw[cg uF] at hw;have AB:=s6 _ _ PZ
  try walk_at "rdt"
  obtain⟨cv,cm,c5⟩:=ahy kd n7 I ap;have ZD:=hlv.same (s5.trans s6);refine⟨_,aL.of hw,_,rfl,_,aL.of AB,_,rfl,rfl,ite_no (λz=>z (by rw[e2])) ⟨_,aL.of AB,_,rfl,lv,cO,t2::hp,rfl,ZD,c5,ap.nodup,λH7 s7=>⟨_,rfl,ite_no (by simp) λma P0 p2 mD=>?_⟩⟩⟩
  have k8:=(aj.put (o:=.lst []) P0).trans (aj.put (o:=.tup []) mD);have ZE:upd (upd H7 ma (.lst [])) p2 (.tup []) ma=some (.lst []):=aj.put mD _ _ aE;have amC:upd (upd H7 ma (.lst [])) p2 (.tup []) p2=some (.tup []):=aE;generalize upd (upd H7 ma (.lst [])) p2 (.tup [])=H8 at *
  have ZF:=pT.trans s7;have ZG:=ZD.same s7;have hl:=ZG.same k8;refine i8 lv (cO.map V.ref) (λD i ys aC H2=>∃(v:Option V) (zs:Us),ys=uV zs/\aC = [v]/\H2 D=some (.lst ys)/\aj H8 H2/\H8 D=none/\nQ H2 zs/\zs.map (·.2)=((t2::hp).take i).map (·.2.2.1)) (λQ q=>q) (az.of hl.l) ?_ ?_ ?_ ?_
  ·intro D hD;exact⟨none,[],rfl,rfl,aE,aj.put hD,hD,(λ_ h=>nomatch h),rfl⟩
  ·rintro D i ys aC H2 ⟨v,zs,rfl,rfl,e1,e2,e3,e4,e5⟩;refine⟨e1,C_ ?_,az.of (e2 _ _ hl.l)⟩;have:=fR List.length e5;rw[aM,aM,dH] at this;rw[UN];lia
  ·rintro D i x ys aC H2 N hN hx ⟨v,zs,rfl,rfl,e1,e2,e3,e4,e5⟩;obtain⟨u,hu,rfl⟩:=dY hx;have hi:i<(t2::hp).length:=by rw[← hl.n];exact cT hu
   obtain⟨p,h1,h2⟩:=hl.t i u (t2::hp)[i] hu (bC hi);walk_at "rdt";refine⟨_,aL.of (e2 _ _ h1),_,rfl,e1,hN _ _ _ ⟨_,zs++[(p,((t2::hp)[i]).2.2.1)],by simp[uV],rfl,aE,aj.put2 e2 e3,e3,λz hz=>?_,?_⟩⟩
   ·have jB:H2 z.1=some (.tup (z.2.map V.int)):=by
     rcases fE.mp hz with h | h
     ·exact e4 z h
     ·rw[fQ.mp h];exact e2 _ _ h2
    rw[aI (λe=>by rw[e,e1] at jB;cases jB)]
    exact jB
   ·rw[bT,e5,take_succ_get (bC hi),bT];rfl
  ·rintro D ys aC H9 ⟨v,zs,rfl,rfl,f1,f2,f3,f4,f5⟩;rw[aM,hl.n,c9] at f5;have en:zs.length=(t2::hp).length:=by
    have:=fR List.length f5;rwa [aM,aM] at this
   have hn:=hl.n;have xD:=k8.trans f2;refine⟨kl,p2,D,ma,b9,ks,[],zs,[],H7,7,rfl,∅,xD,P0,hk.same ZF,n7,kd.up,f2 _ _ amC,⋯,f1,∅,f4,(bY ZE f3).symm,f2 _ _ ZE,by rw[f5,cm];show 0+_<=_;lia,by rw[f5];exact cv,λZI iy x10 Js ZJ=>⟨true,rfl,ite_no (by simp) ?_⟩⟩
   rw[f5,cm] at ZJ;have P1:aj H7 ZI:=λb o e=>x10 b o (bY e P0) (xD _ _ e);have EC:=ZG.same P1;refine⟨_,.inl (az.of Js),_,.inl (az.of EC.l),ite_no (by rw[ZJ,aM,hn];simp) ?_⟩
   refine rl lv (cO.map V.ref) (λi σ H'=>∃x y w,σ = [some (V.ref a),some (V.ref sa),some (V.ref p),some (V.int r),some (V.int b),some (V.ref kl),some (V.ref dl),some (V.ref u),some (V.ref lv),some (V.ref ma),x,y,w]/\aj ZI H') (λQ q=>q) (az.of EC.l) ⟨none,none,none,rfl,aj.refl _⟩ (by rintro i σ H' _ ⟨_,_,_,rfl,s'⟩;exact az.of (s' _ _ EC.l)) ?_ ?_
   ·rintro i x σ H' N hN hx ⟨x0,y0,w0,rfl,s'⟩;obtain⟨u1,Au,rfl⟩:=dY hx;have hi:i<(t2::hp).length:=by rw[← hn];exact cT Au
    obtain⟨p1,h1,h2⟩:=EC.t i u1 (t2::hp)[i] Au (bC hi);obtain⟨bg,cy,ZK,em⟩:=I.nd (t2::hp)[i] (cI hi);have lo:=I.ahA (cI hi);rw[em] at h1 h2 lo;have qI:=ZK.qI l6 st.r0 st.r1;have sA:=(ZF.trans P1).trans s';have amD:=s' _ _ (P1 _ _ (s7 _ _ AB));walk_at "rdt";refine⟨_,aL.of (s' _ _ h1),rfl,_,_,rfl,_,_,rfl,rfl,?_⟩
    try walk_at "rdt"
    refine⟨sa,kl,p1,z,ao,sk,sw,za,bA,ca,uz,r,b,b9,ks,bg,rfl,dF.same sA,st.wo,st.r0,st.r1,hk.same sA,st.kc,s' _ _ h2,λw H12 ou nw hw=>?_⟩;rw[cg ZK] at hw
    try walk_at "rdt"
    have sB:=sA.trans ou;have eb:(dw (bN z ao sk sw nc) ds bg cy).1=kF (bN z ao sk sw []) cy.1 cy.2 ((eK ks bg).map (·.c)):=by
     show kF _ _ _ _=_;rw[afP,kd.ahz]
    refine⟨kl,p1,b9,ks,bg,rfl,hk.same sB,∅,ou _ _ (s' _ _ h2),λDk ts H13 mF nD hD=>?_⟩
    refine⟨sa,z,ao,sk,sw,za,bA,ca,uz,w,cy.1,cy.2,Dk,ts,eK ks bg,rfl,mF _ _ hw,dF.same (sB.trans mF),st.wo,qI.1,qI.2,hD,λk gM=>?_,λH14 ZM=>⟨rfl,ite_no (λz=>z (by rw[eb])) ⟨_,aL.of (ZM _ _ (mF _ _ (ou _ _ amD))),_,rfl,_,rfl,ite_no ∅ (hN _ _ ⟨_,_,_,rfl,(s'.trans ou).trans (mF.trans ZM)⟩)⟩⟩⟩
    have:=st.kc k (fj.mp gM).1;exact⟨this.1,∅⟩
   ·rintro σ H' ⟨x0,y0,w0,rfl,s'⟩;walk_at "rdt";exact q _
end
theorem sM{C:List Value->Prop}(h:C []):∀us:List Value,us.length=0->C us:=λ| [],_=>h
theorem c8{n:Nat}{C:List Value->Prop}(h:∀a us,us.length=n->C (a::us)):∀us:List Value,us.length=n+1->C us:=λ| a::us,e=>h a us (Nat.succ.inj e)
theorem ZN{K:W.Frag}{fd:FuncData}{ps:List Str}{ds:List Value}(n:Nat)(e:n+ds.length=ps.length)(h:∀s,K.In s.heap->∀us:List Value,us.length=n->BindsTo s fd ⟨us,[]⟩ (ps.zip (us++ds))):Binds K fd ps ds:=λs us X hl=>h s X us (by rw[e_] at hl;lia)
theorem us1{C:List Value->Prop}(h:∀a0,C [a0]):∀us:List Value,us.length=1->C us:=c8 λa0=>sM (h a0)
theorem us2{C:List Value->Prop}(h:∀a0 a1,C [a0,a1]):∀us:List Value,us.length=2->C us:=c8 λa0=>c8 λa1=>sM (h a0 a1)
theorem uY{C:List Value->Prop}(h:∀a0 a1 a2,C [a0,a1,a2]):∀us:List Value,us.length=3->C us:=c8 λa0=>c8 λa1=>c8 λa2=>sM (h a0 a1 a2)
theorem us4{C:List Value->Prop}(h:∀a0 a1 a2 a3,C [a0,a1,a2,a3]):∀us:List Value,us.length=4->C us:=c8 λa0=>c8 λa1=>c8 λa2=>c8 λa3=>sM (h a0 a1 a2 a3)
theorem us5{C:List Value->Prop}(h:∀a0 a1 a2 a3 a4,C [a0,a1,a2,a3,a4]):∀us:List Value,us.length=5->C us:=c8 λa0=>c8 λa1=>c8 λa2=>c8 λa3=>c8 λa4=>sM (h a0 a1 a2 a3 a4)
theorem ZO{C:List Value->Prop}(h:∀a0 a1 a2 a3 a4 a5,C [a0,a1,a2,a3,a4,a5]):∀us:List Value,us.length=6->C us:=c8 λa0=>c8 λa1=>c8 λa2=>c8 λa3=>c8 λa4=>c8 λa5=>sM (h a0 a1 a2 a3 a4 a5)
theorem ZQ{C:List Value->Prop}(h:∀a0 a1 a2 a3 a4 a5 a6,C [a0,a1,a2,a3,a4,a5,a6]):∀us:List Value,us.length=7->C us:=c8 λa0=>c8 λa1=>c8 λa2=>c8 λa3=>c8 λa4=>c8 λa5=>c8 λa6=>sM (h a0 a1 a2 a3 a4 a5 a6)
theorem amE{C:List Value->Prop}(h:∀a0 a1 a2 a3 a4 a5 a6 a7 a8 a9,C [a0,a1,a2,a3,a4,a5,a6,a7,a8,a9]):∀us:List Value,us.length=10->C us:=c8 λa0=>c8 λa1=>c8 λa2=>c8 λa3=>c8 λa4=>c8 λa5=>c8 λa6=>c8 λa7=>c8 λa8=>c8 λa9=>sM (h a0 a1 a2 a3 a4 a5 a6 a7 a8 a9)
noncomputable abbrev Nq_(K:W.Frag)(n:Str)(a:Addr):Prop:=W.nsIn K mainGlobals n=some (some (.ref a))
noncomputable abbrev No_(K:W.Frag)(n:Str):Prop:=W.nsIn K mainGlobals n=some none
noncomputable abbrev Ni_(K:W.Frag)(n:Str)(i:Int)(t:Tok):Prop:=W.nsIn K mainGlobals n=some (some (.int i t))
local macro_rules | `(tactic| walk_at "u1") => `(tactic| exact λ_ _ _ _ _ _=>us1 (λ_=>rfl))
local macro_rules | `(tactic| walk_at "u2") => `(tactic| exact λ_ _ _ _ _ _=>us2 (λ_ _=>rfl))
local macro_rules | `(tactic| walk_at "u3") => `(tactic| exact λ_ _ _ _ _ _=>uY (λ_ _ _=>rfl))
local macro_rules | `(tactic| walk_at "u4") => `(tactic| exact λ_ _ _ _ _ _=>us4 (λ_ _ _ _=>rfl))
local macro_rules | `(tactic| walk_at "u5") => `(tactic| exact λ_ _ _ _ _ _=>us5 (λ_ _ _ _ _=>rfl))
local macro_rules | `(tactic| walk_at "u6") => `(tactic| exact λ_ _ _ _ _ _=>ZO (λ_ _ _ _ _ _=>rfl))
local macro_rules | `(tactic| walk_at "u7") => `(tactic| exact λ_ _ _ _ _ _=>ZQ (λ_ _ _ _ _ _ _=>rfl))
local macro_rules | `(tactic| walk_at "u10") => `(tactic| exact λ_ _ _ _ _ _=>amE (λ_ _ _ _ _ _ _ _ _ _=>rfl))
theorem all_mk{l:W.OpenLaw}{w:World}{K:W.Frag}{h:Heap}{mg:Str->Option Value}{fa:Addr}{ED P4 P5 P6 P7 EE EF EG EH P8 P9 P_ Qa Qc Qd Qe EI Qf Qg Qh Qi Qj Qk Ql Qm Qn Qo Qp Qq Qs Qt Qu Qv Qw Qx Qy Qz QA AL AM AN AO AQ AR AS AU AV AW QB QC QD EJ QE QF EK QG QH QI QJ QK QL QM QN QO QS QT QU QV QW QX QY QZ Q0 Q3 Q4 Q5 Q6 Q7:Addr}{amF Q8 amG amH Q9 amI amJ ZR amK Q_:Option Addr}{amL amM amN amO amP amQ:Array (Option Value)}{amR Ra Rb Rc EL Rf amS amT Rg Rh Ri EM Rj amU amV ZS ZT ZU EN ZV amW Rk Rl Rm EO Rn:Value}{amX amY:Nat}{ZW ZX:Tok}{ZY ZZ Z0 Z1 Z3 Z4 Z5 Z6 Z7 Z8 Z9 Z_ aaa aab aac aad aae aaf aag aah aai aaj aak aal aam aan aao aap aaq aar aas aat aau aav aaw aax aay aaz aaA aaB aaC aaD aaE aaF aaG aaH aaI aaJ aaK aaL aaM aaN aaO aaP aaQ aaR aaS aaT aaU aaV aaW aaX aaY aaZ aa0 aa1 aa2 aa3 aa4 aa5 aa6 aa7:FuncData}{bW:Addr}{cJ:Addr}{bK:Addr}{bB:Addr}{DR:Tok}{DS:Tok}{DT:Tok}{DU:Tok}{DV:Tok}{DW:Tok}{DX:Tok}{DY:Tok}{DZ:Tok}{D4:Tok}{D5:Tok}{D6:Tok}{D7:Tok}{D8:Tok}{br aX:Addr}{amZ:Option Addr}{aa8:Array Value}{am0:Array (Option Value)}(X:K.In h)(G:h.Ns mainGlobals mg)(hfa:mg "law" = some (.ref fa))
  (am1:Nq_ K "Ask" bW)
  (am2:Nq_ K "Due" cJ)
  (am3:Nq_ K "Plate" bK)
  (am4:Nq_ K "Mended" bB)
  (ax0:W.findIn K (.ref bW) "__init__" = some (some (.ref ED)))
  (ix0:W.isFn K (.ref ED)=true)
  (F0:dJ K "__init__" "Ask.__init__" JG ED ZY)
  (ax1:Nq_ K "check_between" P4)
  (F1:aN K "check_between" JH P4 ZZ)
  (ax2:Nq_ K "check_behind" P5)
  (F2:aN K "check_behind" JI P5 Z0)
  (ax3:Nq_ K "check_fields" P6)
  (F3:aN K "check_fields" JJ P6 Z1)
  (ax4:Nq_ K "told_behind" P7)
  (F4:aN K "told_behind" JK P7 Z3)
  (ax5:Nq_ K "reading" EE)
  (lx5:K.lookup EE=some ⟨amR,amF,.func (W.fnOf "reading" "reading" (iI mq) (gg mq) (aV mq) (.ref EF) Ra Rb Rc Q8 EL Rf),amL⟩)
  (dx5:K.lookup EF=some ⟨amS,amG,.seq #[.int 0 ZW,.none,.none] amX,amM⟩)
  (cx5:W.codeIn K EL "reading" = true)
  (kx5:W.keepIn K (.ref EE)=true)
  (ax6:Nq_ K "writing" EG)
  (lx6:K.lookup EG=some ⟨amT,amH,.func (W.fnOf "writing" "writing" (iI mw) (gg mw) (aV mw) (.ref EH) Rg Rh Ri Q9 EM Rj),amN⟩)
  (dx6:K.lookup EH=some ⟨amU,amI,.seq #[.int 0 ZX,.none,.none,.bool false] amY,amO⟩)
  (cx6:W.codeIn K EM "writing" = true)
  (kx6:W.keepIn K (.ref EG)=true)
  (ax7:Nq_ K "clash" P8)
  (F7:aN K "clash" JL P8 Z4)
  (ax8:Nq_ K "heap_put" P9)
  (F8:aN K "heap_put" JM P9 Z5)
  (ax9:Nq_ K "heap_take" P_)
  (F9:aN K "heap_take" JN P_ Z6)
  (am5:Nq_ K "lesser_child" Qa)
  (F10:aN K "lesser_child" JO Qa Z7)
  (am6:Nq_ K "sink" Qc)
  (F11:aN K "sink" JP Qc Z8)
  (am7:Nq_ K "stretch" Qd)
  (F12:aN K "stretch" JQ Qd Z9)
  (am8:Nq_ K "stretch_by_number" Qe)
  (F13:aN K "stretch_by_number" JR Qe Z_)
  (am9:W.findIn K (.ref cJ) "__init__" = some (some (.ref EI)))
  (am_:W.isFn K (.ref EI)=true)
  (F14:dJ K "__init__" "Due.__init__" JS EI aaa)
  (ana:Nq_ K "next_begin" Qf)
  (F15:aN K "next_begin" JT Qf aab)
  (anb:Nq_ K "way" Qg)
  (F16:aN K "way" JU Qg aac)
  (anc:Nq_ K "way_end" Qh)
  (F17:aN K "way_end" JV Qh aad)
  (ane:Nq_ K "are_few" Qi)
  (F18:aN K "are_few" JW Qi aae)
  (anf:Nq_ K "check_few" Qj)
  (F19:aN K "check_few" JX Qj aaf)
  (ang:Nq_ K "keeps_behind" Qk)
  (F20:aN K "keeps_behind" JY Qk aag)
  (anh:Nq_ K "behind_among" Ql)
  (F21:aN K "behind_among" JZ Ql aah)
  (ani:Nq_ K "left_behind" Qm)
  (F22:aN K "left_behind" J0 Qm aai)
  (anj:Nq_ K "next_behind" Qn)
  (F23:aN K "next_behind" J4 Qn aaj)
  (ank:Nq_ K "passing_beats" Qo)
  (F24:aN K "passing_beats" J5 Qo aak)
  (anl:Nq_ K "bound_of" Qp)
  (F25:aN K "bound_of" J6 Qp aal)
  (anm:Nq_ K "beginning" Qq)
  (F26:aN K "beginning" J7 Qq aam)
  (ano:Nq_ K "put_longer_ones" Qs)
  (F27:aN K "put_longer_ones" J8 Qs aan)
  (anp:Nq_ K "least_way" Qt)
  (F28:aN K "least_way" J9 Qt aao)
  (anq:Nq_ K "check_zones" Qu)
  (F29:aN K "check_zones" J_ Qu aap)
  (anr:Nq_ K "check_turning" Qv)
  (F30:aN K "check_turning" Ka Qv aaq)
  (ans:Nq_ K "check_swing" Qw)
  (F31:aN K "check_swing" Kc Qw aar)
  (ant:Nq_ K "check_no_detour" Qx)
  (F32:aN K "check_no_detour" Ke Qx aas)
  (anu:Nq_ K "cells_by_ring" Qy)
  (F33:aN K "cells_by_ring" Kf Qy aat)
  (anv:Nq_ K "cells_by_number" Qz)
  (F34:aN K "cells_by_number" Kg Qz aau)
  (anw:Nq_ K "numbers_by_cell" QA)
  (F35:aN K "numbers_by_cell" Kh QA aav)
  (anx:W.findIn K (.ref bK) "__init__" = some (some (.ref AL)))
  (anz:W.isFn K (.ref AL)=true)
  (Ro:dJ K "__init__" "Plate.__init__" Kl AL aaw)
  (anA:W.findIn K (.ref bK) "rings" = some (some (.ref AM)))
  (aa9:W.isFn K (.ref AM)=true)
  (anB:W.findIn K (.ref bB) "rings" = some (some (.ref AM)))
  (ER:dJ K "rings" "Plate.rings" Km AM aax)
  (anC:W.findIn K (.ref bK) "total" = some (some (.ref AN)))
  (aa_:W.isFn K (.ref AN)=true)
  (anD:W.findIn K (.ref bB) "total" = some (some (.ref AN)))
  (ES:dJ K "total" "Plate.total" Ko AN aay)
  (anE:W.findIn K (.ref bK) "beats_of" = some (some (.ref AO)))
  (aba:W.isFn K (.ref AO)=true)
  (anF:W.findIn K (.ref bB) "beats_of" = some (some (.ref AO)))
  (ET:dJ K "beats_of" "Plate.beats_of" Kq AO aaz)
  (anG:W.findIn K (.ref bK) "lap_beats" = some (some (.ref AQ)))
  (abb:W.isFn K (.ref AQ)=true)
  (anH:W.findIn K (.ref bB) "lap_beats" = some (some (.ref AQ)))
  (EU:dJ K "lap_beats" "Plate.lap_beats" Kr AQ aaA)
  (anI:W.findIn K (.ref bK) "begins" = some (some (.ref AR)))
  (abd:W.isFn K (.ref AR)=true)
  (anJ:W.findIn K (.ref bB) "begins" = some (some (.ref AR)))
  (EV:dJ K "begins" "Plate.begins" Ks AR aaB)
  (anK:W.findIn K (.ref bK) "swing_of" = some (some (.ref AS)))
  (abe:W.isFn K (.ref AS)=true)
  (anL:W.findIn K (.ref bB) "swing_of" = some (some (.ref AS)))
  (EW:dJ K "swing_of" "Plate.swing_of" Ku AS aaC)
  (anM:W.findIn K (.ref bK) "has_cell" = some (some (.ref AU)))
  (abf:W.isFn K (.ref AU)=true)
  (anN:W.findIn K (.ref bB) "has_cell" = some (some (.ref AU)))
  (EX:dJ K "has_cell" "Plate.has_cell" Kv AU aaD)
  (anO:W.findIn K (.ref bK) "cell_at" = some (some (.ref AV)))
  (abg:W.isFn K (.ref AV)=true)
  (anP:W.findIn K (.ref bB) "cell_at" = some (some (.ref AV)))
  (EY:dJ K "cell_at" "Plate.cell_at" Kw AV aaE)
  (anQ:W.findIn K (.ref bK) "number_of" = some (some (.ref AW)))
  (abh:W.isFn K (.ref AW)=true)
  (anR:W.findIn K (.ref bB) "number_of" = some (some (.ref AW)))
  (EZ:dJ K "number_of" "Plate.number_of" Ky AW aaF)
  (anS:Nq_ K "check_spares" QB)
  (F46:aN K "check_spares" Kz QB aaG)
  (anT:Nq_ K "bad_by_cell" QC)
  (F47:aN K "bad_by_cell" KA QC aaH)
  (anU:Nq_ K "bad_numbers" QD)
  (F48:aN K "bad_numbers" KC QD aaI)
  (anV:Nq_ K "nearest_rings" EJ)
  (anW:K.lookup EJ=some ⟨amV,amJ,.func (W.fnOf "nearest_rings" "nearest_rings" (iI iA) (gg iA) (aV iA) .none ZS ZT ZU ZR EN ZV),amP⟩)
  (anY:W.codeIn K EN "nearest_rings" = true)
  (anZ:W.keepIn K (.ref EJ)=true)
  (an0:Nq_ K "free_kept_cell" QE)
  (F50:aN K "free_kept_cell" KD QE aaJ)
  (an1:Nq_ K "lay_elsewhere" QF)
  (F51:aN K "lay_elsewhere" KG QF aaK)
  (an2:W.findIn K (.ref bB) "__init__" = some (some (.ref EK)))
  (an3:W.isFn K (.ref EK)=true)
  (F52:dJ K "__init__" "Mended.__init__" KH EK aaL)
  (an4:Nq_ K "_law_cell_at" QG)
  (F53:aN K "_law_cell_at" KI QG aaM)
  (an5:Nq_ K "_law_stream" QH)
  (F54:aN K "_law_stream" KJ QH aaN)
  (an6:Nq_ K "_law_swing" QI)
  (F55:aN K "_law_swing" KL QI aaO)
  (an7:Nq_ K "_law_spec" QJ)
  (F56:aN K "_law_spec" KN QJ aaP)
  (an8:Nq_ K "_law_plate" QK)
  (F57:aN K "_law_plate" KO QK aaQ)
  (an9:Nq_ K "_law_walk" QL)
  (F58:aN K "_law_walk" KP QL aaR)
  (an_:Nq_ K "_law_behind_way" QM)
  (F59:aN K "_law_behind_way" KQ QM aaS)
  (aoa:Nq_ K "_law_beside" QN)
  (F60:aN K "_law_beside" KR QN aaT)
  (aob:Nq_ K "_law_tight" QO)
  (F61:aN K "_law_tight" KS QO aaU)
  (aoc:Nq_ K "_law_known" QS)
  (F62:aN K "_law_known" KU QS aaV)
  (aod:Nq_ K "_law_ask" QT)
  (F63:aN K "_law_ask" KW QT aaW)
  (aoe:Nq_ K "_law_keeps" QU)
  (F64:aN K "_law_keeps" KY QU aaX)
  (aof:Nq_ K "_law_free_ones" QV)
  (F65:aN K "_law_free_ones" KZ QV aaY)
  (aog:Nq_ K "_law_whole" QW)
  (F66:aN K "_law_whole" K3 QW aaZ)
  (aoh:Nq_ K "_law_without" QX)
  (F67:aN K "_law_without" K4 QX aa0)
  (aoi:Nq_ K "_law_spot" QY)
  (F68:aN K "_law_spot" K5 QY aa1)
  (aoj:Nq_ K "_law_numbers" QZ)
  (F69:aN K "_law_numbers" K6 QZ aa2)
  (aok:Nq_ K "_law_is_order" Q0)
  (F70:aN K "_law_is_order" K7 Q0 aa3)
  (aol:Nq_ K "_law_start" Q3)
  (F71:aN K "_law_start" K8 Q3 aa4)
  (aom:Nq_ K "_law_are_leaves" Q4)
  (F72:aN K "_law_are_leaves" K9 Q4 aa5)
  (aon:Nq_ K "_law_covered" Q5)
  (F73:aN K "_law_covered" K_ Q5 aa6)
  (aoo:Nq_ K "_law_bound" Q6)
  (F74:aN K "_law_bound" La Q6 aa7)
  (abi:Nq_ K "law" Q7)
  (aop:K.lookup Q7=some ⟨amW,amK,.func (W.fnOf "law" "law" (iI mz) (gg mz) (aV mz) .none Rk Rl Rm Q_ EO Rn),amQ⟩)
  (aoq:W.codeIn K EO "law" = true)
  (aor:W.keepIn K (.ref Q7)=true)
  (aos:W.plainGet K bW Str.empty=true)
  (aot:W.hasDictIn K bW=true)
  (aou:W.plainOver K bW=true)
  (aov:W.findIn K (.ref bW) "__setattr__" = some (some (.builtin "object.__setattr__")))
  (aow:W.makesIn K bW=true)
  (aox:W.keepIn K (.ref bW)=true)
  (X5:W.findIn K (.ref bW) "kind" = some none)
  (X6:W.findIn K (.ref bW) "first" = some none)
  (X7:W.findIn K (.ref bW) "many" = some none)
  (X8:W.findIn K (.ref bW) "marks" = some none)
  (X_:W.findIn K (.ref bW) "at" = some none)
  (Yb:W.findIn K (.ref bW) "asker" = some none)
  (Yc:W.findIn K (.ref bW) "latest" = some none)
  (Yd:W.findIn K (.ref bW) "behind" = some none)
  (Ye:W.findIn K (.ref bW) "early" = some none)
  (aoy:W.plainGet K cJ Str.empty=true)
  (aoz:W.hasDictIn K cJ=true)
  (aoA:W.plainOver K cJ=true)
  (aoB:W.findIn K (.ref cJ) "__setattr__" = some (some (.builtin "object.__setattr__")))
  (aoC:W.makesIn K cJ=true)
  (aoD:W.keepIn K (.ref cJ)=true)
  (Ef:W.findIn K (.ref cJ) "number" = some none)
  (Yg:W.findIn K (.ref cJ) "ask" = some none)
  (Of:W.findIn K (.ref cJ) "cells" = some none)
  (aoE:W.plainGet K bK Str.empty=true)
  (aoF:W.hasDictIn K bK=true)
  (aoG:W.plainOver K bK=true)
  (aoH:W.findIn K (.ref bK) "__setattr__" = some (some (.builtin "object.__setattr__")))
  (aoI:W.makesIn K bK=true)
  (aoJ:W.keepIn K (.ref bK)=true)
  (Og:W.findIn K (.ref bK) "ring_cells" = some none)
  (Oh:W.findIn K (.ref bK) "lap" = some none)
  (Oi:W.findIn K (.ref bK) "skew" = some none)
  (Oj:W.findIn K (.ref bK) "swing" = some none)
  (Ol:W.findIn K (.ref bK) "number_cells" = some none)
  (Om:W.findIn K (.ref bK) "cell_numbers" = some none)
  (aoK:W.plainGet K bB Str.empty=true)
  (aoL:W.hasDictIn K bB=true)
  (aoM:W.plainOver K bB=true)
  (aoN:W.findIn K (.ref bB) "__setattr__" = some (some (.builtin "object.__setattr__")))
  (aoO:W.makesIn K bB=true)
  (aoP:W.keepIn K (.ref bB)=true)
  (Oo:W.findIn K (.ref bB) "ring_cells" = some none)
  (Oq:W.findIn K (.ref bB) "lap" = some none)
  (Ot:W.findIn K (.ref bB) "skew" = some none)
  (Ou:W.findIn K (.ref bB) "swing" = some none)
  (Ov:W.findIn K (.ref bB) "number_cells" = some none)
  (Ow:W.findIn K (.ref bB) "cell_numbers" = some none)
  (Ox:W.findIn K (.ref bB) "moves" = some none)
  (aoQ:W.specialIn K (.ref bK) "__getattribute__" = some (some (.builtin "type.__getattribute__")))
  (aoR:W.readsIn K bK (.type "type")=true)
  (aoS:W.findCls K (.ref bK) (.type "type") "__init__" = some (.val (.ref AL)))
  (XW:W.findIn K (.ref bB) "__class__" = some (some (.builtin "object.__class__")))
  (XX:W.specialIn K (.builtin "object.__class__") "__get__" = some (some (.builtin "getset_descriptor.__get__")))
  (XY:W.takesIn K (.builtin "object.__class__")=some true)
  (XZ:W.mroIn K bB (.type "object")=some true)
  (X0:W.kitOne K (.ref bB) (.ref bK)=some true)
  (aoT:Ni_ K "MOST_CELLS" 16 DR)
  (aoU:Ni_ K "GREATEST_FIRST" 1000000 DS)
  (aoV:Ni_ K "GREATEST_MARK" 1000000000 DT)
  (aoW:Ni_ K "GREATEST_AT" 1000000000000 DU)
  (aoX:Ni_ K "GREATEST_ASKER" 20 DV)
  (aoY:Ni_ K "GREATEST_LATEST" 10000000000000 DW)
  (aoZ:Ni_ K "GREATEST_BEHIND" 99 DX)
  (ao0:Ni_ K "MOST_DUES" 7 DY)
  (ao1:Ni_ K "MOST_ZONES" 5 DZ)
  (ao2:Ni_ K "MOST_RINGS_IN_ZONE" 40 D4)
  (ao3:Ni_ K "MOST_CELLS_IN_RING" 60 D5)
  (ao4:Ni_ K "LEAST_RINGS" 2 D6)
  (ao5:Ni_ K "MOST_RINGS" 120 D7)
  (ao6:Ni_ K "MOST_BEATS" 1000000000 D8)
  (Ae:No_ K "abs")
  (Oz:No_ K "all")
  (OA:No_ K "bool")
  (OB:No_ K "dict")
  (Af:No_ K "enumerate")
  (xy:No_ K "int")
  (sr:No_ K "isinstance")
  (dG:No_ K "len")
  (qQ:No_ K "list")
  (Eg:No_ K "max")
  (uU:No_ K "min")
  (gA:No_ K "range")
  (OC:No_ K "set")
  (Ag:No_ K "sorted")
  (xA:No_ K "sum")
  (su:No_ K "tuple")
  (ao7:EN = .ref br)
  (aq3:K.lookup br=some ⟨.type "code",amZ,.fields aa8,am0⟩)
  (aq4:aa8[11]? = some (.ref aX))
  (ao8:W.codeHdIn K br aX=true)
  (ao9:h.get? aX=some (W.tabObj #[]))
  : ∃(fd:FuncData) (tabs:List (Addr×Addr)),(∀(s:Shared) (v:Value),BindsTo s fd ⟨[v],[]⟩ [("_law_script",v)])/\W.TabsAt tabs h/\∀base:Heap,K.In base->base.Ns mainGlobals mg->(∀q∈tabs,bF mg base q.1 q.2)->aY l.prog w K mg base bw 12 fa fd ["_law_script"] (CV K tabs):=by
 have e:=hfa.symm.trans (bI X G abi);cases e;have F5:=TX (st:=mq) lx5 cx5 kx5;have F6:=TX (st:=mw) lx6 cx6 kx6;have F49:=fun_mk (st:=iA) anW anY anZ;have F75:=fun_mk (st:=mz) aop aoq aor;have ao_:Binds K (W.fnOf "reading" "reading" (iI mq) (gg mq) (aV mq) (.ref EF) Ra Rb Rc Q8 EL Rf) ["first", "many", "at", "asker", "latest", "behind"] []:=ZN 6 rfl λs X=>ZO λ_ _ _ _ _ _=>W.binds_K X rfl dx5 rfl rfl rfl
 have apa:Binds K (W.fnOf "writing" "writing" (iI mw) (gg mw) (aV mw) (.ref EH) Rg Rh Ri Q9 EM Rj) ["first", "marks", "at", "asker", "latest", "behind", "early"] []:=ZN 7 rfl λs X=>ZQ λ_ _ _ _ _ _ _=>W.binds_K X rfl dx6 rfl rfl rfl
 have mq_:=λ{n a} (h:Nq_ K n a)=>W.mg_of X G h
 let A:kI:=⟨ED,ZY,P4,ZZ,P5,Z0,P6,Z1,P7,Z3,EE,(W.fnOf "reading" "reading" (iI mq) (gg mq) (aV mq) (.ref EF) Ra Rb Rc Q8 EL Rf),ZW,EG,(W.fnOf "writing" "writing" (iI mw) (gg mw) (aV mw) (.ref EH) Rg Rh Ri Q9 EM Rj),ZX,P8,Z4,P9,Z5,P_,Z6,Qa,Z7,Qc,Z8,Qd,Z9,Qe,Z_,EI,aaa,Qf,aab,Qg,aac,Qh,aad,Qi,aae,Qj,aaf,Qk,aag,Ql,aah,Qm,aai,Qn,aaj,Qo,aak,Qp,aal,Qq,aam,Qs,aan,Qt,aao,Qu,aap,Qv,aaq,Qw,aar,Qx,aas,Qy,aat,Qz,aau,QA,aav,AL,aaw,AM,aax,AN,aay,AO,aaz,AQ,aaA,AR,aaB,AS,aaC,AU,aaD,AV,aaE,AW,aaF,QB,aaG,QC,aaH,QD,aaI,EJ,(W.fnOf "nearest_rings" "nearest_rings" (iI iA) (gg iA) (aV iA) .none ZS ZT ZU ZR EN ZV),QE,aaJ,QF,aaK,EK,aaL,QG,aaM,QH,aaN,QI,aaO,QJ,aaP,QK,aaQ,QL,aaR,QM,aaS,QN,aaT,QO,aaU,QS,aaV,QT,aaW,QU,aaX,QV,aaY,QW,aaZ,QX,aa0,QY,aa1,QZ,aa2,Q0,aa3,Q3,aa4,Q4,aa5,Q5,aa6,Q6,aa7,fa,(W.fnOf "law" "law" (iI mz) (gg mz) (aV mz) .none Rk Rl Rm Q_ EO Rn),bW,cJ,bK,bB,br,aX,DR,DS,DT,DU,DV,DW,DX,DY,DZ,D4,D5,D6,D7,D8⟩
 have T:Tx K mg A:=⟨F0,F0.binds (by walk_at "u10"),F1,F1.binds (by walk_at "u4"),bI X G ax1,F2,F2.binds (by walk_at "u1"),bI X G ax2,F3,F3.binds (by walk_at "u6"),bI X G ax3,F4,F4.binds (by walk_at "u1"),bI X G ax4,F5,ao_,bI X G ax5,F6,apa,bI X G ax6,F7,F7.binds (by walk_at "u2"),bI X G ax7,F8,F8.binds (by walk_at "u2"),bI X G ax8,F9,F9.binds (by walk_at "u1"),bI X G ax9,F10,F10.binds (by walk_at "u2"),bI X G am5,F11,F11.binds (by walk_at "u2"),bI X G am6,F12,F12.binds (by walk_at "u2"),bI X G am7,F13,F13.binds (by walk_at "u3"),bI X G am8,F14,F14.binds (by walk_at "u4"),F15,F15.binds (by walk_at "u4"),bI X G ana,F16,F16.binds (by walk_at "u4"),bI X G anb,F17,F17.binds (by walk_at "u4"),bI X G anc,F18,F18.binds (by walk_at "u1"),bI X G ane,F19,F19.binds (by walk_at "u1"),bI X G anf,F20,F20.binds (by walk_at "u2"),bI X G ang,F21,F21.binds (by walk_at "u1"),bI X G anh,F22,F22.binds (by walk_at "u2"),bI X G ani,F23,F23.binds (by walk_at "u3"),bI X G anj,F24,F24.binds (by walk_at "u2"),bI X G ank,F25,F25.binds (by walk_at "u4"),bI X G anl,F26,F26.binds (by walk_at "u4"),bI X G anm,F27,F27.binds (by walk_at "u5"),bI X G ano,F28,F28.binds (by walk_at "u4"),bI X G anp,F29,F29.binds (by walk_at "u1"),bI X G anq,F30,F30.binds (by walk_at "u3"),bI X G anr,F31,F31.binds (by walk_at "u2"),bI X G ans,F32,F32.binds (by walk_at "u1"),bI X G ant,F33,F33.binds (by walk_at "u1"),bI X G anu,F34,F34.binds (by walk_at "u2"),bI X G anv,F35,F35.binds (by walk_at "u1"),bI X G anw,Ro,Ro.binds (by walk_at "u5"),ER,ER.binds (by walk_at "u1"),⟨anA,aa9,ER.kp⟩,⟨anB,aa9,ER.kp⟩,ES,ES.binds (by walk_at "u1"),⟨anC,aa_,ES.kp⟩,⟨anD,aa_,ES.kp⟩,ET,ET.binds (by walk_at "u2"),⟨anE,aba,ET.kp⟩,⟨anF,aba,ET.kp⟩,EU,EU.binds (by walk_at "u1"),⟨anG,abb,EU.kp⟩,⟨anH,abb,EU.kp⟩,EV,EV.binds (by walk_at "u3"),⟨anI,abd,EV.kp⟩,⟨anJ,abd,EV.kp⟩,EW,EW.binds (by walk_at "u3"),⟨anK,abe,EW.kp⟩,⟨anL,abe,EW.kp⟩,EX,EX.binds (by walk_at "u3"),⟨anM,abf,EX.kp⟩,⟨anN,abf,EX.kp⟩,EY,EY.binds (by walk_at "u2"),⟨anO,abg,EY.kp⟩,⟨anP,abg,EY.kp⟩,EZ,EZ.binds (by walk_at "u3"),⟨anQ,abh,EZ.kp⟩,⟨anR,abh,EZ.kp⟩,F46,F46.binds (by walk_at "u2"),bI X G anS,F47,F47.binds (by walk_at "u2"),bI X G anT,F48,F48.binds (by walk_at "u2"),bI X G anU,F49,F49.binds (by walk_at "u2"),bI X G anV,F50,F50.binds (by walk_at "u4"),bI X G an0,F51,F51.binds (by walk_at "u4"),bI X G an1,F52,F52.binds (by walk_at "u7"),F53,F53.binds (by walk_at "u2"),bI X G an4,F54,F54.binds (by walk_at "u2"),bI X G an5,F55,F55.binds (by walk_at "u2"),bI X G an6,F56,F56.binds (by walk_at "u2"),bI X G an7,F57,F57.binds (by walk_at "u2"),bI X G an8,F58,F58.binds (by walk_at "u4"),bI X G an9,F59,F59.binds (by walk_at "u4"),bI X G an_,F60,F60.binds (by walk_at "u4"),bI X G aoa,F61,F61.binds (by walk_at "u3"),bI X G aob,F62,F62.binds (by walk_at "u5"),bI X G aoc,F63,F63.binds (by walk_at "u2"),bI X G aod,F64,F64.binds (by walk_at "u2"),bI X G aoe,F65,F65.binds (by walk_at "u1"),bI X G aof,F66,F66.binds (by walk_at "u1"),bI X G aog,F67,F67.binds (by walk_at "u2"),bI X G aoh,F68,F68.binds (by walk_at "u5"),bI X G aoi,F69,F69.binds (by walk_at "u1"),bI X G aoj,F70,F70.binds (by walk_at "u2"),bI X G aok,F71,F71.binds (by walk_at "u2"),bI X G aol,F72,F72.binds (by walk_at "u1"),bI X G aom,F73,F73.binds (by walk_at "u4"),bI X G aon,F74,F74.binds (by walk_at "u3"),bI X G aoo,F75,F75.binds (by walk_at "u1"),bI X G abi,⟨aoQ,aoR,aoS,Ro.kp⟩,XW,XX,XY,XZ,X0,⟨aos,aot,aou,aov⟩,⟨aow,ax0,ix0,aox⟩,bI X G am1,X5,X6,X7,X8,X_,Yb,Yc,Yd,Ye,⟨aoy,aoz,aoA,aoB⟩,⟨aoC,am9,am_,aoD⟩,bI X G am2,Ef,Yg,Of,⟨aoE,aoF,aoG,aoH⟩,⟨aoI,anx,anz,aoJ⟩,bI X G am3,Og,Oh,Oi,Oj,Ol,Om,⟨aoK,aoL,aoM,aoN⟩,⟨aoO,an2,an3,aoP⟩,bI X G am4,Oo,Oq,Ot,Ou,Ov,Ow,Ox,bI X G aoT,bI X G aoU,bI X G aoV,bI X G aoW,bI X G aoX,bI X G aoY,bI X G aoZ,bI X G ao0,bI X G ao1,bI X G ao2,bI X G ao3,bI X G ao4,bI X G ao5,bI X G ao6,jj X G Ae,jj X G Oz,jj X G OA,jj X G OB,jj X G Af,jj X G xy,jj X G sr,jj X G dG,jj X G qQ,jj X G Eg,jj X G uU,jj X G gA,jj X G OC,jj X G Ag,jj X G xA,jj X G su,ao7⟩
 have hT:W.TabsAt [(br,aX)] h:=by
  intro q hq;simp only[List.mem_cons,List.not_mem_nil,or_false] at hq;rcases hq with rfl
  ·exact⟨W.codeHd_of_K X ao8,ao9⟩
 exact⟨(W.fnOf "law" "law" (iI mz) (gg mz) (aV mz) .none Rk Rl Rm Q_ EO Rn),[(br,aX)],λs v=>.of_eq rfl,hT,λbase _ _ hL=>amv T (hL (br,aX) (by simp))⟩
end _W
/-! aq5 names are taken,so aq6 no fast copy is laid of the largest tables: the compiled file stays small -/
structure PySem.W.Fast:Prop where(tw11184025114495323200 tw9264437882764659141 tw4743274114645654174 tw6437983907264499857 tw8687341449141406016 tw14786261747387134870 tw17471277010230652551 tw8310432360669480661 tw16218792278378935673 tw14855268464369869501 tw15398820234256807504 tw14782740564171496749 tw4039727065813616178 tw4115657828096982541 tw14582262726338404188 tw6853566823026281541 tw6729370865873114487 tw15644309103451385979 tw17697504203648548720 tw12480381799473544 tw16779552479885101586 tw1421971006567004974 tw3123875628497680818 tw297002718755740980 tw3813533358661996095 tw14035341021167663848 tw2874057729559478123 tw14732500019368619841 tw6438447055865921310 tw5070181617356158042 tw1539852884861651134 tw7896753835252540148 tw2894587381272510614 tw11112519370588730676 tw1157106141941052624 tw12053509983425746576 tw2933150643735085148 tw11623430472407234312 tw13376422115512649968 tw11950823435745041565 tw11381294901147665232 tw16048294105788852089 tw18419146920479199519 tw18191251038822707932 tw2669408138230735545 tw546538362269621516 tw5109546059782608562 tw10602730787892338438 tw9744347153749531038 tw1399571038809274370 tw17363836025664424354 tw10842827866534636723 tw10519807161041433380 tw11337636060628781627 tw17349881066679708725 tw6949399604843396168 tw6248325878649219329 tw1130123619308212900 tw9834690358030623420 tw13854614052910051683 tw9461428249186130323 tw12549805275440774453 tw12765327788168744370 tw13383716160469710400 tw13857248118833739850 tw4866255984380841248 tw10623112980563477072 tw2729889703533942093 tw12456278021030295305 tw12906887005159194573 tw4507009816475417542 tw6623278360387272683 tw5634420000651212444 tw16442262927333427831 tw14401907827531829083 tw8149228160200251554 tw5426603359357451452 tw16447372988094445988 tw3442994565283512455 tw15880960625945532907 tw15296412537315338467 tw17759716741612559897 tw2782886149986521024 tw11239320422308347061 tw6251841425463457158 tw14862646126225346961 tw11784022574151552413 tw9981276970027665257 tw3462266877136969134 tw3317047159366017482 tw18014541839921926388 tw5182660066996639891 tw2141362619612122067 tw11018056919641124991 tw16470664634136867443 tw13519475581142607434 tw9957064045314390544 tw11622813759500760870 tw1188670533664035238 tw70323890110043785 tw18402994131490663726 tw15767942988675492114 tw5702759356203108690 tw15130390434507428053 tw863118403530009408 tw5602441797871876290 tw3043401934487063479 tw10014459545792927583 tw12048719931512009607 tw2528572902503999583 tw10724819325427377497 tw16744029592594077058 tw1151387654992822941 tw8819665778641629087 tw5451370058074857762 tw7770134998952640884 tw4291948887722557552 tw2070375612785108772 tw1956535271235706738 tw12752002018204879567 tw15254387444868790404 tw7400293544171330482 tw5361414697607554141 tw1863893819914276281 tw16532707713624656827 tw15136776363767595857 tw15805124924686646506 tw2941618524631511985 tw13548187966304926105 tw17036078040960673625 tw6385461686941857513 tw15447277555938278649 tw7727382340895456248 tw8235805701592598808 tw1038986918189156092 tw9454018342989560723 tw7673218919443516809 tw11478456686867423555 tw14370203916987572016 tw16383217170384365346 tw520745962638354310 tw10255898465017394966 tw13029290551903419560 tw5191373458828988489 tw17223774989550415283 tw5013892384518423476 tw10736108212577677843 tw1054820941413560018 tw2378384976503526696 tw8359269745410182724 tw5804338355569648868 tw4372013437311517681 tw9390984704681517475 tw5240758959857652166 tw9407049977368623937 tw12243295079100910069 tw18214185664586833619 tw10264532876876109725 tw9716353660275797259 tw3125992473987418672 tw1925889193614911429 tw6927490385636567544 tw5230285253339977970 tw13346517677638783750 tw10554487864348538619 tw10553220504402701381 tw7034435043493409160 tw17498806385375587162 tw10236164835139753499 tw5213606672105242786 tw10311075350808266193 tw4043861707574037329 tw6631505585402296810 tw5082428235544297833 tw1168486508121574373 tw11849702651027792784 tw8879136752528597444 tw8099635864334786301 tw2172594462376035275 tw13474160970916106772 tw8338400086903028311 tw15229432887074500252 tw16383811390972073776 tw6338260719635181080 tw11256596750406955437 tw7586074571093195809 tw13568649584356634316 tw18179625473624391677 tw1299870387798759194 tw3100719968755593387 tw3577736892367148867 tw13563531980002701214 tw985618019771882064 tw4707935278346631477 tw4923718945802376934 tw574268130998509569:True)
open PySem PySem.W PyProof.Rows
set_option maxHeartbeats 0 in
theorem PySem.Challenge.cw_armswing_k65_whole_least_cut_holds : PySem.Challenge.rw_armswing_k65_whole_least_cut.Holds := by
 w_on; o_law; k_head; (case hw => w_witness2)
 k_fill
 refine _L.walk_lawT (l := PySem.Challenge.rw_armswing_k65_whole_least_cut) (k := 12) (x := "_law_script") rfl rfl ⟨rfl, by decide, by decide⟩ (λw h Y => PySem.W.km_in_of Y) ?nt ?F
 case nt => intro w; first | k_is | rfl
 case F =>
  intro w mg fa h Y KX G hmg
  refine' _W.all_mk KX G hmg ..
  all_goals ((try unfold _W.Nq_); (try unfold _W.No_); (try unfold _W.Ni_); first | k_is | kit_is | k_exc | exact _L.fun_mk (by k_is) (by k_is) (by k_is) | rfl | exact PySem.W.km_tabs_of Y _ (by decide) | decide +kernel | kernel_rfl | skip)

import PyProof.Rows.All
import Wide.All
import OpenK.AllK
import Wide.FinOn
import Lean
import PyProof.EqAt
import PyProof.EqKinds
import PyProof.TupleCall
import PySem.Challenge.RW_armswing_k55_shares_wait
set_option compiler.extract_closed false
set_option Elab.async false
set_option linter.all false
set_option maxRecDepth 100000
namespace _L
theorem _x1{A:Sort _}{p:A->Prop}{Q:Prop}(h:∃a,p a)(k:∀a,p a->Q):Q:=h.elim k
theorem _x2{A B:Sort _}{p:A->B->Prop}{Q:Prop}(h:∃a b,p a b)(k:∀a b,p a b->Q):Q:=h.elim fun a h=>_x1 h (k a)
theorem _x3{A B C:Sort _}{p:A->B->C->Prop}{Q:Prop}(h:∃a b c,p a b c)(k:∀a b c,p a b c->Q):Q:=h.elim fun a h=>_x2 h (k a)
theorem _x4{A B C D:Sort _}{p:A->B->C->D->Prop}{Q:Prop}(h:∃a b c d,p a b c d)(k:∀a b c d,p a b c d->Q):Q:=h.elim fun a h=>_x3 h (k a)
theorem _x5{A B C D E:Sort _}{p:A->B->C->D->E->Prop}{Q:Prop}(h:∃a b c d e,p a b c d e)(k:∀a b c d e,p a b c d e->Q):Q:=h.elim fun a h=>_x4 h (k a)
theorem _x6{A B C D E F:Sort _}{p:A->B->C->D->E->F->Prop}{Q:Prop}(h:∃a b c d e f,p a b c d e f)(k:∀a b c d e f,p a b c d e f->Q):Q:=h.elim fun a h=>_x5 h (k a)
theorem _x7{A B C D E F G:Sort _}{p:A->B->C->D->E->F->G->Prop}{Q:Prop}(h:∃a b c d e f g,p a b c d e f g)(k:∀a b c d e f g,p a b c d e f g->Q):Q:=h.elim fun a h=>_x6 h (k a)
theorem _x8{A B C D E F G H:Sort _}{p:A->B->C->D->E->F->G->H->Prop}{Q:Prop}(h:∃a b c d e f g h,p a b c d e f g h)(k:∀a b c d e f g h,p a b c d e f g h->Q):Q:=h.elim fun a h=>_x7 h (k a)
theorem _x9{A B C D E F G H I:Sort _}{p:A->B->C->D->E->F->G->H->I->Prop}{Q:Prop}(h:∃a b c d e f g h i,p a b c d e f g h i)(k:∀a b c d e f g h i,p a b c d e f g h i->Q):Q:=h.elim fun a h=>_x8 h (k a)
theorem _a1{A B Q:Prop}(h:A/\B)(k:A->B->Q):Q:=k h.1 h.2
theorem _a2{A B C Q:Prop}(h:A/\B/\C)(k:A->B->C->Q):Q:=_a1 h.2 (k h.1)
theorem _a3{A B C D Q:Prop}(h:A/\B/\C/\D)(k:A->B->C->D->Q):Q:=_a2 h.2 (k h.1)
theorem _a4{A B C D E Q:Prop}(h:A/\B/\C/\D/\E)(k:A->B->C->D->E->Q):Q:=_a3 h.2 (k h.1)
theorem _a5{A B C D E F Q:Prop}(h:A/\B/\C/\D/\E/\F)(k:A->B->C->D->E->F->Q):Q:=_a4 h.2 (k h.1)
theorem _a6{A B C D E F G Q:Prop}(h:A/\B/\C/\D/\E/\F/\G)(k:A->B->C->D->E->F->G->Q):Q:=_a5 h.2 (k h.1)
theorem _a7{A B C D E F G H Q:Prop}(h:A/\B/\C/\D/\E/\F/\G/\H)(k:A->B->C->D->E->F->G->H->Q):Q:=_a6 h.2 (k h.1)
theorem _a8{A B C D E F G H I Q:Prop}(h:A/\B/\C/\D/\E/\F/\G/\H/\I)(k:A->B->C->D->E->F->G->H->I->Q):Q:=_a7 h.2 (k h.1)
theorem _a9{A B C D E F G H I J Q:Prop}(h:A/\B/\C/\D/\E/\F/\G/\H/\I/\J)(k:A->B->C->D->E->F->G->H->I->J->Q):Q:=_a8 h.2 (k h.1)
end _L
local macro_rules|`(tactic|obtain $p:rcasesPatMed:=$e:term)=>do
 let p:=p.raw
 let t:=p[0][0]
 let s:=t[1].getSepArgs
 let n:=s.size
 if p[0].getNumArgs != 1||t[0].getAtomVal != "⟨"||n<2 then Lean.Macro.throwUnsupported
 let z←`(tactic|rcases $e:term with ($(⟨p⟩):rcasesPatMed))
 let I:=Lean.mkIdent
 let g:=e.raw.getId
 let r:=I (.num (if e.raw.isIdent then g else `p) n)
 if !e.raw.isIdent then return←`(tactic|first|(have $r:ident:=$e;obtain $(⟨p⟩):rcasesPatMed:=$r:ident)|$z:tactic)
 let v:Array (Lean.Term×Array (Lean.TSyntax `tactic))←s.mapIdxM fun i x=>do
  let y:=x[0][0]
  let f:=I (.num g i)
  if y.getNumArgs==1&&y[0][0].isIdent&&y[0][0].getId != `rfl then return(⟨y[0][0]⟩,#[]) else return(⟨f.raw⟩,#[←`(tactic|rcases $f:ident with $(⟨x⟩):rcasesPatLo)])
 let y:Lean.TSyntax `tactic←((List.range 18).filter fun i=>i%9+1<n).foldlM (init:=z) fun (z:Lean.TSyntax `tactic) (i:Nat)=>do
  let k:=i%9+1
  let l:=I (.str `_L ((if i<9 then"_a"else"_x")++toString k))
  let q:=k+1==n
  let a:=v.extract 0 (if q then n else k)
  let m:=p.setArg 0 (p[0].setArg 0 (t.setArg 1 (Lean.Syntax.mkSep (s.extract k n) (.atom .none ", "))))
  let x←`(tactic|obtain $(⟨m⟩):rcasesPatMed:=$r:ident)
  let o:=a.flatMap (fun x=>x.2)++if q then#[]else#[x]
  let a:=a.map (fun x=>x.1)++if q then#[]else#[⟨r.raw⟩]
  `(tactic|first|(refine $l $e ?_;(try clear $e);intro $a*;$[$o:tactic];*)|$z:tactic)
 return y
local macro_rules|`(tactic|rintro $p:rintroPat*)=>do
 let some i:=p.findIdx? fun p=>p.raw[0][0].getAtomVal=="⟨"&&p.raw[0][1].getSepArgs.size>2|Lean.Macro.throwUnsupported
 let r:=Lean.mkIdent (.num `p i)
 let t←`(tactic|(rintro $((p.extract 0 i).push (←`(rintroPat|$r:ident))):rintroPat*;obtain $(⟨p[i]!.raw[0]⟩):rcasesPat:=$r:ident))
 let b:=p.extract (i+1) p.size
 if b.isEmpty then return t else`(tactic|($t:tactic;rintro $b:rintroPat*))
local macro_rules|`(tactic|rcases $e:term with $p:rcasesPatLo)=>do
 let t:=p.raw[0][0]
 if p.raw[1].getNumArgs != 0||t.getNumArgs != 1||t[0][0].getAtomVal != "⟨"||t[0][1].getSepArgs.size<2 then Lean.Macro.throwUnsupported
 `(tactic|obtain $(⟨p.raw[0]⟩):rcasesPatMed:=$e)
local macro_rules|`(∅)=>`(by lia)
local macro_rules|`(⋯)=>`(by decide)
local macro_rules|`(‹$x›)=>`($x rfl rfl (by rfl) (by rfl) (by repeat (first|exact trivial|refine ⟨rfl,?_⟩)) (by rfl) (by rfl) (by rfl) (by decide) (by decide +kernel))
theorem OL_{α:Sort _}{a:α}{b:Prop}:a=a\/b:=.inl rfl
namespace _L
open PySem PySem.Spec PyProof.Rows
abbrev iV:=@Around.under_plainId
abbrev Gk:=@Array.Perm.refl
abbrev yz:=@Array.getD_eq_getD_getElem?
abbrev yC:=@Array.getElem?_eq_getElem
abbrev BH:=@Array.getElem?_toList
abbrev BI:=@Array.length_toList
abbrev yD:=@Bool.and_eq_true
abbrev nW:=@Bool.eq_iff_iff
abbrev gg:=@Bool.false_ne_true
abbrev BJ:=@Calls.callWith_builtin
abbrev Gm:=@Calls.evalArgs_plain
abbrev rX:=@Calls.spliced_cons
abbrev um:=@Calls.spliced_nil
abbrev vU:=@Classical.not_not
abbrev Gn:=@F.entry_min_loop
abbrev Gp:=@F.entry_set_update_loop
abbrev uo:=@F.plain_min_loop
abbrev vV:=@F.plain_set_update_loop
abbrev yE:=@Heap.SameBut.update
abbrev BK:=@Heap.get?_none_of_le
abbrev bW:=@Heap.get?_push_of_some
abbrev e_:=@Heap.get?_push_size
abbrev l9:=@Heap.get?_update_other
abbrev qB:=@Heap.get?_update_self
abbrev bK:=@Heap.lt_size
abbrev BL:=@Heap.size_push
abbrev BN:=@Int.emod_eq_of_lt
abbrev pD:=@Int.emod_lt_of_pos
abbrev nX:=@Int.emod_nonneg
abbrev iW:=@Int.le_refl
abbrev rY:=@Int.mul_le_mul
abbrev BO:=@Int.mul_le_mul_of_nonneg_left
abbrev RJ:=@Int.mul_le_mul_of_nonneg_right
abbrev vW:=@Int.one_mul
abbrev yF:=@Int.toNat_natCast
abbrev nY:=@Int.toNat_of_nonneg
abbrev BP:=@List.Pairwise.imp
abbrev qC:=@List.all_eq_true
abbrev uq:=@List.any_cons
abbrev qD:=@List.append_assoc
abbrev pF:=@List.append_nil
abbrev ur:=@List.cons_append
abbrev vX:=@List.countP_append
abbrev vY:=@List.countP_singleton
abbrev Gq:=@List.dropLast_concat_getLast
abbrev BQ:=@List.drop_eq_getElem_cons
abbrev qE:=@List.filter_append
abbrev Gr:=@List.filter_congr
abbrev lE:=@List.filter_cons
abbrev pG:=@List.filter_cons_of_neg
abbrev pH:=@List.filter_cons_of_pos
abbrev BR:=@List.filter_map
abbrev BS:=@List.find?_eq_none
abbrev BU:=@List.find?_eq_some_iff_append
abbrev Gs:=@List.flatMap_append
abbrev Gu:=@List.flatMap_cons
abbrev vZ:=@List.flatten_cons
abbrev BV:=@List.foldl_append
abbrev qF:=@List.foldl_cons
abbrev qG:=@List.getD_eq_getElem?_getD
abbrev gw:=@List.getElem?_append_left
abbrev gz:=@List.getElem?_append_right
abbrev Gv:=@List.getElem?_cons_succ
abbrev bx:=@List.getElem?_eq_getElem
abbrev uv:=@List.getElem?_eq_none
abbrev fD:=@List.getElem?_eq_some_iff
abbrev gR:=@List.getElem?_map
abbrev BW:=@List.getElem?_set_ne
abbrev Gw:=@List.getElem?_set_self
abbrev cU:=@List.getElem_mem
abbrev Gx:=@List.getElem_toArray
abbrev fE:=@List.length_append
abbrev gA:=@List.length_cons
abbrev Gy:=@List.length_eq_zero_iff
abbrev Gz:=@List.length_eraseIdx
abbrev pI:=@List.length_filter_le
abbrev aK:=@List.length_map
abbrev GA:=@List.length_pos_of_mem
abbrev jF:=@List.length_range
abbrev BX:=@List.length_replicate
abbrev yG:=@List.length_set
abbrev rZ:=@List.length_singleton
abbrev fc:=@List.length_take
abbrev bO:=@List.map_append
abbrev c9:=@List.map_cons
abbrev nZ:=@List.map_map
abbrev cF:=@List.mem_append
abbrev n8:=@List.mem_append_left
abbrev fF:=@List.mem_append_right
abbrev cg:=@List.mem_cons
abbrev cB:=@List.mem_cons_of_mem
abbrev eB:=@List.mem_cons_self
abbrev gB:=@List.mem_filter
abbrev BY:=@List.mem_filterMap
abbrev r9:=@List.mem_flatMap
abbrev r_:=@List.mem_iff_getElem
abbrev cH:=@List.mem_map
abbrev l_:=@List.mem_map_of_mem
abbrev iC:=@List.mem_of_getElem?
abbrev yH:=@List.mem_of_mem_take
abbrev GB:=@List.mem_or_eq_of_mem_set
abbrev gC:=@List.mem_range
abbrev cj:=@List.mem_singleton
abbrev se:=@List.nodup_append
abbrev mh:=@List.nodup_cons
abbrev pJ:=@List.nodup_iff_pairwise_ne
abbrev BZ:=@List.nodup_nil
abbrev yI:=@List.nodup_range
abbrev B0:=@List.of_mem_zip
abbrev GC:=@List.pairwise_append
abbrev v_:=@List.pairwise_iff_getElem
abbrev qH:=@List.pairwise_map
abbrev n_:=@List.range_succ
abbrev qI:=@List.replicate_succ
abbrev GD:=@List.reverse_cons
abbrev GF:=@List.reverse_reverse
abbrev gU:=@List.size_toArray
abbrev sf:=@List.sum_cons
abbrev uw:=@List.take_append_drop
abbrev RK:=@List.take_append_of_le_length
abbrev eG:=@List.take_length
abbrev GG:=@Nat.add_le_add_left
abbrev kF:=@Nat.le_of_lt
abbrev bu:=@Nat.le_refl
abbrev oh:=@Nat.le_succ
abbrev dQ:=@Nat.le_trans
abbrev jX:=@Nat.lt_irrefl
abbrev B3:=@Nat.lt_of_le_of_lt
abbrev gJ:=@Nat.lt_of_lt_of_le
abbrev B4:=@Nat.lt_succ_of_lt
abbrev B5:=@Nat.lt_succ_self
abbrev iX:=@Nat.lt_trans
abbrev ux:=@Nat.min_eq_left
abbrev GH:=@Nat.min_eq_right
abbrev kG:=@Nat.ne_of_gt
abbrev b9:=@Nat.ne_of_lt
abbrev sr:=@Nat.zero_add
abbrev eX:=@Nat.zero_le
abbrev dR:=@Ne.symm
abbrev B6:=@Obj.data_mapFields
abbrev wc:=@Option.isSome_iff_exists
abbrev yJ:=@Option.isSome_map
abbrev B7:=@Option.map_some
abbrev dD:=@Option.some.inj
abbrev B8:=@Paired.length
abbrev dF:=@PassesOwn.never
abbrev uy:=@Prod.ext
abbrev RL:=@PyProof.Rows.callWith_builtin1
abbrev su:=@PyProof.Rows.callWith_type1
abbrev GI:=@PySem.F.entry_min_loop
abbrev RM:=@PySem.F.entry_proto_collect
abbrev GJ:=@PySem.F.plainAttrs_dict
abbrev jY:=@PySem.F.plainAttrs_list
abbrev B9:=@PySem.F.plain_list_iadd
abbrev uz:=@PySem.F.plain_min_loop
abbrev RN:=@PySem.F.plain_proto_collect
abbrev GK:=@PySem.F.slot_dict_get
abbrev mq:=@PySem.F.slot_list_append
abbrev mz:=@PySem.F.type_list_append
abbrev yK:=@PySem.W.callWith_K
abbrev yL:=@PySem.W.methodCall_KW
abbrev GL:=@PySem.W.plainGet_of
abbrev wg:=@PySem.mem_of_lookup
abbrev kH:=@W.mg_none_of
abbrev bC:=@W.mg_of
abbrev uA:=@Walks.list
abbrev lF:=@beq_eq_false_iff_ne
abbrev pK:=@beq_iff_eq
abbrev GN:=@beq_self_eq_true
abbrev dN:=@boot_len
abbrev sy:=@boot_min
abbrev yM:=@boot_tuple
abbrev GO:=@builtinLookup_eq_fast
abbrev yN:=@call_meets
abbrev B_:=@call_meetsIn
abbrev iD:=@codeAny_builtin
abbrev wj:=@codeAny_mono
abbrev gh:=@congrArg
abbrev yO:=@decide_eq_decide
abbrev jG:=@decide_eq_false
abbrev ig:=@decide_eq_true
abbrev sD:=@decide_eq_true_eq
abbrev wk:=@intKind_is
abbrev qJ:=@of_decide_eq_true
abbrev iY:=@plainId_quiet
abbrev RO:=@plainObj_wpAny_Assign_Attribute
abbrev pL:=@sizeLine_eq
abbrev yP:=@tupleKind_room_in1
abbrev GP:=@typeLookup_type
abbrev uB:=@wpAny_Call_Name_kw
abbrev sF:=@wpAny_askSetting
abbrev aF:=@wpAny_bind
abbrev yQ:=@wpAny_call_entry
abbrev Ca:=@wpAny_dictEntries
abbrev GQ:=@wpAny_eqBool_int
abbrev GS:=@wpAny_execs_cons
abbrev wm:=@wpAny_execs_nil
abbrev jg:=@wpAny_holding
abbrev GU:=@wpAny_isInstance
abbrev GV:=@wpAny_isTrue_Compare1
abbrev yR:=@wpAny_ite_split
abbrev sG:=@wpAny_letGo
abbrev jh:=@wpAny_mono
abbrev Cb:=@wpAny_newList
abbrev wu:=@wpAny_newObj_type
abbrev Cc:=@wpAny_of_eq
abbrev uC:=@wpAny_passesOwn
abbrev aV:=@wpAny_pure
abbrev wz:=@wpAny_pyIter_list
abbrev uD:=@wpAny_seqItems
abbrev GW:=@wpAny_setEntries_of
abbrev uE:=@wpAny_setState_of
abbrev Cd:=@wpAny_specialOf
abbrev oq:=@wpAny_truthy_bool
abbrev qK:=@wpAny_tryCatch
abbrev Ce:=@wpAny_typeOf
abbrev wA:=@wpAny_updateSeq
noncomputable abbrev Key:=Sum Int Str
noncomputable def uF:Key->Value->Bool
 | .inl k,v=>Value.isInt k v
 | .inr x,v=>Value.isStrOf x v
noncomputable def abA(w:World):Key->Int
 | .inl k=>hashInt k
 | .inr x=>hashStr w x
theorem qL:∀ {k:Key} {v:Value},uF k v=true->(∃i t,k=Sum.inl i/\v=Value.int i t)\/(∃x t,k=Sum.inr x/\v=Value.str x t)
 | .inl i,v,h=>by
  obtain⟨t,e⟩:=Value.isInt_shape (k:=i) (v:=v) h;exact .inl ⟨i,t,rfl,e⟩
 | .inr x,v,h=>by
  obtain⟨t,e⟩:=Value.isStrOf_shape (x:=x) (v:=v) h;exact .inr ⟨x,t,rfl,e⟩
theorem abB(i:Int)(t:Tok):uF (.inl i) (.int i t)=true:=by simp[uF,Value.isInt]
theorem abC(x:Str)(t:Tok):uF (.inr x) (.str x t)=true:=by simp[uF,Value.isStrOf]
theorem abD(a b:Int):decide ((Sum.inl a:Key)=Sum.inl b)=(a == b):=by
 by_cases e:a=b
 ·subst e;simp
 ·have h:¬ (Sum.inl a:Key)=Sum.inl b:=λq=>e (Sum.inl.inj q);rw[jG h];exact(lF.mpr e).symm
theorem abE(a b:Str):decide ((Sum.inr a:Key)=Sum.inr b)=decide (a=b):=by
 by_cases e:a=b
 ·subst e;simp
 ·have h:¬ (Sum.inr a:Key)=Sum.inr b:=λq=>e (Sum.inr.inj q);rw[jG h,jG e]
theorem abF(a:Int)(b:Str):decide ((Sum.inl a:Key)=Sum.inr b)=false:=jG (λq=>nomatch q)
theorem abG(a:Str)(b:Int):decide ((Sum.inr a:Key)=Sum.inl b)=false:=jG (λq=>nomatch q)
noncomputable def c_(prog:Program)(w:World):PySem.KeyKind prog w Key where
 is:=uF
 hash:=abA w
 inj:=λv a b ha hb=>by
  rcases qL ha with⟨i,t,rfl,rfl⟩ | ⟨x,t,rfl,rfl⟩
  ·rcases qL hb with⟨j,u,rfl,e⟩ | ⟨y,u,rfl,e⟩
   ·injection e with e1 _;rw[e1]
   ·exact nomatch e
  ·rcases qL hb with⟨j,u,rfl,e⟩ | ⟨y,u,rfl,e⟩
   ·exact nomatch e
   ·injection e with e1 _;rw[e1]
 byValue:=λk v h=>by
  rcases qL h with⟨i,t,rfl,rfl⟩ | ⟨x,t,rfl,rfl⟩ <;> rfl
 pyHash:=λhv h=>by
  rcases qL hv with⟨i,t,rfl,rfl⟩ | ⟨x,t,rfl,rfl⟩
  ·exact wpAny_pyHash_int h
  ·exact wpAny_pyHash_str h
 eqBool:=λhu hv h=>by
  rcases qL hu with⟨i,t,rfl,rfl⟩ | ⟨x,t,rfl,rfl⟩
  ·rcases qL hv with⟨j,u,rfl,rfl⟩ | ⟨y,u,rfl,rfl⟩
   ·rw[abD] at h;exact GQ h
   ·rw[abF] at h;exact SeqAt.EqAt.int_str i t y u _ _ _ _ h
  ·rcases qL hv with⟨j,u,rfl,rfl⟩ | ⟨y,u,rfl,rfl⟩
   ·rw[abG] at h;exact SeqAt.EqAt.str_int x t j u _ _ _ _ h
   ·rw[abE] at h;exact wpAny_eqBool_str h
 «strs» := λk x t v h=>by
  rcases qL h with⟨i,u,rfl,e⟩ | ⟨y,u,rfl,e⟩
  ·exact nomatch e
  ·injection e with e1 _;subst e1;cases v <;> rfl
theorem RP(prog:Program)(w:World)(i:Int)(t:Tok):(c_ prog w).is (.inl i) (.int i t)=true:=abB i t
theorem abH(prog:Program)(w:World)(x:Str)(t:Tok):(c_ prog w).is (.inr x) (.str x t)=true:=abC x t
inductive V where
 | aR | bl (b:Bool) | int (i:Int) | str (x:Str) | kI (b:Array UInt8) | Cf (b:UInt64) | ref (a:Addr) | ty (n:String)
 deriving DecidableEq
noncomputable def RelV:V->Value->Prop
 | .aR,u=>u=Value.none
 | .bl b,u=>u=Value.bool b
 | .int i,u=>∃t,u=Value.int i t
 | .str x,u=>∃t,u=Value.str x t
 | .kI b,u=>∃t,u=Value.bytes b t
 | .Cf b,u=>∃t,u=Value.float b t
 | .ref a,u=>u=Value.ref a
 | .ty n,u=>u=Value.type n
noncomputable abbrev Vals:List V->List Value->Prop:=Paired RelV
theorem Vals.length{xs:List V}{us:List Value}(r:Vals xs us):xs.length=us.length:=B8 r
theorem Vals.get:∀ {xs:List V} {us:List Value} {i:Nat} {x:V},Vals xs us->xs[i]? = some x->∃u,us[i]? = some u/\RelV x u
 | _,_,_,_,.nil,e=>by simp at e
 | _,_,0,_,.cons r _,e=>by simp at e;subst e;exact⟨_,rfl,r⟩
 | _,_,i+1,x,.cons _ t,e=>by
  obtain⟨u,h1,h2⟩:=Vals.get (i:=i) (x:=x) t (by simpa using e)
  exact⟨u,by simpa using h1,h2⟩
theorem Vals.set{x:V}{u:Value}(r:RelV x u):∀ {xs:List V} {us:List Value} (i:Nat),Vals xs us->Vals (xs.set i x) (us.set i u)
 | _,_,_,.nil=>.nil
 | _,_,0,.cons _ t=>.cons r t
 | _,_,i+1,.cons q t=>.cons q (Vals.set r i t)
theorem Vals.append{xs ys:List V}{us ws:List Value}(h:Vals xs us)(g:Vals ys ws):Vals (xs++ys) (us++ws):=by
 induction h with
 | nil=>exact g
 | cons r t ih=>exact .cons r ih
theorem Vals.take:∀ {xs:List V} {us:List Value} (n:Nat),Vals xs us->Vals (xs.take n) (us.take n)
 | _,_,0,_=>.nil
 | _,_,_+1,.nil=>.nil
 | _,_,n+1,.cons r t=>.cons r (Vals.take n t)
theorem Vals.drop:∀ {xs:List V} {us:List Value} (n:Nat),Vals xs us->Vals (xs.drop n) (us.drop n)
 | _,_,0,r=>r
 | _,_,_+1,.nil=>.nil
 | _,_,n+1,.cons _ t=>Vals.drop n t
noncomputable def iE:Option V->Option Value->Prop
 | some v,some u=>RelV v u
 | none,none=>True
 | _,_=>False
def KV{κ:Type}:List (κ×V)->List (κ×Value)->Prop:=Paired λ(p:κ×V) (q:κ×Value)=>p.1=q.1/\RelV p.2 q.2
noncomputable def kV:Key->V
 | .inl i=>.int i
 | .inr x=>.str x
inductive HO where
 /-- a list -/
 | lst (xs:List V)
 /-- a tuple (never changes) -/
 | tup (xs:List V)
 /-- a dict whose keys are ints and texts;one whose keys are tuples of ints and texts (the empty one is both) -/
 | dK (kvs:List (Key×V)) | dT (kvs:List (List Key×V))
 /-- a set of ints: its members,its size -/
 | set (S:Int->Bool) (n:Nat)
 /-- an instance of the class at C,its dict at dx,its attributes -/
 | ins (C dx:Addr) (fs:List (Str×V))
 /-- the dict of the instance at x -/
 | own (x:Addr)
 /-- the dict of an exception -/
 | xd (fs:List (Str×V))
 /-- a bound method,f of x -/
 | met (f x:Addr)
 /-- a range object lo,lo+1,.. below hi -/
 | GX (lo hi:Int)
 /-- a thing that is known to the object (the script;a dict while a loop walks it): read,never written while it is so -/
 | cK (o:Obj) (u:HO)
 /-- a code object's table -/
 | fY (ps:Array Value)
 /-- any other thing,by what is true of its one object (a def of one's own: SetO a S n:=HO.ext λh=>..) -/
 | ext (φ:Heap->Prop)
noncomputable abbrev Hp:=Addr->Option HO
noncomputable def upd(H:Hp)(a:Addr)(o:HO):Hp:=λb=>if b=a then some o else H b
theorem aD{H:Hp}{a:Addr}{o:HO}:upd H a o a=some o:=by unfold upd;rw[if_pos rfl]
theorem aB{H:Hp}{a b:Addr}{o:HO}(h:b≠a):upd H a o b=H b:=by unfold upd;rw[if_neg h]
theorem abI{H:Hp}{a:Addr}{o u:HO}:upd (upd H a o) a u=upd H a u:=by
 funext b;unfold upd;split <;> rfl
theorem jH{H:Hp}{a b:Addr}{o u:HO}(h:H a=some o)(h':H b=some u)(d:o≠u):a≠b:=by
 intro e;subst e;rw[h] at h';exact d (dD h')
theorem b7{H:Hp}{a b:Addr}{o:HO}(h:H a=some o)(h':H b=none):a≠b:=by
 intro e;subst e;rw[h] at h';cases h'
section
variable(P:Program)(w:World)
noncomputable def fM(H:Hp)(h:Heap)(a:Addr):HO->Prop
 | .lst xs=>xs.length<=sizeLine/\∃(its:List Value) (n:Nat),Vals xs its/\h.get? a=some { cls:=.type "list",data:=.seq its.toArray n }
 | .tup xs=>xs.length<=sizeLine/\∃its:List Value,Vals xs its/\IsTup h a its.toArray
 | .dK kvs=>kvs.length<=sizeLine/\(a == sysModules)=false/\∃vs,KV kvs vs/\h.DictOf (c_ P w) a vs
 | .dT kvs=>kvs.length<=sizeLine/\(a == sysModules)=false/\∃xs:List (List Key×Addr×Value),
   Paired (λ(p:List Key×V) (q:List Key×Addr×Value)=>p.1=q.1/\H q.2.1=some (.tup (p.1.map kV))/\RelV p.2 q.2.2) kvs xs/\
   ∃o es ep,h.get? a=some o/\o.ExactDict/\o.data = .dict es ep/\es.toList=xs.map (entryOfKey (tupleKind (c_ P w)))/\(xs.map (·.1)).Nodup
 | .set S n=>h.SetOf (intKind P w) a S n
 | .ins C dx fs=>H dx=some (.own a)/\fs.length<=1000/\dx≠a/\h.get? a=some (PySem.W.instObj C dx)/\
   ∃mA,h.Ns1 dx mA/\(∀f,iE (fs.lookup f) (mA f))/\PySem.Within mA (fs.map (·.1))
 | .own _=>∃o,h.get? a=some o
 | .xd fs=>∃mA,h.Ns1 a mA/\∀f,iE (fs.lookup f) (mA f)
 | .GX lo hi=>∃t u v,h.get? a=some { cls:=.type "range",data:=.fields #[.int lo t,.int hi u,.int 1 v] }
 | .cK o u=>h.get? a=some o/\fM H h a u
 | .fY ps=>h.get? a=some { cls:=.none,data:=.fields ps }
 | .met f x=>h.get? a=some (PySem.W.methodObj (.ref f) (.ref x))
 | .ext φ=>φ h/\(∃o,h.get? a=some o)/\∀h1 h2:Heap,φ h1->(∀o,h1.get? a=some o->h2.get? a=some o)->φ h2
def eK(H:Hp)(h:Heap):Prop:=∀a o,H a=some o->fM P w H h a o
end
section
variable{P:Program}{w:World}{H H':Hp}{h h':Heap}{a:Addr}{o:HO}
theorem fM.lt(x:fM P w H h a o):a<h.objs.size:=by
 cases o with
 | lst xs=>obtain⟨_,_,_,_,e⟩:=x;exact bK e
 | tup xs=>obtain⟨_,_,_,p⟩:=x;exact p.lt
 | dK kvs=>obtain⟨_,_,_,_,o,_,_,e,_⟩:=x;exact bK e
 | dT kvs=>obtain⟨_,_,_,_,o,_,_,e,_⟩:=x;exact bK e
 | set S n=>obtain⟨o,_,_,_,e,_⟩:=x;exact bK e
 | ins C dx fs=>obtain⟨_,_,_,e,_⟩:=x;exact bK e
 | own y=>obtain⟨_,e⟩:=x;exact bK e
 | xd fs=>obtain⟨_,⟨_,_,_,e,_⟩,_⟩:=x;exact bK e
 | GX lo hi=>obtain⟨_,_,_,e⟩:=x;exact bK e
 | cK ob u=>obtain⟨e,_⟩:=x;exact bK e
 | fY ps=>exact bK (show h.get? a=some _ from x)
 | met f y=>exact bK (show h.get? a=some _ from x)
 | ext φ=>obtain⟨_,⟨_,e⟩,_⟩:=x;exact bK e
theorem Paired.RQ{α β:Type}{F G:α->β->Prop}{l₁:List α}{l₂:List β}(h:Paired F l₁ l₂)(f:∀a b,F a b->G a b):Paired G l₁ l₂:=by
 induction h with
 | nil=>exact .nil
 | cons r t ih=>exact .cons (f _ _ r) ih
theorem fM.kJ(x:fM P w H h a o)(k:∀b u,(b=a\/H b=some (.own a))->h.get? b=some u->h'.get? b=some u)
  (ho:∀b,H b=some (.own a)->H' b=some (.own a)) (ht:∀b xs,H b=some (.tup xs)->H' b=some (.tup xs)):fM P w H' h' a o:=by
 induction o with
 | lst xs=>obtain⟨z,its,n,r,e⟩:=x;exact⟨z,its,n,r,k _ _ (.inl rfl) e⟩
 | tup xs=>obtain⟨z,its,r,ob,e,c⟩:=x;exact⟨z,its,r,ob,k _ _ (.inl rfl) e,c⟩
 | dK kvs=>obtain⟨z,y,vs,r,ob,es,ep,e,c⟩:=x;exact⟨z,y,vs,r,ob,es,ep,k _ _ (.inl rfl) e,c⟩
 | dT kvs =>
  obtain⟨z,y,xs,r,ob,es,ep,e,c⟩:=x;exact⟨z,y,xs,Paired.RQ r λp q z=>⟨z.1,ht _ _ z.2.1,z.2.2⟩,ob,es,ep,k _ _ (.inl rfl) e,c⟩
 | set S n=>obtain⟨ob,es,ep,t,e,c⟩:=x;exact⟨ob,es,ep,t,k _ _ (.inl rfl) e,c⟩
 | ins C dx fs =>
  obtain⟨d,z,ne,e,mA,⟨od,es,ep,e2,c⟩,r⟩:=x;exact⟨ho _ d,z,ne,k _ _ (.inl rfl) e,mA,⟨od,es,ep,k _ _ (.inr d) e2,c⟩,r⟩
 | own y=>obtain⟨ob,e⟩:=x;exact⟨ob,k _ _ (.inl rfl) e⟩
 | xd fs=>obtain⟨mA,⟨od,es,ep,e,c⟩,r⟩:=x;exact⟨mA,⟨od,es,ep,k _ _ (.inl rfl) e,c⟩,r⟩
 | GX lo hi=>obtain⟨t,u,v,e⟩:=x;exact⟨t,u,v,k _ _ (.inl rfl) e⟩
 | cK ob u ih=>obtain⟨e,q⟩:=x;exact⟨k _ _ (.inl rfl) e,ih q⟩
 | fY ps =>
  have e:h.get? a=some { cls:=.none,data:=.fields ps }:=x
  show h'.get? a=some { cls:=.none,data:=.fields ps };exact k a _ (.inl rfl) e
 | met f y =>
  have e:h.get? a=some (PySem.W.methodObj (.ref f) (.ref y)):=x
  show h'.get? a=some (PySem.W.methodObj (.ref f) (.ref y));exact k a _ (.inl rfl) e
 | ext φ=>obtain⟨p,⟨o,e⟩,st⟩:=x;exact⟨st _ _ p λo q=>k _ _ (.inl rfl) q,⟨o,k _ _ (.inl rfl) e⟩,st⟩
theorem eK.lt(x:eK P w H h)(e:H a=some o):a<h.objs.size:=(x a o e).lt
theorem eK.fresh(x:eK P w H h)(e:h.objs.size<=a):H a=none:=by
 cases q:H a with
 | none=>rfl
 | some u=>exact absurd (gJ (x.lt q) e) (jX _)
theorem eK.kept(x:eK P w H h)(k:∀b u,h.get? b=some u->h'.get? b=some u):eK P w H h':=λa o e =>
 (x a o e).kJ (λb u _ q=>k b u q) (λ_ q=>q) λ_ _ q=>q
theorem eK.laid(x:eK P w H h)(k:∀b u,h.get? b=some u->h'.get? b=some u)(hp:h.objs.size<=a)(new:fM P w (upd H a o) h' a o):eK P w (upd H a o) h':=λb u e=>by
 have hn:=x.fresh hp;by_cases hb:b=a
 ·subst hb;rw[aD] at e;cases e;exact new
 ·rw[aB hb] at e;exact(x b u e).kJ (λc v _ q=>k c v q) (λc q=>by rw[aB (b7 q hn)];exact q) λc xs q=>by rw[aB (b7 q hn)];exact q
end
def Rd(H:Hp)(a:Addr)(u:HO):Prop:=H a=some u\/∃o,H a=some (.cK o u)
theorem Rd.ok{P:Program}{w:World}{H:Hp}{h:Heap}{a:Addr}{u:HO}(r:Rd H a u)(x:eK P w H h):fM P w H h a u:=by
 rcases r with r | ⟨o,r⟩
 ·exact x a u r
 ·obtain⟨_,q⟩:=x a _ r;exact q
noncomputable def yS:Option HO->Prop
 | some (.lst _)=>True
 | some (.dK _)=>True
 | some (.dT _)=>True
 | some (.set _ _)=>True
 | some (.ins _ _ _)=>True
 | some (.ext _)=>True
 | _=>False
section
variable{P:Program}{w:World}{H:Hp}{h h':Heap}{x e:Addr}{o':HO}
theorem eK.write(ok:eK P w H h)(mu:yS (H x))(he:e=x\/H e=some (.own x))(k:∀b u,b≠e->h.get? b=some u->h'.get? b=some u)(wB:∃u,h'.get? e=some u)
  (new:fM P w (upd H x o') h' x o'):eK P w (upd H x o') h':=λb u q=>by
 have RS:∀c y,H c=some (.own y)->c≠x:=λc y r z=>by subst z;rw[r] at mu;exact mu
 have abJ:∀c xs,H c=some (.tup xs)->c≠x:=λc xs r z=>by subst z;rw[r] at mu;exact mu
 by_cases hb:b=x
 ·subst hb;rw[aD] at q;cases q;exact new
 ·rw[aB hb] at q;by_cases uG:b=e
  ·have q':H b=some (.own x):=by
    rcases he with z | z
    ·exact absurd (uG.trans z) hb
    ·rw[uG];exact z
   rw[q] at q';cases q';obtain⟨v,hv⟩:=wB;exact⟨v,by rw[uG];exact hv⟩
  ·refine(ok b u q).kJ (λc v hc r=>k c v ?_ r) (λc r=>by rw[aB (RS c b r)];exact r) λc xs r=>by rw[aB (abJ c xs r)];exact r
   rcases hc with rfl | hc
   ·exact uG
   ·rintro rfl;rcases he with z | z
    ·exact RS c b hc z
    ·rw[hc] at z;cases z;exact hb rfl
end
structure Un(fs ex:List Addr)(H H':Hp)(h h':Heap):Prop where
 keep:∀b o,h.get? b=some o->H b=none->b∉fs->b∉ex->h'.get? b=some o
 slot:∀b o,h.get? b=some o->H b=none->b∈fs->b∉ex->∃sl,h'.get? b=some { o with slots:=sl }
 free:∀b o,h.get? b=some o->H b=none->b∉ex->H' b=none
 there:∀b o,h.get? b=some o->b∉ex->∃o',h'.get? b=some o'
 pM:∀b xs,H b=some (.tup xs)->H' b=some (.tup xs)
 ou:∀b o u,H b=some (.cK o u)->H' b=some (.cK o u)
 pN:∀b ps,H b=some (.fY ps)->∃more,H' b=some (.fY (ps++more))
section
variable{fs RT ex ex':List Addr}{H H1 H2:Hp}{h h1 h2 h':Heap}{a x e:Addr}{o:HO}
theorem Un.any(u:Un fs ex H H1 h h1){b:Addr}{ob:Obj}(q:h.get? b=some ob)(n:H b=none)(hx:b∉ex):∃sl,h1.get? b=some { ob with slots:=sl }:=by
 by_cases hb:b∈fs
 ·exact u.slot b ob q n hb hx
 ·exact⟨ob.slots,u.keep b ob q n hb hx⟩
theorem Un.kept(k:∀b u,h.get? b=some u->h'.get? b=some u):Un fs ex H H h h' :=
 ⟨λb ob q _ _ _=>k b ob q,λb ob q _ _ _=>⟨ob.slots,k b ob q⟩,λ_ _ _ n _=>n,λb ob q _=>⟨ob,k b ob q⟩,λ_ _ q=>q,λ_ _ _ q=>q,λ_ ps q=>⟨#[],by rw[q];simp⟩⟩
theorem Un.refl:Un fs ex H H h h:=Un.kept λ_ _ q=>q
theorem Un.laid(k:∀b u,h.get? b=some u->h'.get? b=some u)(hp:h.objs.size<=a)(hn:H a=none):Un fs ex H (upd H a o) h h' where
 keep:=λb u q _ _ _=>k b u q
 slot:=λb u q _ _ _=>⟨u.slots,k b u q⟩
 free:=λb u q n _=>by rw[aB (b9 (gJ (bK q) hp))];exact n
 there:=λb u q _=>⟨u,k b u q⟩
 pM:=λb xs q=>by rw[aB (b7 q hn)];exact q
 ou:=λb u xs q=>by rw[aB (b7 q hn)];exact q
 pN:=λb ps q=>⟨#[],by rw[aB (b7 q hn),q];simp⟩
theorem Un.write(mu:yS (H x))(he:e=x\/H e=some (.own x))(k:∀b u,b≠e->h.get? b=some u->h'.get? b=some u)(wB:∃u,h'.get? e=some u):Un fs ex H (upd H x o) h h':=by
 have hx:∀b,H b=none->b≠x:=λb n z=>by subst z;rw[n] at mu;exact mu
 have hb:∀b,H b=none->b≠e:=λb n z=>by
  subst z;rcases he with r | r
  ·exact hx b n r
  ·rw[n] at r;cases r
 have hm:∀b u,H b=some u->¬ yS (some u)->b≠x:=λb u q nm z=>by subst z;rw[q] at mu;exact nm mu
 refine⟨λb u q n _ _=>k b u (hb b n) q,λb u q n _ _=>⟨u.slots,k b u (hb b n) q⟩,λb u q n _=>by rw[aB (hx b n)];exact n,λb u q _=>?_,
  λb xs q=>by rw[aB (hm b _ q λz=>z)];exact q,λb u xs q=>by rw[aB (hm b _ q λz=>z)];exact q,λb ps q=>⟨#[],by rw[aB (hm b _ q λz=>z),q];simp⟩⟩
 by_cases uG:b=e
 ·subst uG;exact wB
 ·exact⟨u,k b u uG q⟩
end
noncomputable def Cg(h:Heap)(H:Hp):List Addr:=(List.range h.objs.size).filter λa=>(H a).isSome
noncomputable def jZ(h:Heap)(H:Hp):Heap:=PySem.W.hideAll h (Cg h H)
theorem RU(h:Heap)(H:Hp):(jZ h H).objs.size=h.objs.size:=PySem.W.hideAll_size _ _
theorem RV{h:Heap}{H:Hp}{b:Addr}{o:Obj}(e:h.get? b=some o)(n:H b=none):(jZ h H).get? b=some o :=
 PySem.W.hideAll_get _ e λhm=>by
  have q:(H b).isSome=true:=(gB.mp hm).2;rw[n] at q;simp at q
theorem RW{h:Heap}{H:Hp}{b:Addr}{o:Obj}(e:(jZ h H).get? b=some o):h.get? b=some o/\H b=none:=by
 have e':h.get? b=some o:=PySem.W.of_hideAll (Cg h H) e;refine⟨e',?_⟩;cases q:H b with
 | none=>rfl
 | some x =>
  have hm:b∈Cg h H:=gB.mpr ⟨gC.mpr (bK e'),by simp[q]⟩
  have z:(jZ h H).get? b=none:=PySem.W.hideAll_none (Cg h H) hm;rw[z] at e;cases e
noncomputable def Ci(g h:Heap)(L:Addr):List (Addr×Obj):=(List.range h.objs.size).filterMap λa=>if a=L\/(g.get? a).isSome=true then none else(h.get? a).map λo=>(a,o)
theorem RX{g h:Heap}{L a:Addr}{o:Obj}(h1:a≠L)(h2:g.get? a=none)(h3:h.get? a=some o):(a,o)∈Ci g h L :=
 BY.mpr ⟨a,gC.mpr (bK h3),by simp[h1,h2,h3]⟩
theorem abK{g h:Heap}{L:Addr}{p:Addr×Obj}(hp:p∈Ci g h L):p.1≠L/\g.get? p.1=none/\h.get? p.1=some p.2:=by
 obtain⟨b,_,e⟩:=BY.mp hp;split at e
 ·cases e
 ·rename_i hn;cases q:h.get? b with
  | none=>rw[q] at e;simp at e
  | some u =>
   rw[q] at e;simp only[Option.map_some,Option.some.injEq] at e;subst e;refine⟨λz=>hn (.inl z),?_,q⟩
   show g.get? b=none;cases r:g.get? b with
   | none=>rfl
   | some v=>exact(hn (.inr (by simp[r]))).elim
noncomputable def rest(g h:Heap)(L d:Addr):List (Addr×Obj):=(Ci g h L).filter λp=>decide (p.1≠d)
theorem Cj{g h:Heap}{L d:Addr}:∀p∈rest g h L d,p.1≠d:=λp hp=>qJ (gB.mp hp).2
theorem abL{g h:Heap}{L d a:Addr}{o:Obj}(h1:a≠L)(h2:g.get? a=none)(h3:h.get? a=some o)(h4:a≠d):(a,o)∈rest g h L d :=
 gB.mpr ⟨RX h1 h2 h3,ig h4⟩
theorem GY{g h:Heap}{L:Addr}:News g L h (Ci g h L):=λp hp=>let ⟨a,b,c⟩:=abK hp;⟨c,a,b⟩
theorem news_at{g h:Heap}{L d:Addr}{o:Obj}(h1:d≠L)(h2:g.get? d=none)(h3:h.get? d=some o):News g L h ((d,o)::rest g h L d):=λp hp=>by
 rcases cg.mp hp with rfl | hp
 ·exact⟨h3,h1,h2⟩
 ·exact GY p (gB.mp hp).1
theorem Ck{g h h':Heap}{L d:Addr}{m:Str->Option Value}(k:∀b o,g.get? b=some o->h.get? b=some o)(F:Fr g L h' m)(N:News g L h' (rest g h L d)) :
  ∀b o,b≠L->b≠d->h.get? b=some o->h'.get? b=some o:=λb o h1 h2 e=>by
 cases q:g.get? b with
 | some u =>
  have:=k b u q;rw[e] at this;cases this;exact F.keep b _ q
 | none=>exact(N (b,o) (abL h1 q e h2)).1
structure Mod(K:W.Frag)(mg:Str->Option Value)(base:Heap):Prop where
 uH:K.In base
 glob:base.Ns mainGlobals mg
 blt:∃mb,base.Ns builtinsNs mb/\∀x:Str,x≠"__name__"->mb x=bootBuiltins x
 nolimit:base.NoLimit
structure Cx where
 prog:Program
 w:World
 K:W.Frag
 mg:Str->Option Value
 base:Heap
 A:Around
 N:List Str
 eY:Shared
 iF:Hp
 env:Env
 outer:List Env
 stack:List Env
 ex:List Addr
 fn:Str->Bool
 calm:Bool
 pn:List (Addr×Obj)
 xe:Value->Shared->Prop
noncomputable def iZ(l:List Env):List Addr:=l.filterMap (·.frame)
noncomputable abbrev Cx.fs(X:Cx):List Addr:=iZ X.outer
def Cm(sc:Scope)(x:Str):Prop:=sc.names.lookup x=some .local\/sc.names.lookup x=some .cell\/sc.names.lookup x=some .free
def Loc(sc:Scope)(x:Str):Prop:=sc.names.lookup x=some .local\/sc.names.lookup x=some .cell
noncomputable def Look(env:Env)(h:Heap)(m:Str->Option Value)(x:Str)(u:Value):Prop :=
 (env.kindOf x=some .local/\m x=some u)\/((env.kindOf x=some .cell\/env.kindOf x=some .free)/\∃c,env.cells.lookup x=some c/\h.IsCell c (some u))
structure Cx.Ok(X:Cx):Prop where
 mod:Mod X.K X.mg X.base
 kind:X.env.scope.kind = .function
 glob:X.env.globals=mainGlobals
 blt:X.env.builtins=builtinsNs
 above:X.eY.heap.objs.size<=X.env.locals
 inj:∀x y c,X.env.cells.lookup x=some c->X.env.cells.lookup y=some c->x=y
 has:∀x,(X.env.kindOf x=some .cell\/X.env.kindOf x=some .free)->∃c,X.env.cells.lookup x=some c
 wC:∀x c,X.fn x=true->X.env.cells.lookup x=some c->X.eY.heap.objs.size<=c
 hd:X.calm=true->X.A.handled=none
 frames:X.A.frames=some X.stack
 yT:X.stack=X.outer\/(X.stack=X.env::X.outer/\X.env.frame=some X.env.locals)
 yU:∀b∈X.ex,b≠X.env.locals/\∀x c,X.env.cells.lookup x=some c->c≠b
 bs:∀b o,X.base.get? b=some o->X.eY.heap.get? b=some o/\X.iF b=none
 ji:X.base.objs.size<=X.eY.heap.objs.size
 wD:∀b o,X.base.get? b=some o->b∉X.ex
 wF:∀b∈X.ex,b∉X.fs
 lG:X.eY.heap.FunFrames X.base X.outer
 sH:∀b∈X.fs,X.iF b=none
structure Inv(X:Cx)(pins:List (Addr×Obj))(σ:List (Option V))(H:Hp)(s:Shared):Prop where
 ok:X.Ok
 os:s.os=X.eY.os
 bare:AllBare s.gens
 base:Un X.fs X.ex X.iF H X.eY.heap s.heap
 loc:∃m,s.heap.Ns X.env.locals m/\∀(i:Nat) (x:Str) (v:V),X.N[i]? = some x->σ[i]? = some (some v)->Cm X.env.scope x->∃u,RelV v u/\Look X.env s.heap m x u
 cell:∀x c,X.env.cells.lookup x=some c->∃v,s.heap.IsCell c v
 free:H X.env.locals=none
 mC:∀x c,X.env.cells.lookup x=some c->H c=none
 pin:∀p∈X.pn++pins,s.heap.get? p.1=some p.2/\H p.1=none/\p.1≠X.env.locals/\p.1∉X.fs/\∀v,p.2.data≠.cell v
 aL:eK X.prog X.w H s.heap
 len:σ.length=X.N.length
section
variable{X:Cx}{pins:List (Addr×Obj)}{σ:List (Option V)}{H H':Hp}{s:Shared}{h':Heap}
theorem Cx.Ok.abM(ok:X.Ok){b:Addr}{o:Obj}(e:X.base.get? b=some o):b∉X.fs:=λhb=>by
 have:=(ok.lG.mem hb).1;rw[e] at this;cases this
theorem Inv.bs(I:Inv X pins σ H s):∀b o,X.base.get? b=some o->s.heap.get? b=some o/\H b=none:=λb o e =>
 ⟨I.base.keep b o (I.ok.bs b o e).1 (I.ok.bs b o e).2 (I.ok.abM e) (I.ok.wD b o e),I.base.free b o (I.ok.bs b o e).1 (I.ok.bs b o e).2 (I.ok.wD b o e)⟩
theorem Inv.bk(I:Inv X pins σ H s):∀b o,X.base.get? b=some o->s.heap.get? b=some o:=λb o e=>(I.bs b o e).1
theorem Inv.mod(I:Inv X pins σ H s):Mod X.K X.mg X.base:=I.ok.mod
theorem Inv.iG(I:Inv X pins σ H s):X.K.In s.heap:=I.ok.mod.uH.keeps I.bk
theorem Inv.nolimit(I:Inv X pins σ H s):s.heap.NoLimit:=I.ok.mod.nolimit.keeps I.bk
theorem Inv.fr(I:Inv X pins σ H s):∃m,Fr X.base X.env.locals s.heap m :=
 let ⟨m,hn,_⟩:=I.loc
 ⟨m,hn,I.bk,dQ I.ok.ji I.ok.above⟩
theorem Inv.lt(I:Inv X pins σ H s):X.env.locals<s.heap.objs.size:=let ⟨_,hn,_⟩:=I.loc;hn.lt
theorem Inv.sz(I:Inv X pins σ H s):X.eY.heap.objs.size<=s.heap.objs.size:=dQ I.ok.above (kF I.lt)
theorem Inv.yV(I:Inv X pins σ H s){a:Addr}(h:s.heap.objs.size<=a):a∉X.fs:=λhb=>by
 obtain⟨_,o,ho,_⟩:=I.ok.lG.mem hb;exact absurd (gJ (bK ho) (dQ I.sz h)) (jX _)
theorem Inv.uI(I:Inv X pins σ H s):∀x c,X.env.cells.lookup x=some c->c≠X.env.locals:=λx c e z=>by
 obtain⟨v,o,ho,hd⟩:=I.cell x c e;obtain⟨m,⟨o',es,ep,gW,kK,_⟩,_⟩:=I.loc;rw[z,gW] at ho;cases ho;rw[kK] at hd;cases hd
theorem Inv.lG(I:Inv X pins σ H s):s.heap.FunFrames X.base X.outer:=by
 have all:∀(l:List Env),(∀b∈iZ l,b∈X.fs)->X.eY.heap.FunFrames X.base l->s.heap.FunFrames X.base l:=by
  intro l
  induction l with
  | nil=>intro _ _;trivial
  | cons env r ih =>
   intro hs hl;obtain⟨hk,⟨L,o,hf,hn,ho,hd⟩,hr⟩:=hl;have hL:L∈X.fs:=hs L (by unfold iZ;rw[List.filterMap_cons,hf];exact List.mem_cons_self)
   obtain⟨sl,e⟩:=I.base.slot L o ho (I.ok.sH L hL) hL λz=>I.ok.wF L z hL;exact⟨hk,⟨L,_,hf,hn,e,hd⟩,ih (λb hb=>hs b (by unfold iZ;rw[List.filterMap_cons,hf];exact List.mem_cons_of_mem _ hb)) hr⟩
 exact all X.outer (λ_ hb=>hb) I.ok.lG
theorem Inv.stack(I:Inv X pins σ H s):s.heap.FunFrames X.base X.stack:=by
 rcases I.ok.yT with e | ⟨e,hf⟩
 ·rw[e];exact I.lG
 ·rw[e];obtain⟨m,hn,_⟩:=I.loc;refine .cons (by rw[I.ok.kind];decide) hf hn ?_ I.lG
  exact BK (dQ I.ok.ji I.ok.above)
theorem Inv.GZ(I:Inv X pins σ H s):∀b∈iZ X.stack,b∈X.env.locals::X.fs:=λb hb=>by
 rcases I.ok.yT with e | ⟨e,hf⟩
 ·rw[e] at hb;exact cB _ hb
 ·rw[e] at hb;unfold iZ at hb;rw[List.filterMap_cons,hf] at hb;exact hb
theorem Inv.G0(I:Inv X pins σ H s):∀b∈iZ X.stack,H b=none:=λb hb=>by
 rcases cg.mp (I.GZ b hb) with e | hb
 ·rw[e];exact I.free
 ·obtain⟨_,o,ho,_⟩:=I.ok.lG.mem hb;exact I.base.free b o ho (I.ok.sH b hb) λz=>I.ok.wF b z hb
theorem Inv.step{g':Array GenState}{t':Nat}{d':Drawn}{ch:List Addr}(I:Inv X pins σ H s)
  (pO:∀b∈ch,(b∈X.ex\/X.eY.heap.objs.size<=b)/\b≠X.env.locals/\(∀x c,X.env.cells.lookup x=some c->c≠b)/\∀p∈X.pn++pins,p.1≠b)
  (keep:∀b o,b≠X.env.locals->b∉X.fs->b∉ch->s.heap.get? b=some o->H b=none->h'.get? b=some o)
  (slot:∀b o,b≠X.env.locals->b∈X.fs->b∉ch->s.heap.get? b=some o->H b=none->∃sl,h'.get? b=some { o with slots:=sl }) (free:∀b o,b∉ch->s.heap.get? b=some o->H b=none->H' b=none)
  (there:∀b o,b∉ch->s.heap.get? b=some o->∃o',h'.get? b=some o')
  (pM:∀b xs,H b=some (.tup xs)->H' b=some (.tup xs)) (ou:∀b o u,H b=some (.cK o u)->H' b=some (.cK o u)) (pN:∀b ps,H b=some (.fY ps)->∃more,H' b=some (.fY (ps++more)))
  (ns:∀m,s.heap.Ns X.env.locals m->h'.Ns X.env.locals m) (aL:eK X.prog X.w H' h') (hg:AllBare g') :
  Inv X pins σ H' { s with heap:=h',gens:=g',drawn:=d',toks:=t' }:=by
 have RY:∀b o,X.eY.heap.get? b=some o->b≠X.env.locals:=λb o e=>b9 (gJ (bK e) I.ok.above);have Cn:∀b o,X.eY.heap.get? b=some o->b∉X.ex->b∉ch:=λb o e hx hb=>by
  rcases(pO b hb).1 with z | z
  ·exact hx z
  ·exact absurd (gJ (bK e) z) (jX _)
 have cellK:∀x c,X.env.cells.lookup x=some c->∀v,s.heap.IsCell c v->h'.IsCell c v:=λx c e v ⟨o,ho,hd⟩=>by
  have yW:c∉ch:=λz=>(pO c z).2.2.1 x c e rfl;by_cases hc:c∈X.fs
  ·obtain⟨sl,q⟩:=slot c o (I.uI x c e) hc yW ho (I.mC x c e);exact⟨_,q,hd⟩
  ·exact⟨o,keep c o (I.uI x c e) hc yW ho (I.mC x c e),hd⟩
 refine⟨I.ok,I.os,hg,⟨λb o e n hb hx=>?_,λb o e n hb hx=>?_,λb o e n hx=>?_,λb o e hx=>?_,λb xs e=>pM b xs (I.base.pM b xs e),λb o xs e=>ou b o xs (I.base.ou b o xs e),λb ps e=>?_⟩,?_,λx c e=>?_,?_,λx c e=>?_,λp hp=>?_,aL,I.len⟩
 ·exact keep b o (RY b o e) hb (Cn b o e hx) (I.base.keep b o e n hb hx) (I.base.free b o e n hx)
 ·obtain⟨sl,e1⟩:=I.base.slot b o e n hb hx;obtain⟨sl',e2⟩:=slot b _ (RY b o e) hb (Cn b o e hx) e1 (I.base.free b o e n hx);exact⟨sl',e2⟩
 ·obtain⟨o',e1⟩:=I.base.there b o e hx;exact free b o' (Cn b o e hx) e1 (I.base.free b o e n hx)
 ·obtain⟨o',e1⟩:=I.base.there b o e hx;exact there b o' (Cn b o e hx) e1
 ·obtain⟨m1,e1⟩:=I.base.pN b ps e;obtain⟨m2,e2⟩:=pN b _ e1;exact⟨m1++m2,by rw[e2,Array.append_assoc]⟩
 ·obtain⟨m,hn,hl⟩:=I.loc;refine⟨m,ns m hn,λi x v e1 e2 e3=>?_⟩;obtain⟨u,r,l⟩:=hl i x v e1 e2 e3;refine⟨u,r,?_⟩;rcases l with l | ⟨k,c,e,z⟩
  ·exact .inl l
  ·exact .inr ⟨k,c,e,cellK x c e _ z⟩
 ·obtain⟨v,z⟩:=I.cell x c e;exact⟨v,cellK x c e v z⟩
 ·obtain⟨m,⟨o,_,_,ho,_⟩,_⟩:=I.loc;exact free _ o (λz=>(pO _ z).2.1 rfl) ho I.free
 ·obtain⟨v,o,ho,hd⟩:=I.cell x c e;exact free c o (λz=>(pO c z).2.2.1 x c e rfl) ho (I.mC x c e)
 ·obtain⟨e,n,ne,nf,d⟩:=I.pin p hp;have yW:p.1∉ch:=λz=>(pO p.1 z).2.2.2 p hp rfl;exact⟨keep p.1 p.2 ne nf yW e n,free p.1 p.2 yW e n,ne,nf,d⟩
theorem Inv.un{t':Nat}(I:Inv X pins σ H s)(u:Un X.fs [] H H' s.heap h')(aL:eK X.prog X.w H' h'):Inv X pins σ H' { s with heap:=h',toks:=t' }:=by
 obtain⟨m,⟨o,es,ep,ho,r⟩,_⟩:=id I.loc;obtain⟨sl,hL⟩:=u.any ho I.free (by simp)
 exact I.step (g':=s.gens) (d':=s.drawn) (ch:=[]) (λ_ z=>nomatch z) (λb o _ hb _ e n=>u.keep b o e n hb (by simp)) (λb o _ hb _ e n=>u.slot b o e n hb (by simp)) (λb o _ e n=>u.free b o e n (by simp)) (λb o _ e=>u.there b o e (by simp)) u.pM u.ou u.pN (λm' hm=>by
  obtain⟨o',ow,qM,gW,r'⟩:=hm;rw[ho] at gW;cases gW;exact⟨_,ow,qM,hL,r'⟩) aL I.bare
theorem Inv.call{g':Array GenState}{t':Nat}{d':Drawn}{ch:List Addr}(I:Inv X pins σ H s)(u:Un (iZ X.stack) ch H H' s.heap h')(aL:eK X.prog X.w H' h')(hg:AllBare g')
  (pO:∀b∈ch,(b∈X.ex\/X.eY.heap.objs.size<=b)/\b≠X.env.locals/\(∀x c,X.env.cells.lookup x=some c->c≠b)/\∀p∈X.pn++pins,p.1≠b) :
  Inv X pins σ H' { s with heap:=h',gens:=g',drawn:=d',toks:=t' }:=by
 obtain⟨m,⟨o,es,ep,ho,r⟩,_⟩:=id I.loc;obtain⟨sl,hL⟩:=u.any ho I.free λz=>(pO _ z).2.1 rfl;exact I.step (ch:=ch) pO (λb o hL hb hc e n=>u.keep b o e n (λz=>(cg.mp (I.GZ b z)).elim hL hb) hc) (λb o _ _ hc e n=>u.any e n hc) (λb o hc e n=>u.free b o e n hc) (λb o hc e=>u.there b o e hc) u.pM u.ou u.pN (λm' hm=>by
  obtain⟨o',ow,qM,gW,r'⟩:=hm;rw[ho] at gW;cases gW;exact⟨_,ow,qM,hL,r'⟩) aL hg
theorem Inv.turned{t':Nat}{it:Addr}(I:Inv X pins σ H s)(k:∀b o,b≠it->s.heap.get? b=some o->h'.get? b=some o)(hn:H it=none)(hL:it≠X.env.locals)
  (h1:it∈X.ex\/X.eY.heap.objs.size<=it) (h2:∀x c,X.env.cells.lookup x=some c->c≠it) (h3:∀p∈X.pn++pins,p.1≠it):Inv X pins σ H { s with heap:=h',toks:=t' }:=by
 have yX:∀b u,H b=some u->b≠it:=λb u e z=>by rw[z,hn] at e;cases e
 refine I.step (g':=s.gens) (d':=s.drawn) (ch:=[it]) (λb hb=>?_) (λb o _ _ hc e _=>k b o (λz=>hc (by simp[z])) e) (λb o _ _ hc e _=>⟨o.slots,k b o (λz=>hc (by simp[z])) e⟩) (λ_ _ _ _ n=>n)
  (λb o hc e=>⟨o,k b o (λz=>hc (by simp[z])) e⟩) (λ_ _ e=>e) (λ_ _ _ e=>e) (λb ps e=>⟨#[],by rw[e];simp⟩) (λm hm=>?_) (λb u e=>?_) I.bare
 ·have e:b=it:=by simpa using hb
  subst e;exact⟨h1,hL,h2,h3⟩
 ·obtain⟨o,es,ep,ho,r⟩:=hm;exact⟨o,es,ep,k _ o (dR hL) ho,r⟩
 ·refine(I.aL b u e).kJ (λc v hc q=>k c v ?_ q) (λ_ q=>q) λ_ _ q=>q;rcases hc with z | z
  ·rw[z];exact yX b u e
  ·exact yX c _ z
theorem Inv.tok(I:Inv X pins σ H s)(t:Nat):Inv X pins σ H { s with toks:=t }:=I.un (h':=s.heap) (t':=t) Un.refl I.aL
theorem Inv.kept{t':Nat}(I:Inv X pins σ H s)(k:∀b u,s.heap.get? b=some u->h'.get? b=some u):Inv X pins σ H { s with heap:=h',toks:=t' }:=I.un (Un.kept k) (I.aL.kept k)
theorem Inv.laid{a:Addr}{o:HO}{t':Nat}(I:Inv X pins σ H s)(k:∀b u,s.heap.get? b=some u->h'.get? b=some u)(hp:s.heap.objs.size<=a)(new:fM X.prog X.w (upd H a o) h' a o) :
  Inv X pins σ (upd H a o) { s with heap:=h',toks:=t' }:=I.un (Un.laid k hp (I.aL.fresh hp)) (I.aL.laid k hp new)
theorem Inv.write{x e:Addr}{o:HO}{t':Nat}(I:Inv X pins σ H s)(mu:yS (H x))(he:e=x\/H e=some (.own x))(k:∀b u,b≠e->s.heap.get? b=some u->h'.get? b=some u)(wB:∃u,h'.get? e=some u)
  (new:fM X.prog X.w (upd H x o) h' x o):Inv X pins σ (upd H x o) { s with heap:=h',toks:=t' }:=I.un (Un.write mu he k wB) (I.aL.write mu he k wB new)
theorem Inv.pQ{G1:List (Addr×Obj)}(I:Inv X pins σ H s)(h:∀p∈G1,s.heap.get? p.1=some p.2/\H p.1=none/\p.1≠X.env.locals/\p.1∉X.fs/\∀v,p.2.data≠.cell v):Inv X G1 σ H s :=
 ⟨I.ok,I.os,I.bare,I.base,I.loc,I.cell,I.free,I.mC,λp hp=>(cF.mp hp).elim (λz=>I.pin p (n8 _ z)) (h p),I.aL,I.len⟩
theorem RZ{N:List Str}(hN:N.Nodup){i j:Nat}{x:Str}(a:N[i]? = some x)(b:N[j]? = some x):i=j:=by
 obtain⟨h1,e1⟩:=fD.mp a;obtain⟨h2,e2⟩:=fD.mp b;exact(List.getElem_inj hN).mp (e1.trans e2.symm)
theorem R0{M:Model}{A:Around}{E:Value->Shared->Prop}{i:Nat}{x:Str}{v:V}{u:Value}{Q:Unit->Shared->Prop}(I:Inv X pins σ H s)(hN:X.N.Nodup)(hi:X.N[i]? = some x)(hx:Loc X.env.scope x)(r:RelV v u)
  (h:∀s',Inv X pins (σ.set i (some v)) H s'->(∃a,Heap.SameBut a s.heap s'.heap/\(a=X.env.locals\/X.env.cells.lookup x=some a))->Q () s') (hf:X.fn x=true\/X.env.scope.names.lookup x=some .local:=by first | exact .inl rfl | exact .inr rfl | assumption):wpAny M A (storeName X.env x u) Q E s:=by
 obtain⟨m,hn,hl⟩:=id I.loc;have abN:(X.env.scope.kind == .class || (X.env.scope.kind == .module && X.env.locals != X.env.globals))=false:=by rw[I.ok.kind];rfl
 have R1:i<σ.length:=by rw[I.len];exact(fD.mp hi).1
 have uI:=I.uI;have tracked:∀ {a:Addr} {h':Heap},(∃o,s.heap.get? a=some o/\H a=none)->Heap.SameBut a s.heap h'->eK X.prog X.w H h':=λ{a h'} ha hs b ob e=>by
  obtain⟨_,_,R3⟩:=ha;refine(I.aL b ob e).kJ (λc w' hc q=>(hs.2 c ?_).trans q) (λ_ q=>q) λ_ _ q=>q;rintro rfl;rcases hc with rfl | hc
  ·rw[R3] at e;cases e
  ·rw[R3] at hc;cases hc
 rcases hx with hk | hk
 ·refine wpAny_storeName_local hk hn (λh' hn' hs=>?_) abN;obtain⟨oL,_,_,uJ,_⟩:=id hn;refine h _ ⟨I.ok,I.os,I.bare,⟨λb o e n hb hx=>?_,λb o e n hb hx=>?_,I.base.free,λb o e hx=>?_,I.base.pM,I.base.ou,I.base.pN⟩,⟨_,hn',λj y v' e1 e2 e3=>?_⟩,λy c e=>?_,I.free,I.mC,λp hp=>?_,tracked ⟨oL,uJ,I.free⟩ hs,by simpa using I.len⟩ ⟨_,hs,.inl rfl⟩
  ·exact(hs.2 b (b9 (gJ (bK e) I.ok.above))).trans (I.base.keep b o e n hb hx)
  ·obtain⟨sl,e1⟩:=I.base.slot b o e n hb hx;exact⟨sl,(hs.2 b (b9 (gJ (bK e) I.ok.above))).trans e1⟩
  ·obtain⟨o',e1⟩:=I.base.there b o e hx;exact⟨o',(hs.2 b (b9 (gJ (bK e) I.ok.above))).trans e1⟩
  ·by_cases hj:j=i
   ·subst hj;rw[hi] at e1;cases e1;rw[Gw R1] at e2;cases e2;exact⟨u,r,.inl ⟨hk,by simp⟩⟩
   ·rw[BW (dR hj)] at e2;obtain⟨u',r',q⟩:=hl j y v' e1 e2 e3;refine⟨u',r',?_⟩;rcases q with⟨k,e⟩ | ⟨k,c,e,z⟩
    ·refine .inl ⟨k,?_⟩;have:y≠x:=λe=>hj (RZ hN e1 (e▸hi));simp[this,e]
    ·exact .inr ⟨k,c,e,z.sameBut hs (uI y c e)⟩
  ·obtain⟨w',z⟩:=I.cell y c e;exact⟨w',z.sameBut hs (uI y c e)⟩
  ·obtain⟨e,n,ne,nf,d⟩:=I.pin p hp;exact⟨(hs.2 p.1 ne).trans e,n,ne,nf,d⟩
 ·have G2:X.fn x=true:=by
   rcases hf with z | z
   ·exact z
   ·rw[z] at hk;cases hk
  obtain⟨c,hc⟩:=I.ok.has x (.inl hk);obtain⟨w',z⟩:=I.cell x c hc;refine wpAny_storeName_cell I.ok.kind hk hc z (λh' Co hs=>?_);obtain⟨oc,R4,abO⟩:=id z;refine h { s with heap:=h' } ⟨I.ok,I.os,I.bare,⟨λb o e n hb hx=>?_,λb o e n hb hx=>?_,I.base.free,λb o e hx=>?_,I.base.pM,I.base.ou,I.base.pN⟩,⟨m,hn.sameBut hs (dR (uI x c hc)),λj y v' e1 e2 e3=>?_⟩,λy c' e=>?_,I.free,I.mC,λp hp=>?_,tracked ⟨oc,R4,I.mC x c hc⟩ hs,by simpa using I.len⟩ ⟨c,hs,.inr hc⟩
  ·exact(hs.2 b (b9 (gJ (bK e) (I.ok.wC x c G2 hc)))).trans (I.base.keep b o e n hb hx)
  ·obtain⟨sl,e1⟩:=I.base.slot b o e n hb hx;exact⟨sl,(hs.2 b (b9 (gJ (bK e) (I.ok.wC x c G2 hc)))).trans e1⟩
  ·obtain⟨o',e1⟩:=I.base.there b o e hx;exact⟨o',(hs.2 b (b9 (gJ (bK e) (I.ok.wC x c G2 hc)))).trans e1⟩
  ·by_cases hj:j=i
   ·subst hj;rw[hi] at e1;cases e1;rw[Gw R1] at e2;cases e2;exact⟨u,r,.inr ⟨.inl hk,c,hc,Co⟩⟩
   ·rw[BW (dR hj)] at e2;obtain⟨u',r',q⟩:=hl j y v' e1 e2 e3;refine⟨u',r',?_⟩;rcases q with q | ⟨k,c',e,z'⟩
    ·exact .inl q
    ·refine .inr ⟨k,c',e,z'.sameBut hs ?_⟩;rintro rfl;exact hj (RZ hN e1 (I.ok.inj _ _ _ e hc▸hi))
  ·by_cases Cp:c' = c
   ·subst Cp;exact⟨_,Co⟩
   ·obtain⟨w2,z2⟩:=I.cell y c' e;exact⟨w2,z2.sameBut hs Cp⟩
  ·obtain⟨e,n,ne,nf,d⟩:=I.pin p hp;refine⟨(hs.2 p.1 ?_).trans e,n,ne,nf,d⟩;intro q;rw[q,R4] at e;have q':oc=p.2:=dD e;exact d w' (by rw[← q'];exact abO)
theorem R5{M:Model}{A:Around}{E:Value->Shared->Prop}{i:Nat}{x:Str}{v:V}{u:Value}{Q:Unit->Shared->Prop}(I:Inv X pins σ H s)(hN:X.N.Nodup)(hi:X.N[i]? = some x)(hx:Loc X.env.scope x)(r:RelV v u)
  (h:∀s',Inv X pins (σ.set i (some v)) H s'->Q () s') (hf:X.fn x=true\/X.env.scope.names.lookup x=some .local:=by first | exact .inl rfl | exact .inr rfl | assumption):wpAny M A (storeName X.env x u) Q E s :=
 R0 I hN hi hx r (λs' I' _=>h s' I') hf
theorem Inv.R6{s':Shared}{ch:List Addr}(I:Inv X pins σ H s)(ho:s'.os=s.os)(u:Un (iZ X.stack) ch H H' s.heap s'.heap)(aL:eK X.prog X.w H' s'.heap)(hg:AllBare s'.gens)
  (pO:∀b∈ch,(b∈X.ex\/X.eY.heap.objs.size<=b)/\b≠X.env.locals/\(∀x c,X.env.cells.lookup x=some c->c≠b)/\∀p∈X.pn++pins,p.1≠b):Inv X pins σ H' s':=by
 obtain⟨h',g',d',t',o'⟩:=s';have e:o' = s.os:=ho;subst e;exact I.call (g':=g') (t':=t') (d':=d') u aL hg pO
end
noncomputable abbrev XK:=Value->Option Addr->Hp->Prop
noncomputable abbrev St:=List (Option V)
noncomputable abbrev VK:=V->Hp->Prop
noncomputable abbrev TE:=St->Hp->VK->Prop
noncomputable abbrev TT:=St->Hp->(Bool->Hp->Prop)->Prop
noncomputable abbrev TA:=St->Hp->(List V->Hp->Prop)->Prop
structure Ends where
 nx:St->Hp->Prop
 rt:VK
 bk:St->Hp->Prop:=λ_ _=>False
 ct:St->Hp->Prop:=λ_ _=>False
noncomputable abbrev TS:=Ends->St->Hp->Prop
def EP(X:Cx)(pins:List (Addr×Obj))(σ:St)(Q:VK)(u:Value)(s':Shared):Prop:=∃v H',Inv X pins σ H' s'/\RelV v u/\Q v H'
def TP(X:Cx)(pins:List (Addr×Obj))(σ:St)(Q:Bool->Hp->Prop)(b:Bool)(s':Shared):Prop:=∃H',Inv X pins σ H' s'/\Q b H'
def AP(X:Cx)(pins:List (Addr×Obj))(σ:St)(Q:List V->Hp->Prop)(us:List Value)(s':Shared):Prop:=∃vs H',Inv X pins σ H' s'/\Vals vs us/\Q vs H'
noncomputable def SP(X:Cx)(pins:List (Addr×Obj))(D:Ends)(f:Flow)(s':Shared):Prop :=
 match f with
 | .next=>∃bq H',Inv X pins bq H' s'/\D.nx bq H'
 | .brk=>∃bq H',Inv X pins bq H' s'/\D.bk bq H'
 | .cont=>∃bq H',Inv X pins bq H' s'/\D.ct bq H'
 | .ret u=>∃v bq H',Inv X pins bq H' s'/\RelV v u/\D.rt v H'
noncomputable def PE(X:Cx)(e:Expr)(t:TE):Prop :=
 ∀(pins:List (Addr×Obj)) (s:Shared) (σ:St) (H:Hp) (Q:VK),Inv X pins σ H s->t σ H Q->wpAny (model X.prog X.w) X.A (eval e X.env) (EP X pins σ Q) X.xe s
noncomputable def PT(X:Cx)(e:Expr)(t:TT):Prop :=
 ∀(pins:List (Addr×Obj)) (s:Shared) (σ:St) (H:Hp) (Q:Bool->Hp->Prop),Inv X pins σ H s->t σ H Q->wpAny (model X.prog X.w) X.A (isTrue e X.env (eval e X.env)) (TP X pins σ Q) X.xe s
noncomputable def PW(X:Cx)(e:Expr)(t:TT):Prop :=
 ∀(whole:Sem Value) (pins:List (Addr×Obj)) (s:Shared) (σ:St) (H:Hp) (Q:Bool->Hp->Prop),Inv X pins σ H s->t σ H Q->wpAny (model X.prog X.w) X.A (isTrue e X.env whole) (TP X pins σ Q) X.xe s
theorem PW.pt{X:Cx}{e:Expr}{t:TT}(h:PW X e t):PT X e t:=h _
noncomputable def PA(X:Cx)(es:List Expr)(t:TA):Prop :=
 ∀(pos:Pos) (pins:List (Addr×Obj)) (s:Shared) (σ:St) (H:Hp) (Q:List V->Hp->Prop),Inv X pins σ H s->t σ H Q->wpAny (model X.prog X.w) X.A (spliced (backTo pos (starEach es X.env))) (AP X pins σ Q) X.xe s
noncomputable def PS(X:Cx)(st:Stmt)(t:TS):Prop :=
 ∀(pins:List (Addr×Obj)) (s:Shared) (σ:St) (H:Hp) (D:Ends),Inv X pins σ H s->t D σ H->wpAny (model X.prog X.w) X.A (exec st X.env) (SP X pins D) X.xe s
noncomputable def iH(X:Cx)(st:List Stmt)(t:TS):Prop :=
 ∀(pins:List (Addr×Obj)) (s:Shared) (σ:St) (H:Hp) (D:Ends),Inv X pins σ H s->t D σ H->wpAny (model X.prog X.w) X.A (execs st X.env) (SP X pins D) X.xe s
theorem aO{α:Type}{t:Sem α}{Q Q':α->Shared->Prop}{M:Model}{A:Around}{E:Value->Shared->Prop}{s:Shared}(h:wpAny M A t Q E s)(hQ:∀a s,Q a s->Q' a s):wpAny M A t Q' E s:=jh h hQ λ_ _ x=>x
section
variable{X:Cx}
theorem bin{a b:Expr}{ta tb:TE}(ha:PE X a ta)(hb:PE X b tb){pins:List (Addr×Obj)}{s:Shared}{σ:St}{H:Hp}{R:V->V->Hp->Prop}(I:Inv X pins σ H s)(h:ta σ H λx H1=>tb σ H1 λy H2=>R x y H2)
  {α:Type} {Q:α->Shared->Prop} {f:Value->Value->Sem α}
  (hf:∀v u s2 x y H2,Inv X pins σ H2 s2->RelV x v->RelV y u->R x y H2->wpAny (model X.prog X.w) X.A (f v u) Q X.xe s2) :
  wpAny (model X.prog X.w) X.A (eval a X.env) (λv aW=>wpAny (model X.prog X.w) X.A (eval b X.env) (λu jI=>wpAny (model X.prog X.w) X.A (f v u) Q X.xe jI) X.xe aW) X.xe s:=by
 refine aO (ha pins s σ H _ I h) λv s1 ⟨x,H1,I1,r1,q1⟩=>?_;refine aO (hb pins s1 σ H1 _ I1 q1) λu s2 ⟨y,H2,I2,r2,q2⟩=>?_;exact hf v u s2 x y H2 I2 r1 r2 q2
def G3(i:Nat):TE:=λσ H Q=>∃v,σ[i]? = some (some v)/\Q v H
def tC(v:V):TE:=λ_ H Q=>Q v H
theorem R7{i:Nat}{x:Str}{pos:Pos}(hN:X.N[i]? = some x)(hv:Cm X.env.scope x)(hd:(x == ("__debug__" : Str))=false:=by decide)(gK:(x == ("__classdict__" : Str))=false:=by decide):PE X (.Name x pos) (G3 i):=by
 intro pins s σ H Q I h;obtain⟨v,e,h⟩:=h;obtain⟨m,hn,hl⟩:=I.loc;obtain⟨u,r,l⟩:=hl i x v hN e hv;have fin:EP X pins σ Q u s:=⟨v,H,I,r,h⟩;rcases l with⟨hk,hm⟩ | ⟨hk,c,hc,R8⟩
 ·exact wpAny_Name (wpAny_loadName_local I.ok.kind hk hn hm fin) hd
 ·rcases hk with hk | hk
  ·exact wpAny_Name (wpAny_loadName_cell I.ok.kind hk hc R8 fin) hd
  ·exact wpAny_Name (wpAny_loadName_free I.ok.kind hk hc R8 fin gK) hd
theorem az{i j pos}:PE X (.Constant (.int i) j pos) (tC (.int i)):=λ_ _ _ H _ I h=>wpAny_Constant_int ⟨.int i,H,I.tok _,⟨_,rfl⟩,h⟩
theorem mD{b j pos}:PE X (.Constant (.bool b) j pos) (tC (.bl b)):=λ_ _ _ H _ I h=>Constant_bool ⟨.bl b,H,I,rfl,h⟩
theorem pR{j pos}:PE X (.Constant .none j pos) (tC .aR):=λ_ _ _ H _ I h=>Constant_none ⟨.aR,H,I,rfl,h⟩
theorem dh{x j pos}:PE X (.Constant (.str x) j pos) (tC (.str x)):=λ_ _ _ H _ I h=>Calls.Constant_str ⟨.str x,H,I.tok _,⟨_,rfl⟩,h⟩
def Gl(X:Cx)(x:Str):Prop:=X.env.kindOf x=some .globalImplicit
theorem Cq{E:Value->Shared->Prop}{pins:List (Addr×Obj)}{s:Shared}{σ:St}{H:Hp}{x:Str}{u:Value}{pos:Pos}{Q:Value->Shared->Prop}(I:Inv X pins σ H s)(hg:Gl X x)(hm:X.mg x=some u)(h:Q u s)
  (hd:(x == ("__debug__" : Str))=false:=by decide):wpAny (model X.prog X.w) X.A (eval (.Name x pos) X.env) Q E s :=
 Calls.Name_function_global I.ok.kind hg (Calls.loadGlobal_global (by rw[I.ok.glob];exact I.mod.glob.keeps I.bk) hm h) hd
theorem mF{E:Value->Shared->Prop}{pins:List (Addr×Obj)}{s:Shared}{σ:St}{H:Hp}{x:Str}{u:Value}{pos:Pos}{Q:Value->Shared->Prop}(I:Inv X pins σ H s)(hg:Gl X x)(hm:X.mg x=none)(hv:bootBuiltins x=some u)(h:Q u s)
  (hn:x≠"__name__" := by decide) (hd:(x == ("__debug__" : Str))=false:=by decide):wpAny (model X.prog X.w) X.A (eval (.Name x pos) X.env) Q E s:=by
 obtain⟨mb,h1,h2⟩:=I.mod.blt;exact Calls.Name_function_global I.ok.kind hg (Calls.loadGlobal_builtin (by rw[I.ok.glob];exact I.mod.glob.keeps I.bk) hm (by rw[I.ok.blt];exact h1.keeps I.bk) ((h2 x hn).trans hv) h) hd
theorem i6{x:Str}{v:V}{u:Value}{pos:Pos}(hg:Gl X x)(hm:X.mg x=some u)(r:RelV v u)(hd:(x == ("__debug__" : Str))=false:=by decide):PE X (.Name x pos) (tC v) :=
 λ_ _ _ H _ I h=>Cq I hg hm ⟨v,H,I,r,h⟩ hd
variable{a b:Expr}{ta tb:TE}{pos:Pos}
noncomputable def PC(X:Cx)(op:CmpOp)(a b:Expr)(t:TE):Prop :=
 ∀(pins:List (Addr×Obj)) (s:Shared) (σ:St) (H:Hp) (Q:VK),Inv X pins σ H s->t σ H Q->
  wpAny (model X.prog X.w) X.A (eval a X.env) (λv aW=>wpAny (model X.prog X.w) X.A (eval b X.env) (λu jI=>wpAny (model X.prog X.w) X.A (compareOp op v u) (EP X pins σ Q) X.xe jI) X.xe aW) X.xe s
theorem R9(b:Expr){op:CmpOp}(h:op≠.In)(h2:op≠.NotIn):behindInMarks op b=false:=by
 have e1:(op == CmpOp.In)=false:=by cases op <;> first | rfl | exact absurd rfl h
 have e2:(op == CmpOp.NotIn)=false:=by cases op <;> first | rfl | exact absurd rfl h2
 cases b <;> simp[behindInMarks,e1,e2]
def tB(t:TE):TT:=λσ H Q=>t σ H λx H1=>∃c,x = .bl c/\Q c H1
theorem abP{op:CmpOp}{t:TE}(h:PC X op a b t)(h1:behindInMarks op b=false:=by first | exact R9 _ ⋯ ⋯ | rfl):PE X (.Compare a [op] [b] pos) t:=λpins s σ H Q I hw=>wpAny_Compare1 (h pins s σ H Q I hw) h1
theorem wG{op:CmpOp}{t:TE}(h:PC X op a b t)(h1:behindInMarks op b=false:=by first | exact R9 _ ⋯ ⋯ | rfl):PT X (.Compare a [op] [b] pos) (tB t):=by
 intro pins s σ H Q I hw;refine GV (aO (h pins s σ H _ I hw) λv s1 h1=>aO h1 λu s2 h2=>aO h2 λc s3 ⟨x,H1,I1,r1,q1⟩=>?_) h1;obtain⟨d,rfl,q⟩:=q1;cases r1;exact oq ⟨H1,I1,q⟩
theorem Cr{e:Expr}{t:TE}(h:PE X e t)(he:∀whole,isTrue e X.env whole=(do let v ← whole;standAt e.pos;holding [v] (truthy v)):=by intro _;rfl):PT X e (tB t):=by
 intro pins s σ H Q I hw;refine isTrue_plain (aO (h pins s σ H _ I hw) λv s1 ⟨x,H1,I1,r1,q1⟩=>?_) (he _);obtain⟨d,rfl,q⟩:=q1;cases r1;exact oq ⟨H1,I1,q⟩
variable{tA Cs:TT}{rest:List Expr}
def R_(t u:TT):TT:=λσ H Q=>t σ H λc H1=>if c=true then u σ H1 Q else Q false H1
def yY(t u:TT):TT:=λσ H Q=>t σ H λc H1=>if c=true then Q true H1 else u σ H1 Q
def Sa(t:TT):TT:=λσ H Q=>t σ H λc H1=>Q (!c) H1
theorem G4(ha:PT X a tA):PW X (.BoolOp .And [a] pos) tA:=by
 intro wh pins s σ H Q I h;refine isTrue_and (aO (ha pins s σ H Q I h) λc s1 e=>?_);cases c with
 | true=>exact isTrue_and_nil e
 | false=>exact e
theorem ir(ha:PT X a tA):PW X (.BoolOp .Or [a] pos) tA:=by
 intro wh pins s σ H Q I h;refine isTrue_or (aO (ha pins s σ H Q I h) λc s1 e=>?_);cases c with
 | false=>exact isTrue_or_nil e
 | true=>exact e
theorem G5(ha:PT X a tA)(hb:PW X (.BoolOp .And (b::rest) pos) Cs):PW X (.BoolOp .And (a::b::rest) pos) (R_ tA Cs):=by
 intro wh pins s σ H Q I h;refine isTrue_and (aO (ha pins s σ H _ I h) λc s1 ⟨H1,I1,q1⟩=>?_);cases c with
 | true=>exact hb wh pins s1 σ H1 Q I1 q1
 | false=>exact⟨H1,I1,q1⟩
theorem iu(ha:PT X a tA)(hb:PW X (.BoolOp .Or (b::rest) pos) Cs):PW X (.BoolOp .Or (a::b::rest) pos) (yY tA Cs):=by
 intro wh pins s σ H Q I h;refine isTrue_or (aO (ha pins s σ H _ I h) λc s1 ⟨H1,I1,q1⟩=>?_);cases c with
 | true=>exact⟨H1,I1,q1⟩
 | false=>exact hb wh pins s1 σ H1 Q I1 q1
theorem Sd(ha:PT X a tA):PT X (.UnaryOp .Not a pos) (Sa tA):=by
 intro pins s σ H Q I h;exact isTrue_not (ha pins s σ H (λc H1=>Q (!c) H1) I h)
def Se(ta tb:TE):TE:=λσ H Q=>ta σ H λx H1=>∃c,x = .bl c/\if c=true then tb σ H1 Q else Q (.bl false) H1
theorem Sf{op}{t:TE}(h:PE X a t):PE X (.BoolOp op [a] pos) t:=λpins s σ H Q I hw=>BoolOp_one (h pins s σ H Q I hw)
theorem Sg(ha:PE X a ta)(hb:PE X (.BoolOp .And (b::rest) pos) tb):PE X (.BoolOp .And (a::b::rest) pos) (Se ta tb):=by
 intro pins s σ H Q I h;refine BoolOp_and (aO (ha pins s σ H _ I h) λv s1 ⟨x,H1,I1,r1,q1⟩=>?_);obtain⟨c,rfl,q1⟩:=q1;cases r1;refine oq ?_;cases c with
 | true=>exact hb pins s1 σ H1 Q I1 q1
 | false=>exact⟨.bl false,H1,I1,rfl,q1⟩
def Sh(t:TT)(ta tb:TE):TE:=λσ H Q=>t σ H λc H1=>if c=true then ta σ H1 Q else tb σ H1 Q
theorem Si{c:Expr}(hc:PT X c tA)(ha:PE X a ta)(hb:PE X b tb):PE X (.IfExp c a b pos) (Sh tA ta tb):=by
 intro pins s σ H Q I h;refine wpAny_IfExp (aO (hc pins s σ H _ I h) λd s1 ⟨H1,I1,q1⟩=>?_);cases d with
 | true=>exact ha pins s1 σ H1 Q I1 q1
 | false=>exact hb pins s1 σ H1 Q I1 q1
end
noncomputable def aE(K:W.Frag)(H:Hp)(a:Addr)(xs:List V):Prop :=
 Rd H a (.lst xs)\/
  ∃(o:Obj) (its:Array Value) (n:Nat),K.lookup a=some o/\o.cls = .type "list"/\o.dict=none/\o.data = .seq its n/\its.size<=sizeLine/\Vals xs its.toList
noncomputable def aY(K:W.Frag)(H:Hp)(a:Addr)(xs:List V):Prop :=
 Rd H a (.tup xs)\/
  ∃(o:Obj) (its:Array Value) (n:Nat),K.lookup a=some o/\o.cls = .type "tuple"/\o.data = .seq its n/\its.size<=sizeLine/\Vals xs its.toList
noncomputable def abQ:Value->Option V
 | .none=>some .aR
 | .bool b=>some (.bl b)
 | .int i _=>some (.int i)
 | .str x _=>some (.str x)
 | .bytes b _=>some (.kI b)
 | .float b _=>some (.Cf b)
 | .ref a=>some (.ref a)
 | .type n=>some (.ty n)
 | _=>none
theorem RelV.abs{x:V}{u:Value}(r:RelV x u):abQ u=some x:=by
 cases x with
 | aR=>cases r;rfl
 | bl _=>cases r;rfl
 | int _=>obtain⟨t,rfl⟩:=r;rfl
 | str _=>obtain⟨t,rfl⟩:=r;rfl
 | kI _=>obtain⟨t,rfl⟩:=r;rfl
 | Cf _=>obtain⟨t,rfl⟩:=r;rfl
 | ref _=>cases r;rfl
 | ty _=>cases r;rfl
theorem RelV.inj{x y:V}{u:Value}(r:RelV x u)(q:RelV y u):x=y:=dD (r.abs.symm.trans q.abs)
theorem Vals.inj{xs ys:List V}{us:List Value}(h:Vals xs us):Vals ys us->xs=ys:=by
 induction h generalizing ys with
 | nil=>intro g;cases g;rfl
 | cons r t ih=>intro g;cases g with
  | cons r' t'=>rw[r.inj r',ih t']
section
variable{X:Cx}{pins:List (Addr×Obj)}{σ:St}{H:Hp}{s:Shared}{a:Addr}{xs ys:List V}
theorem aE.of{K:W.Frag}(h:H a=some (.lst xs)):aE K H a xs:=.inl (.inl h)
theorem aY.of{K:W.Frag}(h:H a=some (.tup xs)):aY K H a xs:=.inl (.inl h)
theorem Inv.list(I:Inv X pins σ H s)(h:aE X.K H a xs):∃its:List Value,Vals xs its/\PlainL s.heap a its.toArray/\xs.length<=sizeLine:=by
 rcases h with h | ⟨o,its,n,hk,hc,hd,hs,hz,r⟩
 ·obtain⟨z,its,n,r,e⟩:=h.ok I.aL;exact⟨its,r,⟨_,n,e,rfl,rfl,rfl⟩,z⟩
 ·refine⟨its.toList,r,⟨o,n,I.iG a o hk,hc,hd,by simpa using hs⟩,?_⟩
  have e:=r.length;simp only[Array.length_toList] at e;lia
theorem Inv.tuple(I:Inv X pins σ H s)(h:aY X.K H a xs):∃its:List Value,Vals xs its/\IsTup s.heap a its.toArray/\xs.length<=sizeLine:=by
 rcases h with h | ⟨o,its,n,hk,hc,hs,hz,r⟩
 ·obtain⟨z,its,r,p⟩:=h.ok I.aL;exact⟨its,r,p,z⟩
 ·refine⟨its.toList,r,⟨o,I.iG a o hk,hc,n,by simpa using hs⟩,?_⟩
  have e:=r.length;simp only[Array.length_toList] at e;lia
theorem Inv.Sj(I:Inv X pins σ H s)(h:aE X.K H a xs)(h':aE X.K H a ys):xs=ys:=by
 obtain⟨its,r,⟨o,n,e,_,_,d⟩,_⟩:=I.list h;obtain⟨its',r',⟨o',n',e',_,_,d'⟩,_⟩:=I.list h';rw[e] at e';cases e';rw[d] at d';injection d' with d1 _;have:its=its':=by simpa using gh Array.toList d1
 subst this;exact r.inj r'
theorem Inv.abR(I:Inv X pins σ H s)(h:aY X.K H a xs)(h':aY X.K H a ys):xs=ys:=by
 obtain⟨its,r,⟨o,e,_,n,d⟩,_⟩:=I.tuple h;obtain⟨its',r',⟨o',e',_,n',d'⟩,_⟩:=I.tuple h';rw[e] at e';cases e';rw[d] at d';injection d' with d1 _;have:its=its':=by simpa using gh Array.toList d1
 subst this;exact r.inj r'
end
noncomputable abbrev Cx.oz(X:Cx)(E:Value->Shared->Prop):Cx:={ X with xe:=E }
noncomputable abbrev Cx.sI(X:Cx):Cx:=X.oz λ_ _=>False
theorem Cx.Ok.oz{X:Cx}(ok:X.Ok)(E:Value->Shared->Prop):(X.oz E).Ok :=
 ⟨ok.mod,ok.kind,ok.glob,ok.blt,ok.above,ok.inj,ok.has,ok.wC,ok.hd,ok.frames,ok.yT,ok.yU,ok.bs,ok.ji,ok.wD,ok.wF,ok.lG,ok.sH⟩
theorem Cx.Ok.sJ{X:Cx}{E:Value->Shared->Prop}(ok:(X.oz E).Ok):X.Ok :=
 ⟨ok.mod,ok.kind,ok.glob,ok.blt,ok.above,ok.inj,ok.has,ok.wC,ok.hd,ok.frames,ok.yT,ok.yU,ok.bs,ok.ji,ok.wD,ok.wF,ok.lG,ok.sH⟩
section
variable{X:Cx}{pins:List (Addr×Obj)}{σ:St}{H:Hp}{s:Shared}{E:Value->Shared->Prop}
theorem Inv.oz(I:Inv X pins σ H s)(E:Value->Shared->Prop):Inv (X.oz E) pins σ H s:=⟨I.ok.oz E,I.os,I.bare,I.base,I.loc,I.cell,I.free,I.mC,I.pin,I.aL,I.len⟩
theorem Inv.sJ(I:Inv (X.oz E) pins σ H s):Inv X pins σ H s:=⟨I.ok.sJ,I.os,I.bare,I.base,I.loc,I.cell,I.free,I.mC,I.pin,I.aL,I.len⟩
theorem SP.sJ{D:Ends}{f:Flow}{s':Shared}(h:SP (X.oz E) pins D f s'):SP X pins D f s':=by
 cases f with
 | next=>obtain⟨bq,H',I,q⟩:=h;exact⟨bq,H',I.sJ,q⟩
 | brk=>obtain⟨bq,H',I,q⟩:=h;exact⟨bq,H',I.sJ,q⟩
 | cont=>obtain⟨bq,H',I,q⟩:=h;exact⟨bq,H',I.sJ,q⟩
 | ret u=>obtain⟨v,bq,H',I,r,q⟩:=h;exact⟨v,bq,H',I.sJ,r,q⟩
theorem iH.sI{st:List Stmt}{t:TS}(h:iH X.sI st t):iH X st t:=λpins s σ H D I hw =>
 jh (h pins s σ H D (I.oz _) hw) (λ_ _ q=>q.sJ) λ_ _ z=>False.elim z
end
section
variable{X:Cx}{st:Stmt}{rest:List Stmt}{t u:TS}{e:Expr}{te:TE}{pos:Pos}
def Sk:TS:=λD σ H=>D.nx σ H
def G6(t u:TS):TS:=λD σ H=>t { D with nx:=u D } σ H
theorem cC:iH X [] Sk:=λ_ _ σ H _ I h=>wm ⟨σ,H,I,h⟩
theorem aC(h1:PS X st t)(h2:iH X rest u):iH X (st::rest) (G6 t u):=by
 intro pins s σ H D I h;refine GS (aO (h1 pins s σ H { D with nx:=u D } I h) λf s1 q=>?_);cases f with
 | next =>
  obtain⟨bq,H',I',q⟩:=q;exact h2 pins s1 bq H' D I' q
 | ret v=>exact q
 | brk=>exact q
 | cont=>exact q
theorem aI(h1:PS X st t):iH X [st] t:=by
 intro pins s σ H D I h;refine GS (aO (h1 pins s σ H D I h) λf s1 q=>?_);cases f with
 | next=>exact wm q
 | ret v=>exact q
 | brk=>exact q
 | cont=>exact q
theorem Inv.quiet{pins:List (Addr×Obj)}{σ:St}{H:Hp}{s:Shared}(I:Inv X pins σ H s):interactive X.env=false:=by simp[interactive,I.ok.kind]
def Sl(te:TE):TS:=λD σ H=>te σ H λ_ H1=>D.nx σ H1
theorem cY(he:PE X e te)(hs:swapsWith e none pos.line X.env=pure false:=by rfl):PS X (.Expr e pos) (Sl te):=by
 intro pins s σ H D I h;exact wpAny_Expr_any (aO (he pins s σ H _ I h) λv s1 ⟨x,H1,I1,r1,q1⟩=>⟨σ,H1,I1,q1⟩) I.quiet hs
def Sm(te:TE):TS:=λD σ H=>te σ H D.rt
theorem bJ(he:PE X e te):PS X (.Return (some e) pos) (Sm te):=by
 intro pins s σ H D I h;exact wpAny_Return_some (aO (he pins s σ H _ I h) λv s1 ⟨x,H1,I1,r1,q1⟩=>⟨x,σ,H1,I1,r1,q1⟩)
def So(c:TT)(t u:TS):TS:=λD σ H=>c σ H λb H1=>if b=true then t D σ H1 else u D σ H1
theorem d8{c:Expr}{a b:List Stmt}{tc:TT}(hc:PT X c tc)(ha:iH X a t)(hb:iH X b u):PS X (.If c a b pos) (So tc t u):=by
 intro pins s σ H D I h;refine wpAny_If (aO (hc pins s σ H _ I h) λd s1 ⟨H1,I1,q1⟩=>?_);cases d with
 | true=>exact ha pins s1 σ H1 D I1 q1
 | false=>exact hb pins s1 σ H1 D I1 q1
def Sq:TS:=λ_ _ _=>False
theorem fZ{jk:List Stmt}:iH X jk Sq:=λ_ _ _ _ _ _ h=>h.elim
end
noncomputable abbrev TG:=V->St->Hp->(St->Hp->Prop)->Prop
noncomputable abbrev pS:=List V->St->Hp->(St->Hp->Prop)->Prop
noncomputable def PG(X:Cx)(target:Expr)(t:TG):Prop :=
 ∀(pins:List (Addr×Obj)) (s:Shared) (σ:St) (H:Hp) (v:V) (u:Value) (Q:St->Hp->Prop),Inv X pins σ H s->RelV v u->t v σ H Q->
  wpAny (model X.prog X.w) X.A (assign target X.env u) (λ_ s'=>∃bq H',Inv X pins bq H' s'/\Q bq H') X.xe s
noncomputable def wH(X:Cx)(ts:List Expr)(t:pS):Prop :=
 ∀(pins:List (Addr×Obj)) (s:Shared) (σ:St) (H:Hp) (vs:List V) (us:List Value) (Q:St->Hp->Prop),Inv X pins σ H s->Vals vs us->t vs σ H Q->
  wpAny (model X.prog X.w) X.A (assignInOrder ((assignEach ts X.env).map (·.2)) us) (λ_ s'=>∃bq H',Inv X pins bq H' s'/\Q bq H') X.xe s
noncomputable abbrev Ct:=V->V->V->Hp->(Hp->Prop)->Prop
noncomputable def Ss(X:Cx)(t:Ct):Prop :=
 ∀(pins:List (Addr×Obj)) (s:Shared) (σ:St) (H:Hp) (o i v:V) (ov iv u:Value) (Q:Hp->Prop),Inv X pins σ H s->RelV o ov->RelV i iv->RelV v u->t o i v H Q->
  wpAny (model X.prog X.w) X.A (setItem ov iv u) (λ_ s'=>∃H',Inv X pins σ H' s'/\Q H') X.xe s
section
variable{X:Cx}{pos:Pos}
def sL(i:Nat):TG:=λv σ H Q=>Q (σ.set i (some v)) H
theorem br{i:Nat}{x:Str}(hN:X.N.Nodup)(hi:X.N[i]? = some x)(hx:Loc X.env.scope x)(hf:X.fn x=true\/X.env.scope.names.lookup x=some .local:=by first | exact .inl rfl | exact .inr rfl | assumption):PG X (.Name x pos) (sL i):=by
 intro pins s σ H v u Q I r h;exact wpAny_assign_Name (R5 I hN hi hx r (λs' I'=>⟨_,H,I',h⟩) hf)
noncomputable def G7:pS:=λvs σ H Q=>vs = []/\Q σ H
noncomputable def Cu(t:TG)(u:pS):pS:=λvs σ H Q=>∃v r,vs=v::r/\t v σ H λbq H'=>u r bq H' Q
theorem gX:wH X [] G7:=by
 intro pins s σ H vs us Q I r h;obtain⟨e,h⟩:=h;subst e;cases r;exact assignInOrder_nil ⟨σ,H,I,h⟩
theorem cu{e:Expr}{es:List Expr}{t:TG}{u:pS}(h1:PG X e t)(h2:wH X es u)
  (hs:(assignEach (e::es) X.env).map (·.2)=assign e X.env::(assignEach es X.env).map (·.2):=by rfl):wH X (e::es) (Cu t u):=by
 intro pins s σ H vs us Q I r h;obtain⟨v,vr,e1,h⟩:=h;subst e1;cases r with
 | cons r rr =>
  rw[hs];refine assignInOrder_cons (aO (h1 pins s σ H _ _ _ I r h) λ_ s1 ⟨fh,H1,I1,q1⟩=>?_);exact h2 pins s1 fh H1 _ _ Q I1 rr q1
def Cv(K:W.Frag)(n:Nat)(t:pS):TG:=λv σ H Q=>∃a xs,v = .ref a/\aY K H a xs/\xs.length=n/\t xs σ H Q
theorem jm{es:List Expr}{k:Nat}{t:pS}{n:Nat}(hc:X.calm=true)(h:wH X es t)
  (hn:(assignEach es X.env).length=n:=by rfl) (gY:(assignEach es X.env).findIdx? (·.1)=none:=by rfl):PG X (.Tuple es k pos) (Cv X.K n t):=by
 intro pins s σ H v u Q I r hw;obtain⟨a,xs,e1,hq,hl,hw⟩:=hw;subst e1;cases r;obtain⟨its,rv,ht,hz⟩:=I.tuple hq;refine assign_Tuple_tuple (I.ok.hd hc) ht (by simp[hn,← hl,rv.length]) gY λh' hx=>?_
 have I1:Inv X pins σ H { s with heap:=h' }:=I.kept (t':=s.toks) λb o e=>hx b o (b9 (bK e)) e;exact h pins _ σ H xs _ Q I1 (by simpa using rv) hw
def Su(to ti:TE)(t:Ct):TG:=λv σ H Q=>to σ H λo H1=>ti σ H1 λi H2=>t o i v H2 λH3=>Q σ H3
theorem Cw{o i:Expr}{to ti:TE}{t:Ct}(ho:PE X o to)(hi:PE X i ti)(hs:Ss X t)
  (ha:∀v,assign (.Subscript o i pos) X.env v=(do
   let ov ← holding [v] (eval o X.env)
   let iv ← holding [v,ov] (eval i X.env)
   standAt pos
   holding [v,ov,iv] (setItem ov iv v)
   release [v,ov,iv] []):=by intro _;rfl):PG X (.Subscript o i pos) (Su to ti t):=by
 intro pins s σ H v u Q I r h;rw[ha];refine aF (jg (aO (ho pins s σ H _ I h) λov s1 ⟨x,H1,I1,r1,q1⟩=>?_));refine aF (jg (aO (hi pins s1 σ H1 _ I1 q1) λiv s2 ⟨y,H2,I2,r2,q2⟩=>?_));refine aF (wpAny_standAt (aF (jg (aO (hs pins s2 σ H2 x y v ov iv u _ I2 r1 r2 r q2) λ_ s3 ⟨H3,I3,q3⟩=>?_))));exact wpAny_release ⟨σ,H3,I3,q3⟩
def yZ(te:TE)(g:TG):TS:=λD σ H=>te σ H λx H1=>g x σ H1 D.nx
theorem wI{tg e:Expr}{te:TE}{g:TG}(he:PE X e te)(hg:PG X tg g)(hs:swapsWithSole [tg] e pos.line X.env=pure false:=by rfl)(hw:swappedStores [tg] e X.env=pure none:=by rfl)
  (h1:(assignEach [tg] X.env).map (·.2) = [assign tg X.env]:=by rfl):PS X (.Assign [tg] e pos) (yZ te g):=by
 intro pins s σ H D I h;refine wpAny_Assign_stores (aO (he pins s σ H _ I h) λv s1 ⟨x,H1,I1,r1,q1⟩=>?_) hs hw;rw[h1];exact aO (hg pins s1 σ H1 x v _ I1 r1 q1) λ_ s2 q=>q
theorem aX{i:Nat}{x:Str}{e:Expr}{te:TE}{pos':Pos}(hN:X.N.Nodup)(hi:X.N[i]? = some x)(hx:Loc X.env.scope x)(he:PE X e te)(hs:swapsWith e (some (.Name x pos')) pos.line X.env=pure false:=by rfl)(hf:X.fn x=true\/X.env.scope.names.lookup x=some .local:=by first | exact .inl rfl | exact .inr rfl | assumption) :
  PS X (.Assign [.Name x pos'] e pos) (yZ te (sL i)):=by
 intro pins s σ H D I h;refine wpAny_Assign_Name (aO (he pins s σ H _ I h) λv s1 ⟨y,H1,I1,r1,q1⟩=>?_) hs;exact R5 I1 hN hi hx r1 (λs2 I2=>⟨_,H1,I2,q1⟩) hf
end
section
variable{X:Cx}{pos:Pos}
def G8(c:TT)(tb:TS):TS:=λD σ H=>∃W:Nat->St->Hp->Prop,(∃m,W m σ H)/\∀m σ H,W m σ H->
 c σ H λb H1=>if b=true then ∃N:St->Hp->Prop,(∀bq H',N bq H'->∃m',m' < m/\W m' bq H')/\tb { D with nx:=N,ct:=N,bk:=D.nx } σ H1 else D.nx σ H1
theorem Sv{c:Expr}{body:List Stmt}{tc:TT}{tb:TS}(hp:PassesOwn (model X.prog X.w) X.A X.env X.xe)(hc:PT X c tc)(hb:iH X body tb):PS X (.While c body [] pos) (G8 tc tb):=by
 intro pins s σ H D I h;obtain⟨W,⟨m0,w0⟩,turn⟩:=h;refine wpAny_While (codeAny_whileLoop (λn s'=>∃bq H',Inv X pins bq H' s'/\W n bq H') ?_ m0 ⟨σ,H,I,w0⟩);rintro n s1 ⟨fh,H1,I1,w1⟩;refine uC hp (aO (hc pins s1 fh H1 _ I1 (turn n fh H1 w1)) λb s2 ⟨H2,I2,q2⟩=>?_);cases b with
 | true =>
  obtain⟨N,hN,q2⟩:=q2;rw[if_pos rfl];refine uC hp (aO (hb pins s2 fh H2 _ I2 q2) λf s3 q3=>?_);cases f with
  | next =>
   obtain⟨jJ,H3,I3,n3⟩:=q3;obtain⟨m',hm,w3⟩:=hN jJ H3 n3;exact⟨m',hm,jJ,H3,I3,w3⟩
  | cont =>
   obtain⟨jJ,H3,I3,n3⟩:=q3;obtain⟨m',hm,w3⟩:=hN jJ H3 n3;exact⟨m',hm,jJ,H3,I3,w3⟩
  | brk=>exact q3
  | ret v=>exact q3
 | false =>
  rw[if_neg gg];exact wm ⟨fh,H2,I2,q2⟩
end
structure It where
 go:Nat->Hp->Prop
 pT:Nat->Hp->V->Hp->Prop
 stop:Nat->Hp->Prop
noncomputable def pU(X:Cx)(pins:List (Addr×Obj))(H:Hp)(b:Addr):Prop :=
 H b=none/\b≠X.env.locals/\b∉X.fs/\(b∈X.ex\/X.eY.heap.objs.size<=b)/\(∀x c,X.env.cells.lookup x=some c->c≠b)/\∀p∈X.pn++pins,p.1≠b
theorem Inv.qN{X:Cx}{pins:List (Addr×Obj)}{σ:St}{H H':Hp}{s:Shared}{b:Addr}(I:Inv X pins σ H s)(hb:s.heap.objs.size<=b)(hn:H' b=none):pU X pins H' b:=by
 refine⟨hn,kG (gJ I.lt hb),I.yV hb,.inr (dQ I.sz hb),λx c e z=>?_,λp hp z=>?_⟩
 ·obtain⟨v,q⟩:=I.cell x c e;exact absurd (gJ q.lt (by rw[z];exact hb)) (jX _)
 ·exact absurd (gJ (bK (I.pin p hp).1) (by rw[z];exact hb)) (jX _)
structure Turn(P:Program)(w:World)(K:W.Frag)(tg:Expr)(J:It)(fp:List Addr)(it:Addr)(tn:Nat->Heap->Prop):Prop where
 mem:it∈fp
 obj:∀i h,tn i h->∀b∈fp,∃o,h.get? b=some o/\∀v,o.data≠.cell v
 keep:∀i h h',tn i h->(∀b∈fp,∀o,h.get? b=some o->h'.get? b=some o)->tn i h'
 item:∀(X:Cx),X.prog=P->X.w=w->X.K=K->X.calm=true->∀(i:Nat) (pins:List (Addr×Obj)) (s:Shared) (σ:St) (H:Hp) (E:Value->Shared->Prop),Inv X pins σ H s->(∀b∈fp,pU X pins H b)->tn i s.heap->J.go i H->
  wpAny (model P w) X.A (pyNext (.ref it)) (λr s1=>∃u,r=some u/\
   wpAny (model P w) X.A (letOwnedTupleGo tg (.ref it) u) (λ_ s2=>∃x H',Inv X pins σ H' s2/\RelV x u/\J.pT i H x H'/\tn (i+1) s2.heap/\∀b∈fp,H' b=none) E s1) E s
 done:∀(X:Cx),X.prog=P->X.w=w->X.K=K->X.calm=true->∀(i:Nat) (pins:List (Addr×Obj)) (s:Shared) (σ:St) (H:Hp) (E:Value->Shared->Prop),Inv X pins σ H s->(∀b∈fp,pU X pins H b)->tn i s.heap->J.stop i H->
  wpAny (model P w) X.A (pyNext (.ref it)) (λr s1=>r=none/\Inv X pins σ H s1) E s
 self:∀(A:Around) (i:Nat) (s:Shared) (Q:Value->Shared->Prop) (E:Value->Shared->Prop),tn i s.heap->Q (.ref it) s->wpAny (model P w) A (pyIter (.ref it)) Q E s
noncomputable abbrev TI:=St->Hp->(It->Hp->Prop)->Prop
noncomputable def Sw(X:Cx)(pins:List (Addr×Obj))(σ:St)(tg:Expr)(R:It->Hp->Prop)(Cy:Value)(s2:Shared):Prop :=
 ∃(it:Addr) (fp:List Addr) (tn:Nat->Heap->Prop) (J:It) (H':Hp),Cy = .ref it/\Inv X pins σ H' s2/\Turn X.prog X.w X.K tg J fp it tn/\tn 0 s2.heap/\(∀b∈fp,pU X pins H' b)/\R J H'
noncomputable def PI(X:Cx)(tg iter:Expr)(wi:TI):Prop :=
 ∀(pins:List (Addr×Obj)) (s:Shared) (σ:St) (H:Hp) (R:It->Hp->Prop),Inv X pins σ H s->wi σ H R->
  wpAny (model X.prog X.w) X.A (eval iter X.env) (λv s1=>wpAny (model X.prog X.w) X.A (pyIter v) (Sw X pins σ tg R) X.xe s1) X.xe s
theorem y_{M:Model}{A:Around}{E:Value->Shared->Prop}{s:Shared}{tg:Expr}{it:Addr}{u:Value}{o:Obj}{n:String}{vs:Array Value}{Q:Unit->Shared->Prop}(ho:s.heap.get? it=some o)(hc:o.cls = .type n)(hd:o.data = .fields vs)
  (hn:["enumerate", "zip", "dict_itemiterator", "dict_reverseitemiterator", "odict_iterator", "itertools.zip_longest", "itertools.pairwise"].contains n=false) (hQ:Q () s):wpAny M A (letOwnedTupleGo tg (.ref it) u) Q E s:=by
 unfold letOwnedTupleGo;cases tg <;> first
  | exact aV hQ
  | (cases u <;> first
    | exact aV hQ
    | (refine aF (wpAny_load ho ?_)
       rw[hc,hd]
       show wpAny M A (if (["enumerate", "zip", "dict_itemiterator", "dict_reverseitemiterator", "odict_iterator", "itertools.zip_longest", "itertools.pairwise"].contains n && vs[0]? == some (rawInt _))=true then _ else _) Q E s
       rw[if_neg (by intro h;rw[hn,Bool.false_and] at h;cases h)]
       exact aV hQ))
noncomputable def sM(K:W.Frag)(a:Addr):It :=
 ⟨λi H=>∃xs x,aE K H a xs/\xs[i]? = some x,λi H x H'=>H' = H/\∀xs,aE K H a xs->xs[i]? = some x,λi H=>∃xs,aE K H a xs/\xs.length<=i⟩
noncomputable def zb(K:W.Frag)(a:Addr):It :=
 ⟨λi H=>∃xs x,aY K H a xs/\xs[i]? = some x,λi H x H'=>H' = H/\∀xs,aY K H a xs->xs[i]? = some x,λi H=>∃xs,aY K H a xs/\xs.length<=i⟩
noncomputable def pW(lo:Int)(n:Nat):It:=⟨λi _=>i<n,λi H x H'=>H' = H/\x = .int (lo+i),λi _=>n<=i⟩
theorem abS{P:Program}{w:World}{K:W.Frag}{tg:Expr}(a it:Addr):Turn P w K tg (sM K a) [it] it (λi h=>h.IsListIter it a i) where
 mem:=by simp
 obj:=λi h st b hb=>by
  have e:b=it:=by simpa using hb
  subst e;obtain⟨o,e,c,d⟩:=st;exact⟨o,e,λv z=>by rw[d] at z;cases z⟩
 keep:=λi h h' st k=>st.at λo e=>k it (by simp) o e
 item:=by
  intro X hP hw hK hc i pins s σ H E I hf st hg;subst hP hw hK;obtain⟨xs,x,hq,hx⟩:=hg;obtain⟨its,rv,p,hz⟩:=I.list hq;obtain⟨u,hu,ru⟩:=rv.get hx;obtain⟨f0,f1,f2,f3,f4,f5⟩:=hf it (by simp)
  refine wpAny_pyNext_list_item st p.isList (x:=u) (by simpa using hu) λh' gi sb=>?_
  have I1:Inv X pins σ H { s with heap:=h' }:=I.turned (t':=s.toks) (λb o hb e=>(sb.2 b hb).trans e) f0 f1 f3 f4 f5;obtain⟨o,e,c,d⟩:=id gi;exact⟨u,rfl,y_ (s:={ s with heap:=h' }) e c d ⋯ ⟨x,H,I1,ru,⟨rfl,λys hy=>by rw[I.Sj hy hq];exact hx⟩,gi,λb hb=>(hf b hb).1⟩⟩
 done:=by
  intro X hP hw hK hc i pins s σ H E I hf st hg;subst hP hw hK;obtain⟨xs,hq,hx⟩:=hg;obtain⟨its,rv,p,hz⟩:=I.list hq;obtain⟨f0,f1,f2,f3,f4,f5⟩:=hf it (by simp)
  have hl:=rv.length;exact wpAny_pyNext_list_end (I.ok.hd hc) st p.isList (by simp;lia) λh' eb=>⟨rfl,I.turned (t':=s.toks) (λb o hb e=>eb b o hb e) f0 f1 f3 f4 f5⟩
 self:=λ_ _ _ _ _ st h=>wpAny_pyIter_listiter st h
theorem abT{P:Program}{w:World}{K:W.Frag}{tg:Expr}(a it:Addr):Turn P w K tg (zb K a) [it] it (λi h=>h.IsTupleIter it a i) where
 mem:=by simp
 obj:=λi h st b hb=>by
  have e:b=it:=by simpa using hb
  subst e;obtain⟨o,e,c,d⟩:=st;exact⟨o,e,λv z=>by rw[d] at z;cases z⟩
 keep:=λi h h' st k=>st.at λo e=>k it (by simp) o e
 item:=by
  intro X hP hw hK hc i pins s σ H E I hf st hg;subst hP hw hK;obtain⟨xs,x,hq,hx⟩:=hg;obtain⟨its,rv,p,hz⟩:=I.tuple hq;obtain⟨u,hu,ru⟩:=rv.get hx;obtain⟨f0,f1,f2,f3,f4,f5⟩:=hf it (by simp)
  refine wpAny_pyNext_tuple_item st (show s.heap.IsTuple a its.toArray from p) (x:=u) (by simpa using hu) λh' gi sb=>?_
  have I1:Inv X pins σ H { s with heap:=h' }:=I.turned (t':=s.toks) (λb o hb e=>(sb.2 b hb).trans e) f0 f1 f3 f4 f5;obtain⟨o,e,c,d⟩:=id gi;exact⟨u,rfl,y_ (s:={ s with heap:=h' }) e c d ⋯ ⟨x,H,I1,ru,⟨rfl,λys hy=>by rw[I.abR hy hq];exact hx⟩,gi,λb hb=>(hf b hb).1⟩⟩
 done:=by
  intro X hP hw hK hc i pins s σ H E I hf st hg;subst hP hw hK;obtain⟨xs,hq,hx⟩:=hg;obtain⟨its,rv,p,hz⟩:=I.tuple hq;obtain⟨f0,f1,f2,f3,f4,f5⟩:=hf it (by simp)
  have hl:=rv.length;exact wpAny_pyNext_tuple_end (I.ok.hd hc) st (show s.heap.IsTuple a its.toArray from p) (by simp;lia) λh' eb=>⟨rfl,I.turned (t':=s.toks) (λb o hb e=>eb b o hb e) f0 f1 f3 f4 f5⟩
 self:=λ_ _ _ _ _ st h=>wpAny_pyIter_tupleiter st h
theorem abU{P:Program}{w:World}{K:W.Frag}{tg:Expr}(it:Addr)(lo:Int)(n:Nat):Turn P w K tg (pW lo n) [it] it (λi h=>IsRangeIter h it (lo+(i:Nat)*1) ((n:Int) - (i:Nat)) 1) where
 mem:=by simp
 obj:=λi h st b hb=>by
  have e:b=it:=by simpa using hb
  subst e;exact⟨_,st,λv z=>by
   have z':Data.fields _=Data.cell v:=z;cases z'⟩
 keep:=λi h h' st k=>k it (by simp) _ st
 item:=by
  intro X hP hw hK hc i pins s σ H E I hf st hg;subst hP hw hK;obtain⟨f0,f1,f2,f3,f4,f5⟩:=hf it (by simp)
  have W:=Walks.range (prog:=X.prog) (w:=X.w) (I.ok.hd hc) it lo 1 n;refine W.item i s _ _ hg st λv h' tk hv gi kk=>?_;obtain⟨t,rfl⟩:=hv;have I1:Inv X pins σ H { s with heap:=h',toks:=tk }:=I.turned (λb o hb e=>kk b o (by simpa using hb) e) f0 f1 f3 f4 f5
  refine⟨_,rfl,y_ (s:={ s with heap:=h',toks:=tk }) (n := "range_iterator") gi rfl rfl ⋯ ⟨.int (lo+i),H,I1,⟨t,?_⟩,⟨rfl,rfl⟩,gi,λb hb=>(hf b hb).1⟩⟩
  rw[Int.mul_one]
 done:=by
  intro X hP hw hK hc i pins s σ H E I hf st hg;subst hP hw hK;obtain⟨f0,f1,f2,f3,f4,f5⟩:=hf it (by simp)
  exact wpAny_pyNext_range_end (I.ok.hd hc) st (by have:n<=i:=hg;lia) λh' eb=>⟨rfl,I.turned (t':=s.toks) (λb o hb e=>eb b o hb e) f0 f1 f3 f4 f5⟩
 self:=λ_ _ _ _ _ st h=>wpAny_pyIter_rangeiter st h
section
variable{X:Cx}{tg:Expr}
def sN(K:W.Frag)(tl:TE):TI:=λσ H R=>tl σ H λx H1=>∃a,x = .ref a/\(∃xs,aE K H1 a xs)/\R (sM K a) H1
def G9(K:W.Frag)(tl:TE):TI:=λσ H R=>tl σ H λx H1=>∃a,x = .ref a/\(∃xs,aY K H1 a xs)/\R (zb K a) H1
theorem gM{l:Expr}{tl:TE}(hl:PE X l tl):PI X tg l (sN X.K tl):=by
 intro pins s σ H R I h;refine aO (hl pins s σ H _ I h) λv s1 ⟨x,H1,I1,r1,q1⟩=>?_;obtain⟨a,e,⟨xs,hq⟩,q⟩:=q1;subst e;cases r1;obtain⟨its,rv,p,hz⟩:=I1.list hq;refine wz p.isList ?_;refine⟨s1.heap.objs.size,[s1.heap.objs.size],_,_,H1,rfl,I1.kept (t':=s1.toks) λb o e=>bW _ e,abS a _,⟨_,e_ _ rfl,rfl,rfl⟩,λb hb=>?_,q⟩;have e:b=s1.heap.objs.size:=by simpa using hb
 subst e;exact I1.qN (bu _) (I1.aL.fresh (bu _))
theorem Cz{l:Expr}{tl:TE}(hl:PE X l tl):PI X tg l (G9 X.K tl):=by
 intro pins s σ H R I h;refine aO (hl pins s σ H _ I h) λv s1 ⟨x,H1,I1,r1,q1⟩=>?_;obtain⟨a,e,⟨xs,hq⟩,q⟩:=q1;subst e;cases r1;obtain⟨its,rv,p,hz⟩:=I1.tuple hq;refine wpAny_pyIter_tuple (show s1.heap.IsTuple a its.toArray from p) ?_;refine⟨s1.heap.objs.size,[s1.heap.objs.size],_,_,H1,rfl,I1.kept (t':=s1.toks) λb o e=>bW _ e,abT a _,⟨_,e_ _ rfl,rfl,rfl⟩,λb hb=>?_,q⟩;have e:b=s1.heap.objs.size:=by simpa using hb
 subst e;exact I1.qN (bu _) (I1.aL.fresh (bu _))
theorem Sx{pins:List (Addr×Obj)}{σ:St}{H:Hp}{s:Shared}{R:It->Hp->Prop}{E:Value->Shared->Prop}{lo hi:Int}{t u v:Tok}{tk:Nat}(I:Inv X pins σ H s)(h1 : -(2 ^ 62)<=lo)(h2:lo<2 ^ 62)(h3 : -(2 ^ 62)<=hi)(h4:hi<2 ^ 62)
  (q:R (pW lo (hi - lo).toNat) H):wpAny (model X.prog X.w) X.A (pyIter (.ref s.heap.objs.size)) (Sw X pins σ tg R) E { s with heap:=s.heap.push { cls:=.type "range",data:=.fields #[.int lo t,.int hi u,.int 1 v] },toks:=tk }:=by
 refine wpAny_pyIter_range (IsRange.new ..) (small_one h1 h2 h3 h4) ?_;have I1:Inv X pins σ H { s with heap:=s.heap.push { cls:=.type "range",data:=.fields #[.int lo t,.int hi u,.int 1 v] },toks:=tk }:=I.kept λb o e=>bW _ e;refine⟨(s.heap.push { cls:=.type "range",data:=.fields #[.int lo t,.int hi u,.int 1 v] }).objs.size,[(s.heap.push { cls:=.type "range",data:=.fields #[.int lo t,.int hi u,.int 1 v] }).objs.size],_,_,H,rfl,
  I1.kept (t':=tk) λb o e=>bW _ e,abU _ lo (hi - lo).toNat,?_,λb hb=>?_,q⟩
 ·have e1:lo+((0:Nat):Int)*1=lo:=by simp
  have e2:(((hi - lo).toNat:Nat):Int) - ((0:Nat):Int)=Builtin.Range.rangeSize lo hi 1:=by rw[rangeSize_one];split <;> lia
  show IsRangeIter _ _ (lo+((0:Nat):Int)*1) ((((hi - lo).toNat:Nat):Int) - ((0:Nat):Int)) 1;rw[e1,e2];exact e_ _ rfl
 ·have e:b=(s.heap.push { cls:=.type "range",data:=.fields #[.int lo t,.int hi u,.int 1 v] }).objs.size:=by simpa using hb
  subst e;exact I1.qN (bu _) (I1.aL.fresh (bu _))
def wJ(ta:TA):TI:=λσ H R=>ta σ H λvs H1=>∃j:Int,vs = [.int j]/\-(2 ^ 62)<=j/\j<2 ^ 62/\R (pW 0 j.toNat) H1
def zc(ta:TA):TI:=λσ H R=>ta σ H λvs H1=>∃i j:Int,vs = [.int i,.int j]/\(-(2 ^ 62)<=i/\i<2 ^ 62/\-(2 ^ 62)<=j/\j<2 ^ 62)/\R (pW i (j - i).toNat) H1
theorem j5{a:Expr}{ta:TA}{p pos:Pos}(hg:Gl X "range")(hm:X.mg "range" = none)(ha:PA X [a] ta)(hs:starEach [a] X.env = [(false,eval a X.env)]:=by rfl):PI X tg (.Call (.Name "range" p) [a] [] pos) (wJ ta):=by
 intro pins s σ H R I h;refine Call_ (mF I hg hm boot_range (su (aO (ha pos pins s σ H _ I h) λus s1 ⟨vs,H1,I1,r1,q1⟩=>?_) hs rfl));obtain⟨j,e,q1,q2,q⟩:=q1;subst e;cases r1 with
 | cons r rr =>
  cases rr;obtain⟨t,rfl⟩:=r;exact call_range_1 (Sx I1 ∅ ∅ q1 q2 (by simpa using q))
theorem wK{a b:Expr}{ta:TA}{p pos:Pos}(hg:Gl X "range")(hm:X.mg "range" = none)(ha:PA X [a,b] ta)(hs:starEach [a,b] X.env = [(false,eval a X.env),(false,eval b X.env)]:=by rfl)(lH:starEach [b] X.env = [(false,eval b X.env)]:=by rfl) :
  PI X tg (.Call (.Name "range" p) [a,b] [] pos) (zc ta):=by
 intro pins s σ H R I h;refine Call_ (mF I hg hm boot_range (su (aO (ha pos pins s σ H _ I h) λus s1 ⟨vs,H1,I1,r1,q1⟩=>?_) (by rw[hs,lH]) (by rw[lH];rfl)))
 obtain⟨i,j,e,⟨q1,q2,q3,q4⟩,q⟩:=q1;subst e;cases r1 with
 | cons r rr =>
  cases rr with
  | cons r' rr =>
   cases rr;obtain⟨t,rfl⟩:=r;obtain⟨t',rfl⟩:=r';exact call_range_2 (Sx I1 q1 q2 q3 q4 q)
def j6(wi:TI)(g:TG)(tb:TS):TS:=λD σ H=>wi σ H λJ H1=>∃W:Nat->Nat->St->Hp->Prop,(∃m,W 0 m σ H1)/\∀i m σ H,W i m σ H->
 (J.stop i H/\D.nx σ H)\/(J.go i H/\∃N:St->Hp->Prop,(∀bq H',N bq H'->∃m',m' < m/\W (i+1) m' bq H')/\∀x H',J.pT i H x H'->g x σ H' λaA H2=>tb { D with nx:=N,ct:=N,bk:=D.nx } aA H2)
noncomputable def zd(fp:List Addr)(h:Heap):List (Addr×Obj):=fp.filterMap λb=>(h.get? b).map λo=>(b,o)
theorem CB{fp:List Addr}{h:Heap}{b:Addr}{o:Obj}(hb:b∈fp)(e:h.get? b=some o):(b,o)∈zd fp h:=BY.mpr ⟨b,hb,by rw[e];rfl⟩
theorem abV{fp:List Addr}{h:Heap}{p:Addr×Obj}(hp:p∈zd fp h):p.1∈fp/\h.get? p.1=some p.2:=by
 obtain⟨b,hb,e⟩:=BY.mp hp;cases q:h.get? b with
 | none=>rw[q] at e;cases e
 | some o =>
  rw[q] at e;have e':(b,o)=p:=dD e;subst e';exact⟨hb,q⟩
theorem Inv.pinned{pins:List (Addr×Obj)}{σ:St}{H:Hp}{s:Shared}{fp:List Addr}(I:Inv X pins σ H s)(hf:∀b∈fp,pU X pins H b)(ho:∀b∈fp,∃o,s.heap.get? b=some o/\∀v,o.data≠.cell v):Inv X (pins++zd fp s.heap) σ H s :=
 I.pQ λp hp=>(cF.mp hp).elim (λz=>I.pin p (fF _ z)) λz=>by
  obtain⟨hb,e⟩:=abV z;obtain⟨f0,f1,f2,_⟩:=hf p.1 hb;obtain⟨o,e',d⟩:=ho p.1 hb;rw[e] at e';cases e';exact⟨e,f0,f1,f2,d⟩
theorem Inv.ze{pins pl:List (Addr×Obj)}{σ:St}{H:Hp}{s:Shared}(I:Inv X (pins++pl) σ H s):Inv X pins σ H s:=I.pQ λp hp=>I.pin p (fF _ (n8 _ hp))
theorem dU{iter:Expr}{body:List Stmt}{wi:TI}{g:TG}{tb:TS}{pos:Pos}(hp:PassesOwn (model X.prog X.w) X.A X.env X.xe)(hc:X.calm=true)(hi:PI X tg iter wi)(hg:PG X tg g)(hb:iH X body tb)
  (hs:∀x,foldedSetIterable iter X.env x=pure x:=by intro _;rfl):PS X (.For tg iter body [] pos) (j6 wi g tb):=by
 intro pins s σ H D I h;refine wpAny_For (aO (hi pins s σ H _ I h) λv s1 h1=>aO h1 λCy s2 h2=>?_) hs;obtain⟨it,fp,tn,J,H2,e,I2,T,iI,f2,W,⟨m0,w0⟩,turn⟩:=h2;subst e
 -- what stays true of the iterator's objects through the loop
 have uK:∀ {H':Hp},(∀b∈fp,H' b=none)->∀b∈fp,pU X pins H' b:=λhn b hb=>⟨hn b hb,(f2 b hb).2⟩;refine codeAny_forLoop_any (λn s'=>∃i bq H',Inv X pins bq H' s'/\tn i s'.heap/\(∀b∈fp,H' b=none)/\W i n bq H') ?_ m0 ⟨0,σ,H2,I2,iI,λb hb=>(f2 b hb).1,w0⟩;rintro n s3 ⟨i,jJ,H3,I3,uL,uM,w3⟩;rcases turn i n jJ H3 w3 with⟨stop,qn⟩ | ⟨go,N,hN,step⟩
 ·refine uC hp (aO (T.done X rfl rfl rfl hc i pins s3 jJ H3 X.xe I3 (uK uM) uL stop) λr s4 ⟨hr,I4⟩=>?_);subst hr;exact wm ⟨jJ,H3,I4,qn⟩
 ·refine uC hp (aO (T.item X rfl rfl rfl hc i pins s3 jJ H3 X.xe I3 (uK uM) uL go) λr s4 ⟨u,hr,h4⟩=>?_);subst hr;refine uC hp (aO h4 λ_ s5 ⟨x,H5,I5,r5,zz⟩=>?_);obtain⟨y5,uN,G_⟩:=zz;have Hf:=I5.pinned (uK G_) (T.obj _ _ uN);refine uC hp (aO (hg _ s5 jJ H5 x u _ Hf r5 (step x H5 y5)) λ_ s6 ⟨sO,H6,I6,q6⟩=>?_);refine uC hp (aO (hb _ s6 sO H6 _ I6 q6) λf s7 q7=>?_);have again:∀ {kL:St} {H7:Hp},Inv X (pins++zd fp s5.heap) kL H7 s7->N kL H7->∃m,m<n/\∃i bq H',Inv X pins bq H' s7/\tn i s7.heap/\(∀b∈fp,H' b=none)/\W i m bq H':=λ{kL H7} I7 n7=>by
   obtain⟨m',hm,w7⟩:=hN kL H7 n7;refine⟨m',hm,i+1,kL,H7,I7.ze,T.keep _ _ _ uN λb hb o e=>(I7.pin (b,o) (fF _ (fF _ (CB hb e)))).1,λb hb=>?_,w7⟩;obtain⟨o,e,d⟩:=T.obj _ _ uN b hb;exact(I7.pin (b,o) (fF _ (fF _ (CB hb e)))).2.1
  cases f with
  | next=>obtain⟨kL,H7,I7,n7⟩:=q7;exact again I7 n7
  | cont=>obtain⟨kL,H7,I7,n7⟩:=q7;exact again I7 n7
  | brk=>obtain⟨kL,H7,I7,q7⟩:=q7;exact⟨kL,H7,I7.ze,q7⟩
  | ret v=>obtain⟨x7,kL,H7,I7,r7,q7⟩:=q7;exact⟨x7,kL,H7,I7.ze,r7,q7⟩
end
theorem Sy{K:W.Frag}{a:Addr}{xs:List V}{g:TG}{tb:TS}{D:Ends}{σ:St}{H:Hp}(Pv:Nat->St->Hp->Prop)(h0:Pv 0 σ H)(hl:∀i σ H,i<=xs.length->Pv i σ H->aE K H a xs)
  (hs:∀i x σ H,xs[i]? = some x->Pv i σ H->g x σ H λaA H2=>tb { D with nx:=Pv (i+1),ct:=Pv (i+1),bk:=D.nx } aA H2) (hd:∀σ H,Pv xs.length σ H->D.nx σ H) :
  ∃W:Nat->Nat->St->Hp->Prop,(∃m,W 0 m σ H)/\∀i m σ H,W i m σ H->
   ((sM K a).stop i H/\D.nx σ H)\/((sM K a).go i H/\∃N:St->Hp->Prop,(∀bq H',N bq H'->∃m',m' < m/\W (i+1) m' bq H')/\∀x H',(sM K a).pT i H x H'->g x σ H' λaA H2=>tb { D with nx:=N,ct:=N,bk:=D.nx } aA H2):=by
 refine⟨λi m σ H=>m=xs.length - i/\i<=xs.length/\Pv i σ H,⟨xs.length,by simp,eX _,h0⟩,?_⟩
 rintro i m σ H ⟨rfl,hi,p⟩;have q:=hl i σ H hi p;by_cases bM:i<xs.length
 ·refine .inr ⟨⟨xs,xs[i],q,by simp[bM]⟩,Pv (i+1),λbq H' p'=>⟨xs.length - (i+1),∅,rfl,bM,p'⟩,λx H' y=>?_⟩
  obtain⟨e,y⟩:=y;subst e;exact hs i x σ _ (y xs q) p
 ·have e:i=xs.length:=by lia
  subst e;exact .inl ⟨⟨xs,q,bu _⟩,hd σ H p⟩
theorem abW{K:W.Frag}{a:Addr}{xs:List V}{g:TG}{tb:TS}{D:Ends}{σ:St}{H:Hp}(Pv:Nat->St->Hp->Prop)(h0:Pv 0 σ H)(hl:∀i σ H,i<=xs.length->Pv i σ H->aY K H a xs)
  (hs:∀i x σ H,xs[i]? = some x->Pv i σ H->g x σ H λaA H2=>tb { D with nx:=Pv (i+1),ct:=Pv (i+1),bk:=D.nx } aA H2) (hd:∀σ H,Pv xs.length σ H->D.nx σ H) :
  ∃W:Nat->Nat->St->Hp->Prop,(∃m,W 0 m σ H)/\∀i m σ H,W i m σ H->
   ((zb K a).stop i H/\D.nx σ H)\/((zb K a).go i H/\∃N:St->Hp->Prop,(∀bq H',N bq H'->∃m',m' < m/\W (i+1) m' bq H')/\∀x H',(zb K a).pT i H x H'->g x σ H' λaA H2=>tb { D with nx:=N,ct:=N,bk:=D.nx } aA H2):=by
 refine⟨λi m σ H=>m=xs.length - i/\i<=xs.length/\Pv i σ H,⟨xs.length,by simp,eX _,h0⟩,?_⟩
 rintro i m σ H ⟨rfl,hi,p⟩;have q:=hl i σ H hi p;by_cases bM:i<xs.length
 ·refine .inr ⟨⟨xs,xs[i],q,by simp[bM]⟩,Pv (i+1),λbq H' p'=>⟨xs.length - (i+1),∅,rfl,bM,p'⟩,λx H' y=>?_⟩
  obtain⟨e,y⟩:=y;subst e;exact hs i x σ _ (y xs q) p
 ·have e:i=xs.length:=by lia
  subst e;exact .inl ⟨⟨xs,q,bu _⟩,hd σ H p⟩
theorem Hg{lo:Int}{n:Nat}{g:TG}{tb:TS}{D:Ends}{σ:St}{H:Hp}(Pv:Nat->St->Hp->Prop)(h0:Pv 0 σ H)
  (hs:∀i σ H,i<n->Pv i σ H->g (.int (lo+i)) σ H λaA H2=>tb { D with nx:=Pv (i+1),ct:=Pv (i+1),bk:=D.nx } aA H2) (hd:∀σ H,Pv n σ H->D.nx σ H) :
  ∃W:Nat->Nat->St->Hp->Prop,(∃m,W 0 m σ H)/\∀i m σ H,W i m σ H->
   ((pW lo n).stop i H/\D.nx σ H)\/((pW lo n).go i H/\∃N:St->Hp->Prop,(∀bq H',N bq H'->∃m',m' < m/\W (i+1) m' bq H')/\∀x H',(pW lo n).pT i H x H'->g x σ H' λaA H2=>tb { D with nx:=N,ct:=N,bk:=D.nx } aA H2):=by
 refine⟨λi m σ H=>m=n - i/\i<=n/\Pv i σ H,⟨n,by simp,eX _,h0⟩,?_⟩
 rintro i m σ H ⟨rfl,hi,p⟩;by_cases bM:i<n
 ·refine .inr ⟨bM,Pv (i+1),λbq H' p'=>⟨n - (i+1),∅,rfl,bM,p'⟩,λx H' y=>?_⟩
  obtain⟨e,y⟩:=y;subst e y;exact hs i σ _ bM p
 ·have e:i=n:=by lia
  subst e;exact .inl ⟨bu _,hd σ H p⟩
noncomputable abbrev R2:=V->V->Hp->VK->Prop
noncomputable def cZ(X:Cx)(f:Value->Value->Sem Value)(r:R2):Prop :=
 ∀(pins:List (Addr×Obj)) (s:Shared) (σ:St) (H:Hp) (x y:V) (v u:Value) (Q:VK),Inv X pins σ H s->RelV x v->RelV y u->r x y H Q->
  wpAny (model X.prog X.w) X.A (f v u) (EP X pins σ Q) X.xe s
noncomputable def Hh(X:Cx)(f:Value->Sem Value)(r:V->Hp->VK->Prop):Prop :=
 ∀(pins:List (Addr×Obj)) (s:Shared) (σ:St) (H:Hp) (x:V) (v:Value) (Q:VK),Inv X pins σ H s->RelV x v->r x H Q->
  wpAny (model X.prog X.w) X.A (f v) (EP X pins σ Q) X.xe s
noncomputable def jo(X:Cx)(f:Value)(r:List V->Hp->VK->Prop):Prop :=
 ∀(pins:List (Addr×Obj)) (s:Shared) (σ:St) (H:Hp) (xs:List V) (us:List Value) (Q:VK),Inv X pins σ H s->Vals xs us->r xs H Q->
  wpAny (model X.prog X.w) X.A (call f us) (EP X pins σ Q) X.xe s
noncomputable def abX(X:Cx)(r:V->Hp->(Bool->Hp->Prop)->Prop):Prop :=
 ∀(pins:List (Addr×Obj)) (s:Shared) (σ:St) (H:Hp) (x:V) (v:Value) (Q:Bool->Hp->Prop),Inv X pins σ H s->RelV x v->r x H Q->
  wpAny (model X.prog X.w) X.A (truthy v) (TP X pins σ Q) X.xe s
def zg(r:R2)(ta tb:TE):TE:=λσ H Q=>ta σ H λx H1=>tb σ H1 λy H2=>r x y H2 Q
def Sz(r:V->Hp->VK->Prop)(ta:TE):TE:=λσ H Q=>ta σ H λx H1=>r x H1 Q
def rI(C:Int->Int->Prop)(g:Int->Int->V):R2:=λx y H Q=>∃i j,x = .int i/\y = .int j/\C i j/\Q (g i j) H
def kM(g:Int->Int->V):R2:=λx y H Q=>∃i j,x = .int i/\y = .int j/\Q (g i j) H
def rU(g:Int->V):V->Hp->VK->Prop:=λx H Q=>∃i,x = .int i/\Q (g i) H
section
variable{X:Cx}{a b c:Expr}{ta tb tc:TE}{pos:Pos}
theorem Hi(ha:PE X a ta)(hb:PE X b tb){pins:List (Addr×Obj)}{s:Shared}{σ:St}{H:Hp}{R:V->V->Hp->Prop}(I:Inv X pins σ H s)
  (h:ta σ H λx H1=>tb σ H1 λy H2=>R x y H2) {Q:Value->Shared->Prop} {f:Value->Value->Sem Value}
  (hf:∀v u s2 x y H2,Inv X pins σ H2 s2->RelV x v->RelV y u->R x y H2->wpAny (model X.prog X.w) X.A (f v u) Q X.xe s2) :
  wpAny (model X.prog X.w) X.A (eval a X.env) (λv aW=>wpAny (model X.prog X.w) X.A (eval b X.env) (λu jI=>wpAny (model X.prog X.w) X.A (f v u) Q X.xe jI) X.xe aW) X.xe s:=by
 refine aO (ha pins s σ H _ I h) λv s1 ⟨x,H1,I1,r1,q1⟩=>?_;refine aO (hb pins s1 σ H1 _ I1 q1) λu s2 ⟨y,H2,I2,r2,q2⟩=>?_;exact hf v u s2 x y H2 I2 r1 r2 q2
theorem aN{op:Operator}{r:R2}(ho:cZ X (binaryOp op) r)(ha:PE X a ta)(hb:PE X b tb):PE X (.BinOp a op b pos) (zg r ta tb):=by
 intro pins s σ H Q I h;exact wpAny_BinOp (Hi ha hb I h λv u s2 x y H2 I2 rx ry q=>ho pins s2 σ H2 x y v u Q I2 rx ry q)
theorem zh{op:UnaryOp}{r:V->Hp->VK->Prop}(ho:Hh X (unaryOp op) r)(ha:PE X a ta):PE X (.UnaryOp op a pos) (Sz r ta):=by
 intro pins s σ H Q I h;exact UnaryOp_ (aO (ha pins s σ H _ I h) λv s1 ⟨x,H1,I1,r1,q1⟩=>ho pins s1 σ H1 x v Q I1 r1 q1)
theorem CF{f:Value->Value->Sem Value}{C:Int->Int->Prop}{g:Int->Int->Int}
  (rule:∀(i j:Int) (t u:Tok) (s:Shared) (Q:Value->Shared->Prop) (E:Value->Shared->Prop),C i j->Q (.int (g i j) s.toks) { s with toks:=s.toks+1 }->wpAny (model X.prog X.w) X.A (f (.int i t) (.int j u)) Q E s) :
  cZ X f (rI C λi j=>.int (g i j)):=by
 intro pins s σ H x y v u Q I rx ry h;obtain⟨i,j,rfl,rfl,hc,q⟩:=h;obtain⟨t,rfl⟩:=rx;obtain⟨t',rfl⟩:=ry;exact rule i j t t' s _ _ hc ⟨.int (g i j),H,I.tok _,⟨_,rfl⟩,q⟩
theorem SA{f:Value->Value->Sem Value}{g:Int->Int->Int}
  (rule:∀(i j:Int) (t u:Tok) (s:Shared) (Q:Value->Shared->Prop) (E:Value->Shared->Prop),Q (.int (g i j) s.toks) { s with toks:=s.toks+1 }->wpAny (model X.prog X.w) X.A (f (.int i t) (.int j u)) Q E s) :
  cZ X f (kM λi j=>.int (g i j)):=by
 intro pins s σ H x y v u Q I rx ry h;obtain⟨i,j,rfl,rfl,q⟩:=h;obtain⟨t,rfl⟩:=rx;obtain⟨t',rfl⟩:=ry;exact rule i j t t' s _ _ ⟨.int (g i j),H,I.tok _,⟨_,rfl⟩,q⟩
theorem CG{f:Value->Value->Sem Value}{g:Int->Int->Bool}
  (rule:∀(i j:Int) (t u:Tok) (s:Shared) (Q:Value->Shared->Prop) (E:Value->Shared->Prop),Q (.bool (g i j)) s->wpAny (model X.prog X.w) X.A (f (.int i t) (.int j u)) Q E s) :
  cZ X f (kM λi j=>.bl (g i j)):=by
 intro pins s σ H x y v u Q I rx ry h;obtain⟨i,j,rfl,rfl,q⟩:=h;obtain⟨t,rfl⟩:=rx;obtain⟨t',rfl⟩:=ry;exact rule i j t t' s _ _ ⟨.bl (g i j),H,I,rfl,q⟩
def SD(i j:Int):Prop:=0<j/\j<1073741824
def abY(i j:Int):Prop:=0<=j/\j<=1000000/\i.natAbs<2 ^ 64
def CH(i j:Int):Prop:=(-(2 ^ 64)<i/\i<2 ^ 64)\/(-(2 ^ 64)<j/\j<2 ^ 64)
theorem CH.ok{i j:Int}(h:CH i j):IntMulOk i j:=by
 rcases h with⟨h1,h2⟩ | ⟨h1,h2⟩
 ·exact .of_left (intBits_le_64 h1 h2)
 ·exact .of_right (intBits_le_64 h1 h2)
theorem gZ:cZ X (binaryOp .Add) (kM λi j=>.int (i+j)):=SA λ_ _ _ _ _ _ _ q=>add_int q
theorem sS:cZ X (binaryOp .Sub) (kM λi j=>.int (i - j)):=SA λ_ _ _ _ _ _ _ q=>sub_int q
theorem CI:cZ X (binaryOp .Mult) (rI CH λi j=>.int (i*j)):=CF λ_ _ _ _ _ _ _ hc q=>mul_int q hc.ok
theorem SE:cZ X (binaryOp .FloorDiv) (rI SD λi j=>.int (i / j)):=CF λi j _ _ _ _ _ hc q=>by
 have h1:(0:Int)<j:=hc.1;have h2:j<1073741824:=hc.2;exact floordiv_int ∅ (by rw[Int.fdiv_eq_ediv_of_nonneg i ∅];exact q) (.inl (PyProof.noPylong_small ∅))
theorem Hj:cZ X (binaryOp .Mod) (rI (λ_ j=>0<j) λi j=>.int (i % j)):=CF λi j _ _ _ _ _ hc q=>by
 have h1:(0:Int)<j:=hc;exact mod_int' ∅ (by rw[Int.fmod_eq_emod_of_nonneg i ∅];exact q)
theorem zj:cZ X (binaryOp .Pow) (rI abY λi j=>.int (i ^ j.toNat)):=CF λ_ _ _ _ _ _ _ hc q=>pow_int_small hc.1 hc.2.1 hc.2.2 q
theorem unI{f:Value->Sem Value}{g:Int->Int}
  (rule:∀(i:Int) (t:Tok) (s:Shared) (Q:Value->Shared->Prop) (E:Value->Shared->Prop),Q (.int (g i) s.toks) { s with toks:=s.toks+1 }->wpAny (model X.prog X.w) X.A (f (.int i t)) Q E s) :
  Hh X f (rU λi=>.int (g i)):=by
 intro pins s σ H x v Q I rx h;obtain⟨i,rfl,q⟩:=h;obtain⟨t,rfl⟩:=rx;exact rule i t s _ _ ⟨.int (g i),H,I.tok _,⟨_,rfl⟩,q⟩
theorem zm:Hh X (unaryOp .USub) (rU λi=>.int (-i)):=unI λ_ _ _ _ _ q=>neg_int q
end
noncomputable def mG:V->V->Bool
 | .aR,.aR=>true | .aR,.int _=>true | .int _,.aR=>true | .aR,.bl _=>true | .bl _,.aR=>true | .aR,.str _=>true | .str _,.aR=>true
 | .int _,.int _=>true | .bl _,.bl _=>true | .str _,.str _=>true | .kI _,.kI _=>true
 | .int _,.str _=>true | .str _,.int _=>true | .bl _,.str _=>true | .str _,.bl _=>true
 | _,_=>false
def SG:R2:=λx y H Q=>mG x y=true/\Q (.bl (decide (x=y))) H
def SH:R2:=λx y H Q=>mG x y=true/\Q (.bl (!decide (x=y))) H
theorem SI{i j:Int}:decide (V.int i=V.int j)=(i == j):=by
 rw[nW];simp
theorem SJ{i j:Bool}:decide (V.bl i=V.bl j)=(i == j):=by
 rw[nW];simp
theorem SK{i j:Str}:decide (V.str i=V.str j)=(i == j):=by
 rw[nW];simp
theorem SM{i j:Array UInt8}:decide (V.kI i=V.kI j)=(i.toList == j.toList):=by
 rw[nW];cases i;cases j;simp
section
variable{X:Cx}{a b c:Expr}{ta tb tc:TE}{pos:Pos}
theorem eS{pins:List (Addr×Obj)}{σ:St}{H:Hp}{s:Shared}{Q:VK}{k k':Bool}(I:Inv X pins σ H s)(q:Q (.bl k) H)(e:k=k'):EP X pins σ Q (.bool k') s:=by
 subst e;exact⟨.bl k,H,I,rfl,q⟩
theorem mH:cZ X (compareOp .Eq) SG:=by
 intro pins s σ H x y v u Q I rx ry h;obtain⟨hs,q⟩:=h;cases x with
 | aR =>
  cases rx;cases y with
  | aR=>cases ry;exact PySem.EqNone.eq_none_none (eS I q (by simp))
  | bl j=>cases ry;exact PySem.EqNone.eq_none_bool (eS I q (by simp))
  | int j=>obtain⟨t',rfl⟩:=ry;exact PySem.EqNone.eq_none_int (eS I q (by simp))
  | str j=>obtain⟨t',rfl⟩:=ry;exact PySem.EqNone.eq_none_str (eS I q (by simp))
  | _=>exact absurd (show false=true from hs) gg
 | bl i =>
  cases rx;cases y with
  | aR=>cases ry;exact PySem.EqNone.eq_bool_none (eS I q (by simp))
  | bl j=>cases ry;exact eq_bool (eS I q SJ)
  | str j=>obtain⟨t',rfl⟩:=ry;exact PySem.EqMixed.eq_bool_str (eS I q (by simp))
  | _=>exact absurd (show false=true from hs) gg
 | int i =>
  obtain⟨t,rfl⟩:=rx;cases y with
  | aR=>cases ry;exact PySem.EqNone.eq_int_none (eS I q (by simp))
  | int j=>obtain⟨t',rfl⟩:=ry;exact eq_int (eS I q SI)
  | str j=>obtain⟨t',rfl⟩:=ry;exact PySem.EqMixed.eq_int_str (eS I q (by simp))
  | _=>exact absurd (show false=true from hs) gg
 | str i =>
  obtain⟨t,rfl⟩:=rx;cases y with
  | aR=>cases ry;exact PySem.EqNone.eq_str_none (eS I q (by simp))
  | bl j=>cases ry;exact PySem.EqMixed.eq_str_bool (eS I q (by simp))
  | int j=>obtain⟨t',rfl⟩:=ry;exact PySem.EqMixed.eq_str_int (eS I q (by simp))
  | str j=>obtain⟨t',rfl⟩:=ry;exact eq_str (eS I q SK)
  | _=>exact absurd (show false=true from hs) gg
 | kI i =>
  obtain⟨t,rfl⟩:=rx;cases y with
  | kI j=>obtain⟨t',rfl⟩:=ry;exact PySem.W.eq_bytes (eS I q SM)
  | _=>exact absurd (show false=true from hs) gg
 | _=>cases y <;> exact absurd (show false=true from hs) gg
theorem sU:cZ X (compareOp .NotEq) SH:=by
 intro pins s σ H x y v u Q I rx ry h;obtain⟨hs,q⟩:=h;cases x with
 | aR =>
  cases rx;cases y with
  | aR=>cases ry;exact PySem.EqNone.ne_none_none (eS I q (by simp))
  | bl j=>cases ry;exact PySem.EqNone.ne_none_bool (eS I q (by simp))
  | int j=>obtain⟨t',rfl⟩:=ry;exact PySem.EqNone.ne_none_int (eS I q (by simp))
  | str j=>obtain⟨t',rfl⟩:=ry;exact PySem.EqNone.ne_none_str (eS I q (by simp))
  | _=>exact absurd (show false=true from hs) gg
 | bl i =>
  cases rx;cases y with
  | aR=>cases ry;exact PySem.EqNone.ne_bool_none (eS I q (by simp))
  | bl j=>cases ry;exact ne_bool (eS I q (gh not SJ))
  | str j=>obtain⟨t',rfl⟩:=ry;exact PySem.EqMixed.ne_bool_str (eS I q (by simp))
  | _=>exact absurd (show false=true from hs) gg
 | int i =>
  obtain⟨t,rfl⟩:=rx;cases y with
  | aR=>cases ry;exact PySem.EqNone.ne_int_none (eS I q (by simp))
  | int j=>obtain⟨t',rfl⟩:=ry;exact ne_int (eS I q (gh not SI))
  | str j=>obtain⟨t',rfl⟩:=ry;exact PySem.EqMixed.ne_int_str (eS I q (by simp))
  | _=>exact absurd (show false=true from hs) gg
 | str i =>
  obtain⟨t,rfl⟩:=rx;cases y with
  | aR=>cases ry;exact PySem.EqNone.ne_str_none (eS I q (by simp))
  | bl j=>cases ry;exact PySem.EqMixed.ne_str_bool (eS I q (by simp))
  | int j=>obtain⟨t',rfl⟩:=ry;exact PySem.EqMixed.ne_str_int (eS I q (by simp))
  | str j=>obtain⟨t',rfl⟩:=ry;exact ne_str (eS I q (gh not SK))
  | _=>exact absurd (show false=true from hs) gg
 | kI i =>
  obtain⟨t,rfl⟩:=rx;cases y with
  | kI j=>obtain⟨t',rfl⟩:=ry;exact PySem.W.ne_bytes (eS I q (gh not SM))
  | _=>exact absurd (show false=true from hs) gg
 | _=>cases y <;> exact absurd (show false=true from hs) gg
theorem gF:cZ X (compareOp .Lt) (kM λi j=>.bl (decide (i<j))):=CG λ_ _ _ _ _ _ _ q=>lt_int q
theorem SN:cZ X (compareOp .LtE) (kM λi j=>.bl (decide (i<=j))):=CG λ_ _ _ _ _ _ _ q=>le_int q
theorem j7:cZ X (compareOp .Gt) (kM λi j=>.bl (decide (j<i))):=CG λ_ _ _ _ _ _ _ q=>gt_int q
theorem uO:cZ X (compareOp .GtE) (kM λi j=>.bl (decide (j<=i))):=CG λ_ _ _ _ _ _ _ q=>ge_int q
theorem SO:cZ X (compareOp .Is) (λx y H Q=>y = .aR/\Q (.bl (decide (x = .aR))) H):=by
 intro pins s σ H x y v u Q I rx ry h;obtain⟨rfl,q⟩:=h;cases ry;refine is_none_gen (eS I q ?_);cases x <;> first
  | (cases rx;rfl)
  | (obtain⟨t,rfl⟩:=rx;rfl)
theorem abZ:cZ X (compareOp .IsNot) (λx y H Q=>y = .aR/\Q (.bl (!decide (x = .aR))) H):=by
 intro pins s σ H x y v u Q I rx ry h;obtain⟨rfl,q⟩:=h;cases ry;refine isnot_none_gen (eS I q ?_);cases x <;> first
  | (cases rx;rfl)
  | (obtain⟨t,rfl⟩:=rx;rfl)
theorem bG(b:Expr){op:CmpOp}(h:op≠.In:=by decide)(h2:op≠.NotIn:=by decide):behindInMarks op b=false:=by
 have e1:(op == CmpOp.In)=false:=by cases op <;> first | rfl | exact absurd rfl h
 have e2:(op == CmpOp.NotIn)=false:=by cases op <;> first | rfl | exact absurd rfl h2
 cases b <;> simp[behindInMarks,e1,e2]
theorem wL{op:CmpOp}{r:R2}(ho:cZ X (compareOp op) r)(ha:PE X a ta)(hb:PE X b tb)(hm:behindInMarks op b=false):PE X (.Compare a [op] [b] pos) (zg r ta tb):=by
 intro pins s σ H Q I h;exact wpAny_Compare1 (Hi ha hb I h λv u s2 x y H2 I2 rx ry q=>ho pins s2 σ H2 x y v u Q I2 rx ry q) hm
def Hl(t:TE):TT:=λσ H Q=>t σ H λx H'=>∃k,x = .bl k/\Q k H'
theorem c7{op:CmpOp}{r:R2}(ho:cZ X (compareOp op) r)(ha:PE X a ta)(hb:PE X b tb)(hm:behindInMarks op b=false):PT X (.Compare a [op] [b] pos) (Hl (zg r ta tb)):=by
 intro pins s σ H Q I h;refine GV (aO (ha pins s σ H _ I h) λv s1 ⟨x,H1,I1,r1,q1⟩=>aO (hb pins s1 σ H1 _ I1 q1) λu s2 ⟨y,H2,I2,r2,q2⟩ =>
  aO (ho pins s2 σ H2 x y v u _ I2 r1 r2 q2) λc s3 ⟨z,H3,I3,r3,zz⟩=>?_) hm
 obtain⟨k,e,q3⟩:=zz;subst e;cases r3;exact oq ⟨H3,I3,q3⟩
def SQ(r r':R2)(ta tb tc:TE):TE:=λσ H Q=>ta σ H λx H1=>tb σ H1 λy H2=>r x y H2 λz H3=>∃k,z = .bl k/\
 (if k=true then tc σ H3 λw' H4=>r' y w' H4 Q else Q (.bl false) H3)
theorem ab0{op Ho:CmpOp}{r r':R2}(ho:cZ X (compareOp op) r)(gW:cZ X (compareOp Ho) r')(ha:PE X a ta)(hb:PE X b tb)(hc:PE X c tc)
  (hm:lastMarks [op,Ho] [b,c] = false:=by with_unfolding_all rfl):PT X (.Compare a [op,Ho] [b,c] pos) (Hl (SQ r r' ta tb tc)):=by
 intro pins s σ H Q I h;refine isTrue_chain (aO (ha pins s σ H _ I h) λv s1 ⟨x,H1,I1,r1,q1⟩=>test_link (aO (hb pins s1 σ H1 _ I1 q1) λu s2 ⟨y,H2,I2,r2,q2⟩ =>
  aO (ho pins s2 σ H2 x y v u _ I2 r1 r2 q2) λd s3 ⟨z,H3,I3,r3,zz⟩=>?_)) hm
 obtain⟨k,e,q3⟩:=zz;subst e;cases r3;refine oq ?_;cases k with
 | false =>
  obtain⟨k',e',q'⟩:=q3;cases e';exact ite_ff ⟨H3,I3,q'⟩
 | true =>
  refine ite_tt (test_last (aO (hc pins s3 σ H3 _ I3 q3) λw' s4 ⟨z',H4,I4,r4,q4⟩=>aO (gW pins s4 σ H4 y z' u w' _ I4 r2 r4 q4) λd' s5 ⟨z2,H5,I5,r5,zz⟩=>?_));obtain⟨k2,e2,q5⟩:=zz;subst e2;cases r5;exact oq ⟨H5,I5,q5⟩
noncomputable def SR(K:W.Frag)(x:V)(H:Hp)(k:Bool):Prop :=
 match x with
 | .aR=>k=false
 | .bl b=>k=b
 | .int i=>k=(i != 0)
 | .str y=>y.length<=sizeLine/\k=((y.length:Int) != 0)
 | .kI y=>y.size<=sizeLine/\k=((y.size:Int) != 0)
 | .ref p=>(∃xs,aE K H p xs/\k = !xs.isEmpty)\/(∃xs,aY K H p xs/\k = !xs.isEmpty)\/∃kvs,H p=some (.dK kvs)/\k = !kvs.isEmpty
 | _=>False
theorem ab1{κ:Type}{kvs:List (κ×V)}{vs:List (κ×Value)}(r:KV kvs vs):(!vs.isEmpty) = !kvs.isEmpty:=by
 cases r <;> rfl
theorem SS{xs:List V}{its:List Value}(r:Vals xs its):(!its.toArray.isEmpty) = !xs.isEmpty:=by
 cases r <;> simp
theorem zo:(sizeLine:Nat)<2 ^ 63:=by rw[pL];decide
theorem ab2:abX X (λx H Q=>∃k,SR X.K x H k/\Q k H):=by
 intro pins s σ H x v Q I rx h;obtain⟨k,e,q⟩:=h;have hl:=zo;have hs:sizeLine=16777216:=pL;cases x with
 | aR =>
  cases rx;have e':k=false:=e;subst e';exact truthy_none ⟨H,I,q⟩
 | bl b =>
  cases rx;have e':k=b:=e;subst e';exact oq ⟨H,I,q⟩
 | int i =>
  obtain⟨t,rfl⟩:=rx;have e':k=(i != 0):=e;subst e';exact PySem.P.truthy_int ⟨H,I,q⟩
 | str y =>
  obtain⟨t,rfl⟩:=rx;obtain⟨hy,e'⟩:y.length<=sizeLine/\k=((y.length:Int) != 0):=e;subst e';exact PySem.P.truthy_str ∅ ⟨H,I.tok _,q⟩
 | kI y =>
  obtain⟨t,rfl⟩:=rx;obtain⟨hy,e'⟩:y.size<=sizeLine/\k=((y.size:Int) != 0):=e;subst e';exact PySem.W.truthy_bytes ∅ ⟨H,I.tok _,q⟩
 | ref p =>
  cases rx;have e':(∃xs,aE X.K H p xs/\k = !xs.isEmpty)\/(∃xs,aY X.K H p xs/\k = !xs.isEmpty)\/∃kvs,H p=some (.dK kvs)/\k = !kvs.isEmpty:=e;rcases e' with⟨xs,hx,e'⟩ | ⟨xs,hx,e'⟩ | ⟨kvs,hx,e'⟩
  ·subst e';obtain⟨its,r,pl,hz⟩:=I.list hx;have hlen:=r.length;exact wpAny_truthy_list pl.isList (by simp only[List.size_toArray];lia) ⟨H,I.tok _,by rw[SS r];exact q⟩
  ·subst e';obtain⟨its,r,pl,hz⟩:=I.tuple hx;have hlen:=r.length;exact truthy_tuple pl (by simp only[List.size_toArray];lia) ⟨H,I.tok _,by rw[SS r];exact q⟩
  ·subst e';obtain⟨hz,hS,vs,r,m⟩:kvs.length<=sizeLine/\(p == sysModules)=false/\∃vs,KV kvs vs/\s.heap.DictOf (c_ X.prog X.w) p vs:=I.aL p _ hx;have hlen:kvs.length=vs.length:=B8 r;exact wpAny_truthy_dict hS m ∅ ⟨H,I.tok _,by rw[ab1 r];exact q⟩
 | _=>exact(show False from e).elim
theorem SV(ha:PE X a ta)(he:∀whole,isTrue a X.env whole=(do let v ← whole;standAt a.pos;holding [v] (truthy v))) :
  PT X a (λσ H Q=>ta σ H λx H'=>∃k,SR X.K x H' k/\Q k H'):=by
 intro pins s σ H Q I h;exact isTrue_plain (aO (ha pins s σ H _ I h) λv s1 ⟨x,H1,I1,r1,q1⟩=>ab2 pins s1 σ H1 x v Q I1 r1 q1) (he _)
theorem vals1{x:V}{us:List Value}(r:Vals [x] us):∃u,us = [u]/\RelV x u:=by
 cases r with
 | cons r1 r2=>cases r2;exact⟨_,rfl,r1⟩
theorem vals2{x y:V}{us:List Value}(r:Vals [x,y] us):∃u w',us = [u,w']/\RelV x u/\RelV y w':=by
 cases r with
 | cons r1 r2 =>
  cases r2 with
  | cons r3 r4=>cases r4;exact⟨_,_,rfl,r1,r3⟩
theorem Hq:jo X (.builtin "abs") (λxs H Q=>∃i,xs = [.int i]/\Q (.int (if i<0 then -i else i)) H):=by
 intro pins s σ H xs us Q I r h;obtain⟨i,rfl,q⟩:=h;obtain⟨u,rfl,t,rfl⟩:=vals1 r;exact call_abs_int λu tk=>⟨.int (if i<0 then -i else i),H,I.tok _,⟨_,rfl⟩,q⟩
theorem SW(hc:X.calm=true):jo X (.builtin "max") (λxs H Q=>∃i j,xs = [.int i,.int j]/\Q (.int (if j > i then j else i)) H):=by
 intro pins s σ H xs us Q I r h;obtain⟨i,j,rfl,q⟩:=h;obtain⟨u,w',rfl,⟨t,rfl⟩,⟨t',rfl⟩⟩:=vals2 r;refine max_two_ints (I.ok.hd hc) λh' tk k=>⟨_,H,I.kept k,?_,q⟩;by_cases hj:j > i
 ·rw[if_pos hj,if_pos hj];exact⟨_,rfl⟩
 ·rw[if_neg hj,if_neg hj];exact⟨_,rfl⟩
theorem CJ(hc:X.calm=true):jo X (.builtin "min") (λxs H Q=>∃i j,xs = [.int i,.int j]/\Q (.int (if j<i then j else i)) H):=by
 intro pins s σ H xs us Q I r h;obtain⟨i,j,rfl,q⟩:=h;obtain⟨u,w',rfl,⟨t,rfl⟩,⟨t',rfl⟩⟩:=vals2 r;refine min_two_ints (I.ok.hd hc) λh' tk k=>⟨_,H,I.kept k,?_,q⟩;by_cases hj:j<i
 ·rw[if_pos hj,if_pos hj];exact⟨_,rfl⟩
 ·rw[if_neg hj,if_neg hj];exact⟨_,rfl⟩
end
structure uP(h:Heap)(x dx C:Addr)(mA:Str->Option Value):Prop where
 obj:h.get? x=some (PySem.W.instObj C dx)
 ns:h.Ns1 dx mA
 ne:dx≠x
theorem ab3{h:Heap}{dx:Addr}{mA:Str->Option Value}(n:h.Ns1 dx mA):∃od,h.get? dx=some od/\∀name,PySem.W.lookIn name od=some (mA name):=by
 obtain⟨o,es,ep,ho,hd,hk,_,hm⟩:=n;refine⟨o,ho,λname=>?_⟩
 have e:=hm name;unfold nsFind findBy at e;rw[← Array.find?_toList] at e;unfold PySem.W.lookIn;rw[hd];dsimp only;split
 ·rename_i y q;rw[q] at e;exact gh some e
 ·rename_i q;rw[q] at e;have a:es.toList.any (·.refKey)=false:=by
   rw[List.any_eq_false];intro y hy;obtain⟨z,t,mJ⟩:=hk y (Array.mem_toList_iff.mp hy);simp[DictEntry.refKey,mJ]
  have a':¬ es.toList.any (·.refKey)=true:=by rw[a];exact gg
  rw[if_neg a'];exact gh some e
theorem uP.look{h:Heap}{x dx C:Addr}{mA:Str->Option Value}(I:uP h x dx C mA):∃od,PySem.W.InstAt h x (PySem.W.instObj C dx) C (some od)/\∀name,PySem.W.lookIn name od=some (mA name) :=
 let ⟨od,ho,hl⟩:=ab3 I.ns
 ⟨od,⟨I.obj,rfl,rfl,ho⟩,hl⟩
section
variable{prog:Program}{w:World}{A:Around}{E:Value->Shared->Prop}{s:Shared}{K:W.Frag}{x dx C f:Addr}{mA:Str->Option Value}{name:Str}{v:Value}
theorem get_map{expr:Bool}{Q:Value->Shared->Prop}(X:K.In s.heap)(I:uP s.heap x dx C mA)(hg:PySem.W.plainGet K C name=true)(hh:PySem.W.hasDictIn K C=true)
  (ha:PySem.W.findIn K (.ref C) name=some none) (hv:mA name=some v) (hv':PySem.W.handedIn v=true) (h:Q v { s with toks:=s.toks+1 }) :
  wpAny (model prog w) A (getAttr (.ref x) name expr) Q E s:=by
 obtain⟨od,J,hl⟩:=I.look;exact PySem.W.get_value X J (GL hg).1 (PySem.W.findObj_own hh ha rfl (by rw[hl,hv])) hv' h
theorem ab4{pl:Sem Bool}{Q:Value×List Value->Shared->Prop}(X:K.In s.heap)(I:uP s.heap x dx C mA)(hg:PySem.W.plainGet K C name=true)
  (hf:PySem.W.findIn K (.ref C) name=some (some (.ref f))) (ht:PySem.W.isFn K (.ref f)=true) (hv:mA name=none) (h:Q (.ref f,[.ref x]) s) :
  wpAny (model prog w) A (getMethod (.ref x) name pl) Q E s:=by
 obtain⟨od,J,hl⟩:=I.look;exact PySem.W.method_fn X J (GL hg).1 (GL hg).2 hf (pK.mp ht) (by show (PySem.W.lookIn name od).map (·.isSome)=some false;rw[hl,hv];rfl) h
theorem ab5{ns:List Str}{Q:Unit->Shared->Prop}(X:K.In s.heap)(I:uP s.heap x dx C mA)
  (hs:PySem.W.findIn K (.ref C) "__setattr__" = some (some (.builtin "object.__setattr__"))) (hp:PySem.W.plainOver K C=true) (ht:PySem.W.takerIn K C name=some none) (hh:PySem.W.hasDictIn K C=true)
  (hw:PySem.Within mA ns) (hsz:ns.length<=sizeLine)
  (h:∀h',uP h' x dx C (λy=>if y=name then some v else mA y)->Heap.SameBut dx s.heap h'->Q () { s with heap:=h',toks:=s.toks+2 }) :
  wpAny (model prog w) A (setAttr (.ref x) name v) Q E s:=by
 obtain⟨od,J,hl⟩:=I.look;refine PySem.W.set_plain X J hs (PySem.W.osa_open (s:={ s with toks:=s.toks+1 }) (r:=none) X J hp ht λb=>?_)
 obtain⟨cd,hc,kK⟩:=PySem.W.any_some hh;have hx:s.heap.get? x=some ⟨.ref C,some dx,.plain,#[]⟩:=I.obj;refine aF (aV (aF (aF (wpAny_loadPart hx (aF (PySem.W.Looks.here (s:={ s with toks:=s.toks+1 }) (PySem.W.looks_clsIn X hc) ?_))))));rw[kK];refine aV (a:=some dx) (aF (aV (aF ?_)));refine wpAny_nsSet1 (s:={ s with toks:=s.toks+1 }) I.ns λh' uQ lH=>?_;obtain⟨oD,esD,epD,hoD,hdD,hcD⟩:=uQ.count (PySem.Within.cons name v hw);refine aF (wpAny_lookBehind hoD (by rw[hdD];exact pastItsLine_dict (dQ hcD (by rw[gA];lia))) ?_)
 exact aV (h _ ⟨(lH.2 _ (dR I.ne)).trans I.obj,uQ,I.ne⟩ lH)
theorem ab6{R:Result->Shared->Prop}{vs:List Value}{kw:List (Str×Value)}(X:K.In s.heap)(hm:PySem.W.makesIn K C=true)
  (hi:PySem.W.findIn K (.ref C) "__init__" = some (some (.ref f))) (hf:PySem.W.typeIn K (.ref f)=some (.type "function"))
  (h:codeAny (model prog w) (A.under (.builtin "type.__call__" ⟨.ref C::vs,kw⟩)) (.call (.ref f) ⟨.ref (s.heap.objs.size+1)::vs,kw⟩) (PySem.W.InitBack (s.heap.objs.size+1) R)
   { s with heap:=(s.heap.push PySem.W.emptyDict).push (PySem.W.instObj C s.heap.objs.size)}) :
  codeAny (model prog w) A (.call (.ref C) ⟨vs,kw⟩) R s:=by
 obtain⟨hh,g,d,t,os⟩:=s;exact PySem.W.make_core (PySem.W.makes_of X hm) (PySem.W.looks_findIn X hi) (λself=>PySem.W.bind_fn X self hf) (.inl rfl) h
end
noncomputable def g7(f:Str)(v:V):List (Str×V)->List (Str×V)
 | []=>[(f,v)]
 | (g,x)::r=>if g=f then(g,v)::r else(g,x)::g7 f v r
theorem SX(f g:Str)(v:V):∀fs:List (Str×V),(g7 f v fs).lookup g=if g=f then some v else fs.lookup g
 | []=>by
  show List.lookup g [(f,v)] = _;by_cases h:g=f
  ·have hb:(g == f)=true:=pK.mpr h;simp only[List.lookup,hb,if_pos h]
  ·have hb:(g == f)=false:=lF.mpr h;simp only[List.lookup,hb,if_neg h]
 | (k,x)::r=>by
  have ih:=SX f g v r;rw[show g7 f v ((k,x)::r)=(if k=f then(k,v)::r else(k,x)::g7 f v r) from rfl]
  by_cases hk:k=f
  ·rw[if_pos hk];by_cases h:g=k
   ·have hb:(g == k)=true:=pK.mpr h;simp only[List.lookup,hb,if_pos (h.trans hk)]
   ·have hb:(g == k)=false:=lF.mpr h;simp only[List.lookup,hb,if_neg (λe:g=f=>h (e.trans hk.symm))]
  ·rw[if_neg hk];by_cases h:g=k
   ·have hb:(g == k)=true:=pK.mpr h;simp only[List.lookup,hb,if_neg (λe:g=f=>hk (h.symm.trans e))]
   ·have hb:(g == k)=false:=lF.mpr h;simp only[List.lookup,hb];exact ih
theorem Hr(f:Str)(v:V):∀fs:List (Str×V),f∈(g7 f v fs).map (·.1)/\∀g,g∈fs.map (·.1)->g∈(g7 f v fs).map (·.1)
 | []=>⟨by simp[g7],λg h=>by simp at h⟩
 | (k,x)::r=>by
  obtain⟨i1,i2⟩:=Hr f v r;rw[show g7 f v ((k,x)::r)=(if k=f then(k,v)::r else(k,x)::g7 f v r) from rfl]
  by_cases hk:k=f
  ·rw[if_pos hk];subst hk;exact⟨by simp,λg h=>by simpa using h⟩
  ·rw[if_neg hk];refine⟨?_,λg h=>?_⟩
   ·rw[c9];exact cB _ i1
   ·rw[c9] at h ⊢;rcases cg.mp h with e | e
    ·exact cg.mpr (.inl e)
    ·exact cB _ (i2 g e)
theorem SY(f:Str)(v:V):∀fs:List (Str×V),(g7 f v fs).length<=fs.length+1
 | []=>by simp[g7]
 | (k,x)::r=>by
  have ih:=SY f v r;rw[show g7 f v ((k,x)::r)=(if k=f then(k,v)::r else(k,x)::g7 f v r) from rfl]
  by_cases hk:k=f
  ·rw[if_pos hk,gA,gA];lia
  ·rw[if_neg hk,gA,gA];lia
theorem iE.some_of{v:V}{o:Option Value}(r:iE (some v) o):∃u,o=some u/\RelV v u:=by
 cases o with
 | none=>exact(show False from r).elim
 | some u=>exact⟨u,rfl,r⟩
theorem iE.none_of{o:Option Value}(r:iE none o):o=none:=by
 cases o with
 | none=>rfl
 | some u=>exact(show False from r).elim
theorem ab7{v:V}{u:Value}(r:RelV v u):PySem.W.handedIn u=true:=by
 cases v with
 | aR=>cases (show u=Value.none from r);rfl
 | bl b=>cases (show u=Value.bool b from r);rfl
 | int i=>obtain⟨t,e⟩:=(show ∃t,u=Value.int i t from r);cases e;rfl
 | str x=>obtain⟨t,e⟩:=(show ∃t,u=Value.str x t from r);cases e;rfl
 | kI b=>obtain⟨t,e⟩:=(show ∃t,u=Value.bytes b t from r);cases e;rfl
 | Cf b=>obtain⟨t,e⟩:=(show ∃t,u=Value.float b t from r);cases e;rfl
 | ref a=>cases (show u=Value.ref a from r);rfl
 | ty n=>cases (show u=Value.type n from r);rfl
section
variable{P:Program}{w:World}{H H':Hp}{h h':Heap}{a C dx:Addr}{fs RT:List (Str×V)}
theorem Hs(aL:eK P w H h)(e:H a=some (.ins C dx fs)):∃mA,uP h a dx C mA/\(∀f,iE (fs.lookup f) (mA f))/\PySem.Within mA (fs.map (·.1))/\fs.length<=1000/\H dx=some (.own a):=by
 obtain⟨d,z,ne,ob,mA,n,r,q⟩:=(show fM P w H h a (.ins C dx fs) from aL a _ e);exact⟨mA,⟨ob,n,ne⟩,r,q,z,d⟩
end
structure dW(K:W.Frag)(C:Addr):Prop where
 pg:PySem.W.plainGet K C Str.empty=true
 hd:PySem.W.hasDictIn K C=true
 po:PySem.W.plainOver K C=true
 sa:PySem.W.findIn K (.ref C) "__setattr__" = some (some (.builtin "object.__setattr__"))
theorem dW.get{K:W.Frag}{C:Addr}(c:dW K C)(f:Str):PySem.W.plainGet K C f=true:=c.pg
def bL(K:W.Frag)(C:Addr)(f:Str):Prop:=PySem.W.findIn K (.ref C) f=some none
theorem bL.ab8{K:W.Frag}{C:Addr}{f:Str}(n:bL K C f):PySem.W.takerIn K C f=some none:=by
 unfold PySem.W.takerIn;rw[show PySem.W.findIn K (.ref C) f=some none from n]
 rfl
structure Meth(K:W.Frag)(C:Addr)(m:Str)(f:Addr):Prop where
 at_:PySem.W.findIn K (.ref C) m=some (some (.ref f))
 fn:PySem.W.isFn K (.ref f)=true
 kp:PySem.W.keepIn K (.ref f)=true
section
variable{X:Cx}{pins:List (Addr×Obj)}{σ:St}{H:Hp}{s:Shared}{a C dx:Addr}{fs:List (Str×V)}{f:Str}{v:V}{A:Around}{E:Value->Shared->Prop}
theorem S0{b:Bool}{Q:Value->Shared->Prop}(I:Inv X pins σ H s)(e:H a=some (.ins C dx fs))(c:dW X.K C)(n:bL X.K C f)(l:fs.lookup f=some v)
  (h:∀u s',Inv X pins σ H s'->RelV v u->Q u s'):wpAny (model X.prog X.w) A (getAttr (.ref a) f b) Q E s:=by
 obtain⟨mA,O,r,_,_,_⟩:=Hs I.aL e;obtain⟨u,hu,ru⟩:=iE.some_of (v:=v) (o:=mA f) (by rw[← l];exact r f)
 exact get_map I.iG O (c.get f) c.hd n hu (ab7 ru) (h u _ (I.tok _) ru)
theorem CK{m:Str}{g:Addr}{pl:Sem Bool}{Q:Value×List Value->Shared->Prop}(I:Inv X pins σ H s)(e:H a=some (.ins C dx fs))(c:dW X.K C)(k:Meth X.K C m g)(l:fs.lookup m=none)
  (h:Q (.ref g,[.ref a]) s):wpAny (model X.prog X.w) A (getMethod (.ref a) m pl) Q E s:=by
 obtain⟨mA,O,r,_,_,_⟩:=Hs I.aL e;have hn:mA m=none:=iE.none_of (by rw[← l];exact r m)
 exact ab4 I.iG O (c.get m) k.at_ k.fn hn h
theorem S2{y:V}{u:Value}{Q:Unit->Shared->Prop}(I:Inv X pins σ H s)(e:H a=some (.ins C dx fs))(c:dW X.K C)(n:bL X.K C f)(hl:fs.length<1000)(ry:RelV y u)
  (h:∀s',Inv X pins σ (upd H a (.ins C dx (g7 f y fs))) s'->Q () s'):wpAny (model X.prog X.w) A (setAttr (.ref a) f u) Q E s:=by
 obtain⟨mA,O,r,wi,_,ho⟩:=Hs I.aL e;have hz:(fs.map (·.1)).length<=sizeLine:=by rw[aK,pL];lia
 refine ab5 I.iG O c.sa c.po n.ab8 c.hd wi hz λh' O' sb=>h _ ?_;have hd:∃o,h'.get? dx=some o:=let ⟨o,_,_,e',_⟩:=O'.ns;⟨o,e'⟩
 refine I.write (x:=a) (e:=dx) (by rw[e];exact True.intro) (.inr ho) (λb q hb z=>(sb.2 b hb).trans z) hd ?_
 refine⟨by rw[aB O.ne];exact ho,?_,O.ne,O'.obj,_,O'.ns,λg=>?_,λg hg=>?_⟩
 ·have:=SY f y fs;lia
 ·show iE ((g7 f y fs).lookup g) (if g=f then some u else mA g)
  rw[SX];by_cases q:g=f
  ·rw[if_pos q,if_pos q];exact ry
  ·rw[if_neg q,if_neg q];exact r g
 ·by_cases q:g=f
  ·rw[q];exact(Hr f y fs).1
  ·refine(Hr f y fs).2 g (wi g λz=>hg ?_)
   show (if g=f then some u else mA g)=none
   rw[if_neg q];exact z
theorem Inv.made(I:Inv X pins σ H s):Inv X pins σ (upd (upd H s.heap.objs.size (.own (s.heap.objs.size+1))) (s.heap.objs.size+1) (.ins C s.heap.objs.size []))
  { s with heap:=(s.heap.push PySem.W.emptyDict).push (PySem.W.instObj C s.heap.objs.size)}:=by
 have e1:(s.heap.push PySem.W.emptyDict).get? s.heap.objs.size=some PySem.W.emptyDict:=e_ s.heap rfl;have e2:((s.heap.push PySem.W.emptyDict).push (PySem.W.instObj C s.heap.objs.size)).get? (s.heap.objs.size+1)=some (PySem.W.instObj C s.heap.objs.size):=by
  have:=e_ (s.heap.push PySem.W.emptyDict) (o:=PySem.W.instObj C s.heap.objs.size) rfl;rwa [BL] at this
 have e3:(s.heap.push PySem.W.emptyDict).Ns s.heap.objs.size (λ_=>none):=⟨PySem.W.emptyDict,#[],_,e1,rfl,(λe he=>absurd he (by simp)),λ_=>rfl⟩
 have I1:=I.laid (a:=s.heap.objs.size) (o:=.own (s.heap.objs.size+1)) (h':=s.heap.push PySem.W.emptyDict) (t':=s.toks) (λb u q=>bW _ q) (bu _) ⟨_,e1⟩;refine I1.laid (a:=s.heap.objs.size+1) (o:=.ins C s.heap.objs.size []) (t':=s.toks) (λb u q=>bW _ q) (Nat.le_of_eq (BL _ _)) ?_;have ne:s.heap.objs.size≠s.heap.objs.size+1:=b9 (B5 _);refine⟨by rw[aB ne,aD],eX _,ne,e2,λ_=>none,(Heap.Ns1.of_empty e3).at λo q=>bW _ q,λ_=>True.intro,λy hy=>absurd rfl hy⟩
theorem S3{prog:Program}{w:World}{env:Env}{e:Expr}{f:Str}{pos:Pos}{s:Shared}{Q:Value->Shared->Prop}(hb:attributeBase e f env (eval e env)=eval e env)
  (h:wpAny (model prog w) A (eval e env) (λo aW=>wpAny (model prog w) A (getAttr o f true) Q E aW) E s):wpAny (model prog w) A (eval (.Attribute e f pos) env) Q E s :=
 Attribute_any_ h (by rw[arm_eval_Attribute,hb])
end
def Ht(K:W.Frag)(ta:TE)(f:Str):TE:=λσ H Q=>ta σ H λx H1=>∃a C dx fs v,x = .ref a/\H1 a=some (.ins C dx fs)/\dW K C/\bL K C f/\fs.lookup f=some v/\Q v H1
def S4(K:W.Frag)(ta tv:TE)(f:Str):TS:=λD σ H=>tv σ H λy H1=>ta σ H1 λx H2=>∃a C dx fs,x = .ref a/\H2 a=some (.ins C dx fs)/\dW K C/\bL K C f/\fs.length<1000/\
 D.nx σ (upd H2 a (.ins C dx (g7 f y fs)))
section
variable{X:Cx}{o e value:Expr}{f:Str}{pos pos' ab9:Pos}{ta tv:TE}
theorem g8(he:PE X e ta)(hb:attributeBase e f X.env (eval e X.env)=eval e X.env):PE X (.Attribute e f pos) (Ht X.K ta f):=by
 intro pins s σ H Q I h;refine S3 hb (aO (he pins s σ H _ I h) λu s1 ⟨x,H1,I1,rx,zz⟩=>?_);obtain⟨a,C,dx,fs,v,ex,ea,c,n,l,q⟩:=zz;subst ex;obtain rfl:u=Value.ref a:=rx;exact S0 I1 ea c n l λu' s2 I2 ru=>⟨v,H1,I2,ru,q⟩
theorem lJ(ha:PE X o ta)(hv:PE X value tv)(hs:swapsWith value (some (.Attribute o f pos')) pos.line X.env=pure false):PS X (.Assign [.Attribute o f pos'] value pos) (S4 X.K ta tv f):=by
 intro pins s σ H D I h;refine RO (aO (hv pins s σ H _ I h) λu s1 ⟨y,H1,I1,ry,q⟩=>aO (ha pins s1 σ H1 _ I1 q) λov s2 ⟨x,H2,I2,rx,zz⟩=>?_) hs;obtain⟨a,C,dx,fs,ex,ea,c,n,l,q2⟩:=zz;subst ex;obtain rfl:ov=Value.ref a:=rx;exact S2 I2 ea c n l ry λs3 I3=>⟨σ,_,I3,q2⟩
end
section
variable{X:Cx}{pins:List (Addr×Obj)}{σ:St}{H:Hp}{s:Shared}{A:Around}{E:Value->Shared->Prop}{Q:Value->Shared->Prop}{c:Value}{b:Bool}
end
structure d9(k:Nat)(A:Around):Prop where
 hd:A.handled=none
 dp:A.depth+3*k+5<recursionLimit
 un:A.units+16*k+200<cLine
theorem d9.mono{j k:Nat}{A:Around}(r:d9 k A)(h:j<=k):d9 j A:=⟨r.hd,by have:=r.dp;lia,by have:=r.un;lia⟩
theorem d9.deeper{k:Nat}{A:Around}(r:d9 (k+1) A)(env:Env):d9 k (A.deeper env) :=
 ⟨r.hd,by have:=r.dp;show A.depth+1+3*k+5<_;lia,by have:=r.un;show A.units+3+16*k+200<_;lia⟩
theorem ab_{A:Around}{C:Addr}{us:List Value}{kw:List (Str×Value)}:(A.under (.builtin "type.__call__" ⟨.ref C::us,kw⟩)).depth=A.depth+1:=by
 first | rfl | simp[Around.under,Code.weight,Code.isCreation,Code.isGuard,Code.isCaller,Code.frames,Code.isFrame,guardIds]
theorem acd{A:Around}{C:Addr}{us:List Value}{kw:List (Str×Value)}:(A.under (.builtin "type.__call__" ⟨.ref C::us,kw⟩)).units=A.units+1:=by
 first | rfl | simp[Around.under,Code.cUnits,Code.frames,Code.isFrame]
theorem d9.make{k:Nat}{A:Around}(r:d9 (k+1) A)(C:Addr)(us:List Value)(kw:List (Str×Value)):d9 k (A.under (.builtin "type.__call__" ⟨.ref C::us,kw⟩)) :=
 ⟨r.hd,by have:=r.dp;rw[ab_];lia,by have:=r.un;rw[acd];lia⟩
theorem d9.depth{k:Nat}{A:Around}(r:d9 k A):A.depth<recursionLimit:=by have:=r.dp;lia
theorem d9.units{k:Nat}{A:Around}(r:d9 k A):A.units+64<cLine:=by have:=r.un;lia
theorem d9.ace{k:Nat}{A:Around}(r:d9 k A):A.units<cLine:=by have:=r.un;lia
def zq:TA:=λ_ H Q=>Q [] H
def Hu(ta:TE)(tr:TA):TA:=λσ H Q=>ta σ H λx H1=>tr σ H1 λxs H2=>Q (x::xs) H2
section
variable{X:Cx}{e:Expr}{es:List Expr}{te:TE}{t:TA}{pos:Pos}
theorem au:PA X [] zq:=λ_ _ _ _ H Q I h=>um ⟨[],H,I,.nil,h⟩
theorem ao(ha:PE X e te)(hr:PA X es t)(hs:starEach (e::es) X.env=(false,eval e X.env)::starEach es X.env:=by rfl):PA X (e::es) (Hu te t):=by
 intro pos pins s σ H Q I h;rw[hs]
 show wpAny _ _ (spliced ((false,eval e X.env)::backTo pos (starEach es X.env))) _ _ s;refine rX (aO (ha pins s σ H _ I h) λu s1 ⟨x,H1,I1,r1,q1⟩=>?_);exact aO (hr pos pins s1 σ H1 _ I1 q1) λus s2 ⟨xs,H2,I2,r2,q2⟩=>⟨x::xs,H2,I2,.cons r1 r2,q2⟩
def S5(t:TA):TE:=λσ H Q=>t σ H λxs H1=>xs.length<=sizeLine/\∀p,H1 p=none->Q (.ref p) (upd H1 p (.tup xs))
def S6(t:TA):TE:=λσ H Q=>t σ H λxs H1=>xs.length<=sizeLine/\∀p,H1 p=none->Q (.ref p) (upd H1 p (.lst xs))
theorem dO{x1}(h:PA X es t):PE X (.Tuple es x1 pos) (S5 t):=by
 intro pins s σ H Q I hq;refine wpAny_Tuple_spliced (aO (h pos pins s σ H _ I hq) λus s1 ⟨xs,H1,I1,r,z,q⟩=>⟨by rw[← r.length];exact z,?_⟩)
 have hf:H1 s1.heap.objs.size=none:=I1.aL.fresh (bu _);refine⟨.ref s1.heap.objs.size,upd H1 s1.heap.objs.size (.tup xs),I1.laid (t':=s1.toks) (λb u e=>bW _ e) (bu _) ?_,rfl,q _ hf⟩;exact⟨z,us,r,⟨_,e_ _ rfl,rfl,_,rfl⟩⟩
theorem eZ(h:PA X es t):PE X (.List es pos) (S6 t):=by
 intro pins s σ H Q I hq;refine wpAny_List_spliced (aO (h pos pins s σ H _ I hq) λus s1 ⟨xs,H1,I1,r,z,q⟩=>⟨by rw[← r.length];exact z,?_⟩)
 have hf:H1 s1.heap.objs.size=none:=I1.aL.fresh (bu _);refine⟨.ref s1.heap.objs.size,upd H1 s1.heap.objs.size (.lst xs),I1.laid (t':=s1.toks) (λb u e=>bW _ e) (bu _) ?_,rfl,q _ hf⟩;exact⟨z,us,0,r,e_ _ rfl⟩
end
noncomputable abbrev Sp:=List V->Hp->VK->XK->Prop
noncomputable abbrev jq:=List Env->Hp->Shared->XK->Value->Shared->Prop
structure sV(P:Program)(w:World)(K:W.Frag)(mg:Str->Option Value)(base:Heap)(A:Around)(outer:List Env)(s:Shared)(H:Hp):Prop where
 frames:A.frames=some outer
 mod:Mod K mg base
 bs:∀b o,base.get? b=some o->s.heap.get? b=some o/\H b=none
 ji:base.objs.size<=s.heap.objs.size
 lG:s.heap.FunFrames base outer
 sH:∀b∈iZ outer,H b=none
 aL:eK P w H s.heap
 bare:AllBare s.gens
noncomputable def CE(outer:List Env)(P:Program)(w:World)(H:Hp)(s:Shared)(Q:VK)(u:Value)(s':Shared):Prop :=
 ∃v H',s'.os=s.os/\AllBare s'.gens/\Un (iZ outer) [] H H' s.heap s'.heap/\eK P w H' s'.heap/\RelV v u/\Q v H'
noncomputable def CR(CX:jq)(outer:List Env)(P:Program)(w:World)(H:Hp)(s:Shared)(Q:VK)(E:XK)(r:Result)(s':Shared):Prop :=
 match r with
 | .ok (.ret u)=>CE outer P w H s Q u s'
 | .ok _=>False
 | .error e=>CX outer H s E e s'
structure bg(P:Program)(w:World)(K:W.Frag)(mg:Str->Option Value)(base:Heap)(CX:jq)(k:Nat)(f:Addr)(fd:FuncData)(ps:List Str)(sp:Sp):Prop where
 len:∀vs H Q E,sp vs H Q E->vs.length=ps.length
 run:∀(A:Around) (outer:List Env) (s:Shared) (H:Hp) (args:Args) (us:List Value) (vs:List V) (Q:VK) (E:XK),d9 k A->sV P w K mg base A outer s H->BindsTo s fd args (ps.zip us)->Vals vs us->sp vs H Q E->
  codeAny (model P w) A (.call (.ref f) args) (CR CX outer P w H s Q E) s
theorem sV.make{P:Program}{w:World}{K:W.Frag}{mg:Str->Option Value}{base:Heap}{A:Around}{outer:List Env}{s:Shared}{H:Hp}(e:sV P w K mg base A outer s H)(C:Addr)(us:List Value)(kw:List (Str×Value)) :
  sV P w K mg base (A.under (.builtin "type.__call__" ⟨.ref C::us,kw⟩)) outer s H:=⟨by first | exact e.frames | (simpa[Around.under,Code.envs,Code.isFrame,pushEnvs] using e.frames),e.mod,e.bs,e.ji,e.lG,e.sH,e.aL,e.bare⟩
section
variable{X:Cx}{pins:List (Addr×Obj)}{σ:St}{H:Hp}{s s':Shared}
theorem Inv.S7(I:Inv X pins σ H s):sV X.prog X.w X.K X.mg X.base X.A X.stack s H :=
 ⟨I.ok.frames,I.ok.mod,I.bs,dQ I.ok.ji I.sz,I.stack,I.G0,I.aL,I.bare⟩
theorem Inv.after{Q:VK}{u:Value}(I:Inv X pins σ H s)(h:CE X.stack X.prog X.w H s Q u s'):EP X pins σ Q u s':=by
 obtain⟨v,H',os,bare,un,aL,r,q⟩:=h;obtain⟨hh,g,d,t,os'⟩:=s';obtain rfl:os' = s.os:=os;exact⟨v,H',I.call (h':=hh) (g':=g) (d':=d) (t':=t) (ch:=[]) un aL bare (λb z=>absurd z (by simp)),r,q⟩
end
def Hv(sp:Sp)(cG:List V)(E:XK)(t:TA):TE:=λσ H Q=>t σ H λvs H1=>sp (vs++cG) H1 Q E
def Hw(C:Addr)(m:Str)(sp:Sp)(cG:List V)(E:XK)(ta:TE)(t:TA):TE:=λσ H Q=>ta σ H λx H1=>∃a dx fs,x = .ref a/\H1 a=some (.ins C dx fs)/\fs.lookup m=none/\
 t σ H1 λvs H2=>sp (x::(vs++cG)) H2 Q E
def S8(C:Addr)(sp:Sp)(cG:List V)(E:XK)(t:TA):TE:=λσ H Q=>t σ H λvs H1=>∀x dx,H1 x=none->H1 dx=none->dx≠x->
 sp (.ref x::(vs++cG)) (upd (upd H1 dx (.own x)) x (.ins C dx [])) (λv H2=>v = .aR/\Q (.ref x) H2) E
noncomputable def Binds(K:W.Frag)(fd:FuncData)(ps:List Str)(ds:List Value):Prop :=
 ∀(s:Shared) (us:List Value),K.In s.heap->(us++ds).length=ps.length->BindsTo s fd ⟨us,[]⟩ (ps.zip (us++ds))
theorem Binds.all{K:W.Frag}{fd:FuncData}{ps:List Str}(h:∀us:List Value,us.length=ps.length->bindArgs fd ⟨us,[]⟩=pure (ps.zip us)):Binds K fd ps []:=λs us _ hl=>by
 rw[pF] at hl ⊢;exact .of_eq (h us hl)
def Passes(CX:jq)(X:Cx)(E:XK):Prop:=∀(pins:List (Addr×Obj)) (σ:St) (H:Hp) (s:Shared) (e:Value) (s':Shared),Inv X pins σ H s->CX X.stack H s E e s'->X.xe e s'
section
variable{X:Cx}{CX:jq}{k:Nat}{f C:Addr}{fd:FuncData}{ps:List Str}{sp:Sp}{cG:List V}{ds:List Value}{E:XK}{x m:Str}{p pos apos:Pos}{e o:Expr}{es:List Expr}{ta:TE}{t:TA}
theorem wM{pins:List (Addr×Obj)}{σ:St}{H:Hp}{s:Shared}{Q:VK}{us:List Value}{vs:List V}(F:bg X.prog X.w X.K X.mg X.base CX k f fd ps sp)(hr:d9 k X.A)(hb:Binds X.K fd ps ds)(hd:Vals cG ds)(hx:Passes CX X E)
  (I:Inv X pins σ H s) (r:Vals vs us) (h:sp (vs++cG) H Q E):wpAny (model X.prog X.w) X.A (call (.ref f) us) (EP X pins σ Q) X.xe s:=by
 have r2:Vals (vs++cG) (us++ds):=r.append hd;have hl:(us++ds).length=ps.length:=by rw[← r2.length];exact F.len _ _ _ _ h
 refine wpAny_call (wj (F.run X.A X.stack s H ⟨us,[]⟩ (us++ds) (vs++cG) Q E hr I.S7 (hb s us I.iG hl) r2 h) λr s' hq=>?_);cases r with
 | error e=>exact hx pins σ H s e s' I hq
 | ok fl =>
  cases fl with
  | ret u=>exact I.after hq
  | next=>exact False.elim hq
  | brk=>exact False.elim hq
  | cont=>exact False.elim hq
theorem aP(F:bg X.prog X.w X.K X.mg X.base CX k f fd ps sp)(hr:d9 k X.A)(hg:Gl X x)(hm:X.mg x=some (.ref f))(hk:PySem.W.keepIn X.K (.ref f)=true)(hb:Binds X.K fd ps ds)(hd:Vals cG ds)(hx:Passes CX X E)
  (ha:PA X (e::es) t) (qO:(x == ("__debug__" : Str))=false:=by decide) (he:starEach (e::es) X.env=(false,eval e X.env)::starEach es X.env:=by rfl) (iJ:(backTo pos (starEach es X.env)).any (·.1)=false:=by rfl) :
  PE X (.Call (.Name x p) (e::es) [] pos) (Hv sp cG E t):=by
 intro pins s σ H Q I h;refine uB (Cq I hg hm ?_ qO);refine yK (h₀:=X.base) I.ok.mod.uH hk (aO (ha pos pins s σ H _ I h) λus s1 ⟨vs,H1,I1,r,q⟩=>⟨I1.iG,?_⟩) he iJ;exact wM F hr hb hd hx I1 r q
theorem zu{pl:Sem Bool}(he:PE X o ta)(c:dW X.K C)(hm:Meth X.K C m f)(F:bg X.prog X.w X.K X.mg X.base CX k f fd ps sp)(hr:d9 k X.A)(hb:Binds X.K fd ps ds)(hd:Vals cG ds)(hx:Passes CX X E)(ha:PA X (e::es) t)
  (gY:starEach (e::es) X.env=(false,eval e X.env)::starEach es X.env:=by rfl) (iJ:(backTo pos (starEach es X.env)).any (·.1)=false:=by rfl)
  (ht:eval (.Call (.Attribute o m apos) (e::es) [] pos) X.env=(do
   let ov ← eval o X.env
   standAt apos.atName
   let (f,first) ← holding [ov] (getMethod ov m pl)
   callWith pos f first (backTo pos (starEach (e::es) X.env)) (backToKw pos (keywordEach [] X.env))):=by rfl) :
  PE X (.Call (.Attribute o m apos) (e::es) [] pos) (Hw C m sp cG E ta t):=by
 intro pins s σ H Q I h;refine yL (pl:=pl) (aO (he pins s σ H _ I h) λu s1 ⟨x,H1,I1,rx,zz⟩=>?_) ht;obtain⟨a,dx,fs,ex,ea,l,q⟩:=zz;subst ex;obtain rfl:u=Value.ref a:=rx;refine CK I1 ea c hm l ?_;refine yK (first:=[.ref a]) (h₀:=X.base) I.ok.mod.uH hm.kp (aO (ha pos pins s1 σ H1 _ I1 q) λus s2 ⟨vs,H2,I2,r,q2⟩=>⟨I2.iG,?_⟩) gY iJ
 exact wM (us:=.ref a::us) (vs:=.ref a::vs) F hr hb hd hx I2 (.cons rfl r) q2
theorem CM{pl:Sem Bool}(he:PE X o ta)(c:dW X.K C)(hm:Meth X.K C m f)(F:bg X.prog X.w X.K X.mg X.base CX k f fd ps sp)(hr:d9 k X.A)(hb:Binds X.K fd ps ds)(hd:Vals cG ds)(hx:Passes CX X E)
  (ht:eval (.Call (.Attribute o m apos) [] [] pos) X.env=(do
   let ov ← eval o X.env
   standAt apos.atName
   let (f,first) ← holding [ov] (getMethod ov m pl)
   callWith pos f first (backTo pos (starEach [] X.env)) (backToKw pos (keywordEach [] X.env))):=by rfl) :
  PE X (.Call (.Attribute o m apos) [] [] pos) (Hw C m sp cG E ta zq):=by
 intro pins s σ H Q I h;refine yL (pl:=pl) (aO (he pins s σ H _ I h) λu s1 ⟨x,H1,I1,rx,zz⟩=>?_) ht;obtain⟨a,dx,fs,ex,ea,l,q⟩:=zz;subst ex;obtain rfl:u=Value.ref a:=rx;refine CK I1 ea c hm l ?_;exact PySem.W.callWith_K0 (first:=[.ref a]) I1.iG hm.kp (wM (us:=[.ref a]) (vs:=[.ref a]) F hr hb hd hx I1 (.cons rfl .nil) q)
structure Mk(K:W.Frag)(C f:Addr):Prop where
 makes:PySem.W.makesIn K C=true
 init:PySem.W.findIn K (.ref C) "__init__" = some (some (.ref f))
 fn:PySem.W.isFn K (.ref f)=true
 kp:PySem.W.keepIn K (.ref C)=true
theorem acf{pins:List (Addr×Obj)}{σ:St}{H:Hp}{s:Shared}{Q:VK}{us:List Value}{vs:List V}(M:Mk X.K C f)(F:bg X.prog X.w X.K X.mg X.base CX k f fd ps sp)(hr:d9 (k+1) X.A)(hb:Binds X.K fd ps ds)(hd:Vals cG ds)
  (hx:Passes CX X E) (I:Inv X pins σ H s) (r:Vals vs us)
  (h:∀x dx,H x=none->H dx=none->dx≠x->sp (.ref x::(vs++cG)) (upd (upd H dx (.own x)) x (.ins C dx [])) (λv H2=>v = .aR/\Q (.ref x) H2) E) :
  wpAny (model X.prog X.w) X.A (call (.ref C) us) (EP X pins σ Q) X.xe s:=by
 have hq:=h (s.heap.objs.size+1) s.heap.objs.size (I.aL.fresh (oh _)) (I.aL.fresh (bu _)) (b9 (B5 _));have I2:=Inv.made (C:=C) I;have r2:Vals (V.ref (s.heap.objs.size+1)::(vs++cG)) (Value.ref (s.heap.objs.size+1)::(us++ds)):=.cons rfl (r.append hd);have hl:(Value.ref (s.heap.objs.size+1)::us++ds).length=ps.length:=by
  have e:=r2.length;rw[F.len _ _ _ _ hq] at e;exact e.symm
 refine wpAny_call (ab6 (f:=f) I.iG M.makes M.init (pK.mp M.fn) (wj (F.run _ X.stack _ _ ⟨Value.ref (s.heap.objs.size+1)::us,[]⟩ (Value.ref (s.heap.objs.size+1)::(us++ds)) _ _ E (hr.make C us [])
  (I2.S7.make C us []) (hb _ (Value.ref (s.heap.objs.size+1)::us) I2.iG hl) r2 hq) λr s' kN=>?_))
 cases r with
 | error e=>exact hx pins σ _ _ e s' I2 kN
 | ok fl =>
  cases fl with
  | ret u =>
   obtain⟨v,H',I3,rv,ev,q3⟩:=I2.after kN;subst ev;exact⟨rv,⟨V.ref (s.heap.objs.size+1),H',I3,rfl,q3⟩⟩
  | next=>exact False.elim kN
  | brk=>exact False.elim kN
  | cont=>exact False.elim kN
theorem qP(M:Mk X.K C f)(F:bg X.prog X.w X.K X.mg X.base CX k f fd ps sp)(hr:d9 (k+1) X.A)(hg:Gl X x)(hm:X.mg x=some (.ref C))(hb:Binds X.K fd ps ds)(hd:Vals cG ds)(hx:Passes CX X E)
  (ha:PA X (e::es) t) (qO:(x == ("__debug__" : Str))=false:=by decide) (he:starEach (e::es) X.env=(false,eval e X.env)::starEach es X.env:=by rfl) (iJ:(backTo pos (starEach es X.env)).any (·.1)=false:=by rfl) :
  PE X (.Call (.Name x p) (e::es) [] pos) (S8 C sp cG E t):=by
 intro pins s σ H Q I h;refine uB (Cq I hg hm ?_ qO);refine yK (h₀:=X.base) I.ok.mod.uH M.kp (aO (ha pos pins s σ H _ I h) λus s1 ⟨vs,H1,I1,r,q⟩=>⟨I1.iG,?_⟩) he iJ;exact acf M F hr hb hd hx I1 r q
end
noncomputable def PK(X:Cx)(S9:List Keyword)(t:TA):Prop :=
 ∀(pos:Pos) (pins:List (Addr×Obj)) (s:Shared) (σ:St) (H:Hp) (Q:List V->Hp->Prop),Inv X pins σ H s->t σ H Q->wpAny (model X.prog X.w) X.A (evalAll ((backToKw pos (keywordEach S9 X.env)).map (·.2))) (AP X pins σ Q) X.xe s
section
variable{X:Cx}{CX:jq}{k:Nat}{f C:Addr}{fd:FuncData}{ps ks:List Str}{sp:Sp}{E:XK}{x m:Str}{p pos apos apD:Pos}{e o:Expr}{es:List Expr}{S9:List Keyword}{te ta:TE}{t tk:TA}{nm:Option Str}
variable{g:List Value->List Value->List Value}{gV:List V->List V->List V}
end
structure bA(N P:List Str)(sc:Scope):Prop where
 kind:sc.kind = .function
 co:sc.isCoroutine=false
 gen:sc.isGenerator=false
 nd:N.Nodup
 pre:N.take P.length=P
 par:∀x∈P,sc.names.lookup x=some .local\/sc.names.lookup x=some .cell
 acg:∀y∈sc.names,y.2≠.free
theorem S_{kindOf:Str->Option NameKind}{x:Str}:∀ {binds:List (Str×Value)} {m:Str->Option Value},(∀v,(x,v)∉binds)->bindL kindOf binds m x=m x
 | [],_,_=>rfl
 | (n,v)::r,m,h=>by
  unfold bindL;rw[S_ λw hw=>h w (cB _ hw)];split
  ·have:x≠n:=by rintro rfl;exact h v eB
   simp[this]
  ·rfl
theorem Tc{kindOf:Str->Option NameKind}{x:Str}:∀ {binds:List (Str×Value)} {m:Str->Option Value},(∀v,(x,v)∉binds)->bindC kindOf binds m x=m x
 | [],_,_=>rfl
 | (n,v)::r,m,h=>by
  unfold bindC;rw[Tc λw hw=>h w (cB _ hw)];split
  ·rfl
  ·have:x≠n:=by rintro rfl;exact h v eB
   simp[this]
theorem Td{kindOf:Str->Option NameKind}{x:Str}{v:Value}:∀ {P:List Str} {vs:List Value} {i:Nat} {m:Str->Option Value},P.Nodup->P[i]? = some x->vs[i]? = some v->kindOf x=some .local->
  bindL kindOf (P.zip vs) m x=some v
 | [],_,_,_,_,h,_,_=>by simp at h
 | _::_,[],_,_,_,_,h,_=>by simp at h
 | p::P,w::vs,0,m,nd,h1,h2,hk=>by
  simp at h1 h2;subst h1;subst h2
  show bindL kindOf ((p,w)::P.zip vs) m p=_;unfold bindL;rw[S_ λv hv=>(mh.mp nd).1 (B0 hv).1,if_pos hk];simp
 | p::P,w::vs,i+1,m,nd,h1,h2,hk=>by
  show bindL kindOf ((p,w)::P.zip vs) m x=_;unfold bindL;exact Td (i:=i) (mh.mp nd).2 (by simpa using h1) (by simpa using h2) hk
theorem Te{kindOf:Str->Option NameKind}{x:Str}{v:Value}:∀ {P:List Str} {vs:List Value} {i:Nat} {m:Str->Option Value},P.Nodup->P[i]? = some x->vs[i]? = some v->kindOf x≠some .local->
  bindC kindOf (P.zip vs) m x=some v
 | [],_,_,_,_,h,_,_=>by simp at h
 | _::_,[],_,_,_,_,h,_=>by simp at h
 | p::P,w::vs,0,m,nd,h1,h2,hk=>by
  simp at h1 h2;subst h1;subst h2
  show bindC kindOf ((p,w)::P.zip vs) m p=_;unfold bindC;rw[Tc λv hv=>(mh.mp nd).1 (B0 hv).1,if_neg hk];simp
 | p::P,w::vs,i+1,m,nd,h1,h2,hk=>by
  show bindC kindOf ((p,w)::P.zip vs) m x=_;unfold bindC;exact Te (i:=i) (mh.mp nd).2 (by simpa using h1) (by simpa using h2) hk
noncomputable def start(N:List Str)(vs:List V):St:=vs.map some++List.replicate (N.length - vs.length) none
noncomputable def qQ(CX:jq)(P:Program)(w:World)(K:W.Frag)(mg:Str->Option Value)(base:Heap)(N:List Str)(qual:Str)(scope:Scope)(f:Addr)(cd:Value)(A:Around)(outer:List Env)(s:Shared)(H:Hp)(E:XK):Cx where
 prog:=P
 w:=w
 K:=K
 mg:=mg
 base:=base
 A:=A.deeper (envOfC qual scope s.heap.objs.size f cd)
 N:=N
 eY:=s
 iF:=H
 env:=envOfC qual scope s.heap.objs.size f cd
 outer:=outer
 stack:=envOfC qual scope s.heap.objs.size f cd::outer
 ex:=[]
 calm:=true
 fn:=λ_=>true
 pn:=[]
 xe:=λe s'=>wpAny (model P w) (A.deeper (envOfC qual scope s.heap.objs.size f cd)) (leaving (envOfC qual scope s.heap.objs.size f cd) e) (λ_ wN=>CX outer H s E e wN) (λe' wN=>CX outer H s E e' wN) s'
theorem Tf{sc:Scope}{n:Nat}{x:Str}(h:sc.names.lookup x=some .cell):∃c,(cellsFrom n sc.names []).lookup x=some c:=by
 have q:=PySem.W.cellsFrom_some sc.names n [] (.inl h);exact wc.mp q
theorem ach{CX:jq}{P:Program}{w:World}{K:W.Frag}{mg:Str->Option Value}{base:Heap}{N ps:List Str}{qual:Str}{scope:Scope}{f:Addr}{cd:Value}{A:Around}{outer:List Env}{s s1:Shared}{H:Hp}{E:XK}{us:List Value}{vs:List V}
  (S:bA N ps scope) (hd:A.handled=none) (e0:sV P w K mg base A outer s H) (hl:vs.length=ps.length) (r:Vals vs us)
  (x:InCallC s s.heap.objs.size (bindL (envOfC qual scope s.heap.objs.size f cd).kindOf (ps.zip us) λ_=>none) (cellsFrom (s.heap.objs.size+1) scope.names []) (bindC (envOfC qual scope s.heap.objs.size f cd).kindOf (ps.zip us) λ_=>none) s1) :
  Inv (qQ CX P w K mg base N qual scope f cd A outer s H E) [] (start N vs) H s1:=by
 have iJ:ps.length<=N.length:=by have:=gh List.length S.pre;rw[fc] at this;lia
 obtain⟨h1,tk,rfl,hk⟩:=x.done;have zw:∀b:Addr,b∉(qQ CX P w K mg base N qual scope f cd A outer s H E).ex:=λb z=>absurd (show b∈([]:List Addr) from z) (by simp)
 refine⟨⟨e0.mod,S.kind,rfl,rfl,bu _,λy z c h1 h2=>?_,λy hy=>?_,λy c _ h=>?_,λ_=>hd,Around.frames_deeper e0.frames,.inr ⟨rfl,rfl⟩,λb z=>absurd z (zw b),e0.bs,e0.ji,λb _ _=>zw b,λb z=>absurd z (zw b),e0.lG,e0.sH⟩,
  rfl,e0.bare,Un.kept hk,⟨_,x.toInCall.ns,λi y v h1 h2 h3=>?_⟩,λy c h=>⟨_,x.cell y c h⟩,e0.aL.fresh (bu _),λy c h=>?_,λp hp=>absurd (show p∈([]:List (Addr×Obj)) from hp) (by simp),e0.aL.kept hk,?_⟩
 ·exact name_of_addr x.apart (wg h1) (wg h2)
 ·have hy:scope.names.lookup y=some .cell\/scope.names.lookup y=some .free:=hy;rcases hy with hy | hy
  ·exact Tf hy
  ·exact absurd rfl (S.acg _ (wg hy))
 ·exact kF (x.above y c (wg h))
 ·have hi:i<vs.length:=by
   unfold start at h2;by_cases hi:i<vs.length
   ·exact hi
   ·rw[gz (by simpa using hi)] at h2
    rw[List.getElem?_replicate] at h2;split at h2 <;> cases h2
  have ha:vs[i]? = some v:=by
   unfold start at h2;rw[gw (by simpa using hi),gR] at h2
   cases e:vs[i]? with
   | none=>rw[e] at h2;cases h2
   | some a=>rw[e] at h2;cases h2;rfl
  obtain⟨u,hu,rv⟩:=r.get ha;have hp:ps[i]? = some y:=by
   rw[← S.pre,List.getElem?_take_of_lt ∅];exact h1
  have Tg:ps.Nodup:=by rw[← S.pre];exact S.nd.sublist (List.take_sublist _ _)
  refine⟨u,rv,?_⟩;rcases S.par y (iC hp) with k | k
  ·exact .inl ⟨k,Td Tg hp hu k⟩
  ·obtain⟨c,e⟩:=Tf (n:=s.heap.objs.size+1) k;refine .inr ⟨.inl k,c,e,?_⟩;have q:=x.cell y c e;rw[Te Tg hp hu (by show scope.names.lookup y≠_;rw[k];decide)] at q
   exact q
 ·exact e0.aL.fresh (kF (x.above y c (wg h)))
 ·unfold start
  show _=N.length;rw[fE,aK,BX];lia
theorem Hx{CX:jq}{P:Program}{w:World}{K:W.Frag}{mg:Str->Option Value}{base:Heap}{k:Nat}{f:Addr}{name qual:Str}{params:Arguments}{body:List Stmt}{scope:Scope}{dV kV doc pm aQ ct oc:Value}{an od:Option Addr}
  {j8:Array (Option Value)} {N ps:List Str} {sp:Sp} (lk:K.lookup f=some ⟨oc,od,.func (PySem.W.fnOf name qual params body scope dV kV doc pm an aQ ct),j8⟩) (gK:PySem.W.codeIn K aQ qual=true) (S:bA N ps scope)
  (len:∀vs H Q E,sp vs H Q E->vs.length=ps.length)
  (uR:∀(A:Around) (outer:List Env) (s:Shared) (H:Hp) (vs:List V) (Q:VK) (E:XK),d9 k (A.deeper (envOfC qual scope s.heap.objs.size f aQ))->sp vs H Q E->
   ∃t,iH (qQ CX P w K mg base N qual scope f aQ A outer s H E) body t/\t { nx:=λ_ H'=>Q .aR H',rt:=Q } (start N vs) H) :
  bg P w K mg base CX (k+1) f (PySem.W.fnOf name qual params body scope dV kV doc pm an aQ ct) ps sp:=by
 refine⟨len,λA outer s H args us vs Q E hr e0 hb r jK=>?_⟩;have hl:=len _ _ _ _ jK;have KX:K.In s.heap:=e0.mod.uH.keeps λb o e=>(e0.bs b o e).1;have lim:s.heap.NoLimit:=e0.mod.nolimit.keeps λb o e=>(e0.bs b o e).1;have aci:∀y∈ps.zip us,scope.names.lookup y.1=some .local\/(scope.names.lookup y.1=some .cell/\((cellsFrom (s.heap.objs.size+1) scope.names []).lookup y.1).isSome=true):=λ⟨n,v⟩ hy=>by
  rcases S.par n (B0 hy).1 with q | q
  ·exact .inl q
  ·exact .inr ⟨q,PySem.W.cellsFrom_some _ _ _ (.inl q)⟩
 refine codeAny_call_function hr.depth (KX _ _ lk) rfl S.co S.gen rfl (PySem.W.codeRec_of KX gK) (hb _ _ _ _ ?_);refine wpAny_newFunctionEnv_cells S.kind aci λenv he s1 x=>?_;subst he;refine⟨lim.keeps x.toInCall.keep,codeAny_func ?_⟩;obtain⟨t,ht,hq⟩:=uR A outer s H vs Q E (hr.deeper _) jK;have I:Inv (qQ CX P w K mg base N qual scope f aQ A outer s H E) [] (start N vs) H s1:=ach S hr.hd e0 hl r x;refine jh (ht [] s1 (start N vs) H _ I hq) (λfl s' hs=>?_) λe s' hs=>hs;have fin:∀ {bq:St} {H':Hp} {v:V} {u:Value},Inv (qQ CX P w K mg base N qual scope f aQ A outer s H E) [] bq H' s'->RelV v u->Q v H'->CE outer P w H s Q u s' :=
  λ{bq H' v u} J rv q=>⟨v,H',J.os,J.bare,J.base,J.aL,rv,q⟩
 cases fl with
 | ret u =>
  obtain⟨v,bq,H',J,rv,q⟩:=hs;exact fin J rv q
 | next =>
  obtain⟨bq,H',J,q⟩:=hs;exact fin (v:=V.aR) (u:=Value.none) J rfl q
 | brk =>
  obtain⟨_,_,_,q⟩:=hs;exact False.elim q
 | cont =>
  obtain⟨_,_,_,q⟩:=hs;exact False.elim q
section
variable{X:Cx}{x:Str}{p pos:Pos}{e:Expr}{es:List Expr}{t:TA}{id T:String}{r:List V->Hp->VK->Prop}
def Hy(r:List V->Hp->VK->Prop)(t:TA):TE:=λσ H Q=>t σ H λvs H1=>r vs H1 Q
theorem bY(hc:jo X (.builtin id) r)(hg:Gl X x)(hm:X.mg x=none)(hv:bootBuiltins x=some (.builtin id))(ha:PA X (e::es) t)(hn:x≠"__name__" := by decide)(qO:(x == ("__debug__" : Str))=false:=by decide)
  (he:starEach (e::es) X.env=(false,eval e X.env)::starEach es X.env:=by rfl) (iJ:(backTo pos (starEach es X.env)).any (·.1)=false:=by rfl):PE X (.Call (.Name x p) (e::es) [] pos) (Hy r t):=by
 intro pins s σ H Q I h;refine uB (mF I hg hm hv ?_ hn qO);exact RL (aO (ha pos pins s σ H _ I h) λus s1 ⟨vs,H1,I1,r1,q1⟩=>hc pins s1 σ H1 vs us Q I1 r1 q1) he iJ
theorem pX(hc:jo X (.type T) r)(hg:Gl X x)(hm:X.mg x=none)(hv:bootBuiltins x=some (.type T))(ha:PA X (e::es) t)(hn:x≠"__name__" := by decide)(qO:(x == ("__debug__" : Str))=false:=by decide)
  (he:starEach (e::es) X.env=(false,eval e X.env)::starEach es X.env:=by rfl) (iJ:(backTo pos (starEach es X.env)).any (·.1)=false:=by rfl):PE X (.Call (.Name x p) (e::es) [] pos) (Hy r t):=by
 intro pins s σ H Q I h;refine uB (mF I hg hm hv ?_ hn qO);exact su (aO (ha pos pins s σ H _ I h) λus s1 ⟨vs,H1,I1,r1,q1⟩=>hc pins s1 σ H1 vs us Q I1 r1 q1) he iJ
end
end _L
namespace _H
open PySem PyProof.Rows
noncomputable def lexLt:List Int->List Int->Bool
 | [],[]=>false
 | [],_::_=>true
 | _::_,[]=>false
 | x::xs,y::ys=>if x=y then lexLt xs ys else decide (x<y)
theorem acj(x y:Int)(xs ys:List Int):lexLt (x::xs) (y::ys)=if x=y then lexLt xs ys else decide (x<y):=rfl
theorem ack:lexLt [] [] = false:=rfl
theorem acm(y:Int)(ys:List Int):lexLt [] (y::ys)=true:=rfl
theorem acn(x:Int)(xs:List Int):lexLt (x::xs) [] = false:=rfl
theorem aco(A:Around)(s:Shared)(a:Int)(t:Tok)(c:Int)(u:Tok):∃e,SeqAt.EqAt A s (.int a t) (.int c u) e/\(e=true↔a=c) :=
 ⟨(a == c),SeqAt.EqAt.int_int a t c u,by simp⟩
theorem acp(A:Around)(s:Shared)(a:Int)(t:Tok)(c:Int)(u:Tok)(prog:Program)(w:World)(E:Value->Shared->Prop)(Q:Value->Shared->Prop)(h:Q (.bool (decide (a<c))) s) :
  wpAny (model prog w) A (richCompare .Lt (.int a t) (.int c u)) Q E s :=
 (PyProof.Rows.lt_int h:wpAny (model prog w) A (compareOp .Lt (.int a t) (.int c u)) Q E s)
section
open PySem.SeqAt
open PySem.AutoSeq1 (wpAny_loadPart')
open PySem.MeetsSeq PySem.MeetsSeq2 PySem.MeetsSeq3
theorem acq(l b:Addr)(items pY:Array Value)(n n2:Nat)(dd Hz:Option Addr)(sl HB:Array (Option Value))(ns ms:List Int)(hi:IntsAre items.toList ns)(hj:IntsAre pY.toList ms) :
  Meets (Builtin.«tuple.__lt__» ⟨[.ref l,.ref b],[]⟩)
   (λ_ R s=>s.heap.get? l=some { cls:=.type "tuple",dict:=dd,data:=.seq items n,slots:=sl }/\s.heap.get? b=some { cls:=.type "tuple",dict:=Hz,data:=.seq pY n2,slots:=HB }/\
    R (.ok (.ret (.bool (lexLt ns ms)))) s) :=
 .of_wp λprog w A R s h=>by
  obtain⟨hp,g,d,tk,os⟩:=s;obtain⟨hl,hb,h⟩:=h;have f2:=AutoSeq1.sub_tuple_tuple;have z1:items.size=ns.length:=by rw[← hi.length];simp
  have z2:pY.size=ms.length:=by rw[← hj.length];simp
  wp_walk using wpAny_loadPart' hl,wpAny_loadPart' hb,wpAny_forIn_list _ (λrest b s'=>b.1=none/\s' = ⟨hp,g,d,tk,os⟩/\∃(vs ws:List Value) (eT wO:List Int),rest=vs.zip ws/\
   IntsAre vs eT/\IntsAre ws wO/\eT.length+pY.size=wO.length+items.size/\R (.ok (.ret (.bool (lexLt eT wO)))) ⟨hp,g,d,tk,os⟩) _
  case turn =>
   rintro⟨y,x⟩ rest b s' ⟨gS,rfl,vs,ws,eT,wO,hz,HC,sW,hlen,hR⟩;cases HC with
   | nil=>rw[List.zip_nil_left] at hz;cases hz
   | cons a t acr =>
    cases sW with
    | nil=>rw[List.zip_nil_right] at hz;cases hz
    | cons c u acs =>
     rw[List.zip_cons_cons] at hz;injection hz with hyx acu;injection hyx with hy hx;subst hy hx;rw[acj] at hR;simp only[List.length_cons] at hlen;obtain⟨e,he,Ti⟩:=aco A.in1 ⟨hp,g,d,tk,os⟩ a t c u;refine wpAny_bind (he prog w _ _ ?_);cases e with
     | true =>
      rw[if_pos (Ti.mp rfl)] at hR;wp_walk;exact⟨rfl,rfl,_,_,_,_,acu,acr,acs,∅,hR⟩
     | false =>
      rw[if_neg (λq=>absurd (Ti.mpr q) Bool.false_ne_true)] at hR;have hri:=acp A.in1 ⟨hp,g,d,tk,os⟩ a t c u prog w;wp_walk using hri;exact⟨_,rfl,by simpa using hR⟩
  case fin =>
   rintro⟨b1,b2⟩ s' ⟨gS,rfl,vs,ws,eT,wO,hz,HC,sW,hlen,hR⟩;simp only at gS;subst gS;have hv:lexLt eT wO=decide (items.size<pY.size):=by
    cases HC with
    | nil =>
     cases sW with
     | nil =>
      simp only[List.length_nil] at hlen;rw[ack];exact(decide_eq_false ∅).symm
     | cons c u hw =>
      simp only[List.length_nil,List.length_cons] at hlen;rw[acm];exact(decide_eq_true ∅).symm
    | cons a t hv =>
     cases sW with
     | nil =>
      simp only[List.length_nil,List.length_cons] at hlen;rw[acn];exact(decide_eq_false ∅).symm
     | cons c u hw =>
      rw[List.zip_cons_cons] at hz;cases hz
   rw[hv] at hR;wp_walk;exact⟨_,rfl,by simpa[Builtin.Tuple.tupleCompareSizes] using hR⟩
  case h =>
   exact⟨rfl,rfl,items.toList,pY.toList,ns,ms,rfl,hi,hj,∅,h⟩
end
section
variable{prog:Program}{w:World}{A:Around}{E:Value->Shared->Prop}{s:Shared}
theorem acv{l b:Addr}{items pY:Array Value}{ns ms:List Int}{Q:Value->Shared->Prop}(hl:IsTup s.heap l items)(hb:IsTup s.heap b pY)(hi:IntsAre items.toList ns)(hj:IntsAre pY.toList ms)
  (hu:A.units<cLine) (h:Q (.bool (lexLt ns ms)) s):wpAny (model prog w) A (compareOp .Lt (.ref l) (.ref b)) Q E s:=by
 obtain⟨⟨cls,dd,data,sl⟩,ho,hc,n,hd⟩:=id hl;obtain⟨⟨apE,Hz,data2,HB⟩,lK,qR,n2,hd2⟩:=id hb;simp only at hc hd qR hd2;subst hc hd qR hd2;exact richCompare_meets_room (op:=.Lt) ⟨_,ho,rfl⟩ ⟨_,lK,rfl⟩ PySem.F.slot_tuple_lt PySem.F.entry_tuple_lt (PySem.F.args_tuple_lt_2 _ _) (acq l b items pY n n2 dd Hz sl HB ns ms hi hj)
  ⟨ho,lK,show Value.bool (lexLt ns ms)≠Value.notImplemented/\Q (.bool (lexLt ns ms)) s from⟨(λx=>nomatch x),h⟩⟩ hu
noncomputable def cE(n d:Nat):Option Int->Nat
 | none=>d
 | some v=>if v<0 then(v+(n:Int)).toNat else min v.toNat n
theorem acw(n d:Nat)(hd:d<=n)(o:Option Int):cE n d o<=n:=by
 cases o with
 | none=>exact hd
 | some v =>
  show (if v<0 then(v+(n:Int)).toNat else min v.toNat n)<=n
  by_cases hv:v<0
  ·rw[if_pos hv];lia
  ·rw[if_neg hv];exact Nat.min_le_right _ _
theorem Tj(v:Int)(n d:Nat):(if v<0 then max (v+(n:Int)) 0 else min v (n:Int))=((cE n d (some v):Nat):Int):=by
 show (if v<0 then max (v+(n:Int)) 0 else min v (n:Int))=(((if v<0 then(v+(n:Int)).toNat else min v.toNat n):Nat):Int)
 by_cases hv:v<0
 ·simp only[if_pos hv];lia
 ·simp only[if_neg hv];lia
theorem acy(lo hi:Option Int)(n:Nat):Builtin.Slice.sliceAdjust lo hi 1 (n:Int)=(((cE n 0 lo:Nat):Int),((cE n n hi:Nat):Int)):=by
 have h1:¬ ((1:Int)<0):=by lia
 unfold Builtin.Slice.sliceAdjust;simp only[h1,if_false];refine Prod.ext ?_ ?_
 ·cases lo with
  | none=>rfl
  | some v=>exact Tj v n 0
 ·cases hi with
  | none=>rfl
  | some v=>exact Tj v n n
theorem acz(i j:Nat):Builtin.Slice.slicePlaces (i:Int) (j:Int) 1=j - i:=by
 unfold Builtin.Slice.slicePlaces;have h1:(1:Int) > 0:=by lia
 simp only[h1,if_true,Int.ediv_one];split <;> lia
theorem Tn{v:Value}{o:Option Int}{Q:Option Int->Shared->Prop}(p:IsPart v o)(h:Q o s):wpAny (model prog w) A (Builtin.Slice.slicePartIndex v) Q E s:=by
 cases p with
 | none=>exact slicePart_none h
 | int i t=>exact slicePart_int h
theorem acA{sl:Addr}{vl vu:Value}{lo hi:Option Int}{n:Nat}{Q:Int×Int×Nat->Shared->Prop}(hs:s.heap.IsSliceOf sl vl vu .none)(pl:IsPart vl lo)(pu:IsPart vu hi)
  (h:Q (((cE n 0 lo:Nat):Int),1,cE n n hi - cE n 0 lo) s):wpAny (model prog w) A (Builtin.Slice.sliceApplied (.ref sl) (pure (n:Int))) Q E s:=by
 obtain⟨os,qT,To,CN⟩:=id hs;unfold Builtin.Slice.sliceApplied Builtin.Slice.sliceFields;refine wpAny_bind (wpAny_bind (wpAny_field qT CN (x:=vl) rfl (wpAny_bind (wpAny_field qT CN (x:=vu) rfl (wpAny_bind (wpAny_field qT CN (x:=.none) rfl (wpAny_pure ?_)))))));refine wpAny_bind (slicePart_none ?_)
 show wpAny _ _ (if ((1:Int) == 0)=true then _ else _) _ _ s
 rw[if_neg ⋯]
 refine wpAny_bind (Tn pl (wpAny_bind (Tn pu (wpAny_bind (wpAny_pure ?_)))))
 show wpAny _ _ (match Builtin.Slice.sliceAdjust lo hi 1 (n:Int) with | (lo,hi)=>pure (lo,(1:Int),Builtin.Slice.slicePlaces lo hi 1)) _ _ s
 rw[acy lo hi n]
 show wpAny _ _ (pure (((cE n 0 lo:Nat):Int),(1:Int),Builtin.Slice.slicePlaces ((cE n 0 lo:Nat):Int) ((cE n n hi:Nat):Int) 1)) _ _ s;rw[acz];exact wpAny_pure h
theorem acB(xs:Array Value)(i k:Nat):((List.range k).filterMap λ(m:Nat)=>xs[((i:Int)+(m:Int)*1).toNat]?).toArray=((xs.toList.drop i).take k).toArray:=by
 have e:(λ(m:Nat)=>xs[((i:Int)+(m:Int)*1).toNat]?)=λm=>xs[i+m]? := by
  funext m
  have:((i:Int)+(m:Int)*1).toNat=i+m:=by lia
  rw[this]
 rw[e];have:=pick_run xs i k;rw[List.filterMap_map] at this;have e2:((λx=>xs[x]?) ∘ λx=>i+x)=λm=>xs[i+m]? := rfl;rw[e2] at this;rw[this]
theorem acC{t sl:Addr}{items:Array Value}{vl vu:Value}{lo hi:Option Int}{Q:Value->Shared->Prop}(ht:IsTup s.heap t items)(hs:s.heap.IsSliceOf sl vl vu .none)(pl:IsPart vl lo)(pu:IsPart vu hi)
  (hw:¬ (cE items.size 0 lo=0/\cE items.size items.size hi=items.size))
  (h:Q (.ref s.heap.objs.size) { s with heap:=s.heap.push { cls:=.type "tuple",data:=.seq ((items.toList.drop (cE items.size 0 lo)).take (cE items.size items.size hi - cE items.size 0 lo)).toArray }})
  (hsz:items.size<=sizeLine):wpAny (model prog w) A (getItem (.ref t) (.ref sl)) Q E s:=by
 have CO:sizeOk (.seq ((items.toList.drop (cE items.size 0 lo)).take (cE items.size items.size hi - cE items.size 0 lo)).toArray):=by
  show ((items.toList.drop (cE items.size 0 lo)).take (cE items.size items.size hi - cE items.size 0 lo)).toArray.size<=sizeLine;rw[List.size_toArray,List.length_take,List.length_drop,Array.length_toList];lia
 have hj:cE items.size items.size hi<=items.size:=acw _ _ (Nat.le_refl _) hi;obtain⟨os,qT,To,CN⟩:=id hs;have hTs:s.TypeIs (.ref sl) "slice" := ⟨os,qT,To⟩;unfold getItem
 try with_reducible refine wpAny_holding ?_
 first | refine wpAny_bind (wpAny_pure ?_) | skip
 refine wpAny_bind (wpAny_sequenceKey ht.typeIs ⋯ ?_)
 refine wpAny_bind (wpAny_callSpecial?_slot (name:=Str.ofString "__getitem__") ht.typeIs PyProof.Rows.slot_tuple_getitem
  (wpAny_call_entry PyProof.Rows.slot_tuple_getitem ht.typeIs entry_tuple_getitem ?_ (args_tuple_getitem _ _)))
 show wpAny _ _ (Builtin.Tuple.tupleItemsOf (.ref t) >>= _) _ _ s;refine wpAny_bind (tupleItemsOf_ ht ?_);refine wpAny_bind (wpAny_typeOf hTs ?_);rw[if_pos ⋯]
 refine wpAny_bind (acA hs pl pu ?_);have j9:¬ ((((cE items.size 0 lo:Nat):Int) == 0 && (1:Int) == 1 && (cE items.size items.size hi - cE items.size 0 lo) == items.size)=true):=by
  intro q;rw[Bool.and_eq_true,Bool.and_eq_true] at q;have q1:((cE items.size 0 lo:Nat):Int)=0:=eq_of_beq q.1.1;have q2:cE items.size items.size hi - cE items.size 0 lo=items.size:=eq_of_beq q.2;exact hw ⟨∅,∅⟩
 show wpAny _ _ (if (((cE items.size 0 lo:Nat):Int) == 0 && (1:Int) == 1 && (cE items.size items.size hi - cE items.size 0 lo) == items.size)=true then _ else _) _ _ s
 rw[if_neg j9,acB]
 first
  | exact wpAny_bind (m:=Builtin.Tuple.tupleExact _) (wpAny_newObj_type (wpAny_pure ⟨_,rfl,wpAny_pure h⟩) CO)
  | exact wpAny_bind (m:=Builtin.Tuple.tupleExact _) (wpAny_newObj_type (wpAny_bind (wpAny_pure (wpAny_pure ⟨_,rfl,wpAny_pure h⟩))) CO)
  | exact wpAny_bind (wpAny_bind (m:=Builtin.Tuple.tupleExact _) (wpAny_newObj_type (wpAny_pure (wpAny_pure ⟨_,rfl,wpAny_pure h⟩)) CO))
  | exact wpAny_bind (wpAny_bind (m:=Builtin.Tuple.tupleExact _) (wpAny_newObj_type (wpAny_pure ⟨_,rfl,wpAny_pure h⟩) CO))
end
end _H
namespace _L
open PySem PySem.Spec PyProof.Rows
noncomputable abbrev TO:=St->Hp->(Option Int->Hp->Prop)->Prop
noncomputable def PO(X:Cx)(e:Option Expr)(t:TO):Prop :=
 ∀(pins:List (Addr×Obj)) (s:Shared) (σ:St) (H:Hp) (Q:Option Int->Hp->Prop),Inv X pins σ H s->t σ H Q->
  wpAny (model X.prog X.w) X.A (evalPart e X.env) (λu s'=>∃o H',Inv X pins σ H' s'/\IsPart u o/\Q o H') X.xe s
def Tp:TO:=λ_ H Q=>Q none H
def Tq(t:TE):TO:=λσ H Q=>t σ H λx H1=>∃i,x = .int i/\Q (some i) H1
theorem intsAre_of{ns:List Int}:∀ {us:List Value},Vals (ns.map V.int) us->IntsAre us ns:=by
 induction ns with
 | nil=>intro us r;rw[List.map_nil] at r;cases r;exact .nil
 | cons n ns ih =>
  intro us r;rw[c9] at r;cases r with
  | cons r1 r2 =>
   obtain⟨t,e⟩:=r1;subst e;exact .cons n t (ih r2)
section
variable{X:Cx}{e:Expr}{te:TE}{lo hi:Option Expr}{tl th:TO}{pos p2:Pos}
theorem Tr:PO X none Tp:=by
 intro pins s σ H Q I h;rw[evalPart_none];exact aV ⟨none,H,I,.none,h⟩
theorem Tt(h:PE X e te):PO X (some e) (Tq te):=by
 intro pins s σ H Q I hw;rw[evalPart_some];refine aO (h pins s σ H _ I hw) λu s1 ⟨x,H1,I1,r1,q1⟩=>?_;obtain⟨i,rfl,q⟩:=q1;obtain⟨t,rfl⟩:=r1;exact⟨some i,H1,I1,.int i t,q⟩
noncomputable def Tu(X:Cx)(r:V->Option Int->Option Int->Hp->VK->Prop):Prop :=
 ∀(pins:List (Addr×Obj)) (s:Shared) (σ:St) (H:Hp) (x:V) (v vl vu:Value) (lo hi:Option Int) (sl:Addr) (Q:VK),Inv X pins σ H s->RelV x v->s.heap.IsSliceOf sl vl vu .none->IsPart vl lo->IsPart vu hi->r x lo hi H Q->
  ∃T id,typeLookup (.type T) "__getitem__" = pure (some (.builtin id))/\s.TypeIs v T/\wpAny (model X.prog X.w) X.A (getItem v (.ref sl)) (EP X pins σ Q) X.xe s
def Tv(r:V->Option Int->Option Int->Hp->VK->Prop)(te:TE)(tl th:TO):TE:=λσ H Q=>te σ H λx H1=>tl σ H1 λl H2=>th σ H2 λu H3=>r x l u H3 Q
theorem Tw{r:V->Option Int->Option Int->Hp->VK->Prop}(hr:Tu X r)(he:PE X e te)(hl:PO X lo tl)(hu:PO X hi th):PE X (.Subscript e (.Slice lo hi none p2) pos) (Tv r te tl th):=by
 intro pins s σ H Q I h;refine Subscript_ (aO (he pins s σ H _ I h) λv s1 ⟨x,H1,I1,r1,q1⟩=>?_);refine wpAny_Slice (aO (hl pins s1 σ H1 _ I1 q1) λvl s2 ⟨l,H2,I2,pl,q2⟩=>aO (hu pins s2 σ H2 _ I2 q2) λvu s3 ⟨u,H3,I3,pu,q3⟩=>?_);rw[evalPart_none];refine aV ?_;have I4:Inv X pins σ H3 { s3 with heap:=s3.heap.push { cls:=.type "slice",data:=.fields #[vl,vu,.none] }}:=I3.kept (t':=s3.toks) λb ob q=>bW _ q;obtain⟨T,id,hT,ht,hg⟩:=hr pins { s3 with heap:=s3.heap.push { cls:=.type "slice",data:=.fields #[vl,vu,.none] }} σ H3 x v vl vu l u s3.heap.objs.size Q I4 r1 (Heap.IsSliceOf.new ..) pl pu q3
 show wpAny (model X.prog X.w) X.A (subscriptTail e (.Slice lo hi none p2) v (.ref s3.heap.objs.size)) (EP X pins σ Q) X.xe { s3 with heap:=s3.heap.push { cls:=.type "slice",data:=.fields #[vl,vu,.none] }};exact tail_any (ops:=[.ref s3.heap.objs.size,v]) ht hT hg (by with_unfolding_all rfl)
noncomputable def wQ(xs:List V)(lo hi:Option Int):List V:=(xs.drop (_H.cE xs.length 0 lo)).take (_H.cE xs.length xs.length hi - _H.cE xs.length 0 lo)
theorem acD(xs:List V)(lo hi:Option Int):(wQ xs lo hi).length<=xs.length:=by
 unfold wQ;rw[fc,List.length_drop];lia
def Tz(K:W.Frag):V->Option Int->Option Int->Hp->VK->Prop:=λx lo hi H Q=>∃a xs,x = .ref a/\aY K H a xs/\
 ¬ (_H.cE xs.length 0 lo=0/\_H.cE xs.length xs.length hi=xs.length)/\∀p,H p=none->Q (.ref p) (upd H p (.tup (wQ xs lo hi)))
theorem TF:Tu X (Tz X.K):=by
 intro pins s σ H x v vl vu lo hi sl Q I rx hs pl pu h;obtain⟨a,xs,rfl,hx,hw,q⟩:=h;cases rx;obtain⟨its,r,ht,hz⟩:=I.tuple hx;have hlen:its.toArray.size=xs.length:=by rw[gU];exact r.length.symm
 refine⟨"tuple",_,PyProof.Rows.slot_tuple_getitem.lookup,ht.typeIs,?_⟩;refine _H.acC ht hs pl pu (by rw[hlen];exact hw) ?_ (by rw[hlen];exact hz)
 rw[hlen];refine⟨.ref s.heap.objs.size,_,I.laid (t':=s.toks) (o:=.tup (wQ xs lo hi)) (λb ob q=>bW _ q) (bu _) ?_,rfl,q _ (I.aL.fresh (bu _))⟩;exact⟨dQ (acD xs lo hi) hz,_,(r.drop (_H.cE xs.length 0 lo)).take (_H.cE xs.length xs.length hi - _H.cE xs.length 0 lo),IsTup.new _ _⟩
end
noncomputable def jL(n:Nat)(i:Int):Option Nat:=if 0<=i then(if i<n then some i.toNat else none) else if -(n:Int)<=i then some (i+n).toNat else none
noncomputable def dP{α:Type}(xs:List α)(i:Int):Option α:=(jL xs.length i).bind λj=>xs[j]?
theorem TH{n:Nat}{i:Int}{j:Nat}(h:jL n i=some j):seqIndex? i n=some j/\j<n/\-(n:Int)<=i/\i<n:=by
 unfold jL at h;by_cases h0:0<=i
 ·rw[if_pos h0] at h;by_cases h1:i<n
  ·rw[if_pos h1] at h;have e:i.toNat=j:=dD h;exact⟨by rw[seqIndex_of h0 h1,e],∅,∅,h1⟩
  ·rw[if_neg h1] at h;cases h
 ·rw[if_neg h0] at h;by_cases h1 : -(n:Int)<=i
  ·rw[if_pos h1] at h;have e:(i+n).toNat=j:=dD h;exact⟨by rw[seqIndex_neg ∅ h1,e],∅,h1,∅⟩
  ·rw[if_neg h1] at h;cases h
theorem TJ{α:Type}{xs:List α}{i:Int}{v:α}(h:dP xs i=some v):∃j,seqIndex? i xs.length=some j/\xs[j]? = some v/\j<xs.length/\-(xs.length:Int)<=i/\i<xs.length:=by
 unfold dP at h;cases e:jL xs.length i with
 | none=>rw[e] at h;cases h
 | some j =>
  rw[e] at h;obtain⟨h1,h2,h3,h4⟩:=TH e;exact⟨j,h1,h,h2,h3,h4⟩
theorem gT{α:Type}{xs:List α}{j:Nat}{v:α}(h:xs[j]? = some v):dP xs (j:Int)=some v:=by
 have hj:j<xs.length:=(fD.mp h).1;have e:jL xs.length (j:Int)=some j:=by
  unfold jL;rw[if_pos ∅,if_pos ∅];simp
 unfold dP;rw[e];exact h
theorem TL{α:Type}(xs:List α)(v:α):dP (xs++[v]) (-1)=some v:=by
 have hl:(xs++[v]).length=xs.length+1:=by simp
 have e:jL (xs++[v]).length (-1)=some xs.length:=by
  unfold jL;rw[hl,if_neg ⋯,if_pos ∅]
  congr 1;lia
 unfold dP;rw[e]
 show (xs++[v])[xs.length]? = some v;simp
def acE(b:Expr):Prop:=∀o i,subscripted b false o i=operate [o,i] (getItem o i)
noncomputable def mK(X:Cx)(r:R2):Prop :=
 ∀(value slice:Expr) (pins:List (Addr×Obj)) (s:Shared) (σ:St) (H:Hp) (x y:V) (v u:Value) (Q:VK),Inv X pins σ H s->RelV x v->RelV y u->r x y H Q->
  subscripted slice false v u=operate [v,u] (getItem v u)->wpAny (model X.prog X.w) X.A (subscriptTail value slice v u) (EP X pins σ Q) X.xe s
noncomputable def MtR(X:Cx)(id:String)(r:V->List V->Hp->VK->Prop):Prop :=
 ∀(pins:List (Addr×Obj)) (s:Shared) (σ:St) (H:Hp) (x:V) (xs:List V) (v:Value) (us:List Value) (Q:VK),Inv X pins σ H s->RelV x v->Vals xs us->r x xs H Q->
  wpAny (model X.prog X.w) X.A (call (.builtin id) (v::us)) (EP X pins σ Q) X.xe s
section
variable{X:Cx}{a b:Expr}{ta tb:TE}{pos:Pos}
theorem aZ{r:R2}(hr:mK X r)(ha:PE X a ta)(hb:PE X b tb)(hs:acE b):PE X (.Subscript a b pos) (zg r ta tb):=by
 intro pins s σ H Q I h;exact Subscript_ (Hi ha hb I h λv u s2 x y H2 I2 rx ry q=>hr a b pins s2 σ H2 x y v u Q I2 rx ry q (hs _ _))
def CQ(K:W.Frag):R2:=λx y H Q=>∃p xs i v,x = .ref p/\y = .int i/\aE K H p xs/\dP xs i=some v/\Q v H
def CT(K:W.Frag):R2:=λx y H Q=>∃p xs i v,x = .ref p/\y = .int i/\aY K H p xs/\dP xs i=some v/\Q v H
theorem mL:mK X (CQ X.K):=by
 intro value slice pins s σ H x y v u Q I rx ry h hs;obtain⟨p,xs,i,z,rfl,rfl,hq,he,q⟩:=h;cases rx;obtain⟨t,rfl⟩:=ry;obtain⟨its,r,pl,hz⟩:=I.list hq;obtain⟨j,h1,h2,h3,h4,h5⟩:=TJ he;obtain⟨w,ew,j_⟩:=r.get h2;have hl:=r.length;have hn:=zo;have fin:EP X pins σ Q w s:=⟨z,H,I,j_,q⟩;by_cases h0:0<=i
 ·have hj:i.toNat=j:=by
   rw[seqIndex_of h0 h5] at h1;exact dD h1
  exact item_listR pl.isList h0 ∅ (by rw[hj];simpa using ew) fin hs
 ·have hj:(i+(its.toArray.size:Int)).toNat=j:=by
   rw[seqIndex_neg ∅ h4] at h1
   rw[gU,← hl];exact dD h1
  exact subscriptTail_builtinR (x:=w) pl.isList.typeIs slot_list_getitem.lookup
   (wpAny_getItem_list_neg (Q:=λr s'=>r=w/\EP X pins σ Q r s') pl.isList ∅ (by rw[gU] <;> lia) ∅ (by rw[hj];simpa using ew) ⟨rfl,fin⟩) hs
theorem lM:mK X (CT X.K):=by
 intro value slice pins s σ H x y v u Q I rx ry h hs;obtain⟨p,xs,i,z,rfl,rfl,hq,he,q⟩:=h;cases rx;obtain⟨t,rfl⟩:=ry;obtain⟨its,r,pl,hz⟩:=I.tuple hq;obtain⟨j,h1,h2,h3,h4,h5⟩:=TJ he;obtain⟨w,ew,j_⟩:=r.get h2;have hl:=r.length;have hn:=zo;have fin:EP X pins σ Q w s:=⟨z,H,I,j_,q⟩;exact subscriptTail_builtinR (x:=w) pl.typeIs slot_tuple_getitem.lookup
  (getItem_tuple (j:=j) (Q:=λr s'=>r=w/\EP X pins σ Q r s') pl ∅ ∅ (by rw[gU,← hl];exact h1) (by simpa using ew) ⟨rfl,fin⟩) hs
theorem acF(its:List Value)(n j:Nat)(u:Value):Obj.mapSeq (·.setIfInBounds j u) { cls:=.type "list",data:=.seq its.toArray n } = { cls:=.type "list",data:=.seq (its.set j u).toArray n }:=by
 simp[Obj.mapSeq]
theorem Inv.lst{pins:List (Addr×Obj)}{σ:St}{H:Hp}{s:Shared}{p:Addr}{xs:List V}(I:Inv X pins σ H s)(h:H p=some (.lst xs)) :
  ∃(its:List Value) (n:Nat),Vals xs its/\s.heap.get? p=some { cls:=.type "list",data:=.seq its.toArray n }/\xs.length<=sizeLine:=by
 obtain⟨z,its,n,r,e⟩:=I.aL p _ h;exact⟨its,n,r,e,z⟩
theorem Inv.acG{pins:List (Addr×Obj)}{σ:St}{H:Hp}{s:Shared}{p:Addr}{xs ys:List V}{its its':List Value}{n n':Nat}{f:Obj->Obj}(I:Inv X pins σ H s)(h:H p=some (.lst xs))
  (ho:s.heap.get? p=some { cls:=.type "list",data:=.seq its.toArray n }) (hf:f { cls:=.type "list",data:=.seq its.toArray n } = { cls:=.type "list",data:=.seq its'.toArray n' }) (r:Vals ys its') (hz:ys.length<=sizeLine) (t:Nat) :
  Inv X pins σ (upd H p (.lst ys)) { s with heap:=s.heap.update p f,toks:=t }:=by
 have e:(s.heap.update p f).get? p=some { cls:=.type "list",data:=.seq its'.toArray n' }:=by
  rw[qB f ho (by rw[hf] <;> rfl),hf]
 refine I.write (x:=p) (e:=p) (by rw[h];trivial) (.inl rfl) (λb u hb q=>(l9 _ _ (dR hb)).trans q) ⟨_,e⟩ ?_
 exact⟨hz,its',n',r,e⟩
def TM:V->V->V->Hp->(Hp->Prop)->Prop:=λo i v H Q=>∃p xs k j,o = .ref p/\i = .int k/\H p=some (.lst xs)/\jL xs.length k=some j/\Q (upd H p (.lst (xs.set j v)))
theorem set_list:Ss X TM:=by
 intro pins s σ H o i v ov iv u Q I ro ri rv h;obtain⟨p,xs,k,j,rfl,rfl,hp,hj,q⟩:=h;cases ro;obtain⟨t,rfl⟩:=ri;obtain⟨its,n,r,ho,hz⟩:=I.lst hp;obtain⟨h1,h2,h3,h4⟩:=TH hj;have hl:=r.length;have hn:=zo;have I':Inv X pins σ (upd H p (.lst (xs.set j v))) { s with heap:=s.heap.update p (Obj.mapSeq (·.setIfInBounds j u))} :=
  I.acG hp ho (acF its n j u) (r.set rv j) (by rw[yG];exact hz) s.toks
 by_cases h0:0<=k
 ·have hk:k.toNat=j:=by
   rw[seqIndex_of h0 h4] at h1;exact dD h1
  exact PySem.W.ki_setAt ho h0 ∅ (by rw[gU,← hl];exact h4) (by rw[hk];exact⟨_,I',q⟩)
 ·have hk:(k+(its.toArray.size:Int)).toNat=j:=by
   rw[seqIndex_neg ∅ h3] at h1
   rw[gU,← hl];exact dD h1
  exact PySem.W.ki_setBack ho ∅ (by rw[gU,← hl];exact h3) ∅ (by rw[hk];exact⟨_,I',q⟩)
noncomputable def mO:V->Bool
 | .aR=>true
 | .bl _=>true
 | .int _=>true
 | .str _=>true
 | _=>false
noncomputable def qU:V->V->Bool
 | .aR,.aR=>true
 | .bl a,.bl b=>a == b
 | .bl a,.int b=>(if a then 1 else 0) == b
 | .int a,.bl b=>a == (if b then 1 else 0)
 | .int a,.int b=>a == b
 | .str a,.str b=>a == b
 | _,_=>false
theorem acH{A:Around}{s:Shared}{y x:V}{u v:Value}(ry:RelV y u)(rx:RelV x v)(fy:mO y=true)(fx:mO x=true):SeqAt.EqAt A s u v (qU y x):=by
 cases y with
 | aR =>
  cases ry;cases x with
  | aR=>cases rx;exact SeqAt.EqAt.same _
  | bl b=>cases rx;exact SeqAt.EqAt.none_bool b
  | int b=>obtain⟨t,rfl⟩:=rx;exact SeqAt.EqAt.none_int b t
  | str b=>obtain⟨t,rfl⟩:=rx;exact SeqAt.EqAt.none_str b t
  | _=>exact absurd (show false=true from fx) gg
 | bl a =>
  cases ry;cases x with
  | aR=>cases rx;exact SeqAt.EqAt.bool_none a
  | bl b=>cases rx;exact SeqAt.EqAt.bool_bool a b
  | int b=>obtain⟨t,rfl⟩:=rx;exact SeqAt.EqAt.bool_int a b t
  | str b=>obtain⟨t,rfl⟩:=rx;exact SeqAt.EqAt.bool_str a b t
  | _=>exact absurd (show false=true from fx) gg
 | int a =>
  obtain⟨t',rfl⟩:=ry;cases x with
  | aR=>cases rx;exact SeqAt.EqAt.int_none a t'
  | bl b=>cases rx;exact SeqAt.EqAt.int_bool a t' b
  | int b=>obtain⟨t,rfl⟩:=rx;exact SeqAt.EqAt.int_int a t' b t
  | str b=>obtain⟨t,rfl⟩:=rx;exact SeqAt.EqAt.int_str a t' b t
  | _=>exact absurd (show false=true from fx) gg
 | str a =>
  obtain⟨t',rfl⟩:=ry;cases x with
  | aR=>cases rx;exact SeqAt.EqAt.str_none a t'
  | bl b=>cases rx;exact SeqAt.EqAt.str_bool a t' b
  | int b=>obtain⟨t,rfl⟩:=rx;exact SeqAt.EqAt.str_int a t' b t
  | str b=>obtain⟨t,rfl⟩:=rx;exact SeqAt.EqAt.str_str a t' b t
  | _=>exact absurd (show false=true from fx) gg
 | _=>exact absurd (show false=true from fy) gg
noncomputable def kg(x:V)(u:Value):Bool:=match u with
 | .none=>qU .aR x
 | .bool b=>qU (.bl b) x
 | .int i _=>qU (.int i) x
 | .str z _=>qU (.str z) x
 | _=>false
theorem TQ{x y:V}{u:Value}(r:RelV y u)(f:mO y=true):kg x u=qU y x:=by
 cases y with
 | aR=>cases r;rfl
 | bl b=>cases r;rfl
 | int i=>obtain⟨t,rfl⟩:=r;rfl
 | str z=>obtain⟨t,rfl⟩:=r;rfl
 | _=>exact absurd (show false=true from f) gg
theorem zx{x:V}:∀ {xs:List V} {us:List Value},Vals xs us->xs.all mO=true->us.any (kg x)=xs.any λy=>qU y x
 | _,_,.nil,_=>rfl
 | y::xs,u::us,.cons r t,f=>by
  rw[List.all_cons,yD] at f;rw[uq,uq,TQ r f.1,zx t f.2]
theorem zy{A:Around}{s:Shared}{x:V}{v:Value}(rx:RelV x v)(fx:mO x=true):∀ {xs:List V} {us:List Value},Vals xs us->xs.all mO=true->∀u∈us,SeqAt.EqAt A s u v (kg x u)
 | _,_,.nil,_=>λu hu=>by cases hu
 | y::xs,u::us,.cons r t,f=>λu' hu=>by
  rw[List.all_cons,yD] at f;rcases cg.mp hu with rfl | hu
  ·rw[TQ r f.1];exact acH r rx f.1 fx
  ·exact zy rx fx t f.2 u' hu
noncomputable def uS(x:V)(xs:List V):Bool:=xs.any λy=>qU y x
def CU(K:W.Frag)(neg:Bool):R2:=λx y H Q=>∃p xs,y = .ref p/\(aE K H p xs\/aY K H p xs)/\mO x=true/\xs.all mO=true/\Q (.bl (if neg then !uS x xs else uS x xs)) H
theorem TR:cZ X (compareOp .In) (CU X.K false):=by
 intro pins s σ H x y v u Q I rx ry h;obtain⟨p,xs,rfl,hq,fx,fs,q⟩:=h;cases ry;rcases hq with hq | hq
 ·obtain⟨its,r,pl,hz⟩:=I.list hq;refine SeqAt.in_listAt (kg x) pl.isList (λw hw=>zy rx fx r fs w (by simpa using hw)) ⟨.bl _,H,I,rfl,?_⟩
  rw[show its.toArray.any (kg x)=its.any (kg x) by simp,zx r fs]
  exact q
 ·obtain⟨its,r,pl,hz⟩:=I.tuple hq;refine SeqAt.in_tupleAt (kg x) pl (λw hw=>zy rx fx r fs w (by simpa using hw)) ⟨.bl _,H,I,rfl,?_⟩
  rw[show its.toArray.any (kg x)=its.any (kg x) by simp,zx r fs]
  exact q
theorem acI:cZ X (compareOp .NotIn) (CU X.K true):=by
 intro pins s σ H x y v u Q I rx ry h;obtain⟨p,xs,rfl,hq,fx,fs,q⟩:=h;cases ry;rcases hq with hq | hq
 ·obtain⟨its,r,pl,hz⟩:=I.list hq;refine SeqAt.notIn_listAt (kg x) pl.isList (λw hw=>zy rx fx r fs w (by simpa using hw)) ⟨.bl _,H,I,rfl,?_⟩
  rw[show its.toArray.any (kg x)=its.any (kg x) by simp,zx r fs]
  exact q
 ·obtain⟨its,r,pl,hz⟩:=I.tuple hq;refine SeqAt.notIn_tupleAt (kg x) pl (λw hw=>zy rx fx r fs w (by simpa using hw)) ⟨.bl _,H,I,rfl,?_⟩
  rw[show its.toArray.any (kg x)=its.any (kg x) by simp,zx r fs]
  exact q
theorem qV:jo X (.builtin "len") (λxs H Q=>∃p ys,xs = [.ref p]/\(aE X.K H p ys\/aY X.K H p ys)/\Q (.int ys.length) H):=by
 intro pins s σ H xs us Q I r h;obtain⟨p,ys,rfl,hq,q⟩:=h;obtain⟨u,rfl,rx⟩:=vals1 r;cases rx;have hn:=zo;rcases hq with hq | hq
 ·obtain⟨its,r',pl,hz⟩:=I.list hq;have hlen:=r'.length;exact Calls.call_len_list pl.isList (by simp only[List.size_toArray] <;> lia) ⟨.int ys.length,H,I.tok _,⟨s.toks+1,by rw[gU,hlen]⟩,q⟩
 ·obtain⟨its,r',pl,hz⟩:=I.tuple hq;have hlen:=r'.length;exact len_tuple pl (by simp only[List.size_toArray] <;> lia) ⟨.int ys.length,H,I.tok _,⟨s.toks+1,by rw[gU,hlen]⟩,q⟩
theorem TU:jo X (.type "list") (λxs H Q=>∃p ys,xs = [.ref p]/\(aE X.K H p ys\/aY X.K H p ys)/\∀l,H l=none->Q (.ref l) (upd H l (.lst ys))):=by
 intro pins s σ H xs us Q I r h;obtain⟨p,ys,rfl,hq,q⟩:=h;obtain⟨u,rfl,rx⟩:=vals1 r;cases rx;have fin:∀(its:List Value),Vals ys its->ys.length<=sizeLine->∀(h':Heap) (c':Nat),(∀b o',s.heap.get? b=some o'->h'.get? b=some o')->
   h'.get? s.heap.objs.size=some { cls:=.type "list",dict:=none,data:=.seq its.toArray c',slots := #[] }->EP X pins σ Q (.ref s.heap.objs.size) { s with heap:=h' }:=λits r' hz h' c' kp e =>
  ⟨.ref s.heap.objs.size,_,I.laid (t':=s.toks) kp (bu _) (show fM X.prog X.w _ h' _ (.lst ys) from⟨hz,its,c',r',e⟩),rfl,q _ (I.aL.fresh (bu _))⟩
 rcases hq with hq | hq
 ·obtain⟨its,r',pl,hz⟩:=I.list hq;have hlen:=r'.length;obtain⟨o,ho,hc,n,hd⟩:=pl.isList;exact call_list_seq p (.inl rfl) ho hc hd (λh' c' kp e=>fin its r' hz h' c' kp e) (by simp only[List.size_toArray] <;> lia)
 ·obtain⟨its,r',pl,hz⟩:=I.tuple hq;have hlen:=r'.length;obtain⟨o,ho,hc,n,hd⟩:=pl;exact call_list_seq p (.inr rfl) ho hc hd (λh' c' kp e=>fin its r' hz h' c' kp e) (by simp only[List.size_toArray] <;> lia)
theorem zA:jo X (.type "tuple") (λxs H Q=>∃p ys,xs = [.ref p]/\((aE X.K H p ys/\∀l,H l=none->Q (.ref l) (upd H l (.tup ys)))\/(aY X.K H p ys/\Q (.ref p) H))):=by
 intro pins s σ H xs us Q I r h;obtain⟨p,ys,rfl,h⟩:=h;obtain⟨u,rfl,rx⟩:=vals1 r;cases rx;rcases h with⟨hq,q⟩ | ⟨hq,q⟩
 ·obtain⟨its,r',pl,hz⟩:=I.list hq;have hlen:=r'.length;refine call_tuple_list pl.isList (λh' kp=>?_) (by simp only[List.size_toArray] <;> lia)
  have I1:Inv X pins σ H { s with heap:=h' }:=I.kept (t':=s.toks) kp;have I2:Inv X pins σ (upd H h'.objs.size (.tup ys)) { s with heap:=h'.push { cls:=.type "tuple",data:=.seq its.toArray }} :=
   I1.laid (t':=s.toks) (λb o e=>bW _ e) (bu _) (show fM X.prog X.w _ _ _ (.tup ys) from⟨hz,its,r',IsTup.new _ _⟩)
  exact⟨.ref h'.objs.size,_,I2,rfl,q _ (I1.aL.fresh (bu _))⟩
 ·obtain⟨its,r',pl,hz⟩:=I.tuple hq;exact call_tuple_same pl ⟨.ref p,H,I,rfl,q⟩
def CV(K:W.Frag)(T:String)(x:V)(H:Hp):Prop:=match x with
 | .str _=>T = "str"
 | .int _=>T = "int"
 | .ref p=>(T = "list"/\∃xs,aE K H p xs)\/(T = "tuple"/\∃o,K.lookup p=some o/\o.cls = .type "tuple"/\o.dict=none)\/
   (T = "dict"/\((∃kvs,H p=some (.dK kvs))\/∃kvs,H p=some (.dT kvs)))\/(T = "set"/\∃S n,H p=some (.set S n))
 | _=>False
theorem TV{pins:List (Addr×Obj)}{σ:St}{H:Hp}{s:Shared}{T:String}{x:V}{v:Value}(I:Inv X pins σ H s)(r:RelV x v)(ty:CV X.K T x H) :
  s.TypeIs v T/\∀a,v = .ref a->∃ob,s.heap.get? a=some ob/\ob.dict=none:=by
 cases x with
 | str z =>
  obtain⟨t,rfl⟩:=r;cases (show T = "str" from ty);exact⟨typeIs_str s z t,λ_ e=>nomatch e⟩
 | int i =>
  obtain⟨t,rfl⟩:=r;cases (show T = "int" from ty);exact⟨typeIs_int s i t,λ_ e=>nomatch e⟩
 | ref p =>
  cases r;rcases ty with⟨rfl,xs,hq⟩ | ⟨rfl,o,hk,hc,hd⟩ | ⟨rfl,hk⟩ | ⟨rfl,S,n,hk⟩
  ·obtain⟨its,_,pl,_⟩:=I.list hq;refine⟨pl.isList.typeIs,λa e=>?_⟩;cases e;obtain⟨o,n,e,c,hd,_⟩:=pl;exact⟨o,e,hd⟩
  ·refine⟨⟨o,I.iG p o hk,hc⟩,λa e=>?_⟩;cases e;exact⟨o,I.iG _ o hk,hd⟩
  ·have z:∃o,s.heap.get? p=some o/\o.ExactDict:=by
    rcases hk with⟨kvs,hk⟩ | ⟨kvs,hk⟩
    ·obtain⟨_,_,_,_,o,_,_,e,ex,_⟩:=I.aL p _ hk;exact⟨o,e,ex⟩
    ·obtain⟨_,_,_,_,o,_,_,e,ex,_⟩:=I.aL p _ hk;exact⟨o,e,ex⟩
   obtain⟨o,e,ex⟩:=z;refine⟨⟨o,e,ex.1⟩,λa e2=>?_⟩;cases e2;exact⟨o,e,ex.2.1⟩
  ·obtain⟨o,_,_,_,e,ex,_⟩:=I.aL p _ hk;refine⟨⟨o,e,ex.1⟩,λa e2=>?_⟩;cases e2;exact⟨o,e,ex.2.1⟩
 | _=>exact False.elim ty
def TX(K:W.Frag)(T:String)(r:V->List V->Hp->VK->Prop)(to:TE)(t:TA):TE:=λσ H Q=>to σ H λx H1=>CV K T x H1/\t σ H1 λxs H2=>r x xs H2 Q
variable{o e:Expr}{es:List Expr}{to:TE}{t:TA}{name:Str}{apos gc:Pos}{T id:String}{r:V->List V->Hp->VK->Prop}
theorem kh(pa:PlainAttrs T)(slot:Slot T name id)(hty:typeOf (.builtin id)=pure (.type "method_descriptor"))(hm:MtR X id r)(ho:PE X o to)(ha:PA X (e::es) t)
  (HD:attributeBase o name X.env (eval o X.env)=eval o X.env:=by rfl)
  (zB:((backTo gc (starEach (e::es) X.env)).all (λx => !x.1) && (backToKw gc (keywordEach [] X.env)).all (λx=>x.1.isSome)
   && decide ((e::es).length+([]:List Keyword).length+(if ([]:List Keyword).isEmpty then 0 else 1)<30))=true:=by rfl)
  (HE:(apos.endLine == gc.line)=true:=by rfl) (hs:starEach (e::es) X.env=(false,eval e X.env)::starEach es X.env:=by rfl) (hplain:(backTo gc (starEach es X.env)).any (·.1)=false:=by rfl) :
  PE X (.Call (.Attribute o name apos) (e::es) [] gc) (TX X.K T r to t):=by
 intro pins s σ H Q I h;refine wpAny_Call_method_late HD zB HE rfl (aO (ho pins s σ H _ I h) λv s1 ⟨x,H1,I1,r1,zz⟩=>?_);obtain⟨ty,q1⟩:=zz;obtain⟨h1,h2⟩:=TV I1 r1 ty;refine⟨T,id,pa,slot,hty,h1,h2,?_⟩;have hA:=ha gc pins s1 σ H1 _ I1 q1;rw[hs] at hA ⊢;refine BJ (by show (false || (backTo gc (starEach es X.env)).any (·.1))=false;rw[hplain] <;> rfl) (Gm ?_)
 exact aO hA λus s2 ⟨vs,H2,I2,r2,q2⟩=>hm pins s2 σ H2 x vs v us Q I2 r1 r2 q2
end
noncomputable def HF(X:Cx)(id:String)(r:V->List V->Hp->VK->Prop):Prop :=
 ∀(pins:List (Addr×Obj)) (s:Shared) (σ:St) (H:Hp) (x:V) (xs:List V) (v:Value) (us:List Value) (Q:VK),Inv X pins σ H s->RelV x v->Vals xs us->r x xs H Q->
  wpAny (model X.prog X.w) X.A (call (.builtin id) (v::us)) (EP X pins σ Q) X.xe s
theorem Vals.one:∀ {x:V} {us:List Value},Vals [x] us->∃u,us = [u]/\RelV x u:=by
 intro x us h;cases h with
 | cons r t=>cases t;exact⟨_,rfl,r⟩
theorem Vals.eraseIdx:∀ {xs:List V} {us:List Value} (i:Nat),Vals xs us->Vals (xs.eraseIdx i) (us.eraseIdx i)
 | _,_,_,.nil=>.nil
 | _,_,0,.cons _ t=>t
 | _,_,i+1,.cons r t=>.cons r (Vals.eraseIdx i t)
theorem Vals.rep{xs:List V}{us:List Value}(h:Vals xs us):∀k:Nat,Vals (List.replicate k xs).flatten (List.replicate k us).flatten
 | 0=>.nil
 | k+1=>by
  rw[qI,qI,vZ,vZ];exact Vals.append h (Vals.rep h k)
theorem TY{α:Type}:∀(l:List α) (i:Nat),(l.eraseIdx i).length<=l.length
 | [],_=>bu _
 | _::_,0=>oh _
 | _::r,i+1=>Nat.succ_le_succ (TY r i)
theorem foldl_rep(its:List Value):∀(k:Nat) (acc:List Value),
  List.foldl (λx1 x2=>x1++x2) acc.toArray (List.replicate k its.toArray)=(acc++(List.replicate k its).flatten).toArray
 | 0,acc=>by simp
 | k+1,acc=>by
  have e:acc.toArray++its.toArray=(acc++its).toArray:=by simp
  have e2:(acc++its)++(List.replicate k its).flatten=acc++(List.replicate (k+1) its).flatten:=by
   rw[qI,vZ,qD]
  rw[← e2,← foldl_rep its k (acc++its),← e,qI,qF]
section
variable{X:Cx}{pins:List (Addr×Obj)}{σ:St}{H:Hp}{s:Shared}{l b:Addr}{xs ys zs:List V}
theorem Inv.iK{its its':List Value}{n:Nat}{f:Array Value->Array Value}{t':Nat}(I:Inv X pins σ H s)(hH:H l=some (.lst xs))
  (e:s.heap.get? l=some { cls:=.type "list",data:=.seq its.toArray n }) (hf:f its.toArray=its'.toArray) (hv:Vals ys its') (hz:ys.length<=sizeLine) :
  Inv X pins σ (upd H l (.lst ys)) { s with heap:=s.heap.update l (Obj.mapSeq f),toks:=t' }:=by
 have q:=PySem.IsL.update e f;rw[hf] at q;refine I.write (x:=l) (e:=l) (by rw[hH];exact trivial) (.inl rfl) (λb' u hb hu=>(l9 s.heap (Obj.mapSeq f) (dR hb)).trans hu) ⟨_,q⟩ ?_
 exact⟨hz,its',_,hv,q⟩
theorem Inv.TZ{its:List Value}{t':Nat}(I:Inv X pins σ H s)(hv:Vals ys its)(hz:ys.length<=sizeLine) :
  Inv X pins σ (upd H s.heap.objs.size (.lst ys)) { s with heap:=s.heap.push { cls:=.type "list",data:=.seq its.toArray },toks:=t' } :=
 I.laid (λ_ _ q=>bW _ q) (bu _) ⟨hz,its,0,hv,e_ _ rfl⟩
theorem Inv.fresh(I:Inv X pins σ H s):H s.heap.objs.size=none:=I.aL.fresh (bu _)
theorem Inv.uT(I:Inv X pins σ H s)(hH:H l=some (.lst xs)):xs.length<=sizeLine/\∃(its:List Value) (n:Nat),Vals xs its/\xs.length=its.length/\s.heap.get? l=some { cls:=.type "list",data:=.seq its.toArray n }:=by
 obtain⟨z,its,n,r,e⟩:=I.aL l _ hH;exact⟨z,its,n,r,r.length,e⟩
theorem T3{n:Nat}(h:n<=sizeLine):Builtin.List.listTooLong n=false:=by
 unfold Builtin.List.listTooLong;exact jG ∅
end
section
variable{X:Cx}
def T4:V->List V->Hp->VK->Prop:=λx vs H Q=>∃l xs y,x = .ref l/\vs = [y]/\H l=some (.lst xs)/\xs.length<sizeLine/\Q .aR (upd H l (.lst (xs++[y])))
theorem lN:HF X "list.append" T4:=by
 intro pins s σ H x vs v us Q I rx rv h;obtain⟨l,xs,y,rfl,rfl,hH,hz,q⟩:=h;cases rx;obtain⟨u,rfl,ru⟩:=rv.one;obtain⟨z,its,n,r,hl,e⟩:=I.uT hH;refine yN F.slot_list_append ⟨_,e,rfl⟩ F.entry_list_append (F.args_list_append_2 _ _) (PySem.list_append l its.toArray n u (by rw[gU];lia)) ⟨e,?_⟩
 refine⟨.aR,_,I.iK (its':=its++[u]) hH e (by simp) (r.append (.cons ru .nil)) ?_,rfl,q⟩
 rw[fE,rZ];lia
def T6:V->List V->Hp->VK->Prop:=λx vs H Q=>∃l b xs zs,x = .ref l/\vs = [.ref b]/\H l=some (.lst xs)/\H b=some (.lst zs)/\xs.length+zs.length<=sizeLine/\Q .aR (upd H l (.lst (xs++zs)))
theorem T7:HF X "list.extend" T6:=by
 intro pins s σ H x vs v us Q I rx rv h;obtain⟨l,b,xs,zs,rfl,rfl,hH,hB,hz,q⟩:=h;cases rx;obtain⟨u,rfl,ru⟩:=rv.one;cases ru;obtain⟨z,its,n,r,hl,e⟩:=I.uT hH;obtain⟨z2,ki,n2,r2,oA,e2⟩:=I.uT hB;have hsz:its.toArray.size+ki.toArray.size<=sizeLine:=by rw[gU,gU];lia
 have HG:¬ (!its.toArray.isEmpty && Builtin.List.listTooLong (its.toArray.size+ki.toArray.size))=true:=by
  rw[T3 hsz,Bool.and_false];exact gg
 refine yN F.slot_list_extend ⟨_,e,rfl⟩ F.entry_list_extend (F.args_list_extend_2 _ _)
  (AutoSeq1.list_extend_list_list_0 l its.toArray n b ki.toArray n2 HG (by rw[gU];lia) ∅) ⟨e,e2,?_⟩
 refine⟨.aR,_,I.iK (its':=its++ki) hH e (by simp) (r.append r2) ?_,rfl,q⟩
 rw[fE];lia
def T8:R2:=λx y H Q=>∃l b xs zs,x = .ref l/\y = .ref b/\H l=some (.lst xs)/\H b=some (.lst zs)/\xs.length+zs.length<=sizeLine/\∀p,H p=none->Q (.ref p) (upd H p (.lst (xs++zs)))
theorem HJ:cZ X (binaryOp .Add) T8:=by
 intro pins s σ H x y v u Q I rx ry h;obtain⟨l,b,xs,zs,rfl,rfl,hH,hB,hz,q⟩:=h;cases rx;cases ry;obtain⟨z,its,n,r,hl,e⟩:=I.uT hH;obtain⟨z2,ki,n2,r2,oA,e2⟩:=I.uT hB;refine PySem.P.add_list e e2 ?_ (by rw[gU,gU];lia)
 have ea:its.toArray++ki.toArray=(its++ki).toArray:=by simp
 rw[ea];exact⟨.ref _,_,I.TZ (t':=s.toks) (r.append r2) (by rw[fE];lia),rfl,q _ I.fresh⟩
def T9:R2:=λx y H Q=>∃l k xs,x = .ref l/\y = .int k/\H l=some (.lst xs)/\-(2 ^ 63)<=k/\k<2 ^ 63/\xs.length*k.toNat<=sizeLine/\
 ∀p,H p=none->Q (.ref p) (upd H p (.lst (List.replicate k.toNat xs).flatten))
theorem len_rep{α:Type}(xs:List α)(k:Nat):(List.replicate k xs).flatten.length=k*xs.length:=by
 induction k with
 | zero=>simp
 | succ k ih=>rw[qI,vZ,fE,ih,Nat.succ_mul,Nat.add_comm]
theorem CW:cZ X (binaryOp .Mult) T9:=by
 intro pins s σ H x y v u Q I rx ry h;obtain⟨l,k,xs,rfl,rfl,hH,h1,h2,hz,q⟩:=h;cases rx;obtain⟨t,rfl⟩:=ry;obtain⟨z,its,n,r,hl,e⟩:=I.uT hH;have hlen:its.toArray.size*k.toNat<=sizeLine:=by rw[gU,← hl];exact hz
 have acJ:¬ its.toArray.size*k.toNat > (2 ^ 63 - 1) / 8:=by
  have:(sizeLine:Nat)<=(2 ^ 63 - 1) / 8:=by decide
  lia
 have acK:¬ (!Builtin.List.listFitsIndex k)=true:=by
  rw[fitsIndex_both h1 h2];exact gg
 have HG:¬ Builtin.List.listTooLong (its.toArray.size*k.toNat)=true:=by
  rw[T3 hlen];exact gg
 have qW:List.foldl (λx1 x2=>x1++x2) #[] (List.replicate (if its.toArray.isEmpty=true then 0 else k.toNat) its.toArray)=(List.replicate k.toNat its).flatten.toArray:=by
  have f0:∀m:Nat,List.foldl (λx1 x2=>x1++x2) #[] (List.replicate m its.toArray)=(List.replicate m its).flatten.toArray:=λm=>by
   have:=foldl_rep its m [];rw[List.nil_append] at this;exact this
  rw[f0];cases its with
  | nil=>simp
  | cons a r'=>rw[if_neg (by simp)]
 refine wpAny_binaryOp_repeat_ref (T := "list") (U := "int") ⋯ ⟨_,e,rfl⟩ (λs'=>typeIs_int s' k t) noFill_list_mul F.fills_int_mul F.slot_int_rmul repeat_list F.slot_int_index.lookup
  (yN F.slot_int_rmul (typeIs_int s k t) F.entry_int_rmul (F.args_int_rmul_2 _ _) (int___rmul___int_list k t l its.toArray n)
   ⟨e,rfl,⟨_,e,rfl⟩,yN F.slot_list_mul ⟨_,e,rfl⟩ F.entry_list_mul (F.args_list_mul_2 _ _) (AutoListH.list___mul___list_int_3 l its.toArray n k t acK acJ HG) ⟨e,?_⟩⟩)
 rw[qW];exact⟨.ref _,_,I.TZ (t':=s.toks) (r.rep k.toNat) (by rw[len_rep,Nat.mul_comm];exact hz),rfl,q _ I.fresh⟩
end
section
variable{prog:Program}{w:World}{A:Around}{E:Value->Shared->Prop}{s:Shared}
end
section
variable{X:Cx}
end
section
variable{κ:Type}[DecidableEq κ]
noncomputable def bV(kvs:List (κ×V))(k:κ):Option V:=(kvs.find? λkv=>decide (kv.1=k)).map (·.2)
noncomputable def putK(kvs:List (κ×V))(k:κ)(v:V):List (κ×V) :=
 if (kvs.any λkv=>decide (kv.1=k))=true then kvs.map (λkv=>if kv.1=k then(kv.1,v) else kv) else kvs++[(k,v)]
noncomputable def kj(kvs:List (κ×V))(k:κ):List (κ×V):=kvs.filter λkv=>decide (kv.1≠k)
theorem T_{k:κ}:bV ([]:List (κ×V)) k=none:=rfl
theorem mQ{p:κ×V}{r:List (κ×V)}{k:κ}(e:p.1=k):bV (p::r) k=some p.2:=by simp[bV,List.find?_cons,e]
theorem lO{p:κ×V}{r:List (κ×V)}{k:κ}(e:¬ p.1=k):bV (p::r) k=bV r k:=by simp[bV,List.find?_cons,e]
theorem zC(k:κ):∀kvs:List (κ×V),(kvs.any λkv=>decide (kv.1=k))=(bV kvs k).isSome
 | []=>rfl
 | p::r=>by
  rw[uq];by_cases e:p.1=k
  ·simp only[mQ e,decide_eq_true e,Bool.true_or,Option.isSome_some]
  ·rw[lO e,jG e,Bool.false_or];exact zC k r
theorem Ua(k j:κ)(y:V):∀kvs:List (κ×V),bV (kvs.map λkv=>if kv.1=k then(kv.1,y) else kv) j=(bV kvs j).map λx=>if j=k then y else x
 | []=>rfl
 | p::r=>by
  have ih:=Ua k j y r;rw[c9];by_cases h:p.1=k
  ·rw[if_pos h];by_cases e:p.1=j
   ·rw[mQ (p:=(p.1,y)) e,mQ e,B7,if_pos (e.symm.trans h)]
   ·rw[lO (p:=(p.1,y)) e,lO e,ih]
  ·rw[if_neg h];by_cases e:p.1=j
   ·rw[mQ (p:=p) e,mQ e,B7,if_neg (λz=>h (e.trans z))]
   ·rw[lO (p:=p) e,lO e,ih]
theorem Ub(k j:κ)(y:V):∀kvs:List (κ×V),bV kvs k=none->bV (kvs++[(k,y)]) j=if j=k then some y else bV kvs j
 | [],_=>by
  by_cases e:k=j
  ·rw[if_pos e.symm];exact mQ (p:=(k,y)) e
  ·rw[if_neg (λz=>e z.symm)];exact lO (p:=(k,y)) e
 | p::r,hn=>by
  rw[ur];have hk:¬ p.1=k:=λz=>by rw[mQ z] at hn;cases hn
  rw[lO hk] at hn;have ih:=Ub k j y r hn;by_cases e:p.1=j
  ·rw[mQ e,mQ e,if_neg (λz=>hk (e.trans z))]
  ·rw[lO e,lO e,ih]
theorem CY(kvs:List (κ×V))(k j:κ)(y:V):bV (putK kvs k y) j=if j=k then some y else bV kvs j:=by
 unfold putK;by_cases a:(kvs.any λkv=>decide (kv.1=k))=true
 ·rw[if_pos a,Ua];rw[zC] at a;by_cases e:j=k
  ·obtain⟨x,hx⟩:=wc.mp a;rw[if_pos e,e,hx,B7,if_pos rfl]
  ·rw[if_neg e];cases bV kvs j with
   | none=>rfl
   | some x=>rw[B7,if_neg e]
 ·rw[if_neg a];refine Ub k j y kvs ?_;rw[zC] at a;cases q:bV kvs k with
  | none=>rfl
  | some x=>rw[q] at a;exact(a rfl).elim
theorem CZ(kvs:List (κ×V))(k:κ)(v:V):(putK kvs k v).length<=kvs.length+1:=by
 unfold putK;split
 ·rw[aK];lia
 ·rw[fE,gA,List.length_nil];lia
theorem HK{kvs:List (κ×V)}{k:κ}(v:V)(h:bV kvs k=none):putK kvs k v=kvs++[(k,v)]:=by
 unfold putK;rw[zC,h];exact if_neg ⋯
theorem iE.zD{o:Option V}{u:Option Value}(r:iE o u):o.isSome=u.isSome:=by
 cases o with
 | none=>cases u with
  | none=>rfl
  | some _=>exact(show False from r).elim
 | some _=>cases u with
  | none=>exact(show False from r).elim
  | some _=>rfl
theorem iE.getD{o:Option V}{u:Option Value}{d:V}{d':Value}(r:iE o u)(rd:RelV d d'):RelV (o.getD d) (u.getD d'):=by
 cases o with
 | none=>cases u with
  | none=>exact rd
  | some _=>exact(show False from r).elim
 | some _=>cases u with
  | none=>exact(show False from r).elim
  | some _=>exact r
theorem KV.val{kvs:List (κ×V)}{vs:List (κ×Value)}(r:KV kvs vs)(k:κ):iE (bV kvs k) (valueAt vs k):=by
 unfold KV at r
 induction r with
 | nil=>exact True.intro
 | @cons p q ps qs h t ih =>
  obtain⟨h1,h2⟩:=h;by_cases e:p.1=k
  ·have e':q.1=k:=h1.symm.trans e;have b:valueAt (q::qs) k=some q.2:=by simp[valueAt,List.find?_cons,e']
   rw[mQ e,b];exact h2
  ·have e':¬ q.1=k:=λz=>e (h1.trans z);have b:valueAt (q::qs) k=valueAt qs k:=by simp[valueAt,List.find?_cons,e']
   rw[lO e,b];exact ih
theorem KV.any{kvs:List (κ×V)}{vs:List (κ×Value)}(r:KV kvs vs)(k:κ):(kvs.any λkv=>decide (kv.1=k))=vs.any λkv=>decide (kv.1=k):=by
 unfold KV at r
 induction r with
 | nil=>rfl
 | cons h t ih=>rw[uq,uq,ih,h.1]
theorem KV.HL{kvs:List (κ×V)}{vs:List (κ×Value)}(r:KV kvs vs)(k:κ){y:V}{u:Value}(ry:RelV y u) :
  KV (kvs.map λkv=>if kv.1=k then(kv.1,y) else kv) (vs.map λkv=>if kv.1=k then(kv.1,u) else kv):=by
 unfold KV at r ⊢
 induction r with
 | nil=>exact .nil
 | @cons p q ps qs h t ih =>
  rw[c9,c9];refine .cons ?_ ih;obtain⟨h1,h2⟩:=h;by_cases e:p.1=k
  ·rw[if_pos e,if_pos (h1.symm.trans e)];exact⟨h1,ry⟩
  ·rw[if_neg e,if_neg (λz=>e (h1.trans z))];exact⟨h1,h2⟩
theorem KV.put{kvs:List (κ×V)}{vs:List (κ×Value)}(r:KV kvs vs)(k:κ){y:V}{u:Value}(ry:RelV y u):KV (putK kvs k y) (stored vs k u):=by
 unfold putK stored;rw[r.any k];by_cases e:(vs.any λkv=>decide (kv.1=k))=true
 ·rw[if_pos e,if_pos e];exact r.HL k ry
 ·rw[if_neg e,if_neg e];exact Paired.snoc r ⟨rfl,ry⟩
theorem KV.drop{kvs:List (κ×V)}{vs:List (κ×Value)}(r:KV kvs vs)(k:κ):KV (kj kvs k) (without vs k):=by
 unfold KV at r ⊢;unfold kj without
 induction r with
 | nil=>exact .nil
 | @cons p q ps qs h t ih =>
  obtain⟨h1,h2⟩:=h;rw[lE,lE];by_cases e:p.1=k
  ·have a:¬ decide (p.1≠k)=true:=by simp[e]
   have b:¬ decide (q.1≠k)=true:=by simp[h1.symm.trans e]
   rw[if_neg a,if_neg b];exact ih
  ·have e':¬ q.1=k:=λz=>e (h1.trans z);have a:decide (p.1≠k)=true:=by simp[e]
   have b:decide (q.1≠k)=true:=by simp[e']
   rw[if_pos a,if_pos b];exact .cons ⟨h1,h2⟩ ih
theorem KV.length{kvs:List (κ×V)}{vs:List (κ×Value)}(r:KV kvs vs):kvs.length=vs.length:=B8 r
theorem acL(kvs:List (κ×V))(k:κ):(kj kvs k).length<=kvs.length:=pI _ _
end
theorem uU{P:Program}{w:World}{k:Key}{u:Value}(r:RelV (kV k) u):(c_ P w).is k u=true:=by
 cases k with
 | inl i=>obtain⟨t,e⟩:=(show ∃t,u=Value.int i t from r);subst e;exact RP P w i t
 | inr x=>obtain⟨t,e⟩:=(show ∃t,u=Value.str x t from r);subst e;exact abH P w x t
theorem Uc{P:Program}{w:World}:∀ {ks:List Key} {us:List Value},Vals (ks.map kV) us->ItemsAre (c_ P w) ks us
 | [],_,r=>by rw[List.map_nil] at r;cases r;exact .nil
 | k::ks,_,r=>by
  rw[c9] at r;cases r with
  | cons h t=>exact .cons (uU h) (Uc t)
noncomputable abbrev KT(H:Hp):List (List Key×V)->List (List Key×Addr×Value)->Prop:=Paired λp q=>p.1=q.1/\H q.2.1=some (.tup (p.1.map kV))/\RelV p.2 q.2.2
theorem KT.val{H:Hp}{kvs:List (List Key×V)}{xs:List (List Key×Addr×Value)}(r:KT H kvs xs)(k:List Key):iE (bV kvs k) ((atKey xs k).map (·.2)):=by
 induction r with
 | nil=>exact True.intro
 | @cons p q ps qs h t ih =>
  obtain⟨h1,_,h2⟩:=h;by_cases e:p.1=k
  ·have e':q.1=k:=h1.symm.trans e;have b:atKey (q::qs) k=some q.2:=by simp[atKey,List.find?_cons,e']
   rw[mQ e,b];exact h2
  ·have e':¬ q.1=k:=λz=>e (h1.trans z);have b:atKey (q::qs) k=atKey qs k:=by simp[atKey,List.find?_cons,e']
   rw[lO e,b];exact ih
theorem KT.HL{H:Hp}{kvs:List (List Key×V)}{xs:List (List Key×Addr×Value)}(r:KT H kvs xs)(k:List Key){y:V}{u:Value}(ry:RelV y u) :
  KT H (kvs.map λkv=>if kv.1=k then(kv.1,y) else kv) (xs.map (putAt k u)):=by
 induction r with
 | nil=>exact .nil
 | @cons p q ps qs h t ih =>
  rw[c9,c9];refine .cons ?_ ih;obtain⟨h1,h2,h3⟩:=h;unfold putAt;by_cases e:p.1=k
  ·rw[if_pos e,if_pos (h1.symm.trans e)];exact⟨h1,h2,ry⟩
  ·rw[if_neg e,if_neg (λz=>e (h1.trans z))];exact⟨h1,h2,h3⟩
theorem KT.put{H:Hp}{kvs:List (List Key×V)}{xs:List (List Key×Addr×Value)}(r:KT H kvs xs)(k:List Key){b:Addr}{y:V}{u:Value}(hb:H b=some (.tup (k.map kV)))(ry:RelV y u) :
  KT H (putK kvs k y) (storedH xs k b u):=by
 have e:(kvs.any λkv=>decide (kv.1=k))=(atKey xs k).isSome:=by
  rw[zC,(r.val k).zD,yJ]
 unfold putK storedH;rw[e];by_cases q:(atKey xs k).isSome=true
 ·rw[if_pos q,if_pos q];exact r.HL k ry
 ·rw[if_neg q,if_neg q];exact Paired.snoc r ⟨rfl,hb,ry⟩
theorem KT.keeps{H H':Hp}{kvs:List (List Key×V)}{xs:List (List Key×Addr×Value)}(r:KT H kvs xs)(ht:∀b ys,H b=some (.tup ys)->H' b=some (.tup ys)):KT H' kvs xs :=
 Paired.RQ r λ_ _ z=>⟨z.1,ht _ _ z.2.1,z.2.2⟩
section
variable{P:Program}{w:World}{H:Hp}{h:Heap}{a:Addr}
theorem Ud{u:HO}(ok:eK P w H h)(e:Rd H a u):fM P w H h a u:=e.ok ok
theorem uW{kvs:List (Key×V)}(ok:eK P w H h)(e:Rd H a (.dK kvs)):kvs.length<=sizeLine/\(a == sysModules)=false/\∃vs,KV kvs vs/\h.DictOf (c_ P w) a vs :=
 show fM P w H h a (.dK kvs) from Ud ok e
theorem C0{kvs:List (Key×V)}(ok:eK P w H h)(e:H a=some (.dK kvs)):kvs.length<=sizeLine/\(a == sysModules)=false/\∃vs,KV kvs vs/\h.DictOf (c_ P w) a vs:=uW ok (.inl e)
theorem wR{ks:List Key}(ok:eK P w H h)(e:H a=some (.tup (ks.map kV))):(tupleKind (c_ P w)).is h ks a:=by
 obtain⟨_,its,r,o,h1,h2,n,h3⟩:=(show fM P w H h a (.tup (ks.map kV)) from ok a _ e);exact⟨o,its.toArray,n,h1,h2,h3,by simpa using Uc r⟩
theorem uX{kvs:List (List Key×V)}(ok:eK P w H h)(e:Rd H a (.dT kvs)):kvs.length<=sizeLine/\(a == sysModules)=false/\
  ∃xs,KT H kvs xs/\h.DictOfH (tupleKind (c_ P w)) a xs:=by
 obtain⟨z,y,xs,r,o,es,ep,h1,h2,h3,h4,h5⟩:=(show fM P w H h a (.dT kvs) from Ud ok e);refine⟨z,y,xs,r,o,es,ep,h1,h2,h3,h4,λx hx=>?_,h5⟩;have all:∀ {l:List (List Key×V)} {m:List (List Key×Addr×Value)},KT H l m->∀x∈m,(tupleKind (c_ P w)).is h x.1 x.2.1:=by
  intro l m q
  induction q with
  | nil=>intro x hx;exact nomatch hx
  | @cons p q ps qs hq t ih =>
   intro x hx;rcases cg.mp hx with e | hx
   ·subst e;exact wR ok (by rw[← hq.1];exact hq.2.1)
   ·exact ih x hx
 exact all r x hx
theorem Ue{kvs:List (List Key×V)}(ok:eK P w H h)(e:H a=some (.dT kvs)):kvs.length<=sizeLine/\(a == sysModules)=false/\
  ∃xs,KT H kvs xs/\h.DictOfH (tupleKind (c_ P w)) a xs:=uX ok (.inl e)
end
noncomputable def fO(H:Hp)(a:Addr)(y:V)(r:Option V):Prop :=
 (∃kvs k,Rd H a (.dK kvs)/\y=kV k/\r=bV kvs k)\/∃kvs k b,Rd H a (.dT kvs)/\y = .ref b/\H b=some (.tup (k.map kV))/\r=bV kvs k
noncomputable def kP(H:Hp)(a:Addr)(y v:V)(H':Hp):Prop :=
 (∃kvs k,H a=some (.dK kvs)/\y=kV k/\kvs.length<sizeLine/\H' = upd H a (.dK (putK kvs k v)))\/
 ∃kvs k b,H a=some (.dT kvs)/\y = .ref b/\H b=some (.tup (k.map kV))/\kvs.length<sizeLine/\H' = upd H a (.dT (putK kvs k v))
theorem fO.k{H:Hp}{a:Addr}{kvs:List (Key×V)}{k:Key}(e:H a=some (.dK kvs)):fO H a (kV k) (bV kvs k):=.inl ⟨kvs,k,.inl e,rfl,rfl⟩
theorem fO.t{H:Hp}{a b:Addr}{kvs:List (List Key×V)}{k:List Key}(e:H a=some (.dT kvs))(eb:H b=some (.tup (k.map kV))):fO H a (.ref b) (bV kvs k):=.inr ⟨kvs,k,b,.inl e,rfl,eb,rfl⟩
theorem kP.k{H:Hp}{a:Addr}{kvs:List (Key×V)}{k:Key}{v:V}(e:H a=some (.dK kvs))(hl:kvs.length<sizeLine):kP H a (kV k) v (upd H a (.dK (putK kvs k v))):=.inl ⟨kvs,k,e,rfl,hl,rfl⟩
theorem kP.t{H:Hp}{a b:Addr}{kvs:List (List Key×V)}{k:List Key}{v:V}(e:H a=some (.dT kvs))(eb:H b=some (.tup (k.map kV)))(hl:kvs.length<sizeLine) :
  kP H a (.ref b) v (upd H a (.dT (putK kvs k v))):=.inr ⟨kvs,k,b,e,rfl,eb,hl,rfl⟩
section
variable{X:Cx}{pins:List (Addr×Obj)}{σ:St}{H:Hp}{s:Shared}{a:Addr}{y v:V}{u r:Value}{o:Option V}{A:Around}{E:Value->Shared->Prop}
theorem Inv.big(I:Inv X pins σ H s):sysModules<s.heap.objs.size:=by
 have h:mainGlobals<s.heap.objs.size:=(I.mod.glob.keeps I.bk).lt;exact iX ⋯ h
theorem acM{Q:Value->Shared->Prop}(hu:A.units+1<cLine)(I:Inv X pins σ H s)(g:fO H a y (some v))(ry:RelV y u)(h:∀w' s',Inv X pins σ H s'->RelV v w'->Q w' s') :
  wpAny (model X.prog X.w) A (getItem (.ref a) u) Q E s:=by
 rcases g with⟨kvs,k,e,ey,l⟩ | ⟨kvs,k,b,e,ey,eb,l⟩
 ·subst ey;obtain⟨z,hd,vs,rel,dd⟩:=uW I.aL e;obtain⟨w',hw,j_⟩:=iE.some_of (v:=v) (o:=valueAt vs k) (by rw[l];exact rel.val k)
  exact wpAny_getItem_of (uU ry) dd.mapOf hw (h w' _ (I.tok _) j_)
 ·subst ey;cases (show u=Value.ref b from ry);obtain⟨z,hd,xs,rel,dd⟩:=uX I.aL e;obtain⟨w',hw,j_⟩:=iE.some_of (v:=v) (o:=(atKey xs k).map (·.2)) (by rw[l];exact rel.val k)
  obtain⟨p,hp,qX⟩:=Option.map_eq_some_iff.mp hw;refine wpAny_getItem_heap (yP hu) (wR I.aL eb) dd hp ?_;rw[qX];exact h w' _ (I.tok _) j_
theorem acN{Q:Value->Shared->Prop}(hu:A.units+1<cLine)(I:Inv X pins σ H s)(g:fO H a y o)(ry:RelV y u)(h:∀s',Inv X pins σ H s'->Q (.bool o.isSome) s') :
  wpAny (model X.prog X.w) A (compareOp .In u (.ref a)) Q E s:=by
 rcases g with⟨kvs,k,e,ey,l⟩ | ⟨kvs,k,b,e,ey,eb,l⟩
 ·subst ey;obtain⟨z,hd,vs,rel,dd⟩:=uW I.aL e;refine wpAny_in_of (uU ry) hd dd.mapOf ?_;rw[← (rel.val k).zD,← l];exact h _ (I.tok _)
 ·subst ey;cases (show u=Value.ref b from ry);obtain⟨z,hd,xs,rel,dd⟩:=uX I.aL e;refine wpAny_in_heap (yP hu) (wR I.aL eb) hd dd ?_;have q:=(rel.val k).zD;rw[yJ] at q;rw[← q,← l];exact h _ (I.tok _)
theorem acO{Q:Value->Shared->Prop}(hu:A.units+1<cLine)(I:Inv X pins σ H s)(g:fO H a y o)(ry:RelV y u)(h:∀s',Inv X pins σ H s'->Q (.bool (!o.isSome)) s') :
  wpAny (model X.prog X.w) A (compareOp .NotIn u (.ref a)) Q E s:=by
 rcases g with⟨kvs,k,e,ey,l⟩ | ⟨kvs,k,b,e,ey,eb,l⟩
 ·subst ey;obtain⟨z,hd,vs,rel,dd⟩:=uW I.aL e;refine wpAny_notIn_of (uU ry) hd dd.mapOf ?_;rw[← (rel.val k).zD,← l];exact h _ (I.tok _)
 ·subst ey;cases (show u=Value.ref b from ry);obtain⟨z,hd,xs,rel,dd⟩:=uX I.aL e;refine wpAny_notIn_heap (yP hu) (wR I.aL eb) hd dd ?_;have q:=(rel.val k).zD;rw[yJ] at q;rw[← q,← l];exact h _ (I.tok _)
theorem HM{h':Heap}{t':Nat}{ob:HO}(I:Inv X pins σ H s)(mu:yS (H a))(hs:Heap.SameBut a s.heap h')(he:∃q,h'.get? a=some q)(new:fM X.prog X.w (upd H a ob) h' a ob) :
  Inv X pins σ (upd H a ob) { s with heap:=h',toks:=t' } :=
 I.write (x:=a) (e:=a) mu (.inl rfl) (λb q hb z=>(hs.2 b hb).trans z) he new
theorem Ug{P:Program}{w:World}{H':Hp}{h':Heap}{kvs:List (Key×V)}{vs:List (Key×Value)}(z:kvs.length<=sizeLine)(hd:(a == sysModules)=false)(rel:KV kvs vs)(dd:h'.DictOf (c_ P w) a vs) :
  fM P w H' h' a (.dK kvs):=⟨z,hd,vs,rel,dd⟩
theorem acP{H':Hp}{Q:Unit->Shared->Prop}(hu:A.units+1<cLine)(I:Inv X pins σ H s)(g:kP H a y v H')(ry:RelV y u)(rv:RelV v r)(h:∀s',Inv X pins σ H' s'->Q () s') :
  wpAny (model X.prog X.w) A (setItem (.ref a) u r) Q E s:=by
 rcases g with⟨kvs,k,e,ey,l,eH⟩ | ⟨kvs,k,b,e,ey,eb,l,eH⟩
 ·subst ey eH;obtain⟨z,hd,vs,rel,dd⟩:=C0 I.aL e;have hz:vs.length<=sizeLine:=by rw[← rel.length];exact z
  have hl:(putK kvs k v).length<=sizeLine:=by have:=CZ kvs k v;lia
  refine wpAny_setItem_pairs (hsz:=hz) (uU ry) dd λh' qY hs=>h _ ?_;have he:∃q,h'.get? a=some q:=let ⟨q,_,_,hq,_⟩:=qY;⟨q,hq⟩
  exact HM I (by rw[e];exact True.intro) hs he (Ug hl hd (rel.put k rv) qY)
 ·subst ey eH;cases (show u=Value.ref b from ry);obtain⟨z,hd,xs,rel,dd⟩:=Ue I.aL e;have hz:xs.length<=sizeLine:=by rw[← B8 rel];exact z
  have hl:(putK kvs k v).length<=sizeLine:=by have:=CZ kvs k v;lia
  refine wpAny_setItem_heap (hsz:=hz) (yP hu) (wR I.aL eb) dd λh' qY hs=>h _ ?_;obtain⟨q,es,ep,hq,h2,h3,h4,_,h5⟩:=qY;refine HM I (by rw[e];exact True.intro) hs ⟨q,hq⟩ ⟨hl,hd,_,(rel.put k eb rv).keeps λc ys ec=>?_,q,es,ep,hq,h2,h3,h4,h5⟩
  rw[aB (jH ec e (λz=>nomatch z))];exact ec
end
section
variable{X:Cx}{pins:List (Addr×Obj)}{σ:St}{H:Hp}{s:Shared}{a:Addr}{kvs:List (Key×V)}{k:Key}{u:Value}{A:Around}{E:Value->Shared->Prop}
theorem acQ{v:V}{more:List Value}{Q:Value->Shared->Prop}(I:Inv X pins σ H s)(e:H a=some (.dK kvs))(ry:RelV (kV k) u)(l:bV kvs k=some v)(hm:more = []\/∃x,more = [x])
  (h:∀w' s',Inv X pins σ (upd H a (.dK (kj kvs k))) s'->RelV v w'->Q w' s'):wpAny (model X.prog X.w) A (call (.builtin "dict.pop") (.ref a::u::more)) Q E s:=by
 obtain⟨z,hd,vs,rel,dd⟩:=C0 I.aL e;obtain⟨w',hw,j_⟩:=iE.some_of (v:=v) (o:=valueAt vs k) (by rw[← l];exact rel.val k)
 have hp:(keyPart u).isSome=true:=by
  cases k with
  | inl i=>obtain⟨t,q⟩:=(show ∃t,u=Value.int i t from ry);subst q;rfl
  | inr x=>obtain⟨t,q⟩:=(show ∃t,u=Value.str x t from ry);subst q;rfl
 have ha:argsOk "dict.pop" ⟨.ref a::u::more,[]⟩:=by
  rcases hm with q | ⟨x,q⟩
  ·subst q;exact PySem.F.args_dict_pop_2 _ _
  ·subst q;exact PySem.F.args_dict_pop_3 _ _ _
 refine B_ PySem.F.slot_dict_pop dd.typeIs PySem.F.entry_dict_pop ha (meets_dict_pop_there (c_ X.prog X.w) a (uU ry) more hm hp)
  ⟨vs,w',dd,by rw[← rel.length];exact z,hw,λh' qY hs=>h w' _ ?_ j_⟩
 have he:∃q,h'.get? a=some q:=let ⟨q,_,_,hq,_⟩:=qY;⟨q,hq⟩
 exact HM I (by rw[e];exact True.intro) hs he (Ug (dQ (acL kvs k) z) hd (rel.drop k) qY)
end
def Uh(i:Expr):Prop:=∀ov iv,subscripted i false ov iv=operate [ov,iv] (getItem ov iv)
theorem acR{prog:Program}{w:World}{A:Around}{E:Value->Shared->Prop}{s:Shared}{env:Env}{value slice:Expr}{pos:Pos}{T id:String}{Q:Value->Shared->Prop}
  (hl:typeLookup (.type T) "__getitem__" = pure (some (.builtin id))) (hs:Uh slice)
  (h:wpAny (model prog w) A (eval value env) (λo aW=>wpAny (model prog w) A (eval slice env) (λi jI=>jI.TypeIs o T/\wpAny (model prog w) A (getItem o i) Q E jI) E aW) E s) :
  wpAny (model prog w) A (eval (.Subscript value slice pos) env) Q E s:=by
 refine Subscript_ (jh h (λo aW pZ=>jh pZ (λi jI zE=>?_) λ_ _ x=>x) λ_ _ x=>x);obtain⟨hT,zE⟩:=zE;unfold subscriptTail;refine aF ?_;rw[getitemInPython_of_ne hT.not_modules];refine aF (Cd hT hl ?_);have fin:wpAny (model prog w) A (subscripted slice false o i) (λr mR=>wpAny (model prog w) A (letTemporaryGo value o r >>= λ_=>pure r) Q E mR) E jI:=by
  rw[hs o i];exact wpAny_operating (jh zE (λr mR C1=>aF (wpAny_letTemporaryGo (aV C1))) λ_ _ x=>x)
 first
  | exact aV (aF fin)
  | exact aF (aV (aF fin))
  | exact aF fin
theorem acS{X:Cx}{pins:List (Addr×Obj)}{σ:St}{H:Hp}{s:Shared}{a:Addr}{y:V}{o:Option V}(I:Inv X pins σ H s)(g:fO H a y o):s.TypeIs (.ref a) "dict" := by
 rcases g with⟨kvs,k,e,_,_⟩ | ⟨kvs,k,b,e,_,_,_⟩
 ·obtain⟨_,_,vs,_,dd⟩:=uW I.aL e;exact dd.typeIs
 ·obtain⟨_,_,xs,_,dd⟩:=uX I.aL e;exact dd.typeIs
def Ui(td ty:TE):TE:=λσ H Q=>td σ H λx H1=>ty σ H1 λy H2=>∃a v,x = .ref a/\fO H2 a y (some v)/\Q v H2
def Uj(ty td:TE):TE:=λσ H Q=>ty σ H λy H1=>td σ H1 λx H2=>∃a o,x = .ref a/\fO H2 a y o/\Q (.bl o.isSome) H2
def Uk(ty td:TE):TE:=λσ H Q=>ty σ H λy H1=>td σ H1 λx H2=>∃a o,x = .ref a/\fO H2 a y o/\Q (.bl (!o.isSome)) H2
def Ul(td ty tv:TE):TS:=λD σ H=>tv σ H λv H1=>td σ H1 λx H2=>ty σ H2 λy H3=>∃a H4,x = .ref a/\kP H3 a y v H4/\D.nx σ H4
section
variable{X:Cx}{o i e value:Expr}{pos pos' ab9:Pos}{td ty tv:TE}
theorem HN(hu:X.A.units+1<cLine)(ho:PE X o td)(hi:PE X i ty)(hs:Uh i):PE X (.Subscript o i pos) (Ui td ty):=by
 intro pins s σ H Q I h;refine acR PySem.F.slot_dict_getitem.lookup hs (aO (ho pins s σ H _ I h) λu s1 ⟨x,H1,I1,rx,q1⟩=>aO (hi pins s1 σ H1 _ I1 q1) λiv s2 ⟨y,H2,I2,ry,zz⟩=>?_);obtain⟨a,v,ex,g,q2⟩:=zz;subst ex;obtain rfl:u=Value.ref a:=rx;exact⟨acS I2 g,acM hu I2 g ry λw' s3 I3 j_=>⟨v,H2,I3,j_,q2⟩⟩
theorem C2(hu:X.A.units+1<cLine)(hi:PE X i ty)(ho:PE X o td):PC X .In i o (Uj ty td):=by
 intro pins s σ H Q I h;refine aO (hi pins s σ H _ I h) λiv s1 ⟨y,H1,I1,ry,q1⟩=>aO (ho pins s1 σ H1 _ I1 q1) λu s2 ⟨x,H2,I2,rx,zz⟩=>?_;obtain⟨a,ov,ex,g,q2⟩:=zz;subst ex;obtain rfl:u=Value.ref a:=rx;exact acN hu I2 g ry λs3 I3=>⟨.bl ov.isSome,H2,I3,rfl,q2⟩
theorem HP(hu:X.A.units+1<cLine)(hi:PE X i ty)(ho:PE X o td):PC X .NotIn i o (Uk ty td):=by
 intro pins s σ H Q I h;refine aO (hi pins s σ H _ I h) λiv s1 ⟨y,H1,I1,ry,q1⟩=>aO (ho pins s1 σ H1 _ I1 q1) λu s2 ⟨x,H2,I2,rx,zz⟩=>?_;obtain⟨a,ov,ex,g,q2⟩:=zz;subst ex;obtain rfl:u=Value.ref a:=rx;exact acO hu I2 g ry λs3 I3=>⟨.bl (!ov.isSome),H2,I3,rfl,q2⟩
theorem uY(hu:X.A.units+1<cLine)(ho:PE X o td)(hi:PE X i ty)(hv:PE X value tv)(hs:swapsWith value (some (.Subscript o i pos')) pos.line X.env=pure false) :
  PS X (.Assign [.Subscript o i pos'] value pos) (Ul td ty tv):=by
 intro pins s σ H D I h;refine wpAny_Assign_Subscript (aO (hv pins s σ H _ I h) λr s1 ⟨v,H1,I1,rv,q1⟩=>aO (ho pins s1 σ H1 _ I1 q1) λu s2 ⟨x,H2,I2,rx,q2⟩=>aO (hi pins s2 σ H2 _ I2 q2) λiv s3 ⟨y,H3,I3,ry,zz⟩=>?_) hs;obtain⟨a,H4,ex,g,q3⟩:=zz;subst ex;obtain rfl:u=Value.ref a:=rx;exact acP hu I3 g ry rv λs4 I4=>⟨σ,H4,I4,q3⟩
end
theorem acT{P:Program}{w:World}{H:Hp}(h:Heap)(hb:sysModules<h.objs.size):fM P w H (h.push { cls:=.type "dict",data:=.dict #[] }) h.objs.size (.dK []) :=
 ⟨eX _,lF.mpr (dR (b9 hb)),[],.nil,Heap.DictOf.new h⟩
theorem acU{P:Program}{w:World}{H:Hp}(h:Heap)(hb:sysModules<h.objs.size):fM P w H (h.push { cls:=.type "dict",data:=.dict #[] }) h.objs.size (.dT []) :=
 ⟨eX _,lF.mpr (dR (b9 hb)),[],.nil,_,#[],0,e_ _ rfl,⟨rfl,rfl,rfl⟩,rfl,rfl,BZ⟩
def Um:TE:=λ_ H Q=>∀p,H p=none->Q (.ref p) (upd H p (.dK []))
def Uo:TE:=λ_ H Q=>∀p,H p=none->Q (.ref p) (upd H p (.dT []))
section
variable{X:Cx}{pos:Pos}
theorem zF:PE X (.Dict [] [] pos) Um:=λpins s σ H Q I h =>
 wpAny_Dict_empty ⟨.ref s.heap.objs.size,_,I.laid (a:=s.heap.objs.size) (o:=.dK []) (t':=s.toks) (λ_ _ q=>bW _ q) (bu _) (acT s.heap I.big),rfl,h _ (I.aL.fresh (bu _))⟩
theorem Up:PE X (.Dict [] [] pos) Uo:=λpins s σ H Q I h =>
 wpAny_Dict_empty ⟨.ref s.heap.objs.size,_,I.laid (a:=s.heap.objs.size) (o:=.dT []) (t':=s.toks) (λ_ _ q=>bW _ q) (bu _) (acU s.heap I.big),rfl,h _ (I.aL.fresh (bu _))⟩
end
structure M1(X:Cx)(o:Expr)(m:Str)(apos:Pos)(e:Expr)(gc:Pos):Prop where
 base:attributeBase o m X.env (eval o X.env)=eval o X.env
 zG:((backTo gc (starEach [e] X.env)).all (λx => !x.1) && (backToKw gc (keywordEach [] X.env)).all (λx=>x.1.isSome)
  && decide (([e]:List Expr).length+([]:List Keyword).length+(if ([]:List Keyword).isEmpty then 0 else 1)<30))=true
 line:(apos.endLine == gc.line)=true
 trees:backTo gc (starEach [e] X.env) = [(false,eval e X.env)]
structure M2(X:Cx)(o:Expr)(m:Str)(apos:Pos)(e f:Expr)(gc:Pos):Prop where
 base:attributeBase o m X.env (eval o X.env)=eval o X.env
 zG:((backTo gc (starEach [e,f] X.env)).all (λx => !x.1) && (backToKw gc (keywordEach [] X.env)).all (λx=>x.1.isSome)
  && decide (([e,f]:List Expr).length+([]:List Keyword).length+(if ([]:List Keyword).isEmpty then 0 else 1)<30))=true
 line:(apos.endLine == gc.line)=true
 trees:backTo gc (starEach [e,f] X.env) = [(false,eval e X.env),(false,eval f X.env)]
def C3(H:Hp)(a:Addr):Prop:=(∃kvs,Rd H a (.dK kvs))\/∃kvs,Rd H a (.dT kvs)
theorem Uq{X:Cx}{pins:List (Addr×Obj)}{σ:St}{H:Hp}{s:Shared}{a:Addr}(I:Inv X pins σ H s)(d:C3 H a) :
  s.TypeIs (.ref a) "dict"/\(∀b,Value.ref a = .ref b->∃ob,s.heap.get? b=some ob/\ob.dict=none)/\(a == sysModules)=false:=by
 rcases d with⟨kvs,e⟩ | ⟨kvs,e⟩
 ·obtain⟨_,hd,vs,_,dd⟩:=uW I.aL e;refine⟨dd.typeIs,λb q=>?_,hd⟩;cases q;obtain⟨ob,_,_,h1,h2,_⟩:=dd;exact⟨ob,h1,h2.2.1⟩
 ·obtain⟨_,hd,xs,_,dd⟩:=uX I.aL e;refine⟨dd.typeIs,λb q=>?_,hd⟩;cases q;obtain⟨ob,_,_,h1,h2,_⟩:=dd;exact⟨ob,h1,h2.2.1⟩
section
variable{X:Cx}{pins:List (Addr×Obj)}{σ:St}{H:Hp}{s:Shared}{a:Addr}{y d:V}{u r:Value}{o:Option V}{A:Around}{E:Value->Shared->Prop}
theorem acV{Q:Value->Shared->Prop}(hu:A.units+1<cLine)(I:Inv X pins σ H s)(g:fO H a y o)(ry:RelV y u)(rd:RelV d r)(h:∀w' s',Inv X pins σ H s'->RelV (o.getD d) w'->Q w' s') :
  wpAny (model X.prog X.w) A (call (.builtin "dict.get") [.ref a,u,r]) Q E s:=by
 rcases g with⟨kvs,k,e,ey,l⟩ | ⟨kvs,k,b,e,ey,eb,l⟩
 ·subst ey;obtain⟨z,hd,vs,rel,dd⟩:=uW I.aL e;refine B_ GK dd.typeIs PySem.F.entry_dict_get (PySem.F.args_dict_get_3 _ _ _) (meets_dict_get_default (c_ X.prog X.w) a (uU ry) hd r) ⟨_,dd.mapOf,h _ _ (I.tok _) ?_⟩;rw[l];exact(rel.val k).getD rd
 ·subst ey;cases (show u=Value.ref b from ry);obtain⟨z,hd,xs,rel,dd⟩:=uX I.aL e;refine B_ GK dd.typeIs PySem.F.entry_dict_get (PySem.F.args_dict_get_3 _ _ _) (meetsH_dict_get_default (tupleKind (c_ X.prog X.w)) a b hd r) ⟨yP hu,k,xs,wR I.aL eb,dd,h _ _ (I.tok _) ?_⟩;rw[l];exact(rel.val k).getD rd
end
def HQ(td ty tx:TE):TE:=λσ H Q=>td σ H λx H1=>∃a,x = .ref a/\C3 H1 a/\ty σ H1 λy H2=>tx σ H2 λz H3=>∃o,fO H3 a y o/\Q (o.getD z) H3
def Ur(td ty:TE):TE:=λσ H Q=>td σ H λx H1=>∃a,x = .ref a/\C3 H1 a/\ty σ H1 λy H2=>∃kvs k v,H2 a=some (.dK kvs)/\y=kV k/\bV kvs k=some v/\Q v (upd H2 a (.dK (kj kvs k)))
section
variable{X:Cx}{o e f:Expr}{apos gc:Pos}{td ty tx:TE}
theorem Ut(hu:X.A.units+1<cLine)(ho:PE X o td)(he:PE X e ty)(hf:PE X f tx)(m:M2 X o "get" apos e f gc):PE X (.Call (.Attribute o "get" apos) [e,f] [] gc) (HQ td ty tx):=by
 intro pins s σ H Q I h;refine wpAny_Call_method m.base m.zG m.line GJ GK PySem.F.type_dict_get (aO (ho pins s σ H _ I h) λu s1 ⟨x,H1,I1,rx,zz⟩=>?_);obtain⟨a,ex,d,q1⟩:=zz;subst ex;obtain rfl:u=Value.ref a:=rx;obtain⟨t1,t2,_⟩:=Uq I1 d;refine⟨t1,t2,?_⟩;rw[m.trees];refine BJ rfl (Gm (rX (aO (he pins s1 σ H1 _ I1 q1) λiv s2 ⟨y,H2,I2,ry,q2⟩ =>
  rX (aO (hf pins s2 σ H2 _ I2 q2) λfv s3 ⟨z,H3,I3,rz,zz⟩=>um ?_))))
 obtain⟨ov,g,q3⟩:=zz;exact acV hu I3 g ry rz λw' s4 I4 j_=>⟨_,H3,I4,j_,q3⟩
theorem acW(ho:PE X o td)(he:PE X e ty)(m:M1 X o "pop" apos e gc):PE X (.Call (.Attribute o "pop" apos) [e] [] gc) (Ur td ty):=by
 intro pins s σ H Q I h;refine wpAny_Call_method m.base m.zG m.line GJ PySem.F.slot_dict_pop PySem.F.type_dict_pop (aO (ho pins s σ H _ I h) λu s1 ⟨x,H1,I1,rx,zz⟩=>?_);obtain⟨a,ex,d,q1⟩:=zz;subst ex;obtain rfl:u=Value.ref a:=rx;obtain⟨t1,t2,_⟩:=Uq I1 d;refine⟨t1,t2,?_⟩;rw[m.trees];refine BJ rfl (Gm (rX (aO (he pins s1 σ H1 _ I1 q1) λiv s2 ⟨y,H2,I2,ry,zz⟩=>um ?_)));obtain⟨kvs,k,v,ea,ey,l,q2⟩:=zz;subst ey;exact acQ I2 ea ry l (.inl rfl) λw' s3 I3 j_=>⟨v,_,I3,j_,q2⟩
end
section
variable{X:Cx}{pins:List (Addr×Obj)}{σ:St}{H:Hp}{s:Shared}{a:Addr}{kvs:List (Key×V)}{A:Around}{E:Value->Shared->Prop}
end
section
variable{X:Cx}{pins:List (Addr×Obj)}{σ:St}{H:Hp}{s:Shared}{a:Addr}{y:V}{u:Value}{A:Around}{E:Value->Shared->Prop}
end
end _L
namespace HR
open PySem PySem.W PySem.Calls PyProof.Rows
theorem acX{P:Params}{h:Heap}:∀(ns:List Int) (vs:List Value),WellAll P h vs (ns.map WData.int)->IntsAre vs ns:=by
 intro ns
 induction ns with
 | nil =>
  intro vs w;rw[List.map_nil] at w;cases w;exact .nil
 | cons n ns ih =>
  intro vs w;rw[List.map_cons] at w;cases w with
  | cons a b =>
   cases a;exact .cons _ _ (ih _ b)
theorem acY{l:OpenLaw}{n:Nat}(hn:l.most=some n){P:Params}{h:Heap}{args:List WData}{vals:List Value}
  (C4:l.row.toRowW.claim.pre args=true) (HS:WellAll P h vals args) :
  ∃a vs ns,vals = [Value.ref a]/\args = [WData.list (ns.map WData.int)]/\h.get? a=some { cls:=.type "list",data:=.seq vs.toArray }/\IntsAre vs ns/\ns.length<=n:=by
 have C5:WShape.hasAll [] args [.list .int] = true:=(pre_splitW C4).1;have hc:l.pre.holds [] { args:=args }=true:=(pre_splitW C4).2;obtain⟨d,r,rfl,h1,h2⟩:=hasAllW_cons C5;obtain rfl:=hasAllW_nil h2;obtain⟨xs,rfl,h3⟩:=hasW_list h1;obtain⟨ns,rfl⟩:=items_int h3;have hlen:ns.length<=n:=by
  unfold OpenLaw.pre at hc;have h4:(WTm.not (.lt (.lit (.int (n:Int))) (.len (.arg 0)))).holds [] { args:=[.list (ns.map .int)] }=true:=by
   have h4:=(holds_andW hc).1;rw[hn] at h4;exact h4
  have h5:=condW_of h4 (w_not (w_lt w_lit (w_len_list (w_arg rfl))));rw[List.length_map] at h5;refine Nat.le_of_not_lt λq=>?_
  have q':(n:Int)<((ns.length:Nat):Int):=by lia
  first
   | (rw[decide_eq_true q'] at h5;exact absurd h5 ⋯)
   | (simp at h5;lia)
 cases HS with
 | cons w1 w2 =>
  cases w2;cases w1 with
  | list ho acZ=>exact⟨_,_,ns,rfl,rfl,ho,acX ns _ acZ,hlen⟩
theorem ac0(l:OpenLaw)(args:List WData):l.row.toRowW.claim.post args (.bool true) args=true :=
 postW_of (r:=l.row.toRowW) (X:=(true == true))
  (show WShape.has [] (.bool true) .bool=true by first | rfl | decide | simp[WShape.has,WShape.arms,WShape.armsAll])
  (show (WTm.eq .res (.lit (.bool true))).value [] { args:=args,res:=some (.bool true),after:=args }=some (.bool (true == true)) from w_eq_bool (w_res rfl) w_lit) rfl
theorem Uu{l:OpenLaw}{n:Nat}{q:Program}{loose:List Str}{XP:(Str->Option Value)->Heap->Prop}{YP:World->Heap->Prop}{d:DefRec}
  (hn:l.most=some n) (uZ:d.params.defaults = [])
  (call:∀(w:World) (eY aW:Shared) (mg mb:Str->Option Value) (fa:Addr) (o:Obj) (pm cd doc:Value) (a:Addr) (vs:List Value) (ns:List Int),
   Ground q loose [] XP w eY mg mb aW.heap->YP w aW.heap->
   aW.heap.get? fa=some o->o.data = .func (docDef d.name d.params d.body d.scope pm cd doc)->aW.heap.CodeRec cd d.name->mg d.name=some (.ref fa)->
   aW.heap.get? a=some { cls:=.type "list",data:=.seq vs.toArray }->IntsAre vs ns->ns.length<=n->aW.gens = #[]->
   codeAny (model l.prog w) callerA (.call (.ref fa) ⟨[.ref a],[]⟩) (λr s'=>r = .ok (.ret (.bool true))/\OldK aW.heap s'.heap/\s'.os=aW.os/\AllBare s'.gens) aW) :
  WalkO q loose XP YP l.row.toRowW d [] (λf vs=>PySem.call f vs):=by
 intro w eY aW mg mb G Y fa o pm cd doc dV kV ho hd gK hD hmg hg args vals as C4 apF hrd HS hlo;obtain rfl:dV = .none:=Dflts.none hD uZ;obtain rfl:kV = .none:=Dflts.noKw hD;obtain⟨a,vs,ns,rfl,rfl,zH,hints,hlen⟩:=acY hn C4 HS;refine enter_call (codeAny_mono (call w eY aW mg mb fa o pm cd doc a vs ns G Y ho (fd_plain hd) gK hmg zH hints hlen hg) λr s' hq=>?_);obtain⟨rfl,h2,h3,h4⟩:=hq;exact⟨.inl ⟨.bool true,.bool true,[],rfl,λ_=>rfl,.bool true,ac0 l _,λ_=>⟨List.Pairwise.nil,λ_ hm=>(nomatch hm)⟩⟩,h2,h3,h4⟩
section
variable{prog:Program}{w:World}{A:Around}{E:Value->Shared->Prop}{s:Shared}{K:Frag}
noncomputable def ledger(h:Heap)(L d:Addr):List (Addr×Obj):=(List.range h.objs.size).filterMap λa=>if a=L\/a=d then none else(h.get? a).map λo=>(a,o)
end
end HR
namespace _L
open PySem PySem.Spec PyProof.Rows
theorem zI:∀ {vs:List Value} {ns:List Int},IntsAre vs ns->Vals (ns.map V.int) vs
 | _,_,.nil=>.nil
 | _,_,.cons n t h=>.cons ⟨t,rfl⟩ (zI h)
def HU(H:Hp):Prop:=∀b,H b=none\/∃o xs,H b=some (.cK o (.lst xs))
theorem ac1{P:Program}{w:World}{K:W.Frag}{mg mb:Str->Option Value}{CX:jq}{k:Nat}{fa a:Addr}{fd:FuncData}{x:Str}{sp:Sp}{aW:Shared}{vs:List Value}{ns:List Int}
  (KX:K.In aW.heap) (oB:aW.heap.Ns mainGlobals mg) (hb:aW.heap.Ns builtinsNs mb) (HV:∀x:Str,x≠"__name__"->mb x=bootBuiltins x) (HW:aW.heap.NoLimit) (hg:aW.gens = #[])
  (ha:aW.heap.get? a=some { cls:=.type "list",data:=.seq vs.toArray }) (hi:IntsAre vs ns) (hl:ns.length<=sizeLine) (hr:d9 k callerA)
  (F:∀base:Heap,K.In base->base.Ns mainGlobals mg->bg P w K mg base CX k fa fd [x] sp) (mS:∀(s:Shared) (u:Value),BindsTo s fd ⟨[u],[]⟩ [(x,u)])
  (jK:∀H:Hp,HU H->aE K H a (ns.map V.int)->sp [.ref a] H (λv _=>v = .bl true) λ_ _ _=>False)
  (HX:∀H e s',CX [] H aW (λ_ _ _=>False) e s'->False) :
  codeAny (model P w) callerA (.call (.ref fa) ⟨[.ref a],[]⟩) (λr s'=>r = .ok (.ret (.bool true))/\OldK aW.heap s'.heap/\s'.os=aW.os/\AllBare s'.gens) aW:=by
 have rv:=zI hi;have HY:=hi.length
 -- from an abstract heap in which nothing but the script may be tracked
 have core:∀H:Hp,HU H->aE K H a (ns.map V.int)->eK P w H aW.heap->(∀b,H b≠none->b=a)->(H a≠none->K.lookup a=none)->
   codeAny (model P w) callerA (.call (.ref fa) ⟨[.ref a],[]⟩) (λr s'=>r = .ok (.ret (.bool true))/\OldK aW.heap s'.heap/\s'.os=aW.os/\AllBare s'.gens) aW:=by
  intro H hO hS aL hA hK;have u6:∀ {b:Addr} {o:Obj},aW.heap.get? b=some o->H b=none->(jZ aW.heap H).get? b=some o:=λe n=>RV e n;have zw:∀ {b:Addr} {o:Obj} {es:Array DictEntry} {ep:Nat},aW.heap.get? b=some o->o.data = .dict es ep->H b=none:=λ{b o es ep} e d=>by
   cases q:H b with
   | none=>rfl
   | some u =>
    have e':b=a:=hA b (by rw[q];simp)
    subst e';rw[ha] at e;cases e;have d':Data.seq vs.toArray _=Data.dict es ep:=d;cases d'
  have qZ:∀ {b:Addr} {m:Str->Option Value},aW.heap.Ns b m->(jZ aW.heap H).Ns b m:=λ{b m} ⟨o,es,ep,e,d,r⟩=>⟨o,es,ep,u6 e (zw e d),d,r⟩;have zJ:K.In (jZ aW.heap H):=λb o e=>u6 (KX b o e) (by
   cases q:H b with
   | none=>rfl
   | some u =>
    have e':b=a:=hA b (by rw[q];simp)
    subst e';rw[hK (by rw[q];simp)] at e;cases e)
  have hM:Mod K mg (jZ aW.heap H):=⟨zJ,qZ oB,⟨mb,qZ hb,HV⟩,let ⟨mc,h1,h2⟩:=HW;⟨mc,qZ h1,h2⟩⟩
  have e0:sV P w K mg (jZ aW.heap H) callerA [] aW H:=⟨rfl,hM,λb o e=>RW e,Nat.le_of_eq (RU _ _),trivial,λb hb=>absurd (show b∈([]:List Addr) from hb) (by simp),aL,.of_eq hg⟩
  refine wj ((F _ zJ (qZ oB)).run callerA [] aW H ⟨[.ref a],[]⟩ [.ref a] [.ref a] _ _ hr e0 (mS aW (.ref a)) (.cons rfl .nil) (jK H hO hS)) λr s' h=>?_;cases r with
  | error e=>exact(HX H e s' h).elim
  | ok fl =>
   cases fl with
   | next=>exact False.elim h
   | brk=>exact False.elim h
   | cont=>exact False.elim h
   | ret u =>
    obtain⟨v,H',os,bare,un,C6,r',q⟩:=h;have q':v = .bl true:=q;subst q';obtain rfl:u=Value.bool true:=r';refine⟨rfl,OldK.of_keep λb o e=>?_,os,bare⟩;cases q:H b with
    | none=>exact un.keep b o e q (by intro z;exact absurd (show b∈([]:List Addr) from z) (by simp)) (by simp)
    | some u =>
     rcases hO b with z | ⟨ob,xs,z⟩
     ·rw[q] at z;cases z
     ·have z2:=un.ou b ob _ z;obtain⟨e1,_⟩:=aL b _ z;obtain⟨e2,_⟩:=C6 b _ z2;rw[e] at e1;cases e1;exact e2
 cases hk:K.lookup a with
 | some o =>
  -- the script is one of the module's own objects
  have e:=KX a o hk;rw[ha] at e;cases e;refine core (λ_=>none) (λ_=>.inl rfl) (.inr ⟨_,vs.toArray,_,hk,rfl,rfl,rfl,by rw[gU,HY];exact hl,by simpa using rv⟩) (λb u z=>by have z':(none:Option HO)=some u:=z;cases z') (λb z=>absurd rfl z) λz=>absurd rfl z
 | none =>
  refine core (λb=>if b=a then some (.cK { cls:=.type "list",data:=.seq vs.toArray } (.lst (ns.map V.int))) else none) (λb=>?_) (.inl (.inr ⟨{ cls:=.type "list",data:=.seq vs.toArray },if_pos rfl⟩)) (λb u z=>?_) (λb z=>?_) λ_=>hk
  ·by_cases hb:b=a
   ·exact .inr ⟨_,_,if_pos hb⟩
   ·exact .inl (if_neg hb)
  ·by_cases hb:b=a
   ·have z':=(if_pos hb).symm.trans z;cases z';subst hb;exact⟨ha,by rw[aK];exact hl,vs,_,rv,ha⟩
   ·have z':=(if_neg hb).symm.trans z;cases z'
  ·by_cases hb:b=a
   ·exact hb
   ·exact absurd (if_neg hb) z
noncomputable abbrev KOf{K:W.Frag}{h:Heap}(_:K.In h):W.Frag:=K
theorem apG{l:PySem.W.OpenLaw}{n k:Nat}{q:Program}{loose:List Str}{XP:(Str->Option Value)->Heap->Prop}{YP:World->Heap->Prop}{d:DefRec}{K:Params->W.Frag}{CX:World->jq}{sp:World->Sp}{x:Str}
  (hn:l.most=some n) (uQ:n<=sizeLine) (uZ:d.params.defaults = []) (hr:d9 k callerA)
  (hY:∀(w:World) (h:Heap),YP w h->(K w.params).In h)
  (F:∀(w:World) (mg:Str->Option Value) (fa:Addr) (h:Heap),(K w.params).In h->h.Ns mainGlobals mg->mg d.name=some (.ref fa)->
   ∃fd:FuncData,(∀(s:Shared) (u:Value),BindsTo s fd ⟨[u],[]⟩ [(x,u)])/\
    ∀base:Heap,(K w.params).In base->base.Ns mainGlobals mg->bg l.prog w (K w.params) mg base (CX w) k fa fd [x] (sp w))
  (jK:∀(w:World) (H:Hp) (a:Addr) (ns:List Int),ns.length<=n->HU H->aE (K w.params) H a (ns.map V.int)->sp w [.ref a] H (λv _=>v = .bl true) λ_ _ _=>False)
  (HX:∀(w:World) (H:Hp) (s:Shared) (e:Value) (s':Shared),CX w [] H s (λ_ _ _=>False) e s'->False) :
  PySem.W.WalkO q loose XP YP l.row.toRowW d [] (λf vs=>PySem.call f vs):=by
 refine HR.Uu hn uZ λw eY aW mg mb fa o pm cd doc a vs ns G Y ho hd gK hmg zH hints hlen hg=>?_;have KX:=hY w _ Y;obtain⟨fd,hb,hF⟩:=F w mg fa _ KX G.T.g hmg;exact ac1 KX G.T.g G.T.b G.T.builtins G.T.nolimit hg zH hints (dQ hlen uQ) hr hF hb (λH hO hS=>jK w H a ns hlen hO hS) λH e s'=>HX w H aW e s'
noncomputable def inClass(s:Stmt)(j:Nat):Stmt:=match s with
 | .ClassDef _ _ _ body _ _ _ _ _ _ _=>body.getD j (.Pass ⟨0,0,0,0⟩)
 | _=>.Pass ⟨0,0,0,0⟩
noncomputable def g9(s:Stmt):Arguments:=match s with
 | .FunctionDef _ a _ _ _ _ _ _ _ _=>a
 | _=>{ posonlyargs:=[],args:=[],vararg:=none,kwonlyargs:=[],kw_defaults:=[],kwarg:=none,defaults:=[] }
noncomputable def gk(s:Stmt):List Stmt:=match s with
 | .FunctionDef _ _ b _ _ _ _ _ _ _=>b
 | _=>[]
noncomputable def aU(s:Stmt):Scope:=match s with
 | .FunctionDef _ _ _ _ _ _ sc _ _ _=>sc
 | _=>{ kind:=.function,names:=[],isGenerator:=false,isCoroutine:=false }
noncomputable abbrev bw:jq:=λ_ _ _ _ _ _=>False
noncomputable abbrev E0:XK:=λ_ _ _=>False
theorem aJ{X:Cx}:Passes bw X E0:=λ_ _ _ _ _ _ _ h=>h.elim
structure b8(K:W.Frag)(x qual:Str)(st:Stmt)(f:Addr)(fd:FuncData):Prop where
 ex:∃(oc:Value) (od:Option Addr) (kV doc pm:Value) (an:Option Addr) (aQ ct:Value) (j8:Array (Option Value)),
  fd=PySem.W.fnOf x qual (g9 st) (gk st) (aU st) .none kV doc pm an aQ ct/\K.lookup f=some ⟨oc,od,.func fd,j8⟩/\PySem.W.codeIn K aQ qual=true
 kp:PySem.W.keepIn K (.ref f)=true
section
variable{P:Program}{w:World}{K:W.Frag}{mg:Str->Option Value}{base:Heap}
theorem b8.ok{x qual:Str}{st:Stmt}{f:Addr}{fd:FuncData}{N ps:List Str}{k:Nat}{sp:Sp}(F:b8 K x qual st f fd)(S:bA N ps (aU st))(len:∀vs H Q E,sp vs H Q E->vs.length=ps.length)
  (uR:∀(aQ:Value) (A:Around) (outer:List Env) (s:Shared) (H:Hp) (vs:List V) (Q:VK) (E:XK),d9 k (A.deeper (envOfC qual (aU st) s.heap.objs.size f aQ))->sp vs H Q E->
   ∃t,iH (qQ bw P w K mg base N qual (aU st) f aQ A outer s H E).sI (gk st) t/\t { nx:=λ_ H'=>Q .aR H',rt:=Q } (start N vs) H):bg P w K mg base bw (k+1) f fd ps sp:=by
 obtain⟨oc,od,kV,doc,pm,an,aQ,ct,j8,rfl,lk,gK⟩:=F.ex;refine Hx lk gK S len λA outer s H vs Q E hr jK=>?_;obtain⟨t,h,q⟩:=uR aQ A outer s H vs Q E hr jK;exact⟨t,h.sI,q⟩
theorem b8.binds{x qual:Str}{st:Stmt}{f:Addr}{fd:FuncData}{ps:List Str}(F:b8 K x qual st f fd)
  (h:∀(kV doc pm:Value) (an:Option Addr) (aQ ct:Value) (us:List Value),us.length=ps.length->bindArgs (PySem.W.fnOf x qual (g9 st) (gk st) (aU st) .none kV doc pm an aQ ct) ⟨us,[]⟩=pure (ps.zip us)):Binds K fd ps []:=by
 obtain⟨oc,od,kV,doc,pm,an,aQ,ct,j8,rfl,lk,gK⟩:=F.ex;exact .all (h kV doc pm an aQ ct)
theorem fun_mk{x qual:Str}{st:Stmt}{f:Addr}{oc:Value}{od an:Option Addr}{j8:Array (Option Value)}{kV doc pm aQ ct:Value}(l:K.lookup f=some ⟨oc,od,.func (PySem.W.fnOf x qual (g9 st) (gk st) (aU st) .none kV doc pm an aQ ct),j8⟩)
  (c:PySem.W.codeIn K aQ qual=true) (k:PySem.W.keepIn K (.ref f)=true):b8 K x qual st f (PySem.W.fnOf x qual (g9 st) (gk st) (aU st) .none kV doc pm an aQ ct):=⟨⟨oc,od,kV,doc,pm,an,aQ,ct,j8,rfl,l,c⟩,k⟩
end
theorem i7{A:Around}{k:Nat}(hr:d9 k A):A.units+1<cLine:=B3 (GG (by decide:1<=64) _) hr.units
theorem jr{n:Nat}(h:n<=1000):n<sizeLine:=B3 h ⋯
section
variable{X:Cx}
theorem pv(i:Nat){x:Str}{pos:Pos}(hN:X.N[i]? = some x:=by rfl)(hv:Cm X.env.scope x:=by first | exact Or.inl rfl | exact Or.inr OL_ | exact Or.inr (Or.inr rfl))(hd:(x == ("__debug__" : Str))=false:=by decide)
  (gK:(x == ("__classdict__" : Str))=false:=by decide):PE X (.Name x pos) (G3 i):=R7 hN hv hd gK
end
theorem dX{c A B:Prop}[Decidable c](h1:c->A)(h2:¬ c->B):if c then A else B:=by
 by_cases h:c
 ·rw[if_pos h];exact h1 h
 ·rw[if_neg h];exact h2 h
def aq(H H':Hp):Prop:=∀b o,H b=some o->H' b=some o
theorem aq.refl(H:Hp):aq H H:=λ_ _ h=>h
theorem aq.trans{H H1 H2:Hp}(a:aq H H1)(b:aq H1 H2):aq H H2:=λc o h=>b c o (a c o h)
theorem aq.free{H H':Hp}(e:aq H H'){l:Addr}(h:H' l=Option.none):H l=Option.none:=by
 cases q:H l with
 | none=>rfl
 | some o =>
  rw[e l o q] at h;cases h
theorem aq.seq{K:W.Frag}{H H':Hp}{a:Addr}{xs:List V}(e:aq H H')(h:aE K H a xs):aE K H' a xs:=by
 rcases h with(h | ⟨o,h⟩) | h
 ·exact .inl (.inl (e _ _ h))
 ·exact .inl (.inr ⟨o,e _ _ h⟩)
 ·exact .inr h
section
variable{κ:Type}[DecidableEq κ]
theorem ac2{p:κ×V}{r:List (κ×V)}{k:κ}(e:p.1=k):kj (p::r) k=kj r k:=by
 unfold kj;rw[lE,if_neg (by simp[e])]
theorem Uv{p:κ×V}{r:List (κ×V)}{k:κ}(e:¬ p.1=k):kj (p::r) k=p::kj r k:=by
 unfold kj;rw[lE,if_pos (by simp[e])]
theorem Uw:∀ {kvs:List (κ×V)} {k:κ},¬ k∈kvs.map (·.1)->kj kvs k=kvs
 | [],_,_=>rfl
 | p::r,k,h=>by
  have h':¬ k∈r.map (·.1):=λm=>by
   obtain⟨q,hq,e⟩:=cH.mp m;exact h (cH.mpr ⟨q,cg.mpr (Or.inr hq),e⟩)
  rw[Uv λe=>h (cH.mpr ⟨p,cg.mpr OL_,e⟩),Uw h']
theorem Ux:∀ {kvs:List (κ×V)} {k:κ},(kvs.map (·.1)).Nodup->k∈kvs.map (·.1)->(kj kvs k).length+1=kvs.length
 | [],_,_,m=>by simp at m
 | p::r,k,h,m=>by
  have h:(p.1::r.map (·.1)).Nodup:=h;have m:k=p.1\/k∈r.map (·.1):=cg.mp m;obtain⟨h1,h2⟩:=mh.mp h;by_cases e:p.1=k
  ·subst e;rw[ac2 rfl,Uw h1]
   all_goals rfl
  ·have m':k∈r.map (·.1):=m.resolve_left λz=>e z.symm;have q:=Ux h2 m';rw[Uv e,gA,gA];lia
end
end _L
set_option maxHeartbeats 4000000
namespace _L
open PySem PySem.Spec PyProof.Rows
section
variable{prog:Program}{w:World}{A:Around}{R:Result->Shared->Prop}{s:Shared}
theorem ac3{elt target iter:Expr}{ifs:List Expr}{scope:Scope}{pos:Pos}{it acc:Value}{env:Env}(I:Nat->Shared->Prop)
  (turn:∀n s,I n s->wpAny (model prog w) A (pyNext it) (λr aW=>match r with
   | none=>R (.ok .next) aW
   | some v=>wpAny (model prog w) A (letOwnedTupleGo target it v) (λ_ Uy=>wpAny (model prog w) A (assign target env v) (λ_ jI =>
     wpAny (model prog w) A (forIn ifs true λc r=>if r=true then do let ok ← isTrue c env (eval c env);pure (ForInStep.yield ok) else pure (ForInStep.yield r)) (λok mR =>
      if ok=true then wpAny (model prog w) A (eval elt env) (λx C7 =>
       wpAny (model prog w) A (call (.builtin "list.append") [acc,x]) (λ_ Uz=>∃m,m<n/\I m Uz) (λ_ _=>False) C7) (λ_ _=>False) mR
      else ∃m,m<n/\I m mR) (λ_ _=>False) jI) (λ_ _=>False) Uy) (λ_ _=>False) aW) (λ_ _=>False) s)
  (n:Nat) (h:I n s):codeAny (model prog w) A (.compLoop (.ListComp elt [⟨target,iter,ifs,0⟩] scope pos) 0 it acc env) R s:=by
 refine codeAny_loop rfl I (λn s hI=>?_) n h
 show wpAny _ A ((compTurn (.ListComp elt [⟨target,iter,ifs,0⟩] scope pos) 0 it acc env).onRaise (λx=>do noteFrame x env;theTreesLotGoes x)) _ _ s
 refine wpAny_noted ?_;rw[compTurn_list];refine aF (wpAny_standAt (aF (jh (turn n s hI) (λr aW pZ=>?_) λ_ _ h'=>h'.elim)));cases r with
 | none=>exact aV pZ
 | some v =>
  refine aF (jh pZ (λ_ Uy ac4=>?_) λ_ _ h'=>h'.elim);refine aF (jh ac4 (λ_ jI zE=>aF (jh zE (λok mR C1=>?_) λ_ _ h'=>h'.elim)) λ_ _ h'=>h'.elim);cases ok with
  | false=>exact aV ⟨rfl,C1⟩
  | true =>
   exact aF (aF (jh C1 (λx C7 ac5=>aF (jh ac5 (λ_ Uz ac6=>aV (aV ⟨rfl,ac6⟩)) λ_ _ h'=>h'.elim)) λ_ _ h'=>h'.elim))
end
noncomputable def i8(X:Cx)(scope:Scope)(cl:List (Str×Addr))(N:List Str)(C:Addr)(s:Shared)(H:Hp)(fp:List Addr):Cx where
 prog:=X.prog
 w:=X.w
 K:=X.K
 mg:=X.mg
 base:=X.base
 A:=X.A
 N:=N
 eY:=s
 iF:=H
 env:=compEnvC scope cl C X.env
 outer:=X.stack
 stack:=X.stack
 ex:=fp
 fn:=λ_=>false
 calm:=X.calm
 pn:=[]
 xe:=λ_ _=>False
structure eE(X:Cx)(scope:Scope)(cl:List (Str×Addr))(N:List Str)(nt:Nat)(fv:List Nat):Prop where
 p7:closureFor scope X.env=pure cl
 kind:scope.kind = .function
 oE:∀y∈scope.names,y.2≠.cell
 names:∀y∈scope.names,y.2 = .local->scope.names.lookup y.1=some .local
 sub:∀p∈cl,X.env.cells.lookup p.1=some p.2
 has:∀y∈scope.names,y.2 = .free->∃c,cl.lookup y.1=some c
 free:fv.map (λj=>X.N[j]?)=(N.drop nt).map some
 fk:∀y∈N.drop nt,scope.names.lookup y=some .free/\X.env.scope.names.lookup y=some .cell
 le:nt<=N.length
 nd:N.Nodup
theorem C8{env:Env}:∀ {names:List (Str×NameKind)} {x:Str} {k:NameKind},
  (names.map λ(n,k)=>if (k == NameKind.free && env.scope.kind == .function && env.kindOf n == some .cell) then(n,NameKind.cell) else(n,k)).lookup x=some k->
  ∃k0,names.lookup x=some k0/\(k=k0\/(k0 = .free/\k = .cell))
 | [],_,_,h=>by simp at h
 | (n,k0)::r,x,k,h=>by
  have ih:=@C8 env r x k;have h:List.lookup x ((if (k0 == NameKind.free && env.scope.kind == .function && env.kindOf n == some .cell)=true then(n,NameKind.cell) else(n,k0))::_)=_:=h
  cases hx:x == n with
  | true =>
   by_cases hc:(k0 == NameKind.free && env.scope.kind == .function && env.kindOf n == some .cell)=true
   ·rw[if_pos hc] at h;simp only[List.lookup_cons,hx,Option.some.injEq] at h;simp only[Bool.and_eq_true,beq_iff_eq] at hc;exact⟨k0,by simp[List.lookup_cons,hx],.inr ⟨hc.1.1,h.symm⟩⟩
   ·rw[if_neg hc] at h;simp only[List.lookup_cons,hx,Option.some.injEq] at h;exact⟨k0,by simp[List.lookup_cons,hx],.inl h.symm⟩
  | false =>
   have h':List.lookup x (r.map λ(n,k)=>if (k == NameKind.free && env.scope.kind == .function && env.kindOf n == some .cell) then(n,NameKind.cell) else(n,k))=some k:=by
    by_cases hc:(k0 == NameKind.free && env.scope.kind == .function && env.kindOf n == some .cell)=true
    ·rw[if_pos hc] at h;simpa only[List.lookup_cons,hx] using h
    ·rw[if_neg hc] at h;simpa only[List.lookup_cons,hx] using h
   obtain⟨q,e,z⟩:=ih h';exact⟨q,by simp only[List.lookup_cons,hx];exact e,z⟩
theorem sX{α:Type}{x:Str}{v:α}:∀ {l:List (Str×α)},l.lookup x=some v->(x,v)∈l:=λh=>wg h
section
variable{X:Cx}{pins:List (Addr×Obj)}{σ:St}{H:Hp}{s:Shared}{scope:Scope}{cl:List (Str×Addr)}{N:List Str}{nt:Nat}{fv:List Nat}{fp:List Addr}
theorem eE.cell(S:eE X scope cl N nt fv){x:Str}{c:Addr}(e:cl.lookup x=some c):X.env.cells.lookup x=some c:=S.sub (x,c) (sX e)
theorem eE.ac7(S:eE X scope cl N nt fv){C:Addr}{x:Str}(h:(compEnvC scope cl C X.env).kindOf x=some .cell\/(compEnvC scope cl C X.env).kindOf x=some .free):scope.names.lookup x=some .free:=by
 have h:(scope.names.map λ(n,k)=>if (k == NameKind.free && X.env.scope.kind == .function && X.env.kindOf n == some .cell) then(n,NameKind.cell) else(n,k)).lookup x=some .cell\/
  (scope.names.map λ(n,k)=>if (k == NameKind.free && X.env.scope.kind == .function && X.env.kindOf n == some .cell) then(n,NameKind.cell) else(n,k)).lookup x=some .free:=h
 rcases h with h | h
 ·obtain⟨k0,e,z | ⟨z,_⟩⟩:=C8 h
  ·exact absurd z.symm (S.oE _ (sX e))
  ·rw[z] at e;exact e
 ·obtain⟨k0,e,z | ⟨z,_⟩⟩:=C8 h
  ·rw[← z] at e;exact e
  ·rw[z] at e;exact e
theorem eE.ok(S:eE X scope cl N nt fv)(I:Inv X pins σ H s)(hf:∀b∈fp,pU X pins H b)(bM:∀b∈fp,b<s.heap.objs.size){C:Addr}(hC:s.heap.objs.size<=C) :
  (i8 X scope cl N C s H fp).Ok where
 mod:=I.ok.mod
 kind:=S.kind
 glob:=I.ok.glob
 blt:=I.ok.blt
 above:=hC
 inj:=λx y c h1 h2=>I.ok.inj x y c (S.cell h1) (S.cell h2)
 has:=λx h=>by
  have e:=S.ac7 h;exact S.has _ (sX e) rfl
 wC:=λx c h _=>by cases (show false=true from h)
 hd:=I.ok.hd
 frames:=I.ok.frames
 yT:=.inl rfl
 yU:=λb hb=>⟨λz=>absurd (gJ (bM b hb) (by rw[z];exact hC)) (jX _),λx c h=>(hf b hb).2.2.2.2.1 x c (S.cell h)⟩
 bs:=I.bs
 ji:=dQ I.ok.ji I.sz
 wD:=λb o e hb=>by
  rcases(hf b hb).2.2.2.1 with z | z
  ·exact I.ok.wD b o e z
  ·exact absurd (gJ (bK e) (dQ I.ok.ji z)) (jX _)
 wF:=λb hb hm=>by
  rcases cg.mp (I.GZ b hm) with z | z
  ·exact(hf b hb).2.1 z
  ·exact(hf b hb).2.2.1 z
 lG:=I.stack
 sH:=I.G0
noncomputable def kQ(σ:St)(nt:Nat)(fv:List Nat):St:=List.replicate nt none++fv.map λj=>(σ[j]?).getD none
theorem eE.inv(S:eE X scope cl N nt fv)(I:Inv X pins σ H s)(hf:∀b∈fp,pU X pins H b)(bM:∀b∈fp,b<s.heap.objs.size){h1:Heap}{tk:Nat}{D C:Addr}
  (hD:s.heap.objs.size<=D) (hC:s.heap.objs.size<=C) (C9:D≠C) (old:∀b o,s.heap.get? b=some o->h1.get? b=some o) (jM:h1.get? D=some { cls:=.type "list",data:=.seq #[] }) (oB:h1.Ns C λ_=>none) :
  Inv (i8 X scope cl N C s H fp) [] (kQ σ nt fv) (upd H D (.lst [])) { s with heap:=h1,toks:=tk }:=by
 have I1:Inv X pins σ (upd H D (.lst [])) { s with heap:=h1,toks:=tk }:=I.laid old hD ⟨eX _,[],0,.nil,jM⟩;have hlen:fv.length=(N.drop nt).length:=by simpa using gh List.length S.free
 refine⟨S.ok I hf bM hC,rfl,I.bare,Un.laid old hD (I.aL.fresh hD),⟨_,oB,λi x v e1 e2 e3=>?_⟩,λx c e=>?_,?_,λx c e=>?_,λp hp=>absurd (show p∈([]:List (Addr×Obj)) from hp) (by simp),I1.aL,?_⟩
 ·unfold kQ at e2;have hi:nt<=i:=by
   by_cases h:nt<=i
   ·exact h
   ·rw[gw (by simp;lia),List.getElem?_replicate] at e2
    split at e2 <;> cases e2
  rw[gz (by simpa using hi)] at e2
  simp only[List.length_replicate,List.getElem?_map] at e2;cases hj:fv[i - nt]? with
  | none=>rw[hj] at e2;simp at e2
  | some j =>
   rw[hj] at e2;simp only[Option.map_some,Option.some.injEq] at e2;have hN:X.N[j]? = some x:=by
    have q:=gh (λl=>l[i - nt]?) S.free;simp only[List.getElem?_map,hj,Option.map_some,List.getElem?_drop] at q;rw[show nt+(i - nt)=i by lia] at q
    have UA:N[i]? = some x:=e1;rw[UA] at q;exact(dD q)
   have HZ:σ[j]? = some (some v):=by
    cases z:σ[j]? with
    | none=>rw[z] at e2;simp at e2
    | some y=>rw[z] at e2;simp at e2;rw[e2]
   have ac8:x∈N.drop nt:=by
    refine iC (i:=i - nt) ?_;rw[List.getElem?_drop,show nt+(i - nt)=i by lia];exact e1
   obtain⟨f1,f2⟩:=S.fk x ac8;obtain⟨m,hn,hl⟩:=I1.loc;obtain⟨u,ru,lk⟩:=hl j x v hN HZ (.inr (.inl f2));refine⟨u,ru,?_⟩;rcases lk with⟨k,_⟩ | ⟨_,c,ec,hc⟩
   ·have k:X.env.scope.names.lookup x=some .local:=k;rw[f2] at k;cases k
   ·obtain⟨c',e'⟩:=S.has _ (sX f1) rfl;have:=S.cell e';rw[ec] at this;cases this;refine .inr ⟨?_,c,e',hc⟩;rcases e3 with z | z | z
    ·obtain⟨k0,ek,q | ⟨_,q⟩⟩:=C8 (show (scope.names.map λ(n,k)=>if (k == NameKind.free && X.env.scope.kind == .function && X.env.kindOf n == some .cell) then(n,NameKind.cell) else(n,k)).lookup x=some .local from z)
     ·rw[f1] at ek;cases ek;cases q
     ·cases q
    ·exact .inl z
    ·exact .inr z
 ·obtain⟨v,z⟩:=I1.cell x c (S.cell e);exact⟨v,z⟩
 ·show upd H D (.lst []) C=none;rw[aB (dR C9)];exact I.aL.fresh hC
 ·exact I1.mC x c (S.cell e)
 ·unfold kQ
  show _=N.length;have:=S.le;simp only[List.length_append,List.length_replicate,List.length_map,List.length_drop] at hlen ⊢;lia
end
noncomputable def wU(X:Cx)(ifs:List Expr)(t:TT):Prop :=
 ∀(pins:List (Addr×Obj)) (s:Shared) (σ:St) (H:Hp) (Q:Bool->Hp->Prop),Inv X pins σ H s->t σ H Q->
  wpAny (model X.prog X.w) X.A (forIn ifs true λc r=>if r=true then do let ok ← isTrue c X.env (eval c X.env);pure (ForInStep.yield ok) else pure (ForInStep.yield r)) (TP X pins σ Q) X.xe s
def UB:TT:=λ_ H Q=>Q true H
theorem kq{X:Cx}:wU X [] UB:=λpins s σ H Q I h=>wpAny_tests_nil ⟨H,I,h⟩
theorem wV{X:Cx}{c:Expr}{t:TT}(hc:PT X c t):wU X [c] t:=λpins s σ H Q I h=>wpAny_tests_one (hc pins s σ H Q I h)
def lP(wi:TI)(g:TG)(tt:TT)(te:TE)(nt:Nat)(fv:List Nat):TE:=λσ H Q=>wi σ H λJ H1=>∀D,H1 D=none->∃W:Nat->Nat->List V->St->Hp->Prop,
 (∃m,W 0 m [] (kQ σ nt fv) (upd H1 D (.lst [])))/\∀i m ys aA H2,W i m ys aA H2->H2 D=some (.lst ys)/\ys.length<sizeLine/\
  ((J.stop i H2/\Q (.ref D) H2)\/(J.go i H2/\∀x H3,J.pT i H2 x H3->g x aA H3 λbX H4=>tt bX H4 λb H5=>if b=true then te bX H5 λv H6=>H6 D=some (.lst ys)/\∃m',m' < m/\W (i+1) m' (ys++[v]) bX (upd H6 D (.lst (ys++[v])))
   else ∃m',m' < m/\W (i+1) m' ys bX H5))
section
variable{X:Cx}{tg iter elt:Expr}{ifs:List Expr}{scope:Scope}{cl:List (Str×Addr)}{N:List Str}{nt:Nat}{fv:List Nat}{pos:Pos}{wi:TI}{g:TG}{tt:TT}{te:TE}
theorem UC{pins:List (Addr×Obj)}{σ:St}{s2:Shared}{H2:Hp}{it:Addr}{fp:List Addr}{tn:Nat->Heap->Prop}{J:It}{Q:VK}{RR:Value->Addr->Result->Shared->Prop}{E:Value->Shared->Prop}
  (S:eE X scope cl N nt fv) (hc:X.calm=true)
  (hg:∀C s H fp,PG (i8 X scope cl N C s H fp) tg g) (ht:∀C s H fp,wU (i8 X scope cl N C s H fp) ifs tt) (he:∀C s H fp,PE (i8 X scope cl N C s H fp) elt te)
  (I2:Inv X pins σ H2 s2) (T:Turn X.prog X.w X.K tg J fp it tn) (iI:tn 0 s2.heap) (f2:∀b∈fp,pU X pins H2 b)
  (hq:∀D,H2 D=none->∃W:Nat->Nat->List V->St->Hp->Prop,
   (∃m,W 0 m [] (kQ σ nt fv) (upd H2 D (.lst [])))/\∀i m ys aA H2,W i m ys aA H2->H2 D=some (.lst ys)/\ys.length<sizeLine/\
    ((J.stop i H2/\Q (.ref D) H2)\/(J.go i H2/\∀x H3,J.pT i H2 x H3->g x aA H3 λbX H4=>tt bX H4 λb H5=>if b=true then te bX H5 λv H6=>H6 D=some (.lst ys)/\∃m',m' < m/\W (i+1) m' (ys++[v]) bX (upd H6 D (.lst (ys++[v])))
     else ∃m',m' < m/\W (i+1) m' ys bX H5)))
  (hRR:∀(D C:Addr) (s':Shared) (H':Hp) (m':Str->Option Value),Inv X pins σ H' s'->s'.heap.Ns C m'->s2.heap.objs.size<=C->H' C=none->Q (.ref D) H'->RR (.ref D) C (.ok .next) s') :
  wpAny (model X.prog X.w) X.A (newList []) (λacc mR=>wpAny (model X.prog X.w) X.A (newFunctionEnv scope X.env.globals cl [] X.env.qual none .none (some X.env)) (λUD C7 =>
   codeAny (model X.prog X.w) X.A (.compStart (.ListComp elt [⟨tg,iter,ifs,0⟩] scope pos) 0 (.ref it) acc { UD with scope:=relabel scope X.env }) (RR acc UD.locals) C7) E mR) E s2:=by
 refine wu (wpAny_newFunctionEnv S.oE (by intro y hy;simp at hy) (λpZ H_ C_=>?_) S.kind)
 dsimp only at H_ C_ ⊢;generalize Ia:s2.heap.push { cls:=.type "list",dict:=none,data:=.seq ([]:List Value).toArray }=HH at H_ C_ ⊢;have hC:HH.objs.size=s2.heap.objs.size+1:=by rw[← Ia,BL]
 have C9:s2.heap.objs.size≠HH.objs.size:=by rw[hC];exact b9 (B5 _)
 have Ib:s2.heap.objs.size<=HH.objs.size:=by rw[hC];exact oh _
 have old:∀b o,s2.heap.get? b=some o->pZ.get? b=some o:=λb o e=>by
  have hb:b<s2.heap.objs.size:=bK e;exact C_.extBut b o (by rw[hC];exact b9 (B4 hb)) (bW _ (Ia▸bW _ e))
 have jM:pZ.get? s2.heap.objs.size=some { cls:=.type "list",data:=.seq #[] }:=C_.extBut _ _ C9 (bW _ (Ia▸e_ _ rfl));have bM:∀b∈fp,b<s2.heap.objs.size:=λb hb=>by
  obtain⟨o,e,_⟩:=T.obj 0 _ iI b hb;exact bK e
 have hD:H2 s2.heap.objs.size=none:=I2.aL.fresh (bu _);obtain⟨W,⟨m0,w0⟩,turn⟩:=hq _ hD;have uL:tn 0 pZ:=T.keep _ _ _ iI λb _ o e=>old b o e;have I3:=S.inv I2 f2 bM (h1:=pZ) (tk:=s2.toks+([]:List (Str×Value)).length) (D:=s2.heap.objs.size) (C:=HH.objs.size) (bu _) Ib C9 old jM (by simpa using H_)
 -- what stays true of the iterator's objects
 have nD:∀b∈fp,b≠s2.heap.objs.size:=λb hb=>b9 (bM b hb);have uK:∀ {H':Hp},(∀b∈fp,H' b=none)->∀b∈fp,pU (i8 X scope cl N HH.objs.size s2 H2 fp) [] H' b:=λ{H'} hn b hb=>by
  have ok:=S.ok I2 f2 bM Ib;refine⟨hn b hb,(ok.yU b hb).1,ok.wF b hb,.inl hb,(ok.yU b hb).2,λp hp=>absurd (show p∈([]:List (Addr×Obj)) from hp) (by simp)⟩
 have loop:∀mR:Shared,mR = { s2 with heap:=pZ,toks:=s2.toks+([]:List (Str×Value)).length }->
   codeAny (model X.prog X.w) X.A (.compLoop (.ListComp elt [⟨tg,iter,ifs,0⟩] scope pos) 0 (.ref it) (.ref s2.heap.objs.size) (compEnvC scope cl HH.objs.size X.env)) (RR (.ref s2.heap.objs.size) HH.objs.size) mR:=by
  rintro mR rfl;refine ac3 (λn s'=>∃i ys bq H',Inv (i8 X scope cl N HH.objs.size s2 H2 fp) [] bq H' s'/\tn i s'.heap/\(∀b∈fp,H' b=none)/\W i n ys bq H') ?_ m0
   ⟨0,[],_,_,I3,uL,λb hb=>by rw[aB (nD b hb)];exact(f2 b hb).1,w0⟩
  rintro n s3 ⟨i,ys,jJ,H3,J3,t3,uM,w3⟩;obtain⟨eD,hys,ac9⟩:=turn i n ys jJ H3 w3;rcases ac9 with⟨stop,qn⟩ | ⟨go,step⟩
  ·refine aO (T.done (i8 X scope cl N HH.objs.size s2 H2 fp) rfl rfl rfl hc i [] s3 jJ H3 (λ_ _=>False) J3 (uK uM) t3 stop) λr s4 ⟨hr,I4⟩=>?_;subst hr;have I5:Inv X pins σ H3 s4:=I2.R6 (ch:=fp) I4.os I4.base I4.aL I4.bare λb hb=>⟨(f2 b hb).2.2.2.1,(f2 b hb).2.1,(f2 b hb).2.2.2.2.1,(f2 b hb).2.2.2.2.2⟩;obtain⟨m,hn,_⟩:=I4.loc;exact hRR _ _ s4 H3 m I5 hn Ib I4.free qn
  ·refine aO (T.item (i8 X scope cl N HH.objs.size s2 H2 fp) rfl rfl rfl hc i [] s3 jJ H3 (λ_ _=>False) J3 (uK uM) t3 go) λr s4 ⟨u,hr,h4⟩=>?_;subst hr;refine aO h4 λ_ s5 ⟨x,H5,I5,r5,zz⟩=>?_;obtain⟨y5,uN,G_⟩:=zz;have Hf:=I5.pinned (uK G_) (T.obj _ _ uN);refine aO (hg _ _ _ _ _ s5 jJ H5 x u _ Hf r5 (step x H5 y5)) λ_ s6 ⟨sO,H6,I6,q6⟩=>?_;have UE:∀ {kL:St} {H7:Hp} {s7:Shared},Inv (i8 X scope cl N HH.objs.size s2 H2 fp) ([]++zd fp s5.heap) kL H7 s7->tn (i+1) s7.heap/\∀b∈fp,H7 b=none:=λ{kL H7 s7} I7=>by
    refine⟨T.keep _ _ _ uN λb hb o e=>(I7.pin (b,o) (fF _ (fF _ (CB hb e)))).1,λb hb=>?_⟩;obtain⟨o,e,d⟩:=T.obj _ _ uN b hb;exact(I7.pin (b,o) (fF _ (fF _ (CB hb e)))).2.1
   refine aO (ht _ _ _ _ _ s6 sO H6 _ I6 q6) λb s7 ⟨H7,I7,q7⟩=>?_;cases b with
   | false =>
    obtain⟨m',hm,w7⟩:=q7;obtain⟨t7,n7⟩:=UE I7;exact⟨m',hm,i+1,ys,sO,H7,I7.ze,t7,n7,w7⟩
   | true =>
    refine aO (he _ _ _ _ _ s7 sO H7 _ I7 q7) λu8 s8 ⟨v8,H8,I8,r8,zz⟩=>?_;obtain⟨eD8,m',hm,w8⟩:=zz;refine aO (lN (X:=i8 X scope cl N HH.objs.size s2 H2 fp) _ s8 sO H8 (.ref s2.heap.objs.size) [v8] (.ref s2.heap.objs.size) [u8] (λ_ H9=>∃m',m' < n/\W (i+1) m' (ys++[v8]) sO H9) I8 rfl (.cons r8 .nil)
     ⟨s2.heap.objs.size,ys,v8,rfl,rfl,eD8,hys,m',hm,w8⟩) λ_ s9 ⟨_,H9,I9,_,m9,hm9,w9⟩=>?_
    obtain⟨t9,n9⟩:=UE I9;exact⟨m9,hm9,i+1,ys++[v8],sO,H9,I9.ze,t9,n9,w9⟩
 exact codeAny_compStart_list (loop _ rfl) (T.self _ 0 _ _ _ uL (loop _ rfl))
theorem ku(S:eE X scope cl N nt fv)(hc:X.calm=true)(hi:PI X tg iter wi)
  (hg:∀C s H fp,PG (i8 X scope cl N C s H fp) tg g) (ht:∀C s H fp,wU (i8 X scope cl N C s H fp) ifs tt) (he:∀C s H fp,PE (i8 X scope cl N C s H fp) elt te)
  (hs:∀x,foldedSetIterable iter X.env x=pure x:=by intro _;rfl):PE X (.ListComp elt [⟨tg,iter,ifs,0⟩] scope pos) (lP wi g tt te nt fv):=by
 intro pins s σ H Q I h;rw[eval_ListComp];refine wpAny_comprehension_free (use:=none) rfl hs S.p7 S.kind S.names (aO (hi pins s σ H _ I h) λxv s1 h1=>aO h1 λCy s2 h2=>?_);obtain⟨it,fp,tn,J,H2,rfl,I2,T,iI,f2,hq⟩:=h2;refine UC (RR:=λacc C=>compPost (model X.prog X.w) X.A X.xe none (EP X pins σ Q) acc C) S hc hg ht he I2 T iI f2 hq λD C s' H' m' I' hn hC fC q=>?_;refine⟨m',hn,λh' jt=>⟨.ref D,H',?_,rfl,q⟩⟩;have oF:=I2.qN hC fC;exact I'.turned (t':=s'.toks) (it:=C) (λb o hb e=>jt.extBut b o hb e) fC oF.2.1 oF.2.2.2.1 oF.2.2.2.2.1 oF.2.2.2.2.2
theorem wW{i:Nat}{y:Str}{py UG:Pos}(hN:X.N.Nodup)(gG:X.N[i]? = some y)(hy:Loc X.env.scope y)(S:eE X scope cl N nt fv)(hc:X.calm=true)(hi:PI X tg iter wi)
  (hg:∀C s H fp,PG (i8 X scope cl N C s H fp) tg g) (ht:∀C s H fp,wU (i8 X scope cl N C s H fp) ifs tt) (he:∀C s H fp,PE (i8 X scope cl N C s H fp) elt te)
  (Ic:swapsWith (.ListComp elt [⟨tg,iter,ifs,0⟩] scope pos) (some (.Name y py)) UG.line X.env=pure true:=by rfl)
  (hs:∀x,foldedSetIterable iter X.env x=pure x:=by intro _;rfl) (hf:X.fn y=true\/X.env.scope.names.lookup y=some .local:=by first | exact .inl rfl | exact .inr rfl | assumption) :
  PS X (.Assign [.Name y py] (.ListComp elt [⟨tg,iter,ifs,0⟩] scope pos) UG) (yZ (lP wi g tt te nt fv) (sL i)):=by
 intro pins s σ H D' I h;rw[exec_Assign_Name_used _ _ _ _ Ic];refine aF (wpAny_standAt (aF ?_))
 show wpAny _ _ (do let _ ← comprehension (.ListComp elt [⟨tg,iter,ifs,0⟩] scope pos) scope X.env _ (newList []) false (eval iter X.env) (some (assign (.Name y py) X.env))) _ _ s
 refine aF (jh (wpAny_comprehension_free (use:=some (assign (.Name y py) X.env)) (Q:=λ_ s'=>SP X pins D' .next s') rfl hs S.p7 S.kind S.names
  (aO (hi pins s σ H _ I h) λxv s1 h1=>aO h1 λCy s2 h2=>?_)) (λ_ s' hq=>aV (aV hq)) λ_ _ e=>e)
 obtain⟨it,fp,tn,J,H2,rfl,I2,T,iI,f2,hq⟩:=h2;refine UC (RR:=λacc C=>compPost (model X.prog X.w) X.A X.xe (some (assign (.Name y py) X.env)) (λ_ s'=>SP X pins D' .next s') acc C) (Q:=λx H1=>sL i x σ H1 D'.nx) S hc hg ht he I2 T iI f2 hq λD C s' H' m' I' hn hC fC q=>?_;have oF:=I2.qN hC fC
 show wpAny _ _ (assign (.Name y py) X.env (.ref D)) _ _ _;refine wpAny_assign_Name (R0 I' hN gG hy (v:=.ref D) rfl (λwN I'' ⟨a,hsa,ha⟩=>?_) hf);have hCa:C≠a:=by
  rcases ha with z | z
  ·rw[z];exact oF.2.1
  ·exact λe=>oF.2.2.2.2.1 y a z e.symm
 refine⟨m',hn.sameBut hsa hCa,λh' jt=>⟨_,H',?_,q⟩⟩;exact I''.turned (t':=wN.toks) (it:=C) (λb o hb e=>jt.extBut b o hb e) fC oF.2.1 oF.2.2.2.1 oF.2.2.2.2.1 oF.2.2.2.2.2
end
noncomputable def zL(K:W.Frag)(a:Addr):It :=
 ⟨λi H=>∃xs x,aE K H a xs/\xs[i]? = some x,λi H v H'=>∃T x,H T=none/\v = .ref T/\(∀xs,aE K H a xs->xs[i]? = some x)/\H' = upd H T (.tup [.int i,x]),λi H=>∃xs,aE K H a xs/\xs.length<=i⟩
theorem ac_{P:Program}{w:World}{K:W.Frag}{elts:List Expr}{x1}{tp:Pos}(a e it:Addr)(Ie:e≠it) :
  Turn P w K (.Tuple elts x1 tp) (zL K a) [e,it] e (λi h=>(∃old,IsEnum h e it (i:Nat) old)/\h.IsListIter it a i) where
 mem:=by simp
 obj:=λi h st b hb=>by
  obtain⟨⟨old,he⟩,o,e1,c,d⟩:=st;rcases cg.mp hb with z | hb
  ·rw[z];exact⟨_,he,λv z=>by
    have z':Data.fields _=Data.cell v:=z;cases z'⟩
  ·have e2:b=it:=by simpa using hb
   rw[e2];exact⟨o,e1,λv z=>by rw[d] at z;cases z⟩
 keep:=λi h h' st k=>by
  obtain⟨⟨old,he⟩,hi⟩:=st;exact⟨⟨old,k e (by simp) _ he⟩,hi.at λo q=>k it (by simp) o q⟩
 item:=by
  intro X hP hw hK hc i pins s σ H E I hf st hg;subst hP hw hK;obtain⟨xs,x,hq,hx⟩:=hg;obtain⟨its,rv,p,hz⟩:=I.list hq;obtain⟨u,hu,ru⟩:=rv.get hx;obtain⟨⟨old,he⟩,hit⟩:=st;obtain⟨f0,f1,f2,f3,f4,f5⟩:=hf e (by simp)
  obtain⟨g0,g1,g2,g3,g4,g5⟩:=hf it (by simp)
  have UH:e<s.heap.objs.size:=bK he;have ada:it<s.heap.objs.size:=by obtain⟨_,z,_⟩:=hit;exact bK z
  refine wpAny_pyNext_enum_item he hit p.isList (x:=u) (by simpa using hu) Ie λh' ho Dc hT hsz hk=>?_
  refine⟨_,rfl,?_⟩;refine wpAny_letOwnedTupleGo_enum ho λwX De jt=>?_
  replace jt:Heap.SameBut e h' wX:=jt
  -- two records have turned,a tuple is new
  have I1:Inv X pins σ H { s with heap:=(s.heap),toks:=s.toks+1 }:=I.tok _;have kk:∀b o,b∉[e,it]->s.heap.get? b=some o->wX.get? b=some o:=λb o hb q=>by
   have h1:b≠e:=λz=>hb (by simp[z])
   have h2:b≠it:=λz=>hb (by simp[z])
   exact jt.extBut b o h1 (hk b o h1 h2 q)
  have yX:∀b v,H b=some v->b∉[e,it]:=λb v q hb=>by
   rcases cg.mp hb with z | hb
   ·rw[z,f0] at q;cases q
   ·have e2:b=it:=by simpa using hb
    rw[e2,g0] at q;cases q
  have UI:H s.heap.objs.size=none:=I.aL.fresh (bu _);have zM:∀b v,H b=some v->b≠s.heap.objs.size:=λb v q z=>by rw[z,UI] at q;cases q
  have adb:wX.get? s.heap.objs.size=some { cls:=.type "tuple",data:=.seq #[.int (i:Nat) s.toks,u] }:=jt.extBut _ _ (kG UH) hT;have apH:∃o,wX.get? e=some o:=⟨_,De⟩;have apI:∃o,wX.get? it=some o:=by
   obtain⟨o,q,_⟩:=Dc;exact⟨o,jt.extBut _ _ (dR Ie) q⟩
  have I2:Inv X pins σ (upd H s.heap.objs.size (.tup [.int i,x])) { s with heap:=wX,toks:=s.toks+1 }:=by
   refine I.step (g':=s.gens) (d':=s.drawn) (ch:=[e,it]) (λb hb=>?_) (λb o _ _ hc q _=>kk b o hc q) (λb o _ _ hc q _=>⟨o.slots,kk b o hc q⟩) (λb o _ q n=>?_) (λb o hc q=>⟨o,kk b o hc q⟩)
    (λb ys q=>by rw[aB (zM b _ q)];exact q) (λb o v q=>by rw[aB (zM b _ q)];exact q) (λb ps q=>⟨#[],by rw[aB (zM b _ q),q];simp⟩) (λm hm=>?_) (λb v q=>?_) I.bare
   ·rcases cg.mp hb with z | hb
    ·rw[z];exact⟨f3,f1,f4,f5⟩
    ·have e2:b=it:=by simpa using hb
     rw[e2];exact⟨g3,g1,g4,g5⟩
   ·rw[aB (b9 (bK q))];exact n
   ·obtain⟨o,es,ep,q,r⟩:=hm;exact⟨o,es,ep,kk _ o (by
     intro hb;rcases cg.mp hb with z | hb
     ·exact f1 z.symm
     ·exact g1 (by simpa using hb:X.env.locals=it).symm) q,r⟩
   ·by_cases hb:b=s.heap.objs.size
    ·subst hb;rw[aD] at q;cases q;refine⟨by show 2<=sizeLine;decide,[.int (i:Nat) s.toks,u],.cons ⟨_,rfl⟩ (.cons ru .nil),_,adb,rfl,_,rfl⟩
    ·rw[aB hb] at q;refine(I.aL b v q).kJ (λc o Cp z=>kk c o ?_ z) (λc z=>by rw[aB (zM c _ z)];exact z) (λc ys z=>by rw[aB (zM c _ z)];exact z)
     rcases Cp with z2 | z2
     ·rw[z2];exact yX b v q
     ·exact yX c _ z2
  refine⟨.ref s.heap.objs.size,_,I2,rfl,⟨_,x,UI,rfl,λys hy=>by rw[I.Sj hy hq];exact hx,rfl⟩,⟨⟨u,?_⟩,?_⟩,λb hb=>?_⟩
  ·have z:((i+1:Nat):Int)=(i:Int)+1:=by lia
   rw[z];exact De
  ·exact Dc.at λo q=>jt.extBut _ _ (dR Ie) q
  ·have bM:b<s.heap.objs.size:=by
    rcases cg.mp hb with z | hb
    ·rw[z];exact UH
    ·rw[show b=it by simpa using hb];exact ada
   rw[aB (b9 bM)];exact(hf b hb).1
 done:=by
  intro X hP hw hK hc i pins s σ H E I hf st hg;subst hP hw hK;obtain⟨xs,hq,hx⟩:=hg;obtain⟨its,rv,p,hz⟩:=I.list hq;obtain⟨⟨old,he⟩,hit⟩:=st;obtain⟨g0,g1,g2,g3,g4,g5⟩:=hf it (by simp)
  have hl:=rv.length;exact wpAny_pyNext_enum_end (I.ok.hd hc) he hit p.isList (by simp;lia) λh' eb=>⟨rfl,I.turned (t':=s.toks) (λb o hb e=>eb b o hb e) g0 g1 g3 g4 g5⟩
 self:=λ_ _ _ _ _ st h=>by
  obtain⟨⟨old,he⟩,_⟩:=st;exact wpAny_pyIter_enum he h
section
variable{X:Cx}
def Df(K:W.Frag)(ta:TA):TI:=λσ H R=>ta σ H λvs H1=>∃a,vs = [.ref a]/\(∃xs,aE K H1 a xs)/\R (zL K a) H1
theorem wY{l:Expr}{ta:TA}{p pos tp:Pos}{elts:List Expr}{x1}(hg:Gl X "enumerate")(hm:X.mg "enumerate" = none)(hl:PA X [l] ta)(hs:starEach [l] X.env = [(false,eval l X.env)]:=by rfl) :
  PI X (.Tuple elts x1 tp) (.Call (.Name "enumerate" p) [l] [] pos) (Df X.K ta):=by
 intro pins s σ H R I h;refine Call_ (mF I hg hm boot_enumerate (su (aO (hl pos pins s σ H _ I h) λus s1 ⟨vs,H1,I1,r1,q1⟩=>?_) hs rfl));obtain⟨a,e,⟨xs,hq⟩,q⟩:=q1;subst e;obtain⟨u,rfl,ru⟩:=vals1 r1;cases ru;obtain⟨its,rv,p,hz⟩:=I1.list hq;refine call_enumerate_list p.isList λh' he hit hsz hk=>?_;have I2:Inv X pins σ H1 { s1 with heap:=h' }:=I1.kept (t':=s1.toks) hk;refine wpAny_pyIter_enum he ?_;have n1:H1 (s1.heap.objs.size+1)=none:=I1.aL.fresh (oh _);have n0:H1 s1.heap.objs.size=none:=I1.aL.fresh (bu _);refine⟨s1.heap.objs.size+1,[s1.heap.objs.size+1,s1.heap.objs.size],_,_,H1,rfl,I2,ac_ a _ _ (Nat.succ_ne_self _),⟨⟨_,he⟩,hit⟩,λb hb=>?_,q⟩;rcases cg.mp hb with z | hb
 ·rw[z];exact I1.qN (oh _) n1
 ·rw[show b=s1.heap.objs.size by simpa using hb];exact I1.qN (bu _) n0
theorem ade{K:W.Frag}{a:Addr}{xs:List V}{g:TG}{tb:TS}{D:Ends}{σ:St}{H:Hp}(Pv:Nat->St->Hp->Prop)(h0:Pv 0 σ H)(hl:∀i σ H,i<=xs.length->Pv i σ H->aE K H a xs)
  (hs:∀i x σ H T,xs[i]? = some x->Pv i σ H->H T=none->g (.ref T) σ (upd H T (.tup [.int i,x])) λaA H2=>tb { D with nx:=Pv (i+1),ct:=Pv (i+1),bk:=D.nx } aA H2) (hd:∀σ H,Pv xs.length σ H->D.nx σ H) :
  ∃W:Nat->Nat->St->Hp->Prop,(∃m,W 0 m σ H)/\∀i m σ H,W i m σ H->
   ((zL K a).stop i H/\D.nx σ H)\/((zL K a).go i H/\∃N:St->Hp->Prop,(∀bq H',N bq H'->∃m',m' < m/\W (i+1) m' bq H')/\∀x H',(zL K a).pT i H x H'->g x σ H' λaA H2=>tb { D with nx:=N,ct:=N,bk:=D.nx } aA H2):=by
 refine⟨λi m σ H=>m=xs.length - i/\i<=xs.length/\Pv i σ H,⟨xs.length,by simp,eX _,h0⟩,?_⟩
 rintro i m σ H ⟨rfl,hi,p⟩;have q:=hl i σ H hi p;by_cases bM:i<xs.length
 ·refine .inr ⟨⟨xs,xs[i],q,by simp[bM]⟩,Pv (i+1),λbq H' p'=>⟨xs.length - (i+1),∅,rfl,bM,p'⟩,λx H' y=>?_⟩
  obtain⟨T,z,hT,e,y,e2⟩:=y;subst e e2;exact hs i z σ H T (y xs q) p hT
 ·have e:i=xs.length:=by lia
  subst e;exact .inl ⟨⟨xs,q,bu _⟩,hd σ H p⟩
theorem UJ(hc:X.calm=true):jo X (.builtin "sum") (λxs H Q=>∃(p:Addr) (ns:List Int),xs = [.ref p]/\aE X.K H p (ns.map V.int)/\Q (.int ns.sum) H):=by
 intro pins s σ H xs us Q I r h;obtain⟨p,ns,rfl,hq,q⟩:=h;obtain⟨u,rfl,ru⟩:=vals1 r;cases ru;obtain⟨its,rv,pl,hz⟩:=I.list hq;have hi:IntsAre its ns:=intsAre_of rv;obtain⟨xs,hx⟩:=hi.allInts.items;have hl':s.heap.IsList p (intItems xs):=hx▸pl.isList;refine sum_intListG (I.ok.hd hc) hl' λh' tk t' hk=>?_;have e1:ns=xs.toList.map (·.1):=by
  rw[← nums_intItems,← hx];exact(show numsOf its.toArray.toList=ns from hi.numsOf).symm
 have e2:preSum (numAt xs) xs.size=ns.sum:=by
  rw[preSum_eq,List.take_of_length_le (by simp),e1]
 rw[e2];exact⟨.int ns.sum,H,I.kept hk,⟨t',rfl⟩,q⟩
theorem adf:jo X (.builtin "sorted") (λxs H Q=>∃(p:Addr) (ns:List Int),xs = [.ref p]/\aE X.K H p (ns.map V.int)/\ns.length<64/\
  ∀(l:Addr) (eT:List Int),H l=none->eT.Perm ns->eT.Pairwise (·<=·)->Q (.ref l) (upd H l (.lst (eT.map V.int)))):=by
 intro pins s σ H xs us Q I r h;obtain⟨p,ns,rfl,hq,jN,q⟩:=h;obtain⟨u,rfl,ru⟩:=vals1 r;cases ru;obtain⟨its,rv,pl,hz⟩:=I.list hq;have hi:IntsAre its ns:=intsAre_of rv;have hlen:=hi.length;refine sorted_ints pl.isList hi ∅ λout eT a1 a2 a3=>?_
 obtain⟨e,he⟩:=sortedAll_at s.heap its out;have hn:H (s.heap.objs.size+1)=none:=I.aL.fresh (oh _);refine⟨.ref (s.heap.objs.size+1),upd H (s.heap.objs.size+1) (.lst (eT.map V.int)),I.laid (t':=s.toks) (λb o q=>sortedAll_old q) (oh _) ?_,rfl,q _ eT hn a2 a3⟩;refine⟨?_,out.toList,e,zI a1,by simpa using he⟩
 rw[aK,a2.length_eq];exact dQ (kF jN) ⋯
theorem UK(hc:X.calm=true):jo X (.builtin "min") (λxs H Q=>∃(p:Addr) (ns:List Int),xs = [.ref p]/\aE X.K H p (ns.map V.int)/\0<ns.length/\∀M,M∈ns->(∀a,a∈ns->M<=a)->Q (.int M) H):=by
 intro pins s σ H xs us Q I r h;obtain⟨p,ns,rfl,hq,h0,q⟩:=h;obtain⟨u,rfl,ru⟩:=vals1 r;cases ru;obtain⟨its,rv,pl,hz⟩:=I.list hq;have hi:IntsAre its ns:=intsAre_of rv;obtain⟨m,F⟩:=I.fr;refine min_list_N (I.ok.hd hc) F (GY (h:=s.heap)) pl.isList hi h0 λh' M t tk F' N' h1 h2=>?_;have kk:∀b o,b≠X.env.locals->s.heap.get? b=some o->h'.get? b=some o:=λb o hb e=>by
  cases q:X.base.get? b with
  | some z =>
   have:=F.keep b z q;rw[e] at this;cases this;exact F'.keep b _ q
  | none=>exact(N' (b,o) (RX hb q e)).1
 have nl:∀b v,H b=some v->b≠X.env.locals:=λb v e z=>by rw[z,I.free] at e;cases e
 have I':Inv X pins σ H { s with heap:=h',toks:=tk }:=by
  refine I.step (g':=s.gens) (d':=s.drawn) (ch:=[]) (λ_ z=>nomatch z) (λb o hb _ _ e _=>kk b o hb e) (λb o hb _ _ e _=>⟨o.slots,kk b o hb e⟩) (λ_ _ _ _ n=>n) (λb o _ e=>?_) (λ_ _ e=>e) (λ_ _ _ e=>e)
   (λb ps e=>⟨#[],by rw[e];simp⟩) (λm' hm=>?_) (λb v e=>(I.aL b v e).kJ (λc o hc e'=>kk c o ?_ e') (λ_ e=>e) (λ_ _ e=>e)) I.bare
  ·by_cases hb:b=X.env.locals
   ·obtain⟨o',_,_,z,_⟩:=F'.ns;exact⟨o',by rw[hb];exact z⟩
   ·exact⟨o,kk b o hb e⟩
  ·have:m' = m:=by
    obtain⟨o1,es1,UL,g1,d1,k1,z1⟩:=hm;obtain⟨o2,kR,Ig,g2,d2,k2,z2⟩:=F.ns;rw[g1] at g2;cases g2;rw[d1] at d2;cases d2
    funext x
    rw[← z1 x,← z2 x]
   rw[this];exact F'.ns
  ·rcases hc with z | z
   ·rw[z];exact nl b v e
   ·exact nl c _ z
 exact⟨.int M,H,I',⟨t,rfl⟩,q M h1 h2⟩
end
noncomputable def AllP{α:Type}(P:α->Prop):List α->Prop
 | []=>True
 | a::r=>P a/\AllP P r
theorem AllP.mem{α:Type}{P:α->Prop}:∀ {l:List α},AllP P l->∀a∈l,P a
 | _::_,h,a,hm=>by
  rcases cg.mp hm with rfl | hm
  ·exact h.1
  ·exact AllP.mem h.2 a hm
theorem eE.of{X:Cx}{scope:Scope}{cl:List (Str×Addr)}{N:List Str}{nt:Nat}{fv:List Nat}(p7:closureFor scope X.env=pure cl)(kind:scope.kind = .function)
  (oE:(scope.names.all λy=>y.2 != .cell)=true) (names:(scope.names.all λy=>y.2 != .local || scope.names.lookup y.1 == some .local)=true)
  (sub:AllP (λp:Str×Addr=>X.env.cells.lookup p.1=some p.2) cl) (has:(scope.names.all λy=>y.2 != .free || (cl.lookup y.1).isSome)=true)
  (free:fv.map (λj=>X.N[j]?)=(N.drop nt).map some) (fk:((N.drop nt).all λy=>scope.names.lookup y == some .free && X.env.scope.names.lookup y == some .cell)=true) (le:nt<=N.length) (nd:N.Nodup) :
  eE X scope cl N nt fv where
 p7:=p7
 kind:=kind
 oE:=λy hy=>by have:=qC.mp oE y hy;simpa using this
 names:=λy hy hl=>by have:=qC.mp names y hy;simp[hl] at this;exact this
 sub:=sub.mem
 has:=λy hy hl=>by
  have:=qC.mp has y hy;rw[hl] at this;exact wc.mp (by simpa only[bne_self_eq_false,Bool.false_or] using this)
 free:=free
 fk:=λy hy=>by have:=qC.mp fk y hy;simpa using this
 le:=le
 nd:=nd
theorem apJ{CX:jq}{P:Program}{w:World}{K:W.Frag}{mg:Str->Option Value}{base:Heap}{N:List Str}{qual:Str}{scope:Scope}{f:Addr}{cd:Value}{A:Around}{outer:List Env}{s:Shared}{H:Hp}{E:XK} :
  (qQ CX P w K mg base N qual scope f cd A outer s H E).K=K:=rfl
theorem apK{X:Cx}{E:Value->Shared->Prop}:(X.oz E).K=X.K:=rfl
theorem apL{X:Cx}{scope:Scope}{cl:List (Str×Addr)}{N:List Str}{C:Addr}{s:Shared}{H:Hp}{fp:List Addr}:(i8 X scope cl N C s H fp).K=X.K:=rfl
structure Zn(H:Hp)(a:Addr)(ts:List Addr)(z:List (Int×Int)):Prop where
 l:H a=some (.lst (ts.map V.ref))
 n:ts.length=z.length
 t:∀(i:Nat) (t:Addr) (p:Int×Int),ts[i]? = some t->z[i]? = some p->H t=some (.tup [.int p.1,.int p.2])
theorem Zn.same{H H':Hp}{a:Addr}{ts:List Addr}{z:List (Int×Int)}(h:Zn H a ts z)(e:aq H H'):Zn H' a ts z:=⟨e _ _ h.l,h.n,λi t p h1 h2=>e _ _ (h.t i t p h1 h2)⟩
theorem Zn.at{H:Hp}{a:Addr}{ts:List Addr}{z:List (Int×Int)}(h:Zn H a ts z){i:Nat}{x:V}(e:(ts.map V.ref)[i]? = some x):∃t p,x = .ref t/\z[i]? = some p/\H t=some (.tup [.int p.1,.int p.2]):=by
 rw[gR] at e;cases q:ts[i]? with
 | none=>rw[q] at e;cases e
 | some t =>
  rw[q] at e;have hi:i<z.length:=by rw[← h.n];exact(fD.mp q).1
  exact⟨t,z[i],(dD e).symm,bx hi,h.t i t _ q (bx hi)⟩
noncomputable def Ih(ns:List Int)(k:Int):Int:=ns.getD k.toNat 0
section
variable{K:W.Frag}{ta:TA}{tl:TE}{g:TG}{tb:TS}{D:Ends}{σ:St}{H:Hp}
theorem adg(n:Nat)(f9:∀Q:List V->Hp->Prop,Q [.int (n:Int)] H->ta σ H Q)(hn:n<1000000000)(Pv:Nat->St->Hp->Prop)(h0:Pv 0 σ H)
  (hs:∀i σ H,i<n->Pv i σ H->g (.int (i:Int)) σ H λaA H2=>tb { D with nx:=Pv (i+1),ct:=Pv (i+1),bk:=D.nx } aA H2) (hd:∀σ H,Pv n σ H->D.nx σ H):j6 (wJ ta) g tb D σ H:=by
 refine f9 _ ⟨n,rfl,∅,∅,?_⟩
 have e:((n:Int)).toNat=n:=by lia
 rw[e];refine Hg Pv h0 (λi σ H hi p=>?_) hd;have e2:(0:Int)+(i:Int)=i:=by lia
 rw[e2];exact hs i σ H hi p
theorem adh(lo hi:Int)(f9:∀Q:List V->Hp->Prop,Q [.int lo,.int hi] H->ta σ H Q)(b1 : -1000000000000<lo)(b2:lo<1000000000000)(b3 : -1000000000000<hi)(b4:hi<1000000000000)(Pv:Nat->St->Hp->Prop)(h0:Pv 0 σ H)
  (hs:∀i σ H,i<(hi - lo).toNat->Pv i σ H->g (.int (lo+(i:Int))) σ H λaA H2=>tb { D with nx:=Pv (i+1),ct:=Pv (i+1),bk:=D.nx } aA H2) (hd:∀σ H,Pv (hi - lo).toNat σ H->D.nx σ H):j6 (zc ta) g tb D σ H :=
 f9 _ ⟨lo,hi,rfl,⟨∅,∅,∅,∅⟩,Hg Pv h0 hs hd⟩
theorem adi(a:Addr)(xs:List V)(oG:∀Q:VK,Q (.ref a) H->tl σ H Q)(eL:aE K H a xs)(Pv:Nat->St->Hp->Prop)(h0:Pv 0 σ H)(hl:∀i σ H,i<=xs.length->Pv i σ H->aE K H a xs)
  (hs:∀i x σ H,xs[i]? = some x->Pv i σ H->g x σ H λaA H2=>tb { D with nx:=Pv (i+1),ct:=Pv (i+1),bk:=D.nx } aA H2) (hd:∀σ H,Pv xs.length σ H->D.nx σ H):j6 (sN K tl) g tb D σ H :=
 oG _ ⟨a,rfl,⟨xs,eL⟩,Sy Pv h0 hl hs hd⟩
theorem adk(a:Addr)(xs:List V)(f9:∀Q:List V->Hp->Prop,Q [.ref a] H->ta σ H Q)(eL:aE K H a xs)(Pv:Nat->St->Hp->Prop)(h0:Pv 0 σ H)(hl:∀i σ H,i<=xs.length->Pv i σ H->aE K H a xs)
  (hs:∀i x σ H T,xs[i]? = some x->Pv i σ H->H T=none->g (.ref T) σ (upd H T (.tup [.int i,x])) λaA H2=>tb { D with nx:=Pv (i+1),ct:=Pv (i+1),bk:=D.nx } aA H2) (hd:∀σ H,Pv xs.length σ H->D.nx σ H):j6 (Df K ta) g tb D σ H :=
 f9 _ ⟨a,rfl,⟨xs,eL⟩,ade Pv h0 hl hs hd⟩
variable{tt:TT}{te:TE}{nt:Nat}{fv:List Nat}{Q:VK}
def NX(n i:Nat)(P:Prop):Prop:=∃m',m' < n - i/\m' = n - (i+1)/\i+1<=n/\P
theorem NX.of{n i:Nat}{P:Prop}(hi:i<n)(p:P):NX n i P:=⟨n - (i+1),∅,rfl,hi,p⟩
theorem adl(lo hi:Int)(f9:∀Q:List V->Hp->Prop,Q [.int lo,.int hi] H->ta σ H Q)(b1 : -1000000000000<lo)(b2:lo<1000000000000)(b3 : -1000000000000<hi)(b4:hi<1000000000000)
  (Pv:Addr->Nat->List V->St->Hp->Prop) (h0:∀D,H D=none->Pv D 0 [] (kQ σ nt fv) (upd H D (.lst []))) (hD:∀D i ys σ H,Pv D i ys σ H->H D=some (.lst ys)/\ys.length<sizeLine)
  (hs:∀D i ys aA H2,i<(hi - lo).toNat->Pv D i ys aA H2->g (.int (lo+(i:Int))) aA H2 λbX H4=>tt bX H4 λb H5=>if b=true then te bX H5 λv H6=>H6 D=some (.lst ys)/\NX (hi - lo).toNat i (Pv D (i+1) (ys++[v]) bX (upd H6 D (.lst (ys++[v])))) else NX (hi - lo).toNat i (Pv D (i+1) ys bX H5))
  (hd:∀D ys aA H2,Pv D (hi - lo).toNat ys aA H2->Q (.ref D) H2):lP (zc ta) g tt te nt fv σ H Q:=by
 refine f9 _ ⟨lo,hi,rfl,⟨∅,∅,∅,∅⟩,λD kU=>?_⟩
 refine⟨λi m ys aA H2=>m=(hi - lo).toNat - i/\i<=(hi - lo).toNat/\Pv D i ys aA H2,⟨_,rfl,eX _,h0 D kU⟩,?_⟩;rintro i m ys aA H2 ⟨rfl,gG,p⟩;obtain⟨d1,d2⟩:=hD D i ys aA H2 p;refine⟨d1,d2,?_⟩;by_cases bM:i<(hi - lo).toNat
 ·refine .inr ⟨bM,λx H3 y=>?_⟩;obtain⟨e1,e2⟩:=y;subst e1 e2;exact hs D i ys aA _ bM p
 ·have e:i=(hi - lo).toNat:=by lia
  subst e;exact .inl ⟨bu _,hd D ys aA H2 p⟩
theorem adm(a:Addr)(xs:List V)(oG:∀Q:VK,Q (.ref a) H->tl σ H Q)(eL:aE K H a xs)
  (Pv:Addr->Nat->List V->St->Hp->Prop) (h0:∀D,H D=none->Pv D 0 [] (kQ σ nt fv) (upd H D (.lst []))) (hD:∀D i ys σ H,Pv D i ys σ H->H D=some (.lst ys)/\ys.length<sizeLine/\aE K H a xs)
  (hs:∀D i x ys aA H2,xs[i]? = some x->Pv D i ys aA H2->g x aA H2 λbX H4=>tt bX H4 λb H5=>if b=true then te bX H5 λv H6=>H6 D=some (.lst ys)/\NX xs.length i (Pv D (i+1) (ys++[v]) bX (upd H6 D (.lst (ys++[v])))) else NX xs.length i (Pv D (i+1) ys bX H5))
  (hd:∀D ys aA H2,Pv D xs.length ys aA H2->Q (.ref D) H2):lP (sN K tl) g tt te nt fv σ H Q:=by
 refine oG _ ⟨a,rfl,⟨xs,eL⟩,λD kU=>?_⟩;refine⟨λi m ys aA H2=>m=xs.length - i/\i<=xs.length/\Pv D i ys aA H2,⟨_,rfl,eX _,h0 D kU⟩,?_⟩;rintro i m ys aA H2 ⟨rfl,gG,p⟩;obtain⟨d1,d2,d3⟩:=hD D i ys aA H2 p;refine⟨d1,d2,?_⟩;by_cases bM:i<xs.length
 ·refine .inr ⟨⟨xs,xs[i],d3,by simp[bM]⟩,λx H3 y=>?_⟩
  obtain⟨e1,e2⟩:=y;subst e1;exact hs D i x ys aA _ (e2 xs d3) p
 ·have e:i=xs.length:=by lia
  subst e;exact .inl ⟨⟨xs,d3,bu _⟩,hd D ys aA H2 p⟩
end
theorem i9{ns:List Int}{k:Int}(h0:0<=k)(h:k<(ns.length:Int)):dP (ns.map V.int) k=some (.int (ns.getD k.toNat 0)):=by
 have hk:k.toNat<ns.length:=by lia
 unfold dP jL;rw[if_pos h0,if_pos (by simpa using h)]
 simp[List.getD_eq_getElem?_getD,List.getElem?_eq_getElem hk]
theorem adn{ns:List Int}(h:0<ns.length):dP (ns.map V.int) (-1)=some (.int (ns.getD (ns.length - 1) 0)):=by
 have hk:ns.length - 1<ns.length:=by lia
 unfold dP jL;rw[if_neg ⋯,if_pos (by simp;lia)]
 have e:(-1+((ns.map V.int).length:Int)).toNat=ns.length - 1:=by simp;lia
 rw[e];simp[List.getD_eq_getElem?_getD,List.getElem?_eq_getElem hk]
theorem Ii(a b:String):(Str.ofString a=Str.ofString b)=(a=b):=by
 refine propext ⟨λh=>?_,λh=>by rw[h]⟩
 rw[Str.ofString_eq_toList,Str.ofString_eq_toList] at h;have h:a.toList.map Char.toNat=b.toList.map Char.toNat:=by
  injection h with h;exact Array.toList_inj.mpr h |> λz=>by simpa using h
 have inj:∀(x y:List Char),x.map Char.toNat=y.map Char.toNat->x=y:=by
  intro x
  induction x with
  | nil=>intro y h;cases y with | nil=>rfl | cons c r=>simp at h
  | cons c r ih =>
   intro y h;cases y with
   | nil=>simp at h
   | cons d q =>
    simp only[List.map_cons,List.cons.injEq] at h;rw[ih q h.2,Char.toNat_inj.mp h.1]
 exact String.ext (inj _ _ h)
theorem ju(a b:String):(Str.ofString a == Str.ofString b)=(a == b):=by
 by_cases h:a=b
 ·subst h;simp
 ·have h2:¬ Str.ofString a=Str.ofString b:=by rw[Ii];exact h
  rw[lF.mpr h,lF.mpr h2]
structure u7(z:List (Int×Int)):Prop where
 l1:1<=z.length
 l5:z.length<=5
 r:∀p∈z,1<=p.1/\p.1<=40/\1<=p.2/\p.2<=60
 s2:2<=(z.map (·.1)).sum
 Dg:(z.map (·.1)).sum<=120
noncomputable def counts(z:List (Int×Int)):List Int:=z.flatMap λp=>List.replicate p.1.toNat p.2
structure SwOk(sw:List Int)(n:Int):Prop where
 len:(sw.length:Int)=n
 two:2<=n
 z:sw.getD 0 0=0
 pos:∀i:Nat,1<=i->i<sw.length->1<=sw.getD i 0/\sw.getD i 0<=1000000000
 up:∀i:Nat,1<=i->i<sw.length->sw.getD (i - 1) 0<=sw.getD i 0
 no:∀a b:Nat,1<=a->1<=b->a+b<sw.length->sw.getD (a+b) 0<=sw.getD a 0+sw.getD b 0
noncomputable def eN(s:Int):Nat->List Int->List (Int×Int)
 | _,[]=>[]
 | r,c::cs=>(List.range (c - s).toNat).map (λ(k:Nat)=>((r:Int),(k:Int)))++eN s (r+1) cs
noncomputable def cL(rc:List Int)(s:Int):List (Int×Int):=eN s 0 rc
noncomputable def kT(p:Int×Int):List Key:=[.inl p.1,.inl p.2]
noncomputable def lQ:Nat->List (Int×Int)->List (List Key×V)->List (List Key×V)
 | _,[],acc=>acc
 | i,p::r,acc=>lQ (i+1) r (putK acc (kT p) (.int i))
noncomputable def Ij(z:List (Int×Int)):List (List Key×V):=lQ 0 z []
theorem Ik(s:Int):∀(xs ys:List Int) (r:Nat),eN s r (xs++ys)=eN s r xs++eN s (r+xs.length) ys
 | [],ys,r=>by simp[eN]
 | x::xs,ys,r=>by
  rw[ur,eN,eN,Ik s xs ys (r+1),qD,gA];congr 3;lia
theorem UM:∀(xs ys:List (Int×Int)) (i:Nat) (acc:List (List Key×V)),lQ i (xs++ys) acc=lQ (i+xs.length) ys (lQ i xs acc)
 | [],ys,i,acc=>by simp[lQ]
 | x::xs,ys,i,acc=>by
  rw[ur,lQ,lQ,UM xs ys (i+1),gA];congr 1;lia
theorem UN:∀(xs:List (Int×Int)) (i:Nat) (acc:List (List Key×V)),(lQ i xs acc).length<=acc.length+xs.length
 | [],i,acc=>by simp[lQ]
 | x::xs,i,acc=>by
  rw[lQ];have h1:=UN xs (i+1) (putK acc (kT x) (.int i));have h2:=CZ acc (kT x) (.int i);rw[gA];lia
theorem UO(x y:List (Int×Int)):counts (x++y)=counts x++counts y:=by simp[counts]
theorem wZ:∀(z:List (Int×Int)),(∀p∈z,1<=p.1)->((counts z).length:Int)=(z.map (·.1)).sum
 | [],_=>rfl
 | p::z,h=>by
  have ih:=wZ z λp hp=>h p (cB _ hp);have h1:=h p eB;simp only[counts,List.flatMap_cons,List.length_append,List.length_replicate,List.map_cons,List.sum_cons] at ih ⊢;lia
theorem UP{z:List (Int×Int)}(ok:u7 z)(i:Nat):(counts (z.take i)).length<=120:=by
 have h0:=wZ z λp hp=>(ok.r p hp).1;have e:z=z.take i++z.drop i:=(uw i z).symm;have e2:(counts z).length=(counts (z.take i)).length+(counts (z.drop i)).length:=by
  rw[← fE,← UO,uw]
 have:=ok.Dg;lia
theorem w6{z:List (Int×Int)}{c:Int}(h:c∈counts z):∃p∈z,c=p.2:=by
 obtain⟨p,hp,hc⟩:=r9.mp h;exact⟨p,hp,(List.mem_replicate.mp hc).2⟩
theorem Dh{s:Int}(hs:0<=s):∀(rc:List Int) (r:Nat),(∀c∈rc,0<=c/\c<=1000)->(eN s r rc).length<=1000*rc.length
 | [],_,_=>by simp[eN]
 | c::rc,r,h=>by
  have ih:=Dh hs rc (r+1) λc hc=>h c (cB _ hc);have h1:=h c eB;simp only[eN,List.length_append,List.length_map,List.length_range,List.length_cons];lia
theorem UQ{s:Int}(hs:0<=s){rc:List Int}(h:∀c∈rc,0<=c/\c<=1000)(i:Nat):(eN s 0 (rc.take i)).length<=1000*rc.length:=by
 have h1:=Dh hs (rc.take i) 0 λc hc=>h c (yH hc);rw[fc] at h1;have h2:1000*min i rc.length<=1000*rc.length:=Nat.mul_le_mul_left _ (Nat.min_le_right _ _);exact dQ h1 h2
theorem mT:sizeLine=16777216:=by decide
theorem UR(n:Nat)(c:Int):(List.replicate n [V.int c]).flatten=(List.replicate n c).map V.int:=by
 induction n with
 | zero=>rfl
 | succ n ih=>rw[qI,vZ,ih,qI,c9];rfl
theorem US{α:Type}{l:List α}{i:Nat}{x:α}(h:l[i]? = some x):i<l.length:=(fD.mp h).1
theorem take_succ_get{α:Type}{l:List α}{i:Nat}{x:α}(h:l[i]? = some x):l.take (i+1)=l.take i++[x]:=by
 rw[List.take_add_one,h];rfl
theorem sY(l:List Int){i:Nat}(h:i<l.length):l[i]? = some (l.getD i 0):=by
 simp[List.getD_eq_getElem?_getD,List.getElem?_eq_getElem h]
theorem iL{α β:Type}{f:α->β}{l:List α}{i:Nat}{y:β}(h:(l.map f)[i]? = some y):∃x,l[i]? = some x/\y=f x:=by
 rw[gR] at h;cases e:l[i]? with
 | none=>rw[e] at h;cases h
 | some x=>rw[e] at h;exact⟨x,rfl,(dD h).symm⟩
theorem get_mem{α:Type}{l:List α}{i:Nat}{x:α}(h:l[i]? = some x):x∈l:=iC h
theorem gH{α:Type}{l:List α}{i:Nat}{x:α}(h:l[i]? = some x):i<l.length:=(fD.mp h).1
theorem aq.put{H:Hp}{a:Addr}{o:HO}(h:H a=none):aq H (upd H a o):=λb u e=>by rw[aB (b7 e h)];exact e
theorem aq.put2{H H':Hp}{a:Addr}{o:HO}(s:aq H H')(h:H a=none):aq H (upd H' a o):=λb u e=>by rw[aB (b7 e h)];exact s b u e
theorem Zn.sq{K:W.Frag}{H:Hp}{a:Addr}{ts:List Addr}{z:List (Int×Int)}(h:Zn H a ts z):aE K H a (ts.map V.ref):=aE.of h.l
section
variable{X:Cx}{K:W.Frag}
theorem ado(h:X.K=K):mK X (CT K):=h▸lM
theorem adp(h:X.K=K):mK X (CQ K):=h▸mL
end
section
variable{K:W.Frag}{ta:TA}{tl:TE}{g:TG}{tb:TS}{D:Ends}{σ:St}{H:Hp}
theorem rl(a:Addr)(xs:List V)(Pv:Nat->St->Hp->Prop)(oG:∀Q:VK,Q (.ref a) H->tl σ H Q)(eL:aE K H a xs)(h0:Pv 0 σ H)(hl:∀i σ H,i<=xs.length->Pv i σ H->aE K H a xs)
  (hs:∀i x σ H (N:St->Hp->Prop),(∀σ H,Pv (i+1) σ H->N σ H)->xs[i]? = some x->Pv i σ H->g x σ H λaA H2=>tb { D with nx:=N,ct:=N,bk:=D.nx } aA H2) (hd:∀σ H,Pv xs.length σ H->D.nx σ H):j6 (sN K tl) g tb D σ H :=
 adi a xs oG eL Pv h0 hl (λi x σ H hx p=>hs i x σ H _ (λ_ _ z=>z) hx p) hd
theorem UT(n:Nat)(Pv:Nat->St->Hp->Prop)(f9:∀Q:List V->Hp->Prop,Q [.int (n:Int)] H->ta σ H Q)(hn:n<1000000000)(h0:Pv 0 σ H)
  (hs:∀i σ H (N:St->Hp->Prop),(∀σ H,Pv (i+1) σ H->N σ H)->i<n->Pv i σ H->g (.int (i:Int)) σ H λaA H2=>tb { D with nx:=N,ct:=N,bk:=D.nx } aA H2) (hd:∀σ H,Pv n σ H->D.nx σ H):j6 (wJ ta) g tb D σ H :=
 adg n f9 hn Pv h0 (λi σ H hx p=>hs i σ H _ (λ_ _ z=>z) hx p) hd
theorem zN(lo hi:Int)(Pv:Nat->St->Hp->Prop)(f9:∀Q:List V->Hp->Prop,Q [.int lo,.int hi] H->ta σ H Q)(b1 : -1000000000000<lo)(b2:lo<1000000000000)(b3 : -1000000000000<hi)(b4:hi<1000000000000)(h0:Pv 0 σ H)
  (hs:∀i σ H (N:St->Hp->Prop),(∀σ H,Pv (i+1) σ H->N σ H)->i<(hi - lo).toNat->Pv i σ H->g (.int (lo+(i:Int))) σ H λaA H2=>tb { D with nx:=N,ct:=N,bk:=D.nx } aA H2) (hd:∀σ H,Pv (hi - lo).toNat σ H->D.nx σ H):j6 (zc ta) g tb D σ H :=
 adh lo hi f9 b1 b2 b3 b4 Pv h0 (λi σ H hx p=>hs i σ H _ (λ_ _ z=>z) hx p) hd
theorem u_(n:Int)(Pv:Nat->St->Hp->Prop)(f9:∀Q:List V->Hp->Prop,Q [.int n] H->ta σ H Q)(zO : -1000000000000<n)(hn:n<1000000000000)(h0:Pv 0 σ H)
  (hs:∀i σ H (N:St->Hp->Prop),(∀σ H,Pv (i+1) σ H->N σ H)->i<n.toNat->Pv i σ H->g (.int (i:Int)) σ H λaA H2=>tb { D with nx:=N,ct:=N,bk:=D.nx } aA H2) (hd:∀σ H,Pv n.toNat σ H->D.nx σ H):j6 (wJ ta) g tb D σ H:=by
 refine f9 _ ⟨n,rfl,∅,∅,?_⟩
 refine Hg Pv h0 (λi σ H hi p=>?_) hd;have e2:(0:Int)+(i:Int)=i:=by lia
 rw[e2];exact hs i σ H _ (λ_ _ z=>z) hi p
theorem re(a:Addr)(xs:List V)(Pv:Nat->St->Hp->Prop)(f9:∀Q:List V->Hp->Prop,Q [.ref a] H->ta σ H Q)(eL:aE K H a xs)(h0:Pv 0 σ H)(hl:∀i σ H,i<=xs.length->Pv i σ H->aE K H a xs)
  (hs:∀i x σ H T (N:St->Hp->Prop),(∀σ H,Pv (i+1) σ H->N σ H)->xs[i]? = some x->Pv i σ H->H T=none->g (.ref T) σ (upd H T (.tup [.int i,x])) λaA H2=>tb { D with nx:=N,ct:=N,bk:=D.nx } aA H2) (hd:∀σ H,Pv xs.length σ H->D.nx σ H):j6 (Df K ta) g tb D σ H :=
 adk a xs f9 eL Pv h0 hl (λi x σ H T hx p hT=>hs i x σ H T _ (λ_ _ z=>z) hx p hT) hd
def w_(K:W.Frag)(a:Addr)(g:TG)(tb:TS)(D:Ends)(σ:St)(H:Hp):Prop:=(∃xs,aE K H a xs)/\∃W:Nat->Nat->St->Hp->Prop,(∃m,W 0 m σ H)/\∀i m σ H,W i m σ H->
 ((sM K a).stop i H/\D.nx σ H)\/((sM K a).go i H/\∃N:St->Hp->Prop,(∀bq H',N bq H'->∃m',m' < m/\W (i+1) m' bq H')/\∀x H',(sM K a).pT i H x H'->g x σ H' λaA H2=>tb { D with nx:=N,ct:=N,bk:=D.nx } aA H2)
theorem Il(h:tl σ H λx H1=>∃a,x = .ref a/\w_ K a g tb D σ H1):j6 (sN K tl) g tb D σ H:=h
theorem w_.by(a:Addr)(xs:List V)(Pv:Nat->St->Hp->Prop)(eL:aE K H a xs)(h0:Pv 0 σ H)(hl:∀i σ H,i<=xs.length->Pv i σ H->aE K H a xs)
  (hs:∀i x σ H (N:St->Hp->Prop),(∀σ H,Pv (i+1) σ H->N σ H)->xs[i]? = some x->Pv i σ H->g x σ H λaA H2=>tb { D with nx:=N,ct:=N,bk:=D.nx } aA H2) (hd:∀σ H,Pv xs.length σ H->D.nx σ H):w_ K a g tb D σ H :=
 ⟨⟨xs,eL⟩,Sy Pv h0 hl (λi x σ H hx p=>hs i x σ H _ (λ_ _ z=>z) hx p) hd⟩
variable{tt:TT}{te:TE}{nt:Nat}{fv:List Nat}{Q:VK}
theorem adq(lo hi:Int)(Pv:Addr->Nat->List V->St->Hp->Prop)(f9:∀Q:List V->Hp->Prop,Q [.int lo,.int hi] H->ta σ H Q)(b1 : -1000000000000<lo)(b2:lo<1000000000000)(b3 : -1000000000000<hi)(b4:hi<1000000000000)
  (h0:∀D,H D=none->Pv D 0 [] (kQ σ nt fv) (upd H D (.lst []))) (hD:∀D i ys σ H,Pv D i ys σ H->H D=some (.lst ys)/\ys.length<sizeLine)
  (hs:∀D i ys aA H2 (N:List V->St->Hp->Prop),(∀ys σ H,Pv D (i+1) ys σ H->N ys σ H)->i<(hi - lo).toNat->Pv D i ys aA H2->g (.int (lo+(i:Int))) aA H2 λbX H4=>tt bX H4 λb H5=>if b=true then te bX H5 λv H6=>H6 D=some (.lst ys)/\N (ys++[v]) bX (upd H6 D (.lst (ys++[v]))) else N ys bX H5)
  (hd:∀D ys aA H2,Pv D (hi - lo).toNat ys aA H2->Q (.ref D) H2):lP (zc ta) g tt te nt fv σ H Q :=
 adl lo hi f9 b1 b2 b3 b4 Pv h0 hD (λD i ys aA H2 hi p=>hs D i ys aA H2 _ (λ_ _ _ z=>NX.of hi z) hi p) hd
theorem p8(a:Addr)(xs:List V)(Pv:Addr->Nat->List V->St->Hp->Prop)(oG:∀Q:VK,Q (.ref a) H->tl σ H Q)(eL:aE K H a xs)
  (h0:∀D,H D=none->Pv D 0 [] (kQ σ nt fv) (upd H D (.lst []))) (hD:∀D i ys σ H,Pv D i ys σ H->H D=some (.lst ys)/\ys.length<sizeLine/\aE K H a xs)
  (hs:∀D i x ys aA H2 (N:List V->St->Hp->Prop),(∀ys σ H,Pv D (i+1) ys σ H->N ys σ H)->xs[i]? = some x->Pv D i ys aA H2->g x aA H2 λbX H4=>tt bX H4 λb H5=>if b=true then te bX H5 λv H6=>H6 D=some (.lst ys)/\N (ys++[v]) bX (upd H6 D (.lst (ys++[v]))) else N ys bX H5)
  (hd:∀D ys aA H2,Pv D xs.length ys aA H2->Q (.ref D) H2):lP (sN K tl) g tt te nt fv σ H Q :=
 adm a xs oG eL Pv h0 hD (λD i x ys aA H2 hx p=>hs D i x ys aA H2 _ (λ_ _ _ z=>NX.of (fD.mp hx).1 z) hx p) hd
end
theorem mU{K:W.Frag}{H:Hp}{σ:St}{t:Addr}{x y:V}{n i j:Nat}{Q:St->Hp->Prop}(h:aY K H t [x,y])(hn:2=n)(q:Q ((σ.set i (some x)).set j (some y)) H):Cv K n (Cu (sL i) (Cu (sL j) G7)) (.ref t) σ H Q :=
 ⟨t,[x,y],rfl,h,hn,x,[y],rfl,y,[],rfl,rfl,q⟩
theorem lenZ{ts:List Addr}{z:List (Int×Int)}(h:ts.length=z.length):(ts.map V.ref).length=z.length:=by simpa using h
theorem Zn.snoc{H:Hp}{l p:Addr}{ts:List Addr}{z:List (Int×Int)}(h:Zn H l ts z)(hp:H p=none)(a b:Int):Zn (upd (upd H p (.tup [.int a,.int b])) l (.lst (ts.map V.ref++[V.ref p]))) l (ts++[p]) (z++[(a,b)]):=by
 have Di:l≠p:=b7 h.l hp;refine⟨by rw[aD,bO];rfl,by simp[h.n],λi t q e1 e2=>?_⟩
 have hn:=h.n;by_cases hi:i<ts.length
 ·rw[gw hi] at e1;rw[gw ∅] at e2
  have ht:=h.t i t q e1 e2;rw[aB (jH ht h.l (by intro z;cases z)),aB (b7 ht hp)]
  exact ht
 ·rw[gz ∅] at e1
  rw[gz ∅] at e2
  have f_:i - ts.length=0:=by
   have:=US e1;simp at this;lia
  rw[f_] at e1;rw[← hn,f_] at e2;simp at e1 e2;subst e1 e2;rw[aB Di.symm,aD]
def ads(t:TS):TS:=λD σ H=>∃M:St->Hp->Prop,t { D with nx:=M } σ H/\∀fh H1,M fh H1->D.nx fh H1
theorem adt{X:Cx}{st:Stmt}{t:TS}(h:PS X st t):PS X st (ads t):=by
 rintro pins s σ H D I ⟨M,hM,k⟩;refine aO (h pins s σ H _ I hM) λf s1 q=>?_;cases f with
 | next=>obtain⟨fh,H1,I1,q⟩:=q;exact⟨fh,H1,I1,k _ _ q⟩
 | brk=>exact q
 | cont=>exact q
 | ret u=>exact q
def adu(K:W.Frag):Sp:=λvs H Q _=>∃(a:Addr) (ts:List Addr) (z:List (Int×Int)),vs = [.ref a]/\Zn H a ts z/\u7 z/\∀H',aq H H'->Q .aR H'
def adv(K:W.Frag):Sp:=λvs H Q _=>∃(a:Addr) (ts:List Addr) (z:List (Int×Int)) (aG cM:Int),vs = [.ref a,.int aG,.int cM]/\Zn H a ts z/\u7 z/\1<=aG/\aG<=1000000000/\0<=cM/\cM<aG/\
 (∀p∈z,aG % p.2=0)/\Q .aR H
def adw(K:W.Frag):Sp:=λvs H Q _=>∃(a:Addr) (sw:List Int) (n:Int),vs = [.ref a,.int n]/\aE K H a (sw.map V.int)/\SwOk sw n/\n<=1000/\Q .aR H
def adx(K:W.Frag):Sp:=λvs H Q _=>∃(a:Addr) (sw:List Int) (n:Int),vs = [.ref a]/\aE K H a (sw.map V.int)/\SwOk sw n/\n<=1000/\Q .aR H
def ady(K:W.Frag):Sp:=λvs H Q _=>∃(a:Addr) (ts:List Addr) (z:List (Int×Int)),vs = [.ref a]/\Zn H a ts z/\u7 z/\
 ∀l H',aq H H'->H l=none->H' l=some (.lst ((counts z).map V.int))->Q (.ref l) H'
def adz(K:W.Frag):Sp:=λvs H Q _=>∃(a:Addr) (rc:List Int) (s:Int),vs = [.ref a,.int s]/\aE K H a (rc.map V.int)/\rc.length<=1000/\(∀c∈rc,0<=c/\c<=1000)/\0<=s/\s<=1000/\
 ∀l ts H',aq H H'->H l=none->(∀t∈ts,H t=none)->Zn H' l ts (cL rc s)->Q (.ref l) H'
def adA(K:W.Frag):Sp:=λvs H Q _=>∃(a:Addr) (ts:List Addr) (z:List (Int×Int)),vs = [.ref a]/\Zn H a ts z/\z.length<=1000000/\
 ∀d H',aq H H'->H d=none->H' d=some (.dT (Ij z))->Q (.ref d) H'
structure Pl where
 rc:List Int
 aG:Int
 cM:Int
 sw:List Int
 nc:List (Int×Int)
structure CP(K:W.Frag)(C:Addr):Prop where
 cl:dW K C
 n1:bL K C "ring_cells"
 n2:bL K C "lap"
 n3:bL K C "skew"
 n4:bL K C "swing"
 n5:bL K C "number_cells"
 n6:bL K C "cell_numbers"
noncomputable def vc(a1:Addr)(aG cM:Int)(a2 a3 a4:Addr):List (Str×V):=[("ring_cells",.ref a1),("lap",.int aG),("skew",.int cM),("swing",.ref a2),("number_cells",.ref a3),("cell_numbers",.ref a4)]
structure q8(K:W.Frag)(C:Addr)(H:Hp)(p:Addr)(P:Pl)(dx a1 a2 a3 a4:Addr)(ts:List Addr)(fs:List (Str×V)):Prop where
 cp:CP K C
 o:H p=some (.ins C dx fs)
 f1:fs.lookup ("ring_cells" : Str)=some (.ref a1)
 f2:fs.lookup ("lap" : Str)=some (.int P.aG)
 f3:fs.lookup ("skew" : Str)=some (.int P.cM)
 f4:fs.lookup ("swing" : Str)=some (.ref a2)
 f5:fs.lookup ("number_cells" : Str)=some (.ref a3)
 f6:fs.lookup ("cell_numbers" : Str)=some (.ref a4)
 m1:fs.lookup ("rings" : Str)=none
 m2:fs.lookup ("total" : Str)=none
 m3:fs.lookup ("cells_of" : Str)=none
 m4:fs.lookup ("beats_of" : Str)=none
 m5:fs.lookup ("lap_beats" : Str)=none
 m6:fs.lookup ("begins" : Str)=none
 m7:fs.lookup ("swing_of" : Str)=none
 m8:fs.lookup ("has_cell" : Str)=none
 m9:fs.lookup ("cell_at" : Str)=none
 jv:fs.lookup ("number_of" : Str)=none
 jw:fs.lookup ("laid" : Str)=none
 rc:H a1=some (.lst (P.rc.map V.int))
 sw:H a2=some (.lst (P.sw.map V.int))
 nc:Zn H a3 ts P.nc
 cn:H a4=some (.dT (Ij P.nc))
theorem q8.lit{K:W.Frag}{C:Addr}{H:Hp}{p:Addr}{P:Pl}{dx a1 a2 a3 a4:Addr}{ts:List Addr}(cp:CP K C)(o:H p=some (.ins C dx (vc a1 P.aG P.cM a2 a3 a4)))(rc:H a1=some (.lst (P.rc.map V.int)))(sw:H a2=some (.lst (P.sw.map V.int)))
  (nc:Zn H a3 ts P.nc) (cn:H a4=some (.dT (Ij P.nc))):q8 K C H p P dx a1 a2 a3 a4 ts (vc a1 P.aG P.cM a2 a3 a4):=by
 refine⟨cp,o,?_,?_,?_,?_,?_,?_,?_,?_,?_,?_,?_,?_,?_,?_,?_,?_,?_,rc,sw,nc,cn⟩ <;> simp[vc,List.lookup_cons,ju]
def dG(K:W.Frag)(C:Addr)(H:Hp)(p:Addr)(P:Pl)(fp:List Addr):Prop:=∃dx a1 a2 a3 a4 ts fs,fp=a1::a2::a3::a4::ts/\q8 K C H p P dx a1 a2 a3 a4 ts fs
theorem Zn.keep{H H':Hp}{a:Addr}{ts:List Addr}{z:List (Int×Int)}(h:Zn H a ts z)(ha:H' a=H a)(ht:∀t∈ts,H' t=H t):Zn H' a ts z :=
 ⟨ha.trans h.l,h.n,λi t p e1 e2=>(ht t (iC e1)).trans (h.t i t p e1 e2)⟩
theorem Zn.has{H:Hp}{a:Addr}{ts:List Addr}{z:List (Int×Int)}(h:Zn H a ts z){t:Addr}(ht:t∈ts):∃o,H t=some o:=by
 obtain⟨i,hi,rfl⟩:=r_.mp ht;have hz:i<z.length:=by rw[← h.n];exact hi
 exact⟨_,h.t i _ _ (bx hi) (bx hz)⟩
section
variable{K:W.Frag}{C:Addr}{H H':Hp}{p x:Addr}{P:Pl}{fp:List Addr}
theorem q8.move{dx a1 a2 a3 a4:Addr}{ts:List Addr}{fs:List (Str×V)}(h:q8 K C H p P dx a1 a2 a3 a4 ts fs)(ho:H' p=H p)(h1:H' a1=H a1)(h2:H' a2=H a2)(h3:H' a3=H a3)(h4:H' a4=H a4)(ht:∀t∈ts,H' t=H t):q8 K C H' p P dx a1 a2 a3 a4 ts fs :=
 { h with o:=ho.trans h.o,rc:=h1.trans h.rc,sw:=h2.trans h.sw,nc:=h.nc.keep h3 ht,cn:=h4.trans h.cn }
theorem dG.keep(h:dG K C H p P fp)(hp:H' p=H p)(e:∀b∈fp,H' b=H b):dG K C H' p P fp:=by
 obtain⟨dx,a1,a2,a3,a4,ts,fs,rfl,h⟩:=h;exact⟨dx,a1,a2,a3,a4,ts,fs,rfl,h.move hp (e a1 (by simp)) (e a2 (by simp)) (e a3 (by simp)) (e a4 (by simp)) λt ht=>e t (by simp[ht])⟩
theorem dG.has(h:dG K C H p P fp){b:Addr}(hb:b∈fp):∃o,H b=some o:=by
 obtain⟨iw,a1,a2,a3,a4,ts,fs,rfl,h⟩:=h;simp only[List.mem_cons] at hb;rcases hb with rfl | rfl | rfl | rfl | hb
 ·exact⟨_,h.rc⟩
 ·exact⟨_,h.sw⟩
 ·exact⟨_,h.nc.l⟩
 ·exact⟨_,h.cn⟩
 ·exact h.nc.has hb
theorem dG.here(h:dG K C H p P fp):∃o,H p=some o:=by
 obtain⟨iw,a1,a2,a3,a4,ts,fs,rfl,h⟩:=h;exact⟨_,h.o⟩
theorem dG.same(h:dG K C H p P fp)(s:aq H H'):dG K C H' p P fp:=by
 refine h.keep ?_ λb hb=>?_
 ·obtain⟨o,e⟩:=h.here;rw[e];exact s _ _ e
 ·obtain⟨o,e⟩:=h.has hb;rw[e];exact s _ _ e
def SameBut(x:Addr)(H H':Hp):Prop:=∀b o,H b=some o->b≠x->H' b=some o
theorem SameBut.put{o:HO}(s:SameBut x H H'):SameBut x H (upd H' x o):=λb u e h=>by rw[aB h];exact s b u e h
theorem SameBut.step{H1 H2:Hp}(s:SameBut x H H1)(t:aq H1 H2):SameBut x H H2:=λb u e h=>t _ _ (s b u e h)
theorem SameBut.start{o:HO}:SameBut x H (upd H x o):=λb u e h=>by rw[aB h];exact e
theorem SameBut.of(s:aq H H'):SameBut x H H':=λb u e _=>s _ _ e
end
def adB(K:W.Frag):Sp:=λvs H Q _=>∃(C p dx za sa:Addr) (oH:List Addr) (z:List (Int×Int)) (aG cM:Int) (sw:List Int),vs = [.ref p,.ref za,.int aG,.int cM,.ref sa]/\CP K C/\H p=some (.ins C dx [])/\Zn H za oH z/\u7 z/\
 1<=aG/\aG<=1000000000/\0<=cM/\cM<aG/\(∀p∈z,aG % p.2=0)/\aE K H sa (sw.map V.int)/\SwOk sw (z.map (·.1)).sum/\
 ∀H' dx a1 a2 a3 a4 ts,SameBut p H H'->(∀b∈a1::a2::a3::a4::ts,H b=none)->H' p=some (.ins C dx (vc a1 aG cM a2 a3 a4))->q8 K C H' p ⟨counts z,aG,cM,sw,cL (counts z) 0⟩ dx a1 a2 a3 a4 ts (vc a1 aG cM a2 a3 a4)->Q .aR H'
def adC(K:W.Frag):Sp:=λvs H Q _=>∃(C p:Addr) (P:Pl) (fp:List Addr) (i j:Int),vs = [.ref p,.int i,.int j]/\dG K C H p P fp/\(i - j).natAbs<P.sw.length/\Q (.int (P.sw.getD (i - j).natAbs 0)) H
def adD(K:W.Frag):Sp:=λvs H Q _=>∃(C p:Addr) (P:Pl) (fp:List Addr),vs = [.ref p]/\dG K C H p P fp/\Q (.int P.rc.length) H
def adE(K:W.Frag):Sp:=λvs H Q _=>∃(C p:Addr) (P:Pl) (fp:List Addr),vs = [.ref p]/\dG K C H p P fp/\Q (.int P.aG) H
def adF(K:W.Frag):Sp:=λvs H Q _=>∃(C p:Addr) (P:Pl) (fp:List Addr) (r:Int),vs = [.ref p,.int r]/\dG K C H p P fp/\0<=r/\r<P.rc.length/\0<P.rc.getD r.toNat 0/\P.rc.getD r.toNat 0<=1000/\Q (.int (P.aG / P.rc.getD r.toNat 0)) H
def adG(K:W.Frag)(cs:List Addr):Sp:=λvs H Q _=>∃(C p:Addr) (P:Pl) (fp:List Addr) (r c:Int),vs = [.ref p,.int r,.int c]/\C∈cs/\dG K C H p P fp/\0<=r/\r<P.rc.length/\P.rc.length<=1000/\0<P.rc.getD r.toNat 0/\P.rc.getD r.toNat 0<=1000/\
 0<=c/\c<=1000/\0<P.aG/\Q (.int ((c*(P.aG / P.rc.getD r.toNat 0)+r*P.cM) % P.aG)) H
def adH(K:W.Frag):Sp:=λvs H Q _=>∃(C p:Addr) (P:Pl) (fp:List Addr) (r c:Int),vs = [.ref p,.int r,.int c]/\dG K C H p P fp/\Q (.bl (decide (0<=r/\r<P.rc.length/\0<=c/\c<P.rc.getD r.toNat 0))) H
def adI(K:W.Frag):Sp:=λvs H Q _=>∃(C p:Addr) (P:Pl) (fp:List Addr) (k:Int),vs = [.ref p,.int k]/\dG K C H p P fp/\0<=k/\k<P.nc.length/\∀t q,P.nc[k.toNat]? = some q->H t=some (.tup [.int q.1,.int q.2])->Q (.ref t) H
noncomputable def fj(z:List (Int×Int)):Int:=z.foldl (λp x=>p*x.2) 1
theorem range_getD{f:Nat->Int}{n i:Nat}(h:i<n):((List.range n).map f).getD i 0=f i:=by
 simp[List.getD_eq_getElem?_getD,h]
theorem adJ{L:Int}(h:1<=L)(h8:L<=100000000){ns:List Int}(hb:∀x∈ns,L<=x/\x<=2*L)(hp:ns.Pairwise (·<=·))(h1:1<=ns.length):SwOk (0::ns) ((ns.length+1:Nat):Int):=by
 have at_:∀i:Nat,1<=i->i<(0::ns).length->∃hi:i - 1<ns.length,(0::ns).getD i 0=ns[i - 1]:=λi h1 hi=>by
  obtain⟨j,rfl⟩:∃j,i=j+1:=⟨i - 1,∅⟩
  have hj:j<ns.length:=by simpa using hi
  exact⟨hj,by simp[List.getD_eq_getElem?_getD,List.getElem?_eq_getElem hj]⟩
 refine⟨by simp,∅,rfl,λi h1 hi=>?_,λi h1 hi=>?_,λa b ha gS i_=>?_⟩
 ·obtain⟨hj,e⟩:=at_ i h1 hi;have:=hb _ (cU hj);rw[e];lia
 ·obtain⟨hj,e⟩:=at_ i h1 hi;rw[e];by_cases h2:i=1
  ·subst h2;have:=hb _ (cU hj)
   show (0:Int)<=_;lia
  ·obtain⟨hj2,e2⟩:=at_ (i - 1) ∅ ∅
   rw[e2];exact v_.mp hp _ _ hj2 hj ∅
 ·obtain⟨h1,e1⟩:=at_ (a+b) ∅ i_
  obtain⟨h2,e2⟩:=at_ a ha ∅
  obtain⟨h3,e3⟩:=at_ b gS ∅
  have:=hb _ (cU h1);have:=hb _ (cU h2);have:=hb _ (cU h3);rw[e1,e2,e3];lia
structure ZL(z:List (Int×Int)):Prop where
 ok:u7 z
 pr:fj z<=32768
 sm:(z.map (·.1)).sum<=15
theorem prodF(z:List (Int×Int)):∀p:Int,z.foldl (λp x=>p*x.2) p=p*fj z:=by
 induction z with
 | nil=>intro p;simp[fj]
 | cons x z ih =>
  intro p;rw[fj,qF,qF,ih,ih (1*x.2),vW,Int.mul_assoc]
theorem Im(x:Int×Int)(z:List (Int×Int)):fj (x::z)=x.2*fj z:=by
 rw[fj,qF,prodF,vW]
theorem adK(x:Int×Int)(z:List (Int×Int)):fj (z++[x])=fj z*x.2:=by
 rw[fj,BV];rfl
theorem Dj{m:Int}(hm:1<=m):∀z:List (Int×Int),(∀p∈z,1<=p.2/\p.2<=m)->1<=fj z/\fj z<=m ^ z.length
 | [],_=>by simp[fj]
 | x::z,h=>by
  have ih:=Dj hm z λp hp=>h p (cB _ hp);have hx:=h x eB;rw[Im,gA,Int.pow_succ,Int.mul_comm (m ^ z.length)];constructor
  ·have:=rY hx.1 ih.1 ⋯ ∅
   lia
  ·exact rY hx.2 ih.2 ∅ ∅
theorem UU{x:Int×Int}:∀ {z:List (Int×Int)},x∈z->x.2 ∣ fj z
 | y::z,h=>by
  rw[Im];rcases cg.mp h with rfl | h
  ·exact Int.dvd_mul_right _ _
  ·exact Int.dvd_trans (UU h) (Int.dvd_mul_left _ _)
theorem UW{m:Int}(hm:1<=m){a b:Nat}(h:a<=b):m ^ a<=m ^ b:=by
 induction h with
 | refl=>exact iW _
 | @step b h ih =>
  rw[Int.pow_succ];have h1:1<=m ^ b:=by
   clear ih h
   induction b with
   | zero=>simp
   | succ b ih =>
    rw[Int.pow_succ];have:=rY ih hm ⋯ ∅
    lia
  have:=rY (iW (m ^ b)) hm ⋯ ∅
  lia
theorem ite_no{c A B:Prop}[Decidable c](h:¬ c)(b:B):if c then A else B:=by rw[if_neg h];exact b
theorem ite_yes{c A B:Prop}[Decidable c](h:c)(a:A):if c then A else B:=by rw[if_pos h];exact a
structure UX(K:W.Frag)(C:Addr)(m:Str)(f:Addr):Prop where
 ga:PySem.W.specialIn K (.ref C) "__getattribute__" = some (some (.builtin "type.__getattribute__"))
 rd:PySem.W.readsIn K C (.type "type")=true
 at_:PySem.W.findCls K (.ref C) (.type "type") m=some (.val (.ref f))
 kp:PySem.W.keepIn K (.ref f)=true
section
variable{X:Cx}{CX:jq}{k:Nat}{f C:Addr}{fd:FuncData}{ps:List Str}{sp:Sp}{cG:List V}{ds:List Value}{E:XK}{x m:Str}{p pos apos:Pos}{e:Expr}{es:List Expr}{t:TA}
theorem adL{pl:Sem Bool}(hg:Gl X x)(hm:X.mg x=some (.ref C))(c:UX X.K C m f)(F:bg X.prog X.w X.K X.mg X.base CX k f fd ps sp)(hr:d9 k X.A)(hb:Binds X.K fd ps ds)(hd:Vals cG ds)(hx:Passes CX X E)(ha:PA X (e::es) t)
  (gY:starEach (e::es) X.env=(false,eval e X.env)::starEach es X.env:=by rfl) (iJ:(backTo pos (starEach es X.env)).any (·.1)=false:=by rfl) (qO:(x == ("__debug__" : Str))=false:=by decide)
  (ht:eval (.Call (.Attribute (.Name x p) m apos) (e::es) [] pos) X.env=(do
   let ov ← eval (.Name x p) X.env
   standAt apos.atName
   let (f,first) ← holding [ov] (getMethod ov m pl)
   callWith pos f first (backTo pos (starEach (e::es) X.env)) (backToKw pos (keywordEach [] X.env))):=by rfl) :
  PE X (.Call (.Attribute (.Name x p) m apos) (e::es) [] pos) (Hv sp cG E t):=by
 intro pins s σ H Q I h;refine yL (pl:=pl) (Cq I hg hm ?_ qO) ht;refine PySem.W.method_cls I.iG c.ga (PySem.W.cls_value I.iG c.rd c.at_ rfl ?_);have I':=I.tok (s.toks+1);refine yK (first:=[]) (h₀:=X.base) I.ok.mod.uH c.kp (aO (ha pos pins _ σ H _ I' h) λus s2 ⟨vs,H2,I2,r,q2⟩=>⟨I2.iG,?_⟩) gY iJ
 exact wM (us:=us) (vs:=vs) F hr hb hd hx I2 r q2
end
section
variable{X:Cx}
end
section
variable{X:Cx}{pins:List (Addr×Obj)}{σ:St}{H:Hp}{s:Shared}
end
section
variable{X:Cx}
end
section
variable{K:W.Frag}{ta:TA}{g:TG}{D:Ends}{σ:St}{H:Hp}{tt:TT}{te:TE}{nt:Nat}{fv:List Nat}{Q:VK}
theorem rcE(a:Addr)(xs:List V)(Pv:Addr->Nat->List V->St->Hp->Prop)(f9:∀Q:List V->Hp->Prop,Q [.ref a] H->ta σ H Q)(eL:aE K H a xs)
  (h0:∀D,H D=none->Pv D 0 [] (kQ σ nt fv) (upd H D (.lst []))) (hD:∀D i ys σ H,Pv D i ys σ H->H D=some (.lst ys)/\ys.length<sizeLine/\aE K H a xs)
  (hs:∀D i x ys aA H2 T (N:List V->St->Hp->Prop),(∀ys σ H,Pv D (i+1) ys σ H->N ys σ H)->xs[i]? = some x->Pv D i ys aA H2->H2 T=none->g (.ref T) aA (upd H2 T (.tup [.int i,x])) λbX H4=>tt bX H4 λb H5=>if b=true then te bX H5 λv H6=>H6 D=some (.lst ys)/\N (ys++[v]) bX (upd H6 D (.lst (ys++[v]))) else N ys bX H5)
  (hd:∀D ys aA H2,Pv D xs.length ys aA H2->Q (.ref D) H2):lP (Df K ta) g tt te nt fv σ H Q:=by
 refine f9 _ ⟨a,rfl,⟨xs,eL⟩,λD kU=>?_⟩;refine⟨λi m ys aA H2=>m=xs.length - i/\i<=xs.length/\Pv D i ys aA H2,⟨_,rfl,eX _,h0 D kU⟩,?_⟩;rintro i m ys aA H2 ⟨rfl,gG,p⟩;obtain⟨d1,d2,d3⟩:=hD D i ys aA H2 p;refine⟨d1,d2,?_⟩;by_cases bM:i<xs.length
 ·refine .inr ⟨⟨xs,xs[i],d3,by simp[bM]⟩,λx H3 y=>?_⟩
  obtain⟨T,z,hT,e1,e2,e3⟩:=y;subst e1 e3;exact hs D i z ys aA H2 T (λys σ H=>NX xs.length i (Pv D (i+1) ys σ H)) (λ_ _ _ q=>NX.of bM q) (e2 xs d3) p hT
 ·have e:i=xs.length:=by lia
  subst e;exact .inl ⟨⟨xs,d3,bu _⟩,hd D ys aA H2 p⟩
end
theorem zP{X:Cx}{K:W.Frag}{pos:Pos}{es:List Expr}{k n:Nat}{t:pS}(hK:X.K=K)(hc:X.calm=true)(h:wH X es t)(hn:(assignEach es X.env).length=n:=by rfl)(gY:(assignEach es X.env).findIdx? (·.1)=none:=by rfl):PG X (.Tuple es k pos) (Cv K n t):=hK▸jm hc h hn gY
def Io(cs:List Addr)(m:Str)(sp:Sp)(cG:List V)(E:XK)(ta:TE)(t:TA):TE:=λσ H Q=>ta σ H λx H1=>∃C a dx fs,x = .ref a/\H1 a=some (.ins C dx fs)/\C∈cs/\fs.lookup m=none/\t σ H1 λvs H2=>sp (x::(vs++cG)) H2 Q E
section
variable{X:Cx}{CX:jq}{k:Nat}{f:Addr}{cs:List Addr}{fd:FuncData}{ps:List Str}{sp:Sp}{cG:List V}{ds:List Value}{E:XK}{m:Str}{pos apos:Pos}{o e:Expr}{es:List Expr}{ta:TE}{t:TA}
theorem xg{pl:Sem Bool}(ho:PE X o ta)(hc:∀C∈cs,dW X.K C/\Meth X.K C m f)(F:bg X.prog X.w X.K X.mg X.base CX k f fd ps sp)(hr:d9 k X.A)(hb:Binds X.K fd ps ds)(hd:Vals cG ds)(hx:Passes CX X E)(ha:PA X (e::es) t)
  (gY:starEach (e::es) X.env=(false,eval e X.env)::starEach es X.env:=by rfl) (iJ:(backTo pos (starEach es X.env)).any (·.1)=false:=by rfl)
  (Ip:eval (.Call (.Attribute o m apos) (e::es) [] pos) X.env=(do
   let ov ← eval o X.env
   standAt apos.atName
   let (f,first) ← holding [ov] (getMethod ov m pl)
   callWith pos f first (backTo pos (starEach (e::es) X.env)) (backToKw pos (keywordEach [] X.env))):=by rfl):PE X (.Call (.Attribute o m apos) (e::es) [] pos) (Io cs m sp cG E ta t):=by
 intro pins s σ H Q I h;refine yL (pl:=pl) (aO (ho pins s σ H _ I h) λu s1 hz=>?_) Ip;obtain⟨x,H1,I1,rx,C,a,dx,fs,ex,ea,hC,hl,q⟩:=hz;subst ex;cases (show u=Value.ref a from rx);obtain⟨c1,c2⟩:=hc C hC;refine CK I1 ea c1 c2 hl (yK (first:=[.ref a]) (h₀:=X.base) I.ok.mod.uH c2.kp (aO (ha pos pins s1 σ H1 _ I1 q) λus s2 hw=>?_) gY iJ)
 obtain⟨vs,H2,I2,r,q2⟩:=hw;exact⟨I2.iG,wM (us:=.ref a::us) (vs:=.ref a::vs) F hr hb hd hx I2 (.cons rfl r) q2⟩
theorem adM{pl:Sem Bool}(ho:PE X o ta)(hc:∀C∈cs,dW X.K C/\Meth X.K C m f)(F:bg X.prog X.w X.K X.mg X.base CX k f fd ps sp)(hr:d9 k X.A)(hb:Binds X.K fd ps ds)(hd:Vals cG ds)(hx:Passes CX X E)
  (Ip:eval (.Call (.Attribute o m apos) [] [] pos) X.env=(do
   let ov ← eval o X.env
   standAt apos.atName
   let (f,first) ← holding [ov] (getMethod ov m pl)
   callWith pos f first (backTo pos (starEach [] X.env)) (backToKw pos (keywordEach [] X.env))):=by rfl):PE X (.Call (.Attribute o m apos) [] [] pos) (Io cs m sp cG E ta zq):=by
 intro pins s σ H Q I h;refine yL (pl:=pl) (aO (ho pins s σ H _ I h) λu s1 hz=>?_) Ip;obtain⟨x,H1,I1,rx,C,a,dx,fs,ex,ea,hC,hl,q⟩:=hz;subst ex;cases (show u=Value.ref a from rx);obtain⟨c1,c2⟩:=hc C hC;refine CK I1 ea c1 c2 hl (PySem.W.callWith_K0 (first:=[.ref a]) I1.iG c2.kp ?_)
 exact wM (us:=[.ref a]) (vs:=[.ref a]) F hr hb hd hx I1 (.cons rfl .nil) q
end
theorem UY{p q:Int×Int}(h:kT p=kT q):p=q:=by
 unfold kT at h;simp only[List.cons.injEq,Sum.inl.injEq,and_true] at h;exact uy h.1 h.2
theorem UZ{s:Int}:∀ {rc:List Int} {r:Nat} {q:Int×Int},q∈eN s r rc↔∃j:Nat,j<rc.length/\q.1=((r+j:Nat):Int)/\0<=q.2/\q.2<rc.getD j 0 - s
 | [],r,q=>by simp[eN]
 | c::rc,r,q=>by
  rw[eN,cF,UZ (rc:=rc) (r:=r+1)];constructor
  ·rintro(h | ⟨j,h1,h2,h3,h4⟩)
   ·obtain⟨k,hk,rfl⟩:=cH.mp h;rw[gC] at hk;exact⟨0,by simp,by simp,by dsimp only;lia,by simp only[List.getD_cons_zero];lia⟩
   ·exact⟨j+1,by simpa using h1,by rw[h2];congr 1;lia,h3,by simpa using h4⟩
  ·rintro⟨j,h1,h2,h3,h4⟩;cases j with
   | zero =>
    left;refine cH.mpr ⟨q.2.toNat,gC.mpr ?_,?_⟩
    ·simp only[List.getD_cons_zero] at h4;lia
    ·refine uy ?_ ?_
     ·rw[h2];simp
     ·dsimp only;lia
   | succ j =>
    right;exact⟨j,by simpa using h1,by rw[h2];congr 1;lia,h3,by simpa using h4⟩
theorem U0{s:Int}:∀(rc:List Int) (r:Nat),(eN s r rc).Nodup
 | [],r=>BZ
 | c::rc,r=>by
  rw[eN,se];refine⟨?_,U0 rc (r+1),?_⟩
  ·rw[pJ,qH];refine BP ?_ (pJ.mp yI);intro a b h e;simp at e;lia
  ·intro x hx y hy e;subst e;obtain⟨k,_,rfl⟩:=cH.mp hx;obtain⟨j,_,h2,_⟩:=UZ.mp hy;simp at h2;lia
noncomputable def kW(kvs:List (List Key×V)):Nat->List (Int×Int)->List Int
 | _,[]=>[]
 | i,q::z=>if (bV kvs (kT q)).isSome=true then(i:Int)::kW kvs (i+1) z else kW kvs (i+1) z
theorem Iq(kvs:List (List Key×V)):∀(z:List (Int×Int)) (i:Nat) (q:Int×Int),kW kvs i (z++[q])=kW kvs i z++(if (bV kvs (kT q)).isSome=true then [((i+z.length:Nat):Int)] else [])
 | [],i,q=>by simp[kW]
 | x::z,i,q=>by
  rw[ur,kW,kW,Iq kvs z (i+1) q];have e:i+1+z.length=i+(x::z).length:=by simp;lia
  rw[e];split <;> simp
theorem Ir(kvs:List (List Key×V)):∀(z:List (Int×Int)) (i:Nat),(kW kvs i z).length<=z.length
 | [],i=>by simp[kW]
 | x::z,i=>by
  have:=Ir kvs z (i+1);rw[kW];split <;> simp <;> lia
def adN(K:W.Frag):Sp:=λvs H Q _=>∃(a:Addr) (rc:List Int) (s:Int),vs = [.int s,.ref a]/\aE K H a (rc.map V.int)/\0<rc.length/\0<=s/\(∀c∈rc,s<c)/\Q .aR H
noncomputable def fG(z:List (Int×Int)):List (List Key×V):=z.map λq=>(kT q,V.bl true)
theorem zQ{z:List (Int×Int)}{q:Int×Int}(h:q∉z):bV (fG z) (kT q)=none:=by
 induction z with
 | nil=>rfl
 | cons x z ih =>
  rw[fG,c9,lO,← fG,ih λm=>h (cB _ m)];intro e;exact h (UY e▸eB)
theorem U1{z:List (Int×Int)}{q:Int×Int}(h:q∈z):bV (fG z) (kT q)=some (.bl true):=by
 induction z with
 | nil=>cases h
 | cons x z ih =>
  by_cases e:x=q
  ·subst e;rw[fG,c9,mQ rfl]
  ·rw[fG,c9,lO (λz=>e (UY z)),← fG];exact ih ((cg.mp h).resolve_left λz=>e z.symm)
def adO(K:W.Frag)(cs:List Addr):Sp:=λvs H Q _=>∃(C p ba:Addr) (P:Pl) (fp gm:List Addr) (bz:List (Int×Int)),vs = [.ref p,.ref ba]/\C∈cs/\dG K C H p P fp/\Zn H ba gm bz/\bz.length<=1000000/\bz.Nodup/\
 (∀q∈bz,0<=q.1/\q.1<P.rc.length/\0<=q.2/\q.2<P.rc.getD q.1.toNat 0)/\∀d H',aq H H'->H d=none->H' d=some (.dT (fG bz))->Q (.ref d) H'
def adP(K:W.Frag):Sp:=λvs H Q _=>∃(a d:Addr) (ts:List Addr) (z:List (Int×Int)) (kvs:List (List Key×V)),vs = [.ref a,.ref d]/\Zn H a ts z/\z.length<=1000000/\H d=some (.dT kvs)/\
 ∀l H',aq H H'->H l=none->H' l=some (.lst ((kW kvs 0 z).map V.int))->Q (.ref l) H'
noncomputable def Iu(K:W.Frag)(C:Addr)(H:Hp)(p:Addr)(P:Pl)(fp:List Addr)(mv:Addr)(ms:List V):Prop :=
 ∃dx a1 a2 a3 a4 ts fs,fp=a1::a2::a3::a4::ts/\q8 K C H p P dx a1 a2 a3 a4 ts fs/\bL K C "moves"/\fs.lookup ("moves" : Str)=some (.ref mv)/\H mv=some (.lst ms)
theorem Iu.Iv{K:W.Frag}{C:Addr}{H:Hp}{p:Addr}{P:Pl}{fp:List Addr}{mv:Addr}{ms:List V}(h:Iu K C H p P fp mv ms):dG K C H p P fp:=by
 obtain⟨dx,a1,a2,a3,a4,ts,fs,e,h,_⟩:=h;exact⟨dx,a1,a2,a3,a4,ts,fs,e,h⟩
section
variable{K:W.Frag}{C:Addr}{H H':Hp}{p:Addr}{P:Pl}{fp:List Addr}{mv:Addr}{ms:List V}
end
structure Zt(H:Hp)(a:Addr)(ts:List Addr)(z:List (List Int)):Prop where
 l:H a=some (.lst (ts.map V.ref))
 n:ts.length=z.length
 t:∀(i:Nat) (t:Addr) (r:List Int),ts[i]? = some t->z[i]? = some r->H t=some (.tup (r.map V.int))
section
variable{H H':Hp}{a:Addr}{ts:List Addr}{z:List (List Int)}
theorem Zt.same(h:Zt H a ts z)(e:aq H H'):Zt H' a ts z:=⟨e _ _ h.l,h.n,λi t p h1 h2=>e _ _ (h.t i t p h1 h2)⟩
theorem Zt.start{l:Addr}:Zt (upd H l (.lst [])) l [] []:=⟨aD,rfl,λi t r e=>by simp at e⟩
theorem Zt.snoc{l p:Addr}(h:Zt H l ts z)(hp:H p=none)(r:List Int):Zt (upd (upd H p (.tup (r.map V.int))) l (.lst (ts.map V.ref++[V.ref p]))) l (ts++[p]) (z++[r]):=by
 have Di:l≠p:=b7 h.l hp;refine⟨by rw[aD,bO];rfl,by simp[h.n],λi t q e1 e2=>?_⟩
 have hn:=h.n;by_cases hi:i<ts.length
 ·rw[gw hi] at e1;rw[gw ∅] at e2
  have ht:=h.t i t q e1 e2;rw[aB (jH ht h.l (by intro z;cases z)),aB (b7 ht hp)]
  exact ht
 ·rw[gz ∅] at e1
  rw[gz ∅] at e2
  have f_:i - ts.length=0:=by
   have:=US e1;simp at this;lia
  rw[f_] at e1;rw[← hn,f_] at e2;simp at e1 e2;subst e1 e2;rw[aB Di.symm,aD]
theorem Zn.start{l:Addr}:Zn (upd H l (.lst [])) l [] []:=⟨aD,rfl,λi t r e=>by simp at e⟩
end
section
variable{ta:TA}{g:TG}{tt:TT}{te:TE}{nt:Nat}{fv:List Nat}{Q:VK}{σ:St}{H:Hp}
theorem xh(n:Int)(Pv:Addr->Nat->List V->St->Hp->Prop)(f9:∀Q:List V->Hp->Prop,Q [.int n] H->ta σ H Q)(b1 : -1000000000000<n)(b2:n<1000000000000)
  (h0:∀D,H D=none->Pv D 0 [] (kQ σ nt fv) (upd H D (.lst []))) (hD:∀D i ys σ H,Pv D i ys σ H->H D=some (.lst ys)/\ys.length<sizeLine)
  (hs:∀D i ys aA H2 (N:List V->St->Hp->Prop),(∀ys σ H,Pv D (i+1) ys σ H->N ys σ H)->i<n.toNat->Pv D i ys aA H2->g (.int (i:Int)) aA H2 λbX H4=>tt bX H4 λb H5=>if b=true then te bX H5 λv H6=>H6 D=some (.lst ys)/\N (ys++[v]) bX (upd H6 D (.lst (ys++[v]))) else N ys bX H5)
  (hd:∀D ys aA H2,Pv D n.toNat ys aA H2->Q (.ref D) H2):lP (wJ ta) g tt te nt fv σ H Q:=by
 refine f9 _ ⟨n,rfl,∅,∅,λD kU=>?_⟩
 refine⟨λi m ys aA H2=>m=n.toNat - i/\i<=n.toNat/\Pv D i ys aA H2,⟨_,rfl,eX _,h0 D kU⟩,?_⟩;rintro i m ys aA H2 ⟨rfl,gG,p⟩;obtain⟨d1,d2⟩:=hD D i ys aA H2 p;refine⟨d1,d2,?_⟩;by_cases bM:i<n.toNat
 ·refine .inr ⟨bM,λx H3 y=>?_⟩;obtain⟨e1,e2⟩:=y;subst e1 e2;have e2:(0:Int)+(i:Int)=i:=by lia
  rw[e2];exact hs D i ys aA _ _ (λ_ _ _ z=>NX.of bM z) bM p
 ·have e:i=n.toNat:=by lia
  subst e;exact .inl ⟨bu _,hd D ys aA H2 p⟩
end
structure q9(P:Pl):Prop where
 n2:2<=P.rc.length
 n1:P.rc.length<=1000
 c:∀i:Nat,i<P.rc.length->1<=P.rc.getD i 0/\P.rc.getD i 0<=1000
 aG:1<=P.aG
 sw:SwOk P.sw P.rc.length
noncomputable def U3(P:Pl)(r c:Int):Int:=(c*(P.aG / P.rc.getD r.toNat 0)+r*P.cM) % P.aG
noncomputable def Iw(P:Pl)(r c b:Int):Int:=b+(U3 P r c - b) % P.aG
noncomputable def zR(P:Pl)(s q:Int×Int):Int:=Iw P q.1 q.2 (s.2+P.sw.getD (s.1 - q.1).natAbs 0)
noncomputable def oJ(P:Pl)(s q:Int×Int):Int×Int:=(q.1,zR P s q+P.aG / P.rc.getD q.1.toNat 0)
noncomputable def Dk(P:Pl)(s q:Int×Int):List Int:=[q.1,q.2,zR P s q,(oJ P s q).2]
noncomputable def fq(P:Pl):Int×Int->List (Int×Int)->Int×Int
 | s,[]=>s
 | s,q::r=>fq P (oJ P s q) r
noncomputable def iM(P:Pl):Int×Int->List (Int×Int)->List (List Int)
 | _,[]=>[]
 | s,q::r=>Dk P s q::iM P (oJ P s q) r
theorem Iz(P:Pl)(q:Int×Int):∀(xs:List (Int×Int)) (s:Int×Int),fq P s (xs++[q])=oJ P (fq P s xs) q
 | [],s=>rfl
 | x::xs,s=>Iz P q xs (oJ P s x)
theorem IA(P:Pl)(q:Int×Int):∀(xs:List (Int×Int)) (s:Int×Int),iM P s (xs++[q])=iM P s xs++[Dk P (fq P s xs) q]
 | [],s=>rfl
 | x::xs,s=>by rw[ur,iM,IA P q xs,iM];rfl
theorem Dl(P:Pl):∀(xs:List (Int×Int)) (s:Int×Int),(iM P s xs).length=xs.length
 | [],s=>rfl
 | x::xs,s=>by rw[iM,gA,Dl P xs,gA]
theorem IB(P:Pl):∀(xs:List (Int×Int)) (s:Int×Int) (r:List Int),r∈iM P s xs->r.length=4
 | [],s,r,h=>by cases h
 | x::xs,s,r,h=>by
  rcases cg.mp h with rfl | hr
  ·rfl
  ·exact IB P xs _ r hr
theorem IC(P:Pl){n:Int}:∀(xs:List (Int×Int)) (s:Int×Int),0<=s.1->s.1<n->(∀q∈xs,0<=q.1/\q.1<n)->0<=(fq P s xs).1/\(fq P s xs).1<n
 | [],s,h0,h1,_=>⟨h0,h1⟩
 | x::xs,s,h0,h1,h=>IC P xs (oJ P s x) (h x eB).1 (h x eB).2 λq hq=>h q (cB _ hq)
def vd(P:Pl)(z:List (Int×Int)):Prop:=∀q∈z,0<=q.1/\q.1<P.rc.length/\0<=q.2/\q.2<=1000
def adQ(K:W.Frag)(cs:List Addr):Sp:=λvs H Q _=>∃(C p:Addr) (P:Pl) (fp:List Addr) (r c b:Int),vs = [.ref p,.int r,.int c,.int b]/\C∈cs/\dG K C H p P fp/\q9 P/\0<=r/\r<P.rc.length/\0<=c/\c<=1000/\Q (.int (Iw P r c b)) H
def adR(K:W.Frag)(cs:List Addr):Sp:=λvs H Q _=>∃(C p:Addr) (P:Pl) (fp:List Addr) (r b:Int) (ca:Addr) (Dm:List Addr) (cz:List (Int×Int)),vs = [.ref p,.int r,.int b,.ref ca]/\C∈cs/\dG K C H p P fp/\q9 P/\0<=r/\r<P.rc.length/\
 Zn H ca Dm cz/\vd P cz/\cz.length<=1000/\∀l ts H',aq H H'->H l=none->(∀t∈ts,H t=none)->Zt H' l ts (iM P (r,b) cz)->Q (.ref l) H'
theorem adS{z:List (Int×Int)}(zl:ZL z){aG sk:Int}{sw:List Int}{nc:List (Int×Int)}(l1:1<=aG)(so:SwOk sw (z.map (·.1)).sum):q9 ⟨counts z,aG,sk,sw,nc⟩:=by
 have cl:=wZ z λp hp=>(zl.ok.r p hp).1;have c15:=zl.sm;have c2:=zl.ok.s2;refine⟨by dsimp only;lia,by dsimp only;lia,λi hi=>?_,l1,by dsimp only;rw[cl];exact so⟩
 obtain⟨y,hy,e⟩:=w6 (get_mem (sY (counts z) hi));have:=zl.ok.r y hy;dsimp only;lia
section
variable{α:Type}{lt:α->α->Prop}
noncomputable def par(i:Nat):Nat:=(i - 1) / 2
noncomputable def put(f:Nat->α)(k:Nat)(x:α):Nat->α:=λi=>if i=k then x else f i
end
theorem Dn:∀a:List Int,¬ _H.lexLt a a=true
 | []=>by simp[_H.lexLt]
 | x::a=>by simpa[_H.lexLt] using Dn a
theorem ID:∀a b c:List Int,_H.lexLt a b=true->_H.lexLt b c=true->_H.lexLt a c=true
 | [],b,[],h1,h2=>by cases b <;> simp[_H.lexLt] at h1 h2
 | [],b,z::c,h1,h2=>by simp[_H.lexLt]
 | x::a,[],c,h1,h2=>by simp[_H.lexLt] at h1
 | x::a,y::b,[],h1,h2=>by simp[_H.lexLt] at h2
 | x::a,y::b,z::c,h1,h2=>by
  simp only[_H.lexLt] at h1 h2 ⊢;by_cases e1:x=y
  ·rw[if_pos e1] at h1;by_cases e2:y=z
   ·rw[if_pos e2] at h2;rw[if_pos ∅];exact ID a b c h1 h2
   ·rw[if_neg e2] at h2;simp at h2;rw[if_neg ∅];simp;lia
  ·rw[if_neg e1] at h1;simp at h1;by_cases e2:y=z
   ·rw[if_neg ∅];simp;lia
   ·rw[if_neg e2] at h2;simp at h2;rw[if_neg ∅];simp;lia
theorem U4:∀a b:List Int,_H.lexLt a b=true\/a=b\/_H.lexLt b a=true
 | [],[]=>.inr (.inl rfl)
 | [],_::_=>.inl rfl
 | _::_,[]=>.inr (.inr rfl)
 | x::a,y::b=>by
  simp only[_H.lexLt,List.cons.injEq];by_cases e:x=y
  ·subst e;simpa using U4 a b
  ·rw[if_neg e,if_neg (λz=>e z.symm)];simp;lia
noncomputable abbrev Th:=Int×List Int×Int
def IE(a b:Th):Prop:=a.1<b.1\/(a.1=b.1/\(_H.lexLt a.2.1 b.2.1=true\/(a.2.1=b.2.1/\a.2.2<b.2.2)))
section
open PySem.SeqAt PySem.MeetsSeq PySem.MeetsSeq2 PySem.MeetsSeq3
open PySem.AutoSeq1 (wpAny_loadPart')
theorem adT(l:Addr)(its:Array Value)(c:Nat)(x:Value)(e:Nat->Bool)(j:Nat)(hj:j<its.size)(hit:e j=true)(zB:its.size<=sizeLine)(k:Nat) :
  ∀i:Nat,j - i=k->i<=j->(∀m,i<=m->m<j->e m=false)->Meets (Builtin.«list.remove.loop» ⟨[.ref l,x,rawInt i],[]⟩)
   (λA R s=>s.heap.get? l=some { cls:=.type "list",dict:=none,data:=.seq its c,slots := #[] }/\(∀(m:Nat) (hm:m<its.size),EqAt A.in1 s its[m] x (e m))/\
    R (.ok (.ret .none)) { s with heap:=s.heap.update l (Obj.mapSeq λys=>ys.eraseIdxIfInBounds j)}):=by
 induction k with
 | zero =>
  intro i hk oK j9 prog w A R s ⟨hl,he,h⟩;obtain⟨hp,g,d,tk,os⟩:=s;obtain rfl:i=j:=by lia
  wp_walk using wpAny_loadPart' hl;rw[show its[((i:Nat):Int).toNat]? = some its[i] by simp[hj]]
  refine aF (he i hj prog w _ _ ?_);rw[hit];have e7:(its.eraseIdxIfInBounds i).size<=sizeLine+1:=dQ (size_erased its i) ∅
  wp_walk using(wpAny_updateSeq hl rfl (hz:=zB) (_hz':=e7)),wpAny_loadPart' hl;simpa using h
 | succ k ih =>
  intro i hk oK j9 prog w A R s ⟨hl,he,h⟩;obtain⟨hp,g,d,tk,os⟩:=s;have bM:i<its.size:=by lia
  wp_walk using wpAny_loadPart' hl;rw[show its[((i:Nat):Int).toNat]? = some its[i] by simp[bM]]
  refine aF (he i bM prog w _ _ ?_);rw[j9 i (bu i) ∅]
  wp_walk;rw[show ((i:Int)+1)=((i+1:Nat):Int) by push_cast;rfl]
  refine⟨iY plain_remove_loop _,iD entry_remove_loop ?_⟩;rw[iV plain_remove_loop _];exact ih (i+1) ∅ ∅ (λm h1 h2=>j9 m ∅ h2) prog w A R _ ⟨hl,he,h⟩
theorem adU(l:Addr)(its:Array Value)(c:Nat)(x:Value)(e:Nat->Bool)(j:Nat)(hj:j<its.size)(hit:e j=true)(j9:∀m,m<j->e m=false)(zB:its.size<=sizeLine) :
  Meets (Builtin.«list.remove» ⟨[.ref l,x],[]⟩)
   (λA R s=>s.heap.get? l=some { cls:=.type "list",dict:=none,data:=.seq its c,slots := #[] }/\(∀(m:Nat) (hm:m<its.size),EqAt A.in1 s its[m] x (e m))/\
    R (.ok (.ret .none)) { s with heap:=s.heap.update l (Obj.mapSeq λys=>ys.eraseIdxIfInBounds j)}):=by
 intro prog w A R s ⟨hl,he,h⟩;obtain⟨hp,g,d,tk,os⟩:=s;wp_walk using wpAny_loadPart' hl;refine⟨iY plain_remove_loop _,iD entry_remove_loop ?_⟩;rw[iV plain_remove_loop _];exact adT l its c x e j hj hit zB _ 0 rfl (eX _) (λm _ h2=>j9 m h2) prog w A R _ ⟨hl,he,h⟩
end
section
variable{prog:Program}{w:World}{A:Around}{E:Value->Shared->Prop}{s:Shared}
def q_(h h':Heap):Prop:=∀b o,h.get? b=some o->h'.get? b=some o
theorem adV{R:Result->Shared->Prop}{h0:Heap}{l I S:Addr}{vs:List Value}(bt:Nat->Nat->Bool)(hh:A.handled=none)(hl:h0.IsList l vs.toArray)(hI:h0.get? I=none)(zS:h0.get? S=none)(gI:S≠I)
  (cmp:∀(i j:Nat) (u v:Value) (h:Heap) (tk:Nat) (Q E:Value->Shared->Prop),vs[i]? = some u->vs[j]? = some v->q_ h0 h->Q (.bool (bt i j)) { s with heap:=h,toks:=tk }->
   wpAny (model prog w) A.in1 (richCompare .Lt u v) Q E { s with heap:=h,toks:=tk })
  (hR:∀v h' tk,vs[argBest bt (vs.length - 1)]? = some v->q_ h0 h'->R (.ok (.ret v)) { s with heap:=h',toks:=tk }) :
  ∀(k j:Nat) (h:Heap) (tk:Nat) (vb:Value) (c:Nat),vs.length - (j+1)=k->j+1<=vs.length->q_ h0 h->(h.IsListIter I l (j+1)/\h.IsList l vs.toArray)->vs[argBest bt j]? = some vb->
   h.get? S=some { cls:=.type "list",dict:=none,data:=.seq #[vb,vb] c,slots := #[] }->
   codeAny (model prog w) A (.builtin "min.loop" ⟨[.ref I,.none,.ref S],[]⟩) R { s with heap:=h,toks:=tk }:=by
 have nm:(toString "min" ++ toString ".loop" : String) = "min.loop" := by decide
 obtain⟨ol,rm,_⟩:=id hl;have lI:l≠I:=λz=>by rw[z,hI] at rm;cases rm
 have lS:l≠S:=λz=>by rw[z,zS] at rm;cases rm
 have nI:∀b o,h0.get? b=some o->b≠I:=λb o e z=>by rw[z,hI] at e;cases e
 have nS:∀b o,h0.get? b=some o->S≠b:=λb o e z=>by rw[← z,zS] at e;cases e
 have W:=uA (prog:=prog) (w:=w) (A:=A.in1) hh I l lI vs.toArray;have hsz:vs.toArray.size=vs.length:=gU ..;intro k
 induction k with
 | zero =>
  intro j h tk vb c hk hj K st hb hS;have ve:j+1=vs.length:=by lia
  refine iD GI ?_;rw[iV uz _];show wpAny _ A.in1 (seqItems? (.ref S) >>= _) _ _ _;refine aF (uD hS rfl ?_);show wpAny _ A.in1 (tryCatch (pyNext (.ref I)) _ >>= _) _ _ _;refine aF (qK (W.done _ _ _ (by rw[hsz,← ve];exact st) λh' mV kX=>?_))
  have gn:=kX S _ (by simpa using gI) hS
  show wpAny _ A.in1 (updateSeq S (λ_ => #[]) >>= _) _ _ _;refine aF ?_;refine wA gn rfl (aF (sG (aV (hR vb _ _ (by rw[← ve];exact hb) λb o e=>?_))))
  exact(l9 _ _ (nS b o e)).trans (kX b o (by simpa using nI b o e) (K b o e))
 | succ k ih =>
  intro j h tk vb c hk hj K st hb hS;have bM:j+1<vs.length:=by lia
  refine iD GI ?_;rw[iV uz _];show wpAny _ A.in1 (seqItems? (.ref S) >>= _) _ _ _;refine aF (uD hS rfl ?_);show wpAny _ A.in1 (tryCatch (pyNext (.ref I)) _ >>= _) _ _ _;refine aF (qK (W.item (j+1) _ _ _ (by rw[hsz];exact bM) st λv h' mV hP gi kX=>?_))
  have hv:vs[j+1]? = some v:=by simpa using hP
  have gn:=kX S _ (by simpa using gI) hS
  have K':q_ h0 h':=λb o e=>kX b o (by simpa using nI b o e) (K b o e)
  show wpAny _ A.in1 (tryCatch (holding [v,v] (richCompare .Lt v vb >>= _)) _ >>= _) _ _ _;refine aF (qK (jg (aF (cmp (j+1) (argBest bt j) v vb h' mV _ _ hv hb K' ?_))));refine aF (jg (oq (aF (sG (aV ?_)))));cases zT:bt (j+1) (argBest bt j) with
  | true =>
   simp only[if_true];refine aF ?_;refine wA gn rfl (aF (sG ?_));rw[nm];refine aV ⟨iY uz _,ih (j+1) _ mV v _ ∅ bM (λb o e=>(l9 _ _ (nS b o e)).trans (K' b o e)) (W.frame _ _ _ gi λb gS o e=>?_)
    (by simp only[argBest,zT,if_true];exact hv) (qB _ gn rfl)⟩
   refine(l9 _ _ (λz:S=b=>?_)).trans e;rcases cg.mp gS with q | q
   ·exact gI (z.trans q)
   ·exact lS ((z.trans (cj.mp q)).symm)
  | false =>
   simp only[Bool.false_eq_true,if_false];refine aF (sG ?_);rw[nm];exact aV ⟨iY uz _,ih (j+1) h' mV vb c ∅ bM K' gi (by simp only[argBest,zT,Bool.false_eq_true,if_false];exact hb) gn⟩
theorem adW{l:Addr}{vs:List Value}{Q:Value->Shared->Prop}(bt:Nat->Nat->Bool)(hh:A.handled=none)(hl:s.heap.IsList l vs.toArray)(fH:0<vs.length)
  (cmp:∀(i j:Nat) (u v:Value) (h:Heap) (tk:Nat) (Q E:Value->Shared->Prop),vs[i]? = some u->vs[j]? = some v->q_ s.heap h->Q (.bool (bt i j)) { s with heap:=h,toks:=tk }->
   wpAny (model prog w) A.in1 (richCompare .Lt u v) Q E { s with heap:=h,toks:=tk })
  (hQ:∀v h' tk,vs[argBest bt (vs.length - 1)]? = some v->q_ s.heap h'->Q v { s with heap:=h',toks:=tk }) :
  wpAny (model prog w) A (call (.builtin "min") [.ref l]) Q E s:=by
 have nm:(toString "min" ++ toString ".loop" : String) = "min.loop" := by decide
 have n0:∀k,s.heap.objs.size<=k->s.heap.get? k=none:=λk hk=>by
  cases q:s.heap.get? k with
  | none=>rfl
  | some o=>exact absurd (gJ (bK q) hk) (jX _)
 obtain⟨ol,rm,_⟩:=id hl;have ll:=bK rm;have hsz:vs.toArray.size=vs.length:=gU ..;refine call_function_tree PySem.F.kind_min PySem.F.plain_min PySem.F.entry_min (PySem.F.args_min1 _) ?_
 show wpAny _ A.in1 (Builtin.Builtins.bindParams "min" ["key", "default"] 0 ⟨[],[]⟩ >>= _) _ _ _;refine aF (Cc (show Builtin.Builtins.bindParams "min" ["key", "default"] 0 ⟨[],[]⟩=pure [none,none] from rfl) (aF (aV ?_)));refine aF (wz hl ?_);refine aF (Cb ?_ (eX _));rw[nm];refine aV ⟨iY uz _,?_⟩;have hI:s.heap.get? s.heap.objs.size=none:=n0 _ (bu _);generalize IF:s.heap.push { cls:=.type "list_iterator",data:=.fields #[.ref l,.int 0 0] }=h1;have z1:h1.objs.size=s.heap.objs.size+1:=by rw[← IF];simp[Heap.push]
 generalize U5:h1.push { cls:=.type "list",data:=.seq ([]:List Value).toArray }=h2;have K1:q_ s.heap h1:=λb o e=>by rw[← IF];exact bW _ e
 have K2:q_ h1 h2:=λb o e=>by rw[← U5];exact bW _ e
 have K:q_ s.heap h2:=λb o e=>K2 b o (K1 b o e);have hS:s.heap.get? h1.objs.size=none:=n0 _ ∅
 have gI:h1.objs.size≠s.heap.objs.size:=by lia
 have lI:l≠s.heap.objs.size:=b9 ll;have lS:l≠h1.objs.size:=b9 (gJ ll (by rw[z1];exact oh _))
 have W:=uA (prog:=prog) (w:=w) (A:=A.in1) hh s.heap.objs.size l lI vs.toArray;have it1:h1.IsListIter s.heap.objs.size l 0:=by rw[← IF];exact⟨_,e_ _ rfl,rfl,rfl⟩
 have st0:h2.IsListIter s.heap.objs.size l 0/\h2.IsList l vs.toArray:=W.frame 0 _ _ ⟨it1,hl.at λo e=>K1 _ _ e⟩ λb _ o e=>K2 b o e;have oS:h2.get? h1.objs.size=some { cls:=.type "list",dict:=none,data:=.seq #[] 0,slots := #[] }:=by rw[← U5];exact e_ _ rfl
 refine iD GI ?_;rw[iV uz _];show wpAny _ A.in1 (seqItems? (.ref h1.objs.size) >>= _) _ _ _;refine aF (uD oS rfl ?_);show wpAny _ A.in1 (tryCatch (pyNext (.ref s.heap.objs.size)) _ >>= _) _ _ _;refine aF (qK (W.item 0 _ _ _ (by rw[hsz];exact fH) st0 λv h' mV hP gi kX=>?_))
 have gn:=kX h1.objs.size _ (by simpa using gI) oS
 have nI:∀b o,s.heap.get? b=some o->b≠s.heap.objs.size:=λb o e=>b9 (bK e);have nS:∀b o,s.heap.get? b=some o->h1.objs.size≠b:=λb o e=>kG (gJ (bK e) (by rw[z1];exact oh _))
 show wpAny _ A.in1 (updateSeq h1.objs.size (λ_ => #[v,v]) >>= _) _ _ _;refine aF ?_;refine wA gn rfl ?_;rw[nm];refine aV ⟨iY uz _,adV (s:=s) bt hh hl hI hS gI cmp (λv' h3 tk3 e K3=>hQ v' h3 tk3 e K3) _ 0 _ mV v _ rfl fH
  (λb o e=>(l9 _ _ (nS b o e)).trans (kX b o (by simpa using nI b o e) (K b o e))) (W.frame _ _ _ gi λb gS o e=>?_) (by simpa[argBest] using hP) (qB _ gn rfl)⟩
 refine(l9 _ _ (λz:h1.objs.size=b=>?_)).trans e;rcases cg.mp gS with q | q
 ·exact gI (z.trans q)
 ·exact lS ((z.trans (cj.mp q)).symm)
end
def adX(H:Hp)(a:Addr)(t:Th):Prop:=∃p,H a=some (.tup [.int t.1,.ref p,.int t.2.2])/\H p=some (.tup (t.2.1.map V.int))
theorem IG:∀ {ns ms:List Int},ns.map V.int=ms.map V.int->ns=ms
 | [],[],_=>rfl
 | [],_::_,h=>by cases h
 | _::_,[],h=>by cases h
 | a::r,b::q,h=>by
  rw[c9,c9] at h;injection h with h1 h2;injection h1 with h1;rw[h1,IG h2]
noncomputable instance (a b:Th):Decidable (IE a b):=by unfold IE;infer_instance
section
variable{X:Cx}{pins:List (Addr×Obj)}{σ:St}{H:Hp}{s:Shared}
theorem II(I:Inv X pins σ H s){A:Around}(hu:A.units+1<cLine){p q:Addr}{ns ms:List Int}(h:H p=some (.tup (ns.map V.int)))(h':H q=some (.tup (ms.map V.int))):SeqAt.EqAt A s (.ref p) (.ref q) (decide (ns=ms)):=by
 by_cases e:p=q
 ·subst e;have:ns=ms:=by
   have z:=h.symm.trans h';injection z with z;injection z with z;exact IG z
  rw[ig this];exact .same _
 ·refine .of_refs e ?_;obtain⟨its,r1,q1,_⟩:=I.tuple (aY.of (K:=X.K) h);obtain⟨ki,r2,q2,_⟩:=I.tuple (aY.of (K:=X.K) h');have l1:ns.length=its.length:=by have:=r1.length;simpa using this
  have l2:ms.length=ki.length:=by have:=r2.length;simpa using this
  have e0:((List.range (min its.toArray.size ki.toArray.size)).all (λj=>decide (ns[j]? = ms[j]?)) && its.toArray.size == ki.toArray.size)=decide (ns=ms):=by
   rw[nW];simp only[Bool.and_eq_true,List.all_eq_true,List.mem_range,decide_eq_true_eq,beq_iff_eq,List.size_toArray];constructor
   ·rintro⟨h1,h2⟩;refine List.ext_getElem? λj=>?_
    by_cases hj:j<min its.length ki.length
    ·exact h1 j hj
    ·rw[uv ∅,uv ∅]
   ·rintro rfl;exact⟨λ_ _=>rfl,∅⟩
  have fin:=SeqAt.RcAt.tuples (A:=A) (s:=s) (e:=λj=>decide (ns[j]? = ms[j]?)) q1 q2 ∅ (λj h1 h2=>?_)
  ·rwa [e0] at fin
  ·have j1:j<ns.length:=by rw[l1];simpa using h1
   have j2:j<ms.length:=by rw[l2];simpa using h2
   obtain⟨u1,g1,w1⟩:=r1.get (show (ns.map V.int)[j]? = some (.int ns[j]) by simp[j1])
   obtain⟨u2,g2,w2⟩:=r2.get (show (ms.map V.int)[j]? = some (.int ms[j]) by simp[j2])
   have e1:its.toArray[j] = u1:=by
    rw[Gx];exact dD ((bx (by simpa using h1)).symm.trans g1)
   have e2:ki.toArray[j] = u2:=by
    rw[Gx];exact dD ((bx (by simpa using h2)).symm.trans g2)
   obtain⟨t1,rfl⟩:=w1;obtain⟨t2,rfl⟩:=w2;rw[e1,e2];have:=SeqAt.EqAt.int_int (A:=A.in1) (s:=s) ns[j] t1 ms[j] t2;have e3:(ns[j] == ms[j])=decide (ns[j]? = ms[j]?):=by
    simp only[List.getElem?_eq_getElem j1,List.getElem?_eq_getElem j2,Option.some.injEq];rw[nW];simp
   rwa [e3] at this
end
section
variable{X:Cx}
noncomputable abbrev Zs:=List (Addr×Th)
noncomputable def zV(zs:Zs):List V:=zs.map λz=>V.ref z.1
def apM(H:Hp)(zs:Zs):Prop:=∀z,z∈zs->adX H z.1 z.2
end
def U6(a b:Addr×Th):Prop:=IE a.2 b.2
noncomputable instance (a b:Addr×Th):Decidable (U6 a b):=by unfold U6;infer_instance
section
variable{H H':Hp}{l a:Addr}{zs ys:Zs}{t:Th}{k:Nat}
end
structure xj(K:W.Frag)(x qual:Str)(st:Stmt)(f:Addr)(fd:FuncData):Prop where
 ex:∃(oc:Value) (od:Option Addr) (dV kV doc pm:Value) (an:Option Addr) (aQ ct:Value) (j8:Array (Option Value)),
  fd=PySem.W.fnOf x qual (g9 st) (gk st) (aU st) dV kV doc pm an aQ ct/\K.lookup f=some ⟨oc,od,.func fd,j8⟩/\PySem.W.codeIn K aQ qual=true
 kp:PySem.W.keepIn K (.ref f)=true
section
variable{P:Program}{w:World}{K:W.Frag}{mg:Str->Option Value}{base:Heap}
theorem xj.ok{x qual:Str}{st:Stmt}{f:Addr}{fd:FuncData}{N ps:List Str}{k:Nat}{sp:Sp}(F:xj K x qual st f fd)(S:bA N ps (aU st))(len:∀vs H Q E,sp vs H Q E->vs.length=ps.length)
  (uR:∀(aQ:Value) (A:Around) (outer:List Env) (s:Shared) (H:Hp) (vs:List V) (Q:VK) (E:XK),d9 k (A.deeper (envOfC qual (aU st) s.heap.objs.size f aQ))->sp vs H Q E->
   ∃t,iH (qQ bw P w K mg base N qual (aU st) f aQ A outer s H E).sI (gk st) t/\t { nx:=λ_ H'=>Q .aR H',rt:=Q } (start N vs) H):bg P w K mg base bw (k+1) f fd ps sp:=by
 obtain⟨oc,od,dV,kV,doc,pm,an,aQ,ct,j8,rfl,lk,gK⟩:=F.ex;refine Hx lk gK S len λA outer s H vs Q E hr jK=>?_;obtain⟨t,h,q⟩:=uR aQ A outer s H vs Q E hr jK;exact⟨t,h.sI,q⟩
theorem IJ{x qual:Str}{st:Stmt}{f:Addr}{oc:Value}{od an:Option Addr}{j8:Array (Option Value)}{dV kV doc pm aQ ct:Value}(l:K.lookup f=some ⟨oc,od,.func (PySem.W.fnOf x qual (g9 st) (gk st) (aU st) dV kV doc pm an aQ ct),j8⟩)
  (c:PySem.W.codeIn K aQ qual=true) (k:PySem.W.keepIn K (.ref f)=true):xj K x qual st f (PySem.W.fnOf x qual (g9 st) (gk st) (aU st) dV kV doc pm an aQ ct):=⟨⟨oc,od,dV,kV,doc,pm,an,aQ,ct,j8,rfl,l,c⟩,k⟩
end
section
variable{X:Cx}
theorem adY{xs:List Bool}{its:List Value}(r:Vals (xs.map V.bl) its):its=xs.map Value.bool:=by
 induction xs generalizing its with
 | nil=>cases r;rfl
 | cons b xs ih =>
  cases r with
  | cons r1 r2=>cases (show _=Value.bool b from r1);rw[ih r2];rfl
theorem adZ(hc:X.calm=true):jo X (.builtin "any") (λxs H Q=>∃(p:Addr) (bs:List Bool),xs = [.ref p]/\aE X.K H p (bs.map V.bl)/\Q (.bl (bs.any id)) H):=by
 intro pins s σ H xs us Q I r h;obtain⟨p,bs,rfl,hq,q⟩:=h;obtain⟨u,rfl,ru⟩:=vals1 r;cases ru;obtain⟨its,rv,pl,hz⟩:=I.list hq;have eb:=adY rv;subst eb;have plt:p<s.heap.objs.size:=by obtain⟨_,q1,_⟩:=pl.isList;exact bK q1
 refine call_any_walk (wz pl.isList ?_);refine⟨s.heap.objs.size,[s.heap.objs.size,p],[s.heap.objs.size],(bs.map Value.bool).toArray.size,_,_,λi=>(bs[i]?).getD false,rfl,uA (A:=X.A.in1) (I.ok.hd hc) _ p (b9 plt) (bs.map Value.bool).toArray,
  ⟨⟨_,e_ _ rfl,rfl,rfl⟩,pl.isList.push _⟩,λi v s2 Q2 E2 hiv hw=>?_,λh' tk hk=>?_⟩
 ·have ad0:(bs.map Value.bool)[i]? = some v:=by simpa using hiv
  obtain⟨b,eb,rfl⟩:=iL ad0;simp only[eb,Option.getD_some] at hw;exact oq hw
 ·have e:((List.range (bs.map Value.bool).toArray.size).any λi=>(bs[i]?).getD false)=bs.any id:=by
   rw[gU,aK];exact LSm.range_any bs
  rw[e];exact⟨.bl (bs.any id),H,I.kept (LSm.kept_iter hk),rfl,q⟩
def U7(ta:TA):TE:=λσ H Q=>ta σ H λvs H1=>∃i j:Int,vs = [.int i,.int j]/\(-1000000000000<i/\i<1000000000000/\-1000000000000<j/\j<1000000000000)/\(j - i).toNat<=1000000/\
 ∀l,H1 l=none->Q (.ref l) (upd H1 l (.lst ((List.range (j - i).toNat).map λ(k:Nat)=>V.int (i+(k:Int)))))
theorem ad1{F:Nat->V}{acc:Array Value}{n:Nat}(h:ItemsOf (λi v=>RelV (F i) v) acc n):Vals ((List.range n).map F) acc.toList:=by
 obtain⟨h1,h2⟩:=h;have:∀(m:Nat) (l:List Value) (k:Nat),l.length=m->(∀j v,l[j]? = some v->RelV (F (k+j)) v)->Vals ((List.range' k m).map F) l:=by
  intro m
  induction m with
  | zero=>intro l k hl _;rw[List.eq_nil_of_length_eq_zero hl];exact .nil
  | succ m ih =>
   intro l k hl hh;cases l with
   | nil=>cases hl
   | cons v l =>
    rw[List.range'_succ,c9];refine .cons (hh 0 v rfl) (ih l (k+1) (by simpa using hl) λj w hj=>?_)
    have:=hh (j+1) w (by simpa using hj)
    rwa [show k+(j+1)=k+1+j by lia] at this
 have e:=this n acc.toList 0 (by simpa using h1) λj v hj=>by rw[Nat.zero_add];exact h2 j v (by simpa using hj)
 rwa [← List.range_eq_range'] at e
theorem ad2{a b:Expr}{ta:TA}{p p0 pos ad3:Pos}(hgL:Gl X "list")(hmL:X.mg "list" = none)(hg:Gl X "range")(hm:X.mg "range" = none)(hc:X.calm=true)(ha:PA X [a,b] ta)
  (hs:starEach [a,b] X.env = [(false,eval a X.env),(false,eval b X.env)]:=by rfl) (lH:starEach [b] X.env = [(false,eval b X.env)]:=by rfl)
  (kY:starEach [.Call (.Name "range" p) [a,b] [] pos] X.env = [(false,eval (.Call (.Name "range" p) [a,b] [] pos) X.env)]:=by rfl) :
  PE X (.Call (.Name "list" p0) [.Call (.Name "range" p) [a,b] [] pos] [] ad3) (U7 ta):=by
 intro pins s σ H Q I h;refine Call_ (mF I hgL hmL boot_list (su ?_ kY rfl));rw[kY];refine rX ?_;refine Call_ (mF I hg hm boot_range (su (aO (ha pos pins s σ H _ I h) λus s1 ⟨vs,H1,I1,r1,q1⟩=>?_) (by rw[hs,lH]) (by rw[lH];rfl)))
 obtain⟨i,j,e,⟨b1,b2,b3,b4⟩,hn,q⟩:=q1;subst e;obtain⟨u,v,rfl,ru,rv⟩:=vals2 r1;obtain⟨t,rfl⟩:=ru;obtain⟨t',rfl⟩:=rv;refine call_range_2 ?_;refine um ?_;have hr:=IsRange.new s1.heap i j 1 t t' s1.toks;have en:Builtin.Range.rangeSize i j 1=(((j - i).toNat:Nat):Int):=by rw[rangeSize_one];split <;> lia
 refine call_list_range (I.ok.hd hc) hr (small_one ∅ ∅ ∅ ∅) en ∅ λh' tk acc c hk hS jM=>?_
 have k2:∀b o,s1.heap.get? b=some o->h'.get? b=some o:=λb o e=>hk b o (bW _ e);have sz:(s1.heap.push { cls:=.type "range",data:=.fields #[.int i t,.int j t',.int 1 s1.toks] }).objs.size=s1.heap.objs.size+1:=by simp[Heap.push]
 rw[sz] at hS ⊢;have vl:Vals ((List.range (j - i).toNat).map λ(k:Nat)=>V.int (i+(k:Int))) acc.toList:=ad1 (F:=λ(k:Nat)=>V.int (i+(k:Int))) ⟨jM.1,λj' v hj=>by
  obtain⟨t,e⟩:=jM.2 j' v hj;exact⟨t,by rw[e];congr 1;lia⟩⟩
 refine⟨.ref (s1.heap.objs.size+1),upd H1 (s1.heap.objs.size+1) (.lst ((List.range (j - i).toNat).map λ(k:Nat)=>V.int (i+(k:Int)))),I1.laid k2 (oh _) ?_,rfl,q _ (I1.aL.fresh (oh _))⟩;refine⟨by rw[aK,jF,mT];lia,acc.toList,c,vl,by simpa using hS⟩
end
section
variable{X:Cx}
end
structure Ak where
 kind:Str
 first:Int
 many:Int
 marks:List Int
 at_:Int
 bB:Int
 oM:Option Int
 behind:List Int
 early:Bool
noncomputable def mW:Option Int->V
 | none=>.aR
 | some i=>.int i
noncomputable def jx(q:Ak)(m b:Addr):List (Str×V):=[("kind",.str q.kind),("first",.int q.first),("many",.int q.many),("marks",.ref m),("at",.int q.at_),("asker",.int q.bB),("latest",mW q.oM),("behind",.ref b),("early",.bl q.early)]
structure fJ(K:W.Frag)(C:Addr)(H:Hp)(p:Addr)(q:Ak)(m b dx:Addr):Prop where
 o:H p=some (.ins C dx (jx q m b))
 ms:H m=some (.tup (q.marks.map V.int))
 bh:H b=some (.tup (q.behind.map V.int))
theorem fJ.same{K:W.Frag}{C:Addr}{H H':Hp}{p:Addr}{q:Ak}{m b dx:Addr}(h:fJ K C H p q m b dx)(s:aq H H'):fJ K C H' p q m b dx:=⟨s _ _ h.o,s _ _ h.ms,s _ _ h.bh⟩
theorem IK{K:W.Frag}{C:Addr}{H H1:Hp}{x dx m b:Addr}{q:Ak}(s:aq H H1)(nx:H1 x=none)(mX:H1 dx=none)(fH:dx≠x)(hm:H1 m=some (.tup (q.marks.map V.int)))(hb:H1 b=some (.tup (q.behind.map V.int))) :
  aq H (upd (upd (upd H1 dx (.own x)) x (.ins C dx [])) x (.ins C dx (jx q m b)))/\H x=none/\fJ K C (upd (upd (upd H1 dx (.own x)) x (.ins C dx [])) x (.ins C dx (jx q m b))) x q m b dx:=by
 have s1:=aq.put (o:=.own x) mX;have nx1:upd H1 dx (.own x) x=none:=by rw[aB (dR fH)];exact nx
 have s2:aq H1 (upd (upd (upd H1 dx (.own x)) x (.ins C dx [])) x (.ins C dx (jx q m b))):=aq.put2 (s1.trans (aq.put nx1)) nx;exact⟨s.trans s2,s.free nx,⟨aD,s2 _ _ hm,s2 _ _ hb⟩⟩
structure kZ(ns:List Int):Prop where
 up:ns.Pairwise (· < ·)
 lo:∀n∈ns,0<=n
 hi:∀n∈ns,n<=99
theorem kZ.nil:kZ []:=⟨.nil,(λ_ h=>nomatch h),λ_ h=>nomatch h⟩
noncomputable def zW(x:Int)(ns:List Int)(i:Nat):Int:=if i=0 then x else ns.getD (i - 1) 0
theorem kZ.step{ns:List Int}(h:kZ ns){i:Nat}{n:Int}(e:ns[i]? = some n):zW (-1) ns i+1<=n/\n<=99:=by
 refine⟨?_,h.hi n (get_mem e)⟩;unfold zW;split
 ·have:=h.lo n (get_mem e);lia
 ·have hi:=gH e;obtain⟨h1,e1⟩:=fD.mp e;have e2:ns.getD (i - 1) 0=ns[i - 1]:=by simp[List.getD_eq_getElem?_getD,List.getElem?_eq_getElem (show i - 1<ns.length by lia)]
  have:=v_.mp h.up (i - 1) i ∅ h1 ∅
  rw[e2];lia
theorem ad4{x:Int}{ns:List Int}{i:Nat}{n:Int}(e:ns[i]? = some n):zW x ns (i+1)=n:=by
 simp[zW,List.getD_eq_getElem?_getD,e]
def IL(K:W.Frag)(H:Hp)(v:V)(ns:List Int):Prop:=(v = .aR/\ns = [])\/∃a,v = .ref a/\(aE K H a (ns.map V.int)\/H a=some (.tup (ns.map V.int)))
structure Dp(first many at_ bB:Int)(lat:Option Int):Prop where
 f0:0<=first
 f1:first<=1000000
 m0:1<=many
 m1:many<=16
 a0:0<=at_
 a1:at_<=1000000000000
 s0:0<=bB
 s1:bB<=20
 l:∀x,lat=some x->0<=x/\x<=10000000000000
def ad5:Sp:=λvs H Q _=>∃(n lo hi:Int) (w:Str),vs = [.int n,.int lo,.int hi,.str w]/\lo<=n/\n<=hi/\Q .aR H
def ad6(K:W.Frag):Sp:=λvs H Q _=>∃(b:Addr) (ns:List Int),vs = [.ref b]/\aY K H b (ns.map V.int)/\kZ ns/\Q .aR H
def ad7(K:W.Frag):Sp:=λvs H Q _=>∃(f m a s:Int) (l:Option Int) (b:Addr) (ns:List Int),vs = [.int f,.int m,.int a,.int s,mW l,.ref b]/\Dp f m a s l/\aY K H b (ns.map V.int)/\kZ ns/\Q .aR H
def ad8(K:W.Frag):Sp:=λvs H Q _=>∃(v:V) (ns:List Int),vs = [v]/\IL K H v ns/\∀b H',aq H H'->H' b=some (.tup (ns.map V.int))->Q (.ref b) H'
def ad9(C:Addr):Sp:=λvs H Q _=>∃(p dx:Addr) (v1 v2 v3 v4 v5 v6 v7 v8 v9:V),vs = [.ref p,v1,v2,v3,v4,v5,v6,v7,v8,v9]/\H p=some (.ins C dx [])/\
 Q .aR (upd H p (.ins C dx [("kind",v1),("first",v2),("many",v3),("marks",v4),("at",v5),("asker",v6),("latest",v7),("behind",v8),("early",v9)]))
def ad_(K:W.Frag)(C:Addr):Sp:=λvs H Q _=>∃(f m a s:Int) (l:Option Int) (bv:V) (ns:List Int),vs = [.int f,.int m,.int a,.int s,mW l,bv]/\Dp f m a s l/\IL K H bv ns/\kZ ns/\
 ∀p mk b dx H',aq H H'->H p=none->fJ K C H' p ⟨"read",f,m,[],a,s,l,ns,false⟩ mk b dx->Q (.ref p) H'
def aea(K:W.Frag)(C:Addr):Sp:=λvs H Q _=>∃(a:Int),vs = [.int a]/\0<=a/\a<=1000000000000/\∀p mk b dx H',aq H H'->H p=none->fJ K C H' p ⟨"rest",0,0,[],a,0,none,[],false⟩ mk b dx->Q (.ref p) H'
noncomputable def xm(x y:Ak):Bool:=decide ((x.kind = "write"\/y.kind = "write")/\x.first<y.first+y.many/\y.first<x.first+x.many)
def aeb(K:W.Frag)(C:Addr):Sp:=λvs H Q _=>∃(p r:Addr) (x y:Ak) (m b dx m' b' iw:Addr),vs = [.ref p,.ref r]/\fJ K C H p x m b dx/\fJ K C H r y m' b' iw/\Q (.bl (xm x y)) H
theorem IM(n:Int):∀ms:List Int,uS (.int n) (ms.map V.int)=decide (n∈ms)
 | []=>rfl
 | m::ms=>by
  have ih:=IM n ms;unfold uS at ih ⊢;rw[c9,uq,ih,nW];simp only[qU,Bool.or_eq_true,beq_iff_eq,decide_eq_true_eq,List.mem_cons];constructor
  ·rintro(h | h)
   ·exact .inl h.symm
   ·exact .inr h
  ·rintro(h | h)
   ·exact .inl h.symm
   ·exact .inr h
theorem IP(ms:List Int):(ms.map V.int).all mO=true:=by simp[mO]
theorem aec{X:Cx}{K:W.Frag}(h:X.K=K):cZ X (compareOp .In) (CU K false):=h▸TR
section
variable{K:W.Frag}{tl:TE}{g:TG}{tb:TS}{D:Ends}{σ:St}{H:Hp}
theorem rt(a:Addr)(xs:List V)(Pv:Nat->St->Hp->Prop)(oG:∀Q:VK,Q (.ref a) H->tl σ H Q)(eL:aY K H a xs)(h0:Pv 0 σ H)(hl:∀i σ H,i<=xs.length->Pv i σ H->aY K H a xs)
  (hs:∀i x σ H (N:St->Hp->Prop),(∀σ H,Pv (i+1) σ H->N σ H)->xs[i]? = some x->Pv i σ H->g x σ H λaA H2=>tb { D with nx:=N,ct:=N,bk:=D.nx } aA H2) (hd:∀σ H,Pv xs.length σ H->D.nx σ H):j6 (G9 K tl) g tb D σ H :=
 oG _ ⟨a,rfl,⟨xs,eL⟩,abW Pv h0 hl (λi x σ H hx p=>hs i x σ H _ (λ_ _ z=>z) hx p) hd⟩
end
noncomputable def f2(o:Obj):Option Value:=match o.data with
 | .fields vs=>vs[2]?
 | _=>none
def aed(h:Heap)(a:Addr)(od:Option Addr):Prop:=∃oe,h.get? a=some oe/\oe.dict=od.map (· / 2)/\(od.getD 0 % 2=0->f2 oe=some .none)
section
variable{M:Model}{A:Around}{E:Value->Shared->Prop}{s:Shared}{base:Heap}{env:Env}{l outer:List Env}{L e:Addr}{cls a0:Value}{od:Option Addr}{Q:Unit->Shared->Prop}
end
structure Cut(base B:Heap)(outer:List Env)(H H':Hp)(h:Heap):Prop where
 stays:base.StaysIn B
 k1:∀b o,h.get? b=some o->H b=none->b∉iZ outer->B.get? b=some o
 k2:∀b u,H' b=some u->∃o,B.get? b=some o
 k3:∀b o,h.get? b=some o->b∉iZ outer->∃o',B.get? b=some o'
noncomputable def CX1(P:Program)(w:World)(base:Heap):jq:=λouter H s E e s' =>
 ∃a C a0 H' B od,e = .ref a/\s'.os=s.os/\AllBare s'.gens/\Un (iZ outer) [] H H' s.heap s'.heap/\eK P w H' s'.heap/\H' a=none/\s.heap.get? a=none/\
  Cut base B outer H H' s.heap/\Heap.FlyingW B outer a (.ref C) a0 s'.heap/\aed s'.heap a od/\E (.ref C) od H'
section
variable{P:Program}{w:World}{K:W.Frag}{mg:Str->Option Value}{base B:Heap}{N:List Str}{qual:Str}{scope:Scope}{f:Addr}{cd:Value}{A:Around}{outer:List Env}{eY sc s':Shared}{iF Hc H':Hp}{E:XK}
 {pins:List (Addr×Obj)} {σ:St} {a C:Addr} {a0:Value} {h':Heap} {od:Option Addr}
end
section
variable{X:Cx}{E:XK}{x:Str}{C:Addr}{bm:List Value}{newId apN B:String}{np gc pos:Pos}{apO:Expr}{rest:List Expr}{t:TA}
end
section
variable{X:Cx}{pins:List (Addr×Obj)}{σ:St}{H H':Hp}{s s':Shared}{a C:Addr}{h':Heap}{E:XK}
end
def XP(P:Program)(w:World)(base:Heap)(X:Cx)(pins:List (Addr×Obj))(σ:St)(E:XK)(e:Value)(s':Shared):Prop:=∃H1 s1,Inv X pins σ H1 s1/\CX1 P w base X.stack H1 s1 E e s'
section
variable{X:Cx}{k:Nat}{f C:Addr}{fd:FuncData}{ps:List Str}{sp:Sp}{cG:List V}{ds:List Value}{E:XK}{x m:Str}{p pos apos:Pos}{e o:Expr}{es:List Expr}{ta:TE}{t:TA}
end
section
variable{X:Cx}{E:XK}{e:Expr}{te:TE}{pos:Pos}
end
section
variable{X:Cx}{pins:List (Addr×Obj)}{σ:St}{a C:Addr}{a0:Value}{H1 H':Hp}{s1 s':Shared}{B h':Heap}{od:Option Addr}
end
section
variable{X:Cx}{pins:List (Addr×Obj)}{σ:St}{H:Hp}{s:Shared}
end
end _L
namespace _L
open PySem PySem.Spec PyProof.Rows PySem.W PySem.Builtin.ObjectAttr PySem.Builtin.Getset_descriptor
section
variable{prog:Program}{w:World}{A:Around}{E:Value->Shared->Prop}{s:Shared}{K:Frag}{x D:Addr}{ox:Obj}{name:Str}
end
section
variable{X:Cx}
end
end _L
namespace _L
open PySem PySem.Spec PyProof.Rows PySem.W
noncomputable def fu{α:Type}(lt:Nat->Nat->Bool):KasT α->α
 | .ret a=>a
 | .ask i j k=>fu lt (k (lt i j))
theorem xq{α β:Type}{lt:Nat->Nat->Bool}{f:α->KasT β}:∀t:KasT α,fu lt (t.bind f)=fu lt (f (fu lt t))
 | .ret _=>rfl
 | .ask i j k=>xq (k (lt i j))
section
variable(key:Nat->Int)
noncomputable def kk(p:Array Nat)(i:Nat):Int:=key (p.getD i 0)
noncomputable def klt:Nat->Nat->Bool:=λi j=>decide (key i<key j)
def oN(p:Array Nat)(m:Nat):Prop:=∀i j,i<j->j<m->kk key p i<kk key p j
def zX(p:Array Nat)(m:Nat):Prop:=∀i j,i<j->j<m->kk key p j<kk key p i
def mY(p:Array Nat):Prop:=∀i j,i<p.size->j<p.size->kk key p i=kk key p j->i=j
variable{key}{p:Array Nat}
theorem zY{i j:Nat}(c:kk key p i<kk key p j):klt key (p.getD i 0) (p.getD j 0)=true:=ig c
theorem IQ{p q:Array Nat}{i j:Nat}(h:p[i]? = q[j]?):kk key p i=kk key q j:=by
 unfold kk;rw[yz,yz,h]
theorem IS{m i:Nat}(hm:m<=p.size)(hi:i<m):kk key (kas_rev p 0 m) i=kk key p (m - 1 - i):=IQ (by
 unfold kas_rev;rw[getElem?_mirror_all hm,if_pos ⟨eX _,hi⟩];congr 1;lia)
theorem IT:∀(f n:Nat),1<=n->n+f<=p.size->mY key p->oN key p n->n<=fu (klt key) (kas_asc p f n)/\fu (klt key) (kas_asc p f n)<=n+f/\oN key p (fu (klt key) (kas_asc p f n))/\
  (fu (klt key) (kas_asc p f n)<n+f->kk key p (fu (klt key) (kas_asc p f n))<kk key p (fu (klt key) (kas_asc p f n) - 1))
 | 0,n,_,_,_,h=>⟨bu _,bu _,h,λz=>absurd z (jX _)⟩
 | f+1,n,h1,hz,hd,h=>by
  by_cases c:kk key p n<kk key p (n - 1)
  ·have e:fu (klt key) (kas_asc p (f+1) n)=n:=by
    show fu (klt key) (if klt key (p.getD n 0) (p.getD (n - 1) 0)=true then _ else _)=n
    rw[if_pos (zY c)];rfl
   rw[e];exact⟨bu _,∅,h,λ_=>c⟩
  ·have e:fu (klt key) (kas_asc p (f+1) n)=fu (klt key) (kas_asc p f (n+1)):=by
    show fu (klt key) (if klt key (p.getD n 0) (p.getD (n - 1) 0)=true then _ else _)=_
    rw[if_neg (by unfold klt;rw[decide_eq_true_eq];exact c)]
   have hn:kk key p (n - 1)<kk key p n:=by
    have:kk key p (n - 1)≠kk key p n:=λz=>by have:=hd _ _ ∅ ∅ z;lia
    lia
   have h':oN key p (n+1):=λi j oK hj=>by
    by_cases e1:j=n
    ·subst e1;by_cases e2:i=j - 1
     ·subst e2;exact hn
     ·have:=h i (j - 1) ∅ ∅;lia
    ·exact h i j oK ∅
   obtain⟨a,b,c1,c2⟩:=IT f (n+1) ∅ ∅ hd h'
   rw[e];exact⟨∅,∅,c1,λz=>c2 ∅⟩
theorem U8:∀(f n:Nat),2<=n->n+f<=p.size->mY key p->zX key p n->∃m,fu (klt key) (kas_desc f p n 0)=(p,m,0)/\n<=m/\m<=n+f/\zX key p m
 | 0,n,_,_,_,h=>⟨n,rfl,bu _,bu _,h⟩
 | f+1,n,h1,hz,hd,h=>by
  by_cases c:kk key p n<kk key p (n - 1)
  ·have e:fu (klt key) (kas_desc (f+1) p n 0)=fu (klt key) (kas_desc f p (n+1) 0):=by
    show fu (klt key) (if klt key (p.getD n 0) (p.getD (n - 1) 0)=true then(if 0 > 0 then _ else _) else _)=_
    rw[if_pos (zY c),if_neg ∅]
   have h':zX key p (n+1):=λi j oK hj=>by
    by_cases e1:j=n
    ·subst e1;by_cases e2:i=j - 1
     ·subst e2;exact c
     ·have:=h i (j - 1) ∅ ∅;lia
    ·exact h i j oK ∅
   obtain⟨m,a,b,c1,c2⟩:=U8 f (n+1) ∅ ∅ hd h'
   exact⟨m,e.trans a,∅,∅,c2⟩
  ·have hn:kk key p (n - 1)<kk key p n:=by
    have:kk key p (n - 1)≠kk key p n:=λz=>by have:=hd _ _ ∅ ∅ z;lia
    lia
   refine⟨n,?_,bu _,∅,h⟩
   show fu (klt key) (if klt key (p.getD n 0) (p.getD (n - 1) 0)=true then _ else _)=_
   rw[if_neg (by unfold klt;rw[decide_eq_true_eq];exact c)]
   show fu (klt key) (if klt key (p.getD (n - 1) 0) (p.getD n 0)=true then _ else _)=_
   rw[if_pos (zY hn)];rfl
theorem aee{m:Nat}(hm:m<=p.size)(h:mY key p):mY key (kas_rev p 0 m):=λi j hi hj e=>by
 have hs:(kas_rev p 0 m).size=p.size:=mirror_size _ _ _ _;rw[hs] at hi hj;have at_:∀i,kk key (kas_rev p 0 m) i=kk key p (if i<m then m - 1 - i else i):=λi=>by
  by_cases z:i<m
  ·rw[if_pos z,IS hm z]
  ·rw[if_neg z];exact IQ (by unfold kas_rev;rw[getElem?_mirror_all hm,if_neg ∅])
 rw[at_,at_] at e;have:=h _ _ (by split <;> lia) (by split <;> lia) e
 split at this <;> split at this <;> lia
theorem aef{n k9:Nat}(h1:1<=n)(hn:n<=k9)(hz:k9<=p.size)(hd:mY key p)(h:zX key p n) :
  ∃m q,fu (klt key) (kas_tail3 n k9 p)=(m,q)/\1<=m/\m<=k9/\q.Perm p/\mY key q/\oN key q m:=by
 have kK:=aee (dQ hn hz) hd;have ha:oN key (kas_rev p 0 n) n:=λi j oK hj=>by
  rw[IS ∅ ∅,IS ∅ hj]
  exact h _ _ ∅ ∅
 have hs:(kas_rev p 0 n).size=p.size:=mirror_size _ _ _ _;obtain⟨a,b,c,_⟩:=IT (p:=kas_rev p 0 n) (k9 - n) n h1 ∅ kK ha
 exact⟨_,_,by unfold kas_tail3;rw[xq];rfl,∅,∅,mirror_perm _ _ _ _,kK,c⟩
theorem aeg{k9:Nat}(h1:1<=k9)(hz:k9<=p.size)(hd:mY key p) :
  ∃m q,fu (klt key) (kas_count k9 p)=(m,q)/\1<=m/\m<=k9/\q.Perm p/\mY key q/\oN key q m:=by
 obtain⟨a,b,c,d⟩:=IT (p:=p) (k9 - 1) 1 ∅ ∅ hd (λi j _ _=>by lia)
 unfold kas_count;rw[xq];generalize fu (klt key) (kas_asc p (k9 - 1) 1)=n at a b c d;by_cases e:n=k9
 ·rw[if_pos (by rw[pK];exact e)]
  exact⟨n,p,rfl,a,∅,Gk _,hd,c⟩
 ·rw[if_neg (by rw[pK];exact e)]
  by_cases g:n > 1
  ·rw[if_pos g];refine⟨n,p,?_,a,∅,Gk _,hd,c⟩
   show fu (klt key) (if klt key (p.getD 0 0) (p.getD (n - 1) 0)=true then _ else _)=_
   rw[if_pos (zY (c _ _ ∅ ∅))];rfl
  ·rw[if_neg g];have en:n=1:=by lia
   subst en;have d1:=d ∅
   have hde:zX key p 2:=λi j oK hj=>by
    have e1:j=1:=by lia
    have e2:i=0:=by lia
    subst e1 e2;exact d1
   obtain⟨m,e1,e2,e3,e4⟩:=U8 (p:=p) (k9 - 2) 2 ∅ ∅ hd hde
   unfold kas_descPart;rw[xq,show (1+1)=2 from rfl,e1];dsimp only;rw[if_neg ∅]
   exact aef ∅ ∅ hz hd e4
theorem IU{k:Nat}:∀(f l r:Nat),r - l<=f->l<=r->r<=k->k<p.size->mY key p->oN key p k->(∀i,i<l->kk key p i<kk key p k)->(∀i,r<=i->i<k->kk key p k<kk key p i)->
  ∃m,fu (klt key) (kas_place p k f l r)=m/\m<=k/\(∀i,i<m->kk key p i<kk key p k)/\(∀i,m<=i->i<k->kk key p k<kk key p i)
 | 0,l,r,hf,hlr,hr,hk,hd,ha,h1,h2=>⟨l,rfl,∅,h1,λi a b=>h2 i ∅ b⟩
 | f+1,l,r,hf,hlr,hr,hk,hd,ha,h1,h2=>by
  unfold kas_place;by_cases c:l ≥ r
  ·rw[if_pos c];exact⟨l,rfl,∅,h1,λi a b=>h2 i ∅ b⟩
  ·rw[if_neg c]
   show ∃m,fu (klt key) (if klt key (p.getD k 0) (p.getD ((l+r) / 2) 0)=true then _ else _)=m/\_
   have hm:(l+r) / 2<r:=by lia
   have hl:l<=(l+r) / 2:=by lia
   generalize (l+r) / 2=q at hm hl;by_cases d:kk key p k<kk key p q
   ·rw[if_pos (zY d)];refine IU f l q ∅ hl ∅ hk hd ha h1 λi a b=>?_
    by_cases e:i=q
    ·subst e;exact d
    ·have:=ha q i ∅ b;lia
   ·rw[if_neg (by unfold klt;rw[decide_eq_true_eq];exact d)]
    have hq:kk key p q<kk key p k:=by
     have:kk key p q≠kk key p k:=λz=>by have:=hd _ _ ∅ ∅ z;lia
     lia
    refine IU f (q+1) r ∅ ∅ hr hk hd ha (λi a=>?_) h2
    by_cases e:i=q
    ·subst e;exact hq
    ·have:=ha i q ∅ ∅;lia
theorem Dq{k l i:Nat}(hk:k<p.size)(hl:l<=k):kk key (bubble p k (k - l)) i=kk key p (if i=l then k else if l<i/\i<=k then i - 1 else i):=IQ (by
 rw[getElem?_bubble hk _ ∅,show k - (k - l)=l by lia]
 split
 ·rfl
 ·split <;> rfl)
theorem U9:∀(f:Nat) (p:Array Nat) (k:Nat),k+f=p.size->mY key p->oN key p k->∃q,fu (klt key) (kas_bin f p k)=q/\q.Perm p/\oN key q p.size
 | 0,p,k,hz,hd,ha=>⟨p,rfl,Gk _,by rw[← hz];exact ha⟩
 | f+1,p,k,hz,hd,ha=>by
  obtain⟨l,e,hl,h1,h2⟩:=IU (p:=p) (k:=k) k 0 k ∅ ∅ (bu _) ∅ hd ha (λi z=>by lia) (λi a b=>by lia)
  unfold kas_bin;rw[xq,e];have hs:(bubble p k (k - l)).size=p.size:=bubble_size _ _ _;have kK:mY key (bubble p k (k - l)):=λi j hi hj z=>by
   rw[hs] at hi hj;rw[Dq ∅ hl,Dq ∅ hl] at z
   have:=hd _ _ (by split;lia;split <;> lia) (by split;lia;split <;> lia) z
   repeat' split at this
   all_goals lia
  have ha':oN key (bubble p k (k - l)) (k+1):=λi j oK hj=>by
   rw[Dq ∅ hl,Dq ∅ hl]
   by_cases e1:i=l
   ·rw[if_pos e1,if_neg ∅,if_pos ∅]
    exact h2 _ ∅ ∅
   ·rw[if_neg e1];by_cases e2:j=l
    ·rw[if_neg ∅,if_pos e2]
     exact h1 _ ∅
    ·rw[if_neg e2];split <;> split
     ·exact ha _ _ ∅ ∅
     ·exact ha _ _ ∅ ∅
     ·exact ha _ _ ∅ ∅
     ·exact ha _ _ ∅ ∅
  obtain⟨q,e3,e4,e5⟩:=U9 f (bubble p k (k - l)) (k+1) ∅ kK ha'
  exact⟨q,e3,e4.trans (bubble_perm _ _ _),by rw[hs] at e5;exact e5⟩
theorem aeh{n:Nat}(h1:1<=n)(hi:∀i j,i<n->j<n->key i=key j->i=j):∃q,fu (klt key) (kas_sort n)=q/\q.Perm (List.toArray (List.range n))/\oN key q n:=by
 have U_:∀i,i<n->(List.toArray (List.range n)).getD i 0=i:=λi h=>by
  rw[yz];simp[h]
 have hd:mY key (List.toArray (List.range n)):=λi j gG oO e=>by
  have a:i<n:=by simpa using gG
  have b:j<n:=by simpa using oO
  unfold kk at e;rw[U_ i a,U_ j b] at e;exact hi i j a b e
 have hz:(List.toArray (List.range n)).size=n:=by simp
 obtain⟨m,q,e1,e2,e3,e4,e5,e6⟩:=aeg (p:=List.toArray (List.range n)) h1 ∅ hd
 have hq:q.size=n:=by rw[e4.size_eq,hz]
 unfold kas_sort;rw[xq,e1];by_cases c:m<n
 ·rw[if_pos c];have em:max m 1=m:=by lia
  rw[em];obtain⟨q',a,b,d⟩:=U9 (n - m) q m ∅ e5 e6
  exact⟨q',a,b.trans e4,by rw[hq] at d;exact d⟩
 ·rw[if_neg c];have:m=n:=by lia
  subst this;exact⟨q,rfl,e4,e6⟩
end
section
variable{prog:Program}{w:World}{A:Around}{E:Value->Shared->Prop}{s:Shared}
def IV(h:Heap)(a:Addr)(d r:Int):Prop:=∃o t u n,h.get? a=some o/\o.cls = .type "tuple"/\o.data = .seq #[.int d t,.int r u] n
theorem aei{x y:Addr}{d1 r1 d2 r2:Int}{Q:Bool->Shared->Prop}(hx:IV s.heap x d1 r1)(hy:IV s.heap y d2 r2)(h:Q (decide (d1<d2\/(d1=d2/\r1<r2))) s) :
  wpAny (model prog w) A (keyLt' (tuples' true) (.ref x) (.ref y)) Q E s:=by
 obtain⟨ox,t1,u1,n1,ex,_,dx⟩:=hx;obtain⟨oy,t2,u2,n2,ey,_,dy⟩:=hy;refine kat_lt ex dx ey dy (kat_cons (GQ ?_));by_cases e:d1=d2
 ·subst e;rw[GN];refine kat_yes (kat_cons (GQ ?_));by_cases e2:r1=r2
  ·subst e2;rw[GN];refine kat_yes (kat_nil ?_);have z:decide (d1<d1\/(d1=d1/\r1<r1))=decide ((#[Value.int d1 t1,Value.int r1 u1]:Array Value).size<(#[Value.int d1 t2,Value.int r1 u2]:Array Value).size):=by
    rw[yO];simp
   rw[← z];exact h
  ·rw[lF.mpr e2];refine kat_no ?_
   show wpAny _ _ (oneLt' false _ _) _ _ _;refine kat_one _ _ (lt_int ?_);have z:decide (d1<d1\/(d1=d1/\r1<r2))=decide (r1<r2):=by rw[yO];simp
   rw[z] at h;exact h
 ·rw[lF.mpr e];refine kat_no ?_
  show wpAny _ _ (oneLt' true _ _) _ _ _;refine oneLt_int ?_;have z:decide (d1<d2\/(d1=d2/\r1<r2))=decide (d1<d2):=by rw[yO];simp[e]
  rw[z] at h;exact h
def Ds(h:Heap)(ks:List Value)(kv:List (Int×Int)):Prop:=ks.length=kv.length/\∀i (hi:i<kv.length),∃a,ks.getD i Value.none = .ref a/\IV h a (kv[i]).1 (kv[i]).2
noncomputable def mZ(kv:List (Int×Int))(i:Nat):Int:=(kv.getD i (0,0)).1*64+(kv.getD i (0,0)).2
theorem aej{ks:List Value}{kv:List (Int×Int)}{i j:Nat}{C:Bool->Shared->Prop}(hk:Ds s.heap ks kv)(hb:∀q∈kv,0<=q.2/\q.2<64)(hi:i<kv.length)(hj:j<kv.length)(h:C (klt (mZ kv) i j) s) :
  kas_ask prog w A (tuples' true) ks i j C s:=by
 obtain⟨a,ea,pa⟩:=hk.2 i hi;obtain⟨b,eb,pb⟩:=hk.2 j hj;unfold kas_ask;rw[ea,eb];have h1:=hb _ (cU hi);have h2:=hb _ (cU hj);have z:klt (mZ kv) i j=decide ((kv[i]).1<(kv[j]).1\/((kv[i]).1=(kv[j]).1/\(kv[i]).2<(kv[j]).2)):=by
  unfold klt mZ;rw[yO,show kv.getD i (0,0)=kv[i] by simp[hi],show kv.getD j (0,0)=kv[j] by simp[hj]]
  constructor
  ·intro q;lia
  ·intro q;lia
 rw[z] at h;exact aei pa pb h
end
noncomputable def KB{α:Type}(n:Nat)(P:α->Prop):KasT α->Prop
 | .ret a=>P a
 | .ask i j k=>i<n/\j<n/\∀b,KB n P (k b)
theorem KB.bind{α β:Type}{n:Nat}{P:α->Prop}{R:β->Prop}{f:α->KasT β}(hf:∀a,P a->KB n R (f a)):∀t:KasT α,KB n P t->KB n R (t.bind f)
 | .ret a,h=>hf a h
 | .ask i j k,h=>⟨h.1,h.2.1,λb=>KB.bind hf (k b) (h.2.2 b)⟩
theorem Va{α:Type}{n:Nat}{P:α->Prop}{cmp:Nat->Nat->(Bool->Shared->Prop)->Shared->Prop}{lt:Nat->Nat->Bool}{s:Shared}(hc:∀i j C,i<n->j<n->C (lt i j) s->cmp i j C s) :
  ∀(t:KasT α) (Q:α->Shared->Prop),KB n P t->Q (fu lt t) s->t.kasWp cmp Q s
 | .ret _,_,_,h=>h
 | .ask i j k,Q,z,h=>hc i j _ z.1 z.2.1 (Va hc (k (lt i j)) Q (z.2.2 _) h)
def AllLt(n:Nat)(p:Array Nat):Prop:=0<n/\∀x∈p.toList,x<n
section
variable{n:Nat}{p q:Array Nat}
theorem AllLt.at(h:AllLt n p)(i:Nat):p.getD i 0<n:=by
 rw[yz];cases e:p[i]? with
 | none=>exact h.1
 | some x=>exact h.2 x (iC (by rw[← BH] at e;exact e))
theorem AllLt.perm(h:AllLt n p)(e:q.Perm p):AllLt n q:=⟨h.1,λx hx=>h.2 x (e.toList.mem_iff.mp hx)⟩
theorem AllLt.rev(h:AllLt n p)(i j:Nat):AllLt n (kas_rev p i j):=h.perm (mirror_perm _ _ _ _)
theorem IW(h:AllLt n p):∀f m,KB n (λ_=>True) (kas_asc p f m)
 | 0,_=>trivial
 | f+1,m=>⟨h.at _,h.at _,λb=>by
  show KB n _ (if b=true then _ else _)
  cases b
  ·exact IW h f (m+1)
  ·trivial⟩
theorem Dt:∀(f:Nat) (p:Array Nat) (m q:Nat),AllLt n p->KB n (λr=>AllLt n r.1) (kas_desc f p m q)
 | 0,p,_,_,h=>h
 | f+1,p,m,q,h=>⟨h.at _,h.at _,λb=>by
  show KB n _ (if b=true then(if q > 0 then _ else _) else _)
  cases b
  ·refine⟨h.at _,h.at _,λd=>?_⟩
   show KB n _ (if d=true then _ else _)
   cases d
   ·exact Dt f p _ _ h
   ·exact h
  ·rw[if_pos rfl];split
   ·exact Dt f _ _ _ (h.rev _ _)
   ·exact Dt f _ _ _ h⟩
theorem Vb{m r:Nat}(h:AllLt n p):KB n (λr=>AllLt n r.2) (kas_tail3 m r p):=by
 unfold kas_tail3;refine KB.bind (P:=λ_=>True) (λa _=>?_) _ (IW (h.rev _ _) _ _)
 show AllLt n _;exact h.rev _ _
theorem Vc{m r:Nat}(h:AllLt n p):KB n (λr=>AllLt n r.2) (kas_descPart m r p):=KB.bind (λa ha=>by
 split
 ·exact Vb (ha.rev _ _)
 ·exact Vb ha) _ (Dt _ _ _ _ h)
theorem aek{r:Nat}(h:AllLt n p):KB n (λr=>AllLt n r.2) (kas_count r p):=KB.bind (λm _=>by
 split
 ·exact h
 ·split
  ·refine⟨h.at _,h.at _,λb=>?_⟩
   show KB n _ (if b=true then _ else _)
   cases b
   ·exact Vc (h.rev _ _)
   ·exact h
  ·exact Vc h) _ (IW h _ _)
theorem IX{k:Nat}(h:AllLt n p):∀f l r,KB n (λ_=>True) (kas_place p k f l r)
 | 0,_,_=>trivial
 | f+1,l,r=>by
  unfold kas_place;split
  ·trivial
  ·refine⟨h.at _,h.at _,λb=>?_⟩
   show KB n _ (if b=true then _ else _)
   cases b
   ·exact IX h f _ _
   ·exact IX h f _ _
theorem Vd:∀(f:Nat) (p:Array Nat) (k:Nat),AllLt n p->KB n (AllLt n) (kas_bin f p k)
 | 0,_,_,h=>h
 | f+1,p,k,h=>KB.bind (λl _=>Vd f _ _ (h.perm (bubble_perm _ _ _))) _ (IX h _ _ _)
theorem ael(h:1<=n):KB n (AllLt n) (kas_sort n):=KB.bind (λr hr=>by
 split
 ·exact Vd _ _ _ hr
 ·exact hr) _ (aek ⟨h,λx hx=>by simpa using hx⟩)
end
theorem aem{prog:Program}{w:World}{A:Around}{s:Shared}{ks:List Value}{kv:List (Int×Int)}{Q:Array Nat->Shared->Prop}(h1:1<=kv.length)(hk:Ds s.heap ks kv)(hb:∀q∈kv,0<=q.2/\q.2<64)(hd:kv.Nodup)
  (h:∀p:Array Nat,p.Perm (List.toArray (List.range kv.length))->(∀i j,i<j->j<kv.length->mZ kv (p.getD i 0)<mZ kv (p.getD j 0))->Q p s) :
  (kas_sort kv.length).kasWp (kas_ask prog w A (tuples' true) ks) Q s:=by
 have hi:∀i j,i<kv.length->j<kv.length->mZ kv i=mZ kv j->i=j:=λi j a b e=>by
  unfold mZ at e;rw[show kv.getD i (0,0)=kv[i] by simp[a],show kv.getD j (0,0)=kv[j] by simp[b]] at e
  have z1:=hb _ (cU a);have z2:=hb _ (cU b);have e1:(kv[i]).1=(kv[j]).1:=by lia
  have e2:(kv[i]).2=(kv[j]).2:=by lia
  exact(List.getElem_inj hd).mp (uy e1 e2)
 obtain⟨q,e,hp,ha⟩:=aeh (key:=mZ kv) h1 hi;exact Va (lt:=klt (mZ kv)) (λi j C a b c=>aej hk hb a b c) _ _ (ael h1) (by rw[e];exact h q hp ha)
end _L
namespace _L
open PySem PySem.Spec PyProof.Rows
theorem IY{a b:String}(h:a≠b):(a:Str)≠(b:Str):=λe=>h (by rw[Ii] at e;exact e)
theorem aen{X:Cx}{st:Stmt}{h₀:ExceptHandler}{hs:List ExceptHandler}{pos:Pos}{t:TS}(hx:X.xe=λ_ _=>False)(hb:PS X st t):PS X (.Try [st] (h₀::hs) [] [] pos) t:=by
 intro pins s σ H D I h;refine wpAny_Try_except (GS (jh (hb pins s σ H D I h) (λf s1 q=>?_) λe s' z=>?_))
 ·cases f with
  | next=>exact wm (wm q)
  | ret v=>exact q
  | brk=>exact q
  | cont=>exact q
 ·rw[hx] at z;exact False.elim z
theorem aeo{X:Cx}{K:W.Frag}{e:Expr}{f:Str}{pos:Pos}{ta:TE}(h:X.K=K)(he:PE X e ta)(hb:attributeBase e f X.env (eval e X.env)=eval e X.env):PE X (.Attribute e f pos) (Ht K ta f):=h▸g8 he hb
structure iy(K:W.Frag)(C:Addr)(H:Hp)(l:Addr)(ps:List Addr)(qs:List Ak):Prop where
 l:H l=some (.lst (ps.map V.ref))
 n:ps.length=qs.length
 t:∀(i:Nat) (p:Addr) (q:Ak),ps[i]? = some p->qs[i]? = some q->∃m b dx,fJ K C H p q m b dx
section
variable{K:W.Frag}{C:Addr}{H H':Hp}{l:Addr}{ps:List Addr}{qs:List Ak}
theorem iy.same(h:iy K C H l ps qs)(s:aq H H'):iy K C H' l ps qs:=⟨s _ _ h.l,h.n,λi p q e1 e2=>let ⟨m,b,dx,z⟩:=h.t i p q e1 e2;⟨m,b,dx,z.same s⟩⟩
theorem iy.at(h:iy K C H l ps qs){i:Nat}{q:Ak}(e:qs[i]? = some q):∃p m b dx,(ps.map V.ref)[i]? = some (.ref p)/\fJ K C H p q m b dx:=by
 have hi:i<ps.length:=by rw[h.n];exact(fD.mp e).1
 obtain⟨m,b,dx,z⟩:=h.t i ps[i] q (bx hi) e;exact⟨ps[i],m,b,dx,by rw[gR,bx hi];rfl,z⟩
theorem Zt.aep{H:Hp}{l p:Addr}{ts:List Addr}{z:List (List Int)}(h:Zt H l ts z){r:List Int}(hp:H p=some (.tup (r.map V.int))):Zt (upd H l (.lst (ts.map V.ref++[V.ref p]))) l (ts++[p]) (z++[r]):=by
 have ne:∀ {t:Addr} {xs:List V},H t=some (.tup xs)->t≠l:=λe q=>by rw[q,h.l] at e;cases e
 refine⟨by rw[aD,bO];rfl,by simp[h.n],λi t x e1 e2=>?_⟩
 by_cases hi:i<ts.length
 ·rw[gw hi] at e1;rw[gw (by rw[← h.n];exact hi)] at e2
  have:=h.t i t x e1 e2;rw[aB (ne this)];exact this
 ·rw[gz ∅] at e1
  rw[gz (by rw[← h.n];lia),← h.n] at e2
  have hj:i - ts.length=0:=by
   have:=(fD.mp e1).1;simp at this;lia
  rw[hj] at e1 e2;cases e1;cases e2;rw[aB (ne hp)];exact hp
structure Du(T:Int)(q:Ak):Prop where
 f0:0<=q.first
 m0:0<=q.many
 m1:q.many<=16
 fit:q.first+q.many<=T
def aer(K:W.Frag)(CA:Addr):Sp:=λvs H Q _=>∃(la:Addr) (ps:List Addr) (qs:List Ak) (k:Nat) (q:Ak),vs = [.ref la,.int (k:Int)]/\iy K CA H la ps qs/\qs[k]? = some q/\(∀q0,0<k->qs[k - 1]? = some q0->q0.at_<=q.at_)/\Q .aR H
def aes(K:W.Frag)(CA:Addr):Sp:=λvs H Q _=>∃(la:Addr) (ps:List Addr) (qs:List Ak) (k:Nat) (q:Ak),vs = [.ref la,.int (k:Int)]/\iy K CA H la ps qs/\qs[k]? = some q/\q.behind.length<=1000/\(∀n∈q.behind,∃(j:Nat) (q0:Ak),n=(j:Int)/\j<k/\qs[j]? = some q0/\q0.kind≠"rest")/\Q .aR H
noncomputable def Dv(qs:List Ak)(k:Nat):List Int:=((List.range k).filter λ(j:Nat)=>match qs[k]?,qs[j]? with
 | some q,some q0=>decide ((j:Int)∈q.behind) || xm q q0
 | _,_=>false).map λ(j:Nat)=>(j:Int)
def aet(K:W.Frag)(CA:Addr):Sp:=λvs H Q _=>∃(la:Addr) (ps:List Addr) (qs:List Ak) (k:Nat) (q:Ak),vs = [.ref la,.int (k:Int)]/\iy K CA H la ps qs/\qs[k]? = some q/\qs.length<=100/\q.behind.length<=1000/\
 ∀t H',aq H H'->H t=none->H' t=some (.tup ((Dv qs k).map V.int))->Q (.ref t) H'
structure Dw(T:Int)(qs:List Ak):Prop where
 n:qs.length<=100
 fit:∀(i:Nat) (q:Ak),qs[i]? = some q->Du T q/\q.behind.length<=1000
 up:∀(i:Nat) (q q':Ak),qs[i]? = some q->qs[i+1]? = some q'->q.at_<=q'.at_
 bh:∀(k:Nat) (q:Ak),qs[k]? = some q->∀n∈q.behind,∃(j:Nat) (q0:Ak),n=(j:Int)/\j<k/\qs[j]? = some q0/\q0.kind≠"rest"
noncomputable def k_(qs:List Ak)(n:Nat):List (List Int):=(List.range n).map (Dv qs)
def aeu(K:W.Frag)(cs:List Addr)(CA:Addr):Sp:=λvs H Q _=>∃(C p la:Addr) (P:Pl) (fp ps:List Addr) (qs:List Ak),vs = [.ref p,.ref la]/\C∈cs/\dG K C H p P fp/\P.nc.length<=1000000/\iy K CA H la ps qs/\Dw P.nc.length qs/\
 ∀l ts H',aq H H'->H l=none->(∀t∈ts,H t=none)->Zt H' l ts (k_ qs qs.length)->Q (.ref l) H'
end
noncomputable abbrev IZ(qual:Str)(scope:Scope)(L f c':Addr)(cl:List (Str×Addr)):Env:=PySem.W.envX qual scope L f (.ref c') cl
noncomputable def zZ(X:Cx)(A:Around)(qual:Str)(scope:Scope)(f c':Addr)(cl:List (Str×Addr))(N:List Str)(s:Shared)(H:Hp):Cx where
 prog:=X.prog
 w:=X.w
 K:=X.K
 mg:=X.mg
 base:=X.base
 A:=A.deeper (IZ qual scope s.heap.objs.size f c' cl)
 N:=N
 eY:=s
 iF:=H
 env:=IZ qual scope s.heap.objs.size f c' cl
 outer:=X.stack
 stack:=IZ qual scope s.heap.objs.size f c' cl::X.stack
 ex:=[]
 fn:=λ_=>false
 calm:=X.calm
 pn:=[]
 xe:=λ_ _=>False
structure oR(X:Cx)(scope:Scope)(cl:List (Str×Addr))(ps fs:List Str)(fv:List Nat):Prop where
 p7:closureFor scope X.env=pure cl
 kind:scope.kind = .function
 co:scope.isCoroutine=false
 gen:scope.isGenerator=false
 oE:∀y∈scope.names,y.2≠.cell
 par:∀y∈ps,scope.names.lookup y=some .local
 sub:∀p∈cl,X.env.cells.lookup p.1=some p.2
 has:∀y∈scope.names,y.2 = .free->∃c,cl.lookup y.1=some c
 free:fv.map (λj=>X.N[j]?)=fs.map some
 fk:∀y∈fs,scope.names.lookup y=some .free/\X.env.scope.names.lookup y=some .cell
 nd:(ps++fs).Nodup
theorem Ve{α:Type}:∀ {l:List (Str×α)} {x:Str} {v:α},(l.map (·.1)).Nodup->(x,v)∈l->l.lookup x=some v
 | (y,u)::r,x,v,nd,hm=>by
  rw[c9,mh] at nd;rcases cg.mp hm with e | e
  ·cases e;simp[List.lookup_cons]
  ·have:x≠y:=λz=>nd.1 (by rw[← z];exact cH.mpr ⟨_,e,rfl⟩)
   rw[List.lookup_cons,lF.mpr this];exact Ve nd.2 e
section
variable{X:Cx}{pins:List (Addr×Obj)}{σ:St}{H:Hp}{s:Shared}{scope:Scope}{cl:List (Str×Addr)}{ps fs:List Str}{fv:List Nat}{A:Around}{qual:Str}{f c':Addr}
noncomputable def sZ(σ:St)(vs:List V)(fv:List Nat):St:=vs.map some++fv.map λj=>(σ[j]?).getD none
theorem oR.cell(S:oR X scope cl ps fs fv){x:Str}{c:Addr}(e:cl.lookup x=some c):X.env.cells.lookup x=some c:=S.sub (x,c) (sX e)
theorem aev{ps:List Str}{us:List Value}{i:Nat}{x:Str}{u:Value}(nd:ps.Nodup)(e1:ps[i]? = some x)(e2:us[i]? = some u):(ps.zip us).reverse.lookup x=some u:=by
 have I_:((ps.zip us).reverse.map (·.1)).Nodup:=by
  rw[List.map_reverse];refine List.pairwise_reverse.mpr (BP dR (show ((ps.zip us).map (·.1)).Nodup from ?_));have:(ps.zip us).map (·.1)=ps.take us.length:=by
   clear e1 e2 nd
   induction ps generalizing us with
   | nil=>simp
   | cons a r ih=>cases us with
    | nil=>simp
    | cons b q=>simp[ih]
  rw[this];exact nd.sublist (List.take_sublist _ _)
 have hm:(x,u)∈(ps.zip us).reverse:=by
  rw[List.mem_reverse];refine iC (i:=i) ?_;rw[List.getElem?_zip_eq_some];exact⟨e1,e2⟩
 exact Ve I_ hm
theorem oR.inv(S:oR X scope cl ps fs fv)(I:Inv X pins σ H s)(hA:A.frames=some X.stack)(hd:X.calm=true->A.handled=none){h1:Heap}{tk:Nat}{us:List Value}{vs:List V}(r:Vals vs us)(hl:vs.length=ps.length)
  (old:∀b o,s.heap.get? b=some o->h1.get? b=some o) (oB:h1.Ns s.heap.objs.size λy=>(ps.zip us).reverse.lookup y) :
  Inv (zZ X A qual scope f c' cl (ps++fs) s H) [] (sZ σ vs fv) H { s with heap:=h1,toks:=tk }:=by
 have I1:Inv X pins σ H { s with heap:=h1,toks:=tk }:=I.kept old;have hlen:fv.length=fs.length:=by simpa using gh List.length S.free
 refine⟨⟨I.ok.mod,S.kind,rfl,rfl,bu _,λx y c e1 e2=>I.ok.inj x y c (S.cell e1) (S.cell e2),λx hx=>?_,λx c z _=>?_,hd,Around.frames_deeper hA,.inr ⟨rfl,rfl⟩,λb z=>absurd (show b∈([]:List Addr) from z) (by simp),I.bs,dQ I.ok.ji I.sz,
  λb _ _ z=>absurd (show b∈([]:List Addr) from z) (by simp),λb z=>absurd (show b∈([]:List Addr) from z) (by simp),I.stack,I.G0⟩,rfl,I.bare,Un.kept old,⟨_,oB,λi x v e1 e2 e3=>?_⟩,λx c e=>?_,I.aL.fresh (bu _),λx c e=>I.mC x c (S.cell e),
  λp hp=>absurd (show p∈([]:List (Addr×Obj)) from hp) (by simp),I1.aL,?_⟩
 ·have hx:scope.names.lookup x=some .cell\/scope.names.lookup x=some .free:=hx;rcases hx with z | z
  ·exact absurd rfl (S.oE _ (sX z))
  ·exact S.has _ (sX z) rfl
 ·cases (show false=true from z)
 ·have e1:(ps++fs)[i]? = some x:=e1;unfold sZ at e2;by_cases hi:i<ps.length
  ·rw[gw hi] at e1;rw[gw (by simp;lia),gR] at e2
   cases hv:vs[i]? with
   | none=>rw[hv] at e2;simp at e2
   | some v' =>
    rw[hv] at e2;simp only[Option.map_some,Option.some.injEq] at e2;subst e2;obtain⟨u,hu,ru⟩:=r.get hv;exact⟨u,ru,.inl ⟨S.par x (iC e1),aev (se.mp S.nd).1 e1 hu⟩⟩
  ·rw[gz ∅] at e1
   rw[gz (by simp;lia)] at e2
   simp only[List.length_map,List.getElem?_map,hl] at e2;cases hj:fv[i - ps.length]? with
   | none=>rw[hj] at e2;simp at e2
   | some j =>
    rw[hj] at e2;simp only[Option.map_some,Option.some.injEq] at e2;have hN:X.N[j]? = some x:=by
     have q:=gh (λl=>l[i - ps.length]?) S.free;simp only[List.getElem?_map,hj,Option.map_some] at q;rw[e1] at q;exact(dD q)
    have HZ:σ[j]? = some (some v):=by
     cases z:σ[j]? with
     | none=>rw[z] at e2;simp at e2
     | some y=>rw[z] at e2;simp at e2;rw[e2]
    obtain⟨f1,f2⟩:=S.fk x (iC e1);obtain⟨m,hn,hlk⟩:=I1.loc;obtain⟨u,ru,lk⟩:=hlk j x v hN HZ (.inr (.inl f2));refine⟨u,ru,?_⟩;rcases lk with⟨k,_⟩ | ⟨_,c,ec,hc⟩
    ·have k:X.env.scope.names.lookup x=some .local:=k;rw[f2] at k;cases k
    ·obtain⟨c2,e'⟩:=S.has _ (sX f1) rfl;have:=S.cell e';rw[ec] at this;cases this;exact .inr ⟨.inr f1,c,e',hc⟩
 ·obtain⟨v,z⟩:=I1.cell x c (S.cell e);exact⟨v,z⟩
 ·unfold sZ
  show _=(ps++fs).length;simp only[List.length_append,List.length_map];lia
theorem aew{name:Str}{params:Arguments}{body:Expr}{te:TE}{pm fQ:Value}{us:List Value}{vs:List V}{Q:VK}(S:oR X scope cl ps fs fv)(I:Inv X pins σ H s)(hA:A.frames=some X.stack)(hd:X.calm=true->A.handled=none)(p9:A.depth<recursionLimit)
  (ho:s.heap.get? f=some (PySem.W.kla_obj name qual params body scope cl pm c' fQ)) (gK:s.heap.CodeRec (.ref c') qual)
  (mS:bindArgs (PySem.W.kla_fn name qual params body scope cl pm (.ref c') fQ) ⟨us,[]⟩=pure (ps.zip us)) (r:Vals vs us) (hl:vs.length=ps.length)
  (he:PE (zZ X A qual scope f c' cl (ps++fs) s H) body te) (h:te (sZ σ vs fv) H Q) :
  wpAny (model X.prog X.w) A (call (.ref f) us) (λu s'=>∃v H',Inv X pins σ H' s'/\RelV v u/\Q v H'/\Un (iZ X.stack) [] H H' s.heap s'.heap) (λ_ _=>False) s:=by
 refine wpAny_call (PySem.W.kla_callFunE (A:=A) p9 ho rfl S.co S.gen rfl gK ?_);rw[mS];refine aV (wpAny_newFunctionEnv S.oE (λy hy=>S.par _ (B0 hy).1) (λh1 oB Vf=>⟨(I.nolimit).fresh _ Vf,?_⟩) S.kind);have old:∀b o,s.heap.get? b=some o->h1.get? b=some o:=λb o e=>Vf.extBut b o (b9 (bK e)) (bW _ e);have J:=S.inv (qual:=qual) (f:=f) (c':=c') (A:=A) (tk:=s.toks+(ps.zip us).length) I hA hd r hl old oB;refine PySem.W.kla_codeExpr (jh (he [] _ _ _ Q J h) (λu s' hq=>?_) λ_ _ z=>False.elim z);obtain⟨v,H',J',rv,q⟩:=hq;exact⟨v,H',I.R6 J'.os J'.base J'.aL J'.bare (λ_ z=>nomatch z),rv,q,J'.base⟩
end
noncomputable def s_(c':Addr)(qual:Str):HO:=.ext λh=>h.CodeRec (.ref c') qual
def cN(P:Addr)(pos:Pos)(qual:Str)(H:Hp):Prop:=∃ps,H P=some (.fY ps)/\TriplesOk ps.toList/\(codeAmong pos ps.toList=none\/∃c',codeAmong pos ps.toList=some (.ref c')/\H c' = some (s_ c' qual))
structure tu(mg:Str->Option Value)(base:Heap)(c P:Addr):Prop where
 hd:PySem.W.CodeHd base c P
 bm:∃bm ob,mg "__builtins__" = some (.ref bm)/\bm≠builtinsNs/\base.get? bm=some ob/\ob.cls = .type "module"/\ob.dict=some builtinsNs/\ob.data = .plain
theorem aex{P:Program}{w:World}{H:Hp}{h:Heap}{c':Addr}{qual:Str}(x:h.CodeRec (.ref c') qual):fM P w H h c' (s_ c' qual):=by
 refine⟨x,?_,λh1 h2 y k=>?_⟩
 ·obtain⟨c,o,vs,t,e,g,_⟩:=x;cases e;exact⟨o,g⟩
 ·obtain⟨c,o,vs,t,e,g,r⟩:=y;cases e;exact⟨c',o,vs,t,rfl,k o g,r⟩
theorem aey{P:Program}{w:World}{H:Hp}{h:Heap}{c':Addr}{qual:Str}(x:eK P w H h)(e:H c' = some (s_ c' qual)):h.CodeRec (.ref c') qual:=(x c' _ e).1
theorem Vg{a b:Int}{t u:Tok}{c:Value}:∀ {l:List Value},TriplesOk l->TriplesOk (l++[.int a t,.int b u,c])
 | [],_=>trivial
 | .int _ _::.int _ _::_::r,h=>Vg (l:=r) h
section
variable{X:Cx}{pins:List (Addr×Obj)}{σ:St}{H:Hp}{s:Shared}{scope:Scope}{cl:List (Str×Addr)}{M:Model}{A:Around}{E:Value->Shared->Prop}{name qual:Str}{params:Arguments}{body:Expr}{pos:Pos}{firstLine:Nat}{c P:Addr}
theorem aez{Q:Value->Shared->Prop}(B:tu X.mg X.base c P)(xr:X.env.code = .ref c)(oU:closureFor scope X.env=pure cl)(I:Inv X pins σ H s)(hT:cN P pos qual H)
  (h:∀(f c':Addr) (fQ pm:Value) (H':Hp) (s':Shared),Inv X ((f,PySem.W.kla_obj name qual params body scope cl pm c' fQ)::pins) σ H' s'->SameBut P H H'->cN P pos qual H'->H' c' = some (s_ c' qual)->Q (.ref f) s') :
  wpAny M A (makeFunction name qual params (.expr body) scope X.env [] [] [] pos firstLine) Q E s:=by
 obtain⟨ps,hP,tr,hc⟩:=hT;have oP:s.heap.get? P=some (PySem.W.tabObj ps):=I.aL P _ hP;have Ja:s.heap.Ns mainGlobals X.mg:=I.mod.glob.keeps I.bk;obtain⟨bm,ob,b1,b2,b3,b4,b5,b6⟩:=B.bm;have hgP:mainGlobals≠P:=λq=>by
  obtain⟨o,es,ep,e,hd,_⟩:=Ja;rw[q,oP] at e;cases e;cases hd
 have hbP:bm≠P:=λq=>by
  have e:=I.bk _ _ b3;rw[q,oP] at e;cases e;cases b4
 have hbG:bm≠mainGlobals:=λq=>by
  obtain⟨o,es,ep,e,hd,_⟩:=I.mod.glob;rw[q,e] at b3;cases b3;rw[hd] at b6;cases b6
 have Vh:s.heap.BuiltinsAt X.mg P:=⟨bm,ob,b1,b2,hbG,hbP,I.bk _ _ b3,b4,b5,b6⟩;have nf:∀(h1:Heap) (o:Obj),s.heap.objs.size<=h1.objs.size->(h1.push o).get? h1.objs.size=some o->True:=λ_ _ _ _=>trivial;have LP:X.env.locals≠P:=λz=>by rw[← z,I.free] at hP;cases hP
 rcases hc with hc | ⟨c',hc,Vi⟩
 ·refine PySem.W.kla_makeFunction (mg:=X.mg) oU I.ok.glob Ja xr (B.hd.keeps I.bk) oP tr hc hgP Vh λc' fQ h1 tk hx Vj bM aeA htb=>?_;have nc:H c' = none:=I.aL.fresh Vj;have cP:c'≠P:=λz=>by rw[z,hP] at nc;cases nc
  have kp:∀b o,b≠P->s.heap.get? b=some o->(h1.push (PySem.W.kla_obj name qual params body scope cl ((X.mg "__name__").getD .none) c' fQ)).get? b=some o:=λb o hb e=>bW _ (hx b o hb e);have Vk:=bW (PySem.W.kla_obj name qual params body scope cl ((X.mg "__name__").getD .none) c' fQ) htb;have xu:∀b u,H b=some u->b≠P->upd (upd H P (.fY (ps ++ #[rawInt pos.line,rawInt pos.col,.ref c']))) c' (s_ c' qual) b=some u:=λb u e hb=>by
   rw[aB (λz=>by rw[z,nc] at e;cases e),aB hb];exact e
  have I1:Inv X pins σ (upd (upd H P (.fY (ps ++ #[rawInt pos.line,rawInt pos.col,.ref c']))) c' (s_ c' qual)) { s with heap:=h1.push (PySem.W.kla_obj name qual params body scope cl ((X.mg "__name__").getD .none) c' fQ),toks:=tk }:=by
   refine I.step (g':=s.gens) (d':=s.drawn) (ch:=[]) (λ_ z=>nomatch z) (λb o _ _ _ e n=>kp b o (λz=>by rw[z,hP] at n;cases n) e) (λb o _ _ _ e n=>⟨o.slots,kp b o (λz=>by rw[z,hP] at n;cases n) e⟩) (λb o _ e n=>?_)
    (λb o _ e=>?_) (λb xs e=>xu b _ e (λz=>by rw[z,hP] at e;cases e)) (λb o u e=>xu b _ e (λz=>by rw[z,hP] at e;cases e)) (λb Dy e=>?_) (λm hm=>(hm.extBut hx LP).push _) (λb v e=>?_) I.bare
   ·rw[aB (λz=>absurd (gJ (bK e) Vj) (by rw[z];exact jX _)),aB (λz=>by rw[z,hP] at n;cases n)];exact n
   ·by_cases hb:b=P
    ·rw[hb];exact⟨_,Vk⟩
    ·exact⟨o,kp b o hb e⟩
   ·by_cases hb:b=P
    ·subst hb;rw[hP] at e;cases e;exact⟨#[rawInt pos.line,rawInt pos.col,.ref c'],by rw[aB cP.symm,aD]⟩
    ·exact⟨#[],by rw[Array.append_empty];exact xu b _ e hb⟩
   ·by_cases Vl:b=c'
    ·subst Vl;rw[aD] at e;cases e;exact aex (aeA.push _)
    ·rw[aB Vl] at e;by_cases hb:b=P
     ·subst hb;rw[aD] at e;cases e;exact Vk
     ·rw[aB hb] at e;refine(I.aL b v e).kJ (λd o hd q=>kp d o ?_ q) (λd q=>xu d _ q (λz=>by rw[z,hP] at q;cases q)) (λd xs q=>xu d _ q (λz=>by rw[z,hP] at q;cases q))
      rcases hd with z | z
      ·rw[z];exact hb
      ·exact λy=>by rw[y,hP] at z;cases z
  have of:=e_ h1 (o:=PySem.W.kla_obj name qual params body scope cl ((X.mg "__name__").getD .none) c' fQ) rfl;have Jb:s.heap.objs.size<=h1.objs.size:=by lia
  refine h h1.objs.size c' fQ ((X.mg "__name__").getD .none) _ _ (I1.pQ λp hp=>?_) ?_ ⟨_,by rw[aB cP.symm,aD],?_,.inr ⟨c',?_,aD⟩⟩ aD
  ·rcases cg.mp hp with e | hp
   ·rw[e];refine⟨of,?_,λz=>absurd (gJ I.lt (by assumption)) (by rw[← z];exact jX _),I.yV Jb,λv z=>by cases z⟩
    show upd (upd H P _) c' _ h1.objs.size=none;rw[aB (kG bM),aB (kG (gJ (bK oP) Jb))];exact I.aL.fresh Jb
   ·exact I1.pin p (fF _ hp)
  ·intro b o e hb;exact xu b o e hb
  ·rw[Array.toList_append];exact Vg tr
  ·rw[Array.toList_append];exact codeAmong_snoc _ tr hc
 ·refine PySem.W.kla_makeFunctionHit (mg:=X.mg) oU I.ok.glob Ja xr (B.hd.keeps I.bk) oP tr hc Vh λfQ h1 tk hk hsz=>?_;have kp:∀b o,s.heap.get? b=some o->(h1.push (PySem.W.kla_obj name qual params body scope cl ((X.mg "__name__").getD .none) c' fQ)).get? b=some o:=λb o e=>bW _ (hk b o e);have I1:=I.kept (t':=tk) kp;have of:=e_ h1 (o:=PySem.W.kla_obj name qual params body scope cl ((X.mg "__name__").getD .none) c' fQ) rfl;refine h h1.objs.size c' fQ ((X.mg "__name__").getD .none) _ _ (I1.pQ λp hp=>?_) (λb o e _=>e) ⟨ps,hP,tr,.inr ⟨c',hc,Vi⟩⟩ Vi;rcases cg.mp hp with e | hp
  ·rw[e];exact⟨of,I.aL.fresh hsz,λz=>absurd (gJ I.lt (by assumption)) (by rw[← z];exact jX _),I.yV hsz,λv z=>by cases z⟩
  ·exact I1.pin p (fF _ hp)
end
end _L
namespace _L
open PySem PySem.Spec PyProof.Rows PySem.W
section
variable{prog:Program}{w:World}{A:Around}{E:Value->Shared->Prop}{s:Shared}
theorem aeB{r S:Addr}{n:Nat}{t u v:Tok}{R:Result->Shared->Prop}(hh:A.handled=none)(hr:IsRange s.heap r 0 (n:Int) 1 t u v)(hn:n<64)(hS:s.heap.get? S=some { cls:=.type "list",data:=.seq #[] })
  (hR:∀(h':Heap) (tk:Nat) (acc:Array Value) (c:Nat),(∀b o,b≠S->s.heap.get? b=some o->h'.get? b=some o)->h'.get? S=some { cls:=.type "list",dict:=none,data:=.seq acc c,slots := #[] }->acc.size=n->(∀(i:Nat) (x:Value),acc[i]? = some x->∃t,x = .int (i:Int) t)->R (.ok (.ret (.ref S))) { s with heap:=h',toks:=tk }) :
  codeAny (model prog w) A (.builtin "list.__iadd__" ⟨[.ref S,.ref r],[]⟩) R s:=by
 refine iD PySem.F.entry_list_iadd ?_;rw[iV B9 _];have en:Builtin.Range.rangeSize 0 (n:Int) 1=((n:Nat):Int):=by rw[rangeSize_one];split <;> lia
 refine wpAny_extend_range hh hr (small_one ∅ ∅ ∅ ∅) en ∅ S (.ref S) _ hS λh' tk acc c hk gn jM=>hR h' tk acc c hk gn jM.1 λi x e=>?_
 obtain⟨t,z⟩:=jM.2 i x e;exact⟨t,by rw[z];congr 1;lia⟩
theorem aeC{r:Addr}{n:Nat}{t u v:Tok}{Q:List Value->Shared->Prop}(hh:A.handled=none)(hr:IsRange s.heap r 0 (n:Int) 1 t u v)(hn:n<64)
  (hQ:∀(h':Heap) (tk:Nat) (vs:List Value),(∀b o,s.heap.get? b=some o->h'.get? b=some o)->s.heap.objs.size<h'.objs.size->vs.length=n->(∀(i:Nat) (x:Value),vs[i]? = some x->∃t,x = .int (i:Int) t)->Q vs { s with heap:=h',toks:=tk }) :
  wpAny (model prog w) A (collect (.ref r)) Q E s:=by
 unfold collect;refine aF (wpAny_runValue (iD RM ?_));rw[iV RN _];show wpAny _ A.in1 (newList [] >>= λl=>again (.builtin "list.__iadd__" ⟨[l,.ref r],[]⟩)) _ _ s;refine aF (wu (aV ⟨iY B9 _,aeB hh (bW _ hr) hn (e_ _ rfl) λh' tk acc c hk hS jM ha=>?_⟩))
 show wpAny _ A (load s.heap.objs.size >>= _) _ _ _;refine aF (wpAny_load hS (aV (hQ h' tk acc.toList (λb o e=>hk b o (b9 (bK e)) (bW _ e)) (bK hS) (by simpa using jM) λi x e=>ha i x (by simpa using e))))
end
section
variable{X:Cx}{pins:List (Addr×Obj)}{σ:St}{H:Hp}{s:Shared}
theorem Inv.chg{h':Heap}{tk:Nat}{k:Addr}{m:Str->Option Value}(I:Inv X pins σ H s)(hm:s.heap.Ns X.env.locals m)(jO:h'.Ns X.env.locals m)(n:H k=none)(hs:X.eY.heap.objs.size<=k)(hL:k≠X.env.locals)
  (hc:∀x c,X.env.cells.lookup x=some c->c≠k) (hp:∀p∈X.pn++pins,p.1≠k) (ho:∃o,h'.get? k=some o) (kk:∀b o,b≠X.env.locals->b≠k->s.heap.get? b=some o->h'.get? b=some o):Inv X pins σ H { s with heap:=h',toks:=tk }:=by
 have nl:∀b v,H b=some v->b≠X.env.locals:=λb v e z=>by rw[z,I.free] at e;cases e
 have nk:∀b v,H b=some v->b≠k:=λb v e z=>by rw[z,n] at e;cases e
 refine I.step (g':=s.gens) (d':=s.drawn) (ch:=[k]) (λb z=>by rw[cj.mp z];exact⟨.inr hs,hL,hc,hp⟩) (λb o hb _ hk e _=>kk b o hb (by simpa using hk) e) (λb o hb _ hk e _=>⟨o.slots,kk b o hb (by simpa using hk) e⟩) (λ_ _ _ _ n=>n) (λb o hk e=>?_) (λ_ _ e=>e) (λ_ _ _ e=>e)
  (λb ps e=>⟨#[],by rw[e];simp⟩) (λm' z7=>?_) (λb v e=>(I.aL b v e).kJ (λc o hc e'=>kk c o ?_ ?_ e') (λ_ e=>e) (λ_ _ e=>e)) I.bare
 ·by_cases hb:b=X.env.locals
  ·obtain⟨o',_,_,z,_⟩:=jO;exact⟨o',by rw[hb];exact z⟩
  ·exact⟨o,kk b o hb (by simpa using hk) e⟩
 ·have:m' = m:=by
   obtain⟨o1,es1,UL,g1,d1,k1,z1⟩:=z7;obtain⟨o2,kR,Ig,g2,d2,k2,z2⟩:=hm;rw[g1] at g2;cases g2;rw[d1] at d2;cases d2
   funext x
   rw[← z1 x,← z2 x]
  rw[this];exact jO
 ·rcases hc with z | z
  ·rw[z];exact nl b v e
  ·exact nl c _ z
 ·rcases hc with z | z
  ·rw[z];exact nk b v e
  ·exact nk c _ z
theorem Inv.Dz{h':Heap}{tk:Nat}{k D:Addr}{xs:List V}{m:Str->Option Value}(I:Inv X pins σ H s)(hm:s.heap.Ns X.env.locals m)(jO:h'.Ns X.env.locals m)(nk:H k=none)(nD:H D=none)
  (two:∀b,b=k\/b=D->X.eY.heap.objs.size<=b/\b≠X.env.locals/\(∀x c,X.env.cells.lookup x=some c->c≠b)/\∀p∈X.pn++pins,p.1≠b)
  (kk:∀b o,b≠X.env.locals->b≠k->b≠D->s.heap.get? b=some o->h'.get? b=some o) (new:fM X.prog X.w (upd H D (.lst xs)) h' D (.lst xs)):Inv X pins σ (upd H D (.lst xs)) { s with heap:=h',toks:=tk }:=by
 have nl:∀b v,H b=some v->b≠X.env.locals:=λb v e z=>by rw[z,I.free] at e;cases e
 have n1:∀b v,H b=some v->b≠k:=λb v e z=>by rw[z,nk] at e;cases e
 have n2:∀b v,H b=some v->b≠D:=λb v e z=>by rw[z,nD] at e;cases e
 have up:∀b v,H b=some v->upd H D (.lst xs) b=some v:=λb v e=>by rw[aB (n2 b v e)];exact e
 have mem:∀b,b∉[k,D]->b≠k/\b≠D:=λb h=>⟨λz=>h (by rw[z];exact .head _),λz=>h (by rw[z];exact .tail _ (.head _))⟩
 refine I.step (g':=s.gens) (d':=s.drawn) (ch:=[k,D]) (λb z=>?_) (λb o hb _ hk e _=>kk b o hb (mem b hk).1 (mem b hk).2 e) (λb o hb _ hk e _=>⟨o.slots,kk b o hb (mem b hk).1 (mem b hk).2 e⟩) (λb o hk _ n=>by rw[aB (mem b hk).2];exact n) (λb o hk e=>?_) (λb xs e=>up b _ e) (λb o u e=>up b _ e)
  (λb ps e=>⟨#[],by rw[up b _ e];simp⟩) (λm' z7=>?_) (λb v e=>?_) I.bare
 ·have:b=k\/b=D:=by
   rcases cg.mp z with q | q
   ·exact .inl q
   ·exact .inr (cj.mp q)
  obtain⟨a1,a2,a3,a4⟩:=two b this;exact⟨.inr a1,a2,a3,a4⟩
 ·by_cases hb:b=X.env.locals
  ·obtain⟨o',_,_,z,_⟩:=jO;exact⟨o',by rw[hb];exact z⟩
  ·exact⟨o,kk b o hb (mem b hk).1 (mem b hk).2 e⟩
 ·have:m' = m:=by
   obtain⟨o1,es1,UL,g1,d1,k1,z1⟩:=z7;obtain⟨o2,kR,Ig,g2,d2,k2,z2⟩:=hm;rw[g1] at g2;cases g2;rw[d1] at d2;cases d2
   funext x
   rw[← z1 x,← z2 x]
  rw[this];exact jO
 ·by_cases hb:b=D
  ·subst hb;rw[aD] at e;cases e;exact new
  ·rw[aB hb] at e;refine(I.aL b v e).kJ (λc o hc e'=>?_) (λd e=>up d _ e) (λd xs e=>up d _ e);have q:∃v',H c=some v':=by
    rcases hc with z | z
    ·rw[z];exact⟨_,e⟩
    ·exact⟨_,z⟩
   obtain⟨v',q⟩:=q;exact kk c o (nl c _ q) (n1 c _ q) (n2 c _ q) e'
structure Jc(X:Cx)(pins:List (Addr×Obj))(σ:St)(H1:Hp)(P:Addr)(pos:Pos)(qual:Str)(m:Str->Option Value)(kS:Addr)(kv:Nat->Int×Int)(ks:List Value)(e:Nat)(H:Hp)(s:Shared):Prop where
 I:Inv X ((kS,seqObj "list" ks.toArray e)::pins) σ H s
 ns:s.heap.Ns X.env.locals m
 sb:SameBut P H1 H
 tab:cN P pos qual H
 ky:∀(i:Nat) (hi:i<ks.length),∃a,ks[i] = .ref a/\H a=some (.tup [.int (kv i).1,.int (kv i).2])
variable{scope:Scope}{cl:List (Str×Addr)}{ps fs:List Str}{fv:List Nat}{A:Around}{qual name:Str}{f c' P kS:Addr}{params:Arguments}{body:Expr}{te:TE}{pm fQ:Value}{pos:Pos}{kv:Nat->Int×Int}{n:Nat}{H1:Hp}{m:Str->Option Value}
theorem Vm(S:oR X scope cl ps fs fv)(xw:ps.length=1)(he:∀s H,PE (zZ X A qual scope f c' cl (ps++fs) s H) body te)(hA:A.frames=some X.stack)(hd:X.calm=true->A.handled=none)(p9:A.depth<recursionLimit)(gY:X.stack=X.env::X.outer)(tD:X.env.frame=some X.env.locals)
  (hex:X.ex = []) (hf:(f,kla_obj name qual params body scope cl pm c' fQ)∈pins) (hc:H1 c' = some (s_ c' qual)) (xy:c'≠P) (mS:∀u,bindArgs (kla_fn name qual params body scope cl pm (.ref c') fQ) ⟨[u],[]⟩=pure (ps.zip [u]))
  (mJ:∀(j:Nat) (H:Hp),j<n->SameBut P H1 H->cN P pos qual H->te (sZ σ [.int (j:Int)] fv) H λv H'=>∃a,v = .ref a/\H a=none/\H' = upd H a (.tup [.int (kv j).1,.int (kv j).2]))
  (lo:X.eY.heap.objs.size<=kS) (DA:kS≠X.env.locals) (Vn:∀x c,X.env.cells.lookup x=some c->c≠kS) (z8:∀p∈X.pn++pins,p.1≠kS)
  {Fin:List Value->Nat->Shared->Prop} (Vo:∀ks e H s,Jc X pins σ H1 P pos qual m kS kv ks e H s->ks.length=n->Fin ks e s) :
  ∀(r ks:List Value) (e:Nat) (H:Hp) (s:Shared),ks.length+r.length=n->(∀(i:Nat) (x:Value),r[i]? = some x->∃t,x = .int ((ks.length+i:Nat):Int) t)->Jc X pins σ H1 P pos qual m kS kv ks e H s->KatKeys X.prog X.w A X.base X.env.locals m kS (.ref f) Fin r ks e s
 | [],ks,e,H,s,hl,_,K=>KatKeys.nil (Vo ks e H s K (by simpa using hl))
 | x::r,ks,e,H,s,hl,hi,K=>by
  rw[gA] at hl;obtain⟨t,rfl⟩:=hi 0 x rfl;have pf:=K.I.pin _ (fF _ (cB _ hf));have pk:=K.I.pin (kS,seqObj "list" ks.toArray e) (fF _ (eB ..));have xr:s.heap.CodeRec (.ref c') qual:=aey K.I.aL (K.sb _ _ hc xy);have hx:=mJ ks.length H ∅ K.sb K.tab
  refine KatKeys.cons (jh (aew (us:=[.int ((ks.length+0:Nat):Int) t]) (vs:=[.int (ks.length:Int)]) S K.I hA hd p9 pf.1 xr (mS _) (.cons ⟨t,by simp⟩ .nil) (by simpa using xw.symm) (he s H) hx) (λu s' hq=>?_) λ_ _ z=>z)
  obtain⟨v,H',J,rv,⟨a,rfl,na,rfl⟩,un⟩:=hq;cases rv;have eT:s'.heap.Ns X.env.locals m:=by
   obtain⟨o,es,ep,eo,kK,r'⟩:=K.ns;have mem:X.env.locals∈iZ X.stack:=by unfold iZ;rw[gY,List.filterMap_cons,tD];exact List.mem_cons_self ..
   obtain⟨sl,q⟩:=un.slot _ o eo K.I.free mem (by simp)
   exact⟨_,es,ep,q,kK,r'⟩
  have bk:X.base.get? kS=none:=BK (dQ K.I.ok.ji lo);have DC:=J.pin (kS,seqObj "list" ks.toArray e) (fF _ (eB ..));refine KatBack.intro (news:=(kS,seqObj "list" ks.toArray e)::rest X.base s'.heap X.env.locals kS) (g:=λo=>(kS,o)::rest X.base s'.heap X.env.locals kS) ⟨eT,J.bk,dQ J.ok.ji J.ok.above⟩ (news_at DA bk DC.1) (.head Cj) λh2 c2 F2 N2=>?_;have kept:=Ck (d:=kS) J.bk F2 λp hp=>N2 p (cB _ hp);have Vp:=(N2 _ (eB ..)).1;have J1:Inv X pins σ (upd H a (.tup [.int (kv ks.length).1,.int (kv ks.length).2])) s':=J.pQ λp hp=>J.pin p (fF _ (cB _ hp));have J2:=J1.chg (tk:=s'.toks) eT F2.ns DC.2.1 lo DA Vn z8 ⟨_,Vp⟩ λb o hb hk e=>kept b o hb hk e;have aeD:∀v,(seqObj "list" (ks++[Value.ref a]).toArray c2).data≠.cell v:=λv z=>by cases z
  refine Vm S xw he hA hd p9 gY tD hex hf hc xy mS mJ lo DA Vn z8 Vo r (ks++[.ref a]) c2 _ { s' with heap:=h2 } (by simp;lia) (λi x e=>?_) ⟨J2.pQ λp hp=>?_,F2.ns,?_,?_,λi gG=>?_⟩
  ·obtain⟨t',z⟩:=hi (i+1) x (by simpa using e)
   exact⟨t',by rw[z];congr 1;simp;lia⟩
  ·rcases cg.mp hp with q | q
   ·rw[q];exact⟨Vp,DC.2.1,DA,DC.2.2.2.1,aeD⟩
   ·exact J2.pin p (fF _ q)
  ·intro b o e hb;have:=K.sb b o e hb;rw[aB (λz=>by rw[z,na] at this;cases this)];exact this
  ·obtain⟨Dy,e1,e2,e3⟩:=K.tab;refine⟨Dy,by rw[aB (λz=>by rw[z,na] at e1;cases e1)];exact e1,e2,e3.imp id λ⟨c2,z1,z2⟩=>⟨c2,z1,by rw[aB (λz=>by rw[z,na] at z2;cases z2)];exact z2⟩⟩
  ·by_cases bM:i<ks.length
   ·obtain⟨a',z1,z2⟩:=K.ky i bM;exact⟨a',by rw[List.getElem_append_left bM];exact z1,by rw[aB (λz=>by rw[z,na] at z2;cases z2)];exact z2⟩
   ·have e:i=ks.length:=by simp at gG;lia
    subst e;exact⟨a,by simp,aD⟩
theorem Vq{h:Heap}:∀ {ks:List Value} {z9:List (Int×Int)},Ds h ks z9->∃fs,KatTups h ks fs/\fs.length=ks.length/\∀v∈fs,∃d t,v = .int d t
 | [],z9,_=>⟨[],trivial,rfl,λv z=>nomatch z⟩
 | k::ks,[],p=>absurd p.1 (by simp)
 | k::ks,q::z9,p=>by
  obtain⟨a,ea,o,t,u,n,e1,e2,e3⟩:=p.2 0 (by simp)
  have ea:k = .ref a:=by simpa using ea
  subst ea;obtain⟨fs,h1,h2,h3⟩:=Vq (ks:=ks) (z9:=z9) ⟨by have:=p.1;simpa using this,λi hi=>by
   obtain⟨b,z1,z2⟩:=p.2 (i+1) (by simpa using hi)
   exact⟨b,by simpa using z1,by simpa using z2⟩⟩
  refine⟨.int _ t::fs,.cons e1 e2 e3 rfl h1,by simp[h2],λv hv=>?_⟩
  rcases cg.mp hv with z | z
  ·exact⟨_,_,z⟩
  ·exact h3 v z
def kB(kv:Nat->Int×Int)(n:Nat)(is:List Nat):Prop:=is.Perm (List.range n)/\∀i j,i<j->j<n->(kv (is.getD i 0)).1*64+(kv (is.getD i 0)).2<(kv (is.getD j 0)).1*64+(kv (is.getD j 0)).2
theorem aeE{Q:VK}{rg:Addr}{t u v:Tok}(S:oR X scope cl ps fs fv)(xw:ps.length=1)(he:∀s H,PE (zZ X X.A.in1.in1 qual scope f c' cl (ps++fs) s H) body te)(Jd:X.calm=true)(p9:X.A.in1.in1.depth<recursionLimit)(gY:X.stack=X.env::X.outer)(tD:X.env.frame=some X.env.locals)
  (hex:X.ex = []) (I:Inv X ((f,kla_obj name qual params body scope cl pm c' fQ)::pins) σ H s) (hc:H c' = some (s_ c' qual)) (xy:c'≠P) (tab:cN P pos qual H) (mS:∀u,bindArgs (kla_fn name qual params body scope cl pm (.ref c') fQ) ⟨[u],[]⟩=pure (ps.zip [u]))
  (hr:IsRange s.heap rg 0 (n:Int) 1 t u v) (h2:2<=n) (jN:n<64) (hb:∀j,j<n->0<=(kv j).2/\(kv j).2<64) (Je:∀i j,i<n->j<n->kv i=kv j->i=j)
  (mJ:∀(j:Nat) (H2:Hp),j<n->SameBut P H H2->cN P pos qual H2->te (sZ σ [.int (j:Int)] fv) H2 λv H'=>∃a,v = .ref a/\H2 a=none/\H' = upd H2 a (.tup [.int (kv j).1,.int (kv j).2]))
  (q:∀(D:Addr) (is:List Nat) (H':Hp),SameBut P H H'->cN P pos qual H'->H D=none->H' D=none->kB kv n is->Q (.ref D) (upd H' D (.lst (is.map λ(i:Nat)=>V.int (i:Int))))) :
  wpAny (model X.prog X.w) X.A (call (.builtin "sorted") [.ref rg] [(Str.ofString "key",.ref f)]) (EP X pins σ Q) X.xe s:=by
 have Vr:=I.ok.hd Jd;refine call_function_entry_kw kind_sorted plain_sorted entry_sorted (ksk_s1 _ _) ?_;unfold Builtin.«sorted»;refine aF (m:=checkCount "sorted" 1 1 _) (aV ?_);refine aF (aeC (A:=X.A.in1) Vr hr jN λh1 z_ vs k1 sz len items=>?_);refine aF (Cb ?_ (by rw[pL];lia))
 obtain⟨m,hm,apP⟩:=I.loc;have oD:(h1.push (seqObj "list" vs.toArray 0)).get? h1.objs.size=some (seqObj "list" vs.toArray 0):=e_ _ rfl;have k2:∀b o,s.heap.get? b=some o->(h1.push (seqObj "list" vs.toArray 0)).get? b=some o:=λb o e=>bW _ (k1 b o e);have I1:=I.kept (t':=z_) k2;have DE:X.eY.heap.objs.size<=h1.objs.size:=dQ I.sz (kF sz);have DL:h1.objs.size≠X.env.locals:=kG (iX I.lt sz);have nD:H h1.objs.size=none:=I.aL.fresh (kF sz);have old:∀b o,s.heap.get? b=some o->b<h1.objs.size:=λb o e=>iX (bK e) sz;have bD:X.base.get? h1.objs.size=none:=BK (dQ I.ok.ji DE);have vf:(h1.push (seqObj "list" vs.toArray 0)).Ns X.env.locals m:=hm.keeps k2;have above:X.base.objs.size<=X.env.locals:=dQ I.ok.ji I.ok.above
 show wpAny _ _ _ _ _ { s with heap:=h1.push (seqObj "list" vs.toArray 0),toks:=z_ };refine aF (jg (wpAny_call_entry_kw slot_list_sort ⟨_,oD,rfl⟩ entry_list_sort ?body (ksk_l1 _ _)))
 case body =>
  show wpAny (model X.prog X.w) X.A.in1.in1 (Builtin.«list.sort» ⟨[.ref h1.objs.size],[(Str.ofString "key",.ref f)]⟩) _ _ _;rw[ksk_t1];refine kat_keyed (s:={ s with heap:=h1.push (seqObj "list" vs.toArray 0),toks:=z_ }) (h₀:=X.base) (L:=X.env.locals) (m:=m) (news:=rest X.base (h1.push (seqObj "list" vs.toArray 0)) X.env.locals h1.objs.size) ⟨vf,I1.bk,above⟩ (λp hp=>GY p (gB.mp hp).1) oD DL bD Cj ∅ ∅ λkS e1 h' F' N' l0 l1=>?_
  have aeF:=Ck (d:=h1.objs.size) I1.bk F' λp hp=>N' p (cB _ (cB _ hp));have okS:=N' _ (eB ..);have Vs:=N' _ (cB _ (eB ..));have Jf:X.eY.heap.objs.size<=kS:=dQ DE (kF l0);have DF:∀x c,X.env.cells.lookup x=some c->c<h1.objs.size:=λx c e=>by
   obtain⟨v,o,z,_⟩:=I.cell x c e;exact old _ _ z
  have DG:∀p∈X.pn++((f,kla_obj name qual params body scope cl pm c' fQ)::pins),p.1<h1.objs.size:=λp hp=>old _ _ (I.pin p hp).1;have Vt:X.env.locals<h1.objs.size:=iX I.lt sz;have I2:=I1.chg (tk:=z_) vf F'.ns nD DE DL (λx c e=>b9 (DF x c e)) (λp hp=>b9 (DG p hp)) ⟨_,Vs.1⟩ aeF;have nS:H kS=none:=I.aL.fresh (kF (iX sz l0));have Vu:∀b,s.heap.objs.size<=b->b∉X.fs:=λb hb=>I.yV hb;have Vv:∀(a:Array Value) (e:Nat) v,(seqObj "list" a e).data≠.cell v:=λa e v z=>by cases z
  have K0:Jc X ((h1.objs.size,seqObj "list" #[] e1)::(f,kla_obj name qual params body scope cl pm c' fQ)::pins) σ H P pos qual m kS kv [] 0 H { s with heap:=h',toks:=z_ }:=by
   refine⟨I2.pQ λp hp=>?_,F'.ns,λb o e _=>e,tab,λi hi=>absurd hi (by simp)⟩
   rcases cg.mp hp with z | hp
   ·rw[z];exact⟨okS.1,nS,kG (iX Vt l0),Vu _ (kF (iX sz l0)),Vv _ _⟩
   ·rcases cg.mp hp with z | hp
    ·rw[z];exact⟨Vs.1,nD,DL,Vu _ (kF sz),Vv _ _⟩
    ·exact I2.pin p (fF _ hp)
  have aeG:∀p∈X.pn++((h1.objs.size,seqObj "list" #[] e1)::(f,kla_obj name qual params body scope cl pm c' fQ)::pins),p.1≠kS:=λp hp=>by
   rcases cF.mp hp with hp | hp
   ·exact b9 (iX (DG p (n8 _ hp)) l0)
   ·rcases cg.mp hp with z | hp
    ·rw[z];exact b9 l0
    ·exact b9 (iX (DG p (fF _ hp)) l0)
  have SL:kS≠X.env.locals:=kG (iX Vt l0);refine Vm (n:=n) (pins:=(h1.objs.size,seqObj "list" #[] e1)::(f,kla_obj name qual params body scope cl pm c' fQ)::pins) S xw he I.ok.frames (λ_=>Vr) p9 gY tD hex (cB _ (eB ..)) hc xy mS mJ Jf SL
   (λx c e=>b9 (iX (DF x c e) l0)) aeG (λks e H3 s3 K hl=>?_) vs [] 0 H _ (by simpa using len) (λi x e=>by simpa using items i x e) K0
  have Vw:Ds s3.heap ks ((List.range n).map kv):=by
   refine⟨by simp[hl],λi hi=>?_⟩
   have gG:i<ks.length:=by simp at hi;lia
   obtain⟨a,z1,z2⟩:=K.ky i gG;obtain⟨its,r1,q1,_⟩:=K.I.tuple (aY.of (K:=X.K) z2);cases r1 with
   | cons w1 r1 =>
   cases r1 with
   | cons w2 r1 =>
   cases r1;obtain⟨t1,rfl⟩:=w1;obtain⟨t2,rfl⟩:=w2;obtain⟨o,e1,e2,n1,e3⟩:=q1;exact⟨a,by simp[gG,z1],o,t1,t2,n1,e1,e2,by simpa using e3⟩
  obtain⟨RT,t1,t2,t3⟩:=Vq Vw;refine kat_kind (T:=.type "int") t1 ∅ (λv hv=>?_) ⋯ ?_
  ·obtain⟨d,tt,rfl⟩:=t3 v hv;exact .now
  ·rw[show (Value.type "int" != Value.type "tuple")=true by decide]
   show (kas_sort vs.length).kasWp (kas_ask X.prog X.w X.A.in1.in1 (tuples' true) ks) _ s3;rw[len,show n=((List.range n).map kv).length by simp]
   refine aem (by simp;lia) Vw (λq' hq=>?_) ?_ λp hp aeH=>?_
   ·obtain⟨j,hj,rfl⟩:=cH.mp hq;exact hb j (gC.mp hj)
   ·rw[pJ,qH];exact List.Pairwise.imp_of_mem (λha gS fH heq=>fH (Je _ _ (gC.mp ha) (gC.mp gS) heq)) yI
   ·have bS:X.base.get? kS=none:=BK (dQ I.ok.ji Jf);have pk:=K.I.pin (kS,seqObj "list" ks.toArray e) (fF _ (eB ..));have pd:=K.I.pin (h1.objs.size,seqObj "list" #[] e1) (fF _ (cB _ (eB ..)));refine KatFin.intro (news:=(kS,seqObj "list" ks.toArray e)::rest X.base s3.heap X.env.locals kS) (g:=λo=>(kS,o)::rest X.base s3.heap X.env.locals kS) ⟨K.ns,K.I.bk,above⟩ (news_at SL bS pk.1) (.head Cj) λh4 c4 F4 N4=>?_;have Vx:=Ck (d:=kS) K.I.bk F4 λp hp=>N4 p (cB _ hp);have oD4:=Vx _ _ DL (b9 l0) pd.1;refine KasFin.intro (news:=(h1.objs.size,seqObj "list" #[] e1)::rest X.base h4 X.env.locals h1.objs.size) (g:=λo=>(h1.objs.size,o)::rest X.base h4 X.env.locals h1.objs.size) F4 (news_at DL bD oD4) (.head Cj) λh5 c5 F5 N5=>?_;have bk4:∀b o,X.base.get? b=some o->h4.get? b=some o:=F4.keep;have aeI:=Ck (d:=h1.objs.size) bk4 F5 λp hp=>N5 p (cB _ hp);have oD5:=(N5 _ (eB ..)).1;refine⟨_,rfl,aV ⟨_,rfl,?_⟩⟩;have Jg:p.toList.Perm (List.range n):=by
     have:=hp.toList;simpa using this
    have Vy:∀i∈p.toList,i<n:=λi hi=>gC.mp (Jg.mem_iff.mp hi);have isL:p.toList.length=n:=by simpa using Jg.length_eq
    have gd:∀i,i<n->p.getD i 0=p.toList.getD i 0/\p.toList.getD i 0<n:=λi hi=>by
     have f_:i<p.toList.length:=by lia
     have e:p.toList.getD i 0=p.toList[i]:=by rw[qG,bx f_];rfl
     exact⟨by rw[yz,qG,BH],by rw[e];exact Vy _ (cU f_)⟩
    have Vz:∀k,k<n->mZ ((List.range n).map kv) k=(kv k).1*64+(kv k).2:=λk hk=>by
     unfold mZ;have:((List.range n).map kv).getD k (0,0)=kv k:=by simp[hk]
     rw[this]
    have asc:kB kv n p.toList:=⟨Jg,λi j h1 h2=>by
     have:=aeH i j h1 (by simpa using h2)
     rw[(gd i ∅).1,(gd j h2).1,Vz _ (gd i ∅).2,Vz _ (gd j h2).2] at this
     exact this⟩
    have vals:∀l:List Nat,(∀i∈l,i<n)->Vals (l.map λ(i:Nat)=>V.int (i:Int)) (l.map λi=>vs.getD i Value.none):=by
     intro l
     induction l with
     | nil=>intro _;exact .nil
     | cons i l ih =>
      intro oA;have hi:i<vs.length:=by rw[len];exact oA i (eB ..)
      obtain⟨t5,e5⟩:=items i vs[i] (bx hi);refine .cons ⟨t5,?_⟩ (ih λk hk=>oA k (cB _ hk));rw[← e5];simp[hi]
    refine⟨.ref h1.objs.size,_,(K.I.pQ (G1:=pins) λp hp=>K.I.pin p (fF _ (cB _ (cB _ (cB _ hp))))).Dz (tk:=s3.toks) (xs:=p.toList.map λ(i:Nat)=>V.int (i:Int)) K.ns F5.ns pk.2.1 pd.2.1 (λb jP=>?_)
     (λb o hL hS hD e=>aeI b o hL hD (Vx b o hL hS e)) ⟨by rw[aK,isL,pL];lia,_,c5,vals p.toList Vy,oD5⟩,rfl,q _ p.toList H3 K.sb K.tab nD pd.2.1 asc⟩
    have sub:∀p∈X.pn++pins,p.1<h1.objs.size:=λp hp=>DG p (by
     rcases cF.mp hp with z | z
     ·exact n8 _ z
     ·exact fF _ (cB _ z))
    rcases jP with z | z
    ·rw[z];exact⟨Jf,SL,λx c e=>b9 (iX (DF x c e) l0),λp hp=>b9 (iX (sub p hp) l0)⟩
    ·rw[z];exact⟨DE,DL,λx c e=>b9 (DF x c e),λp hp=>b9 (sub p hp)⟩
theorem SameBut.trans{H H1 H2:Hp}{x:Addr}(a:SameBut x H H1)(b:SameBut x H1 H2):SameBut x H H2:=λc o e h=>b c o (a c o e h) h
def VA(P:Addr)(pos:Pos)(qual:Str)(te:TE)(fv:List Nat)(ta:TA):TE:=λσ H Q=>ta σ H λvs H1=>∃(n:Nat) (kv:Nat->Int×Int),vs = [.int (n:Int)]/\2<=n/\n<64/\(∀j,j<n->0<=(kv j).2/\(kv j).2<64)/\(∀i j,i<n->j<n->kv i=kv j->i=j)/\cN P pos qual H1/\
 (∀(j:Nat) (H2:Hp),j<n->SameBut P H1 H2->cN P pos qual H2->te (sZ σ [.int (j:Int)] fv) H2 λv H'=>∃a,v = .ref a/\H2 a=none/\H' = upd H2 a (.tup [.int (kv j).1,.int (kv j).2]))/\
 ∀(D:Addr) (is:List Nat) (H':Hp),SameBut P H1 H'->cN P pos qual H'->H1 D=none->H' D=none->kB kv n is->Q (.ref D) (upd H' D (.lst (is.map λ(i:Nat)=>V.int (i:Int))))
theorem aeJ{c:Addr}{e:Expr}{ta:TA}{p1 p2 p3 p4 kp:Pos}(Jh:Gl X "sorted")(Ji:X.mg "sorted" = none)(hgR:Gl X "range")(hmR:X.mg "range" = none)(B:tu X.mg X.base c P)(xr:X.env.code = .ref c)(S:oR X scope cl ps fs fv)(xw:ps.length=1)
  (aeK:defaultsOf params X.env=([],[])) (hq:X.env.qual ++ "<lambda>" = qual) (mS:∀c' pm fQ u,bindArgs (kla_fn "<lambda>" qual params body scope cl pm (.ref c') fQ) ⟨[u],[]⟩=pure (ps.zip [u]))
  (he:∀f c' s H,PE (zZ X X.A.in1.in1 qual scope f c' cl (ps++fs) s H) body te) (Jd:X.calm=true) (p9:X.A.in1.in1.depth<recursionLimit) (gY:X.stack=X.env::X.outer) (tD:X.env.frame=some X.env.locals) (hex:X.ex = []) (ha:PA X [e] ta)
  (hs:starEach [e] X.env = [(false,eval e X.env)]:=by rfl) (kY:starEach [.Call (.Name "range" p2) [e] [] p3] X.env = [(false,eval (.Call (.Name "range" p2) [e] [] p3) X.env)]:=by rfl) :
  PE X (.Call (.Name "sorted" p1) [.Call (.Name "range" p2) [e] [] p3] [⟨some "key",.Lambda params body scope pos,kp⟩] p4) (VA P pos qual te fv ta):=by
 intro pins s σ H Q I h;refine uB (mF I Jh Ji boot_sorted (callWith_kw ?_));rw[kY];refine rX ?_;refine Call_ (mF I hgR hmR boot_range (su (aO (ha p3 pins s σ H _ I h) λus s1 ⟨vs,H1,I1,r1,q1⟩=>?_) (by rw[hs];rfl) (by rfl)))
 obtain⟨n,kv,e,h2,jN,hb,Je,tab,mJ,q⟩:=q1;subst e;obtain⟨u,rfl,ru⟩:=vals1 r1;obtain⟨t,rfl⟩:=ru;refine call_range_1 ?_;refine um ?_;refine kws_cons (kla_eval aeK ?_);rw[hq];have k1:∀b o,s1.heap.get? b=some o->(s1.heap.push { cls:=.type "range",data:=.fields #[.int 0 s1.toks,.int (n:Int) t,.int 1 (s1.toks+1)] }).get? b=some o:=λb o e=>bW _ e;have I2:Inv X ((s1.heap.objs.size,{ cls:=.type "range",data:=.fields #[.int 0 s1.toks,.int (n:Int) t,.int 1 (s1.toks+1)] })::pins) σ H1 { s1 with heap:=s1.heap.push { cls:=.type "range",data:=.fields #[.int 0 s1.toks,.int (n:Int) t,.int 1 (s1.toks+1)] },toks:=s1.toks+1+1 }:=by
  refine(I1.kept k1).pQ λp hp=>?_;rcases cg.mp hp with z | hp
  ·rw[z];exact⟨e_ _ rfl,I1.aL.fresh (bu _),kG I1.lt,I1.yV (bu _),λv z=>by cases z⟩
  ·exact(I1.kept (t':=s1.toks+1+1) k1).pin p (fF _ hp)
 refine aez B xr S.p7 I2 tab λf c' fQ pm H' s' J sb xA hc=>kws_nil ?_;have xy:c'≠P:=by
  obtain⟨Dy,z,_⟩:=xA;exact jH hc z (by intro y;cases y)
 refine jh (aeE (n:=n) (kv:=kv) S xw (he f c') Jd p9 gY tD hex J hc xy xA (mS c' pm fQ) (J.pin _ (fF _ (cB _ (eB ..)))).1 h2 jN hb Je (λj H2 hj lR Jj=>mJ j H2 hj (sb.trans lR) Jj)
  (λD is H2 lR Jj n1 n2 ho=>q D is H2 (sb.trans lR) Jj ?_ n2 ho)) (λv wN z=>?_) (λ_ _ z=>z)
 ·cases z:H1 D with
  | none=>rfl
  | some o =>
   by_cases hD:D=P
   ·obtain⟨Dy,z2,_⟩:=xA;rw[hD,z2] at n1;cases n1
   ·rw[sb _ _ z hD] at n1;cases n1
 ·obtain⟨v',H'',K,rv,qv⟩:=z;exact⟨v',H'',K.pQ λp hp=>K.pin p (fF _ (cB _ hp)),rv,qv⟩
end
theorem aeL{P:Program}{w:World}{K:W.Frag}{mg mb:Str->Option Value}{k:Nat}{fa a:Addr}{fd:FuncData}{x:Str}{sp:Sp}{aW:Shared}{vs:List Value}{ns:List Int}{tabs:List (Addr×Addr)}
  (KX:K.In aW.heap) (oB:aW.heap.Ns mainGlobals mg) (hb:aW.heap.Ns builtinsNs mb) (HV:∀x:Str,x≠"__name__"->mb x=bootBuiltins x) (HW:aW.heap.NoLimit) (hg:aW.gens = #[])
  (ha:aW.heap.get? a=some { cls:=.type "list",data:=.seq vs.toArray }) (hi:IntsAre vs ns) (hl:ns.length<=sizeLine) (hr:d9 k callerA)
  (hT:TabsAt tabs aW.heap) (Aa:noTabs K=true) (bm:∃bm ob,mg "__builtins__" = some (.ref bm)/\bm≠builtinsNs/\aW.heap.get? bm=some ob/\ob.cls = .type "module"/\ob.dict=some builtinsNs/\ob.data = .plain)
  (F:∀base:Heap,K.In base->base.Ns mainGlobals mg->(∀q∈tabs,tu mg base q.1 q.2)->bg P w K mg base bw k fa fd [x] sp) (mS:∀(s:Shared) (u:Value),BindsTo s fd ⟨[u],[]⟩ [(x,u)])
  (jK:∀H:Hp,(∀q∈tabs,H q.2=some (.fY #[]))->aE K H a (ns.map V.int)->sp [.ref a] H (λv _=>v = .bl true) λ_ _ _=>False) :
  codeAny (model P w) callerA (.call (.ref fa) ⟨[.ref a],[]⟩) (λr s'=>r = .ok (.ret (.bool true))/\OldK aW.heap s'.heap/\s'.os=aW.os/\AllBare s'.gens) aW:=by
 have rv:=zI hi;have HY:=hi.length;have vg:∀b,b∈tabs.map (·.2)->aW.heap.get? b=some (tabObj #[])/\isCodeTable aW.heap b:=λb hb=>by
  obtain⟨q,hq,rfl⟩:=cH.mp hb;exact⟨(hT q hq).2,((hT q hq).1.tab (hT q hq).2).isCodeTable⟩
 have aT:a∉tabs.map (·.2):=λhb=>by
  have:=(vg a hb).1;rw[ha] at this;cases this
 have core:∀H:Hp,(∀b u,H b=some u->(b=a/\∃o xs,u = .cK o (.lst xs))\/(b∈tabs.map (·.2)/\u = .fY #[]))->(∀q∈tabs,H q.2=some (.fY #[]))->aE K H a (ns.map V.int)->eK P w H aW.heap->(H a≠none->K.lookup a=none)->
   codeAny (model P w) callerA (.call (.ref fa) ⟨[.ref a],[]⟩) (λr s'=>r = .ok (.ret (.bool true))/\OldK aW.heap s'.heap/\s'.os=aW.os/\AllBare s'.gens) aW:=by
  intro H hO Jk hS aL hK;have u6:∀ {b:Addr} {o:Obj},aW.heap.get? b=some o->H b=none->(jZ aW.heap H).get? b=some o:=λe n=>RV e n;have free:∀ {b:Addr} {o:Obj},aW.heap.get? b=some o->(b≠a)->o≠tabObj #[]->H b=none:=λ{b o} e n1 n2=>by
   cases q:H b with
   | none=>rfl
   | some u =>
    rcases hO b u q with⟨z,_⟩ | ⟨z,_⟩
    ·exact absurd z n1
    ·have:=(vg b z).1;rw[e] at this;exact absurd (dD this) n2
  have VB:∀ {b:Addr} {o:Obj},aW.heap.get? b=some o->o.cls≠.type "list"->b≠a:=λ{b o} e n z=>by
   rw[z,ha] at e;cases e;exact n rfl
  have aeM:∀ {b:Addr} {o:Obj} {es:Array DictEntry} {ep:Nat},aW.heap.get? b=some o->o.data = .dict es ep->b≠a:=λ{b o es ep} e d z=>by
   rw[z,ha] at e;cases e;cases d
  have qZ:∀ {b:Addr} {m:Str->Option Value},aW.heap.Ns b m->(jZ aW.heap H).Ns b m:=λ{b m} ⟨o,es,ep,e,d,r⟩=>⟨o,es,ep,u6 e (free e (aeM e d) (λz=>by rw[z] at d;cases d)),d,r⟩
  have zJ:K.In (jZ aW.heap H):=λb o e=>u6 (KX b o e) (by
   cases q:H b with
   | none=>rfl
   | some u =>
    rcases hO b u q with⟨z,_⟩ | ⟨z,_⟩
    ·subst z;rw[hK (by rw[q];simp)] at e;cases e
    ·have e2:=KX b o e;rw[(vg b z).1] at e2;have h2:=qC.mp Aa (b,o) (mem_of_lookupK e);cases e2;exact absurd (show false=true from h2) gg)
  have hM:Mod K mg (jZ aW.heap H):=⟨zJ,qZ oB,⟨mb,qZ hb,HV⟩,let ⟨mc,h1,h2⟩:=HW;⟨mc,qZ h1,h2⟩⟩
  have hL:∀q∈tabs,tu mg (jZ aW.heap H) q.1 q.2:=λq hq=>by
   obtain⟨b,ob,b1,b2,b3,b4,b5,b6⟩:=bm;obtain⟨o,Jl,file,tf,flags,tg,inF,text,tt,e1,r1,r2⟩:=(hT q hq).1;refine⟨⟨o,Jl,file,tf,flags,tg,inF,text,tt,u6 e1 (free e1 (VB e1 (by rw[r1];intro z;injection z with z;exact absurd z ⋯)) (λz=>by rw[z] at r1;cases r1)),r1,r2⟩,b,ob,b1,b2,u6 b3 (free b3 (VB b3 (by rw[b4];intro z;injection z with z;exact absurd z ⋯)) (λz=>by rw[z] at b4;cases b4)),b4,b5,b6⟩
  have e0:sV P w K mg (jZ aW.heap H) callerA [] aW H:=⟨rfl,hM,λb o e=>RW e,Nat.le_of_eq (RU _ _),trivial,λb hb=>absurd (show b∈([]:List Addr) from hb) (by simp),aL,.of_eq hg⟩
  refine wj ((F _ zJ (qZ oB) hL).run callerA [] aW H ⟨[.ref a],[]⟩ [.ref a] [.ref a] _ _ hr e0 (mS aW (.ref a)) (.cons rfl .nil) (jK H Jk hS)) λr s' h=>?_;cases r with
  | error e=>exact False.elim h
  | ok fl =>
   cases fl with
   | next=>exact False.elim h
   | brk=>exact False.elim h
   | cont=>exact False.elim h
   | ret u =>
    obtain⟨v,H',os,bare,un,C6,r',q⟩:=h;have q':v = .bl true:=q;subst q';obtain rfl:u=Value.bool true:=r';have noS:∀b:Addr,b∉iZ ([]:List Env):=λb z=>absurd (show b∈([]:List Addr) from z) (by simp)
    have all:∀b o,aW.heap.get? b=some o->asItWas aW.heap s'.heap b o/\∃o',s'.heap.get? b=some o':=λb o e=>by
     cases q:H b with
     | none =>
      have:=un.keep b o e q (noS b) (by simp)
      exact⟨.inl this,o,this⟩
     | some u =>
      rcases hO b u q with⟨z,ob,xs,rfl⟩ | ⟨z,rfl⟩
      ·have z2:=un.ou b ob _ q;obtain⟨e1,_⟩:=aL b _ q;obtain⟨e2,_⟩:=C6 b _ z2;rw[e] at e1;cases e1;exact⟨.inl e2,_,e2⟩
      ·obtain⟨more,z2⟩:=un.pN b _ q;have e1:=(vg b z).1;rw[e] at e1;cases e1;have e2:s'.heap.get? b=some { cls:=.none,data:=.fields (#[]++more)}:=C6 b _ z2;exact⟨.inr (.inl ⟨(vg b z).2,rfl,#[],more,rfl,e2⟩),_,e2⟩
    exact⟨rfl,⟨λb o e=>(all b o e).1,λb o e=>(all b o e).2⟩,os,bare⟩
 have tq:∀q∈tabs,q.2∈tabs.map (·.2):=λq hq=>l_ hq;cases hk:K.lookup a with
 | some o =>
  have e:=KX a o hk;rw[ha] at e;cases e;refine core (λb=>if b∈tabs.map (·.2) then some (.fY #[]) else none) (λb u z=>?_) (λq hq=>if_pos (tq q hq)) (.inr ⟨_,vs.toArray,_,hk,rfl,rfl,rfl,by rw[gU,HY];exact hl,by simpa using rv⟩) (λb u z=>?_) (λz=>absurd (if_neg aT) z)
  ·by_cases hb:b∈tabs.map (·.2)
   ·have z':=(if_pos hb).symm.trans z;cases z';exact .inr ⟨hb,rfl⟩
   ·have z':=(if_neg hb).symm.trans z;cases z'
  ·by_cases hb:b∈tabs.map (·.2)
   ·have z':=(if_pos hb).symm.trans z;cases z';exact(vg b hb).1
   ·have z':=(if_neg hb).symm.trans z;cases z'
 | none =>
  refine core (λb=>if b=a then some (.cK { cls:=.type "list",data:=.seq vs.toArray } (.lst (ns.map V.int))) else if b∈tabs.map (·.2) then some (.fY #[]) else none) (λb u z=>?_) (λq hq=>?_) (.inl (.inr ⟨{ cls:=.type "list",data:=.seq vs.toArray },if_pos rfl⟩)) (λb u z=>?_) λ_=>hk
  ·by_cases hb:b=a
   ·have z':=(if_pos hb).symm.trans z;cases z';exact .inl ⟨hb,_,_,rfl⟩
   ·have z':=(if_neg hb).symm.trans z;by_cases jP:b∈tabs.map (·.2)
    ·have z2:=(if_pos jP).symm.trans z';cases z2;exact .inr ⟨jP,rfl⟩
    ·have z2:=(if_neg jP).symm.trans z';cases z2
  ·have ne:q.2≠a:=λz=>aT (by rw[← z];exact tq q hq)
   exact(if_neg ne).trans (if_pos (tq q hq))
  ·by_cases hb:b=a
   ·have z':=(if_pos hb).symm.trans z;cases z';subst hb;exact⟨ha,by rw[aK];exact hl,vs,_,rv,ha⟩
   ·have z':=(if_neg hb).symm.trans z;by_cases jP:b∈tabs.map (·.2)
    ·have z2:=(if_pos jP).symm.trans z';cases z2;exact(vg b jP).1
    ·have z2:=(if_neg jP).symm.trans z';cases z2
theorem oR.of{X:Cx}{scope:Scope}{cl:List (Str×Addr)}{ps fs:List Str}{fv:List Nat}(p7:closureFor scope X.env=pure cl)(kind:scope.kind = .function)(co:scope.isCoroutine=false)(gen:scope.isGenerator=false)
  (oE:(scope.names.all λy=>y.2 != .cell)=true) (par:(ps.all λy=>scope.names.lookup y == some .local)=true) (sub:AllP (λp:Str×Addr=>X.env.cells.lookup p.1=some p.2) cl) (has:(scope.names.all λy=>y.2 != .free || (cl.lookup y.1).isSome)=true)
  (free:fv.map (λj=>X.N[j]?)=fs.map some) (fk:(fs.all λy=>scope.names.lookup y == some .free && X.env.scope.names.lookup y == some .cell)=true) (nd:(ps++fs).Nodup):oR X scope cl ps fs fv where
 p7:=p7
 kind:=kind
 co:=co
 gen:=gen
 oE:=λy hy=>by have:=qC.mp oE y hy;simpa using this
 par:=λy hy=>by have:=qC.mp par y hy;simpa using this
 sub:=sub.mem
 has:=λy hy hl=>by
  have:=qC.mp has y hy;rw[hl] at this;exact wc.mp (by simpa only[bne_self_eq_false,Bool.false_or] using this)
 free:=free
 fk:=λy hy=>by have:=qC.mp fk y hy;simpa using this
 nd:=nd
theorem b8.okC{P:Program}{w:World}{K:W.Frag}{mg:Str->Option Value}{base:Heap}{x qual:Str}{st:Stmt}{f:Addr}{fd:FuncData}{N ps:List Str}{k:Nat}{sp:Sp}(F:b8 K x qual st f fd)(S:bA N ps (aU st))(len:∀vs H Q E,sp vs H Q E->vs.length=ps.length)
  (uR:∀(A:Around) (outer:List Env) (s:Shared) (H:Hp) (vs:List V) (Q:VK) (E:XK),d9 k (A.deeper (envOfC qual (aU st) s.heap.objs.size f fd.code))->sp vs H Q E->
   ∃t,iH (qQ bw P w K mg base N qual (aU st) f fd.code A outer s H E).sI (gk st) t/\t { nx:=λ_ H'=>Q .aR H',rt:=Q } (start N vs) H):bg P w K mg base bw (k+1) f fd ps sp:=by
 obtain⟨oc,od,kV,doc,pm,an,aQ,ct,j8,rfl,lk,gK⟩:=F.ex;refine Hx lk gK S len λA outer s H vs Q E hr jK=>?_;obtain⟨t,h,q⟩:=uR A outer s H vs Q E hr jK;exact⟨t,h.sI,q⟩
theorem aeN{l:PySem.W.OpenLaw}{n k:Nat}{q:Program}{loose:List Str}{XP:(Str->Option Value)->Heap->Prop}{YP:World->Heap->Prop}{d:DefRec}{K:Params->W.Frag}{sp:World->List (Addr×Addr)->Sp}{x:Str}
  (hn:l.most=some n) (uQ:n<=sizeLine) (uZ:d.params.defaults = []) (hr:d9 k callerA)
  (hY:∀(w:World) (h:Heap),YP w h->(K w.params).In h) (Aa:∀w:World,noTabs (K w.params)=true)
  (F:∀(w:World) (mg:Str->Option Value) (fa:Addr) (h:Heap),YP w h->(K w.params).In h->h.Ns mainGlobals mg->mg d.name=some (.ref fa)->
   ∃(fd:FuncData) (tabs:List (Addr×Addr)),(∀(s:Shared) (u:Value),BindsTo s fd ⟨[u],[]⟩ [(x,u)])/\TabsAt tabs h/\
    ∀base:Heap,(K w.params).In base->base.Ns mainGlobals mg->(∀q∈tabs,tu mg base q.1 q.2)->bg l.prog w (K w.params) mg base bw k fa fd [x] (sp w tabs))
  (jK:∀(w:World) (tabs:List (Addr×Addr)) (H:Hp) (a:Addr) (ns:List Int),ns.length<=n->(∀q∈tabs,H q.2=some (.fY #[]))->aE (K w.params) H a (ns.map V.int)->sp w tabs [.ref a] H (λv _=>v = .bl true) λ_ _ _=>False) :
  PySem.W.WalkO q loose XP YP l.row.toRowW d [] (λf vs=>PySem.call f vs):=by
 refine HR.Uu hn uZ λw eY aW mg mb fa o pm cd doc a vs ns G Y ho hd gK hmg zH hints hlen hg=>?_;have KX:=hY w _ Y;obtain⟨fd,tabs,hb,hT,hF⟩:=F w mg fa _ Y KX G.T.g hmg;exact aeL KX G.T.g G.T.b G.T.builtins G.T.nolimit hg zH hints (dQ hlen uQ) hr hT (Aa w) G.T.bmain hF hb λH Jk hS=>jK w tabs H a ns hlen Jk hS
noncomputable def rq(s:Stmt):Pos:=match gk s with
 | [.Return (some (.Call _ _ [⟨_,.Lambda _ _ _ pos,_⟩] _)) _]=>pos
 | _=>⟨0,0,0,0⟩
noncomputable def rB(x:Str):Str:=x ++ ".<locals>." ++ "<lambda>"
noncomputable def iN(r:Int)(j:Nat):Int×Int:=(((j:Int) - r).natAbs,j)
def aeO(P:Addr)(pos:Pos)(qual:Str):Sp:=λvs H Q _=>∃(r:Int) (n:Nat),vs = [.int r,.int (n:Int)]/\2<=n/\n<64/\cN P pos qual H/\
 ∀(l:Addr) (is:List Nat) (H':Hp),SameBut P H H'->cN P pos qual H'->H l=none->H' l=none->kB (iN r) n is->Q (.ref l) (upd H' l (.lst (is.map λ(i:Nat)=>V.int (i:Int))))
end _L
namespace _L
open PySem PySem.Spec PyProof.Rows
noncomputable def jQ(i:Nat):Nat:=(reduceHash (Builtin.Tuple.tupleHashOf [hashInt ((i / 60:Nat):Int),hashInt ((i % 60:Nat):Int)]) % 524291).toNat
noncomputable def DH:Nat->Nat->Bool
 | 0,_=>true
 | n+1,acc=>(Nat.land acc (Nat.shiftLeft 1 (jQ n)) == 0) && DH n (Nat.lor acc (Nat.shiftLeft 1 (jQ n)))
theorem VC:∀(n acc:Nat),DH n acc=true->(∀i,i<n->acc.testBit (jQ i)=false)/\∀i j,i<n->j<n->jQ i=jQ j->i=j
 | 0,_,_=>⟨λ_ h=>absurd h ∅,λ_ _ h=>absurd h ∅⟩
 | n+1,acc,h=>by
  unfold DH at h;rw[yD,pK] at h;obtain⟨h1,h2⟩:=h;have e1:acc.testBit (jQ n)=false:=by
   have z:(acc &&& 1 <<< jQ n).testBit (jQ n)=false:=by
    show Nat.testBit (Nat.land acc (Nat.shiftLeft 1 (jQ n))) _=false;rw[h1,Nat.zero_testBit]
   rw[Nat.testBit_and,Nat.testBit_shiftLeft] at z;simpa using z
  obtain⟨g1,g2⟩:=VC n _ h2;have e2:∀i,i<n->acc.testBit (jQ i)=false/\jQ i≠jQ n:=λi hi=>by
   have z:(acc ||| 1 <<< jQ n).testBit (jQ i)=false:=g1 i hi
   rw[Nat.testBit_or,Nat.testBit_shiftLeft] at z;rw[Bool.or_eq_false_iff] at z;refine⟨z.1,λe=>?_⟩
   have:=z.2;rw[e] at this;simp at this
  refine⟨λi hi=>?_,λi j hi hj e=>?_⟩
  ·by_cases q:i=n
   ·rw[q];exact e1
   ·exact(e2 i ∅).1
  ·by_cases q:i=n
   ·by_cases q':j=n
    ·lia
    ·exact absurd (by rw[← e,q]) (e2 j ∅).2
   ·by_cases q':j=n
    ·exact absurd (by rw[e,q']) (e2 i ∅).2
    ·exact g2 i j ∅ ∅ e
theorem aeP:DH 3840 0=true:=by decide +kernel
theorem aeQ{a b c d:Int}(a0:0<=a)(a1:a<64)(b0:0<=b)(b1:b<60)(c0:0<=c)(c1:c<64)(d0:0<=d)(d1:d<60)
  (h:reduceHash (Builtin.Tuple.tupleHashOf [hashInt a,hashInt b])=reduceHash (Builtin.Tuple.tupleHashOf [hashInt c,hashInt d])):a=c/\b=d:=by
 have e:∀ {x y:Int},0<=x->0<=y->y<60->jQ (x.toNat*60+y.toNat)=(reduceHash (Builtin.Tuple.tupleHashOf [hashInt x,hashInt y]) % 524291).toNat:=λ{x y} h0 h1 h2=>by
  unfold jQ;have q1:((x.toNat*60+y.toNat) / 60:Nat)=x.toNat:=by lia
  have q2:((x.toNat*60+y.toNat) % 60:Nat)=y.toNat:=by lia
  rw[q1,q2,nY h0,nY h1]
 have:=(VC 3840 0 aeP).2 (a.toNat*60+b.toNat) (c.toNat*60+d.toNat) ∅ ∅ (by rw[e a0 b0 b1,e c0 d0 d1,h])
 lia
theorem VD{α:Type}{f:α->Int}:∀ {l:List α},(l.map f).Nodup->∀h:Int,(l.filter λx=>f x == h).length<=1
 | [],_,_=>eX _
 | x::l,n,h=>by
  rw[c9,mh] at n;by_cases q:f x=h
  ·have z:(l.filter λy=>f y == h) = []:=by
    rw[List.filter_eq_nil_iff];intro y hy e;exact n.1 (by rw[q,← (pK.mp e)];exact l_ hy)
   rw[lE,if_pos (by rw[q];exact GN h),z]
   exact bu _
  ·rw[lE,if_neg (by rw[pK];exact q)]
   exact VD n.2 h
section
variable{M:Model}{prog:Program}{w:World}{A:Around}{E:Value->Shared->Prop}{s:Shared}
theorem aeR{id:String}{d:Addr}{o:Obj}{es:Array DictEntry}{ep}{Q:Array DictEntry->Shared->Prop}(ho:s.heap.get? d=some o)(hd:o.data = .dict es ep)
  (hT:∀e∈es.toList,∃t,e.key = .ref t/\s.TypeIs (.ref t) "tuple") (hn:(es.toList.map (·.hash)).Nodup) (h:Q es s):wpAny M A (Builtin.Dict.entriesForEmpty id d) Q E s:=by
 unfold Builtin.Dict.entriesForEmpty;refine aF (Ca ho hd ?_);refine aF ?_;rw[← Array.forIn_toList];refine wpAny_forIn_list _ (λrest _ s'=>s' = s/\∀e∈rest,e∈es.toList) _ ?_ ?_ _ _ ⟨rfl,λe he=>he⟩
 ·rintro e rest b s' ⟨rfl,hr⟩;obtain⟨t,ek,Jm⟩:=hT e (hr e (by simp))
  rw[ek];unfold Builtin.Dict.quietEq;refine aF (aF (Cd Jm PySem.F.slot_tuple_eq.lookup (aV ?_)));have hz:¬ (es.filter (·.hash == e.hash)).size > 1:=by
   have:=VD hn e.hash;have e2:(es.filter (·.hash == e.hash)).size=(es.toList.filter (·.hash == e.hash)).length:=by rw[← BI,Array.toList_filter]
   lia
  have q:(some (Value.builtin "tuple.__eq__") == some (Value.builtin "object.__eq__"))=false:=by decide +kernel
  rw[q];simp only[Bool.not_false,if_true,if_neg hz];exact aV ⟨rfl,λe he=>hr e (cB _ he)⟩
 ·rintro b s' ⟨rfl,_⟩;exact aV h
theorem aeS{nm:String}{d o:Addr}{knd:HeapKind prog w (List Key)}{xs:List (List Key×Addr×Value)}{Q:Unit->Shared->Prop}(jc:d≠o)(Jo:(o == sysModules)=false)
  (hd:s.heap.DictOfH knd d []) (ho:s.heap.DictOfH knd o xs) (hT:∀x∈xs,s.TypeIs (.ref x.2.1) "tuple") (hn:(xs.map λx=>knd.hash x.1).Nodup) (hsz:xs.length<=sizeLine)
  (hQ:∀h',(∃o' ow qM,h'.get? d=some o'/\o'.ExactDict/\o'.data = .dict ow qM/\ow.toList=xs.map (entryOfKey knd))->Heap.SameBut d s.heap h'->Q () { s with heap:=h' }) :
  wpAny (model prog w) A (Builtin.Dict.mergeDict nm d o) Q E s:=by
 obtain⟨od,esd,VE,DI,gK,oV,hpd,_⟩:=id hd;obtain⟨oo,p_,VF,vh,xB,xC,qa,Jp,j9⟩:=id ho;have aeT:esd = #[]:=Array.toList_eq_nil_iff.mp hpd;subst aeT;unfold Builtin.Dict.mergeDict;rw[if_neg (by simpa using jc)]
 unfold Builtin.Dict.showsAll;rw[if_neg (by rw[Jo];exact gg)]
 refine aF (aV ?_);refine aF (Ca vh xC ?_);dsimp only;cases hx:xs with
 | nil =>
  rw[hx] at qa;have h0:p_ = #[]:=Array.toList_eq_nil_iff.mp qa;subst h0;rw[if_neg (by simp)]
  refine aF (wpAny_dictEpoch vh xC ?_);refine aF (Ca vh xC ?_);refine aF ?_;rw[Std.Legacy.Range.forIn_eq_forIn_range']
  show wpAny _ _ (forIn [] _ _) _ _ _;rw[List.forIn_nil];refine aV (aV (hQ s.heap ⟨od,#[],VE,DI,gK,oV,by rw[hx];rfl⟩ (Heap.SameBut.refl _ _)))
 | cons x rest =>
  have fH:p_.toList≠[]:=by rw[qa,hx];exact List.cons_ne_nil _ _
  have zG:(decide (p_.size<=8) && p_.all λe=>(keyPart e.key).isSome)=false:=by
   rw[Bool.and_eq_false_iff];refine .inr ?_;rw[← Array.all_toList,qa,hx]
   rfl
  rw[zG];refine aF (Ca DI oV ?_);rw[if_pos (by rfl)]
  refine aF (aeR vh xC (λe he=>?_) ?_ ?_)
  ·rw[qa] at he;obtain⟨y,hy,rfl⟩:=cH.mp he;exact⟨y.2.1,rfl,hT y hy⟩
  ·rw[qa,nZ];exact hn
  have he0:p_.isEmpty=false:=by
   cases q:p_.isEmpty with
   | false=>rfl
   | true=>exact absurd (by rw[Array.isEmpty_iff.mp q]) fH
  rw[if_pos (by rw[he0];rfl)]
  have hto:p_.size<=sizeLine+1:=by
   have:p_.size=xs.length:=by rw[← BI,qa,aK]
   lia
  exact aF (wpAny_updateDictKeysTo DI oV (aV (hQ _ ⟨_,_,VE+1,qB _ DI (Obj.isFreed_of_dict (Obj.data_mapDictKeys oV _)),gK.mapDictKeys _,Obj.data_mapDictKeys oV _,qa⟩ (yE ..))) hto)
end
section
variable{prog:Program}{w:World}{A:Around}{E:Value->Shared->Prop}{s:Shared}
theorem aeU{o:Addr}{xs:List (List Key×Addr×Value)}{Q:Value->Shared->Prop}(Jo:(o == sysModules)=false)(ho:s.heap.DictOfH (tupleKind (c_ prog w)) o xs)(hsz:xs.length<=sizeLine)
  (hn:(xs.map λx=>(tupleKind (c_ prog w)).hash x.1).Nodup)
  (h:∀h',(∃o' ow qM,h'.get? s.heap.objs.size=some o'/\o'.ExactDict/\o'.data = .dict ow qM/\ow.toList=xs.map (entryOfKey (tupleKind (c_ prog w))))->Heap.SameBut s.heap.objs.size (s.heap.push { cls:=.type "dict",data:=.dict #[] }) h'->Q (.ref s.heap.objs.size) { s with heap:=h' }) :
  wpAny (model prog w) A (call (.type "dict") [.ref o]) Q E s:=by
 refine callType_codes (Q₁:=λobj aW=>obj = .ref s.heap.objs.size/\aW = { s with heap:=s.heap.push { cls:=.type "dict",data:=.dict #[] }}) PySem.F.kt_called_dict (PySem.F.kt_typeCall_dict_1 _) PySem.F.entry_dict_init (kt_code_dict_new _ ⟨rfl,rfl⟩) ?_;rintro obj aW ⟨rfl,rfl⟩;have qW:(s.heap.push { cls:=.type "dict",data:=.dict #[] }).DictOfH (tupleKind (c_ prog w)) s.heap.objs.size []:=Heap.DictOfH.new s.heap;obtain⟨oo,p_,VF,vh,xB,xC,qa,Jp,j9⟩:=id ho;have Jm:∀x∈xs,({ s with heap:=s.heap.push { cls:=.type "dict",data:=.dict #[] }}:Shared).TypeIs (.ref x.2.1) "tuple" := λx hx=>by
  obtain⟨o1,its,n,g1,c1,_⟩:=(show IsTupleKey (c_ prog w) s.heap x.1 x.2.1 from Jp x hx);exact⟨o1,bW _ g1,c1⟩
 have kX:∀x∈xs,(tupleKind (c_ prog w)).is (s.heap.push { cls:=.type "dict",data:=.dict #[] }) x.1 x.2.1:=λx hx=>by
  obtain⟨o1,its,n,g1,c1⟩:=(show IsTupleKey (c_ prog w) s.heap x.1 x.2.1 from Jp x hx);exact⟨o1,its,n,bW _ g1,c1⟩
 have gW:(s.heap.push { cls:=.type "dict",data:=.dict #[] }).DictOfH (tupleKind (c_ prog w)) o xs:=⟨oo,p_,VF,bW _ vh,xB,xC,qa,kX,j9⟩;have jc:s.heap.objs.size≠o:=λe=>absurd (bK vh) (by rw[e];exact jX _)
 refine⟨qW.typeIs,PySem.F.args_dict_init_2 _ _,?_⟩;unfold Builtin.«dict.__init__»;refine aF ?_;unfold Builtin.Dict.selfAndRest;refine aF (wpAny_notOrdered_dict qW.typeIs ?_)
 show wpAny _ _ (pure (s.heap.objs.size,[Value.ref o])) _ _ _;refine aV ?_
 show wpAny _ _ (Builtin.Dict.updateFrom "dict.__init__" s.heap.objs.size (.ref o) [] .none) _ _ _;unfold Builtin.Dict.updateFrom;refine aF (Ce gW.typeIs ?_);rw[if_neg ⋯]
 refine aF ?_;unfold Builtin.Dict.merge;refine aF ?_;unfold Builtin.Dict.readDirectly;refine aF (GU gW.typeIs isSubtype_dict_dict ?_);simp only[Bool.not_true,Bool.false_eq_true,if_false];refine aF (Cd gW.typeIs PySem.F.slot_dict_iter.lookup (aV ?_));simp only[beq_self_eq_true,if_true];refine aF (aV ?_);refine aeS (xs:=xs) (knd:=tupleKind (c_ prog w)) jc Jo qW gW Jm hn hsz λh' kK jt=>?_
 show wpAny _ _ (Builtin.Dict.addKeywords s.heap.objs.size [] >>= _) _ _ _;exact aF (aV (aV ⟨rfl,h h' kK jt⟩))
end
def DJ(ks:List (List Key)):Prop:=∀(P:Program) (w:World),(ks.map (tupleKeyHash (c_ P w))).Nodup
theorem KT.keys{H:Hp}{kvs:List (List Key×V)}{xs:List (List Key×Addr×Value)}(h:KT H kvs xs):xs.map (·.1)=kvs.map (·.1):=by
 induction h with
 | nil=>rfl
 | cons hq _ ih=>rw[c9,c9,ih,hq.1]
theorem KT.len{H:Hp}{kvs:List (List Key×V)}{xs:List (List Key×Addr×Value)}(h:KT H kvs xs):xs.length=kvs.length:=by
 have:=gh List.length h.keys;simpa using this
section
variable{X:Cx}
theorem aeV:jo X (.type "dict") (λxs H Q=>∃a kvs,xs = [.ref a]/\H a=some (.dT kvs)/\DJ (kvs.map (·.1))/\∀p,H p=none->Q (.ref p) (upd H p (.dT kvs))):=by
 intro pins s σ H xs us Q I r h;obtain⟨a,kvs,rfl,ha,xE,q⟩:=h;obtain⟨u,rfl,ru⟩:=vals1 r;cases ru;obtain⟨z,hs,ks,kt,dd⟩:=Ue I.aL ha;obtain⟨o,es,ep,h1,h2,h3,h4,h5,h6⟩:=id dd;refine aeU (xs:=ks) hs dd (by rw[kt.len];exact z) (by have:=xE X.prog X.w;rw[← kt.keys,nZ] at this;exact this) λh' qY jt=>?_
 obtain⟨o',ow,qM,g1,g2,g3,g4⟩:=qY;have fr:H s.heap.objs.size=none:=I.aL.fresh (bu _);have kt':∀ob,KT (upd H s.heap.objs.size ob) kvs ks:=λob=>by
  clear q ha xE z h4 h5 h6 g4 dd
  induction kt with
  | nil=>exact .nil
  | cons hq _ ih =>
   refine .cons ⟨hq.1,?_,hq.2.2⟩ ih;rw[aB (b7 hq.2.1 fr)];exact hq.2.1
 refine⟨.ref s.heap.objs.size,upd H s.heap.objs.size (.dT kvs),?_,rfl,q _ fr⟩;refine I.laid (a:=s.heap.objs.size) (o:=.dT kvs) (t':=s.toks) (λb q hq=>?_) (bu _) ?_
 ·exact(jt.2 b (b9 (bK hq))).trans (bW _ hq)
 ·exact⟨z,lF.mpr (dR (b9 I.big)),ks,kt' _,o',ow,qM,g1,g2,g3,g4,h6⟩
end
theorem VG(P:Program)(w:World)(p:Int×Int):tupleKeyHash (c_ P w) (kT p)=reduceHash (Builtin.Tuple.tupleHashOf [hashInt p.1,hashInt p.2]):=by
 have e:(kT p).map (c_ P w).hash = [hashInt p.1,hashInt p.2]:=rfl;unfold tupleKeyHash;rw[e]
theorem aeW{z:List (Int×Int)}(h:∀p∈z,0<=p.1/\p.1<64/\0<=p.2/\p.2<60)(nd:z.Nodup):DJ (z.map kT):=by
 intro P w;rw[nZ]
 induction z with
 | nil=>exact BZ
 | cons x z ih =>
  rw[mh] at nd;rw[c9,mh];refine⟨λhm=>?_,ih (λp hp=>h p (cB _ hp)) nd.2⟩;obtain⟨y,hy,e⟩:=cH.mp hm;have hx:=h x (by simp)
  have DK:=h y (cB _ hy);rw[Function.comp_apply,Function.comp_apply,VG,VG] at e;obtain⟨e1,e2⟩:=aeQ DK.1 DK.2.1 DK.2.2.1 DK.2.2.2 hx.1 hx.2.1 hx.2.2.1 hx.2.2.2 e;exact nd.1 (by rw[show x=y from uy e1.symm e2.symm];exact hy)
section
variable{prog:Program}{w:World}{A:Around}{E:Value->Shared->Prop}{s:Shared}{d it:Addr}{es:Array DictEntry}{ep i:Nat}
end
section
variable{X:Cx}
end
noncomputable def fU(rc:List Int)(s:Int)(o:Nat):List (Int×Int):=(List.range s.toNat).map λ(j:Nat)=>((o:Int),rc.getD o 0 - s+(j:Int))
noncomputable def g_(rc:List Int)(s:Int)(us:List (Int×Int))(is:List Nat):Option (Int×Int):=(is.flatMap (fU rc s)).find? λc=>decide (c∉us)
structure Kp(P:Addr)(pos:Pos)(qual:Str)(H H':Hp):Prop where
 b:SameBut P H H'
 t:cN P pos qual H'
theorem cN.same{P:Addr}{pos:Pos}{qual:Str}{H H':Hp}(h:cN P pos qual H)(s:aq H H'):cN P pos qual H':=by
 obtain⟨ps,e,k,c⟩:=h;refine⟨ps,s _ _ e,k,?_⟩;rcases c with c | ⟨c',c1,c2⟩
 ·exact .inl c
 ·exact .inr ⟨c',c1,s _ _ c2⟩
section
variable{P:Addr}{pos:Pos}{qual:Str}{H H1 H2:Hp}
theorem Kp.step(k:Kp P pos qual H H1)(s:aq H1 H2):Kp P pos qual H H2:=⟨k.b.step s,k.t.same s⟩
theorem Kp.trans(k:Kp P pos qual H H1)(k2:Kp P pos qual H1 H2):Kp P pos qual H H2:=⟨k.b.trans k2.b,k2.t⟩
theorem Kp.of(t:cN P pos qual H)(s:aq H H1):Kp P pos qual H H1:=⟨.of s,t.same s⟩
theorem cN.ne(t:cN P pos qual H){a:Addr}{o:HO}(e:H a=some o)(n:∀ps,o≠.fY ps):a≠P:=λz=>by
 obtain⟨ps,e',_⟩:=t;rw[z,e'] at e;exact n ps (dD e).symm
theorem Kp.get(k:Kp P pos qual H H1)(t:cN P pos qual H){a:Addr}{o:HO}(e:H a=some o)(n:∀ps,o≠.fY ps:=by intro _ z;cases z):H1 a=some o:=k.b _ _ e (t.ne e n)
theorem Kp.free(k:Kp P pos qual H H1){a:Addr}(n:H1 a=none):H a=none:=by
 cases e:H a with
 | none=>rfl
 | some o =>
  by_cases z:a=P
  ·obtain⟨ps,e',_⟩:=k.t;rw[z,e'] at n;cases n
  ·rw[k.b _ _ e z] at n;cases n
theorem Kp.seq{K:W.Frag}{a:Addr}{xs:List V}(k:Kp P pos qual H H1)(t:cN P pos qual H)(h:aE K H a xs):aE K H1 a xs:=by
 rcases h with(h | ⟨o,h⟩) | h
 ·exact .inl (.inl (k.get t h))
 ·exact .inl (.inr ⟨o,k.get t h⟩)
 ·exact .inr h
end
theorem cN.put{P:Addr}{pos:Pos}{qual:Str}{H:Hp}{a:Addr}{o ob:HO}(t:cN P pos qual H)(e:H a=some ob)(n1:∀ps,ob≠.fY ps:=by intro _ z;cases z)(n2:∀φ,ob≠.ext φ:=by intro _ z;cases z):cN P pos qual (upd H a o):=by
 obtain⟨ps,e',k,c⟩:=t;refine⟨ps,?_,k,?_⟩
 ·rw[aB (λz=>n1 ps (by rw[z,e] at e';exact dD e'))];exact e'
 ·rcases c with c | ⟨c',c1,c2⟩
  ·exact .inl c
  ·refine .inr ⟨c',c1,?_⟩;rw[aB (λz=>n2 _ (by rw[z,e] at c2;exact dD c2))];exact c2
theorem cN.keep{P:Addr}{pos:Pos}{qual:Str}{H H':Hp}{x:Addr}{ob:HO}(t:cN P pos qual H)(h:∀b,b≠x->H' b=H b)(e:H x=some ob)(n1:∀ps,ob≠.fY ps:=by intro _ z;cases z)(n2:∀φ,ob≠.ext φ:=by intro _ z;cases z):cN P pos qual H':=by
 obtain⟨ps,e',k,c⟩:=t;refine⟨ps,?_,k,?_⟩
 ·rw[h _ (λz=>n1 ps (by rw[z,e] at e';exact dD e'))];exact e'
 ·rcases c with c | ⟨c',c1,c2⟩
  ·exact .inl c
  ·refine .inr ⟨c',c1,?_⟩;rw[h _ (λz=>n2 _ (by rw[z,e] at c2;exact dD c2))];exact c2
theorem Kp.put{P:Addr}{pos:Pos}{qual:Str}{H H1:Hp}{a:Addr}{o ob:HO}(k:Kp P pos qual H H1)(n:H a=none)(e:H1 a=some ob)(n1:∀ps,ob≠.fY ps:=by intro _ z;cases z)(n2:∀φ,ob≠.ext φ:=by intro _ z;cases z):Kp P pos qual H (upd H1 a o) :=
 ⟨λb u q h=>by rw[aB (b7 q n)];exact k.b b u q h,k.t.put e n1 n2⟩
theorem aeX{rc:List Int}{s:Int}{us:List (Int×Int)}{is:List Nat}{o:Int×Int}(h:g_ rc s us is=some o):o∉us:=by
 have:=List.find?_some h;simpa using this
theorem aeY{rc:List Int}{s:Int}{us:List (Int×Int)}{is:List Nat}{i o:Nat}(h:∀c∈(is.take i).flatMap (fU rc s),c∈us)(e:is[i]? = some o)(h2:∀c∈fU rc s o,c∈us) :
  ∀c∈(is.take (i+1)).flatMap (fU rc s),c∈us:=by
 intro c hc;rw[take_succ_get e,Gs,cF] at hc;rcases hc with hc | hc
 ·exact h c hc
 ·exact h2 c (by simpa using hc)
theorem aeZ{rc:List Int}{s:Int}{us:List (Int×Int)}{is:List Nat}(h:∀c∈is.flatMap (fU rc s),c∈us):g_ rc s us is=none:=by
 unfold g_;rw[BS];intro c hc;simpa using h c hc
theorem ae0{rc:List Int}{s:Int}{us:List (Int×Int)}{is:List Nat}{i o j:Nat}(h:∀c∈(is.take i).flatMap (fU rc s),c∈us)(e:is[i]? = some o)(hj:j<s.toNat)
  (h2:∀j',j' < j->((o:Int),rc.getD o 0 - s+(j':Int))∈us) (h3:((o:Int),rc.getD o 0 - s+(j:Int))∉us):g_ rc s us is=some ((o:Int),rc.getD o 0 - s+(j:Int)):=by
 have hi:=gH e;have e1:is=is.take i++o::is.drop (i+1):=by
  have:is.drop i=o::is.drop (i+1):=by
   rw[BQ hi];rw[bx hi] at e;rw[dD e]
  rw[← this,uw]
 have e2:fU rc s o=(List.range j).map (λ(j:Nat)=>((o:Int),rc.getD o 0 - s+(j:Int)))++((o:Int),rc.getD o 0 - s+(j:Int))::((List.range s.toNat).drop (j+1)).map λ(j:Nat)=>((o:Int),rc.getD o 0 - s+(j:Int)):=by
  unfold fU;have:List.range s.toNat=List.range j++j::(List.range s.toNat).drop (j+1):=by
   have q:(List.range s.toNat).drop j=j::(List.range s.toNat).drop (j+1):=by
    rw[BQ (by simpa using hj)]
    rw[List.getElem_range]
   have q2:(List.range s.toNat).take j=List.range j:=by
    rw[List.take_range,ux ∅]
   rw[← q,← q2,uw]
  conv=>lhs;rw[this]
  rw[bO,c9]
 unfold g_;rw[e1,Gs,Gu,e2,List.find?_append,BS.mpr (λc hc=>by simpa using h c hc),Option.none_or,qD,List.find?_append,
  BS.mpr (λc hc=>by
   obtain⟨j',oO,rfl⟩:=cH.mp hc;simpa using h2 j' (gC.mp oO)),Option.none_or,ur,List.find?_cons_of_pos (by simpa using h3)]
def ae1(K:W.Frag)(P:Addr)(pos:Pos)(qual:Str):Sp:=λvs H Q _=>∃(ra ud:Addr) (r s:Int) (rc:List Int) (us:List (Int×Int)),vs = [.ref ra,.int s,.int r,.ref ud]/\aE K H ra (rc.map V.int)/\2<=rc.length/\rc.length<64/\0<=s/\s<=1000/\(∀c∈rc,s<=c/\c<=1000)/\
 H ud=some (.dT (fG us))/\cN P pos qual H/\∀(is:List Nat) (H':Hp),kB (iN r) rc.length is->Kp P pos qual H H'->
  (g_ rc s us is=none->Q .aR H')/\∀c t,g_ rc s us is=some c->H t=none->H' t=some (.tup [.int c.1,.int c.2])->Q (.ref t) H'
inductive lg (rc:List Int) (s:Int) (z:List (Int×Int)) (us:List (Int×Int)):List Nat->List (Nat×(Int×Int)×(Int×Int))->Prop
 | nil:lg rc s z us [] []
 | snoc {ns:List Nat} {ms:List (Nat×(Int×Int)×(Int×Int))} {n:Nat} {c o:Int×Int} (h:lg rc s z us ns ms) (hc:z[n]? = some c) {is:List Nat} (ho:kB (iN c.1) rc.length is)
   (hf:g_ rc s (us++ms.map λm=>m.2.2) is=some o):lg rc s z us (ns++[n]) (ms++[(n,c,o)])
theorem lg.len{rc:List Int}{s:Int}{z us:List (Int×Int)}{ns:List Nat}{ms:List (Nat×(Int×Int)×(Int×Int))}(h:lg rc s z us ns ms):ms.length=ns.length:=by
 induction h with
 | nil=>rfl
 | snoc _ _ _ _ ih=>simp[ih]
structure jR(H:Hp)(l:Addr)(ts us os:List Addr)(ms:List (Nat×(Int×Int)×(Int×Int))):Prop where
 l:H l=some (.lst (us.map V.ref))
 n:us.length=ms.length
 no:os.length=ms.length
 t:∀(i:Nat) (u:Addr) (m:Nat×(Int×Int)×(Int×Int)),us[i]? = some u->ms[i]? = some m->∃tc to,os[i]? = some to/\H u=some (.tup [.int (m.1:Int),.ref tc,.ref to])/\ts[m.1]? = some tc/\H tc=some (.tup [.int m.2.1.1,.int m.2.1.2])/\H to=some (.tup [.int m.2.2.1,.int m.2.2.2])
theorem jR.but{P:Addr}{pos:Pos}{qual:Str}{H H':Hp}{l:Addr}{ts us os:List Addr}{ms:List (Nat×(Int×Int)×(Int×Int))}(h:jR H l ts us os ms)(t:cN P pos qual H)(k:Kp P pos qual H H'):jR H' l ts us os ms :=
 ⟨k.get t h.l,h.n,h.no,λi u m e1 e2=>let ⟨tc,to,x,a,b,c,d⟩:=h.t i u m e1 e2;⟨tc,to,x,k.get t a,b,k.get t c,k.get t d⟩⟩
theorem jR.same{H H':Hp}{l:Addr}{ts us os:List Addr}{ms:List (Nat×(Int×Int)×(Int×Int))}(h:jR H l ts us os ms)(k:aq H H'):jR H' l ts us os ms :=
 ⟨k _ _ h.l,h.n,h.no,λi u m e1 e2=>let ⟨tc,to,x,a,b,c,d⟩:=h.t i u m e1 e2;⟨tc,to,x,k _ _ a,b,k _ _ c,k _ _ d⟩⟩
theorem jR.other{H:Hp}{l x:Addr}{o:HO}{ts us os:List Addr}{ms:List (Nat×(Int×Int)×(Int×Int))}(h:jR H l ts us os ms)(hx:∃kvs,H x=some (.dT kvs)):jR (upd H x o) l ts us os ms:=by
 obtain⟨kvs,hx⟩:=hx;have ne:∀ {a:Addr} {o':HO},H a=some o'->(∀kvs,o'≠.dT kvs)->a≠x:=λe n z=>n kvs (by rw[z,hx] at e;exact(dD e).symm)
 refine⟨by rw[aB (ne h.l (by intro _ z;cases z))];exact h.l,h.n,h.no,λi u m e1 e2=>?_⟩
 obtain⟨tc,to,x,a,b,c,d⟩:=h.t i u m e1 e2;exact⟨tc,to,x,by rw[aB (ne a (by intro _ z;cases z))];exact a,b,by rw[aB (ne c (by intro _ z;cases z))];exact c,by rw[aB (ne d (by intro _ z;cases z))];exact d⟩
theorem jR.snoc{H:Hp}{l:Addr}{ts us os:List Addr}{ms:List (Nat×(Int×Int)×(Int×Int))}(h:jR H l ts us os ms){u tc to:Addr}{m:Nat×(Int×Int)×(Int×Int)}(hu:H u=some (.tup [.int (m.1:Int),.ref tc,.ref to]))(ht:ts[m.1]? = some tc)
  (hc:H tc=some (.tup [.int m.2.1.1,.int m.2.1.2])) (ho:H to=some (.tup [.int m.2.2.1,.int m.2.2.2])):jR (upd H l (.lst (us.map V.ref++[V.ref u]))) l ts (us++[u]) (os++[to]) (ms++[m]):=by
 have ne:∀ {a:Addr} {xs:List V},H a=some (.tup xs)->a≠l:=λe q=>by rw[q,h.l] at e;cases e
 refine⟨by rw[aD,bO];rfl,by simp[h.n],by simp[h.no],λi u' m' e1 e2=>?_⟩
 by_cases hi:i<us.length
 ·rw[gw hi] at e1;rw[gw (by rw[← h.n];exact hi)] at e2
  obtain⟨tc',to',x,a,b,c,d⟩:=h.t i u' m' e1 e2;exact⟨tc',to',by rw[gw (gH x)];exact x,by rw[aB (ne a)];exact a,b,by rw[aB (ne c)];exact c,by rw[aB (ne d)];exact d⟩
 ·rw[gz ∅] at e1
  rw[gz (by rw[← h.n];lia),← h.n] at e2
  have hj:i - us.length=0:=by
   have:=(fD.mp e1).1;simp at this;lia
  rw[hj] at e1 e2;cases e1;cases e2;exact⟨tc,to,by rw[gz (by rw[h.no,← h.n];lia),h.no,← h.n,hj];rfl,by rw[aB (ne hu)];exact hu,ht,by rw[aB (ne hc)];exact hc,by rw[aB (ne ho)];exact ho⟩
noncomputable def cV(bz:List (Int×Int)):Nat->List (Int×Int)->List Nat
 | _,[]=>[]
 | i,q::z=>if q∈bz then i::cV bz (i+1) z else cV bz (i+1) z
theorem DM(bz:List (Int×Int)):∀(z:List (Int×Int)) (i:Nat),kW (fG bz) i z=(cV bz i z).map λ(n:Nat)=>(n:Int)
 | [],i=>rfl
 | q::z,i=>by
  rw[kW,cV];by_cases h:q∈bz
  ·rw[U1 h,if_pos (show (some (V.bl true)).isSome=true from rfl),if_pos h,c9,DM bz z]
  ·rw[zQ h,if_neg (by simp),if_neg h,DM bz z]
theorem Jq{bz:List (Int×Int)}:∀ {z:List (Int×Int)} {i n:Nat},n∈cV bz i z->i<=n/\∃c,z[n - i]? = some c/\c∈bz
 | [],i,n,h=>by cases h
 | q::z,i,n,h=>by
  rw[cV] at h;have tl:n∈cV bz (i+1) z->i<=n/\∃c,(q::z)[n - i]? = some c/\c∈bz:=λh=>by
   obtain⟨h1,c,h2,h3⟩:=Jq h;refine⟨∅,c,?_,h3⟩
   rw[show n - i=(n - (i+1))+1 by lia,Gv]
   exact h2
  split at h
  ·rename_i hq;rcases cg.mp h with rfl | h
   ·exact⟨bu _,q,by simp,hq⟩
   ·exact tl h
  ·exact tl h
theorem ae2(bz z:List (Int×Int)):(cV bz 0 z).length<=z.length:=by
 have:=Ir (fG bz) z 0;rw[DM,aK] at this;exact this
theorem ae3(us:List (Int×Int)){o:Int×Int}(h:o∉us):putK (fG us) (kT o) (.bl true)=fG (us++[o]):=by
 rw[HK _ (zQ h)];simp[fG]
def ae4(K:W.Frag)(P:Addr)(pos:Pos)(qual:Str):Sp:=λvs H Q _=>∃(ra na d:Addr) (s:Int) (rc:List Int) (ts:List Addr) (z bz:List (Int×Int)),vs = [.ref ra,.int s,.ref na,.ref d]/\aE K H ra (rc.map V.int)/\2<=rc.length/\rc.length<64/\0<=s/\s<=1000/\(∀c∈rc,s<=c/\c<=1000)/\
 Zn H na ts z/\z.length<=1000000/\H d=some (.dT (fG bz))/\DJ (bz.map kT)/\bz.length<=1000/\cN P pos qual H/\
 (∀(os:List (Int×Int)) (r:Int) (is:List Nat),os.length<(cV bz 0 z).length->kB (iN r) rc.length is->g_ rc s (bz++os) is≠none)/\
 ∀l us os ms H',Kp P pos qual H H'->H l=none->(∀t∈os,H t=none)->lg rc s z bz (cV bz 0 z) ms->jR H' l ts us os ms->Q (.ref l) H'
theorem VH{n j:Nat}(h:j<n):jL n (j:Int)=some j:=by
 unfold jL;rw[if_pos ∅,if_pos ∅]
 simp
noncomputable def jd(nc:List (Int×Int))(ms:List (Nat×(Int×Int)×(Int×Int))):List (Int×Int):=ms.foldl (λa m=>a.set m.1 m.2.2) nc
theorem VI(nc:List (Int×Int))(ms:List (Nat×(Int×Int)×(Int×Int)))(m:Nat×(Int×Int)×(Int×Int)):jd nc (ms++[m])=(jd nc ms).set m.1 m.2.2:=by
 unfold jd;rw[BV];rfl
theorem xF(nc:List (Int×Int))(ms:List (Nat×(Int×Int)×(Int×Int))):(jd nc ms).length=nc.length:=by
 unfold jd
 induction ms generalizing nc with
 | nil=>rfl
 | cons m ms ih=>rw[qF,ih,yG]
theorem Zn.setAt{H:Hp}{l t:Addr}{ts:List Addr}{z:List (Int×Int)}(h:Zn H l ts z){k:Nat}{c:Int×Int}(ht:H t=some (.tup [.int c.1,.int c.2])):Zn (upd H l (.lst ((ts.set k t).map V.ref))) l (ts.set k t) (z.set k c):=by
 have ne:∀ {a:Addr} {xs:List V},H a=some (.tup xs)->a≠l:=λe q=>by rw[q,h.l] at e;cases e
 refine⟨aD,by simp[h.n],λi t' p e1 e2=>?_⟩
 rw[List.getElem?_set] at e1 e2;by_cases hk:k=i
 ·subst hk;rw[if_pos rfl] at e1 e2;have hl:k<ts.length:=by
   by_cases q:k<ts.length
   ·exact q
   ·rw[if_neg q] at e1;cases e1
  rw[if_pos hl] at e1;rw[if_pos (by rw[← h.n];exact hl)] at e2
  cases e1;cases e2;rw[aB (ne ht)];exact ht
 ·rw[if_neg hk] at e1 e2;have:=h.t i t' p e1 e2;rw[aB (ne this)];exact this
def ae5(K:W.Frag)(C P:Addr)(pos:Pos)(qual:Str):Sp:=λvs H Q _=>∃(p dx za sa ba:Addr) (oH gm:List Addr) (z bz:List (Int×Int)) (aG cM s:Int) (sw:List Int),vs = [.ref p,.ref za,.int aG,.int cM,.ref sa,.int s,.ref ba]/\CP K C/\bL K C "moves"/\H p=some (.ins C dx [])/\Zn H za oH z/\u7 z/\
 1<=aG/\aG<=1000000000/\0<=cM/\cM<aG/\(∀p∈z,aG % p.2=0)/\aE K H sa (sw.map V.int)/\SwOk sw (z.map (·.1)).sum/\Zn H ba gm bz/\bz.length<=1000/\bz.Nodup/\(∀q∈bz,0<=q.1/\q.1<(counts z).length/\0<=q.2/\q.2<(counts z).getD q.1.toNat 0)/\
 (counts z).length<64/\0<=s/\(∀c∈counts z,s<c)/\cN P pos qual H/\
 (∀(os:List (Int×Int)) (r:Int) (is:List Nat),os.length<(cV bz 0 (cL (counts z) s)).length->kB (iN r) (counts z).length is->g_ (counts z) s (bz++os) is≠none)/\
 ∀H' fp mv ts us os ms,(∀b o,H b=some o->b≠p->b≠P->H' b=some o)->cN P pos qual H'->(∀b∈mv::fp,H b=none)->lg (counts z) s (cL (counts z) s) bz (cV bz 0 (cL (counts z) s)) ms->
  Iu K C H' p ⟨counts z,aG,cM,sw,jd (cL (counts z) s) ms⟩ fp mv (us.map V.ref)->jR H' mv ts us os ms->Q .aR H'
theorem Jr{α:Type}[DecidableEq α]:∀ {l l':List α},l.Nodup->(∀x∈l,x∈l')->l.length<=l'.length
 | [],_,_,_=>eX _
 | x::l,l',n,h=>by
  rw[mh] at n;have hx:=h x (by simp)
  have:=Jr (l:=l) (l':=l'.erase x) n.2 λy hy=>(List.mem_erase_of_ne (λ(e:y=x)=>n.1 (by rw[← e];exact hy))).mpr (h y (cB _ hy))
  rw[List.length_erase_of_mem hx] at this;have:=GA hx;simp only[List.length_cons];lia
theorem Ab(bz:List (Int×Int)):∀(z:List (Int×Int)) (i:Nat),(cV bz i z).length=(z.filter λc=>decide (c∈bz)).length
 | [],_=>rfl
 | q::z,i=>by
  rw[cV,lE];by_cases h:q∈bz
  ·rw[if_pos h,if_pos (ig h),gA,gA,Ab bz z]
  ·rw[if_neg h,if_neg (by simpa using h),Ab bz z]
theorem Js{s:Int}:∀(rc:List Int) (r:Nat) (c:Int×Int),c∈eN s r rc->∃j:Nat,j<rc.length/\c.1=((r+j:Nat):Int)/\0<=c.2/\c.2<rc.getD j 0 - s
 | [],r,c,h=>by cases h
 | x::rc,r,c,h=>by
  rw[eN,cF] at h;rcases h with h | h
  ·obtain⟨k,hk,rfl⟩:=cH.mp h;have:=gC.mp hk;exact⟨0,by simp,by simp,by show 0<=(k:Int);lia,by show (k:Int)<x - s;lia⟩
  ·obtain⟨j,h1,h2,h3,h4⟩:=Js rc (r+1) c h;exact⟨j+1,by simpa using h1,by rw[h2];congr 1;lia,h3,by simpa using h4⟩
theorem Jt(rc:List Int)(s:Int):∀is:List Nat,(is.flatMap (fU rc s)).length=is.length*s.toNat
 | []=>by simp
 | o::is=>by
  rw[Gu,fE,Jt rc s is,gA,Nat.succ_mul];unfold fU;simp;lia
theorem Ju{rc:List Int}{s:Int}{is:List Nat}{c:Int×Int}(h:c∈is.flatMap (fU rc s)):∃o∈is,c.1=(o:Int)/\rc.getD o 0 - s<=c.2/\c.2<rc.getD o 0 - s+s.toNat:=by
 obtain⟨o,ho,hc⟩:=r9.mp h;obtain⟨j,hj,rfl⟩:=cH.mp hc;have:=gC.mp hj;exact⟨o,ho,rfl,by show _<=rc.getD o 0 - s+(j:Int);lia,by show rc.getD o 0 - s+(j:Int)<_;lia⟩
theorem Jv(rc:List Int)(s:Int):∀ {is:List Nat},is.Nodup->(is.flatMap (fU rc s)).Nodup
 | [],_=>by simp
 | o::is,n=>by
  rw[mh] at n;rw[Gu,se];refine⟨?_,Jv rc s n.2,λa ha b hb e=>?_⟩
  ·unfold fU;rw[pJ,qH];refine BP ?_ (pJ.mp yI);intro a b h e;have:=gh Prod.snd e;simp only at this;lia
  ·obtain⟨j,hj,rfl⟩:=cH.mp ha;obtain⟨o',gW,e1,_⟩:=Ju hb;rw[← e] at e1;have e1:(o:Int)=(o':Int):=e1;have:o=o':=by lia
   exact n.1 (this▸gW)
theorem ae6{rc:List Int}{s:Int}{bz:List (Int×Int)}(hs:0<=s)(hb:bz.length<=s.toNat*rc.length)(os:List (Int×Int))(r:Int)(is:List Nat)
  (ho:os.length<(cV bz 0 (cL rc s)).length) (ord:kB (iN r) rc.length is):g_ rc s (bz++os) is≠none:=by
 intro h;unfold g_ at h;rw[BS] at h;have nd:is.Nodup:=ord.1.nodup_iff.mpr yI;have il:is.length=rc.length:=by rw[ord.1.length_eq,jF]
 have K1:=Jt rc s is;have K2:=Jv rc s nd;have c1:=Jr (l':=(bz.filter λc => !decide (c∈cL rc s))++os) K2 λc hc=>by
  have:=h c hc;have hm:c∈bz++os:=by
   by_cases q:c∈bz++os
   ·exact q
   ·exact absurd (ig q) this
  rw[cF] at hm ⊢;rcases hm with hm | hm
  ·refine .inl (gB.mpr ⟨hm,?_⟩);rw[Bool.not_eq_true',decide_eq_false_iff_not];intro hz;obtain⟨o,gW,e1,e2,_⟩:=Ju hc;obtain⟨j,j1,j2,j3,j4⟩:=Js rc 0 c hz;have:o=j:=by lia
   rw[this] at e2;lia
  ·exact .inr hm
 have c2:=Jr (l:=(cL rc s).filter λc=>decide (c∈bz)) (l':=bz.filter λc=>decide (c∈cL rc s)) ((U0 rc 0).filter _) λc hc=>by
  obtain⟨h1,h2⟩:=gB.mp hc;exact gB.mpr ⟨by simpa using h2,by simpa using h1⟩
 have c3:(bz.filter λc=>decide (c∈cL rc s)).length+(bz.filter λc => !decide (c∈cL rc s)).length=bz.length:=by
  clear h ho hb c1 c2
  induction bz with
  | nil=>rfl
  | cons x bz ih =>
   rw[lE,lE];by_cases q:x∈cL rc s
   ·rw[if_pos (ig q),if_neg (by simpa using q)];simp only[List.length_cons];lia
   ·rw[if_neg (by simpa using q),if_pos (by simpa using q)];simp only[List.length_cons];lia
 rw[Ab] at ho;rw[fE] at c1;rw[K1,il,Nat.mul_comm] at c1;lia
theorem ae7{s:Int}{rc:List Int}{i:Nat}(h:i<rc.length):eN s 0 (rc.take (i+1))=eN s 0 (rc.take i)++(List.range (rc.getD i 0 - s).toNat).map λ(k:Nat)=>((i:Int),(k:Int)):=by
 rw[take_succ_get (bx h),Ik,eN,eN,pF,fc,ux ∅,sr,show rc.getD i 0=rc[i] by simp[h]]
noncomputable def iO(c:Int×Int)(r:Int):List Int:=[((c.1 - r).natAbs:Int),c.1,c.2]
def DN(K:W.Frag)(tabs:List (Addr×Addr)):Sp:=λvs H Q _=>∃(a:Addr) (ns:List Int),vs = [.ref a]/\aE K H a (ns.map V.int)/\ns.length<=63/\(∀q∈tabs,H q.2=some (.fY #[]))/\∀H',Q (.bl true) H'
theorem walk_lawT{l:PySem.W.OpenLaw}{k:Nat}{q:Program}{loose:List Str}{XP:(Str->Option Value)->Heap->Prop}{YP:World->Heap->Prop}{d:DefRec}{K:Params->W.Frag}{x:Str}
  (hn:l.most=some 63) (uZ:d.params.defaults = []) (hr:d9 k callerA) (hY:∀(w:World) (h:Heap),YP w h->(K w.params).In h) (Aa:∀w:World,PySem.W.noTabs (K w.params)=true)
  (F:∀(w:World) (mg:Str->Option Value) (fa:Addr) (h:Heap),YP w h->(K w.params).In h->h.Ns mainGlobals mg->mg d.name=some (.ref fa)->
   ∃(fd:FuncData) (tabs:List (Addr×Addr)),(∀(s:Shared) (u:Value),BindsTo s fd ⟨[u],[]⟩ [(x,u)])/\PySem.W.TabsAt tabs h/\
    ∀base:Heap,(K w.params).In base->base.Ns mainGlobals mg->(∀q∈tabs,tu mg base q.1 q.2)->bg l.prog w (K w.params) mg base bw k fa fd [x] (DN (K w.params) tabs)) :
  PySem.W.WalkO q loose XP YP l.row.toRowW d [] (λf vs=>PySem.call f vs) :=
 aeN (n:=63) (sp:=λw tabs=>DN (K w.params) tabs) hn ⋯ uZ hr hY Aa F (λ_ tabs H a ns hl hT hS=>⟨a,ns,rfl,hS,hl,hT,λ_=>rfl⟩)
def Ac(r:Int)(a b:Int×Int):Prop:=(a.1 - r).natAbs<(b.1 - r).natAbs\/((a.1 - r).natAbs=(b.1 - r).natAbs/\(a.1<b.1\/(a.1=b.1/\a.2<b.2)))
theorem ae8{rc:List Int}{s r:Int}{is:List Nat}(ord:kB (iN r) rc.length is)(jN:rc.length<64):(is.flatMap (fU rc s)).Pairwise (Ac r):=by
 have il:is.length=rc.length:=by rw[ord.1.length_eq,jF]
 have lt:∀i∈is,i<rc.length:=λi hi=>gC.mp (ord.1.mem_iff.mp hi);rw[List.pairwise_flatMap];refine⟨λo _=>?_,?_⟩
 ·unfold fU;rw[qH];refine BP ?_ List.pairwise_lt_range;intro a b h;exact .inr ⟨rfl,.inr ⟨rfl,by dsimp only;lia⟩⟩
 ·rw[v_];intro i j hi hj oK x hx y hy;obtain⟨a,_,rfl⟩:=cH.mp hx;obtain⟨b,_,rfl⟩:=cH.mp hy;have h:=ord.2 i j oK ∅
  rw[show is.getD i 0=is[i] by simp[hi],show is.getD j 0=is[j] by simp[hj]] at h
  have l1:=lt is[i] (cU hi);have l2:=lt is[j] (cU hj);unfold iN at h;dsimp only at h;unfold Ac;dsimp only;lia
theorem ae9{rc:List Int}{s r:Int}{us:List (Int×Int)}{is:List Nat}{o c:Int×Int}(ord:kB (iN r) rc.length is)(jN:rc.length<64)(h:g_ rc s us is=some o)(hc:c∈(List.range rc.length).flatMap (fU rc s))(hn:c∉us):c=o\/Ac r o c:=by
 have pw:=ae8 (s:=s) ord jN;have hm:c∈is.flatMap (fU rc s):=by
  obtain⟨k,hk,Ad⟩:=r9.mp hc;exact r9.mpr ⟨k,ord.1.mem_iff.mpr hk,Ad⟩
 unfold g_ at h;obtain⟨_,as,bs,e,ha⟩:=BU.mp h;rw[e] at hm pw;rw[cF,cg] at hm;rcases hm with hm | rfl | hm
 ·have:=ha c hm;simp[hn] at this
 ·exact .inl rfl
 ·exact .inr (List.rel_of_pairwise_cons (List.pairwise_append.mp pw).2.1 hm)
noncomputable abbrev Us:=List (Addr×List Int)
noncomputable def uV(zs:Us):List V:=zs.map λz=>V.ref z.1
def rC(H:Hp)(zs:Us):Prop:=∀z,z∈zs->H z.1=some (.tup (z.2.map V.int))
theorem DO(zs:Us):(uV zs).length=zs.length:=by simp[uV]
theorem VJ{zs:Us}{k:Nat}(h:k<zs.length):(uV zs)[k]? = some (.ref zs[k].1):=by simp[uV,h]
theorem VL:∀(zs:Us) (k:Nat),(uV zs).eraseIdx k=uV (zs.eraseIdx k)
 | [],_=>rfl
 | _::_,0=>rfl
 | z::r,k+1=>gh (V.ref z.1 :: ·) (VL r k)
theorem ae_{H:Hp}{p:Addr}{ns ms:List Int}(h:H p=some (.tup (ns.map V.int)))(h':H p=some (.tup (ms.map V.int))):ns=ms:=by
 have z:=h.symm.trans h';injection z with z;injection z with z;exact IG z
section
variable{X:Cx}{pins:List (Addr×Obj)}{σ:St}{H:Hp}{s:Shared}
noncomputable def Ae(zs:Us)(c:List Int):Value->Bool
 | .ref a=>zs.any λz=>decide (z.1=a) && decide (z.2=c)
 | _=>false
theorem DP{zs:Us}{c:List Int}(h:rC H zs){z:Addr×List Int}(hz:z∈zs):Ae zs c (.ref z.1)=decide (z.2=c):=by
 unfold Ae;rw[nW];simp only[List.any_eq_true,Bool.and_eq_true,decide_eq_true_eq];constructor
 ·rintro⟨y,hy,e1,e2⟩;have:=h y hy;rw[e1] at this;exact(ae_ (h z hz) this).trans e2
 ·exact λe=>⟨z,hz,rfl,e⟩
theorem VM{zs:Us}{its:List Value}(r:Vals (uV zs) its):its=zs.map λz=>Value.ref z.1:=by
 induction zs generalizing its with
 | nil=>cases r;rfl
 | cons z zs ih =>
  cases r with
  | cons a b =>
  cases a;rw[ih b];rfl
theorem VN{zs:Us}{c:List Int}(h:rC H zs):(zs.map λz=>Value.ref z.1).any (Ae zs c)=decide (c∈zs.map (·.2)):=by
 rw[nW];simp only[List.any_eq_true,decide_eq_true_eq,List.mem_map];constructor
 ·rintro⟨_,⟨z,hz,rfl⟩,e⟩;rw[DP h hz,sD] at e;exact⟨z,hz,e⟩
 ·rintro⟨z,hz,e⟩;exact⟨_,⟨z,hz,rfl⟩,by rw[DP h hz,sD];exact e⟩
end
section
variable{X:Cx}
def Jw(K:W.Frag)(neg:Bool):R2:=λx y H Q=>∃(a p:Addr) (c:List Int) (zs:Us),x = .ref a/\y = .ref p/\H a=some (.tup (c.map V.int))/\aE K H p (uV zs)/\rC H zs/\
 Q (.bl (if neg then !decide (c∈zs.map (·.2)) else decide (c∈zs.map (·.2)))) H
theorem afa(hu:X.A.units+16<cLine):cZ X (compareOp .In) (Jw X.K false):=by
 intro pins s σ H x y v u Q I rx ry h;obtain⟨a,p,c,zs,rfl,rfl,ha,hq,hz,q⟩:=h;cases ry;cases rx;obtain⟨its,r,pl,_⟩:=I.list hq;have e:=VM r;subst e;refine SeqAt.in_listAt (Ae zs c) pl.isList (λw hw=>?_) ⟨.bl _,H,I,rfl,?_⟩
 ·rw[List.mem_toArray] at hw;obtain⟨z,h1,rfl⟩:=cH.mp hw;rw[DP hz h1];exact II I (by show X.A.units+1+1<cLine;lia) (hz z h1) ha
 ·rw[List.any_toArray,VN hz];exact q
theorem VO(hu:X.A.units+16<cLine):cZ X (compareOp .NotIn) (Jw X.K true):=by
 intro pins s σ H x y v u Q I rx ry h;obtain⟨a,p,c,zs,rfl,rfl,ha,hq,hz,q⟩:=h;cases ry;cases rx;obtain⟨its,r,pl,_⟩:=I.list hq;have e:=VM r;subst e;refine SeqAt.notIn_listAt (Ae zs c) pl.isList (λw hw=>?_) ⟨.bl _,H,I,rfl,?_⟩
 ·rw[List.mem_toArray] at hw;obtain⟨z,h1,rfl⟩:=cH.mp hw;rw[DP hz h1];exact II I (by show X.A.units+1+1<cLine;lia) (hz z h1) ha
 ·rw[List.any_toArray,VN hz];exact q
def VP:V->List V->Hp->VK->Prop:=λx vs H Q=>∃(l a:Addr) (zs:Us) (c:List Int),x = .ref l/\vs = [.ref a]/\H l=some (.lst (uV zs))/\rC H zs/\H a=some (.tup (c.map V.int))/\c∈zs.map (·.2)/\
 ∀(k:Nat) (h:k<zs.length),zs[k].2=c->(∀m (hm:m<zs.length),m<k->zs[m].2≠c)->Q .aR (upd H l (.lst (uV (zs.eraseIdx k))))
theorem afb{zs:Us}{t:List Int}(h:t∈zs.map (·.2)):∃k,∃h:k<zs.length,zs[k].2=t/\∀m (hm:m<zs.length),m<k->zs[m].2≠t:=by
 induction zs with
 | nil=>cases h
 | cons z r ih =>
  by_cases e:z.2=t
  ·exact⟨0,by simp,e,λm _ hm=>absurd hm ∅⟩
  ·rw[c9,cg] at h;obtain⟨k,hk,e1,e2⟩:=ih (h.resolve_left λq=>e q.symm);refine⟨k+1,by simpa using hk,by simpa using e1,λm hm h1=>?_⟩
   cases m with
   | zero=>exact e
   | succ m=>exact e2 m (by simpa using hm) ∅
theorem afc(hu:X.A.units+16<cLine):HF X "list.remove" VP:=by
 intro pins s σ H x vs v us Q I rx rv h;obtain⟨l,a,zs,t,rfl,rfl,hH,hz,ha,hm,q⟩:=h;cases rx;obtain⟨u,rfl,ru⟩:=rv.one;cases ru;obtain⟨z,its,n,r,hl,e⟩:=I.uT hH;rw[DO] at hl z;obtain⟨k,hk,e1,e2⟩:=afb hm;refine yN PySem.F.slot_list_remove ⟨_,e,rfl⟩ PySem.F.entry_list_remove (PySem.F.args_list_remove_2 _ _)
  (adU l its.toArray n (.ref a) (λm=>decide ((zs.getD m zs[k]).2=t)) k (by simp;lia) (by simp[hk,e1]) (λm hm=>?_) (by simp;lia)) ⟨e,λm hm=>?_,?_⟩
 ·have m1:m<zs.length:=by lia
  simpa[m1] using e2 m m1 hm
 ·have m1:m<zs.length:=by rw[hl];simpa using hm
  obtain⟨u,g,w⟩:=r.get (VJ m1);cases w;have e3:its.toArray[m] = .ref zs[m].1:=by
   rw[Gx];exact dD ((bx (by simpa using hm)).symm.trans g)
  have e4:zs.getD m zs[k] = zs[m]:=by simp[m1]
  rw[e3,e4];exact II I (by show X.A.units+1+1<cLine;lia) (hz _ (cU m1)) ha
 ·refine⟨.aR,_,I.iK (its':=its.eraseIdx k) (ys:=uV (zs.eraseIdx k)) hH e ?_ ?_ ?_,rfl,q k hk e1 e2⟩
  ·show its.toArray.eraseIdxIfInBounds k=(its.eraseIdx k).toArray;rw[List.eraseIdxIfInBounds_toArray]
  ·rw[← VL];exact r.eraseIdx k
  ·rw[DO];have:=TY zs k;lia
theorem afd{a b:List Int}(h:_H.lexLt a b=true):¬ _H.lexLt b a=true:=λz=>Dn a (ID _ _ _ h z)
theorem afe{a b c:List Int}(h:¬ _H.lexLt b a=true)(h':¬ _H.lexLt c b=true):¬ _H.lexLt c a=true:=λz=>by
 rcases U4 a b with q | q | q
 ·exact h' (ID _ _ _ z q)
 ·rw[q] at z;exact h' z
 ·exact h q
theorem afg{f:Nat->List Int}{bt:Nat->Nat->Bool}{n:Nat}(hb:∀i j,i<=n->j<=n->(bt i j=true↔_H.lexLt (f i) (f j)=true)) :
  ∀k,k<=n->argBest bt k<=k/\∀j,j<=k->¬ _H.lexLt (f j) (f (argBest bt k))=true:=by
 intro k
 induction k with
 | zero=>intro _;exact⟨bu _,λj hj=>by rw[show j=0 by lia];exact Dn _⟩
 | succ k ih =>
  intro hk;obtain⟨h1,h2⟩:=ih ∅
  simp only[argBest];by_cases e:bt (k+1) (argBest bt k)=true
  ·rw[if_pos e];have:=(hb _ _ hk ∅).mp e
   refine⟨bu _,λj hj=>?_⟩;by_cases ej:j=k+1
   ·rw[ej];exact Dn _
   ·exact afe (afd this) (h2 j ∅)
  ·rw[if_neg e];refine⟨∅,λj hj=>?_⟩
   by_cases ej:j=k+1
   ·rw[ej];exact λz=>e ((hb _ _ hk ∅).mpr z)
   ·exact h2 j ∅
theorem afh(hc:X.calm=true)(hu:X.A.units+16<cLine):jo X (.builtin "min") (λxs H Q=>∃(p:Addr) (zs:Us),xs = [.ref p]/\aE X.K H p (uV zs)/\rC H zs/\0<zs.length/\
  ∀z,z∈zs->(∀y,y∈zs->¬ _H.lexLt y.2 z.2=true)->Q (.ref z.1) H):=by
 intro pins s σ H xs us Q I r h;obtain⟨p,zs,rfl,hq,hz,h0,q⟩:=h;obtain⟨u,rfl,ru⟩:=vals1 r;cases ru;obtain⟨its,rv,pl,_⟩:=I.list hq;have ln:its.length=zs.length:=by have:=rv.length;rw[DO] at this;exact this.symm
 have Jx:∀i v,its[i]? = some v->∃h:i<zs.length,v = .ref zs[i].1:=λi v e=>by
  have hi:i<zs.length:=by rw[← ln];exact(fD.mp e).1
  obtain⟨u,g,w⟩:=rv.get (VJ hi);cases w;exact⟨hi,dD (e.symm.trans g)⟩
 let d:Addr×List Int:=zs[0]
 let bt:Nat->Nat->Bool:=λi j=>_H.lexLt (zs.getD i d).2 (zs.getD j d).2
 have gd:∀i (h:i<zs.length),zs.getD i d=zs[i]:=λi h=>by simp[h]
 refine adW bt (I.ok.hd hc) pl.isList ∅ (λi j u v h tk Q' E' hi hj K hQ=>?_) (λv h' tk hv K=>?_)
 ·obtain⟨i1,rfl⟩:=Jx i u hi;obtain⟨j1,rfl⟩:=Jx j v hj;have I':=I.kept (t':=tk) K;obtain⟨apQ,r1,q1,_⟩:=I'.tuple (aY.of (K:=X.K) (hz _ (cU i1)));obtain⟨ki,r2,q2,_⟩:=I'.tuple (aY.of (K:=X.K) (hz _ (cU j1)));refine _H.acv q1 q2 (intsAre_of r1) (intsAre_of r2) (by show X.A.units+1<cLine;lia) ?_
  have:bt i j=_H.lexLt zs[i].2 zs[j].2:=by show _H.lexLt _ _=_;rw[gd i i1,gd j j1]
  rw[← this];exact hQ
 ·obtain⟨k1,rfl⟩:=Jx _ v hv;obtain⟨h1,h2⟩:=afg (f:=λi=>(zs.getD i d).2) (bt:=bt) (n:=its.length - 1) (λi j _ _=>Iff.rfl) (its.length - 1) (bu _);refine⟨V.ref (zs[argBest bt (its.length - 1)]'k1).1,H,I.kept (t':=tk) K,rfl,q _ (cU k1) λy hy=>?_⟩;obtain⟨j,hj,rfl⟩:=r_.mp hy;have this:¬ _H.lexLt (zs.getD j d).2 (zs.getD (argBest bt (its.length - 1)) d).2=true:=h2 j ∅
  rwa [gd j hj,gd _ k1] at this
end
theorem lg.at{rc:List Int}{s:Int}{z us:List (Int×Int)}{ns:List Nat}{ms:List (Nat×(Int×Int)×(Int×Int))}(h:lg rc s z us ns ms):∀(k:Nat) (m:Nat×(Int×Int)×(Int×Int)),ms[k]? = some m->
  ns[k]? = some m.1/\z[m.1]? = some m.2.1/\∃is,kB (iN m.2.1.1) rc.length is/\g_ rc s (us++(ms.take k).map λm=>m.2.2) is=some m.2.2:=by
 induction h with
 | nil=>intro k m e;simp at e
 | @snoc ns ms n c o h hc is ho hf ih =>
  intro k m e;have ln:=h.len;by_cases hk:k<ms.length
  ·rw[gw hk] at e;obtain⟨a,b,is',c1,d⟩:=ih k m e;refine⟨by rw[gw ∅];exact a,b,is',c1,?_⟩
   rw[RK ∅];exact d
  ·rw[gz ∅] at e
   have hj:k - ms.length=0:=by
    have:=(fD.mp e).1;simp at this;lia
   rw[hj] at e;cases e;have kX:k=ms.length:=by lia
   subst kX;refine⟨by rw[gz ∅,ln];simp,hc,is,ho,?_⟩
   rw[RK ∅,eG];exact hf
theorem VQ(bz:List (Int×Int)):∀(z:List (Int×Int)) (i k n:Nat),(cV bz i z)[k]? = some n->(z.filter λc=>decide (c∈bz))[k]? = z[n - i]?/\i<=n
 | [],i,k,n,h=>by simp[cV] at h
 | q::z,i,k,n,h=>by
  have tl:∀k,(cV bz (i+1) z)[k]? = some n->(z.filter λc=>decide (c∈bz))[k]? = (q::z)[n - i]?/\i<=n:=λk h=>by
   obtain⟨h1,h2⟩:=VQ bz z (i+1) k n h;refine⟨?_,∅⟩
   rw[h1,show n - i=(n - (i+1))+1 by lia,Gv]
  rw[cV] at h;rw[lE];by_cases hq:q∈bz
  ·rw[if_pos hq] at h;rw[if_pos (ig hq)];cases k with
   | zero =>
    rw[List.getElem?_cons_zero] at h;cases h;exact⟨by simp,bu _⟩
   | succ k =>
    rw[Gv] at h ⊢;exact tl k h
  ·rw[if_neg hq] at h;rw[if_neg (by simpa using hq)]
   exact tl k h
theorem afi{rc:List Int}{s:Int}{z bz:List (Int×Int)}{ms:List (Nat×(Int×Int)×(Int×Int))}(h:lg rc s z bz (cV bz 0 z) ms){k:Nat}(hk:k<ms.length) :
  (z.filter λc=>decide (c∈bz))[k]? = some ms[k].2.1/\∃is,kB (iN ms[k].2.1.1) rc.length is/\g_ rc s (bz++(ms.take k).map λm=>m.2.2) is=some ms[k].2.2:=by
 obtain⟨a,b,is,c,d⟩:=h.at k ms[k] (bx hk);obtain⟨e,_⟩:=VQ bz z 0 k _ a;exact⟨by rw[e,Nat.sub_zero];exact b,is,c,d⟩
structure rD(rc:List Int)(s:Int)(us fs:List (Int×Int)):Prop where
 m:∀c,c∈fs↔c∈(List.range rc.length).flatMap (fU rc s)/\c∉us
 n:fs.Nodup
theorem rD.start(rc:List Int)(s:Int)(bz:List (Int×Int)):rD rc s bz (((List.range rc.length).flatMap (fU rc s)).filter λc => !decide (c∈bz)) :=
 ⟨λc=>by rw[List.mem_filter];simp,(Jv rc s yI).filter _⟩
theorem rD.step{rc:List Int}{s:Int}{us fs:List (Int×Int)}(h:rD rc s us fs){k:Nat}(hk:k<fs.length):rD rc s (us++[fs[k]]) (fs.eraseIdx k):=by
 refine⟨λc=>?_,h.n.sublist (List.eraseIdx_sublist _ _)⟩;have e:c∈fs.eraseIdx k↔c∈fs/\c≠fs[k]:=by
  rw[List.mem_eraseIdx_iff_getElem,List.mem_iff_getElem];have nd:=v_.mp h.n;constructor
  ·rintro⟨i,hi,ne,rfl⟩;refine⟨⟨i,hi,rfl⟩,λq=>?_⟩
   rcases Nat.lt_or_gt_of_ne ne with z | z
   ·exact nd _ _ hi hk z q
   ·exact nd _ _ hk hi z q.symm
  ·rintro⟨⟨i,hi,rfl⟩,ne⟩;exact⟨i,hi,λq=>ne (by subst q;rfl),rfl⟩
 rw[e,h.m c,cF,cj,not_or,and_assoc]
theorem afj{r:Int}{a b:Int×Int}(h:Ac r a b):_H.lexLt (iO a r) (iO b r)=true:=by
 unfold iO Ac at *
 simp only[_H.lexLt];split
 ·split
  ·rw[if_neg ∅];simp;lia
  ·simp;lia
 ·simp;lia
theorem afk{rc:List Int}{s r:Int}{us fs:List (Int×Int)}{is:List Nat}{o c:Int×Int}(F:rD rc s us fs)(ord:kB (iN r) rc.length is)(jN:rc.length<64)(h:g_ rc s us is=some o)(hc:c∈fs)
  (hb:∀y∈fs,¬ _H.lexLt (iO y r) (iO c r)=true):c=o:=by
 have ho:o∈fs:=by
  rw[F.m];unfold g_ at h;obtain⟨h1,h2⟩:=BU.mp h;obtain⟨as,bs,e,_⟩:=h2;have hm:o∈is.flatMap (fU rc s):=by rw[e];simp
  obtain⟨k,hk,Ad⟩:=r9.mp hm;exact⟨r9.mpr ⟨k,ord.1.mem_iff.mp hk,Ad⟩,by simpa using h1⟩
 obtain⟨c1,c2⟩:=(F.m c).mp hc;rcases ae9 ord jN h c1 c2 with e | e
 ·exact e
 ·exact absurd (afj e) (hb o ho)
theorem afl{rc:List Int}{s r:Int}{us fs:List (Int×Int)}{is:List Nat}{o:Int×Int}(F:rD rc s us fs)(ord:kB (iN r) rc.length is)(h:g_ rc s us is=some o):o∈fs:=by
 rw[F.m];unfold g_ at h;obtain⟨h1,as,bs,e,_⟩:=BU.mp h;have hm:o∈is.flatMap (fU rc s):=by rw[e];simp
 obtain⟨k,hk,Ad⟩:=r9.mp hm;exact⟨r9.mpr ⟨k,ord.1.mem_iff.mp hk,Ad⟩,by simpa using h1⟩
noncomputable def zU:List Addr->List (Int×Int)->Us:=λts z=>(ts.zip z).map λp=>(p.1,[p.2.1,p.2.2])
theorem xG:∀ {ts:List Addr} {z:List (Int×Int)},ts.length=z.length->uV (zU ts z)=ts.map V.ref
 | [],[],_=>rfl
 | [],_::_,h=>by simp at h
 | _::_,[],h=>by simp at h
 | t::ts,q::z,h=>gh (V.ref t :: ·) (xG (ts:=ts) (z:=z) (by simpa using h))
theorem Af:∀ {ts:List Addr} {z:List (Int×Int)},ts.length=z.length->(zU ts z).map (·.2)=z.map λq=>[q.1,q.2]
 | [],[],_=>rfl
 | [],_::_,h=>by simp at h
 | _::_,[],h=>by simp at h
 | t::ts,q::z,h=>gh ([q.1,q.2] :: ·) (Af (ts:=ts) (z:=z) (by simpa using h))
theorem afm{ts:List Addr}{z:List (Int×Int)}(h:ts.length=z.length):(zU ts z).length=z.length:=by simp[zU];lia
theorem VR:∀(ts:List Addr) (z:List (Int×Int)) (k:Nat),(zU ts z).eraseIdx k=zU (ts.eraseIdx k) (z.eraseIdx k)
 | [],z,k=>by cases z <;> simp[zU]
 | t::ts,[],k=>by simp[zU]
 | t::ts,q::z,0=>rfl
 | t::ts,q::z,k+1=>gh ((t,[q.1,q.2]) :: ·) (VR ts z k)
theorem Zn.us{H:Hp}{a:Addr}{ts:List Addr}{z:List (Int×Int)}(h:Zn H a ts z):rC H (zU ts z):=by
 intro y hy;obtain⟨⟨t,q⟩,hp,rfl⟩:=cH.mp hy;obtain⟨i,hi,e⟩:=r_.mp hp;rw[List.getElem_zip] at e;simp only[Prod.mk.injEq] at e;rw[List.length_zip] at hi;exact h.t i t q (by rw[← e.1];exact bx ∅) (by rw[← e.2];exact bx ∅)
theorem DQ{c:Int×Int}{z:List (Int×Int)}:[c.1,c.2]∈z.map (λq=>[q.1,q.2])↔c∈z:=by
 rw[cH];constructor
 ·rintro⟨q,hq,e⟩;simp only[List.cons.injEq,and_true] at e;rw[show c=q from uy e.1.symm e.2.symm];exact hq
 ·exact λh=>⟨c,h,rfl⟩
section
variable{K:W.Frag}{tl:TE}{g:TG}{tt:TT}{te:TE}{nt:Nat}{fv:List Nat}{Q:VK}{σ:St}{H:Hp}
theorem Zn.push{l t:Addr}{ts:List Addr}{z:List (Int×Int)}{c:Int×Int}(h:Zn H l ts z)(ht:H t=some (.tup [.int c.1,.int c.2])):Zn (upd H l (.lst (ts.map V.ref++[V.ref t]))) l (ts++[t]) (z++[c]):=by
 have ne:∀ {a:Addr} {xs:List V},H a=some (.tup xs)->a≠l:=λe q=>by rw[q,h.l] at e;cases e
 refine⟨by rw[aD,bO];rfl,by simp[h.n],λi t' p e1 e2=>?_⟩
 by_cases hi:i<ts.length
 ·rw[gw hi] at e1;rw[gw (by rw[← h.n];exact hi)] at e2
  have:=h.t i t' p e1 e2;rw[aB (ne this)];exact this
 ·rw[gz ∅] at e1
  rw[gz (by rw[← h.n];lia),← h.n] at e2
  have hj:i - ts.length=0:=by
   have:=(fD.mp e1).1;simp at this;lia
  rw[hj] at e1 e2;cases e1;cases e2;rw[aB (ne ht)];exact ht
end
theorem VS{s:Int}(hs:0<=s):∀(rc:List Int) (r:Nat),(∀c∈rc,c<=60)->(eN s r rc).length<=rc.length*60
 | [],_,_=>eX _
 | c::rc,r,h=>by
  have ih:=VS hs rc (r+1) λx hx=>h x (cB _ hx);have:=h c eB;rw[eN,fE,aK,jF,gA];lia
theorem Zn.drop{H:Hp}{l:Addr}{ts:List Addr}{z:List (Int×Int)}(h:Zn H l ts z)(k:Nat):Zn (upd H l (.lst (uV ((zU ts z).eraseIdx k)))) l (ts.eraseIdx k) (z.eraseIdx k):=by
 have ne:∀ {a:Addr} {xs:List V},H a=some (.tup xs)->a≠l:=λe q=>by rw[q,h.l] at e;cases e
 have ln:(ts.eraseIdx k).length=(z.eraseIdx k).length:=by rw[Gz,Gz,h.n]
 refine⟨by rw[aD,VR,xG ln],ln,λi t p e1 e2=>?_⟩
 rw[List.getElem?_eraseIdx] at e1 e2;by_cases hi:i<k
 ·rw[if_pos hi] at e1 e2;have:=h.t i t p e1 e2;rw[aB (ne this)];exact this
 ·rw[if_neg hi] at e1 e2;have:=h.t (i+1) t p e1 e2;rw[aB (ne this)];exact this
theorem afn{ts:List Addr}{z:List (Int×Int)}{k:Nat}(h:k<(zU ts z).length)(h':k<z.length):((zU ts z)[k]).2 = [z[k].1,z[k].2]:=by simp[zU]
section
variable{X:Cx}
theorem afo:jo X (.type "int") (λxs H Q=>∃b,xs = [.bl b]/\Q (.int (if b then 1 else 0)) H):=by
 intro pins s σ H xs us Q I r h;obtain⟨b,rfl,q⟩:=h;obtain⟨u,rfl,ru⟩:=vals1 r;cases (show u=Value.bool b from ru);exact call_int_bool ⟨.int _,H,I.tok _,⟨_,rfl⟩,q⟩
end
section
variable{X:Cx}{e st:Expr}{te ts:TE}{pos p2:Pos}
end
noncomputable def sumF(f:Nat->Int):Nat->Int
 | 0=>0
 | i+1=>sumF f i+f i
theorem VT{f:Nat->Int}(hd:∀i,f (i+1)<=f i)(a:Nat):∀b,f (a+b)<=f b
 | b=>by
  induction a with
  | zero=>rw[sr];exact iW _
  | succ a ih=>rw[show a+1+b=a+b+1 by lia];exact Int.le_trans (hd _) ih
theorem VU{f:Nat->Int}(hd:∀i,f (i+1)<=f i)(a:Nat):∀b,sumF f (a+b)<=sumF f a+sumF f b
 | 0=>by simp[sumF]
 | b+1=>by
  have ih:=VU hd a b;have:=VT hd a b;rw[← Nat.add_assoc,sumF,sumF];lia
theorem VV{f:Nat->Int}(h1:1<=f 0)(hd:∀i,0<=f i/\f (i+1)<=f i):∀i:Nat,(1<=i->1<=sumF f i)/\0<=sumF f i/\sumF f i<=f 0*(i:Int)
 | 0=>by simp[sumF]
 | i+1=>by
  have ih:=VV h1 hd i;have h2:=(hd i).1;have h3:f i<=f 0:=VT (λi=>(hd i).2) i 0;have e:f 0*((i+1:Nat):Int)=f 0*(i:Int)+f 0:=by
   rw[show ((i+1:Nat):Int)=(i:Int)+1 by lia,Int.mul_add,Int.mul_one]
  refine⟨λ_=>?_,?_,?_⟩
  ·rw[sumF];by_cases hi:i=0
   ·subst hi;simp only[sumF];lia
   ·have:=ih.1 ∅;lia
  ·rw[sumF];lia
  ·rw[sumF,e];lia
theorem afp{f:Nat->Int}(h1:1<=f 0)(h7:f 0<=10000000)(hd:∀i,0<=f i/\f (i+1)<=f i){n:Nat}(h2:2<=n)(apR:n<=100):SwOk ((List.range n).map (sumF f)) (n:Int):=by
 refine⟨by simp,∅,by rw[range_getD ∅];rfl,λi DR hi=>?_,λi DR hi=>?_,λa b ha hb i_=>?_⟩
 ·rw[aK,jF] at hi;rw[range_getD hi];have:=VV h1 hd i;have e:f 0*(i:Int)<=10000000*(i:Int):=RJ h7 ∅
  have:=this.1 DR;lia
 ·rw[aK,jF] at hi;rw[range_getD hi,range_getD ∅]
  obtain⟨j,rfl⟩:∃j,i=j+1:=⟨i - 1,∅⟩
  have:=(hd j).1;rw[sumF];show sumF f j<=_;lia
 ·rw[aK,jF] at i_;rw[range_getD i_,range_getD ∅,range_getD ∅]
  exact VU (λi=>(hd i).2) a b
structure rE(z:List (Int×Int))(aG sk:Int)(sw:List Int):Prop where
 zl:ZL z
 l1:1<=aG
 l2:aG<=1000000000
 l3:∀p∈z,aG % p.2=0
 k0:0<=sk
 k1:sk<aG
 so:SwOk sw (z.map (·.1)).sum
noncomputable def rF(z:List (Int×Int))(aG sk:Int)(sw:List Int)(nc:List (Int×Int)):Pl:=⟨counts z,aG,sk,sw,nc⟩
theorem rE.pl{z:List (Int×Int)}{aG sk:Int}{sw:List Int}(h:rE z aG sk sw)(nc:List (Int×Int)):q9 (rF z aG sk sw nc):=adS h.zl h.l1 h.so
structure ZP(z:List (Int×Int)):Prop where
 r:∀p∈z,1<=p.1/\p.1<=3/\1<=p.2/\p.2<=8
 s2:2<=(z.map (·.1)).sum
theorem VW:∀ {z:List (Int×Int)},(∀p∈z,1<=p.1/\p.1<=3)->0<=(z.map (·.1)).sum/\(z.map (·.1)).sum<=3*(z.length:Int)
 | [],_=>by simp
 | p::z,h=>by
  have ih:=VW λq hq=>h q (cB _ hq);have:=h p eB;rw[c9,sf,gA];lia
theorem ZP.snoc{z:List (Int×Int)}(h:ZP z){p:Int×Int}(hp:1<=p.1/\p.1<=3/\1<=p.2/\p.2<=8):ZP (z++[p]):=by
 refine⟨λq hq=>?_,?_⟩
 ·rcases cF.mp hq with hq | hq
  ·exact h.r q hq
  ·rw[cj.mp hq];exact hp
 ·have:=h.s2;rw[bO,List.sum_append];simp;lia
theorem afq{z:List (Int×Int)}{i:Nat}{p:Int×Int}(h:z[i]? = some p):counts (z.take (i+1))=counts (z.take i)++List.replicate p.1.toNat p.2:=by
 rw[take_succ_get h];simp[counts]
theorem VX{z:List (Int×Int)}(zl:ZL z){x:Int}(h0:0<=x)(h1:x<900\/x<1000000000 / fj z):1<=fj z*(1+x)/\fj z*(1+x)<=1000000000/\∀p∈z,fj z*(1+x) % p.2=0:=by
 have hb:=Dj (m:=60) ⋯ z λp hp=>(zl.ok.r p hp).2.2
 have hp:=zl.pr;have hm:∃m,1+x<=m/\fj z*m<=1000000000:=by
  rcases h1 with h1 | h1
  ·exact⟨900,∅,∅⟩
  ·exact⟨1000000000 / fj z,∅,Int.mul_ediv_self_le ∅⟩
 obtain⟨m,m1,m2⟩:=hm;refine⟨?_,?_,λp hp=>Int.emod_eq_zero_of_dvd (Int.dvd_trans (UU hp) (Int.dvd_mul_right _ _))⟩
 ·have:=rY hb.1 (show 1<=1+x by lia) ⋯ ∅;lia
 ·have:=rY (iW (fj z)) m1 ∅ ∅;lia
theorem Zn.one{H:Hp}{l t:Addr}{c:Int×Int}(h:H t=some (.tup [.int c.1,.int c.2]))(nl:H l=none):Zn (upd H l (.lst [.ref t])) l [t] [c]:=by
 refine⟨aD,rfl,λi t' p e1 e2=>?_⟩;cases i with
 | zero =>
  simp at e1 e2;subst e1 e2;rw[aB (b7 h nl)];exact h
 | succ i=>simp at e1
theorem VY(v:Int):∀k:Nat,(List.replicate k [V.int v]).flatten=(List.replicate k v).map V.int
 | 0=>rfl
 | k+1=>by rw[qI,vZ,VY v k,qI,c9];rfl
structure Ag(rc:List Int)(nc:List (Int×Int)):Prop where
 n2:2<=nc.length
 n1:nc.length<=1000
 c:∀q∈nc,0<=q.1/\q.1<rc.length/\0<=q.2/\q.2<rc.getD q.1.toNat 0
theorem VZ{c:Int×Int}:∀(ms:List (Nat×(Int×Int)×(Int×Int))) (nc:List (Int×Int)),c∈jd nc ms->c∈nc\/∃m∈ms,c=m.2.2
 | [],nc,h=>.inl h
 | m::ms,nc,h=>by
  have h:c∈jd (nc.set m.1 m.2.2) ms:=h;rcases VZ ms _ h with h | ⟨m',hm,e⟩
  ·rcases GB h with h | h
   ·exact .inl h
   ·exact .inr ⟨m,eB,h⟩
  ·exact .inr ⟨m',cB _ hm,e⟩
theorem afr{rc:List Int}{s:Int}{bz:List (Int×Int)}{ms:List (Nat×(Int×Int)×(Int×Int))}(h2:2<=rc.length)(h15:rc.length<=15)(DS:∀c∈rc,s<c/\c<=60)(hs:0<=s)(L:lg rc s (cL rc s) bz (cV bz 0 (cL rc s)) ms):Ag rc (jd (cL rc s) ms):=by
 have gd:∀i:Nat,i<rc.length->rc.getD i 0∈rc:=λi hi=>by rw[show rc.getD i 0=rc[i] by simp[hi]];exact cU hi
 have ge:∀(rc:List Int) (r:Nat),(∀c∈rc,s<c)->rc.length<=(eN s r rc).length:=by
  intro rc
  induction rc with
  | nil=>intro r _;exact eX _
  | cons c rc ih =>
   intro r h;have:=ih (r+1) λx hx=>h x (cB _ hx);have:=h c eB;rw[eN,fE,aK,jF,gA];lia
 have lo:=ge rc 0 λc hc=>(DS c hc).1;have hi:=VS hs rc 0 λc hc=>(DS c hc).2;refine⟨by rw[xF];exact dQ h2 lo,by rw[xF];exact dQ hi ∅,λq hq=>?_⟩
 rcases VZ ms _ hq with hq | ⟨m,hm,rfl⟩
 ·obtain⟨j,j1,j2,j3,j4⟩:=Js rc 0 q hq;rw[show q.1.toNat=j by lia]
  lia
 ·obtain⟨k,hk,rfl⟩:=r_.mp hm;obtain⟨_,is,ord,ff⟩:=afi L hk;unfold g_ at ff;obtain⟨_,as,bs,e,_⟩:=BU.mp ff;have z7:ms[k].2.2∈is.flatMap (fU rc s):=by rw[e];simp
  obtain⟨o,ho,o1,o2,o3⟩:=Ju z7;have ol:=gC.mp (ord.1.mem_iff.mp ho);have:=DS _ (gd o ol);rw[show ms[k].2.2.1.toNat=o by lia]
  lia
noncomputable def jy(nc:List (Int×Int))(f m:Int):List (Int×Int):=(nc.drop f.toNat).take m.toNat
theorem afs{nc:List (Int×Int)}{f m:Int}{c:Int×Int}(h:c∈jy nc f m):c∈nc:=List.mem_of_mem_drop (yH h)
theorem aft{nc:List (Int×Int)}{f m:Int}(h0:0<=f)(h1:0<=m)(h:f+m<=nc.length):(jy nc f m).length=m.toNat:=by
 unfold jy;rw[fc,List.length_drop];lia
theorem afu{nc:List (Int×Int)}{f:Int}{i:Nat}{c:Int×Int}(h0:0<=f)(h:nc[(f+(i:Int)).toNat]? = some c):(nc.drop f.toNat).take (i+1)=(nc.drop f.toNat).take i++[c]:=by
 refine take_succ_get ?_;rw[List.getElem?_drop,show f.toNat+i=(f+(i:Int)).toNat by lia];exact h
def afv(K:W.Frag)(cs:List Addr)(CA:Addr):Sp:=λvs H Q _=>∃(C p ap:Addr) (P:Pl) (fp:List Addr) (q:Ak) (m b dx:Addr),vs = [.ref p,.ref ap]/\C∈cs/\dG K C H p P fp/\fJ K CA H ap q m b dx/\Du P.nc.length q/\P.nc.length<=1000000/\
 ∀l ts H',aq H H'->H l=none->Zn H' l ts (jy P.nc q.first q.many)->Q (.ref l) H'
def afw(K:W.Frag)(cs:List Addr)(CA:Addr):Sp:=λvs H Q _=>∃(C p ap:Addr) (k:Int) (P:Pl) (fp:List Addr) (q:Ak) (m b dx:Addr),vs = [.ref p,.int k,.ref ap]/\C∈cs/\dG K C H p P fp/\fJ K CA H ap q m b dx/\Du P.nc.length q/\P.nc.length<=1000000/\
 ∀l ts H',aq H H'->H l=none->Zn H' l ts (jy P.nc q.first q.many)->Q (.ref l) H'
structure Dr where
 n:Int
 q:Ak
 c:List (Int×Int)
noncomputable def qc(n:Int)(ap l:Addr):List (Str×V):=[("number",.int n),("ask",.ref ap),("cells",.ref l)]
structure lT(K:W.Frag)(CA CD:Addr)(H:Hp)(p:Addr)(d:Dr)(dx ap l:Addr)(ts:List Addr)(m b dw:Addr):Prop where
 o:H p=some (.ins CD dx (qc d.n ap l))
 a:fJ K CA H ap d.q m b dw
 c:Zn H l ts d.c
theorem lT.same{K:W.Frag}{CA CD:Addr}{H H':Hp}{p:Addr}{d:Dr}{dx ap l:Addr}{ts:List Addr}{m b dw:Addr}(h:lT K CA CD H p d dx ap l ts m b dw)(s:aq H H'):lT K CA CD H' p d dx ap l ts m b dw:=⟨s _ _ h.o,h.a.same s,h.c.same s⟩
def afx(K:W.Frag)(cs:List Addr)(CA CD:Addr):Sp:=λvs H Q _=>∃(C p pl ap dx:Addr) (n:Int) (P:Pl) (fp:List Addr) (q:Ak) (m b dw:Addr),vs = [.ref p,.ref pl,.int n,.ref ap]/\H p=some (.ins CD dx [])/\C∈cs/\dG K C H pl P fp/\p≠pl/\p∉fp/\fJ K CA H ap q m b dw/\Du P.nc.length q/\P.nc.length<=1000000/\
 ∀l ts H',H l=none->SameBut p H H'->lT K CA CD H' p ⟨n,q,jy P.nc q.first q.many⟩ dx ap l ts m b dw->Q .aR H'
structure tE(K:W.Frag)(CA CD:Addr)(H:Hp)(l:Addr)(ps:List Addr)(ds:List Dr):Prop where
 l:H l=some (.lst (ps.map V.ref))
 n:ps.length=ds.length
 t:∀(i:Nat) (p:Addr) (d:Dr),ps[i]? = some p->ds[i]? = some d->∃dx ap l ts m b dw,lT K CA CD H p d dx ap l ts m b dw
theorem tE.same{K:W.Frag}{CA CD:Addr}{H H':Hp}{l:Addr}{ps:List Addr}{ds:List Dr}(h:tE K CA CD H l ps ds)(s:aq H H'):tE K CA CD H' l ps ds :=
 ⟨s _ _ h.l,h.n,λi p d e1 e2=>let ⟨dx,ap,l,ts,m,b,dw,a⟩:=h.t i p d e1 e2;⟨dx,ap,l,ts,m,b,dw,a.same s⟩⟩
theorem rE.part{z:List (Int×Int)}{aG sk:Int}{sw:List Int}(h:rE z aG sk sw){i:Nat}(hi:i<(counts z).length):1<=aG / (counts z).getD i 0:=by
 obtain⟨y,hy,e⟩:=w6 (get_mem (sY (counts z) hi));have r:=h.zl.ok.r y hy;have d:=Int.emod_add_mul_ediv aG y.2;rw[h.l3 y hy,Int.zero_add] at d;have l1:=h.l1;rw[e];by_cases q:1<=aG / y.2
 ·exact q
 ·have:y.2*(aG / y.2)<=0:=Int.mul_nonpos_of_nonneg_of_nonpos ∅ ∅
  lia
theorem bF{N ps:List Str}{scope:Scope}(h:bA N ps scope:=by exact⟨rfl,rfl,rfl,by decide +kernel,rfl,by decide +kernel,by decide +kernel⟩):bA N ps scope:=h
class V0 where
 nx:St->Hp->Prop
def Later[c:V0](σ:St)(H:Hp):Prop:=c.nx σ H
def V1(t:TS):TS:=λD σ H=>∃M:St->Hp->Prop,t { D with nx:=M } σ H/\∀fh H1,M fh H1->@Later ⟨D.nx⟩ fh H1
theorem rG{X:Cx}{st:Stmt}{t:TS}(h:PS X st t):PS X st (V1 t):=adt h
theorem apS{c:V0}{x:Option V}{σ:St}{H:Hp}:@Later c (x::σ) H=c.nx (x::σ) H:=rfl
end _L
namespace _L
open PySem PySem.Spec PyProof.Rows PySem.W
section
variable{X:Cx}{pins:List (Addr×Obj)}{σ:St}{H:Hp}{s:Shared}
variable{scope:Scope}{cl:List (Str×Addr)}{ps fs:List Str}{fv:List Nat}{qual name:Str}{f c' P l S It:Addr}{params:Arguments}{body:Expr}{te:TE}{pm fQ:Value}{pos:Pos}{kv:Nat->List Int}{H1:Hp}{as:List Addr}
end
end _L
namespace _L
open PySem PySem.Spec PyProof.Rows
section
variable{X:Cx}{pins:List (Addr×Obj)}{σ:St}{H:Hp}{s:Shared}{scope:Scope}{cl:List (Str×Addr)}{N:List Str}{nt:Nat}{fv:List Nat}{fp:List Addr}
end
section
variable{X:Cx}{tg iter elt:Expr}{ifs:List Expr}{scope:Scope}{cl:List (Str×Addr)}{N:List Str}{nt:Nat}{fv:List Nat}{pos:Pos}{wi:TI}{g:TG}{tt:TT}{te:TE}
end
noncomputable def T1(m:Nat)(led:Bool):SetTable:={ mask:=7,place := #[m % 8],dummies := #[],finger:=0,led,moves:=0,plain:=true }
noncomputable def m_(m n:Nat):Nat:=if n % 8=m % 8 then(5*(n % 8)+1+n / 32) % 8 else n % 8
noncomputable def T2(m n:Nat)(led:Bool):SetTable:={ mask:=7,place:=if m_ m n<m % 8 then #[m_ m n,m % 8] else #[m % 8,m_ m n],dummies := #[],finger:=0,led,moves:=0,plain:=true }
theorem afy:∀(n:Fin 48) (led:Bool),(SetTable.fresh 0 0 led).freeSlot ((n.val:Nat):Int)=some (n.val % 8,false)/\(SetTable.fresh 0 0 led).put (n.val % 8)=(T1 n.val led,0):=by decide +kernel
theorem Dz:∀(m n:Fin 48) (led:Bool),m≠n->(T1 m.val led).freeSlot ((n.val:Nat):Int)=some (m_ m.val n.val,false)/\(T1 m.val led).put (m_ m.val n.val)=(T2 m.val n.val led,if m_ m.val n.val<m.val % 8 then 0 else 1)/\m_ m.val n.val≠m.val % 8:=by decide +kernel
theorem afz{n:Nat}(h:n<48)(led:Bool)(x:Value):layNew (SetTable.fresh 0 0 led) #[] (n:Int) x=(#[((n:Int),x)],T1 n led,false,false):=by
 obtain⟨a,b⟩:=afy ⟨n,h⟩ led;unfold layNew;rw[show (SetTable.fresh 0 0 led).freeSlot (n:Int)=some (n % 8,false) from a];dsimp only;rw[show (SetTable.fresh 0 0 led).put (n % 8)=(T1 n led,0) from b]
 rfl
noncomputable def kR(m n:Nat)(y x:Value):Array (Int×Value):=if m_ m n<m % 8 then #[((n:Int),x),((m:Int),y)] else #[((m:Int),y),((n:Int),x)]
theorem afA{m n:Nat}(hm:m<48)(h:n<48)(ne:m≠n)(led:Bool)(y x:Value):layNew (T1 m led) #[((m:Int),y)] (n:Int) x=(kR m n y x,T2 m n led,false,false):=by
 obtain⟨a,b,c⟩:=Dz ⟨m,hm⟩ ⟨n,h⟩ led (λz=>ne (by simpa using z))
 unfold layNew;rw[show (T1 m led).freeSlot (n:Int)=some (m_ m n,false) from a];dsimp only;rw[show (T1 m led).put (m_ m n)=(T2 m n led,if m_ m n<m % 8 then 0 else 1) from b]
 unfold kR T2;dsimp only;split <;> rfl
theorem afB:∀n:Fin 48,hashInt ((n.val:Nat):Int)=(n.val:Int):=by decide +kernel
noncomputable def fK(es:Array (Int×Value))(ep:Nat)(t:SetTable):Obj:={ cls:=.type "set",dict:=none,data:=.set es ep t }
section
variable{prog:Program}{w:World}{A:Around}{E:Value->Shared->Prop}{s:Shared}{a:Addr}{es es1:Array (Int×Value)}{ep:Nat}{t t1:SetTable}{n:Int}{tk:Tok}
theorem V2{Q:Bool->Shared->Prop}(ho:s.heap.get? a=some (fK es ep t))(hf:t.fits es.size=true)(Ai:ElemsOf (intKind prog w) es.toList)(hb:es.size<10)(j9:∀e∈es.toList,(intKind prog w).is n e.2=false)
  (hl:layNew t es ((intKind prog w).hash n) (.int n tk)=(es1,t1,false,false)) (hp:t1.plain=true) (afC:t1.tooFull=false) (DT:es1.size<10)
  (h:∀h',Heap.SameBut a s.heap h'->h'.get? a=some (fK es1 (ep+1) t1)->Q true { s with heap:=h' }):wpAny (model prog w) A (setAddHashed a (.int n tk) ((intKind prog w).hash n)) Q E s:=by
 have mJ:(intKind prog w).is n (.int n tk)=true:=wk _ _ _ _;have rH:(Value.int n tk).scannable=true:=rfl;unfold setAddHashed setAddHashedIn;refine jg (aF (uE ho rfl hf ?_));dsimp only;rw[byScan_of rH (by unfold scanBound;lia) Ai]
 simp only[↓reduceIte];unfold setAddByScan;refine aF ?_;refine aF (wpAny_rule ?_);refine aF (wpAny_setScan_of mJ ho rfl hf Ai ?_);rw[List.findIdx?_eq_none_iff.mpr j9];dsimp only;rw[hl];dsimp only;refine aF (aV ?_);rw[if_pos hp,hashByValue_scannable 8 rH];refine aF (aV ?_);simp only[plainKind,if_true];refine wpAny_bind (wpAny_storeSet_of ho rfl ?_ (fits_of_scanBound (by unfold scanBound;lia)))
 rw[afC];simp only[Bool.and_false,Bool.false_eq_true,if_false];have hg:(s.heap.update a (Obj.putSet es1 t1)).get? a=some (fK es1 (ep+1) t1):=by
  have:=qB (Obj.putSet es1 t1) ho (by rw[putSet_of es1 t1 (es:=es) (ep:=ep) (t:=t) rfl];rfl)
  rw[putSet_of es1 t1 (es:=es) (ep:=ep) (t:=t) rfl] at this;exact this
 exact aV (aV (h _ (yE _ _ _) hg))
theorem afD{Q:Bool->Shared->Prop}(ho:s.heap.get? a=some (fK es ep t))(hf:t.fits es.size=true)(Ai:ElemsOf (intKind prog w) es.toList)(hb:es.size<10)(afE:∃e∈es.toList,(intKind prog w).is n e.2=true)
  (h:Q false s):wpAny (model prog w) A (setAddHashed a (.int n tk) ((intKind prog w).hash n)) Q E s:=by
 have mJ:(intKind prog w).is n (.int n tk)=true:=wk _ _ _ _;have rH:(Value.int n tk).scannable=true:=rfl;unfold setAddHashed setAddHashedIn;refine jg (aF (uE ho rfl hf ?_));dsimp only;rw[byScan_of rH (by unfold scanBound;lia) Ai]
 simp only[↓reduceIte];unfold setAddByScan;refine aF ?_;refine aF (wpAny_rule ?_);refine aF (wpAny_setScan_of mJ ho rfl hf Ai ?_);cases hr:List.findIdx? (λe=>(intKind prog w).is n e.2) es.toList with
 | some j=>exact aV (aV h)
 | none =>
  obtain⟨e,he,hp⟩:=afE;have:=List.findIdx?_eq_none_iff.mp hr e he;rw[hp] at this;cases this
end
noncomputable def jS(m n:Nat)(tm tn:Tok):Array (Int×Value):=if m=n then #[((m:Int),.int m tm)] else kR m n (.int m tm) (.int n tn)
noncomputable def qd(m n:Nat)(led:Bool):SetTable:=if m=n then T1 m led else T2 m n led
noncomputable def rJ(m n:Nat):Nat:=if m=n then 1 else 2
section
variable{prog:Program}{w:World}{A:Around}{R:Result->Shared->Prop}{s:Shared}{l I S:Addr}{m n:Nat}{tm tn:Tok}{led:Bool}
theorem intHash{n:Nat}(h:n<48):(intKind prog w).hash (n:Int)=(n:Int):=afB ⟨n,h⟩
theorem V3(hm:m<48):ElemsOf (intKind prog w) (#[((m:Int),Value.int m tm)]:Array (Int×Value)).toList:=λe he=>by
 simp only[List.mem_singleton] at he;rw[he];exact⟨⟨(m:Int),wk _ _ _ _,(intHash hm).symm⟩,rfl⟩
theorem V4{a b:Int}{t:Tok}:(intKind prog w).is a (.int b t)=decide (a=b):=KeyKind.is_eq_decide (wk _ _ _ _) a
theorem afF(hh:A.handled=none)(hm:m<48)(hn:n<48)(tF:l≠I)(gI:S≠I)(rK:S≠l)(hit:s.heap.IsListIter I l 0)(hl:s.heap.IsList l #[.int m tm,.int n tn])(hS:s.heap.get? S=some (fK #[] 0 (.fresh 0 0 led)))
  (hR:∀h' tk,(∀b o,b≠S->b≠I->s.heap.get? b=some o->h'.get? b=some o)->h'.get? S=some (fK (jS m n tm tn) (rJ m n) (qd m n led))->R (.ok (.ret .none)) { s with heap:=h',toks:=tk }) :
  codeAny (model prog w) A (.builtin "set.update.loop" ⟨[.ref S,.ref I],[]⟩) R s:=by
 have W:=uA (prog:=prog) (w:=w) (A:=A.in1) hh I l tF #[.int (m:Int) tm,.int (n:Int) tn];have step:∀ {P:Prop},P->P:=id;refine iD Gp ?_;rw[iV vV _]
 show wpAny _ A.in1 (pyNext (.ref I) >>= _) _ _ s;refine aF (W.item 0 s _ _ (by simp) ⟨hit,hl⟩ λv h1 t1 hP Jy k1=>?_)
 have ev:v = .int m tm:=by simpa using hP.symm
 subst ev;have vj:=k1 S _ (by simpa using gI) hS
 show wpAny _ A.in1 (holding [Value.int (m:Int) tm] (setAdd S (.int m tm)) >>= _) _ _ _;refine aF (jg ?_);unfold setAdd;refine jg ?_;refine aF ((intKind prog w).pyHash (k:=(m:Int)) (wk _ _ _ _) ?_);refine V2 (es1 := #[((m:Int),.int m tm)]) (t1:=T1 m led) vj rfl (λe he=>by simp at he) (by simp) (λe he=>by simp at he) (by rw[intHash hm];exact afz hm led _) rfl rfl (by simp) λh2 lR lU=>?_
 have afG:∀b o,b≠S->b≠I->s.heap.get? b=some o->h2.get? b=some o:=λb o hb hI e=>(lR.2 b hb).trans (k1 b o (by simpa using hI) e)
 have iI:h2.IsListIter I l 1/\h2.IsList l #[.int (m:Int) tm,.int (n:Int) tn]:=W.frame 1 h1 h2 Jy λb hb o e=>(lR.2 b (λz=>by
  rw[z] at hb;rcases cg.mp hb with q | q
  ·exact gI q
  ·exact rK (cj.mp q))).trans e
 refine aV ⟨iY vV _,?_⟩;refine iD Gp ?_;rw[iV vV _]
 show wpAny _ A.in1 (pyNext (.ref I) >>= _) _ _ _;refine aF (W.item 1 _ _ _ (by simp) iI λv h3 t3 hP uL k3=>?_)
 have ev:v = .int n tn:=by simpa using hP.symm
 subst ev;have ng:=k3 S _ (by simpa using gI) lU
 show wpAny _ A.in1 (holding [Value.int (n:Int) tn] (setAdd S (.int n tn)) >>= _) _ _ _;refine aF (jg ?_);unfold setAdd;refine jg ?_;refine aF ((intKind prog w).pyHash (k:=(n:Int)) (wk _ _ _ _) ?_);have fin:∀(h4:Heap) (t4:Nat),(∀b o,b≠S->h3.get? b=some o->h4.get? b=some o)->h4.get? S=some (fK (jS m n tm tn) (rJ m n) (qd m n led))->
   codeAny (model prog w) A (.builtin "set.update.loop" ⟨[.ref S,.ref I],[]⟩) R { s with heap:=h4,toks:=t4 }:=λh4 t4 k4 Jz=>by
  have st4:h4.IsListIter I l 2/\h4.IsList l #[.int (m:Int) tm,.int (n:Int) tn]:=W.frame 2 h3 h4 uL λb hb o e=>k4 b o (λz=>by
   rw[z] at hb;rcases cg.mp hb with q | q
   ·exact gI q
   ·exact rK (cj.mp q)) e
  refine iD Gp ?_;rw[iV vV _]
  show wpAny _ A.in1 (pyNext (.ref I) >>= _) _ _ _;refine aF (W.done _ _ _ st4 λh5 t5 k5=>?_)
  show wpAny _ A.in1 (ret Value.none) _ _ _;exact aV (hR h5 t5 (λb o hb hI e=>k5 b o (by simpa using hI) (k4 b o hb (k3 b o (by simpa using hI) (afG b o hb hI e)))) (k5 S _ (by simpa using gI) Jz))
 by_cases e:m=n
 ·refine afD ng rfl (V3 hm) (by simp) ⟨_,cj.mpr rfl,by rw[V4,e];simp⟩ ?_
  refine aV ⟨iY vV _,fin h3 _ (λb o _ q=>q) ?_⟩;rw[jS,rJ,qd,if_pos e,if_pos e,if_pos e];exact ng
 ·refine V2 (es1:=kR m n (.int m tm) (.int n tn)) (t1:=T2 m n led) ng rfl (V3 hm) (by simp) (λx hx=>?_) (by rw[intHash hn];exact afA hm hn e led _ _) rfl ?_ ?_ λh4 sb4 Jz=>?_
  ·simp only[List.mem_singleton] at hx;rw[hx,V4,decide_eq_false_iff_not];lia
  ·unfold SetTable.tooFull SetTable.fill T2;dsimp only;split <;> rfl
  ·unfold kR;split <;> simp
  ·refine aV ⟨iY vV _,fin h4 _ (λb o hb q=>(sb4.2 b hb).trans q) ?_⟩;rw[jS,rJ,qd,if_neg e,if_neg e,if_neg e];exact Jz
end
noncomputable def dz(w:World):Bool:=w.params.followText "set-order"
section
variable{prog:Program}{w:World}{A:Around}{E:Value->Shared->Prop}{s:Shared}
theorem afH(a:Value){Q₁:Value->Shared->Prop}
  (h:Q₁ (.ref s.heap.objs.size) { s with heap:=s.heap.push (fK #[] 0 (.fresh 0 0 (!dz w)))}) :
  codeAny (model prog w) A (.call (.builtin "set.__new__") ⟨[.type "set",a],[]⟩) (wants Q₁ E) s:=by
 refine codeAny_of_tree ?_
 show wpAny _ A.in1 (do checkBuiltinCall "set.__new__" ⟨[.type "set",a],[]⟩;again (.builtin "set.__new__" ⟨[.type "set",a],[]⟩)) _ _ s
 refine aF (Cc (F.newCall_set_1 a) (aV ⟨iY F.plain_set_new _,iD F.entry_set_new ?_⟩));rw[iV F.plain_set_new _];unfold Builtin.«set.__new__» Builtin.Frozenset.newClass;have afI:=sub_set_self;obtain⟨hp,g,d,tk,os⟩:=s;dsimp only;wp_walk;refine sF (aV ?_);dsimp only;simp only[newObj];refine aF (wpAny_alloc (aV ?_));exact aV h
theorem afJ{l:Addr}{m n:Nat}{tm tn:Tok}{Q:Value->Shared->Prop}(hh:A.handled=none)(hm:m<48)(hn:n<48)(hl:s.heap.IsList l #[.int m tm,.int n tn])
  (h:∀(h':Heap) (tk:Nat),h'.get? s.heap.objs.size=some (fK (jS m n tm tn) (rJ m n) (qd m n (!dz w)))->
   (∀b o,b<s.heap.objs.size->s.heap.get? b=some o->h'.get? b=some o)->Q (.ref s.heap.objs.size) { s with heap:=h',toks:=tk }) :
  wpAny (model prog w) A (call (.type "set") [.ref l]) Q E s:=by
 obtain⟨c,tl,apT⟩:=F.called_set.mro;have apU:=F.called_set.made;have afI:=F.called_set.sub;refine wpAny_call (codeAny_of_tree ?_)
 show wpAny _ _ (callAny (.type "set") _) _ _ _;refine aV ⟨Code.quiet_builtin _ (by decide +kernel),iD F.entry_type_call ?_⟩
 rw[Around.under_plain (weight_type_call_type "set" [.ref l] []) rfl];have h1:=F.called_set.notType;have h2:=F.called_set.canCreate;have hct:=F.typeCall_set_1 (.ref l)
 repeat (any_goals (first | assumption | wp_step))
 refine wj (afH (.ref l) (E:=E) (Q₁:=λobj aW=>obj = .ref s.heap.objs.size/\aW = { s with heap:=s.heap.push (fK #[] 0 (.fresh 0 0 (!dz w)))}) ⟨rfl,rfl⟩) λr aW hr=>?_;cases r with
 | error e=>exact hr
 | ok fl =>
  cases fl with
  | ret obj =>
   obtain⟨rfl,rfl⟩:=hr;have hS:(s.heap.push (fK #[] 0 (.fresh 0 0 (!dz w)))).get? s.heap.objs.size=some (fK #[] 0 (.fresh 0 0 (!dz w))):=e_ _ rfl;have hT:Shared.TypeIs { s with heap:=s.heap.push (fK #[] 0 (.fresh 0 0 (!dz w)))} (.ref s.heap.objs.size) "set" := ⟨_,hS,rfl⟩;have hli:=F.called_set.init.lookup;have hbi:=F.called_set.init.bind (.ref s.heap.objs.size)
   repeat (any_goals (first | assumption | wp_step))
   refine wj (codeAny_call_builtin (R:=wants (λr jI=>r = .none/\∃h' tk,jI = { s with heap:=h',toks:=tk }/\
     h'.get? s.heap.objs.size=some (fK (jS m n tm tn) (rJ m n) (qd m n (!dz w)))/\
     (∀b o,b<s.heap.objs.size->s.heap.get? b=some o->h'.get? b=some o)) E) F.called_set.init.plain F.entry_set_init (check_set_init_1 hT ?_)) λafK jI JA=>?_
   ·obtain⟨ol,rm,oU,nl,DU⟩:=hl;obtain⟨apV,afL,apW,afM⟩:=ol;simp only at oU DU;subst oU;subst DU;have afN:(s.heap.push (fK #[] 0 (.fresh 0 0 (!dz w)))).get? l=some { cls:=.type "list",dict:=afL,data:=.seq #[.int m tm,.int n tn] nl,slots:=afM }:=bW _ rm;have apX:=F.sub_list_set;have apY:=F.sub_list_frozenset;have fH:(Value.type "list" == Value.type "dict")=false:=by decide
    have V5:(s.heap.push (fK #[] 0 (.fresh 0 0 (!dz w)))).IsList l #[.int m tm,.int n tn]:=⟨_,afN,rfl,nl,rfl⟩;unfold Builtin.«set.__init__» noKeywords Builtin.Frozenset.updateFrom;generalize hPI:pyIter=PI;wp_walk;subst hPI;refine wz V5 ?_;refine aF (wpAny_runValue ?_);have Aj:l<s.heap.objs.size:=bK rm;have hh3:A.in1.in1.in1.handled=none:=by simp[hh]
    have hz:(s.heap.push (fK #[] 0 (.fresh 0 0 (!dz w)))).objs.size=s.heap.objs.size+1:=BL ..;have afO:l≠(s.heap.push (fK #[] 0 (.fresh 0 0 (!dz w)))).objs.size:=by rw[hz];exact b9 (B4 Aj)
    refine afF (l:=l) (I:=(s.heap.push (fK #[] 0 (.fresh 0 0 (!dz w)))).objs.size) (S:=s.heap.objs.size) hh3 hm hn afO (by rw[hz];exact b9 (B5 _)) (kG Aj)
     ⟨_,e_ _ rfl,rfl,rfl⟩ (V5.push _) (bW _ hS) λh' mV k' gn=>?_
    show wpAny _ _ _ _ _ _;refine aV ?_
    show wpAny _ _ (ret Value.none) _ _ _;refine aV ⟨rfl,h',mV,rfl,gn,λb o hb e=>?_⟩;exact k' b o (b9 hb) (by rw[hz];exact b9 (B4 hb)) (bW _ (bW _ e))
   ·cases afK with
    | error e=>exact JA
    | ok afP =>
     cases afP with
     | ret r =>
      obtain⟨rfl,h',tk,rfl,gn,kX⟩:=JA
      repeat (any_goals (first | assumption | wp_step))
      exact h _ _ gn kX
     | _=>exact JA.elim
  | _=>exact hr.elim
end
theorem xH:Slot "set_iterator" "__next__" "set_iterator.__next__" :=
 .of (owner := "set_iterator") (n := "__next__") (by rw[GP,GO];kernel_rfl) (by decide +kernel) (by decide +kernel) (by decide +kernel)
  (by first | exact .inl (by decide +kernel) | exact .inr (by decide +kernel)) (by rw[isSubtype_type];kernel_rfl)
theorem V6:entryFor table "set_iterator.__next__" = some Builtin.«set_iterator.__next__» := entryFor_of_tree (by kernel_rfl)
theorem V7:Manifest.owners.lookup (String.ofList ['r','o','t','a','r','e','t','i','_','t','e','s'].reverse)=some Manifest.sig_set_iterator:=by kernel_rfl
theorem V8(a:Value):argsOk "set_iterator.__next__" ⟨[a],[]⟩:=by
 unfold argsOk;rw[signature?_of (id := "set_iterator.__next__") (n:=['_','_','t','x','e','n','_','_']) (o:=['r','o','t','a','r','e','t','i','_','t','e','s']) (by kernel_rfl) V7];kernel_rfl
theorem V9:Slot "set_iterator" "__iter__" "set_iterator.__iter__" :=
 .of (owner := "set_iterator") (n := "__iter__") (by rw[GP,GO];kernel_rfl) (by decide +kernel) (by decide +kernel) (by decide +kernel)
  (by first | exact .inl (by decide +kernel) | exact .inr (by decide +kernel)) (by rw[isSubtype_type];kernel_rfl)
theorem afQ:entryFor table "set_iterator.__iter__" = some Builtin.«dict_keyiterator.__iter__» :=
 entryFor_alias (id' := "dict_keyiterator.__iter__") (by kernel_rfl) rfl (by decide +kernel) (by kernel_rfl)
theorem afR(a:Value):argsOk "set_iterator.__iter__" ⟨[a],[]⟩:=by
 unfold argsOk;rw[signature?_of (id := "set_iterator.__iter__") (n:=['_','_','r','e','t','i','_','_']) (o:=['r','o','t','a','r','e','t','i','_','t','e','s']) (by kernel_rfl) V7];kernel_rfl
theorem afS:entryFor table "set.__iter__" = some Builtin.«frozenset.__iter__» :=
 entryFor_alias (id' := "frozenset.__iter__") (by kernel_rfl) rfl (by decide +kernel) (by kernel_rfl)
theorem afT:typeLookup (.type "set") "__len__" = pure (some (.builtin "set.__len__")):=by rw[GP,GO];kernel_rfl
def qg(h:Heap)(it d:Addr)(slot i n ep:Nat):Prop:=∃o,h.get? it=some o/\o.cls = .type "set_iterator"/\o.data = .fields #[rawInt slot,rawInt i,.ref d,rawInt n,rawInt ep]
section
variable{prog:Program}{w:World}{A:Around}{E:Value->Shared->Prop}{s:Shared}{it d:Addr}{slot i n ep:Nat}{es:Array (Int×Value)}{t:SetTable}
theorem qg.typeIs(h:qg s.heap it d slot i n ep):s.TypeIs (.ref it) "set_iterator" := let ⟨o,h1,h2,_⟩:=h;⟨o,h1,h2⟩
theorem qg.at{h h':Heap}(x:qg h it d slot i n ep)(e:∀o,h.get? it=some o->h'.get? it=some o):qg h' it d slot i n ep:=let ⟨o,ho,r⟩:=x;⟨o,e _ ho,r⟩
theorem afU{Q:Value->Shared->Prop}(hit:qg s.heap it d slot i n ep)(h:Q (.ref it) s):wpAny (model prog w) A (pyIter (.ref it)) Q E s:=by
 refine wpAny_pyIter_slot hit.typeIs V9 (yQ V9 hit.typeIs afQ ?_ (afR _))
 show wpAny _ _ (ret (.ref it)) _ _ s;exact aV ⟨_,rfl, "set_iterator",_,hit.typeIs,xH.lookup,h⟩
theorem afV{Q:Value->Shared->Prop}(ho:s.heap.get? d=some (fK es ep t))(hf:t.fits es.size=true)(hp:t.plain=true)
  (q:Q (.ref s.heap.objs.size) { s with heap:=s.heap.push { cls:=.type "set_iterator",data:=.fields #[rawInt 0,rawInt 0,.ref d,rawInt es.size,rawInt ep] }}):wpAny (model prog w) A (pyIter (.ref d)) Q E s:=by
 have hT:s.TypeIs (.ref d) "set" := ⟨_,ho,rfl⟩;refine wpAny_pyIter_slot hT PySem.F.slot_set_iter (yQ PySem.F.slot_set_iter hT afS ?_ (PySem.F.args_set_iter_1 _));unfold Builtin.«frozenset.__iter__» Builtin.Frozenset.slot0 slotArgs;simp only[List.isEmpty_nil,Bool.not_true,Bool.false_eq_true,↓reduceIte,bind_assoc,List.length_nil,bne_self_eq_false];unfold Builtin.Frozenset.addrOf Builtin.Frozenset.sizeOf;refine aF (aV ?_)
 try dsimp only
 refine aF (aV ?_);refine aF (aF (GW ho rfl hf (aV ?_)));refine aF ?_;unfold setDrawn;refine aF (uE ho rfl hf ?_);dsimp only;unfold setsByText;refine aF (aF (sF (aV (aV ?_))));refine yR (λi_=>absurd i_ ?_) (λ_=>?_)
 ·show ¬ ((!dz w && (!t.plain && decide (es.size > 1)))=true);rw[hp];simp
 refine aF (aV (aF (wpAny_setEpoch_of ho rfl hf ?_)));unfold newFields;refine aF (wu (aV ⟨_,rfl, "set_iterator",_,⟨_,e_ _ rfl,rfl⟩,xH.lookup,?_⟩));exact q
noncomputable def jz(w:World)(d:Addr)(ep:Nat)(es:Array (Int×Value)):Array (Int×Value):=if dz w then pickOrder (w.params.setOrder d ep) es else es
noncomputable def slotAt(w:World)(t:SetTable)(i:Nat):Nat:=if dz w then 0 else if i=0 then 0 else t.place.getD (i - 1) 0+1
theorem afW(hf:t.fits es.size=true):t.place.size=es.size:=by
 simp only[SetTable.fits,Bool.and_eq_true,beq_iff_eq] at hf;exact hf.1
theorem afX{Q:Option (Value×Nat)->Shared->Prop}(ho:s.heap.get? d=some (fK es ep t))(hf:t.fits es.size=true)(hp:t.plain=true)(qh:t.led = !dz w)(lq:dz w=false->SetTable.below t.place (slotAt w t i)=i)
  (hi:i<es.size) {x:Int×Value} (hx:(jz w d ep es)[i]? = some x) (q:Q (some (x.2,slotAt w t (i+1))) s):wpAny (model prog w) A (setNext d (slotAt w t i) i ep) Q E s:=by
 unfold setNext;refine aF (uE ho rfl hf ?_);dsimp only;unfold setsByText;refine aF (aF (sF (aV ?_)))
 show wpAny _ _ (if dz w=true then _ else _) _ _ _
 cases hb:dz w with
 | true =>
  rw[if_pos rfl,if_neg (by simp)]
  refine aF ?_;unfold setWalk;refine aF (uE ho rfl hf ?_);dsimp only;unfold setsByText;refine aF (aF (sF (aV ?_)))
  show wpAny _ _ (if dz w=true then _ else _) _ _ _
  rw[hb,if_pos rfl];refine aF (sF (aV (aV ?_)));have tG:(pickOrder (w.params.setOrder d ep) es)[i]? = some x:=by unfold jz at hx;rw[hb,if_pos rfl] at hx;exact hx
  have e1:slotAt w t (i+1)=slotAt w t i:=by unfold slotAt;rw[hb];rfl
  show Q (((pickOrder (w.params.setOrder d ep) es)[i]?).map λe=>(e.2,slotAt w t i)) s;rw[tG,← e1];exact q
 | false =>
  rw[if_neg (by simp)]
  refine yR (λi_=>absurd i_ ?_) (λ_=>?_)
  ·show ¬ ((!t.plain && decide (es.size > 1))=true);rw[hp];simp
  refine aF ?_
  show wpAny _ _ (if (!t.led && !es.isEmpty)=true then unsupported _ else pure ()) _ _ _
  rw[if_neg (by rw[qh,hb];simp)]
  refine aV (aV ?_);have tG:es[i]? = some x:=by unfold jz at hx;rw[hb,if_neg (by simp)] at hx;exact hx
  have iJ:i<t.place.size:=by rw[afW hf];exact hi
  have e1:slotAt w t (i+1)=t.place[i] + 1:=by
   unfold slotAt;rw[hb,if_neg (by simp),if_neg ∅,Nat.add_sub_cancel]
   simp[iJ]
  rw[lq hb,tG,yC iJ];rw[e1] at q;exact q
theorem afY{Q:Option (Value×Nat)->Shared->Prop}(ho:s.heap.get? d=some (fK es ep t))(hf:t.fits es.size=true)(hp:t.plain=true)(qh:t.led = !dz w)(lq:dz w=false->SetTable.below t.place (slotAt w t es.size)=es.size)
  (hn:(jz w d ep es).size=es.size) (q:Q none s):wpAny (model prog w) A (setNext d (slotAt w t es.size) es.size ep) Q E s:=by
 unfold setNext;refine aF (uE ho rfl hf ?_);dsimp only;unfold setsByText;refine aF (aF (sF (aV ?_)))
 show wpAny _ _ (if dz w=true then _ else _) _ _ _
 cases hb:dz w with
 | true =>
  rw[if_pos rfl,if_neg (by simp)]
  refine aF ?_;unfold setWalk;refine aF (uE ho rfl hf ?_);dsimp only;unfold setsByText;refine aF (aF (sF (aV ?_)))
  show wpAny _ _ (if dz w=true then _ else _) _ _ _
  rw[hb,if_pos rfl];refine aF (sF (aV (aV ?_)));have tG:(pickOrder (w.params.setOrder d ep) es)[es.size]? = none:=by
   unfold jz at hn;rw[hb,if_pos rfl] at hn;rw[Array.getElem?_eq_none];lia
  show Q (((pickOrder (w.params.setOrder d ep) es)[es.size]?).map λe=>(e.2,slotAt w t es.size)) s;rw[tG];exact q
 | false =>
  rw[if_neg (by simp)]
  refine yR (λi_=>absurd i_ ?_) (λ_=>?_)
  ·show ¬ ((!t.plain && decide (es.size > 1))=true);rw[hp];simp
  refine aF ?_
  show wpAny _ _ (if (!t.led && !es.isEmpty)=true then unsupported _ else pure ()) _ _ _
  rw[if_neg (by rw[qh,hb];simp)]
  refine aV (aV ?_);rw[lq hb,Array.getElem?_eq_none (bu _)];exact q
theorem afZ{Q:Option Value->Shared->Prop}(hit:qg s.heap it d (slotAt w t i) i es.size ep)(ho:s.heap.get? d=some (fK es ep t))(hf:t.fits es.size=true)(hp:t.plain=true)(qh:t.led = !dz w)(lq:dz w=false->SetTable.below t.place (slotAt w t i)=i)
  (hi:i<es.size) {x:Int×Value} (hx:(jz w d ep es)[i]? = some x)
  (q:∀h',qg h' it d (slotAt w t (i+1)) (i+1) es.size ep->Heap.SameBut it s.heap h'->Q (some x.2) { s with heap:=h' }):wpAny (model prog w) A (pyNext (.ref it)) Q E s:=by
 obtain⟨o,xJ,hc,hd⟩:=id hit;unfold pyNext;refine aF (wpAny_attempt (wpAny_callSpecial?_slot (name:=Str.ofString "__next__") hit.typeIs xH
  (yQ xH hit.typeIs V6 ?_ (V8 _))))
 unfold Builtin.«set_iterator.__next__» slotArgs;simp only[List.isEmpty_nil,Bool.not_true,Bool.false_eq_true,↓reduceIte,bind_assoc,List.length_nil,bne_self_eq_false];refine aF (aV ?_);refine aF (wpAny_fieldsOf xJ hd ?_);dsimp only[rawInt];refine aF (GW ho rfl hf ?_);rw[if_neg (by simp)]
 simp only[Int.toNat_natCast];refine aF (afX ho hf hp qh lq hi hx ?_);dsimp only;refine aF (wpAny_setField xJ hd (by simp) ?_)
 have je:=qB (Obj.mapFields (·.setIfInBounds 0 (rawInt (slotAt w t (i+1):Int)))) xJ (Obj.isFreed_of_fields (B6 hd _));have tH:=B6 hd (·.setIfInBounds 0 (rawInt (slotAt w t (i+1):Int)));refine aF (wpAny_setField je tH (by simp) ?_)
 have lK:=qB (Obj.mapFields (·.setIfInBounds 1 (rawInt ((i:Int)+1)))) je (Obj.isFreed_of_fields (B6 tH _));have hd2:=B6 tH (·.setIfInBounds 1 (rawInt ((i:Int)+1)));refine aV ⟨_,rfl,aV (q _ ⟨_,lK,?_,?_⟩ ?_)⟩
 ·exact((Obj.cls_mapFields ..).trans (Obj.cls_mapFields ..)).trans hc
 ·rw[hd2];simp[rawInt]
 ·exact(yE ..).trans (yE ..)
theorem af0{Q:Option Value->Shared->Prop}(hh:A.handled=none)(hit:qg s.heap it d (slotAt w t es.size) es.size es.size ep)(ho:s.heap.get? d=some (fK es ep t))(hf:t.fits es.size=true)(hp:t.plain=true)(qh:t.led = !dz w)(lq:dz w=false->SetTable.below t.place (slotAt w t es.size)=es.size)
  (hn:(jz w d ep es).size=es.size) (q:∀h',Heap.ExtBut it s.heap h'->Q none { s with heap:=h' }):wpAny (model prog w) A (pyNext (.ref it)) Q E s:=by
 obtain⟨o,xJ,hc,hd⟩:=id hit;unfold pyNext;refine aF (wpAny_attempt (wpAny_callSpecial?_slot (name:=Str.ofString "__next__") hit.typeIs xH
  (yQ xH hit.typeIs V6 ?_ (V8 _))))
 unfold Builtin.«set_iterator.__next__» slotArgs;simp only[List.isEmpty_nil,Bool.not_true,Bool.false_eq_true,↓reduceIte,bind_assoc,List.length_nil,bne_self_eq_false];refine aF (aV ?_);refine aF (wpAny_fieldsOf xJ hd ?_);dsimp only[rawInt];refine aF (GW ho rfl hf ?_);rw[if_neg (by simp)]
 simp only[Int.toNat_natCast];refine aF (afY ho hf hp qh lq hn ?_);dsimp only;refine aF (wpAny_setField xJ hd (by simp) ?_)
 refine aF ?_;simp only[newExc,newTuple];refine aF (wu ?_ (by size_fits))
 refine aF (m:=firstArgMember _ _) (Cc (a:=Value.none) (by first | rfl | (simp only[firstArgMember];rfl)) ?_)
 refine wu ?_ (by size_fits)
 simp only[raiseNew];refine aF (wpAny_handled ?_);rw[show A.in1.handled=none from hh];refine aF (aV (wpAny_throw ?_));refine aF (GU (T := "StopIteration") (b:=true) ⟨_,e_ _ rfl,rfl⟩ isSubtype_stop ?_);exact aV (q _ (((yE ..).extBut.push _).push _))
structure Al(w:World)(d:Addr)(es:Array (Int×Value))(ep:Nat)(t:SetTable):Prop where
 hf:t.fits es.size=true
 hp:t.plain=true
 qh:t.led = !dz w
 lq:dz w=false->∀i,i<=es.size->SetTable.below t.place (slotAt w t i)=i
 hn:(jz w d ep es).size=es.size
theorem af1(hh:A.handled=none)(I:Addr)(fH:d≠I)(ok:Al w d es ep t):Walks prog w A I [I,d] [I] es.size (λi v=>∃e,(jz w d ep es)[i]? = some e/\v=e.2) (λi h=>qg h I d (slotAt w t i) i es.size ep/\h.get? d=some (fK es ep t)) where
 sub:=λb hb=>by simp at hb;simp[hb]
 frame:=λ_ _ _ st hk=>⟨st.1.at λo e=>hk I (by simp) o e,hk d (by simp) _ st.2⟩
 item:=λi s Q E hi st hQ=>by
  have f_:i<(jz w d ep es).size:=by rw[ok.hn];exact hi
  exact afZ st.1 st.2 ok.hf ok.hp ok.qh (λhb=>ok.lq hb i (kF hi)) hi (yC f_) λh' Dc jt=>hQ _ h' s.toks ⟨_,yC f_,rfl⟩ ⟨Dc,jt.extBut d _ fH st.2⟩ λb o hb e=>jt.extBut b o (λh=>hb (by simp[h])) e
 done:=λs Q E st hQ=>af0 hh st.1 st.2 ok.hf ok.hp ok.qh (λhb=>ok.lq hb _ (bu _)) ok.hn λh' De=>hQ h' s.toks λb o hb e=>De b o (λh=>hb (by simp[h])) e
 self:=λ_ _ _ _ st hQ=>afU st.1 hQ
theorem af2{Q:Bool->Shared->Prop}(hT:s.TypeIs (.ref d) "set")(h:Q false s):wpAny (model prog w) A (Builtin.List.listLengthHint (.ref d)) Q E s:=by
 unfold Builtin.List.listLengthHint;refine aF (Cd hT afT ?_);generalize V_:("set.__len__" : String)=id0
 wp_delta
 rw[show splitId id0=some ("set", "__len__") from by subst V_;decide +kernel]
 subst V_;refine aF (GU (T := "set") (b:=true) hT (by rw[isSubtype_type];kernel_rfl) ?_)
 refine yR (λi_=>absurd i_ ⋯) (λ_=>?_)
 refine yR (λ_=>?_) (λi_=>absurd (by decide +kernel) i_)
 refine aF (Ce hT ?_);exact aV h
theorem af3(ok:Al w d es ep t):PySem.W.KdlSrc prog w "set" d d es.size (λi v=>∃e,(jz w d ep es)[i]? = some e/\v=e.2) (λh=>h.get? d=some (fK es ep t)) where
 type:=λ_ hm=>⟨_,hm,rfl⟩
 there:=λ_ hm=>⟨bK hm,bK hm⟩
 keep:=λ_ _ hm hk=>hk d (.inl rfl) _ hm
 notList:=by decide
 notTuple:=by decide
 hint:=λ_ _ _ _ hm hq=>af2 ⟨_,hm,rfl⟩ hq
 iter:=λ_ s hh hm=>⟨_,_,(λ_ _ hq=>afV hm ok.hf ok.hp hq),af1 hh _ (Nat.ne_of_lt (Heap.lt_size hm)) ok,⟨⟨_,Heap.get?_push_size _ rfl,rfl,by unfold slotAt;cases dz w <;> rfl⟩,Heap.get?_push_of_some _ hm⟩⟩
theorem af4{S:Addr}{R:Result->Shared->Prop}(hh:A.handled=none)(ok:Al w d es ep t)(hd:s.heap.get? d=some (fK es ep t))(hn:es.size<=4)(fH:S≠d)(hS:s.heap.get? S=some { cls:=.type "list",data:=.seq #[] })
  (hR:∀(h':Heap) (tk:Nat) (acc:Array Value) (c:Nat),(∀b o,b≠S->s.heap.get? b=some o->h'.get? b=some o)->h'.get? S=some { cls:=.type "list",dict:=none,data:=.seq acc c,slots := #[] }->acc.toList=(jz w d ep es).toList.map (·.2)->R (.ok (.ret (.ref S))) { s with heap:=h',toks:=tk }) :
  codeAny (model prog w) A (.builtin "list.__iadd__" ⟨[.ref S,.ref d],[]⟩) R s:=by
 refine iD PySem.F.entry_list_iadd ?_;rw[iV B9 _];refine PySem.W.kdl_extend (af3 ok) hh hd S fH fH (.ref S) 0 hS (λh' tk acc c hk hS jM=>hR h' tk acc c hk hS ?_) (by rw[pL];lia)
 refine List.ext_getElem? λi=>?_
 have hsz:=jM.1;have uQ:=ok.hn;by_cases hi:i<es.size
 ·have f_:i<acc.size:=by rw[hsz];exact hi
  obtain⟨e,e1,e2⟩:=jM.2 i acc[i] (yC f_);rw[BH,yC f_,gR,BH,e1,e2];rfl
 ·rw[uv (by rw[BI];lia),uv (by rw[aK,BI];lia)]
theorem af5{Q:List Value->Shared->Prop}(hh:A.handled=none)(ok:Al w d es ep t)(hd:s.heap.get? d=some (fK es ep t))(hn:es.size<=4)
  (hQ:∀(h':Heap) (tk:Nat) (vs:List Value),(∀b o,s.heap.get? b=some o->h'.get? b=some o)->s.heap.objs.size<h'.objs.size->vs=((jz w d ep es).toList.map (·.2))->Q vs { s with heap:=h',toks:=tk }) :
  wpAny (model prog w) A (collect (.ref d)) Q E s:=by
 unfold collect;refine aF (wpAny_runValue (iD RM ?_));rw[iV RN _];show wpAny _ A.in1 (newList [] >>= λl=>again (.builtin "list.__iadd__" ⟨[l,.ref d],[]⟩)) _ _ s;have DU:d<s.heap.objs.size:=bK hd;refine aF (wu (aV ⟨iY B9 _,af4 hh ok (bW _ hd) hn (kG DU) (e_ _ rfl) λh' tk acc c hk hS jM=>?_⟩))
 show wpAny _ A (load s.heap.objs.size >>= _) _ _ _;exact aF (wpAny_load hS (aV (hQ h' tk acc.toList (λb o e=>hk b o (b9 (bK e)) (bW _ e)) (bK hS) jM)))
end
theorem Wa{α:Type}(next:Nat->Nat):∀(fuel k:Nat) (left:List α) (out:Array α),left.length=fuel->(pickOrder.go next fuel k left out).toList.Perm (out.toList++left)
 | 0,k,left,out,h=>by
  rw[Gy.mp h,pF];exact .refl _
 | fuel+1,k,left,out,h=>by
  have hj:next k % left.length<left.length:=Nat.mod_lt _ ∅
  unfold pickOrder.go;rw[bx hj];dsimp only;refine(Wa next fuel (k+1) (left.eraseIdx (next k % left.length)) _ (by rw[Gz,if_pos hj];lia)).trans ?_
  rw[Array.toList_push,qD];refine List.Perm.append_left _ ?_;generalize next k % left.length=j at hj;rw[List.singleton_append,List.eraseIdx_eq_take_drop_succ];refine(List.perm_middle (a:=left[j]) (l₁:=left.take j) (l₂:=left.drop (j+1))).symm.trans ?_;rw[← BQ hj,uw]
section
variable{prog:Program}{w:World}{A:Around}{E:Value->Shared->Prop}{s:Shared}{d:Addr}{ep m n:Nat}{es:Array (Int×Value)}{tm tn:Tok}
theorem Wb:(jz w d ep es).toList.Perm es.toList:=by
 unfold jz;split
 ·exact Wa _ _ _ _ _ (by simp)
 ·exact .refl _
theorem below_1(a:Nat):SetTable.below #[a] 0=0/\SetTable.below #[a] (a+1)=1:=by
 constructor <;> simp[SetTable.below,SetTable.below.go]
theorem below_2{a b:Nat}(h:a<b):SetTable.below #[a,b] 0=0/\SetTable.below #[a,b] (a+1)=1/\SetTable.below #[a,b] (b+1)=2:=by
 refine⟨?_,?_,?_⟩
 ·simp[SetTable.below,SetTable.below.go]
 ·simp[SetTable.below,SetTable.below.go,show ¬ b<a+1 by lia]
 ·simp[SetTable.below,SetTable.below.go]
theorem af6(hm:m<48)(hn:n<48)(ne:m≠n)(led:Bool):∃a b,a<b/\(T2 m n led).place = #[a,b]:=by
 obtain⟨_,_,c⟩:=Dz ⟨m,hm⟩ ⟨n,hn⟩ led (λz=>ne (by simpa using z))
 have c:m_ m n≠m % 8:=c;unfold T2;dsimp only;split
 ·exact⟨_,_,by assumption,rfl⟩
 ·exact⟨_,_,∅,rfl⟩
theorem JC{y x:Value}:(kR m n y x).size=2:=by unfold kR;split <;> rfl
theorem af7(hm:m<48)(hn:n<48):Al w d (jS m n tm tn) (rJ m n) (qd m n (!dz w)):=by
 have hsz:∀ {es:Array (Int×Value)} {ep:Nat},(jz w d ep es).size=es.size:=λ{es ep}=>by
  have:=(Wb (w:=w) (d:=d) (ep:=ep) (es:=es)).length_eq;simpa using this
 by_cases e:m=n
 ·have e1:jS m n tm tn = #[((m:Int),.int m tm)]:=if_pos e;have e2:qd m n (!dz w)=T1 m (!dz w):=if_pos e;rw[e1,e2];refine⟨rfl,rfl,rfl,λhb i hi=>?_,hsz⟩;have:i=0\/i=1:=by simp at hi;lia
  unfold slotAt;rw[hb];rcases this with rfl | rfl
  ·exact(below_1 _).1
  ·exact(below_1 _).2
 ·have e1:jS m n tm tn=kR m n (.int m tm) (.int n tn):=if_neg e;have e2:qd m n (!dz w)=T2 m n (!dz w):=if_neg e;rw[e1,e2];obtain⟨a,b,i_,hp⟩:=af6 hm hn e (!dz w);refine⟨?_,rfl,rfl,λhb i hi=>?_,hsz⟩
  ·rw[JC];unfold SetTable.fits SetTable.fill;rw[hp];rfl
  ·rw[JC] at hi;have:i=0\/i=1\/i=2:=by lia
   unfold slotAt;rw[hp,hb];rcases this with rfl | rfl | rfl
   ·exact(below_2 i_).1
   ·exact(below_2 i_).2.1
   ·exact(below_2 i_).2.2
noncomputable def nh(m n:Nat):List Int:=if m=n then [(m:Int)] else [(m:Int),(n:Int)]
theorem JD:∀ {vs ws:List Value},vs.Perm ws->∀ {ns:List Int},IntsAre ws ns->∃eT,IntsAre vs eT/\eT.Perm ns:=by
 intro vs ws h
 induction h with
 | nil=>intro ns hi;exact⟨ns,hi,.refl _⟩
 | cons x _ ih =>
  intro ns hi;cases hi with
  | cons _ _ hi =>
   obtain⟨eT,a,b⟩:=ih hi;exact⟨_,.cons _ _ a,b.cons _⟩
 | swap x y l =>
  intro ns hi;cases hi with
  | cons _ _ hi =>
   cases hi with
   | cons _ _ hi=>exact⟨_,.cons _ _ (.cons _ _ hi),.swap ..⟩
 | trans _ _ ih1 ih2 =>
  intro ns hi;obtain⟨n2,a,b⟩:=ih2 hi;obtain⟨n1,c,e⟩:=ih1 a;exact⟨n1,c,e.trans b⟩
theorem af8:∃ns,IntsAre ((jz w d ep (jS m n tm tn)).toList.map (·.2)) ns/\ns.Perm (nh m n):=by
 have p:=(Wb (w:=w) (d:=d) (ep:=ep) (es:=jS m n tm tn)).map (·.2);by_cases e:m=n
 ·have e1:jS m n tm tn = #[((m:Int),.int m tm)]:=if_pos e;rw[e1] at p ⊢;obtain⟨ns,a,b⟩:=JD p (ns:=[(m:Int)]) (.cons _ _ .nil);exact⟨ns,a,by rw[show nh m n = [(m:Int)] from if_pos e];exact b⟩
 ·have e1:jS m n tm tn=kR m n (.int m tm) (.int n tn):=if_neg e;rw[e1] at p ⊢;rw[show nh m n = [(m:Int),(n:Int)] from if_neg e];unfold kR at p ⊢;split at p
  ·rename_i h;rw[if_pos h];obtain⟨ns,a,b⟩:=JD p (ns:=[(n:Int),(m:Int)]) (.cons _ _ (.cons _ _ .nil));exact⟨ns,a,b.trans (.swap ..)⟩
  ·rename_i h;rw[if_neg h];exact JD p (ns:=[(m:Int),(n:Int)]) (.cons _ _ (.cons _ _ .nil))
theorem af9{Q:Value->Shared->Prop}(hh:A.handled=none)(hm:m<48)(hn:n<48)(hd:s.heap.get? d=some (fK (jS m n tm tn) (rJ m n) (qd m n (!dz w))))
  (h:∀(L:Addr) (h':Heap) (tk:Nat) (out:Array Value) (eT:List Int) (e:Nat),s.heap.objs.size<=L->h'.get? L=some (seqObj "list" out e)->(∀b o,s.heap.get? b=some o->h'.get? b=some o)->IntsAre out.toList eT->eT.Perm (nh m n)->eT.Pairwise (·<=·)->Q (.ref L) { s with heap:=h',toks:=tk }) :
  wpAny (model prog w) A (call (.builtin "sorted") [.ref d]) Q E s:=by
 refine Calls.call_function_entry kind_sorted plain_sorted entry_sorted (args_sorted1 _) ?_;unfold Builtin.«sorted»;refine aF (m:=checkCount "sorted" 1 1 _) (aV ?_);have hsz:(jS m n tm tn).size<=2:=by
  unfold jS;split
  ·simp
  ·rw[JC];exact bu _
 refine aF (af5 hh (af7 hm hn) hd (dQ hsz ⋯) λh1 t1 vs k1 z1 ev=>?_)
 obtain⟨ns,hi,hp⟩:=af8 (w:=w) (d:=d) (ep:=rJ m n) (m:=m) (n:=n) (tm:=tm) (tn:=tn);rw[← ev] at hi;have hl:vs.length=ns.length:=hi.length;have oA:ns.length<=2:=by
  rw[hp.length_eq];unfold nh;split <;> simp
 refine aF (Cb ?_ (by rw[pL];lia))
 have uJ:(h1.push (seqObj "list" vs.toArray 0)).get? h1.objs.size=some (seqObj "list" vs.toArray 0):=e_ _ rfl
 show wpAny _ _ _ _ _ { s with heap:=h1.push (seqObj "list" vs.toArray 0),toks:=t1 };refine aF (jg (yQ slot_list_sort ⟨_,uJ,rfl⟩ entry_list_sort (list_sort_tree uJ hi ∅ λout eT a1 a2 a3=>⟨_,rfl,?_⟩) (args_list_sort _)))
 obtain⟨e,he⟩:=sortedHeap_at (out:=out) uJ;refine aV ⟨_,rfl,h h1.objs.size _ _ out eT e (kF z1) he (λb o q=>?_) a1 (a2.trans hp) a3⟩;have q1:=k1 b o q;have hb:=bK q1;rw[sortedHeap_old (b9 hb) (by rw[size_push'];exact B4 hb)]
 exact bW _ q1
end
section
variable{X:Cx}{e:Expr}{tl:TE}{p1 p2 p3 p4:Pos}
def Wc(K:W.Frag)(tl:TE):TE:=λσ H Q=>tl σ H λx H1=>∃(l:Addr) (m n:Nat),x = .ref l/\aE K H1 l [.int (m:Int),.int (n:Int)]/\m<48/\n<48/\
 ∀(L:Addr) (ns:List Int),H1 L=none->ns.Perm (nh m n)->ns.Pairwise (·<=·)->Q (.ref L) (upd H1 L (.lst (ns.map V.int)))
theorem af_(Jh:Gl X "sorted")(Ji:X.mg "sorted" = none)(hgT:Gl X "set")(hmT:X.mg "set" = none)(hc:X.calm=true)(hl:PE X e tl)
  (hs:starEach [e] X.env = [(false,eval e X.env)]:=by rfl) (kY:starEach [.Call (.Name "set" p2) [e] [] p3] X.env = [(false,eval (.Call (.Name "set" p2) [e] [] p3) X.env)]:=by rfl) :
  PE X (.Call (.Name "sorted" p1) [.Call (.Name "set" p2) [e] [] p3] [] p4) (Wc X.K tl):=by
 intro pins s σ H Q I h;refine uB (mF I Jh Ji boot_sorted (RL ?_ (by rw[kY];rfl) (by rfl)))
 rw[kY];refine rX ?_
 let R:List V->Hp->Prop:=λvs H1=>match vs with
  | [x]=>∃(l:Addr) (m n:Nat),x = .ref l/\aE X.K H1 l [.int (m:Int),.int (n:Int)]/\m<48/\n<48/\∀(L:Addr) (ns:List Int),H1 L=none->ns.Perm (nh m n)->ns.Pairwise (·<=·)->Q (.ref L) (upd H1 L (.lst (ns.map V.int)))
  | _=>False
 have h':Hu tl zq σ H R:=h;refine Call_ (mF I hgT hmT (show bootBuiltins "set" = some (.type "set") by decide +kernel) (su (aO ((ao hl au (hs:=hs)) p3 pins s σ H R I h') λus s1 ⟨vs,H1,I1,r1,q1⟩=>?_) (by rw[hs];rfl) (by rfl)))
 cases r1 with
 | nil=>exact q1.elim
 | cons ru r1 =>
 cases r1 with
 | cons _ _=>exact q1.elim
 | nil =>
 obtain⟨l,m,n,rfl,hq,hm,hn,q⟩:=q1;cases ru;obtain⟨its,rv,pl,_⟩:=I1.list hq;cases rv with
 | cons w1 rv =>
 cases rv with
 | cons w2 rv =>
 cases rv;obtain⟨tm,rfl⟩:=w1;obtain⟨tn,rfl⟩:=w2;have hh:=I1.ok.hd hc;refine afJ hh hm hn pl.isList λh2 t2 lU k2=>um ?_;have kp2:∀b o,s1.heap.get? b=some o->h2.get? b=some o:=λb o e=>k2 b o (bK e) e;refine af9 (s:={ s1 with heap:=h2,toks:=t2 }) hh hm hn lU λL h3 t3 out eT e' hL uJ k3 a1 a2 a3=>?_;have bM:s1.heap.objs.size<=L:=dQ (kF (bK lU)) hL;have tD:H1 L=none:=I1.aL.fresh bM;refine⟨.ref L,upd H1 L (.lst (eT.map V.int)),I1.laid (t':=t3) (λb o q=>k3 b o (kp2 b o q)) bM ?_,rfl,q L eT tD a2 a3⟩;refine⟨?_,out.toList,e',zI a1,by simpa using uJ⟩
 rw[aK,a2.length_eq];unfold nh;split <;> (rw[pL];simp)
end
section
variable{X:Cx}{C:Addr}{x:Str}{p pos:Pos}
end
section
variable{X:Cx}{CX:jq}{k1 k2:Nat}{f1 f2:Addr}{cs1 cs2:List Addr}{DV DW:FuncData}{ps1 DX:List Str}{Am Wd:Sp}{E:XK}{m:Str}{pos apos:Pos}{o e:Expr}{es:List Expr}{ta:TE}{t:TA}
end
noncomputable def kC(ns:List Int)(k:Int):Int:=Ih ns k+1009*k
noncomputable def bf(c t m:Int):Int:=(c+7)*(1327217885+715225739*t*t) % 2147483629 % m
theorem dH(c t:Int){m:Int}(h:0<m):0<=bf c t m/\bf c t m<m:=⟨nX _ ∅,pD _ h⟩
def eU(K:W.Frag):Sp:=λvs H Q _=>∃(a:Addr) (ns:List Int) (k:Int),vs = [.ref a,.int k]/\aE K H a (ns.map V.int)/\ns.length<=63/\0<=k/\k<=1000/\Q (.int (kC ns k)) H
def bU:Sp:=λvs H Q _=>∃(c t m:Int),vs = [.int c,.int t,.int m]/\0<=t/\t<=1000/\0<m/\Q (.int (bf c t m)) H
noncomputable def jT(c s0:Int):Nat->Int
 | 0=>s0
 | i+1=>jT c s0 i - bf c (24+(1+(i:Int))) (jT c s0 i / 2+1)
theorem We(c:Int){s0:Int}(h:1<=s0):∀i,0<=jT c s0 i/\jT c s0 (i+1)<=jT c s0 i:=by
 have h0:∀i,0<=jT c s0 i:=λi=>by
  induction i with
  | zero=>simp only[jT];lia
  | succ i ih =>
   rw[jT];have:=(dH c (24+(1+(i:Int))) (m:=jT c s0 i / 2+1) ∅).2
   lia
 intro i;refine⟨h0 i,?_⟩;have:=h0 i;rw[jT];have:=(dH c (24+(1+(i:Int))) (m:=jT c s0 i / 2+1) ∅).1
 lia
def aga(K:W.Frag):Sp:=λvs H Q _=>∃(c m:Int),vs = [.int c,.int m]/\2<=m/\m<=60/\∀l sw H',aq H H'->H l=none->H' l=some (.lst (sw.map V.int))->SwOk sw m->Q (.ref l) H'
def agb(K:W.Frag):Sp:=λvs H Q _=>∃(c:Int),vs = [.int c]/\∀l ts z H',aq H H'->H l=none->Zn H' l ts z->ZL z->Q (.ref l) H'
def agc(K:W.Frag):Sp:=λvs H Q _=>∃(ca:Addr) (c s:Int) (rc:List Int),vs = [.int c,.ref ca,.int s]/\H ca=some (.lst (rc.map V.int))/\1<=rc.length/\rc.length<=100/\0<=s/\s<=1000/\(∀i:Nat,i<rc.length->1<=rc.getD i 0/\rc.getD i 0<=1000)/\
 ∀(l:Addr) (ts:List Addr) (bz:List (Int×Int)) (H':Hp),aq H H'->H l=none->bz.Nodup->(∀q∈bz,0<=q.1/\q.1<rc.length/\0<=q.2/\q.2<rc.getD q.1.toNat 0)->bz.length<=6->bz.length<=s.toNat*rc.length->Zn H' l ts bz->Q (.ref l) H'
theorem ZP.zl5{z:List (Int×Int)}(h:ZP z)(h1:1<=z.length)(h5:z.length<=5):ZL z:=by
 have s:=VW λp hp=>⟨(h.r p hp).1,(h.r p hp).2.1⟩;have s2:=h.s2;refine⟨⟨h1,∅,λp hp=>?_,s2,∅⟩,?_,∅⟩
 ·have:=h.r p hp;lia
 ·have b:=(Dj (m:=8) ⋯ z λp hp=>(h.r p hp).2.2).2
  have:=UW (m:=8) ⋯ h5
  have e:(8:Int) ^ 5=32768:=by decide
  lia
theorem agd{a b:Int}(a0:2<=a)(a1:a<=3)(b0:1<=b)(b1:b<=60):ZL [(a,b)]:=by
 refine⟨⟨by simp,by simp,?_,?_,?_⟩,?_,?_⟩
 ·intro p hp;rw[cj.mp hp];dsimp only;lia
 ·simp;lia
 ·simp;lia
 ·rw[Im];simp[fj];lia
 ·simp;lia
section
variable{ta:TA}{g:TG}{tb:TS}{D:Ends}{σ:St}{H:Hp}
noncomputable def DY(j:Int)(g:TG)(tb:TS)(D:Ends)(σ:St)(H:Hp):Prop := -(2 ^ 62)<=j/\j<2 ^ 62/\∃W:Nat->Nat->St->Hp->Prop,(∃m,W 0 m σ H)/\∀i m σ H,W i m σ H->
 ((pW 0 j.toNat).stop i H/\D.nx σ H)\/((pW 0 j.toNat).go i H/\∃N:St->Hp->Prop,(∀bq H',N bq H'->∃m',m' < m/\W (i+1) m' bq H')/\∀x H',(pW 0 j.toNat).pT i H x H'->g x σ H' λaA H2=>tb { D with nx:=N,ct:=N,bk:=D.nx } aA H2)
theorem rrG(h:ta σ H λvs H1=>∃j:Int,vs = [.int j]/\DY j g tb D σ H1):j6 (wJ ta) g tb D σ H:=h
theorem DY.by(n:Int)(Pv:Nat->St->Hp->Prop)(zO : -1000000000000<n)(hn:n<1000000000000)(h0:Pv 0 σ H)
  (hs:∀i σ H (N:St->Hp->Prop),(∀σ H,Pv (i+1) σ H->N σ H)->i<n.toNat->Pv i σ H->g (.int (i:Int)) σ H λaA H2=>tb { D with nx:=N,ct:=N,bk:=D.nx } aA H2) (hd:∀σ H,Pv n.toNat σ H->D.nx σ H):DY n g tb D σ H:=by
 have h:=u_ (ta:=λ_ H Q=>Q [.int n] H) (g:=g) (tb:=tb) (D:=D) (σ:=σ) (H:=H) n Pv (λQ q=>q) zO hn h0 hs hd;obtain⟨j,e,h⟩:=h;cases e;exact h
end
structure ni(H:Hp)(t:Addr)(q:Ak)(m b:Addr):Prop where
 o:H t=some (.tup [.str q.kind,.int q.first,.int q.many,.ref m,.int q.at_,.int q.bB,mW q.oM,.ref b,.bl q.early])
 ms:H m=some (.tup (q.marks.map V.int))
 bh:H b=some (.tup (q.behind.map V.int))
theorem ni.same{H H':Hp}{t:Addr}{q:Ak}{m b:Addr}(h:ni H t q m b)(s:aq H H'):ni H' t q m b:=⟨s _ _ h.o,s _ _ h.ms,s _ _ h.bh⟩
structure iz(H:Hp)(l:Addr)(ts:List Addr)(qs:List Ak):Prop where
 l:H l=some (.lst (ts.map V.ref))
 n:ts.length=qs.length
 t:∀(i:Nat) (t:Addr) (q:Ak),ts[i]? = some t->qs[i]? = some q->∃m b,ni H t q m b
theorem iz.same{H H':Hp}{l:Addr}{ts:List Addr}{qs:List Ak}(h:iz H l ts qs)(s:aq H H'):iz H' l ts qs :=
 ⟨s _ _ h.l,h.n,λi t q e1 e2=>let ⟨m,b,a⟩:=h.t i t q e1 e2;⟨m,b,a.same s⟩⟩
theorem age{m n:Nat}{ns:List Int}(hm:m<48)(hn:n<48)(p:ns.Perm (nh m n))(s:ns.Pairwise (·<=·)):kZ ns:=by
 have nd:ns.Nodup:=p.nodup_iff.mpr (by
  unfold nh;split
  ·simp
  ·simp;lia)
 have mem:∀x∈ns,0<=x/\x<=99:=λx hx=>by
  have:=p.mem_iff.mp hx;unfold nh at this;split at this <;> simp at this <;> lia
 refine⟨?_,λx hx=>(mem x hx).1,λx hx=>(mem x hx).2⟩;have nd:=pJ.mp nd;exact(s.and nd).imp λ⟨h1,h2⟩=>by lia
def agf(K:W.Frag):Sp:=λvs H Q _=>∃(c:Int) (l:Addr) (ts:List Addr) (qs:List Ak),vs = [.int c,.ref l]/\iz H l ts qs/\qs.length<=42/\
 ∀b ns H',aq H H'->H b=none->H' b=some (.tup (ns.map V.int))->kZ ns->Q (.ref b) H'
structure rL(total:Int)(q:Ak):Prop where
 k:q.kind = "rest"\/q.kind = "read"\/q.kind = "write"
 r:q.kind = "rest"->q=⟨"rest",0,0,[],q.at_,0,none,[],false⟩
 f0:q.kind≠"rest"->0<=q.first/\1<=q.many/\q.many<=16/\q.first+q.many<=total
 a0:0<=q.at_
 s0:0<=q.bB/\q.bB<=20
 l0:∀x,q.oM=some x->0<=x/\x<=10000000000000
 b0:kZ q.behind
 m0:∀x∈q.marks,0<=x/\x<=1000000000
 mr:q.kind = "read"->q.marks = []/\q.early=false
 mw:q.kind = "write"->(q.marks.length:Int)=q.many
structure xK(H:Hp)(t:Addr)(rc:List Int)(aG sk:Int)(sw:List Int)(ca sa na:Addr)(gO:List Addr)(nc:List (Int×Int)):Prop where
 o:H t=some (.tup [.ref ca,.int aG,.int sk,.ref sa,.ref na])
 c:H ca=some (.lst (rc.map V.int))
 s:H sa=some (.lst (sw.map V.int))
 n:Zn H na gO nc
theorem xK.same{H H':Hp}{t:Addr}{rc:List Int}{aG sk:Int}{sw:List Int}{ca sa na:Addr}{gO:List Addr}{nc:List (Int×Int)}(h:xK H t rc aG sk sw ca sa na gO nc)(s:aq H H'):xK H' t rc aG sk sw ca sa na gO nc:=⟨s _ _ h.o,s _ _ h.c,s _ _ h.s,h.n.same s⟩
def agg(K:W.Frag)(C:Addr):Sp:=λvs H Q _=>∃(t:Addr) (q:Ak) (m b:Addr) (total:Int),vs = [.ref t]/\ni H t q m b/\rL total q/\total<=1000000/\q.at_<=1000000000000/\
 ∀p mk bb dx H',aq H H'->H p=none->fJ K C H' p q mk bb dx->Q (.ref p) H'
def agh(K:W.Frag)(C:Addr):Sp:=λvs H Q _=>∃(f a s:Int) (ma:Addr) (ms:List Int) (l:Option Int) (bv:V) (ns:List Int) (e:Bool),vs = [.int f,.ref ma,.int a,.int s,mW l,bv,.bl e]/\H ma=some (.tup (ms.map V.int))/\(∀x∈ms,0<=x/\x<=1000000000)/\
 Dp f ms.length a s l/\IL K H bv ns/\kZ ns/\∀p mk b dx H',aq H H'->H p=none->fJ K C H' p ⟨"write",f,ms.length,ms,a,s,l,ns,e⟩ mk b dx->Q (.ref p) H'
theorem ni.iK{H:Hp}{l t:Addr}{xs ys:List V}{q:Ak}{m b:Addr}(hl:H l=some (.lst xs))(h:ni H t q m b):ni (upd H l (.lst ys)) t q m b:=by
 have ne:∀ {a:Addr} {us:List V},H a=some (.tup us)->a≠l:=λe z=>by rw[z,hl] at e;cases e
 exact⟨(aB (ne h.o)).trans h.o,(aB (ne h.ms)).trans h.ms,(aB (ne h.bh)).trans h.bh⟩
theorem iz.start{H:Hp}{l:Addr}:iz (upd H l (.lst [])) l [] []:=⟨aD,rfl,λi t q e=>by simp at e⟩
theorem iz.snoc{H:Hp}{l t:Addr}{ts:List Addr}{qs:List Ak}{q:Ak}{m b:Addr}(h:iz H l ts qs)(ht:ni H t q m b):iz (upd H l (.lst (ts.map V.ref++[V.ref t]))) l (ts++[t]) (qs++[q]):=by
 refine⟨by rw[aD,bO];rfl,by simp[h.n],λi t' q' e1 e2=>?_⟩
 have hn:=h.n;by_cases hi:i<ts.length
 ·rw[gw hi] at e1;rw[gw ∅] at e2
  obtain⟨m',b',a⟩:=h.t i t' q' e1 e2;exact⟨m',b',a.iK h.l⟩
 ·rw[gz ∅] at e1
  rw[gz ∅] at e2
  have f_:i - ts.length=0:=by
   have:=(fD.mp e1).1;simp at this;lia
  rw[f_] at e1;rw[← hn,f_] at e2;simp at e1 e2;subst e1 e2;exact⟨m,b,ht.iK h.l⟩
structure agi(K:W.Frag)(CA CD:Addr)(H:Hp)(D t:Addr)(p:Dr)(tk d m b dx ap l:Addr)(ts:List Addr)(m' b' dw:Addr):Prop where
 o:H t=some (.tup [.int p.n,.ref tk,.ref d])
 k:ni H tk p.q m b
 d:lT K CA CD H d p dx ap l ts m' b' dw
 ne:l≠D
structure qi(K:W.Frag)(CA CD:Addr)(H:Hp)(D D':Addr)(ts:List Addr)(ps:List Dr):Prop where
 l:H D' = some (.lst (ts.map V.ref))
 n:ts.length=ps.length
 t:∀(i:Nat) (t:Addr) (p:Dr),ts[i]? = some t->ps[i]? = some p->∃tk d m b dx ap l ts m' b' dw,agi K CA CD H D t p tk d m b dx ap l ts m' b' dw
section
variable{K:W.Frag}{CA CD:Addr}{H H':Hp}{D D' t:Addr}{ts:List Addr}{ps:List Dr}{p:Dr}
end
theorem Wf(bz:List (Int×Int)):∀(z1 z2:List (Int×Int)) (i:Nat),cV bz i (z1++z2)=cV bz i z1++cV bz (i+z1.length) z2
 | [],z2,i=>by simp[cV]
 | q::z1,z2,i=>by
  rw[ur,cV,cV,Wf bz z1 z2 (i+1),gA,show i+1+z1.length=i+(z1.length+1) by lia]
  split
  ·rfl
  ·rfl
theorem Wg{n:Nat}:∀(ms:List (Nat×(Int×Int)×(Int×Int))) (z:List (Int×Int)),(∀m∈ms,m.1≠n)->(jd z ms)[n]? = z[n]?
 | [],z,_=>rfl
 | m::ms,z,h=>by
  have:=Wg ms (z.set m.1 m.2.2) λx hx=>h x (cB _ hx);rw[show jd z (m::ms)=jd (z.set m.1 m.2.2) ms from rfl,this,BW (h m (by simp))]
theorem Wh:∀(z:List (Int×Int)) (i:Nat),cV [] i z = []
 | [],_=>rfl
 | q::z,i=>by rw[cV,if_neg (by simp),Wh z]
theorem agj{z bz:List (Int×Int)}{ms:List (Nat×(Int×Int)×(Int×Int))}(hl:ms.length=(cV bz 0 z).length)(ha:∀(k:Nat) (m:Nat×(Int×Int)×(Int×Int)),ms[k]? = some m->(cV bz 0 z)[k]? = some m.1){n k:Nat}(hn:n<z.length)(hk:k=((z.take n).filter λc=>decide (c∈bz)).length) :
  (jd z (ms.take k))[n]? = some z[n]/\k<=ms.length/\(z[n]∈bz->∃h:k<ms.length,ms[k].1=n):=by
 have ez:z=z.take n++z[n]::z.drop (n+1):=by rw[← BQ hn,uw]
 have eb:cV bz 0 z=cV bz 0 (z.take n)++cV bz n (z[n]::z.drop (n+1)):=by
  conv=>lhs;rw[ez]
  rw[Wf,fc,ux ∅,sr]
 have e1:=Ab bz (z.take n) 0;rw[← hk] at e1;refine⟨?_,by rw[hl,eb,fE];lia,λhb=>?_⟩
 ·rw[Wg,bx hn];intro m hm;obtain⟨j,hj,rfl⟩:=r_.mp hm;rw[fc] at hj;rw[List.getElem_take];have:=ha j ms[j] (bx ∅)
  rw[eb,gw ∅] at this
  obtain⟨_,c,hc,_⟩:=Jq (iC this);have:=(fD.mp hc).1;rw[fc] at this;lia
 ·rw[cV,if_pos hb] at eb;have xM:k<ms.length:=by rw[hl,eb,fE,gA];lia
  refine⟨xM,?_⟩;have:=ha k ms[k] (bx xM);rw[eb,gz ∅,e1,Nat.sub_self] at this
  exact(dD this).symm
theorem agk{z bz:List (Int×Int)}{n k:Nat}(hn:n<z.length)(hk:k=((z.take n).filter λc=>decide (c∈bz)).length) :
  (if z[n]∈bz then k+1 else k)=((z.take (n+1)).filter λc=>decide (c∈bz)).length:=by
 rw[List.take_succ_eq_append_getElem hn,qE,fE,← hk,lE];by_cases h:z[n]∈bz
 ·rw[if_pos h,if_pos (ig h)];rfl
 ·rw[if_neg h,if_neg (by simpa using h)];rfl
theorem agl{z bz:List (Int×Int)}{ms:List (Nat×(Int×Int)×(Int×Int))}(hl:ms.length=(cV bz 0 z).length){k:Nat}(hk:k=((z.take z.length).filter λc=>decide (c∈bz)).length):ms.take k=ms:=by
 rw[eG,← Ab bz z 0,← hl] at hk;rw[hk,eG]
noncomputable def oW(i m:Nat):Nat->List (Int×Int)
 | 0=>[]
 | j+1=>if j<m then oW i m j++[((i:Int),(j:Int))] else oW i m j
noncomputable def nq(bz:List (Int×Int))(i m:Nat):Nat->List (Int×Int)
 | 0=>[]
 | j+1=>if j<m then nq bz i m j else if ((i:Int),(j:Int))∈bz then nq bz i m j else nq bz i m j++[((i:Int),(j:Int))]
theorem JE(i m:Nat):∀n,oW i m n=(List.range (min n m)).map λ(k:Nat)=>((i:Int),(k:Int))
 | 0=>by simp[oW]
 | j+1=>by
  rw[oW,JE i m j];split
  ·rw[ux ∅,ux ∅,n_,bO];rfl
  ·rw[GH ∅,GH ∅]
theorem JF(bz:List (Int×Int))(i m:Nat):∀n,nq bz i m n=((List.range (n - m)).map λ(k:Nat)=>((i:Int),(m:Int)+(k:Int))).filter λc => !decide (c∈bz)
 | 0=>by simp[nq]
 | j+1=>by
  rw[nq,JF bz i m j];split
  ·rw[show j+1 - m=0 by lia,show j - m=0 by lia]
  ·rw[show j+1 - m=(j - m)+1 by lia,n_,bO,qE,List.map_singleton,show (m:Int)+((j - m:Nat):Int)=(j:Int) by lia,lE]
   split
   ·rw[if_neg (by simpa),List.filter_nil,pF]
   ·rw[if_pos (by simpa),List.filter_nil]
theorem agm(i m:Nat)(n:Nat):(oW i m n).length<=n:=by rw[JE,aK,jF];lia
theorem agn(bz:List (Int×Int))(i m n:Nat):(nq bz i m n).length<=n:=by
 rw[JF];refine dQ (pI _ _) ?_;rw[aK,jF];lia
theorem Zn.iK{H:Hp}{l f:Addr}{xs ys:List V}{ts:List Addr}{z:List (Int×Int)}(h:Zn H l ts z)(hf:H f=some (.lst xs))(ne:f≠l):Zn (upd H f (.lst ys)) l ts z :=
 ⟨(aB ne.symm).trans h.l,h.n,λi t p e1 e2=>by
  have:=h.t i t p e1 e2;exact(aB (λz=>by rw[z,hf] at this;cases this)).trans this⟩
def ago(K:W.Frag):Sp:=λvs H Q _=>∃(ca ba:Addr) (s:Int) (rc:List Int) (gm:List Addr) (bz:List (Int×Int)) (ms:List (Nat×(Int×Int)×(Int×Int))),vs = [.ref ca,.int s,.ref ba]/\H ca=some (.lst (rc.map V.int))/\Zn H ba gm bz/\rc.length<64/\0<=s/\(∀c∈rc,s<=c/\c<=60)/\
 lg rc s (cL rc s) bz (cV bz 0 (cL rc s)) ms/\∀l ts H',aq H H'->H l=none->Zn H' l ts (jd (cL rc s) ms)->Q (.ref l) H'
noncomputable def lV(fs:List (Str×V)):Bool:=(fs.lookup ("ring_cells" : Str)).isNone && ((fs.lookup ("inward" : Str)).isSome || (fs.lookup ("turn" : Str)).isSome)
def jA(xs:List V):Prop:=∀i j,xs≠[.bl i,.bl j]
theorem jA.refs{ts:List Addr}:jA (ts.map V.ref):=λi j e=>by
 cases ts with
 | nil=>cases e
 | cons t ts=>cases e
theorem jA.ints{ns:List Int}:jA (ns.map V.int):=λi j e=>by
 cases ns with
 | nil=>cases e
 | cons t ts=>cases e
def rM(o:HO):Prop:=(∀ps,o≠.fY ps)/\(∀C dx fs,o = .ins C dx fs->lV fs=false)/\∀xs,o = .lst xs->jA xs
theorem rM.of{o:HO}(h1:∀ps,o≠.fY ps)(h2:∀C dx fs,o≠.ins C dx fs)(h3:∀xs,o≠.lst xs):rM o:=⟨h1,λ_ _ _ e=>absurd e (h2 _ _ _),λ_ e=>absurd e (h3 _)⟩
theorem rM.lst{xs:List V}(h:jA xs):rM (.lst xs):=⟨(λ_ z=>nomatch z),(λ_ _ _ z=>nomatch z),λ_ e=>by cases e;exact h⟩
theorem rM.ins{C dx:Addr}{fs:List (Str×V)}(h:lV fs=false):rM (.ins C dx fs):=⟨(λ_ z=>nomatch z),(λ_ _ _ e=>by cases e;exact h),λ_ z=>nomatch z⟩
theorem agp:lV [] = false:=rfl
theorem Wi{q:Ak}{m b:Addr}:lV (jx q m b)=false:=by simp[lV,jx,List.lookup_cons,ju]
theorem Wj{n:Int}{ap l:Addr}:lV (qc n ap l)=false:=by simp[lV,qc,List.lookup_cons,ju]
def cW(H H':Hp):Prop:=∀b o,H b=some o->rM o->H' b=some o
theorem cN.xN{P:Addr}{pos:Pos}{qual:Str}{H H':Hp}(t:cN P pos qual H)(k:SameBut P H H'):cW H H':=λ_ _ e n=>k _ _ e (t.ne e n.1)
theorem cW.of{H H':Hp}(s:aq H H'):cW H H':=λ_ _ e _=>s _ _ e
theorem cW.trans{H H1 H2:Hp}(s:cW H H1)(t:cW H1 H2):cW H H2:=λ_ _ e n=>t _ _ (s _ _ e n) n
theorem cW.tup{H H':Hp}(k:cW H H'){a:Addr}{xs:List V}(e:H a=some (.tup xs)):H' a=some (.tup xs):=k _ _ e (.of (λ_ z=>nomatch z) (λ_ _ _ z=>nomatch z) λ_ z=>nomatch z)
theorem cW.lst{H H':Hp}(k:cW H H'){a:Addr}{xs:List V}(e:H a=some (.lst xs))(h:jA xs:=by first | exact jA.refs | exact jA.ints | (intro i j z;cases z)):H' a=some (.lst xs):=k _ _ e (.lst h)
theorem cW.ins{H H':Hp}(k:cW H H'){a C dx:Addr}{fs:List (Str×V)}(e:H a=some (.ins C dx fs))(h:lV fs=false:=by exact agp):H' a=some (.ins C dx fs):=k _ _ e (.ins h)
theorem cW.seq{K:W.Frag}{H H':Hp}(k:cW H H'){a:Addr}{xs:List V}(h:aE K H a xs)(hb:jA xs:=by first | exact jA.ints | exact jA.refs):aE K H' a xs:=by
 rcases h with(h | ⟨o,h⟩) | h
 ·exact .inl (.inl (k _ _ h (.lst hb)))
 ·exact .inl (.inr ⟨o,k _ _ h (.of (λ_ z=>nomatch z) (λ_ _ _ z=>nomatch z) λ_ z=>nomatch z)⟩)
 ·exact .inr h
theorem Zn.kt{H H':Hp}{l:Addr}{ts:List Addr}{z:List (Int×Int)}(h:Zn H l ts z)(k:cW H H'):Zn H' l ts z:=⟨k.lst h.l,h.n,λi t p e1 e2=>k.tup (h.t i t p e1 e2)⟩
section
variable{K:W.Frag}{C CA CD:Addr}{H H':Hp}
theorem fJ.kt{p:Addr}{q:Ak}{m b dx:Addr}(h:fJ K C H p q m b dx)(k:cW H H'):fJ K C H' p q m b dx:=⟨k.ins h.o Wi,k.tup h.ms,k.tup h.bh⟩
theorem lT.kt{p:Addr}{d:Dr}{dx ap l:Addr}{ts:List Addr}{m b dw:Addr}(h:lT K CA CD H p d dx ap l ts m b dw)(k:cW H H'):lT K CA CD H' p d dx ap l ts m b dw:=⟨k.ins h.o Wj,h.a.kt k,h.c.kt k⟩
theorem dG.kt{p:Addr}{P:Pl}{fp:List Addr}(h:dG K C H p P fp)(k:cW H H'):dG K C H' p P fp:=by
 obtain⟨dx,a1,a2,a3,a4,ts,fs,e,h⟩:=h;exact⟨dx,a1,a2,a3,a4,ts,fs,e,{ h with o:=k.ins h.o (by simp[lV,h.f1]),rc:=k.lst h.rc,sw:=k.lst h.sw,nc:=h.nc.kt k,cn:=k _ _ h.cn (.of (λ_ z=>nomatch z) (λ_ _ _ z=>nomatch z) λ_ z=>nomatch z)}⟩
end
def agq(K:W.Frag)(cs:List Addr)(P:Addr)(pos:Pos)(qual:Str):Sp:=λvs H Q _=>∃(sc:Addr) (ns:List Int),vs = [.ref sc]/\aE K H sc (ns.map V.int)/\ns.length<=63/\cN P pos qual H/\
 ∀t C p wt z aG sk sw ca sa na gO nc fp H',SameBut P H H'->H' t=some (.tup [.ref p,.ref wt])->C∈cs->dG K C H' p (rF z aG sk sw nc) fp->rE z aG sk sw->Ag (counts z) nc->xK H' wt (counts z) aG sk sw ca sa na gO nc->Q (.ref t) H'
section
variable{K:W.Frag}{CA CD:Addr}{H:Hp}{as:List Addr}{bs:List Dr}
end
section
variable{K:W.Frag}{CA CD:Addr}{H H':Hp}{D:Addr}{as:List Addr}{bs:List Dr}
end
noncomputable def tH(d:Dr):Int×Int:=d.c.getD 0 (0,0)
end _L
namespace _L
open PySem PySem.Spec PyProof.Rows PySem.W
section
variable{prog:Program}{w:World}{A:Around}{E:Value->Shared->Prop}{s:Shared}{h₀:Heap}{L a kS:Addr}{m:Str->Option Value}{news:List (Addr×Obj)}{vs ks:List Value}
end
section
variable{X:Cx}{pins:List (Addr×Obj)}{σ:St}{H:Hp}{s:Shared}{m:Str->Option Value}{kS f:Addr}{kv:Nat->Int}{k:Nat}{fd:FuncData}{p:Str}{sp:Sp}{xs:List V}{A:Around}
end
section
variable{X:Cx}{pins:List (Addr×Obj)}{σ:St}{H:Hp}{s:Shared}{f:Addr}{kv:Nat->Int}{k:Nat}{fd:FuncData}{p:Str}{sp:Sp}{xs:List V}{l:Addr}
end
end _L
namespace _L
open PySem PySem.Spec PyProof.Rows
section
variable{X:Cx}
end
noncomputable def bN(n:Int):Key:=.inl n
theorem JG(kvs:List (Key×V))(k:Key)(v:V):(putK kvs k v).length<=kvs.length+1:=by
 unfold putK;split
 ·rw[aK];lia
 ·rw[fE];exact bu _
theorem Wk{α:Type}{l:List α}{p:α->Bool}{i:Nat}{a:α}(h:l[i]? = some a):(l.take (i+1)).filter p=(l.take i).filter p++(if p a then [a] else []):=by
 rw[take_succ_get h,qE,lE];split <;> rfl
noncomputable def liF(c i:Bool)(B:Addr):List (Str×V):=[("calm",.bl c),("inward",.bl i),("batch",.ref B)]
structure Lt where
 c:Bool
 i:Bool
 b:List Int
structure DZ(C:Addr)(H:Hp)(x:Addr)(st:Lt)(dx B:Addr):Prop where
 o:H x=some (.ins C dx (liF st.c st.i B))
 d:∃kvs:List (Key×V),H B=some (.dK kvs)/\kvs.length<=1000/\∀n:Int,(bV kvs (bN n)).isSome=decide (n∈st.b)
section
variable{C:Addr}{H H':Hp}{x dx B:Addr}{st:Lt}
end
noncomputable def d0:Dr:=⟨0,⟨"",0,0,[],0,0,none,[],false⟩,[]⟩
section
variable{K:W.Frag}{CA CD:Addr}{H H':Hp}{D D':Addr}{ts kD:List Addr}{ps DX:List Dr}
end
structure An(nc:List (Int×Int))(ds ps:List Dr):Prop where
 nd:((ds++ps).map (·.n)).Nodup
 ok:∀p∈ds++ps,rL nc.length p.q/\p.q.kind≠"rest"/\p.q.at_<=1000000000000/\0<=p.n/\p.n<=99/\p.c=jy nc p.q.first p.q.many
 D0:ds.length+ps.length<=32
noncomputable def Wl(K:W.Frag)(CA CD CL P:Addr)(pos:Pos)(qual:Str)(H6:Hp)(a p wt x1 d1:Addr)(nc:List (Int×Int))(m:Nat)(σ:St)(H':Hp):Prop :=
 ∃(Lp Dd:Addr) (iP:List Addr) (fz:List Dr) (iQ:List Addr) (fB:List Dr) (i:Bool) (ring:Int) (B':Addr) (y8 y9 oX jB:Option V),σ = [some (.ref a),some (.ref p),some (.ref wt),some (.ref Lp),some (.ref x1),some (.bl i),some (.int ring),some (.ref Dd),y8,y9,oX,jB]/\
  cW H6 H'/\cN P pos qual H'/\DZ CL H' x1 ⟨false,i,[]⟩ d1 B'/\qi K CA CD H' Lp Lp iP fz/\qi K CA CD H' Dd Dd iQ fB/\An nc fB fz/\fB.length+fz.length=m
section
variable{K:W.Frag}{CA CD:Addr}{H:Hp}{D D':Addr}{ts:List Addr}{ps:List Dr}{X:Prop}
theorem tE.el(h:tE K CA CD H D ts ps)(i:Nat)(t:Addr)(p:Dr)(e1:ts[i]? = some t)(e2:ps[i]? = some p)(k:∀dx ap l tx m b dw,lT K CA CD H t p dx ap l tx m b dw->X):X :=
 let ⟨dx,ap,l,tx,m,b,dw,a⟩:=h.t i t p e1 e2;k dx ap l tx m b dw a
end
@[elab_as_elim] theorem Wl.el{K:W.Frag}{CA CD CL P:Addr}{pos:Pos}{qual:Str}{H6:Hp}{a p wt x1 d1:Addr}{nc:List (Int×Int)}{m:Nat}{σ:St}{H':Hp}{X:St->Prop}(h:Wl K CA CD CL P pos qual H6 a p wt x1 d1 nc m σ H')
  (k:∀(Lp Dd:Addr) (iP:List Addr) (fz:List Dr) (iQ:List Addr) (fB:List Dr) (i:Bool) (ring:Int) (B':Addr) (y8 y9 oX jB:Option V),cW H6 H'->cN P pos qual H'->DZ CL H' x1 ⟨false,i,[]⟩ d1 B'->qi K CA CD H' Lp Lp iP fz->qi K CA CD H' Dd Dd iQ fB->An nc fB fz->fB.length+fz.length=m->X [some (.ref a),some (.ref p),some (.ref wt),some (.ref Lp),some (.ref x1),some (.bl i),some (.int ring),some (.ref Dd),y8,y9,oX,jB]):X σ:=by
 obtain⟨Lp,Dd,iP,fz,iQ,fB,i,ring,B',y8,y9,oX,jB,rfl,kt,tb,hl,JH,oV,bo,hm⟩:=h;exact k Lp Dd iP fz iQ fB i ring B' y8 y9 oX jB kt tb hl JH oV bo hm
def JI(t:TS):TS:=λD σ H=>∀N:St->Hp->Prop,(∀fh H1,@Later ⟨D.nx⟩ fh H1->N fh H1)->t { D with nx:=N } σ H
theorem b_{X:Cx}{st:Stmt}{t:TS}(h:PS X st t):PS X st (JI t):=λpins s σ H D I q=>h pins s σ H D I (q D.nx λ_ _ z=>z)
theorem cD{t b:TS}{D:Ends}{σ:St}{H:Hp}(h:∀N:St->Hp->Prop,(∀fh H1,b D fh H1->N fh H1)->t { D with nx:=N } σ H):G6 (JI t) b D σ H:=λN hN=>h N hN
theorem agr{c:TT}{tb:TS}{D:Ends}{σ:St}{H:Hp}(h:∀B:TS,(∀D σ H,tb D σ H->B D σ H)->G8 c B D σ H):G8 c tb D σ H:=h tb λ_ _ _ z=>z
section
variable{H H1 H2:Hp}
end
section
variable{H H':Hp}{S:Addr}{i sw:Bool}
end
noncomputable def Wm(K:W.Frag)(CA CD CR P:Addr)(pos:Pos)(qual:Str)(sw:Bool)(H6:Hp)(a p wt x1 d1 S:Addr)(nc:List (Int×Int))(m:Nat)(σ:St)(H':Hp):Prop :=
 ∃(Lp Dd Bt:Addr) (iP:List Addr) (fz:List Dr) (iQ:List Addr) (fB:List Dr) (i:Bool) (bs:List Int) (ring:Int) (B':Addr) (y9 oX jB oY:Option V),σ = [some (.ref a),some (.ref p),some (.ref wt),some (.ref Lp),some (.ref x1),some (.ref S),some (.int ring),some (.ref Dd),some (.ref Bt),y9,oX,jB,oY]/\
  cW H6 H'/\cN P pos qual H'/\DZ CR H' x1 ⟨true,i,bs⟩ d1 B'/\H' S=some (.lst [.bl i,.bl sw])/\H' Bt=some (.lst (bs.map V.int))/\bs.length<=32/\qi K CA CD H' Lp Lp iP fz/\qi K CA CD H' Dd Dd iQ fB/\An nc fB fz/\fB.length+fz.length=m
@[elab_as_elim] theorem Wm.el{K:W.Frag}{CA CD CR P:Addr}{pos:Pos}{qual:Str}{sw:Bool}{H6:Hp}{a p wt x1 d1 S:Addr}{nc:List (Int×Int)}{m:Nat}{σ:St}{H':Hp}{X:St->Prop}(h:Wm K CA CD CR P pos qual sw H6 a p wt x1 d1 S nc m σ H')
  (k:∀(Lp Dd Bt:Addr) (iP:List Addr) (fz:List Dr) (iQ:List Addr) (fB:List Dr) (i:Bool) (bs:List Int) (ring:Int) (B':Addr) (y9 oX jB oY:Option V),cW H6 H'->cN P pos qual H'->DZ CR H' x1 ⟨true,i,bs⟩ d1 B'->H' S=some (.lst [.bl i,.bl sw])->H' Bt=some (.lst (bs.map V.int))->bs.length<=32->qi K CA CD H' Lp Lp iP fz->qi K CA CD H' Dd Dd iQ fB->An nc fB fz->fB.length+fz.length=m->X [some (.ref a),some (.ref p),some (.ref wt),some (.ref Lp),some (.ref x1),some (.ref S),some (.int ring),some (.ref Dd),some (.ref Bt),y9,oX,jB,oY]):X σ:=by
 obtain⟨Lp,Dd,Bt,iP,fz,iQ,fB,i,bs,ring,B',y9,oX,jB,oY,rfl,kt,tb,hl,hSt,hBt,b32,JH,oV,bo,hm⟩:=h;exact k Lp Dd Bt iP fz iQ fB i bs ring B' y9 oX jB oY kt tb hl hSt hBt b32 JH oV bo hm
section
variable{X:Cx}
theorem ags{k:Key}{u:Value}(h:uF k u=true):RelV (kV k) u:=by
 cases k with
 | inl i=>obtain⟨t,e⟩:=PySem.Value.isInt_shape (show Value.isInt i u=true from h);exact⟨t,e⟩
 | inr x=>obtain⟨t,e⟩:=PySem.Value.isStrOf_shape (show Value.isStrOf x u=true from h);exact⟨t,e⟩
theorem KV.key:∀ {kvs:List (Key×V)} {vs:List (Key×Value)},KV kvs vs->∀ {i:Nat} {p:Key×V},kvs[i]? = some p->∃v,vs[i]? = some (p.1,v)
 | _,_,.nil,i,p,e=>by simp at e
 | _,_,.cons (b:=q) r t,0,p,e=>by
  cases e;exact⟨q.2,by rw[r.1];rfl⟩
 | _,_,.cons r t,i+1,p,e=>KV.key t (i:=i) e
theorem Inv.freeze{pins:List (Addr×Obj)}{σ:St}{H:Hp}{s:Shared}{a:Addr}{kvs:List (Key×V)}{ob:Obj}(I:Inv X pins σ H s)(e:H a=some (.dK kvs))(ho:s.heap.get? a=some ob):Inv X pins σ (upd H a (.cK ob (.dK kvs))) s:=by
 have ne:∀b v,H b=some v->(∀kvs,v≠.dK kvs)->upd H a (.cK ob (.dK kvs)) b=some v:=λb v q z=>by rw[aB (λw=>by rw[w,e] at q;cases q;exact z _ rfl)];exact q
 refine I.un (t':=s.toks) (h':=s.heap) ⟨λb o q n hb _=>q,λb o q n hb _=>⟨o.slots,q⟩,λb o q n _=>?_,λb o q _=>⟨o,q⟩,λb xs q=>ne b _ q (λ_ z=>nomatch z),λb o u q=>ne b _ q (λ_ z=>nomatch z),λb ps q=>⟨#[],by rw[ne b _ q (λ_ z=>nomatch z)];simp⟩⟩ λb v q=>?_
 ·rw[aB (λz=>by rw[z,e] at n;cases n)];exact n
 ·by_cases z:b=a
  ·subst z;rw[aD] at q;cases q;exact⟨ho,(I.aL b _ e).kJ (λ_ _ _ e=>e) (λd q=>ne d _ q (λ_ z=>nomatch z)) (λd xs q=>ne d _ q (λ_ z=>nomatch z))⟩
  ·rw[aB z] at q;exact(I.aL b v q).kJ (λ_ _ _ e=>e) (λd q=>ne d _ q λ_ z=>nomatch z) λd xs q=>ne d _ q λ_ z=>nomatch z
noncomputable def Wn(a:Addr)(ob:Obj)(kvs:List (Key×V)):It :=
 ⟨λi H=>H a=some (.cK ob (.dK kvs))/\i<kvs.length,λi H x H'=>H' = H/\∃p,kvs[i]? = some p/\x=kV p.1,λi H=>H a=some (.cK ob (.dK kvs))/\kvs.length<=i⟩
theorem D3{P:Program}{w:World}{H:Hp}{h:Heap}{a:Addr}{ob:Obj}{kvs:List (Key×V)}{es:Array DictEntry}{ep:Nat}(nA:ob.data = .dict es ep)(x:fM P w H h a (.cK ob (.dK kvs))) :
  ∃vs,KV kvs vs/\h.DictAt (c_ P w) a vs ep:=by
 obtain⟨ho,_,_,vs,kv,o,kR,Ig,lK,c,d,r⟩:=x;rw[ho] at lK;cases lK;rw[nA] at d;cases d;exact⟨vs,kv,ob,es,ho,c,nA,r⟩
theorem agt{P:Program}{w:World}{K:W.Frag}{tg:Expr}(a it:Addr){ob:Obj}{kvs:List (Key×V)}{es:Array DictEntry}{ep:Nat}(nA:ob.data = .dict es ep) :
  Turn P w K tg (Wn a ob kvs) [it] it (λi h=>h.IsKeyIter it a i kvs.length ep) where
 mem:=by simp
 obj:=λi h st b hb=>by
  have e:b=it:=by simpa using hb
  subst e;obtain⟨o,e,c,d⟩:=st;exact⟨o,e,λv z=>by rw[d] at z;cases z⟩
 keep:=λi h h' st k=>let ⟨o,e,r⟩:=st;⟨o,k it (by simp) o e,r⟩
 item:=by
  intro X hP hw hK hc i pins s σ H E I hf st hg;subst hP hw hK;obtain⟨hq,hi⟩:=hg;obtain⟨vs,kv,da⟩:=D3 nA (I.aL a _ hq);have ek:kvs[i]? = some kvs[i]:=bx hi;obtain⟨v,ev⟩:=kv.key ek;obtain⟨f0,f1,f2,f3,f4,f5⟩:=hf it (by simp)
  have hl:kvs.length=vs.length:=kv.length;refine wpAny_pyNext_dict_item (hl▸st) da ev λkey h' hk gi sb=>?_;have I1:Inv X pins σ H { s with heap:=h' }:=I.turned (t':=s.toks) (λb o hb e=>(sb.2 b hb).trans e) f0 f1 f3 f4 f5;obtain⟨o,e,c,d⟩:=id gi;exact⟨key,rfl,y_ (s:={ s with heap:=h' }) e c d ⋯ ⟨_,H,I1,ags hk,⟨rfl,kvs[i],ek,rfl⟩,hl▸gi,λb hb=>(hf b hb).1⟩⟩
 done:=by
  intro X hP hw hK hc i pins s σ H E I hf st hg;subst hP hw hK;obtain⟨hq,hi⟩:=hg;obtain⟨vs,kv,da⟩:=D3 nA (I.aL a _ hq);obtain⟨f0,f1,f2,f3,f4,f5⟩:=hf it (by simp)
  have hl:kvs.length=vs.length:=kv.length;exact wpAny_pyNext_dict_end (I.ok.hd hc) (hl▸st) da (uv ∅) λh' eb=>⟨rfl,I.turned (t':=s.toks) (λb o hb e=>eb b o hb e) f0 f1 f3 f4 f5⟩
 self:=λA i s Q E st h=>by
  obtain⟨o,e,c,d⟩:=st;exact wpAny_pyIter_keyiter ⟨o,e,c,d⟩ h
def Wo(td:TE):TI:=λσ H R=>td σ H λx H1=>∃a kvs,x = .ref a/\H1 a=some (.dK kvs)/\∀ob,R (Wn a ob kvs) (upd H1 a (.cK ob (.dK kvs)))
theorem agu{tg l:Expr}{td:TE}(hl:PE X l td):PI X tg l (Wo td):=by
 intro pins s σ H R I h;refine aO (hl pins s σ H _ I h) λv s1 ⟨x,H1,I1,r1,q1⟩=>?_;obtain⟨a,kvs,e,hq,q⟩:=q1;subst e;cases r1;obtain⟨hz,hS,vs,kv,o,es,ep,ho,c,d,r⟩:=C0 I1.aL hq;have ln:kvs.length=vs.length:=kv.length;refine wpAny_pyIter_dict (knd:=c_ X.prog X.w) (kvs:=vs) (ep:=ep) hS ⟨o,es,ho,c,d,r⟩ ?_;have I2:=I1.freeze hq ho;have I3:=I2.kept (t':=s1.toks) (h':=s1.heap.push { cls:=.type "dict_keyiterator",data:=.fields #[.ref a,.int 0 0,.int vs.length 0,.int ep 0] }) λb o e=>bW _ e;refine⟨s1.heap.objs.size,[s1.heap.objs.size],_,_,_,rfl,I3,agt a _ d,⟨_,e_ _ rfl,rfl,by rw[ln];rfl⟩,λb hb=>?_,q o⟩
 have e:b=s1.heap.objs.size:=by simpa using hb
 subst e;exact I2.qN (bu _) (I2.aL.fresh (bu _))
theorem agv{tl:TE}{g:TG}{tb:TS}{D:Ends}{σ:St}{H:Hp}(a:Addr)(kvs:List (Key×V))(Pv:Obj->Nat->St->Hp->Prop)(hi:∀Q:VK,Q (.ref a) H->tl σ H Q)(hq:H a=some (.dK kvs))(h0:∀ob,Pv ob 0 σ (upd H a (.cK ob (.dK kvs))))
  (st:∀ob i σ H,Pv ob i σ H->H a=some (.cK ob (.dK kvs)))
  (hb:∀ob i p σ H (N:St->Hp->Prop),(∀bq H',Pv ob (i+1) bq H'->N bq H')->kvs[i]? = some p->Pv ob i σ H->g (kV p.1) σ H λaA H2=>tb { D with nx:=N,ct:=N,bk:=D.nx } aA H2)
  (hn:∀ob σ H,Pv ob kvs.length σ H->D.nx σ H):j6 (Wo tl) g tb D σ H:=by
 refine hi _ ⟨a,kvs,rfl,hq,λob=>⟨λi m σ H=>m+i=kvs.length/\Pv ob i σ H,⟨kvs.length,∅,h0 ob⟩,λi m σ H ⟨hm,hp⟩=>?_⟩⟩
 have hs:=st ob i σ H hp;by_cases hl:i<kvs.length
 ·refine .inr ⟨⟨hs,hl⟩,λbq H'=>Pv ob (i+1) bq H',λbq H' h=>⟨m - 1,∅,∅,h⟩,λx H' ⟨e1,p,e2,e3⟩=>?_⟩
  subst e1 e3;exact hb ob i p σ H' _ (λ_ _ h=>h) e2 hp
 ·refine .inl ⟨⟨hs,∅⟩,hn ob σ H ?_⟩
  rw[show kvs.length=i by lia];exact hp
end
section
variable{X:Cx}{k:Nat}{f:Addr}{fd:FuncData}{ps:List Str}{sp:Sp}{x:Str}{p pos:Pos}{e:Expr}{es:List Expr}{t:TA}{a:Value}
end
noncomputable def jf(pl:Addr)(t u:Int):List (Str×V):=[("pairs",.ref pl),("turn",.int t),("used",.int u)]
structure fV(C:Addr)(H:Hp)(x:Addr)(sh:List (Int×Int))(t u:Int)(dx pl:Addr)(bR:List Addr):Prop where
 o:H x=some (.ins C dx (jf pl t u))
 p:Zn H pl bR sh
structure iR(z:List (Int×Int)):Prop where
 n1:1<=z.length
 n4:z.length<=4
 a:∀p∈z,0<=p.1/\p.1<=20/\1<=p.2/\p.2<=4
 nd:(z.map (·.1)).Nodup
section
variable{C:Addr}{H H':Hp}{x dx pl:Addr}{bR:List Addr}{sh:List (Int×Int)}{t u:Int}
theorem fV.same(h:fV C H x sh t u dx pl bR)(s:aq H H'):fV C H' x sh t u dx pl bR:=⟨s _ _ h.o,h.p.same s⟩
theorem agw:lV (jf pl t u)=true:=by simp[lV,jf,List.lookup_cons,ju]
theorem fV.xN(h:fV C H x sh t u dx pl bR)(s:SameBut x H H'):cW H H':=λb o e n=>s b o e λz=>by
 rw[z,h.o] at e;cases e;have:=n.2.1 _ _ _ rfl;rw[agw] at this;cases this
end
theorem fV.iK{C:Addr}{H:Hp}{x dx pl f:Addr}{bR:List Addr}{sh:List (Int×Int)}{t u:Int}{xs ys:List V}(h:fV C H x sh t u dx pl bR)(hf:H f=some (.lst xs))(ne:f≠pl):fV C (upd H f (.lst ys)) x sh t u dx pl bR :=
 ⟨(aB (λz=>by have:=h.o;rw[z,hf] at this;cases this)).trans h.o,h.p.iK hf ne⟩
section
variable{K:W.Frag}{C CA CD:Addr}{H H':Hp}
end
noncomputable def vm(o:Option Int)(n:Int):Int:=match o with
 | none=>n
 | some m=>if n<m then n else m
noncomputable def h_(a:Int)(ds:List Dr):Option Int:=ds.foldl (λo d=>if d.q.bB=a then some (vm o d.n) else o) none
theorem Wq{a:Int}{ds:List Dr}{d:Dr}:h_ a (ds++[d])=if d.q.bB=a then some (vm (h_ a ds) d.n) else h_ a ds:=by
 unfold h_;rw[BV];rfl
theorem agx{a:Int}{ds:List Dr}{i:Nat}(hi:i<ds.length):h_ a (ds.take (i+1))=if ds[i].q.bB=a then some (vm (h_ a (ds.take i)) ds[i].n) else h_ a (ds.take i):=by
 rw[take_succ_get (bx hi),Wq]
theorem JJ{a:Int}(ds:List Dr):(h_ a ds=none->∀d∈ds,d.q.bB≠a)/\∀n,h_ a ds=some n->(∃d∈ds,d.q.bB=a/\d.n=n)/\∀d∈ds,d.q.bB=a->n<=d.n:=by
 rw[← GF ds];generalize ds.reverse=r
 induction r with
 | nil=>exact⟨λ_ d h=>by simp at h,λn h=>by simp[h_] at h⟩
 | cons e r ih =>
  rw[GD,Wq];obtain⟨i1,i2⟩:=ih;by_cases he:e.q.bB=a
  ·rw[if_pos he];refine⟨(λz=>nomatch z),λn hn=>?_⟩;cases hn;cases ho:h_ a r.reverse with
   | none =>
    refine⟨⟨e,by simp,he,rfl⟩,λd hd ha=>?_⟩
    rcases cF.mp hd with h | h
    ·exact absurd ha (i1 ho d h)
    ·rw[cj.mp h];exact iW _
   | some m =>
    obtain⟨⟨d0,h0,a0,n0⟩,hm⟩:=i2 m ho;have hle:∀d∈r.reverse++[e],d.q.bB=a->(if e.n<m then e.n else m)<=d.n:=λd hd ha=>by
     rcases cF.mp hd with h | h
     ·have:=hm d h ha;split <;> lia
     ·rw[cj.mp h];split <;> lia
    refine⟨?_,hle⟩;by_cases bM:e.n<m
    ·exact⟨e,by simp,he,by simp[vm,bM]⟩
    ·exact⟨d0,n8 _ h0,a0,by simp[vm,bM,n0]⟩
  ·rw[if_neg he];refine⟨λz d hd=>?_,λn hn=>?_⟩
   ·rcases cF.mp hd with h | h
    ·exact i1 z d h
    ·rw[cj.mp h];exact he
   ·obtain⟨⟨d0,h0,a0,n0⟩,hm⟩:=i2 n hn;refine⟨⟨d0,n8 _ h0,a0,n0⟩,λd hd ha=>?_⟩;rcases cF.mp hd with h | h
    ·exact hm d h ha
    ·rw[cj.mp h] at ha;exact absurd ha he
theorem JK{a:Int}{ds:List Dr}{d:Dr}(hd:d∈ds)(ha:d.q.bB=a):(h_ a ds).isSome=true:=by
 cases h:h_ a ds with
 | none=>exact absurd ha ((JJ ds).1 h d hd)
 | some n=>rfl
theorem agy{kvs:List (Key×V)}{k:Key}{v:V}{p:Key×V}(h:p∈putK kvs k v):(∃q∈kvs,q.1=p.1)\/p.1=k:=by
 unfold putK at h;split at h
 ·obtain⟨q,hq,e⟩:=cH.mp h;left;refine⟨q,hq,?_⟩;rw[← e];split <;> rfl
 ·rcases cF.mp h with h | h
  ·exact .inl ⟨p,h,rfl⟩
  ·rw[cj.mp h];exact .inr rfl
structure xO(ds:List Dr)(kvs:List (Key×V)):Prop where
 v:∀a:Int,bV kvs (bN a)=(h_ a ds).map V.int
 k:∀p∈kvs,∃d∈ds,p.1=bN d.q.bB
noncomputable def dY(sh:List (Int×Int))(t:Int):Int:=(sh.getD t.toNat (0,0)).1
noncomputable def cI(sh:List (Int×Int))(t:Int):Int:=(sh.getD t.toNat (0,0)).2
theorem vn{sh:List (Int×Int)}{t:Int}(h0:0<=t)(h1:t<sh.length):sh[t.toNat]? = some (dY sh t,cI sh t):=by
 have:t.toNat<sh.length:=by lia
 unfold dY cI;rw[qG,bx this];rfl
theorem Zn.ti{H:Hp}{l:Addr}{ts:List Addr}{sh:List (Int×Int)}(h:Zn H l ts sh){t:Int}(h0:0<=t)(h1:t<sh.length):∃p,dP (ts.map V.ref) t=some (.ref p)/\H p=some (.tup [.int (dY sh t),.int (cI sh t)]):=by
 have hl:t.toNat<ts.length:=by rw[h.n];lia
 refine⟨ts[t.toNat],?_,h.t _ _ _ (bx hl) (vn h0 h1)⟩;have:dP (ts.map V.ref) ((t.toNat:Nat):Int)=some (.ref ts[t.toNat]):=gT (by rw[gR,bx hl];rfl)
 rwa [nY h0] at this
structure rN(pr:Int->Prop)(sh:List (Int×Int))(t t':Int):Prop where
 ex:∃k:Nat,1<=k/\t' = (t+k) % sh.length/\pr (dY sh t')/\∀j:Nat,1<=j->j<k->¬ pr (dY sh ((t+j) % sh.length))
theorem rN.congr{pr JL:Int->Prop}{sh:List (Int×Int)}{t t':Int}(e:∀a,pr a↔JL a)(h:rN pr sh t t'):rN JL sh t t':=by
 rw[show pr=JL from funext λa=>propext (e a)] at h;exact h
structure nC(pr:Int->Prop)(sh:List (Int×Int))(t:Int)(m:Nat)(t':Int):Prop where
 ex:∃k k0:Nat,1<=k/\k<=k0/\m+k=k0/\t' = (t+k) % sh.length/\pr (dY sh ((t+k0) % sh.length))/\∀j:Nat,1<=j->j<k->¬ pr (dY sh ((t+j) % sh.length))
theorem nC.start{pr:Int->Prop}{sh:List (Int×Int)}{t:Int}(h0:0<=t)(h1:t<sh.length){p:Int×Int}(hp:p∈sh)(pp:pr p.1):∃m,nC pr sh t m ((t+1) % sh.length):=by
 obtain⟨i,hi,rfl⟩:=r_.mp hp;have ea:∀k0:Nat,(t+k0) % sh.length=(i:Int)->pr (dY sh ((t+k0) % sh.length)):=λk0 e=>by
  rw[e];unfold dY;rw[yF,qG,bx hi];exact pp
 by_cases hc:t<i
 ·refine⟨(i - t.toNat) - 1,1,i - t.toNat,bu _,∅,∅,by simp,ea _ ?_,λj a b=>by lia⟩
  rw[show t+((i - t.toNat:Nat):Int)=i by lia]
  exact BN ∅ ∅
 ·refine⟨(i+sh.length - t.toNat) - 1,1,i+sh.length - t.toNat,bu _,∅,∅,by simp,ea _ ?_,λj a b=>by lia⟩
  rw[show t+((i+sh.length - t.toNat:Nat):Int)=i+sh.length by lia,Int.add_emod_right]
  exact BN ∅ ∅
theorem nC.go{pr:Int->Prop}{sh:List (Int×Int)}{t:Int}{m:Nat}{t':Int}(h:nC pr sh t m t')(np:¬ pr (dY sh t')):∃m',m' < m/\nC pr sh t m' ((t' + 1) % sh.length):=by
 obtain⟨k,k0,k1,kk,hm,rfl,p0,nj⟩:=h.ex;have fH:k≠k0:=λe=>np (e▸p0);refine⟨m - 1,∅,k+1,k0,∅,∅,∅,?_,p0,λj a b=>?_⟩
 ·rw[Int.emod_add_emod,Int.add_assoc];rfl
 ·by_cases e:j=k
  ·rw[e];exact np
  ·exact nj j a ∅
theorem nC.stop{pr:Int->Prop}{sh:List (Int×Int)}{t:Int}{m:Nat}{t':Int}(h:nC pr sh t m t')(p:pr (dY sh t')):rN pr sh t t':=by
 obtain⟨k,k0,k1,kk,hm,e,p0,nj⟩:=h.ex;exact⟨k,k1,e,p,nj⟩
theorem nC.bd{pr:Int->Prop}{sh:List (Int×Int)}{t:Int}{m:Nat}{t':Int}(h:nC pr sh t m t')(n1:1<=sh.length):0<=t'/\t' < sh.length:=by
 obtain⟨k,k0,k1,kk,hm,rfl,_⟩:=h.ex;exact⟨nX _ ∅,pD _ ∅⟩
theorem rN.bd{pr:Int->Prop}{sh:List (Int×Int)}{t t':Int}(h:rN pr sh t t')(n1:1<=sh.length):0<=t'/\t' < sh.length:=by
 obtain⟨k,k1,rfl,_⟩:=h.ex;exact⟨nX _ ∅,pD _ ∅⟩
def here(ds:List Dr)(a:Int):Prop:=(h_ a ds).isSome=true
structure rO(sh:List (Int×Int))(ds:List Dr)(t u t' u':Int):Prop where
 y:cI sh t<=u\/¬ here ds (dY sh t)->rN (here ds) sh t t'/\u' = 1
 n:¬ (cI sh t<=u\/¬ here ds (dY sh t))->t' = t/\u' = u+1
theorem rO.bd{sh:List (Int×Int)}{ds:List Dr}{t u a b:Int}(x:rO sh ds t u a b)(ok:iR sh)(t0:0<=t)(t1:t<sh.length)(u0:0<=u):(0<=a/\a<sh.length)/\0<=b/\b<=cI sh a/\here ds (dY sh a):=by
 have sh1:∀i:Int,0<=i->i<sh.length->1<=cI sh i:=λi h0 h1=>(ok.a _ (iC (vn h0 h1))).2.2.1;by_cases h:cI sh t<=u\/¬ here ds (dY sh t)
 ·obtain⟨x1,rfl⟩:=x.y h;have:=x1.bd ok.n1;have:=sh1 a this.1 this.2;exact⟨by assumption,⋯,∅,let ⟨_,_,_,p,_⟩:=x1.ex;p⟩
 ·obtain⟨rfl,rfl⟩:=x.n h;refine⟨⟨t0,t1⟩,∅,∅,?_⟩
  exact vU.mp λz=>h (.inr z)
theorem rO.bt{sh:List (Int×Int)}{ds:List Dr}{t u a b:Int}(x:rO sh ds t u a b)(ok:iR sh)(t0:0<=t)(t1:t<sh.length):0<=a/\a<sh.length/\here ds (dY sh a):=by
 by_cases h:cI sh t<=u\/¬ here ds (dY sh t)
 ·obtain⟨x1,rfl⟩:=x.y h;have:=x1.bd ok.n1;exact⟨this.1,this.2,let ⟨_,_,_,p,_⟩:=x1.ex;p⟩
 ·obtain⟨rfl,rfl⟩:=x.n h;exact⟨t0,t1,vU.mp λz=>h (.inr z)⟩
def agz(C:Addr):Sp:=λvs H Q _=>∃(x dx pl:Addr) (fs:List (Str×V)),vs = [.ref x]/\H x=some (.ins C dx fs)/\(fs = [(("pairs" : Str),V.ref pl)]\/∃t u,fs=jf pl t u)/\∀H',SameBut x H H'->H' x=some (.ins C dx (jf pl 0 0))->Q .aR H'
def agA(K:W.Frag)(CA CD:Addr):Sp:=λvs H Q _=>∃(D:Addr) (ps:List Addr) (ds:List Dr),vs = [.ref D]/\tE K CA CD H D ps ds/\ds.length<=100/\
 ∀B kvs H',aq H H'->H B=none->H' B=some (.dK kvs)->kvs.length<=1000->xO ds kvs->Q (.ref B) H'
def Wr(sh:List (Int×Int))(kvs:List (Key×V)):Prop:=∀p∈kvs,∃a∈sh.map (·.1),p.1=bN a
theorem agB{kvs:List (Key×V)}{k:Key}(h:(bV kvs k).isSome=true):∃p∈kvs,p.1=k:=by
 unfold bV at h;rw[yJ] at h;obtain⟨p,hp⟩:=wc.mp h;exact⟨p,List.mem_of_find?_eq_some hp,qJ (List.find?_some hp :)⟩
theorem xO.here{ds:List Dr}{kvs:List (Key×V)}(lo:xO ds kvs)(a:Int):(bV kvs (bN a)).isSome=true↔here ds a:=by
 unfold _L.here;rw[lo.v,yJ]
theorem xO.known{ds:List Dr}{kvs:List (Key×V)}{sh:List (Int×Int)}(lo:xO ds kvs):Wr sh kvs↔∀d∈ds,d.q.bB∈sh.map (·.1):=by
 refine⟨λkn d hd=>?_,λh p hp=>let ⟨d,hd,e⟩:=lo.k p hp;⟨_,h d hd,e⟩⟩
 obtain⟨p,hp,e⟩:=agB ((lo.here _).mpr (JK hd rfl));obtain⟨a,ha,e'⟩:=kn p hp;rw[e] at e';cases e';exact ha
theorem fV.but{C:Addr}{H H':Hp}{x dx pl B:Addr}{bR:List Addr}{sh:List (Int×Int)}{t u:Int}{kvs:List (Key×V)}(h:fV C H x sh t u dx pl bR)(s:SameBut B H H')(hB:H B=some (.dK kvs)):fV C H' x sh t u dx pl bR :=
 ⟨s _ _ h.o (λz=>by have:=h.o;rw[z,hB] at this;cases this),s _ _ h.p.l (λz=>by have:=h.p.l;rw[z,hB] at this;cases this),h.p.n,λi t p e1 e2=>s _ _ (h.p.t i t p e1 e2) (λz=>by have:=h.p.t i t p e1 e2;rw[z,hB] at this;cases this)⟩
theorem fV.set{C:Addr}{H H':Hp}{x dx pl:Addr}{bR:List Addr}{sh:List (Int×Int)}{t u t' u':Int}(h:fV C H x sh t u dx pl bR)(s:SameBut x H H')(hx:H' x=some (.ins C dx (jf pl t' u'))):fV C H' x sh t' u' dx pl bR :=
 ⟨hx,s _ _ h.p.l (λz=>by have:=h.p.l;rw[z,h.o] at this;cases this),h.p.n,λi t p e1 e2=>s _ _ (h.p.t i t p e1 e2) (λz=>by have:=h.p.t i t p e1 e2;rw[z,h.o] at this;cases this)⟩
def agC(C:Addr):Sp:=λvs H Q _=>∃(x B dx pl:Addr) (bR:List Addr) (sh:List (Int×Int)) (t u:Int) (kvs:List (Key×V)),vs = [.ref x,.ref B]/\fV C H x sh t u dx pl bR/\0<=t/\t<sh.length/\sh.length<=4/\Rd H B (.dK kvs)/\(∃p∈sh,(bV kvs (bN p.1)).isSome=true)/\
 ∀t',rN (λa=>(bV kvs (bN a)).isSome=true) sh t t'->Q (.int t') H
section
variable{H H':Hp}{l:Addr}{ts kD:List Addr}{z z2:List (Int×Int)}
end
section
variable{K:W.Frag}{CA CD:Addr}{H H':Hp}{D D':Addr}{ts kD:List Addr}{ps DX:List Dr}
end
structure Ws(K:W.Frag)(CA CD CS:Addr)(H6:Hp)(shl:Addr)(jk:List Addr)(x1 d1 pl:Addr)(bR:List Addr)(S:Addr)(sh:List (Int×Int))(nc:List (Int×Int))(m:Nat)(H':Hp)(Lp Dd:Addr)(iP:List Addr)(fz:List Dr)(iQ:List Addr)(fB:List Dr)(t u:Int):Prop where
 kt:cW H6 H'
 s:H' S=some (.lst [.int t,.int u])
 x:fV CS H' x1 sh t u d1 pl bR
 t0:0<=t
 t1:t<sh.length
 u0:0<=u
 u1:u<=cI sh t
 pp:qi K CA CD H' Lp Lp iP fz
 dd:qi K CA CD H' Dd Dd iQ fB
 bo:An nc fB fz
 ak:∀p∈fB++fz,p.q.bB∈sh.map (·.1)
 hm:fB.length+fz.length=m
noncomputable def Wt(K:W.Frag)(CA CD CS:Addr)(H6:Hp)(a p wt al shl:Addr)(jk:List Addr)(st:Int)(hd x1 d1 pl:Addr)(bR:List Addr)(S:Addr)(sh:List (Int×Int))(nc:List (Int×Int))(m:Nat)(σ:St)(H':Hp):Prop :=
 ∃(Lp Dd:Addr) (iP:List Addr) (fz:List Dr) (iQ:List Addr) (fB:List Dr) (t u:Int) (jB oY Ao:Option V),σ = [some (.ref a),some (.ref p),some (.ref wt),some (.ref al),some (.ref shl),some (.ref Lp),some (.int st),some (.ref hd),some (.ref x1),some (.ref S),some (.ref Dd),jB,oY,Ao]/\
  Ws K CA CD CS H6 shl jk x1 d1 pl bR S sh nc m H' Lp Dd iP fz iQ fB t u
@[elab_as_elim] theorem Wt.el{K:W.Frag}{CA CD CS:Addr}{H6:Hp}{a p wt al shl:Addr}{jk:List Addr}{st:Int}{hd x1 d1 pl:Addr}{bR:List Addr}{S:Addr}{sh:List (Int×Int)}{nc:List (Int×Int)}{m:Nat}{σ:St}{H':Hp}{X:St->Prop}(h:Wt K CA CD CS H6 a p wt al shl jk st hd x1 d1 pl bR S sh nc m σ H')
  (k:∀(Lp Dd:Addr) (iP:List Addr) (fz:List Dr) (iQ:List Addr) (fB:List Dr) (t u:Int) (jB oY Ao:Option V),Ws K CA CD CS H6 shl jk x1 d1 pl bR S sh nc m H' Lp Dd iP fz iQ fB t u->X [some (.ref a),some (.ref p),some (.ref wt),some (.ref al),some (.ref shl),some (.ref Lp),some (.int st),some (.ref hd),some (.ref x1),some (.ref S),some (.ref Dd),jB,oY,Ao]):X σ:=by
 obtain⟨Lp,Dd,iP,fz,iQ,fB,t,u,jB,oY,Ao,rfl,f⟩:=h;exact k Lp Dd iP fz iQ fB t u jB oY Ao f
theorem agD{f lp mo:Int}{n:Nat}(f0:0<=f)(l1:1<=lp)(l2:lp<=18)(n4:n<=4):((List.range n).map λ(k:Nat)=>(f+(k:Int)*lp) % 19+mo).Nodup:=by
 rw[pJ,qH,v_];intro i j hi hj oK;simp only[List.length_range] at hi hj;simp only[List.getElem_range];have:(i=0/\j=1)\/(i=0/\j=2)\/(i=0/\j=3)\/(i=1/\j=2)\/(i=1/\j=3)\/(i=2/\j=3):=by lia
 rcases this with⟨rfl,rfl⟩ | ⟨rfl,rfl⟩ | ⟨rfl,rfl⟩ | ⟨rfl,rfl⟩ | ⟨rfl,rfl⟩ | ⟨rfl,rfl⟩ <;> lia
def agE:Sp:=λvs H Q _=>∃(c:Int),vs = [.int c]/\∀(l:Addr) (xs:List Int) (H':Hp),aq H H'->H l=none->H' l=some (.lst (xs.map V.int))->1<=xs.length->xs.length<=4->(∀x∈xs,0<=x/\x<=20)->xs.Nodup->Q (.ref l) H'
def agF(K:W.Frag):Sp:=λvs H Q _=>∃(c lz:Int) (l t aa:Addr) (ts:List Addr) (qs:List Ak) (rc:List Int) (aG sk:Int) (sw:List Int) (ca sa na:Addr) (gO:List Addr) (nc:List (Int×Int)) (as:List Int),vs = [.int c,.ref l,.int lz,.ref t,.ref aa]/\iz H l ts qs/\qs.length<=42/\
 xK H t rc aG sk sw ca sa na gO nc/\1<=nc.length/\nc.length<=1000000/\1<=aG/\aG<=1000000000/\H aa=some (.lst (as.map V.int))/\1<=as.length/\(∀x∈as,0<=x/\x<=20)/\0<=lz/\lz<=1000000000000/\
 ∀p q m b H',aq H H'->H p=none->ni H' p q m b->rL nc.length q->q.at_=lz->(q.kind = "rest"\/q.bB∈as)->Q (.ref p) H'
theorem KV.vl:∀ {kvs:List (Key×V)} {vs:List (Key×Value)},KV kvs vs->∀ {i:Nat} {p:Key×V},kvs[i]? = some p->∃k v,vs[i]? = some (k,v)/\RelV p.2 v
 | _,_,.nil,i,p,e=>by simp at e
 | _,_,.cons (b:=q) r t,0,p,e=>by
  cases e;exact⟨q.1,q.2,rfl,r.2⟩
 | _,_,.cons r t,i+1,p,e=>KV.vl t (i:=i) e
noncomputable def Wu(a:Addr)(ob:Obj)(kvs:List (Key×V)):It :=
 ⟨λi H=>H a=some (.cK ob (.dK kvs))/\i<kvs.length,λi H x H'=>H' = H/\∃p,kvs[i]? = some p/\x=p.2,λi H=>H a=some (.cK ob (.dK kvs))/\kvs.length<=i⟩
theorem agG{P:Program}{w:World}{K:W.Frag}{tg:Expr}(a it:Addr){ob:Obj}{kvs:List (Key×V)}{es:Array DictEntry}{ep:Nat}(nA:ob.data = .dict es ep) :
  Turn P w K tg (Wu a ob kvs) [it] it (λi h=>h.IsValIter it a i kvs.length ep) where
 mem:=by simp
 obj:=λi h st b hb=>by
  have e:b=it:=by simpa using hb
  subst e;obtain⟨o,e,c,d⟩:=st;exact⟨o,e,λv z=>by rw[d] at z;cases z⟩
 keep:=λi h h' st k=>let ⟨o,e,r⟩:=st;⟨o,k it (by simp) o e,r⟩
 item:=by
  intro X hP hw hK hc i pins s σ H E I hf st hg;subst hP hw hK;obtain⟨hq,hi⟩:=hg;obtain⟨vs,kv,da⟩:=D3 nA (I.aL a _ hq);have ek:kvs[i]? = some kvs[i]:=bx hi;obtain⟨k,v,ev,rv⟩:=kv.vl ek;obtain⟨f0,f1,f2,f3,f4,f5⟩:=hf it (by simp)
  have hl:kvs.length=vs.length:=kv.length;refine wpAny_pyNext_values_item (hl▸st) da ev λh' gi sb=>?_;have I1:Inv X pins σ H { s with heap:=h' }:=I.turned (t':=s.toks) (λb o hb e=>(sb.2 b hb).trans e) f0 f1 f3 f4 f5;obtain⟨o,e,c,d⟩:=id gi;exact⟨v,rfl,y_ (s:={ s with heap:=h' }) e c d ⋯ ⟨_,H,I1,rv,⟨rfl,kvs[i],ek,rfl⟩,hl▸gi,λb hb=>(hf b hb).1⟩⟩
 done:=by
  intro X hP hw hK hc i pins s σ H E I hf st hg;subst hP hw hK;obtain⟨hq,hi⟩:=hg;obtain⟨vs,kv,da⟩:=D3 nA (I.aL a _ hq);obtain⟨f0,f1,f2,f3,f4,f5⟩:=hf it (by simp)
  have hl:kvs.length=vs.length:=kv.length;exact wpAny_pyNext_values_end (I.ok.hd hc) (hl▸st) da (uv ∅) λh' eb=>⟨rfl,I.turned (t':=s.toks) (λb o hb e=>eb b o hb e) f0 f1 f3 f4 f5⟩
 self:=λA i s Q E st h=>wpAny_pyIter_valiter st h
section
variable{X:Cx}{o:Expr}{to:TE}{apos gc:Pos}{tg:Expr}
def JM(K:W.Frag)(td:TE):TI:=λσ H R=>td σ H λx H1=>∃a kvs,x = .ref a/\H1 a=some (.dK kvs)/\∀ob,R (Wu a ob kvs) (upd H1 a (.cK ob (.dK kvs)))
theorem Wv(ho:PE X o to)(HD:attributeBase o "values" X.env (eval o X.env)=eval o X.env:=by rfl)(HE:(apos.endLine == gc.line)=true:=by rfl):PI X tg (.Call (.Attribute o "values" apos) [] [] gc) (JM X.K to):=by
 intro pins s σ H R I h;refine wpAny_Call_method0_late HD HE (aO (ho pins s σ H _ I h) λv s1 ⟨x,H1,I1,r1,q1⟩=>?_);obtain⟨a,kvs,e,hq,q⟩:=q1;subst e;have ty:CV X.K "dict" (.ref a) H1:=.inr (.inr (.inl ⟨rfl,.inl ⟨kvs,hq⟩⟩));obtain⟨h1,h2⟩:=TV I1 r1 ty;refine⟨"dict", "dict.values",GJ,PySem.F.slot_dict_values,PySem.F.type_dict_values,h1,h2,BJ rfl (PySem.evalArgs_none ?_)⟩;cases r1;obtain⟨hz,hS,vs,kv,ob,es,ep,nA,c,d,r⟩:=C0 I1.aL hq;have ln:kvs.length=vs.length:=kv.length;refine B_ PySem.F.slot_dict_values h1 PySem.F.entry_dict_values (PySem.F.args_dict_values_1 _) (meets_dict_values (c_ X.prog X.w) a hS) ⟨⟨vs,ob,es,ep,nA,c,d,r⟩,?_⟩;have I2:=I1.freeze hq nA;have I3:=I2.kept (t':=s1.toks) (h':=s1.heap.push { cls:=.type "dict_values",data:=.fields #[.ref a] }) λb o e=>bW _ e;refine wpAny_pyIter_values (knd:=c_ X.prog X.w) (kvs:=vs) (ep:=ep) ⟨_,e_ _ rfl,rfl,rfl⟩ ⟨ob,es,bW _ nA,c,d,r⟩ ?_;have I4:=I3.kept (t':=s1.toks) (h':=(s1.heap.push { cls:=.type "dict_values",data:=.fields #[.ref a] }).push { cls:=.type "dict_valueiterator",data:=.fields #[.ref a,.int 0 0,.int vs.length 0,.int ep 0] }) λb o e=>bW _ e;refine⟨(s1.heap.push { cls:=.type "dict_values",data:=.fields #[.ref a] }).objs.size,[(s1.heap.push { cls:=.type "dict_values",data:=.fields #[.ref a] }).objs.size],_,_,_,rfl,I4,agG a _ d,⟨_,e_ _ rfl,rfl,by rw[ln];rfl⟩,λb hb=>?_,q ob⟩
 have e:b=(s1.heap.push { cls:=.type "dict_values",data:=.fields #[.ref a] }).objs.size:=by simpa using hb
 subst e;exact I3.qN (bu _) (I3.aL.fresh (bu _))
theorem Inv.agH{pins:List (Addr×Obj)}{σ:St}{H:Hp}{s:Shared}{a:Addr}{kvs:List (Key×V)}{ob:Obj}(I:Inv X pins σ H s)(e:H a=some (.cK ob (.dK kvs)))(h0:∀o u,X.iF a≠some (.cK o u)):Inv X pins σ (upd H a (.dK kvs)) s:=by
 have up:∀b v,H b=some v->b≠a->upd H a (.dK kvs) b=some v:=λb v q n=>by rw[aB n];exact q
 have na:∀b v,H b=some v->(∀o u,v≠.cK o u)->b≠a:=λb v q n z=>by rw[z,e] at q;exact n _ _ (dD q).symm
 have un:∀b,H b=none->upd H a (.dK kvs) b=none:=λb q=>by rw[aB (λz=>by rw[z,e] at q;cases q)];exact q
 refine⟨I.ok,I.os,I.bare,⟨I.base.keep,I.base.slot,λb o q n hx=>un b (I.base.free b o q n hx),I.base.there,λb xs q=>up b _ (I.base.pM b xs q) (na b _ (I.base.pM b xs q) λ_ _ z=>nomatch z),λb o u q=>up b _ (I.base.ou b o u q) (λz=>by rw[z] at q;exact h0 _ _ q),λb ps q=>let ⟨m,z⟩:=I.base.pN b ps q;⟨m,up b _ z (na b _ z λ_ _ y=>nomatch y)⟩⟩,
  I.loc,I.cell,un _ I.free,λx c q=>un c (I.mC x c q),λp hp=>let ⟨q1,q2,q3⟩:=I.pin p hp;⟨q1,un _ q2,q3⟩,λb v q=>?_,I.len⟩
 by_cases z:b=a
 ·subst z;rw[aD] at q;cases q;have x:=(I.aL b _ e).2;exact x.kJ (λ_ _ _ e=>e) (λd q=>up d _ q (na d _ q λ_ _ z=>nomatch z)) (λd xs q=>up d _ q (na d _ q λ_ _ z=>nomatch z))
 ·rw[aB z] at q;exact(I.aL b v q).kJ (λ_ _ _ e=>e) (λd q=>up d _ q (na d _ q λ_ _ z=>nomatch z)) λd xs q=>up d _ q (na d _ q λ_ _ z=>nomatch z)
def agI(iF:Hp)(t:TE):TE:=λσ H Q=>t σ H λv H1=>∃a ob kvs,H1 a=some (.cK ob (.dK kvs))/\(∀o u,iF a≠some (.cK o u))/\Q v (upd H1 a (.dK kvs))
end
theorem agJ{prog:Program}{w:World}{A:Around}{s:Shared}{a b:Int}{t u:Tok}{Q:Value->Shared->Prop}{E:Value->Shared->Prop}(h:Q (.bool (decide (a<b))) s):wpAny (model prog w) A (richCompare .Lt (.int a t) (.int b u)) Q E s :=
 CmpOf.ints_lt (P:=λi v=>(i=0/\v = .int a t)\/(i=1/\v = .int b u)) (λi=>if i=0 then a else b) (by
  rintro i v (⟨rfl,rfl⟩ | ⟨rfl,rfl⟩)
  ·exact⟨t,rfl⟩
  ·exact⟨u,rfl⟩) 0 1 _ _ s Q E (.inl ⟨rfl,rfl⟩) (.inr ⟨rfl,rfl⟩) h
theorem JN:∀ {us:List Value} {ns:List Int},IntsAre us ns->∀ {j:Nat} {v:Value},us[j]? = some v->∃n t,ns[j]? = some n/\v = .int n t
 | _,_,.nil,j,v,e=>by simp at e
 | _,_,.cons n t r,0,v,e=>⟨n,t,rfl,by simpa using e.symm⟩
 | _,_,.cons n t r,j+1,v,e=>JN r (j:=j) (by simpa using e)
def vo(ns:List Int)(j:Nat)(m:Int):Prop:=m∈ns.take j/\∀a∈ns.take j,m<=a
theorem vo.step{ns:List Int}{j:Nat}{m v:Int}(h:vo ns j m)(e:ns[j]? = some v):vo ns (j+1) (if v<m then v else m):=by
 unfold vo;rw[take_succ_get e];obtain⟨h1,h2⟩:=h;by_cases c:v<m
 ·rw[if_pos c];refine⟨by simp,λa ha=>?_⟩
  rcases cF.mp ha with ha | ha
  ·have:=h2 a ha;lia
  ·rw[cj.mp ha];exact iW _
 ·rw[if_neg c];refine⟨n8 _ h1,λa ha=>?_⟩;rcases cF.mp ha with ha | ha
  ·exact h2 a ha
  ·rw[cj.mp ha];lia
noncomputable def agK(v:Value)(c:Nat):Obj:={ cls:=.type "list",dict:=none,data:=.seq #[v,v] c,slots := #[] }
section
variable{prog:Program}{w:World}{A:Around}{R:Result->Shared->Prop}{l I S:Addr}{us:List Value}{ns:List Int}{kw:List (Str×Value)}
theorem agL(hh:A.handled=none)(tF:l≠I)(rK:S≠l)(gI:S≠I)(hi:IntsAre us ns):∀(k j:Nat) (s:Shared) (m:Int) (t:Tok) (c:Nat),j+k=us.length->
  s.heap.IsListIter I l j->s.heap.IsList l us.toArray->s.heap.get? S=some (agK (.int m t) c)->vo ns j m->
  (∀h' tk M t',vo ns us.length M->(∀b o,b≠S->b≠I->s.heap.get? b=some o->h'.get? b=some o)->R (.ok (.ret (.int M t'))) { s with heap:=h',toks:=tk })->
  codeAny (model prog w) A (.builtin "min.loop" ⟨[.ref I,.none,.ref S],kw⟩) R s:=by
 have W:=uA (prog:=prog) (w:=w) (A:=A.in1) hh I l tF us.toArray;have fS:S∉[I]:=by simpa using gI
 have nm:(toString "min" ++ toString ".loop" : String) = "min.loop" := by decide
 intro k
 induction k with
 | zero =>
  intro j s m t c hj hit hl hS lo hR;have hj:j=us.length:=hj;subst hj;refine iD Gn ?_;rw[iV uo _]
  show wpAny _ A.in1 (seqItems? (.ref S) >>= _) _ _ _;apply aF;refine uD hS rfl ?_
  show wpAny _ A.in1 (tryCatch (pyNext (.ref I)) _ >>= _) _ _ _;apply aF;refine qK (W.done s _ _ ⟨by simpa using hit,hl⟩ λh' tk kk=>?_)
  show wpAny _ A.in1 (updateSeq S (λ_ => #[]) >>= _) _ _ _;apply aF;refine wA (kk S _ fS hS) rfl (aF (sG (aV ?_)));exact hR _ tk m t lo λb o b1 b2 e=>(l9 _ _ (dR b1)).trans (kk b o (by simpa using b2) e)
 | succ k ih =>
  intro j s m t c hj hit hl hS lo hR;have jl:j<us.length:=by lia
  refine iD Gn ?_;rw[iV uo _]
  show wpAny _ A.in1 (seqItems? (.ref S) >>= _) _ _ _;apply aF;refine uD hS rfl ?_
  show wpAny _ A.in1 (tryCatch (pyNext (.ref I)) _ >>= _) _ _ _;apply aF;refine qK (W.item j s _ _ (by simpa using jl) ⟨hit,hl⟩ λv h' tk hP gi kk=>?_)
  have ev:us[j]? = some v:=by simpa using hP
  obtain⟨n,tn,en,rfl⟩:∃n tn,ns[j]? = some n/\v = .int n tn:=JN hi ev;have gn:=kk S _ fS hS;have D4:=lo.step en;have old:∀b o,b≠S->b≠I->s.heap.get? b=some o->h'.get? b=some o:=λb o _ b2 e=>kk b o (by simpa using b2) e
  show wpAny _ A.in1 (tryCatch (holding [.int n tn,.int n tn] (richCompare .Lt (.int n tn) (.int m t) >>= _)) _ >>= _) _ _ _;apply aF;refine qK (jg (aF (agJ ?_)));refine aF (jg (oq (aF (sG (aV ?_)))));by_cases hc:n<m
  ·rw[ig hc,if_pos rfl];rw[if_pos hc] at D4;apply aF;refine wA gn rfl (aF (sG ?_));rw[nm];have iI:=W.frame (j+1) h' (h'.update S (Obj.mapSeq λ_ => #[.int n tn,.int n tn])) gi λb hb o e=>(l9 _ _ (λz:S=b=>by
    rw[← z] at hb;rcases cg.mp hb with y | y
    ·exact gI y
    ·exact rK (cj.mp y))).trans e
   refine aV ⟨iY uo _,ih (j+1) _ n tn _ ∅ iI.1 iI.2 (qB _ gn rfl) D4 λh2 dZ M t2 a1 a2=>hR h2 dZ M t2 a1 λb o b1 b2 e=>a2 b o b1 b2 ((l9 _ _ (dR b1)).trans (old b o b1 b2 e))⟩
  ·rw[jG hc,if_neg ⋯]
   rw[if_neg hc] at D4;apply aF;refine sG ?_;rw[nm];exact aV ⟨iY uo _,ih (j+1) _ m t c ∅ gi.1 gi.2 gn D4 λh2 dZ M t2 a1 a2=>hR h2 dZ M t2 a1 λb o b1 b2 e=>a2 b o b1 b2 (old b o b1 b2 e)⟩
theorem agM{n0:Int}{nr:List Int}(hh:A.handled=none)(tF:l≠I)(rK:S≠l)(gI:S≠I)(hi:IntsAre us (n0::nr)){s:Shared}{c:Nat}(hit:s.heap.IsListIter I l 0)(hl:s.heap.IsList l us.toArray)(hS:s.heap.get? S=some { cls:=.type "list",dict:=none,data:=.seq #[] c,slots := #[] })
  (hR:∀h' tk M t',vo (n0::nr) us.length M->(∀b o,b≠S->b≠I->s.heap.get? b=some o->h'.get? b=some o)->R (.ok (.ret (.int M t'))) { s with heap:=h',toks:=tk }) :
  codeAny (model prog w) A (.builtin "min.loop" ⟨[.ref I,.none,.ref S],kw⟩) R s:=by
 have W:=uA (prog:=prog) (w:=w) (A:=A.in1) hh I l tF us.toArray;have fS:S∉[I]:=by simpa using gI
 have nm:(toString "min" ++ toString ".loop" : String) = "min.loop" := by decide
 have ul:0<us.length:=by have:=hi.length;simp at this;lia
 refine iD Gn ?_;rw[iV uo _]
 show wpAny _ A.in1 (seqItems? (.ref S) >>= _) _ _ _;apply aF;refine uD hS rfl ?_
 show wpAny _ A.in1 (tryCatch (pyNext (.ref I)) _ >>= _) _ _ _;apply aF;refine qK (W.item 0 s _ _ (by simpa using ul) ⟨hit,hl⟩ λv h' tk hP gi kk=>?_)
 have ev:us[0]? = some v:=by simpa using hP
 obtain⟨n,tn,en,rfl⟩:=JN hi ev;cases en;have gn:=kk S _ fS hS
 show wpAny _ A.in1 (updateSeq S (λ_ => #[.int n0 tn,.int n0 tn]) >>= _) _ _ _;apply aF;refine wA gn rfl ?_;rw[nm];have iI:=W.frame 1 h' (h'.update S (Obj.mapSeq λ_ => #[.int n0 tn,.int n0 tn])) gi λb hb o e=>(l9 _ _ (λz:S=b=>by
  rw[← z] at hb;rcases cg.mp hb with y | y
  ·exact gI y
  ·exact rK (cj.mp y))).trans e
 exact aV ⟨iY uo _,agL hh tF rK gI hi (us.length - 1) 1 _ n0 tn _ ∅ iI.1 iI.2 (qB _ gn rfl) ⟨by simp,λa ha=>by simp at ha;lia⟩ λh2 dZ M t2 a1 a2=>hR h2 dZ M t2 a1 λb o b1 b2 e=>a2 b o b1 b2 ((l9 _ _ (dR b1)).trans (kk b o (by simpa using b2) e))⟩
end
section
variable{X:Cx}{e d:Expr}{tl td:TE}{p1 p4 kp:Pos}
theorem agN(a v:Value):argsOk "min" ⟨[a],[(Str.ofString "default",v)]⟩:=by unfold argsOk;kernel_rfl
def Ww(K:W.Frag)(tl td:TE):TE:=λσ H Q=>tl σ H λx H1=>∃(l:Addr) (ns:List Int),x = .ref l/\td σ H1 λ_ H2=>aE K H2 l (ns.map V.int)/\0<ns.length/\∀M,M∈ns->(∀a,a∈ns->M<=a)->Q (.int M) H2
theorem agO(hg:Gl X "min")(hm:X.mg "min" = none)(hc:X.calm=true)(hl:PE X e tl)(hd:PE X d td)(hs:starEach [e] X.env = [(false,eval e X.env)]:=by rfl) :
  PE X (.Call (.Name "min" p1) [e] [⟨some "default",d,kp⟩] p4) (Ww X.K tl td):=by
 intro pins s σ H Q I h;refine uB (mF I hg hm sy (callWith_kw (he:=by rw[hs];rfl) (hplain:=by rw[hs];rfl) ?_))
 rw[hs];refine rX (aO (hl pins s σ H _ I h) λu s1 ⟨v,H1,I1,r1,q1⟩=>?_);obtain⟨l,ns,rfl,q1⟩:=q1;cases r1;refine um (kws_cons (aO (hd pins s1 σ H1 _ I1 q1) λdv s2 ⟨_,H2,I2,_,hq,hn,q⟩=>kws_nil ?_));have hh:=I2.ok.hd hc;obtain⟨us,rv,pl,_⟩:=I2.list hq;have hi:IntsAre us ns:=intsAre_of rv;obtain⟨n0,nr,rfl⟩:=List.exists_cons_of_ne_nil (List.length_pos_iff.mp hn);have nm:(toString "min" ++ toString ".loop" : String) = "min.loop" := by decide
 refine kmk_tree PySem.F.kind_min PySem.F.plain_min PySem.F.entry_min (agN _ _) ?_
 show wpAny _ X.A.in1 (Builtin.Builtins.bindParams "min" ["key", "default"] 0 ⟨[],[(Str.ofString "default",dv)]⟩ >>= _) _ _ s2;refine aF (Cc (show Builtin.Builtins.bindParams "min" ["key", "default"] 0 ⟨[],[(Str.ofString "default",dv)]⟩=pure [none,some dv] from rfl) (aF (aV ?_)));refine aF (wz pl.isList (aF (Cb ?_ (eX _))));rw[nm];have k1:∀b o,s2.heap.get? b=some o->(s2.heap.push { cls:=.type "list_iterator",data:=.fields #[.ref l,.int 0 0] }).get? b=some o:=λb o e=>bW _ e;generalize hq1:s2.heap.push { cls:=.type "list_iterator",data:=.fields #[.ref l,.int 0 0] }=hp at k1 ⊢;have hI:hp.get? s2.heap.objs.size=some { cls:=.type "list_iterator",data:=.fields #[.ref l,.int 0 0] }:=hq1▸e_ _ rfl;have lI:s2.heap.objs.size<hp.objs.size:=bK hI;have D5:=pl.isList;obtain⟨ol,gl,_⟩:=id D5;have ll:l<s2.heap.objs.size:=bK gl;refine aV ⟨iY uo _,agM (I:=s2.heap.objs.size) (S:=hp.objs.size) hh (b9 ll) (kG (iX ll lI)) (kG lI) hi ⟨_,bW _ hI,rfl,rfl⟩ ((D5.at λo e=>bW _ (k1 _ _ e))) (e_ _ rfl) λh' tk M t' lo old=>?_⟩;obtain⟨m1,m2⟩:=lo;have e:(n0::nr).take us.length=n0::nr:=List.take_of_length_le (by have:=hi.length;lia)
 rw[e] at m1 m2;refine⟨.int M,H2,I2.kept (t':=tk) λb o e=>old b o (λz=>?_) (λz=>?_) (bW _ (k1 b o e)),⟨_,rfl⟩,q M m1 m2⟩
 ·exact absurd (iX (z▸bK e) lI) (jX _)
 ·exact absurd (z▸bK e) (jX _)
end
section
variable{X:Cx}{CX:jq}{k1 k2:Nat}{f1 f2:Addr}{cs1 cs2:List Addr}{DV DW:FuncData}{ps1 DX:List Str}{Am Wd:Sp}{E:XK}{m:Str}{pos apos:Pos}{o:Expr}{ta:TE}
end
section
variable{K:W.Frag}{C:Addr}{H H':Hp}{l p D:Addr}{ps:List Addr}{qs:List Ak}{q:Ak}{m b dx:Addr}{xs ys:List V}
theorem fJ.iK(hD:H D=some (.lst xs))(h:fJ K C H p q m b dx):fJ K C (upd H D (.lst ys)) p q m b dx :=
 ⟨by rw[aB (λz=>by have:=h.o;rw[z,hD] at this;cases this)];exact h.o,
  by rw[aB (λz=>by have:=h.ms;rw[z,hD] at this;cases this)];exact h.ms,
  by rw[aB (λz=>by have:=h.bh;rw[z,hD] at this;cases this)];exact h.bh⟩
theorem iy.snoc(h:iy K C H l ps qs)(ha:fJ K C H p q m b dx):iy K C (upd H l (.lst (ps.map V.ref++[V.ref p]))) l (ps++[p]) (qs++[q]):=by
 refine⟨by rw[aD,bO];rfl,by simp[h.n],λi p' q' e1 e2=>?_⟩
 have hn:=h.n;by_cases hi:i<ps.length
 ·rw[gw hi] at e1;rw[gw ∅] at e2
  obtain⟨m',b',iw,z⟩:=h.t i p' q' e1 e2;exact⟨m',b',iw,z.iK h.l⟩
 ·rw[gz ∅] at e1
  rw[gz ∅] at e2
  have f_:i - ps.length=0:=by
   have:=(fD.mp e1).1;simp at this;lia
  rw[f_] at e1;rw[← hn,f_] at e2;simp at e1 e2;subst e1 e2;exact⟨m,b,dx,ha.iK h.l⟩
end
def gP(x:Addr)(H H':Hp):Prop:=∀b o,H b=some o->b≠x->(∀ps,o≠.fY ps)->H' b=some o
section
variable{x:Addr}{H H1 H2:Hp}
theorem gP.of(s:SameBut x H H1):gP x H H1:=λ_ _ e n _=>s _ _ e n
theorem gP.trans(a:gP x H H1)(b:gP x H1 H2):gP x H H2:=λ_ _ e n z=>b _ _ (a _ _ e n z) n z
end
theorem agP{K:W.Frag}{iF H:Hp}{σ:St}{g:TG}{tt:TT}{te td:TE}{nt:Nat}{fv:List Nat}{Q:VK}(a:Addr)(kvs:List (Key×V))(Pv:Obj->Addr->Nat->List V->St->Hp->Prop)(JO:∀Q:VK,Q (.ref a) H->td σ H Q)(hq:H a=some (.dK kvs))(JP:∀o u,iF a≠some (.cK o u))
  (h0:∀ob D,H D=none->Pv ob D 0 [] (kQ σ nt fv) (upd (upd H a (.cK ob (.dK kvs))) D (.lst []))) (hD:∀ob D i ys σ H,Pv ob D i ys σ H->H D=some (.lst ys)/\ys.length<sizeLine/\H a=some (.cK ob (.dK kvs)))
  (hs:∀ob D i x ys aA H2 (N:List V->St->Hp->Prop),(∀ys σ H,Pv ob D (i+1) ys σ H->N ys σ H)->kvs[i]? = some x->Pv ob D i ys aA H2->g x.2 aA H2 λbX H4=>tt bX H4 λb H5=>if b=true then te bX H5 λv H6=>H6 D=some (.lst ys)/\N (ys++[v]) bX (upd H6 D (.lst (ys++[v]))) else N ys bX H5)
  (hd:∀ob D ys aA H2,Pv ob D kvs.length ys aA H2->Q (.ref D) (upd H2 a (.dK kvs))):agI iF (lP (JM K td) g tt te nt fv) σ H Q:=by
 refine JO _ ⟨a,kvs,rfl,hq,λob D kU=>?_⟩;have na:D≠a:=λz=>by rw[z,aD] at kU;cases kU
 have hD1:H D=none:=by rw[aB na] at kU;exact kU
 refine⟨λi m ys aA H2=>m=kvs.length - i/\i<=kvs.length/\Pv ob D i ys aA H2,⟨_,rfl,eX _,h0 ob D hD1⟩,?_⟩;rintro i m ys aA H2 ⟨rfl,gG,p⟩;obtain⟨d1,d2,d3⟩:=hD ob D i ys aA H2 p;refine⟨d1,d2,?_⟩;by_cases bM:i<kvs.length
 ·refine .inr ⟨⟨d3,bM⟩,λx H3 y=>?_⟩;obtain⟨e1,c,e2,e3⟩:=y;subst e1;subst e3;exact hs ob D i c ys aA H3 (λJQ bq H'=>∃m',m' < kvs.length - i/\m' = kvs.length - (i+1)/\i+1<=kvs.length/\Pv ob D (i+1) JQ bq H') (λys σ H p=>⟨_,∅,rfl,∅,p⟩) e2 p
 ·have:i=kvs.length:=by lia
  subst this;exact .inl ⟨⟨d3,bu _⟩,a,ob,kvs,d3,JP,hd ob D ys aA H2 p⟩
def Wx(iF:Hp)(t:TS):TS:=λD σ H=>t { D with nx:=λfh H1=>∃a ob kvs,H1 a=some (.cK ob (.dK kvs))/\(∀o u,iF a≠some (.cK o u))/\D.nx fh (upd H1 a (.dK kvs))} σ H
theorem Wy{X:Cx}{st:Stmt}{t:TS}(h:PS X st t):PS X st (Wx X.iF t):=by
 intro pins s σ H D I q;refine aO (h pins s σ H _ I q) λf s1 z=>?_;cases f with
 | next =>
  obtain⟨fh,H1,I1,a,ob,kvs,e,h0,q1⟩:=z;exact⟨fh,_,I1.agH e h0,q1⟩
 | ret v=>exact z
 | brk=>exact z
 | cont=>exact z
theorem Wz{K:W.Frag}{iF H:Hp}{σ:St}{g:TG}{tt:TT}{te td:TE}{nt:Nat}{fv:List Nat}{E:Ends}{j:Nat}(a:Addr)(kvs:List (Key×V))(Pv:Obj->Addr->Nat->List V->St->Hp->Prop)(JO:∀Q:VK,Q (.ref a) H->td σ H Q)(hq:H a=some (.dK kvs))(JP:∀o u,iF a≠some (.cK o u))
  (h0:∀ob D,H D=none->Pv ob D 0 [] (kQ σ nt fv) (upd (upd H a (.cK ob (.dK kvs))) D (.lst []))) (hD:∀ob D i ys σ H,Pv ob D i ys σ H->H D=some (.lst ys)/\ys.length<sizeLine/\H a=some (.cK ob (.dK kvs)))
  (hs:∀ob D i x ys aA H2 (N:List V->St->Hp->Prop),(∀ys σ H,Pv ob D (i+1) ys σ H->N ys σ H)->kvs[i]? = some x->Pv ob D i ys aA H2->g x.2 aA H2 λbX H4=>tt bX H4 λb H5=>if b=true then te bX H5 λv H6=>H6 D=some (.lst ys)/\N (ys++[v]) bX (upd H6 D (.lst (ys++[v]))) else N ys bX H5)
  (hd:∀ob D ys aA H2,Pv ob D kvs.length ys aA H2->E.nx (σ.set j (some (.ref D))) (upd H2 a (.dK kvs))):Wx iF (yZ (lP (JM K td) g tt te nt fv) (sL j)) E σ H :=
 agP (Q:=λv H'=>E.nx (σ.set j (some v)) H') a kvs Pv JO hq JP h0 hD hs hd
section
variable{K:W.Frag}{H:Hp}{σ:St}{g:TG}{tt:TT}{te tl:TE}{nt:Nat}{fv:List Nat}{Q:VK}
theorem agQ(a:Addr)(xs:List V)(Pv:Addr->Nat->List V->St->Hp->Prop)(oG:∀Q:VK,Q (.ref a) H->tl σ H Q)(eL:aY K H a xs)
  (h0:∀D,H D=none->Pv D 0 [] (kQ σ nt fv) (upd H D (.lst []))) (hD:∀D i ys σ H,Pv D i ys σ H->H D=some (.lst ys)/\ys.length<sizeLine/\aY K H a xs)
  (hs:∀D i x ys aA H2 (N:List V->St->Hp->Prop),(∀ys σ H,Pv D (i+1) ys σ H->N ys σ H)->xs[i]? = some x->Pv D i ys aA H2->g x aA H2 λbX H4=>tt bX H4 λb H5=>if b=true then te bX H5 λv H6=>H6 D=some (.lst ys)/\N (ys++[v]) bX (upd H6 D (.lst (ys++[v]))) else N ys bX H5)
  (hd:∀D ys aA H2,Pv D xs.length ys aA H2->Q (.ref D) H2):lP (G9 K tl) g tt te nt fv σ H Q:=by
 refine oG _ ⟨a,rfl,⟨xs,eL⟩,λD kU=>?_⟩;refine⟨λi m ys aA H2=>m=xs.length - i/\i<=xs.length/\Pv D i ys aA H2,⟨_,rfl,eX _,h0 D kU⟩,?_⟩;rintro i m ys aA H2 ⟨rfl,gG,p⟩;obtain⟨d1,d2,d3⟩:=hD D i ys aA H2 p;refine⟨d1,d2,?_⟩;by_cases bM:i<xs.length
 ·refine .inr ⟨⟨xs,xs[i],d3,by simp[bM]⟩,λx H3 y=>?_⟩
  obtain⟨e1,e2⟩:=y;subst e1;exact hs D i x ys aA _ (λJQ bq H'=>∃m',m' < xs.length - i/\m' = xs.length - (i+1)/\i+1<=xs.length/\Pv D (i+1) JQ bq H') (λys σ H p=>⟨_,∅,rfl,∅,p⟩) (e2 xs d3) p
 ·have e:i=xs.length:=by lia
  subst e;exact .inl ⟨⟨xs,d3,bu _⟩,hd D ys aA H2 p⟩
end
theorem WA{K:W.Frag}{H:Hp}{σ:St}{g:TG}{tt:TT}{te tl:TE}{nt:Nat}{fv:List Nat}{Q:VK}(h:tl σ H λv H1=>lP (sN K λ_ H' Q'=>Q' v H') g tt te nt fv σ H1 Q):lP (sN K tl) g tt te nt fv σ H Q:=h
theorem agR(P:Pl)(s:Int×Int){xs:List (Int×Int)}(h:xs≠[]):∃zs a b,iM P s xs=zs++[[(fq P s xs).1,a,b,(fq P s xs).2]]:=by
 obtain⟨ys,q,rfl⟩:∃ys q,xs=ys++[q]:=⟨xs.dropLast,xs.getLast h,(Gq h).symm⟩;rw[IA,Iz];exact⟨_,_,_,rfl⟩
theorem Zt.last{H:Hp}{l:Addr}{ts:List Addr}{z:List (List Int)}{r:List Int}(h:Zt H l ts (z++[r])):∃xP t,ts=xP++[t]/\H t=some (.tup (r.map V.int)):=by
 have hn:=h.n;rw[fE,rZ] at hn;have fH:ts≠[]:=λe=>by rw[e] at hn;simp at hn
 refine⟨ts.dropLast,ts.getLast fH,(Gq fH).symm,h.t z.length _ r ?_ (by simp)⟩
 rw[List.getLast_eq_getElem,bx ∅]
 simp[hn]
theorem agS{r:List Int}(h:r.length=4):∃a b c d,r = [a,b,c,d]:=by
 match r,h with
 | [a,b,c,d],_=>exact⟨a,b,c,d,rfl⟩
noncomputable def d7(ls:List (Dr×Addr)):List (Key×V):=ls.map λy=>(bN y.1.n,V.ref y.2)
noncomputable def oZ(ls:List (Dr×Addr))(n:Int):Bool:=ls.any λy=>decide (y.1.n=n)
theorem Aq{a b:Int}:bN a=bN b↔a=b:=by unfold bN;exact⟨λz=>Sum.inl.inj z,λz=>by rw[z]⟩
theorem WB(ls:List (Dr×Addr))(n:Int):(bV (d7 ls) (bN n)).isSome=oZ ls n:=by
 induction ls with
 | nil=>rfl
 | cons y ls ih =>
  unfold bV d7 oZ at *
  rw[c9,List.find?_cons,uq];by_cases e:y.1.n=n
  ·subst e;simp
  ·have:¬ bN y.1.n=bN n:=λz=>e (Aq.mp z);simp only[this,e,decide_false,Bool.false_or];exact ih
theorem agT{ls:List (Dr×Addr)}(up:ls.Pairwise λa b=>a.1.n<b.1.n){y:Dr×Addr}(hy:y∈ls):bV (d7 ls) (bN y.1.n)=some (.ref y.2):=by
 induction ls with
 | nil=>cases hy
 | cons z ls ih =>
  rw[List.pairwise_cons] at up;unfold bV d7 at *
  rw[c9,List.find?_cons];rcases cg.mp hy with rfl | hy
  ·simp
  ·have:=up.1 y hy;have:¬ bN z.1.n=bN y.1.n:=λe=>by have:=Aq.mp e;lia
   simp only[this,decide_false];exact ih up.2 hy
theorem WC(ls:List (Dr×Addr))(n:Int):kj (d7 ls) (bN n)=d7 (ls.filter λy=>decide (y.1.n≠n)):=by
 unfold kj d7;rw[BR];congr 1;refine Gr λy _=>?_
 show decide (bN y.1.n≠bN n)=_;rw[yO];exact not_congr Aq
noncomputable def fW(kp p:Addr)(r b:Int)(Dx:Addr):List (Str×V):=[("keeping",.ref kp),("plate",.ref p),("ring",.int r),("beat",.int b),("left",.ref Dx)]
def D6(K:W.Frag)(CA CD:Addr)(H:Hp)(y:Dr×Addr):Prop:=∃dx ap l ts m b dw,lT K CA CD H y.2 y.1 dx ap l ts m b dw
structure bZ(K:W.Frag)(CC CA CD:Addr)(H:Hp)(x dx kp:Addr)(ks:List Addr)(kk:List (List Int))(p:Addr)(r b:Int)(Dx:Addr)(ls:List (Dr×Addr)):Prop where
 o:H x=some (.ins CC dx (fW kp p r b Dx))
 k:Zt H kp ks kk
 d:H Dx=some (.dK (d7 ls))
 t:∀y∈ls,D6 K CA CD H y
 up:ls.Pairwise λa b=>a.1.n<b.1.n
 n:ls.length<=100
 kn:∀y∈ls,0<=y.1.n/\y.1.n<kk.length
def cy(x Dx:Addr)(H H':Hp):Prop:=∀b o,H b=some o->b≠x->b≠Dx->H' b=some o
section
variable{K:W.Frag}{CC CA CD:Addr}{H H' H1:Hp}{x dx kp:Addr}{ks:List Addr}{kk:List (List Int)}{p:Addr}{r b:Int}{Dx:Addr}{ls:List (Dr×Addr)}
theorem cy.of(s:aq H H'):cy x Dx H H':=λ_ _ e _ _=>s _ _ e
theorem cy.trans(s:cy x Dx H H1)(t:cy x Dx H1 H'):cy x Dx H H':=λ_ _ e n1 n2=>t _ _ (s _ _ e n1 n2) n1 n2
theorem cy.JR{o:HO}(s:cy x Dx H H'):cy x Dx H (upd H' x o):=λ_ _ e n1 n2=>by rw[aB n1];exact s _ _ e n1 n2
theorem cy.xQ{o:HO}(s:cy x Dx H H'):cy x Dx H (upd H' Dx o):=λ_ _ e n1 n2=>by rw[aB n2];exact s _ _ e n1 n2
theorem cy.put{l:Addr}{o:HO}(s:cy x Dx H H')(n:H l=none):cy x Dx H (upd H' l o):=λ_ _ e n1 n2=>by rw[aB (λz=>by rw[z,n] at e;cases e)];exact s _ _ e n1 n2
theorem bZ.nf(h:bZ K CC CA CD H x dx kp ks kk p r b Dx ls):∀o u,H Dx≠some (.cK o u):=λo u z=>by rw[h.d] at z;cases z
theorem bZ.ne(h:bZ K CC CA CD H x dx kp ks kk p r b Dx ls):x≠Dx:=λz=>by have:=h.o;rw[z,h.d] at this;cases this
theorem As:(d7 ls).length=ls.length:=by simp[d7]
theorem bZ.lst(h:bZ K CC CA CD H x dx kp ks kk p r b Dx ls)(s:cy x Dx H H'){a:Addr}{xs:List V}(e:H a=some (.lst xs)):H' a=some (.lst xs) :=
 s _ _ e (λz=>by have:=h.o;rw[← z,e] at this;cases this) (λz=>by have:=h.d;rw[← z,e] at this;cases this)
theorem bZ.tup(h:bZ K CC CA CD H x dx kp ks kk p r b Dx ls)(s:cy x Dx H H'){a:Addr}{xs:List V}(e:H a=some (.tup xs)):H' a=some (.tup xs) :=
 s _ _ e (λz=>by have:=h.o;rw[← z,e] at this;cases this) (λz=>by have:=h.d;rw[← z,e] at this;cases this)
theorem bZ.ins(h:bZ K CC CA CD H x dx kp ks kk p r b Dx ls)(s:cy x Dx H H'){a C d:Addr}{fs:List (Str×V)}(e:H a=some (.ins C d fs))(n:fs.lookup ("keeping" : Str)=none):H' a=some (.ins C d fs) :=
 s _ _ e (λz=>by have:=h.o;rw[← z,e] at this;cases this;simp[fW,List.lookup_cons] at n) (λz=>by have:=h.d;rw[← z,e] at this;cases this)
theorem bZ.zt(h:bZ K CC CA CD H x dx kp ks kk p r b Dx ls)(s:cy x Dx H H'){a:Addr}{ts:List Addr}{z:List (List Int)}(e:Zt H a ts z):Zt H' a ts z:=⟨h.lst s e.l,e.n,λi t r e1 e2=>h.tup s (e.t i t r e1 e2)⟩
theorem bZ.zn(h:bZ K CC CA CD H x dx kp ks kk p r b Dx ls)(s:cy x Dx H H'){a:Addr}{ts:List Addr}{z:List (Int×Int)}(e:Zn H a ts z):Zn H' a ts z:=⟨h.lst s e.l,e.n,λi t r e1 e2=>h.tup s (e.t i t r e1 e2)⟩
theorem bZ.ak(h:bZ K CC CA CD H x dx kp ks kk p r b Dx ls)(s:cy x Dx H H'){a C m b2 d:Addr}{q:Ak}(e:fJ K C H a q m b2 d):fJ K C H' a q m b2 d:=⟨h.ins s e.o (by simp[jx,List.lookup_cons,ju]),h.tup s e.ms,h.tup s e.bh⟩
theorem bZ.du(h:bZ K CC CA CD H x dx kp ks kk p r b Dx ls)(s:cy x Dx H H'){a d ap l m b2 dw:Addr}{y:Dr}{ts:List Addr}(e:lT K CA CD H a y d ap l ts m b2 dw):lT K CA CD H' a y d ap l ts m b2 dw:=⟨h.ins s e.o (by simp[qc,List.lookup_cons,ju]),h.ak s e.a,h.zn s e.c⟩
theorem bZ.xR(h:bZ K CC CA CD H x dx kp ks kk p r b Dx ls)(s:cy x Dx H H'){y:Dr×Addr}(e:D6 K CA CD H y):D6 K CA CD H' y:=let ⟨a,b,c,d,e,f,g,z⟩:=e;⟨a,b,c,d,e,f,g,h.du s z⟩
theorem bZ.Iv(h:bZ K CC CA CD H x dx kp ks kk p r b Dx ls)(s:cy x Dx H H'){C a:Addr}{P:Pl}{fp:List Addr}(e:dG K C H a P fp):dG K C H' a P fp:=by
 obtain⟨iw,a1,a2,a3,a4,ts,fs,e,g⟩:=e;have f1:=g.f1;refine⟨iw,a1,a2,a3,a4,ts,fs,e,{ g with o:=s _ _ g.o (λz=>?_) (λz=>?_),rc:=h.lst s g.rc,sw:=h.lst s g.sw,nc:=h.zn s g.nc,cn:=s _ _ g.cn (λz=>?_) (λz=>?_)}⟩
 ·have:=h.o;rw[← z,g.o] at this;cases this;simp[fW,List.lookup_cons,ju] at f1
 ·have:=h.d;rw[← z,g.o] at this;cases this
 ·have:=h.o;rw[← z,g.cn] at this;cases this
 ·have:=h.d;rw[← z,g.cn] at this;cases this
theorem bZ.step(h:bZ K CC CA CD H x dx kp ks kk p r b Dx ls)(s:cy x Dx H H'){r2 b2:Int}{d_:List (Dr×Addr)}(sub:d_.Sublist ls)(o:H' x=some (.ins CC dx (fW kp p r2 b2 Dx)))(d:H' Dx=some (.dK (d7 d_))):bZ K CC CA CD H' x dx kp ks kk p r2 b2 Dx d_ :=
 ⟨o,h.zt s h.k,d,λy hy=>h.xR s (h.t y (sub.subset hy)),h.up.sublist sub,dQ sub.length_le h.n,λy hy=>h.kn y (sub.subset hy)⟩
theorem bZ.free(h:bZ K CC CA CD H' x dx kp ks kk p r b Dx ls)(s:cy x Dx H H'){a:Addr}(n:H' a=none):H a=none:=by
 cases e:H a with
 | none=>rfl
 | some o =>
  have:=s _ _ e (λz=>by have:=h.o;rw[← z,n] at this;cases this) (λz=>by have:=h.d;rw[← z,n] at this;cases this)
  rw[n] at this;cases this
theorem bZ.same(h:bZ K CC CA CD H x dx kp ks kk p r b Dx ls)(s:aq H H'):bZ K CC CA CD H' x dx kp ks kk p r b Dx ls:=h.step (cy.of s) (.refl _) (s _ _ h.o) (s _ _ h.d)
theorem bZ.kt(h:bZ K CC CA CD H x dx kp ks kk p r b Dx ls)(s:cW H H'):bZ K CC CA CD H' x dx kp ks kk p r b Dx ls :=
 ⟨s.ins h.o (by simp[lV,fW,List.lookup_cons,ju]),⟨s.lst h.k.l,h.k.n,λi t r e1 e2=>s.tup (h.k.t i t r e1 e2)⟩,s _ _ h.d (.of (λ_ z=>nomatch z) (λ_ _ _ z=>nomatch z) λ_ z=>nomatch z),λy hy=>let ⟨a,b,c,d,e,f,g,z⟩:=h.t y hy;⟨a,b,c,d,e,f,g,z.kt s⟩,h.up,h.n,h.kn⟩
end
def WD(ls:List (Dr×Addr))(b b2:Int):Prop:=∃M,(∃y∈ls,y.1.q.at_=M)/\(∀y∈ls,M<=y.1.q.at_)/\b2=if b<M then M else b
def agU(K:W.Frag)(CC CA CD:Addr):Sp:=λvs H Q _=>∃(x dx kp:Addr) (ks:List Addr) (kk:List (List Int)) (p:Addr) (r b:Int) (Dx:Addr) (ls:List (Dr×Addr)),vs = [.ref x]/\bZ K CC CA CD H x dx kp ks kk p r b Dx ls/\1<=ls.length/\
 ∀b2 H',WD ls b b2->cy x Dx H H'->bZ K CC CA CD H' x dx kp ks kk p r b2 Dx ls->Q .aR H'
def agV(K:W.Frag)(CC CA CD:Addr):Sp:=λvs H Q _=>∃(x dx kp:Addr) (ks:List Addr) (kk:List (List Int)) (p:Addr) (r b:Int) (Dx:Addr) (ls:List (Dr×Addr)) (n:Nat) (ns:List Int),vs = [.ref x,.int (n:Int)]/\bZ K CC CA CD H x dx kp ks kk p r b Dx ls/\kk[n]? = some ns/\ns.length<=1000/\
 ∀H',aq H H'->Q (.bl (ns.any (oZ ls))) H'
noncomputable def Au(kk:List (List Int))(b:Int)(ls:List (Dr×Addr)):List (Dr×Addr):=(ls.filter λy=>decide (y.1.q.at_<=b)).filter λy => !((kk.getD y.1.n.toNat []).any (oZ ls))
def agW(K:W.Frag)(CC CA CD:Addr):Sp:=λvs H Q _=>∃(x dx kp:Addr) (ks:List Addr) (kk:List (List Int)) (p:Addr) (r b:Int) (Dx:Addr) (ls:List (Dr×Addr)),vs = [.ref x]/\bZ K CC CA CD H x dx kp ks kk p r b Dx ls/\1<=ls.length/\(∀ns∈kk,ns.length<=1000)/\
 ∀b2 D H',WD ls b b2->cy x Dx H H'->bZ K CC CA CD H' x dx kp ks kk p r b2 Dx ls->H D=none->tE K CA CD H' D ((Au kk b2 ls).map (·.2)) ((Au kk b2 ls).map (·.1))->Q (.ref D) H'
def agX(K:W.Frag)(cs:List Addr)(CC CA CD:Addr):Sp:=λvs H Q _=>∃(C x dx kp:Addr) (ks:List Addr) (kk:List (List Int)) (p:Addr) (P:Pl) (fp:List Addr) (r b:Int) (Dx:Addr) (ls:List (Dr×Addr)) (y:Dr×Addr),vs = [.ref x,.int y.1.n]/\bZ K CC CA CD H x dx kp ks kk p r b Dx ls/\y∈ls/\
 C∈cs/\dG K C H p P fp/\q9 P/\0<=r/\r<P.rc.length/\vd P y.1.c/\1<=y.1.c.length/\y.1.c.length<=1000/\
 ∀l ts H',cy x Dx H H'->H l=none->bZ K CC CA CD H' x dx kp ks kk p (fq P (r,b) y.1.c).1 (fq P (r,b) y.1.c).2 Dx (ls.filter λz=>decide (z.1.n≠y.1.n))->Zt H' l ts ((iM P (r,b) y.1.c).map λrow=>y.1.n::row)->Q (.ref l) H'
noncomputable def gr(nc:List (Int×Int)):Nat->List Ak->List Dr
 | _,[]=>[]
 | k,q::r=>⟨(k:Int),q,jy nc q.first q.many⟩::gr nc (k+1) r
theorem WE(nc:List (Int×Int))(q:Ak):∀(qs:List Ak) (k:Nat),gr nc k (qs++[q])=gr nc k qs++[⟨((k+qs.length:Nat):Int),q,jy nc q.first q.many⟩]
 | [],k=>by simp[gr]
 | a::qs,k=>by
  have e:k+1+qs.length=k+(qs.length+1):=by lia
  simp[gr,WE nc q qs (k+1),e]
theorem JS(nc:List (Int×Int)):∀(qs:List Ak) (k:Nat),(gr nc k qs).length=qs.length
 | [],k=>rfl
 | a::qs,k=>by simp[gr,JS nc qs (k+1)]
theorem Av(nc:List (Int×Int)):∀(qs:List Ak) (k:Nat) (d:Dr),d∈gr nc k qs->(k:Int)<=d.n/\d.n<((k+qs.length:Nat):Int)
 | [],k,d,h=>by cases h
 | a::qs,k,d,h=>by
  rcases cg.mp h with rfl | h
  ·dsimp only;simp only[List.length_cons];lia
  ·have:=Av nc qs (k+1) d h;simp only[List.length_cons];lia
theorem WG{r:List Int}(h:r.length=5):∃a b c d e,r = [a,b,c,d,e]:=by
 match r,h with
 | [a,b,c,d,e],_=>exact⟨a,b,c,d,e,rfl⟩
section
variable{K:W.Frag}{CC CA CD:Addr}{H H':Hp}{x dx:Addr}
theorem xS(hx:H x=some (.ins CC dx []))(s:SameBut x H H'){a:Addr}{xs:List V}(e:H a=some (.lst xs)):H' a=some (.lst xs):=s _ _ e (λz=>by rw[z,hx] at e;cases e)
theorem D7(hx:H x=some (.ins CC dx []))(s:SameBut x H H'){a:Addr}{xs:List V}(e:H a=some (.tup xs)):H' a=some (.tup xs):=s _ _ e (λz=>by rw[z,hx] at e;cases e)
theorem agY(hx:H x=some (.ins CC dx []))(s:SameBut x H H'){a:Addr}{ts:List Addr}{z:List (List Int)}(e:Zt H a ts z):Zt H' a ts z:=⟨xS hx s e.l,e.n,λi t r e1 e2=>D7 hx s (e.t i t r e1 e2)⟩
theorem agZ(hx:H x=some (.ins CC dx []))(s:SameBut x H H'){a C m b d:Addr}{q:Ak}(e:fJ K C H a q m b d):fJ K C H' a q m b d:=⟨s _ _ e.o (λz=>by have:=e.o;rw[z,hx] at this;simp[jx] at this),D7 hx s e.ms,D7 hx s e.bh⟩
theorem ag0(hx:H x=some (.ins CC dx []))(s:SameBut x H H'){C a:Addr}{P:Pl}{fp:List Addr}(e:dG K C H a P fp):dG K C H' a P fp:=by
 obtain⟨iw,a1,a2,a3,a4,ts,fs,e,g⟩:=e;have f1:=g.f1;refine⟨iw,a1,a2,a3,a4,ts,fs,e,{ g with o:=s _ _ g.o (λz=>?_),rc:=xS hx s g.rc,sw:=xS hx s g.sw,nc:=⟨xS hx s g.nc.l,g.nc.n,λi t r e1 e2=>D7 hx s (g.nc.t i t r e1 e2)⟩,cn:=s _ _ g.cn (λz=>?_)}⟩
 ·have:=g.o;rw[z,hx] at this;cases this;simp at f1
 ·have:=g.cn;rw[z,hx] at this;cases this
end
section
variable{K:W.Frag}{CC CA CD:Addr}{H:Hp}{x dx kp:Addr}{ks:List Addr}{kk:List (List Int)}{p:Addr}{r b:Int}{Dx:Addr}{ls:List (Dr×Addr)}
theorem bZ.add(h:bZ K CC CA CD H x dx kp ks kk p r b Dx ls){y:Dr×Addr}(hy:D6 K CA CD H y)(n0:0<=y.1.n)(n1:y.1.n<kk.length)(up:∀z∈ls,z.1.n<y.1.n)(hn:ls.length<100):bZ K CC CA CD (upd H Dx (.dK (putK (d7 ls) (bN y.1.n) (.ref y.2)))) x dx kp ks kk p r b Dx (ls++[y]):=by
 have s:cy x Dx H (upd H Dx (.dK (putK (d7 ls) (bN y.1.n) (.ref y.2)))):=(cy.of (λ_ _ e=>e)).xQ;have nv:bV (d7 ls) (bN y.1.n)=none:=by
  cases e:bV (d7 ls) (bN y.1.n) with
  | none=>rfl
  | some v =>
   have:=WB ls y.1.n;rw[e] at this;obtain⟨z,hz,e2⟩:=List.any_eq_true.mp this.symm;have:=qJ e2;have:=up z hz;lia
 refine⟨by rw[aB h.ne];exact h.o,h.zt s h.k,?_,λz hz=>?_,?_,by rw[fE,rZ];lia,λz hz=>?_⟩
 ·rw[aD,HK _ nv];unfold d7;rw[bO];rfl
 ·rcases cF.mp hz with hz | hz
  ·exact h.xR s (h.t z hz)
  ·rw[cj.mp hz];exact h.xR s hy
 ·rw[GC];exact⟨h.up,List.pairwise_singleton _ _,λa ha c hc=>by rw[cj.mp hc];exact up a ha⟩
 ·rcases cF.mp hz with hz | hz
  ·exact h.kn z hz
  ·rw[cj.mp hz];exact⟨n0,n1⟩
end
def ag1(K:W.Frag)(cs:List Addr)(CC CA CD:Addr):Sp:=λvs H Q _=>∃(C x dx p la:Addr) (P:Pl) (fp ps:List Addr) (qs:List Ak) (r:Int),vs = [.ref x,.ref p,.ref la,.int r]/\H x=some (.ins CC dx [])/\C∈cs/\dG K C H p P fp/\P.nc.length<=1000000/\iy K CA H la ps qs/\Dw P.nc.length qs/\(∀q∈qs,q.kind≠"rest")/\
 ∀kp ks Dx ls H',SameBut x H H'->H Dx=none->bZ K CC CA CD H' x dx kp ks (k_ qs qs.length) p r 0 Dx ls->ls.map (·.1)=gr P.nc 0 qs->Q .aR H'
def WH(CP:Addr):Sp:=λvs H Q _=>∃(x dx:Addr) (v1 v2 v3 v4 v5:V),vs = [.ref x,v1,v2,v3,v4,v5]/\H x=some (.ins CP dx [])/\
 Q .aR (upd H x (.ins CP dx [("rows",v1),("taken",v2),("told",v3),("answers",v4),("end",v5)]))
def ag2(K:W.Frag):Sp:=λvs H Q _=>∃(l:Addr) (ts:List Addr) (z:List (List Int)),vs = [.ref l]/\Zt H l ts z/\z.length<=100000/\(∀r∈z,r.length=5)/\
 ∀E kvs H',aq H H'->H E=none->H' E=some (.dK kvs)->(∀n:Int,(∃r∈z,r.head? = some n)->∃e:Int,bV kvs (bN n)=some (.int e))->Q (.ref E) H'
def ag3(K:W.Frag)(CA:Addr):Sp:=λvs H Q _=>∃(a:Addr) (q:Ak) (m b dx:Addr),vs = [.ref a]/\fJ K CA H a q m b dx/\0<=q.first/\q.first<=1000000/\0<=q.many/\q.many<=16/\
 ∀l (ns:List Int) H',aq H H'->H l=none->ns.length=q.many.toNat->H' l=some (.lst (ns.map V.int))->Q (.ref l) H'
def WI(K:W.Frag)(CA:Addr):Sp:=λvs H Q _=>∃(la:Addr) (ps:List Addr) (qs:List Ak) (pi:Addr) (ns:List Int),vs = [.ref la,.ref pi]/\iy K CA H la ps qs/\qs.length<=100/\(∀q∈qs,q.kind = "read"/\0<=q.first/\q.first<=1000000/\0<=q.many/\q.many<=16)/\H pi=some (.lst (ns.map V.int))/\ns.length<=100/\(∀n∈ns,0<=n/\n<qs.length)/\
 ∀l H',aq H H'->Q (.ref l) H'
def WJ(K:W.Frag)(CA:Addr):Sp:=λvs H Q _=>∃(la:Addr) (ps:List Addr) (qs:List Ak) (E:Addr) (kvs:List (Key×V)) (sh:Int),vs = [.ref la,.ref E,.int sh]/\iy K CA H la ps qs/\qs.length<=100/\(∀q∈qs,q.kind = "read"/\q.early=false)/\H E=some (.dK kvs)/\(∀n:Int,0<=n->n<qs.length->∃e:Int,bV kvs (bN n)=some (.int e))/\
 ∀l H',aq H H'->Q (.ref l) H'
structure D8(P:Pl)(q:Ak):Prop where
 k:q.kind = "read"
 e:q.early=false
 b:q.behind = []
 f0:0<=q.first
 f1:q.first<=1000000
 m0:1<=q.many
 m1:q.many<=16
 c:vd P (jy P.nc q.first q.many)
 cn:(jy P.nc q.first q.many).length=q.many.toNat
def WK(ds:List Dr)(b b2:Int):Prop:=∃M,(∃d∈ds,d.q.at_=M)/\(∀d∈ds,M<=d.q.at_)/\b2=if b<M then M else b
noncomputable def eO(n:Nat)(tk:List (Int×Int)):List V:=tk.foldl (λxs p=>xs.set p.1.toNat (.int p.2)) (List.replicate n .aR)
theorem ag4(n:Nat)(tk:List (Int×Int))(p:Int×Int):eO n (tk++[p])=(eO n tk).set p.1.toNat (.int p.2):=by
 unfold eO;rw[BV];rfl
theorem JU(n:Nat)(tk:List (Int×Int)):(eO n tk).length=n:=by
 unfold eO
 suffices ∀xs:List V,(tk.foldl (λxs p=>xs.set p.1.toNat (.int p.2)) xs).length=xs.length by rw[this,BX]
 induction tk with
 | nil=>intro xs;rfl
 | cons p tk ih=>intro xs;rw[qF,ih,yG]
theorem ag5(n:Nat)(tk:List (Int×Int)):jA (eO n tk):=by
 have h:∀v∈eO n tk,v = .aR\/∃i,v=V.int i:=by
  unfold eO
  suffices ∀xs:List V,(∀v∈xs,v = .aR\/∃i,v=V.int i)->∀v∈tk.foldl (λxs p=>xs.set p.1.toNat (.int p.2)) xs,v = .aR\/∃i,v=V.int i from
   this _ λv hv=>.inl (List.eq_of_mem_replicate hv)
  induction tk with
  | nil=>intro xs h;exact h
  | cons p tk ih =>
   intro xs h;rw[qF];refine ih _ λv hv=>?_;rcases GB hv with hv | rfl
   ·exact h v hv
   ·exact .inr ⟨_,rfl⟩
 intro i j z;have:=h (.bl i) (by rw[z];simp)
 rcases this with e | ⟨_,e⟩ <;> cases e
noncomputable def ag6(v1:V)(ta:Addr)(v3 v4 v5:V):List (Str×V):=[("rows",v1),("taken",.ref ta),("told",v3),("answers",v4),("end",v5)]
section
variable{K:W.Frag}{cf:List Addr}{CL CS CC CA CD:Addr}{o:Option Bool}{st:Lt}{H H' H1:Hp}{ru dx B x dc kp p Dx:Addr}{ks:List Addr}{kk:List (List Int)}{r b:Int}{ls:List (Dr×Addr)}{TP:Addr}{pos:Pos}{qual:Str}
theorem gP.same(k:gP ru H H')(s:aq H' H1):gP ru H H1:=λ_ _ e n z=>s _ _ (k _ _ e n z)
theorem gP.nF(k:gP ru H H')(s:cy x Dx H' H1)(nx:H x=none)(nd:H Dx=none):gP ru H H1:=λ_ _ e n z=>s _ _ (k _ _ e n z) (λw=>by rw[w,nx] at e;cases e) (λw=>by rw[w,nd] at e;cases e)
structure qj(ru:Addr)(H:Hp)(l:Addr):Prop where
 x:∀o,H l=some o->l≠ru->(∀ps,o≠.fY ps)->False
 t:∀o,H l=some o->rM o->False
theorem qj.of(kx:gP ru H H')(kt:cW H H'){l:Addr}(n:H' l=none):qj ru H l :=
 ⟨λo e n1 n2=>(by have:=kx _ _ e n1 n2;rw[n] at this;cases this),λo e n1=>(by have:=kt _ _ e n1;rw[n] at this;cases this)⟩
theorem gP.put{l:Addr}{u:HO}(k:gP ru H H')(nl:qj ru H l):gP ru H (upd H' l u):=λc o e n z=>by
 by_cases w:c=l
 ·subst w;exact(nl.x o e n z).elim
 ·rw[aB w];exact k _ _ e n z
theorem cW.putK{l:Addr}{u:HO}(k:cW H H')(nl:qj ru H l):cW H (upd H' l u):=λc o e n=>by
 by_cases w:c=l
 ·subst w;exact(nl.t o e n).elim
 ·rw[aB w];exact k _ _ e n
theorem cW.nF(k:cW H H')(s:cy x Dx H' H1)(nx:H x=none)(nd:H Dx=none):cW H H1:=λ_ _ e n=>s _ _ (k _ _ e n) (λw=>by rw[w,nx] at e;cases e) (λw=>by rw[w,nd] at e;cases e)
def nG(x Dx:Addr)(H H':Hp):Prop:=∀b o,H b=some o->rM o->b≠x->b≠Dx->H' b=some o
theorem nG.nF(k:nG x Dx H H')(s:cy x Dx H' H1):nG x Dx H H1:=λ_ _ e n n1 n2=>s _ _ (k _ _ e n n1 n2) n1 n2
theorem nG.kt(k:nG x Dx H H')(s:cW H' H1):nG x Dx H H1:=λ_ _ e n n1 n2=>s _ _ (k _ _ e n n1 n2) n
theorem nG.put{l:Addr}{u:HO}(k:nG x Dx H H')(nl:H l=none):nG x Dx H (upd H' l u):=λ_ _ e n n1 n2=>by rw[aB (λw=>by rw[w,nl] at e;cases e)];exact k _ _ e n n1 n2
theorem bZ.WL(h:bZ K CC CA CD H x dc kp ks kk p r b Dx ls)(s:nG x Dx H H'){r2 b2:Int}{d_:List (Dr×Addr)}(sub:d_.Sublist ls)(o:H' x=some (.ins CC dc (fW kp p r2 b2 Dx)))(d:H' Dx=some (.dK (d7 d_))):bZ K CC CA CD H' x dc kp ks kk p r2 b2 Dx d_:=by
 have hl:∀ {a:Addr} {xs:List V},H a=some (.lst xs)->jA xs->H' a=some (.lst xs):=λ{a xs} e n=>s _ _ e (.lst n) (λz=>by have:=h.o;rw[← z,e] at this;cases this) (λz=>by have:=h.d;rw[← z,e] at this;cases this)
 have ht:∀ {a:Addr} {xs:List V},H a=some (.tup xs)->H' a=some (.tup xs):=λ{a xs} e=>s _ _ e (.of (λ_ z=>nomatch z) (λ_ _ _ z=>nomatch z) λ_ z=>nomatch z) (λz=>by have:=h.o;rw[← z,e] at this;cases this) (λz=>by have:=h.d;rw[← z,e] at this;cases this)
 have hi:∀ {a C d:Addr} {fs:List (Str×V)},H a=some (.ins C d fs)->lV fs=false->fs.lookup ("keeping" : Str)=none->H' a=some (.ins C d fs):=λ{a C d fs} e n1 n2=>s _ _ e (.ins n1) (λz=>by have:=h.o;rw[← z,e] at this;cases this;simp[fW,List.lookup_cons] at n2) (λz=>by have:=h.d;rw[← z,e] at this;cases this)
 refine⟨o,⟨hl h.k.l jA.refs,h.k.n,λi t r e1 e2=>ht (h.k.t i t r e1 e2)⟩,d,λy hy=>?_,h.up.sublist sub,dQ sub.length_le h.n,λy hy=>h.kn y (sub.subset hy)⟩;obtain⟨iw,ap,l,ts,m,b',dw,g⟩:=h.t y (sub.subset hy);exact⟨iw,ap,l,ts,m,b',dw,hi g.o Wj (by simp[qc,List.lookup_cons,ju]),⟨hi g.a.o Wi (by simp[jx,List.lookup_cons,ju]),ht g.a.ms,ht g.a.bh⟩,⟨hl g.c.l jA.refs,g.c.n,λi t r e1 e2=>ht (g.c.t i t r e1 e2)⟩⟩
end
theorem ag7{ls:List (Dr×Addr)}(up:ls.Pairwise λa b=>a.1.n<b.1.n){y:Dr×Addr}(hy:y∈ls):(ls.filter λz=>decide (z.1.n≠y.1.n)).length+1=ls.length:=by
 have nd:((d7 ls).map (·.1)).Nodup:=by
  unfold d7;rw[nZ,pJ,qH];exact up.imp λ{a b} h z=>by
   have:=Aq.mp z;lia
 have:=Ux (k:=bN y.1.n) nd (by
  unfold d7;rw[nZ];exact cH.mpr ⟨y,hy,rfl⟩)
 rw[WC,As,As] at this;exact this
theorem iy.kt{K:W.Frag}{C:Addr}{H H':Hp}{l:Addr}{ps:List Addr}{qs:List Ak}(h:iy K C H l ps qs)(k:cW H H'):iy K C H' l ps qs:=⟨k.lst h.l,h.n,λi p q e1 e2=>let ⟨m,b,dx,z⟩:=h.t i p q e1 e2;⟨m,b,dx,z.kt k⟩⟩
theorem JV(nc:List (Int×Int)):∀(qs:List Ak) (k i:Nat),i<qs.length->∃d∈gr nc k qs,d.n=((k+i:Nat):Int)
 | [],k,i,h=>by simp at h
 | q::qs,k,0,h=>⟨_,eB ..,rfl⟩
 | q::qs,k,i+1,h=>by
  obtain⟨d,hd,e⟩:=JV nc qs (k+1) i (by simpa using h)
  exact⟨d,cB _ hd,by rw[e];congr 1;lia⟩
theorem Aw(nc:List (Int×Int)):∀(qs:List Ak) (k:Nat) (d:Dr),d∈gr nc k qs->d.q∈qs/\d.c=jy nc d.q.first d.q.many
 | [],k,d,h=>by cases h
 | q::qs,k,d,h=>by
  rcases cg.mp h with rfl | h
  ·exact⟨eB ..,rfl⟩
  ·obtain⟨a,b⟩:=Aw nc qs (k+1) d h;exact⟨cB _ a,b⟩
theorem ag8{P:Pl}{qs:List Ak}(rd:∀q∈qs,D8 P q):∀ns∈k_ qs qs.length,ns = []:=by
 intro ns h;unfold k_ at h;obtain⟨k,hk,rfl⟩:=cH.mp h;unfold Dv;rw[List.map_eq_nil_iff,List.filter_eq_nil_iff];intro j hj;have h1:=gC.mp hk;have h2:=gC.mp hj;have h3:j<qs.length:=by lia
 rw[bx h1,bx h3];have a:=rd _ (cU h1);have b:=rd _ (cU h3);have n6:((Str.ofString "read"):Str)≠"write" := IY ⋯
 simp[a.b,xm,a.k,b.k,n6]
theorem ag9{kk:List (List Int)}(h:∀ns∈kk,ns = [])(b:Int)(ls:List (Dr×Addr)):Au kk b ls=ls.filter λy=>decide (y.1.q.at_<=b):=by
 unfold Au;refine List.filter_eq_self.mpr λy _=>?_;have:kk.getD y.1.n.toNat [] = []:=by
  rw[qG];cases e:kk[y.1.n.toNat]? with
  | none=>rfl
  | some ns=>exact h ns (iC e)
 rw[this];rfl
theorem Zt.cat{H:Hp}{R l:Addr}{ts tw:List Addr}{z z2:List (List Int)}(h:Zt H R ts z)(h2:Zt H l tw z2):Zt (upd H R (.lst (ts.map V.ref++tw.map V.ref))) R (ts++tw) (z++z2):=by
 have ne:∀ {t:Addr} {xs:List V},H t=some (.tup xs)->t≠R:=λe q=>by rw[q,h.l] at e;cases e
 have hn:=h.n;refine⟨by rw[aD,bO],by simp[h.n,h2.n],λi t x e1 e2=>?_⟩
 by_cases hi:i<ts.length
 ·rw[gw hi] at e1;rw[gw ∅] at e2
  have:=h.t i t x e1 e2;rw[aB (ne this)];exact this
 ·rw[gz ∅] at e1
  rw[gz ∅,← hn] at e2
  have:=h2.t _ t x e1 e2;rw[aB (ne this)];exact this
section
variable{X:Cx}
end
section
variable{X:Cx}
end
theorem WM:∀(tk:List (Int×Int)) (xs:List V) (k:Int),0<=k->(∀q∈tk,0<=q.1)->k∉tk.map (·.1)->(tk.foldl (λxs p=>xs.set p.1.toNat (.int p.2)) xs)[k.toNat]? = xs[k.toNat]?
 | [],xs,k,_,_,_=>rfl
 | p::tk,xs,k,h0,hb,h=>by
  rw[c9,cg,not_or] at h;have:=hb p (eB ..);rw[qF,WM tk _ k h0 (λq hq=>hb q (cB _ hq)) h.2,BW ∅]
theorem WN:∀(tk:List (Int×Int)) (xs:List V),(tk.map (·.1)).Nodup->(∀q∈tk,0<=q.1/\q.1<xs.length)->∀q∈tk,(tk.foldl (λxs p=>xs.set p.1.toNat (.int p.2)) xs)[q.1.toNat]? = some (.int q.2)
 | [],xs,_,_,q,h=>by cases h
 | p::tk,xs,nd,hb,q,h=>by
  rw[c9,mh] at nd;have bp:=hb p (eB ..);rw[qF];rcases cg.mp h with rfl | h
  ·rw[WM tk _ _ bp.1 (λq hq=>(hb q (cB _ hq)).1) nd.1,Gw ∅]
  ·exact WN tk _ nd.2 (λq hq=>by rw[yG];exact hb q (cB _ hq)) q h
theorem JW{n:Nat}{tk:List (Int×Int)}(nd:(tk.map (·.1)).Nodup)(hb:∀q∈tk,0<=q.1/\q.1<n){q:Int×Int}(hq:q∈tk):(eO n tk)[q.1.toNat]? = some (.int q.2) :=
 WN tk _ nd (λq h=>by rw[BX];exact hb q h) q hq
structure JB(all:List Dr)(m:Nat)(ds:List Dr)(b:Int)(tk:List (Int×Int)):Prop where
 nd:(tk.map (·.1)).Nodup
 bd:∀q∈tk,0<=q.1/\q.1<m
 al:∀d∈all,d∈ds\/∃q∈tk,q.1=d.n
 sb:∀d∈ds,d∈all
 dj:∀q∈tk,∀d∈ds,d.n≠q.1
 b0:0<=b
theorem JB.step{all:List Dr}{m:Nat}{ds:List Dr}{b b2 b3:Int}{tk:List (Int×Int)}(h:JB all m ds b tk)(ha:∀d∈all,0<=d.n/\d.n<m){d:Dr}(hd:d∈ds)(hb:0<=b3):JB all m (ds.filter λe=>decide (e.n≠d.n)) b3 (tk++[(d.n,b2)]) where
 nd:=by
  rw[bO,se];refine⟨h.nd,by simp,λx hx y hy=>?_⟩
  obtain⟨q,hq,rfl⟩:=cH.mp hx;simp at hy;subst hy;exact λz=>h.dj q hq d hd z.symm
 bd:=λq hq=>by
  rcases cF.mp hq with hq | hq
  ·exact h.bd q hq
  ·rw[cj.mp hq];exact ha d (h.sb d hd)
 al:=λe he=>by
  rcases h.al e he with h1 | ⟨q,hq,e1⟩
  ·by_cases z:e.n=d.n
   ·exact .inr ⟨(d.n,b2),by simp,z.symm⟩
   ·exact .inl (gB.mpr ⟨h1,ig z⟩)
  ·exact .inr ⟨q,n8 _ hq,e1⟩
 sb:=λe he=>h.sb e (gB.mp he).1
 dj:=λq hq e he=>by
  obtain⟨h1,h2⟩:=gB.mp he;rcases cF.mp hq with hq | hq
  ·exact h.dj q hq e h1
  ·rw[cj.mp hq];exact qJ h2
 b0:=hb
theorem WO{P:Pl}(ok:q9 P)(hl:∀i:Nat,i<P.rc.length->1<=P.aG / P.rc.getD i 0){s q:Int×Int}(s0:0<=s.1)(s1:s.1<P.rc.length)(q0:0<=q.1)(q1:q.1<P.rc.length):s.2+1<=(fq P s [q]).2:=by
 show s.2+1<=zR P s q+P.aG / P.rc.getD q.1.toNat 0;have h1:=hl q.1.toNat ∅
 have hs:0<=P.sw.getD (s.1 - q.1).natAbs 0:=by
  have l:=ok.sw.len;by_cases e:(s.1 - q.1).natAbs=0
  ·rw[e,ok.sw.z];exact iW _
  ·have:=(ok.sw.pos (s.1 - q.1).natAbs ∅ ∅).1
   lia
 unfold zR Iw;have h2:=nX (U3 P q.1 q.2 - (s.2+P.sw.getD (s.1 - q.1).natAbs 0)) (show P.aG≠0 by have:=ok.aG;lia)
 lia
section
variable{P:Pl}{n most:Int}
end
theorem all_ints:∀(xs:List V),(∀i:Nat,i<xs.length->∃b:Int,xs[i]? = some (.int b))->∃bs:List Int,xs=bs.map V.int
 | [],_=>⟨[],rfl⟩
 | x::xs,h=>by
  obtain⟨b,e⟩:=h 0 (by simp)
  obtain⟨bs,e2⟩:=all_ints xs λi hi=>by
   obtain⟨c,ec⟩:=h (i+1) (by simp;lia)
   exact⟨c,by simpa using ec⟩
  exact⟨b::bs,by simp at e;rw[e,e2];rfl⟩
theorem JB.ends{nc:List (Int×Int)}{qs:List Ak}{b:Int}{tk:List (Int×Int)}(h:JB (gr nc 0 qs) qs.length [] b tk):∃bs:List Int,eO qs.length tk=bs.map V.int/\bs.length=qs.length/\∀(i:Nat) (c:Int),bs[i]? = some c->((i:Int),c)∈tk:=by
 have at_:∀i:Nat,i<qs.length->∃c,((i:Int),c)∈tk/\(eO qs.length tk)[i]? = some (.int c):=λi hi=>by
  obtain⟨d,hd,e⟩:=JV nc qs 0 i hi;rcases h.al d hd with z | ⟨q,hq,e2⟩
  ·cases z
  ·have:=JW h.nd h.bd hq;rw[e2,e,sr] at this;have eq:q=((i:Int),q.2):=uy (by rw[e2,e,sr]) rfl
   exact⟨q.2,eq▸hq,this⟩
 obtain⟨bs,eb⟩:=all_ints (eO qs.length tk) λi hi=>by
  rw[JU] at hi;obtain⟨c,_,e⟩:=at_ i hi;exact⟨c,e⟩
 have hl:bs.length=qs.length:=by
  have:=gh List.length eb;rwa [JU,aK,eq_comm] at this
 refine⟨bs,eb,hl,λi c e=>?_⟩;obtain⟨c',h1,e'⟩:=at_ i (by have:=(fD.mp e).1;lia)
 rw[eb,gR,e] at e';cases e';exact h1
section
variable{K:W.Frag}{CA:Addr}{H:Hp}{L l2:Addr}{ps DX:List Addr}{qs qs2:List Ak}
end
structure WQ(P:Pl)(sh:List (Int×Int))(J:List Dr->Int->Int->Int->Int->List (Int×Int)->Prop):Prop where
 go:∀ds r b t u tk b2 d t' u',J ds r b t u tk->WK ds b b2->rO sh (ds.filter λd=>decide (d.q.at_<=b2)) t u t' u'->d∈ds.filter (λd=>decide (d.q.at_<=b2))->h_ (dY sh t') (ds.filter λd=>decide (d.q.at_<=b2))=some d.n->J (ds.filter λe=>decide (e.n≠d.n)) (fq P (r,b2) d.c).1 (fq P (r,b2) d.c).2 t' u' (tk++[(d.n,b2)])
theorem JX{H:Hp}{a b:Addr}{o:HO}(h:H a=some o)(n:H b=none):b≠a:=λz=>by rw[z,h] at n;cases n
section
variable{K:W.Frag}{CS CC CA CD:Addr}{sh:List (Int×Int)}{t u:Int}{H H' H1:Hp}{ru dx pl x dc kp p Dx:Addr}{bR ks:List Addr}{kk:List (List Int)}{r b:Int}{ls:List (Dr×Addr)}
theorem fV.nF(h:fV CS H ru sh t u dx pl bR)(c:bZ K CC CA CD H x dc kp ks kk p r b Dx ls)(s:cy x Dx H H')(nx:ru≠x):fV CS H' ru sh t u dx pl bR:=by
 have go:∀ {a:Addr} {o:HO},H a=some o->(∀C d fs,o≠.ins C d fs)->(∀k,o≠.dK k)->H' a=some o:=λ{a o} e n1 n2=>s _ _ e (λz=>by have:=c.o;rw[← z,e] at this;exact n1 _ _ _ (dD this)) (λz=>by have:=c.d;rw[← z,e] at this;exact n2 _ (dD this))
 exact⟨s _ _ h.o nx (λz=>by have:=c.d;rw[← z,h.o] at this;cases this),go h.p.l (λ_ _ _ z=>nomatch z) (λ_ z=>nomatch z),h.p.n,λi t p e1 e2=>go (h.p.t i t p e1 e2) (λ_ _ _ z=>nomatch z) (λ_ z=>nomatch z)⟩
end
noncomputable def dI(n ia i:Int):Int:=(i - ia) % n
theorem D9{n ia i:Int}(hn:1<=n):0<=dI n ia i/\dI n ia i<n:=⟨nX _ ∅,pD _ ∅⟩
theorem xT{n ia:Int}:dI n ia ia=0:=by unfold dI;rw[Int.sub_self];exact Int.zero_emod _
theorem WR{n ia i j:Int}(hi:0<=i/\i<n)(hj:0<=j/\j<n)(h:dI n ia i=dI n ia j):i=j:=by
 unfold dI at h;have e1:=Int.mul_ediv_add_emod (i - ia) n;have e2:=Int.mul_ediv_add_emod (j - ia) n;have e3:i - j=n*((i - ia) / n - (j - ia) / n):=by rw[Int.mul_sub];lia
 generalize (i - ia) / n - (j - ia) / n=k at e3;by_cases k0:k=0
 ·subst k0;simp at e3;lia
 ·exfalso
  by_cases kp:1<=k
  ·have:=BO kp (show 0<=n by lia)
   lia
  ·have:=BO (show k<=-1 by lia) (show 0<=n by lia)
   lia
theorem ag_{z:List (Int×Int)}{x:Int}(h:x∈z.map (·.1)):∃i:Int,0<=i/\i<z.length/\dY z i=x:=by
 obtain⟨p,hp,rfl⟩:=cH.mp h;obtain⟨i,hi,rfl⟩:=List.getElem_of_mem hp;refine⟨(i:Int),∅,∅,?_⟩
 unfold dY;rw[yF,qG,bx hi];rfl
theorem JY{z:List (Int×Int)}(nd:(z.map (·.1)).Nodup){i j:Int}(hi:0<=i/\i<z.length)(hj:0<=j/\j<z.length)(h:dY z i=dY z j):i=j:=by
 have e1:=vn hi.1 hi.2;have e2:=vn hj.1 hj.2;have f1:(z.map (·.1))[i.toNat]? = some (dY z i):=by rw[gR,e1];rfl
 have f2:(z.map (·.1))[j.toNat]? = some (dY z i):=by rw[gR,e2,h];rfl
 have:=(List.getElem?_inj (i:=i.toNat) (j:=j.toNat) (by rw[aK];lia) nd).mp (f1.trans f2.symm)
 lia
theorem D_{ds:List Dr}(up:ds.Pairwise λa b=>a.n<b.n){d e:Dr}(hd:d∈ds)(he:e∈ds)(h:d.n=e.n):d=e:=by
 obtain⟨l1,l2,rfl⟩:=List.append_of_mem hd;rw[GC,List.pairwise_cons] at up;rcases cF.mp he with he | he
 ·have:=up.2.2 e he d (eB ..);lia
 ·rcases cg.mp he with rfl | he
  ·rfl
  ·have:=up.2.1.1 e he;lia
section
variable{z:List (Int×Int)}{a s h ia:Int}{ds:List Dr}{t u ρ:Int}
end
def aha(K:W.Frag):Sp:=λvs H Q _=>∃(sc t aa:Addr) (ns:List Int) (at_ many:Int) (rc:List Int) (aG sk:Int) (sw:List Int) (ca sa na:Addr) (gO:List Addr) (nc:List (Int×Int)) (as:List Int),vs = [.ref sc,.int at_,.int many,.ref t,.ref aa]/\aE K H sc (ns.map V.int)/\ns.length<=63/\0<=at_/\at_<=100/\0<=many/\many<=42/\
 xK H t rc aG sk sw ca sa na gO nc/\1<=nc.length/\nc.length<=1000000/\1<=aG/\aG<=1000000000/\H aa=some (.lst (as.map V.int))/\1<=as.length/\(∀x∈as,0<=x/\x<=20)/\
 ∀l ts qs H',aq H H'->H l=none->iz H' l ts qs->qs.length=many.toNat->(∀q∈qs,rL nc.length q/\q.at_<=1000000000000/\(q.kind = "rest"\/q.bB∈as))->qs.Pairwise (λa b=>a.at_<=b.at_)->Q (.ref l) H'
def ahb:Sp:=λvs H Q _=>∃(l:Addr) (ts:List Addr) (z:List (Int×Int)),vs = [.ref l]/\Zn H l ts z/\iR z/\∀H',aq H H'->Q .aR H'
def ahc(C:Addr):Sp:=λvs H Q _=>∃(x dx l:Addr) (ts:List Addr) (z:List (Int×Int)),vs = [.ref x,.ref l]/\H x=some (.ins C dx [])/\Zn H l ts z/\iR z/\∀pl bR H',SameBut x H H'->H pl=none->fV C H' x z 0 0 dx pl bR->Q .aR H'
def ahd(C:Addr):Sp:=λvs H Q _=>∃(x B dx pl:Addr) (bR:List Addr) (sh:List (Int×Int)) (t u:Int) (kvs:List (Key×V)),vs = [.ref x,.ref B]/\fV C H x sh t u dx pl bR/\sh.length<=4/\H B=some (.dK kvs)/\Wr sh kvs/\∀ob H',SameBut B H H'->H' B=some (.cK ob (.dK kvs))->Q .aR H'
def ahe(K:W.Frag)(CA CD C:Addr):Sp:=λvs H Q _=>∃(x p dx pl:Addr) (r b:Int) (bR:List Addr) (sh:List (Int×Int)) (t u:Int) (D:Addr) (ps:List Addr) (ds:List Dr),vs = [.ref x,.ref p,.int r,.int b,.ref D]/\fV C H x sh t u dx pl bR/\iR sh/\0<=t/\t<sh.length/\tE K CA CD H D ps ds/\1<=ds.length/\ds.length<=100/\(∀d∈ds,d.q.bB∈sh.map (·.1))/\
 ∀t' u' n H',SameBut x H H'->fV C H' x sh t' u' dx pl bR->rO sh ds t u t' u'->h_ (dY sh t') ds=some n->Q (.int n) H'
def ahf(K:W.Frag)(cs:List Addr)(CA CS CP:Addr):Sp:=λvs H Q _=>∃(C p la ru dx pl:Addr) (bR:List Addr) (sh:List (Int×Int)) (t u:Int) (P:Pl) (fp ps:List Addr) (qs:List Ak) (r0:Int) (J:List Dr->Int->Int->Int->Int->List (Int×Int)->Prop),
 vs = [.ref p,.ref la,.ref ru,.int r0,.int 0]/\C∈cs/\dG K C H p P fp/\q9 P/\P.nc.length<=1000000/\iy K CA H la ps qs/\Dw P.nc.length qs/\(∀q∈qs,D8 P q)/\fV CS H ru sh t u dx pl bR/\iR sh/\(∀q∈qs,q.bB∈sh.map (·.1))/\0<=r0/\r0<P.rc.length/\
 J (gr P.nc 0 qs) r0 0 0 0 []/\WQ P sh J/\
 ∀x iw v1 ta v3 v4 v5 r b t' u' tk H',gP ru H H'->J [] r b t' u' tk->H' x=some (.ins CP iw (ag6 v1 ta v3 v4 v5))->H' ta=some (.lst (eO qs.length tk))->Q (.ref x) H'
noncomputable def xU(q:Ak):Ak:=⟨"read",q.first,q.many,[],q.at_,q.bB,q.oM,[],false⟩
noncomputable def lC(qs:List Ak):List Ak:=(qs.filter λq=>decide (q.kind≠("rest" : Str))).map xU
def ahg(K:W.Frag):Sp:=λvs H Q _=>∃(l:Addr) (ts:List Addr) (qs:List Ak),vs = [.ref l]/\iz H l ts qs/\qs.length<=100/\
 ∀l2 kD H',aq H H'->H l2=none->iz H' l2 kD (lC qs)->Q (.ref l2) H'
noncomputable def Ax(qs:List Ak)(bs:List Int)(k:Nat)(q:Ak)(b:Int):List Nat:=(List.range qs.length).filter λj=>decide (q.at_<=bs.getD j 0/\bs.getD j 0<b) && decide ((qs.getD j q).bB≠q.bB)
noncomputable def tK(qs:List Ak)(bs:List Int)(k:Nat)(q:Ak)(b:Int):List Nat:=(List.range qs.length).filter λj=>(decide (q.at_<=bs.getD j 0/\bs.getD j 0<b) && decide ((qs.getD j q).bB=q.bB)) && decide (j<k)
def ahh(K:W.Frag):Sp:=λvs H Q _=>∃(l ta:Addr) (ts:List Addr) (qs:List Ak) (bs:List Int) (k:Nat) (q:Ak),vs = [.ref l,.ref ta,.int (k:Int)]/\iz H l ts qs/\qs.length<=100/\H ta=some (.lst (bs.map V.int))/\bs.length=qs.length/\qs[k]? = some q/\
 ∀t H',aq H H'->H' t=some (.tup [.int ((tK qs bs k q (bs.getD k 0)).length:Int),.int ((Ax qs bs k q (bs.getD k 0)).length:Int)])->Q (.ref t) H'
structure WS(o7:Int)(K:W.Frag)(CS CC CA CD:Addr)(sh:List (Int×Int))(P:Pl)(qs:List Ak)(J:List Dr->Int->Int->Int->Int->List (Int×Int)->Prop)(H H3 H':Hp)(Ay:List (Dr×Addr))(ru dx pl:Addr)(bR:List Addr)(x dc kp p Dx R Pk Tk:Addr)(ks:List Addr)(kk:List (List Int))(r b:Int)(ls:List (Dr×Addr))(t u:Int)(tk:List (Int×Int))(ts:List Addr)(rows:List (List Int)):Prop where
 kx:gP ru H H'
 kt:cW H H'
 rA:fV CS H' ru sh t u dx pl bR
 t0:0<=t/\t<sh.length
 nx:ru≠x
 co:bZ K CC CA CD H' x dc kp ks kk p r b Dx ls
 j:J (ls.map (·.1)) r b t u tk
 fx:H x=none
 fd:H Dx=none
 c3:bZ K CC CA CD H3 x dc kp ks kk p o7 0 Dx Ay
 bt:nG x Dx H3 H'
 sub:ls.Sublist Ay
 n3:H3 R=none/\H3 Pk=none/\H3 Tk=none
 fR:qj ru H R
 fP:qj ru H Pk
 fT:qj ru H Tk
 np:R≠pl/\Pk≠pl/\Tk≠pl
 ne:R≠Pk/\R≠Tk/\Pk≠Tk
 rr:Zt H' R ts rows
 r5:∀w∈rows,w.length=5
 rl:rows.length<=16*tk.length
 rh:∀q∈tk,∃w∈rows,w.head? = some q.1
 pP:H' Pk=some (.lst ((tk.map (·.1)).map V.int))
 tT:H' Tk=some (.lst (eO qs.length tk))
 n:tk.length+ls.length=qs.length
 all:∀d∈gr P.nc 0 qs,d∈ls.map (·.1)\/∃q∈tk,q.1=d.n
 dr:∀y∈ls,y.1∈gr P.nc 0 qs
 tn:∀q∈tk,0<=q.1/\q.1<qs.length
 r0:0<=r
 r1:r<P.rc.length
theorem WT:entryFor table "dict.update.loop" = some Builtin.«dict.update.loop» := entryFor_of_tree (by kernel_rfl)
theorem Ea:plainId "dict.update.loop" = true:=by decide +kernel
theorem ahi:typeLookup (.type "list") "keys" = pure none:=am_miss_of_fast (by decide +kernel)
section
variable{prog:Program}{w:World}{A:Around}{E:Value->Shared->Prop}{s:Shared}
theorem ahj{a:Addr}{o:Obj}{xs:Array Value}{k:Nat}{Q:Option Value->Shared->Prop}
  (hx:s.heap.get? a=some o) (hc:o.cls = .type "list") (WU:o.data = .seq xs k) (hd:o.dict=none) (hA:A.handled=none)
  (h:∀h' tk,(∀b ob,s.heap.get? b=some ob->h'.get? b=some ob)->Q none { s with heap:=h',toks:=tk }) :
  wpAny (model prog w) A (getAttr? (.ref a) "keys") Q E s:=by
 obtain⟨c,dct,dat,sl⟩:=o;simp only at hc WU hd;subst hc WU hd;obtain⟨hp,g,d,tk,os⟩:=s;have hT:∀mV,(⟨hp,g,d,mV,os⟩:Shared).TypeIs (.ref a) "list" := λ_=>⟨_,hx,rfl⟩
 have f1:=sub_AttributeError;have f3:=F.slot_list_getattribute.lookup;have f4:=F.slot_list_getattribute.bind (.ref a);have f5:=am_list_getattr_none;unfold getAttr? getAttrBy? getAttrBy
 repeat (any_goals (first | assumption | exact hT _ | ((with_reducible show wpAny _ _ (call (Value.builtin "list.__getattribute__") _ _) _ _ _);refine call_meets F.slot_list_getattribute (hT _) am_entry_list_getattribute (F.args_list_getattribute_2 _ _) (meets_getattribute_miss_list a xs k sl "keys" _ ahi ⋯ (by size_fits)) ⟨hx,hA,λh' mV e tG=>?_⟩) | wp_step))
 obtain⟨t',u',he⟩:=tG.there
 show wpAny _ _ (getattributeRaised _ _ _ _ _ _ _) _ _ _;unfold getattributeRaised
 repeat (any_goals (first | assumption | wp_step))
 exact h _ _ tG.keeps
end
noncomputable def zK(z:List (Int×Int)):List (Key×V):=z.foldl (λkvs p=>putK kvs (bN p.1) (.int p.2)) []
theorem JZ(z:List (Int×Int))(p:Int×Int):zK (z++[p])=putK (zK z) (bN p.1) (.int p.2):=by
 unfold zK;rw[List.foldl_append];rfl
theorem WV(z:List (Int×Int)):(zK z).length<=z.length:=by
 rw[← GF z];generalize z.reverse=r
 induction r with
 | nil=>exact bu _
 | cons x r ih =>
  rw[GD,JZ];have:=CZ (zK r.reverse) (bN x.1) (.int x.2);rw[fE,rZ];lia
theorem ahk{z:List (Int×Int)}(nd:(z.map (·.1)).Nodup){q:Int×Int}(hq:q∈z):bV (zK z) (bN q.1)=some (.int q.2):=by
 rw[← GF z] at nd hq ⊢;generalize z.reverse=r at nd hq ⊢
 induction r with
 | nil=>simp at hq
 | cons x r ih =>
  rw[GD] at nd hq ⊢;rw[JZ,CY];rw[bO,se] at nd;rcases cF.mp hq with hq | hq
  ·rw[if_neg,ih nd.1 hq];intro e;have e:q.1=x.1:=Sum.inl.inj e;exact nd.2.2 q.1 (l_ hq) x.1 (by simp) e
  ·rw[cj.mp hq,if_pos rfl]
section
variable{prog:Program}{w:World}{A:Around}{R:Result->Shared->Prop}{l I S:Addr}{z:List (Int×Int)}{its:List Value}
def WW(h:Heap)(v:Value)(p:Int×Int):Prop:=∃a o n t u,v = .ref a/\h.get? a=some o/\o.cls = .type "tuple"/\o.data = .seq #[.int p.1 t,.int p.2 u] n
theorem ahl(hh:A.handled=none)(hz:z.length<=1000)(hn:its.length=z.length)(tF:l≠I)(gI:S≠I)(rK:S≠l):∀(k i:Nat) (s:Shared) (vs:List (Key×Value)) (tt:Tok),i+k=its.length->
  s.heap.IsListIter I l i->s.heap.IsList l its.toArray->s.heap.DictOf (c_ prog w) S vs->KV (zK (z.take i)) vs->(∀(j:Nat) (v:Value) (p:Int×Int),its[j]? = some v->z[j]? = some p->WW s.heap v p/\v≠.ref S/\v≠.ref I)->
  (∀h' tk vs,(∀b o,b≠S->b≠I->s.heap.get? b=some o->h'.get? b=some o)->h'.DictOf (c_ prog w) S vs->KV (zK z) vs->R (.ok (.ret .none)) { s with heap:=h',toks:=tk })->
  codeAny (model prog w) A (.builtin "dict.update.loop" ⟨[.ref S,.ref I,.int (i:Int) tt,.none],[]⟩) R s:=by
 have W:=uA (prog:=prog) (w:=w) (A:=A.in1) hh I l tF its.toArray;intro k
 induction k with
 | zero =>
  intro i s vs tt hi hit hl hS hK hP hR;refine iD WT ?_;rw[iV Ea _]
  show wpAny _ A.in1 (pyNext (.ref I) >>= _) _ _ _;have gG:i=its.length:=hi;subst gG;have hzz:(its.toArray).size=its.length:=by simp
  refine aF (W.done _ _ _ ⟨by rw[hzz];exact hit,hl⟩ λh5 t5 k5=>?_)
  show wpAny _ A.in1 (Builtin.Dict.addKeywords S [] >>= _) _ _ _;rw[hn,eG] at hK;refine aF (aV (aV (hR h5 t5 vs (λb o hb hI e=>k5 b o (by simpa using hI) e) ?_ hK)))
  exact hS.at λo e=>k5 S o (by simpa using gI) e
 | succ k ih =>
  intro i s vs tt hi hit hl hS hK hP hR;have gG:i<its.length:=by lia
  have WX:i<z.length:=by lia
  refine iD WT ?_;rw[iV Ea _]
  show wpAny _ A.in1 (pyNext (.ref I) >>= _) _ _ s;refine aF (W.item i s _ _ (by simpa using gG) ⟨hit,hl⟩ λv h1 t1 hPv Jy k1=>?_)
  have ev:its[i]? = some v:=by simpa using hPv
  obtain⟨⟨a,o,n,t,u,rfl,ho,hc,hd⟩,nS,nI⟩:=hP i v z[i] ev (bx WX);have je:=k1 a o (by simpa using λe:a=I=>nI (by rw[e])) ho
  have vj:h1.DictOf (c_ prog w) S vs:=hS.at λo e=>k1 S o (by simpa using gI) e
  obtain⟨c,dct,dat,sl⟩:=o;simp only at hc hd;subst hc hd;have hT:Shared.TypeIs { s with heap:=h1,toks:=t1 } (.ref a) "tuple" := ⟨_,je,rfl⟩;dsimp only;refine aF (jg (aF (qK ?_)));unfold Builtin.Dict.pairItems;refine aF (Ce hT ?_);rw[if_pos ⋯]
  refine aF (uD je rfl ?_);refine aV ?_
  show wpAny _ _ (holding [.int z[i].1 t,.int z[i].2 u] (dictSet S (.int z[i].1 t) (.int z[i].2 u))) _ _ _;have vl:vs.length<=sizeLine:=by
   have:=WV (z.take i);rw[hK.length,fc] at this;rw[pL];lia
  refine jg (wpAny_dictSet_pairs (hsz:=vl) (k:=bN z[i].1) (RP prog w _ t) vj λh2 lU lR=>?_);refine aV ⟨iY Ea _,?_⟩;have iI:h2.IsListIter I l (i+1)/\h2.IsList l its.toArray:=W.frame (i+1) h1 h2 Jy λb hb o e=>(lR.2 b (λz=>by
   rw[z] at hb;rcases cg.mp hb with q | q
   ·exact gI q
   ·exact rK (cj.mp q))).trans e
  have kp:∀b o,b≠S->b≠I->s.heap.get? b=some o->h2.get? b=some o:=λb o hb hI e=>(lR.2 b hb).trans (k1 b o (by simpa using hI) e)
  refine ih (i+1) _ _ _ ∅ iI.1 iI.2 lU ?_ (λj v p e1 e2=>?_) λh' tk Jl kp' gn hK'=>hR h' tk Jl (λb o hb hI e=>kp' b o hb hI (kp b o hb hI e)) gn hK'
  ·rw[take_succ_get (bx WX),JZ];exact hK.put _ ⟨u,rfl⟩
  ·obtain⟨⟨a',o',n',t',u',rfl,DR,J0,h3'⟩,x1,x2⟩:=hP j v p e1 e2;exact⟨⟨a',o',n',t',u',rfl,kp _ _ (λe=>x1 (by rw[e])) (λe=>x2 (by rw[e])) DR,J0,h3'⟩,x1,x2⟩
end
section
variable{prog:Program}{w:World}{A:Around}{E:Value->Shared->Prop}{s:Shared}
theorem ahm{l:Addr}{z:List (Int×Int)}{its:List Value}{Q:Value->Shared->Prop}(hh:A.handled=none)(hz:z.length<=1000)(hn:its.length=z.length){o:Obj}{nn:Nat}(ho:s.heap.get? l=some o)(hc:o.cls = .type "list")(hd:o.data = .seq its.toArray nn)(hdi:o.dict=none)
  (hP:∀(j:Nat) (v:Value) (p:Int×Int),its[j]? = some v->z[j]? = some p->WW s.heap v p)
  (h:∀(h':Heap) (tk:Nat) (vs:List (Key×Value)),h'.DictOf (c_ prog w) s.heap.objs.size vs->KV (zK z) vs->(∀b o,s.heap.get? b=some o->h'.get? b=some o)->Q (.ref s.heap.objs.size) { s with heap:=h',toks:=tk }) :
  wpAny (model prog w) A (call (.type "dict") [.ref l]) Q E s:=by
 refine callType_codes (Q₁:=λobj aW=>obj = .ref s.heap.objs.size/\aW = { s with heap:=s.heap.push { cls:=.type "dict",data:=.dict #[] }}) F.kt_called_dict (F.kt_typeCall_dict_1 _) F.entry_dict_init (kt_code_dict_new _ ⟨rfl,rfl⟩) ?_;rintro obj aW ⟨rfl,rfl⟩;have qW:(s.heap.push { cls:=.type "dict",data:=.dict #[] }).DictOf (c_ prog w) s.heap.objs.size []:=Heap.DictOf.new s.heap;have gW:(s.heap.push { cls:=.type "dict",data:=.dict #[] }).get? l=some o:=bW _ ho;have hT:Shared.TypeIs { s with heap:=s.heap.push { cls:=.type "dict",data:=.dict #[] }} (.ref l) "list" := ⟨_,gW,hc⟩;have Aj:l<s.heap.objs.size:=bK ho;refine⟨qW.typeIs,F.args_dict_init_2 _ _,?_⟩;unfold Builtin.«dict.__init__»;refine aF ?_;unfold Builtin.Dict.selfAndRest;refine aF (wpAny_notOrdered_dict qW.typeIs ?_)
 show wpAny _ _ (pure (s.heap.objs.size,[Value.ref l])) _ _ _;refine aV ?_
 show wpAny _ _ (Builtin.Dict.updateFrom "dict.__init__" s.heap.objs.size (.ref l) [] .none) _ _ _;unfold Builtin.Dict.updateFrom;refine aF (Ce hT ?_);rw[if_pos ⋯]
 refine aF (ahj gW hc hd hdi (by simp[hh]) λh2 t2 k2=>?_)
 simp only[Option.isNone_none,↓reduceIte];refine aF (wpAny_rule ?_);have oA:h2.IsList l its.toArray:=⟨o,k2 _ _ gW,hc,nn,hd⟩;have lU:h2.DictOf (c_ prog w) s.heap.objs.size []:=qW.at λo e=>k2 _ o e;have bM:s.heap.objs.size<h2.objs.size:=by
  obtain⟨q,_,_,hq,_⟩:=lU;exact bK hq
 refine aF (wz oA ?_);refine aV ⟨iY Ea _,?_⟩;refine ahl (A:=A.in1) (z:=z) (its:=its) (l:=l) (I:=h2.objs.size) (S:=s.heap.objs.size) (by simp[hh]) hz hn (b9 (iX Aj bM)) (b9 bM) (kG Aj) its.length 0 _ [] _ (sr _) ?_ ?_ ?_ .nil ?_ ?_
 ·exact⟨_,e_ _ rfl,rfl,rfl⟩
 ·exact oA.push _
 ·exact lU.at λo e=>bW _ e
 ·intro j v p e1 e2;obtain⟨a,o2,n,t,u,rfl,h1,J0,h3⟩:=hP j v p e1 e2;have ha:a<s.heap.objs.size:=bK h1;exact⟨⟨a,o2,n,t,u,rfl,bW _ (k2 _ _ (bW _ h1)),J0,h3⟩,λe=>b9 ha (Value.ref.inj e),λe=>b9 (iX ha bM) (Value.ref.inj e)⟩
 ·intro h' tk vs kp gn hK;refine⟨rfl,h h' tk vs gn hK λb ob e=>?_⟩;have hb:b<s.heap.objs.size:=bK e;exact kp b ob (b9 hb) (b9 (iX hb bM)) (bW _ (k2 _ _ (bW _ e)))
end
section
variable{X:Cx}
theorem ahn(hcm:X.calm=true):jo X (.type "dict") (λxs H Q=>∃l ts z,xs = [.ref l]/\Zn H l ts z/\z.length<=1000/\∀p,H p=none->Q (.ref p) (upd H p (.dK (zK z)))):=by
 intro pins s σ H xs us Q I r h;obtain⟨l,ts,z,rfl,hz,aho,q⟩:=h;obtain⟨u,rfl,ru⟩:=vals1 r;cases ru;have hl:fM X.prog X.w H s.heap l (.lst (ts.map V.ref)):=I.aL l _ hz.l;obtain⟨zl,its,n,rv,hg⟩:=hl;have hn:its.length=z.length:=by rw[← rv.length,aK];exact hz.n
 refine ahm (z:=z) (its:=its) (I.ok.hd hcm) aho hn hg rfl rfl rfl (λj v p e1 e2=>?_) λh' tk vs hd hK kp=>?_
 ·have hj:j<ts.length:=by
   have:=(fD.mp e2).1;have:=hz.n;lia
  obtain⟨u,hu,ru⟩:=rv.get (i:=j) (x:=.ref ts[j]) (by rw[gR,bx hj];rfl)
  rw[e1] at hu;cases hu;cases ru;have ht:fM X.prog X.w H s.heap ts[j] (.tup [.int p.1,.int p.2]):=I.aL _ _ (hz.t j _ p (bx hj) e2);obtain⟨_,ki,rv2,ho⟩:=ht;obtain⟨a,b,rfl,⟨ta,ra⟩,⟨tb,rb⟩⟩:=vals2 rv2;subst ra rb;obtain⟨o,h1,h2,m,h3⟩:=ho;exact⟨_,o,m,ta,tb,rfl,h1,h2,h3⟩
 ·have WY:=WV z;exact⟨.ref s.heap.objs.size,upd H s.heap.objs.size (.dK (zK z)),I.laid (a:=s.heap.objs.size) (o:=.dK (zK z)) (t':=tk) (λb q hq=>kp b q hq) (bu _) ⟨by rw[pL];lia,lF.mpr (dR (b9 I.big)),vs,hK,hd⟩,rfl,q _ (I.aL.fresh (bu _))⟩
end
structure Eb(P:Pl)(z:List (Int×Int))(all:List Dr)(m:Nat):Prop where
 ok:q9 P
 hl:∀i:Nat,i<P.rc.length->1<=P.aG / P.rc.getD i 0
 up:all.Pairwise λa b=>a.n<b.n
 bd:∀d∈all,0<=d.n/\d.n<m
 c:∀d∈all,1<=d.c.length/\vd P d.c
 sk:iR z
 ak:∀d∈all,d.q.bB∈z.map (·.1)
theorem WZ{P:Pl}(ok:q9 P)(hl:∀i:Nat,i<P.rc.length->1<=P.aG / P.rc.getD i 0):∀(cs:List (Int×Int)) (s:Int×Int),0<=s.1->s.1<P.rc.length->vd P cs->1<=cs.length->0<=(fq P s cs).1/\(fq P s cs).1<P.rc.length/\s.2+1<=(fq P s cs).2
 | [],s,_,_,_,h=>by simp at h
 | [q],s,s0,s1,hc,_=>by
  have hq:=hc q (List.mem_singleton_self _);exact⟨hq.1,hq.2.1,WO ok hl s0 s1 hq.1 hq.2.1⟩
 | q::q2::cs,s,s0,s1,hc,_=>by
  have hq:=hc q (eB ..);have u:=WO ok hl s0 s1 hq.1 hq.2.1;have ih:=WZ ok hl (q2::cs) (oJ P s q) hq.1 hq.2.1 (λx hx=>hc x (cB _ hx)) (by simp)
  have u:s.2+1<=(oJ P s q).2:=u;exact⟨ih.1,ih.2.1,by show s.2+1<=(fq P (oJ P s q) (q2::cs)).2;lia⟩
noncomputable def upTo(z:List (Int×Int))(ia t:Int):Int:=(((List.range z.length).filter λ(i:Nat)=>decide (1<=dI z.length ia (i:Int)/\dI z.length ia (i:Int)<=dI z.length ia t)).map λ(i:Nat)=>cI z (i:Int)).sum
def qm(z:List (Int×Int))(ia t u:Int)(o a:Int):Prop:=∃ρ:Int,0<=ρ/\(t=ia->o<=ρ*upTo z ia (ia - 1)/\(ρ - 1)*cI z ia+u<=a)/\(t≠ia->o<=ρ*upTo z ia (ia - 1)+upTo z ia t - cI z t+u/\ρ*cI z ia<=a)
section
variable{z:List (Int×Int)}{ia t u o a:Int}
theorem Ec{α:Type}(f:α->Int)(p q:α->Bool):∀(l:List α),(∀x∈l,0<=f x)->(∀x∈l,p x=true->q x=true)->((l.filter p).map f).sum<=((l.filter q).map f).sum
 | [],_,_=>by simp
 | x::l,h0,h=>by
  have ih:=Ec f p q l (λy hy=>h0 y (cB _ hy)) λy hy=>h y (cB _ hy);have hx:=h0 x (eB ..);have hp:=h x (eB ..);cases p1:p x <;> cases q1:q x
  ·rw[pG (by simp[p1]),pG (by simp[q1])];exact ih
  ·rw[pG (by simp[p1]),pH (by simp[q1]),c9,sf];lia
  ·rw[p1] at hp;have:=hp rfl;rw[q1] at this;cases this
  ·rw[pH (by simp[p1]),pH (by simp[q1]),c9,c9,sf,sf];lia
theorem sum_in{α:Type}(f:α->Int)(p q:α->Bool):∀(l:List α),(∀x∈l,0<=f x)->(∀x∈l,p x=true->q x=true)->∀y∈l,p y=false->q y=true->((l.filter p).map f).sum+f y<=((l.filter q).map f).sum
 | [],_,_,_,h,_,_=>by simp at h
 | x::l,h0,h,y,hy,py,qy=>by
  have hx:=h0 x (eB ..);have zO:=λy hy=>h0 y (cB _ hy);have h':=λy hy=>h y (cB _ hy);rcases cg.mp hy with rfl | hy
  ·have:=Ec f p q l zO h';rw[pG (by simp[py]),pH (by simp[qy]),c9,sf];lia
  ·have ih:=sum_in f p q l zO h' y hy py qy;have hp:=h x (eB ..);cases p1:p x <;> cases q1:q x
   ·rw[pG (by simp[p1]),pG (by simp[q1])];exact ih
   ·rw[pG (by simp[p1]),pH (by simp[q1]),c9,sf];lia
   ·rw[p1] at hp;have:=hp rfl;rw[q1] at this;cases this
   ·rw[pH (by simp[p1]),pH (by simp[q1]),c9,c9,sf,sf];lia
theorem sha1(ok:iR z){i:Int}(h0:0<=i)(h1:i<z.length):1<=cI z i:=(ok.a _ (iC (vn h0 h1))).2.2.1
theorem Ef(ok:iR z):∀i∈List.range z.length,0<=cI z ((i:Nat):Int):=λi hi=>by
 have:=gC.mp hi;have:=sha1 ok (i:=(i:Int)) ∅ ∅
 lia
theorem ahp(ok:iR z){t t':Int}(h:dI z.length ia t<=dI z.length ia t'):upTo z ia t<=upTo z ia t' :=
 Ec _ _ _ _ (Ef ok) λi hi h1=>by
  have:=qJ h1;exact ig ⟨this.1,∅⟩
theorem W0(ok:iR z){t t':Int}(t0:0<=t')(t1:t' < z.length)(h:dI z.length ia t<dI z.length ia t')(hp:0<=dI z.length ia t):upTo z ia t+cI z t'<=upTo z ia t':=by
 have e:((t'.toNat:Nat):Int)=t':=nY t0;have:=sum_in (λ(i:Nat)=>cI z (i:Int)) (λ(i:Nat)=>decide (1<=dI z.length ia (i:Int)/\dI z.length ia (i:Int)<=dI z.length ia t)) (λ(i:Nat)=>decide (1<=dI z.length ia (i:Int)/\dI z.length ia (i:Int)<=dI z.length ia t')) (List.range z.length) (Ef ok) (λi hi h1=>by
  have:=qJ h1;exact ig ⟨this.1,∅⟩) t'.toNat (gC.mpr ∅) (by rw[e];exact jG ∅) (by rw[e];exact ig ⟨∅,∅⟩)
 rw[e] at this;exact this
theorem J4(ok:iR z):0<=upTo z ia t:=by
 have:=Ec (λ(i:Nat)=>cI z (i:Int)) (λ_=>false) (λ(i:Nat)=>decide (1<=dI z.length ia (i:Int)/\dI z.length ia (i:Int)<=dI z.length ia t)) (List.range z.length) (Ef ok) (λi hi h1=>by cases h1)
 rw[show List.filter (λx=>false) (List.range z.length) = [] from List.filter_eq_nil_iff.mpr (λ_ _ h=>by cases h)] at this
 exact this
theorem W2(ok:iR z)(t0:0<=t)(t1:t<z.length)(h:1<=dI z.length ia t):cI z t<=upTo z ia t:=by
 have:=W0 (ia:=ia) ok (t:=ia) t0 t1 (by rw[xT];lia) (by rw[xT];exact iW _)
 have:=J4 (ia:=ia) (t:=ia) ok;lia
theorem ahq(n1:1<=(z.length:Int)){t:Int}:dI z.length ia t<=dI z.length ia (ia - 1):=by
 have b:=D9 (n:=z.length) (ia:=ia) (i:=t) n1;have e:dI z.length ia (ia - 1)=(z.length:Int) - 1:=by
  unfold dI;rw[show ia - 1 - ia = -1 by lia,← Int.add_emod_right,BN ∅ ∅]
  lia
 lia
theorem qm.start(ok:iR z)(i0:0<=ia/\ia<z.length)(t0:0<=t/\t<z.length)(u0:0<=u)(u1:u<=cI z t):qm z ia t u 0 0:=by
 refine⟨0,iW _,λe=>⟨∅,by subst e;lia⟩,λe=>⟨?_,∅⟩⟩
 have d:=D9 (n:=z.length) (ia:=ia) (i:=t) ∅
 have:dI z.length ia t≠0:=λz0=>e (WR t0 i0 (by rw[z0,xT]))
 have:=W2 (ia:=ia) ok t0.1 t0.2 ∅
 lia
theorem W3{n ia t:Int}(j:Nat):dI n ia ((t+j) % n)=(dI n ia t+j) % n:=by
 unfold dI;rw[Int.emod_sub_emod,Int.emod_add_emod];congr 1;lia
theorem ahr{pr:Int->Prop}{t':Int}(i0:0<=ia/\ia<z.length)(h:rN pr z t t')(ha:pr (dY z ia))(ne:t'≠ia):dI z.length ia t<dI z.length ia t':=by
 obtain⟨k,k1,e,p,nj⟩:=h.ex;have n1:(1:Int)<=z.length:=by lia
 have b:=D9 (n:=z.length) (ia:=ia) (i:=t) n1;by_cases c:dI z.length ia t+k<z.length
 ·rw[e,W3,BN ∅ c];lia
 ·exfalso
  have hj:(((z.length:Int) - dI z.length ia t).toNat:Int)=z.length - dI z.length ia t:=nY ∅
  have g:=W3 (n:=z.length) (ia:=ia) (t:=t) ((z.length:Int) - dI z.length ia t).toNat;rw[hj,show dI z.length ia t+(z.length - dI z.length ia t)=z.length by lia,Int.emod_self] at g
  have tb:0<=(t+(z.length - dI z.length ia t)) % z.length/\(t+(z.length - dI z.length ia t)) % z.length<z.length:=⟨nX _ ∅,pD _ ∅⟩
  have q:=WR tb i0 (by rw[g,xT])
  by_cases k2:((z.length:Int) - dI z.length ia t).toNat<k
  ·have:=nj _ ∅ k2
   rw[hj,q] at this;exact this ha
  ·have e2:(k:Int)=z.length - dI z.length ia t:=by lia
   rw[e2,q] at e;exact ne e
theorem qm.step(ok:iR z){ds:List Dr}{t' u':Int}(h:qm z ia t u o a)(i0:0<=ia/\ia<z.length)(t0:0<=t/\t<z.length)(u1:u<=cI z t)(st:rO z ds t u t' u')(ha:here ds (dY z ia)):qm z ia t' u' (if t' = ia then o else o+1) (if t' = ia then a+1 else a):=by
 obtain⟨ρ,r0,w1,w2⟩:=h;have M0:=J4 (z:=z) (ia:=ia) (t:=ia - 1) ok;have s1:=sha1 ok i0.1 i0.2;by_cases c:cI z t<=u\/¬ here ds (dY z t)
 ·obtain⟨nx,rfl⟩:=st.y c;have tb:=nx.bd ∅
  have W4:=ahr i0 nx ha;by_cases et:t=ia
  ·have uu:u=cI z ia:=by
    rcases c with c | c
    ·rw[et] at c u1;lia
    ·rw[et] at c;exact absurd ha c
   obtain⟨x1,x2⟩:=w1 et;have x3:ρ*cI z ia<=a:=by rw[Int.sub_mul,vW] at x2;lia
   by_cases e':t' = ia
   ·rw[if_pos e',if_pos e'];refine⟨ρ+1,∅,λ_=>⟨by rw[Int.add_mul,vW];lia,by rw[show ρ+1 - 1=ρ by lia];lia⟩,λz=>absurd e' z⟩
   ·rw[if_neg e',if_neg e'];have f:=W4 e';rw[et,xT] at f;have:=W2 (ia:=ia) ok tb.1 tb.2 ∅
    exact⟨ρ,r0,λz=>absurd z e',λ_=>⟨∅,x3⟩⟩
  ·obtain⟨x1,x2⟩:=w2 et;by_cases e':t' = ia
   ·rw[if_pos e',if_pos e'];have:=ahp (ia:=ia) ok (ahq (z:=z) (ia:=ia) ∅ (t:=t))
    refine⟨ρ+1,∅,λ_=>⟨by rw[Int.add_mul,vW];lia,by rw[show ρ+1 - 1=ρ by lia];lia⟩,λz=>absurd e' z⟩
   ·rw[if_neg e',if_neg e'];have:=W0 ok tb.1 tb.2 (W4 e') (D9 ∅).1
    exact⟨ρ,r0,λz=>absurd z e',λ_=>⟨∅,x2⟩⟩
 ·obtain⟨rfl,rfl⟩:=st.n c;by_cases e':t' = ia
  ·rw[if_pos e',if_pos e'];obtain⟨x1,x2⟩:=w1 e';exact⟨ρ,r0,λ_=>⟨x1,∅⟩,λz=>absurd e' z⟩
  ·rw[if_neg e',if_neg e'];obtain⟨x1,x2⟩:=w2 e';exact⟨ρ,r0,λz=>absurd z e',λ_=>⟨∅,x2⟩⟩
theorem ahs:((List.range z.length).map λ(i:Nat)=>cI z (i:Int)).sum=(z.map (·.2)).sum:=by
 congr 1;apply List.ext_getElem
 ·simp
 ·intro i h1 h2;have hi:i<z.length:=by simpa using h2
  have:=vn (sh:=z) (t:=(i:Int)) ∅ ∅
  rw[yF,bx hi] at this;rw[List.getElem_map,List.getElem_map,List.getElem_range,dD this]
theorem aht(ok:iR z)(i0:0<=ia/\ia<z.length):upTo z ia (ia - 1)+cI z ia<=(z.map (·.2)).sum:=by
 have e:((ia.toNat:Nat):Int)=ia:=nY i0.1;have:=sum_in (λ(i:Nat)=>cI z (i:Int)) (λ(i:Nat)=>decide (1<=dI z.length ia (i:Int)/\dI z.length ia (i:Int)<=dI z.length ia (ia - 1))) (λ_=>true) (List.range z.length) (Ef ok) (λ_ _ _=>rfl) ia.toNat (gC.mpr ∅) (by rw[e,xT];exact jG ∅) rfl
 rw[show List.filter (λx=>true) (List.range z.length)=List.range z.length from List.filter_eq_self.mpr (λ_ _=>rfl),ahs,e] at this;exact this
noncomputable def xV(z:List (Int×Int))(ia a:Int):Int:=(a / cI z ia+1)*((z.map (·.2)).sum - cI z ia)
theorem qm.fin(ok:iR z)(i0:0<=ia/\ia<z.length)(a0:0<=a)(h:qm z ia ia u o (a+1))(u1:1<=u):o<=xV z ia a:=by
 obtain⟨ρ,r0,w1,_⟩:=h;obtain⟨x1,x2⟩:=w1 rfl;have s1:=sha1 ok i0.1 i0.2;have M0:=J4 (z:=z) (ia:=ia) (t:=ia - 1) ok;have M1:=aht ok i0;have q:ρ - 1<=a / cI z ia:=(Int.le_ediv_iff_mul_le ∅).mpr ∅
 have d0:=Int.ediv_nonneg a0 (show 0<=cI z ia by lia)
 have y1:=RJ (show ρ<=a / cI z ia+1 by lia) M0
 have y2:=BO (show upTo z ia (ia - 1)<=(z.map (·.2)).sum - cI z ia by lia) (show 0<=a / cI z ia+1 by lia)
 unfold xV;lia
end
noncomputable def Eg(all:List Dr)(a n:Int):Bool:=all.any λe=>decide (e.n=n) && decide (e.q.bB≠a)
noncomputable def isA(all:List Dr)(a n:Int):Bool:=all.any λe=>decide (e.n=n) && decide (e.q.bB=a)
theorem W5{all:List Dr}(up:all.Pairwise λa b=>a.n<b.n){d:Dr}(hd:d∈all)(a:Int):Eg all a d.n=decide (d.q.bB≠a):=by
 unfold Eg;rw[nW,List.any_eq_true,sD];constructor
 ·rintro⟨e,he,q⟩;rw[yD,sD,sD] at q;rw[D_ up hd he q.1.symm];exact q.2
 ·intro h;exact⟨d,hd,by simp[h]⟩
theorem W6{all:List Dr}(up:all.Pairwise λa b=>a.n<b.n){d:Dr}(hd:d∈all)(a:Int):isA all a d.n=decide (d.q.bB=a):=by
 unfold isA;rw[nW,List.any_eq_true,sD];constructor
 ·rintro⟨e,he,q⟩;rw[yD,sD,sD] at q;rw[D_ up hd he q.1.symm];exact q.2
 ·intro h;exact⟨d,hd,by simp[h]⟩
noncomputable def cO(all:List Dr)(d:Dr)(tk:List (Int×Int)):Nat:=tk.countP λq=>decide (d.q.at_<=q.2) && Eg all d.q.bB q.1
noncomputable def cA(all:List Dr)(d:Dr)(tk:List (Int×Int)):Nat:=tk.countP λq=>decide (d.q.at_<=q.2) && isA all d.q.bB q.1 && decide (q.1<d.n)
noncomputable def kO(all:List Dr)(d:Dr)(bk:Int)(tk:List (Int×Int)):Nat:=tk.countP λq=>decide (d.q.at_<=q.2/\q.2<bk) && Eg all d.q.bB q.1
noncomputable def kA(all:List Dr)(d:Dr)(bk:Int)(tk:List (Int×Int)):Nat:=tk.countP λq=>decide (d.q.at_<=q.2/\q.2<bk) && isA all d.q.bB q.1 && decide (q.1<d.n)
structure JT(P:Pl)(z:List (Int×Int))(all:List Dr)(m:Nat)(ds:List Dr)(r b t u:Int)(tk:List (Int×Int)):Prop where
 jb:JB all m ds b tk
 r0:0<=r
 r1:r<P.rc.length
 lt:∀q∈tk,q.2<b
 t0:0<=t/\t<z.length
 u0:0<=u
 u1:u<=cI z t
 J5:∀d∈ds,∀ia:Int,0<=ia->ia<z.length->dY z ia=d.q.bB->qm z ia t u (cO all d tk) (cA all d tk)
 res:∀q∈tk,∀d∈all,d.n=q.1->∀ia:Int,0<=ia->ia<z.length->dY z ia=d.q.bB->(kO all d q.2 tk:Int)<=xV z ia (kA all d q.2 tk)
theorem JT.start{P:Pl}{z:List (Int×Int)}{all:List Dr}{m:Nat}(G:Eb P z all m){r:Int}(r0:0<=r)(r1:r<P.rc.length):JT P z all m all r 0 0 0 [] where
 jb:=⟨.nil,(λ_ h=>nomatch h),(λd h=>.inl h),(λd h=>h),(λ_ h=>nomatch h),iW _⟩
 r0:=r0
 r1:=r1
 lt:=λ_ h=>nomatch h
 t0:=⟨iW _,by have:=G.sk.n1;lia⟩
 u0:=iW _
 u1:=by have:=sha1 G.sk (i:=0) (iW _) (by have:=G.sk.n1;lia);lia
 J5:=λd hd ia h0 h1 _=>qm.start G.sk ⟨h0,h1⟩ ⟨iW _,∅⟩ (iW _) (by have:=sha1 G.sk (i:=0) (iW _) ∅;lia)
 res:=λ_ h=>nomatch h
theorem JT.along{P:Pl}{z:List (Int×Int)}{all:List Dr}{m:Nat}(G:Eb P z all m):WQ P z (JT P z all m) where
 go:=λds r b t u tk b2 d t' u' J st vp dm ln=>by
  obtain⟨hd,da⟩:=gB.mp dm;have da:=qJ da;have xW:=J.jb.sb d hd;have b0:=J.jb.b0;have hb:b<=b2:=by
   obtain⟨M,_,_,eb⟩:=st;rw[eb];split <;> lia
  obtain⟨e1,e2,e3⟩:=WZ G.ok G.hl d.c (r,b2) J.r0 J.r1 (G.c d xW).2 (G.c d xW).1;have e3:b2+1<=(fq P (r,b2) d.c).2:=e3;obtain⟨tb,v0,v1,th⟩:=vp.bd G.sk J.t0.1 J.t0.2 J.u0;obtain⟨⟨d',kK,Az,en'⟩,lst⟩:=(JJ _).2 _ ln;have dd:d' = d:=D_ G.up (J.jb.sb d' (gB.mp kK).1) xW en';subst dd;have v2:1<=u':=by
   by_cases c:cI z t<=u\/¬ here (ds.filter λd=>decide (d.q.at_<=b2)) (dY z t)
   ·have:=(vp.y c).2;lia
   ·have:=(vp.n c).2;have:=J.u0;lia
  have old:∀q∈tk,q.2<b2:=λq hq=>by have:=J.lt q hq;lia
  refine⟨J.jb.step G.bd hd ∅,e1,e2,λq hq=>?_,tb,v0,v1,λe he ia i0 i1 ae=>?_,λq hq e he en ia i0 i1 ae=>?_⟩
  ·rcases cF.mp hq with hq | hq
   ·have:=old q hq;lia
   ·rw[cj.mp hq];show b2<_;lia
  ·obtain⟨J6,W7⟩:=gB.mp he;have W7:=qJ W7;have apZ:=J.jb.sb e J6;by_cases c:e.q.at_<=b2
   ·have eR:e∈ds.filter (λd=>decide (d.q.at_<=b2)):=gB.mpr ⟨J6,ig c⟩;have w:=(J.J5 e J6 ia i0 i1 ae).step G.sk ⟨i0,i1⟩ J.t0 J.u1 vp (by rw[ae];exact JK eR rfl)
    have eo:(cO all e (tk++[(d'.n,b2)]):Int)=if t' = ia then(cO all e tk:Int) else cO all e tk+1:=by
     unfold cO;rw[vX,vY,W5 G.up xW];by_cases q:t' = ia
     ·rw[if_pos q,if_neg (by simp[← ae,← q,Az])];lia
     ·have:d'.q.bB≠e.q.bB:=λx=>q (JY G.sk.nd tb ⟨i0,i1⟩ (by rw[← Az,x,ae]))
      rw[if_neg q,if_pos (by simp[c,this])];lia
    have ea:(cA all e (tk++[(d'.n,b2)]):Int)=if t' = ia then(cA all e tk:Int)+1 else cA all e tk:=by
     unfold cA;rw[vX,vY,W6 G.up xW];by_cases q:t' = ia
     ·have l:=lst e eR (by rw[q,ae])
      have:d'.n<e.n:=by lia
      rw[if_pos q,if_pos (by simp[c,this,← ae,← q,Az])];lia
     ·have:d'.q.bB≠e.q.bB:=λx=>q (JY G.sk.nd tb ⟨i0,i1⟩ (by rw[← Az,x,ae]))
      rw[if_neg q,if_neg (by simp[this])];lia
    rw[eo,ea];exact w
   ·have z1:∀q∈tk++[(d'.n,b2)],¬ e.q.at_<=q.2:=λq hq=>by
     rcases cF.mp hq with hq | hq
     ·have:=old q hq;lia
     ·rw[cj.mp hq];exact c
    have eo:cO all e (tk++[(d'.n,b2)])=0:=List.countP_eq_zero.mpr λq hq=>by simp[z1 q hq]
    have ea:cA all e (tk++[(d'.n,b2)])=0:=List.countP_eq_zero.mpr λq hq=>by simp[z1 q hq]
    rw[eo,ea];exact qm.start G.sk ⟨i0,i1⟩ tb v0 v1
  ·rcases cF.mp hq with hq | hq
   ·have n1:¬ b2<q.2:=by have:=old q hq;lia
    have eo:kO all e q.2 (tk++[(d'.n,b2)])=kO all e q.2 tk:=by
     unfold kO;rw[vX,vY,if_neg (by simp[n1])];rfl
    have ea:kA all e q.2 (tk++[(d'.n,b2)])=kA all e q.2 tk:=by
     unfold kA;rw[vX,vY,if_neg (by simp[n1])];rfl
    rw[eo,ea];exact J.res q hq e he en ia i0 i1 ae
   ·have qe:=cj.mp hq;subst qe;have ed:e=d':=D_ G.up he xW en;subst ed;have ti:t' = ia:=JY G.sk.nd tb ⟨i0,i1⟩ (by rw[← Az,ae])
    have w:=(J.J5 e hd ia i0 i1 ae).step G.sk ⟨i0,i1⟩ J.t0 J.u1 vp (by rw[← ti];exact th)
    rw[if_pos ti,if_pos ti] at w;subst ti;have f:=w.fin G.sk ⟨i0,i1⟩ ∅ v2
    have eo:kO all e b2 (tk++[(e.n,b2)])=cO all e tk:=by
     unfold kO cO;rw[vX,vY,if_neg (by simp),Nat.add_zero]
     refine List.countP_congr λq hq=>?_;have:=old q hq;simp[this]
    have ea:kA all e b2 (tk++[(e.n,b2)])=cA all e tk:=by
     unfold kA cA;rw[vX,vY,if_neg (by simp),Nat.add_zero]
     refine List.countP_congr λq hq=>?_;have:=old q hq;simp[this]
    show (kO all e b2 (tk++[(e.n,b2)]):Int)<=xV z _ (kA all e b2 (tk++[(e.n,b2)]));rw[eo,ea];exact f
theorem ahu{qs:List Ak}{q:Ak}:lC (qs++[q])=if q.kind≠("rest" : Str) then lC qs++[xU q] else lC qs:=by
 unfold lC;rw[qE,bO];by_cases h:q.kind=("rest" : Str)
 ·rw[if_neg (λz=>z h),pG (by simp[h])];simp
 ·rw[if_pos h,pH (by simp[h])];simp
theorem ahv{qs:List Ak}{k:Nat}(hk:k<qs.length):lC (qs.take (k+1))=if qs[k].kind≠("rest" : Str) then lC (qs.take k)++[xU qs[k]] else lC (qs.take k):=by
 rw[take_succ_get (bx hk),ahu]
theorem W8(qs:List Ak):(lC qs).length<=qs.length:=by
 unfold lC;rw[aK];exact pI _ _
noncomputable def AA(qs:List Ak)(bs:List Int)(q:Ak)(b:Int)(n:Nat):List Nat:=(List.range n).filter λj=>decide (q.at_<=bs.getD j 0/\bs.getD j 0<b) && decide ((qs.getD j q).bB≠q.bB)
noncomputable def AB(qs:List Ak)(bs:List Int)(k:Nat)(q:Ak)(b:Int)(n:Nat):List Nat:=(List.range n).filter λj=>(decide (q.at_<=bs.getD j 0/\bs.getD j 0<b) && decide ((qs.getD j q).bB=q.bB)) && decide (j<k)
theorem ahw{qs:List Ak}{bs:List Int}{q:Ak}{b:Int}{n:Nat}:(AA qs bs q b (n+1)).length=(AA qs bs q b n).length+if (q.at_<=bs.getD n 0/\bs.getD n 0<b)/\(qs.getD n q).bB≠q.bB then 1 else 0:=by
 unfold AA;rw[n_,qE,fE];congr 1;by_cases h:(q.at_<=bs.getD n 0/\bs.getD n 0<b)/\(qs.getD n q).bB≠q.bB
 ·rw[if_pos h,pH (by simp only[Bool.and_eq_true,decide_eq_true_eq];exact h)];rfl
 ·rw[if_neg h,pG (by simp only[Bool.and_eq_true,decide_eq_true_eq];exact h)];rfl
theorem ahx{qs:List Ak}{bs:List Int}{k:Nat}{q:Ak}{b:Int}{n:Nat}:(AB qs bs k q b (n+1)).length=(AB qs bs k q b n).length+if ((q.at_<=bs.getD n 0/\bs.getD n 0<b)/\(qs.getD n q).bB=q.bB)/\n<k then 1 else 0:=by
 unfold AB;rw[n_,qE,fE];congr 1;by_cases h:((q.at_<=bs.getD n 0/\bs.getD n 0<b)/\(qs.getD n q).bB=q.bB)/\n<k
 ·rw[if_pos h,pH (by simp only[Bool.and_eq_true,decide_eq_true_eq];exact h)];rfl
 ·rw[if_neg h,pG (by simp only[Bool.and_eq_true,decide_eq_true_eq];exact h)];rfl
theorem ahy{T:Int}{q:Ak}(h:rL T q)(n:q.kind≠("rest" : Str)):rL T (xU q) where
 k:=.inr (.inl rfl)
 r:=λz=>absurd (show ("read" : Str) = "rest" from z) ⋯
 f0:=λ_=>h.f0 n
 a0:=h.a0
 s0:=h.s0
 l0:=h.l0
 b0:=kZ.nil
 m0:=λ_ z=>nomatch z
 mr:=λ_=>⟨rfl,rfl⟩
 mw:=λz=>absurd (show ("read" : Str) = "write" from z) ⋯
structure rP(T:Int)(qs:List Ak)(as:List Int):Prop where
 n:qs.length<=42
 ok:∀q∈qs,rL T q/\q.at_<=1000000000000/\q.bB∈as
 rd:∀q∈qs,∃q0,q=xU q0
 up:qs.Pairwise λa b=>a.at_<=b.at_
theorem ahz{T:Int}{qs:List Ak}{as:List Int}(n:qs.length<=42)(ok:∀q∈qs,rL T q/\q.at_<=1000000000000/\(q.kind=("rest" : Str)\/q.bB∈as))(up:qs.Pairwise λa b=>a.at_<=b.at_):rP T (lC qs) as where
 n:=dQ (W8 qs) n
 ok:=λq hq=>by
  obtain⟨q0,h0,rfl⟩:=cH.mp hq;obtain⟨h1,h2⟩:=gB.mp h0;have h2:=qJ h2;obtain⟨a,b,c⟩:=ok q0 h1;exact⟨ahy a h2,b,c.resolve_left h2⟩
 rd:=λq hq=>by
  obtain⟨q0,h0,rfl⟩:=cH.mp hq;exact⟨q0,rfl⟩
 up:=by
  unfold lC;rw[qH];exact up.filter _
section
variable{z:List (Int×Int)}{aG sk:Int}{sw:List Int}{nc:List (Int×Int)}{qs:List Ak}{as:List Int}{sh:List (Int×Int)}
theorem rP.f(h:rP nc.length qs as){q:Ak}(hq:q∈qs):0<=q.first/\1<=q.many/\q.many<=16/\q.first+q.many<=nc.length:=by
 obtain⟨q0,rfl⟩:=h.rd q hq;exact(h.ok _ hq).1.f0 (λz=>absurd (show ("read" : Str) = "rest" from z) ⋯)
theorem rP.aks(h:rP nc.length qs as):Dw nc.length qs where
 n:=by have:=h.n;lia
 fit:=λi q e=>by
  have hq:=iC e;obtain⟨a,b,c,d⟩:=h.f hq;obtain⟨q0,rfl⟩:=h.rd q hq;exact⟨⟨a,∅,c,d⟩,by show (0:Nat)<=1000;lia⟩
 up:=λi q q' e1 e2=>by
  obtain⟨h1,rfl⟩:=fD.mp e1;obtain⟨h2,rfl⟩:=fD.mp e2;exact v_.mp h.up i (i+1) h1 h2 ∅
 bh:=λk q e n hn=>by
  obtain⟨q0,rfl⟩:=h.rd q (iC e);cases hn
theorem ahA(wo:rE z aG sk sw)(nk:Ag (counts z) nc)(f m:Int):vd (rF z aG sk sw nc) (jy nc f m):=λq hq=>by
 have:=nk.c q (afs hq);refine⟨this.1,this.2.1,this.2.2.1,?_⟩;obtain⟨y,hy,e⟩:=w6 (get_mem (sY (counts z) (show q.1.toNat<(counts z).length by lia)))
 have:=wo.zl.ok.r y hy;lia
theorem rP.W9(h:rP nc.length qs as)(wo:rE z aG sk sw)(nk:Ag (counts z) nc):∀q∈qs,D8 (rF z aG sk sw nc) q:=λq hq=>by
 obtain⟨a,b,c,d⟩:=h.f hq;have n1:=nk.n1;have ci:=ahA (aG:=aG) (sk:=sk) (sw:=sw) wo nk q.first q.many;have cl:=aft (nc:=nc) a (show 0<=q.many by lia) d
 obtain⟨q0,rfl⟩:=h.rd q hq;exact⟨rfl,rfl,rfl,a,∅,b,c,ci,cl⟩
theorem W_(nc:List (Int×Int)):∀(qs:List Ak) (k:Nat),(gr nc k qs).Pairwise λa b=>a.n<b.n
 | [],k=>.nil
 | q::qs,k=>by
  refine List.Pairwise.cons (λd hd=>?_) (W_ nc qs (k+1));have:=(Av nc qs (k+1) d hd).1
  show (k:Int)<d.n;lia
theorem J7(nc:List (Int×Int)):∀(qs:List Ak) (k i:Nat) (q:Ak),qs[i]? = some q->∃d∈gr nc k qs,d.n=((k+i:Nat):Int)/\d.q=q
 | [],k,i,q,h=>by simp at h
 | x::qs,k,0,q,h=>by
  simp at h;subst h;exact⟨_,eB ..,rfl,rfl⟩
 | x::qs,k,i+1,q,h=>by
  obtain⟨d,hd,e1,e2⟩:=J7 nc qs (k+1) i q (by simpa using h)
  exact⟨d,cB _ hd,by rw[e1];congr 1;lia,e2⟩
theorem rP.rws(h:rP nc.length qs as)(wo:rE z aG sk sw)(nk:Ag (counts z) nc)(AD:iR sh)(ea:sh.map (·.1)=as):Eb (rF z aG sk sw nc) sh (gr nc 0 qs) qs.length where
 ok:=wo.pl nc
 hl:=λi hi=>wo.part hi
 up:=W_ _ _ _
 bd:=λd hd=>by have:=Av nc qs 0 d hd;simp only[Nat.zero_add] at this;exact⟨by simpa using this.1,this.2⟩
 c:=λd hd=>by
  obtain⟨e1,e2⟩:=Aw nc qs 0 d hd;have rd:=h.W9 wo nk d.q e1;have m0:=rd.m0;rw[e2];exact⟨by have:=rd.cn;have e:(rF z aG sk sw nc).nc=nc:=rfl;rw[e] at this;rw[this];lia,rd.c⟩
 sk:=AD
 ak:=λd hd=>by rw[ea];exact(h.ok _ (Aw nc qs 0 d hd).1).2.2
theorem Xa{m:Nat}{tk:List (Int×Int)}{bs:List Int}(nd:(tk.map (·.1)).Nodup)(bd:∀q∈tk,0<=q.1/\q.1<m)(hb:bs.length=m)(hm:∀(j:Nat) (b:Int),bs[j]? = some b->((j:Int),b)∈tk)(f:Int×Int->Bool) :
  ((List.range m).filter λ(j:Nat)=>f ((j:Int),bs.getD j 0)).length=tk.countP f:=by
 rw[List.countP_eq_length_filter];have ahB:((List.range m).map λ(j:Nat)=>((j:Int),bs.getD j 0)) ⊆ tk:=λx hx=>by
  obtain⟨j,hj,rfl⟩:=cH.mp hx;have:=gC.mp hj;exact hm j _ (sY bs ∅)
 have nd1:((List.range m).map λ(j:Nat)=>((j:Int),bs.getD j 0)).Nodup:=by
  rw[pJ,qH];exact List.pairwise_lt_range.imp λh e=>by have:=(Prod.mk.inj e).1;lia
 have I_:tk.Nodup:=by
  rw[pJ,qH] at nd;exact List.nodup_iff_pairwise_ne.mpr (nd.imp λh e=>h (by rw[e]))
 have AE:tk ⊆ (List.range m).map λ(j:Nat)=>((j:Int),bs.getD j 0):=λq hq=>by
  obtain⟨h0,h1⟩:=bd q hq;have hj:q.1.toNat<bs.length:=by lia
  have mm:=hm q.1.toNat _ (sY bs hj);have x:=JW nd bd hq;have y:=JW nd bd mm;have e:((q.1.toNat:Nat):Int)=q.1:=nY h0;rw[show (((q.1.toNat:Nat):Int),bs.getD q.1.toNat 0).1=q.1 from e,x] at y;have y:q.2=bs.getD q.1.toNat 0:=V.int.inj (dD y);refine cH.mpr ⟨q.1.toNat,gC.mpr ∅,?_⟩
  rw[← y,e]
 have pm:((List.range m).map λ(j:Nat)=>((j:Int),bs.getD j 0)).Perm tk:=by
  refine(List.perm_ext_iff_of_nodup nd1 I_).mpr λx=>⟨λh=>ahB h,λh=>AE h⟩
 have:=(pm.filter f).length_eq;rw[BR,aK] at this;exact this
theorem JT.ends{P:Pl}(G:Eb P sh (gr nc 0 qs) qs.length){r b t u:Int}{tk:List (Int×Int)}(J:JT P sh (gr nc 0 qs) qs.length [] r b t u tk):∃bs:List Int,eO qs.length tk=bs.map V.int/\bs.length=qs.length/\
  ∀(k:Nat) (q:Ak),qs[k]? = some q->∀ia:Int,0<=ia->ia<sh.length->dY sh ia=q.bB->((Ax qs bs k q (bs.getD k 0)).length:Int)<=xV sh ia ((tK qs bs k q (bs.getD k 0)).length:Int):=by
 obtain⟨bs,e1,e2,e3⟩:=J.jb.ends;refine⟨bs,e1,e2,λk q ek ia i0 i1 ae=>?_⟩;have hk:k<bs.length:=by have:=(fD.mp ek).1;lia
 have mk:=e3 k _ (sY bs hk);obtain⟨d,hd,dn,dq⟩:=J7 nc qs 0 k q ek;simp only[Nat.zero_add] at dn;have R:=J.res _ mk d hd dn ia i0 i1 (by rw[ae,dq])
 have gq:∀j:Nat,j<qs.length->∃e∈gr nc 0 qs,e.n=(j:Int)/\e.q=qs.getD j q:=λj hj=>by
  obtain⟨e,he,n1,n2⟩:=J7 nc qs 0 j _ (bx hj);exact⟨e,he,by simpa using n1,by rw[n2,List.getD_eq_getElem?_getD,List.getElem?_eq_getElem hj];rfl⟩
 have c1:(Ax qs bs k q (bs.getD k 0)).length=kO (gr nc 0 qs) d (bs.getD k 0) tk:=by
  unfold kO;rw[← Xa J.jb.nd J.jb.bd e2 e3];unfold Ax;congr 1;refine Gr λj hj=>?_;obtain⟨e,he,n1,n2⟩:=gq j (gC.mp hj);rw[dq,← n1,W5 G.up he,n2]
 have c2:(tK qs bs k q (bs.getD k 0)).length=kA (gr nc 0 qs) d (bs.getD k 0) tk:=by
  unfold kA;rw[← Xa J.jb.nd J.jb.bd e2 e3];unfold tK;congr 1;refine Gr λj hj=>?_;obtain⟨e,he,n1,n2⟩:=gq j (gC.mp hj);rw[dq,dn]
  show _=(_ && isA _ _ (j:Int) && decide ((j:Int)<(k:Int)));rw[← n1,W6 G.up he,n2,n1];congr 1;simp
 rw[c1,c2];exact R
end
theorem ahC(xs:List Int):uS V.aR (xs.map V.int)=false:=by
 induction xs with
 | nil=>rfl
 | cons x xs ih=>rw[c9];exact ih
def iA(H H':Hp):Prop:=∀b o,H b=some o->(∀ps,o≠.fY ps)->H' b=some o
section
variable{K:W.Frag}{H H1 H2:Hp}
theorem iA.of(s:aq H H1):iA H H1:=λ_ _ e _=>s _ _ e
theorem iA.trans(s:iA H H1)(t:iA H1 H2):iA H H2:=λ_ _ e n=>t _ _ (s _ _ e n) n
theorem iA.rule{ru:Addr}(s:aq H H1)(k:gP ru H1 H2)(n:H ru=none):iA H H2:=λ_ _ e z=>k _ _ (s _ _ e) (λq=>by rw[q,n] at e;cases e) z
theorem iA.lst(k:iA H H1){a:Addr}{xs:List V}(e:H a=some (.lst xs)):H1 a=some (.lst xs):=k _ _ e (λ_ z=>nomatch z)
theorem iA.tup(k:iA H H1){a:Addr}{xs:List V}(e:H a=some (.tup xs)):H1 a=some (.tup xs):=k _ _ e (λ_ z=>nomatch z)
theorem iA.zn(k:iA H H1){l:Addr}{ts:List Addr}{z:List (Int×Int)}(h:Zn H l ts z):Zn H1 l ts z:=⟨k.lst h.l,h.n,λi t p e1 e2=>k.tup (h.t i t p e1 e2)⟩
theorem iA.tks(k:iA H H1){l:Addr}{ts:List Addr}{qs:List Ak}(h:iz H l ts qs):iz H1 l ts qs:=⟨k.lst h.l,h.n,λi t q e1 e2=>by
 obtain⟨m,b,x⟩:=h.t i t q e1 e2;exact⟨m,b,k.tup x.o,k.tup x.ms,k.tup x.bh⟩⟩
end
def AF(i:Nat):TE:=λσ H Q=>match σ[i]? with
 | some (some v)=>Q v H
 | _=>False
def mI(g:Int->Int->V):R2:=λx y H Q=>match x,y with
 | .int i,.int j=>Q (g i j) H
 | _,_=>False
def vq(C:Int->Int->Prop)(g:Int->Int->V):R2:=λx y H Q=>match x,y with
 | .int i,.int j=>C i j/\Q (g i j) H
 | _,_=>False
def onR(x:V)(k:Addr->Prop):Prop:=match x with
 | .ref a=>k a
 | _=>False
def vt(K:W.Frag)(o:Option HO)(f:Str)(k:V->Prop):Prop:=match o with
 | some (.ins C _ fs)=>(dW K C/\bL K C f)/\match fs.lookup f with
  | some v=>k v
  | none=>False
 | _=>False
def setM(K:W.Frag)(o:Option HO)(f:Str)(k:Addr->Addr->List (Str×V)->Prop):Prop:=match o with
 | some (.ins C dx fs)=>(dW K C/\bL K C f/\fs.length<1000)/\k C dx fs
 | _=>False
theorem ap0{K:W.Frag}{C dx:Addr}{fs:List (Str×V)}{f:Str}{k:V->Prop}(c:dW K C)(n:bL K C f):vt K (some (.ins C dx fs)) f k=match fs.lookup f with
  | some v=>k v
  | none=>False:=propext ⟨λh=>h.2,λh=>⟨⟨c,n⟩,h⟩⟩
theorem ap1{K:W.Frag}{C dx:Addr}{fs:List (Str×V)}{f:Str}{k:Addr->Addr->List (Str×V)->Prop}(c:dW K C)(n:bL K C f)(l:fs.length<1000):setM K (some (.ins C dx fs)) f k=k C dx fs :=
 propext ⟨λh=>h.2,λh=>⟨⟨c,n,l⟩,h⟩⟩
theorem vt.o{K:W.Frag}{o:Option HO}{f:Str}{k:V->Prop}(h:vt K o f k):∃C dx fs v,o=some (.ins C dx fs)/\dW K C/\bL K C f/\fs.lookup f=some v/\k v:=by
 unfold vt at h;split at h
 ·obtain⟨⟨c,n⟩,h⟩:=h;split at h
  ·exact⟨_,_,_,_,rfl,c,n,by assumption,h⟩
  ·exact h.elim
 ·exact h.elim
theorem setM.o{K:W.Frag}{o:Option HO}{f:Str}{k:Addr->Addr->List (Str×V)->Prop}(h:setM K o f k):∃C dx fs,o=some (.ins C dx fs)/\dW K C/\bL K C f/\fs.length<1000/\k C dx fs:=by
 unfold setM at h;split at h
 ·exact⟨_,_,_,rfl,h.1.1,h.1.2.1,h.1.2.2,h.2⟩
 ·exact h.elim
section
variable{X:Cx}
theorem PE.mn{e:Expr}{t t':TE}(h:PE X e t)(m:∀σ H Q,t' σ H Q->t σ H Q):PE X e t':=λpins s σ H Q I q=>h pins s σ H Q I (m _ _ _ q)
theorem cZ.mn{f:Value->Value->Sem Value}{r r':R2}(h:cZ X f r)(m:∀x y H Q,r' x y H Q->r x y H Q):cZ X f r':=λpins s σ H x y v u Q I rx ry q=>h pins s σ H x y v u Q I rx ry (m _ _ _ _ q)
theorem AF.o{i:Nat}{σ:St}{H:Hp}{Q:VK}(h:AF i σ H Q):∃v,σ[i]? = some (some v)/\Q v H:=by
 unfold AF at h;split at h
 ·exact⟨_,by assumption,h⟩
 ·exact h.elim
theorem ah(i:Nat){x:Str}{pos:Pos}(hN:X.N[i]? = some x:=by rfl)(hv:Cm X.env.scope x:=by first | exact Or.inl rfl | exact Or.inr OL_ | exact Or.inr (Or.inr rfl))(hd:(x == ("__debug__" : Str))=false:=by decide)
  (gK:(x == ("__classdict__" : Str))=false:=by decide):PE X (.Name x pos) (AF i):=(R7 hN hv hd gK).mn λ_ _ _ h=>h.o
theorem mI.o{g:Int->Int->V}{x y:V}{H:Hp}{Q:VK}(h:mI g x y H Q):kM g x y H Q:=by
 unfold mI at h;split at h
 ·exact⟨_,_,rfl,rfl,h⟩
 ·exact h.elim
theorem vq.o{C:Int->Int->Prop}{g:Int->Int->V}{x y:V}{H:Hp}{Q:VK}(h:vq C g x y H Q):rI C g x y H Q:=by
 unfold vq at h;split at h
 ·exact⟨_,_,rfl,rfl,h⟩
 ·exact h.elim
theorem eF:cZ X (binaryOp .Add) (mI λi j=>.int (i+j)):=gZ.mn λ_ _ _ _ h=>h.o
theorem qo:cZ X (binaryOp .Sub) (mI λi j=>.int (i - j)):=sS.mn λ_ _ _ _ h=>h.o
theorem jU:cZ X (binaryOp .Mult) (vq CH λi j=>.int (i*j)):=CI.mn λ_ _ _ _ h=>h.o
theorem Eh:cZ X (binaryOp .FloorDiv) (vq SD λi j=>.int (i / j)):=SE.mn λ_ _ _ _ h=>h.o
theorem qq:cZ X (binaryOp .Mod) (vq (λ_ j=>0<j) λi j=>.int (i % j)):=Hj.mn λ_ _ _ _ h=>h.o
def c0:Int->Int->Prop->Prop:=λi j k=>k
section
variable{f:Value->Value->Sem Value}{C:Int->Int->Prop}{c:Int->Int->Prop->Prop}{g:Int->Int->V}
end
def Xb(p:Int->Int->Prop)[∀i j,Decidable (p i j)](ta tb:TE):TT:=λσ H Q=>ta σ H λx H1=>tb σ H1 λy H2=>match x,y with
 | .int i,.int j=>if p i j then Q true H2 else Q false H2
 | _,_=>False
theorem ahD{p:Int->Int->Prop}[∀i j,Decidable (p i j)]{x y:V}{H:Hp}{Q:Bool->Hp->Prop} (h:match x,y with
 | .int i,.int j=>if p i j then Q true H else Q false H
 | _,_=>False):kM (λi j=>.bl (decide (p i j))) x y H λz H'=>∃k,z = .bl k/\Q k H':=by
 split at h
 ·refine⟨_,_,rfl,rfl,_,rfl,?_⟩;split at h
  ·rw[ig (by assumption)];exact h
  ·rw[jG (by assumption)];exact h
 ·exact h.elim
theorem eV{op:CmpOp}{a b:Expr}{pos:Pos}{ta tb:TE}{p:Int->Int->Prop}[∀i j,Decidable (p i j)](ho:cZ X (compareOp op) (kM λi j=>.bl (decide (p i j))))(ha:PE X a ta)(hb:PE X b tb)(hm:behindInMarks op b=false):PT X (.Compare a [op] [b] pos) (Xb p ta tb):=by
 intro pins s σ H Q I h;refine GV (aO (ha pins s σ H _ I h) λv s1 ⟨x,H1,I1,r1,q1⟩=>aO (hb pins s1 σ H1 _ I1 q1) λu s2 ⟨y,H2,I2,r2,q2⟩ =>
  aO (ho pins s2 σ H2 x y v u _ I2 r1 r2 (ahD q2)) λc s3 ⟨z,H3,I3,r3,zz⟩=>?_) hm
 obtain⟨k,e,q3⟩:=zz;subst e;cases r3;exact oq ⟨H3,I3,q3⟩
theorem Xc:cZ X (compareOp .Eq) (kM λi j=>.bl (decide (i=j))):=λpins s σ H x y v u Q I rx ry ⟨i,j,e1,e2,q⟩=>by
 subst e1 e2;exact mH pins s σ H _ _ v u Q I rx ry ⟨rfl,by simpa only[V.int.injEq] using q⟩
theorem J8:cZ X (compareOp .NotEq) (kM λi j=>.bl (decide (¬ i=j))):=λpins s σ H x y v u Q I rx ry ⟨i,j,e1,e2,q⟩=>by
 subst e1 e2;exact sU pins s σ H _ _ v u Q I rx ry ⟨rfl,by simpa only[V.int.injEq,decide_not] using q⟩
def Xd(c:TT)(t u:TS):TS:=λD σ H=>c σ H λb H1=>match b with
 | true=>t D σ H1
 | false=>u D σ H1
theorem jC{c:Expr}{a b:List Stmt}{tc:TT}{t u:TS}{pos:Pos}(hc:PT X c tc)(ha:iH X a t)(hb:iH X b u):PS X (.If c a b pos) (Xd tc t u):=by
 intro pins s σ H D I h;refine wpAny_If (aO (hc pins s σ H _ I h) λd s1 ⟨H1,I1,q1⟩=>?_);cases d with
 | true=>exact ha pins s1 σ H1 D I1 q1
 | false=>exact hb pins s1 σ H1 D I1 q1
def Ei(t u:TT):TT:=λσ H Q=>t σ H λc H1=>match c with
 | true=>Q true H1
 | false=>u σ H1 Q
theorem ofM{b:Bool}{x y:Prop}:(if b=true then x else y)=(match b with
 | true=>x
 | false=>y):=by cases b <;> simp
theorem ahE{t u:TT}:yY t u=Ei t u:=by
 funext σ H Q
 unfold yY Ei;congr 1;funext c H1;exact ofM
theorem rQ{a:Expr}{bs:List Expr}{tA tB:TT}{pos:Pos}(h:PW X (.BoolOp .Or (a::bs) pos) (yY tA tB)):PW X (.BoolOp .Or (a::bs) pos) (Ei tA tB):=ahE▸h
def J9(K:W.Frag):List V->Hp->VK->Prop:=λxs H Q=>match xs with
 | [.ref p]=>∃ys,(aE K H p ys\/aY K H p ys)/\Q (.int ys.length) H
 | _=>False
theorem fL:jo X (.builtin "len") (J9 X.K):=λpins s σ H xs us Q I r h=>by
 unfold J9 at h;split at h
 ·obtain⟨ys,hq,q⟩:=h;exact qV pins s σ H _ us Q I r ⟨_,ys,rfl,hq,q⟩
 ·exact h.elim
def xX(K:W.Frag):R2:=λx y H Q=>match x,y with
 | .ref p,.int i=>∃xs,aE K H p xs/\∃v,dP xs i=some v/\Q v H
 | _,_=>False
def xY(K:W.Frag):R2:=λx y H Q=>match x,y with
 | .ref p,.int i=>∃xs,aY K H p xs/\∃v,dP xs i=some v/\Q v H
 | _,_=>False
theorem mK.mn{r r':R2}(h:mK X r)(m:∀x y H Q,r' x y H Q->r x y H Q):mK X r':=λvalue slice pins s σ H x y v u Q I rx ry q hs=>h value slice pins s σ H x y v u Q I rx ry (m _ _ _ _ q) hs
theorem xX.o{K:W.Frag}{x y:V}{H:Hp}{Q:VK}(h:xX K x y H Q):CQ K x y H Q:=by
 unfold xX at h;split at h
 ·obtain⟨xs,hx,w,hw,q⟩:=h;exact⟨_,xs,_,w,rfl,rfl,hx,hw,q⟩
 ·exact h.elim
theorem xY.o{K:W.Frag}{x y:V}{H:Hp}{Q:VK}(h:xY K x y H Q):CT K x y H Q:=by
 unfold xY at h;split at h
 ·obtain⟨xs,hx,w,hw,q⟩:=h;exact⟨_,xs,_,w,rfl,rfl,hx,hw,q⟩
 ·exact h.elim
theorem c8:mK X (xX X.K):=mL.mn λ_ _ _ _ h=>h.o
theorem gQ:mK X (xY X.K):=lM.mn λ_ _ _ _ h=>h.o
theorem Xe{K:W.Frag}(h:X.K=K):mK X (xX K):=h▸c8
theorem qt{K:W.Frag}(h:X.K=K):mK X (xY K):=h▸gQ
def J_(K:W.Frag)(ta:TE)(f:Str):TE:=λσ H Q=>ta σ H λx H1=>match x with
 | .ref a=>vt K (H1 a) f λv=>Q v H1
 | _=>False
def Xf(K:W.Frag)(ta tv:TE)(f:Str):TS:=λD σ H=>tv σ H λy H1=>ta σ H1 λx H2=>match x with
 | .ref a=>setM K (H2 a) f λC dx fs=>D.nx σ (upd H2 a (.ins C dx (g7 f y fs)))
 | _=>False
theorem ahF{K:W.Frag}{f:Str}{x:V}{H:Hp}{Q:VK} (h:match x with
 | .ref a=>vt K (H a) f λv=>Q v H
 | _=>False):∃a C dx fs v,x = .ref a/\H a=some (.ins C dx fs)/\dW K C/\bL K C f/\fs.lookup f=some v/\Q v H:=by
 split at h
 ·obtain⟨C,dx,fs,v,e⟩:=h.o;exact⟨_,C,dx,fs,v,rfl,e⟩
 ·exact h.elim
theorem ahG{K:W.Frag}{f:Str}{x:V}{H:Hp}{k:Addr->Addr->Addr->List (Str×V)->Prop} (h:match x with
 | .ref a=>setM K (H a) f (k a)
 | _=>False):∃a C dx fs,x = .ref a/\H a=some (.ins C dx fs)/\dW K C/\bL K C f/\fs.length<1000/\k a C dx fs:=by
 split at h
 ·obtain⟨C,dx,fs,e⟩:=h.o;exact⟨_,C,dx,fs,rfl,e⟩
 ·exact h.elim
variable{o e value:Expr}{f:Str}{pos pos':Pos}{ta tv:TE}
theorem bT(he:PE X e ta)(hb:attributeBase e f X.env (eval e X.env)=eval e X.env):PE X (.Attribute e f pos) (J_ X.K ta f):=by
 intro pins s σ H Q I h;refine S3 hb (aO (he pins s σ H _ I h) λu s1 ⟨x,H1,I1,rx,q⟩=>?_);obtain⟨a,C,dx,fs,v,ex,ea,c,n,l,q1⟩:=ahF q;subst ex;obtain rfl:u=Value.ref a:=rx;exact S0 I1 ea c n l λu' s2 I2 ru=>⟨v,H1,I2,ru,q1⟩
theorem vv{K:W.Frag}(h:X.K=K)(he:PE X e ta)(hb:attributeBase e f X.env (eval e X.env)=eval e X.env):PE X (.Attribute e f pos) (J_ K ta f):=h▸bT he hb
theorem gb(ha:PE X o ta)(hv:PE X value tv)(hs:swapsWith value (some (.Attribute o f pos')) pos.line X.env=pure false):PS X (.Assign [.Attribute o f pos'] value pos) (Xf X.K ta tv f):=by
 intro pins s σ H D I h;refine RO (aO (hv pins s σ H _ I h) λu s1 ⟨y,H1,I1,ry,q⟩=>aO (ha pins s1 σ H1 _ I1 q) λov s2 ⟨x,H2,I2,rx,q2⟩=>?_) hs;obtain⟨a,C,dx,fs,ex,ea,c,n,l,q3⟩:=ahG (k:=λa C dx fs=>D.nx σ (upd H2 a (.ins C dx (g7 f y fs)))) q2;subst ex;obtain rfl:ov=Value.ref a:=rx;exact S2 I2 ea c n l ry λs3 I3=>⟨σ,_,I3,q3⟩
end
theorem ap2{α β:Type}{f:α->β}{a:α}{l:List α}:List.map f (a::l)=f a::List.map f l:=rfl
theorem ap3{α β:Type}{f:α->β}:List.map f [] = []:=rfl
theorem ap4{K:W.Frag}{tl:TE}{σ H Q}:Wc K tl σ H Q=(tl σ H λx H1=>∃(l:Addr) (m n:Nat),x = .ref l/\aE K H1 l [.int (m:Int),.int (n:Int)]/\m<48/\n<48/\
 ∀(L:Addr) (ns:List Int),H1 L=none->ns.Perm (nh m n)->ns.Pairwise (·<=·)->Q (.ref L) (upd H1 L (.lst (ns.map V.int)))):=rfl
theorem ap5{K:W.Frag}{x lo hi H Q}:Tz K x lo hi H Q=(∃a xs,x = .ref a/\aY K H a xs/\
 ¬ (_H.cE xs.length 0 lo=0/\_H.cE xs.length xs.length hi=xs.length)/\∀p,H p=none->Q (.ref p) (upd H p (.tup (wQ xs lo hi)))):=rfl
theorem ap6{i:Nat}{σ H Q}:AF i σ H Q=(match σ[i]? with
 | some (some v)=>Q v H
 | _=>False):=rfl
theorem ap7{g:Int->Int->V}{x y H Q}:mI g x y H Q=(match x,y with
 | .int i,.int j=>Q (g i j) H
 | _,_=>False):=rfl
theorem ap8{C:Int->Int->Prop}{g:Int->Int->V}{x y H Q}:vq C g x y H Q=(match x,y with
 | .int i,.int j=>C i j/\Q (g i j) H
 | _,_=>False):=rfl
theorem ap9{p:Int->Int->Prop}[∀i j,Decidable (p i j)]{ta tb:TE}{σ H Q}:Xb p ta tb σ H Q=(ta σ H λx H1=>tb σ H1 λy H2=>match x,y with
 | .int i,.int j=>if p i j then Q true H2 else Q false H2
 | _,_=>False):=rfl
theorem ap_{c:TT}{t u:TS}{D σ H}:Xd c t u D σ H=(c σ H λb H1=>match b with
 | true=>t D σ H1
 | false=>u D σ H1):=rfl
theorem aqa{t u:TT}{σ H Q}:Ei t u σ H Q=(t σ H λc H1=>match c with
 | true=>Q true H1
 | false=>u σ H1 Q):=rfl
theorem aqb{K:W.Frag}{xs H Q}:J9 K xs H Q=(match xs with
 | [.ref p]=>∃ys,(aE K H p ys\/aY K H p ys)/\Q (.int ys.length) H
 | _=>False):=rfl
theorem aqc{K:W.Frag}{x y H Q}:xX K x y H Q=(match x,y with
 | .ref p,.int i=>∃xs,aE K H p xs/\∃v,dP xs i=some v/\Q v H
 | _,_=>False):=rfl
theorem aqd{K:W.Frag}{x y H Q}:xY K x y H Q=(match x,y with
 | .ref p,.int i=>∃xs,aY K H p xs/\∃v,dP xs i=some v/\Q v H
 | _,_=>False):=rfl
theorem aqe{K:W.Frag}{ta:TE}{f:Str}{σ H Q}:J_ K ta f σ H Q=(ta σ H λx H1=>match x with
 | .ref a=>vt K (H1 a) f λv=>Q v H1
 | _=>False):=rfl
theorem aqf{K:W.Frag}{ta tv:TE}{f:Str}{D σ H}:Xf K ta tv f D σ H=(tv σ H λy H1=>ta σ H1 λx H2=>match x with
 | .ref a=>setM K (H2 a) f λC dx fs=>D.nx σ (upd H2 a (.ins C dx (g7 f y fs)))
 | _=>False):=rfl
theorem aqg{td ty tx:TE}{σ H Q}:HQ td ty tx σ H Q=(td σ H λx H1=>∃a,x = .ref a/\C3 H1 a/\ty σ H1 λy H2=>tx σ H2 λz H3=>∃o,fO H3 a y o/\Q (o.getD z) H3):=rfl
theorem aqh{t:TS}{D σ H}:JI t D σ H=(∀N:St->Hp->Prop,(∀fh H1,@Later ⟨D.nx⟩ fh H1->N fh H1)->t { D with nx:=N } σ H):=rfl
theorem aqi{K:W.Frag}{neg:Bool}{x y H Q}:Jw K neg x y H Q=(∃(a p:Addr) (c:List Int) (zs:Us),x = .ref a/\y = .ref p/\H a=some (.tup (c.map V.int))/\aE K H p (uV zs)/\rC H zs/\
 Q (.bl (if neg then !decide (c∈zs.map (·.2)) else decide (c∈zs.map (·.2)))) H):=rfl
theorem aqj{x vs H Q}:VP x vs H Q=(∃(l a:Addr) (zs:Us) (c:List Int),x = .ref l/\vs = [.ref a]/\H l=some (.lst (uV zs))/\rC H zs/\H a=some (.tup (c.map V.int))/\c∈zs.map (·.2)/\
 ∀(k:Nat) (h:k<zs.length),zs[k].2=c->(∀m (hm:m<zs.length),m<k->zs[m].2≠c)->Q .aR (upd H l (.lst (uV (zs.eraseIdx k))))):=rfl
theorem aqk{ta:TA}{σ H Q}:U7 ta σ H Q=(ta σ H λvs H1=>∃i j:Int,vs = [.int i,.int j]/\(-1000000000000<i/\i<1000000000000/\-1000000000000<j/\j<1000000000000)/\(j - i).toNat<=1000000/\
 ∀l,H1 l=none->Q (.ref l) (upd H1 l (.lst ((List.range (j - i).toNat).map λ(k:Nat)=>V.int (i+(k:Int)))))):=rfl
theorem aql{cs:List Addr}{m:Str}{sp:Sp}{cG:List V}{E:XK}{ta:TE}{t:TA}{σ H Q}:Io cs m sp cG E ta t σ H Q=(ta σ H λx H1=>∃C a dx fs,x = .ref a/\H1 a=some (.ins C dx fs)/\C∈cs/\fs.lookup m=none/\t σ H1 λvs H2=>sp (x::(vs++cG)) H2 Q E):=rfl
theorem aqm{K:W.Frag}{neg:Bool}{x y H Q}:CU K neg x y H Q=(∃p xs,y = .ref p/\(aE K H p xs\/aY K H p xs)/\mO x=true/\xs.all mO=true/\Q (.bl (if neg then !uS x xs else uS x xs)) H):=rfl
theorem aqn{r r':R2}{ta tb tc:TE}{σ H Q}:SQ r r' ta tb tc σ H Q=(ta σ H λx H1=>tb σ H1 λy H2=>r x y H2 λz H3=>∃k,z = .bl k/\
 (if k=true then tc σ H3 λw' H4=>r' y w' H4 Q else Q (.bl false) H3)):=rfl
theorem aqo{t:TS}{D σ H}:V1 t D σ H=(∃M:St->Hp->Prop,t { D with nx:=M } σ H/\∀fh H1,M fh H1->@Later ⟨D.nx⟩ fh H1):=rfl
theorem aqp{r:V->Option Int->Option Int->Hp->VK->Prop}{te:TE}{tl th:TO}{σ H Q}:Tv r te tl th σ H Q=(te σ H λx H1=>tl σ H1 λl H2=>th σ H2 λu H3=>r x l u H3 Q):=rfl
theorem aqq{t:TE}{σ H Q}:Tq t σ H Q=(t σ H λx H1=>∃i,x = .int i/\Q (some i) H1):=rfl
theorem aqr{z0 H Q}:Tp z0 H Q=(Q none H):=rfl
theorem aqs{o i v H Q}:TM o i v H Q=(∃p xs k j,o = .ref p/\i = .int k/\H p=some (.lst xs)/\jL xs.length k=some j/\Q (upd H p (.lst (xs.set j v)))):=rfl
theorem aqt{z0 H Q}:Uo z0 H Q=(∀p,H p=none->Q (.ref p) (upd H p (.dT []))):=rfl
theorem aqu{z0 H Q}:Um z0 H Q=(∀p,H p=none->Q (.ref p) (upd H p (.dK []))):=rfl
theorem aqv{td ty tv:TE}{D σ H}:Ul td ty tv D σ H=(tv σ H λv H1=>td σ H1 λx H2=>ty σ H2 λy H3=>∃a H4,x = .ref a/\kP H3 a y v H4/\D.nx σ H4):=rfl
theorem aqw{td ty:TE}{σ H Q}:Ui td ty σ H Q=(td σ H λx H1=>ty σ H1 λy H2=>∃a v,x = .ref a/\fO H2 a y (some v)/\Q v H2):=rfl
theorem aqx{ty td:TE}{σ H Q}:Uj ty td σ H Q=(ty σ H λy H1=>td σ H1 λx H2=>∃a o,x = .ref a/\fO H2 a y o/\Q (.bl o.isSome) H2):=rfl
theorem aqy{ty td:TE}{σ H Q}:Uk ty td σ H Q=(ty σ H λy H1=>td σ H1 λx H2=>∃a o,x = .ref a/\fO H2 a y o/\Q (.bl (!o.isSome)) H2):=rfl
theorem aqz{z0 z1 z2}:Sq z0 z1 z2=(False):=rfl
theorem aqA{z0 H Q}:UB z0 H Q=(Q true H):=rfl
theorem aqB{t:TT}{ta tb:TE}{σ H Q}:Sh t ta tb σ H Q=(t σ H λc H1=>if c=true then ta σ H1 Q else tb σ H1 Q):=rfl
theorem aqC{t u:TS}{D σ H}:G6 t u D σ H=(t { D with nx:=u D } σ H):=rfl
theorem aqD{te:TE}{g:TG}{D σ H}:yZ te g D σ H=(te σ H λx H1=>g x σ H1 D.nx):=rfl
theorem aqE{i:Nat}{v σ H Q}:sL i v σ H Q=(Q (σ.set i (some v)) H):=rfl
theorem aqF{vs σ H Q}:G7 vs σ H Q=(vs = []/\Q σ H):=rfl
theorem aqG{t:TG}{u:pS}{vs σ H Q}:Cu t u vs σ H Q=(∃v r,vs=v::r/\t v σ H λbq H'=>u r bq H' Q):=rfl
theorem aqH{K:W.Frag}{n:Nat}{t:pS}{v σ H Q}:Cv K n t v σ H Q=(∃a xs,v = .ref a/\aY K H a xs/\xs.length=n/\t xs σ H Q):=rfl
theorem aqI{to ti:TE}{t:Ct}{v σ H Q}:Su to ti t v σ H Q=(to σ H λo H1=>ti σ H1 λi H2=>t o i v H2 λH3=>Q σ H3):=rfl
theorem aqJ{i:Nat}{σ H Q}:G3 i σ H Q=(∃v,σ[i]? = some (some v)/\Q v H):=rfl
theorem aqK{v:V}{z0 H Q}:tC v z0 H Q=(Q v H):=rfl
theorem aqL{r:R2}{ta tb:TE}{σ H Q}:zg r ta tb σ H Q=(ta σ H λx H1=>tb σ H1 λy H2=>r x y H2 Q):=rfl
theorem aqM{g:Int->Int->V}{x y H Q}:kM g x y H Q=(∃i j,x = .int i/\y = .int j/\Q (g i j) H):=rfl
theorem aqN{C:Int->Int->Prop}{g:Int->Int->V}{x y H Q}:rI C g x y H Q=(∃i j,x = .int i/\y = .int j/\C i j/\Q (g i j) H):=rfl
theorem aqO{r:V->Hp->VK->Prop}{ta:TE}{σ H Q}:Sz r ta σ H Q=(ta σ H λx H1=>r x H1 Q):=rfl
theorem aqP{g:Int->V}{x H Q}:rU g x H Q=(∃i,x = .int i/\Q (g i) H):=rfl
theorem aqQ{t:TE}{σ H Q}:Hl t σ H Q=(t σ H λx H'=>∃k,x = .bl k/\Q k H'):=rfl
theorem aqR{t:TE}{σ H Q}:tB t σ H Q=(t σ H λx H1=>∃c,x = .bl c/\Q c H1):=rfl
theorem aqS{c:TT}{t u:TS}{D σ H}:So c t u D σ H=(c σ H λb H1=>if b=true then t D σ H1 else u D σ H1):=rfl
theorem aqT{te:TE}{D σ H}:Sm te D σ H=(te σ H D.rt):=rfl
theorem aqU{te:TE}{D σ H}:Sl te D σ H=(te σ H λ_ H1=>D.nx σ H1):=rfl
theorem aqV{r:List V->Hp->VK->Prop}{t:TA}{σ H Q}:Hy r t σ H Q=(t σ H λvs H1=>r vs H1 Q):=rfl
theorem aqW{ta:TE}{tr:TA}{σ H Q}:Hu ta tr σ H Q=(ta σ H λx H1=>tr σ H1 λxs H2=>Q (x::xs) H2):=rfl
theorem aqX{z0 H Q}:zq z0 H Q=(Q [] H):=rfl
theorem aqY{sp:Sp}{cG:List V}{E:XK}{t:TA}{σ H Q}:Hv sp cG E t σ H Q=(t σ H λvs H1=>sp (vs++cG) H1 Q E):=rfl
theorem aqZ{D σ H}:Sk D σ H=(D.nx σ H):=rfl
theorem aq0{t u:TT}{σ H Q}:R_ t u σ H Q=(t σ H λc H1=>if c=true then u σ H1 Q else Q false H1):=rfl
theorem aq1{t u:TT}{σ H Q}:yY t u σ H Q=(t σ H λc H1=>if c=true then Q true H1 else u σ H1 Q):=rfl
theorem aq2{t:TT}{σ H Q}:Sa t σ H Q=(t σ H λc H1=>Q (!c) H1):=rfl
theorem aq3{ta tb:TE}{σ H Q}:Se ta tb σ H Q=(ta σ H λx H1=>∃c,x = .bl c/\if c=true then tb σ H1 Q else Q (.bl false) H1):=rfl
theorem aq4{t:TA}{σ H Q}:S6 t σ H Q=(t σ H λxs H1=>xs.length<=sizeLine/\∀p,H1 p=none->Q (.ref p) (upd H1 p (.lst xs))):=rfl
theorem aq5{t:TA}{σ H Q}:S5 t σ H Q=(t σ H λxs H1=>xs.length<=sizeLine/\∀p,H1 p=none->Q (.ref p) (upd H1 p (.tup xs))):=rfl
theorem aq6{K:W.Frag}{T:String}{r:V->List V->Hp->VK->Prop}{to:TE}{t:TA}{σ H Q}:TX K T r to t σ H Q=(to σ H λx H1=>CV K T x H1/\t σ H1 λxs H2=>r x xs H2 Q):=rfl
theorem aq7{x vs H Q}:T4 x vs H Q=(∃l xs y,x = .ref l/\vs = [y]/\H l=some (.lst xs)/\xs.length<sizeLine/\Q .aR (upd H l (.lst (xs++[y])))):=rfl
theorem aq8{x vs H Q}:T6 x vs H Q=(∃l b xs zs,x = .ref l/\vs = [.ref b]/\H l=some (.lst xs)/\H b=some (.lst zs)/\xs.length+zs.length<=sizeLine/\Q .aR (upd H l (.lst (xs++zs)))):=rfl
theorem aq9{x y H Q}:T8 x y H Q=(∃l b xs zs,x = .ref l/\y = .ref b/\H l=some (.lst xs)/\H b=some (.lst zs)/\xs.length+zs.length<=sizeLine/\∀p,H p=none->Q (.ref p) (upd H p (.lst (xs++zs)))):=rfl
theorem aq_{x y H Q}:T9 x y H Q=(∃l k xs,x = .ref l/\y = .int k/\H l=some (.lst xs)/\-(2 ^ 63)<=k/\k<2 ^ 63/\xs.length*k.toNat<=sizeLine/\
 ∀p,H p=none->Q (.ref p) (upd H p (.lst (List.replicate k.toNat xs).flatten))):=rfl
theorem ara{K:W.Frag}{x y H Q}:CQ K x y H Q=(∃p xs i v,x = .ref p/\y = .int i/\aE K H p xs/\dP xs i=some v/\Q v H):=rfl
theorem arb{K:W.Frag}{x y H Q}:CT K x y H Q=(∃p xs i v,x = .ref p/\y = .int i/\aY K H p xs/\dP xs i=some v/\Q v H):=rfl
theorem arc{x y H Q}:SG x y H Q=(mG x y=true/\Q (.bl (decide (x=y))) H):=rfl
theorem ard{x y H Q}:SH x y H Q=(mG x y=true/\Q (.bl (!decide (x=y))) H):=rfl
theorem arf{K:W.Frag}{ta:TE}{f:Str}{σ H Q}:Ht K ta f σ H Q=(ta σ H λx H1=>∃a C dx fs v,x = .ref a/\H1 a=some (.ins C dx fs)/\dW K C/\bL K C f/\fs.lookup f=some v/\Q v H1):=rfl
theorem arh{K:W.Frag}{ta tv:TE}{f:Str}{D σ H}:S4 K ta tv f D σ H=(tv σ H λy H1=>ta σ H1 λx H2=>∃a C dx fs,x = .ref a/\H2 a=some (.ins C dx fs)/\dW K C/\bL K C f/\fs.length<1000/\
 D.nx σ (upd H2 a (.ins C dx (g7 f y fs)))):=rfl
theorem ari{C:Addr}{m:Str}{sp:Sp}{cG:List V}{E:XK}{ta:TE}{t:TA}{σ H Q}:Hw C m sp cG E ta t σ H Q=(ta σ H λx H1=>∃a dx fs,x = .ref a/\H1 a=some (.ins C dx fs)/\fs.lookup m=none/\
 t σ H1 λvs H2=>sp (x::(vs++cG)) H2 Q E):=rfl
theorem arj{C:Addr}{sp:Sp}{cG:List V}{E:XK}{t:TA}{σ H Q}:S8 C sp cG E t σ H Q=(t σ H λvs H1=>∀x dx,H1 x=none->H1 dx=none->dx≠x->
 sp (.ref x::(vs++cG)) (upd (upd H1 dx (.own x)) x (.ins C dx [])) (λv H2=>v = .aR/\Q (.ref x) H2) E):=rfl
end _L
namespace _W
open PySem _L PyProof.Rows
theorem sc1{i j:Int}:mG (.int i) (.int j)=true:=rfl
theorem sc2{i j:Str}:mG (.str i) (.str j)=true:=rfl
theorem sc3{i j:Bool}:mG (.bl i) (.bl j)=true:=rfl
theorem sc4: mG (.aR) (.aR)=true:=rfl
theorem sc5{i:Int}:mG (.aR) (.int i)=true:=rfl
theorem sc6{i:Int}:mG (.int i) (.aR)=true:=rfl
theorem sc7{i:Str}:mG (.aR) (.str i)=true:=rfl
theorem sc8{i:Str}:mG (.str i) (.aR)=true:=rfl
local macro_rules | `(tactic| wp_walk using $ts,*)=>do
 let a ← ("^ap4 sZ ^ap5 ^ap6 ^ap7 ^ap8 ^ap9 ^ap_ ^aqa ^aqb ^aqc ^aqd ^aqe ap0 ^aqf ap1 ^aqg ^aqh ^aqi ^aqj ^aqk jx ^aql ^aqm ^aqn ^aqo apS ^aqp ^aqq ^aqr ^aqs and_assoc abI HO.ins.injEq Ii ju g7 String.reduceBEq List.lookup_cons List.lookup_nil aD HO.lst.injEq HO.dT.injEq HO.tup.injEq String.reduceEq false_and or_false false_or mT ^aqt ^aqu ^aqv ^aqw ^aqx ^aqy Bool.not_eq_true' decide_eq_false_iff_not Classical.not_not ^aqz if_false_left if_false_right ^aqA ^aqB kQ List.length_map List.getElem?_nil ^aqC ^aqD ^aqE ^aqF ^aqG ^aqH ^aqI ^aqJ ^aqK ^aqL ^aqM ^aqN ^aqO ^aqP ^aqQ ^aqR ^aqS ^aqT ^aqU ^aqV ^aqW ^aqX ^aqY ^aqZ ^aq0 ^aq1 ^aq2 ^aq3 ^aq4 ^aq5 ^aq6 CV ^aq7 ^aq8 ^aq9 ^aq_ ^ara ^arb ^arc ^ard sc1 sc2 sc3 sc4 sc5 sc6 sc7 sc8 CH SD abY ^arf ^arh ^ari ^arj _L.start apJ apK apL ap2 ap3 List.cons_append List.nil_append List.length_cons List.length_nil List.getElem?_cons_zero List.getElem?_cons_succ Option.some.injEq exists_eq_left exists_eq_left' exists_and_left exists_eq V.int.injEq V.ref.injEq V.bl.injEq V.ty.injEq V.str.injEq List.cons.injEq and_true true_and List.set_cons_zero List.set_cons_succ decide_eq_true_eq Nat.reduceSub Nat.reduceAdd List.replicate_succ List.replicate_zero List.replicate Int.reduceLT Int.reduceLE Int.reducePow Int.reduceToNat Int.reduceNeg Nat.reduceLT Nat.reduceLeDiff Nat.reducePow Int.reduceMul Int.reduceAdd Int.reduceSub and_self or_true true_or gt_iff_lt ge_iff_le if_true if_false Bool.false_eq_true reduceIte Nat.sub_self Nat.sub_zero".splitOn " ").toArray.mapM λx=>if x.startsWith "^" then `(Lean.Parser.Tactic.simpLemma| ↓ $(Lean.mkIdent (x.drop 1).toString.toName):ident) else `(Lean.Parser.Tactic.simpLemma| $(Lean.mkIdent x.toName):ident)
 let d:Array (Lean.TSyntax `term):=("T.yc T.akw T.tQ T.akB T.tR T.tU T.rT T.EO T.Yx T.Yy T.Yz T.ER T.YA T.YB T.ES T.YC T.YD T.YE T.OF T.YF T.YG T.OG T.ET T.OH T.YH T.OI T.YI T.YJ T.YK T.OJ T.OL T.OM T.ON T.OO T.OP T.OQ T.OR T.OS T.OT T.OU T.OV T.OW T.YM T.EU T.EV".splitOn " ").toArray.map λx=>⟨Lean.mkIdent x.toName⟩
 let b ← (ts.getElems.flatMap λt=>if t.raw.getId == `T then d else #[t]).mapM λt => `(Lean.Parser.Tactic.simpLemma| $t:term)
 let c:=a++b
 `(tactic| simp (maxSteps:=4000000) only[$c,*])
local macro_rules | `(tactic| walk_at "rdm") => `(tactic| wp_walk using and_self)
seal iH PS PE PT PW PA PG wH PI PK PC PO wU
noncomputable def top(i:Nat):Stmt:=PySem.Challenge.pw_armswing_k55_shares_wait.main.body.getD i (.Pass ⟨0,0,0,0⟩)
noncomputable abbrev Ka:Stmt:=inClass (top 17) 0
noncomputable abbrev Kc:Stmt:=top 18
noncomputable abbrev Kd:Stmt:=top 19
noncomputable abbrev Ke:Stmt:=top 20
noncomputable abbrev Kf:Stmt:=top 21
noncomputable abbrev nH:Stmt:=top 22
noncomputable abbrev nJ:Stmt:=top 23
noncomputable abbrev Kg:Stmt:=top 24
noncomputable abbrev Kh:Stmt:=top 25
noncomputable abbrev Kl:Stmt:=top 27
noncomputable abbrev Km:Stmt:=top 28
noncomputable abbrev Kn:Stmt:=inClass (top 29) 0
noncomputable abbrev Ko:Stmt:=top 30
noncomputable abbrev Kq:Stmt:=top 31
noncomputable abbrev Kr:Stmt:=top 32
noncomputable abbrev Ks:Stmt:=top 33
noncomputable abbrev Ku:Stmt:=top 35
noncomputable abbrev Kv:Stmt:=top 36
noncomputable abbrev Kw:Stmt:=inClass (top 38) 0
noncomputable abbrev Ky:Stmt:=inClass (top 38) 1
noncomputable abbrev Kz:Stmt:=inClass (top 38) 2
noncomputable abbrev KA:Stmt:=inClass (top 38) 3
noncomputable abbrev KC:Stmt:=inClass (top 38) 4
noncomputable abbrev KD:Stmt:=inClass (top 40) 0
noncomputable abbrev KG:Stmt:=top 41
noncomputable abbrev KH:Stmt:=top 42
noncomputable abbrev KI:Stmt:=top 43
noncomputable abbrev KJ:Stmt:=top 44
noncomputable abbrev nK:Stmt:=top 45
noncomputable abbrev KL:Stmt:=top 53
noncomputable abbrev KN:Stmt:=top 54
noncomputable abbrev KO:Stmt:=top 55
noncomputable abbrev KP:Stmt:=top 56
noncomputable abbrev KQ:Stmt:=top 57
noncomputable abbrev KR:Stmt:=top 58
noncomputable abbrev KS:Stmt:=top 59
noncomputable abbrev KU:Stmt:=inClass (top 60) 0
noncomputable abbrev KW:Stmt:=inClass (top 60) 1
noncomputable abbrev KY:Stmt:=inClass (top 60) 4
noncomputable abbrev KZ:Stmt:=inClass (top 60) 5
noncomputable abbrev K4:Stmt:=inClass (top 60) 6
noncomputable abbrev K5:Stmt:=inClass (top 60) 7
noncomputable abbrev K6:Stmt:=inClass (top 60) 8
noncomputable abbrev K7:Stmt:=inClass (top 60) 9
noncomputable abbrev K8:Stmt:=top 62
noncomputable abbrev K9:Stmt:=top 63
noncomputable abbrev K_:Stmt:=top 64
noncomputable abbrev iS:Stmt:=top 65
noncomputable abbrev La:Stmt:=top 66
noncomputable abbrev Lb:Stmt:=top 67
noncomputable abbrev Lc:Stmt:=inClass (top 68) 0
noncomputable abbrev Ld:Stmt:=top 76
noncomputable abbrev Le:Stmt:=top 77
noncomputable abbrev Lf:Stmt:=inClass (top 78) 0
noncomputable abbrev Lg:Stmt:=inClass (top 78) 1
noncomputable abbrev Lh:Stmt:=inClass (top 78) 2
noncomputable abbrev Li:Stmt:=inClass (top 78) 3
noncomputable abbrev Lj:Stmt:=inClass (top 78) 4
noncomputable abbrev Lk:Stmt:=top 80
noncomputable abbrev Ll:Stmt:=top 81
noncomputable abbrev Lm:Stmt:=top 82
noncomputable abbrev Ln:Stmt:=top 83
noncomputable abbrev Lo:Stmt:=top 84
noncomputable abbrev Lq:Stmt:=top 85
noncomputable abbrev Lr:Stmt:=top 86
noncomputable abbrev Ls:Stmt:=top 87
noncomputable abbrev Lu:Stmt:=top 88
noncomputable abbrev Lv:Stmt:=top 89
noncomputable abbrev Lw:Stmt:=top 90
noncomputable abbrev Lx:Stmt:=top 91
noncomputable abbrev Ly:Stmt:=top 92
noncomputable abbrev Lz:Stmt:=top 93
noncomputable abbrev nN:Stmt:=top 94
theorem ahH:bA ["self", "kind", "first", "many", "marks", "at", "asker", "latest", "behind", "early"] ["self", "kind", "first", "many", "marks", "at", "asker", "latest", "behind", "early"] (aU Ka):=bF
theorem ahI:bA ["number", "least", "greatest", "words"] ["number", "least", "greatest", "words"] (aU Kc):=bF
theorem Ej:bA ["behind", "ahead", "number"] ["behind"] (aU Kd):=bF
theorem ahJ:bA ["first", "many", "at", "asker", "latest", "behind"] ["first", "many", "at", "asker", "latest", "behind"] (aU Ke):=bF
theorem ahK:bA ["behind"] ["behind"] (aU Kf):=bF
theorem Xg:bA ["first", "many", "at", "asker", "latest", "behind", "others"] ["first", "many", "at", "asker", "latest", "behind"] (aU nH):=bF
theorem LA:bA ["first", "marks", "at", "asker", "latest", "behind", "early", "others", "mark"] ["first", "marks", "at", "asker", "latest", "behind", "early"] (aU nJ):=bF
theorem ahL:bA ["at"] ["at"] (aU Kg):=bF
theorem ahM:bA ["one", "other"] ["one", "other"] (aU Kh):=bF
theorem ahN:bA ["plate", "ask"] ["plate", "ask"] (aU Kl):=bF
theorem ahO:bA ["plate", "number", "ask", "e"] ["plate", "number", "ask"] (aU Km):=bF
theorem ahP:bA ["self", "plate", "number", "ask"] ["self", "plate", "number", "ask"] (aU Kn):=bF
theorem ahQ:bA ["asks", "number"] ["asks", "number"] (aU Ko):=bF
theorem Xh:bA ["asks", "number", "other"] ["asks", "number"] (aU Kq):=bF
theorem Xi:bA ["asks", "number", "ask"] ["asks", "number"] (aU Kr):=bF
theorem Ek:bA ["plate", "asks", "kept", "number", "ask"] ["plate", "asks"] (aU Ks):=bF
theorem ahR:bA ["plate", "ring", "place", "beat"] ["plate", "ring", "place", "beat"] (aU Ku):=bF
theorem vA:bA ["plate", "ring", "beat", "cells", "rows", "other", "place", "begun"] ["plate", "ring", "beat", "cells"] (aU Kv):=bF
theorem LB:bA ["self", "plate", "asks", "ring", "number", "ask"] ["self", "plate", "asks", "ring"] (aU Kw):=bF
theorem Xj:bA ["self", "comings"] ["self"] (aU Ky):=bF
theorem ahS:bA ["self", "number"] ["self", "number"] (aU Kz):=bF
theorem Xk:bA ["self", "come"] ["self"] (aU KA):=bF
theorem LC:bA ["self", "number", "due", "rows"] ["self", "number"] (aU KC):=bF
theorem ahT:bA ["self", "rows", "taken", "told", "answers", "end"] ["self", "rows", "taken", "told", "answers", "end"] (aU KD):=bF
theorem vB:bA ["rows", "ends", "number", "ring", "place", "begun", "ended"] ["rows"] (aU KG):=bF
theorem ahU:bA ["ask"] ["ask"] (aU KH):=bF
theorem AG:bA ["asks", "picks", "answers", "marks", "number", "ask"] ["asks", "picks"] (aU KI):=bF
theorem xZ:bA ["asks", "ends", "shelf", "told", "early_ends", "shelf_ends", "number", "ask"] ["asks", "ends", "shelf"] (aU KJ):=bF
theorem rR:bA ["plate", "asks", "rule", "ring", "shelf", "course", "rows", "picks", "taken", "dues", "number", "ends", "end"] ["plate", "asks", "rule", "ring", "shelf"] (aU nK):=bF
theorem El:bA ["zones", "rings", "cells", "in_all"] ["zones"] (aU KL):=bF
theorem LD:bA ["zones", "lap", "skew", "rings", "cells"] ["zones", "lap", "skew"] (aU KN):=bF
theorem Xl:bA ["swing", "rings", "far"] ["swing", "rings"] (aU KO):=bF
theorem LF:bA ["swing", "far", "part"] ["swing"] (aU KP):=bF
theorem Em:bA ["zones", "counts", "rings", "cells"] ["zones"] (aU KQ):=bF
theorem AH:bA ["ring_cells", "spares", "cells", "ring", "count", "place"] ["ring_cells", "spares"] (aU KR):=bF
theorem En:bA ["number_cells", "numbers", "number", "cell"] ["number_cells"] (aU KS):=bF
theorem ahV:bA ["self", "zones", "lap", "skew", "swing"] ["self", "zones", "lap", "skew", "swing"] (aU KU):=bF
theorem ahW:bA ["self"] ["self"] (aU KW):=bF
theorem ahX:bA ["self", "ring"] ["self", "ring"] (aU KY):=bF
theorem ahY:bA ["self"] ["self"] (aU KZ):=bF
theorem ahZ:bA ["self", "ring", "place"] ["self", "ring", "place"] (aU K4):=bF
theorem ah0:bA ["self", "ring", "other"] ["self", "ring", "other"] (aU K5):=bF
theorem ah1:bA ["self", "ring", "place"] ["self", "ring", "place"] (aU K6):=bF
theorem ah2:bA ["self", "number"] ["self", "number"] (aU K7):=bF
theorem ah3:bA ["spares", "ring_cells"] ["spares", "ring_cells"] (aU K8):=bF
theorem Eo:bA ["plate", "bad", "found", "ring", "place"] ["plate", "bad"] (aU K9):=bF
theorem ah4:bA ["number_cells", "bad_cells"] ["number_cells", "bad_cells"] (aU K_):=bF
theorem ah5:bA ["ring", "rings"] ["ring", "rings"] (aU iS):=bF
theorem Ep:bA ["ring_cells", "spares", "ring", "used", "other", "count", "place"] ["ring_cells", "spares", "ring", "used"] (aU La):=bF
theorem x9:bA ["ring_cells", "spares", "number_cells", "bad_cells", "moves", "used", "number", "cell", "other"] ["ring_cells", "spares", "number_cells", "bad_cells"] (aU Lb):=bF
theorem AI:bA ["self", "zones", "lap", "skew", "swing", "spares", "bad", "bad_cells", "number", "cell", "other"] ["self", "zones", "lap", "skew", "swing", "spares", "bad"] (aU Lc):=bF
theorem Er:bA ["shares", "askers", "asker", "share"] ["shares"] (aU Ld):=bF
theorem Es:bA ["dues", "least", "due", "number"] ["dues"] (aU Le):=bF
theorem ah6:bA ["self", "shares"] ["self", "shares"] (aU Lf):=bF
theorem ah7:bA ["self"] ["self"] (aU Lg):=bF
theorem LG:bA ["self", "plate", "ring", "beat", "dues", "least", "pair"] ["self", "plate", "ring", "beat", "dues"] (aU Lh):=bF
theorem LH:bA ["self", "least", "known", "asker"] ["self", "least"] (aU Li):=bF
theorem LI:bA ["self", "least", "turn"] ["self", "least"] (aU Lj):=bF
theorem ah8:bA ["_law_script", "_law_k"] ["_law_script", "_law_k"] (aU Lk):=bF
theorem ah9:bA ["_law_cell_here", "_law_turn", "_law_many"] ["_law_cell_here", "_law_turn", "_law_many"] (aU Ll):=bF
theorem AJ:bA ["_law_cell_here", "_law_rings", "_law_step", "_law_swing_here", "_law_k"] ["_law_cell_here", "_law_rings"] (aU Lm):=bF
theorem Et:bA ["_law_cell_here", "_law_zones_here", "_law_k"] ["_law_cell_here"] (aU Ln):=bF
theorem tL:bA ["_law_counts", "_law_spares", "_law_bad_here", "_law_cells_here", "_law_free", "_law_ring", "_law_place", "_law_number", "_law_best"] ["_law_counts", "_law_spares", "_law_bad_here"] (aU Lo):=bF
theorem AK:bA ["_law_cell_here", "_law_counts", "_law_spares", "_law_bad_here", "_law_k", "_law_ring", "_law_place"] ["_law_cell_here", "_law_counts", "_law_spares"] (aU Lq):=bF
theorem jD:bA ["_law_script", "_law_zones_here", "_law_cell_here", "_law_product", "_law_counts", "_law_many", "_law_cells_here", "_law_lap", "_law_skew", "_law_swing_here", "_law_spares", "_law_bad_here", "_law_plate"] ["_law_script"] (aU Lr):=bF
theorem Eu:bA ["_law_cell_here", "_law_first", "_law_leap", "_law_more"] ["_law_cell_here"] (aU Ls):=bF
theorem LJ:bA ["_law_cell_here", "_law_row_here", "_law_some", "_law_picks"] ["_law_cell_here", "_law_row_here"] (aU Lu):=bF
theorem qu:bA ["_law_cell_here", "_law_row_here", "_law_beat", "_law_world", "_law_askers_here", "_law_kind", "_law_sort", "_law_total", "_law_first", "_law_many", "_law_marks", "_law_asker", "_law_latest"] ["_law_cell_here", "_law_row_here", "_law_beat", "_law_world", "_law_askers_here"] (aU Lv):=bF
theorem vC:bA ["_law_script", "_law_at", "_law_many", "_law_world", "_law_askers_here", "_law_row_here", "_law_beat", "_law_k", "_law_cell_here", "_law_gaps"] ["_law_script", "_law_at", "_law_many", "_law_world", "_law_askers_here"] (aU Lw):=bF
theorem ah_:bA ["_law_ask_here"] ["_law_ask_here"] (aU Lx):=bF
theorem x_:bA ["_law_row_here", "_law_taken", "_law_k", "_law_own", "_law_others", "_law_j"] ["_law_row_here", "_law_taken", "_law_k"] (aU Ly):=bF
theorem aia:bA ["_law_row_here"] ["_law_row_here"] (aU Lz):=bF
theorem lW:bA ["_law_script", "_law_plate", "_law_world", "_law_askers_here", "_law_shares", "_law_row_here", "_law_ring", "_law_taken", "_law_whole", "_law_k", "_law_own", "_law_ahead", "_law_others"] ["_law_script"] (aU nN):=bF
set_option genInjectivity false
set_option genSizeOf false
structure nO where
 LK:Addr
 LL:FuncData
 LM:Addr
 LN:FuncData
 LO:Addr
 LQ:FuncData
 LR:Addr
 LS:FuncData
 LU:Addr
 LV:FuncData
 LW:Addr
 LX:FuncData
 ark:Tok
 LY:Addr
 LZ:FuncData
 arl:Tok
 L0:Addr
 L3:FuncData
 L4:Addr
 L5:FuncData
 L6:Addr
 L8:FuncData
 L_:Addr
 Ma:FuncData
 Mb:Addr
 Mc:FuncData
 Me:Addr
 Mf:FuncData
 Mg:Addr
 Mh:FuncData
 Mi:Addr
 Mj:FuncData
 Ml:Addr
 Mm:FuncData
 Mn:Addr
 Mp:FuncData
 Mq:Addr
 Mr:FuncData
 Ms:Addr
 Mt:FuncData
 Mu:Addr
 Mv:FuncData
 Mw:Addr
 Mx:FuncData
 My:Addr
 Mz:FuncData
 MA:Addr
 MB:FuncData
 MC:Addr
 MD:FuncData
 ME:Addr
 MF:FuncData
 MG:Addr
 MH:FuncData
 MI:Addr
 MJ:FuncData
 MK:Addr
 ML:FuncData
 MM:Addr
 MN:FuncData
 arn:Tok
 Xm:Tok
 MO:Addr
 MP:FuncData
 MQ:Addr
 MR:FuncData
 MS:Addr
 MT:FuncData
 MU:Addr
 MV:FuncData
 MW:Addr
 MX:FuncData
 MY:Addr
 MZ:FuncData
 M3:Addr
 M4:FuncData
 Ew:Addr
 M5:FuncData
 AL:Addr
 M7:FuncData
 AM:Addr
 M8:FuncData
 AN:Addr
 M9:FuncData
 AO:Addr
 M_:FuncData
 AQ:Addr
 Nc:FuncData
 AR:Addr
 Nd:FuncData
 AS:Addr
 Nf:FuncData
 Ng:Addr
 Nh:FuncData
 Ni:Addr
 Nj:FuncData
 Nk:Addr
 Nl:FuncData
 Ex:Addr
 AU:FuncData
 Nm:Addr
 Nn:FuncData
 Np:Addr
 Nq:FuncData
 Nr:Addr
 Nt:FuncData
 Nu:Addr
 Nv:FuncData
 Nx:Addr
 Ny:FuncData
 Nz:Addr
 NB:FuncData
 NC:Addr
 ND:FuncData
 NF:Addr
 NG:FuncData
 NH:Addr
 NI:FuncData
 NJ:Addr
 NK:FuncData
 NL:Addr
 NN:FuncData
 NO:Addr
 NP:FuncData
 NQ:Addr
 NR:FuncData
 NS:Addr
 NT:FuncData
 NU:Addr
 NV:FuncData
 NW:Addr
 NY:FuncData
 NZ:Addr
 N_:FuncData
 Oa:Addr
 Ob:FuncData
 Oc:Addr
 Od:FuncData
 Oe:Addr
 Of:FuncData
 Og:Addr
 Oh:FuncData
 Oi:Addr
 Oj:FuncData
 Ol:Addr
 Om:FuncData
 Oo:Addr
 Oq:FuncData
 Ot:Addr
 Ou:FuncData
 bI:Addr
 cQ:Addr
 bQ:Addr
 fX:Addr
 bH:Addr
 bE:Addr
 cX:Addr
 lX:Addr
 gf:Addr
 Ey:Tok
 Ez:Tok
 EA:Tok
 EB:Tok
 EC:Tok
 ED:Tok
 EE:Tok
 EF:Tok
 EG:Tok
 EH:Tok
 EI:Tok
 EJ:Tok
 EK:Tok
 EL:Tok
 EM:Tok
 EN:Tok
noncomputable abbrev a_(K:W.Frag)(n:Str)(st:Stmt)(f:Addr)(fd:FuncData):Prop:=b8 K n n st f fd
structure Tx(K:W.Frag)(mg:Str->Option Value)(A:nO):Prop where
 aib:b8 K "__init__" "Ask.__init__" Ka A.LK A.LL
 Ov:Binds K A.LL ["self", "kind", "first", "many", "marks", "at", "asker", "latest", "behind", "early"] []
 rS:a_ K "check_between" Kc A.LM A.LN
 tN:Binds K A.LN ["number", "least", "greatest", "words"] []
 tO:mg "check_between" = some (.ref A.LM)
 Xn:a_ K "check_behind" Kd A.LO A.LQ
 aic:Binds K A.LQ ["behind"] []
 aid:mg "check_behind" = some (.ref A.LO)
 Ow:a_ K "check_fields" Ke A.LR A.LS
 Xo:Binds K A.LS ["first", "many", "at", "asker", "latest", "behind"] []
 Xp:mg "check_fields" = some (.ref A.LR)
 Ox:a_ K "told_behind" Kf A.LU A.LV
 Xq:Binds K A.LV ["behind"] []
 Xr:mg "told_behind" = some (.ref A.LU)
 Xs:xj K "reading" "reading" nH A.LW A.LX
 aie:Binds K A.LX ["first", "many", "at", "asker", "latest", "behind"] []
 aif:mg "reading" = some (.ref A.LW)
 Xu:xj K "writing" "writing" nJ A.LY A.LZ
 aih:Binds K A.LZ ["first", "marks", "at", "asker", "latest", "behind", "early"] []
 aii:mg "writing" = some (.ref A.LY)
 Xv:a_ K "resting" Kg A.L0 A.L3
 aij:Binds K A.L3 ["at"] []
 aik:mg "resting" = some (.ref A.L0)
 Xw:a_ K "clash" Kh A.L4 A.L5
 ail:Binds K A.L5 ["one", "other"] []
 aim:mg "clash" = some (.ref A.L4)
 Xx:a_ K "stretch" Kl A.L6 A.L8
 ain:Binds K A.L8 ["plate", "ask"] []
 aio:mg "stretch" = some (.ref A.L6)
 Oz:a_ K "stretch_by_number" Km A.L_ A.Ma
 Xy:Binds K A.Ma ["plate", "number", "ask"] []
 Xz:mg "stretch_by_number" = some (.ref A.L_)
 aip:b8 K "__init__" "Due.__init__" Kn A.Mb A.Mc
 aiq:Binds K A.Mc ["self", "plate", "number", "ask"] []
 XA:a_ K "check_beat" Ko A.Me A.Mf
 air:Binds K A.Mf ["asks", "number"] []
 ais:mg "check_beat" = some (.ref A.Me)
 XC:a_ K "check_told" Kq A.Mg A.Mh
 ait:Binds K A.Mh ["asks", "number"] []
 aiu:mg "check_told" = some (.ref A.Mg)
 XD:a_ K "kept_behind" Kr A.Mi A.Mj
 aiv:Binds K A.Mj ["asks", "number"] []
 aiw:mg "kept_behind" = some (.ref A.Mi)
 XE:a_ K "orders" Ks A.Ml A.Mm
 aix:Binds K A.Mm ["plate", "asks"] []
 aiy:mg "orders" = some (.ref A.Ml)
 XF:a_ K "next_begin" Ku A.Mn A.Mp
 aiz:Binds K A.Mp ["plate", "ring", "place", "beat"] []
 aiA:mg "next_begin" = some (.ref A.Mn)
 XG:a_ K "way" Kv A.Mq A.Mr
 aiB:Binds K A.Mr ["plate", "ring", "beat", "cells"] []
 aiC:mg "way" = some (.ref A.Mq)
 aiD:b8 K "__init__" "Course.__init__" Kw A.Ms A.Mt
 aiE:Binds K A.Mt ["self", "plate", "asks", "ring"] []
 aiF:b8 K "stay" "Course.stay" Ky A.Mu A.Mv
 aiG:Binds K A.Mv ["self"] []
 aiH:Meth K A.bQ "stay" A.Mu
 aiI:b8 K "has_to_wait" "Course.has_to_wait" Kz A.Mw A.Mx
 aiJ:Binds K A.Mx ["self", "number"] []
 aiK:Meth K A.bQ "has_to_wait" A.Mw
 aiL:b8 K "ready" "Course.ready" KA A.My A.Mz
 aiM:Binds K A.Mz ["self"] []
 aiN:Meth K A.bQ "ready" A.My
 aiO:b8 K "take" "Course.take" KC A.MA A.MB
 aiP:Binds K A.MB ["self", "number"] []
 aiQ:Meth K A.bQ "take" A.MA
 aiR:b8 K "__init__" "Played.__init__" KD A.MC A.MD
 aiS:Binds K A.MD ["self", "rows", "taken", "told", "answers", "end"] []
 XH:a_ K "last_ends" KG A.ME A.MF
 aiT:Binds K A.MF ["rows"] []
 aiU:mg "last_ends" = some (.ref A.ME)
 XI:a_ K "numbers_of" KH A.MG A.MH
 aiV:Binds K A.MH ["ask"] []
 aiW:mg "numbers_of" = some (.ref A.MG)
 XJ:a_ K "answers_of" KI A.MI A.MJ
 aiX:Binds K A.MJ ["asks", "picks"] []
 aiY:mg "answers_of" = some (.ref A.MI)
 XM:a_ K "told_of" KJ A.MK A.ML
 aiZ:Binds K A.ML ["asks", "ends", "shelf"] []
 ai0:mg "told_of" = some (.ref A.MK)
 XN:xj K "play" "play" nK A.MM A.MN
 ai1:Binds K A.MN ["plate", "asks", "rule", "ring", "shelf"] [.int 0 A.Xm]
 ai2:mg "play" = some (.ref A.MM)
 XO:a_ K "check_zones" KL A.MO A.MP
 ai3:Binds K A.MP ["zones"] []
 ai4:mg "check_zones" = some (.ref A.MO)
 XQ:a_ K "check_turning" KN A.MQ A.MR
 ai5:Binds K A.MR ["zones", "lap", "skew"] []
 ai6:mg "check_turning" = some (.ref A.MQ)
 XR:a_ K "check_swing" KO A.MS A.MT
 ai7:Binds K A.MT ["swing", "rings"] []
 ai8:mg "check_swing" = some (.ref A.MS)
 XS:a_ K "check_no_detour" KP A.MU A.MV
 ai9:Binds K A.MV ["swing"] []
 ai_:mg "check_no_detour" = some (.ref A.MU)
 XT:a_ K "cells_by_ring" KQ A.MW A.MX
 aja:Binds K A.MX ["zones"] []
 ajb:mg "cells_by_ring" = some (.ref A.MW)
 OA:a_ K "cells_by_number" KR A.MY A.MZ
 XU:Binds K A.MZ ["ring_cells", "spares"] []
 XW:mg "cells_by_number" = some (.ref A.MY)
 OB:a_ K "numbers_by_cell" KS A.M3 A.M4
 XX:Binds K A.M4 ["number_cells"] []
 XY:mg "numbers_by_cell" = some (.ref A.M3)
 ajc:b8 K "__init__" "Plate.__init__" KU A.Ew A.M5
 XZ:Binds K A.M5 ["self", "zones", "lap", "skew", "swing"] []
 ajd:b8 K "rings" "Plate.rings" KW A.AL A.M7
 aro:Binds K A.M7 ["self"] []
 aje:Meth K A.bH "rings" A.AL
 ajf:Meth K A.bE "rings" A.AL
 ajg:b8 K "beats_of" "Plate.beats_of" KY A.AM A.M8
 X0:Binds K A.M8 ["self", "ring"] []
 ajh:Meth K A.bH "beats_of" A.AM
 aji:Meth K A.bE "beats_of" A.AM
 ajj:b8 K "lap_beats" "Plate.lap_beats" KZ A.AN A.M9
 ajk:Binds K A.M9 ["self"] []
 ajl:Meth K A.bH "lap_beats" A.AN
 ajm:Meth K A.bE "lap_beats" A.AN
 ajn:b8 K "begins" "Plate.begins" K4 A.AO A.M_
 ajo:Binds K A.M_ ["self", "ring", "place"] []
 ajp:Meth K A.bH "begins" A.AO
 ajq:Meth K A.bE "begins" A.AO
 ajr:b8 K "swing_of" "Plate.swing_of" K5 A.AQ A.Nc
 ajs:Binds K A.Nc ["self", "ring", "other"] []
 ajt:Meth K A.bH "swing_of" A.AQ
 aju:Meth K A.bE "swing_of" A.AQ
 ajv:b8 K "has_cell" "Plate.has_cell" K6 A.AR A.Nd
 ajw:Binds K A.Nd ["self", "ring", "place"] []
 ajx:Meth K A.bH "has_cell" A.AR
 ajy:Meth K A.bE "has_cell" A.AR
 ajz:b8 K "cell_at" "Plate.cell_at" K7 A.AS A.Nf
 ajA:Binds K A.Nf ["self", "number"] []
 ajB:Meth K A.bH "cell_at" A.AS
 ajC:Meth K A.bE "cell_at" A.AS
 X3:a_ K "check_spares" K8 A.Ng A.Nh
 ajD:Binds K A.Nh ["spares", "ring_cells"] []
 ajE:mg "check_spares" = some (.ref A.Ng)
 X4:a_ K "bad_by_cell" K9 A.Ni A.Nj
 ajF:Binds K A.Nj ["plate", "bad"] []
 ajG:mg "bad_by_cell" = some (.ref A.Ni)
 X5:a_ K "bad_numbers" K_ A.Nk A.Nl
 ajH:Binds K A.Nl ["number_cells", "bad_cells"] []
 ajI:mg "bad_numbers" = some (.ref A.Nk)
 X6:a_ K "nearest_rings" iS A.Ex A.AU
 ajJ:Binds K A.AU ["ring", "rings"] []
 ajK:mg "nearest_rings" = some (.ref A.Ex)
 X7:a_ K "free_kept_cell" La A.Nm A.Nn
 ajL:Binds K A.Nn ["ring_cells", "spares", "ring", "used"] []
 ajM:mg "free_kept_cell" = some (.ref A.Nm)
 X8:a_ K "lay_elsewhere" Lb A.Np A.Nq
 ajN:Binds K A.Nq ["ring_cells", "spares", "number_cells", "bad_cells"] []
 ajO:mg "lay_elsewhere" = some (.ref A.Np)
 ajP:b8 K "__init__" "Mended.__init__" Lc A.Nr A.Nt
 ajQ:Binds K A.Nt ["self", "zones", "lap", "skew", "swing", "spares", "bad"] []
 X_:a_ K "check_shares" Ld A.Nu A.Nv
 ajR:Binds K A.Nv ["shares"] []
 ajS:mg "check_shares" = some (.ref A.Nu)
 Yb:a_ K "least_by_asker" Le A.Nx A.Ny
 ajT:Binds K A.Ny ["dues"] []
 ajU:mg "least_by_asker" = some (.ref A.Nx)
 ajV:b8 K "__init__" "Shares.__init__" Lf A.Nz A.NB
 ajW:Binds K A.NB ["self", "shares"] []
 ajX:b8 K "anew" "Shares.anew" Lg A.NC A.ND
 Yc:Binds K A.ND ["self"] []
 Yd:Meth K A.cX "anew" A.NC
 ajY:b8 K "pick" "Shares.pick" Lh A.NF A.NG
 ajZ:Binds K A.NG ["self", "plate", "ring", "beat", "dues"] []
 aj0:Meth K A.cX "pick" A.NF
 aj1:b8 K "check_askers" "Shares.check_askers" Li A.NH A.NI
 aj2:Binds K A.NI ["self", "least"] []
 aj3:Meth K A.cX "check_askers" A.NH
 aj4:b8 K "next_turn" "Shares.next_turn" Lj A.NJ A.NK
 aj5:Binds K A.NK ["self", "least"] []
 aj6:Meth K A.cX "next_turn" A.NJ
 nQ:a_ K "_law_cell" Lk A.NL A.NN
 o8:Binds K A.NN ["_law_script", "_law_k"] []
 o9:mg "_law_cell" = some (.ref A.NL)
 cJ:a_ K "_law_draw" Ll A.NO A.NP
 cR:Binds K A.NP ["_law_cell_here", "_law_turn", "_law_many"] []
 cS:mg "_law_draw" = some (.ref A.NO)
 Ye:a_ K "_law_swing" Lm A.NQ A.NR
 aj7:Binds K A.NR ["_law_cell_here", "_law_rings"] []
 aj8:mg "_law_swing" = some (.ref A.NQ)
 Yg:a_ K "_law_zones" Ln A.NS A.NT
 aj9:Binds K A.NT ["_law_cell_here"] []
 aj_:mg "_law_zones" = some (.ref A.NS)
 Yh:a_ K "_law_cells" Lo A.NU A.NV
 aka:Binds K A.NV ["_law_counts", "_law_spares", "_law_bad_here"] []
 akb:mg "_law_cells" = some (.ref A.NU)
 Yi:a_ K "_law_bad" Lq A.NW A.NY
 akc:Binds K A.NY ["_law_cell_here", "_law_counts", "_law_spares"] []
 akd:mg "_law_bad" = some (.ref A.NW)
 Yj:a_ K "_law_made_plate" Lr A.NZ A.N_
 ake:Binds K A.N_ ["_law_script"] []
 akf:mg "_law_made_plate" = some (.ref A.NZ)
 Yk:a_ K "_law_askers" Ls A.Oa A.Ob
 akg:Binds K A.Ob ["_law_cell_here"] []
 akh:mg "_law_askers" = some (.ref A.Oa)
 OC:a_ K "_law_behind" Lu A.Oc A.Od
 Yl:Binds K A.Od ["_law_cell_here", "_law_row_here"] []
 Ym:mg "_law_behind" = some (.ref A.Oc)
 Yn:a_ K "_law_ask" Lv A.Oe A.Of
 aki:Binds K A.Of ["_law_cell_here", "_law_row_here", "_law_beat", "_law_world", "_law_askers_here"] []
 akj:mg "_law_ask" = some (.ref A.Oe)
 Yo:a_ K "_law_row" Lw A.Og A.Oh
 akk:Binds K A.Oh ["_law_script", "_law_at", "_law_many", "_law_world", "_law_askers_here"] []
 akl:mg "_law_row" = some (.ref A.Og)
 Yp:a_ K "_law_made" Lx A.Oi A.Oj
 akn:Binds K A.Oj ["_law_ask_here"] []
 ako:mg "_law_made" = some (.ref A.Oi)
 Yq:a_ K "_law_counted" Ly A.Ol A.Om
 akp:Binds K A.Om ["_law_row_here", "_law_taken", "_law_k"] []
 akq:mg "_law_counted" = some (.ref A.Ol)
 Yr:a_ K "_law_reads" Lz A.Oo A.Oq
 akr:Binds K A.Oq ["_law_row_here"] []
 akt:mg "_law_reads" = some (.ref A.Oo)
 aku:a_ K "law" nN A.Ot A.Ou
 arp:Binds K A.Ou ["_law_script"] []
 arq:mg "law" = some (.ref A.Ot)
 akv:UX K A.bH "__init__" A.Ew
 Ys:W.findIn K (.ref A.bE) "__class__" = some (some (.builtin "object.__class__"))
 Yt:W.specialIn K (.builtin "object.__class__") "__get__" = some (some (.builtin "getset_descriptor.__get__"))
 Yu:W.takesIn K (.builtin "object.__class__")=some true
 Yv:W.mroIn K A.bE (.type "object")=some true
 Yw:W.kitOne K (.ref A.bE) (.ref A.bH)=some true
 yc:dW K A.bI
 OD:Mk K A.bI A.LK
 OE:mg "Ask" = some (.ref A.bI)
 EO:bL K A.bI "kind"
 Yx:bL K A.bI "first"
 Yy:bL K A.bI "many"
 Yz:bL K A.bI "marks"
 ER:bL K A.bI "at"
 YA:bL K A.bI "asker"
 YB:bL K A.bI "latest"
 ES:bL K A.bI "behind"
 YC:bL K A.bI "early"
 akw:dW K A.cQ
 akx:Mk K A.cQ A.Mb
 aky:mg "Due" = some (.ref A.cQ)
 YD:bL K A.cQ "number"
 YE:bL K A.cQ "ask"
 OF:bL K A.cQ "cells"
 tQ:dW K A.bQ
 akz:Mk K A.bQ A.Ms
 akA:mg "Course" = some (.ref A.bQ)
 YF:bL K A.bQ "keeping"
 YG:bL K A.bQ "plate"
 OG:bL K A.bQ "ring"
 ET:bL K A.bQ "beat"
 OH:bL K A.bQ "left"
 akB:dW K A.fX
 akC:Mk K A.fX A.MC
 akD:mg "Played" = some (.ref A.fX)
 YH:bL K A.fX "rows"
 OI:bL K A.fX "taken"
 YI:bL K A.fX "told"
 YJ:bL K A.fX "answers"
 YK:bL K A.fX "end"
 tR:dW K A.bH
 akE:Mk K A.bH A.Ew
 YL:mg "Plate" = some (.ref A.bH)
 OJ:bL K A.bH "ring_cells"
 OL:bL K A.bH "lap"
 OM:bL K A.bH "skew"
 ON:bL K A.bH "swing"
 OO:bL K A.bH "number_cells"
 OP:bL K A.bH "cell_numbers"
 tU:dW K A.bE
 akG:Mk K A.bE A.Nr
 akH:mg "Mended" = some (.ref A.bE)
 OQ:bL K A.bE "ring_cells"
 OR:bL K A.bE "lap"
 OS:bL K A.bE "skew"
 OT:bL K A.bE "swing"
 OU:bL K A.bE "number_cells"
 OV:bL K A.bE "cell_numbers"
 OW:bL K A.bE "moves"
 rT:dW K A.cX
 akI:Mk K A.cX A.Nz
 akJ:mg "Shares" = some (.ref A.cX)
 YM:bL K A.cX "pairs"
 EU:bL K A.cX "turn"
 EV:bL K A.cX "used"
 akK:mg "MOST_CELLS" = some (.int 16 A.Ey)
 akL:mg "GREATEST_FIRST" = some (.int 1000000 A.Ez)
 akM:mg "GREATEST_MARK" = some (.int 1000000000 A.EA)
 YN:mg "GREATEST_AT" = some (.int 1000000000000 A.EB)
 akN:mg "GREATEST_ASKER_asks" = some (.int 20 A.EC)
 akO:mg "GREATEST_LATEST" = some (.int 10000000000000 A.ED)
 akP:mg "GREATEST_BEHIND" = some (.int 99 A.EE)
 akQ:mg "MOST_ZONES" = some (.int 5 A.EF)
 akR:mg "MOST_RINGS_IN_ZONE" = some (.int 40 A.EG)
 akS:mg "MOST_CELLS_IN_RING" = some (.int 60 A.EH)
 akT:mg "LEAST_RINGS" = some (.int 2 A.EI)
 akU:mg "MOST_RINGS" = some (.int 120 A.EJ)
 YO:mg "MOST_BEATS" = some (.int 1000000000 A.EK)
 akV:mg "MOST_PAIRS" = some (.int 4 A.EL)
 akW:mg "GREATEST_ASKER_shares" = some (.int 20 A.EM)
 akX:mg "GREATEST_SHARE" = some (.int 4 A.EN)
 AV:mg "abs" = none
 OX:mg "any" = none
 EW:mg "dict" = none
 tV:mg "enumerate" = none
 OY:mg "int" = none
 dB:mg "len" = none
 AW:mg "list" = none
 EX:mg "max" = none
 qw:mg "min" = none
 gu:mg "range" = none
 OZ:mg "set" = none
 AX:mg "sorted" = none
 EY:mg "sum" = none
 vD:mg "tuple" = none
 akY:A.AU.code = .ref A.lX
theorem Tx.akZ{K:W.Frag}{mg:Str->Option Value}{A:nO}(T:Tx K mg A):CP K A.bH:=⟨T.tR,T.OJ,T.OL,T.OM,T.ON,T.OO,T.OP⟩
theorem Tx.ak2{K:W.Frag}{mg:Str->Option Value}{A:nO}(T:Tx K mg A):CP K A.bE:=⟨T.tU,T.OQ,T.OR,T.OS,T.OT,T.OU,T.OV⟩
theorem Tx.ars{K:W.Frag}{mg:Str->Option Value}{A:nO}(T:Tx K mg A):∀C∈[A.bH,A.bE],dW K C/\Meth K C "rings" A.AL:=by
 intro C hC;simp only[List.mem_cons,List.not_mem_nil,or_false] at hC;rcases hC with rfl | rfl
 ·exact⟨T.tR,T.aje⟩
 ·exact⟨T.tU,T.ajf⟩
theorem Tx.YQ{K:W.Frag}{mg:Str->Option Value}{A:nO}(T:Tx K mg A):∀C∈[A.bH,A.bE],dW K C/\Meth K C "beats_of" A.AM:=by
 intro C hC;simp only[List.mem_cons,List.not_mem_nil,or_false] at hC;rcases hC with rfl | rfl
 ·exact⟨T.tR,T.ajh⟩
 ·exact⟨T.tU,T.aji⟩
theorem Tx.ak3{K:W.Frag}{mg:Str->Option Value}{A:nO}(T:Tx K mg A):∀C∈[A.bH,A.bE],dW K C/\Meth K C "lap_beats" A.AN:=by
 intro C hC;simp only[List.mem_cons,List.not_mem_nil,or_false] at hC;rcases hC with rfl | rfl
 ·exact⟨T.tR,T.ajl⟩
 ·exact⟨T.tU,T.ajm⟩
theorem Tx.ak4{K:W.Frag}{mg:Str->Option Value}{A:nO}(T:Tx K mg A):∀C∈[A.bH,A.bE],dW K C/\Meth K C "begins" A.AO:=by
 intro C hC;simp only[List.mem_cons,List.not_mem_nil,or_false] at hC;rcases hC with rfl | rfl
 ·exact⟨T.tR,T.ajp⟩
 ·exact⟨T.tU,T.ajq⟩
theorem Tx.ak5{K:W.Frag}{mg:Str->Option Value}{A:nO}(T:Tx K mg A):∀C∈[A.bH,A.bE],dW K C/\Meth K C "swing_of" A.AQ:=by
 intro C hC;simp only[List.mem_cons,List.not_mem_nil,or_false] at hC;rcases hC with rfl | rfl
 ·exact⟨T.tR,T.ajt⟩
 ·exact⟨T.tU,T.aju⟩
theorem Tx.ak6{K:W.Frag}{mg:Str->Option Value}{A:nO}(T:Tx K mg A):∀C∈[A.bH,A.bE],dW K C/\Meth K C "has_cell" A.AR:=by
 intro C hC;simp only[List.mem_cons,List.not_mem_nil,or_false] at hC;rcases hC with rfl | rfl
 ·exact⟨T.tR,T.ajx⟩
 ·exact⟨T.tU,T.ajy⟩
theorem Tx.ak7{K:W.Frag}{mg:Str->Option Value}{A:nO}(T:Tx K mg A):∀C∈[A.bH,A.bE],dW K C/\Meth K C "cell_at" A.AS:=by
 intro C hC;simp only[List.mem_cons,List.not_mem_nil,or_false] at hC;rcases hC with rfl | rfl
 ·exact⟨T.tR,T.ajB⟩
 ·exact⟨T.tU,T.ajC⟩
local macro_rules | `(tactic| walk_at "rdt") => `(tactic| wp_walk using $(Lean.mkIdent `T))
section
variable{P:Program}{w:World}{K:W.Frag}{mg:Str->Option Value}{base:Heap}{A:nO}
variable(T:Tx K mg A)(aH:tu mg base A.lX A.gf)
include T aH
theorem O0:bg P w K mg base bw 1 A.LK A.LL ["self", "kind", "first", "many", "marks", "at", "asker", "latest", "behind", "early"] (ad9 A.bI):=by
 refine T.aib.ok ahH (λvs H Q E h=>?_) (λaQ Ar outer s H vs Q E hr h=>?_)
 ·obtain⟨p,dx,v1,v2,v3,v4,v5,v6,v7,v8,v9,rfl,_⟩:=h
  rfl
 ·obtain⟨p,dx,v1,v2,v3,v4,v5,v6,v7,v8,v9,rfl,hp,q⟩:=h;refine⟨_,(aC (gb (ah 0) (ah 1) rfl)
   (aC (gb (ah 0) (ah 2) rfl)
   (aC (gb (ah 0) (ah 3) rfl)
   (aC (gb (ah 0) (ah 4) rfl)
   (aC (gb (ah 0) (ah 5) rfl)
   (aC (gb (ah 0) (ah 6) rfl)
   (aC (gb (ah 0) (ah 7) rfl)
   (aC (gb (ah 0) (ah 8) rfl)
   (aI (gb (ah 0) (ah 9) rfl)))))))))),?_⟩
  wp_walk using T,hp;exact q
theorem tW:bg P w K mg base bw 1 A.LM A.LN ["number", "least", "greatest", "words"] ad5:=by
 refine T.rS.ok ahI (λvs H Q E h=>?_) (λaQ Ar outer s H vs Q E hr h=>?_)
 ·obtain⟨n,lo,hi,w,rfl,_⟩:=h
  rfl
 ·obtain⟨n,lo,hi,w,rfl,h1,h2,q⟩:=h;refine⟨_,(aI (jC (PW.pt (rQ (iu (eV gF (ah 0) (ah 1) (bG _)) (ir (eV j7 (ah 0) (ah 2) (bG _)))))) fZ cC)),?_⟩;walk_at "rdm";exact⟨∅,∅,q⟩
theorem YR:bg P w K mg base bw 1 A.LU A.LV ["behind"] (ad8 K):=by
 refine T.Ox.ok ahK (λvs H Q E h=>?_) (λaQ Ar outer s H vs Q E hr h=>?_)
 ·obtain⟨v,ns,rfl,_⟩:=h
  rfl
 ·obtain⟨v,ns,rfl,hv,q⟩:=h;refine⟨_,(aI (bJ (Si (c7 SO (ah 0) pR (bG _)) (dO au) (pX zA rfl T.vD yM (ao (ah 0) au))))),?_⟩;walk_at "rdm";rcases hv with⟨rfl,rfl⟩ | ⟨a,rfl,hS | hS⟩
  ·exact ite_yes rfl λt nt=>q t _ (aq.put nt) aD
  ·exact ite_no (by simp) ⟨a,rfl,_,.inl ⟨hS,λl nl=>q l _ (aq.put nl) aD⟩⟩
  ·exact ite_no (by simp) ⟨a,rfl,_,.inr ⟨aY.of hS,q a _ (aq.refl _) hS⟩⟩
theorem ak8:bg P w K mg base bw 1 A.L4 A.L5 ["one", "other"] (aeb K A.bI):=by
 refine T.Xw.ok ahM (λvs H Q E h=>?_) (λaQ Ar outer s H vs Q E hr h=>?_)
 ·obtain⟨p,r,x,y,m,b,dx,m',b',iw,rfl,_⟩:=h
  rfl
 ·obtain⟨p,r,x,y,m,b,dx,m',b',iw,rfl,hx,hy,q⟩:=h;refine⟨_,(aC (d8 (PW.pt (G5 (c7 sU (bT (ah 0) rfl) dh (bG _)) (G4 (c7 sU (bT (ah 1) rfl) dh (bG _))))) (aI (bJ mD)) cC)
   (aI (bJ (Sg (wL gF (bT (ah 0) rfl) (aN eF (bT (ah 1) rfl) (bT (ah 1) rfl)) (bG _)) (Sf (wL gF (bT (ah 1) rfl) (aN eF (bT (ah 0) rfl) (bT (ah 0) rfl)) (bG _))))))),?_⟩
  wp_walk using T,hx.o,hy.o;unfold xm at q;by_cases k1:x.kind = "write" <;> by_cases k2:y.kind = "write" <;> by_cases k3:x.first<y.first+y.many <;> simpa[k1,k2,k3] using q
theorem ak9:bg P w K mg base bw 1 A.Me A.Mf ["asks", "number"] (aer K A.bI):=by
 refine T.XA.ok ahQ (λvs H Q E h=>?_) (λaQ Ar outer s H vs Q E hr h=>?_)
 ·obtain⟨la,ps,qs,k,q',rfl,_⟩:=h
  rfl
 ·obtain⟨la,ps,qs,k,q',rfl,ha,hk,up,q⟩:=h;refine⟨_,(aI (d8 (PW.pt (G5 (eV j7 (ah 1) az (bG _)) (G4 (c7 gF (g8 (aZ c8 (ah 0) (ah 1) (λ_ _=>rfl)) rfl) (g8 (aZ c8 (ah 0) (aN qo (ah 1) az) (λ_ _=>rfl)) rfl) (bG _))))) fZ cC)),?_⟩;walk_at "rdt";refine dX (λh0=>?_) (λh0=>q)
  obtain⟨p,m,b,dx,e1,a1⟩:=ha.at hk;have tX:=(fD.mp hk).1;have h1:k - 1<qs.length:=by lia
  obtain⟨p0,m0,b0,YS,e2,a2⟩:=ha.at (bx h1);have up':=up _ ∅ (bx h1)
  have e2':dP (ps.map V.ref) ((k:Int) - 1)=some (.ref p0):=by
   have:=gT e2;rwa [show ((k - 1:Nat):Int)=(k:Int) - 1 by lia] at this
  refine⟨_,aE.of ha.l,_,gT e1,_,rfl,_,_,_,a1.o,T.yc,T.ER,_,rfl,_,aE.of ha.l,_,e2',_,rfl,_,_,_,a2.o,T.yc,T.ER,_,rfl,_,rfl,_,rfl,∅,q⟩
theorem ak_:bg P w K mg base bw 1 A.Mg A.Mh ["asks", "number"] (aes K A.bI):=by
 refine T.XC.ok Xh (λvs H Q E h=>?_) (λaQ Ar outer s H vs Q E hr h=>?_)
 ·obtain⟨la,ps,qs,k,q',rfl,_⟩:=h
  rfl
 ·obtain⟨la,ps,qs,k,q',rfl,ha,hk,bl,bh,q⟩:=h;refine⟨_,(aI (dU dF rfl (Cz (g8 (aZ c8 (ah 0) (ah 1) (λ_ _=>rfl)) rfl)) (br (i:=2) Xh.nd rfl OL_)
   (aI (d8 (PW.pt (iu (eV uO (ah 2) (ah 1) (bG _)) (ir (c7 mH (g8 (aZ c8 (ah 0) (ah 2) (λ_ _=>rfl)) rfl) dh (bG _))))) fZ cC)))),?_⟩
  walk_at "rdt";obtain⟨p,m,b,dx,e1,a1⟩:=ha.at hk;refine rt b (q'.behind.map V.int) (λi σ H'=>∃(x:Option V),σ = [some (.ref la),some (.int (k:Int)),x]/\H' = H) (λQ q=>?_) (aY.of a1.bh) ⟨none,rfl,rfl⟩ (by rintro i σ H' _ ⟨_,rfl,rfl⟩;exact aY.of a1.bh) ?_ ?_
  ·walk_at "rdm";exact⟨_,aE.of ha.l,_,gT e1,_,rfl,_,_,_,a1.o,T.yc,T.ES,_,rfl,q⟩
  ·rintro i x σ H' N hN hx ⟨x0,rfl,rfl⟩;obtain⟨n,hn,rfl⟩:=iL hx;obtain⟨j,q0,rfl,hj,e2,kr⟩:=bh n (iC hn);obtain⟨p0,m0,b0,YS,e3,a2⟩:=ha.at e2;walk_at "rdm";exact⟨∅,_,aE.of ha.l,_,gT e3,_,rfl,_,_,_,a2.o,T.yc,T.EO,_,rfl,rfl,λz=>kr (V.str.inj z),hN _ _ ⟨_,rfl,rfl⟩⟩
  ·rintro σ H' ⟨x0,rfl,rfl⟩;exact q
theorem ala:bg P w K mg base bw 1 A.Mu A.Mv ["self"] (agU K A.bQ A.bI A.cQ):=by
 refine T.aiF.ok Xj (λvs H Q E h=>?_) (λaQ Ar outer s H vs Q E hr h=>?_)
 ·obtain⟨x,dx,kp,ks,kk,p,r,b,Dx,ls,rfl,_⟩:=h
  rfl
 ·obtain⟨x,dx,kp,ks,kk,p,r,b,Dx,ls,rfl,hc,l1,q⟩:=h;have hn:=hc.n;have ho:=hc.o;unfold fW at ho;refine⟨_,(aC (Wy (wW (i:=1) Xj.nd rfl OL_ (N:=["due"]) (nt:=1) (fv:=[]) ‹eE.of› rfl (Wv (bT (ah 0) rfl)) (λC s H fp=>(br (i:=0) (show List.Nodup (["due"]:List Str) by decide +kernel) rfl OL_)) (λC s H fp=>kq) (λC s H fp=>(vv (K:=K) rfl (vv (K:=K) rfl (ah 0) rfl) rfl))))
   (aI (gb (ah 0) (bY (SW rfl) rfl T.EX boot_max (ao (bT (ah 0) rfl) (ao (agO rfl T.qw rfl (ah 1) (bT (ah 0) rfl)) au))) rfl))),?_⟩
  refine Wz Dx (d7 ls) (λob D i ys aA H2=>∃(u:Option V),ys=(ls.take i).map (λy=>V.int y.1.q.at_)/\aA = [u]/\H2 D=some (.lst ys)/\H2 Dx=some (.cK ob (.dK (d7 ls)))/\cy x Dx H H2/\H D=none/\H2 x=H x) (λQ q=>?_) hc.d hc.nf ?_ ?_ ?_ ?_
  ·wp_walk using T,ho;exact q
  ·intro ob D nD;have n1:Dx≠D:=b7 hc.d nD;have n2:x≠D:=b7 hc.o nD;have n3:=hc.ne;exact⟨none,rfl,rfl,aD,by rw[aB n1,aD],(cy.of (λ_ _ e=>e)).xQ.put nD,nD,by rw[aB n2,aB n3]⟩
  ·rintro ob D i ys aA H2 ⟨u,rfl,rfl,e1,e2,e3,e4,e5⟩;exact⟨e1,jr (by simp only[List.length_map,List.length_take];lia),e2⟩
  ·rintro ob D i y ys aA H2 N hN hy ⟨u,rfl,rfl,e1,e2,e3,e4,e5⟩;unfold d7 at hy;obtain⟨z,hz,rfl⟩:=iL hy;have hi:i<ls.length:=gH hz;have eW:z=ls[i]:=by rw[bx hi] at hz;exact(dD hz).symm
   subst eW;obtain⟨iw,ap,l,ts,m,b',dw,hD⟩:=hc.xR e3 (hc.t _ (cU hi));have jc:=hD.o;have o_:=hD.a.o;unfold qc at jc;unfold jx at o_;wp_walk using T,jc,o_;have n1:Dx≠D:=b7 hc.d e4;have n2:x≠D:=b7 hc.o e4;refine⟨e1,hN _ _ _ ⟨_,?_,rfl,aD,by rw[aB n1];exact e2,e3.put e4,e4,by rw[aB n2];exact e5⟩⟩
   rw[take_succ_get (bx hi),bO];rfl
  ·rintro ob D ys aA H2 ⟨u,rfl,rfl,e1,e2,e3,e4,e5⟩;have n1:Dx≠D:=b7 hc.d e4;have n3:=hc.ne;have lK:upd H2 Dx (.dK (d7 ls)) x=some (.ins A.bQ dx [("keeping",V.ref kp),("plate",V.ref p),("ring",V.int r),("beat",V.int b),("left",V.ref Dx)]):=by rw[aB n3,e5];exact ho
   rw[As,eG] at e1;wp_walk using T,Ww,lK;refine⟨ls.map (λy=>y.1.q.at_),aE.of (by rw[aB (dR n1),nZ];exact e1),by rw[aK];lia,λM hM hl=>?_⟩
   have bc:cy x Dx H (upd (upd H2 Dx (.dK (d7 ls))) x (.ins A.bQ dx [("keeping",V.ref kp),("plate",V.ref p),("ring",V.int r),("beat",V.int (if b<M then M else b)),("left",V.ref Dx)])):=e3.xQ.JR
   refine q _ _ ⟨M,?_,λy hy=>hl _ (cH.mpr ⟨y,hy,rfl⟩),rfl⟩ bc (hc.step bc (.refl _) aD (by rw[aB (dR n3),aD]))
   obtain⟨y,hy,e⟩:=cH.mp hM;exact⟨y,hy,e⟩
theorem alb:bg P w K mg base bw 1 A.Mw A.Mx ["self", "number"] (agV K A.bQ A.bI A.cQ):=by
 refine T.aiI.ok ahS (λvs H Q E h=>?_) (λaQ Ar outer s H vs Q E hr h=>?_)
 ·obtain⟨x,dx,kp,ks,kk,p,r,b,Dx,ls,n,ns,rfl,_⟩:=h
  rfl
 ·obtain⟨x,dx,kp,ks,kk,p,r,b,Dx,ls,n,ns,rfl,hc,hk,hn,q⟩:=h;have hu:=i7 hr;have ho:=hc.o;unfold fW at ho;have hkn:=hc.k.n;have hnk:n<kk.length:=gH hk;have alc:n<ks.length:=by lia
  have YT:=bx alc;have YU:=hc.k.t n _ ns YT hk;refine⟨_,(aI (bJ (bY (adZ rfl) rfl T.OX boot_any (ao (ku (N:=["other", "self"]) (nt:=1) (fv:=[0]) ‹eE.of› rfl (Cz (aZ c8 (bT (ah 0) rfl) (ah 1) (λ_ _=>rfl))) (λC s H fp=>(br (i:=0) (show List.Nodup (["other", "self"]:List Str) by decide +kernel) rfl OL_)) (λC s H fp=>kq) (λC s H fp=>(abP (C2 hu (ah 0) (vv (K:=K) rfl (ah 1) rfl))))) au)))),?_⟩
  walk_at "rdt";refine agQ ks[n] (ns.map V.int) (λD i ys aA H2=>∃(u:Option V),ys=((ns.take i).map (oZ ls)).map V.bl/\aA = [u,some (.ref x)]/\H2 D=some (.lst ys)/\aq H H2/\H D=none) (λQ q=>?_) (aY.of YU) ?_ ?_ ?_ ?_
  ·wp_walk using T,ho;exact⟨_,aE.of hc.k.l,_,gT (by rw[gR,YT];rfl),q⟩
  ·intro D nD;exact⟨none,rfl,rfl,aD,aq.put nD,nD⟩
  ·rintro D i ys aA H2 ⟨u,rfl,rfl,e1,e2,e3⟩;exact⟨e1,jr (by simp only[List.length_map,List.length_take];lia),aY.of (e2 _ _ YU)⟩
  ·rintro D i y ys aA H2 N hN hy ⟨u,rfl,rfl,e1,e2,e3⟩;obtain⟨m,hm,rfl⟩:=iL hy;have lK:=e2 _ _ ho;have hd2:=e2 _ _ hc.d;wp_walk using T,lK;refine⟨_,fO.k (k:=bN m) hd2,e1,hN _ _ _ ⟨_,?_,rfl,aD,aq.put2 e2 e3,e3⟩⟩;rw[take_succ_get hm,bO,bO,WB];rfl
  ·rintro D ys aA H2 ⟨u,rfl,rfl,e1,e2,e3⟩;rw[aK,eG] at e1;refine⟨D,rfl,_,aE.of e1,?_⟩;have ea:(ns.map (oZ ls)).any id=ns.any (oZ ls):=by rw[List.any_map];rfl
   rw[ea];exact q H2 e2
theorem ald:bg P w K mg base bw 1 A.MC A.MD ["self", "rows", "taken", "told", "answers", "end"] (WH A.fX):=by
 refine T.aiR.ok ahT (λvs H Q E h=>?_) (λaQ Ar outer s H vs Q E hr h=>?_)
 ·obtain⟨x,dx,v1,v2,v3,v4,v5,rfl,_⟩:=h
  rfl
 ·obtain⟨x,dx,v1,v2,v3,v4,v5,rfl,hx,q⟩:=h;refine⟨_,(aC (gb (ah 0) (ah 1) rfl)
   (aC (gb (ah 0) (ah 2) rfl)
   (aC (gb (ah 0) (ah 3) rfl)
   (aC (gb (ah 0) (ah 4) rfl)
   (aI (gb (ah 0) (ah 5) rfl)))))),?_⟩
  wp_walk using T,hx;exact q
theorem ale:bg P w K mg base bw 1 A.ME A.MF ["rows"] (ag2 K):=by
 refine T.XH.ok vB (λvs H Q E h=>?_) (λaQ Ar outer s H vs Q E hr h=>?_)
 ·obtain⟨l,ts,z,rfl,_⟩:=h
  rfl
 ·obtain⟨l,ts,z,rfl,hz,z1,z5,q⟩:=h;have hu:=i7 hr;have YV:=hz.n;refine⟨_,(aC (aX (i:=1) vB.nd rfl OL_ zF)
   (aC (dU dF rfl (gM (ah 0)) (jm rfl (cu (br (i:=2) vB.nd rfl OL_) (cu (br (i:=3) vB.nd rfl OL_) (cu (br (i:=4) vB.nd rfl OL_) (cu (br (i:=5) vB.nd rfl OL_) (cu (br (i:=6) vB.nd rfl OL_) gX))))))
   (aI (uY hu (ah 1) (ah 2) (ah 6) rfl)))
   (aI (bJ (ah 1))))),?_⟩
  walk_at "rdt";intro kd lY;refine rl l (ts.map V.ref) (λi σ H'=>∃(u1 u2 u3 u4 u5:Option V) (kvs:List (Key×V)),σ = [some (.ref l),some (.ref kd),u1,u2,u3,u4,u5]/\aq H H'/\H' kd=some (.dK kvs)/\kvs.length<=i/\∀n:Int,(∃r∈z.take i,r.head? = some n)->∃e:Int,bV kvs (bN n)=some (.int e)) (λQ q=>q) (aE.of (aq.put lY _ _ hz.l)) ⟨none,none,none,none,none,[],rfl,aq.put lY,aD,bu _,λn ⟨r,hr,_⟩=>by simp at hr⟩ (by rintro i σ H' _ ⟨_,_,_,_,_,_,rfl,s',_⟩;exact aE.of (s' _ _ hz.l)) ?_ ?_
  ·rintro i x σ H' N hN hx ⟨u1,u2,u3,u4,u5,kvs,rfl,s',hk,hl,hv⟩;obtain⟨t,ht,rfl⟩:=iL hx;have hi:i<z.length:=by rw[← YV];exact gH ht
   have O1:=bx hi;have hT:=s' _ _ (hz.t i t _ ht O1);obtain⟨q1,q2,q3,q4,q5,e5⟩:=WG (z5 _ (cU hi));rw[e5] at hT O1;walk_at "rdt";refine⟨_,aY.of hT,rfl,_,_,rfl,_,_,rfl,_,_,rfl,_,_,rfl,_,_,rfl,rfl,?_⟩;refine⟨_,kP.k (k:=bN q1) hk (by rw[mT];lia),hN _ _ ⟨_,_,_,_,_,_,rfl,aq.put2 s' lY,aD,?_,λn hn=>?_⟩⟩
   ·have:=JG kvs (bN q1) (V.int q5);lia
   ·rw[CY];by_cases e:n=q1
    ·subst e;exact⟨q5,by simp⟩
    ·rw[if_neg (λz=>e (Aq.mp z))];refine hv n ?_;rw[take_succ_get O1] at hn;obtain⟨r,hr,hh⟩:=hn;rcases cF.mp hr with hr | hr
     ·exact⟨r,hr,hh⟩
     ·rw[cj.mp hr] at hh;exact absurd (dD hh).symm e
  ·rintro σ H' ⟨u1,u2,u3,u4,u5,kvs,rfl,s',hk,hl,hv⟩;rw[aK,YV,eG] at hv;walk_at "rdm";exact q kd kvs H' s' lY hk hv
theorem alf:bg P w K mg base bw 1 A.MG A.MH ["ask"] (ag3 K A.bI):=by
 refine T.XI.ok ahU (λvs H Q E h=>?_) (λaQ Ar outer s H vs Q E hr h=>?_)
 ·obtain⟨a,q',m,b,dx,rfl,_⟩:=h
  rfl
 ·obtain⟨a,q',m,b,dx,rfl,ha,f0,f1,m0,m1,q⟩:=h;have o_:=ha.o;unfold jx at o_;refine⟨_,(aI (bJ (ad2 rfl T.AW rfl T.gu rfl (ao (bT (ah 0) rfl) (ao (aN eF (bT (ah 0) rfl) (bT (ah 0) rfl)) au))))),?_⟩;wp_walk using T,o_;exact⟨∅,∅,∅,∅,∅,λl nl=>q l ((List.range (q'.first+q'.many - q'.first).toNat).map λ(k:Nat)=>q'.first+(k:Int)) _ (aq.put nl) nl (by rw[aK,jF];lia) (by rw[aD,nZ];rfl)⟩
theorem alg:bg P w K mg base bw 1 A.MK A.ML ["asks", "ends", "shelf"] (WJ K A.bI):=by
 refine T.XM.ok xZ (λvs H Q E h=>?_) (λaQ Ar outer s H vs Q E hr h=>?_)
 ·obtain⟨la,ps,qs,E',kvs,sh,rfl,_⟩:=h
  rfl
 ·obtain⟨la,ps,qs,E',kvs,sh,rfl,ha,q1,hq,hE,hv,q⟩:=h;have hu:=i7 hr;have an:=ha.n;refine⟨_,(aC (aX (i:=3) xZ.nd rfl OL_ (eZ au))
   (aC (aX (i:=4) xZ.nd rfl OL_ (eZ au))
   (aC (aX (i:=5) xZ.nd rfl OL_ (eZ au))
   (aC (dU dF rfl (wY rfl T.tV (ao (ah 0) au)) (jm rfl (cu (br (i:=6) xZ.nd rfl OL_) (cu (br (i:=7) xZ.nd rfl (Or.inr rfl)) gX)))
   (aI (d8 (c7 mH (bT (ah 7) rfl) dh (bG _)) fZ (aI (d8 (Cr (bT (ah 7) rfl)) fZ (aI (cY (kh jY mq mz lN (ah 3) (ao (HN hu (ah 1) (ah 6) (λ_ _=>rfl)) au)))))))))
   (aI (bJ (ah 3))))))),?_⟩
  walk_at "rdt";intro t1 n1 t2 n2 t3 n3;have s3:=((aq.put (o:=.lst []) n1).trans (aq.put (o:=.lst []) n2)).trans (aq.put (o:=.lst []) n3);have h1:upd (upd (upd H t1 (.lst [])) t2 (.lst [])) t3 (.lst []) t1=some (.lst []):=((aq.put (o:=.lst []) n2).trans (aq.put (o:=.lst []) n3)) _ _ aD;generalize upd (upd (upd H t1 (.lst [])) t2 (.lst [])) t3 (.lst [])=H1 at *
  refine re la (ps.map V.ref) (λk σ H'=>∃(x1 x2:Option V) (ns:List Int),σ = [some (.ref la),some (.ref E'),some (.int sh),some (.ref t1),some (.ref t2),some (.ref t3),x1,x2]/\aq H H'/\H' t1=some (.lst (ns.map V.int))/\ns.length<=k) (λQ q=>?_) (aE.of (s3 _ _ ha.l)) ⟨none,none,[],rfl,s3,h1,bu _⟩ (by rintro i σ H' _ ⟨_,_,_,rfl,s1,_⟩;exact aE.of (s1 _ _ ha.l)) ?_ ?_
  ·walk_at "rdm";exact q
  ·rintro k x σ H' T1 N hN hx ⟨x1,x2,ns,rfl,s1,ht,hl⟩ hT;have z8:k<ps.length:=by have:=(fD.mp hx).1;simpa using this
   have hk:k<qs.length:=by lia
   have iT:=bx hk;obtain⟨ap,m,b,dx,e1,a1⟩:=ha.at iT;rw[e1] at hx;cases hx;have s2:=s1.trans (aq.put (o:=.tup [.int (k:Int),.ref ap]) hT);refine mU (aY.of aD) rfl ?_;obtain⟨k1,k2⟩:=hq _ (cU hk);have a2:=(a1.same s2).o;unfold jx at a2;rw[k1,k2] at a2;have nk:((Str.ofString "read"):Str)≠"rest" := IY ⋯
   obtain⟨e,he⟩:=hv (k:Int) ∅ ∅
   wp_walk using T,a2;have YW:=aq.put (o:=.tup [.int (k:Int),.ref ap]) hT _ _ ht;refine⟨not_false,not_false,⟨_,aE.of YW⟩,_,he▸fO.k (k:=bN (k:Int)) (s2 _ _ hE),_,YW,by rw[aK];lia,hN _ _ ⟨_,_,ns++[e],rfl,aq.put2 s2 n1,by rw[aD,bO];rfl,by rw[fE,rZ];lia⟩⟩
  ·rintro σ H' ⟨x1,x2,ns,rfl,s1,ht,hl⟩;walk_at "rdm";exact q _ _ s1
theorem alh:bg P w K mg base bw 1 A.MO A.MP ["zones"] (adu K):=by
 refine T.XO.ok El (λvs H Q E h=>?_) (λaQ Ar outer s H vs Q E hr h=>?_)
 ·obtain⟨a,ts,z,rfl,_⟩:=h
  rfl
 ·obtain⟨a,ts,z,rfl,hz,ok,q⟩:=h;refine⟨_,(aC (jC (PW.pt (rQ (iu (eV gF (bY fL rfl T.dB dN (ao (ah 0) au)) az (bG _)) (ir (eV j7 (bY fL rfl T.dB dN (ao (ah 0) au)) (i6 (v:=.int 5) rfl T.akQ ⟨_,rfl⟩) (bG _)))))) fZ cC)
   (aC (dU dF rfl (gM (ah 0)) (jm rfl (cu (br (i:=1) El.nd rfl OL_) (cu (br (i:=2) El.nd rfl OL_) gX)))
   (aC (jC (PW.pt (rQ (iu (eV gF (ah 1) az (bG _)) (ir (eV j7 (ah 1) (i6 (v:=.int 40) rfl T.akR ⟨_,rfl⟩) (bG _)))))) fZ cC)
   (aI (jC (PW.pt (rQ (iu (eV gF (ah 2) az (bG _)) (ir (eV j7 (ah 2) (i6 (v:=.int 60) rfl T.akS ⟨_,rfl⟩) (bG _)))))) fZ cC))))
   (aC (aX (i:=3) El.nd rfl OL_ (bY (UJ rfl) rfl T.EY boot_sum (ao (ku (N:=["zone"]) (nt:=1) (fv:=[]) ‹eE.of› rfl (gM (ah 0)) (λC s H fp=>(br (i:=0) (show List.Nodup (["zone"]:List Str) by decide +kernel) rfl OL_)) (λC s H fp=>kq) (λC s H fp=>(aZ (qt (K:=K) rfl) (ah 0) az (λ_ _=>rfl)))) au)))
   (aI (jC (PW.pt (rQ (iu (eV gF (ah 3) (i6 (v:=.int 2) rfl T.akT ⟨_,rfl⟩) (bG _)) (ir (eV j7 (ah 3) (i6 (v:=.int 120) rfl T.akU ⟨_,rfl⟩) (bG _)))))) fZ cC))))),?_⟩
  walk_at "rdm";have hn:=hz.n;have l1:=ok.l1;have l5:=ok.l5;refine⟨_,.inl hz.sq,by simp only[List.length_map];lia,_,.inl hz.sq,by simp only[List.length_map];lia,?_⟩
  refine rl a (ts.map V.ref) (λi σ H'=>∃r c,σ = [some (.ref a),r,c,none]/\H' = H) (λQ q=>q) hz.sq ⟨none,none,rfl,rfl⟩ (by rintro i σ H' _ ⟨r,c,rfl,rfl⟩;exact hz.sq) ?_ ?_
  ·rintro i x σ H' N hN hx ⟨r,c,rfl,rfl⟩;obtain⟨t,p,rfl,hp,ht⟩:=hz.at hx;refine mU (aY.of ht) rfl ?_;walk_at "rdm";obtain⟨h1,h2,h3,h4⟩:=ok.r p (get_mem hp);exact⟨∅,∅,∅,∅,hN _ _ ⟨_,_,rfl,rfl⟩⟩
  ·rintro σ H' ⟨r,c,rfl,rfl⟩;walk_at "rdm";refine p8 a (ts.map V.ref) (λD i ys aA H2=>ys=((z.take i).map λp=>V.int p.1)/\H2 D=some (.lst ys)/\aq H' H2/\H' D=none/\i<=z.length/\∃u,aA = [u]) (λQ q=>q) hz.sq ?_ ?_ ?_ ?_
   ·intro D hD;exact⟨rfl,aD,aq.put hD,hD,eX _,_,rfl⟩
   ·rintro D i ys aA H2 ⟨e,e1,e2,e3,e4,_⟩;refine⟨e1,?_,e2.seq hz.sq⟩;rw[e];refine jr ?_;simp only[List.length_map,List.length_take];lia
   ·rintro D i x ys aA H2 N hN hx ⟨e,e1,e2,e3,e4,u,rfl⟩;obtain⟨t,p,rfl,hp,ht⟩:=hz.at hx;have hl:=gH hp;walk_at "rdm";refine⟨_,aY.of (e2 _ _ ht),_,rfl,e1,hN _ _ _ ⟨?_,aD,aq.put2 e2 e3,e3,hl,_,rfl⟩⟩;rw[take_succ_get hp,bO,e];rfl
   ·rintro D ys aA H2 ⟨e,e1,e2,e3,e4,u,rfl⟩;have e5:ys=(z.map λp=>p.1).map V.int:=by
     rw[e,lenZ hz.n,eG,nZ];rfl
    rw[e5] at e1;walk_at "rdm";have s2:=ok.s2;have s1:=ok.Dg;exact⟨_,aE.of e1,∅,∅,q _ e2⟩
theorem ali:bg P w K mg base bw 1 A.MQ A.MR ["zones", "lap", "skew"] (adv K):=by
 refine T.XQ.ok LD (λvs H Q E h=>?_) (λaQ Ar outer s H vs Q E hr h=>?_)
 ·obtain⟨a,ts,z,aG,cM,rfl,_⟩:=h
  rfl
 ·obtain⟨a,ts,z,aG,cM,rfl,hz,ok,h1,h2,h3,h4,hd,q⟩:=h;refine⟨_,(aC (jC (PW.pt (rQ (iu (eV gF (ah 1) az (bG _)) (ir (eV j7 (ah 1) (i6 (v:=.int 1000000000) rfl T.YO ⟨_,rfl⟩) (bG _)))))) fZ cC)
   (aC (dU dF rfl (gM (ah 0)) (jm rfl (cu (br (i:=3) LD.nd rfl OL_) (cu (br (i:=4) LD.nd rfl OL_) gX)))
   (aI (jC (eV J8 (aN qq (ah 1) (ah 4)) az (bG _)) fZ cC)))
   (aI (jC (PW.pt (rQ (iu (eV gF (ah 2) az (bG _)) (ir (eV uO (ah 2) (ah 1) (bG _)))))) fZ cC)))),?_⟩
  walk_at "rdm";refine⟨∅,∅,?_⟩
  refine rl a (ts.map V.ref) (λi σ H'=>∃r c,σ = [some (.ref a),some (.int aG),some (.int cM),r,c]/\H' = H) (λQ q=>q) hz.sq ⟨none,none,rfl,rfl⟩ (by rintro i σ H' _ ⟨r,c,rfl,rfl⟩;exact hz.sq) ?_ ?_
  ·rintro i x σ H' N hN hx ⟨r,c,rfl,rfl⟩;obtain⟨t,p,rfl,hp,ht⟩:=hz.at hx;refine mU (aY.of ht) rfl ?_;obtain⟨g1,g2,g3,g4⟩:=ok.r p (get_mem hp);have g5:=hd p (get_mem hp);walk_at "rdm";exact⟨∅,g5,hN _ _ ⟨_,_,rfl,rfl⟩⟩
  ·rintro σ H' ⟨r,c,rfl,rfl⟩;walk_at "rdm";exact⟨∅,∅,q⟩
theorem alj:bg P w K mg base bw 1 A.MU A.MV ["swing"] (adx K):=by
 refine T.XS.ok LF (λvs H Q E h=>?_) (λaQ Ar outer s H vs Q E hr h=>?_)
 ·obtain⟨a,sw,n,rfl,_⟩:=h
  rfl
 ·obtain⟨a,sw,n,rfl,hS,ok,hn,q⟩:=h;refine⟨_,(aI (dU dF rfl (wK rfl T.gu (ao az (ao (bY fL rfl T.dB dN (ao (ah 0) au)) au))) (br (i:=1) LF.nd rfl OL_)
   (aI (dU dF rfl (wK rfl T.gu (ao az (ao (aN eF (aN Eh (ah 1) az) az) au))) (br (i:=2) LF.nd rfl OL_)
   (aI (d8 (c7 j7 (aZ c8 (ah 0) (ah 1) (λ_ _=>rfl)) (aN gZ (aZ c8 (ah 0) (ah 2) (λ_ _=>rfl)) (aZ c8 (ah 0) (aN qo (ah 1) (ah 2)) (λ_ _=>rfl))) (bG _)) fZ cC)))))),?_⟩
  walk_at "rdm";have hl:=ok.len;have h2:=ok.two;refine zN 2 (sw.length:Int) (λi σ H'=>∃r c,σ = [some (.ref a),r,c]/\H' = H) (λQ q=>?_) ∅ ∅ ∅ ∅ ⟨none,none,rfl,rfl⟩ ?_ ?_
  ·walk_at "rdm";refine⟨_,.inl hS,?_⟩;simpa using q
  ·rintro i σ H' N hN hi ⟨r,c,rfl,rfl⟩;walk_at "rdm";refine zN 1 ((2+(i:Int)) / 2+1) (λj σ H2=>∃c,σ = [some (.ref a),some (.int (2+(i:Int))),c]/\H2=H') (λQ q=>?_) ∅ ∅ ∅ ∅ ⟨_,rfl,rfl⟩ ?_ ?_
   ·walk_at "rdm";exact q
   ·rintro j σ H2 N2 lZ hj ⟨c,rfl,rfl⟩;walk_at "rdm";have e1:((2:Int)+(i:Int)).toNat=(1+j)+(1+i - j):=by lia
    have e2:((1:Int)+(j:Int)).toNat=1+j:=by lia
    have e3:((2:Int)+(i:Int) - (1+(j:Int))).toNat=1+i - j:=by lia
    have g:=ok.no (1+j) (1+i - j) ∅ ∅ ∅
    refine⟨_,hS,_,i9 ∅ ∅,_,hS,_,i9 ∅ ∅,_,hS,_,i9 ∅ ∅,?_⟩
    walk_at "rdm";rw[e1,e2,e3];exact⟨∅,lZ _ _ ⟨_,rfl,rfl⟩⟩
   ·rintro σ H2 ⟨c,rfl,rfl⟩;exact hN _ _ ⟨_,_,rfl,rfl⟩
  ·rintro σ H' ⟨r,c,rfl,rfl⟩;exact q
theorem alk:bg P w K mg base bw 1 A.MW A.MX ["zones"] (ady K):=by
 refine T.XT.ok Em (λvs H Q E h=>?_) (λaQ Ar outer s H vs Q E hr h=>?_)
 ·obtain⟨a,ts,z,rfl,_⟩:=h
  rfl
 ·obtain⟨a,ts,z,rfl,hz,ok,q⟩:=h;refine⟨_,(aC (aX (i:=1) Em.nd rfl OL_ (eZ au))
   (aC (dU dF rfl (gM (ah 0)) (jm rfl (cu (br (i:=2) Em.nd rfl OL_) (cu (br (i:=3) Em.nd rfl OL_) gX)))
   (aI (cY (kh jY PySem.F.slot_list_extend PySem.F.type_list_extend T7 (ah 1) (ao (aN CW (eZ (ao (ah 3) au)) (ah 2)) au)))))
   (aI (bJ (ah 1))))),?_⟩
  walk_at "rdm";refine λl hl=>?_;refine rl a (ts.map V.ref) (λi σ H'=>∃r c,σ = [some (.ref a),some (.ref l),r,c]/\aq H H'/\H' l=some (.lst ((counts (z.take i)).map V.int))) (λQ q=>q) (aq.put hl |>.seq hz.sq) ⟨none,none,rfl,aq.put hl,aD⟩ (by rintro i σ H' _ ⟨r,c,rfl,hs,_⟩;exact hs.seq hz.sq) ?_ ?_
  ·rintro i x σ H' N hN hx ⟨r,c,rfl,hs,h1⟩;obtain⟨t,p,rfl,hp,ht⟩:=hz.at hx;refine mU (aY.of (hs _ _ ht)) rfl ?_;obtain⟨g1,g2,g3,g4⟩:=ok.r p (get_mem hp);have g5:=UP ok i;walk_at "rdm";refine⟨⟨_,aE.of h1⟩,λp1 vE=>⟨∅,∅,∅,λp2 qX=>?_⟩⟩
   have s1:=(aq.put (o:=.lst [V.int p.2]) vE).trans (aq.put (o:=.lst (List.replicate p.1.toNat [V.int p.2]).flatten) qX);refine⟨_,s1 _ _ h1,?_,hN _ _ ⟨_,_,rfl,aq.put2 (hs.trans s1) hl,?_⟩⟩
   ·simp only[UR,List.length_map,List.length_replicate];lia
   ·rw[aD,take_succ_get hp,UO,bO,UR];simp[counts]
  ·rintro σ H' ⟨r,c,rfl,hs,h1⟩;walk_at "rdm";rw[lenZ hz.n,eG] at h1;exact q _ _ hs hl h1
theorem YX:bg P w K mg base bw 1 A.MY A.MZ ["ring_cells", "spares"] (adz K):=by
 refine T.OA.ok AH (λvs H Q E h=>?_) (λaQ Ar outer s H vs Q E hr h=>?_)
 ·obtain⟨a,rc,s,rfl,_⟩:=h
  rfl
 ·obtain⟨a,rc,s,rfl,hS,hl,hc,kY,DT,q⟩:=h;refine⟨_,(aC (aX (i:=2) AH.nd rfl OL_ (eZ au))
   (aC (dU dF rfl (wY rfl T.tV (ao (ah 0) au)) (jm rfl (cu (br (i:=3) AH.nd rfl OL_) (cu (br (i:=4) AH.nd rfl OL_) gX)))
   (aI (dU dF rfl (j5 rfl T.gu (ao (aN qo (ah 4) (ah 1)) au)) (br (i:=5) AH.nd rfl OL_)
   (aI (cY (kh jY mq mz lN (ah 2) (ao (dO (ao (ah 3) (ao (ah 5) au))) au)))))))
   (aI (bJ (ah 2))))),?_⟩
  walk_at "rdm";refine λl eL=>?_;have oU:=UQ (s:=s) kY (λc hx=>hc c hx);refine re a (rc.map V.int) (λi σ H'=>∃r c pl ts,σ = [some (.ref a),some (.int s),some (.ref l),r,c,pl]/\aq H H'/\(∀t∈ts,H t=none)/\Zn H' l ts (eN s 0 (rc.take i))) (λQ q=>?_) (aq.put eL |>.seq hS)
   ⟨none,none,none,[],rfl,aq.put eL,(by intro t ht;cases ht),aD,rfl,by intro i t p h;simp at h⟩ (by rintro i σ H' _ ⟨r,c,pl,ts,rfl,hs,_⟩;exact hs.seq hS) ?_ ?_
  ·walk_at "rdm";exact q
  ·rintro i x σ H' T1 N hN hx ⟨r,c,pl,ts,rfl,hs,vF,hz⟩ hT;obtain⟨c0,O2,rfl⟩:=iL hx;obtain⟨g1,g2⟩:=hc c0 (get_mem O2);refine mU (aY.of aD) rfl ?_;walk_at "rdm";have YY:=aq.put (o:=.tup [.int i,.int c0]) hT;refine u_ (c0 - s) (λj σ H2=>∃pl ts,σ = [some (.ref a),some (.int s),some (.ref l),some (.int i),some (.int c0),pl]/\aq H H2/\(∀t∈ts,H t=none)/\Zn H2 l ts (eN s 0 (rc.take i)++(List.range j).map λ(k:Nat)=>((i:Int),(k:Int)))) (λQ q=>?_) ∅ ∅ ?_ ?_ ?_
   ·walk_at "rdm";exact q
   ·exact⟨_,ts,rfl,hs.trans YY,vF,by simpa using hz.same YY⟩
   ·rintro j σ H2 N2 lZ hj ⟨pl,ts,rfl,lH,O3,e7⟩;walk_at "rdm";refine⟨⟨_,e7.sq⟩,λp hp=>⟨_,aq.put hp _ _ e7.l,?_,lZ _ _ ⟨_,ts++[p],rfl,aq.put2 (lH.trans (aq.put hp)) eL,?_,?_⟩⟩⟩
    ·have h1:=e7.n;have h2:=oU i;simp only[List.length_map,List.length_append,List.length_range] at h1 ⊢;lia
    ·intro t ht;rcases cF.mp ht with ht | ht
     ·exact O3 t ht
     ·rw[cj.mp ht];exact lH.free hp
    ·have:=e7.snoc hp (i:Int) (j:Int);rw[n_,bO,← qD];exact this
   ·rintro σ H2 ⟨pl,ts,rfl,lH,O3,e7⟩;refine hN _ _ ⟨_,_,_,ts,rfl,lH,O3,?_⟩;rw[take_succ_get O2,Ik];have hi:=gH O2;simpa[eN,Nat.min_eq_left (Nat.le_of_lt hi)] using e7
  ·rintro σ H' ⟨r,c,pl,ts,rfl,hs,vF,hz⟩;walk_at "rdm";rw[aK,eG] at hz;exact q _ _ _ hs eL vF hz
theorem YZ:bg P w K mg base bw 1 A.M3 A.M4 ["number_cells"] (adA K):=by
 refine T.OB.ok En (λvs H Q E h=>?_) (λaQ Ar outer s H vs Q E hr h=>?_)
 ·obtain⟨a,ts,z,rfl,_⟩:=h
  rfl
 ·obtain⟨a,ts,z,rfl,hz,hlen,q⟩:=h;have hu:=i7 hr;refine⟨_,(aC (aX (i:=1) En.nd rfl OL_ Up)
   (aC (dU dF rfl (wY rfl T.tV (ao (ah 0) au)) (jm rfl (cu (br (i:=2) En.nd rfl OL_) (cu (br (i:=3) En.nd rfl OL_) gX)))
   (aI (uY hu (ah 1) (ah 3) (ah 2) rfl)))
   (aI (bJ (ah 1))))),?_⟩
  walk_at "rdm";refine λd hd=>?_;refine re a (ts.map V.ref) (λi σ H'=>∃r c,σ = [some (.ref a),some (.ref d),r,c]/\aq H H'/\i<=z.length/\H' d=some (.dT (lQ 0 (z.take i) []))) (λQ q=>?_) (aq.put hd |>.seq hz.sq)
   ⟨none,none,rfl,aq.put hd,eX _,aD⟩ (by rintro i σ H' _ ⟨r,c,rfl,hs,_⟩;exact hs.seq hz.sq) ?_ ?_
  ·walk_at "rdm";exact q
  ·rintro i x σ H' T1 N hN hx ⟨r,c,rfl,hs,hi,h1⟩ hT;obtain⟨t,p,rfl,hp,ht⟩:=hz.at hx;refine mU (aY.of aD) rfl ?_;walk_at "rdm";have DT:=hs.trans (aq.put (o:=.tup [.int i,.ref t]) hT);have hl:=UN (z.take i) 0 [];have vG:=gH hp;rw[fc,List.length_nil] at hl;refine⟨_,kP.t (k:=kT p) (aq.put hT _ _ h1) (DT _ _ ht) (by rw[mT];lia),hN _ _ ⟨_,_,rfl,aq.put2 DT hd,vG,?_⟩⟩
   rw[aD,take_succ_get hp,UM];simp[lQ,Nat.min_eq_left (Nat.le_of_lt vG)]
  ·rintro σ H' ⟨r,c,rfl,hs,hi,h1⟩;walk_at "rdm";rw[lenZ hz.n,eG] at h1;exact q _ _ hs hd h1
theorem art:bg P w K mg base bw 1 A.AL A.M7 ["self"] (adD K):=by
 refine T.ajd.ok ahW (λvs H Q E h=>?_) (λaQ Ar outer s H vs Q E hr h=>?_)
 ·obtain⟨C,p,P,fp,rfl,_⟩:=h
  rfl
 ·obtain⟨C,p,P,fp,rfl,hP,q⟩:=h;obtain⟨dx,a1,a2,a3,a4,ts,fs,rfl,h⟩:=hP;refine⟨_,(aI (bJ (bY fL rfl T.dB dN (ao (bT (ah 0) rfl) au)))),?_⟩;wp_walk using T,h.o,h.f1,h.f2,h.f3,h.f4,h.f5,h.f6,h.m1,h.m2,h.m3,h.m4,h.m5,h.m6,h.m7,h.m8,h.m9,h.jv,h.jw,h.cp.cl,h.cp.n1,h.cp.n2,h.cp.n3,h.cp.n4,h.cp.n5,h.cp.n6;exact⟨_,.inl (aE.of h.rc),by simpa  using q⟩
theorem Y0:bg P w K mg base bw 1 A.AM A.M8 ["self", "ring"] (adF K):=by
 refine T.ajg.ok ahX (λvs H Q E h=>?_) (λaQ Ar outer s H vs Q E hr h=>?_)
 ·obtain⟨C,p,P,fp,r,rfl,_⟩:=h
  rfl
 ·obtain⟨C,p,P,fp,r,rfl,hP,h0,h1,h2,h3,q⟩:=h;obtain⟨dx,a1,a2,a3,a4,ts,fs,rfl,h⟩:=hP;refine⟨_,(aI (bJ (aN SE (bT (ah 0) rfl) (aZ c8 (bT (ah 0) rfl) (ah 1) (λ_ _=>rfl))))),?_⟩;wp_walk using T,h.o,h.f1,h.f2,h.f3,h.f4,h.f5,h.f6,h.m1,h.m2,h.m3,h.m4,h.m5,h.m6,h.m7,h.m8,h.m9,h.jv,h.jw,h.cp.cl,h.cp.n1,h.cp.n2,h.cp.n3,h.cp.n4,h.cp.n5,h.cp.n6;refine⟨_,aE.of h.rc,_,i9 h0 h1,?_⟩;walk_at "rdm";exact⟨h2,∅,q⟩
theorem alm:bg P w K mg base bw 1 A.AN A.M9 ["self"] (adE K):=by
 refine T.ajj.ok ahY (λvs H Q E h=>?_) (λaQ Ar outer s H vs Q E hr h=>?_)
 ·obtain⟨C,p,P,fp,rfl,_⟩:=h
  rfl
 ·obtain⟨C,p,P,fp,rfl,hP,q⟩:=h;obtain⟨dx,a1,a2,a3,a4,ts,fs,rfl,h⟩:=hP;refine⟨_,(aI (bJ (bT (ah 0) rfl))),?_⟩;wp_walk using T,h.o,h.f1,h.f2,h.f3,h.f4,h.f5,h.f6,h.m1,h.m2,h.m3,h.m4,h.m5,h.m6,h.m7,h.m8,h.m9,h.jv,h.jw,h.cp.cl,h.cp.n1,h.cp.n2,h.cp.n3,h.cp.n4,h.cp.n5,h.cp.n6;exact q
theorem aln:bg P w K mg base bw 1 A.AQ A.Nc ["self", "ring", "other"] (adC K):=by
 refine T.ajr.ok ah0 (λvs H Q E h=>?_) (λaQ Ar outer s H vs Q E hr h=>?_)
 ·obtain⟨C,p,P,fp,i,j,rfl,_⟩:=h
  rfl
 ·obtain⟨C,p,P,fp,i,j,rfl,hP,hi,q⟩:=h;obtain⟨dx,a1,a2,a3,a4,ts,fs,rfl,h⟩:=hP;refine⟨_,(aI (bJ (aZ c8 (bT (ah 0) rfl) (bY Hq rfl T.AV boot_abs (ao (aN qo (ah 1) (ah 2)) au)) (λ_ _=>rfl)))),?_⟩;wp_walk using T,h.o,h.f1,h.f2,h.f3,h.f4,h.f5,h.f6,h.m1,h.m2,h.m3,h.m4,h.m5,h.m6,h.m7,h.m8,h.m9,h.jv,h.jw,h.cp.cl,h.cp.n1,h.cp.n2,h.cp.n3,h.cp.n4,h.cp.n5,h.cp.n6;refine⟨_,aE.of h.sw,_,i9 (k:=if i - j<0 then -(i - j) else i - j) (by split <;> lia) (by split <;> lia),?_⟩
  have e:(if i - j<0 then -(i - j) else i - j).toNat=(i - j).natAbs:=by split <;> lia
  rw[e];exact q
theorem alo:bg P w K mg base bw 1 A.AR A.Nd ["self", "ring", "place"] (adH K):=by
 refine T.ajv.ok ah1 (λvs H Q E h=>?_) (λaQ Ar outer s H vs Q E hr h=>?_)
 ·obtain⟨C,p,P,fp,r,c,rfl,_⟩:=h
  rfl
 ·obtain⟨C,p,P,fp,r,c,rfl,hP,q⟩:=h;obtain⟨dx,a1,a2,a3,a4,ts,fs,rfl,h⟩:=hP;refine⟨_,(aC (jC (PW.pt (rQ (iu (eV gF (ah 1) az (bG _)) (ir (eV uO (ah 1) (bY fL rfl T.dB dN (ao (bT (ah 0) rfl) au)) (bG _)))))) (aI (bJ mD)) cC)
   (aI (bJ (Sg (wL uO (ah 2) az (bG _)) (Sf (wL gF (ah 2) (aZ c8 (bT (ah 0) rfl) (ah 1) (λ_ _=>rfl)) (bG _))))))),?_⟩
  wp_walk using h.o,h.f1,h.f2,h.f3,h.f4,h.f5,h.f6,h.m1,h.m2,h.m3,h.m4,h.m5,h.m6,h.m7,h.m8,h.m9,h.jv,h.jw,h.cp.cl,h.cp.n1,h.cp.n2,h.cp.n3,h.cp.n4,h.cp.n5,h.cp.n6;refine dX (λh0=>?_) (λh0=>⟨_,.inl (aE.of h.rc),dX (λh1=>?_) (λh1=>?_)⟩)
  ·rw[jG ∅] at q;exact q
  ·rw[aK] at h1;rw[jG ∅] at q;exact q
  ·rw[aK] at h1;refine dX (λh2=>⟨_,aE.of h.rc,_,i9 ∅ ∅,?_⟩) (λh2=>?_)
   ·walk_at "rdm";have e:decide (c<P.rc.getD r.toNat 0)=decide (0<=r/\r<P.rc.length/\0<=c/\c<P.rc.getD r.toNat 0):=by
     by_cases h3:c<P.rc.getD r.toNat 0
     ·rw[ig h3,ig ⟨∅,∅,h2,h3⟩]
     ·rw[jG h3,jG ∅]
    rw[e];exact q
   ·rw[jG ∅] at q;exact q
theorem alp:bg P w K mg base bw 1 A.AS A.Nf ["self", "number"] (adI K):=by
 refine T.ajz.ok ah2 (λvs H Q E h=>?_) (λaQ Ar outer s H vs Q E hr h=>?_)
 ·obtain⟨C,p,P,fp,k,rfl,_⟩:=h
  rfl
 ·obtain⟨C,p,P,fp,k,rfl,hP,h0,h1,q⟩:=h;obtain⟨dx,a1,a2,a3,a4,ts,fs,rfl,h⟩:=hP;refine⟨_,(aC (jC (PW.pt (rQ (iu (eV gF (ah 1) az (bG _)) (ir (eV uO (ah 1) (bY fL rfl T.dB dN (ao (bT (ah 0) rfl) au)) (bG _)))))) fZ cC)
   (aI (bJ (aZ c8 (bT (ah 0) rfl) (ah 1) (λ_ _=>rfl))))),?_⟩
  wp_walk using h.o,h.f1,h.f2,h.f3,h.f4,h.f5,h.f6,h.m1,h.m2,h.m3,h.m4,h.m5,h.m6,h.m7,h.m8,h.m9,h.jv,h.jw,h.cp.cl,h.cp.n1,h.cp.n2,h.cp.n3,h.cp.n4,h.cp.n5,h.cp.n6;have hn:=h.nc.n;refine⟨∅,_,.inl h.nc.sq,by rw[aK];lia,?_⟩
  have hk:k.toNat<ts.length:=by lia
  have g1:(ts.map V.ref)[k.toNat]? = some (V.ref ts[k.toNat]):=by simp[hk]
  obtain⟨t,q',e1,e2,e3⟩:=h.nc.at g1;have ek:k=(k.toNat:Int):=by lia
  refine⟨_,h.nc.sq,V.ref ts[k.toNat],?_,?_⟩
  ·have:=gT g1;rwa [← ek] at this
  ·rw[e1];exact q t q' e2 e3
theorem alq:bg P w K mg base bw 1 A.Ng A.Nh ["spares", "ring_cells"] (adN K):=by
 refine T.X3.ok ah3 (λvs H Q E h=>?_) (λaQ Ar outer s H vs Q E hr h=>?_)
 ·obtain⟨a,rc,s,rfl,_⟩:=h
  rfl
 ·obtain⟨a,rc,s,rfl,hS,hl,h0,hc,q⟩:=h;refine⟨_,(aI (d8 (PW.pt (iu (eV gF (ah 0) az (bG _)) (ir (c7 uO (ah 0) (bY (UK rfl) rfl T.qw sy (ao (ah 1) au)) (bG _))))) fZ cC)),?_⟩;walk_at "rdm";refine⟨∅,_,hS,hl,λM hM Y3=>⟨?_,q⟩⟩
  have:=hc M hM;lia
theorem alr:bg P w K mg base bw 1 A.Nk A.Nl ["number_cells", "bad_cells"] (adP K):=by
 refine T.X5.ok ah4 (λvs H Q E h=>?_) (λaQ Ar outer s H vs Q E hr h=>?_)
 ·obtain⟨a,d,ts,z,kvs,rfl,_⟩:=h
  rfl
 ·obtain⟨a,d,ts,z,kvs,rfl,hz,hlen,hd,q⟩:=h;have hu:=i7 hr;refine⟨_,(aI (bJ (ku (N:=["number", "cell", "bad_cells"]) (nt:=2) (fv:=[1]) ‹eE.of› rfl (wY rfl T.tV (ao (ah 0) au)) (λC s H fp=>(zP (K:=K) (n:=2) rfl rfl (cu (br (i:=0) (show List.Nodup (["number", "cell", "bad_cells"]:List Str) by decide +kernel) rfl OL_) (cu (br (i:=1) (show List.Nodup (["number", "cell", "bad_cells"]:List Str) by decide +kernel) rfl OL_) gX)))) (λC s H fp=>(wV (wG (C2 hu (ah 1) (ah 2))))) (λC s H fp=>(ah 0))))),?_⟩
  walk_at "rdm";refine rcE a (ts.map V.ref) (λD i ys aA H2=>ys=(kW kvs 0 (z.take i)).map V.int/\H2 D=some (.lst ys)/\aq H H2/\H D=none/\i<=z.length/\∃u v,aA = [u,v,some (.ref d)]) (λQ q=>by walk_at "rdm";exact q) hz.sq ?_ ?_ ?_ ?_
  ·intro D hD;exact⟨rfl,aD,aq.put hD,hD,eX _,_,_,rfl⟩
  ·rintro D i ys aA H2 ⟨e,e1,e2,e3,e4,_⟩;refine⟨e1,?_,e2.seq hz.sq⟩;have:=Ir kvs (z.take i) 0;rw[e,mT,aK];rw[fc] at this;lia
  ·rintro D i x ys aA H2 T1 N hN hx ⟨e,e1,e2,e3,e4,u,v,rfl⟩ hT;obtain⟨t,p,rfl,hp,ht⟩:=hz.at hx;have hl:=gH hp;refine mU (aY.of aD) rfl ?_;walk_at "rdm";have s1:=e2.trans (aq.put (o:=.tup [.int i,.ref t]) hT);refine⟨_,fO.t (k:=kT p) (s1 _ _ hd) (s1 _ _ ht),?_⟩;have eD:upd H2 T1 (.tup [.int i,.ref t]) D=some (.lst ys):=aq.put hT _ _ e1;refine dX (λhb=>⟨eD,hN _ _ _ ⟨?_,aD,aq.put2 s1 e3,e3,hl,_,_,rfl⟩⟩) (λhb=>hN _ _ _ ⟨?_,eD,s1,e3,hl,_,_,rfl⟩)
   ·rw[take_succ_get hp,Iq,if_pos hb,bO,e,fc,ux (kF hl),sr];rfl
   ·rw[take_succ_get hp,Iq,if_neg hb,pF,e]
  ·rintro D ys aA H2 ⟨e,e1,e2,e3,e4,u,v,rfl⟩;rw[lenZ hz.n,eG] at e;rw[e] at e1;exact q _ _ e2 e3 e1
theorem als:bg P w K mg base bw 1 A.Ex A.AU ["ring", "rings"] (aeO A.gf (rq iS) (rB "nearest_rings")):=by
 refine T.X6.okC ah5 (λvs H Q E h=>?_) (λAr outer s H vs Q E hr h=>?_)
 ·obtain⟨r,n,rfl,_⟩:=h
  rfl
 ·obtain⟨r,n,rfl,h2,jN,tab,q⟩:=h;have p9:(Ar.deeper (envOfC "nearest_rings" (aU iS) s.heap.objs.size A.Ex A.AU.code)).in1.in1.depth<recursionLimit:=hr.depth;refine⟨_,(aI (bJ (aeJ (c:=A.lX) (P:=A.gf) (ps:=["other"]) (fs:=["ring"]) (fv:=[0]) rfl T.AX rfl T.gu aH T.akY (oR.of rfl rfl rfl rfl (by rfl) (by rfl) (by repeat (first | exact trivial | refine⟨rfl,?_⟩)) (by rfl) (by rfl) (by rfl) (by decide +kernel)) rfl rfl rfl (λ_ _ _ _=>rfl) (λf c2 s2 H2=>(dO (ao (bY Hq rfl T.AV boot_abs (ao (aN sS (pv 0) (pv 1)) au)) (ao (pv 0) au)))) rfl p9 rfl rfl rfl (ao (pv 1) au)))),?_⟩
  wp_walk using VA,sZ;refine⟨n,rfl,h2,jN,iN r,λj hj=>⟨by unfold iN;dsimp only;lia,by unfold iN;dsimp only;lia⟩,λi j hi hj e=>by unfold iN at e;injection e with e1 e2;lia,tab,λj H2 hj sb tb=>?_,λD is H' a b c d e=>q D is H' a b c d e⟩
  have e:(if (j:Int) - r<0 then -((j:Int) - r) else(j:Int) - r)=(iN r j).1:=by unfold iN;dsimp only;split <;> lia
  refine⟨_,rfl,_,rfl,λp hp=>⟨hp,?_⟩⟩;rw[e]
  rfl
theorem alu:bg P w K mg base bw 1 A.Nu A.Nv ["shares"] ahb:=by
 refine T.X_.ok Er (λvs H Q E h=>?_) (λaQ Ar outer s H vs Q E hr h=>?_)
 ·obtain⟨l,ts,z,rfl,_⟩:=h
  rfl
 ·obtain⟨l,ts,z,rfl,hz,ok,q1⟩:=h;have o1:=ok.n1;have o4:=ok.n4;have hu:=i7 hr;have zl:=hz.n;refine⟨_,(aC (d8 (PW.pt (iu (c7 gF (bY qV rfl T.dB dN (ao (pv 0) au)) az (bG _)) (ir (c7 j7 (bY qV rfl T.dB dN (ao (pv 0) au)) (i6 (v:=.int 4) rfl T.akV ⟨_,rfl⟩) (bG _))))) fZ cC)
   (aC (aX (i:=1) Er.nd rfl OL_ zF)
   (aI (dU dF rfl (gM (pv 0)) (jm rfl (cu (br (i:=2) Er.nd rfl OL_) (cu (br (i:=3) Er.nd rfl OL_) gX)))
   (aC (d8 (PW.pt (iu (c7 gF (pv 2) az (bG _)) (ir (c7 j7 (pv 2) (i6 (v:=.int 20) rfl T.akW ⟨_,rfl⟩) (bG _))))) fZ cC)
   (aC (d8 (wG (C2 hu (pv 2) (pv 1))) fZ cC)
   (aC (d8 (PW.pt (iu (c7 gF (pv 3) az (bG _)) (ir (c7 j7 (pv 3) (i6 (v:=.int 4) rfl T.akX ⟨_,rfl⟩) (bG _))))) fZ cC)
   (aI (uY hu (pv 1) (pv 2) (pv 3) rfl))))))))),?_⟩
  walk_at "rdt";refine⟨_,.inl hz.sq,by rw[aK,zl];lia,_,.inl hz.sq,by rw[aK,zl];lia,?_⟩
  intro kd lY;refine rl l (ts.map V.ref) (λi σ H'=>∃(u v:Option V) (kvs:List (Key×V)),σ = [some (.ref l),some (.ref kd),u,v]/\aq H H'/\H' kd=some (.dK kvs)/\kvs.length<=i/\(∀a:Int,(bV kvs (bN a)).isSome=decide (a∈(z.take i).map (·.1)))) (λQ q=>⟨_,rfl,q⟩) (aq.put lY |>.seq hz.sq) ⟨none,none,[],rfl,aq.put lY,aD,bu _,λa=>by simp[T_]⟩ (by rintro i σ H' _ ⟨_,_,_,rfl,s',_⟩;exact s'.seq hz.sq) ?_ ?_
  ·rintro i x σ H' N hN hx ⟨u,v,kvs,rfl,s',hk,hl,hv⟩;obtain⟨t,p,rfl,hp,ht⟩:=(hz.same s').at hx;have hi:i<z.length:=gH hp;have tk:=take_succ_get hp;have ob:=ok.a p (get_mem hp);have nw:¬ (bV kvs (bN p.1)).isSome=true:=by
    rw[hv];intro c3;have:=ok.nd;rw[← uw (i+1) z,tk,bO,bO] at this;have:=(se.mp (se.mp this).1).2.2 p.1 (by simpa using c3) p.1 (by simp)
    exact this rfl
   walk_at "rdm";refine⟨_,aY.of ht,rfl,_,_,rfl,_,_,rfl,rfl,_,rfl,∅,_,rfl,∅,_,fO.k (k:=bN p.1) hk,nw,_,rfl,∅,_,rfl,∅,_,kP.k (k:=bN p.1) hk (by rw[mT];lia),hN _ _ ⟨_,_,_,rfl,aq.put2 s' lY,aD,?_,λa=>?_⟩⟩
   ·have:=JG kvs (bN p.1) (V.int p.2);lia
   ·rw[CY,tk,bO];by_cases e:a=p.1
    ·subst e;simp
    ·rw[if_neg (by simpa[bN] using e),hv]
     simp[e]
  ·rintro σ H' ⟨u,v,kvs,rfl,s',hk,hl,hv⟩;exact q1 H' s'
theorem alv:bg P w K mg base bw 1 A.Nx A.Ny ["dues"] (agA K A.bI A.cQ):=by
 refine T.Yb.ok Es (λvs H Q E h=>?_) (λaQ Ar outer s H vs Q E hr h=>?_)
 ·obtain⟨D,ps,ds,rfl,_⟩:=h
  rfl
 ·obtain⟨D,ps,ds,rfl,hd,d32,q⟩:=h;have O4:=hd.n;have hu:=i7 hr;refine⟨_,(aC (aX (i:=1) Es.nd rfl OL_ zF)
   (aC (dU dF rfl (gM (ah 0)) (br (i:=2) Es.nd rfl OL_)
   (aC (aX (i:=3) Es.nd rfl OL_ (Ut hu (ah 1) (bT (bT (ah 2) rfl) rfl) (bT (ah 2) rfl) ⟨rfl,rfl,rfl,rfl⟩))
   (aI (uY hu (ah 1) (bT (bT (ah 2) rfl) rfl) (bY (CJ rfl) rfl T.qw sy (ao (ah 3) (ao (bT (ah 2) rfl) au))) rfl))))
   (aI (bJ (ah 1))))),?_⟩
  walk_at "rdt";intro kd lY;refine rl D (ps.map V.ref) (λi σ H'=>∃(u v:Option V) (kvs:List (Key×V)),σ = [some (.ref D),some (.ref kd),u,v]/\aq H H'/\H' kd=some (.dK kvs)/\kvs.length<=i/\xO (ds.take i) kvs) (λQ q=>q) (aE.of (aq.put lY _ _ hd.l)) ⟨none,none,[],rfl,aq.put lY,aD,bu _,⟨λa=>by simp[T_,h_],(λ_ h=>nomatch h)⟩⟩ (by rintro i σ H' _ ⟨_,_,_,rfl,s',_⟩;exact aE.of (s' _ _ hd.l)) ?_ ?_
  ·rintro i x σ H' N hN hx ⟨u,v,kvs,rfl,s',hk,hl,hv⟩;obtain⟨p,hp,rfl⟩:=iL hx;have hi:i<ds.length:=by rw[← O4];exact gH hp
   refine(hd.same s').el i p ds[i] hp (bx hi) λdx ap la ts m b dw hD=>?_;have jc:=hD.o;have o_:=hD.a.o;unfold qc at jc;unfold jx at o_;wp_walk using T,jc,o_;have hva:=hv.v ds[i].q.bB;refine⟨.inl ⟨_,.inl hk⟩,_,fO.k (k:=bN ds[i].q.bB) hk,?_⟩;obtain⟨n0,e0,e1⟩:∃n0,(bV kvs (bN ds[i].q.bB)).getD (V.int ds[i].n)=V.int n0/\(if ds[i].n<n0 then ds[i].n else n0)=vm (h_ ds[i].q.bB (ds.take i)) ds[i].n:=by
    rw[hva];cases h_ ds[i].q.bB (ds.take i) with
    | none=>exact⟨_,rfl,by simp[vm]⟩
    | some m=>exact⟨m,rfl,rfl⟩
   refine⟨n0,e0,_,kP.k (k:=bN ds[i].q.bB) hk (by rw[mT];lia),hN _ _ ⟨_,_,_,rfl,aq.put2 s' lY,aD,?_,⟨λa=>?_,λy hy=>?_⟩⟩⟩
   ·have:=JG kvs (bN ds[i].q.bB) (V.int (if ds[i].n<n0 then ds[i].n else n0))
    lia
   ·rw[CY,agx hi,e1];by_cases e:a=ds[i].q.bB
    ·subst e;simp
    ·rw[if_neg (by simpa[bN] using e),if_neg (λz=>e z.symm)]
     exact hv.v a
   ·rw[take_succ_get (bx hi)];rcases agy hy with⟨y',hy,ey⟩ | hy
    ·obtain⟨d,tH,hd2⟩:=hv.k y' hy;exact⟨d,n8 _ tH,ey▸hd2⟩
    ·exact⟨ds[i],fF _ (cj.mpr rfl),hy⟩
  ·rintro σ H' ⟨u,v,kvs,rfl,s',hk,hl,hv⟩;rw[aK,O4] at hl;rw[aK,O4,eG] at hv;walk_at "rdm";exact q kd kvs H' s' lY hk ∅ hv
theorem Y4:bg P w K mg base bw 1 A.NC A.ND ["self"] (agz A.cX):=by
 refine T.ajX.ok ah7 (λvs H Q E h=>?_) (λaQ Ar outer s H vs Q E hr h=>?_)
 ·obtain⟨x,dx,pl,fs,rfl,_⟩:=h
  rfl
 ·obtain⟨x,dx,pl,fs,rfl,hx,hf,q⟩:=h;refine⟨_,(aC (gb (ah 0) az rfl)
   (aI (gb (ah 0) az rfl))),?_⟩
  rcases hf with rfl | ⟨t,u,rfl⟩
  ·wp_walk using T,hx,jf;exact q _ (λb o e hb=>by rw[aB hb];exact e) aD
  ·wp_walk using T,hx,jf;exact q _ (λb o e hb=>by rw[aB hb];exact e) aD
theorem alw:bg P w K mg base bw 1 A.NH A.NI ["self", "least"] (ahd A.cX):=by
 refine T.aj1.ok LH (λvs H Q E h=>?_) (λaQ Ar outer s H vs Q E hr h=>?_)
 ·obtain⟨x,B,dx,pl,bR,sh,t,u,kvs,rfl,_⟩:=h
  rfl
 ·obtain⟨x,B,dx,pl,bR,sh,t,u,kvs,rfl,hx,n4,hB,kn,q1⟩:=h;have hu:=i7 hr;have pn:=hx.p.n;have tY:=hx.o;unfold jf at tY;refine⟨_,(aC (wW (i:=2) LH.nd rfl OL_ (N:=["asker", "share"]) (nt:=2) (fv:=[]) ‹eE.of› rfl (gM (bT (ah 0) rfl)) (λC s H fp=>(zP (K:=K) (n:=2) rfl rfl (cu (br (i:=0) (show List.Nodup (["asker", "share"]:List Str) by decide +kernel) rfl OL_) (cu (br (i:=1) (show List.Nodup (["asker", "share"]:List Str) by decide +kernel) rfl OL_) gX)))) (λC s H fp=>kq) (λC s H fp=>(ah 0)))
   (aI (dU dF rfl (agu (ah 1)) (br (i:=3) LH.nd rfl OL_)
   (aI (d8 (c7 acI (ah 3) (ah 2) rfl) fZ cC))))),?_⟩
  wp_walk using T,tY;have Bx:B≠x:=λz=>by rw[z,tY] at hB;cases hB
  refine p8 pl (bR.map V.ref) (λD i ys aA H2=>∃(u v:Option V),ys=((sh.take i).map (·.1)).map V.int/\aA = [u,v]/\H2 D=some (.lst ys)/\aq H H2/\H D=none) (λQ q=>?_) hx.p.sq ?_ ?_ ?_ ?_
  ·wp_walk using T,tY;exact q
  ·intro D hD;exact⟨none,none,rfl,rfl,aD,aq.put hD,hD⟩
  ·rintro D i ys aA H2 ⟨u',v',rfl,rfl,e1,e2,e3⟩;exact⟨e1,jr (by simp only[List.length_map,List.length_take];lia),(hx.p.same e2).sq⟩
  ·rintro D i y ys aA H2 N hN hy ⟨u',v',rfl,rfl,e1,e2,e3⟩;obtain⟨pt,p,rfl,hp,ht⟩:=(hx.p.same e2).at hy;walk_at "rdm";refine⟨_,aY.of ht,rfl,_,_,rfl,_,_,rfl,rfl,e1,hN _ _ _ ⟨_,_,?_,rfl,aD,aq.put2 e2 e3,e3⟩⟩;rw[take_succ_get hp,bO,bO];rfl
  ·rintro D ys aA H2 ⟨u',v',rfl,rfl,e1,e2,e3⟩;rw[aK,pn,eG] at e1;have DB:B≠D:=λz=>by rw[z,e3] at hB;cases hB
   refine agv B kvs (λob i σ H'=>∃(v:Option V),σ = [some (.ref x),some (.ref B),some (.ref D),v]/\SameBut B H H'/\H' D=some (.lst ((sh.map (·.1)).map V.int))/\H' B=some (.cK ob (.dK kvs))) (λQ q=>q) (e2 _ _ hB) (λob=>⟨none,rfl,λb o e hb=>by rw[aB hb];exact e2 _ _ e,by rw[aB (dR DB)];exact e1,aD⟩) (by rintro ob i σ H' ⟨v,rfl,_,_,e⟩;exact e) ?_ ?_
   ·rintro ob i p σ H' N hN hp ⟨v,rfl,sb,hD,O5⟩;obtain⟨a,ha,ea⟩:=kn p (get_mem hp);have ev:kV p.1 = .int a:=by rw[ea];rfl
    wp_walk using ev;exact⟨_,.inl (aE.of hD),rfl,IP _,by rw[IM];simpa using ha,hN _ _ ⟨_,rfl,sb,hD,O5⟩⟩
   ·rintro ob σ H' ⟨v,rfl,sb,hD,O5⟩;exact q1 ob H' sb O5
theorem alx:bg P w K mg base bw 1 A.NJ A.NK ["self", "least"] (agC A.cX):=by
 refine T.aj4.ok LI (λvs H Q E h=>?_) (λaQ Ar outer s H vs Q E hr h=>?_)
 ·obtain⟨x,B,dx,pl,bR,sh,t,u,kvs,rfl,_⟩:=h
  rfl
 ·obtain⟨x,B,dx,pl,bR,sh,t,u,kvs,rfl,hx,t0,t1,n4,hB,⟨p,hp,pp⟩,q⟩:=h;have hu:=i7 hr;have pn:=hx.p.n;have tY:=hx.o;unfold jf at tY;refine⟨_,(aC (aX (i:=2) LI.nd rfl OL_ (aN qq (aN eF (bT (ah 0) rfl) az) (bY fL rfl T.dB dN (ao (bT (ah 0) rfl) au))))
   (aC (Sv dF (wG (HP hu (aZ lM (aZ c8 (bT (ah 0) rfl) (ah 2) (λ_ _=>rfl)) az (λ_ _=>rfl)) (ah 1)))
   (aI (aX (i:=2) LI.nd rfl OL_ (aN qq (aN eF (ah 2) az) (bY fL rfl T.dB dN (ao (bT (ah 0) rfl) au))))))
   (aI (bJ (ah 2))))),?_⟩
  wp_walk using T,tY;refine⟨_,.inl hx.p.sq,by rw[aK];lia,?_⟩
  rw[aK,pn];obtain⟨m0,g0⟩:=nC.start (pr:=λa=>(bV kvs (bN a)).isSome=true) t0 t1 hp pp;refine⟨λm σ H'=>∃t':Int,σ = [some (.ref x),some (.ref B),some (.int t')]/\H' = H/\nC (λa=>(bV kvs (bN a)).isSome=true) sh t m t',⟨m0,_,rfl,rfl,g0⟩,?_⟩;rintro m σ H' ⟨t',rfl,rfl,g⟩;obtain⟨b0,b1⟩:=g.bd ∅
  obtain⟨pt,e1,e2⟩:=hx.p.ti b0 b1;wp_walk using T,tY;refine⟨_,hx.p.sq,_,e1,pt,rfl,_,aY.of e2,_,rfl,_,.inl ⟨kvs,bN _,hB,rfl,rfl⟩,dX (λh0=>?_) λh0=>?_⟩
  ·refine⟨λbq H2=>∃m',m' < m/\∃t':Int,bq = [some (.ref x),some (.ref B),some (.int t')]/\H2=H'/\nC (λa=>(bV kvs (bN a)).isSome=true) sh t m' t',λ_ _ h=>h,?_⟩;obtain⟨m',hm,g'⟩:=g.go (by simpa using h0)
   refine⟨_,.inl hx.p.sq,by rw[aK];lia,m',hm,_,rfl,rfl,?_⟩
   rw[aK,pn];exact g'
  ·exact q t' (g.stop (Option.isSome_iff_ne_none.mpr (by simpa using h0)))
theorem pe:bg P w K mg base bw 1 A.NL A.NN ["_law_script", "_law_k"] (eU K):=by
 refine T.nQ.ok ah8 (λvs H Q E h=>?_) (λaQ Ar outer s H vs Q E hr h=>?_)
 ·obtain⟨a,ns,k,rfl,_⟩:=h
  rfl
 ·obtain⟨a,ns,k,rfl,hS,hl,k0,k1,q⟩:=h;refine⟨_,(aC (jC (eV gF (ah 1) (bY fL rfl T.dB dN (ao (ah 0) au)) (bG _)) (aI (bJ (aN gZ (aZ c8 (ah 0) (ah 1) (λ_ _=>rfl)) (aN jU az (ah 1))))) cC)
   (aI (bJ (aN jU az (ah 1))))),?_⟩
  walk_at "rdm";refine⟨_,.inl hS,dX (λh=>⟨_,hS,_,i9 k0 (by simpa using h),?_⟩) λh=>?_⟩
  ·walk_at "rdm";exact q
  ·have e:Ih ns k=0:=by
    unfold Ih;rw[qG,uv (by simp at h;lia)];rfl
   unfold kC at q;rw[e,Int.zero_add] at q;exact q
theorem cT:bg P w K mg base bw 1 A.NO A.NP ["_law_cell_here", "_law_turn", "_law_many"] bU:=by
 refine T.cJ.ok ah9 (λvs H Q E h=>?_) (λaQ Ar outer s H vs Q E hr h=>?_)
 ·obtain⟨c,t,m,rfl,_⟩:=h
  rfl
 ·obtain⟨c,t,m,rfl,t0,t1,m0,q⟩:=h;refine⟨_,(aI (bJ (aN qq (aN qq (aN jU (aN eF (ah 0) az) (aN eF az (aN jU (aN jU az (ah 1)) (ah 1)))) az) (ah 2)))),?_⟩;walk_at "rdm";have a:=BO t1 (show (0:Int)<=715225739 by decide)
  have a0:=Int.mul_nonneg (show (0:Int)<=715225739 by decide) t0
  have b:=rY a t1 t0 ∅
  have b0:=Int.mul_nonneg a0 t0;exact⟨.inr ⟨∅,∅⟩,.inr ⟨∅,∅⟩,m0,q⟩
theorem aly:bg P w K mg base bw 1 A.NU A.NV ["_law_counts", "_law_spares", "_law_bad_here"] (ago K):=by
 refine T.Yh.ok tL (λvs H Q E h=>?_) (λaQ Ar outer s H vs Q E hr h=>?_)
 ·obtain⟨ca,ba,sp,rc,gm,bz,ms,rfl,_⟩:=h
  rfl
 ·obtain⟨ca,ba,sp,rc,gm,bz,ms,rfl,pq,hb,n64,s0',hc,hL,q⟩:=h;have yd:_+16<cLine:=B3 (GG (by decide:16<=64) _) hr.units
  refine⟨_,(aC (aX (i:=3) tL.nd rfl OL_ (eZ au))
   (aC (aX (i:=4) tL.nd rfl OL_ (eZ au))
   (aC (dU dF rfl (j5 rfl T.gu (ao (bY fL rfl T.dB dN (ao (ah 0) au)) au)) (br (i:=5) tL.nd rfl (Or.inr rfl))
   (aI (dU dF rfl (j5 rfl T.gu (ao (aZ c8 (ah 0) (ah 5) (λ_ _=>rfl)) au)) (br (i:=6) tL.nd rfl OL_)
   (aI (d8 (c7 gF (ah 6) (aN sS (aZ c8 (ah 0) (ah 5) (λ_ _=>rfl)) (ah 1)) (bG _)) (aI (cY (kh jY mq mz lN (ah 3) (ao (dO (ao (ah 5) (ao (ah 6) au))) au)))) (aI (d8 (c7 (VO yd) (dO (ao (ah 5) (ao (ah 6) au))) (ah 2) rfl) (aI (cY (kh jY mq mz lN (ah 4) (ao (dO (ao (ah 5) (ao (ah 6) au))) au)))) cC)))))))
   (aC (dU dF rfl (j5 rfl T.gu (ao (bY fL rfl T.dB dN (ao (ah 3) au)) au)) (br (i:=7) tL.nd rfl OL_)
   (aI (d8 (c7 (afa yd) (aZ c8 (ah 3) (ah 7) (λ_ _=>rfl)) (ah 2) rfl) (aC (b_ (aX (i:=5) tL.nd rfl (Or.inr rfl) (aZ lM (aZ c8 (ah 3) (ah 7) (λ_ _=>rfl)) az (λ_ _=>rfl))))
   (aC (b_ (aX (i:=8) tL.nd rfl OL_ (bY (afh rfl yd) rfl T.qw sy (ao (ku (N:=["_law_cell_here", "_law_ring"]) (nt:=1) (fv:=[5]) ‹eE.of› rfl (gM (ah 4)) (λC s H fp=>(br (i:=0) (show List.Nodup (["_law_cell_here", "_law_ring"]:List Str) by decide +kernel) rfl OL_)) (λC s H fp=>kq) (λC s H fp=>(dO (ao (bY Hq rfl T.AV boot_abs (ao (aN sS (aZ (qt (K:=K) rfl) (ah 0) az (λ_ _=>rfl)) (ah 1)) au)) (ao (aZ (qt (K:=K) rfl) (ah 0) az (λ_ _=>rfl)) (ao (aZ (qt (K:=K) rfl) (ah 0) az (λ_ _=>rfl)) au)))))) au))))
   (aC (b_ (wI (Tw TF (ah 8) (Tt az) Tr) (Cw (ah 3) (ah 7) set_list)))
   (aI (cY (kh jY PySem.F.slot_list_remove PySem.F.type_list_remove (afc yd) (ah 4) (ao (Tw TF (ah 8) (Tt az) Tr) au))))))) cC)))
   (aI (bJ (ah 3))))))),?_⟩
  walk_at "rdm";intro l nl f nf;have fl:f≠l:=λz=>by rw[z,aD] at nf;cases nf
  have Y5:H f=none:=(aq.put nl).free nf;have s0:=(aq.put (o:=.lst []) nl).trans (aq.put (o:=.lst []) nf);have eL:Zn (upd (upd H l (.lst [])) f (.lst [])) l [] []:=⟨(aB fl.symm).trans aD,rfl,λi t p e=>by simp at e⟩
  have hf0:Zn (upd (upd H l (.lst [])) f (.lst [])) f [] []:=Zn.start;have gD:∀i:Nat,i<rc.length->rc.getD i 0∈rc:=λi hi=>by
   rw[show rc.getD i 0=rc[i] by simp[hi]];exact cU hi
  have Y6:∀i,(eN sp 0 (rc.take i)).length<=1000*rc.length:=λi=>UQ s0' (λc Co=>by have:=hc c Co;lia) i
  have Y7:∀i,i<=rc.length->(((List.range i).flatMap (fU rc sp)).filter λc => !decide (c∈bz)).length<=64*60:=λi hi=>by
   refine dQ (pI _ _) ?_;rw[Jt,jF];by_cases h0:rc.length=0
   ·rw[show i=0 by lia];lia
   ·have:=hc _ (gD 0 ∅)
    exact Nat.mul_le_mul ∅ ∅
  refine UT rc.length (λi σ H'=>∃x5 x6 ts ie,σ = [some (.ref ca),some (.int sp),some (.ref ba),some (.ref l),some (.ref f),x5,x6,none,none]/\aq H H'/\Zn H' l ts (eN sp 0 (rc.take i))/\Zn H' f ie (((List.range i).flatMap (fU rc sp)).filter λc => !decide (c∈bz))) (λQ q=>?_) ∅ ⟨none,none,[],[],rfl,s0,eL,hf0⟩ ?_ ?_
  ·walk_at "rdm";refine⟨_,.inl (aE.of (s0 _ _ pq)),?_⟩;rw[aK];exact q
  ·rintro i σ H' N hN hi ⟨x5,x6,ts,ie,rfl,s',hz,hf⟩;have AY:=hc _ (gD i hi);walk_at "rdm";refine u_ (rc.getD i 0) (λj σ H2=>∃x6 ts ie,σ = [some (.ref ca),some (.int sp),some (.ref ba),some (.ref l),some (.ref f),some (.int (i:Int)),x6,none,none]/\aq H H2/\Zn H2 l ts (eN sp 0 (rc.take i)++oW i (rc.getD i 0 - sp).toNat j)/\Zn H2 f ie ((((List.range i).flatMap (fU rc sp)).filter λc => !decide (c∈bz))++nq bz i (rc.getD i 0 - sp).toNat j)/\j<=60) (λQ q=>?_) ∅ ∅ ⟨x6,ts,ie,rfl,s',by rw[oW,pF];exact hz,by rw[nq,pF];exact hf,∅⟩ ?_ ?_
   ·walk_at "rdm";exact⟨_,aE.of (s' _ _ pq),_,i9 ∅ ∅,q⟩
   ·rintro j σ H2 N2 lZ hj ⟨x6,ts,ie,rfl,s2,e7,iU,j60⟩;walk_at "rdm";have alz:=s2 _ _ pq;have jP:=hb.same s2;have lA:=agm i (rc.getD i 0 - sp).toNat j;have lB:=agn bz i (rc.getD i 0 - sp).toNat j;have f1:=Y6 i;have f2:=Y7 i ∅
    refine⟨_,aE.of alz,_,i9 ∅ ∅,_,rfl,dX (λh1=>?_) λh1=>?_⟩
    ·have vH:j<(rc.getD i 0 - sp).toNat:=by
      have h1:(j:Int)<rc.getD i 0 - sp:=h1;lia
     refine⟨⟨_,e7.sq⟩,λp np=>⟨_,aq.put np _ _ e7.l,by rw[aK,e7.n,fE];lia,lZ _ _ ⟨_,ts++[p],ie,rfl,aq.put2 (s2.trans (aq.put np)) nl,?_,?_,∅⟩⟩⟩
     ·rw[oW,if_pos vH,← qD];exact e7.snoc np _ _
     ·rw[nq,if_pos vH];exact(iU.same (aq.put np)).iK (aq.put np _ _ e7.l) fl.symm
    ·have vH:¬ j<(rc.getD i 0 - sp).toNat:=by
      have h1:¬ (j:Int)<rc.getD i 0 - sp:=h1;lia
     intro p np;have jV:=aq.put (o:=.tup [V.int (i:Int),V.int (j:Int)]) np;have gS:=jP.same jV;have em:[(i:Int),(j:Int)]∈(zU gm bz).map (·.2)↔((i:Int),(j:Int))∈bz:=by rw[Af gS.n];exact DQ (c:=((i:Int),(j:Int)))
     refine⟨[(i:Int),(j:Int)],rfl,zU gm bz,by rw[xG gS.n];exact gS.sq,gS.us,dX (λhm=>⟨⟨_,(iU.same jV).sq⟩,λp1 e8=>?_⟩) λhm=>?_⟩
     ·have jO:((i:Int),(j:Int))∉bz:=λz=>hm (em.mpr z);refine⟨_,aq.put e8 _ _ (jV _ _ iU.l),by rw[aK,iU.n,fE];lia,lZ _ _ ⟨_,ts,ie++[p1],rfl,aq.put2 ((s2.trans jV).trans (aq.put e8)) Y5,?_,?_,∅⟩⟩
      ·rw[oW,if_neg vH];exact((e7.same jV).same (aq.put e8)).iK (aq.put e8 _ _ (jV _ _ iU.l)) fl
      ·rw[nq,if_neg vH,if_neg jO,← qD];exact(iU.same jV).snoc e8 _ _
     ·have jO:((i:Int),(j:Int))∈bz:=em.mp (vU.mp hm);refine lZ _ _ ⟨_,ts,ie,rfl,s2.trans jV,?_,?_,∅⟩
      ·rw[oW,if_neg vH];exact e7.same jV
      ·rw[nq,if_neg vH,if_pos jO];exact iU.same jV
   ·rintro σ H2 ⟨x6,ts,ie,rfl,s2,e7,iU,j60⟩;refine hN _ _ ⟨_,_,ts,ie,rfl,s2,?_,?_⟩
    ·rw[ae7 hi];rw[JE,GH ∅] at e7
     exact e7
    ·rw[n_,Gs,qE,List.flatMap_singleton];rw[JF] at iU;have e:((List.range ((rc.getD i 0).toNat - (rc.getD i 0 - sp).toNat)).map λ(k:Nat)=>((i:Int),(((rc.getD i 0 - sp).toNat:Nat):Int)+(k:Int)))=fU rc sp i:=by
      unfold fU;rw[show (rc.getD i 0).toNat - (rc.getD i 0 - sp).toNat=sp.toNat by lia,nY ∅]
     rw[e] at iU;exact iU
  ·rintro σ H' ⟨x5,x6,ts,ie,rfl,s',hz,hf⟩;rw[eG] at hz;walk_at "rdm";have hz:Zn H' l ts (cL rc sp):=hz;have f2:=Y7 rc.length (bu _);have hlen:=hL.len;have zl:(cL rc sp).length<=1000*64:=by
    have:=Y6 rc.length;rw[eG] at this;have e:(cL rc sp).length<=1000*rc.length:=this;lia
   refine UT (cL rc sp).length (λi σ H2=>∃x5 x6 x7 x8 ts ie fs k,σ = [some (.ref ca),some (.int sp),some (.ref ba),some (.ref l),some (.ref f),x5,x6,x7,x8]/\aq H H2/\Zn H2 l ts (jd (cL rc sp) (ms.take k))/\Zn H2 f ie fs/\rD rc sp (bz++(ms.take k).map λm=>m.2.2) fs/\k=(((cL rc sp).take i).filter λc=>decide (c∈bz)).length/\fs.length<=64*60) (λQ q=>?_) ∅ ⟨x5,x6,none,none,ts,ie,_,0,rfl,s',hz,hf,by simpa using rD.start rc sp bz,rfl,f2⟩ ?_ ?_
   ·walk_at "rdm";refine⟨_,.inl hz.sq,?_⟩;rw[aK,hz.n];exact q
   ·rintro i σ H2 N hN hi ⟨x5,x6,x7,x8,ts,ie,fs,k,rfl,s2,e7,iU,F,hk,Y8⟩;obtain⟨g1,g2,g3⟩:=agj hlen (λk m e=>(hL.at k m e).1) hi hk;have gY:=agk hi hk (bz:=bz);have vI:∃t,ts[i]? = some t:=⟨ts[i]'(by rw[e7.n,xF];exact hi),bx _⟩
    obtain⟨t,vI⟩:=vI;have Y9:=e7.t i t _ vI g1;have jP:=hb.same s2;have Y_:dP (ts.map V.ref) (i:Int)=some (.ref t):=gT (by rw[gR,vI];rfl)
    walk_at "rdm";have em:[((cL rc sp)[i]).1,((cL rc sp)[i]).2]∈(zU gm bz).map (·.2)↔(cL rc sp)[i]∈bz:=by rw[Af jP.n];exact DQ (c:=(cL rc sp)[i])
    refine⟨_,e7.sq,_,Y_,t,rfl,[((cL rc sp)[i]).1,((cL rc sp)[i]).2],Y9,zU gm bz,by rw[xG jP.n];exact jP.sq,jP.us,dX (λhm=>?_) λhm=>?_⟩
    ·have jO:=em.mp hm;rw[if_pos jO] at gY;obtain⟨xM,ek⟩:=g3 jO;obtain⟨_,e2,is,ord,ff⟩:=hL.at k ms[k] (bx xM);rw[ek,bx hi] at e2;have e2:=(dD e2).symm;rw[e2] at ord;generalize (cL rc sp)[i] = ci at *
     intro N1 k1;refine⟨_,e7.sq,_,Y_,t,rfl,_,aY.of Y9,_,rfl,k1 _ _ ?_⟩;walk_at "rdm";intro N2 k2;refine p8 f (ie.map V.ref) (λD j ys aA H3=>∃(u:Option V) (gs:Us),ys=uV gs/\aA = [u,some (.int ci.1)]/\aq H2 H3/\H2 D=none/\rC H3 gs/\gs.map (·.2)=(fs.take j).map (λc=>iO c ci.1)/\H3 D=some (.lst ys)) (λQ q=>q) iU.sq ?_ ?_ ?_ ?_
     ·intro D hD;exact⟨none,[],rfl,rfl,aq.put hD,hD,(λ_ h=>nomatch h),by simp,aD⟩
     ·rintro D j ys aA H3 ⟨u,gs,rfl,rfl,h1,h2,h3,h4,h5⟩;refine⟨h5,?_,(iU.same h1).sq⟩;have:=gh List.length h4;rw[aK,aK,fc] at this;rw[DO,mT];lia
     ·rintro D j v ys aA H3 N2 lZ hx ⟨u,gs,rfl,rfl,h1,h2,h3,h4,h5⟩;obtain⟨t',q',rfl,hq,jE⟩:=(iU.same h1).at hx;walk_at "rdm";refine⟨_,aY.of jE,_,rfl,_,rfl,_,aY.of jE,_,rfl,_,aY.of jE,_,rfl,λp np=>?_⟩;have ea:(if q'.1 - ci.1<0 then -(q'.1 - ci.1) else q'.1 - ci.1)=((q'.1 - ci.1).natAbs:Int):=by split <;> lia
      rw[ea];refine⟨aq.put np _ _ h5,lZ _ _ _ ⟨_,gs++[(p,iO q' ci.1)],by simp[uV],rfl,aq.put2 (h1.trans (aq.put np)) h2,h2,?_,?_,by simp[uV,aD]⟩⟩
      ·intro y hy;have nD:∀ {b:Addr} {xs:List V},upd H3 p (.tup ((iO q' ci.1).map V.int)) b=some (.tup xs)->b≠D:=λe z=>by
        rw[z,aq.put np _ _ h5] at e;cases e
       rcases cF.mp hy with hy | hy
       ·have:=aq.put (o:=.tup ((iO q' ci.1).map V.int)) np _ _ (h3 y hy);exact(aB (nD this)).trans this
       ·rw[cj.mp hy];have:upd H3 p (.tup ((iO q' ci.1).map V.int)) p=some (.tup ((iO q' ci.1).map V.int)):=aD;exact(aB (nD this)).trans this
      ·rw[take_succ_get hq,bO,bO,h4];rfl
     ·rintro D ys aA H3 ⟨u,gs,rfl,rfl,h1,h2,h3,h4,h5⟩;rw[aK,iU.n,eG] at h4;have om:=afl F ord ff;have alA:gs.length=fs.length:=by have:=gh List.length h4;simpa using this
      refine⟨D,rfl,gs,aE.of h5,h3,by rw[alA];exact GA om,λb Za least=>?_⟩
      have alB:b.2∈fs.map (λc=>iO c ci.1):=by rw[← h4];exact l_ Za
      obtain⟨c,iB,qR⟩:=cH.mp alB;have ce:c=ms[k].2.2:=afk F ord n64 ff iB λy hy z=>by
       have:iO y ci.1∈gs.map (·.2):=by rw[h4];exact l_ hy
       obtain⟨g,hg,eg⟩:=cH.mp this;exact least g hg (by rw[eg,← qR];exact z)
      have EZ:=h3 b Za;rw[← qR] at EZ;subst ce;refine k2 _ _ ?_;walk_at "rdm";intro N3 k3;have Zb:wQ (List.map V.int (iO ms[k].2.2 ci.1)) (some 1) none = [.int ms[k].2.2.1,.int ms[k].2.2.2]:=rfl;have side:¬(_H.cE (List.map V.int (iO ms[k].2.2 ci.1)).length 0 (some 1)=0/\_H.cE (List.map V.int (iO ms[k].2.2 ci.1)).length (List.map V.int (iO ms[k].2.2 ci.1)).length none=(List.map V.int (iO ms[k].2.2 ci.1)).length):=by
       change ¬(_H.cE 3 0 (some 1)=0/\_H.cE 3 3 none=3);decide
      refine⟨_,aY.of EZ,side,λp np=>?_⟩;rw[Zb];have sP:=aq.put (o:=.tup [.int ms[k].2.2.1,.int ms[k].2.2.2]) np;have AZ:=(e7.same h1).same sP;have hf3:=(iU.same h1).same sP;refine⟨_,AZ.l,i,VH (by rw[aK,AZ.n,xF];exact hi),k3 _ _ ?_⟩
      walk_at "rdm";have A2:Zn (upd (upd H3 p (.tup [.int ms[k].2.2.1,.int ms[k].2.2.2])) l (.lst ((ts.map V.ref).set i (V.ref p)))) l (ts.set i p) (jd (cL rc sp) (ms.take (k+1))):=by
       rw[take_succ_get (bx xM),VI,ek,← List.map_set];exact AZ.setAt aD
      have Zc:=hf3.iK (ys:=(ts.map V.ref).set i (V.ref p)) AZ.l fl.symm;have hb4:upd (upd H3 p (.tup [.int ms[k].2.2.1,.int ms[k].2.2.2])) l (.lst ((ts.map V.ref).set i (V.ref p))) b.fst=some (.tup (List.map V.int (iO ms[k].2.2 ci.1))) :=
       (aB (λz=>by have:=sP _ _ EZ;rw[z,AZ.l] at this;cases this)).trans (sP _ _ EZ)
      refine⟨⟨_,Zc.sq⟩,_,aY.of hb4,side,λp1 e8=>?_⟩;rw[Zb];have sQ:=aq.put (o:=.tup [.int ms[k].2.2.1,.int ms[k].2.2.2]) e8;have vJ:=Zc.same sQ;refine⟨zU ie fs,by rw[xG vJ.n];exact vJ.l,vJ.us,[ms[k].2.2.1,ms[k].2.2.2],rfl,by rw[Af vJ.n];exact DQ.mpr om,λj hj ej _=>?_⟩
      have oO:j<fs.length:=by rw[afm vJ.n] at hj;exact hj
      rw[afn hj oO] at ej;simp only[List.cons.injEq,and_true] at ej;have eo:fs[j] = ms[k].2.2:=uy ej.1 ej.2;have F':=F.step oO;rw[eo,qD] at F';refine hN _ _ ⟨_,_,_,_,ts.set i p,ie.eraseIdx j,fs.eraseIdx j,k+1,rfl,aq.put2 ((aq.put2 ((s2.trans h1).trans sP) nl).trans sQ) Y5,(A2.same sQ).iK vJ.l fl,vJ.drop j,?_,gY,?_⟩
      ·rw[take_succ_get (bx xM),bO];exact F'
      ·have:=List.length_eraseIdx_le fs j;lia
    ·have jO:(cL rc sp)[i]∉bz:=λz=>hm (em.mpr z);rw[if_neg jO] at gY;exact hN _ _ ⟨_,_,_,_,ts,ie,fs,k,rfl,s2,e7,iU,F,gY,Y8⟩
   ·rintro σ H2 ⟨x5,x6,x7,x8,ts,ie,fs,k,rfl,s2,e7,iU,F,hk,Y8⟩;rw[agl hlen hk] at e7;walk_at "rdm";exact q l ts H2 s2 nl e7
theorem alC:bg P w K mg base bw 1 A.Ol A.Om ["_law_row_here", "_law_taken", "_law_k"] (ahh K):=by
 refine T.Yq.ok x_ (λvs H Q E h=>?_) (λaQ Ar outer s H vs Q E hr h=>?_)
 ·obtain⟨l,ta,ts,qs,bs,k,q0,rfl,_⟩:=h
  rfl
 ·obtain⟨l,ta,ts,qs,bs,k,q0,rfl,hl,Zd,hb,bn,hk,q⟩:=h;have hn:=hl.n;have tX:k<qs.length:=(fD.mp hk).1;have A3:ts[k]? = some ts[k]:=bx ∅
  obtain⟨m,b,rW⟩:=hl.t k _ q0 A3 hk;have ak:dP (ts.map V.ref) (k:Int)=some (.ref ts[k]):=gT (by rw[gR,A3];rfl)
  have bk:∀j:Nat,j<qs.length->dP (bs.map V.int) (j:Int)=some (.int (bs.getD j 0)):=λj hj=>gT (by rw[gR,sY bs ∅];rfl)
  refine⟨_,(aC (aX (i:=3) x_.nd rfl OL_ az)
   (aC (aX (i:=4) x_.nd rfl OL_ az)
   (aC (dU dF rfl (j5 rfl T.gu (ao (bY fL rfl T.dB dN (ao (ah 0) au)) au)) (br (i:=5) x_.nd rfl OL_)
   (aI (d8 (ab0 SN gF (aZ lM (aZ c8 (ah 0) (ah 2) (λ_ _=>rfl)) az (λ_ _=>rfl)) (aZ c8 (ah 1) (ah 5) (λ_ _=>rfl)) (aZ c8 (ah 1) (ah 2) (λ_ _=>rfl))) (aI (d8 (c7 sU (aZ lM (aZ c8 (ah 0) (ah 5) (λ_ _=>rfl)) az (λ_ _=>rfl)) (aZ lM (aZ c8 (ah 0) (ah 2) (λ_ _=>rfl)) az (λ_ _=>rfl)) (bG _)) (aI (aX (i:=4) x_.nd rfl OL_ (aN eF (ah 4) az))) (aI (jC (eV gF (ah 5) (ah 2) (bG _)) (aI (aX (i:=3) x_.nd rfl OL_ (aN eF (ah 3) az))) cC)))) cC)))
   (aI (bJ (dO (ao (ah 3) (ao (ah 4) au)))))))),?_⟩
  walk_at "rdm";refine u_ (qs.length:Int) (λj σ H'=>∃(y:Option V),σ = [some (.ref l),some (.ref ta),some (.int (k:Int)),some (.int ((AB qs bs k q0 (bs.getD k 0) j).length:Int)),some (.int ((AA qs bs q0 (bs.getD k 0) j).length:Int)),y]/\H' = H) (λQ q=>?_) ∅ ∅ ⟨none,rfl,rfl⟩ ?_ ?_
  ·walk_at "rdm";exact⟨_,.inl (aE.of hl.l),by rw[aK,hn];exact q⟩
  ·rintro j σ H' N hN hj ⟨y,rfl,rfl⟩;have O6:j<qs.length:=by lia
   have Ze:ts[j]? = some ts[j]:=bx ∅
   obtain⟨mj,bj,hj0⟩:=hl.t j _ _ Ze (bx O6);have aj:dP (ts.map V.ref) (j:Int)=some (.ref ts[j]):=gT (by rw[gR,Ze];rfl)
   have gj:qs.getD j q0=qs[j]:=by rw[qG,bx O6];rfl
   have so:=ahw (qs:=qs) (bs:=bs) (q:=q0) (b:=bs.getD k 0) (n:=j);have sw:=ahx (qs:=qs) (bs:=bs) (k:=k) (q:=q0) (b:=bs.getD k 0) (n:=j);rw[gj] at so sw;have fin:∀(w1 o1:Int),w1=((AB qs bs k q0 (bs.getD k 0) (j+1)).length:Int)->o1=((AA qs bs q0 (bs.getD k 0) (j+1)).length:Int)->N [some (V.ref l),some (V.ref ta),some (V.int (k:Int)),some (V.int w1),some (V.int o1),some (V.int (j:Int))] H':=λw1 o1 e1 e2=>by subst e1 e2;exact hN _ _ ⟨_,rfl,rfl⟩
   have kl:=aE.of (K:=K) hl.l;have kb:=aE.of (K:=K) hb;walk_at "rdm";refine⟨_,kl,_,ak,_,rfl,_,aY.of rW.o,_,rfl,_,kb,_,bk j O6,_,rfl,_,rfl,dX (λh1=>⟨_,kb,_,bk k tX,_,rfl,_,rfl,dX (λh2=>⟨_,kl,_,aj,_,rfl,_,aY.of hj0.o,_,rfl,_,kl,_,ak,_,rfl,_,aY.of rW.o,_,rfl,?_⟩) λh2=>fin _ _ ?_ ?_⟩) λh1=>fin _ _ ?_ ?_⟩
   ·refine⟨rfl,dX (λh3=>fin _ _ ?_ ?_) λh3=>dX (λh4=>fin _ _ ?_ ?_) λh4=>fin _ _ ?_ ?_⟩
    ·rw[sw,if_neg (λz=>h3 (by rw[z.1.2]))];rfl
    ·rw[so,if_pos ⟨⟨h1,h2⟩,λz=>h3 (by rw[z])⟩];rfl
    ·rw[sw,if_pos ⟨⟨⟨h1,h2⟩,V.int.inj (vU.mp h3)⟩,∅⟩];rfl
    ·rw[so,if_neg (λz=>z.2 (V.int.inj (vU.mp h3)))];rfl
    ·rw[sw,if_neg (λz=>h4 (by have:=z.2;lia))];rfl
    ·rw[so,if_neg (λz=>z.2 (V.int.inj (vU.mp h3)))];rfl
   ·rw[sw,if_neg (λz=>h2 z.1.1.2)];rfl
   ·rw[so,if_neg (λz=>h2 z.1.2)];rfl
   ·rw[sw,if_neg (λz=>h1 z.1.1.1)];rfl
   ·rw[so,if_neg (λz=>h1 z.1.1)];rfl
  ·rintro σ H' ⟨y,rfl,rfl⟩;walk_at "rdm";intro p np;rw[yF];exact q p _ (aq.put np) aD
theorem alD:bg P w K mg base bw 1 A.Oo A.Oq ["_law_row_here"] (ahg K):=by
 refine T.Yr.ok aia (λvs H Q E h=>?_) (λaQ Ar outer s H vs Q E hr h=>?_)
 ·obtain⟨l,ts,qs,rfl,_⟩:=h
  rfl
 ·obtain⟨l,ts,qs,rfl,hl,Zd,q⟩:=h;have hn:=hl.n;refine⟨_,(aI (bJ (ku (N:=["_law_ask_here"]) (nt:=1) (fv:=[]) ‹eE.of› rfl (gM (ah 0)) (λC s H fp=>(br (i:=0) (show List.Nodup (["_law_ask_here"]:List Str) by decide +kernel) rfl OL_)) (λC s H fp=>(wV (c7 sU (aZ (qt (K:=K) rfl) (ah 0) az (λ_ _=>rfl)) dh (bG _)))) (λC s H fp=>(dO (ao dh (ao (aZ (qt (K:=K) rfl) (ah 0) az (λ_ _=>rfl)) (ao (aZ (qt (K:=K) rfl) (ah 0) az (λ_ _=>rfl)) (ao (dO au) (ao (aZ (qt (K:=K) rfl) (ah 0) az (λ_ _=>rfl)) (ao (aZ (qt (K:=K) rfl) (ah 0) az (λ_ _=>rfl)) (ao (aZ (qt (K:=K) rfl) (ah 0) az (λ_ _=>rfl)) (ao (dO au) (ao mD au)))))))))))))),?_⟩
  walk_at "rdm";refine p8 l (ts.map V.ref) (λD k ys aA H2=>∃(u:Option V) (as:List Addr),ys=as.map V.ref/\aA = [u]/\aq H H2/\H D=none/\iz H2 D as (lC (qs.take k))) (λQ q=>q) (aE.of hl.l) ?_ ?_ ?_ ?_
  ·intro D hD;exact⟨none,[],rfl,rfl,aq.put hD,hD,iz.start⟩
  ·rintro D k ys aA H2 ⟨u,as,rfl,rfl,e2,e3,e4⟩;have:=W8 (qs.take k);rw[fc] at this;exact⟨e4.l,jr (by rw[aK,e4.n];lia),aE.of (e2 _ _ hl.l)⟩
  ·rintro D k x ys aA H2 N hN hx ⟨u,as,rfl,rfl,e2,e3,e4⟩;obtain⟨t,ht,rfl⟩:=iL hx;have hk:k<qs.length:=by rw[← hn];exact gH ht
   obtain⟨m,b,rW⟩:=(hl.same e2).t k t qs[k] ht (bx hk);have st:=ahv hk;have ko:=aY.of (K:=K) rW.o;walk_at "rdm";refine⟨_,ko,_,rfl,rfl,dX (λhq=>⟨_,ko,_,rfl,_,ko,_,rfl,λp1 n1=>?_⟩) λhq=>?_⟩
   ·have s1:=aq.put (o:=.tup []) n1;have O7:=aY.of (K:=K) (s1 _ _ rW.o);have m1:upd H2 p1 (.tup []) p1=some (.tup []):=aD;refine⟨_,O7,_,rfl,_,O7,_,rfl,_,O7,_,rfl,λp2 n2 p3 n3=>?_⟩;rw[if_pos (show qs[k].kind≠("rest" : Str) from λz=>hq (by rw[z]))] at st
    have s2:=aq.put (o:=.tup []) n2;have m2:upd (upd H2 p1 (.tup [])) p2 (.tup []) p2=some (.tup []):=aD;generalize upd (upd H2 p1 (.tup [])) p2 (.tup [])=H3 at s2 m2 n3 ⊢;have s3:=aq.put (o:=.tup [V.str ("read" : Str),V.int qs[k].first,V.int qs[k].many,V.ref p1,V.int qs[k].at_,V.int qs[k].bB,mW qs[k].oM,V.ref p2,V.bl false]) n3;have sA:=(s1.trans s2).trans s3;have hk3:ni (upd H3 p3 (.tup [V.str ("read" : Str),V.int qs[k].first,V.int qs[k].many,V.ref p1,V.int qs[k].at_,V.int qs[k].bB,mW qs[k].oM,V.ref p2,V.bl false])) p3 (xU qs[k]) p1 p2:=⟨aD,s3 _ _ (s2 _ _ m1),s3 _ _ m2⟩;have e5:=(e4.same sA).snoc hk3;refine⟨(e4.same sA).l,hN _ _ _ ⟨_,as++[p3],by rw[bO];rfl,rfl,aq.put2 (e2.trans sA) e3,e3,?_⟩⟩
    rw[st];exact e5
   ·rw[if_neg (λz:qs[k].kind≠("rest" : Str)=>hq λy=>z (V.str.inj y))] at st;refine hN _ _ _ ⟨_,as,rfl,rfl,e2,e3,?_⟩;rw[st];exact e4
  ·rintro D ys aA H2 ⟨u,as,rfl,rfl,e2,e3,e4⟩;rw[aK,hn,eG] at e4;exact q D as H2 e2 e3 e4
theorem alE:bg P w K mg base bw 2 A.LO A.LQ ["behind"] (ad6 K):=by
 refine T.Xn.ok Ej (λvs H Q E h=>?_) (λaQ Ar outer s H vs Q E hr h=>?_)
 ·obtain⟨b,ns,rfl,_⟩:=h
  rfl
 ·obtain⟨b,ns,rfl,hS,hR,q⟩:=h;refine⟨_,(aC (aX (i:=1) Ej.nd rfl OL_ (zh zm az))
   (aI (dU dF rfl (Cz (ah 0)) (br (i:=2) Ej.nd rfl OL_)
   (aC (cY (aP (tW T aH) (hr.mono ⋯) rfl T.tO T.rS.kp T.tN .nil aJ (ao (ah 2) (ao (aN eF (ah 1) az) (ao (i6 (v:=.int 99) rfl T.akP ⟨_,rfl⟩) (ao dh au))))))
   (aI (aX (i:=1) Ej.nd rfl OL_ (ah 2))))))),?_⟩
  walk_at "rdm";refine rt b (ns.map V.int) (λi σ H'=>∃x,σ = [some (.ref b),some (.int (zW (-1) ns i)),x]/\H' = H) (λQ q=>q) hS ⟨none,rfl,rfl⟩ (by rintro i σ H' _ ⟨x,rfl,rfl⟩;exact hS) ?_ ?_
  ·rintro i x σ H' N hN hx ⟨x0,rfl,rfl⟩;obtain⟨n,hn,rfl⟩:=iL hx;have st:=hR.step hn;walk_at "rdm";exact⟨n,_,99,_,rfl,st.1,st.2,hN _ _ ⟨some (.int n),by rw[ad4 hn],rfl⟩⟩
  ·rintro σ H' ⟨x0,rfl,rfl⟩;walk_at "rdm";exact q
theorem alF:bg P w K mg base bw 2 A.L6 A.L8 ["plate", "ask"] (afv K [A.bH,A.bE] A.bI):=by
 refine T.Xx.ok ahN (λvs H Q E h=>?_) (λaQ Ar outer s H vs Q E hr h=>?_)
 ·obtain⟨C,p,ap,P,fp,q',m,b,dx,rfl,_⟩:=h
  rfl
 ·obtain⟨C,p,ap,P,fp,q',m,b,dx,rfl,hC,hP,ha,hf,hn,q⟩:=h;refine⟨_,(aI (bJ (ku (N:=["number", "plate"]) (nt:=1) (fv:=[0]) ‹eE.of› rfl (wK rfl T.gu (ao (bT (ah 1) rfl) (ao (aN eF (bT (ah 1) rfl) (bT (ah 1) rfl)) au))) (λC s H fp=>(br (i:=0) (show List.Nodup (["number", "plate"]:List Str) by decide +kernel) rfl OL_)) (λC s H fp=>kq) (λC s H fp=>(xg (ah 1) T.ak7 (alp T aH) (hr.mono ⋯) T.ajA .nil aJ (ao (ah 0) au)))))),?_⟩
  wp_walk using T,ha.o;obtain⟨f0,m0,m1,fit⟩:=hf;refine adq q'.first (q'.first+q'.many) (λD i ys aA H2=>∃(u:Option V) (ts:List Addr),aA = [u,some (.ref p)]/\ys=ts.map V.ref/\Zn H2 D ts ((P.nc.drop q'.first.toNat).take i)/\aq H H2/\H D=none/\i<=16) (λQ q=>?_) ∅ ∅ ∅ ∅ ?_ ?_ ?_ ?_
  ·wp_walk using T,ha.o
   try exact q
  ·intro D hD;exact⟨none,[],rfl,rfl,by rw[List.take_zero];exact Zn.start,aq.put hD,hD,∅⟩
  ·rintro D i ys aA H2 ⟨u,ts,rfl,rfl,g2,g3,g4,g5⟩;exact⟨g2.l,jr (by rw[aK,g2.n,fc];lia)⟩
  ·rintro D i ys aA H2 N hN hi ⟨u,ts,rfl,rfl,g2,g3,g4,g5⟩;walk_at "rdm";obtain⟨dxp,a1,a2,a3,a4,xP,fs,E1,hA⟩:=hP.same g3;refine⟨C,dxp,fs,hA.o,hC,hA.m9,⟨C,p,P,fp,_,rfl,hP.same g3,∅,∅,λt q0 eq ht=>⟨g2.l,hN _ _ _ ⟨_,ts++[t],rfl,by rw[bO];rfl,?_,aq.put2 g3 g4,g4,∅⟩⟩⟩⟩
   rw[afu f0 eq];exact g2.push ht
  ·rintro D ys aA H2 ⟨u,ts,rfl,rfl,g2,g3,g4,g5⟩;rw[show (q'.first+q'.many - q'.first).toNat=q'.many.toNat by lia] at g2
   exact q _ _ _ g3 g4 g2
theorem alG:bg P w K mg base bw 2 A.Mi A.Mj ["asks", "number"] (aet K A.bI):=by
 refine T.XD.ok Xi (λvs H Q E h=>?_) (λaQ Ar outer s H vs Q E hr h=>?_)
 ·obtain⟨la,ps,qs,k,q',rfl,_⟩:=h
  rfl
 ·obtain⟨la,ps,qs,k,q',rfl,ha,hk,hn,bl,q⟩:=h;refine⟨_,(aC (aX (i:=2) Xi.nd rfl (Or.inr rfl) (aZ c8 (ah 0) (ah 1) (λ_ _=>rfl)))
   (aI (bJ (pX zA rfl T.vD yM (ao (ku (N:=["other", "ask", "asks"]) (nt:=1) (fv:=[2,0]) ‹eE.of› rfl (j5 rfl T.gu (ao (ah 1) au)) (λC s H fp=>(br (i:=0) (show List.Nodup (["other", "ask", "asks"]:List Str) by decide +kernel) rfl OL_)) (λC s H fp=>(wV (PW.pt (iu (c7 (aec (K:=K) rfl) (ah 0) (aeo (K:=K) rfl (ah 1) rfl) rfl) (ir (Cr (aP (ak8 T aH) (hr.mono ⋯) rfl T.aim T.Xw.kp T.ail .nil aJ (ao (ah 1) (ao (aZ (Xe (K:=K) rfl) (ah 2) (ah 0) (λ_ _=>rfl)) au))))))))) (λC s H fp=>(ah 0))) au))))),?_⟩
  walk_at "rdt";obtain⟨p,m,b,dx,e1,a1⟩:=ha.at hk;have tX:=(fD.mp hk).1;refine⟨_,aE.of ha.l,_,gT e1,?_⟩;obtain⟨pf,epf,hpf⟩:∃pf:Nat->Bool,Dv qs k=((List.range k).filter pf).map (λ(j:Nat)=>(j:Int))/\∀(j:Nat) (q0:Ak),qs[j]? = some q0->pf j=(decide ((j:Int)∈q'.behind) || xm q' q0):=⟨_,rfl,λj q0 e=>by rw[hk,e]⟩
  have lfl:∀i,((List.range i).filter pf).length<=i:=λi=>by have:=pI pf (List.range i);simpa using this
  refine xh (k:Int) (λD i ys aA H2=>∃(u:Option V),ys=((List.range i).filter pf).map (λ(j:Nat)=>V.int (j:Int))/\aA = [u,some (.ref p),some (.ref la)]/\H2=upd H D (.lst ys)/\H D=none/\i<=k) (λQ q=>?_) ∅ ∅ ?_ ?_ ?_ ?_
  ·walk_at "rdm";exact q
  ·intro D hD;exact⟨none,rfl,rfl,rfl,hD,eX _⟩
  ·rintro D i ys aA H2 ⟨u,rfl,rfl,rfl,g3,g4⟩;exact⟨aD,jr (by rw[aK];have:=lfl i;lia)⟩
  ·rintro D i ys aA H2 N hN hi ⟨u,rfl,rfl,rfl,g3,g4⟩;have gG:i<k:=by simpa using hi
   have Zf:i<qs.length:=by lia
   have s1:=aq.put (o:=HO.lst (((List.range i).filter pf).map (λ(j:Nat)=>V.int (j:Int)))) g3;have qx:=ha.same s1;have O8:=a1.same s1;obtain⟨p0,m0,b0,YS,e3,a2⟩:=qx.at (bx Zf);have O9:=hpf i _ (bx Zf);have yes:pf i=true->((List.range i).filter pf).map (λ(j:Nat)=>V.int (j:Int))++[V.int (i:Int)] = ((List.range (i+1)).filter pf).map (λ(j:Nat)=>V.int (j:Int)):=λz=>by
    rw[n_,qE,bO,show List.filter pf [i] = [i] by simp[z]];rfl
   have no:pf i=false->((List.range i).filter pf).map (λ(j:Nat)=>V.int (j:Int))=((List.range (i+1)).filter pf).map (λ(j:Nat)=>V.int (j:Int)):=λz=>by
    rw[n_,qE,show List.filter pf [i] = [] by simp[z],pF]
   walk_at "rdm";refine⟨_,_,_,O8.o,T.yc,T.ES,_,rfl,_,rfl,_,.inr (aY.of O8.bh),rfl,IP _,?_⟩;rw[IM];refine dX (λh1=>?_) (λh1=>⟨_,aE.of qx.l,_,gT e3,_,_,_,_,_,_,_,_,_,_,rfl,O8,a2,_,rfl,dX (λh2=>⟨aD,?_⟩) (λh2=>?_)⟩)
   ·have z:pf i=true:=by rw[O9,h1];rfl
    rw[yes z];exact hN _ _ _ ⟨_,rfl,rfl,rfl,g3,∅⟩
   ·have z:pf i=true:=by rw[O9,h2,Bool.or_true]
    rw[abI,yes z];exact hN _ _ _ ⟨_,rfl,rfl,rfl,g3,∅⟩
   ·have z:pf i=false:=by
     rw[O9];cases h3:xm q' qs[i] with
     | true=>exact absurd h3 h2
     | false=>simpa using h1
    rw[no z];exact hN _ _ _ ⟨_,rfl,rfl,rfl,g3,∅⟩
  ·rintro D ys aA H2 ⟨u,rfl,rfl,rfl,g3,g4⟩;simp only[Int.toNat_natCast] at *
   walk_at "rdm";have s1:=aq.put (o:=HO.lst (((List.range k).filter pf).map (λ(j:Nat)=>V.int (j:Int)))) g3;refine⟨_,.inl ⟨aE.of aD,λl hl=>q l _ (s1.trans (aq.put hl)) (s1.free hl) ?_⟩⟩;rw[aD,epf,nZ]
   rfl
theorem alH:bg P w K mg base bw 2 A.My A.Mz ["self"] (agW K A.bQ A.bI A.cQ):=by
 refine T.aiL.ok Xk (λvs H Q E h=>?_) (λaQ Ar outer s H vs Q E hr h=>?_)
 ·obtain⟨x,dx,kp,ks,kk,p,r,b,Dx,ls,rfl,_⟩:=h
  rfl
 ·obtain⟨x,dx,kp,ks,kk,p,r,b,Dx,ls,rfl,hc,l1,hk,q⟩:=h;have hn:=hc.n;have ho:=hc.o;unfold fW at ho;refine⟨_,(aC (cY (CM (ah 0) T.tQ T.aiH (ala T aH) (hr.mono ⋯) T.aiG .nil aJ))
   (aC (Wy (wW (i:=1) Xk.nd rfl OL_ (N:=["due", "self"]) (nt:=1) (fv:=[0]) ‹eE.of› rfl (Wv (bT (ah 0) rfl)) (λC s H fp=>(br (i:=0) (show List.Nodup (["due", "self"]:List Str) by decide +kernel) rfl OL_)) (λC s H fp=>(wV (eV SN (vv (K:=K) rfl (vv (K:=K) rfl (ah 0) rfl) rfl) (vv (K:=K) rfl (ah 1) rfl) (bG _)))) (λC s H fp=>(ah 0))))
   (aI (bJ (ku (N:=["due", "self"]) (nt:=1) (fv:=[0]) ‹eE.of› rfl (gM (ah 1)) (λC s H fp=>(br (i:=0) (show List.Nodup (["due", "self"]:List Str) by decide +kernel) rfl OL_)) (λC s H fp=>(wV (Sd (Cr (zu (ah 1) T.tQ T.aiK (alb T aH) (hr.mono ⋯) T.aiJ .nil aJ (ao (vv (K:=K) rfl (ah 0) rfl) au)))))) (λC s H fp=>(ah 0))))))),?_⟩
  wp_walk using T,ho;refine⟨x,dx,kp,ks,kk,p,r,b,Dx,ls,rfl,hc,l1,λb2 H1 st s1 iB=>?_⟩;have je:=iB.o;unfold fW at je;refine Wz Dx (d7 ls) (λob D i ys aA H2=>∃(u:Option V),ys=((ls.take i).filter λy=>decide (y.1.q.at_<=b2)).map (λy=>V.ref y.2)/\aA = [u,some (.ref x)]/\H2 D=some (.lst ys)/\H2 Dx=some (.cK ob (.dK (d7 ls)))/\cy x Dx H1 H2/\H1 D=none/\H2 x=H1 x) (λQ q=>?_) iB.d hc.nf ?_ ?_ ?_ ?_
  ·wp_walk using T,je;exact q
  ·intro ob D nD;have n1:Dx≠D:=b7 iB.d nD;have n2:x≠D:=b7 iB.o nD;have n3:=iB.ne;exact⟨none,rfl,rfl,aD,by rw[aB n1,aD],(cy.of (λ_ _ e=>e)).xQ.put nD,nD,by rw[aB n2,aB n3]⟩
  ·rintro ob D i ys aA H2 ⟨u,rfl,rfl,e1,e2,e3,e4,e5⟩;have:=pI (λy:Dr×Addr=>decide (y.1.q.at_<=b2)) (ls.take i);rw[fc] at this;exact⟨e1,jr (by rw[aK];lia),e2⟩
  ·rintro ob D i y ys aA H2 N hN hy ⟨u,rfl,rfl,e1,e2,e3,e4,e5⟩;unfold d7 at hy;obtain⟨z,hz,rfl⟩:=iL hy;have hi:i<ls.length:=gH hz;have eW:z=ls[i]:=by rw[bx hi] at hz;exact(dD hz).symm
   subst eW;obtain⟨iw,ap,l,ts,m,b',dw,hD⟩:=iB.xR e3 (iB.t _ (cU hi));have jc:=hD.o;have o_:=hD.a.o;have lK:=e5.trans je;unfold qc at jc;unfold jx at o_;have n1:Dx≠D:=b7 iB.d e4;have n2:x≠D:=b7 iB.o e4;have et:=Wk (p:=λy:Dr×Addr=>decide (y.1.q.at_<=b2)) (bx hi);wp_walk using T,jc,o_,lK;refine dX (λh1=>?_) λh1=>?_
   ·refine⟨e1,hN _ _ _ ⟨_,?_,rfl,aD,by rw[aB n1];exact e2,e3.put e4,e4,by rw[aB n2];exact e5⟩⟩
    rw[et,if_pos (by simpa using h1),bO];rfl
   ·refine hN _ _ _ ⟨_,?_,rfl,e1,e2,e3,e4,e5⟩;rw[et,if_neg (by simpa using h1),pF]
  ·rintro ob D ys aA H2 ⟨u,rfl,rfl,e1,e2,e3,e4,e5⟩;have n1:Dx≠D:=b7 iB.d e4;have n3:=iB.ne;rw[As,eG] at e1;have s2:cy x Dx H1 (upd H2 Dx (.dK (d7 ls))):=e3.xQ;have l6:=iB.step s2 (.refl _) (by rw[aB n3,e5];exact iB.o) aD
   have Zg:upd H2 Dx (.dK (d7 ls)) D=some (.lst ((ls.filter λy=>decide (y.1.q.at_<=b2)).map λy=>V.ref y.2)):=by rw[aB (dR n1)];exact e1
   generalize upd H2 Dx (.dK (d7 ls))=H3 at *
   walk_at "rdt";have ql:=q b2;unfold Au at ql;have E3:∀y∈ls.filter (λy=>decide (y.1.q.at_<=b2)),y∈ls:=λy hy=>(gB.mp hy).1;have oU:=pI (λy:Dr×Addr=>decide (y.1.q.at_<=b2)) ls;generalize ls.filter (λy=>decide (y.1.q.at_<=b2))=nU at *
   refine p8 D (nU.map λy=>V.ref y.2) (λD2 i ys aA H4=>∃(u:Option V),ys=((nU.take i).filter λy => !((kk.getD y.1.n.toNat []).any (oZ ls))).map (λy=>V.ref y.2)/\aA = [u,some (.ref x)]/\H4 D2=some (.lst ys)/\aq H3 H4/\H3 D2=none) (λQ q=>q) (aE.of Zg) ?_ ?_ ?_ ?_
   ·intro D2 nD;exact⟨none,rfl,rfl,aD,aq.put nD,nD⟩
   ·rintro D2 i ys aA H4 ⟨u,rfl,rfl,g1,g2,g3⟩;have:=pI (λy:Dr×Addr => !((kk.getD y.1.n.toNat []).any (oZ ls))) (nU.take i);rw[fc] at this;exact⟨g1,jr (by rw[aK];lia),aE.of (g2 _ _ Zg)⟩
   ·rintro D2 i y ys aA H4 N hN hy ⟨u,rfl,rfl,g1,g2,g3⟩;obtain⟨z,hz,rfl⟩:=iL hy;have hi:i<nU.length:=gH hz;have eW:z=nU[i]:=by rw[bx hi] at hz;exact(dD hz).symm
    subst eW;have Zh:=E3 _ (cU hi);have vK:=l6.same g2;obtain⟨iw,ap,l,ts,m,b',dw,hD⟩:=vK.t _ Zh;obtain⟨k0,k1⟩:=vK.kn _ Zh;have jc:=hD.o;have Zi:=vK.o;unfold qc at jc;unfold fW at Zi;have et:=Wk (p:=λy:Dr×Addr => !((kk.getD y.1.n.toNat []).any (oZ ls))) (bx hi);wp_walk using T,jc,Zi;have tX:nU[i].1.n.toNat<kk.length:=by lia
    have Zj:kk[nU[i].1.n.toNat]? = some (kk.getD nU[i].1.n.toNat []):=by rw[qG,bx tX];rfl
    have en:nU[i].1.n=((nU[i].1.n.toNat:Nat):Int):=by lia
    refine⟨x,dx,kp,ks,kk,p,r,b2,Dx,ls,nU[i].1.n.toNat,_,by rw[← en],vK,Zj,hk _ (iC Zj),λH5 s5=>⟨_,rfl,dX (λh1=>?_) λh1=>?_⟩⟩
    ·refine⟨s5 _ _ g1,hN _ _ _ ⟨_,?_,rfl,aD,aq.put2 (g2.trans s5) g3,g3⟩⟩;rw[et,if_pos (by rw[h1];rfl),bO];rfl
    ·refine hN _ _ _ ⟨_,?_,rfl,s5 _ _ g1,g2.trans s5,g3⟩;rw[et,if_neg (by simpa using h1),pF]
   ·rintro D2 ys aA H4 ⟨u,rfl,rfl,g1,g2,g3⟩;have vK:=l6.same g2;rw[aK,eG] at g1;have s4:=(s1.trans s2).trans (cy.of g2);refine ql D2 H4 st s4 vK (l6.free (s1.trans s2) g3) ⟨by rw[g1,nZ];rfl,by simp,λi p' d' h1 h2=>?_⟩
    rw[gR] at h1 h2;cases e:(nU.filter λy => !((kk.getD y.1.n.toNat []).any (oZ ls)))[i]? with
    | none=>rw[e] at h1;cases h1
    | some y =>
     rw[e] at h1 h2;cases h1;cases h2;exact vK.t y (E3 y (gB.mp (iC e)).1)
theorem alI:bg P w K mg base bw 2 A.MI A.MJ ["asks", "picks"] (WI K A.bI):=by
 refine T.XJ.ok AG (λvs H Q E h=>?_) (λaQ Ar outer s H vs Q E hr h=>?_)
 ·obtain⟨la,ps,qs,pi,ns,rfl,_⟩:=h
  rfl
 ·obtain⟨la,ps,qs,pi,ns,rfl,ha,q1,hq,hp,n1,hn,q⟩:=h;have hu:=i7 hr;have an:=ha.n;refine⟨_,(aC (aX (i:=2) AG.nd rfl OL_ (aN CW (eZ (ao pR au)) (bY fL rfl T.dB dN (ao (ah 0) au))))
   (aC (aX (i:=3) AG.nd rfl (Or.inr rfl) zF)
   (aC (dU dF rfl (gM (ah 1)) (br (i:=4) AG.nd rfl OL_)
   (aC (aX (i:=5) AG.nd rfl OL_ (aZ c8 (ah 0) (ah 4) (λ_ _=>rfl)))
   (aI (d8 (c7 mH (g8 (ah 5) rfl) dh (bG _)) (aI (wI (ku (N:=["cell", "marks"]) (nt:=1) (fv:=[3]) ‹eE.of› rfl (gM (aP (alf T aH) (hr.mono ⋯) rfl T.aiW T.XI.kp T.aiV .nil aJ (ao (ah 5) au))) (λC s H fp=>(br (i:=0) (show List.Nodup (["cell", "marks"]:List Str) by decide +kernel) rfl OL_)) (λC s H fp=>kq) (λC s H fp=>(Ut hu (ah 1) (ah 0) az ⟨rfl,rfl,rfl,rfl⟩))) (Cw (ah 2) (ah 4) set_list))) fZ))))
   (aI (bJ (ah 2)))))),?_⟩
  walk_at "rdt";intro t1 m1;have s1:=aq.put (o:=.lst [V.aR]) m1;refine⟨_,.inl (aE.of (s1 _ _ ha.l)),∅,by rw[aK];lia,by rw[aK];lia,λt2 m2 t3 m3=>?_⟩
  have s2:=aq.put (o:=.lst (List.replicate (((ps.map V.ref).length:Int)).toNat [V.aR]).flatten) m2;have s3:=aq.put (o:=.dK []) m3;have h2:=s3 _ _ (aD (H:=upd H t1 (.lst [V.aR])) (a:=t2) (o:=.lst (List.replicate (((ps.map V.ref).length:Int)).toNat [V.aR]).flatten));have h3:=aD (H:=upd (upd H t1 (.lst [V.aR])) t2 (.lst (List.replicate (((ps.map V.ref).length:Int)).toNat [V.aR]).flatten)) (a:=t3) (o:=.dK []);have s:=(s1.trans s2).trans s3;have m2':=s1.free m2;have m3':=(s1.trans s2).free m3;have hl:((List.replicate (((ps.map V.ref).length:Int)).toNat [V.aR]).flatten).length=qs.length:=by simp[an]
  generalize (List.replicate (((ps.map V.ref).length:Int)).toNat [V.aR]).flatten=xs at *
  generalize upd (upd (upd H t1 (.lst [V.aR])) t2 (.lst xs)) t3 (.dK [])=H3 at *
  refine rl pi (ns.map V.int) (λi σ H'=>∃(x1 x2:Option V) (xs:List V),σ = [some (.ref la),some (.ref pi),some (.ref t2),some (.ref t3),x1,x2]/\aq H H'/\H' t2=some (.lst xs)/\xs.length=qs.length/\H' t3=some (.dK [])) (λQ q=>q) (aE.of (s _ _ hp)) ⟨none,none,xs,rfl,s,h2,hl,h3⟩ (by rintro i σ H' _ ⟨_,_,_,rfl,s',_⟩;exact aE.of (s' _ _ hp)) ?_ ?_
  ·rintro i x σ H' N hN hx ⟨x1,x2,xs,rfl,s',g2,gl,g3⟩;obtain⟨n,hni,rfl⟩:=iL hx;obtain⟨n0,n9⟩:=hn n (iC hni);have hk:n.toNat<qs.length:=by lia
   have iT:=bx hk;obtain⟨ap,m,b,dx,e1,a1⟩:=(ha.same s').at iT;obtain⟨k1,k2,k3,k4,k5⟩:=hq _ (cU hk);have a2:=a1.o;unfold jx at a2;rw[k1] at a2;have ei:dP (ps.map V.ref) n=some (.ref ap):=by have:=gT e1;rwa [show ((n.toNat:Nat):Int)=n by lia] at this
   walk_at "rdt";refine⟨_,aE.of (s' _ _ ha.l),_,ei,?_⟩;refine⟨ap,rfl,_,_,_,a2,T.yc,T.EO,_,rfl,rfl,rfl,?_⟩;refine WA ?_;walk_at "rdt";refine⟨ap,_,m,b,dx,rfl,a1,k2,k3,k4,k5,λl cs H4 s4 nl cl A4=>?_⟩;refine p8 l (cs.map V.int) (λD i ys aA H5=>∃(u:Option V),aA = [u,some (.ref t3)]/\H5 D=some (.lst ys)/\ys.length<=i/\i<=cs.length/\aq H4 H5/\H4 D=none) (λQ q=>q) (aE.of A4) ?_ ?_ ?_ ?_
   ·intro D nD;exact⟨none,rfl,aD,bu _,eX _,aq.put nD,nD⟩
   ·rintro D i ys aA H5 ⟨u,rfl,e1,e2,e3,e4,e5⟩;exact⟨e1,by rw[mT];lia,aE.of (e4 _ _ A4)⟩
   ·rintro D i y ys aA H5 N hN hy ⟨u,rfl,e1,e2,e3,e4,e5⟩;obtain⟨c,hc,rfl⟩:=iL hy;have hi:=gH hc;have g5:=e4 _ _ (s4 _ _ g3);wp_walk using T,HQ;exact⟨.inl ⟨_,.inl g5⟩,_,fO.k (k:=bN c) g5,e1,hN _ _ _ ⟨_,rfl,aD,by rw[fE,rZ];lia,∅,aq.put2 e4 e5,e5⟩⟩
   ·rintro D ys aA H5 ⟨u,rfl,e1,e2,e3,e4,e5⟩;have s5:=s4.trans e4;refine⟨xs,s5 _ _ g2,n.toNat,?_,hN _ _ ⟨_,_,_,rfl,aq.put2 (s'.trans s5) m2',aD,by rw[yG];exact gl,?_⟩⟩
    ·unfold jL;rw[if_pos n0,if_pos ∅]
    ·rw[aB (λz=>by rw[z,g2] at g3;cases g3)]
     exact s5 _ _ g3
  ·rintro σ H' ⟨x1,x2,xs,rfl,s',g2,gl,g3⟩;walk_at "rdm";exact q _ _ s'
theorem alJ:bg P w K mg base bw 2 A.MS A.MT ["swing", "rings"] (adw K):=by
 refine T.XR.ok Xl (λvs H Q E h=>?_) (λaQ Ar outer s H vs Q E hr h=>?_)
 ·obtain⟨a,sw,n,rfl,_⟩:=h
  rfl
 ·obtain⟨a,sw,n,rfl,hS,ok,hn,q⟩:=h;refine⟨_,(aC (jC (eV J8 (bY fL rfl T.dB dN (ao (ah 0) au)) (ah 1) (bG _)) fZ cC)
   (aC (d8 (c7 sU (aZ c8 (ah 0) az (λ_ _=>rfl)) az (bG _)) fZ cC)
   (aC (dU dF rfl (wK rfl T.gu (ao az (ao (ah 1) au))) (br (i:=2) Xl.nd rfl OL_)
   (aC (d8 (PW.pt (iu (c7 gF (aZ c8 (ah 0) (ah 2) (λ_ _=>rfl)) az (bG _)) (ir (c7 j7 (aZ c8 (ah 0) (ah 2) (λ_ _=>rfl)) (i6 (v:=.int 1000000000) rfl T.YO ⟨_,rfl⟩) (bG _))))) fZ cC)
   (aI (d8 (c7 gF (aZ c8 (ah 0) (ah 2) (λ_ _=>rfl)) (aZ c8 (ah 0) (aN qo (ah 2) az) (λ_ _=>rfl)) (bG _)) fZ cC))))
   (aI (cY (aP (alj T aH) (hr.mono ⋯) rfl T.ai_ T.XS.kp T.ai9 .nil aJ (ao (ah 0) au))))))),?_⟩
  walk_at "rdm";have hl:=ok.len;have h2:=ok.two;refine⟨_,.inl hS,by simpa using hl,_,hS,_,i9 ∅ ∅,rfl,by rw[show (0:Int).toNat=0 from rfl,ok.z],?_⟩
  refine zN 1 n (λi σ H'=>∃r,σ = [some (.ref a),some (.int n),r]/\H' = H) (λQ q=>?_) ∅ ∅ ∅ ∅ ⟨none,rfl,rfl⟩ ?_ ?_
  ·walk_at "rdm";exact q
  ·rintro i σ H' N hN hi ⟨r,rfl,rfl⟩;walk_at "rdm";have e1:((1:Int)+(i:Int)).toNat=1+i:=by lia
   have e2:((1:Int)+(i:Int) - 1).toNat=1+i - 1:=by lia
   have g:=ok.pos (1+i) ∅ ∅
   have g2:=ok.up (1+i) ∅ ∅
   refine⟨_,hS,_,i9 ∅ ∅,?_⟩
   walk_at "rdm";rw[e1];refine⟨∅,_,hS,_,i9 ∅ ∅,?_⟩
   walk_at "rdm";rw[e1];refine⟨∅,_,hS,_,i9 ∅ ∅,_,hS,_,i9 ∅ ∅,?_⟩
   walk_at "rdm";rw[e1,e2];exact⟨∅,hN _ _ ⟨_,rfl,rfl⟩⟩
  ·rintro σ H' ⟨r,rfl,rfl⟩;walk_at "rdm";exact⟨a,sw,n,rfl,hS,ok,hn,q⟩
theorem alK:bg P w K mg base bw 2 A.AO A.M_ ["self", "ring", "place"] (adG K [A.bH,A.bE]):=by
 refine T.ajn.ok ahZ (λvs H Q E h=>?_) (λaQ Ar outer s H vs Q E hr h=>?_)
 ·obtain⟨C,p,P,fp,r,c,rfl,_⟩:=h
  rfl
 ·obtain⟨C,p,P,fp,r,c,rfl,hC,hP,h0,h1,h2,h3,h4,h5,h6,h7,q⟩:=h;obtain⟨dx,a1,a2,a3,a4,ts,fs,E1,h⟩:=id hP;refine⟨_,(aI (bJ (aN Hj (aN gZ (aN CI (ah 2) (xg (ah 0) T.YQ (Y0 T aH) (hr.mono ⋯) T.X0 .nil aJ (ao (ah 1) au))) (aN jU (ah 1) (bT (ah 0) rfl))) (bT (ah 0) rfl)))),?_⟩
  wp_walk using h.o,h.f1,h.f2,h.f3,h.f4,h.f5,h.f6,h.m1,h.m2,h.m3,h.m4,h.m5,h.m6,h.m7,h.m8,h.m9,h.jv,h.jw,h.cp.cl,h.cp.n1,h.cp.n2,h.cp.n3,h.cp.n4,h.cp.n5,h.cp.n6;refine⟨hC,C,p,P,fp,r,rfl,hP,h0,h1,h3,h4,?_⟩;wp_walk using h.o,h.f1,h.f2,h.f3,h.f4,h.f5,h.f6,h.m1,h.m2,h.m3,h.m4,h.m5,h.m6,h.m7,h.m8,h.m9,h.jv,h.jw,h.cp.cl,h.cp.n1,h.cp.n2,h.cp.n3,h.cp.n4,h.cp.n5,h.cp.n6;exact⟨.inl ⟨∅,∅⟩,.inl ⟨∅,∅⟩,h7,q⟩
theorem alL:bg P w K mg base bw 2 A.Ni A.Nj ["plate", "bad"] (adO K [A.bH,A.bE]):=by
 refine T.X4.ok Eo (λvs H Q E h=>?_) (λaQ Ar outer s H vs Q E hr h=>?_)
 ·obtain⟨C,p,ba,P,fp,gm,bz,rfl,_⟩:=h
  rfl
 ·obtain⟨C,p,ba,P,fp,gm,bz,rfl,hC,hP,hz,hlen,nd,hv,q⟩:=h;have hu:=i7 hr;refine⟨_,(aC (aX (i:=2) Eo.nd rfl OL_ Up)
   (aC (dU dF rfl (gM (ah 1)) (jm rfl (cu (br (i:=3) Eo.nd rfl OL_) (cu (br (i:=4) Eo.nd rfl OL_) gX)))
   (aC (d8 (PW.pt (iu (Sd (Cr (xg (ah 0) T.ak6 (alo T aH) (hr.mono ⋯) T.ajw .nil aJ (ao (ah 3) (ao (ah 4) au))))) (ir (wG (C2 hu (dO (ao (ah 3) (ao (ah 4) au))) (ah 2)))))) fZ cC)
   (aI (uY hu (ah 2) (dO (ao (ah 3) (ao (ah 4) au))) mD rfl))))
   (aI (bJ (ah 2))))),?_⟩
  walk_at "rdm";refine λd hd=>?_;refine rl ba (gm.map V.ref) (λi σ H'=>∃r c,σ = [some (.ref p),some (.ref ba),some (.ref d),r,c]/\aq H H'/\i<=bz.length/\H' d=some (.dT (fG (bz.take i)))) (λQ q=>q) (aq.put hd |>.seq hz.sq)
   ⟨none,none,rfl,aq.put hd,eX _,aD⟩ (by rintro i σ H' _ ⟨r,c,rfl,hs,_⟩;exact hs.seq hz.sq) ?_ ?_
  ·rintro i x σ H' N hN hx ⟨r,c,rfl,hs,hi,h1⟩;obtain⟨t,w,rfl,hw,ht⟩:=hz.at hx;refine mU (aY.of (hs _ _ ht)) rfl ?_;have vL:=hP.same hs;obtain⟨dx,a1,a2,a3,a4,ts,fs,E1,h⟩:=id vL;obtain⟨v0,v1,v2,v3⟩:=hv w (get_mem hw);have vG:=gH hw;wp_walk using h.o,h.f1,h.f2,h.f3,h.f4,h.f5,h.f6,h.m1,h.m2,h.m3,h.m4,h.m5,h.m6,h.m7,h.m8,h.m9,h.jv,h.jw,h.cp.cl,h.cp.n1,h.cp.n2,h.cp.n3,h.cp.n4,h.cp.n5,h.cp.n6;refine⟨hC,C,p,P,fp,_,_,rfl,vL,?_⟩;rw[ig ⟨v0,v1,v2,v3⟩];refine⟨true,rfl,by simp,λt1 n1=>?_⟩
   have j9:w∉bz.take i:=by
    intro hm;obtain⟨j,hj,e⟩:=r_.mp hm;rw[fc] at hj;rw[List.getElem_take] at e;have g1:bz[j]? = some w:=by rw[← e];exact bx ∅
    have:=(List.getElem?_inj ∅ nd).mp (g1.trans hw.symm)
    lia
   have s1:=aq.put (o:=.tup [V.int w.1,V.int w.2]) n1;refine⟨_,fO.t (k:=kT w) (s1 _ _ h1) aD,by rw[zQ j9];simp,λt2 n2=>?_⟩
   have s2:=s1.trans (aq.put (o:=.tup [V.int w.1,V.int w.2]) n2);refine⟨_,kP.t (k:=kT w) (s2 _ _ h1) aD (by rw[mT,fG,aK,fc];lia),hN _ _ ⟨_,_,rfl,aq.put2 (hs.trans s2) hd,vG,?_⟩⟩
   rw[aD,HK _ (zQ j9),take_succ_get hw];simp[fG]
  ·rintro σ H' ⟨r,c,rfl,hs,hi,h1⟩;walk_at "rdm";rw[lenZ hz.n,eG] at h1;exact q _ _ hs hd h1
theorem alM:bg P w K mg base bw 2 A.Nm A.Nn ["ring_cells", "spares", "ring", "used"] (ae1 K A.gf (rq iS) (rB "nearest_rings")):=by
 refine T.X7.ok Ep (λvs H Q E h=>?_) (λaQ Ar outer s H vs Q E hr h=>?_)
 ·obtain⟨ra,ud,r,sp,rc,us,rfl,_⟩:=h
  rfl
 ·obtain⟨ra,ud,r,sp,rc,us,rfl,E4,h2,jN,s0,s1,hc,hud,tab,q⟩:=h;have hu:=i7 hr;refine⟨_,(aC (dU dF rfl (gM (aP (als T aH) (hr.mono ⋯) rfl T.ajK T.X6.kp T.ajJ .nil aJ (ao (ah 2) (ao (bY fL rfl T.dB dN (ao (ah 0) au)) au)))) (br (i:=4) Ep.nd rfl OL_)
   (aC (aX (i:=5) Ep.nd rfl OL_ (aZ c8 (ah 0) (ah 4) (λ_ _=>rfl)))
   (aI (dU dF rfl (wK rfl T.gu (ao (aN qo (ah 5) (ah 1)) (ao (ah 5) au))) (br (i:=6) Ep.nd rfl OL_)
   (aI (d8 (wG (HP hu (dO (ao (ah 4) (ao (ah 6) au))) (ah 3))) (aI (bJ (dO (ao (ah 4) (ao (ah 6) au))))) cC))))))
   (aI (bJ pR))),?_⟩
  walk_at "rdm";refine Il ?_;walk_at "rdm";refine⟨_,.inl E4,r,rc.length,by rw[aK],h2,jN,tab,λl is H1 sb t1 nl nl1 ord=>⟨l,rfl,?_⟩⟩
  have k1:=(Kp.mk sb t1).step (aq.put (o:=.lst (is.map λ(i:Nat)=>V.int (i:Int))) nl1);refine w_.by l (is.map λ(i:Nat)=>V.int (i:Int)) (λi σ H'=>∃o c p,σ = [some (.ref ra),some (.int sp),some (.int r),some (.ref ud),o,c,p]/\aq (upd H1 l (.lst (is.map λ(i:Nat)=>V.int (i:Int)))) H'/\∀c∈(is.take i).flatMap (fU rc sp),c∈us)
   (aE.of aD) ⟨none,none,none,rfl,aq.refl _,by simp⟩ (by rintro i σ H' _ ⟨o,c,p,rfl,sm,_⟩;exact aE.of (sm _ _ aD)) ?_ ?_
  ·rintro i x σ H' N hN hx ⟨o,c,p,rfl,sm,A5⟩;obtain⟨k,hk,rfl⟩:=iL hx;have kl:k<rc.length:=gC.mp (ord.1.mem_iff.mp (get_mem hk));have kk:=k1.step sm;have ra':=kk.seq tab E4;have ck:sp<=rc.getD k 0/\rc.getD k 0<=1000:=by
    have:=hc _ (cU kl);rw[show rc.getD k 0=rc[k] by simp[kl]]
    exact this
   walk_at "rdm";refine⟨_,ra',_,i9 ∅ ∅,?_⟩
   try walk_at "rdm"
   rw[show ((k:Int)).toNat=k from rfl];refine zN (rc.getD k 0 - sp) (rc.getD k 0) (λj σ H3=>∃p,σ = [some (.ref ra),some (.int sp),some (.int r),some (.ref ud),some (.int (k:Int)),some (.int (rc.getD k 0)),p]/\aq H' H3/\∀j':Nat,j' < j->((k:Int),rc.getD k 0 - sp+(j':Int))∈us) (λQ q=>?_) ∅ ∅ ∅ ∅ ⟨p,rfl,aq.refl _,λj' z=>absurd z ∅⟩ ?_ ?_
   ·walk_at "rdm";exact q
   ·rintro j σ H3 N2 lZ hj ⟨p,rfl,s3,oO⟩;walk_at "rdm";refine λt1 n1=>?_;have e1:=aq.put (o:=HO.tup [V.int (k:Int),V.int (rc.getD k 0 - sp+(j:Int))]) n1;have O_:=(kk.step s3).step e1;have ud3:=O_.get tab hud;refine⟨_,fO.t (k:=kT ((k:Int),rc.getD k 0 - sp+(j:Int))) ud3 aD,?_⟩;by_cases hm:((k:Int),rc.getD k 0 - sp+(j:Int))∈us
    ·rw[U1 hm];refine ite_no (by simp) (lZ _ _ ⟨_,rfl,s3.trans e1,λj' z=>?_⟩)
     by_cases e:j' = j
     ·rw[e];exact hm
     ·exact oO j' ∅
    ·rw[zQ hm,if_pos (show (none:Option V).isSome=false from rfl)];intro t2 n2;exact(q is _ ord (O_.step (aq.put n2))).2 _ t2 (ae0 A5 hk ∅ oO hm) (O_.free n2) aD
   ·rintro σ H3 ⟨p,rfl,s3,oO⟩;refine hN _ _ ⟨_,_,_,rfl,sm.trans s3,aeY A5 hk λc hc=>?_⟩;obtain⟨j,hj,rfl⟩:=cH.mp hc;exact oO j (by have:=gC.mp hj;lia)
  ·rintro σ H' ⟨o,c,p,rfl,sm,A5⟩;walk_at "rdm";rw[aK,eG] at A5;exact(q is H' ord (k1.step sm)).1 (aeZ A5)
theorem alN:bg P w K mg base bw 2 A.Nz A.NB ["self", "shares"] (ahc A.cX):=by
 refine T.ajV.ok ah6 (λvs H Q E h=>?_) (λaQ Ar outer s H vs Q E hr h=>?_)
 ·obtain⟨x,dx,l,ts,z,rfl,_⟩:=h
  rfl
 ·obtain⟨x,dx,l,ts,z,rfl,hx,hz,ok,q1⟩:=h;have zl:=hz.n;refine⟨_,(aC (cY (aP (alu T aH) (hr.mono ⋯) rfl T.ajS T.X_.kp T.ajR .nil aJ (ao (ah 1) au)))
   (aC (gb (ah 0) (ku (N:=["asker", "share"]) (nt:=2) (fv:=[]) ‹eE.of› rfl (gM (ah 1)) (λC s H fp=>(zP (K:=K) (n:=2) rfl rfl (cu (br (i:=0) (show List.Nodup (["asker", "share"]:List Str) by decide +kernel) rfl OL_) (cu (br (i:=1) (show List.Nodup (["asker", "share"]:List Str) by decide +kernel) rfl OL_) gX)))) (λC s H fp=>kq) (λC s H fp=>(dO (ao (ah 0) (ao (ah 1) au))))) rfl)
   (aI (cY (CM (ah 0) T.rT T.Yd (Y4 T aH) (hr.mono ⋯) T.Yc .nil aJ))))),?_⟩
  walk_at "rdt";refine⟨l,ts,z,rfl,hz,ok,λH1 s1=>?_⟩;have jW:=s1 _ _ hx;have yf:=hz.same s1;refine p8 l (ts.map V.ref) (λD i ys aA H2=>∃(u v:Option V) (as:List Addr),ys=as.map V.ref/\aA = [u,v]/\Zn H2 D as (z.take i)/\aq H1 H2/\H1 D=none) (λQ q=>q) yf.sq ?_ ?_ ?_ ?_
  ·intro D hD;exact⟨none,none,[],rfl,rfl,Zn.start,aq.put hD,hD⟩
  ·rintro D i ys aA H2 ⟨u',v',as,rfl,rfl,e1,e2,e3⟩;have:=ok.n4;have en:=e1.n;rw[fc] at en;exact⟨e1.l,jr (by rw[aK];lia),(yf.same e2).sq⟩
  ·rintro D i y ys aA H2 N hN hy ⟨u',v',as,rfl,rfl,e1,e2,e3⟩;obtain⟨pt,p,rfl,hp,ht⟩:=(yf.same e2).at hy;walk_at "rdm";refine⟨_,aY.of ht,rfl,_,_,rfl,_,_,rfl,rfl,λp1 e8=>⟨aq.put e8 _ _ e1.l,hN _ _ _ ⟨_,_,as++[p1],by rw[bO];rfl,rfl,?_,aq.put2 (e2.trans (aq.put e8)) e3,e3⟩⟩⟩
   rw[take_succ_get hp];exact e1.snoc e8 _ _
  ·rintro D ys aA H2 ⟨u',v',as,rfl,rfl,e1,e2,e3⟩;rw[aK,zl,eG] at e1;have pA:=e2 _ _ jW;have xD:x≠D:=λz=>by rw[z,e3] at jW;cases jW
   wp_walk using T,pA;refine⟨x,dx,D,_,rfl,aD,.inl rfl,λH3 sb A6=>?_⟩;have sx:SameBut x H2 H3:=λb o e hb=>sb b o (by rw[aB hb];exact e) hb
   refine q1 D as H3 (λb o e hb=>sx b o (e2 _ _ (s1 _ _ e)) hb) (s1.free e3) ⟨A6,sx _ _ e1.l (dR xD),e1.n,λi t p h1 h2=>sx _ _ (e1.t i t p h1 h2) (λz=>?_)⟩
   have:=e1.t i t p h1 h2;rw[z,pA] at this;cases this
theorem alO:bg P w K mg base bw 2 A.NF A.NG ["self", "plate", "ring", "beat", "dues"] (ahe K A.bI A.cQ A.cX):=by
 refine T.ajY.ok LG (λvs H Q E h=>?_) (λaQ Ar outer s H vs Q E hr h=>?_)
 ·obtain⟨x,p,dx,pl,r,b,bR,sh,t,u,D,ps,ds,rfl,_⟩:=h
  rfl
 ·obtain⟨x,p,dx,pl,r,b,bR,sh,t,u,D,ps,ds,rfl,hx,ok,t0,t1,hd,d1,d33,Zk,q1⟩:=h;have hu:=i7 hr;have pn:=hx.p.n;refine⟨_,(aC (b_ (aX (i:=5) LG.nd rfl OL_ (aP (alv T aH) (hr.mono ⋯) rfl T.ajU T.Yb.kp T.ajT .nil aJ (ao (ah 4) au))))
   (aC (b_ (cY (zu (ah 0) T.rT T.aj3 (alw T aH) (hr.mono ⋯) T.aj2 .nil aJ (ao (ah 5) au))))
   (aC (b_ (aX (i:=6) LG.nd rfl OL_ (aZ mL (g8 (ah 0) rfl) (g8 (ah 0) rfl) (λ_ _=>rfl))))
   (aC (b_ (rG (d8 (PW.pt (iu (c7 uO (g8 (ah 0) rfl) (aZ gQ (ah 6) az (λ_ _=>rfl)) (bG _)) (ir (wG (HP hu (aZ gQ (ah 6) az (λ_ _=>rfl)) (ah 5)))))) (aC (lJ (ah 0) (zu (ah 0) T.rT T.aj6 (alx T aH) (hr.mono ⋯) T.aj5 .nil aJ (ao (ah 5) au)) rfl)
   (aI (lJ (ah 0) az rfl))) cC)))
   (aC (b_ (lJ (ah 0) (aN gZ (g8 (ah 0) rfl) az) rfl))
   (aI (bJ (HN hu (ah 5) (aZ lM (aZ mL (g8 (ah 0) rfl) (g8 (ah 0) rfl) (λ_ _=>rfl)) az (λ_ _=>rfl)) (λ_ _=>rfl))))))))),?_⟩
  refine cD λN1 k1=>?_;walk_at "rdt";refine⟨D,ps,ds,rfl,hd,d33,λB kvs H1 s1 nB hB kl lo=>k1 _ _ ?_⟩;have jW:=hx.same s1;have Zl:=jW.o;unfold jf at Zl;refine cD λN2 k2=>?_;wp_walk using T,Zl;refine⟨x,B,dx,pl,bR,sh,t,u,kvs,rfl,jW,ok.n4,hB,lo.known.mpr Zk,λob H2 sb yg=>k2 _ _ ?_⟩;have s2:aq H H2:=λb o e=>sb b o (s1 _ _ e) (λz=>by rw[z,nB] at e;cases e)
  have pA:=jW.but sb hB;have tZ:=pA.o;unfold jf at tZ;obtain⟨pt,e1,e2⟩:=pA.p.ti t0 t1;have ptx:pt≠x:=λz=>by rw[z,tZ] at e2;cases e2
  refine cD λN3 k3=>?_;wp_walk using T,tZ;refine⟨_,pA.p.sq,_,e1,k3 _ _ ?_⟩;have dg:fO H2 B (.int (dY sh t)) (bV kvs (bN (dY sh t))):=.inl ⟨kvs,bN _,.inr ⟨ob,yg⟩,rfl,rfl⟩;obtain⟨d,Zm⟩:∃d,d∈ds:=by
   cases ds with
   | nil=>simp at d1
   | cons d ds=>exact⟨d,by simp⟩
  have ex:∃p∈sh,(bV kvs (bN p.1)).isSome=true:=by
   obtain⟨p,hp,e⟩:=cH.mp (Zk d Zm);exact⟨p,hp,by rw[e];exact(lo.here _).mpr (JK Zm rfl)⟩
  refine cD λN4 k4=>?_;wp_walk using T,tZ;refine⟨λσ H3=>∃t' u0,σ = [some (.ref x),some (.ref p),some (.int r),some (.int b),some (.ref D),some (.ref B),some (.ref pt)]/\SameBut x H2 H3/\H3 x=some (.ins A.cX dx (jf pl t' u0))/\rO sh ds t u t' (u0+1),⟨_,aY.of e2,_,rfl,_,rfl,dX (λc1=>?_) λc1=>⟨_,aY.of e2,_,rfl,_,dg,dX (λc2=>?_) λc2=>?_⟩⟩,?_⟩
  ·refine⟨x,B,dx,pl,bR,sh,t,u,kvs,rfl,pA,t0,t1,ok.n4,.inr ⟨ob,yg⟩,ex,λt' nt=>⟨_,_,_,tZ,T.rT,T.EU,by simp,T.rT,T.EV,(show (3:Nat)<1000 by decide),t',0,rfl,SameBut.start,aD,⟨λ_=>⟨nt.congr lo.here,rfl⟩,λz=>absurd (.inl c1) z⟩⟩⟩
  ·refine⟨x,B,dx,pl,bR,sh,t,u,kvs,rfl,pA,t0,t1,ok.n4,.inr ⟨ob,yg⟩,ex,λt' nt=>⟨_,_,_,tZ,T.rT,T.EU,by simp,T.rT,T.EV,(show (3:Nat)<1000 by decide),t',0,rfl,SameBut.start,aD,⟨λ_=>⟨nt.congr lo.here,rfl⟩,λz=>absurd (.inr λz=>by rw[(lo.here _).mpr z] at c2;cases c2) z⟩⟩⟩
  ·refine⟨t,u,rfl,(λb o e _=>e),tZ,⟨λz=>?_,λ_=>⟨rfl,rfl⟩⟩⟩
   rcases z with z | z
   ·exact absurd z c1
   ·exact absurd ((lo.here _).mp (Option.isSome_iff_ne_none.mpr (by simpa using c2))) z
  ·rintro σ H3 ⟨t',u0,rfl,sx,A6,st⟩;refine k4 _ _ ?_;obtain⟨b0,b1,hh⟩:=st.bt ok t0 t1;obtain⟨n,hn⟩:=wc.mp hh;have yh:=(pA.set sx A6).set (t':=t') (u':=u0+1) SameBut.start aD;unfold jf at A6;refine cD λN5 k5=>?_;wp_walk using T,A6;refine k5 _ _ ?_;have Pa:=yh.o;have E5:SameBut x H2 (upd H3 x (.ins A.cX dx (jf pl t' (u0+1)))):=λb o e hb=>by rw[aB hb];exact sx b o e hb
   unfold jf at yh Pa E5;generalize upd H3 x _=H4 at yh Pa E5 ⊢;obtain⟨p4,e3,e4⟩:=yh.p.ti b0 b1;wp_walk using T,Pa;have hB4:H4 B=some (.cK ob (.dK kvs)):=E5 _ _ yg (λz=>by rw[z,tZ] at yg;cases yg)
   have hv:=lo.v (dY sh t');rw[hn] at hv;refine⟨_,yh.p.sq,_,e3,p4,rfl,_,aY.of e4,_,rfl,_,.inl ⟨kvs,bN _,.inr ⟨ob,hB4⟩,rfl,hv.symm⟩,q1 t' (u0+1) n H4 (λb o e hb=>E5 b o (s2 _ _ e) hb) yh st hn⟩
theorem alP:bg P w K mg base bw 2 A.NQ A.NR ["_law_cell_here", "_law_rings"] (aga K):=by
 refine T.Ye.ok AJ (λvs H Q E h=>?_) (λaQ Ar outer s H vs Q E hr h=>?_)
 ·obtain⟨c,m,rfl,_⟩:=h
  rfl
 ·obtain⟨c,m,rfl,h2,DS,q⟩:=h;refine⟨_,(aC (aX (i:=2) AJ.nd rfl (Or.inr rfl) (aN eF az (aP (cT T aH) (hr.mono ⋯) rfl T.cS T.cJ.kp T.cR .nil aJ (ao (ah 0) (ao az (ao (aZ c8 (eZ (ao az (ao az (ao az (ao (aN zj az az) au))))) (aP (cT T aH) (hr.mono ⋯) rfl T.cS T.cJ.kp T.cR .nil aJ (ao (ah 0) (ao az (ao az au)))) (λ_ _=>rfl)) au))))))
   (aC (jC (eV Xc (aP (cT T aH) (hr.mono ⋯) rfl T.cS T.cJ.kp T.cR .nil aJ (ao (ah 0) (ao az (ao az au)))) az (bG _)) (aI (bJ (aN HJ (eZ (ao az au)) (bY adf rfl T.AX boot_sorted (ao (ku (N:=["_law_k", "_law_step", "_law_cell_here"]) (nt:=1) (fv:=[2,0]) ‹eE.of› rfl (j5 rfl T.gu (ao (aN qo (ah 1) az) au)) (λC s H fp=>(br (i:=0) (show List.Nodup (["_law_k", "_law_step", "_law_cell_here"]:List Str) by decide +kernel) rfl OL_)) (λC s H fp=>kq) (λC s H fp=>(aN eF (ah 1) (aP (cT T aH) (hr.mono ⋯) rfl T.cS T.cJ.kp T.cR .nil aJ (ao (ah 2) (ao (aN eF az (ah 0)) (ao (aN eF (ah 1) az) au))))))) au))))) cC)
   (aC (aX (i:=3) AJ.nd rfl OL_ (eZ (ao az au)))
   (aC (dU dF rfl (wK rfl T.gu (ao az (ao (ah 1) au))) (br (i:=4) AJ.nd rfl OL_)
   (aC (cY (kh jY mq mz lN (ah 3) (ao (aN gZ (aZ c8 (ah 3) (zh zm az) (λ_ _=>rfl)) (ah 2)) au)))
   (aI (aX (i:=2) AJ.nd rfl (Or.inr rfl) (aN qo (ah 2) (aP (cT T aH) (hr.mono ⋯) rfl T.cS T.cJ.kp T.cR .nil aJ (ao (ah 0) (ao (aN eF az (ah 4)) (ao (aN eF (aN Eh (ah 2) az) az) au)))))))))
   (aI (bJ (ah 3))))))),?_⟩
  wp_walk using bU;refine⟨⋯,λo1 t_=>?_⟩
  have sA:=aq.put (o:=.lst [V.int 3,V.int 40,V.int 1000,V.int 10000000]) t_;have je:upd H o1 (.lst [V.int 3,V.int 40,V.int 1000,V.int 10000000]) o1=some (.lst [V.int 3,V.int 40,V.int 1000,V.int 10000000]):=aD;generalize upd H o1 (.lst [V.int 3,V.int 40,V.int 1000,V.int 10000000])=H1 at sA je ⊢;obtain⟨x,hx,x0,x1⟩:∃x:Int,dP [V.int 3,V.int 40,V.int 1000,V.int 10000000] (bf c 22 4)=some (.int x)/\3<=x/\x<=10000000:=by
   have b:=dH c 22 (m:=4) ⋯
   have:bf c 22 4=0\/bf c 22 4=1\/bf c 22 4=2\/bf c 22 4=3:=by lia
   rcases this with e | e | e | e <;> rw[e] <;> exact⟨_,rfl,⋯,⋯⟩
  refine⟨_,aE.of je,_,hx,_,rfl,∅,?_⟩
  have b21:=dH c 21 (m:=x) ∅
  generalize hL:1+bf c 21 x=L;have L1:1<=L:=by lia
  have L7:L<=10000000:=by lia
  clear hL b21 hx;refine dX (λh8=>?_) λh8=>?_
  ·intro l0 eL;have s0:=aq.put (o:=.lst [V.int 0]) eL;refine xh (m - 1) (λD i ys aA H2=>∃ns:List Int,ys=ns.map V.int/\ns.length=i/\(∀x∈ns,L<=x/\x<=2*L)/\H2 D=some (.lst ys)/\aq (upd H1 l0 (.lst [V.int 0])) H2/\upd H1 l0 (.lst [V.int 0]) D=none/\i<=60/\∃u,aA = [u,some (.int L),some (.int c)])
    (λQ q=>?_) ∅ ∅ ?_ ?_ ?_ ?_
   ·walk_at "rdm";exact q
   ·intro D hD;exact⟨[],rfl,rfl,(by intro x hx;cases hx),aD,aq.put hD,hD,∅,none,rfl⟩
   ·rintro D i ys aA H2 ⟨ns,rfl,e0,_,e1,e2,e3,e4,_⟩;exact⟨e1,jr (by rw[aK];lia)⟩
   ·rintro D i ys aA H2 N hN hi ⟨ns,rfl,e0,eb,e1,e2,e3,e4,u,rfl⟩;wp_walk using bU;have b1:=dH c (41+(i:Int)) (m:=L+1) ∅
    refine⟨∅,∅,∅,e1,hN _ _ _ ⟨ns++[L+bf c (41+(i:Int)) (L+1)],by rw[bO];rfl,by simp[e0],?_,aD,aq.put2 e2 e3,e3,∅,_,rfl⟩⟩
    intro x hx;rcases cF.mp hx with hx | hx
    ·exact eb x hx
    ·rw[cj.mp hx];lia
   ·rintro D ys aA H2 ⟨ns,rfl,e0,eb,e1,e2,e3,e4,u,rfl⟩
    try walk_at "rdm"
    refine⟨ns,aE.of e1,∅,λl eT hl hp hs=>?_⟩
    have Zo:=e2 _ _ aD;have fH:l0≠l:=b7 Zo hl;refine⟨[V.int 0],by rw[aB fH];exact Zo,?_,λp qX=>?_⟩
    ·have:=hp.length_eq;simp;lia
    ·have iJ:p≠l:=(b7 aD qX).symm;have hp':H2 p=none:=by rw[aB iJ] at qX;exact qX
     have s2:=sA.trans (s0.trans e2);have hH:H p=none:=s2.free hp';have hHl:H l=none:=s2.free hl;have so:=adJ L1 ∅ (ns:=eT) (λx hx=>eb x (hp.mem_iff.mp hx)) hs (by rw[hp.length_eq];lia)
     rw[hp.length_eq,show ((ns.length+1:Nat):Int)=m by lia] at so
     exact q p (0::eT) _ (aq.put2 (aq.put2 s2 hHl) hH) hH (by rw[aD];rfl) so
  ·intro l hl;have Zp:H l=none:=sA.free hl;refine zN 1 m (λj σ H'=>∃kk,σ = [some (.int c),some (.int m),some (.int (jT c L j)),some (.ref l),kk]/\aq H H'/\H' l=some (.lst (((List.range (1+j)).map (sumF (jT c L))).map V.int)))
    (λQ q=>?_) ∅ ∅ ∅ ∅ ⟨none,rfl,sA.trans (aq.put hl),?_⟩ ?_ ?_
   ·walk_at "rdm";exact q
   ·rw[aD];simp[List.range_succ,sumF,jT]
   ·rintro j σ H' N hN hj ⟨kk,rfl,hs,h1⟩;have b:=We c L1 j;wp_walk using bU;refine⟨⟨_,aE.of h1⟩,_,aE.of h1,_,adn (by simp;lia),?_⟩
    wp_walk using h1,bU;refine⟨by rw[jF];lia,∅,∅,∅,hN _ _ ⟨some (.int (1+(j:Int))),?_,aq.put2 hs Zp,?_⟩⟩
    ·rw[jT]
    ·rw[aD,show 1+(j+1)=1+j+1 by lia,n_,bO,bO,jF,_L.range_getD ∅]
     congr 4;simp only[List.map_cons,List.map_nil,List.cons.injEq,and_true,V.int.injEq];rw[show 1+j - 1=j by lia,show 1+j=j+1 by lia,sumF]
   ·rintro σ H' ⟨kk,rfl,hs,h1⟩;walk_at "rdm";have e:1+(m - 1).toNat=m.toNat:=by lia
    rw[e] at h1;have so:=afp (f:=jT c L) L1 L7 (We c L1) (n:=m.toNat) ∅ ∅
    rw[show ((m.toNat:Nat):Int)=m by lia] at so
    exact q _ _ _ hs Zp h1 so
theorem alQ:bg P w K mg base bw 2 A.NS A.NT ["_law_cell_here"] (agb K):=by
 refine T.Yg.ok Et (λvs H Q E h=>?_) (λaQ Ar outer s H vs Q E hr h=>?_)
 ·obtain⟨c,rfl,_⟩:=h
  rfl
 ·obtain⟨c,rfl,q⟩:=h;refine⟨_,(aC (aX (i:=1) Et.nd rfl OL_ (eZ (ao (dO (ao (aN gZ az (aP (cT T aH) (hr.mono ⋯) rfl T.cS T.cJ.kp T.cR .nil aJ (ao (pv 0) (ao az (ao az au))))) (ao (aN gZ az (aP (cT T aH) (hr.mono ⋯) rfl T.cS T.cJ.kp T.cR .nil aJ (ao (pv 0) (ao az (ao az au))))) au))) au)))
   (aC (dU dF rfl (j5 rfl T.gu (ao (aZ mL (eZ (ao az (ao az (ao az (ao az (ao az (ao az (ao az (ao az au))))))))) (aP (cT T aH) (hr.mono ⋯) rfl T.cS T.cJ.kp T.cR .nil aJ (ao (pv 0) (ao az (ao az au)))) (λ_ _=>rfl)) au)) (br (i:=2) Et.nd rfl OL_)
   (aI (cY (kh jY mq mz lN (pv 1) (ao (dO (ao (aN gZ az (aP (cT T aH) (hr.mono ⋯) rfl T.cS T.cJ.kp T.cR .nil aJ (ao (pv 0) (ao (aN gZ az (pv 2)) (ao az au))))) (ao (aN gZ az (aP (cT T aH) (hr.mono ⋯) rfl T.cS T.cJ.kp T.cR .nil aJ (ao (pv 0) (ao (aN gZ az (pv 2)) (ao az au))))) au))) au)))))
   (aC (rG (d8 (c7 mH (aP (cT T aH) (hr.mono ⋯) rfl T.cS T.cJ.kp T.cR .nil aJ (ao (pv 0) (ao az (ao az au)))) az (bG _)) (aI (aX (i:=1) Et.nd rfl OL_ (eZ (ao (dO (ao (aN gZ az (aP (cT T aH) (hr.mono ⋯) rfl T.cS T.cJ.kp T.cR .nil aJ (ao (pv 0) (ao az (ao az au))))) (ao (aN gZ az (aP (cT T aH) (hr.mono ⋯) rfl T.cS T.cJ.kp T.cR .nil aJ (ao (pv 0) (ao az (ao az au))))) au))) au)))) cC))
   (aI (bJ (pv 1)))))),?_⟩
  wp_walk using bU;have y1:=dH c 1 (m:=2) ⋯
  have y2:=dH c 2 (m:=8) ⋯
  intro t0 Zq l nl;have E6:H l=none:=(aq.put Zq).free nl;have Pb:=Zn.one (c:=(2+bf c 1 2,1+bf c 2 8)) (aD (H:=H) (a:=t0)) nl;have sA:aq H (upd (upd H t0 (.tup [V.int (2+bf c 1 2),V.int (1+bf c 2 8)])) l (.lst [V.ref t0])):=(aq.put Zq).trans (aq.put nl);have Zr:ZP [(2+bf c 1 2,1+bf c 2 8)]:=⟨λp hp=>by rw[cj.mp hp];dsimp only;exact⟨∅,∅,∅,∅⟩,by simp;lia⟩
  generalize upd (upd H t0 (.tup [V.int (2+bf c 1 2),V.int (1+bf c 2 8)])) l (.lst [V.ref t0])=H2 at Pb sA ⊢;generalize (2+bf c 1 2,1+bf c 2 8)=p0 at Pb Zr;obtain⟨x,hx,x0,x1⟩:∃x:Int,dP [V.int 0,V.int 1,V.int 2,V.int 0,V.int 1,V.int 2,V.int 1,V.int 4] (bf c 3 8)=some (.int x)/\0<=x/\x<=4:=by
   have b:=dH c 3 (m:=8) ⋯
   have:bf c 3 8=0\/bf c 3 8=1\/bf c 3 8=2\/bf c 3 8=3\/bf c 3 8=4\/bf c 3 8=5\/bf c 3 8=6\/bf c 3 8=7:=by lia
   rcases this with e | e | e | e | e | e | e | e <;> rw[e] <;> exact⟨_,rfl,⋯,⋯⟩
  refine rrG ?_;wp_walk using bU;intro o1 t_;have s2:=sA.trans (aq.put (o:=.lst [V.int 0,V.int 1,V.int 2,V.int 0,V.int 1,V.int 2,V.int 1,V.int 4]) t_);have yf:=Pb.same (aq.put (o:=.lst [V.int 0,V.int 1,V.int 2,V.int 0,V.int 1,V.int 2,V.int 1,V.int 4]) t_);have je:upd H2 o1 (.lst [V.int 0,V.int 1,V.int 2,V.int 0,V.int 1,V.int 2,V.int 1,V.int 4]) o1=some (.lst [V.int 0,V.int 1,V.int 2,V.int 0,V.int 1,V.int 2,V.int 1,V.int 4]):=aD;generalize upd H2 o1 (.lst [V.int 0,V.int 1,V.int 2,V.int 0,V.int 1,V.int 2,V.int 1,V.int 4])=H3 at s2 yf je ⊢;refine⟨_,aE.of je,_,hx,x,rfl,DY.by x (λi σ H'=>∃(kk:Option V) (ts:List Addr) (z:List (Int×Int)),σ = [some (.int c),some (.ref l),kk]/\aq H H'/\Zn H' l ts z/\ZP z/\z.length=i+1) ∅ ∅ ⟨none,[t0],[p0],rfl,s2,yf,Zr,rfl⟩ ?_ ?_⟩
  ·rintro i σ H' N hN hi ⟨kk,ts,z,rfl,s',hz,zp,zn⟩;wp_walk using bU;have b1:=dH c (4+(i:Int)) (m:=2) ⋯
   have b2:=dH c (9+(i:Int)) (m:=8) ⋯
   refine⟨⟨_,hz.sq⟩,∅,∅,∅,∅,λp np=>⟨_,aq.put np _ _ hz.l,by rw[aK,hz.n];lia,hN _ _ ⟨_,ts++[p],z++[(1+bf c (4+(i:Int)) 2,1+bf c (9+(i:Int)) 8)],rfl,aq.put2 (s'.trans (aq.put np)) E6,hz.snoc np _ _,zp.snoc ⟨by dsimp only;lia,by dsimp only;lia,by dsimp only;lia,by dsimp only;lia⟩,by simp[zn]⟩⟩⟩
  ·rintro σ H' ⟨kk,ts,z,rfl,s',hz,zp,zn⟩;have zl:=zp.zl5 ∅ ∅
   wp_walk using bU;have b15:=dH c 15 (m:=60) ⋯
   refine⟨λσ H2=>∃(l2:Addr) (kD:List Addr) (z2:List (Int×Int)),σ[1]? = some (some (.ref l2))/\aq H H2/\H l2=none/\Zn H2 l2 kD z2/\ZL z2,dX (λ_=>λt1 Zu l2 yi=>⟨l2,[t1],[_],rfl,s'.trans ((aq.put Zu).trans (aq.put yi)),(s'.trans (aq.put Zu)).free yi,Zn.one (c:=(2+bf c 1 2,1+bf c 15 60)) aD yi,agd ∅ ∅ ∅ ∅⟩) λ_=>⟨l,ts,z,rfl,s',E6,hz,zl⟩,?_⟩
   rintro σ H2 ⟨l2,kD,z2,e1,s2,n2,e7,WY⟩;exact⟨_,e1,q l2 kD z2 H2 s2 n2 e7 WY⟩
theorem alR:bg P w K mg base bw 2 A.NW A.NY ["_law_cell_here", "_law_counts", "_law_spares"] (agc K):=by
 refine T.Yi.ok AK (λvs H Q E h=>?_) (λaQ Ar outer s H vs Q E hr h=>?_)
 ·obtain⟨ca,c,sp,rc,rfl,_⟩:=h
  rfl
 ·obtain⟨ca,c,sp,rc,rfl,pq,n1,Zd,s0,s1,hc,q⟩:=h;have yd:_+16<cLine:=B3 (GG (by decide:16<=64) _) hr.units
  refine⟨_,(aC (aX (i:=3) AK.nd rfl OL_ (eZ au))
   (aC (dU dF rfl (j5 rfl T.gu (ao (aP (cT T aH) (hr.mono ⋯) rfl T.cS T.cJ.kp T.cR .nil aJ (ao (ah 0) (ao az (ao az au)))) au)) (br (i:=4) AK.nd rfl OL_)
   (aC (aX (i:=5) AK.nd rfl OL_ (aP (cT T aH) (hr.mono ⋯) rfl T.cS T.cJ.kp T.cR .nil aJ (ao (ah 0) (ao (aN eF az (ah 4)) (ao (bY fL rfl T.dB dN (ao (ah 1) au)) au)))))
   (aC (aX (i:=6) AK.nd rfl OL_ (aP (cT T aH) (hr.mono ⋯) rfl T.cS T.cJ.kp T.cR .nil aJ (ao (ah 0) (ao (aN eF az (ah 4)) (ao (aZ c8 (ah 1) (ah 5) (λ_ _=>rfl)) au)))))
   (aI (d8 (PW.pt (G5 (c7 (VO yd) (dO (ao (ah 5) (ao (ah 6) au))) (ah 3) rfl) (G4 (eV gF (bY fL rfl T.dB dN (ao (ah 3) au)) (aN jU (ah 2) (bY fL rfl T.dB dN (ao (ah 1) au))) (bG _))))) (aI (cY (kh jY mq mz lN (ah 3) (ao (dO (ao (ah 5) (ao (ah 6) au))) au)))) cC)))))
   (aI (bJ (ah 3))))),?_⟩
  wp_walk using bU;intro l nl;have sl:=aq.put (o:=.lst []) nl;have p0:0<=sp*(rc.length:Int):=Int.mul_nonneg s0 ∅
  have p1:sp*(rc.length:Int)<=1000*100:=rY s1 ∅ ∅ ⋯
  have d0:=dH c 101 (m:=7) ⋯
  refine u_ (bf c 101 7) (λi σ H'=>∃x y u ts bz,σ = [some (.int c),some (.ref ca),some (.int sp),some (.ref l),x,y,u]/\aq H H'/\Zn H' l ts bz/\bz.Nodup/\(∀q∈bz,0<=q.1/\q.1<rc.length/\0<=q.2/\q.2<rc.getD q.1.toNat 0)/\bz.length<=i/\(bz.length:Int)<=sp*(rc.length:Int)) (λQ q=>?_) ∅ ∅ ⟨none,none,none,[],[],rfl,sl,Zn.start,BZ,(λ_ h=>nomatch h),bu _,p0⟩ ?_ ?_
  ·wp_walk using bU;exact q
  ·rintro i σ H' N hN hi ⟨x,y,u,ts,bz,rfl,hs,hz,nb,yj,bl,bs⟩;wp_walk using bU;have Pc:=hs _ _ pq;have r0:=dH c (102+(i:Int)) (m:=(rc.length:Int)) ∅
   refine⟨_,.inl (aE.of Pc),?_⟩;rw[aK];generalize bf c (102+(i:Int)) (rc.length:Int)=r at r0 ⊢;have hcr:=hc r.toNat ∅
   have c0:=dH c (108+(i:Int)) (m:=rc.getD r.toNat 0) ∅
   refine⟨∅,∅,∅,_,aE.of Pc,_,i9 r0.1 r0.2,_,rfl,∅,∅,∅,λp np=>?_⟩
   generalize bf c (108+(i:Int)) (rc.getD r.toNat 0)=pl at c0 ⊢;have jV:=aq.put (o:=.tup [V.int r,V.int pl]) np;have eW:=hz.same jV;generalize upd H' p (.tup [V.int r,V.int pl])=H2 at jV eW ⊢;have no:N [some (.int c),some (.ref ca),some (.int sp),some (.ref l),some (.int (i:Int)),some (.int r),some (.int pl)] H2:=hN _ _ ⟨_,_,_,ts,bz,rfl,hs.trans jV,eW,nb,yj,∅,bs⟩
   refine⟨[r,pl],rfl,zU ts bz,by rw[xG eW.n];exact eW.sq,eW.us,?_⟩
   have em:[r,pl]∈(zU ts bz).map (·.2)↔(r,pl)∈bz:=by rw[Af eW.n];exact DQ (c:=(r,pl))
   refine dX (λhm=>⟨_,.inl eW.sq,_,.inl (aE.of (jV _ _ Pc)),.inl ⟨∅,∅⟩,dX (λhl=>⟨⟨_,eW.sq⟩,λp1 e8=>?_⟩) λ_=>no⟩) λ_=>no
   rw[aK,aK,eW.n] at hl;have jO:(r,pl)∉bz:=λz=>hm (em.mpr z);refine⟨_,aq.put e8 _ _ eW.l,by rw[aK,eW.n];lia,hN _ _ ⟨_,_,_,ts++[p1],bz++[(r,pl)],rfl,aq.put2 ((hs.trans jV).trans (aq.put e8)) nl,eW.snoc e8 _ _,?_,?_,by simp;lia,by simp;lia⟩⟩
   ·rw[se];exact⟨nb,by simp,λx hx y hy e=>jO (by rw[List.mem_singleton.mp hy] at e;rw[← e];exact hx)⟩
   ·intro x hx;rcases cF.mp hx with h | h
    ·exact yj x h
    ·rw[cj.mp h];exact⟨r0.1,r0.2,c0.1,c0.2⟩
  ·rintro σ H' ⟨x,y,u,ts,bz,rfl,hs,hz,nb,yj,bl,bs⟩;walk_at "rdm";refine q l ts bz H' hs nl nb yj ∅ ?_ hz
   have:((sp.toNat*rc.length:Nat):Int)=sp*(rc.length:Int):=by rw[Int.natCast_mul,nY s0]
   lia
theorem alS:bg P w K mg base bw 2 A.Oa A.Ob ["_law_cell_here"] agE:=by
 refine T.Yk.ok Eu (λvs H Q E h=>?_) (λaQ Ar outer s H vs Q E hr h=>?_)
 ·obtain⟨c,rfl,_⟩:=h
  rfl
 ·obtain⟨c,rfl,q⟩:=h;refine⟨_,(aC (aX (i:=1) Eu.nd rfl (Or.inr rfl) (aP (cT T aH) (hr.mono ⋯) rfl T.cS T.cJ.kp T.cR .nil aJ (ao (ah 0) (ao az (ao az au)))))
   (aC (aX (i:=2) Eu.nd rfl (Or.inr rfl) (aN eF az (aP (cT T aH) (hr.mono ⋯) rfl T.cS T.cJ.kp T.cR .nil aJ (ao (ah 0) (ao az (ao az au))))))
   (aC (aX (i:=3) Eu.nd rfl (Or.inr rfl) (aN jU az (aP (cT T aH) (hr.mono ⋯) rfl T.cS T.cJ.kp T.cR .nil aJ (ao (ah 0) (ao az (ao az au))))))
   (aI (bJ (ku (N:=["_law_k", "_law_more", "_law_first", "_law_leap"]) (nt:=1) (fv:=[3,1,2]) ‹eE.of› rfl (j5 rfl T.gu (ao (aN eF az (aP (cT T aH) (hr.mono ⋯) rfl T.cS T.cJ.kp T.cR .nil aJ (ao (ah 0) (ao az (ao az au))))) au)) (λC s H fp=>(br (i:=0) (show List.Nodup (["_law_k", "_law_more", "_law_first", "_law_leap"]:List Str) by decide +kernel) rfl OL_)) (λC s H fp=>kq) (λC s H fp=>(aN eF (aN qq (aN eF (ah 2) (aN jU (ah 0) (ah 3))) az) (ah 1))))))))),?_⟩
  wp_walk using bU;have b1:=dH c 71 (m:=19) ⋯
  have b2:=dH c 72 (m:=18) ⋯
  have b3:=dH c 73 (m:=2) ⋯
  have b4:=dH c 74 (m:=4) ⋯
  generalize bf c 71 19=f at b1 ⊢;generalize Di:1+bf c 72 18=lp at ⊢;have Zv:1<=lp/\lp<=18:=by lia
  generalize hmo:2*bf c 73 2=mo;have mo0:0<=mo/\mo<=2:=by lia
  refine xh (1+bf c 74 4) (λD i ys aA H2=>∃(u:Option V) (xs:List Int),ys=xs.map V.int/\xs.length=i/\(∀x∈xs,0<=x/\x<=20)/\xs=(List.range i).map (λ(k:Nat)=>(f+(k:Int)*lp) % 19+mo)/\aA = [u,some (.int mo),some (.int f),some (.int lp)]/\H2 D=some (.lst ys)/\aq H H2/\H D=none/\i<=4) (λQ q=>?_) ∅ ∅ ?_ ?_ ?_ ?_
  ·wp_walk using bU;exact q
  ·intro D hD;exact⟨none,[],rfl,rfl,(λ_ h=>nomatch h),rfl,rfl,aD,aq.put hD,hD,∅⟩
  ·rintro D i ys aA H2 ⟨u,xs,rfl,e0,eb,ex,rfl,e1,e2,e3,e4⟩;exact⟨e1,jr (by rw[aK];lia)⟩
  ·rintro D i ys aA H2 N hN hi ⟨u,xs,rfl,e0,eb,ex,rfl,e1,e2,e3,e4⟩;walk_at "rdm";have m0:=nX (f+(i:Int)*lp) (show (19:Int)≠0 by decide)
   have m1:=pD (f+(i:Int)*lp) (show (0:Int)<19 by decide)
   refine⟨.inl ⟨∅,∅⟩,e1,hN _ _ _ ⟨_,xs++[(f+(i:Int)*lp) % 19+mo],by rw[bO];rfl,by simp[e0],λx hx=>?_,by rw[ex,n_,bO];rfl,rfl,aD,aq.put2 e2 e3,e3,∅⟩⟩
   rcases cF.mp hx with hx | hx
   ·exact eb x hx
   ·rw[cj.mp hx];lia
  ·rintro D ys aA H2 ⟨u,xs,rfl,e0,eb,ex,rfl,e1,e2,e3,e4⟩;exact q D xs H2 e2 e3 e1 ∅ ∅ eb (ex▸agD b1.1 Zv.1 Zv.2 ∅)
theorem Zw:bg P w K mg base bw 2 A.Oc A.Od ["_law_cell_here", "_law_row_here"] (agf K):=by
 refine T.OC.ok LJ (λvs H Q E h=>?_) (λaQ Ar outer s H vs Q E hr h=>?_)
 ·obtain⟨c,l,ts,qs,rfl,_⟩:=h
  rfl
 ·obtain⟨c,l,ts,qs,rfl,hl,D0,q⟩:=h;refine⟨_,(aC (wW (i:=2) LJ.nd rfl OL_ (N:=["_law_k", "_law_row_here"]) (nt:=1) (fv:=[1]) ‹eE.of› rfl (j5 rfl T.gu (ao (bY qV rfl T.dB dN (ao (pv 1) au)) au)) (λC s H fp=>(br (i:=0) (show List.Nodup (["_law_k", "_law_row_here"]:List Str) by decide +kernel) rfl OL_)) (λC s H fp=>(wV (c7 sU (aZ (ado (K:=K) rfl) (aZ (adp (K:=K) rfl) (pv 1) (pv 0) (λ_ _=>rfl)) az (λ_ _=>rfl)) dh (bG _)))) (λC s H fp=>(pv 0)))
   (aC (d8 (PW.pt (iu (c7 mH (bY qV rfl T.dB dN (ao (pv 2) au)) az (bG _)) (ir (c7 j7 (aP (cT T aH) (hr.mono ⋯) rfl T.cS T.cJ.kp T.cR .nil aJ (ao (pv 0) (ao az (ao az au)))) az (bG _))))) (aI (bJ (dO au))) cC)
   (aC (aX (i:=3) LJ.nd rfl OL_ (eZ (ao (aZ mL (pv 2) (aP (cT T aH) (hr.mono ⋯) rfl T.cS T.cJ.kp T.cR .nil aJ (ao (pv 0) (ao az (ao (bY qV rfl T.dB dN (ao (pv 2) au)) au)))) (λ_ _=>rfl)) (ao (aZ mL (pv 2) (aP (cT T aH) (hr.mono ⋯) rfl T.cS T.cJ.kp T.cR .nil aJ (ao (pv 0) (ao az (ao (bY qV rfl T.dB dN (ao (pv 2) au)) au)))) (λ_ _=>rfl)) au))))
   (aI (bJ (pX zA rfl T.vD yM (ao (af_ rfl T.AX rfl T.OZ rfl (pv 3)) au))))))),?_⟩
  wp_walk using bU;have hn:=hl.n;refine xh (qs.length:Int) (λD i ys aA H2=>∃(u:Option V) (ks:List Nat),ys=ks.map (λ(k:Nat)=>V.int (k:Int))/\aA = [u,some (.ref l)]/\H2 D=some (.lst ys)/\aq H H2/\H D=none/\ks.length<=i/\i<=42/\∀k∈ks,k<48) (λQ q=>?_) ∅ ∅ ?_ ?_ ?_ ?_
  ·walk_at "rdm";refine⟨_,.inl (aE.of hl.l),?_⟩;rw[aK,hn];exact q
  ·intro D hD;exact⟨none,[],rfl,rfl,aD,aq.put hD,hD,bu _,∅,λ_ h=>nomatch h⟩
  ·rintro D i ys aA H2 ⟨u,ks,rfl,rfl,e1,e2,e3,e4,e5,e6⟩;exact⟨e1,jr (by rw[aK];lia)⟩
  ·rintro D i ys aA H2 N hN hi ⟨u,ks,rfl,rfl,e1,e2,e3,e4,e5,e6⟩;have gG:i<qs.length:=by simpa using hi
   have oA:=hl.same e2;have vI:ts[i]? = some ts[i]:=bx ∅
   obtain⟨m,b,hk⟩:=oA.t i ts[i] qs[i] vI (bx gG);walk_at "rdm";refine⟨_,aE.of oA.l,_,gT (by rw[gR,vI];rfl),_,rfl,_,aY.of hk.o,_,rfl,?_⟩
   walk_at "rdm";refine dX (λ_=>⟨e1,hN _ _ _ ⟨_,ks++[i],by rw[bO];rfl,rfl,aD,aq.put2 e2 e3,e3,by simp;lia,∅,λk hk=>?_⟩⟩) λ_=>hN _ _ _ ⟨_,ks,rfl,rfl,e1,e2,e3,∅,∅,e6⟩
   rcases cF.mp hk with hk | hk
   ·exact e6 k hk
   ·rw[cj.mp hk];lia
  ·rintro D ys aA H2 ⟨u,ks,rfl,rfl,e1,e2,e3,e4,e5,e6⟩;have emp:∀p:Addr,H2 p=none->Q (V.ref p) (upd H2 p (.tup [])):=λp np=>q p [] _ (e2.trans (aq.put np)) (e2.free np) aD kZ.nil;refine⟨D,rfl,_,.inl (aE.of e1),dX (λ_=>emp) λh1=>dX (λ_=>emp) λh2=>?_⟩
   rw[aK] at h1;have h0:0<(ks.length:Int):=by lia
   have d1:=dH c 59 (m:=(ks.length:Int)) h0;have d2:=dH c 60 (m:=(ks.length:Int)) h0;obtain⟨i1,hi1⟩:∃i1:Nat,bf c 59 (ks.length:Int)=(i1:Int):=⟨_,(nY d1.1).symm⟩;obtain⟨i2,f_⟩:∃i2:Nat,bf c 60 (ks.length:Int)=(i2:Int):=⟨_,(nY d2.1).symm⟩;have l1:i1<ks.length:=by lia
   have l2:i2<ks.length:=by lia
   have a1:dP (ks.map λ(k:Nat)=>V.int (k:Int)) (i1:Int)=some (.int (ks[i1]:Int)):=gT (by rw[gR,bx l1];rfl)
   have a2:dP (ks.map λ(k:Nat)=>V.int (k:Int)) (i2:Int)=some (.int (ks[i2]:Int)):=gT (by rw[gR,bx l2];rfl)
   refine⟨D,rfl,_,.inl (aE.of e1),by rw[aK];exact h0,D,rfl,_,aE.of e1,_,by rw[aK,hi1];exact a1,D,rfl,_,.inl (aE.of e1),by rw[aK];exact h0,D,rfl,_,aE.of e1,_,by rw[aK,f_];exact a2,λp np=>⟨ks[i1],ks[i2],aE.of aD,e6 _ (cU l1),e6 _ (cU l2),λL ns nL pm sd=>?_⟩⟩
   have sA:=(e2.trans (aq.put (o:=.lst [V.int (ks[i1]:Int),V.int (ks[i2]:Int)]) np)).trans (aq.put (o:=.lst (ns.map V.int)) nL);exact⟨_,.inl ⟨aE.of aD,λb nb=>q b ns _ (sA.trans (aq.put nb)) (sA.free nb) aD (age (e6 _ (cU l1)) (e6 _ (cU l2)) pm sd)⟩⟩
theorem Zx:bg P w K mg base bw 3 A.LR A.LS ["first", "many", "at", "asker", "latest", "behind"] (ad7 K):=by
 refine T.Ow.ok ahJ (λvs H Q E h=>?_) (λaQ Ar outer s H vs Q E hr h=>?_)
 ·obtain⟨f,m,a,s',l,b,ns,rfl,_⟩:=h
  rfl
 ·obtain⟨f,m,a,s',l,b,ns,rfl,hB,hS,hR,q⟩:=h;refine⟨_,(aC (cY (aP (tW T aH) (hr.mono ⋯) rfl T.tO T.rS.kp T.tN .nil aJ (ao (ah 0) (ao az (ao (i6 (v:=.int 1000000) rfl T.akL ⟨_,rfl⟩) (ao dh au))))))
   (aC (cY (aP (tW T aH) (hr.mono ⋯) rfl T.tO T.rS.kp T.tN .nil aJ (ao (ah 1) (ao az (ao (i6 (v:=.int 16) rfl T.akK ⟨_,rfl⟩) (ao dh au))))))
   (aC (cY (aP (tW T aH) (hr.mono ⋯) rfl T.tO T.rS.kp T.tN .nil aJ (ao (ah 2) (ao az (ao (i6 (v:=.int 1000000000000) rfl T.YN ⟨_,rfl⟩) (ao dh au))))))
   (aC (cY (aP (tW T aH) (hr.mono ⋯) rfl T.tO T.rS.kp T.tN .nil aJ (ao (ah 3) (ao az (ao (i6 (v:=.int 20) rfl T.akN ⟨_,rfl⟩) (ao dh au))))))
   (aC (d8 (c7 abZ (ah 4) pR (bG _)) (aI (cY (aP (tW T aH) (hr.mono ⋯) rfl T.tO T.rS.kp T.tN .nil aJ (ao (ah 4) (ao az (ao (i6 (v:=.int 10000000000000) rfl T.akO ⟨_,rfl⟩) (ao dh au))))))) cC)
   (aI (cY (aP (alE T aH) (hr.mono ⋯) rfl T.aid T.Xn.kp T.aic .nil aJ (ao (ah 5) au))))))))),?_⟩
  walk_at "rdm";refine⟨_,_,_,_,rfl,hB.f0,hB.f1,_,_,_,_,rfl,hB.m0,hB.m1,_,_,_,_,rfl,hB.a0,hB.a1,_,_,_,_,rfl,hB.s0,hB.s1,?_⟩
  try dsimp only
  cases l with
  | none=>exact ite_no (by simp[mW]) ⟨b,ns,rfl,hS,hR,q⟩
  | some x=>exact ite_yes (by simp[mW]) ⟨x,0,10000000000000,_,rfl,(hB.l x rfl).1,(hB.l x rfl).2,b,ns,rfl,hS,hR,q⟩
theorem alT:bg P w K mg base bw 3 A.L0 A.L3 ["at"] (aea K A.bI):=by
 refine T.Xv.ok ahL (λvs H Q E h=>?_) (λaQ Ar outer s H vs Q E hr h=>?_)
 ·obtain⟨a,rfl,_⟩:=h
  rfl
 ·obtain⟨a,rfl,a0,a1,q⟩:=h;refine⟨_,(aC (cY (aP (tW T aH) (hr.mono ⋯) rfl T.tO T.rS.kp T.tN .nil aJ (ao (ah 0) (ao az (ao (i6 (v:=.int 1000000000000) rfl T.YN ⟨_,rfl⟩) (ao dh au))))))
   (aI (bJ (qP T.OD (O0 T aH) (hr.mono ⋯) rfl T.OE T.Ov .nil aJ (ao dh (ao az (ao az (ao (dO au) (ao (ah 0) (ao az (ao pR (ao (dO au) (ao mD au))))))))))))),?_⟩
  walk_at "rdt";refine⟨_,_,_,_,rfl,a0,a1,?_⟩
  try dsimp only
  intro m nm b nb x dx nx mX fH;refine⟨x,dx,_,_,_,_,_,_,_,_,_,rfl,aD,rfl,?_⟩;obtain⟨a1,a2,a3⟩:=IK (K:=K) (C:=A.bI) (q:=⟨"rest",0,0,[],a,0,none,[],false⟩) ((aq.put nm).trans (aq.put nb)) nx mX fH (aq.put nb _ _ aD) aD;exact q _ _ _ _ _ a1 a2 a3
theorem Zy:bg P w K mg base bw 3 A.L_ A.Ma ["plate", "number", "ask"] (afw K [A.bH,A.bE] A.bI):=by
 refine T.Oz.ok ahO (λvs H Q E h=>?_) (λaQ Ar outer s H vs Q E hr h=>?_)
 ·obtain⟨C,p,ap,k,P,fp,q',m,b,dx,rfl,_⟩:=h
  rfl
 ·obtain⟨C,p,ap,k,P,fp,q',m,b,dx,rfl,hC,hP,ha,hf,hn,q⟩:=h;refine⟨_,(aI (aen rfl (bJ (aP (alF T aH) (hr.mono ⋯) rfl T.aio T.Xx.kp T.ain .nil aJ (ao (ah 0) (ao (ah 2) au)))))),?_⟩
  walk_at "rdt";exact⟨C,p,ap,P,fp,q',m,b,dx,rfl,hC,hP,ha,hf,hn,q⟩
theorem alU:bg P w K mg base bw 3 A.Mn A.Mp ["plate", "ring", "place", "beat"] (adQ K [A.bH,A.bE]):=by
 refine T.XF.ok ahR (λvs H Q E h=>?_) (λaQ Ar outer s H vs Q E hr h=>?_)
 ·obtain⟨C,p,P,fp,r,c,b,rfl,_⟩:=h
  rfl
 ·obtain⟨C,p,P,fp,r,c,b,rfl,hC,hP,ok,h0,h1,h5,h6,q⟩:=h;obtain⟨dx,a1,a2,a3,a4,ts,fs,E1,h⟩:=id hP;have AY:=ok.c r.toNat ∅
  have hl:=ok.aG;have hn:=ok.n1;refine⟨_,(aI (bJ (aN gZ (ah 3) (aN Hj (aN sS (xg (ah 0) T.ak4 (alK T aH) (hr.mono ⋯) T.ajo .nil aJ (ao (ah 1) (ao (ah 2) au))) (ah 3)) (adM (ah 0) T.ak3 (alm T aH) (hr.mono ⋯) T.ajk .nil aJ))))),?_⟩
  wp_walk using h.o,h.f1,h.f2,h.f3,h.f4,h.f5,h.f6,h.m1,h.m2,h.m3,h.m4,h.m5,h.m6,h.m7,h.m8,h.m9,h.jv,h.jw,h.cp.cl,h.cp.n1,h.cp.n2,h.cp.n3,h.cp.n4,h.cp.n5,h.cp.n6;refine⟨hC,C,p,P,fp,r,c,rfl,hC,hP,h0,h1,hn,∅,AY.2,h5,h6,∅,?_⟩
  wp_walk using h.o,h.f1,h.f2,h.f3,h.f4,h.f5,h.f6,h.m1,h.m2,h.m3,h.m4,h.m5,h.m6,h.m7,h.m8,h.m9,h.jv,h.jw,h.cp.cl,h.cp.n1,h.cp.n2,h.cp.n3,h.cp.n4,h.cp.n5,h.cp.n6;refine⟨hC,C,p,P,fp,rfl,hP,?_⟩;walk_at "rdm";exact⟨∅,q⟩
theorem Zz:bg P w K mg base bw 3 A.Ew A.M5 ["self", "zones", "lap", "skew", "swing"] (adB K):=by
 refine T.ajc.ok ahV (λvs H Q E h=>?_) (λaQ Ar outer s H vs Q E hr h=>?_)
 ·obtain⟨C,p,dx,za,sa,oH,z,aG,cM,sw,rfl,_⟩:=h
  rfl
 ·obtain⟨C,p,dx,za,sa,oH,z,aG,cM,sw,rfl,cp,hp,hz,ok,h1,h2,h3,h4,hd,hS,so,q⟩:=h;refine⟨_,(aC (cY (aP (alh T aH) (hr.mono ⋯) rfl T.ai4 T.XO.kp T.ai3 .nil aJ (ao (ah 1) au)))
   (aC (cY (aP (ali T aH) (hr.mono ⋯) rfl T.ai6 T.XQ.kp T.ai5 .nil aJ (ao (ah 1) (ao (ah 2) (ao (ah 3) au)))))
   (aC (gb (ah 0) (aP (alk T aH) (hr.mono ⋯) rfl T.ajb T.XT.kp T.aja .nil aJ (ao (ah 1) au)) rfl)
   (aC (cY (aP (alJ T aH) (hr.mono ⋯) rfl T.ai8 T.XR.kp T.ai7 .nil aJ (ao (ah 4) (ao (bY fL rfl T.dB dN (ao (bT (ah 0) rfl) au)) au))))
   (aC (gb (ah 0) (ah 2) rfl)
   (aC (gb (ah 0) (ah 3) rfl)
   (aC (gb (ah 0) (pX TU rfl T.AW boot_list (ao (ah 4) au)) rfl)
   (aC (gb (ah 0) (aP (YX T aH) (hr.mono ⋯) rfl T.XW T.OA.kp T.XU .nil aJ (ao (bT (ah 0) rfl) (ao az au))) rfl)
   (aI (gb (ah 0) (aP (YZ T aH) (hr.mono ⋯) rfl T.XY T.OB.kp T.XX .nil aJ (ao (bT (ah 0) rfl) au)) rfl)))))))))),?_⟩
  wp_walk using cp.cl,cp.n1,cp.n2,cp.n3,cp.n4,cp.n5,cp.n6;refine⟨za,oH,z,rfl,hz,ok,λH1 s1=>⟨za,oH,z,aG,cM,rfl,hz.same s1,ok,h1,h2,h3,h4,hd,?_⟩⟩;refine⟨za,oH,z,rfl,hz.same s1,ok,λa1 H2 s2 n1 e1=>?_⟩;have qX:=(s1.trans s2) _ _ hp;have e8:a1≠p:=(b7 (s1 _ _ hp) n1).symm;have cl:=wZ z λp hp=>(ok.r p hp).1;have alV:=ok.Dg;have c2:=ok.s2;have lR:SameBut p H H2:=.of (s1.trans s2);have fr1:H a1=none:=s1.free n1;wp_walk using cp.cl,cp.n1,cp.n2,cp.n3,cp.n4,cp.n5,cp.n6,qX;refine⟨_,.inl (aE.of ((aB e8).trans e1)),?_⟩;have Pd:∀ {H':Hp},SameBut p H H'->aE K H' sa (sw.map V.int):=λ{H'} sb=>by
   rcases hS with(h | ⟨o,h⟩) | h
   ·exact .inl (.inl (sb _ _ h (jH h hp (by intro z;cases z))))
   ·exact .inl (.inr ⟨o,sb _ _ h (jH h hp (by intro z;cases z))⟩)
   ·exact .inr h
  refine⟨sa,sw,_,rfl,Pd lR.put,?_,?_,?_⟩
  ·simpa only[List.length_map,cl] using so
  ·simp only[List.length_map];lia
  wp_walk using cp.cl,cp.n1,cp.n2,cp.n3,cp.n4,cp.n5,cp.n6;refine⟨_,.inl (Pd lR.put),λa2 n2=>?_⟩;have qz:p≠a2:=b7 aD n2;have A7:H2 a2=none:=by rw[aB qz.symm] at n2;exact n2
  wp_walk using cp.cl,cp.n1,cp.n2,cp.n3,cp.n4,cp.n5,cp.n6,aB qz;have na2:a1≠a2:=b7 e1 A7;have l7:SameBut p H (upd (upd (upd H2 p (HO.ins C dx [(Str.ofString "ring_cells",V.ref a1),(Str.ofString "lap",V.int aG),(Str.ofString "skew",V.int cM)])) a2 (HO.lst (List.map V.int sw))) p
   (HO.ins C dx [(Str.ofString "ring_cells",V.ref a1),(Str.ofString "lap",V.int aG),(Str.ofString "skew",V.int cM),(Str.ofString "swing",V.ref a2)])):=(lR.put.step (aq.put n2)).put
  have UA:=e1;have fr2:H a2=none:=(s1.trans s2).free A7;generalize Pe:upd (upd (upd H2 p _) a2 _) p _=H3 at l7 ⊢;have p3:H3 p=some (HO.ins C dx [(Str.ofString "ring_cells",V.ref a1),(Str.ofString "lap",V.int aG),(Str.ofString "skew",V.int cM),(Str.ofString "swing",V.ref a2)]):=by rw[← Pe,aD]
  have q1:H3 a1=some (.lst ((counts z).map V.int)):=by rw[← Pe,aB e8,aB na2,aB e8];exact e1
  have q2:H3 a2=some (.lst (sw.map V.int)):=by rw[← Pe,aB qz.symm,aD]
  have cm:∀c∈counts z,0<=c/\c<=1000:=λc hc=>by
   obtain⟨y,hy,rfl⟩:=w6 hc;have:=ok.r y hy;lia
  refine⟨a1,counts z,0,rfl,aE.of q1,∅,cm,⋯,⋯,λa3 ts H4 s4 n3 gO z4=>?_⟩
  have p4:=s4 _ _ p3;have Pf:a3≠p:=(b7 p3 n3).symm;have uM:H a3=none:=by
   cases e:H a3 with
   | none=>rfl
   | some o=>rw[l7 _ _ e Pf] at n3;cases n3
  have Pg:∀t∈ts,t≠p:=λt ht=>(b7 p3 (gO t ht)).symm;have frt:∀t∈ts,H t=none:=λt ht=>by
   cases e:H t with
   | none=>rfl
   | some o=>have:=l7 _ _ e (Pg t ht);rw[gO t ht] at this;cases this
  wp_walk using cp.cl,cp.n1,cp.n2,cp.n3,cp.n4,cp.n5,cp.n6,p4;have z5:=z4.keep (H':=upd H4 p (HO.ins C dx [(Str.ofString "ring_cells",V.ref a1),(Str.ofString "lap",V.int aG),(Str.ofString "skew",V.int cM),(Str.ofString "swing",V.ref a2),(Str.ofString "number_cells",V.ref a3)])) (aB Pf) λt ht=>aB (Pg t ht);have zl:(cL (counts z) 0).length<=1000000:=by
   have:=Dh (s:=0) ⋯ (counts z) 0 cm
   have e:(counts z).length<=120:=by lia
   unfold cL;lia
  refine⟨a3,ts,_,rfl,z5,zl,λa4 H5 s5 n4 e4=>?_⟩;have Ph:a4≠p:=(b7 aD n4).symm;have sb5:SameBut p H H5:=((l7.step s4).put).step s5;have ZA:H4 a4=none:=by rw[aB Ph] at n4;exact n4
  have fr4:H a4=none:=by
   cases e:H a4 with
   | none=>rfl
   | some o=>rw[(l7.step s4) _ _ e Ph] at ZA;cases ZA
  wp_walk using cp.cl,cp.n1,cp.n2,cp.n3,cp.n4,cp.n5,cp.n6,s5 _ _ aD;refine q _ dx a1 a2 a3 a4 ts sb5.put ?_ aD (q8.lit cp aD ?_ ?_ ?_ ?_)
  ·intro b hb;simp only[List.mem_cons] at hb;rcases hb with rfl | rfl | rfl | rfl | hb
   ·exact fr1
   ·exact fr2
   ·exact uM
   ·exact fr4
   ·exact frt b hb
  ·rw[aB e8];exact s5 _ _ ((aB e8).trans (s4 _ _ q1))
  ·rw[aB qz.symm];exact s5 _ _ ((aB qz.symm).trans (s4 _ _ q2))
  ·exact(z5.same s5).keep (aB Pf) λt ht=>aB (Pg t ht)
  ·rw[aB Ph];exact e4
theorem alW:bg P w K mg base bw 3 A.Np A.Nq ["ring_cells", "spares", "number_cells", "bad_cells"] (ae4 K A.gf (rq iS) (rB "nearest_rings")):=by
 refine T.X8.ok x9 (λvs H Q E h=>?_) (λaQ Ar outer s H vs Q E hr h=>?_)
 ·obtain⟨ra,na,d,sp,rc,ts,z,bz,rfl,_⟩:=h
  rfl
 ·obtain⟨ra,na,d,sp,rc,ts,z,bz,rfl,E4,h2,jN,s0,s1,hc,hz,hlen,hd,xE,ZC,tab,en,q⟩:=h;have hu:=i7 hr;refine⟨_,(aC (aX (i:=4) x9.nd rfl OL_ (eZ au))
   (aC (aX (i:=5) x9.nd rfl OL_ (pX aeV rfl T.EW boot_dict (ao (pv 3) au)))
   (aC (dU dF rfl (gM (aP (alr T aH) (hr.mono ⋯) rfl T.ajI T.X5.kp T.ajH .nil aJ (ao (pv 2) (ao (pv 3) au)))) (br (i:=6) x9.nd rfl OL_)
   (aC (aX (i:=7) x9.nd rfl OL_ (aZ mL (pv 2) (pv 6) (λ_ _=>rfl)))
   (aC (aX (i:=8) x9.nd rfl OL_ (aP (alM T aH) (hr.mono ⋯) rfl T.ajM T.X7.kp T.ajL .nil aJ (ao (pv 0) (ao (pv 1) (ao (aZ lM (pv 7) az (λ_ _=>rfl)) (ao (pv 5) au))))))
   (aC (d8 (c7 SO (pv 8) pR (bG _)) fZ cC)
   (aC (uY hu (pv 5) (pv 8) mD rfl)
   (aI (cY (kh jY mq mz lN (pv 4) (ao (dO (ao (pv 6) (ao (pv 7) (ao (pv 8) au)))) au)))))))))
   (aI (bJ (pv 4)))))),?_⟩
  walk_at "rdm";refine λl hl=>?_;have bk:(fG bz).map (λx=>x.1)=bz.map kT:=by unfold fG;rw[List.map_map];rfl
  refine⟨_,aq.put hl _ _ hd,by rw[bk];exact xE,λu nu=>?_⟩
  have Pj:=(aq.put (o:=.lst []) hl).trans (aq.put (o:=.dT (fG bz)) nu);have nuH:H u=none:=(aq.put (o:=.lst []) hl).free nu;refine Il ?_;walk_at "rdm";refine⟨na,d,ts,z,fG bz,rfl,hz.same Pj,hlen,Pj _ _ hd,λb H2 s2 nb eb=>⟨b,rfl,?_⟩⟩;rw[DM,nZ] at eb;have s3:=Pj.trans s2;have el:H2 l=some (.lst []):=s2 _ _ (aq.put nu _ _ aD);have eu:H2 u=some (.dT (fG bz)):=s2 _ _ aD;have lu:l≠u:=b7 aD nu;have lq:b≠l:=(b7 (aq.put nu _ _ aD) nb).symm;have hbu:b≠u:=(b7 aD nb).symm;refine w_.by b ((cV bz 0 z).map (V.int ∘ λ(n:Nat)=>(n:Int))) (λi σ H'=>∃x y w us os ms,σ = [some (.ref ra),some (.int sp),some (.ref na),some (.ref d),some (.ref l),some (.ref u),x,y,w]/\Kp A.gf (rq iS) (rB "nearest_rings") H H'/\
    H' b=some (.lst ((cV bz 0 z).map (V.int ∘ λ(n:Nat)=>(n:Int))))/\H' u=some (.dT (fG (bz++ms.map λm=>m.2.2)))/\lg rc sp z bz ((cV bz 0 z).take i) ms/\jR H' l ts us os ms/\∀t∈os,H t=none)
   (aE.of eb) ⟨none,none,none,[],[],[],rfl,Kp.of tab s3,eb,by simpa using eu,.nil,⟨el,rfl,rfl,λi u m e=>by cases e⟩,λt z=>by cases z⟩ (by rintro i σ H' _ ⟨x,y,w,us,os,ms,rfl,k,hb,_⟩;exact aE.of hb) ?_ ?_
  ·rintro i x σ H' N hN hx ⟨x0,y0,w0,us,os,ms,rfl,k,hb,yl,hL,hM,qT⟩;obtain⟨n,hn,rfl⟩:=iL hx;obtain⟨_,c,E7,hcb⟩:=Jq (get_mem hn);rw[Nat.sub_zero] at E7;have eW:Zn H' na ts z:=⟨k.get tab hz.l,hz.n,λi t p e1 e2=>k.get tab (hz.t i t p e1 e2)⟩;wp_walk using Function.comp_apply;have hnl:n<ts.length:=by rw[hz.n];exact gH E7
   obtain⟨t,g1⟩:∃t,ts[n]? = some t:=⟨_,bx hnl⟩;have g2:(ts.map V.ref)[n]? = some (V.ref t):=by rw[gR,g1];rfl
   have ht:=eW.t n t c g1 E7;have alX:=hL.len;rw[fc] at alX;have vG:=gH hn;have bl:=ae2 bz z;refine⟨_,eW.sq,_,gT g2,t,rfl,_,aY.of ht,_,rfl,?_⟩;refine⟨ra,u,c.1,sp,rc,bz++ms.map (λm=>m.2.2),rfl,k.seq tab E4,h2,jN,s0,s1,hc,yl,k.t,λis H3 ord k3=>⟨λz=>absurd z (en _ _ _ (by rw[aK];lia) ord),λo to hf nto Pn=>?_⟩⟩
   have vM:=k3.get k.t yl;have ho:=aeX hf;have hM3:=hM.but k.t k3;have ZD:=hM3.other (o:=.dT (putK (fG (bz++ms.map λm=>m.2.2)) (kT o) (.bl true))) ⟨_,vM⟩;have kA:=(k.trans k3).put (o:=.dT (putK (fG (bz++ms.map λm=>m.2.2)) (kT o) (.bl true))) nuH vM;have l4:=ZD.l;refine⟨(by intro z;cases z),_,kP.t (k:=kT o) vM Pn (by rw[mT,fG,aK,fE,aK];lia),⟨_,aE.of l4⟩,λp np=>?_⟩
   have uc:=aq.put (o:=HO.tup [V.int (n:Int),V.ref t,V.ref to]) np;have e9:fG (bz++(ms++[(n,c,o)]).map λm=>m.2.2)=putK (fG (bz++ms.map λm=>m.2.2)) (kT o) (.bl true):=by
    rw[ae3 _ ho,bO,← qD];rfl
   have t3:=k3.get k.t ht;refine⟨_,uc _ _ l4,by rw[aK,hM.n];lia,hN _ _ ⟨_,_,_,us++[p],os++[to],ms++[(n,c,o)],rfl,?_,?_,?_,?_,?_,?_⟩⟩
   ·exact(kA.step uc).put hl (uc _ _ l4)
   ·rw[aB lq];refine uc _ _ ?_;rw[aB hbu];exact k3.get k.t hb
   ·rw[aB lu.symm,e9];exact uc _ _ aD
   ·rw[take_succ_get hn];exact hL.snoc E7 ord hf
   ·refine(ZD.same uc).snoc (m:=(n,c,o)) aD g1 (uc _ _ ?_) (uc _ _ ?_)
    ·rw[aB (jH t3 vM (by intro z;cases z))];exact t3
    ·rw[aB (jH Pn vM (by intro z;cases z))];exact Pn
   ·intro t' jE;rcases cF.mp jE with h' | h'
    ·exact qT t' h'
    ·rw[cj.mp h'];exact k.free nto
  ·rintro σ H' ⟨x,y,w,us,os,ms,rfl,k,hb,yl,hL,hM,qT⟩;walk_at "rdm";rw[aK,eG] at hL;exact q l us os ms H' k hl qT hL hM
theorem alY:bg P w K mg base bw 3 A.Oe A.Of ["_law_cell_here", "_law_row_here", "_law_beat", "_law_world", "_law_askers_here"] (agF K):=by
 refine T.Yn.ok qu (λvs H Q E h=>?_) (λaQ Ar outer s H vs Q E hr h=>?_)
 ·obtain⟨c,lz,l,t,aa,ts,qs,rc,aG,sk,sw,ca,sa,na,gO,nc,as,rfl,_⟩:=h
  rfl
 ·obtain⟨c,lz,l,t,aa,ts,qs,rc,aG,sk,sw,ca,sa,na,gO,nc,as,rfl,hl,D0,hw,n1,nM,l1,l2,ha,a1,ue,b0,b1,q⟩:=h;refine⟨_,(aC (b_ (aX (i:=5) qu.nd rfl OL_ (eZ (ao dh (ao dh (ao dh (ao dh (ao dh (ao dh (ao dh (ao dh (ao dh (ao dh (ao dh au))))))))))))))
   (aC (b_ (rG (aX (i:=6) qu.nd rfl OL_ (aZ c8 (ah 5) (aP (cT T aH) (hr.mono ⋯) rfl T.cS T.cJ.kp T.cR .nil aJ (ao (ah 0) (ao az (ao az au)))) (λ_ _=>rfl)))))
   (aC (b_ (d8 (c7 mH (ah 6) dh (bG _)) (aI (bJ (dO (ao dh (ao az (ao az (ao (dO au) (ao (ah 2) (ao az (ao pR (ao (dO au) (ao mD au)))))))))))) cC))
   (aC (b_ (aX (i:=7) qu.nd rfl OL_ (bY qV rfl T.dB dN (ao (aZ gQ (ah 3) az (λ_ _=>rfl)) au))))
   (aC (b_ (aX (i:=8) qu.nd rfl OL_ (aP (cT T aH) (hr.mono ⋯) rfl T.cS T.cJ.kp T.cR .nil aJ (ao (ah 0) (ao az (ao (ah 7) au))))))
   (aC (b_ (aX (i:=9) qu.nd rfl OL_ (aN gZ az (aP (cT T aH) (hr.mono ⋯) rfl T.cS T.cJ.kp T.cR .nil aJ (ao (pv 0) (ao az (ao (bY (CJ rfl) rfl T.qw sy (ao (aZ mL (eZ (ao az (ao az (ao az (ao az au))))) (aP (cT T aH) (hr.mono ⋯) rfl T.cS T.cJ.kp T.cR .nil aJ (ao (pv 0) (ao az (ao az au)))) (λ_ _=>rfl)) (ao (aN sS (pv 7) (pv 8)) au))) au)))))))
   (aC (b_ (rG (aX (i:=10) qu.nd rfl OL_ (pX zA rfl T.vD yM (ao (ku (N:=["_law_k", "_law_cell_here"]) (nt:=1) (fv:=[0]) ‹eE.of› rfl (j5 rfl T.gu (ao (ah 9) au)) (λC s H fp=>(br (i:=0) (show List.Nodup (["_law_k", "_law_cell_here"]:List Str) by decide +kernel) rfl OL_)) (λC s H fp=>kq) (λC s H fp=>(aN qq (aN jU (aN eF (ah 1) (ah 0)) az) (aN eF (aN zj az az) az)))) au)))))
   (aC (b_ (aX (i:=11) qu.nd rfl OL_ (aZ c8 (ah 4) (aP (cT T aH) (hr.mono ⋯) rfl T.cS T.cJ.kp T.cR .nil aJ (ao (ah 0) (ao az (ao (bY fL rfl T.dB dN (ao (ah 4) au)) au)))) (λ_ _=>rfl))))
   (aC (b_ (aX (i:=12) qu.nd rfl OL_ (eZ (ao pR (ao (aP (cT T aH) (hr.mono ⋯) rfl T.cS T.cJ.kp T.cR .nil aJ (ao (ah 0) (ao az (ao az au)))) (ao (aN eF (ah 2) (aP (cT T aH) (hr.mono ⋯) rfl T.cS T.cJ.kp T.cR .nil aJ (ao (ah 0) (ao az (ao (aN gZ (aN CI az (aZ gQ (ah 3) az (λ_ _=>rfl))) az) au))))) au))))))
   (aC (b_ (rG (aX (i:=12) qu.nd rfl OL_ (aZ mL (aN HJ (ah 12) (eZ (ao (aN qo (aN zj az az) (aP (cT T aH) (hr.mono ⋯) rfl T.cS T.cJ.kp T.cR .nil aJ (ao (ah 0) (ao az (ao az au))))) au))) (aP (cT T aH) (hr.mono ⋯) rfl T.cS T.cJ.kp T.cR .nil aJ (ao (ah 0) (ao az (ao az au)))) (λ_ _=>rfl)))))
   (aC (d8 (c7 mH (ah 6) dh (bG _)) (aI (bJ (dO (ao dh (ao (ah 8) (ao (ah 9) (ao (dO au) (ao (ah 2) (ao (ah 11) (ao (ah 12) (ao (aP (Zw T aH) (hr.mono ⋯) rfl T.Ym T.OC.kp T.Yl .nil aJ (ao (ah 0) (ao (ah 1) au))) (ao mD au)))))))))))) cC)
   (aI (bJ (dO (ao dh (ao (ah 8) (ao (ah 9) (ao (ah 10) (ao (ah 2) (ao (ah 11) (ao (ah 12) (ao (aP (Zw T aH) (hr.mono ⋯) rfl T.Ym T.OC.kp T.Yl .nil aJ (ao (ah 0) (ao (ah 1) au))) (ao (wL mH (ah 6) dh (bG _)) au))))))))))))))))))))))),?_⟩
  refine cD λN1 h1=>?_;wp_walk using bU;intro p np;have s1:=aq.put (o:=.lst [V.str "read",V.str "read",V.str "write",V.str "read",V.str "write",V.str "early",V.str "write",V.str "early",V.str "read",V.str "write",V.str "rest"]) np;have hp:upd H p (.lst [V.str "read",V.str "read",V.str "write",V.str "read",V.str "write",V.str "early",V.str "write",V.str "early",V.str "read",V.str "write",V.str "rest"]) p=some (.lst [V.str "read",V.str "read",V.str "write",V.str "read",V.str "write",V.str "early",V.str "write",V.str "early",V.str "read",V.str "write",V.str "rest"]):=aD;generalize upd H p (.lst [V.str "read",V.str "read",V.str "write",V.str "read",V.str "write",V.str "early",V.str "write",V.str "early",V.str "read",V.str "write",V.str "rest"])=H1 at s1 hp ⊢;refine h1 _ _ ?_;clear h1 N1;obtain⟨E8,hso,hk⟩:∃so:Str,dP [V.str "read",V.str "read",V.str "write",V.str "read",V.str "write",V.str "early",V.str "write",V.str "early",V.str "read",V.str "write",V.str "rest"] (bf c 54 11)=some (.str so)/\(so = "rest"\/so = "read"\/so = "write"\/so = "early"):=by
   have b:=dH c 54 (m:=11) ⋯
   have:bf c 54 11=0\/bf c 54 11=1\/bf c 54 11=2\/bf c 54 11=3\/bf c 54 11=4\/bf c 54 11=5\/bf c 54 11=6\/bf c 54 11=7\/bf c 54 11=8\/bf c 54 11=9\/bf c 54 11=10:=by lia
   rcases this with e | e | e | e | e | e | e | e | e | e | e <;> rw[e] <;> exact⟨_,rfl,by simp⟩
  refine cD λN2 h2=>?_;wp_walk using bU;refine⟨λσ H'=>σ = [some (.int c),some (.ref l),some (.int lz),some (.ref t),some (.ref aa),some (.ref p),some (.str E8),none,none,none,none,none,none]/\H' = H1,⟨_,aE.of hp,_,hso,rfl,rfl⟩,?_⟩;rintro σ H' ⟨rfl,rfl⟩;refine h2 _ _ ?_;clear h2 N2;refine cD λN3 h3=>?_;wp_walk using bU;have ZE:=hw.same s1;refine dX (λhr=>λe1 Po e2 A7 e3 lD=>?_) λhr=>h3 _ _ ?_
  ·have sA:=aq.put (o:=.tup []) Po;have sB:=sA.trans (aq.put (o:=.tup []) A7);have sC:=(s1.trans sB).trans (aq.put (o:=.tup [V.str "rest",V.int 0,V.int 0,V.ref e1,V.int lz,V.int 0,V.aR,V.ref e2,V.bl false]) lD);refine q e3 ⟨"rest",0,0,[],lz,0,none,[],false⟩ e1 e2 _ sC (((s1.trans sB)).free lD) ⟨aD,aq.put lD _ _ (aq.put A7 _ _ aD),aq.put lD _ _ aD⟩ ⟨.inl rfl,(λ_=>rfl),(λz=>absurd rfl z),b0,⟨iW _,by show (0:Int)<=20;decide⟩,(λ_ z=>nomatch z),kZ.nil,(λ_ z=>nomatch z),(λz=>absurd (show ("rest" : Str) = "read" from z) ⋯),(λz=>absurd (show ("rest" : Str) = "write" from z) ⋯)⟩ rfl (.inl rfl)
  clear h3 N3;have ncl:(gO.map V.ref).length=nc.length:=by rw[aK,hw.n.n]
  refine cD λN4 h4=>?_;wp_walk using bU;refine⟨_,aY.of ZE.o,_,rfl,na,rfl,_,.inl ZE.n.sq,h4 _ _ ?_⟩;clear h4 N4;rw[ncl];refine cD λN5 h5=>?_;wp_walk using bU;refine⟨∅,h5 _ _ ?_⟩
  clear h5 N5;have f0:=dH c 55 (m:=(nc.length:Int)) ∅
  generalize bf c 55 (nc.length:Int)=f at f0 ⊢;refine cD λN6 h6=>?_;wp_walk using bU;intro o1 t_;obtain⟨x,hx,x0,x1⟩:∃x:Int,dP [V.int 3,V.int 3,V.int 3,V.int 16] (bf c 57 4)=some (.int x)/\3<=x/\x<=16:=by
   have b:=dH c 57 (m:=4) ⋯
   have:bf c 57 4=0\/bf c 57 4=1\/bf c 57 4=2\/bf c 57 4=3:=by lia
   rcases this with e | e | e | e <;> rw[e] <;> exact⟨_,rfl,⋯,⋯⟩
  obtain⟨e,he,e0,ex,el⟩:∃e:Int,(if (nc.length:Int) - f<x then(nc.length:Int) - f else x)=e/\0<e/\e<=x/\e<=nc.length - f:=by
   refine⟨_,rfl,?_,?_,?_⟩ <;> (split <;> lia)
  have g1:=dH c 56 e0;obtain⟨mn,ZF,m1,ZG,mf⟩:∃mn:Int,1+bf c 56 e=mn/\1<=mn/\mn<=16/\f+mn<=nc.length:=⟨_,rfl,∅,∅,∅⟩
  have so:=aq.put (o:=.lst [V.int 3,V.int 3,V.int 3,V.int 16]) t_;refine⟨_,aE.of aD,_,hx,x,rfl,?_⟩;rw[he,ZF];refine⟨e0,h6 _ _ ?_⟩;clear h6 N6;generalize upd H' o1 (.lst [V.int 3,V.int 3,V.int 3,V.int 16])=H2 at so ⊢;have s2:=s1.trans so;clear hx x0 x1 ZF g1 he e0 ex el;refine cD λN7 h7=>?_;wp_walk using bU;refine⟨λσ H3=>∃(ma:Addr) (ms:List Int),σ = [some (.int c),some (.ref l),some (.int lz),some (.ref t),some (.ref aa),some (.ref p),some (.str E8),some (.int (nc.length:Int)),some (.int f),some (.int mn),some (.ref ma),none,none]/\aq H2 H3/\H3 ma=some (.tup (ms.map V.int))/\(ms.length:Int)=mn/\∀x∈ms,0<=x/\x<=1000000000,?_,?_⟩
  ·refine xh mn (λD j ys aA HA=>∃(v:Option V) (ms:List Int),ys=ms.map V.int/\ms.length=j/\(∀x∈ms,0<=x/\x<=1000000000)/\aA = [v,some (.int c)]/\HA D=some (.lst ys)/\aq H2 HA/\H2 D=none/\j<=16) (λQ q=>q) ∅ ∅ ?_ ?_ ?_ ?_
   ·intro D hD;exact⟨none,[],rfl,rfl,(λ_ h=>nomatch h),rfl,aD,aq.put hD,hD,∅⟩
   ·rintro D j ys aA HA ⟨v,ms,rfl,j0,jb,rfl,j1,j2,j3,j4⟩;exact⟨j1,jr (by rw[aK];lia)⟩
   ·rintro D j ys aA HA N2 lZ hj ⟨v,ms,rfl,j0,jb,rfl,j1,j2,j3,j4⟩;walk_at "rdm";have m0:=nX ((c+(j:Int))*48271) (show (1000000001:Int)≠0 by decide)
    have m1:=pD ((c+(j:Int))*48271) (show (0:Int)<1000000001 by decide)
    refine⟨⋯,j1,lZ _ _ _ ⟨_,ms++[(c+(j:Int))*48271 % 1000000001],by rw[bO];rfl,by simp[j0],λx hx=>?_,rfl,aD,aq.put2 j2 j3,j3,∅⟩⟩
    rcases cF.mp hx with hx | hx
    ·exact jb x hx
    ·rw[cj.mp hx];lia
   ·rintro D ys aA HA ⟨v,ms,rfl,j0,jb,rfl,j1,j2,j3,j4⟩;refine⟨D,rfl,_,.inl ⟨aE.of j1,λma nma=>⟨ma,ms,rfl,j2.trans (aq.put nma),aD,∅,jb⟩⟩⟩
  ·rintro σ H3 ⟨ma,ms,rfl,s3,hma,mln,mb⟩;refine h7 _ _ ?_;clear h7 N7;refine cD λN8 h8=>?_;wp_walk using bU;have ym:=s2.trans s3;have A8:=ym _ _ ha;have hw3:=hw.same ym;have ZI:=dH c 61 (m:=(as.length:Int)) ∅
   have d40:=dH c 62 (m:=40) ⋯
   have dl:=dH c 62 (m:=2*aG+1) ∅
   have d3:=dH c 62 (m:=3) ⋯
   have d63:=dH c 63 (m:=4) ⋯
   obtain⟨ak,Pp,Pq⟩:∃ak:Int,dP (as.map V.int) (bf c 61 (as.length:Int))=some (.int ak)/\ak∈as:=by
    refine⟨_,i9 ZI.1 ZI.2,get_mem (sY as ?_)⟩;lia
   obtain⟨ZJ,ZK⟩:=ue ak Pq;refine⟨_,.inl (aE.of A8),by rw[aK];lia,_,aE.of A8,_,by rw[aK];exact Pp,h8 _ _ ?_⟩
   clear h8 N8;refine cD λN9 h9=>?_;wp_walk using bU;refine⟨_,aY.of hw3.o,_,rfl,aG,rfl,∅,λo3 no3=>h9 _ _ ?_⟩
   clear h9 N9;refine cD λPr A9=>?_;wp_walk using bU;refine⟨⋯,?_⟩
   obtain⟨la,A_,ZM⟩:∃la:Option Int,dP ([V.aR,V.int (bf c 62 40),V.int (lz+bf c 62 (2*aG+1))]++[V.int (10000000000000 - bf c 62 3)]) (bf c 63 4)=some (mW la)/\∀x,la=some x->0<=x/\x<=10000000000000:=by
    have:bf c 63 4=0\/bf c 63 4=1\/bf c 63 4=2\/bf c 63 4=3:=by lia
    rcases this with e | e | e | e <;> rw[e]
    ·exact⟨none,rfl,λx hx=>by cases hx⟩
    ·exact⟨some _,rfl,λx hx=>by cases hx;lia⟩
    ·exact⟨some _,rfl,λx hx=>by cases hx;lia⟩
    ·exact⟨some _,rfl,λx hx=>by cases hx;lia⟩
   refine⟨λσ H4=>σ = [some (.int c),some (.ref l),some (.int lz),some (.ref t),some (.ref aa),some (.ref p),some (.str E8),some (.int (nc.length:Int)),some (.int f),some (.int mn),some (.ref ma),some (.int ak),some (mW la)]/\aq H3 H4,λo4 ZN=>⟨_,aq.put ZN _ _ aD,by simp,λo5 no5=>⟨_,aE.of aD,_,A_,rfl,((aq.put no3).trans (aq.put ZN)).trans (aq.put no5)⟩⟩,?_⟩
   rintro σ H4 ⟨rfl,s4⟩;refine A9 _ _ ?_;clear A9 Pr;walk_at "rdm";have Pu:=ym.trans s4;have alZ:=s4 _ _ hma;have A4:=hl.same Pu;refine dX (λh5=>λe1 Po=>?_) λh5=>?_
   ·have sE:=aq.put (o:=.tup []) Po;refine⟨c,l,ts,qs,rfl,A4.same sE,D0,λb ns H5 s5 nb hb rb e3 lD=>?_⟩;have Ba:=(Pu.trans sE).trans s5;exact q e3 ⟨"read",f,mn,[],lz,ak,la,ns,false⟩ e1 b _ (Ba.trans (aq.put lD)) (Ba.free lD) ⟨aD,aq.put lD _ _ (s5 _ _ aD),aq.put lD _ _ hb⟩
     ⟨.inr (.inl rfl),(λz=>absurd (show ("read" : Str) = "rest" from z) ⋯),(λ_=>⟨f0.1,m1,ZG,mf⟩),b0,⟨ZJ,ZK⟩,ZM,rb,(λ_ z=>nomatch z),(λ_=>⟨rfl,rfl⟩),(λz=>absurd (show ("read" : Str) = "write" from z) ⋯)⟩ rfl (.inr Pq)
   ·refine⟨c,l,ts,qs,rfl,A4,D0,λb ns H5 s5 nb hb rb e3 lD=>?_⟩;have Ba:=Pu.trans s5;exact q e3 ⟨"write",f,mn,ms,lz,ak,la,ns,decide (E8 = "early")⟩ ma b _ (Ba.trans (aq.put lD)) (Ba.free lD) ⟨aD,aq.put lD _ _ (s5 _ _ alZ),aq.put lD _ _ hb⟩
     ⟨.inr (.inr rfl),(λz=>absurd (show ("write" : Str) = "rest" from z) ⋯),(λ_=>⟨f0.1,m1,ZG,mf⟩),b0,⟨ZJ,ZK⟩,ZM,rb,mb,(λz=>absurd (show ("write" : Str) = "read" from z) ⋯),(λ_=>mln)⟩ rfl (.inr Pq)
theorem al0:bg P w K mg base bw 4 A.LW A.LX ["first", "many", "at", "asker", "latest", "behind"] (ad_ K A.bI):=by
 refine T.Xs.ok Xg (λvs H Q E h=>?_) (λaQ Ar outer s H vs Q E hr h=>?_)
 ·obtain⟨f,m,a,s',l,bv,ns,rfl,_⟩:=h
  rfl
 ·obtain⟨f,m,a,s',l,bv,ns,rfl,hB,hv,hR,q⟩:=h;refine⟨_,(aC (aX (i:=6) Xg.nd rfl OL_ (aP (YR T aH) (hr.mono ⋯) rfl T.Xr T.Ox.kp T.Xq .nil aJ (ao (ah 5) au)))
   (aC (cY (aP (Zx T aH) (hr.mono ⋯) rfl T.Xp T.Ow.kp T.Xo .nil aJ (ao (ah 0) (ao (ah 1) (ao (ah 2) (ao (ah 3) (ao (ah 4) (ao (ah 6) au))))))))
   (aI (bJ (qP T.OD (O0 T aH) (hr.mono ⋯) rfl T.OE T.Ov .nil aJ (ao dh (ao (ah 0) (ao (ah 1) (ao (dO au) (ao (ah 2) (ao (ah 3) (ao (ah 4) (ao (ah 6) (ao mD au)))))))))))))),?_⟩
  walk_at "rdt";refine⟨_,ns,rfl,hv,λb H1 s1 hb=>?_⟩;walk_at "rdt";refine⟨_,_,_,_,_,_,ns,rfl,hB,aY.of hb,hR,?_⟩;walk_at "rdt";intro mk nm x dx nx mX fH;refine⟨x,dx,_,_,_,_,_,_,_,_,_,rfl,aD,rfl,?_⟩;obtain⟨a1,a2,a3⟩:=IK (K:=K) (C:=A.bI) (q:=⟨"read",f,m,[],a,s',l,ns,false⟩) (s1.trans (aq.put nm)) nx mX fH aD (aq.put nm _ _ hb);exact q _ _ _ _ _ a1 a2 a3
theorem al1:bg P w K mg base bw 4 A.LY A.LZ ["first", "marks", "at", "asker", "latest", "behind", "early"] (agh K A.bI):=by
 refine T.Xu.ok LA (λvs H Q E h=>?_) (λaQ Ar outer s H vs Q E hr h=>?_)
 ·obtain⟨f,a,s',ma,ms,l,bv,ns,e,rfl,_⟩:=h
  rfl
 ·obtain⟨f,a,s',ma,ms,l,bv,ns,e,rfl,hm,ZO,hB,hv,hR,q⟩:=h;refine⟨_,(aC (aX (i:=7) LA.nd rfl OL_ (aP (YR T aH) (hr.mono ⋯) rfl T.Xr T.Ox.kp T.Xq .nil aJ (ao (ah 5) au)))
   (aC (cY (aP (Zx T aH) (hr.mono ⋯) rfl T.Xp T.Ow.kp T.Xo .nil aJ (ao (ah 0) (ao (bY fL rfl T.dB dN (ao (ah 1) au)) (ao (ah 2) (ao (ah 3) (ao (ah 4) (ao (ah 7) au))))))))
   (aC (dU dF rfl (Cz (ah 1)) (br (i:=8) LA.nd rfl OL_)
   (aI (cY (aP (tW T aH) (hr.mono ⋯) rfl T.tO T.rS.kp T.tN .nil aJ (ao (ah 8) (ao az (ao (i6 (v:=.int 1000000000) rfl T.akM ⟨_,rfl⟩) (ao dh au))))))))
   (aI (bJ (qP T.OD (O0 T aH) (hr.mono ⋯) rfl T.OE T.Ov .nil aJ (ao dh (ao (ah 0) (ao (bY fL rfl T.dB dN (ao (ah 1) au)) (ao (pX zA rfl T.vD yM (ao (ah 1) au)) (ao (ah 2) (ao (ah 3) (ao (ah 4) (ao (ah 7) (ao (ah 6) au))))))))))))))),?_⟩
  walk_at "rdt";refine⟨_,ns,rfl,hv,λb H1 s1 hb=>?_⟩;walk_at "rdt";refine⟨_,.inr (aY.of (s1 _ _ hm)),?_⟩;simp only[List.length_map];refine⟨_,_,_,_,_,_,ns,rfl,hB,aY.of hb,hR,?_⟩
  try dsimp only
  have vf:=aY.of (K:=K) (s1 _ _ hm);refine rt ma (ms.map V.int) (λi σ H'=>∃x,σ = [some (.int f),some (.ref ma),some (.int a),some (.int s'),some (mW l),some bv,some (.bl e),some (.ref b),x]/\H' = H1) (λQ q=>q) vf ⟨none,rfl,rfl⟩ (by rintro i σ H' _ ⟨x,rfl,rfl⟩;exact vf) ?_ ?_
  ·rintro i x σ H' N hN hx ⟨x0,rfl,rfl⟩;obtain⟨n,hn,rfl⟩:=iL hx;walk_at "rdm";exact⟨n,0,1000000000,_,rfl,(ZO n (get_mem hn)).1,(ZO n (get_mem hn)).2,hN _ _ ⟨_,rfl,rfl⟩⟩
  ·rintro σ H' ⟨x0,rfl,rfl⟩;walk_at "rdt";refine⟨_,.inr vf,_,.inr ⟨vf,?_⟩⟩;intro x dx nx mX fH;refine⟨x,dx,_,_,_,_,_,_,_,_,_,rfl,aD,rfl,?_⟩;simp only[List.length_map];obtain⟨a1,a2,a3⟩:=IK (K:=K) (C:=A.bI) (q:=⟨"write",f,ms.length,ms,a,s',l,ns,e⟩) s1 nx mX fH (s1 _ _ hm) hb;exact q _ _ _ _ _ a1 a2 a3
theorem al2:bg P w K mg base bw 4 A.Mb A.Mc ["self", "plate", "number", "ask"] (afx K [A.bH,A.bE] A.bI A.cQ):=by
 refine T.aip.ok ahP (λvs H Q E h=>?_) (λaQ Ar outer s H vs Q E hr h=>?_)
 ·obtain⟨C,p,pl,ap,dx,n,P,fp,q',m,b,dw,rfl,_⟩:=h
  rfl
 ·obtain⟨C,p,pl,ap,dx,n,P,fp,q',m,b,dw,rfl,hp,hC,hP,e8,qz,ha,hf,hn,q⟩:=h;refine⟨_,(aC (lJ (ah 0) (ah 2) rfl)
   (aC (lJ (ah 0) (ah 3) rfl)
   (aI (lJ (ah 0) (aP (Zy T aH) (hr.mono ⋯) rfl T.Xz T.Oz.kp T.Xy .nil aJ (ao (ah 1) (ao (ah 2) (ao (ah 3) au)))) rfl)))),?_⟩
  wp_walk using T,hp;have ZQ:ap≠p:=λe=>by
   have:=ha.o;rw[e,hp] at this;simp[jx] at this
  have nm:m≠p:=λe=>by have:=ha.ms;rw[e,hp] at this;cases this
  have nb:b≠p:=λe=>by have:=ha.bh;rw[e,hp] at this;cases this
  have yp:dG K C (upd H p (HO.ins A.cQ dx [("number",V.int n),("ask",V.ref ap)])) pl P fp:=hP.keep (aB (dR e8)) λb hb=>aB (λe=>qz (e▸hb));have qx:fJ K A.bI (upd H p (HO.ins A.cQ dx [("number",V.int n),("ask",V.ref ap)])) ap q' m b dw:=⟨(aB ZQ).trans ha.o,(aB nm).trans ha.ms,(aB nb).trans ha.bh⟩;have sb:SameBut p H (upd H p (HO.ins A.cQ dx [("number",V.int n),("ask",V.ref ap)])):=(SameBut.of (aq.refl H)).put;have vE:upd H p (HO.ins A.cQ dx [("number",V.int n),("ask",V.ref ap)]) p=some (HO.ins A.cQ dx [("number",V.int n),("ask",V.ref ap)]):=aD;generalize upd H p (HO.ins A.cQ dx [("number",V.int n),("ask",V.ref ap)])=H1 at yp qx sb vE ⊢;refine⟨C,pl,ap,n,P,fp,q',m,b,dw,rfl,hC,yp,qx,hf,hn,λl ts H2 s2 nl hz=>⟨_,_,_,s2 _ _ vE,T.akw,T.OF,by simp,?_⟩⟩
  have Bb:=qx.same s2;have yi:l≠p:=b7 vE nl |>.symm
  have E6:H l=none:=by
   cases e:H l with
   | none=>rfl
   | some o =>
    have:=sb l o e yi;rw[nl] at this;cases this
  refine q l ts _ E6 (sb.step s2).put ⟨aD,⟨(aB ZQ).trans Bb.o,(aB nm).trans Bb.ms,(aB nb).trans Bb.bh⟩,hz.keep (aB yi) λt ht=>aB λe=>?_⟩
  obtain⟨i,hi,et⟩:=r_.mp ht;have f_:i<(jy P.nc q'.first q'.many).length:=by rw[← hz.n];exact hi
  have:=hz.t i t _ (by rw[← et];exact bx hi) (bx f_)
  rw[e,s2 _ _ vE] at this;cases this
theorem al3:bg P w K mg base bw 4 A.Ml A.Mm ["plate", "asks"] (aeu K [A.bH,A.bE] A.bI):=by
 refine T.XE.ok Ek (λvs H Q E h=>?_) (λaQ Ar outer s H vs Q E hr h=>?_)
 ·obtain⟨C,p,la,P,fp,ps,qs,rfl,_⟩:=h
  rfl
 ·obtain⟨C,p,la,P,fp,ps,qs,rfl,hC,hP,hn,ha,ok,q⟩:=h;refine⟨_,(aC (aX (i:=2) Ek.nd rfl OL_ (eZ au))
   (aC (dU dF rfl (wY rfl T.tV (ao (ah 1) au)) (jm rfl (cu (br (i:=3) Ek.nd rfl OL_) (cu (br (i:=4) Ek.nd rfl OL_) gX)))
   (aC (cY (aP (ak9 T aH) (hr.mono ⋯) rfl T.ais T.XA.kp T.air .nil aJ (ao (ah 1) (ao (ah 3) au))))
   (aC (cY (aP (Zy T aH) (hr.mono ⋯) rfl T.Xz T.Oz.kp T.Xy .nil aJ (ao (ah 0) (ao (ah 3) (ao (ah 4) au)))))
   (aC (cY (aP (ak_ T aH) (hr.mono ⋯) rfl T.aiu T.XC.kp T.ait .nil aJ (ao (ah 1) (ao (ah 3) au))))
   (aI (cY (kh jY mq mz lN (ah 2) (ao (aP (alG T aH) (hr.mono ⋯) rfl T.aiw T.XD.kp T.aiv .nil aJ (ao (ah 1) (ao (ah 3) au))) au))))))))
   (aI (bJ (ah 2))))),?_⟩
  walk_at "rdt";intro l hl;have sl:=aq.put (o:=.lst []) hl;have on:=ok.n;have an:=ha.n;refine re la (ps.map V.ref) (λk σ H'=>∃(x1 x2:Option V) (us:List Addr),σ = [some (.ref p),some (.ref la),some (.ref l),x1,x2]/\aq H H'/\(∀t∈us,H t=none)/\Zt H' l us (k_ qs k)) (λQ q=>?_) (aE.of (sl _ _ ha.l)) ⟨none,none,[],rfl,sl,(λ_ h=>nomatch h),Zt.start⟩ (by rintro i σ H' _ ⟨_,_,_,rfl,s1,_⟩;exact aE.of (s1 _ _ ha.l)) ?_ ?_
  ·walk_at "rdm";exact q
  ·rintro k x σ H' T1 N hN hx ⟨x1,x2,us,rfl,s1,hu,hz⟩ hT;have z8:k<ps.length:=by have:=(fD.mp hx).1;simpa using this
   have hk:k<qs.length:=by lia
   have iT:=bx hk;obtain⟨ap,m,b,dx,e1,a1⟩:=ha.at iT;rw[e1] at hx;cases hx;have s2:=s1.trans (aq.put (o:=.tup [.int (k:Int),.ref ap]) hT);refine mU (aY.of aD) rfl ?_;walk_at "rdm";have Bb:=ha.same s2;have a2:=a1.same s2;have fk:=ok.fit k _ iT;refine⟨la,ps,qs,k,_,rfl,Bb,iT,λq0 h0 e0=>?_,?_⟩
   ·have:=ok.up (k - 1) q0 qs[k] e0 (by rw[show k - 1+1=k by lia];exact iT)
    exact this
   refine⟨C,p,ap,_,P,fp,_,m,b,dx,rfl,hC,hP.same s2,a2,fk.1,hn,λ_ _ H3 s3 _ _=>?_⟩;have pB:=s2.trans s3;have A8:=ha.same pB;refine⟨la,ps,qs,k,_,rfl,A8,iT,fk.2,ok.bh k _ iT,⟨⟨_,aE.of (s3 _ _ (aq.put hT _ _ hz.l))⟩,?_⟩⟩;refine⟨la,ps,qs,k,_,rfl,A8,iT,on,fk.2,λt H4 s4 nt ht=>?_⟩;have A2:=((hz.same (aq.put (o:=.tup [.int (k:Int),.ref ap]) hT)).same s3).same s4;have zl:=A2.n;unfold k_ at zl;rw[aK,jF] at zl;have Bc:=pB.trans s4;refine⟨_,A2.l,by rw[aK];lia,hN _ _ ⟨_,_,us++[t],rfl,aq.put2 Bc hl,?_,?_⟩⟩
   ·intro t' jE;rcases cF.mp jE with jE | jE
    ·exact hu t' jE
    ·rw[cj.mp jE];exact pB.free nt
   ·unfold k_;rw[n_,bO];exact A2.aep ht
  ·rintro σ H' ⟨x1,x2,us,rfl,s1,hu,hz⟩;walk_at "rdm";rw[aK,an] at hz;exact q _ _ _ s1 hl hu hz
theorem al4:bg P w K mg base bw 4 A.Mq A.Mr ["plate", "ring", "beat", "cells"] (adR K [A.bH,A.bE]):=by
 refine T.XG.ok vA (λvs H Q E h=>?_) (λaQ Ar outer s H vs Q E hr h=>?_)
 ·obtain⟨C,p,P,fp,r,b,ca,Dm,cz,rfl,_⟩:=h
  rfl
 ·obtain⟨C,p,P,fp,r,b,ca,Dm,cz,rfl,hC,hP,ok,r0,r1,hz,hq,hlen,q⟩:=h;have hsl:=ok.sw.len;refine⟨_,(aC (aX (i:=4) vA.nd rfl OL_ (eZ au))
   (aC (dU dF rfl (gM (ah 3)) (jm rfl (cu (br (i:=5) vA.nd rfl OL_) (cu (br (i:=6) vA.nd rfl OL_) gX)))
   (aC (aX (i:=7) vA.nd rfl OL_ (aP (alU T aH) (hr.mono ⋯) rfl T.aiA T.XF.kp T.aiz .nil aJ (ao (ah 0) (ao (ah 5) (ao (ah 6) (ao (aN gZ (ah 2) (xg (ah 0) T.ak5 (aln T aH) (hr.mono ⋯) T.ajs .nil aJ (ao (ah 1) (ao (ah 5) au)))) au))))))
   (aC (aX (i:=1) vA.nd rfl OL_ (ah 5))
   (aC (aX (i:=2) vA.nd rfl OL_ (aN gZ (ah 7) (xg (ah 0) T.YQ (Y0 T aH) (hr.mono ⋯) T.X0 .nil aJ (ao (ah 5) au))))
   (aI (cY (kh jY mq mz lN (ah 4) (ao (dO (ao (ah 1) (ao (ah 6) (ao (ah 7) (ao (ah 2) au))))) au))))))))
   (aI (bJ (ah 4))))),?_⟩
  walk_at "rdm";intro l hl;have sl:=aq.put (o:=.lst []) hl;refine rl ca (Dm.map V.ref) (λi σ H'=>∃x y z ts,σ = [some (.ref p),some (.int (fq P (r,b) (cz.take i)).1),some (.int (fq P (r,b) (cz.take i)).2),some (.ref ca),some (.ref l),x,y,z]/\aq H H'/\(∀t∈ts,H t=none)/\i<=cz.length/\Zt H' l ts (iM P (r,b) (cz.take i))) (λQ q=>q) (sl.seq hz.sq)
   ⟨none,none,none,[],rfl,sl,(λ_ h=>nomatch h),eX _,Zt.start⟩ (by rintro i σ H' _ ⟨x,y,z,ts,rfl,hs,_⟩;exact hs.seq hz.sq) ?_ ?_
  ·rintro i x σ H' N hN hx ⟨x0,y0,z0,xP,rfl,hs,vF,hi,h1⟩;obtain⟨t,w,rfl,hw,ht⟩:=hz.at hx;have vG:=gH hw;obtain⟨w0,w1,w2,w3⟩:=hq w (get_mem hw);have AY:=ok.c w.1.toNat ∅
   obtain⟨e0,e1⟩:=IC P (n:=P.rc.length) (cz.take i) (r,b) r0 r1 λq kN=>⟨(hq q (yH kN)).1,(hq q (yH kN)).2.1⟩;have es:fq P (r,b) (cz.take (i+1))=oJ P (fq P (r,b) (cz.take i)) w:=by rw[take_succ_get hw,Iz]
   have ws:iM P (r,b) (cz.take (i+1))=iM P (r,b) (cz.take i)++[Dk P (fq P (r,b) (cz.take i)) w]:=by rw[take_succ_get hw,IA]
   rw[es,ws] at hN;have wl:(iM P (r,b) (cz.take i)).length=i:=by rw[Dl,fc];lia
   generalize fq P (r,b) (cz.take i)=st at e0 e1 hN ⊢;generalize iM P (r,b) (cz.take i)=rows at h1 wl hN ⊢;refine mU (aY.of (hs _ _ ht)) rfl ?_;have vL:=hP.same hs;obtain⟨dx,a1,a2,a3,a4,ts,fs,E1,h⟩:=id vL;wp_walk using h.o,h.f1,h.f2,h.f3,h.f4,h.f5,h.f6,h.m1,h.m2,h.m3,h.m4,h.m5,h.m6,h.m7,h.m8,h.m9,h.jv,h.jw,h.cp.cl,h.cp.n1,h.cp.n2,h.cp.n3,h.cp.n4,h.cp.n5,h.cp.n6;refine⟨hC,C,p,P,fp,st.1,w.1,rfl,vL,∅,?_⟩
   wp_walk using h.o,h.f1,h.f2,h.f3,h.f4,h.f5,h.f6,h.m1,h.m2,h.m3,h.m4,h.m5,h.m6,h.m7,h.m8,h.m9,h.jv,h.jw,h.cp.cl,h.cp.n1,h.cp.n2,h.cp.n3,h.cp.n4,h.cp.n5,h.cp.n6;refine⟨C,p,P,fp,w.1,w.2,_,rfl,hC,vL,ok,w0,w1,w2,w3,?_⟩;wp_walk using h.o,h.f1,h.f2,h.f3,h.f4,h.f5,h.f6,h.m1,h.m2,h.m3,h.m4,h.m5,h.m6,h.m7,h.m8,h.m9,h.jv,h.jw,h.cp.cl,h.cp.n1,h.cp.n2,h.cp.n3,h.cp.n4,h.cp.n5,h.cp.n6;refine⟨hC,C,p,P,fp,w.1,rfl,vL,w0,w1,AY.1,AY.2,?_⟩;walk_at "rdm";refine⟨⟨_,aE.of h1.l⟩,λt1 n1=>?_⟩;have hn:=h1.n;have e2:=aq.put n1 (o:=.tup [V.int w.1,V.int w.2,V.int (zR P st w),V.int (oJ P st w).2]) _ _ h1.l;refine⟨_,e2,by simp;lia,hN _ _ ⟨_,_,_,xP++[t1],rfl,aq.put2 (hs.trans (aq.put n1)) hl,?_,vG,h1.snoc n1 (Dk P st w)⟩⟩
   intro t' jE;rcases cF.mp jE with jE | jE
   ·exact vF t' jE
   ·rw[cj.mp jE];exact hs.free n1
  ·rintro σ H' ⟨x0,y0,z0,xP,rfl,hs,vF,hi,h1⟩;walk_at "rdm";rw[lenZ hz.n,eG] at h1;exact q _ _ _ hs hl vF h1
theorem al5:bg P w K mg base bw 4 A.Nr A.Nt ["self", "zones", "lap", "skew", "swing", "spares", "bad"] (ae5 K A.bE A.gf (rq iS) (rB "nearest_rings")):=by
 refine T.ajP.ok AI (λvs H Q E h=>?_) (λaQ Ar outer s H vs Q E hr h=>?_)
 ·obtain⟨p,dx,za,sa,ba,oH,gm,z,bz,aG,cM,s,sw,rfl,_⟩:=h
  rfl
 ·obtain⟨p,dx,za,sa,ba,oH,gm,z,bz,aG,cM,s,sw,rfl,cp,nm,hp,hz,ok,h1,h2,h3,h4,hd,hS,so,Be,ZC,bnd,bin,c64,kY,rH,tab,en,q⟩:=h;refine⟨_,(aC (b_ (cY (adL rfl T.YL T.akv (Zz T aH) (hr.mono ⋯) T.XZ .nil aJ (ao (ah 0) (ao (ah 1) (ao (ah 2) (ao (ah 3) (ao (ah 4) au))))))))
   (aC (b_ (cY (aP (alq T aH) (hr.mono ⋯) rfl T.ajE T.X3.kp T.ajD .nil aJ (ao (ah 5) (ao (bT (ah 0) rfl) au)))))
   (aC (b_ (aX (i:=7) AI.nd rfl OL_ (aP (alL T aH) (hr.mono ⋯) rfl T.ajG T.X4.kp T.ajF .nil aJ (ao (ah 0) (ao (ah 6) au)))))
   (aC (b_ (gb (ah 0) (aP (YX T aH) (hr.mono ⋯) rfl T.XW T.OA.kp T.XU .nil aJ (ao (bT (ah 0) rfl) (ao (ah 5) au))) rfl))
   (aC (gb (ah 0) (aP (alW T aH) (hr.mono ⋯) rfl T.ajO T.X8.kp T.ajN .nil aJ (ao (bT (ah 0) rfl) (ao (ah 5) (ao (bT (ah 0) rfl) (ao (ah 7) au))))) rfl)
   (aC (dU dF rfl (gM (bT (ah 0) rfl)) (jm rfl (cu (br (i:=8) AI.nd rfl OL_) (cu (br (i:=9) AI.nd rfl OL_) (cu (br (i:=10) AI.nd rfl OL_) gX))))
   (aI (wI (ah 10) (Cw (bT (ah 0) rfl) (ah 8) set_list))))
   (aI (gb (ah 0) (aP (YZ T aH) (hr.mono ⋯) rfl T.XY T.OB.kp T.XX .nil aJ (ao (bT (ah 0) rfl) au)) rfl)))))))),?_⟩
  refine cD λN1 k1=>?_;walk_at "rdm";refine⟨_,p,dx,za,sa,oH,z,aG,cM,sw,rfl,cp,hp,hz,ok,h1,h2,h3,h4,hd,hS,so,λH1 uf a1 a2 a3 a4 ts sb nf vE hA=>k1 _ _ ?_⟩;have cl:=wZ z λp hp=>(ok.r p hp).1;have alV:=ok.Dg;have c2:=ok.s2;have cm:∀c∈counts z,0<=c/\c<=60:=λc hc=>by
   obtain⟨y,hy,rfl⟩:=w6 hc;have:=ok.r y hy;lia
  have ZR:∀c∈counts z,0<=c/\c<=1000:=λc hc=>by have:=cm c hc;lia
  have eL:0<(counts z).length:=by lia
  have s60:s<60:=by
   have:=rH _ (cU eL);have:=cm _ (cU eL);lia
  have Pw:∀ {a:Addr} {o:HO},H a=some o->(∀C d f,o≠.ins C d f)->a≠p:=λe n z=>n _ _ _ (by rw[z,hp] at e;exact(dD e).symm)
  have ba1:Zn H1 ba gm bz:=⟨sb _ _ Be.l (Pw Be.l (by intro _ _ _ z;cases z)),Be.n,λi t x e1 e2=>sb _ _ (Be.t i t x e1 e2) (Pw (Be.t i t x e1 e2) (by intro _ _ _ z;cases z))⟩
  have pP:A.gf≠p:=(tab.ne hp (by intro _ z;cases z)).symm
  have al6:cN A.gf (rq iS) (rB "nearest_rings") H1:=by
   obtain⟨ps,e',k,c⟩:=tab;refine⟨ps,sb _ _ e' pP,k,?_⟩;rcases c with c | ⟨c',c1,c2⟩
   ·exact .inl c
   ·exact .inr ⟨c',c1,sb _ _ c2 (Pw c2 (by intro _ _ _ z;cases z))⟩
  refine cD λN2 k2=>?_;wp_walk using hA.o,hA.f1,hA.f2,hA.f3,hA.f4,hA.f5,hA.f6,hA.m1,hA.m2,hA.m3,hA.m4,hA.m5,hA.m6,hA.m7,hA.m8,hA.m9,hA.jv,hA.jw,hA.cp.cl,hA.cp.n1,hA.cp.n2,hA.cp.n3,hA.cp.n4,hA.cp.n5,hA.cp.n6;refine⟨a1,counts z,s,rfl,aE.of hA.rc,∅,kY,rH,k2 _ _ ?_⟩
  refine cD λN3 k3=>?_;wp_walk using hA.o,hA.f1,hA.f2,hA.f3,hA.f4,hA.f5,hA.f6,hA.m1,hA.m2,hA.m3,hA.m4,hA.m5,hA.m6,hA.m7,hA.m8,hA.m9,hA.jv,hA.jw,hA.cp.cl,hA.cp.n1,hA.cp.n2,hA.cp.n3,hA.cp.n4,hA.cp.n5,hA.cp.n6;refine⟨_,p,ba,_,_,gm,bz,rfl,by simp,⟨uf,a1,a2,a3,a4,ts,_,rfl,hA⟩,ba1,∅,bnd,bin,λd H2 s2 nd e2=>k3 _ _ ?_⟩
  have dJ:=hA.move (H':=H2) (by rw[hA.o];exact s2 _ _ hA.o) (by rw[hA.rc];exact s2 _ _ hA.rc) (by rw[hA.sw];exact s2 _ _ hA.sw) (by rw[hA.nc.l];exact s2 _ _ hA.nc.l) (by rw[hA.cn];exact s2 _ _ hA.cn) (λt ht=>by obtain⟨o,e⟩:=hA.nc.has ht;rw[e];exact s2 _ _ e)
  refine cD λN4 k4=>?_;wp_walk using dJ.o,dJ.f1,dJ.f2,dJ.f3,dJ.f4,dJ.f5,dJ.f6,dJ.m1,dJ.m2,dJ.m3,dJ.m4,dJ.m5,dJ.m6,dJ.m7,dJ.m8,dJ.m9,dJ.jv,dJ.jw,dJ.cp.cl,dJ.cp.n1,dJ.cp.n2,dJ.cp.n3,dJ.cp.n4,dJ.cp.n5,dJ.cp.n6;refine⟨a1,counts z,s,rfl,aE.of dJ.rc,∅,ZR,kY,?_,λl3 t3 H3 s3 n3 ZS z3=>?_⟩
  ·have:=rH _ (cU eL);have:=cm _ (cU eL);lia
  have o3:=s3 _ _ dJ.o;wp_walk using o3,vc,cp.cl,cp.n1,cp.n5,nm;have vN:l3≠p:=(b7 dJ.o n3).symm;have Bf:∀t∈t3,t≠p:=λt ht=>(b7 dJ.o (ZS t ht)).symm;have pd:d≠p:=(b7 hA.o nd).symm;have E9:a1≠p:=jH dJ.rc dJ.o (by intro z;cases z)
  have Px:a2≠p:=jH dJ.sw dJ.o (by intro z;cases z)
  have l7:SameBut p H H3:=(sb.step s2).step s3;have ZT:=al6.same (s2.trans s3);have zl:(cL (counts z) s).length<=1000000:=by
   have:=Dh (s:=s) kY (counts z) 0 ZR;have e:(counts z).length<=120:=by lia
   unfold cL;lia
  have xE:DJ (bz.map kT):=aeW (λx hx=>by
   obtain⟨b1,b2,b3,b4⟩:=bin x hx;have hi:x.1.toNat<(counts z).length:=by lia
   rw[show (counts z).getD x.1.toNat 0=(counts z)[x.1.toNat] by simp[hi]] at b4
   have:=cm _ (cU hi);lia) bnd
  refine k4 _ _ ?_;wp_walk using o3,vc,cp.cl,cp.n1,cp.n5,nm;refine⟨a1,l3,d,s,counts z,t3,_,bz,rfl,aE.of ((aB E9).trans (s3 _ _ dJ.rc)),∅,c64,kY,∅,λc hc=>by have:=rH c hc;have:=cm c hc;lia,z3.keep (aB vN) (λt ht=>aB (Bf t ht)),zl,(aB pd).trans (s3 _ _ e2),xE,ZC,ZT.put o3,en,λmv us os ms H5 k5 E_ ZU hL hM=>?_⟩
  have Bg:mv≠p:=(b7 aD E_).symm;have al7:H3 mv=none:=by rw[aB Bg] at E_;exact E_
  have Bh:=ZT.put (o:=HO.ins A.bE uf [(Str.ofString "ring_cells",V.ref a1),(Str.ofString "lap",V.int aG),(Str.ofString "skew",V.int cM),(Str.ofString "swing",V.ref a2),(Str.ofString "number_cells",V.ref l3),(Str.ofString "cell_numbers",V.ref a4)]) o3;have p5:=k5.get Bh aD;wp_walk using p5,cp.cl,nm;refine Il ?_;wp_walk using cp.cl,nm;have zU:=z3.keep (H':=upd H3 p (HO.ins A.bE uf [(Str.ofString "ring_cells",V.ref a1),(Str.ofString "lap",V.int aG),(Str.ofString "skew",V.int cM),(Str.ofString "swing",V.ref a2),(Str.ofString "number_cells",V.ref l3),(Str.ofString "cell_numbers",V.ref a4)])) (aB vN) (λt ht=>aB (Bf t ht));have z5:Zn H5 l3 t3 _:=⟨k5.get Bh zU.l,zU.n,λi t x e1 e2=>k5.get Bh (zU.t i t x e1 e2)⟩;have Py:mv≠l3:=(b7 zU.l E_).symm;generalize e6:upd H5 p (HO.ins A.bE uf [(Str.ofString "ring_cells",V.ref a1),(Str.ofString "lap",V.int aG),(Str.ofString "skew",V.int cM),(Str.ofString "swing",V.ref a2),(Str.ofString "number_cells",V.ref l3),(Str.ofString "cell_numbers",V.ref a4),(Str.ofString "moves",V.ref mv)])=H6;have p6:H6 p=some (HO.ins A.bE uf [(Str.ofString "ring_cells",V.ref a1),(Str.ofString "lap",V.int aG),(Str.ofString "skew",V.int cM),(Str.ofString "swing",V.ref a2),(Str.ofString "number_cells",V.ref l3),(Str.ofString "cell_numbers",V.ref a4),(Str.ofString "moves",V.ref mv)]):=by rw[← e6];exact aD
  have o6:∀b,b≠p->H6 b=H5 b:=λb hb=>by rw[← e6];exact aB hb
  have ZV:cN A.gf (rq iS) (rB "nearest_rings") H6:=by rw[← e6];exact k5.t.put p5
  have M6:jR H6 mv t3 us os ms:=⟨(o6 mv Bg).trans hM.l,hM.n,hM.no,λi u m e1 e2=>by
   obtain⟨tc,to,x,a,b,c,d⟩:=hM.t i u m e1 e2;exact⟨tc,to,x,(o6 _ (jH a p5 (by intro z;cases z))).trans a,b,(o6 _ (jH c p5 (by intro z;cases z))).trans c,(o6 _ (jH d p5 (by intro z;cases z))).trans d⟩⟩
  have z6:=z5.keep (o6 l3 vN) (λt ht=>o6 t (Bf t ht));refine w_.by mv (us.map V.ref) (λi σ H'=>∃x y w pC,σ = [some (V.ref p),some (V.ref za),some (V.int aG),some (V.int cM),some (V.ref sa),some (V.int s),some (V.ref ba),some (V.ref d),x,y,w]/\(∀b,b≠l3->H' b=H6 b)/\Zn H' l3 pC (jd (cL (counts z) s) (ms.take i))/\∀t∈pC,t∈t3\/t∈os)
   (aE.of M6.l) ⟨none,none,none,t3,rfl,λ_ _=>rfl,z6,λt ht=>.inl ht⟩ (by rintro i σ H' _ ⟨x,y,w,pC,rfl,hb,_⟩;exact aE.of ((hb mv Py).trans M6.l)) ?_ ?_
  ·rintro i x σ H' N hN hx ⟨x0,y0,w0,pC,rfl,hb,eW,ve⟩;obtain⟨u,yl,rfl⟩:=iL hx;have hi:i<ms.length:=by rw[← M6.n];exact gH yl
   obtain⟨m,hm⟩:∃m,ms[i]? = some m:=⟨_,bx hi⟩;obtain⟨tc,to,ho,ea,eb,ec,ed⟩:=M6.t i u m yl hm;have Fb:∀ {a:Addr} {xs:List V},H6 a=some (.tup xs)->H' a=some (.tup xs):=λ{a xs} e=>(hb a (jH e z6.l (by intro z;cases z))).trans e
   refine⟨u,[.int (m.1:Int),.ref tc,.ref to],rfl,aY.of (Fb ea),rfl,_,_,rfl,_,_,rfl,_,_,rfl,rfl,?_⟩;wp_walk using(hb p vN.symm).trans p6,cp.cl,cp.n5;have E3:m.1<pC.length:=by rw[eW.n,xF,← z6.n];exact gH eb
   refine⟨_,eW.l,m.1,VH (by rw[aK];exact E3),?_⟩
   rw[← List.map_set];refine hN _ _ ⟨_,_,_,pC.set m.1 to,rfl,λb h=>by rw[aB h];exact hb b h,?_,?_⟩
   ·rw[take_succ_get hm,VI];exact eW.setAt (Fb ed)
   ·intro t ht;rcases GB ht with h | h
    ·exact ve t h
    ·rw[h];exact .inr (get_mem ho)
  ·rintro σ H' ⟨x,y,w,pC,rfl,hb,eW,ve⟩;rw[aK,M6.n,eG] at eW;have Fc:=(hb p vN.symm).trans p6;wp_walk using Fc,cp.cl,cp.n5,cp.n6;have xA:=ZV.keep hb z6.l;refine⟨l3,pC,_,rfl,eW,by rw[xF];exact zl,λcn H7 s7 Bj ecn=>?_⟩
   have ZW:cn≠p:=(b7 Fc Bj).symm;wp_walk using s7 _ _ Fc,cp.cl,cp.n6;have fresh:∀b,b≠p->H3 b=none->H b=none:=λb hb e=>by
    cases q':H b with
    | none=>rfl
    | some o=>rw[l7 _ _ q' hb] at e;cases e
   have ZX:H l3=none:=by
    cases q':H l3 with
    | none=>rfl
    | some o=>rw[(sb.step s2) _ _ q' vN] at n3;cases n3
   have ZY:∀b o,H b=some o->b≠p->b≠A.gf->H' b=some o:=λb o e np nP=>by
    rw[hb b (b7 e ZX),o6 b np];exact k5.b _ _ ((aB np).trans (l7 _ _ e np)) nP
   have a13:a1≠l3:=b7 dJ.rc n3;have a23:a2≠l3:=b7 dJ.sw n3;have r7:=s7 _ _ ((hb a1 a13).trans ((o6 a1 E9).trans (k5.get Bh ((aB E9).trans (s3 _ _ dJ.rc)))));have w7:=s7 _ _ ((hb a2 a23).trans ((o6 a2 Px).trans (k5.get Bh ((aB Px).trans (s3 _ _ dJ.sw)))));have tp:∀t∈pC,t≠p:=λt ht=>by
    obtain⟨o,e⟩:=eW.has ht;rcases ve t ht with h | h
    ·exact Bf t h
    ·exact(b7 aD (ZU t h)).symm
   have Fb:∀ {a:Addr} {xs:List V},H6 a=some (.tup xs)->H7 a=some (.tup xs):=λ{a xs} e=>s7 _ _ ((hb a (jH e z6.l (by intro z;cases z))).trans e)
   have Pz:∀ {a:Addr} {xs:List V} {o:HO},H6 a=some (.tup xs)->upd H7 p o a=some (.tup xs):=λ{a xs o} e=>(aB (jH e p6 (by intro z;cases z))).trans (Fb e)
   refine q _ (a1::a2::l3::cn::pC) mv t3 us os ms (λb o e np nP=>(aB np).trans (s7 _ _ (ZY b o e np nP))) ((xA.same s7).put (s7 _ _ Fc)) ?_ hL ⟨uf,a1,a2,l3,cn,pC,[(Str.ofString "ring_cells",V.ref a1),(Str.ofString "lap",V.int aG),(Str.ofString "skew",V.int cM),(Str.ofString "swing",V.ref a2),(Str.ofString "number_cells",V.ref l3),(Str.ofString "cell_numbers",V.ref cn),(Str.ofString "moves",V.ref mv)],rfl,?_,nm,?_,?_⟩ ⟨?_,M6.n,M6.no,λi u m e1 e2=>?_⟩
   ·intro b gS;simp only[List.mem_cons] at gS;rcases gS with rfl | rfl | rfl | rfl | rfl | gS
    ·exact fresh _ Bg al7
    ·exact nf _ (by simp)
    ·exact nf _ (by simp)
    ·exact ZX
    ·cases q':H b with
     | none=>rfl
     | some o =>
      by_cases nP:b=A.gf
      ·obtain⟨ps,e',_⟩:=xA;rw[nP,e'] at Bj;cases Bj
      ·rw[ZY _ _ q' ZW nP] at Bj;cases Bj
    ·rcases ve b gS with h | h
     ·have:=ZS b h;cases q':H b with
      | none=>rfl
      | some o=>rw[(sb.step s2) _ _ q' (Bf b h)] at this;cases this
     ·have np:=tp b gS;have:=ZU b h;rw[aB np] at this;exact fresh b np this
   ·refine⟨cp,aD,?_,?_,?_,?_,?_,?_,?_,?_,?_,?_,?_,?_,?_,?_,?_,?_,?_,?_,?_,?_,?_⟩
    rotate_left 17
    ·exact(aB E9).trans r7
    ·exact(aB Px).trans w7
    ·exact(eW.same s7).keep (aB vN) (λt ht=>aB (tp t ht))
    ·exact(aB ZW).trans ecn
    all_goals simp[List.lookup_cons,ju]
   ·simp[List.lookup_cons,ju]
   ·exact(aB Bg).trans (s7 _ _ ((hb mv Py).trans M6.l))
   ·exact(aB Bg).trans (s7 _ _ ((hb mv Py).trans M6.l))
   ·obtain⟨tc,to,x,a,b,c,d⟩:=M6.t i u m e1 e2;exact⟨tc,to,x,Pz a,b,Pz c,Pz d⟩
theorem al8:bg P w K mg base bw 4 A.Og A.Oh ["_law_script", "_law_at", "_law_many", "_law_world", "_law_askers_here"] (aha K):=by
 refine T.Yo.ok vC (λvs H Q E h=>?_) (λaQ Ar outer s H vs Q E hr h=>?_)
 ·obtain⟨sc,t,aa,ns,at_,many,rc,aG,sk,sw,ca,sa,na,gO,nc,as,rfl,_⟩:=h
  rfl
 ·obtain⟨sc,t,aa,ns,at_,many,rc,aG,sk,sw,ca,sa,na,gO,nc,as,rfl,hS,kE,t0,t1,m0,m1,hw,n1,nM,l1,l2,ha,a1,ue,q⟩:=h;refine⟨_,(aC (b_ (aX (i:=5) vC.nd rfl OL_ (eZ au)))
   (aC (b_ (aX (i:=6) vC.nd rfl OL_ (aN jU (pX afo rfl T.OY boot_int (ao (wL mH (aP (cT T aH) (hr.mono ⋯) rfl T.cS T.cJ.kp T.cR .nil aJ (ao (aP (pe T aH) (hr.mono ⋯) rfl T.o9 T.nQ.kp T.o8 .nil aJ (ao (ah 0) (ao (ah 1) au))) (ao az (ao az au)))) az (bG _)) au)) (aN qq (aP (pe T aH) (hr.mono ⋯) rfl T.o9 T.nQ.kp T.o8 .nil aJ (ao (ah 0) (ao (ah 1) au))) (aN jU az (aN zj az az))))))
   (aC (dU dF rfl (j5 rfl T.gu (ao (ah 2) au)) (br (i:=7) vC.nd rfl OL_)
   (aC (b_ (aX (i:=8) vC.nd rfl OL_ (aP (pe T aH) (hr.mono ⋯) rfl T.o9 T.nQ.kp T.o8 .nil aJ (ao (ah 0) (ao (aN eF (ah 1) (ah 7)) au)))))
   (aC (b_ (aX (i:=9) vC.nd rfl OL_ (eZ (ao az (ao az (ao (aP (cT T aH) (hr.mono ⋯) rfl T.cS T.cJ.kp T.cR .nil aJ (ao (ah 8) (ao az (ao az au)))) (ao (aP (cT T aH) (hr.mono ⋯) rfl T.cS T.cJ.kp T.cR .nil aJ (ao (ah 8) (ao az (ao (aN gZ (aZ gQ (ah 3) az (λ_ _=>rfl)) az) au)))) au)))))))
   (aC (b_ (aX (i:=6) vC.nd rfl OL_ (aN gZ (ah 6) (aZ c8 (ah 9) (aP (cT T aH) (hr.mono ⋯) rfl T.cS T.cJ.kp T.cR .nil aJ (ao (ah 8) (ao az (ao az au)))) (λ_ _=>rfl)))))
   (aI (cY (kh jY mq mz lN (ah 5) (ao (aP (alY T aH) (hr.mono ⋯) rfl T.akj T.Yn.kp T.aki .nil aJ (ao (ah 8) (ao (ah 5) (ao (ah 6) (ao (ah 3) (ao (ah 4) au)))))) au))))))))
   (aI (bJ (ah 5)))))),?_⟩
  refine cD λNa ka=>?_;wp_walk using bU,eU;intro l nl;refine ka _ _ ?_;have s0:=aq.put (o:=.lst []) nl;have zS:=s0.seq hS;have e0:=nX (kC ns at_) (show (900000000000:Int)≠0 by decide)
  have e1:=pD (kC ns at_) (show (0:Int)<900000000000 by decide)
  refine cD λNb kb=>?_;wp_walk using bU,eU;refine⟨ns,zS,kE,t0,∅,ns,zS,kE,t0,∅,⋯,.inr ⟨∅,∅⟩,kb _ _ ?_⟩
  obtain⟨bt,zT,bt0,bt1⟩:∃bt:Int,(if bf (kC ns at_) 50 9=0 then 1 else 0)*(kC ns at_ % 900000000000)=bt/\0<=bt/\bt<=900000000000:=by
   refine⟨_,rfl,?_,?_⟩ <;> (split <;> lia)
  rw[zT];clear zT e0 e1;refine u_ many (λi σ H'=>∃(y1 y2 y3:Option V) (be:Int) (ts:List Addr) (qs:List Ak),σ = [some (.ref sc),some (.int at_),some (.int many),some (.ref t),some (.ref aa),some (.ref l),some (.int be),y1,y2,y3]/\aq H H'/\iz H' l ts qs/\qs.length=i/\0<=be/\be<=900000000000+1000000000*(i:Int)/\(∀q∈qs,rL nc.length q/\q.at_<=1000000000000/\(q.kind = "rest"\/q.bB∈as))/\(∀q∈qs,q.at_<=be)/\qs.Pairwise λa b=>a.at_<=b.at_) (λQ q=>?_) ∅ ∅ ⟨none,none,none,bt,[],[],rfl,s0,iz.start,rfl,bt0,∅,(λ_ h=>nomatch h),(λ_ h=>nomatch h),.nil⟩ ?_ ?_
  ·walk_at "rdm";exact q
  ·rintro i σ H' N hN hi ⟨y1,y2,y3,be,ts,qs,rfl,s',hq,hn,b0,b1,qk,qb,qp⟩;have i32:(i:Int)<42:=by lia
   have ZZ:=hw.same s';refine cD λN1 k1=>?_;wp_walk using bU,eU;refine⟨ns,s'.seq hS,kE,∅,∅,k1 _ _ ?_⟩
   generalize kC ns (at_+(i:Int))=c;refine cD λN2 k2=>?_;wp_walk using bU,eU;refine⟨_,aY.of ZZ.o,_,rfl,aG,rfl,∅,λo1 t_=>k2 _ _ ?_⟩
   have so:=aq.put (o:=.lst [V.int 0,V.int 0,V.int (bf c 52 9),V.int (bf c 53 (aG+1))]) t_;have ho:upd H' o1 (.lst [V.int 0,V.int 0,V.int (bf c 52 9),V.int (bf c 53 (aG+1))]) o1=some (.lst [V.int 0,V.int 0,V.int (bf c 52 9),V.int (bf c 53 (aG+1))]):=aD;generalize upd H' o1 (.lst [V.int 0,V.int 0,V.int (bf c 52 9),V.int (bf c 53 (aG+1))])=H2 at so ho ⊢;obtain⟨g,hg,g0,g1⟩:∃g:Int,dP [V.int 0,V.int 0,V.int (bf c 52 9),V.int (bf c 53 (aG+1))] (bf c 51 4)=some (.int g)/\0<=g/\g<=1000000000:=by
    have b:=dH c 51 (m:=4) ⋯
    have d1:=dH c 52 (m:=9) ⋯
    have d2:=dH c 53 (m:=aG+1) ∅
    have:bf c 51 4=0\/bf c 51 4=1\/bf c 51 4=2\/bf c 51 4=3:=by lia
    rcases this with e | e | e | e <;> rw[e]
    ·exact⟨_,rfl,⋯,⋯⟩
    ·exact⟨_,rfl,⋯,⋯⟩
    ·exact⟨_,rfl,∅,∅⟩
    ·exact⟨_,rfl,∅,∅⟩
   have s2:=s'.trans so;have PB:=hq.same so;refine cD λN3 k3=>?_;wp_walk using bU,eU;refine⟨_,aE.of ho,_,hg,g,rfl,k3 _ _ ?_⟩;wp_walk using bU,eU;refine⟨⟨_,aE.of PB.l⟩,c,be+g,l,t,aa,ts,qs,rc,aG,sk,sw,ca,sa,na,gO,nc,as,rfl,PB,∅,ZZ.same so,n1,nM,l1,l2,s2 _ _ ha,a1,ue,∅,∅,λp q' m b H3 s3 np hp ok ea em=>?_⟩
   have Z0:=PB.same s3;refine⟨_,Z0.l,by rw[aK,hq.n,hn];lia,hN _ _ ⟨_,_,_,be+g,ts++[p],qs++[q'],rfl,aq.put2 (s2.trans s3) nl,Z0.snoc hp,by simp[hn],∅,∅,λx hx=>?_,λx hx=>?_,?_⟩⟩
   ·rcases cF.mp hx with hx | hx
    ·exact qk x hx
    ·rw[cj.mp hx];exact⟨ok,by rw[ea];lia,em⟩
   ·rcases cF.mp hx with hx | hx
    ·have:=qb x hx;lia
    ·rw[cj.mp hx,ea];lia
   ·rw[GC];refine⟨qp,by simp,λx hx y hy=>?_⟩
    rw[cj.mp hy,ea];have:=qb x hx;lia
  ·rintro σ H' ⟨y1,y2,y3,be,ts,qs,rfl,s',hq,hn,b0,b1,qk,qb,qp⟩;walk_at "rdm";exact q l ts qs H' s' nl hq hn qk qp
theorem al9:bg P w K mg base bw 5 A.MA A.MB ["self", "number"] (agX K [A.bH,A.bE] A.bQ A.bI A.cQ):=by
 refine T.aiO.ok LC (λvs H Q E h=>?_) (λaQ Ar outer s H vs Q E hr h=>?_)
 ·obtain⟨C,x,dx,kp,ks,kk,p,P',fp,r,b,Dx,ls,y,rfl,_⟩:=h
  rfl
 ·obtain⟨C,x,dx,kp,ks,kk,p,P',fp,r,b,Dx,ls,y,rfl,hc,hy,hC,hP,pk,r0,r1,ci,c1,c2,q⟩:=h;have ho:=hc.o;unfold fW at ho;have n3:=hc.ne;refine⟨_,(aC (aX (i:=2) LC.nd rfl OL_ (acW (g8 (pv 0) rfl) (pv 1) ⟨rfl,rfl,rfl,rfl⟩))
   (aC (wW (i:=3) LC.nd rfl OL_ (N:=["ring", "place", "begun", "ended", "number"]) (nt:=4) (fv:=[1]) ‹eE.of› rfl (gM (aP (al4 T aH) (hr.mono ⋯) rfl T.aiC T.XG.kp T.aiB .nil aJ (ao (g8 (pv 0) rfl) (ao (g8 (pv 0) rfl) (ao (g8 (pv 0) rfl) (ao (g8 (pv 2) rfl) au)))))) (λC s H fp=>(zP (K:=K) (n:=4) rfl rfl (cu (br (i:=0) (show List.Nodup (["ring", "place", "begun", "ended", "number"]:List Str) by decide +kernel) rfl OL_) (cu (br (i:=1) (show List.Nodup (["ring", "place", "begun", "ended", "number"]:List Str) by decide +kernel) rfl OL_) (cu (br (i:=2) (show List.Nodup (["ring", "place", "begun", "ended", "number"]:List Str) by decide +kernel) rfl OL_) (cu (br (i:=3) (show List.Nodup (["ring", "place", "begun", "ended", "number"]:List Str) by decide +kernel) rfl OL_) gX)))))) (λC s H fp=>kq) (λC s H fp=>(dO (ao (pv 4) (ao (pv 0) (ao (pv 1) (ao (pv 2) (ao (pv 3) au))))))))
   (aC (lJ (pv 0) (aZ lM (aZ mL (pv 3) (zh zm az) (λ_ _=>rfl)) az (λ_ _=>rfl)) rfl)
   (aC (lJ (pv 0) (aZ lM (aZ mL (pv 3) (zh zm az) (λ_ _=>rfl)) az (λ_ _=>rfl)) rfl)
   (aI (bJ (pv 3))))))),?_⟩
  wp_walk using T,Ur,ho;refine⟨.inl ⟨_,.inl hc.d⟩,_,hc.d,bN y.1.n,rfl,_,agT hc.up hy,?_⟩;rw[WC];generalize D5:ls.filter (λz=>decide (z.1.n≠y.1.n))=d_ at *
  have sub:d_.Sublist ls:=D5▸List.filter_sublist;have s1:cy x Dx H (upd H Dx (.dK (d7 d_))):=(cy.of (λ_ _ e=>e)).xQ;have iB:=hc.step s1 sub (by rw[aB n3];exact hc.o) aD
  have yp:=hc.Iv s1 hP;have hy1:=hc.xR s1 (hc.t y hy);generalize upd H Dx (.dK (d7 d_))=H1 at *
  obtain⟨iw,ap,l,ts,m,b',dw,hD⟩:=hy1;have jc:=hD.o;unfold qc at jc;have je:=iB.o;unfold fW at je;refine WA ?_;wp_walk using T,je,jc;refine⟨C,p,P',fp,r,b,l,ts,y.1.c,rfl,hC,yp,pk,r0,r1,hD.c,ci,c2,λlw tw H2 s2 nlw _ hw=>?_⟩;have wl:=Dl P' y.1.c (r,b);have w4:=IB P' y.1.c (r,b);obtain⟨zs,wa,wb,we⟩:=agR P' (r,b) (xs:=y.1.c) (λz=>by rw[z] at c1;simp at c1)
  generalize iM P' (r,b) y.1.c=wy at *
  have Z1:=hw.n;refine p8 lw (tw.map V.ref) (λD i ys aA H3=>∃(u1 u2 u3 u4:Option V) (us:List Addr),ys=us.map V.ref/\aA = [u1,u2,u3,u4,some (.int y.1.n)]/\i<=wy.length/\Zt H3 D us ((wy.take i).map λrow=>y.1.n::row)/\aq H2 H3/\H2 D=none) (λQ q=>q) (aE.of hw.l) ?_ ?_ ?_ ?_
  ·intro D nD;exact⟨none,none,none,none,[],rfl,rfl,eX _,Zt.start,aq.put nD,nD⟩
  ·rintro D i ys aA H3 ⟨u1,u2,u3,u4,us,rfl,rfl,hi,hz,s3,nD⟩;have:=hz.n;rw[aK,fc] at this;exact⟨hz.l,by rw[aK,mT];lia,aE.of (s3 _ _ hw.l)⟩
  ·rintro D i v ys aA H3 N hN hv ⟨u1,u2,u3,u4,us,rfl,rfl,hi,hz,s3,nD⟩;obtain⟨t,ht,rfl⟩:=iL hv;have f_:i<wy.length:=by rw[← Z1];exact gH ht
   have sW:=bx f_;have hT:=s3 _ _ (hw.t i t _ ht sW);obtain⟨q1,q2,q3,q4,e4⟩:=agS (w4 _ (cU f_));rw[e4] at hT sW;walk_at "rdt";refine⟨_,aY.of hT,rfl,_,_,rfl,_,_,rfl,_,_,rfl,_,_,rfl,rfl,λpt np=>?_⟩;have eW:=hz.snoc np (y.1.n::[q1,q2,q3,q4]);refine⟨by rw[aB (b7 hz.l np)];exact hz.l,hN _ _ _ ⟨_,_,_,_,us++[pt],by rw[bO];rfl,rfl,∅,?_,aq.put2 (s3.trans (aq.put np)) nD,nD⟩⟩
   rw[take_succ_get sW,bO];exact eW
  ·rintro D ys aA H3 ⟨u1,u2,u3,u4,us,rfl,rfl,hi,hz,s3,nD⟩;rw[aK,Z1,eG,we,bO] at hz;obtain⟨Z2,t,rfl,ht⟩:=hz.last;have ym:=s2.trans s3;have l6:=iB.same ym;have Fd:=l6.o;unfold fW at Fd;have nDx:D≠x:=λz=>by have:=hz.l;rw[z,Fd] at this;cases this
   have ntx:t≠x:=λz=>by rw[z,Fd] at ht;cases ht
   have hl:dP ((Z2++[t]).map V.ref) (-1)=some (.ref t):=by rw[bO];exact TL _ _
   refine⟨D,rfl,_,aE.of hz.l,_,hl,t,rfl,_,aY.of ht,_,gT (j:=1) rfl,_,_,_,Fd,T.tQ,T.OG,by simp,D,rfl,_,aE.of (by rw[aB nDx];exact hz.l),_,hl,t,rfl,_,aY.of (by rw[aB ntx];exact ht),_,gT (j:=4) rfl,T.tQ,T.ET,by simp[g7,ju,Ii],?_⟩
   walk_at "rdm";have bc:cy x Dx H1 (upd H3 x (.ins A.bQ dx (fW kp p (fq P' (r,b) y.1.c).1 (fq P' (r,b) y.1.c).2 Dx))):=(cy.of ym).JR;refine q D (Z2++[t]) _ (s1.trans bc) (iB.free s1 (s2.free nD)) (iB.step bc (.refl _) aD (by rw[aB (dR n3)];exact l6.d)) ?_
   have:=l6.zt (H':=upd H3 x (.ins A.bQ dx (fW kp p (fq P' (r,b) y.1.c).1 (fq P' (r,b) y.1.c).2 Dx))) ((cy.of (λ_ _ e=>e)).JR) hz;rw[we,bO];exact this
theorem al_:bg P w K mg base bw 5 A.Oi A.Oj ["_law_ask_here"] (agg K A.bI):=by
 refine T.Yp.ok ah_ (λvs H Q E h=>?_) (λaQ Ar outer s H vs Q E hr h=>?_)
 ·obtain⟨t,q',m,b,total,rfl,_⟩:=h
  rfl
 ·obtain⟨t,q',m,b,total,rfl,ht,ok,tM,aM,q⟩:=h;refine⟨_,(aC (d8 (c7 mH (aZ gQ (ah 0) az (λ_ _=>rfl)) dh (bG _)) (aI (bJ (aP (alT T aH) (hr.mono ⋯) rfl T.aik T.Xv.kp T.aij .nil aJ (ao (aZ gQ (ah 0) az (λ_ _=>rfl)) au)))) cC)
   (aC (d8 (c7 mH (aZ gQ (ah 0) az (λ_ _=>rfl)) dh (bG _)) (aI (bJ (aP (al0 T aH) (hr.mono ⋯) rfl T.aif T.Xs.kp T.aie .nil aJ (ao (aZ gQ (ah 0) az (λ_ _=>rfl)) (ao (aZ gQ (ah 0) az (λ_ _=>rfl)) (ao (aZ gQ (ah 0) az (λ_ _=>rfl)) (ao (aZ gQ (ah 0) az (λ_ _=>rfl)) (ao (aZ gQ (ah 0) az (λ_ _=>rfl)) (ao (aZ gQ (ah 0) az (λ_ _=>rfl)) au))))))))) cC)
   (aI (bJ (aP (al1 T aH) (hr.mono ⋯) rfl T.aii T.Xu.kp T.aih .nil aJ (ao (aZ gQ (ah 0) az (λ_ _=>rfl)) (ao (aZ gQ (ah 0) az (λ_ _=>rfl)) (ao (aZ gQ (ah 0) az (λ_ _=>rfl)) (ao (aZ gQ (ah 0) az (λ_ _=>rfl)) (ao (aZ gQ (ah 0) az (λ_ _=>rfl)) (ao (aZ gQ (ah 0) az (λ_ _=>rfl)) (ao (aZ gQ (ah 0) az (λ_ _=>rfl)) au)))))))))))),?_⟩
  have k1:=aY.of (K:=K) ht.o;walk_at "rdm";have hB:q'.kind≠"rest"->Dp q'.first q'.many q'.at_ q'.bB q'.oM:=λh=>by
   have:=ok.f0 h;exact⟨this.1,∅,this.2.1,this.2.2.1,ok.a0,aM,ok.s0.1,ok.s0.2,ok.l0⟩
  refine⟨_,k1,_,rfl,rfl,dX (λh1=>?_) λh1=>⟨_,k1,_,rfl,rfl,dX (λh2=>?_) λh2=>?_⟩⟩
  ·have h1:q'.kind = "rest" := V.str.inj h1;refine⟨_,k1,_,rfl,q'.at_,rfl,ok.a0,aM,λp mk bb dx H' s np ha=>q p mk bb dx H' s np ?_⟩;rw[ok.r h1];exact ha
  ·have h2:q'.kind = "read" := V.str.inj h2;have h1:q'.kind≠"rest" := λz=>h1 (by rw[z])
   refine⟨_,k1,_,rfl,_,k1,_,rfl,_,k1,_,rfl,_,k1,_,rfl,_,k1,_,rfl,_,k1,_,rfl,q'.first,q'.many,q'.at_,q'.bB,q'.oM,_,q'.behind,rfl,hB h1,.inr ⟨b,rfl,.inr ht.bh⟩,ok.b0,λp mk bb dx H' s np ha=>q p mk bb dx H' s np ?_⟩;obtain⟨e1,e2⟩:=ok.mr h2;have:q' = ⟨"read",q'.first,q'.many,[],q'.at_,q'.bB,q'.oM,q'.behind,false⟩:=by
    cases q';simp only at h2 e1 e2;rw[h2,e1,e2]
   rw[this];exact ha
  ·have h1:q'.kind≠"rest" := λz=>h1 (by rw[z])
   have h2:q'.kind≠"read" := λz=>h2 (by rw[z])
   have h3:q'.kind = "write" := by
    rcases ok.k with z | z | z
    ·exact absurd z h1
    ·exact absurd z h2
    ·exact z
   have ml:=ok.mw h3;refine⟨_,k1,_,rfl,_,k1,_,rfl,_,k1,_,rfl,_,k1,_,rfl,_,k1,_,rfl,_,k1,_,rfl,_,k1,_,rfl,q'.first,q'.at_,q'.bB,m,q'.marks,q'.oM,_,q'.behind,q'.early,rfl,ht.ms,ok.m0,by rw[ml];exact hB h1,.inr ⟨b,rfl,.inr ht.bh⟩,ok.b0,λp mk bb dx H' s np ha=>q p mk bb dx H' s np ?_⟩
   have:q' = ⟨"write",q'.first,q'.marks.length,q'.marks,q'.at_,q'.bB,q'.oM,q'.behind,q'.early⟩:=by
    cases q';simp only at h3 ml;rw[h3,ml]
   rw[this];exact ha
theorem ama:bg P w K mg base bw 6 A.Ms A.Mt ["self", "plate", "asks", "ring"] (ag1 K [A.bH,A.bE] A.bQ A.bI A.cQ):=by
 refine T.aiD.ok LB (λvs H Q E h=>?_) (λaQ Ar outer s H vs Q E hr h=>?_)
 ·obtain⟨C,x,dx,p,la,P',fp,ps,qs,r,rfl,_⟩:=h
  rfl
 ·obtain⟨C,x,dx,p,la,P',fp,ps,qs,r,rfl,hx,hC,hP,pn,ha,ok,nr,q⟩:=h;have hu:=i7 hr;refine⟨_,(aC (lJ (ah 0) (aP (al3 T aH) (hr.mono ⋯) rfl T.aiy T.XE.kp T.aix .nil aJ (ao (ah 1) (ao (ah 2) au))) rfl)
   (aC (lJ (ah 0) (ah 1) rfl)
   (aC (lJ (ah 0) (ah 3) rfl)
   (aC (lJ (ah 0) az rfl)
   (aC (lJ (ah 0) zF rfl)
   (aI (dU dF rfl (wY rfl T.tV (ao (ah 2) au)) (jm rfl (cu (br (i:=4) LB.nd rfl OL_) (cu (br (i:=5) LB.nd rfl OL_) gX)))
   (aI (d8 (c7 sU (g8 (ah 5) rfl) dh (bG _)) (aI (uY hu (g8 (ah 0) rfl) (ah 4) (qP T.akx (al2 T aH) (hr.mono ⋯) rfl T.aky T.aiq .nil aJ (ao (ah 1) (ao (ah 4) (ao (ah 5) au)))) rfl)) cC))))))))),?_⟩
  walk_at "rdt";refine⟨C,p,la,P',fp,ps,qs,rfl,hC,hP,pn,ha,ok,λkp ks H1 s1 nk nks hz=>?_⟩;have jW:=s1 _ _ hx;wp_walk using T,jW;intro Dx Fe;have xD:x≠Dx:=λz=>by rw[← z,aD] at Fe;cases Fe
  have nD:H1 Dx=none:=by rw[aB (dR xD)] at Fe;exact Fe
  refine⟨_,_,_,by rw[aB xD,aD],T.tQ,T.OH,by simp,?_⟩
  walk_at "rdm";have sb:SameBut x H1 (upd (upd (upd H1 x (.ins A.bQ dx [("keeping",V.ref kp),("plate",V.ref p),("ring",V.int r),("beat",V.int 0)])) Dx (.dK [])) x (.ins A.bQ dx (fW kp p r 0 Dx))):=λc o e n=>by
   rw[aB n,aB (λz=>by rw[z,nD] at e;cases e),aB n];exact e
  have hc:bZ K A.bQ A.bI A.cQ (upd (upd (upd H1 x (.ins A.bQ dx [("keeping",V.ref kp),("plate",V.ref p),("ring",V.int r),("beat",V.int 0)])) Dx (.dK [])) x (.ins A.bQ dx (fW kp p r 0 Dx))) x dx kp ks (k_ qs qs.length) p r 0 Dx [] :=
   ⟨aD,agY jW sb hz,by rw[aB (dR xD),aD];rfl,(λ_ h=>nomatch h),List.Pairwise.nil,eX _,λ_ h=>nomatch h⟩
  show j6 _ _ _ _ _ (upd (upd (upd H1 x (.ins A.bQ dx [("keeping",V.ref kp),("plate",V.ref p),("ring",V.int r),("beat",V.int 0)])) Dx (.dK [])) x (.ins A.bQ dx (fW kp p r 0 Dx)));generalize upd (upd (upd H1 x (.ins A.bQ dx [("keeping",V.ref kp),("plate",V.ref p),("ring",V.int r),("beat",V.int 0)])) Dx (.dK [])) x (.ins A.bQ dx (fW kp p r 0 Dx))=H2 at *
  have qx:=ha.same s1;have yp:=hP.same s1;have an:=ha.n;have on:=ok.n;have ol:(k_ qs qs.length).length=qs.length:=by unfold k_;rw[List.length_map,List.length_range]
  refine re la (ps.map V.ref) (λk σ H'=>∃(x1 x2:Option V) (ls:List (Dr×Addr)),σ = [some (.ref x),some (.ref p),some (.ref la),some (.int r),x1,x2]/\SameBut x H1 H'/\bZ K A.bQ A.bI A.cQ H' x dx kp ks (k_ qs qs.length) p r 0 Dx ls/\ls.map (·.1)=gr P'.nc 0 (qs.take k)) (λQ q=>?_) (aE.of (xS jW sb qx.l)) ⟨none,none,[],rfl,sb,hc,rfl⟩ (by rintro i σ H' _ ⟨_,_,_,rfl,s1,_⟩;exact aE.of (xS jW s1 qx.l)) ?_ ?_
  ·walk_at "rdm";exact q
  ·rintro k v σ H' T1 N hN hv ⟨x1,x2,ls,rfl,s2,qR,el⟩ hT;have z8:k<ps.length:=by have:=(fD.mp hv).1;simpa using this
   have hk:k<qs.length:=by lia
   have iT:=bx hk;obtain⟨ap,m,b,da,e1,a1⟩:=qx.at iT;rw[e1] at hv;cases hv;have s3:=aq.put (o:=.tup [.int (k:Int),.ref ap]) hT;refine mU (aY.of aD) rfl ?_;have l6:=qR.same s3;have pB:=s2.step s3;generalize upd H' T1 (.tup [.int (k:Int),.ref ap])=H3 at *
   have a3:=agZ jW pB a1;have PD:=ag0 jW pB yp;have nk:=nr _ (cU hk);have Z3:=a3.o;unfold jx at Z3;wp_walk using T,Z3;rw[if_pos nk];intro y dy ny ndy nn;have s4:aq H3 (upd (upd H3 dy (.own y)) y (.ins A.cQ dy [])):=(aq.put ndy).trans (aq.put (by rw[aB (dR nn)];exact ny))
   have hy4:upd (upd H3 dy (.own y)) y (.ins A.cQ dy []) y=some (.ins A.cQ dy []):=aD;generalize upd (upd H3 dy (.own y)) y (.ins A.cQ dy [])=H4 at *
   have ny1:y≠p:=λz=>by obtain⟨o,e⟩:=PD.here;rw[← z,ny] at e;cases e
   have ny2:y∉fp:=λz=>by obtain⟨o,e⟩:=PD.has z;rw[ny] at e;cases e
   refine⟨C,y,p,ap,dy,_,P',fp,_,m,b,da,rfl,hy4,hC,PD.same s4,ny1,ny2,a3.same s4,(ok.fit k _ iT).1,pn,λl ts H5 nl s5 hD=>?_⟩;have l8:aq H3 H5:=λc o e=>s5 _ _ (s4 _ _ e) (λz=>by rw[z,ny] at e;cases e)
   have PF:=l6.same l8;have Z4:=PF.o;unfold fW at Z4;wp_walk using T,Z4;have ll:ls.length=k:=by
    have:=gh List.length el;rw[aK,JS,fc] at this;lia
   refine⟨_,kP.k (k:=bN (k:Int)) PF.d (by rw[As,mT];lia),hN _ _ ⟨_,_,ls++[(⟨(k:Int),qs[k],jy P'.nc qs[k].first qs[k].many⟩,y)],rfl,?_,PF.add (y:=(⟨(k:Int),qs[k],jy P'.nc qs[k].first qs[k].many⟩,y)) ⟨_,_,_,_,_,_,_,hD⟩ (by show (0:Int)<=(k:Int);lia) (by rw[ol];show (k:Int)<_;lia) (λz hz=>?_) ∅,?_⟩⟩
   ·exact λc o e n=>by rw[aB (λz=>by rw[z,nD] at e;cases e)];exact l8 _ _ (pB _ _ e n)
   ·have hm:z.1∈gr P'.nc 0 (qs.take k):=el▸l_ hz;have:=(Av _ _ _ _ hm).2;rw[fc] at this
    show z.1.n<(k:Int);lia
   ·rw[bO,el,take_succ_get iT,WE,fc,ux ∅,sr]
    rfl
  ·rintro σ H' ⟨x1,x2,ls,rfl,s2,qR,el⟩;rw[aK,an,eG] at el;have PJ:SameBut x H H':=λc o e n=>s2 _ _ (s1 _ _ e) n;exact q kp ks Dx ls H' PJ (s1.free nD) qR el
theorem amb:bg P w K mg base bw 6 A.NZ A.N_ ["_law_script"] (agq K [A.bH,A.bE] A.gf (rq iS) (rB "nearest_rings")):=by
 refine T.Yj.ok jD (λvs H Q E h=>?_) (λaQ Ar outer s H vs Q E hr h=>?_)
 ·obtain⟨sc,ns,rfl,_⟩:=h
  rfl
 ·obtain⟨sc,ns,rfl,hS,kE,T0,q⟩:=h;have hu:=i7 hr;refine⟨_,(aC (b_ (aX (i:=1) jD.nd rfl OL_ (aP (alQ T aH) (hr.mono ⋯) rfl T.aj_ T.Yg.kp T.aj9 .nil aJ (ao (aP (pe T aH) (hr.mono ⋯) rfl T.o9 T.nQ.kp T.o8 .nil aJ (ao (ah 0) (ao az au))) au))))
   (aC (b_ (aX (i:=2) jD.nd rfl OL_ (aP (pe T aH) (hr.mono ⋯) rfl T.o9 T.nQ.kp T.o8 .nil aJ (ao (ah 0) (ao az au)))))
   (aC (b_ (aX (i:=3) jD.nd rfl OL_ az))
   (aC (b_ (aX (i:=4) jD.nd rfl OL_ (eZ au)))
   (aC (dU dF rfl (gM (ah 1)) (jm rfl (cu (br (i:=5) jD.nd rfl OL_) (cu (br (i:=6) jD.nd rfl OL_) gX)))
   (aC (aX (i:=3) jD.nd rfl OL_ (aN jU (ah 3) (ah 6)))
   (aI (aX (i:=4) jD.nd rfl OL_ (aN HJ (ah 4) (aN CW (eZ (ao (ah 6) au)) (ah 5)))))))
   (aC (b_ (aX (i:=7) jD.nd rfl OL_ (aN jU (ah 3) (aN eF az (aP (cT T aH) (hr.mono ⋯) rfl T.cS T.cJ.kp T.cR .nil aJ (ao (ah 2) (ao az (ao az au))))))))
   (aC (b_ (rG (jC (eV Xc (aP (cT T aH) (hr.mono ⋯) rfl T.cS T.cJ.kp T.cR .nil aJ (ao (ah 2) (ao az (ao az au)))) az (bG _)) (aI (aX (i:=7) jD.nd rfl OL_ (aN jU (ah 3) (aN eF az (aN qq (ah 2) (aN Eh (aN zj az az) (ah 3))))))) cC)))
   (aC (b_ (aX (i:=8) jD.nd rfl OL_ (aN qq (aP (pe T aH) (hr.mono ⋯) rfl T.o9 T.nQ.kp T.o8 .nil aJ (ao (ah 0) (ao az au))) (ah 7))))
   (aC (b_ (aX (i:=9) jD.nd rfl OL_ (aP (alP T aH) (hr.mono ⋯) rfl T.aj8 T.Ye.kp T.aj7 .nil aJ (ao (aP (pe T aH) (hr.mono ⋯) rfl T.o9 T.nQ.kp T.o8 .nil aJ (ao (ah 0) (ao az au))) (ao (bY fL rfl T.dB dN (ao (ah 4) au)) au)))))
   (aC (b_ (aX (i:=10) jD.nd rfl OL_ (aN CI (aP (cT T aH) (hr.mono ⋯) rfl T.cS T.cJ.kp T.cR .nil aJ (ao (ah 2) (ao az (ao az au)))) (bY (CJ rfl) rfl T.qw sy (ao (aN sS (bY (UK rfl) rfl T.qw sy (ao (ah 4) au)) az) (ao (aN eF az (aP (cT T aH) (hr.mono ⋯) rfl T.cS T.cJ.kp T.cR .nil aJ (ao (ah 2) (ao az (ao az au))))) au))))))
   (aC (b_ (aX (i:=11) jD.nd rfl OL_ (aP (alR T aH) (hr.mono ⋯) rfl T.akd T.Yi.kp T.akc .nil aJ (ao (aP (pe T aH) (hr.mono ⋯) rfl T.o9 T.nQ.kp T.o8 .nil aJ (ao (ah 0) (ao az au))) (ao (ah 4) (ao (ah 10) au))))))
   (aC (b_ (aX (i:=12) jD.nd rfl OL_ (qP T.akE (Zz T aH) (hr.mono ⋯) rfl T.YL T.XZ .nil aJ (ao (ah 1) (ao (ah 7) (ao (ah 8) (ao (ah 9) au)))))))
   (aC (b_ (rG (jC (eV j7 (ah 10) az (bG _)) (aI (aX (i:=12) jD.nd rfl OL_ (qP T.akG (al5 T aH) (hr.mono ⋯) rfl T.akH T.ajQ .nil aJ (ao (ah 1) (ao (ah 7) (ao (ah 8) (ao (ah 9) (ao (ah 10) (ao (pX TU rfl T.AW boot_list (ao (ah 11) au)) au))))))))) cC)))
   (aI (bJ (dO (ao (ah 12) (ao (dO (ao (ah 4) (ao (ah 7) (ao (ah 8) (ao (ah 9) (ao (aP (aly T aH) (hr.mono ⋯) rfl T.akb T.Yh.kp T.aka .nil aJ (ao (ah 4) (ao (ah 10) (ao (ah 11) au)))) au)))))) au)))))))))))))))))),?_⟩
  refine cD λN1 h1=>?_;wp_walk using bU,eU;refine⟨ns,hS,kE,_,rfl,λl ts z H1 s1 nl hz zl=>h1 _ _ ?_⟩;clear h1 N1;refine cD λN2 h2=>?_;wp_walk using bU,eU;refine⟨ns,s1.seq hS,kE,h2 _ _ ?_⟩;clear h2 N2;generalize kC ns 1=c;refine cD λN3 h3=>?_;wp_walk using bU,eU;refine h3 _ _ ?_;clear h3 N3;refine cD λN4 h4=>?_;wp_walk using bU,eU;intro c0 PL;refine h4 _ _ ?_;clear h4 N4;have bd:∀i,1<=fj (z.take i)/\fj (z.take i)<=777600000:=λi=>by
   have h1:=Dj (m:=60) ⋯ (z.take i) λp hp=>(zl.ok.r p (yH hp)).2.2
   have h2:=UW (m:=60) ⋯ (show (z.take i).length<=5 by have:=zl.ok.l5;rw[fc];lia)
   have e:(60:Int) ^ 5=777600000:=by decide
   lia
  refine rl l (ts.map V.ref) (λi σ H2=>∃(r d:Option V) (ca:Addr),σ = [some (.ref sc),some (.ref l),some (.int c),some (.int (fj (z.take i))),some (.ref ca),r,d,none,none,none,none,none,none]/\aq H1 H2/\H1 ca=none/\H2 ca=some (.lst ((counts (z.take i)).map V.int))) (λQ q=>q) (hz.same (aq.put PL)).sq ⟨none,none,c0,rfl,aq.put PL,PL,aD⟩ (by rintro i σ H2 _ ⟨r,d,ca,rfl,s2,_⟩;exact(hz.same s2).sq) ?_ ?_
  ·rintro i x σ H2 N hN pA ⟨r,d,ca,rfl,s2,nca,pq⟩;obtain⟨t,p,rfl,hp,ht⟩:=(hz.same s2).at pA;refine mU (aY.of ht) rfl ?_;walk_at "rdm";have b:=bd i;have pr:=zl.ok.r p (get_mem hp);have cl:=UP zl.ok i;refine⟨.inl ⟨∅,∅⟩,λp1 n1=>⟨∅,∅,∅,λp2 n2=>?_⟩⟩
   rw[VY];have sa1:=aq.put (o:=.lst [V.int p.2]) n1;have PM:=sa1.trans (aq.put (o:=.lst ((List.replicate p.1.toNat p.2).map V.int)) n2);refine⟨_,PM _ _ pq,by rw[aK,aK,BX];lia,λp3 n3=>hN _ _ ⟨some (.int p.1),some (.int p.2),p3,?_,(s2.trans PM).trans (aq.put n3),(s2.trans PM).free n3,?_⟩⟩
   ·rw[take_succ_get hp,adK]
   ·rw[aD,afq hp,bO]
  ·rintro σ H2 ⟨r,d,ca,rfl,s2,nca,pq⟩;rw[lenZ hz.n,eG] at pq ⊢;have hb:=bd z.length;rw[eG] at hb;refine cD λN6 h6=>?_;wp_walk using bU,eU;have y7:=dH c 16 (m:=9) ⋯
   have hq:1<=1000000000 / fj z:=(Int.le_ediv_iff_mul_le ∅).mpr ∅
   have PN:=nX c (show 1000000000 / fj z≠0 by lia)
   have PR:=pD c (show 0<1000000000 / fj z by lia)
   have w1:=VX zl y7.1 (.inl ∅)
   have w2:=VX zl PN (.inr PR);refine⟨.inl ⟨∅,∅⟩,h6 _ _ ?_⟩
   clear h6 N6;refine cD λN7 h7=>?_;wp_walk using bU,eU;refine⟨λσ H3=>∃aG,σ = [some (.ref sc),some (.ref l),some (.int c),some (.int (fj z)),some (.ref ca),r,d,some (.int aG),none,none,none,none,none]/\H3=H2/\1<=aG/\aG<=1000000000/\∀p∈z,aG % p.2=0,
    dX (λ_=>?_) (λ_=>⟨_,rfl,rfl,w1.1,w1.2.1,w1.2.2⟩),?_⟩
   ·exact⟨⋯,∅,∅,∅,.inl ⟨∅,∅⟩,_,rfl,rfl,w2.1,w2.2.1,w2.2.2⟩
   ·rintro σ H3 ⟨aG,rfl,rfl,l1,l2,l3⟩;refine h7 _ _ ?_;clear h7 N7;have cl:=wZ z λp hp=>(zl.ok.r p hp).1;have c15:=zl.sm;have c2:=zl.ok.s2;have cm:∀c∈counts z,1<=c/\c<=60:=λc hc=>by
     obtain⟨y,hy,rfl⟩:=w6 hc;have:=zl.ok.r y hy;lia
    refine cD λN8 h8=>?_;wp_walk using bU,eU;have PJ:=s1.trans s2;have ng:=PJ.seq hS;refine⟨ns,ng,kE,∅,h8 _ _ ?_⟩
    clear h8 N8;refine cD λN9 h9=>?_;wp_walk using bU,eU;refine⟨ns,ng,kE,_,.inl (aE.of pq),_,_,rfl,by rw[aK];lia,by rw[aK];lia,λsa sw H4 s4 Pd Ic so=>h9 _ _ ?_⟩
    clear h9 N9;rw[aK,cl] at so;refine cD λPr A9=>?_;wp_walk using bU,eU;have k0:=nX (kC ns 2) (show aG≠0 by lia)
    have k1:=pD (kC ns 2) (show 0<aG by lia)
    have PU:=s4 _ _ pq;refine⟨_,aE.of PU,∅,λM hM Y3=>?_⟩
    have hM1:=cm M hM;obtain⟨sp,Z5,Bk,spM,Wd⟩:∃sp:Int,(bf c 18 2*if 1+bf c 19 2<M - 1 then 1+bf c 19 2 else M - 1)=sp/\0<=sp/\sp<M/\sp<=2:=by
     have d1:=dH c 18 (m:=2) ⋯
     have d2:=dH c 19 (m:=2) ⋯
     have:bf c 18 2=0\/bf c 18 2=1:=by lia
     rcases this with e | e
     ·rw[e,Int.zero_mul];exact⟨0,rfl,∅,∅,∅⟩
     ·rw[e,vW];exact⟨_,rfl,by split <;> lia,by split <;> lia,by split <;> lia⟩
    have d18:=dH c 18 (m:=2) ⋯
    rw[Z5];refine⟨.inl ⟨∅,∅⟩,A9 _ _ ?_⟩
    clear A9 Pr;refine cD λN11 Z6=>?_;wp_walk using bU,eU;have PV:∀c∈counts z,sp<c:=λc hc=>Int.lt_of_lt_of_le spM (Y3 c hc);have gD:∀i:Nat,i<(counts z).length->(counts z).getD i 0∈counts z:=λi hi=>by
     rw[show (counts z).getD i 0=(counts z)[i] by simp[hi]];exact cU hi
    have ok:rE z aG (kC ns 2 % aG) sw:=⟨zl,l1,l2,l3,k0,k1,so⟩;generalize kC ns 2 % aG=sk at *
    clear Z5 w1 w2 PN PR y7 hq hb bd;refine⟨ns,s4.seq ng,kE,ca,_,sp,counts z,rfl,PU,∅,∅,Bk,∅,λi hi=>by have:=cm _ (gD i hi);lia,λba gm bz H5 s5 nba nd yj b6 Z7 PX=>Z6 _ _ ?_⟩
    clear Z6 N11;refine cD λN12 Z8=>?_;wp_walk using bU,eU;intro x dx nx mX nxd;have Bc:=(s2.trans s4).trans s5;have T5:=(T0.same s1).same Bc;have yq:=hz.same Bc;have PY:=s5 _ _ Ic;have Z9:=s5 _ _ PU;have Am:=aq.put (o:=.own x) mX;have e8:upd H5 dx (.own x) x=none:=by rw[aB (dR nxd)];exact nx
    have PZ:=Am.trans (aq.put (o:=.ins A.bH dx []) e8);refine⟨A.bH,x,dx,l,sa,ts,z,aG,sk,sw,rfl,T.akZ,aD,yq.same PZ,zl.ok,ok.l1,ok.l2,ok.k0,ok.k1,ok.l3,aE.of (PZ _ _ PY),ok.so,λH6 uf b1 b2 b3 b4 tss sb nf hp6 hA=>⟨rfl,Z8 _ _ ?_⟩⟩;clear Z8 N12;have Ff:aq H5 H6:=λb o e=>sb _ _ (PZ _ _ e) (b7 e nx);refine cD λN13 Z_=>?_;wp_walk using bU,eU;refine⟨λσ H7=>∃(C p:Addr) (fp:List Addr) (ms:List (Nat×(Int×Int)×(Int×Int))),σ = [some (.ref sc),some (.ref l),some (.int c),some (.int (fj z)),some (.ref ca),r,d,some (.int aG),some (.int sk),some (.ref sa),some (.int sp),some (.ref ba),some (.ref p)]/\SameBut A.gf H5 H7/\C∈[A.bH,A.bE]/\dG K C H7 p (rF z aG sk sw (jd (cL (counts z) sp) ms)) fp/\lg (counts z) sp (cL (counts z) sp) bz (cV bz 0 (cL (counts z) sp)) ms,dX (λh0=>?_) λh0=>?_,?_⟩
    ·refine⟨_,.inl (PX.same Ff).sq,λbl nbl p P0 qz amc ndp=>?_⟩;have z6:=PX.same Ff;have vO:=aq.put (o:=.lst (gm.map V.ref)) nbl;have lq:Zn (upd H6 bl (.lst (gm.map V.ref))) bl gm bz:=⟨aD,z6.n,(z6.same vO).t⟩;generalize upd H6 bl (.lst (gm.map V.ref))=H7 at *
     have Am:=aq.put (o:=.own p) amc;have e8:upd H7 P0 (.own p) p=none:=by rw[aB (dR ndp)];exact qz
     have spB:=Am.trans (aq.put (o:=.ins A.bE P0 []) e8);have Bl:=Ff.trans vO;have Fg:=Bl.trans spB;refine⟨p,P0,l,sa,bl,ts,gm,z,bz,aG,sk,sp,sw,rfl,T.ak2,T.OW,aD,yq.same Fg,zl.ok,ok.l1,ok.l2,ok.k0,ok.k1,ok.l3,aE.of (Fg _ _ PY),ok.so,lq.same spB,∅,nd,yj,∅,Bk,PV,
      T5.same Fg,λos r is=>ae6 Bk Z7 os r is,λH8 fp mv kD us os ms keep ZV nf Fi hM hmv=>⟨rfl,?_⟩⟩
     exact⟨A.bE,p,_,ms,rfl,λb o e nP=>keep b o (Fg _ _ e) (b7 (Bl _ _ e) qz) nP,by simp,hM.Iv,Fi⟩
    ·have e0:sp=0:=by lia
     subst e0;have eb:bz = []:=Gy.mp (by simpa using Z7)
     subst eb;exact⟨A.bH,x,_,[],rfl,λb o e _=>Ff _ _ e,by simp,⟨uf,b1,b2,b3,b4,tss,_,rfl,hA⟩,by rw[Wh];exact .nil⟩
    ·rintro σ H7 ⟨C,p,fp,ms,rfl,Bm,hC,hP,Fi⟩;refine Z_ _ _ ?_;clear Z_ N13;have kt:=T5.xN Bm;walk_at "rdm";refine⟨ca,ba,sp,counts z,gm,bz,ms,rfl,kt.lst Z9,PX.kt kt,∅,Bk,λc hc=>⟨by have:=PV c hc;lia,(cm c hc).2⟩,Fi,λna gO H8 s8 nna hn=>?_⟩
     intro wt nwt t nt;have s9:=aq.put (o:=.tup [V.ref ca,V.int aG,V.int sk,V.ref sa,V.ref na]) nwt;have s10:=s9.trans (aq.put (o:=.tup [V.ref p,V.ref wt]) nt);have sA:=s8.trans s10;have amd:SameBut A.gf H (upd (upd H8 wt (.tup [V.ref ca,V.int aG,V.int sk,V.ref sa,V.ref na])) t (.tup [V.ref p,V.ref wt])):=λb o e nP=>sA _ _ (Bm _ _ (Bc _ _ (s1 _ _ e)) nP);exact q t C p wt z aG sk sw ca sa na gO _ fp _ amd aD hC (hP.same sA) ok (afr ∅ ∅ (λc hc=>⟨PV c hc,(cm c hc).2⟩) Bk Fi) ⟨aq.put nt _ _ aD,sA _ _ (kt.lst Z9),sA _ _ (kt.lst PY),hn.same s10⟩
theorem ame:bg P w K mg base bw 8 A.MM A.MN ["plate", "asks", "rule", "ring", "shelf"] (ahf K [A.bH,A.bE] A.bI A.cX A.fX):=by
 refine T.XN.ok rR (λvs H Q E h=>?_) (λaQ Ar outer s H vs Q E hr h=>?_)
 ·obtain⟨C,p,la,ru,dx,pl,bR,sh,t,u,P',fp,ps,qs,o7,J,rfl,_⟩:=h
  rfl
 ·obtain⟨C,p,la,ru,dx,pl,bR,sh,t,u,P',fp,ps,qs,o7,J,rfl,hC,hP,pk,pn,ha,ok,rd,hru,AD,ask,amf,amg,j0,al,q⟩:=h;have hu:=i7 hr;refine⟨_,(aC (aX (i:=5) rR.nd rfl OL_ (qP T.akz (ama T aH) (hr.mono ⋯) rfl T.akA T.aiE .nil aJ (ao (ah 0) (ao (ah 1) (ao (ah 3) au)))))
   (aC (rG (cY (CM (ah 2) T.rT T.Yd (Y4 T aH) (hr.mono ⋯) T.Yc .nil aJ)))
   (aC (aX (i:=6) rR.nd rfl OL_ (eZ au))
   (aC (aX (i:=7) rR.nd rfl OL_ (eZ au))
   (aC (aX (i:=8) rR.nd rfl OL_ (aN CW (eZ (ao pR au)) (bY fL rfl T.dB dN (ao (ah 1) au))))
   (aC (Sv dF (SV (bT (ah 5) rfl) (λ_=>rfl))
   (aC (aX (i:=9) rR.nd rfl OL_ (CM (ah 5) T.tQ T.aiN (alH T aH) (hr.mono ⋯) T.aiM .nil aJ))
   (aC (rG (aX (i:=10) rR.nd rfl OL_ (zu (ah 2) T.rT T.aj0 (alO T aH) (hr.mono ⋯) T.ajZ .nil aJ (ao (ah 0) (ao (bT (ah 5) rfl) (ao (bT (ah 5) rfl) (ao (ah 9) au)))))))
   (aC (cY (kh jY mq mz lN (ah 7) (ao (ah 10) au)))
   (aC (wI (g8 (pv 5) rfl) (Cw (pv 8) (pv 10) set_list))
   (aI (cY (kh jY PySem.F.slot_list_extend PySem.F.type_list_extend T7 (ah 6) (ao (zu (ah 5) T.tQ T.aiQ (al9 T aH) (hr.mono ⋯) T.aiP .nil aJ (ao (ah 10) au)) au)))))))))
   (aC (aX (i:=11) rR.nd rfl OL_ (aP (ale T aH) (hr.mono ⋯) rfl T.aiU T.XH.kp T.aiT .nil aJ (ao (ah 6) au)))
   (aC (aX (i:=12) rR.nd rfl OL_ (Si (SV (ah 6) (λ_=>rfl)) (aZ lM (aZ c8 (ah 6) (zh zm az) (λ_ _=>rfl)) az (λ_ _=>rfl)) az))
   (aI (bJ (qP T.akC (ald T aH) (hr.mono ⋯) rfl T.akD T.aiS .nil aJ (ao (ah 6) (ao (ah 8) (ao (aP (alg T aH) (hr.mono ⋯) rfl T.ai0 T.XM.kp T.aiZ .nil aJ (ao (ah 1) (ao (ah 11) (ao (ah 4) au)))) (ao (aP (alI T aH) (hr.mono ⋯) rfl T.aiY T.XJ.kp T.aiX .nil aJ (ao (ah 1) (ao (ah 7) au))) (ao (ah 12) au)))))))))))))))),?_⟩
  walk_at "rdt";intro x dc nx ndc nn;have s1:aq H (upd (upd H dc (.own x)) x (.ins A.bQ dc [])):=(aq.put ndc).trans (aq.put (by rw[aB (dR nn)];exact nx))
  have jW:upd (upd H dc (.own x)) x (.ins A.bQ dc []) x=some (.ins A.bQ dc []):=aD;generalize upd (upd H dc (.own x)) x (.ins A.bQ dc [])=H1 at *
  refine⟨C,x,dc,p,la,P',fp,ps,qs,o7,rfl,jW,hC,hP.same s1,pn,ha.same s1,ok,(λq hq=>by rw[(rd q hq).k];exact IY ⋯),λkp ks Dx ls H2 sb nD hc el=>⟨rfl,?_⟩⟩
  have s2:aq H H2:=λc o e=>sb _ _ (s1 _ _ e) (λz=>by rw[z,nx] at e;cases e)
  have nDH:=s1.free nD;have nrx:ru≠x:=λz=>by have e:=hru.o;rw[z,nx] at e;cases e
  have Bo:=hru.same s2;refine⟨λσ H3=>σ = [some (V.ref p),some (V.ref la),some (V.ref ru),some (V.int o7),some (V.int 0),some (V.ref x),none,none,none,none,none,none,none]/\gP ru H H3/\cW H H3/\fV A.cX H3 ru sh 0 0 dx pl bR/\bZ K A.bQ A.bI A.cQ H3 x dc kp ks (k_ qs qs.length) p o7 0 Dx ls,?_,?_⟩
  ·refine⟨dx,_,Bo.o,by simp[jf,List.lookup_cons,ju],ru,dx,pl,_,rfl,Bo.o,.inr ⟨_,_,rfl⟩,λH3 l7 h3=>⟨rfl,λc u e n z=>l7 _ _ (s2 _ _ e) n,(cW.of s2).trans (Bo.xN l7),Bo.set l7 h3,hc.kt (Bo.xN l7)⟩⟩
  ·rintro σ H3 ⟨rfl,Bp,yr,Bq,l6⟩;walk_at "rdt";intro R nR Pk nP T0 nT0;have an:=ha.n;have on:=ok.n;have fR:=qj.of Bp yr nR;have sR:=aq.put (o:=.lst []) nR;have fP:=qj.of Bp yr (sR.free nP);have sP:=aq.put (o:=.lst []) nP;have Fj:=aq.put (o:=.lst [V.aR]) nT0;have yt:=(sR.trans sP).trans Fj;have P1:=(sP.trans Fj) _ _ (aD (H:=H3) (a:=R) (o:=.lst []));have P4:=Fj _ _ (aD (H:=upd H3 R (.lst [])) (a:=Pk) (o:=.lst []));have nRP:R≠Pk:=b7 (aD (H:=H3) (a:=R) (o:=.lst [])) nP;generalize upd (upd (upd H3 R (.lst [])) Pk (.lst [])) T0 (.lst [V.aR])=H4 at *
   refine⟨_,.inl (aE.of (yt _ _ (yr.lst ha.l))),∅,by rw[aK];lia,by rw[aK];lia,λTk nT=>?_⟩
   have et:(List.replicate (((ps.map V.ref).length:Int)).toNat [V.aR]).flatten=eO qs.length []:=by unfold eO;simp[an]
   rw[et];have fT:=qj.of Bp yr (yt.free nT);have sT:=aq.put (o:=.lst (eO qs.length [])) nT;have l8:=yt.trans sT;have hR5:=sT _ _ P1;have Br:=sT _ _ P4;have hT5:upd H4 Tk (.lst (eO qs.length [])) Tk=some (.lst (eO qs.length [])):=aD;have nRT:R≠Tk:=b7 P1 nT;have nPT:Pk≠Tk:=b7 P4 nT;generalize upd H4 Tk (.lst (eO qs.length []))=H5 at *
   have I0:WS o7 K A.cX A.bQ A.bI A.cQ sh P' qs J H H3 H5 ls ru dx pl bR x dc kp p Dx R Pk Tk ks (k_ qs qs.length) o7 0 ls 0 0 [] [] [] :=
    { kx:=Bp.same l8,kt:=yr.trans (cW.of l8),rA:=Bq.same l8,t0:=⟨iW _,by have:=AD.n1;lia⟩,nx:=nrx,co:=l6.same l8,j:=(by rw[el];exact j0),fx:=nx,fd:=nDH,c3:=l6,bt:=(λc u e _ _ _=>l8 _ _ e),sub:=.refl _,n3:=⟨nR,sR.free nP,yt.free nT⟩,fR:=fR,fP:=fP,fT:=fT,np:=⟨JX Bq.p.l nR,JX Bq.p.l (sR.free nP),JX Bq.p.l (yt.free nT)⟩,ne:=⟨nRP,nRT,nPT⟩,rr:=⟨hR5,rfl,λi t r e=>(by simp at e)⟩,r5:=(λ_ h=>nomatch h),rl:=bu _,rh:=(λ_ h=>nomatch h),pP:=Br,tT:=hT5,n:=(by have:=gh List.length el;rw[aK,JS] at this;simpa using this),all:=λd hd=>.inl (el▸hd),dr:=λy hy=>el▸l_ hy,tn:=(λ_ h=>nomatch h),r0:=amf,r1:=amg }
   generalize aru:ls=Ay at *
   refine agr λBd hBd=>?_;refine⟨λm σ H'=>∃(r b:Int) (ls:List (Dr×Addr)) (t u:Int) (tk:List (Int×Int)) (ts:List Addr) (rows:List (List Int)) (u9 u10 P5 P6:Option V),m=ls.length/\σ = [some (V.ref p),some (V.ref la),some (V.ref ru),some (V.int o7),some (V.int 0),some (V.ref x),some (V.ref R),some (V.ref Pk),some (V.ref Tk),u9,u10,P5,P6]/\WS o7 K A.cX A.bQ A.bI A.cQ sh P' qs J H H3 H' Ay ru dx pl bR x dc kp p Dx R Pk Tk ks (k_ qs qs.length) r b ls t u tk ts rows,⟨_,_,_,Ay,_,_,_,_,_,none,none,none,none,rfl,rfl,I0⟩,?_⟩;clear I0 hR5 Br hT5 sT l8 P1 P4 yt Fj sP sR l6 Bq Bp yr;rintro m σ H6 ⟨r2,b2,d_,t2,u2,dZ,kD,Bs,u9,u10,P5,P6,rfl,rfl,I⟩;have xB:=I.co.o;unfold fW at xB;wp_walk using T,xB;refine⟨_,.inr (.inr ⟨_,I.co.d,rfl⟩),dX (λh0=>?_) λh0=>?_⟩
   ·have hl:1<=d_.length:=by
     cases d_ with
     | nil=>simp[d7] at h0
     | cons y l=>simp
    have kn:=ag8 rd;refine⟨_,λ_ _ h=>h,hBd _ _ _ ?_⟩;wp_walk using T,xB;refine⟨x,dc,kp,ks,_,p,r2,b2,Dx,d_,rfl,I.co,hl,λns h=>by rw[kn ns h];simp,λb3 D H7 st7 vP co7 nD hD=>?_⟩
    rw[ag9 kn] at hD;have P7:=I.rA.nF I.co vP I.nx;have kx7:=I.kx.nF vP I.fx I.fd;have kt7:=I.kt.nF vP I.fx I.fd;have ho7:=co7.o;unfold fW at ho7;have tH:1<=((d_.filter λy=>decide (y.1.q.at_<=b3)).map (·.1)).length:=by
     obtain⟨M,⟨y,hy,e⟩,_,e2⟩:=st7;have:y∈d_.filter λy=>decide (y.1.q.at_<=b3):=gB.mpr ⟨hy,ig (by rw[e,e2];split <;> lia)⟩
     rw[aK];exact GA this
    have hd2:((d_.filter λy=>decide (y.1.q.at_<=b3)).map (·.1)).length<=100:=by
     have:=pI (λy:Dr×Addr=>decide (y.1.q.at_<=b3)) d_;have:=I.co.n;rw[aK];lia
    have oU:∀y∈d_,D8 P' y.1.q/\y.1.c=jy P'.nc y.1.q.first y.1.q.many:=λy hy=>by
     obtain⟨a,b⟩:=Aw _ _ _ _ (I.dr y hy);exact⟨rd _ a,b⟩
    have hdc:∀d∈(d_.filter λy=>decide (y.1.q.at_<=b3)).map (·.1),1<=d.c.length:=λd hd=>by
     obtain⟨y,hy,rfl⟩:=cH.mp hd;obtain⟨a,b⟩:=oU y (gB.mp hy).1;have:=a.m0;rw[b,a.cn];lia
    wp_walk using T,ho7;refine⟨λσ H8=>∃(d:Dr) (t' u':Int),σ = [some (V.ref p),some (V.ref la),some (V.ref ru),some (V.int o7),some (V.int 0),some (V.ref x),some (V.ref R),some (V.ref Pk),some (V.ref Tk),some (V.ref D),some (V.int d.n),P5,P6]/\gP ru H7 H8/\cW H7 H8/\fV A.cX H8 ru sh t' u' dx pl bR/\rO sh ((d_.filter λy=>decide (y.1.q.at_<=b3)).map (·.1)) t2 u2 t' u'/\d∈(d_.filter λy=>decide (y.1.q.at_<=b3)).map (·.1)/\h_ (dY sh t') ((d_.filter λy=>decide (y.1.q.at_<=b3)).map (·.1))=some d.n,?_,?_⟩
    ·refine⟨dx,_,P7.o,by simp[jf,List.lookup_cons,ju],ru,p,dx,pl,r2,b3,bR,sh,t2,u2,D,_,_,rfl,P7,AD,I.t0.1,I.t0.2,hD,tH,hd2,λd hd=>?_,λt' u' n H8 sb8 h8 vp ln=>?_⟩
     ·obtain⟨y,hy,rfl⟩:=cH.mp hd;exact ask _ (Aw _ _ _ _ (I.dr y (gB.mp hy).1)).1
     ·obtain⟨⟨d,hd,_,en⟩,_⟩:=(JJ _).2 n ln;subst en;exact⟨d,t',u',rfl,gP.of sb8,P7.xN sb8,h8,vp,hd,ln⟩
    ·rintro σ H8 ⟨d,t',u',rfl,kx8,vQ,hr8,pkd,pkm,pkl⟩;have Fl:=co7.kt vQ;have yu:=vQ.lst (I.co.lst vP I.pP) jA.ints;have Fo:=vQ.lst (I.co.lst vP I.tT) (ag5 _ _);have P8:=I.co.zt vP I.rr;have qA:Zt H8 R kD Bs:=⟨vQ.lst P8.l,P8.n,λi t r e1 e2=>vQ.tup (P8.t i t r e1 e2)⟩;obtain⟨aaa,aab,aac⟩:=I.ne;have bt8:=(I.bt.nF vP).kt vQ;obtain⟨y,hyf,ey⟩:=cH.mp pkm;have hy:=(gB.mp hyf).1;subst ey;have yw:=Fl.o;have nxP:x≠Pk:=λz=>by rw[z,yu] at yw;cases yw
     have nxT:x≠Tk:=λz=>by rw[z,Fo] at yw;cases yw
     have nDP:Dx≠Pk:=λz=>by have:=Fl.d;rw[z,yu] at this;cases this
     have nDT:Dx≠Tk:=λz=>by have:=Fl.d;rw[z,Fo] at this;cases this
     obtain⟨yn0,yn1⟩:=Av _ _ _ _ (I.dr y hy);simp only[Nat.zero_add] at yn1;walk_at "rdt";refine⟨⟨_,aE.of yu⟩,_,yu,by rw[aK,aK];have:=I.n;lia,?_⟩
     have h9x:upd H8 Pk (.lst (((dZ.map (·.1)).map V.int)++[V.int y.1.n])) x=some (.ins A.bQ dc (fW kp p r2 b3 Dx)):=by rw[aB nxP];exact yw
     have h9T:upd H8 Pk (.lst (((dZ.map (·.1)).map V.int)++[V.int y.1.n])) Tk=some (.lst (eO qs.length dZ)):=by rw[aB (dR aac)];exact Fo
     unfold fW at h9x;refine⟨_,_,_,h9x,T.tQ,T.ET,V.int b3,by simp[List.lookup_cons,ju],_,h9T,y.1.n.toNat,by rw[JU];unfold jL;rw[if_pos ∅,if_pos ∅],?_⟩
     rw[← ag4 qs.length dZ (y.1.n,b3)];have aad:Zt (upd (upd H8 Pk (.lst (((dZ.map (·.1)).map V.int)++[V.int y.1.n]))) Tk (.lst (eO qs.length (dZ++[(y.1.n,b3)])))) R kD Bs:=⟨by rw[aB aab,aB aaa];exact qA.l,qA.n,λi t r e1 e2=>by
      have:=qA.t i t r e1 e2;rw[aB (λz=>by rw[z,Fo] at this;cases this),aB (λz=>by rw[z,yu] at this;cases this)];exact this⟩
     have aae:upd (upd H8 Pk (.lst (((dZ.map (·.1)).map V.int)++[V.int y.1.n]))) Tk (.lst (eO qs.length (dZ++[(y.1.n,b3)]))) x=some (.ins A.bQ dc (fW kp p r2 b3 Dx)):=by rw[aB nxT,aB nxP];exact yw
     have amh:upd (upd H8 Pk (.lst (((dZ.map (·.1)).map V.int)++[V.int y.1.n]))) Tk (.lst (eO qs.length (dZ++[(y.1.n,b3)]))) Dx=some (.dK (d7 d_)):=by rw[aB nDT,aB nDP];exact Fl.d
     have ami:upd (upd H8 Pk (.lst (((dZ.map (·.1)).map V.int)++[V.int y.1.n]))) Tk (.lst (eO qs.length (dZ++[(y.1.n,b3)]))) Pk=some (.lst (((dZ++[(y.1.n,b3)]).map (·.1)).map V.int)):=by rw[aB aac,aD];simp
     have amj:upd (upd H8 Pk (.lst (((dZ.map (·.1)).map V.int)++[V.int y.1.n]))) Tk (.lst (eO qs.length (dZ++[(y.1.n,b3)]))) Tk=some (.lst (eO qs.length (dZ++[(y.1.n,b3)]))):=aD;have P9:nG x Dx H3 (upd (upd H8 Pk (.lst (((dZ.map (·.1)).map V.int)++[V.int y.1.n]))) Tk (.lst (eO qs.length (dZ++[(y.1.n,b3)])))):=(bt8.put I.n3.2.1).put I.n3.2.2;have amk:gP ru H (upd (upd H8 Pk (.lst (((dZ.map (·.1)).map V.int)++[V.int y.1.n]))) Tk (.lst (eO qs.length (dZ++[(y.1.n,b3)])))):=((kx7.trans kx8).put I.fP).put I.fT;have aaf:cW H (upd (upd H8 Pk (.lst (((dZ.map (·.1)).map V.int)++[V.int y.1.n]))) Tk (.lst (eO qs.length (dZ++[(y.1.n,b3)])))):=((kt7.trans vQ).putK I.fP).putK I.fT;have aml:fV A.cX (upd (upd H8 Pk (.lst (((dZ.map (·.1)).map V.int)++[V.int y.1.n]))) Tk (.lst (eO qs.length (dZ++[(y.1.n,b3)])))) ru sh t' u' dx pl bR:=(hr8.iK yu I.np.2.1).iK h9T I.np.2.2;generalize upd (upd H8 Pk (.lst (((dZ.map (·.1)).map V.int)++[V.int y.1.n]))) Tk (.lst (eO qs.length (dZ++[(y.1.n,b3)])))=H10 at *
     have Bu:=I.c3.WL P9 I.sub aae amh;obtain⟨ya,yb⟩:=oU y hy;have ycn:y.1.c.length=y.1.q.many.toNat:=by rw[yb];exact ya.cn
     have PN:=ya.m0;have PR:=ya.m1;have P_:vd P' y.1.c:=by rw[yb];exact ya.c
     have aag:=aae;unfold fW at aag;refine⟨⟨_,aE.of aad.l⟩,_,_,aag,by simp[List.lookup_cons,ju],C,x,dc,kp,ks,_,p,P',fp,r2,b3,Dx,d_,y,rfl,Bu,hy,hC,hP.kt aaf,pk,I.r0,I.r1,P_,∅,∅,λl tw H11 ug nl Fp Qa=>?_⟩
     have Bv:=Bu.zt ug aad;have wl:=Dl P' y.1.c (r2,b3);have irn:=I.rr.n;have irl:=I.rl;have in_:=I.n;have izn:=Qa.n;rw[aK] at izn;have fl:=ag7 I.co.up hy;have AE:(d_.filter λz=>decide (z.1.n≠y.1.n)).Sublist d_:=List.filter_sublist;have nxR:x≠R:=λz=>by have:=Fp.o;rw[z,Bv.l] at this;cases this
     have nDR:Dx≠R:=λz=>by have:=Fp.d;rw[z,Bv.l] at this;cases this
     refine⟨l,rfl,_,Bv.l,_,Qa.l,by rw[aK,aK];lia,_,?_,(fq P' (r2,b3) y.1.c).1,(fq P' (r2,b3) y.1.c).2,d_.filter (λz=>decide (z.1.n≠y.1.n)),rfl,t',u',dZ++[(y.1.n,b3)],kD++tw,Bs++(iM P' (r2,b3) y.1.c).map (λrow=>y.1.n::row),?_⟩
     ·lia
     have sd:WK (d_.map (·.1)) b2 b3:=by
      obtain⟨M,⟨z,hz,e⟩,hm,e2⟩:=st7;exact⟨M,⟨z.1,l_ hz,e⟩,λd hd=>by obtain⟨z,hz,rfl⟩:=cH.mp hd;exact hm z hz,e2⟩
     have fm:(d_.map (·.1)).filter (λd=>decide (d.q.at_<=b3))=(d_.filter λy=>decide (y.1.q.at_<=b3)).map (·.1):=by rw[BR];rfl
     have jj:=al.go (d_.map (·.1)) r2 b2 t2 u2 dZ b3 y.1 t' u' I.j sd (by rw[fm];exact pkd) (by rw[fm];exact pkm) (by rw[fm];exact pkl)
     rw[BR] at jj;have ein:=IC P' (n:=P'.rc.length) y.1.c (r2,b3) I.r0 I.r1 λq hq=>⟨(P_ q hq).1,(P_ q hq).2.1⟩;exact {
      kx:=(amk.nF ug I.fx I.fd).put I.fR,kt:=(aaf.nF ug I.fx I.fd).putK I.fR,rA:=(aml.nF Bu ug I.nx).iK Bv.l I.np.1,t0:=((λh=>⟨h.1,h.2.1⟩) (pkd.bt AD I.t0.1 I.t0.2)),nx:=I.nx,co:=I.c3.WL ((P9.nF ug).put I.n3.1) (AE.trans I.sub) (by rw[aB nxR];exact Fp.o) (by rw[aB nDR];exact Fp.d),j:=jj,fx:=I.fx,fd:=I.fd,c3:=I.c3,bt:=(P9.nF ug).put I.n3.1,sub:=AE.trans I.sub,n3:=I.n3,fR:=I.fR,fP:=I.fP,fT:=I.fT,np:=I.np,ne:=I.ne,rr:=Bv.cat Qa,
      r5:=(λw hw=>by
       rcases cF.mp hw with hw | hw
       ·exact I.r5 w hw
       ·obtain⟨row,hr,rfl⟩:=cH.mp hw;rw[gA,IB P' y.1.c (r2,b3) row hr]),
      rl:=(by rw[fE,fE,aK,wl,rZ];lia),
      rh:=(λq hq=>by
       rcases cF.mp hq with hq | hq
       ·obtain⟨w,hw,e⟩:=I.rh q hq;exact⟨w,n8 _ hw,e⟩
       ·rw[cj.mp hq];obtain⟨row,hr⟩:=List.exists_mem_of_length_pos (l:=iM P' (r2,b3) y.1.c) ∅
        exact⟨_,fF _ (l_ hr),rfl⟩),
      pP:=(by rw[aB (dR aaa)];exact Bu.lst ug ami),tT:=(by rw[aB (dR aab)];exact Bu.lst ug amj),
      n:=(by rw[fE,rZ];lia),
      all:=(λd hd=>by
       rcases I.all d hd with h | ⟨q',kN,e⟩
       ·by_cases e:d.n=y.1.n
        ·exact .inr ⟨(y.1.n,b3),fF _ (List.mem_singleton_self _),e.symm⟩
        ·obtain⟨z,hz,rfl⟩:=cH.mp h;exact .inl (l_ (gB.mpr ⟨hz,ig e⟩))
       ·exact .inr ⟨q',n8 _ kN,e⟩),
      dr:=(λz hz=>I.dr z (AE.subset hz)),
      tn:=(λq hq=>by
       rcases cF.mp hq with hq | hq
       ·exact I.tn q hq
       ·rw[cj.mp hq];exact⟨by simpa using yn0,yn1⟩),
      r0:=ein.1,r1:=ein.2 }
   ·have hl:d_ = []:=by
     cases d_ with
     | nil=>rfl
     | cons y l=>simp[d7] at h0
    subst hl;have in_:=I.n;have irl:=I.rl;simp only[List.length_nil,Nat.add_zero] at in_;refine⟨R,kD,Bs,rfl,I.rr,∅,I.r5,λEd kvs H7 s7 nE hE hv=>?_⟩
    have fin:∀v5,WJ K A.bI [V.ref la,V.ref Ed,V.int 0] H7 (λx H1=>WI K A.bI [V.ref la,V.ref Pk] H1 (λx_5 H1=>∀(yx dx:Addr),H1 yx=none->H1 dx=none->dx≠yx->WH A.fX [V.ref yx,V.ref R,V.ref Tk,x,x_5,v5] (upd (upd H1 dx (HO.own yx)) yx (HO.ins A.fX dx [])) (λv H2=>v=V.aR/\Q (V.ref yx) H2) E0) E0) E0:=by
     intro v5;have ha7:=(ha.kt I.kt).same s7;refine⟨la,ps,qs,Ed,kvs,0,rfl,ha7,on,λq hq=>⟨(rd q hq).k,(rd q hq).e⟩,hE,λn n0 n1=>?_,λl H8 s8=>?_⟩
     ·obtain⟨d,hd,e⟩:=JV P'.nc qs 0 n.toNat ∅
      rcases I.all d hd with h | ⟨q',kN,e2⟩
      ·cases h
      ·refine hv n ?_;obtain⟨w',hw,e3⟩:=I.rh q' kN;exact⟨w',hw,by rw[e3,e2,e];congr 1;lia⟩
     ·refine⟨la,ps,qs,Pk,dZ.map (·.1),rfl,ha7.same s8,on,λq hq=>⟨(rd q hq).k,(rd q hq).f0,(rd q hq).f1,by have:=(rd q hq).m0;lia,(rd q hq).m1⟩,s8 _ _ (s7 _ _ I.pP),by rw[aK];lia,λn hn=>?_,λl2 H9 s9 xx dd nxx Qc nnd=>⟨xx,dd,_,_,_,_,_,rfl,aD,rfl,?_⟩⟩
      ·obtain⟨q',kN,rfl⟩:=cH.mp hn;exact I.tn q' kN
      ·have sa:aq H6 H9:=(s7.trans s8).trans s9;have sb:∀u,aq H9 (upd (upd (upd H9 dd (.own xx)) xx (.ins A.fX dd [])) xx u):=λu c o e=>by
        have n1:c≠xx:=λz=>by rw[z,nxx] at e;cases e
        have n2:c≠dd:=λz=>by rw[z,Qc] at e;cases e
        rw[aB n1,aB n1,aB n2];exact e
       have sc:=λu=>sa.trans (sb u);exact q xx dd _ Tk _ _ _ r2 b2 t2 u2 dZ _ (I.kx.same (sc _)) I.j aD (sc _ _ _ I.tT)
    refine⟨_,.inl ⟨_,aE.of (s7 _ _ I.rr.l),rfl⟩,dX (λh1=>?_) λh1=>fin _⟩;have fH:Bs≠[]:=λz=>by
     have:=I.rr.n;rw[z] at this;have:kD = []:=Gy.mp this;rw[this] at h1;simp at h1
    have hz:=I.rr.same s7;have Bw:=I.r5 _ (List.getLast_mem fH);obtain⟨g1,g2,g3,g4,g5,eg⟩:=WG Bw;rw[← Gq fH,eg] at hz;obtain⟨xP,t,rfl,ht⟩:=hz.last;exact⟨_,aE.of (s7 _ _ I.rr.l),_,by rw[bO];exact TL _ _,t,rfl,_,aY.of ht,_,gT (j:=4) rfl,fin _⟩
theorem amm:bg P w K mg base bw 9 A.Ot A.Ou ["_law_script"] (DN K [(A.lX,A.gf)]):=by
 refine T.aku.ok lW (λvs H Q E h=>?_) (λaQ Ar outer s H vs Q E hr h=>?_)
 ·obtain⟨a,ns,rfl,_⟩:=h
  rfl
 ·obtain⟨a,ns,rfl,hS,kE,hT,q⟩:=h;have aah:=hT (A.lX,A.gf) (by simp)
  have TN:cN A.gf (rq iS) (rB "nearest_rings") H:=⟨#[],aah,trivial,.inl rfl⟩;have hu:=i7 hr;have hu1:=hr.ace;refine⟨_,(aC (b_ (wI (aP (amb T aH) (hr.mono ⋯) rfl T.akf T.Yj.kp T.ake .nil aJ (ao (ah 0) au)) (jm rfl (cu (br (i:=1) lW.nd rfl OL_) (cu (br (i:=2) lW.nd rfl OL_) gX)))))
   (aC (b_ (aX (i:=3) lW.nd rfl (Or.inr rfl) (aP (alS T aH) (hr.mono ⋯) rfl T.akh T.Yk.kp T.akg .nil aJ (ao (aP (pe T aH) (hr.mono ⋯) rfl T.o9 T.nQ.kp T.o8 .nil aJ (ao (ah 0) (ao az au))) au))))
   (aC (b_ (wW (i:=4) lW.nd rfl OL_ (N:=["_law_k", "_law_askers_here", "_law_script"]) (nt:=1) (fv:=[3,0]) ‹eE.of› rfl (j5 rfl T.gu (ao (bY fL rfl T.dB dN (ao (ah 3) au)) au)) (λC s H fp=>(br (i:=0) (show List.Nodup (["_law_k", "_law_askers_here", "_law_script"]:List Str) by decide +kernel) rfl OL_)) (λC s H fp=>kq) (λC s H fp=>(dO (ao (aZ (Xe (K:=K) rfl) (ah 1) (ah 0) (λ_ _=>rfl)) (ao (aN eF az (aP (cT T aH) (hr.mono ⋯) rfl T.cS T.cJ.kp T.cR .nil aJ (ao (aP (pe T aH) (hr.mono ⋯) rfl T.o9 T.nQ.kp T.o8 .nil aJ (ao (ah 2) (ao az au))) (ao (aN eF az (ah 0)) (ao az au))))) au))))))
   (aC (b_ (aX (i:=5) lW.nd rfl OL_ (aP (alD T aH) (hr.mono ⋯) rfl T.akt T.Yr.kp T.akr .nil aJ (ao (aP (al8 T aH) (hr.mono ⋯) rfl T.akl T.Yo.kp T.akk .nil aJ (ao (ah 0) (ao az (ao (bY (SW rfl) rfl T.EX boot_max (ao az (ao (aN sS (bY (CJ rfl) rfl T.qw sy (ao (bY fL rfl T.dB dN (ao (ah 0) au)) (ao az au))) az) au))) (ao (ah 2) (ao (ah 3) au)))))) au))))
   (aC (b_ (aX (i:=6) lW.nd rfl OL_ (aP (cT T aH) (hr.mono ⋯) rfl T.cS T.cJ.kp T.cR .nil aJ (ao (aP (pe T aH) (hr.mono ⋯) rfl T.o9 T.nQ.kp T.o8 .nil aJ (ao (ah 0) (ao az au))) (ao az (ao (bY qV rfl T.dB dN (ao (aZ gQ (ah 2) az (λ_ _=>rfl)) au)) au))))))
   (aC (b_ (aX (i:=7) lW.nd rfl OL_ (g8 (aP (ame T aH) (hr.mono ⋯) rfl T.ai2 T.XN.kp T.ai1 (show Vals [.int 0] [.int 0 A.Xm] from(.cons ⟨_,rfl⟩ .nil)) aJ (ao (ah 1) (ao (ku (N:=["_law_ask_here"]) (nt:=1) (fv:=[]) ‹eE.of› rfl (gM (ah 5)) (λC s H fp=>(br (i:=0) (show List.Nodup (["_law_ask_here"]:List Str) by decide +kernel) rfl OL_)) (λC s H fp=>kq) (λC s H fp=>(aP (al_ T aH) (hr.mono ⋯) rfl T.ako T.Yp.kp T.akn .nil aJ (ao (ah 0) au)))) (ao (qP T.akI (alN T aH) (hr.mono ⋯) rfl T.akJ T.ajW .nil aJ (ao (ah 4) au)) (ao (ah 6) au))))) rfl)))
   (aC (b_ (d8 (PW.pt (iu (eV J8 (bY fL rfl T.dB dN (ao (ah 7) au)) (bY fL rfl T.dB dN (ao (ah 5) au)) (bG _)) (ir (c7 TR pR (ah 7) rfl)))) (aI (bJ mD)) cC))
   (aC (b_ (aX (i:=8) lW.nd rfl OL_ (bY (UJ rfl) rfl T.EY boot_sum (ao (ku (N:=["_law_asker", "_law_share"]) (nt:=2) (fv:=[]) ‹eE.of› rfl (gM (ah 4)) (λC s H fp=>(zP (K:=K) (n:=2) rfl rfl (cu (br (i:=0) (show List.Nodup (["_law_asker", "_law_share"]:List Str) by decide +kernel) rfl OL_) (cu (br (i:=1) (show List.Nodup (["_law_asker", "_law_share"]:List Str) by decide +kernel) rfl OL_) gX)))) (λC s H fp=>kq) (λC s H fp=>(ah 1))) au))))
   (aC (dU dF rfl (j5 rfl T.gu (ao (bY fL rfl T.dB dN (ao (ah 5) au)) au)) (br (i:=9) lW.nd rfl OL_)
   (aC (b_ (aX (i:=10) lW.nd rfl OL_ (HN hu (pX (ahn rfl) rfl T.EW boot_dict (ao (ah 4) au)) (aZ lM (aZ c8 (ah 5) (ah 9) (λ_ _=>rfl)) az (λ_ _=>rfl)) (λ_ _=>rfl))))
   (aC (b_ (wI (aP (alC T aH) (hr.mono ⋯) rfl T.akq T.Yq.kp T.akp .nil aJ (ao (ah 5) (ao (ah 7) (ao (ah 9) au)))) (jm rfl (cu (br (i:=11) lW.nd rfl OL_) (cu (br (i:=12) lW.nd rfl OL_) gX)))))
   (aI (jC (eV j7 (ah 12) (aN jU (aN eF (aN Eh (ah 11) (ah 10)) az) (aN qo (ah 8) (ah 10))) (bG _)) (aI (bJ mD)) cC)))))
   (aI (bJ mD))))))))))),?_⟩
  refine cD λN1 k1=>?_;wp_walk using bU,eU;refine⟨a,ns,rfl,hS,kE,TN,λt C p wt z aG sk sw ca sa na gO nc fp H1 sb ht hC hP wo nk hw=>?_⟩;have vj:=(TN.xN sb).seq hS;clear sb TN aah hT;have n1:1<=(rF z aG sk sw nc).nc.length:=dQ ⋯ nk.n2
  have nM:(rF z aG sk sw nc).nc.length<=1000000:=dQ nk.n1 ⋯
  refine⟨t,rfl,_,aY.of ht,rfl,_,_,rfl,_,_,rfl,rfl,k1 _ _ ?_⟩;refine cD λN2 k2=>?_;wp_walk using bU,eU;refine⟨ns,vj,kE,_,rfl,λal as H2 s2 nal ha a1 a4 ue and=>k2 _ _ ?_⟩;have lU:=s2.seq vj;refine cD λN3 k3=>?_;wp_walk using bU,eU;refine xh (as.length:Int) (λD i ys aA H3=>∃(u:Option V) (jk:List Addr) (zz:List (Int×Int)),ys=jk.map V.ref/\aA = [u,some (.ref al),some (.ref a)]/\Zn H3 D jk zz/\zz.map (·.1)=as.take i/\(∀y∈zz,1<=y.2/\y.2<=4)/\aq H2 H3/\H2 D=none/\i<=4) (λQ q=>?_) ∅ ∅ ?_ ?_ ?_ ?_
  ·walk_at "rdm";refine⟨_,.inl (aE.of ha),?_⟩;rw[aK];exact q
  ·intro D hD;exact⟨none,[],[],rfl,rfl,Zn.start,rfl,(λ_ h=>nomatch h),aq.put hD,hD,∅⟩
  ·rintro D i ys aA H3 ⟨u,jk,zz,rfl,rfl,g1,g2,g3,g4,g5,g6⟩;have gl:=gh List.length g2;rw[aK,fc] at gl;exact⟨g1.l,jr (by rw[aK,g1.n];lia)⟩
  ·rintro D i ys aA H3 N hN hi ⟨u,jk,zz,rfl,rfl,g1,g2,g3,g4,g5,g6⟩;have gG:i<as.length:=by lia
   wp_walk using bU,eU;have b75:=dH (kC ns 6) (75+(i:Int)) (m:=4) ⋯
   refine⟨_,aE.of (g4 _ _ ha),_,i9 ∅ ∅,ns,g4.seq lU,kE,∅,∅,λp1 e8=>⟨aq.put e8 _ _ g1.l,hN _ _ _ ⟨_,jk++[p1],_,by rw[bO];rfl,rfl,g1.snoc e8 _ _,?_,λy hy=>?_,aq.put2 (g4.trans (aq.put e8)) g5,g5,∅⟩⟩⟩
   ·rw[bO,g2,take_succ_get (bx gG)];simp[gG]
   ·rcases cF.mp hy with hy | hy
    ·exact g3 y hy
    ·rw[cj.mp hy];lia
  rintro shl ys aA H3 ⟨u,jk,sh,rfl,rfl,hz,zf,zs,s3,amn,_⟩;rw[yF,eG] at zf;refine k3 _ _ ?_;have arv:sh.length=as.length:=by rw[← zf,aK]
  have ok:iR sh:=⟨∅,∅,λy hy=>⟨(ue y.1 (zf▸l_ hy)).1,(ue y.1 (zf▸l_ hy)).2,(zs y hy).1,(zs y hy).2⟩,zf▸and⟩
  have pB:=s2.trans s3;have ng:=s3.seq lU;refine cD λN4 k4=>?_;wp_walk using bU,eU;refine⟨_,.inl ng,a,wt,al,ns,8,_,counts z,aG,sk,sw,ca,sa,na,gO,nc,as,rfl,ng,kE,⋯,⋯,by split <;> lia,by split <;> split <;> lia,hw.same pB,n1,nM,wo.l1,wo.l2,s3 _ _ ha,a1,ue,λlr0 ts0 Qd H4 s4 nl0 hq0 hn0 ok0 up0=>?_⟩
  have n42:Qd.length<=42:=by rw[hn0];split <;> split <;> lia
  refine⟨lr0,ts0,Qd,rfl,hq0,∅,λlr yy H5 s5 nlr vR=>k4 _ _ ?_⟩
  have G:=ahz n42 ok0 up0;have Qe:=pB.trans (s4.trans s5);have l8:=s4.trans s5;have hS5:=l8.seq ng;have Br:=hP.same Qe;have Bw:=hw.same Qe;have yq:=hz.same l8;generalize lC Qd=qs at G vR;clear vj lU ng ha hP hw hz s2 s3 s4 s5 pB Qe l8 amn nal ht zs ue hq0 hn0 ok0 up0 n42;refine cD λN5 k5=>?_;wp_walk using bU,eU;have rc2:2<=(counts z).length:=(wo.pl nc).n2;have rb:=dH (kC ns 5) 82 (m:=((counts z).length:Int)) ∅
  refine⟨ns,hS5,kE,_,aY.of Bw.o,_,rfl,ca,rfl,_,.inl (aE.of Bw.c),by rw[aK];lia,k5 _ _ ?_⟩
  rw[aK];generalize bf (kC ns 5) 82 ((counts z).length:Int)=ring at rb ⊢;refine cD λN6 k6=>?_;wp_walk using T,bU,eU;have rn:=vR.n;have ql:=G.n;refine p8 lr (yy.map V.ref) (λD k ys aA H2=>∃(u:Option V) (ps:List Addr),ys=ps.map V.ref/\aA = [u]/\aq H5 H2/\H5 D=none/\iy K A.bI H2 D ps (qs.take k)) (λQ q=>q) (aE.of vR.l) ?_ ?_ ?_ ?_
  ·intro D hD;exact⟨none,[],rfl,rfl,aq.put hD,hD,⟨aD,rfl,λi p q e=>by simp at e⟩⟩
  ·rintro D k ys aA H2 ⟨u,ps,rfl,rfl,e2,e3,e4⟩;have:=e4.n;rw[fc] at this;exact⟨e4.l,jr (by rw[aK];lia),aE.of (e2 _ _ vR.l)⟩
  ·rintro D k x ys aA H2 N hN hx ⟨u,ps,rfl,rfl,e2,e3,e4⟩;obtain⟨tr,ht,rfl⟩:=iL hx;have hk:k<qs.length:=by rw[← rn];exact gH ht
   obtain⟨m,b,rW⟩:=(vR.same e2).t k tr qs[k] ht (bx hk);obtain⟨g1,g2,g3⟩:=G.ok _ (cU hk);walk_at "rdm";refine⟨tr,qs[k],m,b,nc.length,rfl,rW,g1,by have:nc.length<=1000000:=nM;lia,g2,λpa mk bb dw H3' Qf npa Pp=>⟨(e4.same Qf).l,hN _ _ _ ⟨_,ps++[pa],by rw[bO];rfl,rfl,aq.put2 (e2.trans Qf) e3,e3,?_⟩⟩⟩
   rw[take_succ_get (bx hk)];exact(e4.same Qf).snoc Pp
  rintro la ys aA H6 ⟨u',ps,rfl,rfl,s6,nla,A_⟩;rw[aK,rn,eG] at A_;intro ru dx Fq mX nrd;have sA:aq H6 (upd (upd H6 dx (.own ru)) ru (.ins A.cX dx [])):=(aq.put mX).trans (aq.put (by rw[aB (dR nrd)];exact Fq))
  refine⟨ru,dx,shl,jk,sh,rfl,aD,(yq.same s6).same sA,ok,λpl bR H7 Bm npl C5=>⟨rfl,?_⟩⟩;have vO:aq H6 H7:=λb o e=>Bm _ _ (sA _ _ e) (λz=>by rw[z,Fq] at e;cases e)
  have Bl:=s6.trans vO;have GR:=G.rws wo nk ok zf;refine⟨C,p,la,ru,dx,pl,bR,sh,0,0,_,fp,ps,qs,ring,_,rfl,hC,Br.same Bl,wo.pl nc,nM,A_.same vO,G.aks,G.W9 wo nk,C5,ok,λq hq=>by rw[zf];exact(G.ok q hq).2.2,rb.1,rb.2,JT.start GR rb.1 rb.2,JT.along GR,λx iw w1 ta w3 w4 w5 r b t' u' mV H8 kx j hx f9=>?_⟩
  obtain⟨bs,eb,lb,fin⟩:=JT.ends GR j;rw[eb] at f9;refine⟨x,rfl,_,_,_,hx,T.akB,T.OI,_,rfl,k6 _ _ ?_⟩;have kn:iA H5 H8:=iA.trans (iA.of s6) (iA.rule vO kx Fq);have Qg:=kn.tks vR;have qA:=kn.zn yq;clear kn kx j hx eb Bl vO s6 sA Bm npl C5 nrd mX Fq A_ nla Br Bw vR yq hS5 GR;refine cD λN7 k7=>?_;wp_walk using T,bU,eU;refine⟨_,.inl (aE.of f9),_,.inl (aE.of Qg.l),ite_no (by rw[aK,aK,lb,rn];simp) ⟨_,.inl (aE.of f9),rfl,IP _,ite_no (by rw[ahC];decide) (k7 _ _ ?_)⟩⟩
  refine cD λN8 k8=>?_;wp_walk using T,bU,eU;refine p8 shl (jk.map V.ref) (λD i ys aA H9=>∃(v w:Option V),ys=((sh.take i).map (·.2)).map V.int/\aA = [v,w]/\H9 D=some (.lst ys)/\aq H8 H9/\H8 D=none) (λQ q=>q) qA.sq ?_ ?_ ?_ ?_
  ·intro D hD;exact⟨none,none,rfl,rfl,aD,aq.put hD,hD⟩
  ·rintro D i ys aA H2 ⟨v,w,rfl,rfl,e1,e2,e3⟩;exact⟨e1,jr (by rw[aK,aK,fc];lia),e2.seq qA.sq⟩
  ·rintro D i x ys aA H2 N hN hx ⟨v,w,rfl,rfl,e1,e2,e3⟩;obtain⟨t,y,rfl,hy,ht⟩:=(qA.same e2).at hx;walk_at "rdm";exact⟨_,aY.of ht,rfl,_,_,rfl,_,_,rfl,rfl,e1,hN _ _ _ ⟨_,_,by rw[take_succ_get hy,bO,bO];rfl,rfl,aD,aq.put2 e2 e3,e3⟩⟩
  rintro D ys aA H9 ⟨v,w,rfl,rfl,e1,Ft,e3⟩;rw[aK,qA.n,eG] at e1;refine⟨D,rfl,_,aE.of e1,k8 _ _ ?_⟩;have hz9:=qA.same Ft;have aai:=Qg.same Ft;have amo:=Ft _ _ f9;clear qA Qg f9 Ft e1 e3;wp_walk using T,bU,eU;refine u_ (qs.length:Int) (λk σ H'=>∃(y1 y2 y3 y4:Option V),σ = [some (.ref a),some (.ref p),some (.ref wt),some (.ref al),some (.ref shl),some (.ref lr),some (.int ring),some (.ref ta),some (.int (sh.map (·.2)).sum),y1,y2,y3,y4]/\aq H9 H') (λQ q=>?_) ∅ ∅ ⟨none,none,none,none,rfl,aq.refl _⟩ ?_ ?_
  ·walk_at "rdm";exact⟨_,.inl (aE.of aai.l),by rw[aK,rn];exact q⟩
  ·rintro k σ H' N hN hk ⟨y1,y2,y3,y4,rfl,s'⟩;have tX:k<qs.length:=by lia
   have iT:=bx tX;have A3:yy[k]? = some yy[k]:=bx ∅
   have aaj:=aai.same s';obtain⟨m,b',rW⟩:=aaj.t k _ _ A3 iT;have ak:dP (yy.map V.ref) (k:Int)=some (.ref yy[k]):=gT (by rw[gR,A3];rfl)
   have am:qs[k].bB∈sh.map (·.1):=by rw[zf];exact(G.ok _ (cU tX)).2.2
   obtain⟨ia,i0,i1,ea⟩:=ag_ am;have mem:=iC (vn i0 i1);have mb:=ok.a _ mem;refine cD λNa ka=>?_;wp_walk using T,bU,eU;refine⟨jk,sh,hz9.same s',∅,λdd Qc=>?_⟩
   have sd:=aq.put (o:=.dK (zK sh)) Qc;have gv:bV (zK sh) (bN qs[k].bB)=some (.int (cI sh ia)):=by rw[← ea];exact ahk ok.nd mem
   have dg:fO (upd H' dd (.dK (zK sh))) dd (V.int qs[k].bB) (some (.int (cI sh ia))):=by
    have:=fO.k (H:=upd H' dd (.dK (zK sh))) (a:=dd) (kvs:=zK sh) (k:=bN qs[k].bB) aD;rw[gv] at this;exact this
   have Qh:=aaj.same sd;refine⟨_,aE.of Qh.l,_,ak,_,rfl,_,aY.of (sd _ _ rW.o),_,rfl,_,dg,ka _ _ ?_⟩;have Qi:=s'.trans sd;have oV:=aD (H:=H') (a:=dd) (o:=.dK (zK sh));generalize upd H' dd (.dK (zK sh))=H10 at sd dg Qh Qi oV ⊢;refine cD λNb kb=>?_;wp_walk using T,bU,eU;refine⟨lr,ta,yy,qs,bs,k,qs[k],rfl,Qh,∅,Qi _ _ amo,lb,iT,λtc H11 s11 Qj=>?_⟩
   have F:=fin k qs[k] iT ia i0 i1 ea;generalize ((Ax qs bs k qs[k] (bs.getD k 0)).length:Int)=O at Qj F;have A0:(0:Int)<=((tK qs bs k qs[k] (bs.getD k 0)).length:Int):=Int.natCast_nonneg _;have A1:((tK qs bs k qs[k] (bs.getD k 0)).length:Int)<=42:=by
    unfold tK;have:=pI (λj=>(decide (qs[k].at_<=bs.getD j 0/\bs.getD j 0<bs.getD k 0) && decide ((qs.getD j qs[k]).bB=qs[k].bB)) && decide (j<k)) (List.range qs.length);rw[jF] at this;lia
   generalize ((tK qs bs k qs[k] (bs.getD k 0)).length:Int)=Ah at Qj F A0 A1;refine⟨tc,rfl,_,aY.of Qj,rfl,_,_,rfl,_,_,rfl,rfl,kb _ _ ?_⟩;wp_walk using T,bU,eU;have m1:1<=cI sh ia/\cI sh ia<=4:=mb.2.2;have q0:=Int.ediv_nonneg A0 (show 0<=cI sh ia by lia)
   have q1:=Int.ediv_le_self (cI sh ia) A0;exact⟨∅,∅,.inl ⟨∅,∅⟩,ite_no (by unfold xV at F;lia) (hN _ _ ⟨_,_,_,_,rfl,Qi.trans s11⟩)⟩
  ·rintro σ H' ⟨y1,y2,y3,y4,rfl,s'⟩;walk_at "rdm";exact q _
end
theorem uh{C:List Value->Prop}(h:C []):∀us:List Value,us.length=0->C us:=λ| [],_=>h
theorem dM{n:Nat}{C:List Value->Prop}(h:∀a us,us.length=n->C (a::us)):∀us:List Value,us.length=n+1->C us:=λ| a::us,e=>h a us (Nat.succ.inj e)
theorem Qk{K:W.Frag}{fd:FuncData}{ps:List Str}{ds:List Value}(n:Nat)(e:n+ds.length=ps.length)(h:∀s,K.In s.heap->∀us:List Value,us.length=n->BindsTo s fd ⟨us,[]⟩ (ps.zip (us++ds))):Binds K fd ps ds:=λs us X hl=>h s X us (by rw[fE] at hl;lia)
theorem us1{C:List Value->Prop}(h:∀a0,C [a0]):∀us:List Value,us.length=1->C us:=dM λa0=>uh (h a0)
theorem us2{C:List Value->Prop}(h:∀a0 a1,C [a0,a1]):∀us:List Value,us.length=2->C us:=dM λa0=>dM λa1=>uh (h a0 a1)
theorem vM{C:List Value->Prop}(h:∀a0 a1 a2,C [a0,a1,a2]):∀us:List Value,us.length=3->C us:=dM λa0=>dM λa1=>dM λa2=>uh (h a0 a1 a2)
theorem us4{C:List Value->Prop}(h:∀a0 a1 a2 a3,C [a0,a1,a2,a3]):∀us:List Value,us.length=4->C us:=dM λa0=>dM λa1=>dM λa2=>dM λa3=>uh (h a0 a1 a2 a3)
theorem us5{C:List Value->Prop}(h:∀a0 a1 a2 a3 a4,C [a0,a1,a2,a3,a4]):∀us:List Value,us.length=5->C us:=dM λa0=>dM λa1=>dM λa2=>dM λa3=>dM λa4=>uh (h a0 a1 a2 a3 a4)
theorem us6{C:List Value->Prop}(h:∀a0 a1 a2 a3 a4 a5,C [a0,a1,a2,a3,a4,a5]):∀us:List Value,us.length=6->C us:=dM λa0=>dM λa1=>dM λa2=>dM λa3=>dM λa4=>dM λa5=>uh (h a0 a1 a2 a3 a4 a5)
theorem us7{C:List Value->Prop}(h:∀a0 a1 a2 a3 a4 a5 a6,C [a0,a1,a2,a3,a4,a5,a6]):∀us:List Value,us.length=7->C us:=dM λa0=>dM λa1=>dM λa2=>dM λa3=>dM λa4=>dM λa5=>dM λa6=>uh (h a0 a1 a2 a3 a4 a5 a6)
theorem amq{C:List Value->Prop}(h:∀a0 a1 a2 a3 a4 a5 a6 a7 a8 a9,C [a0,a1,a2,a3,a4,a5,a6,a7,a8,a9]):∀us:List Value,us.length=10->C us:=dM λa0=>dM λa1=>dM λa2=>dM λa3=>dM λa4=>dM λa5=>dM λa6=>dM λa7=>dM λa8=>dM λa9=>uh (h a0 a1 a2 a3 a4 a5 a6 a7 a8 a9)
noncomputable abbrev Nq_(K:W.Frag)(n:Str)(a:Addr):Prop:=W.nsIn K mainGlobals n=some (some (.ref a))
noncomputable abbrev No_(K:W.Frag)(n:Str):Prop:=W.nsIn K mainGlobals n=some none
noncomputable abbrev Ni_(K:W.Frag)(n:Str)(i:Int)(t:Tok):Prop:=W.nsIn K mainGlobals n=some (some (.int i t))
local macro_rules | `(tactic| walk_at "u1") => `(tactic| exact λ_ _ _ _ _ _=>us1 (λ_=>rfl))
local macro_rules | `(tactic| walk_at "u2") => `(tactic| exact λ_ _ _ _ _ _=>us2 (λ_ _=>rfl))
local macro_rules | `(tactic| walk_at "u3") => `(tactic| exact λ_ _ _ _ _ _=>vM (λ_ _ _=>rfl))
local macro_rules | `(tactic| walk_at "u4") => `(tactic| exact λ_ _ _ _ _ _=>us4 (λ_ _ _ _=>rfl))
local macro_rules | `(tactic| walk_at "u5") => `(tactic| exact λ_ _ _ _ _ _=>us5 (λ_ _ _ _ _=>rfl))
local macro_rules | `(tactic| walk_at "u6") => `(tactic| exact λ_ _ _ _ _ _=>us6 (λ_ _ _ _ _ _=>rfl))
local macro_rules | `(tactic| walk_at "u7") => `(tactic| exact λ_ _ _ _ _ _=>us7 (λ_ _ _ _ _ _ _=>rfl))
local macro_rules | `(tactic| walk_at "u10") => `(tactic| exact λ_ _ _ _ _ _=>amq (λ_ _ _ _ _ _ _ _ _ _=>rfl))
theorem all_mk{l:W.OpenLaw}{w:World}{K:W.Frag}{h:Heap}{mg:Str->Option Value}{fa:Addr}{Fv Ql Qm Qn Qo Fw Fx Fy Fz Qp Qq Qs Qt FA Qu Qv Qw Qx Qy Qz FD FE FF FG FH FI QA QB QC QD FJ FL QE QF QG QH QI QJ QK By BA BB BC BD BE BF BG QL QM QN FN QO QS FO QT QU FP FQ FT FU FW QV QW QX QY QZ Q0 Q3 Q4 Q5 Q6 Q7 Q8 Q9 Q_ Ra:Addr}{amr Rb ams amt Rc amu amv Rf amw amx aak amy Rg:Option Addr}{amz amA amB amC amD amE amF amG:Array (Option Value)}{amH Rh Ri Rj FY Rk amI amJ Rl Rm Rn FZ Ro amK amL Rp Rq Rr F_ Rt amM amN aal aam aan Ga aao amO Ru Rv Rw Gb Rx:Value}{amP amQ amR:Nat}{aap aaq aar Ry:Tok}{fd0 DV DW fd3 fd4 fd7 fd8 fd9 aas aat aau aav aaw aax aay aaz aaA aaB aaC aaD aaE aaF aaG aaH aaI aaJ aaK aaL aaM aaN aaO aaP aaQ aaR aaS aaT aaU aaV aaW aaX aaY aaZ aa0 aa1 aa2 aa3 aa4 aa5 aa6 aa7 aa8 aa9 aa_ aba abb abd abe abf abg abh abi abj abk abl abm abn abo abp:FuncData}{bI:Addr}{cQ:Addr}{bQ:Addr}{fX:Addr}{bH:Addr}{bE:Addr}{cX:Addr}{Ey:Tok}{Ez:Tok}{EA:Tok}{EB:Tok}{EC:Tok}{ED:Tok}{EE:Tok}{EF:Tok}{EG:Tok}{EH:Tok}{EI:Tok}{EJ:Tok}{EK:Tok}{EL:Tok}{EM:Tok}{EN:Tok}{lX gf:Addr}{amS:Option Addr}{abq:Array Value}{amT:Array (Option Value)}(X:K.In h)(G:h.Ns mainGlobals mg)(hfa:mg "law" = some (.ref fa))
  (amU:Nq_ K "Ask" bI)
  (amV:Nq_ K "Due" cQ)
  (amW:Nq_ K "Course" bQ)
  (amX:Nq_ K "Played" fX)
  (amY:Nq_ K "Plate" bH)
  (amZ:Nq_ K "Mended" bE)
  (am0:Nq_ K "Shares" cX)
  (ax0:W.findIn K (.ref bI) "__init__" = some (some (.ref Fv)))
  (ix0:W.isFn K (.ref Fv)=true)
  (F0:b8 K "__init__" "Ask.__init__" Ka Fv fd0)
  (ax1:Nq_ K "check_between" Ql)
  (F1:a_ K "check_between" Kc Ql DV)
  (ax2:Nq_ K "check_behind" Qm)
  (F2:a_ K "check_behind" Kd Qm DW)
  (ax3:Nq_ K "check_fields" Qn)
  (F3:a_ K "check_fields" Ke Qn fd3)
  (ax4:Nq_ K "told_behind" Qo)
  (F4:a_ K "told_behind" Kf Qo fd4)
  (ax5:Nq_ K "reading" Fw)
  (lx5:K.lookup Fw=some ⟨amH,amr,.func (W.fnOf "reading" "reading" (g9 nH) (gk nH) (aU nH) (.ref Fx) Rh Ri Rj Rb FY Rk),amz⟩)
  (dx5:K.lookup Fx=some ⟨amI,ams,.seq #[.int 0 aap,.none,.none] amP,amA⟩)
  (cx5:W.codeIn K FY "reading" = true)
  (kx5:W.keepIn K (.ref Fw)=true)
  (ax6:Nq_ K "writing" Fy)
  (lx6:K.lookup Fy=some ⟨amJ,amt,.func (W.fnOf "writing" "writing" (g9 nJ) (gk nJ) (aU nJ) (.ref Fz) Rl Rm Rn Rc FZ Ro),amB⟩)
  (dx6:K.lookup Fz=some ⟨amK,amu,.seq #[.int 0 aaq,.none,.none,.bool false] amQ,amC⟩)
  (cx6:W.codeIn K FZ "writing" = true)
  (kx6:W.keepIn K (.ref Fy)=true)
  (ax7:Nq_ K "resting" Qp)
  (F7:a_ K "resting" Kg Qp fd7)
  (ax8:Nq_ K "clash" Qq)
  (F8:a_ K "clash" Kh Qq fd8)
  (ax9:Nq_ K "stretch" Qs)
  (F9:a_ K "stretch" Kl Qs fd9)
  (am1:Nq_ K "stretch_by_number" Qt)
  (F10:a_ K "stretch_by_number" Km Qt aas)
  (am2:W.findIn K (.ref cQ) "__init__" = some (some (.ref FA)))
  (am3:W.isFn K (.ref FA)=true)
  (F11:b8 K "__init__" "Due.__init__" Kn FA aat)
  (am4:Nq_ K "check_beat" Qu)
  (F12:a_ K "check_beat" Ko Qu aau)
  (am5:Nq_ K "check_told" Qv)
  (F13:a_ K "check_told" Kq Qv aav)
  (am6:Nq_ K "kept_behind" Qw)
  (F14:a_ K "kept_behind" Kr Qw aaw)
  (am7:Nq_ K "orders" Qx)
  (F15:a_ K "orders" Ks Qx aax)
  (am8:Nq_ K "next_begin" Qy)
  (F16:a_ K "next_begin" Ku Qy aay)
  (am9:Nq_ K "way" Qz)
  (F17:a_ K "way" Kv Qz aaz)
  (am_:W.findIn K (.ref bQ) "__init__" = some (some (.ref FD)))
  (ana:W.isFn K (.ref FD)=true)
  (F18:b8 K "__init__" "Course.__init__" Kw FD aaA)
  (anb:W.findIn K (.ref bQ) "stay" = some (some (.ref FE)))
  (anc:W.isFn K (.ref FE)=true)
  (Rz:b8 K "stay" "Course.stay" Ky FE aaB)
  (ane:W.findIn K (.ref bQ) "has_to_wait" = some (some (.ref FF)))
  (anf:W.isFn K (.ref FF)=true)
  (RA:b8 K "has_to_wait" "Course.has_to_wait" Kz FF aaC)
  (ang:W.findIn K (.ref bQ) "ready" = some (some (.ref FG)))
  (anh:W.isFn K (.ref FG)=true)
  (RB:b8 K "ready" "Course.ready" KA FG aaD)
  (ani:W.findIn K (.ref bQ) "take" = some (some (.ref FH)))
  (anj:W.isFn K (.ref FH)=true)
  (RC:b8 K "take" "Course.take" KC FH aaE)
  (ank:W.findIn K (.ref fX) "__init__" = some (some (.ref FI)))
  (anl:W.isFn K (.ref FI)=true)
  (F23:b8 K "__init__" "Played.__init__" KD FI aaF)
  (anm:Nq_ K "last_ends" QA)
  (F24:a_ K "last_ends" KG QA aaG)
  (ano:Nq_ K "numbers_of" QB)
  (F25:a_ K "numbers_of" KH QB aaH)
  (anp:Nq_ K "answers_of" QC)
  (F26:a_ K "answers_of" KI QC aaI)
  (anq:Nq_ K "told_of" QD)
  (F27:a_ K "told_of" KJ QD aaJ)
  (anr:Nq_ K "play" FJ)
  (ans:K.lookup FJ=some ⟨amL,amv,.func (W.fnOf "play" "play" (g9 nK) (gk nK) (aU nK) (.ref FL) Rp Rq Rr Rf F_ Rt),amD⟩)
  (ant:K.lookup FL=some ⟨amM,amw,.seq #[.int 0 aar,.int 0 Ry] amR,amE⟩)
  (anu:W.codeIn K F_ "play" = true)
  (anv:W.keepIn K (.ref FJ)=true)
  (anw:Nq_ K "check_zones" QE)
  (F29:a_ K "check_zones" KL QE aaK)
  (anx:Nq_ K "check_turning" QF)
  (F30:a_ K "check_turning" KN QF aaL)
  (anz:Nq_ K "check_swing" QG)
  (F31:a_ K "check_swing" KO QG aaM)
  (anA:Nq_ K "check_no_detour" QH)
  (F32:a_ K "check_no_detour" KP QH aaN)
  (anB:Nq_ K "cells_by_ring" QI)
  (F33:a_ K "cells_by_ring" KQ QI aaO)
  (anC:Nq_ K "cells_by_number" QJ)
  (F34:a_ K "cells_by_number" KR QJ aaP)
  (anD:Nq_ K "numbers_by_cell" QK)
  (F35:a_ K "numbers_by_cell" KS QK aaQ)
  (anE:W.findIn K (.ref bH) "__init__" = some (some (.ref By)))
  (anF:W.isFn K (.ref By)=true)
  (RD:b8 K "__init__" "Plate.__init__" KU By aaR)
  (anG:W.findIn K (.ref bH) "rings" = some (some (.ref BA)))
  (abr:W.isFn K (.ref BA)=true)
  (anH:W.findIn K (.ref bE) "rings" = some (some (.ref BA)))
  (Gd:b8 K "rings" "Plate.rings" KW BA aaS)
  (anI:W.findIn K (.ref bH) "beats_of" = some (some (.ref BB)))
  (abt:W.isFn K (.ref BB)=true)
  (anJ:W.findIn K (.ref bE) "beats_of" = some (some (.ref BB)))
  (Ge:b8 K "beats_of" "Plate.beats_of" KY BB aaT)
  (anK:W.findIn K (.ref bH) "lap_beats" = some (some (.ref BC)))
  (abu:W.isFn K (.ref BC)=true)
  (anL:W.findIn K (.ref bE) "lap_beats" = some (some (.ref BC)))
  (Gf:b8 K "lap_beats" "Plate.lap_beats" KZ BC aaU)
  (anM:W.findIn K (.ref bH) "begins" = some (some (.ref BD)))
  (abv:W.isFn K (.ref BD)=true)
  (anN:W.findIn K (.ref bE) "begins" = some (some (.ref BD)))
  (Gg:b8 K "begins" "Plate.begins" K4 BD aaV)
  (anO:W.findIn K (.ref bH) "swing_of" = some (some (.ref BE)))
  (abw:W.isFn K (.ref BE)=true)
  (anP:W.findIn K (.ref bE) "swing_of" = some (some (.ref BE)))
  (Gh:b8 K "swing_of" "Plate.swing_of" K5 BE aaW)
  (anQ:W.findIn K (.ref bH) "has_cell" = some (some (.ref BF)))
  (abx:W.isFn K (.ref BF)=true)
  (anR:W.findIn K (.ref bE) "has_cell" = some (some (.ref BF)))
  (Gi:b8 K "has_cell" "Plate.has_cell" K6 BF aaX)
  (anS:W.findIn K (.ref bH) "cell_at" = some (some (.ref BG)))
  (aby:W.isFn K (.ref BG)=true)
  (anT:W.findIn K (.ref bE) "cell_at" = some (some (.ref BG)))
  (Gj:b8 K "cell_at" "Plate.cell_at" K7 BG aaY)
  (anU:Nq_ K "check_spares" QL)
  (F44:a_ K "check_spares" K8 QL aaZ)
  (anV:Nq_ K "bad_by_cell" QM)
  (F45:a_ K "bad_by_cell" K9 QM aa0)
  (anW:Nq_ K "bad_numbers" QN)
  (F46:a_ K "bad_numbers" K_ QN aa1)
  (anY:Nq_ K "nearest_rings" FN)
  (anZ:K.lookup FN=some ⟨amN,amx,.func (W.fnOf "nearest_rings" "nearest_rings" (g9 iS) (gk iS) (aU iS) .none aal aam aan aak Ga aao),amF⟩)
  (an0:W.codeIn K Ga "nearest_rings" = true)
  (an1:W.keepIn K (.ref FN)=true)
  (an2:Nq_ K "free_kept_cell" QO)
  (F48:a_ K "free_kept_cell" La QO aa2)
  (an3:Nq_ K "lay_elsewhere" QS)
  (F49:a_ K "lay_elsewhere" Lb QS aa3)
  (an4:W.findIn K (.ref bE) "__init__" = some (some (.ref FO)))
  (an5:W.isFn K (.ref FO)=true)
  (F50:b8 K "__init__" "Mended.__init__" Lc FO aa4)
  (an6:Nq_ K "check_shares" QT)
  (F51:a_ K "check_shares" Ld QT aa5)
  (an7:Nq_ K "least_by_asker" QU)
  (F52:a_ K "least_by_asker" Le QU aa6)
  (an8:W.findIn K (.ref cX) "__init__" = some (some (.ref FP)))
  (an9:W.isFn K (.ref FP)=true)
  (F53:b8 K "__init__" "Shares.__init__" Lf FP aa7)
  (an_:W.findIn K (.ref cX) "anew" = some (some (.ref FQ)))
  (aoa:W.isFn K (.ref FQ)=true)
  (RE:b8 K "anew" "Shares.anew" Lg FQ aa8)
  (aob:W.findIn K (.ref cX) "pick" = some (some (.ref FT)))
  (aoc:W.isFn K (.ref FT)=true)
  (RG:b8 K "pick" "Shares.pick" Lh FT aa9)
  (aod:W.findIn K (.ref cX) "check_askers" = some (some (.ref FU)))
  (aoe:W.isFn K (.ref FU)=true)
  (RH:b8 K "check_askers" "Shares.check_askers" Li FU aa_)
  (aof:W.findIn K (.ref cX) "next_turn" = some (some (.ref FW)))
  (aog:W.isFn K (.ref FW)=true)
  (RI:b8 K "next_turn" "Shares.next_turn" Lj FW aba)
  (aoh:Nq_ K "_law_cell" QV)
  (F58:a_ K "_law_cell" Lk QV abb)
  (aoi:Nq_ K "_law_draw" QW)
  (F59:a_ K "_law_draw" Ll QW abd)
  (aoj:Nq_ K "_law_swing" QX)
  (F60:a_ K "_law_swing" Lm QX abe)
  (aok:Nq_ K "_law_zones" QY)
  (F61:a_ K "_law_zones" Ln QY abf)
  (aol:Nq_ K "_law_cells" QZ)
  (F62:a_ K "_law_cells" Lo QZ abg)
  (aom:Nq_ K "_law_bad" Q0)
  (F63:a_ K "_law_bad" Lq Q0 abh)
  (aon:Nq_ K "_law_made_plate" Q3)
  (F64:a_ K "_law_made_plate" Lr Q3 abi)
  (aoo:Nq_ K "_law_askers" Q4)
  (F65:a_ K "_law_askers" Ls Q4 abj)
  (aop:Nq_ K "_law_behind" Q5)
  (F66:a_ K "_law_behind" Lu Q5 abk)
  (aoq:Nq_ K "_law_ask" Q6)
  (F67:a_ K "_law_ask" Lv Q6 abl)
  (aor:Nq_ K "_law_row" Q7)
  (F68:a_ K "_law_row" Lw Q7 abm)
  (aos:Nq_ K "_law_made" Q8)
  (F69:a_ K "_law_made" Lx Q8 abn)
  (aot:Nq_ K "_law_counted" Q9)
  (F70:a_ K "_law_counted" Ly Q9 abo)
  (aou:Nq_ K "_law_reads" Q_)
  (F71:a_ K "_law_reads" Lz Q_ abp)
  (abz:Nq_ K "law" Ra)
  (aov:K.lookup Ra=some ⟨amO,amy,.func (W.fnOf "law" "law" (g9 nN) (gk nN) (aU nN) .none Ru Rv Rw Rg Gb Rx),amG⟩)
  (aow:W.codeIn K Gb "law" = true)
  (aox:W.keepIn K (.ref Ra)=true)
  (aoy:W.plainGet K bI Str.empty=true)
  (aoz:W.hasDictIn K bI=true)
  (aoA:W.plainOver K bI=true)
  (aoB:W.findIn K (.ref bI) "__setattr__" = some (some (.builtin "object.__setattr__")))
  (aoC:W.makesIn K bI=true)
  (aoD:W.keepIn K (.ref bI)=true)
  (EO:W.findIn K (.ref bI) "kind" = some none)
  (Yx:W.findIn K (.ref bI) "first" = some none)
  (Yy:W.findIn K (.ref bI) "many" = some none)
  (Yz:W.findIn K (.ref bI) "marks" = some none)
  (ER:W.findIn K (.ref bI) "at" = some none)
  (YA:W.findIn K (.ref bI) "asker" = some none)
  (YB:W.findIn K (.ref bI) "latest" = some none)
  (ES:W.findIn K (.ref bI) "behind" = some none)
  (YC:W.findIn K (.ref bI) "early" = some none)
  (aoE:W.plainGet K cQ Str.empty=true)
  (aoF:W.hasDictIn K cQ=true)
  (aoG:W.plainOver K cQ=true)
  (aoH:W.findIn K (.ref cQ) "__setattr__" = some (some (.builtin "object.__setattr__")))
  (aoI:W.makesIn K cQ=true)
  (aoJ:W.keepIn K (.ref cQ)=true)
  (YD:W.findIn K (.ref cQ) "number" = some none)
  (YE:W.findIn K (.ref cQ) "ask" = some none)
  (OF:W.findIn K (.ref cQ) "cells" = some none)
  (aoK:W.plainGet K bQ Str.empty=true)
  (aoL:W.hasDictIn K bQ=true)
  (aoM:W.plainOver K bQ=true)
  (aoN:W.findIn K (.ref bQ) "__setattr__" = some (some (.builtin "object.__setattr__")))
  (aoO:W.makesIn K bQ=true)
  (aoP:W.keepIn K (.ref bQ)=true)
  (YF:W.findIn K (.ref bQ) "keeping" = some none)
  (YG:W.findIn K (.ref bQ) "plate" = some none)
  (OG:W.findIn K (.ref bQ) "ring" = some none)
  (ET:W.findIn K (.ref bQ) "beat" = some none)
  (OH:W.findIn K (.ref bQ) "left" = some none)
  (aoQ:W.plainGet K fX Str.empty=true)
  (aoR:W.hasDictIn K fX=true)
  (aoS:W.plainOver K fX=true)
  (aoT:W.findIn K (.ref fX) "__setattr__" = some (some (.builtin "object.__setattr__")))
  (aoU:W.makesIn K fX=true)
  (aoV:W.keepIn K (.ref fX)=true)
  (YH:W.findIn K (.ref fX) "rows" = some none)
  (OI:W.findIn K (.ref fX) "taken" = some none)
  (YI:W.findIn K (.ref fX) "told" = some none)
  (YJ:W.findIn K (.ref fX) "answers" = some none)
  (YK:W.findIn K (.ref fX) "end" = some none)
  (aoW:W.plainGet K bH Str.empty=true)
  (aoX:W.hasDictIn K bH=true)
  (aoY:W.plainOver K bH=true)
  (aoZ:W.findIn K (.ref bH) "__setattr__" = some (some (.builtin "object.__setattr__")))
  (ao0:W.makesIn K bH=true)
  (ao1:W.keepIn K (.ref bH)=true)
  (OJ:W.findIn K (.ref bH) "ring_cells" = some none)
  (OL:W.findIn K (.ref bH) "lap" = some none)
  (OM:W.findIn K (.ref bH) "skew" = some none)
  (ON:W.findIn K (.ref bH) "swing" = some none)
  (OO:W.findIn K (.ref bH) "number_cells" = some none)
  (OP:W.findIn K (.ref bH) "cell_numbers" = some none)
  (ao2:W.plainGet K bE Str.empty=true)
  (ao3:W.hasDictIn K bE=true)
  (ao4:W.plainOver K bE=true)
  (ao5:W.findIn K (.ref bE) "__setattr__" = some (some (.builtin "object.__setattr__")))
  (ao6:W.makesIn K bE=true)
  (ao7:W.keepIn K (.ref bE)=true)
  (OQ:W.findIn K (.ref bE) "ring_cells" = some none)
  (OR:W.findIn K (.ref bE) "lap" = some none)
  (OS:W.findIn K (.ref bE) "skew" = some none)
  (OT:W.findIn K (.ref bE) "swing" = some none)
  (OU:W.findIn K (.ref bE) "number_cells" = some none)
  (OV:W.findIn K (.ref bE) "cell_numbers" = some none)
  (OW:W.findIn K (.ref bE) "moves" = some none)
  (ao8:W.plainGet K cX Str.empty=true)
  (ao9:W.hasDictIn K cX=true)
  (ao_:W.plainOver K cX=true)
  (apa:W.findIn K (.ref cX) "__setattr__" = some (some (.builtin "object.__setattr__")))
  (apb:W.makesIn K cX=true)
  (apc:W.keepIn K (.ref cX)=true)
  (YM:W.findIn K (.ref cX) "pairs" = some none)
  (EU:W.findIn K (.ref cX) "turn" = some none)
  (EV:W.findIn K (.ref cX) "used" = some none)
  (apd:W.specialIn K (.ref bH) "__getattribute__" = some (some (.builtin "type.__getattribute__")))
  (ape:W.readsIn K bH (.type "type")=true)
  (apf:W.findCls K (.ref bH) (.type "type") "__init__" = some (.val (.ref By)))
  (Ys:W.findIn K (.ref bE) "__class__" = some (some (.builtin "object.__class__")))
  (Yt:W.specialIn K (.builtin "object.__class__") "__get__" = some (some (.builtin "getset_descriptor.__get__")))
  (Yu:W.takesIn K (.builtin "object.__class__")=some true)
  (Yv:W.mroIn K bE (.type "object")=some true)
  (Yw:W.kitOne K (.ref bE) (.ref bH)=some true)
  (apg:Ni_ K "MOST_CELLS" 16 Ey)
  (aph:Ni_ K "GREATEST_FIRST" 1000000 Ez)
  (api:Ni_ K "GREATEST_MARK" 1000000000 EA)
  (apj:Ni_ K "GREATEST_AT" 1000000000000 EB)
  (apk:Ni_ K "GREATEST_ASKER_asks" 20 EC)
  (apl:Ni_ K "GREATEST_LATEST" 10000000000000 ED)
  (apm:Ni_ K "GREATEST_BEHIND" 99 EE)
  (apn:Ni_ K "MOST_ZONES" 5 EF)
  (apo:Ni_ K "MOST_RINGS_IN_ZONE" 40 EG)
  (apq:Ni_ K "MOST_CELLS_IN_RING" 60 EH)
  (apr:Ni_ K "LEAST_RINGS" 2 EI)
  (aps:Ni_ K "MOST_RINGS" 120 EJ)
  (apt:Ni_ K "MOST_BEATS" 1000000000 EK)
  (apu:Ni_ K "MOST_PAIRS" 4 EL)
  (apv:Ni_ K "GREATEST_ASKER_shares" 20 EM)
  (apw:Ni_ K "GREATEST_SHARE" 4 EN)
  (AV:No_ K "abs")
  (OX:No_ K "any")
  (EW:No_ K "dict")
  (tV:No_ K "enumerate")
  (OY:No_ K "int")
  (dB:No_ K "len")
  (AW:No_ K "list")
  (EX:No_ K "max")
  (qw:No_ K "min")
  (gu:No_ K "range")
  (OZ:No_ K "set")
  (AX:No_ K "sorted")
  (EY:No_ K "sum")
  (vD:No_ K "tuple")
  (apx:Ga = .ref lX)
  (arw:K.lookup lX=some ⟨.type "code",amS,.fields abq,amT⟩)
  (arx:abq[11]? = some (.ref gf))
  (apy:W.codeHdIn K lX gf=true)
  (apz:h.get? gf=some (W.tabObj #[]))
  : ∃(fd:FuncData) (tabs:List (Addr×Addr)),(∀(s:Shared) (v:Value),BindsTo s fd ⟨[v],[]⟩ [("_law_script",v)])/\W.TabsAt tabs h/\∀base:Heap,K.In base->base.Ns mainGlobals mg->(∀q∈tabs,tu mg base q.1 q.2)->bg l.prog w K mg base bw 9 fa fd ["_law_script"] (DN K tabs):=by
 have e:=hfa.symm.trans (bC X G abz);cases e;have F5:=IJ (st:=nH) lx5 cx5 kx5;have F6:=IJ (st:=nJ) lx6 cx6 kx6;have F28:=IJ (st:=nK) ans anu anv;have F47:=fun_mk (st:=iS) anZ an0 an1;have F72:=fun_mk (st:=nN) aov aow aox;have apA:Binds K (W.fnOf "reading" "reading" (g9 nH) (gk nH) (aU nH) (.ref Fx) Rh Ri Rj Rb FY Rk) ["first", "many", "at", "asker", "latest", "behind"] []:=Qk 6 rfl λs X=>us6 λ_ _ _ _ _ _=>W.binds_K X rfl dx5 rfl rfl rfl
 have apB:Binds K (W.fnOf "writing" "writing" (g9 nJ) (gk nJ) (aU nJ) (.ref Fz) Rl Rm Rn Rc FZ Ro) ["first", "marks", "at", "asker", "latest", "behind", "early"] []:=Qk 7 rfl λs X=>us7 λ_ _ _ _ _ _ _=>W.binds_K X rfl dx6 rfl rfl rfl
 have apC:Binds K (W.fnOf "play" "play" (g9 nK) (gk nK) (aU nK) (.ref FL) Rp Rq Rr Rf F_ Rt) ["plate", "asks", "rule", "ring", "shelf"] [.int 0 Ry]:=Qk 4 rfl λs X=>us4 λ_ _ _ _=>W.binds_K X rfl ant rfl rfl rfl;have mq_:=λ{n a} (h:Nq_ K n a)=>W.mg_of X G h
 let A:nO:=⟨Fv,fd0,Ql,DV,Qm,DW,Qn,fd3,Qo,fd4,Fw,(W.fnOf "reading" "reading" (g9 nH) (gk nH) (aU nH) (.ref Fx) Rh Ri Rj Rb FY Rk),aap,Fy,(W.fnOf "writing" "writing" (g9 nJ) (gk nJ) (aU nJ) (.ref Fz) Rl Rm Rn Rc FZ Ro),aaq,Qp,fd7,Qq,fd8,Qs,fd9,Qt,aas,FA,aat,Qu,aau,Qv,aav,Qw,aaw,Qx,aax,Qy,aay,Qz,aaz,FD,aaA,FE,aaB,FF,aaC,FG,aaD,FH,aaE,FI,aaF,QA,aaG,QB,aaH,QC,aaI,QD,aaJ,FJ,(W.fnOf "play" "play" (g9 nK) (gk nK) (aU nK) (.ref FL) Rp Rq Rr Rf F_ Rt),aar,Ry,QE,aaK,QF,aaL,QG,aaM,QH,aaN,QI,aaO,QJ,aaP,QK,aaQ,By,aaR,BA,aaS,BB,aaT,BC,aaU,BD,aaV,BE,aaW,BF,aaX,BG,aaY,QL,aaZ,QM,aa0,QN,aa1,FN,(W.fnOf "nearest_rings" "nearest_rings" (g9 iS) (gk iS) (aU iS) .none aal aam aan aak Ga aao),QO,aa2,QS,aa3,FO,aa4,QT,aa5,QU,aa6,FP,aa7,FQ,aa8,FT,aa9,FU,aa_,FW,aba,QV,abb,QW,abd,QX,abe,QY,abf,QZ,abg,Q0,abh,Q3,abi,Q4,abj,Q5,abk,Q6,abl,Q7,abm,Q8,abn,Q9,abo,Q_,abp,fa,(W.fnOf "law" "law" (g9 nN) (gk nN) (aU nN) .none Ru Rv Rw Rg Gb Rx),bI,cQ,bQ,fX,bH,bE,cX,lX,gf,Ey,Ez,EA,EB,EC,ED,EE,EF,EG,EH,EI,EJ,EK,EL,EM,EN⟩
 have T:Tx K mg A:=⟨F0,F0.binds (by walk_at "u10"),F1,F1.binds (by walk_at "u4"),bC X G ax1,F2,F2.binds (by walk_at "u1"),bC X G ax2,F3,F3.binds (by walk_at "u6"),bC X G ax3,F4,F4.binds (by walk_at "u1"),bC X G ax4,F5,apA,bC X G ax5,F6,apB,bC X G ax6,F7,F7.binds (by walk_at "u1"),bC X G ax7,F8,F8.binds (by walk_at "u2"),bC X G ax8,F9,F9.binds (by walk_at "u2"),bC X G ax9,F10,F10.binds (by walk_at "u3"),bC X G am1,F11,F11.binds (by walk_at "u4"),F12,F12.binds (by walk_at "u2"),bC X G am4,F13,F13.binds (by walk_at "u2"),bC X G am5,F14,F14.binds (by walk_at "u2"),bC X G am6,F15,F15.binds (by walk_at "u2"),bC X G am7,F16,F16.binds (by walk_at "u4"),bC X G am8,F17,F17.binds (by walk_at "u4"),bC X G am9,F18,F18.binds (by walk_at "u4"),Rz,Rz.binds (by walk_at "u1"),⟨anb,anc,Rz.kp⟩,RA,RA.binds (by walk_at "u2"),⟨ane,anf,RA.kp⟩,RB,RB.binds (by walk_at "u1"),⟨ang,anh,RB.kp⟩,RC,RC.binds (by walk_at "u2"),⟨ani,anj,RC.kp⟩,F23,F23.binds (by walk_at "u6"),F24,F24.binds (by walk_at "u1"),bC X G anm,F25,F25.binds (by walk_at "u1"),bC X G ano,F26,F26.binds (by walk_at "u2"),bC X G anp,F27,F27.binds (by walk_at "u3"),bC X G anq,F28,apC,bC X G anr,F29,F29.binds (by walk_at "u1"),bC X G anw,F30,F30.binds (by walk_at "u3"),bC X G anx,F31,F31.binds (by walk_at "u2"),bC X G anz,F32,F32.binds (by walk_at "u1"),bC X G anA,F33,F33.binds (by walk_at "u1"),bC X G anB,F34,F34.binds (by walk_at "u2"),bC X G anC,F35,F35.binds (by walk_at "u1"),bC X G anD,RD,RD.binds (by walk_at "u5"),Gd,Gd.binds (by walk_at "u1"),⟨anG,abr,Gd.kp⟩,⟨anH,abr,Gd.kp⟩,Ge,Ge.binds (by walk_at "u2"),⟨anI,abt,Ge.kp⟩,⟨anJ,abt,Ge.kp⟩,Gf,Gf.binds (by walk_at "u1"),⟨anK,abu,Gf.kp⟩,⟨anL,abu,Gf.kp⟩,Gg,Gg.binds (by walk_at "u3"),⟨anM,abv,Gg.kp⟩,⟨anN,abv,Gg.kp⟩,Gh,Gh.binds (by walk_at "u3"),⟨anO,abw,Gh.kp⟩,⟨anP,abw,Gh.kp⟩,Gi,Gi.binds (by walk_at "u3"),⟨anQ,abx,Gi.kp⟩,⟨anR,abx,Gi.kp⟩,Gj,Gj.binds (by walk_at "u2"),⟨anS,aby,Gj.kp⟩,⟨anT,aby,Gj.kp⟩,F44,F44.binds (by walk_at "u2"),bC X G anU,F45,F45.binds (by walk_at "u2"),bC X G anV,F46,F46.binds (by walk_at "u2"),bC X G anW,F47,F47.binds (by walk_at "u2"),bC X G anY,F48,F48.binds (by walk_at "u4"),bC X G an2,F49,F49.binds (by walk_at "u4"),bC X G an3,F50,F50.binds (by walk_at "u7"),F51,F51.binds (by walk_at "u1"),bC X G an6,F52,F52.binds (by walk_at "u1"),bC X G an7,F53,F53.binds (by walk_at "u2"),RE,RE.binds (by walk_at "u1"),⟨an_,aoa,RE.kp⟩,RG,RG.binds (by walk_at "u5"),⟨aob,aoc,RG.kp⟩,RH,RH.binds (by walk_at "u2"),⟨aod,aoe,RH.kp⟩,RI,RI.binds (by walk_at "u2"),⟨aof,aog,RI.kp⟩,F58,F58.binds (by walk_at "u2"),bC X G aoh,F59,F59.binds (by walk_at "u3"),bC X G aoi,F60,F60.binds (by walk_at "u2"),bC X G aoj,F61,F61.binds (by walk_at "u1"),bC X G aok,F62,F62.binds (by walk_at "u3"),bC X G aol,F63,F63.binds (by walk_at "u3"),bC X G aom,F64,F64.binds (by walk_at "u1"),bC X G aon,F65,F65.binds (by walk_at "u1"),bC X G aoo,F66,F66.binds (by walk_at "u2"),bC X G aop,F67,F67.binds (by walk_at "u5"),bC X G aoq,F68,F68.binds (by walk_at "u5"),bC X G aor,F69,F69.binds (by walk_at "u1"),bC X G aos,F70,F70.binds (by walk_at "u3"),bC X G aot,F71,F71.binds (by walk_at "u1"),bC X G aou,F72,F72.binds (by walk_at "u1"),bC X G abz,⟨apd,ape,apf,RD.kp⟩,Ys,Yt,Yu,Yv,Yw,⟨aoy,aoz,aoA,aoB⟩,⟨aoC,ax0,ix0,aoD⟩,bC X G amU,EO,Yx,Yy,Yz,ER,YA,YB,ES,YC,⟨aoE,aoF,aoG,aoH⟩,⟨aoI,am2,am3,aoJ⟩,bC X G amV,YD,YE,OF,⟨aoK,aoL,aoM,aoN⟩,⟨aoO,am_,ana,aoP⟩,bC X G amW,YF,YG,OG,ET,OH,⟨aoQ,aoR,aoS,aoT⟩,⟨aoU,ank,anl,aoV⟩,bC X G amX,YH,OI,YI,YJ,YK,⟨aoW,aoX,aoY,aoZ⟩,⟨ao0,anE,anF,ao1⟩,bC X G amY,OJ,OL,OM,ON,OO,OP,⟨ao2,ao3,ao4,ao5⟩,⟨ao6,an4,an5,ao7⟩,bC X G amZ,OQ,OR,OS,OT,OU,OV,OW,⟨ao8,ao9,ao_,apa⟩,⟨apb,an8,an9,apc⟩,bC X G am0,YM,EU,EV,bC X G apg,bC X G aph,bC X G api,bC X G apj,bC X G apk,bC X G apl,bC X G apm,bC X G apn,bC X G apo,bC X G apq,bC X G apr,bC X G aps,bC X G apt,bC X G apu,bC X G apv,bC X G apw,kH X G AV,kH X G OX,kH X G EW,kH X G tV,kH X G OY,kH X G dB,kH X G AW,kH X G EX,kH X G qw,kH X G gu,kH X G OZ,kH X G AX,kH X G EY,kH X G vD,apx⟩
 have hT:W.TabsAt [(lX,gf)] h:=by
  intro q hq;simp only[List.mem_cons,List.not_mem_nil,or_false] at hq;rcases hq with rfl
  ·exact⟨W.codeHd_of_K X apy,apz⟩
 exact⟨(W.fnOf "law" "law" (g9 nN) (gk nN) (aU nN) .none Ru Rv Rw Rg Gb Rx),[(lX,gf)],λs v=>.of_eq rfl,hT,λbase _ _ hL=>amm T (hL (lX,gf) (by simp))⟩
end _W
/-! arz names are taken,so arA no fast copy is laid of the largest tables: the compiled file stays small -/
structure PySem.W.Fast:Prop where(tw13552202694741580663 tw8995550532515146816 tw15339070048299135475 tw1885932183383970150 tw9915723591679070576 tw17416195286845647619 tw9980848613125605929 tw7853306895492732613 tw8128954849488068252 tw8198738228773967860 tw419579904840881733 tw12533168928508297961 tw4960567152456778764 tw13435198826923103945 tw17095961229230551007 tw17440948227720075932 tw5065356114270260942 tw8494318286189207461 tw7611823433954667639 tw11623860295655283857 tw8375554512545592796 tw13657963168087062009 tw12085901713088642397 tw3150877852890971750 tw16217707079586146794 tw2341036642042883691 tw17821875323091240908 tw1906920523808974933 tw18178334291661481381 tw16850444170636186619 tw18152166447884970965 tw9000636408553461230 tw10270572583619415272 tw8580980594047164117 tw2887857472355779256 tw14284770309254740169 tw8468820498421594034 tw5921281526466039918 tw15964774975096273816 tw2697507287018178187 tw13043397366688276117 tw10487067140515540185 tw11623895732981182103 tw4403914746632518078 tw17457451004660449631 tw12571115892377472716 tw1365999025621591185 tw2254810984578935291 tw17258636622328987605 tw10097633163524165269 tw16707683169813361592 tw2938345171976844859 tw1897683071988184262 tw5127299505168911138 tw7304969404724955435 tw7589929309151022606 tw6027696222760136303 tw8957637132086378365 tw2732663265837475776 tw4466766010644734953 tw18191821797504688214 tw16484993298143796435 tw13733375364405789448 tw6758751615772960884 tw1897588709078196954 tw8245289130586046800 tw9259187295526641372 tw13402463964125080089 tw64172041283364605 tw7442199126741658866 tw1993685668582732204 tw7916466463560181343 tw13566126190253069245 tw5476412082081327243 tw11197747539332920224 tw1789104590864400538 tw4698149884878743674 tw13903561310612562773 tw9859143353206749570 tw16821186083843554849 tw5217545071697163760 tw17723479647516251332 tw13383657936775228361 tw13599063164263496561 tw1240458811618332957 tw450472563689621038 tw6551164231878086596 tw6984202105888423616 tw2900579291059609876 tw262715392614402245 tw6638422350698716547 tw10032179815713310395 tw5573469097269831322 tw7688640844763972590 tw3474305233071697063 tw11491245825390622472 tw1667976562193425879 tw16092090123939874294 tw12549728253570761400 tw10074086468182914405 tw15413054794642837835 tw18034875774527452740 tw16013251082869986341 tw16685303728740456812 tw10916525513060612097 tw2410620406376287419 tw11083835633921919851 tw6495099395576351527 tw2815370472049354143 tw5964965650715301001 tw9936268380186601763 tw6852425059506959347 tw8473842171047497901 tw4038717339111367174 tw4621832252584377307 tw11671282201249725433 tw3475123531891010988 tw3706399074678508484 tw7889856153418688227 tw8574418398962684460 tw17643920238586580821 tw368305440254615119 tw16453891683900275121 tw6315751752281409950 tw488179507116898166 tw6822282472750953787 tw6188805035573884808 tw7321672609754222370 tw11068051148993728896 tw12033181296364360403 tw16143280690228644871 tw17342319937030001821 tw15205596752516069669 tw1062885280146089708 tw10102387726053030930 tw16777937964953437175 tw10298309545822473433 tw512446967591763 tw11883395000623481276 tw10396835527512963579 tw7680646620826182696 tw3862195086331960756 tw12947189266686097390 tw7627459865738445781 tw7929847624263596500 tw3981860575640031541 tw5824167376231682745 tw15425782137172492604 tw9226601171893531076 tw7065322058673680545 tw8228626501094742746 tw13090372892670911947 tw13215284160098379861 tw10873746257606907093 tw17198135294502592885 tw4384858639431498737 tw4092836495521027016 tw756310966381160959 tw11314802932860729937 tw13553724238405797220 tw3158309150657316853 tw15509337141071819634 tw15512256268497863299 tw487038318922709306 tw10643043202172565285 tw6697823263507290437 tw7301369024428908451 tw12231087964665238505 tw5636189113072778362 tw3472248353784465965 tw1903264544008353291 tw6968160943908585332 tw4144001654776971146 tw15972452005263551438 tw14632071801024195425 tw11220475947742232235 tw9740409477203917660 tw11338052946942057291 tw9764320234429036430 tw16894146249797206076 tw3152563152449988248 tw531318963452549281 tw1037760569245066976 tw818116653725855475 tw2715207777918620590 tw15561741536527184304 tw263590495792829356 tw12162461523510423377 tw6020960697536543806 tw1193657789099639041 tw1288672105496102216 tw11205339783482653727 tw588399100142578798 tw14766628024758754857 tw3029671310507752425 tw11140141901712303566 tw1799679370972592501 tw12441530888603401 tw13325331664412422152 tw12195183847167040722:True)
open PySem PySem.W PyProof.Rows
set_option maxHeartbeats 0 in
theorem PySem.Challenge.cw_armswing_k55_shares_wait_holds : PySem.Challenge.rw_armswing_k55_shares_wait.Holds := by
 w_on; o_law; k_head; (case hw => w_witness2)
 k_fill
 refine _L.walk_lawT (l := PySem.Challenge.rw_armswing_k55_shares_wait) (k := 9) (x := "_law_script") rfl rfl ⟨rfl, by decide, by decide⟩ (λw h Y => PySem.W.km_in_of Y) ?nt ?F
 case nt => intro w; first | k_is | rfl
 case F =>
  intro w mg fa h Y KX G hmg
  refine' _W.all_mk KX G hmg ..
  all_goals ((try unfold _W.Nq_); (try unfold _W.No_); (try unfold _W.Ni_); first | k_is | kit_is | k_exc | exact _L.fun_mk (by k_is) (by k_is) (by k_is) | rfl | exact PySem.W.km_tabs_of Y _ (by decide) | decide +kernel | kernel_rfl | skip)

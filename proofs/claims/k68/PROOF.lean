import PyProof.Rows.All
import Wide.All
import OpenK.AllK
import Wide.FinOn
import Lean
import PyProof.EqAt
import PyProof.EqKinds
import PyProof.TupleCall
import PySem.Challenge.RW_armswing_k68_cannot_is_least
set_option compiler.extract_closed false
set_option Elab.async false
set_option linter.all false
set_option maxRecDepth 100000
set_option maxHeartbeats 4000000
namespace _L
theorem _x1{A:Sort _}{p:A->Prop}{Q:Prop}(h:∃a,p a)(k:∀a,p a->Q):Q:=h.elim k
theorem _x2{A B:Sort _}{p:A->B->Prop}{Q:Prop}(h:∃a b,p a b)(k:∀a b,p a b->Q):Q:=h.elim fun a h=>_x1 h (k a)
theorem _x3{A B C:Sort _}{p:A->B->C->Prop}{Q:Prop}(h:∃a b c,p a b c)(k:∀a b c,p a b c->Q):Q:=h.elim fun a h=>_x2 h (k a)
theorem _x4{A B C D:Sort _}{p:A->B->C->D->Prop}{Q:Prop}(h:∃a b c d,p a b c d)(k:∀a b c d,p a b c d->Q):Q:=h.elim fun a h=>_x3 h (k a)
theorem _x5{A B C D E:Sort _}{p:A->B->C->D->E->Prop}{Q:Prop}(h:∃a b c d e,p a b c d e)(k:∀a b c d e,p a b c d e->Q):Q:=h.elim fun a h=>_x4 h (k a)
theorem _x6{A B C D E F:Sort _}{p:A->B->C->D->E->F->Prop}{Q:Prop}(h:∃a b c d e f,p a b c d e f)(k:∀a b c d e f,p a b c d e f->Q):Q:=h.elim fun a h=>_x5 h (k a)
theorem _x7{A B C D E F G:Sort _}{p:A->B->C->D->E->F->G->Prop}{Q:Prop}(h:∃a b c d e f g,p a b c d e f g)(k:∀a b c d e f g,p a b c d e f g->Q):Q:=h.elim fun a h=>_x6 h (k a)
theorem _x8{A B C D E F G H:Sort _}{p:A->B->C->D->E->F->G->H->Prop}{Q:Prop}(h:∃a b c d e f g h,p a b c d e f g h)(k:∀a b c d e f g h,p a b c d e f g h->Q):Q:=h.elim fun a h=>_x7 h (k a)
theorem _x9{A B C D E F G H I:Sort _}{p:A->B->C->D->E->F->G->H->I->Prop}{Q:Prop}(h:∃a b c d e f g h i,p a b c d e f g h i)(k:∀a b c d e f g h i,p a b c d e f g h i->Q):Q:=h.elim fun a h=>_x8 h (k a)
theorem _a1{A B Q:Prop}(h:A/\B)(k:A->B->Q):Q:=k h.1 h.2
theorem _a2{A B C Q:Prop}(h:A/\B/\C)(k:A->B->C->Q):Q:=_a1 h.2 (k h.1)
theorem _a3{A B C D Q:Prop}(h:A/\B/\C/\D)(k:A->B->C->D->Q):Q:=_a2 h.2 (k h.1)
theorem _a4{A B C D E Q:Prop}(h:A/\B/\C/\D/\E)(k:A->B->C->D->E->Q):Q:=_a3 h.2 (k h.1)
theorem _a5{A B C D E F Q:Prop}(h:A/\B/\C/\D/\E/\F)(k:A->B->C->D->E->F->Q):Q:=_a4 h.2 (k h.1)
theorem _a6{A B C D E F G Q:Prop}(h:A/\B/\C/\D/\E/\F/\G)(k:A->B->C->D->E->F->G->Q):Q:=_a5 h.2 (k h.1)
theorem _a7{A B C D E F G H Q:Prop}(h:A/\B/\C/\D/\E/\F/\G/\H)(k:A->B->C->D->E->F->G->H->Q):Q:=_a6 h.2 (k h.1)
theorem _a8{A B C D E F G H I Q:Prop}(h:A/\B/\C/\D/\E/\F/\G/\H/\I)(k:A->B->C->D->E->F->G->H->I->Q):Q:=_a7 h.2 (k h.1)
theorem _a9{A B C D E F G H I J Q:Prop}(h:A/\B/\C/\D/\E/\F/\G/\H/\I/\J)(k:A->B->C->D->E->F->G->H->I->J->Q):Q:=_a8 h.2 (k h.1)
end _L
local macro_rules|`(tactic|obtain $p:rcasesPatMed:=$e:term)=>do
 let p:=p.raw
 let t:=p[0][0]
 let s:=t[1].getSepArgs
 let n:=s.size
 if p[0].getNumArgs != 1||t[0].getAtomVal != "⟨"||n<2 then Lean.Macro.throwUnsupported
 let z←`(tactic|rcases $e:term with ($(⟨p⟩):rcasesPatMed))
 let I:=Lean.mkIdent
 let g:=e.raw.getId
 let r:=I (.num (if e.raw.isIdent then g else `p) n)
 if !e.raw.isIdent then return←`(tactic|first|(have $r:ident:=$e;obtain $(⟨p⟩):rcasesPatMed:=$r:ident)|$z:tactic)
 let v:Array (Lean.Term×Array (Lean.TSyntax `tactic))←s.mapIdxM fun i x=>do
  let y:=x[0][0]
  let f:=I (.num g i)
  if y.getNumArgs==1&&y[0][0].isIdent&&y[0][0].getId != `rfl then return(⟨y[0][0]⟩,#[]) else return(⟨f.raw⟩,#[←`(tactic|rcases $f:ident with $(⟨x⟩):rcasesPatLo)])
 let y:Lean.TSyntax `tactic←((List.range 18).filter fun i=>i%9+1<n).foldlM (init:=z) fun (z:Lean.TSyntax `tactic) (i:Nat)=>do
  let k:=i%9+1
  let l:=I (.str `_L ((if i<9 then"_a"else"_x")++toString k))
  let q:=k+1==n
  let a:=v.extract 0 (if q then n else k)
  let m:=p.setArg 0 (p[0].setArg 0 (t.setArg 1 (Lean.Syntax.mkSep (s.extract k n) (.atom .none ", "))))
  let x←`(tactic|obtain $(⟨m⟩):rcasesPatMed:=$r:ident)
  let o:=a.flatMap (fun x=>x.2)++if q then#[]else#[x]
  let a:=a.map (fun x=>x.1)++if q then#[]else#[⟨r.raw⟩]
  `(tactic|first|(refine $l $e ?_;(try clear $e);intro $a*;$[$o:tactic];*)|$z:tactic)
 return y
local macro_rules|`(tactic|rintro $p:rintroPat*)=>do
 let some i:=p.findIdx? fun p=>p.raw[0][0].getAtomVal=="⟨"&&p.raw[0][1].getSepArgs.size>2|Lean.Macro.throwUnsupported
 let r:=Lean.mkIdent (.num `p i)
 let t←`(tactic|(rintro $((p.extract 0 i).push (←`(rintroPat|$r:ident))):rintroPat*;obtain $(⟨p[i]!.raw[0]⟩):rcasesPat:=$r:ident))
 let b:=p.extract (i+1) p.size
 if b.isEmpty then return t else`(tactic|($t:tactic;rintro $b:rintroPat*))
local macro_rules|`(tactic|rcases $e:term with $p:rcasesPatLo)=>do
 let t:=p.raw[0][0]
 if p.raw[1].getNumArgs != 0||t.getNumArgs != 1||t[0][0].getAtomVal != "⟨"||t[0][1].getSepArgs.size<2 then Lean.Macro.throwUnsupported
 `(tactic|obtain $(⟨p.raw[0]⟩):rcasesPatMed:=$e)
abbrev _Z:=List (Int×Int)
abbrev _I:=List Int
abbrev _A:=List PySem.Addr
local macro_rules|`(~~~$x)=>let I:=Lean.mkIdent;`($x (P:=$(I `P)) (w:=$(I `w)) (base:=$(I `base)) $(I `T) $(I `aG))
local macro_rules|`(tactic|exists $f)=>let I:=Lean.mkIdent;`(tactic|refine $f (fun $(I `vs) $(I `H) $(I `Q) $(I `E) $(I `h)=>?_) (fun $(I `aR) $(I `Ar) $(I `outer) $(I `s) $(I `H) $(I `vs) $(I `Q) $(I `E) $(I `hr) $(I `h)=>?_))
local macro_rules|`(nofun)=>`($(Lean.mkIdent `hr).mono (by first|decide|lia))
local macro_rules|`(⇑$x)=>`(some (.ref $x))
local macro_rules|`(↥$x)=>`(some (.int $x))
local macro_rules|`(tactic|symm)=>`(tactic|walk_at "rdm")
local macro_rules|`(↑$x)=>`(by simpa using $x)
local macro_rules|`(∅)=>`(by lia)
local macro_rules|`(⋯)=>`(by decide)
local macro_rules|`(‹$x›)=>`($x rfl rfl (by rfl) (by rfl) (by repeat (first|exact trivial|refine ⟨rfl,?_⟩)) (by rfl) (by rfl) (by rfl) (by decide) (by decide +kernel))
theorem OL_{α:Sort _}{a:α}{b:Prop}:a=a\/b:=.inl rfl
namespace _L
open PySem PySem.Spec PyProof.Rows
variable{A:Around}{C L a b d dx:Addr}{E Q:Value->Shared->Prop}{K:W.Frag}{P:Program}{base g h h':Heap}{c e tg:Expr}{ch fp:_A}{es:List Expr}{f:Value->Value->Sem Value}{fd:FuncData}{i j n t':Nat}{kindOf:Str->Option NameKind}{kw:List (Str×Value)}{m:Str}{mA mg:Str->Option Value}{p pos:Pos}{pins:List (Addr×Obj)}{ps:List Str}{s s':Shared}{u v:Value}{us:List Value}{w:World}
abbrev y_:=@Around.under_plainId
abbrev Hg:=@Array.Perm.refl
abbrev wI:=@Array.forIn_toList
abbrev sF:=@Array.getD_eq_getD_getElem?
abbrev Cm:=@Array.getElem?_eq_getElem
abbrev sG:=@Array.getElem?_toList
abbrev lN:=@Array.length_toList
abbrev zb:=@Bool.and_eq_true
abbrev kX:=@Bool.eq_iff_iff
abbrev fz:=@Bool.false_ne_true
abbrev Hh:=@Calls.callWith_builtin
abbrev Hi:=@Calls.evalArgs_plain
abbrev wJ:=@Calls.spliced_cons
abbrev zd:=@Calls.spliced_nil
abbrev Cn:=@Classical.byContradiction
abbrev Hj:=@F.plain_set_update_loop
abbrev Co:=@F.slot_tuple_eq
abbrev ze:=@F.slot_tuple_hash
abbrev wK:=@Heap.SameBut.update
abbrev Cp:=@Heap.get?_none_of_le
abbrev cU:=@Heap.get?_push_of_some
abbrev gf:=@Heap.get?_push_size
abbrev zf:=@Heap.get?_update_self
abbrev cR:=@Heap.lt_size
abbrev uE:=@Heap.size_push
abbrev Cq:=@Int.dvd_refl
abbrev Cr:=@Int.ediv_nonneg
abbrev Cs:=@Int.emod_emod_of_dvd
abbrev fQ:=@Int.emod_lt_of_pos
abbrev fR:=@Int.emod_nonneg
abbrev nQ:=@Int.le_refl
abbrev Ct:=@Int.le_trans
abbrev qA:=@Int.mul_le_mul
abbrev Cu:=@Int.mul_nonneg
abbrev Cv:=@Int.sub_emod
abbrev Hl:=@Int.toNat_of_nonneg
abbrev Ho:=@List.Pairwise.imp
abbrev nR:=@List.all_eq_true
abbrev wL:=@List.any_cons
abbrev sH:=@List.append_assoc
abbrev jF:=@List.append_nil
abbrev sI:=@List.cons_append
abbrev Hq:=@List.drop_eq_getElem_cons
abbrev Ue:=@List.eq_nil_iff_forall_not_mem
abbrev Ug:=@List.eq_nil_of_length_eq_zero
abbrev Hr:=@List.ext_getElem?
abbrev uF:=@List.filterMap_cons
abbrev zg:=@List.filterMap_cons_some
abbrev Hs:=@List.filterMap_map
abbrev uG:=@List.filter_append
abbrev zh:=@List.filter_congr
abbrev iu:=@List.filter_cons
abbrev Ht:=@List.filter_eq_nil_iff
abbrev Cw:=@List.filter_filter
abbrev pG:=@List.filter_sublist
abbrev wM:=@List.find?_eq_none
abbrev Cy:=@List.find?_some
abbrev wN:=@List.flatMap_append
abbrev Hu:=@List.flatMap_cons
abbrev wO:=@List.flatten_cons
abbrev zj:=@List.foldl_append
abbrev pH:=@List.foldl_cons
abbrev jG:=@List.getD_eq_getElem?_getD
abbrev eU:=@List.getElem?_append_left
abbrev eV:=@List.getElem?_append_right
abbrev wQ:=@List.getElem?_cons_succ
abbrev aV:=@List.getElem?_eq_getElem
abbrev qB:=@List.getElem?_eq_none
abbrev iI:=@List.getElem?_eq_some_iff
abbrev jH:=@List.getElem?_map
abbrev zm:=@List.getElem?_set_ne
abbrev sJ:=@List.getElem?_set_self
abbrev Cz:=@List.getElem_map
abbrev dU:=@List.getElem_mem
abbrev Hv:=@List.getElem_range
abbrev Hw:=@List.getElem_take
abbrev wR:=@List.getElem_toArray
abbrev e7:=@List.length_append
abbrev fH:=@List.length_cons
abbrev wU:=@List.length_drop
abbrev uH:=@List.length_eq_zero_iff
abbrev gW:=@List.length_filter_le
abbrev aM:=@List.length_map
abbrev jI:=@List.length_range
abbrev kY:=@List.length_set
abbrev Hx:=@List.length_singleton
abbrev dw:=@List.length_take
abbrev wV:=@List.lookup_cons
abbrev cj:=@List.map_append
abbrev zo:=@List.map_congr_left
abbrev dh:=@List.map_cons
abbrev CB:=@List.map_drop
abbrev pI:=@List.map_map
abbrev fB:=@List.mem_append
abbrev uI:=@List.mem_append_left
abbrev fU:=@List.mem_append_right
abbrev cV:=@List.mem_cons
abbrev cy:=@List.mem_cons_of_mem
abbrev cL:=@List.mem_cons_self
abbrev cY:=@List.mem_filter
abbrev zq:=@List.mem_filterMap
abbrev zu:=@List.mem_flatMap
abbrev iJ:=@List.mem_iff_getElem
abbrev CC:=@List.mem_iff_getElem?
abbrev dW:=@List.mem_map
abbrev sL:=@List.mem_map_of_mem
abbrev gz:=@List.mem_of_getElem?
abbrev CF:=@List.mem_of_mem_drop
abbrev pJ:=@List.mem_of_mem_take
abbrev Hy:=@List.mem_or_eq_of_mem_set
abbrev fJ:=@List.mem_range
abbrev fV:=@List.mem_singleton
abbrev CG:=@List.nodup_append
abbrev jk:=@List.nodup_cons
abbrev wW:=@List.nodup_iff_pairwise_ne
abbrev CH:=@List.nodup_nil
abbrev CI:=@List.nodup_range
abbrev CJ:=@List.of_mem_zip
abbrev CK:=@List.pairwise_append
abbrev nT:=@List.pairwise_iff_getElem
abbrev qC:=@List.pairwise_map
abbrev Hz:=@List.prefix_refl
abbrev sM:=@List.range_succ
abbrev qD:=@List.replicate_succ
abbrev HF:=@List.reverse_cons
abbrev iK:=@List.size_toArray
abbrev CL:=@List.sum_append
abbrev uJ:=@List.take_append_drop
abbrev Uh:=@List.take_append_of_le_length
abbrev cZ:=@List.take_length
abbrev uK:=@List.take_of_length_le
abbrev HG:=@List.take_sublist
abbrev sN:=@Nat.add_le_add_left
abbrev zw:=@Nat.le_of_eq
abbrev kZ:=@Nat.le_of_lt
abbrev bx:=@Nat.le_refl
abbrev uL:=@Nat.le_succ
abbrev cH:=@Nat.le_trans
abbrev lO:=@Nat.lt_irrefl
abbrev qE:=@Nat.lt_of_le_of_lt
abbrev iw:=@Nat.lt_of_lt_of_le
abbrev CM:=@Nat.lt_succ_iff_lt_or_eq
abbrev HJ:=@Nat.lt_succ_of_lt
abbrev CN:=@Nat.lt_succ_self
abbrev jJ:=@Nat.lt_trans
abbrev CO:=@Nat.lt_trichotomy
abbrev zy:=@Nat.min_eq_left
abbrev HK:=@Nat.min_eq_right
abbrev wX:=@Nat.mod_lt
abbrev uM:=@Nat.mul_add
abbrev zA:=@Nat.mul_assoc
abbrev nU:=@Nat.mul_comm
abbrev CQ:=@Nat.mul_le_mul_right
abbrev zB:=@Nat.mul_left_comm
abbrev pK:=@Nat.ne_of_gt
abbrev dj:=@Nat.ne_of_lt
abbrev uN:=@Nat.not_lt_zero
abbrev qF:=@Nat.pow_succ
abbrev CT:=@Nat.sub_self
abbrev CU:=@Nat.sub_zero
abbrev CV:=@Nat.succ_mul
abbrev sO:=@Nat.zero_add
abbrev eW:=@Nat.zero_le
abbrev zC:=@Nat.zero_lt_succ
abbrev fW:=@Ne.symm
abbrev zD:=@Option.any_some
abbrev wY:=@Option.isSome_iff_exists
abbrev HL:=@Option.isSome_map
abbrev CW:=@Option.map_eq_some_iff
abbrev CY:=@Option.map_some
abbrev eg:=@Option.some.inj
abbrev CZ:=@Paired.length
abbrev c7:=@PassesOwn.never
abbrev qG:=@Prod.ext
abbrev Ui:=@PyProof.Rows.callWith_builtin1
abbrev wZ:=@PyProof.Rows.callWith_type1
abbrev Uj:=@PySem.F.args_dict_keyiterator_next_1
abbrev HM:=@PySem.F.entry_dict_get
abbrev Uk:=@PySem.F.entry_dict_keyiterator_next
abbrev lP:=@PySem.F.plainAttrs_list
abbrev zE:=@PySem.F.slot_dict_get
abbrev C0:=@PySem.F.slot_dict_keyiterator_next
abbrev nX:=@PySem.F.slot_list_append
abbrev nY:=@PySem.F.type_list_append
abbrev zF:=@PySem.W.callWith_K
abbrev C1:=@PySem.W.cellsFrom_some
abbrev nZ:=@PySem.W.kia_one
abbrev C2:=@PySem.W.methodCall_KW
abbrev HN:=@PySem.W.plainGet_of
abbrev w4:=@PySem.mem_of_lookup
abbrev HP:=@SeqAt.EqAt.int_int
abbrev zG:=@SeqAt.EqAt.same
abbrev jK:=@W.mg_none_of
abbrev bN:=@W.mg_of
abbrev k_:=@beq_eq_false_iff_ne
abbrev mH:=@beq_iff_eq
abbrev HQ:=@beq_self_eq_true
abbrev uO:=@boot_isinstance
abbrev dZ:=@boot_len
abbrev uP:=@boot_list
abbrev C3:=@boot_sorted
abbrev qH:=@boot_tuple
abbrev sP:=@codeAny_builtin
abbrev w5:=@codeAny_mono
abbrev fX:=@congrArg
abbrev C4:=@decide_eq_decide
abbrev jm:=@decide_eq_false
abbrev jo:=@decide_eq_true
abbrev sQ:=@decide_eq_true_eq
abbrev HR:=@isSubtype_tuple_tuple
abbrev Ul:=@plainObj_wpAny_Assign_Attribute
abbrev sR:=@sizeLine_eq
abbrev zH:=@tupleKind_room_in1
abbrev w6:=@wpAny_Call_Name_kw
abbrev HS:=@wpAny_Dict_empty
abbrev aH:=@wpAny_bind
abbrev w_:=@wpAny_call_entry
abbrev uQ:=@wpAny_dictEntries
abbrev C5:=@wpAny_dictEpoch
abbrev C6:=@wpAny_eqBool_int
abbrev HU:=@wpAny_eqBool_tuple
abbrev HV:=@wpAny_execs_cons
abbrev zJ:=@wpAny_execs_nil
abbrev sS:=@wpAny_forIn_list
abbrev mJ:=@wpAny_holding
abbrev zK:=@wpAny_isInstance
abbrev HW:=@wpAny_isTrue_Compare1
abbrev jq:=@wpAny_mono
abbrev zL:=@wpAny_newObj_type
abbrev zM:=@wpAny_passesOwn
abbrev aP:=@wpAny_pure
abbrev HX:=@wpAny_pyIter_list
abbrev C7:=@wpAny_seqItems
abbrev xg:=@wpAny_setState_of
abbrev sU:=@wpAny_specialOf
abbrev pL:=@wpAny_truthy_bool
abbrev HY:=@wpAny_tupleItemsOf
abbrev C8:=@wpAny_typeNameOfWhole_keyiter
abbrev C9:=@wpAny_typeNameOf_keyiter
noncomputable abbrev Key:=Sum Int Str
noncomputable def uR:Key->Value->Bool
 | .inl k,v=>Value.isInt k v
 | .inr x,v=>Value.isStrOf x v
noncomputable def acC(w:World):Key->Int
 | .inl k=>hashInt k
 | .inr x=>hashStr w x
theorem pN:∀ {k:Key} {v:Value},uR k v=true->(∃i t,k=Sum.inl i/\v=Value.int i t)\/(∃x t,k=Sum.inr x/\v=Value.str x t)
 | .inl i,v,h=>by
  obtain⟨t,e⟩:=Value.isInt_shape (k:=i) (v:=v) h;exact .inl ⟨i,t,rfl,e⟩
 | .inr x,v,h=>by
  obtain⟨t,e⟩:=Value.isStrOf_shape (x:=x) (v:=v) h;exact .inr ⟨x,t,rfl,e⟩
theorem Um(i:Int)(t:Tok):uR (.inl i) (.int i t)=true:=by simp[uR,Value.isInt]
theorem acD(x:Str)(t:Tok):uR (.inr x) (.str x t)=true:=by simp[uR,Value.isStrOf]
theorem acE(a b:Int):decide ((Sum.inl a:Key)=Sum.inl b)=(a == b):=by
 by_cases e:a=b
 ·subst e;simp
 ·have h:¬ (Sum.inl a:Key)=Sum.inl b:=λq=>e (Sum.inl.inj q);rw[jm h];exact(k_.mpr e).symm
theorem acF(a b:Str):decide ((Sum.inr a:Key)=Sum.inr b)=decide (a=b):=by
 by_cases e:a=b
 ·subst e;simp
 ·have h:¬ (Sum.inr a:Key)=Sum.inr b:=λq=>e (Sum.inr.inj q);rw[jm h,jm e]
theorem acG(a:Int)(b:Str):decide ((Sum.inl a:Key)=Sum.inr b)=false:=jm (λq=>nomatch q)
theorem acH(a:Str)(b:Int):decide ((Sum.inr a:Key)=Sum.inl b)=false:=jm (λq=>nomatch q)
noncomputable def d7(prog:Program)(w:World):PySem.KeyKind prog w Key where
 is:=uR
 hash:=acC w
 inj:=λv a b ha hb=>by
  rcases pN ha with⟨i,t,rfl,rfl⟩ | ⟨x,t,rfl,rfl⟩
  ·rcases pN hb with⟨j,u,rfl,e⟩ | ⟨y,u,rfl,e⟩
   ·injection e with e1 _;rw[e1]
   ·exact nomatch e
  ·rcases pN hb with⟨j,u,rfl,e⟩ | ⟨y,u,rfl,e⟩
   ·exact nomatch e
   ·injection e with e1 _;rw[e1]
 byValue:=λk v h=>by
  rcases pN h with⟨i,t,rfl,rfl⟩ | ⟨x,t,rfl,rfl⟩ <;> rfl
 pyHash:=λhv h=>by
  rcases pN hv with⟨i,t,rfl,rfl⟩ | ⟨x,t,rfl,rfl⟩
  ·exact wpAny_pyHash_int h
  ·exact wpAny_pyHash_str h
 eqBool:=λhu hv h=>by
  rcases pN hu with⟨i,t,rfl,rfl⟩ | ⟨x,t,rfl,rfl⟩
  ·rcases pN hv with⟨j,u,rfl,rfl⟩ | ⟨y,u,rfl,rfl⟩
   ·rw[acE] at h;exact C6 h
   ·rw[acG] at h;exact SeqAt.EqAt.int_str i t y u _ _ _ _ h
  ·rcases pN hv with⟨j,u,rfl,rfl⟩ | ⟨y,u,rfl,rfl⟩
   ·rw[acH] at h;exact SeqAt.EqAt.str_int x t j u _ _ _ _ h
   ·rw[acF] at h;exact wpAny_eqBool_str h
 «strs» := λk x t v h=>by
  rcases pN h with⟨i,u,rfl,e⟩ | ⟨y,u,rfl,e⟩
  ·exact nomatch e
  ·injection e with e1 _;subst e1;cases v <;> rfl
theorem acI(prog:Program)(w:World)(k:Key)(v:Value):(d7 prog w).is k v=uR k v:=rfl
theorem acJ(prog:Program)(w:World)(i:Int)(t:Tok):(d7 prog w).is (.inl i) (.int i t)=true:=Um i t
theorem acK(prog:Program)(w:World)(x:Str)(t:Tok):(d7 prog w).is (.inr x) (.str x t)=true:=acD x t
inductive V where
 | aY | bl (b:Bool) | int (i:Int) | str (x:Str) | jr (b:Array UInt8) | pO (b:UInt64) | ref (a:Addr) | ty (n:String)
 deriving DecidableEq
noncomputable def RelV:V->Value->Prop
 | .aY,u=>u=Value.none
 | .bl b,u=>u=Value.bool b
 | .int i,u=>∃t,u=Value.int i t
 | .str x,u=>∃t,u=Value.str x t
 | .jr b,u=>∃t,u=Value.bytes b t
 | .pO b,u=>∃t,u=Value.float b t
 | .ref a,u=>u=Value.ref a
 | .ty n,u=>u=Value.type n
noncomputable abbrev Vals:List V->List Value->Prop:=Paired RelV
theorem Vals.length{xs:List V}{us:List Value}(r:Vals xs us):xs.length=us.length:=CZ r
theorem Vals.get:∀ {xs:List V} {us:List Value} {i:Nat} {x:V},Vals xs us->xs[i]? = some x->∃u,us[i]? = some u/\RelV x u
 | _,_,_,_,.nil,e=>by simp at e
 | _,_,0,_,.cons r _,e=>by simp at e;subst e;exact⟨_,rfl,r⟩
 | _,_,i+1,x,.cons _ t,e=>by
  obtain⟨u,h1,h2⟩:=Vals.get (i:=i) (x:=x) t ↑e
  exact⟨u,↑h1,h2⟩
theorem Vals.set{x:V}{u:Value}(r:RelV x u):∀ {xs:List V} {us:List Value} (i:Nat),Vals xs us->Vals (xs.set i x) (us.set i u)
 | _,_,_,.nil=>.nil
 | _,_,0,.cons _ t=>.cons r t
 | _,_,i+1,.cons q t=>.cons q (Vals.set r i t)
theorem Vals.append{xs ys:List V}{ws:List Value}(h:Vals xs us)(g:Vals ys ws):Vals (xs++ys) (us++ws):=by
 induction h with
 | nil=>exact g
 | cons r t ih=>exact .cons r ih
theorem Vals.take:∀ {xs:List V} {us:List Value} (n:Nat),Vals xs us->Vals (xs.take n) (us.take n)
 | _,_,0,_=>.nil
 | _,_,_+1,.nil=>.nil
 | _,_,n+1,.cons r t=>.cons r (Vals.take n t)
theorem Vals.drop:∀ {xs:List V} {us:List Value} (n:Nat),Vals xs us->Vals (xs.drop n) (us.drop n)
 | _,_,0,r=>r
 | _,_,_+1,.nil=>.nil
 | _,_,n+1,.cons _ t=>Vals.drop n t
noncomputable def iW:Option V->Option Value->Prop
 | some v,some u=>RelV v u
 | none,none=>True
 | _,_=>False
def KV{κ:Type}:List (κ×V)->List (κ×Value)->Prop:=Paired λ(p:κ×V) (q:κ×Value)=>p.1=q.1/\RelV p.2 q.2
noncomputable def kV:Key->V
 | .inl i=>.int i
 | .inr x=>.str x
inductive HO where
 /-- a list -/
 | lst (xs:List V)
 /-- a tuple (never changes) -/
 | tup (xs:List V)
 /-- a dict whose keys are ints and texts;one whose keys are tuples of ints and texts (the empty one is both) -/
 | dK (az:List (Key×V)) | dT (az:List (List Key×V))
 /-- a set of ints: its members,its size -/
 | set (S:Int->Bool) (n:Nat)
 /-- an instance of the class at C,its dict at dx,its attributes -/
 | ins (C dx:Addr) (fs:List (Str×V))
 /-- the dict of the instance at x -/
 | own (x:Addr)
 /-- the dict of an exception -/
 | xd (fs:List (Str×V))
 /-- a bound method,f of x -/
 | met (f x:Addr)
 /-- a range object lo,lo+1,.. below hi -/
 | HZ (lo hi:Int)
 /-- a thing that is known to the object (the script;a dict while a loop walks it): read,never written while it is so -/
 | jL (o:Obj) (u:HO)
 /-- a code object's table -/
 | gA (ps:Array Value)
 /-- any other thing,by what is true of its one object (a def of one's own: SetO a S n:=HO.ext λh=>..) -/
 | ext (φ:Heap->Prop)
noncomputable abbrev Hp:=Addr->Option HO
noncomputable def upd(H:Hp)(a:Addr)(o:HO):Hp:=λb=>if b=a then some o else H b
theorem aE{H:Hp}{o:HO}:upd H a o a=some o:=by unfold upd;rw[if_pos rfl]
theorem aJ{H:Hp}{o:HO}(h:b≠a):upd H a o b=H b:=by unfold upd;rw[if_neg h]
theorem acL{H:Hp}{o u:HO}:upd (upd H a o) a u=upd H a u:=by
 funext b;unfold upd;split <;> rfl
theorem iy{H:Hp}{o u:HO}(h:H a=some o)(h':H b=some u)(d:o≠u):a≠b:=by
 intro e;subst e;rw[h] at h';exact d (eg h')
theorem bT{H:Hp}{o:HO}(h:H a=some o)(h':H b=none):a≠b:=by
 intro e;subst e;rw[h] at h';cases h'
section
variable(P:Program)(w:World)
noncomputable def eG(H:Hp)(h:Heap)(a:Addr):HO->Prop
 | .lst xs=>xs.length<=sizeLine/\∃(aC:List Value) (n:Nat),Vals xs aC/\h.get? a=some { cls:=.type "list",data:=.seq aC.toArray n }
 | .tup xs=>xs.length<=sizeLine/\∃aC:List Value,Vals xs aC/\IsTup h a aC.toArray
 | .dK az=>az.length<=sizeLine/\(a == sysModules)=false/\∃vs,KV az vs/\h.DictOf (d7 P w) a vs
 | .dT az=>az.length<=sizeLine/\(a == sysModules)=false/\∃xs:List (List Key×Addr×Value),
   Paired (λ(p:List Key×V) (q:List Key×Addr×Value)=>p.1=q.1/\H q.2.1=some (.tup (p.1.map kV))/\RelV p.2 q.2.2) az xs/\
   ∃o es ep,h.get? a=some o/\o.ExactDict/\o.data = .dict es ep/\es.toList=xs.map (entryOfKey (tupleKind (d7 P w)))/\(xs.map (·.1)).Nodup
 | .set S n=>h.SetOf (intKind P w) a S n
 | .ins C dx fs=>H dx=some (.own a)/\fs.length<=1000/\dx≠a/\h.get? a=some (PySem.W.instObj C dx)/\
   ∃mA,h.Ns1 dx mA/\(∀f,iW (fs.lookup f) (mA f))/\PySem.Within mA (fs.map (·.1))
 | .own _=>∃o,h.get? a=some o
 | .xd fs=>∃mA,h.Ns1 a mA/\∀f,iW (fs.lookup f) (mA f)
 | .HZ lo hi=>∃t u v,h.get? a=some { cls:=.type "range",data:=.fields #[.int lo t,.int hi u,.int 1 v] }
 | .jL o u=>h.get? a=some o/\eG H h a u
 | .gA ps=>h.get? a=some { cls:=.none,data:=.fields ps }
 | .met f x=>h.get? a=some (PySem.W.methodObj (.ref f) (.ref x))
 | .ext φ=>φ h/\(∃o,h.get? a=some o)/\∀h1 h2:Heap,φ h1->(∀o,h1.get? a=some o->h2.get? a=some o)->φ h2
def d8(H:Hp)(h:Heap):Prop:=∀a o,H a=some o->eG P w H h a o
end
section
variable{H H':Hp}{o:HO}
theorem eG.lt(x:eG P w H h a o):a<h.objs.size:=by
 cases o with
 | lst xs=>obtain⟨_,_,_,_,e⟩:=x;exact cR e
 | tup xs=>obtain⟨_,_,_,p⟩:=x;exact p.lt
 | dK az=>obtain⟨_,_,_,_,o,_,_,e,_⟩:=x;exact cR e
 | dT az=>obtain⟨_,_,_,_,o,_,_,e,_⟩:=x;exact cR e
 | set S n=>obtain⟨o,_,_,_,e,_⟩:=x;exact cR e
 | ins C dx fs=>obtain⟨_,_,_,e,_⟩:=x;exact cR e
 | own y=>obtain⟨_,e⟩:=x;exact cR e
 | xd fs=>obtain⟨_,⟨_,_,_,e,_⟩,_⟩:=x;exact cR e
 | HZ lo hi=>obtain⟨_,_,_,e⟩:=x;exact cR e
 | jL ob u=>obtain⟨e,_⟩:=x;exact cR e
 | gA ps=>exact cR (show h.get? a=some _ from x)
 | met f y=>exact cR (show h.get? a=some _ from x)
 | ext φ=>obtain⟨_,⟨_,e⟩,_⟩:=x;exact cR e
theorem Paired.Uo{α β:Type}{F G:α->β->Prop}{l₁:List α}{Up:List β}(h:Paired F l₁ Up)(f:∀a b,F a b->G a b):Paired G l₁ Up:=by
 induction h with
 | nil=>exact .nil
 | cons r t ih=>exact .cons (f _ _ r) ih
theorem eG.pQ(x:eG P w H h a o)(k:∀b u,(b=a\/H b=some (.own a))->h.get? b=some u->h'.get? b=some u)
  (ho:∀b,H b=some (.own a)->H' b=some (.own a)) (ht:∀b xs,H b=some (.tup xs)->H' b=some (.tup xs)):eG P w H' h' a o:=by
 induction o with
 | lst xs=>obtain⟨z,aC,n,r,e⟩:=x;exact⟨z,aC,n,r,k _ _ (.inl rfl) e⟩
 | tup xs=>obtain⟨z,aC,r,ob,e,c⟩:=x;exact⟨z,aC,r,ob,k _ _ (.inl rfl) e,c⟩
 | dK az=>obtain⟨z,y,vs,r,ob,es,ep,e,c⟩:=x;exact⟨z,y,vs,r,ob,es,ep,k _ _ (.inl rfl) e,c⟩
 | dT az =>
  obtain⟨z,y,xs,r,ob,es,ep,e,c⟩:=x;exact⟨z,y,xs,Paired.Uo r λp q z=>⟨z.1,ht _ _ z.2.1,z.2.2⟩,ob,es,ep,k _ _ (.inl rfl) e,c⟩
 | set S n=>obtain⟨ob,es,ep,t,e,c⟩:=x;exact⟨ob,es,ep,t,k _ _ (.inl rfl) e,c⟩
 | ins C dx fs =>
  obtain⟨d,z,ne,e,mA,⟨od,es,ep,e2,c⟩,r⟩:=x;exact⟨ho _ d,z,ne,k _ _ (.inl rfl) e,mA,⟨od,es,ep,k _ _ (.inr d) e2,c⟩,r⟩
 | own y=>obtain⟨ob,e⟩:=x;exact⟨ob,k _ _ (.inl rfl) e⟩
 | xd fs=>obtain⟨mA,⟨od,es,ep,e,c⟩,r⟩:=x;exact⟨mA,⟨od,es,ep,k _ _ (.inl rfl) e,c⟩,r⟩
 | HZ lo hi=>obtain⟨t,u,v,e⟩:=x;exact⟨t,u,v,k _ _ (.inl rfl) e⟩
 | jL ob u ih=>obtain⟨e,q⟩:=x;exact⟨k _ _ (.inl rfl) e,ih q⟩
 | gA ps =>
  have e:h.get? a=some { cls:=.none,data:=.fields ps }:=x
  show h'.get? a=some { cls:=.none,data:=.fields ps };exact k a _ (.inl rfl) e
 | met f y =>
  have e:h.get? a=some (PySem.W.methodObj (.ref f) (.ref y)):=x
  show h'.get? a=some (PySem.W.methodObj (.ref f) (.ref y));exact k a _ (.inl rfl) e
 | ext φ=>obtain⟨p,⟨o,e⟩,st⟩:=x;exact⟨st _ _ p λo q=>k _ _ (.inl rfl) q,⟨o,k _ _ (.inl rfl) e⟩,st⟩
theorem d8.lt(x:d8 P w H h)(e:H a=some o):a<h.objs.size:=(x a o e).lt
theorem d8.fresh(x:d8 P w H h)(e:h.objs.size<=a):H a=none:=by
 cases q:H a with
 | none=>rfl
 | some u=>exact absurd (iw (x.lt q) e) (lO _)
theorem d8.kept(x:d8 P w H h)(k:∀b u,h.get? b=some u->h'.get? b=some u):d8 P w H h':=λa o e =>
 (x a o e).pQ (λb u _ q=>k b u q) (λ_ q=>q) λ_ _ q=>q
theorem d8.laid(x:d8 P w H h)(k:∀b u,h.get? b=some u->h'.get? b=some u)(hp:h.objs.size<=a)(new:eG P w (upd H a o) h' a o):d8 P w (upd H a o) h':=λb u e=>by
 have hn:=x.fresh hp;by_cases hb:b=a
 ·subst hb;rw[aE] at e;cases e;exact new
 ·rw[aJ hb] at e;exact(x b u e).pQ (λc v _ q=>k c v q) (λc q=>by rw[aJ (bT q hn)];exact q) λc xs q=>by rw[aJ (bT q hn)];exact q
end
def Rd(H:Hp)(a:Addr)(u:HO):Prop:=H a=some u\/∃o,H a=some (.jL o u)
theorem Rd.ok{H:Hp}{u:HO}(r:Rd H a u)(x:d8 P w H h):eG P w H h a u:=by
 rcases r with r | ⟨o,r⟩
 ·exact x a u r
 ·obtain⟨_,q⟩:=x a _ r;exact q
noncomputable def zN:Option HO->Prop
 | some (.lst _)=>True
 | some (.dK _)=>True
 | some (.dT _)=>True
 | some (.set _ _)=>True
 | some (.ins _ _ _)=>True
 | some (.ext _)=>True
 | _=>False
section
variable{H:Hp}{x e:Addr}{o':HO}
theorem d8.write(ok:d8 P w H h)(mu:zN (H x))(he:e=x\/H e=some (.own x))(k:∀b u,b≠e->h.get? b=some u->h'.get? b=some u)(xh:∃u,h'.get? e=some u)
  (new:eG P w (upd H x o') h' x o'):d8 P w (upd H x o') h':=λb u q=>by
 have Uq:∀c y,H c=some (.own y)->c≠x:=λc y r z=>by subst z;rw[r] at mu;exact mu
 have acM:∀c xs,H c=some (.tup xs)->c≠x:=λc xs r z=>by subst z;rw[r] at mu;exact mu
 by_cases hb:b=x
 ·subst hb;rw[aE] at q;cases q;exact new
 ·rw[aJ hb] at q;by_cases uS:b=e
  ·have q':H b=some (.own x):=by
    rcases he with z | z
    ·exact absurd (uS.trans z) hb
    ·rw[uS];exact z
   rw[q] at q';cases q';obtain⟨v,hv⟩:=xh;exact⟨v,by rw[uS];exact hv⟩
  ·refine(ok b u q).pQ (λc v hc r=>k c v ?_ r) (λc r=>by rw[aJ (Uq c b r)];exact r) λc xs r=>by rw[aJ (acM c xs r)];exact r
   rcases hc with rfl | hc
   ·exact uS
   ·rintro rfl;rcases he with z | z
    ·exact Uq c b hc z
    ·rw[hc] at z;cases z;exact hb rfl
end
structure Un(fs ex:_A)(H H':Hp)(h h':Heap):Prop where
 keep:∀b o,h.get? b=some o->H b=none->b∉fs->b∉ex->h'.get? b=some o
 slot:∀b o,h.get? b=some o->H b=none->b∈fs->b∉ex->∃sl,h'.get? b=some { o with slots:=sl }
 free:∀b o,h.get? b=some o->H b=none->b∉ex->H' b=none
 there:∀b o,h.get? b=some o->b∉ex->∃o',h'.get? b=some o'
 sV:∀b xs,H b=some (.tup xs)->H' b=some (.tup xs)
 pR:∀b o u,H b=some (.jL o u)->H' b=some (.jL o u)
 qI:∀b ps,H b=some (.gA ps)->∃more,H' b=some (.gA (ps++more))
section
variable{fs Ur ex ex':_A}{H H1 H2:Hp}{h1 h2:Heap}{x e:Addr}{o:HO}
theorem Un.any(u:Un fs ex H H1 h h1){ob:Obj}(q:h.get? b=some ob)(n:H b=none)(hx:b∉ex):∃sl,h1.get? b=some { ob with slots:=sl }:=by
 by_cases hb:b∈fs
 ·exact u.slot b ob q n hb hx
 ·exact⟨ob.slots,u.keep b ob q n hb hx⟩
theorem Un.kept(k:∀b u,h.get? b=some u->h'.get? b=some u):Un fs ex H H h h' :=
 ⟨λb ob q _ _ _=>k b ob q,λb ob q _ _ _=>⟨ob.slots,k b ob q⟩,λ_ _ _ n _=>n,λb ob q _=>⟨ob,k b ob q⟩,λ_ _ q=>q,λ_ _ _ q=>q,λ_ ps q=>⟨#[],by rw[q];simp⟩⟩
theorem Un.refl:Un fs ex H H h h:=Un.kept λ_ _ q=>q
theorem Un.laid(k:∀b u,h.get? b=some u->h'.get? b=some u)(hp:h.objs.size<=a)(hn:H a=none):Un fs ex H (upd H a o) h h' where
 keep:=λb u q _ _ _=>k b u q
 slot:=λb u q _ _ _=>⟨u.slots,k b u q⟩
 free:=λb u q n _=>by rw[aJ (dj (iw (cR q) hp))];exact n
 there:=λb u q _=>⟨u,k b u q⟩
 sV:=λb xs q=>by rw[aJ (bT q hn)];exact q
 pR:=λb u xs q=>by rw[aJ (bT q hn)];exact q
 qI:=λb ps q=>⟨#[],by rw[aJ (bT q hn),q];simp⟩
theorem Un.write(mu:zN (H x))(he:e=x\/H e=some (.own x))(k:∀b u,b≠e->h.get? b=some u->h'.get? b=some u)(xh:∃u,h'.get? e=some u):Un fs ex H (upd H x o) h h':=by
 have hx:∀b,H b=none->b≠x:=λb n z=>by subst z;rw[n] at mu;exact mu
 have hb:∀b,H b=none->b≠e:=λb n z=>by
  subst z;rcases he with r | r
  ·exact hx b n r
  ·rw[n] at r;cases r
 have hm:∀b u,H b=some u->¬ zN (some u)->b≠x:=λb u q nm z=>by subst z;rw[q] at mu;exact nm mu
 refine⟨λb u q n _ _=>k b u (hb b n) q,λb u q n _ _=>⟨u.slots,k b u (hb b n) q⟩,λb u q n _=>by rw[aJ (hx b n)];exact n,λb u q _=>?_,
  λb xs q=>by rw[aJ (hm b _ q λz=>z)];exact q,λb u xs q=>by rw[aJ (hm b _ q λz=>z)];exact q,λb ps q=>⟨#[],by rw[aJ (hm b _ q λz=>z),q];simp⟩⟩
 by_cases uS:b=e
 ·subst uS;exact xh
 ·exact⟨u,k b u uS q⟩
end
noncomputable def C_(h:Heap)(H:Hp):_A:=(List.range h.objs.size).filter λa=>(H a).isSome
noncomputable def ki(h:Heap)(H:Hp):Heap:=PySem.W.hideAll h (C_ h H)
theorem Ut(h:Heap)(H:Hp):(ki h H).objs.size=h.objs.size:=PySem.W.hideAll_size _ _
theorem Uu{H:Hp}{o:Obj}(e:h.get? b=some o)(n:H b=none):(ki h H).get? b=some o :=
 PySem.W.hideAll_get _ e λhm=>by
  have q:(H b).isSome=true:=(cY.mp hm).2;rw[n] at q;simp at q
theorem Uv{H:Hp}{o:Obj}(e:(ki h H).get? b=some o):h.get? b=some o/\H b=none:=by
 have e':h.get? b=some o:=PySem.W.of_hideAll (C_ h H) e;refine⟨e',?_⟩;cases q:H b with
 | none=>rfl
 | some x =>
  have hm:b∈C_ h H:=cY.mpr ⟨fJ.mpr (cR e'),by simp[q]⟩
  have z:(ki h H).get? b=none:=PySem.W.hideAll_none (C_ h H) hm;rw[z] at e;cases e
noncomputable def Dc(g h:Heap)(L:Addr):List (Addr×Obj):=(List.range h.objs.size).filterMap λa=>if a=L\/(g.get? a).isSome=true then none else(h.get? a).map λo=>(a,o)
theorem Uw{o:Obj}(h1:a≠L)(h2:g.get? a=none)(h3:h.get? a=some o):(a,o)∈Dc g h L :=
 zq.mpr ⟨a,fJ.mpr (cR h3),by simp[h1,h2,h3]⟩
theorem acN{p:Addr×Obj}(hp:p∈Dc g h L):p.1≠L/\g.get? p.1=none/\h.get? p.1=some p.2:=by
 obtain⟨b,_,e⟩:=zq.mp hp;split at e
 ·cases e
 ·rename_i hn;cases q:h.get? b with
  | none=>rw[q] at e;simp at e
  | some u =>
   rw[q] at e;simp only[Option.map_some,Option.some.injEq] at e;subst e;refine⟨λz=>hn (.inl z),?_,q⟩
   show g.get? b=none;cases r:g.get? b with
   | none=>rfl
   | some v=>exact(hn (.inr (by simp[r]))).elim
noncomputable def rest(g h:Heap)(L d:Addr):List (Addr×Obj):=(Dc g h L).filter λp=>decide (p.1≠d)
theorem Dd:∀p∈rest g h L d,p.1≠d:=λp hp=>of_decide_eq_true (cY.mp hp).2
theorem acO{o:Obj}(h1:a≠L)(h2:g.get? a=none)(h3:h.get? a=some o)(h4:a≠d):(a,o)∈rest g h L d :=
 cY.mpr ⟨Uw h1 h2 h3,jo h4⟩
theorem H_:News g L h (Dc g h L):=λp hp=>let ⟨a,b,c⟩:=acN hp;⟨c,a,b⟩
theorem news_at{o:Obj}(h1:d≠L)(h2:g.get? d=none)(h3:h.get? d=some o):News g L h ((d,o)::rest g h L d):=λp hp=>by
 rcases cV.mp hp with rfl | hp
 ·exact⟨h3,h1,h2⟩
 ·exact H_ p (cY.mp hp).1
theorem De{m:Str->Option Value}(k:∀b o,g.get? b=some o->h.get? b=some o)(F:Fr g L h' m)(N:News g L h' (rest g h L d)) :
  ∀b o,b≠L->b≠d->h.get? b=some o->h'.get? b=some o:=λb o h1 h2 e=>by
 cases q:g.get? b with
 | some u =>
  have:=k b u q;rw[e] at this;cases this;exact F.keep b _ q
 | none=>exact(N (b,o) (acO h1 q e h2)).1
structure Mod(K:W.Frag)(mg:Str->Option Value)(base:Heap):Prop where
 uT:K.In base
 glob:base.Ns mainGlobals mg
 blt:∃mb,base.Ns builtinsNs mb/\∀x:Str,x≠"__name__"->mb x=bootBuiltins x
 nolimit:base.NoLimit
structure Cx where
 prog:Program
 w:World
 K:W.Frag
 mg:Str->Option Value
 base:Heap
 A:Around
 N:List Str
 eX:Shared
 uU:Hp
 env:Env
 outer:List Env
 stack:List Env
 ex:_A
 fn:Str->Bool
 calm:Bool
 pn:List (Addr×Obj)
 xe:Value->Shared->Prop
noncomputable def iX(l:List Env):_A:=l.filterMap (·.frame)
noncomputable abbrev Cx.fs(X:Cx):_A:=iX X.outer
def Df(sc:Scope)(x:Str):Prop:=sc.names.lookup x=some .local\/sc.names.lookup x=some .cell\/sc.names.lookup x=some .free
def Loc(sc:Scope)(x:Str):Prop:=sc.names.lookup x=some .local\/sc.names.lookup x=some .cell
def Look(env:Env)(h:Heap)(m:Str->Option Value)(x:Str)(u:Value):Prop :=
 (env.kindOf x=some .local/\m x=some u)\/((env.kindOf x=some .cell\/env.kindOf x=some .free)/\∃c,env.cells.lookup x=some c/\h.IsCell c (some u))
structure Cx.Ok(X:Cx):Prop where
 mod:Mod X.K X.mg X.base
 kind:X.env.scope.kind = .function
 glob:X.env.globals=mainGlobals
 blt:X.env.builtins=builtinsNs
 above:X.eX.heap.objs.size<=X.env.locals
 inj:∀x y c,X.env.cells.lookup x=some c->X.env.cells.lookup y=some c->x=y
 has:∀x,(X.env.kindOf x=some .cell\/X.env.kindOf x=some .free)->∃c,X.env.cells.lookup x=some c
 xj:∀x c,X.fn x=true->X.env.cells.lookup x=some c->X.eX.heap.objs.size<=c
 hd:X.calm=true->X.A.handled=none
 frames:X.A.frames=some X.stack
 zO:X.stack=X.outer\/(X.stack=X.env::X.outer/\X.env.frame=some X.env.locals)
 zP:∀b∈X.ex,b≠X.env.locals/\∀x c,X.env.cells.lookup x=some c->c≠b
 bs:∀b o,X.base.get? b=some o->X.eX.heap.get? b=some o/\X.uU b=none
 jt:X.base.objs.size<=X.eX.heap.objs.size
 xm:∀b o,X.base.get? b=some o->b∉X.ex
 xq:∀b∈X.ex,b∉X.fs
 lQ:X.eX.heap.FunFrames X.base X.outer
 sW:∀b∈X.fs,X.uU b=none
structure Inv(X:Cx)(pins:List (Addr×Obj))(σ:List (Option V))(H:Hp)(s:Shared):Prop where
 ok:X.Ok
 os:s.os=X.eX.os
 bare:AllBare s.gens
 base:Un X.fs X.ex X.uU H X.eX.heap s.heap
 loc:∃m,s.heap.Ns X.env.locals m/\∀(i:Nat) (x:Str) (v:V),X.N[i]? = some x->σ[i]? = some (some v)->Df X.env.scope x->∃u,RelV v u/\Look X.env s.heap m x u
 cell:∀x c,X.env.cells.lookup x=some c->∃v,s.heap.IsCell c v
 free:H X.env.locals=none
 n8:∀x c,X.env.cells.lookup x=some c->H c=none
 pin:∀p∈X.pn++pins,s.heap.get? p.1=some p.2/\H p.1=none/\p.1≠X.env.locals/\p.1∉X.fs/\∀v,p.2.data≠.cell v
 aO:d8 X.prog X.w H s.heap
 len:σ.length=X.N.length
section
variable{X:Cx}{σ:List (Option V)}{H H':Hp}
theorem Cx.Ok.acP(ok:X.Ok){o:Obj}(e:X.base.get? b=some o):b∉X.fs:=λhb=>by
 have:=(ok.lQ.mem hb).1;rw[e] at this;cases this
theorem Inv.bs(I:Inv X pins σ H s):∀b o,X.base.get? b=some o->s.heap.get? b=some o/\H b=none:=λb o e =>
 ⟨I.base.keep b o (I.ok.bs b o e).1 (I.ok.bs b o e).2 (I.ok.acP e) (I.ok.xm b o e),I.base.free b o (I.ok.bs b o e).1 (I.ok.bs b o e).2 (I.ok.xm b o e)⟩
theorem Inv.bk(I:Inv X pins σ H s):∀b o,X.base.get? b=some o->s.heap.get? b=some o:=λb o e=>(I.bs b o e).1
theorem Inv.mod(I:Inv X pins σ H s):Mod X.K X.mg X.base:=I.ok.mod
theorem Inv.fD(I:Inv X pins σ H s):X.K.In s.heap:=I.ok.mod.uT.keeps I.bk
theorem Inv.nolimit(I:Inv X pins σ H s):s.heap.NoLimit:=I.ok.mod.nolimit.keeps I.bk
theorem Inv.fr(I:Inv X pins σ H s):∃m,Fr X.base X.env.locals s.heap m :=
 let ⟨m,hn,_⟩:=I.loc
 ⟨m,hn,I.bk,cH I.ok.jt I.ok.above⟩
theorem Inv.lt(I:Inv X pins σ H s):X.env.locals<s.heap.objs.size:=let ⟨_,hn,_⟩:=I.loc;hn.lt
theorem Inv.sz(I:Inv X pins σ H s):X.eX.heap.objs.size<=s.heap.objs.size:=cH I.ok.above (kZ I.lt)
theorem Inv.zQ(I:Inv X pins σ H s)(h:s.heap.objs.size<=a):a∉X.fs:=λhb=>by
 obtain⟨_,o,ho,_⟩:=I.ok.lQ.mem hb;exact absurd (iw (cR ho) (cH I.sz h)) (lO _)
theorem Inv.uW(I:Inv X pins σ H s):∀x c,X.env.cells.lookup x=some c->c≠X.env.locals:=λx c e z=>by
 obtain⟨v,o,ho,hd⟩:=I.cell x c e;obtain⟨m,⟨o',es,ep,iY,gM,_⟩,_⟩:=I.loc;rw[z,iY] at ho;cases ho;rw[gM] at hd;cases hd
theorem Inv.lQ(I:Inv X pins σ H s):s.heap.FunFrames X.base X.outer:=by
 have all:∀(l:List Env),(∀b∈iX l,b∈X.fs)->X.eX.heap.FunFrames X.base l->s.heap.FunFrames X.base l:=by
  intro l
  induction l with
  | nil=>intro _ _;trivial
  | cons env r ih =>
   intro hs hl;obtain⟨hk,⟨L,o,hf,hn,ho,hd⟩,hr⟩:=hl;have hL:L∈X.fs:=hs L (by unfold iX;rw[List.filterMap_cons,hf];exact List.mem_cons_self)
   obtain⟨sl,e⟩:=I.base.slot L o ho (I.ok.sW L hL) hL λz=>I.ok.xq L z hL;exact⟨hk,⟨L,_,hf,hn,e,hd⟩,ih (λb hb=>hs b (by unfold iX;rw[List.filterMap_cons,hf];exact List.mem_cons_of_mem _ hb)) hr⟩
 exact all X.outer (λ_ hb=>hb) I.ok.lQ
theorem Inv.stack(I:Inv X pins σ H s):s.heap.FunFrames X.base X.stack:=by
 rcases I.ok.zO with e | ⟨e,hf⟩
 ·rw[e];exact I.lQ
 ·rw[e];obtain⟨m,hn,_⟩:=I.loc;refine .cons (by rw[I.ok.kind];decide) hf hn ?_ I.lQ
  exact Cp (cH I.ok.jt I.ok.above)
theorem Inv.Ia(I:Inv X pins σ H s):∀b∈iX X.stack,b∈X.env.locals::X.fs:=λb hb=>by
 rcases I.ok.zO with e | ⟨e,hf⟩
 ·rw[e] at hb;exact cy _ hb
 ·rw[e] at hb;unfold iX at hb;rw[uF,hf] at hb;exact hb
theorem Inv.Ib(I:Inv X pins σ H s):∀b∈iX X.stack,H b=none:=λb hb=>by
 rcases cV.mp (I.Ia b hb) with e | hb
 ·rw[e];exact I.free
 ·obtain⟨_,o,ho,_⟩:=I.ok.lQ.mem hb;exact I.base.free b o ho (I.ok.sW b hb) λz=>I.ok.xq b z hb
theorem Inv.step{g':Array GenState}{d':Drawn}(I:Inv X pins σ H s)
  (n_:∀b∈ch,(b∈X.ex\/X.eX.heap.objs.size<=b)/\b≠X.env.locals/\(∀x c,X.env.cells.lookup x=some c->c≠b)/\∀p∈X.pn++pins,p.1≠b)
  (keep:∀b o,b≠X.env.locals->b∉X.fs->b∉ch->s.heap.get? b=some o->H b=none->h'.get? b=some o)
  (slot:∀b o,b≠X.env.locals->b∈X.fs->b∉ch->s.heap.get? b=some o->H b=none->∃sl,h'.get? b=some { o with slots:=sl }) (free:∀b o,b∉ch->s.heap.get? b=some o->H b=none->H' b=none)
  (there:∀b o,b∉ch->s.heap.get? b=some o->∃o',h'.get? b=some o')
  (sV:∀b xs,H b=some (.tup xs)->H' b=some (.tup xs)) (pR:∀b o u,H b=some (.jL o u)->H' b=some (.jL o u)) (qI:∀b ps,H b=some (.gA ps)->∃more,H' b=some (.gA (ps++more)))
  (ns:∀m,s.heap.Ns X.env.locals m->h'.Ns X.env.locals m) (aO:d8 X.prog X.w H' h') (hg:AllBare g') :
  Inv X pins σ H' { s with heap:=h',gens:=g',drawn:=d',toks:=t' }:=by
 have Ux:∀b o,X.eX.heap.get? b=some o->b≠X.env.locals:=λb o e=>dj (iw (cR e) I.ok.above);have Dg:∀b o,X.eX.heap.get? b=some o->b∉X.ex->b∉ch:=λb o e hx hb=>by
  rcases(n_ b hb).1 with z | z
  ·exact hx z
  ·exact absurd (iw (cR e) z) (lO _)
 have cellK:∀x c,X.env.cells.lookup x=some c->∀v,s.heap.IsCell c v->h'.IsCell c v:=λx c e v ⟨o,ho,hd⟩=>by
  have zR:c∉ch:=λz=>(n_ c z).2.2.1 x c e rfl;by_cases hc:c∈X.fs
  ·obtain⟨sl,q⟩:=slot c o (I.uW x c e) hc zR ho (I.n8 x c e);exact⟨_,q,hd⟩
  ·exact⟨o,keep c o (I.uW x c e) hc zR ho (I.n8 x c e),hd⟩
 refine⟨I.ok,I.os,hg,⟨λb o e n hb hx=>?_,λb o e n hb hx=>?_,λb o e n hx=>?_,λb o e hx=>?_,λb xs e=>sV b xs (I.base.sV b xs e),λb o xs e=>pR b o xs (I.base.pR b o xs e),λb ps e=>?_⟩,?_,λx c e=>?_,?_,λx c e=>?_,λp hp=>?_,aO,I.len⟩
 ·exact keep b o (Ux b o e) hb (Dg b o e hx) (I.base.keep b o e n hb hx) (I.base.free b o e n hx)
 ·obtain⟨sl,e1⟩:=I.base.slot b o e n hb hx;obtain⟨sl',e2⟩:=slot b _ (Ux b o e) hb (Dg b o e hx) e1 (I.base.free b o e n hx);exact⟨sl',e2⟩
 ·obtain⟨o',e1⟩:=I.base.there b o e hx;exact free b o' (Dg b o e hx) e1 (I.base.free b o e n hx)
 ·obtain⟨o',e1⟩:=I.base.there b o e hx;exact there b o' (Dg b o e hx) e1
 ·obtain⟨m1,e1⟩:=I.base.qI b ps e;obtain⟨m2,e2⟩:=qI b _ e1;exact⟨m1++m2,by rw[e2,Array.append_assoc]⟩
 ·obtain⟨m,hn,hl⟩:=I.loc;refine⟨m,ns m hn,λi x v e1 e2 e3=>?_⟩;obtain⟨u,r,l⟩:=hl i x v e1 e2 e3;refine⟨u,r,?_⟩;rcases l with l | ⟨k,c,e,z⟩
  ·exact .inl l
  ·exact .inr ⟨k,c,e,cellK x c e _ z⟩
 ·obtain⟨v,z⟩:=I.cell x c e;exact⟨v,cellK x c e v z⟩
 ·obtain⟨m,⟨o,_,_,ho,_⟩,_⟩:=I.loc;exact free _ o (λz=>(n_ _ z).2.1 rfl) ho I.free
 ·obtain⟨v,o,ho,hd⟩:=I.cell x c e;exact free c o (λz=>(n_ c z).2.2.1 x c e rfl) ho (I.n8 x c e)
 ·obtain⟨e,n,ne,nf,d⟩:=I.pin p hp;have zR:p.1∉ch:=λz=>(n_ p.1 z).2.2.2 p hp rfl;exact⟨keep p.1 p.2 ne nf zR e n,free p.1 p.2 zR e n,ne,nf,d⟩
theorem Inv.un(I:Inv X pins σ H s)(u:Un X.fs [] H H' s.heap h')(aO:d8 X.prog X.w H' h'):Inv X pins σ H' { s with heap:=h',toks:=t' }:=by
 obtain⟨m,⟨o,es,ep,ho,r⟩,_⟩:=id I.loc;obtain⟨sl,hL⟩:=u.any ho I.free (by simp)
 exact I.step (g':=s.gens) (d':=s.drawn) (ch:=[]) (λ_ z=>nomatch z) (λb o _ hb _ e n=>u.keep b o e n hb (by simp)) (λb o _ hb _ e n=>u.slot b o e n hb (by simp)) (λb o _ e n=>u.free b o e n (by simp)) (λb o _ e=>u.there b o e (by simp)) u.sV u.pR u.qI (λm' hm=>by
  obtain⟨o',gg,iA,iY,r'⟩:=hm;rw[ho] at iY;cases iY;exact⟨_,gg,iA,hL,r'⟩) aO I.bare
theorem Inv.call{g':Array GenState}{d':Drawn}(I:Inv X pins σ H s)(u:Un (iX X.stack) ch H H' s.heap h')(aO:d8 X.prog X.w H' h')(hg:AllBare g')
  (n_:∀b∈ch,(b∈X.ex\/X.eX.heap.objs.size<=b)/\b≠X.env.locals/\(∀x c,X.env.cells.lookup x=some c->c≠b)/\∀p∈X.pn++pins,p.1≠b) :
  Inv X pins σ H' { s with heap:=h',gens:=g',drawn:=d',toks:=t' }:=by
 obtain⟨m,⟨o,es,ep,ho,r⟩,_⟩:=id I.loc;obtain⟨sl,hL⟩:=u.any ho I.free λz=>(n_ _ z).2.1 rfl;exact I.step (ch:=ch) n_ (λb o hL hb hc e n=>u.keep b o e n (λz=>(cV.mp (I.Ia b z)).elim hL hb) hc) (λb o _ _ hc e n=>u.any e n hc) (λb o hc e n=>u.free b o e n hc) (λb o hc e=>u.there b o e hc) u.sV u.pR u.qI (λm' hm=>by
  obtain⟨o',gg,iA,iY,r'⟩:=hm;rw[ho] at iY;cases iY;exact⟨_,gg,iA,hL,r'⟩) aO hg
theorem Inv.turned{it:Addr}(I:Inv X pins σ H s)(k:∀b o,b≠it->s.heap.get? b=some o->h'.get? b=some o)(hn:H it=none)(hL:it≠X.env.locals)
  (h1:it∈X.ex\/X.eX.heap.objs.size<=it) (h2:∀x c,X.env.cells.lookup x=some c->c≠it) (h3:∀p∈X.pn++pins,p.1≠it):Inv X pins σ H { s with heap:=h',toks:=t' }:=by
 have zS:∀b u,H b=some u->b≠it:=λb u e z=>by rw[z,hn] at e;cases e
 refine I.step (g':=s.gens) (d':=s.drawn) (ch:=[it]) (λb hb=>?_) (λb o _ _ hc e _=>k b o (λz=>hc (by simp[z])) e) (λb o _ _ hc e _=>⟨o.slots,k b o (λz=>hc (by simp[z])) e⟩) (λ_ _ _ _ n=>n)
  (λb o hc e=>⟨o,k b o (λz=>hc (by simp[z])) e⟩) (λ_ _ e=>e) (λ_ _ _ e=>e) (λb ps e=>⟨#[],by rw[e];simp⟩) (λm hm=>?_) (λb u e=>?_) I.bare
 ·have e:b=it:=by simpa using hb
  subst e;exact⟨h1,hL,h2,h3⟩
 ·obtain⟨o,es,ep,ho,r⟩:=hm;exact⟨o,es,ep,k _ o (fW hL) ho,r⟩
 ·refine(I.aO b u e).pQ (λc v hc q=>k c v ?_ q) (λ_ q=>q) λ_ _ q=>q;rcases hc with z | z
  ·rw[z];exact zS b u e
  ·exact zS c _ z
theorem Inv.tok(I:Inv X pins σ H s)(t:Nat):Inv X pins σ H { s with toks:=t }:=I.un (h':=s.heap) (t':=t) Un.refl I.aO
theorem Inv.kept{t':Nat}(I:Inv X pins σ H s)(k:∀b u,s.heap.get? b=some u->h'.get? b=some u):Inv X pins σ H { s with heap:=h',toks:=t' }:=I.un (Un.kept k) (I.aO.kept k)
theorem Inv.laid{a:Addr}{o:HO}{t':Nat}(I:Inv X pins σ H s)(k:∀b u,s.heap.get? b=some u->h'.get? b=some u)(hp:s.heap.objs.size<=a)(new:eG X.prog X.w (upd H a o) h' a o) :
  Inv X pins σ (upd H a o) { s with heap:=h',toks:=t' }:=I.un (Un.laid k hp (I.aO.fresh hp)) (I.aO.laid k hp new)
theorem Inv.write{x e:Addr}{o:HO}{t':Nat}(I:Inv X pins σ H s)(mu:zN (H x))(he:e=x\/H e=some (.own x))(k:∀b u,b≠e->s.heap.get? b=some u->h'.get? b=some u)(xh:∃u,h'.get? e=some u)
  (new:eG X.prog X.w (upd H x o) h' x o):Inv X pins σ (upd H x o) { s with heap:=h',toks:=t' }:=I.un (Un.write mu he k xh) (I.aO.write mu he k xh new)
theorem Inv.pS{Ic:List (Addr×Obj)}(I:Inv X pins σ H s)(h:∀p∈Ic,s.heap.get? p.1=some p.2/\H p.1=none/\p.1≠X.env.locals/\p.1∉X.fs/\∀v,p.2.data≠.cell v):Inv X Ic σ H s :=
 ⟨I.ok,I.os,I.bare,I.base,I.loc,I.cell,I.free,I.n8,λp hp=>(fB.mp hp).elim (λz=>I.pin p (uI _ z)) (h p),I.aO,I.len⟩
theorem Uy{N:List Str}(hN:N.Nodup){x:Str}(a:N[i]? = some x)(b:N[j]? = some x):i=j:=by
 obtain⟨h1,e1⟩:=iI.mp a;obtain⟨h2,e2⟩:=iI.mp b;exact(List.getElem_inj hN).mp (e1.trans e2.symm)
theorem Uz{M:Model}{x:Str}{v:V}{Q:Unit->Shared->Prop}(I:Inv X pins σ H s)(hN:X.N.Nodup)(hi:X.N[i]? = some x)(hx:Loc X.env.scope x)(r:RelV v u)
  (h:∀s',Inv X pins (σ.set i (some v)) H s'->(∃a,Heap.SameBut a s.heap s'.heap/\(a=X.env.locals\/X.env.cells.lookup x=some a))->Q () s') (hf:X.fn x=true\/X.env.scope.names.lookup x=some .local:=by first | exact .inl rfl | exact .inr rfl | assumption):wpAny M A (storeName X.env x u) Q E s:=by
 obtain⟨m,hn,hl⟩:=id I.loc;have acQ:(X.env.scope.kind == .class || (X.env.scope.kind == .module && X.env.locals != X.env.globals))=false:=by rw[I.ok.kind];rfl
 have UA:i<σ.length:=by rw[I.len];exact(iI.mp hi).1
 have uW:=I.uW;have tracked:∀ {a:Addr} {h':Heap},(∃o,s.heap.get? a=some o/\H a=none)->Heap.SameBut a s.heap h'->d8 X.prog X.w H h':=λ{a h'} ha hs b ob e=>by
  obtain⟨_,_,UB⟩:=ha;refine(I.aO b ob e).pQ (λc w' hc q=>(hs.2 c ?_).trans q) (λ_ q=>q) λ_ _ q=>q;rintro rfl;rcases hc with rfl | hc
  ·rw[UB] at e;cases e
  ·rw[UB] at hc;cases hc
 rcases hx with hk | hk
 ·refine wpAny_storeName_local hk hn (λh' UC hs=>?_) acQ;obtain⟨oL,_,_,hoL,_⟩:=id hn;refine h _ ⟨I.ok,I.os,I.bare,⟨λb o e n hb hx=>?_,λb o e n hb hx=>?_,I.base.free,λb o e hx=>?_,I.base.sV,I.base.pR,I.base.qI⟩,⟨_,UC,λj y v' e1 e2 e3=>?_⟩,λy c e=>?_,I.free,I.n8,λp hp=>?_,tracked ⟨oL,hoL,I.free⟩ hs,↑I.len⟩ ⟨_,hs,.inl rfl⟩
  ·exact(hs.2 b (dj (iw (cR e) I.ok.above))).trans (I.base.keep b o e n hb hx)
  ·obtain⟨sl,e1⟩:=I.base.slot b o e n hb hx;exact⟨sl,(hs.2 b (dj (iw (cR e) I.ok.above))).trans e1⟩
  ·obtain⟨o',e1⟩:=I.base.there b o e hx;exact⟨o',(hs.2 b (dj (iw (cR e) I.ok.above))).trans e1⟩
  ·by_cases hj:j=i
   ·subst hj;rw[hi] at e1;cases e1;rw[sJ UA] at e2;cases e2;exact⟨u,r,.inl ⟨hk,by simp⟩⟩
   ·rw[zm (fW hj)] at e2;obtain⟨u',r',q⟩:=hl j y v' e1 e2 e3;refine⟨u',r',?_⟩;rcases q with⟨k,e⟩ | ⟨k,c,e,z⟩
    ·refine .inl ⟨k,?_⟩;have:y≠x:=λe=>hj (Uy hN e1 (e▸hi));simp[this,e]
    ·exact .inr ⟨k,c,e,z.sameBut hs (uW y c e)⟩
  ·obtain⟨w',z⟩:=I.cell y c e;exact⟨w',z.sameBut hs (uW y c e)⟩
  ·obtain⟨e,n,ne,nf,d⟩:=I.pin p hp;exact⟨(hs.2 p.1 ne).trans e,n,ne,nf,d⟩
 ·have Ie:X.fn x=true:=by
   rcases hf with z | z
   ·exact z
   ·rw[z] at hk;cases hk
  obtain⟨c,hc⟩:=I.ok.has x (.inl hk);obtain⟨w',z⟩:=I.cell x c hc;refine wpAny_storeName_cell I.ok.kind hk hc z (λh' Ig hs=>?_);obtain⟨oc,UD,acR⟩:=id z;refine h { s with heap:=h' } ⟨I.ok,I.os,I.bare,⟨λb o e n hb hx=>?_,λb o e n hb hx=>?_,I.base.free,λb o e hx=>?_,I.base.sV,I.base.pR,I.base.qI⟩,⟨m,hn.sameBut hs (fW (uW x c hc)),λj y v' e1 e2 e3=>?_⟩,λy c' e=>?_,I.free,I.n8,λp hp=>?_,tracked ⟨oc,UD,I.n8 x c hc⟩ hs,↑I.len⟩ ⟨c,hs,.inr hc⟩
  ·exact(hs.2 b (dj (iw (cR e) (I.ok.xj x c Ie hc)))).trans (I.base.keep b o e n hb hx)
  ·obtain⟨sl,e1⟩:=I.base.slot b o e n hb hx;exact⟨sl,(hs.2 b (dj (iw (cR e) (I.ok.xj x c Ie hc)))).trans e1⟩
  ·obtain⟨o',e1⟩:=I.base.there b o e hx;exact⟨o',(hs.2 b (dj (iw (cR e) (I.ok.xj x c Ie hc)))).trans e1⟩
  ·by_cases hj:j=i
   ·subst hj;rw[hi] at e1;cases e1;rw[sJ UA] at e2;cases e2;exact⟨u,r,.inr ⟨.inl hk,c,hc,Ig⟩⟩
   ·rw[zm (fW hj)] at e2;obtain⟨u',r',q⟩:=hl j y v' e1 e2 e3;refine⟨u',r',?_⟩;rcases q with q | ⟨k,c',e,z'⟩
    ·exact .inl q
    ·refine .inr ⟨k,c',e,z'.sameBut hs ?_⟩;rintro rfl;exact hj (Uy hN e1 (I.ok.inj _ _ _ e hc▸hi))
  ·by_cases Dh:c' = c
   ·subst Dh;exact⟨_,Ig⟩
   ·obtain⟨w2,z2⟩:=I.cell y c' e;exact⟨w2,z2.sameBut hs Dh⟩
  ·obtain⟨e,n,ne,nf,d⟩:=I.pin p hp;refine⟨(hs.2 p.1 ?_).trans e,n,ne,nf,d⟩;intro q;rw[q,UD] at e;have q':oc=p.2:=eg e;exact d w' (by rw[← q'];exact acR)
theorem UE{M:Model}{x:Str}{v:V}{Q:Unit->Shared->Prop}(I:Inv X pins σ H s)(hN:X.N.Nodup)(hi:X.N[i]? = some x)(hx:Loc X.env.scope x)(r:RelV v u)
  (h:∀s',Inv X pins (σ.set i (some v)) H s'->Q () s') (hf:X.fn x=true\/X.env.scope.names.lookup x=some .local:=by first | exact .inl rfl | exact .inr rfl | assumption):wpAny M A (storeName X.env x u) Q E s :=
 Uz I hN hi hx r (λs' I' _=>h s' I') hf
theorem Inv.UG(I:Inv X pins σ H s)(ho:s'.os=s.os)(u:Un (iX X.stack) ch H H' s.heap s'.heap)(aO:d8 X.prog X.w H' s'.heap)(hg:AllBare s'.gens)
  (n_:∀b∈ch,(b∈X.ex\/X.eX.heap.objs.size<=b)/\b≠X.env.locals/\(∀x c,X.env.cells.lookup x=some c->c≠b)/\∀p∈X.pn++pins,p.1≠b):Inv X pins σ H' s':=by
 obtain⟨h',g',d',t',o'⟩:=s';have e:o' = s.os:=ho;subst e;exact I.call (g':=g') (t':=t') (d':=d') u aO hg n_
end
noncomputable abbrev XK:=Value->Option Addr->Hp->Prop
noncomputable abbrev St:=List (Option V)
noncomputable abbrev VK:=V->Hp->Prop
noncomputable abbrev TE:=St->Hp->VK->Prop
noncomputable abbrev TT:=St->Hp->(Bool->Hp->Prop)->Prop
noncomputable abbrev TA:=St->Hp->(List V->Hp->Prop)->Prop
structure Ends where
 nx:St->Hp->Prop
 rt:VK
 bk:St->Hp->Prop:=λ_ _=>False
 ct:St->Hp->Prop:=λ_ _=>False
noncomputable abbrev TS:=Ends->St->Hp->Prop
def EP(X:Cx)(pins:List (Addr×Obj))(σ:St)(Q:VK)(u:Value)(s':Shared):Prop:=∃v H',Inv X pins σ H' s'/\RelV v u/\Q v H'
def TP(X:Cx)(pins:List (Addr×Obj))(σ:St)(Q:Bool->Hp->Prop)(b:Bool)(s':Shared):Prop:=∃H',Inv X pins σ H' s'/\Q b H'
def AP(X:Cx)(pins:List (Addr×Obj))(σ:St)(Q:List V->Hp->Prop)(us:List Value)(s':Shared):Prop:=∃vs H',Inv X pins σ H' s'/\Vals vs us/\Q vs H'
def SP(X:Cx)(pins:List (Addr×Obj))(D:Ends)(f:Flow)(s':Shared):Prop :=
 match f with
 | .next=>∃bV H',Inv X pins bV H' s'/\D.nx bV H'
 | .brk=>∃bV H',Inv X pins bV H' s'/\D.bk bV H'
 | .cont=>∃bV H',Inv X pins bV H' s'/\D.ct bV H'
 | .ret u=>∃v bV H',Inv X pins bV H' s'/\RelV v u/\D.rt v H'
def PE(X:Cx)(e:Expr)(t:TE):Prop :=
 ∀(pins:List (Addr×Obj)) (s:Shared) (σ:St) (H:Hp) (Q:VK),Inv X pins σ H s->t σ H Q->wpAny (model X.prog X.w) X.A (eval e X.env) (EP X pins σ Q) X.xe s
def PT(X:Cx)(e:Expr)(t:TT):Prop :=
 ∀(pins:List (Addr×Obj)) (s:Shared) (σ:St) (H:Hp) (Q:Bool->Hp->Prop),Inv X pins σ H s->t σ H Q->wpAny (model X.prog X.w) X.A (isTrue e X.env (eval e X.env)) (TP X pins σ Q) X.xe s
def PW(X:Cx)(e:Expr)(t:TT):Prop :=
 ∀(whole:Sem Value) (pins:List (Addr×Obj)) (s:Shared) (σ:St) (H:Hp) (Q:Bool->Hp->Prop),Inv X pins σ H s->t σ H Q->wpAny (model X.prog X.w) X.A (isTrue e X.env whole) (TP X pins σ Q) X.xe s
theorem PW.pt{X:Cx}{t:TT}(h:PW X e t):PT X e t:=h _
def PA(X:Cx)(es:List Expr)(t:TA):Prop :=
 ∀(pos:Pos) (pins:List (Addr×Obj)) (s:Shared) (σ:St) (H:Hp) (Q:List V->Hp->Prop),Inv X pins σ H s->t σ H Q->wpAny (model X.prog X.w) X.A (spliced (backTo pos (starEach es X.env))) (AP X pins σ Q) X.xe s
def PS(X:Cx)(st:Stmt)(t:TS):Prop :=
 ∀(pins:List (Addr×Obj)) (s:Shared) (σ:St) (H:Hp) (D:Ends),Inv X pins σ H s->t D σ H->wpAny (model X.prog X.w) X.A (exec st X.env) (SP X pins D) X.xe s
def iZ(X:Cx)(st:List Stmt)(t:TS):Prop :=
 ∀(pins:List (Addr×Obj)) (s:Shared) (σ:St) (H:Hp) (D:Ends),Inv X pins σ H s->t D σ H->wpAny (model X.prog X.w) X.A (execs st X.env) (SP X pins D) X.xe s
theorem aW{α:Type}{t:Sem α}{Q Q':α->Shared->Prop}{M:Model}(h:wpAny M A t Q E s)(hQ:∀a s,Q a s->Q' a s):wpAny M A t Q' E s:=jq h hQ λ_ _ x=>x
section
variable{X:Cx}
theorem bin{a b:Expr}{ta tb:TE}(ha:PE X a ta)(hb:PE X b tb){σ:St}{H:Hp}{R:V->V->Hp->Prop}(I:Inv X pins σ H s)(h:ta σ H λx H1=>tb σ H1 λy H2=>R x y H2)
  {α:Type} {Q:α->Shared->Prop} {f:Value->Value->Sem α}
  (hf:∀v u s2 x y H2,Inv X pins σ H2 s2->RelV x v->RelV y u->R x y H2->wpAny (model X.prog X.w) X.A (f v u) Q X.xe s2) :
  wpAny (model X.prog X.w) X.A (eval a X.env) (λv bC=>wpAny (model X.prog X.w) X.A (eval b X.env) (λu jM=>wpAny (model X.prog X.w) X.A (f v u) Q X.xe jM) X.xe bC) X.xe s:=by
 refine aW (ha pins s σ H _ I h) λv s1 bO=>?_;obtain⟨x,H1,I1,r1,q1⟩:=bO;refine aW (hb pins s1 σ H1 _ I1 q1) λu s2 bO=>?_;obtain⟨y,H2,I2,r2,q2⟩:=bO;exact hf v u s2 x y H2 I2 r1 r2 q2
def Di(i:Nat):TE:=λσ H Q=>∃v,σ[i]? = some (some v)/\Q v H
def tC(v:V):TE:=λ_ H Q=>Q v H
theorem UH{x:Str}(hN:X.N[i]? = some x)(hv:Df X.env.scope x)(hd:(x == ("__debug__" : Str))=false:=by decide)(fE:(x == ("__classdict__" : Str))=false:=by decide):PE X (.Name x pos) (Di i):=by
 intro pins s σ H Q I h;obtain⟨v,e,h⟩:=h;obtain⟨m,hn,hl⟩:=I.loc;obtain⟨u,r,l⟩:=hl i x v hN e hv;have fin:EP X pins σ Q u s:=⟨v,H,I,r,h⟩;rcases l with⟨hk,hm⟩ | ⟨hk,c,hc,UI⟩
 ·exact wpAny_Name (wpAny_loadName_local I.ok.kind hk hn hm fin) hd
 ·rcases hk with hk | hk
  ·exact wpAny_Name (wpAny_loadName_cell I.ok.kind hk hc UI fin) hd
  ·exact wpAny_Name (wpAny_loadName_free I.ok.kind hk hc UI fin fE) hd
theorem ao{i j pos}:PE X (.Constant (.int i) j pos) (tC (.int i)):=λ_ _ _ H _ I h=>wpAny_Constant_int ⟨.int i,H,I.tok _,⟨_,rfl⟩,h⟩
theorem eK{b j pos}:PE X (.Constant (.bool b) j pos) (tC (.bl b)):=λ_ _ _ H _ I h=>Constant_bool ⟨.bl b,H,I,rfl,h⟩
theorem i6{j pos}:PE X (.Constant .none j pos) (tC .aY):=λ_ _ _ H _ I h=>Constant_none ⟨.aY,H,I,rfl,h⟩
theorem i8{x j pos}:PE X (.Constant (.str x) j pos) (tC (.str x)):=λ_ _ _ H _ I h=>Calls.Constant_str ⟨.str x,H,I.tok _,⟨_,rfl⟩,h⟩
def Gl(X:Cx)(x:Str):Prop:=X.env.kindOf x=some .globalImplicit
theorem Dj{σ:St}{H:Hp}{x:Str}(I:Inv X pins σ H s)(hg:Gl X x)(hm:X.mg x=some u)(h:Q u s)
  (hd:(x == ("__debug__" : Str))=false:=by decide):wpAny (model X.prog X.w) X.A (eval (.Name x pos) X.env) Q E s :=
 Calls.Name_function_global I.ok.kind hg (Calls.loadGlobal_global (by rw[I.ok.glob];exact I.mod.glob.keeps I.bk) hm h) hd
theorem pT{σ:St}{H:Hp}{x:Str}(I:Inv X pins σ H s)(hg:Gl X x)(hm:X.mg x=none)(hv:bootBuiltins x=some u)(h:Q u s)
  (hn:x≠"__name__" := by decide) (hd:(x == ("__debug__" : Str))=false:=by decide):wpAny (model X.prog X.w) X.A (eval (.Name x pos) X.env) Q E s:=by
 obtain⟨mb,h1,h2⟩:=I.mod.blt;exact Calls.Name_function_global I.ok.kind hg (Calls.loadGlobal_builtin (by rw[I.ok.glob];exact I.mod.glob.keeps I.bk) hm (by rw[I.ok.blt];exact h1.keeps I.bk) ((h2 x hn).trans hv) h) hd
theorem kj{x:Str}{v:V}(hg:Gl X x)(hm:X.mg x=some u)(r:RelV v u)(hd:(x == ("__debug__" : Str))=false:=by decide):PE X (.Name x pos) (tC v) :=
 λ_ _ _ H _ I h=>Dj I hg hm ⟨v,H,I,r,h⟩ hd
theorem uX{x:Str}{v:V}(hg:Gl X x)(hm:X.mg x=none)(hv:bootBuiltins x=some u)(r:RelV v u)(hn:x≠"__name__" := by decide)(hd:(x == ("__debug__" : Str))=false:=by decide):PE X (.Name x pos) (tC v) :=
 λ_ _ _ H _ I h=>pT I hg hm hv ⟨v,H,I,r,h⟩ hn hd
variable{a b:Expr}{ta tb:TE}
def PC(X:Cx)(op:CmpOp)(a b:Expr)(t:TE):Prop :=
 ∀(pins:List (Addr×Obj)) (s:Shared) (σ:St) (H:Hp) (Q:VK),Inv X pins σ H s->t σ H Q->
  wpAny (model X.prog X.w) X.A (eval a X.env) (λv bC=>wpAny (model X.prog X.w) X.A (eval b X.env) (λu jM=>wpAny (model X.prog X.w) X.A (compareOp op v u) (EP X pins σ Q) X.xe jM) X.xe bC) X.xe s
theorem acS(b:Expr){op:CmpOp}(h:op≠.In)(h2:op≠.NotIn):behindInMarks op b=false:=by
 have e1:(op == CmpOp.In)=false:=by cases op <;> first | rfl | exact absurd rfl h
 have e2:(op == CmpOp.NotIn)=false:=by cases op <;> first | rfl | exact absurd rfl h2
 cases b <;> simp[behindInMarks,e1,e2]
def tB(t:TE):TT:=λσ H Q=>t σ H λx H1=>∃c,x = .bl c/\Q c H1
theorem Ih{op:CmpOp}{t:TE}(h:PC X op a b t)(h1:behindInMarks op b=false:=by first | exact acS _ ⋯ ⋯ | rfl):PT X (.Compare a [op] [b] pos) (tB t):=by
 intro pins s σ H Q I hw;refine HW (aW (h pins s σ H _ I hw) λv s1 h1=>aW h1 λu s2 h2=>aW h2 λc s3 bO=>?_) h1;obtain⟨x,H1,I1,r1,q1⟩:=bO;obtain⟨d,rfl,q⟩:=q1;cases r1;exact pL ⟨H1,I1,q⟩
theorem gh{t:TE}(h:PE X e t)(he:∀whole,isTrue e X.env whole=(do let v ← whole;standAt e.pos;holding [v] (truthy v)):=by intro _;rfl):PT X e (tB t):=by
 intro pins s σ H Q I hw;refine isTrue_plain (aW (h pins s σ H _ I hw) λv s1 bO=>?_) (he _);obtain⟨x,H1,I1,r1,q1⟩:=bO;obtain⟨d,rfl,q⟩:=q1;cases r1;exact pL ⟨H1,I1,q⟩
variable{tA Dk:TT}{rest:List Expr}
def Ii(t u:TT):TT:=λσ H Q=>t σ H λc H1=>if c=true then u σ H1 Q else Q false H1
def xr(t u:TT):TT:=λσ H Q=>t σ H λc H1=>if c=true then Q true H1 else u σ H1 Q
def Ij(t:TT):TT:=λσ H Q=>t σ H λc H1=>Q (!c) H1
theorem xu(ha:PT X a tA):PW X (.BoolOp .And [a] pos) tA:=by
 intro wh pins s σ H Q I h;refine isTrue_and (aW (ha pins s σ H Q I h) λc s1 e=>?_);cases c with
 | true=>exact isTrue_and_nil e
 | false=>exact e
theorem iL(ha:PT X a tA):PW X (.BoolOp .Or [a] pos) tA:=by
 intro wh pins s σ H Q I h;refine isTrue_or (aW (ha pins s σ H Q I h) λc s1 e=>?_);cases c with
 | false=>exact isTrue_or_nil e
 | true=>exact e
theorem uY(ha:PT X a tA)(hb:PW X (.BoolOp .And (b::rest) pos) Dk):PW X (.BoolOp .And (a::b::rest) pos) (Ii tA Dk):=by
 intro wh pins s σ H Q I h;refine isTrue_and (aW (ha pins s σ H _ I h) λc s1 ⟨H1,I1,q1⟩=>?_);cases c with
 | true=>exact hb wh pins s1 σ H1 Q I1 q1
 | false=>exact⟨H1,I1,q1⟩
theorem gB(ha:PT X a tA)(hb:PW X (.BoolOp .Or (b::rest) pos) Dk):PW X (.BoolOp .Or (a::b::rest) pos) (xr tA Dk):=by
 intro wh pins s σ H Q I h;refine isTrue_or (aW (ha pins s σ H _ I h) λc s1 ⟨H1,I1,q1⟩=>?_);cases c with
 | true=>exact⟨H1,I1,q1⟩
 | false=>exact hb wh pins s1 σ H1 Q I1 q1
theorem iB(ha:PT X a tA):PT X (.UnaryOp .Not a pos) (Ij tA):=by
 intro pins s σ H Q I h;exact isTrue_not (ha pins s σ H (λc H1=>Q (!c) H1) I h)
def Ik(ta tb:TE):TE:=λσ H Q=>ta σ H λx H1=>∃c,x = .bl c/\if c=true then tb σ H1 Q else Q (.bl false) H1
def Il(ta tb:TE):TE:=λσ H Q=>ta σ H λx H1=>∃c,x = .bl c/\if c=true then Q (.bl true) H1 else tb σ H1 Q
def Im(ta:TE):TE:=λσ H Q=>ta σ H λx H1=>∃c,x = .bl c/\Q (.bl (!c)) H1
theorem oh{op}{t:TE}(h:PE X a t):PE X (.BoolOp op [a] pos) t:=λpins s σ H Q I hw=>BoolOp_one (h pins s σ H Q I hw)
theorem sX(ha:PE X a ta)(hb:PE X (.BoolOp .And (b::rest) pos) tb):PE X (.BoolOp .And (a::b::rest) pos) (Ik ta tb):=by
 intro pins s σ H Q I h;refine BoolOp_and (aW (ha pins s σ H _ I h) λv s1 bO=>?_);obtain⟨x,H1,I1,r1,q1⟩:=bO;obtain⟨c,rfl,q1⟩:=q1;cases r1;refine pL ?_;cases c with
 | true=>exact hb pins s1 σ H1 Q I1 q1
 | false=>exact⟨.bl false,H1,I1,rfl,q1⟩
theorem Dm(ha:PE X a ta)(hb:PE X (.BoolOp .Or (b::rest) pos) tb):PE X (.BoolOp .Or (a::b::rest) pos) (Il ta tb):=by
 intro pins s σ H Q I h;refine BoolOp_or (aW (ha pins s σ H _ I h) λv s1 bO=>?_);obtain⟨x,H1,I1,r1,q1⟩:=bO;obtain⟨c,rfl,q1⟩:=q1;cases r1;refine pL ?_;cases c with
 | false=>exact hb pins s1 σ H1 Q I1 q1
 | true=>exact⟨.bl true,H1,I1,rfl,q1⟩
theorem acT(ha:PE X a ta):PE X (.UnaryOp .Not a pos) (Im ta):=by
 intro pins s σ H Q I h;refine UnaryOp_ (aW (ha pins s σ H _ I h) λv s1 bO=>?_);obtain⟨x,H1,I1,r1,q1⟩:=bO;obtain⟨c,rfl,q1⟩:=q1;cases r1;exact not_of (pL ⟨.bl (!c),H1,I1,rfl,q1⟩)
def Io(t:TT)(ta tb:TE):TE:=λσ H Q=>t σ H λc H1=>if c=true then ta σ H1 Q else tb σ H1 Q
theorem acU(hc:PT X c tA)(ha:PE X a ta)(hb:PE X b tb):PE X (.IfExp c a b pos) (Io tA ta tb):=by
 intro pins s σ H Q I h;refine wpAny_IfExp (aW (hc pins s σ H _ I h) λd s1 ⟨H1,I1,q1⟩=>?_);cases d with
 | true=>exact ha pins s1 σ H1 Q I1 q1
 | false=>exact hb pins s1 σ H1 Q I1 q1
end
def aA(K:W.Frag)(H:Hp)(a:Addr)(xs:List V):Prop :=
 Rd H a (.lst xs)\/
  ∃(o:Obj) (aC:Array Value) (n:Nat),K.lookup a=some o/\o.cls = .type "list"/\o.dict=none/\o.data = .seq aC n/\aC.size<=sizeLine/\Vals xs aC.toList
def aK(K:W.Frag)(H:Hp)(a:Addr)(xs:List V):Prop :=
 Rd H a (.tup xs)\/
  ∃(o:Obj) (aC:Array Value) (n:Nat),K.lookup a=some o/\o.cls = .type "tuple"/\o.data = .seq aC n/\aC.size<=sizeLine/\Vals xs aC.toList
noncomputable def acV:Value->Option V
 | .none=>some .aY
 | .bool b=>some (.bl b)
 | .int i _=>some (.int i)
 | .str x _=>some (.str x)
 | .bytes b _=>some (.jr b)
 | .float b _=>some (.pO b)
 | .ref a=>some (.ref a)
 | .type n=>some (.ty n)
 | _=>none
theorem RelV.abs{x:V}(r:RelV x u):acV u=some x:=by
 cases x with
 | aY=>cases r;rfl
 | bl _=>cases r;rfl
 | int _=>obtain⟨t,rfl⟩:=r;rfl
 | str _=>obtain⟨t,rfl⟩:=r;rfl
 | jr _=>obtain⟨t,rfl⟩:=r;rfl
 | pO _=>obtain⟨t,rfl⟩:=r;rfl
 | ref _=>cases r;rfl
 | ty _=>cases r;rfl
theorem RelV.inj{x y:V}(r:RelV x u)(q:RelV y u):x=y:=eg (r.abs.symm.trans q.abs)
theorem Vals.inj{xs ys:List V}{us:List Value}(h:Vals xs us):Vals ys us->xs=ys:=by
 induction h generalizing ys with
 | nil=>intro g;cases g;rfl
 | cons r t ih=>intro g;cases g with
  | cons r' t'=>rw[r.inj r',ih t']
section
variable{X:Cx}{σ:St}{H:Hp}{xs ys:List V}
theorem aA.of(h:H a=some (.lst xs)):aA K H a xs:=.inl (.inl h)
theorem aK.of(h:H a=some (.tup xs)):aK K H a xs:=.inl (.inl h)
theorem Inv.list(I:Inv X pins σ H s)(h:aA X.K H a xs):∃aC:List Value,Vals xs aC/\PlainL s.heap a aC.toArray/\xs.length<=sizeLine:=by
 rcases h with h | ⟨o,aC,n,hk,hc,hd,hs,hz,r⟩
 ·obtain⟨z,aC,n,r,e⟩:=h.ok I.aO;exact⟨aC,r,⟨_,n,e,rfl,rfl,rfl⟩,z⟩
 ·refine⟨aC.toList,r,⟨o,n,I.fD a o hk,hc,hd,↑hs⟩,?_⟩
  have e:=r.length;simp only[Array.length_toList] at e;lia
theorem Inv.tuple(I:Inv X pins σ H s)(h:aK X.K H a xs):∃aC:List Value,Vals xs aC/\IsTup s.heap a aC.toArray/\xs.length<=sizeLine:=by
 rcases h with h | ⟨o,aC,n,hk,hc,hs,hz,r⟩
 ·obtain⟨z,aC,r,p⟩:=h.ok I.aO;exact⟨aC,r,p,z⟩
 ·refine⟨aC.toList,r,⟨o,I.fD a o hk,hc,n,↑hs⟩,?_⟩
  have e:=r.length;simp only[Array.length_toList] at e;lia
theorem Inv.UJ(I:Inv X pins σ H s)(h:aA X.K H a xs)(h':aA X.K H a ys):xs=ys:=by
 obtain⟨aC,r,⟨o,n,e,_,_,d⟩,_⟩:=I.list h;obtain⟨its',r',⟨o',n',e',_,_,d'⟩,_⟩:=I.list h';rw[e] at e';cases e';rw[d] at d';injection d' with d1 _;have:aC=its':=by simpa using fX Array.toList d1
 subst this;exact r.inj r'
theorem Inv.acW(I:Inv X pins σ H s)(h:aK X.K H a xs)(h':aK X.K H a ys):xs=ys:=by
 obtain⟨aC,r,⟨o,e,_,n,d⟩,_⟩:=I.tuple h;obtain⟨its',r',⟨o',e',_,n',d'⟩,_⟩:=I.tuple h';rw[e] at e';cases e';rw[d] at d';injection d' with d1 _;have:aC=its':=by simpa using fX Array.toList d1
 subst this;exact r.inj r'
end
noncomputable abbrev Cx.oq(X:Cx)(E:Value->Shared->Prop):Cx:={ X with xe:=E }
noncomputable abbrev Cx.sY(X:Cx):Cx:=X.oq λ_ _=>False
theorem Cx.Ok.oq{X:Cx}(ok:X.Ok)(E:Value->Shared->Prop):(X.oq E).Ok :=
 ⟨ok.mod,ok.kind,ok.glob,ok.blt,ok.above,ok.inj,ok.has,ok.xj,ok.hd,ok.frames,ok.zO,ok.zP,ok.bs,ok.jt,ok.xm,ok.xq,ok.lQ,ok.sW⟩
theorem Cx.Ok.sZ{X:Cx}(ok:(X.oq E).Ok):X.Ok :=
 ⟨ok.mod,ok.kind,ok.glob,ok.blt,ok.above,ok.inj,ok.has,ok.xj,ok.hd,ok.frames,ok.zO,ok.zP,ok.bs,ok.jt,ok.xm,ok.xq,ok.lQ,ok.sW⟩
section
variable{X:Cx}{σ:St}{H:Hp}
theorem Inv.oq(I:Inv X pins σ H s)(E:Value->Shared->Prop):Inv (X.oq E) pins σ H s:=⟨I.ok.oq E,I.os,I.bare,I.base,I.loc,I.cell,I.free,I.n8,I.pin,I.aO,I.len⟩
theorem Inv.sZ(I:Inv (X.oq E) pins σ H s):Inv X pins σ H s:=⟨I.ok.sZ,I.os,I.bare,I.base,I.loc,I.cell,I.free,I.n8,I.pin,I.aO,I.len⟩
theorem SP.sZ{D:Ends}{f:Flow}{s':Shared}(h:SP (X.oq E) pins D f s'):SP X pins D f s':=by
 cases f with
 | next=>obtain⟨bV,H',I,q⟩:=h;exact⟨bV,H',I.sZ,q⟩
 | brk=>obtain⟨bV,H',I,q⟩:=h;exact⟨bV,H',I.sZ,q⟩
 | cont=>obtain⟨bV,H',I,q⟩:=h;exact⟨bV,H',I.sZ,q⟩
 | ret u=>obtain⟨v,bV,H',I,r,q⟩:=h;exact⟨v,bV,H',I.sZ,r,q⟩
theorem iZ.sY{st:List Stmt}{t:TS}(h:iZ X.sY st t):iZ X st t:=λpins s σ H D I hw =>
 jq (h pins s σ H D (I.oq _) hw) (λ_ _ q=>q.sZ) λ_ _ z=>False.elim z
end
section
variable{X:Cx}{st:Stmt}{rest:List Stmt}{t u:TS}{te:TE}
def Ip:TS:=λD σ H=>D.nx σ H
def Dn(t u:TS):TS:=λD σ H=>t { D with nx:=u D } σ H
theorem bW:iZ X [] Ip:=λ_ _ σ H _ I h=>zJ ⟨σ,H,I,h⟩
theorem aD(h1:PS X st t)(h2:iZ X rest u):iZ X (st::rest) (Dn t u):=by
 intro pins s σ H D I h;refine HV (aW (h1 pins s σ H { D with nx:=u D } I h) λf s1 q=>?_);cases f with
 | next =>
  obtain⟨bV,H',I',q⟩:=q;exact h2 pins s1 bV H' D I' q
 | ret v=>exact q
 | brk=>exact q
 | cont=>exact q
theorem aL(h1:PS X st t):iZ X [st] t:=by
 intro pins s σ H D I h;refine HV (aW (h1 pins s σ H D I h) λf s1 q=>?_);cases f with
 | next=>exact zJ q
 | ret v=>exact q
 | brk=>exact q
 | cont=>exact q
theorem Inv.quiet{σ:St}{H:Hp}(I:Inv X pins σ H s):interactive X.env=false:=by simp[interactive,I.ok.kind]
def Iq(te:TE):TS:=λD σ H=>te σ H λ_ H1=>D.nx σ H1
theorem e_(he:PE X e te)(hs:swapsWith e none pos.line X.env=pure false:=by rfl):PS X (.Expr e pos) (Iq te):=by
 intro pins s σ H D I h;exact wpAny_Expr_any (aW (he pins s σ H _ I h) λv s1 ⟨x,H1,I1,r1,q1⟩=>⟨σ,H1,I1,q1⟩) I.quiet hs
def Ir(te:TE):TS:=λD σ H=>te σ H D.rt
theorem br(he:PE X e te):PS X (.Return (some e) pos) (Ir te):=by
 intro pins s σ H D I h;exact wpAny_Return_some (aW (he pins s σ H _ I h) λv s1 ⟨x,H1,I1,r1,q1⟩=>⟨x,σ,H1,I1,r1,q1⟩)
def UK:TS:=λD _ H=>D.rt .aY H
def Iu(c:TT)(t u:TS):TS:=λD σ H=>c σ H λb H1=>if b=true then t D σ H1 else u D σ H1
theorem cF{a b:List Stmt}{tc:TT}(hc:PT X c tc)(ha:iZ X a t)(hb:iZ X b u):PS X (.If c a b pos) (Iu tc t u):=by
 intro pins s σ H D I h;refine wpAny_If (aW (hc pins s σ H _ I h) λd s1 ⟨H1,I1,q1⟩=>?_);cases d with
 | true=>exact ha pins s1 σ H1 D I1 q1
 | false=>exact hb pins s1 σ H1 D I1 q1
def Iv:TS:=λ_ _ _=>False
theorem iM{sts:List Stmt}:iZ X sts Iv:=λ_ _ _ _ _ _ h=>h.elim
end
noncomputable abbrev TG:=V->St->Hp->(St->Hp->Prop)->Prop
noncomputable abbrev pU:=List V->St->Hp->(St->Hp->Prop)->Prop
def PG(X:Cx)(target:Expr)(t:TG):Prop :=
 ∀(pins:List (Addr×Obj)) (s:Shared) (σ:St) (H:Hp) (v:V) (u:Value) (Q:St->Hp->Prop),Inv X pins σ H s->RelV v u->t v σ H Q->
  wpAny (model X.prog X.w) X.A (assign target X.env u) (λ_ s'=>∃bV H',Inv X pins bV H' s'/\Q bV H') X.xe s
def xw(X:Cx)(ts:List Expr)(t:pU):Prop :=
 ∀(pins:List (Addr×Obj)) (s:Shared) (σ:St) (H:Hp) (vs:List V) (us:List Value) (Q:St->Hp->Prop),Inv X pins σ H s->Vals vs us->t vs σ H Q->
  wpAny (model X.prog X.w) X.A (assignInOrder ((assignEach ts X.env).map (·.2)) us) (λ_ s'=>∃bV H',Inv X pins bV H' s'/\Q bV H') X.xe s
noncomputable abbrev Dp:=V->V->V->Hp->(Hp->Prop)->Prop
def UL(X:Cx)(t:Dp):Prop :=
 ∀(pins:List (Addr×Obj)) (s:Shared) (σ:St) (H:Hp) (o i v:V) (ov iv u:Value) (Q:Hp->Prop),Inv X pins σ H s->RelV o ov->RelV i iv->RelV v u->t o i v H Q->
  wpAny (model X.prog X.w) X.A (setItem ov iv u) (λ_ s'=>∃H',Inv X pins σ H' s'/\Q H') X.xe s
section
variable{X:Cx}
def qJ(i:Nat):TG:=λv σ H Q=>Q (σ.set i (some v)) H
theorem bA{x:Str}(hN:X.N.Nodup)(hi:X.N[i]? = some x)(hx:Loc X.env.scope x)(hf:X.fn x=true\/X.env.scope.names.lookup x=some .local:=by first | exact .inl rfl | exact .inr rfl | assumption):PG X (.Name x pos) (qJ i):=by
 intro pins s σ H v u Q I r h;exact wpAny_assign_Name (UE I hN hi hx r (λs' I'=>⟨_,H,I',h⟩) hf)
noncomputable def Dq:pU:=λvs σ H Q=>vs = []/\Q σ H
noncomputable def zT(t:TG)(u:pU):pU:=λvs σ H Q=>∃v r,vs=v::r/\t v σ H λbV H'=>u r bV H' Q
theorem kq:xw X [] Dq:=by
 intro pins s σ H vs us Q I r h;obtain⟨e,h⟩:=h;subst e;cases r;exact assignInOrder_nil ⟨σ,H,I,h⟩
theorem dX{t:TG}{u:pU}(h1:PG X e t)(h2:xw X es u)
  (hs:(assignEach (e::es) X.env).map (·.2)=assign e X.env::(assignEach es X.env).map (·.2):=by rfl):xw X (e::es) (zT t u):=by
 intro pins s σ H vs us Q I r h;obtain⟨v,vr,e1,h⟩:=h;subst e1;cases r with
 | cons r rr =>
  rw[hs];refine assignInOrder_cons (aW (h1 pins s σ H _ _ _ I r h) λ_ s1 bO=>?_);obtain⟨gX,H1,I1,q1⟩:=bO;exact h2 pins s1 gX H1 _ _ Q I1 rr q1
def zW(K:W.Frag)(n:Nat)(t:pU):TG:=λv σ H Q=>∃a xs,v = .ref a/\aK K H a xs/\xs.length=n/\t xs σ H Q
theorem kr{k:Nat}{t:pU}(hc:X.calm=true)(h:xw X es t)
  (hn:(assignEach es X.env).length=n:=by rfl) (iC:(assignEach es X.env).findIdx? (·.1)=none:=by rfl):PG X (.Tuple es k pos) (zW X.K n t):=by
 intro pins s σ H v u Q I r hw;obtain⟨a,xs,e1,hq,hl,hw⟩:=hw;subst e1;cases r;obtain⟨aC,rv,ht,hz⟩:=I.tuple hq;refine assign_Tuple_tuple (I.ok.hd hc) ht (by simp[hn,← hl,rv.length]) iC λh' hx=>?_
 have I1:Inv X pins σ H { s with heap:=h' }:=I.kept (t':=s.toks) λb o e=>hx b o (dj (cR e)) e;exact h pins _ σ H xs _ Q I1 ↑rv hw
def Iw(to ti:TE)(t:Dp):TG:=λv σ H Q=>to σ H λo H1=>ti σ H1 λi H2=>t o i v H2 λH3=>Q σ H3
theorem Iz{o i:Expr}{to ti:TE}{t:Dp}(ho:PE X o to)(hi:PE X i ti)(hs:UL X t)
  (ha:∀v,assign (.Subscript o i pos) X.env v=(do
   let ov ← holding [v] (eval o X.env)
   let iv ← holding [v,ov] (eval i X.env)
   standAt pos
   holding [v,ov,iv] (setItem ov iv v)
   release [v,ov,iv] []):=by intro _;rfl):PG X (.Subscript o i pos) (Iw to ti t):=by
 intro pins s σ H v u Q I r h;rw[ha];refine aH (mJ (aW (ho pins s σ H _ I h) λov s1 bO=>?_));obtain⟨x,H1,I1,r1,q1⟩:=bO;refine aH (mJ (aW (hi pins s1 σ H1 _ I1 q1) λiv s2 bO=>?_));obtain⟨y,H2,I2,r2,q2⟩:=bO;refine aH (wpAny_standAt (aH (mJ (aW (hs pins s2 σ H2 x y v ov iv u _ I2 r1 r2 r q2) λ_ s3 ⟨H3,I3,q3⟩=>?_))));exact wpAny_release ⟨σ,H3,I3,q3⟩
def zX(te:TE)(g:TG):TS:=λD σ H=>te σ H λx H1=>g x σ H1 D.nx
theorem xx{te:TE}{g:TG}(he:PE X e te)(hg:PG X tg g)(hs:swapsWithSole [tg] e pos.line X.env=pure false:=by rfl)(hw:swappedStores [tg] e X.env=pure none:=by rfl)
  (h1:(assignEach [tg] X.env).map (·.2) = [assign tg X.env]:=by rfl):PS X (.Assign [tg] e pos) (zX te g):=by
 intro pins s σ H D I h;refine wpAny_Assign_stores (aW (he pins s σ H _ I h) λv s1 bO=>?_) hs hw;obtain⟨x,H1,I1,r1,q1⟩:=bO;rw[h1];exact aW (hg pins s1 σ H1 x v _ I1 r1 q1) λ_ s2 q=>q
theorem a_{x:Str}{te:TE}{pos':Pos}(hN:X.N.Nodup)(hi:X.N[i]? = some x)(hx:Loc X.env.scope x)(he:PE X e te)(hs:swapsWith e (some (.Name x pos')) pos.line X.env=pure false:=by rfl)(hf:X.fn x=true\/X.env.scope.names.lookup x=some .local:=by first | exact .inl rfl | exact .inr rfl | assumption) :
  PS X (.Assign [.Name x pos'] e pos) (zX te (qJ i)):=by
 intro pins s σ H D I h;refine wpAny_Assign_Name (aW (he pins s σ H _ I h) λv s1 bO=>?_) hs;obtain⟨y,H1,I1,r1,q1⟩:=bO;exact UE I1 hN hi hx r1 (λs2 I2=>⟨_,H1,I2,q1⟩) hf
end
section
variable{X:Cx}
end
structure It where
 go:Nat->Hp->Prop
 qK:Nat->Hp->V->Hp->Prop
 stop:Nat->Hp->Prop
def pW(X:Cx)(pins:List (Addr×Obj))(H:Hp)(b:Addr):Prop :=
 H b=none/\b≠X.env.locals/\b∉X.fs/\(b∈X.ex\/X.eX.heap.objs.size<=b)/\(∀x c,X.env.cells.lookup x=some c->c≠b)/\∀p∈X.pn++pins,p.1≠b
theorem Inv.uZ{X:Cx}{σ:St}{H H':Hp}(I:Inv X pins σ H s)(hb:s.heap.objs.size<=b)(hn:H' b=none):pW X pins H' b:=by
 refine⟨hn,pK (iw I.lt hb),I.zQ hb,.inr (cH I.sz hb),λx c e z=>?_,λp hp z=>?_⟩
 ·obtain⟨v,q⟩:=I.cell x c e;exact absurd (iw q.lt (by rw[z];exact hb)) (lO _)
 ·exact absurd (iw (cR (I.pin p hp).1) (by rw[z];exact hb)) (lO _)
structure Turn(P:Program)(w:World)(K:W.Frag)(tg:Expr)(J:It)(fp:_A)(it:Addr)(tn:Nat->Heap->Prop):Prop where
 mem:it∈fp
 obj:∀i h,tn i h->∀b∈fp,∃o,h.get? b=some o/\∀v,o.data≠.cell v
 keep:∀i h h',tn i h->(∀b∈fp,∀o,h.get? b=some o->h'.get? b=some o)->tn i h'
 item:∀(X:Cx),X.prog=P->X.w=w->X.K=K->X.calm=true->∀(i:Nat) (pins:List (Addr×Obj)) (s:Shared) (σ:St) (H:Hp) (E:Value->Shared->Prop),Inv X pins σ H s->(∀b∈fp,pW X pins H b)->tn i s.heap->J.go i H->
  wpAny (model P w) X.A (pyNext (.ref it)) (λr s1=>∃u,r=some u/\
   wpAny (model P w) X.A (letOwnedTupleGo tg (.ref it) u) (λ_ s2=>∃x H',Inv X pins σ H' s2/\RelV x u/\J.qK i H x H'/\tn (i+1) s2.heap/\∀b∈fp,H' b=none) E s1) E s
 done:∀(X:Cx),X.prog=P->X.w=w->X.K=K->X.calm=true->∀(i:Nat) (pins:List (Addr×Obj)) (s:Shared) (σ:St) (H:Hp) (E:Value->Shared->Prop),Inv X pins σ H s->(∀b∈fp,pW X pins H b)->tn i s.heap->J.stop i H->
  wpAny (model P w) X.A (pyNext (.ref it)) (λr s1=>r=none/\Inv X pins σ H s1) E s
 self:∀(A:Around) (i:Nat) (s:Shared) (Q:Value->Shared->Prop) (E:Value->Shared->Prop),tn i s.heap->Q (.ref it) s->wpAny (model P w) A (pyIter (.ref it)) Q E s
noncomputable abbrev TI:=St->Hp->(It->Hp->Prop)->Prop
def UM(X:Cx)(pins:List (Addr×Obj))(σ:St)(tg:Expr)(R:It->Hp->Prop)(Ds:Value)(s2:Shared):Prop :=
 ∃(it:Addr) (fp:_A) (tn:Nat->Heap->Prop) (J:It) (H':Hp),Ds = .ref it/\Inv X pins σ H' s2/\Turn X.prog X.w X.K tg J fp it tn/\tn 0 s2.heap/\(∀b∈fp,pW X pins H' b)/\R J H'
def PI(X:Cx)(tg iter:Expr)(wi:TI):Prop :=
 ∀(pins:List (Addr×Obj)) (s:Shared) (σ:St) (H:Hp) (R:It->Hp->Prop),Inv X pins σ H s->wi σ H R->
  wpAny (model X.prog X.w) X.A (eval iter X.env) (λv s1=>wpAny (model X.prog X.w) X.A (pyIter v) (UM X pins σ tg R) X.xe s1) X.xe s
theorem IA{M:Model}{it:Addr}{o:Obj}{n:String}{vs:Array Value}{Q:Unit->Shared->Prop}(ho:s.heap.get? it=some o)(hc:o.cls = .type n)(hd:o.data = .fields vs)
  (hn:["enumerate", "zip", "dict_itemiterator", "dict_reverseitemiterator", "odict_iterator", "itertools.zip_longest", "itertools.pairwise"].contains n=false) (hQ:Q () s):wpAny M A (letOwnedTupleGo tg (.ref it) u) Q E s:=by
 unfold letOwnedTupleGo;cases tg <;> first
  | exact aP hQ
  | (cases u <;> first
    | exact aP hQ
    | (refine aH (wpAny_load ho ?_)
       rw[hc,hd]
       show wpAny M A (if (["enumerate", "zip", "dict_itemiterator", "dict_reverseitemiterator", "odict_iterator", "itertools.zip_longest", "itertools.pairwise"].contains n && vs[0]? == some (rawInt _))=true then _ else _) Q E s
       rw[if_neg (by intro h;rw[hn,Bool.false_and] at h;cases h)]
       exact aP hQ))
noncomputable def s_(K:W.Frag)(a:Addr):It :=
 ⟨λi H=>∃xs x,aA K H a xs/\xs[i]? = some x,λi H x H'=>H' = H/\∀xs,aA K H a xs->xs[i]? = some x,λi H=>∃xs,aA K H a xs/\xs.length<=i⟩
noncomputable def zY(K:W.Frag)(a:Addr):It :=
 ⟨λi H=>∃xs x,aK K H a xs/\xs[i]? = some x,λi H x H'=>H' = H/\∀xs,aK K H a xs->xs[i]? = some x,λi H=>∃xs,aK K H a xs/\xs.length<=i⟩
noncomputable def u6(lo:Int)(n:Nat):It:=⟨λi _=>i<n,λi H x H'=>H' = H/\x = .int (lo+i),λi _=>n<=i⟩
theorem acX(a it:Addr):Turn P w K tg (s_ K a) [it] it (λi h=>h.IsListIter it a i) where
 mem:=by simp
 obj:=λi h st b hb=>by
  have e:b=it:=by simpa using hb
  subst e;obtain⟨o,e,c,d⟩:=st;exact⟨o,e,λv z=>by rw[d] at z;cases z⟩
 keep:=λi h h' st k=>st.at λo e=>k it (by simp) o e
 item:=by
  intro X hP hw hK hc i pins s σ H E I hf st hg;subst hP hw hK;obtain⟨xs,x,hq,hx⟩:=hg;obtain⟨aC,rv,p,hz⟩:=I.list hq;obtain⟨u,hu,ru⟩:=rv.get hx;obtain⟨f0,f1,f2,f3,f4,f5⟩:=hf it (by simp)
  refine wpAny_pyNext_list_item st p.isList (x:=u) ↑hu λh' fc sb=>?_
  have I1:Inv X pins σ H { s with heap:=h' }:=I.turned (t':=s.toks) (λb o hb e=>(sb.2 b hb).trans e) f0 f1 f3 f4 f5;obtain⟨o,e,c,d⟩:=id fc;exact⟨u,rfl,IA (s:={ s with heap:=h' }) e c d ⋯ ⟨x,H,I1,ru,⟨rfl,λys hy=>by rw[I.UJ hy hq];exact hx⟩,fc,λb hb=>(hf b hb).1⟩⟩
 done:=by
  intro X hP hw hK hc i pins s σ H E I hf st hg;subst hP hw hK;obtain⟨xs,hq,hx⟩:=hg;obtain⟨aC,rv,p,hz⟩:=I.list hq;obtain⟨f0,f1,f2,f3,f4,f5⟩:=hf it (by simp)
  have hl:=rv.length;exact wpAny_pyNext_list_end (I.ok.hd hc) st p.isList (by simp;lia) λh' eb=>⟨rfl,I.turned (t':=s.toks) (λb o hb e=>eb b o hb e) f0 f1 f3 f4 f5⟩
 self:=λ_ _ _ _ _ st h=>wpAny_pyIter_listiter st h
theorem acY(a it:Addr):Turn P w K tg (zY K a) [it] it (λi h=>h.IsTupleIter it a i) where
 mem:=by simp
 obj:=λi h st b hb=>by
  have e:b=it:=by simpa using hb
  subst e;obtain⟨o,e,c,d⟩:=st;exact⟨o,e,λv z=>by rw[d] at z;cases z⟩
 keep:=λi h h' st k=>st.at λo e=>k it (by simp) o e
 item:=by
  intro X hP hw hK hc i pins s σ H E I hf st hg;subst hP hw hK;obtain⟨xs,x,hq,hx⟩:=hg;obtain⟨aC,rv,p,hz⟩:=I.tuple hq;obtain⟨u,hu,ru⟩:=rv.get hx;obtain⟨f0,f1,f2,f3,f4,f5⟩:=hf it (by simp)
  refine wpAny_pyNext_tuple_item st (show s.heap.IsTuple a aC.toArray from p) (x:=u) ↑hu λh' fc sb=>?_
  have I1:Inv X pins σ H { s with heap:=h' }:=I.turned (t':=s.toks) (λb o hb e=>(sb.2 b hb).trans e) f0 f1 f3 f4 f5;obtain⟨o,e,c,d⟩:=id fc;exact⟨u,rfl,IA (s:={ s with heap:=h' }) e c d ⋯ ⟨x,H,I1,ru,⟨rfl,λys hy=>by rw[I.acW hy hq];exact hx⟩,fc,λb hb=>(hf b hb).1⟩⟩
 done:=by
  intro X hP hw hK hc i pins s σ H E I hf st hg;subst hP hw hK;obtain⟨xs,hq,hx⟩:=hg;obtain⟨aC,rv,p,hz⟩:=I.tuple hq;obtain⟨f0,f1,f2,f3,f4,f5⟩:=hf it (by simp)
  have hl:=rv.length;exact wpAny_pyNext_tuple_end (I.ok.hd hc) st (show s.heap.IsTuple a aC.toArray from p) (by simp;lia) λh' eb=>⟨rfl,I.turned (t':=s.toks) (λb o hb e=>eb b o hb e) f0 f1 f3 f4 f5⟩
 self:=λ_ _ _ _ _ st h=>wpAny_pyIter_tupleiter st h
theorem acZ(it:Addr)(lo:Int)(n:Nat):Turn P w K tg (u6 lo n) [it] it (λi h=>IsRangeIter h it (lo+(i:Nat)*1) ((n:Int) - (i:Nat)) 1) where
 mem:=by simp
 obj:=λi h st b hb=>by
  have e:b=it:=by simpa using hb
  subst e;exact⟨_,st,λv z=>by
   have z':Data.fields _=Data.cell v:=z;cases z'⟩
 keep:=λi h h' st k=>k it (by simp) _ st
 item:=by
  intro X hP hw hK hc i pins s σ H E I hf st hg;subst hP hw hK;obtain⟨f0,f1,f2,f3,f4,f5⟩:=hf it (by simp)
  have W:=Walks.range (prog:=X.prog) (w:=X.w) (I.ok.hd hc) it lo 1 n;refine W.item i s _ _ hg st λv h' tk hv fc kk=>?_;obtain⟨t,rfl⟩:=hv;have I1:Inv X pins σ H { s with heap:=h',toks:=tk }:=I.turned (λb o hb e=>kk b o ↑hb e) f0 f1 f3 f4 f5
  refine⟨_,rfl,IA (s:={ s with heap:=h',toks:=tk }) (n := "range_iterator") fc rfl rfl ⋯ ⟨.int (lo+i),H,I1,⟨t,?_⟩,⟨rfl,rfl⟩,fc,λb hb=>(hf b hb).1⟩⟩
  rw[Int.mul_one]
 done:=by
  intro X hP hw hK hc i pins s σ H E I hf st hg;subst hP hw hK;obtain⟨f0,f1,f2,f3,f4,f5⟩:=hf it (by simp)
  exact wpAny_pyNext_range_end (I.ok.hd hc) st (by have:n<=i:=hg;lia) λh' eb=>⟨rfl,I.turned (t':=s.toks) (λb o hb e=>eb b o hb e) f0 f1 f3 f4 f5⟩
 self:=λ_ _ _ _ _ st h=>wpAny_pyIter_rangeiter st h
section
variable{X:Cx}
def tu(K:W.Frag)(tl:TE):TI:=λσ H R=>tl σ H λx H1=>∃a,x = .ref a/\(∃xs,aA K H1 a xs)/\R (s_ K a) H1
def IB(K:W.Frag)(tl:TE):TI:=λσ H R=>tl σ H λx H1=>∃a,x = .ref a/\(∃xs,aK K H1 a xs)/\R (zY K a) H1
theorem cS{l:Expr}{tl:TE}(hl:PE X l tl):PI X tg l (tu X.K tl):=by
 intro pins s σ H R I h;refine aW (hl pins s σ H _ I h) λv s1 bO=>?_;obtain⟨x,H1,I1,r1,q1⟩:=bO;obtain⟨a,e,⟨xs,hq⟩,q⟩:=q1;subst e;cases r1;obtain⟨aC,rv,p,hz⟩:=I1.list hq;refine HX p.isList ?_;refine⟨s1.heap.objs.size,[s1.heap.objs.size],_,_,H1,rfl,I1.kept (t':=s1.toks) λb o e=>cU _ e,acX a _,⟨_,gf _ rfl,rfl,rfl⟩,λb hb=>?_,q⟩;have e:b=s1.heap.objs.size:=by simpa using hb
 subst e;exact I1.uZ (bx _) (I1.aO.fresh (bx _))
theorem Dt{l:Expr}{tl:TE}(hl:PE X l tl):PI X tg l (IB X.K tl):=by
 intro pins s σ H R I h;refine aW (hl pins s σ H _ I h) λv s1 bO=>?_;obtain⟨x,H1,I1,r1,q1⟩:=bO;obtain⟨a,e,⟨xs,hq⟩,q⟩:=q1;subst e;cases r1;obtain⟨aC,rv,p,hz⟩:=I1.tuple hq;refine wpAny_pyIter_tuple (show s1.heap.IsTuple a aC.toArray from p) ?_;refine⟨s1.heap.objs.size,[s1.heap.objs.size],_,_,H1,rfl,I1.kept (t':=s1.toks) λb o e=>cU _ e,acY a _,⟨_,gf _ rfl,rfl,rfl⟩,λb hb=>?_,q⟩;have e:b=s1.heap.objs.size:=by simpa using hb
 subst e;exact I1.uZ (bx _) (I1.aO.fresh (bx _))
theorem UN{σ:St}{H:Hp}{R:It->Hp->Prop}{lo hi:Int}{t u v:Tok}{tk:Nat}(I:Inv X pins σ H s)(h1 : -(2 ^ 62)<=lo)(h2:lo<2 ^ 62)(h3 : -(2 ^ 62)<=hi)(h4:hi<2 ^ 62)
  (q:R (u6 lo (hi - lo).toNat) H):wpAny (model X.prog X.w) X.A (pyIter (.ref s.heap.objs.size)) (UM X pins σ tg R) E { s with heap:=s.heap.push { cls:=.type "range",data:=.fields #[.int lo t,.int hi u,.int 1 v] },toks:=tk }:=by
 refine wpAny_pyIter_range (IsRange.new ..) (small_one h1 h2 h3 h4) ?_;have I1:Inv X pins σ H { s with heap:=s.heap.push { cls:=.type "range",data:=.fields #[.int lo t,.int hi u,.int 1 v] },toks:=tk }:=I.kept λb o e=>cU _ e;refine⟨(s.heap.push { cls:=.type "range",data:=.fields #[.int lo t,.int hi u,.int 1 v] }).objs.size,[(s.heap.push { cls:=.type "range",data:=.fields #[.int lo t,.int hi u,.int 1 v] }).objs.size],_,_,H,rfl,
  I1.kept (t':=tk) λb o e=>cU _ e,acZ _ lo (hi - lo).toNat,?_,λb hb=>?_,q⟩
 ·have e1:lo+((0:Nat):Int)*1=lo:=by simp
  have e2:(((hi - lo).toNat:Nat):Int) - ((0:Nat):Int)=Builtin.Range.rangeSize lo hi 1:=by rw[rangeSize_one];split <;> lia
  show IsRangeIter _ _ (lo+((0:Nat):Int)*1) ((((hi - lo).toNat:Nat):Int) - ((0:Nat):Int)) 1;rw[e1,e2];exact gf _ rfl
 ·have e:b=(s.heap.push { cls:=.type "range",data:=.fields #[.int lo t,.int hi u,.int 1 v] }).objs.size:=by simpa using hb
  subst e;exact I1.uZ (bx _) (I1.aO.fresh (bx _))
def zZ(ta:TA):TI:=λσ H R=>ta σ H λvs H1=>∃j:Int,vs = [.int j]/\-(2 ^ 62)<=j/\j<2 ^ 62/\R (u6 0 j.toNat) H1
def z7(ta:TA):TI:=λσ H R=>ta σ H λvs H1=>∃i j:Int,vs = [.int i,.int j]/\(-(2 ^ 62)<=i/\i<2 ^ 62/\-(2 ^ 62)<=j/\j<2 ^ 62)/\R (u6 i (j - i).toNat) H1
theorem lR{a:Expr}{ta:TA}(hg:Gl X "range")(hm:X.mg "range" = none)(ha:PA X [a] ta)(hs:starEach [a] X.env = [(false,eval a X.env)]:=by rfl):PI X tg (.Call (.Name "range" p) [a] [] pos) (zZ ta):=by
 intro pins s σ H R I h;refine Call_ (pT I hg hm boot_range (wZ (aW (ha pos pins s σ H _ I h) λus s1 bO=>?_) hs rfl));obtain⟨vs,H1,I1,r1,q1⟩:=bO;obtain⟨j,e,q1,q2,q⟩:=q1;subst e;cases r1 with
 | cons r rr =>
  cases rr;obtain⟨t,rfl⟩:=r;exact call_range_1 (UN I1 ∅ ∅ q1 q2 ↑q)
theorem u7{a b:Expr}{ta:TA}(hg:Gl X "range")(hm:X.mg "range" = none)(ha:PA X [a,b] ta)(hs:starEach [a,b] X.env = [(false,eval a X.env),(false,eval b X.env)]:=by rfl)(ou:starEach [b] X.env = [(false,eval b X.env)]:=by rfl) :
  PI X tg (.Call (.Name "range" p) [a,b] [] pos) (z7 ta):=by
 intro pins s σ H R I h;refine Call_ (pT I hg hm boot_range (wZ (aW (ha pos pins s σ H _ I h) λus s1 ⟨vs,H1,I1,r1,q1⟩=>?_) (by rw[hs,ou]) (by rw[ou];rfl)))
 obtain⟨i,j,e,⟨q1,q2,q3,q4⟩,q⟩:=q1;subst e;cases r1 with
 | cons r rr =>
  cases rr with
  | cons r' rr =>
   cases rr;obtain⟨t,rfl⟩:=r;obtain⟨t',rfl⟩:=r';exact call_range_2 (UN I1 q1 q2 q3 q4 q)
def mK(wi:TI)(g:TG)(tb:TS):TS:=λD σ H=>wi σ H λJ H1=>∃W:Nat->Nat->St->Hp->Prop,(∃m,W 0 m σ H1)/\∀i m σ H,W i m σ H->
 (J.stop i H/\D.nx σ H)\/(J.go i H/\∃N:St->Hp->Prop,(∀bV H',N bV H'->∃m',m' < m/\W (i+1) m' bV H')/\∀x H',J.qK i H x H'->g x σ H' λaB H2=>tb { D with nx:=N,ct:=N,bk:=D.nx } aB H2)
noncomputable def z8(fp:_A)(h:Heap):List (Addr×Obj):=fp.filterMap λb=>(h.get? b).map λo=>(b,o)
theorem Du{o:Obj}(hb:b∈fp)(e:h.get? b=some o):(b,o)∈z8 fp h:=zq.mpr ⟨b,hb,by rw[e];rfl⟩
theorem ac0{p:Addr×Obj}(hp:p∈z8 fp h):p.1∈fp/\h.get? p.1=some p.2:=by
 obtain⟨b,hb,e⟩:=zq.mp hp;cases q:h.get? b with
 | none=>rw[q] at e;cases e
 | some o =>
  rw[q] at e;have e':(b,o)=p:=eg e;subst e';exact⟨hb,q⟩
theorem Inv.pinned{σ:St}{H:Hp}(I:Inv X pins σ H s)(hf:∀b∈fp,pW X pins H b)(ho:∀b∈fp,∃o,s.heap.get? b=some o/\∀v,o.data≠.cell v):Inv X (pins++z8 fp s.heap) σ H s :=
 I.pS λp hp=>(fB.mp hp).elim (λz=>I.pin p (fU _ z)) λz=>by
  obtain⟨hb,e⟩:=ac0 z;obtain⟨f0,f1,f2,_⟩:=hf p.1 hb;obtain⟨o,e',d⟩:=ho p.1 hb;rw[e] at e';cases e';exact⟨e,f0,f1,f2,d⟩
theorem Inv.z9{pl:List (Addr×Obj)}{σ:St}{H:Hp}(I:Inv X (pins++pl) σ H s):Inv X pins σ H s:=I.pS λp hp=>I.pin p (fU _ (uI _ hp))
theorem c8{iter:Expr}{body:List Stmt}{wi:TI}{g:TG}{tb:TS}(hp:PassesOwn (model X.prog X.w) X.A X.env X.xe)(hc:X.calm=true)(hi:PI X tg iter wi)(hg:PG X tg g)(hb:iZ X body tb)
  (hs:∀x,foldedSetIterable iter X.env x=pure x:=by intro _;rfl):PS X (.For tg iter body [] pos) (mK wi g tb):=by
 intro pins s σ H D I h;refine wpAny_For (aW (hi pins s σ H _ I h) λv s1 h1=>aW h1 λDs s2 h2=>?_) hs;obtain⟨it,fp,tn,J,H2,e,I2,T,cI,f2,W,⟨m0,w0⟩,turn⟩:=h2;subst e
 -- what stays true of the iterator's objects through the loop
 have u9:∀ {H':Hp},(∀b∈fp,H' b=none)->∀b∈fp,pW X pins H' b:=λhn b hb=>⟨hn b hb,(f2 b hb).2⟩;refine codeAny_forLoop_any (λn s'=>∃i bV H',Inv X pins bV H' s'/\tn i s'.heap/\(∀b∈fp,H' b=none)/\W i n bV H') ?_ m0 ⟨0,σ,H2,I2,cI,λb hb=>(f2 b hb).1,w0⟩;rintro n s3 ⟨i,iD,H3,I3,z_,u_,w3⟩;rcases turn i n iD H3 w3 with⟨stop,qn⟩ | ⟨go,N,hN,step⟩
 ·refine zM hp (aW (T.done X rfl rfl rfl hc i pins s3 iD H3 X.xe I3 (u9 u_) z_ stop) λr s4 ⟨hr,I4⟩=>?_);subst hr;exact zJ ⟨iD,H3,I4,qn⟩
 ·refine zM hp (aW (T.item X rfl rfl rfl hc i pins s3 iD H3 X.xe I3 (u9 u_) z_ go) λr s4 ⟨u,hr,h4⟩=>?_);subst hr;refine zM hp (aW h4 λ_ s5 bO=>?_);obtain⟨x,H5,I5,r5,y5,vc,IC⟩:=bO;have ID:=I5.pinned (u9 IC) (T.obj _ _ vc);refine zM hp (aW (hg _ s5 iD H5 x u _ ID r5 (step x H5 y5)) λ_ s6 bO=>?_);obtain⟨tw,H6,I6,q6⟩:=bO;refine zM hp (aW (hb _ s6 tw H6 _ I6 q6) λf s7 q7=>?_);have again:∀ {lg:St} {H7:Hp},Inv X (pins++z8 fp s5.heap) lg H7 s7->N lg H7->∃m,m<n/\∃i bV H',Inv X pins bV H' s7/\tn i s7.heap/\(∀b∈fp,H' b=none)/\W i m bV H':=λ{lg H7} I7 n7=>by
   obtain⟨m',hm,w7⟩:=hN lg H7 n7;refine⟨m',hm,i+1,lg,H7,I7.z9,T.keep _ _ _ vc λb hb o e=>(I7.pin (b,o) (fU _ (fU _ (Du hb e)))).1,λb hb=>?_,w7⟩;obtain⟨o,e,d⟩:=T.obj _ _ vc b hb;exact(I7.pin (b,o) (fU _ (fU _ (Du hb e)))).2.1
  cases f with
  | next=>obtain⟨lg,H7,I7,n7⟩:=q7;exact again I7 n7
  | cont=>obtain⟨lg,H7,I7,n7⟩:=q7;exact again I7 n7
  | brk=>obtain⟨lg,H7,I7,q7⟩:=q7;exact⟨lg,H7,I7.z9,q7⟩
  | ret v=>obtain⟨x7,lg,H7,I7,r7,q7⟩:=q7;exact⟨x7,lg,H7,I7.z9,r7,q7⟩
end
theorem UO{xs:List V}{g:TG}{tb:TS}{D:Ends}{σ:St}{H:Hp}(Pv:Nat->St->Hp->Prop)(h0:Pv 0 σ H)(hl:∀i σ H,i<=xs.length->Pv i σ H->aA K H a xs)
  (hs:∀i x σ H,xs[i]? = some x->Pv i σ H->g x σ H λaB H2=>tb { D with nx:=Pv (i+1),ct:=Pv (i+1),bk:=D.nx } aB H2) (hd:∀σ H,Pv xs.length σ H->D.nx σ H) :
  ∃W:Nat->Nat->St->Hp->Prop,(∃m,W 0 m σ H)/\∀i m σ H,W i m σ H->
   ((s_ K a).stop i H/\D.nx σ H)\/((s_ K a).go i H/\∃N:St->Hp->Prop,(∀bV H',N bV H'->∃m',m' < m/\W (i+1) m' bV H')/\∀x H',(s_ K a).qK i H x H'->g x σ H' λaB H2=>tb { D with nx:=N,ct:=N,bk:=D.nx } aB H2):=by
 refine⟨λi m σ H=>m=xs.length - i/\i<=xs.length/\Pv i σ H,⟨xs.length,by simp,eW _,h0⟩,?_⟩
 rintro i m σ H ⟨rfl,hi,p⟩;have q:=hl i σ H hi p;by_cases cg:i<xs.length
 ·refine .inr ⟨⟨xs,xs[i],q,by simp[cg]⟩,Pv (i+1),λbV H' p'=>⟨xs.length - (i+1),∅,rfl,cg,p'⟩,λx H' y=>?_⟩
  obtain⟨e,y⟩:=y;subst e;exact hs i x σ _ (y xs q) p
 ·have e:i=xs.length:=by lia
  subst e;exact .inl ⟨⟨xs,q,bx _⟩,hd σ H p⟩
theorem ac1{xs:List V}{g:TG}{tb:TS}{D:Ends}{σ:St}{H:Hp}(Pv:Nat->St->Hp->Prop)(h0:Pv 0 σ H)(hl:∀i σ H,i<=xs.length->Pv i σ H->aK K H a xs)
  (hs:∀i x σ H,xs[i]? = some x->Pv i σ H->g x σ H λaB H2=>tb { D with nx:=Pv (i+1),ct:=Pv (i+1),bk:=D.nx } aB H2) (hd:∀σ H,Pv xs.length σ H->D.nx σ H) :
  ∃W:Nat->Nat->St->Hp->Prop,(∃m,W 0 m σ H)/\∀i m σ H,W i m σ H->
   ((zY K a).stop i H/\D.nx σ H)\/((zY K a).go i H/\∃N:St->Hp->Prop,(∀bV H',N bV H'->∃m',m' < m/\W (i+1) m' bV H')/\∀x H',(zY K a).qK i H x H'->g x σ H' λaB H2=>tb { D with nx:=N,ct:=N,bk:=D.nx } aB H2):=by
 refine⟨λi m σ H=>m=xs.length - i/\i<=xs.length/\Pv i σ H,⟨xs.length,by simp,eW _,h0⟩,?_⟩
 rintro i m σ H ⟨rfl,hi,p⟩;have q:=hl i σ H hi p;by_cases cg:i<xs.length
 ·refine .inr ⟨⟨xs,xs[i],q,by simp[cg]⟩,Pv (i+1),λbV H' p'=>⟨xs.length - (i+1),∅,rfl,cg,p'⟩,λx H' y=>?_⟩
  obtain⟨e,y⟩:=y;subst e;exact hs i x σ _ (y xs q) p
 ·have e:i=xs.length:=by lia
  subst e;exact .inl ⟨⟨xs,q,bx _⟩,hd σ H p⟩
theorem IE{lo:Int}{g:TG}{tb:TS}{D:Ends}{σ:St}{H:Hp}(Pv:Nat->St->Hp->Prop)(h0:Pv 0 σ H)
  (hs:∀i σ H,i<n->Pv i σ H->g (.int (lo+i)) σ H λaB H2=>tb { D with nx:=Pv (i+1),ct:=Pv (i+1),bk:=D.nx } aB H2) (hd:∀σ H,Pv n σ H->D.nx σ H) :
  ∃W:Nat->Nat->St->Hp->Prop,(∃m,W 0 m σ H)/\∀i m σ H,W i m σ H->
   ((u6 lo n).stop i H/\D.nx σ H)\/((u6 lo n).go i H/\∃N:St->Hp->Prop,(∀bV H',N bV H'->∃m',m' < m/\W (i+1) m' bV H')/\∀x H',(u6 lo n).qK i H x H'->g x σ H' λaB H2=>tb { D with nx:=N,ct:=N,bk:=D.nx } aB H2):=by
 refine⟨λi m σ H=>m=n - i/\i<=n/\Pv i σ H,⟨n,by simp,eW _,h0⟩,?_⟩
 rintro i m σ H ⟨rfl,hi,p⟩;by_cases cg:i<n
 ·refine .inr ⟨cg,Pv (i+1),λbV H' p'=>⟨n - (i+1),∅,rfl,cg,p'⟩,λx H' y=>?_⟩
  obtain⟨e,y⟩:=y;subst e y;exact hs i σ _ cg p
 ·have e:i=n:=by lia
  subst e;exact .inl ⟨bx _,hd σ H p⟩
noncomputable abbrev R2:=V->V->Hp->VK->Prop
def cN(X:Cx)(f:Value->Value->Sem Value)(r:R2):Prop :=
 ∀(pins:List (Addr×Obj)) (s:Shared) (σ:St) (H:Hp) (x y:V) (v u:Value) (Q:VK),Inv X pins σ H s->RelV x v->RelV y u->r x y H Q->
  wpAny (model X.prog X.w) X.A (f v u) (EP X pins σ Q) X.xe s
def IF(X:Cx)(f:Value->Sem Value)(r:V->Hp->VK->Prop):Prop :=
 ∀(pins:List (Addr×Obj)) (s:Shared) (σ:St) (H:Hp) (x:V) (v:Value) (Q:VK),Inv X pins σ H s->RelV x v->r x H Q->
  wpAny (model X.prog X.w) X.A (f v) (EP X pins σ Q) X.xe s
def i9(X:Cx)(f:Value)(r:List V->Hp->VK->Prop):Prop :=
 ∀(pins:List (Addr×Obj)) (s:Shared) (σ:St) (H:Hp) (xs:List V) (us:List Value) (Q:VK),Inv X pins σ H s->Vals xs us->r xs H Q->
  wpAny (model X.prog X.w) X.A (call f us) (EP X pins σ Q) X.xe s
def ac2(X:Cx)(r:V->Hp->(Bool->Hp->Prop)->Prop):Prop :=
 ∀(pins:List (Addr×Obj)) (s:Shared) (σ:St) (H:Hp) (x:V) (v:Value) (Q:Bool->Hp->Prop),Inv X pins σ H s->RelV x v->r x H Q->
  wpAny (model X.prog X.w) X.A (truthy v) (TP X pins σ Q) X.xe s
def vd(r:R2)(ta tb:TE):TE:=λσ H Q=>ta σ H λx H1=>tb σ H1 λy H2=>r x y H2 Q
def IG(r:V->Hp->VK->Prop)(ta:TE):TE:=λσ H Q=>ta σ H λx H1=>r x H1 Q
def rI(C:Int->Int->Prop)(g:Int->Int->V):R2:=λx y H Q=>∃i j,x = .int i/\y = .int j/\C i j/\Q (g i j) H
def kB(g:Int->Int->V):R2:=λx y H Q=>∃i j,x = .int i/\y = .int j/\Q (g i j) H
def rU(g:Int->V):V->Hp->VK->Prop:=λx H Q=>∃i,x = .int i/\Q (g i) H
section
variable{X:Cx}{a b:Expr}{ta tb tc:TE}
theorem II(ha:PE X a ta)(hb:PE X b tb){σ:St}{H:Hp}{R:V->V->Hp->Prop}(I:Inv X pins σ H s)
  (h:ta σ H λx H1=>tb σ H1 λy H2=>R x y H2) {Q:Value->Shared->Prop} {f:Value->Value->Sem Value}
  (hf:∀v u s2 x y H2,Inv X pins σ H2 s2->RelV x v->RelV y u->R x y H2->wpAny (model X.prog X.w) X.A (f v u) Q X.xe s2) :
  wpAny (model X.prog X.w) X.A (eval a X.env) (λv bC=>wpAny (model X.prog X.w) X.A (eval b X.env) (λu jM=>wpAny (model X.prog X.w) X.A (f v u) Q X.xe jM) X.xe bC) X.xe s:=by
 refine aW (ha pins s σ H _ I h) λv s1 bO=>?_;obtain⟨x,H1,I1,r1,q1⟩:=bO;refine aW (hb pins s1 σ H1 _ I1 q1) λu s2 bO=>?_;obtain⟨y,H2,I2,r2,q2⟩:=bO;exact hf v u s2 x y H2 I2 r1 r2 q2
theorem aF{op:Operator}{r:R2}(ho:cN X (binaryOp op) r)(ha:PE X a ta)(hb:PE X b tb):PE X (.BinOp a op b pos) (vd r ta tb):=by
 intro pins s σ H Q I h;exact wpAny_BinOp (II ha hb I h λv u s2 x y H2 I2 rx ry q=>ho pins s2 σ H2 x y v u Q I2 rx ry q)
theorem ve{op:UnaryOp}{r:V->Hp->VK->Prop}(ho:IF X (unaryOp op) r)(ha:PE X a ta):PE X (.UnaryOp op a pos) (IG r ta):=by
 intro pins s σ H Q I h;exact UnaryOp_ (aW (ha pins s σ H _ I h) λv s1 ⟨x,H1,I1,r1,q1⟩=>ho pins s1 σ H1 x v Q I1 r1 q1)
theorem Dv{C:Int->Int->Prop}{g:Int->Int->Int}
  (rule:∀(i j:Int) (t u:Tok) (s:Shared) (Q:Value->Shared->Prop) (E:Value->Shared->Prop),C i j->Q (.int (g i j) s.toks) { s with toks:=s.toks+1 }->wpAny (model X.prog X.w) X.A (f (.int i t) (.int j u)) Q E s) :
  cN X f (rI C λi j=>.int (g i j)):=by
 intro pins s σ H x y v u Q I rx ry h;obtain⟨i,j,rfl,rfl,hc,q⟩:=h;obtain⟨t,rfl⟩:=rx;obtain⟨t',rfl⟩:=ry;exact rule i j t t' s _ _ hc ⟨.int (g i j),H,I.tok _,⟨_,rfl⟩,q⟩
theorem UP{g:Int->Int->Int}
  (rule:∀(i j:Int) (t u:Tok) (s:Shared) (Q:Value->Shared->Prop) (E:Value->Shared->Prop),Q (.int (g i j) s.toks) { s with toks:=s.toks+1 }->wpAny (model X.prog X.w) X.A (f (.int i t) (.int j u)) Q E s) :
  cN X f (kB λi j=>.int (g i j)):=by
 intro pins s σ H x y v u Q I rx ry h;obtain⟨i,j,rfl,rfl,q⟩:=h;obtain⟨t,rfl⟩:=rx;obtain⟨t',rfl⟩:=ry;exact rule i j t t' s _ _ ⟨.int (g i j),H,I.tok _,⟨_,rfl⟩,q⟩
theorem Dw{g:Int->Int->Bool}
  (rule:∀(i j:Int) (t u:Tok) (s:Shared) (Q:Value->Shared->Prop) (E:Value->Shared->Prop),Q (.bool (g i j)) s->wpAny (model X.prog X.w) X.A (f (.int i t) (.int j u)) Q E s) :
  cN X f (kB λi j=>.bl (g i j)):=by
 intro pins s σ H x y v u Q I rx ry h;obtain⟨i,j,rfl,rfl,q⟩:=h;obtain⟨t,rfl⟩:=rx;obtain⟨t',rfl⟩:=ry;exact rule i j t t' s _ _ ⟨.bl (g i j),H,I,rfl,q⟩
def IJ(i j:Int):Prop:=0<j/\j<1073741824
def UQ(i j:Int):Prop:=0<=j/\j<=1000000/\i.natAbs<2 ^ 64
def Aa(i j:Int):Prop:=(-(2 ^ 64)<i/\i<2 ^ 64)\/(-(2 ^ 64)<j/\j<2 ^ 64)
theorem Aa.ok{i j:Int}(h:Aa i j):IntMulOk i j:=by
 rcases h with⟨h1,h2⟩ | ⟨h1,h2⟩
 ·exact .of_left (intBits_le_64 h1 h2)
 ·exact .of_right (intBits_le_64 h1 h2)
theorem fh:cN X (binaryOp .Add) (kB λi j=>.int (i+j)):=UP λ_ _ _ _ _ _ _ q=>add_int q
theorem pX:cN X (binaryOp .Sub) (kB λi j=>.int (i - j)):=UP λ_ _ _ _ _ _ _ q=>sub_int q
theorem xy:cN X (binaryOp .Mult) (rI Aa λi j=>.int (i*j)):=Dv λ_ _ _ _ _ _ _ hc q=>mul_int q hc.ok
theorem xA:cN X (binaryOp .FloorDiv) (rI IJ λi j=>.int (i / j)):=Dv λi j _ _ _ _ _ hc q=>by
 have h1:(0:Int)<j:=hc.1;have h2:j<1073741824:=hc.2;exact floordiv_int ∅ (by rw[Int.fdiv_eq_ediv_of_nonneg i ∅];exact q) (.inl (PyProof.noPylong_small ∅))
theorem dz:cN X (binaryOp .Mod) (rI (λ_ j=>0<j) λi j=>.int (i % j)):=Dv λi j _ _ _ _ _ hc q=>by
 have h1:(0:Int)<j:=hc;exact mod_int' ∅ (by rw[Int.fmod_eq_emod_of_nonneg i ∅];exact q)
theorem qL:cN X (binaryOp .Pow) (rI UQ λi j=>.int (i ^ j.toNat)):=Dv λ_ _ _ _ _ _ _ hc q=>pow_int_small hc.1 hc.2.1 hc.2.2 q
theorem unI{f:Value->Sem Value}{g:Int->Int}
  (rule:∀(i:Int) (t:Tok) (s:Shared) (Q:Value->Shared->Prop) (E:Value->Shared->Prop),Q (.int (g i) s.toks) { s with toks:=s.toks+1 }->wpAny (model X.prog X.w) X.A (f (.int i t)) Q E s) :
  IF X f (rU λi=>.int (g i)):=by
 intro pins s σ H x v Q I rx h;obtain⟨i,rfl,q⟩:=h;obtain⟨t,rfl⟩:=rx;exact rule i t s _ _ ⟨.int (g i),H,I.tok _,⟨_,rfl⟩,q⟩
theorem vf:IF X (unaryOp .USub) (rU λi=>.int (-i)):=unI λ_ _ _ _ _ q=>neg_int q
end
noncomputable def mL:V->V->Bool
 | .aY,.aY=>true | .aY,.int _=>true | .int _,.aY=>true | .aY,.bl _=>true | .bl _,.aY=>true | .aY,.str _=>true | .str _,.aY=>true
 | .int _,.int _=>true | .bl _,.bl _=>true | .str _,.str _=>true | .jr _,.jr _=>true
 | .int _,.str _=>true | .str _,.int _=>true | .bl _,.str _=>true | .str _,.bl _=>true
 | _,_=>false
def IK:R2:=λx y H Q=>mL x y=true/\Q (.bl (decide (x=y))) H
def IL:R2:=λx y H Q=>mL x y=true/\Q (.bl (!decide (x=y))) H
theorem UR{i j:Int}:decide (V.int i=V.int j)=(i == j):=by
 rw[kX];simp
theorem US{i j:Bool}:decide (V.bl i=V.bl j)=(i == j):=by
 rw[kX];simp
theorem UT{i j:Str}:decide (V.str i=V.str j)=(i == j):=by
 rw[kX];simp
theorem UU{i j:Array UInt8}:decide (V.jr i=V.jr j)=(i.toList == j.toList):=by
 rw[kX];cases i;cases j;simp
section
variable{X:Cx}{a b:Expr}{ta tb tc:TE}
theorem eL{σ:St}{H:Hp}{Q:VK}{k k':Bool}(I:Inv X pins σ H s)(q:Q (.bl k) H)(e:k=k'):EP X pins σ Q (.bool k') s:=by
 subst e;exact⟨.bl k,H,I,rfl,q⟩
theorem i_:cN X (compareOp .Eq) IK:=by
 intro pins s σ H x y v u Q I rx ry h;obtain⟨hs,q⟩:=h;cases x with
 | aY =>
  cases rx;cases y with
  | aY=>cases ry;exact PySem.EqNone.eq_none_none (eL I q (by simp))
  | bl j=>cases ry;exact PySem.EqNone.eq_none_bool (eL I q (by simp))
  | int j=>obtain⟨t',rfl⟩:=ry;exact PySem.EqNone.eq_none_int (eL I q (by simp))
  | str j=>obtain⟨t',rfl⟩:=ry;exact PySem.EqNone.eq_none_str (eL I q (by simp))
  | _=>exact absurd (show false=true from hs) fz
 | bl i =>
  cases rx;cases y with
  | aY=>cases ry;exact PySem.EqNone.eq_bool_none (eL I q (by simp))
  | bl j=>cases ry;exact eq_bool (eL I q US)
  | str j=>obtain⟨t',rfl⟩:=ry;exact PySem.EqMixed.eq_bool_str (eL I q (by simp))
  | _=>exact absurd (show false=true from hs) fz
 | int i =>
  obtain⟨t,rfl⟩:=rx;cases y with
  | aY=>cases ry;exact PySem.EqNone.eq_int_none (eL I q (by simp))
  | int j=>obtain⟨t',rfl⟩:=ry;exact eq_int (eL I q UR)
  | str j=>obtain⟨t',rfl⟩:=ry;exact PySem.EqMixed.eq_int_str (eL I q (by simp))
  | _=>exact absurd (show false=true from hs) fz
 | str i =>
  obtain⟨t,rfl⟩:=rx;cases y with
  | aY=>cases ry;exact PySem.EqNone.eq_str_none (eL I q (by simp))
  | bl j=>cases ry;exact PySem.EqMixed.eq_str_bool (eL I q (by simp))
  | int j=>obtain⟨t',rfl⟩:=ry;exact PySem.EqMixed.eq_str_int (eL I q (by simp))
  | str j=>obtain⟨t',rfl⟩:=ry;exact eq_str (eL I q UT)
  | _=>exact absurd (show false=true from hs) fz
 | jr i =>
  obtain⟨t,rfl⟩:=rx;cases y with
  | jr j=>obtain⟨t',rfl⟩:=ry;exact PySem.W.eq_bytes (eL I q UU)
  | _=>exact absurd (show false=true from hs) fz
 | _=>cases y <;> exact absurd (show false=true from hs) fz
theorem vg:cN X (compareOp .NotEq) IL:=by
 intro pins s σ H x y v u Q I rx ry h;obtain⟨hs,q⟩:=h;cases x with
 | aY =>
  cases rx;cases y with
  | aY=>cases ry;exact PySem.EqNone.ne_none_none (eL I q (by simp))
  | bl j=>cases ry;exact PySem.EqNone.ne_none_bool (eL I q (by simp))
  | int j=>obtain⟨t',rfl⟩:=ry;exact PySem.EqNone.ne_none_int (eL I q (by simp))
  | str j=>obtain⟨t',rfl⟩:=ry;exact PySem.EqNone.ne_none_str (eL I q (by simp))
  | _=>exact absurd (show false=true from hs) fz
 | bl i =>
  cases rx;cases y with
  | aY=>cases ry;exact PySem.EqNone.ne_bool_none (eL I q (by simp))
  | bl j=>cases ry;exact ne_bool (eL I q (fX not US))
  | str j=>obtain⟨t',rfl⟩:=ry;exact PySem.EqMixed.ne_bool_str (eL I q (by simp))
  | _=>exact absurd (show false=true from hs) fz
 | int i =>
  obtain⟨t,rfl⟩:=rx;cases y with
  | aY=>cases ry;exact PySem.EqNone.ne_int_none (eL I q (by simp))
  | int j=>obtain⟨t',rfl⟩:=ry;exact ne_int (eL I q (fX not UR))
  | str j=>obtain⟨t',rfl⟩:=ry;exact PySem.EqMixed.ne_int_str (eL I q (by simp))
  | _=>exact absurd (show false=true from hs) fz
 | str i =>
  obtain⟨t,rfl⟩:=rx;cases y with
  | aY=>cases ry;exact PySem.EqNone.ne_str_none (eL I q (by simp))
  | bl j=>cases ry;exact PySem.EqMixed.ne_str_bool (eL I q (by simp))
  | int j=>obtain⟨t',rfl⟩:=ry;exact PySem.EqMixed.ne_str_int (eL I q (by simp))
  | str j=>obtain⟨t',rfl⟩:=ry;exact ne_str (eL I q (fX not UT))
  | _=>exact absurd (show false=true from hs) fz
 | jr i =>
  obtain⟨t,rfl⟩:=rx;cases y with
  | jr j=>obtain⟨t',rfl⟩:=ry;exact PySem.W.ne_bytes (eL I q (fX not UU))
  | _=>exact absurd (show false=true from hs) fz
 | _=>cases y <;> exact absurd (show false=true from hs) fz
theorem iN:cN X (compareOp .Lt) (kB λi j=>.bl (decide (i<j))):=Dw λ_ _ _ _ _ _ _ q=>lt_int q
theorem UW:cN X (compareOp .LtE) (kB λi j=>.bl (decide (i<=j))):=Dw λ_ _ _ _ _ _ _ q=>le_int q
theorem lT:cN X (compareOp .Gt) (kB λi j=>.bl (decide (j<i))):=Dw λ_ _ _ _ _ _ _ q=>gt_int q
theorem vh:cN X (compareOp .GtE) (kB λi j=>.bl (decide (j<=i))):=Dw λ_ _ _ _ _ _ _ q=>ge_int q
theorem IM:cN X (compareOp .Is) (λx y H Q=>y = .aY/\Q (.bl (decide (x = .aY))) H):=by
 intro pins s σ H x y v u Q I rx ry h;obtain⟨rfl,q⟩:=h;cases ry;refine is_none_gen (eL I q ?_);cases x <;> first
  | (cases rx;rfl)
  | (obtain⟨t,rfl⟩:=rx;rfl)
theorem qM:cN X (compareOp .IsNot) (λx y H Q=>y = .aY/\Q (.bl (!decide (x = .aY))) H):=by
 intro pins s σ H x y v u Q I rx ry h;obtain⟨rfl,q⟩:=h;cases ry;refine isnot_none_gen (eL I q ?_);cases x <;> first
  | (cases rx;rfl)
  | (obtain⟨t,rfl⟩:=rx;rfl)
theorem bB(b:Expr){op:CmpOp}(h:op≠.In:=by decide)(h2:op≠.NotIn:=by decide):behindInMarks op b=false:=by
 have e1:(op == CmpOp.In)=false:=by cases op <;> first | rfl | exact absurd rfl h
 have e2:(op == CmpOp.NotIn)=false:=by cases op <;> first | rfl | exact absurd rfl h2
 cases b <;> simp[behindInMarks,e1,e2]
theorem iE{op:CmpOp}{r:R2}(ho:cN X (compareOp op) r)(ha:PE X a ta)(hb:PE X b tb)(hm:behindInMarks op b=false):PE X (.Compare a [op] [b] pos) (vd r ta tb):=by
 intro pins s σ H Q I h;exact wpAny_Compare1 (II ha hb I h λv u s2 x y H2 I2 rx ry q=>ho pins s2 σ H2 x y v u Q I2 rx ry q) hm
def IP(t:TE):TT:=λσ H Q=>t σ H λx H'=>∃k,x = .bl k/\Q k H'
theorem cC{op:CmpOp}{r:R2}(ho:cN X (compareOp op) r)(ha:PE X a ta)(hb:PE X b tb)(hm:behindInMarks op b=false):PT X (.Compare a [op] [b] pos) (IP (vd r ta tb)):=by
 intro pins s σ H Q I h;refine HW (aW (ha pins s σ H _ I h) λv s1 ⟨x,H1,I1,r1,q1⟩=>aW (hb pins s1 σ H1 _ I1 q1) λu s2 ⟨y,H2,I2,r2,q2⟩ =>
  aW (ho pins s2 σ H2 x y v u _ I2 r1 r2 q2) λc s3 ⟨z,H3,I3,r3,zz⟩=>?_) hm
 obtain⟨k,e,q3⟩:=zz;subst e;cases r3;exact pL ⟨H3,I3,q3⟩
def UX(r r':R2)(ta tb tc:TE):TE:=λσ H Q=>ta σ H λx H1=>tb σ H1 λy H2=>r x y H2 λz H3=>∃k,z = .bl k/\
 (if k=true then tc σ H3 λw' H4=>r' y w' H4 Q else Q (.bl false) H3)
def UY(K:W.Frag)(x:V)(H:Hp)(k:Bool):Prop :=
 match x with
 | .aY=>k=false
 | .bl b=>k=b
 | .int i=>k=(i != 0)
 | .str y=>y.length<=sizeLine/\k=((y.length:Int) != 0)
 | .jr y=>y.size<=sizeLine/\k=((y.size:Int) != 0)
 | .ref p=>(∃xs,aA K H p xs/\k = !xs.isEmpty)\/(∃xs,aK K H p xs/\k = !xs.isEmpty)\/∃az,H p=some (.dK az)/\k = !az.isEmpty
 | _=>False
theorem ac3{κ:Type}{az:List (κ×V)}{vs:List (κ×Value)}(r:KV az vs):(!vs.isEmpty) = !az.isEmpty:=by
 cases r <;> rfl
theorem UZ{xs:List V}{aC:List Value}(r:Vals xs aC):(!aC.toArray.isEmpty) = !xs.isEmpty:=by
 cases r <;> simp
theorem Ab:(sizeLine:Nat)<2 ^ 63:=by rw[sR];decide
theorem ac4:ac2 X (λx H Q=>∃k,UY X.K x H k/\Q k H):=by
 intro pins s σ H x v Q I rx h;obtain⟨k,e,q⟩:=h;have hl:=Ab;have hs:sizeLine=16777216:=sR;cases x with
 | aY =>
  cases rx;have e':k=false:=e;subst e';exact truthy_none ⟨H,I,q⟩
 | bl b =>
  cases rx;have e':k=b:=e;subst e';exact pL ⟨H,I,q⟩
 | int i =>
  obtain⟨t,rfl⟩:=rx;have e':k=(i != 0):=e;subst e';exact PySem.P.truthy_int ⟨H,I,q⟩
 | str y =>
  obtain⟨t,rfl⟩:=rx;obtain⟨hy,e'⟩:y.length<=sizeLine/\k=((y.length:Int) != 0):=e;subst e';exact PySem.P.truthy_str ∅ ⟨H,I.tok _,q⟩
 | jr y =>
  obtain⟨t,rfl⟩:=rx;obtain⟨hy,e'⟩:y.size<=sizeLine/\k=((y.size:Int) != 0):=e;subst e';exact PySem.W.truthy_bytes ∅ ⟨H,I.tok _,q⟩
 | ref p =>
  cases rx;have e':(∃xs,aA X.K H p xs/\k = !xs.isEmpty)\/(∃xs,aK X.K H p xs/\k = !xs.isEmpty)\/∃az,H p=some (.dK az)/\k = !az.isEmpty:=e;rcases e' with⟨xs,hx,e'⟩ | ⟨xs,hx,e'⟩ | ⟨az,hx,e'⟩
  ·subst e';obtain⟨aC,r,pl,hz⟩:=I.list hx;have hlen:=r.length;exact wpAny_truthy_list pl.isList (by simp only[List.size_toArray];lia) ⟨H,I.tok _,by rw[UZ r];exact q⟩
  ·subst e';obtain⟨aC,r,pl,hz⟩:=I.tuple hx;have hlen:=r.length;exact truthy_tuple pl (by simp only[List.size_toArray];lia) ⟨H,I.tok _,by rw[UZ r];exact q⟩
  ·subst e';obtain⟨hz,hS,vs,r,m⟩:az.length<=sizeLine/\(p == sysModules)=false/\∃vs,KV az vs/\s.heap.DictOf (d7 X.prog X.w) p vs:=I.aO p _ hx;have hlen:az.length=vs.length:=CZ r;exact wpAny_truthy_dict hS m ∅ ⟨H,I.tok _,by rw[ac3 r];exact q⟩
 | _=>exact(show False from e).elim
theorem ac5(ha:PE X a ta)(he:∀whole,isTrue a X.env whole=(do let v ← whole;standAt a.pos;holding [v] (truthy v))) :
  PT X a (λσ H Q=>ta σ H λx H'=>∃k,UY X.K x H' k/\Q k H'):=by
 intro pins s σ H Q I h;exact isTrue_plain (aW (ha pins s σ H _ I h) λv s1 ⟨x,H1,I1,r1,q1⟩=>ac4 pins s1 σ H1 x v Q I1 r1 q1) (he _)
theorem vals1{x:V}(r:Vals [x] us):∃u,us = [u]/\RelV x u:=by
 cases r with
 | cons r1 r2=>cases r2;exact⟨_,rfl,r1⟩
theorem vals2{x y:V}(r:Vals [x,y] us):∃u w',us = [u,w']/\RelV x u/\RelV y w':=by
 cases r with
 | cons r1 r2 =>
  cases r2 with
  | cons r3 r4=>cases r4;exact⟨_,_,rfl,r1,r3⟩
theorem IQ:i9 X (.builtin "abs") (λxs H Q=>∃i,xs = [.int i]/\Q (.int (if i<0 then -i else i)) H):=by
 intro pins s σ H xs us Q I r h;obtain⟨i,rfl,q⟩:=h;obtain⟨u,rfl,t,rfl⟩:=vals1 r;exact call_abs_int λu tk=>⟨.int (if i<0 then -i else i),H,I.tok _,⟨_,rfl⟩,q⟩
theorem IS(hc:X.calm=true):i9 X (.builtin "min") (λxs H Q=>∃i j,xs = [.int i,.int j]/\Q (.int (if j<i then j else i)) H):=by
 intro pins s σ H xs us Q I r h;obtain⟨i,j,rfl,q⟩:=h;obtain⟨u,w',rfl,⟨t,rfl⟩,⟨t',rfl⟩⟩:=vals2 r;refine min_two_ints (I.ok.hd hc) λh' tk k=>⟨_,H,I.kept k,?_,q⟩;by_cases hj:j<i
 ·rw[if_pos hj,if_pos hj];exact⟨_,rfl⟩
 ·rw[if_neg hj,if_neg hj];exact⟨_,rfl⟩
end
structure vj(h:Heap)(x dx C:Addr)(mA:Str->Option Value):Prop where
 obj:h.get? x=some (PySem.W.instObj C dx)
 ns:h.Ns1 dx mA
 ne:dx≠x
theorem ac6(n:h.Ns1 dx mA):∃od,h.get? dx=some od/\∀name,PySem.W.lookIn name od=some (mA name):=by
 obtain⟨o,es,ep,ho,hd,hk,_,hm⟩:=n;refine⟨o,ho,λname=>?_⟩
 have e:=hm name;unfold nsFind findBy at e;rw[← Array.find?_toList] at e;unfold PySem.W.lookIn;rw[hd];dsimp only;split
 ·rename_i y q;rw[q] at e;exact fX some e
 ·rename_i q;rw[q] at e;have a:es.toList.any (·.refKey)=false:=by
   rw[List.any_eq_false];intro y hy;obtain⟨z,t,tD⟩:=hk y (Array.mem_toList_iff.mp hy);simp[DictEntry.refKey,tD]
  have a':¬ es.toList.any (·.refKey)=true:=by rw[a];exact fz
  rw[if_neg a'];exact fX some e
theorem vj.look{x:Addr}(I:vj h x dx C mA):∃od,PySem.W.InstAt h x (PySem.W.instObj C dx) C (some od)/\∀name,PySem.W.lookIn name od=some (mA name) :=
 let ⟨od,ho,hl⟩:=ac6 I.ns
 ⟨od,⟨I.obj,rfl,rfl,ho⟩,hl⟩
section
variable{prog:Program}{x f:Addr}{name:Str}
theorem get_map{expr:Bool}(X:K.In s.heap)(I:vj s.heap x dx C mA)(hg:PySem.W.plainGet K C name=true)(hh:PySem.W.hasDictIn K C=true)
  (ha:PySem.W.findIn K (.ref C) name=some none) (hv:mA name=some v) (hv':PySem.W.handedIn v=true) (h:Q v { s with toks:=s.toks+1 }) :
  wpAny (model prog w) A (getAttr (.ref x) name expr) Q E s:=by
 obtain⟨od,J,hl⟩:=I.look;exact PySem.W.get_value X J (HN hg).1 (PySem.W.findObj_own hh ha rfl (by rw[hl,hv])) hv' h
theorem ac7{pl:Sem Bool}{Q:Value×List Value->Shared->Prop}(X:K.In s.heap)(I:vj s.heap x dx C mA)(hg:PySem.W.plainGet K C name=true)
  (hf:PySem.W.findIn K (.ref C) name=some (⇑f)) (ht:PySem.W.isFn K (.ref f)=true) (hv:mA name=none) (h:Q (.ref f,[.ref x]) s) :
  wpAny (model prog w) A (getMethod (.ref x) name pl) Q E s:=by
 obtain⟨od,J,hl⟩:=I.look;exact PySem.W.method_fn X J (HN hg).1 (HN hg).2 hf (mH.mp ht) (by show (PySem.W.lookIn name od).map (·.isSome)=some false;rw[hl,hv];rfl) h
theorem ac8{ns:List Str}{Q:Unit->Shared->Prop}(X:K.In s.heap)(I:vj s.heap x dx C mA)
  (hs:PySem.W.findIn K (.ref C) "__setattr__" = some (some (.builtin "object.__setattr__"))) (hp:PySem.W.plainOver K C=true) (ht:PySem.W.takerIn K C name=some none) (hh:PySem.W.hasDictIn K C=true)
  (hw:PySem.Within mA ns) (hsz:ns.length<=sizeLine)
  (h:∀h',vj h' x dx C (λy=>if y=name then some v else mA y)->Heap.SameBut dx s.heap h'->Q () { s with heap:=h',toks:=s.toks+2 }) :
  wpAny (model prog w) A (setAttr (.ref x) name v) Q E s:=by
 obtain⟨od,J,hl⟩:=I.look;refine PySem.W.set_plain X J hs (PySem.W.osa_open (s:={ s with toks:=s.toks+1 }) (r:=none) X J hp ht λb=>?_)
 obtain⟨cd,hc,gM⟩:=PySem.W.any_some hh;have hx:s.heap.get? x=some ⟨.ref C,some dx,.plain,#[]⟩:=I.obj;refine aH (aP (aH (aH (wpAny_loadPart hx (aH (PySem.W.Looks.here (s:={ s with toks:=s.toks+1 }) (PySem.W.looks_clsIn X hc) ?_))))));rw[gM];refine aP (a:=some dx) (aH (aP (aH ?_)));refine wpAny_nsSet1 (s:={ s with toks:=s.toks+1 }) I.ns λh' xB ou=>?_;obtain⟨oD,esD,epD,hoD,hdD,hcD⟩:=xB.count (PySem.Within.cons name v hw);refine aH (wpAny_lookBehind hoD (by rw[hdD];exact pastItsLine_dict (cH hcD (by rw[fH];lia))) ?_)
 exact aP (h _ ⟨(ou.2 _ (fW I.ne)).trans I.obj,xB,I.ne⟩ ou)
theorem ac9{R:Result->Shared->Prop}{vs:List Value}(X:K.In s.heap)(hm:PySem.W.makesIn K C=true)
  (hi:PySem.W.findIn K (.ref C) "__init__" = some (⇑f)) (hf:PySem.W.typeIn K (.ref f)=some (.type "function"))
  (h:codeAny (model prog w) (A.under (.builtin "type.__call__" ⟨.ref C::vs,kw⟩)) (.call (.ref f) ⟨.ref (s.heap.objs.size+1)::vs,kw⟩) (PySem.W.InitBack (s.heap.objs.size+1) R)
   { s with heap:=(s.heap.push PySem.W.emptyDict).push (PySem.W.instObj C s.heap.objs.size)}) :
  codeAny (model prog w) A (.call (.ref C) ⟨vs,kw⟩) R s:=by
 obtain⟨hh,g,d,t,os⟩:=s;exact PySem.W.make_core (PySem.W.makes_of X hm) (PySem.W.looks_findIn X hi) (λself=>PySem.W.bind_fn X self hf) (.inl rfl) h
end
noncomputable def gY(f:Str)(v:V):List (Str×V)->List (Str×V)
 | []=>[(f,v)]
 | (g,x)::r=>if g=f then(g,v)::r else(g,x)::gY f v r
theorem U0(f g:Str)(v:V):∀fs:List (Str×V),(gY f v fs).lookup g=if g=f then some v else fs.lookup g
 | []=>by
  show List.lookup g [(f,v)] = _;by_cases h:g=f
  ·have hb:(g == f)=true:=mH.mpr h;simp only[List.lookup,hb,if_pos h]
  ·have hb:(g == f)=false:=k_.mpr h;simp only[List.lookup,hb,if_neg h]
 | (k,x)::r=>by
  have ih:=U0 f g v r;rw[show gY f v ((k,x)::r)=(if k=f then(k,v)::r else(k,x)::gY f v r) from rfl]
  by_cases hk:k=f
  ·rw[if_pos hk];by_cases h:g=k
   ·have hb:(g == k)=true:=mH.mpr h;simp only[List.lookup,hb,if_pos (h.trans hk)]
   ·have hb:(g == k)=false:=k_.mpr h;simp only[List.lookup,hb,if_neg (λe:g=f=>h (e.trans hk.symm))]
  ·rw[if_neg hk];by_cases h:g=k
   ·have hb:(g == k)=true:=mH.mpr h;simp only[List.lookup,hb,if_neg (λe:g=f=>hk (h.symm.trans e))]
   ·have hb:(g == k)=false:=k_.mpr h;simp only[List.lookup,hb];exact ih
theorem IT(f:Str)(v:V):∀fs:List (Str×V),f∈(gY f v fs).map (·.1)/\∀g,g∈fs.map (·.1)->g∈(gY f v fs).map (·.1)
 | []=>⟨by simp[gY],λg h=>by simp at h⟩
 | (k,x)::r=>by
  obtain⟨i1,i2⟩:=IT f v r;rw[show gY f v ((k,x)::r)=(if k=f then(k,v)::r else(k,x)::gY f v r) from rfl]
  by_cases hk:k=f
  ·rw[if_pos hk];subst hk;exact⟨by simp,λg h=>by simpa using h⟩
  ·rw[if_neg hk];refine⟨?_,λg h=>?_⟩
   ·rw[dh];exact cy _ i1
   ·rw[dh] at h ⊢;rcases cV.mp h with e | e
    ·exact List.mem_cons.mpr (.inl e)
    ·exact cy _ (i2 g e)
theorem U1(f:Str)(v:V):∀fs:List (Str×V),(gY f v fs).length<=fs.length+1
 | []=>by simp[gY]
 | (k,x)::r=>by
  have ih:=U1 f v r;rw[show gY f v ((k,x)::r)=(if k=f then(k,v)::r else(k,x)::gY f v r) from rfl]
  by_cases hk:k=f
  ·rw[if_pos hk,fH,fH];lia
  ·rw[if_neg hk,fH,fH];lia
theorem iW.some_of{v:V}{o:Option Value}(r:iW (some v) o):∃u,o=some u/\RelV v u:=by
 cases o with
 | none=>exact(show False from r).elim
 | some u=>exact⟨u,rfl,r⟩
theorem iW.none_of{o:Option Value}(r:iW none o):o=none:=by
 cases o with
 | none=>rfl
 | some u=>exact(show False from r).elim
theorem ac_{v:V}(r:RelV v u):PySem.W.handedIn u=true:=by
 cases v with
 | aY=>cases (show u=Value.none from r);rfl
 | bl b=>cases (show u=Value.bool b from r);rfl
 | int i=>obtain⟨t,e⟩:=(show ∃t,u=Value.int i t from r);cases e;rfl
 | str x=>obtain⟨t,e⟩:=(show ∃t,u=Value.str x t from r);cases e;rfl
 | jr b=>obtain⟨t,e⟩:=(show ∃t,u=Value.bytes b t from r);cases e;rfl
 | pO b=>obtain⟨t,e⟩:=(show ∃t,u=Value.float b t from r);cases e;rfl
 | ref a=>cases (show u=Value.ref a from r);rfl
 | ty n=>cases (show u=Value.type n from r);rfl
section
variable{H H':Hp}{fs Ur:List (Str×V)}
theorem Dy(aO:d8 P w H h)(e:H a=some (.ins C dx fs)):∃mA,vj h a dx C mA/\(∀f,iW (fs.lookup f) (mA f))/\PySem.Within mA (fs.map (·.1))/\fs.length<=1000/\H dx=some (.own a):=by
 obtain⟨d,z,ne,ob,mA,n,r,q⟩:=(show eG P w H h a (.ins C dx fs) from aO a _ e);exact⟨mA,⟨ob,n,ne⟩,r,q,z,d⟩
end
structure dO(K:W.Frag)(C:Addr):Prop where
 pg:PySem.W.plainGet K C Str.empty=true
 hd:PySem.W.hasDictIn K C=true
 po:PySem.W.plainOver K C=true
 sa:PySem.W.findIn K (.ref C) "__setattr__" = some (some (.builtin "object.__setattr__"))
theorem dO.get(c:dO K C)(f:Str):PySem.W.plainGet K C f=true:=c.pg
def cD(K:W.Frag)(C:Addr)(f:Str):Prop:=PySem.W.findIn K (.ref C) f=some none
theorem cD.ada{f:Str}(n:cD K C f):PySem.W.takerIn K C f=some none:=by
 unfold PySem.W.takerIn;rw[show PySem.W.findIn K (.ref C) f=some none from n]
 rfl
structure Meth(K:W.Frag)(C:Addr)(m:Str)(f:Addr):Prop where
 at_:PySem.W.findIn K (.ref C) m=some (⇑f)
 fn:PySem.W.isFn K (.ref f)=true
 kp:PySem.W.keepIn K (.ref f)=true
section
variable{X:Cx}{σ:St}{H:Hp}{fs:List (Str×V)}{f:Str}{v:V}
theorem U3{b:Bool}(I:Inv X pins σ H s)(e:H a=some (.ins C dx fs))(c:dO X.K C)(n:cD X.K C f)(l:fs.lookup f=some v)
  (h:∀u s',Inv X pins σ H s'->RelV v u->Q u s'):wpAny (model X.prog X.w) A (getAttr (.ref a) f b) Q E s:=by
 obtain⟨mA,O,r,_,_,_⟩:=Dy I.aO e;obtain⟨u,hu,ru⟩:=iW.some_of (v:=v) (o:=mA f) (by rw[← l];exact r f)
 exact get_map I.fD O (c.get f) c.hd n hu (ac_ ru) (h u _ (I.tok _) ru)
theorem IU{g:Addr}{pl:Sem Bool}{Q:Value×List Value->Shared->Prop}(I:Inv X pins σ H s)(e:H a=some (.ins C dx fs))(c:dO X.K C)(k:Meth X.K C m g)(l:fs.lookup m=none)
  (h:Q (.ref g,[.ref a]) s):wpAny (model X.prog X.w) A (getMethod (.ref a) m pl) Q E s:=by
 obtain⟨mA,O,r,_,_,_⟩:=Dy I.aO e;have hn:mA m=none:=iW.none_of (by rw[← l];exact r m)
 exact ac7 I.fD O (c.get m) k.at_ k.fn hn h
theorem U4{y:V}{Q:Unit->Shared->Prop}(I:Inv X pins σ H s)(e:H a=some (.ins C dx fs))(c:dO X.K C)(n:cD X.K C f)(hl:fs.length<1000)(ry:RelV y u)
  (h:∀s',Inv X pins σ (upd H a (.ins C dx (gY f y fs))) s'->Q () s'):wpAny (model X.prog X.w) A (setAttr (.ref a) f u) Q E s:=by
 obtain⟨mA,O,r,wi,_,ho⟩:=Dy I.aO e;have hz:(fs.map (·.1)).length<=sizeLine:=by rw[aM,sR];lia
 refine ac8 I.fD O c.sa c.po n.ada c.hd wi hz λh' O' sb=>h _ ?_;have hd:∃o,h'.get? dx=some o:=let ⟨o,_,_,e',_⟩:=O'.ns;⟨o,e'⟩
 refine I.write (x:=a) (e:=dx) (by rw[e];exact True.intro) (.inr ho) (λb q hb z=>(sb.2 b hb).trans z) hd ?_
 refine⟨by rw[aJ O.ne];exact ho,?_,O.ne,O'.obj,_,O'.ns,λg=>?_,λg hg=>?_⟩
 ·have:=U1 f y fs;lia
 ·show iW ((gY f y fs).lookup g) (if g=f then some u else mA g)
  rw[U0];by_cases q:g=f
  ·rw[if_pos q,if_pos q];exact ry
  ·rw[if_neg q,if_neg q];exact r g
 ·by_cases q:g=f
  ·rw[q];exact(IT f y fs).1
  ·refine(IT f y fs).2 g (wi g λz=>hg ?_)
   show (if g=f then some u else mA g)=none
   rw[if_neg q];exact z
theorem Inv.made(I:Inv X pins σ H s):Inv X pins σ (upd (upd H s.heap.objs.size (.own (s.heap.objs.size+1))) (s.heap.objs.size+1) (.ins C s.heap.objs.size []))
  { s with heap:=(s.heap.push PySem.W.emptyDict).push (PySem.W.instObj C s.heap.objs.size)}:=by
 have e1:(s.heap.push PySem.W.emptyDict).get? s.heap.objs.size=some PySem.W.emptyDict:=gf s.heap rfl;have e2:((s.heap.push PySem.W.emptyDict).push (PySem.W.instObj C s.heap.objs.size)).get? (s.heap.objs.size+1)=some (PySem.W.instObj C s.heap.objs.size):=by
  have:=gf (s.heap.push PySem.W.emptyDict) (o:=PySem.W.instObj C s.heap.objs.size) rfl;rwa [uE] at this
 have e3:(s.heap.push PySem.W.emptyDict).Ns s.heap.objs.size (λ_=>none):=⟨PySem.W.emptyDict,#[],_,e1,rfl,(λe he=>absurd he (by simp)),λ_=>rfl⟩
 have I1:=I.laid (a:=s.heap.objs.size) (o:=.own (s.heap.objs.size+1)) (h':=s.heap.push PySem.W.emptyDict) (t':=s.toks) (λb u q=>cU _ q) (bx _) ⟨_,e1⟩;refine I1.laid (a:=s.heap.objs.size+1) (o:=.ins C s.heap.objs.size []) (t':=s.toks) (λb u q=>cU _ q) (zw (uE _ _)) ?_;have ne:s.heap.objs.size≠s.heap.objs.size+1:=dj (CN _);refine⟨by rw[aJ ne,aE],eW _,ne,e2,λ_=>none,(Heap.Ns1.of_empty e3).at λo q=>cU _ q,λ_=>True.intro,λy hy=>absurd rfl hy⟩
theorem U5{prog:Program}{env:Env}{f:Str}(hb:attributeBase e f env (eval e env)=eval e env)
  (h:wpAny (model prog w) A (eval e env) (λo bC=>wpAny (model prog w) A (getAttr o f true) Q E bC) E s):wpAny (model prog w) A (eval (.Attribute e f pos) env) Q E s :=
 Attribute_any_ h (by rw[arm_eval_Attribute,hb])
end
def Dz(K:W.Frag)(ta:TE)(f:Str):TE:=λσ H Q=>ta σ H λx H1=>∃a C dx fs v,x = .ref a/\H1 a=some (.ins C dx fs)/\dO K C/\cD K C f/\fs.lookup f=some v/\Q v H1
def IV(K:W.Frag)(ta tv:TE)(f:Str):TS:=λD σ H=>tv σ H λy H1=>ta σ H1 λx H2=>∃a C dx fs,x = .ref a/\H2 a=some (.ins C dx fs)/\dO K C/\cD K C f/\fs.length<1000/\
 D.nx σ (upd H2 a (.ins C dx (gY f y fs)))
section
variable{X:Cx}{o value:Expr}{f:Str}{pos' adb:Pos}{ta tv:TE}
theorem U6(he:PE X e ta)(hb:attributeBase e f X.env (eval e X.env)=eval e X.env):PE X (.Attribute e f pos) (Dz X.K ta f):=by
 intro pins s σ H Q I h;refine U5 hb (aW (he pins s σ H _ I h) λu s1 bO=>?_);obtain⟨x,H1,I1,rx,a,C,dx,fs,v,ex,ea,c,n,l,q⟩:=bO;subst ex;obtain rfl:u=Value.ref a:=rx;exact U3 I1 ea c n l λu' s2 I2 ru=>⟨v,H1,I2,ru,q⟩
theorem IW(ha:PE X o ta)(hv:PE X value tv)(hs:swapsWith value (some (.Attribute o f pos')) pos.line X.env=pure false):PS X (.Assign [.Attribute o f pos'] value pos) (IV X.K ta tv f):=by
 intro pins s σ H D I h;refine Ul (aW (hv pins s σ H _ I h) λu s1 ⟨y,H1,I1,ry,q⟩=>aW (ha pins s1 σ H1 _ I1 q) λov s2 bO=>?_) hs;obtain⟨x,H2,I2,rx,a,C,dx,fs,ex,ea,c,n,l,q2⟩:=bO;subst ex;obtain rfl:ov=Value.ref a:=rx;exact U4 I2 ea c n l ry λs3 I3=>⟨σ,_,I3,q2⟩
end
section
variable{X:Cx}{σ:St}{H:Hp}{c:Value}{b:Bool}
inductive lU (K:W.Frag) (H:Hp):V->Value->Prop where
 | aY:lU K H .aY (.type "NoneType")
 | bl (x:Bool):lU K H (.bl x) (.type "bool")
 | int (i:Int):lU K H (.int i) (.type "int")
 | str (x:Str):lU K H (.str x) (.type "str")
 | pO (x:UInt64):lU K H (.pO x) (.type "float")
 | lst {a:Addr} {xs:List V} (e:H a=some (.lst xs)):lU K H (.ref a) (.type "list")
 | jL {a:Addr} {o:Obj} {xs:List V} (e:H a=some (.jL o (.lst xs))):lU K H (.ref a) (.type "list")
 | tup {a:Addr} {xs:List V} (e:H a=some (.tup xs)):lU K H (.ref a) (.type "tuple")
 | dK {a:Addr} {az:List (Key×V)} (e:H a=some (.dK az)):lU K H (.ref a) (.type "dict")
 | dT {a:Addr} {az:List (List Key×V)} (e:H a=some (.dT az)):lU K H (.ref a) (.type "dict")
 | ins {a C dx:Addr} {fs:List (Str×V)} (e:H a=some (.ins C dx fs)) (cl:dO K C) (ha:PySem.W.findIn K (.ref C) "__class__" = some (some (.builtin "object.__class__")))
   (hn:PySem.W.specialIn K (.builtin "object.__class__") "__get__" = some (some (.builtin "getset_descriptor.__get__"))) (U7:PySem.W.takesIn K (.builtin "object.__class__")=some true)
   (hm:PySem.W.mroIn K C (.type "object")=some true):lU K H (.ref a) (.ref C)
theorem ade{x:V}{t:Value}(I:Inv X pins σ H s)(rx:RelV x u)(ty:lU X.K H x t)(e:PySem.W.kitOne X.K t c=some b)(h:∀tk,Q (.bool b) { s with toks:=tk }) :
  wpAny (model X.prog X.w) A (call (.builtin "isinstance") [u,c]) Q E s:=by
 cases ty with
 | aY=>cases (show u=Value.none from rx);exact nZ PySem.W.kitx_none I.fD True.intro e (λz=>nomatch z) h
 | bl y=>cases (show u=Value.bool y from rx);exact nZ PySem.W.kitx_bool I.fD True.intro e (λz=>nomatch z) h
 | int i=>obtain⟨t,q⟩:=(show ∃t,u=Value.int i t from rx);cases q;exact nZ PySem.W.kitx_int I.fD True.intro e (λz=>nomatch z) h
 | str y=>obtain⟨t,q⟩:=(show ∃t,u=Value.str y t from rx);cases q;exact nZ PySem.W.kitx_str I.fD True.intro e (λz=>nomatch z) h
 | pO y=>obtain⟨t,q⟩:=(show ∃t,u=Value.float y t from rx);cases q;exact nZ PySem.W.kitx_float I.fD True.intro e (λz=>nomatch z) h
 | @lst a xs ea =>
  cases (show u=Value.ref a from rx);obtain⟨_,_,n,_,h1⟩:=(show eG X.prog X.w H s.heap a (.lst xs) from I.aO a _ ea);exact nZ PySem.W.kitx_list I.fD ⟨_,h1,rfl⟩ e (λz=>nomatch z) h
 | @jL a ob xs ea =>
  cases (show u=Value.ref a from rx);obtain⟨_,_,_,n,_,h1⟩:=(show eG X.prog X.w H s.heap a (.jL ob (.lst xs)) from I.aO a _ ea);exact nZ PySem.W.kitx_list I.fD ⟨_,h1,rfl⟩ e (λz=>nomatch z) h
 | @tup a xs ea =>
  cases (show u=Value.ref a from rx);obtain⟨_,_,_,p⟩:=(show eG X.prog X.w H s.heap a (.tup xs) from I.aO a _ ea);obtain⟨o,h1,h2,_⟩:=p;exact nZ PySem.W.kitx_tuple I.fD ⟨o,h1,h2⟩ e (λz=>nomatch z) h
 | @dK a az ea =>
  cases (show u=Value.ref a from rx);obtain⟨_,_,vs,_,p⟩:=(show eG X.prog X.w H s.heap a (.dK az) from I.aO a _ ea);obtain⟨o,es,ep,h1,h2,_⟩:=p;exact nZ PySem.W.kitx_dict I.fD ⟨o,h1,h2.1⟩ e (λz=>nomatch z) h
 | @dT a az ea =>
  cases (show u=Value.ref a from rx);obtain⟨_,_,xs,_,o,es,ep,h1,h2,_⟩:=(show eG X.prog X.w H s.heap a (.dT az) from I.aO a _ ea);exact nZ PySem.W.kitx_dict I.fD ⟨o,h1,h2.1⟩ e (λz=>nomatch z) h
 | @ins a C dx fs ea cl ha hn U7 hm =>
  cases (show u=Value.ref a from rx);obtain⟨mA,O,_⟩:=Dy I.aO ea;obtain⟨od,J,_⟩:=O.look;exact nZ (PySem.W.kitx_own (cl.get _) cl.hd ha hn U7 hm) I.fD J e (λz=>nomatch z) h
end
structure d9(k:Nat)(A:Around):Prop where
 hd:A.handled=none
 dp:A.depth+3*k+5<recursionLimit
 un:A.units+16*k+200<cLine
theorem d9.mono{k:Nat}(r:d9 k A)(h:j<=k):d9 j A:=⟨r.hd,by have:=r.dp;lia,by have:=r.un;lia⟩
theorem d9.deeper{k:Nat}{A:Around}(r:d9 (k+1) A)(env:Env):d9 k (A.deeper env) :=
 ⟨r.hd,by have:=r.dp;show A.depth+1+3*k+5<_;lia,by have:=r.un;show A.units+3+16*k+200<_;lia⟩
theorem adf:(A.under (.builtin "type.__call__" ⟨.ref C::us,kw⟩)).depth=A.depth+1:=by
 first | rfl | simp[Around.under,Code.weight,Code.isCreation,Code.isGuard,Code.isCaller,Code.frames,Code.isFrame,guardIds]
theorem adg:(A.under (.builtin "type.__call__" ⟨.ref C::us,kw⟩)).units=A.units+1:=by
 first | rfl | simp[Around.under,Code.cUnits,Code.frames,Code.isFrame]
theorem d9.make{k:Nat}(r:d9 (k+1) A)(C:Addr)(us:List Value)(kw:List (Str×Value)):d9 k (A.under (.builtin "type.__call__" ⟨.ref C::us,kw⟩)) :=
 ⟨r.hd,by have:=r.dp;rw[adf];lia,by have:=r.un;rw[adg];lia⟩
theorem d9.depth{k:Nat}{A:Around}(r:d9 k A):A.depth<recursionLimit:=by have:=r.dp;lia
theorem d9.units{k:Nat}{A:Around}(r:d9 k A):A.units+64<cLine:=by have:=r.un;lia
theorem d9.U8{k:Nat}(r:d9 k A):A.units<cLine:=by have:=r.un;lia
def Ac:TA:=λ_ H Q=>Q [] H
def DA(ta:TE)(tr:TA):TA:=λσ H Q=>ta σ H λx H1=>tr σ H1 λxs H2=>Q (x::xs) H2
section
variable{X:Cx}{te:TE}{t:TA}
theorem au:PA X [] Ac:=λ_ _ _ _ H Q I h=>zd ⟨[],H,I,.nil,h⟩
theorem ah(ha:PE X e te)(hr:PA X es t)(hs:starEach (e::es) X.env=(false,eval e X.env)::starEach es X.env:=by rfl):PA X (e::es) (DA te t):=by
 intro pos pins s σ H Q I h;rw[hs]
 show wpAny _ _ (spliced ((false,eval e X.env)::backTo pos (starEach es X.env))) _ _ s;refine wJ (aW (ha pins s σ H _ I h) λu s1 bO=>?_);obtain⟨x,H1,I1,r1,q1⟩:=bO;exact aW (hr pos pins s1 σ H1 _ I1 q1) λus s2 ⟨xs,H2,I2,r2,q2⟩=>⟨x::xs,H2,I2,.cons r1 r2,q2⟩
def IX(t:TA):TE:=λσ H Q=>t σ H λxs H1=>xs.length<=sizeLine/\∀p,H1 p=none->Q (.ref p) (upd H1 p (.tup xs))
def IY(t:TA):TE:=λσ H Q=>t σ H λxs H1=>xs.length<=sizeLine/\∀p,H1 p=none->Q (.ref p) (upd H1 p (.lst xs))
theorem dB{x1}(h:PA X es t):PE X (.Tuple es x1 pos) (IX t):=by
 intro pins s σ H Q I hq;refine wpAny_Tuple_spliced (aW (h pos pins s σ H _ I hq) λus s1 ⟨xs,H1,I1,r,z,q⟩=>⟨by rw[← r.length];exact z,?_⟩)
 have hf:H1 s1.heap.objs.size=none:=I1.aO.fresh (bx _);refine⟨.ref s1.heap.objs.size,upd H1 s1.heap.objs.size (.tup xs),I1.laid (t':=s1.toks) (λb u e=>cU _ e) (bx _) ?_,rfl,q _ hf⟩;exact⟨z,us,r,⟨_,gf _ rfl,rfl,_,rfl⟩⟩
theorem fj(h:PA X es t):PE X (.List es pos) (IY t):=by
 intro pins s σ H Q I hq;refine wpAny_List_spliced (aW (h pos pins s σ H _ I hq) λus s1 ⟨xs,H1,I1,r,z,q⟩=>⟨by rw[← r.length];exact z,?_⟩)
 have hf:H1 s1.heap.objs.size=none:=I1.aO.fresh (bx _);refine⟨.ref s1.heap.objs.size,upd H1 s1.heap.objs.size (.lst xs),I1.laid (t':=s1.toks) (λb u e=>cU _ e) (bx _) ?_,rfl,q _ hf⟩;exact⟨z,us,0,r,gf _ rfl⟩
end
noncomputable abbrev Sp:=List V->Hp->VK->XK->Prop
noncomputable abbrev jN:=List Env->Hp->Shared->XK->Value->Shared->Prop
structure tE(P:Program)(w:World)(K:W.Frag)(mg:Str->Option Value)(base:Heap)(A:Around)(outer:List Env)(s:Shared)(H:Hp):Prop where
 frames:A.frames=some outer
 mod:Mod K mg base
 bs:∀b o,base.get? b=some o->s.heap.get? b=some o/\H b=none
 jt:base.objs.size<=s.heap.objs.size
 lQ:s.heap.FunFrames base outer
 sW:∀b∈iX outer,H b=none
 aO:d8 P w H s.heap
 bare:AllBare s.gens
def CE(outer:List Env)(P:Program)(w:World)(H:Hp)(s:Shared)(Q:VK)(u:Value)(s':Shared):Prop :=
 ∃v H',s'.os=s.os/\AllBare s'.gens/\Un (iX outer) [] H H' s.heap s'.heap/\d8 P w H' s'.heap/\RelV v u/\Q v H'
def CR(CX:jN)(outer:List Env)(P:Program)(w:World)(H:Hp)(s:Shared)(Q:VK)(E:XK)(r:Result)(s':Shared):Prop :=
 match r with
 | .ok (.ret u)=>CE outer P w H s Q u s'
 | .ok _=>False
 | .error e=>CX outer H s E e s'
structure bq(P:Program)(w:World)(K:W.Frag)(mg:Str->Option Value)(base:Heap)(CX:jN)(k:Nat)(f:Addr)(fd:FuncData)(ps:List Str)(sp:Sp):Prop where
 len:∀vs H Q E,sp vs H Q E->vs.length=ps.length
 run:∀(A:Around) (outer:List Env) (s:Shared) (H:Hp) (args:Args) (us:List Value) (vs:List V) (Q:VK) (E:XK),d9 k A->tE P w K mg base A outer s H->BindsTo s fd args (ps.zip us)->Vals vs us->sp vs H Q E->
  codeAny (model P w) A (.call (.ref f) args) (CR CX outer P w H s Q E) s
theorem bq.mono{P:Program}{w:World}{K:W.Frag}{mg:Str->Option Value}{base:Heap}{CX:jN}{j k:Nat}{f:Addr}{fd:FuncData}{ps:List Str}{sp:Sp}(F:bq P w K mg base CX j f fd ps sp)(h:j<=k) :
  bq P w K mg base CX k f fd ps sp:=⟨F.len,λA outer s H args us vs Q E hr=>F.run A outer s H args us vs Q E (hr.mono h)⟩
theorem tE.make{outer:List Env}{H:Hp}(e:tE P w K mg base A outer s H)(C:Addr)(us:List Value)(kw:List (Str×Value)) :
  tE P w K mg base (A.under (.builtin "type.__call__" ⟨.ref C::us,kw⟩)) outer s H:=⟨by first | exact e.frames | (simpa[Around.under,Code.envs,Code.isFrame,pushEnvs] using e.frames),e.mod,e.bs,e.jt,e.lQ,e.sW,e.aO,e.bare⟩
section
variable{X:Cx}{σ:St}{H:Hp}
theorem Inv.U9(I:Inv X pins σ H s):tE X.prog X.w X.K X.mg X.base X.A X.stack s H :=
 ⟨I.ok.frames,I.ok.mod,I.bs,cH I.ok.jt I.sz,I.stack,I.Ib,I.aO,I.bare⟩
theorem Inv.after{Q:VK}(I:Inv X pins σ H s)(h:CE X.stack X.prog X.w H s Q u s'):EP X pins σ Q u s':=by
 obtain⟨v,H',os,bare,un,aO,r,q⟩:=h;obtain⟨hh,g,d,t,os'⟩:=s';obtain rfl:os' = s.os:=os;exact⟨v,H',I.call (h':=hh) (g':=g) (d':=d) (t':=t) (ch:=[]) un aO bare (λb z=>absurd z (by simp)),r,q⟩
end
def DB(sp:Sp)(cW:List V)(E:XK)(t:TA):TE:=λσ H Q=>t σ H λvs H1=>sp (vs++cW) H1 Q E
def IZ(C:Addr)(m:Str)(sp:Sp)(cW:List V)(E:XK)(ta:TE)(t:TA):TE:=λσ H Q=>ta σ H λx H1=>∃a dx fs,x = .ref a/\H1 a=some (.ins C dx fs)/\fs.lookup m=none/\
 t σ H1 λvs H2=>sp (x::(vs++cW)) H2 Q E
def I0(C:Addr)(sp:Sp)(cW:List V)(E:XK)(t:TA):TE:=λσ H Q=>t σ H λvs H1=>∀x dx,H1 x=none->H1 dx=none->dx≠x->
 sp (.ref x::(vs++cW)) (upd (upd H1 dx (.own x)) x (.ins C dx [])) (λv H2=>v = .aY/\Q (.ref x) H2) E
def Binds(K:W.Frag)(fd:FuncData)(ps:List Str)(ds:List Value):Prop :=
 ∀(s:Shared) (us:List Value),K.In s.heap->(us++ds).length=ps.length->BindsTo s fd ⟨us,[]⟩ (ps.zip (us++ds))
theorem Binds.all(h:∀us:List Value,us.length=ps.length->bindArgs fd ⟨us,[]⟩=pure (ps.zip us)):Binds K fd ps []:=λs us _ hl=>by
 rw[jF] at hl ⊢;exact .of_eq (h us hl)
def Passes(CX:jN)(X:Cx)(E:XK):Prop:=∀(pins:List (Addr×Obj)) (σ:St) (H:Hp) (s:Shared) (e:Value) (s':Shared),Inv X pins σ H s->CX X.stack H s E e s'->X.xe e s'
section
variable{X:Cx}{CX:jN}{k:Nat}{f:Addr}{sp:Sp}{cW:List V}{ds:List Value}{E:XK}{x:Str}{apos:Pos}{o:Expr}{ta:TE}{t:TA}
theorem Ad{σ:St}{H:Hp}{Q:VK}{vs:List V}(F:bq X.prog X.w X.K X.mg X.base CX k f fd ps sp)(hr:d9 k X.A)(hb:Binds X.K fd ps ds)(hd:Vals cW ds)(hx:Passes CX X E)
  (I:Inv X pins σ H s) (r:Vals vs us) (h:sp (vs++cW) H Q E):wpAny (model X.prog X.w) X.A (call (.ref f) us) (EP X pins σ Q) X.xe s:=by
 have r2:Vals (vs++cW) (us++ds):=r.append hd;have hl:(us++ds).length=ps.length:=by rw[← r2.length];exact F.len _ _ _ _ h
 refine wpAny_call (w5 (F.run X.A X.stack s H ⟨us,[]⟩ (us++ds) (vs++cW) Q E hr I.U9 (hb s us I.fD hl) r2 h) λr s' hq=>?_);cases r with
 | error e=>exact hx pins σ H s e s' I hq
 | ok fl =>
  cases fl with
  | ret u=>exact I.after hq
  | next=>exact False.elim hq
  | brk=>exact False.elim hq
  | cont=>exact False.elim hq
theorem bu(F:bq X.prog X.w X.K X.mg X.base CX k f fd ps sp)(hr:d9 k X.A)(hg:Gl X x)(hm:X.mg x=⇑f)(hk:PySem.W.keepIn X.K (.ref f)=true)(hb:Binds X.K fd ps ds)(hd:Vals cW ds)(hx:Passes CX X E)
  (ha:PA X (e::es) t) (oz:(x == ("__debug__" : Str))=false:=by decide) (he:starEach (e::es) X.env=(false,eval e X.env)::starEach es X.env:=by rfl) (jO:(backTo pos (starEach es X.env)).any (·.1)=false:=by rfl) :
  PE X (.Call (.Name x p) (e::es) [] pos) (DB sp cW E t):=by
 intro pins s σ H Q I h;refine w6 (Dj I hg hm ?_ oz);refine zF (h₀:=X.base) I.ok.mod.uT hk (aW (ha pos pins s σ H _ I h) λus s1 ⟨vs,H1,I1,r,q⟩=>⟨I1.fD,?_⟩) he jO;exact Ad F hr hb hd hx I1 r q
theorem xC{pl:Sem Bool}(he:PE X o ta)(c:dO X.K C)(hm:Meth X.K C m f)(F:bq X.prog X.w X.K X.mg X.base CX k f fd ps sp)(hr:d9 k X.A)(hb:Binds X.K fd ps ds)(hd:Vals cW ds)(hx:Passes CX X E)(ha:PA X (e::es) t)
  (iC:starEach (e::es) X.env=(false,eval e X.env)::starEach es X.env:=by rfl) (jO:(backTo pos (starEach es X.env)).any (·.1)=false:=by rfl)
  (ht:eval (.Call (.Attribute o m apos) (e::es) [] pos) X.env=(do
   let ov ← eval o X.env
   standAt apos.atName
   let (f,first) ← holding [ov] (getMethod ov m pl)
   callWith pos f first (backTo pos (starEach (e::es) X.env)) (backToKw pos (keywordEach [] X.env))):=by rfl) :
  PE X (.Call (.Attribute o m apos) (e::es) [] pos) (IZ C m sp cW E ta t):=by
 intro pins s σ H Q I h;refine C2 (pl:=pl) (aW (he pins s σ H _ I h) λu s1 bO=>?_) ht;obtain⟨x,H1,I1,rx,a,dx,fs,ex,ea,l,q⟩:=bO;subst ex;obtain rfl:u=Value.ref a:=rx;refine IU I1 ea c hm l ?_;refine zF (first:=[.ref a]) (h₀:=X.base) I.ok.mod.uT hm.kp (aW (ha pos pins s1 σ H1 _ I1 q) λus s2 ⟨vs,H2,I2,r,q2⟩=>⟨I2.fD,?_⟩) iC jO
 exact Ad (us:=.ref a::us) (vs:=.ref a::vs) F hr hb hd hx I2 (.cons rfl r) q2
structure Mk(K:W.Frag)(C f:Addr):Prop where
 makes:PySem.W.makesIn K C=true
 init:PySem.W.findIn K (.ref C) "__init__" = some (⇑f)
 fn:PySem.W.isFn K (.ref f)=true
 kp:PySem.W.keepIn K (.ref C)=true
theorem adh{σ:St}{H:Hp}{Q:VK}{vs:List V}(M:Mk X.K C f)(F:bq X.prog X.w X.K X.mg X.base CX k f fd ps sp)(hr:d9 (k+1) X.A)(hb:Binds X.K fd ps ds)(hd:Vals cW ds)
  (hx:Passes CX X E) (I:Inv X pins σ H s) (r:Vals vs us)
  (h:∀x dx,H x=none->H dx=none->dx≠x->sp (.ref x::(vs++cW)) (upd (upd H dx (.own x)) x (.ins C dx [])) (λv H2=>v = .aY/\Q (.ref x) H2) E) :
  wpAny (model X.prog X.w) X.A (call (.ref C) us) (EP X pins σ Q) X.xe s:=by
 have hq:=h (s.heap.objs.size+1) s.heap.objs.size (I.aO.fresh (uL _)) (I.aO.fresh (bx _)) (dj (CN _));have I2:=Inv.made (C:=C) I;have r2:Vals (V.ref (s.heap.objs.size+1)::(vs++cW)) (Value.ref (s.heap.objs.size+1)::(us++ds)):=.cons rfl (r.append hd);have hl:(Value.ref (s.heap.objs.size+1)::us++ds).length=ps.length:=by
  have e:=r2.length;rw[F.len _ _ _ _ hq] at e;exact e.symm
 refine wpAny_call (ac9 (f:=f) I.fD M.makes M.init (mH.mp M.fn) (w5 (F.run _ X.stack _ _ ⟨Value.ref (s.heap.objs.size+1)::us,[]⟩ (Value.ref (s.heap.objs.size+1)::(us++ds)) _ _ E (hr.make C us [])
  (I2.U9.make C us []) (hb _ (Value.ref (s.heap.objs.size+1)::us) I2.fD hl) r2 hq) λr s' oA=>?_))
 cases r with
 | error e=>exact hx pins σ _ _ e s' I2 oA
 | ok fl =>
  cases fl with
  | ret u =>
   obtain⟨v,H',I3,rv,ev,q3⟩:=I2.after oA;subst ev;exact⟨rv,⟨V.ref (s.heap.objs.size+1),H',I3,rfl,q3⟩⟩
  | next=>exact False.elim oA
  | brk=>exact False.elim oA
  | cont=>exact False.elim oA
theorem tF(M:Mk X.K C f)(F:bq X.prog X.w X.K X.mg X.base CX k f fd ps sp)(hr:d9 (k+1) X.A)(hg:Gl X x)(hm:X.mg x=⇑C)(hb:Binds X.K fd ps ds)(hd:Vals cW ds)(hx:Passes CX X E)
  (ha:PA X (e::es) t) (oz:(x == ("__debug__" : Str))=false:=by decide) (he:starEach (e::es) X.env=(false,eval e X.env)::starEach es X.env:=by rfl) (jO:(backTo pos (starEach es X.env)).any (·.1)=false:=by rfl) :
  PE X (.Call (.Name x p) (e::es) [] pos) (I0 C sp cW E t):=by
 intro pins s σ H Q I h;refine w6 (Dj I hg hm ?_ oz);refine zF (h₀:=X.base) I.ok.mod.uT M.kp (aW (ha pos pins s σ H _ I h) λus s1 ⟨vs,H1,I1,r,q⟩=>⟨I1.fD,?_⟩) he jO;exact adh M F hr hb hd hx I1 r q
end
def PK(X:Cx)(U_:List Keyword)(t:TA):Prop :=
 ∀(pos:Pos) (pins:List (Addr×Obj)) (s:Shared) (σ:St) (H:Hp) (Q:List V->Hp->Prop),Inv X pins σ H s->t σ H Q->wpAny (model X.prog X.w) X.A (evalAll ((backToKw pos (keywordEach U_ X.env)).map (·.2))) (AP X pins σ Q) X.xe s
section
variable{X:Cx}{CX:jN}{k:Nat}{f:Addr}{ks:List Str}{sp:Sp}{E:XK}{x:Str}{apos aqh:Pos}{o:Expr}{U_:List Keyword}{te ta:TE}{t tk:TA}{nm:Option Str}
variable{g:List Value->List Value->List Value}{gV:List V->List V->List V}
end
structure bL(N P:List Str)(sc:Scope):Prop where
 kind:sc.kind = .function
 co:sc.isCoroutine=false
 gen:sc.isGenerator=false
 nd:N.Nodup
 pre:N.take P.length=P
 par:∀x∈P,sc.names.lookup x=some .local\/sc.names.lookup x=some .cell
 adi:∀y∈sc.names,y.2≠.free
theorem Va{kindOf:Str->Option NameKind}{x:Str}:∀ {binds:List (Str×Value)} {m:Str->Option Value},(∀v,(x,v)∉binds)->bindL kindOf binds m x=m x
 | [],_,_=>rfl
 | (n,v)::r,m,h=>by
  unfold bindL;rw[Va λw hw=>h w (cy _ hw)];split
  ·have:x≠n:=by rintro rfl;exact h v cL
   simp[this]
  ·rfl
theorem Vb{kindOf:Str->Option NameKind}{x:Str}:∀ {binds:List (Str×Value)} {m:Str->Option Value},(∀v,(x,v)∉binds)->bindC kindOf binds m x=m x
 | [],_,_=>rfl
 | (n,v)::r,m,h=>by
  unfold bindC;rw[Vb λw hw=>h w (cy _ hw)];split
  ·rfl
  ·have:x≠n:=by rintro rfl;exact h v cL
   simp[this]
theorem Vc{kindOf:Str->Option NameKind}{x:Str}{v:Value}:∀ {P:List Str} {vs:List Value} {i:Nat} {m:Str->Option Value},P.Nodup->P[i]? = some x->vs[i]? = some v->kindOf x=some .local->
  bindL kindOf (P.zip vs) m x=some v
 | [],_,_,_,_,h,_,_=>by simp at h
 | _::_,[],_,_,_,_,h,_=>by simp at h
 | p::P,w::vs,0,m,nd,h1,h2,hk=>by
  simp at h1 h2;subst h1;subst h2
  show bindL kindOf ((p,w)::P.zip vs) m p=_;unfold bindL;rw[Va λv hv=>(jk.mp nd).1 (CJ hv).1,if_pos hk];simp
 | p::P,w::vs,i+1,m,nd,h1,h2,hk=>by
  show bindL kindOf ((p,w)::P.zip vs) m x=_;unfold bindL;exact Vc (i:=i) (jk.mp nd).2 ↑h1 ↑h2 hk
theorem Vd{kindOf:Str->Option NameKind}{x:Str}{v:Value}:∀ {P:List Str} {vs:List Value} {i:Nat} {m:Str->Option Value},P.Nodup->P[i]? = some x->vs[i]? = some v->kindOf x≠some .local->
  bindC kindOf (P.zip vs) m x=some v
 | [],_,_,_,_,h,_,_=>by simp at h
 | _::_,[],_,_,_,_,h,_=>by simp at h
 | p::P,w::vs,0,m,nd,h1,h2,hk=>by
  simp at h1 h2;subst h1;subst h2
  show bindC kindOf ((p,w)::P.zip vs) m p=_;unfold bindC;rw[Vb λv hv=>(jk.mp nd).1 (CJ hv).1,if_neg hk];simp
 | p::P,w::vs,i+1,m,nd,h1,h2,hk=>by
  show bindC kindOf ((p,w)::P.zip vs) m x=_;unfold bindC;exact Vd (i:=i) (jk.mp nd).2 ↑h1 ↑h2 hk
noncomputable def start(N:List Str)(vs:List V):St:=vs.map some++List.replicate (N.length - vs.length) none
noncomputable def qN(CX:jN)(P:Program)(w:World)(K:W.Frag)(mg:Str->Option Value)(base:Heap)(N:List Str)(qual:Str)(scope:Scope)(f:Addr)(cd:Value)(A:Around)(outer:List Env)(s:Shared)(H:Hp)(E:XK):Cx where
 prog:=P
 w:=w
 K:=K
 mg:=mg
 base:=base
 A:=A.deeper (envOfC qual scope s.heap.objs.size f cd)
 N:=N
 eX:=s
 uU:=H
 env:=envOfC qual scope s.heap.objs.size f cd
 outer:=outer
 stack:=envOfC qual scope s.heap.objs.size f cd::outer
 ex:=[]
 calm:=true
 fn:=λ_=>true
 pn:=[]
 xe:=λe s'=>wpAny (model P w) (A.deeper (envOfC qual scope s.heap.objs.size f cd)) (leaving (envOfC qual scope s.heap.objs.size f cd) e) (λ_ xD=>CX outer H s E e xD) (λe' xD=>CX outer H s E e' xD) s'
theorem Ve{sc:Scope}{x:Str}(h:sc.names.lookup x=some .cell):∃c,(cellsFrom n sc.names []).lookup x=some c:=by
 have q:=C1 sc.names n [] (.inl h);exact wY.mp q
theorem adk{CX:jN}{N:List Str}{qual:Str}{scope:Scope}{f:Addr}{cd:Value}{outer:List Env}{s1:Shared}{H:Hp}{E:XK}{vs:List V}
  (S:bL N ps scope) (hd:A.handled=none) (e0:tE P w K mg base A outer s H) (hl:vs.length=ps.length) (r:Vals vs us)
  (x:InCallC s s.heap.objs.size (bindL (envOfC qual scope s.heap.objs.size f cd).kindOf (ps.zip us) λ_=>none) (cellsFrom (s.heap.objs.size+1) scope.names []) (bindC (envOfC qual scope s.heap.objs.size f cd).kindOf (ps.zip us) λ_=>none) s1) :
  Inv (qN CX P w K mg base N qual scope f cd A outer s H E) [] (start N vs) H s1:=by
 have jO:ps.length<=N.length:=by have:=fX List.length S.pre;rw[dw] at this;lia
 obtain⟨h1,tk,rfl,hk⟩:=x.done;have Ae:∀b:Addr,b∉(qN CX P w K mg base N qual scope f cd A outer s H E).ex:=λb z=>absurd (show b∈([]:_A) from z) (by simp)
 refine⟨⟨e0.mod,S.kind,rfl,rfl,bx _,λy z c h1 h2=>?_,λy hy=>?_,λy c _ h=>?_,λ_=>hd,Around.frames_deeper e0.frames,.inr ⟨rfl,rfl⟩,λb z=>absurd z (Ae b),e0.bs,e0.jt,λb _ _=>Ae b,λb z=>absurd z (Ae b),e0.lQ,e0.sW⟩,
  rfl,e0.bare,Un.kept hk,⟨_,x.toInCall.ns,λi y v h1 h2 h3=>?_⟩,λy c h=>⟨_,x.cell y c h⟩,e0.aO.fresh (bx _),λy c h=>?_,λp hp=>absurd (show p∈([]:List (Addr×Obj)) from hp) (by simp),e0.aO.kept hk,?_⟩
 ·exact name_of_addr x.apart (w4 h1) (w4 h2)
 ·have hy:scope.names.lookup y=some .cell\/scope.names.lookup y=some .free:=hy;rcases hy with hy | hy
  ·exact Ve hy
  ·exact absurd rfl (S.adi _ (w4 hy))
 ·exact kZ (x.above y c (w4 h))
 ·have hi:i<vs.length:=by
   unfold start at h2;by_cases hi:i<vs.length
   ·exact hi
   ·rw[eV ↑hi] at h2
    rw[List.getElem?_replicate] at h2;split at h2 <;> cases h2
  have ha:vs[i]? = some v:=by
   unfold start at h2;rw[eU ↑hi,jH] at h2
   cases e:vs[i]? with
   | none=>rw[e] at h2;cases h2
   | some a=>rw[e] at h2;cases h2;rfl
  obtain⟨u,hu,rv⟩:=r.get ha;have hp:ps[i]? = some y:=by
   rw[← S.pre,List.getElem?_take_of_lt ∅];exact h1
  have Vf:ps.Nodup:=by rw[← S.pre];exact S.nd.sublist (HG _ _)
  refine⟨u,rv,?_⟩;rcases S.par y (gz hp) with k | k
  ·exact .inl ⟨k,Vc Vf hp hu k⟩
  ·obtain⟨c,e⟩:=Ve (n:=s.heap.objs.size+1) k;refine .inr ⟨.inl k,c,e,?_⟩;have q:=x.cell y c e;rw[Vd Vf hp hu (by show scope.names.lookup y≠_;rw[k];decide)] at q
   exact q
 ·exact e0.aO.fresh (kZ (x.above y c (w4 h)))
 ·unfold start
  show _=N.length;rw[e7,aM,List.length_replicate];lia
theorem I_{CX:jN}{k:Nat}{f:Addr}{name qual:Str}{params:Arguments}{body:List Stmt}{scope:Scope}{dV kV doc pm aR ct oc:Value}{an od:Option Addr}
  {kC:Array (Option Value)} {N ps:List Str} {sp:Sp} (lk:K.lookup f=some ⟨oc,od,.func (PySem.W.fnOf name qual params body scope dV kV doc pm an aR ct),kC⟩) (fE:PySem.W.codeIn K aR qual=true) (S:bL N ps scope)
  (len:∀vs H Q E,sp vs H Q E->vs.length=ps.length)
  (vm:∀(A:Around) (outer:List Env) (s:Shared) (H:Hp) (vs:List V) (Q:VK) (E:XK),d9 k (A.deeper (envOfC qual scope s.heap.objs.size f aR))->sp vs H Q E->
   ∃t,iZ (qN CX P w K mg base N qual scope f aR A outer s H E) body t/\t { nx:=λ_ H'=>Q .aY H',rt:=Q } (start N vs) H) :
  bq P w K mg base CX (k+1) f (PySem.W.fnOf name qual params body scope dV kV doc pm an aR ct) ps sp:=by
 refine⟨len,λA outer s H args us vs Q E hr e0 hb r eB=>?_⟩;have hl:=len _ _ _ _ eB;have KX:K.In s.heap:=e0.mod.uT.keeps λb o e=>(e0.bs b o e).1;have lim:s.heap.NoLimit:=e0.mod.nolimit.keeps λb o e=>(e0.bs b o e).1;have adl:∀y∈ps.zip us,scope.names.lookup y.1=some .local\/(scope.names.lookup y.1=some .cell/\((cellsFrom (s.heap.objs.size+1) scope.names []).lookup y.1).isSome=true):=λ⟨n,v⟩ hy=>by
  rcases S.par n (CJ hy).1 with q | q
  ·exact .inl q
  ·exact .inr ⟨q,C1 _ _ _ (.inl q)⟩
 refine codeAny_call_function hr.depth (KX _ _ lk) rfl S.co S.gen rfl (PySem.W.codeRec_of KX fE) (hb _ _ _ _ ?_);refine wpAny_newFunctionEnv_cells S.kind adl λenv he s1 x=>?_;subst he;refine⟨lim.keeps x.toInCall.keep,codeAny_func ?_⟩;obtain⟨t,ht,hq⟩:=vm A outer s H vs Q E (hr.deeper _) eB;have I:Inv (qN CX P w K mg base N qual scope f aR A outer s H E) [] (start N vs) H s1:=adk S hr.hd e0 hl r x;refine jq (ht [] s1 (start N vs) H _ I hq) (λfl s' hs=>?_) λe s' hs=>hs;have fin:∀ {bV:St} {H':Hp} {v:V} {u:Value},Inv (qN CX P w K mg base N qual scope f aR A outer s H E) [] bV H' s'->RelV v u->Q v H'->CE outer P w H s Q u s' :=
  λ{bV H' v u} J rv q=>⟨v,H',J.os,J.bare,J.base,J.aO,rv,q⟩
 cases fl with
 | ret u =>
  obtain⟨v,bV,H',J,rv,q⟩:=hs;exact fin J rv q
 | next =>
  obtain⟨bV,H',J,q⟩:=hs;exact fin (v:=V.aY) (u:=Value.none) J rfl q
 | brk =>
  obtain⟨_,_,_,q⟩:=hs;exact False.elim q
 | cont =>
  obtain⟨_,_,_,q⟩:=hs;exact False.elim q
section
variable{X:Cx}{x:Str}{t:TA}{id T:String}{r:List V->Hp->VK->Prop}
def DC(r:List V->Hp->VK->Prop)(t:TA):TE:=λσ H Q=>t σ H λvs H1=>r vs H1 Q
theorem cB(hc:i9 X (.builtin id) r)(hg:Gl X x)(hm:X.mg x=none)(hv:bootBuiltins x=some (.builtin id))(ha:PA X (e::es) t)(hn:x≠"__name__" := by decide)(oz:(x == ("__debug__" : Str))=false:=by decide)
  (he:starEach (e::es) X.env=(false,eval e X.env)::starEach es X.env:=by rfl) (jO:(backTo pos (starEach es X.env)).any (·.1)=false:=by rfl):PE X (.Call (.Name x p) (e::es) [] pos) (DC r t):=by
 intro pins s σ H Q I h;refine w6 (pT I hg hm hv ?_ hn oz);exact Ui (aW (ha pos pins s σ H _ I h) λus s1 ⟨vs,H1,I1,r1,q1⟩=>hc pins s1 σ H1 vs us Q I1 r1 q1) he jO
theorem jP(hc:i9 X (.type T) r)(hg:Gl X x)(hm:X.mg x=none)(hv:bootBuiltins x=some (.type T))(ha:PA X (e::es) t)(hn:x≠"__name__" := by decide)(oz:(x == ("__debug__" : Str))=false:=by decide)
  (he:starEach (e::es) X.env=(false,eval e X.env)::starEach es X.env:=by rfl) (jO:(backTo pos (starEach es X.env)).any (·.1)=false:=by rfl):PE X (.Call (.Name x p) (e::es) [] pos) (DC r t):=by
 intro pins s σ H Q I h;refine w6 (pT I hg hm hv ?_ hn oz);exact wZ (aW (ha pos pins s σ H _ I h) λus s1 ⟨vs,H1,I1,r1,q1⟩=>hc pins s1 σ H1 vs us Q I1 r1 q1) he jO
end
end _L
abbrev _V:=List _L.V
section
open PySem PySem.Spec PyProof.Rows
variable{A:Around}{C CA CD D I S a ap b c' cA d dl dx f fa it kd kl l p sa:Addr}{CX:_L.jN}{E Q:Value->Shared->Prop}{H H' H0 H1 H2:_L.Hp}{K:W.Frag}{N loose ps:List Str}{P prog:Program}{R:Result->Shared->Prop}{T:String}{X:_L.Cx}{YP:World->Heap->Prop}{aC ds:List Value}{aX bH cs cu fp os ts:_A}{ak sk:Int}{apos gj p2 pos pos':Pos}{az:List (List _L.Key×_L.V)}{base h h':Heap}{bg ks rc sw:_I}{body e elt iter tg value:Expr}{bz nc us z:_Z}{c q st:Int×Int}{cW vs ys:_V}{cl:List (Str×Addr)}{env:Env}{ep i j m mask n t' tk:Nat}{es:Array (Int×Value)}{fd:FuncData}{fv is:List Nat}{g:Int->Int->_L.V}{ifs:List Expr}{led:Bool}{mg:Str->Option Value}{ms:List (Nat×(Int×Int)×(Int×Int))}{name qual:Str}{ob:_L.HO}{od:Option Addr}{outer:List Env}{params:Arguments}{pins:List (Addr×Obj)}{pm u v:Value}{r:_L.V->_V->_L.Hp->_L.VK->Prop}{r':_L.R2}{s s':Shared}{scope:Scope}{sp:_L.Sp}{tb td te tl to tv ty:_L.TE}{tt:_L.TT}{w:World}{xs:List (List _L.Key×Addr×Value)}{y:_L.V}{α β:Type}{σ:_L.St}
namespace _H
open PySem PyProof.Rows
noncomputable def lexLt:_I->_I->Bool
 | [],[]=>false
 | [],_::_=>true
 | _::_,[]=>false
 | x::xs,y::ys=>if x=y then lexLt xs ys else decide (x<y)
section
open PySem.SeqAt
open PySem.AutoSeq1 (wpAny_loadPart')
open PySem.MeetsSeq PySem.MeetsSeq2 PySem.MeetsSeq3
end
section
theorem adm{t:Addr}{vs ws:List Value}(ht:IsTup s.heap t vs.toArray)(hb:IsTup s.heap b ws.toArray)(hv:vs≠[])
  (h1:ws = []->Q (.ref t) s) (h2:ws≠[]->Q (.ref s.heap.objs.size) { s with heap:=s.heap.push { cls:=.type "tuple",data:=.seq (vs++ws).toArray }})
  (hsz:vs.length+ws.length<=sizeLine):wpAny (model prog w) A (binaryOp .Add (.ref t) (.ref b)) Q E s:=by
 obtain⟨⟨cls,dd,data,sl⟩,ho,hc,n,hd⟩:=id ht;obtain⟨⟨adn,DE,data2,DF⟩,oB,Af,n2,hd2⟩:=id hb;simp only at hc hd Af hd2;subst hc hd Af hd2;have e:vs.toArray++ws.toArray=(vs++ws).toArray:=by simp
 by_cases hw:ws = []
 ·exact concat_meets ⟨_,ho,rfl⟩ ⟨_,oB,rfl⟩ noFill_tuple_add seq_tuple_add PySem.F.slot_tuple_add PySem.F.entry_tuple_add (PySem.F.args_tuple_add_2 _ _)
   (tuple_addW1 t b vs.toArray ws.toArray n n2 dd DE sl DF ↑hv (by simp[hw])) ⟨ho,oB,h1 hw⟩
 ·refine concat_meets ⟨_,ho,rfl⟩ ⟨_,oB,rfl⟩ noFill_tuple_add seq_tuple_add PySem.F.slot_tuple_add PySem.F.entry_tuple_add (PySem.F.args_tuple_add_2 _ _)
   (tuple_addW2 t b vs.toArray ws.toArray n n2 dd DE sl DF ↑hv ↑hw (by rw[List.size_toArray,List.size_toArray];exact hsz)) ⟨ho,oB,?_⟩
  rw[e];exact h2 hw
noncomputable def bU(n d:Nat):Option Int->Nat
 | none=>d
 | some v=>if v<0 then(v+(n:Int)).toNat else min v.toNat n
theorem ado(n d k:Nat):bU n d (some (k:Int))=min k n:=by
 show (if (k:Int)<0 then((k:Int)+(n:Int)).toNat else min (k:Int).toNat n)=min k n
 rw[if_neg ∅,Int.toNat_natCast]
theorem adp(n d:Nat)(hd:d<=n)(o:Option Int):bU n d o<=n:=by
 cases o with
 | none=>exact hd
 | some v =>
  show (if v<0 then(v+(n:Int)).toNat else min v.toNat n)<=n
  by_cases hv:v<0
  ·rw[if_pos hv];lia
  ·rw[if_neg hv];exact Nat.min_le_right _ _
theorem Vg(v:Int)(n d:Nat):(if v<0 then max (v+(n:Int)) 0 else min v (n:Int))=((bU n d (some v):Nat):Int):=by
 show (if v<0 then max (v+(n:Int)) 0 else min v (n:Int))=(((if v<0 then(v+(n:Int)).toNat else min v.toNat n):Nat):Int)
 by_cases hv:v<0
 ·simp only[if_pos hv];lia
 ·simp only[if_neg hv];lia
theorem adq(lo hi:Option Int)(n:Nat):Builtin.Slice.sliceAdjust lo hi 1 (n:Int)=(((bU n 0 lo:Nat):Int),((bU n n hi:Nat):Int)):=by
 have h1:¬ ((1:Int)<0):=by lia
 unfold Builtin.Slice.sliceAdjust;simp only[h1,if_false];refine Prod.ext ?_ ?_
 ·cases lo with
  | none=>rfl
  | some v=>exact Vg v n 0
 ·cases hi with
  | none=>rfl
  | some v=>exact Vg v n n
theorem ads(i j:Nat):Builtin.Slice.slicePlaces (i:Int) (j:Int) 1=j - i:=by
 unfold Builtin.Slice.slicePlaces;have h1:(1:Int) > 0:=by lia
 simp only[h1,if_true,Int.ediv_one];split <;> lia
theorem Vh{o:Option Int}{Q:Option Int->Shared->Prop}(p:IsPart v o)(h:Q o s):wpAny (model prog w) A (Builtin.Slice.slicePartIndex v) Q E s:=by
 cases p with
 | none=>exact slicePart_none h
 | int i t=>exact slicePart_int h
theorem adt{sl:Addr}{vl vu:Value}{lo hi:Option Int}{Q:Int×Int×Nat->Shared->Prop}(hs:s.heap.IsSliceOf sl vl vu .none)(pl:IsPart vl lo)(pu:IsPart vu hi)
  (h:Q (((bU n 0 lo:Nat):Int),1,bU n n hi - bU n 0 lo) s):wpAny (model prog w) A (Builtin.Slice.sliceApplied (.ref sl) (pure (n:Int))) Q E s:=by
 obtain⟨os,qO,Vi,DG⟩:=id hs;unfold Builtin.Slice.sliceApplied Builtin.Slice.sliceFields;refine wpAny_bind (wpAny_bind (wpAny_field qO DG (x:=vl) rfl (wpAny_bind (wpAny_field qO DG (x:=vu) rfl (wpAny_bind (wpAny_field qO DG (x:=.none) rfl (wpAny_pure ?_)))))));refine wpAny_bind (slicePart_none ?_)
 show wpAny _ _ (if ((1:Int) == 0)=true then _ else _) _ _ s
 rw[if_neg ⋯]
 refine wpAny_bind (Vh pl (wpAny_bind (Vh pu (wpAny_bind (wpAny_pure ?_)))))
 show wpAny _ _ (match Builtin.Slice.sliceAdjust lo hi 1 (n:Int) with | (lo,hi)=>pure (lo,(1:Int),Builtin.Slice.slicePlaces lo hi 1)) _ _ s
 rw[adq lo hi n]
 show wpAny _ _ (pure (((bU n 0 lo:Nat):Int),(1:Int),Builtin.Slice.slicePlaces ((bU n 0 lo:Nat):Int) ((bU n n hi:Nat):Int) 1)) _ _ s;rw[ads];exact wpAny_pure h
theorem adu(xs:Array Value)(i k:Nat):((List.range k).filterMap λ(m:Nat)=>xs[((i:Int)+(m:Int)*1).toNat]?).toArray=((xs.toList.drop i).take k).toArray:=by
 have e:(λ(m:Nat)=>xs[((i:Int)+(m:Int)*1).toNat]?)=λm=>xs[i+m]? := by
  funext m
  have:((i:Int)+(m:Int)*1).toNat=i+m:=by lia
  rw[this]
 rw[e];have:=pick_run xs i k;rw[List.filterMap_map] at this;have e2:((λx=>xs[x]?) ∘ λx=>i+x)=λm=>xs[i+m]? := rfl;rw[e2] at this;rw[this]
theorem adw{t sl:Addr}{items:Array Value}{vl vu:Value}{lo hi:Option Int}(ht:IsTup s.heap t items)(hs:s.heap.IsSliceOf sl vl vu .none)(pl:IsPart vl lo)(pu:IsPart vu hi)
  (hw:¬ (bU items.size 0 lo=0/\bU items.size items.size hi=items.size))
  (h:Q (.ref s.heap.objs.size) { s with heap:=s.heap.push { cls:=.type "tuple",data:=.seq ((items.toList.drop (bU items.size 0 lo)).take (bU items.size items.size hi - bU items.size 0 lo)).toArray }})
  (hsz:items.size<=sizeLine):wpAny (model prog w) A (getItem (.ref t) (.ref sl)) Q E s:=by
 have DH:sizeOk (.seq ((items.toList.drop (bU items.size 0 lo)).take (bU items.size items.size hi - bU items.size 0 lo)).toArray):=by
  show ((items.toList.drop (bU items.size 0 lo)).take (bU items.size items.size hi - bU items.size 0 lo)).toArray.size<=sizeLine;rw[List.size_toArray,List.length_take,List.length_drop,Array.length_toList];lia
 have hj:bU items.size items.size hi<=items.size:=adp _ _ (Nat.le_refl _) hi;obtain⟨os,qO,Vi,DG⟩:=id hs;have hTs:s.TypeIs (.ref sl) "slice" := ⟨os,qO,Vi⟩;unfold getItem
 try with_reducible refine wpAny_holding ?_
 first | refine wpAny_bind (wpAny_pure ?_) | skip
 refine wpAny_bind (wpAny_sequenceKey ht.typeIs ⋯ ?_)
 refine wpAny_bind (wpAny_callSpecial?_slot (name:=Str.ofString "__getitem__") ht.typeIs PyProof.Rows.slot_tuple_getitem
  (wpAny_call_entry PyProof.Rows.slot_tuple_getitem ht.typeIs entry_tuple_getitem ?_ (args_tuple_getitem _ _)))
 show wpAny _ _ (Builtin.Tuple.tupleItemsOf (.ref t) >>= _) _ _ s;refine wpAny_bind (tupleItemsOf_ ht ?_);refine wpAny_bind (wpAny_typeOf hTs ?_);rw[if_pos ⋯]
 refine wpAny_bind (adt hs pl pu ?_);have vn:¬ ((((bU items.size 0 lo:Nat):Int) == 0 && (1:Int) == 1 && (bU items.size items.size hi - bU items.size 0 lo) == items.size)=true):=by
  intro q;rw[Bool.and_eq_true,Bool.and_eq_true] at q;have q1:((bU items.size 0 lo:Nat):Int)=0:=eq_of_beq q.1.1;have q2:bU items.size items.size hi - bU items.size 0 lo=items.size:=eq_of_beq q.2;exact hw ⟨∅,∅⟩
 show wpAny _ _ (if (((bU items.size 0 lo:Nat):Int) == 0 && (1:Int) == 1 && (bU items.size items.size hi - bU items.size 0 lo) == items.size)=true then _ else _) _ _ s
 rw[if_neg vn,adu]
 first
  | exact wpAny_bind (m:=Builtin.Tuple.tupleExact _) (wpAny_newObj_type (wpAny_pure ⟨_,rfl,wpAny_pure h⟩) DH)
  | exact wpAny_bind (m:=Builtin.Tuple.tupleExact _) (wpAny_newObj_type (wpAny_bind (wpAny_pure (wpAny_pure ⟨_,rfl,wpAny_pure h⟩))) DH)
  | exact wpAny_bind (wpAny_bind (m:=Builtin.Tuple.tupleExact _) (wpAny_newObj_type (wpAny_pure (wpAny_pure ⟨_,rfl,wpAny_pure h⟩)) DH))
  | exact wpAny_bind (wpAny_bind (m:=Builtin.Tuple.tupleExact _) (wpAny_newObj_type (wpAny_pure ⟨_,rfl,wpAny_pure h⟩) DH))
end
end _H
namespace _L
open PySem PySem.Spec PyProof.Rows
noncomputable abbrev TO:=St->Hp->(Option Int->Hp->Prop)->Prop
def PO(X:Cx)(e:Option Expr)(t:TO):Prop :=
 ∀(pins:List (Addr×Obj)) (s:Shared) (σ:St) (H:Hp) (Q:Option Int->Hp->Prop),Inv X pins σ H s->t σ H Q->
  wpAny (model X.prog X.w) X.A (evalPart e X.env) (λu s'=>∃o H',Inv X pins σ H' s'/\IsPart u o/\Q o H') X.xe s
def Ja:TO:=λ_ H Q=>Q none H
def Jb(t:TE):TO:=λσ H Q=>t σ H λx H1=>∃i,x = .int i/\Q (some i) H1
theorem intsAre_of{ns:_I}:∀ {us:List Value},Vals (ns.map V.int) us->IntsAre us ns:=by
 induction ns with
 | nil=>intro us r;rw[List.map_nil] at r;cases r;exact .nil
 | cons n ns ih =>
  intro us r;rw[dh] at r;cases r with
  | cons r1 r2 =>
   obtain⟨t,e⟩:=r1;subst e;exact .cons n t (ih r2)
section
variable{lo hi:Option Expr}{tl th:TO}
theorem qP:PO X none Ja:=by
 intro pins s σ H Q I h;rw[evalPart_none];exact aP ⟨none,H,I,.none,h⟩
theorem qQ(h:PE X e te):PO X (some e) (Jb te):=by
 intro pins s σ H Q I hw;rw[evalPart_some];refine aW (h pins s σ H _ I hw) λu s1 bO=>?_;obtain⟨x,H1,I1,r1,q1⟩:=bO;obtain⟨i,rfl,q⟩:=q1;obtain⟨t,rfl⟩:=r1;exact⟨some i,H1,I1,.int i t,q⟩
def Jc(X:Cx)(r:V->Option Int->Option Int->Hp->VK->Prop):Prop :=
 ∀(pins:List (Addr×Obj)) (s:Shared) (σ:St) (H:Hp) (x:V) (v vl vu:Value) (lo hi:Option Int) (sl:Addr) (Q:VK),Inv X pins σ H s->RelV x v->s.heap.IsSliceOf sl vl vu .none->IsPart vl lo->IsPart vu hi->r x lo hi H Q->
  ∃T id,typeLookup (.type T) "__getitem__" = pure (some (.builtin id))/\s.TypeIs v T/\wpAny (model X.prog X.w) X.A (getItem v (.ref sl)) (EP X pins σ Q) X.xe s
def Jd(r:V->Option Int->Option Int->Hp->VK->Prop)(te:TE)(tl th:TO):TE:=λσ H Q=>te σ H λx H1=>tl σ H1 λl H2=>th σ H2 λu H3=>r x l u H3 Q
theorem qR{r:V->Option Int->Option Int->Hp->VK->Prop}(hr:Jc X r)(he:PE X e te)(hl:PO X lo tl)(hu:PO X hi th):PE X (.Subscript e (.Slice lo hi none p2) pos) (Jd r te tl th):=by
 intro pins s σ H Q I h;refine Subscript_ (aW (he pins s σ H _ I h) λv s1 bO=>?_);obtain⟨x,H1,I1,r1,q1⟩:=bO;refine wpAny_Slice (aW (hl pins s1 σ H1 _ I1 q1) λvl s2 ⟨l,H2,I2,pl,q2⟩=>aW (hu pins s2 σ H2 _ I2 q2) λvu s3 bO=>?_);obtain⟨u,H3,I3,pu,q3⟩:=bO;rw[evalPart_none];refine aP ?_;have I4:Inv X pins σ H3 { s3 with heap:=s3.heap.push { cls:=.type "slice",data:=.fields #[vl,vu,.none] }}:=I3.kept (t':=s3.toks) λb ob q=>cU _ q;obtain⟨T,id,hT,ht,hg⟩:=hr pins { s3 with heap:=s3.heap.push { cls:=.type "slice",data:=.fields #[vl,vu,.none] }} σ H3 x v vl vu l u s3.heap.objs.size Q I4 r1 (Heap.IsSliceOf.new ..) pl pu q3
 show wpAny (model X.prog X.w) X.A (subscriptTail e (.Slice lo hi none p2) v (.ref s3.heap.objs.size)) (EP X pins σ Q) X.xe { s3 with heap:=s3.heap.push { cls:=.type "slice",data:=.fields #[vl,vu,.none] }};exact tail_any (ops:=[.ref s3.heap.objs.size,v]) ht hT hg (by with_unfolding_all rfl)
noncomputable def jc(xs:_V)(lo hi:Option Int):_V:=(xs.drop (_H.bU xs.length 0 lo)).take (_H.bU xs.length xs.length hi - _H.bU xs.length 0 lo)
theorem Vj(xs:_V)(lo hi:Option Int):(jc xs lo hi).length<=xs.length:=by
 unfold jc;rw[dw,wU];lia
def ady(K:W.Frag):V->Option Int->Option Int->Hp->VK->Prop:=λx lo hi H Q=>∃a xs,x = .ref a/\aK K H a xs/\
 ¬ (_H.bU xs.length 0 lo=0/\_H.bU xs.length xs.length hi=xs.length)/\∀p,H p=none->Q (.ref p) (upd H p (.tup (jc xs lo hi)))
theorem Ag:Jc X (ady X.K):=by
 intro pins s σ H x v vl vu lo hi sl Q I rx hs pl pu h;obtain⟨a,xs,rfl,hx,hw,q⟩:=h;cases rx;obtain⟨aC,r,ht,hz⟩:=I.tuple hx;have hlen:aC.toArray.size=xs.length:=by rw[iK];exact r.length.symm
 refine⟨"tuple",_,PyProof.Rows.slot_tuple_getitem.lookup,ht.typeIs,?_⟩;refine _H.adw ht hs pl pu (by rw[hlen];exact hw) ?_ (by rw[hlen];exact hz)
 rw[hlen];refine⟨.ref s.heap.objs.size,_,I.laid (t':=s.toks) (o:=.tup (jc xs lo hi)) (λb ob q=>cU _ q) (bx _) ?_,rfl,q _ (I.aO.fresh (bx _))⟩;exact⟨cH (Vj xs lo hi) hz,_,(r.drop (_H.bU xs.length 0 lo)).take (_H.bU xs.length xs.length hi - _H.bU xs.length 0 lo),IsTup.new _ _⟩
def Je(K:W.Frag):R2:=λx y H Q=>∃a b xs ys,x = .ref a/\y = .ref b/\aK K H a xs/\aK K H b ys/\xs≠[]/\xs.length+ys.length<=sizeLine/\
 (ys = []->Q (.ref a) H)/\(ys≠[]->∀p,H p=none->Q (.ref p) (upd H p (.tup (xs++ys))))
theorem Vals.DI{xs:_V}{us:List Value}(r:Vals xs us):us = []↔xs = []:=by
 cases r with
 | nil=>simp
 | cons _ _=>simp
theorem Ah:cN X (binaryOp .Add) (Je X.K):=by
 intro pins s σ H x y v u Q I rx ry h;obtain⟨a,b,xs,ys,rfl,rfl,ha,hb,hx,hz,q1,q2⟩:=h;cases rx;cases ry;obtain⟨aC,r1,p1,_⟩:=I.tuple ha;obtain⟨fK,r2,p2,_⟩:=I.tuple hb;refine _H.adm p1 p2 (λz=>hx (r1.DI.mp z)) (λz=>⟨.ref a,H,I,rfl,q1 (r2.DI.mp z)⟩) (λz=>?_) (by rw[← r1.length,← r2.length];exact hz)
 refine⟨.ref s.heap.objs.size,_,I.laid (t':=s.toks) (o:=.tup (xs++ys)) (λb ob q=>cU _ q) (bx _) ?_,rfl,q2 (λw=>z (r2.DI.mpr w)) _ (I.aO.fresh (bx _))⟩;exact⟨by rw[e7];exact hz,_,r1.append r2,IsTup.new _ _⟩
end
noncomputable def kD(n:Nat)(i:Int):Option Nat:=if 0<=i then(if i<n then some i.toNat else none) else if -(n:Int)<=i then some (i+n).toNat else none
noncomputable def fL(xs:List α)(i:Int):Option α:=(kD xs.length i).bind λj=>xs[j]?
theorem Vk{i:Int}(h:kD n i=some j):seqIndex? i n=some j/\j<n/\-(n:Int)<=i/\i<n:=by
 unfold kD at h;by_cases h0:0<=i
 ·rw[if_pos h0] at h;by_cases h1:i<n
  ·rw[if_pos h1] at h;have e:i.toNat=j:=eg h;exact⟨by rw[seqIndex_of h0 h1,e],∅,∅,h1⟩
  ·rw[if_neg h1] at h;cases h
 ·rw[if_neg h0] at h;by_cases h1 : -(n:Int)<=i
  ·rw[if_pos h1] at h;have e:(i+n).toNat=j:=eg h;exact⟨by rw[seqIndex_neg ∅ h1,e],∅,h1,∅⟩
  ·rw[if_neg h1] at h;cases h
theorem Vl{xs:List α}{i:Int}{v:α}(h:fL xs i=some v):∃j,seqIndex? i xs.length=some j/\xs[j]? = some v/\j<xs.length/\-(xs.length:Int)<=i/\i<xs.length:=by
 unfold fL at h;cases e:kD xs.length i with
 | none=>rw[e] at h;cases h
 | some j =>
  rw[e] at h;obtain⟨h1,h2,h3,h4⟩:=Vk e;exact⟨j,h1,h,h2,h3,h4⟩
theorem lV{xs:List α}{v:α}(h:xs[j]? = some v):fL xs (j:Int)=some v:=by
 have hj:j<xs.length:=(iI.mp h).1;have e:kD xs.length (j:Int)=some j:=by
  unfold kD;rw[if_pos ∅,if_pos ∅];simp
 unfold fL;rw[e];exact h
def adz(b:Expr):Prop:=∀o i,subscripted b false o i=operate [o,i] (getItem o i)
def oE(X:Cx)(r:R2):Prop :=
 ∀(value slice:Expr) (pins:List (Addr×Obj)) (s:Shared) (σ:St) (H:Hp) (x y:V) (v u:Value) (Q:VK),Inv X pins σ H s->RelV x v->RelV y u->r x y H Q->
  subscripted slice false v u=operate [v,u] (getItem v u)->wpAny (model X.prog X.w) X.A (subscriptTail value slice v u) (EP X pins σ Q) X.xe s
def MtR(X:Cx)(id:String)(r:V->_V->Hp->VK->Prop):Prop :=
 ∀(pins:List (Addr×Obj)) (s:Shared) (σ:St) (H:Hp) (x:V) (xs:_V) (v:Value) (us:List Value) (Q:VK),Inv X pins σ H s->RelV x v->Vals xs us->r x xs H Q->
  wpAny (model X.prog X.w) X.A (call (.builtin id) (v::us)) (EP X pins σ Q) X.xe s
section
variable{a b:Expr}{ta:TE}
theorem aI{r:R2}(hr:oE X r)(ha:PE X a ta)(hb:PE X b tb)(hs:adz b):PE X (.Subscript a b pos) (vd r ta tb):=by
 intro pins s σ H Q I h;exact Subscript_ (II ha hb I h λv u s2 x y H2 I2 rx ry q=>hr a b pins s2 σ H2 x y v u Q I2 rx ry q (hs _ _))
def DJ(K:W.Frag):R2:=λx y H Q=>∃p xs i v,x = .ref p/\y = .int i/\aA K H p xs/\fL xs i=some v/\Q v H
def Ai(K:W.Frag):R2:=λx y H Q=>∃p xs i v,x = .ref p/\y = .int i/\aK K H p xs/\fL xs i=some v/\Q v H
theorem pY:oE X (DJ X.K):=by
 intro value slice pins s σ H x y v u Q I rx ry h hs;obtain⟨p,xs,i,z,rfl,rfl,hq,he,q⟩:=h;cases rx;obtain⟨t,rfl⟩:=ry;obtain⟨aC,r,pl,hz⟩:=I.list hq;obtain⟨j,h1,h2,h3,h4,h5⟩:=Vl he;obtain⟨w,ew,lW⟩:=r.get h2;have hl:=r.length;have hn:=Ab;have fin:EP X pins σ Q w s:=⟨z,H,I,lW,q⟩;by_cases h0:0<=i
 ·have hj:i.toNat=j:=by
   rw[seqIndex_of h0 h5] at h1;exact eg h1
  exact item_listR pl.isList h0 ∅ (by rw[hj];simpa using ew) fin hs
 ·have hj:(i+(aC.toArray.size:Int)).toNat=j:=by
   rw[seqIndex_neg ∅ h4] at h1
   rw[iK,← hl];exact eg h1
  exact subscriptTail_builtinR (x:=w) pl.isList.typeIs slot_list_getitem.lookup
   (wpAny_getItem_list_neg (Q:=λr s'=>r=w/\EP X pins σ Q r s') pl.isList ∅ (by rw[iK] <;> lia) ∅ (by rw[hj];simpa using ew) ⟨rfl,fin⟩) hs
theorem qT:oE X (Ai X.K):=by
 intro value slice pins s σ H x y v u Q I rx ry h hs;obtain⟨p,xs,i,z,rfl,rfl,hq,he,q⟩:=h;cases rx;obtain⟨t,rfl⟩:=ry;obtain⟨aC,r,pl,hz⟩:=I.tuple hq;obtain⟨j,h1,h2,h3,h4,h5⟩:=Vl he;obtain⟨w,ew,lW⟩:=r.get h2;have hl:=r.length;have hn:=Ab;have fin:EP X pins σ Q w s:=⟨z,H,I,lW,q⟩;exact subscriptTail_builtinR (x:=w) pl.typeIs slot_tuple_getitem.lookup
  (getItem_tuple (j:=j) (Q:=λr s'=>r=w/\EP X pins σ Q r s') pl ∅ ∅ (by rw[iK,← hl];exact h1) ↑ew ⟨rfl,fin⟩) hs
theorem adA(aC:List Value)(n j:Nat)(u:Value):Obj.mapSeq (·.setIfInBounds j u) { cls:=.type "list",data:=.seq aC.toArray n } = { cls:=.type "list",data:=.seq (aC.set j u).toArray n }:=by
 simp[Obj.mapSeq]
theorem Inv.lst{pins:List (Addr×Obj)}{σ:St}{H:Hp}{s:Shared}{p:Addr}{xs:_V}(I:Inv X pins σ H s)(h:H p=some (.lst xs)) :
  ∃(aC:List Value) (n:Nat),Vals xs aC/\s.heap.get? p=some { cls:=.type "list",data:=.seq aC.toArray n }/\xs.length<=sizeLine:=by
 obtain⟨z,aC,n,r,e⟩:=I.aO p _ h;exact⟨aC,n,r,e,z⟩
theorem Inv.adB{xs:_V}{its':List Value}{n':Nat}{f:Obj->Obj}(I:Inv X pins σ H s)(h:H p=some (.lst xs))
  (ho:s.heap.get? p=some { cls:=.type "list",data:=.seq aC.toArray n }) (hf:f { cls:=.type "list",data:=.seq aC.toArray n } = { cls:=.type "list",data:=.seq its'.toArray n' }) (r:Vals ys its') (hz:ys.length<=sizeLine) (t:Nat) :
  Inv X pins σ (upd H p (.lst ys)) { s with heap:=s.heap.update p f,toks:=t }:=by
 have e:(s.heap.update p f).get? p=some { cls:=.type "list",data:=.seq its'.toArray n' }:=by
  rw[zf f ho (by rw[hf] <;> rfl),hf]
 refine I.write (x:=p) (e:=p) (by rw[h];trivial) (.inl rfl) (λb u hb q=>(Heap.get?_update_other _ _ (fW hb)).trans q) ⟨_,e⟩ ?_
 exact⟨hz,its',n',r,e⟩
def Jf:V->V->V->Hp->(Hp->Prop)->Prop:=λo i v H Q=>∃p xs k j,o = .ref p/\i = .int k/\H p=some (.lst xs)/\kD xs.length k=some j/\Q (upd H p (.lst (xs.set j v)))
theorem set_list:UL X Jf:=by
 intro pins s σ H o i v ov iv u Q I ro ri rv h;obtain⟨p,xs,k,j,rfl,rfl,hp,hj,q⟩:=h;cases ro;obtain⟨t,rfl⟩:=ri;obtain⟨aC,n,r,ho,hz⟩:=I.lst hp;obtain⟨h1,h2,h3,h4⟩:=Vk hj;have hl:=r.length;have hn:=Ab;have I':Inv X pins σ (upd H p (.lst (xs.set j v))) { s with heap:=s.heap.update p (Obj.mapSeq (·.setIfInBounds j u))} :=
  I.adB hp ho (adA aC n j u) (r.set rv j) (by rw[kY];exact hz) s.toks
 by_cases h0:0<=k
 ·have hk:k.toNat=j:=by
   rw[seqIndex_of h0 h4] at h1;exact eg h1
  exact PySem.W.ki_setAt ho h0 ∅ (by rw[iK,← hl];exact h4) (by rw[hk];exact⟨_,I',q⟩)
 ·have hk:(k+(aC.toArray.size:Int)).toNat=j:=by
   rw[seqIndex_neg ∅ h3] at h1
   rw[iK,← hl];exact eg h1
  exact PySem.W.ki_setBack ho ∅ (by rw[iK,← hl];exact h3) ∅ (by rw[hk];exact⟨_,I',q⟩)
theorem adC(lo hi:Option Int)(n:Nat):(sliceBounds lo hi none n).1=((_H.bU n 0 lo:Nat):Int)/\(sliceBounds lo hi none n).2.1=((_H.bU n n hi:Nat):Int)/\(sliceBounds lo hi none n).2.2=1:=by
 refine⟨?_,?_,rfl⟩
 ·cases lo with
  | none=>simp[sliceBounds,_H.bU]
  | some i =>
   simp only[sliceBounds,_H.bU,Option.getD_none,show (1:Int) > 0 by decide,if_true]
   by_cases h:i<0
   ·simp only[h,if_true] <;> lia
   ·simp only[h,if_false] <;> lia
 ·cases hi with
  | none=>simp[sliceBounds,_H.bU]
  | some i =>
   simp only[sliceBounds,_H.bU,Option.getD_none,show (1:Int) > 0 by decide,if_true]
   by_cases h:i<0
   ·simp only[h,if_true] <;> lia
   ·simp only[h,if_false] <;> lia
theorem adD(aC:List Value)(lo hi:Option Int):slicePick aC.toArray lo hi none=((aC.drop (_H.bU aC.length 0 lo)).take (_H.bU aC.length aC.length hi - _H.bU aC.length 0 lo)).toArray:=by
 obtain⟨h1,h2,h3⟩:=adC lo hi aC.toArray.size;unfold slicePick;rw[h1,h2,h3];simp only[sliceRange_one,pick_run,List.size_toArray] <;> rfl
def Jg(K:W.Frag):V->Option Int->Option Int->Hp->VK->Prop:=λx lo hi H Q=>∃a xs,x = .ref a/\aA K H a xs/\∀p,H p=none->Q (.ref p) (upd H p (.lst (jc xs lo hi)))
theorem DK:Jc X (Jg X.K):=by
 intro pins s σ H x v vl vu lo hi sl Q I rx hs pl pu h;obtain⟨a,xs,rfl,hx,q⟩:=h;cases rx;obtain⟨aC,r,ht,hz⟩:=I.list hx;have hlen:=r.length;refine⟨"list",_,slot_list_getitem.lookup,ht.isList.typeIs,?_⟩;refine wpAny_getItem_list_slice ht.isList hs pl pu .none (by simp) ?_ (by rw[List.size_toArray] <;> lia)
 rw[adD,← hlen];refine⟨.ref s.heap.objs.size,_,I.laid (t':=s.toks) (o:=.lst (jc xs lo hi)) (λb ob q=>cU _ q) (bx _) ?_,rfl,q _ (I.aO.fresh (bx _))⟩;exact⟨cH (Vj xs lo hi) hz,_,0,(r.drop (_H.bU xs.length 0 lo)).take (_H.bU xs.length xs.length hi - _H.bU xs.length 0 lo),gf _ rfl⟩
noncomputable def mO:V->Bool
 | .aY=>true
 | .bl _=>true
 | .int _=>true
 | .str _=>true
 | _=>false
noncomputable def lX:V->V->Bool
 | .aY,.aY=>true
 | .bl a,.bl b=>a == b
 | .bl a,.int b=>(if a then 1 else 0) == b
 | .int a,.bl b=>a == (if b then 1 else 0)
 | .int a,.int b=>a == b
 | .str a,.str b=>a == b
 | _,_=>false
theorem Jh{x:V}(ry:RelV y u)(rx:RelV x v)(fy:mO y=true)(fx:mO x=true):SeqAt.EqAt A s u v (lX y x):=by
 cases y with
 | aY =>
  cases ry;cases x with
  | aY=>cases rx;exact zG _
  | bl b=>cases rx;exact SeqAt.EqAt.none_bool b
  | int b=>obtain⟨t,rfl⟩:=rx;exact SeqAt.EqAt.none_int b t
  | str b=>obtain⟨t,rfl⟩:=rx;exact SeqAt.EqAt.none_str b t
  | _=>exact absurd (show false=true from fx) fz
 | bl a =>
  cases ry;cases x with
  | aY=>cases rx;exact SeqAt.EqAt.bool_none a
  | bl b=>cases rx;exact SeqAt.EqAt.bool_bool a b
  | int b=>obtain⟨t,rfl⟩:=rx;exact SeqAt.EqAt.bool_int a b t
  | str b=>obtain⟨t,rfl⟩:=rx;exact SeqAt.EqAt.bool_str a b t
  | _=>exact absurd (show false=true from fx) fz
 | int a =>
  obtain⟨t',rfl⟩:=ry;cases x with
  | aY=>cases rx;exact SeqAt.EqAt.int_none a t'
  | bl b=>cases rx;exact SeqAt.EqAt.int_bool a t' b
  | int b=>obtain⟨t,rfl⟩:=rx;exact HP a t' b t
  | str b=>obtain⟨t,rfl⟩:=rx;exact SeqAt.EqAt.int_str a t' b t
  | _=>exact absurd (show false=true from fx) fz
 | str a =>
  obtain⟨t',rfl⟩:=ry;cases x with
  | aY=>cases rx;exact SeqAt.EqAt.str_none a t'
  | bl b=>cases rx;exact SeqAt.EqAt.str_bool a t' b
  | int b=>obtain⟨t,rfl⟩:=rx;exact SeqAt.EqAt.str_int a t' b t
  | str b=>obtain⟨t,rfl⟩:=rx;exact SeqAt.EqAt.str_str a t' b t
  | _=>exact absurd (show false=true from fx) fz
 | _=>exact absurd (show false=true from fy) fz
noncomputable def kF(x:V)(u:Value):Bool:=match u with
 | .none=>lX .aY x
 | .bool b=>lX (.bl b) x
 | .int i _=>lX (.int i) x
 | .str z _=>lX (.str z) x
 | _=>false
theorem Vm{x:V}(r:RelV y u)(f:mO y=true):kF x u=lX y x:=by
 cases y with
 | aY=>cases r;rfl
 | bl b=>cases r;rfl
 | int i=>obtain⟨t,rfl⟩:=r;rfl
 | str z=>obtain⟨t,rfl⟩:=r;rfl
 | _=>exact absurd (show false=true from f) fz
theorem Aj{x:V}:∀ {xs:_V} {us:List Value},Vals xs us->xs.all mO=true->us.any (kF x)=xs.any λy=>lX y x
 | _,_,.nil,_=>rfl
 | y::xs,u::us,.cons r t,f=>by
  rw[List.all_cons,zb] at f;rw[wL,wL,Vm r f.1,Aj t f.2]
theorem Al{A:Around}{s:Shared}{x:V}{v:Value}(rx:RelV x v)(fx:mO x=true):∀ {xs:_V} {us:List Value},Vals xs us->xs.all mO=true->∀u∈us,SeqAt.EqAt A s u v (kF x u)
 | _,_,.nil,_=>λu hu=>by cases hu
 | y::xs,u::us,.cons r t,f=>λu' hu=>by
  rw[List.all_cons,zb] at f;rcases cV.mp hu with rfl | hu
  ·rw[Vm r f.1];exact Jh r rx f.1 fx
  ·exact Al rx fx t f.2 u' hu
noncomputable def xE(x:V)(xs:_V):Bool:=xs.any λy=>lX y x
def xF(K:W.Frag)(neg:Bool):R2:=λx y H Q=>∃p xs,y = .ref p/\(aA K H p xs\/aK K H p xs)/\mO x=true/\xs.all mO=true/\Q (.bl (if neg then !xE x xs else xE x xs)) H
theorem Ji:cN X (compareOp .In) (xF X.K false):=by
 intro pins s σ H x y v u Q I rx ry h;obtain⟨p,xs,rfl,hq,fx,fs,q⟩:=h;cases ry;rcases hq with hq | hq
 ·obtain⟨aC,r,pl,hz⟩:=I.list hq;refine SeqAt.in_listAt (kF x) pl.isList (λw hw=>Al rx fx r fs w ↑hw) ⟨.bl _,H,I,rfl,?_⟩
  rw[show aC.toArray.any (kF x)=aC.any (kF x) by simp,Aj r fs]
  exact q
 ·obtain⟨aC,r,pl,hz⟩:=I.tuple hq;refine SeqAt.in_tupleAt (kF x) pl (λw hw=>Al rx fx r fs w ↑hw) ⟨.bl _,H,I,rfl,?_⟩
  rw[show aC.toArray.any (kF x)=aC.any (kF x) by simp,Aj r fs]
  exact q
theorem Vn:cN X (compareOp .NotIn) (xF X.K true):=by
 intro pins s σ H x y v u Q I rx ry h;obtain⟨p,xs,rfl,hq,fx,fs,q⟩:=h;cases ry;rcases hq with hq | hq
 ·obtain⟨aC,r,pl,hz⟩:=I.list hq;refine SeqAt.notIn_listAt (kF x) pl.isList (λw hw=>Al rx fx r fs w ↑hw) ⟨.bl _,H,I,rfl,?_⟩
  rw[show aC.toArray.any (kF x)=aC.any (kF x) by simp,Aj r fs]
  exact q
 ·obtain⟨aC,r,pl,hz⟩:=I.tuple hq;refine SeqAt.notIn_tupleAt (kF x) pl (λw hw=>Al rx fx r fs w ↑hw) ⟨.bl _,H,I,rfl,?_⟩
  rw[show aC.toArray.any (kF x)=aC.any (kF x) by simp,Aj r fs]
  exact q
theorem DM:i9 X (.builtin "len") (λxs H Q=>∃p ys,xs = [.ref p]/\(aA X.K H p ys\/aK X.K H p ys)/\Q (.int ys.length) H):=by
 intro pins s σ H xs us Q I r h;obtain⟨p,ys,rfl,hq,q⟩:=h;obtain⟨u,rfl,rx⟩:=vals1 r;cases rx;have hn:=Ab;rcases hq with hq | hq
 ·obtain⟨aC,r',pl,hz⟩:=I.list hq;have hlen:=r'.length;exact Calls.call_len_list pl.isList (by simp only[List.size_toArray] <;> lia) ⟨.int ys.length,H,I.tok _,⟨s.toks+1,by rw[iK,hlen]⟩,q⟩
 ·obtain⟨aC,r',pl,hz⟩:=I.tuple hq;have hlen:=r'.length;exact len_tuple pl (by simp only[List.size_toArray] <;> lia) ⟨.int ys.length,H,I.tok _,⟨s.toks+1,by rw[iK,hlen]⟩,q⟩
theorem Am:i9 X (.type "list") (λxs H Q=>∃p ys,xs = [.ref p]/\(aA X.K H p ys\/aK X.K H p ys)/\∀l,H l=none->Q (.ref l) (upd H l (.lst ys))):=by
 intro pins s σ H xs us Q I r h;obtain⟨p,ys,rfl,hq,q⟩:=h;obtain⟨u,rfl,rx⟩:=vals1 r;cases rx;have fin:∀(aC:List Value),Vals ys aC->ys.length<=sizeLine->∀(h':Heap) (c':Nat),(∀b o',s.heap.get? b=some o'->h'.get? b=some o')->
   h'.get? s.heap.objs.size=some { cls:=.type "list",dict:=none,data:=.seq aC.toArray c',slots := #[] }->EP X pins σ Q (.ref s.heap.objs.size) { s with heap:=h' }:=λaC r' hz h' c' kp e =>
  ⟨.ref s.heap.objs.size,_,I.laid (t':=s.toks) kp (bx _) (show eG X.prog X.w _ h' _ (.lst ys) from⟨hz,aC,c',r',e⟩),rfl,q _ (I.aO.fresh (bx _))⟩
 rcases hq with hq | hq
 ·obtain⟨aC,r',pl,hz⟩:=I.list hq;have hlen:=r'.length;obtain⟨o,ho,hc,n,hd⟩:=pl.isList;exact call_list_seq p (.inl rfl) ho hc hd (λh' c' kp e=>fin aC r' hz h' c' kp e) (by simp only[List.size_toArray] <;> lia)
 ·obtain⟨aC,r',pl,hz⟩:=I.tuple hq;have hlen:=r'.length;obtain⟨o,ho,hc,n,hd⟩:=pl;exact call_list_seq p (.inr rfl) ho hc hd (λh' c' kp e=>fin aC r' hz h' c' kp e) (by simp only[List.size_toArray] <;> lia)
theorem xG:i9 X (.type "tuple") (λxs H Q=>∃p ys,xs = [.ref p]/\((aA X.K H p ys/\∀l,H l=none->Q (.ref l) (upd H l (.tup ys)))\/(aK X.K H p ys/\Q (.ref p) H))):=by
 intro pins s σ H xs us Q I r h;obtain⟨p,ys,rfl,h⟩:=h;obtain⟨u,rfl,rx⟩:=vals1 r;cases rx;rcases h with⟨hq,q⟩ | ⟨hq,q⟩
 ·obtain⟨aC,r',pl,hz⟩:=I.list hq;have hlen:=r'.length;refine call_tuple_list pl.isList (λh' kp=>?_) (by simp only[List.size_toArray] <;> lia)
  have I1:Inv X pins σ H { s with heap:=h' }:=I.kept (t':=s.toks) kp;have I2:Inv X pins σ (upd H h'.objs.size (.tup ys)) { s with heap:=h'.push { cls:=.type "tuple",data:=.seq aC.toArray }} :=
   I1.laid (t':=s.toks) (λb o e=>cU _ e) (bx _) (show eG X.prog X.w _ _ _ (.tup ys) from⟨hz,aC,r',IsTup.new _ _⟩)
  exact⟨.ref h'.objs.size,_,I2,rfl,q _ (I1.aO.fresh (bx _))⟩
 ·obtain⟨aC,r',pl,hz⟩:=I.tuple hq;exact call_tuple_same pl ⟨.ref p,H,I,rfl,q⟩
def xH(K:W.Frag)(T:String)(x:V)(H:Hp):Prop:=match x with
 | .str _=>T = "str"
 | .int _=>T = "int"
 | .ref p=>(T = "list"/\∃xs,aA K H p xs)\/(T = "tuple"/\∃o,K.lookup p=some o/\o.cls = .type "tuple"/\o.dict=none)\/
   (T = "dict"/\((∃az,H p=some (.dK az))\/∃az,H p=some (.dT az)))\/(T = "set"/\∃S n,H p=some (.set S n))
 | _=>False
theorem adE{x:V}(I:Inv X pins σ H s)(r:RelV x v)(ty:xH X.K T x H) :
  s.TypeIs v T/\∀a,v = .ref a->∃ob,s.heap.get? a=some ob/\ob.dict=none:=by
 cases x with
 | str z =>
  obtain⟨t,rfl⟩:=r;cases (show T = "str" from ty);exact⟨typeIs_str s z t,λ_ e=>nomatch e⟩
 | int i =>
  obtain⟨t,rfl⟩:=r;cases (show T = "int" from ty);exact⟨typeIs_int s i t,λ_ e=>nomatch e⟩
 | ref p =>
  cases r;rcases ty with⟨rfl,xs,hq⟩ | ⟨rfl,o,hk,hc,hd⟩ | ⟨rfl,hk⟩ | ⟨rfl,S,n,hk⟩
  ·obtain⟨aC,_,pl,_⟩:=I.list hq;refine⟨pl.isList.typeIs,λa e=>?_⟩;cases e;obtain⟨o,n,e,c,hd,_⟩:=pl;exact⟨o,e,hd⟩
  ·refine⟨⟨o,I.fD p o hk,hc⟩,λa e=>?_⟩;cases e;exact⟨o,I.fD _ o hk,hd⟩
  ·have z:∃o,s.heap.get? p=some o/\o.ExactDict:=by
    rcases hk with⟨az,hk⟩ | ⟨az,hk⟩
    ·obtain⟨_,_,_,_,o,_,_,e,ex,_⟩:=I.aO p _ hk;exact⟨o,e,ex⟩
    ·obtain⟨_,_,_,_,o,_,_,e,ex,_⟩:=I.aO p _ hk;exact⟨o,e,ex⟩
   obtain⟨o,e,ex⟩:=z;refine⟨⟨o,e,ex.1⟩,λa e2=>?_⟩;cases e2;exact⟨o,e,ex.2.1⟩
  ·obtain⟨o,_,_,_,e,ex,_⟩:=I.aO p _ hk;refine⟨⟨o,e,ex.1⟩,λa e2=>?_⟩;cases e2;exact⟨o,e,ex.2.1⟩
 | _=>exact False.elim ty
def Vo(K:W.Frag)(T:String)(r:V->_V->Hp->VK->Prop)(to:TE):TE:=λσ H Q=>to σ H λx H1=>xH K T x H1/\r x [] H1 Q
def Jj(K:W.Frag)(T:String)(r:V->_V->Hp->VK->Prop)(to:TE)(t:TA):TE:=λσ H Q=>to σ H λx H1=>xH K T x H1/\t σ H1 λxs H2=>r x xs H2 Q
variable{o:Expr}{es:List Expr}{t:TA}{id:String}
theorem lY(pa:PlainAttrs T)(slot:Slot T name id)(hty:typeOf (.builtin id)=pure (.type "method_descriptor"))(hm:MtR X id r)(ho:PE X o to)(ha:PA X (e::es) t)
  (adF:attributeBase o name X.env (eval o X.env)=eval o X.env:=by rfl)
  (adG:((backTo gj (starEach (e::es) X.env)).all (λx => !x.1) && (backToKw gj (keywordEach [] X.env)).all (λx=>x.1.isSome)
   && decide ((e::es).length+([]:List Keyword).length+(if ([]:List Keyword).isEmpty then 0 else 1)<30))=true:=by rfl)
  (adH:(apos.endLine == gj.line)=true:=by rfl) (hs:starEach (e::es) X.env=(false,eval e X.env)::starEach es X.env:=by rfl) (adI:(backTo gj (starEach es X.env)).any (·.1)=false:=by rfl) :
  PE X (.Call (.Attribute o name apos) (e::es) [] gj) (Jj X.K T r to t):=by
 intro pins s σ H Q I h;refine wpAny_Call_method_late adF adG adH rfl (aW (ho pins s σ H _ I h) λv s1 bO=>?_);obtain⟨x,H1,I1,r1,ty,q1⟩:=bO;obtain⟨h1,h2⟩:=adE I1 r1 ty;refine⟨T,id,pa,slot,hty,h1,h2,?_⟩;have hA:=ha gj pins s1 σ H1 _ I1 q1;rw[hs] at hA ⊢;refine Hh (by show (false || (backTo gj (starEach es X.env)).any (·.1))=false;rw[adI] <;> rfl) (Hi ?_)
 exact aW hA λus s2 ⟨vs,H2,I2,r2,q2⟩=>hm pins s2 σ H2 x vs v us Q I2 r1 r2 q2
end
def Vp(X:Cx)(id:String)(r:V->_V->Hp->VK->Prop):Prop :=
 ∀(pins:List (Addr×Obj)) (s:Shared) (σ:St) (H:Hp) (x:V) (xs:_V) (v:Value) (us:List Value) (Q:VK),Inv X pins σ H s->RelV x v->Vals xs us->r x xs H Q->
  wpAny (model X.prog X.w) X.A (call (.builtin id) (v::us)) (EP X pins σ Q) X.xe s
theorem Vals.one:∀ {x:V} {us:List Value},Vals [x] us->∃u,us = [u]/\RelV x u:=by
 intro x us h;cases h with
 | cons r t=>cases t;exact⟨_,rfl,r⟩
theorem Vals.reverse{xs:_V}{us:List Value}(h:Vals xs us):Vals xs.reverse us.reverse:=by
 induction h with
 | nil=>exact .nil
 | cons r t ih=>rw[HF,HF];exact Vals.append ih (.cons r .nil)
theorem Vals.rep{xs:_V}{us:List Value}(h:Vals xs us):∀k:Nat,Vals (List.replicate k xs).flatten (List.replicate k us).flatten
 | 0=>.nil
 | k+1=>by
  rw[qD,qD,wO,wO];exact Vals.append h (Vals.rep h k)
theorem foldl_rep(aC:List Value):∀(k:Nat) (acc:List Value),
  List.foldl (λx1 x2=>x1++x2) acc.toArray (List.replicate k aC.toArray)=(acc++(List.replicate k aC).flatten).toArray
 | 0,acc=>by simp
 | k+1,acc=>by
  have e:acc.toArray++aC.toArray=(acc++aC).toArray:=by simp
  have e2:(acc++aC)++(List.replicate k aC).flatten=acc++(List.replicate (k+1) aC).flatten:=by
   rw[qD,wO,sH]
  rw[← e2,← foldl_rep aC k (acc++aC),← e,qD,pH]
section
variable{xs zs:_V}
theorem Inv.kG{its':List Value}{f:Array Value->Array Value}(I:Inv X pins σ H s)(hH:H l=some (.lst xs))
  (e:s.heap.get? l=some { cls:=.type "list",data:=.seq aC.toArray n }) (hf:f aC.toArray=its'.toArray) (hv:Vals ys its') (hz:ys.length<=sizeLine) :
  Inv X pins σ (upd H l (.lst ys)) { s with heap:=s.heap.update l (Obj.mapSeq f),toks:=t' }:=by
 have q:=PySem.IsL.update e f;rw[hf] at q;refine I.write (x:=l) (e:=l) (by rw[hH];exact trivial) (.inl rfl) (λb' u hb hu=>(Heap.get?_update_other s.heap (Obj.mapSeq f) (fW hb)).trans hu) ⟨_,q⟩ ?_
 exact⟨hz,its',_,hv,q⟩
theorem Inv.Vq(I:Inv X pins σ H s)(hv:Vals ys aC)(hz:ys.length<=sizeLine) :
  Inv X pins σ (upd H s.heap.objs.size (.lst ys)) { s with heap:=s.heap.push { cls:=.type "list",data:=.seq aC.toArray },toks:=t' } :=
 I.laid (λ_ _ q=>cU _ q) (bx _) ⟨hz,aC,0,hv,gf _ rfl⟩
theorem Inv.fresh(I:Inv X pins σ H s):H s.heap.objs.size=none:=I.aO.fresh (bx _)
theorem Inv.xJ(I:Inv X pins σ H s)(hH:H l=some (.lst xs)):xs.length<=sizeLine/\∃(aC:List Value) (n:Nat),Vals xs aC/\xs.length=aC.length/\s.heap.get? l=some { cls:=.type "list",data:=.seq aC.toArray n }:=by
 obtain⟨z,aC,n,r,e⟩:=I.aO l _ hH;exact⟨z,aC,n,r,r.length,e⟩
theorem Vr(h:n<=sizeLine):Builtin.List.listTooLong n=false:=by
 unfold Builtin.List.listTooLong;exact jm ∅
end
section
def Jk:V->_V->Hp->VK->Prop:=λx vs H Q=>∃l xs y,x = .ref l/\vs = [y]/\H l=some (.lst xs)/\xs.length<sizeLine/\Q .aY (upd H l (.lst (xs++[y])))
theorem mQ:Vp X "list.append" Jk:=by
 intro pins s σ H x vs v us Q I rx rv h;obtain⟨l,xs,y,rfl,rfl,hH,hz,q⟩:=h;cases rx;obtain⟨u,rfl,ru⟩:=rv.one;obtain⟨z,aC,n,r,hl,e⟩:=I.xJ hH;refine call_meets F.slot_list_append ⟨_,e,rfl⟩ F.entry_list_append (F.args_list_append_2 _ _) (PySem.list_append l aC.toArray n u (by rw[iK];lia)) ⟨e,?_⟩
 refine⟨.aY,_,I.kG (its':=aC++[u]) hH e (by simp) (r.append (.cons ru .nil)) ?_,rfl,q⟩
 rw[e7,Hx];lia
def Jl:V->_V->Hp->VK->Prop:=λx vs H Q=>∃l b xs zs,x = .ref l/\vs = [.ref b]/\H l=some (.lst xs)/\H b=some (.lst zs)/\xs.length+zs.length<=sizeLine/\Q .aY (upd H l (.lst (xs++zs)))
theorem Vs:Vp X "list.extend" Jl:=by
 intro pins s σ H x vs v us Q I rx rv h;obtain⟨l,b,xs,zs,rfl,rfl,hH,hB,hz,q⟩:=h;cases rx;obtain⟨u,rfl,ru⟩:=rv.one;cases ru;obtain⟨z,aC,n,r,hl,e⟩:=I.xJ hH;obtain⟨z2,fK,n2,r2,pZ,e2⟩:=I.xJ hB;have hsz:aC.toArray.size+fK.toArray.size<=sizeLine:=by rw[iK,iK];lia
 have Jm:¬ (!aC.toArray.isEmpty && Builtin.List.listTooLong (aC.toArray.size+fK.toArray.size))=true:=by
  rw[Vr hsz,Bool.and_false];exact fz
 refine call_meets F.slot_list_extend ⟨_,e,rfl⟩ F.entry_list_extend (F.args_list_extend_2 _ _)
  (AutoSeq1.list_extend_list_list_0 l aC.toArray n b fK.toArray n2 Jm (by rw[iK];lia) ∅) ⟨e,e2,?_⟩
 refine⟨.aY,_,I.kG (its':=aC++fK) hH e (by simp) (r.append r2) ?_,rfl,q⟩
 rw[e7];lia
def Vt:V->_V->Hp->VK->Prop:=λx vs H Q=>∃l xs y,x = .ref l/\vs = []/\H l=some (.lst xs)/\xs[xs.length - 1]? = some y/\Q y (upd H l (.lst xs.dropLast))
def Vu:V->_V->Hp->VK->Prop:=λx vs H Q=>∃l xs,x = .ref l/\vs = []/\H l=some (.lst xs)/\Q .aY (upd H l (.lst []))
def Jo:R2:=λx y H Q=>∃l b xs zs,x = .ref l/\y = .ref b/\H l=some (.lst xs)/\H b=some (.lst zs)/\xs.length+zs.length<=sizeLine/\∀p,H p=none->Q (.ref p) (upd H p (.lst (xs++zs)))
theorem Jp:cN X (binaryOp .Add) Jo:=by
 intro pins s σ H x y v u Q I rx ry h;obtain⟨l,b,xs,zs,rfl,rfl,hH,hB,hz,q⟩:=h;cases rx;cases ry;obtain⟨z,aC,n,r,hl,e⟩:=I.xJ hH;obtain⟨z2,fK,n2,r2,pZ,e2⟩:=I.xJ hB;refine PySem.P.add_list e e2 ?_ (by rw[iK,iK];lia)
 have ea:aC.toArray++fK.toArray=(aC++fK).toArray:=by simp
 rw[ea];exact⟨.ref _,_,I.Vq (t':=s.toks) (r.append r2) (by rw[e7];lia),rfl,q _ I.fresh⟩
def Jq:R2:=λx y H Q=>∃l k xs,x = .ref l/\y = .int k/\H l=some (.lst xs)/\-(2 ^ 63)<=k/\k<2 ^ 63/\xs.length*k.toNat<=sizeLine/\
 ∀p,H p=none->Q (.ref p) (upd H p (.lst (List.replicate k.toNat xs).flatten))
theorem len_rep(xs:List α)(k:Nat):(List.replicate k xs).flatten.length=k*xs.length:=by
 induction k with
 | zero=>simp
 | succ k ih=>rw[qD,wO,e7,ih,CV,Nat.add_comm]
theorem Vv:cN X (binaryOp .Mult) Jq:=by
 intro pins s σ H x y v u Q I rx ry h;obtain⟨l,k,xs,rfl,rfl,hH,h1,h2,hz,q⟩:=h;cases rx;obtain⟨t,rfl⟩:=ry;obtain⟨z,aC,n,r,hl,e⟩:=I.xJ hH;have hlen:aC.toArray.size*k.toNat<=sizeLine:=by rw[iK,← hl];exact hz
 have adJ:¬ aC.toArray.size*k.toNat > (2 ^ 63 - 1) / 8:=by
  have:(sizeLine:Nat)<=(2 ^ 63 - 1) / 8:=by decide
  lia
 have adK:¬ (!Builtin.List.listFitsIndex k)=true:=by
  rw[fitsIndex_both h1 h2];exact fz
 have Jm:¬ Builtin.List.listTooLong (aC.toArray.size*k.toNat)=true:=by
  rw[Vr hlen];exact fz
 have An:List.foldl (λx1 x2=>x1++x2) #[] (List.replicate (if aC.toArray.isEmpty=true then 0 else k.toNat) aC.toArray)=(List.replicate k.toNat aC).flatten.toArray:=by
  have f0:∀m:Nat,List.foldl (λx1 x2=>x1++x2) #[] (List.replicate m aC.toArray)=(List.replicate m aC).flatten.toArray:=λm=>by
   have:=foldl_rep aC m [];rw[List.nil_append] at this;exact this
  rw[f0];cases aC with
  | nil=>simp
  | cons a r'=>rw[if_neg (by simp)]
 refine wpAny_binaryOp_repeat_ref (T := "list") (U := "int") ⋯ ⟨_,e,rfl⟩ (λs'=>typeIs_int s' k t) noFill_list_mul F.fills_int_mul F.slot_int_rmul repeat_list F.slot_int_index.lookup
  (call_meets F.slot_int_rmul (typeIs_int s k t) F.entry_int_rmul (F.args_int_rmul_2 _ _) (int___rmul___int_list k t l aC.toArray n)
   ⟨e,rfl,⟨_,e,rfl⟩,call_meets F.slot_list_mul ⟨_,e,rfl⟩ F.entry_list_mul (F.args_list_mul_2 _ _) (AutoListH.list___mul___list_int_3 l aC.toArray n k t adK adJ Jm) ⟨e,?_⟩⟩)
 rw[An];exact⟨.ref _,_,I.Vq (t':=s.toks) (r.rep k.toNat) (by rw[len_rep,nU];exact hz),rfl,q _ I.fresh⟩
end
section
variable{κ:Type}[DecidableEq κ]
noncomputable def dP(az:List (κ×V))(k:κ):Option V:=(az.find? λkv=>decide (kv.1=k)).map (·.2)
noncomputable def putK(az:List (κ×V))(k:κ)(v:V):List (κ×V) :=
 if (az.any λkv=>decide (kv.1=k))=true then az.map (λkv=>if kv.1=k then(kv.1,v) else kv) else az++[(k,v)]
theorem mR{p:κ×V}{r:List (κ×V)}{k:κ}(e:p.1=k):dP (p::r) k=some p.2:=by simp[dP,List.find?_cons,e]
theorem lZ{p:κ×V}{r:List (κ×V)}{k:κ}(e:¬ p.1=k):dP (p::r) k=dP r k:=by simp[dP,List.find?_cons,e]
theorem xK(k:κ):∀az:List (κ×V),(az.any λkv=>decide (kv.1=k))=(dP az k).isSome
 | []=>rfl
 | p::r=>by
  rw[wL];by_cases e:p.1=k
  ·simp only[mR e,decide_eq_true e,Bool.true_or,Option.isSome_some]
  ·rw[lZ e,jm e,Bool.false_or];exact xK k r
theorem Vw(k j:κ)(y:V):∀az:List (κ×V),dP (az.map λkv=>if kv.1=k then(kv.1,y) else kv) j=(dP az j).map λx=>if j=k then y else x
 | []=>rfl
 | p::r=>by
  have ih:=Vw k j y r;rw[dh];by_cases h:p.1=k
  ·rw[if_pos h];by_cases e:p.1=j
   ·rw[mR (p:=(p.1,y)) e,mR e,CY,if_pos (e.symm.trans h)]
   ·rw[lZ (p:=(p.1,y)) e,lZ e,ih]
  ·rw[if_neg h];by_cases e:p.1=j
   ·rw[mR (p:=p) e,mR e,CY,if_neg (λz=>h (e.trans z))]
   ·rw[lZ (p:=p) e,lZ e,ih]
theorem Vx(k j:κ)(y:V):∀az:List (κ×V),dP az k=none->dP (az++[(k,y)]) j=if j=k then some y else dP az j
 | [],_=>by
  by_cases e:k=j
  ·rw[if_pos e.symm];exact mR (p:=(k,y)) e
  ·rw[if_neg (λz=>e z.symm)];exact lZ (p:=(k,y)) e
 | p::r,hn=>by
  rw[sI];have hk:¬ p.1=k:=λz=>by rw[mR z] at hn;cases hn
  rw[lZ hk] at hn;have ih:=Vx k j y r hn;by_cases e:p.1=j
  ·rw[mR e,mR e,if_neg (λz=>hk (e.trans z))]
  ·rw[lZ e,lZ e,ih]
theorem Jr(az:List (κ×V))(k j:κ)(y:V):dP (putK az k y) j=if j=k then some y else dP az j:=by
 unfold putK;by_cases a:(az.any λkv=>decide (kv.1=k))=true
 ·rw[if_pos a,Vw];rw[xK] at a;by_cases e:j=k
  ·obtain⟨x,hx⟩:=wY.mp a;rw[if_pos e,e,hx,CY,if_pos rfl]
  ·rw[if_neg e];cases dP az j with
   | none=>rfl
   | some x=>rw[CY,if_neg e]
 ·rw[if_neg a];refine Vx k j y az ?_;rw[xK] at a;cases q:dP az k with
  | none=>rfl
  | some x=>rw[q] at a;exact(a rfl).elim
theorem Js(az:List (κ×V))(k:κ)(v:V):(putK az k v).length<=az.length+1:=by
 unfold putK;split
 ·rw[aM];lia
 ·rw[e7,fH,List.length_nil];lia
theorem Vy{az:List (κ×V)}{k:κ}(v:V)(h:dP az k=none):putK az k v=az++[(k,v)]:=by
 unfold putK;rw[xK,h];exact if_neg ⋯
theorem iW.Ao{o:Option V}{u:Option Value}(r:iW o u):o.isSome=u.isSome:=by
 cases o with
 | none=>cases u with
  | none=>rfl
  | some _=>exact(show False from r).elim
 | some _=>cases u with
  | none=>exact(show False from r).elim
  | some _=>rfl
theorem iW.getD{o:Option V}{u:Option Value}{d:V}{d':Value}(r:iW o u)(rd:RelV d d'):RelV (o.getD d) (u.getD d'):=by
 cases o with
 | none=>cases u with
  | none=>exact rd
  | some _=>exact(show False from r).elim
 | some _=>cases u with
  | none=>exact(show False from r).elim
  | some _=>exact r
theorem KV.val{az:List (κ×V)}{vs:List (κ×Value)}(r:KV az vs)(k:κ):iW (dP az k) (valueAt vs k):=by
 unfold KV at r
 induction r with
 | nil=>exact True.intro
 | @cons p q ps qs h t ih =>
  obtain⟨h1,h2⟩:=h;by_cases e:p.1=k
  ·have e':q.1=k:=h1.symm.trans e;have b:valueAt (q::qs) k=some q.2:=by simp[valueAt,List.find?_cons,e']
   rw[mR e,b];exact h2
  ·have e':¬ q.1=k:=λz=>e (h1.trans z);have b:valueAt (q::qs) k=valueAt qs k:=by simp[valueAt,List.find?_cons,e']
   rw[lZ e,b];exact ih
theorem KV.any{az:List (κ×V)}{vs:List (κ×Value)}(r:KV az vs)(k:κ):(az.any λkv=>decide (kv.1=k))=vs.any λkv=>decide (kv.1=k):=by
 unfold KV at r
 induction r with
 | nil=>rfl
 | cons h t ih=>rw[wL,wL,ih,h.1]
theorem KV.Jt{az:List (κ×V)}{vs:List (κ×Value)}(r:KV az vs)(k:κ)(ry:RelV y u) :
  KV (az.map λkv=>if kv.1=k then(kv.1,y) else kv) (vs.map λkv=>if kv.1=k then(kv.1,u) else kv):=by
 unfold KV at r ⊢
 induction r with
 | nil=>exact .nil
 | @cons p q ps qs h t ih =>
  rw[dh,dh];refine .cons ?_ ih;obtain⟨h1,h2⟩:=h;by_cases e:p.1=k
  ·rw[if_pos e,if_pos (h1.symm.trans e)];exact⟨h1,ry⟩
  ·rw[if_neg e,if_neg (λz=>e (h1.trans z))];exact⟨h1,h2⟩
theorem KV.put{az:List (κ×V)}{vs:List (κ×Value)}(r:KV az vs)(k:κ)(ry:RelV y u):KV (putK az k y) (stored vs k u):=by
 unfold putK stored;rw[r.any k];by_cases e:(vs.any λkv=>decide (kv.1=k))=true
 ·rw[if_pos e,if_pos e];exact r.Jt k ry
 ·rw[if_neg e,if_neg e];exact Paired.snoc r ⟨rfl,ry⟩
theorem KV.length{az:List (κ×V)}{vs:List (κ×Value)}(r:KV az vs):az.length=vs.length:=CZ r
end
theorem xM{k:Key}(r:RelV (kV k) u):(d7 P w).is k u=true:=by
 cases k with
 | inl i=>obtain⟨t,e⟩:=(show ∃t,u=Value.int i t from r);subst e;exact acJ P w i t
 | inr x=>obtain⟨t,e⟩:=(show ∃t,u=Value.str x t from r);subst e;exact acK P w x t
theorem Vz{P:Program}{w:World}:∀ {ks:List Key} {us:List Value},Vals (ks.map kV) us->ItemsAre (d7 P w) ks us
 | [],_,r=>by rw[List.map_nil] at r;cases r;exact .nil
 | k::ks,_,r=>by
  rw[dh] at r;cases r with
  | cons h t=>exact .cons (xM h) (Vz t)
noncomputable abbrev KT(H:Hp):List (List Key×V)->List (List Key×Addr×Value)->Prop:=Paired λp q=>p.1=q.1/\H q.2.1=some (.tup (p.1.map kV))/\RelV p.2 q.2.2
theorem KT.val(r:KT H az xs)(k:List Key):iW (dP az k) ((atKey xs k).map (·.2)):=by
 induction r with
 | nil=>exact True.intro
 | @cons p q ps qs h t ih =>
  obtain⟨h1,_,h2⟩:=h;by_cases e:p.1=k
  ·have e':q.1=k:=h1.symm.trans e;have b:atKey (q::qs) k=some q.2:=by simp[atKey,List.find?_cons,e']
   rw[mR e,b];exact h2
  ·have e':¬ q.1=k:=λz=>e (h1.trans z);have b:atKey (q::qs) k=atKey qs k:=by simp[atKey,List.find?_cons,e']
   rw[lZ e,b];exact ih
theorem KT.Jt(r:KT H az xs)(k:List Key)(ry:RelV y u) :
  KT H (az.map λkv=>if kv.1=k then(kv.1,y) else kv) (xs.map (putAt k u)):=by
 induction r with
 | nil=>exact .nil
 | @cons p q ps qs h t ih =>
  rw[dh,dh];refine .cons ?_ ih;obtain⟨h1,h2,h3⟩:=h;unfold putAt;by_cases e:p.1=k
  ·rw[if_pos e,if_pos (h1.symm.trans e)];exact⟨h1,h2,ry⟩
  ·rw[if_neg e,if_neg (λz=>e (h1.trans z))];exact⟨h1,h2,h3⟩
theorem KT.put(r:KT H az xs)(k:List Key)(hb:H b=some (.tup (k.map kV)))(ry:RelV y u) :
  KT H (putK az k y) (storedH xs k b u):=by
 have e:(az.any λkv=>decide (kv.1=k))=(atKey xs k).isSome:=by
  rw[xK,(r.val k).Ao,HL]
 unfold putK storedH;rw[e];by_cases q:(atKey xs k).isSome=true
 ·rw[if_pos q,if_pos q];exact r.Jt k ry
 ·rw[if_neg q,if_neg q];exact Paired.snoc r ⟨rfl,hb,ry⟩
theorem KT.keeps(r:KT H az xs)(ht:∀b ys,H b=some (.tup ys)->H' b=some (.tup ys)):KT H' az xs :=
 Paired.Uo r λ_ _ z=>⟨z.1,ht _ _ z.2.1,z.2.2⟩
section
theorem VA{u:HO}(ok:d8 P w H h)(e:Rd H a u):eG P w H h a u:=e.ok ok
theorem vo{az:List (Key×V)}(ok:d8 P w H h)(e:Rd H a (.dK az)):az.length<=sizeLine/\(a == sysModules)=false/\∃vs,KV az vs/\h.DictOf (d7 P w) a vs :=
 show eG P w H h a (.dK az) from VA ok e
theorem adL{az:List (Key×V)}(ok:d8 P w H h)(e:H a=some (.dK az)):az.length<=sizeLine/\(a == sysModules)=false/\∃vs,KV az vs/\h.DictOf (d7 P w) a vs:=vo ok (.inl e)
theorem vp{ks:List Key}(ok:d8 P w H h)(e:H a=some (.tup (ks.map kV))):(tupleKind (d7 P w)).is h ks a:=by
 obtain⟨_,aC,r,o,h1,h2,n,h3⟩:=(show eG P w H h a (.tup (ks.map kV)) from ok a _ e);exact⟨o,aC.toArray,n,h1,h2,h3,by simpa using Vz r⟩
theorem vq(ok:d8 P w H h)(e:Rd H a (.dT az)):az.length<=sizeLine/\(a == sysModules)=false/\
  ∃xs,KT H az xs/\h.DictOfH (tupleKind (d7 P w)) a xs:=by
 obtain⟨z,y,xs,r,o,es,ep,h1,h2,h3,h4,h5⟩:=(show eG P w H h a (.dT az) from VA ok e);refine⟨z,y,xs,r,o,es,ep,h1,h2,h3,h4,λx hx=>?_,h5⟩;have all:∀ {l:List (List Key×V)} {m:List (List Key×Addr×Value)},KT H l m->∀x∈m,(tupleKind (d7 P w)).is h x.1 x.2.1:=by
  intro l m q
  induction q with
  | nil=>intro x hx;exact nomatch hx
  | @cons p q ps qs hq t ih =>
   intro x hx;rcases cV.mp hx with e | hx
   ·subst e;exact vp ok (by rw[← hq.1];exact hq.2.1)
   ·exact ih x hx
 exact all r x hx
theorem Ju(ok:d8 P w H h)(e:H a=some (.dT az)):az.length<=sizeLine/\(a == sysModules)=false/\
  ∃xs,KT H az xs/\h.DictOfH (tupleKind (d7 P w)) a xs:=vq ok (.inl e)
end
def gO(H:Hp)(a:Addr)(y:V)(r:Option V):Prop :=
 (∃az k,Rd H a (.dK az)/\y=kV k/\r=dP az k)\/∃az k b,Rd H a (.dT az)/\y = .ref b/\H b=some (.tup (k.map kV))/\r=dP az k
def mS(H:Hp)(a:Addr)(y v:V)(H':Hp):Prop :=
 (∃az k,H a=some (.dK az)/\y=kV k/\az.length<sizeLine/\H' = upd H a (.dK (putK az k v)))\/
 ∃az k b,H a=some (.dT az)/\y = .ref b/\H b=some (.tup (k.map kV))/\az.length<sizeLine/\H' = upd H a (.dT (putK az k v))
theorem gO.k{az:List (Key×V)}{k:Key}(e:H a=some (.dK az)):gO H a (kV k) (dP az k):=.inl ⟨az,k,.inl e,rfl,rfl⟩
theorem gO.t{k:List Key}(e:H a=some (.dT az))(eb:H b=some (.tup (k.map kV))):gO H a (.ref b) (dP az k):=.inr ⟨az,k,b,.inl e,rfl,eb,rfl⟩
theorem mS.k{az:List (Key×V)}{k:Key}{v:V}(e:H a=some (.dK az))(hl:az.length<sizeLine):mS H a (kV k) v (upd H a (.dK (putK az k v))):=.inl ⟨az,k,e,rfl,hl,rfl⟩
theorem mS.t{k:List Key}{v:V}(e:H a=some (.dT az))(eb:H b=some (.tup (k.map kV)))(hl:az.length<sizeLine) :
  mS H a (.ref b) v (upd H a (.dT (putK az k v))):=.inr ⟨az,k,b,e,rfl,eb,hl,rfl⟩
section
variable{v:V}{r:Value}{o:Option V}
theorem Inv.big(I:Inv X pins σ H s):sysModules<s.heap.objs.size:=by
 have h:mainGlobals<s.heap.objs.size:=(I.mod.glob.keeps I.bk).lt;exact jJ ⋯ h
theorem adM(hu:A.units+1<cLine)(I:Inv X pins σ H s)(g:gO H a y (some v))(ry:RelV y u)(h:∀w' s',Inv X pins σ H s'->RelV v w'->Q w' s') :
  wpAny (model X.prog X.w) A (getItem (.ref a) u) Q E s:=by
 rcases g with⟨az,k,e,ey,l⟩ | ⟨az,k,b,e,ey,eb,l⟩
 ·subst ey;obtain⟨z,hd,vs,rel,dd⟩:=vo I.aO e;obtain⟨w',hw,lW⟩:=iW.some_of (v:=v) (o:=valueAt vs k) (by rw[l];exact rel.val k)
  exact wpAny_getItem_of (xM ry) dd.mapOf hw (h w' _ (I.tok _) lW)
 ·subst ey;cases (show u=Value.ref b from ry);obtain⟨z,hd,xs,rel,dd⟩:=vq I.aO e;obtain⟨w',hw,lW⟩:=iW.some_of (v:=v) (o:=(atKey xs k).map (·.2)) (by rw[l];exact rel.val k)
  obtain⟨p,hp,gP⟩:=CW.mp hw;refine wpAny_getItem_heap (zH hu) (vp I.aO eb) dd hp ?_;rw[gP];exact h w' _ (I.tok _) lW
theorem adN(hu:A.units+1<cLine)(I:Inv X pins σ H s)(g:gO H a y o)(ry:RelV y u)(h:∀s',Inv X pins σ H s'->Q (.bool o.isSome) s') :
  wpAny (model X.prog X.w) A (compareOp .In u (.ref a)) Q E s:=by
 rcases g with⟨az,k,e,ey,l⟩ | ⟨az,k,b,e,ey,eb,l⟩
 ·subst ey;obtain⟨z,hd,vs,rel,dd⟩:=vo I.aO e;refine wpAny_in_of (xM ry) hd dd.mapOf ?_;rw[← (rel.val k).Ao,← l];exact h _ (I.tok _)
 ·subst ey;cases (show u=Value.ref b from ry);obtain⟨z,hd,xs,rel,dd⟩:=vq I.aO e;refine wpAny_in_heap (zH hu) (vp I.aO eb) hd dd ?_;have q:=(rel.val k).Ao;rw[HL] at q;rw[← q,← l];exact h _ (I.tok _)
theorem adO(hu:A.units+1<cLine)(I:Inv X pins σ H s)(g:gO H a y o)(ry:RelV y u)(h:∀s',Inv X pins σ H s'->Q (.bool (!o.isSome)) s') :
  wpAny (model X.prog X.w) A (compareOp .NotIn u (.ref a)) Q E s:=by
 rcases g with⟨az,k,e,ey,l⟩ | ⟨az,k,b,e,ey,eb,l⟩
 ·subst ey;obtain⟨z,hd,vs,rel,dd⟩:=vo I.aO e;refine wpAny_notIn_of (xM ry) hd dd.mapOf ?_;rw[← (rel.val k).Ao,← l];exact h _ (I.tok _)
 ·subst ey;cases (show u=Value.ref b from ry);obtain⟨z,hd,xs,rel,dd⟩:=vq I.aO e;refine wpAny_notIn_heap (zH hu) (vp I.aO eb) hd dd ?_;have q:=(rel.val k).Ao;rw[HL] at q;rw[← q,← l];exact h _ (I.tok _)
theorem Jv(I:Inv X pins σ H s)(mu:zN (H a))(hs:Heap.SameBut a s.heap h')(he:∃q,h'.get? a=some q)(new:eG X.prog X.w (upd H a ob) h' a ob) :
  Inv X pins σ (upd H a ob) { s with heap:=h',toks:=t' } :=
 I.write (x:=a) (e:=a) mu (.inl rfl) (λb q hb z=>(hs.2 b hb).trans z) he new
theorem adP{az:List (Key×V)}{vs:List (Key×Value)}(z:az.length<=sizeLine)(hd:(a == sysModules)=false)(rel:KV az vs)(dd:h'.DictOf (d7 P w) a vs) :
  eG P w H' h' a (.dK az):=⟨z,hd,vs,rel,dd⟩
theorem adQ{Q:Unit->Shared->Prop}(hu:A.units+1<cLine)(I:Inv X pins σ H s)(g:mS H a y v H')(ry:RelV y u)(rv:RelV v r)(h:∀s',Inv X pins σ H' s'->Q () s') :
  wpAny (model X.prog X.w) A (setItem (.ref a) u r) Q E s:=by
 rcases g with⟨az,k,e,ey,l,eH⟩ | ⟨az,k,b,e,ey,eb,l,eH⟩
 ·subst ey eH;obtain⟨z,hd,vs,rel,dd⟩:=adL I.aO e;have hz:vs.length<=sizeLine:=by rw[← rel.length];exact z
  have hl:(putK az k v).length<=sizeLine:=by have:=Js az k v;lia
  refine wpAny_setItem_pairs (hsz:=hz) (xM ry) dd λh' qU hs=>h _ ?_;have he:∃q,h'.get? a=some q:=let ⟨q,_,_,hq,_⟩:=qU;⟨q,hq⟩
  exact Jv I (by rw[e];exact True.intro) hs he (adP hl hd (rel.put k rv) qU)
 ·subst ey eH;cases (show u=Value.ref b from ry);obtain⟨z,hd,xs,rel,dd⟩:=Ju I.aO e;have hz:xs.length<=sizeLine:=by rw[← CZ rel];exact z
  have hl:(putK az k v).length<=sizeLine:=by have:=Js az k v;lia
  refine wpAny_setItem_heap (hsz:=hz) (zH hu) (vp I.aO eb) dd λh' qU hs=>h _ ?_;obtain⟨q,es,ep,hq,h2,h3,h4,_,h5⟩:=qU;refine Jv I (by rw[e];exact True.intro) hs ⟨q,hq⟩ ⟨hl,hd,_,(rel.put k eb rv).keeps λc ys ec=>?_,q,es,ep,hq,h2,h3,h4,h5⟩
  rw[aJ (iy ec e (λz=>nomatch z))];exact ec
end
section
variable{az:List (Key×V)}{k:Key}
end
def VB(i:Expr):Prop:=∀ov iv,subscripted i false ov iv=operate [ov,iv] (getItem ov iv)
theorem adR{slice:Expr}{id:String}
  (hl:typeLookup (.type T) "__getitem__" = pure (some (.builtin id))) (hs:VB slice)
  (h:wpAny (model prog w) A (eval value env) (λo bC=>wpAny (model prog w) A (eval slice env) (λi jM=>jM.TypeIs o T/\wpAny (model prog w) A (getItem o i) Q E jM) E bC) E s) :
  wpAny (model prog w) A (eval (.Subscript value slice pos) env) Q E s:=by
 refine Subscript_ (jq h (λo bC p8=>jq p8 (λi jM Aq=>?_) λ_ _ x=>x) λ_ _ x=>x);obtain⟨hT,Aq⟩:=Aq;unfold subscriptTail;refine aH ?_;rw[getitemInPython_of_ne hT.not_modules];refine aH (sU hT hl ?_);have fin:wpAny (model prog w) A (subscripted slice false o i) (λr mT=>wpAny (model prog w) A (letTemporaryGo value o r >>= λ_=>pure r) Q E mT) E jM:=by
  rw[hs o i];exact wpAny_operating (jq Aq (λr mT DN=>aH (wpAny_letTemporaryGo (aP DN))) λ_ _ x=>x)
 first
  | exact aP (aH fin)
  | exact aH (aP (aH fin))
  | exact aH fin
theorem adS{o:Option V}(I:Inv X pins σ H s)(g:gO H a y o):s.TypeIs (.ref a) "dict" := by
 rcases g with⟨az,k,e,_,_⟩ | ⟨az,k,b,e,_,_,_⟩
 ·obtain⟨_,_,vs,_,dd⟩:=vo I.aO e;exact dd.typeIs
 ·obtain⟨_,_,xs,_,dd⟩:=vq I.aO e;exact dd.typeIs
def Jw(td ty:TE):TE:=λσ H Q=>td σ H λx H1=>ty σ H1 λy H2=>∃a v,x = .ref a/\gO H2 a y (some v)/\Q v H2
def Jx(ty td:TE):TE:=λσ H Q=>ty σ H λy H1=>td σ H1 λx H2=>∃a o,x = .ref a/\gO H2 a y o/\Q (.bl o.isSome) H2
def Jy(ty td:TE):TE:=λσ H Q=>ty σ H λy H1=>td σ H1 λx H2=>∃a o,x = .ref a/\gO H2 a y o/\Q (.bl (!o.isSome)) H2
def Jz(td ty tv:TE):TS:=λD σ H=>tv σ H λv H1=>td σ H1 λx H2=>ty σ H2 λy H3=>∃a H4,x = .ref a/\mS H3 a y v H4/\D.nx σ H4
section
variable{o i:Expr}{adb:Pos}
theorem adT(hu:X.A.units+1<cLine)(ho:PE X o td)(hi:PE X i ty)(hs:VB i):PE X (.Subscript o i pos) (Jw td ty):=by
 intro pins s σ H Q I h;refine adR PySem.F.slot_dict_getitem.lookup hs (aW (ho pins s σ H _ I h) λu s1 ⟨x,H1,I1,rx,q1⟩=>aW (hi pins s1 σ H1 _ I1 q1) λiv s2 bO=>?_);obtain⟨y,H2,I2,ry,a,v,ex,g,q2⟩:=bO;subst ex;obtain rfl:u=Value.ref a:=rx;exact⟨adS I2 g,adM hu I2 g ry λw' s3 I3 lW=>⟨v,H2,I3,lW,q2⟩⟩
theorem VC(hu:X.A.units+1<cLine)(hi:PE X i ty)(ho:PE X o td):PC X .In i o (Jx ty td):=by
 intro pins s σ H Q I h;refine aW (hi pins s σ H _ I h) λiv s1 ⟨y,H1,I1,ry,q1⟩=>aW (ho pins s1 σ H1 _ I1 q1) λu s2 bO=>?_;obtain⟨x,H2,I2,rx,a,ov,ex,g,q2⟩:=bO;subst ex;obtain rfl:u=Value.ref a:=rx;exact adN hu I2 g ry λs3 I3=>⟨.bl ov.isSome,H2,I3,rfl,q2⟩
theorem adU(hu:X.A.units+1<cLine)(hi:PE X i ty)(ho:PE X o td):PC X .NotIn i o (Jy ty td):=by
 intro pins s σ H Q I h;refine aW (hi pins s σ H _ I h) λiv s1 ⟨y,H1,I1,ry,q1⟩=>aW (ho pins s1 σ H1 _ I1 q1) λu s2 bO=>?_;obtain⟨x,H2,I2,rx,a,ov,ex,g,q2⟩:=bO;subst ex;obtain rfl:u=Value.ref a:=rx;exact adO hu I2 g ry λs3 I3=>⟨.bl (!ov.isSome),H2,I3,rfl,q2⟩
theorem As(hu:X.A.units+1<cLine)(ho:PE X o td)(hi:PE X i ty)(hv:PE X value tv)(hs:swapsWith value (some (.Subscript o i pos')) pos.line X.env=pure false) :
  PS X (.Assign [.Subscript o i pos'] value pos) (Jz td ty tv):=by
 intro pins s σ H D I h;refine wpAny_Assign_Subscript (aW (hv pins s σ H _ I h) λr s1 ⟨v,H1,I1,rv,q1⟩=>aW (ho pins s1 σ H1 _ I1 q1) λu s2 ⟨x,H2,I2,rx,q2⟩=>aW (hi pins s2 σ H2 _ I2 q2) λiv s3 bO=>?_) hs;obtain⟨y,H3,I3,ry,a,H4,ex,g,q3⟩:=bO;subst ex;obtain rfl:u=Value.ref a:=rx;exact adQ hu I3 g ry rv λs4 I4=>⟨σ,H4,I4,q3⟩
end
theorem adV(h:Heap)(hb:sysModules<h.objs.size):eG P w H (h.push { cls:=.type "dict",data:=.dict #[] }) h.objs.size (.dK []) :=
 ⟨eW _,k_.mpr (fW (dj hb)),[],.nil,Heap.DictOf.new h⟩
theorem adW(h:Heap)(hb:sysModules<h.objs.size):eG P w H (h.push { cls:=.type "dict",data:=.dict #[] }) h.objs.size (.dT []) :=
 ⟨eW _,k_.mpr (fW (dj hb)),[],.nil,_,#[],0,gf _ rfl,⟨rfl,rfl,rfl⟩,rfl,rfl,CH⟩
def JA:TE:=λ_ H Q=>∀p,H p=none->Q (.ref p) (upd H p (.dK []))
def JB:TE:=λ_ H Q=>∀p,H p=none->Q (.ref p) (upd H p (.dT []))
section
theorem adX:PE X (.Dict [] [] pos) JA:=λpins s σ H Q I h =>
 HS ⟨.ref s.heap.objs.size,_,I.laid (a:=s.heap.objs.size) (o:=.dK []) (t':=s.toks) (λ_ _ q=>cU _ q) (bx _) (adV s.heap I.big),rfl,h _ (I.aO.fresh (bx _))⟩
theorem JC:PE X (.Dict [] [] pos) JB:=λpins s σ H Q I h =>
 HS ⟨.ref s.heap.objs.size,_,I.laid (a:=s.heap.objs.size) (o:=.dT []) (t':=s.toks) (λ_ _ q=>cU _ q) (bx _) (adW s.heap I.big),rfl,h _ (I.aO.fresh (bx _))⟩
end
structure M1(X:Cx)(o:Expr)(m:Str)(apos:Pos)(e:Expr)(gj:Pos):Prop where
 base:attributeBase o m X.env (eval o X.env)=eval o X.env
 xO:((backTo gj (starEach [e] X.env)).all (λx => !x.1) && (backToKw gj (keywordEach [] X.env)).all (λx=>x.1.isSome)
  && decide (([e]:List Expr).length+([]:List Keyword).length+(if ([]:List Keyword).isEmpty then 0 else 1)<30))=true
 line:(apos.endLine == gj.line)=true
 trees:backTo gj (starEach [e] X.env) = [(false,eval e X.env)]
structure M2(X:Cx)(o:Expr)(m:Str)(apos:Pos)(e f:Expr)(gj:Pos):Prop where
 base:attributeBase o m X.env (eval o X.env)=eval o X.env
 xO:((backTo gj (starEach [e,f] X.env)).all (λx => !x.1) && (backToKw gj (keywordEach [] X.env)).all (λx=>x.1.isSome)
  && decide (([e,f]:List Expr).length+([]:List Keyword).length+(if ([]:List Keyword).isEmpty then 0 else 1)<30))=true
 line:(apos.endLine == gj.line)=true
 trees:backTo gj (starEach [e,f] X.env) = [(false,eval e X.env),(false,eval f X.env)]
def JD(H:Hp)(a:Addr):Prop:=(∃az,Rd H a (.dK az))\/∃az,Rd H a (.dT az)
theorem adY(I:Inv X pins σ H s)(d:JD H a) :
  s.TypeIs (.ref a) "dict"/\(∀b,Value.ref a = .ref b->∃ob,s.heap.get? b=some ob/\ob.dict=none)/\(a == sysModules)=false:=by
 rcases d with⟨az,e⟩ | ⟨az,e⟩
 ·obtain⟨_,hd,vs,_,dd⟩:=vo I.aO e;refine⟨dd.typeIs,λb q=>?_,hd⟩;cases q;obtain⟨ob,_,_,h1,h2,_⟩:=dd;exact⟨ob,h1,h2.2.1⟩
 ·obtain⟨_,hd,xs,_,dd⟩:=vq I.aO e;refine⟨dd.typeIs,λb q=>?_,hd⟩;cases q;obtain⟨ob,_,_,h1,h2,_⟩:=dd;exact⟨ob,h1,h2.2.1⟩
section
variable{d:V}{r:Value}{o:Option V}
theorem adZ(hu:A.units+1<cLine)(I:Inv X pins σ H s)(g:gO H a y o)(ry:RelV y u)(h:∀w' s',Inv X pins σ H s'->RelV (o.getD .aY) w'->Q w' s') :
  wpAny (model X.prog X.w) A (call (.builtin "dict.get") [.ref a,u]) Q E s:=by
 rcases g with⟨az,k,e,ey,l⟩ | ⟨az,k,b,e,ey,eb,l⟩
 ·subst ey;obtain⟨z,hd,vs,rel,dd⟩:=vo I.aO e;refine call_meetsIn zE dd.typeIs HM (PySem.F.args_dict_get_2 _ _) (meets_dict_get (d7 X.prog X.w) a (xM ry) hd) ⟨_,dd.mapOf,h _ _ (I.tok _) ?_⟩;rw[l];exact(rel.val k).getD rfl
 ·subst ey;cases (show u=Value.ref b from ry);obtain⟨z,hd,xs,rel,dd⟩:=vq I.aO e;refine call_meetsIn zE dd.typeIs HM (PySem.F.args_dict_get_2 _ _) (meetsH_dict_get (tupleKind (d7 X.prog X.w)) a b hd) ⟨zH hu,k,xs,vp I.aO eb,dd,h _ _ (I.tok _) ?_⟩;rw[l];exact(rel.val k).getD rfl
end
def JE(td ty:TE):TE:=λσ H Q=>td σ H λx H1=>∃a,x = .ref a/\JD H1 a/\ty σ H1 λy H2=>∃o,gO H2 a y o/\Q (o.getD .aY) H2
section
variable{o f:Expr}{tx:TE}
theorem ad0(hu:X.A.units+1<cLine)(ho:PE X o td)(he:PE X e ty)(m:M1 X o "get" apos e gj):PE X (.Call (.Attribute o "get" apos) [e] [] gj) (JE td ty):=by
 intro pins s σ H Q I h;refine wpAny_Call_method m.base m.xO m.line PySem.F.plainAttrs_dict zE PySem.F.type_dict_get (aW (ho pins s σ H _ I h) λu s1 bO=>?_);obtain⟨x,H1,I1,rx,a,ex,d,q1⟩:=bO;subst ex;obtain rfl:u=Value.ref a:=rx;obtain⟨t1,t2,_⟩:=adY I1 d;refine⟨t1,t2,?_⟩;rw[m.trees];refine Hh rfl (Hi (wJ (aW (he pins s1 σ H1 _ I1 q1) λiv s2 ⟨y,H2,I2,ry,zz⟩=>zd ?_)));obtain⟨ov,g,q2⟩:=zz;exact adZ hu I2 g ry λw' s3 I3 lW=>⟨_,H2,I3,lW,q2⟩
end
section
variable{az:List (Key×V)}
end
end _L
namespace JF
open PySem PySem.W PySem.Calls PyProof.Rows
theorem ad1{P:Params}:∀(ns:_I) (vs:List Value),WellAll P h vs (ns.map WData.int)->IntsAre vs ns:=by
 intro ns
 induction ns with
 | nil =>
  intro vs w;rw[List.map_nil] at w;cases w;exact .nil
 | cons n ns ih =>
  intro vs w;rw[List.map_cons] at w;cases w with
  | cons a b =>
   cases a;exact .cons _ _ (ih _ b)
theorem ad2{l:OpenLaw}(hn:l.most=some n){P:Params}{args:List WData}{vals:List Value}
  (DO:l.row.toRowW.claim.pre args=true) (JG:WellAll P h vals args) :
  ∃a vs ns,vals = [Value.ref a]/\args = [WData.list (ns.map WData.int)]/\h.get? a=some { cls:=.type "list",data:=.seq vs.toArray }/\IntsAre vs ns/\ns.length<=n:=by
 have hsh:WShape.hasAll [] args [.list .int] = true:=(pre_splitW DO).1;have hc:l.pre.holds [] { args:=args }=true:=(pre_splitW DO).2;obtain⟨d,r,rfl,h1,h2⟩:=hasAllW_cons hsh;obtain rfl:=hasAllW_nil h2;obtain⟨xs,rfl,h3⟩:=hasW_list h1;obtain⟨ns,rfl⟩:=items_int h3;have hlen:ns.length<=n:=by
  unfold OpenLaw.pre at hc;have h4:(WTm.not (.lt (.lit (.int (n:Int))) (.len (.arg 0)))).holds [] { args:=[.list (ns.map .int)] }=true:=by
   have h4:=(holds_andW hc).1;rw[hn] at h4;exact h4
  have h5:=condW_of h4 (w_not (w_lt w_lit (w_len_list (w_arg rfl))));rw[List.length_map] at h5;refine Nat.le_of_not_lt λq=>?_
  have q':(n:Int)<((ns.length:Nat):Int):=by lia
  first
   | (rw[decide_eq_true q'] at h5;exact absurd h5 ⋯)
   | (simp at h5;lia)
 cases JG with
 | cons w1 w2 =>
  cases w2;cases w1 with
  | list ho jQ=>exact⟨_,_,ns,rfl,rfl,ho,ad1 ns _ jQ,hlen⟩
theorem ad3(l:OpenLaw)(args:List WData):l.row.toRowW.claim.post args (.bool true) args=true :=
 postW_of (r:=l.row.toRowW) (X:=(true == true))
  (show WShape.has [] (.bool true) .bool=true by first | rfl | decide | simp[WShape.has,WShape.arms,WShape.armsAll])
  (show (WTm.eq .res (.lit (.bool true))).value [] { args:=args,res:=some (.bool true),after:=args }=some (.bool (true == true)) from w_eq_bool (w_res rfl) w_lit) rfl
theorem VD{l:OpenLaw}{q:Program}{XP:(Str->Option Value)->Heap->Prop}{d:DefRec}
  (hn:l.most=some n) (vt:d.params.defaults = [])
  (call:∀(w:World) (eX bC:Shared) (mg mb:Str->Option Value) (fa:Addr) (o:Obj) (pm cd doc:Value) (a:Addr) (vs:List Value) (ns:_I),
   Ground q loose [] XP w eX mg mb bC.heap->YP w bC.heap->
   bC.heap.get? fa=some o->o.data = .func (docDef d.name d.params d.body d.scope pm cd doc)->bC.heap.CodeRec cd d.name->mg d.name=⇑fa->
   bC.heap.get? a=some { cls:=.type "list",data:=.seq vs.toArray }->IntsAre vs ns->ns.length<=n->bC.gens = #[]->
   codeAny (model l.prog w) callerA (.call (.ref fa) ⟨[.ref a],[]⟩) (λr s'=>r = .ok (.ret (.bool true))/\OldK bC.heap s'.heap/\s'.os=bC.os/\AllBare s'.gens) bC) :
  WalkO q loose XP YP l.row.toRowW d [] (λf vs=>PySem.call f vs):=by
 intro w eX bC mg mb G Y fa o pm cd doc dV kV ho hd fE hD hmg hg args vals as DO aqi hrd JG hlo;obtain rfl:dV = .none:=Dflts.none hD vt;obtain rfl:kV = .none:=Dflts.noKw hD;obtain⟨a,vs,ns,rfl,rfl,Au,hints,hlen⟩:=ad2 hn DO JG;refine enter_call (codeAny_mono (call w eX bC mg mb fa o pm cd doc a vs ns G Y ho (fd_plain hd) fE hmg Au hints hlen hg) λr s' hq=>?_);obtain⟨rfl,h2,h3,h4⟩:=hq;exact⟨.inl ⟨.bool true,.bool true,[],rfl,λ_=>rfl,.bool true,ad3 l _,λ_=>⟨List.Pairwise.nil,λ_ hm=>(nomatch hm)⟩⟩,h2,h3,h4⟩
section
variable{K:Frag}
noncomputable def ledger(h:Heap)(L d:Addr):List (Addr×Obj):=(List.range h.objs.size).filterMap λa=>if a=L\/a=d then none else(h.get? a).map λo=>(a,o)
end
end JF
namespace _L
open PySem PySem.Spec PyProof.Rows
theorem Av:∀ {vs:List Value} {ns:_I},IntsAre vs ns->Vals (ns.map V.int) vs
 | _,_,.nil=>.nil
 | _,_,.cons n t h=>.cons ⟨t,rfl⟩ (Av h)
def JH(H:Hp):Prop:=∀b,H b=none\/∃o xs,H b=some (.jL o (.lst xs))
theorem ad4{mb:Str->Option Value}{k:Nat}{x:Str}{bC:Shared}{vs:List Value}{ns:_I}
  (KX:K.In bC.heap) (oF:bC.heap.Ns mainGlobals mg) (hb:bC.heap.Ns builtinsNs mb) (JI:∀x:Str,x≠"__name__"->mb x=bootBuiltins x) (JJ:bC.heap.NoLimit) (hg:bC.gens = #[])
  (ha:bC.heap.get? a=some { cls:=.type "list",data:=.seq vs.toArray }) (hi:IntsAre vs ns) (hl:ns.length<=sizeLine) (hr:d9 k callerA)
  (F:∀base:Heap,K.In base->base.Ns mainGlobals mg->bq P w K mg base CX k fa fd [x] sp) (mU:∀(s:Shared) (u:Value),BindsTo s fd ⟨[u],[]⟩ [(x,u)])
  (eB:∀H:Hp,JH H->aA K H a (ns.map V.int)->sp [.ref a] H (λv _=>v = .bl true) λ_ _ _=>False)
  (JK:∀H e s',CX [] H bC (λ_ _ _=>False) e s'->False) :
  codeAny (model P w) callerA (.call (.ref fa) ⟨[.ref a],[]⟩) (λr s'=>r = .ok (.ret (.bool true))/\OldK bC.heap s'.heap/\s'.os=bC.os/\AllBare s'.gens) bC:=by
 have rv:=Av hi;have JL:=hi.length
 -- from an abstract heap in which nothing but the script may be tracked
 have core:∀H:Hp,JH H->aA K H a (ns.map V.int)->d8 P w H bC.heap->(∀b,H b≠none->b=a)->(H a≠none->K.lookup a=none)->
   codeAny (model P w) callerA (.call (.ref fa) ⟨[.ref a],[]⟩) (λr s'=>r = .ok (.ret (.bool true))/\OldK bC.heap s'.heap/\s'.os=bC.os/\AllBare s'.gens) bC:=by
  intro H hO hS aO hA hK;have vv:∀ {b:Addr} {o:Obj},bC.heap.get? b=some o->H b=none->(ki bC.heap H).get? b=some o:=λe n=>Uu e n;have Ae:∀ {b:Addr} {o:Obj} {es:Array DictEntry} {ep:Nat},bC.heap.get? b=some o->o.data = .dict es ep->H b=none:=λ{b o es ep} e d=>by
   cases q:H b with
   | none=>rfl
   | some u =>
    have e':b=a:=hA b (by rw[q];simp)
    subst e';rw[ha] at e;cases e;have d':Data.seq vs.toArray _=Data.dict es ep:=d;cases d'
  have qV:∀ {b:Addr} {m:Str->Option Value},bC.heap.Ns b m->(ki bC.heap H).Ns b m:=λ{b m} ⟨o,es,ep,e,d,r⟩=>⟨o,es,ep,vv e (Ae e d),d,r⟩;have Aw:K.In (ki bC.heap H):=λb o e=>vv (KX b o e) (by
   cases q:H b with
   | none=>rfl
   | some u =>
    have e':b=a:=hA b (by rw[q];simp)
    subst e';rw[hK (by rw[q];simp)] at e;cases e)
  have hM:Mod K mg (ki bC.heap H):=⟨Aw,qV oF,⟨mb,qV hb,JI⟩,let ⟨mc,h1,h2⟩:=JJ;⟨mc,qV h1,h2⟩⟩
  have e0:tE P w K mg (ki bC.heap H) callerA [] bC H:=⟨rfl,hM,λb o e=>Uv e,zw (Ut _ _),trivial,λb hb=>absurd (show b∈([]:_A) from hb) (by simp),aO,.of_eq hg⟩
  refine w5 ((F _ Aw (qV oF)).run callerA [] bC H ⟨[.ref a],[]⟩ [.ref a] [.ref a] _ _ hr e0 (mU bC (.ref a)) (.cons rfl .nil) (eB H hO hS)) λr s' h=>?_;cases r with
  | error e=>exact(JK H e s' h).elim
  | ok fl =>
   cases fl with
   | next=>exact False.elim h
   | brk=>exact False.elim h
   | cont=>exact False.elim h
   | ret u =>
    obtain⟨v,H',os,bare,un,DP,r',q⟩:=h;have q':v = .bl true:=q;subst q';obtain rfl:u=Value.bool true:=r';refine⟨rfl,OldK.of_keep λb o e=>?_,os,bare⟩;cases q:H b with
    | none=>exact un.keep b o e q (by intro z;exact absurd (show b∈([]:_A) from z) (by simp)) (by simp)
    | some u =>
     rcases hO b with z | ⟨ob,xs,z⟩
     ·rw[q] at z;cases z
     ·have z2:=un.pR b ob _ z;obtain⟨e1,_⟩:=aO b _ z;obtain⟨e2,_⟩:=DP b _ z2;rw[e] at e1;cases e1;exact e2
 cases hk:K.lookup a with
 | some o =>
  -- the script is one of the module's own objects
  have e:=KX a o hk;rw[ha] at e;cases e;refine core (λ_=>none) (λ_=>.inl rfl) (.inr ⟨_,vs.toArray,_,hk,rfl,rfl,rfl,by rw[iK,JL];exact hl,↑rv⟩) (λb u z=>by have z':(none:Option HO)=some u:=z;cases z') (λb z=>absurd rfl z) λz=>absurd rfl z
 | none =>
  refine core (λb=>if b=a then some (.jL { cls:=.type "list",data:=.seq vs.toArray } (.lst (ns.map V.int))) else none) (λb=>?_) (.inl (.inr ⟨{ cls:=.type "list",data:=.seq vs.toArray },if_pos rfl⟩)) (λb u z=>?_) (λb z=>?_) λ_=>hk
  ·by_cases hb:b=a
   ·exact .inr ⟨_,_,if_pos hb⟩
   ·exact .inl (if_neg hb)
  ·by_cases hb:b=a
   ·have z':=(if_pos hb).symm.trans z;cases z';subst hb;exact⟨ha,by rw[aM];exact hl,vs,_,rv,ha⟩
   ·have z':=(if_neg hb).symm.trans z;cases z'
  ·by_cases hb:b=a
   ·exact hb
   ·exact absurd (if_neg hb) z
noncomputable abbrev KOf(_:K.In h):W.Frag:=K
theorem aqj{l:PySem.W.OpenLaw}{k:Nat}{q:Program}{XP:(Str->Option Value)->Heap->Prop}{d:DefRec}{K:Params->W.Frag}{CX:World->jN}{sp:World->Sp}{x:Str}
  (hn:l.most=some n) (xB:n<=sizeLine) (vt:d.params.defaults = []) (hr:d9 k callerA)
  (hY:∀(w:World) (h:Heap),YP w h->(K w.params).In h)
  (F:∀(w:World) (mg:Str->Option Value) (fa:Addr) (h:Heap),(K w.params).In h->h.Ns mainGlobals mg->mg d.name=⇑fa->
   ∃fd:FuncData,(∀(s:Shared) (u:Value),BindsTo s fd ⟨[u],[]⟩ [(x,u)])/\
    ∀base:Heap,(K w.params).In base->base.Ns mainGlobals mg->bq l.prog w (K w.params) mg base (CX w) k fa fd [x] (sp w))
  (eB:∀(w:World) (H:Hp) (a:Addr) (ns:_I),ns.length<=n->JH H->aA (K w.params) H a (ns.map V.int)->sp w [.ref a] H (λv _=>v = .bl true) λ_ _ _=>False)
  (JK:∀(w:World) (H:Hp) (s:Shared) (e:Value) (s':Shared),CX w [] H s (λ_ _ _=>False) e s'->False) :
  PySem.W.WalkO q loose XP YP l.row.toRowW d [] (λf vs=>PySem.call f vs):=by
 refine JF.VD hn vt λw eX bC mg mb fa o pm cd doc a vs ns G Y ho hd fE hmg Au hints hlen hg=>?_;have KX:=hY w _ Y;obtain⟨fd,hb,hF⟩:=F w mg fa _ KX G.T.g hmg;exact ad4 KX G.T.g G.T.b G.T.builtins G.T.nolimit hg Au hints (cH hlen xB) hr hF hb (λH hO hS=>eB w H a ns hlen hO hS) λH e s'=>JK w H bC e s'
noncomputable def inClass(s:Stmt)(j:Nat):Stmt:=match s with
 | .ClassDef _ _ _ body _ _ _ _ _ _ _=>body.getD j (.Pass ⟨0,0,0,0⟩)
 | _=>.Pass ⟨0,0,0,0⟩
noncomputable def jd(s:Stmt):Arguments:=match s with
 | .FunctionDef _ a _ _ _ _ _ _ _ _=>a
 | _=>{ posonlyargs:=[],args:=[],vararg:=none,kwonlyargs:=[],kw_defaults:=[],kwarg:=none,defaults:=[] }
noncomputable def gQ(s:Stmt):List Stmt:=match s with
 | .FunctionDef _ _ b _ _ _ _ _ _ _=>b
 | _=>[]
noncomputable def aZ(s:Stmt):Scope:=match s with
 | .FunctionDef _ _ _ _ _ _ sc _ _ _=>sc
 | _=>{ kind:=.function,names:=[],isGenerator:=false,isCoroutine:=false }
noncomputable abbrev bF:jN:=λ_ _ _ _ _ _=>False
noncomputable abbrev E0:XK:=λ_ _ _=>False
theorem aN:Passes bF X E0:=λ_ _ _ _ _ _ _ h=>h.elim
structure cX(K:W.Frag)(x qual:Str)(st:Stmt)(f:Addr)(fd:FuncData):Prop where
 ex:∃(oc:Value) (od:Option Addr) (kV doc pm:Value) (an:Option Addr) (aR ct:Value) (kC:Array (Option Value)),
  fd=PySem.W.fnOf x qual (jd st) (gQ st) (aZ st) .none kV doc pm an aR ct/\K.lookup f=some ⟨oc,od,.func fd,kC⟩/\PySem.W.codeIn K aR qual=true
 kp:PySem.W.keepIn K (.ref f)=true
section
theorem cX.ok{x:Str}{st:Stmt}{k:Nat}(F:cX K x qual st f fd)(S:bL N ps (aZ st))(len:∀vs H Q E,sp vs H Q E->vs.length=ps.length)
  (vm:∀(aR:Value) (A:Around) (outer:List Env) (s:Shared) (H:Hp) (vs:_V) (Q:VK) (E:XK),d9 k (A.deeper (envOfC qual (aZ st) s.heap.objs.size f aR))->sp vs H Q E->
   ∃t,iZ (qN bF P w K mg base N qual (aZ st) f aR A outer s H E).sY (gQ st) t/\t { nx:=λ_ H'=>Q .aY H',rt:=Q } (start N vs) H):bq P w K mg base bF (k+1) f fd ps sp:=by
 obtain⟨oc,od,kV,doc,pm,an,aR,ct,kC,rfl,lk,fE⟩:=F.ex;refine I_ lk fE S len λA outer s H vs Q E hr eB=>?_;obtain⟨t,h,q⟩:=vm aR A outer s H vs Q E hr eB;exact⟨t,h.sY,q⟩
theorem cX.binds{x:Str}{st:Stmt}(F:cX K x qual st f fd)
  (h:∀(kV doc pm:Value) (an:Option Addr) (aR ct:Value) (us:List Value),us.length=ps.length->bindArgs (PySem.W.fnOf x qual (jd st) (gQ st) (aZ st) .none kV doc pm an aR ct) ⟨us,[]⟩=pure (ps.zip us)):Binds K fd ps []:=by
 obtain⟨oc,od,kV,doc,pm,an,aR,ct,kC,rfl,lk,fE⟩:=F.ex;exact .all (h kV doc pm an aR ct)
theorem fun_mk{x:Str}{st:Stmt}{oc:Value}{an:Option Addr}{kC:Array (Option Value)}{kV doc aR ct:Value}(l:K.lookup f=some ⟨oc,od,.func (PySem.W.fnOf x qual (jd st) (gQ st) (aZ st) .none kV doc pm an aR ct),kC⟩)
  (c:PySem.W.codeIn K aR qual=true) (k:PySem.W.keepIn K (.ref f)=true):cX K x qual st f (PySem.W.fnOf x qual (jd st) (gQ st) (aZ st) .none kV doc pm an aR ct):=⟨⟨oc,od,kV,doc,pm,an,aR,ct,kC,rfl,l,c⟩,k⟩
end
theorem qW{k:Nat}(hr:d9 k A):A.units+1<cLine:=qE (sN (by decide:1<=64) _) hr.units
theorem gi(h:n<=1000):n<sizeLine:=qE h ⋯
section
theorem pv(i:Nat){x:Str}(hN:X.N[i]? = some x:=by rfl)(hv:Df X.env.scope x:=by first | exact Or.inl rfl | exact Or.inr OL_ | exact Or.inr (Or.inr rfl))(hd:(x == ("__debug__" : Str))=false:=by decide)
  (fE:(x == ("__classdict__" : Str))=false:=by decide):PE X (.Name x pos) (Di i):=UH hN hv hd fE
end
theorem cK{c A B:Prop}[Decidable c](h1:c->A)(h2:¬ c->B):if c then A else B:=by
 by_cases h:c
 ·rw[if_pos h];exact h1 h
 ·rw[if_neg h];exact h2 h
def aj(H H':Hp):Prop:=∀b o,H b=some o->H' b=some o
theorem aj.refl(H:Hp):aj H H:=λ_ _ h=>h
theorem aj.trans(a:aj H H1)(b:aj H1 H2):aj H H2:=λc o h=>b c o (a c o h)
theorem aj.free(e:aj H H')(h:H' l=Option.none):H l=Option.none:=by
 cases q:H l with
 | none=>rfl
 | some o =>
  rw[e l o q] at h;cases h
theorem aj.seq{xs:_V}(e:aj H H')(h:aA K H a xs):aA K H' a xs:=by
 rcases h with(h | ⟨o,h⟩) | h
 ·exact .inl (.inl (e _ _ h))
 ·exact .inl (.inr ⟨o,e _ _ h⟩)
 ·exact .inr h
section
variable{κ:Type}[DecidableEq κ]
end
end _L
namespace _L
open PySem PySem.Spec PyProof.Rows
section
theorem ad5{target:Expr}{it acc:Value}(I:Nat->Shared->Prop)
  (turn:∀n s,I n s->wpAny (model prog w) A (pyNext it) (λr bC=>match r with
   | none=>R (.ok .next) bC
   | some v=>wpAny (model prog w) A (letOwnedTupleGo target it v) (λ_ VE=>wpAny (model prog w) A (assign target env v) (λ_ jM =>
     wpAny (model prog w) A (forIn ifs true λc r=>if r=true then do let ok ← isTrue c env (eval c env);pure (ForInStep.yield ok) else pure (ForInStep.yield r)) (λok mT =>
      if ok=true then wpAny (model prog w) A (eval elt env) (λx DQ =>
       wpAny (model prog w) A (call (.builtin "list.append") [acc,x]) (λ_ VF=>∃m,m<n/\I m VF) (λ_ _=>False) DQ) (λ_ _=>False) mT
      else ∃m,m<n/\I m mT) (λ_ _=>False) jM) (λ_ _=>False) VE) (λ_ _=>False) bC) (λ_ _=>False) s)
  (n:Nat) (h:I n s):codeAny (model prog w) A (.compLoop (.ListComp elt [⟨target,iter,ifs,0⟩] scope pos) 0 it acc env) R s:=by
 refine codeAny_loop rfl I (λn s hI=>?_) n h
 show wpAny _ A ((compTurn (.ListComp elt [⟨target,iter,ifs,0⟩] scope pos) 0 it acc env).onRaise (λx=>do noteFrame x env;theTreesLotGoes x)) _ _ s
 refine wpAny_noted ?_;rw[compTurn_list];refine aH (wpAny_standAt (aH (jq (turn n s hI) (λr bC p8=>?_) λ_ _ h'=>h'.elim)));cases r with
 | none=>exact aP p8
 | some v =>
  refine aH (jq p8 (λ_ VE ad6=>?_) λ_ _ h'=>h'.elim);refine aH (jq ad6 (λ_ jM Aq=>aH (jq Aq (λok mT DN=>?_) λ_ _ h'=>h'.elim)) λ_ _ h'=>h'.elim);cases ok with
  | false=>exact aP ⟨rfl,DN⟩
  | true =>
   exact aH (aH (jq DN (λx DQ ad7=>aH (jq ad7 (λ_ VF ad8=>aP (aP ⟨rfl,ad8⟩)) λ_ _ h'=>h'.elim)) λ_ _ h'=>h'.elim))
end
theorem DR{env:Env}:∀ {names:List (Str×NameKind)} {x:Str} {k:NameKind},
  (names.map λ(n,k)=>if (k == NameKind.free && env.scope.kind == .function && env.kindOf n == some .cell) then(n,NameKind.cell) else(n,k)).lookup x=some k->
  ∃k0,names.lookup x=some k0/\(k=k0\/(k0 = .free/\k = .cell))
 | [],_,_,h=>by simp at h
 | (n,k0)::r,x,k,h=>by
  have ih:=@DR env r x k;have h:List.lookup x ((if (k0 == NameKind.free && env.scope.kind == .function && env.kindOf n == some .cell)=true then(n,NameKind.cell) else(n,k0))::_)=_:=h
  cases hx:x == n with
  | true =>
   by_cases hc:(k0 == NameKind.free && env.scope.kind == .function && env.kindOf n == some .cell)=true
   ·rw[if_pos hc] at h;simp only[List.lookup_cons,hx,Option.some.injEq] at h;simp only[Bool.and_eq_true,beq_iff_eq] at hc;exact⟨k0,by simp[List.lookup_cons,hx],.inr ⟨hc.1.1,h.symm⟩⟩
   ·rw[if_neg hc] at h;simp only[List.lookup_cons,hx,Option.some.injEq] at h;exact⟨k0,by simp[List.lookup_cons,hx],.inl h.symm⟩
  | false =>
   have h':List.lookup x (r.map λ(n,k)=>if (k == NameKind.free && env.scope.kind == .function && env.kindOf n == some .cell) then(n,NameKind.cell) else(n,k))=some k:=by
    by_cases hc:(k0 == NameKind.free && env.scope.kind == .function && env.kindOf n == some .cell)=true
    ·rw[if_pos hc] at h;simpa only[List.lookup_cons,hx] using h
    ·rw[if_neg hc] at h;simpa only[List.lookup_cons,hx] using h
   obtain⟨q,e,z⟩:=ih h';exact⟨q,by simp only[List.lookup_cons,hx];exact e,z⟩
theorem qX{x:Str}{v:α}:∀ {l:List (Str×α)},l.lookup x=some v->(x,v)∈l:=λh=>w4 h
section
variable{nt:Nat}
noncomputable def l6(σ:St)(nt:Nat)(fv:List Nat):St:=List.replicate nt none++fv.map λj=>(σ[j]?).getD none
end
def xP(X:Cx)(ifs:List Expr)(t:TT):Prop :=
 ∀(pins:List (Addr×Obj)) (s:Shared) (σ:St) (H:Hp) (Q:Bool->Hp->Prop),Inv X pins σ H s->t σ H Q->
  wpAny (model X.prog X.w) X.A (forIn ifs true λc r=>if r=true then do let ok ← isTrue c X.env (eval c X.env);pure (ForInStep.yield ok) else pure (ForInStep.yield r)) (TP X pins σ Q) X.xe s
def DS:TT:=λ_ H Q=>Q true H
theorem jR:xP X [] DS:=λpins s σ H Q I h=>wpAny_tests_nil ⟨H,I,h⟩
theorem jS{c:Expr}{t:TT}(hc:PT X c t):xP X [c] t:=λpins s σ H Q I h=>wpAny_tests_one (hc pins s σ H Q I h)
def p9(wi:TI)(g:TG)(tt:TT)(te:TE)(nt:Nat)(fv:List Nat):TE:=λσ H Q=>wi σ H λJ H1=>∀D,H1 D=none->∃W:Nat->Nat->_V->St->Hp->Prop,
 (∃m,W 0 m [] (l6 σ nt fv) (upd H1 D (.lst [])))/\∀i m ys aB H2,W i m ys aB H2->H2 D=some (.lst ys)/\ys.length<sizeLine/\
  ((J.stop i H2/\Q (.ref D) H2)\/(J.go i H2/\∀x H3,J.qK i H2 x H3->g x aB H3 λcT H4=>tt cT H4 λb H5=>if b=true then te cT H5 λv H6=>H6 D=some (.lst ys)/\∃m',m' < m/\W (i+1) m' (ys++[v]) cT (upd H6 D (.lst (ys++[v])))
   else ∃m',m' < m/\W (i+1) m' ys cT H5))
section
variable{nt:Nat}{wi:TI}{g:TG}
end
noncomputable def Ax(K:W.Frag)(a:Addr):It :=
 ⟨λi H=>∃xs x,aA K H a xs/\xs[i]? = some x,λi H v H'=>∃T x,H T=none/\v = .ref T/\(∀xs,aA K H a xs->xs[i]? = some x)/\H' = upd H T (.tup [.int i,x]),λi H=>∃xs,aA K H a xs/\xs.length<=i⟩
theorem ad9{elts:List Expr}{x1}{tp:Pos}(a e it:Addr)(JM:e≠it) :
  Turn P w K (.Tuple elts x1 tp) (Ax K a) [e,it] e (λi h=>(∃old,IsEnum h e it (i:Nat) old)/\h.IsListIter it a i) where
 mem:=by simp
 obj:=λi h st b hb=>by
  obtain⟨⟨old,he⟩,o,e1,c,d⟩:=st;rcases cV.mp hb with z | hb
  ·rw[z];exact⟨_,he,λv z=>by
    have z':Data.fields _=Data.cell v:=z;cases z'⟩
  ·have e2:b=it:=by simpa using hb
   rw[e2];exact⟨o,e1,λv z=>by rw[d] at z;cases z⟩
 keep:=λi h h' st k=>by
  obtain⟨⟨old,he⟩,hi⟩:=st;exact⟨⟨old,k e (by simp) _ he⟩,hi.at λo q=>k it (by simp) o q⟩
 item:=by
  intro X hP hw hK hc i pins s σ H E I hf st hg;subst hP hw hK;obtain⟨xs,x,hq,hx⟩:=hg;obtain⟨aC,rv,p,hz⟩:=I.list hq;obtain⟨u,hu,ru⟩:=rv.get hx;obtain⟨⟨old,he⟩,hit⟩:=st;obtain⟨f0,f1,f2,f3,f4,f5⟩:=hf e (by simp)
  obtain⟨g0,g1,g2,g3,g4,g5⟩:=hf it (by simp)
  have VG:e<s.heap.objs.size:=cR he;have ad_:it<s.heap.objs.size:=by obtain⟨_,z,_⟩:=hit;exact cR z
  refine wpAny_pyNext_enum_item he hit p.isList (x:=u) ↑hu JM λh' ho vA hT hsz hk=>?_
  refine⟨_,rfl,?_⟩;refine wpAny_letOwnedTupleGo_enum ho λxQ vB ju=>?_
  replace ju:Heap.SameBut e h' xQ:=ju
  -- two records have turned,a tuple is new
  have I1:Inv X pins σ H { s with heap:=(s.heap),toks:=s.toks+1 }:=I.tok _;have kk:∀b o,b∉[e,it]->s.heap.get? b=some o->xQ.get? b=some o:=λb o hb q=>by
   have h1:b≠e:=λz=>hb (by simp[z])
   have h2:b≠it:=λz=>hb (by simp[z])
   exact ju.extBut b o h1 (hk b o h1 h2 q)
  have zS:∀b v,H b=some v->b∉[e,it]:=λb v q hb=>by
   rcases cV.mp hb with z | hb
   ·rw[z,f0] at q;cases q
   ·have e2:b=it:=by simpa using hb
    rw[e2,g0] at q;cases q
  have VH:H s.heap.objs.size=none:=I.aO.fresh (bx _);have Ay:∀b v,H b=some v->b≠s.heap.objs.size:=λb v q z=>by rw[z,VH] at q;cases q
  have aea:xQ.get? s.heap.objs.size=some { cls:=.type "tuple",data:=.seq #[.int (i:Nat) s.toks,u] }:=ju.extBut _ _ (pK VG) hT;have aqk:∃o,xQ.get? e=some o:=⟨_,vB⟩;have aql:∃o,xQ.get? it=some o:=by
   obtain⟨o,q,_⟩:=vA;exact⟨o,ju.extBut _ _ (fW JM) q⟩
  have I2:Inv X pins σ (upd H s.heap.objs.size (.tup [.int i,x])) { s with heap:=xQ,toks:=s.toks+1 }:=by
   refine I.step (g':=s.gens) (d':=s.drawn) (ch:=[e,it]) (λb hb=>?_) (λb o _ _ hc q _=>kk b o hc q) (λb o _ _ hc q _=>⟨o.slots,kk b o hc q⟩) (λb o _ q n=>?_) (λb o hc q=>⟨o,kk b o hc q⟩)
    (λb ys q=>by rw[aJ (Ay b _ q)];exact q) (λb o v q=>by rw[aJ (Ay b _ q)];exact q) (λb ps q=>⟨#[],by rw[aJ (Ay b _ q),q];simp⟩) (λm hm=>?_) (λb v q=>?_) I.bare
   ·rcases cV.mp hb with z | hb
    ·rw[z];exact⟨f3,f1,f4,f5⟩
    ·have e2:b=it:=by simpa using hb
     rw[e2];exact⟨g3,g1,g4,g5⟩
   ·rw[aJ (dj (cR q))];exact n
   ·obtain⟨o,es,ep,q,r⟩:=hm;exact⟨o,es,ep,kk _ o (by
     intro hb;rcases cV.mp hb with z | hb
     ·exact f1 z.symm
     ·exact g1 (by simpa using hb:X.env.locals=it).symm) q,r⟩
   ·by_cases hb:b=s.heap.objs.size
    ·subst hb;rw[aE] at q;cases q;refine⟨by show 2<=sizeLine;decide,[.int (i:Nat) s.toks,u],.cons ⟨_,rfl⟩ (.cons ru .nil),_,aea,rfl,_,rfl⟩
    ·rw[aJ hb] at q;refine(I.aO b v q).pQ (λc o Dh z=>kk c o ?_ z) (λc z=>by rw[aJ (Ay c _ z)];exact z) (λc ys z=>by rw[aJ (Ay c _ z)];exact z)
     rcases Dh with z2 | z2
     ·rw[z2];exact zS b v q
     ·exact zS c _ z2
  refine⟨.ref s.heap.objs.size,_,I2,rfl,⟨_,x,VH,rfl,λys hy=>by rw[I.UJ hy hq];exact hx,rfl⟩,⟨⟨u,?_⟩,?_⟩,λb hb=>?_⟩
  ·have z:((i+1:Nat):Int)=(i:Int)+1:=by lia
   rw[z];exact vB
  ·exact vA.at λo q=>ju.extBut _ _ (fW JM) q
  ·have cg:b<s.heap.objs.size:=by
    rcases cV.mp hb with z | hb
    ·rw[z];exact VG
    ·rw[show b=it by simpa using hb];exact ad_
   rw[aJ (dj cg)];exact(hf b hb).1
 done:=by
  intro X hP hw hK hc i pins s σ H E I hf st hg;subst hP hw hK;obtain⟨xs,hq,hx⟩:=hg;obtain⟨aC,rv,p,hz⟩:=I.list hq;obtain⟨⟨old,he⟩,hit⟩:=st;obtain⟨g0,g1,g2,g3,g4,g5⟩:=hf it (by simp)
  have hl:=rv.length;exact wpAny_pyNext_enum_end (I.ok.hd hc) he hit p.isList (by simp;lia) λh' eb=>⟨rfl,I.turned (t':=s.toks) (λb o hb e=>eb b o hb e) g0 g1 g3 g4 g5⟩
 self:=λ_ _ _ _ _ st h=>by
  obtain⟨⟨old,he⟩,_⟩:=st;exact wpAny_pyIter_enum he h
section
def DT(K:W.Frag)(ta:TA):TI:=λσ H R=>ta σ H λvs H1=>∃a,vs = [.ref a]/\(∃xs,aA K H1 a xs)/\R (Ax K a) H1
theorem JN{l:Expr}{ta:TA}{p tp:Pos}{elts:List Expr}{x1}(hg:Gl X "enumerate")(hm:X.mg "enumerate" = none)(hl:PA X [l] ta)(hs:starEach [l] X.env = [(false,eval l X.env)]:=by rfl) :
  PI X (.Tuple elts x1 tp) (.Call (.Name "enumerate" p) [l] [] pos) (DT X.K ta):=by
 intro pins s σ H R I h;refine Call_ (pT I hg hm boot_enumerate (wZ (aW (hl pos pins s σ H _ I h) λus s1 bO=>?_) hs rfl));obtain⟨vs,H1,I1,r1,q1⟩:=bO;obtain⟨a,e,⟨xs,hq⟩,q⟩:=q1;subst e;obtain⟨u,rfl,ru⟩:=vals1 r1;cases ru;obtain⟨aC,rv,p,hz⟩:=I1.list hq;refine call_enumerate_list p.isList λh' he hit hsz hk=>?_;have I2:Inv X pins σ H1 { s1 with heap:=h' }:=I1.kept (t':=s1.toks) hk;refine wpAny_pyIter_enum he ?_;have n1:H1 (s1.heap.objs.size+1)=none:=I1.aO.fresh (uL _);have n0:H1 s1.heap.objs.size=none:=I1.aO.fresh (bx _);refine⟨s1.heap.objs.size+1,[s1.heap.objs.size+1,s1.heap.objs.size],_,_,H1,rfl,I2,ad9 a _ _ (Nat.succ_ne_self _),⟨⟨_,he⟩,hit⟩,λb hb=>?_,q⟩;rcases cV.mp hb with z | hb
 ·rw[z];exact I1.uZ (uL _) n1
 ·rw[show b=s1.heap.objs.size by simpa using hb];exact I1.uZ (bx _) n0
theorem aeb{xs:_V}{g:TG}{tb:TS}{D:Ends}(Pv:Nat->St->Hp->Prop)(h0:Pv 0 σ H)(hl:∀i σ H,i<=xs.length->Pv i σ H->aA K H a xs)
  (hs:∀i x σ H T,xs[i]? = some x->Pv i σ H->H T=none->g (.ref T) σ (upd H T (.tup [.int i,x])) λaB H2=>tb { D with nx:=Pv (i+1),ct:=Pv (i+1),bk:=D.nx } aB H2) (hd:∀σ H,Pv xs.length σ H->D.nx σ H) :
  ∃W:Nat->Nat->St->Hp->Prop,(∃m,W 0 m σ H)/\∀i m σ H,W i m σ H->
   ((Ax K a).stop i H/\D.nx σ H)\/((Ax K a).go i H/\∃N:St->Hp->Prop,(∀bV H',N bV H'->∃m',m' < m/\W (i+1) m' bV H')/\∀x H',(Ax K a).qK i H x H'->g x σ H' λaB H2=>tb { D with nx:=N,ct:=N,bk:=D.nx } aB H2):=by
 refine⟨λi m σ H=>m=xs.length - i/\i<=xs.length/\Pv i σ H,⟨xs.length,by simp,eW _,h0⟩,?_⟩
 rintro i m σ H ⟨rfl,hi,p⟩;have q:=hl i σ H hi p;by_cases cg:i<xs.length
 ·refine .inr ⟨⟨xs,xs[i],q,by simp[cg]⟩,Pv (i+1),λbV H' p'=>⟨xs.length - (i+1),∅,rfl,cg,p'⟩,λx H' y=>?_⟩
  obtain⟨T,z,hT,e,y,e2⟩:=y;subst e e2;exact hs i z σ H T (y xs q) p hT
 ·have e:i=xs.length:=by lia
  subst e;exact .inl ⟨⟨xs,q,bx _⟩,hd σ H p⟩
theorem aec(hc:X.calm=true):i9 X (.builtin "sum") (λxs H Q=>∃(p:Addr) (ns:_I),xs = [.ref p]/\aA X.K H p (ns.map V.int)/\Q (.int ns.sum) H):=by
 intro pins s σ H xs us Q I r h;obtain⟨p,ns,rfl,hq,q⟩:=h;obtain⟨u,rfl,ru⟩:=vals1 r;cases ru;obtain⟨aC,rv,pl,hz⟩:=I.list hq;have hi:IntsAre aC ns:=intsAre_of rv;obtain⟨xs,hx⟩:=hi.allInts.items;have tG:s.heap.IsList p (intItems xs):=hx▸pl.isList;refine sum_intListG (I.ok.hd hc) tG λh' tk t' hk=>?_;have e1:ns=xs.toList.map (·.1):=by
  rw[← nums_intItems,← hx];exact(show numsOf aC.toArray.toList=ns from hi.numsOf).symm
 have e2:preSum (numAt xs) xs.size=ns.sum:=by
  rw[preSum_eq,uK (by simp),e1]
 rw[e2];exact⟨.int ns.sum,H,I.kept hk,⟨t',rfl⟩,q⟩
theorem aed:i9 X (.builtin "sorted") (λxs H Q=>∃(p:Addr) (ns:_I),xs = [.ref p]/\aA X.K H p (ns.map V.int)/\ns.length<64/\
  ∀(l:Addr) (mV:_I),H l=none->mV.Perm ns->mV.Pairwise (·<=·)->Q (.ref l) (upd H l (.lst (mV.map V.int)))):=by
 intro pins s σ H xs us Q I r h;obtain⟨p,ns,rfl,hq,l8,q⟩:=h;obtain⟨u,rfl,ru⟩:=vals1 r;cases ru;obtain⟨aC,rv,pl,hz⟩:=I.list hq;have hi:IntsAre aC ns:=intsAre_of rv;have hlen:=hi.length;refine sorted_ints pl.isList hi ∅ λout mV a1 a2 a3=>?_
 obtain⟨e,he⟩:=sortedAll_at s.heap aC out;have hn:H (s.heap.objs.size+1)=none:=I.aO.fresh (uL _);refine⟨.ref (s.heap.objs.size+1),upd H (s.heap.objs.size+1) (.lst (mV.map V.int)),I.laid (t':=s.toks) (λb o q=>sortedAll_old q) (uL _) ?_,rfl,q _ mV hn a2 a3⟩;refine⟨?_,out.toList,e,Av a1,↑he⟩
 rw[aM,a2.length_eq];exact cH (kZ l8) ⋯
theorem VI(hc:X.calm=true):i9 X (.builtin "min") (λxs H Q=>∃(p:Addr) (ns:_I),xs = [.ref p]/\aA X.K H p (ns.map V.int)/\0<ns.length/\∀M,M∈ns->(∀a,a∈ns->M<=a)->Q (.int M) H):=by
 intro pins s σ H xs us Q I r h;obtain⟨p,ns,rfl,hq,h0,q⟩:=h;obtain⟨u,rfl,ru⟩:=vals1 r;cases ru;obtain⟨aC,rv,pl,hz⟩:=I.list hq;have hi:IntsAre aC ns:=intsAre_of rv;obtain⟨m,F⟩:=I.fr;refine min_list_N (I.ok.hd hc) F (H_ (h:=s.heap)) pl.isList hi h0 λh' M t tk F' N' h1 h2=>?_;have kk:∀b o,b≠X.env.locals->s.heap.get? b=some o->h'.get? b=some o:=λb o hb e=>by
  cases q:X.base.get? b with
  | some z =>
   have:=F.keep b z q;rw[e] at this;cases this;exact F'.keep b _ q
  | none=>exact(N' (b,o) (Uw hb q e)).1
 have nl:∀b v,H b=some v->b≠X.env.locals:=λb v e z=>by rw[z,I.free] at e;cases e
 have I':Inv X pins σ H { s with heap:=h',toks:=tk }:=by
  refine I.step (g':=s.gens) (d':=s.drawn) (ch:=[]) (λ_ z=>nomatch z) (λb o hb _ _ e _=>kk b o hb e) (λb o hb _ _ e _=>⟨o.slots,kk b o hb e⟩) (λ_ _ _ _ n=>n) (λb o _ e=>?_) (λ_ _ e=>e) (λ_ _ _ e=>e)
   (λb ps e=>⟨#[],by rw[e];simp⟩) (λm' hm=>?_) (λb v e=>(I.aO b v e).pQ (λc o hc e'=>kk c o ?_ e') (λ_ e=>e) (λ_ _ e=>e)) I.bare
  ·by_cases hb:b=X.env.locals
   ·obtain⟨o',_,_,z,_⟩:=F'.ns;exact⟨o',by rw[hb];exact z⟩
   ·exact⟨o,kk b o hb e⟩
  ·have:m' = m:=by
    obtain⟨o1,dQ,JO,g1,d1,k1,z1⟩:=hm;obtain⟨o2,p_,VJ,g2,d2,k2,z2⟩:=F.ns;rw[g1] at g2;cases g2;rw[d1] at d2;cases d2
    funext x
    rw[← z1 x,← z2 x]
   rw[this];exact F'.ns
  ·rcases hc with z | z
   ·rw[z];exact nl b v e
   ·exact nl c _ z
 exact⟨.int M,H,I',⟨t,rfl⟩,q M h1 h2⟩
theorem vC:i9 X (.builtin "isinstance") (λxs H Q=>∃x T t b,xs = [x,.ty T]/\lU X.K H x t/\PySem.W.kitOne X.K t (.type T)=some b/\Q (.bl b) H):=by
 intro pins s σ H xs us Q I r h;obtain⟨x,T,t,b,rfl,ty,e,q⟩:=h;obtain⟨u,v,rfl,ru,rv⟩:=vals2 r;cases (show v=Value.type T from rv);exact ade I ru ty e λtk=>⟨.bl b,H,I.tok _,rfl,q⟩
theorem aee{x:V}(ru:RelV x u)(rv:RelV x v)(hx:∀b,x≠.pO b)(hb:∀b,x≠.jr b):SeqAt.EqAt A s u v true:=by
 cases x with
 | aY=>cases ru;cases rv;exact zG _
 | bl b=>cases ru;cases rv;exact zG _
 | ref a=>cases ru;cases rv;exact zG _
 | ty n=>cases ru;cases rv;exact zG _
 | pO b=>exact absurd rfl (hx b)
 | int i =>
  have:=Jh (A:=A) (s:=s) ru rv rfl rfl;rwa [show lX (V.int i) (V.int i)=true by simp[lX]] at this
 | str z =>
  have:=Jh (A:=A) (s:=s) ru rv rfl rfl;rwa [show lX (V.str z) (V.str z)=true by simp[lX]] at this
 | jr z=>exact absurd rfl (hb z)
theorem aef(hu:X.A.units<cLine):cN X (compareOp .NotEq) (λx y H Q=>∃(a b:Addr) (xs:_V),x = .ref a/\y = .ref b/\aA X.K H a xs/\aA X.K H b xs/\(∀v∈xs,(∀b,v≠.pO b)/\∀b,v≠.jr b)/\Q (.bl false) H):=by
 rintro pins s σ H x y v u Q I rx ry ⟨a,b,xs,rfl,rfl,ha,hb,hv,q⟩;cases rx;cases ry;obtain⟨aC,r1,p1,z1⟩:=I.list ha;obtain⟨fK,r2,p2,z2⟩:=I.list hb;have l1:=r1.length;have l2:=r2.length;have e0:(!(List.range aC.toArray.size).all λ_=>true)=false:=by simp
 have fin:=SeqAt.RcNeAt.lists (A:=X.A) (s:=s) (e:=λ_=>true) p1.isList p2.isList (by simp;lia) hu (λj h1 h2=>?_) X.prog X.w X.xe (EP X pins σ Q) (by rw[e0];exact⟨.bl false,H,I,rfl,q⟩)
 ·exact fin
 ·have g1:aC[j]? = some aC.toArray[j]:=by
   rw[wR,aV ↑h1]
  have g2:fK[j]? = some fK.toArray[j]:=by
   rw[wR,aV ↑h2]
  have hj:j<xs.length:=by rw[l1];simpa using h1
  obtain⟨u1,q1,w1⟩:=r1.get (aV hj);obtain⟨u2,q2,w2⟩:=r2.get (aV hj);rw[g1] at q1;cases q1;rw[g2] at q2;cases q2;exact aee w1 w2 (hv _ (dU hj)).1 (hv _ (dU hj)).2
end
noncomputable def AllP{α:Type}(P:α->Prop):List α->Prop
 | []=>True
 | a::r=>P a/\AllP P r
theorem AllP.mem{α:Type}{P:α->Prop}:∀ {l:List α},AllP P l->∀a∈l,P a
 | _::_,h,a,hm=>by
  rcases cV.mp hm with rfl | hm
  ·exact h.1
  ·exact AllP.mem h.2 a hm
theorem aeg{cd:Value}{E:XK} :
  (qN CX P w K mg base N qual scope f cd A outer s H E).K=K:=rfl
theorem aeh:(X.oq E).K=X.K:=rfl
structure Zn(H:Hp)(a:Addr)(ts:_A)(z:_Z):Prop where
 l:H a=some (.lst (ts.map V.ref))
 n:ts.length=z.length
 t:∀(i:Nat) (t:Addr) (p:Int×Int),ts[i]? = some t->z[i]? = some p->H t=some (.tup [.int p.1,.int p.2])
theorem Zn.same(h:Zn H a ts z)(e:aj H H'):Zn H' a ts z:=⟨e _ _ h.l,h.n,λi t p h1 h2=>e _ _ (h.t i t p h1 h2)⟩
theorem Zn.at(h:Zn H a ts z){x:V}(e:(ts.map V.ref)[i]? = some x):∃t p,x = .ref t/\z[i]? = some p/\H t=some (.tup [.int p.1,.int p.2]):=by
 rw[jH] at e;cases q:ts[i]? with
 | none=>rw[q] at e;cases e
 | some t =>
  rw[q] at e;have hi:i<z.length:=by rw[← h.n];exact(iI.mp q).1
  exact⟨t,z[i],(eg e).symm,aV hi,h.t i t _ q (aV hi)⟩
noncomputable def fY(ns:_I)(k:Int):Int:=ns.getD k.toNat 0
def jv(K:W.Frag):Sp:=λvs H Q _=>∃(a:Addr) (ns:_I) (k:Int),vs = [.ref a,.int k]/\aA K H a (ns.map V.int)/\ns.length<=63/\0<=k/\Q (.int (fY ns k)) H
section
variable{ta:TA}{g:TG}{tb:TS}{D:Ends}
theorem aei(n:Nat)(gZ:∀Q:_V->Hp->Prop,Q [.int (n:Int)] H->ta σ H Q)(hn:n<1000000000)(Pv:Nat->St->Hp->Prop)(h0:Pv 0 σ H)
  (hs:∀i σ H,i<n->Pv i σ H->g (.int (i:Int)) σ H λaB H2=>tb { D with nx:=Pv (i+1),ct:=Pv (i+1),bk:=D.nx } aB H2) (hd:∀σ H,Pv n σ H->D.nx σ H):mK (zZ ta) g tb D σ H:=by
 refine gZ _ ⟨n,rfl,∅,∅,?_⟩
 have e:((n:Int)).toNat=n:=by lia
 rw[e];refine IE Pv h0 (λi σ H hi p=>?_) hd;have e2:(0:Int)+(i:Int)=i:=by lia
 rw[e2];exact hs i σ H hi p
theorem aej(lo hi:Int)(gZ:∀Q:_V->Hp->Prop,Q [.int lo,.int hi] H->ta σ H Q)(b1 : -1000000000000<lo)(b2:lo<1000000000000)(b3 : -1000000000000<hi)(b4:hi<1000000000000)(Pv:Nat->St->Hp->Prop)(h0:Pv 0 σ H)
  (hs:∀i σ H,i<(hi - lo).toNat->Pv i σ H->g (.int (lo+(i:Int))) σ H λaB H2=>tb { D with nx:=Pv (i+1),ct:=Pv (i+1),bk:=D.nx } aB H2) (hd:∀σ H,Pv (hi - lo).toNat σ H->D.nx σ H):mK (z7 ta) g tb D σ H :=
 gZ _ ⟨lo,hi,rfl,⟨∅,∅,∅,∅⟩,IE Pv h0 hs hd⟩
theorem aek(a:Addr)(xs:_V)(oG:∀Q:VK,Q (.ref a) H->tl σ H Q)(eY:aA K H a xs)(Pv:Nat->St->Hp->Prop)(h0:Pv 0 σ H)(hl:∀i σ H,i<=xs.length->Pv i σ H->aA K H a xs)
  (hs:∀i x σ H,xs[i]? = some x->Pv i σ H->g x σ H λaB H2=>tb { D with nx:=Pv (i+1),ct:=Pv (i+1),bk:=D.nx } aB H2) (hd:∀σ H,Pv xs.length σ H->D.nx σ H):mK (tu K tl) g tb D σ H :=
 oG _ ⟨a,rfl,⟨xs,eY⟩,UO Pv h0 hl hs hd⟩
theorem ael(a:Addr)(xs:_V)(gZ:∀Q:_V->Hp->Prop,Q [.ref a] H->ta σ H Q)(eY:aA K H a xs)(Pv:Nat->St->Hp->Prop)(h0:Pv 0 σ H)(hl:∀i σ H,i<=xs.length->Pv i σ H->aA K H a xs)
  (hs:∀i x σ H T,xs[i]? = some x->Pv i σ H->H T=none->g (.ref T) σ (upd H T (.tup [.int i,x])) λaB H2=>tb { D with nx:=Pv (i+1),ct:=Pv (i+1),bk:=D.nx } aB H2) (hd:∀σ H,Pv xs.length σ H->D.nx σ H):mK (DT K ta) g tb D σ H :=
 gZ _ ⟨a,rfl,⟨xs,eY⟩,aeb Pv h0 hl hs hd⟩
variable{nt:Nat}{Q:VK}
def NX(n i:Nat)(P:Prop):Prop:=∃m',m' < n - i/\m' = n - (i+1)/\i+1<=n/\P
theorem NX.of{P:Prop}(hi:i<n)(p:P):NX n i P:=⟨n - (i+1),∅,rfl,hi,p⟩
theorem aem(lo hi:Int)(gZ:∀Q:_V->Hp->Prop,Q [.int lo,.int hi] H->ta σ H Q)(b1 : -1000000000000<lo)(b2:lo<1000000000000)(b3 : -1000000000000<hi)(b4:hi<1000000000000)
  (Pv:Addr->Nat->_V->St->Hp->Prop) (h0:∀D,H D=none->Pv D 0 [] (l6 σ nt fv) (upd H D (.lst []))) (hD:∀D i ys σ H,Pv D i ys σ H->H D=some (.lst ys)/\ys.length<sizeLine)
  (hs:∀D i ys aB H2,i<(hi - lo).toNat->Pv D i ys aB H2->g (.int (lo+(i:Int))) aB H2 λcT H4=>tt cT H4 λb H5=>if b=true then te cT H5 λv H6=>H6 D=some (.lst ys)/\NX (hi - lo).toNat i (Pv D (i+1) (ys++[v]) cT (upd H6 D (.lst (ys++[v])))) else NX (hi - lo).toNat i (Pv D (i+1) ys cT H5))
  (hd:∀D ys aB H2,Pv D (hi - lo).toNat ys aB H2->Q (.ref D) H2):p9 (z7 ta) g tt te nt fv σ H Q:=by
 refine gZ _ ⟨lo,hi,rfl,⟨∅,∅,∅,∅⟩,λD qY=>?_⟩
 refine⟨λi m ys aB H2=>m=(hi - lo).toNat - i/\i<=(hi - lo).toNat/\Pv D i ys aB H2,⟨_,rfl,eW _,h0 D qY⟩,?_⟩;rintro i m ys aB H2 ⟨rfl,fS,p⟩;obtain⟨d1,d2⟩:=hD D i ys aB H2 p;refine⟨d1,d2,?_⟩;by_cases cg:i<(hi - lo).toNat
 ·refine .inr ⟨cg,λx H3 y=>?_⟩;obtain⟨e1,e2⟩:=y;subst e1 e2;exact hs D i ys aB _ cg p
 ·have e:i=(hi - lo).toNat:=by lia
  subst e;exact .inl ⟨bx _,hd D ys aB H2 p⟩
theorem aen(a:Addr)(xs:_V)(oG:∀Q:VK,Q (.ref a) H->tl σ H Q)(eY:aA K H a xs)
  (Pv:Addr->Nat->_V->St->Hp->Prop) (h0:∀D,H D=none->Pv D 0 [] (l6 σ nt fv) (upd H D (.lst []))) (hD:∀D i ys σ H,Pv D i ys σ H->H D=some (.lst ys)/\ys.length<sizeLine/\aA K H a xs)
  (hs:∀D i x ys aB H2,xs[i]? = some x->Pv D i ys aB H2->g x aB H2 λcT H4=>tt cT H4 λb H5=>if b=true then te cT H5 λv H6=>H6 D=some (.lst ys)/\NX xs.length i (Pv D (i+1) (ys++[v]) cT (upd H6 D (.lst (ys++[v])))) else NX xs.length i (Pv D (i+1) ys cT H5))
  (hd:∀D ys aB H2,Pv D xs.length ys aB H2->Q (.ref D) H2):p9 (tu K tl) g tt te nt fv σ H Q:=by
 refine oG _ ⟨a,rfl,⟨xs,eY⟩,λD qY=>?_⟩;refine⟨λi m ys aB H2=>m=xs.length - i/\i<=xs.length/\Pv D i ys aB H2,⟨_,rfl,eW _,h0 D qY⟩,?_⟩;rintro i m ys aB H2 ⟨rfl,fS,p⟩;obtain⟨d1,d2,d3⟩:=hD D i ys aB H2 p;refine⟨d1,d2,?_⟩;by_cases cg:i<xs.length
 ·refine .inr ⟨⟨xs,xs[i],d3,by simp[cg]⟩,λx H3 y=>?_⟩
  obtain⟨e1,e2⟩:=y;subst e1;exact hs D i x ys aB _ (e2 xs d3) p
 ·have e:i=xs.length:=by lia
  subst e;exact .inl ⟨⟨xs,d3,bx _⟩,hd D ys aB H2 p⟩
end
theorem g6{ns:_I}{k:Int}(h0:0<=k)(h:k<(ns.length:Int)):fL (ns.map V.int) k=some (.int (ns.getD k.toNat 0)):=by
 have hk:k.toNat<ns.length:=by lia
 unfold fL kD;rw[if_pos h0,if_pos ↑h]
 simp[List.getD_eq_getElem?_getD,List.getElem?_eq_getElem hk]
theorem JP{ns:_I}(h:0<ns.length):fL (ns.map V.int) (-1)=some (.int (ns.getD (ns.length - 1) 0)):=by
 have hk:ns.length - 1<ns.length:=by lia
 unfold fL kD;rw[if_neg ⋯,if_pos (by simp;lia)]
 have e:(-1+((ns.map V.int).length:Int)).toNat=ns.length - 1:=by simp;lia
 rw[e];simp[List.getD_eq_getElem?_getD,List.getElem?_eq_getElem hk]
theorem VL(a b:String):(Str.ofString a=Str.ofString b)=(a=b):=by
 refine propext ⟨λh=>?_,λh=>by rw[h]⟩
 rw[Str.ofString_eq_toList,Str.ofString_eq_toList] at h;have h:a.toList.map Char.toNat=b.toList.map Char.toNat:=by
  injection h with h;exact Array.toList_inj.mpr h |> λz=>by simpa using h
 have inj:∀(x y:List Char),x.map Char.toNat=y.map Char.toNat->x=y:=by
  intro x
  induction x with
  | nil=>intro y h;cases y with | nil=>rfl | cons c r=>simp at h
  | cons c r ih =>
   intro y h;cases y with
   | nil=>simp at h
   | cons d q =>
    simp only[List.map_cons,List.cons.injEq] at h;rw[ih q h.2,Char.toNat_inj.mp h.1]
 exact String.ext (inj _ _ h)
theorem tH(a b:String):(Str.ofString a == Str.ofString b)=(a == b):=by
 by_cases h:a=b
 ·subst h;simp
 ·have h2:¬ Str.ofString a=Str.ofString b:=by rw[VL];exact h
  rw[k_.mpr h,k_.mpr h2]
structure vD(z:_Z):Prop where
 l1:1<=z.length
 l5:z.length<=5
 r:∀p∈z,1<=p.1/\p.1<=40/\1<=p.2/\p.2<=60
 s2:2<=(z.map (·.1)).sum
 DU:(z.map (·.1)).sum<=120
noncomputable def counts(z:_Z):_I:=z.flatMap λp=>List.replicate p.1.toNat p.2
structure SwOk(sw:_I)(n:Int):Prop where
 len:(sw.length:Int)=n
 two:2<=n
 z:sw.getD 0 0=0
 pos:∀i:Nat,1<=i->i<sw.length->1<=sw.getD i 0/\sw.getD i 0<=1000000000
 up:∀i:Nat,1<=i->i<sw.length->sw.getD (i - 1) 0<=sw.getD i 0
 no:∀a b:Nat,1<=a->1<=b->a+b<sw.length->sw.getD (a+b) 0<=sw.getD a 0+sw.getD b 0
noncomputable def fZ(s:Int):Nat->_I->_Z
 | _,[]=>[]
 | r,c::cs=>(List.range (c - s).toNat).map (λ(k:Nat)=>((r:Int),(k:Int)))++fZ s (r+1) cs
noncomputable def gR(rc:_I)(s:Int):_Z:=fZ s 0 rc
noncomputable def kT(p:Int×Int):List Key:=[.inl p.1,.inl p.2]
noncomputable def jw:Nat->_Z->List (List Key×V)->List (List Key×V)
 | _,[],acc=>acc
 | i,p::r,acc=>jw (i+1) r (putK acc (kT p) (.int i))
noncomputable def qZ(z:_Z):List (List Key×V):=jw 0 z []
theorem VM(s:Int):∀(xs ys:_I) (r:Nat),fZ s r (xs++ys)=fZ s r xs++fZ s (r+xs.length) ys
 | [],ys,r=>by simp[fZ]
 | x::xs,ys,r=>by
  rw[sI,fZ,fZ,VM s xs ys (r+1),sH,fH];congr 3;lia
theorem VN:∀(xs ys:_Z) (i:Nat) (acc:List (List Key×V)),jw i (xs++ys) acc=jw (i+xs.length) ys (jw i xs acc)
 | [],ys,i,acc=>by simp[jw]
 | x::xs,ys,i,acc=>by
  rw[sI,jw,jw,VN xs ys (i+1),fH];congr 1;lia
theorem VO:∀(xs:_Z) (i:Nat) (acc:List (List Key×V)),(jw i xs acc).length<=acc.length+xs.length
 | [],i,acc=>by simp[jw]
 | x::xs,i,acc=>by
  rw[jw];have h1:=VO xs (i+1) (putK acc (kT x) (.int i));have h2:=Js acc (kT x) (.int i);rw[fH];lia
theorem VP(x y:_Z):counts (x++y)=counts x++counts y:=by simp[counts]
theorem tK:∀(z:_Z),(∀p∈z,1<=p.1)->((counts z).length:Int)=(z.map (·.1)).sum
 | [],_=>rfl
 | p::z,h=>by
  have ih:=tK z λp hp=>h p (cy _ hp);have h1:=h p cL;simp only[counts,List.flatMap_cons,List.length_append,List.length_replicate,List.map_cons,List.sum_cons] at ih ⊢;lia
theorem VQ(ok:vD z)(i:Nat):(counts (z.take i)).length<=120:=by
 have h0:=tK z λp hp=>(ok.r p hp).1;have e:z=z.take i++z.drop i:=(uJ i z).symm;have e2:(counts z).length=(counts (z.take i)).length+(counts (z.drop i)).length:=by
  rw[← e7,← VP,uJ]
 have:=ok.DU;lia
theorem q8{c:Int}(h:c∈counts z):∃p∈z,c=p.2:=by
 obtain⟨p,hp,hc⟩:=zu.mp h;exact⟨p,hp,(List.mem_replicate.mp hc).2⟩
theorem DV{s:Int}(hs:0<=s):∀(rc:_I) (r:Nat),(∀c∈rc,0<=c/\c<=1000)->(fZ s r rc).length<=1000*rc.length
 | [],_,_=>by simp[fZ]
 | c::rc,r,h=>by
  have ih:=DV hs rc (r+1) λc hc=>h c (cy _ hc);have h1:=h c cL;simp only[fZ,List.length_append,List.length_map,List.length_range,List.length_cons];lia
theorem aeo{s:Int}(hs:0<=s)(h:∀c∈rc,0<=c/\c<=1000)(i:Nat):(fZ s 0 (rc.take i)).length<=1000*rc.length:=by
 have h1:=DV hs (rc.take i) 0 λc hc=>h c (pJ hc);rw[dw] at h1;have h2:1000*min i rc.length<=1000*rc.length:=Nat.mul_le_mul_left _ (Nat.min_le_right _ _);exact cH h1 h2
theorem tL:sizeLine=16777216:=by decide
theorem VR(n:Nat)(c:Int):(List.replicate n [V.int c]).flatten=(List.replicate n c).map V.int:=by
 induction n with
 | zero=>rfl
 | succ n ih=>rw[qD,wO,ih,qD,dh];rfl
theorem VS{l:List α}{x:α}(h:l[i]? = some x):i<l.length:=(iI.mp h).1
theorem take_succ_get{l:List α}{x:α}(h:l[i]? = some x):l.take (i+1)=l.take i++[x]:=by
 rw[List.take_add_one,h];rfl
theorem xR(l:_I)(h:i<l.length):l[i]? = some (l.getD i 0):=by
 simp[List.getD_eq_getElem?_getD,List.getElem?_eq_getElem h]
theorem c9{f:α->β}{l:List α}{y:β}(h:(l.map f)[i]? = some y):∃x,l[i]? = some x/\y=f x:=by
 rw[jH] at h;cases e:l[i]? with
 | none=>rw[e] at h;cases h
 | some x=>rw[e] at h;exact⟨x,rfl,(eg h).symm⟩
theorem get_mem{l:List α}{x:α}(h:l[i]? = some x):x∈l:=gz h
theorem cJ{l:List α}{x:α}(h:l[i]? = some x):i<l.length:=(iI.mp h).1
theorem aj.put{o:HO}(h:H a=none):aj H (upd H a o):=λb u e=>by rw[aJ (bT e h)];exact e
theorem aj.put2{o:HO}(s:aj H H')(h:H a=none):aj H (upd H' a o):=λb u e=>by rw[aJ (bT e h)];exact s b u e
theorem aj.gS{xs:_V}(e:aj H H')(h:aK K H a xs):aK K H' a xs:=by
 rcases h with(h | ⟨o,h⟩) | h
 ·exact .inl (.inl (e _ _ h))
 ·exact .inl (.inr ⟨o,e _ _ h⟩)
 ·exact .inr h
theorem Zn.sq(h:Zn H a ts z):aA K H a (ts.map V.ref):=aA.of h.l
section
theorem aep(h:X.K=K):oE X (Ai K):=h▸qT
end
section
variable{ta:TA}{g:TG}{tb:TS}{D:Ends}
theorem rl(a:Addr)(xs:_V)(Pv:Nat->St->Hp->Prop)(oG:∀Q:VK,Q (.ref a) H->tl σ H Q)(eY:aA K H a xs)(h0:Pv 0 σ H)(hl:∀i σ H,i<=xs.length->Pv i σ H->aA K H a xs)
  (hs:∀i x σ H (N:St->Hp->Prop),(∀σ H,Pv (i+1) σ H->N σ H)->xs[i]? = some x->Pv i σ H->g x σ H λaB H2=>tb { D with nx:=N,ct:=N,bk:=D.nx } aB H2) (hd:∀σ H,Pv xs.length σ H->D.nx σ H):mK (tu K tl) g tb D σ H :=
 aek a xs oG eY Pv h0 hl (λi x σ H hx p=>hs i x σ H _ (λ_ _ z=>z) hx p) hd
theorem DW(n:Nat)(Pv:Nat->St->Hp->Prop)(gZ:∀Q:_V->Hp->Prop,Q [.int (n:Int)] H->ta σ H Q)(hn:n<1000000000)(h0:Pv 0 σ H)
  (hs:∀i σ H (N:St->Hp->Prop),(∀σ H,Pv (i+1) σ H->N σ H)->i<n->Pv i σ H->g (.int (i:Int)) σ H λaB H2=>tb { D with nx:=N,ct:=N,bk:=D.nx } aB H2) (hd:∀σ H,Pv n σ H->D.nx σ H):mK (zZ ta) g tb D σ H :=
 aei n gZ hn Pv h0 (λi σ H hx p=>hs i σ H _ (λ_ _ z=>z) hx p) hd
theorem xS(lo hi:Int)(Pv:Nat->St->Hp->Prop)(gZ:∀Q:_V->Hp->Prop,Q [.int lo,.int hi] H->ta σ H Q)(b1 : -1000000000000<lo)(b2:lo<1000000000000)(b3 : -1000000000000<hi)(b4:hi<1000000000000)(h0:Pv 0 σ H)
  (hs:∀i σ H (N:St->Hp->Prop),(∀σ H,Pv (i+1) σ H->N σ H)->i<(hi - lo).toNat->Pv i σ H->g (.int (lo+(i:Int))) σ H λaB H2=>tb { D with nx:=N,ct:=N,bk:=D.nx } aB H2) (hd:∀σ H,Pv (hi - lo).toNat σ H->D.nx σ H):mK (z7 ta) g tb D σ H :=
 aej lo hi gZ b1 b2 b3 b4 Pv h0 (λi σ H hx p=>hs i σ H _ (λ_ _ z=>z) hx p) hd
theorem DX(n:Int)(Pv:Nat->St->Hp->Prop)(gZ:∀Q:_V->Hp->Prop,Q [.int n] H->ta σ H Q)(h0' : -1000000000000<n)(hn:n<1000000000000)(h0:Pv 0 σ H)
  (hs:∀i σ H (N:St->Hp->Prop),(∀σ H,Pv (i+1) σ H->N σ H)->i<n.toNat->Pv i σ H->g (.int (i:Int)) σ H λaB H2=>tb { D with nx:=N,ct:=N,bk:=D.nx } aB H2) (hd:∀σ H,Pv n.toNat σ H->D.nx σ H):mK (zZ ta) g tb D σ H:=by
 refine gZ _ ⟨n,rfl,∅,∅,?_⟩
 refine IE Pv h0 (λi σ H hi p=>?_) hd;have e2:(0:Int)+(i:Int)=i:=by lia
 rw[e2];exact hs i σ H _ (λ_ _ z=>z) hi p
theorem re(a:Addr)(xs:_V)(Pv:Nat->St->Hp->Prop)(gZ:∀Q:_V->Hp->Prop,Q [.ref a] H->ta σ H Q)(eY:aA K H a xs)(h0:Pv 0 σ H)(hl:∀i σ H,i<=xs.length->Pv i σ H->aA K H a xs)
  (hs:∀i x σ H T (N:St->Hp->Prop),(∀σ H,Pv (i+1) σ H->N σ H)->xs[i]? = some x->Pv i σ H->H T=none->g (.ref T) σ (upd H T (.tup [.int i,x])) λaB H2=>tb { D with nx:=N,ct:=N,bk:=D.nx } aB H2) (hd:∀σ H,Pv xs.length σ H->D.nx σ H):mK (DT K ta) g tb D σ H :=
 ael a xs gZ eY Pv h0 hl (λi x σ H T hx p hT=>hs i x σ H T _ (λ_ _ z=>z) hx p hT) hd
def oH(K:W.Frag)(a:Addr)(g:TG)(tb:TS)(D:Ends)(σ:St)(H:Hp):Prop:=(∃xs,aA K H a xs)/\∃W:Nat->Nat->St->Hp->Prop,(∃m,W 0 m σ H)/\∀i m σ H,W i m σ H->
 ((s_ K a).stop i H/\D.nx σ H)\/((s_ K a).go i H/\∃N:St->Hp->Prop,(∀bV H',N bV H'->∃m',m' < m/\W (i+1) m' bV H')/\∀x H',(s_ K a).qK i H x H'->g x σ H' λaB H2=>tb { D with nx:=N,ct:=N,bk:=D.nx } aB H2)
theorem tM(h:tl σ H λx H1=>∃a,x = .ref a/\oH K a g tb D σ H1):mK (tu K tl) g tb D σ H:=h
theorem oH.by(a:Addr)(xs:_V)(Pv:Nat->St->Hp->Prop)(eY:aA K H a xs)(h0:Pv 0 σ H)(hl:∀i σ H,i<=xs.length->Pv i σ H->aA K H a xs)
  (hs:∀i x σ H (N:St->Hp->Prop),(∀σ H,Pv (i+1) σ H->N σ H)->xs[i]? = some x->Pv i σ H->g x σ H λaB H2=>tb { D with nx:=N,ct:=N,bk:=D.nx } aB H2) (hd:∀σ H,Pv xs.length σ H->D.nx σ H):oH K a g tb D σ H :=
 ⟨⟨xs,eY⟩,UO Pv h0 hl (λi x σ H hx p=>hs i x σ H _ (λ_ _ z=>z) hx p) hd⟩
variable{nt:Nat}{Q:VK}
theorem VT(lo hi:Int)(Pv:Addr->Nat->_V->St->Hp->Prop)(gZ:∀Q:_V->Hp->Prop,Q [.int lo,.int hi] H->ta σ H Q)(b1 : -1000000000000<lo)(b2:lo<1000000000000)(b3 : -1000000000000<hi)(b4:hi<1000000000000)
  (h0:∀D,H D=none->Pv D 0 [] (l6 σ nt fv) (upd H D (.lst []))) (hD:∀D i ys σ H,Pv D i ys σ H->H D=some (.lst ys)/\ys.length<sizeLine)
  (hs:∀D i ys aB H2 (N:_V->St->Hp->Prop),(∀ys σ H,Pv D (i+1) ys σ H->N ys σ H)->i<(hi - lo).toNat->Pv D i ys aB H2->g (.int (lo+(i:Int))) aB H2 λcT H4=>tt cT H4 λb H5=>if b=true then te cT H5 λv H6=>H6 D=some (.lst ys)/\N (ys++[v]) cT (upd H6 D (.lst (ys++[v]))) else N ys cT H5)
  (hd:∀D ys aB H2,Pv D (hi - lo).toNat ys aB H2->Q (.ref D) H2):p9 (z7 ta) g tt te nt fv σ H Q :=
 aem lo hi gZ b1 b2 b3 b4 Pv h0 hD (λD i ys aB H2 hi p=>hs D i ys aB H2 _ (λ_ _ _ z=>NX.of hi z) hi p) hd
theorem iF(a:Addr)(xs:_V)(Pv:Addr->Nat->_V->St->Hp->Prop)(oG:∀Q:VK,Q (.ref a) H->tl σ H Q)(eY:aA K H a xs)
  (h0:∀D,H D=none->Pv D 0 [] (l6 σ nt fv) (upd H D (.lst []))) (hD:∀D i ys σ H,Pv D i ys σ H->H D=some (.lst ys)/\ys.length<sizeLine/\aA K H a xs)
  (hs:∀D i x ys aB H2 (N:_V->St->Hp->Prop),(∀ys σ H,Pv D (i+1) ys σ H->N ys σ H)->xs[i]? = some x->Pv D i ys aB H2->g x aB H2 λcT H4=>tt cT H4 λb H5=>if b=true then te cT H5 λv H6=>H6 D=some (.lst ys)/\N (ys++[v]) cT (upd H6 D (.lst (ys++[v]))) else N ys cT H5)
  (hd:∀D ys aB H2,Pv D xs.length ys aB H2->Q (.ref D) H2):p9 (tu K tl) g tt te nt fv σ H Q :=
 aen a xs oG eY Pv h0 hD (λD i x ys aB H2 hx p=>hs D i x ys aB H2 _ (λ_ _ _ z=>NX.of (iI.mp hx).1 z) hx p) hd
end
theorem qa{t:Addr}{x:V}{Q:St->Hp->Prop}(h:aK K H t [x,y])(hn:2=n)(q:Q ((σ.set i (some x)).set j (some y)) H):zW K n (zT (qJ i) (zT (qJ j) Dq)) (.ref t) σ H Q :=
 ⟨t,[x,y],rfl,h,hn,x,[y],rfl,y,[],rfl,rfl,q⟩
theorem lenZ(h:ts.length=z.length):(ts.map V.ref).length=z.length:=by simpa using h
theorem Zn.snoc(h:Zn H l ts z)(hp:H p=none)(a b:Int):Zn (upd (upd H p (.tup [.int a,.int b])) l (.lst (ts.map V.ref++[V.ref p]))) l (ts++[p]) (z++[(a,b)]):=by
 have Az:l≠p:=bT h.l hp;refine⟨by rw[aE,cj];rfl,by simp[h.n],λi t q e1 e2=>?_⟩
 have hn:=h.n;by_cases hi:i<ts.length
 ·rw[eU hi] at e1;rw[eU ∅] at e2
  have ht:=h.t i t q e1 e2;rw[aJ (iy ht h.l (by intro z;cases z)),aJ (bT ht hp)]
  exact ht
 ·rw[eV ∅] at e1
  rw[eV ∅] at e2
  have eE:i - ts.length=0:=by
   have:=VS e1;simp at this;lia
  rw[eE] at e1;rw[← hn,eE] at e2;simp at e1 e2;subst e1 e2;rw[aJ Az.symm,aE]
def aer(t:TS):TS:=λD σ H=>∃M:St->Hp->Prop,t { D with nx:=M } σ H/\∀gX H1,M gX H1->D.nx gX H1
theorem aes{st:Stmt}{t:TS}(h:PS X st t):PS X st (aer t):=by
 rintro pins s σ H D I ⟨M,hM,k⟩;refine aW (h pins s σ H _ I hM) λf s1 q=>?_;cases f with
 | next=>obtain⟨gX,H1,I1,q⟩:=q;exact⟨gX,H1,I1,k _ _ q⟩
 | brk=>exact q
 | cont=>exact q
 | ret u=>exact q
def aet(K:W.Frag):Sp:=λvs H Q _=>∃(a:Addr) (ts:_A) (z:_Z),vs = [.ref a]/\Zn H a ts z/\vD z/\∀H',aj H H'->Q .aY H'
def aeu(K:W.Frag):Sp:=λvs H Q _=>∃(a:Addr) (ts:_A) (z:_Z) (ak cO:Int),vs = [.ref a,.int ak,.int cO]/\Zn H a ts z/\vD z/\1<=ak/\ak<=1000000000/\0<=cO/\cO<ak/\
 (∀p∈z,ak % p.2=0)/\Q .aY H
def aev(K:W.Frag):Sp:=λvs H Q _=>∃(a:Addr) (sw:_I) (n:Int),vs = [.ref a,.int n]/\aA K H a (sw.map V.int)/\SwOk sw n/\n<=1000/\Q .aY H
def aew(K:W.Frag):Sp:=λvs H Q _=>∃(a:Addr) (sw:_I) (n:Int),vs = [.ref a]/\aA K H a (sw.map V.int)/\SwOk sw n/\n<=1000/\Q .aY H
def aex(K:W.Frag):Sp:=λvs H Q _=>∃(a:Addr) (ts:_A) (z:_Z),vs = [.ref a]/\Zn H a ts z/\vD z/\
 ∀l H',aj H H'->H l=none->H' l=some (.lst ((counts z).map V.int))->Q (.ref l) H'
def aey(K:W.Frag):Sp:=λvs H Q _=>∃(a:Addr) (rc:_I) (s:Int),vs = [.ref a,.int s]/\aA K H a (rc.map V.int)/\rc.length<=1000/\(∀c∈rc,0<=c/\c<=1000)/\0<=s/\s<=1000/\
 ∀l ts H',aj H H'->H l=none->(∀t∈ts,H t=none)->Zn H' l ts (gR rc s)->Q (.ref l) H'
def aez(K:W.Frag):Sp:=λvs H Q _=>∃(a:Addr) (ts:_A) (z:_Z),vs = [.ref a]/\Zn H a ts z/\z.length<=1000000/\
 ∀d H',aj H H'->H d=none->H' d=some (.dT (qZ z))->Q (.ref d) H'
structure Pl where
 rc:_I
 ak:Int
 cO:Int
 sw:_I
 nc:_Z
structure CP(K:W.Frag)(C:Addr):Prop where
 cl:dO K C
 n1:cD K C "ring_cells"
 n2:cD K C "lap"
 n3:cD K C "skew"
 n4:cD K C "swing"
 n5:cD K C "number_cells"
 n6:cD K C "cell_numbers"
noncomputable def vE(a1:Addr)(ak cO:Int)(a2 a3 a4:Addr):List (Str×V):=[("ring_cells",.ref a1),("lap",.int ak),("skew",.int cO),("swing",.ref a2),("number_cells",.ref a3),("cell_numbers",.ref a4)]
structure q9(K:W.Frag)(C:Addr)(H:Hp)(p:Addr)(P:Pl)(dx a1 a2 a3 a4:Addr)(ts:_A)(fs:List (Str×V)):Prop where
 cp:CP K C
 o:H p=some (.ins C dx fs)
 f1:fs.lookup ("ring_cells" : Str)=⇑a1
 f2:fs.lookup ("lap" : Str)=↥P.ak
 f3:fs.lookup ("skew" : Str)=↥P.cO
 f4:fs.lookup ("swing" : Str)=⇑a2
 f5:fs.lookup ("number_cells" : Str)=⇑a3
 f6:fs.lookup ("cell_numbers" : Str)=⇑a4
 m1:fs.lookup ("rings" : Str)=none
 m2:fs.lookup ("total" : Str)=none
 m3:fs.lookup ("cells_of" : Str)=none
 m4:fs.lookup ("beats_of" : Str)=none
 m5:fs.lookup ("lap_beats" : Str)=none
 m6:fs.lookup ("begins" : Str)=none
 m7:fs.lookup ("swing_of" : Str)=none
 m8:fs.lookup ("has_cell" : Str)=none
 m9:fs.lookup ("cell_at" : Str)=none
 g7:fs.lookup ("number_of" : Str)=none
 iO:fs.lookup ("laid" : Str)=none
 rc:H a1=some (.lst (P.rc.map V.int))
 sw:H a2=some (.lst (P.sw.map V.int))
 nc:Zn H a3 ts P.nc
 cn:H a4=some (.dT (qZ P.nc))
theorem q9.lit{P:Pl}{a1 a2 a3 a4:Addr}(cp:CP K C)(o:H p=some (.ins C dx (vE a1 P.ak P.cO a2 a3 a4)))(rc:H a1=some (.lst (P.rc.map V.int)))(sw:H a2=some (.lst (P.sw.map V.int)))
  (nc:Zn H a3 ts P.nc) (cn:H a4=some (.dT (qZ P.nc))):q9 K C H p P dx a1 a2 a3 a4 ts (vE a1 P.ak P.cO a2 a3 a4):=by
 refine⟨cp,o,?_,?_,?_,?_,?_,?_,?_,?_,?_,?_,?_,?_,?_,?_,?_,?_,?_,rc,sw,nc,cn⟩ <;> simp[vE,List.lookup_cons,tH]
def dR(K:W.Frag)(C:Addr)(H:Hp)(p:Addr)(P:Pl)(fp:_A):Prop:=∃dx a1 a2 a3 a4 ts fs,fp=a1::a2::a3::a4::ts/\q9 K C H p P dx a1 a2 a3 a4 ts fs
theorem Zn.keep(h:Zn H a ts z)(ha:H' a=H a)(ht:∀t∈ts,H' t=H t):Zn H' a ts z :=
 ⟨ha.trans h.l,h.n,λi t p e1 e2=>(ht t (gz e1)).trans (h.t i t p e1 e2)⟩
theorem Zn.has(h:Zn H a ts z){t:Addr}(ht:t∈ts):∃o,H t=some o:=by
 obtain⟨i,hi,rfl⟩:=iJ.mp ht;have hz:i<z.length:=by rw[← h.n];exact hi
 exact⟨_,h.t i _ _ (aV hi) (aV hz)⟩
section
variable{x:Addr}{P:Pl}
theorem q9.move{a1 a2 a3 a4:Addr}{fs:List (Str×V)}(h:q9 K C H p P dx a1 a2 a3 a4 ts fs)(ho:H' p=H p)(h1:H' a1=H a1)(h2:H' a2=H a2)(h3:H' a3=H a3)(h4:H' a4=H a4)(ht:∀t∈ts,H' t=H t):q9 K C H' p P dx a1 a2 a3 a4 ts fs :=
 { h with o:=ho.trans h.o,rc:=h1.trans h.rc,sw:=h2.trans h.sw,nc:=h.nc.keep h3 ht,cn:=h4.trans h.cn }
theorem dR.keep(h:dR K C H p P fp)(hp:H' p=H p)(e:∀b∈fp,H' b=H b):dR K C H' p P fp:=by
 obtain⟨dx,a1,a2,a3,a4,ts,fs,rfl,h⟩:=h;exact⟨dx,a1,a2,a3,a4,ts,fs,rfl,h.move hp (e a1 (by simp)) (e a2 (by simp)) (e a3 (by simp)) (e a4 (by simp)) λt ht=>e t (by simp[ht])⟩
theorem dR.has(h:dR K C H p P fp){b:Addr}(hb:b∈fp):∃o,H b=some o:=by
 obtain⟨jT,a1,a2,a3,a4,ts,fs,rfl,h⟩:=h;simp only[List.mem_cons] at hb;rcases hb with rfl | rfl | rfl | rfl | hb
 ·exact⟨_,h.rc⟩
 ·exact⟨_,h.sw⟩
 ·exact⟨_,h.nc.l⟩
 ·exact⟨_,h.cn⟩
 ·exact h.nc.has hb
theorem dR.here(h:dR K C H p P fp):∃o,H p=some o:=by
 obtain⟨jT,a1,a2,a3,a4,ts,fs,rfl,h⟩:=h;exact⟨_,h.o⟩
theorem dR.same(h:dR K C H p P fp)(s:aj H H'):dR K C H' p P fp:=by
 refine h.keep ?_ λb hb=>?_
 ·obtain⟨o,e⟩:=h.here;rw[e];exact s _ _ e
 ·obtain⟨o,e⟩:=h.has hb;rw[e];exact s _ _ e
def SameBut(x:Addr)(H H':Hp):Prop:=∀b o,H b=some o->b≠x->H' b=some o
theorem SameBut.put{o:HO}(s:SameBut x H H'):SameBut x H (upd H' x o):=λb u e h=>by rw[aJ h];exact s b u e h
theorem SameBut.step(s:SameBut x H H1)(t:aj H1 H2):SameBut x H H2:=λb u e h=>t _ _ (s b u e h)
theorem SameBut.of(s:aj H H'):SameBut x H H':=λb u e _=>s _ _ e
end
def aeA(K:W.Frag):Sp:=λvs H Q _=>∃(C p dx za sa:Addr) (bw:_A) (z:_Z) (ak cO:Int) (sw:_I),vs = [.ref p,.ref za,.int ak,.int cO,.ref sa]/\CP K C/\H p=some (.ins C dx [])/\Zn H za bw z/\vD z/\
 1<=ak/\ak<=1000000000/\0<=cO/\cO<ak/\(∀p∈z,ak % p.2=0)/\aA K H sa (sw.map V.int)/\SwOk sw (z.map (·.1)).sum/\
 ∀H' dx a1 a2 a3 a4 ts,SameBut p H H'->(∀b∈a1::a2::a3::a4::ts,H b=none)->H' p=some (.ins C dx (vE a1 ak cO a2 a3 a4))->q9 K C H' p ⟨counts z,ak,cO,sw,gR (counts z) 0⟩ dx a1 a2 a3 a4 ts (vE a1 ak cO a2 a3 a4)->Q .aY H'
def aeB(K:W.Frag):Sp:=λvs H Q _=>∃(C p:Addr) (P:Pl) (fp:_A) (i j:Int),vs = [.ref p,.int i,.int j]/\dR K C H p P fp/\(i - j).natAbs<P.sw.length/\Q (.int (P.sw.getD (i - j).natAbs 0)) H
def aeC(K:W.Frag):Sp:=λvs H Q _=>∃(C p:Addr) (P:Pl) (fp:_A),vs = [.ref p]/\dR K C H p P fp/\Q (.int P.rc.length) H
def aeD(K:W.Frag):Sp:=λvs H Q _=>∃(C p:Addr) (P:Pl) (fp:_A),vs = [.ref p]/\dR K C H p P fp/\Q (.int P.nc.length) H
def aeE(K:W.Frag):Sp:=λvs H Q _=>∃(C p:Addr) (P:Pl) (fp:_A),vs = [.ref p]/\dR K C H p P fp/\Q (.int P.ak) H
def aeF(K:W.Frag):Sp:=λvs H Q _=>∃(C p:Addr) (P:Pl) (fp:_A) (r:Int),vs = [.ref p,.int r]/\dR K C H p P fp/\0<=r/\r<P.rc.length/\0<P.rc.getD r.toNat 0/\P.rc.getD r.toNat 0<=1000/\Q (.int (P.ak / P.rc.getD r.toNat 0)) H
def aeG(K:W.Frag)(cs:_A):Sp:=λvs H Q _=>∃(C p:Addr) (P:Pl) (fp:_A) (r c:Int),vs = [.ref p,.int r,.int c]/\C∈cs/\dR K C H p P fp/\0<=r/\r<P.rc.length/\P.rc.length<=1000/\0<P.rc.getD r.toNat 0/\P.rc.getD r.toNat 0<=1000/\
 0<=c/\c<=1000/\0<P.ak/\Q (.int ((c*(P.ak / P.rc.getD r.toNat 0)+r*P.cO) % P.ak)) H
def aeH(K:W.Frag):Sp:=λvs H Q _=>∃(C p:Addr) (P:Pl) (fp:_A) (r c:Int),vs = [.ref p,.int r,.int c]/\dR K C H p P fp/\Q (.bl (decide (0<=r/\r<P.rc.length/\0<=c/\c<P.rc.getD r.toNat 0))) H
def aeI(K:W.Frag):Sp:=λvs H Q _=>∃(C p:Addr) (P:Pl) (fp:_A) (k:Int),vs = [.ref p,.int k]/\dR K C H p P fp/\0<=k/\k<P.nc.length/\∀t q,P.nc[k.toNat]? = some q->H t=some (.tup [.int q.1,.int q.2])->Q (.ref t) H
def aeJ(K:W.Frag)(cs:_A):Sp:=λvs H Q _=>∃(C p:Addr) (P:Pl) (fp:_A) (r c:Int),vs = [.ref p,.int r,.int c]/\C∈cs/\dR K C H p P fp/\0<=r/\r<P.rc.length/\0<=c/\c<P.rc.getD r.toNat 0/\
 ∀H',aj H H'->Q ((dP (qZ P.nc) (kT (r,c))).getD .aY) H'
noncomputable def fM(z:_Z):Int:=z.foldl (λp x=>p*x.2) 1
theorem range_getD{f:Nat->Int}(h:i<n):((List.range n).map f).getD i 0=f i:=by
 simp[List.getD_eq_getElem?_getD,h]
theorem aeK{L:Int}(h:1<=L)(h8:L<=100000000){ns:_I}(hb:∀x∈ns,L<=x/\x<=2*L)(hp:ns.Pairwise (·<=·))(h1:1<=ns.length):SwOk (0::ns) ((ns.length+1:Nat):Int):=by
 have at_:∀i:Nat,1<=i->i<(0::ns).length->∃hi:i - 1<ns.length,(0::ns).getD i 0=ns[i - 1]:=λi h1 hi=>by
  obtain⟨j,rfl⟩:∃j,i=j+1:=⟨i - 1,∅⟩
  have hj:j<ns.length:=by simpa using hi
  exact⟨hj,by simp[List.getD_eq_getElem?_getD,List.getElem?_eq_getElem hj]⟩
 refine⟨by simp,∅,rfl,λi h1 hi=>?_,λi h1 hi=>?_,λa b ha kH q_=>?_⟩
 ·obtain⟨hj,e⟩:=at_ i h1 hi;have:=hb _ (dU hj);rw[e];lia
 ·obtain⟨hj,e⟩:=at_ i h1 hi;rw[e];by_cases h2:i=1
  ·subst h2;have:=hb _ (dU hj)
   show (0:Int)<=_;lia
  ·obtain⟨JQ,e2⟩:=at_ (i - 1) ∅ ∅
   rw[e2];exact nT.mp hp _ _ JQ hj ∅
 ·obtain⟨h1,e1⟩:=at_ (a+b) ∅ q_
  obtain⟨h2,e2⟩:=at_ a ha ∅
  obtain⟨h3,e3⟩:=at_ b kH ∅
  have:=hb _ (dU h1);have:=hb _ (dU h2);have:=hb _ (dU h3);rw[e1,e2,e3];lia
structure ZL(z:_Z):Prop where
 ok:vD z
 pr:fM z<=32768
 sm:(z.map (·.1)).sum<=15
theorem prodF(z:_Z):∀p:Int,z.foldl (λp x=>p*x.2) p=p*fM z:=by
 induction z with
 | nil=>intro p;simp[fM]
 | cons x z ih =>
  intro p;rw[fM,pH,pH,ih,ih (1*x.2),Int.one_mul,Int.mul_assoc]
theorem VU(x:Int×Int)(z:_Z):fM (x::z)=x.2*fM z:=by
 rw[fM,pH,prodF,Int.one_mul]
theorem aeL(x:Int×Int)(z:_Z):fM (z++[x])=fM z*x.2:=by
 rw[fM,zj];rfl
theorem DY{m:Int}(hm:1<=m):∀z:_Z,(∀p∈z,1<=p.2/\p.2<=m)->1<=fM z/\fM z<=m ^ z.length
 | [],_=>by simp[fM]
 | x::z,h=>by
  have ih:=DY hm z λp hp=>h p (cy _ hp);have hx:=h x cL;rw[VU,fH,Int.pow_succ,Int.mul_comm (m ^ z.length)];constructor
  ·have:=qA hx.1 ih.1 ⋯ ∅
   lia
  ·exact qA hx.2 ih.2 ∅ ∅
theorem VV{x:Int×Int}:∀ {z:_Z},x∈z->x.2 ∣ fM z
 | y::z,h=>by
  rw[VU];rcases cV.mp h with rfl | h
  ·exact Int.dvd_mul_right _ _
  ·exact Int.dvd_trans (VV h) (Int.dvd_mul_left _ _)
theorem VW{m:Int}(hm:1<=m){a b:Nat}(h:a<=b):m ^ a<=m ^ b:=by
 induction h with
 | refl=>exact nQ _
 | @step b h ih =>
  rw[Int.pow_succ];have h1:1<=m ^ b:=by
   clear ih h
   induction b with
   | zero=>simp
   | succ b ih =>
    rw[Int.pow_succ];have:=qA ih hm ⋯ ∅
    lia
  have:=qA (nQ (m ^ b)) hm ⋯ ∅
  lia
theorem ite_no{c A B:Prop}[Decidable c](h:¬ c)(b:B):if c then A else B:=by rw[if_neg h];exact b
theorem ite_yes{c A B:Prop}[Decidable c](h:c)(a:A):if c then A else B:=by rw[if_pos h];exact a
theorem aeM(h:0<n):kD n (-1)=some (n - 1):=by
 unfold kD;rw[if_neg ⋯,if_pos ∅]
 congr 1;lia
structure VX(K:W.Frag)(C:Addr)(m:Str)(f:Addr):Prop where
 ga:PySem.W.specialIn K (.ref C) "__getattribute__" = some (some (.builtin "type.__getattribute__"))
 rd:PySem.W.readsIn K C (.type "type")=true
 at_:PySem.W.findCls K (.ref C) (.type "type") m=some (.val (.ref f))
 kp:PySem.W.keepIn K (.ref f)=true
section
variable{k:Nat}{E:XK}{x m:Str}{p:Pos}{es:List Expr}{t:TA}
theorem aeN{pl:Sem Bool}(hg:Gl X x)(hm:X.mg x=⇑C)(c:VX X.K C m f)(F:bq X.prog X.w X.K X.mg X.base CX k f fd ps sp)(hr:d9 k X.A)(hb:Binds X.K fd ps ds)(hd:Vals cW ds)(hx:Passes CX X E)(ha:PA X (e::es) t)
  (iC:starEach (e::es) X.env=(false,eval e X.env)::starEach es X.env:=by rfl) (jO:(backTo pos (starEach es X.env)).any (·.1)=false:=by rfl) (oz:(x == ("__debug__" : Str))=false:=by decide)
  (ht:eval (.Call (.Attribute (.Name x p) m apos) (e::es) [] pos) X.env=(do
   let ov ← eval (.Name x p) X.env
   standAt apos.atName
   let (f,first) ← holding [ov] (getMethod ov m pl)
   callWith pos f first (backTo pos (starEach (e::es) X.env)) (backToKw pos (keywordEach [] X.env))):=by rfl) :
  PE X (.Call (.Attribute (.Name x p) m apos) (e::es) [] pos) (DB sp cW E t):=by
 intro pins s σ H Q I h;refine C2 (pl:=pl) (Dj I hg hm ?_ oz) ht;refine PySem.W.method_cls I.fD c.ga (PySem.W.cls_value I.fD c.rd c.at_ rfl ?_);have I':=I.tok (s.toks+1);refine zF (first:=[]) (h₀:=X.base) I.ok.mod.uT c.kp (aW (ha pos pins _ σ H _ I' h) λus s2 ⟨vs,H2,I2,r,q2⟩=>⟨I2.fD,?_⟩) iC jO
 exact Ad (us:=us) (vs:=vs) F hr hb hd hx I2 r q2
end
section
variable{ta:TA}{g:TG}{D:Ends}{nt:Nat}{Q:VK}
theorem rcE(a:Addr)(xs:_V)(Pv:Addr->Nat->_V->St->Hp->Prop)(gZ:∀Q:_V->Hp->Prop,Q [.ref a] H->ta σ H Q)(eY:aA K H a xs)
  (h0:∀D,H D=none->Pv D 0 [] (l6 σ nt fv) (upd H D (.lst []))) (hD:∀D i ys σ H,Pv D i ys σ H->H D=some (.lst ys)/\ys.length<sizeLine/\aA K H a xs)
  (hs:∀D i x ys aB H2 T (N:_V->St->Hp->Prop),(∀ys σ H,Pv D (i+1) ys σ H->N ys σ H)->xs[i]? = some x->Pv D i ys aB H2->H2 T=none->g (.ref T) aB (upd H2 T (.tup [.int i,x])) λcT H4=>tt cT H4 λb H5=>if b=true then te cT H5 λv H6=>H6 D=some (.lst ys)/\N (ys++[v]) cT (upd H6 D (.lst (ys++[v]))) else N ys cT H5)
  (hd:∀D ys aB H2,Pv D xs.length ys aB H2->Q (.ref D) H2):p9 (DT K ta) g tt te nt fv σ H Q:=by
 refine gZ _ ⟨a,rfl,⟨xs,eY⟩,λD qY=>?_⟩;refine⟨λi m ys aB H2=>m=xs.length - i/\i<=xs.length/\Pv D i ys aB H2,⟨_,rfl,eW _,h0 D qY⟩,?_⟩;rintro i m ys aB H2 ⟨rfl,fS,p⟩;obtain⟨d1,d2,d3⟩:=hD D i ys aB H2 p;refine⟨d1,d2,?_⟩;by_cases cg:i<xs.length
 ·refine .inr ⟨⟨xs,xs[i],d3,by simp[cg]⟩,λx H3 y=>?_⟩
  obtain⟨T,z,hT,e1,e2,e3⟩:=y;subst e1 e3;exact hs D i z ys aB H2 T (λys σ H=>NX xs.length i (Pv D (i+1) ys σ H)) (λ_ _ _ q=>NX.of cg q) (e2 xs d3) p hT
 ·have e:i=xs.length:=by lia
  subst e;exact .inl ⟨⟨xs,d3,bx _⟩,hd D ys aB H2 p⟩
end
theorem aeO{es:List Expr}{k:Nat}{t:pU}(hK:X.K=K)(hc:X.calm=true)(h:xw X es t)(hn:(assignEach es X.env).length=n:=by rfl)(iC:(assignEach es X.env).findIdx? (·.1)=none:=by rfl):PG X (.Tuple es k pos) (zW K n t):=hK▸kr hc h hn iC
def DZ(cs:_A)(m:Str)(sp:Sp)(cW:_V)(E:XK)(ta:TE)(t:TA):TE:=λσ H Q=>ta σ H λx H1=>∃C a dx fs,x = .ref a/\H1 a=some (.ins C dx fs)/\C∈cs/\fs.lookup m=none/\t σ H1 λvs H2=>sp (x::(vs++cW)) H2 Q E
section
variable{k:Nat}{E:XK}{m:Str}{o:Expr}{es:List Expr}{ta:TE}{t:TA}
theorem qb{pl:Sem Bool}(ho:PE X o ta)(hc:∀C∈cs,dO X.K C/\Meth X.K C m f)(F:bq X.prog X.w X.K X.mg X.base CX k f fd ps sp)(hr:d9 k X.A)(hb:Binds X.K fd ps ds)(hd:Vals cW ds)(hx:Passes CX X E)(ha:PA X (e::es) t)
  (iC:starEach (e::es) X.env=(false,eval e X.env)::starEach es X.env:=by rfl) (jO:(backTo pos (starEach es X.env)).any (·.1)=false:=by rfl)
  (JR:eval (.Call (.Attribute o m apos) (e::es) [] pos) X.env=(do
   let ov ← eval o X.env
   standAt apos.atName
   let (f,first) ← holding [ov] (getMethod ov m pl)
   callWith pos f first (backTo pos (starEach (e::es) X.env)) (backToKw pos (keywordEach [] X.env))):=by rfl):PE X (.Call (.Attribute o m apos) (e::es) [] pos) (DZ cs m sp cW E ta t):=by
 intro pins s σ H Q I h;refine C2 (pl:=pl) (aW (ho pins s σ H _ I h) λu s1 hz=>?_) JR;obtain⟨x,H1,I1,rx,C,a,dx,fs,ex,ea,hC,hl,q⟩:=hz;subst ex;cases (show u=Value.ref a from rx);obtain⟨c1,c2⟩:=hc C hC;refine IU I1 ea c1 c2 hl (zF (first:=[.ref a]) (h₀:=X.base) I.ok.mod.uT c2.kp (aW (ha pos pins s1 σ H1 _ I1 q) λus s2 hw=>?_) iC jO)
 obtain⟨vs,H2,I2,r,q2⟩:=hw;exact⟨I2.fD,Ad (us:=.ref a::us) (vs:=.ref a::vs) F hr hb hd hx I2 (.cons rfl r) q2⟩
theorem AA{pl:Sem Bool}(ho:PE X o ta)(hc:∀C∈cs,dO X.K C/\Meth X.K C m f)(F:bq X.prog X.w X.K X.mg X.base CX k f fd ps sp)(hr:d9 k X.A)(hb:Binds X.K fd ps ds)(hd:Vals cW ds)(hx:Passes CX X E)
  (JR:eval (.Call (.Attribute o m apos) [] [] pos) X.env=(do
   let ov ← eval o X.env
   standAt apos.atName
   let (f,first) ← holding [ov] (getMethod ov m pl)
   callWith pos f first (backTo pos (starEach [] X.env)) (backToKw pos (keywordEach [] X.env))):=by rfl):PE X (.Call (.Attribute o m apos) [] [] pos) (DZ cs m sp cW E ta Ac):=by
 intro pins s σ H Q I h;refine C2 (pl:=pl) (aW (ho pins s σ H _ I h) λu s1 hz=>?_) JR;obtain⟨x,H1,I1,rx,C,a,dx,fs,ex,ea,hC,hl,q⟩:=hz;subst ex;cases (show u=Value.ref a from rx);obtain⟨c1,c2⟩:=hc C hC;refine IU I1 ea c1 c2 hl (PySem.W.callWith_K0 (first:=[.ref a]) I1.fD c2.kp ?_)
 exact Ad (us:=[.ref a]) (vs:=[.ref a]) F hr hb hd hx I1 (.cons rfl .nil) q
end
theorem JS{p:Int×Int}(h:kT p=kT q):p=q:=by
 unfold kT at h;simp only[List.cons.injEq,Sum.inl.injEq,and_true] at h;exact qG h.1 h.2
theorem VY{s:Int}:∀ {rc:_I} {r:Nat} {q:Int×Int},q∈fZ s r rc↔∃j:Nat,j<rc.length/\q.1=((r+j:Nat):Int)/\0<=q.2/\q.2<rc.getD j 0 - s
 | [],r,q=>by simp[fZ]
 | c::rc,r,q=>by
  rw[fZ,fB,VY (rc:=rc) (r:=r+1)];constructor
  ·rintro(h | ⟨j,h1,h2,h3,h4⟩)
   ·obtain⟨k,hk,rfl⟩:=dW.mp h;rw[fJ] at hk;exact⟨0,by simp,by simp,by dsimp only;lia,by simp only[List.getD_cons_zero];lia⟩
   ·exact⟨j+1,↑h1,by rw[h2];congr 1;lia,h3,↑h4⟩
  ·rintro⟨j,h1,h2,h3,h4⟩;cases j with
   | zero =>
    left;refine dW.mpr ⟨q.2.toNat,fJ.mpr ?_,?_⟩
    ·simp only[List.getD_cons_zero] at h4;lia
    ·refine qG ?_ ?_
     ·rw[h2];simp
     ·dsimp only;lia
   | succ j =>
    right;exact⟨j,↑h1,by rw[h2];congr 1;lia,h3,↑h4⟩
theorem VZ{s:Int}:∀(rc:_I) (r:Nat),(fZ s r rc).Nodup
 | [],r=>CH
 | c::rc,r=>by
  rw[fZ,CG];refine⟨?_,VZ rc (r+1),?_⟩
  ·rw[wW,qC];refine Ho ?_ (wW.mp CI);intro a b h e;simp at e;lia
  ·intro x hx y hy e;subst e;obtain⟨k,_,rfl⟩:=dW.mp hx;obtain⟨j,_,h2,_⟩:=VY.mp hy;simp at h2;lia
noncomputable def lq(az:List (List Key×V)):Nat->_Z->_I
 | _,[]=>[]
 | i,q::z=>if (dP az (kT q)).isSome=true then(i:Int)::lq az (i+1) z else lq az (i+1) z
theorem JT(az:List (List Key×V)):∀(z:_Z) (i:Nat) (q:Int×Int),lq az i (z++[q])=lq az i z++(if (dP az (kT q)).isSome=true then [((i+z.length:Nat):Int)] else [])
 | [],i,q=>by simp[lq]
 | x::z,i,q=>by
  rw[sI,lq,lq,JT az z (i+1) q];have e:i+1+z.length=i+(x::z).length:=by simp;lia
  rw[e];split <;> simp
theorem JU(az:List (List Key×V)):∀(z:_Z) (i:Nat),(lq az i z).length<=z.length
 | [],i=>by simp[lq]
 | x::z,i=>by
  have:=JU az z (i+1);rw[lq];split <;> simp <;> lia
def aeP(K:W.Frag):Sp:=λvs H Q _=>∃(a:Addr) (rc:_I) (s:Int),vs = [.int s,.ref a]/\aA K H a (rc.map V.int)/\0<rc.length/\0<=s/\(∀c∈rc,s<c)/\Q .aY H
noncomputable def dD(z:_Z):List (List Key×V):=z.map λq=>(kT q,V.bl true)
theorem AB(h:q∉z):dP (dD z) (kT q)=none:=by
 induction z with
 | nil=>rfl
 | cons x z ih =>
  rw[dD,dh,lZ,← dD,ih λm=>h (cy _ m)];intro e;exact h (JS e▸cL)
theorem JV(h:q∈z):dP (dD z) (kT q)=some (.bl true):=by
 induction z with
 | nil=>cases h
 | cons x z ih =>
  by_cases e:x=q
  ·subst e;rw[dD,dh,mR rfl]
  ·rw[dD,dh,lZ (λz=>e (JS z)),← dD];exact ih ((cV.mp h).resolve_left λz=>e z.symm)
def aeQ(K:W.Frag)(cs:_A):Sp:=λvs H Q _=>∃(C p ba:Addr) (P:Pl) (fp lz:_A) (bz:_Z),vs = [.ref p,.ref ba]/\C∈cs/\dR K C H p P fp/\Zn H ba lz bz/\bz.length<=1000000/\bz.Nodup/\
 (∀q∈bz,0<=q.1/\q.1<P.rc.length/\0<=q.2/\q.2<P.rc.getD q.1.toNat 0)/\∀d H',aj H H'->H d=none->H' d=some (.dT (dD bz))->Q (.ref d) H'
def aeR(K:W.Frag):Sp:=λvs H Q _=>∃(a d:Addr) (ts:_A) (z:_Z) (az:List (List Key×V)),vs = [.ref a,.ref d]/\Zn H a ts z/\z.length<=1000000/\H d=some (.dT az)/\
 ∀l H',aj H H'->H l=none->H' l=some (.lst ((lq az 0 z).map V.int))->Q (.ref l) H'
def JW(K:W.Frag)(C:Addr)(H:Hp)(p:Addr)(P:Pl)(fp:_A)(mv:Addr)(ms:_V):Prop :=
 ∃dx a1 a2 a3 a4 ts fs,fp=a1::a2::a3::a4::ts/\q9 K C H p P dx a1 a2 a3 a4 ts fs/\cD K C "moves"/\fs.lookup ("moves" : Str)=⇑mv/\H mv=some (.lst ms)
theorem JW.aeS{P:Pl}{mv:Addr}{ms:_V}(h:JW K C H p P fp mv ms):dR K C H p P fp:=by
 obtain⟨dx,a1,a2,a3,a4,ts,fs,e,h,_⟩:=h;exact⟨dx,a1,a2,a3,a4,ts,fs,e,h⟩
section
variable{P:Pl}{mv:Addr}{ms:_V}
end
structure Zt(H:Hp)(a:Addr)(ts:_A)(z:List (_I)):Prop where
 l:H a=some (.lst (ts.map V.ref))
 n:ts.length=z.length
 t:∀(i:Nat) (t:Addr) (r:_I),ts[i]? = some t->z[i]? = some r->H t=some (.tup (r.map V.int))
section
variable{z:List (_I)}
theorem Zt.at(h:Zt H a ts z)(hi:i<z.length):∃t,(ts.map V.ref)[i]? = ⇑t/\H t=some (.tup ((z.getD i []).map V.int)):=by
 have ht:i<ts.length:=by rw[h.n];exact hi
 refine⟨ts[i],by simp[ht],h.t i _ _ (aV ht) ?_⟩
 simp[List.getD_eq_getElem?_getD,List.getElem?_eq_getElem hi]
theorem Zt.start:Zt (upd H l (.lst [])) l [] []:=⟨aE,rfl,λi t r e=>by simp at e⟩
theorem Zt.snoc(h:Zt H l ts z)(hp:H p=none)(r:_I):Zt (upd (upd H p (.tup (r.map V.int))) l (.lst (ts.map V.ref++[V.ref p]))) l (ts++[p]) (z++[r]):=by
 have Az:l≠p:=bT h.l hp;refine⟨by rw[aE,cj];rfl,by simp[h.n],λi t q e1 e2=>?_⟩
 have hn:=h.n;by_cases hi:i<ts.length
 ·rw[eU hi] at e1;rw[eU ∅] at e2
  have ht:=h.t i t q e1 e2;rw[aJ (iy ht h.l (by intro z;cases z)),aJ (bT ht hp)]
  exact ht
 ·rw[eV ∅] at e1
  rw[eV ∅] at e2
  have eE:i - ts.length=0:=by
   have:=VS e1;simp at this;lia
  rw[eE] at e1;rw[← hn,eE] at e2;simp at e1 e2;subst e1 e2;rw[aJ Az.symm,aE]
theorem Zn.start:Zn (upd H l (.lst [])) l [] []:=⟨aE,rfl,λi t r e=>by simp at e⟩
end
section
variable{ta:TA}{g:TG}{nt:Nat}{Q:VK}
theorem AD(n:Int)(Pv:Addr->Nat->_V->St->Hp->Prop)(gZ:∀Q:_V->Hp->Prop,Q [.int n] H->ta σ H Q)(b1 : -1000000000000<n)(b2:n<1000000000000)
  (h0:∀D,H D=none->Pv D 0 [] (l6 σ nt fv) (upd H D (.lst []))) (hD:∀D i ys σ H,Pv D i ys σ H->H D=some (.lst ys)/\ys.length<sizeLine)
  (hs:∀D i ys aB H2 (N:_V->St->Hp->Prop),(∀ys σ H,Pv D (i+1) ys σ H->N ys σ H)->i<n.toNat->Pv D i ys aB H2->g (.int (i:Int)) aB H2 λcT H4=>tt cT H4 λb H5=>if b=true then te cT H5 λv H6=>H6 D=some (.lst ys)/\N (ys++[v]) cT (upd H6 D (.lst (ys++[v]))) else N ys cT H5)
  (hd:∀D ys aB H2,Pv D n.toNat ys aB H2->Q (.ref D) H2):p9 (zZ ta) g tt te nt fv σ H Q:=by
 refine gZ _ ⟨n,rfl,∅,∅,λD qY=>?_⟩
 refine⟨λi m ys aB H2=>m=n.toNat - i/\i<=n.toNat/\Pv D i ys aB H2,⟨_,rfl,eW _,h0 D qY⟩,?_⟩;rintro i m ys aB H2 ⟨rfl,fS,p⟩;obtain⟨d1,d2⟩:=hD D i ys aB H2 p;refine⟨d1,d2,?_⟩;by_cases cg:i<n.toNat
 ·refine .inr ⟨cg,λx H3 y=>?_⟩;obtain⟨e1,e2⟩:=y;subst e1 e2;have e2:(0:Int)+(i:Int)=i:=by lia
  rw[e2];exact hs D i ys aB _ _ (λ_ _ _ z=>NX.of cg z) cg p
 ·have e:i=n.toNat:=by lia
  subst e;exact .inl ⟨bx _,hd D ys aB H2 p⟩
end
structure fO(P:Pl):Prop where
 n2:2<=P.rc.length
 n1:P.rc.length<=1000
 c:∀i:Nat,i<P.rc.length->1<=P.rc.getD i 0/\P.rc.getD i 0<=1000
 ak:1<=P.ak
 sw:SwOk P.sw P.rc.length
noncomputable def qc(P:Pl)(r c:Int):Int:=(c*(P.ak / P.rc.getD r.toNat 0)+r*P.cO) % P.ak
noncomputable def kI(P:Pl)(r c b:Int):Int:=b+(qc P r c - b) % P.ak
noncomputable def tN(P:Pl)(s q:Int×Int):Int:=kI P q.1 q.2 (s.2+P.sw.getD (s.1 - q.1).natAbs 0)
noncomputable def d_(P:Pl)(s q:Int×Int):Int×Int:=(q.1,tN P s q+P.ak / P.rc.getD q.1.toNat 0)
noncomputable def rm(P:Pl)(s q:Int×Int):_I:=[q.1,q.2,tN P s q,(d_ P s q).2]
noncomputable def aQ(P:Pl):Int×Int->_Z->Int×Int
 | s,[]=>s
 | s,q::r=>aQ P (d_ P s q) r
noncomputable def eN(P:Pl):Int×Int->_Z->List (_I)
 | _,[]=>[]
 | s,q::r=>rm P s q::eN P (d_ P s q) r
theorem xT(P:Pl)(q:Int×Int):∀(xs:_Z) (s:Int×Int),aQ P s (xs++[q])=d_ P (aQ P s xs) q
 | [],s=>rfl
 | x::xs,s=>xT P q xs (d_ P s x)
theorem xU(P:Pl)(q:Int×Int):∀(xs:_Z) (s:Int×Int),eN P s (xs++[q])=eN P s xs++[rm P (aQ P s xs) q]
 | [],s=>rfl
 | x::xs,s=>by rw[sI,eN,xU P q xs,eN];rfl
theorem oJ(P:Pl):∀(xs:_Z) (s:Int×Int),(eN P s xs).length=xs.length
 | [],s=>rfl
 | x::xs,s=>by rw[eN,fH,oJ P xs,fH]
theorem V0(P:Pl):∀(xs:_Z) (s:Int×Int) (r:_I),r∈eN P s xs->r.length=4
 | [],s,r,h=>by cases h
 | x::xs,s,r,h=>by
  rcases cV.mp h with rfl | hr
  ·rfl
  ·exact V0 P xs _ r hr
theorem aeT(P:Pl)(s:Int×Int){xs:_Z}(h:xs≠[]):∃a b,(eN P s xs).getD (xs.length - 1) [] = [(aQ P s xs).1,a,b,(aQ P s xs).2]:=by
 obtain⟨ys,q,rfl⟩:∃ys q,xs=ys++[q]:=⟨xs.dropLast,xs.getLast h,(List.dropLast_concat_getLast h).symm⟩;rw[xU,xT,jG,eV (by rw[oJ];simp),oJ]
 exact⟨_,_,by simp[rm,d_];exact⟨rfl,rfl⟩⟩
theorem jx(P:Pl){n:Int}:∀(xs:_Z) (s:Int×Int),0<=s.1->s.1<n->(∀q∈xs,0<=q.1/\q.1<n)->0<=(aQ P s xs).1/\(aQ P s xs).1<n
 | [],s,h0,h1,_=>⟨h0,h1⟩
 | x::xs,s,h0,h1,h=>jx P xs (d_ P s x) (h x cL).1 (h x cL).2 λq hq=>h q (cy _ hq)
def kJ(P:Pl)(z:_Z):Prop:=∀q∈z,0<=q.1/\q.1<P.rc.length/\0<=q.2/\q.2<=1000
def aeU(K:W.Frag)(cs:_A):Sp:=λvs H Q _=>∃(C p:Addr) (P:Pl) (fp:_A) (r c b:Int),vs = [.ref p,.int r,.int c,.int b]/\C∈cs/\dR K C H p P fp/\fO P/\0<=r/\r<P.rc.length/\0<=c/\c<=1000/\Q (.int (kI P r c b)) H
def aeV(K:W.Frag)(cs:_A):Sp:=λvs H Q _=>∃(C p:Addr) (P:Pl) (fp:_A) (r b:Int) (ca:Addr) (aX:_A) (cz:_Z),vs = [.ref p,.int r,.int b,.ref ca]/\C∈cs/\dR K C H p P fp/\fO P/\0<=r/\r<P.rc.length/\
 Zn H ca aX cz/\kJ P cz/\cz.length<=1000/\∀l ts H',aj H H'->H l=none->(∀t∈ts,H t=none)->Zt H' l ts (eN P (r,b) cz)->Q (.ref l) H'
def aeW(K:W.Frag)(cs:_A):Sp:=λvs H Q _=>∃(C p:Addr) (P:Pl) (fp:_A) (r b:Int) (ca:Addr) (aX:_A) (cz:_Z),vs = [.ref p,.int r,.int b,.ref ca]/\C∈cs/\dR K C H p P fp/\fO P/\0<=r/\r<P.rc.length/\
 Zn H ca aX cz/\kJ P cz/\cz.length<=1000/\∀t H',aj H H'->H t=none->H' t=some (.tup [.int (aQ P (r,b) cz).1,.int (aQ P (r,b) cz).2])->Q (.ref t) H'
theorem aeX(zl:ZL z)(l1:1<=ak)(so:SwOk sw (z.map (·.1)).sum):fO ⟨counts z,ak,sk,sw,nc⟩:=by
 have cl:=tK z λp hp=>(zl.ok.r p hp).1;have JX:=zl.sm;have c2:=zl.ok.s2;refine⟨by dsimp only;lia,by dsimp only;lia,λi hi=>?_,l1,by dsimp only;rw[cl];exact so⟩
 obtain⟨y,hy,e⟩:=q8 (get_mem (xR (counts z) hi));have:=zl.ok.r y hy;dsimp only;lia
theorem D7{P:Pl}(ok:fO P)(r c b:Int):b<=kI P r c b/\kI P r c b<b+P.ak:=by
 have:=ok.ak;have h1:=fR (qc P r c - b) (show P.ak≠0 by lia)
 have h2:=fQ (qc P r c - b) (show 0<P.ak by lia)
 unfold kI;lia
theorem aeY{P:Pl}(ok:fO P)(r c b:Int):kI P r c b % P.ak=qc P r c:=by
 have:=ok.ak;unfold kI;rw[Int.add_emod,Cs _ (Cq _),← Int.add_emod];have e:b+(qc P r c - b)=qc P r c:=by lia
 rw[e];unfold qc;exact Cs _ (Cq _)
theorem aeZ{P:Pl}(ok:fO P)(r c b t:Int)(hb:b<=t)(ht:t % P.ak=qc P r c):kI P r c b<=t:=by
 have hl:=ok.ak;have e:(qc P r c - b) % P.ak=(t - b) % P.ak:=by rw[← ht,Cv,Cs _ (Cq _),← Cv]
 have h1:=Int.emod_add_mul_ediv (t - b) P.ak;have h2:=Cr (show 0<=t - b by lia) (show 0<=P.ak by lia)
 have h3:=Cu (show 0<=P.ak by lia) h2
 unfold kI;rw[e];lia
theorem ae0{P:Pl}(ok:fO P)(r c:Int){b b':Int}(h:b<=b'):kI P r c b<=kI P r c b':=aeZ ok r c b _ (Ct h (D7 ok r c b').1) (aeY ok r c b')
section
variable{lt:α->α->Prop}
noncomputable def par(i:Nat):Nat:=(i - 1) / 2
noncomputable def put(f:Nat->α)(k:Nat)(x:α):Nat->α:=λi=>if i=k then x else f i
end
noncomputable abbrev Th:=Int×_I×Int
def JY(a b:Th):Prop:=a.1<b.1\/(a.1=b.1/\(_H.lexLt a.2.1 b.2.1=true\/(a.2.1=b.2.1/\a.2.2<b.2.2)))
section
open PySem.SeqAt PySem.MeetsSeq PySem.MeetsSeq2 PySem.MeetsSeq3
open PySem.AutoSeq1 (wpAny_loadPart')
end
def JZ(H:Hp)(a:Addr)(t:Th):Prop:=∃p,H a=some (.tup [.int t.1,.ref p,.int t.2.2])/\H p=some (.tup (t.2.1.map V.int))
theorem J0:∀ {ns ms:_I},ns.map V.int=ms.map V.int->ns=ms
 | [],[],_=>rfl
 | [],_::_,h=>by cases h
 | _::_,[],h=>by cases h
 | a::r,b::q,h=>by
  rw[dh,dh] at h;injection h with h1 h2;injection h1 with h1;rw[h1,J0 h2]
noncomputable instance (a b:Th):Decidable (JY a b):=by unfold JY;infer_instance
section
theorem ae1(I:Inv X pins σ H s)(hu:A.units+1<cLine){q:Addr}{ns ms:_I}(h:H p=some (.tup (ns.map V.int)))(h':H q=some (.tup (ms.map V.int))):SeqAt.EqAt A s (.ref p) (.ref q) (decide (ns=ms)):=by
 by_cases e:p=q
 ·subst e;have:ns=ms:=by
   have z:=h.symm.trans h';injection z with z;injection z with z;exact J0 z
  rw[jo this];exact .same _
 ·refine .of_refs e ?_;obtain⟨aC,r1,q1,_⟩:=I.tuple (aK.of (K:=X.K) h);obtain⟨fK,r2,q2,_⟩:=I.tuple (aK.of (K:=X.K) h');have l1:ns.length=aC.length:=by have:=r1.length;simpa using this
  have l2:ms.length=fK.length:=by have:=r2.length;simpa using this
  have e0:((List.range (min aC.toArray.size fK.toArray.size)).all (λj=>decide (ns[j]? = ms[j]?)) && aC.toArray.size == fK.toArray.size)=decide (ns=ms):=by
   rw[kX];simp only[Bool.and_eq_true,List.all_eq_true,List.mem_range,decide_eq_true_eq,beq_iff_eq,List.size_toArray];constructor
   ·rintro⟨h1,h2⟩;refine Hr λj=>?_
    by_cases hj:j<min aC.length fK.length
    ·exact h1 j hj
    ·rw[qB ∅,qB ∅]
   ·rintro rfl;exact⟨λ_ _=>rfl,∅⟩
  have fin:=SeqAt.RcAt.tuples (A:=A) (s:=s) (e:=λj=>decide (ns[j]? = ms[j]?)) q1 q2 ∅ (λj h1 h2=>?_)
  ·rwa [e0] at fin
  ·have j1:j<ns.length:=by rw[l1];simpa using h1
   have j2:j<ms.length:=by rw[l2];simpa using h2
   obtain⟨u1,g1,w1⟩:=r1.get (show (ns.map V.int)[j]? = some (.int ns[j]) by simp[j1])
   obtain⟨u2,g2,w2⟩:=r2.get (show (ms.map V.int)[j]? = some (.int ms[j]) by simp[j2])
   have e1:aC.toArray[j] = u1:=by
    rw[wR];exact eg ((aV ↑h1).symm.trans g1)
   have e2:fK.toArray[j] = u2:=by
    rw[wR];exact eg ((aV ↑h2).symm.trans g2)
   obtain⟨t1,rfl⟩:=w1;obtain⟨t2,rfl⟩:=w2;rw[e1,e2];have:=HP (A:=A.in1) (s:=s) ns[j] t1 ms[j] t2;have e3:(ns[j] == ms[j])=decide (ns[j]? = ms[j]?):=by
    simp only[List.getElem?_eq_getElem j1,List.getElem?_eq_getElem j2,Option.some.injEq];rw[kX];simp
   rwa [e3] at this
end
section
theorem D8(hu:X.A.units+16<cLine):cN X (compareOp .Eq) (λx y H Q=>∃a b xs,x = .ref a/\y = .ref b/\aA X.K H a xs/\aA X.K H b []/\Q (.bl xs.isEmpty) H):=by
 rintro pins s σ H x y v u Q I rx ry ⟨a,b,xs,rfl,rfl,ha,hb,q⟩;cases rx;cases ry;obtain⟨aC,r1,p1,z1⟩:=I.list ha;obtain⟨fK,r2,p2,z2⟩:=I.list hb;cases r2;cases r1 with
 | nil =>
  have fin:=SeqAt.RcAt.lists (A:=X.A) (s:=s) (e:=λ_=>true) p1.isList p2.isList rfl ∅ (λj h1 h2=>absurd (show j<0 from h1) ∅)
  exact fin X.prog X.w _ _ ⟨.bl true,H,I,rfl,q⟩
 | cons r t =>
  have fin:=SeqAt.RcAt.lists_lengths (A:=X.A) (s:=s) p1.isList p2.isList (by simp) ∅
  exact fin X.prog X.w _ _ ⟨.bl false,H,I,rfl,q⟩
noncomputable abbrev Zs:=List (Addr×Th)
noncomputable def zV(zs:Zs):_V:=zs.map λz=>V.ref z.1
def V1(H:Hp)(zs:Zs):Prop:=∀z,z∈zs->JZ H z.1 z.2
def V2:V->_V->Hp->VK->Prop:=λx vs H Q=>∃l a zs t,x = .ref l/\vs = [.ref a]/\H l=some (.lst (zV zs))/\V1 H zs/\JZ H a t/\t∈zs.map (·.2)/\
 ∀(k:Nat) (h:k<zs.length),zs[k].2=t->Q .aY (upd H l (.lst (zV (zs.eraseIdx k))))
end
def V3(a b:Addr×Th):Prop:=JY a.2 b.2
noncomputable instance (a b:Addr×Th):Decidable (V3 a b):=by unfold V3;infer_instance
section
variable{zs ys:Zs}{t:Th}{k:Nat}
theorem ae2{ns:_I}(h:1<=ns.length):jc (ns.map V.int) (some 1) none=(ns.drop 1).map V.int:=by
 unfold jc;have e:_H.bU (ns.map V.int).length 0 (some 1)=1:=by
  simp only[_H.bU];rw[if_neg ⋯,aM]
  simp;lia
 rw[e,CB];exact uK (by simp[_H.bU])
theorem V4{ns:_I}{k:Int}(h:0<=k):jc (ns.map V.int) none (some k)=(ns.take k.toNat).map V.int:=by
 unfold jc;have e:_H.bU (ns.map V.int).length 0 none=0:=rfl;have e2:_H.bU (ns.map V.int).length (ns.map V.int).length (some k)=min k.toNat ns.length:=by
  simp only[_H.bU];rw[if_neg ∅,aM]
 rw[e,e2,List.drop_zero,List.map_take,CU];by_cases hk:k.toNat<=ns.length
 ·rw[zy hk]
 ·rw[HK ∅,uK (by simp),uK (by simp;lia)]
end
structure AE(K:W.Frag)(x qual:Str)(st:Stmt)(f:Addr)(fd:FuncData):Prop where
 ex:∃(oc:Value) (od:Option Addr) (dV kV doc pm:Value) (an:Option Addr) (aR ct:Value) (kC:Array (Option Value)),
  fd=PySem.W.fnOf x qual (jd st) (gQ st) (aZ st) dV kV doc pm an aR ct/\K.lookup f=some ⟨oc,od,.func fd,kC⟩/\PySem.W.codeIn K aR qual=true
 kp:PySem.W.keepIn K (.ref f)=true
section
theorem AE.ok{x:Str}{st:Stmt}{k:Nat}(F:AE K x qual st f fd)(S:bL N ps (aZ st))(len:∀vs H Q E,sp vs H Q E->vs.length=ps.length)
  (vm:∀(aR:Value) (A:Around) (outer:List Env) (s:Shared) (H:Hp) (vs:_V) (Q:VK) (E:XK),d9 k (A.deeper (envOfC qual (aZ st) s.heap.objs.size f aR))->sp vs H Q E->
   ∃t,iZ (qN bF P w K mg base N qual (aZ st) f aR A outer s H E).sY (gQ st) t/\t { nx:=λ_ H'=>Q .aY H',rt:=Q } (start N vs) H):bq P w K mg base bF (k+1) f fd ps sp:=by
 obtain⟨oc,od,dV,kV,doc,pm,an,aR,ct,kC,rfl,lk,fE⟩:=F.ex;refine I_ lk fE S len λA outer s H vs Q E hr eB=>?_;obtain⟨t,h,q⟩:=vm aR A outer s H vs Q E hr eB;exact⟨t,h.sY,q⟩
theorem V5{x:Str}{st:Stmt}{oc:Value}{an:Option Addr}{kC:Array (Option Value)}{dV kV doc aR ct:Value}(l:K.lookup f=some ⟨oc,od,.func (PySem.W.fnOf x qual (jd st) (gQ st) (aZ st) dV kV doc pm an aR ct),kC⟩)
  (c:PySem.W.codeIn K aR qual=true) (k:PySem.W.keepIn K (.ref f)=true):AE K x qual st f (PySem.W.fnOf x qual (jd st) (gQ st) (aZ st) dV kV doc pm an aR ct):=⟨⟨oc,od,dV,kV,doc,pm,an,aR,ct,kC,rfl,l,c⟩,k⟩
end
section
theorem ae3{xs:List Bool}(r:Vals (xs.map V.bl) aC):aC=xs.map Value.bool:=by
 induction xs generalizing aC with
 | nil=>cases r;rfl
 | cons b xs ih =>
  cases r with
  | cons r1 r2=>cases (show _=Value.bool b from r1);rw[ih r2];rfl
theorem ae4(hc:X.calm=true):i9 X (.builtin "all") (λxs H Q=>∃(p:Addr) (bs:List Bool),xs = [.ref p]/\aA X.K H p (bs.map V.bl)/\Q (.bl (bs.all id)) H):=by
 intro pins s σ H xs us Q I r h;obtain⟨p,bs,rfl,hq,q⟩:=h;obtain⟨u,rfl,ru⟩:=vals1 r;cases ru;obtain⟨aC,rv,pl,hz⟩:=I.list hq;have eb:=ae3 rv;subst eb;have xV:p<s.heap.objs.size:=by obtain⟨_,q1,_⟩:=pl.isList;exact cR q1
 refine call_all_walk (HX pl.isList ?_);refine⟨s.heap.objs.size,[s.heap.objs.size,p],[s.heap.objs.size],(bs.map Value.bool).toArray.size,_,_,λi=>(bs[i]?).getD true,rfl,Walks.list (A:=X.A.in1) (I.ok.hd hc) _ p (dj xV) (bs.map Value.bool).toArray,
  ⟨⟨_,gf _ rfl,rfl,rfl⟩,pl.isList.push _⟩,λi v s2 Q2 E2 hiv hw=>?_,λh' tk hk=>?_⟩
 ·have ae5:(bs.map Value.bool)[i]? = some v:=by simpa using hiv
  obtain⟨b,eb,rfl⟩:=c9 ae5;simp only[eb,Option.getD_some] at hw;exact pL hw
 ·have e:((List.range (bs.map Value.bool).toArray.size).all λi=>(bs[i]?).getD true)=bs.all id:=by
   rw[iK,aM];exact LSm.range_all bs
  rw[e];exact⟨.bl (bs.all id),H,I.kept (LSm.kept_iter hk),rfl,q⟩
def V6(ta:TA):TE:=λσ H Q=>ta σ H λvs H1=>∃i j:Int,vs = [.int i,.int j]/\(-1000000000000<i/\i<1000000000000/\-1000000000000<j/\j<1000000000000)/\(j - i).toNat<=1000000/\
 ∀l,H1 l=none->Q (.ref l) (upd H1 l (.lst ((List.range (j - i).toNat).map λ(k:Nat)=>V.int (i+(k:Int)))))
end
section
def V7(K:W.Frag):R2:=λx y H Q=>∃l k xs,x = .ref l/\y = .int k/\H l=some (.tup xs)/\xs≠[]/\xs.length<=1000/\1<=k/\k<=1000/\∀p H',aj H H'->H' p=some (.tup (List.replicate k.toNat xs).flatten)->Q (.ref p) H'
end
structure Ak where
 kind:Str
 first:Int
 many:Int
 marks:_I
 at_:Int
 D9:Int
 tO:Option Int
 behind:_I
 early:Bool
noncomputable def jU:Option Int->V
 | none=>.aY
 | some i=>.int i
noncomputable def tQ(q:Ak)(m b:Addr):List (Str×V):=[("kind",.str q.kind),("first",.int q.first),("many",.int q.many),("marks",.ref m),("at",.int q.at_),("asker",.int q.D9),("latest",jU q.tO),("behind",.ref b),("early",.bl q.early)]
structure lA(K:W.Frag)(C:Addr)(H:Hp)(p:Addr)(q:Ak)(m b dx:Addr):Prop where
 o:H p=some (.ins C dx (tQ q m b))
 ms:H m=some (.tup (q.marks.map V.int))
 bh:H b=some (.tup (q.behind.map V.int))
theorem lA.same{q:Ak}{m:Addr}(h:lA K C H p q m b dx)(s:aj H H'):lA K C H' p q m b dx:=⟨s _ _ h.o,s _ _ h.ms,s _ _ h.bh⟩
theorem V8{x m:Addr}{q:Ak}(s:aj H H1)(nx:H1 x=none)(je:H1 dx=none)(gm:dx≠x)(hm:H1 m=some (.tup (q.marks.map V.int)))(hb:H1 b=some (.tup (q.behind.map V.int))) :
  aj H (upd (upd (upd H1 dx (.own x)) x (.ins C dx [])) x (.ins C dx (tQ q m b)))/\H x=none/\lA K C (upd (upd (upd H1 dx (.own x)) x (.ins C dx [])) x (.ins C dx (tQ q m b))) x q m b dx:=by
 have s1:=aj.put (o:=.own x) je;have nx1:upd H1 dx (.own x) x=none:=by rw[aJ (fW gm)];exact nx
 have s2:aj H1 (upd (upd (upd H1 dx (.own x)) x (.ins C dx [])) x (.ins C dx (tQ q m b))):=aj.put2 (s1.trans (aj.put nx1)) nx;exact⟨s.trans s2,s.free nx,⟨aE,s2 _ _ hm,s2 _ _ hb⟩⟩
structure qd(ns:_I):Prop where
 up:ns.Pairwise (· < ·)
 lo:∀n∈ns,0<=n
 hi:∀n∈ns,n<=99
theorem qd.nil:qd []:=⟨.nil,(λ_ h=>nomatch h),λ_ h=>nomatch h⟩
noncomputable def AF(x:Int)(ns:_I)(i:Nat):Int:=if i=0 then x else ns.getD (i - 1) 0
theorem qd.step{ns:_I}(h:qd ns){n:Int}(e:ns[i]? = some n):AF (-1) ns i+1<=n/\n<=99:=by
 refine⟨?_,h.hi n (get_mem e)⟩;unfold AF;split
 ·have:=h.lo n (get_mem e);lia
 ·have hi:=cJ e;obtain⟨h1,e1⟩:=iI.mp e;have e2:ns.getD (i - 1) 0=ns[i - 1]:=by simp[List.getD_eq_getElem?_getD,List.getElem?_eq_getElem (show i - 1<ns.length by lia)]
  have:=nT.mp h.up (i - 1) i ∅ h1 ∅
  rw[e2];lia
theorem ae6{x:Int}{ns:_I}{n:Int}(e:ns[i]? = some n):AF x ns (i+1)=n:=by
 simp[AF,List.getD_eq_getElem?_getD,e]
def J4(K:W.Frag)(H:Hp)(v:V)(ns:_I):Prop:=(v = .aY/\ns = [])\/∃a,v = .ref a/\(aA K H a (ns.map V.int)\/H a=some (.tup (ns.map V.int)))
structure D_(first many at_ D9:Int)(f_:Option Int):Prop where
 f0:0<=first
 f1:first<=1000000
 m0:1<=many
 m1:many<=16
 a0:0<=at_
 a1:at_<=1000000000000
 s0:0<=D9
 s1:D9<=20
 l:∀x,f_=some x->0<=x/\x<=10000000000000
def ae7:Sp:=λvs H Q _=>∃(n lo hi:Int) (w:Str),vs = [.int n,.int lo,.int hi,.str w]/\lo<=n/\n<=hi/\Q .aY H
def ae8(K:W.Frag):Sp:=λvs H Q _=>∃(b:Addr) (ns:_I),vs = [.ref b]/\aK K H b (ns.map V.int)/\qd ns/\Q .aY H
def ae9(K:W.Frag):Sp:=λvs H Q _=>∃(f m a s:Int) (l:Option Int) (b:Addr) (ns:_I),vs = [.int f,.int m,.int a,.int s,jU l,.ref b]/\D_ f m a s l/\aK K H b (ns.map V.int)/\qd ns/\Q .aY H
def ae_(K:W.Frag):Sp:=λvs H Q _=>∃(v:V) (ns:_I),vs = [v]/\J4 K H v ns/\∀b H',aj H H'->H' b=some (.tup (ns.map V.int))->Q (.ref b) H'
def afa(C:Addr):Sp:=λvs H Q _=>∃(p dx:Addr) (v1 v2 v3 v4 v5 v6 v7 v8 v9:V),vs = [.ref p,v1,v2,v3,v4,v5,v6,v7,v8,v9]/\H p=some (.ins C dx [])/\
 Q .aY (upd H p (.ins C dx [("kind",v1),("first",v2),("many",v3),("marks",v4),("at",v5),("asker",v6),("latest",v7),("behind",v8),("early",v9)]))
def afb(K:W.Frag)(C:Addr):Sp:=λvs H Q _=>∃(f m a s:Int) (l:Option Int) (bv:V) (ns:_I),vs = [.int f,.int m,.int a,.int s,jU l,bv]/\D_ f m a s l/\J4 K H bv ns/\qd ns/\
 ∀p mk b dx H',aj H H'->H p=none->lA K C H' p ⟨"read",f,m,[],a,s,l,ns,false⟩ mk b dx->Q (.ref p) H'
def afc(K:W.Frag)(C:Addr):Sp:=λvs H Q _=>∃(f a s:Int) (ma:Addr) (ms:_I) (l:Option Int) (bv:V) (ns:_I) (e:Bool),vs = [.int f,.ref ma,.int a,.int s,jU l,bv,.bl e]/\aA K H ma (ms.map V.int)/\(∀x∈ms,0<=x/\x<=1000000000)/\
 D_ f ms.length a s l/\J4 K H bv ns/\qd ns/\∀p mk b dx H',aj H H'->H p=none->lA K C H' p ⟨"write",f,ms.length,ms,a,s,l,ns,e⟩ mk b dx->Q (.ref p) H'
noncomputable def Ea(x y:Ak):Bool:=decide ((x.kind = "write"\/y.kind = "write")/\x.first<y.first+y.many/\y.first<x.first+x.many)
def afd(K:W.Frag)(C:Addr):Sp:=λvs H Q _=>∃(p r:Addr) (x y:Ak) (m b dx m' b' jT:Addr),vs = [.ref p,.ref r]/\lA K C H p x m b dx/\lA K C H r y m' b' jT/\Q (.bl (Ea x y)) H
theorem lB(n:Int):∀ms:_I,xE (.int n) (ms.map V.int)=decide (n∈ms)
 | []=>rfl
 | m::ms=>by
  have ih:=lB n ms;unfold xE at ih ⊢;rw[dh,wL,ih,kX];simp only[lX,Bool.or_eq_true,beq_iff_eq,decide_eq_true_eq,List.mem_cons];constructor
  ·rintro(h | h)
   ·exact .inl h.symm
   ·exact .inr h
  ·rintro(h | h)
   ·exact .inl h.symm
   ·exact .inr h
theorem rq(ms:_I):(ms.map V.int).all mO=true:=by simp[mO]
theorem J5(h:X.K=K):cN X (compareOp .In) (xF K false):=h▸Ji
theorem J6(h:X.K=K):cN X (compareOp .NotIn) (xF K true):=h▸Vn
section
variable{g:TG}{tb:TS}{D:Ends}
theorem rt(a:Addr)(xs:_V)(Pv:Nat->St->Hp->Prop)(oG:∀Q:VK,Q (.ref a) H->tl σ H Q)(eY:aK K H a xs)(h0:Pv 0 σ H)(hl:∀i σ H,i<=xs.length->Pv i σ H->aK K H a xs)
  (hs:∀i x σ H (N:St->Hp->Prop),(∀σ H,Pv (i+1) σ H->N σ H)->xs[i]? = some x->Pv i σ H->g x σ H λaB H2=>tb { D with nx:=N,ct:=N,bk:=D.nx } aB H2) (hd:∀σ H,Pv xs.length σ H->D.nx σ H):mK (IB K tl) g tb D σ H :=
 oG _ ⟨a,rfl,⟨xs,eY⟩,ac1 Pv h0 hl (λi x σ H hx p=>hs i x σ H _ (λ_ _ z=>z) hx p) hd⟩
end
noncomputable def f2(o:Obj):Option Value:=match o.data with
 | .fields vs=>vs[2]?
 | _=>none
def afe(h:Heap)(a:Addr)(od:Option Addr):Prop:=∃oe,h.get? a=some oe/\oe.dict=od.map (· / 2)/\(od.getD 0 % 2=0->f2 oe=some .none)
section
variable{M:Model}{l:List Env}{L e:Addr}{cls a0:Value}{Q:Unit->Shared->Prop}
end
structure Cut(base B:Heap)(outer:List Env)(H H':Hp)(h:Heap):Prop where
 stays:base.StaysIn B
 k1:∀b o,h.get? b=some o->H b=none->b∉iX outer->B.get? b=some o
 k2:∀b u,H' b=some u->∃o,B.get? b=some o
 k3:∀b o,h.get? b=some o->b∉iX outer->∃o',B.get? b=some o'
noncomputable def CX1(P:Program)(w:World)(base:Heap):jN:=λouter H s E e s' =>
 ∃a C a0 H' B od,e = .ref a/\s'.os=s.os/\AllBare s'.gens/\Un (iX outer) [] H H' s.heap s'.heap/\d8 P w H' s'.heap/\H' a=none/\s.heap.get? a=none/\
  Cut base B outer H H' s.heap/\Heap.FlyingW B outer a (.ref C) a0 s'.heap/\afe s'.heap a od/\E (.ref C) od H'
section
variable{B:Heap}{cd:Value}{eX sc:Shared}{uU Hc:Hp}{E:XK}
 {pins:List (Addr×Obj)} {σ:St} {a C:Addr} {a0:Value} {h':Heap} {od:Option Addr}
end
section
variable{E:XK}{x:Str}{bm:List Value}{newId aqm B:String}{np:Pos}{aqn:Expr}{rest:List Expr}{t:TA}
end
section
variable{E:XK}
end
def XP(P:Program)(w:World)(base:Heap)(X:Cx)(pins:List (Addr×Obj))(σ:St)(E:XK)(e:Value)(s':Shared):Prop:=∃H1 s1,Inv X pins σ H1 s1/\CX1 P w base X.stack H1 s1 E e s'
section
variable{k:Nat}{E:XK}{x m:Str}{p:Pos}{o:Expr}{es:List Expr}{ta:TE}{t:TA}
end
section
variable{E:XK}
end
section
variable{a0:Value}{s1:Shared}{B:Heap}
end
end _L
namespace _L
open PySem PySem.Spec PyProof.Rows PySem.W PySem.Builtin.ObjectAttr PySem.Builtin.Getset_descriptor
section
variable{K:Frag}{x:Addr}{ox:Obj}
end
end _L
namespace _L
open PySem PySem.Spec PyProof.Rows PySem.W
noncomputable def fq{α:Type}(lt:Nat->Nat->Bool):KasT α->α
 | .ret a=>a
 | .ask i j k=>fq lt (k (lt i j))
theorem xW{α β:Type}{lt:Nat->Nat->Bool}{f:α->KasT β}:∀t:KasT α,fq lt (t.bind f)=fq lt (f (fq lt t))
 | .ret _=>rfl
 | .ask i j k=>xW (k (lt i j))
section
variable(key:Nat->Int)
noncomputable def kk(p:Array Nat)(i:Nat):Int:=key (p.getD i 0)
noncomputable def klt:Nat->Nat->Bool:=λi j=>decide (key i<key j)
def oK(p:Array Nat)(m:Nat):Prop:=∀i j,i<j->j<m->kk key p i<kk key p j
def AG(p:Array Nat)(m:Nat):Prop:=∀i j,i<j->j<m->kk key p j<kk key p i
def mW(p:Array Nat):Prop:=∀i j,i<p.size->j<p.size->kk key p i=kk key p j->i=j
variable{key}{p:Array Nat}
theorem AH(c:kk key p i<kk key p j):klt key (p.getD i 0) (p.getD j 0)=true:=jo c
theorem J7{p q:Array Nat}(h:p[i]? = q[j]?):kk key p i=kk key q j:=by
 unfold kk;rw[sF,sF,h]
theorem J8(hm:m<=p.size)(hi:i<m):kk key (kas_rev p 0 m) i=kk key p (m - 1 - i):=J7 (by
 unfold kas_rev;rw[getElem?_mirror_all hm,if_pos ⟨eW _,hi⟩];congr 1;lia)
theorem J9:∀(f n:Nat),1<=n->n+f<=p.size->mW key p->oK key p n->n<=fq (klt key) (kas_asc p f n)/\fq (klt key) (kas_asc p f n)<=n+f/\oK key p (fq (klt key) (kas_asc p f n))/\
  (fq (klt key) (kas_asc p f n)<n+f->kk key p (fq (klt key) (kas_asc p f n))<kk key p (fq (klt key) (kas_asc p f n) - 1))
 | 0,n,_,_,_,h=>⟨bx _,bx _,h,λz=>absurd z (lO _)⟩
 | f+1,n,h1,hz,hd,h=>by
  by_cases c:kk key p n<kk key p (n - 1)
  ·have e:fq (klt key) (kas_asc p (f+1) n)=n:=by
    show fq (klt key) (if klt key (p.getD n 0) (p.getD (n - 1) 0)=true then _ else _)=n
    rw[if_pos (AH c)];rfl
   rw[e];exact⟨bx _,∅,h,λ_=>c⟩
  ·have e:fq (klt key) (kas_asc p (f+1) n)=fq (klt key) (kas_asc p f (n+1)):=by
    show fq (klt key) (if klt key (p.getD n 0) (p.getD (n - 1) 0)=true then _ else _)=_
    rw[if_neg (by unfold klt;rw[decide_eq_true_eq];exact c)]
   have hn:kk key p (n - 1)<kk key p n:=by
    have:kk key p (n - 1)≠kk key p n:=λz=>by have:=hd _ _ ∅ ∅ z;lia
    lia
   have h':oK key p (n+1):=λi j oM hj=>by
    by_cases e1:j=n
    ·subst e1;by_cases e2:i=j - 1
     ·subst e2;exact hn
     ·have:=h i (j - 1) ∅ ∅;lia
    ·exact h i j oM ∅
   obtain⟨a,b,c1,c2⟩:=J9 f (n+1) ∅ ∅ hd h'
   rw[e];exact⟨∅,∅,c1,λz=>c2 ∅⟩
theorem V9:∀(f n:Nat),2<=n->n+f<=p.size->mW key p->AG key p n->∃m,fq (klt key) (kas_desc f p n 0)=(p,m,0)/\n<=m/\m<=n+f/\AG key p m
 | 0,n,_,_,_,h=>⟨n,rfl,bx _,bx _,h⟩
 | f+1,n,h1,hz,hd,h=>by
  by_cases c:kk key p n<kk key p (n - 1)
  ·have e:fq (klt key) (kas_desc (f+1) p n 0)=fq (klt key) (kas_desc f p (n+1) 0):=by
    show fq (klt key) (if klt key (p.getD n 0) (p.getD (n - 1) 0)=true then(if 0 > 0 then _ else _) else _)=_
    rw[if_pos (AH c),if_neg ∅]
   have h':AG key p (n+1):=λi j oM hj=>by
    by_cases e1:j=n
    ·subst e1;by_cases e2:i=j - 1
     ·subst e2;exact c
     ·have:=h i (j - 1) ∅ ∅;lia
    ·exact h i j oM ∅
   obtain⟨m,a,b,c1,c2⟩:=V9 f (n+1) ∅ ∅ hd h'
   exact⟨m,e.trans a,∅,∅,c2⟩
  ·have hn:kk key p (n - 1)<kk key p n:=by
    have:kk key p (n - 1)≠kk key p n:=λz=>by have:=hd _ _ ∅ ∅ z;lia
    lia
   refine⟨n,?_,bx _,∅,h⟩
   show fq (klt key) (if klt key (p.getD n 0) (p.getD (n - 1) 0)=true then _ else _)=_
   rw[if_neg (by unfold klt;rw[decide_eq_true_eq];exact c)]
   show fq (klt key) (if klt key (p.getD (n - 1) 0) (p.getD n 0)=true then _ else _)=_
   rw[if_pos (AH hn)];rfl
theorem afg(hm:m<=p.size)(h:mW key p):mW key (kas_rev p 0 m):=λi j hi hj e=>by
 have hs:(kas_rev p 0 m).size=p.size:=mirror_size _ _ _ _;rw[hs] at hi hj;have at_:∀i,kk key (kas_rev p 0 m) i=kk key p (if i<m then m - 1 - i else i):=λi=>by
  by_cases z:i<m
  ·rw[if_pos z,J8 hm z]
  ·rw[if_neg z];exact J7 (by unfold kas_rev;rw[getElem?_mirror_all hm,if_neg ∅])
 rw[at_,at_] at e;have:=h _ _ (by split <;> lia) (by split <;> lia) e
 split at this <;> split at this <;> lia
theorem afh{lC:Nat}(h1:1<=n)(hn:n<=lC)(hz:lC<=p.size)(hd:mW key p)(h:AG key p n) :
  ∃m q,fq (klt key) (kas_tail3 n lC p)=(m,q)/\1<=m/\m<=lC/\q.Perm p/\mW key q/\oK key q m:=by
 have gM:=afg (cH hn hz) hd;have ha:oK key (kas_rev p 0 n) n:=λi j oM hj=>by
  rw[J8 ∅ ∅,J8 ∅ hj]
  exact h _ _ ∅ ∅
 have hs:(kas_rev p 0 n).size=p.size:=mirror_size _ _ _ _;obtain⟨a,b,c,_⟩:=J9 (p:=kas_rev p 0 n) (lC - n) n h1 ∅ gM ha
 exact⟨_,_,by unfold kas_tail3;rw[xW];rfl,∅,∅,mirror_perm _ _ _ _,gM,c⟩
theorem afi{lC:Nat}(h1:1<=lC)(hz:lC<=p.size)(hd:mW key p) :
  ∃m q,fq (klt key) (kas_count lC p)=(m,q)/\1<=m/\m<=lC/\q.Perm p/\mW key q/\oK key q m:=by
 obtain⟨a,b,c,d⟩:=J9 (p:=p) (lC - 1) 1 ∅ ∅ hd (λi j _ _=>by lia)
 unfold kas_count;rw[xW];generalize fq (klt key) (kas_asc p (lC - 1) 1)=n at a b c d;by_cases e:n=lC
 ·rw[if_pos (by rw[mH];exact e)]
  exact⟨n,p,rfl,a,∅,Hg _,hd,c⟩
 ·rw[if_neg (by rw[mH];exact e)]
  by_cases g:n > 1
  ·rw[if_pos g];refine⟨n,p,?_,a,∅,Hg _,hd,c⟩
   show fq (klt key) (if klt key (p.getD 0 0) (p.getD (n - 1) 0)=true then _ else _)=_
   rw[if_pos (AH (c _ _ ∅ ∅))];rfl
  ·rw[if_neg g];have en:n=1:=by lia
   subst en;have d1:=d ∅
   have hde:AG key p 2:=λi j oM hj=>by
    have e1:j=1:=by lia
    have e2:i=0:=by lia
    subst e1 e2;exact d1
   obtain⟨m,e1,e2,e3,e4⟩:=V9 (p:=p) (lC - 2) 2 ∅ ∅ hd hde
   unfold kas_descPart;rw[xW,show (1+1)=2 from rfl,e1];dsimp only;rw[if_neg ∅]
   exact afh ∅ ∅ hz hd e4
theorem J_{k:Nat}:∀(f l r:Nat),r - l<=f->l<=r->r<=k->k<p.size->mW key p->oK key p k->(∀i,i<l->kk key p i<kk key p k)->(∀i,r<=i->i<k->kk key p k<kk key p i)->
  ∃m,fq (klt key) (kas_place p k f l r)=m/\m<=k/\(∀i,i<m->kk key p i<kk key p k)/\(∀i,m<=i->i<k->kk key p k<kk key p i)
 | 0,l,r,hf,hlr,hr,hk,hd,ha,h1,h2=>⟨l,rfl,∅,h1,λi a b=>h2 i ∅ b⟩
 | f+1,l,r,hf,hlr,hr,hk,hd,ha,h1,h2=>by
  unfold kas_place;by_cases c:l ≥ r
  ·rw[if_pos c];exact⟨l,rfl,∅,h1,λi a b=>h2 i ∅ b⟩
  ·rw[if_neg c]
   show ∃m,fq (klt key) (if klt key (p.getD k 0) (p.getD ((l+r) / 2) 0)=true then _ else _)=m/\_
   have hm:(l+r) / 2<r:=by lia
   have hl:l<=(l+r) / 2:=by lia
   generalize (l+r) / 2=q at hm hl;by_cases d:kk key p k<kk key p q
   ·rw[if_pos (AH d)];refine J_ f l q ∅ hl ∅ hk hd ha h1 λi a b=>?_
    by_cases e:i=q
    ·subst e;exact d
    ·have:=ha q i ∅ b;lia
   ·rw[if_neg (by unfold klt;rw[decide_eq_true_eq];exact d)]
    have hq:kk key p q<kk key p k:=by
     have:kk key p q≠kk key p k:=λz=>by have:=hd _ _ ∅ ∅ z;lia
     lia
    refine J_ f (q+1) r ∅ ∅ hr hk hd ha (λi a=>?_) h2
    by_cases e:i=q
    ·subst e;exact hq
    ·have:=ha i q ∅ ∅;lia
theorem Eb{k l:Nat}(hk:k<p.size)(hl:l<=k):kk key (bubble p k (k - l)) i=kk key p (if i=l then k else if l<i/\i<=k then i - 1 else i):=J7 (by
 rw[getElem?_bubble hk _ ∅,show k - (k - l)=l by lia]
 split
 ·rfl
 ·split <;> rfl)
theorem V_:∀(f:Nat) (p:Array Nat) (k:Nat),k+f=p.size->mW key p->oK key p k->∃q,fq (klt key) (kas_bin f p k)=q/\q.Perm p/\oK key q p.size
 | 0,p,k,hz,hd,ha=>⟨p,rfl,Hg _,by rw[← hz];exact ha⟩
 | f+1,p,k,hz,hd,ha=>by
  obtain⟨l,e,hl,h1,h2⟩:=J_ (p:=p) (k:=k) k 0 k ∅ ∅ (bx _) ∅ hd ha (λi z=>by lia) (λi a b=>by lia)
  unfold kas_bin;rw[xW,e];have hs:(bubble p k (k - l)).size=p.size:=bubble_size _ _ _;have gM:mW key (bubble p k (k - l)):=λi j hi hj z=>by
   rw[hs] at hi hj;rw[Eb ∅ hl,Eb ∅ hl] at z
   have:=hd _ _ (by split;lia;split <;> lia) (by split;lia;split <;> lia) z
   repeat' split at this
   all_goals lia
  have ha':oK key (bubble p k (k - l)) (k+1):=λi j oM hj=>by
   rw[Eb ∅ hl,Eb ∅ hl]
   by_cases e1:i=l
   ·rw[if_pos e1,if_neg ∅,if_pos ∅]
    exact h2 _ ∅ ∅
   ·rw[if_neg e1];by_cases e2:j=l
    ·rw[if_neg ∅,if_pos e2]
     exact h1 _ ∅
    ·rw[if_neg e2];split <;> split
     ·exact ha _ _ ∅ ∅
     ·exact ha _ _ ∅ ∅
     ·exact ha _ _ ∅ ∅
     ·exact ha _ _ ∅ ∅
  obtain⟨q,e3,e4,e5⟩:=V_ f (bubble p k (k - l)) (k+1) ∅ gM ha'
  exact⟨q,e3,e4.trans (bubble_perm _ _ _),by rw[hs] at e5;exact e5⟩
theorem afj(h1:1<=n)(hi:∀i j,i<n->j<n->key i=key j->i=j):∃q,fq (klt key) (kas_sort n)=q/\q.Perm (List.toArray (List.range n))/\oK key q n:=by
 have Wa:∀i,i<n->(List.toArray (List.range n)).getD i 0=i:=λi h=>by
  rw[sF];simp[h]
 have hd:mW key (List.toArray (List.range n)):=λi j fS lE e=>by
  have a:i<n:=by simpa using fS
  have b:j<n:=by simpa using lE
  unfold kk at e;rw[Wa i a,Wa j b] at e;exact hi i j a b e
 have hz:(List.toArray (List.range n)).size=n:=by simp
 obtain⟨m,q,e1,e2,e3,e4,e5,e6⟩:=afi (p:=List.toArray (List.range n)) h1 ∅ hd
 have hq:q.size=n:=by rw[e4.size_eq,hz]
 unfold kas_sort;rw[xW,e1];by_cases c:m<n
 ·rw[if_pos c];have em:max m 1=m:=by lia
  rw[em];obtain⟨q',a,b,d⟩:=V_ (n - m) q m ∅ e5 e6
  exact⟨q',a,b.trans e4,by rw[hq] at d;exact d⟩
 ·rw[if_neg c];have:m=n:=by lia
  subst this;exact⟨q,rfl,e4,e6⟩
end
section
def Ka(h:Heap)(a:Addr)(d r:Int):Prop:=∃o t u n,h.get? a=some o/\o.cls = .type "tuple"/\o.data = .seq #[.int d t,.int r u] n
theorem afk{x y:Addr}{d1 r1 d2 r2:Int}{Q:Bool->Shared->Prop}(hx:Ka s.heap x d1 r1)(hy:Ka s.heap y d2 r2)(h:Q (decide (d1<d2\/(d1=d2/\r1<r2))) s) :
  wpAny (model prog w) A (keyLt' (tuples' true) (.ref x) (.ref y)) Q E s:=by
 obtain⟨ox,t1,u1,n1,ex,_,dx⟩:=hx;obtain⟨oy,t2,u2,n2,ey,_,dy⟩:=hy;refine kat_lt ex dx ey dy (kat_cons (C6 ?_));by_cases e:d1=d2
 ·subst e;rw[HQ];refine kat_yes (kat_cons (C6 ?_));by_cases e2:r1=r2
  ·subst e2;rw[HQ];refine kat_yes (kat_nil ?_);have z:decide (d1<d1\/(d1=d1/\r1<r1))=decide ((#[Value.int d1 t1,Value.int r1 u1]:Array Value).size<(#[Value.int d1 t2,Value.int r1 u2]:Array Value).size):=by
    rw[C4];simp
   rw[← z];exact h
  ·rw[k_.mpr e2];refine kat_no ?_
   show wpAny _ _ (oneLt' false _ _) _ _ _;refine kat_one _ _ (lt_int ?_);have z:decide (d1<d1\/(d1=d1/\r1<r2))=decide (r1<r2):=by rw[C4];simp
   rw[z] at h;exact h
 ·rw[k_.mpr e];refine kat_no ?_
  show wpAny _ _ (oneLt' true _ _) _ _ _;refine oneLt_int ?_;have z:decide (d1<d2\/(d1=d2/\r1<r2))=decide (d1<d2):=by rw[C4];simp[e]
  rw[z] at h;exact h
def Ec(h:Heap)(ks:List Value)(kv:_Z):Prop:=ks.length=kv.length/\∀i (hi:i<kv.length),∃a,ks.getD i Value.none = .ref a/\Ka h a (kv[i]).1 (kv[i]).2
noncomputable def mX(kv:_Z)(i:Nat):Int:=(kv.getD i (0,0)).1*64+(kv.getD i (0,0)).2
theorem afl{ks:List Value}{kv:_Z}{C:Bool->Shared->Prop}(hk:Ec s.heap ks kv)(hb:∀q∈kv,0<=q.2/\q.2<64)(hi:i<kv.length)(hj:j<kv.length)(h:C (klt (mX kv) i j) s) :
  kas_ask prog w A (tuples' true) ks i j C s:=by
 obtain⟨a,ea,pa⟩:=hk.2 i hi;obtain⟨b,eb,pb⟩:=hk.2 j hj;unfold kas_ask;rw[ea,eb];have h1:=hb _ (dU hi);have h2:=hb _ (dU hj);have z:klt (mX kv) i j=decide ((kv[i]).1<(kv[j]).1\/((kv[i]).1=(kv[j]).1/\(kv[i]).2<(kv[j]).2)):=by
  unfold klt mX;rw[C4,show kv.getD i (0,0)=kv[i] by simp[hi],show kv.getD j (0,0)=kv[j] by simp[hj]]
  constructor
  ·intro q;lia
  ·intro q;lia
 rw[z] at h;exact afk pa pb h
end
noncomputable def KB{α:Type}(n:Nat)(P:α->Prop):KasT α->Prop
 | .ret a=>P a
 | .ask i j k=>i<n/\j<n/\∀b,KB n P (k b)
theorem KB.bind{α β:Type}{n:Nat}{P:α->Prop}{R:β->Prop}{f:α->KasT β}(hf:∀a,P a->KB n R (f a)):∀t:KasT α,KB n P t->KB n R (t.bind f)
 | .ret a,h=>hf a h
 | .ask i j k,h=>⟨h.1,h.2.1,λb=>KB.bind hf (k b) (h.2.2 b)⟩
theorem Wb{α:Type}{n:Nat}{P:α->Prop}{cmp:Nat->Nat->(Bool->Shared->Prop)->Shared->Prop}{lt:Nat->Nat->Bool}{s:Shared}(hc:∀i j C,i<n->j<n->C (lt i j) s->cmp i j C s) :
  ∀(t:KasT α) (Q:α->Shared->Prop),KB n P t->Q (fq lt t) s->t.kasWp cmp Q s
 | .ret _,_,_,h=>h
 | .ask i j k,Q,z,h=>hc i j _ z.1 z.2.1 (Wb hc (k (lt i j)) Q (z.2.2 _) h)
def AllLt(n:Nat)(p:Array Nat):Prop:=0<n/\∀x∈p.toList,x<n
section
variable{p q:Array Nat}
theorem AllLt.at(h:AllLt n p)(i:Nat):p.getD i 0<n:=by
 rw[sF];cases e:p[i]? with
 | none=>exact h.1
 | some x=>exact h.2 x (gz (by rw[← sG] at e;exact e))
theorem AllLt.perm(h:AllLt n p)(e:q.Perm p):AllLt n q:=⟨h.1,λx hx=>h.2 x (e.toList.mem_iff.mp hx)⟩
theorem AllLt.rev(h:AllLt n p)(i j:Nat):AllLt n (kas_rev p i j):=h.perm (mirror_perm _ _ _ _)
theorem Kc(h:AllLt n p):∀f m,KB n (λ_=>True) (kas_asc p f m)
 | 0,_=>trivial
 | f+1,m=>⟨h.at _,h.at _,λb=>by
  show KB n _ (if b=true then _ else _)
  cases b
  ·exact Kc h f (m+1)
  ·trivial⟩
theorem Ed:∀(f:Nat) (p:Array Nat) (m q:Nat),AllLt n p->KB n (λr=>AllLt n r.1) (kas_desc f p m q)
 | 0,p,_,_,h=>h
 | f+1,p,m,q,h=>⟨h.at _,h.at _,λb=>by
  show KB n _ (if b=true then(if q > 0 then _ else _) else _)
  cases b
  ·refine⟨h.at _,h.at _,λd=>?_⟩
   show KB n _ (if d=true then _ else _)
   cases d
   ·exact Ed f p _ _ h
   ·exact h
  ·rw[if_pos rfl];split
   ·exact Ed f _ _ _ (h.rev _ _)
   ·exact Ed f _ _ _ h⟩
theorem Wc{r:Nat}(h:AllLt n p):KB n (λr=>AllLt n r.2) (kas_tail3 m r p):=by
 unfold kas_tail3;refine KB.bind (P:=λ_=>True) (λa _=>?_) _ (Kc (h.rev _ _) _ _)
 show AllLt n _;exact h.rev _ _
theorem Wd{r:Nat}(h:AllLt n p):KB n (λr=>AllLt n r.2) (kas_descPart m r p):=KB.bind (λa ha=>by
 split
 ·exact Wc (ha.rev _ _)
 ·exact Wc ha) _ (Ed _ _ _ _ h)
theorem afm{r:Nat}(h:AllLt n p):KB n (λr=>AllLt n r.2) (kas_count r p):=KB.bind (λm _=>by
 split
 ·exact h
 ·split
  ·refine⟨h.at _,h.at _,λb=>?_⟩
   show KB n _ (if b=true then _ else _)
   cases b
   ·exact Wd (h.rev _ _)
   ·exact h
  ·exact Wd h) _ (Kc h _ _)
theorem Ke{k:Nat}(h:AllLt n p):∀f l r,KB n (λ_=>True) (kas_place p k f l r)
 | 0,_,_=>trivial
 | f+1,l,r=>by
  unfold kas_place;split
  ·trivial
  ·refine⟨h.at _,h.at _,λb=>?_⟩
   show KB n _ (if b=true then _ else _)
   cases b
   ·exact Ke h f _ _
   ·exact Ke h f _ _
theorem We:∀(f:Nat) (p:Array Nat) (k:Nat),AllLt n p->KB n (AllLt n) (kas_bin f p k)
 | 0,_,_,h=>h
 | f+1,p,k,h=>KB.bind (λl _=>We f _ _ (h.perm (bubble_perm _ _ _))) _ (Ke h _ _ _)
theorem afn(h:1<=n):KB n (AllLt n) (kas_sort n):=KB.bind (λr hr=>by
 split
 ·exact We _ _ _ hr
 ·exact hr) _ (afm ⟨h,λx hx=>by simpa using hx⟩)
end
theorem afo{ks:List Value}{kv:_Z}{Q:Array Nat->Shared->Prop}(h1:1<=kv.length)(hk:Ec s.heap ks kv)(hb:∀q∈kv,0<=q.2/\q.2<64)(hd:kv.Nodup)
  (h:∀p:Array Nat,p.Perm (List.toArray (List.range kv.length))->(∀i j,i<j->j<kv.length->mX kv (p.getD i 0)<mX kv (p.getD j 0))->Q p s) :
  (kas_sort kv.length).kasWp (kas_ask prog w A (tuples' true) ks) Q s:=by
 have hi:∀i j,i<kv.length->j<kv.length->mX kv i=mX kv j->i=j:=λi j a b e=>by
  unfold mX at e;rw[show kv.getD i (0,0)=kv[i] by simp[a],show kv.getD j (0,0)=kv[j] by simp[b]] at e
  have z1:=hb _ (dU a);have z2:=hb _ (dU b);have e1:(kv[i]).1=(kv[j]).1:=by lia
  have e2:(kv[i]).2=(kv[j]).2:=by lia
  exact(List.getElem_inj hd).mp (qG e1 e2)
 obtain⟨q,e,hp,ha⟩:=afj (key:=mX kv) h1 hi;exact Wb (lt:=klt (mX kv)) (λi j C a b c=>afl hk hb a b c) _ _ (afn h1) (by rw[e];exact h q hp ha)
end _L
namespace _L
open PySem PySem.Spec PyProof.Rows
theorem afp{st:Stmt}{h₀:ExceptHandler}{hs:List ExceptHandler}{t:TS}(hx:X.xe=λ_ _=>False)(hb:PS X st t):PS X (.Try [st] (h₀::hs) [] [] pos) t:=by
 intro pins s σ H D I h;refine wpAny_Try_except (HV (jq (hb pins s σ H D I h) (λf s1 q=>?_) λe s' z=>?_))
 ·cases f with
  | next=>exact zJ (zJ q)
  | ret v=>exact q
  | brk=>exact q
  | cont=>exact q
 ·rw[hx] at z;exact False.elim z
theorem afq{f:Str}{ta:TE}(h:X.K=K)(he:PE X e ta)(hb:attributeBase e f X.env (eval e X.env)=eval e X.env):PE X (.Attribute e f pos) (Dz K ta f):=h▸U6 he hb
section
variable{ps:_A}{qs:List Ak}
structure Kf(T:Int)(q:Ak):Prop where
 f0:0<=q.first
 m0:0<=q.many
 m1:q.many<=16
 fit:q.first+q.many<=T
end
noncomputable abbrev Kg(qual:Str)(scope:Scope)(L f c':Addr)(cl:List (Str×Addr)):Env:=PySem.W.envX qual scope L f (.ref c') cl
noncomputable def AI(X:Cx)(A:Around)(qual:Str)(scope:Scope)(f c':Addr)(cl:List (Str×Addr))(N:List Str)(s:Shared)(H:Hp):Cx where
 prog:=X.prog
 w:=X.w
 K:=X.K
 mg:=X.mg
 base:=X.base
 A:=A.deeper (Kg qual scope s.heap.objs.size f c' cl)
 N:=N
 eX:=s
 uU:=H
 env:=Kg qual scope s.heap.objs.size f c' cl
 outer:=X.stack
 stack:=Kg qual scope s.heap.objs.size f c' cl::X.stack
 ex:=[]
 fn:=λ_=>false
 calm:=X.calm
 pn:=[]
 xe:=λ_ _=>False
structure oN(X:Cx)(scope:Scope)(cl:List (Str×Addr))(ps fs:List Str)(fv:List Nat):Prop where
 qe:closureFor scope X.env=pure cl
 kind:scope.kind = .function
 co:scope.isCoroutine=false
 gen:scope.isGenerator=false
 AJ:∀y∈scope.names,y.2≠.cell
 par:∀y∈ps,scope.names.lookup y=some .local
 sub:∀p∈cl,X.env.cells.lookup p.1=some p.2
 has:∀y∈scope.names,y.2 = .free->∃c,cl.lookup y.1=some c
 free:fv.map (λj=>X.N[j]?)=fs.map some
 fk:∀y∈fs,scope.names.lookup y=some .free/\X.env.scope.names.lookup y=some .cell
 nd:(ps++fs).Nodup
theorem Wf{α:Type}:∀ {l:List (Str×α)} {x:Str} {v:α},(l.map (·.1)).Nodup->(x,v)∈l->l.lookup x=some v
 | (y,u)::r,x,v,nd,hm=>by
  rw[dh,jk] at nd;rcases cV.mp hm with e | e
  ·cases e;simp[List.lookup_cons]
  ·have:x≠y:=λz=>nd.1 (by rw[← z];exact dW.mpr ⟨_,e,rfl⟩)
   rw[wV,k_.mpr this];exact Wf nd.2 e
section
variable{fs:List Str}
noncomputable def tR(σ:St)(vs:_V)(fv:List Nat):St:=vs.map some++fv.map λj=>(σ[j]?).getD none
theorem oN.cell(S:oN X scope cl ps fs fv){x:Str}{c:Addr}(e:cl.lookup x=some c):X.env.cells.lookup x=some c:=S.sub (x,c) (qX e)
theorem afr{us:List Value}{x:Str}(nd:ps.Nodup)(e1:ps[i]? = some x)(e2:us[i]? = some u):(ps.zip us).reverse.lookup x=some u:=by
 have Kh:((ps.zip us).reverse.map (·.1)).Nodup:=by
  rw[List.map_reverse];refine List.pairwise_reverse.mpr (Ho fW (show ((ps.zip us).map (·.1)).Nodup from ?_));have:(ps.zip us).map (·.1)=ps.take us.length:=by
   clear e1 e2 nd
   induction ps generalizing us with
   | nil=>simp
   | cons a r ih=>cases us with
    | nil=>simp
    | cons b q=>simp[ih]
  rw[this];exact nd.sublist (HG _ _)
 have hm:(x,u)∈(ps.zip us).reverse:=by
  rw[List.mem_reverse];refine gz (i:=i) ?_;rw[List.getElem?_zip_eq_some];exact⟨e1,e2⟩
 exact Wf Kh hm
theorem oN.inv(S:oN X scope cl ps fs fv)(I:Inv X pins σ H s)(hA:A.frames=some X.stack)(hd:X.calm=true->A.handled=none){h1:Heap}{us:List Value}(r:Vals vs us)(hl:vs.length=ps.length)
  (old:∀b o,s.heap.get? b=some o->h1.get? b=some o) (oF:h1.Ns s.heap.objs.size λy=>(ps.zip us).reverse.lookup y) :
  Inv (AI X A qual scope f c' cl (ps++fs) s H) [] (tR σ vs fv) H { s with heap:=h1,toks:=tk }:=by
 have I1:Inv X pins σ H { s with heap:=h1,toks:=tk }:=I.kept old;have hlen:fv.length=fs.length:=by simpa using fX List.length S.free
 refine⟨⟨I.ok.mod,S.kind,rfl,rfl,bx _,λx y c e1 e2=>I.ok.inj x y c (S.cell e1) (S.cell e2),λx hx=>?_,λx c z _=>?_,hd,Around.frames_deeper hA,.inr ⟨rfl,rfl⟩,λb z=>absurd (show b∈([]:_A) from z) (by simp),I.bs,cH I.ok.jt I.sz,
  λb _ _ z=>absurd (show b∈([]:_A) from z) (by simp),λb z=>absurd (show b∈([]:_A) from z) (by simp),I.stack,I.Ib⟩,rfl,I.bare,Un.kept old,⟨_,oF,λi x v e1 e2 e3=>?_⟩,λx c e=>?_,I.aO.fresh (bx _),λx c e=>I.n8 x c (S.cell e),
  λp hp=>absurd (show p∈([]:List (Addr×Obj)) from hp) (by simp),I1.aO,?_⟩
 ·have hx:scope.names.lookup x=some .cell\/scope.names.lookup x=some .free:=hx;rcases hx with z | z
  ·exact absurd rfl (S.AJ _ (qX z))
  ·exact S.has _ (qX z) rfl
 ·cases (show false=true from z)
 ·have e1:(ps++fs)[i]? = some x:=e1;unfold tR at e2;by_cases hi:i<ps.length
  ·rw[eU hi] at e1;rw[eU (by simp;lia),jH] at e2
   cases hv:vs[i]? with
   | none=>rw[hv] at e2;simp at e2
   | some v' =>
    rw[hv] at e2;simp only[Option.map_some,Option.some.injEq] at e2;subst e2;obtain⟨u,hu,ru⟩:=r.get hv;exact⟨u,ru,.inl ⟨S.par x (gz e1),afr (List.nodup_append.mp S.nd).1 e1 hu⟩⟩
  ·rw[eV ∅] at e1
   rw[eV (by simp;lia)] at e2
   simp only[List.length_map,List.getElem?_map,hl] at e2;cases hj:fv[i - ps.length]? with
   | none=>rw[hj] at e2;simp at e2
   | some j =>
    rw[hj] at e2;simp only[Option.map_some,Option.some.injEq] at e2;have hN:X.N[j]? = some x:=by
     have q:=fX (λl=>l[i - ps.length]?) S.free;simp only[List.getElem?_map,hj,Option.map_some] at q;rw[e1] at q;exact(eg q)
    have AK:σ[j]? = some (some v):=by
     cases z:σ[j]? with
     | none=>rw[z] at e2;simp at e2
     | some y=>rw[z] at e2;simp at e2;rw[e2]
    obtain⟨f1,f2⟩:=S.fk x (gz e1);obtain⟨m,hn,hlk⟩:=I1.loc;obtain⟨u,ru,lk⟩:=hlk j x v hN AK (.inr (.inl f2));refine⟨u,ru,?_⟩;rcases lk with⟨k,_⟩ | ⟨_,c,ec,hc⟩
    ·have k:X.env.scope.names.lookup x=some .local:=k;rw[f2] at k;cases k
    ·obtain⟨c2,e'⟩:=S.has _ (qX f1) rfl;have:=S.cell e';rw[ec] at this;cases this;exact .inr ⟨.inr f1,c,e',hc⟩
 ·obtain⟨v,z⟩:=I1.cell x c (S.cell e);exact⟨v,z⟩
 ·unfold tR
  show _=(ps++fs).length;simp only[List.length_append,List.length_map];lia
theorem afs{fT:Value}{us:List Value}{Q:VK}(S:oN X scope cl ps fs fv)(I:Inv X pins σ H s)(hA:A.frames=some X.stack)(hd:X.calm=true->A.handled=none)(qg:A.depth<recursionLimit)
  (ho:s.heap.get? f=some (PySem.W.kla_obj name qual params body scope cl pm c' fT)) (fE:s.heap.CodeRec (.ref c') qual)
  (mU:bindArgs (PySem.W.kla_fn name qual params body scope cl pm (.ref c') fT) ⟨us,[]⟩=pure (ps.zip us)) (r:Vals vs us) (hl:vs.length=ps.length)
  (he:PE (AI X A qual scope f c' cl (ps++fs) s H) body te) (h:te (tR σ vs fv) H Q) :
  wpAny (model X.prog X.w) A (call (.ref f) us) (λu s'=>∃v H',Inv X pins σ H' s'/\RelV v u/\Q v H'/\Un (iX X.stack) [] H H' s.heap s'.heap) (λ_ _=>False) s:=by
 refine wpAny_call (PySem.W.kla_callFunE (A:=A) qg ho rfl S.co S.gen rfl fE ?_);rw[mU];refine aP (wpAny_newFunctionEnv S.AJ (λy hy=>S.par _ (CJ hy).1) (λh1 oF Wg=>⟨(I.nolimit).fresh _ Wg,?_⟩) S.kind);have old:∀b o,s.heap.get? b=some o->h1.get? b=some o:=λb o e=>Wg.extBut b o (dj (cR e)) (cU _ e);have J:=S.inv (qual:=qual) (f:=f) (c':=c') (A:=A) (tk:=s.toks+(ps.zip us).length) I hA hd r hl old oF;refine PySem.W.kla_codeExpr (jq (he [] _ _ _ Q J h) (λu s' hq=>?_) λ_ _ z=>False.elim z);obtain⟨v,H',J',rv,q⟩:=hq;exact⟨v,H',I.UG J'.os J'.base J'.aO J'.bare (λ_ z=>nomatch z),rv,q,J'.base⟩
end
noncomputable def tT(c':Addr)(qual:Str):HO:=.ext λh=>h.CodeRec (.ref c') qual
def dF(P:Addr)(pos:Pos)(qual:Str)(H:Hp):Prop:=∃ps,H P=some (.gA ps)/\TriplesOk ps.toList/\(codeAmong pos ps.toList=none\/∃c',codeAmong pos ps.toList=⇑c'/\H c' = some (tT c' qual))
structure bI(mg:Str->Option Value)(base:Heap)(c P:Addr):Prop where
 hd:PySem.W.CodeHd base c P
 bm:∃bm ob,mg "__builtins__" = ⇑bm/\bm≠builtinsNs/\base.get? bm=some ob/\ob.cls = .type "module"/\ob.dict=some builtinsNs/\ob.data = .plain
theorem aft(x:h.CodeRec (.ref c') qual):eG P w H h c' (tT c' qual):=by
 refine⟨x,?_,λh1 h2 y k=>?_⟩
 ·obtain⟨c,o,vs,t,e,g,_⟩:=x;cases e;exact⟨o,g⟩
 ·obtain⟨c,o,vs,t,e,g,r⟩:=y;cases e;exact⟨c',o,vs,t,rfl,k o g,r⟩
theorem afu(x:d8 P w H h)(e:H c' = some (tT c' qual)):h.CodeRec (.ref c') qual:=(x c' _ e).1
theorem Wh{a b:Int}{t u:Tok}{c:Value}:∀ {l:List Value},TriplesOk l->TriplesOk (l++[.int a t,.int b u,c])
 | [],_=>trivial
 | .int _ _::.int _ _::_::r,h=>Wh (l:=r) h
section
variable{M:Model}{firstLine:Nat}{c P:Addr}
theorem afv(B:bI X.mg X.base c P)(xX:X.env.code = .ref c)(vF:closureFor scope X.env=pure cl)(I:Inv X pins σ H s)(hT:dF P pos qual H)
  (h:∀(f c':Addr) (fT pm:Value) (H':Hp) (s':Shared),Inv X ((f,PySem.W.kla_obj name qual params body scope cl pm c' fT)::pins) σ H' s'->SameBut P H H'->dF P pos qual H'->H' c' = some (tT c' qual)->Q (.ref f) s') :
  wpAny M A (makeFunction name qual params (.expr body) scope X.env [] [] [] pos firstLine) Q E s:=by
 obtain⟨ps,hP,tr,hc⟩:=hT;have oP:s.heap.get? P=some (PySem.W.tabObj ps):=I.aO P _ hP;have Kl:s.heap.Ns mainGlobals X.mg:=I.mod.glob.keeps I.bk;obtain⟨bm,ob,b1,b2,b3,b4,b5,b6⟩:=B.bm;have hgP:mainGlobals≠P:=λq=>by
  obtain⟨o,es,ep,e,hd,_⟩:=Kl;rw[q,oP] at e;cases e;cases hd
 have hbP:bm≠P:=λq=>by
  have e:=I.bk _ _ b3;rw[q,oP] at e;cases e;cases b4
 have hbG:bm≠mainGlobals:=λq=>by
  obtain⟨o,es,ep,e,hd,_⟩:=I.mod.glob;rw[q,e] at b3;cases b3;rw[hd] at b6;cases b6
 have Wi:s.heap.BuiltinsAt X.mg P:=⟨bm,ob,b1,b2,hbG,hbP,I.bk _ _ b3,b4,b5,b6⟩;have nf:∀(h1:Heap) (o:Obj),s.heap.objs.size<=h1.objs.size->(h1.push o).get? h1.objs.size=some o->True:=λ_ _ _ _=>trivial;have LP:X.env.locals≠P:=λz=>by rw[← z,I.free] at hP;cases hP
 rcases hc with hc | ⟨c',hc,Wj⟩
 ·refine PySem.W.kla_makeFunction (mg:=X.mg) vF I.ok.glob Kl xX (B.hd.keeps I.bk) oP tr hc hgP Wi λc' fT h1 tk hx Ef cg afw htb=>?_;have nc:H c' = none:=I.aO.fresh Ef;have cP:c'≠P:=λz=>by rw[z,hP] at nc;cases nc
  have kp:∀b o,b≠P->s.heap.get? b=some o->(h1.push (PySem.W.kla_obj name qual params body scope cl ((X.mg "__name__").getD .none) c' fT)).get? b=some o:=λb o hb e=>cU _ (hx b o hb e);have Wk:=cU (PySem.W.kla_obj name qual params body scope cl ((X.mg "__name__").getD .none) c' fT) htb;have xY:∀b u,H b=some u->b≠P->upd (upd H P (.gA (ps ++ #[rawInt pos.line,rawInt pos.col,.ref c']))) c' (tT c' qual) b=some u:=λb u e hb=>by
   rw[aJ (λz=>by rw[z,nc] at e;cases e),aJ hb];exact e
  have I1:Inv X pins σ (upd (upd H P (.gA (ps ++ #[rawInt pos.line,rawInt pos.col,.ref c']))) c' (tT c' qual)) { s with heap:=h1.push (PySem.W.kla_obj name qual params body scope cl ((X.mg "__name__").getD .none) c' fT),toks:=tk }:=by
   refine I.step (g':=s.gens) (d':=s.drawn) (ch:=[]) (λ_ z=>nomatch z) (λb o _ _ _ e n=>kp b o (λz=>by rw[z,hP] at n;cases n) e) (λb o _ _ _ e n=>⟨o.slots,kp b o (λz=>by rw[z,hP] at n;cases n) e⟩) (λb o _ e n=>?_)
    (λb o _ e=>?_) (λb xs e=>xY b _ e (λz=>by rw[z,hP] at e;cases e)) (λb o u e=>xY b _ e (λz=>by rw[z,hP] at e;cases e)) (λb cQ e=>?_) (λm hm=>(hm.extBut hx LP).push _) (λb v e=>?_) I.bare
   ·rw[aJ (λz=>absurd (iw (cR e) Ef) (by rw[z];exact lO _)),aJ (λz=>by rw[z,hP] at n;cases n)];exact n
   ·by_cases hb:b=P
    ·rw[hb];exact⟨_,Wk⟩
    ·exact⟨o,kp b o hb e⟩
   ·by_cases hb:b=P
    ·subst hb;rw[hP] at e;cases e;exact⟨#[rawInt pos.line,rawInt pos.col,.ref c'],by rw[aJ cP.symm,aE]⟩
    ·exact⟨#[],by rw[Array.append_empty];exact xY b _ e hb⟩
   ·by_cases Wl:b=c'
    ·subst Wl;rw[aE] at e;cases e;exact aft (afw.push _)
    ·rw[aJ Wl] at e;by_cases hb:b=P
     ·subst hb;rw[aE] at e;cases e;exact Wk
     ·rw[aJ hb] at e;refine(I.aO b v e).pQ (λd o hd q=>kp d o ?_ q) (λd q=>xY d _ q (λz=>by rw[z,hP] at q;cases q)) (λd xs q=>xY d _ q (λz=>by rw[z,hP] at q;cases q))
      rcases hd with z | z
      ·rw[z];exact hb
      ·exact λy=>by rw[y,hP] at z;cases z
  have of:=gf h1 (o:=PySem.W.kla_obj name qual params body scope cl ((X.mg "__name__").getD .none) c' fT) rfl;have Km:s.heap.objs.size<=h1.objs.size:=by lia
  refine h h1.objs.size c' fT ((X.mg "__name__").getD .none) _ _ (I1.pS λp hp=>?_) ?_ ⟨_,by rw[aJ cP.symm,aE],?_,.inr ⟨c',?_,aE⟩⟩ aE
  ·rcases cV.mp hp with e | hp
   ·rw[e];refine⟨of,?_,λz=>absurd (iw I.lt (by assumption)) (by rw[← z];exact lO _),I.zQ Km,λv z=>by cases z⟩
    show upd (upd H P _) c' _ h1.objs.size=none;rw[aJ (pK cg),aJ (pK (iw (cR oP) Km))];exact I.aO.fresh Km
   ·exact I1.pin p (fU _ hp)
  ·intro b o e hb;exact xY b o e hb
  ·rw[Array.toList_append];exact Wh tr
  ·rw[Array.toList_append];exact codeAmong_snoc _ tr hc
 ·refine PySem.W.kla_makeFunctionHit (mg:=X.mg) vF I.ok.glob Kl xX (B.hd.keeps I.bk) oP tr hc Wi λfT h1 tk hk hsz=>?_;have kp:∀b o,s.heap.get? b=some o->(h1.push (PySem.W.kla_obj name qual params body scope cl ((X.mg "__name__").getD .none) c' fT)).get? b=some o:=λb o e=>cU _ (hk b o e);have I1:=I.kept (t':=tk) kp;have of:=gf h1 (o:=PySem.W.kla_obj name qual params body scope cl ((X.mg "__name__").getD .none) c' fT) rfl;refine h h1.objs.size c' fT ((X.mg "__name__").getD .none) _ _ (I1.pS λp hp=>?_) (λb o e _=>e) ⟨ps,hP,tr,.inr ⟨c',hc,Wj⟩⟩ Wj;rcases cV.mp hp with e | hp
  ·rw[e];exact⟨of,I.aO.fresh hsz,λz=>absurd (iw I.lt (by assumption)) (by rw[← z];exact lO _),I.zQ hsz,λv z=>by cases z⟩
  ·exact I1.pin p (fU _ hp)
end
end _L
namespace _L
open PySem PySem.Spec PyProof.Rows PySem.W
section
theorem afx{r:Addr}{t u v:Tok}(hh:A.handled=none)(hr:IsRange s.heap r 0 (n:Int) 1 t u v)(hn:n<64)(hS:s.heap.get? S=some { cls:=.type "list",data:=.seq #[] })
  (hR:∀(h':Heap) (tk:Nat) (acc:Array Value) (c:Nat),(∀b o,b≠S->s.heap.get? b=some o->h'.get? b=some o)->h'.get? S=some { cls:=.type "list",dict:=none,data:=.seq acc c,slots := #[] }->acc.size=n->(∀(i:Nat) (x:Value),acc[i]? = some x->∃t,x = .int (i:Int) t)->R (.ok (.ret (.ref S))) { s with heap:=h',toks:=tk }) :
  codeAny (model prog w) A (.builtin "list.__iadd__" ⟨[.ref S,.ref r],[]⟩) R s:=by
 refine sP PySem.F.entry_list_iadd ?_;rw[y_ PySem.F.plain_list_iadd _];have en:Builtin.Range.rangeSize 0 (n:Int) 1=((n:Nat):Int):=by rw[rangeSize_one];split <;> lia
 refine wpAny_extend_range hh hr (small_one ∅ ∅ ∅ ∅) en ∅ S (.ref S) _ hS λh' tk acc c hk vG l9=>hR h' tk acc c hk vG l9.1 λi x e=>?_
 obtain⟨t,z⟩:=l9.2 i x e;exact⟨t,by rw[z];congr 1;lia⟩
theorem afy{r:Addr}{t u v:Tok}{Q:List Value->Shared->Prop}(hh:A.handled=none)(hr:IsRange s.heap r 0 (n:Int) 1 t u v)(hn:n<64)
  (hQ:∀(h':Heap) (tk:Nat) (vs:List Value),(∀b o,s.heap.get? b=some o->h'.get? b=some o)->s.heap.objs.size<h'.objs.size->vs.length=n->(∀(i:Nat) (x:Value),vs[i]? = some x->∃t,x = .int (i:Int) t)->Q vs { s with heap:=h',toks:=tk }) :
  wpAny (model prog w) A (collect (.ref r)) Q E s:=by
 unfold collect;refine aH (wpAny_runValue (sP PySem.F.entry_proto_collect ?_));rw[y_ PySem.F.plain_proto_collect _];show wpAny _ A.in1 (newList [] >>= λl=>again (.builtin "list.__iadd__" ⟨[l,.ref r],[]⟩)) _ _ s;refine aH (zL (aP ⟨plainId_quiet PySem.F.plain_list_iadd _,afx hh (cU _ hr) hn (gf _ rfl) λh' tk acc c hk hS l9 ha=>?_⟩))
 show wpAny _ A (load s.heap.objs.size >>= _) _ _ _;refine aH (wpAny_load hS (aP (hQ h' tk acc.toList (λb o e=>hk b o (dj (cR e)) (cU _ e)) (cR hS) ↑l9 λi x e=>ha i x ↑e)))
end
section
theorem Inv.chg{k:Addr}{m:Str->Option Value}(I:Inv X pins σ H s)(hm:s.heap.Ns X.env.locals m)(lF:h'.Ns X.env.locals m)(n:H k=none)(hs:X.eX.heap.objs.size<=k)(hL:k≠X.env.locals)
  (hc:∀x c,X.env.cells.lookup x=some c->c≠k) (hp:∀p∈X.pn++pins,p.1≠k) (ho:∃o,h'.get? k=some o) (kk:∀b o,b≠X.env.locals->b≠k->s.heap.get? b=some o->h'.get? b=some o):Inv X pins σ H { s with heap:=h',toks:=tk }:=by
 have nl:∀b v,H b=some v->b≠X.env.locals:=λb v e z=>by rw[z,I.free] at e;cases e
 have nk:∀b v,H b=some v->b≠k:=λb v e z=>by rw[z,n] at e;cases e
 refine I.step (g':=s.gens) (d':=s.drawn) (ch:=[k]) (λb z=>by rw[fV.mp z];exact⟨.inr hs,hL,hc,hp⟩) (λb o hb _ hk e _=>kk b o hb ↑hk e) (λb o hb _ hk e _=>⟨o.slots,kk b o hb ↑hk e⟩) (λ_ _ _ _ n=>n) (λb o hk e=>?_) (λ_ _ e=>e) (λ_ _ _ e=>e)
  (λb ps e=>⟨#[],by rw[e];simp⟩) (λm' AL=>?_) (λb v e=>(I.aO b v e).pQ (λc o hc e'=>kk c o ?_ ?_ e') (λ_ e=>e) (λ_ _ e=>e)) I.bare
 ·by_cases hb:b=X.env.locals
  ·obtain⟨o',_,_,z,_⟩:=lF;exact⟨o',by rw[hb];exact z⟩
  ·exact⟨o,kk b o hb ↑hk e⟩
 ·have:m' = m:=by
   obtain⟨o1,dQ,JO,g1,d1,k1,z1⟩:=AL;obtain⟨o2,p_,VJ,g2,d2,k2,z2⟩:=hm;rw[g1] at g2;cases g2;rw[d1] at d2;cases d2
   funext x
   rw[← z1 x,← z2 x]
  rw[this];exact lF
 ·rcases hc with z | z
  ·rw[z];exact nl b v e
  ·exact nl c _ z
 ·rcases hc with z | z
  ·rw[z];exact nk b v e
  ·exact nk c _ z
theorem Inv.afz{k:Addr}{xs:_V}{m:Str->Option Value}(I:Inv X pins σ H s)(hm:s.heap.Ns X.env.locals m)(lF:h'.Ns X.env.locals m)(nk:H k=none)(nD:H D=none)
  (two:∀b,b=k\/b=D->X.eX.heap.objs.size<=b/\b≠X.env.locals/\(∀x c,X.env.cells.lookup x=some c->c≠b)/\∀p∈X.pn++pins,p.1≠b)
  (kk:∀b o,b≠X.env.locals->b≠k->b≠D->s.heap.get? b=some o->h'.get? b=some o) (new:eG X.prog X.w (upd H D (.lst xs)) h' D (.lst xs)):Inv X pins σ (upd H D (.lst xs)) { s with heap:=h',toks:=tk }:=by
 have nl:∀b v,H b=some v->b≠X.env.locals:=λb v e z=>by rw[z,I.free] at e;cases e
 have n1:∀b v,H b=some v->b≠k:=λb v e z=>by rw[z,nk] at e;cases e
 have n2:∀b v,H b=some v->b≠D:=λb v e z=>by rw[z,nD] at e;cases e
 have up:∀b v,H b=some v->upd H D (.lst xs) b=some v:=λb v e=>by rw[aJ (n2 b v e)];exact e
 have mem:∀b,b∉[k,D]->b≠k/\b≠D:=λb h=>⟨λz=>h (by rw[z];exact .head _),λz=>h (by rw[z];exact .tail _ (.head _))⟩
 refine I.step (g':=s.gens) (d':=s.drawn) (ch:=[k,D]) (λb z=>?_) (λb o hb _ hk e _=>kk b o hb (mem b hk).1 (mem b hk).2 e) (λb o hb _ hk e _=>⟨o.slots,kk b o hb (mem b hk).1 (mem b hk).2 e⟩) (λb o hk _ n=>by rw[aJ (mem b hk).2];exact n) (λb o hk e=>?_) (λb xs e=>up b _ e) (λb o u e=>up b _ e)
  (λb ps e=>⟨#[],by rw[up b _ e];simp⟩) (λm' AL=>?_) (λb v e=>?_) I.bare
 ·have:b=k\/b=D:=by
   rcases cV.mp z with q | q
   ·exact .inl q
   ·exact .inr (fV.mp q)
  obtain⟨a1,a2,a3,a4⟩:=two b this;exact⟨.inr a1,a2,a3,a4⟩
 ·by_cases hb:b=X.env.locals
  ·obtain⟨o',_,_,z,_⟩:=lF;exact⟨o',by rw[hb];exact z⟩
  ·exact⟨o,kk b o hb (mem b hk).1 (mem b hk).2 e⟩
 ·have:m' = m:=by
   obtain⟨o1,dQ,JO,g1,d1,k1,z1⟩:=AL;obtain⟨o2,p_,VJ,g2,d2,k2,z2⟩:=hm;rw[g1] at g2;cases g2;rw[d1] at d2;cases d2
   funext x
   rw[← z1 x,← z2 x]
  rw[this];exact lF
 ·by_cases hb:b=D
  ·subst hb;rw[aE] at e;cases e;exact new
  ·rw[aJ hb] at e;refine(I.aO b v e).pQ (λc o hc e'=>?_) (λd e=>up d _ e) (λd xs e=>up d _ e);have q:∃v',H c=some v':=by
    rcases hc with z | z
    ·rw[z];exact⟨_,e⟩
    ·exact⟨_,z⟩
   obtain⟨v',q⟩:=q;exact kk c o (nl c _ q) (n1 c _ q) (n2 c _ q) e'
structure Ko(X:Cx)(pins:List (Addr×Obj))(σ:St)(H1:Hp)(P:Addr)(pos:Pos)(qual:Str)(m:Str->Option Value)(kS:Addr)(kv:Nat->Int×Int)(ks:List Value)(e:Nat)(H:Hp)(s:Shared):Prop where
 I:Inv X ((kS,seqObj "list" ks.toArray e)::pins) σ H s
 ns:s.heap.Ns X.env.locals m
 sb:SameBut P H1 H
 tab:dF P pos qual H
 ky:∀(i:Nat) (hi:i<ks.length),∃a,ks[i] = .ref a/\H a=some (.tup [.int (kv i).1,.int (kv i).2])
variable{fs:List Str}{P kS:Addr}{fT:Value}{kv:Nat->Int×Int}{m:Str->Option Value}
theorem Wm(S:oN X scope cl ps fs fv)(xZ:ps.length=1)(he:∀s H,PE (AI X A qual scope f c' cl (ps++fs) s H) body te)(hA:A.frames=some X.stack)(hd:X.calm=true->A.handled=none)(qg:A.depth<recursionLimit)(iC:X.stack=X.env::X.outer)(tU:X.env.frame=some X.env.locals)
  (hex:X.ex = []) (hf:(f,kla_obj name qual params body scope cl pm c' fT)∈pins) (hc:H1 c' = some (tT c' qual)) (x6:c'≠P) (mU:∀u,bindArgs (kla_fn name qual params body scope cl pm (.ref c') fT) ⟨[u],[]⟩=pure (ps.zip [u]))
  (tD:∀(j:Nat) (H:Hp),j<n->SameBut P H1 H->dF P pos qual H->te (tR σ [.int (j:Int)] fv) H λv H'=>∃a,v = .ref a/\H a=none/\H' = upd H a (.tup [.int (kv j).1,.int (kv j).2]))
  (lo:X.eX.heap.objs.size<=kS) (Eg:kS≠X.env.locals) (Eh:∀x c,X.env.cells.lookup x=some c->c≠kS) (Wn:∀p∈X.pn++pins,p.1≠kS)
  {Fin:List Value->Nat->Shared->Prop} (Wo:∀ks e H s,Ko X pins σ H1 P pos qual m kS kv ks e H s->ks.length=n->Fin ks e s) :
  ∀(r ks:List Value) (e:Nat) (H:Hp) (s:Shared),ks.length+r.length=n->(∀(i:Nat) (x:Value),r[i]? = some x->∃t,x = .int ((ks.length+i:Nat):Int) t)->Ko X pins σ H1 P pos qual m kS kv ks e H s->KatKeys X.prog X.w A X.base X.env.locals m kS (.ref f) Fin r ks e s
 | [],ks,e,H,s,hl,_,K=>KatKeys.nil (Wo ks e H s K ↑hl)
 | x::r,ks,e,H,s,hl,hi,K=>by
  rw[fH] at hl;obtain⟨t,rfl⟩:=hi 0 x rfl;have pf:=K.I.pin _ (fU _ (cy _ hf));have pk:=K.I.pin (kS,seqObj "list" ks.toArray e) (fU _ (cL ..));have xX:s.heap.CodeRec (.ref c') qual:=afu K.I.aO (K.sb _ _ hc x6);have hx:=tD ks.length H ∅ K.sb K.tab
  refine KatKeys.cons (jq (afs (us:=[.int ((ks.length+0:Nat):Int) t]) (vs:=[.int (ks.length:Int)]) S K.I hA hd qg pf.1 xX (mU _) (.cons ⟨t,by simp⟩ .nil) ↑xZ.symm (he s H) hx) (λu s' hq=>?_) λ_ _ z=>z)
  obtain⟨v,H',J,rv,⟨a,rfl,na,rfl⟩,un⟩:=hq;cases rv;have mV:s'.heap.Ns X.env.locals m:=by
   obtain⟨o,es,ep,eo,gM,r'⟩:=K.ns;have mem:X.env.locals∈iX X.stack:=by unfold iX;rw[iC,List.filterMap_cons,tU];exact List.mem_cons_self ..
   obtain⟨sl,q⟩:=un.slot _ o eo K.I.free mem (by simp)
   exact⟨_,es,ep,q,gM,r'⟩
  have bk:X.base.get? kS=none:=Cp (cH K.I.ok.jt lo);have Ei:=J.pin (kS,seqObj "list" ks.toArray e) (fU _ (cL ..));refine KatBack.intro (news:=(kS,seqObj "list" ks.toArray e)::rest X.base s'.heap X.env.locals kS) (g:=λo=>(kS,o)::rest X.base s'.heap X.env.locals kS) ⟨mV,J.bk,cH J.ok.jt J.ok.above⟩ (news_at Eg bk Ei.1) (.head Dd) λh2 c2 F2 N2=>?_;have kept:=De (d:=kS) J.bk F2 λp hp=>N2 p (cy _ hp);have rA:=(N2 _ (cL ..)).1;have J1:Inv X pins σ (upd H a (.tup [.int (kv ks.length).1,.int (kv ks.length).2])) s':=J.pS λp hp=>J.pin p (fU _ (cy _ hp));have J2:=J1.chg (tk:=s'.toks) mV F2.ns Ei.2.1 lo Eg Eh Wn ⟨_,rA⟩ λb o hb hk e=>kept b o hb hk e;have afA:∀v,(seqObj "list" (ks++[Value.ref a]).toArray c2).data≠.cell v:=λv z=>by cases z
  refine Wm S xZ he hA hd qg iC tU hex hf hc x6 mU tD lo Eg Eh Wn Wo r (ks++[.ref a]) c2 _ { s' with heap:=h2 } (by simp;lia) (λi x e=>?_) ⟨J2.pS λp hp=>?_,F2.ns,?_,?_,λi fS=>?_⟩
  ·obtain⟨t',z⟩:=hi (i+1) x ↑e
   exact⟨t',by rw[z];congr 1;simp;lia⟩
  ·rcases cV.mp hp with q | q
   ·rw[q];exact⟨rA,Ei.2.1,Eg,Ei.2.2.2.1,afA⟩
   ·exact J2.pin p (fU _ q)
  ·intro b o e hb;have:=K.sb b o e hb;rw[aJ (λz=>by rw[z,na] at this;cases this)];exact this
  ·obtain⟨cQ,e1,e2,e3⟩:=K.tab;refine⟨cQ,by rw[aJ (λz=>by rw[z,na] at e1;cases e1)];exact e1,e2,e3.imp id λ⟨c2,z1,z2⟩=>⟨c2,z1,by rw[aJ (λz=>by rw[z,na] at z2;cases z2)];exact z2⟩⟩
  ·by_cases cg:i<ks.length
   ·obtain⟨a',z1,z2⟩:=K.ky i cg;exact⟨a',by rw[List.getElem_append_left cg];exact z1,by rw[aJ (λz=>by rw[z,na] at z2;cases z2)];exact z2⟩
   ·have e:i=ks.length:=by simp at fS;lia
    subst e;exact⟨a,by simp,aE⟩
theorem Wq{h:Heap}:∀ {ks:List Value} {AM:_Z},Ec h ks AM->∃fs,KatTups h ks fs/\fs.length=ks.length/\∀v∈fs,∃d t,v = .int d t
 | [],AM,_=>⟨[],trivial,rfl,λv z=>nomatch z⟩
 | k::ks,[],p=>absurd p.1 (by simp)
 | k::ks,q::AM,p=>by
  obtain⟨a,ea,o,t,u,n,e1,e2,e3⟩:=p.2 0 (by simp)
  have ea:k = .ref a:=by simpa using ea
  subst ea;obtain⟨fs,h1,h2,h3⟩:=Wq (ks:=ks) (AM:=AM) ⟨by have:=p.1;simpa using this,λi hi=>by
   obtain⟨b,z1,z2⟩:=p.2 (i+1) ↑hi
   exact⟨b,↑z1,↑z2⟩⟩
  refine⟨.int _ t::fs,.cons e1 e2 e3 rfl h1,by simp[h2],λv hv=>?_⟩
  rcases cV.mp hv with z | z
  ·exact⟨_,_,z⟩
  ·exact h3 v z
def oO(kv:Nat->Int×Int)(n:Nat)(is:List Nat):Prop:=is.Perm (List.range n)/\∀i j,i<j->j<n->(kv (is.getD i 0)).1*64+(kv (is.getD i 0)).2<(kv (is.getD j 0)).1*64+(kv (is.getD j 0)).2
theorem afB{Q:VK}{rg:Addr}{t u v:Tok}(S:oN X scope cl ps fs fv)(xZ:ps.length=1)(he:∀s H,PE (AI X X.A.in1.in1 qual scope f c' cl (ps++fs) s H) body te)(Kq:X.calm=true)(qg:X.A.in1.in1.depth<recursionLimit)(iC:X.stack=X.env::X.outer)(tU:X.env.frame=some X.env.locals)
  (hex:X.ex = []) (I:Inv X ((f,kla_obj name qual params body scope cl pm c' fT)::pins) σ H s) (hc:H c' = some (tT c' qual)) (x6:c'≠P) (tab:dF P pos qual H) (mU:∀u,bindArgs (kla_fn name qual params body scope cl pm (.ref c') fT) ⟨[u],[]⟩=pure (ps.zip [u]))
  (hr:IsRange s.heap rg 0 (n:Int) 1 t u v) (h2:2<=n) (l8:n<64) (hb:∀j,j<n->0<=(kv j).2/\(kv j).2<64) (Kr:∀i j,i<n->j<n->kv i=kv j->i=j)
  (tD:∀(j:Nat) (H2:Hp),j<n->SameBut P H H2->dF P pos qual H2->te (tR σ [.int (j:Int)] fv) H2 λv H'=>∃a,v = .ref a/\H2 a=none/\H' = upd H2 a (.tup [.int (kv j).1,.int (kv j).2]))
  (q:∀(D:Addr) (is:List Nat) (H':Hp),SameBut P H H'->dF P pos qual H'->H D=none->H' D=none->oO kv n is->Q (.ref D) (upd H' D (.lst (is.map λ(i:Nat)=>V.int (i:Int))))) :
  wpAny (model X.prog X.w) X.A (call (.builtin "sorted") [.ref rg] [(Str.ofString "key",.ref f)]) (EP X pins σ Q) X.xe s:=by
 have Wr:=I.ok.hd Kq;refine call_function_entry_kw kind_sorted plain_sorted entry_sorted (ksk_s1 _ _) ?_;unfold Builtin.«sorted»;refine aH (m:=checkCount "sorted" 1 1 _) (aP ?_);refine aH (afy (A:=X.A.in1) Wr hr l8 λh1 AN vs k1 sz len items=>?_);refine aH (wpAny_newList ?_ (by rw[sR];lia))
 obtain⟨m,hm,aqo⟩:=I.loc;have oD:(h1.push (seqObj "list" vs.toArray 0)).get? h1.objs.size=some (seqObj "list" vs.toArray 0):=gf _ rfl;have k2:∀b o,s.heap.get? b=some o->(h1.push (seqObj "list" vs.toArray 0)).get? b=some o:=λb o e=>cU _ (k1 b o e);have I1:=I.kept (t':=AN) k2;have Ej:X.eX.heap.objs.size<=h1.objs.size:=cH I.sz (kZ sz);have DL:h1.objs.size≠X.env.locals:=pK (jJ I.lt sz);have nD:H h1.objs.size=none:=I.aO.fresh (kZ sz);have old:∀b o,s.heap.get? b=some o->b<h1.objs.size:=λb o e=>jJ (cR e) sz;have bD:X.base.get? h1.objs.size=none:=Cp (cH I.ok.jt Ej);have rB:(h1.push (seqObj "list" vs.toArray 0)).Ns X.env.locals m:=hm.keeps k2;have above:X.base.objs.size<=X.env.locals:=cH I.ok.jt I.ok.above
 show wpAny _ _ _ _ _ { s with heap:=h1.push (seqObj "list" vs.toArray 0),toks:=AN };refine aH (mJ (wpAny_call_entry_kw slot_list_sort ⟨_,oD,rfl⟩ entry_list_sort ?body (ksk_l1 _ _)))
 case body =>
  show wpAny (model X.prog X.w) X.A.in1.in1 (Builtin.«list.sort» ⟨[.ref h1.objs.size],[(Str.ofString "key",.ref f)]⟩) _ _ _;rw[ksk_t1];refine kat_keyed (s:={ s with heap:=h1.push (seqObj "list" vs.toArray 0),toks:=AN }) (h₀:=X.base) (L:=X.env.locals) (m:=m) (news:=rest X.base (h1.push (seqObj "list" vs.toArray 0)) X.env.locals h1.objs.size) ⟨rB,I1.bk,above⟩ (λp hp=>H_ p (cY.mp hp).1) oD DL bD Dd ∅ ∅ λkS e1 h' F' N' l0 l1=>?_
  have afC:=De (d:=h1.objs.size) I1.bk F' λp hp=>N' p (cy _ (cy _ hp));have okS:=N' _ (cL ..);have Ws:=N' _ (cy _ (cL ..));have Ks:X.eX.heap.objs.size<=kS:=cH Ej (kZ l0);have Ek:∀x c,X.env.cells.lookup x=some c->c<h1.objs.size:=λx c e=>by
   obtain⟨v,o,z,_⟩:=I.cell x c e;exact old _ _ z
  have El:∀p∈X.pn++((f,kla_obj name qual params body scope cl pm c' fT)::pins),p.1<h1.objs.size:=λp hp=>old _ _ (I.pin p hp).1;have Wt:X.env.locals<h1.objs.size:=jJ I.lt sz;have I2:=I1.chg (tk:=AN) rB F'.ns nD Ej DL (λx c e=>dj (Ek x c e)) (λp hp=>dj (El p hp)) ⟨_,Ws.1⟩ afC;have nS:H kS=none:=I.aO.fresh (kZ (jJ sz l0));have Wu:∀b,s.heap.objs.size<=b->b∉X.fs:=λb hb=>I.zQ hb;have Wv:∀(a:Array Value) (e:Nat) v,(seqObj "list" a e).data≠.cell v:=λa e v z=>by cases z
  have K0:Ko X ((h1.objs.size,seqObj "list" #[] e1)::(f,kla_obj name qual params body scope cl pm c' fT)::pins) σ H P pos qual m kS kv [] 0 H { s with heap:=h',toks:=AN }:=by
   refine⟨I2.pS λp hp=>?_,F'.ns,λb o e _=>e,tab,λi hi=>absurd hi (by simp)⟩
   rcases cV.mp hp with z | hp
   ·rw[z];exact⟨okS.1,nS,pK (jJ Wt l0),Wu _ (kZ (jJ sz l0)),Wv _ _⟩
   ·rcases cV.mp hp with z | hp
    ·rw[z];exact⟨Ws.1,nD,DL,Wu _ (kZ sz),Wv _ _⟩
    ·exact I2.pin p (fU _ hp)
  have afD:∀p∈X.pn++((h1.objs.size,seqObj "list" #[] e1)::(f,kla_obj name qual params body scope cl pm c' fT)::pins),p.1≠kS:=λp hp=>by
   rcases fB.mp hp with hp | hp
   ·exact dj (jJ (El p (uI _ hp)) l0)
   ·rcases cV.mp hp with z | hp
    ·rw[z];exact dj l0
    ·exact dj (jJ (El p (fU _ hp)) l0)
  have SL:kS≠X.env.locals:=pK (jJ Wt l0);refine Wm (n:=n) (pins:=(h1.objs.size,seqObj "list" #[] e1)::(f,kla_obj name qual params body scope cl pm c' fT)::pins) S xZ he I.ok.frames (λ_=>Wr) qg iC tU hex (cy _ (cL ..)) hc x6 mU tD Ks SL
   (λx c e=>dj (jJ (Ek x c e) l0)) afD (λks e H3 s3 K hl=>?_) vs [] 0 H _ ↑len (λi x e=>by simpa using items i x e) K0
  have Ww:Ec s3.heap ks ((List.range n).map kv):=by
   refine⟨by simp[hl],λi hi=>?_⟩
   have fS:i<ks.length:=by simp at hi;lia
   obtain⟨a,z1,z2⟩:=K.ky i fS;obtain⟨aC,r1,q1,_⟩:=K.I.tuple (aK.of (K:=X.K) z2);cases r1 with
   | cons w1 r1 =>
   cases r1 with
   | cons w2 r1 =>
   cases r1;obtain⟨t1,rfl⟩:=w1;obtain⟨t2,rfl⟩:=w2;obtain⟨o,e1,e2,n1,e3⟩:=q1;exact⟨a,by simp[fS,z1],o,t1,t2,n1,e1,e2,↑e3⟩
  obtain⟨Ur,t1,t2,t3⟩:=Wq Ww;refine kat_kind (T:=.type "int") t1 ∅ (λv hv=>?_) ⋯ ?_
  ·obtain⟨d,tt,rfl⟩:=t3 v hv;exact .now
  ·rw[show (Value.type "int" != Value.type "tuple")=true by decide]
   show (kas_sort vs.length).kasWp (kas_ask X.prog X.w X.A.in1.in1 (tuples' true) ks) _ s3;rw[len,show n=((List.range n).map kv).length by simp]
   refine afo (by simp;lia) Ww (λq' hq=>?_) ?_ λp hp afE=>?_
   ·obtain⟨j,hj,rfl⟩:=dW.mp hq;exact hb j (fJ.mp hj)
   ·rw[wW,qC];exact List.Pairwise.imp_of_mem (λha kH gm heq=>gm (Kr _ _ (fJ.mp ha) (fJ.mp kH) heq)) CI
   ·have bS:X.base.get? kS=none:=Cp (cH I.ok.jt Ks);have pk:=K.I.pin (kS,seqObj "list" ks.toArray e) (fU _ (cL ..));have pd:=K.I.pin (h1.objs.size,seqObj "list" #[] e1) (fU _ (cy _ (cL ..)));refine KatFin.intro (news:=(kS,seqObj "list" ks.toArray e)::rest X.base s3.heap X.env.locals kS) (g:=λo=>(kS,o)::rest X.base s3.heap X.env.locals kS) ⟨K.ns,K.I.bk,above⟩ (news_at SL bS pk.1) (.head Dd) λh4 c4 F4 N4=>?_;have Wx:=De (d:=kS) K.I.bk F4 λp hp=>N4 p (cy _ hp);have oD4:=Wx _ _ DL (dj l0) pd.1;refine KasFin.intro (news:=(h1.objs.size,seqObj "list" #[] e1)::rest X.base h4 X.env.locals h1.objs.size) (g:=λo=>(h1.objs.size,o)::rest X.base h4 X.env.locals h1.objs.size) F4 (news_at DL bD oD4) (.head Dd) λh5 c5 F5 N5=>?_;have bk4:∀b o,X.base.get? b=some o->h4.get? b=some o:=F4.keep;have afF:=De (d:=h1.objs.size) bk4 F5 λp hp=>N5 p (cy _ hp);have oD5:=(N5 _ (cL ..)).1;refine⟨_,rfl,aP ⟨_,rfl,?_⟩⟩;have Ku:p.toList.Perm (List.range n):=by
     have:=hp.toList;simpa using this
    have Wy:∀i∈p.toList,i<n:=λi hi=>fJ.mp (Ku.mem_iff.mp hi);have isL:p.toList.length=n:=by simpa using Ku.length_eq
    have gd:∀i,i<n->p.getD i 0=p.toList.getD i 0/\p.toList.getD i 0<n:=λi hi=>by
     have eE:i<p.toList.length:=by lia
     have e:p.toList.getD i 0=p.toList[i]:=by rw[jG,aV eE];rfl
     exact⟨by rw[sF,jG,sG],by rw[e];exact Wy _ (dU eE)⟩
    have Wz:∀k,k<n->mX ((List.range n).map kv) k=(kv k).1*64+(kv k).2:=λk hk=>by
     unfold mX;have:((List.range n).map kv).getD k (0,0)=kv k:=by simp[hk]
     rw[this]
    have asc:oO kv n p.toList:=⟨Ku,λi j h1 h2=>by
     have:=afE i j h1 ↑h2
     rw[(gd i ∅).1,(gd j h2).1,Wz _ (gd i ∅).2,Wz _ (gd j h2).2] at this
     exact this⟩
    have vals:∀l:List Nat,(∀i∈l,i<n)->Vals (l.map λ(i:Nat)=>V.int (i:Int)) (l.map λi=>vs.getD i Value.none):=by
     intro l
     induction l with
     | nil=>intro _;exact .nil
     | cons i l ih =>
      intro pZ;have hi:i<vs.length:=by rw[len];exact pZ i (cL ..)
      obtain⟨t5,e5⟩:=items i vs[i] (aV hi);refine .cons ⟨t5,?_⟩ (ih λk hk=>pZ k (cy _ hk));rw[← e5];simp[hi]
    refine⟨.ref h1.objs.size,_,(K.I.pS (Ic:=pins) λp hp=>K.I.pin p (fU _ (cy _ (cy _ (cy _ hp))))).afz (tk:=s3.toks) (xs:=p.toList.map λ(i:Nat)=>V.int (i:Int)) K.ns F5.ns pk.2.1 pd.2.1 (λb rC=>?_)
     (λb o hL hS hD e=>afF b o hL hD (Wx b o hL hS e)) ⟨by rw[aM,isL,sR];lia,_,c5,vals p.toList Wy,oD5⟩,rfl,q _ p.toList H3 K.sb K.tab nD pd.2.1 asc⟩
    have sub:∀p∈X.pn++pins,p.1<h1.objs.size:=λp hp=>El p (by
     rcases fB.mp hp with z | z
     ·exact uI _ z
     ·exact fU _ (cy _ z))
    rcases rC with z | z
    ·rw[z];exact⟨Ks,SL,λx c e=>dj (jJ (Ek x c e) l0),λp hp=>dj (jJ (sub p hp) l0)⟩
    ·rw[z];exact⟨Ej,DL,λx c e=>dj (Ek x c e),λp hp=>dj (sub p hp)⟩
theorem SameBut.trans{x:Addr}(a:SameBut x H H1)(b:SameBut x H1 H2):SameBut x H H2:=λc o e h=>b c o (a c o e h) h
def WA(P:Addr)(pos:Pos)(qual:Str)(te:TE)(fv:List Nat)(ta:TA):TE:=λσ H Q=>ta σ H λvs H1=>∃(n:Nat) (kv:Nat->Int×Int),vs = [.int (n:Int)]/\2<=n/\n<64/\(∀j,j<n->0<=(kv j).2/\(kv j).2<64)/\(∀i j,i<n->j<n->kv i=kv j->i=j)/\dF P pos qual H1/\
 (∀(j:Nat) (H2:Hp),j<n->SameBut P H1 H2->dF P pos qual H2->te (tR σ [.int (j:Int)] fv) H2 λv H'=>∃a,v = .ref a/\H2 a=none/\H' = upd H2 a (.tup [.int (kv j).1,.int (kv j).2]))/\
 ∀(D:Addr) (is:List Nat) (H':Hp),SameBut P H1 H'->dF P pos qual H'->H1 D=none->H' D=none->oO kv n is->Q (.ref D) (upd H' D (.lst (is.map λ(i:Nat)=>V.int (i:Int))))
theorem afG{c:Addr}{ta:TA}{p1 p3 p4 kp:Pos}(Kv:Gl X "sorted")(Kw:X.mg "sorted" = none)(hgR:Gl X "range")(hmR:X.mg "range" = none)(B:bI X.mg X.base c P)(xX:X.env.code = .ref c)(S:oN X scope cl ps fs fv)(xZ:ps.length=1)
  (afH:defaultsOf params X.env=([],[])) (hq:X.env.qual ++ "<lambda>" = qual) (mU:∀c' pm fT u,bindArgs (kla_fn "<lambda>" qual params body scope cl pm (.ref c') fT) ⟨[u],[]⟩=pure (ps.zip [u]))
  (he:∀f c' s H,PE (AI X X.A.in1.in1 qual scope f c' cl (ps++fs) s H) body te) (Kq:X.calm=true) (qg:X.A.in1.in1.depth<recursionLimit) (iC:X.stack=X.env::X.outer) (tU:X.env.frame=some X.env.locals) (hex:X.ex = []) (ha:PA X [e] ta)
  (hs:starEach [e] X.env = [(false,eval e X.env)]:=by rfl) (gC:starEach [.Call (.Name "range" p2) [e] [] p3] X.env = [(false,eval (.Call (.Name "range" p2) [e] [] p3) X.env)]:=by rfl) :
  PE X (.Call (.Name "sorted" p1) [.Call (.Name "range" p2) [e] [] p3] [⟨some "key",.Lambda params body scope pos,kp⟩] p4) (WA P pos qual te fv ta):=by
 intro pins s σ H Q I h;refine w6 (pT I Kv Kw C3 (callWith_kw ?_));rw[gC];refine wJ ?_;refine Call_ (pT I hgR hmR boot_range (wZ (aW (ha p3 pins s σ H _ I h) λus s1 ⟨vs,H1,I1,r1,q1⟩=>?_) (by rw[hs];rfl) (by rfl)))
 obtain⟨n,kv,e,h2,l8,hb,Kr,tab,tD,q⟩:=q1;subst e;obtain⟨u,rfl,ru⟩:=vals1 r1;obtain⟨t,rfl⟩:=ru;refine call_range_1 ?_;refine zd ?_;refine kws_cons (kla_eval afH ?_);rw[hq];have k1:∀b o,s1.heap.get? b=some o->(s1.heap.push { cls:=.type "range",data:=.fields #[.int 0 s1.toks,.int (n:Int) t,.int 1 (s1.toks+1)] }).get? b=some o:=λb o e=>cU _ e;have I2:Inv X ((s1.heap.objs.size,{ cls:=.type "range",data:=.fields #[.int 0 s1.toks,.int (n:Int) t,.int 1 (s1.toks+1)] })::pins) σ H1 { s1 with heap:=s1.heap.push { cls:=.type "range",data:=.fields #[.int 0 s1.toks,.int (n:Int) t,.int 1 (s1.toks+1)] },toks:=s1.toks+1+1 }:=by
  refine(I1.kept k1).pS λp hp=>?_;rcases cV.mp hp with z | hp
  ·rw[z];exact⟨gf _ rfl,I1.aO.fresh (bx _),pK I1.lt,I1.zQ (bx _),λv z=>by cases z⟩
  ·exact(I1.kept (t':=s1.toks+1+1) k1).pin p (fU _ hp)
 refine afv B xX S.qe I2 tab λf c' fT pm H' s' J sb x_ hc=>kws_nil ?_;have x6:c'≠P:=by
  obtain⟨cQ,z,_⟩:=x_;exact iy hc z (by intro y;cases y)
 refine jq (afB (n:=n) (kv:=kv) S xZ (he f c') Kq qg iC tU hex J hc x6 x_ (mU c' pm fT) (J.pin _ (fU _ (cy _ (cL ..)))).1 h2 l8 hb Kr (λj H2 hj l_ Ky=>tD j H2 hj (sb.trans l_) Ky)
  (λD is H2 l_ Ky n1 n2 ho=>q D is H2 (sb.trans l_) Ky ?_ n2 ho)) (λv xD z=>?_) (λ_ _ z=>z)
 ·cases z:H1 D with
  | none=>rfl
  | some o =>
   by_cases hD:D=P
   ·obtain⟨cQ,z2,_⟩:=x_;rw[hD,z2] at n1;cases n1
   ·rw[sb _ _ z hD] at n1;cases n1
 ·obtain⟨v',H'',K,rv,qv⟩:=z;exact⟨v',H'',K.pS λp hp=>K.pin p (fU _ (cy _ hp)),rv,qv⟩
end
theorem afI{mb:Str->Option Value}{k:Nat}{x:Str}{bC:Shared}{vs:List Value}{ns:_I}{tabs:List (Addr×Addr)}
  (KX:K.In bC.heap) (oF:bC.heap.Ns mainGlobals mg) (hb:bC.heap.Ns builtinsNs mb) (JI:∀x:Str,x≠"__name__"->mb x=bootBuiltins x) (JJ:bC.heap.NoLimit) (hg:bC.gens = #[])
  (ha:bC.heap.get? a=some { cls:=.type "list",data:=.seq vs.toArray }) (hi:IntsAre vs ns) (hl:ns.length<=sizeLine) (hr:d9 k callerA)
  (hT:TabsAt tabs bC.heap) (AO:noTabs K=true) (bm:∃bm ob,mg "__builtins__" = ⇑bm/\bm≠builtinsNs/\bC.heap.get? bm=some ob/\ob.cls = .type "module"/\ob.dict=some builtinsNs/\ob.data = .plain)
  (F:∀base:Heap,K.In base->base.Ns mainGlobals mg->(∀q∈tabs,bI mg base q.1 q.2)->bq P w K mg base bF k fa fd [x] sp) (mU:∀(s:Shared) (u:Value),BindsTo s fd ⟨[u],[]⟩ [(x,u)])
  (eB:∀H:Hp,(∀q∈tabs,H q.2=some (.gA #[]))->aA K H a (ns.map V.int)->sp [.ref a] H (λv _=>v = .bl true) λ_ _ _=>False) :
  codeAny (model P w) callerA (.call (.ref fa) ⟨[.ref a],[]⟩) (λr s'=>r = .ok (.ret (.bool true))/\OldK bC.heap s'.heap/\s'.os=bC.os/\AllBare s'.gens) bC:=by
 have rv:=Av hi;have JL:=hi.length;have vH:∀b,b∈tabs.map (·.2)->bC.heap.get? b=some (tabObj #[])/\isCodeTable bC.heap b:=λb hb=>by
  obtain⟨q,hq,rfl⟩:=dW.mp hb;exact⟨(hT q hq).2,((hT q hq).1.tab (hT q hq).2).isCodeTable⟩
 have aT:a∉tabs.map (·.2):=λhb=>by
  have:=(vH a hb).1;rw[ha] at this;cases this
 have core:∀H:Hp,(∀b u,H b=some u->(b=a/\∃o xs,u = .jL o (.lst xs))\/(b∈tabs.map (·.2)/\u = .gA #[]))->(∀q∈tabs,H q.2=some (.gA #[]))->aA K H a (ns.map V.int)->d8 P w H bC.heap->(H a≠none->K.lookup a=none)->
   codeAny (model P w) callerA (.call (.ref fa) ⟨[.ref a],[]⟩) (λr s'=>r = .ok (.ret (.bool true))/\OldK bC.heap s'.heap/\s'.os=bC.os/\AllBare s'.gens) bC:=by
  intro H hO AQ hS aO hK;have vv:∀ {b:Addr} {o:Obj},bC.heap.get? b=some o->H b=none->(ki bC.heap H).get? b=some o:=λe n=>Uu e n;have free:∀ {b:Addr} {o:Obj},bC.heap.get? b=some o->(b≠a)->o≠tabObj #[]->H b=none:=λ{b o} e n1 n2=>by
   cases q:H b with
   | none=>rfl
   | some u =>
    rcases hO b u q with⟨z,_⟩ | ⟨z,_⟩
    ·exact absurd z n1
    ·have:=(vH b z).1;rw[e] at this;exact absurd (eg this) n2
  have WB:∀ {b:Addr} {o:Obj},bC.heap.get? b=some o->o.cls≠.type "list"->b≠a:=λ{b o} e n z=>by
   rw[z,ha] at e;cases e;exact n rfl
  have afJ:∀ {b:Addr} {o:Obj} {es:Array DictEntry} {ep:Nat},bC.heap.get? b=some o->o.data = .dict es ep->b≠a:=λ{b o es ep} e d z=>by
   rw[z,ha] at e;cases e;cases d
  have qV:∀ {b:Addr} {m:Str->Option Value},bC.heap.Ns b m->(ki bC.heap H).Ns b m:=λ{b m} ⟨o,es,ep,e,d,r⟩=>⟨o,es,ep,vv e (free e (afJ e d) (λz=>by rw[z] at d;cases d)),d,r⟩
  have Aw:K.In (ki bC.heap H):=λb o e=>vv (KX b o e) (by
   cases q:H b with
   | none=>rfl
   | some u =>
    rcases hO b u q with⟨z,_⟩ | ⟨z,_⟩
    ·subst z;rw[hK (by rw[q];simp)] at e;cases e
    ·have e2:=KX b o e;rw[(vH b z).1] at e2;have h2:=nR.mp AO (b,o) (mem_of_lookupK e);cases e2;exact absurd (show false=true from h2) fz)
  have hM:Mod K mg (ki bC.heap H):=⟨Aw,qV oF,⟨mb,qV hb,JI⟩,let ⟨mc,h1,h2⟩:=JJ;⟨mc,qV h1,h2⟩⟩
  have hL:∀q∈tabs,bI mg (ki bC.heap H) q.1 q.2:=λq hq=>by
   obtain⟨b,ob,b1,b2,b3,b4,b5,b6⟩:=bm;obtain⟨o,vs',file,tf,flags,tg,inF,text,tt,e1,r1,r2⟩:=(hT q hq).1;refine⟨⟨o,vs',file,tf,flags,tg,inF,text,tt,vv e1 (free e1 (WB e1 (by rw[r1];intro z;injection z with z;exact absurd z ⋯)) (λz=>by rw[z] at r1;cases r1)),r1,r2⟩,b,ob,b1,b2,vv b3 (free b3 (WB b3 (by rw[b4];intro z;injection z with z;exact absurd z ⋯)) (λz=>by rw[z] at b4;cases b4)),b4,b5,b6⟩
  have e0:tE P w K mg (ki bC.heap H) callerA [] bC H:=⟨rfl,hM,λb o e=>Uv e,zw (Ut _ _),trivial,λb hb=>absurd (show b∈([]:_A) from hb) (by simp),aO,.of_eq hg⟩
  refine w5 ((F _ Aw (qV oF) hL).run callerA [] bC H ⟨[.ref a],[]⟩ [.ref a] [.ref a] _ _ hr e0 (mU bC (.ref a)) (.cons rfl .nil) (eB H AQ hS)) λr s' h=>?_;cases r with
  | error e=>exact False.elim h
  | ok fl =>
   cases fl with
   | next=>exact False.elim h
   | brk=>exact False.elim h
   | cont=>exact False.elim h
   | ret u =>
    obtain⟨v,H',os,bare,un,DP,r',q⟩:=h;have q':v = .bl true:=q;subst q';obtain rfl:u=Value.bool true:=r';have noS:∀b:Addr,b∉iX ([]:List Env):=λb z=>absurd (show b∈([]:_A) from z) (by simp)
    have all:∀b o,bC.heap.get? b=some o->asItWas bC.heap s'.heap b o/\∃o',s'.heap.get? b=some o':=λb o e=>by
     cases q:H b with
     | none =>
      have:=un.keep b o e q (noS b) (by simp)
      exact⟨.inl this,o,this⟩
     | some u =>
      rcases hO b u q with⟨z,ob,xs,rfl⟩ | ⟨z,rfl⟩
      ·have z2:=un.pR b ob _ q;obtain⟨e1,_⟩:=aO b _ q;obtain⟨e2,_⟩:=DP b _ z2;rw[e] at e1;cases e1;exact⟨.inl e2,_,e2⟩
      ·obtain⟨more,z2⟩:=un.qI b _ q;have e1:=(vH b z).1;rw[e] at e1;cases e1;have e2:s'.heap.get? b=some { cls:=.none,data:=.fields (#[]++more)}:=DP b _ z2;exact⟨.inr (.inl ⟨(vH b z).2,rfl,#[],more,rfl,e2⟩),_,e2⟩
    exact⟨rfl,⟨λb o e=>(all b o e).1,λb o e=>(all b o e).2⟩,os,bare⟩
 have tq:∀q∈tabs,q.2∈tabs.map (·.2):=λq hq=>sL hq;cases hk:K.lookup a with
 | some o =>
  have e:=KX a o hk;rw[ha] at e;cases e;refine core (λb=>if b∈tabs.map (·.2) then some (.gA #[]) else none) (λb u z=>?_) (λq hq=>if_pos (tq q hq)) (.inr ⟨_,vs.toArray,_,hk,rfl,rfl,rfl,by rw[iK,JL];exact hl,↑rv⟩) (λb u z=>?_) (λz=>absurd (if_neg aT) z)
  ·by_cases hb:b∈tabs.map (·.2)
   ·have z':=(if_pos hb).symm.trans z;cases z';exact .inr ⟨hb,rfl⟩
   ·have z':=(if_neg hb).symm.trans z;cases z'
  ·by_cases hb:b∈tabs.map (·.2)
   ·have z':=(if_pos hb).symm.trans z;cases z';exact(vH b hb).1
   ·have z':=(if_neg hb).symm.trans z;cases z'
 | none =>
  refine core (λb=>if b=a then some (.jL { cls:=.type "list",data:=.seq vs.toArray } (.lst (ns.map V.int))) else if b∈tabs.map (·.2) then some (.gA #[]) else none) (λb u z=>?_) (λq hq=>?_) (.inl (.inr ⟨{ cls:=.type "list",data:=.seq vs.toArray },if_pos rfl⟩)) (λb u z=>?_) λ_=>hk
  ·by_cases hb:b=a
   ·have z':=(if_pos hb).symm.trans z;cases z';exact .inl ⟨hb,_,_,rfl⟩
   ·have z':=(if_neg hb).symm.trans z;by_cases rC:b∈tabs.map (·.2)
    ·have z2:=(if_pos rC).symm.trans z';cases z2;exact .inr ⟨rC,rfl⟩
    ·have z2:=(if_neg rC).symm.trans z';cases z2
  ·have ne:q.2≠a:=λz=>aT (by rw[← z];exact tq q hq)
   exact(if_neg ne).trans (if_pos (tq q hq))
  ·by_cases hb:b=a
   ·have z':=(if_pos hb).symm.trans z;cases z';subst hb;exact⟨ha,by rw[aM];exact hl,vs,_,rv,ha⟩
   ·have z':=(if_neg hb).symm.trans z;by_cases rC:b∈tabs.map (·.2)
    ·have z2:=(if_pos rC).symm.trans z';cases z2;exact(vH b rC).1
    ·have z2:=(if_neg rC).symm.trans z';cases z2
theorem oN.of{fs:List Str}(qe:closureFor scope X.env=pure cl)(kind:scope.kind = .function)(co:scope.isCoroutine=false)(gen:scope.isGenerator=false)
  (AJ:(scope.names.all λy=>y.2 != .cell)=true) (par:(ps.all λy=>scope.names.lookup y == some .local)=true) (sub:AllP (λp:Str×Addr=>X.env.cells.lookup p.1=some p.2) cl) (has:(scope.names.all λy=>y.2 != .free || (cl.lookup y.1).isSome)=true)
  (free:fv.map (λj=>X.N[j]?)=fs.map some) (fk:(fs.all λy=>scope.names.lookup y == some .free && X.env.scope.names.lookup y == some .cell)=true) (nd:(ps++fs).Nodup):oN X scope cl ps fs fv where
 qe:=qe
 kind:=kind
 co:=co
 gen:=gen
 AJ:=λy hy=>by have:=nR.mp AJ y hy;simpa using this
 par:=λy hy=>by have:=nR.mp par y hy;simpa using this
 sub:=sub.mem
 has:=λy hy hl=>by
  have:=nR.mp has y hy;rw[hl] at this;exact wY.mp (by simpa only[bne_self_eq_false,Bool.false_or] using this)
 free:=free
 fk:=λy hy=>by have:=nR.mp fk y hy;simpa using this
 nd:=nd
theorem cX.okC{x:Str}{st:Stmt}{k:Nat}(F:cX K x qual st f fd)(S:bL N ps (aZ st))(len:∀vs H Q E,sp vs H Q E->vs.length=ps.length)
  (vm:∀(A:Around) (outer:List Env) (s:Shared) (H:Hp) (vs:_V) (Q:VK) (E:XK),d9 k (A.deeper (envOfC qual (aZ st) s.heap.objs.size f fd.code))->sp vs H Q E->
   ∃t,iZ (qN bF P w K mg base N qual (aZ st) f fd.code A outer s H E).sY (gQ st) t/\t { nx:=λ_ H'=>Q .aY H',rt:=Q } (start N vs) H):bq P w K mg base bF (k+1) f fd ps sp:=by
 obtain⟨oc,od,kV,doc,pm,an,aR,ct,kC,rfl,lk,fE⟩:=F.ex;refine I_ lk fE S len λA outer s H vs Q E hr eB=>?_;obtain⟨t,h,q⟩:=vm A outer s H vs Q E hr eB;exact⟨t,h.sY,q⟩
theorem afK{l:PySem.W.OpenLaw}{k:Nat}{q:Program}{XP:(Str->Option Value)->Heap->Prop}{d:DefRec}{K:Params->W.Frag}{sp:World->List (Addr×Addr)->Sp}{x:Str}
  (hn:l.most=some n) (xB:n<=sizeLine) (vt:d.params.defaults = []) (hr:d9 k callerA)
  (hY:∀(w:World) (h:Heap),YP w h->(K w.params).In h) (AO:∀w:World,noTabs (K w.params)=true)
  (F:∀(w:World) (mg:Str->Option Value) (fa:Addr) (h:Heap),YP w h->(K w.params).In h->h.Ns mainGlobals mg->mg d.name=⇑fa->
   ∃(fd:FuncData) (tabs:List (Addr×Addr)),(∀(s:Shared) (u:Value),BindsTo s fd ⟨[u],[]⟩ [(x,u)])/\TabsAt tabs h/\
    ∀base:Heap,(K w.params).In base->base.Ns mainGlobals mg->(∀q∈tabs,bI mg base q.1 q.2)->bq l.prog w (K w.params) mg base bF k fa fd [x] (sp w tabs))
  (eB:∀(w:World) (tabs:List (Addr×Addr)) (H:Hp) (a:Addr) (ns:_I),ns.length<=n->(∀q∈tabs,H q.2=some (.gA #[]))->aA (K w.params) H a (ns.map V.int)->sp w tabs [.ref a] H (λv _=>v = .bl true) λ_ _ _=>False) :
  PySem.W.WalkO q loose XP YP l.row.toRowW d [] (λf vs=>PySem.call f vs):=by
 refine JF.VD hn vt λw eX bC mg mb fa o pm cd doc a vs ns G Y ho hd fE hmg Au hints hlen hg=>?_;have KX:=hY w _ Y;obtain⟨fd,tabs,hb,hT,hF⟩:=F w mg fa _ Y KX G.T.g hmg;exact afI KX G.T.g G.T.b G.T.builtins G.T.nolimit hg Au hints (cH hlen xB) hr hT (AO w) G.T.bmain hF hb λH AQ hS=>eB w tabs H a ns hlen AQ hS
noncomputable def rD(s:Stmt):Pos:=match gQ s with
 | [.Return (some (.Call _ _ [⟨_,.Lambda _ _ _ pos,_⟩] _)) _]=>pos
 | _=>⟨0,0,0,0⟩
noncomputable def rE(x:Str):Str:=x ++ ".<locals>." ++ "<lambda>"
noncomputable def lG(r:Int)(j:Nat):Int×Int:=(((j:Int) - r).natAbs,j)
def afL(P:Addr)(pos:Pos)(qual:Str):Sp:=λvs H Q _=>∃(r:Int) (n:Nat),vs = [.int r,.int (n:Int)]/\2<=n/\n<64/\dF P pos qual H/\
 ∀(l:Addr) (is:List Nat) (H':Hp),SameBut P H H'->dF P pos qual H'->H l=none->H' l=none->oO (lG r) n is->Q (.ref l) (upd H' l (.lst (is.map λ(i:Nat)=>V.int (i:Int))))
end _L
namespace _L
open PySem PySem.Spec PyProof.Rows
noncomputable def jV(i:Nat):Nat:=(reduceHash (Builtin.Tuple.tupleHashOf [hashInt ((i / 60:Nat):Int),hashInt ((i % 60:Nat):Int)]) % 524291).toNat
noncomputable def Em:Nat->Nat->Bool
 | 0,_=>true
 | n+1,acc=>(Nat.land acc (Nat.shiftLeft 1 (jV n)) == 0) && Em n (Nat.lor acc (Nat.shiftLeft 1 (jV n)))
theorem WC:∀(n acc:Nat),Em n acc=true->(∀i,i<n->acc.testBit (jV i)=false)/\∀i j,i<n->j<n->jV i=jV j->i=j
 | 0,_,_=>⟨λ_ h=>absurd h ∅,λ_ _ h=>absurd h ∅⟩
 | n+1,acc,h=>by
  unfold Em at h;rw[zb,mH] at h;obtain⟨h1,h2⟩:=h;have e1:acc.testBit (jV n)=false:=by
   have z:(acc &&& 1 <<< jV n).testBit (jV n)=false:=by
    show Nat.testBit (Nat.land acc (Nat.shiftLeft 1 (jV n))) _=false;rw[h1,Nat.zero_testBit]
   rw[Nat.testBit_and,Nat.testBit_shiftLeft] at z;simpa using z
  obtain⟨g1,g2⟩:=WC n _ h2;have e2:∀i,i<n->acc.testBit (jV i)=false/\jV i≠jV n:=λi hi=>by
   have z:(acc ||| 1 <<< jV n).testBit (jV i)=false:=g1 i hi
   rw[Nat.testBit_or,Nat.testBit_shiftLeft] at z;rw[Bool.or_eq_false_iff] at z;refine⟨z.1,λe=>?_⟩
   have:=z.2;rw[e] at this;simp at this
  refine⟨λi hi=>?_,λi j hi hj e=>?_⟩
  ·by_cases q:i=n
   ·rw[q];exact e1
   ·exact(e2 i ∅).1
  ·by_cases q:i=n
   ·by_cases q':j=n
    ·lia
    ·exact absurd (by rw[← e,q]) (e2 j ∅).2
   ·by_cases q':j=n
    ·exact absurd (by rw[e,q']) (e2 i ∅).2
    ·exact g2 i j ∅ ∅ e
theorem afM:Em 3840 0=true:=by decide +kernel
theorem afN{a b c d:Int}(a0:0<=a)(a1:a<64)(b0:0<=b)(b1:b<60)(c0:0<=c)(c1:c<64)(d0:0<=d)(d1:d<60)
  (h:reduceHash (Builtin.Tuple.tupleHashOf [hashInt a,hashInt b])=reduceHash (Builtin.Tuple.tupleHashOf [hashInt c,hashInt d])):a=c/\b=d:=by
 have e:∀ {x y:Int},0<=x->0<=y->y<60->jV (x.toNat*60+y.toNat)=(reduceHash (Builtin.Tuple.tupleHashOf [hashInt x,hashInt y]) % 524291).toNat:=λ{x y} h0 h1 h2=>by
  unfold jV;have q1:((x.toNat*60+y.toNat) / 60:Nat)=x.toNat:=by lia
  have q2:((x.toNat*60+y.toNat) % 60:Nat)=y.toNat:=by lia
  rw[q1,q2,Hl h0,Hl h1]
 have:=(WC 3840 0 afM).2 (a.toNat*60+b.toNat) (c.toNat*60+d.toNat) ∅ ∅ (by rw[e a0 b0 b1,e c0 d0 d1,h])
 lia
theorem WD{α:Type}{f:α->Int}:∀ {l:List α},(l.map f).Nodup->∀h:Int,(l.filter λx=>f x == h).length<=1
 | [],_,_=>eW _
 | x::l,n,h=>by
  rw[dh,jk] at n;by_cases q:f x=h
  ·have z:(l.filter λy=>f y == h) = []:=by
    rw[Ht];intro y hy e;exact n.1 (by rw[q,← (mH.mp e)];exact sL hy)
   rw[iu,if_pos (by rw[q];exact HQ h),z]
   exact bx _
  ·rw[iu,if_neg (by rw[mH];exact q)]
   exact WD n.2 h
section
variable{M:Model}
theorem afO{id:String}{o:Obj}{es:Array DictEntry}{ep}{Q:Array DictEntry->Shared->Prop}(ho:s.heap.get? d=some o)(hd:o.data = .dict es ep)
  (hT:∀e∈es.toList,∃t,e.key = .ref t/\s.TypeIs (.ref t) "tuple") (hn:(es.toList.map (·.hash)).Nodup) (h:Q es s):wpAny M A (Builtin.Dict.entriesForEmpty id d) Q E s:=by
 unfold Builtin.Dict.entriesForEmpty;refine aH (uQ ho hd ?_);refine aH ?_;rw[← wI];refine sS _ (λrest _ s'=>s' = s/\∀e∈rest,e∈es.toList) _ ?_ ?_ _ _ ⟨rfl,λe he=>he⟩
 ·rintro e rest b s' ⟨rfl,hr⟩;obtain⟨t,ek,AR⟩:=hT e (hr e (by simp))
  rw[ek];unfold Builtin.Dict.quietEq;refine aH (aH (sU AR PySem.F.slot_tuple_eq.lookup (aP ?_)));have hz:¬ (es.filter (·.hash == e.hash)).size > 1:=by
   have:=WD hn e.hash;have e2:(es.filter (·.hash == e.hash)).size=(es.toList.filter (·.hash == e.hash)).length:=by rw[← lN,Array.toList_filter]
   lia
  have q:(some (Value.builtin "tuple.__eq__") == some (Value.builtin "object.__eq__"))=false:=by decide +kernel
  rw[q];simp only[Bool.not_false,if_true,if_neg hz];exact aP ⟨rfl,λe he=>hr e (cy _ he)⟩
 ·rintro b s' ⟨rfl,_⟩;exact aP h
theorem afP{nm:String}{o:Addr}{knd:HeapKind prog w (List Key)}{Q:Unit->Shared->Prop}(dY:d≠o)(Kz:(o == sysModules)=false)
  (hd:s.heap.DictOfH knd d []) (ho:s.heap.DictOfH knd o xs) (hT:∀x∈xs,s.TypeIs (.ref x.2.1) "tuple") (hn:(xs.map λx=>knd.hash x.1).Nodup) (hsz:xs.length<=sizeLine)
  (hQ:∀h',(∃o' gg iA,h'.get? d=some o'/\o'.ExactDict/\o'.data = .dict gg iA/\gg.toList=xs.map (entryOfKey knd))->Heap.SameBut d s.heap h'->Q () { s with heap:=h' }) :
  wpAny (model prog w) A (Builtin.Dict.mergeDict nm d o) Q E s:=by
 obtain⟨od,esd,WE,qh,fE,oR,hpd,_⟩:=id hd;obtain⟨oo,qi,WG,mh,WH,ya,jy,KA,vn⟩:=id ho;have afQ:esd = #[]:=Array.toList_eq_nil_iff.mp hpd;subst afQ;unfold Builtin.Dict.mergeDict;rw[if_neg ↑dY]
 unfold Builtin.Dict.showsAll;rw[if_neg (by rw[Kz];exact fz)]
 refine aH (aP ?_);refine aH (uQ mh ya ?_);dsimp only;cases hx:xs with
 | nil =>
  rw[hx] at jy;have h0:qi = #[]:=Array.toList_eq_nil_iff.mp jy;subst h0;rw[if_neg (by simp)]
  refine aH (C5 mh ya ?_);refine aH (uQ mh ya ?_);refine aH ?_;rw[Std.Legacy.Range.forIn_eq_forIn_range']
  show wpAny _ _ (forIn [] _ _) _ _ _;rw[List.forIn_nil];refine aP (aP (hQ s.heap ⟨od,#[],WE,qh,fE,oR,by rw[hx];rfl⟩ (Heap.SameBut.refl _ _)))
 | cons x rest =>
  have gm:qi.toList≠[]:=by rw[jy,hx];exact List.cons_ne_nil _ _
  have xO:(decide (qi.size<=8) && qi.all λe=>(keyPart e.key).isSome)=false:=by
   rw[Bool.and_eq_false_iff];refine .inr ?_;rw[← Array.all_toList,jy,hx]
   rfl
  rw[xO];refine aH (uQ qh oR ?_);rw[if_pos (by rfl)]
  refine aH (afO mh ya (λe he=>?_) ?_ ?_)
  ·rw[jy] at he;obtain⟨y,hy,rfl⟩:=dW.mp he;exact⟨y.2.1,rfl,hT y hy⟩
  ·rw[jy,pI];exact hn
  have he0:qi.isEmpty=false:=by
   cases q:qi.isEmpty with
   | false=>rfl
   | true=>exact absurd (by rw[Array.isEmpty_iff.mp q]) gm
  rw[if_pos (by rw[he0];rfl)]
  have hto:qi.size<=sizeLine+1:=by
   have:qi.size=xs.length:=by rw[← lN,jy,aM]
   lia
  exact aH (wpAny_updateDictKeysTo qh oR (aP (hQ _ ⟨_,_,WE+1,zf _ qh (Obj.isFreed_of_dict (Obj.data_mapDictKeys oR _)),fE.mapDictKeys _,Obj.data_mapDictKeys oR _,jy⟩ (wK ..))) hto)
end
section
theorem afR{o:Addr}(Kz:(o == sysModules)=false)(ho:s.heap.DictOfH (tupleKind (d7 prog w)) o xs)(hsz:xs.length<=sizeLine)
  (hn:(xs.map λx=>(tupleKind (d7 prog w)).hash x.1).Nodup)
  (h:∀h',(∃o' gg iA,h'.get? s.heap.objs.size=some o'/\o'.ExactDict/\o'.data = .dict gg iA/\gg.toList=xs.map (entryOfKey (tupleKind (d7 prog w))))->Heap.SameBut s.heap.objs.size (s.heap.push { cls:=.type "dict",data:=.dict #[] }) h'->Q (.ref s.heap.objs.size) { s with heap:=h' }) :
  wpAny (model prog w) A (call (.type "dict") [.ref o]) Q E s:=by
 refine callType_codes (Q₁:=λobj bC=>obj = .ref s.heap.objs.size/\bC = { s with heap:=s.heap.push { cls:=.type "dict",data:=.dict #[] }}) PySem.F.kt_called_dict (PySem.F.kt_typeCall_dict_1 _) PySem.F.entry_dict_init (kt_code_dict_new _ ⟨rfl,rfl⟩) ?_;rintro obj bC ⟨rfl,rfl⟩;have An:(s.heap.push { cls:=.type "dict",data:=.dict #[] }).DictOfH (tupleKind (d7 prog w)) s.heap.objs.size []:=Heap.DictOfH.new s.heap;obtain⟨oo,qi,WG,mh,WH,ya,jy,KA,vn⟩:=id ho;have AR:∀x∈xs,({ s with heap:=s.heap.push { cls:=.type "dict",data:=.dict #[] }}:Shared).TypeIs (.ref x.2.1) "tuple" := λx hx=>by
  obtain⟨o1,aC,n,g1,c1,_⟩:=(show IsTupleKey (d7 prog w) s.heap x.1 x.2.1 from KA x hx);exact⟨o1,cU _ g1,c1⟩
 have g9:∀x∈xs,(tupleKind (d7 prog w)).is (s.heap.push { cls:=.type "dict",data:=.dict #[] }) x.1 x.2.1:=λx hx=>by
  obtain⟨o1,aC,n,g1,c1⟩:=(show IsTupleKey (d7 prog w) s.heap x.1 x.2.1 from KA x hx);exact⟨o1,aC,n,cU _ g1,c1⟩
 have iY:(s.heap.push { cls:=.type "dict",data:=.dict #[] }).DictOfH (tupleKind (d7 prog w)) o xs:=⟨oo,qi,WG,cU _ mh,WH,ya,jy,g9,vn⟩;have dY:s.heap.objs.size≠o:=λe=>absurd (cR mh) (by rw[e];exact lO _)
 refine⟨An.typeIs,PySem.F.args_dict_init_2 _ _,?_⟩;unfold Builtin.«dict.__init__»;refine aH ?_;unfold Builtin.Dict.selfAndRest;refine aH (wpAny_notOrdered_dict An.typeIs ?_)
 show wpAny _ _ (pure (s.heap.objs.size,[Value.ref o])) _ _ _;refine aP ?_
 show wpAny _ _ (Builtin.Dict.updateFrom "dict.__init__" s.heap.objs.size (.ref o) [] .none) _ _ _;unfold Builtin.Dict.updateFrom;refine aH (wpAny_typeOf iY.typeIs ?_);rw[if_neg ⋯]
 refine aH ?_;unfold Builtin.Dict.merge;refine aH ?_;unfold Builtin.Dict.readDirectly;refine aH (zK iY.typeIs isSubtype_dict_dict ?_);simp only[Bool.not_true,Bool.false_eq_true,if_false];refine aH (sU iY.typeIs PySem.F.slot_dict_iter.lookup (aP ?_));simp only[beq_self_eq_true,if_true];refine aH (aP ?_);refine afP (xs:=xs) (knd:=tupleKind (d7 prog w)) dY Kz An iY AR hn hsz λh' gM ju=>?_
 show wpAny _ _ (Builtin.Dict.addKeywords s.heap.objs.size [] >>= _) _ _ _;exact aH (aP (aP ⟨rfl,h h' gM ju⟩))
end
def En(ks:List (List Key)):Prop:=∀(P:Program) (w:World),(ks.map (tupleKeyHash (d7 P w))).Nodup
theorem KT.keys(h:KT H az xs):xs.map (·.1)=az.map (·.1):=by
 induction h with
 | nil=>rfl
 | cons hq _ ih=>rw[dh,dh,ih,hq.1]
theorem KT.len(h:KT H az xs):xs.length=az.length:=by
 have:=fX List.length h.keys;simpa using this
section
theorem afS:i9 X (.type "dict") (λxs H Q=>∃a az,xs = [.ref a]/\H a=some (.dT az)/\En (az.map (·.1))/\∀p,H p=none->Q (.ref p) (upd H p (.dT az))):=by
 intro pins s σ H xs us Q I r h;obtain⟨a,az,rfl,ha,yc,q⟩:=h;obtain⟨u,rfl,ru⟩:=vals1 r;cases ru;obtain⟨z,hs,ks,kt,dd⟩:=Ju I.aO ha;obtain⟨o,es,ep,h1,h2,h3,h4,h5,h6⟩:=id dd;refine afR (xs:=ks) hs dd (by rw[kt.len];exact z) (by have:=yc X.prog X.w;rw[← kt.keys,pI] at this;exact this) λh' qU ju=>?_
 obtain⟨o',gg,iA,g1,g2,g3,g4⟩:=qU;have fr:H s.heap.objs.size=none:=I.aO.fresh (bx _);have kt':∀ob,KT (upd H s.heap.objs.size ob) az ks:=λob=>by
  clear q ha yc z h4 h5 h6 g4 dd
  induction kt with
  | nil=>exact .nil
  | cons hq _ ih =>
   refine .cons ⟨hq.1,?_,hq.2.2⟩ ih;rw[aJ (bT hq.2.1 fr)];exact hq.2.1
 refine⟨.ref s.heap.objs.size,upd H s.heap.objs.size (.dT az),?_,rfl,q _ fr⟩;refine I.laid (a:=s.heap.objs.size) (o:=.dT az) (t':=s.toks) (λb q hq=>?_) (bx _) ?_
 ·exact(ju.2 b (dj (cR hq))).trans (cU _ hq)
 ·exact⟨z,k_.mpr (fW (dj I.big)),ks,kt' _,o',gg,iA,g1,g2,g3,g4,h6⟩
end
theorem WI(P:Program)(w:World)(p:Int×Int):tupleKeyHash (d7 P w) (kT p)=reduceHash (Builtin.Tuple.tupleHashOf [hashInt p.1,hashInt p.2]):=by
 have e:(kT p).map (d7 P w).hash = [hashInt p.1,hashInt p.2]:=rfl;unfold tupleKeyHash;rw[e]
theorem afT(h:∀p∈z,0<=p.1/\p.1<64/\0<=p.2/\p.2<60)(nd:z.Nodup):En (z.map kT):=by
 intro P w;rw[pI]
 induction z with
 | nil=>exact CH
 | cons x z ih =>
  rw[jk] at nd;rw[dh,jk];refine⟨λhm=>?_,ih (λp hp=>h p (cy _ hp)) nd.2⟩;obtain⟨y,hy,e⟩:=dW.mp hm;have hx:=h x (by simp)
  have Eo:=h y (cy _ hy);rw[Function.comp_apply,Function.comp_apply,WI,WI] at e;obtain⟨e1,e2⟩:=afN Eo.1 Eo.2.1 Eo.2.2.1 Eo.2.2.2 hx.1 hx.2.1 hx.2.2.1 hx.2.2.2 e;exact nd.1 (by rw[show x=y from qG e1.symm e2.symm];exact hy)
def mY(h:Heap)(d:Addr)(es:Array DictEntry)(ep:Nat):Prop:=∃o,h.get? d=some o/\o.ExactDict/\o.data = .dict es ep
section
variable{es:Array DictEntry}
theorem mY.type(m:mY s.heap d es ep):s.TypeIs (.ref d) "dict" := let ⟨o,h1,h2,_⟩:=m;⟨o,h1,h2.1⟩
theorem mY.lt(m:mY h d es ep):d<h.objs.size:=let ⟨_,h1,_⟩:=m;cR h1
theorem mY.keep(m:mY h d es ep)(k:∀o,h.get? d=some o->h'.get? d=some o):mY h' d es ep:=let ⟨o,h1,r⟩:=m;⟨o,k o h1,r⟩
theorem afU(hd:(d == sysModules)=false)(m:mY s.heap d es ep)
  (q:Q (.ref s.heap.objs.size) { s with heap:=s.heap.push { cls:=.type "dict_keyiterator",data:=.fields #[.ref d,.int 0 0,.int es.size 0,.int ep 0] }}):wpAny (model prog w) A (pyIter (.ref d)) Q E s:=by
 obtain⟨o,h1,h2,h3⟩:=id m;refine wpAny_pyIter_slot m.type PySem.F.slot_dict_iter (w_ PySem.F.slot_dict_iter m.type PySem.F.entry_dict_iter ?_ (PySem.F.args_dict_iter_1 _));unfold Builtin.«dict.__iter__» Builtin.Dict.dictSlotNone;refine aH (aH (wpAny_notOrdered_dict m.type (show wpAny _ _ (pure (Value.ref d)) _ _ s from aP ?_)))
 show wpAny _ _ (Builtin.Dict.showsAll d >>= _) _ _ s;unfold Builtin.Dict.showsAll;rw[if_neg (by rw[hd];exact fz)]
 refine aH (aP (aH (uQ h1 h3 (aH (C5 h1 h3 ?_)))));refine aH (zL (aP ⟨_,rfl, "dict_keyiterator",_,⟨_,gf _ rfl,rfl⟩,PySem.F.slot_dict_keyiterator_next.lookup,?_⟩));simpa[rawInt] using q
theorem afV{Q:Option Value->Shared->Prop}(hit:s.heap.IsKeyIter it d i es.size ep)(m:mY s.heap d es ep)(hi:i<es.size)
  (q:∀h',h'.IsKeyIter it d (i+1) es.size ep->Heap.SameBut it s.heap h'->Q (some es[i].key) { s with heap:=h' }):wpAny (model prog w) A (pyNext (.ref it)) Q E s:=by
 obtain⟨o,ho,hc,hd⟩:=id hit;obtain⟨od,qh,_,oR⟩:=id m;unfold pyNext;refine aH (wpAny_attempt (wpAny_callSpecial?_slot (name:=Str.ofString "__next__") hit.typeIs C0
  (w_ C0 hit.typeIs Uk ?_ (Uj _))))
 refine aH (aP (aH (aH ?_)))
 first | refine aH (C8 hit.typeIs (aP ?_)) | refine aH (C9 hit.typeIs (aP ?_))
 refine aH (wpAny_fieldsOf ho hd ?_);simp only[show Builtin.Dict_items.ownsTuple "dict_keyiterator" = false by decide,Bool.false_eq_true,if_false]
 show wpAny _ _ (if (Value.ref d == Value.none)=true then _ else _) _ _ s
 rw[if_neg (show ¬ ((Value.ref d == Value.none)=true) from fz)];refine aH (aP (aH (uQ qh oR ?_)));rw[if_neg (by simp)]
 refine aH (aP (aH (C5 qh oR ?_)));rw[if_neg (by simp)]
 refine aP ?_;simp only[show ¬ ((i:Int)<0) from by lia,if_false,Int.toNat_natCast,Array.getElem?_eq_getElem hi]
 refine aH ?_
 first | refine aH (C8 hit.typeIs (aP ?_)) | refine aH (C9 hit.typeIs (aP ?_))
 refine aH (wpAny_isOneOf_keyiter hit.typeIs ?_)
 show wpAny _ _ (setField (.ref it) 1 (rawInt ((i:Int)+1)) >>= _) _ _ s;refine aH (wpAny_setField ho hd (by simp) ?_)
 have vA:(s.heap.update it (Obj.mapFields (·.setIfInBounds 1 (rawInt ((i:Int)+1))))).IsKeyIter it d (i+1) es.size ep :=
  ⟨_,zf _ ho (Obj.isFreed_of_fields (Obj.data_mapFields hd _)),(Obj.cls_mapFields ..).trans hc,by rw[Obj.data_mapFields hd];simp[rawInt]⟩
 refine aH (mJ (aH (wpAny_isOneOf_keyiter (s:={ s with heap:=s.heap.update it (Obj.mapFields (·.setIfInBounds 1 (rawInt ((i:Int)+1))))}) vA.typeIs ?_)))
 show wpAny _ _ (pure es[i].key) _ _ _;exact aP (aP ⟨_,rfl,aP (q _ vA (wK ..))⟩)
theorem afW{Q:Option Value->Shared->Prop}(hh:A.handled=none)(hit:s.heap.IsKeyIter it d es.size es.size ep)(m:mY s.heap d es ep)(q:∀h',Heap.ExtBut it s.heap h'->Q none { s with heap:=h' }):wpAny (model prog w) A (pyNext (.ref it)) Q E s:=by
 obtain⟨o,ho,hc,hd⟩:=id hit;obtain⟨od,qh,_,oR⟩:=id m;unfold pyNext;refine aH (wpAny_attempt (wpAny_callSpecial?_slot (name:=Str.ofString "__next__") hit.typeIs C0
  (w_ C0 hit.typeIs Uk ?_ (Uj _))))
 refine aH (aP (aH (aH ?_)))
 first | refine aH (C8 hit.typeIs (aP ?_)) | refine aH (C9 hit.typeIs (aP ?_))
 refine aH (wpAny_fieldsOf ho hd ?_);simp only[show Builtin.Dict_items.ownsTuple "dict_keyiterator" = false by decide,Bool.false_eq_true,if_false]
 show wpAny _ _ (if (Value.ref d == Value.none)=true then _ else _) _ _ s
 rw[if_neg (show ¬ ((Value.ref d == Value.none)=true) from fz)];refine aH (aP (aH (uQ qh oR ?_)));rw[if_neg (by simp)]
 refine aH (aP (aH (C5 qh oR ?_)));rw[if_neg (by simp)]
 refine aP ?_;simp only[show ¬ ((es.size:Int)<0) from by lia,if_false,Int.toNat_natCast,Array.getElem?_eq_none (Nat.le_refl es.size)]
 refine aH ?_
 first | refine aH (C8 hit.typeIs (aP ?_)) | refine aH (C9 hit.typeIs (aP ?_))
 show wpAny _ _ (setField (.ref it) 0 .none >>= _) _ _ s;refine aH (wpAny_setField ho hd (by simp) ?_)
 show wpAny _ _ (newExc (.type "StopIteration") [] >>= _) _ _ _;refine aH ?_;simp only[newExc,newTuple];refine aH (zL ?_ (by size_fits))
 refine aH (m:=firstArgMember _ _) (wpAny_of_eq (a:=Value.none) (by first | rfl | (simp only[firstArgMember];rfl)) ?_)
 refine zL ?_ (by size_fits)
 simp only[raiseNew];refine aH (wpAny_handled ?_);rw[show A.in1.handled=none from hh];refine aH (aP (wpAny_throw ?_));refine aH (zK (T := "StopIteration") (b:=true) ⟨_,gf _ rfl,rfl⟩ isSubtype_stop ?_);exact aP (q _ (((wK ..).extBut.push _).push _))
theorem afX(hh:A.handled=none)(I:Addr)(gm:d≠I):Walks prog w A I [I,d] [I] es.size (λi v=>∃e,es[i]? = some e/\v=e.key) (λi h=>h.IsKeyIter I d i es.size ep/\mY h d es ep) where
 sub:=λb hb=>by simp at hb;simp[hb]
 frame:=λ_ _ _ st hk=>⟨st.1.at λo e=>hk I (by simp) o e,st.2.keep λo e=>hk d (by simp) o e⟩
 item:=λi s Q E hi st hQ=>afV st.1 st.2 hi λh' vA ju=>hQ _ h' s.toks ⟨_,Cm hi,rfl⟩ ⟨vA,st.2.keep λo e=>ju.extBut d o gm e⟩ λb o hb e=>ju.extBut b o (λh=>hb (by simp[h])) e
 done:=λs Q E st hQ=>afW hh st.1 st.2 λh' vB=>hQ h' s.toks λb o hb e=>vB b o (λh=>hb (by simp[h])) e
 self:=λ_ _ _ _ st hQ=>wpAny_pyIter_keyiter st.1 hQ
theorem afY(lo:(d == sysModules)=false):PySem.W.KdlSrc prog w "dict" d d es.size (λi v=>∃e,es[i]? = some e/\v=e.key) (λh=>mY h d es ep) where
 type:=λ_ hm=>hm.type
 there:=λ_ hm=>⟨hm.lt,hm.lt⟩
 keep:=λ_ _ hm hk=>hm.keep λo e=>hk d (.inl rfl) o e
 notList:=by decide
 notTuple:=by decide
 hint:=λ_ _ _ _ hm hq=>PySem.W.kdl_hint_dict hm.type hq
 iter:=λ_ _ hh hm=>⟨_,_,(λ_ _ hq=>afU lo hm hq),afX hh _ (dj hm.lt),⟨⟨_,gf _ rfl,rfl,rfl⟩,hm.keep λ_ e=>cU _ e⟩⟩
end
section
def Ep(H:Hp)(az:List (List Key×V))(ts:_A):Prop:=ts.length=az.length/\∀(i:Nat) (t:Addr) (kv:List Key×V),ts[i]? = some t->az[i]? = some kv->H t=some (.tup (kv.1.map kV))
theorem KT.at(h:KT H az xs):∀(i:Nat) (x:List Key×Addr×Value) (kv:List Key×V),xs[i]? = some x->az[i]? = some kv->H x.2.1=some (.tup (kv.1.map kV)):=by
 induction h with
 | nil=>intro i x kv e;cases e
 | @cons p q ps qs hq _ ih =>
  intro i x kv e1 e2;cases i with
  | zero =>
   rw[List.getElem?_cons_zero] at e1 e2;cases e1;cases e2;exact hq.2.1
  | succ i =>
   rw[wQ] at e1 e2;exact ih i x kv e1 e2
theorem afZ(hc:X.calm=true):i9 X (.type "list") (λxs H Q=>∃a az,xs = [.ref a]/\H a=some (.dT az)/\∀l ts,H l=none->Ep H az ts->Q (.ref l) (upd H l (.lst (ts.map V.ref)))):=by
 intro pins s σ H xs us Q I r h;obtain⟨a,az,rfl,ha,q⟩:=h;obtain⟨u,rfl,ru⟩:=vals1 r;cases ru;obtain⟨z,hs,ks,kt,dd⟩:=Ju I.aO ha;obtain⟨o,es,ep,h1,h2,h3,h4,h5,h6⟩:=id dd;have KC:es.size=ks.length:=by rw[← lN,h4,aM]
 refine PySem.W.kdl_call (afY (es:=es) (ep:=ep) hs) (I.ok.hd hc) ⟨o,h1,h2,h3⟩ (by rw[KC,kt.len];exact z) λh' tk acc c' keep hl l9=>?_
 have fr:H s.heap.objs.size=none:=I.aO.fresh (bx _);have al:acc.toList=ks.map λx=>Value.ref x.2.1:=by
  refine Hr λi=>?_
  by_cases hi:i<ks.length
  ·have eE:i<acc.size:=by rw[l9.1,KC];exact hi
   obtain⟨e,e1,e2⟩:=l9.2 i acc[i] (Cm eE);have e3:es.toList[i]? = some e:=by rw[sG];exact e1
   rw[h4,jH,aV hi] at e3;rw[sG,Cm eE,jH,aV hi,e2,← eg e3]
   rfl
  ·rw[qB (by rw[lN,l9.1,KC];lia),qB (by rw[aM];lia)]
 have ka:Ep H az (ks.map λx=>x.2.1):=⟨by rw[aM];exact kt.len,λi t kv e1 e2=>by
  obtain⟨x,ex,rfl⟩:=c9 e1;exact kt.at i x kv ex e2⟩
 refine⟨.ref s.heap.objs.size,upd H s.heap.objs.size (.lst ((ks.map λx=>x.2.1).map V.ref)),?_,rfl,q _ _ fr ka⟩;refine I.laid (a:=s.heap.objs.size) (o:=.lst ((ks.map λx=>x.2.1).map V.ref)) (t':=tk) (λb o hb=>keep b o hb) (bx _) ?_;refine⟨by rw[aM,aM,kt.len];exact z,acc.toList,c',?_,by rw[Array.toArray_toList];exact hl⟩
 rw[al];clear al l9;generalize ks=ks
 induction ks with
 | nil=>exact .nil
 | cons x ks ih=>exact .cons rfl ih
end
noncomputable def kK(rc:_I)(s:Int)(o:Nat):_Z:=(List.range s.toNat).map λ(j:Nat)=>((o:Int),rc.getD o 0 - s+(j:Int))
noncomputable def kM(rc:_I)(s:Int)(us:_Z)(is:List Nat):Option (Int×Int):=(is.flatMap (kK rc s)).find? λc=>decide (c∉us)
structure Kp(P:Addr)(pos:Pos)(qual:Str)(H H':Hp):Prop where
 b:SameBut P H H'
 t:dF P pos qual H'
theorem dF.same{P:Addr}(h:dF P pos qual H)(s:aj H H'):dF P pos qual H':=by
 obtain⟨ps,e,k,c⟩:=h;refine⟨ps,s _ _ e,k,?_⟩;rcases c with c | ⟨c',c1,c2⟩
 ·exact .inl c
 ·exact .inr ⟨c',c1,s _ _ c2⟩
section
variable{P:Addr}
theorem Kp.step(k:Kp P pos qual H H1)(s:aj H1 H2):Kp P pos qual H H2:=⟨k.b.step s,k.t.same s⟩
theorem Kp.trans(k:Kp P pos qual H H1)(k2:Kp P pos qual H1 H2):Kp P pos qual H H2:=⟨k.b.trans k2.b,k2.t⟩
theorem Kp.of(t:dF P pos qual H)(s:aj H H1):Kp P pos qual H H1:=⟨.of s,t.same s⟩
theorem dF.ne(t:dF P pos qual H){o:HO}(e:H a=some o)(n:∀ps,o≠.gA ps):a≠P:=λz=>by
 obtain⟨ps,e',_⟩:=t;rw[z,e'] at e;exact n ps (eg e).symm
theorem Kp.get(k:Kp P pos qual H H1)(t:dF P pos qual H){o:HO}(e:H a=some o)(n:∀ps,o≠.gA ps:=by intro _ z;cases z):H1 a=some o:=k.b _ _ e (t.ne e n)
theorem Kp.free(k:Kp P pos qual H H1)(n:H1 a=none):H a=none:=by
 cases e:H a with
 | none=>rfl
 | some o =>
  by_cases z:a=P
  ·obtain⟨ps,e',_⟩:=k.t;rw[z,e'] at n;cases n
  ·rw[k.b _ _ e z] at n;cases n
theorem Kp.seq{xs:_V}(k:Kp P pos qual H H1)(t:dF P pos qual H)(h:aA K H a xs):aA K H1 a xs:=by
 rcases h with(h | ⟨o,h⟩) | h
 ·exact .inl (.inl (k.get t h))
 ·exact .inl (.inr ⟨o,k.get t h⟩)
 ·exact .inr h
end
theorem dF.put{P:Addr}{o:HO}(t:dF P pos qual H)(e:H a=some ob)(n1:∀ps,ob≠.gA ps:=by intro _ z;cases z)(n2:∀φ,ob≠.ext φ:=by intro _ z;cases z):dF P pos qual (upd H a o):=by
 obtain⟨ps,e',k,c⟩:=t;refine⟨ps,?_,k,?_⟩
 ·rw[aJ (λz=>n1 ps (by rw[z,e] at e';exact eg e'))];exact e'
 ·rcases c with c | ⟨c',c1,c2⟩
  ·exact .inl c
  ·refine .inr ⟨c',c1,?_⟩;rw[aJ (λz=>n2 _ (by rw[z,e] at c2;exact eg c2))];exact c2
theorem dF.keep{P:Addr}{x:Addr}(t:dF P pos qual H)(h:∀b,b≠x->H' b=H b)(e:H x=some ob)(n1:∀ps,ob≠.gA ps:=by intro _ z;cases z)(n2:∀φ,ob≠.ext φ:=by intro _ z;cases z):dF P pos qual H':=by
 obtain⟨ps,e',k,c⟩:=t;refine⟨ps,?_,k,?_⟩
 ·rw[h _ (λz=>n1 ps (by rw[z,e] at e';exact eg e'))];exact e'
 ·rcases c with c | ⟨c',c1,c2⟩
  ·exact .inl c
  ·refine .inr ⟨c',c1,?_⟩;rw[h _ (λz=>n2 _ (by rw[z,e] at c2;exact eg c2))];exact c2
theorem Kp.put{P:Addr}{pos:Pos}{qual:Str}{H H1:Hp}{a:Addr}{o ob:HO}(k:Kp P pos qual H H1)(n:H a=none)(e:H1 a=some ob)(n1:∀ps,ob≠.gA ps:=by intro _ z;cases z)(n2:∀φ,ob≠.ext φ:=by intro _ z;cases z):Kp P pos qual H (upd H1 a o) :=
 ⟨λb u q h=>by rw[aJ (bT q n)];exact k.b b u q h,k.t.put e n1 n2⟩
theorem af0{s:Int}{o:Int×Int}(h:kM rc s us is=some o):o∉us:=by
 have:=Cy h;simpa using this
theorem af1{s:Int}{o:Nat}(h:∀c∈(is.take i).flatMap (kK rc s),c∈us)(e:is[i]? = some o)(h2:∀c∈kK rc s o,c∈us) :
  ∀c∈(is.take (i+1)).flatMap (kK rc s),c∈us:=by
 intro c hc;rw[take_succ_get e,wN,fB] at hc;rcases hc with hc | hc
 ·exact h c hc
 ·exact h2 c ↑hc
theorem af2{s:Int}(h:∀c∈is.flatMap (kK rc s),c∈us):kM rc s us is=none:=by
 unfold kM;rw[wM];intro c hc;simpa using h c hc
theorem af3{s:Int}{o:Nat}(h:∀c∈(is.take i).flatMap (kK rc s),c∈us)(e:is[i]? = some o)(hj:j<s.toNat)
  (h2:∀j',j' < j->((o:Int),rc.getD o 0 - s+(j':Int))∈us) (h3:((o:Int),rc.getD o 0 - s+(j:Int))∉us):kM rc s us is=some ((o:Int),rc.getD o 0 - s+(j:Int)):=by
 have hi:=cJ e;have e1:is=is.take i++o::is.drop (i+1):=by
  have:is.drop i=o::is.drop (i+1):=by
   rw[Hq hi];rw[aV hi] at e;rw[eg e]
  rw[← this,uJ]
 have e2:kK rc s o=(List.range j).map (λ(j:Nat)=>((o:Int),rc.getD o 0 - s+(j:Int)))++((o:Int),rc.getD o 0 - s+(j:Int))::((List.range s.toNat).drop (j+1)).map λ(j:Nat)=>((o:Int),rc.getD o 0 - s+(j:Int)):=by
  unfold kK;have:List.range s.toNat=List.range j++j::(List.range s.toNat).drop (j+1):=by
   have q:(List.range s.toNat).drop j=j::(List.range s.toNat).drop (j+1):=by
    rw[Hq ↑hj]
    rw[Hv]
   have q2:(List.range s.toNat).take j=List.range j:=by
    rw[List.take_range,zy ∅]
   rw[← q,← q2,uJ]
  conv=>lhs;rw[this]
  rw[cj,dh]
 unfold kM;rw[e1,wN,Hu,e2,List.find?_append,wM.mpr (λc hc=>by simpa using h c hc),Option.none_or,sH,List.find?_append,
  wM.mpr (λc hc=>by
   obtain⟨j',lE,rfl⟩:=dW.mp hc;simpa using h2 j' (fJ.mp lE)),Option.none_or,sI,List.find?_cons_of_pos ↑h3]
def af4(K:W.Frag)(P:Addr)(pos:Pos)(qual:Str):Sp:=λvs H Q _=>∃(ra ud:Addr) (r s:Int) (rc:_I) (us:_Z),vs = [.ref ra,.int s,.int r,.ref ud]/\aA K H ra (rc.map V.int)/\2<=rc.length/\rc.length<64/\0<=s/\s<=1000/\(∀c∈rc,s<=c/\c<=1000)/\
 H ud=some (.dT (dD us))/\dF P pos qual H/\∀(is:List Nat) (H':Hp),oO (lG r) rc.length is->Kp P pos qual H H'->
  (kM rc s us is=none->Q .aY H')/\∀c t,kM rc s us is=some c->H t=none->H' t=some (.tup [.int c.1,.int c.2])->Q (.ref t) H'
inductive mZ (rc:_I) (s:Int) (z:_Z) (us:_Z):List Nat->List (Nat×(Int×Int)×(Int×Int))->Prop
 | nil:mZ rc s z us [] []
 | snoc {ns:List Nat} {ms:List (Nat×(Int×Int)×(Int×Int))} {n:Nat} {c o:Int×Int} (h:mZ rc s z us ns ms) (hc:z[n]? = some c) {is:List Nat} (ho:oO (lG c.1) rc.length is)
   (hf:kM rc s (us++ms.map λm=>m.2.2) is=some o):mZ rc s z us (ns++[n]) (ms++[(n,c,o)])
theorem mZ.len{s:Int}{ns:List Nat}(h:mZ rc s z us ns ms):ms.length=ns.length:=by
 induction h with
 | nil=>rfl
 | snoc _ _ _ _ ih=>simp[ih]
structure jW(H:Hp)(l:Addr)(ts us os:_A)(ms:List (Nat×(Int×Int)×(Int×Int))):Prop where
 l:H l=some (.lst (us.map V.ref))
 n:us.length=ms.length
 no:os.length=ms.length
 t:∀(i:Nat) (u:Addr) (m:Nat×(Int×Int)×(Int×Int)),us[i]? = some u->ms[i]? = some m->∃tc to,os[i]? = some to/\H u=some (.tup [.int (m.1:Int),.ref tc,.ref to])/\ts[m.1]? = some tc/\H tc=some (.tup [.int m.2.1.1,.int m.2.1.2])/\H to=some (.tup [.int m.2.2.1,.int m.2.2.2])
theorem jW.but{P:Addr}{us:_A}(h:jW H l ts us os ms)(t:dF P pos qual H)(k:Kp P pos qual H H'):jW H' l ts us os ms :=
 ⟨k.get t h.l,h.n,h.no,λi u m e1 e2=>let ⟨tc,to,x,a,b,c,d⟩:=h.t i u m e1 e2;⟨tc,to,x,k.get t a,b,k.get t c,k.get t d⟩⟩
theorem jW.same{us:_A}(h:jW H l ts us os ms)(k:aj H H'):jW H' l ts us os ms :=
 ⟨k _ _ h.l,h.n,h.no,λi u m e1 e2=>let ⟨tc,to,x,a,b,c,d⟩:=h.t i u m e1 e2;⟨tc,to,x,k _ _ a,b,k _ _ c,k _ _ d⟩⟩
theorem jW.other{x:Addr}{o:HO}{us:_A}(h:jW H l ts us os ms)(hx:∃az,H x=some (.dT az)):jW (upd H x o) l ts us os ms:=by
 obtain⟨az,hx⟩:=hx;have ne:∀ {a:Addr} {o':HO},H a=some o'->(∀az,o'≠.dT az)->a≠x:=λe n z=>n az (by rw[z,hx] at e;exact(eg e).symm)
 refine⟨by rw[aJ (ne h.l (by intro _ z;cases z))];exact h.l,h.n,h.no,λi u m e1 e2=>?_⟩
 obtain⟨tc,to,x,a,b,c,d⟩:=h.t i u m e1 e2;exact⟨tc,to,x,by rw[aJ (ne a (by intro _ z;cases z))];exact a,b,by rw[aJ (ne c (by intro _ z;cases z))];exact c,by rw[aJ (ne d (by intro _ z;cases z))];exact d⟩
theorem jW.snoc{us:_A}(h:jW H l ts us os ms){u tc to:Addr}{m:Nat×(Int×Int)×(Int×Int)}(hu:H u=some (.tup [.int (m.1:Int),.ref tc,.ref to]))(ht:ts[m.1]? = some tc)
  (hc:H tc=some (.tup [.int m.2.1.1,.int m.2.1.2])) (ho:H to=some (.tup [.int m.2.2.1,.int m.2.2.2])):jW (upd H l (.lst (us.map V.ref++[V.ref u]))) l ts (us++[u]) (os++[to]) (ms++[m]):=by
 have ne:∀ {a:Addr} {xs:_V},H a=some (.tup xs)->a≠l:=λe q=>by rw[q,h.l] at e;cases e
 refine⟨by rw[aE,cj];rfl,by simp[h.n],by simp[h.no],λi u' m' e1 e2=>?_⟩
 by_cases hi:i<us.length
 ·rw[eU hi] at e1;rw[eU (by rw[← h.n];exact hi)] at e2
  obtain⟨tc',to',x,a,b,c,d⟩:=h.t i u' m' e1 e2;exact⟨tc',to',by rw[eU (cJ x)];exact x,by rw[aJ (ne a)];exact a,b,by rw[aJ (ne c)];exact c,by rw[aJ (ne d)];exact d⟩
 ·rw[eV ∅] at e1
  rw[eV (by rw[← h.n];lia),← h.n] at e2
  have hj:i - us.length=0:=by
   have:=(iI.mp e1).1;simp at this;lia
  rw[hj] at e1 e2;cases e1;cases e2;exact⟨tc,to,by rw[eV (by rw[h.no,← h.n];lia),h.no,← h.n,hj];rfl,by rw[aJ (ne hu)];exact hu,ht,by rw[aJ (ne hc)];exact hc,by rw[aJ (ne ho)];exact ho⟩
noncomputable def gb(bz:_Z):Nat->_Z->List Nat
 | _,[]=>[]
 | i,q::z=>if q∈bz then i::gb bz (i+1) z else gb bz (i+1) z
theorem Er(bz:_Z):∀(z:_Z) (i:Nat),lq (dD bz) i z=(gb bz i z).map λ(n:Nat)=>(n:Int)
 | [],i=>rfl
 | q::z,i=>by
  rw[lq,gb];by_cases h:q∈bz
  ·rw[JV h,if_pos (show (some (V.bl true)).isSome=true from rfl),if_pos h,dh,Er bz z]
  ·rw[AB h,if_neg (by simp),if_neg h,Er bz z]
theorem WJ{bz:_Z}:∀ {z:_Z} {i n:Nat},n∈gb bz i z->i<=n/\∃c,z[n - i]? = some c/\c∈bz
 | [],i,n,h=>by cases h
 | q::z,i,n,h=>by
  rw[gb] at h;have tl:n∈gb bz (i+1) z->i<=n/\∃c,(q::z)[n - i]? = some c/\c∈bz:=λh=>by
   obtain⟨h1,c,h2,h3⟩:=WJ h;refine⟨∅,c,?_,h3⟩
   rw[show n - i=(n - (i+1))+1 by lia,wQ]
   exact h2
  split at h
  ·rename_i hq;rcases cV.mp h with rfl | h
   ·exact⟨bx _,q,by simp,hq⟩
   ·exact tl h
  ·exact tl h
theorem af5(bz z:_Z):(gb bz 0 z).length<=z.length:=by
 have:=JU (dD bz) z 0;rw[Er,aM] at this;exact this
theorem WK(us:_Z){o:Int×Int}(h:o∉us):putK (dD us) (kT o) (.bl true)=dD (us++[o]):=by
 rw[Vy _ (AB h)];simp[dD]
def af6(K:W.Frag)(P:Addr)(pos:Pos)(qual:Str):Sp:=λvs H Q _=>∃(ra na d:Addr) (s:Int) (rc:_I) (ts:_A) (z bz:_Z),vs = [.ref ra,.int s,.ref na,.ref d]/\aA K H ra (rc.map V.int)/\2<=rc.length/\rc.length<64/\0<=s/\s<=1000/\(∀c∈rc,s<=c/\c<=1000)/\
 Zn H na ts z/\z.length<=1000000/\H d=some (.dT (dD bz))/\En (bz.map kT)/\bz.length<=1000/\dF P pos qual H/\
 (∀(os:_Z) (r:Int) (is:List Nat),os.length<(gb bz 0 z).length->oO (lG r) rc.length is->kM rc s (bz++os) is≠none)/\
 ∀l us os ms H',Kp P pos qual H H'->H l=none->(∀t∈os,H t=none)->mZ rc s z bz (gb bz 0 z) ms->jW H' l ts us os ms->Q (.ref l) H'
theorem KD(h:j<n):kD n (j:Int)=some j:=by
 unfold kD;rw[if_pos ∅,if_pos ∅]
 simp
noncomputable def qj(nc:_Z)(ms:List (Nat×(Int×Int)×(Int×Int))):_Z:=ms.foldl (λa m=>a.set m.1 m.2.2) nc
theorem af7(nc:_Z)(ms:List (Nat×(Int×Int)×(Int×Int)))(m:Nat×(Int×Int)×(Int×Int)):qj nc (ms++[m])=(qj nc ms).set m.1 m.2.2:=by
 unfold qj;rw[zj];rfl
theorem Es(nc:_Z)(ms:List (Nat×(Int×Int)×(Int×Int))):(qj nc ms).length=nc.length:=by
 unfold qj
 induction ms generalizing nc with
 | nil=>rfl
 | cons m ms ih=>rw[pH,ih,kY]
theorem Zn.setAt{t:Addr}(h:Zn H l ts z){k:Nat}(ht:H t=some (.tup [.int c.1,.int c.2])):Zn (upd H l (.lst ((ts.set k t).map V.ref))) l (ts.set k t) (z.set k c):=by
 have ne:∀ {a:Addr} {xs:_V},H a=some (.tup xs)->a≠l:=λe q=>by rw[q,h.l] at e;cases e
 refine⟨aE,by simp[h.n],λi t' p e1 e2=>?_⟩
 rw[List.getElem?_set] at e1 e2;by_cases hk:k=i
 ·subst hk;rw[if_pos rfl] at e1 e2;have hl:k<ts.length:=by
   by_cases q:k<ts.length
   ·exact q
   ·rw[if_neg q] at e1;cases e1
  rw[if_pos hl] at e1;rw[if_pos (by rw[← h.n];exact hl)] at e2
  cases e1;cases e2;rw[aJ (ne ht)];exact ht
 ·rw[if_neg hk] at e1 e2;have:=h.t i t' p e1 e2;rw[aJ (ne this)];exact this
def af8(K:W.Frag)(C P:Addr)(pos:Pos)(qual:Str):Sp:=λvs H Q _=>∃(p dx za sa ba:Addr) (bw lz:_A) (z bz:_Z) (ak cO s:Int) (sw:_I),vs = [.ref p,.ref za,.int ak,.int cO,.ref sa,.int s,.ref ba]/\CP K C/\cD K C "moves"/\H p=some (.ins C dx [])/\Zn H za bw z/\vD z/\
 1<=ak/\ak<=1000000000/\0<=cO/\cO<ak/\(∀p∈z,ak % p.2=0)/\aA K H sa (sw.map V.int)/\SwOk sw (z.map (·.1)).sum/\Zn H ba lz bz/\bz.length<=1000/\bz.Nodup/\(∀q∈bz,0<=q.1/\q.1<(counts z).length/\0<=q.2/\q.2<(counts z).getD q.1.toNat 0)/\
 (counts z).length<64/\0<=s/\(∀c∈counts z,s<c)/\dF P pos qual H/\
 (∀(os:_Z) (r:Int) (is:List Nat),os.length<(gb bz 0 (gR (counts z) s)).length->oO (lG r) (counts z).length is->kM (counts z) s (bz++os) is≠none)/\
 ∀H' fp mv ts us os ms,(∀b o,H b=some o->b≠p->b≠P->H' b=some o)->dF P pos qual H'->(∀b∈mv::fp,H b=none)->mZ (counts z) s (gR (counts z) s) bz (gb bz 0 (gR (counts z) s)) ms->
  JW K C H' p ⟨counts z,ak,cO,sw,qj (gR (counts z) s) ms⟩ fp mv (us.map V.ref)->jW H' mv ts us os ms->Q .aY H'
theorem KG{α:Type}[DecidableEq α]:∀ {l l':List α},l.Nodup->(∀x∈l,x∈l')->l.length<=l'.length
 | [],_,_,_=>eW _
 | x::l,l',n,h=>by
  rw[jk] at n;have hx:=h x (by simp)
  have:=KG (l:=l) (l':=l'.erase x) n.2 λy hy=>(List.mem_erase_of_ne (λ(e:y=x)=>n.1 (by rw[← e];exact hy))).mpr (h y (cy _ hy))
  rw[List.length_erase_of_mem hx] at this;have:=List.length_pos_of_mem hx;simp only[List.length_cons];lia
theorem KH(bz:_Z):∀(z:_Z) (i:Nat),(gb bz i z).length=(z.filter λc=>decide (c∈bz)).length
 | [],_=>rfl
 | q::z,i=>by
  rw[gb,iu];by_cases h:q∈bz
  ·rw[if_pos h,if_pos (jo h),fH,fH,KH bz z]
  ·rw[if_neg h,if_neg ↑h,KH bz z]
theorem KI{s:Int}:∀(rc:_I) (r:Nat) (c:Int×Int),c∈fZ s r rc->∃j:Nat,j<rc.length/\c.1=((r+j:Nat):Int)/\0<=c.2/\c.2<rc.getD j 0 - s
 | [],r,c,h=>by cases h
 | x::rc,r,c,h=>by
  rw[fZ,fB] at h;rcases h with h | h
  ·obtain⟨k,hk,rfl⟩:=dW.mp h;have:=fJ.mp hk;exact⟨0,by simp,by simp,by show 0<=(k:Int);lia,by show (k:Int)<x - s;lia⟩
  ·obtain⟨j,h1,h2,h3,h4⟩:=KI rc (r+1) c h;exact⟨j+1,↑h1,by rw[h2];congr 1;lia,h3,↑h4⟩
theorem WL(rc:_I)(s:Int):∀is:List Nat,(is.flatMap (kK rc s)).length=is.length*s.toNat
 | []=>by simp
 | o::is=>by
  rw[Hu,e7,WL rc s is,fH,CV];unfold kK;simp;lia
theorem KJ{s:Int}(h:c∈is.flatMap (kK rc s)):∃o∈is,c.1=(o:Int)/\rc.getD o 0 - s<=c.2/\c.2<rc.getD o 0 - s+s.toNat:=by
 obtain⟨o,ho,hc⟩:=zu.mp h;obtain⟨j,hj,rfl⟩:=dW.mp hc;have:=fJ.mp hj;exact⟨o,ho,rfl,by show _<=rc.getD o 0 - s+(j:Int);lia,by show rc.getD o 0 - s+(j:Int)<_;lia⟩
theorem WM(rc:_I)(s:Int):∀ {is:List Nat},is.Nodup->(is.flatMap (kK rc s)).Nodup
 | [],_=>by simp
 | o::is,n=>by
  rw[jk] at n;rw[Hu,CG];refine⟨?_,WM rc s n.2,λa ha b hb e=>?_⟩
  ·unfold kK;rw[wW,qC];refine Ho ?_ (wW.mp CI);intro a b h e;have:=fX Prod.snd e;simp only at this;lia
  ·obtain⟨j,hj,rfl⟩:=dW.mp ha;obtain⟨o',iY,e1,_⟩:=KJ hb;rw[← e] at e1;have e1:(o:Int)=(o':Int):=e1;have:o=o':=by lia
   exact n.1 (this▸iY)
theorem af9{s:Int}(hs:0<=s)(hb:bz.length<=s.toNat*rc.length)(os:_Z)(r:Int)(is:List Nat)
  (ho:os.length<(gb bz 0 (gR rc s)).length) (ord:oO (lG r) rc.length is):kM rc s (bz++os) is≠none:=by
 intro h;unfold kM at h;rw[wM] at h;have nd:is.Nodup:=ord.1.nodup_iff.mpr CI;have il:is.length=rc.length:=by rw[ord.1.length_eq,jI]
 have K1:=WL rc s is;have K2:=WM rc s nd;have c1:=KG (l':=(bz.filter λc => !decide (c∈gR rc s))++os) K2 λc hc=>by
  have:=h c hc;have hm:c∈bz++os:=by
   by_cases q:c∈bz++os
   ·exact q
   ·exact absurd (jo q) this
  rw[fB] at hm ⊢;rcases hm with hm | hm
  ·refine .inl (cY.mpr ⟨hm,?_⟩);rw[Bool.not_eq_true',decide_eq_false_iff_not];intro hz;obtain⟨o,iY,e1,e2,_⟩:=KJ hc;obtain⟨j,j1,j2,j3,j4⟩:=KI rc 0 c hz;have:o=j:=by lia
   rw[this] at e2;lia
  ·exact .inr hm
 have c2:=KG (l:=(gR rc s).filter λc=>decide (c∈bz)) (l':=bz.filter λc=>decide (c∈gR rc s)) ((VZ rc 0).filter _) λc hc=>by
  obtain⟨h1,h2⟩:=cY.mp hc;exact cY.mpr ⟨↑h2,↑h1⟩
 have c3:(bz.filter λc=>decide (c∈gR rc s)).length+(bz.filter λc => !decide (c∈gR rc s)).length=bz.length:=by
  clear h ho hb c1 c2
  induction bz with
  | nil=>rfl
  | cons x bz ih =>
   rw[iu,iu];by_cases q:x∈gR rc s
   ·rw[if_pos (jo q),if_neg ↑q];simp only[List.length_cons];lia
   ·rw[if_neg ↑q,if_pos ↑q];simp only[List.length_cons];lia
 rw[KH] at ho;rw[e7] at c1;rw[K1,il,nU] at c1;lia
theorem af_(us:_Z){o:Int×Int}(h:o∈us):putK (dD us) (kT o) (.bl true)=dD us:=by
 unfold putK;rw[xK,JV h,if_pos (show (some (V.bl true)).isSome=true from rfl)];unfold dD;rw[pI];refine zo λx _=>?_
 show (if kT x=kT o then(kT x,V.bl true) else(kT x,V.bl true))=_
 split <;> rfl
theorem Ep.zn(h:Ep H (dD bz) ts)(nl:H l=none):Zn (upd H l (.lst (ts.map V.ref))) l ts bz:=by
 refine⟨aE,by rw[h.1,dD,aM],λi t p e1 e2=>?_⟩
 have e3:(dD bz)[i]? = some (kT p,V.bl true):=by unfold dD;rw[List.getElem?_map,e2];rfl
 have:=h.2 i t _ e1 e3;rw[aJ (bT this nl)];exact this
def Et(K:W.Frag)(tabs:List (Addr×Addr)):Sp:=λvs H Q _=>∃(a:Addr) (ns:_I),vs = [.ref a]/\aA K H a (ns.map V.int)/\ns.length<=63/\(∀q∈tabs,H q.2=some (.gA #[]))/\∀H',Q (.bl true) H'
theorem walk_lawT{l:PySem.W.OpenLaw}{k:Nat}{q:Program}{XP:(Str->Option Value)->Heap->Prop}{d:DefRec}{K:Params->W.Frag}{x:Str}
  (hn:l.most=some 63) (vt:d.params.defaults = []) (hr:d9 k callerA) (hY:∀(w:World) (h:Heap),YP w h->(K w.params).In h) (AO:∀w:World,PySem.W.noTabs (K w.params)=true)
  (F:∀(w:World) (mg:Str->Option Value) (fa:Addr) (h:Heap),YP w h->(K w.params).In h->h.Ns mainGlobals mg->mg d.name=⇑fa->
   ∃(fd:FuncData) (tabs:List (Addr×Addr)),(∀(s:Shared) (u:Value),BindsTo s fd ⟨[u],[]⟩ [(x,u)])/\PySem.W.TabsAt tabs h/\
    ∀base:Heap,(K w.params).In base->base.Ns mainGlobals mg->(∀q∈tabs,bI mg base q.1 q.2)->bq l.prog w (K w.params) mg base bF k fa fd [x] (Et (K w.params) tabs)) :
  PySem.W.WalkO q loose XP YP l.row.toRowW d [] (λf vs=>PySem.call f vs) :=
 afK (n:=63) (sp:=λw tabs=>Et (K w.params) tabs) hn ⋯ vt hr hY AO F (λ_ tabs H a ns hl hT hS=>⟨a,ns,rfl,hS,hl,hT,λ_=>rfl⟩)
noncomputable abbrev Us:=List (Addr×_I)
noncomputable def uV(zs:Us):_V:=zs.map λz=>V.ref z.1
def oU(H:Hp)(zs:Us):Prop:=∀z,z∈zs->H z.1=some (.tup (z.2.map V.int))
theorem WN(zs:Us):(uV zs).length=zs.length:=by simp[uV]
theorem aga{ns ms:_I}(h:H p=some (.tup (ns.map V.int)))(h':H p=some (.tup (ms.map V.int))):ns=ms:=by
 have z:=h.symm.trans h';injection z with z;injection z with z;exact J0 z
section
noncomputable def Eu(zs:Us)(c:_I):Value->Bool
 | .ref a=>zs.any λz=>decide (z.1=a) && decide (z.2=c)
 | _=>false
theorem KL{zs:Us}{c:_I}(h:oU H zs){z:Addr×_I}(hz:z∈zs):Eu zs c (.ref z.1)=decide (z.2=c):=by
 unfold Eu;rw[kX];simp only[List.any_eq_true,Bool.and_eq_true,decide_eq_true_eq];constructor
 ·rintro⟨y,hy,e1,e2⟩;have:=h y hy;rw[e1] at this;exact(aga (h z hz) this).trans e2
 ·exact λe=>⟨z,hz,rfl,e⟩
theorem WO{zs:Us}(r:Vals (uV zs) aC):aC=zs.map λz=>Value.ref z.1:=by
 induction zs generalizing aC with
 | nil=>cases r;rfl
 | cons z zs ih =>
  cases r with
  | cons a b =>
  cases a;rw[ih b];rfl
theorem agb{zs:Us}{c:_I}(h:oU H zs):(zs.map λz=>Value.ref z.1).any (Eu zs c)=decide (c∈zs.map (·.2)):=by
 rw[kX];simp only[List.any_eq_true,decide_eq_true_eq,List.mem_map];constructor
 ·rintro⟨_,⟨z,hz,rfl⟩,e⟩;rw[KL h hz,sQ] at e;exact⟨z,hz,e⟩
 ·rintro⟨z,hz,e⟩;exact⟨_,⟨z,hz,rfl⟩,by rw[KL h hz,sQ];exact e⟩
end
section
def KN(K:W.Frag)(neg:Bool):R2:=λx y H Q=>∃(a p:Addr) (c:_I) (zs:Us),x = .ref a/\y = .ref p/\H a=some (.tup (c.map V.int))/\aA K H p (uV zs)/\oU H zs/\
 Q (.bl (if neg then !decide (c∈zs.map (·.2)) else decide (c∈zs.map (·.2)))) H
theorem agc(hu:X.A.units+16<cLine):cN X (compareOp .In) (KN X.K false):=by
 intro pins s σ H x y v u Q I rx ry h;obtain⟨a,p,c,zs,rfl,rfl,ha,hq,hz,q⟩:=h;cases ry;cases rx;obtain⟨aC,r,pl,_⟩:=I.list hq;have e:=WO r;subst e;refine SeqAt.in_listAt (Eu zs c) pl.isList (λw hw=>?_) ⟨.bl _,H,I,rfl,?_⟩
 ·rw[List.mem_toArray] at hw;obtain⟨z,h1,rfl⟩:=dW.mp hw;rw[KL hz h1];exact ae1 I (by show X.A.units+1+1<cLine;lia) (hz z h1) ha
 ·rw[List.any_toArray,agb hz];exact q
def WQ:V->_V->Hp->VK->Prop:=λx vs H Q=>∃(l a:Addr) (zs:Us) (c:_I),x = .ref l/\vs = [.ref a]/\H l=some (.lst (uV zs))/\oU H zs/\H a=some (.tup (c.map V.int))/\c∈zs.map (·.2)/\
 ∀(k:Nat) (h:k<zs.length),zs[k].2=c->(∀m (hm:m<zs.length),m<k->zs[m].2≠c)->Q .aY (upd H l (.lst (uV (zs.eraseIdx k))))
end
theorem mZ.at{s:Int}{ns:List Nat}(h:mZ rc s z us ns ms):∀(k:Nat) (m:Nat×(Int×Int)×(Int×Int)),ms[k]? = some m->
  ns[k]? = some m.1/\z[m.1]? = some m.2.1/\∃is,oO (lG m.2.1.1) rc.length is/\kM rc s (us++(ms.take k).map λm=>m.2.2) is=some m.2.2:=by
 induction h with
 | nil=>intro k m e;simp at e
 | @snoc ns ms n c o h hc is ho hf ih =>
  intro k m e;have ln:=h.len;by_cases hk:k<ms.length
  ·rw[eU hk] at e;obtain⟨a,b,is',c1,d⟩:=ih k m e;refine⟨by rw[eU ∅];exact a,b,is',c1,?_⟩
   rw[Uh ∅];exact d
  ·rw[eV ∅] at e
   have hj:k - ms.length=0:=by
    have:=(iI.mp e).1;simp at this;lia
   rw[hj] at e;cases e;have g9:k=ms.length:=by lia
   subst g9;refine⟨by rw[eV ∅,ln];simp,hc,is,ho,?_⟩
   rw[Uh ∅,cZ];exact hf
theorem WR(bz:_Z):∀(z:_Z) (i k n:Nat),(gb bz i z)[k]? = some n->(z.filter λc=>decide (c∈bz))[k]? = z[n - i]?/\i<=n
 | [],i,k,n,h=>by simp[gb] at h
 | q::z,i,k,n,h=>by
  have tl:∀k,(gb bz (i+1) z)[k]? = some n->(z.filter λc=>decide (c∈bz))[k]? = (q::z)[n - i]?/\i<=n:=λk h=>by
   obtain⟨h1,h2⟩:=WR bz z (i+1) k n h;refine⟨?_,∅⟩
   rw[h1,show n - i=(n - (i+1))+1 by lia,wQ]
  rw[gb] at h;rw[iu];by_cases hq:q∈bz
  ·rw[if_pos hq] at h;rw[if_pos (jo hq)];cases k with
   | zero =>
    rw[List.getElem?_cons_zero] at h;cases h;exact⟨by simp,bx _⟩
   | succ k =>
    rw[wQ] at h ⊢;exact tl k h
  ·rw[if_neg hq] at h;rw[if_neg ↑hq]
   exact tl k h
theorem agd{s:Int}(h:mZ rc s z bz (gb bz 0 z) ms){k:Nat}(hk:k<ms.length) :
  (z.filter λc=>decide (c∈bz))[k]? = some ms[k].2.1/\∃is,oO (lG ms[k].2.1.1) rc.length is/\kM rc s (bz++(ms.take k).map λm=>m.2.2) is=some ms[k].2.2:=by
 obtain⟨a,b,is,c,d⟩:=h.at k ms[k] (aV hk);obtain⟨e,_⟩:=WR bz z 0 k _ a;exact⟨by rw[e,CU];exact b,is,c,d⟩
noncomputable def zU:_A->_Z->Us:=λts z=>(ts.zip z).map λp=>(p.1,[p.2.1,p.2.2])
section
variable{g:TG}{nt:Nat}{Q:VK}
theorem Zn.push{t:Addr}(h:Zn H l ts z)(ht:H t=some (.tup [.int c.1,.int c.2])):Zn (upd H l (.lst (ts.map V.ref++[V.ref t]))) l (ts++[t]) (z++[c]):=by
 have ne:∀ {a:Addr} {xs:_V},H a=some (.tup xs)->a≠l:=λe q=>by rw[q,h.l] at e;cases e
 refine⟨by rw[aE,cj];rfl,by simp[h.n],λi t' p e1 e2=>?_⟩
 by_cases hi:i<ts.length
 ·rw[eU hi] at e1;rw[eU (by rw[← h.n];exact hi)] at e2
  have:=h.t i t' p e1 e2;rw[aJ (ne this)];exact this
 ·rw[eV ∅] at e1
  rw[eV (by rw[← h.n];lia),← h.n] at e2
  have hj:i - ts.length=0:=by
   have:=(iI.mp e1).1;simp at this;lia
  rw[hj] at e1 e2;cases e1;cases e2;rw[aJ (ne ht)];exact ht
end
theorem WS{s:Int}(hs:0<=s):∀(rc:_I) (r:Nat),(∀c∈rc,c<=60)->(fZ s r rc).length<=rc.length*60
 | [],_,_=>eW _
 | c::rc,r,h=>by
  have ih:=WS hs rc (r+1) λx hx=>h x (cy _ hx);have:=h c cL;rw[fZ,e7,aM,jI,fH];lia
section
theorem KO:i9 X (.type "int") (λxs H Q=>∃b,xs = [.bl b]/\Q (.int (if b then 1 else 0)) H):=by
 intro pins s σ H xs us Q I r h;obtain⟨b,rfl,q⟩:=h;obtain⟨u,rfl,ru⟩:=vals1 r;cases (show u=Value.bool b from ru);exact call_int_bool ⟨.int _,H,I.tok _,⟨_,rfl⟩,q⟩
end
theorem KP{α:Type}:∀r:List α,(List.range r.length).filterMap (λk=>r[k]?)=r
 | []=>rfl
 | x::r=>by
  rw[fH,List.range_succ_eq_map,uF]
  show x::_=_;rw[Hs];exact fX (x :: ·) (KP r)
theorem WT{α β:Type}{f g:α->Option β}:∀ {l:List α},(∀x∈l,f x=g x)->l.filterMap f=l.filterMap g
 | [],_=>rfl
 | x::l,h=>by
  rw[uF,uF,h x cL,WT λy hy=>h y (cy _ hy)]
theorem age(aC:List Value):slicePick aC.toArray none none (some (-1))=aC.reverse.toArray:=by
 have e:sliceBounds none none (some (-1)) aC.toArray.size=((aC.length:Int) - 1,-1,-1):=by simp[sliceBounds]
 have e2:sliceRange ((aC.length:Int) - 1) (-1) (-1)=(List.range aC.length).map λk=>aC.length - 1 - k:=by
  unfold sliceRange;have c:(if (aC.length:Int) - 1 > -1 then((aC.length:Int) - 1 - -1 - -1 - 1) / (- -1) else 0).toNat=aC.length:=by
   rw[show (- -1:Int)=1 by decide,Int.ediv_one]
   split <;> lia
  simp only[show ¬ ((-1:Int) > 0) by decide,if_false]
  rw[c];refine zo λk hk=>?_;have:=fJ.mp hk;lia
 unfold slicePick;rw[e]
 show (List.filterMap _ (sliceRange ((aC.length:Int) - 1) (-1) (-1))).toArray=_;rw[e2,Hs];have e3:=KP aC.reverse;rw[List.length_reverse] at e3;refine fX List.toArray (Eq.trans ?_ e3);refine WT λk hk=>?_;have:=fJ.mp hk;rw[List.getElem?_reverse this];simp
section
variable{st:Expr}{ts:TE}
def KQ(K:W.Frag)(te ts:TE):TE:=λσ H Q=>te σ H λx H1=>ts σ H1 λk H2=>∃a xs,x = .ref a/\k = .int (-1)/\aA K H2 a xs/\∀p,H2 p=none->Q (.ref p) (upd H2 p (.lst xs.reverse))
theorem agf(he:PE X e te)(hs:PE X st ts):PE X (.Subscript e (.Slice none none (some st) p2) pos) (KQ X.K te ts):=by
 intro pins s σ H Q I h;refine Subscript_ (aW (he pins s σ H _ I h) λv s1 bO=>?_);obtain⟨x,H1,I1,r1,q1⟩:=bO;refine wpAny_Slice ?_;rw[evalPart_none];refine aP (aP ?_);rw[evalPart_some];refine aW (hs pins s1 σ H1 _ I1 q1) λvk s3 bO=>?_;obtain⟨k,H3,I3,r3,a,xs,ex,ek,hx,q⟩:=bO;subst ex ek;cases r1;obtain⟨t,rfl⟩:=r3;have I4:Inv X pins σ H3 { s3 with heap:=s3.heap.push { cls:=.type "slice",data:=.fields #[.none,.none,.int (-1) t] }}:=I3.kept (t':=s3.toks) λb ob q=>cU _ q;obtain⟨aC,r,ht,hz⟩:=I4.list hx;have hlen:=r.length
 show wpAny (model X.prog X.w) X.A (subscriptTail e (.Slice none none (some st) p2) (.ref a) (.ref s3.heap.objs.size)) (EP X pins σ Q) X.xe { s3 with heap:=s3.heap.push { cls:=.type "slice",data:=.fields #[.none,.none,.int (-1) t] }};refine tail_any (ops:=[.ref a,.ref s3.heap.objs.size]) (ht.isList.typeIs) (slot_list_getitem.lookup) ?_ (by with_unfolding_all rfl)
 refine wpAny_getItem_list_slice ht.isList (Heap.IsSliceOf.new ..) .none .none (.int _ _) (by simp) ?_ (by rw[List.size_toArray] <;> lia)
 rw[age];refine⟨.ref _,_,I4.laid (t':=s3.toks) (o:=.lst xs.reverse) (λb ob q=>cU _ q) (bx _) ?_,rfl,q _ (I4.aO.fresh (bx _))⟩;exact⟨by rw[List.length_reverse];exact hz,_,0,r.reverse,gf _ rfl⟩
end
structure rF(xs:_I)(n:Nat):Prop where
 n:xs.length=n
 b:∀x∈xs,0<=x/\x<2147483647
theorem rF.at{xs:_I}(h:rF xs n)(i:Nat):0<=xs.getD i 0/\xs.getD i 0<2147483647:=by
 by_cases hi:i<xs.length
 ·rw[show xs.getD i 0=xs[i] by simp[hi]];exact h.b _ (dU hi)
 ·rw[show xs.getD i 0=0 by simp;rw[qB ∅];rfl];lia
theorem rF.md{xs:_I}(h:rF xs n)(i:Nat){k:Int}(hk:0<k):0<=xs.getD i 0 % k/\xs.getD i 0 % k<k:=⟨fR _ ∅,fQ _ hk⟩
def agg:Sp:=λvs H Q _=>∃(c m:Int),vs = [.int c,.int m]/\0<=m/\m<=100/\∀(l:Addr) (ns:_I) (H':Hp),aj H H'->H l=none->H' l=some (.lst (ns.map V.int))->rF ns m.toNat->Q (.ref l) H'
noncomputable def sumF(f:Nat->Int):Nat->Int
 | 0=>0
 | i+1=>sumF f i+f i
theorem WU{f:Nat->Int}(hd:∀i,f (i+1)<=f i)(a:Nat):∀b,f (a+b)<=f b
 | b=>by
  induction a with
  | zero=>rw[sO];exact nQ _
  | succ a ih=>rw[show a+1+b=a+b+1 by lia];exact Ct (hd _) ih
theorem WV{f:Nat->Int}(hd:∀i,f (i+1)<=f i)(a:Nat):∀b,sumF f (a+b)<=sumF f a+sumF f b
 | 0=>by simp[sumF]
 | b+1=>by
  have ih:=WV hd a b;have:=WU hd a b;rw[← Nat.add_assoc,sumF,sumF];lia
theorem WW{f:Nat->Int}(h1:1<=f 0)(hd:∀i,0<=f i/\f (i+1)<=f i):∀i:Nat,(1<=i->1<=sumF f i)/\0<=sumF f i/\sumF f i<=f 0*(i:Int)
 | 0=>by simp[sumF]
 | i+1=>by
  have ih:=WW h1 hd i;have h2:=(hd i).1;have h3:f i<=f 0:=WU (λi=>(hd i).2) i 0;have e:f 0*((i+1:Nat):Int)=f 0*(i:Int)+f 0:=by
   rw[show ((i+1:Nat):Int)=(i:Int)+1 by lia,Int.mul_add,Int.mul_one]
  refine⟨λ_=>?_,?_,?_⟩
  ·rw[sumF];by_cases hi:i=0
   ·subst hi;simp only[sumF];lia
   ·have:=ih.1 ∅;lia
  ·rw[sumF];lia
  ·rw[sumF,e];lia
theorem WX{f:Nat->Int}(h1:1<=f 0)(h7:f 0<=10000000)(hd:∀i,0<=f i/\f (i+1)<=f i)(h2:2<=n)(aqp:n<=100):SwOk ((List.range n).map (sumF f)) (n:Int):=by
 refine⟨by simp,∅,by rw[range_getD ∅];rfl,λi vI hi=>?_,λi vI hi=>?_,λa b ha hb q_=>?_⟩
 ·rw[aM,jI] at hi;rw[range_getD hi];have:=WW h1 hd i;have e:f 0*(i:Int)<=10000000*(i:Int):=Int.mul_le_mul_of_nonneg_right h7 ∅
  have:=this.1 vI;lia
 ·rw[aM,jI] at hi;rw[range_getD hi,range_getD ∅]
  obtain⟨j,rfl⟩:∃j,i=j+1:=⟨i - 1,∅⟩
  have:=(hd j).1;rw[sumF];show sumF f j<=_;lia
 ·rw[aM,jI] at q_;rw[range_getD q_,range_getD ∅,range_getD ∅]
  exact WV (λi=>(hd i).2) a b
noncomputable def g_(xs:_I)(s0:Int):Nat->Int
 | 0=>s0
 | i+1=>g_ xs s0 i - xs.getD (12+(1+(i:Int)) % 10).toNat 0 % (g_ xs s0 i+1)
theorem Ew(xs:_I){s0:Int}(h:1<=s0):∀i,0<=g_ xs s0 i/\g_ xs s0 (i+1)<=g_ xs s0 i:=by
 have h0:∀i,0<=g_ xs s0 i:=λi=>by
  induction i with
  | zero=>simp only[g_];lia
  | succ i ih =>
   rw[g_];have:=fQ (xs.getD (12+(1+(i:Int)) % 10).toNat 0) (show 0<g_ xs s0 i+1 by lia)
   lia
 intro i;refine⟨h0 i,?_⟩;have:=h0 i;rw[g_];have:=fR (xs.getD (12+(1+(i:Int)) % 10).toNat 0) (show g_ xs s0 i+1≠0 by lia)
 lia
def agh(K:W.Frag):Sp:=λvs H Q _=>∃(xa:Addr) (xs:_I) (m:Int),vs = [.ref xa,.int m]/\H xa=some (.lst (xs.map V.int))/\rF xs 24/\2<=m/\m<=60/\
 ∀l sw H',aj H H'->H l=none->H' l=some (.lst (sw.map V.int))->SwOk sw m->Q (.ref l) H'
structure iP(H:Hp)(t:Addr)(z:_Z)(ak sk:Int)(sw:_I)(za:Addr)(bw:_A)(ca sa:Addr):Prop where
 o:H t=some (.tup [.ref za,.ref ca,.int ak,.int sk,.ref sa])
 zn:Zn H za bw z
 c:H ca=some (.lst ((counts z).map V.int))
 s:H sa=some (.lst (sw.map V.int))
structure h_(z:_Z)(ak sk:Int)(sw:_I):Prop where
 zl:ZL z
 l1:1<=ak
 l2:ak<=1000000000
 l3:∀p∈z,ak % p.2=0
 k0:0<=sk
 k1:sk<ak
 so:SwOk sw (z.map (·.1)).sum
theorem iP.same{H H':Hp}{t:Addr}{z:_Z}{ak sk:Int}{sw:_I}{za:Addr}{bw:_A}{ca sa:Addr}(h:iP H t z ak sk sw za bw ca sa)(s:aj H H'):iP H' t z ak sk sw za bw ca sa :=
 ⟨s _ _ h.o,h.zn.same s,s _ _ h.c,s _ _ h.s⟩
def agi(K:W.Frag):Sp:=λvs H Q _=>∃(c m:Int),vs = [.int c,.int m]/\∀t z ak sk sw za bw ca sa H',aj H H'->H t=none->iP H' t z ak sk sw za bw ca sa->h_ z ak sk sw->Q (.ref t) H'
noncomputable def bJ(z:_Z)(ak sk:Int)(sw:_I)(nc:_Z):Pl:=⟨counts z,ak,sk,sw,nc⟩
theorem h_.pl(h:h_ z ak sk sw)(nc:_Z):fO (bJ z ak sk sw nc):=aeX h.zl h.l1 h.so
theorem agj(P:Pl)(r c b:Int):b+(c*(P.ak / P.rc.getD r.toNat 0)+r*P.cO - b) % P.ak=kI P r c b:=by
 unfold kI qc;rw[Cv ((c*(P.ak / P.rc.getD r.toNat 0)+r*P.cO) % P.ak),Cs _ (Cq _),← Cv]
def agk(K:W.Frag):Sp:=λvs H Q _=>∃(t:Addr) (z:_Z) (ak sk:Int) (sw:_I) (za:Addr) (bw:_A) (ca sa:Addr) (r b:Int) (cl:Addr) (aX:_A) (cz:_Z),vs = [.ref t,.int r,.int b,.ref cl]/\
 iP H t z ak sk sw za bw ca sa/\h_ z ak sk sw/\0<=r/\r<(counts z).length/\Zn H cl aX cz/\kJ (bJ z ak sk sw []) cz/\cz.length<=1000/\
 ∀l ts H',aj H H'->H l=none->(∀t∈ts,H t=none)->Zt H' l ts (eN (bJ z ak sk sw []) (r,b) cz)->Q (.ref l) H'
def agl(K:W.Frag):Sp:=λvs H Q _=>∃(t:Addr) (z:_Z) (ak sk:Int) (sw:_I) (za:Addr) (bw:_A) (ca sa:Addr) (r b:Int) (cl:Addr) (aX:_A) (cz:_Z),vs = [.ref t,.int r,.int b,.ref cl]/\
 iP H t z ak sk sw za bw ca sa/\h_ z ak sk sw/\0<=r/\r<(counts z).length/\Zn H cl aX cz/\kJ (bJ z ak sk sw []) cz/\cz.length<=1000/\
 ∀u H',aj H H'->H u=none->H' u=some (.tup [.int (aQ (bJ z ak sk sw []) (r,b) cz).1,.int (aQ (bJ z ak sk sw []) (r,b) cz).2])->Q (.ref u) H'
theorem WY(P:Pl):∀(xs:_Z) (s:Int×Int) {i:Nat},i<xs.length->∃x y,(eN P s xs).getD i [] = [(aQ P s (xs.take (i+1))).1,x,y,(aQ P s (xs.take (i+1))).2]
 | [],_,i,h=>by simp at h
 | q::xs,s,0,_=>⟨q.2,tN P s q,by simp[eN,rm,aQ,d_]⟩
 | q::xs,s,i+1,h=>by
  obtain⟨x,y,e⟩:=WY P xs (d_ P s q) (i:=i) ↑h
  refine⟨x,y,?_⟩;rw[eN,List.getD_cons_succ,e,List.take_succ_cons,aQ]
structure ZP(z:_Z):Prop where
 r:∀p∈z,1<=p.1/\p.1<=3/\1<=p.2/\p.2<=8
 s2:2<=(z.map (·.1)).sum
theorem WZ:∀ {z:_Z},(∀p∈z,1<=p.1/\p.1<=3)->0<=(z.map (·.1)).sum/\(z.map (·.1)).sum<=3*(z.length:Int)
 | [],_=>by simp
 | p::z,h=>by
  have ih:=WZ λq hq=>h q (cy _ hq);have:=h p cL;rw[dh,List.sum_cons,fH];lia
theorem ZP.snoc(h:ZP z){p:Int×Int}(hp:1<=p.1/\p.1<=3/\1<=p.2/\p.2<=8):ZP (z++[p]):=by
 refine⟨λq hq=>?_,?_⟩
 ·rcases fB.mp hq with hq | hq
  ·exact h.r q hq
  ·rw[fV.mp hq];exact hp
 ·have:=h.s2;rw[cj,CL];simp;lia
theorem ZP.zl(h:ZP z)(h1:1<=z.length)(h3:z.length<=3):ZL z:=by
 have s:=WZ λp hp=>⟨(h.r p hp).1,(h.r p hp).2.1⟩;have s2:=h.s2;refine⟨⟨h1,∅,λp hp=>?_,s2,∅⟩,?_,∅⟩
 ·have:=h.r p hp;lia
 ·have b:=(DY (m:=8) ⋯ z λp hp=>(h.r p hp).2.2).2
  have:=VW (m:=8) ⋯ (show z.length<=5 by lia)
  have e:(8:Int) ^ 5=32768:=by decide
  lia
theorem agm{p:Int×Int}(h:z[i]? = some p):counts (z.take (i+1))=counts (z.take i)++List.replicate p.1.toNat p.2:=by
 rw[take_succ_get h];simp[counts]
theorem W0(zl:ZL z){x:Int}(h0:0<=x)(h1:x<900\/x<1000000000 / fM z):1<=fM z*(1+x)/\fM z*(1+x)<=1000000000/\∀p∈z,fM z*(1+x) % p.2=0:=by
 have hb:=DY (m:=60) ⋯ z λp hp=>(zl.ok.r p hp).2.2
 have hp:=zl.pr;have hm:∃m,1+x<=m/\fM z*m<=1000000000:=by
  rcases h1 with h1 | h1
  ·exact⟨900,∅,∅⟩
  ·exact⟨1000000000 / fM z,∅,Int.mul_ediv_self_le ∅⟩
 obtain⟨m,m1,m2⟩:=hm;refine⟨?_,?_,λp hp=>Int.emod_eq_zero_of_dvd (Int.dvd_trans (VV hp) (Int.dvd_mul_right _ _))⟩
 ·have:=qA hb.1 (show 1<=1+x by lia) ⋯ ∅;lia
 ·have:=qA (nQ (fM z)) m1 ∅ ∅;lia
theorem Zn.one{t:Addr}(h:H t=some (.tup [.int c.1,.int c.2]))(nl:H l=none):Zn (upd H l (.lst [.ref t])) l [t] [c]:=by
 refine⟨aE,rfl,λi t' p e1 e2=>?_⟩;cases i with
 | zero =>
  simp at e1 e2;subst e1 e2;rw[aJ (bT h nl)];exact h
 | succ i=>simp at e1
theorem W2(v:Int):∀k:Nat,(List.replicate k [V.int v]).flatten=(List.replicate k v).map V.int
 | 0=>rfl
 | k+1=>by rw[qD,wO,W2 v k,qD,dh];rfl
structure vJ(rc:_I)(nc:_Z):Prop where
 n2:2<=nc.length
 n1:nc.length<=1000
 c:∀q∈nc,0<=q.1/\q.1<rc.length/\0<=q.2/\q.2<rc.getD q.1.toNat 0
theorem W3{c:Int×Int}:∀(ms:List (Nat×(Int×Int)×(Int×Int))) (nc:_Z),c∈qj nc ms->c∈nc\/∃m∈ms,c=m.2.2
 | [],nc,h=>.inl h
 | m::ms,nc,h=>by
  have h:c∈qj (nc.set m.1 m.2.2) ms:=h;rcases W3 ms _ h with h | ⟨m',hm,e⟩
  ·rcases Hy h with h | h
   ·exact .inl h
   ·exact .inr ⟨m,cL,h⟩
  ·exact .inr ⟨m',cy _ hm,e⟩
theorem W4{s:Int}(h2:2<=rc.length)(W5:rc.length<=15)(yd:∀c∈rc,s<c/\c<=60)(hs:0<=s)(L:mZ rc s (gR rc s) bz (gb bz 0 (gR rc s)) ms):vJ rc (qj (gR rc s) ms):=by
 have gd:∀i:Nat,i<rc.length->rc.getD i 0∈rc:=λi hi=>by rw[show rc.getD i 0=rc[i] by simp[hi]];exact dU hi
 have ge:∀(rc:_I) (r:Nat),(∀c∈rc,s<c)->rc.length<=(fZ s r rc).length:=by
  intro rc
  induction rc with
  | nil=>intro r _;exact eW _
  | cons c rc ih =>
   intro r h;have:=ih (r+1) λx hx=>h x (cy _ hx);have:=h c cL;rw[fZ,e7,aM,jI,fH];lia
 have lo:=ge rc 0 λc hc=>(yd c hc).1;have hi:=WS hs rc 0 λc hc=>(yd c hc).2;refine⟨by rw[Es];exact cH h2 lo,by rw[Es];exact cH hi ∅,λq hq=>?_⟩
 rcases W3 ms _ hq with hq | ⟨m,hm,rfl⟩
 ·obtain⟨j,j1,j2,j3,j4⟩:=KI rc 0 q hq;rw[show q.1.toNat=j by lia]
  lia
 ·obtain⟨k,hk,rfl⟩:=iJ.mp hm;obtain⟨_,is,ord,ff⟩:=agd L hk;unfold kM at ff;obtain⟨_,as,bs,e,_⟩:=List.find?_eq_some_iff_append.mp ff;have AL:ms[k].2.2∈is.flatMap (kK rc s):=by rw[e];simp
  obtain⟨o,ho,o1,o2,o3⟩:=KJ AL;have ol:=fJ.mp (ord.1.mem_iff.mp ho);have:=yd _ (gd o ol);rw[show ms[k].2.2.1.toNat=o by lia]
  lia
theorem agn(h2:2<=rc.length)(W5:rc.length<=15)(yd:∀c∈rc,0<c/\c<=60):vJ rc (gR rc 0):=by
 have:=W4 (s:=0) (bz:=[]) (ms:=[]) h2 W5 yd (nQ _) (by
  have e:∀(z:_Z) (i:Nat),gb [] i z = []:=by
   intro z
   induction z with
   | nil=>intro i;rfl
   | cons q z ih=>intro i;simp[gb,ih]
  rw[e];exact .nil)
 exact this
def ago(K:W.Frag)(cs:_A)(P:Addr)(pos:Pos)(qual:Str):Sp:=λvs H Q _=>∃(t:Addr) (z:_Z) (ak sk:Int) (sw:_I) (za:Addr) (bw:_A) (ca sa:Addr) (c:Int),vs = [.ref t,.int c]/\
 iP H t z ak sk sw za bw ca sa/\h_ z ak sk sw/\dF P pos qual H/\
 ∀C p nc fp H',(∀b o,H b=some o->b≠P->H' b=some o)->C∈cs->dR K C H' p (bJ z ak sk sw nc) fp->vJ (counts z) nc->Q (.ref p) H'
theorem iP.but{P:Addr}{t:Addr}{za:Addr}{bw:_A}{ca:Addr}(h:iP H t z ak sk sw za bw ca sa)(T:dF P pos qual H)(k:∀b o,H b=some o->b≠P->H' b=some o):iP H' t z ak sk sw za bw ca sa:=by
 have g:∀ {a:Addr} {o:HO},H a=some o->(∀ps,o≠.gA ps)->H' a=some o:=λe n=>k _ _ e (T.ne e n);exact⟨g h.o (λ_ z=>nomatch z),⟨g h.zn.l (λ_ z=>nomatch z),h.zn.n,λi t p e1 e2=>g (h.zn.t i t p e1 e2) (λ_ z=>nomatch z)⟩,g h.c (λ_ z=>nomatch z),g h.s (λ_ z=>nomatch z)⟩
noncomputable def fF(nc:_Z)(f m:Int):_Z:=(nc.drop f.toNat).take m.toNat
theorem W6{f m:Int}(h:c∈fF nc f m):c∈nc:=CF (pJ h)
theorem KR{f m:Int}(h0:0<=f)(h1:0<=m)(h:f+m<=nc.length):(fF nc f m).length=m.toNat:=by
 unfold fF;rw[dw,wU];lia
theorem KS{f:Int}(h0:0<=f)(h:nc[(f+(i:Int)).toNat]? = some c):(nc.drop f.toNat).take (i+1)=(nc.drop f.toNat).take i++[c]:=by
 refine take_succ_get ?_;rw[List.getElem?_drop,show f.toNat+i=(f+(i:Int)).toNat by lia];exact h
def agp(K:W.Frag)(cs:_A)(CA:Addr):Sp:=λvs H Q _=>∃(C p ap:Addr) (P:Pl) (fp:_A) (q:Ak) (m b dx:Addr),vs = [.ref p,.ref ap]/\C∈cs/\dR K C H p P fp/\lA K CA H ap q m b dx/\Kf P.nc.length q/\P.nc.length<=1000000/\
 ∀l ts H',aj H H'->H l=none->Zn H' l ts (fF P.nc q.first q.many)->Q (.ref l) H'
def agq(K:W.Frag)(cs:_A)(CA:Addr):Sp:=λvs H Q _=>∃(C p ap:Addr) (k:Int) (P:Pl) (fp:_A) (q:Ak) (m b dx:Addr),vs = [.ref p,.int k,.ref ap]/\C∈cs/\dR K C H p P fp/\lA K CA H ap q m b dx/\Kf P.nc.length q/\P.nc.length<=1000000/\
 ∀l ts H',aj H H'->H l=none->Zn H' l ts (fF P.nc q.first q.many)->Q (.ref l) H'
structure Dr where
 n:Int
 q:Ak
 c:_Z
noncomputable def m_(n:Int)(ap l:Addr):List (Str×V):=[("number",.int n),("ask",.ref ap),("cells",.ref l)]
structure jz(K:W.Frag)(CA CD:Addr)(H:Hp)(p:Addr)(d:Dr)(dx ap l:Addr)(ts:_A)(m b cA:Addr):Prop where
 o:H p=some (.ins CD dx (m_ d.n ap l))
 a:lA K CA H ap d.q m b cA
 c:Zn H l ts d.c
theorem jz.same{K:W.Frag}{CA CD:Addr}{H H':Hp}{p:Addr}{d:Dr}{dx ap l:Addr}{ts:_A}{m b cA:Addr}(h:jz K CA CD H p d dx ap l ts m b cA)(s:aj H H'):jz K CA CD H' p d dx ap l ts m b cA:=⟨s _ _ h.o,h.a.same s,h.c.same s⟩
def agr(K:W.Frag)(cs:_A)(CA CD:Addr):Sp:=λvs H Q _=>∃(C p pl ap dx:Addr) (n:Int) (P:Pl) (fp:_A) (q:Ak) (m b cA:Addr),vs = [.ref p,.ref pl,.int n,.ref ap]/\H p=some (.ins CD dx [])/\C∈cs/\dR K C H pl P fp/\p≠pl/\p∉fp/\lA K CA H ap q m b cA/\Kf P.nc.length q/\P.nc.length<=1000000/\
 ∀l ts H',H l=none->SameBut p H H'->jz K CA CD H' p ⟨n,q,fF P.nc q.first q.many⟩ dx ap l ts m b cA->Q .aY H'
structure Kn where
 n:Int
 f:Int
 m:Int
 w:Bool
 bh:_I
 f_:Option Int
 c:_Z
structure gF(H:Hp)(t:Addr)(k:Kn)(b cl:Addr)(aX:_A):Prop where
 o:H t=some (.tup [.int k.n,.int k.f,.int k.m,.bl k.w,.ref b,jU k.f_,.ref cl])
 b:H b=some (.tup (k.bh.map V.int))
 c:Zn H cl aX k.c
theorem gF.same{H H':Hp}{t:Addr}{k:Kn}{b cl:Addr}{aX:_A}(h:gF H t k b cl aX)(s:aj H H'):gF H' t k b cl aX:=⟨s _ _ h.o,s _ _ h.b,h.c.same s⟩
structure dG(H:Hp)(l:Addr)(ts:_A)(ks:List Kn):Prop where
 l:H l=some (.lst (ts.map V.ref))
 n:ts.length=ks.length
 t:∀(i:Nat) (t:Addr) (k:Kn),ts[i]? = some t->ks[i]? = some k->∃b cl aX,gF H t k b cl aX
theorem dG.same{H H':Hp}{l:Addr}{ts:_A}{ks:List Kn}(h:dG H l ts ks)(s:aj H H'):dG H' l ts ks :=
 ⟨s _ _ h.l,h.n,λi t k e1 e2=>let ⟨b,cl,aX,a⟩:=h.t i t k e1 e2;⟨b,cl,aX,a.same s⟩⟩
theorem dG.at{ks:List Kn}(h:dG H l ts ks)(hi:i<ks.length):∃t b cl aX,(ts.map V.ref)[i]? = ⇑t/\gF H t ks[i] b cl aX:=by
 have ht:i<ts.length:=by rw[h.n];exact hi
 obtain⟨b,cl,aX,a⟩:=h.t i ts[i] ks[i] (aV ht) (aV hi);exact⟨ts[i],b,cl,aX,by simp[ht],a⟩
theorem dG.sq{ks:List Kn}(h:dG H l ts ks):aA K H l (ts.map V.ref):=aA.of h.l
theorem gF.kG{t:Addr}{xs:_V}{k:Kn}{cl:Addr}(hl:H l=some (.lst xs))(hc:cl≠l)(h:gF H t k b cl aX):gF (upd H l (.lst ys)) t k b cl aX:=by
 have ne:∀ {a:Addr} {us:_V},H a=some (.tup us)->a≠l:=λe z=>by rw[z,hl] at e;cases e
 refine⟨(aJ (ne h.o)).trans h.o,(aJ (ne h.b)).trans h.b,h.c.keep (aJ hc) λt ht=>?_⟩;obtain⟨i,hi,et⟩:=iJ.mp ht;have eE:i<k.c.length:=by rw[← h.c.n];exact hi
 have:=h.c.t i t _ (by rw[← et];exact aV hi) (aV eE)
 exact aJ (ne this)
structure oV(H0 H:Hp)(l:Addr)(ts:_A)(ks:List Kn):Prop where
 hl:H l=some (.lst (ts.map V.ref))
 n:ts.length=ks.length
 nl:H0 l=none
 t:∀(i:Nat) (t:Addr) (k:Kn),ts[i]? = some t->ks[i]? = some k->∃b cl aX,cl≠l/\gF H t k b cl aX
theorem oV.yf{ks:List Kn}(h:oV H0 H l ts ks):dG H l ts ks:=⟨h.hl,h.n,λi t k e1 e2=>let ⟨b,cl,aX,_,a⟩:=h.t i t k e1 e2;⟨b,cl,aX,a⟩⟩
theorem oV.same{H0 H H':Hp}{l:Addr}{ts:_A}{ks:List Kn}(h:oV H0 H l ts ks)(s:aj H H'):oV H0 H' l ts ks :=
 ⟨s _ _ h.hl,h.n,h.nl,λi t k e1 e2=>let ⟨b,cl,aX,n,a⟩:=h.t i t k e1 e2;⟨b,cl,aX,n,a.same s⟩⟩
theorem oV.snoc{ks:List Kn}(h:oV H0 H l ts ks){t:Addr}{k:Kn}{cl:Addr}(hk:gF H t k b cl aX)(hc:cl≠l):oV H0 (upd H l (.lst (ts.map V.ref++[.ref t]))) l (ts++[t]) (ks++[k]):=by
 refine⟨by rw[aE,cj];rfl,by simp[h.n],h.nl,λi t' k' e1 e2=>?_⟩
 have hn:=h.n;by_cases hi:i<ts.length
 ·rw[eU hi] at e1;rw[eU ∅] at e2
  obtain⟨b',mj,qk,n',a'⟩:=h.t i t' k' e1 e2;exact⟨b',mj,qk,n',a'.kG h.hl n'⟩
 ·rw[eV ∅] at e1
  rw[eV ∅] at e2
  have eE:i - ts.length=0:=by
   have:=(iI.mp e1).1;simp at this;lia
  rw[eE] at e1;rw[← hn,eE] at e2;simp at e1 e2;subst e1 e2;exact⟨b,cl,aX,hc,hk.kG h.hl hc⟩
structure ng(nc:_Z)(k:Kn):Prop where
 f0:0<=k.f
 m0:1<=k.m
 m1:k.m<=16
 fit:k.f+k.m<=nc.length
 c:k.c=fF nc k.f k.m
 r:qd k.bh
 l:∀x,k.f_=some x->0<=x/\x<=10000000000000
structure vK(nc:_Z)(ks:List Kn):Prop where
 ok:∀k∈ks,ng nc k
 up:ks.Pairwise λa b=>a.n<b.n
 n7:ks.length<=7
def W7(k:Kn)(q:Ak):Prop:=q.first=k.f/\q.many=k.m/\q.behind=k.bh/\q.kind=(if k.w then "write" else "read")/\q.tO=k.f_
def ags(K:W.Frag)(C:Addr):Sp:=λvs H Q _=>∃(t:Addr) (k:Kn) (b cl:Addr) (aX:_A) (c:Int) (nc:_Z),vs = [.ref t,.int c]/\gF H t k b cl aX/\ng nc k/\nc.length<=1000000/\
 ∀q p mk bb dx H',W7 k q->aj H H'->H p=none->lA K C H' p q mk bb dx->Q (.ref p) H'
def agt:Sp:=λvs H Q _=>∃n:Int,vs = [.int n]/\Q (.bl true) H
noncomputable def nh(P:Pl)(cz:_Z):Int:=(cz.map λq=>P.ak / P.rc.getD q.1.toNat 0).sum
structure eS(K:W.Frag)(CA CD:Addr)(H:Hp)(l:Addr)(ps:_A)(ds:List Dr):Prop where
 l:H l=some (.lst (ps.map V.ref))
 n:ps.length=ds.length
 t:∀(i:Nat) (p:Addr) (d:Dr),ps[i]? = some p->ds[i]? = some d->∃dx ap l ts m b cA,jz K CA CD H p d dx ap l ts m b cA
theorem eS.same{K:W.Frag}{CA CD:Addr}{H H':Hp}{l:Addr}{ps:_A}{ds:List Dr}(h:eS K CA CD H l ps ds)(s:aj H H'):eS K CA CD H' l ps ds :=
 ⟨s _ _ h.l,h.n,λi p d e1 e2=>let ⟨dx,ap,l,ts,m,b,cA,a⟩:=h.t i p d e1 e2;⟨dx,ap,l,ts,m,b,cA,a.same s⟩⟩
theorem W8{n:Int}(so:SwOk sw n)(i:Nat):0<=sw.getD i 0/\sw.getD i 0<=1000000000:=by
 by_cases hi:i<sw.length
 ·by_cases h0:i=0
  ·subst h0;rw[so.z];lia
  ·have:=so.pos i ∅ hi;lia
 ·rw[show sw.getD i 0=0 by simp;rw[qB ∅];rfl];lia
theorem W9{P:Pl}(ok:fO P)(l2:P.ak<=1000000000)(s q:Int×Int)(q0:0<=q.1)(q1:q.1<P.rc.length):s.2+1<=(d_ P s q).2/\(d_ P s q).2<=s.2+3000000000\/P.ak / P.rc.getD q.1.toNat 0=0/\s.2<=(d_ P s q).2/\(d_ P s q).2<=s.2+3000000000:=by
 have l1:=ok.ak;have c:=ok.c q.1.toNat ∅
 have b:=D7 ok q.1 q.2 (s.2+P.sw.getD (s.1 - q.1).natAbs 0);have w:=W8 ok.sw (s.1 - q.1).natAbs;have d0:0<=P.ak / P.rc.getD q.1.toNat 0:=Cr ∅ ∅
 have d1:P.ak / P.rc.getD q.1.toNat 0<=P.ak:=Int.ediv_le_self _ ∅
 have e:(d_ P s q).2=kI P q.1 q.2 (s.2+P.sw.getD (s.1 - q.1).natAbs 0)+P.ak / P.rc.getD q.1.toNat 0:=rfl;rw[e];by_cases z:P.ak / P.rc.getD q.1.toNat 0=0
 ·right;lia
 ·left;lia
theorem Ex{P:Pl}(ok:fO P)(l2:P.ak<=1000000000):∀(cz:_Z) (s:Int×Int),kJ P cz->s.2<=(aQ P s cz).2/\(aQ P s cz).2<=s.2+3000000000*(cz.length:Int)
 | [],s,_=>by simp[aQ]
 | q::cz,s,h=>by
  obtain⟨q0,q1,_⟩:=h q cL;have ih:=Ex ok l2 cz (d_ P s q) λx hx=>h x (cy _ hx);have b:=W9 ok l2 s q q0 q1;rw[aQ,fH];lia
def KU(ks gG:List Kn):Prop:=gG.length=ks.length/\∀(i:Nat) (k:Kn),ks[i]? = some k->∃x,0<=x/\x<=10000000000000/\gG[i]? = some { k with f_:=some x }
theorem KU.ok{nc:_Z}{ks gG:List Kn}(r:KU ks gG)(h:vK nc ks):vK nc gG:=by
 have g:∀(i:Nat) (hi:i<gG.length),∃(hj:i<ks.length) (x:Int),0<=x/\x<=10000000000000/\gG[i] = { ks[i] with f_:=some x }:=λi hi=>by
  have hj:i<ks.length:=by rw[← r.1];exact hi
  obtain⟨x,x0,x1,e⟩:=r.2 i ks[i] (aV hj);rw[aV hi] at e;exact⟨hj,x,x0,x1,eg e⟩
 refine⟨λk hk=>?_,?_,by rw[r.1];exact h.n7⟩
 ·obtain⟨i,hi,rfl⟩:=iJ.mp hk;obtain⟨hj,x,x0,x1,e⟩:=g i hi;have o:=h.ok ks[i] (dU hj);rw[e];exact⟨o.f0,o.m0,o.m1,o.fit,o.c,o.r,λy hy=>by cases hy;exact⟨x0,x1⟩⟩
 ·rw[nT];intro i j hi hj oM;obtain⟨fS,_,_,_,e1⟩:=g i hi;obtain⟨lE,_,_,_,e2⟩:=g j hj;rw[e1,e2];exact nT.mp h.up i j fS lE oM
def agu(K:W.Frag):Sp:=λvs H Q _=>∃(t sp kl:Addr) (z:_Z) (ak sk:Int) (sw:_I) (za:Addr) (bw:_A) (ca sa:Addr) (r b:Int) (bH:_A) (ks:List Kn),vs = [.ref t,.ref sp,.ref kl]/\
 iP H t z ak sk sw za bw ca sa/\h_ z ak sk sw/\H sp=some (.tup [.int r,.int b])/\0<=r/\r<(counts z).length/\0<=b/\b<=2000000000000/\dG H kl bH ks/\(∀k∈ks,kJ (bJ z ak sk sw []) k.c/\k.c.length<=16)/\ks.length<=10/\
 ∀l ts gG H',aj H H'->H l=none->dG H' l ts gG->KU ks gG->Q (.ref l) H'
theorem W_(a b c d e f g:V):jc [a,b,c,d,e,f,g] none (some 5) = [a,b,c,d,e]:=rfl
theorem Xa(a b c d e f g:V):jc [a,b,c,d,e,f,g] (some 6) none = [g]:=rfl
theorem KW(q:Int×Int):∀(z:_Z) (i:Nat) (acc:List (List Key×V)),(q∉z->dP (jw i z acc) (kT q)=dP acc (kT q))/\(q∈z->∃j:Nat,z[j]? = some q/\dP (jw i z acc) (kT q)=some (.int ((i+j:Nat):Int)))
 | [],i,acc=>⟨λ_=>rfl,λh=>by cases h⟩
 | x::z,i,acc=>by
  obtain⟨h1,h2⟩:=KW q z (i+1) (putK acc (kT x) (.int i));constructor
  ·intro h;rw[jw,h1 λw=>h (cy _ w),Jr,if_neg];intro e;exact h (JS e▸cL)
  ·intro h;rw[jw];by_cases hz:q∈z
   ·obtain⟨j,e1,e2⟩:=h2 hz;exact⟨j+1,↑e1,by rw[e2];congr 2;lia⟩
   ·have:q=x:=(cV.mp h).resolve_right hz;subst this;exact⟨0,by simp,by rw[h1 hz,Jr,if_pos rfl];rfl⟩
theorem Xb(h:q∈z):∃j:Nat,z[j]? = some q/\dP (qZ z) (kT q)=some (.int (j:Int)):=by
 obtain⟨j,e1,e2⟩:=(KW q z 0 []).2 h;exact⟨j,e1,by rw[sO] at e2;exact e2⟩
theorem agv(h:q∉z):dP (qZ z) (kT q)=none:=(KW q z 0 []).1 h
theorem agw(h:nc[j]? = some q):fF nc (j:Int) 1 = [q]:=by
 have:=KS (nc:=nc) (f:=(j:Int)) (i:=0) (c:=q) ∅ ↑h
 simpa[fF] using this
structure yg(rc:_I)(nc:_Z)(r:Int)(xs:_I):Prop where
 i:∀x∈xs,(r,x)∈nc/\0<=x/\x<rc.getD r.toNat 0
 n:xs.length<=100
theorem yg.sub{r:Int}{xs ys:_I}(h:yg rc nc r xs)(s:∀y∈ys,y∈xs)(n:ys.length<=xs.length):yg rc nc r ys:=⟨λy hy=>h.i y (s y hy),cH n h.n⟩
theorem agx{ns:_I}{k:Int}(h:0<=k):jc (ns.map V.int) (some k) none=(ns.drop k.toNat).map V.int:=by
 unfold jc;have e:_H.bU (ns.map V.int).length 0 (some k)=min k.toNat ns.length:=by
  simp only[_H.bU];rw[if_neg ∅,aM]
 have e2:_H.bU (ns.map V.int).length (ns.map V.int).length none=ns.length:=by simp[_H.bU]
 rw[e,e2,← CB,CB];rw[uK (by simp)]
 by_cases hk:k.toNat<=ns.length
 ·rw[zy hk,CB]
 ·rw[HK ∅,List.drop_of_length_le (by simp),List.drop_of_length_le ∅];rfl
def agy(K:W.Frag)(cs:_A):Sp:=λvs H Q _=>∃(C p t sp:Addr) (z:_Z) (ak sk:Int) (sw:_I) (za:Addr) (bw:_A) (ca sa:Addr) (nc:_Z) (fp:_A) (r b c:Int),vs = [.ref p,.ref t,.ref sp,.int c]/\C∈cs/\dR K C H p (bJ z ak sk sw nc) fp/\vJ (counts z) nc/\
 iP H t z ak sk sw za bw ca sa/\h_ z ak sk sw/\H sp=some (.tup [.int r,.int b])/\0<=r/\r<(counts z).length/\∀l ts ks H',aj H H'->H l=none->dG H' l ts ks->vK nc ks->Q (.ref l) H'
def agz(K:W.Frag)(cs:_A):Sp:=λvs H Q _=>∃(C sc p t sp:Addr) (z:_Z) (ak sk:Int) (sw:_I) (za:Addr) (bw:_A) (ca sa:Addr) (nc:_Z) (fp:_A) (r b most:Int) (ns:_I),vs = [.ref sc,.ref p,.ref t,.ref sp,.int most]/\aA K H sc (ns.map V.int)/\ns.length<=63/\C∈cs/\dR K C H p (bJ z ak sk sw nc) fp/\vJ (counts z) nc/\
 iP H t z ak sk sw za bw ca sa/\h_ z ak sk sw/\H sp=some (.tup [.int r,.int b])/\0<=r/\r<(counts z).length/\0<=b/\b<=1000000000000/\1<=most/\most<=7/\∀l ts ks H',aj H H'->H l=none->dG H' l ts ks->vK nc ks->Q (.ref l) H'
theorem h_.part(h:h_ z ak sk sw)(hi:i<(counts z).length):1<=ak / (counts z).getD i 0:=by
 obtain⟨y,hy,e⟩:=q8 (get_mem (xR (counts z) hi));have r:=h.zl.ok.r y hy;have d:=Int.emod_add_mul_ediv ak y.2;rw[h.l3 y hy,Int.zero_add] at d;have l1:=h.l1;rw[e];by_cases q:1<=ak / y.2
 ·exact q
 ·have:y.2*(ak / y.2)<=0:=Int.mul_nonpos_of_nonneg_of_nonpos ∅ ∅
  lia
theorem agA(h:h_ z ak sk sw){cz:_Z}(s:Int×Int)(hc:kJ (bJ z ak sk sw []) cz)(hn:cz≠[]):s.2+1<=(aQ (bJ z ak sk sw []) s cz).2:=by
 have pk:=h.pl [];have l2:(bJ z ak sk sw []).ak<=1000000000:=h.l2;cases cz with
 | nil=>exact absurd rfl hn
 | cons q cz =>
  obtain⟨q0,q1,_⟩:=hc q cL;have q1':q.1<((counts z).length:Int):=q1;have b:=W9 pk l2 s q q0 q1;have p:=h.part (i:=q.1.toNat) ∅
  have e:=Ex pk l2 cz (d_ (bJ z ak sk sw []) s q) λx hx=>hc x (cy _ hx);rw[aQ];rcases b with b | ⟨b,_⟩
  ·lia
  ·have b:ak / (counts z).getD q.1.toNat 0=0:=b;lia
theorem ng.cells{k:Kn}(h:ng nc k)(nk:vJ (counts z) nc)(ok:h_ z ak sk sw):kJ (bJ z ak sk sw []) k.c/\k.c.length<=16:=by
 have m0:=h.m0;have m1:=h.m1;rw[h.c];refine⟨λq hq=>?_,by rw[KR h.f0 ∅ h.fit];lia⟩
 have:=nk.c q (W6 hq);refine⟨this.1,this.2.1,this.2.2.1,?_⟩;obtain⟨y,hy,e⟩:=q8 (get_mem (xR (counts z) (show q.1.toNat<(counts z).length by lia)))
 have:=ok.zl.ok.r y hy;lia
def yh(nc:_Z)(k:Kn)(d:Dr):Prop:=d.n=k.n/\W7 k d.q/\d.c=fF nc k.f k.m
structure KY(K:W.Frag)(cs:_A)(CA CD:Addr)(H:Hp)(sa p:Addr)(r b:Int)(kl dl:Addr)(z:_Z)(ak sk:Int)(sw:_I)(nc:_Z)(ks:List Kn)(ds:List Dr):Prop where
 sp:∃za bw ca rG,iP H sa z ak sk sw za bw ca rG
 wo:h_ z ak sk sw
 pl:∃C fp,C∈cs/\dR K C H p (bJ z ak sk sw nc) fp
 nk:vJ (counts z) nc
 r0:0<=r
 r1:r<(counts z).length
 b0:0<=b
 b1:b<=1000000000000
 kn:∃bH,dG H kl bH ks
 ok:vK nc ks
 du:∃ps,eS K CA CD H dl ps ds
 dk:ds.length=ks.length/\∀(i:Nat) (k:Kn) (d:Dr),ks[i]? = some k->ds[i]? = some d->yh nc k d
theorem aA.but{P:Addr}{xs:_V}(h:aA K H a xs)(T:dF P pos qual H)(k:∀b o,H b=some o->b≠P->H' b=some o):aA K H' a xs:=by
 rcases h with(h | ⟨o,h⟩) | h
 ·exact .inl (.inl (k _ _ h (T.ne h (λ_ z=>nomatch z))))
 ·exact .inl (.inr ⟨o,k _ _ h (T.ne h (λ_ z=>nomatch z))⟩)
 ·exact .inr h
theorem jz.kG{xs:_V}{d:Dr}{m:Addr}(hD:H D=some (.lst xs))(nl:l≠D)(h:jz K CA CD H p d dx ap l ts m b cA):jz K CA CD (upd H D (.lst ys)) p d dx ap l ts m b cA:=by
 have ne:∀ {a:Addr} {o:HO},H a=some o->(∀zs,o≠.lst zs)->a≠D:=λe n z=>by rw[z,hD] at e;exact n _ (eg e).symm
 have t:∀ {a:Addr} {us:_V},H a=some (.tup us)->a≠D:=λe=>ne e λ_ z=>nomatch z;have i:∀ {a C dx:Addr} {fs:List (Str×V)},H a=some (.ins C dx fs)->a≠D:=λe=>ne e λ_ z=>nomatch z;refine⟨(aJ (i h.o)).trans h.o,⟨(aJ (i h.a.o)).trans h.a.o,(aJ (t h.a.ms)).trans h.a.ms,(aJ (t h.a.bh)).trans h.a.bh⟩,h.c.keep (aJ nl) λu hu=>?_⟩;obtain⟨i,hi,et⟩:=iJ.mp hu;have eE:i<d.c.length:=by rw[← h.c.n];exact hi
 have:=h.c.t i u _ (by rw[← et];exact aV hi) (aV eE)
 exact aJ (t this)
structure rH(K:W.Frag)(CA CD:Addr)(H:Hp)(D:Addr)(ps:_A)(ds:List Dr):Prop where
 hl:H D=some (.lst (ps.map V.ref))
 n:ps.length=ds.length
 t:∀(i:Nat) (p:Addr) (d:Dr),ps[i]? = some p->ds[i]? = some d->∃dx ap l ts m b cA,l≠D/\jz K CA CD H p d dx ap l ts m b cA
theorem rH.Ey{ps:_A}{ds:List Dr}(h:rH K CA CD H D ps ds):eS K CA CD H D ps ds:=⟨h.hl,h.n,λi p d e1 e2=>let ⟨dx,ap,l,ts,m,b,cA,_,a⟩:=h.t i p d e1 e2;⟨dx,ap,l,ts,m,b,cA,a⟩⟩
theorem rH.same{K:W.Frag}{CA CD:Addr}{H H':Hp}{D:Addr}{ps:_A}{ds:List Dr}(h:rH K CA CD H D ps ds)(s:aj H H'):rH K CA CD H' D ps ds :=
 ⟨s _ _ h.hl,h.n,λi p d e1 e2=>let ⟨dx,ap,l,ts,m,b,cA,n,a⟩:=h.t i p d e1 e2;⟨dx,ap,l,ts,m,b,cA,n,a.same s⟩⟩
theorem rH.snoc{ps:_A}{ds:List Dr}(h:rH K CA CD H D ps ds){d:Dr}{m:Addr}(hd:jz K CA CD H p d dx ap l ts m b cA)(nl:l≠D):rH K CA CD (upd H D (.lst (ps.map V.ref++[.ref p]))) D (ps++[p]) (ds++[d]):=by
 refine⟨by rw[aE,cj];rfl,by simp[h.n],λi p' d' e1 e2=>?_⟩
 have hn:=h.n;by_cases hi:i<ps.length
 ·rw[eU hi] at e1;rw[eU ∅] at e2
  obtain⟨jT,AS,l',cE,m',b',AU,n',a'⟩:=h.t i p' d' e1 e2;exact⟨jT,AS,l',cE,m',b',AU,n',a'.kG h.hl n'⟩
 ·rw[eV ∅] at e1
  rw[eV ∅] at e2
  have eE:i - ps.length=0:=by
   have:=(iI.mp e1).1;simp at this;lia
  rw[eE] at e1;rw[← hn,eE] at e2;simp at e1 e2;subst e1 e2;exact⟨dx,ap,l,ts,m,b,cA,nl,hd.kG h.hl nl⟩
theorem agB(xs:_V)(k:Nat):jc xs none (some (k:Int))=xs.take k:=by
 unfold jc;have e:_H.bU xs.length 0 none=0:=rfl;have e2:_H.bU xs.length xs.length (some (k:Int))=min k xs.length:=by
  simp only[_H.bU];rw[if_neg ∅];simp
 rw[e,e2,List.drop_zero,CU];by_cases h:k<=xs.length
 ·rw[zy h]
 ·rw[HK ∅,uK (bx _),uK ∅]
theorem Ez(z:_Z)(ak sk:Int)(sw:_I)(nc:_Z):∀(cz:_Z) (s:Int×Int),aQ (bJ z ak sk sw nc) s cz=aQ (bJ z ak sk sw []) s cz
 | [],_=>rfl
 | q::cz,s=>Ez z ak sk sw nc cz (d_ (bJ z ak sk sw nc) s q)
theorem agC{γ:Type}{as:List α}{bs:List β}{f:α->γ}{g:β->γ}(hn:as.length=bs.length)(h:∀(i:Nat) (a:α) (b:β),as[i]? = some a->bs[i]? = some b->f a=g b):as.map f=bs.map g:=by
 refine List.ext_getElem ↑hn λi h1 h2=>?_
 rw[Cz,Cz];have i1:i<as.length:=by simpa using h1
 have i2:i<bs.length:=by simpa using h2
 exact h i _ _ (aV i1) (aV i2)
theorem bQ(h:bL N ps scope:=by exact⟨rfl,rfl,rfl,by decide +kernel,rfl,by decide +kernel,by decide +kernel⟩):bL N ps scope:=h
class Xc where
 nx:St->Hp->Prop
def Later[c:Xc](σ:St)(H:Hp):Prop:=c.nx σ H
def KZ(t:TS):TS:=λD σ H=>∃M:St->Hp->Prop,t { D with nx:=M } σ H/\∀gX H1,M gX H1->@Later ⟨D.nx⟩ gX H1
theorem rJ{st:Stmt}{t:TS}(h:PS X st t):PS X st (KZ t):=aes h
theorem agD{c:Xc}{x:Option V}:@Later c (x::σ) H=c.nx (x::σ) H:=rfl
theorem EA{a b c:Nat}(h1:b+1<=c)(h2:c<a)(h3:a<=b):False:=by lia
theorem Xd{a b c:Nat}(h1:b+1<=c)(h3:a<=b):a<=c:=by lia
theorem EB:∀(names:List (Str×NameKind)) (n:Nat) (a b:List (Str×Addr)),cellsFrom n names (a++b)=cellsFrom n names a++b
 | [],n,a,b=>rfl
 | (nm,k)::r,n,a,b=>by
  unfold cellsFrom;split
  ·exact EB r (n+1) ((nm,n)::a) b
  ·exact EB r n a b
theorem Xe{α:Type}{x:Str}{v:α}:∀ {a b:List (Str×α)},(a++b).lookup x=some v->a.lookup x=some v\/(a.lookup x=none/\b.lookup x=some v)
 | [],b,h=>.inr ⟨rfl,h⟩
 | (k,w)::a,b,h=>by
  rw[sI,wV] at h;rw[wV];cases e:x == k with
  | true=>rw[e] at h;exact .inl h
  | false=>rw[e] at h;exact Xe h
theorem Xf{α:Type}{x:Str}{v:α}:∀ {a b:List (Str×α)},a.lookup x=none->b.lookup x=some v->(a++b).lookup x=some v
 | [],b,_,h=>h
 | (k,w)::a,b,n,h=>by
  rw[wV] at n;rw[sI,wV];cases e:x == k with
  | true=>rw[e] at n;cases n
  | false=>rw[e] at n;exact Xf n h
theorem EC{x:Str}{c:Addr}:∀ {names:List (Str×NameKind)} {n:Nat} {acc:List (Str×Addr)},(cellsFrom n names acc).lookup x=some c->(x,NameKind.cell)∈names\/acc.lookup x=some c
 | [],n,acc,h=>.inr h
 | (nm,k)::r,n,acc,h=>by
  unfold cellsFrom at h;split at h
  ·rename_i hk;have hk:k = .cell:=by simpa using hk
   rcases EC h with z | z
   ·exact .inl (cy _ z)
   ·rw[wV] at z;cases e:x == nm with
    | true=>rw[mH.mp e,hk];exact .inl (cL ..)
    | false=>rw[e] at z;exact .inr z
  ·rcases EC h with z | z
   ·exact .inl (cy _ z)
   ·exact .inr z
theorem agE{M:Model}{globals:Addr}{closure:List (Str×Addr)}{func:Option Addr}{code:Value}{outer:Env}{builtins:Addr}{Q:Env->Shared->Prop}
  (hQ:∀h',h'.Ns s.heap.objs.size (λ_=>none)->(∀b o,s.heap.get? b=some o->h'.get? b=some o)->(∀n c,(n,c)∈cellsFrom (s.heap.objs.size+1) scope.names []->h'.IsCell c none/\s.heap.objs.size+1<=c)->(cellsFrom (s.heap.objs.size+1) scope.names []).Pairwise (λx y=>x.2≠y.2)->
   Q (newEnv scope s.heap.objs.size globals (cellsFrom (s.heap.objs.size+1) scope.names closure) qual func code (some outer) builtins) { s with heap:=h' }) :
  wpAny M A (newFunctionEnv scope globals closure [] qual func code (some outer) builtins) Q E s:=by
 simp only[newFunctionEnv,Option.isSome_some,if_true];refine aH (wpAny_alloc ?_);refine aH (wpAny_layCells _ (λname kind cells=>by cases Eh:kind == NameKind.cell <;> simp[Eh]) _ _ _ _ ?_)
 have ok:=cellsFrom_ok scope.names (s.heap.push { cls:=.type "dict",data:=.dict #[] }) (s.heap.objs.size+1) [] ⟨λ_ _ hm=>(nomatch hm),List.Pairwise.nil⟩ (by rw[uE];exact bx _)
 rw[uE] at ok;rw[show ({ s with heap:=s.heap.push { cls:=.type "dict",data:=.dict #[] }}:Shared).heap.objs.size=s.heap.objs.size+1 from uE ..];rw[List.forIn_nil];refine aH (aP (aP ?_));exact hQ _ ((Heap.Ns.new s.heap (.type "dict")).keeps (pushCells_keeps _ _)) (λb o e=>pushCells_keeps _ _ b o (cU _ e)) ok.empty ok.apart
noncomputable def jf(X:Cx)(scope:Scope)(cl:List (Str×Addr))(N:List Str)(C:Addr)(s:Shared)(H:Hp)(fp:_A):Cx where
 prog:=X.prog
 w:=X.w
 K:=X.K
 mg:=X.mg
 base:=X.base
 A:=X.A
 N:=N
 eX:=s
 uU:=H
 env:=compEnvC scope (cellsFrom (C+1) scope.names cl) C X.env
 outer:=X.stack
 stack:=X.stack
 ex:=fp
 fn:=λx=>scope.names.lookup x == some .cell
 calm:=X.calm
 pn:=[]
 xe:=λ_ _=>False
structure cM(X:Cx)(scope:Scope)(cl:List (Str×Addr))(N:List Str)(nt:Nat)(fv:List Nat):Prop where
 qe:closureFor scope X.env=pure cl
 kind:scope.kind = .function
 names:∀y∈scope.names,y.2 = .local->scope.names.lookup y.1=some .local
 cells:∀y∈scope.names,y.2 = .cell->scope.names.lookup y.1=some .cell/\cl.lookup y.1=none
 sub:∀p∈cl,X.env.cells.lookup p.1=some p.2
 has:∀y∈scope.names,y.2 = .free->∃c,cl.lookup y.1=some c
 free:fv.map (λj=>X.N[j]?)=(N.drop nt).map some
 fk:∀y∈N.drop nt,scope.names.lookup y=some .free/\X.env.scope.names.lookup y=some .cell
 le:nt<=N.length
 nd:N.Nodup
theorem cM.of{nt:Nat}(qe:closureFor scope X.env=pure cl)(kind:scope.kind = .function)
  (cells:(scope.names.all λy=>y.2 != .cell || (scope.names.lookup y.1 == some .cell && (cl.lookup y.1).isNone))=true) (names:(scope.names.all λy=>y.2 != .local || scope.names.lookup y.1 == some .local)=true)
  (sub:AllP (λp:Str×Addr=>X.env.cells.lookup p.1=some p.2) cl) (has:(scope.names.all λy=>y.2 != .free || (cl.lookup y.1).isSome)=true)
  (free:fv.map (λj=>X.N[j]?)=(N.drop nt).map some) (fk:((N.drop nt).all λy=>scope.names.lookup y == some .free && X.env.scope.names.lookup y == some .cell)=true) (le:nt<=N.length) (nd:N.Nodup) :
  cM X scope cl N nt fv where
 qe:=qe
 kind:=kind
 cells:=λy hy hl=>by
  have:=nR.mp cells y hy;rw[hl] at this;simpa using this
 names:=λy hy hl=>by have:=nR.mp names y hy;simp[hl] at this;exact this
 sub:=sub.mem
 has:=λy hy hl=>by
  have:=nR.mp has y hy;rw[hl] at this;exact wY.mp (by simpa only[bne_self_eq_false,Bool.false_or] using this)
 free:=free
 fk:=λy hy=>by have:=nR.mp fk y hy;simpa using this
 le:=le
 nd:=nd
section
variable{nt:Nat}
theorem cM.cell(S:cM X scope cl N nt fv){x:Str}{c:Addr}(e:cl.lookup x=some c):X.env.cells.lookup x=some c:=S.sub (x,c) (qX e)
theorem cM.kinds(S:cM X scope cl N nt fv){l:List (Str×Addr)}{x:Str}(h:(compEnvC scope l C X.env).kindOf x=some .cell\/(compEnvC scope l C X.env).kindOf x=some .free):scope.names.lookup x=some .free\/scope.names.lookup x=some .cell:=by
 have h:(scope.names.map λ(n,k)=>if (k == NameKind.free && X.env.scope.kind == .function && X.env.kindOf n == some .cell) then(n,NameKind.cell) else(n,k)).lookup x=some .cell\/
  (scope.names.map λ(n,k)=>if (k == NameKind.free && X.env.scope.kind == .function && X.env.kindOf n == some .cell) then(n,NameKind.cell) else(n,k)).lookup x=some .free:=h
 rcases h with h | h
 ·obtain⟨k0,e,z | ⟨z,_⟩⟩:=DR h
  ·rw[← z] at e;exact .inr e
  ·rw[z] at e;exact .inl e
 ·obtain⟨k0,e,z | ⟨z,_⟩⟩:=DR h
  ·rw[← z] at e;exact .inl e
  ·rw[z] at e;exact .inl e
theorem cM.vL(S:cM X scope cl N nt fv){x:Str}{c:Addr}(e:(cellsFrom (C+1) scope.names cl).lookup x=some c) :
  ((x,c)∈cellsFrom (C+1) scope.names []/\scope.names.lookup x=some .cell)\/(cl.lookup x=some c/\scope.names.lookup x≠some .cell):=by
 have q:cellsFrom (C+1) scope.names cl=cellsFrom (C+1) scope.names []++cl:=EB scope.names (C+1) [] cl;rw[q] at e;rcases Xe e with z | ⟨_,z⟩
 ·rcases EC z with y | y
  ·exact .inl ⟨qX z,(S.cells _ y rfl).1⟩
  ·cases y
 ·refine .inr ⟨z,λy=>?_⟩
  have:=(S.cells _ (qX y) rfl).2;rw[this] at z;cases z
theorem cM.ok(S:cM X scope cl N nt fv)(I:Inv X pins σ H s)(hf:∀b∈fp,pW X pins H b)(cg:∀b∈fp,b<s.heap.objs.size){C:Addr}(hC:s.heap.objs.size<=C)
  (own:∀n c,(n,c)∈cellsFrom (C+1) scope.names []->C+1<=c) (apart:(cellsFrom (C+1) scope.names []).Pairwise (λx y=>x.2≠y.2)) :
  (jf X scope cl N C s H fp).Ok where
 mod:=I.ok.mod
 kind:=S.kind
 glob:=I.ok.glob
 blt:=I.ok.blt
 above:=hC
 inj:=λx y c h1 h2=>by
  have old:∀ {x:Str} {c:Addr},cl.lookup x=some c->c<s.heap.objs.size:=λe=>by
   obtain⟨v,o,z,_⟩:=I.cell _ _ (S.cell e);exact cR z
  rcases S.vL h1 with⟨a,_⟩ | ⟨a,_⟩
  ·rcases S.vL h2 with⟨b,_⟩ | ⟨b,_⟩
   ·exact name_of_addr apart a b
   ·exact(EA (own _ _ a) (old b) hC).elim
  ·rcases S.vL h2 with⟨b,_⟩ | ⟨b,_⟩
   ·exact(EA (own _ _ b) (old a) hC).elim
   ·exact I.ok.inj x y c (S.cell a) (S.cell b)
 has:=λx h=>by
  rcases S.kinds h with e | e
  ·obtain⟨c,z⟩:=S.has _ (qX e) rfl;exact wY.mp (C1 scope.names (C+1) cl (.inr (by rw[z];rfl)))
  ·exact wY.mp (C1 scope.names (C+1) cl (.inl e))
 xj:=λx c h e=>by
  have h:(scope.names.lookup x == some .cell)=true:=h;rcases S.vL e with⟨a,_⟩ | ⟨_,a⟩
  ·exact Xd (own _ _ a) hC
  ·exact absurd ↑h a
 hd:=I.ok.hd
 frames:=I.ok.frames
 zO:=.inl rfl
 zP:=λb hb=>⟨λz=>absurd (iw (cg b hb) (by rw[z];exact hC)) (lO _),λx c h=>by
  rcases S.vL h with⟨a,_⟩ | ⟨a,_⟩
  ·intro z;rw[z] at a;exact EA (own _ _ a) (cg b hb) hC
  ·exact(hf b hb).2.2.2.2.1 x c (S.cell a)⟩
 bs:=I.bs
 jt:=cH I.ok.jt I.sz
 xm:=λb o e hb=>by
  rcases(hf b hb).2.2.2.1 with z | z
  ·exact I.ok.xm b o e z
  ·exact absurd (iw (cR e) (cH I.ok.jt z)) (lO _)
 xq:=λb hb hm=>by
  rcases cV.mp (I.Ia b hm) with z | z
  ·exact(hf b hb).2.1 z
  ·exact(hf b hb).2.2.1 z
 lQ:=I.stack
 sW:=I.Ib
theorem cM.inv(S:cM X scope cl N nt fv)(I:Inv X pins σ H s)(hf:∀b∈fp,pW X pins H b)(cg:∀b∈fp,b<s.heap.objs.size){h1:Heap}
  (hD:s.heap.objs.size<=D) (hC:s.heap.objs.size<=C) (AV:D<C) (old:∀b o,s.heap.get? b=some o->h1.get? b=some o) (l9:h1.get? D=some { cls:=.type "list",data:=.seq #[] }) (oF:h1.Ns C λ_=>none)
  (own:∀n c,(n,c)∈cellsFrom (C+1) scope.names []->h1.IsCell c none/\C+1<=c) (apart:(cellsFrom (C+1) scope.names []).Pairwise (λx y=>x.2≠y.2)) :
  Inv (jf X scope cl N C s H fp) [] (l6 σ nt fv) (upd H D (.lst [])) { s with heap:=h1,toks:=tk }:=by
 have I1:Inv X pins σ (upd H D (.lst [])) { s with heap:=h1,toks:=tk }:=I.laid old hD ⟨eW _,[],0,.nil,l9⟩;have hlen:fv.length=(N.drop nt).length:=by simpa using fX List.length S.free
 refine⟨S.ok I hf cg hC (λn c e=>(own n c e).2) apart,rfl,I.bare,Un.laid old hD (I.aO.fresh hD),⟨_,oF,λi x v e1 e2 e3=>?_⟩,λx c e=>?_,?_,λx c e=>?_,λp hp=>absurd (show p∈([]:List (Addr×Obj)) from hp) (by simp),I1.aO,?_⟩
 ·unfold l6 at e2;have hi:nt<=i:=by
   by_cases h:nt<=i
   ·exact h
   ·rw[eU (by simp;lia),List.getElem?_replicate] at e2
    split at e2 <;> cases e2
  rw[eV ↑hi] at e2
  simp only[List.length_replicate,List.getElem?_map] at e2;cases hj:fv[i - nt]? with
  | none=>rw[hj] at e2;simp at e2
  | some j =>
   rw[hj] at e2;simp only[Option.map_some,Option.some.injEq] at e2;have hN:X.N[j]? = some x:=by
    have q:=fX (λl=>l[i - nt]?) S.free;simp only[List.getElem?_map,hj,Option.map_some,List.getElem?_drop] at q;rw[show nt+(i - nt)=i by lia] at q
    have AW:N[i]? = some x:=e1;rw[AW] at q;exact(eg q)
   have AK:σ[j]? = some (some v):=by
    cases z:σ[j]? with
    | none=>rw[z] at e2;simp at e2
    | some y=>rw[z] at e2;simp at e2;rw[e2]
   have K3:x∈N.drop nt:=by
    refine gz (i:=i - nt) ?_;rw[List.getElem?_drop,show nt+(i - nt)=i by lia];exact e1
   obtain⟨f1,f2⟩:=S.fk x K3;obtain⟨m,hn,hl⟩:=I1.loc;obtain⟨u,ru,lk⟩:=hl j x v hN AK (.inr (.inl f2));refine⟨u,ru,?_⟩;rcases lk with⟨k,_⟩ | ⟨_,c,ec,hc⟩
   ·have k:X.env.scope.names.lookup x=some .local:=k;rw[f2] at k;cases k
   ·obtain⟨c',e'⟩:=S.has _ (qX f1) rfl;have:=S.cell e';rw[ec] at this;cases this;have lk2:(cellsFrom (C+1) scope.names cl).lookup x=some c:=by
     rw[show cellsFrom (C+1) scope.names cl=cellsFrom (C+1) scope.names []++cl from EB scope.names (C+1) [] cl];refine Xf ?_ e';cases q:(cellsFrom (C+1) scope.names []).lookup x with
     | none=>rfl
     | some c2 =>
      rcases EC q with y | y
      ·have:=(S.cells _ y rfl).1;rw[f1] at this;cases this
      ·cases y
    refine .inr ⟨?_,c,lk2,hc⟩;rcases e3 with z | z | z
    ·obtain⟨k0,ek,q | ⟨_,q⟩⟩:=DR (show (scope.names.map λ(n,k)=>if (k == NameKind.free && X.env.scope.kind == .function && X.env.kindOf n == some .cell) then(n,NameKind.cell) else(n,k)).lookup x=some .local from z)
     ·rw[f1] at ek;cases ek;cases q
     ·cases q
    ·exact .inl z
    ·exact .inr z
 ·rcases S.vL e with⟨a,_⟩ | ⟨a,_⟩
  ·exact⟨_,(own _ _ a).1⟩
  ·obtain⟨v,z⟩:=I1.cell x c (S.cell a);exact⟨v,z⟩
 ·show upd H D (.lst []) C=none;rw[aJ (pK AV)];exact I.aO.fresh hC
 ·rcases S.vL e with⟨a,_⟩ | ⟨a,_⟩
  ·have q:=(own _ _ a).2;rw[aJ (λz=>by rw[z] at q;exact EA q AV (bx C))]
   exact I.aO.fresh (Xd q hC)
  ·exact I1.n8 x c (S.cell a)
 ·unfold l6
  show _=N.length;have:=S.le;simp only[List.length_append,List.length_replicate,List.length_map,List.length_drop] at hlen ⊢;lia
end
section
variable{nt:Nat}{wi:TI}{g:TG}
theorem Xg{s2:Shared}{tn:Nat->Heap->Prop}{J:It}{Q:VK}{RR:Value->Addr->Result->Shared->Prop}
  (S:cM X scope cl N nt fv) (hc:X.calm=true)
  (hg:∀C s H fp,PG (jf X scope cl N C s H fp) tg g) (ht:∀C s H fp,xP (jf X scope cl N C s H fp) ifs tt) (he:∀C s H fp,PE (jf X scope cl N C s H fp) elt te)
  (I2:Inv X pins σ H2 s2) (T:Turn X.prog X.w X.K tg J fp it tn) (cI:tn 0 s2.heap) (f2:∀b∈fp,pW X pins H2 b)
  (hq:∀D,H2 D=none->∃W:Nat->Nat->_V->St->Hp->Prop,
   (∃m,W 0 m [] (l6 σ nt fv) (upd H2 D (.lst [])))/\∀i m ys aB H2,W i m ys aB H2->H2 D=some (.lst ys)/\ys.length<sizeLine/\
    ((J.stop i H2/\Q (.ref D) H2)\/(J.go i H2/\∀x H3,J.qK i H2 x H3->g x aB H3 λcT H4=>tt cT H4 λb H5=>if b=true then te cT H5 λv H6=>H6 D=some (.lst ys)/\∃m',m' < m/\W (i+1) m' (ys++[v]) cT (upd H6 D (.lst (ys++[v])))
     else ∃m',m' < m/\W (i+1) m' ys cT H5)))
  (hRR:∀(D C:Addr) (s':Shared) (H':Hp) (m':Str->Option Value),Inv X pins σ H' s'->s'.heap.Ns C m'->s2.heap.objs.size<=C->H' C=none->Q (.ref D) H'->RR (.ref D) C (.ok .next) s') :
  wpAny (model X.prog X.w) X.A (newList []) (λacc mT=>wpAny (model X.prog X.w) X.A (newFunctionEnv scope X.env.globals cl [] X.env.qual none .none (some X.env)) (λXh DQ =>
   codeAny (model X.prog X.w) X.A (.compStart (.ListComp elt [⟨tg,iter,ifs,0⟩] scope pos) 0 (.ref it) acc { Xh with scope:=relabel scope X.env }) (RR acc Xh.locals) DQ) E mT) E s2:=by
 refine zL (agE λp8 K4 ED EE EF=>?_);dsimp only at K4 ED EE EF ⊢;generalize K5:s2.heap.push { cls:=.type "list",dict:=none,data:=.seq ([]:List Value).toArray }=HH at K4 ED EE EF ⊢;have hC:HH.objs.size=s2.heap.objs.size+1:=by rw[← K5,uE]
 have AV:s2.heap.objs.size<HH.objs.size:=by rw[hC];exact CN _
 have K6:s2.heap.objs.size<=HH.objs.size:=kZ AV;have old:∀b o,s2.heap.get? b=some o->p8.get? b=some o:=λb o e=>ED b o (K5▸cU _ e);have l9:p8.get? s2.heap.objs.size=some { cls:=.type "list",data:=.seq #[] }:=ED _ _ (K5▸gf _ rfl);have cg:∀b∈fp,b<s2.heap.objs.size:=λb hb=>by
  obtain⟨o,e,_⟩:=T.obj 0 _ cI b hb;exact cR e
 have hD:H2 s2.heap.objs.size=none:=I2.aO.fresh (bx _);obtain⟨W,⟨m0,w0⟩,turn⟩:=hq _ hD;have z_:tn 0 p8:=T.keep _ _ _ cI λb _ o e=>old b o e;have I3:=S.inv I2 f2 cg (h1:=p8) (tk:=s2.toks) (D:=s2.heap.objs.size) (C:=HH.objs.size) (bx _) K6 AV old l9 K4 EE EF;have nD:∀b∈fp,b≠s2.heap.objs.size:=λb hb=>dj (cg b hb);have u9:∀ {H':Hp},(∀b∈fp,H' b=none)->∀b∈fp,pW (jf X scope cl N HH.objs.size s2 H2 fp) [] H' b:=λ{H'} hn b hb=>by
  have ok:=S.ok I2 f2 cg K6 (λn c e=>(EE n c e).2) EF;refine⟨hn b hb,(ok.zP b hb).1,ok.xq b hb,.inl hb,(ok.zP b hb).2,λp hp=>absurd (show p∈([]:List (Addr×Obj)) from hp) (by simp)⟩
 have loop:∀mT:Shared,mT = { s2 with heap:=p8,toks:=s2.toks }->
   codeAny (model X.prog X.w) X.A (.compLoop (.ListComp elt [⟨tg,iter,ifs,0⟩] scope pos) 0 (.ref it) (.ref s2.heap.objs.size) (compEnvC scope (cellsFrom (HH.objs.size+1) scope.names cl) HH.objs.size X.env)) (RR (.ref s2.heap.objs.size) HH.objs.size) mT:=by
  rintro mT rfl;refine ad5 (λn s'=>∃i ys bV H',Inv (jf X scope cl N HH.objs.size s2 H2 fp) [] bV H' s'/\tn i s'.heap/\(∀b∈fp,H' b=none)/\W i n ys bV H') ?_ m0
   ⟨0,[],_,_,I3,z_,λb hb=>by rw[aJ (nD b hb)];exact(f2 b hb).1,w0⟩
  rintro n s3 ⟨i,ys,iD,H3,J3,t3,u_,w3⟩;obtain⟨eD,hys,agF⟩:=turn i n ys iD H3 w3;rcases agF with⟨stop,qn⟩ | ⟨go,step⟩
  ·refine aW (T.done (jf X scope cl N HH.objs.size s2 H2 fp) rfl rfl rfl hc i [] s3 iD H3 (λ_ _=>False) J3 (u9 u_) t3 stop) λr s4 ⟨hr,I4⟩=>?_;subst hr;have I5:Inv X pins σ H3 s4:=I2.UG (ch:=fp) I4.os I4.base I4.aO I4.bare λb hb=>⟨(f2 b hb).2.2.2.1,(f2 b hb).2.1,(f2 b hb).2.2.2.2.1,(f2 b hb).2.2.2.2.2⟩;obtain⟨m,hn,_⟩:=I4.loc;exact hRR _ _ s4 H3 m I5 hn K6 I4.free qn
  ·refine aW (T.item (jf X scope cl N HH.objs.size s2 H2 fp) rfl rfl rfl hc i [] s3 iD H3 (λ_ _=>False) J3 (u9 u_) t3 go) λr s4 ⟨u,hr,h4⟩=>?_;subst hr;refine aW h4 λ_ s5 bO=>?_;obtain⟨x,H5,I5,r5,y5,vc,IC⟩:=bO;have ID:=I5.pinned (u9 IC) (T.obj _ _ vc);refine aW (hg _ _ _ _ _ s5 iD H5 x u _ ID r5 (step x H5 y5)) λ_ s6 bO=>?_;obtain⟨tw,H6,I6,q6⟩:=bO;have Xi:∀ {lg:St} {H7:Hp} {s7:Shared},Inv (jf X scope cl N HH.objs.size s2 H2 fp) ([]++z8 fp s5.heap) lg H7 s7->tn (i+1) s7.heap/\∀b∈fp,H7 b=none:=λ{lg H7 s7} I7=>by
    refine⟨T.keep _ _ _ vc λb hb o e=>(I7.pin (b,o) (fU _ (fU _ (Du hb e)))).1,λb hb=>?_⟩;obtain⟨o,e,d⟩:=T.obj _ _ vc b hb;exact(I7.pin (b,o) (fU _ (fU _ (Du hb e)))).2.1
   refine aW (ht _ _ _ _ _ s6 tw H6 _ I6 q6) λb s7 ⟨H7,I7,q7⟩=>?_;cases b with
   | false =>
    obtain⟨m',hm,w7⟩:=q7;obtain⟨t7,n7⟩:=Xi I7;exact⟨m',hm,i+1,ys,tw,H7,I7.z9,t7,n7,w7⟩
   | true =>
    refine aW (he _ _ _ _ _ s7 tw H7 _ I7 q7) λu8 s8 bO=>?_;obtain⟨v8,H8,I8,r8,eD8,m',hm,w8⟩:=bO;refine aW (mQ (X:=jf X scope cl N HH.objs.size s2 H2 fp) _ s8 tw H8 (.ref s2.heap.objs.size) [v8] (.ref s2.heap.objs.size) [u8] (λ_ H9=>∃m',m' < n/\W (i+1) m' (ys++[v8]) tw H9) I8 rfl (.cons r8 .nil)
     ⟨s2.heap.objs.size,ys,v8,rfl,rfl,eD8,hys,m',hm,w8⟩) λ_ s9 ⟨_,H9,I9,_,m9,hm9,w9⟩=>?_
    obtain⟨t9,n9⟩:=Xi I9;exact⟨m9,hm9,i+1,ys++[v8],tw,H9,I9.z9,t9,n9,w9⟩
 exact codeAny_compStart_list (loop _ rfl) (T.self _ 0 _ _ _ z_ (loop _ rfl))
theorem gq(S:cM X scope cl N nt fv)(hc:X.calm=true)(hi:PI X tg iter wi)
  (hg:∀C s H fp,PG (jf X scope cl N C s H fp) tg g) (ht:∀C s H fp,xP (jf X scope cl N C s H fp) ifs tt) (he:∀C s H fp,PE (jf X scope cl N C s H fp) elt te)
  (hs:∀x,foldedSetIterable iter X.env x=pure x:=by intro _;rfl):PE X (.ListComp elt [⟨tg,iter,ifs,0⟩] scope pos) (p9 wi g tt te nt fv):=by
 intro pins s σ H Q I h;rw[eval_ListComp];refine wpAny_comprehension_free (use:=none) rfl hs S.qe S.kind S.names (aW (hi pins s σ H _ I h) λxv s1 h1=>aW h1 λDs s2 h2=>?_);obtain⟨it,fp,tn,J,H2,rfl,I2,T,cI,f2,hq⟩:=h2;refine Xg (RR:=λacc C=>compPost (model X.prog X.w) X.A X.xe none (EP X pins σ Q) acc C) S hc hg ht he I2 T cI f2 hq λD C s' H' m' I' hn hC fC q=>?_;refine⟨m',hn,λh' ju=>⟨.ref D,H',?_,rfl,q⟩⟩;have ni:=I2.uZ hC fC;exact I'.turned (t':=s'.toks) (it:=C) (λb o hb e=>ju.extBut b o hb e) fC ni.2.1 ni.2.2.2.1 ni.2.2.2.2.1 ni.2.2.2.2.2
theorem tV{y:Str}{py Xj:Pos}(hN:X.N.Nodup)(fS:X.N[i]? = some y)(hy:Loc X.env.scope y)(S:cM X scope cl N nt fv)(hc:X.calm=true)(hi:PI X tg iter wi)
  (hg:∀C s H fp,PG (jf X scope cl N C s H fp) tg g) (ht:∀C s H fp,xP (jf X scope cl N C s H fp) ifs tt) (he:∀C s H fp,PE (jf X scope cl N C s H fp) elt te)
  (K7:swapsWith (.ListComp elt [⟨tg,iter,ifs,0⟩] scope pos) (some (.Name y py)) Xj.line X.env=pure true:=by rfl)
  (hs:∀x,foldedSetIterable iter X.env x=pure x:=by intro _;rfl) (hf:X.fn y=true\/X.env.scope.names.lookup y=some .local:=by first | exact .inl rfl | exact .inr rfl | assumption) :
  PS X (.Assign [.Name y py] (.ListComp elt [⟨tg,iter,ifs,0⟩] scope pos) Xj) (zX (p9 wi g tt te nt fv) (qJ i)):=by
 intro pins s σ H D' I h;rw[exec_Assign_Name_used _ _ _ _ K7];refine aH (wpAny_standAt (aH ?_))
 show wpAny _ _ (do let _ ← comprehension (.ListComp elt [⟨tg,iter,ifs,0⟩] scope pos) scope X.env _ (newList []) false (eval iter X.env) (some (assign (.Name y py) X.env))) _ _ s
 refine aH (jq (wpAny_comprehension_free (use:=some (assign (.Name y py) X.env)) (Q:=λ_ s'=>SP X pins D' .next s') rfl hs S.qe S.kind S.names
  (aW (hi pins s σ H _ I h) λxv s1 h1=>aW h1 λDs s2 h2=>?_)) (λ_ s' hq=>aP (aP hq)) λ_ _ e=>e)
 obtain⟨it,fp,tn,J,H2,rfl,I2,T,cI,f2,hq⟩:=h2;refine Xg (RR:=λacc C=>compPost (model X.prog X.w) X.A X.xe (some (assign (.Name y py) X.env)) (λ_ s'=>SP X pins D' .next s') acc C) (Q:=λx H1=>qJ i x σ H1 D'.nx) S hc hg ht he I2 T cI f2 hq λD C s' H' m' I' hn hC fC q=>?_;have ni:=I2.uZ hC fC
 show wpAny _ _ (assign (.Name y py) X.env (.ref D)) _ _ _;refine wpAny_assign_Name (Uz I' hN fS hy (v:=.ref D) rfl (λxD I'' ⟨a,hsa,ha⟩=>?_) hf);have hCa:C≠a:=by
  rcases ha with z | z
  ·rw[z];exact ni.2.1
  ·exact λe=>ni.2.2.2.2.1 y a z e.symm
 refine⟨m',hn.sameBut hsa hCa,λh' ju=>⟨_,H',?_,q⟩⟩;exact I''.turned (t':=xD.toks) (it:=C) (λb o hb e=>ju.extBut b o hb e) fC ni.2.1 ni.2.2.2.1 ni.2.2.2.2.1 ni.2.2.2.2.2
end
section
theorem agG(h:X.K=K)(hu:X.A.units+16<cLine):cN X (compareOp .Eq) (λx y H Q=>∃a b xs,x = .ref a/\y = .ref b/\aA K H a xs/\aA K H b []/\Q (.bl xs.isEmpty) H):=h▸D8 hu
end
theorem Xk{l:Expr}(h:X.K=K)(hl:PE X l tl):PI X tg l (tu K tl):=h▸cS hl
theorem agH:(jf X scope cl N C s H fp).K=X.K:=rfl
noncomputable def rK(d o:Dr):Bool:=decide (o.n<d.n) && (decide (o.n∈d.q.behind) || Ea d.q o.q)
def agI(K:W.Frag)(CA CD:Addr):Sp:=λvs H Q _=>∃(p r:Addr) (d o:Dr) (dx ap l:Addr) (ts:_A) (m b cA jT AS l':Addr) (cE:_A) (m' b' AU:Addr),vs = [.ref p,.ref r]/\jz K CA CD H p d dx ap l ts m b cA/\jz K CA CD H r o jT AS l' cE m' b' AU/\Q (.bl (rK d o)) H
noncomputable def ql(ds:List Dr)(d:Dr):_I:=(ds.filter (rK d)).map (·.n)
noncomputable def vM(n:Int):Key:=.inl n
structure rL(H:Hp)(kd:Addr)(ds all:List Dr)(az:List (Key×V)):Prop where
 d:H kd=some (.dK az)
 n:az.length<=ds.length
 v:∀(i:Nat) (d:Dr),ds[i]? = some d->∃li,dP az (vM d.n)=⇑li/\li≠kd/\H li=some (.lst ((ql all d).map V.int))
def agJ(K:W.Frag)(CA CD:Addr):Sp:=λvs H Q _=>∃(l:Addr) (ps:_A) (ds:List Dr),vs = [.ref l]/\eS K CA CD H l ps ds/\ds.length<=100/\(ds.map (·.n)).Nodup/\
 ∀kd az H',aj H H'->H kd=none->rL H' kd ds ds az->Q (.ref kd) H'
noncomputable def keepsK(k o:Kn):Bool:=decide (o.n<k.n) && (decide (o.n∈k.bh) || ((k.w || o.w) && decide (k.f<o.f+o.m) && decide (o.f<k.f+k.m)))
def agK(K:W.Frag):Sp:=λvs H Q _=>∃(t u:Addr) (k o:Kn) (b cl:Addr) (aX:_A) (b' mj:Addr) (qk:_A),vs = [.ref t,.ref u]/\gF H t k b cl aX/\gF H u o b' mj qk/\Q (.bl (keepsK k o)) H
noncomputable def kN(ks:List Kn):_I:=(ks.filter λk=>(ks.filter (keepsK k)).isEmpty).map (·.n)
def agL(K:W.Frag):Sp:=λvs H Q _=>∃(kl:Addr) (bH:_A) (ks:List Kn),vs = [.ref kl]/\dG H kl bH ks/\ks.length<=100/\
 ∀D H',aj H H'->H D=none->H' D=some (.lst ((kN ks).map V.int))->Q (.ref D) H'
theorem agM(az:List (Key×V))(k:Key)(v:V):(putK az k v).length<=az.length+1:=by
 unfold putK;split
 ·rw[aM];lia
 ·rw[e7];exact bx _
theorem agN{k k':Kn}{d d':Dr}(h:yh nc k d)(h':yh nc k' d'):rK d d' = keepsK k k':=by
 obtain⟨e1,⟨f1,m1,b1,k1,_⟩,_⟩:=h;obtain⟨e2,⟨f2,m2,b2,k2,_⟩,_⟩:=h';unfold rK keepsK Ea;rw[e1,e2,b1,f1,m1,f2,m2,k1,k2];have gm:¬ (("read" : Str) = "write"):=by decide
 cases k.w <;> cases k'.w <;> simp[gm,Bool.and_assoc]
theorem Xl{α β γ:Type}{f:α->γ}{g:β->γ}:∀ {as:List α} {bs:List β} {p:α->Bool} {q:β->Bool},as.length=bs.length->(∀(i:Nat) (a:α) (b:β),as[i]? = some a->bs[i]? = some b->p a=q b/\f a=g b)->(as.filter p).map f=(bs.filter q).map g
 | [],[],_,_,_,_=>rfl
 | [],_::_,_,_,h,_=>by simp at h
 | _::_,[],_,_,h,_=>by simp at h
 | a::as,b::bs,p,q,h,r=>by
  obtain⟨r1,r2⟩:=r 0 a b rfl rfl;have ih:=Xl (as:=as) (bs:=bs) (p:=p) (q:=q) (f:=f) (g:=g) ↑h λi a' b' e1 e2=>r (i+1) a' b' ↑e1 ↑e2
  rw[iu,iu,r1];split
  ·rw[dh,dh,r2,ih]
  ·exact ih
theorem oW{l:List α}{p:α->Bool}{a:α}(h:l[i]? = some a):(l.take (i+1)).filter p=(l.take i).filter p++(if p a then [a] else []):=by
 rw[take_succ_get h,uG,iu];split <;> rfl
theorem SwOk.mono{sw:_I}{n:Int}(so:SwOk sw n):∀(j i:Nat),i<=j->j<sw.length->sw.getD i 0<=sw.getD j 0
 | 0,i,h,_=>by rw[show i=0 by lia];exact nQ _
 | j+1,i,h,hj=>by
  by_cases e:i=j+1
  ·rw[e];exact nQ _
  ·exact Ct (so.mono j i ∅ ∅) (so.up (j+1) ∅ hj)
theorem SwOk.nonneg{n:Int}(so:SwOk sw n)(hj:j<sw.length):0<=sw.getD j 0:=by
 have:=so.mono j 0 ∅ hj
 rw[so.z] at this;exact this
theorem SwOk.tri{n:Int}(so:SwOk sw n){s x q:Int}(s0:0<=s)(s1:s<n)(x0:0<=x)(x1:x<n)(q0:0<=q)(q1:q<n):sw.getD (s - q).natAbs 0<=sw.getD (s - x).natAbs 0+sw.getD (x - q).natAbs 0:=by
 have len:=so.len;have ha:(s - x).natAbs<sw.length:=by lia
 have hb:(x - q).natAbs<sw.length:=by lia
 have hd:(s - q).natAbs<sw.length:=by lia
 have tr:(s - q).natAbs<=(s - x).natAbs+(x - q).natAbs:=by lia
 generalize (s - x).natAbs=a at *
 generalize (x - q).natAbs=b at *
 generalize (s - q).natAbs=d at *
 have na:=so.nonneg ha;have nb:=so.nonneg hb;by_cases h1:d<=a
 ·have:=so.mono a d h1 ha;lia
 ·by_cases h2:a=0
  ·have:=so.mono b d ∅ hb
   lia
  ·have h3:=so.no a (d - a) ∅ ∅ ∅
   rw[show a+(d - a)=d by lia] at h3
   have h4:=so.mono b (d - a) ∅ hb
   lia
def jX(P:Pl)(s t:Int×Int):Prop:=∀q:Int,0<=q->q<P.rc.length->s.2+P.sw.getD (s.1 - q).natAbs 0<=t.2+P.sw.getD (t.1 - q).natAbs 0
noncomputable def kO(p:Nat->Bool)(xs:_Z):_Z:=((List.range xs.length).filter p).map λk=>xs.getD k (0,0)
theorem agO(p:Nat->Bool)(xs:_Z)(x:Int×Int):kO p (xs++[x])=kO p xs++if p xs.length then [x] else []:=by
 unfold kO;rw[e7,Hx,sM,uG,cj];congr 1
 ·refine zo λk hk=>?_;have:k<xs.length:=fJ.mp (cY.mp hk).1;rw[jG,jG,eU this]
 ·cases h:p xs.length with
  | true=>simp[h]
  | false=>simp[h]
theorem snoc_ind{C:List α->Prop}(h0:C [])(h1:∀xs x,C xs->C (xs++[x]))(l:List α):C l:=by
 rw[← List.reverse_reverse l];generalize l.reverse=r
 induction r with
 | nil=>exact h0
 | cons x r ih=>rw[HF];exact h1 _ _ ih
theorem agP{P:Pl}(ok:fO P)(s q:Int×Int)(h0:0<=q.1)(h1:q.1<P.rc.length):s.2+P.sw.getD (s.1 - q.1).natAbs 0<=(d_ P s q).2:=by
 unfold d_ tN;have:=(D7 ok q.1 q.2 (s.2+P.sw.getD (s.1 - q.1).natAbs 0)).1;have hc:=ok.c q.1.toNat ∅
 have hl:=ok.ak;have:0<=P.ak / P.rc.getD q.1.toNat 0:=Cr ∅ ∅
 dsimp only;lia
theorem Xm{P:Pl}(ok:fO P){s t:Int×Int}(nl:jX P s t)(q:Int×Int)(h0:0<=q.1)(h1:q.1<P.rc.length):(d_ P s q).2<=(d_ P t q).2:=by
 unfold d_ tN;have:=ae0 ok q.1 q.2 (nl q.1 h0 h1);dsimp only;lia
theorem agQ{P:Pl}(ok:fO P)(p:Nat->Bool)(s:Int×Int)(s0:0<=s.1)(s1:s.1<P.rc.length):∀xs:_Z,(∀q∈xs,0<=q.1/\q.1<P.rc.length)->jX P (aQ P s (kO p xs)) (aQ P s xs)/\
  ∀(i k:Nat),((List.range xs.length).filter p)[i]? = some k->((eN P s (kO p xs)).getD i []).getD 3 0<=((eN P s xs).getD k []).getD 3 0/\((eN P s (kO p xs)).getD i []).take 2 = [(xs.getD k (0,0)).1,(xs.getD k (0,0)).2]:=by
 have so:=ok.sw;refine snoc_ind (λ_=>⟨λq _ _=>nQ _,λi k h=>by simp at h⟩) λxs x ih jY=>?_
 have hx:=jY x (by simp)
 obtain⟨Xn,Xo⟩:=ih λq hq=>jY q (uI _ hq);have e1:=jx P (n:=P.rc.length) xs s s0 s1 λq hq=>jY q (uI _ hq);have sub:∀q∈kO p xs,0<=q.1/\q.1<(P.rc.length:Int):=λq hq=>by
  obtain⟨k,hk,rfl⟩:=dW.mp hq;have hk:=fJ.mp (cY.mp hk).1;refine jY _ (uI _ ?_);rw[jG,aV hk];exact dU hk
 have e2:=jx P (n:=P.rc.length) (kO p xs) s s0 s1 sub;have ls:(kO p xs).length=((List.range xs.length).filter p).length:=by simp[kO]
 have K8:∀(ys:_Z) (y:Int×Int) (k:Nat),k<ys.length->(eN P s (ys++[y])).getD k [] = (eN P s ys).getD k []:=λys y k hk=>by
  rw[xU,jG,eU (by rw[oJ];exact hk),← jG]
 have Xp:∀(ys:_Z) (y:Int×Int),(eN P s (ys++[y])).getD ys.length [] = rm P (aQ P s ys) y:=λys y=>by
  rw[xU,jG,eV (by rw[oJ];exact bx _),oJ]
  simp
 have Xq:∀k,k<xs.length->(xs++[x]).getD k (0,0)=xs.getD k (0,0):=λk hk=>by
  rw[jG,jG,eU hk]
 have st:=Xm ok Xn x hx.1 hx.2;rw[agO,xT];rw[e7,Hx,sM,uG];cases hp:p xs.length with
 | true =>
  simp only[if_true];rw[xT];refine⟨λq q0 q1=>?_,λi k h=>?_⟩
  ·show (d_ P (aQ P s (kO p xs)) x).2+P.sw.getD (x.1 - q).natAbs 0<=(d_ P (aQ P s xs) x).2+P.sw.getD (x.1 - q).natAbs 0;lia
  ·rw[show List.filter p [xs.length] = [xs.length] by simp[hp]] at h
   by_cases hi:i<((List.range xs.length).filter p).length
   ·rw[eU hi] at h;have hk:k<xs.length:=fJ.mp (cY.mp (gz h)).1;rw[K8 _ _ _ (by rw[ls];exact hi),K8 _ _ _ hk,Xq k hk]
    exact Xo i k h
   ·rw[eV ∅] at h
    have eE:i=((List.range xs.length).filter p).length:=by
     have:=(iI.mp h).1;simp at this;lia
    rw[eE,CT] at h;have hk:k=xs.length:=by simpa using h.symm
    subst hk;rw[eE,← ls,Xp,Xp];refine⟨st,?_⟩;rw[jG,eV (bx _),CT]
    rfl
 | false =>
  simp only[Bool.false_eq_true,if_false,List.append_nil];refine⟨λq q0 q1=>?_,λi k h=>?_⟩
  ·have a:=Xn x.1 hx.1 hx.2;have b:=agP ok (aQ P s xs) x hx.1 hx.2;have n:=so.len;have t:=so.tri (s:=(aQ P s (kO p xs)).1) (x:=x.1) (q:=q) e2.1 e2.2 hx.1 hx.2 q0 q1
   show (aQ P s (kO p xs)).2+_<=(d_ P (aQ P s xs) x).2+P.sw.getD (x.1 - q).natAbs 0;lia
  ·rw[show List.filter p [xs.length] = [] by simp[hp],jF] at h
   have hk:k<xs.length:=fJ.mp (cY.mp (gz h)).1;rw[K8 _ _ _ hk,Xq k hk];exact Xo i k h
theorem agR{P:Pl}(ok:fO P){s t:Int×Int}(nl:jX P s t)(h0:0<=t.1)(h1:t.1<P.rc.length)(hs:0<=s.1)(EG:s.1<P.rc.length):s.2<=t.2:=by
 have so:=ok.sw;have a:=nl t.1 h0 h1;have len:=so.len;have b:=so.nonneg (j:=(s.1 - t.1).natAbs) ∅
 rw[Int.sub_self] at a;have c:=so.z;simp only[Int.natAbs_zero] at a;lia
section
theorem agS(hu:X.A.units<cLine):cN X (compareOp .NotEq) (λx y H Q=>∃(a b:Addr) (ns ms:_I),x = .ref a/\y = .ref b/\H a=some (.tup (ns.map V.int))/\H b=some (.tup (ms.map V.int))/\Q (.bl (!decide (ns=ms))) H):=by
 rintro pins s σ H x y v u Q I rx ry ⟨p,q,ns,ms,rfl,rfl,h,h',hq⟩;cases rx;cases ry;obtain⟨aC,r1,q1,_⟩:=I.tuple (aK.of (K:=X.K) h);obtain⟨fK,r2,q2,_⟩:=I.tuple (aK.of (K:=X.K) h');have l1:ns.length=aC.length:=by have:=r1.length;simpa using this
 have l2:ms.length=fK.length:=by have:=r2.length;simpa using this
 have e0:((List.range (min aC.toArray.size fK.toArray.size)).all (λj=>decide (ns[j]? = ms[j]?)) && aC.toArray.size == fK.toArray.size)=decide (ns=ms):=by
  rw[kX];simp only[Bool.and_eq_true,List.all_eq_true,List.mem_range,decide_eq_true_eq,beq_iff_eq,List.size_toArray];constructor
  ·rintro⟨h1,h2⟩;refine Hr λj=>?_
   by_cases hj:j<min aC.length fK.length
   ·exact h1 j hj
   ·rw[qB ∅,qB ∅]
  ·rintro rfl;exact⟨λ_ _=>rfl,∅⟩
 have fin:=SeqAt.RcNeAt.tuples (A:=X.A) (s:=s) (e:=λj=>decide (ns[j]? = ms[j]?)) q1 q2 ∅ (λj h1 h2=>?_)
 ·rw[e0] at fin;exact fin X.prog X.w _ _ ⟨.bl (!decide (ns=ms)),H,I,rfl,hq⟩
 ·have j1:j<ns.length:=by rw[l1];simpa using h1
  have j2:j<ms.length:=by rw[l2];simpa using h2
  obtain⟨u1,g1,w1⟩:=r1.get (show (ns.map V.int)[j]? = some (.int ns[j]) by simp[j1])
  obtain⟨u2,g2,w2⟩:=r2.get (show (ms.map V.int)[j]? = some (.int ms[j]) by simp[j2])
  have e1:aC.toArray[j] = u1:=by
   rw[wR];exact eg ((aV ↑h1).symm.trans g1)
  have e2:fK.toArray[j] = u2:=by
   rw[wR];exact eg ((aV ↑h2).symm.trans g2)
  obtain⟨t1,rfl⟩:=w1;obtain⟨t2,rfl⟩:=w2;rw[e1,e2];have:=HP (A:=X.A.in1) (s:=s) ns[j] t1 ms[j] t2;have e3:(ns[j] == ms[j])=decide (ns[j]? = ms[j]?):=by
   simp only[List.getElem?_eq_getElem j1,List.getElem?_eq_getElem j2,Option.some.injEq];rw[kX];simp
  rwa [e3] at this
end
def xV(l:α->α->Prop)(m:β->β->Prop)(x y:α×β):Prop:=l x.1 y.1\/(x.1=y.1/\m x.2 y.2)
noncomputable abbrev Nd:=Int×Int×_I×_I
def ltN:Nd->Nd->Prop:=xV (· < ·) (xV (· < ·) (xV (λa b=>_H.lexLt a b=true) λa b=>_H.lexLt a b=true))
noncomputable instance (a b:Nd):Decidable (ltN a b):=by unfold ltN xV;infer_instance
section
def Xr(K:W.Frag):R2:=λx y H Q=>∃a b xs ys,x = .ref a/\y = .ref b/\aK K H a xs/\H b=some (.tup ys)/\ys≠[]/\xs.length+ys.length<=sizeLine/\∀p H',aj H H'->H' p=some (.tup (xs++ys))->Q (.ref p) H'
theorem K9:cN X (binaryOp .Add) (Xr X.K):=by
 rintro pins s σ H x y v u Q I rx ry ⟨a,b,xs,ys,rfl,rfl,ha,hb,hy,hz,q⟩;cases rx;cases ry;by_cases hx:xs = []
 ·obtain⟨aC,r1,p1,_⟩:=I.tuple ha;obtain⟨fK,r2,p2,_⟩:=I.tuple (aK.of (K:=X.K) hb);obtain⟨⟨cls,dd,data,sl⟩,ho,hc,n,hd⟩:=id p1;obtain⟨⟨adn,DE,data2,DF⟩,oB,Af,n2,hd2⟩:=id p2;simp only at hc hd Af hd2;subst hc hd Af hd2;exact concat_meets ⟨_,ho,rfl⟩ ⟨_,oB,rfl⟩ noFill_tuple_add seq_tuple_add PySem.F.slot_tuple_add PySem.F.entry_tuple_add (PySem.F.args_tuple_add_2 _ _)
   (tuple_addW0 a b aC.toArray fK.toArray n n2 dd DE sl DF (by simp[r1.DI.mpr hx])) ⟨ho,oB,⟨.ref b,H,I,rfl,q b H (λ_ _ e=>e) (by rw[hx];exact hb)⟩⟩
 ·exact Ah pins s σ H (.ref a) (.ref b) _ _ Q I rfl rfl ⟨a,b,xs,ys,rfl,rfl,ha,aK.of hb,hx,hz,λz=>absurd z hy,λ_ p hp=>q p _ (aj.put hp) aE⟩
end
noncomputable abbrev Ms:=List (Addr×Nd)
theorem Xs(h:n<20000):n<sizeLine:=by rw[tL];lia
def Xu(a b:Addr×Nd):Prop:=ltN a.2 b.2
noncomputable instance (a b:Addr×Nd):Decidable (Xu a b):=by unfold Xu;infer_instance
section
variable{zs ys:Ms}{t:Nd}{k:Nat}
end
noncomputable def bZ(ds:List Dr)(bg:_I):List Dr:=ds.filter λd => !decide (d.n∈bg)
noncomputable def dM(ds:List Dr)(bg:_I):List Dr:=(bZ ds bg).filter λd=>(ql ds d).all λo=>decide (o∈bg)
inductive Reach (P:Pl) (ds:List Dr) (s:Int×Int):_I->(Int×Int)->Prop
 | nil:Reach P ds s [] s
 | snoc {bg:_I} {st:Int×Int} {d:Dr} (h:Reach P ds s bg st) (hd:d∈dM ds bg):Reach P ds s (bg++[d.n]) (aQ P st d.c)
theorem tW{ds:List Dr}{d:Dr}:d∈bZ ds bg↔d∈ds/\d.n∉bg:=by simp[bZ]
theorem jZ{ds:List Dr}{d:Dr}:d∈dM ds bg↔(d∈ds/\d.n∉bg)/\∀o∈ql ds d,o∈bg:=by
 unfold dM;rw[List.mem_filter,tW];simp
theorem AX(ds:List Dr):bZ ds [] = ds:=by simp[bZ]
theorem agT(ds:List Dr)(bg:_I)(n:Int):bZ ds (bg++[n])=(bZ ds bg).filter λd => !decide (d.n=n):=by
 unfold bZ;rw[Cw];congr 1;funext d;by_cases h:d.n∈bg <;> by_cases h2:d.n=n <;> simp[h,h2]
theorem agU{ds:List Dr}(nd:(ds.map (·.n)).Nodup){d:Dr}(hd:d∈ds):∃as bs,ds=as++d::bs/\(ds.filter λx => !decide (x.n=d.n))=as++bs:=by
 obtain⟨as,bs,rfl⟩:=List.append_of_mem hd;refine⟨as,bs,rfl,?_⟩;rw[cj,dh,CG] at nd;obtain⟨n1,n2,n3⟩:=nd;rw[jk] at n2;rw[uG,iu];simp only[decide_true,Bool.not_true,Bool.false_eq_true,if_false];rw[List.filter_eq_self.mpr,List.filter_eq_self.mpr]
 ·intro x hx;simp only[Bool.not_eq_true',decide_eq_false_iff_not];exact λe=>n2.1 (e▸sL hx)
 ·intro x hx;simp only[Bool.not_eq_true',decide_eq_false_iff_not];exact λe=>n3 x.n (sL hx) d.n (cL ..) e
theorem agV{ds:List Dr}(nd:(ds.map (·.n)).Nodup)(bg:_I):((bZ ds bg).map (·.n)).Nodup:=(List.Sublist.map _ pG).nodup nd
theorem Xv{ds:List Dr}(nd:(ds.map (·.n)).Nodup){d:Dr}(hd:d∈bZ ds bg):(bZ ds bg).Perm (d::bZ ds (bg++[d.n])):=by
 obtain⟨as,bs,e1,e2⟩:=agU (agV nd bg) hd;rw[agT,e2,e1];exact List.perm_middle
theorem EH{ds:List Dr}(nd:(ds.map (·.n)).Nodup){d:Dr}(hd:d∈bZ ds bg):(bZ ds bg).length=(bZ ds (bg++[d.n])).length+1:=by
 have:=(Xv nd hd).length_eq;simpa using this
theorem vN{ds:List Dr}{d:Dr}(h:d∈dM ds bg):d∈bZ ds bg:=(cY.mp h).1
theorem Xw(P:Pl):∀(a b:_Z) (s:Int×Int),aQ P s (a++b)=aQ P (aQ P s a) b
 | [],_,_=>rfl
 | q::a,b,s=>Xw P a b (d_ P s q)
theorem Reach.pre{P:Pl}{ds:List Dr}{s:Int×Int}:∀ {iQ:_I} {fc:Int×Int},Reach P ds s iQ fc->∀ {bg:_I},bg <+: iQ->∃st,Reach P ds s bg st/\Reach P ds s iQ fc:=by
 intro iQ fc h
 induction h with
 | nil=>intro bg hp;rw[List.prefix_nil.mp hp];exact⟨s,.nil,.nil⟩
 | snoc h hd ih =>
  intro bg hp;rcases List.prefix_concat_iff.mp hp with e | e
  ·subst e;exact⟨_,h.snoc hd,h.snoc hd⟩
  ·obtain⟨st,h1,_⟩:=ih e;exact⟨st,h1,h.snoc hd⟩
theorem yi:∀ {ds:List Dr},(ds.map (·.n)).Nodup->∀ {d e:Dr},d∈ds->e∈ds->d.n=e.n->d=e
 | [],_,_,_,h,_,_=>nomatch h
 | x::ds,nd,d,e,h1,h2,h=>by
  rw[dh,jk] at nd;rcases cV.mp h1 with a | a <;> rcases cV.mp h2 with b | b
  ·rw[a,b]
  ·exact absurd (a▸h▸sL b) nd.1
  ·exact absurd (b▸h▸sL a) nd.1
  ·exact yi nd.2 a b h
theorem Reach.uniq{P:Pl}{ds:List Dr}{s:Int×Int}(nd:(ds.map (·.n)).Nodup):∀ {bg:_I} {st fc:Int×Int},Reach P ds s bg st->Reach P ds s bg fc->st=fc:=by
 intro bg st fc h
 induction h generalizing fc with
 | nil =>
  intro h';generalize hb:([]:_I)=b at h';cases h' with
  | nil=>rfl
  | snoc=>simp at hb
 | @snoc b1 nj d h hd ih =>
  intro h';generalize hb:b1++[d.n] = b at h';cases h' with
  | nil=>simp at hb
  | @snoc b2 cI d2 h2 hd2 =>
   obtain⟨e1,e2⟩:=List.append_inj' hb rfl;subst e1;rw[ih h2];have e3:d.n=d2.n:=by simpa using e2
   rw[yi nd (jZ.mp hd).1.1 (jZ.mp hd2).1.1 e3]
theorem Reach.ext{P:Pl}{ds:List Dr}{s:Int×Int}(nd:(ds.map (·.n)).Nodup)(h0:Reach P ds s bg st):∀ {iQ:_I} {fc:Int×Int},Reach P ds s iQ fc->bg <+: iQ->∃xs:List Dr,iQ=bg++xs.map (·.n)/\fc=aQ P st (xs.flatMap (·.c))/\(bZ ds bg).Perm (xs++bZ ds iQ):=by
 intro iQ fc h
 induction h with
 | nil =>
  intro hp;have e:=List.prefix_nil.mp hp;subst e;rw[Reach.uniq nd h0 .nil];exact⟨[],rfl,rfl,.refl _⟩
 | @snoc b1 nj d h hd ih =>
  intro hp;rcases List.prefix_concat_iff.mp hp with e | e
  ·subst e;rw[Reach.uniq nd h0 (h.snoc hd)];exact⟨[],by simp,rfl,.refl _⟩
  ·obtain⟨xs,e1,e2,e3⟩:=ih e;refine⟨xs++[d],by rw[e1];simp,?_,?_⟩
   ·rw[e2,wN,Xw];simp
   ·rw[sH];exact e3.trans ((Xv nd (vN hd)).append_left xs)
theorem Xx{P:Pl}(ok:fO P):∀ {cz:_Z},(∀q∈cz,0<=q.1/\q.1<P.rc.length)->0<=nh P cz
 | [],_=>by simp[nh]
 | q::cz,h=>by
  have ih:=Xx ok (cz:=cz) λx hx=>h x (cy _ hx);obtain⟨q0,q1⟩:=h q (cL ..);have:=ok.c q.1.toNat ∅
  have:=Cr (a:=P.ak) (b:=P.rc.getD q.1.toNat 0) (by have:=ok.ak;lia) ∅
  unfold nh at *
  rw[dh,List.sum_cons];lia
theorem Xy{P:Pl}(ok:fO P):∀ {cz:_Z} {s:Int×Int},(∀q∈cz,0<=q.1/\q.1<P.rc.length)->s.1<P.rc.length->0<=s.1->s.2+nh P cz<=(aQ P s cz).2
 | [],s,_,_,_=>by simp[nh,aQ]
 | q::cz,s,h,h1,h0=>by
  obtain⟨q0,q1⟩:=h q (cL ..);have ih:=Xy ok (cz:=cz) (s:=d_ P s q) (λx hx=>h x (cy _ hx)) q1 q0;have b:=D7 ok q.1 q.2 (s.2+P.sw.getD (s.1 - q.1).natAbs 0);have w:=ok.sw.nonneg (j:=(s.1 - q.1).natAbs) (by have:=ok.sw.len;lia)
  have e:(d_ P s q).2=kI P q.1 q.2 (s.2+P.sw.getD (s.1 - q.1).natAbs 0)+P.ak / P.rc.getD q.1.toNat 0:=rfl;have e2:nh P (q::cz)=P.ak / P.rc.getD q.1.toNat 0+nh P cz:=by simp[nh]
  rw[aQ,e2];lia
theorem K_{P:Pl}(ok:fO P):∀ {cz:_Z} {s t:Int×Int},(∀q∈cz,0<=q.1/\q.1<P.rc.length)->jX P s t->jX P (aQ P s cz) (aQ P t cz)
 | [],s,t,_,nl=>nl
 | q::cz,s,t,h,nl=>by
  obtain⟨q0,q1⟩:=h q (cL ..);rw[aQ,aQ];refine K_ ok (λx hx=>h x (cy _ hx)) λr r0 r1=>?_;have:=Xm ok nl q q0 q1
  show (d_ P s q).2+P.sw.getD (q.1 - r).natAbs 0<=(d_ P t q).2+P.sw.getD (q.1 - r).natAbs 0;lia
theorem agW(xs:_Z):kO (λ_=>false) xs = []:=by simp[kO]
theorem Reach.last{P:Pl}{ds:List Dr}{s:Int×Int}(nd:(ds.map (·.n)).Nodup){n:Int}{fc:Int×Int}(h:Reach P ds s (bg++[n]) fc)(h0:Reach P ds s bg st):∃d∈dM ds bg,d.n=n/\fc=aQ P st d.c:=by
 generalize hb:bg++[n] = b at h;cases h with
 | nil=>simp at hb
 | @snoc b2 cI d2 h2 hd2 =>
  obtain⟨e1,e2⟩:=List.append_inj' hb rfl;subst e1;exact⟨d2,hd2,↑e2.symm,by rw[Reach.uniq nd h2 h0]⟩
noncomputable def jA:Nat->Nat
 | 0=>1
 | k+1=>1+(k+1)*jA k
theorem agX:∀ {k n:Nat},k<=n->jA k<=jA n:=by
 have one:∀n,jA n<=jA (n+1):=λn=>by
  rw[jA,Nat.add_mul];lia
 intro k n h
 induction h with
 | refl=>exact bx _
 | step _ ih=>exact cH ih (one _)
structure jg(K:W.Frag)(CA CD:Addr)(H:Hp)(ps:_A)(ds:List Dr):Prop where
 n:ps.length=ds.length
 t:∀(i:Nat) (p:Addr) (d:Dr),ps[i]? = some p->ds[i]? = some d->∃dx ap l ts m b cA,jz K CA CD H p d dx ap l ts m b cA
section
variable{ps:_A}{ds:List Dr}
theorem jg.nil:jg K CA CD H [] []:=⟨rfl,λi p d e=>nomatch e⟩
theorem jg.snoc(h:jg K CA CD H ps ds){d:Dr}(hd:∃dx ap l ts m b cA,jz K CA CD H p d dx ap l ts m b cA):jg K CA CD H (ps++[p]) (ds++[d]):=by
 refine⟨by simp[h.n],λi p' d' e1 e2=>?_⟩
 have hn:=h.n;by_cases hi:i<ps.length
 ·rw[eU hi] at e1;rw[eU ∅] at e2
  exact h.t i p' d' e1 e2
 ·rw[eV ∅] at e1
  rw[eV ∅] at e2
  have eE:i - ps.length=0:=by
   have:=(iI.mp e1).1;simp at this;lia
  rw[eE] at e1;rw[← hn,eE] at e2;simp at e1 e2;subst e1 e2;exact hd
theorem jg.same(h:jg K CA CD H ps ds)(s:aj H H'):jg K CA CD H' ps ds:=⟨h.n,λi p d e1 e2=>let ⟨dx,ap,l,ts,m,b,cA,a⟩:=h.t i p d e1 e2;⟨dx,ap,l,ts,m,b,cA,a.same s⟩⟩
theorem jg.Ey(h:jg K CA CD H ps ds)(hl:H l=some (.lst (ps.map V.ref))):eS K CA CD H l ps ds:=⟨hl,h.n,h.t⟩
end
theorem agY(h:X.K=K)(hc:X.calm=true):i9 X (.builtin "all") (λxs H Q=>∃(p:Addr) (bs:List Bool),xs = [.ref p]/\aA K H p (bs.map V.bl)/\Q (.bl (bs.all id)) H):=h▸ae4 hc
def agZ(K:W.Frag)(CA CD:Addr):Sp:=λvs H Q _=>∃(l:Addr) (ps:_A) (ds:List Dr),vs = [.ref l]/\eS K CA CD H l ps ds/\Q (.bl (decide (ds.length<=7))) H
def ag0(K:W.Frag)(CA CD:Addr):Sp:=λvs H Q _=>∃(l:Addr) (ps:_A) (ds:List Dr),vs = [.ref l]/\eS K CA CD H l ps ds/\ds.length<=7/\Q .aY H
def ag1(K:W.Frag)(CA CD:Addr):Sp:=λvs H Q _=>∃(l b:Addr) (ps:_A) (ds:List Dr) (bg:_I) (H0:Hp),vs = [.ref l,.ref b]/\aj H0 H/\eS K CA CD H0 l ps ds/\ds.length<=100/\H b=some (.tup (bg.map V.int))/\
 ∀(D:Addr) (cQ:_A) (H':Hp),aj H H'->H D=none->H' D=some (.lst (cQ.map V.ref))->jg K CA CD H0 cQ (bZ ds bg)->Q (.ref D) H'
def ag2(K:W.Frag)(CA CD:Addr):Sp:=λvs H Q _=>∃(l kd b:Addr) (ps:_A) (ds:List Dr) (az:List (Key×V)) (bg:_I) (H0:Hp),vs = [.ref l,.ref kd,.ref b]/\aj H0 H/\eS K CA CD H0 l ps ds/\ds.length<=100/\rL H0 kd ds ds az/\H b=some (.tup (bg.map V.int))/\
 ∀(D:Addr) (cQ:_A) (H':Hp),aj H H'->H D=none->H' D=some (.lst (cQ.map V.ref))->jg K CA CD H0 cQ (dM ds bg)->Q (.ref D) H'
structure nq(H:Hp)(cu:_A)(us:List Nd):Prop where
 n:cu.length=us.length
 t:∀(i:Nat) (a:Addr) (u:Nd),cu[i]? = some a->us[i]? = some u->∃p,H a=some (.tup [.ref p,.int u.1])/\H p=some (.tup (u.2.2.1.map V.int))
theorem nq.same{us:List Nd}(h:nq H cu us)(s:aj H H'):nq H' cu us:=⟨h.n,λi a u e1 e2=>let ⟨p,h1,h2⟩:=h.t i a u e1 e2;⟨p,s _ _ h1,s _ _ h2⟩⟩
theorem nq.kG{us:List Nd}(h:nq H cu us){xs:_V}(hD:H D=some (.lst xs)):nq (upd H D (.lst ys)) cu us:=⟨h.n,λi a u e1 e2=>by
 obtain⟨p,h1,h2⟩:=h.t i a u e1 e2;exact⟨p,by rw[aJ (λz=>by rw[z,hD] at h1;cases h1)];exact h1,by rw[aJ (λz=>by rw[z,hD] at h2;cases h2)];exact h2⟩⟩
structure rM(H:Hp)(l:Addr)(cu:_A)(us:List Nd):Prop where
 l:H l=some (.lst (cu.map V.ref))
 n:cu.length=us.length
 t:∀(i:Nat) (a:Addr) (u:Nd),cu[i]? = some a->us[i]? = some u->∃p,H a=some (.tup [.ref p,.int u.1])/\H p=some (.tup (u.2.2.1.map V.int))
section
theorem ag3{t:Addr}{us:List Value}{R:List Value->Shared->Prop}(it:IsTup s.heap t us.toArray)(xO:us.length<=sizeLine)
  (k:R us { s with heap:=(s.heap.push (seqObj "list" #[] 0)).update s.heap.objs.size (Obj.mapSeq (· ++ us.toArray))}):wpAny (model prog w) A (collect (.ref t)) R E s:=by
 obtain⟨ob,g,tc,m,td⟩:=id it;have g1:=cU (seqObj "list" #[] 0) g;have fresh:(s.heap.push (seqObj "list" #[] 0)).get? s.heap.objs.size=some (seqObj "list" #[] 0):=gf _ rfl;unfold collect;refine aH (wpAny_runValue (sP entry_proto_collect' (aH (wpAny_newList (aP ⟨Code.quiet_builtin _ (by decide +kernel),sP entry_list_iadd' ?_⟩)))))
 show wpAny _ _ (Builtin.List.listExtendWith (.ref s.heap.objs.size) (.ref t) _) _ _ ⟨s.heap.push (seqObj "list" #[] 0),_,_,_,_⟩;unfold Builtin.List.listExtendWith;refine aH (wpAny_typeOf (T := "tuple") ⟨ob,g1,tc⟩ ?_);rw[if_pos (by rw[show (Value.type "tuple" == Value.type "tuple")=true from rfl];simp)]
 refine aH (listItems_at g1 td (aH (listItems_at (xs := #[]) (n:=0) fresh rfl ?_)));rw[if_neg (by simp)]
 refine aH (listUpdate_at (xs := #[]) (n:=0) fresh rfl (aP ?_) (eW _) (by simp only[Array.size_append,List.size_toArray,List.length_nil,Array.size_empty];lia))
 refine aH (wpAny_load (get?_update_seq fresh _) ?_)
 show wpAny _ _ (pure ((#[]:Array Value)++us.toArray).toList) R E _;rw[show ((#[]:Array Value)++us.toArray).toList=us by simp];exact aP k
theorem ag4{t:Addr}{us:List Value}{ns:_I}{R:Value->Shared->Prop}(it:IsTup s.heap t us.toArray)(ai:IntsAre us ns)(lt:us.length<64)
  (k:∀(out:Array Value) (ms:_I),IntsAre out.toList ms->ms.Perm ns->ms.Pairwise (·<=·)->R (.ref (s.heap.objs.size+1)) { s with heap:=sortedAll s.heap us out }):wpAny (model prog w) A (call (.builtin "sorted") [.ref t]) R E s:=by
 have z:((s.heap.push (seqObj "list" #[] 0)).update s.heap.objs.size (Obj.mapSeq (· ++ us.toArray))).objs.size=s.heap.objs.size+1:=(Heap.size_update ..).trans (size_push' ..);have o2:=gf ((s.heap.push (seqObj "list" #[] 0)).update s.heap.objs.size (Obj.mapSeq (· ++ us.toArray))) (o:=seqObj "list" us.toArray 0) rfl;rw[z] at o2;refine Calls.call_function_entry kind_sorted plain_sorted entry_sorted (args_sorted1 _) ?_;unfold Builtin.«sorted»;refine aH (m:=checkCount "sorted" 1 1 _) (aP (aH (ag3 it (cH (kZ lt) ⋯) (aH (wpAny_newList ?_)))))
 rw[z];refine aH (mJ (w_ slot_list_sort ⟨_,o2,rfl⟩ entry_list_sort (list_sort_tree o2 ai lt λout ms b1 b2 b3=>⟨_,rfl,?_⟩) (args_list_sort _)));exact aP ⟨_,rfl,k out ms b1 b2 b3⟩
end
theorem Xz:i9 X (.builtin "sorted") (λxs H Q=>∃(p:Addr) (ns:_I),xs = [.ref p]/\aK X.K H p (ns.map V.int)/\ns.length<64/\
  ∀(l:Addr) (ms:_I),H l=none->ms.Perm ns->ms.Pairwise (·<=·)->Q (.ref l) (upd H l (.lst (ms.map V.int)))):=by
 rintro pins s σ H xs us Q I r ⟨p,ns,rfl,hq,l8,q⟩;obtain⟨u,rfl,ru⟩:=vals1 r;cases ru;obtain⟨aC,rv,pl,hz⟩:=I.tuple hq;have hi:IntsAre aC ns:=intsAre_of rv;have hlen:=hi.length;refine ag4 pl hi ∅ λout ms a1 a2 a3=>?_
 obtain⟨e,he⟩:=sortedAll_at s.heap aC out;refine⟨.ref (s.heap.objs.size+1),upd H (s.heap.objs.size+1) (.lst (ms.map V.int)),I.laid (t':=s.toks) (λb o q=>sortedAll_old q) (uL _) ?_,rfl,q _ ms (I.aO.fresh (uL _)) a2 a3⟩;refine⟨?_,out.toList,e,Av a1,↑he⟩
 rw[aM,a2.length_eq];exact cH (kZ l8) ⋯
noncomputable def gu(ks:List Kn)(bg:_I):List Kn:=ks.filter λk => !decide (k.n∈bg)
noncomputable def rN(P:Pl)(s:Int×Int)(ks:List Kn)(bg:_I):Int×Int:=bg.foldl (λst n=>ks.foldl (λst k=>if k.n=n then aQ P st k.c else st) st) s
structure Kd(ks:List Kn)(ds:List Dr):Prop where
 n:ds.length=ks.length
 e:∀(i:Nat) (k:Kn) (d:Dr),ks[i]? = some k->ds[i]? = some d->d.n=k.n/\d.c=k.c
 q:∀(i j:Nat) (k k':Kn) (d d':Dr),ks[i]? = some k->ds[i]? = some d->ks[j]? = some k'->ds[j]? = some d'->rK d d' = keepsK k k'
 up:ks.Pairwise λa b=>a.n<b.n
section
variable{ks:List Kn}{ds:List Dr}
theorem Kd.at(h:Kd ks ds){d:Dr}(hd:d∈ds):∃(i:Nat) (k:Kn),ks[i]? = some k/\ds[i]? = some d:=by
 obtain⟨i,hi,rfl⟩:=iJ.mp hd;have hk:i<ks.length:=by rw[← h.n];exact hi
 exact⟨i,ks[i],aV hk,aV hi⟩
theorem Kd.ta(h:Kd ks ds){k:Kn}(hk:k∈ks):∃(i:Nat) (d:Dr),ks[i]? = some k/\ds[i]? = some d:=by
 obtain⟨i,hi,rfl⟩:=iJ.mp hk;have hd:i<ds.length:=by rw[h.n];exact hi
 exact⟨i,ds[i],aV hi,aV hd⟩
theorem Kd.ns(h:Kd ks ds):ds.map (·.n)=ks.map (·.n):=agC h.n λi d k e1 e2=>(h.e i k d e2 e1).1
theorem Kd.nd(h:Kd ks ds):(ds.map (·.n)).Nodup:=by
 rw[h.ns];exact(qC.mpr h.up).imp λh=>Int.ne_of_lt h
theorem Kd.free(h:Kd ks ds){n:Int}:n∈kN (gu ks bg)↔∃d∈dM ds bg,d.n=n:=by
 unfold kN;constructor
 ·intro hn;obtain⟨k,hk,rfl⟩:=dW.mp hn;obtain⟨h1,h2⟩:=cY.mp hk;obtain⟨h3,h4⟩:=cY.mp h1;obtain⟨i,d,e1,e2⟩:=h.ta h3;obtain⟨en,_⟩:=h.e i k d e1 e2;refine⟨d,jZ.mpr ⟨⟨gz e2,by rw[en];simpa using h4⟩,λo ho=>?_⟩,en⟩
  obtain⟨x,hx,rfl⟩:=dW.mp ho;obtain⟨x1,x2⟩:=cY.mp hx;obtain⟨j,k',f1,f2⟩:=h.at x1;rw[h.q i j k k' d x e1 e2 f1 f2] at x2;by_cases hb:x.n∈bg
  ·exact hb
  ·have:k'∈(gu ks bg).filter (keepsK k):=cY.mpr ⟨cY.mpr ⟨gz f1,by rw[← (h.e j k' x f1 f2).1];simpa using hb⟩,x2⟩
   rw[List.isEmpty_iff.mp h2] at this;cases this
 ·rintro⟨d,hd,rfl⟩;obtain⟨⟨h1,h2⟩,h3⟩:=jZ.mp hd;obtain⟨i,k,e1,e2⟩:=h.at h1;obtain⟨en,_⟩:=h.e i k d e1 e2;refine dW.mpr ⟨k,cY.mpr ⟨cY.mpr ⟨gz e1,by rw[← en];simpa using h2⟩,?_⟩,en.symm⟩
  rw[List.isEmpty_iff];refine Ue.mpr λk' g9=>?_;obtain⟨h4,h5⟩:=cY.mp g9;obtain⟨h6,h7⟩:=cY.mp h4;obtain⟨j,x,f1,f2⟩:=h.ta h6;have:=h3 x.n (dW.mpr ⟨x,cY.mpr ⟨gz f2,by rw[h.q i j k k' d x e1 e2 f1 f2];exact h5⟩,rfl⟩)
  rw[(h.e j k' x f1 f2).1] at this;simp[this] at h7
theorem XA(P:Pl)(n:Int):∀(ks:List Kn) (s:Int×Int),(∀k∈ks,k.n≠n)->ks.foldl (λst k=>if k.n=n then aQ P st k.c else st) s=s
 | [],_,_=>rfl
 | k::ks,s,h=>by
  rw[pH,if_neg (h k (cL ..))];exact XA P n ks s λx hx=>h x (cy _ hx)
theorem XC(P:Pl){k:Kn}:∀ {ks:List Kn} {s:Int×Int},ks.Pairwise (λa b=>a.n<b.n)->k∈ks->ks.foldl (λst x=>if x.n=k.n then aQ P st x.c else st) s=aQ P s k.c
 | x::ks,s,up,h=>by
  rw[List.pairwise_cons] at up;rw[pH];rcases cV.mp h with e | e
  ·subst e;rw[if_pos rfl];exact XA P _ ks _ λy hy=>by have:=up.1 y hy;lia
  ·rw[if_neg (by have:=up.1 k e;lia)]
   exact XC P up.2 e
theorem Kd.ag5(h:Kd ks ds)(P:Pl):∀ {bg:_I} {s st:Int×Int},Reach P ds s bg st->rN P s ks bg=st:=by
 intro bg s st hr
 induction hr with
 | nil=>rfl
 | @snoc b1 nj d hr hd ih =>
  obtain⟨i,k,e1,e2⟩:=h.at (jZ.mp hd).1.1;obtain⟨en,ec⟩:=h.e i k d e1 e2;unfold rN at ih ⊢;rw[zj,ih,pH,List.foldl_nil,en,ec];exact XC P h.up (gz e1)
theorem Kd.left(h:Kd ks ds):bZ ds bg = []↔gu ks bg = []:=by
 unfold bZ gu;rw[Ht,Ht];constructor
 ·intro g k hk;obtain⟨i,d,e1,e2⟩:=h.ta hk;have:=g d (gz e2);rwa [(h.e i k d e1 e2).1] at this
 ·intro g d hd;obtain⟨i,k,e1,e2⟩:=h.at hd;have:=g k (gz e1);rwa [(h.e i k d e1 e2).1]
end
theorem ag6{P:Pl}{n:Int}{ks:List Kn}(hk:∀k∈ks,∀q∈k.c,0<=q.1/\q.1<n):∀ {bg:_I} {s:Int×Int},0<=s.1->s.1<n->0<=(rN P s ks bg).1/\(rN P s ks bg).1<n:=by
 have one:∀(m:Int) (l:List Kn),(∀k∈l,k∈ks)->∀s:Int×Int,0<=s.1->s.1<n->0<=(l.foldl (λst k=>if k.n=m then aQ P st k.c else st) s).1/\(l.foldl (λst k=>if k.n=m then aQ P st k.c else st) s).1<n:=by
  intro m l
  induction l with
  | nil=>intro _ s a b;exact⟨a,b⟩
  | cons k l ih =>
   intro hl s a b;rw[pH];have g:=ih λx hx=>hl x (cy _ hx);split
   ·have i:=jx P (n:=n) k.c s a b (hk k (hl k (cL ..)));exact g _ i.1 i.2
   ·exact g s a b
 intro bg
 induction bg with
 | nil=>intro s a b;exact⟨a,b⟩
 | cons m bg ih =>
  intro s a b;have i:=one m ks (λ_ h=>h) s a b;exact ih i.1 i.2
structure La(ks:List Kn)(bg:_I):Prop where
 p:bg.Perm (ks.map (·.n))
 f:∀(i:Nat) (n:Int),bg[i]? = some n->n∈kN (gu ks (bg.take i))
theorem Kd.ord{ks:List Kn}{ds:List Dr}(h:Kd ks ds){P:Pl}{s:Int×Int}(hr:Reach P ds s bg st)(hf:bZ ds bg = []):La ks bg:=by
 refine⟨?_,λi n hi=>?_⟩
 ·obtain⟨xs,e1,_,e3⟩:=Reach.ext h.nd .nil hr List.nil_prefix;rw[hf,jF,AX] at e3;rw[e1,← h.ns];exact(e3.map _).symm
 ·have hp:bg.take i++[n] <+: bg:=⟨bg.drop (i+1),by rw[← take_succ_get hi,uJ]⟩
  obtain⟨cI,h2,_⟩:=hr.pre hp;obtain⟨nj,h1,_⟩:=hr.pre (List.take_prefix i bg);obtain⟨d,hd,en,_⟩:=h2.last h.nd h1;exact h.free.mpr ⟨d,hd,en⟩
theorem XD:∀ {a b:_I},a.Perm b->a.Pairwise (·<=·)->b.Pairwise (· < ·)->a=b
 | [],b,p,_,_=>(List.nil_perm.mp p).symm
 | x::a,[],p,_,_=>absurd p.length_eq (by simp)
 | x::a,y::b,p,h1,h2=>by
  rw[List.pairwise_cons] at h1 h2;have e:x=y:=by
   have m1:x∈y::b:=p.mem_iff.mp (cL ..);have m2:y∈x::a:=p.mem_iff.mpr (cL ..);rcases cV.mp m1 with e | e
   ·exact e
   ·rcases cV.mp m2 with g | g
    ·exact g.symm
    ·have:=h1.1 y g;have:=h2.1 x e;lia
  subst e;rw[XD p.cons_inv h1.2 h2.2]
structure jh(H:Hp)(ts:_A)(ks:List Kn):Prop where
 n:ts.length=ks.length
 t:∀(i:Nat) (t:Addr) (k:Kn),ts[i]? = some t->ks[i]? = some k->∃b cl aX,gF H t k b cl aX
section
variable{ks:List Kn}
theorem jh.nil:jh H [] []:=⟨rfl,λi p d e=>nomatch e⟩
theorem jh.snoc(h:jh H ts ks){t:Addr}{k:Kn}(hk:∃b cl aX,gF H t k b cl aX):jh H (ts++[t]) (ks++[k]):=by
 refine⟨by simp[h.n],λi p' d' e1 e2=>?_⟩
 have hn:=h.n;by_cases hi:i<ts.length
 ·rw[eU hi] at e1;rw[eU ∅] at e2
  exact h.t i p' d' e1 e2
 ·rw[eV ∅] at e1
  rw[eV ∅] at e2
  have eE:i - ts.length=0:=by
   have:=(iI.mp e1).1;simp at this;lia
  rw[eE] at e1;rw[← hn,eE] at e2;simp at e1 e2;subst e1 e2;exact hk
theorem jh.same(h:jh H ts ks)(s:aj H H'):jh H' ts ks:=⟨h.n,λi t k e1 e2=>let ⟨b,cl,aX,a⟩:=h.t i t k e1 e2;⟨b,cl,aX,a.same s⟩⟩
theorem jh.yf(h:jh H ts ks)(hl:H l=some (.lst (ts.map V.ref))):dG H l ts ks:=⟨hl,h.n,h.t⟩
end
section
variable{g:TG}{nt:Nat}{Q:VK}
theorem ag7(a:Addr)(xs:_V)(Pv:Addr->Nat->_V->St->Hp->Prop)(oG:∀Q:VK,Q (.ref a) H->tl σ H Q)(eY:aK K H a xs)
  (h0:∀D,H D=none->Pv D 0 [] (l6 σ nt fv) (upd H D (.lst []))) (hD:∀D i ys σ H,Pv D i ys σ H->H D=some (.lst ys)/\ys.length<sizeLine/\aK K H a xs)
  (hs:∀D i x ys aB H2 (N:_V->St->Hp->Prop),(∀ys σ H,Pv D (i+1) ys σ H->N ys σ H)->xs[i]? = some x->Pv D i ys aB H2->g x aB H2 λcT H4=>tt cT H4 λb H5=>if b=true then te cT H5 λv H6=>H6 D=some (.lst ys)/\N (ys++[v]) cT (upd H6 D (.lst (ys++[v]))) else N ys cT H5)
  (hd:∀D ys aB H2,Pv D xs.length ys aB H2->Q (.ref D) H2):p9 (IB K tl) g tt te nt fv σ H Q:=by
 refine oG _ ⟨a,rfl,⟨xs,eY⟩,λD qY=>?_⟩;refine⟨λi m ys aB H2=>m=xs.length - i/\i<=xs.length/\Pv D i ys aB H2,⟨_,rfl,eW _,h0 D qY⟩,?_⟩;rintro i m ys aB H2 ⟨rfl,fS,p⟩;obtain⟨d1,d2,d3⟩:=hD D i ys aB H2 p;refine⟨d1,d2,?_⟩;by_cases cg:i<xs.length
 ·refine .inr ⟨⟨xs,xs[i],d3,by simp[cg]⟩,λx H3 y=>?_⟩
  obtain⟨e1,e2⟩:=y;subst e1;exact hs D i x ys aB _ (λiR bV H'=>∃m',m' < xs.length - i/\m' = xs.length - (i+1)/\i+1<=xs.length/\Pv D (i+1) iR bV H') (λys σ H p=>⟨_,∅,rfl,∅,p⟩) (e2 xs d3) p
 ·have e:i=xs.length:=by lia
  subst e;exact .inl ⟨⟨xs,d3,bx _⟩,hd D ys aB H2 p⟩
end
def ag8(K:W.Frag):Sp:=λvs H Q _=>∃(kl b:Addr) (bH:_A) (ks:List Kn) (bg:_I),vs = [.ref kl,.ref b]/\dG H kl bH ks/\ks.length<=100/\H b=some (.tup (bg.map V.int))/\
 ∀(D:Addr) (ts:_A) (H':Hp),aj H H'->H D=none->dG H' D ts (gu ks bg)->Q (.ref D) H'
def ag9(K:W.Frag):Sp:=λvs H Q _=>∃(t kl b:Addr) (z:_Z) (ak sk:Int) (sw:_I) (za:Addr) (bw:_A) (ca sa:Addr) (r bt:Int) (bH:_A) (ks:List Kn) (bg:_I),vs = [.ref t,.int r,.int bt,.ref kl,.ref b]/\
 iP H t z ak sk sw za bw ca sa/\h_ z ak sk sw/\0<=r/\r<(counts z).length/\dG H kl bH ks/\(∀k∈ks,kJ (bJ z ak sk sw []) k.c/\k.c.length<=16)/\H b=some (.tup (bg.map V.int))/\
 ∀(u:Addr) (H':Hp),aj H H'->H u=none->H' u=some (.tup [.int (rN (bJ z ak sk sw []) (r,bt) ks bg).1,.int (rN (bJ z ak sk sw []) (r,bt) ks bg).2])->Q (.ref u) H'
def ag_:Sp:=λvs H Q _=>∃(a:Addr) (ns:_I),vs = [.ref a]/\H a=some (.tup (ns.map V.int))/\∀H',aj H H'->Q (.bl true) H'
def aha(K:W.Frag):Sp:=λvs H Q _=>∃(f kl:Addr) (bH:_A) (ks:List Kn) (bg:_I),vs = [.ref f,.ref kl]/\H f=some (.tup (bg.map V.int))/\dG H kl bH ks/\ks.length<=60/\ks.Pairwise (λa b=>a.n<b.n)/\La ks bg/\∀H',aj H H'->Q (.bl true) H'
theorem Reach.Lb{P P':Pl}{ds:List Dr}(h:∀s c,aQ P s c=aQ P' s c){s:Int×Int}:∀ {bg:_I} {st:Int×Int},Reach P ds s bg st->Reach P' ds s bg st:=by
 intro bg st hr
 induction hr with
 | nil=>exact .nil
 | snoc hr hd ih=>rw[h];exact ih.snoc hd
section
variable{r b:Int}{Lc Ld:Addr}{ks:List Kn}{ds:List Dr}
end
noncomputable def T1(m:Nat)(led:Bool):SetTable:={ mask:=7,place := #[m % 8],dummies := #[],finger:=0,led,moves:=0,plain:=true }
noncomputable def ahb(m n:Nat):Nat:=if n % 8=m % 8 then(5*(n % 8)+1+n / 32) % 8 else n % 8
noncomputable def p_(m n:Nat)(y x:Value):Array (Int×Value):=if ahb m n<m % 8 then #[((n:Int),x),((m:Int),y)] else #[((m:Int),y),((n:Int),x)]
noncomputable def ia(es:Array (Int×Value))(ep:Nat)(t:SetTable):Obj:={ cls:=.type "set",dict:=none,data:=.set es ep t }
section
variable{dQ:Array (Int×Value)}{t t1:SetTable}{n:Int}{tk:Tok}
end
section
variable{tm tn:Tok}
end
def nv(xs:Array Nat):Prop:=∀i k:Nat,i<k->k<xs.size->xs.getD i 0<xs.getD k 0
theorem ahc{xs:Array Nat}(h:i<xs.size)(a b:Nat):xs.getD i a=xs.getD i b:=by simp[Array.getD,h]
theorem Le{xs:Array Nat}{j:Nat}(hR:nv xs):∀(fuel lo hi:Nat),lo<=hi->hi<=xs.size->hi - lo<=fuel->(∀k,k<lo->xs.getD k 0<j)->(∀k,hi<=k->k<xs.size->j<=xs.getD k 0)->
  (∀k,k<SetTable.below.go xs j fuel lo hi->xs.getD k 0<j)/\(∀k,SetTable.below.go xs j fuel lo hi<=k->k<xs.size->j<=xs.getD k 0)/\SetTable.below.go xs j fuel lo hi<=xs.size
 | 0,lo,hi,h1,h2,h3,a,b=>by
  have e:SetTable.below.go xs j 0 lo hi=lo:=rfl;rw[e];exact⟨a,λk hk=>b k ∅,∅⟩
 | fuel+1,lo,hi,h1,h2,h3,a,b=>by
  have e:SetTable.below.go xs j (fuel+1) lo hi=if lo<hi then(if xs.getD ((lo+hi) / 2) j<j then SetTable.below.go xs j fuel ((lo+hi) / 2+1) hi else SetTable.below.go xs j fuel lo ((lo+hi) / 2)) else lo:=rfl
  rw[e];by_cases h0:lo<hi
  ·have hm:(lo+hi) / 2<xs.size:=by lia
   rw[if_pos h0,ahc hm j 0];by_cases h4:xs.getD ((lo+hi) / 2) 0<j
   ·rw[if_pos h4];refine Le hR fuel _ hi ∅ h2 ∅ (λk hk=>?_) b
    by_cases fP:k=(lo+hi) / 2
    ·rw[fP];exact h4
    ·have:=hR k ((lo+hi) / 2) ∅ hm;lia
   ·rw[if_neg h4];refine Le hR fuel lo _ ∅ ∅ ∅ a λk hk hs=>?_
    by_cases fP:k=(lo+hi) / 2
    ·rw[fP];lia
    ·have:=hR ((lo+hi) / 2) k ∅ hs;lia
  ·rw[if_neg h0];exact⟨a,λk hk=>b k ∅,∅⟩
theorem XE{xs:Array Nat}(hR:nv xs)(j:Nat):(∀k,k<SetTable.below xs j->xs.getD k 0<j)/\(∀k,SetTable.below xs j<=k->k<xs.size->j<=xs.getD k 0)/\SetTable.below xs j<=xs.size :=
 Le hR xs.size 0 xs.size (eW _) (bx _) (bx _) (λk hk=>by lia) λk hk hs=>by lia
theorem below_at{xs:Array Nat}(hR:nv xs)(hi:i<xs.size):SetTable.below xs (xs.getD i 0)=i:=by
 obtain⟨a,b,c⟩:=XE hR (xs.getD i 0);rcases CO (SetTable.below xs (xs.getD i 0)) i with h | h | h
 ·have:=b _ (bx _) ∅;have:=hR _ _ h hi;lia
 ·exact h
 ·have:=a _ h;lia
theorem yj(xs:Array Nat)(i:Nat):xs.getD i 0=xs.toList.getD i 0:=by
 rw[jG,sG,sF]
theorem Lf{l:List Nat}:nv l.toArray↔l.Pairwise (· < ·):=by
 rw[nT];constructor
 ·intro h i j hi hj oM;have:=h i j oM ↑hj
  rw[yj,yj] at this;simpa[List.getD_eq_getElem?_getD,hi,hj] using this
 ·intro h i k hik hk;have g9:k<l.length:=by simpa using hk
  have:=h i k ∅ g9 hik
  rw[yj,yj];simpa[List.getD_eq_getElem?_getD,g9,show i<l.length by lia] using this
theorem ahd{xs:Array Nat}(hR:nv xs)(hj:j∉xs.toList):nv (SetTable.insertAt xs (SetTable.below xs j) j):=by
 obtain⟨a,b,c⟩:=XE hR j;have hl:xs.toList.Pairwise (· < ·):=Lf.mp ↑hR
 rw[← Array.toArray_toList (xs:=SetTable.insertAt xs (SetTable.below xs j) j),Lf,SetTable.toList_insertAt];rw[CK];have lt1:∀x∈xs.toList.take (SetTable.below xs j),x<j:=λx hx=>by
  obtain⟨k,hk,rfl⟩:=iJ.mp hx;rw[dw] at hk;have:=a k ∅
  rw[yj] at this;rw[Hw];rw[jG,aV ∅] at this
  exact this
 have XF:∀x∈xs.toList.drop (SetTable.below xs j),j<x:=λx hx=>by
  have hm:=CF hx;obtain⟨k,hk,rfl⟩:=iJ.mp hx;rw[wU] at hk;have:=b (SetTable.below xs j+k) ∅ (by simp at hk;lia)
  rw[yj] at this;rw[List.getElem_drop] at hm ⊢;have e:xs.toList.getD (SetTable.below xs j+k) 0=xs.toList[SetTable.below xs j+k]:=by
   rw[jG,aV (by simp at hk ⊢;lia)];rfl
  rw[e] at this;rcases Nat.lt_or_ge j xs.toList[SetTable.below xs j+k] with h | h
  ·exact h
  ·exact absurd (by rw[show j=xs.toList[SetTable.below xs j+k] by lia];exact hm) hj
 refine⟨hl.sublist (HG _ _),List.pairwise_cons.mpr ⟨XF,hl.sublist (List.drop_sublist _ _)⟩,λx hx y hy=>?_⟩;have:=lt1 x hx;rcases cV.mp hy with rfl | hy
 ·exact this
 ·have:=XF y hy;lia
theorem ahe{t:SetTable}(hd:t.dummies = #[])(hj:j∉t.place.toList):t.slot j = .empty:=by
 have e:t.slot j=if (t.place[SetTable.below t.place j]? == some j)=true then .live (SetTable.below t.place j) else if SetTable.has t.dummies j=true then .dummy else .empty:=rfl
 rw[e,if_neg,if_neg]
 ·rw[hd];simp[SetTable.has,SetTable.below,SetTable.below.go]
 ·intro h;have h:=eq_of_beq h;exact hj (gz (by rw[sG];exact h))
theorem ahf{t:SetTable}(hR:nv t.place)(hj:j∈t.place.toList):∃i,t.slot j = .live i:=by
 have e:t.slot j=if (t.place[SetTable.below t.place j]? == some j)=true then .live (SetTable.below t.place j) else if SetTable.has t.dummies j=true then .dummy else .empty:=rfl
 obtain⟨k,hk,rfl⟩:=iJ.mp hj;have g9:k<t.place.size:=by simpa using hk
 have e2:t.place.getD k 0=t.place.toList[k]:=by simp[Array.getD,g9]
 have:=below_at hR g9;rw[e2] at this;exact⟨_,by rw[e,if_pos (by rw[this];simp)]⟩
noncomputable def vO(mask:Nat)(x:Nat×Nat):SetTable.Probe:={ j:=x.1,more:=SetTable.runEnd mask x.1 - x.1,i:=x.1,perturb:=x.2,dummy:=none }
noncomputable def chain(mask:Nat):Nat->Nat×Nat->Nat×Nat
 | 0,x=>x
 | m+1,x=>chain mask m (SetTable.leap mask x.1 x.2)
theorem EI(mask i:Nat)(h:i<=mask):SetTable.runEnd mask i - i<=9/\i+(SetTable.runEnd mask i - i)<=mask:=by
 unfold SetTable.runEnd;split <;> lia
theorem EJ(mask i p:Nat):(SetTable.leap mask i p).1<=mask:=by
 have:(SetTable.leap mask i p).1<mask+1:=wX _ ∅
 lia
theorem yl(mask:Nat):∀(a b:Nat) (x:Nat×Nat),chain mask (a+b) x=chain mask b (chain mask a x)
 | 0,b,x=>by rw[sO];rfl
 | a+1,b,x=>by
  rw[show a+1+b=(a+b)+1 by lia]
  exact yl mask a b _
theorem EK(mask:Nat):∀(m:Nat) (x:Nat×Nat),(chain mask m x).2=x.2 / 32 ^ m
 | 0,x=>by simp[chain]
 | m+1,x=>by
  show (chain mask m (SetTable.leap mask x.1 x.2)).2=_;rw[EK mask m,show (SetTable.leap mask x.1 x.2).2=x.2 / 32 from rfl,Nat.div_div_eq_div_mul,qF,nU]
theorem EL(mask:Nat):∀(m:Nat) (x:Nat×Nat),x.1<=mask->(chain mask m x).1<=mask
 | 0,_,h=>h
 | m+1,x,_=>EL mask m _ (EJ _ _ _)
noncomputable def ym(mask:Nat):Nat->Nat->List Nat
 | 0,_=>[]
 | n+1,s=>s::ym mask n ((s*5+1) % (mask+1))
theorem XG(mask:Nat):∀(n s:Nat) (v:Nat),v∈ym mask n s->∃k,k<n/\(chain mask k (s,0)).1=v
 | 0,_,_,h=>by simp[ym] at h
 | n+1,s,v,h=>by
  rcases cV.mp h with rfl | h
  ·exact⟨0,∅,rfl⟩
  ·obtain⟨k,hk,e⟩:=XG mask n _ v h;refine⟨k+1,∅,?_⟩
   have e2:SetTable.leap mask s 0=((s*5+1) % (mask+1),0):=by unfold SetTable.leap;simp
   show (chain mask k (SetTable.leap mask s 0)).1=v;rw[e2];exact e
noncomputable def rO(mask:Nat):Bool:=((List.range (mask+1)).all λf=>(ym mask (mask+1) 0).contains f) && ((chain mask (mask+1) (0,0)).1 == 0)
theorem XH(m s:Nat):chain mask m (s,0)=((chain mask m (s,0)).1,0):=by
 have:=EK mask m (s,0);rw[Nat.zero_div] at this;exact qG rfl this
theorem ahg(h:rO mask=true){s f:Nat}(hs:s<=mask)(hf:f<=mask):∃k,k<mask+1/\(chain mask k (s,0)).1=f:=by
 unfold rO at h;rw[zb] at h;have all:∀v,v<=mask->∃k,k<mask+1/\(chain mask k (0,0)).1=v:=λv hv=>by
  have:=nR.mp h.1 v (fJ.mpr ∅)
  exact XG mask (mask+1) 0 v ↑this
 have back:=eq_of_beq h.2;obtain⟨a,ha,ea⟩:=all s hs;obtain⟨b,hb,eb⟩:=all f hf;have pa:=XH (mask:=mask) a 0;rw[ea] at pa;by_cases q_:a<=b
 ·refine⟨b - a,∅,?_⟩
  rw[← pa,← yl,show a+(b - a)=b by lia];exact eb
 ·refine⟨mask+1 - a+b,∅,?_⟩
  rw[← pa,← yl,show a+(mask+1 - a+b)=(mask+1)+b by lia,yl,XH (mask+1) 0,back];exact eb
theorem reach(h:rO mask=true){x:Nat×Nat}(hx:x.1<=mask)(hp:x.2<2 ^ 64){f:Nat}(hf:f<=mask):∃m,m<mask+15/\(chain mask m x).1=f:=by
 have z:(chain mask 13 x).2=0:=by
  rw[EK];exact Nat.div_eq_of_lt (jJ hp ⋯)
 obtain⟨k,hk,e⟩:=ahg h (EL mask 13 x hx) hf;refine⟨13+k,∅,?_⟩
 rw[yl,show chain mask 13 x=((chain mask 13 x).1,0) from qG rfl z];exact e
theorem XI(h:Int):SetTable.bits h<2 ^ 64:=by
 unfold SetTable.bits;have:=fQ h (show (0:Int)<2 ^ 64 by decide)
 have:=fR h (show (2 ^ 64:Int)≠0 by decide)
 lia
noncomputable def AY(owner:Array (Option Nat))(j:Nat):Bool:=(owner.getD j (some 0)).isNone
theorem XJ{mask:Nat}{owner:Array (Option Nat)}:∀(m fuel:Nat) (x:Nat×Nat),m<fuel->x.1<=mask->AY owner (chain mask m x).1=true->∃j,SetTable.layClean.free mask owner fuel x.1 x.2=some j/\AY owner j=true
 | m,0,_,h,_,_=>by lia
 | m,fuel+1,x,h,hx,hf=>by
  have e:SetTable.layClean.free mask owner (fuel+1) x.1 x.2=match List.find? (λk=>(owner.getD (x.1+k) (some 0)).isNone) (List.range (SetTable.runEnd mask x.1+1 - x.1)) with
   | some k=>some (x.1+k)
   | none=>SetTable.layClean.free mask owner fuel (SetTable.leap mask x.1 x.2).1 (SetTable.leap mask x.1 x.2).2:=rfl
  rw[e];cases hk:List.find? (λk=>(owner.getD (x.1+k) (some 0)).isNone) (List.range (SetTable.runEnd mask x.1+1 - x.1)) with
  | some k =>
   have:=Cy hk;exact⟨x.1+k,rfl,this⟩
  | none =>
   cases m with
   | zero =>
    have:=List.find?_eq_none.mp hk 0 (List.mem_range.mpr (by have:=EI mask x.1 hx;unfold SetTable.runEnd;split <;> lia))
    exact absurd hf this
   | succ m=>exact XJ m fuel _ ∅ (EJ _ _ _) hf
theorem ahh{l:List (Option Nat)}:(l.filterMap id).length=l.length\/none∈l:=by
 induction l with
 | nil=>left;rfl
 | cons a l ih =>
  cases a with
  | none=>right;simp
  | some a =>
   rcases ih with h | h
   ·left;simp[h]
   ·right;simp[h]
theorem XM{k:Nat}:∀ {l:List (Option Nat)} {j:Nat},l[j]? = some none->((l.set j (some k)).filterMap id).Perm (k::l.filterMap id)
 | [],_,h=>by simp at h
 | a::l,0,h=>by
  simp at h;subst h;simp
 | a::l,j+1,h=>by
  have ih:=XM (k:=k) (l:=l) (j:=j) ↑h
  cases a with
  | none=>simpa using ih
  | some a =>
   show ((some a::l.set j (some k)).filterMap id).Perm (k::(some a::l).filterMap id);simp only[List.filterMap_cons,id];exact(ih.cons a).trans (List.Perm.swap k a _)
structure yp(mask:Nat)(owner:Array (Option Nat))(k:Nat):Prop where
 sz:owner.size=mask+1
 pm:(owner.toList.filterMap id).Perm (List.range k)
theorem ahi{owner:Array (Option Nat)}{k:Nat}(h:yp mask owner k)(ho:rO mask=true)(hk:k<=mask)(hs:Int) :
  ∃j,SetTable.layClean.free mask owner (SetTable.turns mask) (SetTable.bits hs % (mask+1)) (SetTable.bits hs)=some j/\yp mask (owner.setIfInBounds j (some k)) (k+1):=by
 have hl:=h.pm.length_eq;rw[jI] at hl;have hn:none∈owner.toList:=by
  rcases ahh (l:=owner.toList) with z | z
  ·rw[hl,lN,h.sz] at z;lia
  ·exact z
 obtain⟨f,hf,ef⟩:=iJ.mp hn;rw[lN,h.sz] at hf;have ff:AY owner f=true:=by
  unfold AY;rw[sF,← sG,aV (by simpa[h.sz] using hf),ef];rfl
 have hx:SetTable.bits hs % (mask+1)<=mask:=by have:=wX (SetTable.bits hs) (show 0<mask+1 by lia);lia
 obtain⟨m,rB,e⟩:=reach ho (x:=(SetTable.bits hs % (mask+1),SetTable.bits hs)) hx (XI hs) (f:=f) ∅
 obtain⟨j,e1,e2⟩:=XJ m (SetTable.turns mask) (SetTable.bits hs % (mask+1),SetTable.bits hs) rB hx (by rw[e];exact ff)
 refine⟨j,e1,by rw[Array.size_setIfInBounds];exact h.sz,?_⟩
 have e3:owner.toList[j]? = some none:=by
  unfold AY at e2;rw[sF,← sG] at e2;cases q:owner.toList[j]? with
  | none=>rw[q] at e2;simp at e2
  | some v =>
   rw[q] at e2;cases v with
   | none=>rfl
   | some v=>simp at e2
 rw[Array.toList_setIfInBounds,sM];exact(XM e3).trans ((h.pm.cons k).trans (List.perm_append_comm (l₁:=[k])))
theorem XN{mask:Nat}(ho:rO mask=true):∀(hs:_I) (owner:Array (Option Nat)) (k:Nat),yp mask owner k->k+hs.length<=mask->
  ∃ow,hs.foldl (λ(acc:Option (Array (Option Nat)×Nat)) h=>do
    let __x ← acc
    match __x with
     | (owner,k)=>do
      let j ← SetTable.layClean.free mask owner (SetTable.turns mask) (SetTable.bits h % (mask+1)) (SetTable.bits h)
      pure (owner.setIfInBounds j (some k),k+1)) (some (owner,k))=some (ow,k+hs.length)/\yp mask ow (k+hs.length)
 | [],owner,k,h,hk=>⟨owner,rfl,h⟩
 | x::hs,owner,k,h,hk=>by
  rw[fH] at hk;obtain⟨j,e,h2⟩:=ahi h ho ∅ x
  obtain⟨ow,e2,h3⟩:=XN ho hs _ (k+1) h2 ∅
  refine⟨ow,?_,by rw[fH,show k+(hs.length+1)=k+1+hs.length by lia];exact h3⟩
  rw[pH,fH,show k+(hs.length+1)=k+1+hs.length by lia,← e2]
  show List.foldl _ ((SetTable.layClean.free mask owner (SetTable.turns mask) (SetTable.bits x % (mask+1)) (SetTable.bits x)) >>= λj=>pure (owner.setIfInBounds j (some k),k+1)) hs=_;rw[e]
  rfl
theorem ahj(ho:rO mask=true)(hs:Array Int)(hn:hs.size<=mask):∃ow,SetTable.layClean mask hs=some ow/\yp mask ow hs.size:=by
 have h0:yp mask (Array.replicate (mask+1) none) 0:=⟨by simp,by simp⟩
 obtain⟨ow,e,h⟩:=XN ho hs.toList _ 0 h0 ↑hn
 refine⟨ow,?_,↑h⟩
 unfold SetTable.layClean;rw[← Array.foldl_toList];rw[show (hs.toList.foldl _ (some (Array.replicate (mask+1) none,0)))=some (ow,0+hs.toList.length) from e]
 rfl
theorem EM(g:Nat->Option Nat):∀l:List Nat,((l.filterMap λj=>(g j).map λx=>(j,x)).map (·.1)).Sublist l
 | []=>.slnil
 | j::l=>by
  rw[uF];cases g j with
  | none=>exact(EM g l).cons j
  | some v=>exact(EM g l).cons₂ j
theorem EN(g:Nat->Option Nat):∀l:List Nat,(l.filterMap λj=>(g j).map λx=>(j,x)).map (·.2)=l.filterMap g
 | []=>rfl
 | j::l=>by
  rw[uF,uF];cases g j with
  | none=>exact EN g l
  | some v=>simp only[Option.map_some,List.map_cons,EN g l]
theorem ahk{finger moves:Nat}{plain:Bool}(ho:rO mask=true)(hs:Array Int)(hn:hs.size<=mask):∃ps order,SetTable.laid mask finger moves led plain hs=some ({ mask:=mask,place:=ps,dummies := #[],finger:=finger,led:=led,moves:=moves,plain:=plain },order)/\
  nv ps/\ps.size=hs.size/\order.toList.Perm (List.range hs.size)/\∀p∈ps.toList,p<=mask:=by
 obtain⟨ow,e,h⟩:=ahj ho hs hn;have eO:(List.range (mask+1)).filterMap (λj=>ow.getD j none)=ow.toList.filterMap id:=by
  have:ow.toList=(List.range (mask+1)).map λj=>ow.getD j none:=by
   apply List.ext_getElem
   ·simp[h.sz]
   ·intro i h1 h2;simp at h1;simp[Array.getD,h1]
  rw[this,Hs];rfl
 refine⟨(((List.range (mask+1)).filterMap λj=>(ow.getD j none).map λx=>(j,x)).map (·.1)).toArray,(((List.range (mask+1)).filterMap λj=>(ow.getD j none).map λx=>(j,x)).map (·.2)).toArray,?_,?_,?_,?_,?_⟩
 ·unfold SetTable.laid;rw[e];rfl
 ·rw[Lf];exact(List.pairwise_lt_range (n:=mask+1)).sublist (EM _ _)
 ·have:=h.pm.length_eq;rw[← eO,← EN,aM,jI] at this;simpa using this
 ·rw[List.toList_toArray,EN,eO];exact h.pm
 ·intro p hp;rw[List.toList_toArray] at hp;have:=fJ.mp ((EM _ _).subset hp);lia
theorem ahl(es:Array α):(List.range es.size).filterMap (λi=>es[i]?)=es.toList:=by
 have e:=KP es.toList;simpa using e
noncomputable def kP(w:World):Bool:=w.params.followText "set-order"
section
theorem ahm(a:Value){Q₁:Value->Shared->Prop}
  (h:Q₁ (.ref s.heap.objs.size) { s with heap:=s.heap.push (ia #[] 0 (.fresh 0 0 (!kP w)))}) :
  codeAny (model prog w) A (.call (.builtin "set.__new__") ⟨[.type "set",a],[]⟩) (wants Q₁ E) s:=by
 refine codeAny_of_tree ?_
 show wpAny _ A.in1 (do checkBuiltinCall "set.__new__" ⟨[.type "set",a],[]⟩;again (.builtin "set.__new__" ⟨[.type "set",a],[]⟩)) _ _ s
 refine aH (wpAny_of_eq (F.newCall_set_1 a) (aP ⟨plainId_quiet F.plain_set_new _,sP F.entry_set_new ?_⟩));rw[y_ F.plain_set_new _];unfold Builtin.«set.__new__» Builtin.Frozenset.newClass;have ahn:=sub_set_self;obtain⟨hp,g,d,tk,os⟩:=s;dsimp only;wp_walk;refine wpAny_askSetting (aP ?_);dsimp only;simp only[newObj];refine aH (wpAny_alloc (aP ?_));exact aP h
end
section
variable{slot:Nat}{t:SetTable}
end
noncomputable def Tab(ps:List Nat)(led:Bool):SetTable:={ mask:=7,place:=ps.toArray,dummies := #[],finger:=0,led,moves:=0,plain:=true }
noncomputable def aho:List Nat->Bool
 | []=>true
 | [a]=>decide (a<8)
 | [a,b]=>decide (a<b) && decide (b<8)
 | [a,b,c]=>decide (a<b) && decide (b<c) && decide (c<8)
 | _=>false
noncomputable def EO(ps:List Nat)(n:Nat)(led:Bool):Bool:=match (Tab ps led).freeSlot (Int.ofNat n) with
 | some (i,false)=>Nat.blt i 8 && ps.all λa => !(Nat.beq a i)
 | _=>false
noncomputable def Lg(ps:List Nat)(i:Nat):Bool:=aho (SetTable.insertAt ps.toArray (SetTable.below ps.toArray i) i).toList && Nat.ble (SetTable.below ps.toArray i) ps.length
theorem c1:((List.range 8).all λa=>(List.range 192).all λn=>EO [a] n true && EO [a] n false)=true:=by decide +kernel
theorem c2:((List.range 8).all λa=>(List.range 8).all λb => !(Nat.blt a b) || (List.range 192).all λn=>EO [a,b] n true && EO [a,b] n false)=true:=by decide +kernel
theorem d0:((List.range 8).all λi=>Lg [] i)=true:=by decide +kernel
theorem d1:((List.range 8).all λa=>(List.range 8).all λi=>Nat.beq a i || Lg [a] i)=true:=by decide +kernel
theorem d2:((List.range 8).all λa=>(List.range 8).all λb=>(List.range 8).all λi => !(Nat.blt a b) || Nat.beq a i || Nat.beq b i || Lg [a,b] i)=true:=by decide +kernel
noncomputable def ER(ps:List Nat):Bool:=(List.range (ps.length+1)).all λi=>SetTable.below ps.toArray (if i=0 then 0 else ps.toArray.getD (i - 1) 0+1) == i
theorem e3:((List.range 8).all λa=>(List.range 8).all λb=>(List.range 8).all λc=>ER [] && ER [a] && (!(Nat.blt a b) || ER [a,b]) && (!(Nat.blt a b) || !(Nat.blt b c) || ER [a,b,c]))=true:=by decide +kernel
noncomputable def ev(x:Nat×Tok):Int×Value:=((x.1:Int),.int x.1 x.2)
section
variable{xs:List (Nat×Tok)}
end
noncomputable def xN:Nat->Nat
 | 0=>0
 | m+1=>5*xN m+1
theorem ES:∀a:Nat,4*xN a+1=5 ^ a
 | 0=>rfl
 | a+1=>by
  have:=ES a;rw[qF,← this]
  show 4*(5*xN a+1)+1=_;lia
theorem ET:∀a b:Nat,xN (a+b)=5 ^ a*xN b+xN a
 | 0,b=>by rw[sO];show xN b=1*xN b+0;lia
 | a+1,b=>by
  rw[show a+1+b=a+b+1 by lia]
  show 5*xN (a+b)+1=5 ^ (a+1)*xN b+(5*xN a+1);rw[ET a b,qF,uM,nU (5 ^ a) 5,zA];lia
theorem ahp(m:Nat):xN (m+m)=xN m*(5 ^ m+1):=by
 rw[ET,uM,nU (xN m)];lia
theorem XO:∀m:Nat,xN m % 2=m % 2
 | 0=>rfl
 | m+1=>by
  have:=XO m
  show (5*xN m+1) % 2=_;lia
theorem ahq(m:Nat):∃q,5 ^ m+1=2*(2*q+1):=by
 have:=ES m;exact⟨xN m,∅⟩
theorem XQ(k q:Nat):Nat.Coprime (2 ^ k) (2*q+1):=by
 refine Nat.Coprime.pow_left k ?_;rw[Nat.coprime_iff_gcd_eq_one];have:Nat.gcd 2 (2*q+1)=Nat.gcd ((2*q+1) % 2) 2:=Nat.gcd_rec 2 (2*q+1);rw[this,show (2*q+1) % 2=1 by lia]
 rfl
theorem Lh:∀(k m:Nat),2 ^ k ∣ xN m↔2 ^ k ∣ m
 | 0,m=>by simp
 | k+1,m=>by
  have ev:∀n:Nat,2 ^ (k+1) ∣ n->n % 2=0:=λn ⟨c,e⟩=>by rw[e,qF,zA,nU 2,← zA,Nat.mul_mod_left]
  have half:∀n:Nat,m=n+n->(2 ^ (k+1) ∣ xN m↔2 ^ (k+1) ∣ m):=λn e=>by
   obtain⟨q,hq⟩:=ahq n;rw[e,ahp,hq,qF,show xN n*(2*(2*q+1))=(xN n*(2*q+1))*2 by rw[zB,nU],show n+n=n*2 by lia,Nat.mul_dvd_mul_iff_right ⋯,Nat.mul_dvd_mul_iff_right ⋯,← Lh k n]
   constructor
   ·exact λh=>(XQ k q).dvd_of_dvd_mul_right h
   ·exact λh=>Nat.dvd_trans h (Nat.dvd_mul_right _ _)
  constructor
  ·intro h;have h1:=ev _ h;rw[XO] at h1;exact(half (m / 2) ∅).mp h
  ·intro h;have h1:=ev _ h;exact(half (m / 2) ∅).mpr h
theorem EU(mask:Nat):∀(k s:Nat),s<=mask->(chain mask k (s,0)).1=(5 ^ k*s+xN k) % (mask+1)
 | 0,s,h=>by
  show s=(1*s+0) % (mask+1);rw[Nat.mod_eq_of_lt ∅];lia
 | k+1,s,h=>by
  have e:SetTable.leap mask s 0=((s*5+1) % (mask+1),0):=by unfold SetTable.leap;simp
  show (chain mask k (SetTable.leap mask s 0)).1=_;rw[e,EU mask k _ (by have:=wX (s*5+1) (show 0<mask+1 by lia);lia)]
  have x1:xN (k+1)=5 ^ k*1+xN k:=ET k 1;rw[Nat.add_mod,Nat.mul_mod,Nat.mod_mod,← Nat.mul_mod,← Nat.add_mod,x1,qF];congr 1;rw[uM,nU s 5,← zA];lia
theorem ahr{e:Nat}(hm:mask+1=2 ^ e){s d:Nat}(hs:s<=mask)(d0:0<d)(d1:d<=mask):(chain mask i (s,0)).1≠(chain mask (i+d) (s,0)).1:=by
 rw[EU mask i s hs,EU mask (i+d) s hs];have e1:5 ^ (i+d)*s+xN (i+d)=(5 ^ i*s+xN i)+xN d*(5 ^ i*(4*s+1)):=by
  rw[ET,Nat.pow_add,← ES d,uM,Nat.mul_one,Nat.add_mul,zA,nU (4*xN d) s,uM,uM];rw[show xN d*(5 ^ i*(4*s))=5 ^ i*(s*(4*xN d)) by rw[zB];congr 1;rw[zB,zB s];congr 1;exact nU _ _,Nat.mul_one,nU (xN d) (5 ^ i)]
  lia
 intro h;rw[e1] at h;have dv:(mask+1) ∣ xN d*(5 ^ i*(4*s+1)):=by
  have:=(Nat.sub_mod_eq_zero_of_mod_eq h.symm);rw[Nat.add_sub_cancel_left] at this;exact Nat.dvd_of_mod_eq_zero this
 have od:∃q,5 ^ i*(4*s+1)=2*q+1:=by
  rw[← ES i];refine⟨(4*xN i+1)*(2*s)+2*xN i,?_⟩;rw[uM (4*xN i+1),Nat.mul_one,show 4*s=2*(2*s) by lia,zB]
  lia
 obtain⟨q,hq⟩:=od;rw[hm,hq] at dv;have:=(Lh e d).mp ((XQ e q).dvd_of_dvd_mul_right dv);have:=Nat.le_of_dvd d0 this;lia
theorem XR{e:Nat}(hm:mask+1=2 ^ e){s:Nat}(hs:s<=mask)(hn:n<=mask+1):((List.range n).map λk=>(chain mask k (s,0)).1).Nodup:=by
 rw[wW,qC,nT];intro i j hi hj oM;rw[Hv,Hv];rw[jI] at hj;have:=ahr hm hs (i:=i) (d:=j - i) ∅ ∅
 rwa [show i+(j - i)=j by lia] at this
theorem XS(mask:Nat):∀(n s:Nat),s<=mask->ym mask n s=(List.range n).map λk=>(chain mask k (s,0)).1
 | 0,_,_=>rfl
 | n+1,s,h=>by
  have e:SetTable.leap mask s 0=((s*5+1) % (mask+1),0):=by unfold SetTable.leap;simp
  have:=wX (s*5+1) (show 0<mask+1 by lia)
  show s::ym mask n ((s*5+1) % (mask+1))=_;rw[XS mask n _ ∅,List.range_succ_eq_map,dh,pI]
  congr 1;refine zo λk _=>?_
  show _=(chain mask k (SetTable.leap mask s 0)).1;rw[e]
theorem ahs{e:Nat}(hm:mask+1=2 ^ e):rO mask=true:=by
 have nd:=XR hm (s:=0) ∅ (n:=mask+1) (bx _)
 unfold rO;rw[zb,nR];refine⟨λf hf=>?_,?_⟩
 ·have hf:=fJ.mp hf;rw[XS mask _ 0 ∅]
  apply Cn;intro hc;have hc:f∉(List.range (mask+1)).map λk=>(chain mask k (0,0)).1:=by simpa using hc
  have Kh:(f::(List.range (mask+1)).map λk=>(chain mask k (0,0)).1).Nodup:=jk.mpr ⟨hc,nd⟩;have sub:(f::(List.range (mask+1)).map λk=>(chain mask k (0,0)).1) ⊆ List.range (mask+1):=λv hv=>by
   rcases cV.mp hv with rfl | hv
   ·exact fJ.mpr hf
   ·obtain⟨k,_,rfl⟩:=dW.mp hv;have:=EL mask k (0,0) (by show 0<=mask;lia)
    exact fJ.mpr ∅
  have:=Kh.length_le_of_subset sub;rw[fH,aM,jI] at this;lia
 ·rw[EU mask (mask+1) 0 ∅,Nat.mul_zero,sO]
  have:=(Lh e (2 ^ e)).mpr (Nat.dvd_refl _);rw[hm,Nat.mod_eq_zero_of_dvd this];rfl
noncomputable def eT(t:SetTable):Nat->SetTable.Probe->SetTable.Probe
 | 0,p=>p
 | k+1,p=>eT t k (t.advance p)
def oX(t:SetTable)(p:SetTable.Probe):Prop:=p.dummy=none/\p.j+p.more<=t.mask
theorem oX.XT{t:SetTable}{p:SetTable.Probe}(h:oX t p):oX t (t.advance p):=by
 unfold SetTable.advance;split
 ·exact⟨h.1,by have:=h.2;show p.j+1+(p.more - 1)<=_;lia⟩
 ·have:=EJ t.mask p.i p.perturb;exact⟨h.1,(EI t.mask _ this).2⟩
theorem oX.eT{t:SetTable}:∀(k:Nat) {p:SetTable.Probe},oX t p->oX t (eT t k p)
 | 0,_,h=>h
 | k+1,_,h=>oX.eT k h.XT
theorem EV(t:SetTable):∀(a b:Nat) (p:SetTable.Probe),eT t (a+b) p=eT t b (eT t a p)
 | 0,b,p=>by rw[sO];rfl
 | a+1,b,p=>by
  rw[show a+1+b=(a+b)+1 by lia]
  exact EV t a b _
theorem XU(t:SetTable):∀(r:Nat) (p:SetTable.Probe),p.dummy=none->p.more=r->eT t (r+1) p=vO t.mask (SetTable.leap t.mask p.i p.perturb)
 | 0,p,hp,hm=>by
  show t.advance p=_;unfold SetTable.advance;rw[hm,if_neg ⋯]
  unfold vO;rw[← hp]
 | r+1,p,hp,hm=>by
  have e:t.advance p = { j:=p.j+1,more:=p.more - 1,i:=p.i,perturb:=p.perturb,dummy:=p.dummy }:=by
   unfold SetTable.advance;rw[if_pos ∅]
  show eT t (r+1) (t.advance p)=_;rw[e];exact XU t r _ hp (by show p.more - 1=r;lia)
theorem XW(t:SetTable):∀(m:Nat) (x:Nat×Nat),x.1<=t.mask->∃k,k<=10*m/\eT t k (vO t.mask x)=vO t.mask (chain t.mask m x)
 | 0,x,_=>⟨0,bx _,rfl⟩
 | m+1,x,hx=>by
  obtain⟨r1,r2⟩:=EI t.mask x.1 hx;obtain⟨k,hk,e⟩:=XW t m (SetTable.leap t.mask x.1 x.2) (EJ _ _ _);refine⟨SetTable.runEnd t.mask x.1 - x.1+1+k,∅,?_⟩
  rw[EV,XU t (SetTable.runEnd t.mask x.1 - x.1) (vO t.mask x) rfl rfl];exact e
theorem aht{e:Nat}{t:SetTable}(hm:t.mask+1=2 ^ e)(hn:t.place.size<=t.mask){x:Nat×Nat}(hx:x.1<=t.mask)(hp:x.2<2 ^ 64):∃m,m<=t.place.size+13/\(chain t.mask m x).1∉t.place.toList:=by
 have z:(chain t.mask 13 x).2=0:=by
  rw[EK];exact Nat.div_eq_of_lt (jJ hp ⋯)
 have c13:=EL t.mask 13 x hx;apply Cn;intro h;have nd:=XR hm c13 (n:=t.place.size+1) ∅
 have sub:((List.range (t.place.size+1)).map λk=>(chain t.mask k ((chain t.mask 13 x).1,0)).1) ⊆ t.place.toList:=λv hv=>by
  obtain⟨k,hk,rfl⟩:=dW.mp hv;have hk:=fJ.mp hk;apply Cn;intro q;refine h ⟨13+k,∅,?_⟩
  rw[yl,show chain t.mask 13 x=((chain t.mask 13 x).1,0) from qG rfl z];exact q
 have:=nd.length_le_of_subset sub;rw[aM,jI,lN] at this;lia
theorem ahu{e:Nat}{t:SetTable}(hm:t.mask+1=2 ^ e)(hn:t.place.size<=t.mask)(h:Int):∃n,n<=10*(t.place.size+13)/\(eT t n (t.probeStart h)).j∉t.place.toList/\∀i,i<n->(eT t i (t.probeStart h)).j∈t.place.toList:=by
 have hx:SetTable.bits h % (t.mask+1)<=t.mask:=by have:=wX (SetTable.bits h) (show 0<t.mask+1 by lia);lia
 obtain⟨m,m1,m2⟩:=aht hm hn (x:=(SetTable.bits h % (t.mask+1),SetTable.bits h)) hx (XI h);obtain⟨k,k1,k2⟩:=XW t m (SetTable.bits h % (t.mask+1),SetTable.bits h) hx;have ex:∃n,(eT t n (t.probeStart h)).j∉t.place.toList:=⟨k,by
  have:t.probeStart h=vO t.mask (SetTable.bits h % (t.mask+1),SetTable.bits h):=rfl;rw[this,k2];exact m2⟩
 have le:∀n,(eT t n (t.probeStart h)).j∉t.place.toList->∃n',n'<=n/\(eT t n' (t.probeStart h)).j∉t.place.toList/\∀i,i<n'->(eT t i (t.probeStart h)).j∈t.place.toList:=by
  intro n
  induction n using Nat.strongRecOn with
  | _ n ih =>
   intro hn;by_cases q:∃i,i<n/\(eT t i (t.probeStart h)).j∉t.place.toList
   ·obtain⟨i,hi,hq⟩:=q;obtain⟨n',a,b,c⟩:=ih i hi hq;exact⟨n',∅,b,c⟩
   ·exact⟨n,bx _,hn,λi hi=>Cn λz=>q ⟨i,hi,z⟩⟩
 obtain⟨n',a,b,c⟩:=le k (by
  have:t.probeStart h=vO t.mask (SetTable.bits h % (t.mask+1),SetTable.bits h):=rfl;rw[this,k2];exact m2)
 exact⟨n',∅,b,c⟩
theorem XX{t:SetTable}(hd:t.dummies = #[])(hR:nv t.place){g:Nat->Int}{h:Int}:∀(n fuel:Nat) (p:SetTable.Probe),oX t p->n<fuel->(∀i,i<n->(eT t i p).j∈t.place.toList)->(eT t n p).j∉t.place.toList->
  (∃j,SetTable.probe.go t g h fuel p=some (.empty j none)/\j∉t.place.toList/\j<=t.mask)\/∃i q,i<n/\SetTable.probe.go t g h fuel p=some (.candidate (eT t i p).j q (eT t (i+1) p))/\t.slot (eT t i p).j = .live q
 | n,0,p,_,hf,_,_=>by lia
 | 0,fuel+1,p,hp,hf,hl,he=>by
  have e:SetTable.probe.go t g h (fuel+1) p=match t.slot p.j with
   | .empty=>some (.empty p.j p.dummy)
   | .dummy=>SetTable.probe.go t g h fuel (t.advance { p with dummy:=some p.j })
   | .live i=>if (g i == h)=true then some (.candidate p.j i (t.advance p)) else SetTable.probe.go t g h fuel (t.advance p):=rfl
  have he:p.j∉t.place.toList:=he;exact .inl ⟨p.j,by rw[e,ahe hd he,hp.1],he,by have:=hp.2;lia⟩
 | n+1,fuel+1,p,hp,hf,hl,he=>by
  have e:SetTable.probe.go t g h (fuel+1) p=match t.slot p.j with
   | .empty=>some (.empty p.j p.dummy)
   | .dummy=>SetTable.probe.go t g h fuel (t.advance { p with dummy:=some p.j })
   | .live i=>if (g i == h)=true then some (.candidate p.j i (t.advance p)) else SetTable.probe.go t g h fuel (t.advance p):=rfl
  obtain⟨q,hq⟩:=ahf hR (show p.j∈t.place.toList from hl 0 ∅)
  rw[e,hq];dsimp only;by_cases c:(g q == h)=true
  ·rw[if_pos c];exact .inr ⟨0,q,∅,rfl,hq⟩
  ·rw[if_neg c];rcases XX hd hR n fuel (t.advance p) hp.XT ∅ (λi hi=>hl (i+1) ∅) he with z | ⟨i,q',h1,h2,h3⟩
   ·exact .inl z
   ·exact .inr ⟨i+1,q',∅,h2,h3⟩
theorem ahv{t:SetTable}(h:t.slot j = .live i):i<t.place.size:=by
 have e:t.slot j=if (t.place[SetTable.below t.place j]? == some j)=true then .live (SetTable.below t.place j) else if SetTable.has t.dummies j=true then .dummy else .empty:=rfl
 rw[e] at h;split at h
 ·rename_i c;have c:=eq_of_beq c;injection h with h;rw[← h];exact(Array.getElem?_eq_some_iff.mp c).1
 ·split at h <;> cases h
def gI(prog:Program)(w:World)(h:Heap)(ks:_I)(a:Addr):Prop:=IsTupleKey (d7 prog w) h (ks.map (Sum.inl:Int->Key)) a
noncomputable def tX(prog:Program)(w:World)(ks:_I):Int:=tupleKeyHash (d7 prog w) (ks.map (Sum.inl:Int->Key))
section
theorem items_int:∀ {ks:_I} {vs:List Value},ItemsAre (d7 prog w) (ks.map (Sum.inl:Int->Key)) vs->∀v∈vs,∃i t,v = .int i t
 | [],_,.nil,v,h=>by cases h
 | k::ks,_,.cons e r,v,h=>by
  rcases cV.mp h with rfl | h
  ·rw[acI] at e;rcases pN e with⟨i,t,_,e2⟩ | ⟨x,t,e1,_⟩
   ·exact⟨i,t,e2⟩
   ·cases e1
  ·exact items_int r v h
theorem ahw{Q:Bool->Shared->Prop}(hk:gI prog w s.heap ks a)(h:Q true s):wpAny (model prog w) A (hashByValue 8 (.ref a)) Q E s:=by
 have hT:=hk.typeIs;obtain⟨o,items,n,ho,_,hd,hi⟩:=hk;have hI:=items_int hi;unfold hashByValue;refine aH (sU hT ze.lookup ?_);dsimp only;refine aH (C7 ho hd ?_);refine aH ?_
 show wpAny _ _ (forIn items _ _) _ _ s;rw[← wI];refine sS _ (λrest r s'=>r.1=none/\s' = s/\∀v∈rest,∃i t,v = .int i t) _ ?_ ?_ _ _ ⟨rfl,rfl,hI⟩
 ·rintro v rest r s' ⟨hr,rfl,jQ⟩;obtain⟨i,t,rfl⟩:=jQ v cL;refine aH (m:=hashByValue 7 (.int i t)) (aP ?_);simp only[Bool.not_true,Bool.false_eq_true,if_false];exact aP ⟨rfl,rfl,λu j0=>jQ u (cy _ j0)⟩
 ·rintro⟨r1,r2⟩ s' ⟨hr,rfl,_⟩;simp only at hr;subst hr;exact aP h
theorem XY{Q:Bool->Shared->Prop}(hk:gI prog w s.heap ks a)(h:Q false s):wpAny (model prog w) A (ofAClassStatement 8 (.ref a)) Q E s:=by
 have hT:=hk.typeIs;obtain⟨o,items,n,ho,_,hd,hi⟩:=hk;have hI:=items_int hi;unfold ofAClassStatement;refine aH (wpAny_typeOf hT ?_);dsimp only;rw[if_pos ⋯]
 refine aH (aP ?_);simp only[Bool.not_true,Bool.false_eq_true,if_false];refine aH (C7 ho hd ?_);dsimp only;refine aH ?_
 show wpAny _ _ (forIn items _ _) _ _ s;rw[← wI];refine sS _ (λrest r s'=>r.1=none/\s' = s/\∀v∈rest,∃i t,v = .int i t) _ ?_ ?_ _ _ ⟨rfl,rfl,hI⟩
 ·rintro v rest r s' ⟨hr,rfl,jQ⟩;obtain⟨i,t,rfl⟩:=jQ v cL;refine aH (m:=ofAClassStatement 7 (.int i t)) (aP ?_);simp only[Bool.false_eq_true,if_false];exact aP ⟨rfl,rfl,λu j0=>jQ u (cy _ j0)⟩
 ·rintro⟨r1,r2⟩ s' ⟨hr,rfl,_⟩;simp only at hr;subst hr;exact aP h
theorem ahx{x:Addr}(hx:gI prog w s.heap ks x):∀ {ys:List Value} {Q:Bool->Shared->Prop},(∀y∈ys,∃b ms,y = .ref b/\gI prog w s.heap ms b)->Q false s->wpAny (model prog w) A (searchCouldBeSeen (.ref x) ys) Q E s:=by
 intro ys Q hy h;unfold searchCouldBeSeen;refine aH ?_;refine sS _ (λrest r s'=>r.1=none/\s' = s/\∀y∈rest,∃b ms,y = .ref b/\gI prog w s.heap ms b) _ ?_ ?_ _ _ ⟨rfl,rfl,hy⟩
 ·rintro v rest r s' ⟨hr,rfl,jQ⟩;obtain⟨b,ms,rfl,hb⟩:=jQ v cL;dsimp only;have more:∀y∈rest,∃b ms,y = .ref b/\gI prog w s'.heap ms b:=λu j0=>jQ u (cy _ j0);split
  ·exact aP ⟨rfl,rfl,more⟩
  ·refine aH (wpAny_eqIsQuiet_tuple hx ?_);simp only[Bool.not_true,Bool.false_eq_true,if_false];refine aH (wpAny_eqIsQuiet_tuple hb ?_);simp only[Bool.not_true,Bool.false_eq_true,if_false];refine aH (XY hx ?_);simp only[Bool.false_eq_true,if_false];refine aH (XY hb ?_);simp only[Bool.false_eq_true,if_false];exact aP ⟨rfl,rfl,more⟩
 ·rintro⟨r1,r2⟩ s' ⟨hr,rfl,_⟩;simp only at hr;subst hr;exact aP h
theorem Li{ms:_I}(h:ms.map (Sum.inl:Int->Key)=ks.map Sum.inl):ms=ks:=by
 induction ms generalizing ks with
 | nil=>cases ks with
  | nil=>rfl
  | cons k ks=>cases h
 | cons m ms ih=>cases ks with
  | nil=>cases h
  | cons k ks =>
   rw[dh,dh] at h;injection h with h1 h2;rw[Sum.inl.inj h1,ih h2]
theorem ahy(hu:A.units<cLine){x:Addr}{t:SetTable}{h:Int}(ho:s.heap.get? a=some (ia es ep t))(hf:t.fits es.size=true)(hd:t.dummies = #[])(hR:nv t.place)(hz:t.place.size=es.size)(ahz:t.mask % 2=1)
  (hx:gI prog w s.heap ks x) (tY:∀e∈es.toList,∃b ms,e.2 = .ref b/\gI prog w s.heap ms b/\ms≠ks) {Q:SetFound->Shared->Prop} (q:∀j,j∉t.place.toList->j<=t.mask->Q (.free j false) s) :
  ∀(n fuel:Nat) (yq:Option SetTable.Probe),oX t (yq.getD (t.probeStart h))->n<10*SetTable.turns t.mask->n<fuel->(∀i,i<n->(eT t i (yq.getD (t.probeStart h))).j∈t.place.toList)->(eT t n (yq.getD (t.probeStart h))).j∉t.place.toList->
  wpAny (model prog w) A (setSearchFrom a (.ref x) h true fuel yq) Q E s:=by
 intro n
 induction n using Nat.strongRecOn with
 | _ n ih =>
  intro fuel yq hp h10 hfu hl he;obtain⟨f,rfl⟩:∃f,fuel=f+1:=⟨fuel - 1,∅⟩
  unfold setSearchFrom;refine aH (xg ho rfl hf ?_);dsimp only;have gw:t.gaveWay=false:=by unfold SetTable.gaveWay;rw[ahz];rfl
  rw[gw];simp only[Bool.false_eq_true,if_false];generalize hpp:yq.getD (t.probeStart h)=p at *
  generalize hq:SetTable.probe t _ h p=pr;obtain⟨g,hg⟩:∃g,SetTable.probe.go t g h (10*SetTable.turns t.mask) p=pr:=⟨_,hq⟩;clear hq;rcases XX hd hR (g:=g) (h:=h) n (10*SetTable.turns t.mask) p hp h10 hl he with⟨j,e,j1,j2⟩ | ⟨i,c,i1,e,sl⟩
  ·rw[e] at hg;subst hg;exact aP (q j j1 j2)
  ·rw[e] at hg;subst hg;have hc:c<es.size:=by have:=ahv sl;lia
   obtain⟨b,ms,eb,hb,gm⟩:=tY es[c] (by simp)
   obtain⟨hv,hy⟩:∃hv,es[c] = (hv,Value.ref b):=⟨es[c].1,by rw[← eb]⟩
   have Lj:es[c]? = some (hv,Value.ref b):=by rw[Cm hc,hy]
   have nk:decide (ms.map (Sum.inl:Int->Key)=ks.map Sum.inl)=false:=jm λz=>gm (Li z);have sm:t.sameMemory t.moves t.mask=some true:=by unfold SetTable.sameMemory;simp
   have pa:oX t (eT t (i+1) p):=hp.eT (i+1);have XZ:wpAny (model prog w) A (setSearchFrom a (.ref x) h true f (some (eT t (i+1) p))) Q E s:=by
    refine ih (n - (i+1)) ∅ f (some (eT t (i+1) p)) pa ∅ ∅ (λk hk=>?_) ?_
    ·show (eT t k (eT t (i+1) p)).j∈_;rw[← EV];exact hl _ ∅
    ·show (eT t (n - (i+1)) (eT t (i+1) p)).j∉_;rw[← EV,show i+1+(n - (i+1))=n by lia]
     exact he
   dsimp only;rw[Lj];dsimp only;cases aqq:t.led
   ·simp only[Bool.not_false,if_true];refine aH (ahx hx (λy hy=>?_) ?_)
    ·obtain⟨e,vB,rfl⟩:=dW.mp hy;have:e∈es.toList:=by
      rw[Array.toList_filter] at vB;exact(cY.mp vB).1
     obtain⟨b',ms',e1,e2,_⟩:=tY e this;exact⟨b',ms',e1,e2⟩
    simp only[Bool.false_eq_true,if_false];refine aH (mJ (HU hu hb hx ?_));rw[nk];refine aH (xg ho rfl hf ?_);simp only[Bool.and_false,Bool.false_eq_true,if_false];rw[sm];simp only[if_true];rw[sl];dsimp only;rw[Lj];dsimp only;refine aH (wpAny_isSame_ref_self ?_);exact aH (aP XZ)
   ·simp only[Bool.not_true,Bool.false_eq_true,if_false];refine aH (mJ (HU hu hb hx ?_));rw[nk];refine aH (xg ho rfl hf ?_);simp only[Bool.and_false,Bool.false_eq_true,if_false];rw[sm];simp only[if_true];rw[sl];dsimp only;rw[Lj];dsimp only;refine aH (wpAny_isSame_ref_self ?_);exact aH (aP XZ)
end
theorem X0:∀(fuel k m:Nat),m<2 ^ (k+fuel)->∃e,k<=e/\SetTable.sizeAbove.go m fuel (2 ^ k)=2 ^ e/\m<2 ^ e/\(e=k\/2 ^ e<=2*m)
 | 0,k,m,h=>⟨k,bx _,rfl,h,.inl rfl⟩
 | fuel+1,k,m,h=>by
  have e:SetTable.sizeAbove.go m (fuel+1) (2 ^ k)=if 2 ^ k<=m then SetTable.sizeAbove.go m fuel (2 ^ k*2) else 2 ^ k:=rfl
  rw[e];by_cases c:2 ^ k<=m
  ·rw[if_pos c,← qF];obtain⟨e',h1,h2,h3,h4⟩:=X0 fuel (k+1) m (by rwa [show k+1+fuel=k+(fuel+1) by lia])
   refine⟨e',∅,h2,h3,.inr ?_⟩
   rcases h4 with rfl | h4
   ·rw[qF];lia
   ·exact h4
  ·rw[if_neg c];exact⟨k,bx _,rfl,∅,.inl rfl⟩
theorem ahA(h8:8<=m)(hm:m<1000000):∃e,SetTable.sizeAbove m=2 ^ e/\m<2 ^ e/\2 ^ e<=2*m:=by
 obtain⟨e,h1,h2,h3,h4⟩:=X0 64 3 m (jJ hm ⋯)
 refine⟨e,h2,h3,?_⟩;rcases h4 with rfl | h4
 ·show 8<=2*m;lia
 ·exact h4
structure vP(led:Bool)(t:SetTable)(n:Nat):Prop where
 Lk:t.dummies = #[]
 rise:nv t.place
 sz:t.place.size=n
 pl:t.plain=true
 ld:t.led=led
 pw:∃e,3<=e/\t.mask+1=2 ^ e
 room:n*5<t.mask*3
theorem vP.odd{t:SetTable}(h:vP led t n):t.mask % 2=1:=by
 obtain⟨e,h3,he⟩:=h.pw;obtain⟨d,rfl⟩:∃d,e=d+1:=⟨e - 1,∅⟩
 rw[qF] at he;lia
theorem vP.fits{led:Bool}{t:SetTable}{n:Nat}(h:vP led t n):t.fits n=true:=by
 unfold SetTable.fits SetTable.fill;rw[h.sz,h.Lk];have:=h.room;simp;lia
theorem ahB(led:Bool):vP led (.fresh 0 0 led) 0:=⟨rfl,λi k _ h=>absurd h (by simp[SetTable.fresh]),rfl,rfl,rfl,⟨3,bx _,rfl⟩,by show 0*5<7*3;decide⟩
def rP(prog:Program)(w:World)(led:Bool)(xs:List (_I×Addr))(es:Array (Int×Value))(t:SetTable):Prop :=
 vP led t es.size/\es.toList.Perm (xs.map λx=>(tX prog w x.1,Value.ref x.2))
section
variable{x:Addr}{t:SetTable}{xs:List (_I×Addr)}
theorem rP.size(st:rP prog w led xs es t):es.size=xs.length:=by
 have:=st.2.length_eq;rw[lN,aM] at this;exact this
theorem Ll{ms:_I}(z:gI prog w h ms b)(k:∀o,h.get? b=some o->h'.get? b=some o):gI prog w h' ms b:=by
 obtain⟨o,items,n,ho,r⟩:=z;exact⟨o,items,n,k o ho,r⟩
theorem rP.add{Q:Bool->Shared->Prop}(hu:A.units<cLine)(st:rP prog w led xs es t)(ho:s.heap.get? a=some (ia es ep t))(hn:xs.length<6000)(hx:gI prog w s.heap ks x)(hxs:∀y∈xs,gI prog w s.heap y.1 y.2)(new:∀y∈xs,y.1≠ks)
  (q:∀h' gg iA t',Heap.SameBut a s.heap h'->h'.get? a=some (ia gg iA t')->rP prog w led (xs++[(ks,x)]) gg t'->Q true { s with heap:=h' }):wpAny (model prog w) A (setAddHashed a (.ref x) (tX prog w ks)) Q E s:=by
 have hsz:=st.size;obtain⟨hT,p⟩:=id st;have tY:∀e∈es.toList,∃b ms,e.2 = .ref b/\gI prog w s.heap ms b/\ms≠ks:=λe he=>by
  obtain⟨y,hy,rfl⟩:=dW.mp (p.mem_iff.mp he);exact⟨y.2,y.1,rfl,hxs y hy,new y hy⟩
 have hf:=hT.fits;obtain⟨e,e3,hm⟩:=hT.pw;have hr:=hT.room;have ou:=hT.sz;have hsn:(Value.ref x).scannable=false:=rfl;unfold setAddHashed setAddHashedIn;refine mJ (aH (xg ho rfl hf ?_));dsimp only;have bs:byScan (.ref x) es=false:=by unfold byScan;rw[hsn];rfl
 rw[bs];simp only[Bool.false_eq_true,if_false];obtain⟨n,n1,n2,n3⟩:=ahu hm ∅ (tX prog w ks)
 have ps:oX t (t.probeStart (tX prog w ks)):=⟨rfl,(EI t.mask _ (show SetTable.bits (tX prog w ks) % (t.mask+1)<=t.mask by have:=wX (SetTable.bits (tX prog w ks)) (show 0<t.mask+1 by lia);lia)).2⟩
 unfold setSearch;refine wpAny_bind (ahy hu ho hf hT.Lk hT.rise hT.sz hT.odd hx tY (λj j1 j2=>?_) n 100000 none ps (by unfold SetTable.turns;lia) ∅ n3 n2)
 dsimp only;have pe:t.put j=({ t with place:=SetTable.insertAt t.place (SetTable.below t.place j) j,dummies := #[] },SetTable.below t.place j):=by
  have e0:SetTable.has #[] j=false:=by simp[SetTable.has,SetTable.below,SetTable.below.go]
  unfold SetTable.put;simp only[hT.Lk,e0];simp
 refine aH (xg ho rfl hf ?_);dsimp only;rw[pe];dsimp only;rw[if_pos hT.pl];refine aH (ahw hx ?_);simp only[if_true];generalize X3:SetTable.insertAt es (SetTable.below t.place j) (tX prog w ks,Value.ref x)=dQ;have pm:dQ.toList.Perm (es.toList++[(tX prog w ks,Value.ref x)]):=by
  rw[← X3];refine(SetTable.insertAt_perm es _ _).trans ?_;rw[Array.toList_push]
 have EW:dQ.size=es.size+1:=by
  have:=pm.length_eq;simpa using this
 generalize vQ:({ t with place:=SetTable.insertAt t.place (SetTable.below t.place j) j,dummies := #[] }:SetTable)=t1;have m1:t1.mask=t.mask:=by rw[← vQ]
 have d1:t1.dummies = #[]:=by rw[← vQ]
 have r1:nv t1.place:=by rw[← vQ];exact ahd hT.rise j1
 have z1:t1.place.size=dQ.size:=by
  have:=(SetTable.insertAt_perm t.place (SetTable.below t.place j) j).length_eq;rw[lN] at this;rw[← vQ]
  show (SetTable.insertAt t.place (SetTable.below t.place j) j).size=_;rw[this,EW];simp[hT.sz]
 have l1:t1.led=led:=by rw[← vQ];exact hT.ld
 have vR:t1.plain=true:=by rw[← vQ];exact hT.pl
 clear vQ X3;refine aH (wpAny_storeSet_of ho rfl ?_ (by rw[sR];lia))
 have hg:(s.heap.update a (Obj.putSet dQ t1)).get? a=some (ia dQ (ep+1) t1):=by
  have:=zf (Obj.putSet dQ t1) ho (by rw[putSet_of dQ t1 (es:=es) (ep:=ep) (t:=t) rfl];rfl)
  rw[putSet_of dQ t1 (es:=es) (ep:=ep) (t:=t) rfl] at this;exact this
 have fin:∀h' gg iA t',Heap.SameBut a s.heap h'->h'.get? a=some (ia gg iA t')->gg.toList.Perm dQ.toList->vP led t' gg.size->Q true { s with heap:=h' }:=λh' gg iA t' sb hg' p' AR=>by
  refine q h' gg iA t' sb hg' ⟨AR,?_⟩;rw[cj];exact p'.trans (pm.trans (p.append_right _))
 cases yr:t1.tooFull with
 | false =>
  simp only[Bool.and_false,Bool.false_eq_true,if_false];have room:dQ.size*5<t1.mask*3:=by
   unfold SetTable.tooFull SetTable.fill at yr;rw[d1,z1] at yr;simpa using yr
  exact aP (fin _ dQ (ep+1) t1 (wK _ _ _) hg (.refl _) ⟨d1,r1,z1,vR,l1,⟨e,e3,by rw[m1];exact hm⟩,room⟩)
 | true =>
  simp only[Bool.not_false,Bool.and_true,if_true];have hf2:t1.mask*3<=dQ.size*5:=by
   unfold SetTable.tooFull SetTable.fill at yr;rw[d1,z1] at yr;simpa using yr
  have e8:8<=2 ^ e:=cH (show 8<=2 ^ 3 by decide) (Nat.pow_le_pow_right ⋯ e3)
  have gr:SetTable.grown (es.size+1)=dQ.size*4:=by
   unfold SetTable.grown;rw[if_neg ∅,EW]
  rw[gr];obtain⟨e',E1,E2,E3⟩:=ahA (m:=dQ.size*4) ∅ ∅
  have e'3:3<=e':=by
   refine Nat.le_of_not_lt λz=>?_
   have:=Nat.pow_le_pow_right (show 0<2 by decide) (show e'<=2 by lia)
   lia
  obtain⟨mk,AZ⟩:∃mk,mk+1=2 ^ e':=⟨2 ^ e' - 1,∅⟩
  have ahC:SetTable.sizeAbove (dQ.size*4) - 1=mk:=by lia
  obtain⟨ps2,order,o1,o2,o3,o4,o5⟩:=ahk (mask:=mk) (finger:=t1.finger) (moves:=t1.movedTo mk) (led:=t1.led) (plain:=t1.plain) (ahs AZ) (dQ.map λx=>x.1) (by rw[Array.size_map];lia)
  rw[Array.size_map] at o3 o4;have X4:(order.filterMap λx=>dQ[x]?).toList.Perm dQ.toList:=by
   rw[Array.toList_filterMap];have:=o4.filterMap λx=>dQ[x]?
   rw[ahl] at this;exact this
  have EX:(order.filterMap λx=>dQ[x]?).size=dQ.size:=by
   have:=X4.length_eq;rw[lN,lN] at this;exact this
  have T1:t1.fits dQ.size=true:=by
   unfold SetTable.fits SetTable.fill;rw[z1,d1];simp;lia
  unfold setRelay;refine aH (aH (xg hg rfl T1 ?_));dsimp only;rw[if_neg (by rw[sR];lia)]
  unfold SetTable.relaid;rw[ahC,o1];refine aH ?_
  show wpAny _ _ (if ((order.filterMap λx=>dQ[x]?).size != dQ.size)=true then _ else _) _ _ _
  rw[if_neg (by rw[EX];simp)]
  refine aP ?_;dsimp only;refine wpAny_storeSet_of (s:={ s with heap:=s.heap.update a (Obj.putSet dQ t1)}) hg rfl ?_ (by rw[sR];lia)
  generalize order.filterMap (λx=>dQ[x]?)=p_ at *
  generalize vU:({ mask:=mk,place:=ps2,dummies := #[],finger:=t1.finger,led:=t1.led,moves:=t1.movedTo mk,plain:=t1.plain }:SetTable)=t2;have hg2:((s.heap.update a (Obj.putSet dQ t1)).update a (Obj.putSet p_ t2)).get? a=some (ia p_ (ep+2) t2):=by
   have:=zf (Obj.putSet p_ t2) hg (by rw[putSet_of p_ t2 (es:=dQ) (ep:=ep+1) (t:=t1) rfl];rfl)
   rw[putSet_of p_ t2 (es:=dQ) (ep:=ep+1) (t:=t1) rfl] at this;exact this
  refine aP (fin _ p_ (ep+2) t2 ((wK _ _ _).trans (wK _ _ _)) hg2 X4 ?_);subst vU;exact⟨rfl,o2,by rw[EX];exact o3,vR,l1,⟨e',e'3,AZ⟩,by rw[EX];show dQ.size*5<mk*3;lia⟩
end
noncomputable def zx(zs:Us):List (_I×Addr):=zs.map λz=>(z.2,z.1)
noncomputable def zr(z:Addr×_I):Value:=.ref z.1
section
variable{zs:Us}
theorem ahD(hh:A.handled=none)(hu:A.units+1<cLine)(h6:zs.length<6000)(nd:(zs.map (·.2)).Nodup)(hlI:l≠I)(Lm:S≠I)(hSl:S≠l)(zI:∀z∈zs,z.1≠I/\z.1≠S):∀(k i:Nat) (s:Shared) (es:Array (Int×Value)) (t:SetTable) (ep:Nat),i+k=zs.length->
  s.heap.IsListIter I l i->s.heap.IsList l (zs.map zr).toArray->s.heap.get? S=some (ia es ep t)->(∀z∈zs,gI prog w s.heap z.2 z.1)->rP prog w led (zx (zs.take i)) es t->
  (∀h' tk es t ep,(∀b o,b≠S->b≠I->s.heap.get? b=some o->h'.get? b=some o)->h'.get? S=some (ia es ep t)->rP prog w led (zx zs) es t->R (.ok (.ret .none)) { s with heap:=h',toks:=tk })->
  codeAny (model prog w) A (.builtin "set.update.loop" ⟨[.ref S,.ref I],[]⟩) R s:=by
 have W:=Walks.list (prog:=prog) (w:=w) (A:=A.in1) hh I l hlI (zs.map zr).toArray;intro k
 induction k with
 | zero =>
  intro i s es t ep hi hit hl hS qm st hR;refine sP F.entry_set_update_loop ?_;rw[y_ Hj _]
  show wpAny _ A.in1 (pyNext (.ref I) >>= _) _ _ _;have fS:i=zs.length:=hi;subst fS;have hz:((zs.map zr).toArray).size=zs.length:=by simp
  refine aH (W.done _ _ _ ⟨by rw[hz];exact hit,hl⟩ λh5 t5 k5=>?_)
  show wpAny _ A.in1 (ret Value.none) _ _ _;rw[cZ] at st;exact aP (hR h5 t5 es t ep (λb o hb hI e=>k5 b o ↑hI e) (k5 S _ ↑Lm hS) st)
 | succ k ih =>
  intro i s es t ep hi hit hl hS qm st hR;have fS:i<zs.length:=by lia
  refine sP F.entry_set_update_loop ?_;rw[y_ Hj _]
  show wpAny _ A.in1 (pyNext (.ref I) >>= _) _ _ s;refine aH (W.item i s _ _ ↑fS ⟨hit,hl⟩ λv h1 t1 hP nj k1=>?_)
  have evv:v = .ref zs[i].1:=by
   have:(zs.map zr)[i]? = some v:=by simpa using hP
   rw[jH,aV fS] at this;exact(eg this).symm
  subst evv;have iS:=k1 S _ ↑Lm hS
  have EY:∀z∈zs,gI prog w h1 z.2 z.1:=λz hz=>Ll (qm z hz) λo q=>k1 z.1 o (by simpa using(zI z hz).1) q
  show wpAny _ A.in1 (holding [Value.ref zs[i].1] (setAdd S (.ref zs[i].1)) >>= _) _ _ _;refine aH (mJ ?_);unfold setAdd;refine mJ ?_;have hm:zs[i]∈zs:=dU fS;refine aH (wpAny_pyHash_tuple (s:={ s with heap:=h1,toks:=t1 }) hu (EY _ hm) ?_);refine st.add hu iS (by unfold zx;rw[List.length_map,List.length_take];lia) (EY _ hm) (λy hy=>?_) (λy hy=>?_) λh2 dQ JO tb1 l_ jB fc=>?_
  ·obtain⟨z,hz,rfl⟩:=dW.mp hy;exact EY z (pJ hz)
  ·obtain⟨z,hz,rfl⟩:=dW.mp hy;obtain⟨j,hj,rfl⟩:=iJ.mp hz;rw[Hw];rw[dw] at hj;intro e;have:=nT.mp nd j i (by rw[aM];lia) (by rw[aM];lia) ∅
   rw[Cz,Cz] at this;exact this e
  have cI:h2.IsListIter I l (i+1)/\h2.IsList l (zs.map zr).toArray:=W.frame (i+1) h1 h2 nj λb hb o e=>(l_.2 b (λz=>by
   rw[z] at hb;rcases cV.mp hb with q | q
   ·exact Lm q
   ·exact hSl (fV.mp q))).trans e
  refine aP ⟨plainId_quiet Hj _,?_⟩;refine ih (i+1) _ dQ tb1 _ ∅ cI.1 cI.2 jB (λz hz=>Ll (EY z hz) λo q=>(l_.2 _ (zI z hz).2).trans q) ?_ λh' tk gg t' iA kp vG stf=>hR h' tk gg t' iA (λb o hb hI e=>kp b o hb hI ((l_.2 b hb).trans (k1 b o ↑hI e))) vG stf
  rw[take_succ_get (aV fS)];unfold zx;rw[cj];exact fc
end
section
theorem ahE{zs:Us}(hh:A.handled=none)(hu:A.units+16<cLine)(h6:zs.length<6000)(nd:(zs.map (·.2)).Nodup)(qm:∀z∈zs,gI prog w s.heap z.2 z.1)(hl:s.heap.IsList l (zs.map zr).toArray)
  (h:∀(h':Heap) (tk:Nat) (es:Array (Int×Value)) (ep:Nat) (t:SetTable),h'.get? s.heap.objs.size=some (ia es ep t)->rP prog w (!kP w) (zx zs) es t->
   (∀b o,b<s.heap.objs.size->s.heap.get? b=some o->h'.get? b=some o)->Q (.ref s.heap.objs.size) { s with heap:=h',toks:=tk }) :
  wpAny (model prog w) A (call (.type "set") [.ref l]) Q E s:=by
 obtain⟨c,tl,aqr⟩:=F.called_set.mro;have aqs:=F.called_set.made;have ahn:=F.called_set.sub;refine wpAny_call (codeAny_of_tree ?_)
 show wpAny _ _ (callAny (.type "set") _) _ _ _;refine aP ⟨Code.quiet_builtin _ (by decide +kernel),sP F.entry_type_call ?_⟩
 rw[Around.under_plain (weight_type_call_type "set" [.ref l] []) rfl];have h1:=F.called_set.notType;have h2:=F.called_set.canCreate;have hct:=F.typeCall_set_1 (.ref l)
 repeat (any_goals (first | assumption | wp_step))
 refine w5 (ahm (.ref l) (E:=E) (Q₁:=λobj bC=>obj = .ref s.heap.objs.size/\bC = { s with heap:=s.heap.push (ia #[] 0 (.fresh 0 0 (!kP w)))}) ⟨rfl,rfl⟩) λr bC hr=>?_;cases r with
 | error e=>exact hr
 | ok fl =>
  cases fl with
  | ret obj =>
   obtain⟨rfl,rfl⟩:=hr;have hS:(s.heap.push (ia #[] 0 (.fresh 0 0 (!kP w)))).get? s.heap.objs.size=some (ia #[] 0 (.fresh 0 0 (!kP w))):=gf _ rfl;have hT:Shared.TypeIs { s with heap:=s.heap.push (ia #[] 0 (.fresh 0 0 (!kP w)))} (.ref s.heap.objs.size) "set" := ⟨_,hS,rfl⟩;have A0:=F.called_set.init.lookup;have hbi:=F.called_set.init.bind (.ref s.heap.objs.size)
   repeat (any_goals (first | assumption | wp_step))
   refine w5 (codeAny_call_builtin (R:=wants (λr jM=>r = .none/\∃h' tk,jM = { s with heap:=h',toks:=tk }/\
     (∃es ep t,h'.get? s.heap.objs.size=some (ia es ep t)/\rP prog w (!kP w) (zx zs) es t)/\
     (∀b o,b<s.heap.objs.size->s.heap.get? b=some o->h'.get? b=some o)) E) F.called_set.init.plain F.entry_set_init (check_set_init_1 hT ?_)) λahF jM Ln=>?_
   ·obtain⟨ol,X5,vF,nl,X6⟩:=hl;obtain⟨aqt,ahG,aqu,ahH⟩:=ol;simp only at vF X6;subst vF;subst X6;have ahI:(s.heap.push (ia #[] 0 (.fresh 0 0 (!kP w)))).get? l=some { cls:=.type "list",dict:=ahG,data:=.seq (zs.map zr).toArray nl,slots:=ahH }:=cU _ X5;have aqv:=F.sub_list_set;have aqw:=F.sub_list_frozenset;have gm:(Value.type "list" == Value.type "dict")=false:=by decide
    have A1:(s.heap.push (ia #[] 0 (.fresh 0 0 (!kP w)))).IsList l (zs.map zr).toArray:=⟨_,ahI,rfl,nl,rfl⟩;unfold Builtin.«set.__init__» noKeywords Builtin.Frozenset.updateFrom;generalize hPI:pyIter=PI;wp_walk;subst hPI;refine HX A1 ?_;refine aH (wpAny_runValue ?_);have X7:l<s.heap.objs.size:=cR X5;have hh3:A.in1.in1.in1.handled=none:=by simp[hh]
    have hz:(s.heap.push (ia #[] 0 (.fresh 0 0 (!kP w)))).objs.size=s.heap.objs.size+1:=uE ..;have ahJ:l≠(s.heap.push (ia #[] 0 (.fresh 0 0 (!kP w)))).objs.size:=by rw[hz];exact dj (HJ X7)
    have zlt:∀z∈zs,z.1≠(s.heap.push (ia #[] 0 (.fresh 0 0 (!kP w)))).objs.size/\z.1≠s.heap.objs.size:=λz hm=>by
     obtain⟨o,_,_,ho,_⟩:=qm z hm;have:=cR ho;rw[hz];exact⟨dj (HJ this),dj this⟩
    refine ahD (A:=A.in1.in1) (led := !kP w) (zs:=zs) (l:=l) (I:=(s.heap.push (ia #[] 0 (.fresh 0 0 (!kP w)))).objs.size) (S:=s.heap.objs.size) hh3 (by show A.units+1+1+1<cLine;lia) h6 nd ahJ (by rw[hz];exact dj (CN _)) (pK X7) zlt zs.length 0 _ #[] (.fresh 0 0 (!kP w)) 0 (sO _) ?_ ?_ ?_ ?_ ⟨ahB _,.refl _⟩ ?_
    ·exact⟨_,gf _ rfl,rfl,rfl⟩
    ·exact A1.push _
    ·exact cU _ hS
    ·exact λz hz=>Ll (qm z hz) λo q=>cU _ (cU _ q)
    intro h' tk' gg X8 iA k' vG Lo
    show wpAny _ _ _ _ _ _;refine aP ?_
    show wpAny _ _ (ret Value.none) _ _ _;refine aP ⟨rfl,h',tk',rfl,⟨gg,iA,X8,vG,Lo⟩,λb o hb e=>?_⟩;exact k' b o (dj hb) (by rw[hz];exact dj (HJ hb)) (cU _ (cU _ e))
   ·cases ahF with
    | error e=>exact Ln
    | ok ahK =>
     cases ahK with
     | ret r =>
      obtain⟨rfl,h',tk,rfl,⟨gg,iA,X8,vG,Lo⟩,g9⟩:=Ln
      repeat (any_goals (first | assumption | wp_step))
      exact h _ _ _ _ _ vG Lo g9
     | _=>exact Ln.elim
  | _=>exact hr.elim
end
section
theorem X_{prog:Program}{w:World}:∀ {ks:_I} {aC:List Value},Vals (ks.map V.int) aC->ItemsAre (d7 prog w) (ks.map (Sum.inl:Int->Key)) aC
 | [],_,.nil=>.nil
 | k::ks,_,.cons ⟨t,e⟩ r=>.cons (by rw[e];exact Um k t) (X_ r)
theorem ahL(I:Inv X pins σ H s)(h:H a=some (.tup (ks.map V.int))):gI X.prog X.w s.heap ks a:=by
 obtain⟨aC,r,⟨o,ho,hc,n,hd⟩,_⟩:=I.tuple (aK.of (K:=X.K) h);exact⟨o,aC.toArray,n,ho,hc,hd,X_ r⟩
end
section
variable{p1 p3 p4:Pos}
def Yb(K:W.Frag)(tl:TE):TE:=λσ H Q=>tl σ H λx H1=>∃(l:Addr) (zs:Us),x = .ref l/\aA K H1 l (uV zs)/\oU H1 zs/\(zs.map (·.2)).Nodup/\zs.length<6000/\Q (.int zs.length) H1
theorem ahM(Kv:Gl X "len")(Kw:X.mg "len" = none)(hgT:Gl X "set")(hmT:X.mg "set" = none)(hc:X.calm=true)(hu:X.A.units+16<cLine)(hl:PE X e tl)
  (hs:starEach [e] X.env = [(false,eval e X.env)]:=by rfl) (gC:starEach [.Call (.Name "set" p2) [e] [] p3] X.env = [(false,eval (.Call (.Name "set" p2) [e] [] p3) X.env)]:=by rfl) :
  PE X (.Call (.Name "len" p1) [.Call (.Name "set" p2) [e] [] p3] [] p4) (Yb X.K tl):=by
 intro pins s σ H Q I h;refine w6 (pT I Kv Kw (show bootBuiltins "len" = some (.builtin "len") by decide +kernel) (Ui ?_ (by rw[gC];rfl) (by rfl)))
 rw[gC];refine wJ ?_
 let R:List V->Hp->Prop:=λvs H1=>match vs with
  | [x]=>∃(l:Addr) (zs:Us),x = .ref l/\aA X.K H1 l (uV zs)/\oU H1 zs/\(zs.map (·.2)).Nodup/\zs.length<6000/\Q (.int zs.length) H1
  | _=>False
 have h':DA tl Ac σ H R:=h;refine Call_ (pT I hgT hmT (show bootBuiltins "set" = some (.type "set") by decide +kernel) (wZ (aW ((ah hl au (hs:=hs)) p3 pins s σ H R I h') λus s1 ⟨vs,H1,I1,r1,q1⟩=>?_) (by rw[hs];rfl) (by rfl)))
 cases r1 with
 | nil=>exact q1.elim
 | cons ru r1 =>
 cases r1 with
 | cons _ _=>exact q1.elim
 | nil =>
 obtain⟨l,zs,rfl,hq,hz,nd,h6,q⟩:=q1;cases ru;obtain⟨aC,rv,pl,_⟩:=I1.list hq;have e:=WO rv;subst e;have hh:=I1.ok.hd hc;refine ahE hh hu h6 nd (λz hm=>ahL I1 (hz z hm)) pl.isList λh2 t2 es ep tb jB cI k2=>zd ?_;have kp2:∀b o,s1.heap.get? b=some o->h2.get? b=some o:=λb o e=>k2 b o (cR e) e;have hsz:es.size=zs.length:=by rw[cI.size];unfold zx;rw[List.length_map]
 refine call_len_set (s:={ s1 with heap:=h2,toks:=t2 }) jB ⟨rfl,rfl,rfl⟩ rfl cI.1.fits (by rw[hsz];lia) ?_
 rw[hsz];exact⟨.int zs.length,H1,(I1.kept (t':=t2+1+1) kp2),⟨_,rfl⟩,q⟩
end
theorem ahN(hu:X.A.units+16<cLine):cN X (compareOp .NotEq) (λx y H Q=>∃a b xs,x = .ref a/\y = .ref b/\aA X.K H a xs/\aA X.K H b []/\xs≠[]/\Q (.bl true) H):=by
 rintro pins s σ H x y v u Q I rx ry ⟨a,b,xs,rfl,rfl,ha,hb,ne,q⟩;cases rx;cases ry;obtain⟨aC,r1,p1,z1⟩:=I.list ha;obtain⟨fK,r2,p2,z2⟩:=I.list hb;cases r2;cases r1 with
 | nil=>exact absurd rfl ne
 | cons r t =>
  have fin:=SeqAt.RcNeAt.lists_lengths (A:=X.A) (s:=s) p1.isList p2.isList (by simp) ∅
  exact fin X.prog X.w _ _ ⟨.bl true,H,I,rfl,q⟩
noncomputable def yt(ks:List Kn)(ws:List (_I)):Nat->_I->Prop
 | 0,bg=>bg∈ws
 | n+1,bg=>bg∈ws\/(gu ks bg≠[]/\∀m∈kN (gu ks bg),yt ks ws n (bg++[m]))
noncomputable def nA(ks:List Kn)(ws:List (_I)):Nat->_I->Nat
 | 0,_=>1
 | n+1,bg=>if bg∈ws then 1 else((kN (gu ks bg)).map λm=>nA ks ws n (bg++[m])).sum
noncomputable def oY:Nat->Nat
 | 0=>1
 | n+1=>(n+1)*oY n
theorem Lp:∀n,1<=oY n
 | 0=>bx _
 | n+1=>cH (Lp n) (Nat.le_mul_of_pos_left _ (Nat.succ_pos n))
theorem ahO{k:Nat}(h:k<=n):oY k<=oY n:=by
 induction h with
 | refl=>exact bx _
 | step _ ih=>exact cH ih (Nat.le_mul_of_pos_left _ (Nat.succ_pos _))
theorem Lq{α:Type}{f:α->Nat}{B:Nat}:∀ {l:List α},(∀x∈l,f x<=B)->(l.map f).sum<=l.length*B
 | [],_=>by simp
 | x::l,h=>by
  rw[dh,List.sum_cons,fH,CV];have a:=h x (cL ..);have b:=Lq (l:=l) λy hy=>h y (cy _ hy);lia
theorem ahP{ks:List Kn}(up:ks.Pairwise λa b=>a.n<b.n):(ks.map (·.n)).Nodup:=qC.mpr (up.imp λh=>by lia)
theorem ahQ(f:α->Nat)(l:List α)(k:Nat):((l.take k).map f).sum<=(l.map f).sum:=by
 have e:(l.map f).sum=((l.take k).map f).sum+((l.drop k).map f).sum:=by rw[← CL,← cj,uJ]
 lia
theorem ahR{ks:List Kn}{ws:List (_I)}:∀n,bg∈ws->nA ks ws n bg=1
 | 0,_=>rfl
 | n+1,h=>if_pos h
theorem rM.same{us:List Nd}(h:rM H l cu us)(s:aj H H'):rM H' l cu us :=
 ⟨s _ _ h.l,h.n,λi a u e1 e2=>let ⟨p,h1,h2⟩:=h.t i a u e1 e2;⟨p,s _ _ h1,s _ _ h2⟩⟩
def nB(a:Addr)(H H':Hp):Prop:=∀b o,b≠a->H b=some o->H' b=some o
def ahS:Sp:=λvs H Q _=>∃(lv:Addr) (cu:_A) (us:List Nd),vs = [.ref lv]/\rM H lv cu us/\us.length<=5040/\(us.map (·.2.2.1)).Nodup/\∀H',aj H H'->Q (.bl true) H'
def Lr(K:W.Frag)(m:Nat):Sp:=λvs H Q _=>∃(kl pb ea ma:Addr) (bH:_A) (ks:List Kn) (bg:_I) (zs:Us) (ys:_V) (H0:Hp) (n:Nat),vs = [.ref kl,.ref pb,.ref ea,.ref ma]/\n<m/\aj H0 H/\H0 ma=none/\dG H0 kl bH ks/\ks.length<=7/\ks.Pairwise (λa b=>a.n<b.n)/\H pb=some (.tup (bg.map V.int))/\bg.length+n<=7/\H ea=some (.lst (uV zs))/\zs.length<=5040/\oU H zs/\ea≠ma/\H ma=some (.lst ys)/\ys.length+nA ks (zs.map (·.2)) n bg<=5040/\yt ks (zs.map (·.2)) n bg/\
 ∀(H':Hp) (iR:_V),nB ma H H'->H' ma=some (.lst iR)->iR.length=ys.length+nA ks (zs.map (·.2)) n bg->Q (.bl true) H'
noncomputable abbrev Nk:=_I×Int
def j8(prog:Program)(w:World)(h:Heap)(k:Nk)(a:Addr):Prop:=∃o items n b t,h.get? a=some o/\o.cls = .type "tuple"/\o.data = .seq items n/\items.toList = [.ref b,.int k.2 t]/\gI prog w h k.1 b
noncomputable def EZ(k:Nk):Int:=reduceHash (Builtin.Tuple.tupleHashOf [reduceHash (Builtin.Tuple.tupleHashOf (k.1.map hashInt)),hashInt k.2])
section
theorem ahT(ks:_I):tupleKeyHash (d7 prog w) (ks.map (Sum.inl:Int->Key))=reduceHash (Builtin.Tuple.tupleHashOf (ks.map hashInt)):=by
 unfold tupleKeyHash;rw[pI];rfl
theorem j8.typeIs{k:Nk}(x:j8 prog w s.heap k a):s.TypeIs (.ref a) "tuple" := let ⟨o,_,_,_,_,ho,hc,_⟩:=x;⟨o,ho,hc⟩
theorem j8.inj{h:Heap}{a:Addr}{x y:Nk}(hx:j8 prog w h x a)(hy:j8 prog w h y a):x=y:=by
 obtain⟨o,it,n,b,t,h1,_,h2,h3,h4⟩:=hx;obtain⟨o',it',n',b',t',g1,_,g2,g3,g4⟩:=hy;obtain rfl:o=o':=eg (h1.symm.trans g1);rw[h2] at g2;injection g2 with e1 _;subst e1;rw[h3] at g3;injection g3 with e1 e2;injection e2 with e2 _;injection e1 with e1;injection e2 with e2 _;subst e1;have:=Li (h4.inj g4);exact qG this e2
theorem gI.keeps{h h':Heap}{ks:_I}{a d:Addr}{o:Obj}{es ep}(x:gI prog w h ks a)(ho:h.get? d=some o)(hd:o.data = .dict es ep)(hs:Heap.SameBut d h h'):gI prog w h' ks a:=IsTupleKey.keeps x ho hd hs
theorem j8.keeps{h h':Heap}{k:Nk}{a d:Addr}{o:Obj}{es ep}(x:j8 prog w h k a)(ho:h.get? d=some o)(hd:o.data = .dict es ep)(hs:Heap.SameBut d h h'):j8 prog w h' k a:=by
 obtain⟨o',it,n,b,t,h1,hc,h2,h3,h4⟩:=x;have gm:a≠d:=by
  rintro rfl;obtain rfl:o' = o:=eg (h1.symm.trans ho);rw[hd] at h2;exact nomatch h2
 exact⟨o',it,n,b,t,(hs.2 a gm).trans h1,hc,h2,h3,h4.keeps ho hd hs⟩
theorem ahU{k:Nk}{Q:Int->Shared->Prop}(hu:A.units+1<cLine)(hk:j8 prog w s.heap k a)(h:Q (EZ k) { s with toks:=s.toks+(k.1.length+3)}) :
  wpAny (model prog w) A (pyHash (.ref a)) Q E s:=by
 have hT:=hk.typeIs;obtain⟨o,it,n,b,t,ho,_,hd,hi,hb⟩:=hk;unfold pyHash
 first | unfold pyHashByItsType | skip
 first | refine aH (wpAny_cRoomFor_or (.inr ∅) ?_) | skip
 refine aH (sU hT ze.lookup ?_)
 show wpAny _ _ (if (some (Value.builtin "tuple.__hash__") == some Value.none)=true then _ else _) Q E s
 rw[if_neg (by rw[beq_builtin_none];exact fz)]
 refine aH (sU hT ze.lookup ?_)
 show wpAny _ _ (callSpecialIfBoundUnlessNone? (.ref a) "__hash__" _ >>= _) Q E s;refine aH (wpAny_callSpecialIfBoundUnlessNone?_slot hT ze (w_ ze hT F.entry_tuple_hash ?_ (F.args_tuple_hash_1 _)))
 show wpAny _ _ (Builtin.Tuple.tupleItemsOf (.ref a) >>= _) _ _ s;refine aH (HY ho hd ?_);refine aH ?_;rw[← wI,hi];refine sS _
  (λrest (r:Array Int) s'=>(rest = [.ref b,.int k.2 t]/\r = #[]/\s' = s)\/(rest = [.int k.2 t]/\r = #[reduceHash (Builtin.Tuple.tupleHashOf (k.1.map hashInt))]/\s' = { s with toks:=s.toks+(k.1.length+1)})\/(rest = []/\r = #[reduceHash (Builtin.Tuple.tupleHashOf (k.1.map hashInt)),hashInt k.2]/\s' = { s with toks:=s.toks+(k.1.length+2)}))
  _ ?_ ?_ _ _ (.inl ⟨rfl,rfl,rfl⟩)
 ·rintro x rest r s' (⟨e,rfl,rfl⟩ | ⟨e,rfl,rfl⟩ | ⟨e,_⟩)
  ·injection e with e1 e2;subst e1 e2;refine aH (wpAny_pyHash_tuple (A:=A.in1) (show A.units+1<cLine from hu) hb ?_);rw[ahT,aM]
   first
    | exact aP (.inr (.inl ⟨rfl,rfl,rfl⟩))
    | exact aH (aP (aP (.inr (.inl ⟨rfl,rfl,rfl⟩))))
  ·injection e with e1 e2;subst e1 e2;refine aH (wpAny_pyHash_int ?_)
   first
    | exact aP (.inr (.inr ⟨rfl,rfl,rfl⟩))
    | exact aH (aP (aP (.inr (.inr ⟨rfl,rfl,rfl⟩))))
  ·cases e
 ·rintro r s' (⟨e,_⟩ | ⟨e,_⟩ | ⟨_,rfl,rfl⟩)
  ·cases e
  ·cases e
  show wpAny _ _ (retInt (Builtin.Tuple.tupleHashOf _)) _ _ _;refine wpAny_ret_mkInt ?_
  show wpAny _ _ (if (decide (-(2:Int) ^ 63<=Builtin.Tuple.tupleHashOf [reduceHash (Builtin.Tuple.tupleHashOf (k.1.map hashInt)),hashInt k.2]) && decide (Builtin.Tuple.tupleHashOf [reduceHash (Builtin.Tuple.tupleHashOf (k.1.map hashInt)),hashInt k.2] < 2 ^ 63))=true then _ else _) Q E _
  unfold EZ at h;generalize Builtin.Tuple.tupleHashOf [reduceHash (Builtin.Tuple.tupleHashOf (k.1.map hashInt)),hashInt k.2] = z at h ⊢;unfold reduceHash at h;by_cases hr:(decide (-(2:Int) ^ 63<=z) && decide (z<2 ^ 63))=true
  ·rw[if_pos hr];rw[if_pos hr] at h;exact aP (by simpa[Nat.add_assoc] using h)
  ·rw[if_neg hr];rw[if_neg hr] at h;exact aH (wpAny_rule (aP (by simpa[Nat.add_assoc] using h)))
theorem ahV{x y:Nk}{P:Fin->Shared->Prop}(hu:A.units<cLine)(hx:j8 prog w s.heap x a)(hy:j8 prog w s.heap y b)(h:P (.done (.ret (.bool (decide (x=y))))) s) :
  wpAny (model prog w) A (Builtin.«tuple.__eq__» ⟨[.ref a,.ref b],[]⟩) P E s:=by
 have AQ:=hy.typeIs;obtain⟨oa,xs,na,ba,ta,hoa,_,hda,Yc,hka⟩:=hx;obtain⟨ob,ys,nb,bb,tb,A2,_,oz,Yd,hkb⟩:=hy
 show wpAny _ _ (isInstance (.ref b) (.type "tuple") >>= _) _ _ s;refine aH (zK AQ HR ?_);simp only[Bool.not_true,Bool.false_eq_true,if_false];refine aH (HY hoa hda ?_);refine aH (HY A2 oz ?_);refine aH ?_;have hz:List.zip xs.toList ys.toList = [(.ref ba,.ref bb),(.int x.2 ta,.int y.2 tb)]:=by rw[Yc,Yd];rfl
 have hsz:(xs.size == ys.size)=true:=by
  rw[← lN,← lN,Yc,Yd];rfl
 refine sS _
  (λrest r s'=>r.1=none/\s' = s/\(rest = [(.ref ba,.ref bb),(.int x.2 ta,.int y.2 tb)]\/(rest = [(.int x.2 ta,.int y.2 tb)]/\x.1=y.1)\/(rest = []/\x=y)))
  _ ?_ ?_ _ _ ⟨rfl,rfl,.inl hz⟩
 ·rintro⟨u,v⟩ rest r s' ⟨hr,rfl,(e | ⟨e,e1⟩ | ⟨e,_⟩)⟩
  ·injection e with e1 e2;injection e1 with e1 e3;subst e1 e2 e3;refine aH (HU hu hka hkb ?_);by_cases hk:x.1=y.1
   ·rw[jo (fX (List.map Sum.inl) hk)];simp only[Bool.not_true,Bool.false_eq_true,if_false];exact aP ⟨rfl,rfl,.inr (.inl ⟨by first | trivial | rfl,hk⟩)⟩
   ·rw[jm (λz=>hk (Li z))];simp only[Bool.not_false,if_true];rw[jm (λz=>hk (fX (·.1) z))] at h;exact aH (aP (aP (aP h)))
  ·injection e with e2 e3;injection e2 with e2 e4;subst e2 e3 e4;refine aH (C6 ?_);by_cases hk:x.2=y.2
   ·rw[mH.mpr hk];simp only[Bool.not_true,Bool.false_eq_true,if_false];exact aP ⟨rfl,rfl,.inr (.inr ⟨by first | trivial | rfl,qG e1 hk⟩)⟩
   ·rw[k_.mpr hk];simp only[Bool.not_false,if_true];rw[jm (λz=>hk (fX (·.2) z))] at h;exact aH (aP (aP (aP h)))
  ·cases e
 ·rintro⟨r1,r2⟩ s' ⟨hr,rfl,(e | ⟨e,_⟩ | ⟨_,e⟩)⟩
  ·cases e
  ·cases e
  simp only at hr;subst hr;refine aP ?_
  show P (.done (.ret (.bool (xs.size == ys.size)))) s';rw[hsz];rw[jo e] at h;exact h
theorem ahW{x y:Nk}{Q:Bool->Shared->Prop}(hu:A.units+1<cLine)(hx:j8 prog w s.heap x a)(hy:j8 prog w s.heap y b)(h:Q (decide (x=y)) s) :
  wpAny (model prog w) A (eqBool (.ref a) (.ref b)) Q E s:=by
 unfold eqBool
 try with_reducible refine mJ ?_
 show wpAny _ _ (if (Value.ref a == Value.ref b)=true then _ else _) Q E s
 by_cases q_:(Value.ref a == Value.ref b)=true
 ·rw[if_pos q_];have e:a=b:=by have:=eq_of_beq q_;injection this
  subst e;obtain rfl:=hx.inj hy;exact aH (wpAny_rule (aP ↑h))
 ·rw[if_neg q_];exact aH (wpAny_richCompare_same_room (op:=.Eq) hx.typeIs hy.typeIs Co
   (w_ Co hx.typeIs F.entry_tuple_eq (ahV (A:=A.in1) hu hx hy ⟨_,rfl,(λe=>nomatch e),pL h⟩) (F.args_tuple_eq_2 _ _)) ∅)
theorem ahX(m:Nat){Q:Bool->Shared->Prop}(hk:gI prog w s.heap ks a)(h:Q true s):wpAny (model prog w) A (eqIsQuiet (m+1) (.ref a)) Q E s:=by
 have hT:=hk.typeIs;obtain⟨o,items,n,ho,_,hd,hi⟩:=hk;unfold eqIsQuiet;refine aH (sU hT Co.lookup ?_)
 show wpAny _ _ (isInstance (.ref a) (.type "tuple") >>= _) _ _ s;refine aH (zK hT HR ?_);simp only[Bool.not_true,Bool.false_eq_true,if_false];refine aH (C7 ho hd ?_);refine aH ?_
 show wpAny _ _ (forIn items _ _) _ _ s;rw[← wI];refine sS _ (λrest r s'=>r.1=none/\s' = s/\∀v∈rest,carriedByValue v=true) _ ?_ ?_ _ _ ⟨rfl,rfl,hi.byValue⟩
 ·rintro v rest r s' ⟨hr,rfl,jQ⟩;rw[eqIsQuiet_byValue _ (jQ v cL)];refine aH (aP ?_);simp only[Bool.not_true,Bool.false_eq_true,if_false];exact aP ⟨rfl,rfl,λu j0=>jQ u (cy _ j0)⟩
 ·rintro⟨r1,r2⟩ s' ⟨hr,rfl,_⟩;simp only at hr;subst hr;exact aP h
theorem ahY{k:Nk}{Q:Bool->Shared->Prop}(hk:j8 prog w s.heap k a)(h:Q true s):wpAny (model prog w) A (eqIsQuiet 8 (.ref a)) Q E s:=by
 have hT:=hk.typeIs;obtain⟨o,items,n,b,t,ho,_,hd,hi,hb⟩:=hk;unfold eqIsQuiet;refine aH (sU hT Co.lookup ?_)
 show wpAny _ _ (isInstance (.ref a) (.type "tuple") >>= _) _ _ s;refine aH (zK hT HR ?_);simp only[Bool.not_true,Bool.false_eq_true,if_false];refine aH (C7 ho hd ?_);refine aH ?_
 show wpAny _ _ (forIn items _ _) _ _ s;rw[← wI,hi];refine sS _ (λrest r s'=>r.1=none/\s' = s/\∀v∈rest,v = .ref b\/carriedByValue v=true) _ ?_ ?_ _ _ ⟨rfl,rfl,λv hv=>by
  rcases cV.mp hv with e | hv
  ·exact .inl e
  ·rw[fV.mp hv];exact .inr rfl⟩
 ·rintro v rest r s' ⟨hr,rfl,jQ⟩;have more:∀u∈rest,u = .ref b\/carriedByValue u=true:=λu j0=>jQ u (cy _ j0);rcases jQ v cL with rfl | hv
  ·refine aH (ahX 6 hb ?_);simp only[Bool.not_true,Bool.false_eq_true,if_false];exact aP ⟨rfl,rfl,more⟩
  ·rw[eqIsQuiet_byValue _ hv];refine aH (aP ?_);simp only[Bool.not_true,Bool.false_eq_true,if_false];exact aP ⟨rfl,rfl,more⟩
 ·rintro⟨r1,r2⟩ s' ⟨hr,rfl,_⟩;simp only at hr;subst hr;exact aP h
end
noncomputable def E4(prog:Program)(w:World):HeapKind prog w Nk where
 is:=j8 prog w
 hash:=EZ
 draws:=λk=>k.1.length+3
 room:=λA=>A.units+1<cLine
 inj:=λhx hy=>hx.inj hy
 keeps:=λx ho hd hs=>x.keeps ho hd hs
 pyHash:=λhu hk h=>ahU hu hk h
 eqBool:=λhu hx hy h=>ahW hu hx hy h
 quiet:=λhk h=>ahY hk h
noncomputable def ahZ(x:Nk×Addr×Value):DictEntry:=⟨EZ x.1,.ref x.2.1,x.2.2⟩
noncomputable def qo(a:Addr)(xs:List (Nk×Addr×Value)):HO:=.ext λh=>(a == sysModules)=false/\∃o es ep,h.get? a=some o/\o.ExactDict/\o.data = .dict es ep/\es.toList=xs.map ahZ/\(xs.map (·.1)).Nodup
def nC(H:Hp)(y:V)(k:Nk):Prop:=∃t b,y = .ref t/\H t=some (.tup [.ref b,.int k.2])/\H b=some (.tup (k.1.map V.int))
def ig(H:Hp)(a:Addr)(F:Nk->Int->Prop)(m:Nat):Prop:=∃xs:List (Nk×Addr×Value),H a=some (qo a xs)/\xs.length<=m/\∀x∈xs,(∃b t,x.2.2 = .int b t/\F x.1 b)/\nC H (.ref x.2.1) x.1
theorem nC.same{k:Nk}(h:nC H y k)(s:∀b xs,H b=some (.tup xs)->H' b=some (.tup xs)):nC H' y k:=let ⟨t,b,e,h1,h2⟩:=h;⟨t,b,e,s _ _ h1,s _ _ h2⟩
theorem ig.same{H H':Hp}{a:Addr}{F:Nk->Int->Prop}{m m':Nat}(h:ig H a F m)(s:aj H H')(hm:m<=m'):ig H' a F m' :=
 let ⟨xs,h1,h2,h3⟩:=h;⟨xs,s _ _ h1,cH h2 hm,λx hx=>⟨(h3 x hx).1,(h3 x hx).2.same λb xs e=>s _ _ e⟩⟩
theorem ig.new{F:Nk->Int->Prop}(h:H a=some (qo a [])):ig H a F m:=⟨[],h,eW _,λx hx=>nomatch hx⟩
section
variable{v:V}{r:Value}{F:Nk->Int->Prop}{k:Nk}
theorem Ls(ok:d8 P w H h){t:Addr}(e:nC H (.ref t) k):j8 P w h k t:=by
 obtain⟨t',b,e0,h1,h2⟩:=e;cases e0;obtain⟨_,aC,r,o,g1,g2,n,g3⟩:=(show eG P w H h t (.tup [.ref b,.int k.2]) from ok t _ h1);have hk:gI P w h k.1 b:=vp ok (by rw[h2,pI];rfl)
 cases r with
 | cons r1 r2=>cases r2 with
  | cons r3 r4 =>
   cases r4;obtain⟨tk,rfl⟩:=r3;cases r1;exact⟨o,_,n,b,tk,g1,g2,g3,rfl,hk⟩
theorem Lu(I:Inv X pins σ H s)(e:ig H a F m):(a == sysModules)=false/\∃xs,H a=some (qo a xs)/\xs.length<=m/\s.heap.DictOfH (E4 X.prog X.w) a xs/\∀x∈xs,(∃b t,x.2.2 = .int b t/\F x.1 b)/\nC H (.ref x.2.1) x.1:=by
 obtain⟨xs,h1,h2,h3⟩:=e;obtain⟨⟨g0,o,es,ep,g1,g2,g3,g4,g5⟩,_⟩:=I.aO a _ h1;exact⟨g0,xs,h1,h2,⟨o,es,ep,g1,g2,g3,g4,λx hx=>Ls I.aO (h3 x hx).2,g5⟩,h3⟩
theorem Ye{xs:List (Nk×Addr×Value)}(hd:(a == sysModules)=false)(dd:h'.DictOfH (E4 P w) a xs):eG P w H' h' a (qo a xs):=by
 obtain⟨o,es,ep,g1,g2,g3,g4,_,g5⟩:=dd;refine⟨⟨hd,o,es,ep,g1,g2,g3,g4,g5⟩,⟨o,g1⟩,?_⟩;rintro h1 h2 ⟨z,o,es,ep,g1,g⟩ k;exact⟨z,o,es,ep,k _ g1,g⟩
theorem ah0{xs:List (Nk×Addr×Value)}{p:Addr×Value}(h:atKey xs k=some p):(k,p)∈xs:=by
 unfold atKey at h;obtain⟨x,hx,e⟩:=CW.mp h;have h1:=List.mem_of_find?_eq_some hx;have h2:=Cy hx;simp only[decide_eq_true_eq] at h2;rw[← e,← h2];exact h1
theorem ah1(hu:A.units+16<cLine)(I:Inv X pins σ H s)(g:ig H a F m)(gy:nC H y k)(ry:RelV y u)(rd:RelV v r)(h:∀v' w' s',(v' = v\/∃b,v' = .int b/\F k b)->Inv X pins σ H s'->RelV v' w'->Q w' s') :
  wpAny (model X.prog X.w) A (call (.builtin "dict.get") [.ref a,u,r]) Q E s:=by
 obtain⟨t,_,e,_⟩:=id gy;subst e;cases (show u=Value.ref t from ry);obtain⟨hd,xs,h1,h2,dd,h3⟩:=Lu I g;refine call_meetsIn zE dd.typeIs HM (PySem.F.args_dict_get_3 _ _ _) (meetsH_dict_get_default (E4 X.prog X.w) a t hd r) ⟨show A.units+1+1<cLine by lia,k,xs,Ls I.aO gy,dd,?_⟩
 cases q:atKey xs k with
 | none=>exact h v _ _ (.inl rfl) (I.tok _) rd
 | some p =>
  obtain⟨⟨b,tk,e,f⟩,_⟩:=h3 _ (ah0 q);exact h (.int b) _ _ (.inr ⟨b,rfl,f⟩) (I.tok _) ⟨tk,e⟩
theorem ah2{xs:List (Nk×Addr×Value)}{t:Addr}{r:Value}:(storedH xs k t r).length<=xs.length+1/\∀x∈storedH xs k t r,(x.1=k/\x.2.2=r/\(x.2.1=t\/∃y∈xs,y.1=k/\y.2.1=x.2.1))\/x∈xs:=by
 cases q:atKey xs k with
 | none =>
  rw[storedH_new q];refine⟨by simp,λx hx=>?_⟩
  rcases fB.mp hx with hx | hx
  ·exact .inr hx
  ·rw[fV.mp hx];exact .inl ⟨rfl,rfl,.inl rfl⟩
 | some p =>
  rw[storedH_old q];refine⟨by simp,λx hx=>?_⟩
  obtain⟨z,hz,e⟩:=dW.mp hx;unfold putAt at e;by_cases c:z.1=k
  ·rw[if_pos c] at e;rw[← e];exact .inl ⟨c,rfl,.inr ⟨z,hz,c,rfl⟩⟩
  ·rw[if_neg c] at e;rw[← e];exact .inr hz
theorem ah3{b:Int}{Q:Unit->Shared->Prop}(hu:A.units+16<cLine)(I:Inv X pins σ H s)(g:ig H a F m)(hm:m<=sizeLine)(gy:nC H y k)(ry:RelV y u)(rv:RelV (.int b) r)(f:F k b)(h:∀H' s',nB a H H'->ig H' a F (m+1)->Inv X pins σ H' s'->Q () s') :
  wpAny (model X.prog X.w) A (setItem (.ref a) u r) Q E s:=by
 obtain⟨t,_,e,_⟩:=id gy;subst e;cases (show u=Value.ref t from ry);obtain⟨tk,rfl⟩:=rv;obtain⟨hd,xs,h1,h2,dd,h3⟩:=Lu I g;refine wpAny_setItem_heap (hsz:=cH h2 hm) (knd:=E4 X.prog X.w) (show A.units+1+1<cLine by lia) (Ls I.aO gy) dd λh' qU hs=>?_
 have sm:∀c ys,H c=some (.tup ys)->upd H a (qo a (storedH xs k t (.int b tk))) c=some (.tup ys):=λc ys ec=>by
  rw[aJ (iy ec h1 (λz=>nomatch z))];exact ec
 obtain⟨l1,l2⟩:=ah2 (xs:=xs) (k:=k) (t:=t) (r:=.int b tk);refine h (upd H a (qo a (storedH xs k t (.int b tk)))) _ (λc o hc ec=>by rw[aJ hc];exact ec) ⟨_,aE,∅,λx hx=>?_⟩ (Jv I (by rw[h1];exact True.intro) hs (let ⟨q,_,_,hq,_⟩:=qU;⟨q,hq⟩) (Ye hd qU))
 rcases l2 x hx with⟨e1,e2,e3⟩ | hx
 ·refine⟨⟨b,tk,e2,e1▸f⟩,nC.same ?_ sm⟩;rcases e3 with e3 | ⟨z,hz,e4,e5⟩
  ·rw[e1,e3];exact gy
  ·rw[e1,← e5,← e4];exact(h3 z hz).2
 ·exact⟨(h3 x hx).1,(h3 x hx).2.same sm⟩
end
def Yg:TE:=λ_ H Q=>∀p,H p=none->Q (.ref p) (upd H p (qo p []))
def Yh(td ty tx:TE):TE:=λσ H Q=>td σ H λx H1=>∃a F m,x = .ref a/\ig H1 a F m/\ty σ H1 λy H2=>tx σ H2 λz H3=>ig H3 a F m/\∃k,nC H3 y k/\∀v,(v=z\/∃b,v = .int b/\F k b)->Q v H3
def Yi(td ty tv:TE):TS:=λD σ H=>tv σ H λv H1=>td σ H1 λx H2=>ty σ H2 λy H3=>∃a F m k b,x = .ref a/\ig H3 a F m/\m<=sizeLine/\nC H3 y k/\v = .int b/\F k b/\∀H4,nB a H3 H4->ig H4 a F (m+1)->D.nx σ H4
section
variable{o i f:Expr}{tx:TE}
theorem ah4{F:Nk->Int->Prop}(I:Inv X pins σ H s)(g:ig H a F m):s.TypeIs (.ref a) "dict"/\∀b,Value.ref a = .ref b->∃ob,s.heap.get? b=some ob/\ob.dict=none:=by
 obtain⟨_,xs,_,_,dd,_⟩:=Lu I g;refine⟨dd.typeIs,λb q=>?_⟩;cases q;obtain⟨ob,_,_,h1,h2,_⟩:=dd;exact⟨ob,h1,h2.2.1⟩
theorem ah5:PE X (.Dict [] [] pos) Yg:=λpins s σ H Q I h =>
 HS ⟨.ref s.heap.objs.size,_,I.laid (a:=s.heap.objs.size) (o:=qo s.heap.objs.size []) (t':=s.toks) (λ_ _ q=>cU _ q) (bx _) (Ye (P:=X.prog) (w:=X.w) (k_.mpr (fW (dj I.big))) (Heap.DictOfH.new _)),rfl,h _ (I.aO.fresh (bx _))⟩
theorem ah6(hu:X.A.units+16<cLine)(ho:PE X o td)(he:PE X e ty)(hf:PE X f tx)(m:M2 X o "get" apos e f gj):PE X (.Call (.Attribute o "get" apos) [e,f] [] gj) (Yh td ty tx):=by
 intro pins s σ H Q I h;refine wpAny_Call_method m.base m.xO m.line PySem.F.plainAttrs_dict zE PySem.F.type_dict_get (aW (ho pins s σ H _ I h) λu s1 h1=>?_);obtain⟨x,H1,I1,rx,a,F,n,ex,d,q1⟩:=h1;subst ex;obtain rfl:u=Value.ref a:=rx;obtain⟨t1,t2⟩:=ah4 I1 d;refine⟨t1,t2,?_⟩;rw[m.trees];refine Hh rfl (Hi (wJ (aW (he pins s1 σ H1 _ I1 q1) λiv s2 h2=>?_)));obtain⟨y,H2,I2,ry,q2⟩:=h2;refine wJ (aW (hf pins s2 σ H2 _ I2 q2) λfv s3 h3=>zd ?_);obtain⟨z,H3,I3,rz,d3,k,gy,q3⟩:=h3;exact ah1 hu I3 d3 gy ry rz λv' w' s4 hv I4 lW=>⟨v',H3,I4,lW,q3 v' hv⟩
theorem ah7(hu:X.A.units+16<cLine)(ho:PE X o td)(hi:PE X i ty)(hv:PE X value tv)(hs:swapsWith value (some (.Subscript o i pos')) pos.line X.env=pure false) :
  PS X (.Assign [.Subscript o i pos'] value pos) (Yi td ty tv):=by
 intro pins s σ H D I h;refine wpAny_Assign_Subscript (aW (hv pins s σ H _ I h) λr s1 h1=>?_) hs;obtain⟨v,H1,I1,rv,q1⟩:=h1;refine aW (ho pins s1 σ H1 _ I1 q1) λu s2 h2=>?_;obtain⟨x,H2,I2,rx,q2⟩:=h2;refine aW (hi pins s2 σ H2 _ I2 q2) λiv s3 h3=>?_;obtain⟨y,H3,I3,ry,a,F,m,k,b,ex,g,hm,gy,ev,f,q3⟩:=h3;subst ex ev;obtain rfl:u=Value.ref a:=rx;exact ah3 hu I3 g hm gy ry rv f λH4 s4 sm d4 I4=>⟨σ,H4,I4,q3 H4 sm d4⟩
end
def Lv(t:TS):TS:=λD σ H=>∀N:St->Hp->Prop,(∀gX H1,@Later ⟨D.nx⟩ gX H1->N gX H1)->t { D with nx:=N } σ H
theorem bY{st:Stmt}{t:TS}(h:PS X st t):PS X st (Lv t):=λpins s σ H D I q=>h pins s σ H D I (q D.nx λ_ _ z=>z)
theorem b7{t b:TS}{D:Ends}(h:∀N:St->Hp->Prop,(∀gX H1,b D gX H1->N gX H1)->t { D with nx:=N } σ H):Dn (Lv t) b D σ H:=λN hN=>h N hN
noncomputable def gJ(d:Dr)(e:Int):Bool:=match d.q.tO with | none=>false | some x=>decide (x<e)
inductive dH (P:Pl) (ds:List Dr):_I->Int×Int->_I->Prop
 | done {bg:_I} {st:Int×Int} (h:bZ ds bg = []):dH P ds bg st bg
 | step {bg:_I} {st:Int×Int} {d:Dr} {o:_I} (hd:d∈dM ds bg) (ht:gJ d (aQ P st d.c).2=false) (h:dH P ds (bg++[d.n]) (aQ P st d.c) o):dH P ds bg st o
theorem Yj{d:Dr}{a b:Int}(h:a<=b)(hb:gJ d b=false):gJ d a=false:=by
 unfold gJ at *
 split
 ·rfl
 ·rename_i x e;rw[e] at hb;simp only[decide_eq_false_iff_not] at hb ⊢;lia
theorem jX.refl(P:Pl)(s:Int×Int):jX P s s:=λ_ _ _=>nQ _
theorem jX.trans{P:Pl}{s t u:Int×Int}(h:jX P s t)(h':jX P t u):jX P s u:=λq a b=>Ct (h q a b) (h' q a b)
theorem jX.over{P:Pl}(ok:fO P){s:Int×Int}(s0:0<=s.1)(s1:s.1<P.rc.length){a:_Z}(ha:∀q∈a,0<=q.1/\q.1<P.rc.length):jX P s (aQ P s a):=by
 have n1:=(agQ ok (λ_=>false) s s0 s1 a ha).1;rw[agW] at n1;exact n1
section
variable{P:Pl}{ds bR:List Dr}{s t:Int×Int}{o:_I}
theorem Yk(ok:fO P){c:_Z}(hc:∀q∈c,0<=q.1/\q.1<(P.rc.length:Int))(s0:0<=s.1/\s.1<P.rc.length)(t0:0<=t.1/\t.1<P.rc.length)(nl:jX P s t):(aQ P s c).2<=(aQ P t c).2:=by
 have i:=jx P (n:=P.rc.length) c s s0.1 s0.2 hc;have j:=jx P (n:=P.rc.length) c t t0.1 t0.2 hc;exact agR ok (K_ ok hc nl) j.1 j.2 i.1 i.2
theorem dH.sub(ok:fO P)(hc:∀d∈ds,∀q∈d.c,0<=q.1/\q.1<(P.rc.length:Int))(nd:(ds.map (·.n)).Nodup)(hs:∀d∈bR,d∈ds)(h:dH P ds bg t o):∀ {iQ:_I} {s:Int×Int},0<=s.1/\s.1<P.rc.length->0<=t.1/\t.1<P.rc.length->jX P s t->(∀d∈bR,d.n∈iQ↔d.n∈bg)->∃o',dH P bR iQ s o':=by
 induction h with
 | @done bg t hl =>
  intro iQ s _ _ _ hb;refine⟨iQ,.done (Ue.mpr λd hd=>?_)⟩;obtain⟨h1,h2⟩:=tW.mp hd;have:d∈bZ ds bg:=tW.mpr ⟨hs d h1,λz=>h2 ((hb d h1).mpr z)⟩;rw[hl] at this;cases this
 | @step bg t d o hd ht h ih =>
  intro iQ s s0 t0 nl hb;obtain⟨⟨d1,d2⟩,d3⟩:=jZ.mp hd;have fE:=hc d d1;have te:=jx P (n:=P.rc.length) d.c t t0.1 t0.2 fE;by_cases c:d∈bR
  ·obtain⟨o',h'⟩:=ih (iQ:=iQ++[d.n]) (s:=aQ P s d.c) (jx P (n:=P.rc.length) d.c s s0.1 s0.2 fE) te (K_ ok fE nl) λe he=>by
    rw[fB,fB,hb e he]
   refine⟨o',.step (jZ.mpr ⟨⟨c,λz=>d2 ((hb d c).mp z)⟩,λx hx=>?_⟩) (Yj (Yk ok fE s0 t0 nl) ht) h'⟩;obtain⟨e,he,rfl⟩:=dW.mp hx;obtain⟨e1,e2⟩:=cY.mp he;exact(hb e e1).mpr (d3 e.n (dW.mpr ⟨e,cY.mpr ⟨hs e e1,e2⟩,rfl⟩))
  ·refine ih s0 te (nl.trans (.over ok t0.1 t0.2 fE)) λe he=>?_;rw[hb e he,fB,List.mem_singleton];refine⟨.inl,λz=>z.elim id λz=>absurd ?_ c⟩;rw[← yi nd (hs e he) d1 z];exact he
theorem dH.Yl(ok:fO P)(hc:∀d∈ds,∀q∈d.c,0<=q.1/\q.1<(P.rc.length:Int))(nd:(ds.map (·.n)).Nodup)(h:dH P ds bg t o):∀ {s:Int×Int} {d:Dr},0<=s.1/\s.1<P.rc.length->0<=t.1/\t.1<P.rc.length->jX P s t->d∈bZ ds bg->gJ d (aQ P s d.c).2=false:=by
 induction h with
 | @done bg t hl=>intro s d _ _ _ hd;rw[hl] at hd;cases hd
 | @step bg t e o hd ht h ih =>
  intro s d s0 t0 nl gM;obtain⟨d1,d2⟩:=tW.mp gM;obtain⟨⟨e1,e2⟩,_⟩:=jZ.mp hd;by_cases c:d.n=e.n
  ·obtain rfl:=yi nd d1 e1 c;exact Yj (Yk ok (hc d d1) s0 t0 nl) ht
  ·exact ih s0 (jx P (n:=P.rc.length) e.c t t0.1 t0.2 (hc e e1)) (nl.trans (.over ok t0.1 t0.2 (hc e e1))) (tW.mpr ⟨d1,λz=>(fB.mp z).elim d2 λz=>c (fV.mp z)⟩)
theorem dH.reach(h:dH P ds bg t o)(hr:Reach P ds s bg t):(∃st,Reach P ds s o st)/\bZ ds o = []:=by
 induction h with
 | done hl=>exact⟨⟨_,hr⟩,hl⟩
 | step hd _ _ ih=>exact ih (hr.snoc hd)
theorem dH.Lb{P':Pl}(e:∀s c,aQ P s c=aQ P' s c)(h:dH P ds bg t o):dH P' ds bg t o:=by
 induction h with
 | done hl=>exact .done hl
 | step hd ht _ ih=>rw[e] at ht ih;exact .step hd ht ih
end
noncomputable def ir(P:Pl)(ds:List Dr)(bg:_I)(st:Int×Int):Option Int:=((bZ ds bg).find? λd=>gJ d (aQ P st d.c).2).map (·.n)
theorem Lw{P:Pl}{ds:List Dr}{m:Int}(h:ir P ds bg st=some m):∃d∈bZ ds bg,d.n=m/\gJ d (aQ P st d.c).2=true:=by
 obtain⟨d,h1,h2⟩:=CW.mp h;exact⟨d,List.mem_of_find?_eq_some h1,h2,Cy (p:=λd=>gJ d (aQ P st d.c).2) h1⟩
theorem Ym{P:Pl}{ds:List Dr}(h:ir P ds bg st=none){d:Dr}(hd:d∈bZ ds bg):gJ d (aQ P st d.c).2=false:=by
 have:=wM.mp (Option.map_eq_none_iff.mp h) d hd;simpa using this
def rQ(P:Pl)(ds:List Dr)(k:Nk)(b:Int):Prop:=∀bg:_I,(∀x,x∈bg↔x∈k.1)->¬ ∃o,dH P ds bg (k.2,b) o
theorem rQ.later{P:Pl}(ok:fO P){ds:List Dr}(hc:∀d∈ds,∀q∈d.c,0<=q.1/\q.1<(P.rc.length:Int))(nd:(ds.map (·.n)).Nodup){k:Nk}{b b':Int}(h:rQ P ds k b)(hb:b<=b')(hm:∀x,x∈bg↔x∈k.1)(r0:0<=k.2/\k.2<P.rc.length):¬ ∃o,dH P ds bg (k.2,b') o:=λ⟨_,h'⟩ =>
 h bg hm (h'.sub ok hc nd (λ_ h=>h) r0 r0 (λq _ _=>Int.add_le_add_right hb _) λ_ _=>Iff.rfl)
theorem rQ.of{P:Pl}(ok:fO P){ds:List Dr}(hc:∀d∈ds,∀q∈d.c,0<=q.1/\q.1<(P.rc.length:Int))(nd:(ds.map (·.n)).Nodup){k:Nk}{b:Int}(h:¬ ∃o,dH P ds bg (k.2,b) o)(hm:∀x,x∈bg↔x∈k.1)(r0:0<=k.2/\k.2<P.rc.length):rQ P ds k b:=λiQ lF ⟨_,h'⟩ =>
 h (h'.sub ok hc nd (λ_ h=>h) r0 r0 (.refl _ _) λd _=>(hm d.n).trans (lF d.n).symm)
theorem ah8{P:Pl}{ds:List Dr}(hl:bZ ds bg≠[])(h:∀d∈dM ds bg,¬ ∃o,dH P ds (bg++[d.n]) (aQ P st d.c) o):¬ ∃o,dH P ds bg st o:=by
 rintro⟨o,h'⟩;cases h' with
 | done h0=>exact hl h0
 | step hd _ h1=>exact h _ hd ⟨o,h1⟩
noncomputable def fu(P:Pl)(ds:List Dr):Nat->_I->Int×Int->List Nd
 | 0,bg,st=>match ir P ds bg st with | some m=>[(m,0,bg,[])] | none=>[]
 | n+1,bg,st=>match ir P ds bg st with | some m=>[(m,0,bg,[])] | none=>(dM ds bg).flatMap λd=>fu P ds n (bg++[d.n]) (aQ P st d.c)
theorem tZ{P:Pl}{ds:List Dr}{m:Int}(h:ir P ds bg st=some m):fu P ds n bg st = [(m,0,bg,[])]:=by
 cases n <;> (unfold fu;rw[h])
theorem A3{P:Pl}{ds:List Dr}(h:ir P ds bg st=none):fu P ds (n+1) bg st=(dM ds bg).flatMap λd=>fu P ds n (bg++[d.n]) (aQ P st d.c):=by
 rw[fu,h]
theorem A4{P:Pl}{ds:List Dr}{s:Int×Int}:∀ {n:Nat} {bg:_I} {st:Int×Int},Reach P ds s bg st->∀u∈fu P ds n bg st,bg <+: u.2.2.1/\∃fc,Reach P ds s u.2.2.1 fc/\∃d∈bZ ds u.2.2.1,d.n=u.1/\gJ d (aQ P fc d.c).2=true:=by
 intro n
 induction n with
 | zero =>
  intro bg st hr u hu;cases e:ir P ds bg st with
  | none=>rw[fu,e] at hu;cases hu
  | some m=>rw[tZ e] at hu;rw[fV.mp hu];exact⟨Hz _,st,hr,Lw e⟩
 | succ n ih =>
  intro bg st hr u hu;cases e:ir P ds bg st with
  | none =>
   rw[A3 e] at hu;obtain⟨d,hd,hu⟩:=zu.mp hu;obtain⟨h1,h2⟩:=ih (hr.snoc hd) u hu;exact⟨(List.prefix_append _ _).trans h1,h2⟩
  | some m=>rw[tZ e] at hu;rw[fV.mp hu];exact⟨Hz _,st,hr,Lw e⟩
theorem Yn{a w:_I}{x y:Int}(h1:a++[x] <+: w)(h2:a++[y] <+: w):x=y:=by
 obtain⟨r1,e1⟩:=h1;obtain⟨r2,e2⟩:=h2;rw[← e1,sH,sH] at e2;have:=List.append_cancel_left e2;simpa using(List.cons.inj this).1.symm
theorem ah9{ds:List Dr}(nd:(ds.map (·.n)).Nodup)(bg:_I):(dM ds bg).Pairwise λa b=>a.n≠b.n :=
 (show ds.Pairwise λa b=>a.n≠b.n from qC.mp nd).sublist ((pG (l:=bZ ds bg)).trans (pG (l:=ds)))
theorem ah_{P:Pl}{ds:List Dr}(nd:(ds.map (·.n)).Nodup){s:Int×Int}:∀ {n:Nat} {bg:_I} {st:Int×Int},Reach P ds s bg st->((fu P ds n bg st).map (·.2.2.1)).Nodup:=by
 intro n
 induction n with
 | zero =>
  intro bg st hr;cases e:ir P ds bg st with
  | none=>rw[fu,e];exact .nil
  | some m=>rw[tZ e];exact jk.mpr ⟨List.not_mem_nil,.nil⟩
 | succ n ih =>
  intro bg st hr;cases e:ir P ds bg st with
  | none =>
   rw[A3 e,List.map_flatMap];refine List.pairwise_flatMap.mpr ⟨λd hd=>ih (hr.snoc hd),?_⟩;refine(ah9 nd bg).imp_of_mem λ{a b} ha hb ne x hx y hy z=>?_;obtain⟨u,hu,rfl⟩:=dW.mp hx;obtain⟨v,hv,rfl⟩:=dW.mp hy;have h1:=(A4 (hr.snoc ha) u hu).1;have h2:=(A4 (hr.snoc hb) v hv).1;rw[← z] at h2;exact ne (Yn h1 h2)
  | some m=>rw[tZ e];exact jk.mpr ⟨List.not_mem_nil,.nil⟩
theorem Kd.aia{ks:List Kn}{ds:List Dr}(h:Kd ks ds)(bg:_I):kN (gu ks bg)=(dM ds bg).map (·.n):=by
 have e1:kN (gu ks bg)=(ks.filter λk=>decide (k.n∈kN (gu ks bg))).map (·.n):=by
  show ((ks.filter _).filter _).map _=_;rw[Cw];congr 1;refine zh λk hk=>?_;rw[kX,sQ];constructor
  ·intro z;exact dW.mpr ⟨k,cY.mpr ⟨cY.mpr ⟨hk,(Bool.and_eq_true_iff.mp z).2⟩,(Bool.and_eq_true_iff.mp z).1⟩,rfl⟩
  ·intro z;obtain⟨k',g9,e⟩:=dW.mp z;obtain⟨z1,z2⟩:=cY.mp g9;obtain⟨z3,z4⟩:=cY.mp z1;have:k' = k:=by
    obtain⟨i,hi,rfl⟩:=iJ.mp z3;obtain⟨j,hj,rfl⟩:=iJ.mp hk;have u:=nT.mp h.up;rcases CO i j with l | l | l
    ·have:=u i j hi hj l;lia
    ·subst l;rfl
    ·have:=u j i hj hi l;lia
   subst this;rw[z2,z4];rfl
 have e2:(dM ds bg).map (·.n)=(ds.filter λd=>decide (d.n∈kN (gu ks bg))).map (·.n):=by
  show ((ds.filter _).filter _).map _=_;rw[Cw];congr 1;refine zh λd hd=>?_;rw[kX,sQ,h.free];constructor
  ·intro z;exact⟨d,by unfold dM bZ;rw[List.filter_filter];exact List.mem_filter.mpr ⟨hd,z⟩,rfl⟩
  ·rintro⟨d',gM,e⟩;obtain rfl:=yi h.nd (jZ.mp gM).1.1 hd e;unfold dM bZ at gM;rw[Cw] at gM;exact(cY.mp gM).2
 rw[e1,e2];exact(Xl (f:=λk:Kn=>k.n) (g:=λd:Dr=>d.n) h.n.symm λi k d e1 e2=>by
  rw[(h.e i k d e1 e2).1];exact⟨rfl,rfl⟩)
theorem aib{P:Pl}{ks:List Kn}{ds:List Dr}(kd:Kd ks ds){s:Int×Int}{W:List (_I)}:∀(n:Nat) {bg:_I} {st:Int×Int},Reach P ds s bg st->(bZ ds bg).length<=n->(∀u∈fu P ds n bg st,u.2.2.1∈W)->(∀w∈W,bg <+: w->∃u∈fu P ds n bg st,u.2.2.1=w)->(¬ ∃o,dH P ds bg st o)->
  yt ks W n bg/\nA ks W n bg=(fu P ds n bg st).length/\(fu P ds n bg st).length<=oY n:=by
 intro n
 induction n with
 | zero =>
  intro bg st hr hl h1 h2 hn;exact absurd ⟨bg,.done (uH.mp (Nat.le_zero.mp hl))⟩ hn
 | succ n ih =>
  intro bg st hr hl h1 h2 hn;cases e:ir P ds bg st with
  | some m =>
   rw[tZ e] at h1 ⊢;have hb:bg∈W:=h1 _ (List.mem_singleton.mpr rfl);exact⟨.inl hb,if_pos hb,Lp _⟩
  | none =>
   have hle:bZ ds bg≠[]:=λz=>hn ⟨bg,.done z⟩;rw[A3 e] at h1 h2 ⊢;have nb:bg∉W:=λhb=>by
    obtain⟨u,hu,z⟩:=h2 bg hb (Hz _);obtain⟨d,hd,hu⟩:=zu.mp hu;have:=(A4 (hr.snoc hd) u hu).1.length_le;rw[z,e7] at this;have:bg.length+1<=bg.length:=this;lia
   have each:∀d∈dM ds bg,yt ks W n (bg++[d.n])/\nA ks W n (bg++[d.n])=(fu P ds n (bg++[d.n]) (aQ P st d.c)).length/\(fu P ds n (bg++[d.n]) (aQ P st d.c)).length<=oY n:=λd hd=>by
    have ll:=EH kd.nd (vN hd);refine ih (hr.snoc hd) ∅ (λu hu=>h1 u (List.mem_flatMap.mpr ⟨d,hd,hu⟩)) (λw hw hp=>?_) λ⟨o,ho⟩=>hn ⟨o,.step hd (Ym e (vN hd)) ho⟩
    obtain⟨u,hu,z⟩:=h2 w hw ((List.prefix_append _ _).trans hp);obtain⟨d',gM,hu⟩:=zu.mp hu;have E5:=(A4 (hr.snoc gM) u hu).1;rw[z] at E5;obtain rfl:=yi kd.nd (jZ.mp gM).1.1 (jZ.mp hd).1.1 (Yn E5 hp);exact⟨u,hu,z⟩
   have en:=kd.aia bg;have el:((dM ds bg).flatMap λd=>fu P ds n (bg++[d.n]) (aQ P st d.c)).length=((dM ds bg).map λd=>(fu P ds n (bg++[d.n]) (aQ P st d.c)).length).sum:=by rw[List.length_flatMap]
   refine⟨.inr ⟨λz=>hle (kd.left.mpr z),λm hm=>?_⟩,?_,?_⟩
   ·rw[en] at hm;obtain⟨d,hd,rfl⟩:=dW.mp hm;exact(each d hd).1
   ·rw[el]
    show (if _ then _ else _)=_
    rw[if_neg nb,en,pI];exact fX List.sum (zo λd hd=>(each d hd).2.1)
   ·rw[el];have a:=Lq (f:=λd=>(fu P ds n (bg++[d.n]) (aQ P st d.c)).length) (B:=oY n) (l:=dM ds bg) λd hd=>(each d hd).2.2;have l1:(dM ds bg).length<=n+1:=cH (gW _ _) hl;exact cH a (CQ _ l1)
noncomputable def rR(p l kd fa:Addr):List (Str×V):=[("plate",.ref p),("dues",.ref l),("kept",.ref kd),("failed",.ref fa)]
structure yu(K:W.Frag)(cs:_A)(CA CD:Addr)(H:Hp)(C p l kd fa:Addr)(P:Pl)(fp ps:_A)(ds:List Dr)(az:List (Key×V)):Prop where
 c:C∈cs
 pl:dR K C H p P fp
 ok:fO P
 du:eS K CA CD H l ps ds
 n7:ds.length<=7
 nd:(ds.map (·.n)).Nodup
 dc:∀d∈ds,kJ P d.c/\d.c.length<=1000
 ke:rL H kd ds ds az
 fa:H fa=none
theorem yu.hc{P:Pl}{ps:_A}{ds:List Dr}{az:List (Key×V)}(h:yu K cs CA CD H C p l kd fa P fp ps ds az):∀d∈ds,∀q∈d.c,0<=q.1/\q.1<(P.rc.length:Int):=λd hd q hq=>⟨((h.dc d hd).1 q hq).1,((h.dc d hd).1 q hq).2.1⟩
def aic(K:W.Frag)(CA CD CS:Addr):Sp:=λvs H Q _=>∃(x p l dx:Addr) (ps:_A) (ds:List Dr) (H0:Hp),vs = [.ref x,.ref p,.ref l]/\aj H0 H/\H0 x=none/\H x=some (.ins CS dx [])/\eS K CA CD H0 l ps ds/\ds.length<=100/\(ds.map (·.n)).Nodup/\
 ∀(kd fa:Addr) (az:List (Key×V)) (H1 H':Hp),aj H0 H1->H1 fa=none->rL H1 kd ds ds az->aj H1 H'->H' x=some (.ins CS dx (rR p l kd fa))->H' fa=some (qo fa [])->Q .aY H'
def aid(K:W.Frag)(cs:_A)(CA CD CS:Addr):Sp:=λvs H Q _=>∃(C x p l kd fa dx pb:Addr) (P:Pl) (fp ps:_A) (ds:List Dr) (az:List (Key×V)) (bg:_I) (r b:Int) (H0:Hp),vs = [.ref x,.ref pb,.int r,.int b]/\yu K cs CA CD H0 C p l kd fa P fp ps ds az/\aj H0 H/\0<=r/\r<P.rc.length/\H x=some (.ins CS dx (rR p l kd fa))/\H pb=some (.tup (bg.map V.int))/\
 ∀H',aj H H'->Q (jU (ir P ds bg (r,b))) H'
def Yo(P:Pl)(ds:List Dr)(bg:_I)(s:Int×Int)(v:V)(H:Hp):Prop:=(v = .aY/\¬ ∃o,dH P ds bg s o)\/∃po o,v = .ref po/\H po=some (.tup (o.map V.int))/\dH P ds bg s o
def Lx(K:W.Frag)(cs:_A)(CA CD CS:Addr)(m:Nat):Sp:=λvs H Q _=>∃(C x p l kd fa dx pb:Addr) (P:Pl) (fp ps:_A) (ds:List Dr) (az:List (Key×V)) (bg:_I) (r b:Int) (H0:Hp) (n k:Nat),vs = [.ref x,.ref pb,.int r,.int b]/\n<m/\(bZ ds bg).length=n/\bg.length+n=ds.length/\yu K cs CA CD H0 C p l kd fa P fp ps ds az/\aj H0 H/\0<=r/\r<P.rc.length/\H x=some (.ins CS dx (rR p l kd fa))/\H pb=some (.tup (bg.map V.int))/\ig H fa (rQ P ds) k/\k+jA n<=1000000/\
 ∀(v:V) (H':Hp),nB fa H H'->ig H' fa (rQ P ds) (k+jA n)->Yo P ds bg (r,b) v H'->Q v H'
def Ly(K:W.Frag)(cs:_A)(CA CD CS:Addr)(m:Nat):Sp:=λvs H Q _=>∃(C x p l kd fa dx pb:Addr) (P:Pl) (fp ps:_A) (ds:List Dr) (az:List (Key×V)) (bg:_I) (r b:Int) (H0:Hp) (n:Nat),vs = [.ref x,.ref pb,.int r,.int b]/\n<m/\(bZ ds bg).length=n/\bg.length+n=ds.length/\yu K cs CA CD H0 C p l kd fa P fp ps ds az/\aj H0 H/\0<=r/\r<P.rc.length/\H x=some (.ins CS dx (rR p l kd fa))/\H pb=some (.tup (bg.map V.int))/\
 ∀(lv:Addr) (cu:_A) (H':Hp),aj H H'->H lv=none->rM H' lv cu (fu P ds n bg (r,b))->Q (.ref lv) H'
structure lH(K:W.Frag)(cs:_A)(CA CD:Addr)(H:Hp)(C p l:Addr)(P:Pl)(fp ps:_A)(ds:List Dr)(r:Int):Prop where
 c:C∈cs
 pl:dR K C H p P fp
 ok:fO P
 r0:0<=r
 r1:r<P.rc.length
 du:eS K CA CD H l ps ds
 n7:ds.length<=7
 nd:(ds.map (·.n)).Nodup
 dc:∀d∈ds,kJ P d.c/\d.c.length<=1000
section
variable{P:Pl}{ps:_A}{ds:List Dr}{az:List (Key×V)}{r:Int}
theorem lH.hc(h:lH K cs CA CD H C p l P fp ps ds r):∀d∈ds,∀q∈d.c,0<=q.1/\q.1<(P.rc.length:Int):=λd hd q hq=>⟨((h.dc d hd).1 q hq).1,((h.dc d hd).1 q hq).2.1⟩
theorem lH.same(h:lH K cs CA CD H C p l P fp ps ds r)(s:aj H H'):lH K cs CA CD H' C p l P fp ps ds r:=⟨h.c,h.pl.same s,h.ok,h.r0,h.r1,h.du.same s,h.n7,h.nd,h.dc⟩
theorem lH.se(h:lH K cs CA CD H C p l P fp ps ds r)(ke:rL H kd ds ds az)(nf:H fa=none):yu K cs CA CD H C p l kd fa P fp ps ds az:=⟨h.c,h.pl,h.ok,h.du,h.n7,h.nd,h.dc,ke,nf⟩
theorem lH.some(h:lH K cs CA CD H C p l P fp ps ds r){l':Addr}{cQ:_A}{bR:List Dr}(s:bR.Sublist ds)(d:eS K CA CD H l' cQ bR):lH K cs CA CD H C p l' P fp cQ bR r:=⟨h.c,h.pl,h.ok,h.r0,h.r1,d,cH s.length_le h.n7,(s.map _).nodup h.nd,λd hd=>h.dc d (s.subset hd)⟩
end
def aie(K:W.Frag)(cs:_A)(CA CD:Addr):Sp:=λvs H Q _=>∃(C p l:Addr) (P:Pl) (fp ps:_A) (ds:List Dr) (r b:Int),vs = [.ref p,.int r,.int b,.ref l]/\lH K cs CA CD H C p l P fp ps ds r/\
 ∀(v:V) (H':Hp),aj H H'->Yo P ds [] (r,b) v H'->Q v H'
structure yw(P:Pl)(ds bR:List Dr)(s:Int×Int):Prop where
 sb:bR.Sublist ds
 n:¬ ∃o,dH P bR [] s o
 e:∀d∈bR,∃o,dH P (bR.filter λx => !decide (x.n=d.n)) [] s o
def aif(K:W.Frag)(cs:_A)(CA CD:Addr):Sp:=λvs H Q _=>∃(C p l:Addr) (P:Pl) (fp ps:_A) (ds:List Dr) (r b:Int),vs = [.ref p,.int r,.int b,.ref l]/\lH K cs CA CD H C p l P fp ps ds r/\(¬ ∃o,dH P ds [] (r,b) o)/\
 ∀(l':Addr) (cQ:_A) (bR:List Dr) (H':Hp),aj H H'->eS K CA CD H' l' cQ bR->yw P ds bR (r,b)->Q (.ref l') H'
def A5(P:Pl)(ds:List Dr)(s:Int×Int)(u:Addr)(H:Hp):Prop :=
 (∃po o,H u=some (.tup [.str "order",.ref po])/\H po=some (.tup (o.map V.int))/\dH P ds [] s o)\/
 ∃pn lv cu bR,H u=some (.tup [.str "cannot",.ref pn,.ref lv])/\H pn=some (.tup ((bR.map (·.n)).map V.int))/\rM H lv cu (fu P bR bR.length [] s)/\yw P ds bR s
def aih(K:W.Frag)(cs:_A)(CA CD:Addr):Sp:=λvs H Q _=>∃(C p l:Addr) (P:Pl) (fp ps:_A) (ds:List Dr) (r b:Int),vs = [.ref p,.int r,.int b,.ref l]/\lH K cs CA CD H C p l P fp ps ds r/\
 ∀(u:Addr) (H':Hp),aj H H'->A5 P ds (r,b) u H'->Q (.ref u) H'
theorem Yp{P:Pl}{ds:List Dr}(nd:(ds.map (·.n)).Nodup):∀(n:Nat) {bg:_I} {st:Int×Int},(bZ ds bg).length<=n->(fu P ds n bg st).length<=oY n
 | 0,bg,st,_=>by
  cases e:ir P ds bg st with
  | none=>rw[fu,e];exact eW _
  | some m=>rw[tZ e];exact bx _
 | n+1,bg,st,h=>by
  cases e:ir P ds bg st with
  | none =>
   rw[A3 e,List.length_flatMap];have a:=Lq (f:=λd=>(fu P ds n (bg++[d.n]) (aQ P st d.c)).length) (B:=oY n) (l:=dM ds bg) λd hd=>Yp nd n (by have:=EH nd (vN hd);lia)
   exact cH a (CQ _ (cH (gW _ _) h))
  | some m=>rw[tZ e];exact Lp _
noncomputable def del(H:Hp)(x:Addr):Hp:=λb=>if b=x then none else H b
theorem A6{x:Addr}(h:b≠x):del H x b=H b:=if_neg h
theorem rL.del{x:Addr}{ds all:List Dr}{az:List (Key×V)}(h:rL H kd ds all az){fs:List (Str×V)}(hx:H x=some (.ins C dx fs)):rL (del H x) kd ds all az :=
 ⟨by rw[A6 (iy h.d hx (λz=>nomatch z))];exact h.d,h.n,λi d e=>let ⟨li,h1,h2,h3⟩:=h.v i d e;⟨li,h1,h2,by rw[A6 (iy h3 hx (λz=>nomatch z))];exact h3⟩⟩
theorem aii{P:Pl}{ds:List Dr}{d:Dr}(h:∀(j:Nat) (d:Dr),j<i->(bZ ds bg)[j]? = some d->gJ d (aQ P st d.c).2=false)(e:(bZ ds bg)[i]? = some d)(hl:gJ d (aQ P st d.c).2=true):ir P ds bg st=some d.n:=by
 unfold ir;generalize bZ ds bg=l at h e
 induction l generalizing i with
 | nil=>cases e
 | cons x l ih =>
  cases i with
  | zero =>
   cases e;rw[List.find?_cons,hl];rfl
  | succ i =>
   rw[List.find?_cons,h 0 x (zC _) rfl];exact ih (i:=i) (λj d hj ej=>h (j+1) d (Nat.succ_lt_succ hj) ej) e
theorem aij{P:Pl}{ds:List Dr}(h:∀(j:Nat) (d:Dr),(bZ ds bg)[j]? = some d->gJ d (aQ P st d.c).2=false):ir P ds bg st=none:=by
 unfold ir;rw[wM.mpr,Option.map_none];intro d hd;obtain⟨j,hj⟩:=CC.mp hd;rw[h j d hj];exact fz
theorem ig.ne{F:Nk->Int->Prop}{o:HO}(h:ig H a F m)(e:H b=some o)(n:∀φ,o≠.ext φ):b≠a:=by
 obtain⟨xs,h1,_⟩:=h;exact iy e h1 (n _)
theorem ig.nt{F:Nk->Int->Prop}{xs:_V}(h:ig H a F m)(e:H b=some (.tup xs)):b≠a:=h.ne e λ_ z=>nomatch z
theorem nB.trans(h:nB a H H1)(h':nB a H1 H2):nB a H H2:=λb o n e=>h' b o n (h b o n e)
theorem aj.x(h:aj H H1):nB a H H1:=λb o _ e=>h b o e
theorem aik{P:Pl}{ds:List Dr}(h:ir P ds bg st=none)(hl:(bZ ds bg).length=n):fu P ds n bg st=(dM ds bg).flatMap λd=>fu P ds (n - 1) (bg++[d.n]) (aQ P st d.c):=by
 cases n with
 | succ n=>exact A3 h
 | zero =>
  have:dM ds bg = []:=by unfold dM;rw[List.length_eq_zero_iff.mp hl];rfl
  rw[this,fu,h];rfl
theorem nq.app{Yq:_A}{us Yr:List Nd}(h:nq H cu us)(h':nq H Yq Yr):nq H (cu++Yq) (us++Yr):=by
 refine⟨by rw[e7,e7,h.n,h'.n],λi a u e1 e2=>?_⟩
 have hn:=h.n;by_cases hi:i<cu.length
 ·rw[eU hi] at e1;rw[eU ∅] at e2
  exact h.t i a u e1 e2
 ·rw[eV ∅] at e1
  rw[eV ∅,← hn] at e2
  exact h'.t _ a u e1 e2
theorem rM.ll{us:List Nd}(h:rM H l cu us):nq H cu us:=⟨h.n,h.t⟩
theorem ail(f:α->List β)(l:List α)(k:Nat):((l.take k).flatMap f).length<=(l.flatMap f).length:=by
 have e:l.flatMap f=(l.take k).flatMap f++(l.drop k).flatMap f:=by rw[← wN,uJ]
 rw[e,e7];exact Nat.le_add_right _ _
theorem Ys(h:n<=7):oY n<=5040:=ahO h
noncomputable def t_(ds:List Dr)(n:Int):List Dr:=ds.filter λx => !decide (x.n=n)
theorem Yt{P:Pl}(ok:fO P){ds bR:List Dr}(hc:∀d∈ds,∀q∈d.c,0<=q.1/\q.1<(P.rc.length:Int))(nd:(ds.map (·.n)).Nodup){s:Int×Int}(s0:0<=s.1/\s.1<P.rc.length)(hs:∀d∈bR,d∈ds)(h:∃o,dH P ds [] s o):∃o,dH P bR [] s o:=let ⟨_,h⟩:=h;h.sub ok hc nd hs s0 s0 (.refl _ _) λ_ _=>Iff.rfl
theorem Yu{CS:Addr}{Q:VK}{E:XK}(h:Lx K cs CA CD CS 0 vs H Q E):False:=by
 obtain⟨_,_,_,_,_,_,_,_,_,_,_,_,_,_,_,_,_,_,_,_,z,_⟩:=h;exact uN _ z
theorem Yv{CS:Addr}{Q:VK}{E:XK}(h:Ly K cs CA CD CS 0 vs H Q E):False:=by
 obtain⟨_,_,_,_,_,_,_,_,_,_,_,_,_,_,_,_,_,_,_,z,_⟩:=h;exact uN _ z
theorem Yw{Q:VK}{E:XK}(h:Lr K 0 vs H Q E):False:=by
 obtain⟨_,_,_,_,_,_,_,_,_,_,_,_,z,_⟩:=h;exact uN _ z
noncomputable def E6(P:Pl)(ks:List Kn):Int×Int->_I->Prop
 | _,[]=>True
 | st,n::ns=>∃k∈ks,k.n=n/\(∀x,k.f_=some x->(aQ P st k.c).2<=x)/\E6 P ks (aQ P st k.c) ns
structure mq(ks:List Kn)(ds:List Dr):Prop where
 kd:Kd ks ds
 la:∀(i:Nat) (k:Kn) (d:Dr),ks[i]? = some k->ds[i]? = some d->d.q.tO=k.f_
theorem Yx{d:Dr}{e x:Int}(h:gJ d e=false)(hx:d.q.tO=some x):e<=x:=by
 unfold gJ at h;rw[hx] at h;have:=of_decide_eq_false h;lia
theorem aim{d:Dr}{e:Int}(h:gJ d e=true):∃x,d.q.tO=some x/\x<e:=by
 unfold gJ at h;split at h
 ·cases h
 ·rename_i x hx;exact⟨x,hx,of_decide_eq_true h⟩
theorem dH.time{P:Pl}{ks:List Kn}{ds:List Dr}(h:mq ks ds){o:_I}(i:dH P ds bg st o):∃ns,o=bg++ns/\E6 P ks st ns:=by
 induction i with
 | done _=>exact⟨[],by simp,trivial⟩
 | @step bg st d o hd ht _ ih =>
  obtain⟨ns,e,t⟩:=ih;obtain⟨j,k,e1,e2⟩:=h.kd.at (jZ.mp hd).1.1;obtain⟨en,ec⟩:=h.kd.e j k d e1 e2;rw[ec] at t ht;exact⟨d.n::ns,by rw[e];simp,k,get_mem e1,en.symm,λx hx=>Yx ht ((h.la j k d e1 e2).trans hx),t⟩
theorem mq.Yy{ks:List Kn}{ds:List Dr}(h:mq ks ds)(p:Int->Bool):mq (ks.filter λk=>p k.n) (ds.filter λd=>p d.n):=by
 have all:∀x∈ks.zip ds,∃i,ks[i]? = some x.1/\ds[i]? = some x.2:=λx hx=>by
  obtain⟨i,hi⟩:=CC.mp hx;exact⟨i,List.getElem?_zip_eq_some.mp hi⟩
 have e1:ks.filter (λk=>p k.n)=((ks.zip ds).filter λx=>p x.1.n).map (·.1):=by
  have:ks=(ks.zip ds).map (·.1):=(List.map_fst_zip (by rw[h.kd.n];exact bx _)).symm
  conv=>lhs;rw[this]
  rw[List.filter_map];rfl
 have e2:ds.filter (λd=>p d.n)=((ks.zip ds).filter λx=>p x.1.n).map (·.2):=by
  have:ds=(ks.zip ds).map (·.2):=(List.map_snd_zip (by rw[h.kd.n];exact bx _)).symm
  conv=>lhs;rw[this]
  rw[List.filter_map];congr 1;refine zh λx hx=>?_;obtain⟨i,a,b⟩:=all x hx
  show p x.2.n=p x.1.n;rw[(h.kd.e i _ _ a b).1]
 have get:∀ {i:Nat} {k:Kn} {d:Dr},(ks.filter λk=>p k.n)[i]? = some k->(ds.filter λd=>p d.n)[i]? = some d->∃j,ks[j]? = some k/\ds[j]? = some d:=λ{i k d} g1 g2=>by
  rw[e1,jH] at g1;rw[e2,jH] at g2;obtain⟨x,f1,rfl⟩:=CW.mp g1;rw[f1] at g2;cases g2;exact all x (cY.mp (gz f1)).1
 refine⟨⟨by rw[e1,e2,aM,aM],λi k d g1 g2=>?_,λi j k k' d d' g1 g2 g3 g4=>?_,h.kd.up.sublist pG⟩,λi k d g1 g2=>?_⟩
 ·obtain⟨j,a,b⟩:=get g1 g2;exact h.kd.e j k d a b
 ·obtain⟨m,a,b⟩:=get g1 g2;obtain⟨m',a',b'⟩:=get g3 g4;exact h.kd.q m m' k k' d d' a b a' b'
 ·obtain⟨j,a,b⟩:=get g1 g2;exact h.la j k d a b
theorem Yz{ds bR:List Dr}(s:bR.Sublist ds)(nd:(ds.map (·.n)).Nodup):bR=ds.filter λd=>decide (d.n∈bR.map (·.n)):=by
 induction s with
 | slnil=>rfl
 | @cons l1 l2 a s ih =>
  rw[dh,jk] at nd;rw[iu,if_neg (by
   rw[sQ];exact λz=>nd.1 ((s.map _).subset z))]
  exact ih nd.2
 | @cons_cons l1 l2 a s ih =>
  rw[dh,jk] at nd;rw[iu,if_pos (by rw[sQ,dh];exact cL ..)]
  congr 1
  conv=>lhs;rw[ih nd.2]
  refine zh λd hd=>?_;rw[dh,kX,sQ,sQ,cV];exact⟨.inr,λz=>z.elim (λz=>absurd (z▸sL hd) nd.1) id⟩
noncomputable def nF(ks:List Kn)(ns:_I):List Kn:=ks.filter λk=>decide (k.n∈ns)
theorem mq.some{ks:List Kn}{ds bR:List Dr}(h:mq ks ds)(s:bR.Sublist ds):mq (nF ks (bR.map (·.n))) bR:=by
 have:=h.Yy λn=>decide (n∈bR.map (·.n));rw[← Yz s h.kd.nd] at this;exact this
theorem ain{x:α}{xs:List α}:fL (x::xs) 0=some x:=by
 unfold fL kD;rw[if_pos (nQ _)];simp
theorem aio{ks:List Kn}(up:ks.Pairwise λa b=>a.n<b.n){k k':Kn}(h:k∈ks)(h':k'∈ks)(e:k.n=k'.n):k=k':=by
 obtain⟨i,hi,rfl⟩:=iJ.mp h;obtain⟨j,hj,rfl⟩:=iJ.mp h';have u:=nT.mp up;rcases CO i j with l | l | l
 ·have:=u i j hi hj l;lia
 ·subst l;rfl
 ·have:=u j i hj hi l;lia
theorem YA{ks:List Kn}(up:ks.Pairwise λa b=>a.n<b.n){k:Kn}(h:k∈ks):(ks.filter λx=>decide (x.n=k.n)) = [k]:=by
 induction ks with
 | nil=>cases h
 | cons y ks ih =>
  obtain⟨u1,u2⟩:=List.pairwise_cons.mp up;rw[iu];rcases cV.mp h with e | e
  ·subst e;rw[if_pos (jo rfl),List.filter_eq_nil_iff.mpr λx hx=>?_];have:=u1 x hx;simp;lia
  ·have:=u1 k e;rw[if_neg (by simp;lia)]
   exact ih u2 e
structure vV(H:Hp)(t kl:Addr)(z:_Z)(ak sk:Int)(sw:_I)(ks:List Kn)(r:Int):Prop where
 sp:∃za bw ca sa,iP H t z ak sk sw za bw ca sa
 wo:h_ z ak sk sw
 r0:0<=r
 r1:r<(counts z).length
 kn:∃bH,dG H kl bH ks
 kc:∀k∈ks,kJ (bJ z ak sk sw []) k.c/\k.c.length<=16
 up:ks.Pairwise λa b=>a.n<b.n
 n7:ks.length<=7
theorem vV.same{H H':Hp}{t kl:Addr}{z:_Z}{ak sk:Int}{sw:_I}{ks:List Kn}{r:Int}(h:vV H t kl z ak sk sw ks r)(s:aj H H'):vV H' t kl z ak sk sw ks r :=
 ⟨let ⟨za,bw,ca,sa,a⟩:=h.sp;⟨za,bw,ca,sa,a.same s⟩,h.wo,h.r0,h.r1,let ⟨bH,a⟩:=h.kn;⟨bH,a.same s⟩,h.kc,h.up,h.n7⟩
def aip(K:W.Frag):Sp:=λvs H Q _=>∃(t sp kt:Addr) (z:_Z) (ak sk:Int) (sw:_I) (za:Addr) (bw:_A) (ca sa:Addr) (r b:Int) (k:Kn) (b' cl:Addr) (aX:_A),vs = [.ref t,.ref sp,.ref kt]/\
 iP H t z ak sk sw za bw ca sa/\h_ z ak sk sw/\0<=r/\r<(counts z).length/\H sp=some (.tup [.int r,.int b])/\gF H kt k b' cl aX/\kJ (bJ z ak sk sw []) k.c/\k.c.length<=16/\∀H',aj H H'->Q (.int (aQ (bJ z ak sk sw []) (r,b) k.c).2) H'
def aiq(K:W.Frag):Sp:=λvs H Q _=>∃(t kl f:Addr) (z:_Z) (ak sk:Int) (sw:_I) (r b:Int) (ks:List Kn) (bg:_I),vs = [.ref t,.int r,.int b,.ref kl,.ref f]/\vV H t kl z ak sk sw ks r/\H f=some (.tup (bg.map V.int))/\La ks bg/\E6 (bJ z ak sk sw []) ks (r,b) bg/\∀H',aj H H'->Q (.bl true) H'
def YB(P:Pl)(ks:List Kn)(s:Int×Int)(us:List Nd):Prop:=∀u∈us,∃k∈ks,k.n=u.1/\u.1∉u.2.2.1/\∃x,k.f_=some x/\x<(aQ P (rN P s ks u.2.2.1) k.c).2
def air(K:W.Frag):Sp:=λvs H Q _=>∃(t kl lv:Addr) (z:_Z) (ak sk:Int) (sw:_I) (r b:Int) (ks:List Kn) (cu:_A) (us:List Nd),vs = [.ref t,.int r,.int b,.ref kl,.ref lv]/\vV H t kl z ak sk sw ks r/\rM H lv cu us/\us.length<=5040/\(us.map (·.2.2.1)).Nodup/\yt ks (us.map (·.2.2.1)) ks.length []/\nA ks (us.map (·.2.2.1)) ks.length [] = us.length/\YB (bJ z ak sk sw []) ks (r,b) us/\∀H',aj H H'->Q (.bl true) H'
def ais(K:W.Frag):Sp:=λvs H Q _=>∃(u t kl:Addr) (z:_Z) (ak sk:Int) (sw:_I) (nc:_Z) (r b:Int) (ks:List Kn) (ds:List Dr),vs = [.ref u,.ref t,.int r,.int b,.ref kl]/\vV H t kl z ak sk sw ks r/\mq ks ds/\A5 (bJ z ak sk sw nc) ds (r,b) u H/\∀H',aj H H'->Q (.bl true) H'
theorem yw.ait{ks:List Kn}{ds:List Dr}{s:Int×Int}(h:mq ks ds)(no:¬ ∃o,dH (bJ z ak sk sw nc) ds [] s o):∀us,us=fu (bJ z ak sk sw nc) ds ds.length [] s->(us.map (·.2.2.1)).Nodup/\yt ks (us.map (·.2.2.1)) ks.length []/\nA ks (us.map (·.2.2.1)) ks.length [] = us.length/\us.length<=oY ks.length/\YB (bJ z ak sk sw []) ks s us:=by
 rintro us rfl;have c:=aib h.kd (P:=bJ z ak sk sw nc) (s:=s) ds.length (bg:=[]) (st:=s) (W:=(fu (bJ z ak sk sw nc) ds ds.length [] s).map (·.2.2.1)) .nil (by rw[AX];exact bx _) (λu hu=>sL hu) (λw hw _=>let ⟨u,hu,e⟩:=dW.mp hw;⟨u,hu,e⟩) no
 refine⟨ah_ h.kd.nd .nil,h.kd.n▸c.1,h.kd.n▸c.2.1,h.kd.n▸c.2.2,λu hu=>?_⟩;obtain⟨_,fc,hr,d,hd,en,hl⟩:=A4 (P:=bJ z ak sk sw nc) (s:=s) .nil u hu;obtain⟨d1,d2⟩:=tW.mp hd;obtain⟨j,k,e1,e2⟩:=h.kd.at d1;obtain⟨kn,kc⟩:=h.kd.e j k d e1 e2;obtain⟨x,hx,lt⟩:=aim hl;refine⟨k,get_mem e1,kn.symm.trans en,en▸d2,x,(h.la j k d e1 e2).symm.trans hx,?_⟩;rw[h.kd.ag5 _ (hr.Lb λs c=>Ez z ak sk sw nc c s),← kc,← Ez z ak sk sw nc];exact lt
structure aiu(K:W.Frag)(cs:_A)(H:Hp)(sa p:Addr)(z:_Z)(ak sk:Int)(sw:_I)(nc:_Z)(kl dl:Addr):Prop where
 pl:∃C fp,C∈cs/\dR K C H p (bJ z ak sk sw nc) fp
 sp:∃za bw ca rG,iP H sa z ak sk sw za bw ca rG
 k:H kl=none
 d:H dl=none
def aiv(K:W.Frag)(cs:_A)(CA CD:Addr)(P:Addr)(pos:Pos)(qual:Str):Sp:=λvs H Q _=>∃(sc:Addr) (ns:_I) (most:Int),vs = [.ref sc,.int most]/\aA K H sc (ns.map V.int)/\ns.length<=63/\1<=most/\most<=7/\dF P pos qual H/\
 ∀t sa p r b kl dl z ak sk sw nc ks ds H0 H',H' t=some (.tup [.ref sa,.ref p,.int r,.int b,.ref kl,.ref dl])->aA K H0 sc (ns.map V.int)->KY K cs CA CD H' sa p r b kl dl z ak sk sw nc ks ds->aiu K cs H0 sa p z ak sk sw nc kl dl->aj H0 H'->Q (.ref t) H'
noncomputable def pick(l:List α)(is:List Nat):List α:=is.filterMap λi=>l[i]?
theorem YC{l:List α}{x:α}(h:l[i]? = some x):pick l (is++[i])=pick l is++[x]:=by
 unfold pick;rw[List.filterMap_append];congr 1;rw[zg h];rfl
noncomputable def nG(p:α->Bool)(l:List α)(n:Nat):List Nat:=(List.range n).filter λi=>(l[i]?).any p
theorem aiw{p:α->Bool}{l:List α}(h:i∈nG p l n):i<n:=fJ.mp (cY.mp h).1
theorem Lz{α:Type}(p:α->Bool)(l:List α):∀n,n<=l.length->pick l (nG p l n)=(l.take n).filter p
 | 0,_=>by simp[pick,nG]
 | n+1,h=>by
  have ih:=Lz p l n ∅
  have e:l[n]? = some l[n]:=aV ∅
  unfold nG at ih ⊢;rw[sM,uG,take_succ_get e,uG,← ih];by_cases c:p l[n] = true
  ·rw[iu,iu,e,zD,if_pos c,if_pos c];exact YC e
  ·rw[iu,iu,e,zD,if_neg c,if_neg c];simp
theorem LA{α:Type}{f:α->Int}{l:List α}(nd:(l.map f).Nodup){m:Nat}{x:α}(hm:l[m]? = some x):∀ {is:List Nat},(∀i∈is,i<l.length)->pick l (is.filter λi => !decide (i=m))=(pick l is).filter λy => !decide (f y=f x)
 | [],_=>rfl
 | i::is,h=>by
  have ih:=LA nd hm (is:=is) λj hj=>h j (cy _ hj);have hi:=h i (cL ..);have e:l[i]? = some l[i]:=aV hi;unfold pick at ih ⊢;rw[zg e,iu,iu];have iff:i=m↔f l[i] = f x:=by
   constructor
   ·rintro rfl;rw[e] at hm;cases hm;rfl
   ·intro z;have lF:=(iI.mp hm);obtain⟨hl,hx⟩:=lF;have u:=nT.mp (qC.mp nd);rw[← hx] at z;rcases CO i m with l | l | l
    ·exact absurd z (u i m hi hl l)
    ·exact l
    ·exact absurd z.symm (u m i hl hi l)
  by_cases c:i=m
  ·rw[if_neg (by simp[c]),if_neg (by simp[iff.mp c])]
   exact ih
  ·rw[if_pos (by simp[c]),if_pos (by simpa using λz=>c (iff.mpr z)),zg e,ih]
theorem yx{x y:Addr}{xs ys:_A}{o o':HO}(ha:H a=some (.lst (xs.map V.ref)))(hb:H b=some (.lst (ys.map V.ref)))(hx:xs[0]? = some x)(hy:ys[0]? = some y)(ho:H x=some o)(iY:H y=some o')(ne:o≠o'):a≠b:=by
 rintro rfl;rw[ha] at hb;injection hb with hb;injection hb with hb;have:xs=ys:=by
  have inj:∀ {xs ys:_A},xs.map V.ref=ys.map V.ref->xs=ys:=by
   intro xs
   induction xs with
   | nil=>intro ys h;cases ys with
    | nil=>rfl
    | cons y ys=>cases h
   | cons x xs ih=>intro ys h;cases ys with
    | nil=>cases h
    | cons y ys =>
     rw[dh,dh] at h;injection h with h1 h2;injection h1 with h1;rw[h1,ih h2]
  exact inj hb
 subst this;rw[hx] at hy;cases hy;rw[ho] at iY;cases iY;exact ne rfl
theorem Zn.hd(h:Zn H l ts z)(n:z≠[]):∃x i j,ts[0]? = some x/\H x=some (.tup [.int i,.int j]):=by
 have hn:=h.n;cases z with
 | nil=>exact absurd rfl n
 | cons q z =>
  have l0:0<ts.length:=by rw[hn];exact zC _
  exact⟨ts[0],_,_,aV l0,h.t 0 _ q (aV l0) rfl⟩
section
variable{ps:_A}{ks:List Kn}{ds:List Dr}
theorem dG.hd(h:dG H kl bH ks)(n:ks≠[]):∃x k b cl aX,bH[0]? = some x/\gF H x k b cl aX:=by
 have hn:=h.n;cases ks with
 | nil=>exact absurd rfl n
 | cons k ks =>
  have l0:0<bH.length:=by rw[hn];exact zC _
  obtain⟨b,cl,aX,a⟩:=h.t 0 _ k (aV l0) rfl;exact⟨bH[0],k,b,cl,aX,aV l0,a⟩
theorem eS.hd(h:eS K CA CD H dl ps ds)(n:ds≠[]):∃x dx fs,ps[0]? = some x/\H x=some (.ins CD dx fs):=by
 have hn:=h.n;cases ds with
 | nil=>exact absurd rfl n
 | cons d ds =>
  have l0:0<ps.length:=by rw[hn];exact zC _
  obtain⟨dx,ap,l,ts,m,b,cA,a⟩:=h.t 0 _ d (aV l0) rfl;exact⟨ps[0],_,_,aV l0,a.o⟩
theorem dG.put(h:dG H kl bH ks)(c:∀k∈ks,k.c≠[]){t cl:Addr}{k:Kn}(hk:gF H t k b cl aX)(kc:k.c≠[])(n:ks≠[]):dG (upd H kl (.lst ((bH.set i t).map V.ref))) kl (bH.set i t) (ks.set i k):=by
 have ne:∀ {t' k' b' mj qk},gF H t' k' b' mj qk->k'.c≠[]->mj≠kl:=λ{t' k' b' mj qk} a n'=>by
  obtain⟨x,i,j,e1,e2⟩:=a.c.hd n';obtain⟨y,k2,b2,E7,E8,e3,e4⟩:=h.hd n;exact yx a.c.l h.l e1 e3 e2 e4.o (λz=>by cases z)
 refine⟨aE,by rw[kY,kY,h.n],λj t' k' e1 e2=>?_⟩
 by_cases c1:j=i
 ·subst c1;have h1:j<bH.length:=by have:=cJ e1;rwa [kY] at this
  have h2:j<ks.length:=by rw[← h.n];exact h1
  rw[sJ h1] at e1;rw[sJ h2] at e2;cases e1;cases e2;exact⟨b,cl,aX,hk.kG h.l (ne hk kc)⟩
 ·rw[zm (fW c1)] at e1 e2;obtain⟨b',mj,qk,a⟩:=h.t j t' k' e1 e2;exact⟨b',mj,qk,a.kG h.l (ne a (c k' (get_mem e2)))⟩
theorem eS.aix(h:eS K CA CD H dl ps ds)(c:∀d∈ds,d.c≠[])(hk:dG H kl bH ks)(n:ks≠[])(n':ds≠[]){xs:_V}:eS K CA CD (upd H kl (.lst xs)) dl ps ds:=by
 obtain⟨y,k2,b2,E7,E8,e3,e4⟩:=hk.hd n;obtain⟨p0,YD,YE,e5,e6⟩:=h.hd n';have nd:dl≠kl:=yx h.l hk.l e5 e3 e6 e4.o (λz=>by cases z)
 refine⟨by rw[aJ nd];exact h.l,h.n,λi p d e1 e2=>?_⟩
 obtain⟨dx,ap,l,ts,m,b,cA,a⟩:=h.t i p d e1 e2;obtain⟨x,i,j,f1,f2⟩:=a.c.hd (c d (get_mem e2));exact⟨dx,ap,l,ts,m,b,cA,a.kG hk.l (yx a.c.l hk.l f1 e3 f2 e4.o (λz=>by cases z))⟩
theorem eS.put(h:eS K CA CD H dl ps ds)(c:∀d∈ds,d.c≠[]){d:Dr}(hd:∃dx ap l ts m b cA,jz K CA CD H p d dx ap l ts m b cA)(kc:d.c≠[])(n:ds≠[]):eS K CA CD (upd H dl (.lst ((ps.set i p).map V.ref))) dl (ps.set i p) (ds.set i d):=by
 obtain⟨p0,YD,YE,e5,e6⟩:=h.hd n;have go:∀ {p' d'},(∃dx ap l ts m b cA,jz K CA CD H p' d' dx ap l ts m b cA)->d'.c≠[]->∃dx ap l ts m b cA,jz K CA CD (upd H dl (.lst ((ps.set i p).map V.ref))) p' d' dx ap l ts m b cA:=λ{p' d'} ⟨dx,ap,l,ts,m,b,cA,a⟩ n'=>by
  obtain⟨x,i,j,f1,f2⟩:=a.c.hd n';exact⟨dx,ap,l,ts,m,b,cA,a.kG h.l (yx a.c.l h.l f1 e5 f2 e6 (λz=>by cases z))⟩
 refine⟨aE,by rw[kY,kY,h.n],λj p' d' e1 e2=>?_⟩
 by_cases c1:j=i
 ·subst c1;have h1:j<ps.length:=by have:=cJ e1;rwa [kY] at this
  have h2:j<ds.length:=by rw[← h.n];exact h1
  rw[sJ h1] at e1;rw[sJ h2] at e2;cases e1;cases e2;exact go hd kc
 ·rw[zm (fW c1)] at e1 e2;exact go (h.t j p' d' e1 e2) (c d' (get_mem e2))
theorem dG.dput(h:dG H kl bH ks)(c:∀k∈ks,k.c≠[])(hd:eS K CA CD H dl ps ds)(n:ks≠[])(n':ds≠[]){xs:_V}:dG (upd H dl (.lst xs)) kl bH ks:=by
 obtain⟨y,k2,b2,E7,E8,e3,e4⟩:=h.hd n;obtain⟨p0,YD,YE,e5,e6⟩:=hd.hd n';have nd:kl≠dl:=yx h.l hd.l e3 e5 e4.o e6 (λz=>by cases z)
 refine⟨by rw[aJ nd];exact h.l,h.n,λi t k e1 e2=>?_⟩
 obtain⟨b,cl,aX,a⟩:=h.t i t k e1 e2;obtain⟨x,i,j,f1,f2⟩:=a.c.hd (c k (get_mem e2));exact⟨b,cl,aX,a.kG hd.l (yx a.c.l hd.l f1 e5 f2 e6 (λz=>by cases z))⟩
end
theorem h_.hl(wo:h_ z ak sk sw):∀i:Nat,i<(counts z).length->1<=ak / (counts z).getD i 0:=λi hi=>by
 obtain⟨p,hp,e⟩:=q8 (get_mem (xR (counts z) hi));have kQ:=wo.zl.ok.r p hp;have l3:=wo.l3 p hp;have l1:=wo.l1;have lp:=Int.mul_ediv_add_emod ak p.2;rw[e];by_cases z0:ak / p.2<=0
 ·have:=Cu (show 0<=p.2 by lia) (show 0<=-(ak / p.2) by lia)
  rw[Int.mul_neg] at this;lia
 ·lia
theorem aiy(wo:h_ z ak sk sw){ds:List Dr}(hc:∀d∈ds,∀q∈d.c,0<=q.1/\q.1<((bJ z ak sk sw nc).rc.length:Int))(nd:(ds.map (·.n)).Nodup){s:Int×Int}(s0:0<=s.1/\s.1<(bJ z ak sk sw nc).rc.length){d:Dr}(hd:d∈ds)(dc:d.c≠[])(hl:d.q.tO=some s.2):¬ ∃o,dH (bJ z ak sk sw nc) ds [] s o:=by
 rintro⟨o,ho⟩;have l:=ho.Yl (wo.pl nc) hc nd s0 s0 (.refl _ _) (by rw[AX];exact hd)
 have le:=Yx l hl;have p:=Xy (wo.pl nc) (hc d hd) s0.2 s0.1;have pos:1<=nh (bJ z ak sk sw nc) d.c:=by
  cases e:d.c with
  | nil=>exact absurd e dc
  | cons q cz =>
   have hq:=hc d hd;rw[e] at hq;obtain⟨q0,q1⟩:=hq q (cL ..);have r:=Xx (wo.pl nc) (cz:=cz) λx hx=>hq x (cy _ hx);have b:=wo.hl q.1.toNat (by have q1:q.1<((counts z).length:Int):=q1;lia)
   have e2:nh (bJ z ak sk sw nc) (q::cz)=ak / (counts z).getD q.1.toNat 0+nh (bJ z ak sk sw nc) cz:=by simp[nh,bJ]
   rw[e2];lia
 lia
theorem aiz(hu:X.A.units+16<cLine):cN X (compareOp .NotEq) (λx y H Q=>∃a b xs,x = .ref a/\y = .ref b/\aA X.K H a xs/\aA X.K H b []/\Q (.bl !xs.isEmpty) H):=by
 rintro pins s σ H x y v u Q I rx ry ⟨a,b,xs,rfl,rfl,ha,hb,q⟩;cases rx;cases ry;obtain⟨aC,r1,p1,z1⟩:=I.list ha;obtain⟨fK,r2,p2,z2⟩:=I.list hb;cases r2;cases r1 with
 | nil =>
  have fin:=SeqAt.RcNeAt.lists (A:=X.A) (s:=s) (e:=λ_=>true) p1.isList p2.isList rfl ∅ (λj h1 h2=>absurd (show j<0 from h1) ∅)
  exact fin X.prog X.w _ _ ⟨.bl false,H,I,rfl,q⟩
 | cons r t =>
  have fin:=SeqAt.RcNeAt.lists_lengths (A:=X.A) (s:=s) p1.isList p2.isList (by simp) ∅
  exact fin X.prog X.w _ _ ⟨.bl true,H,I,rfl,q⟩
theorem YF{ks:List Kn}{ds:List Dr}(n:ds.length=ks.length)(dk:∀(i:Nat) (k:Kn) (d:Dr),ks[i]? = some k->ds[i]? = some d->yh nc k d)(ok:∀k∈ks,ng nc k)(up:ks.Pairwise λa b=>a.n<b.n):mq ks ds :=
 ⟨⟨n,λi k d e1 e2=>⟨(dk i k d e1 e2).1,by rw[(dk i k d e1 e2).2.2,(ok k (get_mem e1)).c]⟩,λi j k k' d d' e1 e2 e3 e4=>agN (dk i k d e1 e2) (dk j k' d' e3 e4),up⟩,λi k d e1 e2=>(dk i k d e1 e2).2.1.2.2.2.2⟩
structure mw(K:W.Frag)(cs:_A)(CA CD:Addr)(H:Hp)(sa p:Addr)(r:Int)(kl dl:Addr)(z:_Z)(ak sk:Int)(sw:_I)(nc:_Z)(bH ps:_A)(ks:List Kn)(ds:List Dr):Prop where
 sp:∃za bw ca rG,iP H sa z ak sk sw za bw ca rG
 wo:h_ z ak sk sw
 pl:∃C fp,C∈cs/\dR K C H p (bJ z ak sk sw nc) fp
 r0:0<=r
 r1:r<(counts z).length
 kn:dG H kl bH ks
 du:eS K CA CD H dl ps ds
 n7:ks.length<=7
 kd:mq ks ds
 kc:∀k∈ks,kJ (bJ z ak sk sw []) k.c/\k.c.length<=16
section
variable{r b:Int}{Lc Ld:Addr}{ps YG cQ:_A}{ks gG:List Kn}{ds bR:List Dr}
theorem mw.same(h:mw K cs CA CD H sa p r kl dl z ak sk sw nc bH ps ks ds)(s:aj H H'):mw K cs CA CD H' sa p r kl dl z ak sk sw nc bH ps ks ds:=by
 obtain⟨⟨za,bw,ca,rG,a⟩,wo,⟨C,fp,hC,hP⟩,r0,r1,kn,du,n7,kd,kc⟩:=h;exact⟨⟨za,bw,ca,rG,a.same s⟩,wo,⟨C,fp,hC,hP.same s⟩,r0,r1,kn.same s,du.same s,n7,kd,kc⟩
theorem mw.lk(h:mw K cs CA CD H sa p r kl dl z ak sk sw nc bH ps ks ds):vV H sa kl z ak sk sw ks r:=⟨h.sp,h.wo,h.r0,h.r1,⟨bH,h.kn⟩,h.kc,h.kd.kd.up,h.n7⟩
theorem mw.pd(h:mw K cs CA CD H sa p r kl dl z ak sk sw nc bH ps ks ds):∃C fp,lH K cs CA CD H C p dl (bJ z ak sk sw nc) fp ps ds r:=by
 obtain⟨C,fp,hC,hP⟩:=h.pl;refine⟨C,fp,hC,hP,h.wo.pl nc,h.r0,h.r1,h.du,by rw[h.kd.kd.n];exact h.n7,h.kd.kd.nd,λd hd=>?_⟩
 obtain⟨i,k,e1,e2⟩:=h.kd.kd.at hd;have:=h.kc k (get_mem e1);rw[(h.kd.kd.e i k d e1 e2).2];exact⟨this.1,∅⟩
theorem mw.part(h:mw K cs CA CD H sa p r kl dl z ak sk sw nc bH ps ks ds)(s:aj H H')(hk:dG H' Lc YG gG)(hd:eS K CA CD H' Ld cQ bR)(kd:mq gG bR)(sb:gG.Sublist ks):mw K cs CA CD H' sa p r Lc Ld z ak sk sw nc YG cQ gG bR:=by
 obtain⟨sp,wo,pl,r0,r1,_,_,n7,_,kc⟩:=h.same s;exact⟨sp,wo,pl,r0,r1,hk,hd,cH sb.length_le n7,kd,λk hk=>kc k (sb.subset hk)⟩
theorem KY.lt(h:KY K cs CA CD H sa p r b kl dl z ak sk sw nc ks ds)(hk:dG H kl bH ks)(hd:eS K CA CD H dl ps ds):mw K cs CA CD H sa p r kl dl z ak sk sw nc bH ps ks ds :=
 ⟨h.sp,h.wo,h.pl,h.r0,h.r1,hk,hd,h.ok.n7,YF h.dk.1 h.dk.2 h.ok.ok h.ok.up,λk hk=>(h.ok.ok k hk).cells h.nk h.wo⟩
theorem ng.ne{k:Kn}(h:ng nc k):k.c≠[]:=λe=>by
 have l:=KR h.f0 (show 0<=k.m by have:=h.m0;lia) h.fit
 rw[← h.c,e] at l;have:=h.m0;simp at l;lia
end
theorem YH{t:TS}{D:Ends}(h:∀N:St->Hp->Prop,(∀gX H1,D.nx gX H1->N gX H1)->t { D with nx:=N } σ H):Lv t D σ H:=λN hN=>h N hN
def qp(i:Nat):TE:=λσ H Q=>match σ[i]? with
 | some (some v)=>Q v H
 | _=>False
def mI(g:Int->Int->V):R2:=λx y H Q=>match x,y with
 | .int i,.int j=>Q (g i j) H
 | _,_=>False
def uc(C:Int->Int->Prop)(g:Int->Int->V):R2:=λx y H Q=>match x,y with
 | .int i,.int j=>C i j/\Q (g i j) H
 | _,_=>False
def onR(x:V)(k:Addr->Prop):Prop:=match x with
 | .ref a=>k a
 | _=>False
def vW(K:W.Frag)(o:Option HO)(f:Str)(k:V->Prop):Prop:=match o with
 | some (.ins C _ fs)=>(dO K C/\cD K C f)/\match fs.lookup f with
  | some v=>k v
  | none=>False
 | _=>False
def setM(K:W.Frag)(o:Option HO)(f:Str)(k:Addr->Addr->List (Str×V)->Prop):Prop:=match o with
 | some (.ins C dx fs)=>(dO K C/\cD K C f/\fs.length<1000)/\k C dx fs
 | _=>False
theorem aiA{fs:List (Str×V)}{f:Str}{k:V->Prop}(c:dO K C)(n:cD K C f):vW K (some (.ins C dx fs)) f k=match fs.lookup f with
  | some v=>k v
  | none=>False:=propext ⟨λh=>h.2,λh=>⟨⟨c,n⟩,h⟩⟩
theorem aiB{fs:List (Str×V)}{f:Str}{k:Addr->Addr->List (Str×V)->Prop}(c:dO K C)(n:cD K C f)(l:fs.length<1000):setM K (some (.ins C dx fs)) f k=k C dx fs :=
 propext ⟨λh=>h.2,λh=>⟨⟨c,n,l⟩,h⟩⟩
theorem vW.o{o:Option HO}{f:Str}{k:V->Prop}(h:vW K o f k):∃C dx fs v,o=some (.ins C dx fs)/\dO K C/\cD K C f/\fs.lookup f=some v/\k v:=by
 unfold vW at h;split at h
 ·obtain⟨⟨c,n⟩,h⟩:=h;split at h
  ·exact⟨_,_,_,_,rfl,c,n,by assumption,h⟩
  ·exact h.elim
 ·exact h.elim
theorem setM.o{o:Option HO}{f:Str}{k:Addr->Addr->List (Str×V)->Prop}(h:setM K o f k):∃C dx fs,o=some (.ins C dx fs)/\dO K C/\cD K C f/\fs.length<1000/\k C dx fs:=by
 unfold setM at h;split at h
 ·exact⟨_,_,_,rfl,h.1.1,h.1.2.1,h.1.2.2,h.2⟩
 ·exact h.elim
section
theorem PE.mn{t t':TE}(h:PE X e t)(m:∀σ H Q,t' σ H Q->t σ H Q):PE X e t':=λpins s σ H Q I q=>h pins s σ H Q I (m _ _ _ q)
theorem cN.mn{f:Value->Value->Sem Value}{r:R2}(h:cN X f r)(m:∀x y H Q,r' x y H Q->r x y H Q):cN X f r':=λpins s σ H x y v u Q I rx ry q=>h pins s σ H x y v u Q I rx ry (m _ _ _ _ q)
theorem qp.o{Q:VK}(h:qp i σ H Q):∃v,σ[i]? = some (some v)/\Q v H:=by
 unfold qp at h;split at h
 ·exact⟨_,by assumption,h⟩
 ·exact h.elim
theorem aa(i:Nat){x:Str}(hN:X.N[i]? = some x:=by rfl)(hv:Df X.env.scope x:=by first | exact Or.inl rfl | exact Or.inr OL_ | exact Or.inr (Or.inr rfl))(hd:(x == ("__debug__" : Str))=false:=by decide)
  (fE:(x == ("__classdict__" : Str))=false:=by decide):PE X (.Name x pos) (qp i):=(UH hN hv hd fE).mn λ_ _ _ h=>h.o
theorem mI.o{x:V}{Q:VK}(h:mI g x y H Q):kB g x y H Q:=by
 unfold mI at h;split at h
 ·exact⟨_,_,rfl,rfl,h⟩
 ·exact h.elim
theorem uc.o{C:Int->Int->Prop}{x:V}{Q:VK}(h:uc C g x y H Q):rI C g x y H Q:=by
 unfold uc at h;split at h
 ·exact⟨_,_,rfl,rfl,h⟩
 ·exact h.elim
theorem fG:cN X (binaryOp .Add) (mI λi j=>.int (i+j)):=fh.mn λ_ _ _ _ h=>h.o
theorem vX:cN X (binaryOp .Sub) (mI λi j=>.int (i - j)):=pX.mn λ_ _ _ _ h=>h.o
theorem oZ:cN X (binaryOp .Mult) (uc Aa λi j=>.int (i*j)):=xy.mn λ_ _ _ _ h=>h.o
theorem nH:cN X (binaryOp .FloorDiv) (uc IJ λi j=>.int (i / j)):=xA.mn λ_ _ _ _ h=>h.o
theorem gc:cN X (binaryOp .Mod) (uc (λ_ j=>0<j) λi j=>.int (i % j)):=dz.mn λ_ _ _ _ h=>h.o
def c0:Int->Int->Prop->Prop:=λi j k=>k
section
variable{f:Value->Value->Sem Value}{C:Int->Int->Prop}{c:Int->Int->Prop->Prop}
end
def LB(p:Int->Int->Prop)[∀i j,Decidable (p i j)](ta tb:TE):TT:=λσ H Q=>ta σ H λx H1=>tb σ H1 λy H2=>match x,y with
 | .int i,.int j=>if p i j then Q true H2 else Q false H2
 | _,_=>False
theorem aiC{p:Int->Int->Prop}[∀i j,Decidable (p i j)]{x:V}{Q:Bool->Hp->Prop}(h:match x,y with
 | .int i,.int j=>if p i j then Q true H else Q false H
 | _,_=>False):kB (λi j=>.bl (decide (p i j))) x y H λz H'=>∃k,z = .bl k/\Q k H':=by
 split at h
 ·refine⟨_,_,rfl,rfl,_,rfl,?_⟩;split at h
  ·rw[jo (by assumption)];exact h
  ·rw[jm (by assumption)];exact h
 ·exact h.elim
theorem eF{op:CmpOp}{a b:Expr}{ta:TE}{p:Int->Int->Prop}[∀i j,Decidable (p i j)](ho:cN X (compareOp op) (kB λi j=>.bl (decide (p i j))))(ha:PE X a ta)(hb:PE X b tb)(hm:behindInMarks op b=false):PT X (.Compare a [op] [b] pos) (LB p ta tb):=by
 intro pins s σ H Q I h;refine HW (aW (ha pins s σ H _ I h) λv s1 ⟨x,H1,I1,r1,q1⟩=>aW (hb pins s1 σ H1 _ I1 q1) λu s2 ⟨y,H2,I2,r2,q2⟩ =>
  aW (ho pins s2 σ H2 x y v u _ I2 r1 r2 (aiC q2)) λc s3 ⟨z,H3,I3,r3,zz⟩=>?_) hm
 obtain⟨k,e,q3⟩:=zz;subst e;cases r3;exact pL ⟨H3,I3,q3⟩
theorem A7:cN X (compareOp .Eq) (kB λi j=>.bl (decide (i=j))):=λpins s σ H x y v u Q I rx ry ⟨i,j,e1,e2,q⟩=>by
 subst e1 e2;exact i_ pins s σ H _ _ v u Q I rx ry ⟨rfl,by simpa only[V.int.injEq] using q⟩
theorem vY:cN X (compareOp .NotEq) (kB λi j=>.bl (decide (¬ i=j))):=λpins s σ H x y v u Q I rx ry ⟨i,j,e1,e2,q⟩=>by
 subst e1 e2;exact vg pins s σ H _ _ v u Q I rx ry ⟨rfl,by simpa only[V.int.injEq,decide_not] using q⟩
def LC(c:TT)(t u:TS):TS:=λD σ H=>c σ H λb H1=>match b with
 | true=>t D σ H1
 | false=>u D σ H1
theorem j9{c:Expr}{a b:List Stmt}{tc:TT}{t u:TS}(hc:PT X c tc)(ha:iZ X a t)(hb:iZ X b u):PS X (.If c a b pos) (LC tc t u):=by
 intro pins s σ H D I h;refine wpAny_If (aW (hc pins s σ H _ I h) λd s1 ⟨H1,I1,q1⟩=>?_);cases d with
 | true=>exact ha pins s1 σ H1 D I1 q1
 | false=>exact hb pins s1 σ H1 D I1 q1
def A8(t u:TT):TT:=λσ H Q=>t σ H λc H1=>match c with
 | true=>Q true H1
 | false=>u σ H1 Q
def YI(t u:TT):TT:=λσ H Q=>t σ H λc H1=>match c with
 | true=>u σ H1 Q
 | false=>Q false H1
theorem ofM{b:Bool}{x y:Prop}:(if b=true then x else y)=(match b with
 | true=>x
 | false=>y):=by cases b <;> simp
theorem aiD{t u:TT}:xr t u=A8 t u:=by
 funext σ H Q
 unfold xr A8;congr 1;funext c H1;exact ofM
theorem rS{a:Expr}{bs:List Expr}{tA tB:TT}(h:PW X (.BoolOp .Or (a::bs) pos) (xr tA tB)):PW X (.BoolOp .Or (a::bs) pos) (A8 tA tB):=aiD▸h
def E9(K:W.Frag):_V->Hp->VK->Prop:=λxs H Q=>match xs with
 | [.ref p]=>∃ys,(aA K H p ys\/aK K H p ys)/\Q (.int ys.length) H
 | _=>False
theorem eZ:i9 X (.builtin "len") (E9 X.K):=λpins s σ H xs us Q I r h=>by
 unfold E9 at h;split at h
 ·obtain⟨ys,hq,q⟩:=h;exact DM pins s σ H _ us Q I r ⟨_,ys,rfl,hq,q⟩
 ·exact h.elim
def ue(K:W.Frag):R2:=λx y H Q=>match x,y with
 | .ref p,.int i=>∃xs,aA K H p xs/\∃v,fL xs i=some v/\Q v H
 | _,_=>False
def vZ(K:W.Frag):R2:=λx y H Q=>match x,y with
 | .ref p,.int i=>∃xs,aK K H p xs/\∃v,fL xs i=some v/\Q v H
 | _,_=>False
theorem oE.mn{r:R2}(h:oE X r)(m:∀x y H Q,r' x y H Q->r x y H Q):oE X r':=λvalue slice pins s σ H x y v u Q I rx ry q hs=>h value slice pins s σ H x y v u Q I rx ry (m _ _ _ _ q) hs
theorem ue.o{x:V}{Q:VK}(h:ue K x y H Q):DJ K x y H Q:=by
 unfold ue at h;split at h
 ·obtain⟨xs,hx,w,hw,q⟩:=h;exact⟨_,xs,_,w,rfl,rfl,hx,hw,q⟩
 ·exact h.elim
theorem vZ.o{x:V}{Q:VK}(h:vZ K x y H Q):Ai K x y H Q:=by
 unfold vZ at h;split at h
 ·obtain⟨xs,hx,w,hw,q⟩:=h;exact⟨_,xs,_,w,rfl,rfl,hx,hw,q⟩
 ·exact h.elim
theorem b_:oE X (ue X.K):=pY.mn λ_ _ _ _ h=>h.o
theorem bM:oE X (vZ X.K):=qT.mn λ_ _ _ _ h=>h.o
theorem uf(h:X.K=K):oE X (ue K):=h▸b_
theorem j_(h:X.K=K):oE X (vZ K):=h▸bM
def E_(K:W.Frag)(ta:TE)(f:Str):TE:=λσ H Q=>ta σ H λx H1=>match x with
 | .ref a=>vW K (H1 a) f λv=>Q v H1
 | _=>False
def LD(K:W.Frag)(ta tv:TE)(f:Str):TS:=λD σ H=>tv σ H λy H1=>ta σ H1 λx H2=>match x with
 | .ref a=>setM K (H2 a) f λC dx fs=>D.nx σ (upd H2 a (.ins C dx (gY f y fs)))
 | _=>False
theorem aiE{f:Str}{x:V}{Q:VK}(h:match x with
 | .ref a=>vW K (H a) f λv=>Q v H
 | _=>False):∃a C dx fs v,x = .ref a/\H a=some (.ins C dx fs)/\dO K C/\cD K C f/\fs.lookup f=some v/\Q v H:=by
 split at h
 ·obtain⟨C,dx,fs,v,e⟩:=h.o;exact⟨_,C,dx,fs,v,rfl,e⟩
 ·exact h.elim
theorem aiF{f:Str}{x:V}{k:Addr->Addr->Addr->List (Str×V)->Prop}(h:match x with
 | .ref a=>setM K (H a) f (k a)
 | _=>False):∃a C dx fs,x = .ref a/\H a=some (.ins C dx fs)/\dO K C/\cD K C f/\fs.length<1000/\k a C dx fs:=by
 split at h
 ·obtain⟨C,dx,fs,e⟩:=h.o;exact⟨_,C,dx,fs,rfl,e⟩
 ·exact h.elim
variable{o:Expr}{f:Str}{ta:TE}
theorem b9(he:PE X e ta)(hb:attributeBase e f X.env (eval e X.env)=eval e X.env):PE X (.Attribute e f pos) (E_ X.K ta f):=by
 intro pins s σ H Q I h;refine U5 hb (aW (he pins s σ H _ I h) λu s1 bO=>?_);obtain⟨x,H1,I1,rx,q⟩:=bO;obtain⟨a,C,dx,fs,v,ex,ea,c,n,l,q1⟩:=aiE q;subst ex;obtain rfl:u=Value.ref a:=rx;exact U3 I1 ea c n l λu' s2 I2 ru=>⟨v,H1,I2,ru,q1⟩
theorem A9(h:X.K=K)(he:PE X e ta)(hb:attributeBase e f X.env (eval e X.env)=eval e X.env):PE X (.Attribute e f pos) (E_ K ta f):=h▸b9 he hb
theorem gT(ha:PE X o ta)(hv:PE X value tv)(hs:swapsWith value (some (.Attribute o f pos')) pos.line X.env=pure false):PS X (.Assign [.Attribute o f pos'] value pos) (LD X.K ta tv f):=by
 intro pins s σ H D I h;refine Ul (aW (hv pins s σ H _ I h) λu s1 ⟨y,H1,I1,ry,q⟩=>aW (ha pins s1 σ H1 _ I1 q) λov s2 bO=>?_) hs;obtain⟨x,H2,I2,rx,q2⟩:=bO;obtain⟨a,C,dx,fs,ex,ea,c,n,l,q3⟩:=aiF (k:=λa C dx fs=>D.nx σ (upd H2 a (.ins C dx (gY f y fs)))) q2;subst ex;obtain rfl:ov=Value.ref a:=rx;exact U4 I2 ea c n l ry λs3 I3=>⟨σ,_,I3,q3⟩
end
theorem aqx{f:α->β}{a:α}{l:List α}:List.map f (a::l)=f a::List.map f l:=rfl
theorem aqy{f:α->β}:List.map f [] = []:=rfl
theorem aqz{ta:TA}{σ H Q}:V6 ta σ H Q=(ta σ H λvs H1=>∃i j:Int,vs = [.int i,.int j]/\(-1000000000000<i/\i<1000000000000/\-1000000000000<j/\j<1000000000000)/\(j - i).toNat<=1000000/\
 ∀l,H1 l=none->Q (.ref l) (upd H1 l (.lst ((List.range (j - i).toNat).map λ(k:Nat)=>V.int (i+(k:Int)))))):=rfl
theorem aqA{x y H Q}:V7 K x y H Q=(∃l k xs,x = .ref l/\y = .int k/\H l=some (.tup xs)/\xs≠[]/\xs.length<=1000/\1<=k/\k<=1000/\∀p H',aj H H'->H' p=some (.tup (List.replicate k.toNat xs).flatten)->Q (.ref p) H'):=rfl
theorem aqB{x vs H Q}:V2 x vs H Q=(∃l a zs t,x = .ref l/\vs = [.ref a]/\H l=some (.lst (zV zs))/\V1 H zs/\JZ H a t/\t∈zs.map (·.2)/\
 ∀(k:Nat) (h:k<zs.length),zs[k].2=t->Q .aY (upd H l (.lst (zV (zs.eraseIdx k))))):=rfl
theorem aqC{x vs H Q}:Vt x vs H Q=(∃l xs y,x = .ref l/\vs = []/\H l=some (.lst xs)/\xs[xs.length - 1]? = some y/\Q y (upd H l (.lst xs.dropLast))):=rfl
theorem aqD{neg:Bool}{x y H Q}:KN K neg x y H Q=(∃(a p:Addr) (c:_I) (zs:Us),x = .ref a/\y = .ref p/\H a=some (.tup (c.map V.int))/\aA K H p (uV zs)/\oU H zs/\
 Q (.bl (if neg then !decide (c∈zs.map (·.2)) else decide (c∈zs.map (·.2)))) H):=rfl
theorem aqE{x vs H Q}:WQ x vs H Q=(∃(l a:Addr) (zs:Us) (c:_I),x = .ref l/\vs = [.ref a]/\H l=some (.lst (uV zs))/\oU H zs/\H a=some (.tup (c.map V.int))/\c∈zs.map (·.2)/\
 ∀(k:Nat) (h:k<zs.length),zs[k].2=c->(∀m (hm:m<zs.length),m<k->zs[m].2≠c)->Q .aY (upd H l (.lst (uV (zs.eraseIdx k))))):=rfl
theorem aqF{ts:TE}{σ H Q}:KQ K te ts σ H Q=(te σ H λx H1=>ts σ H1 λk H2=>∃a xs,x = .ref a/\k = .int (-1)/\aA K H2 a xs/\∀p,H2 p=none->Q (.ref p) (upd H2 p (.lst xs.reverse))):=rfl
theorem aqG{x y H Q}:Je K x y H Q=(∃a b xs ys,x = .ref a/\y = .ref b/\aK K H a xs/\aK K H b ys/\xs≠[]/\xs.length+ys.length<=sizeLine/\
 (ys = []->Q (.ref a) H)/\(ys≠[]->∀p,H p=none->Q (.ref p) (upd H p (.tup (xs++ys))))):=rfl
theorem aqH{t:TS}{D σ H}:KZ t D σ H=(∃M:St->Hp->Prop,t { D with nx:=M } σ H/\∀gX H1,M gX H1->@Later ⟨D.nx⟩ gX H1):=rfl
theorem aqI{σ H Q}:qp i σ H Q=(match σ[i]? with
 | some (some v)=>Q v H
 | _=>False):=rfl
theorem aqJ{x y H Q}:mI g x y H Q=(match x,y with
 | .int i,.int j=>Q (g i j) H
 | _,_=>False):=rfl
theorem aqK{C:Int->Int->Prop}{x y H Q}:uc C g x y H Q=(match x,y with
 | .int i,.int j=>C i j/\Q (g i j) H
 | _,_=>False):=rfl
theorem aqL{p:Int->Int->Prop}[∀i j,Decidable (p i j)]{ta:TE}{σ H Q}:LB p ta tb σ H Q=(ta σ H λx H1=>tb σ H1 λy H2=>match x,y with
 | .int i,.int j=>if p i j then Q true H2 else Q false H2
 | _,_=>False):=rfl
theorem aqM{c:TT}{t u:TS}{D σ H}:LC c t u D σ H=(c σ H λb H1=>match b with
 | true=>t D σ H1
 | false=>u D σ H1):=rfl
theorem aqN{t u:TT}{σ H Q}:A8 t u σ H Q=(t σ H λc H1=>match c with
 | true=>Q true H1
 | false=>u σ H1 Q):=rfl
theorem aqO{t u:TT}{σ H Q}:YI t u σ H Q=(t σ H λc H1=>match c with
 | true=>u σ H1 Q
 | false=>Q false H1):=rfl
theorem aqP{xs H Q}:E9 K xs H Q=(match xs with
 | [.ref p]=>∃ys,(aA K H p ys\/aK K H p ys)/\Q (.int ys.length) H
 | _=>False):=rfl
theorem aqQ{x y H Q}:ue K x y H Q=(match x,y with
 | .ref p,.int i=>∃xs,aA K H p xs/\∃v,fL xs i=some v/\Q v H
 | _,_=>False):=rfl
theorem aqR{x y H Q}:vZ K x y H Q=(match x,y with
 | .ref p,.int i=>∃xs,aK K H p xs/\∃v,fL xs i=some v/\Q v H
 | _,_=>False):=rfl
theorem aqS{ta:TE}{f:Str}{σ H Q}:E_ K ta f σ H Q=(ta σ H λx H1=>match x with
 | .ref a=>vW K (H1 a) f λv=>Q v H1
 | _=>False):=rfl
theorem aqT{ta:TE}{f:Str}{D σ H}:LD K ta tv f D σ H=(tv σ H λy H1=>ta σ H1 λx H2=>match x with
 | .ref a=>setM K (H2 a) f λC dx fs=>D.nx σ (upd H2 a (.ins C dx (gY f y fs)))
 | _=>False):=rfl
theorem aqU{m:Str}{E:XK}{ta:TE}{t:TA}{σ H Q}:DZ cs m sp cW E ta t σ H Q=(ta σ H λx H1=>∃C a dx fs,x = .ref a/\H1 a=some (.ins C dx fs)/\C∈cs/\fs.lookup m=none/\t σ H1 λvs H2=>sp (x::(vs++cW)) H2 Q E):=rfl
theorem aqV{neg:Bool}{x y H Q}:xF K neg x y H Q=(∃p xs,y = .ref p/\(aA K H p xs\/aK K H p xs)/\mO x=true/\xs.all mO=true/\Q (.bl (if neg then !xE x xs else xE x xs)) H):=rfl
theorem aqW{σ H Q}:Vo K T r to σ H Q=(to σ H λx H1=>xH K T x H1/\r x [] H1 Q):=rfl
theorem aqX{x vs H Q}:Vu x vs H Q=(∃l xs,x = .ref l/\vs = []/\H l=some (.lst xs)/\Q .aY (upd H l (.lst []))):=rfl
theorem aqY{r:R2}{ta tc:TE}{σ H Q}:UX r r' ta tb tc σ H Q=(ta σ H λx H1=>tb σ H1 λy H2=>r x y H2 λz H3=>∃k,z = .bl k/\
 (if k=true then tc σ H3 λw' H4=>r' y w' H4 Q else Q (.bl false) H3)):=rfl
theorem aqZ{r:V->Option Int->Option Int->Hp->VK->Prop}{tl th:TO}{σ H Q}:Jd r te tl th σ H Q=(te σ H λx H1=>tl σ H1 λl H2=>th σ H2 λu H3=>r x l u H3 Q):=rfl
theorem aq0{t:TE}{σ H Q}:Jb t σ H Q=(t σ H λx H1=>∃i,x = .int i/\Q (some i) H1):=rfl
theorem aq1{z0 H Q}:Ja z0 H Q=(Q none H):=rfl
theorem aq2{x lo hi H Q}:Jg K x lo hi H Q=(∃a xs,x = .ref a/\aA K H a xs/\∀p,H p=none->Q (.ref p) (upd H p (.lst (jc xs lo hi)))):=rfl
theorem aq3{o i v H Q}:Jf o i v H Q=(∃p xs k j,o = .ref p/\i = .int k/\H p=some (.lst xs)/\kD xs.length k=some j/\Q (upd H p (.lst (xs.set j v)))):=rfl
theorem aq4{z0 H Q}:JB z0 H Q=(∀p,H p=none->Q (.ref p) (upd H p (.dT []))):=rfl
theorem aq5{z0 H Q}:JA z0 H Q=(∀p,H p=none->Q (.ref p) (upd H p (.dK []))):=rfl
theorem aq6{D σ H}:Jz td ty tv D σ H=(tv σ H λv H1=>td σ H1 λx H2=>ty σ H2 λy H3=>∃a H4,x = .ref a/\mS H3 a y v H4/\D.nx σ H4):=rfl
theorem aq7{σ H Q}:Jw td ty σ H Q=(td σ H λx H1=>ty σ H1 λy H2=>∃a v,x = .ref a/\gO H2 a y (some v)/\Q v H2):=rfl
theorem aq8{σ H Q}:Jx ty td σ H Q=(ty σ H λy H1=>td σ H1 λx H2=>∃a o,x = .ref a/\gO H2 a y o/\Q (.bl o.isSome) H2):=rfl
theorem aq9{σ H Q}:Jy ty td σ H Q=(ty σ H λy H1=>td σ H1 λx H2=>∃a o,x = .ref a/\gO H2 a y o/\Q (.bl (!o.isSome)) H2):=rfl
theorem aq_{σ H Q}:JE td ty σ H Q=(td σ H λx H1=>∃a,x = .ref a/\JD H1 a/\ty σ H1 λy H2=>∃o,gO H2 a y o/\Q (o.getD .aY) H2):=rfl
theorem ara{z0 z1 z2}:Iv z0 z1 z2=(False):=rfl
theorem arb{z0 H Q}:DS z0 H Q=(Q true H):=rfl
theorem arc{t:TT}{ta:TE}{σ H Q}:Io t ta tb σ H Q=(t σ H λc H1=>if c=true then ta σ H1 Q else tb σ H1 Q):=rfl
theorem ard{t u:TS}{D σ H}:Dn t u D σ H=(t { D with nx:=u D } σ H):=rfl
theorem arf{g:TG}{D σ H}:zX te g D σ H=(te σ H λx H1=>g x σ H1 D.nx):=rfl
theorem arh{v σ H Q}:qJ i v σ H Q=(Q (σ.set i (some v)) H):=rfl
theorem ari{vs σ H Q}:Dq vs σ H Q=(vs = []/\Q σ H):=rfl
theorem arj{t:TG}{u:pU}{vs σ H Q}:zT t u vs σ H Q=(∃v r,vs=v::r/\t v σ H λbV H'=>u r bV H' Q):=rfl
theorem ark{t:pU}{v σ H Q}:zW K n t v σ H Q=(∃a xs,v = .ref a/\aK K H a xs/\xs.length=n/\t xs σ H Q):=rfl
theorem arl{ti:TE}{t:Dp}{v σ H Q}:Iw to ti t v σ H Q=(to σ H λo H1=>ti σ H1 λi H2=>t o i v H2 λH3=>Q σ H3):=rfl
theorem arn{σ H Q}:Di i σ H Q=(∃v,σ[i]? = some (some v)/\Q v H):=rfl
theorem aro{v:V}{z0 H Q}:tC v z0 H Q=(Q v H):=rfl
theorem arp{r:R2}{ta:TE}{σ H Q}:vd r ta tb σ H Q=(ta σ H λx H1=>tb σ H1 λy H2=>r x y H2 Q):=rfl
theorem arq{x y H Q}:kB g x y H Q=(∃i j,x = .int i/\y = .int j/\Q (g i j) H):=rfl
theorem ars{C:Int->Int->Prop}{x y H Q}:rI C g x y H Q=(∃i j,x = .int i/\y = .int j/\C i j/\Q (g i j) H):=rfl
theorem art{r:V->Hp->VK->Prop}{ta:TE}{σ H Q}:IG r ta σ H Q=(ta σ H λx H1=>r x H1 Q):=rfl
theorem aru{g:Int->V}{x H Q}:rU g x H Q=(∃i,x = .int i/\Q (g i) H):=rfl
theorem arv{t:TE}{σ H Q}:IP t σ H Q=(t σ H λx H'=>∃k,x = .bl k/\Q k H'):=rfl
theorem arw{t:TE}{σ H Q}:tB t σ H Q=(t σ H λx H1=>∃c,x = .bl c/\Q c H1):=rfl
theorem arx{c:TT}{t u:TS}{D σ H}:Iu c t u D σ H=(c σ H λb H1=>if b=true then t D σ H1 else u D σ H1):=rfl
theorem arz{D σ H}:Ir te D σ H=(te σ H D.rt):=rfl
theorem arA{D z0 H}:UK D z0 H=(D.rt .aY H):=rfl
theorem arB{D σ H}:Iq te D σ H=(te σ H λ_ H1=>D.nx σ H1):=rfl
theorem arC{r:_V->Hp->VK->Prop}{t:TA}{σ H Q}:DC r t σ H Q=(t σ H λvs H1=>r vs H1 Q):=rfl
theorem arD{ta:TE}{tr:TA}{σ H Q}:DA ta tr σ H Q=(ta σ H λx H1=>tr σ H1 λxs H2=>Q (x::xs) H2):=rfl
theorem arE{z0 H Q}:Ac z0 H Q=(Q [] H):=rfl
theorem arF{E:XK}{t:TA}{σ H Q}:DB sp cW E t σ H Q=(t σ H λvs H1=>sp (vs++cW) H1 Q E):=rfl
theorem arG{D σ H}:Ip D σ H=(D.nx σ H):=rfl
theorem arH{t u:TT}{σ H Q}:Ii t u σ H Q=(t σ H λc H1=>if c=true then u σ H1 Q else Q false H1):=rfl
theorem arI{t u:TT}{σ H Q}:xr t u σ H Q=(t σ H λc H1=>if c=true then Q true H1 else u σ H1 Q):=rfl
theorem arJ{t:TT}{σ H Q}:Ij t σ H Q=(t σ H λc H1=>Q (!c) H1):=rfl
theorem arK{ta:TE}{σ H Q}:Ik ta tb σ H Q=(ta σ H λx H1=>∃c,x = .bl c/\if c=true then tb σ H1 Q else Q (.bl false) H1):=rfl
theorem arL{ta:TE}{σ H Q}:Il ta tb σ H Q=(ta σ H λx H1=>∃c,x = .bl c/\if c=true then Q (.bl true) H1 else tb σ H1 Q):=rfl
theorem arM{ta:TE}{σ H Q}:Im ta σ H Q=(ta σ H λx H1=>∃c,x = .bl c/\Q (.bl (!c)) H1):=rfl
theorem arN{t:TA}{σ H Q}:IY t σ H Q=(t σ H λxs H1=>xs.length<=sizeLine/\∀p,H1 p=none->Q (.ref p) (upd H1 p (.lst xs))):=rfl
theorem arO{t:TA}{σ H Q}:IX t σ H Q=(t σ H λxs H1=>xs.length<=sizeLine/\∀p,H1 p=none->Q (.ref p) (upd H1 p (.tup xs))):=rfl
theorem arP{t:TA}{σ H Q}:Jj K T r to t σ H Q=(to σ H λx H1=>xH K T x H1/\t σ H1 λxs H2=>r x xs H2 Q):=rfl
theorem arQ{x vs H Q}:Jk x vs H Q=(∃l xs y,x = .ref l/\vs = [y]/\H l=some (.lst xs)/\xs.length<sizeLine/\Q .aY (upd H l (.lst (xs++[y])))):=rfl
theorem arR{x vs H Q}:Jl x vs H Q=(∃l b xs zs,x = .ref l/\vs = [.ref b]/\H l=some (.lst xs)/\H b=some (.lst zs)/\xs.length+zs.length<=sizeLine/\Q .aY (upd H l (.lst (xs++zs)))):=rfl
theorem arS{x y H Q}:Jo x y H Q=(∃l b xs zs,x = .ref l/\y = .ref b/\H l=some (.lst xs)/\H b=some (.lst zs)/\xs.length+zs.length<=sizeLine/\∀p,H p=none->Q (.ref p) (upd H p (.lst (xs++zs)))):=rfl
theorem arT{x y H Q}:Jq x y H Q=(∃l k xs,x = .ref l/\y = .int k/\H l=some (.lst xs)/\-(2 ^ 63)<=k/\k<2 ^ 63/\xs.length*k.toNat<=sizeLine/\
 ∀p,H p=none->Q (.ref p) (upd H p (.lst (List.replicate k.toNat xs).flatten))):=rfl
theorem arU{x y H Q}:DJ K x y H Q=(∃p xs i v,x = .ref p/\y = .int i/\aA K H p xs/\fL xs i=some v/\Q v H):=rfl
theorem arV{x y H Q}:Ai K x y H Q=(∃p xs i v,x = .ref p/\y = .int i/\aK K H p xs/\fL xs i=some v/\Q v H):=rfl
theorem arW{x y H Q}:IK x y H Q=(mL x y=true/\Q (.bl (decide (x=y))) H):=rfl
theorem arX{x y H Q}:IL x y H Q=(mL x y=true/\Q (.bl (!decide (x=y))) H):=rfl
theorem arY{ta:TE}{f:Str}{σ H Q}:Dz K ta f σ H Q=(ta σ H λx H1=>∃a C dx fs v,x = .ref a/\H1 a=some (.ins C dx fs)/\dO K C/\cD K C f/\fs.lookup f=some v/\Q v H1):=rfl
theorem arZ{ta:TE}{f:Str}{D σ H}:IV K ta tv f D σ H=(tv σ H λy H1=>ta σ H1 λx H2=>∃a C dx fs,x = .ref a/\H2 a=some (.ins C dx fs)/\dO K C/\cD K C f/\fs.length<1000/\
 D.nx σ (upd H2 a (.ins C dx (gY f y fs)))):=rfl
theorem ar0{m:Str}{E:XK}{ta:TE}{t:TA}{σ H Q}:IZ C m sp cW E ta t σ H Q=(ta σ H λx H1=>∃a dx fs,x = .ref a/\H1 a=some (.ins C dx fs)/\fs.lookup m=none/\
 t σ H1 λvs H2=>sp (x::(vs++cW)) H2 Q E):=rfl
theorem ar1{E:XK}{t:TA}{σ H Q}:I0 C sp cW E t σ H Q=(t σ H λvs H1=>∀x dx,H1 x=none->H1 dx=none->dx≠x->
 sp (.ref x::(vs++cW)) (upd (upd H1 dx (.own x)) x (.ins C dx [])) (λv H2=>v = .aY/\Q (.ref x) H2) E):=rfl
noncomputable def iV(is:List Nat):_V:=is.map λi:Nat=>V.int i
theorem aiG{l:List α}:(pick l is).length<=is.length:=List.length_filterMap_le _ _
theorem LF{α:Type}{l:List α}:∀ {is:List Nat},(∀i∈is,i<l.length)->∀m:Nat,(pick l is)[m]? = (is[m]?).bind λi=>l[i]?
 | [],_,m=>by simp[pick]
 | i::is,h,m=>by
  have e:l[i]? = some (l[i]'(h i (cL ..))):=aV _;have ih:=LF (l:=l) (is:=is) λj hj=>h j (cy _ hj);unfold pick at ih ⊢;rw[zg e];cases m with
  | zero=>simp[e]
  | succ m=>rw[wQ,wQ];exact ih m
theorem YJ{l:List α}{l':List β}(n:l.length=l'.length)(h:∀i∈is,i<l.length){x:α}{y:β}(e1:(pick l is)[m]? = some x)(e2:(pick l' is)[m]? = some y):∃i:Nat,l[i]? = some x/\l'[i]? = some y:=by
 rw[LF h] at e1;rw[LF (λi hi=>by rw[← n];exact h i hi)] at e2
 obtain⟨i,a,b⟩:=Option.bind_eq_some_iff.mp e1;rw[a] at e2;exact⟨i,b,e2⟩
theorem A_{α:Type}{l:List α}:∀ {is:List Nat},(∀i∈is,i<l.length)->(pick l is).length=is.length
 | [],_=>rfl
 | i::is,h=>by
  have e:l[i]? = some (l[i]'(h i (cL ..))):=aV _;have ih:=A_ (l:=l) (is:=is) λj hj=>h j (cy _ hj);unfold pick at ih ⊢;rw[zg e,fH,fH,ih]
theorem dG.pick{H H':Hp}{kl D:Addr}{bH:_A}{ks:List Kn}(h:dG H kl bH ks){is:List Nat}(hi:∀i∈is,i<ks.length)(s:aj H H')(hD:H' D=some (.lst ((pick bH is).map V.ref))):dG H' D (_L.pick bH is) (_L.pick ks is) :=
 ⟨hD,by rw[A_ hi,A_ λi h'=>by rw[h.n];exact hi i h'],λm t k e1 e2=>by
  obtain⟨i,a,b⟩:=YJ h.n (λi h'=>by rw[h.n];exact hi i h') e1 e2
  exact(h.same s).t i t k a b⟩
theorem eS.pick{K:W.Frag}{CA CD:Addr}{H H':Hp}{dl D:Addr}{ps:_A}{ds:List Dr}(h:eS K CA CD H dl ps ds){is:List Nat}(hi:∀i∈is,i<ds.length)(s:aj H H')(hD:H' D=some (.lst ((pick ps is).map V.ref))):eS K CA CD H' D (_L.pick ps is) (_L.pick ds is) :=
 ⟨hD,by rw[A_ hi,A_ λi h'=>by rw[h.n];exact hi i h'],λm t k e1 e2=>by
  obtain⟨i,a,b⟩:=YJ h.n (λi h'=>by rw[h.n];exact hi i h') e1 e2
  exact(h.same s).t i t k a b⟩
theorem Fb{fi:Nat}{Q:VK}(D l:Addr)(is:List Nat)(as:_A)(AK:σ[j]? = some (⇑D))(hf:σ[fi]? = some (⇑l))(hD:H D=some (.lst (iV is)))(hl:H l=some (.lst (as.map V.ref)))(hi:∀i∈is,i<as.length)(n:is.length<=100)
  (q:∀D2 H',aj H H'->H D2=none->H' D2=some (.lst ((pick as is).map V.ref))->Q (.ref D2) H'):p9 (tu K (qp j)) (qJ 0) DS (vd (ue K) (qp 1) (qp 0)) 1 [fi] σ H Q:=by
 refine iF D (iV is) (λD2 m ys aB H2=>∃v,ys=(pick as (is.take m)).map V.ref/\aB = [v,⇑l]/\H2 D2=some (.lst ys)/\aj H H2/\H D2=none) (λQ q=>?_) (aA.of hD) ?_ ?_ ?_ ?_
 ·unfold qp;rw[AK];exact q
 ·intro D2 n2;refine⟨none,by rw[List.take_zero];rfl,?_,aE,aj.put n2,n2⟩
  show [none,(σ[fi]?).getD none] = _;rw[hf];rfl
 ·rintro D2 m ys aB H2 ⟨v,rfl,rfl,e1,e2,e3⟩;refine⟨e1,gi ?_,aA.of (e2 _ _ hD)⟩;have:=aiG (l:=as) (is:=is.take m);rw[dw] at this;rw[aM];lia
 ·rintro D2 m x ys aB H2 N hN hx ⟨v,rfl,rfl,e1,e2,e3⟩;obtain⟨i,hm,rfl⟩:=c9 hx;have A0:=hi i (gz hm);have e:=aV A0
  show ∃xs,aA K H2 l xs/\∃v,fL xs (i:Int)=some v/\H2 D2=_/\N _ _ _;exact⟨_,aA.of (e2 _ _ hl),.ref as[i],lV (by rw[jH,e];rfl),e1,hN _ _ _ ⟨_,by rw[take_succ_get hm,YC e,cj];rfl,rfl,aE,aj.put2 e2 e3,e3⟩⟩
 ·rintro D2 ys aB H2 ⟨v,rfl,rfl,e1,e2,e3⟩;rw[show (iV is).length=is.length from aM _,cZ] at e1;exact q D2 H2 e2 e3 e1
theorem aiH(p:α->Bool)(l:List α)(n:Nat):nG p l (n+1)=nG p l n++if (l[n]?).any p then [n] else []:=by
 unfold nG;rw[sM,uG,iu]
 rfl
theorem YK{p:α->Bool}{l:List α}:(nG p l n).length<=n:=by
 have:=gW (λi=>(l[i]?).any p) (List.range n);rwa [jI] at this
theorem aiI{p:α->Bool}{p':β->Bool}{l:List α}{l':List β}(h:∀i,i<n->(l[i]?).any p=(l'[i]?).any p'):nG p l n=nG p' l' n:=zh λi hi=>h i (fJ.mp hi)
noncomputable def qq(ks:List Kn)(ns:_I)(n:Nat):List Nat:=nG (λk:Kn=>decide (k.n∈ns)) ks n
theorem aiJ(ks:List Kn)(ns:_I):pick ks (qq ks ns ks.length)=nF ks ns:=by
 have:=Lz (λk:Kn=>decide (k.n∈ns)) ks ks.length (bx _);rwa [cZ] at this
theorem aiK{ks:List Kn}{ds bR:List Dr}(h:Kd ks ds)(s:bR.Sublist ds):pick ds (qq ks (bR.map (·.n)) ks.length)=bR:=by
 have e:qq ks (bR.map (·.n)) ks.length=nG (λd:Dr=>decide (d.n∈bR.map (·.n))) ds ds.length:=by
  rw[h.n];refine aiI λi hi=>?_;have h2:i<ds.length:=by rw[h.n];exact hi
  rw[aV hi,aV h2,zD,zD,(h.e i _ _ (aV hi) (aV h2)).1]
 have:=Lz (λd:Dr=>decide (d.n∈bR.map (·.n))) ds ds.length (bx _);rw[cZ,← Yz s h.nd] at this;rw[e];exact this
theorem A5.same{P:Pl}{ds:List Dr}{st:Int×Int}{u:Addr}{H H':Hp}(h:A5 P ds st u H)(s:aj H H'):A5 P ds st u H':=by
 rcases h with⟨po,o,a,b,c⟩ | ⟨pn,lv,cu,bR,a,b,c,d⟩
 ·exact .inl ⟨po,o,s _ _ a,s _ _ b,c⟩
 ·exact .inr ⟨pn,lv,cu,bR,s _ _ a,s _ _ b,c.same s,d⟩
theorem yw.no{P:Pl}(ok:fO P){ds bR:List Dr}(hc:∀d∈ds,∀q∈d.c,0<=q.1/\q.1<(P.rc.length:Int))(nd:(ds.map (·.n)).Nodup){s:Int×Int}(s0:0<=s.1/\s.1<P.rc.length)(h:yw P ds bR s):¬ ∃o,dH P ds [] s o:=λz=>h.n (Yt ok hc nd s0 (λd hd=>h.sb.subset hd) z)
end _L
end
local macro_rules|`(%[$xs,*|$t])=>do
 let a:=xs.getElems
 match t.raw.isNatLit? with
 |some 0=>return←a.foldrM (β:=Lean.TSyntax `term) (λx r=>`(_L.ah $x $r)) (←`(_L.au))
 |some 1=>return←a.pop.foldrM (β:=Lean.TSyntax `term) (λx r=>`(_L.aD $x $r)) (←`(_L.aL $(a.back!)))
 |some 2=>`(fun _ _=>rfl)
 |some n=>return Lean.Syntax.mkStrLit (("_law_known_here _law_spec_here _law_spot_here number_cells _law_plate_here ring_cells nearest_rings _law_script _law_one _law_found _law_ring _law_beat _law_cell _law_begun cell_numbers __init__ number bad_cells _law_cells _law_k behind _law_leaves plate stretch_by_number _law_none_in_time _law_number not_all_in_time check_no_detour cells_by_number numbers_by_cell _law_behind_way _law_are_leaves latest _law_other spares _law_most free_kept_cell _law_free_ones check_between order_in_time check_turning cells_by_ring lay_elsewhere _law_is_order lap_beats number_of __setattr__ _law_xs check_behind check_fields keeps_behind behind_among check_spares _law_cell_at _law_without _law_numbers _law_covered _law_in_time _law_settled _law_many _law_dues _law_some begun swing told_behind left_behind next_behind leaves_from check_zones check_swing beats_of swing_of has_cell bad_by_cell bad_numbers _law_stream _law_beside MOST_RINGS_IN_ZONE MOST_CELLS_IN_RING reading writing _law_leaf _law_ends _law_rings _law_first _law_met _law_order next_begin order_from _law_swing _law_plate _law_tight _law_known _law_keeps _law_whole _law_start _law_ended GREATEST_LATEST GREATEST_BEHIND cell_at _law_more _law_left check_few late_next _law_spec _law_walk _law_spot _law_least".splitOn " ").getD (n-10) "")
 |_=>Lean.Macro.throwUnsupported
namespace _W
open PySem _L PyProof.Rows
theorem sc1{i j:Int}:mL (.int i) (.int j)=true:=rfl
theorem sc2{i j:Str}:mL (.str i) (.str j)=true:=rfl
theorem sc3{i j:Bool}:mL (.bl i) (.bl j)=true:=rfl
theorem sc4: mL (.aY) (.aY)=true:=rfl
theorem sc5{i:Int}:mL (.aY) (.int i)=true:=rfl
theorem sc6{i:Int}:mL (.int i) (.aY)=true:=rfl
theorem sc7{i:Str}:mL (.aY) (.str i)=true:=rfl
theorem sc8{i:Str}:mL (.str i) (.aY)=true:=rfl
local macro_rules | `(tactic| wp_walk using $ts,*)=>do
 let a ← ("^aqI ^aqJ ^aqK ^aqL ^aqM ^aqN ^aqO ^aqP ^aqQ ^aqR ^aqS aiA ^aqT aiB Xr Yg Yh Yi Yb ^aqF ^aqG ^aqD ^aqE ^aqz tQ ^aqA ^aqB ^aqC ^aqU ^aqV ^aqW ^aqX ^aqY ^aqH agD ^aqZ ^aq0 ^aq1 ^aq2 ^aq3 and_assoc acL HO.ins.injEq VL tH gY String.reduceBEq List.lookup_cons List.lookup_nil aE HO.lst.injEq HO.dT.injEq HO.tup.injEq String.reduceEq false_and or_false false_or tL ^aq4 ^aq5 ^aq6 ^aq7 ^aq8 ^aq9 ^aq_ Bool.not_eq_true' decide_eq_false_iff_not Classical.not_not ^ara if_false_left if_false_right ^arb ^arc l6 List.length_map List.getElem?_nil ^ard ^arf ^arh ^ari ^arj ^ark ^arl ^arn ^aro ^arp ^arq ^ars ^art ^aru ^arv ^arw ^arx ^arz ^arA ^arB ^arC ^arD ^arE ^arF ^arG ^arH ^arI ^arJ ^arK ^arL ^arM ^arN ^arO ^arP xH ^arQ ^arR ^arS ^arT ^arU ^arV ^arW ^arX sc1 sc2 sc3 sc4 sc5 sc6 sc7 sc8 Aa IJ UQ ^arY ^arZ ^ar0 ^ar1 _L.start aeg aeh agH aqx aqy List.cons_append List.nil_append List.length_cons List.length_nil List.getElem?_cons_zero List.getElem?_cons_succ Option.some.injEq exists_eq_left exists_eq_left' exists_and_left exists_eq V.int.injEq V.ref.injEq V.bl.injEq V.ty.injEq V.str.injEq List.cons.injEq and_true true_and List.set_cons_zero List.set_cons_succ decide_eq_true_eq Nat.reduceSub Nat.reduceAdd List.replicate_succ List.replicate_zero List.replicate Int.reduceLT Int.reduceLE Int.reducePow Int.reduceToNat Int.reduceNeg Nat.reduceLT Nat.reduceLeDiff Nat.reducePow Int.reduceMul Int.reduceAdd Int.reduceSub and_self or_true true_or gt_iff_lt ge_iff_le if_true if_false Bool.false_eq_true reduceIte Nat.sub_self Nat.sub_zero".splitOn " ").toArray.mapM λx=>if x.startsWith "^" then `(Lean.Parser.Tactic.simpLemma| ↓ $(Lean.mkIdent ((x.drop 1).toString).toName):ident) else `(Lean.Parser.Tactic.simpLemma| $(Lean.mkIdent x.toName):ident)
 let d:Array (Lean.TSyntax `term):=("T.ar7 T.Qt T.yE T.qw T.qx T.aai T.aaj T.aak T.aal T.aam T.aan T.aao T.aap T.aaq T.Ga T.aat T.Qu T.aaw T.aax T.aay T.aaz T.Qv T.Qw T.Qx T.Qy T.Qz T.QA T.QB T.QC T.QD T.QE T.QF T.QG T.QH".splitOn " ").toArray.map λx=>⟨Lean.mkIdent x.toName⟩
 let b ← (ts.getElems.flatMap λt=>if t.raw.getId == `T then d else #[t]).mapM λt => `(Lean.Parser.Tactic.simpLemma| $t:term)
 let c:=a++b
 `(tactic| simp (maxSteps:=4000000) only[$c,*])
local macro_rules | `(tactic| walk_at "rdm") => `(tactic| wp_walk using and_self)
seal iZ PS PE PT PW PA PG xw PI PK PC PO xP
noncomputable def top(i:Nat):Stmt:=PySem.Challenge.pw_armswing_k68_cannot_is_least.main.body.getD i (.Pass ⟨0,0,0,0⟩)
noncomputable abbrev LG:Stmt:=inClass (top 16) 0
noncomputable abbrev LH:Stmt:=top 17
noncomputable abbrev LI:Stmt:=top 18
noncomputable abbrev LJ:Stmt:=top 19
noncomputable abbrev LK:Stmt:=top 20
noncomputable abbrev nI:Stmt:=top 21
noncomputable abbrev nJ:Stmt:=top 22
noncomputable abbrev LL:Stmt:=top 23
noncomputable abbrev LM:Stmt:=top 25
noncomputable abbrev LN:Stmt:=top 26
noncomputable abbrev LO:Stmt:=inClass (top 27) 0
noncomputable abbrev LQ:Stmt:=top 29
noncomputable abbrev LR:Stmt:=top 30
noncomputable abbrev LS:Stmt:=top 31
noncomputable abbrev LU:Stmt:=top 34
noncomputable abbrev LV:Stmt:=top 35
noncomputable abbrev LW:Stmt:=top 36
noncomputable abbrev LX:Stmt:=top 37
noncomputable abbrev LY:Stmt:=top 38
noncomputable abbrev LZ:Stmt:=top 39
noncomputable abbrev L0:Stmt:=inClass (top 41) 0
noncomputable abbrev L1:Stmt:=inClass (top 41) 1
noncomputable abbrev L3:Stmt:=inClass (top 41) 2
noncomputable abbrev L4:Stmt:=inClass (top 41) 3
noncomputable abbrev L5:Stmt:=top 42
noncomputable abbrev L6:Stmt:=top 43
noncomputable abbrev L7:Stmt:=top 44
noncomputable abbrev L8:Stmt:=top 52
noncomputable abbrev L_:Stmt:=top 53
noncomputable abbrev Ma:Stmt:=top 54
noncomputable abbrev Mb:Stmt:=top 55
noncomputable abbrev Mc:Stmt:=top 56
noncomputable abbrev Me:Stmt:=top 57
noncomputable abbrev Mf:Stmt:=top 58
noncomputable abbrev Mg:Stmt:=inClass (top 59) 0
noncomputable abbrev Mh:Stmt:=inClass (top 59) 1
noncomputable abbrev Mi:Stmt:=inClass (top 59) 2
noncomputable abbrev Mj:Stmt:=inClass (top 59) 4
noncomputable abbrev Ml:Stmt:=inClass (top 59) 5
noncomputable abbrev Mm:Stmt:=inClass (top 59) 6
noncomputable abbrev Mn:Stmt:=inClass (top 59) 7
noncomputable abbrev Mp:Stmt:=inClass (top 59) 8
noncomputable abbrev Mq:Stmt:=inClass (top 59) 9
noncomputable abbrev Mr:Stmt:=inClass (top 59) 10
noncomputable abbrev Mt:Stmt:=top 61
noncomputable abbrev Mu:Stmt:=top 62
noncomputable abbrev Mv:Stmt:=top 63
noncomputable abbrev iT:Stmt:=top 64
noncomputable abbrev Mw:Stmt:=top 65
noncomputable abbrev Mx:Stmt:=top 66
noncomputable abbrev My:Stmt:=inClass (top 67) 0
noncomputable abbrev Mz:Stmt:=top 69
noncomputable abbrev MA:Stmt:=top 70
noncomputable abbrev MB:Stmt:=top 71
noncomputable abbrev MC:Stmt:=top 72
noncomputable abbrev MD:Stmt:=top 73
noncomputable abbrev ME:Stmt:=top 74
noncomputable abbrev MF:Stmt:=top 75
noncomputable abbrev MG:Stmt:=top 76
noncomputable abbrev MH:Stmt:=top 77
noncomputable abbrev MI:Stmt:=top 78
noncomputable abbrev MJ:Stmt:=top 79
noncomputable abbrev MK:Stmt:=top 80
noncomputable abbrev ML:Stmt:=top 81
noncomputable abbrev MM:Stmt:=top 82
noncomputable abbrev MN:Stmt:=top 83
noncomputable abbrev MO:Stmt:=top 84
noncomputable abbrev MP:Stmt:=top 85
noncomputable abbrev MQ:Stmt:=top 86
noncomputable abbrev MR:Stmt:=top 87
noncomputable abbrev MS:Stmt:=top 88
noncomputable abbrev MT:Stmt:=top 89
noncomputable abbrev MU:Stmt:=top 90
noncomputable abbrev MV:Stmt:=top 91
noncomputable abbrev MW:Stmt:=top 92
noncomputable abbrev MX:Stmt:=top 93
noncomputable abbrev nK:Stmt:=top 94
theorem aiL:bL ["self", "kind", "first", "many", "marks", "at", "asker", %[|42], %[|30], "early"] ["self", "kind", "first", "many", "marks", "at", "asker", %[|42], %[|30], "early"] (aZ LG):=bQ
theorem aiM:bL [%[|26], "least", "greatest", "words"] [%[|26], "least", "greatest", "words"] (aZ LH):=bQ
theorem Fc:bL [%[|30], "ahead", %[|26]] [%[|30]] (aZ LI):=bQ
theorem aiN:bL ["first", "many", "at", "asker", %[|42], %[|30]] ["first", "many", "at", "asker", %[|42], %[|30]] (aZ LJ):=bQ
theorem aiO:bL [%[|30]] [%[|30]] (aZ LK):=bQ
theorem YL:bL ["first", "many", "at", "asker", %[|42], %[|30], "others"] ["first", "many", "at", "asker", %[|42], %[|30]] (aZ nI):=bQ
theorem MY:bL ["first", "marks", "at", "asker", %[|42], %[|30], "early", "others", "mark"] ["first", "marks", "at", "asker", %[|42], %[|30], "early"] (aZ nJ):=bQ
theorem aiP:bL ["one", "other"] ["one", "other"] (aZ LL):=bQ
theorem aiQ:bL [%[|32], "ask"] [%[|32], "ask"] (aZ LM):=bQ
theorem aiR:bL [%[|32], %[|26], "ask", "e"] [%[|32], %[|26], "ask"] (aZ LN):=bQ
theorem aiS:bL ["self", %[|32], %[|26], "ask"] ["self", %[|32], %[|26], "ask"] (aZ LO):=bQ
theorem aiT:bL [%[|32], "ring", "place", "beat"] [%[|32], "ring", "place", "beat"] (aZ LQ):=bQ
theorem v_:bL [%[|32], "ring", "beat", "cells", "rows", "other", "place", %[|72]] [%[|32], "ring", "beat", "cells"] (aZ LR):=bQ
theorem YM:bL [%[|32], "ring", "beat", "cells", "rows"] [%[|32], "ring", "beat", "cells"] (aZ LS):=bQ
theorem aiU:bL ["dues"] ["dues"] (aZ LU):=bQ
theorem aiV:bL ["dues"] ["dues"] (aZ LV):=bQ
theorem aiW:bL ["due", "other"] ["due", "other"] (aZ LW):=bQ
theorem MZ:bL ["dues", "kept", "due"] ["dues"] (aZ LX):=bQ
theorem aiX:bL ["dues", %[|72]] ["dues", %[|72]] (aZ LY):=bQ
theorem YN:bL ["dues", "kept", %[|72], "left"] ["dues", "kept", %[|72]] (aZ LZ):=bQ
theorem aiY:bL ["self", %[|32], "dues"] ["self", %[|32], "dues"] (aZ L0):=bQ
theorem M0:bL ["self", %[|72], "ring", "beat", "due", %[|42]] ["self", %[|72], "ring", "beat"] (aZ L1):=bQ
theorem Ba:bL ["self", %[|72], "ring", "beat", "state", "due", "stop", "found"] ["self", %[|72], "ring", "beat"] (aZ L3):=bQ
theorem Bb:bL ["self", %[|72], "ring", "beat", "late", "leaves", "due", "stop"] ["self", %[|72], "ring", "beat"] (aZ L4):=bQ
theorem aiZ:bL [%[|32], "ring", "beat", "dues"] [%[|32], "ring", "beat", "dues"] (aZ L5):=bQ
theorem Bc:bL [%[|32], "ring", "beat", "dues", "some", "due", "others"] [%[|32], "ring", "beat", "dues"] (aZ L6):=bQ
theorem Fd:bL [%[|32], "ring", "beat", "dues", "order", "some", "leaves"] [%[|32], "ring", "beat", "dues"] (aZ L7):=bQ
theorem Fe:bL ["zones", "rings", "cells", "in_all"] ["zones"] (aZ L8):=bQ
theorem M3:bL ["zones", "lap", "skew", "rings", "cells"] ["zones", "lap", "skew"] (aZ L_):=bQ
theorem YO:bL [%[|73], "rings", "far"] [%[|73], "rings"] (aZ Ma):=bQ
theorem M4:bL [%[|73], "far", "part"] [%[|73]] (aZ Mb):=bQ
theorem Ff:bL ["zones", "counts", "rings", "cells"] ["zones"] (aZ Mc):=bQ
theorem Bd:bL [%[|15], %[|44], "cells", "ring", "count", "place"] [%[|15], %[|44]] (aZ Me):=bQ
theorem Fg:bL [%[|13], "numbers", %[|26], "cell"] [%[|13]] (aZ Mf):=bQ
theorem ai0:bL ["self", "zones", "lap", "skew", %[|73]] ["self", "zones", "lap", "skew", %[|73]] (aZ Mg):=bQ
theorem ai1:bL ["self"] ["self"] (aZ Mh):=bQ
theorem ai2:bL ["self"] ["self"] (aZ Mi):=bQ
theorem ai3:bL ["self", "ring"] ["self", "ring"] (aZ Mj):=bQ
theorem ai4:bL ["self"] ["self"] (aZ Ml):=bQ
theorem ai5:bL ["self", "ring", "place"] ["self", "ring", "place"] (aZ Mm):=bQ
theorem ai6:bL ["self", "ring", "other"] ["self", "ring", "other"] (aZ Mn):=bQ
theorem ai7:bL ["self", "ring", "place"] ["self", "ring", "place"] (aZ Mp):=bQ
theorem ai8:bL ["self", %[|26]] ["self", %[|26]] (aZ Mq):=bQ
theorem ai9:bL ["self", "ring", "place"] ["self", "ring", "place"] (aZ Mr):=bQ
theorem ai_:bL [%[|44], %[|15]] [%[|44], %[|15]] (aZ Mt):=bQ
theorem Fi:bL [%[|32], "bad", "found", "ring", "place"] [%[|32], "bad"] (aZ Mu):=bQ
theorem aja:bL [%[|13], %[|27]] [%[|13], %[|27]] (aZ Mv):=bQ
theorem ajb:bL ["ring", "rings"] ["ring", "rings"] (aZ iT):=bQ
theorem Fj:bL [%[|15], %[|44], "ring", "used", "other", "count", "place"] [%[|15], %[|44], "ring", "used"] (aZ Mw):=bQ
theorem yy:bL [%[|15], %[|44], %[|13], %[|27], "moves", "used", %[|26], "cell", "other"] [%[|15], %[|44], %[|13], %[|27]] (aZ Mx):=bQ
theorem Be:bL ["self", "zones", "lap", "skew", %[|73], %[|44], "bad", %[|27], %[|26], "cell", "other"] ["self", "zones", "lap", "skew", %[|73], %[|44], "bad"] (aZ My):=bQ
theorem ajc:bL [%[|17], %[|29]] [%[|17], %[|29]] (aZ Mz):=bQ
theorem Bf:bL [%[|22], %[|69], %[|19], %[|35], %[|29]] [%[|22], %[|69]] (aZ MA):=bQ
theorem wc:bL [%[|57], %[|93], "_law_step", "_law_far", %[|29], %[|117]] [%[|57], %[|93]] (aZ MB):=bQ
theorem nM:bL [%[|22], %[|110], %[|57], "_law_zones", %[|29], "_law_whole_here", "_law_counts", %[|69], %[|28], "_law_lap"] [%[|22], %[|110]] (aZ MC):=bQ
theorem yz:bL [%[|11], %[|22], %[|57], "_law_spares", "_law_bad", %[|29], %[|20]] [%[|11], %[|22]] (aZ MD):=bQ
theorem rT:bL [%[|11], %[|20], %[|21], %[|28], "_law_rows", %[|43], "_law_place", "_law_part", "_law_free", %[|23]] [%[|11], %[|20], %[|21], %[|28]] (aZ ME):=bQ
theorem Fl:bL [%[|11], %[|20], %[|21], %[|28], "_law_row"] [%[|11], %[|20], %[|21], %[|28]] (aZ MF):=bQ
theorem ug:bL [%[|14], %[|11], %[|12], %[|22], "_law_places", "_law_at", %[|10], %[|29], %[|94]] [%[|14], %[|11], %[|12], %[|22]] (aZ MG):=bQ
theorem Bg:bL [%[|11], %[|12], %[|10], %[|18], %[|19], %[|29]] [%[|11], %[|12], %[|10]] (aZ MH):=bQ
theorem gU:bL [%[|17], %[|14], %[|11], %[|12], %[|45], %[|22], "_law_chains", %[|69], "_law_far", %[|10], %[|35], "_law_there", %[|29], %[|57], %[|94], "_law_size", %[|28], "_law_latest", "_law_behind"] [%[|17], %[|14], %[|11], %[|12], %[|45]] (aZ MI):=bQ
theorem YQ:bL [%[|18], %[|22], "_law_marks"] [%[|18], %[|22]] (aZ MJ):=bQ
theorem ajd:bL [%[|18], %[|43]] [%[|18], %[|43]] (aZ MK):=bQ
theorem aje:bL [%[|10]] [%[|10]] (aZ ML):=bQ
theorem ajf:bL [%[|19]] [%[|19]] (aZ MM):=bQ
theorem ajg:bL [%[|10], %[|23]] [%[|10], %[|23]] (aZ MN):=bQ
theorem Bh:bL [%[|11], %[|20], %[|21], %[|10], %[|23], %[|35], %[|18]] [%[|11], %[|20], %[|21], %[|10], %[|23]] (aZ MO):=bQ
theorem ajh:bL [%[|19]] [%[|19]] (aZ MP):=bQ
theorem YR:bL [%[|19], %[|10], %[|29]] [%[|19], %[|10]] (aZ MQ):=bQ
theorem we:bL [%[|17], %[|45], %[|11], %[|14], %[|20], %[|21], %[|10], %[|70]] [%[|17], %[|45]] (aZ MR):=bQ
theorem YS:bL [%[|31], %[|91]] [%[|31]] (aZ MS):=bQ
theorem M5:bL [%[|10], %[|23], %[|92], %[|95], %[|111], %[|35]] [%[|10], %[|23], %[|92], %[|95]] (aZ MT):=bQ
theorem aji:bL [%[|11], %[|12], %[|18]] [%[|11], %[|12], %[|18]] (aZ MU):=bQ
theorem Bj:bL [%[|11], %[|20], %[|21], %[|10], %[|96], %[|35], %[|18]] [%[|11], %[|20], %[|21], %[|10], %[|96]] (aZ MV):=bQ
theorem yC:bL [%[|11], %[|20], %[|21], %[|71], %[|31], %[|95], %[|23], "_law_late", "_law_late_one", %[|12]] [%[|11], %[|20], %[|21], %[|71], %[|31]] (aZ MW):=bQ
theorem YT:bL [%[|19], %[|11], %[|20], %[|21], %[|10], %[|71]] [%[|19], %[|11], %[|20], %[|21], %[|10]] (aZ MX):=bQ
theorem kR:bL [%[|17], %[|11], %[|14], %[|20], %[|21], %[|10], %[|70], "_law_at", %[|29], %[|19], %[|71], "_law_alone", %[|111], "_law_others", "_law_told"] [%[|17]] (aZ nK):=bQ
set_option genInjectivity false
set_option genSizeOf false
structure lI where
 M7:Addr
 M8:FuncData
 M9:Addr
 M_:FuncData
 Ng:Addr
 Nh:FuncData
 Ni:Addr
 Nj:FuncData
 Nl:Addr
 Nm:FuncData
 Nn:Addr
 Np:FuncData
 ar2:Tok
 Nq:Addr
 Nr:FuncData
 ar3:Tok
 Nt:Addr
 Nu:FuncData
 Nv:Addr
 Nx:FuncData
 Ny:Addr
 Nz:FuncData
 NB:Addr
 NC:FuncData
 ND:Addr
 NF:FuncData
 NG:Addr
 NH:FuncData
 NI:Addr
 NJ:FuncData
 NK:Addr
 NL:FuncData
 NN:Addr
 NO:FuncData
 NP:Addr
 NQ:FuncData
 NR:Addr
 NS:FuncData
 NT:Addr
 NU:FuncData
 NV:Addr
 NW:FuncData
 NY:Addr
 NZ:FuncData
 N_:Addr
 Oa:FuncData
 Fo:Addr
 Fp:FuncData
 Fq:Addr
 Ft:FuncData
 Ob:Addr
 Oc:FuncData
 Od:Addr
 Oe:FuncData
 Of:Addr
 Og:FuncData
 Oh:Addr
 Oi:FuncData
 Oj:Addr
 Ol:FuncData
 Om:Addr
 Oo:FuncData
 Oq:Addr
 Ot:FuncData
 Ou:Addr
 Ov:FuncData
 Ow:Addr
 Ox:FuncData
 Oz:Addr
 OA:FuncData
 Fv:Addr
 OB:FuncData
 Bk:Addr
 OC:FuncData
 Bl:Addr
 OD:FuncData
 Bm:Addr
 OE:FuncData
 Bo:Addr
 OF:FuncData
 Bp:Addr
 OG:FuncData
 Bq:Addr
 OH:FuncData
 Br:Addr
 OI:FuncData
 Bs:Addr
 OJ:FuncData
 Bt:Addr
 OL:FuncData
 OM:Addr
 ON:FuncData
 OO:Addr
 OP:FuncData
 OQ:Addr
 OR:FuncData
 Fw:Addr
 Bu:FuncData
 OS:Addr
 OT:FuncData
 OU:Addr
 OV:FuncData
 OW:Addr
 OX:FuncData
 OY:Addr
 OZ:FuncData
 O0:Addr
 O1:FuncData
 O2:Addr
 O3:FuncData
 O4:Addr
 O5:FuncData
 O6:Addr
 O7:FuncData
 O8:Addr
 O9:FuncData
 O_:Addr
 Pa:FuncData
 Pb:Addr
 Pc:FuncData
 Pd:Addr
 Pe:FuncData
 Pf:Addr
 Pg:FuncData
 Ph:Addr
 Pj:FuncData
 Pk:Addr
 Pn:FuncData
 Po:Addr
 Pp:FuncData
 Pq:Addr
 Pr:FuncData
 Pu:Addr
 Pw:FuncData
 Px:Addr
 Py:FuncData
 Pz:Addr
 PB:FuncData
 PD:Addr
 PF:FuncData
 PJ:Addr
 PL:FuncData
 PM:Addr
 PN:FuncData
 Fx:Addr
 Fy:FuncData
 PR:Addr
 PU:FuncData
 PV:Addr
 PX:FuncData
 PY:Addr
 PZ:FuncData
 P0:Addr
 P1:FuncData
 P4:Addr
 P5:FuncData
 bX:Addr
 cG:Addr
 c_:Addr
 bK:Addr
 bG:Addr
 bE:Addr
 bf:Addr
 Fz:Tok
 FA:Tok
 FD:Tok
 FE:Tok
 FF:Tok
 FG:Tok
 FH:Tok
 FI:Tok
 FJ:Tok
 FL:Tok
 FN:Tok
 FO:Tok
 FP:Tok
 FQ:Tok
noncomputable abbrev aU(K:W.Frag)(n:Str)(st:Stmt)(f:Addr)(fd:FuncData):Prop:=cX K n n st f fd
structure Tx(K:W.Frag)(mg:Str->Option Value)(A:lI):Prop where
 ajj:cX K %[|25] "Ask.__init__" LG A.M7 A.M8
 YU:Binds K A.M8 ["self", "kind", "first", "many", "marks", "at", "asker", %[|42], %[|30], "early"] []
 uh:aU K %[|48] LH A.M9 A.M_
 wg:Binds K A.M_ [%[|26], "least", "greatest", "words"] []
 wj:mg %[|48] = ⇑A.M9
 YV:aU K %[|58] LI A.Ng A.Nh
 ajk:Binds K A.Nh [%[|30]] []
 ajl:mg %[|58] = ⇑A.Ng
 P6:aU K %[|59] LJ A.Ni A.Nj
 YW:Binds K A.Nj ["first", "many", "at", "asker", %[|42], %[|30]] []
 YX:mg %[|59] = ⇑A.Ni
 P7:aU K %[|74] LK A.Nl A.Nm
 YY:Binds K A.Nm [%[|30]] []
 YZ:mg %[|74] = ⇑A.Nl
 Y0:AE K %[|89] %[|89] nI A.Nn A.Np
 ajm:Binds K A.Np ["first", "many", "at", "asker", %[|42], %[|30]] []
 ajn:mg %[|89] = ⇑A.Nn
 Y3:AE K %[|90] %[|90] nJ A.Nq A.Nr
 ajo:Binds K A.Nr ["first", "marks", "at", "asker", %[|42], %[|30], "early"] []
 ajp:mg %[|90] = ⇑A.Nq
 Y4:aU K "clash" LL A.Nt A.Nu
 ajq:Binds K A.Nu ["one", "other"] []
 ajr:mg "clash" = ⇑A.Nt
 Y5:aU K "stretch" LM A.Nv A.Nx
 ajs:Binds K A.Nx [%[|32], "ask"] []
 ajt:mg "stretch" = ⇑A.Nv
 Y6:aU K %[|33] LN A.Ny A.Nz
 aju:Binds K A.Nz [%[|32], %[|26], "ask"] []
 ajv:mg %[|33] = ⇑A.Ny
 ajw:cX K %[|25] "Due.__init__" LO A.NB A.NC
 Y7:Binds K A.NC ["self", %[|32], %[|26], "ask"] []
 Y8:aU K %[|97] LQ A.ND A.NF
 ajx:Binds K A.NF [%[|32], "ring", "place", "beat"] []
 ajy:mg %[|97] = ⇑A.ND
 Y9:aU K "way" LR A.NG A.NH
 ajz:Binds K A.NH [%[|32], "ring", "beat", "cells"] []
 ajA:mg "way" = ⇑A.NG
 FT:aU K "way_end" LS A.NI A.NJ
 P8:Binds K A.NJ [%[|32], "ring", "beat", "cells"] []
 P9:mg "way_end" = ⇑A.NI
 Y_:aU K "are_few" LU A.NK A.NL
 ajB:Binds K A.NL ["dues"] []
 ajC:mg "are_few" = ⇑A.NK
 Za:aU K %[|112] LV A.NN A.NO
 ajD:Binds K A.NO ["dues"] []
 ajE:mg %[|112] = ⇑A.NN
 Zb:aU K %[|60] LW A.NP A.NQ
 ajF:Binds K A.NQ ["due", "other"] []
 ajG:mg %[|60] = ⇑A.NP
 Zc:aU K %[|61] LX A.NR A.NS
 ajH:Binds K A.NS ["dues"] []
 ajI:mg %[|61] = ⇑A.NR
 P_:aU K %[|75] LY A.NT A.NU
 Zd:Binds K A.NU ["dues", %[|72]] []
 Ze:mg %[|75] = ⇑A.NT
 Qa:aU K %[|76] LZ A.NV A.NW
 Zf:Binds K A.NW ["dues", "kept", %[|72]] []
 Zg:mg %[|76] = ⇑A.NV
 ajJ:cX K %[|25] "Search.__init__" L0 A.NY A.NZ
 Zh:Binds K A.NZ ["self", %[|32], "dues"] []
 ajK:cX K %[|113] "Search.late_next" L1 A.N_ A.Oa
 Zi:Binds K A.Oa ["self", %[|72], "ring", "beat"] []
 Zj:Meth K A.c_ %[|113] A.N_
 ajL:cX K %[|98] "Search.order_from" L3 A.Fo A.Fp
 Zk:Binds K A.Fp ["self", %[|72], "ring", "beat"] []
 Zl:Meth K A.c_ %[|98] A.Fo
 ajM:cX K %[|77] "Search.leaves_from" L4 A.Fq A.Ft
 Zm:Binds K A.Ft ["self", %[|72], "ring", "beat"] []
 Zo:Meth K A.c_ %[|77] A.Fq
 Qc:aU K %[|49] L5 A.Ob A.Oc
 Zp:Binds K A.Oc [%[|32], "ring", "beat", "dues"] []
 Zq:mg %[|49] = ⇑A.Ob
 Zr:aU K %[|36] L6 A.Od A.Oe
 ajN:Binds K A.Oe [%[|32], "ring", "beat", "dues"] []
 ajO:mg %[|36] = ⇑A.Od
 FU:aU K "in_time" L7 A.Of A.Og
 Qd:Binds K A.Og [%[|32], "ring", "beat", "dues"] []
 Qe:mg "in_time" = ⇑A.Of
 Zu:aU K %[|78] L8 A.Oh A.Oi
 ajP:Binds K A.Oi ["zones"] []
 ajQ:mg %[|78] = ⇑A.Oh
 Zv:aU K %[|50] L_ A.Oj A.Ol
 ajR:Binds K A.Ol ["zones", "lap", "skew"] []
 ajS:mg %[|50] = ⇑A.Oj
 Zw:aU K %[|79] Ma A.Om A.Oo
 ajT:Binds K A.Oo [%[|73], "rings"] []
 ajU:mg %[|79] = ⇑A.Om
 Zx:aU K %[|37] Mb A.Oq A.Ot
 ajV:Binds K A.Ot [%[|73]] []
 ajW:mg %[|37] = ⇑A.Oq
 Zy:aU K %[|51] Mc A.Ou A.Ov
 ajX:Binds K A.Ov ["zones"] []
 ajY:mg %[|51] = ⇑A.Ou
 Qf:aU K %[|38] Me A.Ow A.Ox
 Zz:Binds K A.Ox [%[|15], %[|44]] []
 ZA:mg %[|38] = ⇑A.Ow
 Qg:aU K %[|39] Mf A.Oz A.OA
 ZC:Binds K A.OA [%[|13]] []
 ZD:mg %[|39] = ⇑A.Oz
 ajZ:cX K %[|25] "Plate.__init__" Mg A.Fv A.OB
 ZE:Binds K A.OB ["self", "zones", "lap", "skew", %[|73]] []
 aj0:cX K "rings" "Plate.rings" Mh A.Bk A.OC
 ar4:Binds K A.OC ["self"] []
 aj1:Meth K A.bK "rings" A.Bk
 aj2:Meth K A.bG "rings" A.Bk
 aj3:cX K "total" "Plate.total" Mi A.Bl A.OD
 FW:Binds K A.OD ["self"] []
 aj4:Meth K A.bK "total" A.Bl
 aj5:Meth K A.bG "total" A.Bl
 aj6:cX K %[|80] "Plate.beats_of" Mj A.Bm A.OE
 ZF:Binds K A.OE ["self", "ring"] []
 aj7:Meth K A.bK %[|80] A.Bm
 aj8:Meth K A.bG %[|80] A.Bm
 aj9:cX K %[|54] "Plate.lap_beats" Ml A.Bo A.OF
 aj_:Binds K A.OF ["self"] []
 aka:Meth K A.bK %[|54] A.Bo
 akb:Meth K A.bG %[|54] A.Bo
 akc:cX K "begins" "Plate.begins" Mm A.Bp A.OG
 akd:Binds K A.OG ["self", "ring", "place"] []
 ake:Meth K A.bK "begins" A.Bp
 akf:Meth K A.bG "begins" A.Bp
 akg:cX K %[|81] "Plate.swing_of" Mn A.Bq A.OH
 akh:Binds K A.OH ["self", "ring", "other"] []
 aki:Meth K A.bK %[|81] A.Bq
 akj:Meth K A.bG %[|81] A.Bq
 akk:cX K %[|82] "Plate.has_cell" Mp A.Br A.OI
 ZG:Binds K A.OI ["self", "ring", "place"] []
 akl:Meth K A.bK %[|82] A.Br
 akm:Meth K A.bG %[|82] A.Br
 akn:cX K %[|109] "Plate.cell_at" Mq A.Bs A.OJ
 ZI:Binds K A.OJ ["self", %[|26]] []
 ako:Meth K A.bK %[|109] A.Bs
 akp:Meth K A.bG %[|109] A.Bs
 akq:cX K %[|55] "Plate.number_of" Mr A.Bt A.OL
 ZJ:Binds K A.OL ["self", "ring", "place"] []
 akr:Meth K A.bK %[|55] A.Bt
 aks:Meth K A.bG %[|55] A.Bt
 ZK:aU K %[|62] Mt A.OM A.ON
 akt:Binds K A.ON [%[|44], %[|15]] []
 aku:mg %[|62] = ⇑A.OM
 ZM:aU K %[|83] Mu A.OO A.OP
 akv:Binds K A.OP [%[|32], "bad"] []
 akw:mg %[|83] = ⇑A.OO
 ZN:aU K %[|84] Mv A.OQ A.OR
 akx:Binds K A.OR [%[|13], %[|27]] []
 aky:mg %[|84] = ⇑A.OQ
 ZO:aU K %[|16] iT A.Fw A.Bu
 akz:Binds K A.Bu ["ring", "rings"] []
 akA:mg %[|16] = ⇑A.Fw
 ZQ:aU K %[|46] Mw A.OS A.OT
 akB:Binds K A.OT [%[|15], %[|44], "ring", "used"] []
 akC:mg %[|46] = ⇑A.OS
 ZR:aU K %[|52] Mx A.OU A.OV
 akD:Binds K A.OV [%[|15], %[|44], %[|13], %[|27]] []
 akE:mg %[|52] = ⇑A.OU
 akG:cX K %[|25] "Mended.__init__" My A.OW A.OX
 akH:Binds K A.OX ["self", "zones", "lap", "skew", %[|73], %[|44], "bad"] []
 o7:aU K %[|63] Mz A.OY A.OZ
 qt:Binds K A.OZ [%[|17], %[|29]] []
 qu:mg %[|63] = ⇑A.OY
 FY:aU K %[|85] MA A.O0 A.O1
 Qh:Binds K A.O1 [%[|22], %[|69]] []
 Qi:mg %[|85] = ⇑A.O0
 ZS:aU K %[|99] MB A.O2 A.O3
 akI:Binds K A.O3 [%[|57], %[|93]] []
 akJ:mg %[|99] = ⇑A.O2
 ZT:aU K %[|114] MC A.O4 A.O5
 akK:Binds K A.O5 [%[|22], %[|110]] []
 akL:mg %[|114] = ⇑A.O4
 ZU:aU K %[|100] MD A.O6 A.O7
 akM:Binds K A.O7 [%[|11], %[|22]] []
 akN:mg %[|100] = ⇑A.O6
 ZV:aU K %[|115] ME A.O8 A.O9
 akO:Binds K A.O9 [%[|11], %[|20], %[|21], %[|28]] []
 akP:mg %[|115] = ⇑A.O8
 yD:aU K %[|40] MF A.O_ A.Pa
 Bv:Binds K A.Pa [%[|11], %[|20], %[|21], %[|28]] []
 Bw:mg %[|40] = ⇑A.O_
 ZW:aU K %[|86] MG A.Pb A.Pc
 akQ:Binds K A.Pc [%[|14], %[|11], %[|12], %[|22]] []
 akR:mg %[|86] = ⇑A.Pb
 ZX:aU K %[|101] MH A.Pd A.Pe
 akS:Binds K A.Pe [%[|11], %[|12], %[|10]] []
 akT:mg %[|101] = ⇑A.Pd
 ZY:aU K %[|102] MI A.Pf A.Pg
 akU:Binds K A.Pg [%[|17], %[|14], %[|11], %[|12], %[|45]] []
 akV:mg %[|102] = ⇑A.Pf
 Qj:aU K "_law_ask" MJ A.Ph A.Pj
 ZZ:Binds K A.Pj [%[|18], %[|22]] []
 Z0:mg "_law_ask" = ⇑A.Ph
 Z1:aU K %[|103] MK A.Pk A.Pn
 akW:Binds K A.Pn [%[|18], %[|43]] []
 akX:mg %[|103] = ⇑A.Pk
 Qk:aU K %[|47] ML A.Po A.Pp
 Z2:Binds K A.Pp [%[|10]] []
 Z3:mg %[|47] = ⇑A.Po
 Ql:aU K %[|104] MM A.Pq A.Pr
 Z4:Binds K A.Pr [%[|19]] []
 Z5:mg %[|104] = ⇑A.Pq
 Qm:aU K %[|64] MN A.Pu A.Pw
 Z6:Binds K A.Pw [%[|10], %[|23]] []
 Z7:mg %[|64] = ⇑A.Pu
 Z8:aU K %[|116] MO A.Px A.Py
 akY:Binds K A.Py [%[|11], %[|20], %[|21], %[|10], %[|23]] []
 akZ:mg %[|116] = ⇑A.Px
 FZ:aU K %[|65] MP A.Pz A.PB
 Qn:Binds K A.PB [%[|19]] []
 Qo:mg %[|65] = ⇑A.Pz
 Z9:aU K %[|53] MQ A.PD A.PF
 ak0:Binds K A.PF [%[|19], %[|10]] []
 ak1:mg %[|53] = ⇑A.PD
 Z_:aU K %[|105] MR A.PJ A.PL
 ak2:Binds K A.PL [%[|17], %[|45]] []
 ak3:mg %[|105] = ⇑A.PJ
 aaa:aU K %[|41] MS A.PM A.PN
 ak4:Binds K A.PN [%[|31]] []
 ak5:mg %[|41] = ⇑A.PM
 Qp:aU K %[|66] MT A.Fx A.Fy
 aab:Binds K A.Fy [%[|10], %[|23], %[|92], %[|95]] []
 aac:mg %[|66] = ⇑A.Fx
 aad:aU K %[|106] MU A.PR A.PU
 ak6:Binds K A.PU [%[|11], %[|12], %[|18]] []
 ak7:mg %[|106] = ⇑A.PR
 aae:aU K %[|67] MV A.PV A.PX
 ak8:Binds K A.PX [%[|11], %[|20], %[|21], %[|10], %[|96]] []
 ak9:mg %[|67] = ⇑A.PV
 aaf:aU K %[|34] MW A.PY A.PZ
 ak_:Binds K A.PZ [%[|11], %[|20], %[|21], %[|71], %[|31]] []
 ala:mg %[|34] = ⇑A.PY
 F_:aU K %[|68] MX A.P0 A.P1
 Qq:Binds K A.P1 [%[|19], %[|11], %[|20], %[|21], %[|10]] []
 Qs:mg %[|68] = ⇑A.P0
 alb:aU K "law" nK A.P4 A.P5
 ar5:Binds K A.P5 [%[|17]] []
 ar6:mg "law" = ⇑A.P4
 alc:VX K A.bK %[|25] A.Fv
 isa:W.findIn K (.ref A.bG) "__class__" = some (some (.builtin "object.__class__"))
 isb:W.specialIn K (.builtin "object.__class__") "__get__" = some (some (.builtin "getset_descriptor.__get__"))
 isc:W.takesIn K (.builtin "object.__class__")=some true
 isd:W.mroIn K A.bG (.type "object")=some true
 ise:W.kitOne K (.ref A.bG) (.ref A.bK)=some true
 ar7:dO K A.bX
 aag:Mk K A.bX A.M7
 aah:mg "Ask" = ⇑A.bX
 aai:cD K A.bX "kind"
 aaj:cD K A.bX "first"
 aak:cD K A.bX "many"
 aal:cD K A.bX "marks"
 aam:cD K A.bX "at"
 aan:cD K A.bX "asker"
 aao:cD K A.bX %[|42]
 aap:cD K A.bX %[|30]
 aaq:cD K A.bX "early"
 Qt:dO K A.cG
 aar:Mk K A.cG A.NB
 aas:mg "Due" = ⇑A.cG
 Ga:cD K A.cG %[|26]
 aat:cD K A.cG "ask"
 Qu:cD K A.cG "cells"
 yE:dO K A.c_
 aau:Mk K A.c_ A.NY
 aav:mg "Search" = ⇑A.c_
 aaw:cD K A.c_ %[|32]
 aax:cD K A.c_ "dues"
 aay:cD K A.c_ "kept"
 aaz:cD K A.c_ "failed"
 qw:dO K A.bK
 ald:Mk K A.bK A.Fv
 aaA:mg "Plate" = ⇑A.bK
 Qv:cD K A.bK %[|15]
 Qw:cD K A.bK "lap"
 Qx:cD K A.bK "skew"
 Qy:cD K A.bK %[|73]
 Qz:cD K A.bK %[|13]
 QA:cD K A.bK %[|24]
 qx:dO K A.bG
 ale:Mk K A.bG A.OW
 alf:mg "Mended" = ⇑A.bG
 QB:cD K A.bG %[|15]
 QC:cD K A.bG "lap"
 QD:cD K A.bG "skew"
 QE:cD K A.bG %[|73]
 QF:cD K A.bG %[|13]
 QG:cD K A.bG %[|24]
 QH:cD K A.bG "moves"
 alg:mg "MOST_CELLS" = some (.int 16 A.Fz)
 alh:mg "GREATEST_FIRST" = some (.int 1000000 A.FA)
 ali:mg "GREATEST_MARK" = some (.int 1000000000 A.FD)
 alj:mg "GREATEST_AT" = some (.int 1000000000000 A.FE)
 alk:mg "GREATEST_ASKER" = some (.int 20 A.FF)
 alm:mg %[|107] = some (.int 10000000000000 A.FG)
 aln:mg %[|108] = some (.int 99 A.FH)
 alo:mg "MOST_DUES" = some (.int 7 A.FI)
 alp:mg "MOST_ZONES" = some (.int 5 A.FJ)
 alq:mg %[|87] = some (.int 40 A.FL)
 alr:mg %[|88] = some (.int 60 A.FN)
 als:mg "LEAST_RINGS" = some (.int 2 A.FO)
 alu:mg "MOST_RINGS" = some (.int 120 A.FP)
 aaB:mg "MOST_BEATS" = some (.int 1000000000 A.FQ)
 Bx:mg "abs" = none
 QI:mg "all" = none
 QJ:mg "bool" = none
 QK:mg "dict" = none
 By:mg "enumerate" = none
 yF:mg "int" = none
 rW:mg "isinstance" = none
 dN:mg "len" = none
 rX:mg "list" = none
 wk:mg "min" = none
 gK:mg "range" = none
 QL:mg "set" = none
 yG:mg "sorted" = none
 QM:mg "str" = none
 QN:mg "sum" = none
 o9:mg "tuple" = none
 alv:A.Bu.code = .ref A.bE
theorem Tx.alw{K:W.Frag}{mg:Str->Option Value}{A:lI}(T:Tx K mg A):CP K A.bK:=⟨T.qw,T.Qv,T.Qw,T.Qx,T.Qy,T.Qz,T.QA⟩
theorem Tx.alx{K:W.Frag}{mg:Str->Option Value}{A:lI}(T:Tx K mg A):CP K A.bG:=⟨T.qx,T.QB,T.QC,T.QD,T.QE,T.QF,T.QG⟩
theorem Tx.ar8{K:W.Frag}{mg:Str->Option Value}{A:lI}(T:Tx K mg A):∀C∈[A.bK,A.bG],dO K C/\Meth K C "rings" A.Bk:=by
 intro C hC;simp only[List.mem_cons,List.not_mem_nil,or_false] at hC;rcases hC with rfl | rfl
 ·exact⟨T.qw,T.aj1⟩
 ·exact⟨T.qx,T.aj2⟩
theorem Tx.Gb{K:W.Frag}{mg:Str->Option Value}{A:lI}(T:Tx K mg A):∀C∈[A.bK,A.bG],dO K C/\Meth K C "total" A.Bl:=by
 intro C hC;simp only[List.mem_cons,List.not_mem_nil,or_false] at hC;rcases hC with rfl | rfl
 ·exact⟨T.qw,T.aj4⟩
 ·exact⟨T.qx,T.aj5⟩
theorem Tx.aaC{K:W.Frag}{mg:Str->Option Value}{A:lI}(T:Tx K mg A):∀C∈[A.bK,A.bG],dO K C/\Meth K C %[|80] A.Bm:=by
 intro C hC;simp only[List.mem_cons,List.not_mem_nil,or_false] at hC;rcases hC with rfl | rfl
 ·exact⟨T.qw,T.aj7⟩
 ·exact⟨T.qx,T.aj8⟩
theorem Tx.aly{K:W.Frag}{mg:Str->Option Value}{A:lI}(T:Tx K mg A):∀C∈[A.bK,A.bG],dO K C/\Meth K C %[|54] A.Bo:=by
 intro C hC;simp only[List.mem_cons,List.not_mem_nil,or_false] at hC;rcases hC with rfl | rfl
 ·exact⟨T.qw,T.aka⟩
 ·exact⟨T.qx,T.akb⟩
theorem Tx.alz{K:W.Frag}{mg:Str->Option Value}{A:lI}(T:Tx K mg A):∀C∈[A.bK,A.bG],dO K C/\Meth K C "begins" A.Bp:=by
 intro C hC;simp only[List.mem_cons,List.not_mem_nil,or_false] at hC;rcases hC with rfl | rfl
 ·exact⟨T.qw,T.ake⟩
 ·exact⟨T.qx,T.akf⟩
theorem Tx.alA{K:W.Frag}{mg:Str->Option Value}{A:lI}(T:Tx K mg A):∀C∈[A.bK,A.bG],dO K C/\Meth K C %[|81] A.Bq:=by
 intro C hC;simp only[List.mem_cons,List.not_mem_nil,or_false] at hC;rcases hC with rfl | rfl
 ·exact⟨T.qw,T.aki⟩
 ·exact⟨T.qx,T.akj⟩
theorem Tx.aaD{K:W.Frag}{mg:Str->Option Value}{A:lI}(T:Tx K mg A):∀C∈[A.bK,A.bG],dO K C/\Meth K C %[|82] A.Br:=by
 intro C hC;simp only[List.mem_cons,List.not_mem_nil,or_false] at hC;rcases hC with rfl | rfl
 ·exact⟨T.qw,T.akl⟩
 ·exact⟨T.qx,T.akm⟩
theorem Tx.aaE{K:W.Frag}{mg:Str->Option Value}{A:lI}(T:Tx K mg A):∀C∈[A.bK,A.bG],dO K C/\Meth K C %[|109] A.Bs:=by
 intro C hC;simp only[List.mem_cons,List.not_mem_nil,or_false] at hC;rcases hC with rfl | rfl
 ·exact⟨T.qw,T.ako⟩
 ·exact⟨T.qx,T.akp⟩
theorem Tx.aaF{K:W.Frag}{mg:Str->Option Value}{A:lI}(T:Tx K mg A):∀C∈[A.bK,A.bG],dO K C/\Meth K C %[|55] A.Bt:=by
 intro C hC;simp only[List.mem_cons,List.not_mem_nil,or_false] at hC;rcases hC with rfl | rfl
 ·exact⟨T.qw,T.akr⟩
 ·exact⟨T.qx,T.aks⟩
local macro_rules | `(tactic| walk_at "rdt") => `(tactic| wp_walk using $(Lean.mkIdent `T))
section
variable{P:Program}{w:World}{K:W.Frag}{mg:Str->Option Value}{base:Heap}{A:lI}(T:Tx K mg A)(aG:bI mg base A.bE A.bf)
include T aG
theorem aaG:bq P w K mg base bF 1 A.M7 A.M8 ["self", "kind", "first", "many", "marks", "at", "asker", %[|42], %[|30], "early"] (afa A.bX):=by
 exists T.ajj.ok aiL
 ·obtain⟨p,dx,v1,v2,v3,v4,v5,v6,v7,v8,v9,rfl,_⟩:=h
  rfl
 ·obtain⟨p,dx,v1,v2,v3,v4,v5,v6,v7,v8,v9,rfl,hp,q⟩:=h;refine⟨_,%[bY (gT (aa 0) (aa 1) rfl),bY (gT (aa 0) (aa 2) rfl),bY (gT (aa 0) (aa 3) rfl),bY (gT (aa 0) (aa 4) rfl),bY (gT (aa 0) (aa 5) rfl),bY (gT (aa 0) (aa 6) rfl),bY (gT (aa 0) (aa 7) rfl),bY (gT (aa 0) (aa 8) rfl),gT (aa 0) (aa 9) rfl|1],?_⟩
  refine b7 λN1 k1=>?_;wp_walk using T,hp;refine k1 _ _ ?_;refine b7 λN2 k2=>?_;wp_walk using T,hp;refine k2 _ _ ?_;refine b7 λN3 k3=>?_;wp_walk using T,hp;refine k3 _ _ ?_;refine b7 λN4 k4=>?_;wp_walk using T,hp;refine k4 _ _ ?_;refine b7 λN5 k5=>?_;wp_walk using T,hp;refine k5 _ _ ?_;refine b7 λN6 k6=>?_;wp_walk using T,hp;refine k6 _ _ ?_;refine b7 λN7 k7=>?_;wp_walk using T,hp;refine k7 _ _ ?_;refine b7 λN8 k8=>?_;wp_walk using T,hp;refine k8 _ _ ?_;wp_walk using T,hp;exact q
theorem QO:bq P w K mg base bF 1 A.M9 A.M_ [%[|26], "least", "greatest", "words"] ae7:=by
 exists T.uh.ok aiM
 ·obtain⟨n,lo,hi,w,rfl,_⟩:=h
  rfl
 ·obtain⟨n,lo,hi,w,rfl,h1,h2,q⟩:=h;refine⟨_,(aL (j9 (PW.pt (rS (gB (eF iN (aa 0) (aa 1) (bB _)) (iL (eF lT (aa 0) (aa 2) (bB _)))))) iM bW)),?_⟩;symm;exact⟨∅,∅,q⟩
theorem aaH:bq P w K mg base bF 1 A.Nl A.Nm [%[|30]] (ae_ K):=by
 exists T.P7.ok aiO
 ·obtain⟨v,ns,rfl,_⟩:=h
  rfl
 ·obtain⟨v,ns,rfl,hv,q⟩:=h;refine⟨_,(aL (br (acU (cC IM (aa 0) i6 (bB _)) (dB au) (jP xG rfl T.o9 qH %[aa 0|0])))),?_⟩;symm;rcases hv with⟨rfl,rfl⟩ | ⟨a,rfl,hS | hS⟩
  ·exact ite_yes rfl λt nt=>q t _ (aj.put nt) aE
  ·exact ite_no (by simp) ⟨a,rfl,_,.inl ⟨hS,λl nl=>q l _ (aj.put nl) aE⟩⟩
  ·exact ite_no (by simp) ⟨a,rfl,_,.inr ⟨aK.of hS,q a _ (aj.refl _) hS⟩⟩
theorem alB:bq P w K mg base bF 1 A.Nt A.Nu ["one", "other"] (afd K A.bX):=by
 exists T.Y4.ok aiP
 ·obtain⟨p,r,x,y,m,b,dx,m',b',jT,rfl,_⟩:=h
  rfl
 ·obtain⟨p,r,x,y,m,b,dx,m',b',jT,rfl,hx,hy,q⟩:=h;refine⟨_,%[cF (PW.pt (uY (cC vg (b9 (aa 0) rfl) i8 (bB _)) (xu (cC vg (b9 (aa 1) rfl) i8 (bB _))))) (aL (br eK)) bW,br (sX (iE iN (b9 (aa 0) rfl) (aF fG (b9 (aa 1) rfl) (b9 (aa 1) rfl)) (bB _)) (oh (iE iN (b9 (aa 1) rfl) (aF fG (b9 (aa 0) rfl) (b9 (aa 0) rfl)) (bB _))))|1],?_⟩
  wp_walk using T,hx.o,hy.o;unfold Ea at q;by_cases k1:x.kind = "write" <;> by_cases k2:y.kind = "write" <;> by_cases k3:x.first<y.first+y.many <;> simpa[k1,k2,k3] using q
theorem alC:bq P w K mg base bF 1 A.NK A.NL ["dues"] (agZ K A.bX A.cG):=by
 exists T.Y_.ok aiU
 ·obtain⟨l,ps,ds,rfl,_⟩:=h
  rfl
 ·obtain⟨l,ps,ds,rfl,hd,q⟩:=h;refine⟨_,(aL (br (iE UW (cB eZ rfl T.dN dZ %[aa 0|0]) (kj (v:=.int 7) rfl T.alo ⟨_,rfl⟩) (bB _)))),?_⟩;symm;refine⟨_,.inl (aA.of hd.l),?_⟩;rw[aM,hd.n,show decide (((ds.length:Nat):Int)<=7)=decide (ds.length<=7) from by simp only[decide_eq_decide];lia]
  exact q
theorem aaI:bq P w K mg base bF 1 A.NT A.NU ["dues", %[|72]] (ag1 K A.bX A.cG):=by
 exists T.P_.ok aiX
 ·obtain⟨l,b,ps,ds,bg,H0,rfl,_⟩:=h
  rfl
 ·obtain⟨l,b,ps,ds,bg,H0,rfl,s0,hd,um,hb,q⟩:=h;refine⟨_,(aL (br (gq (N:=["due", %[|72]]) (nt:=1) (fv:=[1]) ‹cM.of› rfl (cS (aa 0)) (λC s H fp=>(bA (i:=0) (show List.Nodup (["due", %[|72]]:List Str) by decide +kernel) rfl OL_)) (λC s H fp=>(jS (cC (J6 (K:=K) rfl) (A9 (K:=K) rfl (aa 0) rfl) (aa 1) rfl))) (λC s H fp=>(aa 0))))),?_⟩
  walk_at "rdt";have rY:=hd.n;refine iF l (ps.map V.ref) (λD i ys aB H2=>∃(u:Option V) (cQ:_A),ys=cQ.map V.ref/\aB = [u,⇑b]/\H2 D=some (.lst ys)/\aj H H2/\H D=none/\jg K A.bX A.cG H0 cQ (bZ (ds.take i) bg)) (λQ q=>q) (aA.of (s0 _ _ hd.l)) ?_ ?_ ?_ ?_
  ·intro D hD;exact⟨none,[],rfl,rfl,aE,aj.put hD,hD,jg.nil⟩
  ·rintro D i ys aB H2 ⟨u,cQ,rfl,rfl,e1,e2,e3,e4⟩;refine⟨e1,gi ?_,aA.of (e2 _ _ (s0 _ _ hd.l))⟩;have:=gW (λd:Dr => !decide (d.n∈bg)) (ds.take i);rw[dw] at this;have e5:=e4.n;unfold bZ at e5;rw[aM];lia
  ·rintro D i x ys aB H2 N hN hx ⟨u,cQ,rfl,rfl,e1,e2,e3,e4⟩;obtain⟨dp,iG,rfl⟩:=c9 hx;have hi:i<ds.length:=by rw[← rY];exact cJ iG
   obtain⟨dx,ap,la,ts,m,b',cA,hD⟩:=hd.t i dp ds[i] iG (aV hi);have dY:=e2 _ _ (s0 _ _ hD.o);unfold m_ at dY;have et:=oW (p:=λd:Dr => !decide (d.n∈bg)) (aV hi);wp_walk using T,dY;refine⟨_,.inr (aK.of (e2 _ _ hb)),rfl,rq _,cK (λh1=>?_) λh1=>?_⟩
   ·rw[lB] at h1;refine⟨e1,hN _ _ _ ⟨_,cQ++[dp],by simp,rfl,aE,aj.put2 e2 e3,e3,?_⟩⟩
    unfold bZ at e4 ⊢;rw[et,if_pos ↑h1]
    exact e4.snoc ⟨_,_,_,_,_,_,_,hD⟩
   ·rw[lB] at h1;refine hN _ _ _ ⟨_,cQ,rfl,rfl,e1,e2,e3,?_⟩;unfold bZ at e4 ⊢;rw[et,if_neg ↑h1,jF]
    exact e4
  ·rintro D ys aB H2 ⟨u,cQ,rfl,rfl,e1,e2,e3,e4⟩;rw[aM,rY,cZ] at e4;exact q D cQ H2 e2 e3 e1 e4
theorem alD:bq P w K mg base bF 1 A.Oh A.Oi ["zones"] (aet K):=by
 exists T.Zu.ok Fe
 ·obtain⟨a,ts,z,rfl,_⟩:=h
  rfl
 ·obtain⟨a,ts,z,rfl,hz,ok,q⟩:=h;refine⟨_,%[j9 (PW.pt (rS (gB (eF iN (cB eZ rfl T.dN dZ %[aa 0|0]) ao (bB _)) (iL (eF lT (cB eZ rfl T.dN dZ %[aa 0|0]) (kj (v:=.int 5) rfl T.alp ⟨_,rfl⟩) (bB _)))))) iM bW,c8 c7 rfl (cS (aa 0)) (kr rfl (dX (bA (i:=1) Fe.nd rfl OL_) (dX (bA (i:=2) Fe.nd rfl OL_) kq)))
   %[j9 (PW.pt (rS (gB (eF iN (aa 1) ao (bB _)) (iL (eF lT (aa 1) (kj (v:=.int 40) rfl T.alq ⟨_,rfl⟩) (bB _)))))) iM bW,j9 (PW.pt (rS (gB (eF iN (aa 2) ao (bB _)) (iL (eF lT (aa 2) (kj (v:=.int 60) rfl T.alr ⟨_,rfl⟩) (bB _)))))) iM bW|1],a_ (i:=3) Fe.nd rfl OL_ (cB (aec rfl) rfl T.QN boot_sum %[gq (N:=["zone"]) (nt:=1) (fv:=[]) ‹cM.of› rfl (cS (aa 0)) (λC s H fp=>(bA (i:=0) (show List.Nodup (["zone"]:List Str) by decide +kernel) rfl OL_)) (λC s H fp=>jR) (λC s H fp=>(aI (j_ (K:=K) rfl) (aa 0) ao %[|2]))|0]),j9 (PW.pt (rS (gB (eF iN (aa 3) (kj (v:=.int 2) rfl T.als ⟨_,rfl⟩) (bB _)) (iL (eF lT (aa 3) (kj (v:=.int 120) rfl T.alu ⟨_,rfl⟩) (bB _)))))) iM bW|1],?_⟩
  symm;have hn:=hz.n;have l1:=ok.l1;have l5:=ok.l5;refine⟨_,.inl hz.sq,by simp only[List.length_map];lia,_,.inl hz.sq,by simp only[List.length_map];lia,?_⟩
  refine rl a (ts.map V.ref) (λi σ H'=>∃r c,σ = [⇑a,r,c,none]/\H' = H) (λQ q=>q) hz.sq ⟨none,none,rfl,rfl⟩ (by rintro i σ H' _ ⟨r,c,rfl,rfl⟩;exact hz.sq) ?_ ?_
  ·rintro i x σ H' N hN hx ⟨r,c,rfl,rfl⟩;obtain⟨t,p,rfl,hp,ht⟩:=hz.at hx;refine qa (aK.of ht) rfl ?_;symm;obtain⟨h1,h2,h3,h4⟩:=ok.r p (get_mem hp);exact⟨∅,∅,∅,∅,hN _ _ ⟨_,_,rfl,rfl⟩⟩
  ·rintro σ H' ⟨r,c,rfl,rfl⟩;symm;refine iF a (ts.map V.ref) (λD i ys aB H2=>ys=((z.take i).map λp=>V.int p.1)/\H2 D=some (.lst ys)/\aj H' H2/\H' D=none/\i<=z.length/\∃u,aB = [u]) (λQ q=>q) hz.sq ?_ ?_ ?_ ?_
   ·intro D hD;exact⟨rfl,aE,aj.put hD,hD,eW _,_,rfl⟩
   ·rintro D i ys aB H2 ⟨e,e1,e2,e3,e4,_⟩;refine⟨e1,?_,e2.seq hz.sq⟩;rw[e];refine gi ?_;simp only[List.length_map,List.length_take];lia
   ·rintro D i x ys aB H2 N hN hx ⟨e,e1,e2,e3,e4,u,rfl⟩;obtain⟨t,p,rfl,hp,ht⟩:=hz.at hx;have hl:=cJ hp;symm;refine⟨_,aK.of (e2 _ _ ht),_,rfl,e1,hN _ _ _ ⟨?_,aE,aj.put2 e2 e3,e3,hl,_,rfl⟩⟩;rw[take_succ_get hp,cj,e];rfl
   ·rintro D ys aB H2 ⟨e,e1,e2,e3,e4,u,rfl⟩;have e5:ys=(z.map λp=>p.1).map V.int:=by
     rw[e,lenZ hz.n,cZ,pI];rfl
    rw[e5] at e1;symm;have s2:=ok.s2;have s1:=ok.DU;exact⟨_,aA.of e1,∅,∅,q _ e2⟩
theorem alE:bq P w K mg base bF 1 A.Oj A.Ol ["zones", "lap", "skew"] (aeu K):=by
 exists T.Zv.ok M3
 ·obtain⟨a,ts,z,ak,cO,rfl,_⟩:=h
  rfl
 ·obtain⟨a,ts,z,ak,cO,rfl,hz,ok,h1,h2,h3,h4,hd,q⟩:=h;refine⟨_,%[j9 (PW.pt (rS (gB (eF iN (aa 1) ao (bB _)) (iL (eF lT (aa 1) (kj (v:=.int 1000000000) rfl T.aaB ⟨_,rfl⟩) (bB _)))))) iM bW,c8 c7 rfl (cS (aa 0)) (kr rfl (dX (bA (i:=3) M3.nd rfl OL_) (dX (bA (i:=4) M3.nd rfl OL_) kq)))
   (aL (j9 (eF vY (aF gc (aa 1) (aa 4)) ao (bB _)) iM bW)),j9 (PW.pt (rS (gB (eF iN (aa 2) ao (bB _)) (iL (eF vh (aa 2) (aa 1) (bB _)))))) iM bW|1],?_⟩
  symm;refine⟨∅,∅,?_⟩
  refine rl a (ts.map V.ref) (λi σ H'=>∃r c,σ = [⇑a,↥ak,↥cO,r,c]/\H' = H) (λQ q=>q) hz.sq ⟨none,none,rfl,rfl⟩ (by rintro i σ H' _ ⟨r,c,rfl,rfl⟩;exact hz.sq) ?_ ?_
  ·rintro i x σ H' N hN hx ⟨r,c,rfl,rfl⟩;obtain⟨t,p,rfl,hp,ht⟩:=hz.at hx;refine qa (aK.of ht) rfl ?_;obtain⟨g1,g2,g3,g4⟩:=ok.r p (get_mem hp);have g5:=hd p (get_mem hp);symm;exact⟨∅,g5,hN _ _ ⟨_,_,rfl,rfl⟩⟩
  ·rintro σ H' ⟨r,c,rfl,rfl⟩;symm;exact⟨∅,∅,q⟩
theorem alF:bq P w K mg base bF 1 A.Oq A.Ot [%[|73]] (aew K):=by
 exists T.Zx.ok M4
 ·obtain⟨a,sw,n,rfl,_⟩:=h
  rfl
 ·obtain⟨a,sw,n,rfl,hS,ok,hn,q⟩:=h;refine⟨_,(aL (c8 c7 rfl (u7 rfl T.gK %[ao,cB eZ rfl T.dN dZ %[aa 0|0]|0]) (bA (i:=1) M4.nd rfl OL_)
   (aL (c8 c7 rfl (u7 rfl T.gK %[ao,aF fG (aF nH (aa 1) ao) ao|0]) (bA (i:=2) M4.nd rfl OL_)
   (aL (cF (cC lT (aI b_ (aa 0) (aa 1) %[|2]) (aF fh (aI b_ (aa 0) (aa 2) %[|2]) (aI b_ (aa 0) (aF vX (aa 1) (aa 2)) %[|2])) (bB _)) iM bW)))))),?_⟩
  symm;have hl:=ok.len;have h2:=ok.two;refine xS 2 (sw.length:Int) (λi σ H'=>∃r c,σ = [⇑a,r,c]/\H' = H) (λQ q=>?_) ∅ ∅ ∅ ∅ ⟨none,none,rfl,rfl⟩ ?_ ?_
  ·symm;refine⟨_,.inl hS,?_⟩;simpa using q
  ·rintro i σ H' N hN hi ⟨r,c,rfl,rfl⟩;symm;refine xS 1 ((2+(i:Int)) / 2+1) (λj σ H2=>∃c,σ = [⇑a,some (.int (2+(i:Int))),c]/\H2=H') (λQ q=>?_) ∅ ∅ ∅ ∅ ⟨_,rfl,rfl⟩ ?_ ?_
   ·symm;exact q
   ·rintro j σ H2 N2 iU hj ⟨c,rfl,rfl⟩;symm;have QS:j<=i:=by lia
    have qy:i+2<sw.length:=by lia
    clear hj hi h2 hl hn;have e1:((2:Int)+(i:Int)).toNat=(1+j)+(1+i - j):=by lia
    have e2:((1:Int)+(j:Int)).toNat=1+j:=by lia
    have e3:((2:Int)+(i:Int) - (1+(j:Int))).toNat=1+i - j:=by lia
    have g:=ok.no (1+j) (1+i - j) ∅ ∅ ∅
    refine⟨_,hS,_,g6 ∅ ∅,_,hS,_,g6 ∅ ∅,_,hS,_,g6 ∅ ∅,?_⟩
    symm;rw[e1,e2,e3];exact⟨∅,iU _ _ ⟨_,rfl,rfl⟩⟩
   ·rintro σ H2 ⟨c,rfl,rfl⟩;exact hN _ _ ⟨_,_,rfl,rfl⟩
  ·rintro σ H' ⟨r,c,rfl,rfl⟩;exact q
theorem alG:bq P w K mg base bF 1 A.Ou A.Ov ["zones"] (aex K):=by
 exists T.Zy.ok Ff
 ·obtain⟨a,ts,z,rfl,_⟩:=h
  rfl
 ·obtain⟨a,ts,z,rfl,hz,ok,q⟩:=h;refine⟨_,%[a_ (i:=1) Ff.nd rfl OL_ (fj au),c8 c7 rfl (cS (aa 0)) (kr rfl (dX (bA (i:=2) Ff.nd rfl OL_) (dX (bA (i:=3) Ff.nd rfl OL_) kq)))
   (aL (e_ (lY lP PySem.F.slot_list_extend PySem.F.type_list_extend Vs (aa 1) %[aF Vv (fj %[aa 3|0]) (aa 2)|0]))),br (aa 1)|1],?_⟩
  symm;refine λl hl=>?_;refine rl a (ts.map V.ref) (λi σ H'=>∃r c,σ = [⇑a,⇑l,r,c]/\aj H H'/\H' l=some (.lst ((counts (z.take i)).map V.int))) (λQ q=>q) (aj.put hl |>.seq hz.sq) ⟨none,none,rfl,aj.put hl,aE⟩ (by rintro i σ H' _ ⟨r,c,rfl,hs,_⟩;exact hs.seq hz.sq) ?_ ?_
  ·rintro i x σ H' N hN hx ⟨r,c,rfl,hs,h1⟩;obtain⟨t,p,rfl,hp,ht⟩:=hz.at hx;refine qa (aK.of (hs _ _ ht)) rfl ?_;obtain⟨g1,g2,g3,g4⟩:=ok.r p (get_mem hp);have g5:=VQ ok i;symm;refine⟨⟨_,aA.of h1⟩,λp1 kQ=>⟨∅,∅,∅,λp2 gP=>?_⟩⟩
   have s1:=(aj.put (o:=.lst [V.int p.2]) kQ).trans (aj.put (o:=.lst (List.replicate p.1.toNat [V.int p.2]).flatten) gP);refine⟨_,s1 _ _ h1,?_,hN _ _ ⟨_,_,rfl,aj.put2 (hs.trans s1) hl,?_⟩⟩
   ·simp only[VR,List.length_map,List.length_replicate];lia
   ·rw[aE,take_succ_get hp,VP,cj,VR];simp[counts]
  ·rintro σ H' ⟨r,c,rfl,hs,h1⟩;symm;rw[lenZ hz.n,cZ] at h1;exact q _ _ hs hl h1
theorem aaJ:bq P w K mg base bF 1 A.Ow A.Ox [%[|15], %[|44]] (aey K):=by
 exists T.Qf.ok Bd
 ·obtain⟨a,rc,s,rfl,_⟩:=h
  rfl
 ·obtain⟨a,rc,s,rfl,hS,hl,hc,gC,EG,q⟩:=h;refine⟨_,%[a_ (i:=2) Bd.nd rfl OL_ (fj au),c8 c7 rfl (JN rfl T.By %[aa 0|0]) (kr rfl (dX (bA (i:=3) Bd.nd rfl OL_) (dX (bA (i:=4) Bd.nd rfl OL_) kq)))
   (aL (c8 c7 rfl (lR rfl T.gK %[aF vX (aa 4) (aa 1)|0]) (bA (i:=5) Bd.nd rfl OL_)
   (aL (e_ (lY lP nX nY mQ (aa 2) %[dB %[aa 3,aa 5|0]|0]))))),br (aa 2)|1],?_⟩
  symm;refine λl eY=>?_;have vF:=aeo (s:=s) gC (λc hx=>hc c hx);refine re a (rc.map V.int) (λi σ H'=>∃r c pl ts,σ = [⇑a,↥s,⇑l,r,c,pl]/\aj H H'/\(∀t∈ts,H t=none)/\Zn H' l ts (fZ s 0 (rc.take i))) (λQ q=>?_) (aj.put eY |>.seq hS)
   ⟨none,none,none,[],rfl,aj.put eY,(by intro t ht;cases ht),aE,rfl,by intro i t p h;simp at h⟩ (by rintro i σ H' _ ⟨r,c,pl,ts,rfl,hs,_⟩;exact hs.seq hS) ?_ ?_
  ·symm;exact q
  ·rintro i x σ H' T1 N hN hx ⟨r,c,pl,ts,rfl,hs,o_,hz⟩ hT;obtain⟨c0,QT,rfl⟩:=c9 hx;obtain⟨g1,g2⟩:=hc c0 (get_mem QT);refine qa (aK.of aE) rfl ?_;symm;have hT1:=aj.put (o:=.tup [.int i,.int c0]) hT;refine DX (c0 - s) (λj σ H2=>∃pl ts,σ = [⇑a,↥s,⇑l,↥i,↥c0,pl]/\aj H H2/\(∀t∈ts,H t=none)/\Zn H2 l ts (fZ s 0 (rc.take i)++(List.range j).map λ(k:Nat)=>((i:Int),(k:Int)))) (λQ q=>?_) ∅ ∅ ?_ ?_ ?_
   ·symm;exact q
   ·exact⟨_,ts,rfl,hs.trans hT1,o_,by simpa using hz.same hT1⟩
   ·rintro j σ H2 N2 iU hj ⟨pl,ts,rfl,ou,QU,lJ⟩;symm;refine⟨⟨_,lJ.sq⟩,λp hp=>⟨_,aj.put hp _ _ lJ.l,?_,iU _ _ ⟨_,ts++[p],rfl,aj.put2 (ou.trans (aj.put hp)) eY,?_,?_⟩⟩⟩
    ·have h1:=lJ.n;have h2:=vF i;simp only[List.length_map,List.length_append,List.length_range] at h1 ⊢;lia
    ·intro t ht;rcases fB.mp ht with ht | ht
     ·exact QU t ht
     ·rw[fV.mp ht];exact ou.free hp
    ·have:=lJ.snoc hp (i:Int) (j:Int);rw[sM,cj,← sH];exact this
   ·rintro σ H2 ⟨pl,ts,rfl,ou,QU,lJ⟩;refine hN _ _ ⟨_,_,_,ts,rfl,ou,QU,?_⟩;rw[take_succ_get QT,VM];have hi:=cJ QT;simpa[fZ,Nat.min_eq_left (Nat.le_of_lt hi)] using lJ
  ·rintro σ H' ⟨r,c,pl,ts,rfl,hs,o_,hz⟩;symm;rw[aM,cZ] at hz;exact q _ _ _ hs eY o_ hz
theorem aaK:bq P w K mg base bF 1 A.Oz A.OA [%[|13]] (aez K):=by
 exists T.Qg.ok Fg
 ·obtain⟨a,ts,z,rfl,_⟩:=h
  rfl
 ·obtain⟨a,ts,z,rfl,hz,hlen,q⟩:=h;have hu:=qW hr;refine⟨_,%[a_ (i:=1) Fg.nd rfl OL_ JC,c8 c7 rfl (JN rfl T.By %[aa 0|0]) (kr rfl (dX (bA (i:=2) Fg.nd rfl OL_) (dX (bA (i:=3) Fg.nd rfl OL_) kq)))
   (aL (As hu (aa 1) (aa 3) (aa 2) rfl)),br (aa 1)|1],?_⟩
  symm;refine λd hd=>?_;refine re a (ts.map V.ref) (λi σ H'=>∃r c,σ = [⇑a,⇑d,r,c]/\aj H H'/\i<=z.length/\H' d=some (.dT (jw 0 (z.take i) []))) (λQ q=>?_) (aj.put hd |>.seq hz.sq)
   ⟨none,none,rfl,aj.put hd,eW _,aE⟩ (by rintro i σ H' _ ⟨r,c,rfl,hs,_⟩;exact hs.seq hz.sq) ?_ ?_
  ·symm;exact q
  ·rintro i x σ H' T1 N hN hx ⟨r,c,rfl,hs,hi,h1⟩ hT;obtain⟨t,p,rfl,hp,ht⟩:=hz.at hx;refine qa (aK.of aE) rfl ?_;symm;have EG:=hs.trans (aj.put (o:=.tup [.int i,.ref t]) hT);have hl:=VO (z.take i) 0 [];have qy:=cJ hp;rw[dw,List.length_nil] at hl;refine⟨_,mS.t (k:=kT p) (aj.put hT _ _ h1) (EG _ _ ht) (by rw[tL];lia),hN _ _ ⟨_,_,rfl,aj.put2 EG hd,qy,?_⟩⟩
   rw[aE,take_succ_get hp,VN];simp[jw,Nat.min_eq_left (Nat.le_of_lt qy)]
  ·rintro σ H' ⟨r,c,rfl,hs,hi,h1⟩;symm;rw[lenZ hz.n,cZ] at h1;exact q _ _ hs hd h1
theorem ar9:bq P w K mg base bF 1 A.Bk A.OC ["self"] (aeC K):=by
 exists T.aj0.ok ai1
 ·obtain⟨C,p,P,fp,rfl,_⟩:=h
  rfl
 ·obtain⟨C,p,P,fp,rfl,hP,q⟩:=h;obtain⟨dx,a1,a2,a3,a4,ts,fs,rfl,h⟩:=hP;refine⟨_,(aL (br (cB eZ rfl T.dN dZ %[b9 (aa 0) rfl|0]))),?_⟩;wp_walk using T,h.o,h.f1,h.f2,h.f3,h.f4,h.f5,h.f6,h.m1,h.m2,h.m3,h.m4,h.m5,h.m6,h.m7,h.m8,h.m9,h.g7,h.iO,h.cp.cl,h.cp.n1,h.cp.n2,h.cp.n3,h.cp.n4,h.cp.n5,h.cp.n6;exact⟨_,.inl (aA.of h.rc),by simpa  using q⟩
theorem alH:bq P w K mg base bF 1 A.Bl A.OD ["self"] (aeD K):=by
 exists T.aj3.ok ai2
 ·obtain⟨C,p,P,fp,rfl,_⟩:=h
  rfl
 ·obtain⟨C,p,P,fp,rfl,hP,q⟩:=h;obtain⟨dx,a1,a2,a3,a4,ts,fs,rfl,h⟩:=hP;refine⟨_,(aL (br (cB eZ rfl T.dN dZ %[b9 (aa 0) rfl|0]))),?_⟩;wp_walk using T,h.o,h.f1,h.f2,h.f3,h.f4,h.f5,h.f6,h.m1,h.m2,h.m3,h.m4,h.m5,h.m6,h.m7,h.m8,h.m9,h.g7,h.iO,h.cp.cl,h.cp.n1,h.cp.n2,h.cp.n3,h.cp.n4,h.cp.n5,h.cp.n6;exact⟨_,.inl (h.nc.sq),by simpa[h.nc.n] using q⟩
theorem aaL:bq P w K mg base bF 1 A.Bm A.OE ["self", "ring"] (aeF K):=by
 exists T.aj6.ok ai3
 ·obtain⟨C,p,P,fp,r,rfl,_⟩:=h
  rfl
 ·obtain⟨C,p,P,fp,r,rfl,hP,h0,h1,h2,h3,q⟩:=h;obtain⟨dx,a1,a2,a3,a4,ts,fs,rfl,h⟩:=hP;refine⟨_,(aL (br (aF xA (b9 (aa 0) rfl) (aI b_ (b9 (aa 0) rfl) (aa 1) %[|2])))),?_⟩;wp_walk using T,h.o,h.f1,h.f2,h.f3,h.f4,h.f5,h.f6,h.m1,h.m2,h.m3,h.m4,h.m5,h.m6,h.m7,h.m8,h.m9,h.g7,h.iO,h.cp.cl,h.cp.n1,h.cp.n2,h.cp.n3,h.cp.n4,h.cp.n5,h.cp.n6;refine⟨_,aA.of h.rc,_,g6 h0 h1,?_⟩;symm;exact⟨h2,∅,q⟩
theorem alI:bq P w K mg base bF 1 A.Bo A.OF ["self"] (aeE K):=by
 exists T.aj9.ok ai4
 ·obtain⟨C,p,P,fp,rfl,_⟩:=h
  rfl
 ·obtain⟨C,p,P,fp,rfl,hP,q⟩:=h;obtain⟨dx,a1,a2,a3,a4,ts,fs,rfl,h⟩:=hP;refine⟨_,(aL (br (b9 (aa 0) rfl))),?_⟩;wp_walk using T,h.o,h.f1,h.f2,h.f3,h.f4,h.f5,h.f6,h.m1,h.m2,h.m3,h.m4,h.m5,h.m6,h.m7,h.m8,h.m9,h.g7,h.iO,h.cp.cl,h.cp.n1,h.cp.n2,h.cp.n3,h.cp.n4,h.cp.n5,h.cp.n6;exact q
theorem alJ:bq P w K mg base bF 1 A.Bq A.OH ["self", "ring", "other"] (aeB K):=by
 exists T.akg.ok ai6
 ·obtain⟨C,p,P,fp,i,j,rfl,_⟩:=h
  rfl
 ·obtain⟨C,p,P,fp,i,j,rfl,hP,hi,q⟩:=h;obtain⟨dx,a1,a2,a3,a4,ts,fs,rfl,h⟩:=hP;refine⟨_,(aL (br (aI b_ (b9 (aa 0) rfl) (cB IQ rfl T.Bx boot_abs %[aF vX (aa 1) (aa 2)|0]) %[|2]))),?_⟩;wp_walk using T,h.o,h.f1,h.f2,h.f3,h.f4,h.f5,h.f6,h.m1,h.m2,h.m3,h.m4,h.m5,h.m6,h.m7,h.m8,h.m9,h.g7,h.iO,h.cp.cl,h.cp.n1,h.cp.n2,h.cp.n3,h.cp.n4,h.cp.n5,h.cp.n6;refine⟨_,aA.of h.sw,_,g6 (k:=if i - j<0 then -(i - j) else i - j) (by split <;> lia) (by split <;> lia),?_⟩
  have e:(if i - j<0 then -(i - j) else i - j).toNat=(i - j).natAbs:=by split <;> lia
  rw[e];exact q
theorem aaM:bq P w K mg base bF 1 A.Br A.OI ["self", "ring", "place"] (aeH K):=by
 exists T.akk.ok ai7
 ·obtain⟨C,p,P,fp,r,c,rfl,_⟩:=h
  rfl
 ·obtain⟨C,p,P,fp,r,c,rfl,hP,q⟩:=h;obtain⟨dx,a1,a2,a3,a4,ts,fs,rfl,h⟩:=hP;refine⟨_,%[j9 (PW.pt (rS (gB (eF iN (aa 1) ao (bB _)) (iL (eF vh (aa 1) (cB eZ rfl T.dN dZ %[b9 (aa 0) rfl|0]) (bB _)))))) (aL (br eK)) bW,br (sX (iE vh (aa 2) ao (bB _)) (oh (iE iN (aa 2) (aI b_ (b9 (aa 0) rfl) (aa 1) %[|2]) (bB _))))|1],?_⟩
  wp_walk using h.o,h.f1,h.f2,h.f3,h.f4,h.f5,h.f6,h.m1,h.m2,h.m3,h.m4,h.m5,h.m6,h.m7,h.m8,h.m9,h.g7,h.iO,h.cp.cl,h.cp.n1,h.cp.n2,h.cp.n3,h.cp.n4,h.cp.n5,h.cp.n6;refine cK (λh0=>?_) (λh0=>⟨_,.inl (aA.of h.rc),cK (λh1=>?_) (λh1=>?_)⟩)
  ·rw[jm ∅] at q;exact q
  ·rw[aM] at h1;rw[jm ∅] at q;exact q
  ·rw[aM] at h1;refine cK (λh2=>⟨_,aA.of h.rc,_,g6 ∅ ∅,?_⟩) (λh2=>?_)
   ·symm;have e:decide (c<P.rc.getD r.toNat 0)=decide (0<=r/\r<P.rc.length/\0<=c/\c<P.rc.getD r.toNat 0):=by
     by_cases h3:c<P.rc.getD r.toNat 0
     ·rw[jo h3,jo ⟨∅,∅,h2,h3⟩]
     ·rw[jm h3,jm ∅]
    rw[e];exact q
   ·rw[jm ∅] at q;exact q
theorem aaN:bq P w K mg base bF 1 A.Bs A.OJ ["self", %[|26]] (aeI K):=by
 exists T.akn.ok ai8
 ·obtain⟨C,p,P,fp,k,rfl,_⟩:=h
  rfl
 ·obtain⟨C,p,P,fp,k,rfl,hP,h0,h1,q⟩:=h;obtain⟨dx,a1,a2,a3,a4,ts,fs,rfl,h⟩:=hP;refine⟨_,%[j9 (PW.pt (rS (gB (eF iN (aa 1) ao (bB _)) (iL (eF vh (aa 1) (cB eZ rfl T.dN dZ %[b9 (aa 0) rfl|0]) (bB _)))))) iM bW,br (aI b_ (b9 (aa 0) rfl) (aa 1) %[|2])|1],?_⟩
  wp_walk using h.o,h.f1,h.f2,h.f3,h.f4,h.f5,h.f6,h.m1,h.m2,h.m3,h.m4,h.m5,h.m6,h.m7,h.m8,h.m9,h.g7,h.iO,h.cp.cl,h.cp.n1,h.cp.n2,h.cp.n3,h.cp.n4,h.cp.n5,h.cp.n6;have hn:=h.nc.n;refine⟨∅,_,.inl h.nc.sq,by rw[aM];lia,?_⟩
  have hk:k.toNat<ts.length:=by lia
  have g1:(ts.map V.ref)[k.toNat]? = some (V.ref ts[k.toNat]):=by simp[hk]
  obtain⟨t,q',e1,e2,e3⟩:=h.nc.at g1;have ek:k=(k.toNat:Int):=by lia
  refine⟨_,h.nc.sq,V.ref ts[k.toNat],?_,?_⟩
  ·have:=lV g1;rwa [← ek] at this
  ·rw[e1];exact q t q' e2 e3
theorem alK:bq P w K mg base bF 1 A.OM A.ON [%[|44], %[|15]] (aeP K):=by
 exists T.ZK.ok ai_
 ·obtain⟨a,rc,s,rfl,_⟩:=h
  rfl
 ·obtain⟨a,rc,s,rfl,hS,hl,h0,hc,q⟩:=h;refine⟨_,(aL (cF (PW.pt (gB (eF iN (aa 0) ao (bB _)) (iL (cC vh (aa 0) (cB (VI rfl) rfl T.wk boot_min %[aa 1|0]) (bB _))))) iM bW)),?_⟩;symm;refine⟨∅,_,hS,hl,λM hM aaO=>⟨?_,q⟩⟩
  have:=hc M hM;lia
theorem alL:bq P w K mg base bF 1 A.OQ A.OR [%[|13], %[|27]] (aeR K):=by
 exists T.ZN.ok aja
 ·obtain⟨a,d,ts,z,az,rfl,_⟩:=h
  rfl
 ·obtain⟨a,d,ts,z,az,rfl,hz,hlen,hd,q⟩:=h;have hu:=qW hr;refine⟨_,(aL (br (gq (N:=[%[|26], "cell", %[|27]]) (nt:=2) (fv:=[1]) ‹cM.of› rfl (JN rfl T.By %[aa 0|0]) (λC s H fp=>(aeO (K:=K) (n:=2) rfl rfl (dX (bA (i:=0) (show List.Nodup ([%[|26], "cell", %[|27]]:List Str) by decide +kernel) rfl OL_) (dX (bA (i:=1) (show List.Nodup ([%[|26], "cell", %[|27]]:List Str) by decide +kernel) rfl OL_) kq)))) (λC s H fp=>(jS (Ih (VC hu (aa 1) (aa 2))))) (λC s H fp=>(aa 0))))),?_⟩
  symm;refine rcE a (ts.map V.ref) (λD i ys aB H2=>ys=(lq az 0 (z.take i)).map V.int/\H2 D=some (.lst ys)/\aj H H2/\H D=none/\i<=z.length/\∃u v,aB = [u,v,⇑d]) (λQ q=>by symm;exact q) hz.sq ?_ ?_ ?_ ?_
  ·intro D hD;exact⟨rfl,aE,aj.put hD,hD,eW _,_,_,rfl⟩
  ·rintro D i ys aB H2 ⟨e,e1,e2,e3,e4,_⟩;refine⟨e1,?_,e2.seq hz.sq⟩;have:=JU az (z.take i) 0;rw[e,tL,aM];rw[dw] at this;lia
  ·rintro D i x ys aB H2 T1 N hN hx ⟨e,e1,e2,e3,e4,u,v,rfl⟩ hT;obtain⟨t,p,rfl,hp,ht⟩:=hz.at hx;have hl:=cJ hp;refine qa (aK.of aE) rfl ?_;symm;have s1:=e2.trans (aj.put (o:=.tup [.int i,.ref t]) hT);refine⟨_,gO.t (k:=kT p) (s1 _ _ hd) (s1 _ _ ht),?_⟩;have eD:upd H2 T1 (.tup [.int i,.ref t]) D=some (.lst ys):=aj.put hT _ _ e1;refine cK (λhb=>⟨eD,hN _ _ _ ⟨?_,aE,aj.put2 s1 e3,e3,hl,_,_,rfl⟩⟩) (λhb=>hN _ _ _ ⟨?_,eD,s1,e3,hl,_,_,rfl⟩)
   ·rw[take_succ_get hp,JT,if_pos hb,cj,e,dw,zy (kZ hl),sO];rfl
   ·rw[take_succ_get hp,JT,if_neg hb,jF,e]
  ·rintro D ys aB H2 ⟨e,e1,e2,e3,e4,u,v,rfl⟩;rw[lenZ hz.n,cZ] at e;rw[e] at e1;exact q _ _ e2 e3 e1
theorem alM:bq P w K mg base bF 1 A.Fw A.Bu ["ring", "rings"] (afL A.bf (rD iT) (rE %[|16])):=by
 refine T.ZO.okC ajb (λvs H Q E h=>?_) (λAr outer s H vs Q E hr h=>?_)
 ·obtain⟨r,n,rfl,_⟩:=h
  rfl
 ·obtain⟨r,n,rfl,h2,l8,tab,q⟩:=h;have qg:(Ar.deeper (envOfC %[|16] (aZ iT) s.heap.objs.size A.Fw A.Bu.code)).in1.in1.depth<recursionLimit:=hr.depth;refine⟨_,(aL (br (afG (c:=A.bE) (P:=A.bf) (ps:=["other"]) (fs:=["ring"]) (fv:=[0]) rfl T.yG rfl T.gK aG T.alv (oN.of rfl rfl rfl rfl (by rfl) (by rfl) (by repeat (first | exact trivial | refine⟨rfl,?_⟩)) (by rfl) (by rfl) (by rfl) (by decide +kernel)) rfl rfl rfl (λ_ _ _ _=>rfl) (λf c2 s2 H2=>(dB %[cB IQ rfl T.Bx boot_abs %[aF pX (pv 0) (pv 1)|0],pv 0|0])) rfl qg rfl rfl rfl %[pv 1|0]))),?_⟩
  wp_walk using WA,tR;refine⟨n,rfl,h2,l8,lG r,λj hj=>⟨by unfold lG;dsimp only;lia,by unfold lG;dsimp only;lia⟩,λi j hi hj e=>by unfold lG at e;injection e with e1 e2;lia,tab,λj H2 hj sb tb=>?_,λD is H' a b c d e=>q D is H' a b c d e⟩
  have e:(if (j:Int) - r<0 then -((j:Int) - r) else(j:Int) - r)=(lG r j).1:=by unfold lG;dsimp only;split <;> lia
  refine⟨_,rfl,_,rfl,λp hp=>⟨hp,?_⟩⟩;rw[e]
  rfl
theorem QV:bq P w K mg base bF 1 A.OY A.OZ [%[|17], %[|29]] (jv K):=by
 exists T.o7.ok ajc
 ·obtain⟨a,ns,k,rfl,_⟩:=h
  rfl
 ·obtain⟨a,ns,k,rfl,hS,hl,hk,q⟩:=h;refine⟨_,%[j9 (eF iN (aa 1) (cB eZ rfl T.dN dZ %[aa 0|0]) (bB _)) (aL (br (aI b_ (aa 0) (aa 1) %[|2]))) bW,br ao|1],?_⟩
  symm;refine⟨_,.inl hS,cK (λcg=>⟨_,hS,_,g6 hk ↑cg,q⟩) λEf=>?_⟩
  have e:fY ns k=0:=by
   unfold fY;rw[aM] at Ef;rw[jG,qB ∅];rfl
  rw[e] at q;exact q
theorem QW:bq P w K mg base bF 1 A.O0 A.O1 [%[|22], %[|69]] agg:=by
 exists T.FY.ok Bf
 ·obtain⟨c,m,rfl,_⟩:=h
  rfl
 ·obtain⟨c,m,rfl,m0,m1,q⟩:=h;refine⟨_,%[a_ (i:=2) Bf.nd rfl OL_ (fj au),a_ (i:=3) Bf.nd rfl OL_ (aF fG (aF gc (aa 0) ao) ao),c8 c7 rfl (lR rfl T.gK %[aF fG (aa 1) ao|0]) (bA (i:=4) Bf.nd rfl OL_)
   %[a_ (i:=3) Bf.nd rfl OL_ (aF gc (aF fG (aF fG (aF oZ (aa 3) (aa 3)) (aF oZ ao (aa 3))) (aa 4)) ao),e_ (lY lP nX nY mQ (aa 2) %[aa 3|0])|1],br (qR DK (aa 2) (qQ ao) qP)|1],?_⟩
  symm;intro p hp;refine DX (m+1) (λi σ H'=>∃(x4:Option V) (nn:Int) (ns:_I),σ = [some (.int c),some (.int m),some (.ref p),some (.int nn),x4]/\H' = upd H p (.lst (ns.map V.int))/\ns.length=i/\0<=nn/\nn<2147531918/\∀x∈ns,0<=x/\x<2147483647) (λQ q=>?_) ∅ ∅ ⟨none,_,[],rfl,rfl,rfl,∅,∅,λ_ h=>nomatch h⟩ ?_ ?_
  ·symm;exact q
  ·rintro i σ H' N hN hi ⟨x4,nn,ns,rfl,rfl,hn,n0,n1,nb⟩;symm;have k0:=fR (nn*nn+48271*nn+(i:Int)) (show (2147483647:Int)≠0 by decide)
   have k1:=fQ (nn*nn+48271*nn+(i:Int)) (show (0:Int)<2147483647 by decide)
   refine⟨.inl ⟨∅,∅⟩,⟨_,aA.of aE⟩,∅,hN _ _ ⟨_,_,ns++[(nn*nn+48271*nn+(i:Int)) % 2147483647],rfl,?_,by simp[hn],k0,∅,λx hx=>?_⟩⟩
   ·rw[cj];rfl
   ·rcases fB.mp hx with hx | hx
    ·exact nb x hx
    ·rw[fV.mp hx];exact⟨k0,k1⟩
  ·rintro σ H' ⟨x4,nn,ns,rfl,rfl,hn,n0,n1,nb⟩;symm;refine⟨_,aA.of aE,λl hl=>?_⟩;have Az:l≠p:=(bT aE hl).symm;have tG:H l=none:=by rw[aJ Az] at hl;exact hl
   refine q l (ns.drop 1) _ (aj.put2 (aj.put hp) tG) tG ?_ ⟨by rw[wU];lia,λx hx=>nb x (CF hx)⟩
   rw[aE,ae2 ∅]
theorem alN:bq P w K mg base bF 1 A.O2 A.O3 [%[|57], %[|93]] (agh K):=by
 exists T.ZS.ok wc
 ·obtain⟨xa,xs,m,rfl,_⟩:=h
  rfl
 ·obtain⟨xa,xs,m,rfl,hx,X,h2,yd,q⟩:=h;refine⟨_,%[cF (cC i_ (aF dz (aI b_ (aa 0) ao %[|2]) ao) ao (bB _)) %[a_ (i:=2) wc.nd rfl OL_ (aF fh ao (aF dz (aI b_ (aa 0) ao %[|2]) ao)),cF (cC i_ (aF dz (aF xA (aI b_ (aa 0) ao %[|2]) ao) ao) ao (bB _)) (aL (a_ (i:=2) wc.nd rfl OL_ (aF fh ao (aF dz (aI b_ (aa 0) ao %[|2]) (aF qL ao ao))))) bW,a_ (i:=3) wc.nd rfl OL_ (fj %[ao|0]),c8 c7 rfl (u7 rfl T.gK %[ao,aa 1|0]) (bA (i:=4) wc.nd rfl OL_)
   %[e_ (lY lP nX nY mQ (aa 3) %[aF fh (aI b_ (aa 3) (ve vf ao) %[|2]) (aa 2)|0]),a_ (i:=2) wc.nd rfl OL_ (aF pX (aa 2) (aF dz (aI b_ (aa 0) (aF fG ao (aF gc (aa 4) ao)) %[|2]) (aF fG (aa 2) ao)))|1],br (aa 3)|1] bW,a_ (i:=5) wc.nd rfl (Or.inr rfl) (aF fh ao (aF dz (aI b_ (aa 0) ao %[|2]) (aF qL ao ao))),br (aF Jp (fj %[ao|0]) (cB aed rfl T.yG C3 %[gq (N:=[%[|29], %[|117], %[|57]]) (nt:=1) (fv:=[5,0]) ‹cM.of› rfl (u7 rfl T.gK %[ao,aa 1|0]) (λC s H fp=>(bA (i:=0) (show List.Nodup ([%[|29], %[|117], %[|57]]:List Str) by decide +kernel) rfl OL_)) (λC s H fp=>jR) (λC s H fp=>(aF fh (aa 1) (aF dz (aI (uf (K:=K) rfl) (aa 2) (aF fG ao (aF gc (aa 0) ao)) %[|2]) (aF fG (aa 1) ao))))|0]))|1],?_⟩
  have xl:=X.n;have g:∀k:Int,0<=k->k<24->fL (xs.map V.int) k=some (.int (xs.getD k.toNat 0)):=λk h0 h1=>g6 h0 ∅
  symm;refine⟨_,aA.of hx,_,g 10 ⋯ ⋯,?_⟩
  symm;refine cK (λh8=>⟨_,aA.of hx,_,g 11 ⋯ ⋯,_,rfl,_,aA.of hx,_,g 11 ⋯ ⋯,_,rfl,cK (λh9=>⟨_,aA.of hx,_,g 11 ⋯ ⋯,⋯,_,rfl,?_⟩) λh9=>?_⟩) λh8=>⟨_,aA.of hx,_,g 11 ⋯ ⋯,⋯,_,rfl,?_⟩
  ·skip
   intro l hl;have gC:1<=(1+xs.getD (Int.toNat 11) 0 % 10000000)/\(1+xs.getD (Int.toNat 11) 0 % 10000000)<=10000000:=⟨by have:=(X.md 11 (k:=10000000) ⋯).1;lia,by have:=(X.md 11 (k:=10000000) ⋯).2;lia⟩
   generalize (1+xs.getD (Int.toNat 11) 0 % 10000000)=s0 at gC ⊢;refine xS 1 m (λj σ H'=>∃kk,σ = [⇑xa,↥m,some (.int (g_ xs s0 j)),⇑l,kk,none]/\aj H H'/\H' l=some (.lst (((List.range (1+j)).map (sumF (g_ xs s0))).map V.int)))
    (λQ q=>?_) ∅ ∅ ∅ ∅ ⟨none,rfl,aj.put hl,?_⟩ ?_ ?_
   ·symm;exact q
   ·rw[aE];simp[List.range_succ,sumF,g_]
   ·rintro j σ H' N hN hj ⟨kk,rfl,hs,h1⟩;have b:=Ew xs gC.1 j;have kk0:0<=(1+(j:Int)) % 10/\(1+(j:Int)) % 10<10:=⟨fR _ ⋯,fQ _ ⋯⟩
    symm;refine⟨⟨_,aA.of h1⟩,_,aA.of h1,_,JP (by simp;lia),?_⟩
    wp_walk using h1;refine⟨by rw[jI];lia,_,aA.of (by rw[aJ (bT hx hl)];exact hs _ _ hx),_,g _ ∅ ∅,_,rfl,∅,hN _ _ ⟨some (.int (1+(j:Int))),?_,aj.put2 hs hl,?_⟩⟩
    ·rw[g_]
    ·rw[aE,show 1+(j+1)=1+j+1 by lia,sM,cj,cj,jI,_L.range_getD ∅]
     congr 4;simp only[List.map_cons,List.map_nil,List.cons.injEq,and_true,V.int.injEq];rw[show 1+j - 1=j by lia,show 1+j=j+1 by lia,sumF]
   ·rintro σ H' ⟨kk,rfl,hs,h1⟩;symm;have e:1+(m - 1).toNat=m.toNat:=by lia
    rw[e] at h1;have so:=WX (f:=g_ xs s0) gC.1 gC.2 (Ew xs gC.1) (n:=m.toNat) ∅ ∅
    rw[show ((m.toNat:Nat):Int)=m by lia] at so
    exact q _ _ _ hs hl h1 so
  ·skip
   intro l hl;have gC:1<=(1+xs.getD (Int.toNat 11) 0 % 1000)/\(1+xs.getD (Int.toNat 11) 0 % 1000)<=10000000:=⟨by have:=(X.md 11 (k:=1000) ⋯).1;lia,by have:=(X.md 11 (k:=1000) ⋯).2;lia⟩
   generalize (1+xs.getD (Int.toNat 11) 0 % 1000)=s0 at gC ⊢;refine xS 1 m (λj σ H'=>∃kk,σ = [⇑xa,↥m,some (.int (g_ xs s0 j)),⇑l,kk,none]/\aj H H'/\H' l=some (.lst (((List.range (1+j)).map (sumF (g_ xs s0))).map V.int)))
    (λQ q=>?_) ∅ ∅ ∅ ∅ ⟨none,rfl,aj.put hl,?_⟩ ?_ ?_
   ·symm;exact q
   ·rw[aE];simp[List.range_succ,sumF,g_]
   ·rintro j σ H' N hN hj ⟨kk,rfl,hs,h1⟩;have b:=Ew xs gC.1 j;have kk0:0<=(1+(j:Int)) % 10/\(1+(j:Int)) % 10<10:=⟨fR _ ⋯,fQ _ ⋯⟩
    symm;refine⟨⟨_,aA.of h1⟩,_,aA.of h1,_,JP (by simp;lia),?_⟩
    wp_walk using h1;refine⟨by rw[jI];lia,_,aA.of (by rw[aJ (bT hx hl)];exact hs _ _ hx),_,g _ ∅ ∅,_,rfl,∅,hN _ _ ⟨some (.int (1+(j:Int))),?_,aj.put2 hs hl,?_⟩⟩
    ·rw[g_]
    ·rw[aE,show 1+(j+1)=1+j+1 by lia,sM,cj,cj,jI,_L.range_getD ∅]
     congr 4;simp only[List.map_cons,List.map_nil,List.cons.injEq,and_true,V.int.injEq];rw[show 1+j - 1=j by lia,show 1+j=j+1 by lia,sumF]
   ·rintro σ H' ⟨kk,rfl,hs,h1⟩;symm;have e:1+(m - 1).toNat=m.toNat:=by lia
    rw[e] at h1;have so:=WX (f:=g_ xs s0) gC.1 gC.2 (Ew xs gC.1) (n:=m.toNat) ∅ ∅
    rw[show ((m.toNat:Nat):Int)=m by lia] at so
    exact q _ _ _ hs hl h1 so
  ·intro l0 eY;have hL:1<=1+xs.getD (Int.toNat 11) 0 % 100000000/\1+xs.getD (Int.toNat 11) 0 % 100000000<=100000000:=⟨by have:=(X.md 11 (k:=100000000) ⋯).1;lia,by have:=(X.md 11 (k:=100000000) ⋯).2;lia⟩
   generalize 1+xs.getD (Int.toNat 11) 0 % 100000000=L at hL ⊢;have s0:=aj.put (o:=.lst [V.int 0]) eY;refine VT 1 m (λD i ys aB H2=>∃ns:_I,ys=ns.map V.int/\ns.length=i/\(∀x∈ns,L<=x/\x<=2*L)/\H2 D=some (.lst ys)/\aj (upd H l0 (.lst [V.int 0])) H2/\upd H l0 (.lst [V.int 0]) D=none/\i<=60/\∃u,aB = [u,↥L,⇑xa])
    (λQ q=>?_) ∅ ∅ ∅ ∅ ?_ ?_ ?_ ?_
   ·symm;exact q
   ·intro D hD;exact⟨[],rfl,rfl,(by intro x hx;cases hx),aE,aj.put hD,hD,∅,none,rfl⟩
   ·rintro D i ys aB H2 ⟨ns,rfl,e0,_,e1,e2,e3,e4,_⟩;exact⟨e1,gi (by rw[aM];lia)⟩
   ·rintro D i ys aB H2 N hN hi ⟨ns,rfl,e0,eb,e1,e2,e3,e4,u,rfl⟩;have kk0:0<=(1+(i:Int)) % 10/\(1+(i:Int)) % 10<10:=⟨fR _ ⋯,fQ _ ⋯⟩
    symm;have b1:=fR (xs.getD (12+(1+(i:Int)) % 10).toNat 0) (show L+1≠0 by lia)
    have b2:=fQ (xs.getD (12+(1+(i:Int)) % 10).toNat 0) (show 0<L+1 by lia)
    refine⟨_,aA.of (e2 _ _ (s0 _ _ hx)),_,g _ ∅ ∅,_,rfl,∅,e1,hN _ _ _ ⟨ns++[L+xs.getD (12+(1+(i:Int)) % 10).toNat 0 % (L+1)],by rw[cj];rfl,by simp[e0],?_,aE,aj.put2 e2 e3,e3,∅,_,rfl⟩⟩
    intro x hx;rcases fB.mp hx with hx | hx
    ·exact eb x hx
    ·rw[fV.mp hx];generalize xs.getD (12+(1+(i:Int)) % 10).toNat 0 % (L+1)=y at b1 b2 ⊢;lia
   ·rintro D ys aB H2 ⟨ns,rfl,e0,eb,e1,e2,e3,e4,u,rfl⟩
    try symm
    refine⟨ns,aA.of e1,∅,λl mV hl hp hs=>?_⟩
    have aaP:=e2 _ _ aE;have gm:l0≠l:=bT aaP hl;refine⟨[V.int 0],by rw[aJ gm];exact aaP,?_,λp gP=>?_⟩
    ·have:=hp.length_eq;simp;lia
    ·have jO:p≠l:=(bT aE gP).symm;have E5:H2 p=none:=by rw[aJ jO] at gP;exact gP
     have hH:H p=none:=(s0.trans e2).free E5;have hHl:H l=none:=(s0.trans e2).free hl;have so:=aeK hL.1 hL.2 (ns:=mV) (λx hx=>eb x (hp.mem_iff.mp hx)) hs (by rw[hp.length_eq];lia)
     rw[hp.length_eq,show ((ns.length+1:Nat):Int)=m by lia] at so
     exact q p (0::mV) _ (aj.put2 (aj.put2 (s0.trans e2) hHl) hH) hH (by rw[aE];rfl) so
theorem alO:bq P w K mg base bF 1 A.O8 A.O9 [%[|11], %[|20], %[|21], %[|28]] (agk K):=by
 exists T.ZV.ok rT
 ·obtain⟨t,z,ak,sk,sw,za,bw,ca,sa,r,b,cl,aX,cz,rfl,_⟩:=h
  rfl
 ·obtain⟨t,z,ak,sk,sw,za,bw,ca,sa,r,b,cl,aX,cz,rfl,hS,ok,r0,r1,hz,hq,hlen,q⟩:=h;have pk:=ok.pl [];have hsl:=pk.sw.len;refine⟨_,%[a_ (i:=4) rT.nd rfl OL_ (fj au),c8 c7 rfl (cS (aa 3)) (kr rfl (dX (bA (i:=5) rT.nd rfl OL_) (dX (bA (i:=6) rT.nd rfl OL_) kq)))
   %[a_ (i:=7) rT.nd rfl OL_ (aF xA (aI bM (aa 0) ao %[|2]) (aI pY (aI bM (aa 0) ao %[|2]) (aa 5) %[|2])),a_ (i:=8) rT.nd rfl OL_ (aF fh (aa 2) (aI pY (aI bM (aa 0) ao %[|2]) (cB IQ rfl T.Bx boot_abs %[aF vX (aa 1) (aa 5)|0]) %[|2])),a_ (i:=9) rT.nd rfl OL_ (aF fh (aa 8) (aF dz (aF pX (aF fh (aF oZ (aa 6) (aa 7)) (aF xy (aa 5) (aI bM (aa 0) ao %[|2]))) (aa 8)) (aI bM (aa 0) ao %[|2]))),a_ (i:=1) rT.nd rfl OL_ (aa 5),a_ (i:=2) rT.nd rfl OL_ (aF fG (aa 9) (aa 7)),e_ (lY lP nX nY mQ (aa 4) %[dB %[aa 5,aa 6,aa 9,aa 2|0]|0])|1],br (aa 4)|1],?_⟩
  symm;intro l hl;have sl:=aj.put (o:=.lst []) hl;generalize hP:bJ z ak sk sw [] = P at pk hsl hq q;have e1:P.rc=counts z:=by rw[← hP];rfl
  have e2:P.ak=ak:=by rw[← hP];rfl
  have e3:P.cO=sk:=by rw[← hP];rfl
  have e4:P.sw=sw:=by rw[← hP];rfl
  rw[← e1] at r1;have iS:=hS.o;have jB:=hS.c;have hS3:=hS.s;rw[← e1] at jB;rw[← e2,← e3] at iS;rw[← e4] at hS3;clear e1 e2 e3 e4 hP ok hS;refine rl cl (aX.map V.ref) (λi σ H'=>∃x y z w v u ts,σ = [⇑t,some (.int (aQ P (r,b) (cz.take i)).1),some (.int (aQ P (r,b) (cz.take i)).2),⇑cl,⇑l,x,y,z,w,v]/\aj H H'/\(∀t∈ts,H t=none)/\i<=cz.length/\Zt H' l ts (eN P (r,b) (cz.take i))/\u=0) (λQ q=>q) (sl.seq hz.sq)
   ⟨none,none,none,none,none,0,[],rfl,sl,(λ_ h=>nomatch h),eW _,Zt.start,rfl⟩ (by rintro i σ H' _ ⟨x,y,z,w,v,u,ts,rfl,hs,_⟩;exact hs.seq hz.sq) ?_ ?_
  ·rintro i x σ H' N hN hx ⟨x0,y0,z0,w0',v0,u0,cE,rfl,hs,o_,hi,h1,_⟩;obtain⟨t',w,rfl,hw,ht⟩:=hz.at hx;have qy:=cJ hw;obtain⟨w0,w1,w2,w3⟩:=hq w (get_mem hw);have BA:=pk.c w.1.toNat ∅
   obtain⟨e0,e1⟩:=jx P (n:=P.rc.length) (cz.take i) (r,b) r0 r1 λq oA=>⟨(hq q (pJ oA)).1,(hq q (pJ oA)).2.1⟩;have es:aQ P (r,b) (cz.take (i+1))=d_ P (aQ P (r,b) (cz.take i)) w:=by rw[take_succ_get hw,xT]
   have ws:eN P (r,b) (cz.take (i+1))=eN P (r,b) (cz.take i)++[rm P (aQ P (r,b) (cz.take i)) w]:=by rw[take_succ_get hw,xU]
   rw[es,ws] at hN;have wl:(eN P (r,b) (cz.take i)).length=i:=by rw[oJ,dw];lia
   generalize aQ P (r,b) (cz.take i)=st at e0 e1 hN ⊢;generalize eN P (r,b) (cz.take i)=rows at h1 wl hN ⊢;refine qa (aK.of (hs _ _ ht)) rfl ?_;have k1:=aK.of (K:=K) (hs _ _ iS);have k2:=aA.of (K:=K) (hs _ _ jB);have k3:=aA.of (K:=K) (hs _ _ hS3);symm;have e:(if st.1 - w.1<0 then -(st.1 - w.1) else st.1 - w.1).toNat=(st.1 - w.1).natAbs:=by split <;> lia
   refine⟨_,k1,_,rfl,_,k1,_,rfl,ca,rfl,_,k2,_,g6 w0 w1,_,rfl,_,rfl,∅,∅,_,k1,_,rfl,sa,rfl,_,k3,_,g6 (k:=if st.1 - w.1<0 then -(st.1 - w.1) else st.1 - w.1) (by split <;> lia) (by split <;> lia),?_⟩
   rw[e];symm;have pl:=pk.ak;have pn:=pk.n1;refine⟨.inl ⟨∅,∅⟩,_,k1,_,rfl,_,rfl,.inl ⟨∅,∅⟩,_,k1,_,rfl,_,rfl,∅,⟨_,aA.of h1.l⟩,λt1 n1=>?_⟩
   have en:st.2+P.sw.getD (st.1 - w.1).natAbs 0+(w.2*(P.ak / P.rc.getD w.1.toNat 0)+w.1*P.cO - (st.2+P.sw.getD (st.1 - w.1).natAbs 0)) % P.ak=tN P st w:=agj P w.1 w.2 _;rw[en];have hn:=h1.n;have e2:=aj.put n1 (o:=.tup [V.int w.1,V.int w.2,V.int (tN P st w),V.int (d_ P st w).2]) _ _ h1.l;refine⟨_,e2,by simp;lia,hN _ _ ⟨_,_,_,_,_,_,cE++[t1],rfl,aj.put2 (hs.trans (aj.put n1)) hl,?_,qy,h1.snoc n1 (rm P st w),rfl⟩⟩
   intro t' mz;rcases fB.mp mz with mz | mz
   ·exact o_ t' mz
   ·rw[fV.mp mz];exact hs.free n1
  ·rintro σ H' ⟨x0,y0,z0,w0',v0,u0,cE,rfl,hs,o_,hi,h1,_⟩;symm;rw[lenZ hz.n,cZ] at h1;exact q _ _ _ hs hl o_ h1
theorem alP:bq P w K mg base bF 1 A.Pk A.Pn [%[|18], %[|43]] (agK K):=by
 exists T.Z1.ok ajd
 ·obtain⟨t,u,k,o,b,cl,aX,b',mj,qk,rfl,_⟩:=h
  rfl
 ·obtain⟨t,u,k,o,b,cl,aX,b',mj,qk,rfl,hk,ho,q⟩:=h;refine⟨_,%[cF (cC vh (aI bM (aa 1) ao %[|2]) (aI bM (aa 0) ao %[|2]) (bB _)) (aL (br eK)) bW,cF (cC Ji (aI bM (aa 1) ao %[|2]) (aI bM (aa 0) ao %[|2]) rfl) (aL (br eK)) bW,br (sX (Dm (aI bM (aa 0) ao %[|2]) (oh (aI bM (aa 1) ao %[|2]))) (sX (iE iN (aI bM (aa 0) ao %[|2]) (aF fh (aI bM (aa 1) ao %[|2]) (aI bM (aa 1) ao %[|2])) (bB _)) (oh (iE iN (aI bM (aa 1) ao %[|2]) (aF fh (aI bM (aa 0) ao %[|2]) (aI bM (aa 0) ao %[|2])) (bB _)))))|1],?_⟩
  have k1:=aK.of (K:=K) hk.o;have o1:=aK.of (K:=K) ho.o;walk_at "rdt";unfold keepsK at q;refine⟨_,o1,_,rfl,_,k1,_,rfl,_,rfl,_,rfl,cK (λh1=>?_) λh1=>?_⟩
  ·rw[show decide (o.n<k.n)=false by simpa using h1] at q
   exact q
  rw[show decide (o.n<k.n)=true by simp;lia] at q
  refine⟨_,o1,_,rfl,_,k1,_,rfl,b,rfl,_,.inr (aK.of hk.b),rfl,rq _,?_⟩;rw[lB];refine cK (λh2=>by simpa[h2] using q) λh2=>⟨_,k1,_,rfl,k.w,rfl,?_⟩
  have h2':decide (o.n∈k.bh)=false:=by simpa using h2
  rw[h2'] at q;refine cK (λh3=>?_) λh3=>⟨_,o1,_,rfl,o.w,rfl,cK (λh4=>?_) λh4=>?_⟩
  ·refine⟨_,k1,_,rfl,_,o1,_,rfl,_,o1,_,rfl,_,rfl,_,rfl,_,rfl,cK (λh5=>⟨_,o1,_,rfl,_,k1,_,rfl,_,k1,_,rfl,_,rfl,_,rfl,_,rfl,?_⟩) λh5=>?_⟩
   ·simpa[h3,h5] using q
   ·simpa[h3,h5] using q
  ·refine⟨_,k1,_,rfl,_,o1,_,rfl,_,o1,_,rfl,_,rfl,_,rfl,_,rfl,cK (λh5=>⟨_,o1,_,rfl,_,k1,_,rfl,_,k1,_,rfl,_,rfl,_,rfl,_,rfl,?_⟩) λh5=>?_⟩
   ·simpa[h4,h5] using q
   ·simpa[h4,h5] using q
  ·simpa[h3,h4] using q
theorem aaQ:bq P w K mg base bF 1 A.Pq A.Pr [%[|19]] agt:=by
 exists T.Ql.ok ajf
 ·obtain⟨n,rfl,_⟩:=h
  rfl
 ·obtain⟨n,rfl,q⟩:=h;refine⟨_,(aL (br (sX (cB vC rfl T.rW uO %[aa 0,uX (v:=.ty "int") rfl T.yF boot_int rfl|0]) (oh (acT (cB vC rfl T.rW uO %[aa 0,uX (v:=.ty "bool") rfl T.QJ boot_bool rfl|0])))))),?_⟩;symm;refine⟨_,.int n,true,by rfl,?_⟩
  rw[if_pos rfl];exact⟨_,.int n,false,by rfl,q⟩
theorem aaR:bq P w K mg base bF 1 A.Pu A.Pw [%[|10], %[|23]] (ag8 K):=by
 exists T.Qm.ok ajg
 ·obtain⟨kl,b,bH,ks,bg,rfl,_⟩:=h
  rfl
 ·obtain⟨kl,b,bH,ks,bg,rfl,hk,um,hb,q⟩:=h;refine⟨_,(aL (br (gq (N:=[%[|18], %[|23]]) (nt:=1) (fv:=[1]) ‹cM.of› rfl (cS (aa 0)) (λC s H fp=>(bA (i:=0) (show List.Nodup ([%[|18], %[|23]]:List Str) by decide +kernel) rfl OL_)) (λC s H fp=>(jS (cC (J6 (K:=K) rfl) (aI (j_ (K:=K) rfl) (aa 0) ao %[|2]) (aa 1) rfl))) (λC s H fp=>(aa 0))))),?_⟩
  walk_at "rdt";have dg:=hk.n;refine iF kl (bH.map V.ref) (λD i ys aB H2=>∃(u:Option V) (ts:_A),ys=ts.map V.ref/\aB = [u,⇑b]/\H2 D=some (.lst ys)/\aj H H2/\H D=none/\jh H ts (gu (ks.take i) bg)) (λQ q=>q) hk.sq ?_ ?_ ?_ ?_
  ·intro D hD;exact⟨none,[],rfl,rfl,aE,aj.put hD,hD,jh.nil⟩
  ·rintro D i ys aB H2 ⟨u,ts,rfl,rfl,e1,e2,e3,e4⟩;refine⟨e1,gi ?_,(hk.same e2).sq⟩;have:=gW (λk:Kn => !decide (k.n∈bg)) (ks.take i);rw[dw] at this;have e5:=e4.n;unfold gu at e5;rw[aM];lia
  ·rintro D i x ys aB H2 N hN hx ⟨u,ts,rfl,rfl,e1,e2,e3,e4⟩;obtain⟨t,ht,rfl⟩:=c9 hx;have hi:i<ks.length:=by rw[← dg];exact cJ ht
   obtain⟨b2,cl,aX,hK⟩:=hk.t i t ks[i] ht (aV hi);have et:=oW (p:=λk:Kn => !decide (k.n∈bg)) (aV hi);walk_at "rdt";refine⟨_,aK.of (e2 _ _ hK.o),_,rfl,_,.inr (aK.of (e2 _ _ hb)),rfl,rq _,cK (λh1=>?_) λh1=>?_⟩
   ·rw[lB] at h1;refine⟨e1,hN _ _ _ ⟨_,ts++[t],by simp,rfl,aE,aj.put2 e2 e3,e3,?_⟩⟩
    unfold gu at e4 ⊢;rw[et,if_pos ↑h1]
    exact e4.snoc ⟨_,_,_,hK⟩
   ·rw[lB] at h1;refine hN _ _ _ ⟨_,ts,rfl,rfl,e1,e2,e3,?_⟩;unfold gu at e4 ⊢;rw[et,if_neg ↑h1,jF]
    exact e4
  ·rintro D ys aB H2 ⟨u,ts,rfl,rfl,e1,e2,e3,e4⟩;rw[aM,dg,cZ] at e4;exact q D ts H2 e2 e3 ((e4.same e2).yf e1)
theorem alQ:bq P w K mg base bF 2 A.Ng A.Nh [%[|30]] (ae8 K):=by
 have rZ:= ~~~QO;exists T.YV.ok Fc
 ·obtain⟨b,ns,rfl,_⟩:=h
  rfl
 ·obtain⟨b,ns,rfl,hS,hR,q⟩:=h;refine⟨_,%[a_ (i:=1) Fc.nd rfl OL_ (ve vf ao),c8 c7 rfl (Dt (aa 0)) (bA (i:=2) Fc.nd rfl OL_)
   %[e_ (bu rZ nofun rfl T.wj T.uh.kp T.wg .nil aN %[aa 2,aF fG (aa 1) ao,kj (v:=.int 99) rfl T.aln ⟨_,rfl⟩,i8|0]),a_ (i:=1) Fc.nd rfl OL_ (aa 2)|1]|1],?_⟩
  symm;refine rt b (ns.map V.int) (λi σ H'=>∃x,σ = [⇑b,some (.int (AF (-1) ns i)),x]/\H' = H) (λQ q=>q) hS ⟨none,rfl,rfl⟩ (by rintro i σ H' _ ⟨x,rfl,rfl⟩;exact hS) ?_ ?_
  ·rintro i x σ H' N hN hx ⟨x0,rfl,rfl⟩;obtain⟨n,hn,rfl⟩:=c9 hx;have st:=hR.step hn;symm;exact⟨n,_,99,_,rfl,st.1,st.2,hN _ _ ⟨↥n,by rw[ae6 hn],rfl⟩⟩
  ·rintro σ H' ⟨x0,rfl,rfl⟩;symm;exact q
theorem alR:bq P w K mg base bF 2 A.Nv A.Nx [%[|32], "ask"] (agp K [A.bK,A.bG] A.bX):=by
 have QX:= ~~~aaN;exists T.Y5.ok aiQ
 ·obtain⟨C,p,ap,P,fp,q',m,b,dx,rfl,_⟩:=h
  rfl
 ·obtain⟨C,p,ap,P,fp,q',m,b,dx,rfl,hC,hP,ha,hf,hn,q⟩:=h;refine⟨_,(aL (br (gq (N:=[%[|26], %[|32]]) (nt:=1) (fv:=[0]) ‹cM.of› rfl (u7 rfl T.gK %[b9 (aa 1) rfl,aF fG (b9 (aa 1) rfl) (b9 (aa 1) rfl)|0]) (λC s H fp=>(bA (i:=0) (show List.Nodup ([%[|26], %[|32]]:List Str) by decide +kernel) rfl OL_)) (λC s H fp=>jR) (λC s H fp=>(qb (aa 1) T.aaE QX nofun T.ZI .nil aN %[aa 0|0]))))),?_⟩
  wp_walk using T,ha.o;obtain⟨f0,m0,m1,fit⟩:=hf;refine VT q'.first (q'.first+q'.many) (λD i ys aB H2=>∃(u:Option V) (ts:_A),aB = [u,⇑p]/\ys=ts.map V.ref/\Zn H2 D ts ((P.nc.drop q'.first.toNat).take i)/\aj H H2/\H D=none/\i<=16) (λQ q=>?_) ∅ ∅ ∅ ∅ ?_ ?_ ?_ ?_
  ·wp_walk using T,ha.o
   try exact q
  ·intro D hD;exact⟨none,[],rfl,rfl,by rw[List.take_zero];exact Zn.start,aj.put hD,hD,∅⟩
  ·rintro D i ys aB H2 ⟨u,ts,rfl,rfl,g2,g3,g4,g5⟩;exact⟨g2.l,gi (by rw[aM,g2.n,dw];lia)⟩
  ·rintro D i ys aB H2 N hN hi ⟨u,ts,rfl,rfl,g2,g3,g4,g5⟩;symm;obtain⟨pq,a1,a2,a3,a4,cE,fs,uo,hA⟩:=hP.same g3;refine⟨C,pq,fs,hA.o,hC,hA.m9,⟨C,p,P,fp,_,rfl,hP.same g3,∅,∅,λt q0 eq ht=>⟨g2.l,hN _ _ _ ⟨_,ts++[t],rfl,by rw[cj];rfl,?_,aj.put2 g3 g4,g4,∅⟩⟩⟩⟩
   rw[KS f0 eq];exact g2.push ht
  ·rintro D ys aB H2 ⟨u,ts,rfl,rfl,g2,g3,g4,g5⟩;rw[show (q'.first+q'.many - q'.first).toNat=q'.many.toNat by lia] at g2
   exact q _ _ _ g3 g4 g2
theorem alS:bq P w K mg base bF 2 A.NN A.NO ["dues"] (ag0 K A.bX A.cG):=by
 have alT:= ~~~alC;exists T.Za.ok aiV
 ·obtain⟨l,ps,ds,rfl,_⟩:=h
  rfl
 ·obtain⟨l,ps,ds,rfl,hd,h7,q⟩:=h;refine⟨_,(aL (cF (iB (gh (bu alT nofun rfl T.ajC T.Y_.kp T.ajB .nil aN %[aa 0|0]))) iM bW)),?_⟩
  symm;exact⟨l,ps,ds,rfl,hd,_,rfl,↑h7,q⟩
theorem alU:bq P w K mg base bF 2 A.NP A.NQ ["due", "other"] (agI K A.bX A.cG):=by
 have alV:= ~~~alB;exists T.Zb.ok aiW
 ·obtain⟨p,r,d,o,dx,ap,l,ts,m,b,cA,jT,AS,l',cE,m',b',AU,rfl,_⟩:=h
  rfl
 ·obtain⟨p,r,d,o,dx,ap,l,ts,m,b,cA,jT,AS,l',cE,m',b',AU,rfl,hd,ho,q⟩:=h;refine⟨_,(aL (br (sX (iE lT (b9 (aa 0) rfl) (b9 (aa 1) rfl) (bB _)) (oh (Dm (iE Ji (b9 (aa 1) rfl) (b9 (b9 (aa 0) rfl) rfl) rfl) (oh (bu alV nofun rfl T.ajr T.Y4.kp T.ajq .nil aN %[b9 (aa 0) rfl,b9 (aa 1) rfl|0]))))))),?_⟩
  have dY:=hd.o;have mh:=ho.o;have BB:=hd.a.o;unfold m_ at dY mh;unfold tQ at BB;wp_walk using T,dY,mh,BB;unfold rK at q;refine cK (λh1=>⟨_,.inr (aK.of hd.a.bh),rfl,rq _,?_⟩) λh1=>?_
  ·rw[lB];rw[show decide (o.n<d.n)=true by simpa using h1] at q
   refine cK (λh2=>?_) λh2=>⟨_,_,_,_,_,_,_,_,_,_,rfl,hd.a,ho.a,?_⟩
   ·simpa[h2] using q
   ·simpa[h2] using q
  ·rw[show decide (o.n<d.n)=false by simpa using h1] at q
   exact q
theorem aaS:bq P w K mg base bF 2 A.NV A.NW ["dues", "kept", %[|72]] (ag2 K A.bX A.cG):=by
 have QY:= ~~~aaI;exists T.Qa.ok YN
 ·obtain⟨l,kd,b,ps,ds,az,bg,H0,rfl,_⟩:=h
  rfl
 ·obtain⟨l,kd,b,ps,ds,az,bg,H0,rfl,s0,hd,um,hk,hb,q⟩:=h;have hu:=qW hr;refine⟨_,%[a_ (i:=3) YN.nd rfl OL_ (bu QY nofun rfl T.Ze T.P_.kp T.Zd .nil aN %[aa 0,aa 2|0]),br (gq (N:=["due", %[|72], "kept"]) (nt:=1) (fv:=[2,1]) ‹cM.of› rfl (cS (aa 3)) (λC s H fp=>(bA (i:=0) (show List.Nodup (["due", %[|72], "kept"]:List Str) by decide +kernel) rfl OL_)) (λC s H fp=>(jS (gh (cB (agY (K:=K) rfl rfl) rfl T.QI boot_all %[gq (N:=["other", %[|72]]) (nt:=1) (fv:=[1]) ‹cM.of› rfl (Xk (K:=K) rfl (adT hu (aa 2) (A9 (K:=K) rfl (aa 0) rfl) %[|2])) (λC s H fp=>(bA (i:=0) (show List.Nodup (["other", %[|72]]:List Str) by decide +kernel) rfl OL_)) (λC s H fp=>jR) (λC s H fp=>(iE (J5 (K:=K) rfl) (aa 0) (aa 1) rfl))|0])))) (λC s H fp=>(aa 0)))|1],?_⟩
  walk_at "rdt";refine⟨l,b,ps,ds,bg,H0,rfl,s0,hd,um,hb,λL pl H1 s1 nL hL hl=>?_⟩;have yH:=s0.trans s1;have mC:=hl.n;have ll:(bZ ds bg).length<=100:=cH (gW _ _) um;walk_at "rdt";refine iF L (pl.map V.ref) (λD i ys aB H2=>∃(u:Option V) (cQ:_A),ys=cQ.map V.ref/\aB = [u,⇑b,⇑kd]/\H2 D=some (.lst ys)/\aj H1 H2/\H1 D=none/\jg K A.bX A.cG H0 cQ (((bZ ds bg).take i).filter λd=>(ql ds d).all λo=>decide (o∈bg))) (λQ q=>q) (aA.of hL) ?_ ?_ ?_ ?_
  ·intro D hD;exact⟨none,[],rfl,rfl,aE,aj.put hD,hD,jg.nil⟩
  ·rintro D i ys aB H2 ⟨u,cQ,rfl,rfl,e1,e2,e3,e4⟩;refine⟨e1,gi ?_,aA.of (e2 _ _ hL)⟩;have:=gW (λd:Dr=>(ql ds d).all λo=>decide (o∈bg)) ((bZ ds bg).take i);rw[dw] at this;have e5:=e4.n;rw[aM];lia
  ·rintro D i x ys aB H2 N hN hx ⟨u,cQ,rfl,rfl,e1,e2,e3,e4⟩;obtain⟨dp,iG,rfl⟩:=c9 hx;have hi:i<(bZ ds bg).length:=by rw[← mC];exact cJ iG
   obtain⟨dx,ap,la,ts,m,b',cA,hD⟩:=hl.t i dp (bZ ds bg)[i] iG (aV hi);have dY:=e2 _ _ (yH _ _ hD.o);unfold m_ at dY;have et:=oW (p:=λd:Dr=>(ql ds d).all λo=>decide (o∈bg)) (aV hi);have mD:=(tW.mp (dU hi)).1;obtain⟨j,hj,ej⟩:=iJ.mp mD;obtain⟨li,v1,v2,v3⟩:=hk.v j _ (by rw[aV hj,ej])
   generalize (bZ ds bg)[i] = d at *
   wp_walk using T,dY;have fP:=e2 _ _ (yH _ _ hk.d);have A0:=e2 _ _ (yH _ _ v3);refine iF li ((ql ds d).map V.int) (λD2 j zs iD H3=>∃(u:Option V),zs=(((ql ds d).take j).map λo=>decide (o∈bg)).map V.bl/\iD = [u,⇑b]/\H3 D2=some (.lst zs)/\aj H2 H3/\H2 D2=none) (λQ q=>?_) (aA.of A0) ?_ ?_ ?_ ?_
   ·wp_walk using T,dY;have hg:=gO.k (k:=vM d.n) fP;rw[v1] at hg;exact⟨_,hg,q⟩
   ·intro D2 kg;exact⟨none,rfl,rfl,aE,aj.put kg,kg⟩
   ·rintro D2 j zs iD H3 ⟨u,rfl,rfl,f1,f2,f3⟩;refine⟨f1,gi ?_,aA.of (f2 _ _ A0)⟩;have:(ql ds d).length<=ds.length:=by unfold ql;rw[List.length_map];exact List.length_filter_le _ _
    simp only[List.length_map,List.length_take];lia
   ·rintro D2 j x zs iD H3 N3 hN3 uq ⟨u,rfl,rfl,f1,f2,f3⟩;obtain⟨o,ho,rfl⟩:=c9 uq;walk_at "rdt";refine⟨_,.inr (aK.of (f2 _ _ (e2 _ _ (s1 _ _ hb)))),rfl,rq _,f1,hN3 _ _ _ ⟨_,?_,rfl,aE,aj.put2 f2 f3,f3⟩⟩;rw[take_succ_get ho,cj,cj,lB];rfl
   ·rintro D2 zs iD H3 ⟨u,rfl,rfl,f1,f2,f3⟩;rw[aM,cZ] at f1;refine⟨D2,rfl,_,aA.of f1,cK (λh1=>?_) λh1=>?_⟩
    ·refine⟨f2 _ _ e1,hN _ _ _ ⟨_,cQ++[dp],by simp,rfl,aE,aj.put2 (e2.trans f2) e3,e3,?_⟩⟩
     rw[et,if_pos (by rw[List.all_map] at h1;exact h1)]
     exact e4.snoc ⟨_,_,_,_,_,_,_,hD⟩
    ·refine hN _ _ _ ⟨_,cQ,rfl,rfl,f2 _ _ e1,e2.trans f2,e3,?_⟩;rw[et,if_neg (by rw[List.all_map] at h1;exact h1),jF]
     exact e4
  ·rintro D ys aB H2 ⟨u,cQ,rfl,rfl,e1,e2,e3,e4⟩;rw[aM,mC,cZ] at e4;exact q D cQ H2 (s1.trans e2) (s1.free e3) e1 e4
theorem alW:bq P w K mg base bF 2 A.Om A.Oo [%[|73], "rings"] (aev K):=by
 have alX:= ~~~alF;exists T.Zw.ok YO
 ·obtain⟨a,sw,n,rfl,_⟩:=h
  rfl
 ·obtain⟨a,sw,n,rfl,hS,ok,hn,q⟩:=h;refine⟨_,%[bY (j9 (eF vY (cB eZ rfl T.dN dZ %[aa 0|0]) (aa 1) (bB _)) iM bW),bY (cF (cC vg (aI b_ (aa 0) ao %[|2]) ao (bB _)) iM bW),bY (c8 c7 rfl (u7 rfl T.gK %[ao,aa 1|0]) (bA (i:=2) YO.nd rfl OL_)
   %[bY (cF (PW.pt (gB (cC iN (aI b_ (aa 0) (aa 2) %[|2]) ao (bB _)) (iL (cC lT (aI b_ (aa 0) (aa 2) %[|2]) (kj (v:=.int 1000000000) rfl T.aaB ⟨_,rfl⟩) (bB _))))) iM bW),cF (cC iN (aI b_ (aa 0) (aa 2) %[|2]) (aI b_ (aa 0) (aF vX (aa 2) ao) %[|2]) (bB _)) iM bW|1]),e_ (bu alX nofun rfl T.ajW T.Zx.kp T.ajV .nil aN %[aa 0|0])|1],?_⟩
  have hl:=ok.len;have h2:=ok.two;refine b7 λNa ka=>?_;symm;refine⟨_,.inl hS,↑hl,ka _ _ ?_⟩
  refine b7 λNb kb=>?_;symm;refine⟨_,hS,_,g6 ∅ ∅,rfl,by rw[show (0:Int).toNat=0 from rfl,ok.z],kb _ _ ?_⟩
  refine b7 λNc kc=>?_;refine xS 1 n (λi σ H'=>∃r,σ = [⇑a,↥n,r]/\H' = H) (λQ q=>?_) ∅ ∅ ∅ ∅ ⟨none,rfl,rfl⟩ ?_ ?_
  ·symm;exact q
  ·rintro i σ H' N hN hi ⟨r,rfl,rfl⟩;have e1:((1:Int)+(i:Int)).toNat=1+i:=by lia
   have e2:((1:Int)+(i:Int) - 1).toNat=1+i - 1:=by lia
   have g:=ok.pos (1+i) ∅ ∅
   have g2:=ok.up (1+i) ∅ ∅
   refine b7 λNd kd=>?_;symm;refine⟨_,hS,_,g6 ∅ ∅,?_⟩
   symm;rw[e1];refine⟨∅,_,hS,_,g6 ∅ ∅,?_⟩
   symm;rw[e1];refine⟨∅,kd _ _ ?_⟩
   symm;refine⟨_,hS,_,g6 ∅ ∅,_,hS,_,g6 ∅ ∅,?_⟩
   symm;rw[e1,e2];exact⟨∅,hN _ _ ⟨_,rfl,rfl⟩⟩
  ·rintro σ H' ⟨r,rfl,rfl⟩;refine kc _ _ ?_;symm;exact⟨a,sw,n,rfl,hS,ok,hn,q⟩
theorem alY:bq P w K mg base bF 2 A.Bp A.OG ["self", "ring", "place"] (aeG K [A.bK,A.bG]):=by
 have QZ:= ~~~aaL;exists T.akc.ok ai5
 ·obtain⟨C,p,P,fp,r,c,rfl,_⟩:=h
  rfl
 ·obtain⟨C,p,P,fp,r,c,rfl,hC,hP,h0,h1,h2,h3,h4,h5,h6,h7,q⟩:=h;obtain⟨dx,a1,a2,a3,a4,ts,fs,uo,h⟩:=id hP;refine⟨_,(aL (br (aF dz (aF fh (aF xy (aa 2) (qb (aa 0) T.aaC QZ nofun T.ZF .nil aN %[aa 1|0])) (aF oZ (aa 1) (b9 (aa 0) rfl))) (b9 (aa 0) rfl)))),?_⟩
  wp_walk using h.o,h.f1,h.f2,h.f3,h.f4,h.f5,h.f6,h.m1,h.m2,h.m3,h.m4,h.m5,h.m6,h.m7,h.m8,h.m9,h.g7,h.iO,h.cp.cl,h.cp.n1,h.cp.n2,h.cp.n3,h.cp.n4,h.cp.n5,h.cp.n6;refine⟨hC,C,p,P,fp,r,rfl,hP,h0,h1,h3,h4,?_⟩;wp_walk using h.o,h.f1,h.f2,h.f3,h.f4,h.f5,h.f6,h.m1,h.m2,h.m3,h.m4,h.m5,h.m6,h.m7,h.m8,h.m9,h.g7,h.iO,h.cp.cl,h.cp.n1,h.cp.n2,h.cp.n3,h.cp.n4,h.cp.n5,h.cp.n6;exact⟨.inl ⟨∅,∅⟩,.inl ⟨∅,∅⟩,h7,q⟩
theorem alZ:bq P w K mg base bF 2 A.Bt A.OL ["self", "ring", "place"] (aeJ K [A.bK,A.bG]):=by
 have Q0:= ~~~aaM;exists T.akq.ok ai9
 ·obtain⟨C,p,P,fp,r,c,rfl,_⟩:=h
  rfl
 ·obtain⟨C,p,P,fp,r,c,rfl,hC,hP,h0,h1,h2,h3,q⟩:=h;obtain⟨dx,a1,a2,a3,a4,ts,fs,uo,h⟩:=id hP;have hu:=qW hr;refine⟨_,%[cF (iB (gh (qb (aa 0) T.aaD Q0 nofun T.ZG .nil aN %[aa 1,aa 2|0]))) iM bW,br (ad0 hu (b9 (aa 0) rfl) (dB %[aa 1,aa 2|0]) ⟨rfl,rfl,rfl,rfl⟩)|1],?_⟩
  wp_walk using h.o,h.f1,h.f2,h.f3,h.f4,h.f5,h.f6,h.m1,h.m2,h.m3,h.m4,h.m5,h.m6,h.m7,h.m8,h.m9,h.g7,h.iO,h.cp.cl,h.cp.n1,h.cp.n2,h.cp.n3,h.cp.n4,h.cp.n5,h.cp.n6;refine⟨hC,C,p,P,fp,r,c,rfl,hP,?_⟩;rw[jo ⟨h0,h1,h2,h3⟩];wp_walk using h.o,h.f1,h.f2,h.f3,h.f4,h.f5,h.f6,h.m1,h.m2,h.m3,h.m4,h.m5,h.m6,h.m7,h.m8,h.m9,h.g7,h.iO,h.cp.cl,h.cp.n1,h.cp.n2,h.cp.n3,h.cp.n4,h.cp.n5,h.cp.n6;refine⟨by simp,.inr ⟨_,.inl h.cn⟩,λt nt=>⟨_,gO.t (k:=kT (r,c)) (aj.put nt _ _ h.cn) aE,q _ (aj.put nt)⟩⟩
theorem al0:bq P w K mg base bF 2 A.OO A.OP [%[|32], "bad"] (aeQ K [A.bK,A.bG]):=by
 have Q0:= ~~~aaM;exists T.ZM.ok Fi
 ·obtain⟨C,p,ba,P,fp,lz,bz,rfl,_⟩:=h
  rfl
 ·obtain⟨C,p,ba,P,fp,lz,bz,rfl,hC,hP,hz,hlen,nd,hv,q⟩:=h;have hu:=qW hr;refine⟨_,%[a_ (i:=2) Fi.nd rfl OL_ JC,c8 c7 rfl (cS (aa 1)) (kr rfl (dX (bA (i:=3) Fi.nd rfl OL_) (dX (bA (i:=4) Fi.nd rfl OL_) kq)))
   %[cF (PW.pt (gB (iB (gh (qb (aa 0) T.aaD Q0 nofun T.ZG .nil aN %[aa 3,aa 4|0]))) (iL (Ih (VC hu (dB %[aa 3,aa 4|0]) (aa 2)))))) iM bW,As hu (aa 2) (dB %[aa 3,aa 4|0]) eK rfl|1],br (aa 2)|1],?_⟩
  symm;refine λd hd=>?_;refine rl ba (lz.map V.ref) (λi σ H'=>∃r c,σ = [⇑p,⇑ba,⇑d,r,c]/\aj H H'/\i<=bz.length/\H' d=some (.dT (dD (bz.take i)))) (λQ q=>q) (aj.put hd |>.seq hz.sq)
   ⟨none,none,rfl,aj.put hd,eW _,aE⟩ (by rintro i σ H' _ ⟨r,c,rfl,hs,_⟩;exact hs.seq hz.sq) ?_ ?_
  ·rintro i x σ H' N hN hx ⟨r,c,rfl,hs,hi,h1⟩;obtain⟨t,w,rfl,hw,ht⟩:=hz.at hx;refine qa (aK.of (hs _ _ ht)) rfl ?_;have wm:=hP.same hs;obtain⟨dx,a1,a2,a3,a4,ts,fs,uo,h⟩:=id wm;obtain⟨v0,v1,v2,v3⟩:=hv w (get_mem hw);have qy:=cJ hw;wp_walk using h.o,h.f1,h.f2,h.f3,h.f4,h.f5,h.f6,h.m1,h.m2,h.m3,h.m4,h.m5,h.m6,h.m7,h.m8,h.m9,h.g7,h.iO,h.cp.cl,h.cp.n1,h.cp.n2,h.cp.n3,h.cp.n4,h.cp.n5,h.cp.n6;refine⟨hC,C,p,P,fp,_,_,rfl,wm,?_⟩;rw[jo ⟨v0,v1,v2,v3⟩];refine⟨true,rfl,by simp,λt1 n1=>?_⟩
   have vn:w∉bz.take i:=by
    intro hm;obtain⟨j,hj,e⟩:=iJ.mp hm;rw[dw] at hj;rw[Hw] at e;have g1:bz[j]? = some w:=by rw[← e];exact aV ∅
    have:=(List.getElem?_inj ∅ nd).mp (g1.trans hw.symm)
    lia
   have s1:=aj.put (o:=.tup [V.int w.1,V.int w.2]) n1;refine⟨_,gO.t (k:=kT w) (s1 _ _ h1) aE,by rw[AB vn];simp,λt2 n2=>?_⟩
   have s2:=s1.trans (aj.put (o:=.tup [V.int w.1,V.int w.2]) n2);refine⟨_,mS.t (k:=kT w) (s2 _ _ h1) aE (by rw[tL,dD,aM,dw];lia),hN _ _ ⟨_,_,rfl,aj.put2 (hs.trans s2) hd,qy,?_⟩⟩
   rw[aE,Vy _ (AB vn),take_succ_get hw];simp[dD]
  ·rintro σ H' ⟨r,c,rfl,hs,hi,h1⟩;symm;rw[lenZ hz.n,cZ] at h1;exact q _ _ hs hd h1
theorem al1:bq P w K mg base bF 2 A.OS A.OT [%[|15], %[|44], "ring", "used"] (af4 K A.bf (rD iT) (rE %[|16])):=by
 have al2:= ~~~alM;exists T.ZQ.ok Fj
 ·obtain⟨ra,ud,r,sp,rc,us,rfl,_⟩:=h
  rfl
 ·obtain⟨ra,ud,r,sp,rc,us,rfl,Gd,h2,l8,s0,s1,hc,hud,tab,q⟩:=h;have hu:=qW hr;refine⟨_,%[c8 c7 rfl (cS (bu al2 nofun rfl T.akA T.ZO.kp T.akz .nil aN %[aa 2,cB eZ rfl T.dN dZ %[aa 0|0]|0])) (bA (i:=4) Fj.nd rfl OL_)
   %[a_ (i:=5) Fj.nd rfl OL_ (aI b_ (aa 0) (aa 4) %[|2]),c8 c7 rfl (u7 rfl T.gK %[aF vX (aa 5) (aa 1),aa 5|0]) (bA (i:=6) Fj.nd rfl OL_)
   (aL (cF (Ih (adU hu (dB %[aa 4,aa 6|0]) (aa 3))) (aL (br (dB %[aa 4,aa 6|0]))) bW))|1],br i6|1],?_⟩
  symm;refine tM ?_;symm;refine⟨_,.inl Gd,r,rc.length,by rw[aM],h2,l8,tab,λl is H1 sb t1 nl yI ord=>⟨l,rfl,?_⟩⟩
  have k1:=(Kp.mk sb t1).step (aj.put (o:=.lst (is.map λ(i:Nat)=>V.int (i:Int))) yI);refine oH.by l (is.map λ(i:Nat)=>V.int (i:Int)) (λi σ H'=>∃o c p,σ = [⇑ra,↥sp,↥r,⇑ud,o,c,p]/\aj (upd H1 l (.lst (is.map λ(i:Nat)=>V.int (i:Int)))) H'/\∀c∈(is.take i).flatMap (kK rc sp),c∈us)
   (aA.of aE) ⟨none,none,none,rfl,aj.refl _,by simp⟩ (by rintro i σ H' _ ⟨o,c,p,rfl,sm,_⟩;exact aA.of (sm _ _ aE)) ?_ ?_
  ·rintro i x σ H' N hN hx ⟨o,c,p,rfl,sm,BC⟩;obtain⟨k,hk,rfl⟩:=c9 hx;have kl:k<rc.length:=fJ.mp (ord.1.mem_iff.mp (get_mem hk));have kk:=k1.step sm;have ra':=kk.seq tab Gd;have ck:sp<=rc.getD k 0/\rc.getD k 0<=1000:=by
    have:=hc _ (dU kl);rw[show rc.getD k 0=rc[k] by simp[kl]]
    exact this
   symm;refine⟨_,ra',_,g6 ∅ ∅,?_⟩
   try symm
   rw[show ((k:Int)).toNat=k from rfl];refine xS (rc.getD k 0 - sp) (rc.getD k 0) (λj σ H3=>∃p,σ = [⇑ra,↥sp,↥r,⇑ud,some (.int (k:Int)),some (.int (rc.getD k 0)),p]/\aj H' H3/\∀j':Nat,j' < j->((k:Int),rc.getD k 0 - sp+(j':Int))∈us) (λQ q=>?_) ∅ ∅ ∅ ∅ ⟨p,rfl,aj.refl _,λj' z=>absurd z ∅⟩ ?_ ?_
   ·symm;exact q
   ·rintro j σ H3 N2 iU hj ⟨p,rfl,s3,lE⟩;symm;refine λt1 n1=>?_;have e1:=aj.put (o:=HO.tup [V.int (k:Int),V.int (rc.getD k 0 - sp+(j:Int))]) n1;have Q3:=(kk.step s3).step e1;have ud3:=Q3.get tab hud;refine⟨_,gO.t (k:=kT ((k:Int),rc.getD k 0 - sp+(j:Int))) ud3 aE,?_⟩;by_cases hm:((k:Int),rc.getD k 0 - sp+(j:Int))∈us
    ·rw[JV hm];refine ite_no (by simp) (iU _ _ ⟨_,rfl,s3.trans e1,λj' z=>?_⟩)
     by_cases e:j' = j
     ·rw[e];exact hm
     ·exact lE j' ∅
    ·rw[AB hm,if_pos (show (none:Option V).isSome=false from rfl)];intro t2 n2;exact(q is _ ord (Q3.step (aj.put n2))).2 _ t2 (af3 BC hk ∅ lE hm) (Q3.free n2) aE
   ·rintro σ H3 ⟨p,rfl,s3,lE⟩;refine hN _ _ ⟨_,_,_,rfl,sm.trans s3,af1 BC hk λc hc=>?_⟩;obtain⟨j,hj,rfl⟩:=dW.mp hc;exact lE j (by have:=fJ.mp hj;lia)
  ·rintro σ H' ⟨o,c,p,rfl,sm,BC⟩;symm;rw[aM,cZ] at BC;exact(q is H' ord (k1.step sm)).1 (af2 BC)
theorem al3:bq P w K mg base bF 2 A.O4 A.O5 [%[|22], %[|110]] (agi K):=by
 have BD:= ~~~QW;have al4:= ~~~alN;exists T.ZT.ok nM
 ·obtain⟨c,m,rfl,_⟩:=h
  rfl
 ·obtain⟨c,m,rfl,q⟩:=h;refine⟨_,%[a_ (i:=2) nM.nd rfl OL_ (bu BD nofun rfl T.Qi T.FY.kp T.Qh .nil aN %[aa 0,ao|0]),a_ (i:=3) nM.nd rfl OL_ (fj %[dB %[aF fh ao (aF dz (aI b_ (aa 2) ao %[|2]) ao),aF fh ao (aF dz (aI b_ (aa 2) ao %[|2]) ao)|0]|0]),c8 c7 rfl (lR rfl T.gK %[aF dz (aI b_ (aa 2) ao %[|2]) ao|0]) (bA (i:=4) nM.nd rfl OL_)
   (aL (e_ (lY lP nX nY mQ (aa 3) %[dB %[aF fh ao (aF dz (aI b_ (aa 2) (aF fG ao (aF oZ ao (aa 4))) %[|2]) ao),aF fh ao (aF dz (aI b_ (aa 2) (aF fG ao (aF oZ ao (aa 4))) %[|2]) ao)|0]|0]))),a_ (i:=5) nM.nd rfl OL_ ao,a_ (i:=6) nM.nd rfl OL_ (fj au),c8 c7 rfl (cS (aa 3)) (kr rfl (dX (bA (i:=7) nM.nd rfl OL_) (dX (bA (i:=8) nM.nd rfl OL_) kq)))
   %[a_ (i:=5) nM.nd rfl OL_ (aF oZ (aa 5) (aa 8)),a_ (i:=6) nM.nd rfl OL_ (aF Jp (aa 6) (aF Vv (fj %[aa 8|0]) (aa 7)))|1],a_ (i:=9) nM.nd rfl OL_ (aF xy (aa 5) (aF fh ao (aF dz (aI b_ (aa 2) ao %[|2]) ao))),rJ (cF (cC i_ (aF dz (aI b_ (aa 2) ao %[|2]) ao) ao (bB _)) (aL (a_ (i:=9) nM.nd rfl OL_ (aF oZ (aa 5) (aF fG ao (aF gc (aa 1) (aF nH (aF qL ao ao) (aa 5))))))) bW),br (dB %[aa 3,aa 6,aa 9,aF dz (aI b_ (aa 2) ao %[|2]) (aa 9),bu al4 nofun rfl T.akJ T.ZS.kp T.akI .nil aN %[aa 2,cB eZ rfl T.dN dZ %[aa 6|0]|0]|0])|1],?_⟩
  symm;refine⟨c,24,rfl,⋯,⋯,λxa xs H1 s1 n1 hx X=>?_⟩
  have X:rF xs 24:=X;have xl:=X.n;have g:∀k:Int,0<=k->k<24->fL (xs.map V.int) k=some (.int (xs.getD k.toNat 0)):=λk h0 h1=>g6 h0 ∅
  try symm
  have y1:=X.md (Int.toNat 1) (k:=2) ⋯
  have y2:=X.md (Int.toNat 2) (k:=8) ⋯
  have y0:=X.md (Int.toNat 0) (k:=3) ⋯
  refine⟨_,aA.of hx,_,g 1 ⋯ ⋯,_,rfl,_,aA.of hx,_,g 2 ⋯ ⋯,_,rfl,λt0 Q4 l nl=>?_⟩
  generalize xs.getD (Int.toNat 1) 0 % 2=a1 at *
  generalize xs.getD (Int.toNat 2) 0 % 8=a2 at *
  have yI:H1 l=none:=(aj.put Q4).free nl;have qm:=Zn.one (c:=(2+a1,1+a2)) (aE (H:=H1) (a:=t0)) nl;have sA:aj H1 (upd (upd H1 t0 (HO.tup [V.int (2+a1),V.int (1+a2)])) l (HO.lst [V.ref t0])):=(aj.put Q4).trans (aj.put nl);have Q5:ZP [(2+a1,1+a2)]:=⟨λp hp=>by rw[fV.mp hp];dsimp only;have:=y1;have:=y2;exact⟨∅,∅,∅,∅⟩,by simp;lia⟩
  generalize upd (upd H1 t0 (HO.tup [V.int (2+a1),V.int (1+a2)])) l (HO.lst [V.ref t0])=H2 at qm sA ⊢;generalize (2+a1,1+a2)=p0 at qm Q5;refine DX (xs.getD (Int.toNat 0) 0 % 3) (λi σ H'=>∃(x4:Option V) (ts:_A) (z:_Z),σ = [↥c,↥m,⇑xa,⇑l,x4,none,none,none,none,none]/\aj H1 H'/\Zn H' l ts z/\ZP z/\z.length=i+1) (λQ q=>?_) (by have:=y0.1;lia) (by have:=y0.2;lia) ⟨none,[t0],[p0],rfl,sA,qm,Q5,rfl⟩ ?_ ?_
  ·symm;have gv:=sA _ _ hx;exact⟨_,aA.of gv,_,g 0 ⋯ ⋯,_,rfl,q⟩
  ·rintro i σ H' N hN hi ⟨x4,ts,z,rfl,s',hz,zp,zn⟩;have eE:(i:Int)<2:=by have:=y0.2;lia
   have lK:=s' _ _ hx;symm;have b1:=X.md (3+2*(i:Int)).toNat (k:=3) ⋯
   have b2:=X.md (4+2*(i:Int)).toNat (k:=8) ⋯
   refine⟨⟨_,hz.sq⟩,_,aA.of lK,_,g _ ∅ ∅,_,rfl,_,aA.of lK,_,g _ ∅ ∅,_,rfl,λp np=>⟨_,aj.put np _ _ hz.l,by rw[aM,hz.n];lia,hN _ _ ⟨_,ts++[p],z++[(1+xs.getD (3+2*(i:Int)).toNat 0 % 3,1+xs.getD (4+2*(i:Int)).toNat 0 % 8)],rfl,aj.put2 (s'.trans (aj.put np)) yI,hz.snoc np _ _,zp.snoc ⟨∅,∅,∅,∅⟩,by simp[zn]⟩⟩⟩
  ·rintro σ H' ⟨x4,ts,z,rfl,s',hz,zp,zn⟩;have zl:=zp.zl ∅ (by have:=y0.2;lia)
   clear zp zn qm Q5 sA nl Q4;symm;intro c0 Q6;have bd:∀i,1<=fM (z.take i)/\fM (z.take i)<=777600000:=λi=>by
    have h1:=DY (m:=60) ⋯ (z.take i) λp hp=>(zl.ok.r p (pJ hp)).2.2
    have h2:=VW (m:=60) ⋯ (show (z.take i).length<=5 by have:=zl.ok.l5;rw[dw];lia)
    have e:(60:Int) ^ 5=777600000:=by decide
    lia
   refine rl l (ts.map V.ref) (λi σ H2=>∃(r d:Option V) (ca:Addr),σ = [↥c,↥m,⇑xa,⇑l,x4,some (.int (fM (z.take i))),⇑ca,r,d,none]/\aj H' H2/\H' ca=none/\H2 ca=some (.lst ((counts (z.take i)).map V.int))) (λQ q=>q) (hz.same (aj.put Q6)).sq ⟨none,none,c0,rfl,aj.put Q6,Q6,aE⟩ (by rintro i σ H2 _ ⟨r,d,ca,rfl,s2,_⟩;exact(hz.same s2).sq) ?_ ?_
   ·rintro i x σ H2 N hN gv ⟨r,d,ca,rfl,s2,nca,BE⟩;obtain⟨t,p,rfl,hp,ht⟩:=(hz.same s2).at gv;refine qa (aK.of ht) rfl ?_;symm;have b:=bd i;have pr:=zl.ok.r p (get_mem hp);have cl:=VQ zl.ok i;refine⟨.inl ⟨∅,∅⟩,λp1 n1=>⟨∅,∅,∅,λp2 n2=>?_⟩⟩
    rw[W2];have sa1:=aj.put (o:=.lst [V.int p.2]) n1;have Q7:=sa1.trans (aj.put (o:=.lst ((List.replicate p.1.toNat p.2).map V.int)) n2);refine⟨_,Q7 _ _ BE,by rw[aM,aM,List.length_replicate];lia,λp3 n3=>hN _ _ ⟨↥p.1,↥p.2,p3,?_,(s2.trans Q7).trans (aj.put n3),(s2.trans Q7).free n3,?_⟩⟩
    ·rw[take_succ_get hp,aeL]
    ·rw[aE,agm hp,cj]
   ·rintro σ H2 ⟨r,d,ca,rfl,s2,nca,BE⟩;rw[lenZ hz.n,cZ] at BE ⊢;have hb:=bd z.length;rw[cZ] at hb;symm;have gv:=s2 _ _ (s' _ _ hx);have y7:=X.md (Int.toNat 7) (k:=900) ⋯
    have hq:1<=1000000000 / fM z:=(Int.le_ediv_iff_mul_le ∅).mpr ∅
    have ym0:=fR m (show 1000000000 / fM z≠0 by lia)
    have ym1:=fQ m (show 0<1000000000 / fM z by lia)
    have w1:=W0 zl y7.1 (.inl y7.2);have w2:=W0 zl ym0 (.inr ym1);refine⟨_,aA.of gv,_,g 7 ⋯ ⋯,_,rfl,.inl ⟨∅,∅⟩,λσ H3=>∃ak,σ = [↥c,↥m,⇑xa,⇑l,x4,some (.int (fM z)),⇑ca,r,d,↥ak]/\H3=H2/\1<=ak/\ak<=1000000000/\∀p∈z,ak % p.2=0,
     ⟨_,aA.of gv,_,g 8 ⋯ ⋯,_,rfl,cK (λ_=>⟨⋯,∅,∅,∅,.inl ⟨∅,∅⟩,_,rfl,rfl,w2.1,w2.2.1,w2.2.2⟩) λ_=>⟨_,rfl,rfl,w1.1,w1.2.1,w1.2.2⟩⟩,?_⟩
    rintro σ H3 ⟨ak,rfl,rfl,l1,l2,l3⟩;have cl:=tK z λp hp=>(zl.ok.r p hp).1;have JX:=zl.sm;have c2:=zl.ok.s2;symm;refine⟨_,aA.of gv,_,g 9 ⋯ ⋯,_,rfl,∅,_,.inl (aA.of BE),xa,xs,_,rfl,gv,X,by rw[aM];lia,by rw[aM];lia,λsa sw H4 s4 Q8 K7 so=>?_⟩
    rw[aM,cl] at so;have k0:=fR (xs.getD (Int.toNat 9) 0) (show ak≠0 by lia)
    have k1:=fQ (xs.getD (Int.toNat 9) 0) (show 0<ak by lia)
    try symm
    intro t nt;have st:=aj.put (o:=.tup [V.ref l,V.ref ca,V.int ak,V.int (xs.getD (Int.toNat 9) 0 % ak),V.ref sa]) nt;have r9:=(s2.trans s4).trans st;exact q t z ak _ sw l ts ca sa _ (s1.trans (s'.trans r9)) ((s1.trans (s'.trans (s2.trans s4))).free nt) ⟨aE,hz.same r9,(s4.trans st) _ _ BE,st _ _ K7⟩ ⟨zl,l1,l2,l3,k0,k1,so⟩
theorem BF:bq P w K mg base bF 2 A.O_ A.Pa [%[|11], %[|20], %[|21], %[|28]] (agl K):=by
 have al5:= ~~~alO;exists T.yD.ok Fl
 ·obtain⟨t,z,ak,sk,sw,za,bw,ca,sa,r,b,cl,aX,cz,rfl,_⟩:=h
  rfl
 ·obtain⟨t,z,ak,sk,sw,za,bw,ca,sa,r,b,cl,aX,cz,rfl,hS,ok,r0,r1,hz,hq,hlen,q⟩:=h;refine⟨_,%[c8 c7 rfl (cS (bu al5 nofun rfl T.akP T.ZV.kp T.akO .nil aN %[aa 0,aa 1,aa 2,aa 3|0])) (bA (i:=4) Fl.nd rfl OL_)
   %[a_ (i:=1) Fl.nd rfl OL_ (aI bM (aa 4) ao %[|2]),a_ (i:=2) Fl.nd rfl OL_ (aI bM (aa 4) ao %[|2])|1],br (dB %[aa 1,aa 2|0])|1],?_⟩
  symm;refine tM ?_;symm;refine⟨t,z,ak,sk,sw,za,bw,ca,sa,r,b,cl,aX,cz,rfl,hS,ok,r0,r1,hz,hq,hlen,λl ts H1 s1 n1 Ge h1=>?_⟩;have wl:=oJ (bJ z ak sk sw []) cz (r,b);have wr:=V0 (bJ z ak sk sw []) cz (r,b);have ef:∀i,i<cz.length->∃x y,(eN (bJ z ak sk sw []) (r,b) cz).getD i [] = [(aQ (bJ z ak sk sw []) (r,b) (cz.take (i+1))).1,x,y,(aQ (bJ z ak sk sw []) (r,b) (cz.take (i+1))).2]:=λi hi=>WY _ _ _ hi;generalize bJ z ak sk sw [] = P at *
  generalize eN P (r,b) cz=rows at *
  refine⟨l,rfl,oH.by l (ts.map V.ref) (λi σ H'=>∃x,σ = [⇑t,some (.int (aQ P (r,b) (cz.take i)).1),some (.int (aQ P (r,b) (cz.take i)).2),⇑cl,x]/\H' = H1) (aA.of h1.l) ⟨none,rfl,rfl⟩ (by rintro i σ H' _ ⟨_,rfl,rfl⟩;exact aA.of h1.l) ?_ ?_⟩
  ·rintro i x σ H' N hN hx ⟨x0,rfl,rfl⟩;have hi:i<cz.length:=by
    have:=cJ hx;rw[aM,h1.n,wl] at this;exact this
   obtain⟨u,eu,hu⟩:=h1.at (i:=i) (by rw[wl];exact hi)
   rw[hx] at eu;cases eu;obtain⟨c1,c2,e⟩:=ef i hi;rw[e] at hu;symm;refine⟨_,aK.of hu,_,rfl,_,aK.of hu,_,rfl,hN _ _ ⟨_,rfl,rfl⟩⟩
  ·rintro σ H' ⟨x0,rfl,rfl⟩;rw[aM,h1.n,wl,cZ];symm;exact λu nu=>q u _ (s1.trans (aj.put nu)) (s1.free nu) aE
theorem aaT:bq P w K mg base bF 2 A.Po A.Pp [%[|10]] (agL K):=by
 have al6:= ~~~alP;exists T.Qk.ok aje
 ·obtain⟨kl,bH,ks,rfl,_⟩:=h
  rfl
 ·obtain⟨kl,bH,ks,rfl,hk,um,q⟩:=h;have kh:_+16<cLine:=qE (sN (by decide:16<=64) _) hr.units
  refine⟨_,(aL (br (gq (N:=[%[|18], %[|10]]) (nt:=1) (fv:=[0]) ‹cM.of› rfl (cS (aa 0)) (λC s H fp=>(bA (i:=0) (show List.Nodup ([%[|18], %[|10]]:List Str) by decide +kernel) rfl (Or.inr rfl))) (λC s H fp=>(jS (cC (agG (K:=K) rfl kh) (gq (N:=[%[|43], %[|18]]) (nt:=1) (fv:=[0]) ‹cM.of› rfl (Xk (K:=K) rfl (aa 1)) (λC s H fp=>(bA (i:=0) (show List.Nodup ([%[|43], %[|18]]:List Str) by decide +kernel) rfl OL_)) (λC s H fp=>(jS (gh (bu al6 nofun rfl T.akX T.Z1.kp T.akW .nil aN %[aa 1,aa 0|0])))) (λC s H fp=>(aa 0))) (fj au) (bB _)))) (λC s H fp=>(aI (j_ (K:=K) rfl) (aa 0) ao %[|2]))))),?_⟩
  walk_at "rdt";have dg:=hk.n;refine iF kl (bH.map V.ref) (λD i ys aB H2=>∃(u:Option V),ys=(((ks.take i).filter λk=>(ks.filter (keepsK k)).isEmpty).map (·.n)).map V.int/\aB = [u,⇑kl]/\H2 D=some (.lst ys)/\aj H H2/\H D=none) (λQ q=>q) hk.sq ?_ ?_ ?_ ?_
  ·intro D hD;exact⟨none,rfl,rfl,aE,aj.put hD,hD⟩
  ·rintro D i ys aB H2 ⟨u,rfl,rfl,e1,e2,e3⟩;refine⟨e1,gi ?_,(hk.same e2).sq⟩;have:=gW (λk=>(ks.filter (keepsK k)).isEmpty) (ks.take i);rw[dw] at this;simp only[List.length_map];lia
  ·rintro D i x ys aB H2 N hN hx ⟨u,rfl,rfl,e1,e2,e3⟩;obtain⟨t,ht,rfl⟩:=c9 hx;have hi:i<ks.length:=by rw[← dg];exact cJ ht
   have fP:=hk.same e2;obtain⟨b,cl,aX,hK⟩:=fP.t i t ks[i] ht (aV hi);walk_at "rdt";refine iF kl (bH.map V.ref) (λD' j iR iD H3=>∃(v:Option V) (cE:_A),iR=cE.map V.ref/\cE.length=((ks.take j).filter (keepsK ks[i])).length/\iD = [v,⇑t]/\H3 D' = some (.lst iR)/\aj H2 H3/\H2 D' = none) (λQ q=>q) fP.sq ?_ ?_ ?_ ?_
   ·intro D' ji;exact⟨none,[],rfl,rfl,rfl,aE,aj.put ji,ji⟩
   ·rintro D' j iR iD H3 ⟨v,cE,rfl,g0,rfl,g1,g2,g3⟩;refine⟨g1,gi ?_,(fP.same g2).sq⟩;have:=gW (keepsK ks[i]) (ks.take j);rw[dw] at this;rw[aM,g0];lia
   ·rintro D' j x iR iD H3 N2 iU gv ⟨v,cE,rfl,g0,rfl,g1,g2,g3⟩;obtain⟨t2,vU,rfl⟩:=c9 gv;have hj:j<ks.length:=by rw[← dg];exact cJ vU
    obtain⟨b2,E7,E8,yJ⟩:=(fP.same g2).t j t2 ks[j] vU (aV hj);have et:=oW (p:=keepsK ks[i]) (aV hj);walk_at "rdt";refine⟨t,t2,ks[i],ks[j],b,cl,aX,b2,E7,E8,rfl,hK.same g2,yJ,_,rfl,cK (λh1=>⟨g1,iU _ _ _ ⟨_,cE++[t2],by rw[cj];rfl,?_,rfl,aE,aj.put2 g2 g3,g3⟩⟩) λh1=>iU _ _ _ ⟨_,cE,rfl,?_,rfl,g1,g2,g3⟩⟩
    ·rw[et,if_pos h1,e7,e7,g0];rfl
    ·rw[et,if_neg h1,jF,g0]
   ·rintro D' iR iD H3 ⟨v,cE,rfl,g0,rfl,g1,g2,g3⟩;rw[aM,dg,cZ] at g0;intro p np;have s3:=g2.trans (aj.put (o:=.lst []) np);have et:=oW (p:=λk=>(ks.filter (keepsK k)).isEmpty) (aV hi);have ee:(cE.map V.ref).isEmpty=(ks.filter (keepsK ks[i])).isEmpty:=by
     cases e:ks.filter (keepsK ks[i]) with
     | nil=>rw[e] at g0;rw[uH.mp g0];rfl
     | cons y r =>
      rw[e] at g0;cases cE with
      | nil=>simp at g0
      | cons _ _=>rfl
    refine⟨D',rfl,_,aA.of (aj.put np _ _ g1),aA.of aE,cK (λh1=>⟨_,aK.of (s3 _ _ hK.o),_,rfl,s3 _ _ e1,hN _ _ _ ⟨_,?_,rfl,aE,aj.put2 (e2.trans s3) e3,e3⟩⟩) λh1=>hN _ _ _ ⟨_,?_,rfl,s3 _ _ e1,e2.trans s3,e3⟩⟩
    ·rw[et,if_pos (by rw[← ee];exact h1),cj,cj];rfl
    ·rw[et,if_neg (by rw[← ee];exact h1),jF]
  ·rintro D ys aB H2 ⟨u,rfl,rfl,e1,e2,e3⟩;rw[aM,dg,cZ] at e1;exact q D H2 e2 e3 e1
theorem Q9:bq P w K mg base bF 2 A.Pz A.PB [%[|19]] ag_:=by
 have Q_:= ~~~aaQ;exists T.FZ.ok ajh
 ·obtain⟨a,ns,rfl,_⟩:=h
  rfl
 ·obtain⟨a,ns,rfl,ha,q⟩:=h;have kh:_+16<cLine:=qE (sN (by decide:16<=64) _) hr.units
  refine⟨_,(aL (br (sX (cB vC rfl T.rW uO %[aa 0,uX (v:=.ty "tuple") rfl T.o9 qH rfl|0]) (oh (iE (D8 kh) (gq (N:=[%[|18]]) (nt:=1) (fv:=[]) ‹cM.of› rfl (Dt (aa 0)) (λC s H fp=>(bA (i:=0) (show List.Nodup ([%[|18]]:List Str) by decide +kernel) rfl OL_)) (λC s H fp=>(jS (iB (gh (bu Q_ nofun rfl T.Z5 T.Ql.kp T.Z4 .nil aN %[aa 0|0]))))) (λC s H fp=>(aa 0))) (fj au) (bB _)))))),?_⟩
  walk_at "rdt";refine⟨_,.tup ha,_,rfl,ite_yes rfl ?_⟩;refine ag7 a (ns.map V.int) (λD i ys aB H2=>ys = []/\H2 D=some (.lst ys)/\aj H H2/\H D=none/\∃u,aB = [u]) (λQ q=>q) (aK.of ha) ?_ ?_ ?_ ?_
  ·intro D hD;exact⟨rfl,aE,aj.put hD,hD,_,rfl⟩
  ·rintro D i ys aB H2 ⟨rfl,e1,e2,e3,_⟩;exact⟨e1,⋯,aK.of (e2 _ _ ha)⟩
  ·rintro D i x ys aB H2 N hN hx ⟨rfl,e1,e2,e3,u,rfl⟩;obtain⟨n,UC,rfl⟩:=c9 hx;walk_at "rdt";exact⟨n,rfl,_,rfl,ite_no (by simp) (hN _ _ _ ⟨rfl,e1,e2,e3,_,rfl⟩)⟩
  ·rintro D ys aB H2 ⟨rfl,e1,e2,e3,u,rfl⟩;intro p np;exact⟨D,rfl,_,aA.of (aj.put np _ _ e1),aA.of aE,q _ (e2.trans (aj.put np))⟩
theorem aaU:bq P w K mg base bF 3 A.Ni A.Nj ["first", "many", "at", "asker", %[|42], %[|30]] (ae9 K):=by
 have rZ:= ~~~QO;have al7:= ~~~alQ;exists T.P6.ok aiN
 ·obtain⟨f,m,a,s',l,b,ns,rfl,_⟩:=h
  rfl
 ·obtain⟨f,m,a,s',l,b,ns,rfl,hB,hS,hR,q⟩:=h;refine⟨_,%[e_ (bu rZ nofun rfl T.wj T.uh.kp T.wg .nil aN %[aa 0,ao,kj (v:=.int 1000000) rfl T.alh ⟨_,rfl⟩,i8|0]),e_ (bu rZ nofun rfl T.wj T.uh.kp T.wg .nil aN %[aa 1,ao,kj (v:=.int 16) rfl T.alg ⟨_,rfl⟩,i8|0]),e_ (bu rZ nofun rfl T.wj T.uh.kp T.wg .nil aN %[aa 2,ao,kj (v:=.int 1000000000000) rfl T.alj ⟨_,rfl⟩,i8|0]),e_ (bu rZ nofun rfl T.wj T.uh.kp T.wg .nil aN %[aa 3,ao,kj (v:=.int 20) rfl T.alk ⟨_,rfl⟩,i8|0]),cF (cC qM (aa 4) i6 (bB _)) (aL (e_ (bu rZ nofun rfl T.wj T.uh.kp T.wg .nil aN %[aa 4,ao,kj (v:=.int 10000000000000) rfl T.alm ⟨_,rfl⟩,i8|0]))) bW,e_ (bu al7 nofun rfl T.ajl T.YV.kp T.ajk .nil aN %[aa 5|0])|1],?_⟩
  symm;refine⟨_,_,_,_,rfl,hB.f0,hB.f1,_,_,_,_,rfl,hB.m0,hB.m1,_,_,_,_,rfl,hB.a0,hB.a1,_,_,_,_,rfl,hB.s0,hB.s1,?_⟩
  try dsimp only
  cases l with
  | none=>exact ite_no (by simp[jU]) ⟨b,ns,rfl,hS,hR,q⟩
  | some x=>exact ite_yes (by simp[jU]) ⟨x,0,10000000000000,_,rfl,(hB.l x rfl).1,(hB.l x rfl).2,b,ns,rfl,hS,hR,q⟩
theorem al8:bq P w K mg base bF 3 A.Ny A.Nz [%[|32], %[|26], "ask"] (agq K [A.bK,A.bG] A.bX):=by
 have al9:= ~~~alR;exists T.Y6.ok aiR
 ·obtain⟨C,p,ap,k,P,fp,q',m,b,dx,rfl,_⟩:=h
  rfl
 ·obtain⟨C,p,ap,k,P,fp,q',m,b,dx,rfl,hC,hP,ha,hf,hn,q⟩:=h;refine⟨_,(aL (afp rfl (br (bu al9 nofun rfl T.ajt T.Y5.kp T.ajs .nil aN %[aa 0,aa 2|0])))),?_⟩
  walk_at "rdt";exact⟨C,p,ap,P,fp,q',m,b,dx,rfl,hC,hP,ha,hf,hn,q⟩
theorem al_:bq P w K mg base bF 3 A.ND A.NF [%[|32], "ring", "place", "beat"] (aeU K [A.bK,A.bG]):=by
 have ama:= ~~~alI;have amb:= ~~~alY;exists T.Y8.ok aiT
 ·obtain⟨C,p,P,fp,r,c,b,rfl,_⟩:=h
  rfl
 ·obtain⟨C,p,P,fp,r,c,b,rfl,hC,hP,ok,h0,h1,h5,h6,q⟩:=h;obtain⟨dx,a1,a2,a3,a4,ts,fs,uo,h⟩:=id hP;have BA:=ok.c r.toNat ∅
  have hl:=ok.ak;have hn:=ok.n1;refine⟨_,(aL (br (aF fh (aa 3) (aF dz (aF pX (qb (aa 0) T.alz amb nofun T.akd .nil aN %[aa 1,aa 2|0]) (aa 3)) (AA (aa 0) T.aly ama nofun T.aj_ .nil aN))))),?_⟩
  wp_walk using h.o,h.f1,h.f2,h.f3,h.f4,h.f5,h.f6,h.m1,h.m2,h.m3,h.m4,h.m5,h.m6,h.m7,h.m8,h.m9,h.g7,h.iO,h.cp.cl,h.cp.n1,h.cp.n2,h.cp.n3,h.cp.n4,h.cp.n5,h.cp.n6;refine⟨hC,C,p,P,fp,r,c,rfl,hC,hP,h0,h1,hn,∅,BA.2,h5,h6,∅,?_⟩
  wp_walk using h.o,h.f1,h.f2,h.f3,h.f4,h.f5,h.f6,h.m1,h.m2,h.m3,h.m4,h.m5,h.m6,h.m7,h.m8,h.m9,h.g7,h.iO,h.cp.cl,h.cp.n1,h.cp.n2,h.cp.n3,h.cp.n4,h.cp.n5,h.cp.n6;refine⟨hC,C,p,P,fp,rfl,hP,?_⟩;symm;exact⟨∅,q⟩
theorem amc:bq P w K mg base bF 3 A.NR A.NS ["dues"] (agJ K A.bX A.cG):=by
 have amd:= ~~~alU;exists T.Zc.ok MZ
 ·obtain⟨l,ps,ds,rfl,_⟩:=h
  rfl
 ·obtain⟨l,ps,ds,rfl,hd,um,nd,q⟩:=h;have hu:=qW hr;refine⟨_,%[a_ (i:=1) MZ.nd rfl OL_ adX,c8 c7 rfl (cS (aa 0)) (bA (i:=2) MZ.nd rfl (Or.inr rfl))
   (aL (As hu (aa 1) (U6 (aa 2) rfl) (gq (N:=["other", "due"]) (nt:=1) (fv:=[2]) ‹cM.of› rfl (cS (aa 0)) (λC s H fp=>(bA (i:=0) (show List.Nodup (["other", "due"]:List Str) by decide +kernel) rfl OL_)) (λC s H fp=>(jS (gh (bu amd nofun rfl T.ajG T.Zb.kp T.ajF .nil aN %[aa 1,aa 0|0])))) (λC s H fp=>(afq (K:=K) rfl (aa 0) rfl))) rfl)),br (aa 1)|1],?_⟩
  walk_at "rdt";intro kd BG;have rY:=hd.n;refine rl l (ps.map V.ref) (λi σ H'=>∃(x:Option V) (az:List (Key×V)),σ = [⇑l,⇑kd,x]/\aj H H'/\rL H' kd (ds.take i) ds az) (λQ q=>q) (aA.of (aj.put BG _ _ hd.l)) ⟨none,[],rfl,aj.put BG,⟨aE,eW _,λi d e=>by simp at e⟩⟩ (by rintro i σ H' _ ⟨_,_,rfl,s',_⟩;exact aA.of (s' _ _ hd.l)) ?_ ?_
  ·rintro i x σ H' N hN hx ⟨x0,az,rfl,s',hk⟩;obtain⟨p,hp,rfl⟩:=c9 hx;have hi:i<ds.length:=by rw[← rY];exact cJ hp
   have Gf:=hd.same s';obtain⟨dx,ap,la,ts,m,b,cA,hD⟩:=Gf.t i p ds[i] hp (aV hi);have dY:=hD.o;unfold m_ at dY;wp_walk using T,dY;have ur:=hk;refine iF l (ps.map V.ref) (λD j ys aB H2=>∃(u:Option V),ys=(((ds.take j).filter (rK ds[i])).map (·.n)).map V.int/\aB = [u,⇑p]/\H2 D=some (.lst ys)/\aj H' H2/\H' D=none) (λQ q=>q) (aA.of Gf.l) ?_ ?_ ?_ ?_
   ·intro D ji;exact⟨none,rfl,rfl,aE,aj.put ji,ji⟩
   ·rintro D j ys aB H2 ⟨u,rfl,rfl,e1,e2,e3⟩;refine⟨e1,gi ?_,aA.of (e2 _ _ Gf.l)⟩;have:=gW (rK ds[i]) (ds.take j);rw[dw] at this;simp only[List.length_map];lia
   ·rintro D j x ys aB H2 N2 iU gv ⟨u,rfl,rfl,e1,e2,e3⟩;obtain⟨p2,gP,rfl⟩:=c9 gv;have hj:j<ds.length:=by rw[← rY];exact cJ gP
    obtain⟨dx2,ap2,la2,uu,m2,b2,ame,kg⟩:=(Gf.same e2).t j p2 ds[j] gP (aV hj);have et:=oW (p:=rK ds[i]) (aV hj);have wu:=kg.o;unfold m_ at wu;wp_walk using T,wu;refine⟨p,p2,ds[i],ds[j],_,_,_,_,_,_,_,_,_,_,_,_,_,_,rfl,hD.same e2,kg,_,rfl,cK (λh1=>⟨_,_,_,wu,T.Qt,T.Ga,_,rfl,e1,iU _ _ _ ⟨_,?_,rfl,aE,aj.put2 e2 e3,e3⟩⟩) λh1=>iU _ _ _ ⟨_,?_,rfl,e1,e2,e3⟩⟩
    ·rw[et,if_pos h1,cj,cj];rfl
    ·rw[et,if_neg h1,jF]
   ·rintro D ys aB H2 ⟨u,rfl,rfl,e1,e2,e3⟩;rw[aM,rY,cZ] at e1;have aaV:=e2 _ _ hk.d;have nD:D≠kd:=λz=>by rw[z,aaV] at e1;cases e1
    refine⟨_,_,_,e2 _ _ dY,T.Qt,T.Ga,_,rfl,_,mS.k (k:=vM ds[i].n) aaV (by rw[tL];have:=hk.n;rw[dw] at this;lia),hN _ _ ⟨_,_,rfl,aj.put2 (s'.trans e2) BG,⟨aE,?_,λj d e=>?_⟩⟩⟩
    ·have:=agM az (vM ds[i].n) (V.ref D);have:=hk.n;rw[dw] at this ⊢;lia
    ·rw[List.getElem?_take] at e;split at e
     ·rename_i hj;rw[Jr];by_cases QS:j=i
      ·subst QS;rw[aV hi] at e;cases e;exact⟨D,by rw[if_pos rfl],nD,by rw[aJ nD];exact e1⟩
      ·have JQ:j<i:=by lia
       obtain⟨li,v1,v2,v3⟩:=hk.v j d (by rw[List.getElem?_take,if_pos JQ];exact e)
       have ne:vM d.n≠vM ds[i].n:=λz=>by
        have z:d.n=ds[i].n:=by unfold vM at z;exact Sum.inl.inj z
        have h1:(ds.map (·.n))[j]? = (ds.map (·.n))[i]? := by rw[jH,jH,e,aV hi];exact fX some z
        exact QS ((List.getElem?_inj (by simp;lia) nd).mp h1)
       exact⟨li,by rw[if_neg ne];exact v1,v2,by rw[aJ v2];exact e2 _ _ v3⟩
     ·cases e
  ·rintro σ H' ⟨x0,az,rfl,s',hk⟩;rw[aM,rY,cZ] at hk;walk_at "rdt";exact q kd az H' s' BG hk
theorem aaW:bq P w K mg base bF 3 A.Fv A.OB ["self", "zones", "lap", "skew", %[|73]] (aeA K):=by
 have amf:= ~~~alD;have amg:= ~~~alE;have amh:= ~~~alW;have ami:= ~~~alG;have Ra:= ~~~aaJ;have Rb:= ~~~aaK;exists T.ajZ.ok ai0
 ·obtain⟨C,p,dx,za,sa,bw,z,ak,cO,sw,rfl,_⟩:=h
  rfl
 ·obtain⟨C,p,dx,za,sa,bw,z,ak,cO,sw,rfl,cp,hp,hz,ok,h1,h2,h3,h4,hd,hS,so,q⟩:=h;refine⟨_,%[bY (e_ (bu amf nofun rfl T.ajQ T.Zu.kp T.ajP .nil aN %[aa 1|0])),bY (e_ (bu amg nofun rfl T.ajS T.Zv.kp T.ajR .nil aN %[aa 1,aa 2,aa 3|0])),bY (gT (aa 0) (bu ami nofun rfl T.ajY T.Zy.kp T.ajX .nil aN %[aa 1|0]) rfl),bY (e_ (bu amh nofun rfl T.ajU T.Zw.kp T.ajT .nil aN %[aa 4,cB eZ rfl T.dN dZ %[b9 (aa 0) rfl|0]|0])),bY (gT (aa 0) (aa 2) rfl),bY (gT (aa 0) (aa 3) rfl),bY (gT (aa 0) (jP Am rfl T.rX uP %[aa 4|0]) rfl),bY (gT (aa 0) (bu Ra nofun rfl T.ZA T.Qf.kp T.Zz .nil aN %[b9 (aa 0) rfl,ao|0]) rfl),gT (aa 0) (bu Rb nofun rfl T.ZD T.Qg.kp T.ZC .nil aN %[b9 (aa 0) rfl|0]) rfl|1],?_⟩
  refine b7 λN1 k1=>?_;wp_walk using cp.cl,cp.n1,cp.n2,cp.n3,cp.n4,cp.n5,cp.n6;refine⟨za,bw,z,rfl,hz,ok,λH1 s1=>k1 _ _ ?_⟩;refine b7 λN2 k2=>?_;wp_walk using cp.cl,cp.n1,cp.n2,cp.n3,cp.n4,cp.n5,cp.n6;refine⟨za,bw,z,ak,cO,rfl,hz.same s1,ok,h1,h2,h3,h4,hd,k2 _ _ ?_⟩;refine b7 λN3 k3=>?_;wp_walk using cp.cl,cp.n1,cp.n2,cp.n3,cp.n4,cp.n5,cp.n6;refine⟨za,bw,z,rfl,hz.same s1,ok,λa1 H2 s2 n1 e1=>?_⟩;have gP:=(s1.trans s2) _ _ hp;have iH:a1≠p:=(bT (s1 _ _ hp) n1).symm;have cl:=tK z λp hp=>(ok.r p hp).1;have amj:=ok.DU;have c2:=ok.s2;have l_:SameBut p H H2:=.of (s1.trans s2);have fr1:H a1=none:=s1.free n1;wp_walk using cp.cl,cp.n1,cp.n2,cp.n3,cp.n4,cp.n5,cp.n6,gP;refine k3 _ _ ?_;refine b7 λN4 k4=>?_;wp_walk using cp.cl,cp.n1,cp.n2,cp.n3,cp.n4,cp.n5,cp.n6;refine⟨_,.inl (aA.of ((aJ iH).trans e1)),?_⟩;have Q8:∀ {H':Hp},SameBut p H H'->aA K H' sa (sw.map V.int):=λ{H'} sb=>by
   rcases hS with(h | ⟨o,h⟩) | h
   ·exact .inl (.inl (sb _ _ h (iy h hp (by intro z;cases z))))
   ·exact .inl (.inr ⟨o,sb _ _ h (iy h hp (by intro z;cases z))⟩)
   ·exact .inr h
  refine⟨sa,sw,_,rfl,Q8 l_.put,?_,?_,k4 _ _ ?_⟩
  ·simpa only[List.length_map,cl] using so
  ·simp only[List.length_map];lia
  refine b7 λN5 k5=>?_;wp_walk using cp.cl,cp.n1,cp.n2,cp.n3,cp.n4,cp.n5,cp.n6;refine k5 _ _ ?_;refine b7 λN6 k6=>?_;wp_walk using cp.cl,cp.n1,cp.n2,cp.n3,cp.n4,cp.n5,cp.n6;refine k6 _ _ ?_;refine b7 λN7 k7=>?_;wp_walk using cp.cl,cp.n1,cp.n2,cp.n3,cp.n4,cp.n5,cp.n6;refine⟨_,.inl (Q8 l_.put),λa2 n2=>?_⟩;have kU:p≠a2:=bT aE n2;have n2':H2 a2=none:=by rw[aJ kU.symm] at n2;exact n2
  wp_walk using cp.cl,cp.n1,cp.n2,cp.n3,cp.n4,cp.n5,cp.n6,aJ kU;refine k7 _ _ ?_;have na2:a1≠a2:=bT e1 n2';have uv:SameBut p H (upd (upd (upd H2 p (HO.ins C dx [(Str.ofString %[|15],V.ref a1),(Str.ofString "lap",V.int ak),(Str.ofString "skew",V.int cO)])) a2 (HO.lst (List.map V.int sw))) p
   (HO.ins C dx [(Str.ofString %[|15],V.ref a1),(Str.ofString "lap",V.int ak),(Str.ofString "skew",V.int cO),(Str.ofString %[|73],V.ref a2)])):=(l_.put.step (aj.put n2)).put
  have AW:=e1;have fr2:H a2=none:=(s1.trans s2).free n2';generalize Rc:upd (upd (upd H2 p _) a2 _) p _=H3 at uv ⊢;have p3:H3 p=some (HO.ins C dx [(Str.ofString %[|15],V.ref a1),(Str.ofString "lap",V.int ak),(Str.ofString "skew",V.int cO),(Str.ofString %[|73],V.ref a2)]):=by rw[← Rc,aE]
  have q1:H3 a1=some (.lst ((counts z).map V.int)):=by rw[← Rc,aJ iH,aJ na2,aJ iH];exact e1
  have q2:H3 a2=some (.lst (sw.map V.int)):=by rw[← Rc,aJ kU.symm,aE]
  have cm:∀c∈counts z,0<=c/\c<=1000:=λc hc=>by
   obtain⟨y,hy,rfl⟩:=q8 hc;have:=ok.r y hy;lia
  refine b7 λN8 k8=>?_;wp_walk using cp.cl,cp.n1,cp.n2,cp.n3,cp.n4,cp.n5,cp.n6,p3;refine⟨a1,counts z,0,rfl,aA.of q1,∅,cm,⋯,⋯,λa3 ts H4 s4 n3 Ge z4=>?_⟩
  have p4:=s4 _ _ p3;have nN:a3≠p:=(bT p3 n3).symm;have u_:H a3=none:=by
   cases e:H a3 with
   | none=>rfl
   | some o=>rw[uv _ _ e nN] at n3;cases n3
  have Rf:∀t∈ts,t≠p:=λt ht=>(bT p3 (Ge t ht)).symm;have frt:∀t∈ts,H t=none:=λt ht=>by
   cases e:H t with
   | none=>rfl
   | some o=>have:=uv _ _ e (Rf t ht);rw[Ge t ht] at this;cases this
  wp_walk using cp.cl,cp.n1,cp.n2,cp.n3,cp.n4,cp.n5,cp.n6,p4;refine k8 _ _ ?_;have z5:=z4.keep (H':=upd H4 p (HO.ins C dx [(Str.ofString %[|15],V.ref a1),(Str.ofString "lap",V.int ak),(Str.ofString "skew",V.int cO),(Str.ofString %[|73],V.ref a2),(Str.ofString %[|13],V.ref a3)])) (aJ nN) λt ht=>aJ (Rf t ht);have zl:(gR (counts z) 0).length<=1000000:=by
   have:=DV (s:=0) ⋯ (counts z) 0 cm
   have e:(counts z).length<=120:=by lia
   unfold gR;lia
  wp_walk using cp.cl,cp.n1,cp.n2,cp.n3,cp.n4,cp.n5,cp.n6;refine⟨a3,ts,_,rfl,z5,zl,λa4 H5 s5 n4 e4=>?_⟩;have pA:a4≠p:=(bT aE n4).symm;have sb5:SameBut p H H5:=((uv.step s4).put).step s5;have n4':H4 a4=none:=by rw[aJ pA] at n4;exact n4
  have fr4:H a4=none:=by
   cases e:H a4 with
   | none=>rfl
   | some o=>rw[(uv.step s4) _ _ e pA] at n4';cases n4'
  wp_walk using cp.cl,cp.n1,cp.n2,cp.n3,cp.n4,cp.n5,cp.n6,s5 _ _ aE;refine q _ dx a1 a2 a3 a4 ts sb5.put ?_ aE (q9.lit cp aE ?_ ?_ ?_ ?_)
  ·intro b hb;simp only[List.mem_cons] at hb;rcases hb with rfl | rfl | rfl | rfl | hb
   ·exact fr1
   ·exact fr2
   ·exact u_
   ·exact fr4
   ·exact frt b hb
  ·rw[aJ iH];exact s5 _ _ ((aJ iH).trans (s4 _ _ q1))
  ·rw[aJ kU.symm];exact s5 _ _ ((aJ kU.symm).trans (s4 _ _ q2))
  ·exact(z5.same s5).keep (aJ nN) λt ht=>aJ (Rf t ht)
  ·rw[aJ pA];exact e4
theorem amk:bq P w K mg base bF 3 A.OU A.OV [%[|15], %[|44], %[|13], %[|27]] (af6 K A.bf (rD iT) (rE %[|16])):=by
 have aml:= ~~~alL;have amm:= ~~~al1;exists T.ZR.ok yy
 ·obtain⟨ra,na,d,sp,rc,ts,z,bz,rfl,_⟩:=h
  rfl
 ·obtain⟨ra,na,d,sp,rc,ts,z,bz,rfl,Gd,h2,l8,s0,s1,hc,hz,hlen,hd,yc,aaX,tab,en,q⟩:=h;have hu:=qW hr;refine⟨_,%[a_ (i:=4) yy.nd rfl OL_ (fj au),a_ (i:=5) yy.nd rfl OL_ (jP afS rfl T.QK boot_dict %[pv 3|0]),c8 c7 rfl (cS (bu aml nofun rfl T.aky T.ZN.kp T.akx .nil aN %[pv 2,pv 3|0])) (bA (i:=6) yy.nd rfl OL_)
   %[a_ (i:=7) yy.nd rfl OL_ (aI pY (pv 2) (pv 6) %[|2]),a_ (i:=8) yy.nd rfl OL_ (bu amm nofun rfl T.akC T.ZQ.kp T.akB .nil aN %[pv 0,pv 1,aI qT (pv 7) ao %[|2],pv 5|0]),cF (cC IM (pv 8) i6 (bB _)) iM bW,As hu (pv 5) (pv 8) eK rfl,e_ (lY lP nX nY mQ (pv 4) %[dB %[pv 6,pv 7,pv 8|0]|0])|1],br (pv 4)|1],?_⟩
  symm;refine λl hl=>?_;have bk:(dD bz).map (λx=>x.1)=bz.map kT:=by unfold dD;rw[List.map_map];rfl
  refine⟨_,aj.put hl _ _ hd,by rw[bk];exact yc,λu nu=>?_⟩
  have Rg:=(aj.put (o:=.lst []) hl).trans (aj.put (o:=.dT (dD bz)) nu);have nuH:H u=none:=(aj.put (o:=.lst []) hl).free nu;refine tM ?_;symm;refine⟨na,d,ts,z,dD bz,rfl,hz.same Rg,hlen,Rg _ _ hd,λb H2 s2 nb eb=>⟨b,rfl,?_⟩⟩;rw[Er,pI] at eb;have s3:=Rg.trans s2;have el:H2 l=some (.lst []):=s2 _ _ (aj.put nu _ _ aE);have eu:H2 u=some (.dT (dD bz)):=s2 _ _ aE;have lu:l≠u:=bT aE nu;have Gg:b≠l:=(bT (aj.put nu _ _ aE) nb).symm;have hbu:b≠u:=(bT aE nb).symm;refine oH.by b ((gb bz 0 z).map (V.int ∘ λ(n:Nat)=>(n:Int))) (λi σ H'=>∃x y w us os ms,σ = [⇑ra,↥sp,⇑na,⇑d,⇑l,⇑u,x,y,w]/\Kp A.bf (rD iT) (rE %[|16]) H H'/\
    H' b=some (.lst ((gb bz 0 z).map (V.int ∘ λ(n:Nat)=>(n:Int))))/\H' u=some (.dT (dD (bz++ms.map λm=>m.2.2)))/\mZ rc sp z bz ((gb bz 0 z).take i) ms/\jW H' l ts us os ms/\∀t∈os,H t=none)
   (aA.of eb) ⟨none,none,none,[],[],[],rfl,Kp.of tab s3,eb,↑eu,.nil,⟨el,rfl,rfl,λi u m e=>by cases e⟩,λt z=>by cases z⟩ (by rintro i σ H' _ ⟨x,y,w,us,os,ms,rfl,k,hb,_⟩;exact aA.of hb) ?_ ?_
  ·rintro i x σ H' N hN hx ⟨x0,y0,w0,us,os,ms,rfl,k,hb,j0,hL,hM,qO⟩;obtain⟨n,hn,rfl⟩:=c9 hx;obtain⟨_,c,Gh,hcb⟩:=WJ (get_mem hn);rw[CU] at Gh;have lM:Zn H' na ts z:=⟨k.get tab hz.l,hz.n,λi t p e1 e2=>k.get tab (hz.t i t p e1 e2)⟩;wp_walk using Function.comp_apply;have hnl:n<ts.length:=by rw[hz.n];exact cJ Gh
   obtain⟨t,g1⟩:∃t,ts[n]? = some t:=⟨_,aV hnl⟩;have g2:(ts.map V.ref)[n]? = some (V.ref t):=by rw[jH,g1];rfl
   have ht:=lM.t n t c g1 Gh;have amn:=hL.len;rw[dw] at amn;have qy:=cJ hn;have bl:=af5 bz z;refine⟨_,lM.sq,_,lV g2,t,rfl,_,aK.of ht,_,rfl,?_⟩;refine⟨ra,u,c.1,sp,rc,bz++ms.map (λm=>m.2.2),rfl,k.seq tab Gd,h2,l8,s0,s1,hc,j0,k.t,λis H3 ord k3=>⟨λz=>absurd z (en _ _ _ (by rw[aM];lia) ord),λo to hf nto Rh=>?_⟩⟩
   have wz:=k3.get k.t j0;have ho:=af0 hf;have hM3:=hM.but k.t k3;have hM4:=hM3.other (o:=.dT (putK (dD (bz++ms.map λm=>m.2.2)) (kT o) (.bl true))) ⟨_,wz⟩;have kA:=(k.trans k3).put (o:=.dT (putK (dD (bz++ms.map λm=>m.2.2)) (kT o) (.bl true))) nuH wz;have l4:=hM4.l;refine⟨(by intro z;cases z),_,mS.t (k:=kT o) wz Rh (by rw[tL,dD,aM,e7,aM];lia),⟨_,aA.of l4⟩,λp np=>?_⟩
   have uw:=aj.put (o:=HO.tup [V.int (n:Int),V.ref t,V.ref to]) np;have e9:dD (bz++(ms++[(n,c,o)]).map λm=>m.2.2)=putK (dD (bz++ms.map λm=>m.2.2)) (kT o) (.bl true):=by
    rw[WK _ ho,cj,← sH];rfl
   have t3:=k3.get k.t ht;refine⟨_,uw _ _ l4,by rw[aM,hM.n];lia,hN _ _ ⟨_,_,_,us++[p],os++[to],ms++[(n,c,o)],rfl,?_,?_,?_,?_,?_,?_⟩⟩
   ·exact(kA.step uw).put hl (uw _ _ l4)
   ·rw[aJ Gg];refine uw _ _ ?_;rw[aJ hbu];exact k3.get k.t hb
   ·rw[aJ lu.symm,e9];exact uw _ _ aE
   ·rw[take_succ_get hn];exact hL.snoc Gh ord hf
   ·refine(hM4.same uw).snoc (m:=(n,c,o)) aE g1 (uw _ _ ?_) (uw _ _ ?_)
    ·rw[aJ (iy t3 wz (by intro z;cases z))];exact t3
    ·rw[aJ (iy Rh wz (by intro z;cases z))];exact Rh
   ·intro t' mz;rcases fB.mp mz with h' | h'
    ·exact qO t' h'
    ·rw[fV.mp h'];exact k.free nto
  ·rintro σ H' ⟨x,y,w,us,os,ms,rfl,k,hb,j0,hL,hM,qO⟩;symm;rw[aM,cZ] at hL;exact q l us os ms H' k hl qO hL hM
theorem amo:bq P w K mg base bF 3 A.Pb A.Pc [%[|14], %[|11], %[|12], %[|22]] (agy K [A.bK,A.bG]):=by
 have aaY:= ~~~alZ;exists T.ZW.ok ug
 ·obtain⟨C,p,t,sp,z,ak,sk,sw,za,bw,ca,sa,nc,fp,r,b,c,rfl,_⟩:=h
  rfl
 ·obtain⟨C,p,t,sp,z,ak,sk,sw,za,bw,ca,sa,nc,fp,r,b,c,rfl,hC,hP,nk,hS,ok,eB,r0,r1,q⟩:=h;refine⟨_,%[a_ (i:=4) ug.nd rfl OL_ (qR DK (gq (N:=[%[|29], %[|14], %[|12]]) (nt:=1) (fv:=[0,2]) ‹cM.of› rfl (lR rfl T.gK %[aI pY (aI bM (aa 1) ao %[|2]) (aI bM (aa 2) ao %[|2]) %[|2]|0]) (λC s H fp=>(bA (i:=0) (show List.Nodup ([%[|29], %[|14], %[|12]]:List Str) by decide +kernel) rfl OL_)) (λC s H fp=>(jS (cC qM (qb (aa 1) T.aaF aaY nofun T.ZJ .nil aN %[aI (j_ (K:=K) rfl) (aa 2) ao %[|2],aa 0|0]) i6 (bB _)))) (λC s H fp=>(aa 0))) qP (qQ ao)),a_ (i:=5) ug.nd rfl OL_ (aF gc (aa 3) (aF fG (cB eZ rfl T.dN dZ %[aa 4|0]) ao)),a_ (i:=4) ug.nd rfl OL_ (aF Jp (qR DK (aa 4) (qQ (aa 5)) qP) (qR DK (aa 4) qP (qQ (aa 5)))),rJ (j9 (eF A7 (aF gc (aF nH (aa 3) ao) ao) ao (bB _)) (aL (a_ (i:=4) ug.nd rfl OL_ (agf (aa 4) (ve vf ao)))) bW),a_ (i:=6) ug.nd rfl OL_ (fj au),c8 c7 rfl (lR rfl T.gK %[cB eZ rfl T.dN dZ %[aa 4|0]|0]) (bA (i:=7) ug.nd rfl OL_)
   %[a_ (i:=8) ug.nd rfl OL_ (qb (aa 0) T.aaF aaY nofun T.ZJ .nil aN %[aI bM (aa 2) ao %[|2],aI b_ (aa 4) (aa 7) %[|2]|0]),e_ (lY lP nX nY mQ (aa 6) %[dB %[aF fG (aF oZ ao (aa 7)) (aF gc (aF nH (aa 3) ao) ao),aa 8,ao,eK,dB au,i6,fj %[dB %[aI bM (aa 2) ao %[|2],aI b_ (aa 4) (aa 7) %[|2]|0]|0]|0]|0])|1],br (aa 6)|1],?_⟩
  symm;have Gi:=aK.of (K:=K) hS.o;have kp:=aK.of (K:=K) eB;have cr:1<=(counts z).getD r.toNat 0/\(counts z).getD r.toNat 0<=60:=by
   obtain⟨y,hy,e⟩:=q8 (get_mem (xR (counts z) (show r.toNat<(counts z).length by lia)))
   have:=ok.zl.ok.r y hy;rw[e];lia
  refine AD ((counts z).getD r.toNat 0) (λD i ys aB H2=>∃(u:Option V) (xs:_I),ys=xs.map V.int/\aB = [u,⇑p,⇑sp]/\H2 D=some (.lst ys)/\aj H H2/\H D=none/\xs.length<=i/\i<=60/\∀x∈xs,(r,x)∈nc/\0<=x/\x<(counts z).getD r.toNat 0) (λQ q=>?_) ∅ ∅ ?_ ?_ ?_ ?_
  ·symm;refine⟨_,Gi,_,rfl,_,kp,_,rfl,?_⟩;symm;exact⟨_,aA.of hS.c,_,g6 r0 r1,q⟩
  ·intro D hD;exact⟨none,[],rfl,rfl,aE,aj.put hD,hD,bx _,∅,λ_ h=>nomatch h⟩
  ·rintro D i ys aB H2 ⟨u,xs,rfl,rfl,e1,e2,e3,e4,e5,e6⟩;exact⟨e1,gi (by rw[aM];lia)⟩
  ·rintro D i ys aB H2 N hN hi ⟨u,xs,rfl,rfl,e1,e2,e3,e4,e5,e6⟩;symm;obtain⟨pq,a1,a2,a3,a4,cE,fs,uo,hA⟩:=hP.same e2;have i1:(i:Int)<(counts z).getD r.toNat 0:=by lia
   refine⟨C,pq,fs,hA.o,hC,hA.g7,_,e2.gS kp,_,rfl,C,p,bJ z ak sk sw nc,fp,r,(i:Int),rfl,hC,hP.same e2,r0,r1,∅,i1,λH3 s3=>?_⟩
   show if ¬ (dP (qZ nc) (kT (r,(i:Int)))).getD .aY = .aY then _ else _
   by_cases jY:(r,(i:Int))∈nc
   ·obtain⟨j,ej,ev⟩:=Xb jY;rw[ev,Option.getD_some,if_pos (by simp)]
    refine⟨s3 _ _ e1,hN _ _ _ ⟨_,xs++[(i:Int)],by rw[cj];rfl,rfl,aE,aj.put2 (e2.trans s3) e3,e3,by simp;lia,∅,λx hx=>?_⟩⟩
    rcases fB.mp hx with hx | hx
    ·exact e6 x hx
    ·rw[fV.mp hx];exact⟨jY,∅,i1⟩
   ·rw[agv jY,Option.getD_none,if_neg (by simp)]
    exact hN _ _ _ ⟨_,xs,rfl,rfl,s3 _ _ e1,e2.trans s3,e3,∅,∅,e6⟩
  ·rintro D ys aB H2 ⟨u,xs,rfl,rfl,e1,e2,e3,e4,e5,e6⟩;symm;refine⟨_,aA.of e1,λl1 n1=>?_⟩;rw[V4 ⋯]
   have Ri:yg (counts z) nc r (xs.take (Int.toNat 7)):=⟨λx hx=>e6 x (pJ hx),by rw[dw];lia⟩
   have p7:(xs.take (Int.toNat 7)).length<=7:=by rw[dw];exact Nat.min_le_left _ _
   generalize xs.take (Int.toNat 7)=ys at Ri p7 ⊢;have s1:=e2.trans (aj.put (o:=.lst (ys.map V.int)) n1);have h1:upd H2 l1 (.lst (ys.map V.int)) l1=some (.lst (ys.map V.int)):=aE;generalize upd H2 l1 (.lst (ys.map V.int))=H3 at s1 h1 ⊢;refine⟨_,.inl (aA.of h1),∅,_,aA.of h1,λl2 n2=>?_⟩
   rw[aM];have a0:=fR c (show (ys.length:Int)+1≠0 by lia)
   have a1:=fQ c (show (0:Int)<(ys.length:Int)+1 by lia)
   generalize c % ((ys.length:Int)+1)=at' at a0 a1 ⊢;rw[agx a0];have s2:=aj.put (o:=.lst ((ys.drop at'.toNat).map V.int)) n2;have h2:upd H3 l2 (.lst ((ys.drop at'.toNat).map V.int)) l2=some (.lst ((ys.drop at'.toNat).map V.int)):=aE;generalize upd H3 l2 (.lst ((ys.drop at'.toNat).map V.int))=H4 at s2 h2 ⊢;refine⟨_,aA.of (s2 _ _ h1),λl3 n3=>?_⟩;rw[V4 a0];have s3:=aj.put (o:=.lst ((ys.take at'.toNat).map V.int)) n3;generalize upd H4 l3 (.lst ((ys.take at'.toNat).map V.int))=H5 at s3 ⊢;refine⟨_,s3 _ _ h2,by simp only[List.length_map,List.length_drop,List.length_take];lia,λl4 n4=>?_⟩
   rw[← cj];have vR:yg (counts z) nc r (ys.drop at'.toNat++ys.take at'.toNat):=Ri.sub (λy hy=>by
    rcases fB.mp hy with h | h
    ·exact CF h
    ·exact pJ h) (by rw[e7,wU,dw];lia)
   have Gj:(ys.drop at'.toNat++ys.take at'.toNat).length<=7:=by rw[e7,wU,dw];lia
   generalize ys.drop at'.toNat++ys.take at'.toNat=us at vR Gj ⊢;have s4:=(s1.trans (s2.trans s3)).trans (aj.put (o:=.lst (us.map V.int)) n4);have h4:upd H5 l4 (.lst (us.map V.int)) l4=some (.lst (us.map V.int)):=aE;generalize upd H5 l4 (.lst (us.map V.int))=H6 at s4 h4 ⊢;refine⟨λσ H7=>∃(l5:Addr) (vs:_I),σ = [⇑p,⇑t,⇑sp,↥c,⇑l5,↥at',none,none,none]/\aj H H7/\H7 l5=some (.lst (vs.map V.int))/\yg (counts z) nc r vs/\vs.length<=7,cK (λ_=>⟨_,aA.of h4,λl5 n5=>⟨l5,us.reverse,rfl,s4.trans (aj.put n5),by rw[aE,List.map_reverse],vR.sub (λy hy=>by simpa using hy) (by simp),↑Gj⟩⟩) λ_=>⟨l4,us,rfl,s4,h4,vR,Gj⟩,?_⟩
   rintro σ H7 ⟨l5,vs,rfl,s7,h5,pl5,p75⟩;clear h4 s4 vR Gj n4 s3 n3 s2 h2 n2 a0 a1 s1 h1 n1 e1 e2 e3 e4 e5 e6 Ri p7;symm;intro l nl;have yK:=hP.same s7;have kp7:=s7.gS kp;have c0:=fR (c / 16) (show (2:Int)≠0 by decide)
   have c1:=fQ (c / 16) (show (0:Int)<2 by decide)
   refine DW vs.length (λi σ H8=>∃(x y:Option V) (ts:_A) (ks:List Kn),σ = [some (.ref p),some (.ref t),some (.ref sp),some (.int c),some (.ref l5),some (.int at'),some (.ref l),x,y]/\aj H7 H8/\oV H7 H8 l ts ks/\ks.length=i/\(∀k∈ks,ng nc k/\k.n<2*(i:Int))/\ks.Pairwise λa b=>a.n<b.n) (λQ q=>?_) ∅ ⟨none,none,[],[],rfl,aj.put nl,⟨aE,rfl,nl,λi t k e=>by simp at e⟩,rfl,(λ_ h=>nomatch h),.nil⟩ ?_ ?_
   ·symm;refine⟨_,.inl (aA.of (aj.put nl _ _ h5)),?_⟩;rw[aM];exact q
   ·rintro i σ H8 N hN hi ⟨x,y,ts,ks,rfl,s8,hg,gn,gk,gp⟩;symm;obtain⟨pq,a1,a2,a3,a4,cE,fs,uo,hA⟩:=yK.same s8;have vi:vs[i]? = some vs[i]:=aV hi;obtain⟨w1,w2,w3⟩:=pl5.i vs[i] (dU hi);refine⟨C,pq,fs,hA.o,hC,hA.g7,_,s8.gS kp7,_,rfl,_,aA.of (s8 _ _ h5),_,lV (by rw[jH,vi];rfl),C,p,bJ z ak sk sw nc,fp,r,vs[i],rfl,hC,yK.same s8,r0,r1,w2,w3,λH9 s9=>?_⟩
    obtain⟨j,ej,ev⟩:=Xb w1;have ev':(dP (qZ (bJ z ak sk sw nc).nc) (kT (r,vs[i]))).getD .aY = .int (j:Int):=by show (dP (qZ nc) (kT (r,vs[i]))).getD .aY=_;rw[ev];rfl
    rw[ev']
    try symm
    have Rj:=hg.same s9;refine⟨⟨_,aA.of Rj.hl⟩,λe1 ne1=>?_⟩;have t1:=aj.put (o:=.tup []) ne1;have he1:upd H9 e1 (.tup []) e1=some (.tup []):=aE;generalize upd H9 e1 (.tup [])=HA at t1 he1 ⊢;have Rk:=s8.trans s9;refine⟨_,(Rk.trans t1).gS kp7,_,rfl,_,aA.of (t1 _ _ (Rk _ _ h5)),_,lV (by rw[jH,vi];rfl),λe2 ne2 e3 ne3 e4 ne4=>?_⟩
    have t2:=aj.put (o:=.tup [V.int r,V.int vs[i]]) ne2;have he2:=Zn.one (c:=(r,vs[i])) (aE (H:=HA) (a:=e2)) ne3;have t3:=t2.trans (aj.put (o:=.lst [V.ref e2]) ne3);generalize upd (upd HA e2 (.tup [V.int r,V.int vs[i]])) e3 (.lst [V.ref e2])=HB at t3 he2 ne4 ⊢;have t4:=aj.put (o:=.tup [V.int (2*(i:Int)+c / 16 % 2),V.int (j:Int),V.int 1,V.bl false,V.ref e1,V.aY,V.ref e3]) ne4;have t9:=t1.trans (t3.trans t4);have nel:e3≠l:=by
     intro z;have:=t1 _ _ Rj.hl;rw[← z] at this;have n2:HA e3=none:=t2.free ne3;rw[n2] at this;cases this
    have hK:gF (upd HB e4 (.tup [V.int (2*(i:Int)+c / 16 % 2),V.int (j:Int),V.int 1,V.bl false,V.ref e1,V.aY,V.ref e3])) e4 ⟨2*(i:Int)+c / 16 % 2,(j:Int),1,false,[],none,[(r,vs[i])]⟩ e1 e3 [e2]:=⟨aE,(t3.trans t4) _ _ he1,he2.same t4⟩;have hgA:=Rj.same t9;have jl:j<nc.length:=cJ ej;refine⟨_,hgA.hl,by rw[aM,hg.n,gn];lia,hN _ _ ⟨_,_,ts++[e4],ks++[_],rfl,aj.put2 (Rk.trans t9) nl,hgA.snoc hK nel,by simp[gn],λk hk=>?_,?_⟩⟩
    ·rcases fB.mp hk with hk | hk
     ·have:=gk k hk;exact⟨this.1,by have:=this.2;lia⟩
     ·rw[fV.mp hk];exact⟨⟨by dsimp only;lia,by dsimp only;lia,by dsimp only;lia,by dsimp only;lia,(agw ej).symm,qd.nil,λx hx=>by cases hx⟩,by dsimp only;lia⟩
    ·rw[CK];refine⟨gp,by simp,λk hk k' g9=>?_⟩
     rw[fV.mp g9];have:=(gk k hk).2;dsimp only;lia
   ·rintro σ H8 ⟨x,y,ts,ks,rfl,s8,hg,gn,gk,gp⟩;symm;exact q l ts ks H8 (s7.trans s8) (s7.free nl) hg.yf ⟨λk hk=>(gk k hk).1,gp,∅⟩
theorem amq:bq P w K mg base bF 3 A.Pd A.Pe [%[|11], %[|12], %[|10]] (agu K):=by
 have r_:= ~~~BF;exists T.ZX.ok Bg
 ·obtain⟨t,sp,kl,z,ak,sk,sw,za,bw,ca,sa,r,b,bH,ks,rfl,_⟩:=h
  rfl
 ·obtain⟨t,sp,kl,z,ak,sk,sw,za,bw,ca,sa,r,b,bH,ks,rfl,hS,ok,eB,r0,r1,b0,b1,hk,kc,Rl,q⟩:=h;refine⟨_,%[c8 c7 rfl (cS (aa 2)) (bA (i:=3) Bg.nd rfl OL_)
   (aL (a_ (i:=1) Bg.nd rfl OL_ (bu r_ nofun rfl T.Bw T.yD.kp T.Bv .nil aN %[aa 0,aI bM (aa 1) ao %[|2],aI bM (aa 1) ao %[|2],aI bM (aa 3) ao %[|2]|0]))),a_ (i:=4) Bg.nd rfl OL_ (fj au),c8 c7 rfl (lR rfl T.gK %[cB eZ rfl T.dN dZ %[aa 2|0]|0]) (bA (i:=5) Bg.nd rfl OL_)
   (aL (e_ (lY lP nX nY mQ (aa 4) %[aF Ah (aF Ah (qR Ag (aI b_ (aa 2) (aa 5) %[|2]) qP (qQ ao)) (dB %[aF pX (aF pX (aF fh (aI bM (aa 1) ao %[|2]) (cB eZ rfl T.dN dZ %[aa 2|0])) ao) (aa 5)|0])) (qR Ag (aI b_ (aa 2) (aa 5) %[|2]) (qQ ao) qP)|0]))),br (aa 4)|1],?_⟩
  symm;have dg:=hk.n;have pk:=ok.pl [];have l2:(bJ z ak sk sw []).ak<=1000000000:=ok.l2;have r1':r<((bJ z ak sk sw []).rc.length:Int):=r1;refine rl kl (bH.map V.ref) (λi σ H'=>∃(x:Option V) (u:Addr) (st:Int×Int),σ = [⇑t,⇑u,⇑kl,x,none,none]/\aj H H'/\H' u=some (.tup [.int st.1,.int st.2])/\0<=st.1/\st.1<(counts z).length/\0<=st.2/\st.2<=2000000000000+48000000000*(i:Int)) (λQ q=>q) hk.sq ⟨none,sp,(r,b),rfl,aj.refl _,eB,r0,r1,b0,by dsimp only;lia⟩ (by rintro i σ H' _ ⟨_,_,_,rfl,s',_⟩;exact(hk.same s').sq) ?_ ?_
  ·rintro i x σ H' N hN hx ⟨x0,u,st,rfl,s',hu,u0,u1,t0,t1⟩;obtain⟨a,ha,rfl⟩:=c9 hx;have hi:i<ks.length:=by rw[← dg];exact cJ ha
   obtain⟨b',cl,aX,hK⟩:=(hk.same s').t i a ks[i] ha (aV hi);obtain⟨c1,c2⟩:=kc ks[i] (dU hi);have k1:=aK.of (K:=K) hK.o;have k2:=aK.of (K:=K) hu;symm;have eb:=Ex pk l2 ks[i].c st c1;have ei:=jx (bJ z ak sk sw []) (n:=((bJ z ak sk sw []).rc.length:Int)) ks[i].c st u0 u1 λq hq=>⟨(c1 q hq).1,(c1 q hq).2.1⟩;refine⟨_,k2,_,rfl,_,k2,_,rfl,_,k1,_,rfl,t,z,ak,sk,sw,za,bw,ca,sa,st.1,st.2,cl,aX,ks[i].c,rfl,hS.same s',ok,u0,u1,hK.c,c1,∅,λu2 H2 s2 nu ux=>hN _ _ ⟨_,u2,aQ (bJ z ak sk sw []) st ks[i].c,rfl,s'.trans s2,ux,ei.1,ei.2,∅,∅⟩⟩
  ·rintro σ H' ⟨x0,u,st,rfl,s',hu,u0,u1,t0,t1⟩;rw[aM,dg] at t1;symm;intro l nl;have ur:=hk.same s';have k2:=aK.of (K:=K) hu;refine DW ks.length (λi σ H2=>∃(x y:Option V) (ts:_A) (gG:List Kn),σ = [⇑t,⇑u,⇑kl,x0,⇑l,y]/\aj H' H2/\oV H' H2 l ts gG/\gG.length=i/\∀(j:Nat) (k:Kn),j<i->ks[j]? = some k->∃x,0<=x/\x<=10000000000000/\gG[j]? = some { k with f_:=some x }) (λQ q=>?_) ∅ ⟨none,none,[],[],rfl,aj.put nl,⟨aE,rfl,nl,λi t k e=>by simp at e⟩,rfl,λj k h=>absurd h ∅⟩ ?_ ?_
   ·symm;refine⟨_,.inl (ur.same (aj.put nl)).sq,?_⟩;rw[aM,dg];exact q
   ·rintro i σ H2 N hN hi ⟨x,y,ts,gG,rfl,s2,hg,gn,ge⟩;have fP:=ur.same s2;obtain⟨a,b',cl,aX,ha,hK1⟩:=ur.at hi;have ncl:cl≠l:=bT hK1.c.l nl;have hK:=hK1.same s2;have k1:=aK.of (K:=K) hK.o;symm;refine⟨⟨_,aA.of hg.hl⟩,_,fP.sq,_,lV ha,a,_,rfl,k1,by simp[_H.bU],λc1 Gk=>?_⟩
    rw[W_];have s3:=aj.put (o:=.tup [V.int ks[i].n,V.int ks[i].f,V.int ks[i].m,V.bl ks[i].w,V.ref b']) Gk;have yL:upd H2 c1 (.tup [V.int ks[i].n,V.int ks[i].f,V.int ks[i].m,V.bl ks[i].w,V.ref b']) c1=some (.tup [V.int ks[i].n,V.int ks[i].f,V.int ks[i].m,V.bl ks[i].w,V.ref b']):=aE;generalize upd H2 c1 (.tup [V.int ks[i].n,V.int ks[i].f,V.int ks[i].m,V.bl ks[i].w,V.ref b'])=H3 at s3 yL ⊢;refine⟨_,(s2.trans s3).gS k2,_,rfl,_,.inl (fP.same s3).sq,_,rfl,λp1 iH=>?_⟩;rw[aM,dg];have s4:=aj.put (o:=.tup [V.int (st.2+(ks.length:Int) - 1 - (i:Int))]) iH;have kQ:upd H3 p1 (.tup [V.int (st.2+(ks.length:Int) - 1 - (i:Int))]) p1=some (.tup [V.int (st.2+(ks.length:Int) - 1 - (i:Int))]):=aE;generalize upd H3 p1 (.tup [V.int (st.2+(ks.length:Int) - 1 - (i:Int))])=H4 at s4 kQ ⊢;refine⟨c1,rfl,_,aK.of (s4 _ _ yL),_,aK.of kQ,by simp,by simp,λe=>by simp at e,λ_ p2 kU=>?_⟩
    have s5:=aj.put (o:=.tup ([V.int ks[i].n,V.int ks[i].f,V.int ks[i].m,V.bl ks[i].w,V.ref b']++[V.int (st.2+(ks.length:Int) - 1 - (i:Int))])) kU;have gP:upd H4 p2 (.tup ([V.int ks[i].n,V.int ks[i].f,V.int ks[i].m,V.bl ks[i].w,V.ref b']++[V.int (st.2+(ks.length:Int) - 1 - (i:Int))])) p2=some (.tup ([V.int ks[i].n,V.int ks[i].f,V.int ks[i].m,V.bl ks[i].w,V.ref b']++[V.int (st.2+(ks.length:Int) - 1 - (i:Int))])):=aE;generalize upd H4 p2 (.tup ([V.int ks[i].n,V.int ks[i].f,V.int ks[i].m,V.bl ks[i].w,V.ref b']++[V.int (st.2+(ks.length:Int) - 1 - (i:Int))]))=H5 at s5 gP ⊢;have uy:=s3.trans (s4.trans s5);refine⟨_,(fP.same uy).sq,_,lV ha,a,_,rfl,uy.gS k1,by simp[_H.bU],λp3 nN=>?_⟩
    rw[Xa];have s6:=aj.put (o:=.tup [V.ref cl]) nN;have yM:upd H5 p3 (.tup [V.ref cl]) p3=some (.tup [V.ref cl]):=aE;generalize upd H5 p3 (.tup [V.ref cl])=H6 at s6 yM ⊢
    try symm
    refine⟨_,aK.of (s6 _ _ gP),_,aK.of yM,by simp,by simp,λe=>by simp at e,λ_ p4 pA=>?_⟩
    have s7:=aj.put (o:=.tup ([V.int ks[i].n,V.int ks[i].f,V.int ks[i].m,V.bl ks[i].w,V.ref b']++[V.int (st.2+(ks.length:Int) - 1 - (i:Int))]++[V.ref cl])) pA;have kW:=(uy.trans s6).trans s7;have wA:gF (upd H6 p4 (.tup ([V.int ks[i].n,V.int ks[i].f,V.int ks[i].m,V.bl ks[i].w,V.ref b']++[V.int (st.2+(ks.length:Int) - 1 - (i:Int))]++[V.ref cl]))) p4 { ks[i] with f_:=some (st.2+(ks.length:Int) - 1 - (i:Int))} b' cl aX:=⟨aE,kW _ _ hK.b,hK.c.same kW⟩;have hg7:=hg.same kW;refine⟨_,hg7.hl,by rw[aM,hg.n,gn];lia,hN _ _ ⟨x,_,ts++[p4],gG++[_],rfl,aj.put2 (s2.trans kW) nl,hg7.snoc wA ncl,by simp[gn],λj k hj e=>?_⟩⟩
    by_cases lE:j<i
    ·obtain⟨x',x0',x1',e'⟩:=ge j k lE e;exact⟨x',x0',x1',by rw[eU ∅];exact e'⟩
    ·have:j=i:=by lia
     subst this;rw[aV hi] at e;cases e;refine⟨_,?_,?_,by rw[eV ∅,gn,CT];rfl⟩
     ·lia
     ·lia
   ·rintro σ H2 ⟨x,y,ts,gG,rfl,s2,hg,gn,ge⟩;symm;exact q l ts gG H2 (s'.trans s2) (s'.free nl) hg.yf ⟨gn,λi k e=>ge i k (cJ e) e⟩
theorem amr:bq P w K mg base bF 3 A.Px A.Py [%[|11], %[|20], %[|21], %[|10], %[|23]] (ag9 K):=by
 have r_:= ~~~BF;exists T.Z8.ok Bh
 ·obtain⟨t,kl,b,z,ak,sk,sw,za,bw,ca,sa,r,bt,bH,ks,bg,rfl,_⟩:=h
  rfl
 ·obtain⟨t,kl,b,z,ak,sk,sw,za,bw,ca,sa,r,bt,bH,ks,bg,rfl,hS,ok,r0,r1,hk,kc,hb,q⟩:=h;have dg:=hk.n;refine⟨_,%[c8 c7 rfl (Dt (aa 4)) (bA (i:=5) Bh.nd rfl OL_)
   (aL (c8 c7 rfl (cS (aa 3)) (bA (i:=6) Bh.nd rfl OL_)
   (aL (cF (cC i_ (aI bM (aa 6) ao %[|2]) (aa 5) (bB _)) (aL (xx (bu r_ nofun rfl T.Bw T.yD.kp T.Bv .nil aN %[aa 0,aa 1,aa 2,aI bM (aa 6) ao %[|2]|0]) (kr rfl (dX (bA (i:=1) Bh.nd rfl OL_) (dX (bA (i:=2) Bh.nd rfl OL_) kq))))) bW)))),br (dB %[aa 1,aa 2|0])|1],?_⟩
  walk_at "rdt";refine rt b (bg.map V.int) (λi σ H'=>∃(st:Int×Int) (x y:Option V),st=rN (bJ z ak sk sw []) (r,bt) ks (bg.take i)/\0<=st.1/\st.1<(counts z).length/\σ = [⇑t,↥st.1,↥st.2,⇑kl,⇑b,x,y]/\aj H H') (λQ q=>q) (aK.of hb) ⟨(r,bt),none,none,rfl,r0,r1,rfl,aj.refl H⟩ (by rintro i σ H' _ ⟨st,x,y,_,_,_,rfl,s'⟩;exact aK.of (s' _ _ hb)) ?_ ?_
  ·rintro i x σ H' N hN hx ⟨st,x0,y0,e,yN,nj,rfl,s'⟩;obtain⟨n,hn,rfl⟩:=c9 hx;walk_at "rdt";refine rl kl (bH.map V.ref) (λj σ H2=>∃(cI:Int×Int) (w:Option V),cI=(ks.take j).foldl (λst k=>if k.n=n then aQ (bJ z ak sk sw []) st k.c else st) st/\0<=cI.1/\cI.1<(counts z).length/\σ = [⇑t,↥cI.1,↥cI.2,⇑kl,⇑b,↥n,w]/\aj H H2) (λQ q=>q) (hk.same s').sq ⟨st,y0,rfl,yN,nj,rfl,s'⟩ (by rintro j σ H2 _ ⟨cI,w,_,_,_,rfl,s2⟩;exact(hk.same s2).sq) ?_ ?_
   ·rintro j x σ H2 N2 iU gv ⟨cI,w,e2,a0,a1,rfl,s2⟩;obtain⟨t2,vU,rfl⟩:=c9 gv;have hj:j<ks.length:=by rw[← dg];exact cJ vU
    obtain⟨b2,cl,aX,hK⟩:=(hk.same s2).t j t2 ks[j] vU (aV hj);have tk:=take_succ_get (aV hj);obtain⟨c1,c2⟩:=kc ks[j] (dU hj);generalize ks[j] = k at *
    have ef:(ks.take (j+1)).foldl (λst k=>if k.n=n then aQ (bJ z ak sk sw []) st k.c else st) st=if k.n=n then aQ (bJ z ak sk sw []) cI k.c else cI:=by rw[tk,zj,← e2];rfl
    walk_at "rdt";refine⟨_,aK.of hK.o,_,rfl,rfl,?_⟩;walk_at "rdt";refine cK (λh1=>?_) λh1=>?_
    ·refine⟨_,aK.of hK.o,_,rfl,t,z,ak,sk,sw,za,bw,ca,sa,cI.1,cI.2,cl,aX,k.c,rfl,hS.same s2,ok,a0,a1,hK.c,c1,∅,λu H3 s3 nu hu=>?_⟩
     have i:=jx (bJ z ak sk sw []) (n:=(counts z).length) k.c cI a0 a1 λq hq=>⟨(c1 q hq).1,(c1 q hq).2.1⟩;exact⟨u,rfl,_,aK.of hu,rfl,_,_,rfl,_,_,rfl,rfl,iU _ _ ⟨aQ (bJ z ak sk sw []) cI k.c,_,by rw[ef,if_pos h1],i.1,i.2,rfl,s2.trans s3⟩⟩
    ·exact iU _ _ ⟨cI,_,by rw[ef,if_neg h1],a0,a1,rfl,s2⟩
   ·rintro σ H2 ⟨cI,w,e2,a0,a1,rfl,s2⟩;rw[aM,dg,cZ] at e2;refine hN _ _ ⟨cI,_,_,?_,a0,a1,rfl,s2⟩;rw[e2,e,take_succ_get hn];unfold rN;rw[zj];rfl
  ·rintro σ H' ⟨st,x0,y0,e,yN,nj,rfl,s'⟩;rw[aM,cZ] at e;subst e;walk_at "rdt";exact λu nu=>q u _ (s'.trans (aj.put nu)) (s'.free nu) aE
theorem ams:bq P w K mg base bF 3 A.PD A.PF [%[|19], %[|10]] (aha K):=by
 have Rm:= ~~~aaT;have Rn:= ~~~aaR;have BH:= ~~~Q9;exists T.Z9.ok YR
 ·obtain⟨f,kl,bH,ks,bg,rfl,_⟩:=h
  rfl
 ·obtain⟨f,kl,bH,ks,bg,rfl,hf,hk,n60,up,od,q⟩:=h;have yO:=hr.U8;have dg:=hk.n;have bl:bg.length=ks.length:=by have:=od.p.length_eq;simpa using this
  refine⟨_,%[cF (PW.pt (gB (iB (gh (bu BH nofun rfl T.Qo T.FZ.kp T.Qn .nil aN %[aa 0|0]))) (iL (cC (aef yO) (cB Xz rfl T.yG C3 %[aa 0|0]) (gq (N:=[%[|18]]) (nt:=1) (fv:=[]) ‹cM.of› rfl (cS (aa 1)) (λC s H fp=>(bA (i:=0) (show List.Nodup ([%[|18]]:List Str) by decide +kernel) rfl OL_)) (λC s H fp=>jR) (λC s H fp=>(aI (j_ (K:=K) rfl) (aa 0) ao %[|2]))) (bB _))))) (aL (br eK)) bW,c8 c7 rfl (lR rfl T.gK %[cB eZ rfl T.dN dZ %[aa 0|0]|0]) (bA (i:=2) YR.nd rfl OL_)
   (aL (cF (cC Vn (aI bM (aa 0) (aa 2) %[|2]) (bu Rm nofun rfl T.Z3 T.Qk.kp T.Z2 .nil aN %[bu Rn nofun rfl T.Z7 T.Qm.kp T.Z6 .nil aN %[aa 1,qR Ag (aa 0) qP (qQ (aa 2))|0]|0]) rfl) (aL (br eK)) bW)),br eK|1],?_⟩
  walk_at "rdt";refine⟨f,bg,rfl,hf,λH1 s1=>⟨_,rfl,ite_no (by simp) ⟨bg,aK.of (s1 _ _ hf),∅,λl ms nl pm srt=>?_⟩⟩⟩
  have es:ms=ks.map (·.n):=XD (pm.trans od.p) srt (qC.mpr up);subst es;have s2:=aj.put (o:=.lst ((ks.map (·.n)).map V.int)) nl;have pZ:upd H1 l (.lst ((ks.map (·.n)).map V.int)) l=some (.lst ((ks.map (·.n)).map V.int)):=aE;generalize upd H1 l (.lst ((ks.map (·.n)).map V.int))=H2 at *
  have fP:=hk.same (s1.trans s2);refine iF kl (bH.map V.ref) (λD i ys aB H3=>∃(u:Option V),ys=((ks.take i).map (·.n)).map V.int/\aB = [u]/\H3 D=some (.lst ys)/\aj H2 H3/\H2 D=none) (λQ q=>q) fP.sq ?_ ?_ ?_ ?_
  ·intro D hD;exact⟨none,rfl,rfl,aE,aj.put hD,hD⟩
  ·rintro D i ys aB H3 ⟨u,rfl,rfl,e1,e2,e3⟩;exact⟨e1,gi (by simp only[List.length_map,List.length_take];lia),(fP.same e2).sq⟩
  ·rintro D i x ys aB H3 N hN hx ⟨u,rfl,rfl,e1,e2,e3⟩;obtain⟨t,ht,rfl⟩:=c9 hx;have hi:i<ks.length:=by rw[← dg];exact cJ ht
   obtain⟨b2,cl,aX,hK⟩:=(fP.same e2).t i t ks[i] ht (aV hi);walk_at "rdt";refine⟨_,aK.of hK.o,_,rfl,e1,hN _ _ _ ⟨_,?_,rfl,aE,aj.put2 e2 e3,e3⟩⟩;rw[take_succ_get (aV hi),cj,cj];rfl
  ·rintro D ys aB H3 ⟨u,rfl,rfl,e1,e2,e3⟩;rw[aM,dg,cZ] at e1;have s3:=(s1.trans s2).trans e2;refine⟨D,rfl,_,aA.of (e2 _ _ pZ),aA.of e1,λv hv=>?_,?_⟩
   ·obtain⟨n,_,rfl⟩:=dW.mp hv;exact⟨λ_ z=>(nomatch z),λ_ z=>(nomatch z)⟩
   ·refine DW bg.length (λi σ H'=>∃x,σ = [⇑f,⇑kl,x]/\aj H H') (λQ q=>?_) ∅ ⟨none,rfl,s3⟩ ?_ ?_
    ·walk_at "rdt";refine⟨_,.inr (aK.of (s3 _ _ hf)),?_⟩;rw[aM];exact q
    ·rintro i σ H' N hN hi ⟨x,rfl,s'⟩;obtain⟨n,hn⟩:∃n,bg[i]? = some n:=⟨_,aV hi⟩;have tU:=od.f i n hn;walk_at "rdt";have hf':=s' _ _ hf;refine⟨_,aK.of hf',_,lV (by rw[jH,hn];rfl),f,_,rfl,aK.of hf',λz=>?_,λp np=>?_⟩
     ·have z2:=z.2;rw[aM,_H.ado] at z2;lia
     ·have s4:=aj.put (o:=.tup (jc (bg.map V.int) none (some (i:Int)))) np;have s4':=s'.trans s4;refine⟨kl,p,bH,ks,bg.take i,rfl,hk.same s4',∅,by rw[aE,agB,List.map_take],λD2 ts H5 s5 nD2 hk5=>⟨D2,ts,_,rfl,hk5,cH (gW _ _) ∅,λD3 H6 s6 nD3 Ro=>⟨D3,rfl,_,.inl (aA.of Ro),rfl,rq _,ite_no ?_ (hN _ _ ⟨_,rfl,(s4'.trans s5).trans s6⟩)⟩⟩⟩
      rw[lB];simp[tU]
    ·rintro σ H' ⟨x,rfl,s'⟩;walk_at "rdt";exact q _ s'
theorem amt:bq P w K mg base bF 3 A.PM A.PN [%[|31]] ahS:=by
 have Q_:= ~~~aaQ;have BH:= ~~~Q9;exists T.aaa.ok YS
 ·obtain⟨lv,cu,us,rfl,_⟩:=h
  rfl
 ·obtain⟨lv,cu,us,rfl,hl,hn,nd,q⟩:=h;have kh:_+16<cLine:=qE (sN (by decide:16<=64) _) hr.units
  refine⟨_,%[cF (iB (gh (cB vC rfl T.rW uO %[aa 0,uX (v:=.ty "list") rfl T.rX uP rfl|0]))) (aL (br eK)) bW,c8 c7 rfl (cS (aa 0)) (bA (i:=1) YS.nd rfl OL_)
   (aL (cF (PW.pt (gB (iB (gh (cB vC rfl T.rW uO %[aa 1,uX (v:=.ty "tuple") rfl T.o9 qH rfl|0]))) (gB (eF vY (cB eZ rfl T.dN dZ %[aa 1|0]) ao (bB _)) (gB (iB (gh (bu BH nofun rfl T.Qo T.FZ.kp T.Qn .nil aN %[aI bM (aa 1) ao %[|2]|0]))) (iL (iB (gh (bu Q_ nofun rfl T.Z5 T.Ql.kp T.Z4 .nil aN %[aI bM (aa 1) ao %[|2]|0])))))))) (aL (br eK)) bW)),br (iE i_ (ahM rfl T.dN rfl T.QL rfl kh (gq (N:=[%[|91]]) (nt:=1) (fv:=[]) ‹cM.of› rfl (cS (aa 0)) (λC s H fp=>(bA (i:=0) (show List.Nodup ([%[|91]]:List Str) by decide +kernel) rfl OL_)) (λC s H fp=>jR) (λC s H fp=>(aI (j_ (K:=K) rfl) (aa 0) ao %[|2])))) (cB eZ rfl T.dN dZ %[aa 0|0]) (bB _))|1],?_⟩
  walk_at "rdt";refine⟨_,.lst hl.l,_,rfl,ite_no (by simp) ?_⟩
  refine rl lv (cu.map V.ref) (λi σ H'=>∃x,σ = [⇑lv,x]/\aj H H') (λQ q=>q) (aA.of hl.l) ⟨none,rfl,aj.refl _⟩ (by rintro i σ H' _ ⟨_,rfl,s'⟩;exact aA.of (s' _ _ hl.l)) ?_ ?_
  ·rintro i x σ H' N hN hx ⟨x0,rfl,s'⟩;obtain⟨u,hu,rfl⟩:=c9 hx;have hi:i<us.length:=by rw[← hl.n];exact cJ hu
   obtain⟨p,h1,h2⟩:=hl.t i u us[i] hu (aV hi);walk_at "rdt";have vI:=s' _ _ h1;refine⟨_,.tup vI,_,rfl,ite_no (by simp) ⟨_,.inr (aK.of vI),ite_no (by simp) ⟨_,aK.of vI,_,rfl,p,us[i].2.2.1,rfl,s' _ _ h2,λH2 s2=>⟨_,rfl,ite_no (by simp) ⟨_,aK.of (s2 _ _ vI),_,rfl,us[i].1,rfl,_,rfl,ite_no (by simp) (hN _ _ ⟨_,rfl,s'.trans s2⟩)⟩⟩⟩⟩⟩
  ·rintro σ H' ⟨x0,rfl,s'⟩;walk_at "rdt";have tG:=s' _ _ hl.l;refine iF lv (cu.map V.ref) (λD i ys aB H2=>∃(v:Option V) (zs:Us),ys=uV zs/\aB = [v]/\H2 D=some (.lst ys)/\aj H' H2/\H' D=none/\oU H2 zs/\zs.map (·.2)=(us.take i).map (·.2.2.1)) (λQ q=>q) (aA.of tG) ?_ ?_ ?_ ?_
   ·intro D hD;exact⟨none,[],rfl,rfl,aE,aj.put hD,hD,(λ_ h=>nomatch h),rfl⟩
   ·rintro D i ys aB H2 ⟨v,zs,rfl,rfl,e1,e2,e3,e4,e5⟩;refine⟨e1,Xs ?_,aA.of (e2 _ _ tG)⟩;have:=fX List.length e5;rw[aM,aM,dw] at this;rw[WN];lia
   ·rintro D i x ys aB H2 N hN hx ⟨v,zs,rfl,rfl,e1,e2,e3,e4,e5⟩;obtain⟨u,hu,rfl⟩:=c9 hx;have hi:i<us.length:=by rw[← hl.n];exact cJ hu
    obtain⟨p,h1,h2⟩:=hl.t i u us[i] hu (aV hi);walk_at "rdt";refine⟨_,aK.of (e2 _ _ (s' _ _ h1)),_,rfl,e1,hN _ _ _ ⟨_,zs++[(p,us[i].2.2.1)],by simp[uV],rfl,aE,aj.put2 e2 e3,e3,λz hz=>?_,?_⟩⟩
    ·have lJ:H2 z.1=some (.tup (z.2.map V.int)):=by
      rcases fB.mp hz with h | h
      ·exact e4 z h
      ·rw[fV.mp h];exact e2 _ _ (s' _ _ h2)
     rw[aJ (λe=>by rw[e,e1] at lJ;cases lJ)]
     exact lJ
    ·rw[cj,e5,take_succ_get (aV hi),cj];rfl
   ·rintro D ys aB H2 ⟨v,zs,rfl,rfl,e1,e2,e3,e4,e5⟩;rw[aM,hl.n,cZ] at e5;have en:zs.length=us.length:=by
     have:=fX List.length e5;rwa [aM,aM] at this
    refine⟨D,rfl,zs,aA.of e1,e4,by rw[e5];exact nd,∅,_,.inl (aA.of (e2 _ _ tG)),?_⟩
    rw[jo (by rw[aM,hl.n,en])]
    exact q _ (s'.trans e2)
theorem amu:bq P w K mg base bF 3 A.PR A.PU [%[|11], %[|12], %[|18]] (aip K):=by
 have r_:= ~~~BF;exists T.aad.ok aji
 ·obtain⟨t,sp,kt,z,ak,sk,sw,za,bw,ca,sa,r,b,k,b',cl,aX,rfl,_⟩:=h
  rfl
 ·obtain⟨t,sp,kt,z,ak,sk,sw,za,bw,ca,sa,r,b,k,b',cl,aX,rfl,hS,ok,r0,r1,eB,hK,c1,c2,q⟩:=h;refine⟨_,(aL (br (aI qT (bu r_ nofun rfl T.Bw T.yD.kp T.Bv .nil aN %[aa 0,aI bM (aa 1) ao %[|2],aI bM (aa 1) ao %[|2],aI bM (aa 2) ao %[|2]|0]) ao %[|2]))),?_⟩
  walk_at "rdt";exact⟨_,aK.of eB,_,rfl,_,aK.of eB,_,rfl,_,aK.of hK.o,_,rfl,t,z,ak,sk,sw,za,bw,ca,sa,r,b,cl,aX,k.c,rfl,hS,ok,r0,r1,hK.c,c1,∅,λu H1 s1 nu hu=>⟨u,rfl,_,aK.of hu,_,rfl,q _ s1⟩⟩
theorem amv:bq P w K mg base bF 4 A.Nn A.Np ["first", "many", "at", "asker", %[|42], %[|30]] (afb K A.bX):=by
 have Rp:= ~~~aaG;have Rq:= ~~~aaU;have Rr:= ~~~aaH;exists T.Y0.ok YL
 ·obtain⟨f,m,a,s',l,bv,ns,rfl,_⟩:=h
  rfl
 ·obtain⟨f,m,a,s',l,bv,ns,rfl,hB,hv,hR,q⟩:=h;refine⟨_,%[a_ (i:=6) YL.nd rfl OL_ (bu Rr nofun rfl T.YZ T.P7.kp T.YY .nil aN %[aa 5|0]),e_ (bu Rq nofun rfl T.YX T.P6.kp T.YW .nil aN %[aa 0,aa 1,aa 2,aa 3,aa 4,aa 6|0]),br (tF T.aag Rp nofun rfl T.aah T.YU .nil aN %[i8,aa 0,aa 1,dB au,aa 2,aa 3,aa 4,aa 6,eK|0])|1],?_⟩
  walk_at "rdt";refine⟨_,ns,rfl,hv,λb H1 s1 hb=>?_⟩;walk_at "rdt";refine⟨_,_,_,_,_,_,ns,rfl,hB,aK.of hb,hR,?_⟩;walk_at "rdt";intro mk nm x dx nx je gm;refine⟨x,dx,_,_,_,_,_,_,_,_,_,rfl,aE,rfl,?_⟩;obtain⟨a1,a2,a3⟩:=V8 (K:=K) (C:=A.bX) (q:=⟨"read",f,m,[],a,s',l,ns,false⟩) (s1.trans (aj.put nm)) nx je gm aE (aj.put nm _ _ hb);exact q _ _ _ _ _ a1 a2 a3
theorem amw:bq P w K mg base bF 4 A.Nq A.Nr ["first", "marks", "at", "asker", %[|42], %[|30], "early"] (afc K A.bX):=by
 have Rp:= ~~~aaG;have rZ:= ~~~QO;have Rq:= ~~~aaU;have Rr:= ~~~aaH;exists T.Y3.ok MY
 ·obtain⟨f,a,s',ma,ms,l,bv,ns,e,rfl,_⟩:=h
  rfl
 ·obtain⟨f,a,s',ma,ms,l,bv,ns,e,rfl,hm,hms,hB,hv,hR,q⟩:=h;refine⟨_,%[a_ (i:=7) MY.nd rfl OL_ (bu Rr nofun rfl T.YZ T.P7.kp T.YY .nil aN %[aa 5|0]),e_ (bu Rq nofun rfl T.YX T.P6.kp T.YW .nil aN %[aa 0,cB eZ rfl T.dN dZ %[aa 1|0],aa 2,aa 3,aa 4,aa 7|0]),c8 c7 rfl (cS (aa 1)) (bA (i:=8) MY.nd rfl OL_)
   (aL (e_ (bu rZ nofun rfl T.wj T.uh.kp T.wg .nil aN %[aa 8,ao,kj (v:=.int 1000000000) rfl T.ali ⟨_,rfl⟩,i8|0]))),br (tF T.aag Rp nofun rfl T.aah T.YU .nil aN %[i8,aa 0,cB eZ rfl T.dN dZ %[aa 1|0],jP xG rfl T.o9 qH %[aa 1|0],aa 2,aa 3,aa 4,aa 7,aa 6|0])|1],?_⟩
  walk_at "rdt";refine⟨_,ns,rfl,hv,λb H1 s1 hb=>?_⟩;walk_at "rdt";refine⟨_,.inl (s1.seq hm),?_⟩;simp only[List.length_map];refine⟨_,_,_,_,_,_,ns,rfl,hB,aK.of hb,hR,?_⟩
  try dsimp only
  have rB:=s1.seq hm;refine rl ma (ms.map V.int) (λi σ H'=>∃x,σ = [↥f,⇑ma,↥a,↥s',some (jU l),some bv,some (.bl e),⇑b,x]/\H' = H1) (λQ q=>q) rB ⟨none,rfl,rfl⟩ (by rintro i σ H' _ ⟨x,rfl,rfl⟩;exact rB) ?_ ?_
  ·rintro i x σ H' N hN hx ⟨x0,rfl,rfl⟩;obtain⟨n,hn,rfl⟩:=c9 hx;symm;exact⟨n,0,1000000000,_,rfl,(hms n (get_mem hn)).1,(hms n (get_mem hn)).2,hN _ _ ⟨_,rfl,rfl⟩⟩
  ·rintro σ H' ⟨x0,rfl,rfl⟩;walk_at "rdt";refine⟨_,.inl rB,_,.inl ⟨rB,λmk nm=>?_⟩⟩;intro x dx nx je gm;refine⟨x,dx,_,_,_,_,_,_,_,_,_,rfl,aE,rfl,?_⟩;simp only[List.length_map];obtain⟨a1,a2,a3⟩:=V8 (K:=K) (C:=A.bX) (q:=⟨"write",f,ms.length,ms,a,s',l,ns,e⟩) (s1.trans (aj.put nm)) nx je gm aE (aj.put nm _ _ hb);exact q _ _ _ _ _ a1 a2 a3
theorem aaZ:bq P w K mg base bF 4 A.NB A.NC ["self", %[|32], %[|26], "ask"] (agr K [A.bK,A.bG] A.bX A.cG):=by
 have amx:= ~~~al8;exists T.ajw.ok aiS
 ·obtain⟨C,p,pl,ap,dx,n,P,fp,q',m,b,cA,rfl,_⟩:=h
  rfl
 ·obtain⟨C,p,pl,ap,dx,n,P,fp,q',m,b,cA,rfl,hp,hC,hP,iH,kU,ha,hf,hn,q⟩:=h;refine⟨_,%[IW (aa 0) (aa 2) rfl,IW (aa 0) (aa 3) rfl,IW (aa 0) (bu amx nofun rfl T.ajv T.Y6.kp T.aju .nil aN %[aa 1,aa 2,aa 3|0]) rfl|1],?_⟩
  wp_walk using T,hp;have Gm:ap≠p:=λe=>by
   have:=ha.o;rw[e,hp] at this;simp[tQ] at this
  have nm:m≠p:=λe=>by have:=ha.ms;rw[e,hp] at this;cases this
  have nb:b≠p:=λe=>by have:=ha.bh;rw[e,hp] at this;cases this
  have yP:dR K C (upd H p (HO.ins A.cG dx [(%[|26],V.int n),("ask",V.ref ap)])) pl P fp:=hP.keep (aJ (fW iH)) λb hb=>aJ (λe=>kU (e▸hb));have Rt:lA K A.bX (upd H p (HO.ins A.cG dx [(%[|26],V.int n),("ask",V.ref ap)])) ap q' m b cA:=⟨(aJ Gm).trans ha.o,(aJ nm).trans ha.ms,(aJ nb).trans ha.bh⟩;have sb:SameBut p H (upd H p (HO.ins A.cG dx [(%[|26],V.int n),("ask",V.ref ap)])):=(SameBut.of (aj.refl H)).put;have kQ:upd H p (HO.ins A.cG dx [(%[|26],V.int n),("ask",V.ref ap)]) p=some (HO.ins A.cG dx [(%[|26],V.int n),("ask",V.ref ap)]):=aE;generalize upd H p (HO.ins A.cG dx [(%[|26],V.int n),("ask",V.ref ap)])=H1 at yP Rt sb kQ ⊢;refine⟨C,pl,ap,n,P,fp,q',m,b,cA,rfl,hC,yP,Rt,hf,hn,λl ts H2 s2 nl hz=>⟨_,_,_,s2 _ _ kQ,T.Qt,T.Qu,by simp,?_⟩⟩
  have Ru:=Rt.same s2;have sf:l≠p:=bT kQ nl |>.symm
  have BI:H l=none:=by
   cases e:H l with
   | none=>rfl
   | some o =>
    have:=sb l o e sf;rw[nl] at this;cases this
  refine q l ts _ BI (sb.step s2).put ⟨aE,⟨(aJ Gm).trans Ru.o,(aJ nm).trans Ru.ms,(aJ nb).trans Ru.bh⟩,hz.keep (aJ sf) λt ht=>aJ λe=>?_⟩
  obtain⟨i,hi,et⟩:=iJ.mp ht;have eE:i<(fF P.nc q'.first q'.many).length:=by rw[← hz.n];exact hi
  have:=hz.t i t _ (by rw[← et];exact aV hi) (aV eE)
  rw[e,s2 _ _ kQ] at this;cases this
theorem amy:bq P w K mg base bF 4 A.NG A.NH [%[|32], "ring", "beat", "cells"] (aeV K [A.bK,A.bG]):=by
 have amz:= ~~~al_;have QZ:= ~~~aaL;have amA:= ~~~alJ;exists T.Y9.ok v_
 ·obtain⟨C,p,P,fp,r,b,ca,aX,cz,rfl,_⟩:=h
  rfl
 ·obtain⟨C,p,P,fp,r,b,ca,aX,cz,rfl,hC,hP,ok,r0,r1,hz,hq,hlen,q⟩:=h;have hsl:=ok.sw.len;refine⟨_,%[a_ (i:=4) v_.nd rfl OL_ (fj au),c8 c7 rfl (cS (aa 3)) (kr rfl (dX (bA (i:=5) v_.nd rfl OL_) (dX (bA (i:=6) v_.nd rfl OL_) kq)))
   %[a_ (i:=7) v_.nd rfl OL_ (bu amz nofun rfl T.ajy T.Y8.kp T.ajx .nil aN %[aa 0,aa 5,aa 6,aF fh (aa 2) (qb (aa 0) T.alA amA nofun T.akh .nil aN %[aa 1,aa 5|0])|0]),a_ (i:=1) v_.nd rfl OL_ (aa 5),a_ (i:=2) v_.nd rfl OL_ (aF fh (aa 7) (qb (aa 0) T.aaC QZ nofun T.ZF .nil aN %[aa 5|0])),e_ (lY lP nX nY mQ (aa 4) %[dB %[aa 1,aa 6,aa 7,aa 2|0]|0])|1],br (aa 4)|1],?_⟩
  symm;intro l hl;have sl:=aj.put (o:=.lst []) hl;refine rl ca (aX.map V.ref) (λi σ H'=>∃x y z ts,σ = [⇑p,some (.int (aQ P (r,b) (cz.take i)).1),some (.int (aQ P (r,b) (cz.take i)).2),⇑ca,⇑l,x,y,z]/\aj H H'/\(∀t∈ts,H t=none)/\i<=cz.length/\Zt H' l ts (eN P (r,b) (cz.take i))) (λQ q=>q) (sl.seq hz.sq)
   ⟨none,none,none,[],rfl,sl,(λ_ h=>nomatch h),eW _,Zt.start⟩ (by rintro i σ H' _ ⟨x,y,z,ts,rfl,hs,_⟩;exact hs.seq hz.sq) ?_ ?_
  ·rintro i x σ H' N hN hx ⟨x0,y0,z0,cE,rfl,hs,o_,hi,h1⟩;obtain⟨t,w,rfl,hw,ht⟩:=hz.at hx;have qy:=cJ hw;obtain⟨w0,w1,w2,w3⟩:=hq w (get_mem hw);have BA:=ok.c w.1.toNat ∅
   obtain⟨e0,e1⟩:=jx P (n:=P.rc.length) (cz.take i) (r,b) r0 r1 λq oA=>⟨(hq q (pJ oA)).1,(hq q (pJ oA)).2.1⟩;have es:aQ P (r,b) (cz.take (i+1))=d_ P (aQ P (r,b) (cz.take i)) w:=by rw[take_succ_get hw,xT]
   have ws:eN P (r,b) (cz.take (i+1))=eN P (r,b) (cz.take i)++[rm P (aQ P (r,b) (cz.take i)) w]:=by rw[take_succ_get hw,xU]
   rw[es,ws] at hN;have wl:(eN P (r,b) (cz.take i)).length=i:=by rw[oJ,dw];lia
   generalize aQ P (r,b) (cz.take i)=st at e0 e1 hN ⊢;generalize eN P (r,b) (cz.take i)=rows at h1 wl hN ⊢;refine qa (aK.of (hs _ _ ht)) rfl ?_;have wm:=hP.same hs;obtain⟨dx,a1,a2,a3,a4,ts,fs,uo,h⟩:=id wm;wp_walk using h.o,h.f1,h.f2,h.f3,h.f4,h.f5,h.f6,h.m1,h.m2,h.m3,h.m4,h.m5,h.m6,h.m7,h.m8,h.m9,h.g7,h.iO,h.cp.cl,h.cp.n1,h.cp.n2,h.cp.n3,h.cp.n4,h.cp.n5,h.cp.n6;refine⟨hC,C,p,P,fp,st.1,w.1,rfl,wm,∅,?_⟩
   wp_walk using h.o,h.f1,h.f2,h.f3,h.f4,h.f5,h.f6,h.m1,h.m2,h.m3,h.m4,h.m5,h.m6,h.m7,h.m8,h.m9,h.g7,h.iO,h.cp.cl,h.cp.n1,h.cp.n2,h.cp.n3,h.cp.n4,h.cp.n5,h.cp.n6;refine⟨C,p,P,fp,w.1,w.2,_,rfl,hC,wm,ok,w0,w1,w2,w3,?_⟩;wp_walk using h.o,h.f1,h.f2,h.f3,h.f4,h.f5,h.f6,h.m1,h.m2,h.m3,h.m4,h.m5,h.m6,h.m7,h.m8,h.m9,h.g7,h.iO,h.cp.cl,h.cp.n1,h.cp.n2,h.cp.n3,h.cp.n4,h.cp.n5,h.cp.n6;refine⟨hC,C,p,P,fp,w.1,rfl,wm,w0,w1,BA.1,BA.2,?_⟩;symm;refine⟨⟨_,aA.of h1.l⟩,λt1 n1=>?_⟩;have hn:=h1.n;have e2:=aj.put n1 (o:=.tup [V.int w.1,V.int w.2,V.int (tN P st w),V.int (d_ P st w).2]) _ _ h1.l;refine⟨_,e2,by simp;lia,hN _ _ ⟨_,_,_,cE++[t1],rfl,aj.put2 (hs.trans (aj.put n1)) hl,?_,qy,h1.snoc n1 (rm P st w)⟩⟩
   intro t' mz;rcases fB.mp mz with mz | mz
   ·exact o_ t' mz
   ·rw[fV.mp mz];exact hs.free n1
  ·rintro σ H' ⟨x0,y0,z0,cE,rfl,hs,o_,hi,h1⟩;symm;rw[lenZ hz.n,cZ] at h1;exact q _ _ _ hs hl o_ h1
theorem aa0:bq P w K mg base bF 4 A.NY A.NZ ["self", %[|32], "dues"] (aic K A.bX A.cG A.c_):=by
 have amB:= ~~~amc;exists T.ajJ.ok aiY
 ·obtain⟨x,p,l,dx,ps,ds,H0,rfl,_⟩:=h
  rfl
 ·obtain⟨x,p,l,dx,ps,ds,H0,rfl,s0,nx,hx,hd,um,nd,q⟩:=h;refine⟨_,%[gT (aa 0) (aa 1) rfl,gT (aa 0) (aa 2) rfl,gT (aa 0) (bu amB nofun rfl T.ajI T.Zc.kp T.ajH .nil aN %[aa 2|0]) rfl,gT (aa 0) ah5 rfl|1],?_⟩
  wp_walk using T,hx;have k1:aj H0 (upd H x (HO.ins A.c_ dx [(%[|32],V.ref p),("dues",V.ref l)])):=λb o e=>by rw[aJ (bT e nx)];exact s0 _ _ e
  have Rv:upd H x (HO.ins A.c_ dx [(%[|32],V.ref p),("dues",V.ref l)]) x=some (HO.ins A.c_ dx [(%[|32],V.ref p),("dues",V.ref l)]):=aE;generalize upd H x (HO.ins A.c_ dx [(%[|32],V.ref p),("dues",V.ref l)])=H1 at k1 Rv ⊢;refine⟨l,ps,ds,rfl,hd.same k1,um,nd,λkd az H2 s2 BG hk=>?_⟩;have gv:=s2 _ _ Rv;wp_walk using T,gv;intro fa Rw;have Gn:x≠fa:=bT aE Rw;have uq:upd (upd H2 x (HO.ins A.c_ dx [(%[|32],V.ref p),("dues",V.ref l),("kept",V.ref kd)])) fa (qo fa []) x=some (HO.ins A.c_ dx [(%[|32],V.ref p),("dues",V.ref l),("kept",V.ref kd)]):=by rw[aJ Gn,aE]
  wp_walk using T,uq;have nf2:H2 fa=none:=by rw[aJ (fW Gn)] at Rw;exact Rw
  refine q kd fa az (del H2 x) _ (λb o e=>by rw[A6 (bT e nx)];exact s2 _ _ (k1 _ _ e)) (by rw[A6 (fW Gn)];exact nf2) (hk.del gv) (λb o e=>?_) aE (by rw[aJ (fW Gn),aE])
  have nb:b≠x:=λz=>by rw[z,del,if_pos rfl] at e;cases e
  rw[A6 nb] at e;rw[aJ nb,aJ (bT e nf2),aJ nb];exact e
theorem amC:bq P w K mg base bF 4 A.OW A.OX ["self", "zones", "lap", "skew", %[|73], %[|44], "bad"] (af8 K A.bG A.bf (rD iT) (rE %[|16])):=by
 have Ra:= ~~~aaJ;have Rb:= ~~~aaK;have Rx:= ~~~aaW;have amD:= ~~~alK;have amE:= ~~~al0;have amF:= ~~~amk;exists T.akG.ok Be
 ·obtain⟨p,dx,za,sa,ba,bw,lz,z,bz,ak,cO,s,sw,rfl,_⟩:=h
  rfl
 ·obtain⟨p,dx,za,sa,ba,bw,lz,z,bz,ak,cO,s,sw,rfl,cp,nm,hp,hz,ok,h1,h2,h3,h4,hd,hS,so,BJ,aaX,bnd,bin,c64,gC,jC,tab,en,q⟩:=h;refine⟨_,%[bY (e_ (aeN rfl T.aaA T.alc Rx nofun T.ZE .nil aN %[aa 0,aa 1,aa 2,aa 3,aa 4|0])),bY (e_ (bu amD nofun rfl T.aku T.ZK.kp T.akt .nil aN %[aa 5,b9 (aa 0) rfl|0])),bY (a_ (i:=7) Be.nd rfl OL_ (bu amE nofun rfl T.akw T.ZM.kp T.akv .nil aN %[aa 0,aa 6|0])),bY (gT (aa 0) (bu Ra nofun rfl T.ZA T.Qf.kp T.Zz .nil aN %[b9 (aa 0) rfl,aa 5|0]) rfl),bY (gT (aa 0) (bu amF nofun rfl T.akE T.ZR.kp T.akD .nil aN %[b9 (aa 0) rfl,aa 5,b9 (aa 0) rfl,aa 7|0]) rfl),bY (c8 c7 rfl (cS (b9 (aa 0) rfl)) (kr rfl (dX (bA (i:=8) Be.nd rfl OL_) (dX (bA (i:=9) Be.nd rfl OL_) (dX (bA (i:=10) Be.nd rfl OL_) kq))))
   (aL (xx (aa 10) (Iz (b9 (aa 0) rfl) (aa 8) set_list)))),gT (aa 0) (bu Rb nofun rfl T.ZD T.Qg.kp T.ZC .nil aN %[b9 (aa 0) rfl|0]) rfl|1],?_⟩
  refine b7 λN1 k1=>?_;symm;refine⟨_,p,dx,za,sa,bw,z,ak,cO,sw,rfl,cp,hp,hz,ok,h1,h2,h3,h4,hd,hS,so,λH1 uz a1 a2 a3 a4 ts sb nf kQ hA=>k1 _ _ ?_⟩;have cl:=tK z λp hp=>(ok.r p hp).1;have amj:=ok.DU;have c2:=ok.s2;have cm:∀c∈counts z,0<=c/\c<=60:=λc hc=>by
   obtain⟨y,hy,rfl⟩:=q8 hc;have:=ok.r y hy;lia
  have cm':∀c∈counts z,0<=c/\c<=1000:=λc hc=>by have:=cm c hc;lia
  have eY:0<(counts z).length:=by lia
  have s60:s<60:=by
   have:=jC _ (dU eY);have:=cm _ (dU eY);lia
  have Ry:∀ {a:Addr} {o:HO},H a=some o->(∀C d f,o≠.ins C d f)->a≠p:=λe n z=>n _ _ _ (by rw[z,hp] at e;exact(eg e).symm)
  have ba1:Zn H1 ba lz bz:=⟨sb _ _ BJ.l (Ry BJ.l (by intro _ _ _ z;cases z)),BJ.n,λi t x e1 e2=>sb _ _ (BJ.t i t x e1 e2) (Ry (BJ.t i t x e1 e2) (by intro _ _ _ z;cases z))⟩
  have pP:A.bf≠p:=(tab.ne hp (by intro _ z;cases z)).symm
  have amG:dF A.bf (rD iT) (rE %[|16]) H1:=by
   obtain⟨ps,e',k,c⟩:=tab;refine⟨ps,sb _ _ e' pP,k,?_⟩;rcases c with c | ⟨c',c1,c2⟩
   ·exact .inl c
   ·exact .inr ⟨c',c1,sb _ _ c2 (Ry c2 (by intro _ _ _ z;cases z))⟩
  refine b7 λN2 k2=>?_;wp_walk using hA.o,hA.f1,hA.f2,hA.f3,hA.f4,hA.f5,hA.f6,hA.m1,hA.m2,hA.m3,hA.m4,hA.m5,hA.m6,hA.m7,hA.m8,hA.m9,hA.g7,hA.iO,hA.cp.cl,hA.cp.n1,hA.cp.n2,hA.cp.n3,hA.cp.n4,hA.cp.n5,hA.cp.n6;refine⟨a1,counts z,s,rfl,aA.of hA.rc,∅,gC,jC,k2 _ _ ?_⟩
  refine b7 λN3 k3=>?_;symm;refine⟨_,p,ba,_,_,lz,bz,rfl,by simp,⟨uz,a1,a2,a3,a4,ts,_,rfl,hA⟩,ba1,∅,bnd,bin,λd H2 s2 nd e2=>k3 _ _ ?_⟩
  have dI:=hA.move (H':=H2) (by rw[hA.o];exact s2 _ _ hA.o) (by rw[hA.rc];exact s2 _ _ hA.rc) (by rw[hA.sw];exact s2 _ _ hA.sw) (by rw[hA.nc.l];exact s2 _ _ hA.nc.l) (by rw[hA.cn];exact s2 _ _ hA.cn) (λt ht=>by obtain⟨o,e⟩:=hA.nc.has ht;rw[e];exact s2 _ _ e)
  refine b7 λN4 k4=>?_;wp_walk using dI.o,dI.f1,dI.f2,dI.f3,dI.f4,dI.f5,dI.f6,dI.m1,dI.m2,dI.m3,dI.m4,dI.m5,dI.m6,dI.m7,dI.m8,dI.m9,dI.g7,dI.iO,dI.cp.cl,dI.cp.n1,dI.cp.n2,dI.cp.n3,dI.cp.n4,dI.cp.n5,dI.cp.n6;refine⟨a1,counts z,s,rfl,aA.of dI.rc,∅,cm',gC,?_,λl3 t3 H3 s3 n3 nt3 z3=>?_⟩
  ·have:=jC _ (dU eY);have:=cm _ (dU eY);lia
  have o3:=s3 _ _ dI.o;wp_walk using o3,vE,cp.cl,cp.n1,cp.n5,nm;have wB:l3≠p:=(bT dI.o n3).symm;have BK:∀t∈t3,t≠p:=λt ht=>(bT dI.o (nt3 t ht)).symm;have pd:d≠p:=(bT hA.o nd).symm;have Gp:a1≠p:=iy dI.rc dI.o (by intro z;cases z)
  have Rz:a2≠p:=iy dI.sw dI.o (by intro z;cases z)
  have uv:SameBut p H H3:=(sb.step s2).step s3;have aa1:=amG.same (s2.trans s3);have zl:(gR (counts z) s).length<=1000000:=by
   have:=DV (s:=s) gC (counts z) 0 cm';have e:(counts z).length<=120:=by lia
   unfold gR;lia
  have yc:En (bz.map kT):=afT (λx hx=>by
   obtain⟨b1,b2,b3,b4⟩:=bin x hx;have hi:x.1.toNat<(counts z).length:=by lia
   rw[show (counts z).getD x.1.toNat 0=(counts z)[x.1.toNat] by simp[hi]] at b4
   have:=cm _ (dU hi);lia) bnd
  refine k4 _ _ ?_;refine b7 λN5 kk5=>?_;wp_walk using o3,vE,cp.cl,cp.n1,cp.n5,nm;refine⟨a1,l3,d,s,counts z,t3,_,bz,rfl,aA.of ((aJ Gp).trans (s3 _ _ dI.rc)),∅,c64,gC,∅,λc hc=>by have:=jC c hc;have:=cm c hc;lia,z3.keep (aJ wB) (λt ht=>aJ (BK t ht)),zl,(aJ pd).trans (s3 _ _ e2),yc,aaX,aa1.put o3,en,λmv us os ms H5 k5 Gq nos hL hM=>?_⟩
  have BL:mv≠p:=(bT aE Gq).symm;have amH:H3 mv=none:=by rw[aJ BL] at Gq;exact Gq
  have BN:=aa1.put (o:=HO.ins A.bG uz [(Str.ofString %[|15],V.ref a1),(Str.ofString "lap",V.int ak),(Str.ofString "skew",V.int cO),(Str.ofString %[|73],V.ref a2),(Str.ofString %[|13],V.ref l3),(Str.ofString %[|24],V.ref a4)]) o3;have p5:=k5.get BN aE;wp_walk using p5,cp.cl,nm;refine kk5 _ _ ?_;refine b7 λN6 kk6=>?_;refine tM ?_;wp_walk using cp.cl,nm;have zU:=z3.keep (H':=upd H3 p (HO.ins A.bG uz [(Str.ofString %[|15],V.ref a1),(Str.ofString "lap",V.int ak),(Str.ofString "skew",V.int cO),(Str.ofString %[|73],V.ref a2),(Str.ofString %[|13],V.ref l3),(Str.ofString %[|24],V.ref a4)])) (aJ wB) (λt ht=>aJ (BK t ht));have z5:Zn H5 l3 t3 _:=⟨k5.get BN zU.l,zU.n,λi t x e1 e2=>k5.get BN (zU.t i t x e1 e2)⟩;have RA:mv≠l3:=(bT zU.l Gq).symm;generalize e6:upd H5 p (HO.ins A.bG uz [(Str.ofString %[|15],V.ref a1),(Str.ofString "lap",V.int ak),(Str.ofString "skew",V.int cO),(Str.ofString %[|73],V.ref a2),(Str.ofString %[|13],V.ref l3),(Str.ofString %[|24],V.ref a4),(Str.ofString "moves",V.ref mv)])=H6;have p6:H6 p=some (HO.ins A.bG uz [(Str.ofString %[|15],V.ref a1),(Str.ofString "lap",V.int ak),(Str.ofString "skew",V.int cO),(Str.ofString %[|73],V.ref a2),(Str.ofString %[|13],V.ref l3),(Str.ofString %[|24],V.ref a4),(Str.ofString "moves",V.ref mv)]):=by rw[← e6];exact aE
  have o6:∀b,b≠p->H6 b=H5 b:=λb hb=>by rw[← e6];exact aJ hb
  have aa2:dF A.bf (rD iT) (rE %[|16]) H6:=by rw[← e6];exact k5.t.put p5
  have M6:jW H6 mv t3 us os ms:=⟨(o6 mv BL).trans hM.l,hM.n,hM.no,λi u m e1 e2=>by
   obtain⟨tc,to,x,a,b,c,d⟩:=hM.t i u m e1 e2;exact⟨tc,to,x,(o6 _ (iy a p5 (by intro z;cases z))).trans a,b,(o6 _ (iy c p5 (by intro z;cases z))).trans c,(o6 _ (iy d p5 (by intro z;cases z))).trans d⟩⟩
  have z6:=z5.keep (o6 l3 wB) (λt ht=>o6 t (BK t ht));refine oH.by mv (us.map V.ref) (λi σ H'=>∃x y w pB,σ = [some (V.ref p),some (V.ref za),some (V.int ak),some (V.int cO),some (V.ref sa),some (V.int s),some (V.ref ba),some (V.ref d),x,y,w]/\(∀b,b≠l3->H' b=H6 b)/\Zn H' l3 pB (qj (gR (counts z) s) (ms.take i))/\∀t∈pB,t∈t3\/t∈os)
   (aA.of M6.l) ⟨none,none,none,t3,rfl,λ_ _=>rfl,z6,λt ht=>.inl ht⟩ (by rintro i σ H' _ ⟨x,y,w,pB,rfl,hb,_⟩;exact aA.of ((hb mv RA).trans M6.l)) ?_ ?_
  ·rintro i x σ H' N hN hx ⟨x0,y0,w0,pB,rfl,hb,lM,jY⟩;obtain⟨u,j0,rfl⟩:=c9 hx;have hi:i<ms.length:=by rw[← M6.n];exact cJ j0
   obtain⟨m,hm⟩:∃m,ms[i]? = some m:=⟨_,aV hi⟩;obtain⟨tc,to,ho,ea,eb,ec,ed⟩:=M6.t i u m j0 hm;have Gr:∀ {a:Addr} {xs:_V},H6 a=some (.tup xs)->H' a=some (.tup xs):=λ{a xs} e=>(hb a (iy e z6.l (by intro z;cases z))).trans e
   refine⟨u,[.int (m.1:Int),.ref tc,.ref to],rfl,aK.of (Gr ea),rfl,_,_,rfl,_,_,rfl,_,_,rfl,rfl,?_⟩;wp_walk using(hb p wB.symm).trans p6,cp.cl,cp.n5;have hml:m.1<pB.length:=by rw[lM.n,Es,← z6.n];exact cJ eb
   refine⟨_,lM.l,m.1,KD (by rw[aM];exact hml),?_⟩
   rw[← List.map_set];refine hN _ _ ⟨_,_,_,pB.set m.1 to,rfl,λb h=>by rw[aJ h];exact hb b h,?_,?_⟩
   ·rw[take_succ_get hm,af7];exact lM.setAt (Gr ed)
   ·intro t ht;rcases Hy ht with h | h
    ·exact jY t h
    ·rw[h];exact .inr (get_mem ho)
  ·rintro σ H' ⟨x,y,w,pB,rfl,hb,lM,jY⟩;rw[aM,M6.n,cZ] at lM;have Gs:=(hb p wB.symm).trans p6;refine kk6 _ _ ?_;wp_walk using Gs,cp.cl,cp.n5,cp.n6;have x_:=aa2.keep hb z6.l;refine⟨l3,pB,_,rfl,lM,by rw[Es];exact zl,λcn H7 s7 BO ecn=>?_⟩
   have pcn:cn≠p:=(bT Gs BO).symm;wp_walk using s7 _ _ Gs,cp.cl,cp.n6;have fresh:∀b,b≠p->H3 b=none->H b=none:=λb hb e=>by
    cases q':H b with
    | none=>rfl
    | some o=>rw[uv _ _ q' hb] at e;cases e
   have yQ:H l3=none:=by
    cases q':H l3 with
    | none=>rfl
    | some o=>rw[(sb.step s2) _ _ q' wB] at n3;cases n3
   have aa3:∀b o,H b=some o->b≠p->b≠A.bf->H' b=some o:=λb o e np nP=>by
    rw[hb b (bT e yQ),o6 b np];exact k5.b _ _ ((aJ np).trans (uv _ _ e np)) nP
   have a13:a1≠l3:=bT dI.rc n3;have a23:a2≠l3:=bT dI.sw n3;have r7:=s7 _ _ ((hb a1 a13).trans ((o6 a1 Gp).trans (k5.get BN ((aJ Gp).trans (s3 _ _ dI.rc)))));have w7:=s7 _ _ ((hb a2 a23).trans ((o6 a2 Rz).trans (k5.get BN ((aJ Rz).trans (s3 _ _ dI.sw)))));have tp:∀t∈pB,t≠p:=λt ht=>by
    obtain⟨o,e⟩:=lM.has ht;rcases jY t ht with h | h
    ·exact BK t h
    ·exact(bT aE (nos t h)).symm
   have Gr:∀ {a:Addr} {xs:_V},H6 a=some (.tup xs)->H7 a=some (.tup xs):=λ{a xs} e=>s7 _ _ ((hb a (iy e z6.l (by intro z;cases z))).trans e)
   have RB:∀ {a:Addr} {xs:_V} {o:HO},H6 a=some (.tup xs)->upd H7 p o a=some (.tup xs):=λ{a xs o} e=>(aJ (iy e p6 (by intro z;cases z))).trans (Gr e)
   refine q _ (a1::a2::l3::cn::pB) mv t3 us os ms (λb o e np nP=>(aJ np).trans (s7 _ _ (aa3 b o e np nP))) ((x_.same s7).put (s7 _ _ Gs)) ?_ hL ⟨uz,a1,a2,l3,cn,pB,[(Str.ofString %[|15],V.ref a1),(Str.ofString "lap",V.int ak),(Str.ofString "skew",V.int cO),(Str.ofString %[|73],V.ref a2),(Str.ofString %[|13],V.ref l3),(Str.ofString %[|24],V.ref cn),(Str.ofString "moves",V.ref mv)],rfl,?_,nm,?_,?_⟩ ⟨?_,M6.n,M6.no,λi u m e1 e2=>?_⟩
   ·intro b kH;simp only[List.mem_cons] at kH;rcases kH with rfl | rfl | rfl | rfl | rfl | kH
    ·exact fresh _ BL amH
    ·exact nf _ (by simp)
    ·exact nf _ (by simp)
    ·exact yQ
    ·cases q':H b with
     | none=>rfl
     | some o =>
      by_cases nP:b=A.bf
      ·obtain⟨ps,e',_⟩:=x_;rw[nP,e'] at BO;cases BO
      ·rw[aa3 _ _ q' pcn nP] at BO;cases BO
    ·rcases jY b kH with h | h
     ·have:=nt3 b h;cases q':H b with
      | none=>rfl
      | some o=>rw[(sb.step s2) _ _ q' (BK b h)] at this;cases this
     ·have np:=tp b kH;have:=nos b h;rw[aJ np] at this;exact fresh b np this
   ·refine⟨cp,aE,?_,?_,?_,?_,?_,?_,?_,?_,?_,?_,?_,?_,?_,?_,?_,?_,?_,?_,?_,?_,?_⟩
    rotate_left 17
    ·exact(aJ Gp).trans r7
    ·exact(aJ Rz).trans w7
    ·exact(lM.same s7).keep (aJ wB) (λt ht=>aJ (tp t ht))
    ·exact(aJ pcn).trans ecn
    all_goals simp[List.lookup_cons,tH]
   ·simp[List.lookup_cons,tH]
   ·exact(aJ BL).trans (s7 _ _ ((hb mv RA).trans M6.l))
   ·exact(aJ BL).trans (s7 _ _ ((hb mv RA).trans M6.l))
   ·obtain⟨tc,to,x,a,b,c,d⟩:=M6.t i u m e1 e2;exact⟨tc,to,x,RB a,b,RB c,RB d⟩
theorem amI:bq P w K mg base bF 4 A.Pf A.Pg [%[|17], %[|14], %[|11], %[|12], %[|45]] (agz K [A.bK,A.bG]):=by
 have Gu:= ~~~alH;have QX:= ~~~aaN;have nO:= ~~~QV;have BD:= ~~~QW;have r_:= ~~~BF;have amJ:= ~~~amo;have amK:= ~~~amq;exists T.ZY.ok gU
 ·obtain⟨C,sc,p,t,sp,z,ak,sk,sw,za,bw,ca,sa,nc,fp,r,b,most,ns,rfl,_⟩:=h
  rfl
 ·obtain⟨C,sc,p,t,sp,z,ak,sk,sw,za,bw,ca,sa,nc,fp,r,b,most,ns,rfl,jC,pC,hC,hP,nk,hS,ok,eB,r0,r1,b0,b1,m1,m7,q⟩:=h;refine⟨_,%[a_ (i:=5) gU.nd rfl OL_ (bu nO nofun rfl T.qu T.o7.kp T.qt .nil aN %[aa 0,ao|0]),a_ (i:=6) gU.nd rfl OL_ (iE i_ (aF gc (aF nH (aa 5) ao) ao) ao (bB _)),a_ (i:=7) gU.nd rfl OL_ (aI b_ (fj %[aF gc (aa 5) (aa 4),aa 4|0]) (jP KO rfl T.yF boot_int %[iE i_ (aF gc (aF nH (aa 5) (aa 4)) ao) ao (bB _)|0]) %[|2]),rJ (cF (gh (aa 6)) (aL (a_ (i:=7) gU.nd rfl OL_ (aF fG ao (aF gc (aF nH (aa 5) ao) ao)))) bW),a_ (i:=8) gU.nd rfl OL_ (aF fh (aI bM (aa 2) ao %[|2]) (aI pY (aI bM (aa 2) ao %[|2]) (ve vf ao) %[|2])),a_ (i:=9) gU.nd rfl OL_ (fj au),a_ (i:=10) gU.nd rfl OL_ (ve vf ao),a_ (i:=11) gU.nd rfl OL_ (aa 3),c8 c7 rfl (lR rfl T.gK %[aa 7|0]) (bA (i:=12) gU.nd rfl OL_)
   %[bY (a_ (i:=13) gU.nd rfl (Or.inr rfl) (bu BD nofun rfl T.Qi T.FY.kp T.Qh .nil aN %[aF fh (bu nO nofun rfl T.qu T.o7.kp T.qt .nil aN %[aa 0,aF fG ao (aa 12)|0]) (aa 12),ao|0])),bY (a_ (i:=14) gU.nd rfl (Or.inr rfl) (aF dz (aI b_ (aa 13) ao %[|2]) (aI b_ (fj %[AA (aa 1) T.Gb Gu nofun T.FW .nil aN,cB (IS rfl) rfl T.wk boot_min %[AA (aa 1) T.Gb Gu nofun T.FW .nil aN,ao|0]|0]) (aF gc (aF nH (aa 5) ao) ao) %[|2]))),rJ (cF (gh (aa 6)) (aL (a_ (i:=14) gU.nd rfl (Or.inr rfl) (aF xy (aF dz (aI b_ (aa 13) ao %[|2]) ao) (aF pX (AA (aa 1) T.Gb Gu nofun T.FW .nil aN) ao)))) bW),bY (a_ (i:=15) gU.nd rfl OL_ (aF fh ao (aF dz (aI b_ (aa 13) ao %[|2]) (cB (IS rfl) rfl T.wk boot_min %[aF vX ao (jP KO rfl T.yF boot_int %[aa 6|0]),aF pX (AA (aa 1) T.Gb Gu nofun T.FW .nil aN) (aa 14)|0])))),bY (a_ (i:=10) gU.nd rfl OL_ (aF fh (aF fG (aa 10) ao) (aF dz (aI b_ (aa 13) ao %[|2]) ao))),rJ (tV (i:=16) gU.nd rfl OL_ (N:=["_law_j", %[|14], %[|94]]) (nt:=1) (fv:=[1,14]) ‹cM.of› rfl (lR rfl T.gK %[aa 15|0]) (λC s H fp=>(bA (i:=0) (show List.Nodup (["_law_j", %[|14], %[|94]]:List Str) by decide +kernel) rfl OL_)) (λC s H fp=>jR) (λC s H fp=>(qb (aa 1) T.aaE QX nofun T.ZI .nil aN %[aF fG (aa 2) (aa 0)|0]))),rJ (a_ (i:=11) gU.nd rfl OL_ (bu r_ nofun rfl T.Bw T.yD.kp T.Bv .nil aN %[aa 2,aI bM (aa 11) ao %[|2],aI bM (aa 11) ao %[|2],aa 16|0])),bY (a_ (i:=17) gU.nd rfl OL_ (aI pY (fj %[i6,aF pX (aI bM (aa 11) ao %[|2]) (aF dz (aI b_ (aa 13) ao %[|2]) ao)|0]) (aF dz (aI b_ (aa 13) ao %[|2]) ao) %[|2])),rJ (cF (cC lT (aF dz (aI b_ (aa 13) ao %[|2]) ao) ao (bB _)) (aL (a_ (i:=17) gU.nd rfl OL_ (aF fh (aI bM (aa 3) ao %[|2]) (aF dz (aI b_ (aa 13) ao %[|2]) (aF fh ao (aF xy (aa 8) (aF fh ao (aF dz (aI b_ (aa 13) ao %[|2]) (aI b_ (fj %[ao,ao|0]) (jP KO rfl T.yF boot_int %[aa 6|0]) %[|2]))))))))) bW),bY (a_ (i:=18) gU.nd rfl OL_ (jP xG rfl T.o9 qH %[gq (N:=["_law_j", %[|57]]) (nt:=1) (fv:=[13]) ‹cM.of› rfl (lR rfl T.gK %[aa 10|0]) (λC s H fp=>(bA (i:=0) (show List.Nodup (["_law_j", %[|57]]:List Str) by decide +kernel) rfl OL_)) (λC s H fp=>(jS (PW.pt (uY (cC i_ (aF dz (aF xA (aI (uf (K:=K) rfl) (aa 1) ao %[|2]) (aF fG ao (aa 0))) ao) ao (bB _)) (xu (cC i_ (aF dz (aI (uf (K:=K) rfl) (aa 1) ao %[|2]) ao) ao (bB _))))))) (λC s H fp=>(aa 0))|0])),e_ (lY lP nX nY mQ (aa 9) %[dB %[aa 10,aa 14,aa 15,Dm (aa 6) (oh (iE i_ (aF dz (aI b_ (aa 13) ao %[|2]) ao) ao (bB _))),aa 18,aa 17,aa 16|0]|0])|1],rJ (j9 (eF A7 (aF gc (aF nH (aa 5) ao) ao) ao (bB _)) (aL (a_ (i:=9) gU.nd rfl OL_ (bu amJ nofun rfl T.akR T.ZW.kp T.akQ .nil aN %[aa 1,aa 2,aa 3,aF nH (aa 5) ao|0]))) bW),rJ (j9 (eF A7 (aF gc (aF nH (aa 5) ao) ao) ao (bB _)) (aL (a_ (i:=9) gU.nd rfl OL_ (bu amK nofun rfl T.akT T.ZX.kp T.akS .nil aN %[aa 2,aa 3,aa 9|0]))) bW),br (pv 9)|1],?_⟩
  wp_walk using jv;have Gi:=aK.of (K:=K) hS.o;have kp:=aK.of (K:=K) eB;refine⟨ns,jC,pC,∅,λo1 RC=>⟨∅,∅,_,aA.of aE,.int (if fY ns 5 / most % 5=1 then most else fY ns 5 % most),by split <;> rfl,?_⟩⟩
  have sA:=aj.put (o:=.lst [V.int (fY ns 5 % most),V.int most]) RC;generalize upd H o1 (.lst [V.int (fY ns 5 % most),V.int most])=H1 at sA ⊢;have e0:=fR (fY ns 5) (show most≠0 by lia)
  have e1:=fQ (fY ns 5) (show 0<most by lia)
  have f0:=fR (fY ns 5 / 400) (show (2:Int)≠0 by decide)
  have f1:=fQ (fY ns 5 / 400) (show (0:Int)<2 by decide)
  generalize n_:decide (fY ns 5 / 50 % 8=1)=ch;refine⟨λσ H'=>∃mn:Int,σ = [⇑sc,⇑p,⇑t,⇑sp,↥most,some (.int (fY ns 5)),some (.bl ch),↥mn,none,none,none,none,none,none,none,none,none,none,none]/\H' = H1/\0<=mn/\mn<=7,cK (λ_=>⟨_,rfl,rfl,∅,∅⟩) λ_=>⟨_,rfl,rfl,by split <;> lia,by split <;> lia⟩,?_⟩
  rintro σ H' ⟨mn,rfl,rfl,mn0,mn7⟩;generalize fY ns 5=cell at *
  have swl:=ok.so.len;have sw2:=ok.so.two;have fr:=W8 ok.so (sw.length - 1);wp_walk using jv;refine⟨_,sA.gS Gi,_,rfl,_,sA.gS Gi,_,rfl,sa,rfl,_,aA.of (sA _ _ hS.s),_,JP ∅,?_⟩
  wp_walk using jv;have fl1:=ok.l1;have fl2:=ok.l2;intro l nl;have iS:=hS.same sA;have yP:=hP.same sA;have kp1:=sA.gS kp;have BP:=sA.seq jC;have nn2:=nk.n2;have nn1:=nk.n1;generalize amL:ak+sw.getD (sw.length - 1) 0=mF;have amM:1<=mF:=by lia
  have amN:mF<=2000000000:=by lia
  have pk:=ok.pl [];have l2':(bJ z ak sk sw []).ak<=1000000000:=ok.l2;clear amL;refine DX mn (λi σ H2=>∃(y1 y2 y3 y4 y5 y6 y7:Option V) (nu:Int) (u:Addr) (st:Int×Int) (ts:_A) (ks:List Kn),σ = [some (.ref sc),some (.ref p),some (.ref t),some (.ref sp),some (.int most),some (.int cell),some (.bl ch),some (.int mn),some (.int mF),some (.ref l),some (.int nu),some (.ref u),y1,y2,y3,y4,y5,y6,y7]/\aj H' H2/\H2 u=some (.tup [.int st.1,.int st.2])/\0<=st.1/\st.1<(counts z).length/\0<=st.2/\st.2<=1000000000000+6000000000*(i:Int)/\oV H' H2 l ts ks/\ks.length=i/\-1<=nu/\nu<3*(i:Int)/\(∀k∈ks,ng nc k/\k.n<=nu)/\ks.Pairwise λa b=>a.n<b.n) (λQ q=>q) ∅ ∅ ⟨none,none,none,none,none,none,none,-1,sp,(r,b),[],[],rfl,aj.put nl,aj.put nl _ _ (sA _ _ eB),r0,r1,b0,by dsimp only;lia,⟨aE,rfl,nl,λi t k e=>by simp at e⟩,rfl,∅,∅,(λ_ h=>nomatch h),.nil⟩ ?_ ?_
  ·rintro i σ H2 N hN hi ⟨y1,y2,y3,y4,y5,y6,y7,nu,u,st,ts,ks,rfl,s2,hu,u0,u1,t0,t1,hg,gn,g0,g1,gk,gp⟩;have i7:(i:Int)<7:=by lia
   refine b7 λNa ka=>?_;wp_walk using jv;refine⟨ns,s2.seq BP,pC,∅,_,_,rfl,⋯,⋯,λxa xs H3 s3 nx hx X=>ka _ _ ?_⟩
   have X:rF xs 9:=X;have xl:=X.n;have g:∀k:Int,0<=k->k<9->fL (xs.map V.int) k=some (.int (xs.getD k.toNat 0)):=λk h0 h1=>g6 h0 ∅
   have RD:=s2.trans s3;obtain⟨pq,a1,a2,a3,a4,cE,fs,uo,hA⟩:=yP.same RD;have hp:=hA.o;refine b7 λNb kb=>?_;wp_walk using jv;have RE:=yP.same RD;refine⟨_,aA.of hx,_,g 0 ⋯ ⋯,C,pq,fs,hp,hC,hA.m2,C,p,bJ z ak sk sw nc,fp,rfl,RE,C,pq,fs,hp,hC,hA.m2,C,p,bJ z ak sk sw nc,fp,rfl,RE,_,rfl,λo2 no2=>?_⟩
   have enc:(bJ z ak sk sw nc).nc=nc:=rfl;simp only[enc];have uA:=aj.put (o:=.lst [V.int (nc.length:Int),V.int (if 5<(nc.length:Int) then 5 else(nc.length:Int))]) no2
   have oB:upd H3 o2 (.lst [V.int (nc.length:Int),V.int (if 5<(nc.length:Int) then 5 else(nc.length:Int))]) o2=some (.lst [V.int (nc.length:Int),V.int (if 5<(nc.length:Int) then 5 else(nc.length:Int))]):=aE
   generalize upd H3 o2 (.lst [V.int (nc.length:Int),V.int (if 5<(nc.length:Int) then 5 else(nc.length:Int))])=H4 at uA oB ⊢
   obtain⟨D,hD,D0,D1⟩:∃D:Int,fL [V.int (nc.length:Int),V.int (if 5<(nc.length:Int) then 5 else(nc.length:Int))] (cell / 25 % 2)=↥D/\1<=D/\D<=nc.length:=by
    have h0:=fR (cell / 25) (show (2:Int)≠0 by decide)
    have h1:=fQ (cell / 25) (show (0:Int)<2 by decide)
    have:cell / 25 % 2=0\/cell / 25 % 2=1:=by lia
    rcases this with e | e <;> rw[e]
    ·exact⟨_,rfl,∅,∅⟩
    ·exact⟨_,rfl,by split <;> lia,by split <;> lia⟩
   have r9:=RD.trans uA;have qz:=uA _ _ hx;have RG:=RE.same uA;have RH:=uA _ _ hp;have q0:=X.md (Int.toNat 0) (k:=D) ∅
   have q2:=X.md (Int.toNat 0) (k:=2) ⋯
   refine⟨_,aA.of oB,_,hD,_,rfl,_,rfl,∅,kb _ _ ?_⟩
   generalize xs.getD (Int.toNat 0) 0 % D=fd at q0 ⊢;wp_walk using jv;refine⟨λσ H5=>∃f:Int,σ = [⇑sc,⇑p,⇑t,⇑sp,↥most,↥cell,some (.bl ch),↥mn,↥mF,⇑l,↥nu,⇑u,some (.int (i:Int)),⇑xa,↥f,y4,y5,y6,y7]/\H5=H4/\0<=f/\f<nc.length,cK (λ_=>⟨_,aA.of qz,_,g 0 ⋯ ⋯,_,rfl,?_⟩) λ_=>⟨_,rfl,rfl,q0.1,∅⟩,?_⟩
   ·refine⟨C,pq,fs,RH,hC,hA.m2,C,p,bJ z ak sk sw nc,fp,rfl,RG,_,rfl,.inl ⟨∅,∅⟩,_,rfl,rfl,?_,?_⟩
    ·exact Cu q2.1 (by simp only[enc];lia)
    ·simp only[enc];have:xs.getD (Int.toNat 0) 0 % 2=0\/xs.getD (Int.toNat 0) 0 % 2=1:=by lia
     rcases this with e | e <;> rw[e] <;> lia
   rintro σ H5 ⟨f,rfl,rfl,RI,f1'⟩;clear hD D0 D1 q0 q2 oB;refine b7 λNc kc=>?_;wp_walk using jv;obtain⟨m0,em0,m01,m02,m03⟩:∃m0:Int,(if (nc.length:Int) - f<2 - (if ch=true then 1 else 0) then(nc.length:Int) - f else 2 - (if ch=true then 1 else 0))=m0/\1<=m0/\m0<=2/\m0<=nc.length - f:=by
    refine⟨_,rfl,?_,?_,?_⟩ <;> (split <;> split <;> lia)
   have y1':=X.md (Int.toNat 1) (k:=m0) ∅
   have y3':=X.md (Int.toNat 3) (k:=3) ⋯
   refine⟨_,aA.of qz,_,g 1 ⋯ ⋯,C,pq,fs,RH,hC,hA.m2,C,p,bJ z ak sk sw nc,fp,rfl,RG,_,rfl,_,rfl,?_⟩
   simp only[enc,em0];refine⟨∅,kc _ _ ?_⟩
   generalize hsz:1+xs.getD (Int.toNat 1) 0 % m0=sz;have EW:1<=sz:=by lia
   have EX:sz<=2:=by lia
   have sz3:f+sz<=nc.length:=by lia
   clear hsz y1' em0;refine b7 λNd kd=>?_;wp_walk using jv;refine⟨_,aA.of qz,_,g 3 ⋯ ⋯,_,rfl,kd _ _ ?_⟩
   generalize xs.getD (Int.toNat 3) 0 % 3=d3 at y3' ⊢;wp_walk using jv;refine⟨λσ H6=>∃(D:Addr) (aX:_A),σ = [⇑sc,⇑p,⇑t,⇑sp,↥most,↥cell,some (.bl ch),↥mn,↥mF,⇑l,some (.int (nu+1+d3)),⇑u,some (.int (i:Int)),⇑xa,↥f,↥sz,⇑D,y6,y7]/\aj H5 H6/\H5 D=none/\Zn H6 D aX (fF nc f sz),?_,?_⟩
   ·refine AD sz (λD j ys aB H6=>∃(v:Option V) (aX:_A),aB = [v,⇑p,↥f]/\ys=aX.map V.ref/\Zn H6 D aX ((nc.drop f.toNat).take j)/\aj H5 H6/\H5 D=none/\j<=2) (λQ q=>q) ∅ ∅ ?_ ?_ ?_ ?_
    ·intro D hD;exact⟨none,[],rfl,rfl,by rw[List.take_zero];exact Zn.start,aj.put hD,hD,∅⟩
    ·rintro D j ys aB H6 ⟨v,aX,rfl,rfl,g2,g3,g4,g5⟩;exact⟨g2.l,gi (by rw[aM,g2.n,dw];lia)⟩
    ·rintro D j ys aB H6 N2 iU hj ⟨v,aX,rfl,rfl,g2,g3,g4,g5⟩;symm;refine⟨C,pq,fs,g3 _ _ RH,hC,hA.m9,C,p,bJ z ak sk sw nc,fp,_,rfl,RG.same g3,∅,by simp only[enc];lia,λct q0 eq ht=>⟨g2.l,iU _ _ _ ⟨_,aX++[ct],rfl,by rw[cj];rfl,?_,aj.put2 g3 g4,g4,∅⟩⟩⟩
     have eq':nc[(f+(j:Int)).toNat]? = some q0:=eq;rw[KS RI eq'];exact g2.push ht
    ·rintro D ys aB H6 ⟨v,aX,rfl,rfl,g2,g3,g4,g5⟩;exact⟨D,aX,rfl,g3,g4,g2⟩
   ·rintro σ H6 ⟨D,aX,rfl,g3,g4,g2⟩;have cin:kJ (bJ z ak sk sw []) (fF nc f sz):=λq hq=>by
     have:=nk.c q (W6 hq);refine⟨this.1,this.2.1,this.2.2.1,?_⟩;obtain⟨y,hy,e⟩:=q8 (get_mem (xR (counts z) (show q.1.toNat<(counts z).length by lia)))
     have:=ok.zl.ok.r y hy;lia
    have RJ:(fF nc f sz).length=sz.toNat:=KR RI ∅ sz3
    have Gv:=r9.trans g3;have hu6:=(s3.trans (uA.trans g3)) _ _ hu;have ku:=aK.of (K:=K) hu6;symm;refine⟨λσ H7=>∃(u2:Addr) (cI:Int×Int),σ = [⇑sc,⇑p,⇑t,⇑sp,↥most,↥cell,some (.bl ch),↥mn,↥mF,⇑l,some (.int (nu+1+d3)),⇑u2,some (.int (i:Int)),⇑xa,↥f,↥sz,⇑D,y6,y7]/\aj H6 H7/\H7 u2=some (.tup [.int cI.1,.int cI.2])/\0<=cI.1/\cI.1<(counts z).length/\1<=cI.2/\cI.2<=st.2+6000000000,⟨_,ku,_,rfl,_,ku,_,rfl,t,z,ak,sk,sw,za,bw,ca,sa,st.1,st.2,D,aX,fF nc f sz,rfl,iS.same Gv,ok,u0,u1,g2,cin,∅,λu2 H7 s7 nu2 ux=>?_⟩,?_⟩
    ·have eb:=Ex pk l2' (fF nc f sz) st cin;have ei:=jx (bJ z ak sk sw []) (n:=((bJ z ak sk sw []).rc.length:Int)) (fF nc f sz) st u0 u1 λq hq=>⟨(cin q hq).1,(cin q hq).2.1⟩;have AW:1<=(aQ (bJ z ak sk sw []) st (fF nc f sz)).2:=by
      have:=agA ok st cin (λe=>by rw[e] at RJ;simp at RJ;lia)
      lia
     exact⟨u2,aQ (bJ z ak sk sw []) st (fF nc f sz),rfl,s7,ux,ei.1,ei.2,AW,by rw[RJ] at eb;lia⟩
    rintro σ H7 ⟨u2,cI,rfl,s7,ux,ei1,ei2,AW,eb⟩;have hx7:=(s7 _ _ (g3 _ _ qz));have ku2:=aK.of (K:=K) ux;refine b7 λNe ke=>?_;symm;have z6:=X.md (Int.toNat 6) (k:=2) ⋯
    have z4:=X.md (Int.toNat 4) (k:=2) ⋯
    refine⟨_,ku2,_,rfl,_,aA.of hx7,_,g 6 ⋯ ⋯,_,rfl,_,rfl,λo3 no3=>?_⟩
    have yR:=aj.put (o:=.lst [V.aY,V.int (cI.2 - xs.getD (Int.toNat 6) 0 % 2)]) no3;have RK:upd H7 o3 (.lst [V.aY,V.int (cI.2 - xs.getD (Int.toNat 6) 0 % 2)]) o3=some (.lst [V.aY,V.int (cI.2 - xs.getD (Int.toNat 6) 0 % 2)]):=aE;generalize upd H7 o3 (.lst [V.aY,V.int (cI.2 - xs.getD (Int.toNat 6) 0 % 2)])=H8 at yR RK ⊢;have BQ:=yR _ _ hx7;obtain⟨la,pD,lab⟩:∃la:Option Int,fL [V.aY,V.int (cI.2 - xs.getD (Int.toNat 6) 0 % 2)] (xs.getD (Int.toNat 4) 0 % 2)=some (jU la)/\∀x,la=some x->0<=x/\x<=10000000000000:=by
     have:xs.getD (Int.toNat 4) 0 % 2=0\/xs.getD (Int.toNat 4) 0 % 2=1:=by lia
     rcases this with e | e <;> rw[e]
     ·exact⟨none,rfl,λx hx=>by cases hx⟩
     ·refine⟨some (cI.2 - xs.getD (Int.toNat 6) 0 % 2),rfl,λx hx=>?_⟩;cases hx;constructor <;> lia
    have kp8:=((Gv.trans s7).trans yR).gS kp1;refine⟨_,aA.of BQ,_,g 4 ⋯ ⋯,_,rfl,_,aA.of RK,_,pD,ke _ _ ?_⟩
    symm;refine⟨λσ H9=>∃lb:Option Int,σ = [⇑sc,⇑p,⇑t,⇑sp,↥most,↥cell,some (.bl ch),↥mn,↥mF,⇑l,some (.int (nu+1+d3)),⇑u2,some (.int (i:Int)),⇑xa,↥f,↥sz,⇑D,some (jU lb),y7]/\aj H8 H9/\∀x,lb=some x->0<=x/\x<=10000000000000,⟨_,aA.of BQ,_,g 4 ⋯ ⋯,_,rfl,cK (λ_=>?_) λ_=>⟨la,rfl,aj.refl _,lab⟩⟩,?_⟩
    ·try symm
     have v6:∀k:Int,0<k->k<=9->1<=mF*(1+xs.getD (Int.toNat 6) 0 % k)/\mF*(1+xs.getD (Int.toNat 6) 0 % k)<=2000000000*9:=λk hk hk9=>by
      have:=X.md (Int.toNat 6) (k:=k) hk;have h1:=qA amM (show 1<=1+xs.getD (Int.toNat 6) 0 % k by lia) ⋯ ∅
      have h2:=qA amN (show 1+xs.getD (Int.toNat 6) 0 % k<=9 by lia) ∅ ⋯
      exact⟨∅,h2⟩
     have vk:=v6 (if ch=true then 9 else 4) (by split <;> decide) (by split <;> decide)
     have v5a:=fR (xs.getD (Int.toNat 5) 0) (show 1+mF*(1+xs.getD (Int.toNat 6) 0 % (if ch=true then 9 else 4))≠0 by lia)
     have v5b:=fQ (xs.getD (Int.toNat 5) 0) (show 0<1+mF*(1+xs.getD (Int.toNat 6) 0 % (if ch=true then 9 else 4)) by lia)
     refine⟨_,kp8,_,rfl,_,aA.of BQ,_,g 5 ⋯ ⋯,_,aA.of BQ,_,g 6 ⋯ ⋯,λo4 no4=>⟨_,aA.of aE,.int (if ch=true then 9 else 4),by cases ch <;> rfl,_,rfl,_,rfl,by split <;> decide,.inl ⟨∅,∅⟩,_,rfl,∅,_,rfl,some _,rfl,aj.put no4,λx hx=>?_⟩⟩
     cases hx;constructor <;> lia
    rintro σ H9 ⟨lb,rfl,Gw,lbb⟩;clear pD lab RK;have hx9:=Gw _ _ BQ;have n9:0<=nu+1+d3/\nu+1+d3<=30:=by lia
    refine b7 λNf kf=>?_;symm;refine AD (nu+1+d3) (λD2 j ys aB HA=>∃(v:Option V) (js:_I),ys=js.map V.int/\aB = [v,⇑xa]/\HA D2=some (.lst ys)/\aj H9 HA/\H9 D2=none/\js.length<=j/\j<=30/\js.Pairwise (· < ·)/\∀x∈js,0<=x/\x<(j:Int)) (λQ q=>q) ∅ ∅ ?_ ?_ ?_ ?_
    ·intro D2 kg;exact⟨none,[],rfl,rfl,aE,aj.put kg,kg,bx _,∅,.nil,λ_ h=>nomatch h⟩
    ·rintro D2 j ys aB HA ⟨v,js,rfl,rfl,j1,j2,j3,j4,j5,j6,j7⟩;exact⟨j1,gi (by rw[aM];lia)⟩
    ·rintro D2 j ys aB HA N2 iU hj ⟨v,js,rfl,rfl,j1,j2,j3,j4,j5,j6,j7⟩;have hxA:=j2 _ _ hx9;symm;have yes:HA D2=some (.lst (js.map V.int))/\N2 (js.map V.int++[V.int (j:Int)]) [some (V.int (j:Int)),some (V.ref xa)] (upd HA D2 (.lst (js.map V.int++[V.int (j:Int)]))):=by
      refine⟨j1,iU _ _ _ ⟨_,js++[(j:Int)],by rw[cj];rfl,rfl,aE,aj.put2 j2 j3,j3,by simp;lia,∅,?_,λx hx=>?_⟩⟩
      ·rw[CK];exact⟨j6,by simp,λa ha b' hb=>by rw[List.mem_singleton.mp hb];exact(j7 a ha).2⟩
      ·rcases fB.mp hx with hx | hx
       ·have:=j7 x hx;lia
       ·rw[fV.mp hx];lia
     have no:N2 (js.map V.int) [some (V.int (j:Int)),some (V.ref xa)] HA:=iU _ _ _ ⟨_,js,rfl,rfl,j1,j2,j3,∅,∅,j6,λx hx=>by have:=j7 x hx;lia⟩
     exact⟨_,aA.of hxA,_,g 7 ⋯ ⋯,_,rfl,∅,∅,cK (λ_=>⟨_,aA.of hxA,_,g 8 ⋯ ⋯,_,rfl,cK (λ_=>yes) λ_=>no⟩) λ_=>no⟩
    ·rintro D2 ys aB HA ⟨v,js,rfl,rfl,j1,j2,j3,j4,j5,j6,j7⟩;refine⟨D2,rfl,_,.inl ⟨aA.of j1,λbt nbt=>kf _ _ ?_⟩⟩;have hbt:upd HA bt (.tup (js.map V.int)) bt=some (.tup (js.map V.int)):=aE;have BR:=j2.trans (aj.put (o:=.tup (js.map V.int)) nbt);generalize upd HA bt (.tup (js.map V.int))=HB at hbt BR ⊢;have hxB:=BR _ _ hx9;symm;have s5B:=g3.trans (s7.trans (yR.trans (Gw.trans BR)));have s2B:=s3.trans (uA.trans s5B);have hgB:=hg.same s2B;have Dl:D≠l:=(bT ((s3.trans uA) _ _ hg.hl) g4).symm;have fin:∀(wr:Bool) (kt:Addr),HB kt=none->∃x,upd HB kt (.tup [V.int (nu+1+d3),V.int f,V.int sz,V.bl wr,V.ref bt,jU lb,V.ref D]) l=some (.lst x)/\x.length<16777216/\
       N [some (V.ref sc),some (V.ref p),some (V.ref t),some (V.ref sp),some (V.int most),some (V.int cell),some (V.bl ch),some (V.int mn),some (V.int mF),some (V.ref l),some (V.int (nu+1+d3)),some (V.ref u2),some (V.int (i:Int)),some (V.ref xa),some (V.int f),some (V.int sz),some (V.ref D),some (jU lb),some (V.ref bt)]
        (upd (upd HB kt (.tup [V.int (nu+1+d3),V.int f,V.int sz,V.bl wr,V.ref bt,jU lb,V.ref D])) l (.lst (x++[V.ref kt]))):=by
      intro wr kt nkt;have sK:=aj.put (o:=.tup [V.int (nu+1+d3),V.int f,V.int sz,V.bl wr,V.ref bt,jU lb,V.ref D]) nkt;have hK:gF (upd HB kt (.tup [V.int (nu+1+d3),V.int f,V.int sz,V.bl wr,V.ref bt,jU lb,V.ref D])) kt ⟨nu+1+d3,f,sz,wr,js,lb,fF nc f sz⟩ bt D aX:=⟨aE,sK _ _ hbt,g2.same ((s7.trans (yR.trans (Gw.trans BR))).trans sK)⟩;have RL:=hgB.same sK;have RM:=((yR.trans (Gw.trans BR)).trans sK) _ _ ux;have u2l:u2≠l:=λe=>by rw[e,RL.hl] at RM;cases RM
      have hnk:ng nc ⟨nu+1+d3,f,sz,wr,js,lb,fF nc f sz⟩:=⟨RI,EW,by dsimp only;lia,sz3,rfl,⟨j6,λx hx=>(j7 x hx).1,λx hx=>by have:=(j7 x hx).2;lia⟩,lbb⟩
      refine⟨_,RL.hl,by rw[aM,hg.n,gn];lia,hN _ _ ⟨_,_,_,_,_,_,_,nu+1+d3,u2,cI,ts++[kt],ks++[_],rfl,aj.put2 (s2.trans (s2B.trans sK)) nl,(aJ u2l).trans RM,ei1,ei2,∅,∅,RL.snoc hK Dl,by simp[gn],∅,∅,λk hk=>?_,?_⟩⟩
      ·rcases fB.mp hk with hk | hk
       ·have:=gk k hk;exact⟨this.1,by have:=this.2;lia⟩
       ·rw[fV.mp hk];exact⟨hnk,nQ _⟩
      ·rw[CK];refine⟨gp,by simp,λk hk k' g9=>?_⟩
       rw[fV.mp g9];have:=(gk k hk).2;dsimp only;lia
     exact⟨⟨_,aA.of hgB.hl⟩,cK (λ_=>fin true) λ_=>⟨_,aA.of hxB,_,g 2 ⋯ ⋯,_,rfl,fin _⟩⟩
  ·rintro σ H2 ⟨y1,y2,y3,y4,y5,y6,y7,nu,u,st,ts,ks,rfl,s2,hu,u0,u1,t0,t1,hg,gn,g0,g1,gk,gp⟩;wp_walk using jv;have amO:=s2 _ _ (sA _ _ eB);refine⟨λσ H5=>∃(l2:Addr) (uu:_A) (wC:List Kn),σ = [⇑sc,⇑p,⇑t,⇑sp,↥most,↥cell,some (.bl ch),↥mn,↥mF,⇑l2,↥nu,⇑u,y1,y2,y3,y4,y5,y6,y7]/\aj H' H5/\H' l2=none/\dG H5 l2 uu wC/\vK nc wC,cK (λ_=>⟨C,p,t,sp,z,ak,sk,sw,za,bw,ca,sa,nc,fp,r,b,_,rfl,hC,yP.same s2,nk,iS.same s2,ok,amO,r0,r1,λl2 uu wC H3 s3 sf hk rA=>⟨l2,uu,wC,rfl,s2.trans s3,s2.free sf,hk,rA⟩⟩) λ_=>⟨l,ts,ks,rfl,s2,hg.nl,hg.yf,⟨λk hk=>(gk k hk).1,gp,∅⟩⟩,?_⟩
   rintro σ H5 ⟨l2,uu,wC,rfl,s5,sf,hk,rA⟩;symm;refine⟨λσ H6=>∃(l3:Addr) (BS:_A) (yS:List Kn),σ[9]? = some (⇑l3)/\aj H' H6/\H' l3=none/\dG H6 l3 BS yS/\vK nc yS,cK (λ_=>⟨t,sp,l2,z,ak,sk,sw,za,bw,ca,sa,r,b,uu,wC,rfl,iS.same s5,ok,s5 _ _ (sA _ _ eB),r0,r1,b0,∅,hk,λk g9=>(rA.ok k g9).cells nk ok,(cH rA.n7 ⋯),λl3 BS yS H6 s6 yQ RN rt=>⟨l3,BS,yS,rfl,s5.trans s6,s5.free yQ,RN,rt.ok rA⟩⟩) λ_=>⟨l2,uu,wC,rfl,s5,sf,hk,rA⟩,?_⟩
   rintro σ H6 ⟨l3,BS,yS,e9,s6,yQ,RN,ok3⟩;simp only[_L.Later,qp,mI,uc,LB,LC,A8,YI,E9,ue,vZ,E_,aiA,LD,aiB,Xr,Yg,Yh,Yi,Yb,KQ,Je,KN,WQ,V6,tQ,V7,V2,Vt,DZ,xF,Vo,Vu,UX,KZ,agD,Jd,Jb,Ja,Jg,Jf,and_assoc,acL,HO.ins.injEq,VL,tH,gY,String.reduceBEq,List.lookup_cons,List.lookup_nil,aE,HO.lst.injEq,HO.dT.injEq,HO.tup.injEq,String.reduceEq,false_and,or_false,false_or,tL,JB,JA,Jz,Jw,Jx,Jy,JE,Bool.not_eq_true',decide_eq_false_iff_not,Classical.not_not,Iv,if_false_left,if_false_right,DS,Io,l6,List.length_map,List.getElem?_nil,Dn,zX,qJ,Dq,zT,zW,Iw,Di,tC,vd,kB,rI,IG,rU,IP,tB,Iu,Ir,UK,Iq,DC,DA,Ac,DB,Ip,Ii,xr,Ij,Ik,Il,Im,IY,IX,Jj,xH,Jk,Jl,Jo,Jq,DJ,Ai,IK,IL,sc1,sc2,sc3,sc4,sc5,sc6,sc7,sc8,Aa,IJ,UQ,Dz,IV,IZ,I0,_L.start,aeg,aeh,agH,List.map_cons,List.map_nil,List.cons_append,List.nil_append,List.append_nil,List.length_cons,List.length_nil,List.getElem?_cons_zero,List.getElem?_cons_succ,Option.some.injEq,exists_eq_left,exists_eq_left',exists_and_left,exists_eq,V.int.injEq,V.ref.injEq,V.bl.injEq,V.ty.injEq,V.str.injEq,List.cons.injEq,and_true,true_and,List.set_cons_zero,List.set_cons_succ,decide_eq_true_eq,Nat.reduceSub,Nat.reduceAdd,List.replicate_succ,List.replicate_zero,List.replicate,Int.reduceLT,Int.reduceLE,Int.reducePow,Int.reduceToNat,Int.reduceNeg,Nat.reduceLT,Nat.reduceLeDiff,Nat.reducePow,Int.reduceMul,Int.reduceAdd,Int.reduceSub,and_self,or_true,true_or,gt_iff_lt,ge_iff_le,if_true,if_false,Bool.false_eq_true,reduceIte,Nat.sub_self,Nat.sub_zero];exact⟨_,e9,q l3 BS yS H6 (sA.trans s6) (sA.free yQ) RN ok3⟩
theorem amP:bq P w K mg base bF 4 A.PV A.PX [%[|11], %[|20], %[|21], %[|10], %[|96]] (aiq K):=by
 have r_:= ~~~BF;have amQ:= ~~~ams;exists T.aae.ok Bj
 ·obtain⟨t,kl,f,z,ak,sk,sw,r,b,ks,bg,rfl,_⟩:=h
  rfl
 ·obtain⟨t,kl,f,z,ak,sk,sw,r,b,ks,bg,rfl,L,hf,od,tm,q⟩:=h;obtain⟨bH,hk⟩:=L.kn;obtain⟨za,bw,ca,sa,hS⟩:=L.sp;have dg:=hk.n;have n7:=L.n7;refine⟨_,%[bY (cF (iB (gh (bu amQ nofun rfl T.ak1 T.Z9.kp T.ak0 .nil aN %[aa 4,aa 3|0]))) (aL (br eK)) bW),c8 c7 rfl (Dt (aa 4)) (bA (i:=5) Bj.nd rfl (Or.inr rfl))
   %[a_ (i:=6) Bj.nd rfl OL_ (aI pY (gq (N:=[%[|18], %[|35]]) (nt:=1) (fv:=[5]) ‹cM.of› rfl (cS (aa 3)) (λC s H fp=>(bA (i:=0) (show List.Nodup ([%[|18], %[|35]]:List Str) by decide +kernel) rfl OL_)) (λC s H fp=>(jS (cC i_ (aI (j_ (K:=K) rfl) (aa 0) ao %[|2]) (aa 1) (bB _)))) (λC s H fp=>(aa 0))) ao %[|2]),xx (bu r_ nofun rfl T.Bw T.yD.kp T.Bv .nil aN %[aa 0,aa 1,aa 2,aI bM (aa 6) ao %[|2]|0]) (kr rfl (dX (bA (i:=1) Bj.nd rfl OL_) (dX (bA (i:=2) Bj.nd rfl OL_) kq))),cF (PW.pt (uY (cC qM (aI bM (aa 6) ao %[|2]) i6 (bB _)) (xu (cC lT (aa 2) (aI bM (aa 6) ao %[|2]) (bB _))))) (aL (br eK)) bW|1],br eK|1],?_⟩
  refine b7 λN1 k1=>?_;walk_at "rdt";refine⟨f,kl,bH,ks,bg,rfl,hf,hk,∅,L.up,od,λH1 s1=>⟨true,rfl,ite_no (by simp) (k1 _ _ ?_)⟩⟩
  clear k1 N1;walk_at "rdt";refine rt f (bg.map V.int) (λi σ H'=>∃(st:Int×Int) (x y:Option V),0<=st.1/\st.1<(counts z).length/\E6 (bJ z ak sk sw []) ks st (bg.drop i)/\σ = [⇑t,↥st.1,↥st.2,⇑kl,⇑f,x,y]/\aj H1 H') (λQ q=>q) (aK.of (s1 _ _ hf)) ⟨(r,b),none,none,L.r0,L.r1,tm,rfl,aj.refl _⟩ (by rintro i σ H' _ ⟨st,x,y,_,_,_,rfl,s'⟩;exact aK.of (s' _ _ (s1 _ _ hf))) ?_ ?_
  ·rintro i x σ H' N hN hx ⟨st,x0,y0,yN,nj,tk,rfl,s'⟩;obtain⟨n,hn,rfl⟩:=c9 hx;have sA:=s1.trans s';rw[Hq (cJ hn)] at tk;obtain⟨k,yT,en,cg,tk⟩:=tk;rw[(iI.mp hn).2] at en;obtain⟨c1,c2⟩:=L.kc k yT;subst en;walk_at "rdt";refine iF kl (bH.map V.ref) (λD j ys aB H2=>∃(u:Option V) (cE:_A),ys=cE.map V.ref/\aB = [u,↥k.n]/\H2 D=some (.lst ys)/\aj H' H2/\H' D=none/\jh H' cE ((ks.take j).filter λx=>decide (x.n=k.n))) (λQ q=>q) (hk.same sA).sq ?_ ?_ ?_ ?_
   ·intro D hD;exact⟨none,[],rfl,rfl,aE,aj.put hD,hD,jh.nil⟩
   ·rintro D j ys aB H2 ⟨u,cE,rfl,rfl,e1,e2,e3,e4⟩;refine⟨e1,gi ?_,((hk.same sA).same e2).sq⟩;have:=gW (λx:Kn=>decide (x.n=k.n)) (ks.take j);rw[dw] at this;have e5:=e4.n;rw[aM];lia
   ·rintro D j x ys aB H2 M hM hx ⟨u,cE,rfl,rfl,e1,e2,e3,e4⟩;obtain⟨kt,pF,rfl⟩:=c9 hx;have hj:j<ks.length:=by rw[← dg];exact cJ pF
    obtain⟨b2,cl,aX,hK⟩:=(hk.same sA).t j kt ks[j] pF (aV hj);have et:=oW (p:=λx:Kn=>decide (x.n=k.n)) (aV hj);generalize ks[j] = k' at *
    walk_at "rdt";refine⟨_,aK.of (e2 _ _ hK.o),_,rfl,rfl,cK (λh1=>⟨e1,hM _ _ _ ⟨_,cE++[kt],by simp,rfl,aE,aj.put2 e2 e3,e3,?_⟩⟩) λh1=>hM _ _ _ ⟨_,cE,rfl,rfl,e1,e2,e3,?_⟩⟩
    ·rw[et,if_pos ↑h1]
     exact e4.snoc ⟨_,_,_,hK⟩
    ·rw[et,if_neg ↑h1,jF]
     exact e4
   ·rintro D ys aB H2 ⟨u,cE,rfl,rfl,e1,e2,e3,e4⟩;rw[aM,dg,cZ,YA L.up yT] at e4;obtain⟨kt,rfl⟩:∃kt,cE = [kt]:=List.length_eq_one_iff.mp e4.n;obtain⟨b2,cl,aX,hK⟩:=e4.t 0 kt k rfl rfl;have yJ:=hK.same e2;walk_at "rdt";have ie:=jx (bJ z ak sk sw []) (n:=(counts z).length) k.c st yN nj λq hq=>⟨(c1 q hq).1,(c1 q hq).2.1⟩;refine⟨_,aA.of e1,_,rfl,_,aK.of yJ.o,_,rfl,t,z,ak,sk,sw,za,bw,ca,sa,st.1,st.2,cl,aX,k.c,rfl,(hS.same sA).same e2,L.wo,yN,nj,yJ.c,c1,∅,λu H3 s3 nu hu=>⟨u,rfl,_,aK.of hu,rfl,_,_,rfl,_,_,rfl,rfl,_,aK.of (s3 _ _ yJ.o),_,rfl,?_⟩⟩
    have fin:=hN [⇑t,some (.int (aQ (bJ z ak sk sw []) st k.c).1),some (.int (aQ (bJ z ak sk sw []) st k.c).2),⇑kl,⇑f,↥k.n,⇑kt] H3 ⟨_,_,_,ie.1,ie.2,tk,rfl,(s'.trans e2).trans s3⟩;cases pD:k.f_ with
    | none=>exact ite_no (λz=>z rfl) fin
    | some x =>
     have:=cg x pD;have ho:=s3 _ _ yJ.o;rw[pD] at ho;exact ite_yes (λz=>nomatch z) ⟨_,aK.of ho,_,rfl,_,rfl,x,rfl,ite_no (Int.not_lt.mpr this) fin⟩
  ·rintro σ H' ⟨st,x0,y0,yN,nj,tk,rfl,s'⟩;walk_at "rdt";exact q _ (s1.trans s')
theorem RO:bq P w K mg base bF 5 A.NI A.NJ [%[|32], "ring", "beat", "cells"] (aeW K [A.bK,A.bG]):=by
 have amR:= ~~~amy;exists T.FT.ok YM
 ·obtain⟨C,p,P,fp,r,b,ca,aX,cz,rfl,_⟩:=h
  rfl
 ·obtain⟨C,p,P,fp,r,b,ca,aX,cz,rfl,hC,hP,ok,r0,r1,hz,hq,hlen,q⟩:=h;refine⟨_,%[a_ (i:=4) YM.nd rfl OL_ (bu amR nofun rfl T.ajA T.Y9.kp T.ajz .nil aN %[aa 0,aa 1,aa 2,aa 3|0]),cF (iB (ac5 (aa 4) (λ_=>rfl))) (aL (br (dB %[aa 1,aa 2|0]))) bW,br (dB %[aI qT (aI b_ (aa 4) (ve vf ao) %[|2]) ao %[|2],aI qT (aI b_ (aa 4) (ve vf ao) %[|2]) ao %[|2]|0])|1],?_⟩
  symm;refine⟨C,p,P,fp,r,b,ca,aX,cz,rfl,hC,hP,ok,r0,r1,hz,hq,hlen,λl ts H1 s1 n1 Ge h1=>?_⟩;symm;have hn:=h1.n;rw[oJ] at hn;refine⟨_,.inl ⟨_,aA.of h1.l,rfl⟩,cK (λe=>λt nt=>?_) λe=>?_⟩
  ·have ez:cz = []:=by
    have:cz.length=0:=by
     have e1:ts = []:=by simpa using e
     rw[e1] at hn;simpa using hn.symm
    exact Ug this
   subst ez;exact q t _ (aj.put2 s1 (s1.free nt)) (s1.free nt) aE
  ·have ez:cz≠[]:=by
    rintro rfl;have e1:ts = []:=Ug hn;rw[e1] at e;exact e rfl
   have hp:0<cz.length:=List.length_pos_iff.mpr ez;obtain⟨t,et,ht⟩:=h1.at (i:=cz.length - 1) (by rw[oJ];lia)
   obtain⟨a,c,ew⟩:=aeT P (r,b) ez;rw[ew] at ht;have ei:fL (ts.map V.ref) (-1)=⇑t:=by
    unfold fL;rw[aeM (by rw[aM];lia),aM,hn]
    exact et
   refine⟨_,aA.of h1.l,_,ei,?_⟩;symm;refine⟨_,aK.of ht,_,rfl,_,aA.of h1.l,_,ei,?_⟩;symm;refine⟨_,aK.of ht,_,rfl,λt2 nt=>?_⟩;exact q t2 _ (aj.put2 s1 (s1.free nt)) (s1.free nt) aE
theorem aa4:bq P w K mg base bF 5 A.Ph A.Pj [%[|18], %[|22]] (ags K A.bX):=by
 have amS:= ~~~amv;have amT:= ~~~amw;exists T.Qj.ok YQ
 ·obtain⟨t,k,b,cl,aX,c,nc,rfl,_⟩:=h
  rfl
 ·obtain⟨t,k,b,cl,aX,c,nc,rfl,hk,ok,hn,q⟩:=h;refine⟨_,%[cF (gh (aI bM (aa 0) ao %[|2])) %[tV (i:=2) YQ.nd rfl OL_ (N:=["_law_j", %[|22]]) (nt:=1) (fv:=[1]) ‹cM.of› rfl (lR rfl T.gK %[aI bM (aa 0) ao %[|2]|0]) (λC s H fp=>(bA (i:=0) (show List.Nodup (["_law_j", %[|22]]:List Str) by decide +kernel) rfl OL_)) (λC s H fp=>jR) (λC s H fp=>(aF gc (aF fG (aa 1) (aF oZ ao (aa 0))) (aF fG (aF qL ao ao) ao))),br (bu amT nofun rfl T.ajp T.Y3.kp T.ajo .nil aN %[aI bM (aa 0) ao %[|2],aa 2,aF gc (aa 1) (aF qL ao ao),aF gc (aa 1) ao,aI bM (aa 0) ao %[|2],aI bM (aa 0) ao %[|2],iE i_ (aF gc (aa 1) ao) ao (bB _)|0])|1] bW,br (bu amS nofun rfl T.ajn T.Y0.kp T.ajm .nil aN %[aI bM (aa 0) ao %[|2],aI bM (aa 0) ao %[|2],aF gc (aa 1) (aF qL ao ao),aF gc (aa 1) ao,aI bM (aa 0) ao %[|2],aI bM (aa 0) ao %[|2]|0])|1],?_⟩
  have k1:=aK.of (K:=K) hk.o;symm;have a0:=fR c (show (1000000000000:Int)≠0 by decide)
  have a1:=fQ c (show (0:Int)<1000000000000 by decide)
  have b0:=fR c (show (21:Int)≠0 by decide)
  have b1:=fQ c (show (0:Int)<21 by decide)
  have o1:=ok.m0;have o2:=ok.m1;have o3:=ok.fit;have hB:D_ k.f k.m (c % 1000000000000) (c % 21) k.f_:=⟨ok.f0,∅,ok.m0,ok.m1,a0,∅,b0,∅,ok.l⟩
  refine⟨_,k1,_,rfl,k.w,rfl,cK (λhw=>?_) λhw=>⟨_,k1,_,rfl,_,k1,_,rfl,⋯,_,k1,_,rfl,_,k1,_,rfl,k.f,k.m,_,_,k.f_,_,k.bh,rfl,hB,.inr ⟨b,rfl,.inr hk.b⟩,ok.r,λp mk bb dx H' s np ha=>q _ p mk bb dx H' ⟨rfl,rfl,rfl,?_,rfl⟩ s np ha⟩⟩
  ·refine AD k.m (λD i ys aB H2=>∃(u:Option V) (ns:_I),ys=ns.map V.int/\ns.length=i/\(∀x∈ns,0<=x/\x<=1000000000)/\aB = [u,↥c]/\H2 D=some (.lst ys)/\aj H H2/\H D=none/\i<=16) (λQ q=>?_) ∅ ∅ ?_ ?_ ?_ ?_
   ·symm;exact⟨_,k1,_,rfl,q⟩
   ·intro D hD;exact⟨none,[],rfl,rfl,(λ_ h=>nomatch h),rfl,aE,aj.put hD,hD,∅⟩
   ·rintro D i ys aB H2 ⟨u,ns,rfl,e0,eb,rfl,e1,e2,e3,e4⟩;exact⟨e1,gi (by rw[aM];lia)⟩
   ·rintro D i ys aB H2 N hN hi ⟨u,ns,rfl,e0,eb,rfl,e1,e2,e3,e4⟩;symm;have m0:=fR (c+7*(i:Int)) (show (1000000001:Int)≠0 by decide)
    have m1:=fQ (c+7*(i:Int)) (show (0:Int)<1000000001 by decide)
    refine⟨⋯,e1,hN _ _ _ ⟨_,ns++[(c+7*(i:Int)) % 1000000001],by rw[cj];rfl,by simp[e0],λx hx=>?_,rfl,aE,aj.put2 e2 e3,e3,∅⟩⟩
    rcases fB.mp hx with hx | hx
    ·exact eb x hx
    ·rw[fV.mp hx];lia
   ·rintro D ys aB H2 ⟨u,ns,rfl,e0,eb,rfl,e1,e2,e3,e4⟩;have k2:=e2.gS k1;have el:(ns.length:Int)=k.m:=by lia
    refine⟨_,k2,_,rfl,⋯,_,k2,_,rfl,_,k2,_,rfl,k.f,_,_,D,ns,k.f_,_,k.bh,_,rfl,aA.of e1,eb,by rw[el];exact hB,.inr ⟨b,rfl,.inr (e2 _ _ hk.b)⟩,ok.r,λp mk bb dx H' s np ha=>q _ p mk bb dx H' ⟨rfl,el,rfl,by rw[if_pos hw],rfl⟩ (e2.trans s) (e2.free np) ha⟩
  ·rw[if_neg hw]
theorem aa5:bq P w K mg base bF 6 A.N_ A.Oa ["self", %[|72], "ring", "beat"] (aid K [A.bK,A.bG] A.bX A.cG A.c_):=by
 have BU:= ~~~RO;have QY:= ~~~aaI;exists T.ajK.ok M0
 ·obtain⟨C,x,p,l,kd,fa,dx,pb,P,fp,ps,ds,az,bg,r,b,H0,rfl,_⟩:=h
  rfl
 ·obtain⟨C,x,p,l,kd,fa,dx,pb,P,fp,ps,ds,az,bg,r,b,H0,rfl,S,s0,r0,r1,hx,hb,q⟩:=h;unfold rR at hx;refine⟨_,%[c8 c7 rfl (cS (bu QY nofun rfl T.Ze T.P_.kp T.Zd .nil aN %[b9 (aa 0) rfl,aa 1|0])) (bA (i:=4) M0.nd rfl OL_)
   %[a_ (i:=5) M0.nd rfl OL_ (b9 (b9 (aa 4) rfl) rfl),cF (PW.pt (uY (cC qM (aa 5) i6 (bB _)) (xu (cC lT (aI qT (bu BU nofun rfl T.P9 T.FT.kp T.P8 .nil aN %[b9 (aa 0) rfl,aa 2,aa 3,b9 (aa 4) rfl|0]) ao %[|2]) (aa 5) (bB _))))) (aL (br (b9 (aa 4) rfl))) bW|1],br i6|1],?_⟩
  refine tM ?_;wp_walk using T,hx;refine⟨l,pb,ps,ds,bg,H0,rfl,s0,S.du,cH S.n7 ⋯,hb,λD pl H1 s1 nD hD hl=>⟨D,rfl,?_⟩⟩
  have mC:=hl.n;refine oH.by D (pl.map V.ref) (λi σ H'=>∃(u v:Option V),σ = [⇑x,⇑pb,↥r,↥b,u,v]/\aj H1 H'/\∀(j:Nat) (d:Dr),j<i->(bZ ds bg)[j]? = some d->gJ d (aQ P (r,b) d.c).2=false) (aA.of hD) ⟨none,none,rfl,aj.refl _,λ_ _ h=>absurd h (uN _)⟩ (by rintro i σ H' _ ⟨u,v,rfl,g,_⟩;exact aA.of (g _ _ hD)) ?_ ?_
  ·rintro i y σ H' N hN hy ⟨u,v,rfl,g1,g2⟩;obtain⟨dp,iG,rfl⟩:=c9 hy;have hi:i<(bZ ds bg).length:=by rw[← mC];exact cJ iG
   have mG:=aV hi;obtain⟨jT,ap,la,ts,m,b',cA,su⟩:=hl.t i dp (bZ ds bg)[i] iG mG;have mD:=dU hi;generalize (bZ ds bg)[i] = d at *
   have sA:=(s0.trans s1).trans g1;have ji:=su.same sA;have dY:=ji.o;have BB:=ji.a.o;unfold m_ at dY;unfold tQ at BB;have lK:=g1 _ _ (s1 _ _ hx);wp_walk using T,dY,BB,lK;have more:(h:gJ d (aQ P (r,b) d.c).2=false)->∀(j:Nat) (d':Dr),j<i+1->(bZ ds bg)[j]? = some d'->gJ d' (aQ P (r,b) d'.c).2=false:=λh j d' hj ej=>by
    rcases CM.mp hj with hj | rfl
    ·exact g2 j d' hj ej
    ·rw[mG] at ej;cases ej;exact h
   obtain⟨BV,BW⟩:=S.dc d (tW.mp mD).1;cases pD:d.q.tO with
   | none=>exact ite_no (λz=>z rfl) (hN _ _ ⟨_,_,rfl,g1,more (by unfold gJ;rw[pD])⟩)
   | some lt =>
    refine ite_yes (λz=>nomatch z) ⟨C,p,P,fp,r,b,la,ts,d.c,rfl,S.c,S.pl.same sA,S.ok,r0,r1,ji.c,BV,BW,λt H2 s2 nt ht=>⟨t,rfl,_,aK.of ht,_,rfl,_,rfl,lt,rfl,cK (λh1=>?_) λh1=>?_⟩⟩
    ·have wu:=s2 _ _ dY;wp_walk using T,wu;have e:=aii g2 mG (by unfold gJ;rw[pD];exact decide_eq_true h1)
     rw[e] at q;exact q _ ((s1.trans g1).trans s2)
    ·exact hN _ _ ⟨_,_,rfl,g1.trans s2,more (by unfold gJ;rw[pD];exact decide_eq_false h1)⟩
  ·rintro σ H' ⟨u,v,rfl,g1,g2⟩;walk_at "rdt";rw[aij λj d ej=>g2 j d (by rw[aM,mC];exact cJ ej) ej] at q
   exact q _ (s1.trans g1)
theorem amU:bq P w K mg base bF 6 A.O6 A.O7 [%[|11], %[|22]] (ago K [A.bK,A.bG] A.bf (rD iT) (rE %[|16])):=by
 have Rx:= ~~~aaW;have amV:= ~~~amC;have BD:= ~~~QW;exists T.ZU.ok yz
 ·obtain⟨t,z,ak,sk,sw,za,bw,ca,sa,c,rfl,_⟩:=h
  rfl
 ·obtain⟨t,z,ak,sk,sw,za,bw,ca,sa,c,rfl,hS,ok,T0,q⟩:=h;have hu:=qW hr;refine⟨_,%[a_ (i:=2) yz.nd rfl OL_ (bu BD nofun rfl T.Qi T.FY.kp T.Qh .nil aN %[aa 1,ao|0]),cF (cC lT (aF dz (aI b_ (aa 2) ao %[|2]) ao) ao (bB _)) (aL (br (tF T.ald Rx nofun rfl T.aaA T.ZE .nil aN %[jP Am rfl T.rX uP %[aI bM (aa 0) ao %[|2]|0],aI bM (aa 0) ao %[|2],aI bM (aa 0) ao %[|2],jP Am rfl T.rX uP %[aI bM (aa 0) ao %[|2]|0]|0]))) bW,a_ (i:=3) yz.nd rfl OL_ (aF dz (aI b_ (aa 2) ao %[|2]) (cB (VI rfl) rfl T.wk boot_min %[aI bM (aa 0) ao %[|2]|0])),a_ (i:=4) yz.nd rfl OL_ JC,c8 c7 rfl (lR rfl T.gK %[cB (IS rfl) rfl T.wk boot_min %[aF dz (aI b_ (aa 2) ao %[|2]) ao,aF oZ (aa 3) (cB DM rfl T.dN dZ %[aI bM (aa 0) ao %[|2]|0])|0]|0]) (bA (i:=5) yz.nd rfl OL_)
   %[a_ (i:=6) yz.nd rfl OL_ (aF dz (aI b_ (aa 2) (aF fG ao (aa 5)) %[|2]) (cB DM rfl T.dN dZ %[aI bM (aa 0) ao %[|2]|0])),As hu (aa 4) (dB %[aa 6,aF dz (aI b_ (aa 2) (aF fG ao (aa 5)) %[|2]) (aI pY (aI bM (aa 0) ao %[|2]) (aa 6) %[|2])|0]) eK rfl|1],br (tF T.ale amV nofun rfl T.alf T.akH .nil aN %[jP Am rfl T.rX uP %[aI bM (aa 0) ao %[|2]|0],aI bM (aa 0) ao %[|2],aI bM (aa 0) ao %[|2],jP Am rfl T.rX uP %[aI bM (aa 0) ao %[|2]|0],aa 3,jP (afZ rfl) rfl T.rX uP %[aa 4|0]|0])|1],?_⟩
  symm;refine⟨c,16,rfl,⋯,⋯,λxa xs H1 s1 n1 hx X=>?_⟩
  have X:rF xs 16:=X;have xl:=X.n;have g:∀k:Int,0<=k->k<16->fL (xs.map V.int) k=some (.int (xs.getD k.toNat 0)):=λk h0 h1=>g6 h0 ∅
  have iS:=hS.same s1;have T1:=T0.same s1;have zl:=ok.zl;have cl:=tK z λp hp=>(zl.ok.r p hp).1;have JX:=zl.sm;have c2:=zl.ok.s2;have cm:∀c∈counts z,1<=c/\c<=60:=λc hc=>by
   obtain⟨y,hy,rfl⟩:=q8 hc;have:=zl.ok.r y hy;lia
  have k1:=aK.of (K:=K) iS.o;symm;refine⟨_,aA.of hx,_,g 0 ⋯ ⋯,_,rfl,cK (λh0=>?_) λh0=>?_⟩
  ·refine⟨_,k1,_,rfl,za,rfl,_,.inl iS.zn.sq,λzc BX=>?_⟩;have z2:=aj.put (o:=.lst (bw.map V.ref)) BX;refine⟨_,z2.gS k1,_,rfl,_,z2.gS k1,_,rfl,_,z2.gS k1,_,rfl,sa,rfl,_,.inl (aA.of (z2 _ _ iS.s)),λsc RP p dx np je nd=>?_⟩;clear z2;have z2:=aj.put (o:=.lst (bw.map V.ref)) BX;have z3:=aj.put (o:=.lst (sw.map V.int)) RP;have wD:=z2.trans z3;have RQ:Zn (upd (upd H1 zc (.lst (bw.map V.ref))) sc (.lst (sw.map V.int))) zc bw z:=⟨z3 _ _ aE,iS.zn.n,(iS.zn.same wD).t⟩;have jC:upd (upd H1 zc (.lst (bw.map V.ref))) sc (.lst (sw.map V.int)) sc=some (.lst (sw.map V.int)):=aE;generalize upd (upd H1 zc (.lst (bw.map V.ref))) sc (.lst (sw.map V.int))=H3 at *
   have BY:=aj.put (o:=.own p) je;have iH:upd H3 dx (.own p) p=none:=by rw[aJ (fW nd)];exact np
   have jD:=BY.trans (aj.put (o:=.ins A.bK dx []) iH);refine⟨A.bK,p,dx,zc,sc,bw,z,ak,sk,sw,rfl,T.alw,aE,RQ.same jD,zl.ok,ok.l1,ok.l2,ok.k0,ok.k1,ok.l3,aA.of (jD _ _ jC),ok.so,λH5 uz b1 b2 b3 b4 tss sb nf hp5 hA=>⟨rfl,?_⟩⟩;exact q A.bK p _ _ H5 (λb o e _=>sb _ _ (jD _ _ (wD _ _ (s1 _ _ e))) (bT (wD _ _ (s1 _ _ e)) np)) (by simp) ⟨uz,b1,b2,b3,b4,tss,_,rfl,hA⟩ (agn ∅ ∅ λc hc=>⟨by have:=cm c hc;lia,(cm c hc).2⟩)
  ·refine⟨_,aA.of hx,_,g 1 ⋯ ⋯,_,k1,_,rfl,ca,rfl,_,aA.of iS.c,∅,λM hM aaO=>⟨_,rfl,?_⟩⟩
   have hM1:=cm M hM;have p0:=fR (xs.getD (Int.toNat 1) 0) (show M≠0 by lia)
   have p1:∀c∈counts z,xs.getD (Int.toNat 1) 0 % M<c:=λc hc=>Int.lt_of_lt_of_le (fQ _ ∅) (aaO c hc)
   refine⟨∅,λd nd=>?_⟩
   generalize xs.getD (Int.toNat 1) 0 % M=sp at p0 p1 ⊢;have pM:=p1 M hM;have gD:∀i:Nat,i<(counts z).length->(counts z).getD i 0∈counts z:=λi hi=>by
    rw[show (counts z).getD i 0=(counts z)[i] by simp[hi]];exact dU hi
   have y2:=X.md (Int.toNat 2) (k:=7) ⋯
   have q0:0<=sp*((counts z).length:Int):=Cu p0 ∅
   have q1:sp*((counts z).length:Int)<=60*15:=qA ∅ ∅ ∅ ⋯
   obtain⟨M',eM,M6,Ms⟩:∃M':Nat,(if sp*((counts z).length:Int)<xs.getD (Int.toNat 2) 0 % 7 then sp*((counts z).length:Int) else xs.getD (Int.toNat 2) 0 % 7)=(M':Int)/\M'<=6/\(M':Int)<=sp*((counts z).length:Int) :=
    ⟨(if sp*((counts z).length:Int)<xs.getD (Int.toNat 2) 0 % 7 then sp*((counts z).length:Int) else xs.getD (Int.toNat 2) 0 % 7).toNat,by split <;> lia,by split <;> lia,by split <;> lia⟩
   have sd:=aj.put (o:=.dT []) nd;refine DW M' (λi σ H'=>∃x y bz,σ = [some (.ref t),some (.int c),some (.ref xa),some (.int sp),some (.ref d),x,y]/\aj H1 H'/\H' d=some (.dT (dD bz))/\bz.Nodup/\(∀q∈bz,0<=q.1/\q.1<(counts z).length/\0<=q.2/\q.2<(counts z).getD q.1.toNat 0)/\bz.length<=i) (λQ q=>?_) ∅ ⟨none,none,[],rfl,sd,aE,CH,(λ_ h=>nomatch h),bx _⟩ ?_ ?_
   ·have gv:=sd _ _ hx;symm;refine⟨_,aA.of gv,_,g 2 ⋯ ⋯,_,rfl,_,sd.gS k1,_,rfl,ca,rfl,_,.inl (aA.of (sd _ _ iS.c)),.inl ⟨∅,∅⟩,?_⟩
    rw[aM,eM];exact q
   ·rintro i σ H' N hN hi ⟨x,y,bz,rfl,hs,hd,nb,Gx,bl⟩;have gv:=hs _ _ hx;have r0:=fR (xs.getD (3+(i:Int)).toNat 0) (show ((counts z).length:Int)≠0 by lia)
    have r1:=fQ (xs.getD (3+(i:Int)).toNat 0) (show 0<((counts z).length:Int) by lia)
    symm;refine⟨_,aA.of gv,_,g _ ∅ ∅,_,hs.gS k1,_,rfl,ca,rfl,_,.inl (aA.of (hs _ _ iS.c)),?_⟩
    rw[aM]
    try symm
    generalize xs.getD (3+(i:Int)).toNat 0 % ((counts z).length:Int)=r at r0 r1 ⊢;have hcr:=cm _ (gD r.toNat ∅)
    have c0:=fR (xs.getD (9+(i:Int)).toNat 0) (show (counts z).getD r.toNat 0≠0 by lia)
    have c1:=fQ (xs.getD (9+(i:Int)).toNat 0) (show 0<(counts z).getD r.toNat 0 by lia)
    refine⟨∅,_,aA.of gv,_,g _ ∅ ∅,_,hs.gS k1,_,rfl,ca,rfl,_,aA.of (hs _ _ iS.c),_,g6 r0 r1,_,rfl,_,rfl,∅,λp np=>?_⟩
    generalize xs.getD (9+(i:Int)).toNat 0 % (counts z).getD r.toNat 0=c' at c0 c1 ⊢;have yU:=aj.put (o:=.tup [V.int r,V.int c']) np;refine⟨_,mS.t (k:=kT (r,c')) (yU _ _ hd) aE (by rw[tL,dD,aM];lia),hN _ _ ?_⟩
    by_cases hm:(r,c')∈bz
    ·rw[af_ _ hm];exact⟨_,_,bz,rfl,aj.put2 (hs.trans yU) nd,aE,nb,Gx,∅⟩
    ·rw[WK _ hm];refine⟨_,_,bz++[(r,c')],rfl,aj.put2 (hs.trans yU) nd,aE,?_,?_,by simp;lia⟩
     ·rw[CG];exact⟨nb,by simp,λx hx y hy e=>hm (by rw[List.mem_singleton.mp hy] at e;rw[← e];exact hx)⟩
     ·intro x hx;rcases fB.mp hx with h | h
      ·exact Gx x h
      ·rw[fV.mp h];exact⟨r0,r1,c0,c1⟩
   ·rintro σ H' ⟨x,y,bz,rfl,hs,hd,nb,Gx,bl⟩;symm;have k2:=hs.gS k1;have jB:=iS.same hs;refine⟨_,k2,_,rfl,za,rfl,_,.inl jB.zn.sq,λzc BX=>?_⟩;have z2:=aj.put (o:=.lst (bw.map V.ref)) BX;refine⟨_,z2.gS k2,_,rfl,_,z2.gS k2,_,rfl,_,z2.gS k2,_,rfl,sa,rfl,_,.inl (aA.of (z2 _ _ jB.s)),λsc RP=>?_⟩;clear z2;have z2:=aj.put (o:=.lst (bw.map V.ref)) BX;have z3:=aj.put (o:=.lst (sw.map V.int)) RP;have wD:=z2.trans z3;have RQ:Zn (upd (upd H' zc (.lst (bw.map V.ref))) sc (.lst (sw.map V.int))) zc bw z:=⟨z3 _ _ aE,jB.zn.n,(jB.zn.same wD).t⟩;have jC:upd (upd H' zc (.lst (bw.map V.ref))) sc (.lst (sw.map V.int)) sc=some (.lst (sw.map V.int)):=aE;generalize upd (upd H' zc (.lst (bw.map V.ref))) sc (.lst (sw.map V.int))=H3 at *
    refine⟨_,wD _ _ hd,λbl' lz nbl ka p dx np je ndp=>?_⟩;have Gg:=ka.zn nbl;have wF:=aj.put (o:=.lst (lz.map V.ref)) nbl;generalize upd H3 bl' (.lst (lz.map V.ref))=H4 at Gg wF np je ⊢;have BY:=aj.put (o:=.own p) je;have iH:upd H4 dx (.own p) p=none:=by rw[aJ (fW ndp)];exact np
    have jD:=BY.trans (aj.put (o:=.ins A.bG dx []) iH);have s46:=wF.trans jD;have RS:=(s1.trans hs).trans (wD.trans wF);have ben:bz.length<=sp.toNat*(counts z).length:=by
     have:((sp.toNat*(counts z).length:Nat):Int)=sp*((counts z).length:Int):=by rw[Int.natCast_mul,Hl p0]
     lia
    try symm
    refine⟨p,dx,zc,sc,bl',bw,lz,z,bz,ak,sk,sp,sw,rfl,T.alx,T.QH,aE,RQ.same s46,zl.ok,ok.l1,ok.l2,ok.k0,ok.k1,ok.l3,aA.of (s46 _ _ jC),ok.so,Gg.same jD,∅,nb,Gx,∅,p0,p1,
     (T0.same RS).same jD,λos r is=>af9 p0 ben os r is,λH6 fp mv ts us os ms keep aa2 nf amW hM hmv=>⟨rfl,?_⟩⟩
    exact q A.bG p _ _ H6 (λb o e nP=>keep b o (jD _ _ (RS _ _ e)) (bT (RS _ _ e) np) nP) (by simp) hM.aeS (W4 ∅ ∅ (λc hc=>⟨p1 c hc,(cm c hc).2⟩) p0 amW)
theorem amX:bq P w K mg base bF 7 A.PJ A.PL [%[|17], %[|45]] (aiv K [A.bK,A.bG] A.bX A.cG A.bf (rD iT) (rE %[|16])):=by
 have RT:= ~~~aaZ;have nO:= ~~~QV;have amY:= ~~~al3;have amZ:= ~~~amU;have am0:= ~~~amI;have RU:= ~~~aa4;exists T.Z_.ok we
 ·obtain⟨sc,ns,most,rfl,_⟩:=h
  rfl
 ·obtain⟨sc,ns,most,rfl,jC,pC,m1,m7,T0,q⟩:=h;refine⟨_,%[a_ (i:=2) we.nd rfl OL_ (bu amY nofun rfl T.akL T.ZT.kp T.akK .nil aN %[bu nO nofun rfl T.qu T.o7.kp T.qt .nil aN %[aa 0,ao|0],bu nO nofun rfl T.qu T.o7.kp T.qt .nil aN %[aa 0,ao|0]|0]),a_ (i:=3) we.nd rfl (Or.inr rfl) (bu amZ nofun rfl T.akN T.ZU.kp T.akM .nil aN %[aa 2,bu nO nofun rfl T.qu T.o7.kp T.qt .nil aN %[aa 0,ao|0]|0]),a_ (i:=4) we.nd rfl OL_ (aF dz (bu nO nofun rfl T.qu T.o7.kp T.qt .nil aN %[aa 0,ao|0]) (cB DM rfl T.dN dZ %[aI bM (aa 2) ao %[|2]|0])),a_ (i:=5) we.nd rfl OL_ (aF dz (bu nO nofun rfl T.qu T.o7.kp T.qt .nil aN %[aa 0,ao|0]) (aI pY (fj %[aF qL ao ao,aF qL ao ao|0]) (aF dz (aF xA (bu nO nofun rfl T.qu T.o7.kp T.qt .nil aN %[aa 0,ao|0]) ao) ao) %[|2])),a_ (i:=6) we.nd rfl OL_ (bu am0 nofun rfl T.akV T.ZY.kp T.akU .nil aN %[aa 0,aa 3,aa 2,dB %[aa 4,aa 5|0],aa 1|0]),tV (i:=7) we.nd rfl OL_ (N:=[%[|18], %[|14], %[|17]]) (nt:=1) (fv:=[3,0]) ‹cM.of› rfl (cS (aa 6)) (λC s H fp=>(bA (i:=0) (show List.Nodup ([%[|18], %[|14], %[|17]]:List Str) by decide +kernel) rfl OL_)) (λC s H fp=>jR) (λC s H fp=>(tF T.aar RT nofun rfl T.aas T.Y7 .nil aN %[aa 1,aI (j_ (K:=K) rfl) (aa 0) ao %[|2],bu RU nofun rfl T.Z0 T.Qj.kp T.ZZ .nil aN %[aa 0,aF fh (bu nO nofun rfl T.qu T.o7.kp T.qt .nil aN %[aa 2,ao|0]) (aI (j_ (K:=K) rfl) (aa 0) ao %[|2])|0]|0])),br (dB %[aa 2,aa 3,aa 4,aa 5,aa 6,aa 7|0])|1],?_⟩
  wp_walk using jv;refine⟨ns,jC,pC,ns,jC,pC,_,_,rfl,λt z ak sk sw za bw ca sa H1 s1 nt hS ok=>?_⟩;have BP:=s1.seq jC;have T1:=T0.same s1
  try wp_walk using jv
  refine⟨ns,BP,pC,t,z,ak,sk,sw,za,bw,ca,sa,_,rfl,hS,ok,T1,λC p nc fp H2 keep hC hP nk=>?_⟩;have jB:=hS.but T1 keep;have yV:=BP.but T1 keep;clear keep T1 BP hS s1 nt T0;have cl:=tK z λp hp=>(ok.zl.ok.r p hp).1;have JX:=ok.zl.sm;have c2:=ok.zl.ok.s2;have k1:=aK.of (K:=K) jB.o
  try wp_walk using jv
  refine⟨ns,yV,pC,_,k1,_,rfl,ca,rfl,_,.inl (aA.of jB.c),by rw[aM];lia,ns,yV,pC,⋯,⋯,λo1 RC=>?_⟩
  rw[aM];have s3:=aj.put (o:=.lst [V.int 10000,V.int 1000000000000]) RC;have ho1:upd H2 o1 (.lst [V.int 10000,V.int 1000000000000]) o1=some (.lst [V.int 10000,V.int 1000000000000]):=aE;generalize upd H2 o1 (.lst [V.int 10000,V.int 1000000000000])=H3 at s3 ho1 ⊢;have r0:=fR (fY ns 3) (show ((counts z).length:Int)≠0 by lia)
  have r1:=fQ (fY ns 3) (show 0<((counts z).length:Int) by lia)
  obtain⟨D,hD,D0,D1⟩:∃D:Int,fL [V.int 10000,V.int 1000000000000] (fY ns 3 / 16 % 2)=↥D/\1<=D/\D<=1000000000000:=by
   have h0:=fR (fY ns 3 / 16) (show (2:Int)≠0 by decide)
   have h1:=fQ (fY ns 3 / 16) (show (0:Int)<2 by decide)
   have:fY ns 3 / 16 % 2=0\/fY ns 3 / 16 % 2=1:=by lia
   rcases this with e | e <;> rw[e]
   ·exact⟨_,rfl,⋯,⋯⟩
   ·exact⟨_,rfl,⋯,⋯⟩
  refine⟨ns,s3.seq yV,pC,_,aA.of ho1,_,hD,_,rfl,∅,λsp nsp=>?_⟩
  have b0:=fR (fY ns 4) (show D≠0 by lia)
  have b1:=fQ (fY ns 4) (show 0<D by lia)
  generalize fY ns 3 % ((counts z).length:Int)=r at r0 r1 ⊢;generalize fY ns 4 % D=b at b0 b1 ⊢;have s4:=s3.trans (aj.put (o:=.tup [V.int r,V.int b]) nsp);have eB:upd H3 sp (.tup [V.int r,V.int b]) sp=some (.tup [V.int r,V.int b]):=aE;generalize upd H3 sp (.tup [V.int r,V.int b])=H4 at s4 eB ⊢;refine⟨C,sc,p,t,sp,z,ak,sk,sw,za,bw,ca,sa,nc,fp,r,b,most,ns,rfl,s4.seq yV,pC,hC,hP.same s4,nk,jB.same s4,ok,eB,r0,r1,b0,∅,m1,m7,λkl bH ks H5 s5 nkl hk wG=>?_⟩
  have Gy:=s4.trans s5;have hP5:=hP.same Gy;have am1:=Gy.seq yV;have dg:=hk.n;have n10:=wG.n7;have nn1:=nk.n1;refine iF kl (bH.map V.ref) (λD2 i ys aB H6=>∃(v:Option V) (ps:_A) (ds:List Dr),ys=ps.map V.ref/\aB = [v,⇑p,⇑sc]/\aj H5 H6/\H5 D2=none/\rH K A.bX A.cG H6 D2 ps ds/\ds.length=i/\i<=ks.length/\∀(j:Nat) (k:Kn) (d:Dr),j<i->ks[j]? = some k->ds[j]? = some d->yh nc k d) (λQ q=>q) hk.sq ?_ ?_ ?_ ?_
  ·intro D2 kg;exact⟨none,[],[],rfl,rfl,aj.put kg,kg,⟨aE,rfl,λi t k e=>by simp at e⟩,rfl,eW _,λj k d h=>absurd h ∅⟩
  ·rintro D2 i ys aB H6 ⟨v,ps,ds,rfl,rfl,s6,nD,hd,dn,di,dk⟩;exact⟨hd.hl,gi (by rw[aM,hd.n];lia),(hk.same s6).sq⟩
  ·rintro D2 i x ys aB H6 N hN hx ⟨v,ps,ds,rfl,rfl,s6,nD,hd,dn,di,dk⟩;obtain⟨u,hu,rfl⟩:=c9 hx;have hi:i<ks.length:=by rw[← dg];exact cJ hu
   obtain⟨b',mj,aX,hK⟩:=(hk.same s6).t i u ks[i] hu (aV hi);have jE:=wG.ok ks[i] (dU hi);have ku:=aK.of (K:=K) hK.o;wp_walk using jv;refine⟨_,ku,_,rfl,ns,s6.seq am1,pC,_,ku,_,rfl,?_⟩
   try wp_walk using jv
   refine⟨u,ks[i],b',mj,aX,_,nc,rfl,hK,jE,∅,λaq ap mk bb RV H7 jj s7 Gm ha=>?_⟩
   try wp_walk using jv
   intro x dx nx je gm;have s67:=s6.trans s7;have yK:=hP5.same s67;have BY:=aj.put (o:=.own x) je;have iH:upd H7 dx (.own x) x=none:=by rw[aJ (fW gm)];exact nx
   have jD:=BY.trans (aj.put (o:=.ins A.cG dx []) iH);obtain⟨op,yW⟩:=yK.here;have xp:x≠p:=(bT yW nx).symm;have xf:x∉fp:=λhb=>by
    obtain⟨ob,A2⟩:=yK.has hb;exact bT A2 nx rfl
   have o1:=jE.m0;have o2:=jE.m1;refine⟨C,x,p,ap,dx,ks[i].n,bJ z ak sk sw nc,fp,aq,mk,bb,RV,rfl,aE,hC,yK.same jD,xp,xf,ha.same jD,⟨by rw[jj.1];exact jE.f0,by rw[jj.2.1];lia,by rw[jj.2.1];lia,by rw[jj.1,jj.2.1];exact jE.fit⟩,by show nc.length<=1000000;lia,λl ts H8 nl sb Gz=>⟨rfl,?_⟩⟩
   have RW:aj H6 H8:=λb o e=>sb _ _ (jD _ _ (s7 _ _ e)) (bT (s7 _ _ e) nx);have lD:l≠D2:=(bT (jD _ _ (s7 _ _ hd.hl)) nl).symm;refine⟨RW _ _ hd.hl,hN _ _ _ ⟨_,ps++[x],ds++[_],by rw[cj];rfl,rfl,aj.put2 (s6.trans RW) nD,nD,(hd.same RW).snoc Gz lD,by simp[dn],∅,λj k d hj e1 e2=>?_⟩⟩
   by_cases lE:j<i
   ·rw[eU ∅] at e2
    exact dk j k d lE e1 e2
   ·have:j=i:=by lia
    subst this;rw[aV hi] at e1;rw[eV ∅,dn,CT] at e2
    cases e1;cases e2;exact⟨rfl,jj,by show fF nc aq.first aq.many=_;rw[jj.1,jj.2.1]⟩
  ·rintro D2 ys aB H6 ⟨v,ps,ds,rfl,rfl,s6,nD,hd,dn,di,dk⟩;rw[aM,dg] at dn;intro tt ntt;have s7:=aj.put (o:=.tup [V.ref t,V.ref p,V.int r,V.int b,V.ref kl,V.ref D2]) ntt;have kW:=(Gy.trans s6).trans s7;refine q tt t p r b kl D2 z ak sk sw nc ks ds H2 _ aE yV ⟨⟨za,bw,ca,sa,jB.same kW⟩,ok,⟨C,fp,hC,hP.same kW⟩,nk,r0,r1,b0,∅,⟨bH,(hk.same s6).same s7⟩,wG,⟨ps,hd.Ey.same s7⟩,dn,λj k d e1 e2=>dk j k d ?_ e1 e2⟩ ⟨⟨C,fp,hC,hP⟩,⟨za,bw,ca,sa,jB⟩,s4.free nkl,Gy.free nD⟩ kW
   rw[aM,dg];exact cJ e1
theorem am2:∀n,bq P w K mg base bF (n+3) A.Fx A.Fy [%[|10], %[|23], %[|92], %[|95]] (Lr K n):=by
 have Rm:= ~~~aaT;have Rn:= ~~~aaR;intro n
 induction n with
 | zero=>exact⟨λ_ _ _ _ h=>(Yw h).elim,λ_ _ _ _ _ _ _ _ _ _ _ _ _ h=>(Yw h).elim⟩
 | succ n ih =>
  exists T.Qp.ok M5
  ·obtain⟨kl,pb,ea,ma,bH,ks,bg,zs,ys,H0,m,rfl,_⟩:=h
   rfl
  ·obtain⟨kl,pb,ea,ma,bH,ks,bg,zs,ys,H0,m,rfl,hm,s0,n0,hk,k7,up,hb,bn,he,zn,hz,em,wH,yn,cv,q⟩:=h;have kh:_+16<cLine:=qE (sN (by decide:16<=64) _) hr.units
   have dg:=hk.n;refine⟨_,%[cF (cC (agc kh) (aa 1) (aa 2) rfl) %[e_ (lY lP nX nY mQ (aa 3) %[aa 1|0]),br eK|1] bW,a_ (i:=4) M5.nd rfl OL_ (bu Rn nofun rfl T.Z7 T.Qm.kp T.Z6 .nil aN %[aa 0,aa 1|0]),c8 c7 rfl (cS (bu Rm nofun rfl T.Z3 T.Qk.kp T.Z2 .nil aN %[aa 4|0])) (bA (i:=5) M5.nd rfl OL_)
   (aL (cF (iB (gh (bu ih nofun rfl T.aac T.Qp.kp T.aab .nil aN %[aa 0,aF K9 (aa 1) (dB %[aa 5|0]),aa 2,aa 3|0]))) (aL (br eK)) bW)),br (iE (ahN kh) (aa 4) (fj au) (bB _))|1],?_⟩
   walk_at "rdt";refine⟨bg,hb,zs,aA.of he,hz,cK (λh0=>?_) λh0=>?_⟩
   ·have e1:=ahR (ks:=ks) m h0;exact⟨⟨ys,aA.of wH⟩,ys,wH,∅,q _ (ys++[.ref pb]) (λb o nb e=>by rw[aJ nb];exact e) aE (by rw[e1,e7];rfl)⟩
   ·cases m with
    | zero=>exact absurd cv h0
    | succ m =>
    rcases cv with z | ⟨cw,cf⟩
    ·exact absurd z h0
    have hkH:=hk.same s0;have wl:(gu ks bg).length<=ks.length:=gW _ _;refine⟨kl,pb,bH,ks,bg,rfl,hkH,∅,hb,λW tsW H1 s1 nW hW=>?_⟩
    refine tM ?_;walk_at "rdt";refine⟨W,tsW,gu ks bg,rfl,hW,∅,λD H2 s2 nD hD=>⟨D,rfl,?_⟩⟩
    have yX:=s1.trans s2;have nDm:D≠ma:=(bT (s1 _ _ wH) nD).symm;have nWm:W≠ma:=(bT wH nW).symm;have em':nA ks (zs.map (·.2)) (m+1) bg=((kN (gu ks bg)).map λx=>nA ks (zs.map (·.2)) m (bg++[x])).sum:=if_neg h0;rw[em'] at yn q;refine oH.by D ((kN (gu ks bg)).map V.int) (λi σ H'=>∃(x:Option V) (iR:_V),σ = [⇑kl,⇑pb,⇑ea,⇑ma,⇑W,x]/\nB ma H2 H'/\H' ma=some (.lst iR)/\iR.length=ys.length+(((kN (gu ks bg)).take i).map λx=>nA ks (zs.map (·.2)) m (bg++[x])).sum) (aA.of hD) ⟨none,ys,rfl,λ_ _ _ e=>e,yX _ _ wH,by simp⟩ (by rintro i σ H' _ ⟨x,iR,rfl,g1,_⟩;exact aA.of (g1 _ _ nDm hD)) ?_ ?_
    ·rintro i' x σ H' N hN hx ⟨x0,iR,rfl,g1,g2,g3⟩;obtain⟨mm,hmm,rfl⟩:=c9 hx;walk_at "rdt";have nbm:pb≠ma:=λz=>by rw[z,wH] at hb;cases hb
     have kH:=g1 _ _ nbm (yX _ _ hb);intro pm BZ;have k1:=aj.put (o:=.tup [V.int mm]) BZ;refine⟨bg.map V.int,aK.of (k1 _ _ kH),by simp,by rw[List.length_map];lia,λp2 H3 s3 h3=>?_⟩
     have k2:=k1.trans s3;have tk:=take_succ_get hmm;have mem:mm∈kN (gu ks bg):=gz hmm;have sl:=ahQ (λx=>nA ks (zs.map (·.2)) m (bg++[x])) (kN (gu ks bg)) (i' + 1);rw[tk,cj,CL,List.map_singleton,List.sum_singleton] at sl;refine⟨kl,p2,ea,ma,bH,ks,bg++[mm],zs,iR,H0,m,rfl,∅,λb o e=>k2 _ _ (g1 _ _ (λz=>by rw[z,n0] at e;cases e) (yX _ _ (s0 _ _ e))),n0,hk,k7,up,by rw[h3,cj];rfl,by rw[e7];show bg.length+1+m<=7;lia,k2 _ _ (g1 _ _ em (yX _ _ he)),zn,λz lM=>k2 _ _ (g1 _ _ (λe=>by have:=hz z lM;rw[e,wH] at this;cases this) (yX _ _ (hz z lM))),em,k2 _ _ g2,∅,cf mm mem,λH4 ys2 x4 h4 e4=>⟨true,rfl,ite_no (by simp) (hN _ _ ⟨_,ys2,rfl,λb o nb e=>x4 b o nb (k2 _ _ (g1 _ _ nb e)),h4,?_⟩)⟩⟩
     rw[e4,g3,tk,cj,CL,List.map_singleton,List.sum_singleton];lia
    ·rintro σ H' ⟨x0,iR,rfl,g1,g2,g3⟩;rw[aM,cZ] at g3;walk_at "rdt";intro p np;refine⟨tsW.map V.ref,aA.of (aj.put np _ _ (g1 _ _ nWm (s2 _ _ hW.l))),aA.of aE,λz=>cw ?_,q _ iR (λb o nb e=>aj.put np _ _ (g1 _ _ nb (yX _ _ e))) (aj.put np _ _ g2) g3⟩;have:=hW.n;rw[List.map_eq_nil_iff.mp z] at this;exact uH.mp this.symm
theorem am3:bq P w K mg base bF 11 A.Fx A.Fy [%[|10], %[|23], %[|92], %[|95]] (Lr K 8):=(am2 T aG 8).mono ⋯
theorem am4:bq P w K mg base bF 12 A.PY A.PZ [%[|11], %[|20], %[|21], %[|71], %[|31]] (air K):=by
 have am5:= ~~~amr;have am6:= ~~~amt;have am7:= ~~~am3;have am8:= ~~~amu;exists T.aaf.ok yC
 ·obtain⟨t,kl,lv,z,ak,sk,sw,r,b,ks,cu,us,rfl,_⟩:=h
  rfl
 ·obtain⟨t,kl,lv,z,ak,sk,sw,r,b,ks,cu,us,rfl,L,hl,u5,und,cv,cm,pD,q⟩:=h;obtain⟨bH,hk⟩:=L.kn;obtain⟨za,bw,ca,sa,hS⟩:=L.sp;have kh:_+16<cLine:=qE (sN (by decide:16<=64) _) hr.units
  have dg:=hk.n;have n7:=L.n7;refine⟨_,%[bY (cF (iB (gh (bu am6 nofun rfl T.ak5 T.aaa.kp T.ak4 .nil aN %[aa 4|0]))) (aL (br eK)) bW),bY (a_ (i:=5) yC.nd rfl OL_ (fj au)),bY (cF (PW.pt (gB (iB (gh (bu am7 nofun rfl T.aac T.Qp.kp T.aab .nil aN %[aa 3,dB au,gq (N:=[%[|91]]) (nt:=1) (fv:=[]) ‹cM.of› rfl (cS (aa 4)) (λC s H fp=>(bA (i:=0) (show List.Nodup ([%[|91]]:List Str) by decide +kernel) rfl OL_)) (λC s H fp=>jR) (λC s H fp=>(aI (j_ (K:=K) rfl) (aa 0) ao %[|2])),aa 5|0]))) (iL (eF vY (cB eZ rfl T.dN dZ %[aa 5|0]) (cB eZ rfl T.dN dZ %[aa 4|0]) (bB _))))) (aL (br eK)) bW),c8 c7 rfl (cS (aa 4)) (kr rfl (dX (bA (i:=6) yC.nd rfl (Or.inr rfl)) (dX (bA (i:=7) yC.nd rfl (Or.inr rfl)) kq)))
   %[bY (tV (i:=8) yC.nd rfl OL_ (N:=[%[|18], "_law_late", %[|23]]) (nt:=1) (fv:=[7,6]) ‹cM.of› rfl (cS (aa 3)) (λC s H fp=>(bA (i:=0) (show List.Nodup ([%[|18], "_law_late", %[|23]]:List Str) by decide +kernel) rfl OL_)) (λC s H fp=>(jS (PW.pt (uY (cC i_ (aI (j_ (K:=K) rfl) (aa 0) ao %[|2]) (aa 1) (bB _)) (uY (cC (J6 (K:=K) rfl) (aa 1) (aa 2) rfl) (xu (cC qM (aI (j_ (K:=K) rfl) (aa 0) ao %[|2]) i6 (bB _)))))))) (λC s H fp=>(aa 0))),bY (a_ (i:=9) yC.nd rfl OL_ (bu am5 nofun rfl T.akZ T.Z8.kp T.akY .nil aN %[aa 0,aa 1,aa 2,aa 3,aa 6|0])),cF (PW.pt (gB (cC (D8 kh) (aa 8) (fj au) (bB _)) (iL (cC UW (bu am8 nofun rfl T.ak7 T.aad.kp T.ak6 .nil aN %[aa 0,aa 9,aI b_ (aa 8) ao %[|2]|0]) (aI qT (aI b_ (aa 8) ao %[|2]) ao %[|2]) (bB _))))) (aL (br eK)) bW|1],br eK|1],?_⟩
  refine b7 λN1 k1=>?_;walk_at "rdt";refine⟨lv,cu,us,rfl,hl,u5,und,λH1 s1=>⟨true,rfl,ite_no (by simp) (k1 _ _ ?_)⟩⟩
  clear k1 N1;refine b7 λN2 k2=>?_;walk_at "rdt";intro ma RX;refine k2 _ _ ?_;clear k2 N2;refine b7 λN3 k3=>?_;walk_at "rdt";intro p2 kU;have t2:=(aj.put (o:=.lst []) RX).trans (aj.put (o:=.tup []) kU);have RY:upd (upd H1 ma (.lst [])) p2 (.tup []) ma=some (.lst []):=aj.put kU _ _ aE;have gP:upd (upd H1 ma (.lst [])) p2 (.tup []) p2=some (.tup []):=aE;generalize upd (upd H1 ma (.lst [])) p2 (.tup [])=H2 at t2 RY gP ⊢;have A1:=hl.same s1;have pZ:=A1.same t2;refine iF lv (cu.map V.ref) (λD i ys aB H3=>∃(v:Option V) (zs:Us),ys=uV zs/\aB = [v]/\H3 D=some (.lst ys)/\aj H2 H3/\H2 D=none/\oU H3 zs/\zs.map (·.2)=(us.take i).map (·.2.2.1)) (λQ q=>q) (aA.of pZ.l) ?_ ?_ ?_ ?_
  ·intro D hD;exact⟨none,[],rfl,rfl,aE,aj.put hD,hD,(λ_ h=>nomatch h),rfl⟩
  ·rintro D i ys aB H3 ⟨v,zs,rfl,rfl,e1,e2,e3,e4,e5⟩;refine⟨e1,Xs ?_,aA.of (e2 _ _ pZ.l)⟩;have:=fX List.length e5;rw[aM,aM,dw] at this;rw[WN];lia
  ·rintro D i x ys aB H3 N hN hx ⟨v,zs,rfl,rfl,e1,e2,e3,e4,e5⟩;obtain⟨u,hu,rfl⟩:=c9 hx;have hi:i<us.length:=by rw[← hl.n];exact cJ hu
   obtain⟨p,h1,h2⟩:=pZ.t i u us[i] hu (aV hi);walk_at "rdt";refine⟨_,aK.of (e2 _ _ h1),_,rfl,e1,hN _ _ _ ⟨_,zs++[(p,(us[i]).2.2.1)],by simp[uV],rfl,aE,aj.put2 e2 e3,e3,λz hz=>?_,?_⟩⟩
   ·have lJ:H3 z.1=some (.tup (z.2.map V.int)):=by
     rcases fB.mp hz with h | h
     ·exact e4 z h
     ·rw[fV.mp h];exact e2 _ _ h2
    rw[aJ (λe=>by rw[e,e1] at lJ;cases lJ)]
    exact lJ
   ·rw[cj,e5,take_succ_get (aV hi),cj];rfl
  ·rintro D ys aB H3 ⟨v,zs,rfl,rfl,f1,f2,f3,f4,f5⟩;rw[aM,hl.n,cZ] at f5;have en:zs.length=us.length:=by
    have:=fX List.length f5;rwa [aM,aM] at this
   have hn:=hl.n;have t3:=t2.trans f2;refine⟨kl,p2,D,ma,bH,ks,[],zs,[],H1,ks.length,rfl,∅,t3,RX,hk.same s1,n7,L.up,f2 _ _ gP,↑n7,f1,∅,f4,(bT RY f3).symm,f2 _ _ RY,by rw[f5,cm];show 0+_<=_;lia,by rw[f5];exact cv,λH4 iR x4 h4 e4=>⟨true,rfl,ite_no (by simp) ?_⟩⟩
   rw[f5,cm] at e4;have t4:aj H1 H4:=λb o e=>x4 b o (bT e RX) (t3 _ _ e);have GA:=A1.same t4;refine⟨_,.inl (aA.of h4),_,.inl (aA.of GA.l),ite_no (by rw[e4,aM,hn];simp) (k3 _ _ ?_)⟩
   clear k3 N3;have s4:=s1.trans t4;walk_at "rdt";refine rl lv (cu.map V.ref) (λi σ H'=>∃x y w v,σ = [some (V.ref t),some (V.int r),some (V.int b),some (V.ref kl),some (V.ref lv),some (V.ref ma),x,y,w,v]/\aj H4 H') (λQ q=>q) (aA.of GA.l) ⟨none,none,none,none,rfl,aj.refl _⟩ (by rintro i σ H' _ ⟨_,_,_,_,rfl,s'⟩;exact aA.of (s' _ _ GA.l)) ?_ ?_
   ·rintro i x σ H' N hN hx ⟨x0,y0,w0,v0,rfl,s'⟩;obtain⟨u1,yO,rfl⟩:=c9 hx;have hi:i<us.length:=by rw[← hn];exact cJ yO
    obtain⟨p1,h1,h2⟩:=GA.t i u1 us[i] yO (aV hi);obtain⟨k,yT,kn,knb,lt,cg,am9⟩:=pD us[i] (dU hi);generalize us[i] = u at *
    rw[← kn] at h1 knb;have sA:=s4.trans s';walk_at "rdt";refine⟨_,aK.of (s' _ _ h1),rfl,_,_,rfl,_,_,rfl,rfl,?_⟩;refine b7 λN5 k5=>?_;walk_at "rdt";have RZ:=hk.same sA;refine iF kl (bH.map V.ref) (λD j ys aB H5=>∃(u:Option V) (cE:_A),ys=cE.map V.ref/\aB = [u,↥k.n,⇑p1]/\H5 D=some (.lst ys)/\aj H' H5/\H' D=none/\jh H' cE ((ks.take j).filter λx=>decide (x.n=k.n))) (λQ q=>q) RZ.sq ?_ ?_ ?_ ?_
    ·intro D hD;exact⟨none,[],rfl,rfl,aE,aj.put hD,hD,jh.nil⟩
    ·rintro D j ys aB H5 ⟨v,cE,rfl,rfl,e1,e2,e3,e4⟩;refine⟨e1,gi ?_,(RZ.same e2).sq⟩;have:=gW (λx:Kn=>decide (x.n=k.n)) (ks.take j);rw[dw] at this;have e5:=e4.n;rw[aM];lia
    ·rintro D j x ys aB H5 M hM hx ⟨v,cE,rfl,rfl,e1,e2,e3,e4⟩;obtain⟨kt,pF,rfl⟩:=c9 hx;have hj:j<ks.length:=by rw[← dg];exact cJ pF
     obtain⟨b2,cl,aX,hK⟩:=RZ.t j kt ks[j] pF (aV hj);have et:=oW (p:=λx:Kn=>decide (x.n=k.n)) (aV hj);have mk:=dU hj;generalize ks[j] = k' at *
     walk_at "rdt";refine⟨_,aK.of (e2 _ _ hK.o),_,rfl,rfl,cK (λg1=>?_) λg1=>hM _ _ _ ⟨_,cE,rfl,rfl,e1,e2,e3,?_⟩⟩
     ·have g1:k'.n=k.n:=by injection g1
      obtain rfl:=aio L.up mk yT g1;have ho:=e2 _ _ hK.o;rw[cg] at ho;refine⟨_,.inr (aK.of (e2 _ _ (s' _ _ h2))),rfl,rq _,ite_yes (by rw[lB];simpa using knb) ⟨_,aK.of ho,_,rfl,ite_yes (λz=>nomatch z) ⟨e1,hM _ _ _ ⟨_,cE++[kt],by simp,rfl,aE,aj.put2 e2 e3,e3,?_⟩⟩⟩⟩
      rw[et,if_pos (jo rfl)];exact e4.snoc ⟨_,_,_,hK⟩
     ·rw[et,if_neg ↑g1,jF]
      exact e4
    ·rintro D ys aB H5 ⟨v,cE,rfl,rfl,e1,e2,e3,e4⟩;rw[aM,dg,cZ,YA L.up yT] at e4;obtain⟨kt,rfl⟩:∃kt,cE = [kt]:=List.length_eq_one_iff.mp e4.n;obtain⟨b2,cl,aX,hK⟩:=e4.t 0 kt k rfl rfl;refine k5 _ _ ?_;clear k5 N5;refine b7 λN6 k6=>?_;have hK5:=hK.same e2;have sB:=sA.trans e2;walk_at "rdt";refine⟨t,kl,p1,z,ak,sk,sw,za,bw,ca,sa,r,b,bH,ks,u.2.2.1,rfl,hS.same sB,L.wo,L.r0,L.r1,hk.same sB,L.kc,e2 _ _ (s' _ _ h2),λw H6 s6 nw hw=>k6 _ _ ?_⟩;clear k6 N6;have hK6:=hK5.same s6;walk_at "rdt";intro pe B0;have kE:=aj.put (o:=.lst []) B0;have B3:=kE _ _ (s6 _ _ e1);have yU:=ag6 (P:=bJ z ak sk sw []) (n:=(counts z).length) (ks:=ks) (bg:=u.2.2.1) (s:=(r,b)) (λk hk q hq=>⟨((L.kc k hk).1 q hq).1,((L.kc k hk).1 q hq).2.1⟩) L.r0 L.r1;have wA:=hK6.same kE;obtain⟨c1,c2⟩:=L.kc k yT;refine⟨_,aA.of B3,aA.of aE,ite_no (by simp) ⟨_,aA.of B3,_,rfl,t,w,kt,z,ak,sk,sw,za,bw,ca,sa,_,_,k,b2,cl,aX,rfl,hS.same ((sB.trans s6).trans kE),L.wo,yU.1,yU.2,kE _ _ hw,wA,c1,c2,λH8 s8=>?_⟩⟩
     have ho:=s8 _ _ wA.o;rw[cg] at ho;exact⟨_,aA.of (s8 _ _ B3),_,rfl,kt,rfl,_,aK.of ho,_,rfl,_,rfl,lt,rfl,ite_no (Int.not_le.mpr am9) (hN _ _ ⟨_,_,_,_,rfl,(s'.trans e2).trans ((s6.trans kE).trans s8)⟩)⟩
   ·rintro σ H' ⟨x0,y0,w0,v0,rfl,s'⟩;walk_at "rdt";exact q _ (s4.trans s')
theorem am_:bq P w K mg base bF 13 A.P0 A.P1 [%[|19], %[|11], %[|20], %[|21], %[|10]] (ais K):=by
 have BH:= ~~~Q9;have ana:= ~~~amP;have anb:= ~~~am4;exists T.F_.ok YT
 ·obtain⟨u,t,kl,z,ak,sk,sw,nc,r,b,ks,ds,rfl,_⟩:=h
  rfl
 ·obtain⟨u,t,kl,z,ak,sk,sw,nc,r,b,ks,ds,rfl,L,kd,it,q⟩:=h;obtain⟨bH,hk⟩:=L.kn;have yO:=hr.U8;have dg:=hk.n;have n7:=L.n7;refine⟨_,%[bY (cF (PW.pt (gB (iB (gh (cB vC rfl T.rW uO %[aa 0,uX (v:=.ty "tuple") rfl T.o9 qH rfl|0]))) (gB (eF iN (cB eZ rfl T.dN dZ %[aa 0|0]) ao (bB _)) (iL (iB (gh (cB vC rfl T.rW uO %[aI bM (aa 0) ao %[|2],uX (v:=.ty "str") rfl T.QM boot_str rfl|0]))))))) (aL (br eK)) bW),bY (cF (cC i_ (aI bM (aa 0) ao %[|2]) i8 (bB _)) (aL (br (sX (iE i_ (cB eZ rfl T.dN dZ %[aa 0|0]) ao (bB _)) (oh (bu ana nofun rfl T.ak9 T.aae.kp T.ak8 .nil aN %[aa 1,aa 2,aa 3,aa 4,aI bM (aa 0) ao %[|2]|0]))))) bW),bY (cF (PW.pt (gB (cC vg (aI bM (aa 0) ao %[|2]) i8 (bB _)) (gB (eF vY (cB eZ rfl T.dN dZ %[aa 0|0]) ao (bB _)) (iL (iB (gh (bu BH nofun rfl T.Qo T.FZ.kp T.Qn .nil aN %[aI bM (aa 0) ao %[|2]|0]))))))) (aL (br eK)) bW),bY (tV (i:=5) YT.nd rfl OL_ (N:=[%[|18], %[|19]]) (nt:=1) (fv:=[0]) ‹cM.of› rfl (cS (aa 4)) (λC s H fp=>(bA (i:=0) (show List.Nodup ([%[|18], %[|19]]:List Str) by decide +kernel) rfl OL_)) (λC s H fp=>(jS (cC (J5 (K:=K) rfl) (aI (j_ (K:=K) rfl) (aa 0) ao %[|2]) (aI (j_ (K:=K) rfl) (aa 1) ao %[|2]) rfl))) (λC s H fp=>(aa 0))),bY (cF (cC (agS yO) (aI bM (aa 0) ao %[|2]) (jP xG rfl T.o9 qH %[gq (N:=[%[|18]]) (nt:=1) (fv:=[]) ‹cM.of› rfl (cS (aa 5)) (λC s H fp=>(bA (i:=0) (show List.Nodup ([%[|18]]:List Str) by decide +kernel) rfl OL_)) (λC s H fp=>jR) (λC s H fp=>(aI (j_ (K:=K) rfl) (aa 0) ao %[|2]))|0]) (bB _)) (aL (br eK)) bW),br (bu anb nofun rfl T.ala T.aaf.kp T.ak_ .nil aN %[aa 1,aa 2,aa 3,aa 5,aI bM (aa 0) ao %[|2]|0])|1],?_⟩
  refine b7 λN1 k1=>?_;walk_at "rdt";obtain⟨wd,rest,hu,l1⟩:∃wd rest,H u=some (.tup (.str wd::rest))/\1<=rest.length:=by
   rcases it with⟨po,o,hu,_⟩ | ⟨pn,lv,cu,bR,hu,_⟩
   ·exact⟨_,_,hu,by simp⟩
   ·exact⟨_,_,hu,by simp⟩
  refine⟨_,.tup hu,true,rfl,ite_no (by simp) ⟨_,.inr (aK.of hu),ite_no (by rw[List.length_cons];lia) ⟨_,aK.of hu,.str wd,ain,_,.str wd,true,rfl,ite_no (by simp) (k1 _ _ ?_)⟩⟩⟩
  clear k1 N1 hu l1 wd rest;refine b7 λN2 k2=>?_;walk_at "rdt";rcases it with⟨po,o,hu,jy,ho⟩ | ⟨pn,lv,cu,bR,hu,GB,uB,cn⟩
  ·obtain⟨⟨st,hr'⟩,hf⟩:=ho.reach .nil;obtain⟨ns,e,tk⟩:=(ho.Lb λs c=>Ez z ak sk sw nc c s).time kd;rw[List.nil_append] at e;subst e;exact⟨_,aK.of hu,_,rfl,rfl,ite_yes rfl ⟨_,.inr (aK.of hu),ite_yes rfl ⟨_,aK.of hu,_,rfl,t,kl,po,z,ak,sk,sw,r,b,ks,o,rfl,L,jy,kd.kd.ord hr' hf,tk,q⟩⟩⟩
  ·refine⟨_,aK.of hu,_,rfl,rfl,ite_no (λz=>by injection z with z;exact absurd z ⋯) (k2 _ _ ?_)⟩
   clear k2 N2;refine b7 λN3 k3=>?_;walk_at "rdt";refine⟨_,aK.of hu,_,rfl,rfl,ite_no (λz=>z rfl) ⟨_,.inr (aK.of hu),ite_no (λz=>z rfl) ⟨_,aK.of hu,_,rfl,pn,_,rfl,GB,λH1 s1=>⟨true,rfl,ite_no (by simp) (k3 _ _ ?_)⟩⟩⟩⟩
   clear k3 N3;refine b7 λN4 k4=>?_;have ur:=hk.same s1;have aa6:=s1 _ _ hu;have aa7:=s1 _ _ GB;walk_at "rdt";refine iF kl (bH.map V.ref) (λD j ys aB H2=>∃(v:Option V) (cE:_A),ys=cE.map V.ref/\aB = [v,⇑u]/\H2 D=some (.lst ys)/\aj H1 H2/\H1 D=none/\jh H1 cE (nF (ks.take j) (bR.map (·.n)))) (λQ q=>q) ur.sq ?_ ?_ ?_ ?_
   ·intro D hD;exact⟨none,[],rfl,rfl,aE,aj.put hD,hD,jh.nil⟩
   ·rintro D j ys aB H2 ⟨v,cE,rfl,rfl,e1,e2,e3,e4⟩;refine⟨e1,gi ?_,(ur.same e2).sq⟩;have:=gW (λx:Kn=>decide (x.n∈bR.map (·.n))) (ks.take j);rw[dw] at this;have e5:=e4.n;unfold nF at e5;rw[aM];lia
   ·rintro D j x ys aB H2 M hM hx ⟨v,cE,rfl,rfl,e1,e2,e3,e4⟩;obtain⟨kt,pF,rfl⟩:=c9 hx;have hj:j<ks.length:=by rw[← dg];exact cJ pF
    obtain⟨b2,cl,aX,hK⟩:=ur.t j kt ks[j] pF (aV hj);have et:=oW (p:=λx:Kn=>decide (x.n∈bR.map (·.n))) (aV hj);generalize ks[j] = k at *
    walk_at "rdt";refine⟨_,aK.of (e2 _ _ hK.o),_,rfl,_,aK.of (e2 _ _ aa6),_,rfl,pn,rfl,_,.inr (aK.of (e2 _ _ aa7)),rfl,rq _,cK (λg1=>⟨e1,hM _ _ _ ⟨_,cE++[kt],by simp,rfl,aE,aj.put2 e2 e3,e3,?_⟩⟩) λg1=>hM _ _ _ ⟨_,cE,rfl,rfl,e1,e2,e3,?_⟩⟩
    ·rw[lB] at g1;unfold nF at e4 ⊢;rw[et,if_pos g1];exact e4.snoc ⟨_,_,_,hK⟩
    ·rw[lB] at g1;unfold nF at e4 ⊢;rw[et,if_neg g1,jF];exact e4
   ·rintro D ys aB H2 ⟨v,cE,rfl,rfl,e1,e2,e3,e4⟩;rw[aM,dg,cZ] at e4;refine k4 _ _ ?_;clear k4 N4;refine b7 λN5 k5=>?_;have sy:=kd.some cn.sb;have fP:=(e4.same e2).yf e1;have s2:=s1.trans e2;walk_at "rdt";refine⟨_,aK.of (e2 _ _ aa6),_,rfl,?_⟩;have aa8:=fP.n;have l7:(nF ks (bR.map (·.n))).length<=ks.length:=gW _ _;refine iF D (cE.map V.ref) (λD2 j ys aB H3=>∃(v:Option V),ys=(((nF ks (bR.map (·.n))).take j).map (·.n)).map V.int/\aB = [v]/\H3 D2=some (.lst ys)/\aj H2 H3/\H2 D2=none) (λQ q=>q) (aA.of e1) ?_ ?_ ?_ ?_
    ·intro D2 kg;exact⟨none,rfl,rfl,aE,aj.put kg,kg⟩
    ·rintro D2 j ys aB H3 ⟨v,rfl,rfl,f1,f2,f3⟩;refine⟨f1,gi ?_,aA.of (f2 _ _ e1)⟩;rw[aM,aM,dw];lia
    ·rintro D2 j x ys aB H3 M hM hx ⟨v,rfl,rfl,f1,f2,f3⟩;obtain⟨kt,pF,rfl⟩:=c9 hx;have hj:j<(nF ks (bR.map (·.n))).length:=by rw[← aa8];exact cJ pF
     obtain⟨b2,cl,aX,hK⟩:=fP.t j kt (nF ks (bR.map (·.n)))[j] pF (aV hj);walk_at "rdt";refine⟨_,aK.of (f2 _ _ hK.o),_,rfl,f1,hM _ _ _ ⟨_,?_,rfl,aE,aj.put2 f2 f3,f3⟩⟩;rw[take_succ_get (aV hj),cj,cj];rfl
    ·rintro D2 ys aB H3 ⟨v,rfl,rfl,f1,f2,f3⟩;rw[aM,aa8,cZ,← sy.kd.ns] at f1;refine⟨D2,rfl,_,.inl ⟨aA.of f1,λp4 pA=>⟨pn,rfl,_,aj.put pA _ _ (f2 _ _ (e2 _ _ aa7)),_,rfl,ite_no (λz=>z rfl) (k5 _ _ ?_)⟩⟩⟩;clear k5 N5;have s4:=f2.trans (aj.put (o:=.tup ((bR.map (·.n)).map V.int)) pA);generalize upd H3 p4 (.tup ((bR.map (·.n)).map V.int))=H4 at s4 ⊢;have r9:=s2.trans s4;walk_at "rdt";obtain⟨c1,c2,c3,c4,c5⟩:=yw.ait sy cn.n _ rfl;exact⟨_,aK.of (r9 _ _ hu),_,rfl,t,D,lv,z,ak,sk,sw,r,b,nF ks (bR.map (·.n)),cu,_,rfl,⟨(L.same r9).sp,L.wo,L.r0,L.r1,⟨cE,fP.same s4⟩,λk hk=>L.kc k (cY.mp hk).1,L.up.sublist pG,∅⟩,uB.same r9,cH c4 (Ys ∅),c1,c2,c3,c5,λH5 s5=>q _ (r9.trans s5)⟩
theorem anc:∀n,bq P w K mg base bF (n+7) A.Fo A.Fp ["self", %[|72], "ring", "beat"] (Lx K [A.bK,A.bG] A.bX A.cG A.c_ n):=by
 have BU:= ~~~RO;have R0:= ~~~aaS;have R1:= ~~~aa5;intro n
 induction n with
 | zero=>exact⟨λ_ _ _ _ h=>(Yu h).elim,λ_ _ _ _ _ _ _ _ _ _ _ _ _ h=>(Yu h).elim⟩
 | succ n ih =>
  exists T.ajL.ok Ba
  ·obtain⟨C,x,p,l,kd,fa,dx,pb,P,fp,ps,ds,az,bg,r,b,H0,m,k,rfl,_⟩:=h
   rfl
  ·obtain⟨C,x,p,l,kd,fa,dx,pb,P,fp,ps,ds,az,bg,r,b,H0,m,k,rfl,hm,el,en,S,s0,r0,r1,hx,hb,hf,kw,q⟩:=h;have kh:_+16<cLine:=qE (sN (by decide:16<=64) _) hr.units
   unfold rR at hx;refine⟨_,%[bY (j9 (eF A7 (cB eZ rfl T.dN dZ %[aa 1|0]) (cB eZ rfl T.dN dZ %[b9 (aa 0) rfl|0]) (bB _)) (aL (br (aa 1))) bW),bY (a_ (i:=4) Ba.nd rfl OL_ (dB %[jP xG rfl T.o9 qH %[cB Xz rfl T.yG C3 %[aa 1|0]|0],aa 2|0])),bY (cF (PW.pt (gB (cC vh (aa 3) (ah6 kh (b9 (aa 0) rfl) (aa 4) (aF fG (aa 3) ao) ⟨rfl,rfl,rfl,rfl⟩) (bB _)) (iL (cC qM (xC (aa 0) T.yE T.Zj R1 nofun T.Zi .nil aN %[aa 1,aa 2,aa 3|0]) i6 (bB _))))) (aL (br i6)) bW),c8 c7 rfl (cS (bu R0 nofun rfl T.Zg T.Qa.kp T.Zf .nil aN %[b9 (aa 0) rfl,b9 (aa 0) rfl,aa 1|0])) (bA (i:=5) Ba.nd rfl OL_)
   %[a_ (i:=6) Ba.nd rfl OL_ (bu BU nofun rfl T.P9 T.FT.kp T.P8 .nil aN %[b9 (aa 0) rfl,aa 2,aa 3,b9 (aa 5) rfl|0]),a_ (i:=7) Ba.nd rfl OL_ (xC (aa 0) T.yE T.Zl ih nofun T.Zk .nil aN %[aF K9 (aa 1) (dB %[b9 (aa 5) rfl|0]),aI bM (aa 6) ao %[|2],aI bM (aa 6) ao %[|2]|0]),cF (cC qM (aa 7) i6 (bB _)) (aL (br (aa 7))) bW|1],ah7 kh (b9 (aa 0) rfl) (aa 4) (aa 3) rfl,br i6|1],?_⟩
   refine b7 λN1 k1=>?_;wp_walk using T,hx;have hDl:=s0 _ _ S.du.l;have dn:=S.du.n;refine⟨_,.inr (aK.of hb),_,.inl (aA.of hDl),cK (λh0=>?_) λh0=>k1 _ _ ?_⟩
   ·rw[aM,aM] at h0;have e0:bZ ds bg = []:=uH.mp ∅
    exact q _ _ (λ_ _ _ e=>e) (hf.same (aj.refl _) ∅) (.inr ⟨_,bg,rfl,hb,.done e0⟩)
   rw[aM,aM] at h0;refine b7 λN2 k2=>?_;have n7:=S.n7;wp_walk using T,hx;refine⟨bg,aK.of hb,∅,λl1 ms yI pm sr=>⟨_,.inl ⟨aA.of aE,λl2 sf p3 nN=>?_⟩⟩⟩
   have t1:=((aj.put (o:=.lst (ms.map V.int)) yI).trans (aj.put (o:=.tup (ms.map V.int)) sf)).trans (aj.put (o:=.tup [V.ref l2,V.int r]) nN);refine k2 _ _ ?_;have nk:nC (upd (upd (upd H l1 (.lst (ms.map V.int))) l2 (.tup (ms.map V.int))) p3 (.tup [V.ref l2,V.int r])) (.ref p3) (ms,r):=⟨p3,l2,rfl,aE,aj.put nN _ _ aE⟩;generalize upd (upd (upd H l1 (.lst (ms.map V.int))) l2 (.tup (ms.map V.int))) p3 (.tup [V.ref l2,V.int r])=H3 at t1 nk ⊢;clear k1 k2 N1 N2 yI sf nN;refine b7 λN3 k3=>?_;have uq:=t1 _ _ hx;wp_walk using T,uq;have mem:∀y,y∈bg↔y∈ms:=λy=>pm.mem_iff.symm
   have B4:=hf.same t1 (bx k);refine⟨rQ P ds,k,B4,B4,(ms,r),nk,λv hv=>?_⟩;obtain⟨v5,rfl,hle⟩:∃v5,v = .int v5/\(v5<=b->¬ ∃o,dH P ds bg (r,b) o):=by
    rcases hv with rfl | ⟨b',rfl,hF⟩
    ·exact⟨_,rfl,λz=>absurd z ∅⟩
    ·exact⟨_,rfl,λz=>hF.later S.ok S.hc S.nd z mem ⟨r0,r1⟩⟩
   refine⟨_,rfl,cK (λz=>q _ _ t1.x (B4.same (aj.refl _) ∅) (.inl ⟨rfl,hle z⟩)) λ_=>?_⟩
   refine⟨C,x,p,l,kd,fa,dx,pb,P,fp,ps,ds,az,bg,r,b,H0,rfl,S,s0.trans t1,r0,r1,uq,t1 _ _ hb,λH4 s4=>?_⟩;have t4:=t1.trans s4;have hf4:=B4.same s4 (bx k);cases B5:ir P ds bg (r,b) with
   | some mm =>
    refine ite_yes (λz=>nomatch z) (q _ _ t4.x (hf4.same (aj.refl _) ∅) (.inl ⟨rfl,λ⟨o,ho⟩=>?_⟩))
    obtain⟨d,hd,_,hl⟩:=Lw B5;rw[ho.Yl S.ok S.hc S.nd ⟨r0,r1⟩ ⟨r0,r1⟩ (.refl _ _) hd] at hl;cases hl
   | none =>
    refine ite_no (λz=>z rfl) (k3 _ _ ?_);clear k3 N3;obtain⟨m',rfl⟩:∃m',m=m' + 1:=⟨m - 1,∅⟩
    have ew:jA (m' + 1)=1+(m' + 1)*jA m':=rfl;have qz:=s4 _ _ uq;have nk4:=nk.same λb xs e=>s4 _ _ e;clear uq nk B4 hle hv mem;refine tM ?_;wp_walk using T,qz;refine⟨l,kd,pb,ps,ds,az,bg,H0,rfl,s0.trans t4,S.du,∅,S.ke,t4 _ _ hb,λD pl H5 s5 nD hD hl=>⟨D,rfl,?_⟩⟩
    have t5:=t4.trans s5;have mC:=hl.n;have yY:=hf4.same s5 (bx k);have nDf:D≠fa:=yY.ne hD λ_ z=>nomatch z;refine oH.by D (pl.map V.ref) (λi σ H'=>∃(u v w:Option V),σ = [some (.ref x),some (.ref pb),some (.int r),some (.int b),some (.ref p3),u,v,w]/\nB fa H5 H'/\ig H' fa (rQ P ds) (k+i*jA m')/\∀(j:Nat) (d:Dr),j<i->(dM ds bg)[j]? = some d->¬ ∃o,dH P ds (bg++[d.n]) (aQ P (r,b) d.c) o) (aA.of hD) ⟨none,none,none,rfl,λ_ _ _ e=>e,yY.same (aj.refl _) ∅,λ_ _ h=>absurd h (uN _)⟩ (by rintro i σ H' _ ⟨u,v,w,rfl,g,_⟩;exact aA.of (g _ _ nDf hD)) ?_ ?_
    ·rintro i y σ H' N hN hy ⟨u,v,w,rfl,g1,g2,g3⟩;obtain⟨dp,iG,rfl⟩:=c9 hy;have hi:i<(dM ds bg).length:=by rw[← mC];exact cJ iG
     have mG:=aV hi;obtain⟨jT,ap,la,ts,mk,b',cA,su⟩:=hl.t i dp (dM ds bg)[i] iG mG;have mD:=dU hi;generalize (dM ds bg)[i] = d at *
     have sA:aj H0 H':=λb o e=>g1 _ _ (bT e S.fa) (t5 _ _ (s0 _ _ e));have ji:=su.same sA;have dY:=ji.o;unfold m_ at dY;have lK:=g1 _ _ (yY.ne (s5 _ _ qz) λ_ z=>nomatch z) (s5 _ _ qz);have kH:=g1 _ _ (yY.nt (t5 _ _ hb)) (t5 _ _ hb);wp_walk using T,dY,lK;obtain⟨BV,BW⟩:=S.dc d (jZ.mp mD).1.1;refine⟨C,p,P,fp,r,b,la,ts,d.c,rfl,S.c,S.pl.same sA,S.ok,r0,r1,ji.c,BV,BW,λst H6 s6 nst iC=>?_⟩;have R3:=s6 _ _ dY;refine⟨_,_,s6 _ _ lK,by simp[List.lookup,tH],?_⟩
     wp_walk using T,R3;intro pm BZ;have k6:=aj.put (o:=.tup [V.int d.n]) BZ;refine⟨_,aK.of (k6 _ _ (s6 _ _ kH)),by simp,by rw[List.length_map];lia,λp2 H7 s7 h7=>?_⟩
     have k7:=(s6.trans k6).trans s7;have B6:=s7 _ _ (k6 _ _ iC);refine⟨_,aK.of B6,_,rfl,_,aK.of B6,_,rfl,?_⟩;have ie:=jx P (n:=P.rc.length) d.c (r,b) r0 r1 (S.hc d (jZ.mp mD).1.1);have ll:=EH S.nd (vN mD);have lf:(dM ds bg).length<=(bZ ds bg).length:=gW _ _;have mul:=CQ (jA m') (show i+1<=m' + 1 by lia)
     have mu1:(i+1)*jA m' = i*jA m' + jA m':=CV _ _;refine⟨C,x,p,l,kd,fa,dx,p2,P,fp,ps,ds,az,bg++[d.n],_,_,H0,m',k+i*jA m',rfl,∅,∅,by rw[e7];show bg.length+1+m' = _;lia,S,sA.trans k7,ie.1,ie.2,k7 _ _ lK,by rw[h7,cj];rfl,g2.same k7 (bx _),∅,λv' H8 x8 f8 o8=>?_⟩
     have g8:=g1.trans (k7.x.trans x8);rcases o8 with⟨rfl,no⟩ | ⟨po,o,rfl,jy,ho⟩
     ·refine ite_no (λz=>z rfl) (hN _ _ ⟨_,_,_,rfl,g8,f8.same (aj.refl _) ∅,λj d' hj ej=>?_⟩)
      rcases CM.mp hj with hj | rfl
      ·exact g3 j d' hj ej
      ·rw[mG] at ej;cases ej;exact no
     ·exact ite_yes (λz=>nomatch z) (q _ _ (t5.x.trans g8) (f8.same (aj.refl _) ∅) (.inr ⟨po,o,rfl,jy,.step mD (Ym B5 (vN mD)) ho⟩))
    ·rintro σ H' ⟨u,v,w,rfl,g1,g2,g3⟩;have lK:=g1 _ _ (yY.ne (s5 _ _ qz) λ_ z=>nomatch z) (s5 _ _ qz);wp_walk using T,lK;have lf:(dM ds bg).length<=(bZ ds bg).length:=gW _ _;rw[aM,mC] at g2 g3;have mul:=CQ (jA m') (show (dM ds bg).length<=m' + 1 by lia)
     have no:¬ ∃o,dH P ds bg (r,b) o:=ah8 (λz=>by rw[z] at el;cases el) λd hd=>by
      obtain⟨j,ej⟩:=CC.mp hd;exact g3 j d (cJ ej) ej
     refine⟨rQ P ds,_,g2,∅,(ms,r),nk4.same λb xs e=>g1 _ _ (yY.nt (s5 _ _ e)) (s5 _ _ e),.of S.ok S.hc S.nd no (λy=>pm.mem_iff.symm) ⟨r0,r1⟩,λH9 x9 f9=>q _ _ ((t5.x.trans g1).trans x9) (f9.same (aj.refl _) ∅) (.inl ⟨rfl,no⟩)⟩
theorem ane:bq P w K mg base bF 15 A.Fo A.Fp ["self", %[|72], "ring", "beat"] (Lx K [A.bK,A.bG] A.bX A.cG A.c_ 8):=(anc T aG 8).mono ⋯
theorem anf:∀n,bq P w K mg base bF (n+7) A.Fq A.Ft ["self", %[|72], "ring", "beat"] (Ly K [A.bK,A.bG] A.bX A.cG A.c_ n):=by
 have BU:= ~~~RO;have R0:= ~~~aaS;have R1:= ~~~aa5;intro n
 induction n with
 | zero=>exact⟨λ_ _ _ _ h=>(Yv h).elim,λ_ _ _ _ _ _ _ _ _ _ _ _ _ h=>(Yv h).elim⟩
 | succ n ih =>
  exists T.ajM.ok Bb
  ·obtain⟨C,x,p,l,kd,fa,dx,pb,P,fp,ps,ds,az,bg,r,b,H0,m,rfl,_⟩:=h
   rfl
  ·obtain⟨C,x,p,l,kd,fa,dx,pb,P,fp,ps,ds,az,bg,r,b,H0,m,rfl,hm,el,en,S,s0,r0,r1,hx,hb,q⟩:=h;unfold rR at hx;have n7:=S.n7;refine⟨_,%[bY (a_ (i:=4) Bb.nd rfl OL_ (xC (aa 0) T.yE T.Zj R1 nofun T.Zi .nil aN %[aa 1,aa 2,aa 3|0])),bY (cF (cC qM (aa 4) i6 (bB _)) (aL (br (fj %[dB %[aa 1,aa 4|0]|0]))) bW),a_ (i:=5) Bb.nd rfl OL_ (fj au),c8 c7 rfl (cS (bu R0 nofun rfl T.Zg T.Qa.kp T.Zf .nil aN %[b9 (aa 0) rfl,b9 (aa 0) rfl,aa 1|0])) (bA (i:=6) Bb.nd rfl OL_)
   %[a_ (i:=7) Bb.nd rfl OL_ (bu BU nofun rfl T.P9 T.FT.kp T.P8 .nil aN %[b9 (aa 0) rfl,aa 2,aa 3,b9 (aa 6) rfl|0]),e_ (lY lP PySem.F.slot_list_extend PySem.F.type_list_extend Vs (aa 5) %[xC (aa 0) T.yE T.Zo ih nofun T.Zm .nil aN %[aF K9 (aa 1) (dB %[b9 (aa 6) rfl|0]),aI bM (aa 7) ao %[|2],aI bM (aa 7) ao %[|2]|0]|0])|1],br (aa 5)|1],?_⟩
   refine b7 λN1 k1=>?_;wp_walk using T,hx;refine⟨C,x,p,l,kd,fa,dx,pb,P,fp,ps,ds,az,bg,r,b,H0,rfl,S,s0,r0,r1,hx,hb,λH1 s1=>k1 _ _ ?_⟩;clear k1 N1;refine b7 λN2 k2=>?_;walk_at "rdt";cases B5:ir P ds bg (r,b) with
   | some mm =>
    refine ite_yes (λz=>nomatch z) ?_;intro p1 n1 p2 n2;have s2:=s1.trans ((aj.put (o:=.tup [V.ref pb,V.int mm]) n1).trans (aj.put (o:=.lst [V.ref p1]) n2));refine q p2 [p1] _ s2 (s1.free ((aj.put (o:=.tup [V.ref pb,V.int mm]) n1).free n2)) ?_;rw[tZ B5];refine⟨aE,rfl,λi a u e1 e2=>?_⟩;cases i with
    | succ i=>cases e1
    | zero =>
     cases e1;cases e2;exact⟨pb,aj.put n2 _ _ aE,s2 _ _ hb⟩
   | none =>
    refine ite_no (λz=>z rfl) (k2 _ _ ?_);clear k2 N2;have Rv:=s1 _ _ hx;walk_at "rdt";intro lv R4;have tl:=aj.put (o:=.lst []) R4;have uB:upd H1 lv (.lst []) lv=some (.lst []):=aE;generalize upd H1 lv (.lst [])=H2 at tl uB ⊢;have t2:=s1.trans tl;have gv:=t2 _ _ hx;refine tM ?_;wp_walk using T,gv;refine⟨l,kd,pb,ps,ds,az,bg,H0,rfl,s0.trans t2,S.du,∅,S.ke,t2 _ _ hb,λD pl H5 s5 nD hD hl=>⟨D,rfl,?_⟩⟩
    have t5:=t2.trans s5;have mC:=hl.n;have BI:=s1.free R4;have nD0:D≠lv:=(bT uB nD).symm;have any:=aik B5 el;have aa9:=cH (Yp (P:=P) (st:=(r,b)) S.nd m (zw el)) (Ys ∅)
    rw[any] at q aa9;refine oH.by D (pl.map V.ref) (λi σ H'=>∃(u v:Option V) (cu:_A),σ = [some (.ref x),some (.ref pb),some (.int r),some (.int b),some .aY,some (.ref lv),u,v]/\nB lv H5 H'/\H' lv=some (.lst (cu.map V.ref))/\nq H' cu (((dM ds bg).take i).flatMap λd=>fu P ds (m - 1) (bg++[d.n]) (aQ P (r,b) d.c))) (aA.of hD) ⟨none,none,[],rfl,λ_ _ _ e=>e,s5 _ _ uB,⟨rfl,λ_ _ _ e=>nomatch e⟩⟩ (by rintro i σ H' _ ⟨u,v,cu,rfl,g,_⟩;exact aA.of (g _ _ nD0 hD)) ?_ ?_
    ·rintro i y σ H' N hN hy ⟨u,v,cu,rfl,g1,g2,g3⟩;obtain⟨dp,iG,rfl⟩:=c9 hy;have hi:i<(dM ds bg).length:=by rw[← mC];exact cJ iG
     have mG:=aV hi;obtain⟨jT,ap,la,ts,mk,b',cA,su⟩:=hl.t i dp (dM ds bg)[i] iG mG;have mD:=dU hi;generalize (dM ds bg)[i] = d at *
     have gH:∀b o,H b=some o->H' b=some o:=λb o e=>g1 _ _ (bT e BI) (t5 _ _ e);have sA:aj H0 H':=s0.trans gH;have ji:=su.same sA;have dY:=ji.o;unfold m_ at dY;have lK:=gH _ _ hx;have kH:=gH _ _ hb;wp_walk using T,dY,lK;obtain⟨BV,BW⟩:=S.dc d (jZ.mp mD).1.1;refine⟨C,p,P,fp,r,b,la,ts,d.c,rfl,S.c,S.pl.same sA,S.ok,r0,r1,ji.c,BV,BW,λst H6 s6 nst iC=>?_⟩;have R3:=s6 _ _ dY;have ll:=EH S.nd (vN mD);have ie:=jx P (n:=P.rc.length) d.c (r,b) r0 r1 (S.hc d (jZ.mp mD).1.1);refine⟨⟨_,aA.of (s6 _ _ g2)⟩,_,_,s6 _ _ lK,by simp[List.lookup,tH],?_⟩
     wp_walk using T,R3;intro pm BZ;have k6:=aj.put (o:=.tup [V.int d.n]) BZ;refine⟨_,aK.of (k6 _ _ (s6 _ _ kH)),by simp,by rw[List.length_map];lia,λp2 H7 s7 h7=>?_⟩
     have k7:=(s6.trans k6).trans s7;have B6:=s7 _ _ (k6 _ _ iC);refine⟨_,aK.of B6,_,rfl,_,aK.of B6,_,rfl,?_⟩;refine⟨C,x,p,l,kd,fa,dx,p2,P,fp,ps,ds,az,bg++[d.n],_,_,H0,m - 1,rfl,∅,∅,by rw[e7];show bg.length+1+(m - 1)=_;lia,S,sA.trans k7,ie.1,ie.2,k7 _ _ lK,by rw[h7,cj];rfl,λlw GC H8 s8 nlw hlw=>?_⟩
     have k8:=k7.trans s8;have g28:=k8 _ _ g2;have tk:=take_succ_get mG;have g38:=(g3.same k8).app hlw.ll;have ang:(cu++GC).length<=5040:=by
      rw[g38.n];refine cH (zw ?_) (cH (ail _ (dM ds bg) (i+1)) aa9);rw[tk,wN];simp
     rw[e7] at ang;refine⟨lw,rfl,_,g28,_,hlw.l,by rw[aM,aM];lia,hN _ _ ⟨_,_,cu++GC,rfl,λb o nb e=>by rw[aJ nb];exact k8 _ _ (g1 _ _ nb e),by rw[aE,cj],?_⟩⟩
     rw[tk,wN];have:=g38.kG g28 (ys:=cu.map V.ref++GC.map V.ref);simpa using this
    ·rintro σ H' ⟨u,v,cu,rfl,g1,g2,g3⟩;walk_at "rdt";rw[aM,mC,cZ] at g3;exact q lv cu H' (λb o e=>g1 _ _ (bT e BI) (t5 _ _ e)) BI ⟨g2,g3.n,g3.t⟩
theorem anh:bq P w K mg base bF 15 A.Fq A.Ft ["self", %[|72], "ring", "beat"] (Ly K [A.bK,A.bG] A.bX A.cG A.c_ 8):=(anf T aG 8).mono ⋯
theorem aa_:bq P w K mg base bF 16 A.Ob A.Oc [%[|32], "ring", "beat", "dues"] (aie K [A.bK,A.bG] A.bX A.cG):=by
 have R5:= ~~~aa0;have ani:= ~~~ane;exists T.Qc.ok aiZ
 ·obtain⟨C,p,l,P,fp,ps,ds,r,b,rfl,_⟩:=h
  rfl
 ·obtain⟨C,p,l,P,fp,ps,ds,r,b,rfl,S,q⟩:=h;refine⟨_,(aL (br (xC (tF T.aau R5 nofun rfl T.aav T.Zh .nil aN %[aa 0,aa 3|0]) T.yE T.Zl ani nofun T.Zk .nil aN %[dB au,aa 1,aa 2|0]))),?_⟩
  walk_at "rdt";intro x dx nx je dne;have n7:=S.n7;have k1:aj H (upd (upd H dx (.own x)) x (.ins A.c_ dx [])):=λb o e=>by rw[aJ (bT e nx),aJ (bT e je)];exact e
  refine⟨x,p,l,dx,ps,ds,H,rfl,k1,nx,aE,S.du,∅,S.nd,λkd fa az H1 H2 s1 nf hk s2 hx hf=>⟨rfl,_,_,hx,by simp[rR,List.lookup,tH],λpb R6=>?_⟩⟩
  have k3:=aj.put (o:=.tup []) R6;exact⟨C,x,p,l,kd,fa,dx,pb,P,fp,ps,ds,az,[],r,b,H1,ds.length,0,rfl,∅,by rw[AX],by simp,(S.same s1).se hk nf,s2.trans k3,S.r0,S.r1,k3 _ _ hx,aE,.new (k3 _ _ hf),by rw[Nat.zero_add];exact cH (agX n7) ⋯,λv H' x' f' o'=>q v H' (λb o e=>x' b o (bT (s1 _ _ e) nf) (k3 _ _ (s2 _ _ (s1 _ _ e)))) o'⟩
theorem anj:bq P w K mg base bF 17 A.Od A.Oe [%[|32], "ring", "beat", "dues"] (aif K [A.bK,A.bG] A.bX A.cG):=by
 have R7:= ~~~aa_;exists T.Zr.ok Bc
 ·obtain⟨C,p,l,P,fp,ps,ds,r,b,rfl,_⟩:=h
  rfl
 ·obtain⟨C,p,l,P,fp,ps,ds,r,b,rfl,S,no,q⟩:=h;refine⟨_,%[a_ (i:=4) Bc.nd rfl OL_ (aa 3),c8 c7 rfl (cS (aa 3)) (bA (i:=5) Bc.nd rfl (Or.inr rfl))
   %[tV (i:=6) Bc.nd rfl OL_ (N:=["other", "due"]) (nt:=1) (fv:=[5]) ‹cM.of› rfl (cS (aa 4)) (λC s H fp=>(bA (i:=0) (show List.Nodup (["other", "due"]:List Str) by decide +kernel) rfl OL_)) (λC s H fp=>(jS (eF vY (A9 (K:=K) rfl (aa 0) rfl) (A9 (K:=K) rfl (aa 1) rfl) (bB _)))) (λC s H fp=>(aa 0)),cF (cC IM (bu R7 nofun rfl T.Zq T.Qc.kp T.Zp .nil aN %[aa 0,aa 1,aa 2,aa 6|0]) i6 (bB _)) (aL (a_ (i:=4) Bc.nd rfl OL_ (aa 6))) bW|1],br (aa 4)|1],?_⟩
  walk_at "rdt";have n7:=S.n7;have dn:=S.du.n;refine rl l (ps.map V.ref) (λi σ H'=>∃(u v:Option V) (ls:Addr) (pl:_A) (es:List Dr),σ = [⇑p,↥r,↥b,⇑l,⇑ls,u,v]/\aj H H'/\eS K A.bX A.cG H' ls pl es/\es.Sublist ds/\(¬ ∃o,dH P es [] (r,b) o)/\∀(j:Nat) (d:Dr),j<i->ds[j]? = some d->d∈es->∃o,dH P (t_ es d.n) [] (r,b) o) (λQ q=>q) (aA.of S.du.l) ⟨none,none,l,ps,ds,rfl,aj.refl _,S.du,List.Sublist.refl _,no,λ_ _ h=>absurd h (uN _)⟩ (by rintro i σ H' _ ⟨u,v,ls,pl,es,rfl,g,_⟩;exact aA.of (g _ _ S.du.l)) ?_ ?_
  ·rintro i y σ H' N hN hy ⟨u,v,ls,pl,es,rfl,g1,g2,g3,g4,g5⟩;obtain⟨dp,iG,rfl⟩:=c9 hy;have hi:i<ds.length:=by rw[← dn];exact cJ iG
   have mG:=aV hi;obtain⟨jT,ap,la,ts,mk,b',cA,su⟩:=S.du.t i dp ds[i] iG mG;generalize ds[i] = d at *
   have dY:=(su.same g1).o;unfold m_ at dY;have gn:=g2.n;have el:=g3.length_le;walk_at "rdt";refine iF ls (pl.map V.ref) (λD j ys aB H2=>∃(w:Option V) (cQ:_A),ys=cQ.map V.ref/\aB = [w,⇑dp]/\H2 D=some (.lst ys)/\aj H' H2/\H' D=none/\jg K A.bX A.cG H' cQ (t_ (es.take j) d.n)) (λQ q=>q) (aA.of g2.l) ?_ ?_ ?_ ?_
   ·intro D hD;exact⟨none,[],rfl,rfl,aE,aj.put hD,hD,jg.nil⟩
   ·rintro D j ys aB H2 ⟨w,cQ,rfl,rfl,e1,e2,e3,e4⟩;refine⟨e1,gi ?_,aA.of (e2 _ _ g2.l)⟩;have:=gW (λx:Dr => !decide (x.n=d.n)) (es.take j);rw[dw] at this;have e5:=e4.n;unfold t_ at e5;rw[aM];lia
   ·rintro D j x ys aB H2 M hM hx ⟨w,cQ,rfl,rfl,e1,e2,e3,e4⟩;obtain⟨op,yW,rfl⟩:=c9 hx;have hj:j<es.length:=by rw[← gn];exact cJ yW
    obtain⟨dx2,ap2,la2,uu,mk2,b2,ame,hOu⟩:=g2.t j op es[j] yW (aV hj);have et:=oW (p:=λx:Dr => !decide (x.n=d.n)) (aV hj);generalize es[j] = o at *
    have mh:=(hOu.same e2).o;unfold m_ at mh;have wu:=e2 _ _ dY;wp_walk using T,mh,wu;refine cK (λh1=>⟨e1,hM _ _ _ ⟨_,cQ++[op],by simp,rfl,aE,aj.put2 e2 e3,e3,?_⟩⟩) λh1=>hM _ _ _ ⟨_,cQ,rfl,rfl,e1,e2,e3,?_⟩
    ·unfold t_;rw[et,if_pos ↑h1]
     exact e4.snoc ⟨_,_,_,_,_,_,_,hOu⟩
    ·unfold t_;rw[et,if_neg ↑h1,jF]
     exact e4
   ·rintro D ys aB H2 ⟨w,cQ,rfl,rfl,e1,e2,e3,e4⟩;rw[aM,gn,cZ] at e4;have k2:=g1.trans e2;have sb:(t_ es d.n).Sublist ds:=(pG).trans g3;have hc:=S.hc;refine⟨C,p,D,P,fp,cQ,t_ es d.n,r,b,rfl,(S.same k2).some sb ((e4.same e2).Ey e1),λv' H3 s3 o3=>?_⟩;have k3:=k2.trans s3;rcases o3 with⟨rfl,n3⟩ | ⟨po,o,rfl,_,ho⟩
    ·refine ite_yes rfl (hN _ _ ⟨_,_,D,cQ,t_ es d.n,rfl,k3,((e4.same e2).Ey e1).same s3,sb,n3,λj d' hj ej hm=>?_⟩);have lF:=cY.mp hm;rcases CM.mp hj with hj | rfl
     ·refine Yt S.ok (λd hd=>hc d (g3.subset (cY.mp hd).1)) (((pG).trans g3 |>.map _).nodup S.nd) ⟨S.r0,S.r1⟩ (λx hx=>?_) (g5 j d' hj ej lF.1)
      have:=cY.mp hx;exact cY.mpr ⟨(cY.mp this.1).1,this.2⟩
     ·rw[mG] at ej;cases ej;exact absurd lF.2 (by simp)
    ·refine ite_no (λz=>nomatch z) (hN _ _ ⟨_,_,ls,pl,es,rfl,k3,(g2.same e2).same s3,g3,g4,λj d' hj ej hm=>?_⟩);rcases CM.mp hj with hj | rfl
     ·exact g5 j d' hj ej hm
     ·rw[mG] at ej;cases ej;exact⟨o,ho⟩
  ·rintro σ H' ⟨u,v,ls,pl,es,rfl,g1,g2,g3,g4,g5⟩;walk_at "rdt";refine q ls pl es H' g1 g2 ⟨g3,g4,λd hd=>?_⟩;obtain⟨j,ej⟩:=CC.mp (g3.subset hd);exact g5 j d (by rw[aM,dn];exact cJ ej) ej hd
theorem ank:bq P w K mg base bF 18 A.Of A.Og [%[|32], "ring", "beat", "dues"] (aih K [A.bK,A.bG] A.bX A.cG):=by
 have anl:= ~~~alS;have R5:= ~~~aa0;have anm:= ~~~anh;have R7:= ~~~aa_;have ano:= ~~~anj;exists T.FU.ok Fd
 ·obtain⟨C,p,l,P,fp,ps,ds,r,b,rfl,_⟩:=h
  rfl
 ·obtain⟨C,p,l,P,fp,ps,ds,r,b,rfl,S,q⟩:=h;refine⟨_,%[e_ (bu anl nofun rfl T.ajE T.Za.kp T.ajD .nil aN %[aa 3|0]),a_ (i:=4) Fd.nd rfl OL_ (bu R7 nofun rfl T.Zq T.Qc.kp T.Zp .nil aN %[aa 0,aa 1,aa 2,aa 3|0]),cF (cC qM (aa 4) i6 (bB _)) (aL (br (dB %[i8,aa 4|0]))) bW,a_ (i:=5) Fd.nd rfl OL_ (bu ano nofun rfl T.ajO T.Zr.kp T.ajN .nil aN %[aa 0,aa 1,aa 2,aa 3|0]),a_ (i:=6) Fd.nd rfl OL_ (xC (tF T.aau R5 nofun rfl T.aav T.Zh .nil aN %[aa 0,aa 5|0]) T.yE T.Zo anm nofun T.Zm .nil aN %[dB au,aa 1,aa 2|0]),br (dB %[i8,jP xG rfl T.o9 qH %[gq (N:=["due"]) (nt:=1) (fv:=[]) ‹cM.of› rfl (cS (aa 5)) (λC s H fp=>(bA (i:=0) (show List.Nodup (["due"]:List Str) by decide +kernel) rfl OL_)) (λC s H fp=>jR) (λC s H fp=>(A9 (K:=K) rfl (aa 0) rfl))|0],aa 6|0])|1],?_⟩
  walk_at "rdt";have n7:=S.n7;refine⟨l,ps,ds,rfl,S.du,n7,C,p,l,P,fp,ps,ds,r,b,rfl,S,λv H1 s1 o1=>?_⟩;rcases o1 with⟨rfl,no⟩ | ⟨po,o,rfl,jy,ho⟩
  ·refine ite_no (λz=>z rfl) ⟨C,p,l,P,fp,ps,ds,r,b,rfl,S.same s1,no,λls pl es H2 s2 tY cn x dx nx je dne=>?_⟩;have k2:=s1.trans s2;have S2:=(S.same k2).some cn.sb tY;have n72:=S2.n7;have k3:aj H2 (upd (upd H2 dx (.own x)) x (.ins A.c_ dx [])):=λb o e=>by rw[aJ (bT e nx),aJ (bT e je)];exact e
   refine⟨x,p,ls,dx,pl,es,H2,rfl,k3,nx,aE,tY,∅,S2.nd,λkd fa az H3 H4 s3 nf hk s4 hx hf=>⟨rfl,_,_,hx,by simp[rR,List.lookup,tH],λpb R6=>?_⟩⟩
   have k5:=aj.put (o:=.tup []) R6;refine⟨C,x,p,ls,kd,fa,dx,pb,P,fp,pl,es,az,[],r,b,H3,es.length,rfl,∅,by rw[AX],by simp,(S2.same s3).se hk nf,s4.trans k5,S.r0,S.r1,k5 _ _ hx,aE,λlv cu H6 s6 R4 uB=>?_⟩
   have k6:=(s3.trans s4).trans (k5.trans s6);have GD:=tY.same k6;have en:=GD.n;refine iF ls (pl.map V.ref) (λD i ys aB H7=>∃(u:Option V),ys=((es.take i).map (·.n)).map V.int/\aB = [u]/\H7 D=some (.lst ys)/\aj H6 H7/\H6 D=none) (λQ q=>by symm;exact q) (aA.of GD.l) ?_ ?_ ?_ ?_
   ·intro D hD;exact⟨none,rfl,rfl,aE,aj.put hD,hD⟩
   ·rintro D i ys aB H7 ⟨u,rfl,rfl,e1,e2,e3⟩;refine⟨e1,gi ?_,aA.of (e2 _ _ GD.l)⟩;rw[aM,aM,dw];lia
   ·rintro D i y ys aB H7 N hN hy ⟨u,rfl,rfl,e1,e2,e3⟩;obtain⟨dp,iG,rfl⟩:=c9 hy;have hi:i<es.length:=by rw[← en];exact cJ iG
    obtain⟨jT,ap,la,ts,mk,b',cA,su⟩:=GD.t i dp es[i] iG (aV hi);have dY:=(su.same e2).o;unfold m_ at dY;wp_walk using T,dY;refine⟨e1,hN _ _ _ ⟨_,?_,rfl,aE,aj.put2 e2 e3,e3⟩⟩;rw[take_succ_get (aV hi),cj,cj];rfl
   ·rintro D ys aB H7 ⟨u,rfl,rfl,e1,e2,e3⟩;rw[aM,en,cZ] at e1;refine⟨D,rfl,_,.inl ⟨aA.of e1,λpn npn pu GF=>?_⟩⟩;have t7:=(aj.put (o:=.tup ((es.map (·.n)).map V.int)) npn).trans (aj.put (o:=.tup [V.str "cannot",V.ref pn,V.ref lv]) GF);exact q pu _ ((k2.trans k6).trans (e2.trans t7)) (.inr ⟨pn,lv,cu,es,aE,aj.put GF _ _ aE,uB.same (e2.trans t7),cn⟩)
  ·refine ite_yes (λz=>nomatch z) λpu GF=>?_;have t:=aj.put (o:=.tup [V.str "order",V.ref po]) GF;exact q pu _ (s1.trans t) (.inl ⟨po,o,aE,t _ _ jy,ho⟩)
theorem anp:bq P w K mg base bF 19 A.P4 A.P5 [%[|17]] (Et K [(A.bE,A.bf)]):=by
 have RT:= ~~~aaZ;have R8:= ~~~ank;have nO:= ~~~QV;have RU:= ~~~aa4;have anq:= ~~~amX;have R9:= ~~~am_;exists T.alb.ok kR
 ·obtain⟨a,ns,rfl,_⟩:=h
  rfl
 ·obtain⟨a,ns,rfl,hS,hl,tabs,q⟩:=h;have tab:=tabs (A.bE,A.bf) (by simp)
  have kh:_+16<cLine:=qE (sN (by decide:16<=64) _) hr.units
  refine⟨_,%[bY (xx (bu anq nofun rfl T.ak3 T.Z_.kp T.ak2 .nil aN %[aa 0,ao|0]) (kr rfl (dX (bA (i:=1) kR.nd rfl OL_) (dX (bA (i:=2) kR.nd rfl OL_) (dX (bA (i:=3) kR.nd rfl OL_) (dX (bA (i:=4) kR.nd rfl OL_) (dX (bA (i:=5) kR.nd rfl (Or.inr rfl)) (dX (bA (i:=6) kR.nd rfl (Or.inr rfl)) kq)))))))),bY (a_ (i:=7) kR.nd rfl OL_ (bu nO nofun rfl T.qu T.o7.kp T.qt .nil aN %[aa 0,ao|0])),bY (cF (PW.pt (uY (eF A7 (aF gc (aa 7) ao) ao (bB _)) (xu (cC (aiz kh) (aa 5) (fj au) (bB _))))) %[bY (a_ (i:=8) kR.nd rfl OL_ (aF gc (aF nH (aa 7) ao) (cB eZ rfl T.dN dZ %[aa 5|0]))),bY (xx (aF Ah (aF Ah (qR Ag (aI b_ (aa 5) (aa 8) %[|2]) qP (qQ ao)) (dB %[aa 4|0])) (qR Ag (aI b_ (aa 5) (aa 8) %[|2]) (qQ ao) qP)) (Iz (aa 5) (aa 8) set_list)),bY (xx (tF T.aar RT nofun rfl T.aas T.Y7 .nil aN %[aa 2,aI qT (aI b_ (aa 5) (aa 8) %[|2]) ao %[|2],bu RU nofun rfl T.Z0 T.Qj.kp T.ZZ .nil aN %[aI b_ (aa 5) (aa 8) %[|2],aF gc (aa 7) (aF qL ao ao)|0]|0]) (Iz (aa 6) (aa 8) set_list))|1] bW),bY (a_ (i:=9) kR.nd rfl (Or.inr rfl) (bu R8 nofun rfl T.Qe T.FU.kp T.Qd .nil aN %[aa 2,aa 3,aa 4,aa 6|0])),bY (cF (iB (gh (bu R9 nofun rfl T.Qs T.F_.kp T.Qq .nil aN %[aa 9,aa 1,aa 3,aa 4,aa 5|0]))) (aL (br eK)) bW),bY (cF (cC i_ (aI bM (aa 9) ao %[|2]) i8 (bB _)) (aL (br (Dm (iE i_ (aF gc (aa 7) ao) ao (bB _)) (oh (iE (D8 kh) (aa 5) (fj au) (bB _)))))) bW),bY (tV (i:=10) kR.nd rfl OL_ (N:=[%[|29], %[|19], %[|10]]) (nt:=1) (fv:=[9,5]) ‹cM.of› rfl (lR rfl T.gK %[cB eZ rfl T.dN dZ %[aa 5|0]|0]) (λC s H fp=>(bA (i:=0) (show List.Nodup ([%[|29], %[|19], %[|10]]:List Str) by decide +kernel) rfl OL_)) (λC s H fp=>(jS (cC (J5 (K:=K) rfl) (aI (aep (K:=K) rfl) (aI (uf (K:=K) rfl) (aa 2) (aa 0) %[|2]) ao %[|2]) (aI (j_ (K:=K) rfl) (aa 1) ao %[|2]) rfl))) (λC s H fp=>(aa 0))),bY (a_ (i:=11) kR.nd rfl OL_ (bu R8 nofun rfl T.Qe T.FU.kp T.Qd .nil aN %[aa 2,aa 3,aa 4,gq (N:=[%[|29], %[|70]]) (nt:=1) (fv:=[6]) ‹cM.of› rfl (cS (aa 10)) (λC s H fp=>(bA (i:=0) (show List.Nodup ([%[|29], %[|70]]:List Str) by decide +kernel) rfl OL_)) (λC s H fp=>jR) (λC s H fp=>(aI (uf (K:=K) rfl) (aa 1) (aa 0) %[|2]))|0])),bY (cF (iB (gh (bu R9 nofun rfl T.Qs T.F_.kp T.Qq .nil aN %[aa 11,aa 1,aa 3,aa 4,gq (N:=[%[|29], %[|10]]) (nt:=1) (fv:=[5]) ‹cM.of› rfl (cS (aa 10)) (λC s H fp=>(bA (i:=0) (show List.Nodup ([%[|29], %[|10]]:List Str) by decide +kernel) rfl OL_)) (λC s H fp=>jR) (λC s H fp=>(aI (uf (K:=K) rfl) (aa 1) (aa 0) %[|2]))|0]))) (aL (br eK)) bW),bY (cF (cC vg (aI bM (aa 11) ao %[|2]) i8 (bB _)) (aL (br eK)) bW),c8 c7 rfl (cS (aa 10)) (bA (i:=12) kR.nd rfl (Or.inr rfl))
   %[bY (tV (i:=13) kR.nd rfl OL_ (N:=[%[|29], %[|111]]) (nt:=1) (fv:=[12]) ‹cM.of› rfl (cS (aa 10)) (λC s H fp=>(bA (i:=0) (show List.Nodup ([%[|29], %[|111]]:List Str) by decide +kernel) rfl OL_)) (λC s H fp=>(jS (eF vY (aa 0) (aa 1) (bB _)))) (λC s H fp=>(aa 0))),bY (a_ (i:=14) kR.nd rfl OL_ (bu R8 nofun rfl T.Qe T.FU.kp T.Qd .nil aN %[aa 2,aa 3,aa 4,gq (N:=[%[|29], %[|70]]) (nt:=1) (fv:=[6]) ‹cM.of› rfl (cS (aa 13)) (λC s H fp=>(bA (i:=0) (show List.Nodup ([%[|29], %[|70]]:List Str) by decide +kernel) rfl OL_)) (λC s H fp=>jR) (λC s H fp=>(aI (uf (K:=K) rfl) (aa 1) (aa 0) %[|2]))|0])),bY (cF (iB (gh (bu R9 nofun rfl T.Qs T.F_.kp T.Qq .nil aN %[aa 14,aa 1,aa 3,aa 4,gq (N:=[%[|29], %[|10]]) (nt:=1) (fv:=[5]) ‹cM.of› rfl (cS (aa 13)) (λC s H fp=>(bA (i:=0) (show List.Nodup ([%[|29], %[|10]]:List Str) by decide +kernel) rfl OL_)) (λC s H fp=>jR) (λC s H fp=>(aI (uf (K:=K) rfl) (aa 1) (aa 0) %[|2]))|0]))) (aL (br eK)) bW),cF (cC vg (aI bM (aa 14) ao %[|2]) i8 (bB _)) (aL (br eK)) bW|1],br eK|1],?_⟩
  refine b7 λN1 k1=>?_;walk_at "rdt";refine⟨a,ns,5,rfl,hS,hl,⋯,⋯,⟨#[],tab,trivial,.inl rfl⟩,λt sa p r b kl dl z ak sk sw nc ks ds H0 H1 ht jC st GG yH=>?_⟩
  refine⟨t,rfl,_,aK.of ht,rfl,_,_,rfl,_,_,rfl,_,_,rfl,_,_,rfl,_,_,rfl,_,_,rfl,rfl,k1 _ _ ?_⟩;clear k1 N1;refine b7 λN2 k2=>?_;walk_at "rdt";obtain⟨bH,hk⟩:=st.kn;obtain⟨ps,hd⟩:=st.du;refine⟨a,ns,13,rfl,yH.seq jC,hl,⋯,k2 _ _ ?_⟩
  clear k2 N2;generalize fY ns 13=at';refine b7 λN3 k3=>?_;have fin:∀(kv:Option V) (H2:Hp) (bH ps:_A) (ks:List Kn) (ds:List Dr),mw K [A.bK,A.bG] A.bX A.cG H2 sa p r kl dl z ak sk sw nc bH ps ks ds->((at' % 2=1\/ks = [])\/¬ ∃o,dH (bJ z ak sk sw nc) ds [] (r,b) o)->N3 [⇑a,⇑sa,⇑p,↥r,↥b,⇑kl,⇑dl,↥at',kv,none,none,none,none,none,none] H2:=by
   intro kv H2 bH ps ks ds lt bad;refine k3 _ _ ?_;clear k3 N3;refine b7 λN4 k4=>?_;walk_at "rdt";obtain⟨C,fp,pd⟩:=lt.pd;refine⟨C,p,dl,_,fp,ps,ds,r,b,rfl,pd,λu H3 s3 it=>k4 _ _ ?_⟩;clear k4 N4;refine b7 λN5 k5=>?_;walk_at "rdt";refine⟨u,sa,kl,z,ak,sk,sw,nc,r,b,ks,ds,rfl,(lt.same s3).lk,lt.kd,it,λH4 s4=>⟨true,rfl,ite_no (by simp) (k5 _ _ ?_)⟩⟩
   clear k5 N5;have wF:=s3.trans s4;have B7:=lt.same wF;have dg:=lt.kn.n;have rY:=lt.du.n;refine b7 λN6 k6=>?_;walk_at "rdt";rcases it with⟨po,o,hu,jy,ho⟩ | ⟨pn,lv,cu,bR,hu,GB,uB,cn⟩
   ·refine⟨_,aK.of (s4 _ _ hu),_,rfl,rfl,ite_yes rfl (cK (λ_=>q _) λh1 pe B0=>⟨_,aA.of (aj.put B0 _ _ B7.kn.l),aA.of aE,?_⟩)⟩;rcases bad with(z | z) | z
    ·exact absurd z h1
    ·rw[z] at dg;rw[uH.mp dg];exact q _
    ·exact absurd ⟨o,ho⟩ z
   ·refine⟨_,aK.of (s4 _ _ hu),_,rfl,rfl,ite_no (λz=>by injection z with z;exact absurd z ⋯) (k6 _ _ ?_)⟩
    clear k6 N6;have hu4:=s4 _ _ hu;have anr:=s4 _ _ GB;refine b7 λN7 k7=>?_;walk_at "rdt";have n7:=lt.n7;refine AD ks.length (λD i ys aB H5=>∃v:Option V,ys=iV (qq ks (bR.map (·.n)) i)/\aB = [v,⇑u,⇑kl]/\H5 D=some (.lst ys)/\aj H4 H5/\H4 D=none/\i<=ks.length) (λQ q=>?_) ∅ ∅ ?_ ?_ ?_ ?_
    ·walk_at "rdt";refine⟨_,.inl B7.kn.sq,?_⟩;rw[aM,dg];exact q
    ·intro D hD;exact⟨none,rfl,rfl,aE,aj.put hD,hD,eW _⟩
    ·rintro D i ys aB H5 ⟨v,rfl,rfl,e1,e2,e3,e4⟩;refine⟨e1,gi ?_⟩;have:=YK (p:=λk:Kn=>decide (k.n∈bR.map (·.n))) (l:=ks) (n:=i);unfold iV qq;rw[aM];lia
    ·rintro D i ys aB H5 N hN hi ⟨v,rfl,rfl,e1,e2,e3,e4⟩;have fS:i<ks.length:=by lia
     obtain⟨a',b',cl,aX,ha,hK⟩:=(B7.kn.same e2).at fS;have es:=aiH (λk:Kn=>decide (k.n∈bR.map (·.n))) ks i;rw[aV fS,zD] at es;generalize ks[i] = k at hK es;walk_at "rdt";refine⟨_,(B7.kn.same e2).sq,_,lV ha,a',rfl,_,aK.of hK.o,_,rfl,_,aK.of (e2 _ _ hu4),_,rfl,pn,rfl,_,.inr (aK.of (e2 _ _ anr)),rfl,rq _,cK (λg1=>⟨e1,hN _ _ _ ⟨_,?_,rfl,aE,aj.put2 e2 e3,e3,fS⟩⟩) λg1=>hN _ _ _ ⟨_,?_,rfl,e1,e2,e3,fS⟩⟩
     ·rw[lB] at g1;unfold qq iV;rw[es,if_pos g1,cj];rfl
     ·rw[lB] at g1;unfold qq;rw[es,if_neg g1,jF]
    ·rintro D ys aB H5 ⟨v,rfl,rfl,e1,e2,e3,_⟩;rw[Int.toNat_natCast] at e1;refine k7 _ _ ?_;clear k7 N7;have yZ:=B7.same e2;have pk:=aiJ ks (bR.map (·.n));have GH:=aiK lt.kd.kd cn.sb;have sy:=lt.kd.some cn.sb;have cg:∀i∈qq ks (bR.map (·.n)) ks.length,i<ks.length:=λi h=>aiw h;have mC:(qq ks (bR.map (·.n)) ks.length).length<=ks.length:=YK;have dkn:=lt.kd.kd.n;generalize qq ks (bR.map (·.n)) ks.length=is at e1 pk GH cg mC;have ssb:(nF ks (bR.map (·.n))).Sublist ks:=pG;refine b7 λN8 k8=>?_;walk_at "rdt";refine Fb D dl is ps rfl rfl e1 yZ.du.l (λi h=>by have:=cg i h;lia) ∅ λD2 H6 s6 nD2 kg=>?_
     have R_:=yZ.du.pick (λi h=>by have:=cg i h;lia) s6 kg
     rw[GH] at R_;have Gv:=wF.trans (e2.trans s6);refine⟨C,p,D2,_,fp,_,bR,r,b,rfl,(pd.same Gv).some cn.sb R_,λu2 H7 s7 it2=>k8 _ _ ?_⟩;clear k8 N8;have GI:=s6.trans s7;refine b7 λN9 k9=>?_;walk_at "rdt";refine Fb D kl is bH rfl rfl (GI _ _ e1) (GI _ _ yZ.kn.l) (λi h=>by have:=cg i h;lia) ∅ λD3 H8 s8 nD3 Ro=>?_
     have uC:=(yZ.kn.same GI).pick cg s8 Ro;rw[pk] at uC;have s58:=GI.trans s8;have lt8:=yZ.part s58 uC (R_.same (s7.trans s8)) sy ssb;refine⟨u2,sa,D3,z,ak,sk,sw,nc,r,b,_,bR,rfl,lt8.lk,sy,it2.same s8,λH9 s9=>⟨true,rfl,ite_no (by simp) (k9 _ _ ?_)⟩⟩
     clear k9 N9;have Sa:=s58.trans s9;have it9:=it2.same (s8.trans s9);rcases it9 with⟨po,o,_,_,ho⟩ | ⟨pn2,lv2,GC,ds2,ux,_,_,_⟩
     ·exact absurd ⟨o,ho⟩ cn.n
     refine b7 λN10 Rl=>?_;walk_at "rdt";refine⟨_,aK.of ux,_,rfl,rfl,ite_no (λz=>z rfl) (Rl _ _ ?_)⟩;clear Rl N10;have lt9:=yZ.same Sa;have Sd:=Sa _ _ e1;have Ig:=pd.hc;walk_at "rdt";refine rl D (iV is) (λi σ H'=>∃x y w,σ = [⇑a,⇑sa,⇑p,↥r,↥b,⇑kl,⇑dl,↥at',kv,⇑u,⇑D,⇑u2,x,y,w]/\aj H9 H') (λQ q=>q) (aA.of Sd) ⟨none,none,none,rfl,aj.refl _⟩ (by rintro i σ H' _ ⟨_,_,_,rfl,s'⟩;exact aA.of (s' _ _ Sd)) ?_ ?_
     ·rintro i x σ H' N hN hx ⟨x0,y0,w0,rfl,s'⟩;obtain⟨m,hm,rfl⟩:=c9 hx;have AZ:=cg m (gz hm);have ji:=s' _ _ Sd;have lt':=lt9.same s';refine b7 λN11 k11=>?_;walk_at "rdt";refine iF D (iV is) (λD4 j ys aB HA=>∃v:Option V,ys=iV ((is.take j).filter λi => !decide (i=m))/\aB = [v,some (.int (m:Int))]/\HA D4=some (.lst ys)/\aj H' HA/\H' D4=none) (λQ q=>q) (aA.of ji) ?_ ?_ ?_ ?_
      ·intro D4 n4;exact⟨none,rfl,rfl,aE,aj.put n4,n4⟩
      ·rintro D4 j ys aB HA ⟨v,rfl,rfl,f1,f2,f3⟩;refine⟨f1,gi ?_,aA.of (f2 _ _ ji)⟩;have:=gW (λi => !decide (i=m)) (is.take j);rw[dw] at this;unfold iV;rw[aM];lia
      ·rintro D4 j x ys aB HA M hM hx ⟨v,rfl,rfl,f1,f2,f3⟩;obtain⟨m',lF,rfl⟩:=c9 hx;have et:=oW (p:=λi => !decide (i=m)) lF;walk_at "rdt";refine cK (λg1=>⟨f1,hM _ _ _ ⟨_,?_,rfl,aE,aj.put2 f2 f3,f3⟩⟩) λg1=>hM _ _ _ ⟨_,?_,rfl,f1,f2,f3⟩
       ·unfold iV;rw[et,if_pos (by simp;lia),cj];rfl
       ·rw[et,if_neg (by simp;lia),jF]
      ·rintro D4 ys aB HA ⟨v,rfl,rfl,f1,f2,f3⟩;rw[show (iV is).length=is.length from aM _,cZ] at f1;refine k11 _ _ ?_;clear k11 N11;have hdm:m<ds.length:=by lia
       have Se:=aV hdm;have GJ:=LA (f:=λd:Dr=>d.n) lt.kd.kd.nd Se (is:=is) λi h=>by have:=cg i h;lia
       have GK:=LA (f:=λk:Kn=>k.n) (ahP lt.kd.kd.up) (aV AZ) cg;rw[← (lt.kd.kd.e m _ _ (aV AZ) Se).1,pk] at GK;rw[GH] at GJ;have jY:ds[m]∈bR:=by
        rw[← GH];exact zq.mpr ⟨m,gz hm,Se⟩
       generalize ds[m] = dm at GJ GK jY;have kd2:=sy.Yy λn => !decide (n=dm.n);have hit:=cn.e dm jY;have B8:∀i∈is.filter (λi => !decide (i=m)),i<ks.length:=λi h=>cg i (cY.mp h).1;have ans:(is.filter λi => !decide (i=m)).length<=is.length:=gW _ _;generalize is.filter (λi => !decide (i=m))=is2 at f1 GJ GK B8 ans;have l_:(bR.filter λx => !decide (x.n=dm.n)).Sublist ds:=pG.trans cn.sb;have B9:=lt'.same f2;refine b7 λN12 k12=>?_;walk_at "rdt";refine Fb D4 dl is2 ps rfl rfl f1 B9.du.l (λi h=>by have:=B8 i h;lia) ∅ λD5 HB sB nD5 hD5=>?_
       have Sf:=B9.du.pick (λi h=>by have:=B8 i h;lia) sB hD5
       rw[GJ] at Sf;have y9:=(pd.same (((wF.trans e2).trans (Sa.trans s')).trans (f2.trans sB))).some l_ Sf;refine⟨C,p,D5,_,fp,_,_,r,b,rfl,y9,λu3 HC sC it3=>k12 _ _ ?_⟩;clear k12 N12;have B_:=sB.trans sC;refine b7 λN13 k13=>?_;walk_at "rdt";refine Fb D4 kl is2 bH rfl rfl (B_ _ _ f1) (B_ _ _ B9.kn.l) (λi h=>by have:=B8 i h;lia) ∅ λD6 HD sD nD6 B3=>?_
       have hkD:=(B9.kn.same B_).pick B8 sD B3;rw[GK] at hkD;have ltD:=B9.part (B_.trans sD) hkD (Sf.same (sC.trans sD)) kd2 (pG.trans ssb);refine⟨u3,sa,D6,z,ak,sk,sw,nc,r,b,_,_,rfl,ltD.lk,kd2,it3.same sD,λHE sE=>⟨true,rfl,ite_no (by simp) (k13 _ _ ?_)⟩⟩
       clear k13 N13;rcases it3.same (sD.trans sE) with⟨po,o,hu3,_,_⟩ | ⟨_,_,_,_,_,_,_,cn3⟩
       ·walk_at "rdt";exact⟨_,aK.of hu3,_,rfl,rfl,ite_no (λz=>z rfl) (hN _ _ ⟨_,_,_,rfl,s'.trans (f2.trans (B_.trans (sD.trans sE)))⟩)⟩
       ·exact absurd hit (cn3.no y9.ok y9.hc y9.nd ⟨y9.r0,y9.r1⟩)
     ·rintro σ H' ⟨x0,y0,w0,rfl,s'⟩;walk_at "rdt";exact q _
  walk_at "rdt";refine cK (λh0=>?_) λh0=>fin _ _ _ _ _ _ (st.lt hk hd) (.inl (.inl ∅))
  intro pe B0;have se:=aj.put (o:=.lst []) B0;have dg:=hk.n;refine⟨_,aA.of (se _ _ hk.l),aA.of aE,cK (λh1=>?_) λh1=>fin _ _ _ _ _ _ ((st.lt hk hd).same se) (.inl (.inr ?_))⟩
  ·generalize upd H1 pe (.lst [])=H2 at se ⊢;have ok:=st.ok;have fP:=hk.same se;have hd2:=hd.same se;have n0:0<ks.length:=by
    cases bH with
    | nil=>cases h1
    | cons x xs=>rw[← dg];exact zC _
   have i0:=fR (at' / 2) (show (ks.length:Int)≠0 by lia)
   have i1:=fQ (at' / 2) (show 0<(ks.length:Int) by lia)
   refine YH λN5 k5=>?_;walk_at "rdt";refine⟨_,.inl (aA.of fP.l),by rw[aM,dg];lia,k5 _ _ ?_⟩
   clear k5 N5;rw[aM,dg];generalize at' / 2 % (ks.length:Int)=iz at i0 i1 ⊢;obtain⟨i,rfl⟩:∃i:Nat,iz=i:=⟨iz.toNat,∅⟩
   have hi:i<ks.length:=by lia
   obtain⟨a',b',cl,aX,ha,hK⟩:=fP.at hi;have jE:=ok.ok ks[i] (dU hi);have kL:=aK.of (K:=K) hK.o;generalize hki:ks[i] = k at hK jE kL;have hks:ks[i]? = some k:=by rw[← hki];exact aV hi
   refine b7 λN6 k6=>?_;walk_at "rdt";refine⟨_,aA.of fP.l,_,lV ha,a',_,rfl,kL,by simp[_H.bU],λc1 Gk=>?_⟩
   rw[W_];have s3:=aj.put (o:=.tup [V.int k.n,V.int k.f,V.int k.m,V.bl k.w,V.ref b']) Gk;have yL:upd H2 c1 (.tup [V.int k.n,V.int k.f,V.int k.m,V.bl k.w,V.ref b']) c1=some (.tup [V.int k.n,V.int k.f,V.int k.m,V.bl k.w,V.ref b']):=aE;generalize upd H2 c1 (.tup [V.int k.n,V.int k.f,V.int k.m,V.bl k.w,V.ref b'])=H3 at s3 yL ⊢;intro p1 iH;have s4:=aj.put (o:=.tup [V.int b]) iH;have kQ:upd H3 p1 (.tup [V.int b]) p1=some (.tup [V.int b]):=aE;generalize upd H3 p1 (.tup [V.int b])=H4 at s4 kQ ⊢;refine⟨c1,rfl,_,aK.of (s4 _ _ yL),_,aK.of kQ,by simp,by simp,λe=>by simp at e,λ_ p2 kU=>?_⟩
   have s5:=aj.put (o:=.tup ([V.int k.n,V.int k.f,V.int k.m,V.bl k.w,V.ref b']++[V.int b])) kU;have gP:upd H4 p2 (.tup ([V.int k.n,V.int k.f,V.int k.m,V.bl k.w,V.ref b']++[V.int b])) p2=some (.tup ([V.int k.n,V.int k.f,V.int k.m,V.bl k.w,V.ref b']++[V.int b])):=aE;generalize upd H4 p2 (.tup ([V.int k.n,V.int k.f,V.int k.m,V.bl k.w,V.ref b']++[V.int b]))=H5 at s5 gP ⊢;have uy:=s3.trans (s4.trans s5);refine⟨_,(fP.same uy).sq,_,lV ha,a',_,rfl,uy.gS kL,by simp[_H.bU],λp3 nN=>?_⟩
   rw[Xa];have s6:=aj.put (o:=.tup [V.ref cl]) nN;have yM:upd H5 p3 (.tup [V.ref cl]) p3=some (.tup [V.ref cl]):=aE;generalize upd H5 p3 (.tup [V.ref cl])=H6 at s6 yM ⊢
   try walk_at "rdt"
   refine⟨_,aK.of (s6 _ _ gP),_,aK.of yM,by simp,by simp,λe=>by simp at e,λ_ p4 pA=>?_⟩
   have s7:=aj.put (o:=.tup ([V.int k.n,V.int k.f,V.int k.m,V.bl k.w,V.ref b']++[V.int b]++[V.ref cl])) pA;have kW:=(uy.trans s6).trans s7;have wA:gF (upd H6 p4 (.tup ([V.int k.n,V.int k.f,V.int k.m,V.bl k.w,V.ref b']++[V.int b]++[V.ref cl]))) p4 { k with f_:=some b } b' cl aX:=⟨aE,kW _ _ hK.b,hK.c.same kW⟩;generalize upd H6 p4 (.tup ([V.int k.n,V.int k.f,V.int k.m,V.bl k.w,V.ref b']++[V.int b]++[V.ref cl]))=H7 at kW wA ⊢;clear s7 s6 uy s5 s4 s3 kQ gP yM yL iH kU nN Gk pA;have Sg:=fP.same kW;have hd7:=hd2.same kW;have ck:∀k∈ks,k.c≠[]:=λk h=>(ok.ok k h).ne;have Sh:ks≠[]:=λz=>by rw[z] at n0;exact absurd n0 (lO 0)
   have dn:=st.dk.1;have Si:ds≠[]:=λz=>by rw[z] at dn;exact Sh (uH.mp dn.symm)
   have lt0:=st.lt hk hd;have cd:∀d∈ds,d.c≠[]:=λd h=>by
    obtain⟨j,k,e1,e2⟩:=lt0.kd.kd.at h;rw[(lt0.kd.kd.e j k d e1 e2).2];exact ck k (get_mem e1)
   refine⟨_,Sg.l,i,KD (by rw[aM];lia),k6 _ _ ?_⟩
   clear k6 N6;rw[← List.map_set];have uC:=Sg.put (i:=i) ck wA (ck k (get_mem hks)) Sh;have Gz:=hd7.aix cd Sg Sh Si (xs:=(bH.set i p4).map V.ref);have s8:aj H0 (upd H7 kl (.lst ((bH.set i p4).map V.ref))):=λb o e=>by rw[aJ (bT e GG.k)];exact kW _ _ (se _ _ (yH _ _ e))
   generalize upd H7 kl (.lst ((bH.set i p4).map V.ref))=H8 at uC Gz s8 ⊢;have Sj:i<(ks.set i { k with f_:=some b }).length:=by rw[kY];exact hi
   obtain⟨a8,b8,cl8,ant,ha8,Sk⟩:=uC.at Sj;rw[List.getElem_set_self] at Sk;refine YH λN7 k7=>?_;walk_at "rdt";have wG:ng nc { k with f_:=some b }:=⟨jE.f0,jE.m0,jE.m1,jE.fit,jE.c,jE.r,λx e=>by
    cases e;exact⟨st.b0,by have:=st.b1;lia⟩⟩
   have nn1:=st.nk.n1;refine⟨_,uC.sq,_,lV ha8,a8,rfl,_,aK.of Sk.o,_,rfl,_,uC.sq,_,lV ha8,⋯,a8,{ k with f_:=some b },b8,cl8,ant,_,nc,rfl,Sk,wG,∅,λaq ap mk bb RV H9 jj s9 Gm ha=>?_⟩
   intro x dx nx je gm;obtain⟨C,fp,hC,hP⟩:=GG.pl;have Sl:=hP.same (s8.trans s9);have iH:upd H9 dx (.own x) x=none:=by rw[aJ (fW gm)];exact nx
   have jD:=(aj.put (o:=.own x) je).trans (aj.put (o:=.ins A.cG dx []) iH);obtain⟨op,yW⟩:=Sl.here;have xp:x≠p:=(bT yW nx).symm;have xf:x∉fp:=λhb=>by
    obtain⟨ob,A2⟩:=Sl.has hb;exact bT A2 nx rfl
   have o1:=jE.m0;have o2:=jE.m1;refine⟨C,x,p,ap,dx,k.n,bJ z ak sk sw nc,fp,aq,mk,bb,RV,rfl,aE,hC,Sl.same jD,xp,xf,ha.same jD,⟨by rw[jj.1];exact jE.f0,by rw[jj.2.1];show _<=k.m;lia,by rw[jj.2.1];show k.m<=_;lia,by rw[jj.1,jj.2.1];exact jE.fit⟩,by show nc.length<=1000000;lia,λl ts H10 nl sb anu=>⟨rfl,?_⟩⟩
   have s10:aj H9 H10:=λb o e=>sb _ _ (jD _ _ e) (bT e nx);have Sm:=s9.trans s10;have So:=Gz.same Sm;have rY:=hd.n;refine⟨_,So.l,i,KD (by rw[aM];lia),k7 _ _ ?_⟩
   clear k7 N7;rw[← List.map_set];have due:yh nc { k with f_:=some b } ⟨k.n,aq,fF nc aq.first aq.many⟩:=⟨rfl,jj,by show fF nc aq.first aq.many=_;rw[jj.1,jj.2.1]⟩
   have dc':fF nc aq.first aq.many≠[]:=by
    have e:fF nc aq.first aq.many=k.c:=due.2.2.trans wG.c.symm;rw[e];exact ck k (get_mem hks)
   have anv:ks.set i { k with f_:=some b }≠[]:=λz=>by rw[z] at Sj;exact absurd Sj (uN _)
   have Sq:∀k'∈ks.set i { k with f_:=some b },ng nc k':=λk' h=>by
    rcases Hy h with h | h
    ·exact ok.ok k' h
    ·rw[h];exact wG
   have anw:=(uC.same Sm).dput (λk h=>(Sq k h).ne) So anv Si (xs:=(ps.set i x).map V.ref);have anx:=So.put (i:=i) cd ⟨_,_,_,_,_,_,_,anu⟩ dc' Si;have s11:aj H0 (upd H10 dl (.lst ((ps.set i x).map V.ref))):=λb o e=>by rw[aJ (bT e GG.d)];exact Sm _ _ (s8 _ _ e)
   obtain⟨za,bw,ca,rG,eB⟩:=GG.sp;have sy:mq (ks.set i { k with f_:=some b }) (ds.set i ⟨k.n,aq,fF nc aq.first aq.many⟩):=YF (nc:=nc) (by rw[kY,kY];exact dn) (λj k' d' e1 e2=>by
    by_cases c:j=i
    ·subst c;rw[sJ hi] at e1;rw[sJ ∅] at e2
     cases e1;cases e2;exact due
    ·rw[zm (fW c)] at e1 e2;exact st.dk.2 j k' d' e1 e2) Sq (List.pairwise_iff_getElem.mpr λj m hj hm lt=>by
    have nn:∀(j:Nat) (h:j<(ks.set i { k with f_:=some b }).length),((ks.set i { k with f_:=some b })[j]).n=(ks[j]'(by rw[kY] at h;exact h)).n:=λj h=>by
     by_cases c:i=j
     ·subst c;rw[List.getElem_set_self,hki]
     ·rw[List.getElem_set_ne c]
    rw[nn j hj,nn m hm];rw[kY] at hj hm;exact nT.mp ok.up j m hj hm lt)
   have lt':mw K [A.bK,A.bG] A.bX A.cG _ sa p r kl dl z ak sk sw nc _ _ _ _:=⟨⟨za,bw,ca,rG,eB.same s11⟩,st.wo,⟨C,fp,hC,hP.same s11⟩,st.r0,st.r1,anw,anx,by rw[kY];exact ok.n7,sy,λk h=>(Sq k h).cells st.nk st.wo⟩
   obtain⟨C',ni,pd⟩:=lt'.pd;have K3:(⟨k.n,aq,fF nc aq.first aq.many⟩:Dr)∈ds.set i ⟨k.n,aq,fF nc aq.first aq.many⟩:=List.mem_set ∅ _
   exact fin _ _ _ _ _ _ lt' (.inr (aiy st.wo pd.hc sy.kd.nd ⟨st.r0,st.r1⟩ K3 dc' jj.2.2.2.2))
  ·cases bH with
   | nil=>exact uH.mp dg.symm
   | cons x xs=>exact absurd rfl h1
end
theorem uD{C:List Value->Prop}(h:C []):∀us:List Value,us.length=0->C us:=λ| [],_=>h
theorem dJ{n:Nat}{C:List Value->Prop}(h:∀a us,us.length=n->C (a::us)):∀us:List Value,us.length=n+1->C us:=λ| a::us,e=>h a us (Nat.succ.inj e)
theorem usB{K:W.Frag}{fd:FuncData}{ps:List Str}{ds:List Value}(n:Nat)(e:n+ds.length=ps.length)(h:∀s,K.In s.heap->∀us:List Value,us.length=n->BindsTo s fd ⟨us,[]⟩ (ps.zip (us++ds))):Binds K fd ps ds:=λs us X hl=>h s X us (by rw[e7] at hl;lia)
theorem us1{C:List Value->Prop}(h:∀a0,C [a0]):∀us:List Value,us.length=1->C us:=dJ λa0=>uD (h a0)
theorem us2{C:List Value->Prop}(h:∀a0 a1,C [a0,a1]):∀us:List Value,us.length=2->C us:=dJ λa0=>dJ λa1=>uD (h a0 a1)
theorem wz{C:List Value->Prop}(h:∀a0 a1 a2,C [a0,a1,a2]):∀us:List Value,us.length=3->C us:=dJ λa0=>dJ λa1=>dJ λa2=>uD (h a0 a1 a2)
theorem us4{C:List Value->Prop}(h:∀a0 a1 a2 a3,C [a0,a1,a2,a3]):∀us:List Value,us.length=4->C us:=dJ λa0=>dJ λa1=>dJ λa2=>dJ λa3=>uD (h a0 a1 a2 a3)
theorem us5{C:List Value->Prop}(h:∀a0 a1 a2 a3 a4,C [a0,a1,a2,a3,a4]):∀us:List Value,us.length=5->C us:=dJ λa0=>dJ λa1=>dJ λa2=>dJ λa3=>dJ λa4=>uD (h a0 a1 a2 a3 a4)
theorem us6{C:List Value->Prop}(h:∀a0 a1 a2 a3 a4 a5,C [a0,a1,a2,a3,a4,a5]):∀us:List Value,us.length=6->C us:=dJ λa0=>dJ λa1=>dJ λa2=>dJ λa3=>dJ λa4=>dJ λa5=>uD (h a0 a1 a2 a3 a4 a5)
theorem us7{C:List Value->Prop}(h:∀a0 a1 a2 a3 a4 a5 a6,C [a0,a1,a2,a3,a4,a5,a6]):∀us:List Value,us.length=7->C us:=dJ λa0=>dJ λa1=>dJ λa2=>dJ λa3=>dJ λa4=>dJ λa5=>dJ λa6=>uD (h a0 a1 a2 a3 a4 a5 a6)
theorem anz{C:List Value->Prop}(h:∀a0 a1 a2 a3 a4 a5 a6 a7 a8 a9,C [a0,a1,a2,a3,a4,a5,a6,a7,a8,a9]):∀us:List Value,us.length=10->C us:=dJ λa0=>dJ λa1=>dJ λa2=>dJ λa3=>dJ λa4=>dJ λa5=>dJ λa6=>dJ λa7=>dJ λa8=>dJ λa9=>uD (h a0 a1 a2 a3 a4 a5 a6 a7 a8 a9)
noncomputable abbrev Nq_(K:W.Frag)(n:Str)(a:Addr):Prop:=W.nsIn K mainGlobals n=some (⇑a)
noncomputable abbrev No_(K:W.Frag)(n:Str):Prop:=W.nsIn K mainGlobals n=some none
noncomputable abbrev Ni_(K:W.Frag)(n:Str)(i:Int)(t:Tok):Prop:=W.nsIn K mainGlobals n=some (some (.int i t))
local macro_rules | `(tactic| walk_at "u1") => `(tactic| exact λ_ _ _ _ _ _=>us1 (λ_=>rfl))
local macro_rules | `(tactic| walk_at "u2") => `(tactic| exact λ_ _ _ _ _ _=>us2 %[|2])
local macro_rules | `(tactic| walk_at "u3") => `(tactic| exact λ_ _ _ _ _ _=>wz (λ_ _ _=>rfl))
local macro_rules | `(tactic| walk_at "u4") => `(tactic| exact λ_ _ _ _ _ _=>us4 (λ_ _ _ _=>rfl))
local macro_rules | `(tactic| walk_at "u5") => `(tactic| exact λ_ _ _ _ _ _=>us5 (λ_ _ _ _ _=>rfl))
local macro_rules | `(tactic| walk_at "u6") => `(tactic| exact λ_ _ _ _ _ _=>us6 (λ_ _ _ _ _ _=>rfl))
local macro_rules | `(tactic| walk_at "u7") => `(tactic| exact λ_ _ _ _ _ _=>us7 (λ_ _ _ _ _ _ _=>rfl))
local macro_rules | `(tactic| walk_at "u10") => `(tactic| exact λ_ _ _ _ _ _=>anz (λ_ _ _ _ _ _ _ _ _ _=>rfl))
theorem all_mk{l:W.OpenLaw}{w:World}{K:W.Frag}{h:Heap}{mg:Str->Option Value}{fa:Addr}{GL Ss Su Sv Sw GN GO GP GQ Sx Sy Sz GR SA SD SE SG SH SI SJ SK SM GS GU GV GW SN SO SQ SR SS SV SW SX SY S0 Ca Cb Cc Cd Ce Cf Cg Ci Cj Ck S3 S4 S5 GX S6 S7 GY S8 S9 S_ Tc Td Te Tf Tg Ti Tj Tn To Tp Tq Tr Tt Tu Tv Tw Tz TF TH TJ TL TM TN:Addr}{anA TQ anB anC TR anD anE aba anF TU:Option Addr}{anG anH anI anJ anK anL:Array (Option Value)}{anM TV TX TY GZ TZ anN anO T3 T4 T5 G0 T6 anP anQ abb abd abe G1 abf anR T7 T8 T9 G2 T_:Value}{anS anT:Nat}{abg abh:Tok}{fd0 fd1 fd2 fd3 fd4 fd7 fd8 fd9 abi abj abk abl abm abn abo abp abq abr abt abu abv abw abx aby abz abA abB abC abD abE abF abG abH abI abJ abK abL abM abN abO abP abQ abR abS abT abU abV abW abX abY abZ ab0 ab1 ab2 ab3 ab4 ab5 ab6 ab7 ab8 ab9 ab_ acd ace acf acg ach aci acj ack acm acn aco:FuncData}{bX:Addr}{cG:Addr}{c_:Addr}{bK:Addr}{bG:Addr}{Fz:Tok}{FA:Tok}{FD:Tok}{FE:Tok}{FF:Tok}{FG:Tok}{FH:Tok}{FI:Tok}{FJ:Tok}{FL:Tok}{FN:Tok}{FO:Tok}{FP:Tok}{FQ:Tok}{bE bf:Addr}{anU:Option Addr}{acp:Array Value}{anV:Array (Option Value)}(X:K.In h)(G:h.Ns mainGlobals mg)(hfa:mg "law" = ⇑fa)
  (anW:Nq_ K "Ask" bX)
  (anY:Nq_ K "Due" cG)
  (anZ:Nq_ K "Search" c_)
  (an0:Nq_ K "Plate" bK)
  (an1:Nq_ K "Mended" bG)
  (ax0:W.findIn K (.ref bX) %[|25] = some (⇑GL))
  (ix0:W.isFn K (.ref GL)=true)
  (F0:cX K %[|25] "Ask.__init__" LG GL fd0)
  (ax1:Nq_ K %[|48] Ss)
  (F1:aU K %[|48] LH Ss fd1)
  (ax2:Nq_ K %[|58] Su)
  (F2:aU K %[|58] LI Su fd2)
  (ax3:Nq_ K %[|59] Sv)
  (F3:aU K %[|59] LJ Sv fd3)
  (ax4:Nq_ K %[|74] Sw)
  (F4:aU K %[|74] LK Sw fd4)
  (ax5:Nq_ K %[|89] GN)
  (lx5:K.lookup GN=some ⟨anM,anA,.func (W.fnOf %[|89] %[|89] (jd nI) (gQ nI) (aZ nI) (.ref GO) TV TX TY TQ GZ TZ),anG⟩)
  (dx5:K.lookup GO=some ⟨anN,anB,.seq #[.int 0 abg,.none,.none] anS,anH⟩)
  (cx5:W.codeIn K GZ %[|89] = true)
  (kx5:W.keepIn K (.ref GN)=true)
  (ax6:Nq_ K %[|90] GP)
  (lx6:K.lookup GP=some ⟨anO,anC,.func (W.fnOf %[|90] %[|90] (jd nJ) (gQ nJ) (aZ nJ) (.ref GQ) T3 T4 T5 TR G0 T6),anI⟩)
  (dx6:K.lookup GQ=some ⟨anP,anD,.seq #[.int 0 abh,.none,.none,.bool false] anT,anJ⟩)
  (cx6:W.codeIn K G0 %[|90] = true)
  (kx6:W.keepIn K (.ref GP)=true)
  (ax7:Nq_ K "clash" Sx)
  (F7:aU K "clash" LL Sx fd7)
  (ax8:Nq_ K "stretch" Sy)
  (F8:aU K "stretch" LM Sy fd8)
  (ax9:Nq_ K %[|33] Sz)
  (F9:aU K %[|33] LN Sz fd9)
  (an2:W.findIn K (.ref cG) %[|25] = some (⇑GR))
  (an3:W.isFn K (.ref GR)=true)
  (F10:cX K %[|25] "Due.__init__" LO GR abi)
  (an4:Nq_ K %[|97] SA)
  (F11:aU K %[|97] LQ SA abj)
  (an5:Nq_ K "way" SD)
  (F12:aU K "way" LR SD abk)
  (an6:Nq_ K "way_end" SE)
  (F13:aU K "way_end" LS SE abl)
  (an7:Nq_ K "are_few" SG)
  (F14:aU K "are_few" LU SG abm)
  (an8:Nq_ K %[|112] SH)
  (F15:aU K %[|112] LV SH abn)
  (an9:Nq_ K %[|60] SI)
  (F16:aU K %[|60] LW SI abo)
  (an_:Nq_ K %[|61] SJ)
  (F17:aU K %[|61] LX SJ abp)
  (aoa:Nq_ K %[|75] SK)
  (F18:aU K %[|75] LY SK abq)
  (aob:Nq_ K %[|76] SM)
  (F19:aU K %[|76] LZ SM abr)
  (aoc:W.findIn K (.ref c_) %[|25] = some (⇑GS))
  (aod:W.isFn K (.ref GS)=true)
  (F20:cX K %[|25] "Search.__init__" L0 GS abt)
  (aoe:W.findIn K (.ref c_) %[|113] = some (⇑GU))
  (aof:W.isFn K (.ref GU)=true)
  (Ua:cX K %[|113] "Search.late_next" L1 GU abu)
  (aog:W.findIn K (.ref c_) %[|98] = some (⇑GV))
  (aoh:W.isFn K (.ref GV)=true)
  (Ub:cX K %[|98] "Search.order_from" L3 GV abv)
  (aoi:W.findIn K (.ref c_) %[|77] = some (⇑GW))
  (aoj:W.isFn K (.ref GW)=true)
  (Uc:cX K %[|77] "Search.leaves_from" L4 GW abw)
  (aok:Nq_ K %[|49] SN)
  (F24:aU K %[|49] L5 SN abx)
  (aol:Nq_ K %[|36] SO)
  (F25:aU K %[|36] L6 SO aby)
  (aom:Nq_ K "in_time" SQ)
  (F26:aU K "in_time" L7 SQ abz)
  (aon:Nq_ K %[|78] SR)
  (F27:aU K %[|78] L8 SR abA)
  (aoo:Nq_ K %[|50] SS)
  (F28:aU K %[|50] L_ SS abB)
  (aop:Nq_ K %[|79] SV)
  (F29:aU K %[|79] Ma SV abC)
  (aoq:Nq_ K %[|37] SW)
  (F30:aU K %[|37] Mb SW abD)
  (aor:Nq_ K %[|51] SX)
  (F31:aU K %[|51] Mc SX abE)
  (aos:Nq_ K %[|38] SY)
  (F32:aU K %[|38] Me SY abF)
  (aot:Nq_ K %[|39] S0)
  (F33:aU K %[|39] Mf S0 abG)
  (aou:W.findIn K (.ref bK) %[|25] = some (⇑Ca))
  (aov:W.isFn K (.ref Ca)=true)
  (Ud:cX K %[|25] "Plate.__init__" Mg Ca abH)
  (aow:W.findIn K (.ref bK) "rings" = some (⇑Cb))
  (acq:W.isFn K (.ref Cb)=true)
  (aox:W.findIn K (.ref bG) "rings" = some (⇑Cb))
  (G3:cX K "rings" "Plate.rings" Mh Cb abI)
  (aoy:W.findIn K (.ref bK) "total" = some (⇑Cc))
  (acr:W.isFn K (.ref Cc)=true)
  (aoz:W.findIn K (.ref bG) "total" = some (⇑Cc))
  (G4:cX K "total" "Plate.total" Mi Cc abJ)
  (aoA:W.findIn K (.ref bK) %[|80] = some (⇑Cd))
  (acs:W.isFn K (.ref Cd)=true)
  (aoB:W.findIn K (.ref bG) %[|80] = some (⇑Cd))
  (G5:cX K %[|80] "Plate.beats_of" Mj Cd abK)
  (aoC:W.findIn K (.ref bK) %[|54] = some (⇑Ce))
  (acu:W.isFn K (.ref Ce)=true)
  (aoD:W.findIn K (.ref bG) %[|54] = some (⇑Ce))
  (G6:cX K %[|54] "Plate.lap_beats" Ml Ce abL)
  (aoE:W.findIn K (.ref bK) "begins" = some (⇑Cf))
  (acv:W.isFn K (.ref Cf)=true)
  (aoF:W.findIn K (.ref bG) "begins" = some (⇑Cf))
  (G7:cX K "begins" "Plate.begins" Mm Cf abM)
  (aoG:W.findIn K (.ref bK) %[|81] = some (⇑Cg))
  (acw:W.isFn K (.ref Cg)=true)
  (aoH:W.findIn K (.ref bG) %[|81] = some (⇑Cg))
  (G8:cX K %[|81] "Plate.swing_of" Mn Cg abN)
  (aoI:W.findIn K (.ref bK) %[|82] = some (⇑Ci))
  (acy:W.isFn K (.ref Ci)=true)
  (aoJ:W.findIn K (.ref bG) %[|82] = some (⇑Ci))
  (G9:cX K %[|82] "Plate.has_cell" Mp Ci abO)
  (aoK:W.findIn K (.ref bK) %[|109] = some (⇑Cj))
  (acz:W.isFn K (.ref Cj)=true)
  (aoL:W.findIn K (.ref bG) %[|109] = some (⇑Cj))
  (G_:cX K %[|109] "Plate.cell_at" Mq Cj abP)
  (aoM:W.findIn K (.ref bK) %[|55] = some (⇑Ck))
  (acA:W.isFn K (.ref Ck)=true)
  (aoN:W.findIn K (.ref bG) %[|55] = some (⇑Ck))
  (Hf:cX K %[|55] "Plate.number_of" Mr Ck abQ)
  (aoO:Nq_ K %[|62] S3)
  (F44:aU K %[|62] Mt S3 abR)
  (aoP:Nq_ K %[|83] S4)
  (F45:aU K %[|83] Mu S4 abS)
  (aoQ:Nq_ K %[|84] S5)
  (F46:aU K %[|84] Mv S5 abT)
  (aoR:Nq_ K %[|16] GX)
  (aoS:K.lookup GX=some ⟨anQ,anE,.func (W.fnOf %[|16] %[|16] (jd iT) (gQ iT) (aZ iT) .none abb abd abe aba G1 abf),anK⟩)
  (aoT:W.codeIn K G1 %[|16] = true)
  (aoU:W.keepIn K (.ref GX)=true)
  (aoV:Nq_ K %[|46] S6)
  (F48:aU K %[|46] Mw S6 abU)
  (aoW:Nq_ K %[|52] S7)
  (F49:aU K %[|52] Mx S7 abV)
  (aoX:W.findIn K (.ref bG) %[|25] = some (⇑GY))
  (aoY:W.isFn K (.ref GY)=true)
  (F50:cX K %[|25] "Mended.__init__" My GY abW)
  (aoZ:Nq_ K %[|63] S8)
  (F51:aU K %[|63] Mz S8 abX)
  (ao0:Nq_ K %[|85] S9)
  (F52:aU K %[|85] MA S9 abY)
  (ao1:Nq_ K %[|99] S_)
  (F53:aU K %[|99] MB S_ abZ)
  (ao2:Nq_ K %[|114] Tc)
  (F54:aU K %[|114] MC Tc ab0)
  (ao3:Nq_ K %[|100] Td)
  (F55:aU K %[|100] MD Td ab1)
  (ao4:Nq_ K %[|115] Te)
  (F56:aU K %[|115] ME Te ab2)
  (ao5:Nq_ K %[|40] Tf)
  (F57:aU K %[|40] MF Tf ab3)
  (ao6:Nq_ K %[|86] Tg)
  (F58:aU K %[|86] MG Tg ab4)
  (ao7:Nq_ K %[|101] Ti)
  (F59:aU K %[|101] MH Ti ab5)
  (ao8:Nq_ K %[|102] Tj)
  (F60:aU K %[|102] MI Tj ab6)
  (ao9:Nq_ K "_law_ask" Tn)
  (F61:aU K "_law_ask" MJ Tn ab7)
  (ao_:Nq_ K %[|103] To)
  (F62:aU K %[|103] MK To ab8)
  (apa:Nq_ K %[|47] Tp)
  (F63:aU K %[|47] ML Tp ab9)
  (apb:Nq_ K %[|104] Tq)
  (F64:aU K %[|104] MM Tq ab_)
  (apc:Nq_ K %[|64] Tr)
  (F65:aU K %[|64] MN Tr acd)
  (apd:Nq_ K %[|116] Tt)
  (F66:aU K %[|116] MO Tt ace)
  (ape:Nq_ K %[|65] Tu)
  (F67:aU K %[|65] MP Tu acf)
  (apf:Nq_ K %[|53] Tv)
  (F68:aU K %[|53] MQ Tv acg)
  (apg:Nq_ K %[|105] Tw)
  (F69:aU K %[|105] MR Tw ach)
  (aph:Nq_ K %[|41] Tz)
  (F70:aU K %[|41] MS Tz aci)
  (api:Nq_ K %[|66] TF)
  (F71:aU K %[|66] MT TF acj)
  (apj:Nq_ K %[|106] TH)
  (F72:aU K %[|106] MU TH ack)
  (apk:Nq_ K %[|67] TJ)
  (F73:aU K %[|67] MV TJ acm)
  (apl:Nq_ K %[|34] TL)
  (F74:aU K %[|34] MW TL acn)
  (apm:Nq_ K %[|68] TM)
  (F75:aU K %[|68] MX TM aco)
  (acB:Nq_ K "law" TN)
  (apn:K.lookup TN=some ⟨anR,anF,.func (W.fnOf "law" "law" (jd nK) (gQ nK) (aZ nK) .none T7 T8 T9 TU G2 T_),anL⟩)
  (apo:W.codeIn K G2 "law" = true)
  (apq:W.keepIn K (.ref TN)=true)
  (apr:W.plainGet K bX Str.empty=true)
  (aps:W.hasDictIn K bX=true)
  (apt:W.plainOver K bX=true)
  (apu:W.findIn K (.ref bX) %[|56] = some (some (.builtin "object.__setattr__")))
  (apv:W.makesIn K bX=true)
  (apw:W.keepIn K (.ref bX)=true)
  (aai:W.findIn K (.ref bX) "kind" = some none)
  (aaj:W.findIn K (.ref bX) "first" = some none)
  (aak:W.findIn K (.ref bX) "many" = some none)
  (aal:W.findIn K (.ref bX) "marks" = some none)
  (aam:W.findIn K (.ref bX) "at" = some none)
  (aan:W.findIn K (.ref bX) "asker" = some none)
  (aao:W.findIn K (.ref bX) %[|42] = some none)
  (aap:W.findIn K (.ref bX) %[|30] = some none)
  (aaq:W.findIn K (.ref bX) "early" = some none)
  (apx:W.plainGet K cG Str.empty=true)
  (apy:W.hasDictIn K cG=true)
  (apz:W.plainOver K cG=true)
  (apA:W.findIn K (.ref cG) %[|56] = some (some (.builtin "object.__setattr__")))
  (apB:W.makesIn K cG=true)
  (apC:W.keepIn K (.ref cG)=true)
  (Ga:W.findIn K (.ref cG) %[|26] = some none)
  (aat:W.findIn K (.ref cG) "ask" = some none)
  (Qu:W.findIn K (.ref cG) "cells" = some none)
  (apD:W.plainGet K c_ Str.empty=true)
  (apE:W.hasDictIn K c_=true)
  (apF:W.plainOver K c_=true)
  (apG:W.findIn K (.ref c_) %[|56] = some (some (.builtin "object.__setattr__")))
  (apH:W.makesIn K c_=true)
  (apI:W.keepIn K (.ref c_)=true)
  (aaw:W.findIn K (.ref c_) %[|32] = some none)
  (aax:W.findIn K (.ref c_) "dues" = some none)
  (aay:W.findIn K (.ref c_) "kept" = some none)
  (aaz:W.findIn K (.ref c_) "failed" = some none)
  (apJ:W.plainGet K bK Str.empty=true)
  (apK:W.hasDictIn K bK=true)
  (apL:W.plainOver K bK=true)
  (apM:W.findIn K (.ref bK) %[|56] = some (some (.builtin "object.__setattr__")))
  (apN:W.makesIn K bK=true)
  (apO:W.keepIn K (.ref bK)=true)
  (Qv:W.findIn K (.ref bK) %[|15] = some none)
  (Qw:W.findIn K (.ref bK) "lap" = some none)
  (Qx:W.findIn K (.ref bK) "skew" = some none)
  (Qy:W.findIn K (.ref bK) %[|73] = some none)
  (Qz:W.findIn K (.ref bK) %[|13] = some none)
  (QA:W.findIn K (.ref bK) %[|24] = some none)
  (apP:W.plainGet K bG Str.empty=true)
  (apQ:W.hasDictIn K bG=true)
  (apR:W.plainOver K bG=true)
  (apS:W.findIn K (.ref bG) %[|56] = some (some (.builtin "object.__setattr__")))
  (apT:W.makesIn K bG=true)
  (apU:W.keepIn K (.ref bG)=true)
  (QB:W.findIn K (.ref bG) %[|15] = some none)
  (QC:W.findIn K (.ref bG) "lap" = some none)
  (QD:W.findIn K (.ref bG) "skew" = some none)
  (QE:W.findIn K (.ref bG) %[|73] = some none)
  (QF:W.findIn K (.ref bG) %[|13] = some none)
  (QG:W.findIn K (.ref bG) %[|24] = some none)
  (QH:W.findIn K (.ref bG) "moves" = some none)
  (apV:W.specialIn K (.ref bK) "__getattribute__" = some (some (.builtin "type.__getattribute__")))
  (apW:W.readsIn K bK (.type "type")=true)
  (apX:W.findCls K (.ref bK) (.type "type") %[|25] = some (.val (.ref Ca)))
  (isa:W.findIn K (.ref bG) "__class__" = some (some (.builtin "object.__class__")))
  (isb:W.specialIn K (.builtin "object.__class__") "__get__" = some (some (.builtin "getset_descriptor.__get__")))
  (isc:W.takesIn K (.builtin "object.__class__")=some true)
  (isd:W.mroIn K bG (.type "object")=some true)
  (ise:W.kitOne K (.ref bG) (.ref bK)=some true)
  (apY:Ni_ K "MOST_CELLS" 16 Fz)
  (apZ:Ni_ K "GREATEST_FIRST" 1000000 FA)
  (ap0:Ni_ K "GREATEST_MARK" 1000000000 FD)
  (ap1:Ni_ K "GREATEST_AT" 1000000000000 FE)
  (ap3:Ni_ K "GREATEST_ASKER" 20 FF)
  (ap4:Ni_ K %[|107] 10000000000000 FG)
  (ap5:Ni_ K %[|108] 99 FH)
  (ap6:Ni_ K "MOST_DUES" 7 FI)
  (ap7:Ni_ K "MOST_ZONES" 5 FJ)
  (ap8:Ni_ K %[|87] 40 FL)
  (ap9:Ni_ K %[|88] 60 FN)
  (ap_:Ni_ K "LEAST_RINGS" 2 FO)
  (aqa:Ni_ K "MOST_RINGS" 120 FP)
  (aqb:Ni_ K "MOST_BEATS" 1000000000 FQ)
  (Bx:No_ K "abs")
  (QI:No_ K "all")
  (QJ:No_ K "bool")
  (QK:No_ K "dict")
  (By:No_ K "enumerate")
  (yF:No_ K "int")
  (rW:No_ K "isinstance")
  (dN:No_ K "len")
  (rX:No_ K "list")
  (wk:No_ K "min")
  (gK:No_ K "range")
  (QL:No_ K "set")
  (yG:No_ K "sorted")
  (QM:No_ K "str")
  (QN:No_ K "sum")
  (o9:No_ K "tuple")
  (aqc:G1 = .ref bE)
  (ar_:K.lookup bE=some ⟨.type "code",anU,.fields acp,anV⟩)
  (asa:acp[11]? = ⇑bf)
  (aqd:W.codeHdIn K bE bf=true)
  (aqe:h.get? bf=some (W.tabObj #[]))
  : ∃(fd:FuncData) (tabs:List (Addr×Addr)),(∀(s:Shared) (v:Value),BindsTo s fd ⟨[v],[]⟩ [(%[|17],v)])/\W.TabsAt tabs h/\∀base:Heap,K.In base->base.Ns mainGlobals mg->(∀q∈tabs,bI mg base q.1 q.2)->bq l.prog w K mg base bF 19 fa fd [%[|17]] (Et K tabs):=by
 have e:=hfa.symm.trans (bN X G acB);cases e;have F5:=V5 (st:=nI) lx5 cx5 kx5;have F6:=V5 (st:=nJ) lx6 cx6 kx6;have F47:=fun_mk (st:=iT) aoS aoT aoU;have F76:=fun_mk (st:=nK) apn apo apq;have aqf:Binds K (W.fnOf %[|89] %[|89] (jd nI) (gQ nI) (aZ nI) (.ref GO) TV TX TY TQ GZ TZ) ["first", "many", "at", "asker", %[|42], %[|30]] []:=usB 6 rfl λs X=>us6 λ_ _ _ _ _ _=>W.binds_K X rfl dx5 rfl rfl rfl
 have aqg:Binds K (W.fnOf %[|90] %[|90] (jd nJ) (gQ nJ) (aZ nJ) (.ref GQ) T3 T4 T5 TR G0 T6) ["first", "marks", "at", "asker", %[|42], %[|30], "early"] []:=usB 7 rfl λs X=>us7 λ_ _ _ _ _ _ _=>W.binds_K X rfl dx6 rfl rfl rfl
 have mq_:=λ{n a} (h:Nq_ K n a)=>W.mg_of X G h
 let A:lI:=⟨GL,fd0,Ss,fd1,Su,fd2,Sv,fd3,Sw,fd4,GN,(W.fnOf "reading" "reading" (jd nI) (gQ nI) (aZ nI) (.ref GO) TV TX TY TQ GZ TZ),abg,GP,(W.fnOf "writing" "writing" (jd nJ) (gQ nJ) (aZ nJ) (.ref GQ) T3 T4 T5 TR G0 T6),abh,Sx,fd7,Sy,fd8,Sz,fd9,GR,abi,SA,abj,SD,abk,SE,abl,SG,abm,SH,abn,SI,abo,SJ,abp,SK,abq,SM,abr,GS,abt,GU,abu,GV,abv,GW,abw,SN,abx,SO,aby,SQ,abz,SR,abA,SS,abB,SV,abC,SW,abD,SX,abE,SY,abF,S0,abG,Ca,abH,Cb,abI,Cc,abJ,Cd,abK,Ce,abL,Cf,abM,Cg,abN,Ci,abO,Cj,abP,Ck,abQ,S3,abR,S4,abS,S5,abT,GX,(W.fnOf "nearest_rings" "nearest_rings" (jd iT) (gQ iT) (aZ iT) .none abb abd abe aba G1 abf),S6,abU,S7,abV,GY,abW,S8,abX,S9,abY,S_,abZ,Tc,ab0,Td,ab1,Te,ab2,Tf,ab3,Tg,ab4,Ti,ab5,Tj,ab6,Tn,ab7,To,ab8,Tp,ab9,Tq,ab_,Tr,acd,Tt,ace,Tu,acf,Tv,acg,Tw,ach,Tz,aci,TF,acj,TH,ack,TJ,acm,TL,acn,TM,aco,fa,(W.fnOf "law" "law" (jd nK) (gQ nK) (aZ nK) .none T7 T8 T9 TU G2 T_),bX,cG,c_,bK,bG,bE,bf,Fz,FA,FD,FE,FF,FG,FH,FI,FJ,FL,FN,FO,FP,FQ⟩
 have T:Tx K mg A:=⟨F0,F0.binds (by walk_at "u10"),F1,F1.binds (by walk_at "u4"),bN X G ax1,F2,F2.binds (by walk_at "u1"),bN X G ax2,F3,F3.binds (by walk_at "u6"),bN X G ax3,F4,F4.binds (by walk_at "u1"),bN X G ax4,F5,aqf,bN X G ax5,F6,aqg,bN X G ax6,F7,F7.binds (by walk_at "u2"),bN X G ax7,F8,F8.binds (by walk_at "u2"),bN X G ax8,F9,F9.binds (by walk_at "u3"),bN X G ax9,F10,F10.binds (by walk_at "u4"),F11,F11.binds (by walk_at "u4"),bN X G an4,F12,F12.binds (by walk_at "u4"),bN X G an5,F13,F13.binds (by walk_at "u4"),bN X G an6,F14,F14.binds (by walk_at "u1"),bN X G an7,F15,F15.binds (by walk_at "u1"),bN X G an8,F16,F16.binds (by walk_at "u2"),bN X G an9,F17,F17.binds (by walk_at "u1"),bN X G an_,F18,F18.binds (by walk_at "u2"),bN X G aoa,F19,F19.binds (by walk_at "u3"),bN X G aob,F20,F20.binds (by walk_at "u3"),Ua,Ua.binds (by walk_at "u4"),⟨aoe,aof,Ua.kp⟩,Ub,Ub.binds (by walk_at "u4"),⟨aog,aoh,Ub.kp⟩,Uc,Uc.binds (by walk_at "u4"),⟨aoi,aoj,Uc.kp⟩,F24,F24.binds (by walk_at "u4"),bN X G aok,F25,F25.binds (by walk_at "u4"),bN X G aol,F26,F26.binds (by walk_at "u4"),bN X G aom,F27,F27.binds (by walk_at "u1"),bN X G aon,F28,F28.binds (by walk_at "u3"),bN X G aoo,F29,F29.binds (by walk_at "u2"),bN X G aop,F30,F30.binds (by walk_at "u1"),bN X G aoq,F31,F31.binds (by walk_at "u1"),bN X G aor,F32,F32.binds (by walk_at "u2"),bN X G aos,F33,F33.binds (by walk_at "u1"),bN X G aot,Ud,Ud.binds (by walk_at "u5"),G3,G3.binds (by walk_at "u1"),⟨aow,acq,G3.kp⟩,⟨aox,acq,G3.kp⟩,G4,G4.binds (by walk_at "u1"),⟨aoy,acr,G4.kp⟩,⟨aoz,acr,G4.kp⟩,G5,G5.binds (by walk_at "u2"),⟨aoA,acs,G5.kp⟩,⟨aoB,acs,G5.kp⟩,G6,G6.binds (by walk_at "u1"),⟨aoC,acu,G6.kp⟩,⟨aoD,acu,G6.kp⟩,G7,G7.binds (by walk_at "u3"),⟨aoE,acv,G7.kp⟩,⟨aoF,acv,G7.kp⟩,G8,G8.binds (by walk_at "u3"),⟨aoG,acw,G8.kp⟩,⟨aoH,acw,G8.kp⟩,G9,G9.binds (by walk_at "u3"),⟨aoI,acy,G9.kp⟩,⟨aoJ,acy,G9.kp⟩,G_,G_.binds (by walk_at "u2"),⟨aoK,acz,G_.kp⟩,⟨aoL,acz,G_.kp⟩,Hf,Hf.binds (by walk_at "u3"),⟨aoM,acA,Hf.kp⟩,⟨aoN,acA,Hf.kp⟩,F44,F44.binds (by walk_at "u2"),bN X G aoO,F45,F45.binds (by walk_at "u2"),bN X G aoP,F46,F46.binds (by walk_at "u2"),bN X G aoQ,F47,F47.binds (by walk_at "u2"),bN X G aoR,F48,F48.binds (by walk_at "u4"),bN X G aoV,F49,F49.binds (by walk_at "u4"),bN X G aoW,F50,F50.binds (by walk_at "u7"),F51,F51.binds (by walk_at "u2"),bN X G aoZ,F52,F52.binds (by walk_at "u2"),bN X G ao0,F53,F53.binds (by walk_at "u2"),bN X G ao1,F54,F54.binds (by walk_at "u2"),bN X G ao2,F55,F55.binds (by walk_at "u2"),bN X G ao3,F56,F56.binds (by walk_at "u4"),bN X G ao4,F57,F57.binds (by walk_at "u4"),bN X G ao5,F58,F58.binds (by walk_at "u4"),bN X G ao6,F59,F59.binds (by walk_at "u3"),bN X G ao7,F60,F60.binds (by walk_at "u5"),bN X G ao8,F61,F61.binds (by walk_at "u2"),bN X G ao9,F62,F62.binds (by walk_at "u2"),bN X G ao_,F63,F63.binds (by walk_at "u1"),bN X G apa,F64,F64.binds (by walk_at "u1"),bN X G apb,F65,F65.binds (by walk_at "u2"),bN X G apc,F66,F66.binds (by walk_at "u5"),bN X G apd,F67,F67.binds (by walk_at "u1"),bN X G ape,F68,F68.binds (by walk_at "u2"),bN X G apf,F69,F69.binds (by walk_at "u2"),bN X G apg,F70,F70.binds (by walk_at "u1"),bN X G aph,F71,F71.binds (by walk_at "u4"),bN X G api,F72,F72.binds (by walk_at "u3"),bN X G apj,F73,F73.binds (by walk_at "u5"),bN X G apk,F74,F74.binds (by walk_at "u5"),bN X G apl,F75,F75.binds (by walk_at "u5"),bN X G apm,F76,F76.binds (by walk_at "u1"),bN X G acB,⟨apV,apW,apX,Ud.kp⟩,isa,isb,isc,isd,ise,⟨apr,aps,apt,apu⟩,⟨apv,ax0,ix0,apw⟩,bN X G anW,aai,aaj,aak,aal,aam,aan,aao,aap,aaq,⟨apx,apy,apz,apA⟩,⟨apB,an2,an3,apC⟩,bN X G anY,Ga,aat,Qu,⟨apD,apE,apF,apG⟩,⟨apH,aoc,aod,apI⟩,bN X G anZ,aaw,aax,aay,aaz,⟨apJ,apK,apL,apM⟩,⟨apN,aou,aov,apO⟩,bN X G an0,Qv,Qw,Qx,Qy,Qz,QA,⟨apP,apQ,apR,apS⟩,⟨apT,aoX,aoY,apU⟩,bN X G an1,QB,QC,QD,QE,QF,QG,QH,bN X G apY,bN X G apZ,bN X G ap0,bN X G ap1,bN X G ap3,bN X G ap4,bN X G ap5,bN X G ap6,bN X G ap7,bN X G ap8,bN X G ap9,bN X G ap_,bN X G aqa,bN X G aqb,jK X G Bx,jK X G QI,jK X G QJ,jK X G QK,jK X G By,jK X G yF,jK X G rW,jK X G dN,jK X G rX,jK X G wk,jK X G gK,jK X G QL,jK X G yG,jK X G QM,jK X G QN,jK X G o9,aqc⟩
 have hT:W.TabsAt [(bE,bf)] h:=by
  intro q hq;simp only[List.mem_cons,List.not_mem_nil,or_false] at hq;rcases hq with rfl
  ·exact⟨W.codeHd_of_K X aqd,aqe⟩
 exact⟨(W.fnOf "law" "law" (jd nK) (gQ nK) (aZ nK) .none T7 T8 T9 TU G2 T_),[(bE,bf)],λs v=>.of_eq rfl,hT,λbase _ _ hL=>anp T (hL (bE,bf) (by simp))⟩
end _W
/-! asb names are taken,so asd no fast copy is laid of the largest tables: the compiled file stays small -/
structure PySem.W.Fast:Prop where(tw11872815346117843521 tw12169324459838563491 tw402610329296351620 tw10376138339220394642 tw4471972483029131614 tw552032894868161849 tw2841572043364485025 tw17394714103043029380 tw1033107892273706901 tw12557947314784238887 tw16148766433305525326 tw5059459540665660268 tw10621353268349738424 tw1956205783272037775 tw4713960150552671140 tw5312245563923336850 tw10304998938567396275 tw7740055856139853809 tw2508500285333310841 tw16458670588545104998 tw6800772652830587706 tw11628574544615403068 tw14171740657822209568 tw2507747957985889886 tw3398229763051863438 tw17235028835250531279 tw8804837472356603157 tw6432402116366941502 tw12128439787377220088 tw8777099058366881844 tw510826292189495117 tw13181656047506226169 tw10280678317739474920 tw4362136674158500861 tw11009090258940445546 tw11455504220305725807 tw6711271672756423918 tw9990019730255799337 tw9012706760841952004 tw4653950568411550864 tw4606138969468068814 tw12578630843968516955 tw10150280578710007966 tw16915365021952673907 tw12944049130344163684 tw18168043793881960934 tw15763024601015734830 tw682584565442465659 tw10645151251312813714 tw11805800687147139950 tw10066523660204810000 tw18240255732241079384 tw11288162476877914731 tw9464722264717706078 tw4532182628392343087 tw14859241274527444108 tw4701618952418331452 tw1602147689569949231 tw15285613326040104602 tw14872087912704557740 tw4150233304770447123 tw10409558559601054121 tw14606517857224707895 tw11914086860047849254 tw9810754790321411933 tw14323482322071629843 tw17553691599991074565 tw9981953220093518685 tw8682224927991007259 tw546278338837764861 tw7620864306122391221 tw861012529880116436 tw11697582186536550703 tw13129226945126077605 tw2347578602836613619 tw4721537472505485884 tw892769346540965473 tw5061036283975342059 tw7757622069007938177 tw18386135877744438635 tw15707663369140516578 tw12248762670238297324 tw17396887192790265586 tw11362392639190344425 tw5585067162773451228 tw14277539856327124941 tw5921055627826786176 tw2408119932984861761 tw16994205987174326081 tw17870320162156787517 tw4476629799440890784 tw6848538096072405612 tw16162311410953988219 tw374253492357444881 tw3615155905057835355 tw2424306314126443071 tw987102155153176896 tw7126514384059162410 tw13782893168684561374 tw16907794270257270750 tw12142981467660876712 tw2024222319434457673 tw8826554283869312130 tw8319974208698233556 tw4418159170193281798 tw10435694125482086886 tw1231064924490526953 tw4967330296269584816 tw10360033708450338064 tw5429540707807157021 tw197169212091308629 tw14908293625342033333 tw17524352724132755295 tw529957534153664827 tw11393109547844885576 tw8515453048092921706 tw8285287017792804372 tw11809502221719600319 tw16469335691946122619 tw10814893289487448812 tw12755852613312650064 tw7799032997704297804 tw2819507153080940232 tw13799726101820833715 tw10023824583341305541 tw2565128352955272169 tw7532327221184391228 tw16980889678605040689 tw5088510625810470580 tw1574115211511658183 tw10118994398360027585 tw12473556738246970767 tw1357789864715259752 tw12529302506582816829 tw16362247227817748497 tw8771093302897812633 tw4446842002035110109 tw17487590161340775232 tw16942045847068530091 tw3190153944853002904 tw14892412958241229093 tw9298089043703812622 tw4024319884195351054 tw12257958351213462554 tw14801221939697528293 tw4553099027952568490 tw15563424469810771583 tw8480469799799496040 tw2869385715865328282 tw10347274370820096110 tw15667533002922139599 tw9346492450269220094 tw37525291140576378 tw5568225054287259421 tw1575759896709261226 tw6468422300391408629 tw1135369890650436893 tw13343824419085658719 tw11594828880356120379 tw16491889600855032623 tw12977917893285899237 tw16733040472420597828 tw15593555387447464493 tw11089152909808401698 tw9584380850584887477 tw11843705128108555815 tw4058541719048917463 tw9100989812991445532 tw4695398522021051112 tw18068982233583312632 tw3919132381198287614 tw11291799683468287972 tw54948490646863046 tw14189026184759456379 tw11497080250931015252 tw7135650423320428231 tw8607384811568132639 tw8043623338601268548 tw56768940031859310 tw16971845966658368945 tw18309926554981547219 tw14276230767526156524 tw13378969672957599430 tw9278818381445055913 tw5142629954620275982 tw6738627410715751964 tw13803566178211295500 tw13123412585286865320 tw12142494310983978086 tw2968560702365206423 tw12301259664810639387 tw2921232458596030605 tw9132591924361166377 tw8179464160808478957 tw16299199483938906319 tw10614177785092240617 tw12055012695086752771 tw16123217675591285768 tw17833234959520722487 tw16048620221487990344 tw15218845976587662023 tw10040015342087783625 tw5772066116852956012 tw6798146623835330972 tw159708924584268222 tw14071947591510831478 tw3335089257614659827 tw10171800296664406343 tw2041452538609496479 tw9620994948823932114 tw11559282567837408036 tw3773874020907530346 tw5087777129198625346 tw13239847049221583656 tw14770192612895101936 tw5150976626401376027 tw3272806557918566093 tw6211252534835011567 tw5899135104880416799 tw4279178641095054485 tw17704876778238842066 tw17805574975369721792 tw6230486194551694434 tw12817144069101253195 tw11241541800534448589 tw9664634465938190303 tw416135478789605712 tw13372003613682623838 tw2599624147238970009 tw15649621354451186499 tw17617630326955106670 tw4810946931606537843 tw5013784974322790645 tw11376412183989881398 tw603148595455718532 tw7913881963032867931 tw18050609291994329751 tw12376778989257289008 tw14659602914621812589 tw9938257774772167123 tw5919700994457588620 tw9588544205659744746 tw18138895039391181375 tw4526227961835987740 tw6217239504818630950 tw13639580465441051250 tw13112277063187354554 tw5717865388814588984 tw9056445962580720305 tw2444680089481737103 tw16482484693593191807 tw2668221597459007125 tw6252372772001674423 tw442686508087532366 tw11663863025545011121 tw3454110280610749483 tw3210319918475793813 tw18245881697730185239 tw13462299007932642863 tw16146513930264142665 tw2264022791106414168 tw2452532161684193326 tw8834268803993340192 tw4074640784210366362 tw17811884579186508159 tw11676901170593421543 tw5639592268174038361 tw17369369685102916454 tw7212511966493919925 tw15003863651808461297 tw3715853208680254202 tw9201343345462200151 tw11649392273160191582 tw12044212208163613016 tw5247777390701162768 tw7407523828555251576 tw3318999174063404209 tw16241305261533416524 tw728727700943359618 tw16689814305946987370 tw9048536321898216270 tw5398022836309028408 tw13528710329291571235 tw13283503579739507652 tw17284578649653101887 tw6274509914605538699 tw10204172455450812103 tw3086854240740536416 tw14990115763077100105 tw5746017589885608624 tw1410363243782461223 tw18148604260888084054 tw17324955518385280413 tw15465657306988506433 tw9149940909600124641 tw13885620606119814801 tw18196549368069599088 tw4541715506591783650 tw16688686719642850728 tw834036324014730800 tw10454928644735738948 tw9574109681250233486 tw2339634799656352479 tw2969129405709507151 tw5399629650676948666 tw15837415094711962083 tw7590845610639447812 tw7490449562379152786 tw17520458760853807729 tw6034586511164588676 tw8020169908864042830 tw14796088169504647516 tw932414330053934212 tw292548000637946134 tw10405861499715741607 tw9035813982824556542 tw8348522566601259770 tw15348513153870221425 tw6564040201408462707 tw5474202960955773184 tw10364557689210785647 tw10202815231480829614 tw12239792033856666829 tw1806000927689800161 tw6810435520786847886 tw13823683649061973746 tw6576162451667032963 tw180019187123972324 tw3897171623394833989 tw18168924840133228925 tw15025242143526935 tw16770183891587376931 tw1551099370457538176 tw2275151367232653845 tw15614300347248144943 tw4601759845601662598 tw2074234815586649806 tw15569622599832873894 tw11665286767013145569 tw1813865304448933205 tw15641761621857985153 tw17549152046954758585 tw17884840562397911733 tw6419780882829938991 tw4635912483484902777 tw7969360507600035989 tw2309568135244359225 tw4938518668895537490 tw6731549070981078268 tw9853249585266658556 tw16954520384671731561 tw4546467318152924371 tw17275704363749227121 tw10916270763794864512 tw304374169956524717 tw8199752958300406016 tw7942834303466747361 tw9642827356995006068 tw3659920547814410100 tw13295921807289981020 tw8029662728735572145 tw16714838904013953644 tw16423130485234422070 tw17004773678248332427 tw15990166633462541185 tw1203618463166722783 tw9932037749198843583 tw5245751413273419152 tw2296660742071430109 tw15588373787303938539 tw13072310062358113298 tw215004412985320828 tw12294396960114260238 tw17485314021558484009 tw9966353492195306588 tw17737706122787341167 tw9982393117894724344 tw18253519883697824153 tw17046441034930044683 tw7877672982963936794 tw17980223592802548726 tw5561036589662753811 tw16777610721340421343 tw5879750061268075171 tw907717649905368766 tw14082950856148193831 tw6421731371856096206 tw17188294322320539009 tw16791325218079875925 tw10804753754617083397 tw5805344948992132541 tw11541980010588851123 tw14133461993226530118 tw7408353140708656498 tw1328205243868927410 tw17794199272436209242 tw12631138064338271630 tw16884077010085667758 tw1697498373758242944 tw3253457195112571647 tw2982101428705598731 tw4051429140437786006 tw1144095291800056119 tw3953345828501608512 tw14085688177159915673 tw13861787882271557650 tw123197922200438716 tw2425982272100633414 tw15213459964723267363 tw5716953002881829048 tw4658033610993767821 tw6725937521031521905 tw3995172153440127132 tw5718645970936434771 tw6370334242146753723 tw2604207343087015421 tw4696173534510045349 tw1778855321287178367 tw11582665865082321779 tw9432799915028074966 tw5596322594186012686 tw1334851563180802990 tw3239534180634125490 tw4778926506165822861 tw11516199887992059569 tw13113661241158902897 tw3528104036593698381 tw3661595420143443464 tw14558161270178349651 tw16400127724760362659 tw15943447556088664901 tw6079802549550628526 tw10550576649647369881 tw15849985604969261619 tw4233021892489430784 tw13732725384909641060:True)
open PySem PySem.W PyProof.Rows
set_option maxHeartbeats 0 in
theorem PySem.Challenge.cw_armswing_k68_cannot_is_least_holds : PySem.Challenge.rw_armswing_k68_cannot_is_least.Holds := by
 w_on; o_law; k_head; (case hw => w_witness2)
 k_fill
 refine _L.walk_lawT (l := PySem.Challenge.rw_armswing_k68_cannot_is_least) (k := 19) (x := "_law_script") rfl rfl ⟨rfl, by decide, by decide⟩ (λw h Y => PySem.W.km_in_of Y) ?nt ?F
 case nt => intro w; first | k_is | rfl
 case F =>
  intro w mg fa h Y KX G hmg
  refine' _W.all_mk KX G hmg ..
  all_goals ((try unfold _W.Nq_); (try unfold _W.No_); (try unfold _W.Ni_); first | k_is | kit_is | k_exc | exact _L.fun_mk (by k_is) (by k_is) (by k_is) | rfl | exact PySem.W.km_tabs_of Y _ (by decide) | decide +kernel | kernel_rfl | skip)

import PyProof.Rows.All
import Wide.All
import OpenK.AllK
import Wide.FinOn
import Lean
import PyProof.EqAt
import PyProof.EqKinds
import PyProof.TupleCall
import PySem.Challenge.RW_tonguegate_k11_whole_read_back
section
variable{r:Prop}{α β γ δ ε η ι κ μ:Type}
section
variable{A B C D E F G H I J:Prop}
open PySem in abbrev xz:=Value→Shared→Prop
open PySem in abbrev ac:=Str→Option Value
open PySem in abbrev ad:=List (Addr×Obj)
theorem Ξ02(h:A∧B)(k:A→B→r):r:=k h.1 h.2
theorem Ξ03(h:A∧B∧C)(k:A→B→C→r):r:=k h.1 h.2.1 h.2.2
theorem Ξ04(h:A∧B∧C∧D)(k:A→B→C→D→r):r:=k h.1 h.2.1 h.2.2.1 h.2.2.2
theorem Ξ05(h:A∧B∧C∧D∧E)(k:A→B→C→D→E→r):r:=k h.1 h.2.1 h.2.2.1 h.2.2.2.1 h.2.2.2.2
theorem Ξ06(h:A∧B∧C∧D∧E∧F)(k:A→B→C→D→E→F→r):r:=k h.1 h.2.1 h.2.2.1 h.2.2.2.1 h.2.2.2.2.1 h.2.2.2.2.2
theorem Ξ07(h:A∧B∧C∧D∧E∧F∧G)(k:A→B→C→D→E→F→G→r):r:=k h.1 h.2.1 h.2.2.1 h.2.2.2.1 h.2.2.2.2.1 h.2.2.2.2.2.1 h.2.2.2.2.2.2
theorem Ξ08(h:A∧B∧C∧D∧E∧F∧G∧H)(k:A→B→C→D→E→F→G→H→r):r:=k h.1 h.2.1 h.2.2.1 h.2.2.2.1 h.2.2.2.2.1 h.2.2.2.2.2.1 h.2.2.2.2.2.2.1 h.2.2.2.2.2.2.2
theorem Ξ09(h:A∧B∧C∧D∧E∧F∧G∧H∧I)(k:A→B→C→D→E→F→G→H→I→r):r:=k h.1 h.2.1 h.2.2.1 h.2.2.2.1 h.2.2.2.2.1 h.2.2.2.2.2.1 h.2.2.2.2.2.2.1 h.2.2.2.2.2.2.2.1 h.2.2.2.2.2.2.2.2
theorem Ξ010(h:A∧B∧C∧D∧E∧F∧G∧H∧I∧J)(k:A→B→C→D→E→F→G→H→I→J→r):r:=k h.1 h.2.1 h.2.2.1 h.2.2.2.1 h.2.2.2.2.1 h.2.2.2.2.2.1 h.2.2.2.2.2.2.1 h.2.2.2.2.2.2.2.1 h.2.2.2.2.2.2.2.2.1 h.2.2.2.2.2.2.2.2.2
end
section
variable{A B C:α→Prop}
theorem Ξ11(h:∃x,A x)(k:∀x,A x→r):r:=h.elim k
theorem Ξ12(h:∃x,A x∧B x)(k:∀x,A x→B x→r):r:=Ξ11 h λx h=>Ξ02 h (k x)
theorem Ξ13(h:∃x,A x∧B x∧C x)(k:∀x,A x→B x→C x→r):r:=Ξ11 h λx h=>Ξ03 h (k x)
end
section
variable{A B C D:α→β→Prop}
theorem Ξ21(h:∃x y,A x y)(k:∀x y,A x y→r):r:=h.elim λx h=>Ξ11 h (k x)
theorem Ξ22(h:∃x y,A x y∧B x y)(k:∀x y,A x y→B x y→r):r:=Ξ21 h λx y h=>Ξ02 h (k x y)
theorem Ξ23(h:∃x y,A x y∧B x y∧C x y)(k:∀x y,A x y→B x y→C x y→r):r:=Ξ21 h λx y h=>Ξ03 h (k x y)
theorem Ξ24(h:∃x y,A x y∧B x y∧C x y∧D x y)(k:∀x y,A x y→B x y→C x y→D x y→r):r:=Ξ21 h λx y h=>Ξ04 h (k x y)
end
section
variable{A B C D E:α→β→γ→Prop}
theorem Ξ31(h:∃x y z,A x y z)(k:∀x y z,A x y z→r):r:=h.elim λx h=>Ξ21 h (k x)
theorem Ξ32(h:∃x y z,A x y z∧B x y z)(k:∀x y z,A x y z→B x y z→r):r:=Ξ31 h λx y z h=>Ξ02 h (k x y z)
theorem Ξ35(h:∃x y z,A x y z∧B x y z∧C x y z∧D x y z∧E x y z)(k:∀x y z,A x y z→B x y z→C x y z→D x y z→E x y z→r):r:=Ξ31 h λx y z h=>Ξ05 h (k x y z)
end
section
variable{A B C D E:α→β→γ→δ→Prop}
theorem Ξ41(h:∃x y z w,A x y z w)(k:∀x y z w,A x y z w→r):r:=h.elim λx h=>Ξ31 h (k x)
theorem Ξ45(h:∃x y z w,A x y z w∧B x y z w∧C x y z w∧D x y z w∧E x y z w)(k:∀x y z w,A x y z w→B x y z w→C x y z w→D x y z w→E x y z w→r):r:=Ξ41 h λx y z w h=>Ξ05 h (k x y z w)
end
section
variable{A:α→β→γ→δ→ε→Prop}
theorem Ξ51(h:∃x y z w u,A x y z w u)(k:∀x y z w u,A x y z w u→r):r:=h.elim λx h=>Ξ41 h (k x)
end
section
variable{A:α→β→γ→δ→ε→η→Prop}
theorem Ξ61(h:∃x y z w u v,A x y z w u v)(k:∀x y z w u v,A x y z w u v→r):r:=h.elim λx h=>Ξ51 h (k x)
end
section
variable{A:α→β→γ→δ→ε→η→ι→Prop}
theorem Ξ71(h:∃x y z w u v s,A x y z w u v s)(k:∀x y z w u v s,A x y z w u v s→r):r:=h.elim λx h=>Ξ61 h (k x)
end
section
variable{A:α→β→γ→δ→ε→η→ι→κ→Prop}
theorem Ξ81(h:∃x y z w u v s t,A x y z w u v s t)(k:∀x y z w u v s t,A x y z w u v s t→r):r:=h.elim λx h=>Ξ71 h (k x)
end
section
variable{A:α→β→γ→δ→ε→η→ι→κ→μ→Prop}
theorem Ξ91(h:∃x y z w u v s t p,A x y z w u v s t p)(k:∀x y z w u v s t p,A x y z w u v s t p→r):r:=h.elim λx h=>Ξ81 h (k x)
end
theorem Ψ2{P:α→β→Prop}(x:α)(y:β)(h:P x y):∃x y,P x y:=⟨x,y,h⟩
theorem Ψ3{P:α→β→γ→Prop}(x:α)(y:β)(z:γ)(h:P x y z):∃x y z,P x y z:=⟨x,y,z,h⟩
theorem Ψ4{P:α→β→γ→δ→Prop}(x:α)(y:β)(z:γ)(w:δ)(h:P x y z w):∃x y z w,P x y z w:=⟨x,y,z,w,h⟩
theorem Ψ5{P:α→β→γ→δ→ε→Prop}(x:α)(y:β)(z:γ)(w:δ)(u:ε)(h:P x y z w u):∃x y z w u,P x y z w u:=⟨x,y,z,w,u,h⟩
theorem Ψ6{P:α→β→γ→δ→ε→η→Prop}(x:α)(y:β)(z:γ)(w:δ)(u:ε)(v:η)(h:P x y z w u v):∃x y z w u v,P x y z w u v:=⟨x,y,z,w,u,v,h⟩
theorem Ψ7{P:α→β→γ→δ→ε→η→ι→Prop}(x:α)(y:β)(z:γ)(w:δ)(u:ε)(v:η)(s:ι)(h:P x y z w u v s):∃x y z w u v s,P x y z w u v s:=⟨x,y,z,w,u,v,s,h⟩
theorem Ψ8{P:α→β→γ→δ→ε→η→ι→κ→Prop}(x:α)(y:β)(z:γ)(w:δ)(u:ε)(v:η)(s:ι)(t:κ)(h:P x y z w u v s t):∃x y z w u v s t,P x y z w u v s t:=⟨x,y,z,w,u,v,s,t,h⟩
theorem Ψ9{P:α→β→γ→δ→ε→η→ι→κ→μ→Prop}(x:α)(y:β)(z:γ)(w:δ)(u:ε)(v:η)(s:ι)(t:κ)(p:μ)(h:P x y z w u v s t p):∃x y z w u v s t p,P x y z w u v s t p:=⟨x,y,z,w,u,v,s,t,p,h⟩
end
open Lean in
local macro_rules
|`(tactic|let ⟨$ps,*⟩:=$h)=>do
 let mut b:Array Term:=#[];let mut t←`(tactic|skip)
 for p in ps.getElems do
  if p.raw.isOfKind ``Parser.Term.anonymousCtor||p.raw.getId==`rfl then
   let z←withFreshMacroScope `(z);b:=b.push z
   if p.raw.isIdent then t←`(tactic|($t;subst $z:term))else t←`(tactic|($t;let $p:term:=$z))
  else b:=b.push p
 unless b.any (·.raw.getId==h.raw.getId)||!h.raw.isIdent do t←`(tactic|((try clear $(⟨h⟩));$t))
 let mut a←`(tactic|fail)
 let g(n m:Nat):=mkIdent (.mkSimple s!"Ξ{n}{m}")
 for i in [0:b.size]do
  let m:=b.size-i
  if m*i==0||m==1||[(1,2),(1,3),(2,2),(2,3),(2,4),(3,2),(3,5),(4,5)].contains (i,m)then a←`(tactic|first|refine $(g i m) $h fun $b* =>?_|$a:tactic)
  else a←`(tactic|first|(refine $(g i 1) $h fun $(b[:i])* z=>$(g 0 m) z fun $(b[i:])* =>?_;clear z)|$a:tactic)
 `(tactic|($a;$t))
|`(tactic|intro $ps*)=>do
 unless ps.any fun p=>p.raw.isOfKind ``Parser.Term.anonymousCtor||p.raw.getId==`rfl do Macro.throwUnsupported
 let mut t←`(tactic|skip)
 for p in ps do
  if p.raw.isOfKind ``Parser.Term.anonymousCtor then t←`(tactic|($t;intro z;let $p:term:=z))
  else if p.raw.getId==`rfl then t←`(tactic|($t;intro z;subst z))
  else t←`(tactic|($t;intro $p:term))
 return t
|`(tactic|exact $e)=>`(tactic|refine $e)
|`(tactic|lia)=>`(tactic|omega)
def aaa:=@PySem.wpAny_bind
def aab:=@PySem.Heap.get?_push_of_some
def aac:=@List.getElem?_eq_getElem
def aad:=@PySem.wpAny_pure
def aae:=@List.length_map
def aaf:=@List.map_append
def aag:=@List.length_append
def aah:=@List.mem_cons
def aai:=@List.size_toArray
def aaj:=@List.mem_of_getElem?
def aak:=@PySem.Heap.lt_size
def aal:=@Bool.false_ne_true
def aam:=@List.map_cons
def aan:=@Nat.le_refl
def aao:=@List.not_mem_nil
def aap:=@List.length_cons
def aaq:=@PySem.Heap.get?_push_size
def aar:=@Nat.le_of_lt
def aas:=@List.mem_append_right
def aat:=@List.getElem?_eq_some_iff
def aau:=@Nat.lt_of_lt_of_le
def aav:=@List.mem_singleton
def aaw:=@Nat.ne_of_lt
def aax:=@List.append_nil
def aay:=@List.mem_map
def aaz:=@if_neg
def aaA:=@if_pos
def aaB:=@PySem.wpAny_mono
def aaC:=@List.getElem?_map
def aaD:=@PySem.boot_len
def aaE:=@Nat.zero_le
def aaF:=@PySem.Heap.get?_update_other
def aaG:=@Nat.le_trans
def aaH:=@List.getElem?_eq_none
def aaI:=@PySem.F.plainAttrs_list
def aaJ:=@List.mem_cons_of_mem
def aaK:=@List.all_eq_true
def aaL:=@PySem.wpAny_newObj_type
def aaM:=@decide_eq_true
def aaN:=@PySem.F.excBase_ValueError
def aaO:=@PySem.wpAny_field
def aaP:=@PyProof.Rows.slot_tuple_getitem
def aaQ:=@List.flatten_cons
def aaR:=@PySem.wpAny_holding
def aaS:=@List.getElem?_append_right
def aaT:=@List.getElem?_append_left
def aaU:=@of_decide_eq_true
def aaV:=@PySem.wpAny_callSpecial?_slot
def aaW:=@Option.some.inj
def aaX:=@List.mem_append
def aaY:=@Array.length_toList
def aaZ:=@PySem.W.mg_of
def aa0:=@List.cons.inj
def aa1:=@Bool.and_eq_true
def aa2:=@decide_eq_false
def aa3:=@List.take_of_length_le
def aa4:=@List.length_take
def aa5:=@List.mem_cons_self
def aa6:=@PySem.PassesOwn.never
def aa7:=@PySem.sizeLine_eq
def aa8:=@List.map_map
def aa9:=@of_decide_eq_false
def aba:=@PySem.F.type_list_append
def abb:=@PySem.F.slot_list_append
def abc:=@congrArg
def abd:=@PyProof.Rows.callWith_type1
def abe:=@List.nodup_cons
def abf:=@List.length_drop
def abg:=@or_false
def abh:=@PySem.wpAny_of_eq
def abi:=@PySem.wpAny_seqItems
def abj:=@PySem.wpAny_call_entry
def abk:=@PySem.Heap.size_push
def abl:=@Nat.le_succ
def abm:=@List.mem_filterMap
def abn:=@PySem.W.kia_one
def abo:=@Nat.lt_irrefl
def abp:=@List.getElem_mem
def abq:=@List.length_replicate
def abr:=@PySem.F.slot_zip_next
def abt:=@PySem.Heap.get?_update_self
def abu:=@List.getD_eq_getElem?_getD
def abv:=@PySem.Around.under_plainId
def abw:=@Nat.lt_succ_of_lt
def abx:=@List.replicate_succ
def aby:=@PyProof.Rows.boot_all
def abz:=@Int.pow_succ
def abA:=@List.eq_nil_of_length_eq_zero
def abB:=@PyProof.Rows.boot_isinstance
def abC:=@List.drop_zero
def abD:=@List.getElem_of_mem
def abE:=@List.find?_cons
def abF:=@PySem.plainId_quiet
def abG:=@PySem.wpAny_truthy_bool
def abH:=@Bool.not_eq_true
def abI:=@PySem.codeAny_builtin
def abJ:=@List.map_nil
def abK:=@Int.emod_lt_of_pos
def abL:=@PySem.Heap.SameBut.update
def abM:=@Ne.symm
def abN:=@Bool.false_and
def abO:=@List.getElem?_set_ne
def abP:=@PySem.wpAny_standAt
def abQ:=@PySem.wpAny_Call_Name_kw
def abR:=@List.of_mem_zip
def abS:=@Int.toNat_natCast
def abT:=@List.length_reverse
def abU:=@PySem.wpAny_updateSeq
def abV:=@PySem.wpAny_specialOf
def abW:=@PySem.wpAny_comprehension_free
def abX:=@List.drop_length
def abY:=@List.cons_append
def abZ:=@List.mem_range
def ab0:=@PySem.wpAny_attempt
def ab1:=@PySem.F.plain_extend_loop
def ab2:=@PyProof.Rows.boot_max
def ab3:=@List.nil_append
def ab4:=@Int.emod_nonneg
def ab5:=@PySem.F.plain_max_loop
def ab6:=@Bool.eq_iff_iff
def ab7:=@List.any_cons
def ab8:=@List.all_cons
def ab9:=@List.replicate_succ'
def aca:=@PySem.wpAny_passesOwn
def acb:=@PySem.wpAny_letGo
def acd:=@PySem.builtinLookup_eq_fast
def ace:=@Nat.mul_le_mul
def acf:=@List.drop_drop
def acg:=@Nat.lt_succ_self
def ach:=@PySem.mem_of_lookup
def aci:=@List.map_congr_left
def acj:=@List.filterMap_cons
def ack:=@PySem.F.args_zip_next_1
def acm:=@Option.isSome_iff_exists
def acn:=@Nat.ne_of_gt
def aco:=@PySem.F.slot_tuple_iterator_next
def acp:=@PySem.F.slot_list_index
def acq:=@Nat.lt_of_le_of_lt
def acr:=@Bool.false_eq_true
def acs:=@PySem.F.entry_zip_next
def acu:=@PySem.wpAny_rule
def acv:=@List.getElem?_set_self
def acw:=@List.drop_of_length_le
def acx:=@List.ext_getElem?
def acy:=@List.append_assoc
def acz:=@List.take_append_drop
def acA:=@List.getElem?_toArray
def acB:=@Int.mul_le_mul_of_nonneg_right
def acC:=@Nat.le_add_right
def acD:=@List.take_append_of_le_length
def acE:=@List.drop_append_of_le_length
def acF:=@List.mem_of_mem_take
def acG:=@List.mem_of_mem_drop
def acH:=@List.getElem?_of_mem
def acI:=@Bool.true_and
def acJ:=@beq_iff_eq
def acK:=@beq_eq_false_iff_ne
def acL:=@Nat.mul_le_mul_left
def acM:=@Nat.min_eq_left
def acN:=@Nat.add_le_add_left
def acO:=@List.length_set
def acP:=@List.forIn_cons
def acQ:=@Array.getElem?_eq_some_iff
def acR:=@PySem.wpAny_newFunctionEnv
def acS:=@decide_eq_true_iff
def acT:=@Nat.zero_add
def acU:=@Nat.succ_mul
def acV:=@List.pairwise_cons
def acW:=@List.mem_replicate
def acX:=@List.filter_append
def acY:=@Int.mul_comm
def acZ:=@Array.append_assoc
def ac0:=@List.forIn_nil
def ac1:=@List.drop_eq_getElem_cons
def ac2:=@PySem.typeLookup_type
def ac3:=@PySem.F.args_tuple_add_2
def ac4:=@Nat.lt_succ_of_le
def ac5:=@List.take_add_one
def ac6:=@List.reverse_cons
def ac7:=@List.pairwise_map
def ac8:=@List.nodup_append
def ac9:=@if_false
def ada:=@PySem.F.type_list_index
def adb:=@PySem.F.entry_tuple_add
def ade:=@List.filter_cons_of_neg
def adf:=@PySem.wpAny_typeOf
def adg:=@PySem.wpAny_pyIter_tuple
def adh:=@decide_eq_decide
def adi:=@PySem.Obj.data_mapFields
def adj:=@Nat.le_max_right
def adk:=@List.take_length
def adl:=@PySem.wpAny_tryCatch
def adm:=@PySem.W.cellsFrom_some
def adn:=@PySem.F.slot_tuple_add
def ado:=@Option.map_eq_some_iff
def adp:=@PySem.call_meets
def adq:=@PyProof.Rows.boot_min
def ads:=@Nat.not_lt_zero
def adt:=@Nat.le_max_left
def adu:=@Nat.add_comm
def adv:=@List.eq_nil_or_concat
def adw:=@List.dropLast_eq_take
def adx:=@List.concat_eq_append
def ady:=@Int.natCast_add
def adz:=@Int.emod_add_mul_ediv
def adA:=@PySem.bm_if_false
def adB:=@Nat.mul_le_mul_right
def adC:=@List.mem_append_left
def adD:=@PySem.wpAny_isInstance
def adE:=@List.take_zero
def adF:=@List.reverse_append
def adG:=@List.not_lt
def adH:=@PySem.Calls.callWith_builtin
def adI:=@Array.toList_append
def adJ:=@PySem.wpAny_execs_nil
def adK:=@PySem.codeAny_mono
def adL:=@List.zip_cons_cons
def adM:=@List.filterMap_map
def adN:=@PySem.F.bm_plain_loop
def adO:=@Array.forIn_toList
def adP:=@PySem.wpAny_updateSeq_pair
def adQ:=@Nat.le_succ_of_le
def adR:=@PySem.Calls.evalArgs_plain
def adS:=@PySem.wpAny_setField
def adT:=@Nat.sub_zero
def adU:=@Int.ediv_one
def adV:=@PySem.wpAny_mkStr
def adW:=@Nat.succ_le_succ
def adX:=@List.mem_flatten
def adY:=@List.ext_getElem
def adZ:=@List.append_inj'
def ad0:=@Int.mul_le_mul_of_nonneg_left
def ad1:=@PySem.F.entry_extend_loop
def ad2:=@PySem.wpAny_onRaise
def ad3:=@if_true
def ad4:=@PySem.Paired.length
def ad5:=@Nat.pow_pos
def ad6:=@Nat.one_mul
def ad7:=@Nat.add_mul
def ad8:=@List.mem_filter
def ad9:=@List.length_nil
def aea:=@List.foldl_cons
def aeb:=@Int.natCast_mul
def aec:=@Array.getD_eq_getD_getElem?
def aed:=@Int.fmod_eq_emod_of_nonneg
def aee:=@Int.fdiv_eq_ediv_of_nonneg
def aef:=@PySem.wpAny_sequenceKey
def aeg:=@PySem.wpAny_call
def aeh:=@PySem.wpAny_pyIter_zip
def aei:=@PyProof.Rows.slicePart_none
def aej:=@PySem.noFill_tuple_add
def aek:=@decide_eq_false_iff_not
def ael:=@List.sum_cons
def aem:=@List.getElem?_replicate
def aen:=@List.getElem?_cons_succ
def aeo:=@List.filter_cons_of_pos
def aep:=@Int.ediv_ediv_of_nonneg
def aeq:=@PySem.F.slot_tuple_mul
def aer:=@PySem.F.entry_max_loop
set_option Elab.async false
set_option linter.all false
set_option maxRecDepth 100000
namespace L2
open PySem PySem.Spec PyProof.Rows
variable {xs vs:List V}{us:List Value}{x qual:Str}{u:Value}{H H':Hp}{a b it C dx:Addr}{o:HO}{P:Program}{w:World}{h base h':Heap}{g':Array GenState}{t' i j k n:Nat}{d':Drawn}{ch fp:List Addr}{e c tg l:Expr}{N ps:List Str}{M:Model}{A:Around}{E Q:xz}{v y:V}{s' s:Shared}{X:Cx}{t:TA}{pos pos' p:Pos}{pins:ad}{σ:St}{K:W.Frag}{D:Ends}{f:Value→Value→Sem Value}{tc:TT}{es:List Expr}{te tl ta:TE}{g:Int→Int→Int}{body:List Stmt}{tb:TS}{lo:Int}{r:R2}{mA mg:ac}{CX:x8}{fd:FuncData}{sp:Sp}{outer:List Env}{kindOf:Str→Option NameKind}{scope:Scope}
abbrev Key:=Sum Int Str
def tU:Key→Value→Bool
 |.inl k,v=>Value.isInt k v
 |.inr x,v=>Value.isStrOf x v
def Ub(w:World):Key→Int
 |.inl k=>hashInt k
 |.inr x=>hashStr w x
theorem cC:∀{k:Key} {v:Value},tU k v=true→(∃i t,k=Sum.inl i∧v=Value.int i t)∨(∃x t,k=Sum.inr x∧v=Value.str x t)
 |.inl i,v,h=>by
  let⟨t,e⟩:=Value.isInt_shape (k:=i) (v:=v) h;exact .inl ⟨i,t,rfl,e⟩
 |.inr x,v,h=>by
  let⟨t,e⟩:=Value.isStrOf_shape (x:=x) (v:=v) h;exact .inr ⟨x,t,rfl,e⟩
theorem BM(i:Int)(t:Tok):tU (.inl i) (.int i t)=true:=by simp[tU,Value.isInt]
theorem BL(x:Str)(t:Tok):tU (.inr x) (.str x t)=true:=by simp[tU,Value.isStrOf]
theorem L8(a b:Int):decide ((Sum.inl a:Key)=Sum.inl b)=(a==b):=by
 by_cases e:a=b
 ·subst e;simp
 ·have h:¬(Sum.inl a:Key)=Sum.inl b:=λq=>e (Sum.inl.inj q)
  rw[aa2 h];exact(acK.mpr e).symm
theorem L5(a b:Str):decide ((Sum.inr a:Key)=Sum.inr b)=decide (a=b):=by
 by_cases e:a=b
 ·subst e;simp
 ·have h:¬(Sum.inr a:Key)=Sum.inr b:=λq=>e (Sum.inr.inj q)
  rw[aa2 h,aa2 e]
theorem L7(a:Int)(b:Str):decide ((Sum.inl a:Key)=Sum.inr b)=false:=aa2 (λq=>nomatch q)
theorem L6(a:Str)(b:Int):decide ((Sum.inr a:Key)=Sum.inl b)=false:=aa2 (λq=>nomatch q)
def cH(prog:Program)(w:World):PySem.KeyKind prog w Key where
 is:=tU
 hash:=Ub w
 inj:=λv a b ha hb=>by
  rcases cC ha with⟨i,t,rfl,rfl⟩|⟨x,t,rfl,rfl⟩
  ·rcases cC hb with⟨j,u,rfl,e⟩|⟨y,u,rfl,e⟩
   ·injection e with e1 _;rw[e1]
   ·exact nomatch e
  ·rcases cC hb with⟨j,u,rfl,e⟩|⟨y,u,rfl,e⟩
   ·exact nomatch e
   ·injection e with e1 _;rw[e1]
 byValue:=λk v h=>by
  rcases cC h with⟨i,t,rfl,rfl⟩|⟨x,t,rfl,rfl⟩<;>rfl
 pyHash:=λhv h=>by
  rcases cC hv with⟨i,t,rfl,rfl⟩|⟨x,t,rfl,rfl⟩
  ·exact wpAny_pyHash_int h
  ·exact wpAny_pyHash_str h
 eqBool:=λhu hv h=>by
  rcases cC hu with⟨i,t,rfl,rfl⟩|⟨x,t,rfl,rfl⟩
  ·rcases cC hv with⟨j,u,rfl,rfl⟩|⟨y,u,rfl,rfl⟩
   ·rw[L8]at h;exact wpAny_eqBool_int h
   ·rw[L7]at h;exact SeqAt.EqAt.int_str i t y u _ _ _ _ h
  ·rcases cC hv with⟨j,u,rfl,rfl⟩|⟨y,u,rfl,rfl⟩
   ·rw[L6]at h;exact SeqAt.EqAt.str_int x t j u _ _ _ _ h
   ·rw[L5]at h;exact wpAny_eqBool_str h
 «strs»:=λk x t v h=>by
  rcases cC h with⟨i,u,rfl,e⟩|⟨y,u,rfl,e⟩
  ·exact nomatch e
  ·injection e with e1 _
   subst e1;cases v<;>rfl
theorem wH(prog:Program)(w:World)(i:Int)(t:Tok):(cH prog w).is (.inl i) (.int i t)=true:=BM i t
theorem wG(prog:Program)(w:World)(x:Str)(t:Tok):(cH prog w).is (.inr x) (.str x t)=true:=BL x t
inductive V where
 |non|bl (b:Bool)|int (i:Int)|str (x:Str)|byt (b:Array UInt8)|flt (b:UInt64)|ref (a:Addr)|ty (n:String)
 deriving DecidableEq
def RelV:V→Value→Prop
 |.non,u=>u=Value.none
 |.bl b,u=>u=Value.bool b
 |.int i,u=>∃t,u=Value.int i t
 |.str x,u=>∃t,u=Value.str x t
 |.byt b,u=>∃t,u=Value.bytes b t
 |.flt b,u=>∃t,u=Value.float b t
 |.ref a,u=>u=Value.ref a
 |.ty n,u=>u=Value.type n
abbrev Vals:List V→List Value→Prop:=Paired RelV
theorem Vals.length(r:Vals xs us):xs.length=us.length:=ad4 r
theorem Vals.get:∀{xs:List V} {us:List Value} {i:Nat} {x:V},Vals xs us→xs[i]?=some x→∃u,us[i]?=some u∧RelV x u
 |_,_,_,_,.nil,e=>by simp at e
 |_,_,0,_,.cons r _,e=>by simp at e;subst e;exact⟨_,rfl,r⟩
 |_,_,i+1,x,.cons _ t,e=>by
  let⟨u,h1,h2⟩:=Vals.get (i:=i) (x:=x) t (by simpa using e);exact⟨u,by simpa using h1,h2⟩
theorem Vals.set{x:V}(r:RelV x u):∀{xs:List V} {us:List Value} (i:Nat),Vals xs us→Vals (xs.set i x) (us.set i u)
 |_,_,_,.nil=>.nil
 |_,_,0,.cons _ t=>.cons r t
 |_,_,i+1,.cons q t=>.cons q (Vals.set r i t)
theorem Vals.append:∀{xs ys:List V} {us ws:List Value},Vals xs us→Vals ys ws→Vals (xs++ys) (us++ws)
 |_,_,_,_,.nil,s=>s
 |_,_,_,_,.cons r t,s=>.cons r (Vals.append t s)
theorem Vals.take:∀{xs:List V} {us:List Value} (n:Nat),Vals xs us→Vals (xs.take n) (us.take n)
 |_,_,0,_=>.nil
 |_,_,_+1,.nil=>.nil
 |_,_,n+1,.cons r t=>.cons r (Vals.take n t)
theorem Vals.drop:∀{xs:List V} {us:List Value} (n:Nat),Vals xs us→Vals (xs.drop n) (us.drop n)
 |_,_,0,r=>r
 |_,_,_+1,.nil=>.nil
 |_,_,n+1,.cons _ t=>Vals.drop n t
def rY:Option V→Option Value→Prop
 |some v,some u=>RelV v u
 |none,none=>True
 |_,_=>False
def KV{κ:Type}:List (κ×V)→List (κ×Value)→Prop:=Paired λ(p:κ×V) (q:κ×Value)=>p.1=q.1∧RelV p.2 q.2
def kV:Key→V
 |.inl i=>.int i
 |.inr x=>.str x
inductive HO where
 /-- a list -/
 |lst (xs:List V)
 /-- a tuple (never changes) -/
 |tup (xs:List V)
 /-- a dict NJ keys are ints and texts;one NJ keys are tuples of ints and texts (yp empty one is both) -/
 |dK (aN:List (Key×V))|dT (aN:List (List Key×V))
 /-- a set of ints: its members,its size -/
 |set (S:Int→Bool) (n:Nat)
 /-- an instance of yp class at C,its dict at dx,its attributes -/
 |ins (C dx:Addr) (fs:List (Str×V))
 /-- yp dict of yp instance at x -/
 |own (x:Addr)
 /-- yp dict of an exception -/
 |xd (fs:List (Str×V))
 /-- a bound method,f of x -/
 |met (f x:Addr)
 /-- a range object lo,lo+1,.. below hi -/
 |rng (lo hi:Int)
 /-- a NT NU is known to yp object (yp K7;a dict while a loop walks it): read,never written while it is so -/
 |frz (o:Obj) (u:HO)
 /-- a code PH table -/
 |tbl (ps:Array Value)
 /-- any other NT,by Sj is true of its one object (a def of VV own: SetO a S n:=HO.ext λh=>..) -/
 |ext (φ:Heap→Prop)
abbrev Hp:=Addr→Option HO
def upd(H:Hp)(a:Addr)(o:HO):Hp:=λb=>if b=a then some o else H b
theorem ar:upd H a o a=some o:=by unfold upd;rw[aaA rfl]
theorem ao(h:b≠a):upd H a o b=H b:=by unfold upd;rw[aaz h]
theorem Gu{u:HO}:upd (upd H a o) a u=upd H a u:=by
 funext b;unfold upd;split<;>rfl
theorem pk{u:HO}(h:H a=some o)(h':H b=some u)(d:o≠u):a≠b:=by
 intro e;subst e;rw[h]at h';exact d (aaW h')
theorem au(h:H a=some o)(h':H b=none):a≠b:=by
 intro e;subst e;rw[h]at h';cases h'
section
variable (P:Program)(w:World)
def bS(H:Hp)(h:Heap)(a:Addr):HO→Prop
 |.lst xs=>xs.length≤sizeLine∧∃(its:List Value) (n:Nat),Vals xs its∧h.get? a=some {cls:=.type "list",data:=.seq its.toArray n}
 |.tup xs=>xs.length≤sizeLine∧∃its:List Value,Vals xs its∧IsTup h a its.toArray
 |.dK aN=>aN.length≤sizeLine∧(a==sysModules)=false∧∃vs,KV aN vs∧h.DictOf (cH P w) a vs
 |.dT aN=>aN.length≤sizeLine∧(a==sysModules)=false∧∃xs:List (List Key×Addr×Value),
   Paired (λ(p:List Key×V) (q:List Key×Addr×Value)=>p.1=q.1∧H q.2.1=some (.tup (p.1.map kV))∧RelV p.2 q.2.2) aN xs∧
   ∃o es ep,h.get? a=some o∧o.ExactDict∧o.data=.dict es ep∧es.toList=xs.map (entryOfKey (tupleKind (cH P w)))∧(xs.map (·.1)).Nodup
 |.set S n=>h.SetOf (intKind P w) a S n
 |.ins C dx fs=>H dx=some (.own a)∧fs.length≤1000∧dx≠a∧h.get? a=some (W.instObj C dx)∧
   ∃mA,h.Ns1 dx mA∧(∀f,rY (fs.lookup f) (mA f))∧PySem.Within mA (fs.map (·.1))
 |.own _=>∃o,h.get? a=some o
 |.xd fs=>∃mA,h.Ns1 a mA∧∀f,rY (fs.lookup f) (mA f)
 |.rng lo hi=>∃t u v,h.get? a=some {cls:=.type "range",data:=.fields #[.int lo t,.int hi u,.int 1 v]}
 |.frz o u=>h.get? a=some o∧bS H h a u
 |.tbl ps=>h.get? a=some {cls:=.none,data:=.fields ps}
 |.met f x=>h.get? a=some (W.methodObj (.ref f) (.ref x))
 |.ext φ=>φ h∧(∃o,h.get? a=some o)∧∀h1 h2:Heap,φ h1→(∀o,h1.get? a=some o→h2.get? a=some o)→φ h2
def jJ(H:Hp)(h:Heap):Prop:=∀a o,H a=some o→bS P w H h a o
end
section
theorem bS.lt(x:bS P w H h a o):a<h.objs.size:=by
 cases o with
 |lst xs=>let⟨_,⟨_,_,_,e⟩⟩:=x;exact aak e
 |tup xs=>let⟨_,⟨_,_,p⟩⟩:=x;exact p.lt
 |dK aN=>let⟨_,_,⟨_,_,⟨o,_,_,e,_⟩⟩⟩:=x;exact aak e
 |dT aN=>let⟨_,_,⟨_,_,⟨o,_,_,e,_⟩⟩⟩:=x;exact aak e
 |set S n=>let⟨o,_,_,_,e,_⟩:=x;exact aak e
 |ins C dx fs=>let⟨_,_,_,e,_⟩:=x;exact aak e
 |own y=>let⟨_,e⟩:=x;exact aak e
 |xd fs=>let⟨_,⟨_,_,_,e,_⟩,_⟩:=x;exact aak e
 |rng lo hi=>let⟨_,_,_,e⟩:=x;exact aak e
 |frz ob u=>let⟨e,_⟩:=x;exact aak e
 |tbl ps=>exact aak (show h.get? a=some _ from x)
 |met f y=>exact aak (show h.get? a=some _ from x)
 |ext φ=>let⟨_,⟨_,e⟩,_⟩:=x;exact aak e
theorem Paired.LX{α β:Type}{F G:α→β→Prop}:∀{l₁:List α} {l₂:List β},Paired F l₁ l₂→(∀a b,F a b→G a b)→Paired G l₁ l₂
 |_,_,.nil,_=>.nil
 |_,_,.cons r t,f=>.cons (f _ _ r) (Paired.LX t f)
theorem bS.fM(x:bS P w H h a o)(k:∀b u,(b=a∨H b=some (.own a))→h.get? b=some u→h'.get? b=some u)
  (ho:∀b,H b=some (.own a)→H' b=some (.own a)) (ht:∀b xs,H b=some (.tup xs)→H' b=some (.tup xs)):bS P w H' h' a o:=by
 induction o with
 |lst xs=>let⟨z,⟨its,n,r,e⟩⟩:=x;exact⟨z,its,n,r,k _ _ (.inl rfl) e⟩
 |tup xs=>let⟨z,⟨its,r,⟨ob,e,c⟩⟩⟩:=x;exact⟨z,its,r,ob,k _ _ (.inl rfl) e,c⟩
 |dK aN=>let⟨z,y,⟨vs,r,⟨ob,es,ep,e,c⟩⟩⟩:=x;exact⟨z,y,vs,r,ob,es,ep,k _ _ (.inl rfl) e,c⟩
 |dT aN=>
  let⟨z,y,⟨xs,r,⟨ob,es,ep,e,c⟩⟩⟩:=x;exact⟨z,y,xs,Paired.LX r λp q z=>⟨z.1,ht _ _ z.2.1,z.2.2⟩,ob,es,ep,k _ _ (.inl rfl) e,c⟩
 |set S n=>let⟨ob,es,ep,t,e,c⟩:=x;exact Ψ4 ob es ep t ⟨k _ _ (.inl rfl) e,c⟩
 |ins C dx fs=>
  let⟨d,z,ne,e,⟨mA,⟨od,es,ep,e2,c⟩,r⟩⟩:=x;exact⟨ho _ d,z,ne,k _ _ (.inl rfl) e,mA,Ψ3 od es ep ⟨k _ _ (.inr d) e2,c⟩,r⟩
 |own y=>let⟨ob,e⟩:=x;exact⟨ob,k _ _ (.inl rfl) e⟩
 |xd fs=>let⟨mA,⟨od,es,ep,e,c⟩,r⟩:=x;exact⟨mA,Ψ3 od es ep ⟨k _ _ (.inl rfl) e,c⟩,r⟩
 |rng lo hi=>let⟨t,u,v,e⟩:=x;exact Ψ3 t u v (k _ _ (.inl rfl) e)
 |frz ob u ih=>let⟨e,q⟩:=x;exact⟨k _ _ (.inl rfl) e,ih q⟩
 |tbl ps=>
  have e:h.get? a=some {cls:=.none,data:=.fields ps}:=x;show h'.get? a=some {cls:=.none,data:=.fields ps}
  exact k a _ (.inl rfl) e
 |met f y=>
  have e:h.get? a=some (W.methodObj (.ref f) (.ref y)):=x;show h'.get? a=some (W.methodObj (.ref f) (.ref y))
  exact k a _ (.inl rfl) e
 |ext φ=>let⟨p,⟨o,e⟩,st⟩:=x;exact⟨st _ _ p λo q=>k _ _ (.inl rfl) q,⟨o,k _ _ (.inl rfl) e⟩,st⟩
theorem jJ.lt(x:jJ P w H h)(e:H a=some o):a<h.objs.size:=(x a o e).lt
theorem jJ.fresh(x:jJ P w H h)(e:h.objs.size≤a):H a=none:=by
 cases q:H a with
 |none=>rfl
 |some u=>exact absurd (aau (x.lt q) e) (abo _)
theorem jJ.kept(x:jJ P w H h)(k:∀b u,h.get? b=some u→h'.get? b=some u):jJ P w H h':=λa o e=>
 (x a o e).fM (λb u _ q=>k b u q) (λ_ q=>q) λ_ _ q=>q
theorem jJ.laid(x:jJ P w H h)(k:∀b u,h.get? b=some u→h'.get? b=some u)(hp:h.objs.size≤a)(new:bS P w (upd H a o) h' a o):jJ P w (upd H a o) h':=λb u e=>by
 have hn:=x.fresh hp;by_cases hb:b=a
 ·subst hb;rw[ar]at e;cases e;exact new
 ·rw[ao hb]at e
  exact(x b u e).fM (λc v _ q=>k c v q) (λc q=>by rw[ao (au q hn)];exact q) λc xs q=>by rw[ao (au q hn)];exact q
end
def Rd(H:Hp)(a:Addr)(u:HO):Prop:=H a=some u∨∃o,H a=some (.frz o u)
theorem Rd.ok{u:HO}(r:Rd H a u)(x:jJ P w H h):bS P w H h a u:=by
 rcases r with r|⟨o,r⟩
 ·exact x a u r
 ·let⟨_,q⟩:=x a _ r
  exact q
def Rh:Option HO→Prop
 |some (.lst _)=>True
 |some (.dK _)=>True
 |some (.dT _)=>True
 |some (.set _ _)=>True
 |some (.ins _ _ _)=>True
 |some (.ext _)=>True
 |_=>False
section
variable {x e:Addr}{o':HO}
theorem jJ.write(ok:jJ P w H h)(mu:Rh (H x))(he:e=x∨H e=some (.own x))(k:∀b u,b≠e→h.get? b=some u→h'.get? b=some u)(Nq:∃u,h'.get? e=some u)
  (new:bS P w (upd H x o') h' x o'):jJ P w (upd H x o') h':=λb u q=>by
 have PJ:∀c y,H c=some (.own y)→c≠x:=λc y r z=>by subst z;rw[r]at mu;exact mu
 have TL:∀c xs,H c=some (.tup xs)→c≠x:=λc xs r z=>by subst z;rw[r]at mu;exact mu
 by_cases hb:b=x
 ·subst hb;rw[ar]at q;cases q;exact new
 ·rw[ao hb]at q
  by_cases Mw:b=e
  ·have q':H b=some (.own x):=by
    rcases he with z|z
    ·exact absurd (Mw.trans z) hb
    ·rw[Mw];exact z
   rw[q]at q';cases q';let⟨v,hv⟩:=Nq;exact⟨v,by rw[Mw];exact hv⟩
  ·exact(ok b u q).fM (λc v hc r=>k c v ?_ r) (λc r=>by rw[ao (PJ c b r)];exact r) λc xs r=>by rw[ao (TL c xs r)];exact r
   rcases hc with rfl|hc
   ·exact Mw
   ·rintro rfl
    rcases he with z|z
    ·exact PJ c b hc z
    ·rw[hc]at z;cases z;exact hb rfl
end
structure Un(fs ex:List Addr)(H H':Hp)(h h':Heap):Prop where
 keep:∀b o,h.get? b=some o→H b=none→b∉fs→b∉ex→h'.get? b=some o
 slot:∀b o,h.get? b=some o→H b=none→b∈fs→b∉ex→∃sl,h'.get? b=some {o with slots:=sl}
 free:∀b o,h.get? b=some o→H b=none→b∉ex→H' b=none
 there:∀b o,h.get? b=some o→b∉ex→∃o',h'.get? b=some o'
 gc:∀b xs,H b=some (.tup xs)→H' b=some (.tup xs)
 fW:∀b o u,H b=some (.frz o u)→H' b=some (.frz o u)
 fL:∀b ps,H b=some (.tbl ps)→∃more,H' b=some (.tbl (ps++more))
section
variable {fs ex:List Addr}{H1 H2:Hp}{h1 h2:Heap}{x e:Addr}
theorem Un.any(u:Un fs ex H H1 h h1){ob:Obj}(q:h.get? b=some ob)(n:H b=none)(hx:b∉ex):∃sl,h1.get? b=some {ob with slots:=sl}:=by
 by_cases hb:b∈fs
 ·exact u.slot b ob q n hb hx
 ·exact⟨ob.slots,u.keep b ob q n hb hx⟩
theorem Un.trans(a:Un fs ex H H1 h h1)(b:Un fs ex H1 H2 h1 h2):Un fs ex H H2 h h2 where
 keep:=λc ob q n hc hx=>b.keep c ob (a.keep c ob q n hc hx) (a.free c ob q n hx) hc hx
 slot:=λc ob q n hc hx=>by
  let⟨sl,e1⟩:=a.slot c ob q n hc hx;let⟨OX,e2⟩:=b.slot c _ e1 (a.free c ob q n hx) hc hx;exact⟨OX,e2⟩
 free:=λc ob q n hx=>by
  let⟨o',e1⟩:=a.there c ob q hx;exact b.free c o' e1 (a.free c ob q n hx) hx
 there:=λc ob q hx=>by
  let⟨o',e1⟩:=a.there c ob q hx;exact b.there c o' e1 hx
 gc:=λc xs q=>b.gc c xs (a.gc c xs q)
 fW:=λc ob xs q=>b.fW c ob xs (a.fW c ob xs q)
 fL:=λc ps q=>by
  let⟨m1,e1⟩:=a.fL c ps q;let⟨m2,e2⟩:=b.fL c _ e1;exact⟨m1++m2,by rw[e2,acZ]⟩
theorem Un.kept(k:∀b u,h.get? b=some u→h'.get? b=some u):Un fs ex H H h h':=
 ⟨λb ob q _ _ _=>k b ob q,λb ob q _ _ _=>⟨ob.slots,k b ob q⟩,λ_ _ _ n _=>n,λb ob q _=>⟨ob,k b ob q⟩,λ_ _ q=>q,λ_ _ _ q=>q,λ_ ps q=>⟨#[],by rw[q];simp⟩⟩
theorem Un.refl:Un fs ex H H h h:=Un.kept λ_ _ q=>q
theorem Un.laid(k:∀b u,h.get? b=some u→h'.get? b=some u)(hp:h.objs.size≤a)(hn:H a=none):Un fs ex H (upd H a o) h h' where
 keep:=λb u q _ _ _=>k b u q
 slot:=λb u q _ _ _=>⟨u.slots,k b u q⟩
 free:=λb u q n _=>by rw[ao (aaw (aau (aak q) hp))];exact n
 there:=λb u q _=>⟨u,k b u q⟩
 gc:=λb xs q=>by rw[ao (au q hn)];exact q
 fW:=λb u xs q=>by rw[ao (au q hn)];exact q
 fL:=λb ps q=>⟨#[],by rw[ao (au q hn),q];simp⟩
theorem Un.write(mu:Rh (H x))(he:e=x∨H e=some (.own x))(k:∀b u,b≠e→h.get? b=some u→h'.get? b=some u)(Nq:∃u,h'.get? e=some u):Un fs ex H (upd H x o) h h':=by
 have hx:∀b,H b=none→b≠x:=λb n z=>by subst z;rw[n]at mu;exact mu
 have hb:∀b,H b=none→b≠e:=λb n z=>by
  subst z;rcases he with r|r
  ·exact hx b n r
  ·rw[n]at r;cases r
 have hm:∀b u,H b=some u→¬Rh (some u)→b≠x:=λb u q nm z=>by subst z;rw[q]at mu;exact nm mu
 exact⟨λb u q n _ _=>k b u (hb b n) q,λb u q n _ _=>⟨u.slots,k b u (hb b n) q⟩,λb u q n _=>by rw[ao (hx b n)];exact n,λb u q _=>?_,
  λb xs q=>by rw[ao (hm b _ q λz=>z)];exact q,λb u xs q=>by rw[ao (hm b _ q λz=>z)];exact q,λb ps q=>⟨#[],by rw[ao (hm b _ q λz=>z),q];simp⟩⟩
 by_cases Mw:b=e
 ·subst Mw;exact Nq
 ·exact⟨u,k b u Mw q⟩
end
def Ru(h:Heap)(H:Hp):List Addr:=(List.range h.objs.size).filter λa=>(H a).isSome
def uW(h:Heap)(H:Hp):Heap:=W.hideAll h (Ru h H)
theorem BU(h:Heap)(H:Hp):(uW h H).objs.size=h.objs.size:=W.hideAll_size _ _
theorem rB{o:Obj}(e:h.get? b=some o)(n:H b=none):(uW h H).get? b=some o:=
 W.hideAll_get _ e λhm=>by
  have q:(H b).isSome=true:=(ad8.mp hm).2;rw[n]at q;simp at q
theorem HL{o:Obj}(e:(uW h H).get? b=some o):h.get? b=some o∧H b=none:=by
 have e':h.get? b=some o:=W.of_hideAll (Ru h H) e;exact⟨e',?_⟩;cases q:H b with
 |none=>rfl
 |some x=>
  have hm:b∈Ru h H:=ad8.mpr ⟨abZ.mpr (aak e'),by simp[q]⟩;have z:(uW h H).get? b=none:=W.hideAll_none (Ru h H) hm;rw[z]at e;cases e
def IP(g h:Heap)(L:Addr):ad:=(List.range h.objs.size).filterMap λa=>if a=L∨(g.get? a).isSome=true then none else(h.get? a).map λo=>(a,o)
def rest(g h:Heap)(L d:Addr):ad:=(IP g h L).filter λp=>decide (p.1≠d)
structure Mod(K:W.Frag)(mg:ac)(base:Heap):Prop where
 PX:K.In base
 glob:base.Ns mainGlobals mg
 blt:∃mb,base.Ns builtinsNs mb∧∀x:Str,x ≠ "__name__" → mb x=bootBuiltins x
 nolimit:base.NoLimit
structure Cx where
 prog:Program
 w:World
 K:W.Frag
 mg:ac
 base:Heap
 A:Around
 N:List Str
 s₀:Shared
 H₀:Hp
 env:Env
 outer:List Env
 stack:List Env
 ex:List Addr
 fn:Str→Bool
 calm:Bool
 pn:ad
 xe:xz
def me(l:List Env):List Addr:=l.filterMap (·.frame)
abbrev Cx.fs(X:Cx):List Addr:=me X.outer
def ND(sc:Scope)(x:Str):Prop:=sc.names.lookup x=some .local∨sc.names.lookup x=some .cell∨sc.names.lookup x=some .free
def Loc(sc:Scope)(x:Str):Prop:=sc.names.lookup x=some .local∨sc.names.lookup x=some .cell
abbrev Fk(X:Cx)(x:Str):Prop:=X.fn x=true∨X.env.scope.names.lookup x=some .local
def Look(env:Env)(h:Heap)(m:ac)(x:Str)(u:Value):Prop:=
 (env.kindOf x=some .local∧m x=some u)∨((env.kindOf x=some .cell∨env.kindOf x=some .free)∧∃c,env.cells.lookup x=some c∧h.IsCell c (some u))
structure Cx.Ok(X:Cx):Prop where
 mod:Mod X.K X.mg X.base
 kind:X.env.scope.kind=.function
 glob:X.env.globals=mainGlobals
 blt:X.env.builtins=builtinsNs
 above:X.s₀.heap.objs.size≤X.env.locals
 inj:∀x y c,X.env.cells.lookup x=some c→X.env.cells.lookup y=some c→x=y
 has:∀x,(X.env.kindOf x=some .cell∨X.env.kindOf x=some .free)→∃c,X.env.cells.lookup x=some c
 IE:∀x c,X.fn x=true→X.env.cells.lookup x=some c→X.s₀.heap.objs.size≤c
 hd:X.calm=true→X.A.handled=none
 frames:X.A.frames=some X.stack
 Jc:X.stack=X.outer∨(X.stack=X.env::X.outer∧X.env.frame=some X.env.locals)
 Gm:∀b∈X.ex,b≠X.env.locals∧∀x c,X.env.cells.lookup x=some c→c≠b
 bs:∀b o,X.base.get? b=some o→X.s₀.heap.get? b=some o∧X.H₀ b=none
 Cw:X.base.objs.size≤X.s₀.heap.objs.size
 uP:∀b o,X.base.get? b=some o→b∉X.ex
 pQ:∀b∈X.ex,b∉X.fs
 ku:X.s₀.heap.FunFrames X.base X.outer
 Fm:∀b∈X.fs,X.H₀ b=none
structure Inv(X:Cx)(pins:ad)(σ:List (Option V))(H:Hp)(s:Shared):Prop where
 ok:X.Ok
 os:s.os=X.s₀.os
 bare:AllBare s.gens
 base:Un X.fs X.ex X.H₀ H X.s₀.heap s.heap
 loc:∃m,s.heap.Ns X.env.locals m∧∀(i:Nat) (x:Str) (v:V),X.N[i]?=some x→σ[i]?=some (some v)→ND X.env.scope x→∃u,RelV v u∧Look X.env s.heap m x u
 cell:∀x c,X.env.cells.lookup x=some c→∃v,s.heap.IsCell c v
 free:H X.env.locals=none
 fh:∀x c,X.env.cells.lookup x=some c→H c=none
 pin:∀p∈X.pn++pins,s.heap.get? p.1=some p.2∧H p.1=none∧p.1≠X.env.locals∧p.1∉X.fs∧∀v,p.2.data≠.cell v
 bp:jJ X.prog X.w H s.heap
 len:σ.length=X.N.length
section
variable {σ:List (Option V)}
theorem Cx.Ok.TQ(ok:X.Ok){o:Obj}(e:X.base.get? b=some o):b∉X.fs:=λhb=>by
 have:=(ok.ku.mem hb).1;rw[e]at this;cases this
theorem Inv.bs(I:Inv X pins σ H s):∀b o,X.base.get? b=some o→s.heap.get? b=some o∧H b=none:=λb o e=>
 ⟨I.base.keep b o (I.ok.bs b o e).1 (I.ok.bs b o e).2 (I.ok.TQ e) (I.ok.uP b o e),I.base.free b o (I.ok.bs b o e).1 (I.ok.bs b o e).2 (I.ok.uP b o e)⟩
theorem Inv.bk(I:Inv X pins σ H s):∀b o,X.base.get? b=some o→s.heap.get? b=some o:=λb o e=>(I.bs b o e).1
theorem Inv.mod(I:Inv X pins σ H s):Mod X.K X.mg X.base:=I.ok.mod
theorem Inv.rn(I:Inv X pins σ H s):X.K.In s.heap:=I.ok.mod.PX.keeps I.bk
theorem Inv.lt(I:Inv X pins σ H s):X.env.locals<s.heap.objs.size:=let⟨_,hn,_⟩:=I.loc;hn.lt
theorem Inv.sz(I:Inv X pins σ H s):X.s₀.heap.objs.size≤s.heap.objs.size:=aaG I.ok.above (aar I.lt)
theorem Inv.TN(I:Inv X pins σ H s)(h:s.heap.objs.size≤a):a∉X.fs:=λhb=>by
 let⟨_,⟨o,ho,_⟩⟩:=I.ok.ku.mem hb;exact absurd (aau (aak ho) (aaG I.sz h)) (abo _)
theorem Inv.Iw(I:Inv X pins σ H s):∀x c,X.env.cells.lookup x=some c→c≠X.env.locals:=λx c e z=>by
 let⟨v,o,ho,hd⟩:=I.cell x c e;let⟨m,⟨o',es,ep,m6,Ik,_⟩,_⟩:=I.loc;rw[z,m6]at ho;cases ho;rw[Ik]at hd;cases hd
theorem Inv.ku(I:Inv X pins σ H s):s.heap.FunFrames X.base X.outer:=by
 have all:∀(l:List Env),(∀b∈me l,b∈X.fs)→X.s₀.heap.FunFrames X.base l→s.heap.FunFrames X.base l:=by
  intro l;induction l with
  |nil=>intro _ _;trivial
  |cons env r ih=>
   intro hs hl;let⟨hk,⟨L,o,hf,hn,ho,hd⟩,hr⟩:=hl;have hL:L∈X.fs:=hs L (by unfold me;rw[acj,hf];exact aa5);let⟨sl,e⟩:=I.base.slot L o ho (I.ok.Fm L hL) hL λz=>I.ok.pQ L z hL;exact⟨hk,Ψ2 L _ ⟨hf,hn,e,hd⟩,ih (λb hb=>hs b (by unfold me;rw[acj,hf];exact aaJ _ hb)) hr⟩
 exact all X.outer (λ_ hb=>hb) I.ok.ku
theorem Inv.stack(I:Inv X pins σ H s):s.heap.FunFrames X.base X.stack:=by
 rcases I.ok.Jc with e|⟨e,hf⟩
 ·rw[e];exact I.ku
 ·rw[e]
  let⟨m,hn,_⟩:=I.loc;exact .cons (by rw[I.ok.kind];decide) hf hn ?_ I.ku;exact Heap.get?_none_of_le (aaG I.ok.Cw I.ok.above)
theorem Inv.uo(I:Inv X pins σ H s):∀b∈me X.stack,b∈X.env.locals::X.fs:=λb hb=>by
 rcases I.ok.Jc with e|⟨e,hf⟩
 ·rw[e]at hb;exact aaJ _ hb
 ·rw[e]at hb
  unfold me at hb;rw[acj,hf]at hb;exact hb
theorem Inv.p4(I:Inv X pins σ H s):∀b∈me X.stack,H b=none:=λb hb=>by
 rcases aah.mp (I.uo b hb)with e|hb
 ·rw[e];exact I.free
 ·let⟨_,⟨o,ho,_⟩⟩:=I.ok.ku.mem hb
  exact I.base.free b o ho (I.ok.Fm b hb) λz=>I.ok.pQ b z hb
theorem Inv.step(I:Inv X pins σ H s)
  (Gj:∀b∈ch,(b∈X.ex∨X.s₀.heap.objs.size≤b)∧b≠X.env.locals∧(∀x c,X.env.cells.lookup x=some c→c≠b)∧∀p∈X.pn++pins,p.1≠b)
  (keep:∀b o,b≠X.env.locals→b∉X.fs→b∉ch→s.heap.get? b=some o→H b=none→h'.get? b=some o)
  (slot:∀b o,b≠X.env.locals→b∈X.fs→b∉ch→s.heap.get? b=some o→H b=none→∃sl,h'.get? b=some {o with slots:=sl}) (free:∀b o,b∉ch→s.heap.get? b=some o→H b=none→H' b=none)
  (there:∀b o,b∉ch→s.heap.get? b=some o→∃o',h'.get? b=some o')
  (gc:∀b xs,H b=some (.tup xs)→H' b=some (.tup xs)) (fW:∀b o u,H b=some (.frz o u)→H' b=some (.frz o u)) (fL:∀b ps,H b=some (.tbl ps)→∃more,H' b=some (.tbl (ps++more)))
  (ns:∀m,s.heap.Ns X.env.locals m→h'.Ns X.env.locals m) (bp:jJ X.prog X.w H' h') (hg:AllBare g') :
  Inv X pins σ H' {s with heap:=h',gens:=g',drawn:=d',toks:=t'}:=by
 have V5:∀b o,X.s₀.heap.get? b=some o→b≠X.env.locals:=λb o e=>aaw (aau (aak e) I.ok.above);have RD:∀b o,X.s₀.heap.get? b=some o→b∉X.ex→b∉ch:=λb o e hx hb=>by
  rcases(Gj b hb).1 with z|z
  ·exact hx z
  ·exact absurd (aau (aak e) z) (abo _)
 have cellK:∀x c,X.env.cells.lookup x=some c→∀v,s.heap.IsCell c v→h'.IsCell c v:=λx c e v ξ=>Ξ12 ξ λo ho hd=>by
  have ES:c∉ch:=λz=>(Gj c z).2.2.1 x c e rfl;by_cases hc:c∈X.fs
  ·let⟨sl,q⟩:=slot c o (I.Iw x c e) hc ES ho (I.fh x c e)
   exact⟨_,q,hd⟩
  ·exact⟨o,keep c o (I.Iw x c e) hc ES ho (I.fh x c e),hd⟩
 exact⟨I.ok,I.os,hg,⟨λb o e n hb hx=>?_,λb o e n hb hx=>?_,λb o e n hx=>?_,λb o e hx=>?_,λb xs e=>gc b xs (I.base.gc b xs e),λb o xs e=>fW b o xs (I.base.fW b o xs e),λb ps e=>?_⟩,?_,λx c e=>?_,?_,λx c e=>?_,λp hp=>?_,bp,I.len⟩
 ·exact keep b o (V5 b o e) hb (RD b o e hx) (I.base.keep b o e n hb hx) (I.base.free b o e n hx)
 ·let⟨sl,e1⟩:=I.base.slot b o e n hb hx
  let⟨OX,e2⟩:=slot b _ (V5 b o e) hb (RD b o e hx) e1 (I.base.free b o e n hx);exact⟨OX,e2⟩
 ·let⟨o',e1⟩:=I.base.there b o e hx
  exact free b o' (RD b o e hx) e1 (I.base.free b o e n hx)
 ·let⟨o',e1⟩:=I.base.there b o e hx
  exact there b o' (RD b o e hx) e1
 ·let⟨m1,e1⟩:=I.base.fL b ps e
  let⟨m2,e2⟩:=fL b _ e1;exact⟨m1++m2,by rw[e2,acZ]⟩
 ·let⟨m,hn,hl⟩:=I.loc
  exact⟨m,ns m hn,λi x v e1 e2 e3=>?_⟩;let⟨u,r,l⟩:=hl i x v e1 e2 e3;exact⟨u,r,?_⟩;rcases l with l|⟨k,c,e,z⟩
  ·exact .inl l
  ·exact .inr ⟨k,c,e,cellK x c e _ z⟩
 ·let⟨v,z⟩:=I.cell x c e
  exact⟨v,cellK x c e v z⟩
 ·let⟨m,⟨o,_,_,ho,_⟩,_⟩:=I.loc
  exact free _ o (λz=>(Gj _ z).2.1 rfl) ho I.free
 ·let⟨v,o,ho,hd⟩:=I.cell x c e
  exact free c o (λz=>(Gj c z).2.2.1 x c e rfl) ho (I.fh x c e)
 ·let⟨e,n,ne,nf,d⟩:=I.pin p hp
  have ES:p.1∉ch:=λz=>(Gj p.1 z).2.2.2 p hp rfl;exact⟨keep p.1 p.2 ne nf ES e n,free p.1 p.2 ES e n,ne,nf,d⟩
theorem Inv.un(I:Inv X pins σ H s)(u:Un X.fs [] H H' s.heap h')(bp:jJ X.prog X.w H' h'):Inv X pins σ H' {s with heap:=h',toks:=t'}:=by
 let⟨m,⟨o,es,ep,ho,r⟩,_⟩:=id I.loc;let⟨sl,hL⟩:=u.any ho I.free (by simp);exact I.step (g':=s.gens) (d':=s.drawn) (ch:=[]) (λ_ z=>nomatch z) (λb o _ hb _ e n=>u.keep b o e n hb (by simp)) (λb o _ hb _ e n=>u.slot b o e n hb (by simp)) (λb o _ e n=>u.free b o e n (by simp)) (λb o _ e=>u.there b o e (by simp)) u.gc u.fW u.fL (λm' hm=>by
  let⟨o',QH,Ve,m6,r'⟩:=hm;rw[ho]at m6;cases m6;exact Ψ3 _ QH Ve ⟨hL,r'⟩) bp I.bare
theorem Inv.call(I:Inv X pins σ H s)(u:Un (me X.stack) ch H H' s.heap h')(bp:jJ X.prog X.w H' h')(hg:AllBare g')
  (Gj:∀b∈ch,(b∈X.ex∨X.s₀.heap.objs.size≤b)∧b≠X.env.locals∧(∀x c,X.env.cells.lookup x=some c→c≠b)∧∀p∈X.pn++pins,p.1≠b) :
  Inv X pins σ H' {s with heap:=h',gens:=g',drawn:=d',toks:=t'}:=by
 let⟨m,⟨o,es,ep,ho,r⟩,_⟩:=id I.loc;let⟨sl,hL⟩:=u.any ho I.free λz=>(Gj _ z).2.1 rfl;exact I.step (ch:=ch) Gj (λb o hL hb hc e n=>u.keep b o e n (λz=>(aah.mp (I.uo b z)).elim hL hb) hc) (λb o _ _ hc e n=>u.any e n hc) (λb o hc e n=>u.free b o e n hc) (λb o hc e=>u.there b o e hc) u.gc u.fW u.fL (λm' hm=>by
  let⟨o',QH,Ve,m6,r'⟩:=hm;rw[ho]at m6;cases m6;exact Ψ3 _ QH Ve ⟨hL,r'⟩) bp hg
theorem Inv.turned(I:Inv X pins σ H s)(k:∀b o,b≠it→s.heap.get? b=some o→h'.get? b=some o)(hn:H it=none)(hL:it≠X.env.locals)
  (h1:it∈X.ex∨X.s₀.heap.objs.size≤it) (h2:∀x c,X.env.cells.lookup x=some c→c≠it) (h3:∀p∈X.pn++pins,p.1≠it):Inv X pins σ H {s with heap:=h',toks:=t'}:=by
 have V4:∀b u,H b=some u→b≠it:=λb u e z=>by rw[z,hn]at e;cases e
 exact I.step (g':=s.gens) (d':=s.drawn) (ch:=[it]) (λb hb=>?_) (λb o _ _ hc e _=>k b o (λz=>hc (by simp[z])) e) (λb o _ _ hc e _=>⟨o.slots,k b o (λz=>hc (by simp[z])) e⟩) (λ_ _ _ _ n=>n)
  (λb o hc e=>⟨o,k b o (λz=>hc (by simp[z])) e⟩) (λ_ _ e=>e) (λ_ _ _ e=>e) (λb ps e=>⟨#[],by rw[e];simp⟩) (λm hm=>?_) (λb u e=>?_) I.bare
 ·have e:b=it:=by simpa using hb
  subst e;exact⟨h1,hL,h2,h3⟩
 ·let⟨o,es,ep,ho,r⟩:=hm
  exact Ψ3 o es ep ⟨k _ o (abM hL) ho,r⟩
 ·exact(I.bp b u e).fM (λc v hc q=>k c v ?_ q) (λ_ q=>q) λ_ _ q=>q
  rcases hc with z|z
  ·rw[z];exact V4 b u e
  ·exact V4 c _ z
theorem Inv.tok(I:Inv X pins σ H s)(t:Nat):Inv X pins σ H {s with toks:=t}:=I.un (h':=s.heap) (t':=t) Un.refl I.bp
theorem Inv.kept(I:Inv X pins σ H s)(k:∀b u,s.heap.get? b=some u→h'.get? b=some u):Inv X pins σ H {s with heap:=h',toks:=t'}:=I.un (Un.kept k) (I.bp.kept k)
theorem Inv.laid(I:Inv X pins σ H s)(k:∀b u,s.heap.get? b=some u→h'.get? b=some u)(hp:s.heap.objs.size≤a)(new:bS X.prog X.w (upd H a o) h' a o):
  Inv X pins σ (upd H a o) {s with heap:=h',toks:=t'}:=I.un (Un.laid k hp (I.bp.fresh hp)) (I.bp.laid k hp new)
theorem Inv.write{x e:Addr}(I:Inv X pins σ H s)(mu:Rh (H x))(he:e=x∨H e=some (.own x))(k:∀b u,b≠e→s.heap.get? b=some u→h'.get? b=some u)(Nq:∃u,h'.get? e=some u)
  (new:bS X.prog X.w (upd H x o) h' x o):Inv X pins σ (upd H x o) {s with heap:=h',toks:=t'}:=I.un (Un.write mu he k Nq) (I.bp.write mu he k Nq new)
theorem Inv.Am{qM:ad}(I:Inv X pins σ H s)(h:∀p∈qM,s.heap.get? p.1=some p.2∧H p.1=none∧p.1≠X.env.locals∧p.1∉X.fs∧∀v,p.2.data≠.cell v):Inv X qM σ H s:=
 ⟨I.ok,I.os,I.bare,I.base,I.loc,I.cell,I.free,I.fh,λp hp=>(aaX.mp hp).elim (λz=>I.pin p (adC _ z)) (h p),I.bp,I.len⟩
theorem qW(hN:N.Nodup)(a:N[i]?=some x)(b:N[j]?=some x):i=j:=by
 obtain⟨h1,e1⟩:=aat.mp a;obtain⟨h2,e2⟩:=aat.mp b;exact(List.getElem_inj hN).mp (e1.trans e2.symm)
theorem tJ{Q:Unit→Shared→Prop}(I:Inv X pins σ H s)(hN:X.N.Nodup)(hi:X.N[i]?=some x)(hx:Loc X.env.scope x)(r:RelV v u)
  (h:∀s',Inv X pins (σ.set i (some v)) H s'→(∃a,Heap.SameBut a s.heap s'.heap∧(a=X.env.locals∨X.env.cells.lookup x=some a))→Q () s') (hf:Fk X x:=by first|exact .inl rfl|exact .inr rfl|assumption):wpAny M A (storeName X.env x u) Q E s:=by
 let⟨m,hn,hl⟩:=id I.loc;have sQ:(X.env.scope.kind == .class||(X.env.scope.kind == .module&&X.env.locals != X.env.globals))=false:=by rw[I.ok.kind];rfl
 have WG:i<σ.length:=by rw[I.len];exact(aat.mp hi).1
 have Iw:=I.Iw;have tracked:∀{a:Addr} {h':Heap},(∃o,s.heap.get? a=some o∧H a=none)→Heap.SameBut a s.heap h'→jJ X.prog X.w H h':=λ{a h'} ha hs b ob e=>by
  let⟨_,_,JD⟩:=ha;exact(I.bp b ob e).fM (λc w' hc q=>(hs.2 c ?_).trans q) (λ_ q=>q) λ_ _ q=>q;rintro rfl;rcases hc with rfl|hc
  ·rw[JD]at e;cases e
  ·rw[JD]at hc;cases hc
 rcases hx with hk|hk
 ·exact wpAny_storeName_local hk hn (λh' Qj hs=>?_) sQ
  let⟨oL,_,_,YU,_⟩:=id hn;exact h _ ⟨I.ok,I.os,I.bare,⟨λb o e n hb hx=>?_,λb o e n hb hx=>?_,I.base.free,λb o e hx=>?_,I.base.gc,I.base.fW,I.base.fL⟩,⟨_,Qj,λj y v' e1 e2 e3=>?_⟩,λy c e=>?_,I.free,I.fh,λp hp=>?_,tracked ⟨oL,YU,I.free⟩ hs,by simpa using I.len⟩ ⟨_,hs,.inl rfl⟩
  ·exact(hs.2 b (aaw (aau (aak e) I.ok.above))).trans (I.base.keep b o e n hb hx)
  ·let⟨sl,e1⟩:=I.base.slot b o e n hb hx
   exact⟨sl,(hs.2 b (aaw (aau (aak e) I.ok.above))).trans e1⟩
  ·let⟨o',e1⟩:=I.base.there b o e hx
   exact⟨o',(hs.2 b (aaw (aau (aak e) I.ok.above))).trans e1⟩
  ·by_cases hj:j=i
   ·subst hj
    rw[hi]at e1;cases e1;rw[acv WG]at e2;cases e2;exact⟨u,r,.inl ⟨hk,by simp⟩⟩
   ·rw[abO (abM hj)]at e2
    let⟨u',r',q⟩:=hl j y v' e1 e2 e3;exact⟨u',r',?_⟩;rcases q with⟨k,e⟩|⟨k,c,e,z⟩
    ·exact .inl ⟨k,?_⟩
     have:y≠x:=λe=>hj (qW hN e1 (e ▸ hi));simp[this,e]
    ·exact .inr ⟨k,c,e,z.sameBut hs (Iw y c e)⟩
  ·let⟨w',z⟩:=I.cell y c e
   exact⟨w',z.sameBut hs (Iw y c e)⟩
  ·let⟨e,n,ne,nf,d⟩:=I.pin p hp
   exact⟨(hs.2 p.1 ne).trans e,n,ne,nf,d⟩
 ·have UO:X.fn x=true:=by
   rcases hf with z|z
   ·exact z
   ·rw[z]at hk;cases hk
  let⟨c,hc⟩:=I.ok.has x (.inl hk);let⟨w',z⟩:=I.cell x c hc;exact wpAny_storeName_cell I.ok.kind hk hc z (λh' Ct hs=>?_);let⟨oc,Mg,UC⟩:=id z;exact h {s with heap:=h'} ⟨I.ok,I.os,I.bare,⟨λb o e n hb hx=>?_,λb o e n hb hx=>?_,I.base.free,λb o e hx=>?_,I.base.gc,I.base.fW,I.base.fL⟩,⟨m,hn.sameBut hs (abM (Iw x c hc)),λj y v' e1 e2 e3=>?_⟩,λy c' e=>?_,I.free,I.fh,λp hp=>?_,tracked ⟨oc,Mg,I.fh x c hc⟩ hs,by simpa using I.len⟩ ⟨c,hs,.inr hc⟩
  ·exact(hs.2 b (aaw (aau (aak e) (I.ok.IE x c UO hc)))).trans (I.base.keep b o e n hb hx)
  ·let⟨sl,e1⟩:=I.base.slot b o e n hb hx
   exact⟨sl,(hs.2 b (aaw (aau (aak e) (I.ok.IE x c UO hc)))).trans e1⟩
  ·let⟨o',e1⟩:=I.base.there b o e hx
   exact⟨o',(hs.2 b (aaw (aau (aak e) (I.ok.IE x c UO hc)))).trans e1⟩
  ·by_cases hj:j=i
   ·subst hj
    rw[hi]at e1;cases e1;rw[acv WG]at e2;cases e2;exact⟨u,r,.inr ⟨.inl hk,c,hc,Ct⟩⟩
   ·rw[abO (abM hj)]at e2
    let⟨u',r',q⟩:=hl j y v' e1 e2 e3;exact⟨u',r',?_⟩;rcases q with q|⟨k,c',e,z'⟩
    ·exact .inl q
    ·exact .inr ⟨k,c',e,z'.sameBut hs ?_⟩
     rintro rfl;exact hj (qW hN e1 (I.ok.inj _ _ _ e hc ▸ hi))
  ·by_cases WK:c'=c
   ·subst WK;exact⟨_,Ct⟩
   ·let⟨w2,z2⟩:=I.cell y c' e
    exact⟨w2,z2.sameBut hs WK⟩
  ·let⟨e,n,ne,nf,d⟩:=I.pin p hp
   exact⟨(hs.2 p.1 ?_).trans e,n,ne,nf,d⟩;intro q;rw[q,Mg]at e;have q':oc=p.2:=aaW e;exact d w' (by rw[←q'];exact UC)
theorem mF{Q:Unit→Shared→Prop}(I:Inv X pins σ H s)(hN:X.N.Nodup)(hi:X.N[i]?=some x)(hx:Loc X.env.scope x)(r:RelV v u)
  (h:∀s',Inv X pins (σ.set i (some v)) H s'→Q () s') (hf:Fk X x:=by first|exact .inl rfl|exact .inr rfl|assumption):wpAny M A (storeName X.env x u) Q E s:=
 tJ I hN hi hx r (λs' I' _=>h s' I') hf
theorem Inv.JR(I:Inv X pins σ H s)(ho:s'.os=s.os)(u:Un (me X.stack) ch H H' s.heap s'.heap)(bp:jJ X.prog X.w H' s'.heap)(hg:AllBare s'.gens)
  (Gj:∀b∈ch,(b∈X.ex∨X.s₀.heap.objs.size≤b)∧b≠X.env.locals∧(∀x c,X.env.cells.lookup x=some c→c≠b)∧∀p∈X.pn++pins,p.1≠b):Inv X pins σ H' s':=by
 obtain⟨h',g',d',t',o'⟩:=s';have e:o'=s.os:=ho;subst e;exact I.call (g':=g') (t':=t') (d':=d') u bp hg Gj
end
abbrev XK:=Value→Option Addr→Hp→Prop
abbrev St:=List (Option V)
abbrev VK:=V→Hp→Prop
abbrev TE:=St→Hp→VK→Prop
abbrev TT:=St→Hp→(Bool→Hp→Prop)→Prop
abbrev TA:=St→Hp→(List V→Hp→Prop)→Prop
structure Ends where
 nx:St→Hp→Prop
 rt:VK
 bk:St→Hp→Prop:=λ_ _=>False
 ct:St→Hp→Prop:=λ_ _=>False
abbrev TS:=Ends→St→Hp→Prop
def EP(X:Cx)(pins:ad)(σ:St)(Q:VK)(u:Value)(s':Shared):Prop:=∃v H',Inv X pins σ H' s'∧RelV v u∧Q v H'
def TP(X:Cx)(pins:ad)(σ:St)(Q:Bool→Hp→Prop)(b:Bool)(s':Shared):Prop:=∃H',Inv X pins σ H' s'∧Q b H'
def AP(X:Cx)(pins:ad)(σ:St)(Q:List V→Hp→Prop)(us:List Value)(s':Shared):Prop:=∃vs H',Inv X pins σ H' s'∧Vals vs us∧Q vs H'
def SP(X:Cx)(pins:ad)(D:Ends)(f:Flow)(s':Shared):Prop:=
 match f with
 |.next=>∃σ' H',Inv X pins σ' H' s'∧D.nx σ' H'
 |.brk=>∃σ' H',Inv X pins σ' H' s'∧D.bk σ' H'
 |.cont=>∃σ' H',Inv X pins σ' H' s'∧D.ct σ' H'
 |.ret u=>∃v σ' H',Inv X pins σ' H' s'∧RelV v u∧D.rt v H'
structure PE(X:Cx)(e:Expr)(t:TE):Prop where
 run:∀pins s σ H (Q:VK),Inv X pins σ H s→t σ H Q→wpAny (model X.prog X.w) X.A (eval e X.env) (EP X pins σ Q) X.xe s
instance {X:Cx}{e:Expr}{t:TE}:CoeFun (PE X e t) λ_=>∀pins s σ H (Q:VK),Inv X pins σ H s→t σ H Q→wpAny (model X.prog X.w) X.A (eval e X.env) (EP X pins σ Q) X.xe s:=⟨PE.run⟩
structure PT(X:Cx)(e:Expr)(t:TT):Prop where
 run:∀pins s σ H (Q:Bool→Hp→Prop),Inv X pins σ H s→t σ H Q→wpAny (model X.prog X.w) X.A (isTrue e X.env (eval e X.env)) (TP X pins σ Q) X.xe s
instance {X:Cx}{e:Expr}{t:TT}:CoeFun (PT X e t) λ_=>∀pins s σ H (Q:Bool→Hp→Prop),Inv X pins σ H s→t σ H Q→wpAny (model X.prog X.w) X.A (isTrue e X.env (eval e X.env)) (TP X pins σ Q) X.xe s:=⟨PT.run⟩
structure PW(X:Cx)(e:Expr)(t:TT):Prop where
 run:∀(whole:Sem Value) pins s σ H (Q:Bool→Hp→Prop),Inv X pins σ H s→t σ H Q→wpAny (model X.prog X.w) X.A (isTrue e X.env whole) (TP X pins σ Q) X.xe s
instance {X:Cx}{e:Expr}{t:TT}:CoeFun (PW X e t) λ_=>∀(whole:Sem Value) pins s σ H (Q:Bool→Hp→Prop),Inv X pins σ H s→t σ H Q→wpAny (model X.prog X.w) X.A (isTrue e X.env whole) (TP X pins σ Q) X.xe s:=⟨PW.run⟩
theorem PW.pt{t:TT}(h:PW X e t):PT X e t:=⟨h.run _⟩
structure PA(X:Cx)(es:List Expr)(t:TA):Prop where
 run:∀(pos:Pos) pins s σ H (Q:List V→Hp→Prop),Inv X pins σ H s→t σ H Q→wpAny (model X.prog X.w) X.A (spliced (backTo pos (starEach es X.env))) (AP X pins σ Q) X.xe s
instance {X:Cx}{es:List Expr}{t:TA}:CoeFun (PA X es t) λ_=>∀(pos:Pos) pins s σ H (Q:List V→Hp→Prop),Inv X pins σ H s→t σ H Q→wpAny (model X.prog X.w) X.A (spliced (backTo pos (starEach es X.env))) (AP X pins σ Q) X.xe s:=⟨PA.run⟩
structure PS(X:Cx)(st:Stmt)(t:TS):Prop where
 run:∀pins s σ H (D:Ends),Inv X pins σ H s→t D σ H→wpAny (model X.prog X.w) X.A (exec st X.env) (SP X pins D) X.xe s
instance {X:Cx}{st:Stmt}{t:TS}:CoeFun (PS X st t) λ_=>∀pins s σ H (D:Ends),Inv X pins σ H s→t D σ H→wpAny (model X.prog X.w) X.A (exec st X.env) (SP X pins D) X.xe s:=⟨PS.run⟩
structure kI(X:Cx)(st:List Stmt)(t:TS):Prop where
 run:∀pins s σ H (D:Ends),Inv X pins σ H s→t D σ H→wpAny (model X.prog X.w) X.A (execs st X.env) (SP X pins D) X.xe s
instance {X:Cx}{st:List Stmt}{t:TS}:CoeFun (kI X st t) λ_=>∀pins s σ H (D:Ends),Inv X pins σ H s→t D σ H→wpAny (model X.prog X.w) X.A (execs st X.env) (SP X pins D) X.xe s:=⟨kI.run⟩
theorem bD{α:Type}{t:Sem α}{Q Q':α→Shared→Prop}(h:wpAny M A t Q E s)(hQ:∀a s,Q a s→Q' a s):wpAny M A t Q' E s:=aaB h hQ λ_ _ x=>x
section
def Ox(i:Nat):TE:=λσ H Q=>∃v,σ[i]?=some (some v)∧Q v H
def tC(v:V):TE:=λ_ H Q=>Q v H
theorem yN(hN:X.N[i]?=some x)(hv:ND X.env.scope x)(hd:(x ==("__debug__" : Str))=false:=by decide)(pO:(x ==("__classdict__" : Str))=false:=by decide):PE X (.Name x pos) (Ox i):=by
 exact .mk ?_;intro pins s σ H Q I h;obtain⟨v,e,h⟩:=h;let⟨m,hn,hl⟩:=I.loc;let⟨u,r,l⟩:=hl i x v hN e hv;have fin:EP X pins σ Q u s:=Ψ2 v H ⟨I,r,h⟩;rcases l with⟨hk,hm⟩|⟨hk,c,hc,AI⟩
 ·exact wpAny_Name (wpAny_loadName_local I.ok.kind hk hn hm fin) hd
 ·rcases hk with hk|hk
  ·exact wpAny_Name (wpAny_loadName_cell I.ok.kind hk hc AI fin) hd
  ·exact wpAny_Name (wpAny_loadName_free I.ok.kind hk hc AI fin pO) hd
theorem aG{i j pos}:PE X (.Constant (.int i) j pos) (tC (.int i)):=.mk λ_ _ _ H _ I h=>wpAny_Constant_int ⟨.int i,H,I.tok _,⟨_,rfl⟩,h⟩
theorem Pw{b j pos}:PE X (.Constant (.bool b) j pos) (tC (.bl b)):=.mk λ_ _ _ H _ I h=>Constant_bool ⟨.bl b,H,I,rfl,h⟩
theorem LF{j pos}:PE X (.Constant .none j pos) (tC .non):=.mk λ_ _ _ H _ I h=>Constant_none ⟨.non,H,I,rfl,h⟩
theorem bV{x j pos}:PE X (.Constant (.str x) j pos) (tC (.str x)):=.mk λ_ _ _ H _ I h=>Calls.Constant_str ⟨.str x,H,I.tok _,⟨_,rfl⟩,h⟩
def Gl(X:Cx)(x:Str):Prop:=X.env.kindOf x=some .globalImplicit
theorem mY(I:Inv X pins σ H s)(hg:Gl X x)(hm:X.mg x=some u)(h:Q u s)
  (hd:(x ==("__debug__" : Str))=false:=by decide):wpAny (model X.prog X.w) X.A (eval (.Name x pos) X.env) Q E s:=
 Calls.Name_function_global I.ok.kind hg (Calls.loadGlobal_global (by rw[I.ok.glob];exact I.mod.glob.keeps I.bk) hm h) hd
theorem gZ(I:Inv X pins σ H s)(hg:Gl X x)(hm:X.mg x=none)(hv:bootBuiltins x=some u)(h:Q u s)
  (hn:x ≠ "__name__" := by decide) (hd:(x ==("__debug__" : Str))=false:=by decide):wpAny (model X.prog X.w) X.A (eval (.Name x pos) X.env) Q E s:=by
 let⟨mb,h1,h2⟩:=I.mod.blt;exact Calls.Name_function_global I.ok.kind hg (Calls.loadGlobal_builtin (by rw[I.ok.glob];exact I.mod.glob.keeps I.bk) hm (by rw[I.ok.blt];exact h1.keeps I.bk) ((h2 x hn).trans hv) h) hd
theorem Hg(hg:Gl X x)(hm:X.mg x=some u)(r:RelV v u)(hd:(x ==("__debug__" : Str))=false:=by decide):PE X (.Name x pos) (tC v):=
 .mk λ_ _ _ H _ I h=>mY I hg hm ⟨v,H,I,r,h⟩ hd
theorem Aq(hg:Gl X x)(hm:X.mg x=none)(hv:bootBuiltins x=some u)(r:RelV v u)(hn:x ≠ "__name__" := by decide)(hd:(x ==("__debug__" : Str))=false:=by decide):PE X (.Name x pos) (tC v):=
 .mk λ_ _ _ H _ I h=>gZ I hg hm hv ⟨v,H,I,r,h⟩ hn hd
variable {a b:Expr}{tb:TE}
structure PC(X:Cx)(op:CmpOp)(a b:Expr)(t:TE):Prop where
 run:∀pins s σ H (Q:VK),Inv X pins σ H s→t σ H Q→
  wpAny (model X.prog X.w) X.A (eval a X.env) (λv s₁=>wpAny (model X.prog X.w) X.A (eval b X.env) (λu s₂=>wpAny (model X.prog X.w) X.A (compareOp op v u) (EP X pins σ Q) X.xe s₂) X.xe s₁) X.xe s
instance {X:Cx}{op:CmpOp}{a b:Expr}{t:TE}:CoeFun (PC X op a b t) λ_=>∀pins s σ H (Q:VK),Inv X pins σ H s→t σ H Q→wpAny (model X.prog X.w) X.A (eval a X.env) (λv s₁=>wpAny (model X.prog X.w) X.A (eval b X.env) (λu s₂=>wpAny (model X.prog X.w) X.A (compareOp op v u) (EP X pins σ Q) X.xe s₂) X.xe s₁) X.xe s:=⟨PC.run⟩
def tB(t:TE):TT:=λσ H Q=>t σ H λx H1=>∃c,x=.bl c∧Q c H1
theorem Lo{t:TE}(h:PE X e t)(he:∀whole,isTrue e X.env whole=(do let v ←whole;standAt e.pos;holding [v] (truthy v)):=by intro _;rfl):PT X e (tB t):=by
 exact .mk ?_;intro pins s σ H Q I hw;exact isTrue_plain (bD (h pins s σ H _ I hw) λv s1 ξ=>Ξ23 ξ λx H1 I1 r1 q1=>?_) (he _);let⟨d,rfl,q⟩:=q1;cases r1;exact abG ⟨H1,I1,q⟩
variable {tA OK:TT}{rest:List Expr}
def Tb(t u:TT):TT:=λσ H Q=>t σ H λc H1=>if c=true then u σ H1 Q else Q false H1
def XG(t u:TT):TT:=λσ H Q=>t σ H λc H1=>if c=true then Q true H1 else u σ H1 Q
def S2(t:TT):TT:=λσ H Q=>t σ H λc H1=>Q (!c) H1
theorem uF(ha:PT X a tA):PW X (.BoolOp .And [a] pos) tA:=by
 exact .mk ?_;intro wh pins s σ H Q I h;exact isTrue_and (bD (ha pins s σ H Q I h) λc s1 e=>?_);cases c with
 |true=>exact isTrue_and_nil e
 |false=>exact e
theorem Ln(ha:PT X a tA):PW X (.BoolOp .Or [a] pos) tA:=by
 exact .mk ?_;intro wh pins s σ H Q I h;exact isTrue_or (bD (ha pins s σ H Q I h) λc s1 e=>?_);cases c with
 |false=>exact isTrue_or_nil e
 |true=>exact e
theorem uG(ha:PT X a tA)(hb:PW X (.BoolOp .And (b::rest) pos) OK):PW X (.BoolOp .And (a::b::rest) pos) (Tb tA OK):=by
 exact .mk ?_;intro wh pins s σ H Q I h;exact isTrue_and (bD (ha pins s σ H _ I h) λc s1 ξ=>Ξ12 ξ λH1 I1 q1=>?_);cases c with
 |true=>exact hb wh pins s1 σ H1 Q I1 q1
 |false=>exact⟨H1,I1,q1⟩
theorem Po(ha:PT X a tA)(hb:PW X (.BoolOp .Or (b::rest) pos) OK):PW X (.BoolOp .Or (a::b::rest) pos) (XG tA OK):=by
 exact .mk ?_;intro wh pins s σ H Q I h;exact isTrue_or (bD (ha pins s σ H _ I h) λc s1 ξ=>Ξ12 ξ λH1 I1 q1=>?_);cases c with
 |true=>exact⟨H1,I1,q1⟩
 |false=>exact hb wh pins s1 σ H1 Q I1 q1
theorem Lp(ha:PT X a tA):PT X (.UnaryOp .Not a pos) (S2 tA):=by
 exact .mk ?_;intro pins s σ H Q I h;exact isTrue_not (ha pins s σ H (λc H1=>Q (!c) H1) I h)
def OL(ta tb:TE):TE:=λσ H Q=>ta σ H λx H1=>∃c,x=.bl c∧if c=true then tb σ H1 Q else Q (.bl false) H1
def OB(ta:TE):TE:=λσ H Q=>ta σ H λx H1=>∃c,x=.bl c∧Q (.bl (!c)) H1
theorem LC{op}{t:TE}(h:PE X a t):PE X (.BoolOp op [a] pos) t:=.mk λpins s σ H Q I hw=>BoolOp_one (h pins s σ H Q I hw)
theorem LI(ha:PE X a ta)(hb:PE X (.BoolOp .And (b::rest) pos) tb):PE X (.BoolOp .And (a::b::rest) pos) (OL ta tb):=by
 exact .mk ?_;intro pins s σ H Q I h;exact BoolOp_and (bD (ha pins s σ H _ I h) λv s1 ξ=>Ξ23 ξ λx H1 I1 r1 q1=>?_);obtain⟨c,rfl,q1⟩:=q1;cases r1;exact abG ?_;cases c with
 |true=>exact hb pins s1 σ H1 Q I1 q1
 |false=>exact Ψ2 (.bl false) H1 ⟨I1,rfl,q1⟩
theorem LD(ha:PE X a ta):PE X (.UnaryOp .Not a pos) (OB ta):=by
 exact .mk ?_;intro pins s σ H Q I h;exact UnaryOp_ (bD (ha pins s σ H _ I h) λv s1 ξ=>Ξ23 ξ λx H1 I1 r1 q1=>?_);obtain⟨c,rfl,q1⟩:=q1;cases r1;exact not_of (abG ⟨.bl (!c),H1,I1,rfl,q1⟩)
def XI(t:TT)(ta tb:TE):TE:=λσ H Q=>t σ H λc H1=>if c=true then ta σ H1 Q else tb σ H1 Q
theorem Ed(hc:PT X c tA)(ha:PE X a ta)(hb:PE X b tb):PE X (.IfExp c a b pos) (XI tA ta tb):=by
 exact .mk ?_;intro pins s σ H Q I h;exact wpAny_IfExp (bD (hc pins s σ H _ I h) λd s1 ξ=>Ξ12 ξ λH1 I1 q1=>?_);cases d with
 |true=>exact ha pins s1 σ H1 Q I1 q1
 |false=>exact hb pins s1 σ H1 Q I1 q1
end
def eh(K:W.Frag)(H:Hp)(a:Addr)(xs:List V):Prop:=
 Rd H a (.lst xs) ∨
  ∃(o:Obj) (its:Array Value) (n:Nat),K.lookup a=some o∧o.cls=.type "list" ∧ o.dict=none∧o.data=.seq its n∧its.size≤sizeLine∧Vals xs its.toList
def cW(K:W.Frag)(H:Hp)(a:Addr)(xs:List V):Prop:=
 Rd H a (.tup xs) ∨
  ∃(o:Obj) (its:Array Value) (n:Nat),K.lookup a=some o∧o.cls=.type "tuple" ∧ o.data=.seq its n∧its.size≤sizeLine∧Vals xs its.toList
def Vl:Value→Option V
 |.none=>some .non
 |.bool b=>some (.bl b)
 |.int i _=>some (.int i)
 |.str x _=>some (.str x)
 |.bytes b _=>some (.byt b)
 |.float b _=>some (.flt b)
 |.ref a=>some (.ref a)
 |.type n=>some (.ty n)
 |_=>none
theorem RelV.abs{x:V}(r:RelV x u):Vl u=some x:=by
 cases x with
 |non=>cases r;rfl
 |bl _=>cases r;rfl
 |int _=>let⟨t,rfl⟩:=r;rfl
 |str _=>let⟨t,rfl⟩:=r;rfl
 |byt _=>let⟨t,rfl⟩:=r;rfl
 |flt _=>let⟨t,rfl⟩:=r;rfl
 |ref _=>cases r;rfl
 |ty _=>cases r;rfl
theorem RelV.inj{x:V}(r:RelV x u)(q:RelV y u):x=y:=aaW (r.abs.symm.trans q.abs)
theorem Vals.inj:∀{xs ys:List V} {us:List Value},Vals xs us→Vals ys us→xs=ys
 |_,_,_,.nil,.nil=>rfl
 |_,_,_,.cons r t,.cons r' t'=>by rw[r.inj r',Vals.inj t t']
section
variable {ys:List V}
theorem eh.of(h:H a=some (.lst xs)):eh K H a xs:=.inl (.inl h)
theorem cW.of(h:H a=some (.tup xs)):cW K H a xs:=.inl (.inl h)
theorem Inv.list(I:Inv X pins σ H s)(h:eh X.K H a xs):∃its:List Value,Vals xs its∧PlainL s.heap a its.toArray∧xs.length≤sizeLine:=by
 rcases h with h|⟨o,its,n,hk,hc,hd,hs,hz,r⟩
 ·let⟨z,⟨its,n,r,e⟩⟩:=h.ok I.bp
  exact⟨its,r,Ψ2 _ n ⟨e,rfl,rfl,rfl⟩,z⟩
 ·exact⟨its.toList,r,Ψ2 o n ⟨I.rn a o hk,hc,hd,by simpa using hs⟩,?_⟩
  have e:=r.length;simp only[aaY]at e;lia
theorem Inv.tuple(I:Inv X pins σ H s)(h:cW X.K H a xs):∃its:List Value,Vals xs its∧IsTup s.heap a its.toArray∧xs.length≤sizeLine:=by
 rcases h with h|⟨o,its,n,hk,hc,hs,hz,r⟩
 ·let⟨z,⟨its,r,p⟩⟩:=h.ok I.bp
  exact⟨its,r,p,z⟩
 ·exact⟨its.toList,r,⟨o,I.rn a o hk,hc,n,by simpa using hs⟩,?_⟩
  have e:=r.length;simp only[aaY]at e;lia
theorem Inv.wM(I:Inv X pins σ H s)(h:eh X.K H a xs)(h':eh X.K H a ys):xs=ys:=by
 let⟨its,r,⟨o,n,e,_,_,d⟩,_⟩:=I.list h;let⟨its',r',⟨o',n',e',_,_,d'⟩,_⟩:=I.list h';rw[e]at e';cases e';rw[d]at d';injection d' with d1 _
 have:its=its':=by simpa using abc Array.toList d1
 subst this;exact r.inj r'
theorem Inv.n9(I:Inv X pins σ H s)(h:cW X.K H a xs)(h':cW X.K H a ys):xs=ys:=by
 let⟨its,r,⟨o,e,_,⟨n,d⟩⟩,_⟩:=I.tuple h;let⟨its',r',⟨o',e',_,⟨n',d'⟩⟩,_⟩:=I.tuple h';rw[e]at e';cases e';rw[d]at d';injection d' with d1 _
 have:its=its':=by simpa using abc Array.toList d1
 subst this;exact r.inj r'
end
abbrev Cx.sh(X:Cx)(E:xz):Cx:={X with xe:=E}
abbrev Cx.iA(X:Cx):Cx:=X.sh λ_ _=>False
theorem Cx.Ok.sh(ok:X.Ok)(E:xz):(X.sh E).Ok:=
 ⟨ok.mod,ok.kind,ok.glob,ok.blt,ok.above,ok.inj,ok.has,ok.IE,ok.hd,ok.frames,ok.Jc,ok.Gm,ok.bs,ok.Cw,ok.uP,ok.pQ,ok.ku,ok.Fm⟩
theorem Cx.Ok.jM(ok:(X.sh E).Ok):X.Ok:=
 ⟨ok.mod,ok.kind,ok.glob,ok.blt,ok.above,ok.inj,ok.has,ok.IE,ok.hd,ok.frames,ok.Jc,ok.Gm,ok.bs,ok.Cw,ok.uP,ok.pQ,ok.ku,ok.Fm⟩
section
theorem Inv.sh(I:Inv X pins σ H s)(E:xz):Inv (X.sh E) pins σ H s:=⟨I.ok.sh E,I.os,I.bare,I.base,I.loc,I.cell,I.free,I.fh,I.pin,I.bp,I.len⟩
theorem Inv.jM(I:Inv (X.sh E) pins σ H s):Inv X pins σ H s:=⟨I.ok.jM,I.os,I.bare,I.base,I.loc,I.cell,I.free,I.fh,I.pin,I.bp,I.len⟩
theorem SP.jM{f:Flow}(h:SP (X.sh E) pins D f s'):SP X pins D f s':=by
 cases f with
 |next=>let⟨σ',H',I,q⟩:=h;exact Ψ2 σ' H' ⟨I.jM,q⟩
 |brk=>let⟨σ',H',I,q⟩:=h;exact Ψ2 σ' H' ⟨I.jM,q⟩
 |cont=>let⟨σ',H',I,q⟩:=h;exact Ψ2 σ' H' ⟨I.jM,q⟩
 |ret u=>let⟨v,σ',H',I,r,q⟩:=h;exact Ψ3 v σ' H' ⟨I.jM,r,q⟩
theorem kI.iA{st:List Stmt}{t:TS}(h:kI X.iA st t):kI X st t:=.mk λpins s σ H D I hw=>
 aaB (h pins s σ H D (I.sh _) hw) (λ_ _ q=>q.jM) λ_ _ z=>False.elim z
end
section
variable {st:Stmt}{rest:List Stmt}{t u:TS}
def OC:TS:=λD σ H=>D.nx σ H
def S0(t u:TS):TS:=λD σ H=>t {D with nx:=u D} σ H
theorem bJ:kI X [] OC:=.mk λ_ _ σ H _ I h=>adJ ⟨σ,H,I,h⟩
theorem aI(h1:PS X st t)(h2:kI X rest u):kI X (st::rest) (S0 t u):=by
 exact .mk ?_;intro pins s σ H D I h;exact wpAny_execs_cons (bD (h1 pins s σ H {D with nx:=u D} I h) λf s1 q=>?_);cases f with
 |next=>
  obtain⟨σ',H',I',q⟩:=q;exact h2 pins s1 σ' H' D I' q
 |ret v=>exact q
 |brk=>exact q
 |cont=>exact q
theorem Inv.quiet(I:Inv X pins σ H s):interactive X.env=false:=by simp[interactive,I.ok.kind]
def OG(te:TE):TS:=λD σ H=>te σ H λ_ H1=>D.nx σ H1
theorem uH(he:PE X e te)(hs:swapsWith e none pos.line X.env=pure false:=by rfl):PS X (.Expr e pos) (OG te):=by
 exact .mk ?_;intro pins s σ H D I h;exact wpAny_Expr_any (bD (he pins s σ H _ I h) λv s1 ξ=>Ξ23 ξ λx H1 I1 r1 q1=>Ψ2 σ H1 ⟨I1,q1⟩) I.quiet hs
def S1(te:TE):TS:=λD σ H=>te σ H D.rt
theorem ju(he:PE X e te):PS X (.Return (some e) pos) (S1 te):=by
 exact .mk ?_;intro pins s σ H D I h;exact wpAny_Return_some (bD (he pins s σ H _ I h) λv s1 ξ=>Ξ23 ξ λx H1 I1 r1 q1=>Ψ3 x σ H1 ⟨I1,r1,q1⟩)
def S5(c:TT)(t u:TS):TS:=λD σ H=>c σ H λb H1=>if b=true then t D σ H1 else u D σ H1
theorem mP{a b:List Stmt}(hc:PT X c tc)(ha:kI X a t)(hb:kI X b u):PS X (.If c a b pos) (S5 tc t u):=by
 exact .mk ?_;intro pins s σ H D I h;exact wpAny_If (bD (hc pins s σ H _ I h) λd s1 ξ=>Ξ12 ξ λH1 I1 q1=>?_);cases d with
 |true=>exact ha pins s1 σ H1 D I1 q1
 |false=>exact hb pins s1 σ H1 D I1 q1
end
abbrev TG:=V→St→Hp→(St→Hp→Prop)→Prop
abbrev F0:=List V→St→Hp→(St→Hp→Prop)→Prop
structure PG(X:Cx)(target:Expr)(t:TG):Prop where
 run:∀pins s σ H (v:V) (u:Value) (Q:St→Hp→Prop),Inv X pins σ H s→RelV v u→t v σ H Q→
  wpAny (model X.prog X.w) X.A (assign target X.env u) (λ_ s'=>∃σ' H',Inv X pins σ' H' s'∧Q σ' H') X.xe s
instance {X:Cx}{target:Expr}{t:TG}:CoeFun (PG X target t) λ_=>∀pins s σ H (v:V) (u:Value) (Q:St→Hp→Prop),Inv X pins σ H s→RelV v u→t v σ H Q→wpAny (model X.prog X.w) X.A (assign target X.env u) (λ_ s'=>∃σ' H',Inv X pins σ' H' s'∧Q σ' H') X.xe s:=⟨PG.run⟩
structure Bb(X:Cx)(ts:List Expr)(t:F0):Prop where
 run:∀pins s σ H (vs:List V) (us:List Value) (Q:St→Hp→Prop),Inv X pins σ H s→Vals vs us→t vs σ H Q→
  wpAny (model X.prog X.w) X.A (assignInOrder ((assignEach ts X.env).map (·.2)) us) (λ_ s'=>∃σ' H',Inv X pins σ' H' s'∧Q σ' H') X.xe s
instance {X:Cx}{ts:List Expr}{t:F0}:CoeFun (Bb X ts t) λ_=>∀pins s σ H (vs:List V) (us:List Value) (Q:St→Hp→Prop),Inv X pins σ H s→Vals vs us→t vs σ H Q→wpAny (model X.prog X.w) X.A (assignInOrder ((assignEach ts X.env).map (·.2)) us) (λ_ s'=>∃σ' H',Inv X pins σ' H' s'∧Q σ' H') X.xe s:=⟨Bb.run⟩
abbrev M4:=V→V→V→Hp→(Hp→Prop)→Prop
def Rg(X:Cx)(t:M4):Prop:=
 ∀pins s σ H (o i v:V) (ov iv u:Value) (Q:Hp→Prop),Inv X pins σ H s→RelV o ov→RelV i iv→RelV v u→t o i v H Q→
  wpAny (model X.prog X.w) X.A (setItem ov iv u) (λ_ s'=>∃H',Inv X pins σ H' s'∧Q H') X.xe s
abbrev Vo:=V→V→Hp→VK→Prop
def PIp(X:Cx)(op:Operator)(t:Vo):Prop:=
 ∀pins s σ H (x y:V) (v u:Value) (Q:VK),Inv X pins σ H s→RelV x v→RelV y u→t x y H Q→
  wpAny (model X.prog X.w) X.A (inplaceOp op v u) (EP X pins σ Q) X.xe s
section
def JI(i:Nat):TG:=λv σ H Q=>Q (σ.set i (some v)) H
theorem p8(hN:X.N.Nodup)(hi:X.N[i]?=some x)(hx:Loc X.env.scope x)(hf:Fk X x:=by first|exact .inl rfl|exact .inr rfl|assumption):PG X (.Name x pos) (JI i):=by
 exact .mk ?_;intro pins s σ H v u Q I r h;exact wpAny_assign_Name (mF I hN hi hx r (λs' I'=>Ψ2 _ H ⟨I',h⟩) hf)
def U7:F0:=λvs σ H Q=>vs=[]∧Q σ H
def QG(t:TG)(u:F0):F0:=λvs σ H Q=>∃v r,vs=v::r∧t v σ H λσ' H'=>u r σ' H' Q
theorem Hd:Bb X [] U7:=by
 exact .mk ?_;intro pins s σ H vs us Q I r h;obtain⟨e,h⟩:=h;subst e;cases r;exact assignInOrder_nil ⟨σ,H,I,h⟩
theorem Eb{t:TG}{u:F0}(h1:PG X e t)(h2:Bb X es u)
  (hs:(assignEach (e::es) X.env).map (·.2)=assign e X.env::(assignEach es X.env).map (·.2):=by rfl):Bb X (e::es) (QG t u):=by
 exact .mk ?_;intro pins s σ H vs us Q I r h;obtain⟨v,vr,e1,h⟩:=h;subst e1;cases r with
 |cons r rr=>
  rw[hs];exact assignInOrder_cons (bD (h1 pins s σ H _ _ _ I r h) λ_ s1 ξ=>Ξ22 ξ λσ1 H1 I1 q1=>?_);exact h2 pins s1 σ1 H1 _ _ Q I1 rr q1
def U5(K:W.Frag)(n:Nat)(t:F0):TG:=λv σ H Q=>∃a xs,v=.ref a∧cW K H a xs∧xs.length=n∧t xs σ H Q
theorem LB{t:F0}(hc:X.calm=true)(h:Bb X es t)
  (hn:(assignEach es X.env).length=n:=by rfl) (kN:(assignEach es X.env).findIdx? (·.1)=none:=by rfl):PG X (.Tuple es k pos) (U5 X.K n t):=by
 exact .mk ?_;intro pins s σ H v u Q I r hw;obtain⟨a,xs,e1,hq,hl,hw⟩:=hw;subst e1;cases r;let⟨its,rv,ht,hz⟩:=I.tuple hq;exact assign_Tuple_tuple (I.ok.hd hc) ht (by simp[hn,←hl,rv.length]) kN λh' hx=>?_;have I1:Inv X pins σ H {s with heap:=h'}:=I.kept (t':=s.toks) λb o e=>hx b o (aaw (aak e)) e;exact h pins _ σ H xs _ Q I1 (by simpa using rv) hw
def U6(to ti:TE)(t:M4):TG:=λv σ H Q=>to σ H λo H1=>ti σ H1 λi H2=>t o i v H2 λH3=>Q σ H3
theorem qN{o i:Expr}{to ti:TE}{t:M4}(ho:PE X o to)(hi:PE X i ti)(hs:Rg X t)
  (ha:∀v,assign (.Subscript o i pos) X.env v=(do
   let ov ←holding [v] (eval o X.env)
   let iv ←holding [v,ov] (eval i X.env)
   standAt pos
   holding [v,ov,iv] (setItem ov iv v)
   release [v,ov,iv] []):=by intro _;rfl):PG X (.Subscript o i pos) (U6 to ti t):=by
 exact .mk ?_;intro pins s σ H v u Q I r h;rw[ha];exact aaa (aaR (bD (ho pins s σ H _ I h) λov s1 ξ=>Ξ23 ξ λx H1 I1 r1 q1=>?_));exact aaa (aaR (bD (hi pins s1 σ H1 _ I1 q1) λiv s2 ξ=>Ξ23 ξ λy H2 I2 r2 q2=>?_));exact aaa (abP (aaa (aaR (bD (hs pins s2 σ H2 x y v ov iv u _ I2 r1 r2 r q2) λ_ s3 ξ=>Ξ12 ξ λH3 I3 q3=>?_))));exact wpAny_release ⟨σ,H3,I3,q3⟩
def KH(te:TE)(g:TG):TS:=λD σ H=>te σ H λx H1=>g x σ H1 D.nx
theorem qL{g:TG}(he:PE X e te)(hg:PG X tg g)(hs:swapsWithSole [tg] e pos.line X.env=pure false:=by rfl)(hw:swappedStores [tg] e X.env=pure none:=by rfl)
  (h1:(assignEach [tg] X.env).map (·.2)=[assign tg X.env]:=by rfl):PS X (.Assign [tg] e pos) (KH te g):=by
 exact .mk ?_;intro pins s σ H D I h;exact wpAny_Assign_stores (bD (he pins s σ H _ I h) λv s1 ξ=>Ξ23 ξ λx H1 I1 r1 q1=>?_) hs hw;rw[h1];exact bD (hg pins s1 σ H1 x v _ I1 r1 q1) λ_ s2 q=>q
theorem c7(hN:X.N.Nodup)(hi:X.N[i]?=some x)(hx:Loc X.env.scope x)(he:PE X e te)(hs:swapsWith e (some (.Name x pos')) pos.line X.env=pure false:=by rfl)(hf:Fk X x:=by first|exact .inl rfl|exact .inr rfl|assumption):
  PS X (.Assign [.Name x pos'] e pos) (KH te (JI i)):=by
 exact .mk ?_;intro pins s σ H D I h;exact wpAny_Assign_Name (bD (he pins s σ H _ I h) λv s1 ξ=>Ξ23 ξ λy H1 I1 r1 q1=>?_) hs;exact mF I1 hN hi hx r1 (λs2 I2=>Ψ2 _ H1 ⟨I2,q1⟩) hf
def Ta(i:Nat)(te:TE)(ti:Vo):TS:=λD σ H=>∃x,σ[i]?=some (some x)∧te σ H λy H1=>ti x y H1 λz H2=>D.nx (σ.set i (some z)) H2
theorem Lr{op:Operator}{ti:Vo}(hN:X.N.Nodup)(hi:X.N[i]?=some x)(hx:Loc X.env.scope x)(he:PE X e te)(ho:PIp X op ti)(hf:Fk X x:=by first|exact .inl rfl|exact .inr rfl|assumption):
  PS X (.AugAssign (.Name x pos') op e pos) (Ta i te ti):=by
 exact .mk ?_;intro pins s σ H D I h;obtain⟨v,e1,h⟩:=h;let⟨m,hn,hl⟩:=I.loc;have Xp:ND X.env.scope x:=by rcases hx with k|k;exact .inl k;exact .inr (.inl k)
 let⟨u,r,l⟩:=hl i x v hi e1 Xp;exact wpAny_AugAssign_Name ?_;have go:wpAny (model X.prog X.w) X.A (eval e X.env) (λw s₂=>wpAny (model X.prog X.w) X.A (inplaceOp op u w) (λr s₃=>wpAny (model X.prog X.w) X.A (storeName X.env x r) (λ_=>SP X pins D .next) X.xe s₃) X.xe s₂) X.xe s:=by
  exact bD (he pins s σ H _ I h) λw s1 ξ=>Ξ23 ξ λy H1 I1 r1 q1=>?_;exact bD (ho pins s1 σ H1 v y u w _ I1 r r1 q1) λz s2 ξ=>Ξ23 ξ λzv H2 I2 r2 q2=>?_;exact mF I2 hN hi hx r2 (λs3 I3=>Ψ2 _ H2 ⟨I3,q2⟩) hf
 rcases l with⟨hk,hm⟩|⟨hk,c,hc,AI⟩
 ·exact wpAny_loadName_local I.ok.kind hk hn hm go
 ·rcases hk with hk|hk
  ·exact wpAny_loadName_cell I.ok.kind hk hc AI go
  ·rcases hx with k|k
   ·have:X.env.scope.names.lookup x=some .free:=hk
    rw[k]at this;cases this
   ·have:X.env.scope.names.lookup x=some .free:=hk
    rw[k]at this;cases this
def KA(c:TT)(tb:TS):TS:=λD σ H=>∃W:Nat→St→Hp→Prop,(∃m,W m σ H)∧∀m σ H,W m σ H→
 c σ H λb H1=>if b=true then ∃N:St→Hp→Prop,(∀σ' H',N σ' H'→∃m',m' < m∧W m' σ' H')∧tb {D with nx:=N,ct:=N,bk:=D.nx} σ H1 else D.nx σ H1
theorem D5(hp:PassesOwn (model X.prog X.w) X.A X.env X.xe)(hc:PT X c tc)(hb:kI X body tb):PS X (.While c body [] pos) (KA tc tb):=by
 exact .mk ?_;intro pins s σ H D I h;let⟨W,⟨m0,w0⟩,turn⟩:=h;exact wpAny_While (codeAny_whileLoop (λn s'=>∃σ' H',Inv X pins σ' H' s'∧W n σ' H') ?_ m0 ⟨σ,H,I,w0⟩);intro n s1⟨σ1,H1,I1,w1⟩;exact aca hp (bD (hc pins s1 σ1 H1 _ I1 (turn n σ1 H1 w1)) λb s2 ξ=>Ξ12 ξ λH2 I2 q2=>?_);cases b with
 |true=>
  obtain⟨N,hN,q2⟩:=q2;rw[aaA rfl];exact aca hp (bD (hb pins s2 σ1 H2 _ I2 q2) λf s3 q3=>?_);cases f with
  |next=>
   let⟨σ3,H3,I3,n3⟩:=q3;let⟨m',hm,w3⟩:=hN σ3 H3 n3;exact⟨m',hm,σ3,H3,I3,w3⟩
  |cont=>
   let⟨σ3,H3,I3,n3⟩:=q3;let⟨m',hm,w3⟩:=hN σ3 H3 n3;exact⟨m',hm,σ3,H3,I3,w3⟩
  |brk=>exact q3
  |ret v=>exact q3
 |false=>
  rw[aaz aal];exact adJ ⟨σ1,H2,I2,q2⟩
end
structure It where
 go:Nat→Hp→Prop
 nJ:Nat→Hp→V→Hp→Prop
 stop:Nat→Hp→Prop
def eG(X:Cx)(pins:ad)(H:Hp)(b:Addr):Prop:=
 H b=none∧b≠X.env.locals∧b∉X.fs∧(b∈X.ex∨X.s₀.heap.objs.size≤b)∧(∀x c,X.env.cells.lookup x=some c→c≠b)∧∀p∈X.pn++pins,p.1≠b
theorem Inv.xq(I:Inv X pins σ H s)(hb:s.heap.objs.size≤b)(hn:H' b=none):eG X pins H' b:=by
 exact⟨hn,acn (aau I.lt hb),I.TN hb,.inr (aaG I.sz hb),λx c e z=>?_,λp hp z=>?_⟩
 ·let⟨v,q⟩:=I.cell x c e
  exact absurd (aau q.lt (by rw[z];exact hb)) (abo _)
 ·exact absurd (aau (aak (I.pin p hp).1) (by rw[z];exact hb)) (abo _)
structure Turn(P:Program)(w:World)(K:W.Frag)(tg:Expr)(J:It)(fp:List Addr)(it:Addr)(tn:Nat→Heap→Prop):Prop where
 mem:it∈fp
 obj:∀i h,tn i h→∀b∈fp,∃o,h.get? b=some o∧∀v,o.data≠.cell v
 keep:∀i h h',tn i h→(∀b∈fp,∀o,h.get? b=some o→h'.get? b=some o)→tn i h'
 item:∀(X:Cx),X.prog=P→X.w=w→X.K=K→X.calm=true→∀(i:Nat) pins s σ H (E:xz),Inv X pins σ H s→(∀b∈fp,eG X pins H b)→tn i s.heap→J.go i H→
  wpAny (model P w) X.A (pyNext (.ref it)) (λr s1=>∃u,r=some u∧
   wpAny (model P w) X.A (letOwnedTupleGo tg (.ref it) u) (λ_ s2=>∃x H',Inv X pins σ H' s2∧RelV x u∧J.nJ i H x H'∧tn (i+1) s2.heap∧∀b∈fp,H' b=none) E s1) E s
 done:∀(X:Cx),X.prog=P→X.w=w→X.K=K→X.calm=true→∀(i:Nat) pins s σ H (E:xz),Inv X pins σ H s→(∀b∈fp,eG X pins H b)→tn i s.heap→J.stop i H→
  wpAny (model P w) X.A (pyNext (.ref it)) (λr s1=>r=none∧Inv X pins σ H s1) E s
 self:∀(A:Around) (i:Nat) (s:Shared) (Q:xz) (E:xz),tn i s.heap→Q (.ref it) s→wpAny (model P w) A (pyIter (.ref it)) Q E s
abbrev TI:=St→Hp→(It→Hp→Prop)→Prop
def Se(X:Cx)(pins:ad)(σ:St)(tg:Expr)(R:It→Hp→Prop)(Jz:Value)(s2:Shared):Prop:=
 ∃(it:Addr) (fp:List Addr) (tn:Nat→Heap→Prop) (J:It) (H':Hp),Jz=.ref it∧Inv X pins σ H' s2∧Turn X.prog X.w X.K tg J fp it tn∧tn 0 s2.heap∧(∀b∈fp,eG X pins H' b)∧R J H'
structure PI(X:Cx)(tg iter:Expr)(wi:TI):Prop where
 run:∀pins s σ H (R:It→Hp→Prop),Inv X pins σ H s→wi σ H R→
  wpAny (model X.prog X.w) X.A (eval iter X.env) (λv s1=>wpAny (model X.prog X.w) X.A (pyIter v) (Se X pins σ tg R) X.xe s1) X.xe s
instance {X:Cx}{tg iter:Expr}{wi:TI}:CoeFun (PI X tg iter wi) λ_=>∀pins s σ H (R:It→Hp→Prop),Inv X pins σ H s→wi σ H R→wpAny (model X.prog X.w) X.A (eval iter X.env) (λv s1=>wpAny (model X.prog X.w) X.A (pyIter v) (Se X pins σ tg R) X.xe s1) X.xe s:=⟨PI.run⟩
theorem xi{o:Obj}{n:String}{vs:Array Value}{Q:Unit→Shared→Prop}(ho:s.heap.get? it=some o)(hc:o.cls=.type n)(hd:o.data=.fields vs)
    (hn:["enumerate","zip","dict_itemiterator","dict_reverseitemiterator","odict_iterator","itertools.zip_longest","itertools.pairwise"].contains n=false) (hQ:Q () s):wpAny M A (letOwnedTupleGo tg (.ref it) u) Q E s:=by
  unfold letOwnedTupleGo;cases tg<;>first
    |exact aad hQ
    | (cases u<;>first
        |exact aad hQ
        | (exact aaa (wpAny_load ho ?_)
           rw[hc,hd];show wpAny M A (if(["enumerate","zip","dict_itemiterator","dict_reverseitemiterator","odict_iterator","itertools.zip_longest","itertools.pairwise"].contains n&&vs[0]? == some (rawInt _))=true then _ else _) Q E s
           rw[aaz (by intro h;rw[hn,abN]at h;cases h)];exact aad hQ))
def NI(K:W.Frag)(a:Addr):It:=
 ⟨λi H=>∃xs x,eh K H a xs∧xs[i]?=some x,λi H x H'=>H'=H∧∀xs,eh K H a xs→xs[i]?=some x,λi H=>∃xs,eh K H a xs∧xs.length≤i⟩
def Vw(K:W.Frag)(a:Addr):It:=
 ⟨λi H=>∃xs x,cW K H a xs∧xs[i]?=some x,λi H x H'=>H'=H∧∀xs,cW K H a xs→xs[i]?=some x,λi H=>∃xs,cW K H a xs∧xs.length≤i⟩
def M9(lo:Int)(n:Nat):It:=⟨λi _=>i<n,λi H x H'=>H'=H∧x=.int (lo+i),λi _=>n≤i⟩
theorem Bj(a it:Addr):Turn P w K tg (NI K a) [it] it (λi h=>h.IsListIter it a i) where
 mem:=by simp
 obj:=λi h st b hb=>by
  have e:b=it:=by simpa using hb
  subst e;let⟨o,e,c,d⟩:=st;exact⟨o,e,λv z=>by rw[d]at z;cases z⟩
 keep:=λi h h' st k=>st.at λo e=>k it (by simp) o e
 item:=by
  intro X hP hw hK hc i pins s σ H E I hf st hg;subst hP hw hK;let⟨xs,x,hq,hx⟩:=hg;let⟨its,rv,p,hz⟩:=I.list hq;let⟨u,hu,ru⟩:=rv.get hx;let⟨f0,f1,f2,f3,f4,f5⟩:=hf it (by simp);exact wpAny_pyNext_list_item st p.isList (x:=u) (by simpa using hu) λh' si sb=>?_;have I1:Inv X pins σ H {s with heap:=h'}:=I.turned (t':=s.toks) (λb o hb e=>(sb.2 b hb).trans e) f0 f1 f3 f4 f5;let⟨o,e,c,d⟩:=id si;exact⟨u,rfl,xi (s:={s with heap:=h'}) e c d (by decide) ⟨x,H,I1,ru,⟨rfl,λys hy=>by rw[I.wM hy hq];exact hx⟩,si,λb hb=>(hf b hb).1⟩⟩
 done:=by
  intro X hP hw hK hc i pins s σ H E I hf st hg;subst hP hw hK;let⟨xs,hq,hx⟩:=hg;let⟨its,rv,p,hz⟩:=I.list hq;let⟨f0,f1,f2,f3,f4,f5⟩:=hf it (by simp);have hl:=rv.length;exact wpAny_pyNext_list_end (I.ok.hd hc) st p.isList (by simp;lia) λh' eb=>⟨rfl,I.turned (t':=s.toks) (λb o hb e=>eb b o hb e) f0 f1 f3 f4 f5⟩
 self:=λ_ _ _ _ _ st h=>wpAny_pyIter_listiter st h
theorem ym(a it:Addr):Turn P w K tg (Vw K a) [it] it (λi h=>h.IsTupleIter it a i) where
 mem:=by simp
 obj:=λi h st b hb=>by
  have e:b=it:=by simpa using hb
  subst e;let⟨o,e,c,d⟩:=st;exact⟨o,e,λv z=>by rw[d]at z;cases z⟩
 keep:=λi h h' st k=>st.at λo e=>k it (by simp) o e
 item:=by
  intro X hP hw hK hc i pins s σ H E I hf st hg;subst hP hw hK;let⟨xs,x,hq,hx⟩:=hg;let⟨its,rv,p,hz⟩:=I.tuple hq;let⟨u,hu,ru⟩:=rv.get hx;let⟨f0,f1,f2,f3,f4,f5⟩:=hf it (by simp);exact wpAny_pyNext_tuple_item st (show s.heap.IsTuple a its.toArray from p) (x:=u) (by simpa using hu) λh' si sb=>?_;have I1:Inv X pins σ H {s with heap:=h'}:=I.turned (t':=s.toks) (λb o hb e=>(sb.2 b hb).trans e) f0 f1 f3 f4 f5;let⟨o,e,c,d⟩:=id si;exact⟨u,rfl,xi (s:={s with heap:=h'}) e c d (by decide) ⟨x,H,I1,ru,⟨rfl,λys hy=>by rw[I.n9 hy hq];exact hx⟩,si,λb hb=>(hf b hb).1⟩⟩
 done:=by
  intro X hP hw hK hc i pins s σ H E I hf st hg;subst hP hw hK;let⟨xs,hq,hx⟩:=hg;let⟨its,rv,p,hz⟩:=I.tuple hq;let⟨f0,f1,f2,f3,f4,f5⟩:=hf it (by simp);have hl:=rv.length;exact wpAny_pyNext_tuple_end (I.ok.hd hc) st (show s.heap.IsTuple a its.toArray from p) (by simp;lia) λh' eb=>⟨rfl,I.turned (t':=s.toks) (λb o hb e=>eb b o hb e) f0 f1 f3 f4 f5⟩
 self:=λ_ _ _ _ _ st h=>wpAny_pyIter_tupleiter st h
theorem yn(it:Addr)(lo:Int)(n:Nat):Turn P w K tg (M9 lo n) [it] it (λi h=>IsRangeIter h it (lo+(i:Nat)*1) ((n:Int)-(i:Nat)) 1) where
 mem:=by simp
 obj:=λi h st b hb=>by
  have e:b=it:=by simpa using hb
  subst e;exact⟨_,st,λv z=>by
   have z':Data.fields _=Data.cell v:=z;cases z'⟩
 keep:=λi h h' st k=>k it (by simp) _ st
 item:=by
  intro X hP hw hK hc i pins s σ H E I hf st hg;subst hP hw hK;let⟨f0,f1,f2,f3,f4,f5⟩:=hf it (by simp);have W:=Walks.range (prog:=X.prog) (w:=X.w) (I.ok.hd hc) it lo 1 n;exact W.item i s _ _ hg st λv h' tk hv si kk=>?_;let⟨t,rfl⟩:=hv;have I1:Inv X pins σ H {s with heap:=h',toks:=tk}:=I.turned (λb o hb e=>kk b o (by simpa using hb) e) f0 f1 f3 f4 f5;exact⟨_,rfl,xi (s:={s with heap:=h',toks:=tk}) (n := "range_iterator") si rfl rfl (by decide) ⟨.int (lo+i),H,I1,⟨t,?_⟩,⟨rfl,rfl⟩,si,λb hb=>(hf b hb).1⟩⟩;rw[Int.mul_one]
 done:=by
  intro X hP hw hK hc i pins s σ H E I hf st hg;subst hP hw hK;let⟨f0,f1,f2,f3,f4,f5⟩:=hf it (by simp);exact wpAny_pyNext_range_end (I.ok.hd hc) st (by have:n≤i:=hg;lia) λh' eb=>⟨rfl,I.turned (t':=s.toks) (λb o hb e=>eb b o hb e) f0 f1 f3 f4 f5⟩
 self:=λ_ _ _ _ _ st h=>wpAny_pyIter_rangeiter st h
section
def P6(K:W.Frag)(tl:TE):TI:=λσ H R=>tl σ H λx H1=>∃a,x=.ref a∧(∃xs,eh K H1 a xs)∧R (NI K a) H1
def Uj(K:W.Frag)(tl:TE):TI:=λσ H R=>tl σ H λx H1=>∃a,x=.ref a∧(∃xs,cW K H1 a xs)∧R (Vw K a) H1
theorem Ao(hl:PE X l tl):PI X tg l (P6 X.K tl):=by
 exact .mk ?_;intro pins s σ H R I h;exact bD (hl pins s σ H _ I h) λv s1 ξ=>Ξ23 ξ λx H1 I1 r1 q1=>?_;let⟨a,e,⟨xs,hq⟩,q⟩:=q1;subst e;cases r1;let⟨its,rv,p,hz⟩:=I1.list hq;exact wpAny_pyIter_list p.isList ?_;exact Ψ5 s1.heap.objs.size [s1.heap.objs.size] _ _ H1 ⟨rfl,I1.kept (t':=s1.toks) λb o e=>aab _ e,Bj a _,⟨_,aaq _ rfl,rfl,rfl⟩,λb hb=>?_,q⟩;have e:b=s1.heap.objs.size:=by simpa using hb
 subst e;exact I1.xq (aan _) (I1.bp.fresh (aan _))
theorem Lx(hl:PE X l tl):PI X tg l (Uj X.K tl):=by
 exact .mk ?_;intro pins s σ H R I h;exact bD (hl pins s σ H _ I h) λv s1 ξ=>Ξ23 ξ λx H1 I1 r1 q1=>?_;let⟨a,e,⟨xs,hq⟩,q⟩:=q1;subst e;cases r1;let⟨its,rv,p,hz⟩:=I1.tuple hq;exact adg (show s1.heap.IsTuple a its.toArray from p) ?_;exact Ψ5 s1.heap.objs.size [s1.heap.objs.size] _ _ H1 ⟨rfl,I1.kept (t':=s1.toks) λb o e=>aab _ e,ym a _,⟨_,aaq _ rfl,rfl,rfl⟩,λb hb=>?_,q⟩;have e:b=s1.heap.objs.size:=by simpa using hb
 subst e;exact I1.xq (aan _) (I1.bp.fresh (aan _))
theorem DT{R:It→Hp→Prop}{hi:Int}{t u v:Tok}{tk:Nat}(I:Inv X pins σ H s)(h1:-(2^62)≤lo)(h2:lo<2^62)(h3:-(2^62)≤hi)(h4:hi<2^62)
  (q:R (M9 lo (hi-lo).toNat) H):wpAny (model X.prog X.w) X.A (pyIter (.ref s.heap.objs.size)) (Se X pins σ tg R) E {s with heap:=s.heap.push {cls:=.type "range",data:=.fields #[.int lo t,.int hi u,.int 1 v]},toks:=tk}:=by
 exact wpAny_pyIter_range (IsRange.new ..) (small_one h1 h2 h3 h4) ?_;have I1:Inv X pins σ H {s with heap:=s.heap.push {cls:=.type "range",data:=.fields #[.int lo t,.int hi u,.int 1 v]},toks:=tk}:=I.kept λb o e=>aab _ e;exact Ψ5 ((s.heap.push {cls:=.type "range",data:=.fields #[.int lo t,.int hi u,.int 1 v]}).objs.size) ([(s.heap.push {cls:=.type "range",data:=.fields #[.int lo t,.int hi u,.int 1 v]}).objs.size]) _ _ H ⟨rfl,
  I1.kept (t':=tk) λb o e=>aab _ e,yn _ lo (hi-lo).toNat,?_,λb hb=>?_,q⟩
 ·have e1:lo+((0:Nat):Int)*1=lo:=by simp
  have e2:(((hi-lo).toNat:Nat):Int)-((0:Nat):Int)=Builtin.Range.rangeSize lo hi 1:=by rw[rangeSize_one];split<;>lia
  show IsRangeIter _ _ (lo+((0:Nat):Int)*1) ((((hi-lo).toNat:Nat):Int)-((0:Nat):Int)) 1
  rw[e1,e2];exact aaq _ rfl
 ·have e:b=(s.heap.push {cls:=.type "range",data:=.fields #[.int lo t,.int hi u,.int 1 v]}).objs.size:=by simpa using hb
  subst e;exact I1.xq (aan _) (I1.bp.fresh (aan _))
def P4(ta:TA):TI:=λσ H R=>ta σ H λvs H1=>∃j:Int,vs=[.int j]∧-(2^62)≤j∧j<2^62∧R (M9 0 j.toNat) H1
theorem ox{a:Expr}{ta:TA}(hg:Gl X "range")(hm:X.mg "range" = none)(ha:PA X [a] ta)(hs:starEach [a] X.env=[(false,eval a X.env)]:=by rfl):PI X tg (.Call (.Name "range" p) [a] [] pos) (P4 ta):=by
 exact .mk ?_;intro pins s σ H R I h;exact Call_ (gZ I hg hm boot_range (abd (bD (ha pos pins s σ H _ I h) λus s1 ξ=>Ξ23 ξ λvs H1 I1 r1 q1=>?_) hs rfl));obtain⟨j,e,q1,q2,q⟩:=q1;subst e;cases r1 with
 |cons r rr=>
  cases rr;let⟨t,rfl⟩:=r;exact call_range_1 (DT I1 (by lia) (by lia) q1 q2 (by simpa using q))
def S6(wi:TI)(g:TG)(tb:TS):TS:=λD σ H=>wi σ H λJ H1=>∃W:Nat→Nat→St→Hp→Prop,(∃m,W 0 m σ H1)∧∀i m σ H,W i m σ H→
 (J.stop i H∧D.nx σ H)∨(J.go i H∧∃N:St→Hp→Prop,(∀σ' H',N σ' H'→∃m',m' < m∧W (i+1) m' σ' H')∧∀x H',J.nJ i H x H'→g x σ H' λσ2 H2=>tb {D with nx:=N,ct:=N,bk:=D.nx} σ2 H2)
def jv(fp:List Addr)(h:Heap):ad:=fp.filterMap λb=>(h.get? b).map λo=>(b,o)
theorem b8{o:Obj}(hb:b∈fp)(e:h.get? b=some o):(b,o)∈jv fp h:=abm.mpr ⟨b,hb,by rw[e];rfl⟩
theorem BC{p:Addr×Obj}(hp:p∈jv fp h):p.1∈fp∧h.get? p.1=some p.2:=by
 let⟨b,hb,e⟩:=abm.mp hp;cases q:h.get? b with
 |none=>rw[q]at e;cases e
 |some o=>
  rw[q]at e;have e':(b,o)=p:=aaW e;subst e';exact⟨hb,q⟩
theorem Inv.pinned(I:Inv X pins σ H s)(hf:∀b∈fp,eG X pins H b)(ho:∀b∈fp,∃o,s.heap.get? b=some o∧∀v,o.data≠.cell v):Inv X (pins++jv fp s.heap) σ H s:=
 I.Am λp hp=>(aaX.mp hp).elim (λz=>I.pin p (aas _ z)) λz=>by
  let⟨hb,e⟩:=BC z;let⟨f0,f1,f2,_⟩:=hf p.1 hb;let⟨o,e',d⟩:=ho p.1 hb;rw[e]at e';cases e';exact⟨e,f0,f1,f2,d⟩
theorem Inv.fF{pl:ad}(I:Inv X (pins++pl) σ H s):Inv X pins σ H s:=I.Am λp hp=>I.pin p (aas _ (adC _ hp))
theorem yK{iter:Expr}{wi:TI}{g:TG}(hp:PassesOwn (model X.prog X.w) X.A X.env X.xe)(hc:X.calm=true)(hi:PI X tg iter wi)(hg:PG X tg g)(hb:kI X body tb)
  (hs:∀x,foldedSetIterable iter X.env x=pure x:=by intro _;rfl):PS X (.For tg iter body [] pos) (S6 wi g tb):=by
 exact .mk ?_;intro pins s σ H D I h;exact wpAny_For (bD (hi pins s σ H _ I h) λv s1 h1=>bD h1 λJz s2 h2=>?_) hs;let⟨it,fp,tn,J,H2,e,I2,T,nM,f2,⟨W,⟨m0,w0⟩,turn⟩⟩:=h2;subst e
 -- Sj stays true of yp Mc objects through yp loop
 have yu:∀{H':Hp},(∀b∈fp,H' b=none)→∀b∈fp,eG X pins H' b:=λhn b hb=>⟨hn b hb,(f2 b hb).2⟩;exact codeAny_forLoop_any (λn s'=>∃i σ' H',Inv X pins σ' H' s'∧tn i s'.heap∧(∀b∈fp,H' b=none)∧W i n σ' H') ?_ m0 ⟨0,σ,H2,I2,nM,λb hb=>(f2 b hb).1,w0⟩;intro n s3⟨i,σ3,H3,I3,vV,xp,w3⟩;rcases turn i n σ3 H3 w3 with⟨stop,qn⟩|⟨go,N,hN,step⟩
 ·exact aca hp (bD (T.done X rfl rfl rfl hc i pins s3 σ3 H3 X.xe I3 (yu xp) vV stop) λr s4 ξ=>Ξ02 ξ λhr I4=>?_)
  subst hr;exact adJ ⟨σ3,H3,I4,qn⟩
 ·exact aca hp (bD (T.item X rfl rfl rfl hc i pins s3 σ3 H3 X.xe I3 (yu xp) vV go) λr s4 ξ=>Ξ12 ξ λu hr h4=>?_)
  subst hr;exact aca hp (bD h4 λ_ s5 ξ=>Ξ21 ξ λx H5 ξ=>Ξ05 ξ λI5 r5 y5 qt Fn=>?_);have F2:=I5.pinned (yu Fn) (T.obj _ _ qt);exact aca hp (bD (hg _ s5 σ3 H5 x u _ F2 r5 (step x H5 y5)) λ_ s6 ξ=>Ξ22 ξ λσ6 H6 I6 q6=>?_);exact aca hp (bD (hb _ s6 σ6 H6 _ I6 q6) λf s7 q7=>?_);have again:∀{σ7:St} {H7:Hp},Inv X (pins++jv fp s5.heap) σ7 H7 s7→N σ7 H7→∃m,m<n∧∃i σ' H',Inv X pins σ' H' s7∧tn i s7.heap∧(∀b∈fp,H' b=none)∧W i m σ' H':=λ{σ7 H7} I7 n7=>by
   let⟨m',hm,w7⟩:=hN σ7 H7 n7;exact⟨m',hm,i+1,σ7,H7,I7.fF,T.keep _ _ _ qt λb hb o e=>(I7.pin (b,o) (aas _ (aas _ (b8 hb e)))).1,λb hb=>?_,w7⟩;let⟨o,e,d⟩:=T.obj _ _ qt b hb;exact(I7.pin (b,o) (aas _ (aas _ (b8 hb e)))).2.1
  cases f with
  |next=>let⟨σ7,H7,I7,n7⟩:=q7;exact again I7 n7
  |cont=>let⟨σ7,H7,I7,n7⟩:=q7;exact again I7 n7
  |brk=>obtain⟨σ7,H7,I7,q7⟩:=q7;exact Ψ2 σ7 H7 ⟨I7.fF,q7⟩
  |ret v=>obtain⟨x7,σ7,H7,I7,r7,q7⟩:=q7;exact Ψ3 x7 σ7 H7 ⟨I7.fF,r7,q7⟩
end
theorem tZ{g:TG}(Pv:Nat→St→Hp→Prop)(h0:Pv 0 σ H)
  (hs:∀i σ H,i<n→Pv i σ H→g (.int (lo+i)) σ H λσ2 H2=>tb {D with nx:=Pv (i+1),ct:=Pv (i+1),bk:=D.nx} σ2 H2) (hd:∀σ H,Pv n σ H→D.nx σ H) :
  ∃W:Nat→Nat→St→Hp→Prop,(∃m,W 0 m σ H)∧∀i m σ H,W i m σ H→
   ((M9 lo n).stop i H∧D.nx σ H)∨((M9 lo n).go i H∧∃N:St→Hp→Prop,(∀σ' H',N σ' H'→∃m',m' < m∧W (i+1) m' σ' H')∧∀x H',(M9 lo n).nJ i H x H'→g x σ H' λσ2 H2=>tb {D with nx:=N,ct:=N,bk:=D.nx} σ2 H2):=by
 exact⟨λi m σ H=>m=n-i∧i≤n∧Pv i σ H,⟨n,by simp,aaE _,h0⟩,?_⟩;intro i m σ H⟨rfl,hi,p⟩;by_cases cG:i<n
 ·exact .inr ⟨cG,Pv (i+1),λσ' H' p'=>⟨n-(i+1),by lia,rfl,cG,p'⟩,λx H' y=>?_⟩
  obtain⟨e,y⟩:=y;subst e y;exact hs i σ _ cG p
 ·have e:i=n:=by lia
  subst e;exact .inl ⟨aan _,hd σ H p⟩
abbrev R2:=V→V→Hp→VK→Prop
def ja(X:Cx)(f:Value→Value→Sem Value)(r:R2):Prop:=
 ∀pins s σ H (x y:V) (v u:Value) (Q:VK),Inv X pins σ H s→RelV x v→RelV y u→r x y H Q→
  wpAny (model X.prog X.w) X.A (f v u) (EP X pins σ Q) X.xe s
def Vm(X:Cx)(f:Value→Sem Value)(r:V→Hp→VK→Prop):Prop:=
 ∀pins s σ H (x:V) (v:Value) (Q:VK),Inv X pins σ H s→RelV x v→r x H Q→
  wpAny (model X.prog X.w) X.A (f v) (EP X pins σ Q) X.xe s
def hZ(X:Cx)(f:Value)(r:List V→Hp→VK→Prop):Prop:=
 ∀pins s σ H (xs:List V) (us:List Value) (Q:VK),Inv X pins σ H s→Vals xs us→r xs H Q→
  wpAny (model X.prog X.w) X.A (call f us) (EP X pins σ Q) X.xe s
def Vn(X:Cx)(r:V→Hp→(Bool→Hp→Prop)→Prop):Prop:=
 ∀pins s σ H (x:V) (v:Value) (Q:Bool→Hp→Prop),Inv X pins σ H s→RelV x v→r x H Q→
  wpAny (model X.prog X.w) X.A (truthy v) (TP X pins σ Q) X.xe s
def OA(r:R2)(ta tb:TE):TE:=λσ H Q=>ta σ H λx H1=>tb σ H1 λy H2=>r x y H2 Q
def XE(r:V→Hp→VK→Prop)(ta:TE):TE:=λσ H Q=>ta σ H λx H1=>r x H1 Q
def rI(C:Int→Int→Prop)(g:Int→Int→V):R2:=λx y H Q=>∃i j,x=.int i∧y=.int j∧C i j∧Q (g i j) H
def F8(g:Int→Int→V):R2:=λx y H Q=>∃i j,x=.int i∧y=.int j∧Q (g i j) H
def rU(g:Int→V):V→Hp→VK→Prop:=λx H Q=>∃i,x=.int i∧Q (g i) H
section
variable {a b:Expr}{tb:TE}
theorem MW(ha:PE X a ta)(hb:PE X b tb){R:V→V→Hp→Prop}(I:Inv X pins σ H s)
  (h:ta σ H λx H1=>tb σ H1 λy H2=>R x y H2)  
  (hf:∀v u s2 x y H2,Inv X pins σ H2 s2→RelV x v→RelV y u→R x y H2→wpAny (model X.prog X.w) X.A (f v u) Q X.xe s2) :
  wpAny (model X.prog X.w) X.A (eval a X.env) (λv s₁=>wpAny (model X.prog X.w) X.A (eval b X.env) (λu s₂=>wpAny (model X.prog X.w) X.A (f v u) Q X.xe s₂) X.xe s₁) X.xe s:=by
 exact bD (ha pins s σ H _ I h) λv s1 ξ=>Ξ23 ξ λx H1 I1 r1 q1=>?_;exact bD (hb pins s1 σ H1 _ I1 q1) λu s2 ξ=>Ξ23 ξ λy H2 I2 r2 q2=>?_;exact hf v u s2 x y H2 I2 r1 r2 q2
theorem bQ{op:Operator}(ho:ja X (binaryOp op) r)(ha:PE X a ta)(hb:PE X b tb):PE X (.BinOp a op b pos) (OA r ta tb):=by
 exact .mk ?_;intro pins s σ H Q I h;exact wpAny_BinOp (MW ha hb I h λv u s2 x y H2 I2 rx ry q=>ho pins s2 σ H2 x y v u Q I2 rx ry q)
theorem Pu{op:UnaryOp}{r:V→Hp→VK→Prop}(ho:Vm X (unaryOp op) r)(ha:PE X a ta):PE X (.UnaryOp op a pos) (XE r ta):=by
 exact .mk ?_;intro pins s σ H Q I h;exact UnaryOp_ (bD (ha pins s σ H _ I h) λv s1 ξ=>Ξ23 ξ λx H1 I1 r1 q1=>ho pins s1 σ H1 x v Q I1 r1 q1)
theorem Nd{C:Int→Int→Prop}
  (rule:∀(i j:Int) (t u:Tok) (s:Shared) (Q:xz) (E:xz),C i j→Q (.int (g i j) s.toks) {s with toks:=s.toks+1}→wpAny (model X.prog X.w) X.A (f (.int i t) (.int j u)) Q E s) :
  ja X f (rI C λi j=>.int (g i j)):=by
 intro pins s σ H x y v u Q I rx ry h;let⟨i,j,rfl,rfl,hc,q⟩:=h;let⟨t,rfl⟩:=rx;let⟨t',rfl⟩:=ry;exact rule i j t t' s _ _ hc ⟨.int (g i j),H,I.tok _,⟨_,rfl⟩,q⟩
theorem LO
  (rule:∀(i j:Int) (t u:Tok) (s:Shared) (Q:xz) (E:xz),Q (.int (g i j) s.toks) {s with toks:=s.toks+1}→wpAny (model X.prog X.w) X.A (f (.int i t) (.int j u)) Q E s) :
  ja X f (F8 λi j=>.int (g i j)):=by
 intro pins s σ H x y v u Q I rx ry h;let⟨i,j,rfl,rfl,q⟩:=h;let⟨t,rfl⟩:=rx;let⟨t',rfl⟩:=ry;exact rule i j t t' s _ _ ⟨.int (g i j),H,I.tok _,⟨_,rfl⟩,q⟩
theorem HA{g:Int→Int→Bool}
  (rule:∀(i j:Int) (t u:Tok) (s:Shared) (Q:xz) (E:xz),Q (.bool (g i j)) s→wpAny (model X.prog X.w) X.A (f (.int i t) (.int j u)) Q E s) :
  ja X f (F8 λi j=>.bl (g i j)):=by
 intro pins s σ H x y v u Q I rx ry h;let⟨i,j,rfl,rfl,q⟩:=h;let⟨t,rfl⟩:=rx;let⟨t',rfl⟩:=ry;exact rule i j t t' s _ _ ⟨.bl (g i j),H,I,rfl,q⟩
def Rl(i j:Int):Prop:=0<j∧j<1073741824
def Rk(i j:Int):Prop:=0≤j∧j≤1000000∧i.natAbs<2^64
def vB(i j:Int):Prop:=(-(2^64)<i∧i<2^64)∨(-(2^64)<j∧j<2^64)
theorem vB.ok{i j:Int}(h:vB i j):IntMulOk i j:=by
 rcases h with⟨h1,h2⟩|⟨h1,h2⟩
 ·exact .of_left (intBits_le_64 h1 h2)
 ·exact .of_right (intBits_le_64 h1 h2)
theorem fU:ja X (binaryOp .Add) (F8 λi j=>.int (i+j)):=LO λ_ _ _ _ _ _ _ q=>add_int q
theorem lU:ja X (binaryOp .Sub) (F8 λi j=>.int (i-j)):=LO λ_ _ _ _ _ _ _ q=>sub_int q
theorem uL:ja X (binaryOp .Mult) (rI vB λi j=>.int (i*j)):=Nd λ_ _ _ _ _ _ _ hc q=>mul_int q hc.ok
theorem qS:ja X (binaryOp .Mod) (rI (λ_ j=>0<j) λi j=>.int (i%j)):=Nd λi j _ _ _ _ _ hc q=>by
 have h1:(0:Int)<j:=hc;exact mod_int' (by lia) (by rw[aed i (by lia)];exact q)
theorem uJ:ja X (binaryOp .Pow) (rI Rk λi j=>.int (i^j.toNat)):=Nd λ_ _ _ _ _ _ _ hc q=>pow_int_small hc.1 hc.2.1 hc.2.2 q
theorem Ic:ja X (inplaceOp .Add) (F8 λi j=>.int (i+j)):=LO λ_ _ _ _ _ _ _ q=>iadd_int q
theorem Ib:ja X (inplaceOp .Mult) (rI vB λi j=>.int (i*j)):=Nd λ_ _ _ _ _ _ _ hc q=>imul_int q hc.ok
theorem Xs{f:Value→Sem Value}{g:Int→Int}
  (rule:∀(i:Int) (t:Tok) (s:Shared) (Q:xz) (E:xz),Q (.int (g i) s.toks) {s with toks:=s.toks+1}→wpAny (model X.prog X.w) X.A (f (.int i t)) Q E s) :
  Vm X f (rU λi=>.int (g i)):=by
 intro pins s σ H x v Q I rx h;let⟨i,rfl,q⟩:=h;let⟨t,rfl⟩:=rx;exact rule i t s _ _ ⟨.int (g i),H,I.tok _,⟨_,rfl⟩,q⟩
theorem J7:Vm X (unaryOp .USub) (rU λi=>.int (-i)):=Xs λ_ _ _ _ _ q=>neg_int q
end
def GQ:V→V→Bool
 |.non,.non=>true|.non,.int _=>true|.int _,.non=>true|.non,.bl _=>true|.bl _,.non=>true|.non,.str _=>true|.str _,.non=>true
 |.int _,.int _=>true|.bl _,.bl _=>true|.str _,.str _=>true|.byt _,.byt _=>true
 |.int _,.str _=>true|.str _,.int _=>true|.bl _,.str _=>true|.str _,.bl _=>true
 |_,_=>false
def XS:R2:=λx y H Q=>GQ x y=true∧Q (.bl (decide (x=y))) H
def XO:R2:=λx y H Q=>GQ x y=true∧Q (.bl (!decide (x=y))) H
theorem AQ{i j:Int}:decide (V.int i=V.int j)=(i==j):=by
 rw[ab6];simp
theorem FC{i j:Bool}:decide (V.bl i=V.bl j)=(i==j):=by
 rw[ab6];simp
theorem AO{i j:Str}:decide (V.str i=V.str j)=(i==j):=by
 rw[ab6];simp
theorem AR{i j:Array UInt8}:decide (V.byt i=V.byt j)=(i.toList==j.toList):=by
 rw[ab6];cases i;cases j;simp
section
variable {a b:Expr}{tb tc:TE}
theorem bw{Q:VK}{k k':Bool}(I:Inv X pins σ H s)(q:Q (.bl k) H)(e:k=k'):EP X pins σ Q (.bool k') s:=by
 subst e;exact Ψ2 (.bl k) H ⟨I,rfl,q⟩
theorem tR:ja X (compareOp .Eq) XS:=by
 intro pins s σ H x y v u Q I rx ry h;let⟨hs,q⟩:=h;cases x with
 |non=>
  cases rx;cases y with
  |non=>cases ry;exact PySem.EqNone.eq_none_none (bw I q (by simp))
  |bl j=>cases ry;exact PySem.EqNone.eq_none_bool (bw I q (by simp))
  |int j=>let⟨t',rfl⟩:=ry;exact PySem.EqNone.eq_none_int (bw I q (by simp))
  |str j=>let⟨t',rfl⟩:=ry;exact PySem.EqNone.eq_none_str (bw I q (by simp))
  |_=>exact absurd (show false=true from hs) aal
 |bl i=>
  cases rx;cases y with
  |non=>cases ry;exact PySem.EqNone.eq_bool_none (bw I q (by simp))
  |bl j=>cases ry;exact eq_bool (bw I q FC)
  |str j=>let⟨t',rfl⟩:=ry;exact PySem.EqMixed.eq_bool_str (bw I q (by simp))
  |_=>exact absurd (show false=true from hs) aal
 |int i=>
  let⟨t,rfl⟩:=rx;cases y with
  |non=>cases ry;exact PySem.EqNone.eq_int_none (bw I q (by simp))
  |int j=>let⟨t',rfl⟩:=ry;exact eq_int (bw I q AQ)
  |str j=>let⟨t',rfl⟩:=ry;exact PySem.EqMixed.eq_int_str (bw I q (by simp))
  |_=>exact absurd (show false=true from hs) aal
 |str i=>
  let⟨t,rfl⟩:=rx;cases y with
  |non=>cases ry;exact PySem.EqNone.eq_str_none (bw I q (by simp))
  |bl j=>cases ry;exact PySem.EqMixed.eq_str_bool (bw I q (by simp))
  |int j=>let⟨t',rfl⟩:=ry;exact PySem.EqMixed.eq_str_int (bw I q (by simp))
  |str j=>let⟨t',rfl⟩:=ry;exact eq_str (bw I q AO)
  |_=>exact absurd (show false=true from hs) aal
 |byt i=>
  let⟨t,rfl⟩:=rx;cases y with
  |byt j=>let⟨t',rfl⟩:=ry;exact W.eq_bytes (bw I q AR)
  |_=>exact absurd (show false=true from hs) aal
 |_=>cases y<;>exact absurd (show false=true from hs) aal
theorem PD:ja X (compareOp .NotEq) XO:=by
 intro pins s σ H x y v u Q I rx ry h;let⟨hs,q⟩:=h;cases x with
 |non=>
  cases rx;cases y with
  |non=>cases ry;exact PySem.EqNone.ne_none_none (bw I q (by simp))
  |bl j=>cases ry;exact PySem.EqNone.ne_none_bool (bw I q (by simp))
  |int j=>let⟨t',rfl⟩:=ry;exact PySem.EqNone.ne_none_int (bw I q (by simp))
  |str j=>let⟨t',rfl⟩:=ry;exact PySem.EqNone.ne_none_str (bw I q (by simp))
  |_=>exact absurd (show false=true from hs) aal
 |bl i=>
  cases rx;cases y with
  |non=>cases ry;exact PySem.EqNone.ne_bool_none (bw I q (by simp))
  |bl j=>cases ry;exact ne_bool (bw I q (abc not FC))
  |str j=>let⟨t',rfl⟩:=ry;exact PySem.EqMixed.ne_bool_str (bw I q (by simp))
  |_=>exact absurd (show false=true from hs) aal
 |int i=>
  let⟨t,rfl⟩:=rx;cases y with
  |non=>cases ry;exact PySem.EqNone.ne_int_none (bw I q (by simp))
  |int j=>let⟨t',rfl⟩:=ry;exact ne_int (bw I q (abc not AQ))
  |str j=>let⟨t',rfl⟩:=ry;exact PySem.EqMixed.ne_int_str (bw I q (by simp))
  |_=>exact absurd (show false=true from hs) aal
 |str i=>
  let⟨t,rfl⟩:=rx;cases y with
  |non=>cases ry;exact PySem.EqNone.ne_str_none (bw I q (by simp))
  |bl j=>cases ry;exact PySem.EqMixed.ne_str_bool (bw I q (by simp))
  |int j=>let⟨t',rfl⟩:=ry;exact PySem.EqMixed.ne_str_int (bw I q (by simp))
  |str j=>let⟨t',rfl⟩:=ry;exact ne_str (bw I q (abc not AO))
  |_=>exact absurd (show false=true from hs) aal
 |byt i=>
  let⟨t,rfl⟩:=rx;cases y with
  |byt j=>let⟨t',rfl⟩:=ry;exact W.ne_bytes (bw I q (abc not AR))
  |_=>exact absurd (show false=true from hs) aal
 |_=>cases y<;>exact absurd (show false=true from hs) aal
theorem Jt:ja X (compareOp .Lt) (F8 λi j=>.bl (decide (i<j))):=HA λ_ _ _ _ _ _ _ q=>lt_int q
theorem Ew:ja X (compareOp .LtE) (F8 λi j=>.bl (decide (i≤j))):=HA λ_ _ _ _ _ _ _ q=>le_int q
theorem Ex:ja X (compareOp .Gt) (F8 λi j=>.bl (decide (j<i))):=HA λ_ _ _ _ _ _ _ q=>gt_int q
theorem PF:ja X (compareOp .GtE) (F8 λi j=>.bl (decide (j≤i))):=HA λ_ _ _ _ _ _ _ q=>ge_int q
theorem Bu:ja X (compareOp .In) (λx y H Q=>∃i j,x=.str i∧y=.str j∧Q (.bl (!(Builtin.Str.occurrences j i 0 j.length 1).isEmpty)) H):=by
 intro pins s σ H x y v u Q I rx ry h;let⟨i,j,rfl,rfl,q⟩:=h;let⟨t,rfl⟩:=rx;let⟨t',rfl⟩:=ry;exact in_str (bw I q rfl)
theorem LM:ja X (compareOp .Is) (λx y H Q=>y=.non∧Q (.bl (decide (x=.non))) H):=by
 intro pins s σ H x y v u Q I rx ry h;let⟨rfl,q⟩:=h;cases ry;exact is_none_gen (bw I q ?_);cases x<;>first
  |(cases rx;rfl)
  |(let⟨t,rfl⟩:=rx;rfl)
theorem aw(b:Expr){op:CmpOp}(h:op≠.In:=by decide)(h2:op≠.NotIn:=by decide):behindInMarks op b=false:=by
 have e1:(op==CmpOp.In)=false:=by cases op<;>first|rfl|exact absurd rfl h
 have e2:(op==CmpOp.NotIn)=false:=by cases op<;>first|rfl|exact absurd rfl h2
 cases b<;>simp[behindInMarks,e1,e2]
theorem Hk{op:CmpOp}(ho:ja X (compareOp op) r)(ha:PE X a ta)(hb:PE X b tb)(hm:behindInMarks op b=false):PE X (.Compare a [op] [b] pos) (OA r ta tb):=by
 exact .mk ?_;intro pins s σ H Q I h;exact wpAny_Compare1 (MW ha hb I h λv u s2 x y H2 I2 rx ry q=>ho pins s2 σ H2 x y v u Q I2 rx ry q) hm
def IZ(t:TE):TT:=λσ H Q=>t σ H λx H'=>∃k,x=.bl k∧Q k H'
theorem dX{op:CmpOp}(ho:ja X (compareOp op) r)(ha:PE X a ta)(hb:PE X b tb)(hm:behindInMarks op b=false):PT X (.Compare a [op] [b] pos) (IZ (OA r ta tb)):=by
 exact .mk ?_;intro pins s σ H Q I h;exact wpAny_isTrue_Compare1 (bD (ha pins s σ H _ I h) λv s1 ξ=>Ξ23 ξ λx H1 I1 r1 q1=>bD (hb pins s1 σ H1 _ I1 q1) λu s2 ξ=>Ξ23 ξ λy H2 I2 r2 q2=>
  bD (ho pins s2 σ H2 x y v u _ I2 r1 r2 q2) λc s3⟨z,H3,I3,r3,k,e,q3⟩=>?_) hm
 subst e;cases r3;exact abG ⟨H3,I3,q3⟩
def Dt(r r':R2)(ta tb tc:TE):TE:=λσ H Q=>ta σ H λx H1=>tb σ H1 λy H2=>r x y H2 λz H3=>∃k,z=.bl k∧
 (if k=true then tc σ H3 λw' H4=>r' y w' H4 Q else Q (.bl false) H3)
theorem Eh{op LP:CmpOp}{r':R2}(ho:ja X (compareOp op) r)(m6:ja X (compareOp LP) r')(ha:PE X a ta)(hb:PE X b tb)(hc:PE X c tc)
  (hm:lastMarks [op,LP] [b,c]=false:=by with_unfolding_all rfl):PE X (.Compare a [op,LP] [b,c] pos) (Dt r r' ta tb tc):=by
 exact .mk ?_;intro pins s σ H Q I h;exact Compare_chain (bD (ha pins s σ H _ I h) λv s1 ξ=>Ξ23 ξ λx H1 I1 r1 q1=>chain_link (bD (hb pins s1 σ H1 _ I1 q1) λu s2 ξ=>Ξ23 ξ λy H2 I2 r2 q2=>
  bD (ho pins s2 σ H2 x y v u _ I2 r1 r2 q2) λd s3⟨z,H3,I3,r3,k,e,q3⟩=>?_)) hm
 subst e;cases r3;exact abG ?_;cases k with
 |false=>exact ite_ff ⟨.bl false,H3,I3,rfl,q3⟩
 |true=>exact ite_tt (chain_last (bD (hc pins s3 σ H3 _ I3 q3) λw' s4 ξ=>Ξ23 ξ λz' H4 I4 r4 q4=>m6 pins s4 σ H4 y z' u w' Q I4 r2 r4 q4))
def MZ(K:W.Frag)(x:V)(H:Hp)(k:Bool):Prop:=
 match x with
 |.non=>k=false
 |.bl b=>k=b
 |.int i=>k=(i != 0)
 |.str y=>y.length≤sizeLine∧k=((y.length:Int) != 0)
 |.byt y=>y.size≤sizeLine∧k=((y.size:Int) != 0)
 |.ref p=>(∃xs,eh K H p xs∧k=!xs.isEmpty)∨(∃xs,cW K H p xs∧k=!xs.isEmpty)∨∃aN,H p=some (.dK aN)∧k=!aN.isEmpty
 |_=>False
theorem ze{κ:Type}{aN:List (κ×V)}{vs:List (κ×Value)}(r:KV aN vs):(!vs.isEmpty)=!aN.isEmpty:=by
 cases r<;>rfl
theorem rA{its:List Value}(r:Vals xs its):(!its.toArray.isEmpty)=!xs.isEmpty:=by
 cases r<;>simp
theorem lY:(sizeLine:Nat)<2^63:=by rw[aa7];decide
theorem Ka:Vn X (λx H Q=>∃k,MZ X.K x H k∧Q k H):=by
 intro pins s σ H x v Q I rx h;let⟨k,e,q⟩:=h;have hl:=lY;have hs:sizeLine=16777216:=aa7;cases x with
 |non=>
  cases rx;have e':k=false:=e;subst e';exact truthy_none ⟨H,I,q⟩
 |bl b=>
  cases rx;have e':k=b:=e;subst e';exact abG ⟨H,I,q⟩
 |int i=>
  let⟨t,rfl⟩:=rx;have e':k=(i != 0):=e;subst e';exact PySem.P.truthy_int ⟨H,I,q⟩
 |str y=>
  let⟨t,rfl⟩:=rx;obtain⟨hy,e'⟩:y.length≤sizeLine∧k=((y.length:Int) != 0):=e;subst e';exact PySem.P.truthy_str (by lia) ⟨H,I.tok _,q⟩
 |byt y=>
  let⟨t,rfl⟩:=rx;obtain⟨hy,e'⟩:y.size≤sizeLine∧k=((y.size:Int) != 0):=e;subst e';exact W.truthy_bytes (by lia) ⟨H,I.tok _,q⟩
 |ref p=>
  cases rx;have e':(∃xs,eh X.K H p xs∧k=!xs.isEmpty)∨(∃xs,cW X.K H p xs∧k=!xs.isEmpty)∨∃aN,H p=some (.dK aN)∧k=!aN.isEmpty:=e;rcases e' with⟨xs,hx,e'⟩|⟨xs,hx,e'⟩|⟨aN,hx,e'⟩
  ·subst e'
   let⟨its,r,pl,hz⟩:=I.list hx;have hlen:=r.length;exact wpAny_truthy_list pl.isList (by simp only[aai];lia) ⟨H,I.tok _,by rw[rA r];exact q⟩
  ·subst e'
   let⟨its,r,pl,hz⟩:=I.tuple hx;have hlen:=r.length;exact truthy_tuple pl (by simp only[aai];lia) ⟨H,I.tok _,by rw[rA r];exact q⟩
  ·subst e'
   obtain⟨hz,hS,vs,r,m⟩:aN.length≤sizeLine∧(p==sysModules)=false∧∃vs,KV aN vs∧s.heap.DictOf (cH X.prog X.w) p vs:=I.bp p _ hx;have hlen:aN.length=vs.length:=ad4 r;exact wpAny_truthy_dict hS m (by lia) ⟨H,I.tok _,by rw[ze r];exact q⟩
 |_=>exact(show False from e).elim
theorem D4(ha:PE X a ta)(he:∀whole,isTrue a X.env whole=(do let v ←whole;standAt a.pos;holding [v] (truthy v))):
  PT X a (λσ H Q=>ta σ H λx H'=>∃k,MZ X.K x H' k∧Q k H'):=by
 exact .mk ?_;intro pins s σ H Q I h;exact isTrue_plain (bD (ha pins s σ H _ I h) λv s1 ξ=>Ξ23 ξ λx H1 I1 r1 q1=>Ka pins s1 σ H1 x v Q I1 r1 q1) (he _)
theorem fv:ja X (binaryOp .Add) (λx y H Q=>∃i j,x=.str i∧y=.str j∧i.length+j.length≤sizeLine∧Q (.str (i++j)) H):=by
 intro pins s σ H x y v u Q I rx ry h;let⟨i,j,rfl,rfl,hz,q⟩:=h;let⟨t,rfl⟩:=rx;let⟨t',rfl⟩:=ry;exact add_str (λt' tk=>Ψ2 (.str (i++j)) H ⟨I.tok _,⟨_,rfl⟩,q⟩) hz
theorem vals1{x:V}(r:Vals [x] us):∃u,us=[u]∧RelV x u:=by
 cases r with
 |cons r1 r2=>cases r2;exact⟨_,rfl,r1⟩
theorem vals2{x:V}(r:Vals [x,y] us):∃u w',us=[u,w']∧RelV x u∧RelV y w':=by
 cases r with
 |cons r1 r2=>
  cases r2 with
  |cons r3 r4=>cases r4;exact Ψ2 _ _ ⟨rfl,r1,r3⟩
theorem oQ(hc:X.calm=true):hZ X (.builtin "max") (λxs H Q=>∃i j,xs=[.int i,.int j]∧Q (.int (if j>i then j else i)) H):=by
 intro pins s σ H xs us Q I r h;let⟨i,j,rfl,q⟩:=h;let⟨u,w',rfl,⟨t,rfl⟩,⟨t',rfl⟩⟩:=vals2 r;exact max_two_ints (I.ok.hd hc) λh' tk k=>Ψ2 _ H ⟨I.kept k,?_,q⟩;by_cases hj:j>i
 ·rw[aaA hj,aaA hj];exact⟨_,rfl⟩
 ·rw[aaz hj,aaz hj];exact⟨_,rfl⟩
theorem Cb(hc:X.calm=true):hZ X (.builtin "min") (λxs H Q=>∃i j,xs=[.int i,.int j]∧Q (.int (if j<i then j else i)) H):=by
 intro pins s σ H xs us Q I r h;let⟨i,j,rfl,q⟩:=h;let⟨u,w',rfl,⟨t,rfl⟩,⟨t',rfl⟩⟩:=vals2 r;exact min_two_ints (I.ok.hd hc) λh' tk k=>Ψ2 _ H ⟨I.kept k,?_,q⟩;by_cases hj:j<i
 ·rw[aaA hj,aaA hj];exact⟨_,rfl⟩
 ·rw[aaz hj,aaz hj];exact⟨_,rfl⟩
theorem FQ:hZ X (.builtin "ord") (λxs H Q=>∃x,xs=[.str x]∧x.length=1∧Q (.int (x.cps.getD 0 0:Nat)) H):=by
 intro pins s σ H xs us Q I r h;let⟨x,rfl,hz,q⟩:=h;let⟨u,rfl,⟨t,rfl⟩⟩:=vals1 r;exact ord_of_one hz ⟨.int _,H,I.tok _,⟨_,rfl⟩,q⟩
theorem xK:hZ X (.builtin "divmod") (λxs H Q=>∃i j,xs=[.int i,.int j]∧Rl i j∧∀p,H p=none→Q (.ref p) (upd H p (.tup [.int (i/j),.int (i%j)]))):=by
 intro pins s σ H xs us Q I r h;let⟨i,j,rfl,⟨h1,h2⟩,q⟩:=h;let⟨u,w',rfl,⟨t,rfl⟩,⟨t',rfl⟩⟩:=vals2 r;exact divmod_int (by lia) ?_ (.inl (PyProof.noPylong_small (by lia)));rw[aee i (by lia),aed i (by lia)];have hn:H s.heap.objs.size=none:=I.bp.fresh (aan _);exact Ψ2 (.ref s.heap.objs.size) _ ⟨?_,rfl,q _ hn⟩;exact I.laid (λb o e=>aab _ e) (aan _) ⟨by simp only[aap,ad9];rw[aa7];decide,[.int (i/j) s.toks,.int (i%j) (s.toks+1)],.cons ⟨_,rfl⟩ (.cons ⟨_,rfl⟩ .nil),?_⟩;exact⟨_,aaq s.heap rfl,rfl,0,rfl⟩
end
structure M5(h:Heap)(x dx C:Addr)(mA:ac):Prop where
 obj:h.get? x=some (W.instObj C dx)
 ns:h.Ns1 dx mA
 ne:dx≠x
theorem BJ(n:h.Ns1 dx mA):∃od,h.get? dx=some od∧∀name,W.lookIn name od=some (mA name):=by
 let⟨o,es,ep,ho,hd,hk,_,hm⟩:=n;exact⟨o,ho,λname=>?_⟩;have e:=hm name;unfold nsFind findBy at e;rw[←Array.find?_toList]at e;unfold W.lookIn;rw[hd];dsimp only;split
 ·rename_i y q
  rw[q]at e;exact abc some e
 ·rename_i q
  rw[q]at e;have a:es.toList.any (·.refKey)=false:=by
   rw[List.any_eq_false];intro y hy;let⟨z,t,UK⟩:=hk y (Array.mem_toList_iff.mp hy);simp[DictEntry.refKey,UK]
  have a':¬es.toList.any (·.refKey)=true:=by rw[a];exact aal
  rw[aaz a'];exact abc some e
theorem M5.look{x:Addr}(I:M5 h x dx C mA):∃od,W.InstAt h x (W.instObj C dx) C (some od)∧∀name,W.lookIn name od=some (mA name):=
 let⟨od,ho,hl⟩:=BJ I.ns
 ⟨od,⟨I.obj,rfl,rfl,ho⟩,hl⟩
theorem rY.some_of{o:Option Value}(r:rY (some v) o):∃u,o=some u∧RelV v u:=by
 cases o with
 |none=>exact(show False from r).elim
 |some u=>exact⟨u,rfl,r⟩
section
variable {fs:List (Str×V)}
theorem Ie(bp:jJ P w H h)(e:H a=some (.ins C dx fs)):∃mA,M5 h a dx C mA∧(∀f,rY (fs.lookup f) (mA f))∧PySem.Within mA (fs.map (·.1))∧fs.length≤1000∧H dx=some (.own a):=by
 let⟨d,z,ne,ob,⟨mA,n,r,q⟩⟩:=(show bS P w H h a (.ins C dx fs)from bp a _ e);exact⟨mA,⟨ob,n,ne⟩,r,q,z,d⟩
end
structure VA(K:W.Frag)(C:Addr):Prop where
 pg:W.plainGet K C Str.empty=true
 hd:W.hasDictIn K C=true
 po:W.plainOver K C=true
 sa:W.findIn K (.ref C) "__setattr__" = some (some (.builtin "object.__setattr__"))
theorem VA.get(c:VA K C)(f:Str):W.plainGet K C f=true:=c.pg
structure Meth(K:W.Frag)(C:Addr)(m:Str)(f:Addr):Prop where
 at_:W.findIn K (.ref C) m=some (some (.ref f))
 fn:W.isFn K (.ref f)=true
 kp:W.keepIn K (.ref f)=true
section
variable {c:Value}{b:Bool}
inductive mr(K:W.Frag)(H:Hp):V→Value→Prop where
 |non:mr K H .non (.type "NoneType")
 |bl (x:Bool):mr K H (.bl x) (.type "bool")
 |int (i:Int):mr K H (.int i) (.type "int")
 |str (x:Str):mr K H (.str x) (.type "str")
 |flt (x:UInt64):mr K H (.flt x) (.type "float")
 |lst {a:Addr} {xs:List V} (e:H a=some (.lst xs)):mr K H (.ref a) (.type "list")
 |frz {a:Addr} {o:Obj} {xs:List V} (e:H a=some (.frz o (.lst xs))):mr K H (.ref a) (.type "list")
 |tup {a:Addr} {xs:List V} (e:H a=some (.tup xs)):mr K H (.ref a) (.type "tuple")
 |dK {a:Addr} {aN:List (Key×V)} (e:H a=some (.dK aN)):mr K H (.ref a) (.type "dict")
 |dT {a:Addr} {aN:List (List Key×V)} (e:H a=some (.dT aN)):mr K H (.ref a) (.type "dict")
 |ins {a C dx:Addr} {fs:List (Str×V)} (e:H a=some (.ins C dx fs)) (cl:VA K C) (ha:W.findIn K (.ref C) "__class__" = some (some (.builtin "object.__class__")))
   (hn:W.specialIn K (.builtin "object.__class__") "__get__" = some (some (.builtin "getset_descriptor.__get__"))) (Wy:W.takesIn K (.builtin "object.__class__")=some true)
   (hm:W.mroIn K C (.type "object")=some true):mr K H (.ref a) (.ref C)
theorem BO{x:V}{t:Value}(I:Inv X pins σ H s)(rx:RelV x u)(ty:mr X.K H x t)(e:W.kitOne X.K t c=some b)(h:∀tk,Q (.bool b) {s with toks:=tk}):
  wpAny (model X.prog X.w) A (call (.builtin "isinstance") [u,c]) Q E s:=by
 cases ty with
 |non=>cases(show u=Value.none from rx);exact abn W.kitx_none I.rn True.intro e (λz=>nomatch z) h
 |bl y=>cases(show u=Value.bool y from rx);exact abn W.kitx_bool I.rn True.intro e (λz=>nomatch z) h
 |int i=>let⟨t,q⟩:=(show ∃t,u=Value.int i t from rx);cases q;exact abn W.kitx_int I.rn True.intro e (λz=>nomatch z) h
 |str y=>let⟨t,q⟩:=(show ∃t,u=Value.str y t from rx);cases q;exact abn W.kitx_str I.rn True.intro e (λz=>nomatch z) h
 |flt y=>let⟨t,q⟩:=(show ∃t,u=Value.float y t from rx);cases q;exact abn W.kitx_float I.rn True.intro e (λz=>nomatch z) h
 |@lst a xs ea=>
  cases(show u=Value.ref a from rx);let⟨_,⟨_,n,_,h1⟩⟩:=(show bS X.prog X.w H s.heap a (.lst xs)from I.bp a _ ea);exact abn W.kitx_list I.rn ⟨_,h1,rfl⟩ e (λz=>nomatch z) h
 |@frz a ob xs ea=>
  cases(show u=Value.ref a from rx);let⟨_,_,⟨_,n,_,h1⟩⟩:=(show bS X.prog X.w H s.heap a (.frz ob (.lst xs))from I.bp a _ ea);exact abn W.kitx_list I.rn ⟨_,h1,rfl⟩ e (λz=>nomatch z) h
 |@tup a xs ea=>
  cases(show u=Value.ref a from rx);let⟨_,⟨_,_,p⟩⟩:=(show bS X.prog X.w H s.heap a (.tup xs)from I.bp a _ ea);let⟨o,h1,h2,_⟩:=p;exact abn W.kitx_tuple I.rn ⟨o,h1,h2⟩ e (λz=>nomatch z) h
 |@dK a aN ea=>
  cases(show u=Value.ref a from rx);let⟨_,_,⟨vs,_,p⟩⟩:=(show bS X.prog X.w H s.heap a (.dK aN)from I.bp a _ ea);let⟨o,es,ep,h1,h2,_⟩:=p;exact abn W.kitx_dict I.rn ⟨o,h1,h2.1⟩ e (λz=>nomatch z) h
 |@dT a aN ea=>
  cases(show u=Value.ref a from rx);let⟨_,_,⟨xs,_,⟨o,es,ep,h1,h2,_⟩⟩⟩:=(show bS X.prog X.w H s.heap a (.dT aN)from I.bp a _ ea);exact abn W.kitx_dict I.rn ⟨o,h1,h2.1⟩ e (λz=>nomatch z) h
 |@ins a C dx fs ea cl ha hn Wy hm=>
  cases(show u=Value.ref a from rx);let⟨mA,O,_⟩:=Ie I.bp ea;let⟨od,J,_⟩:=O.look;exact abn (W.kitx_own (cl.get _) cl.hd ha hn Wy hm) I.rn J e (λz=>nomatch z) h
end
structure dO(k:Nat)(A:Around):Prop where
 hd:A.handled=none
 dp:A.depth+3*k+5<recursionLimit
 un:A.units+16*k+200<cLine
theorem dO.mono(r:dO k A)(h:j≤k):dO j A:=⟨r.hd,by have:=r.dp;lia,by have:=r.un;lia⟩
theorem dO.deeper(r:dO (k+1) A)(env:Env):dO k (A.deeper env):=
 ⟨r.hd,by have:=r.dp;show A.depth+1+3*k+5<_;lia,by have:=r.un;show A.units+3+16*k+200<_;lia⟩
theorem dO.in1(r:dO (k+1) A):dO k A.in1:=
 ⟨r.hd,by have:=r.dp;show A.depth+3*k+5<_;lia,by have:=r.un;show A.units+1+16*k+200<_;lia⟩
theorem dO.depth(r:dO k A):A.depth<recursionLimit:=by have:=r.dp;lia
theorem dO.units(r:dO k A):A.units+64<cLine:=by have:=r.un;lia
theorem dO.lC(r:dO k A):A.units<cLine:=by have:=r.un;lia
def GF:TA:=λ_ H Q=>Q [] H
def vS(ta:TE)(tr:TA):TA:=λσ H Q=>ta σ H λx H1=>tr σ H1 λxs H2=>Q (x::xs) H2
section
theorem bf:PA X [] GF:=.mk λ_ _ _ _ H Q I h=>Calls.spliced_nil ⟨[],H,I,.nil,h⟩
theorem aq(ha:PE X e te)(hr:PA X es t)(hs:starEach (e::es) X.env=(false,eval e X.env)::starEach es X.env:=by rfl):PA X (e::es) (vS te t):=by
 exact .mk ?_;intro pos pins s σ H Q I h;rw[hs];show wpAny _ _ (spliced ((false,eval e X.env)::backTo pos (starEach es X.env))) _ _ s
 exact Calls.spliced_cons (bD (ha pins s σ H _ I h) λu s1 ξ=>Ξ23 ξ λx H1 I1 r1 q1=>?_);exact bD (hr pos pins s1 σ H1 _ I1 q1) λus s2 ξ=>Ξ23 ξ λxs H2 I2 r2 q2=>Ψ2 (x::xs) H2 ⟨I2,.cons r1 r2,q2⟩
def SX(t:TA):TE:=λσ H Q=>t σ H λxs H1=>xs.length≤sizeLine∧∀p,H1 p=none→Q (.ref p) (upd H1 p (.tup xs))
def S4(t:TA):TE:=λσ H Q=>t σ H λxs H1=>xs.length≤sizeLine∧∀p,H1 p=none→Q (.ref p) (upd H1 p (.lst xs))
theorem oy{x1}(h:PA X es t):PE X (.Tuple es x1 pos) (SX t):=by
 exact .mk ?_;intro pins s σ H Q I hq;exact wpAny_Tuple_spliced (bD (h pos pins s σ H _ I hq) λus s1 ξ=>Ξ24 ξ λxs H1 I1 r z q=>⟨by rw[←r.length];exact z,?_⟩);have hf:H1 s1.heap.objs.size=none:=I1.bp.fresh (aan _);exact Ψ2 (.ref s1.heap.objs.size) (upd H1 s1.heap.objs.size (.tup xs)) ⟨I1.laid (t':=s1.toks) (λb u e=>aab _ e) (aan _) ?_,rfl,q _ hf⟩;exact⟨z,us,r,⟨_,aaq _ rfl,rfl,_,rfl⟩⟩
theorem iO(h:PA X es t):PE X (.List es pos) (S4 t):=by
 exact .mk ?_;intro pins s σ H Q I hq;exact wpAny_List_spliced (bD (h pos pins s σ H _ I hq) λus s1 ξ=>Ξ24 ξ λxs H1 I1 r z q=>⟨by rw[←r.length];exact z,?_⟩);have hf:H1 s1.heap.objs.size=none:=I1.bp.fresh (aan _);exact Ψ2 (.ref s1.heap.objs.size) (upd H1 s1.heap.objs.size (.lst xs)) ⟨I1.laid (t':=s1.toks) (λb u e=>aab _ e) (aan _) ?_,rfl,q _ hf⟩;exact⟨z,us,0,r,aaq _ rfl⟩
end
abbrev Sp:=List V→Hp→VK→XK→Prop
abbrev x8:=List Env→Hp→Shared→XK→xz
structure x6(P:Program)(w:World)(K:W.Frag)(mg:ac)(base:Heap)(A:Around)(outer:List Env)(s:Shared)(H:Hp):Prop where
 frames:A.frames=some outer
 mod:Mod K mg base
 bs:∀b o,base.get? b=some o→s.heap.get? b=some o∧H b=none
 Cw:base.objs.size≤s.heap.objs.size
 ku:s.heap.FunFrames base outer
 Fm:∀b∈me outer,H b=none
 bp:jJ P w H s.heap
 bare:AllBare s.gens
def CE(outer:List Env)(P:Program)(w:World)(H:Hp)(s:Shared)(Q:VK)(u:Value)(s':Shared):Prop:=
 ∃v H',s'.os=s.os∧AllBare s'.gens∧Un (me outer) [] H H' s.heap s'.heap∧jJ P w H' s'.heap∧RelV v u∧Q v H'
def CR(CX:x8)(outer:List Env)(P:Program)(w:World)(H:Hp)(s:Shared)(Q:VK)(E:XK)(r:Result)(s':Shared):Prop:=
 match r with
 |.ok (.ret u)=>CE outer P w H s Q u s'
 |.ok _=>False
 |.error e=>CX outer H s E e s'
structure bq(P:Program)(w:World)(K:W.Frag)(mg:ac)(base:Heap)(CX:x8)(k:Nat)(f:Addr)(fd:FuncData)(ps:List Str)(sp:Sp):Prop where
 len:∀vs H Q E,sp vs H Q E→vs.length=ps.length
 run:∀(A:Around) (outer:List Env) (s:Shared) (H:Hp) (args:Args) (us:List Value) (vs:List V) (Q:VK) (E:XK),dO k A→x6 P w K mg base A outer s H→BindsTo s fd args (ps.zip us)→Vals vs us→sp vs H Q E→
  codeAny (model P w) A (.call (.ref f) args) (CR CX outer P w H s Q E) s
theorem bq.mono{f:Addr}(F:bq P w K mg base CX j f fd ps sp)(h:j≤k):
  bq P w K mg base CX k f fd ps sp:=⟨F.len,λA outer s H args us vs Q E hr=>F.run A outer s H args us vs Q E (hr.mono h)⟩
theorem bq.imp{f:Addr}{GK:Sp}(F:bq P w K mg base CX k f fd ps sp)
  (h:∀vs H Q E,GK vs H Q E→sp vs H Q E):bq P w K mg base CX k f fd ps GK:=
 ⟨λvs H Q E q=>F.len vs H Q E (h _ _ _ _ q),λA outer s H args us vs Q E hr he hb hv hs=>F.run A outer s H args us vs Q E hr he hb hv (h _ _ _ _ hs)⟩
theorem x6.in1(e:x6 P w K mg base A outer s H):
  x6 P w K mg base A.in1 outer s H:=⟨e.frames,e.mod,e.bs,e.Cw,e.ku,e.Fm,e.bp,e.bare⟩
section
theorem Inv.MJ(I:Inv X pins σ H s):x6 X.prog X.w X.K X.mg X.base X.A X.stack s H:=
 ⟨I.ok.frames,I.ok.mod,I.bs,aaG I.ok.Cw I.sz,I.stack,I.p4,I.bp,I.bare⟩
theorem Inv.after{Q:VK}(I:Inv X pins σ H s)(h:CE X.stack X.prog X.w H s Q u s'):EP X pins σ Q u s':=by
 let⟨v,H',os,bare,un,bp,r,q⟩:=h;obtain⟨hh,g,d,t,X7⟩:=s';obtain rfl:X7=s.os:=os;exact Ψ2 v H' ⟨I.call (h':=hh) (g':=g) (d':=d) (t':=t) (ch:=[]) un bp bare (λb z=>absurd z (by simp)),r,q⟩
end
def Ja(sp:Sp)(Ir:List V)(E:XK)(t:TA):TE:=λσ H Q=>t σ H λvs H1=>sp (vs++Ir) H1 Q E
def Binds(K:W.Frag)(fd:FuncData)(ps:List Str)(ds:List Value):Prop:=
 ∀(s:Shared) (us:List Value),K.In s.heap→(us++ds).length=ps.length→BindsTo s fd ⟨us,[]⟩ (ps.zip (us++ds))
theorem Binds.all(h:∀us:List Value,us.length=ps.length→bindArgs fd ⟨us,[]⟩=pure (ps.zip us)):Binds K fd ps []:=λs us _ hl=>by
 rw[aax]at hl ⊢;exact .of_eq (h us hl)
def Passes(CX:x8)(X:Cx)(E:XK):Prop:=∀(pins:ad) (σ:St) (H:Hp) (s:Shared) (e:Value) (s':Shared),Inv X pins σ H s→CX X.stack H s E e s'→X.xe e s'
section
variable {f:Addr}{Ir:List V}{ds:List Value}{E:XK}
theorem La{Q:VK}(F:bq X.prog X.w X.K X.mg X.base CX k f fd ps sp)(hr:dO k X.A)(hb:Binds X.K fd ps ds)(hd:Vals Ir ds)(hx:Passes CX X E)
  (I:Inv X pins σ H s) (r:Vals vs us) (h:sp (vs++Ir) H Q E):wpAny (model X.prog X.w) X.A (call (.ref f) us) (EP X pins σ Q) X.xe s:=by
 have r2:Vals (vs++Ir) (us++ds):=r.append hd;have hl:(us++ds).length=ps.length:=by rw[←r2.length];exact F.len _ _ _ _ h
 exact aeg (adK (F.run X.A X.stack s H ⟨us,[]⟩ (us++ds) (vs++Ir) Q E hr I.MJ (hb s us I.rn hl) r2 h) λr s' hq=>?_);cases r with
 |error e=>exact hx pins σ H s e s' I hq
 |ok fl=>
  cases fl with
  |ret u=>exact I.after hq
  |next=>exact False.elim hq
  |brk=>exact False.elim hq
  |cont=>exact False.elim hq
theorem Hl(F:bq X.prog X.w X.K X.mg X.base CX k f fd ps sp)(hr:dO k X.A)(hg:Gl X x)(hm:X.mg x=some (.ref f))(hk:W.keepIn X.K (.ref f)=true)(hb:Binds X.K fd ps ds)(hd:Vals Ir ds)(hx:Passes CX X E)
  (ha:PA X (e::es) t) (xf:(x ==("__debug__" : Str))=false:=by decide) (he:starEach (e::es) X.env=(false,eval e X.env)::starEach es X.env:=by rfl) (i9:(backTo pos (starEach es X.env)).any (·.1)=false:=by rfl) :
  PE X (.Call (.Name x p) (e::es) [] pos) (Ja sp Ir E t):=by
 exact .mk ?_;intro pins s σ H Q I h;exact abQ (mY I hg hm ?_ xf);exact W.callWith_K (h₀:=X.base) I.ok.mod.PX hk (bD (ha pos pins s σ H _ I h) λus s1 ξ=>Ξ23 ξ λvs H1 I1 r q=>⟨I1.rn,?_⟩) he i9;exact La F hr hb hd hx I1 r q
end
structure PK(X:Cx)(HW:List Keyword)(t:TA):Prop where
 run:∀(pos:Pos) pins s σ H (Q:List V→Hp→Prop),Inv X pins σ H s→t σ H Q→wpAny (model X.prog X.w) X.A (evalAll ((backToKw pos (keywordEach HW X.env)).map (·.2))) (AP X pins σ Q) X.xe s
instance {X:Cx}{HW:List Keyword}{t:TA}:CoeFun (PK X HW t) λ_=>∀(pos:Pos) pins s σ H (Q:List V→Hp→Prop),Inv X pins σ H s→t σ H Q→wpAny (model X.prog X.w) X.A (evalAll ((backToKw pos (keywordEach HW X.env)).map (·.2))) (AP X pins σ Q) X.xe s:=⟨PK.run⟩
section
variable {rm:Pos}{HW:List Keyword}{nm:Option Str}
theorem D8:PK X [] GF:=.mk λ_ _ _ _ H Q I h=>wpAny_evalAll_nil ⟨[],H,I,.nil,h⟩
theorem Al(ha:PE X e te)(hr:PK X HW t):PK X (⟨nm,e,rm⟩::HW) (vS te t):=by
 exact .mk ?_;intro pos pins s σ H Q I h;show wpAny _ _ (evalAll ((do let v ←eval e X.env;standAt pos;pure v)::(backToKw pos (keywordEach HW X.env)).map (·.2))) _ _ s
 exact wpAny_evalAll_cons (aaa (bD (ha pins s σ H _ I h) λu s1 ξ=>Ξ23 ξ λx H1 I1 r1 q1=>aaa (abP (aad ?_))));exact bD (hr pos pins s1 σ H1 _ I1 q1) λus s2 ξ=>Ξ23 ξ λxs H2 I2 r2 q2=>Ψ2 (x::xs) H2 ⟨I2,.cons r1 r2,q2⟩
end
structure aF(N P:List Str)(sc:Scope):Prop where
 kind:sc.kind=.function
 co:sc.isCoroutine=false
 gen:sc.isGenerator=false
 nd:N.Nodup
 pre:N.take P.length=P
 par:∀x∈P,sc.names.lookup x=some .local∨sc.names.lookup x=some .cell
 LS:∀y∈sc.names,y.2≠.free
theorem ud{kindOf:Str→Option NameKind}{x:Str}:∀{binds:List (Str×Value)} {m:ac},(∀v,(x,v)∉binds)→bindL kindOf binds m x=m x
 |[],_,_=>rfl
 |(n,v)::r,m,h=>by
  unfold bindL;rw[ud λw hw=>h w (aaJ _ hw)];split
  ·have:x≠n:=by rintro rfl;exact h v aa5
   simp[this]
  ·rfl
theorem uf{kindOf:Str→Option NameKind}{x:Str}:∀{binds:List (Str×Value)} {m:ac},(∀v,(x,v)∉binds)→bindC kindOf binds m x=m x
 |[],_,_=>rfl
 |(n,v)::r,m,h=>by
  unfold bindC;rw[uf λw hw=>h w (aaJ _ hw)];split
  ·rfl
  ·have:x≠n:=by rintro rfl;exact h v aa5
   simp[this]
theorem ue{kindOf:Str→Option NameKind}{x:Str}{v:Value}:∀{P:List Str} {vs:List Value} {i:Nat} {m:ac},P.Nodup→P[i]?=some x→vs[i]?=some v→kindOf x=some .local→
  bindL kindOf (P.zip vs) m x=some v
 |[],_,_,_,_,h,_,_=>by simp at h
 |_::_,[],_,_,_,_,h,_=>by simp at h
 |p::P,w::vs,0,m,nd,h1,h2,hk=>by
  simp at h1 h2;subst h1;subst h2;show bindL kindOf ((p,w)::P.zip vs) m p=_
  unfold bindL;rw[ud λv hv=>(abe.mp nd).1 (abR hv).1,aaA hk];simp
 |p::P,w::vs,i+1,m,nd,h1,h2,hk=>by
  show bindL kindOf ((p,w)::P.zip vs) m x=_
  unfold bindL;exact ue (i:=i) (abe.mp nd).2 (by simpa using h1) (by simpa using h2) hk
theorem ug{kindOf:Str→Option NameKind}{x:Str}{v:Value}:∀{P:List Str} {vs:List Value} {i:Nat} {m:ac},P.Nodup→P[i]?=some x→vs[i]?=some v→kindOf x≠some .local→
  bindC kindOf (P.zip vs) m x=some v
 |[],_,_,_,_,h,_,_=>by simp at h
 |_::_,[],_,_,_,_,h,_=>by simp at h
 |p::P,w::vs,0,m,nd,h1,h2,hk=>by
  simp at h1 h2;subst h1;subst h2;show bindC kindOf ((p,w)::P.zip vs) m p=_
  unfold bindC;rw[uf λv hv=>(abe.mp nd).1 (abR hv).1,aaz hk];simp
 |p::P,w::vs,i+1,m,nd,h1,h2,hk=>by
  show bindC kindOf ((p,w)::P.zip vs) m x=_
  unfold bindC;exact ug (i:=i) (abe.mp nd).2 (by simpa using h1) (by simpa using h2) hk
def start(N:List Str)(vs:List V):St:=vs.map some++List.replicate (N.length-vs.length) none
def sT(CX:x8)(P:Program)(w:World)(K:W.Frag)(mg:ac)(base:Heap)(N:List Str)(qual:Str)(scope:Scope)(f:Addr)(cd:Value)(A:Around)(outer:List Env)(s:Shared)(H:Hp)(E:XK):Cx where
 prog:=P
 w:=w
 K:=K
 mg:=mg
 base:=base
 A:=A.deeper (envOfC qual scope s.heap.objs.size f cd)
 N:=N
 s₀:=s
 H₀:=H
 env:=envOfC qual scope s.heap.objs.size f cd
 outer:=outer
 stack:=envOfC qual scope s.heap.objs.size f cd::outer
 ex:=[]
 calm:=true
 fn:=λ_=>true
 pn:=[]
 xe:=λe s'=>wpAny (model P w) (A.deeper (envOfC qual scope s.heap.objs.size f cd)) (leaving (envOfC qual scope s.heap.objs.size f cd) e) (λ_ nO=>CX outer H s E e nO) (λe' nO=>CX outer H s E e' nO) s'
theorem xI{sc:Scope}(h:sc.names.lookup x=some .cell):∃c,(cellsFrom n sc.names []).lookup x=some c:=by
 have q:=adm sc.names n [] (.inl h);exact acm.mp q
theorem tW{f:Addr}{cd:Value}{s1:Shared}{E:XK}
  (S:aF N ps scope) (hd:A.handled=none) (e0:x6 P w K mg base A outer s H) (hl:vs.length=ps.length) (r:Vals vs us)
  (x:InCallC s s.heap.objs.size (bindL (envOfC qual scope s.heap.objs.size f cd).kindOf (ps.zip us) λ_=>none) (cellsFrom (s.heap.objs.size+1) scope.names []) (bindC (envOfC qual scope s.heap.objs.size f cd).kindOf (ps.zip us) λ_=>none) s1) :
  Inv (sT CX P w K mg base N qual scope f cd A outer s H E) [] (start N vs) H s1:=by
 have i9:ps.length≤N.length:=by have:=abc List.length S.pre;rw[aa4]at this;lia
 let⟨h1,tk,rfl,hk⟩:=x.done;have TV:∀b:Addr,b∉(sT CX P w K mg base N qual scope f cd A outer s H E).ex:=λb z=>absurd (show b∈([]:List Addr)from z) (by simp);exact⟨⟨e0.mod,S.kind,rfl,rfl,aan _,λy z c h1 h2=>?_,λy hy=>?_,λy c _ h=>?_,λ_=>hd,Around.frames_deeper e0.frames,.inr ⟨rfl,rfl⟩,λb z=>absurd z (TV b),e0.bs,e0.Cw,λb _ _=>TV b,λb z=>absurd z (TV b),e0.ku,e0.Fm⟩,
  rfl,e0.bare,Un.kept hk,⟨_,x.toInCall.ns,λi y v h1 h2 h3=>?_⟩,λy c h=>⟨_,x.cell y c h⟩,e0.bp.fresh (aan _),λy c h=>?_,λp hp=>absurd (show p∈([]:ad)from hp) (by simp),e0.bp.kept hk,?_⟩
 ·exact name_of_addr x.apart (ach h1) (ach h2)
 ·have hy:scope.names.lookup y=some .cell∨scope.names.lookup y=some .free:=hy
  rcases hy with hy|hy
  ·exact xI hy
  ·exact absurd rfl (S.LS _ (ach hy))
 ·exact aar (x.above y c (ach h))
 ·have hi:i<vs.length:=by
   unfold start at h2;by_cases hi:i<vs.length
   ·exact hi
   ·rw[aaS (by simpa using hi)]at h2
    rw[aem]at h2;split at h2<;>cases h2
  have ha:vs[i]?=some v:=by
   unfold start at h2;rw[aaT (by simpa using hi),aaC]at h2;cases e:vs[i]? with
   |none=>rw[e]at h2;cases h2
   |some a=>rw[e]at h2;cases h2;rfl
  let⟨u,hu,rv⟩:=r.get ha;have hp:ps[i]?=some y:=by
   rw[←S.pre,List.getElem?_take_of_lt (by lia)];exact h1
  have V6:ps.Nodup:=by rw[←S.pre];exact S.nd.sublist (List.take_sublist _ _)
  exact⟨u,rv,?_⟩;rcases S.par y (aaj hp)with k|k
  ·exact .inl ⟨k,ue V6 hp hu k⟩
  ·let⟨c,e⟩:=xI (n:=s.heap.objs.size+1) k
   exact .inr ⟨.inl k,c,e,?_⟩;have q:=x.cell y c e;rw[ug V6 hp hu (by show scope.names.lookup y≠_;rw[k];decide)]at q;exact q
 ·exact e0.bp.fresh (aar (x.above y c (ach h)))
 ·unfold start
  show _=N.length
  rw[aag,aae,abq];lia
theorem Fo{f:Addr}{name:Str}{params:Arguments}{dV kV doc pm cy ct oc:Value}{an od:Option Addr}
  {yQ:Array (Option Value)}   (lk:K.lookup f=some ⟨oc,od,.func (W.fnOf name qual params body scope dV kV doc pm an cy ct),yQ⟩) (pO:W.codeIn K cy qual=true) (S:aF N ps scope)
  (len:∀vs H Q E,sp vs H Q E→vs.length=ps.length)
  (i3:∀(A:Around) (outer:List Env) (s:Shared) (H:Hp) (vs:List V) (Q:VK) (E:XK),dO k (A.deeper (envOfC qual scope s.heap.objs.size f cy))→sp vs H Q E→
   ∃t,kI (sT CX P w K mg base N qual scope f cy A outer s H E) body t∧t {nx:=λ_ H'=>Q .non H',rt:=Q} (start N vs) H) :
  bq P w K mg base CX (k+1) f (W.fnOf name qual params body scope dV kV doc pm an cy ct) ps sp:=by
 exact⟨len,λA outer s H args us vs Q E hr e0 hb r uV=>?_⟩;have hl:=len _ _ _ _ uV;have KX:K.In s.heap:=e0.mod.PX.keeps λb o e=>(e0.bs b o e).1;have lim:s.heap.NoLimit:=e0.mod.nolimit.keeps λb o e=>(e0.bs b o e).1;have Qo:∀y∈ps.zip us,scope.names.lookup y.1=some .local∨(scope.names.lookup y.1=some .cell∧((cellsFrom (s.heap.objs.size+1) scope.names []).lookup y.1).isSome=true):=λ⟨n,v⟩ hy=>by
  rcases S.par n (abR hy).1 with q|q
  ·exact .inl q
  ·exact .inr ⟨q,adm _ _ _ (.inl q)⟩
 exact codeAny_call_function hr.depth (KX _ _ lk) rfl S.co S.gen rfl (W.codeRec_of KX pO) (hb _ _ _ _ ?_);exact wpAny_newFunctionEnv_cells S.kind Qo λenv he s1 x=>?_;subst he;exact⟨lim.keeps x.toInCall.keep,codeAny_func ?_⟩;let⟨t,ht,hq⟩:=i3 A outer s H vs Q E (hr.deeper _) uV;have I:Inv (sT CX P w K mg base N qual scope f cy A outer s H E) [] (start N vs) H s1:=tW S hr.hd e0 hl r x;exact aaB (ht [] s1 (start N vs) H _ I hq) (λfl s' hs=>?_) λe s' hs=>hs;have fin:∀{σ':St} {H':Hp} {v:V} {u:Value},Inv (sT CX P w K mg base N qual scope f cy A outer s H E) [] σ' H' s'→RelV v u→Q v H'→CE outer P w H s Q u s':=
  λ{σ' H' v u} J rv q=>Ψ2 v H' ⟨J.os,J.bare,J.base,J.bp,rv,q⟩
 cases fl with
 |ret u=>
  let⟨v,σ',H',J,rv,q⟩:=hs;exact fin J rv q
 |next=>
  let⟨σ',H',J,q⟩:=hs;exact fin (v:=V.non) (u:=Value.none) J rfl q
 |brk=>
  let⟨_,_,_,q⟩:=hs;exact False.elim q
 |cont=>
  let⟨_,_,_,q⟩:=hs;exact False.elim q
section
variable {id T:String}{r:List V→Hp→VK→Prop}
def S8(r:List V→Hp→VK→Prop)(t:TA):TE:=λσ H Q=>t σ H λvs H1=>r vs H1 Q
theorem iV(hc:hZ X (.builtin id) r)(hg:Gl X x)(hm:X.mg x=none)(hv:bootBuiltins x=some (.builtin id))(ha:PA X (e::es) t)(hn:x ≠ "__name__" := by decide)(xf:(x ==("__debug__" : Str))=false:=by decide)
  (he:starEach (e::es) X.env=(false,eval e X.env)::starEach es X.env:=by rfl) (i9:(backTo pos (starEach es X.env)).any (·.1)=false:=by rfl):PE X (.Call (.Name x p) (e::es) [] pos) (S8 r t):=by
 exact .mk ?_;intro pins s σ H Q I h;exact abQ (gZ I hg hm hv ?_ hn xf);exact PyProof.Rows.callWith_builtin1 (bD (ha pos pins s σ H _ I h) λus s1 ξ=>Ξ23 ξ λvs H1 I1 r1 q1=>hc pins s1 σ H1 vs us Q I1 r1 q1) he i9
theorem tP(hc:hZ X (.type T) r)(hg:Gl X x)(hm:X.mg x=none)(hv:bootBuiltins x=some (.type T))(ha:PA X (e::es) t)(hn:x ≠ "__name__" := by decide)(xf:(x ==("__debug__" : Str))=false:=by decide)
  (he:starEach (e::es) X.env=(false,eval e X.env)::starEach es X.env:=by rfl) (i9:(backTo pos (starEach es X.env)).any (·.1)=false:=by rfl):PE X (.Call (.Name x p) (e::es) [] pos) (S8 r t):=by
 exact .mk ?_;intro pins s σ H Q I h;exact abQ (gZ I hg hm hv ?_ hn xf);exact abd (bD (ha pos pins s σ H _ I h) λus s1 ξ=>Ξ23 ξ λvs H1 I1 r1 q1=>hc pins s1 σ H1 vs us Q I1 r1 q1) he i9
end
end L2
namespace HT
open PySem PyProof.Rows
variable {t sl:Addr}{Q:xz}{vl vu:Value}{lo hi:Option Int}
section
open PySem.SeqAt
open PySem.AutoSeq1 (wpAny_loadPart')
open PySem.MeetsSeq PySem.MeetsSeq2 PySem.MeetsSeq3
end
section
variable {prog:Program}{w:World}{A:Around}{E:xz}{s:Shared}
theorem IB{b:Addr}{vs ws:List Value}(ht:IsTup s.heap t vs.toArray)(hb:IsTup s.heap b ws.toArray)(hv:vs≠[])
  (h1:ws=[]→Q (.ref t) s) (h2:ws≠[]→Q (.ref s.heap.objs.size) {s with heap:=s.heap.push {cls:=.type "tuple",data:=.seq (vs++ws).toArray}})
  (hsz:vs.length+ws.length≤sizeLine):wpAny (model prog w) A (binaryOp .Add (.ref t) (.ref b)) Q E s:=by
 obtain⟨⟨cls,dd,data,sl⟩,ho,hc,n,hd⟩:=id ht;obtain⟨⟨Vj,R8,data2,F7⟩,Mj,Qt,n2,hd2⟩:=id hb;simp only at hc hd Qt hd2;subst hc hd Qt hd2;have e:vs.toArray++ws.toArray=(vs++ws).toArray:=by simp
 by_cases hw:ws=[]
 ·exact concat_meets ⟨_,ho,rfl⟩ ⟨_,Mj,rfl⟩ aej seq_tuple_add adn adb (ac3 _ _)
   (tuple_addW1 t b vs.toArray ws.toArray n n2 dd R8 sl F7 (by simpa using hv) (by simp[hw])) ⟨ho,Mj,h1 hw⟩
 ·exact concat_meets ⟨_,ho,rfl⟩ ⟨_,Mj,rfl⟩ aej seq_tuple_add adn adb (ac3 _ _)
   (tuple_addW2 t b vs.toArray ws.toArray n n2 dd R8 sl F7 (by simpa using hv) (by simpa using hw) (by rw[aai,aai];exact hsz)) ⟨ho,Mj,?_⟩
  rw[e];exact h2 hw
def de(n d:Nat):Option Int→Nat
 |none=>d
 |some v=>if v<0 then(v+(n:Int)).toNat else min v.toNat n
theorem mJ(n d:Nat):de n d none=d:=rfl
theorem p5(n d k:Nat):de n d (some (k:Int))=min k n:=by
 show(if(k:Int)<0 then((k:Int)+(n:Int)).toNat else min (k:Int).toNat n)=min k n
 rw[aaz (by lia),abS]
theorem uA(n d:Nat)(hd:d≤n)(o:Option Int):de n d o≤n:=by
 cases o with
 |none=>exact hd
 |some v=>
  show(if v<0 then(v+(n:Int)).toNat else min v.toNat n)≤n
  by_cases hv:v<0
  ·rw[aaA hv];lia
  ·rw[aaz hv];exact Nat.min_le_right _ _
theorem AW(v:Int)(n d:Nat):(if v<0 then max (v+(n:Int)) 0 else min v (n:Int))=((de n d (some v):Nat):Int):=by
 show(if v<0 then max (v+(n:Int)) 0 else min v (n:Int))=(((if v<0 then(v+(n:Int)).toNat else min v.toNat n):Nat):Int)
 by_cases hv:v<0
 ·simp only[aaA hv];lia
 ·simp only[aaz hv];lia
theorem zI(lo hi:Option Int)(n:Nat):Builtin.Slice.sliceAdjust lo hi 1 (n:Int)=(((de n 0 lo:Nat):Int),((de n n hi:Nat):Int)):=by
 have h1:¬((1:Int)<0):=by lia
 unfold Builtin.Slice.sliceAdjust;simp only[h1,ac9];exact Prod.ext ?_ ?_
 ·cases lo with
  |none=>rfl
  |some v=>exact AW v n 0
 ·cases hi with
  |none=>rfl
  |some v=>exact AW v n n
theorem yL(i j:Nat):Builtin.Slice.slicePlaces (i:Int) (j:Int) 1=j-i:=by
 unfold Builtin.Slice.slicePlaces;have h1:(1:Int)>0:=by lia
 simp only[h1,ad3,adU];split<;>lia
theorem lF{v:Value}{o:Option Int}{Q:Option Int→Shared→Prop}(p:IsPart v o)(h:Q o s):wpAny (model prog w) A (Builtin.Slice.slicePartIndex v) Q E s:=by
 cases p with
 |none=>exact aei h
 |int i t=>exact slicePart_int h
theorem iT{n:Nat}{Q:Int×Int×Nat→Shared→Prop}(hs:s.heap.IsSliceOf sl vl vu .none)(pl:IsPart vl lo)(pu:IsPart vu hi)
  (h:Q (((de n 0 lo:Nat):Int),1,de n n hi-de n 0 lo) s):wpAny (model prog w) A (Builtin.Slice.sliceApplied (.ref sl) (pure (n:Int))) Q E s:=by
 let⟨os,BQ,Mt,Gi⟩:=id hs;unfold Builtin.Slice.sliceApplied Builtin.Slice.sliceFields;exact aaa (aaa (aaO BQ Gi (x:=vl) rfl (aaa (aaO BQ Gi (x:=vu) rfl (aaa (aaO BQ Gi (x:=.none) rfl (aad ?_)))))));exact aaa (aei ?_);show wpAny _ _ (if((1:Int)==0)=true then _ else _) _ _ s
 rw[aaz (by decide)];exact aaa (lF pl (aaa (lF pu (aaa (aad ?_)))));show wpAny _ _ (match Builtin.Slice.sliceAdjust lo hi 1 (n:Int)with|(lo,hi)=>pure (lo,(1:Int),Builtin.Slice.slicePlaces lo hi 1)) _ _ s
 rw[zI lo hi n];show wpAny _ _ (pure (((de n 0 lo:Nat):Int),(1:Int),Builtin.Slice.slicePlaces ((de n 0 lo:Nat):Int) ((de n n hi:Nat):Int) 1)) _ _ s
 rw[yL];exact aad h
theorem Ea(xs:Array Value)(i k:Nat):((List.range k).filterMap λ(m:Nat)=>xs[((i:Int)+(m:Int)*1).toNat]?).toArray=((xs.toList.drop i).take k).toArray:=by
 have e:(λ(m:Nat)=>xs[((i:Int)+(m:Int)*1).toNat]?)=λm=>xs[i+m]? := by
  funext m
  have:((i:Int)+(m:Int)*1).toNat=i+m:=by lia
  rw[this]
 rw[e];have:=pick_run xs i k;rw[adM]at this;have e2:((λx=>xs[x]?) ∘ λx=>i+x)=λm=>xs[i+m]? := rfl;rw[e2]at this;rw[this]
theorem m8{items:Array Value}(ht:IsTup s.heap t items)(hs:s.heap.IsSliceOf sl vl vu .none)(pl:IsPart vl lo)(pu:IsPart vu hi)
  (hw:¬(de items.size 0 lo=0∧de items.size items.size hi=items.size))
  (h:Q (.ref s.heap.objs.size) {s with heap:=s.heap.push {cls:=.type "tuple",data:=.seq ((items.toList.drop (de items.size 0 lo)).take (de items.size items.size hi-de items.size 0 lo)).toArray}})
  (hsz:items.size≤sizeLine):wpAny (model prog w) A (getItem (.ref t) (.ref sl)) Q E s:=by
 have m4:sizeOk (.seq ((items.toList.drop (de items.size 0 lo)).take (de items.size items.size hi-de items.size 0 lo)).toArray):=by
  show((items.toList.drop (de items.size 0 lo)).take (de items.size items.size hi-de items.size 0 lo)).toArray.size≤sizeLine
  rw[aai,aa4,abf,aaY];lia
 have hj:de items.size items.size hi≤items.size:=uA _ _ (aan _) hi;let⟨os,BQ,Mt,Gi⟩:=id hs;have Qx:s.TypeIs (.ref sl) "slice" :=⟨os,BQ,Mt⟩;unfold getItem
 try with_reducible exact aaR ?_
 first|refine aaa (aad ?_)|skip
 exact aaa (aef ht.typeIs (by decide) ?_);exact aaa (aaV (name:=Str.ofString "__getitem__") ht.typeIs aaP
  (abj aaP ht.typeIs entry_tuple_getitem ?_ (args_tuple_getitem _ _)))
 show wpAny _ _ (Builtin.Tuple.tupleItemsOf (.ref t) >>= _) _ _ s
 exact aaa (tupleItemsOf_ ht ?_);exact aaa (adf Qx ?_);rw[aaA (by decide)];exact aaa (iT hs pl pu ?_);have Qg:¬((((de items.size 0 lo:Nat):Int)==0&&(1:Int)==1&&(de items.size items.size hi-de items.size 0 lo)==items.size)=true):=by
  intro q;rw[aa1,aa1]at q;have q1:((de items.size 0 lo:Nat):Int)=0:=eq_of_beq q.1.1;have q2:de items.size items.size hi-de items.size 0 lo=items.size:=eq_of_beq q.2;exact hw ⟨by lia,by lia⟩
 show wpAny _ _ (if(((de items.size 0 lo:Nat):Int)==0&&(1:Int)==1&&(de items.size items.size hi-de items.size 0 lo)==items.size)=true then _ else _) _ _ s
 rw[aaz Qg,Ea];first
  |exact aaa (m:=Builtin.Tuple.tupleExact _) (aaL (aad ⟨_,rfl,aad h⟩) m4)
  |exact aaa (m:=Builtin.Tuple.tupleExact _) (aaL (aaa (aad (aad ⟨_,rfl,aad h⟩))) m4)
  |exact aaa (aaa (m:=Builtin.Tuple.tupleExact _) (aaL (aad (aad ⟨_,rfl,aad h⟩)) m4))
  |exact aaa (aaa (m:=Builtin.Tuple.tupleExact _) (aaL (aad ⟨_,rfl,aad h⟩) m4))
end
end HT
namespace L2
open PySem PySem.Spec PyProof.Rows
variable {xs ys:List V}{us its its':List Value}{n j t':Nat}{i:Int}{pins:ad}{σ:St}{H:Hp}{s:Shared}{p:Addr}{A:Around}{y x:V}{u v:Value}{X:Cx}{e:Expr}{pos:Pos}
abbrev TO:=St→Hp→(Option Int→Hp→Prop)→Prop
structure PO(X:Cx)(e:Option Expr)(t:TO):Prop where
 run:∀pins s σ H (Q:Option Int→Hp→Prop),Inv X pins σ H s→t σ H Q→
  wpAny (model X.prog X.w) X.A (evalPart e X.env) (λu s'=>∃o H',Inv X pins σ H' s'∧IsPart u o∧Q o H') X.xe s
instance {X:Cx}{e:Option Expr}{t:TO}:CoeFun (PO X e t) λ_=>∀pins s σ H (Q:Option Int→Hp→Prop),Inv X pins σ H s→t σ H Q→wpAny (model X.prog X.w) X.A (evalPart e X.env) (λu s'=>∃o H',Inv X pins σ H' s'∧IsPart u o∧Q o H') X.xe s:=⟨PO.run⟩
def GD:TO:=λ_ H Q=>Q none H
def Oz(t:TE):TO:=λσ H Q=>t σ H λx H1=>∃i,x=.int i∧Q (some i) H1
theorem intsAre_of{ns:List Int}:∀{us:List Value},Vals (ns.map V.int) us→IntsAre us ns:=by
 induction ns with
 |nil=>intro us r;rw[abJ]at r;cases r;exact .nil
 |cons n ns ih=>
  intro us r;rw[aam]at r;cases r with
  |cons r1 r2=>
   let⟨t,e⟩:=r1;subst e;exact .cons n t (ih r2)
section
variable {te:TE}{lo hi:Option Expr}{tl th:TO}{p2:Pos}
theorem gu:PO X none GD:=by
 exact .mk ?_;intro pins s σ H Q I h;rw[evalPart_none];exact aad ⟨none,H,I,.none,h⟩
theorem gr(h:PE X e te):PO X (some e) (Oz te):=by
 exact .mk ?_;intro pins s σ H Q I hw;rw[evalPart_some];exact bD (h pins s σ H _ I hw) λu s1 ξ=>Ξ23 ξ λx H1 I1 r1 q1=>?_;let⟨i,rfl,q⟩:=q1;let⟨t,rfl⟩:=r1;exact Ψ2 (some i) H1 ⟨I1,.int i t,q⟩
def NG(X:Cx)(r:V→Option Int→Option Int→Hp→VK→Prop):Prop:=
 ∀pins s σ H (x:V) (v vl vu:Value) (lo hi:Option Int) (sl:Addr) (Q:VK),Inv X pins σ H s→RelV x v→s.heap.IsSliceOf sl vl vu .none→IsPart vl lo→IsPart vu hi→r x lo hi H Q→
  ∃T id,typeLookup (.type T) "__getitem__" = pure (some (.builtin id))∧s.TypeIs v T∧wpAny (model X.prog X.w) X.A (getItem v (.ref sl)) (EP X pins σ Q) X.xe s
def XF(r:V→Option Int→Option Int→Hp→VK→Prop)(te:TE)(tl th:TO):TE:=λσ H Q=>te σ H λx H1=>tl σ H1 λl H2=>th σ H2 λu H3=>r x l u H3 Q
theorem fg{r:V→Option Int→Option Int→Hp→VK→Prop}(hr:NG X r)(he:PE X e te)(hl:PO X lo tl)(hu:PO X hi th):PE X (.Subscript e (.Slice lo hi none p2) pos) (XF r te tl th):=by
 exact .mk ?_;intro pins s σ H Q I h;exact Subscript_ (bD (he pins s σ H _ I h) λv s1 ξ=>Ξ23 ξ λx H1 I1 r1 q1=>?_);exact wpAny_Slice (bD (hl pins s1 σ H1 _ I1 q1) λvl s2 ξ=>Ξ23 ξ λl H2 I2 pl q2=>bD (hu pins s2 σ H2 _ I2 q2) λvu s3 ξ=>Ξ23 ξ λu H3 I3 pu q3=>?_);rw[evalPart_none];exact aad ?_;have I4:Inv X pins σ H3 {s3 with heap:=s3.heap.push {cls:=.type "slice",data:=.fields #[vl,vu,.none]}}:=I3.kept (t':=s3.toks) λb ob q=>aab _ q;let⟨T,id,hT,ht,hg⟩:=hr pins {s3 with heap:=s3.heap.push {cls:=.type "slice",data:=.fields #[vl,vu,.none]}} σ H3 x v vl vu l u s3.heap.objs.size Q I4 r1 (Heap.IsSliceOf.new ..) pl pu q3;show wpAny (model X.prog X.w) X.A (subscriptTail e (.Slice lo hi none p2) v (.ref s3.heap.objs.size)) (EP X pins σ Q) X.xe {s3 with heap:=s3.heap.push {cls:=.type "slice",data:=.fields #[vl,vu,.none]}}
 exact tail_any (ops:=[.ref s3.heap.objs.size,v]) ht hT hg (by with_unfolding_all rfl)
def vc(xs:List V)(lo hi:Option Int):List V:=(xs.drop (HT.de xs.length 0 lo)).take (HT.de xs.length xs.length hi-HT.de xs.length 0 lo)
theorem xC(xs:List V)(lo hi:Option Int):(vc xs lo hi).length≤xs.length:=by
 unfold vc;rw[aa4,abf];lia
def Ts(K:W.Frag):V→Option Int→Option Int→Hp→VK→Prop:=λx lo hi H Q=>∃a xs,x=.ref a∧cW K H a xs∧
 ¬(HT.de xs.length 0 lo=0∧HT.de xs.length xs.length hi=xs.length)∧∀p,H p=none→Q (.ref p) (upd H p (.tup (vc xs lo hi)))
theorem K5:NG X (Ts X.K):=by
 intro pins s σ H x v vl vu lo hi sl Q I rx hs pl pu h;let⟨a,xs,rfl,hx,hw,q⟩:=h;cases rx;let⟨its,r,ht,hz⟩:=I.tuple hx;have hlen:its.toArray.size=xs.length:=by rw[aai];exact r.length.symm
 exact Ψ2 ("tuple") _ ⟨aaP.lookup,ht.typeIs,?_⟩;exact HT.m8 ht hs pl pu (by rw[hlen];exact hw) ?_ (by rw[hlen];exact hz);rw[hlen];exact Ψ2 (.ref s.heap.objs.size) _ ⟨I.laid (t':=s.toks) (o:=.tup (vc xs lo hi)) (λb ob q=>aab _ q) (aan _) ?_,rfl,q _ (I.bp.fresh (aan _))⟩;exact⟨aaG (xC xs lo hi) hz,_,(r.drop (HT.de xs.length 0 lo)).take (HT.de xs.length xs.length hi-HT.de xs.length 0 lo),IsTup.new _ _⟩
def Pj(K:W.Frag):R2:=λx y H Q=>∃a b xs ys,x=.ref a∧y=.ref b∧cW K H a xs∧cW K H b ys∧xs≠[]∧xs.length+ys.length≤sizeLine∧
 (ys=[]→Q (.ref a) H)∧(ys≠[]→∀p,H p=none→Q (.ref p) (upd H p (.tup (xs++ys))))
theorem Vals.uQ(r:Vals xs us):us=[]↔xs=[]:=by
 cases r with
 |nil=>simp
 |cons _ _=>simp
theorem Hy:ja X (binaryOp .Add) (Pj X.K):=by
 intro pins s σ H x y v u Q I rx ry h;let⟨a,b,xs,ys,rfl,rfl,ha,hb,hx,hz,q1,q2⟩:=h;cases rx;cases ry;let⟨its,r1,p1,_⟩:=I.tuple ha;let⟨ik,r2,p2,_⟩:=I.tuple hb;exact HT.IB p1 p2 (λz=>hx (r1.uQ.mp z)) (λz=>Ψ2 (.ref a) H ⟨I,rfl,q1 (r2.uQ.mp z)⟩) (λz=>?_) (by rw[←r1.length,←r2.length];exact hz);exact Ψ2 (.ref s.heap.objs.size) _ ⟨I.laid (t':=s.toks) (o:=.tup (xs++ys)) (λb ob q=>aab _ q) (aan _) ?_,rfl,q2 (λw=>z (r2.uQ.mpr w)) _ (I.bp.fresh (aan _))⟩;exact⟨by rw[aag];exact hz,_,r1.append r2,IsTup.new _ _⟩
end
def BN(n:Nat)(i:Int):Option Nat:=if 0≤i then(if i<n then some i.toNat else none)else if -(n:Int)≤i then some (i+n).toNat else none
def kH{α:Type}(xs:List α)(i:Int):Option α:=(BN xs.length i).bind λj=>xs[j]?
theorem AB(h:BN n i=some j):seqIndex? i n=some j∧j<n∧-(n:Int)≤i∧i<n:=by
 unfold BN at h;by_cases h0:0≤i
 ·rw[aaA h0]at h
  by_cases h1:i<n
  ·rw[aaA h1]at h
   have e:i.toNat=j:=aaW h;exact⟨by rw[seqIndex_of h0 h1,e],by lia,by lia,h1⟩
  ·rw[aaz h1]at h;cases h
 ·rw[aaz h0]at h
  by_cases h1:-(n:Int)≤i
  ·rw[aaA h1]at h
   have e:(i+n).toNat=j:=aaW h;exact⟨by rw[seqIndex_neg (by lia) h1,e],by lia,h1,by lia⟩
  ·rw[aaz h1]at h;cases h
theorem vz{α:Type}{xs:List α}{v:α}(h:kH xs i=some v):∃j,seqIndex? i xs.length=some j∧xs[j]?=some v∧j<xs.length∧-(xs.length:Int)≤i∧i<xs.length:=by
 unfold kH at h;cases e:BN xs.length i with
 |none=>rw[e]at h;cases h
 |some j=>
  rw[e]at h;let⟨h1,h2,h3,h4⟩:=AB e;exact⟨j,h1,h,h2,h3,h4⟩
theorem cA{α:Type}{xs:List α}{v:α}(h:xs[j]?=some v):kH xs (j:Int)=some v:=by
 have hj:j<xs.length:=(aat.mp h).1;have e:BN xs.length (j:Int)=some j:=by
  unfold BN;rw[aaA (by lia),aaA (by lia)];simp
 unfold kH;rw[e];exact h
def qe(b:Expr):Prop:=∀o i,subscripted b false o i=operate [o,i] (getItem o i)
def IS(X:Cx)(r:R2):Prop:=
 ∀(value slice:Expr) pins s σ H (x y:V) (v u:Value) (Q:VK),Inv X pins σ H s→RelV x v→RelV y u→r x y H Q→
  subscripted slice false v u=operate [v,u] (getItem v u)→wpAny (model X.prog X.w) X.A (subscriptTail value slice v u) (EP X pins σ Q) X.xe s
def Ri(X:Cx)(id:String)(r:V→List V→Hp→VK→Prop):Prop:=
 ∀pins s σ H (x:V) (xs:List V) (v:Value) (us:List Value) (Q:VK),Inv X pins σ H s→RelV x v→Vals xs us→r x xs H Q→
  wpAny (model X.prog X.w) X.A (call (.builtin id) (v::us)) (EP X pins σ Q) X.xe s
section
variable {a b:Expr}{ta tb:TE}
theorem IS.or{r r':R2}(h:IS X r)(h':IS X r'):IS X (λx y H Q=>r x y H Q∨r' x y H Q):=by
 intro value slice pins s σ H x y v u Q I rx ry q hs;rcases q with q|q
 ·exact h value slice pins s σ H x y v u Q I rx ry q hs
 ·exact h' value slice pins s σ H x y v u Q I rx ry q hs
theorem eB{r:R2}(hr:IS X r)(ha:PE X a ta)(hb:PE X b tb)(hs:qe b):PE X (.Subscript a b pos) (OA r ta tb):=by
 exact .mk ?_;intro pins s σ H Q I h;exact Subscript_ (MW ha hb I h λv u s2 x y H2 I2 rx ry q=>hr a b pins s2 σ H2 x y v u Q I2 rx ry q (hs _ _))
def Ph(K:W.Frag):R2:=λx y H Q=>∃p xs i v,x=.ref p∧y=.int i∧eh K H p xs∧kH xs i=some v∧Q v H
def Pf(K:W.Frag):R2:=λx y H Q=>∃p xs i v,x=.ref p∧y=.int i∧cW K H p xs∧kH xs i=some v∧Q v H
def Pg:R2:=λx y H Q=>∃z i c,x=.str z∧y=.int i∧z.length≤sizeLine∧kH z.cps.toList i=some c∧Q (.str ⟨#[c]⟩) H
theorem ck:IS X (Ph X.K):=by
 intro value slice pins s σ H x y v u Q I rx ry h hs;let⟨p,xs,i,z,rfl,rfl,hq,he,q⟩:=h;cases rx;let⟨t,rfl⟩:=ry;let⟨its,r,pl,hz⟩:=I.list hq;let⟨j,h1,h2,h3,h4,h5⟩:=vz he;let⟨w,ew,qH⟩:=r.get h2;have hl:=r.length;have hn:=lY;have fin:EP X pins σ Q w s:=Ψ2 z H ⟨I,qH,q⟩;by_cases h0:0≤i
 ·have hj:i.toNat=j:=by
   rw[seqIndex_of h0 h5]at h1;exact aaW h1
  exact item_listR pl.isList h0 (by lia) (by rw[hj];simpa using ew) fin hs
 ·have hj:(i+(its.toArray.size:Int)).toNat=j:=by
   rw[seqIndex_neg (by lia) h4]at h1;rw[aai,←hl];exact aaW h1
  exact subscriptTail_builtinR (x:=w) pl.isList.typeIs slot_list_getitem.lookup
   (wpAny_getItem_list_neg (Q:=λr s'=>r=w∧EP X pins σ Q r s') pl.isList (by lia) (by rw[aai]<;>lia) (by lia) (by rw[hj];simpa using ew) ⟨rfl,fin⟩) hs
theorem E6:IS X (Pf X.K):=by
 intro value slice pins s σ H x y v u Q I rx ry h hs;let⟨p,xs,i,z,rfl,rfl,hq,he,q⟩:=h;cases rx;let⟨t,rfl⟩:=ry;let⟨its,r,pl,hz⟩:=I.tuple hq;let⟨j,h1,h2,h3,h4,h5⟩:=vz he;let⟨w,ew,qH⟩:=r.get h2;have hl:=r.length;have hn:=lY;have fin:EP X pins σ Q w s:=Ψ2 z H ⟨I,qH,q⟩;exact subscriptTail_builtinR (x:=w) pl.typeIs slot_tuple_getitem.lookup
  (getItem_tuple (j:=j) (Q:=λr s'=>r=w∧EP X pins σ Q r s') pl (by lia) (by lia) (by rw[aai,←hl];exact h1) (by simpa using ew) ⟨rfl,fin⟩) hs
theorem oN:IS X Pg:=by
 intro value slice pins s σ H x y v u Q I rx ry h hs;let⟨z,i,c,rfl,rfl,hz,he,q⟩:=h;let⟨t,rfl⟩:=rx;let⟨t',rfl⟩:=ry;let⟨j,h1,h2,h3,h4,h5⟩:=vz he;have hl:z.cps.toList.length=z.length:=by simp[Str.length]
 rw[hl]at h1 h4 h5;have hn:=lY;exact tail_any (typeIs_str s z t) slot_str_getitem.lookup (getItem_str (c:=c) (by
  have e1:decide (i < -(2^63:Int))=false:=aa2 (by lia);have e2:decide (i ≥ 2^63)=false:=aa2 (by lia);rw[e1,e2,Bool.or_false]) (by rw[h1];simpa using h2) ⟨.str ⟨#[c]⟩,H,I.tok _,⟨_,rfl⟩,q⟩) hs
def XQ(K:W.Frag):R2:=λx y H Q=>Ph K x y H Q∨Pf K x y H Q∨Pg x y H Q
theorem Mb:IS X (XQ X.K):=ck.or (E6.or oN)
theorem y6(its:List Value)(n j:Nat)(u:Value):Obj.mapSeq (·.setIfInBounds j u) {cls:=.type "list",data:=.seq its.toArray n}={cls:=.type "list",data:=.seq (its.set j u).toArray n}:=by
 simp[Obj.mapSeq]
theorem Inv.lst(I:Inv X pins σ H s)(h:H p=some (.lst xs)):
  ∃(its:List Value) (n:Nat),Vals xs its∧s.heap.get? p=some {cls:=.type "list",data:=.seq its.toArray n}∧xs.length≤sizeLine:=by
 let⟨z,⟨its,n,r,e⟩⟩:=I.bp p _ h;exact Ψ2 its n ⟨r,e,z⟩
theorem Inv.LY{n':Nat}{f:Obj→Obj}(I:Inv X pins σ H s)(h:H p=some (.lst xs))
  (ho:s.heap.get? p=some {cls:=.type "list",data:=.seq its.toArray n}) (hf:f {cls:=.type "list",data:=.seq its.toArray n}={cls:=.type "list",data:=.seq its'.toArray n'}) (r:Vals ys its') (hz:ys.length≤sizeLine) (t:Nat) :
  Inv X pins σ (upd H p (.lst ys)) {s with heap:=s.heap.update p f,toks:=t}:=by
 have e:(s.heap.update p f).get? p=some {cls:=.type "list",data:=.seq its'.toArray n'}:=by
  rw[abt f ho (by rw[hf]<;>rfl),hf]
 exact I.write (x:=p) (e:=p) (by rw[h];trivial) (.inl rfl) (λb u hb q=>(aaF _ _ (abM hb)).trans q) ⟨_,e⟩ ?_;exact⟨hz,its',n',r,e⟩
def Pb:V→V→V→Hp→(Hp→Prop)→Prop:=λo i v H Q=>∃p xs k j,o=.ref p∧i=.int k∧H p=some (.lst xs)∧BN xs.length k=some j∧Q (upd H p (.lst (xs.set j v)))
theorem set_list:Rg X Pb:=by
 intro pins s σ H o i v ov iv u Q I ro ri rv h;let⟨p,xs,k,j,rfl,rfl,hp,hj,q⟩:=h;cases ro;let⟨t,rfl⟩:=ri;let⟨its,n,r,ho,hz⟩:=I.lst hp;let⟨h1,h2,h3,h4⟩:=AB hj;have hl:=r.length;have hn:=lY;have I':Inv X pins σ (upd H p (.lst (xs.set j v))) {s with heap:=s.heap.update p (Obj.mapSeq (·.setIfInBounds j u))}:=
  I.LY hp ho (y6 its n j u) (r.set rv j) (by rw[acO];exact hz) s.toks
 by_cases h0:0≤k
 ·have hk:k.toNat=j:=by
   rw[seqIndex_of h0 h4]at h1;exact aaW h1
  exact W.ki_setAt ho h0 (by lia) (by rw[aai,←hl];exact h4) (by rw[hk];exact⟨_,I',q⟩)
 ·have hk:(k+(its.toArray.size:Int)).toNat=j:=by
   rw[seqIndex_neg (by lia) h3]at h1;rw[aai,←hl];exact aaW h1
  exact W.ki_setBack ho (by lia) (by rw[aai,←hl];exact h3) (by lia) (by rw[hk];exact⟨_,I',q⟩)
def eK:V→Bool
 |.non=>true
 |.bl _=>true
 |.int _=>true
 |.str _=>true
 |_=>false
def kQ:V→V→Bool
 |.non,.non=>true
 |.bl a,.bl b=>a==b
 |.bl a,.int b=>(if a then 1 else 0)==b
 |.int a,.bl b=>a ==(if b then 1 else 0)
 |.int a,.int b=>a==b
 |.str a,.str b=>a==b
 |_,_=>false
theorem oP(ry:RelV y u)(rx:RelV x v)(fy:eK y=true)(fx:eK x=true):SeqAt.EqAt A s u v (kQ y x):=by
 cases y with
 |non=>
  cases ry;cases x with
  |non=>cases rx;exact SeqAt.EqAt.same _
  |bl b=>cases rx;exact SeqAt.EqAt.none_bool b
  |int b=>let⟨t,rfl⟩:=rx;exact SeqAt.EqAt.none_int b t
  |str b=>let⟨t,rfl⟩:=rx;exact SeqAt.EqAt.none_str b t
  |_=>exact absurd (show false=true from fx) aal
 |bl a=>
  cases ry;cases x with
  |non=>cases rx;exact SeqAt.EqAt.bool_none a
  |bl b=>cases rx;exact SeqAt.EqAt.bool_bool a b
  |int b=>let⟨t,rfl⟩:=rx;exact SeqAt.EqAt.bool_int a b t
  |str b=>let⟨t,rfl⟩:=rx;exact SeqAt.EqAt.bool_str a b t
  |_=>exact absurd (show false=true from fx) aal
 |int a=>
  let⟨t',rfl⟩:=ry;cases x with
  |non=>cases rx;exact SeqAt.EqAt.int_none a t'
  |bl b=>cases rx;exact SeqAt.EqAt.int_bool a t' b
  |int b=>let⟨t,rfl⟩:=rx;exact SeqAt.EqAt.int_int a t' b t
  |str b=>let⟨t,rfl⟩:=rx;exact SeqAt.EqAt.int_str a t' b t
  |_=>exact absurd (show false=true from fx) aal
 |str a=>
  let⟨t',rfl⟩:=ry;cases x with
  |non=>cases rx;exact SeqAt.EqAt.str_none a t'
  |bl b=>cases rx;exact SeqAt.EqAt.str_bool a t' b
  |int b=>let⟨t,rfl⟩:=rx;exact SeqAt.EqAt.str_int a t' b t
  |str b=>let⟨t,rfl⟩:=rx;exact SeqAt.EqAt.str_str a t' b t
  |_=>exact absurd (show false=true from fx) aal
 |_=>exact absurd (show false=true from fy) aal
def xv(x:V)(u:Value):Bool:=match u with
 |.none=>kQ .non x
 |.bool b=>kQ (.bl b) x
 |.int i _=>kQ (.int i) x
 |.str z _=>kQ (.str z) x
 |_=>false
theorem zr(r:RelV y u)(f:eK y=true):xv x u=kQ y x:=by
 cases y with
 |non=>cases r;rfl
 |bl b=>cases r;rfl
 |int i=>let⟨t,rfl⟩:=r;rfl
 |str z=>let⟨t,rfl⟩:=r;rfl
 |_=>exact absurd (show false=true from f) aal
theorem nE{x:V}:∀{xs:List V} {us:List Value},Vals xs us→xs.all eK=true→us.any (xv x)=xs.any λy=>kQ y x
 |_,_,.nil,_=>rfl
 |y::xs,u::us,.cons r t,f=>by
  rw[ab8,aa1]at f;rw[ab7,ab7,zr r f.1,nE t f.2]
theorem iX{A:Around}{s:Shared}{x:V}{v:Value}(rx:RelV x v)(fx:eK x=true):∀{xs:List V} {us:List Value},Vals xs us→xs.all eK=true→∀u∈us,SeqAt.EqAt A s u v (xv x u)
 |_,_,.nil,_=>λu hu=>by cases hu
 |y::xs,u::us,.cons r t,f=>λu' hu=>by
  rw[ab8,aa1]at f;rcases aah.mp hu with rfl|hu
  ·rw[zr r f.1];exact oP r rx f.1 fx
  ·exact iX rx fx t f.2 u' hu
def Ge(x:V)(xs:List V):Bool:=xs.any λy=>kQ y x
def Rx(K:W.Frag)(neg:Bool):R2:=λx y H Q=>∃p xs,y=.ref p∧(eh K H p xs∨cW K H p xs)∧eK x=true∧xs.all eK=true∧Q (.bl (if neg then !Ge x xs else Ge x xs)) H
theorem Bv:ja X (compareOp .In) (Rx X.K false):=by
 intro pins s σ H x y v u Q I rx ry h;let⟨p,xs,rfl,hq,fx,fs,q⟩:=h;cases ry;rcases hq with hq|hq
 ·let⟨its,r,pl,hz⟩:=I.list hq
  exact SeqAt.in_listAt (xv x) pl.isList (λw hw=>iX rx fx r fs w (by simpa using hw)) ⟨.bl _,H,I,rfl,?_⟩;rw[show its.toArray.any (xv x)=its.any (xv x)by simp,nE r fs];exact q
 ·let⟨its,r,pl,hz⟩:=I.tuple hq
  exact SeqAt.in_tupleAt (xv x) pl (λw hw=>iX rx fx r fs w (by simpa using hw)) ⟨.bl _,H,I,rfl,?_⟩;rw[show its.toArray.any (xv x)=its.any (xv x)by simp,nE r fs];exact q
theorem uK:ja X (compareOp .NotIn) (Rx X.K true):=by
 intro pins s σ H x y v u Q I rx ry h;let⟨p,xs,rfl,hq,fx,fs,q⟩:=h;cases ry;rcases hq with hq|hq
 ·let⟨its,r,pl,hz⟩:=I.list hq
  exact SeqAt.notIn_listAt (xv x) pl.isList (λw hw=>iX rx fx r fs w (by simpa using hw)) ⟨.bl _,H,I,rfl,?_⟩;rw[show its.toArray.any (xv x)=its.any (xv x)by simp,nE r fs];exact q
 ·let⟨its,r,pl,hz⟩:=I.tuple hq
  exact SeqAt.notIn_tupleAt (xv x) pl (λw hw=>iX rx fx r fs w (by simpa using hw)) ⟨.bl _,H,I,rfl,?_⟩;rw[show its.toArray.any (xv x)=its.any (xv x)by simp,nE r fs];exact q
theorem jz:hZ X (.builtin "len") (λxs H Q=>∃p ys,xs=[.ref p]∧(eh X.K H p ys∨cW X.K H p ys)∧Q (.int ys.length) H):=by
 intro pins s σ H xs us Q I r h;let⟨p,ys,rfl,hq,q⟩:=h;let⟨u,rfl,rx⟩:=vals1 r;cases rx;have hn:=lY;rcases hq with hq|hq
 ·let⟨its,r',pl,hz⟩:=I.list hq
  have hlen:=r'.length;exact Calls.call_len_list pl.isList (by simp only[aai]<;>lia) ⟨.int ys.length,H,I.tok _,⟨s.toks+1,by rw[aai,hlen]⟩,q⟩
 ·let⟨its,r',pl,hz⟩:=I.tuple hq
  have hlen:=r'.length;exact len_tuple pl (by simp only[aai]<;>lia) ⟨.int ys.length,H,I.tok _,⟨s.toks+1,by rw[aai,hlen]⟩,q⟩
theorem nq:hZ X (.builtin "len") (λxs H Q=>∃z,xs=[.str z]∧z.length≤sizeLine∧Q (.int z.length) H):=by
 intro pins s σ H xs us Q I r h;let⟨z,rfl,hz,q⟩:=h;let⟨u,rfl,⟨t,rfl⟩⟩:=vals1 r;have hn:=lY;exact len_str (by lia) ⟨.int z.length,H,I.tok _,⟨_,rfl⟩,q⟩
theorem lj:hZ X (.type "tuple") (λxs H Q=>∃p ys,xs=[.ref p]∧((eh X.K H p ys∧∀l,H l=none→Q (.ref l) (upd H l (.tup ys)))∨(cW X.K H p ys∧Q (.ref p) H))):=by
 intro pins s σ H xs us Q I r h;obtain⟨p,ys,rfl,h⟩:=h;let⟨u,rfl,rx⟩:=vals1 r;cases rx;rcases h with⟨hq,q⟩|⟨hq,q⟩
 ·let⟨its,r',pl,hz⟩:=I.list hq
  have hlen:=r'.length;exact call_tuple_list pl.isList (λh' kp=>?_) (by simp only[aai]<;>lia)
  have I1:Inv X pins σ H {s with heap:=h'}:=I.kept (t':=s.toks) kp;have I2:Inv X pins σ (upd H h'.objs.size (.tup ys)) {s with heap:=h'.push {cls:=.type "tuple",data:=.seq its.toArray}}:=
   I1.laid (t':=s.toks) (λb o e=>aab _ e) (aan _) (show bS X.prog X.w _ _ _ (.tup ys)from⟨hz,its,r',IsTup.new _ _⟩)
  exact Ψ2 (.ref h'.objs.size) _ ⟨I2,rfl,q _ (I1.bp.fresh (aan _))⟩
 ·let⟨its,r',pl,hz⟩:=I.tuple hq
  exact call_tuple_same pl ⟨.ref p,H,I,rfl,q⟩
def Rr(K:W.Frag)(T:String)(x:V)(H:Hp):Prop:=match x with
 |.str _=>T = "str"
 |.int _=>T = "int"
 |.ref p=>(T = "list" ∧ ∃xs,eh K H p xs)∨(T = "tuple" ∧ ∃o,K.lookup p=some o∧o.cls=.type "tuple" ∧ o.dict=none) ∨
   (T = "dict" ∧((∃aN,H p=some (.dK aN))∨∃aN,H p=some (.dT aN)))∨(T = "set" ∧ ∃S n,H p=some (.set S n))
 |_=>False
theorem Dd{T:String}(I:Inv X pins σ H s)(r:RelV x v)(ty:Rr X.K T x H):
  s.TypeIs v T∧∀a,v=.ref a→∃ob,s.heap.get? a=some ob∧ob.dict=none:=by
 cases x with
 |str z=>
  let⟨t,rfl⟩:=r;cases(show T = "str" from ty);exact⟨typeIs_str s z t,λ_ e=>nomatch e⟩
 |int i=>
  let⟨t,rfl⟩:=r;cases(show T = "int" from ty);exact⟨typeIs_int s i t,λ_ e=>nomatch e⟩
 |ref p=>
  cases r;rcases ty with⟨rfl,xs,hq⟩|⟨rfl,o,hk,hc,hd⟩|⟨rfl,hk⟩|⟨rfl,S,n,hk⟩
  ·let⟨its,_,pl,_⟩:=I.list hq
   exact⟨pl.isList.typeIs,λa e=>?_⟩;cases e;let⟨o,n,e,c,hd,_⟩:=pl;exact⟨o,e,hd⟩
  ·exact⟨⟨o,I.rn p o hk,hc⟩,λa e=>?_⟩
   cases e;exact⟨o,I.rn _ o hk,hd⟩
  ·have z:∃o,s.heap.get? p=some o∧o.ExactDict:=by
    rcases hk with⟨aN,hk⟩|⟨aN,hk⟩
    ·let⟨_,_,⟨_,_,⟨o,_,_,e,ex,_⟩⟩⟩:=I.bp p _ hk
     exact⟨o,e,ex⟩
    ·let⟨_,_,⟨_,_,⟨o,_,_,e,ex,_⟩⟩⟩:=I.bp p _ hk
     exact⟨o,e,ex⟩
   let⟨o,e,ex⟩:=z;exact⟨⟨o,e,ex.1⟩,λa e2=>?_⟩;cases e2;exact⟨o,e,ex.2.1⟩
  ·let⟨o,_,_,_,e,ex,_⟩:=I.bp p _ hk
   exact⟨⟨o,e,ex.1⟩,λa e2=>?_⟩;cases e2;exact⟨o,e,ex.2.1⟩
 |_=>exact False.elim ty
def S9(K:W.Frag)(T:String)(r:V→List V→Hp→VK→Prop)(to:TE):TE:=λσ H Q=>to σ H λx H1=>Rr K T x H1∧r x [] H1 Q
def XJ(K:W.Frag)(T:String)(r:V→List V→Hp→VK→Prop)(to:TE)(t:TA):TE:=λσ H Q=>to σ H λx H1=>Rr K T x H1∧t σ H1 λxs H2=>r x xs H2 Q
variable {o:Expr}{es:List Expr}{to:TE}{t:TA}{name:Str}{apos dy:Pos}{T id:String}{r:V→List V→Hp→VK→Prop}
theorem LH(pa:PlainAttrs T)(slot:Slot T name id)(AG:typeOf (.builtin id)=pure (.type "method_descriptor"))(hm:Ri X id r)(ho:PE X o to)
  (ko:attributeBase o name X.env (eval o X.env)=eval o X.env:=by rfl) (kl:(apos.endLine==dy.line)=true:=by rfl):PE X (.Call (.Attribute o name apos) [] [] dy) (S9 X.K T r to):=by
 exact .mk ?_;intro pins s σ H Q I h;exact wpAny_Call_method0_late ko kl (bD (ho pins s σ H _ I h) λv s1 ξ=>Ξ24 ξ λx H1 I1 r1 ty q1=>?_);let⟨h1,h2⟩:=Dd I1 r1 ty;exact Ψ2 T id ⟨pa,slot,AG,h1,h2,adH rfl (PySem.evalArgs_none (hm pins s1 σ H1 x [] v [] Q I1 r1 .nil q1))⟩
theorem Ej(pa:PlainAttrs T)(slot:Slot T name id)(AG:typeOf (.builtin id)=pure (.type "method_descriptor"))(hm:Ri X id r)(ho:PE X o to)(ha:PA X (e::es) t)
  (ko:attributeBase o name X.env (eval o X.env)=eval o X.env:=by rfl)
  (zi:((backTo dy (starEach (e::es) X.env)).all (λx=>!x.1)&&(backToKw dy (keywordEach [] X.env)).all (λx=>x.1.isSome)
   && decide ((e::es).length+([]:List Keyword).length+(if([]:List Keyword).isEmpty then 0 else 1)<30))=true:=by rfl)
  (kl:(apos.endLine==dy.line)=true:=by rfl) (hs:starEach (e::es) X.env=(false,eval e X.env)::starEach es X.env:=by rfl) (zh:(backTo dy (starEach es X.env)).any (·.1)=false:=by rfl) :
  PE X (.Call (.Attribute o name apos) (e::es) [] dy) (XJ X.K T r to t):=by
 exact .mk ?_;intro pins s σ H Q I h;exact wpAny_Call_method_late ko zi kl rfl (bD (ho pins s σ H _ I h) λv s1 ξ=>Ξ24 ξ λx H1 I1 r1 ty q1=>?_);let⟨h1,h2⟩:=Dd I1 r1 ty;exact Ψ2 T id ⟨pa,slot,AG,h1,h2,?_⟩;have hA:=ha dy pins s1 σ H1 _ I1 q1;rw[hs]at hA ⊢;exact adH (by show(false||(backTo dy (starEach es X.env)).any (·.1))=false;rw[zh]<;>rfl) (adR ?_)
 exact bD hA λus s2 ξ=>Ξ23 ξ λvs H2 I2 r2 q2=>hm pins s2 σ H2 x vs v us Q I2 r1 r2 q2
end
def Vs(X:Cx)(id:String)(r:V→List V→Hp→VK→Prop):Prop:=
 ∀pins s σ H (x:V) (xs:List V) (v:Value) (us:List Value) (Q:VK),Inv X pins σ H s→RelV x v→Vals xs us→r x xs H Q→
  wpAny (model X.prog X.w) X.A (call (.builtin id) (v::us)) (EP X pins σ Q) X.xe s
theorem Vals.one:∀{x:V} {us:List Value},Vals [x] us→∃u,us=[u]∧RelV x u
 |_,_,.cons r .nil=>⟨_,rfl,r⟩
theorem Vals.zero:∀{us:List Value},Vals [] us→us=[]
 |_,.nil=>rfl
theorem Vals.dropLast(h:Vals xs us):Vals xs.dropLast us.dropLast:=by
 induction h with
 |nil=>exact .nil
 |cons r t ih=>
  cases t with
  |nil=>exact .nil
  |cons q t'=>exact .cons r ih
theorem Vals.rep(h:Vals xs us):∀k:Nat,Vals (List.replicate k xs).flatten (List.replicate k us).flatten
 |0=>.nil
 |k+1=>by
  rw[abx,abx,aaQ,aaQ];exact Vals.append h (Vals.rep h k)
theorem zq{α:Type}(l:List α):l.eraseIdx (l.length-1)=l.dropLast:=by
 induction l with
 |nil=>rfl
 |cons a r ih=>
  cases r with
  |nil=>rfl
  |cons b r=>
   have e:(a::b::r).length-1=((b::r).length-1)+1:=by
    have h1:(a::b::r).length=r.length+2:=rfl;have h2:(b::r).length=r.length+1:=rfl;lia
   rw[e,List.eraseIdx_cons_succ,ih]
   all_goals rfl
section
variable {l:Addr}
theorem Inv.wJ{f:Array Value→Array Value}(I:Inv X pins σ H s)(hH:H l=some (.lst xs))
  (e:s.heap.get? l=some {cls:=.type "list",data:=.seq its.toArray n}) (hf:f its.toArray=its'.toArray) (hv:Vals ys its') (hz:ys.length≤sizeLine) :
  Inv X pins σ (upd H l (.lst ys)) {s with heap:=s.heap.update l (Obj.mapSeq f),toks:=t'}:=by
 have q:=PySem.IsL.update e f;rw[hf]at q;exact I.write (x:=l) (e:=l) (by rw[hH];exact trivial) (.inl rfl) (λb' u hb hu=>(aaF s.heap (Obj.mapSeq f) (abM hb)).trans hu) ⟨_,q⟩ ?_;exact⟨hz,its',_,hv,q⟩
theorem Inv.T4(I:Inv X pins σ H s)(hv:Vals ys its)(hz:ys.length≤sizeLine):
  Inv X pins σ (upd H s.heap.objs.size (.lst ys)) {s with heap:=s.heap.push {cls:=.type "list",data:=.seq its.toArray},toks:=t'}:=
 I.laid (λ_ _ q=>aab _ q) (aan _) ⟨hz,its,0,hv,aaq _ rfl⟩
theorem Inv.fresh(I:Inv X pins σ H s):H s.heap.objs.size=none:=I.bp.fresh (aan _)
theorem Inv.BI(I:Inv X pins σ H s)(hH:H l=some (.lst xs)):xs.length≤sizeLine∧∃(its:List Value) (n:Nat),Vals xs its∧xs.length=its.length∧s.heap.get? l=some {cls:=.type "list",data:=.seq its.toArray n}:=by
 let⟨z,⟨its,n,r,e⟩⟩:=I.bp l _ hH;exact⟨z,its,n,r,r.length,e⟩
theorem EM(h:n≤sizeLine):Builtin.List.listTooLong n=false:=by
 unfold Builtin.List.listTooLong;exact aa2 (by lia)
end
section
def GY:V→List V→Hp→VK→Prop:=λx vs H Q=>∃l xs y,x=.ref l∧vs=[y]∧H l=some (.lst xs)∧xs.length<sizeLine∧Q .non (upd H l (.lst (xs++[y])))
theorem gB:Vs X "list.append" GY:=by
 intro pins s σ H x vs v us Q I rx rv h;let⟨l,xs,y,rfl,rfl,hH,hz,q⟩:=h;cases rx;let⟨u,rfl,ru⟩:=rv.one;let⟨z,⟨its,n,r,hl,e⟩⟩:=I.BI hH;exact adp F.slot_list_append ⟨_,e,rfl⟩ F.entry_list_append (F.args_list_append_2 _ _) (PySem.list_append l its.toArray n u (by rw[aai];lia)) ⟨e,?_⟩;exact Ψ2 (.non) _ ⟨I.wJ (its':=its++[u]) hH e (by simp) (r.append (.cons ru .nil)) ?_,rfl,q⟩;rw[aag,List.length_singleton];lia
def GX:V→List V→Hp→VK→Prop:=λx vs H Q=>∃l b xs zs,x=.ref l∧vs=[.ref b]∧H l=some (.lst xs)∧H b=some (.lst zs)∧xs.length+zs.length≤sizeLine∧Q .non (upd H l (.lst (xs++zs)))
theorem BF:Vs X "list.extend" GX:=by
 intro pins s σ H x vs v us Q I rx rv h;let⟨l,b,xs,zs,rfl,rfl,hH,hB,hz,q⟩:=h;cases rx;let⟨u,rfl,ru⟩:=rv.one;cases ru;let⟨z,⟨its,n,r,hl,e⟩⟩:=I.BI hH;let⟨z2,⟨ik,n2,r2,hl2,e2⟩⟩:=I.BI hB;have hsz:its.toArray.size+ik.toArray.size≤sizeLine:=by rw[aai,aai];lia
 have Qn:¬(!its.toArray.isEmpty&&Builtin.List.listTooLong (its.toArray.size+ik.toArray.size))=true:=by
  rw[EM hsz,Bool.and_false];exact aal
 exact adp F.slot_list_extend ⟨_,e,rfl⟩ F.entry_list_extend (F.args_list_extend_2 _ _)
  (AutoSeq1.list_extend_list_list_0 l its.toArray n b ik.toArray n2 Qn (by rw[aai];lia) (by lia)) ⟨e,e2,?_⟩
 exact Ψ2 (.non) _ ⟨I.wJ (its':=its++ik) hH e (by simp) (r.append r2) ?_,rfl,q⟩;rw[aag];lia
def Tw:V→List V→Hp→VK→Prop:=λx vs H Q=>∃l xs y,x=.ref l∧vs=[]∧H l=some (.lst xs)∧xs[xs.length-1]?=some y∧Q y (upd H l (.lst xs.dropLast))
theorem LV:Vs X "list.pop" Tw:=by
 intro pins s σ H x vs v us Q I rx rv h;let⟨l,xs,y,rfl,rfl,hH,hy,q⟩:=h;cases rx;have RF:=rv.zero;subst RF;let⟨z,⟨its,n,r,hl,e⟩⟩:=I.BI hH;let⟨u,hu,ru⟩:=r.get hy;have YB:its.toArray[its.toArray.size-1]?=some u:=by
  show its.toArray[its.length-1]?=some u
  rw[←Array.getElem?_toList,←hl];exact hu
 exact adp F.slot_list_pop ⟨_,e,rfl⟩ F.entry_list_pop (F.args_list_pop_1 _) (MeetsSeq.list_pop_last l its.toArray n u YB (by rw[aai];lia)) ⟨e,?_⟩;exact Ψ2 y _ ⟨I.wJ (its':=its.dropLast) hH e ?_ r.dropLast ?_,ru,q⟩
 ·show its.toArray.eraseIdxIfInBounds (its.toArray.size-1)=its.dropLast.toArray
  rw[aai,List.eraseIdxIfInBounds_toArray,zq]
 ·rw[List.length_dropLast]
  lia
theorem len_rep{α:Type}(xs:List α)(k:Nat):(List.replicate k xs).flatten.length=k*xs.length:=by
 induction k with
 |zero=>simp
 |succ k ih=>rw[abx,aaQ,aag,ih,acU,adu]
end
section
set_option maxRecDepth 100000 in
end
end L2
namespace Si
open PySem PySem.W PySem.Calls PyProof.Rows
variable {P:Params}{h:Heap}{l:OpenLaw}{n:Nat}
theorem pN:∀(ns:List Int) (vs:List Value),WellAll P h vs (ns.map WData.int)→IntsAre vs ns:=by
 intro ns;induction ns with
 |nil=>
  intro vs w;rw[abJ]at w;cases w;exact .nil
 |cons n ns ih=>
  intro vs w;rw[aam]at w;cases w with
  |cons a b=>
   cases a;exact .cons _ _ (ih _ b)
theorem Bm(hn:l.most=some n){args:List WData}{vals:List Value}
  (Ih:l.row.toRowW.claim.pre args=true) (Uo:WellAll P h vals args) :
  ∃a vs ns,vals=[Value.ref a]∧args=[WData.list (ns.map WData.int)]∧h.get? a=some {cls:=.type "list",data:=.seq vs.toArray}∧IntsAre vs ns∧ns.length≤n:=by
 have YM:WShape.hasAll [] args [.list .int]=true:=(pre_splitW Ih).1;have hc:l.pre.holds [] {args:=args}=true:=(pre_splitW Ih).2;let⟨d,r,rfl,h1,h2⟩:=hasAllW_cons YM;obtain rfl:=hasAllW_nil h2;let⟨xs,rfl,h3⟩:=hasW_list h1;let⟨ns,rfl⟩:=items_int h3;have hlen:ns.length≤n:=by
  unfold OpenLaw.pre at hc;have h4:(WTm.not (.lt (.lit (.int (n:Int))) (.len (.arg 0)))).holds [] {args:=[.list (ns.map .int)]}=true:=by
   have h4:=(holds_andW hc).1;rw[hn]at h4;exact h4
  have h5:=condW_of h4 (w_not (w_lt w_lit (w_len_list (w_arg rfl))));rw[aae]at h5;exact Nat.le_of_not_lt λq=>?_;have q':(n:Int)<((ns.length:Nat):Int):=by lia
  first
   |(rw[aaM q']at h5;exact absurd h5 (by decide))
   |(simp at h5;lia)
 cases Uo with
 |cons w1 w2=>
  cases w2;cases w1 with
  |list ho MA=>exact Ψ3 _ _ ns ⟨rfl,rfl,ho,pN ns _ MA,hlen⟩
theorem Bs(l:OpenLaw)(args:List WData):l.row.toRowW.claim.post args (.bool true) args=true:=
 postW_of (r:=l.row.toRowW) (X:=(true==true))
  (show WShape.has [] (.bool true) .bool=true by first|rfl|decide|simp[WShape.has,WShape.arms,WShape.armsAll])
  (show(WTm.eq .res (.lit (.bool true))).value [] {args:=args,res:=some (.bool true),after:=args}=some (.bool (true==true))from w_eq_bool (w_res rfl) w_lit) rfl
theorem xW{q:Program}{loose:List Str}{XP:(ac)→Heap→Prop}{YP:World→Heap→Prop}{d:DefRec}
  (hn:l.most=some n) (JE:d.params.defaults=[])
  (call:∀(w:World) (s₀ s₁:Shared) (mg mb:ac) (fa:Addr) (o:Obj) (pm cd doc:Value) (a:Addr) (vs:List Value) (ns:List Int),
   Ground q loose [] XP w s₀ mg mb s₁.heap→YP w s₁.heap→
   s₁.heap.get? fa=some o→o.data=.func (docDef d.name d.params d.body d.scope pm cd doc)→s₁.heap.CodeRec cd d.name→mg d.name=some (.ref fa)→
   s₁.heap.get? a=some {cls:=.type "list",data:=.seq vs.toArray}→IntsAre vs ns→ns.length≤n→s₁.gens=#[]→
   codeAny (model l.prog w) callerA (.call (.ref fa) ⟨[.ref a],[]⟩) (λr s'=>r=.ok (.ret (.bool true))∧OldK s₁.heap s'.heap∧s'.os=s₁.os∧AllBare s'.gens) s₁) :
  WalkO q loose XP YP l.row.toRowW d [] (λf vs=>PySem.call f vs):=by
 intro w s₀ s₁ mg mb G Y fa o pm cd doc dV kV ho hd pO hD Ql hg args vals as Ih YX hrd Uo hlo;obtain rfl:dV=.none:=Dflts.none hD JE;obtain rfl:kV=.none:=Dflts.noKw hD;let⟨a,vs,ns,rfl,rfl,Mh,hints,hlen⟩:=Bm hn Ih Uo;exact enter_call (adK (call w s₀ s₁ mg mb fa o pm cd doc a vs ns G Y ho (fd_plain hd) pO Ql Mh hints hlen hg) λr s' hq=>?_);let⟨rfl,h2,h3,h4⟩:=hq;exact⟨.inl ⟨.bool true,.bool true,[],rfl,λ_=>rfl,.bool true,Bs l _,λ_=>⟨List.Pairwise.nil,λ_ hm=>(nomatch hm)⟩⟩,h2,h3,h4⟩
end Si
namespace L2
open PySem PySem.Spec PyProof.Rows
variable {X:Cx}{x qual:Str}{st:Stmt}{f C:Addr}{fd:FuncData}{ps own:List Str}{k n i j:Nat}{sp:Sp}{pos p:Pos}{prog P:Program}{w:World}{A:Around}{s s2:Shared}{elt iter e:Expr}{ifs:List Expr}{scope:Scope}{env:Env}{cap:List (Nat×Str)}{H' H2 H H1:Hp}{pins:ad}{fp l:List Addr}{J:It}{E:xz}{mg:ac}{base:Heap}{cl:List (Str×Addr)}{g:TG}{tc:TT}{te:TE}
theorem tG:∀{vs:List Value} {ns:List Int},IntsAre vs ns→Vals (ns.map V.int) vs
 |_,_,.nil=>.nil
 |_,_,.cons n t h=>.cons ⟨t,rfl⟩ (tG h)
def gy(s:Stmt):Arguments:=match s with
 |.FunctionDef _ a _ _ _ _ _ _ _ _=>a
 |_=>{posonlyargs:=[],args:=[],vararg:=none,kwonlyargs:=[],kw_defaults:=[],kwarg:=none,defaults:=[]}
def c9(s:Stmt):List Stmt:=match s with
 |.FunctionDef _ _ b _ _ _ _ _ _ _=>b
 |_=>[]
def av(s:Stmt):Scope:=match s with
 |.FunctionDef _ _ _ _ _ _ sc _ _ _=>sc
 |_=>{kind:=.function,names:=[],isGenerator:=false,isCoroutine:=false}
abbrev fE:x8:=λ_ _ _ _ _ _=>False
abbrev E0:XK:=λ_ _ _=>False
theorem Px:Passes fE X E0:=λ_ _ _ _ _ _ _ h=>h.elim
structure dP(K:W.Frag)(x qual:Str)(st:Stmt)(f:Addr)(fd:FuncData):Prop where
 ex:∃(oc:Value) (od:Option Addr) (kV doc pm:Value) (an:Option Addr) (cy ct:Value) (yQ:Array (Option Value)),
  fd=W.fnOf x qual (gy st) (c9 st) (av st) .none kV doc pm an cy ct∧K.lookup f=some ⟨oc,od,.func fd,yQ⟩∧W.codeIn K cy qual=true
 kp:W.keepIn K (.ref f)=true
section
variable {K:W.Frag}
theorem dP.ok{N:List Str}(F:dP K x qual st f fd)(S:aF N ps (av st))(len:∀vs H Q E,sp vs H Q E→vs.length=ps.length)
  (i3:∀(cy:Value) (A:Around) (outer:List Env) (s:Shared) (H:Hp) (vs:List V) (Q:VK) (E:XK),dO k (A.deeper (envOfC qual (av st) s.heap.objs.size f cy))→sp vs H Q E→
   ∃t,kI (sT fE P w K mg base N qual (av st) f cy A outer s H E).iA (c9 st) t∧t {nx:=λ_ H'=>Q .non H',rt:=Q} (start N vs) H):bq P w K mg base fE (k+1) f fd ps sp:=by
 let⟨oc,od,kV,doc,pm,an,cy,ct,yQ,rfl,lk,pO⟩:=F.ex;exact Fo lk pO S len λA outer s H vs Q E hr uV=>?_;let⟨t,h,q⟩:=i3 cy A outer s H vs Q E hr uV;exact⟨t,h.iA,q⟩
theorem dP.binds(F:dP K x qual st f fd)
  (h:∀(kV doc pm:Value) (an:Option Addr) (cy ct:Value) (us:List Value),us.length=ps.length→bindArgs (W.fnOf x qual (gy st) (c9 st) (av st) .none kV doc pm an cy ct) ⟨us,[]⟩=pure (ps.zip us)):Binds K fd ps []:=by
 let⟨oc,od,kV,doc,pm,an,cy,ct,yQ,rfl,lk,pO⟩:=F.ex;exact .all (h kV doc pm an cy ct)
theorem Fl{oc:Value}{od an:Option Addr}{yQ:Array (Option Value)}{kV doc pm cy ct:Value}(l:K.lookup f=some ⟨oc,od,.func (W.fnOf x qual (gy st) (c9 st) (av st) .none kV doc pm an cy ct),yQ⟩)
  (c:W.codeIn K cy qual=true) (k:W.keepIn K (.ref f)=true):dP K x qual st f (W.fnOf x qual (gy st) (c9 st) (av st) .none kV doc pm an cy ct):=⟨Ψ9 oc od kV doc pm an cy ct yQ ⟨rfl,l,c⟩,k⟩
end
theorem aE(h:n≤1000):n<sizeLine:=acq h (by decide)
section
theorem pv(i:Nat)(hN:X.N[i]?=some x:=by rfl)(hv:ND X.env.scope x:=by first|exact Or.inl rfl|exact Or.inr (Or.inl rfl)|exact Or.inr (Or.inr rfl))(hd:(x ==("__debug__" : Str))=false:=by decide)
  (pO:(x ==("__classdict__" : Str))=false:=by decide):PE X (.Name x pos) (Ox i):=yN hN hv hd pO
end
theorem Md{A B:Prop}(h:B):if false=true then A else B:=by
 rw[aaz aal];exact h
theorem pL{c A B:Prop}[Decidable c](h1:c→A)(h2:¬c→B):if c then A else B:=by
 by_cases h:c
 ·rw[aaA h]
  exact h1 h
 ·rw[aaz h]
  exact h2 h
def Vq(H H':Hp):Prop:=∀b o,H b=some o→H' b=some o
theorem nj{R:Result→Shared→Prop}{target:Expr}{it acc:Value}(I:Nat→Shared→Prop)
  (turn:∀n s,I n s→wpAny (model prog w) A (pyNext it) (λr s₁=>match r with
   |none=>R (.ok .next) s₁
   |some v=>wpAny (model prog w) A (letOwnedTupleGo target it v) (λ_ Jb=>wpAny (model prog w) A (assign target env v) (λ_ s₂=>
     wpAny (model prog w) A (forIn ifs true λc r=>if r=true then do let ok ←isTrue c env (eval c env);pure (ForInStep.yield ok)else pure (ForInStep.yield r)) (λok s₃=>
      if ok=true then wpAny (model prog w) A (eval elt env) (λx s₄=>
       wpAny (model prog w) A (call (.builtin "list.append") [acc,x]) (λ_ s₅=>∃m,m<n∧I m s₅) (notedBy (model prog w) A env λe s'=>R (.error e) s') s₄) (notedBy (model prog w) A env λe s'=>R (.error e) s') s₃
      else ∃m,m<n∧I m s₃) (notedBy (model prog w) A env λe s'=>R (.error e) s') s₂) (notedBy (model prog w) A env λe s'=>R (.error e) s') Jb) (notedBy (model prog w) A env λe s'=>R (.error e) s') s₁) (notedBy (model prog w) A env λe s'=>R (.error e) s') s)
  (n:Nat) (h:I n s) :
  codeAny (model prog w) A (.compLoop (.ListComp elt [⟨target,iter,ifs,0⟩] scope pos) 0 it acc env) R s:=by
 exact codeAny_loop rfl I (λn s hI=>?_) n h;show wpAny _ A ((compTurn (.ListComp elt [⟨target,iter,ifs,0⟩] scope pos) 0 it acc env).onRaise (λx=>do noteFrame x env;theTreesLotGoes x)) _ _ s
 exact wpAny_noted ?_;rw[compTurn_list];exact aaa (abP (aaa (aaB (turn n s hI) (λr s₁ h₁=>?_) λ_ _ h'=>h')));cases r with
 |none=>exact aad h₁
 |some v=>
  exact aaa (aaB h₁ (λ_ Jb P7=>?_) λ_ _ h'=>h');exact aaa (aaB P7 (λ_ s₂ h₂=>aaa (aaB h₂ (λok s₃ h₃=>?_) λ_ _ h'=>h')) λ_ _ h'=>h');cases ok with
  |false=>exact aad ⟨rfl,h₃⟩
  |true=>
   exact aaa (aaa (aaB h₃ (λx s₄ h₄=>aaa (aaB h₄ (λ_ s₅ h₅=>aad (aad ⟨rfl,h₅⟩)) λ_ _ h'=>h')) λ_ _ h'=>h'))
structure pG(X:Cx)(ifs:List Expr)(t:TT):Prop where
 run:∀pins s σ H (Q:Bool→Hp→Prop),Inv X pins σ H s→t σ H Q→
  wpAny (model X.prog X.w) X.A (forIn ifs true λc r=>if r=true then do let ok ←isTrue c X.env (eval c X.env);pure (ForInStep.yield ok)else pure (ForInStep.yield r)) (TP X pins σ Q) X.xe s
instance {X:Cx}{ifs:List Expr}{t:TT}:CoeFun (pG X ifs t) λ_=>∀pins s σ H (Q:Bool→Hp→Prop),Inv X pins σ H s→t σ H Q→wpAny (model X.prog X.w) X.A (forIn ifs true λc r=>if r=true then do let ok ←isTrue c X.env (eval c X.env);pure (ForInStep.yield ok)else pure (ForInStep.yield r)) (TP X pins σ Q) X.xe s:=⟨pG.run⟩
def Oy:TT:=λ_ H Q=>Q true H
theorem G9:pG X [] Oy:=.mk λ_ _ _ H _ I h=>wpAny_tests_nil ⟨H,I,h⟩
theorem Ai{c:Expr}{t:TT}(h:PT X c t):pG X [c] t:=.mk λpins s σ H Q I q=>wpAny_tests_one (h pins s σ H Q I q)
def aQ(X:Cx)(Nc:List Str)(scope:Scope)(cl:List (Str×Addr))(C:Addr)(s:Shared)(H:Hp)(fp:List Addr)(E:xz):Cx where
 prog:=X.prog
 w:=X.w
 K:=X.K
 mg:=X.mg
 base:=X.base
 A:=X.A
 N:=Nc
 s₀:=s
 H₀:=H
 env:=compEnvC scope cl C X.env
 outer:=X.stack
 stack:=X.stack
 ex:=fp
 calm:=X.calm
 fn:=λ_=>false
 pn:=[]
 xe:=E
def Rj(X:Cx)(scope:Scope)(cl:List (Str×Addr))(j:Nat)(x:Str):Prop:=
 X.N[j]?=some x∧ND X.env.scope x∧X.env.kindOf x≠some .local∧(relabel scope X.env).names.lookup x≠some .local∧((relabel scope X.env).names.lookup x=some .cell∨(relabel scope X.env).names.lookup x=some .free)
structure cV(X:Cx)(scope:Scope)(cl:List (Str×Addr))(own:List Str)(cap:List (Nat×Str)):Prop where
 zA:closureFor scope X.env=pure cl
 cell:∀y∈scope.names,y.2≠.cell
 kind:scope.kind=.function
 names:∀y∈scope.names,y.2=.local→scope.names.lookup y.1=some .local
 sub:∀x c,cl.lookup x=some c→X.env.cells.lookup x=some c
 has:∀p∈(relabel scope X.env).names,p.2=.cell∨p.2=.free→(cl.lookup p.1).isSome=true
 ID:∀p∈cap,Rj X scope cl p.1 p.2
def da(own:List Str)(cap:List (Nat×Str))(σ:St):St:=List.replicate own.length none++cap.map λp=>(σ[p.1]?).getD none
theorem lookup_mem{α:Type}:∀{l:List (Str×α)} {n:Str} {c:α},l.lookup n=some c→(n,c)∈l:=λh=>mem_of_lookup h
section
variable {σ:St}
theorem cV.Mz(c:cV X scope cl own cap)(x:Str)(h:(relabel scope X.env).names.lookup x=some .cell∨(relabel scope X.env).names.lookup x=some .free):∃a,cl.lookup x=some a:=by
 have:(cl.lookup x).isSome=true:=by
  rcases h with h|h
  ·exact c.has (x,.cell) (lookup_mem h) (.inl rfl)
  ·exact c.has (x,.free) (lookup_mem h) (.inr rfl)
 exact acm.mp this
theorem fD(c:cV X scope cl own cap)(I:Inv X pins σ H s)(hf:∀b∈fp,eG X pins H b)(cG:∀b∈fp,b<s.heap.objs.size)(hC:s.heap.objs.size≤C):
  (aQ X (own++cap.map (·.2)) scope cl C s H fp E).Ok where
 mod:=I.ok.mod
 kind:=c.kind
 glob:=I.ok.glob
 blt:=I.ok.blt
 above:=hC
 inj:=λx y a h1 h2=>I.ok.inj x y a (c.sub x a h1) (c.sub y a h2)
 has:=λx h=>c.Mz x h
 IE:=λx a h=>absurd h (by intro z;exact Bool.noConfusion z)
 hd:=I.ok.hd
 frames:=I.ok.frames
 Jc:=.inl rfl
 Gm:=λb hb=>⟨λz=>by
   have:=cG b hb;rw[z]at this;exact absurd (aau this hC) (abo _),λx a h=>(hf b hb).2.2.2.2.1 x a (c.sub x a h)⟩
 bs:=I.bs
 Cw:=aaG I.ok.Cw I.sz
 uP:=λb o e hb=>by
  rcases(hf b hb).2.2.2.1 with z|z
  ·exact I.ok.uP b o e z
  ·exact absurd (aau (aak (I.ok.bs b o e).1) z) (abo _)
 pQ:=λb hb hs=>by
  rcases aah.mp (I.uo b hs)with z|z
  ·exact(hf b hb).2.1 z
  ·exact(hf b hb).2.2.1 z
 ku:=I.stack
 Fm:=I.p4
theorem rN{σ:St}{v:V}(h1:(own++cap.map (·.2))[i]?=some x)(h2:(da own cap σ)[i]?=some (some v)):∃p∈cap,p.2=x∧σ[p.1]?=some (some v):=by
 unfold da at h2;by_cases hi:i<own.length
 ·rw[aaT (by simpa using hi),aem]at h2
  split at h2<;>cases h2
 ·rw[aaS (by simpa using hi)]at h2 h1
  rw[abq,aaC]at h2;rw[aaC]at h1;cases e:cap[i-own.length]? with
  |none=>rw[e]at h2;cases h2
  |some p=>
   rw[e]at h1 h2;exact⟨p,aaj e,aaW h1,?_⟩;have h3:(σ[p.1]?).getD none=some v:=aaW h2;cases q:σ[p.1]? with
   |none=>rw[q]at h3;cases h3
   |some z=>rw[q]at h3;exact abc some h3
theorem rL(c:cV X scope cl own cap)(I:Inv X pins σ H s)(hf:∀b∈fp,eG X pins H b)(cG:∀b∈fp,b<s.heap.objs.size){h₁:Heap}{tk:Nat}{m:ac}
  (hk:∀b o,s.heap.get? b=some o→h₁.get? b=some o) (hD:h₁.get? s.heap.objs.size=some {cls:=.type "list",data:=.seq ([]:List Value).toArray}) (hn:h₁.Ns (s.heap.objs.size+1) m) :
  Inv (aQ X (own++cap.map (·.2)) scope cl (s.heap.objs.size+1) s H fp E) [] (da own cap σ) (upd H s.heap.objs.size (.lst [])) {s with heap:=h₁,toks:=tk}:=by
 have Ff:H s.heap.objs.size=none:=I.fresh;have Mq:H (s.heap.objs.size+1)=none:=I.bp.fresh (abl _);have Mk:bS X.prog X.w (upd H s.heap.objs.size (.lst [])) h₁ s.heap.objs.size (.lst []):=⟨aaE _,[],0,.nil,hD⟩;exact⟨fD c I hf cG (abl _),rfl,I.bare,Un.laid hk (aan _) Ff,⟨m,hn,λi x v e1 e2 _=>?_⟩,λx a e=>?_,?_,λx a e=>?_,λp hp=>absurd (show p∈([]:ad)from hp) (by simp),I.bp.laid hk (aan _) Mk,?_⟩
 ·let⟨p,hp,ex,es⟩:=rN e1 e2
  let⟨q1,q2,q3,q4,q5⟩:=c.ID p hp;rw[ex]at q1 q2 q3 q4 q5;let⟨m',Qj,hl⟩:=I.loc;let⟨u,r,l⟩:=hl p.1 x v q1 es q2;exact⟨u,r,?_⟩;rcases l with l|⟨k,a,e,z⟩
  ·exact absurd l.1 q3
  ·let⟨a',e'⟩:=c.Mz x q5
   have ea:=c.sub x a' e';rw[e]at ea;cases ea;exact .inr ⟨q5,a,e',z.keeps hk⟩
 ·let⟨v,z⟩:=I.cell x a (c.sub x a e)
  exact⟨v,z.keeps hk⟩
 ·show upd H s.heap.objs.size (.lst []) (s.heap.objs.size+1)=none
  rw[ao (Nat.succ_ne_self _)];exact Mq
 ·let⟨v,z⟩:=I.cell x a (c.sub x a e)
  show upd H s.heap.objs.size (.lst []) a=none
  rw[ao (aaw z.lt)];exact I.fh x a (c.sub x a e)
 ·show(da own cap σ).length=(own++cap.map (·.2)).length
  simp[da]
theorem hU{σ':St}{Nc:List Str}{qM:ad}(I:Inv X pins σ H s)(hf:∀b∈fp,eG X pins H b)(hC:s.heap.objs.size≤C)(J:Inv (aQ X Nc scope cl C s H fp E) qM σ' H' s2):
  Inv X pins σ H' s2∧eG X pins H' C:=by
 have os:s2.os=s.os:=J.os;have un:Un (me X.stack) fp H H' s.heap s2.heap:=J.base;exact⟨I.JR os un J.bp J.bare λb hb=>⟨(hf b hb).2.2.2.1,(hf b hb).2.1,(hf b hb).2.2.2.2.1,(hf b hb).2.2.2.2.2⟩,I.xq hC J.free⟩
end
def vT(wi:TI)(g:TG)(tc:TT)(te:TE)(own:List Str)(cap:List (Nat×Str)):TE:=λσ H Q=>wi σ H λJ H1=>∀D,H1 D=none→
 ∃W:Nat→Nat→St→List V→Hp→Prop,(∃m,W 0 m (da own cap σ) [] (upd H1 D (.lst [])))∧∀i m σ' ys H',W i m σ' ys H'→H' D=some (.lst ys)∧
  ((J.stop i H'∧Q (.ref D) H')∨(J.go i H'∧ys.length<sizeLine∧∃N:St→List V→Hp→Prop,(∀σ ys H,N σ ys H→∃m',m' < m∧W (i+1) m' σ ys H)∧∀x H2,J.nJ i H' x H2→g x σ' H2 λσ3 H3=>tc σ3 H3 λb H4=>if b=true then te σ3 H4 λy H5=>H5 D=some (.lst ys)∧N σ3 (ys++[y]) (upd H5 D (.lst (ys++[y])))
   else N σ3 ys H4))
section
variable {tg:Expr}{wi:TI}
theorem rM{σ:St}{it:Addr}{tn:Nat→Heap→Prop}{Q:VK}{RR:Value→Addr→Result→Shared→Prop}{E':xz}
  (c:cV X scope cl own cap) (hc:X.calm=true)
  (hg:∀C s H fp,PG (aQ X (own++cap.map (·.2)) scope cl C s H fp λ_ _=>False) tg g) (ht:∀C s H fp,pG (aQ X (own++cap.map (·.2)) scope cl C s H fp λ_ _=>False) ifs tc)
  (he:∀C s H fp,PE (aQ X (own++cap.map (·.2)) scope cl C s H fp λ_ _=>False) elt te)
  (I2:Inv X pins σ H2 s2) (T:Turn X.prog X.w X.K tg J fp it tn) (nM:tn 0 s2.heap) (f2:∀b∈fp,eG X pins H2 b)
  (hw:∀D,H2 D=none→∃W:Nat→Nat→St→List V→Hp→Prop,(∃m,W 0 m (da own cap σ) [] (upd H2 D (.lst [])))∧∀i m σ' ys H',W i m σ' ys H'→H' D=some (.lst ys)∧
   ((J.stop i H'∧Q (.ref D) H')∨(J.go i H'∧ys.length<sizeLine∧∃N:St→List V→Hp→Prop,(∀σ ys H,N σ ys H→∃m',m' < m∧W (i+1) m' σ ys H)∧∀x H2,J.nJ i H' x H2→g x σ' H2 λσ3 H3=>tc σ3 H3 λb H4=>if b=true then te σ3 H4 λy H5=>H5 D=some (.lst ys)∧N σ3 (ys++[y]) (upd H5 D (.lst (ys++[y])))
    else N σ3 ys H4)))
  (Qy:∀D C s' H' m,Inv X pins σ H' s'→eG X pins H' C→s'.heap.Ns C m→Q (.ref D) H'→RR (.ref D) C (.ok .next) s') :
  wpAny (model X.prog X.w) X.A (newList []) (λacc s₃=>wpAny (model X.prog X.w) X.A (newFunctionEnv scope X.env.globals cl [] X.env.qual none .none (some X.env)) (λsW s₄=>
   codeAny (model X.prog X.w) X.A (.compStart (.ListComp elt [⟨tg,iter,ifs,0⟩] scope pos) 0 (.ref it) acc {sW with scope:=relabel scope X.env}) (RR acc sW.locals) s₄) E' s₃) E' s2:=by
 exact aaL (acR c.cell (by intro y hy;simp at hy) (λh₁ kO kh=>?_) c.kind);dsimp only at kO kh ⊢;have hsz:(s2.heap.push {cls:=.type "list",dict:=none,data:=.seq ([]:List Value).toArray}).objs.size=s2.heap.objs.size+1:=abk _ _;have kk:∀b o,s2.heap.get? b=some o→h₁.get? b=some o:=λb o e=>kh.extBut b o (by rw[hsz];exact aaw (abw (aak e))) (aab _ (aab _ e));have hD:h₁.get? s2.heap.objs.size=some {cls:=.type "list",data:=.seq ([]:List Value).toArray}:=
  kh.extBut _ _ (by rw[hsz];exact aaw (acg _)) (aab _ (aaq _ rfl))
 rw[hsz]at kO ⊢;have cG:∀b∈fp,b<s2.heap.objs.size:=λb hb=>by
  let⟨o,e,_⟩:=T.obj _ _ nM b hb;exact aak e
 let⟨W,⟨m0,w0⟩,turn⟩:=hw s2.heap.objs.size I2.fresh;have J1:=rL (E:=λ_ _=>False) c I2 f2 cG (tk:=s2.toks+([]:List (Str×Value)).length) kk hD kO;generalize fZ:aQ X (own++cap.map (·.2)) scope cl (s2.heap.objs.size+1) s2 H2 fp (λ_ _=>False)=X' at J1;have Ij:PG X' tg g:=fZ ▸ hg _ _ _ _;have P9:pG X' ifs tc:=fZ ▸ ht _ _ _ _;have Za:PE X' elt te:=fZ ▸ he _ _ _ _;have pX:X'.prog=X.prog:=by rw[←fZ];rfl
 have wX:X'.w=X.w:=by rw[←fZ];rfl
 have kX:X'.K=X.K:=by rw[←fZ];rfl
 have aX:X'.A=X.A:=by rw[←fZ];rfl
 have cX:X'.calm=true:=by rw[←fZ];exact hc
 have nX:X'.env=compEnvC scope cl (s2.heap.objs.size+1) X.env:=by rw[←fZ];rfl
 have xX:X'.xe=λ_ _=>False:=by rw[←fZ];rfl
 have fX:∀b∈fp,∀{H':Hp},H' b=none→eG X' [] H' b:=λb hb {H'} hn=>by
  have o1:=(fD (E:=λ_ _=>False) c I2 f2 cG (C:=s2.heap.objs.size+1) (abl _)).Gm b hb;have o2:=(fD (E:=λ_ _=>False) c I2 f2 cG (C:=s2.heap.objs.size+1) (abl _)).pQ b hb;rw[←fZ];exact⟨hn,o1.1,o2,.inl hb,o1.2,λp hp=>absurd (show p∈([]:ad)from hp) (by simp)⟩
 have fin:∀{σ':St} {H':Hp} {s':Shared},Inv X' [] σ' H' s'→Q (.ref s2.heap.objs.size) H'→RR (.ref s2.heap.objs.size) (s2.heap.objs.size+1) (.ok .next) s':=λ{σ' H' s'} J' q=>by
  rw[←fZ]at J';let⟨A1,A2⟩:=hU I2 f2 (abl _) J';let⟨m,hm,_⟩:=J'.loc;exact Qy _ _ s' H' m A1 A2 hm q
 have loop:codeAny (model X.prog X.w) X.A (.compLoop (.ListComp elt [⟨tg,iter,ifs,0⟩] scope pos) 0 (.ref it) (.ref s2.heap.objs.size) (compEnvC scope cl (s2.heap.objs.size+1) X.env)) (RR (.ref s2.heap.objs.size) (s2.heap.objs.size+1))
   {s2 with heap:=h₁,toks:=s2.toks+([]:List (Str×Value)).length}:=by
  exact nj (λn s'=>∃i σ' ys H',Inv X' [] σ' H' s'∧tn i s'.heap∧(∀b∈fp,H' b=none)∧W i n σ' ys H') ?_ m0
   ⟨0,_,[],_,J1,T.keep _ _ _ nM λb _ o e=>kk b o e,λb hb=>by rw[ao (aaw (cG b hb))];exact(f2 b hb).1,w0⟩
  intro n s3⟨i,σ3,ys,H3,I3,vV,xp,w3⟩;let⟨WX,w4⟩:=turn i n σ3 ys H3 w3;rw[←nX,←aX,←pX,←wX];have iA:∀{α:Type} {t:Sem α} {Q1:α→Shared→Prop} {E1:xz} {s:Shared},wpAny (model X'.prog X'.w) X'.A t Q1 X'.xe s→wpAny (model X'.prog X'.w) X'.A t Q1 E1 s:=λ{α t Q1 E1 s} h=>by
   rw[xX]at h;exact aaB h (λ_ _ q=>q) λ_ _ f=>f.elim
  rcases w4 with⟨stop,qn⟩|⟨go,uU,N,hN,step⟩
  ·have d:=T.done X' pX wX kX cX i [] s3 σ3 H3 X'.xe I3 (λb hb=>fX b hb (xp b hb)) vV stop
   rw[←pX,←wX]at d;exact iA (bD d λr s4 ξ=>Ξ02 ξ λhr I4=>?_);subst hr;exact fin I4 qn
  ·have d:=T.item X' pX wX kX cX i [] s3 σ3 H3 X'.xe I3 (λb hb=>fX b hb (xp b hb)) vV go
   rw[←pX,←wX]at d;exact iA (bD d λr s4 ξ=>Ξ12 ξ λu hr h4=>?_);subst hr;exact iA (bD h4 λ_ s5 ξ=>Ξ21 ξ λx H5 ξ=>Ξ05 ξ λI5 r5 y5 qt Fn=>?_);have F2:=I5.pinned (λb hb=>fX b hb (Fn b hb)) (T.obj _ _ qt);have again:∀{σ7:St} {H7:Hp} {s7:Shared} {yg:List V},Inv X' ([]++jv fp s5.heap) σ7 H7 s7→N σ7 yg H7→
     ∃m,m<n∧∃i σ' ys H',Inv X' [] σ' H' s7∧tn i s7.heap∧(∀b∈fp,H' b=none)∧W i m σ' ys H':=λ{σ7 H7 s7 yg} I7 n7=>by
    let⟨m',hm,w7⟩:=hN _ _ _ n7;exact⟨m',hm,i+1,σ7,yg,H7,I7.fF,T.keep _ _ _ qt λb hb o e=>(I7.pin (b,o) (aas _ (aas _ (b8 hb e)))).1,λb hb=>?_,w7⟩;let⟨o,e,d⟩:=T.obj _ _ qt b hb;exact(I7.pin (b,o) (aas _ (aas _ (b8 hb e)))).2.1
   exact iA (bD (Ij _ s5 σ3 H5 x u _ F2 r5 (step x H5 y5)) λ_ s6 ξ=>Ξ22 ξ λσ6 H6 I6 q6=>?_);exact iA (bD (P9 _ s6 σ6 H6 _ I6 q6) λb s7 ξ=>Ξ12 ξ λH7 I7 q7=>?_);cases b with
   |false=>
    rw[aaz aal]at q7 ⊢;exact again I7 q7
   |true=>
    rw[aaA rfl]at q7 ⊢;exact iA (bD (Za _ s7 σ6 H7 _ I7 q7) λu8 s8 ξ=>Ξ24 ξ λy8 H8 I8 r8 d8 q8=>?_);exact iA (bD (gB _ s8 σ6 H8 (.ref s2.heap.objs.size) [y8] (.ref s2.heap.objs.size) [u8] (λ_ H9=>N σ6 (ys++[y8]) H9) I8 rfl (.cons r8 .nil) ⟨_,ys,y8,rfl,rfl,d8,uU,q8⟩) λ_ s9 ξ=>Ξ23 ξ λ_ H9 I9 _ q9=>?_);exact again I9 q9
 exact codeAny_compStart_list loop (T.self X.A 0 _ _ _ (T.keep _ _ _ nM λb _ o e=>kk b o e) loop)
theorem Hj(c:cV X scope cl own cap)(hc:X.calm=true)(hi:PI X tg iter wi)
  (hg:∀C s H fp,PG (aQ X (own++cap.map (·.2)) scope cl C s H fp λ_ _=>False) tg g) (ht:∀C s H fp,pG (aQ X (own++cap.map (·.2)) scope cl C s H fp λ_ _=>False) ifs tc)
  (he:∀C s H fp,PE (aQ X (own++cap.map (·.2)) scope cl C s H fp λ_ _=>False) elt te) (hs:∀x,foldedSetIterable iter X.env x=pure x:=by intro _;rfl) :
  PE X (.ListComp elt [⟨tg,iter,ifs,0⟩] scope pos) (vT wi g tc te own cap):=by
 exact .mk ?_;intro pins s σ H Q I h;rw[eval_ListComp];exact abW (use:=none) rfl hs c.zA c.kind c.names (bD (hi pins s σ H _ I h) λv s1 h1=>bD h1 λJz s2 h2=>?_);let⟨it,fp,tn,J,H2,e,I2,T,nM,f2,hw⟩:=h2;subst e;exact rM (Q:=Q) (RR:=λacc C=>compPost (model X.prog X.w) X.A X.xe none (EP X pins σ Q) acc C) c hc hg ht he I2 T nM f2 hw ?_;intro D C s' H' m I' hC hm q;exact⟨m,hm,λh' se=>Ψ2 (.ref D) H' ⟨?_,rfl,q⟩⟩;exact I'.turned (t':=s'.toks) (λb o hb e=>(se.2 b hb).trans e) hC.1 hC.2.1 hC.2.2.2.1 hC.2.2.2.2.1 hC.2.2.2.2.2
def KD(i:Nat)(t:TE):TS:=λD σ H=>t σ H λx H1=>D.nx (σ.set i (some x)) H1
theorem Aj{y:Str}{py Dy:Pos}(c:cV X scope cl own cap)(hc:X.calm=true)(hi:PI X tg iter wi)
  (hg:∀C s H fp,PG (aQ X (own++cap.map (·.2)) scope cl C s H fp λ_ _=>False) tg g) (ht:∀C s H fp,pG (aQ X (own++cap.map (·.2)) scope cl C s H fp λ_ _=>False) ifs tc)
  (he:∀C s H fp,PE (aQ X (own++cap.map (·.2)) scope cl C s H fp λ_ _=>False) elt te)
  (hN:X.N.Nodup) (hy:X.N[i]?=some y) (hl:X.env.scope.names.lookup y=some .local)
  (Uv:swapsWith (.ListComp elt [⟨tg,iter,ifs,0⟩] scope pos) (some (.Name y py)) Dy.line X.env=pure true:=by rfl) (hs:∀x,foldedSetIterable iter X.env x=pure x:=by intro _;rfl) :
  PS X (.Assign [.Name y py] (.ListComp elt [⟨tg,iter,ifs,0⟩] scope pos) Dy) (KD i (vT wi g tc te own cap)):=by
 exact .mk ?_;intro pins s σ H D I h;rw[exec_Assign_Name_used _ _ _ _ Uv];exact aaa (abP (aaa ?_));show wpAny _ X.A (do let _ ←comprehension (.ListComp elt [⟨tg,iter,ifs,0⟩] scope pos) scope X.env _ (newList []) false (eval iter X.env) (some (assign (.Name y py) X.env))) _ _ s
 exact aaa (aaB (abW (use:=some (assign (.Name y py) X.env)) (Q:=λ_ s'=>SP X pins D .next s') rfl hs c.zA c.kind c.names (bD (hi pins s σ H _ I h) λv s1 h1=>bD h1 λJz s2 h2=>?_)) (λ_ s' hq=>aad (aad hq)) λ_ _ e=>e);let⟨it,fp,tn,J,H2,e,I2,T,nM,f2,hw⟩:=h2;subst e;exact rM (Q:=λx H1=>D.nx (σ.set i (some x)) H1) (RR:=λacc C=>compPost (model X.prog X.w) X.A X.xe (some (assign (.Name y py) X.env)) (λ_ s'=>SP X pins D .next s') acc C) c hc hg ht he I2 T nM f2 hw ?_;intro D' C s' H' m I' hC hm q;show wpAny _ X.A (assign (.Name y py) X.env (.ref D')) _ _ _
 exact wpAny_assign_Name (tJ (v:=.ref D') I' hN hy (.inl hl) rfl (λnO I'' ch=>?_) (.inr hl));let⟨a,sb,ha⟩:=ch;have Zn:C≠a:=by
  rcases ha with ha|ha
  ·rw[ha];exact hC.2.1
  ·exactλz=>hC.2.2.2.2.1 _ _ ha z.symm
 exact⟨m,hm.sameBut sb Zn,λh' se=>Ψ2 _ H' ⟨?_,q⟩⟩;exact I''.turned (t':=nO.toks) (λb o hb e=>(se.2 b hb).trans e) hC.1 hC.2.1 hC.2.2.2.1 hC.2.2.2.2.1 hC.2.2.2.2.2
end
section
variable {K:W.Frag}{a:Addr}{xs:List V}{σ:St}{QD:Hp→Prop}{D:Addr}
theorem FG(Pv:Nat→St→List V→Hp→Prop)(h0:Pv 0 (da own cap σ) [] (upd H1 D (.lst [])))
  (hD:∀i σ ys H,i≤xs.length→Pv i σ ys H→H D=some (.lst ys)∧ys.length≤i)
  (hz:xs.length≤sizeLine)
  (Y4:∀i σ ys H,i<xs.length→Pv i σ ys H→J.go i H) (kN:∀σ ys H,Pv xs.length σ ys H→J.stop xs.length H)
  (YA:∀i σ ys H x H',i<xs.length→Pv i σ ys H→J.nJ i H x H'→H'=H∧xs[i]?=some x)
  (hs:∀i x σ ys H,xs[i]?=some x→Pv i σ ys H→g x σ H λσ3 H3=>tc σ3 H3 λb H4=>if b=true then te σ3 H4 λy H5=>H5 D=some (.lst ys)∧Pv (i+1) σ3 (ys++[y]) (upd H5 D (.lst (ys++[y])))else Pv (i+1) σ3 ys H4)
  (hd:∀σ ys H,Pv xs.length σ ys H→QD H) :
  ∃W:Nat→Nat→St→List V→Hp→Prop,(∃m,W 0 m (da own cap σ) [] (upd H1 D (.lst [])))∧∀i m σ' ys H',W i m σ' ys H'→H' D=some (.lst ys)∧
   ((J.stop i H'∧QD H')∨(J.go i H'∧ys.length<sizeLine∧∃N:St→List V→Hp→Prop,(∀σ ys H,N σ ys H→∃m',m' < m∧W (i+1) m' σ ys H)∧∀x H2,J.nJ i H' x H2→g x σ' H2 λσ3 H3=>tc σ3 H3 λb H4=>if b=true then te σ3 H4 λy H5=>H5 D=some (.lst ys)∧N σ3 (ys++[y]) (upd H5 D (.lst (ys++[y])))
    else N σ3 ys H4)):=by
 exact⟨λi m σ ys H=>m=xs.length-i∧i≤xs.length∧Pv i σ ys H,⟨xs.length,by simp,aaE _,h0⟩,?_⟩;intro i m σ' ys H'⟨rfl,hi,p⟩;have q:=hD i σ' ys H' hi p;exact⟨q.1,?_⟩;by_cases cG:i<xs.length
 ·exact .inr ⟨Y4 i σ' ys H' cG p,by lia,Pv (i+1),λσ' yg H' p'=>⟨xs.length-(i+1),by lia,rfl,cG,p'⟩,λx H2 y=>?_⟩
  let⟨e,hx⟩:=YA i σ' ys H' x H2 cG p y;subst e;exact hs i x σ' ys _ hx p
 ·have e:i=xs.length:=by lia
  subst e;exact .inl ⟨kN σ' ys H' p,hd σ' ys H' p⟩
theorem B6(Pv:Nat→St→List V→Hp→Prop)(h0:Pv 0 (da own cap σ) [] (upd H1 D (.lst [])))
  (hD:∀i σ ys H,i≤xs.length→Pv i σ ys H→H D=some (.lst ys)∧ys.length≤i∧eh K H a xs)
  (hz:xs.length≤sizeLine)
  (hs:∀i x σ ys H,xs[i]?=some x→Pv i σ ys H→g x σ H λσ3 H3=>tc σ3 H3 λb H4=>if b=true then te σ3 H4 λy H5=>H5 D=some (.lst ys)∧Pv (i+1) σ3 (ys++[y]) (upd H5 D (.lst (ys++[y])))else Pv (i+1) σ3 ys H4)
  (hd:∀σ ys H,Pv xs.length σ ys H→QD H) :
  ∃W:Nat→Nat→St→List V→Hp→Prop,(∃m,W 0 m (da own cap σ) [] (upd H1 D (.lst [])))∧∀i m σ' ys H',W i m σ' ys H'→H' D=some (.lst ys)∧
   (((NI K a).stop i H'∧QD H')∨((NI K a).go i H'∧ys.length<sizeLine∧∃N:St→List V→Hp→Prop,(∀σ ys H,N σ ys H→∃m',m' < m∧W (i+1) m' σ ys H)∧∀x H2,(NI K a).nJ i H' x H2→g x σ' H2 λσ3 H3=>tc σ3 H3 λb H4=>if b=true then te σ3 H4 λy H5=>H5 D=some (.lst ys)∧N σ3 (ys++[y]) (upd H5 D (.lst (ys++[y])))
    else N σ3 ys H4)):=
 FG (xs:=xs) Pv h0 (λi σ ys H hi p=>⟨(hD i σ ys H hi p).1,(hD i σ ys H hi p).2.1⟩) hz
  (λi σ ys H hi p=>Ψ2 xs (xs[i]) ⟨(hD i σ ys H (aar hi) p).2.2,by simp[hi]⟩) (λσ ys H p=>⟨xs,(hD _ σ ys H (aan _) p).2.2,aan _⟩)
  (λi σ ys H x H' hi p y=>⟨y.1,y.2 xs (hD i σ ys H (aar hi) p).2.2⟩) hs hd
end
section
theorem Hu:ja X (binaryOp .Mult) (rI (λi j=>i.natAbs<2^200∧j.natAbs<2^200) λi j=>.int (i*j)):=
 Nd λi j _ _ _ _ _ hc q=>mul_int q (.of_bits (aaG (intBits_le hc.1) (by decide)) (aaG (intBits_le hc.2) (by decide)))
theorem Ca(hc:X.calm=true):hZ X (.builtin "sum") (λxs H Q=>∃(p:Addr) (ns:List Int),xs=[.ref p]∧eh X.K H p (ns.map V.int)∧Q (.int ns.sum) H):=by
 intro pins s σ H xs us Q I r h;let⟨p,ns,rfl,hq,q⟩:=h;let⟨u,rfl,ru⟩:=vals1 r;cases ru;let⟨its,rv,pl,hz⟩:=I.list hq;have hi:=intsAre_of rv;have MA:AllInts its.toArray:=hi.allInts;let⟨zs,Nl⟩:=MA.items;have hn:numsOf its=ns:=hi.numsOf;have hl:s.heap.IsList p (intItems zs):=by rw[←Nl];exact pl.isList
 exact sum_intListG (I.ok.hd hc) hl λh' tk t' k=>Ψ2 (.int ns.sum) H ⟨I.kept k,⟨t',?_⟩,q⟩;have e:numsOf (intItems zs).toList=ns:=by rw[←Nl];exact hn
 rw[nums_intItems]at e;rw[preSum_eq,aa3 (by simp),e]
end
section
variable {R:Result→Shared→Prop}{I:Addr}{wr:List Addr}{P:Nat→Value→Prop}{St:Nat→Heap→Prop}
theorem BH{kw:List (Str×Value)}(W:Walks prog w A.in1 I fp wr n P St)(bt:Nat→Nat→Bool)(US:CmpOf prog w A.in1 .Gt P bt)(S:Addr)(Nu:S∉fp):
  ∀(k j:Nat) (s:Shared) (vb:Value) (c:Nat),n-(j+1)=k→j+1≤n→St (j+1) s.heap→P (argBest bt j) vb→
  s.heap.get? S=some {cls:=.type "list",dict:=none,data:=.seq #[vb,vb] c,slots:=#[]}→
  (∀v h' tk,P (argBest bt (n-1)) v→(∀b o,b∉wr→b≠S→s.heap.get? b=some o→h'.get? b=some o)→R (.ok (.ret v)) {s with heap:=h',toks:=tk})→
  codeAny (model prog w) A (.builtin "max.loop" ⟨[.ref I,.none,.ref S],kw⟩) R s:=by
 have RN:S∉wr:=λh=>Nu (W.sub _ h);have nm:(toString "max" ++ toString ".loop" : String) = "max.loop" := by decide
 intro k;induction k with
 |zero=>
  intro j s vb c hk hj kN RP hS hR;have RK:j+1=n:=by lia
  exact abI aer ?_;rw[abv ab5 _];show wpAny _ A.in1 (seqItems? (.ref S) >>= _) _ _ s
  exact aaa (abi hS rfl ?_);show wpAny _ A.in1 (tryCatch (pyNext (.ref I)) _ >>= _) _ _ s
  exact aaa (adl (W.done s _ _ (RK ▸ kN) λh' tk BS=>?_));have AK:=BS S _ RN hS;show wpAny _ A.in1 (updateSeq S (λ_=>#[]) >>= _) _ _ _
  exact aaa (abU AK rfl (aaa (acb (aad ?_))));exact hR vb _ tk (by rw[←RK];exact RP) λb o Mu Il e=>(aaF _ _ (abM Il)).trans (BS b o Mu e)
 |succ k ih=>
  intro j s vb c hk hj kN RP hS hR;have cG:j+1<n:=by lia
  exact abI aer ?_;rw[abv ab5 _];show wpAny _ A.in1 (seqItems? (.ref S) >>= _) _ _ s
  exact aaa (abi hS rfl ?_);show wpAny _ A.in1 (tryCatch (pyNext (.ref I)) _ >>= _) _ _ s
  exact aaa (adl (W.item (j+1) s _ _ cG kN λv h' tk hP Ig BS=>?_));have AK:=BS S _ RN hS;show wpAny _ A.in1 (tryCatch (holding [v,v] (richCompare .Gt v vb >>= _)) _ >>= _) _ _ _
  exact aaa (adl (aaR (aaa (US (j+1) (argBest bt j) v vb _ _ _ hP RP ?_))));exact aaa (aaR (abG ?_));exact aaa (acb (aad ?_));by_cases hb:bt (j+1) (argBest bt j)=true
  ·rw[hb]
   simp only[ad3];exact aaa (abU AK rfl (aaa (acb ?_)));rw[nm];exact aad ⟨abF ab5 _,ih (j+1) _ v _ (by lia) cG (W.frame _ _ _ Ig λb UW o e=>?_) (by rw[argBest,aaA hb];exact hP) (abt _ AK rfl) λv' h2 NS Fi Qp=>?_⟩
   ·exact(aaF _ _ (λh:S=b=>Nu (by rw[h];exact UW))).trans e
   ·exact hR v' h2 NS Fi λb o Mu Il e=>Qp b o Mu Il ((aaF _ _ (abM Il)).trans (BS b o Mu e))
  ·have hb':bt (j+1) (argBest bt j)=false:=by simpa using hb
   rw[hb'];simp only[acr,ac9];exact aaa (acb ?_);rw[nm];exact aad ⟨abF ab5 _,ih (j+1) _ vb c (by lia) cG Ig (by rw[argBest,aaz hb];exact RP) AK λv' h2 NS Fi Qp=>?_⟩;exact hR v' h2 NS Fi λb o Mu Il e=>Qp b o Mu Il (BS b o Mu e)
theorem xY(a d:Value):argsOk "max" ⟨[a],[(Str.ofString "default",d)]⟩:=by unfold argsOk;kernel_rfl
theorem Cc{l:Addr}{xs:Array (Int×Tok)}{d:Value}{Q:xz}(hh:A.handled=none)(hl:s.heap.IsList l (intItems xs))(Qi:0<xs.size)
  (h:∀v h' tk,(intItems xs)[argBest (λi j=>decide (numAt xs i>numAt xs j)) (xs.size-1)]?=some v→(∀b o,s.heap.get? b=some o→h'.get? b=some o)→Q v {s with heap:=h',toks:=tk}) :
  wpAny (model prog w) A (call (.builtin "max") [.ref l] [(Str.ofString "default",d)]) Q E s:=by
 have nm:(toString "max" ++ toString ".loop" : String) = "max.loop" := by decide
 exact PyProof.Rows.kmk_tree PySem.F.kind_max PySem.F.plain_max PySem.F.entry_max (xY _ _) ?_;show wpAny _ A.in1 (Builtin.Builtins.bindParams "max" ["key","default"] 0 ⟨[],[(Str.ofString "default",d)]⟩ >>= _) _ _ s
 exact aaa (abh (show Builtin.Builtins.bindParams "max" ["key","default"] 0 ⟨[],[(Str.ofString "default",d)]⟩=pure [none,some d]from rfl) ?_);exact aaa (aad ?_);exact aaa (iter_intList hl λs₂ e st Y6 YY=>?_);subst e;exact aaa (aaL ?_);rw[nm];have W:=Walks.list (prog:=prog) (w:=w) (A:=A.in1) hh s.heap.objs.size l YY (intItems xs);have Nu:(s.heap.push {cls:=.type "list_iterator",data:=.fields #[.ref l,.int 0 0]}).objs.size∉[s.heap.objs.size,l]:=λhm=>abo _ (Y6 _ hm);have hn:0<(intItems xs).size:=by simpa[intItems]using Qi
 exact aad ⟨abF ab5 _,abI aer ?_⟩;rw[abv ab5 _];show wpAny _ A.in1 (seqItems? (.ref _) >>= _) _ _ _
 exact aaa (abi (aaq _ rfl) rfl ?_);show wpAny _ A.in1 (tryCatch (pyNext (.ref s.heap.objs.size)) _ >>= _) _ _ _
 exact aaa (adl (W.item 0 _ _ _ hn (W.frame _ _ _ st λb _ o e=>aab _ e) λv h' tk hP Ig BS=>?_));have RN:(s.heap.push {cls:=.type "list_iterator",data:=.fields #[.ref l,.int 0 0]}).objs.size∉[s.heap.objs.size]:=λz=>Nu (aah.mpr (.inl (aav.mp z)));have AK:=BS _ _ RN (aaq _ rfl);show wpAny _ A.in1 (updateSeq _ (λ_=>#[v,v]) >>= _) _ _ _
 exact aaa (abU AK rfl ?_);rw[nm];exact aad ⟨abF ab5 _,BH W (λi j=>decide (numAt xs i>numAt xs j)) (CmpOf.ints_gt (numAt xs) (λ_ _=>intItems_at)) _ Nu _ 0 _ v _ rfl hn (W.frame _ _ _ Ig λb UW o e=>?_) hP (abt _ AK rfl) λv' h2 NS Fi Qp=>?_⟩
 ·exact(aaF _ _ (λh:_=b=>Nu (by rw[h];exact UW))).trans e
 ·exact h v' h2 NS (by simpa[intItems]using Fi) λb o e=>?_
  have hb:=aak e;have WL:b≠s.heap.objs.size:=aaw hb;have Il:b≠(s.heap.push {cls:=.type "list_iterator",data:=.fields #[.ref l,.int 0 0]}).objs.size:=by rw[abk];exact aaw (abw hb)
  exact Qp b o (by simpa using WL) Il ((aaF _ _ (abM Il)).trans (BS b o (by simpa using WL) (aab _ (aab _ e))))
end
def fG:List Int→Int
 |[]=>0
 |[x]=>x
 |x::y::r=>max x (fG (y::r))
theorem tI:∀{ns:List Int},ns≠[]→fG ns∈ns
 |[x],_=>by simp[fG]
 |x::y::r,_=>by
  have ih:=tI (ns:=y::r) (by simp);rw[fG];by_cases h:x≤fG (y::r)
  ·rw[Int.max_eq_right h];exact aaJ _ ih
  ·rw[Int.max_eq_left (by lia)];exact aa5
theorem vQ:∀{ns:List Int} {a:Int},a∈ns→a≤fG ns
 |[x],a,h=>by simp at h;subst h;simp[fG]
 |x::y::r,a,h=>by
  rw[fG];rcases aah.mp h with rfl|h
  ·exact Int.le_max_left _ _
  ·exact Int.le_trans (vQ h) (Int.le_max_right _ _)
theorem Dl{ns:List Int}{M:Int}(h1:M∈ns)(h2:∀a∈ns,a≤M):M=fG ns:=
 Int.le_antisymm (vQ h1) (h2 _ (tI (by intro z;rw[z]at h1;cases h1)))
section
variable {v:Expr}{rm:Pos}
theorem He{ta:TA}{tk:TA}(hc:X.calm=true)(hg:Gl X "max")(hm:X.mg "max" = none)(ha:PA X [e] ta)(hv:PK X [⟨some "default",v,rm⟩] tk)
  (he:backTo pos (starEach [e] X.env)=(false,eval e X.env)::backTo pos (starEach [] X.env):=by rfl) (i9:(backTo pos (starEach [e] X.env)).any (·.1)=false:=by rfl) :
  PE X (.Call (.Name "max" p) [e] [⟨some "default",v,rm⟩] pos) (λσ H Q=>ta σ H λxs H1=>tk σ H1 λys H2=>∃(d:V) (a:Addr) (ns:List Int),ys=[d]∧xs=[.ref a]∧eh X.K H2 a (ns.map V.int)∧ns≠[]∧Q (.int (fG ns)) H2):=by
 exact .mk ?_;intro pins s σ H Q I h;exact abQ (gZ I hg hm boot_max ?_ (by decide) (by decide));exact callWith_kw (e:=e) (rest:=[]) ?_ he i9 rfl rfl;exact bD (ha pos pins s σ H _ I h) λus s1 ξ=>Ξ23 ξ λvs H1 I1 r1 q1=>?_;exact bD (hv pos pins s1 σ H1 _ I1 q1) λws s2 ξ=>Ξ23 ξ λzs H2 I2 r2 q2=>?_;let⟨d,a,ns,rfl,rfl,hq,Qi,q⟩:=q2;let⟨u,rfl,ru⟩:=vals1 r1;cases ru;let⟨its,rv,pl,hz⟩:=I2.list hq;have hi:=intsAre_of rv;let⟨xs,sO⟩:=hi.allInts.items;have hn:numsOf its=ns:=hi.numsOf;have hl:s2.heap.IsList a (intItems xs):=by rw[←sO];exact pl.isList
 have hlen:0<xs.size:=by
  have e1:=rv.length;have e2:its.length=xs.size:=by have:=abc Array.size sO;simpa[intItems]using this
  have e3:ns.length≠0:=λz=>Qi (abA z);simp at e1;lia
 have fin:∀d:Value,wpAny (model X.prog X.w) X.A (call (.builtin "max") [.ref a] [(Str.ofString "default",d)]) (EP X pins σ Q) X.xe s2:=λd=>by
  exact Cc (I2.ok.hd hc) hl hlen λv h' tk hv hk=>?_;let⟨t,rfl⟩:=intItems_at hv;let⟨h1,h2⟩:=argBest_gt (numAt xs) (xs.size-1);have e:numsOf (intItems xs).toList=ns:=by rw[←sO];exact hn
  rw[nums_intItems]at e;have M1:numAt xs (argBest (λi j=>decide (numAt xs i>numAt xs j)) (xs.size-1))∈ns:=by
   rw[←e,numAt_eq];exact getD_mem (by rw[aae,aaY];lia)
  have M2:∀b∈ns,b≤numAt xs (argBest (λi j=>decide (numAt xs i>numAt xs j)) (xs.size-1)):=λb hb=>by
   rw[←e]at hb;let⟨j,hj,rfl⟩:=mem_getD hb;rw[aae,aaY]at hj;rw[←numAt_eq];exact h2 j (by lia)
  exact Ψ2 (.int (fG ns)) H2 ⟨I2.kept hk,⟨t,by rw[Dl M1 M2]⟩,q⟩
 cases r2 with
 |cons r3 r4=>cases r4;exact fin _
end
section
theorem wx(hu:X.A.units<cLine):ja X (compareOp .NotEq) (λx y H Q=>∃a b xs,x=.ref a∧y=.ref b∧eh X.K H a xs∧eh X.K H b []∧Q (.bl (!xs.isEmpty)) H):=by
 intro pins s σ H x y v u Q I rx ry h;let⟨a,b,xs,rfl,rfl,ha,hb,q⟩:=h;cases rx;cases ry;let⟨its,rv,pl,hz⟩:=I.list ha;let⟨ik,oq,kK,Gf⟩:=I.list hb;cases oq;cases xs with
 |nil=>
  cases rv;exact SeqAt.RcNeAt.lists (e:=λ_=>true) pl.isList kK.isList rfl hu (λj h1 _=>absurd h1 (by simp)) _ _ _ _ ⟨.bl false,H,I,rfl,q⟩
 |cons x r=>
  cases rv with
  |cons r1 r2=>exact SeqAt.RcNeAt.lists_lengths pl.isList kK.isList (by simp) hu _ _ _ _ ⟨.bl true,H,I,rfl,q⟩
end
def fI{α:Type}(xs:List α)(lo hi:Option Int):List α:=(xs.drop (HT.de xs.length 0 lo)).take (HT.de xs.length xs.length hi-HT.de xs.length 0 lo)
theorem iF{α:Type}(xs:List α)(lo hi:Option Int):(fI xs lo hi).length≤xs.length:=by
 unfold fI;rw[aa4,abf];lia
theorem AX(v:Int)(n d:Nat):max (0:Int) (min (if v<0 then v+(n:Int)else v) (n:Int))=((HT.de n d (some v):Nat):Int):=by
 show _=(((if v<0 then(v+(n:Int)).toNat else min v.toNat n):Nat):Int)
 by_cases hv:v<0
 ·rw[aaA hv,aaA hv];lia
 ·rw[aaz hv,aaz hv];lia
theorem w5(lo hi:Option Int)(n:Nat):Builtin.Str.strSliceIndices lo hi 1 n=Builtin.Str.strSliceIndices (some ((HT.de n 0 lo:Nat):Int)) (some ((HT.de n n hi:Nat):Int)) 1 n:=by
 have a1:=HT.uA n 0 (aaE _) lo;have a2:=HT.uA n n (aan _) hi;have n1:¬(((HT.de n 0 lo:Nat):Int)<0):=by lia
 have n2:¬(((HT.de n n hi:Nat):Int)<0):=by lia
 have e1:max (0:Int) (min ((HT.de n 0 lo:Nat):Int) (n:Int))=((HT.de n 0 lo:Nat):Int):=by lia
 have e2:max (0:Int) (min ((HT.de n n hi:Nat):Int) (n:Int))=((HT.de n n hi:Nat):Int):=by lia
 have p1:((1:Int)>0)=True:=by simp
 simp only[Builtin.Str.strSliceIndices,n1,n2,ac9,e1,e2,p1,ad3];cases lo with
 |none=>
  cases hi with
  |none=>rfl
  |some v=>simp only[AX v n n];rfl
 |some u=>
  cases hi with
  |none=>simp only[AX u n 0];rfl
  |some v=>simp only[AX u n 0,AX v n n]
theorem E9{a b:Nat}(h:b≤a):Builtin.Str.strSliceIndices (some (a:Int)) (some (b:Int)) 1 n=[]:=by
 have n1:¬((a:Int)<0):=by lia
 have n2:¬((b:Int)<0):=by lia
 have p1:((1:Int)>0)=True:=by simp
 have p2:¬(max (0:Int) (min (a:Int) (n:Int))<max (0:Int) (min (b:Int) (n:Int))):=by lia
 simp only[Builtin.Str.strSliceIndices,PySem.sliceRange,n1,n2,ac9,p1,ad3,p2];rfl
theorem yr(x:Str)(lo hi:Option Int):(StrLaws.sliceText x lo hi).cps.toList=fI x.cps.toList lo hi:=by
 have hn:x.cps.toList.length=x.length:=by simp[Str.length]
 unfold fI;rw[hn];have a2:=HT.uA x.length x.length (aan _) hi;by_cases h:HT.de x.length 0 lo≤HT.de x.length x.length hi
 ·have q:=StrLaws.sliceText_nat x h a2
  have e:StrLaws.sliceText x lo hi=StrLaws.sliceText x (some ((HT.de x.length 0 lo:Nat):Int)) (some ((HT.de x.length x.length hi:Nat):Int)):=by
   unfold StrLaws.sliceText;rw[w5 lo hi x.length]
  rw[e,q]
 ·have z:HT.de x.length x.length hi-HT.de x.length 0 lo=0:=by lia
  rw[z,adE];unfold StrLaws.sliceText;rw[w5 lo hi x.length,E9 (by lia)];split
  ·rename_i c
   have c':(0:Nat)=x.length:=by simpa using c
   exact abA (by rw[hn];exact c'.symm)
  ·rfl
def Tt:V→Option Int→Option Int→Hp→VK→Prop:=λx lo hi H Q=>∃z:Str,x=.str z∧z.length≤sizeLine∧∀y:Str,y.cps.toList=fI z.cps.toList lo hi→Q (.str y) H
theorem jO:NG X Tt:=by
 intro pins s σ H x v vl vu lo hi sl Q I rx hs pl pu h;let⟨z,rfl,hz,q⟩:=h;let⟨t,rfl⟩:=rx;exact Ψ2 ("str") _ ⟨F.slot_str_getitem.lookup,typeIs_str _ z t,?_⟩;have fin:∀(l u:Option (Int×Tok)),l.map (·.1)=lo→u.map (·.1)=hi→s.heap.IsSlice sl l u none→wpAny (model X.prog X.w) X.A (getItem (.str z t) (.ref sl)) (EP X pins σ Q) X.xe s:=λl u el eu hq=>by
  exact wpAny_getItem_str_slice hq rfl ?_;have hc:=yr z lo hi;unfold StrLaws.sliceText at hc;unfold sliceMade slicePicked;rw[el,eu];show(if((1:Int)==1&&(Builtin.Str.strSliceIndices lo hi 1 z.length).length==z.length)=true then Made.val (.str z t)else .str ⟨((Builtin.Str.strSliceIndices lo hi 1 z.length).filterMap (z.cps[·]?)).toArray⟩).post (EP X pins σ Q) s
  split
  ·rename_i c
   rw[aaA c]at hc;exact Ψ2 (.str z) H ⟨I,⟨t,rfl⟩,q z hc⟩
  ·rename_i c
   rw[aaz c]at hc;have hl:(Str.mk ((Builtin.Str.strSliceIndices lo hi 1 z.length).filterMap (z.cps[·]?)).toArray).length≤z.length:=by
    have e:=iF z.cps.toList lo hi;rw[←hc]at e;simpa[Str.length]using e
   exact⟨aaG hl hz,.str ⟨((Builtin.Str.strSliceIndices lo hi 1 z.length).filterMap (z.cps[·]?)).toArray⟩,H,I.tok _,⟨_,rfl⟩,q _ hc⟩
 cases pl with
 |none=>
  cases pu with
  |none=>exact fin none none rfl rfl hs
  |int j t'=>exact fin none (some (j,t')) rfl rfl hs
 |int i VI=>
  cases pu with
  |none=>exact fin (some (i,VI)) none rfl rfl hs
  |int j t'=>exact fin (some (i,VI)) (some (j,t')) rfl rfl hs
section
variable {x:Expr}{p2:Pos}{T:Str}{Ty:String}
def OD(K:W.Frag)(Ty:String)(te:TE):TE:=λσ H Q=>te σ H λv H1=>∃v',[v,V.ty Ty]=[v',V.ty Ty]∧∃t b,mr K H1 v' t∧W.kitOne K t (.type Ty)=some b∧Q (.bl b) H1
theorem Hf(hg:Gl X "isinstance")(hm:X.mg "isinstance" = none)(UL:Gl X T)(UG:X.mg T=none)(Us:bootBuiltins T=some (.type Ty))(he:PE X x te)(hn:T ≠ "__name__" := by decide)(yb:(T ==("__debug__" : Str))=false:=by decide)
  (hs:starEach [x,.Name T p2] X.env=(false,eval x X.env)::starEach [.Name T p2] X.env:=by rfl) (ya:starEach [.Name T p2] X.env=[(false,eval (.Name T p2) X.env)]:=by rfl)
  (i9:(backTo pos (starEach [.Name T p2] X.env)).any (·.1)=false:=by rfl) :
  PE X (.Call (.Name "isinstance" p) [x,.Name T p2] [] pos) (OD X.K Ty te):=by
 have c:hZ X (.builtin "isinstance") (λxs H Q=>∃v,xs=[v,.ty Ty]∧∃t b,mr X.K H v t∧W.kitOne X.K t (.type Ty)=some b∧Q (.bl b) H):=by
  intro pins s σ H xs us Q I r h;let⟨v,rfl,⟨t,b,ty,e,q⟩⟩:=h;let⟨u,w',rfl,ru,qH⟩:=vals2 r;cases(show w'=Value.type Ty from qH);exact BO I ru ty e λtk=>Ψ2 (.bl b) H ⟨I.tok tk,rfl,q⟩
 have pa:PA X [x,.Name T p2] (vS te (vS (tC (.ty Ty)) GF)):=aq he (aq (Aq UL UG Us rfl hn yb) bf ya) hs;exact iV (p:=p) (pos:=pos) c hg hm abB pa (by decide) (by decide) hs i9
end
def Callee(P:Program)(w:World)(K:W.Frag)(mg:ac)(base:Heap)(x:Str)(k:Nat)(ps:List Str)(sp:Sp):Prop:=
 ∃f fd,bq P w K mg base fE k f fd ps sp∧mg x=some (.ref f)∧W.keepIn K (.ref f)=true∧Binds K fd ps []
theorem Callee.mono{K:W.Frag}(c:Callee P w K mg base x j ps sp)(h:j≤k):Callee P w K mg base x k ps sp:=by
 let⟨f,fd,F,m,kp,b⟩:=c;exact Ψ2 f fd ⟨F.mono h,m,kp,b⟩
theorem Callee.imp{K:W.Frag}{GK:Sp}(c:Callee P w K mg base x k ps sp)(h:∀vs H Q E,GK vs H Q E→sp vs H Q E):Callee P w K mg base x k ps GK:=by
 let⟨f,fd,F,m,kp,b⟩:=c;exact Ψ2 f fd ⟨F.imp h,m,kp,b⟩
section
variable {es:List Expr}{t:TA}
theorem bR(c:Callee X.prog X.w X.K X.mg X.base x k ps sp)(hr:dO j X.A)(hk:k≤j)(hg:Gl X x)(ha:PA X (e::es) t)(xf:(x ==("__debug__" : Str))=false:=by decide)
  (he:starEach (e::es) X.env=(false,eval e X.env)::starEach es X.env:=by rfl) (i9:(backTo pos (starEach es X.env)).any (·.1)=false:=by rfl):PE X (.Call (.Name x p) (e::es) [] pos) (Ja sp [] E0 t):=by
 let⟨f,fd,F,m,kp,b⟩:=c;exact Hl F (hr.mono hk) hg m kp b .nil Px ha xf he i9
end
section
theorem wI{p:Str×NameKind}(h:p∈(relabel scope env).names):∃q∈scope.names,q.1=p.1∧(p.2=q.2∨(q.2=.free∧p.2=.cell)):=by
 let⟨q,hq,e⟩:=aay.mp (show p∈scope.names.map _ from h);exact⟨q,hq,?_⟩;obtain⟨n,k⟩:=q;dsimp only at e;split at e
 ·rename_i c
  subst e;exact⟨rfl,.inr ⟨?_,rfl⟩⟩;simp only[aa1,acJ]at c;exact c.1.1
 ·subst e
  exact⟨rfl,.inl rfl⟩
theorem eN(hk:scope.kind=.function)(hn:∀y∈scope.names,y.2≠.free∧y.2≠.cell)(hl:∀y∈scope.names,y.2=.local→scope.names.lookup y.1=some .local):cV X scope [] own [] where
 zA:=closureFor_none λy hy=>(hn y hy).1
 cell:=λy hy=>(hn y hy).2
 kind:=hk
 names:=hl
 sub:=λx c h=>nomatch h
 has:=λp hp h=>by
  let⟨q,hq,e1,e2⟩:=wI hp;have n:=hn q hq;rcases e2 with e2|⟨e2,_⟩
  ·rw[e2]at h
   rcases h with h|h
   ·exact absurd h n.2
   ·exact absurd h n.1
  ·exact absurd e2 n.1
 ID:=λp hp=>nomatch hp
def x9(cells:List (Str×Addr)):List (Str×Addr)→Prop
 |[]=>True
 |p::r=>cells.lookup p.1=some p.2∧x9 cells r
theorem x9.mem{cells:List (Str×Addr)}:∀{cl:List (Str×Addr)},x9 cells cl→∀p∈cl,cells.lookup p.1=some p.2
 |[],_,p,h=>nomatch h
 |q::r,h,p,hp=>by
  rcases aah.mp hp with rfl|hp
  ·exact h.1
  ·exact x9.mem h.2 p hp
def r9(X:Cx)(scope:Scope):List (Nat×Str)→Prop
 |[]=>True
 |p::r=>(X.N[p.1]?=some p.2∧X.env.kindOf p.2=some .cell∧(relabel scope X.env).names.lookup p.2=some .cell)∧r9 X scope r
theorem r9.mem:∀{cap:List (Nat×Str)},r9 X scope cap→∀p∈cap,X.N[p.1]?=some p.2∧X.env.kindOf p.2=some .cell∧(relabel scope X.env).names.lookup p.2=some .cell
 |[],_,p,h=>nomatch h
 |q::r,h,p,hp=>by
  rcases aah.mp hp with rfl|hp
  ·exact h.1
  ·exact r9.mem h.2 p hp
theorem cJ(hk:scope.kind=.function)(hn:∀y∈scope.names,y.2≠.cell)(hl:∀y∈scope.names,y.2=.local→scope.names.lookup y.1=some .local)
  (hc:closureFor scope X.env=pure cl) (ha:x9 X.env.cells cl) (hh:((relabel scope X.env).names.all λp=>!(p.2 == .cell||p.2 == .free)||(cl.lookup p.1).isSome)=true) (UT:r9 X scope cap):cV X scope cl own cap where
 zA:=hc
 cell:=hn
 kind:=hk
 names:=hl
 sub:=λx c h=>ha.mem _ (mem_of_lookup h)
 has:=λp hp h=>by
  have q:=aaK.mp hh p hp;rcases h with h|h<;>· rw[h]at q;simpa using q
 ID:=λp hp=>by
  let⟨h1,h2,h3⟩:=UT.mem p hp;exact⟨h1,.inr (.inl h2),by rw[h2];decide,by rw[h3];decide,.inl h3⟩
end
def S7(t:TS):TS:=λD σ H=>∃P:St→Hp→Prop,t {D with nx:=P} σ H∧∀σ H,P σ H→D.nx σ H
theorem uI{t:TS}(h:PS X st t):PS X st (S7 t):=by
 exact .mk ?_;intro pins s σ H D I q;let⟨P,q1,q2⟩:=q;exact bD (h pins s σ H _ I q1) λf s' z=>?_;cases f with
 |next=>let⟨σ',H',I',p⟩:=z;exact Ψ2 σ' H' ⟨I',q2 _ _ p⟩
 |brk=>exact z
 |cont=>exact z
 |ret u=>exact z
theorem vq:bootBuiltins "bool" = some (.type "bool"):=by decide +kernel
theorem zG:bootBuiltins "int" = some (.type "int"):=by decide +kernel
theorem rW:bootBuiltins "str" = some (.type "str"):=by decide +kernel
theorem bE:bootBuiltins "tuple" = some (.type "tuple"):=by decide +kernel
def Kp(l:List Addr)(H H':Hp):Prop:=∀b o,b∉l→H b=some o→H' b=some o
theorem Kp.refl(H:Hp):Kp l H H:=λ_ _ _ h=>h
theorem Kp.trans(a:Kp l H H1)(b:Kp l H1 H2):Kp l H H2:=λc o n h=>b c o n (a c o n h)
theorem Kp.mono{l':List Addr}(a:Kp l H H1)(s:∀b∈l,b∈l'):Kp l' H H1:=λc o n h=>a c o (λz=>n (s c z)) h
theorem Kp.new{p:Addr}(h:H p=none)(o:HO):Kp l H (upd H p o):=λb u _ q=>by rw[ao (au q h)];exact q
theorem Kp.set{p:Addr}(h:p∈l)(o:HO):Kp l H (upd H p o):=λb u n q=>by
 have e:b≠p:=λz=>n (by rw[z];exact h);rw[ao e];exact q
def Tp(H H':Hp):Prop:=∀b xs,H b=some (.tup xs)→H' b=some (.tup xs)
theorem Tp.trans(a:Tp H H1)(b:Tp H1 H2):Tp H H2:=λc o h=>b c o (a c o h)
theorem Kp.tp(k:Kp l H H')(n:∀b∈l,∀xs,H b≠some (.tup xs)):Tp H H':=λb xs h=>k b _ (λz=>n b z xs h) h
end L2
namespace Tg
open PySem L2
variable {H H':Hp}{nm x y:Str}{k:Kd}{lo hi:Option Int}{r:Int}
inductive Kd where
 |num (w:Int)
 |text
 |row (k:Kd)
 |rec_ (fs:List (Str×Kd))
 |pick (fs:List (Str×Kd))
abbrev al:=List (Str×Kd)
mutual
def Kd.size:Kd→Int
 |.num w=>w
 |.text=>1
 |.row _=>1
 |.rec_ fs=>(yz fs).sum
 |.pick fs=>1+fG (yz fs)
def yz:List (Str×Kd)→List Int
 |[]=>[]
 |(_,k)::r=>k.size::yz r
end
mutual
def Kd.depth:Kd→Nat
 |.num _=>1
 |.text=>1
 |.row k=>k.depth+1
 |.rec_ fs=>aL fs+1
 |.pick fs=>aL fs+1
def aL:List (Str×Kd)→Nat
 |[]=>0
 |(_,k)::r=>max k.depth (aL r)
end
mutual
def pW(H:Hp):V→Kd→Prop
 |v,.num w=>∃a,v=.ref a∧H a=some (.tup [.str "num",.int w])
 |v,.text=>∃a,v=.ref a∧H a=some (.tup [.str "text"])
 |v,.row k=>∃a u,v=.ref a∧H a=some (.tup [.str "row",u])∧pW H u k
 |v,.rec_ fs=>∃a f xs,v=.ref a∧H a=some (.tup [.str "rec",.ref f])∧H f=some (.tup xs)∧kJ H xs fs
 |v,.pick fs=>∃a f xs,v=.ref a∧H a=some (.tup [.str "pick",.ref f])∧H f=some (.tup xs)∧kJ H xs fs
def kJ(H:Hp):List V→List (Str×Kd)→Prop
 |xs,[]=>xs=[]
 |xs,(nm,k)::r=>∃p u ys,xs=.ref p::ys∧H p=some (.tup [.str nm,u])∧pW H u k∧kJ H ys r
end
mutual
theorem pW.mono(t:Tp H H'):∀{k:Kd} {v:V},pW H v k→pW H' v k
 |.num w,v,h=>by
  unfold pW at h ⊢;obtain⟨a,e,h⟩:=h;exact⟨a,e,t _ _ h⟩
 |.text,v,h=>by
  unfold pW at h ⊢;obtain⟨a,e,h⟩:=h;exact⟨a,e,t _ _ h⟩
 |.row k,v,h=>by
  unfold pW at h ⊢;obtain⟨a,u,e,h,q⟩:=h;exact Ψ2 a u ⟨e,t _ _ h,pW.mono t q⟩
 |.rec_ fs,v,h=>by
  unfold pW at h ⊢;obtain⟨a,f,xs,e,h,h2,q⟩:=h;exact Ψ3 a f xs ⟨e,t _ _ h,t _ _ h2,kJ.mono t q⟩
 |.pick fs,v,h=>by
  unfold pW at h ⊢;obtain⟨a,f,xs,e,h,h2,q⟩:=h;exact Ψ3 a f xs ⟨e,t _ _ h,t _ _ h2,kJ.mono t q⟩
theorem kJ.mono(t:Tp H H'):∀{fs:List (Str×Kd)} {xs:List V},kJ H xs fs→kJ H' xs fs
 |[],xs,h=>by
  unfold kJ at h ⊢;exact h
 |(nm,k)::r,xs,h=>by
  unfold kJ at h ⊢;obtain⟨p,u,ys,e,h,q,z⟩:=h;exact Ψ3 p u ys ⟨e,t _ _ h,pW.mono t q,kJ.mono t z⟩
end
theorem kJ.length:∀{fs:List (Str×Kd)} {xs:List V},kJ H xs fs→xs.length=fs.length
 |[],xs,h=>by unfold kJ at h;subst h;rfl
 |(nm,k)::r,xs,h=>by
  unfold kJ at h;let⟨p,u,ys,e,_,_,z⟩:=h;rw[e,aap,aap,kJ.length z]
theorem kJ.snoc{p:Addr}{u:V}:∀{fs:List (Str×Kd)} {xs:List V},kJ H xs fs→H p=some (.tup [.str nm,u])→pW H u k→kJ H (xs++[.ref p]) (fs++[(nm,k)])
 |[],xs,h,h1,h2=>by
  unfold kJ at h;subst h;show kJ H [.ref p] [(nm,k)]
  unfold kJ;exact Ψ3 p u [] ⟨rfl,h1,h2,by unfold kJ;rfl⟩
 |(Cp,k')::r,xs,h,h1,h2=>by
  unfold kJ at h;let⟨q,u',ys,e1,g1,g2,z⟩:=h;subst e1;show kJ H (.ref q::(ys++[.ref p])) ((Cp,k')::(r++[(nm,k)]))
  unfold kJ;exact Ψ3 q u' _ ⟨rfl,g1,g2,kJ.snoc z h1 h2⟩
theorem aY:∀{fs:List (Str×Kd)} {p:Str×Kd},p∈fs→p.2.depth≤aL fs
 |(nm,k)::r,p,h=>by
  unfold aL;rcases aah.mp h with rfl|h
  ·exact adt _ _
  ·exact aaG (aY h) (adj _ _)
theorem pC{nm:Str}{k:Kd}:∀{fs:List (Str×Kd)} {n:Nat},aL fs≤n→k.depth≤n→aL (fs++[(nm,k)])≤n
 |[],n,_,h=>by show aL [(nm,k)]≤n;unfold aL;unfold aL;lia
 |(Cp,k')::r,n,h,h2=>by
  show aL ((Cp,k')::(r++[(nm,k)]))≤n
  unfold aL at h ⊢;have:=pC (fs:=r) (n:=n) (nm:=nm) (k:=k) (by lia) h2;lia
mutual
/-- a kind as yp document tells it: widths,fields one to six,no name twice,names of one to W7 small HU -/
def Kd.good:Kd→Prop
 |.num w=>1≤w∧w≤4
 |.text=>True
 |.row k=>k.good
 |.rec_ fs=>dw fs∧1≤fs.length∧fs.length≤6∧(fs.map (·.1)).Nodup
 |.pick fs=>dw fs∧1≤fs.length∧fs.length≤6∧(fs.map (·.1)).Nodup
def dw:List (Str×Kd)→Prop
 |[]=>True
 |(nm,k)::r=>(1≤nm.length∧nm.length≤8∧∀c∈nm.cps.toList,97≤c∧c≤122)∧k.good∧dw r
end
def Lets(z:Str):Prop:=∀c∈z.cps.toList,97≤c∧c≤122
def Nm(z:Str):Prop:=1≤z.length∧z.length≤8∧Lets z
theorem dj(z:Str):z.cps.toList.length=z.length:=by simp[Str.length]
theorem uh(x y:Str):(x++y).cps.toList=x.cps.toList++y.cps.toList:=by rw[Str.cps_append,adI]
theorem dZ(x y:Str):(x++y).length=x.length+y.length:=by rw[←dj,uh,aag,dj,dj]
theorem Lets.app(a:Lets x)(b:Lets y):Lets (x++y):=λc h=>by
 rw[uh]at h;rcases aaX.mp h with h|h
 ·exact a c h
 ·exact b c h
theorem Lets.cut(a:Lets x)(e:y.cps.toList=fI x.cps.toList lo hi):Lets y:=λc h=>by
 rw[e]at h;exact a c (acG (acF h))
theorem mj(e:y.cps.toList=fI x.cps.toList lo hi):y.length≤x.length:=by
 rw[←dj,←dj,e];exact iF _ _ _
theorem ng{n:Int}(h:0≤n)(e:y.cps.toList=fI x.cps.toList none (some n)):y.length=min n.toNat x.length:=by
 rw[←dj,e];unfold fI;have e1:HT.de x.cps.toList.length x.cps.toList.length (some n)=min n.toNat x.cps.toList.length:=by
  show(if n<0 then _ else min n.toNat _)=_
  rw[aaz (by lia)]
 rw[e1,HT.mJ,abC,aa4,dj];lia
theorem Az(h:(x.cps.toList.all λc=>decide (97≤c)&&decide (c≤122))=true):Lets x:=λc hc=>by
 have q:=aaK.mp h c hc;simpa using q
theorem Jw(h:(decide (1≤x.length)&&decide (x.length≤8)&&x.cps.toList.all λc=>decide (97≤c)&&decide (c≤122))=true):Nm x:=by
 simp only[aa1,decide_eq_true_eq]at h;exact⟨h.1.1,h.1.2,Az h.2⟩
abbrev JY:Str := "abcdefghijklmnopqrstuvwxyz"
theorem A8:JY.length=26:=by decide +kernel
theorem FZ:Lets JY:=Az (by decide +kernel)
theorem MY(h0:0≤r)(h1:r<26):∃c,kH JY.cps.toList r=some c∧97≤c∧c≤122:=by
 have hl:JY.cps.toList.length=26:=by rw[dj,A8]
 have hk:r.toNat<JY.cps.toList.length:=by lia
 have e:r=((r.toNat:Nat):Int):=by lia
 have q:kH JY.cps.toList ((r.toNat:Nat):Int)=some JY.cps.toList[r.toNat]:=cA (by rw[aac hk]<;>rfl)
 rw[←e]at q;exact⟨_,q,FZ _ (abp hk)⟩
theorem jC{α:Type}{xs:List α}(h0:0≤r)(h1:r<xs.length):∃x,kH xs r=some x∧x∈xs:=by
 have hk:r.toNat<xs.length:=by lia
 have e:r=((r.toNat:Nat):Int):=by lia
 have q:kH xs ((r.toNat:Nat):Int)=some xs[r.toNat]:=cA (by rw[aac hk]<;>rfl)
 rw[←e]at q;exact⟨_,q,abp hk⟩
theorem sub_len{α:Type}[BEq α][LawfulBEq α]:∀{l m:List α},l.Nodup→(∀x∈l,x∈m)→l.length≤m.length
 |[],m,_,_=>aaE _
 |x::r,m,nd,h=>by
  have hx:=h x aa5;have e:=List.length_erase_of_mem hx;have V7:=abe.mp nd;have ih:=sub_len (l:=r) (m:=m.erase x) V7.2 λy hy=>by
   exact(List.mem_erase_of_ne ?_).mpr (h y (aaJ _ hy));rintro rfl;exact V7.1 hy
  have:0<m.length:=List.length_pos_of_mem hx;rw[aap];lia
abbrev cB:List Str:=["z","y","x","w","v","u","t"]
theorem DA:cB.Nodup:=by decide +kernel
theorem Dz:∀z∈cB,Nm z:=by
 intro z hz;simp only[aah,aao,abg]at hz;rcases hz with rfl|rfl|rfl|rfl|rfl|rfl|rfl<;>exact Jw (by decide +kernel)
theorem wZ{x:Str}:∀{ss:List Str},Ge (.str x) (ss.map V.str)=decide (x∈ss)
 |[]=>by simp[Ge]
 |y::r=>by
  have ih:=wZ (x:=x) (ss:=r);unfold Ge at ih ⊢;rw[aam,ab7,ih];show(y==x||decide (x∈r))=decide (x∈y::r)
  rw[ab6];simp only[Bool.or_eq_true,acJ,decide_eq_true_eq,aah];constructor
  ·rintro(h|h)
   ·exact .inl h.symm
   ·exact .inr h
  ·rintro(h|h)
   ·exact .inl h.symm
   ·exact .inr h
theorem BW(ss:List Str):(ss.map V.str).all eK=true:=by
 rw[aaK];intro x hx;let⟨z,_,rfl⟩:=aay.mp hx;rfl
theorem zo{z:Str}{ss:List Str}(hz:Nm z)(h6:ss.length≤6):∃y r,((z::cB).filter λx=>!decide (x∈ss))=y::r∧Nm y∧y∉ss:=by
 cases e:((z::cB).filter λx=>!decide (x∈ss))with
 |nil=>
  exfalso
  have h:∀x∈cB,x∈ss:=λx hx=>by
   have q:=List.filter_eq_nil_iff.mp e x (aaJ _ hx);simpa using q
  have:=sub_len DA h;simp at this;lia
 |cons y r=>
  have hy:y∈((z::cB).filter λx=>!decide (x∈ss)):=by rw[e];exact aa5
  let⟨h1,h2⟩:=ad8.mp hy;exact Ψ2 y r ⟨rfl,?_,by simpa using h2⟩;rcases aah.mp h1 with rfl|h1
  ·exact hz
  ·exact Dz y h1
abbrev CG:List Str:=["num","text","row","rec","pick","none","low","told"]
theorem CF:∀z∈CG,Nm z:=by
 intro z hz;simp only[aah,aao,abg]at hz;rcases hz with rfl|rfl|rfl|rfl|rfl|rfl|rfl|rfl<;>exact Jw (by decide +kernel)
end Tg
set_option maxHeartbeats 1000000
namespace L2
open PySem PySem.Spec PyProof.Rows PySem.W
variable {h base:Heap}{C b f a:Addr}{JV:List Value}{newId:String}{H H1:Hp}{pins:ad}{σ:St}{s1 s:Shared}{o:Obj}{P:Program}{w:World}{mg:ac}{x qual n:Str}{N ps:List Str}{k j:Nat}{sp:Sp}{A:Around}{pos np:Pos}{X:Cx}{t:TA}
theorem Ip{K:Frag}(X:K.In h)(q:excIn K C JV newId=true):
  ∃bm N nm q bs hdct sn sub ab col dd k0 k1 k2 k3 k5 mN,h.get? C=some (excClassObj nm q C N bs bm hdct sn sub ab col dd k0 k1 k2 k3 k5 newId)∧h.Ns N mN∧mN "__init__" = none∧OwnTail h JV bm:=by
 unfold excIn at q;split at q
 ·rename_i dd cd sl ho
  split at q
  ·rename_i C' bm k0 k1 k2 k3 n k5 hm hs
   simp only[aa1,acJ,Bool.not_eq_true']at q;let⟨⟨⟨⟨⟨rfl,rfl⟩,Qs⟩,ht⟩,bp⟩,RH⟩:=q;obtain⟨nm,bs,mro,ns,qn,hd,sn,sub,ab,col,del⟩:=cd;dsimp only at hm Qs bp RH;subst hm Qs;have JB:sl=#[k0,k1,k2,k3,some (.builtin n),k5]:=by
    obtain⟨l⟩:=sl;simp only at hs;rw[hs]
   subst JB;exact⟨bm,ns,nm,qn,bs,hd,sn,sub,ab,col,dd,k0,k1,k2,k3,k5,_,X _ _ ho,.of_isNs (isNs_of_in X bp),nsMap_none_of_in X bp RH,tail_of_in X ht⟩
  ·cases q
 ·cases q
structure Sd(fs:List Addr)(H H':Hp)(h B h':Heap):Prop where
 keep:∀b o,h.get? b=some o→H b=none→b∉fs→B.get? b=some o
 slot:∀b o,h.get? b=some o→H b=none→b∈fs→∃sl,h'.get? b=some {o with slots:=sl}
 free:∀b o,h.get? b=some o→H b=none→H' b=none
 there:∀b o,h.get? b=some o→b∉fs→∃o',B.get? b=some o'
 gc:∀b xs,H b=some (.tup xs)→H' b=some (.tup xs)
 fW:∀b o u,H b=some (.frz o u)→H' b=some (.frz o u)
 fL:∀b ps,H b=some (.tbl ps)→∃more,H' b=some (.tbl (ps++more))
theorem Sd.un{fs:List Addr}{H':Hp}{B h':Heap}(u:Sd fs H H' h B h')(st:B.StaysIn h')(hf:∀b∈fs,H b=none):Un fs [] H H' h h':=
 ⟨λb o e n hb _=>st b o (u.keep b o e n hb),λb o e n hb _=>u.slot b o e n hb,λb o e n _=>u.free b o e n,λb o e _=>by
  by_cases hb:b∈fs
  ·let⟨sl,q⟩:=u.slot b o e (hf b hb) hb
   exact⟨_,q⟩
  ·let⟨o',q⟩:=u.there b o e hb
   exact⟨o',st b o' q⟩,u.gc,u.fW,u.fL⟩
def qf(P:Program)(w:World):x8:=λouter H s E e s'=>∃(x:Addr) (C a0:Value) (H':Hp) (B:Heap),e=.ref x∧s'.os=s.os∧AllBare s'.gens∧
 Heap.FlyingW B outer x C a0 s'.heap∧jJ P w H' B∧Sd (me outer) H H' s.heap B s'.heap∧E C none H'
def Raises(X:Cx)(E:XK):Prop:=∀(pins:ad) (σ:St) (H:Hp) (s:Shared) (h':Heap) (x:Addr) (C:Value) (vs:List Value),Inv X pins σ H s→Heap.MadeExcOf s.heap h' x C vs→E C none H→X.xe (.ref x) {s with heap:=h'}
section
variable {B zg:String}{dy:Pos}{e₀:Expr}{rest:List Expr}{E:XK}
def KC(E:XK)(C:Addr)(t:TA):TS:=λ_ σ H=>t σ H λvs H1=>vs.length≤sizeLine∧E (.ref C) none H1
theorem D6(hc:X.calm=true)(hg:Gl X x)(hm:X.mg x=some (.ref C))(hx:excIn X.K C JV newId=true)(FB:ExcBaseFacts B newId zg JV)(ha:PA X (e₀::rest) t)(hE:Raises X E)
  (hd:(x ==("__debug__" : Str))=false:=by decide) (he:starEach (e₀::rest) X.env=(false,eval e₀ X.env)::starEach rest X.env:=by rfl) (i9:(backTo dy (starEach rest X.env)).any (·.1)=false:=by rfl) :
  PS X (.Raise (some (.Call (.Name x np) (e₀::rest) [] dy)) none pos) (KC E C t):=by
 exact .mk ?_;intro pins s σ H D I h;obtain⟨bm,N,nm,q,bs,hdct,sn,sub,ab,col,dd,k0,k1,k2,k3,k5,mN,hC,hN,RH,T⟩:=Ip I.mod.PX hx;exact wpAny_Raise_call_subT (C:=C) (nm:=nm) (q:=q) (N:=N) (bs:=bs) (bm:=bm) (hdct:=hdct) (sn:=sn) (sub:=sub) (ab:=ab) (col:=col) (dd:=dd) (k0:=k0) (k1:=k1) (k2:=k2) (k3:=k3) (k5:=k5)
  FB (mN:=mN) (T.hasType FB.hasBase) (I.ok.hd hc) (by rw[he];show(false||(backTo dy (starEach rest X.env)).any (·.1))=false;rw[i9];rfl) RH (mY I hg hm ⟨rfl,?_⟩ hd)
 have hA:=ha dy pins s σ H _ I h;rw[he]at hA ⊢;exact adR (bD hA λus s2 ξ=>Ξ24 ξ λvs H1 I1 r1 hz q1=>?_);exact⟨rfl,by rw[←r1.length];exact hz,I1.bk _ _ hC,hN.keeps I1.bk,T.keeps I1.bk,λh' e hM=>hE pins σ H1 s2 h' e _ _ I1 hM q1⟩
end
section
variable {K:W.Frag}{scope:Scope}{cd:Value}{outer:List Env}{E:XK}
abbrev Gn(P:Program)(w:World)(K:W.Frag)(mg:ac)(base:Heap)(N:List Str)(qual:Str)(scope:Scope)(f:Addr)(cd:Value)(A:Around)(outer:List Env)(s:Shared)(H:Hp)(E:XK):Cx:=
 sT (qf P w) P w K mg base N qual scope f cd A outer s H E
theorem eV(I:Inv (Gn P w K mg base N qual scope f cd A outer s H E) pins σ H1 s1)(e:s.heap.get? b=some o)(hb:b∉me outer):
  b∉me (envOfC qual scope s.heap.objs.size f cd::outer):=λhm=>by
 rcases aah.mp (I.uo b hm)with z|z
 ·exact absurd (aak e) (by rw[z];exact abo _)
 ·exact hb z
theorem mh(I:Inv (Gn P w K mg base N qual scope f cd A outer s H E) pins σ H1 s1)(e:s.heap.get? b=some o)(hb:b∈me outer):∀vs,o.data≠.fields vs:=by
 let⟨_,⟨o',m6,Ik⟩⟩:=I.ok.ku.mem hb;have e':s.heap.get? b=some o':=m6;rw[e]at e';cases e';exact Ik
theorem cN:Raises (Gn P w K mg base N qual scope f cd A outer s H E) E:=by
 intro pins σ H1 s1 h' x C vs I M hE;show wpAny (model P w) (A.deeper (envOfC qual scope s.heap.objs.size f cd)) (leaving (envOfC qual scope s.heap.objs.size f cd) (.ref x)) (λ_ nO=>qf P w outer H s E (.ref x) nO) (λe' nO=>qf P w outer H s E e' nO) {s1 with heap:=h'}
 have RK:∀zt∈envOfC qual scope s.heap.objs.size f cd::outer,∀a,zt.frame=some a→a∈me (envOfC qual scope s.heap.objs.size f cd::outer):=λzt he a ha=>abm.mpr ⟨zt,he,ha⟩;exact wpAny_leaves_madeW (base:=hideAll s1.heap (me (envOfC qual scope s.heap.objs.size f cd::outer))) (h:=s1.heap) I.ok.frames rfl (λb o q=>of_hideAll _ q) (funFrames_hide I.stack RK) M λh2 t x1 x2 x3 x4=>?_;have nf:∀b u,H1 b=some u→b∉me (envOfC qual scope s.heap.objs.size f cd::outer):=λb u q hm=>by
  have z:=I.p4 b hm;rw[q]at z;cases z
 exact Ψ5 x C (.ref t) H1 _ ⟨rfl,I.os,I.bare,x1,λa o q=>?_,⟨λb o q n hb=>?_,λb o q n hb=>?_,λb o q n=>?_,λb o q hb=>?_,I.base.gc,I.base.fW,I.base.fL⟩,hE⟩
 ·exact(I.bp a o q).fM (λb u hb z=>hideAll_get _ z ?_) (λ_ z=>z) λ_ _ z=>z
  rcases hb with rfl|hb
  ·exact nf _ _ q
  ·exact nf _ _ hb
 ·exact hideAll_get _ (I.base.keep b o q n hb (by exact aao)) (eV I q hb)
 ·let⟨sl,z⟩:=I.base.slot b o q n hb (by exact aao)
  let⟨F7,z2⟩:=x4 b _ (M.keeps _ _ z) (have fd:=mh I q hb;λvs=>fd vs);exact⟨F7,z2⟩
 ·exact I.base.free b o q n (by exact aao)
 ·let⟨o',z⟩:=I.base.there b o q (by exact aao)
  exact⟨o',hideAll_get _ z (eV I q hb)⟩
theorem fH:Passes (qf P w) (Gn P w K mg base N qual scope f cd A outer s H E) E:=by
 intro pins σ H1 s1 e s2 I h;let⟨x,C,a0,H',B,rfl,os,bare,fl,bp,u,hE⟩:=h;show wpAny (model P w) (A.deeper (envOfC qual scope s.heap.objs.size f cd)) (leaving (envOfC qual scope s.heap.objs.size f cd) (.ref x)) (λ_ nO=>qf P w outer H s E (.ref x) nO) (λe' nO=>qf P w outer H s E e' nO) s2
 exact wpAny_leaves_onW I.ok.frames rfl fl λh2 f2 up=>?_;exact Ψ5 x C a0 H' B ⟨rfl,os.trans I.os,bare,f2,bp,⟨λb o q n hb=>?_,λb o q n hb=>?_,λb o q n=>?_,λb o q hb=>?_,λb xs q=>u.gc b xs (I.base.gc b xs q),λb o v q=>u.fW b o v (I.base.fW b o v q),λb ps q=>?_⟩,hE⟩
 ·exact u.keep b o (I.base.keep b o q n hb (by exact aao)) (I.base.free b o q n (by exact aao)) (eV I q hb)
 ·let⟨sl,z⟩:=I.base.slot b o q n hb (by exact aao)
  have hm:b∈me (envOfC qual scope s.heap.objs.size f cd::outer):=by
   let⟨zt,he,ha⟩:=abm.mp hb;exact abm.mpr ⟨zt,aaJ _ he,ha⟩
  let⟨F7,z2⟩:=u.slot b _ z (I.base.free b o q n (by exact aao)) hm;let⟨OW,z3⟩:=up b _ z2 (have fd:=mh I q hb;λvs=>fd vs);exact⟨OW,z3⟩
 ·let⟨o',z⟩:=I.base.there b o q (by exact aao)
  exact u.free b o' z (I.base.free b o q n (by exact aao))
 ·let⟨o',z⟩:=I.base.there b o q (by exact aao)
  exact u.there b o' z (eV I q hb)
 ·let⟨m1,z1⟩:=I.base.fL b ps q
  let⟨m2,z2⟩:=u.fL b _ z1;exact⟨m1++m2,by rw[z2,acZ]⟩
theorem Hn:PassesOwn (model P w) (Gn P w K mg base N qual scope f cd A outer s H E).A (Gn P w K mg base N qual scope f cd A outer s H E).env (Gn P w K mg base N qual scope f cd A outer s H E).xe:=PassesOwn.leaving
end
theorem dP.Yb{K:W.Frag}{st:Stmt}{fd:FuncData}(F:dP K x qual st f fd)(S:aF N ps (av st))(len:∀vs H Q E,sp vs H Q E→vs.length=ps.length)
  (i3:∀(cy:Value) (A:Around) (outer:List Env) (s:Shared) (H:Hp) (vs:List V) (Q:VK) (E:XK),dO k (A.deeper (envOfC qual (av st) s.heap.objs.size f cy))→sp vs H Q E→
   ∃t,kI (Gn P w K mg base N qual (av st) f cy A outer s H E) (c9 st) t∧t {nx:=λ_ H'=>Q .non H',rt:=Q} (start N vs) H):bq P w K mg base (qf P w) (k+1) f fd ps sp:=by
 let⟨oc,od,kV,doc,pm,an,cy,ct,yQ,rfl,lk,pO⟩:=F.ex;exact Fo lk pO S len λA outer s H vs Q E hr uV=>i3 cy A outer s H vs Q E hr uV
def vA(P:Program)(w:World)(K:W.Frag)(mg:ac)(base:Heap)(x:Str)(k:Nat)(ps:List Str)(sp:Sp):Prop:=
 ∃f fd,bq P w K mg base (qf P w) k f fd ps sp∧mg x=some (.ref f)∧W.keepIn K (.ref f)=true∧Binds K fd ps []
theorem bS.got{o:HO}(x:bS P w H h a o):∃u,h.get? a=some u:=by
 cases o with
 |lst xs=>let⟨_,⟨_,_,_,e⟩⟩:=x;exact⟨_,e⟩
 |tup xs=>let⟨_,⟨_,_,⟨o,e,_⟩⟩⟩:=x;exact⟨_,e⟩
 |dK aN=>let⟨_,_,⟨_,_,⟨o,_,_,e,_⟩⟩⟩:=x;exact⟨_,e⟩
 |dT aN=>let⟨_,_,⟨_,_,⟨o,_,_,e,_⟩⟩⟩:=x;exact⟨_,e⟩
 |set S n=>let⟨o,_,_,_,e,_⟩:=x;exact⟨_,e⟩
 |ins C dx fs=>let⟨_,_,_,e,_⟩:=x;exact⟨_,e⟩
 |own y=>exact x
 |xd fs=>let⟨_,⟨_,_,_,e,_⟩,_⟩:=x;exact⟨_,e⟩
 |rng lo hi=>let⟨_,_,_,e⟩:=x;exact⟨_,e⟩
 |frz ob u=>let⟨e,_⟩:=x;exact⟨_,e⟩
 |tbl ps=>exact⟨_,(show h.get? a=some _ from x)⟩
 |met f y=>exact⟨_,(show h.get? a=some _ from x)⟩
 |ext φ=>let⟨_,e,_⟩:=x;exact e
def excAt(x:Addr)(C:Value):Heap→Prop:=λh=>∃ob,h.get? x=some ob∧ob.cls=C
section
theorem Inv.NQ{φ:Heap→Prop}(I:Inv X pins σ H s)(hn:H a=none)(h0:∀b o,X.s₀.heap.get? b=some o→b∉X.ex→b≠a)(hL:a≠X.env.locals)(hC:∀x c,X.env.cells.lookup x=some c→c≠a)
  (hp:∀p∈X.pn++pins,p.1≠a) (new:bS X.prog X.w (upd H a (.ext φ)) s.heap a (.ext φ)):Inv X pins σ (upd H a (.ext φ)) s where
 ok:=I.ok
 os:=I.os
 bare:=I.bare
 base:=⟨I.base.keep,I.base.slot,λb o e n hx=>by rw[ao (h0 b o e hx)];exact I.base.free b o e n hx,I.base.there,
  λb xs q=>by have z:=I.base.gc b xs q;rw[ao (au z hn)];exact z,λb o u q=>by have z:=I.base.fW b o u q;rw[ao (au z hn)];exact z,
  λb ps q=>by let⟨m,z⟩:=I.base.fL b ps q;exact⟨m,by rw[ao (au z hn)];exact z⟩⟩
 loc:=I.loc
 cell:=I.cell
 free:=by rw[ao hL.symm];exact I.free
 fh:=λx c e=>by rw[ao (hC x c e)];exact I.fh x c e
 pin:=λp xc=>by
  let⟨a1,a2,a3⟩:=I.pin p xc;exact⟨a1,by rw[ao (hp p xc)];exact a2,a3⟩
 bp:=λb o e=>by
  by_cases hb:b=a
  ·subst hb;rw[ar]at e;cases e;exact new
  ·rw[ao hb]at e
   exact(I.bp b o e).fM (λ_ _ _ q=>q) (λc q=>by rw[ao (au q hn)];exact q) λc xs q=>by rw[ao (au q hn)];exact q
 len:=I.len
abbrev Cx.tr(X:Cx)(E':xz)(pn:ad):Cx:={X with xe:=E',pn:=pn}
abbrev Cx.su(X:Cx)(x:Addr):Cx:={X with A:=X.A.mark (some (.ref x)),calm:=false,xe:=λ_ _=>False}
theorem Cx.Ok.tr(ok:X.Ok)(E':xz)(pn:ad):(X.tr E' pn).Ok:=
 ⟨ok.mod,ok.kind,ok.glob,ok.blt,ok.above,ok.inj,ok.has,ok.IE,ok.hd,ok.frames,ok.Jc,ok.Gm,ok.bs,ok.Cw,ok.uP,ok.pQ,ok.ku,ok.Fm⟩
theorem Cx.Ok.su(ok:X.Ok)(x:Addr):(X.su x).Ok:=
 ⟨ok.mod,ok.kind,ok.glob,ok.blt,ok.above,ok.inj,ok.has,ok.IE,(λz=>absurd (show false=true from z) (by decide)),ok.frames,ok.Jc,ok.Gm,ok.bs,ok.Cw,ok.uP,ok.pQ,ok.ku,ok.Fm⟩
theorem Inv.tr(I:Inv X pins σ H s)(E':xz):Inv (X.tr E' (X.pn++pins)) [] σ H s:=
 ⟨I.ok.tr E' _,I.os,I.bare,I.base,I.loc,I.cell,I.free,I.fh,λp hp=>I.pin p (by simpa using hp),I.bp,I.len⟩
theorem Inv.CZ{E':xz}{qM:ad}(ok:X.Ok)(I:Inv (X.tr E' (X.pn++pins)) qM σ H s):Inv X pins σ H s:=
 ⟨ok,I.os,I.bare,I.base,I.loc,I.cell,I.free,I.fh,λp hp=>I.pin p (adC _ hp),I.bp,I.len⟩
theorem Inv.su(I:Inv X pins σ H s)(x:Addr):Inv (X.su x) pins σ H s:=⟨I.ok.su x,I.os,I.bare,I.base,I.loc,I.cell,I.free,I.fh,I.pin,I.bp,I.len⟩
theorem Inv.Gv{x:Addr}(ok:X.Ok)(I:Inv (X.su x) pins σ H s):Inv X pins σ H s:=⟨ok,I.os,I.bare,I.base,I.loc,I.cell,I.free,I.fh,I.pin,I.bp,I.len⟩
theorem p9{M:Model}{E:xz}{Q:Unit→Shared→Prop}(I:Inv X pins σ H s)(hN:X.N.Nodup)(hi:X.N[j]?=some n)(hk:X.env.scope.names.lookup n=some .local)
  (h:∀s',Inv X pins (σ.set j none) H s'→Q () s'):wpAny M A (do bindName X.env n .none;unbindBehindTheSuite X.env n pos) Q E s:=by
 let⟨m,hn,hl⟩:=id I.loc;have sQ:(X.env.scope.kind == .class||(X.env.scope.kind == .module&&X.env.locals != X.env.globals))=false:=by rw[I.ok.kind];rfl
 have Y2:j<σ.length:=by rw[I.len];exact(aat.mp hi).1
 exact wpAny_nameGoes_keeps hk hn sQ λh' v Qj hs=>h _ ?_;have nL:∀b o,X.s₀.heap.get? b=some o→b≠X.env.locals:=λb o e=>aaw (aau (aak e) I.ok.above);exact⟨I.ok,I.os,I.bare,⟨λb o e n' hb hx=>(hs.2 b (nL b o e)).trans (I.base.keep b o e n' hb hx),λb o e n' hb hx=>?_,I.base.free,λb o e hx=>?_,I.base.gc,I.base.fW,I.base.fL⟩,⟨_,Qj,λi y v' e1 e2 e3=>?_⟩,λy c e=>?_,I.free,I.fh,λp hp=>?_,λb ob e=>?_,by simpa using I.len⟩
 ·let⟨sl,e1⟩:=I.base.slot b o e n' hb hx
  exact⟨sl,(hs.2 b (nL b o e)).trans e1⟩
 ·let⟨o',e1⟩:=I.base.there b o e hx
  exact⟨o',(hs.2 b (nL b o e)).trans e1⟩
 ·by_cases hj:i=j
  ·subst hj
   rw[acv Y2]at e2;cases e2
  ·rw[abO (abM hj)]at e2
   let⟨u',r',q⟩:=hl i y v' e1 e2 e3;exact⟨u',r',?_⟩;rcases q with⟨k,e⟩|⟨k,c,e,z⟩
   ·exact .inl ⟨k,?_⟩
    have ny:y≠n:=λe=>hj (qW hN e1 (e ▸ hi));simp[ny,e]
   ·exact .inr ⟨k,c,e,z.sameBut hs (I.Iw y c e)⟩
 ·let⟨w',z⟩:=I.cell y c e
  exact⟨w',z.sameBut hs (I.Iw y c e)⟩
 ·let⟨e,n',ne,nf,d⟩:=I.pin p hp
  exact⟨(hs.2 p.1 ne).trans e,n',ne,nf,d⟩
 ·exact(I.bp b ob e).fM (λc w' hc q=>(hs.2 c ?_).trans q) (λ_ q=>q) λ_ _ q=>q
  rintro rfl;rcases hc with z|z
  ·rw[←z,I.free]at e;cases e
  ·rw[I.free]at z;cases z
end
section
variable {body jN:List Stmt}{b₀:Stmt}{y:Str}{xb:Pos}{Cy:Addr}{tb:(St→XK)→TS}{ts:TS}
def J5(K:W.Frag)(Cy:Addr)(j:Nat)(ts:TS)(D:Ends):St→XK:=λσ C _ H'=>exmOne K C (.ref Cy)=some true∧∀x,H' x=none→
 ts {nx:=λσ2 H2=>D.nx (σ2.set j none) H2,rt:=D.rt,bk:=λσ2 H2=>D.bk (σ2.set j none) H2,ct:=λσ2 H2=>D.ct (σ2.set j none) H2} (σ.set j (some (.ref x))) (upd H' x (.ext (excAt x C)))
def SY(K:W.Frag)(Cy:Addr)(j:Nat)(tb:(St→XK)→TS)(ts:TS):TS:=λD σ H=>tb (J5 K Cy j ts D) D σ H
def QM(X:Cx)(pins:ad)(D:Ends)(hs:List ExceptHandler):xz:=λe s₁=>
 wpAny (model X.prog X.w) X.A (noteFrame e X.env) (λ_ s₂=>wpAny (model X.prog X.w) X.A (setFlight e none) (λ_ s₃=>wpAny (model X.prog X.w) X.A (handleBy e X.env hs) (SP X pins D) X.xe s₃) X.xe s₂) X.xe s₁
theorem FN{D:Ends}(ok:X.Ok)(kN:X.stack=X.env::X.outer)(Ff:X.env.frame=some X.env.locals)(hy:Gl X y)(Qk:X.mg y=some (.ref Cy))(hN:X.N.Nodup)(hj:X.N[j]?=some n)(hl:X.env.scope.names.lookup n=some .local)
  (hs:∀x,kI (X.su x) (b₀::jN) ts) (hd:(y ==("__debug__" : Str))=false) {σ1:St}   {e:Value} {s2:Shared} (J1:Inv X pins σ1 H1 s1) (UR:qf X.prog X.w X.stack H1 s1 (J5 X.K Cy j ts D σ1) e s2) :
  QM X pins D [.ExceptHandler (some (.Name y np)) (some n) (b₀::jN) xb] e s2:=by
 let⟨x,C,a0,H',B,rfl,os,bare,fl,bp,u,hm,hw⟩:=UR;have UN:X.A.frames=some (X.env::X.outer):=by rw[←kN];exact ok.frames
 have nV:Heap.FlyingW B (X.env::X.outer) x C a0 s2.heap:=by rw[←kN];exact fl
 have data:∀b∈me X.stack,∀o,s1.heap.get? b=some o→∀vs,o.data≠.fields vs:=λb hb o q=>by
  let⟨_,⟨o',m6,Ik⟩⟩:=J1.stack.mem hb;rw[q]at m6;cases m6;exact Ik
 have Wa:∀h5:Heap,B.StaysIn h5→s2.heap.UpToSlots h5→Inv X pins σ1 H' {s2 with heap:=h5}:=λh5 st up=>by
  have u5:Sd (me X.stack) H1 H' s1.heap B h5:=⟨u.keep,λb o q n' hb=>by
   let⟨sl,z⟩:=u.slot b o q n' hb;let⟨F7,z2⟩:=up b _ z (have dd:=data b hb o q;λvs=>dd vs);exact⟨F7,z2⟩,u.free,u.there,u.gc,u.fW,u.fL⟩
  exact J1.JR (s':={s2 with heap:=h5}) (ch:=[]) os (u5.un st J1.p4) (bp.kept st) bare (λb hb=>nomatch hb)
 have Wv:B.get? x=none:=nV.2.1;have Hx:H' x=none:=by
  cases q:H' x with
  |none=>rfl
  |some o=>
   let⟨z,hz⟩:=(bp x o q).got;rw[Wv]at hz;cases hz
 exact wpAny_looks_onW UN Ff nV λh4 Qq VD=>?_;exact wpAny_landsW Qq λh5 nU VC=>?_;have RB:∀o,s1.heap.get? x=some o→False:=λo q=>by
  by_cases JC:x∈me X.stack
  ·rw[kN]at JC
   let⟨_,⟨o',m6,Ik⟩⟩:=nU.2.2.1.mem JC;let⟨oe,vs,_,_,_,he,_,UQ,_⟩:=nU.2.2.2;rw[m6]at he;cases he;exact Ik vs UQ
  ·let⟨o',z⟩:=u.there x o q JC
   rw[Wv]at z;cases z
 have I5:=Wa h5 nU.1 (VD.trans VC);let⟨ob,Mi,Mg⟩:=nU.there;have LT:Looks (model X.prog X.w) h5 (typeOf (.ref x)) C:=by rw[←Mg];exact(Looks.ld Mi).andThen .now
 exact wpAny_handleBy_cons (codeAny_handlers_test (mY (X:=X.su x) (I5.su x) hy Qk ?_ hd)) (by intro q;cases q);exact(exm_one I5.rn LT hm).here ?_;exact codeAny_handlers_suite_as ?_;exact lands_againW nU λh6 t5 Xq=>?_;have I6:=Wa h6 t5.1 ((VD.trans VC).trans Xq);let⟨V0,Qf,UD⟩:=t5.there;have It:Inv X pins σ1 (upd H' x (.ext (excAt x C))) {s2 with heap:=h6}:=by
  exact I6.NQ Hx (λb o q YD z=>?_) (λz=>?_) (λx' c q z=>?_) (λp hp z=>?_) ⟨⟨V0,Qf,UD⟩,⟨V0,Qf⟩,λh1 h2 ξ=>Ξ12 ξ λo a b k=>⟨o,k o a,b⟩⟩
  ·subst z
   let⟨o',z⟩:=J1.base.there _ o q YD;exact RB o' z
  ·let⟨m,⟨o,_,_,ho,_⟩,_⟩:=J1.loc
   rw[←z]at ho;exact RB o ho
  ·let⟨v,o,ho,_⟩:=J1.cell x' c q
   rw[z]at ho;exact RB o ho
  ·have q:=(J1.pin p hp).1
   rw[z]at q;exact RB _ q
 exact mF (X:=X.su x) (v:=.ref x) (It.su x) hN hj (.inl hl) rfl (λs7 I7=>?_) (.inr hl);exact aaB ((hs x).run pins s7 _ _ _ I7 (hw x Hx)) (λf s8 q=>?_) (λ_ _ z=>z.elim);cases f with
 |next=>obtain⟨σ2,H2,I8,q⟩:=q;exact p9 (Inv.Gv ok I8) hN hj hl λs9 I9=>Ψ2 _ _ ⟨I9,q⟩
 |brk=>obtain⟨σ2,H2,I8,q⟩:=q;exact p9 (Inv.Gv ok I8) hN hj hl λs9 I9=>Ψ2 _ _ ⟨I9,q⟩
 |cont=>obtain⟨σ2,H2,I8,q⟩:=q;exact p9 (Inv.Gv ok I8) hN hj hl λs9 I9=>Ψ2 _ _ ⟨I9,q⟩
 |ret v=>obtain⟨v',σ2,H2,I8,r,q⟩:=q;exact p9 (Inv.Gv ok I8) hN hj hl λs9 I9=>Ψ3 v' _ _ ⟨I9,r,q⟩
theorem Lq(kN:X.stack=X.env::X.outer)(Ff:X.env.frame=some X.env.locals)(hy:Gl X y)(Qk:X.mg y=some (.ref Cy))(hN:X.N.Nodup)(hj:X.N[j]?=some n)(hl:X.env.scope.names.lookup n=some .local)
  (hb:∀(E':xz) (pn:ad) (W:St→XK),(∀pins σ H s e s',Inv (X.tr E' pn) pins σ H s→qf X.prog X.w X.stack H s (W σ) e s'→E' e s')→kI (X.tr E' pn) body (tb W))
  (hs:∀x,kI (X.su x) (b₀::jN) ts) (hd:(y ==("__debug__" : Str))=false:=by decide) :
  PS X (.Try body [.ExceptHandler (some (.Name y np)) (some n) (b₀::jN) xb] [] [] pos) (SY X.K Cy j tb ts):=by
 exact .mk ?_;intro pins s σ H D I h;have ok:=I.ok;exact wpAny_Try_except ?_;have fin:=(hb (QM X pins D [.ExceptHandler (some (.Name y np)) (some n) (b₀::jN) xb]) (X.pn++pins) (J5 X.K Cy j ts D) (λqM σ1 H1 s1 e s2 J UR=>FN ok kN Ff hy Qk hN hj hl hs hd (Inv.CZ ok J) UR)).run [] s σ H D (I.tr _) h;exact aaB fin (λf s1 q=>?_) λe s1 q=>q;cases f with
 |next=>
  obtain⟨σ',H',I',q⟩:=q;exact adJ ⟨σ',H',Inv.CZ ok I',q⟩
 |brk=>obtain⟨σ',H',I',q⟩:=q;exact Ψ2 σ' H' ⟨Inv.CZ ok I',q⟩
 |cont=>obtain⟨σ',H',I',q⟩:=q;exact Ψ2 σ' H' ⟨Inv.CZ ok I',q⟩
 |ret v=>obtain⟨v',σ',H',I',r,q⟩:=q;exact Ψ3 v' σ' H' ⟨Inv.CZ ok I',r,q⟩
end
section
variable {p:Pos}{e:Expr}{es:List Expr}{W:St→XK}
def KG(sp:Sp)(W:St→XK)(t:TA):TE:=λσ H Q=>t σ H λvs H1=>sp vs H1 Q (W σ)
def nF(X:Cx)(W:St→XK):Prop:=∀(pins:ad) (σ:St) (H:Hp) (s:Shared) (e:Value) (s':Shared),Inv X pins σ H s→qf X.prog X.w X.stack H s (W σ) e s'→X.xe e s'
theorem Ei(c:vA X.prog X.w X.K X.mg X.base x k ps sp)(hr:dO j X.A)(hk:k≤j)(hg:Gl X x)(hx:nF X W)(ha:PA X (e::es) t)(xf:(x ==("__debug__" : Str))=false:=by decide)
  (he:starEach (e::es) X.env=(false,eval e X.env)::starEach es X.env:=by rfl) (i9:(backTo pos (starEach es X.env)).any (·.1)=false:=by rfl):PE X (.Call (.Name x p) (e::es) [] pos) (KG sp W t):=by
 exact .mk ?_;let⟨f,fd,F,m,kp,b⟩:=c;intro pins s σ H Q I h;exact abQ (mY I hg m ?_ xf);exact PySem.W.callWith_K (h₀:=X.base) I.ok.mod.PX kp (bD (ha pos pins s σ H _ I h) λus s1 ξ=>Ξ23 ξ λvs H1 I1 r q=>⟨I1.rn,?_⟩) he i9;have hl:us.length=ps.length:=by rw[←r.length];exact F.len _ _ _ _ q
 have hb:=b s1 us I1.rn (by rw[aax];exact hl);rw[aax]at hb;exact aeg (adK (F.run X.A X.stack s1 H1 ⟨us,[]⟩ us vs Q (W σ) (hr.mono hk) I1.MJ hb r q) λr' s' hq=>?_);cases r' with
 |error e=>exact hx pins σ H1 s1 e s' I1 hq
 |ok fl=>
  cases fl with
  |ret u=>exact I1.after hq
  |next=>exact False.elim hq
  |brk=>exact False.elim hq
  |cont=>exact False.elim hq
end
end L2
namespace L2
open PySem PySem.Spec PyProof.Rows
variable {xs:List V}{us:List Value}{prog:Program}{w:World}{A:Around}{E Q:xz}{s:Shared}{sl t:Addr}{vs:Value}{bs:List Bool}
theorem rF{α β:Type}{f g:α→Option β}:∀{l:List α},(∀x∈l,f x=g x)→l.filterMap f=l.filterMap g
 |[],_=>rfl
 |x::r,h=>by rw[acj,acj,h x aa5,rF λy hy=>h y (aaJ _ hy)]
section
variable {X:Cx}
def Bd(i j:Int):Prop:=0<j∧j<2^200
theorem Bd.TU{i j:Int}(h:Bd i j):Builtin.divisionGoesByPylong i j=false:=by
 exact PyProof.noPylong_of_log2 ?_;have h1:j.natAbs<2^200:=by have:=h.1;have:=h.2;lia
 have h2:j.natAbs≠0:=by have:=h.1;lia
 have:=(Nat.log2_lt h2).mpr h1;lia
theorem qT:ja X (binaryOp .FloorDiv) (rI Bd λi j=>.int (i/j)):=Nd λi j _ _ _ _ _ hc q=>by
 have h1:(0:Int)<j:=hc.1;exact floordiv_int (by lia) (by rw[aee i (by lia)];exact q) (.inl hc.TU)
def Vp(X:Cx)(r:V→Hp→VK→Prop):Prop:=
 ∀pins s σ H (x:V) (v vs:Value) (sl:Addr) (Q:VK),Inv X pins σ H s→RelV x v→s.heap.IsSliceOf sl .none .none vs→IsPart vs (some (-1))→r x H Q→
  ∃T id,typeLookup (.type T) "__getitem__" = pure (some (.builtin id))∧s.TypeIs v T∧wpAny (model X.prog X.w) X.A (getItem v (.ref sl)) (EP X pins σ Q) X.xe s
theorem Ec{r:V→Hp→VK→Prop}{e st:Expr}{te ts:TE}{p2 pos:Pos}(hr:Vp X r)(he:PE X e te)(hs:PE X st ts):
  PE X (.Subscript e (.Slice none none (some st) p2) pos) (λσ H Q=>te σ H λx H1=>ts σ H1 λy H2=>y=.int (-1)∧r x H2 Q):=by
 exact .mk ?_;intro pins s σ H Q I h;exact Subscript_ (bD (he pins s σ H _ I h) λv s1 ξ=>Ξ23 ξ λx H1 I1 r1 q1=>?_);exact wpAny_Slice ?_;rw[evalPart_none];exact aad ?_;exact aad ?_;rw[evalPart_some];exact bD (hs pins s1 σ H1 _ I1 q1) λvs s2 ξ=>Ξ23 ξ λy H2 I2 r2 q2=>?_;let⟨rfl,q3⟩:=q2;let⟨t,rfl⟩:=r2;have I4:Inv X pins σ H2 {s2 with heap:=s2.heap.push {cls:=.type "slice",data:=.fields #[.none,.none,.int (-1) t]}}:=I2.kept (t':=s2.toks) λb ob q=>aab _ q;let⟨T,id,hT,ht,hg⟩:=hr pins {s2 with heap:=s2.heap.push {cls:=.type "slice",data:=.fields #[.none,.none,.int (-1) t]}} σ H2 x v _ s2.heap.objs.size Q I4 r1 (Heap.IsSliceOf.new ..) (.int (-1) t) q3;show wpAny (model X.prog X.w) X.A (subscriptTail e (.Slice none none (some st) p2) v (.ref s2.heap.objs.size)) (EP X pins σ Q) X.xe {s2 with heap:=s2.heap.push {cls:=.type "slice",data:=.fields #[.none,.none,.int (-1) t]}}
 exact tail_any (ops:=[v,.ref s2.heap.objs.size]) ht hT hg (by with_unfolding_all rfl)
theorem wa(its:List Value):((List.range its.length).map λk=>its.length-1-k).filterMap (its.toArray[·]?)=its.reverse:=by
 apply acx
 intro i;have e:((List.range its.length).map λk=>its.length-1-k).filterMap (its.toArray[·]?)=(List.range its.length).map λk=>its.getD (its.length-1-k) .none:=by
  rw[adM];rw[←List.filterMap_eq_map];apply rF
  intro k hk;have BS:k<its.length:=abZ.mp hk;show its.toArray[its.length-1-k]?=some (its.getD (its.length-1-k) .none)
  have h2:its.length-1-k<its.length:=by lia
  simp[List.getD,aac h2]
 rw[e,aaC];by_cases h:i<its.length
 ·rw[List.getElem?_range h,List.getElem?_reverse h]
  have h2:its.length-1-i<its.length:=by lia
  simp[List.getD,aac h2]
 ·rw[aaH (by simpa using h),aaH (by simpa using h)]
  rfl
theorem sj(its:List Value):slicePick its.toArray none none (some (-1))=its.reverse.toArray:=by
 unfold slicePick;have e:sliceRange (sliceBounds none none (some (-1)) its.toArray.size).1 (sliceBounds none none (some (-1)) its.toArray.size).2.1 (sliceBounds none none (some (-1)) its.toArray.size).2.2=(List.range its.length).map λk=>its.length-1-k:=picked_rev its.length;rw[e,wa]
theorem Vals.rev(r:Vals xs us):Vals xs.reverse us.reverse:=by
 induction r with
 |nil=>exact .nil
 |cons r1 r2 ih=>
  rw[ac6,ac6];exact ih.append (.cons r1 .nil)
def Pe(K:W.Frag):V→Hp→VK→Prop:=λx H Q=>∃a xs,x=.ref a∧eh K H a xs∧∀p,H p=none→Q (.ref p) (upd H p (.lst xs.reverse))
theorem GR:Vp X (Pe X.K):=by
 intro pins s σ H x v vs sl Q I rx hs ps h;let⟨a,xs,rfl,hx,q⟩:=h;cases rx;let⟨its,r,ht,hz⟩:=I.list hx;have hlen:=r.length;exact Ψ2 ("list") _ ⟨slot_list_getitem.lookup,ht.isList.typeIs,?_⟩;exact wpAny_getItem_list_slice ht.isList hs .none .none ps (by decide) ?_ (by rw[aai]<;>lia)
 rw[sj];exact Ψ2 (.ref s.heap.objs.size) _ ⟨I.laid (t':=s.toks) (o:=.lst xs.reverse) (λb ob q=>aab _ q) (aan _) ?_,rfl,q _ (I.bp.fresh (aan _))⟩;exact⟨by rw[abT];exact hz,_,0,Vals.rev r,aaq _ rfl⟩
def Pd(K:W.Frag):V→Hp→VK→Prop:=λx H Q=>∃a xs,x=.ref a∧cW K H a xs∧∀p,H p=none→Q (.ref p) (upd H p (.tup xs.reverse))
theorem og{n:Nat}{Q:Int×Int×Nat→Shared→Prop}(hs:s.heap.IsSliceOf sl .none .none vs)(ps:IsPart vs (some (-1)))
  (h:Q ((n:Int)-1,-1,n) s):wpAny (model prog w) A (Builtin.Slice.sliceApplied (.ref sl) (pure (n:Int))) Q E s:=by
 let⟨os,BQ,Mt,Gi⟩:=id hs;unfold Builtin.Slice.sliceApplied Builtin.Slice.sliceFields;exact aaa (aaa (aaO BQ Gi (x:=.none) rfl (aaa (aaO BQ Gi (x:=.none) rfl (aaa (aaO BQ Gi (x:=vs) rfl (aad ?_)))))));exact aaa (HT.lF ps ?_);show wpAny _ _ (if((-1:Int)==0)=true then _ else _) _ _ s
 rw[aaz (by decide)];exact aaa (aei (aaa (aei (aaa (aad ?_)))));show wpAny _ _ (match Builtin.Slice.sliceAdjust none none (-1) (n:Int)with|(lo,hi)=>pure (lo,(-1:Int),Builtin.Slice.slicePlaces lo hi (-1))) _ _ s
 have e:Builtin.Slice.sliceAdjust none none (-1) (n:Int)=((n:Int)-1,-1):=rfl;rw[e];show wpAny _ _ (pure ((n:Int)-1,(-1:Int),Builtin.Slice.slicePlaces ((n:Int)-1) (-1) (-1))) _ _ s
 have e2:Builtin.Slice.slicePlaces ((n:Int)-1) (-1) (-1)=n:=by
  unfold Builtin.Slice.slicePlaces;have h1:¬((-1:Int)>0):=by lia
  have h3:(-(-1):Int)=1:=rfl;simp only[h1,ac9,h3,adU];split<;>lia
 rw[e2];exact aad h
theorem m7{its:List Value}(ht:IsTup s.heap t its.toArray)(hs:s.heap.IsSliceOf sl .none .none vs)(ps:IsPart vs (some (-1)))
  (h:Q (.ref s.heap.objs.size) {s with heap:=s.heap.push {cls:=.type "tuple",data:=.seq its.reverse.toArray}})
  (hsz:its.length≤sizeLine):wpAny (model prog w) A (getItem (.ref t) (.ref sl)) Q E s:=by
 have m4:sizeOk (.seq its.reverse.toArray):=by
  show its.reverse.toArray.size≤sizeLine
  rw[aai,abT];exact hsz
 let⟨os,BQ,Mt,Gi⟩:=id hs;have Qx:s.TypeIs (.ref sl) "slice" :=⟨os,BQ,Mt⟩;unfold getItem
 try with_reducible exact aaR ?_
 first|refine aaa (aad ?_)|skip
 exact aaa (aef ht.typeIs (by decide) ?_);exact aaa (aaV (name:=Str.ofString "__getitem__") ht.typeIs aaP
  (abj aaP ht.typeIs entry_tuple_getitem ?_ (args_tuple_getitem _ _)))
 show wpAny _ _ (Builtin.Tuple.tupleItemsOf (.ref t) >>= _) _ _ s
 exact aaa (tupleItemsOf_ ht ?_);exact aaa (adf Qx ?_);rw[aaA (by decide)];exact aaa (og hs ps ?_);have Qg:¬(((((its.toArray.size:Nat):Int)-1)==0&&(-1:Int)==1&&its.toArray.size==its.toArray.size)=true):=by
  have:((-1:Int)==1)=false:=rfl;rw[this,Bool.and_false,abN];exact aal
 show wpAny _ _ (if((((its.toArray.size:Nat):Int)-1)==0&&(-1:Int)==1&&its.toArray.size==its.toArray.size)=true then _ else _) _ _ s
 rw[aaz Qg];have e:((List.range its.toArray.size).filterMap λ(m:Nat)=>its.toArray[((((its.toArray.size:Nat):Int)-1)+(m:Int)*(-1)).toNat]?).toArray=its.reverse.toArray:=by
  rw[←wa its,adM,aai];congr 1
  apply rF
  intro k hk;have BS:k<its.length:=abZ.mp hk;have e1:(((its.length:Nat):Int)-1+(k:Int)*(-1)).toNat=its.length-1-k:=by lia
  show its.toArray[(((its.length:Nat):Int)-1+(k:Int)*(-1)).toNat]?=its.toArray[its.length-1-k]?
  rw[e1]
 rw[e];first
  |exact aaa (m:=Builtin.Tuple.tupleExact _) (aaL (aad ⟨_,rfl,aad h⟩) m4)
  |exact aaa (m:=Builtin.Tuple.tupleExact _) (aaL (aaa (aad (aad ⟨_,rfl,aad h⟩))) m4)
  |exact aaa (aaa (m:=Builtin.Tuple.tupleExact _) (aaL (aad (aad ⟨_,rfl,aad h⟩)) m4))
  |exact aaa (aaa (m:=Builtin.Tuple.tupleExact _) (aaL (aad ⟨_,rfl,aad h⟩) m4))
theorem K9:Vp X (Pd X.K):=by
 intro pins s σ H x v vs sl Q I rx hs ps h;let⟨a,xs,rfl,hx,q⟩:=h;cases rx;let⟨its,r,ht,hz⟩:=I.tuple hx;have hlen:=r.length;exact Ψ2 ("tuple") _ ⟨aaP.lookup,ht.typeIs,?_⟩;exact m7 ht hs ps ?_ (by lia);exact Ψ2 (.ref s.heap.objs.size) _ ⟨I.laid (t':=s.toks) (o:=.tup xs.reverse) (λb ob q=>aab _ q) (aan _) ?_,rfl,q _ (I.bp.fresh (aan _))⟩;exact⟨by rw[abT];exact hz,_,Vals.rev r,IsTup.new _ _⟩
theorem FX:∀{us:List Value},Vals (bs.map V.bl) us→us=bs.map Value.bool:=by
 induction bs with
 |nil=>intro us r;rw[abJ]at r;cases r;rfl
 |cons n ns ih=>
  intro us r;rw[aam]at r;cases r with
  |cons r1 r2=>
   rw[ih r2];cases r1;rfl
theorem range_all:(List.range bs.length).all (λi=>bs.getD i true)=bs.all id:=by
 rw[ab6,aaK,aaK];constructor
 ·intro h b hb
  obtain⟨i,hi,rfl⟩:=abD hb;have:=h i (abZ.mpr hi);simpa[List.getD,aac hi]using this
 ·intro h i hi
  have Mp:=abZ.mp hi;have:=h bs[i] (abp Mp);simpa[List.getD,aac Mp]using this
theorem HZ{o₀:Obj}{h':Heap}(hk:∀b o,b∉[s.heap.objs.size]→(s.heap.push o₀).get? b=some o→h'.get? b=some o):∀b o,s.heap.get? b=some o→h'.get? b=some o:=λb o e=>by
 exact hk b o (λhm=>?_) (aab _ e);exact absurd ((aav.mp hm) ▸ aak e) (abo _)
theorem Cd(hc:X.calm=true):hZ X (.builtin "all") (λxs H Q=>∃(p:Addr) (bs:List Bool),xs=[.ref p]∧eh X.K H p (bs.map V.bl)∧Q (.bl (bs.all id)) H):=by
 intro pins s σ H xs us Q I r h;let⟨p,bs,rfl,hq,q⟩:=h;let⟨u,rfl,ru⟩:=vals1 r;cases ru;let⟨its,rv,pl,hz⟩:=I.list hq;have eb:=FX rv;have hl:s.heap.IsList p its.toArray:=pl.isList;have cG:p<s.heap.objs.size:=by let⟨_,e,_⟩:=hl;exact aak e
 exact call_all_walk (wpAny_pyIter_list hl ?_);exact Ψ7 s.heap.objs.size _ _ _ _ _ (λi=>bs.getD i true) ⟨rfl,Walks.list (prog:=X.prog) (w:=X.w) (A:=X.A.in1) (I.ok.hd hc) s.heap.objs.size p (aaw cG) its.toArray,⟨⟨_,aaq _ rfl,rfl,rfl⟩,hl.push _⟩,?_,?_⟩
 ·intro i v s' Q' E' hP hQ
  have e:v=.bool (bs.getD i true):=by
   rw[eb]at hP;simp only[acA,aaC,ado]at hP;let⟨b,hb,rfl⟩:=hP;simp[List.getD,hb]
  rw[e];exact abG hQ
 ·intro h' tk hk
  exact Ψ2 (.bl (bs.all id)) H ⟨I.kept (HZ hk),?_,q⟩;have e2:its.toArray.size=bs.length:=by rw[eb];simp
  rw[e2,range_all];rfl
theorem Vals.at(r:Vals xs us):∀{j:Nat} (h:j<us.length),RelV (xs.getD j .non) us[j]:=by
 induction r with
 |nil=>intro j h;exact absurd h (ads _)
 |cons r1 r2 ih=>
  intro j h;cases j with
  |zero=>exact r1
  |succ j=>exact ih (Nat.lt_of_succ_lt_succ h)
theorem AM(h:xs.all eK=true)(j:Nat):eK (xs.getD j .non)=true:=by
 by_cases hj:j<xs.length
 ·simp only[List.getD,aac hj,Option.getD_some]
  exact aaK.mp h _ (abp hj)
 ·rw[List.getD,aaH (Nat.le_of_not_lt hj)]
  rfl
theorem t4(ns:List Int):(ns.map V.int).all eK=true:=by
 rw[aaK];intro v hv;let⟨i,_,rfl⟩:=aay.mp hv;rfl
theorem kP{items:Array Value}{vl vu:Value}{lo hi:Option Int}(ht:IsTup s.heap t items)(hs:s.heap.IsSliceOf sl vl vu .none)(pl:IsPart vl lo)(pu:IsPart vu hi)
  (h0:HT.de items.size 0 lo=0) (h1:HT.de items.size items.size hi=items.size) (h:Q (.ref t) s):wpAny (model prog w) A (getItem (.ref t) (.ref sl)) Q E s:=by
 let⟨os,BQ,Mt,Gi⟩:=id hs;have Qx:s.TypeIs (.ref sl) "slice" :=⟨os,BQ,Mt⟩;unfold getItem
 try with_reducible exact aaR ?_
 first|refine aaa (aad ?_)|skip
 exact aaa (aef ht.typeIs (by decide) ?_);exact aaa (aaV (name:=Str.ofString "__getitem__") ht.typeIs aaP
  (abj aaP ht.typeIs entry_tuple_getitem ?_ (args_tuple_getitem _ _)))
 show wpAny _ _ (Builtin.Tuple.tupleItemsOf (.ref t) >>= _) _ _ s
 exact aaa (tupleItemsOf_ ht ?_);exact aaa (adf Qx ?_);rw[aaA (by decide)];exact aaa (HT.iT hs pl pu ?_);have Um:((((HT.de items.size 0 lo:Nat):Int)==0&&(1:Int)==1&&(HT.de items.size items.size hi-HT.de items.size 0 lo)==items.size)=true):=by
  rw[h0,h1];simp
 show wpAny _ _ (if(((HT.de items.size 0 lo:Nat):Int)==0&&(1:Int)==1&&(HT.de items.size items.size hi-HT.de items.size 0 lo)==items.size)=true then _ else _) _ _ s
 rw[aaA Um];unfold Builtin.Tuple.tupleIsExact;exact aaa (aaa (adf ht.typeIs ?_));exact aad ?_;rw[aaA (by decide)];exact aaa (acu ?_);exact aad ⟨_,rfl,aad h⟩
def Tv(K:W.Frag):V→Option Int→Option Int→Hp→VK→Prop:=λx lo hi H Q=>∃a xs,x=.ref a∧cW K H a xs∧
 ((HT.de xs.length 0 lo=0∧HT.de xs.length xs.length hi=xs.length)→Q (.ref a) H)∧(¬(HT.de xs.length 0 lo=0∧HT.de xs.length xs.length hi=xs.length)→∀p,H p=none→Q (.ref p) (upd H p (.tup (vc xs lo hi))))
theorem GN:NG X (Tv X.K):=by
 intro pins s σ H x v vl vu lo hi sl Q I rx hs pl pu h;let⟨a,xs,rfl,hx,q1,q2⟩:=h;by_cases hw:HT.de xs.length 0 lo=0∧HT.de xs.length xs.length hi=xs.length
 ·cases rx
  let⟨its,r,ht,hz⟩:=I.tuple hx;have hlen:its.toArray.size=xs.length:=by rw[aai];exact r.length.symm
  exact Ψ2 ("tuple") _ ⟨aaP.lookup,ht.typeIs,?_⟩;exact kP ht hs pl pu (by rw[hlen];exact hw.1) (by rw[hlen];exact hw.2) ⟨.ref a,H,I,rfl,q1 hw⟩
 ·exact K5 pins s σ H _ v vl vu lo hi sl Q I rx hs pl pu ⟨a,xs,rfl,hx,hw,q2 hw⟩
end
end L2
namespace Tg
def mi:Nat→Int→List Int
 |0,_=>[]
 |k+1,n=>n%65536::mi k (n/65536)
def val:List Int→Int
 |[]=>0
 |d::ds=>d+65536*val ds
theorem rH:∀{k:Nat} {n d:Int},d∈mi k n→0≤d∧d<65536
 |k+1,n,d,h=>by
  rcases aah.mp h with rfl|h
  ·exact⟨ab4 _ (by decide),abK _ (by decide)⟩
  ·exact rH h
theorem vO:∀(k:Nat) (n:Int),val (mi k n)=n%65536^k
 |0,n=>by show(0:Int)=n%1;lia
 |k+1,n=>by
  show n%65536+65536*val (mi k (n/65536))=_
  rw[vO k,abz,acY (65536^k) 65536];have h1:=adz n 65536;have h2:=adz (n/65536) (65536^k);have h3:=adz n (65536*65536^k);have h4:n/(65536*65536^k)=n/65536/65536^k:=by rw[Int.ediv_ediv,aaz (λh=>absurd h.1 (by decide)),Int.sub_zero]
  rw[h4,Int.mul_assoc]at h3;have h5:65536*(n/65536)=65536*(n/65536%65536^k)+65536*(65536^k*(n/65536/65536^k)):=by rw[←Int.mul_add,h2]
  lia
theorem j3(k:Nat):(0:Int)<65536^k:=Int.pow_pos (by decide)
theorem IK{k:Nat}{n:Int}(h1:-(65536^k)≤2*n)(h2:2*n<65536^k):(if 2*val (mi k n) ≥ 65536^k then val (mi k n)-65536^k else val (mi k n))=n:=by
 rw[vO];have hp:=j3 k;by_cases h:0≤n
 ·rw[Int.emod_eq_of_lt h (by lia),aaz (by lia)]
 ·have e:n%65536^k=n+65536^k:=by
   rw[←Int.add_emod_right,Int.emod_eq_of_lt (by lia) (by lia)]
  rw[e,aaA (by lia)];lia
end Tg
namespace L2
open PySem PySem.Spec PyProof.Rows
variable {pos:Pos}{ss:List Str}{t' i kk:Nat}{ch:List Addr}{a j u z p r j1 j2 u1 u2:Addr}{P prog:Program}{w:World}{K:W.Frag}{tg:Expr}{vs ws:Array Value}{Q E:xz}{h':Heap}{b:Value}{elts:List Expr}{A:Around}{s:Shared}{X:Cx}
section
def Pk:R2:=λx y H Q=>∃a b xs ys,x=.ref a∧y=.ref b∧H a=some (.tup xs)∧H b=some (.tup ys)∧xs.length+ys.length≤sizeLine∧∀c H',Kp [] H H'→H' c=some (.tup (xs++ys))→Q (.ref c) H'
theorem Hz:ja X (binaryOp .Add) Pk:=by
 intro pins s σ H x y v u Q I rx ry h;let⟨a,b,xs,ys,rfl,rfl,ha,hb,hz,q⟩:=h;by_cases e:xs=[]
 ·subst e
  cases rx;cases ry;let⟨its,r1,p1,z1⟩:=I.tuple (cW.of (K:=X.K) ha);let⟨ik,r2,p2,z2⟩:=I.tuple (cW.of (K:=X.K) hb);cases r1;obtain⟨⟨cls,dd,data,sl⟩,ho,hc,n,hd⟩:=id p1;obtain⟨⟨Vj,R8,data2,F7⟩,Mj,Qt,n2,hd2⟩:=id p2;simp only at hc hd Qt hd2;subst hc hd Qt hd2;exact concat_meets ⟨_,ho,rfl⟩ ⟨_,Mj,rfl⟩ aej seq_tuple_add adn adb (ac3 _ _)
   (tuple_addW0 a b [].toArray ik.toArray n n2 dd R8 sl F7 rfl) ⟨ho,Mj,Ψ2 (.ref b) H ⟨I,rfl,q b H (Kp.refl _) hb⟩⟩
 ·exact Hy pins s σ H _ _ v u Q I rx ry ⟨a,b,xs,ys,rfl,rfl,cW.of ha,cW.of hb,e,hz,λz=>by subst z;exact q a H (Kp.refl _) (by rw[aax];exact ha),λ_ p hp=>q p _ (Kp.new hp _) ar⟩
def Tu:V→Option Int→Option Int→Hp→VK→Prop:=λx lo hi H Q=>∃a xs,x=.ref a∧H a=some (.tup xs)∧∀c H',Kp [] H H'→H' c=some (.tup (vc xs lo hi))→Q (.ref c) H'
theorem GL:NG X Tu:=by
 intro pins s σ H x v vl vu lo hi sl Q I rx hs pl pu h;let⟨a,xs,rfl,ha,q⟩:=h;exact GN pins s σ H _ v vl vu lo hi sl Q I rx hs pl pu ⟨a,xs,rfl,cW.of ha,λz=>q a H (Kp.refl _) ?_,λ_ p hp=>q p _ (Kp.new hp _) ar⟩;unfold vc;rw[z.1,z.2,abC,adT,adk];exact ha
theorem zH:∀(ns ms:List Int),ns.length=ms.length→(List.range ns.length).all (λj=>kQ ((ns.map V.int).getD j .non) ((ms.map V.int).getD j .non))=decide (ns=ms):=by
 intro ns ms hl;rw[ab6,aaK,acS];constructor
 ·intro h
  apply adY hl
  intro i h1 h2;have:=h i (abZ.mpr h1);simpa[List.getD,aac h1,aac h2,kQ]using this
 ·rintro rfl j hj
  have h1:=abZ.mp hj;simp[List.getD,aac h1,kQ]
theorem Hw(hu:X.A.units<cLine):ja X (compareOp .Eq) (λx y H Q=>∃(a b:Addr) (ns ms:List Int),x=.ref a∧y=.ref b∧H a=some (.lst (ns.map V.int))∧H b=some (.lst (ms.map V.int))∧Q (.bl (decide (ns=ms))) H):=by
 intro pins s σ H x y v u Q I rx ry h;let⟨a,b,ns,ms,rfl,rfl,ha,hb,q⟩:=h;cases rx;cases ry;let⟨its,rv,pl,hz⟩:=I.list (eh.of (K:=X.K) ha);let⟨ik,oq,kK,Gf⟩:=I.list (eh.of (K:=X.K) hb);have l1:=rv.length;have l2:=oq.length;rw[aae]at l1 l2;by_cases e:ns.length=ms.length
 ·exact SeqAt.eq_listAt (e:=λj=>kQ ((ns.map V.int).getD j .non) ((ms.map V.int).getD j .non)) pl.isList kK.isList (by rw[aai,aai];lia) hu (λj h1 h2=>?_) ⟨.bl (decide (ns=ms)),H,I,?_,q⟩
  ·exact oP (Vals.at rv (by simpa using h1)) (Vals.at oq (by simpa using h2)) (AM (t4 ns) j) (AM (t4 ms) j)
  ·rw[aai,←l1,zH ns ms e]
   rfl
 ·exact SeqAt.eq_list_lengthsAt pl.isList kK.isList (by rw[aai,aai,←l1,←l2];simpa using e) hu ⟨.bl (decide (ns=ms)),H,I,?_,q⟩
  rw[aa2 (λz=>e (by rw[z]))];rfl
def OH:TE:=λ_ H Q=>∀p,H p=none→Q (.ref p) (upd H p (.dK []))
theorem Hh:PE X (.Dict [] [] pos) OH:=by
 exact .mk ?_;intro pins s σ H Q I h;exact wpAny_Dict_empty ⟨.ref s.heap.objs.size,_,I.laid (a:=s.heap.objs.size) (o:=.dK []) (t':=s.toks) (λ_ _ q=>aab _ q) (aan _) ?_,rfl,h _ (I.bp.fresh (aan _))⟩;have hb:sysModules<s.heap.objs.size:=Nat.lt_trans (by decide) (I.mod.glob.keeps I.bk).lt;exact⟨aaE _,acK.mpr λz=>aaw hb z.symm,[],.nil,Heap.DictOf.new s.heap⟩
theorem mU:fillsNumberSlot (.type "tuple") "mul" = pure false:=
 PySem.fillsNumberSlot_seq (id := "tuple.__mul__") (r:=some (.builtin "tuple.__rmul__")) aeq.lookup (by decide +kernel) F.slot_tuple_rmul.lookup (by decide +kernel)
theorem sG:seqRepeat? (.type "tuple")=pure (some (.builtin "tuple.__mul__")):=by
 unfold seqRepeat?;rw[PySem.seqSlot_of (T := "tuple") (name := "__mul__") (id := "tuple.__mul__") aeq.lookup (by decide +kernel),PySem.seqSlot_of (T := "tuple") (name := "__rmul__") (id := "tuple.__rmul__") F.slot_tuple_rmul.lookup (by decide +kernel)];rfl
theorem qJ(a:Int)(t:Tok)(l:Addr)(its:Array Value)(n:Nat)(dd:Option Addr)(sl:Array (Option Value)):
  Meets (Builtin.«int.__rmul__» ⟨[.int a t,.ref l],[]⟩) (λ_ R s=>s.heap.get? l=some {cls:=.type "tuple",dict:=dd,data:=.seq its n,slots:=sl}∧R (.ok (.ret Value.notImplemented)) s):=
 .of_wp λprog w A R s h=>by
  obtain⟨hp,g,d,tk,os⟩:=s;obtain⟨hl,h⟩:=h;wp_walk;exact⟨_,rfl,h⟩
theorem JJ(its:List Value):∀(n:Nat) (acc:Array Value),(List.replicate n its.toArray).foldl (· ++ ·) acc=(acc.toList++(List.replicate n its).flatten).toArray
 |0,acc=>by simp
 |n+1,acc=>by
  rw[abx,aea,JJ its n,abx,aaQ,adI,acy]
theorem Bk(l:Addr)(its:List Value)(n:Nat)(dd:Option Addr)(sl:Array (Option Value))(k:Int)(t:Tok)(h1:0≤k)(h2:k≤1000)(hz:its.length≤1000):
  Meets (Builtin.«tuple.__mul__» ⟨[.ref l,.int k t],[]⟩) (λ_ R s=>s.heap.get? l=some {cls:=.type "tuple",dict:=dd,data:=.seq its.toArray n,slots:=sl}∧
   ((its=[]∨k=1)→R (.ok (.ret (.ref l))) s)∧(¬(its=[]∨k=1)→R (.ok (.ret (.ref s.heap.objs.size))) {s with heap:=s.heap.push {cls:=.type "tuple",data:=.seq (List.replicate k.toNat its).flatten.toArray}})):=by
 intro prog w A R s ⟨hl,q1,q2⟩;have ht:IsTup s.heap l its.toArray:=⟨_,hl,rfl,n,rfl⟩;show wpAny _ _ (asIndex (.int k t) >>= _) _ _ s
 exact aaa (abh (a:=k) rfl ?_);show wpAny _ _ (if(decide (k < -(2^63))||decide (k ≥ 2^63))=true then _ else _) _ _ s
 rw[aaz (by rw[aa2 (by lia),aa2 (by lia)];exact aal)];exact aaa (tupleItemsOf_ ht ?_);by_cases c:its=[]∨k=1
 ·rw[aaA (by rw[Bool.or_eq_true];exact c.imp (λc=>by rw[c];rfl) (λc=>by rw[c];rfl))]
  unfold Builtin.Tuple.tupleIsExact;exact aaa (aaa (adf ht.typeIs ?_));exact aad ?_;rw[aaA (by decide)];exact aaa (acu ?_);exact aad (q1 c)
 ·have c1:¬its=[]:=λz=>c (.inl z)
  have c2:¬k=1:=λz=>c (.inr z);have c3:its.toArray.isEmpty=false:=by simpa using c1
  rw[aaz (by rw[c3,Bool.false_or,acJ];exact c2)];show wpAny _ _ (if(decide (k≤0)||its.toArray.isEmpty)=true then _ else _) _ _ s
  have q:=q2 c;by_cases k0:k≤0
  ·rw[aaA (by rw[aaM k0];rfl)]
   have e:(List.replicate k.toNat its).flatten.toArray=(#[]:Array Value):=by
    have:k.toNat=0:=by lia
    rw[this];rfl
   rw[e]at q;exact aaa (m:=Builtin.Tuple.tupleExact _) ?_;exact aaL (aad q) (by show 0≤sizeLine;exact aaE _)
  ·rw[aaz (by rw[aa2 k0,c3];exact aal)]
   have hm:its.length*k.toNat≤1000*1000:=ace hz (by lia);have hs:(1000*1000:Nat)≤sizeLine:=by decide
   have hp:((its.toArray.size:Nat):Int)*k=((its.length*k.toNat:Nat):Int):=by
    rw[aai]
    push_cast
    congr 1
    lia
   show wpAny _ _ (if((its.toArray.size:Nat):Int)*k>(2^63-1)/8 then _ else _) _ _ s
   rw[aaz (by rw[hp];lia)];show wpAny _ _ (if Builtin.Tuple.tupleTooMany (((its.toArray.size:Nat):Int)*k)=true then _ else _) _ _ s
   rw[aaz (by unfold Builtin.Tuple.tupleTooMany;rw[hp,aa2 (by lia)];exact aal)];have e:List.foldl (λx1 x2=>x1++x2) #[] (List.replicate k.toNat its.toArray)=(List.replicate k.toNat its).flatten.toArray:=by
    have:=JJ its k.toNat #[];simpa using this
   show wpAny _ _ (Builtin.Tuple.tupleExact (List.foldl (λx1 x2=>x1++x2) #[] (List.replicate k.toNat its.toArray)) >>= _) _ _ s
   rw[e];exact aaa (m:=Builtin.Tuple.tupleExact _) ?_;exact aaL (aad q) ?_;show(List.replicate k.toNat its).flatten.toArray.size≤sizeLine
   rw[aai,len_rep,Nat.mul_comm];lia
theorem Ht:ja X (binaryOp .Mult) (λx y H Q=>∃a k xs,x=.ref a∧y=.int k∧H a=some (.tup xs)∧0≤k∧k≤1000∧xs.length≤1000∧∀c H',Kp [] H H'→H' c=some (.tup (List.replicate k.toNat xs).flatten)→Q (.ref c) H'):=by
 intro pins s σ H x y v u Q I rx ry h;let⟨a,k,xs,rfl,rfl,ha,k1,k2,hz,q⟩:=h;cases rx;let⟨t,rfl⟩:=ry;let⟨its,r,p,z⟩:=I.tuple (cW.of (K:=X.K) ha);obtain⟨⟨cls,dd,data,sl⟩,ho,hc,n,hd⟩:=id p;simp only at hc hd;subst hc hd;have hl:=r.length;exact wpAny_binaryOp_repeat_ref (T := "tuple") (U := "int") (by decide) ⟨_,ho,rfl⟩ (λs'=>typeIs_int s' k t) mU F.fills_int_mul F.slot_int_rmul sG F.slot_int_index.lookup
  (adp F.slot_int_rmul (typeIs_int s k t) F.entry_int_rmul (F.args_int_rmul_2 _ _) (qJ k t a its.toArray n dd sl)
   ⟨ho,rfl,⟨_,ho,rfl⟩,adp aeq ⟨_,ho,rfl⟩ F.entry_tuple_mul (F.args_tuple_mul_2 _ _) (Bk a its n dd sl k t k1 k2 (by lia)) ⟨ho,λc=>?_,λc=>?_⟩⟩)
 ·exact Ψ2 (.ref a) H ⟨I,rfl,q a H (Kp.refl _) ?_⟩
  have e:(List.replicate k.toNat xs).flatten=xs:=by
   rcases c with c|c
   ·have:xs=[]:=by cases r with|nil=>rfl|cons _ _=>cases c
    rw[this];simp
   ·rw[c];simp
  rw[e];exact ha
 ·exact Ψ2 (.ref s.heap.objs.size) _ ⟨I.laid (t':=s.toks) (o:=.tup (List.replicate k.toNat xs).flatten) (λb ob q=>aab _ q) (aan _) ?_,rfl,q _ _ (Kp.new (I.bp.fresh (aan _)) _) ar⟩
  exact⟨?_,_,r.rep k.toNat,IsTup.new _ _⟩;rw[len_rep];have hm:k.toNat*xs.length≤1000*1000:=ace (by lia) hz;have hs:(1000*1000:Nat)≤sizeLine:=by decide
  lia
theorem yq:∀{us:List Value},Vals (ss.map V.str) us→∃l:List (Str×Tok),us=strValues l∧l.map (·.1)=ss:=by
 induction ss with
 |nil=>intro us r;rw[abJ]at r;cases r;exact⟨[],rfl,rfl⟩
 |cons x r ih=>
  intro us rv;rw[aam]at rv;cases rv with
  |cons r1 r2=>
   let⟨t,rfl⟩:=r1;let⟨l,rfl,e⟩:=ih r2;exact⟨(x,t)::l,rfl,by rw[aam,e]⟩
def vh(ss:List Str):Str:=⟨(ss.map (·.cps.toList)).flatten.toArray⟩
theorem xt:∀(ss:List Str) (x:Array Nat),ss.foldl (λacc (p:Str)=>acc++(Str.empty).cps++p.cps) x=(x.toList++(ss.map (·.cps.toList)).flatten).toArray
 |[],x=>by simp
 |y::r,x=>by
  rw[aea,xt r];simp[Str.empty,adI,acy]
theorem xj:∀ss:List Str,Builtin.Str.glued Str.empty ss=vh ss
 |[]=>rfl
 |y::r=>by
  show(⟨r.foldl (λacc (p:Str)=>acc++(Str.empty).cps++p.cps) y.cps⟩:Str)=_
  rw[xt];rfl
theorem AL(sep:Nat):∀(ss:List Str) (n B:Nat),(∀y∈ss,y.length≤B)→ss.foldl (λa (p:Str)=>a+p.length+sep) n≤n+ss.length*(B+sep)
 |[],n,B,_=>by simp
 |y::r,n,B,h=>by
  rw[aea];have h1:=AL sep r (n+y.length+sep) B λz hz=>h z (aaJ _ hz);have h2:=h y aa5;rw[aap,acU];lia
theorem xu{α:Type}(B:Nat):∀ls:List (List α),(∀l∈ls,l.length≤B)→ls.flatten.length≤ls.length*B
 |[],_=>by simp
 |l::r,h=>by
  rw[aaQ,aag,aap,acU];have h1:=xu B r λz hz=>h z (aaJ _ hz);have h2:=h l aa5;lia
theorem FP{B:Nat}(h:∀y∈ss,y.length≤B):(vh ss).length≤ss.length*B:=by
 show(ss.map (·.cps.toList)).flatten.toArray.size≤_
 rw[aai];have:=xu B (ss.map (·.cps.toList)) λl hl=>by
  let⟨y,hy,rfl⟩:=aay.mp hl;rw[aaY];exact h y hy
 rwa[aae]at this
theorem HQ:Ri X "str.join" (λx vs H Q=>∃(p:Addr) (ss:List Str),x=.str Str.empty∧vs=[.ref p]∧eh X.K H p (ss.map V.str)∧ss.length≤1000∧(∀y∈ss,y.length≤1000)∧Q (.str (vh ss)) H):=by
 intro pins s σ H x vs v us Q I rx rv h;let⟨p,ss,rfl,rfl,hq,l1,l2,q⟩:=h;let⟨t,rfl⟩:=rx;let⟨u,rfl,ru⟩:=rv.one;cases ru;let⟨its,r,pl,hz⟩:=I.list hq;let⟨l,rfl,rfl⟩:=yq r;have hs:(1000*1000:Nat)≤sizeLine:=by decide
 have hlen:(l.map (·.1)).foldl (λa (p:Str)=>a+p.length+(Str.empty).length) 0≤1000*1000:=by
  have h1:=AL (Str.empty).length (l.map (·.1)) 0 1000 l2;have h2:(Str.empty).length=0:=rfl;rw[h2]at h1 ⊢;have h3:(l.map (·.1)).length*(1000+0)≤1000*1000:=ace l1 (by lia);lia
 have hl:Builtin.Str.tooLong ((l.map (·.1)).toArray.foldl (· + ·.length+(Str.empty).length) 0)=false:=by
  unfold Builtin.Str.tooLong;rw[List.foldl_toArray];exact aa2 (by lia)
 exact adp F.slot_str_join (typeIs_str s _ t) F.entry_str_join (F.args_str_join_2 _ _) (meets_str_join_list Str.empty t p l hl) ⟨pl.isList,?_⟩;have fin:∀z:Str,z=vh (l.map (·.1))→Q (.str z) H:=λz e=>by rw[e];exact q
 match l,xj (l.map (·.1)),fin,l1,l2 with
 |[],_,fin,_,_=>exact⟨by decide,.str Str.empty,H,I.tok _,⟨_,rfl⟩,fin _ rfl⟩
 |[y],_,fin,_,_=>exact Ψ2 (.str y.1) H ⟨I,⟨y.2,rfl⟩,fin _ (by simp[vh])⟩
 |y::z::r,e,fin,l1,l2=>
  exact⟨?_,.str (Builtin.Str.glued Str.empty ((y::z::r).map (·.1))),H,I.tok _,⟨_,rfl⟩,fin _ e⟩;show(Builtin.Str.glued Str.empty ((y::z::r).map (·.1))).length≤sizeLine
  rw[e];have h1:=FP (B:=1000) l2;have h2:((y::z::r).map (·.1)).length*1000≤1000*1000:=ace l1 (aan _);lia
end
section
variable {pins:ad}{σ:St}{H:Hp}
theorem Inv.n5{o:HO}(I:Inv X pins σ H s)(k:∀b u,b∉ch→s.heap.get? b=some u→h'.get? b=some u)(hf:∀b∈ch,eG X pins H b)(ha:s.heap.objs.size≤a)
  (new:bS X.prog X.w (upd H a o) h' a o):Inv X pins σ (upd H a o) {s with heap:=h',toks:=t'}:=by
 have hn:H a=none:=I.bp.fresh ha;have ES:∀b u,H b=some u→b∉ch:=λb u e z=>by rw[(hf b z).1]at e;cases e
 exact I.step (g':=s.gens) (d':=s.drawn) (ch:=ch) (λb hb=>?_) (λb o _ _ hc e _=>k b o hc e) (λb o _ _ hc e _=>⟨o.slots,k b o hc e⟩) (λb o _ e n=>?_)
  (λb o hc e=>⟨o,k b o hc e⟩) (λb xs e=>by rw[ao (au e hn)];exact e) (λb u v e=>by rw[ao (au e hn)];exact e) (λb ps e=>⟨#[],by rw[ao (au e hn),e];simp⟩) (λm hm=>?_) (λb u e=>?_) I.bare
 ·let⟨f0,f1,f2,f3,f4,f5⟩:=hf b hb
  exact⟨f3,f1,f4,f5⟩
 ·rw[ao (aaw (aau (aak e) ha))]
  exact n
 ·let⟨o,es,ep,ho,r⟩:=hm
  exact Ψ3 o es ep ⟨k _ o (λz=>(hf _ z).2.1 rfl) ho,r⟩
 ·by_cases hb:b=a
  ·subst hb;rw[ar]at e;cases e;exact new
  ·rw[ao hb]at e
   exact(I.bp b u e).fM (λc v hc q=>k c v ?_ q) (λc q=>by rw[ao (au q hn)];exact q) λc xs q=>by rw[ao (au q hn)];exact q
   rcases hc with z|z
   ·rw[z];exact ES b u e
   ·exact ES c _ z
theorem Inv.n8(I:Inv X pins σ H s)(k:∀b u,b∉ch→s.heap.get? b=some u→h'.get? b=some u)(hf:∀b∈ch,eG X pins H b):Inv X pins σ H {s with heap:=h',toks:=t'}:=by
 have ES:∀b u,H b=some u→b∉ch:=λb u e z=>by rw[(hf b z).1]at e;cases e
 exact I.step (g':=s.gens) (d':=s.drawn) (ch:=ch) (λb hb=>?_) (λb o _ _ hc e _=>k b o hc e) (λb o _ _ hc e _=>⟨o.slots,k b o hc e⟩) (λb o _ e n=>n)
  (λb o hc e=>⟨o,k b o hc e⟩) (λb xs e=>e) (λb u v e=>e) (λb ps e=>⟨#[],by rw[e];simp⟩) (λm hm=>?_) (λb u e=>?_) I.bare
 ·let⟨f0,f1,f2,f3,f4,f5⟩:=hf b hb
  exact⟨f3,f1,f4,f5⟩
 ·let⟨o,es,ep,ho,r⟩:=hm
  exact Ψ3 o es ep ⟨k _ o (λz=>(hf _ z).2.1 rfl) ho,r⟩
 ·exact(I.bp b u e).fM (λc v hc q=>k c v ?_ q) (λ_ q=>q) λ_ _ q=>q
  rcases hc with z|z
  ·rw[z];exact ES b u e
  ·exact ES c _ z
end
def Ji(c:Nat):V:=.str ⟨#[c]⟩
def Sg(x:Str):It:=⟨λi _=>i<x.cps.size,λi H v H'=>H'=H∧∃c,x.cps[i]?=some c∧v=Ji c,λi _=>x.cps.size≤i⟩
theorem Di(it:Addr)(x:Str)(t:Tok)(ty:String)(AG:ty = "str_ascii_iterator" ∨ ty = "str_iterator"):Turn P w K tg (Sg x) [it] it (λi h=>h.IsStrIter it ty x t i) where
 mem:=by simp
 obj:=λi h st b hb=>by
  have e:b=it:=by simpa using hb
  subst e;let⟨o,e,c,d⟩:=st;exact⟨o,e,λv z=>by rw[d]at z;cases z⟩
 keep:=λi h h' st k=>by
  let⟨o,e,r⟩:=st;exact⟨o,k it (by simp) o e,r⟩
 item:=by
  intro X hP hw hK hc i pins s σ H E I hf st hg;subst hP hw hK;let⟨f0,f1,f2,f3,f4,f5⟩:=hf it (by simp);have key:∀v h' tk,SignAt x i v→h'.IsStrIter it ty x t (i+1)→(∀b o,b∉[it]→s.heap.get? b=some o→h'.get? b=some o)→∃u,some v=some u∧
    wpAny (model X.prog X.w) X.A (letOwnedTupleGo tg (.ref it) u) (λ_ s2=>∃y H',Inv X pins σ H' s2∧RelV y u∧(Sg x).nJ i H y H'∧s2.heap.IsStrIter it ty x t (i+1)∧∀b∈[it],H' b=none) E {s with heap:=h',toks:=tk}:=by
   intro v h' tk hv si kk;let⟨c,u,Ct,rfl⟩:=hv;have I1:Inv X pins σ H {s with heap:=h',toks:=tk}:=I.turned (λb o hb e=>kk b o (by simpa using hb) e) f0 f1 f3 f4 f5;let⟨o,e,ec,ed⟩:=id si;exact⟨_,rfl,xi (s:={s with heap:=h',toks:=tk}) e ec ed (by rcases AG with rfl|rfl<;>decide) ⟨Ji c,H,I1,⟨u,rfl⟩,⟨rfl,c,Ct,rfl⟩,si,λb hb=>(hf b hb).1⟩⟩
  rcases AG with rfl|rfl
  ·exact(Walks.strAscii (prog:=X.prog) (w:=X.w) (I.ok.hd hc) it x t).item i s _ _ hg st key
  ·exact(Walks.strWide (prog:=X.prog) (w:=X.w) (I.ok.hd hc) it x t).item i s _ _ hg st key
 done:=by
  intro X hP hw hK hc i pins s σ H E I hf st hg;subst hP hw hK;let⟨f0,f1,f2,f3,f4,f5⟩:=hf it (by simp);have hx:x.cps[i]?=none:=Array.getElem?_eq_none hg;rcases AG with rfl|rfl
  ·exact wpAny_pyNext_ascii_end (I.ok.hd hc) st hx λh' eb=>⟨rfl,I.turned (t':=s.toks) (λb o hb e=>eb b o hb e) f0 f1 f3 f4 f5⟩
  ·exact wpAny_pyNext_wide_end (I.ok.hd hc) st hx λh' eb=>⟨rfl,I.turned (t':=s.toks) (λb o hb e=>eb b o hb e) f0 f1 f3 f4 f5⟩
 self:=λ_ _ _ _ _ st h=>by
  rcases AG with rfl|rfl
  ·exact wpAny_pyIter_striter_ascii st h
  ·exact wpAny_pyIter_striter_wide st h
section
def Uk(tl:TE):TI:=λσ H R=>tl σ H λx H1=>∃z,x=.str z∧R (Sg z) H1
theorem Lz{l:Expr}{tl:TE}(hl:PE X l tl):PI X tg l (Uk tl):=by
 exact .mk ?_;intro pins s σ H R I h;exact bD (hl pins s σ H _ I h) λv s1 ξ=>Ξ23 ξ λx H1 I1 r1 q1=>?_;let⟨z,e,q⟩:=q1;subst e;let⟨t,rfl⟩:=r1;have fin:∀ty:String,(ty = "str_ascii_iterator" ∨ ty = "str_iterator")→Se X pins σ tg R (.ref s1.heap.objs.size) {s1 with heap:=s1.heap.push {cls:=.type ty,data:=.fields #[.str z t,.int 0 0]}}:=by
  intro ty AG;exact Ψ5 s1.heap.objs.size [s1.heap.objs.size] _ _ H1 ⟨rfl,I1.kept (t':=s1.toks) λb o e=>aab _ e,Di s1.heap.objs.size z t ty AG,⟨_,aaq _ rfl,rfl,rfl⟩,λb hb=>?_,q⟩;have e:b=s1.heap.objs.size:=by simpa using hb
  subst e;exact I1.xq (aan _) (I1.bp.fresh (aan _))
 cases ha:z.cps.all (· < 128)
 ·exact wpAny_pyIter_wide ha (fin _ (.inr rfl))
 ·exact wpAny_pyIter_ascii ha (fin _ (.inl rfl))
end
section
theorem gY{v:Value}(hj:s.heap.IsTupleIter j u i)(hu:s.heap.IsTuple u vs)(hv:vs[i]?=some v)
  (q:∀h',h'.IsTupleIter j u (i+1)→Heap.SameBut j s.heap h'→Q v {s with heap:=h'}):wpAny (model prog w) A (Builtin.SmallTypes.nextOf (.ref j)) Q E s:=by
 let⟨ob,b1,b2,b3⟩:=id hj;let⟨ou,c1,_,⟨nu,c3⟩⟩:=hu;unfold Builtin.SmallTypes.nextOf;exact aaa (aaV (name:=Str.ofString "__next__") hj.typeIs aco (abj aco hj.typeIs F.entry_tuple_iterator_next ?_ (F.args_tuple_iterator_next_1 _)));show wpAny _ _ (field (.ref j) 0 >>= _) _ _ s
 exact aaa (aaO b1 b3 (x:=.ref u) rfl ?_);show wpAny _ _ (if(Value.ref u==Value.none)=true then _ else _) _ _ s
 rw[aaz (show ¬((Value.ref u==Value.none)=true)from aal)];show wpAny _ _ (field (.ref j) 1 >>= _) _ _ s
 exact aaa (aaO b1 b3 (x:=.int i 0) rfl ?_);show wpAny _ _ (seqItems? (.ref u) >>= _) _ _ s
 exact aaa (abi c1 c3 ?_);simp only[abS,hv];exact aaa (adS b1 b3 (by simp) (aad ⟨v,rfl,aad (q _ ?_ (abL ..))⟩));exact⟨_,abt _ b1 (Obj.isFreed_of_fields (adi b3 _)),(Obj.cls_mapFields ..).trans b2,by rw[adi b3];simp[rawInt]⟩
theorem oH(hh:A.handled=none)(hj:s.heap.IsTupleIter j u i)(hu:s.heap.IsTuple u vs)(hv:vs[i]?=none)
  (q:∀h' e,Heap.ExtBut j s.heap h'→(∃o,h'.get? e=some o∧o.cls=.type "StopIteration")→E (.ref e) {s with heap:=h'}):wpAny (model prog w) A (Builtin.SmallTypes.nextOf (.ref j)) Q E s:=by
 let⟨ob,b1,b2,b3⟩:=id hj;let⟨ou,c1,_,⟨nu,c3⟩⟩:=hu;unfold Builtin.SmallTypes.nextOf;exact aaa (aaV (name:=Str.ofString "__next__") hj.typeIs aco (abj aco hj.typeIs F.entry_tuple_iterator_next ?_ (F.args_tuple_iterator_next_1 _)));show wpAny _ _ (field (.ref j) 0 >>= _) _ _ s
 exact aaa (aaO b1 b3 (x:=.ref u) rfl ?_);show wpAny _ _ (if(Value.ref u==Value.none)=true then _ else _) _ _ s
 rw[aaz (show ¬((Value.ref u==Value.none)=true)from aal)];show wpAny _ _ (field (.ref j) 1 >>= _) _ _ s
 exact aaa (aaO b1 b3 (x:=.int i 0) rfl ?_);show wpAny _ _ (seqItems? (.ref u) >>= _) _ _ s
 exact aaa (abi c1 c3 ?_);simp only[abS,hv];exact aaa (acu (aaa (adS b1 b3 (by simp) ?_)));show wpAny _ _ (newExc (.type "StopIteration") [] >>= _) _ _ _
 exact aaa ?_;simp only[newExc,newTuple];exact aaa (aaL ?_ (by show 0≤sizeLine;exact aaE _));exact aaa (m:=firstArgMember _ _) (abh (a:=Value.none) (by first|rfl|(simp only[firstArgMember]<;>rfl)) ?_)
 exact aaL ?_ (by size_fits);simp only[raiseNew];exact aaa (wpAny_handled ?_);first|rw[show A.in1.handled=none from hh]|rw[hh]
 exact aaa (aad (wpAny_throw ?_));exact q _ _ (((abL ..).extBut.push _).push _) ⟨_,aaq _ rfl,rfl⟩
structure Apart(z p r j1 j2 u1 u2:Addr):Prop where
 pz:p≠z
 rz:r≠z
 E5:j1≠z
 Jy:j2≠z
 pr:p≠r
 TF:p≠j1
 TC:p≠j2
 O7:r≠j1
 O6:r≠j2
 PZ:j1≠j2
 NP:u1≠z
 u1r:u1≠r
 Xv:u1≠j1
 Xu:u1≠j2
 Sl:u2≠z
 VE:u2≠r
 J8:u2≠j1
 Xt:u2≠j2
theorem pM{h:Heap}{t:Addr}(x:h.IsTupleIter a t i)(e:∀o,h.get? a=some o→h'.get? a=some o):h'.IsTupleIter a t i:=let⟨o,ho,r⟩:=x;⟨o,e o ho,r⟩
theorem tD{x y a:Value}(D:Apart z p r j1 j2 u1 u2)
  (hz:IsZip s.heap z p r .none) (hp:IsPair s.heap p (.ref j1) (.ref j2)) (hr:IsPair s.heap r a b)
  (h1:s.heap.IsTupleIter j1 u1 i) (h2:s.heap.IsTupleIter j2 u2 i) (l1:s.heap.IsTuple u1 vs) (l2:s.heap.IsTuple u2 ws) (hx:vs[i]?=some x) (hy:ws[i]?=some y)
  (q:∀h',IsZip h' z p r (rawInt s.heap.objs.size)→IsPair h' r x y→h'.IsTupleIter j1 u1 (i+1)→h'.IsTupleIter j2 u2 (i+1)→IsPair h' s.heap.objs.size x y→h'.objs.size=s.heap.objs.size+1→
   (∀c o,c≠z→c≠r→c≠j1→c≠j2→s.heap.get? c=some o→h'.get? c=some o)→Q (.ref s.heap.objs.size) {s with heap:=h'}) :
  wpAny (model prog w) A (Builtin.«zip.__next__» ⟨[.ref z],[]⟩) (λfin s'=>∃v,fin=.done (.ret v)∧Q v s') E s:=by
 show wpAny _ _ (field (.ref z) 2 >>= _) _ _ _
 exact aaa (aaO hz rfl (x:=.bool false) rfl ?_);show wpAny _ _ (field (.ref z) 3 >>= _) _ _ _
 exact aaa (aaO hz rfl (x:=.ref p) rfl ?_);exact aaa (abi hp rfl ?_);show wpAny _ _ (Builtin.SmallTypes.ownedTupleIsFree (.ref z) >>= _) _ _ _
 exact aaa ?_;unfold Builtin.SmallTypes.ownedTupleIsFree;exact aaa (aaO hz rfl (x:=.none) rfl (aad ?_));simp only[ad3];exact aaa (acu ?_);exact aaa (aaO hz rfl (x:=.ref r) rfl ?_);exact aaa (wpAny_setField_rec hz (by simp) λg1 z1 e1=>?_)
 replace z1:IsZip g1 z p r .ellipsis:=z1
 exact aaa ?_;simp only[List.zipIdx_cons,List.zipIdx_nil,acP,ac0];exact aaa (aaa (ad2 ?_));show wpAny _ _ (Builtin.SmallTypes.nextOf (.ref j1) >>= _) _ _ _
 exact aaa (gY (h1.extBut e1.extBut D.E5) (l1.extBut e1.extBut D.NP) hx λg2 a2 e2=>aad ?_);have r2:IsPair g2 r a b:=e2.extBut _ _ D.O7 (e1.extBut _ _ D.rz hr);exact aaa (abi r2 rfl ?_);exact aaa (adP r2 λg3 r3 e3=>?_)
 replace r3:IsPair g3 r x b:=r3
 exact aaa (acb (aad ?_));exact aaa (aaa (ad2 ?_));show wpAny _ _ (Builtin.SmallTypes.nextOf (.ref j2) >>= _) _ _ _
 exact aaa (gY (((h2.extBut e1.extBut D.Jy).extBut e2.extBut D.PZ.symm).extBut e3.extBut D.O6.symm) (((l2.extBut e1.extBut D.Sl).extBut e2.extBut D.J8).extBut e3.extBut D.VE) hy λg4 a4 e4=>aad ?_);have r4:IsPair g4 r x b:=e4.extBut _ _ D.O6 r3;exact aaa (abi r4 rfl ?_);exact aaa (adP r4 λg5 r5 e5=>?_)
 replace r5:IsPair g5 r x y:=r5
 exact aaa (acb (aad (aad ?_)));exact aaa (abi r5 rfl ?_);exact aaa (wpAny_newTuple ?_);have sz:g5.objs.size=s.heap.objs.size:=by rw[e5.1,e4.1,e3.1,e2.1,e1.1]
 have z5:IsZip g5 z p r .ellipsis:=e5.extBut _ _ D.rz.symm (e4.extBut _ _ D.Jy.symm (e3.extBut _ _ D.rz.symm (e2.extBut _ _ D.E5.symm z1)));have k5:∀c o,c≠z→c≠r→c≠j1→c≠j2→s.heap.get? c=some o→g5.get? c=some o:=λc o n1 n2 n3 n4 e=>
  e5.extBut _ _ n2 (e4.extBut _ _ n4 (e3.extBut _ _ n2 (e2.extBut _ _ n3 (e1.extBut _ _ n1 e))))
 have b1:g5.IsTupleIter j1 u1 (i+1):=((a2.extBut e3.extBut D.O7.symm).extBut e4.extBut D.PZ).extBut e5.extBut D.O7.symm;have b2:g5.IsTupleIter j2 u2 (i+1):=a4.extBut e5.extBut D.O6.symm;have zl:z<g5.objs.size:=aak z5;show wpAny _ _ (Builtin.SmallTypes.ownedTupleHandOut (.ref z) (.ref g5.objs.size) >>= _) _ _ _
 exact aaa ?_;unfold Builtin.SmallTypes.ownedTupleHandOut;have z6:IsZip (g5.push {cls:=.type "tuple",data:=.seq #[x,y]}) z p r .ellipsis:=aab _ z5;exact aaa (wpAny_setField_rec z6 (by simp) λg7 z7 e7=>?_)
 replace z7:IsZip g7 z p r (rawInt g5.objs.size):=z7
 exact wpAny_setField_rec z7 (by simp) λg8 z8 e8=>?_
 replace z8:IsZip g8 z p r (rawInt g5.objs.size):=z8
 have up:∀c o,c≠z→g5.get? c=some o→g8.get? c=some o:=λc o n1 e=>e8.extBut _ _ n1 (e7.extBut _ _ n1 (aab _ e));have t8:IsPair g8 g5.objs.size x y:=e8.extBut _ _ (acn zl) (e7.extBut _ _ (acn zl) (aaq _ rfl));have s8:g8.objs.size=g5.objs.size+1:=by rw[e8.1,e7.1,abk]
 rw[sz]at z8 t8 s8;exact aad ⟨_,rfl,?_⟩;show Q (.ref g5.objs.size) _
 rw[sz];exact q g8 z8 (up _ _ D.rz r5) (pM b1 λo e=>up _ o D.E5 e) (pM b2 λo e=>up _ o D.Jy e) t8 s8 λc o n1 n2 n3 n4 e=>up c o n1 (k5 c o n1 n2 n3 n4 e)
theorem vK{a:Value}{Q:Fin→Shared→Prop}(hh:A.handled=none)(D:Apart z p r j1 j2 u1 u2)
  (hz:IsZip s.heap z p r .none) (hp:IsPair s.heap p (.ref j1) (.ref j2)) (hr:IsPair s.heap r a b)
  (h1:s.heap.IsTupleIter j1 u1 i) (h2:s.heap.IsTupleIter j2 u2 i) (l1:s.heap.IsTuple u1 vs) (l2:s.heap.IsTuple u2 ws) (Mr:vs[i]?=none∨ws[i]?=none)
  (q:∀h' e,(∀c o,c≠z→c≠r→c≠j1→c≠j2→s.heap.get? c=some o→h'.get? c=some o)→(∃o,h'.get? e=some o∧o.cls=.type "StopIteration")→E (.ref e) {s with heap:=h'}) :
  wpAny (model prog w) A (Builtin.«zip.__next__» ⟨[.ref z],[]⟩) Q E s:=by
 show wpAny _ _ (field (.ref z) 2 >>= _) _ _ _
 exact aaa (aaO hz rfl (x:=.bool false) rfl ?_);show wpAny _ _ (field (.ref z) 3 >>= _) _ _ _
 exact aaa (aaO hz rfl (x:=.ref p) rfl ?_);exact aaa (abi hp rfl ?_);show wpAny _ _ (Builtin.SmallTypes.ownedTupleIsFree (.ref z) >>= _) _ _ _
 exact aaa ?_;unfold Builtin.SmallTypes.ownedTupleIsFree;exact aaa (aaO hz rfl (x:=.none) rfl (aad ?_));simp only[ad3];exact aaa (acu ?_);exact aaa (aaO hz rfl (x:=.ref r) rfl ?_);exact aaa (wpAny_setField_rec hz (by simp) λg1 z1 e1=>?_)
 replace z1:IsZip g1 z p r .ellipsis:=z1
 exact aaa ?_;simp only[List.zipIdx_cons,List.zipIdx_nil,acP,ac0];exact aaa (aaa (ad2 ?_));show wpAny _ _ (Builtin.SmallTypes.nextOf (.ref j1) >>= _) _ _ _
 cases hx:vs[i]? with
 |none=>
  exact aaa (oH hh (h1.extBut e1.extBut D.E5) (l1.extBut e1.extBut D.NP) hx λg2 e e2 he=>?_);let⟨oe,Ms,Qr⟩:=he;have z2:IsZip g2 z p r .ellipsis:=e2 _ _ D.E5.symm z1;have TZ:e≠z:=λx=>by subst x;rw[z2]at Ms;cases Ms;simp at Qr
  exact wpAny_setField_rec z2 (by simp) λg3 _ e3=>q g3 e (λc o n1 _ n3 _ x=>e3.extBut _ _ n1 (e2 _ _ n3 (e1.extBut _ _ n1 x))) ⟨oe,e3.extBut _ _ TZ Ms,Qr⟩
 |some x=>
  have hy:ws[i]?=none:=by rcases Mr with h|h;rw[hx]at h;cases h;exact h
  exact aaa (gY (h1.extBut e1.extBut D.E5) (l1.extBut e1.extBut D.NP) hx λg2 a2 e2=>aad ?_);have r2:IsPair g2 r a b:=e2.extBut _ _ D.O7 (e1.extBut _ _ D.rz hr);exact aaa (abi r2 rfl ?_);exact aaa (adP r2 λg3 r3 e3=>?_);exact aaa (acb (aad ?_));exact aaa (aaa (ad2 ?_));show wpAny _ _ (Builtin.SmallTypes.nextOf (.ref j2) >>= _) _ _ _
  exact aaa (oH hh (((h2.extBut e1.extBut D.Jy).extBut e2.extBut D.PZ.symm).extBut e3.extBut D.O6.symm) (((l2.extBut e1.extBut D.Sl).extBut e2.extBut D.J8).extBut e3.extBut D.VE) hy λg4 e e4 he=>?_);let⟨oe,Ms,Qr⟩:=he;have z4:IsZip g4 z p r .ellipsis:=e4 _ _ D.Jy.symm (e3.extBut _ _ D.rz.symm (e2.extBut _ _ D.E5.symm z1));have TZ:e≠z:=λx=>by subst x;rw[z4]at Ms;cases Ms;simp at Qr
  exact wpAny_setField_rec z4 (by simp) λg5 _ e5=>q g5 e (λc o n1 n2 n3 n4 x=>e5.extBut _ _ n1 (e4 _ _ n4 (e3.extBut _ _ n2 (e2.extBut _ _ n3 (e1.extBut _ _ n1 x))))) ⟨oe,e5.extBut _ _ TZ Ms,Qr⟩
end
def Vu(K:W.Frag)(a b:Addr):It:=
  ⟨λi H=>∃xs ys x y,cW K H a xs∧cW K H b ys∧xs[i]?=some x∧ys[i]?=some y,
   λi H v H'=>∃p x y,H p=none∧v=.ref p∧H'=upd H p (.tup [x,y])∧(∀xs,cW K H a xs→xs[i]?=some x)∧(∀ys,cW K H b ys→ys[i]?=some y),
   λi H=>∃xs ys,cW K H a xs∧cW K H b ys∧(xs.length≤i∨ys.length≤i)⟩
theorem Dh(a b z p r j1 j2:Addr)(D:Apart z p r j1 j2 a b):
  Turn P w K (.Tuple elts kk pos) (Vu K a b) [z,p,r,j1,j2] z (λi h=>IsZip h z p r .none∧IsPair h p (.ref j1) (.ref j2)∧(∃u v,IsPair h r u v)∧h.IsTupleIter j1 a i∧h.IsTupleIter j2 b i) where
 mem:=by simp
 obj:=λi h st c hc=>by
  let⟨hz,hp,⟨u,v,hr⟩,⟨o1,e1,_,d1⟩,⟨o2,e2,_,d2⟩⟩:=st;simp only[aah,aao,abg]at hc;rcases hc with rfl|rfl|rfl|rfl|rfl
  ·exact⟨_,hz,λv z=>by have z':Data.fields _=Data.cell v:=z;cases z'⟩
  ·exact⟨_,hp,λv z=>by have z':Data.seq _ _=Data.cell v:=z;cases z'⟩
  ·exact⟨_,hr,λv z=>by have z':Data.seq _ _=Data.cell v:=z;cases z'⟩
  ·exact⟨o1,e1,λv z=>by rw[d1]at z;cases z⟩
  ·exact⟨o2,e2,λv z=>by rw[d2]at z;cases z⟩
 keep:=λi h h' st k=>by
  let⟨hz,hp,⟨u,v,hr⟩,h1,h2⟩:=st;exact⟨k z (by simp) _ hz,k p (by simp) _ hp,Ψ2 u v (k r (by simp) _ hr),pM h1 λo e=>k j1 (by simp) o e,pM h2 λo e=>k j2 (by simp) o e⟩
 item:=by
  intro X hP hw hK hc i pins s σ H E I hf st hg;subst hP hw hK;let⟨hz,hp,⟨u,v,hr⟩,h1,h2⟩:=st;let⟨xs,ys,x,y,sO,uU,hx,hy⟩:=hg;let⟨its,rv,pl,_⟩:=I.tuple sO;let⟨ik,oq,kK,_⟩:=I.tuple uU;let⟨vx,ex,rx⟩:=rv.get hx;let⟨vy,ey,ry⟩:=oq.get hy;have hT:s.TypeIs (.ref z) "zip" :=⟨_,hz,rfl⟩;have n0:H s.heap.objs.size=none:=I.bp.fresh (aan _);unfold pyNext;exact aaa (ab0 (aaV (name:=Str.ofString "__next__") hT abr (abj abr hT acs
   (tD D hz hp hr h1 h2 pl kK (by simpa using ex) (by simpa using ey) λg a1 a2 a3 a4 a5 a6 a7=>aad ?_) (ack _))))
  exact⟨_,rfl,?_⟩;exact wpAny_letOwnedTupleGo_zip a1 λg2 b1 b2=>?_;have zl:z<s.heap.objs.size:=aak hz;have lt:∀c∈[z,p,r,j1,j2],c<s.heap.objs.size:=λc hc=>by
   simp only[aah,aao,abg]at hc;let⟨_,q1,_⟩:=h1;let⟨_,q2,_⟩:=h2;rcases hc with rfl|rfl|rfl|rfl|rfl
   ·exact zl
   ·exact aak hp
   ·exact aak hr
   ·exact aak q1
   ·exact aak q2
  exact Ψ2 (.ref s.heap.objs.size) (upd H s.heap.objs.size (.tup [x,y])) ⟨?_,rfl,Ψ3 _ x y ⟨n0,rfl,rfl,λzs Nl=>by rw[I.n9 Nl sO];exact hx,λzs Nl=>by rw[I.n9 Nl uU];exact hy⟩,⟨b1,?_,Ψ2 vx vy ?_,?_,?_⟩,λc hc=>?_⟩
  ·exact I.n5 (t':=s.toks) (ch:=[z,r,j1,j2]) (λc o hc e=>?_) (λc hc=>hf c ?_) (aan _) ⟨by show 2≤sizeLine;decide,[vx,vy],.cons rx (.cons ry .nil),?_⟩
   ·simp only[aah,aao,abg,not_or]at hc
    exact b2.extBut _ _ hc.1 (a7 c o hc.1 hc.2.1 hc.2.2.1 hc.2.2.2 e)
   ·simp only[aah,aao,abg]at hc ⊢
    rcases hc with rfl|rfl|rfl|rfl<;>simp
   ·exact⟨_,b2.extBut _ _ (acn zl) a5,rfl,0,rfl⟩
  ·exact b2.extBut _ _ D.pz (a7 _ _ D.pz D.pr D.TF D.TC hp)
  ·exact b2.extBut _ _ D.rz a2
  ·exact a3.extBut b2.extBut D.E5
  ·exact a4.extBut b2.extBut D.Jy
  ·rw[ao (aaw (lt c hc))]
   exact(hf c hc).1
 done:=by
  intro X hP hw hK hc i pins s σ H E I hf st hg;subst hP hw hK;let⟨hz,hp,⟨u,v,hr⟩,h1,h2⟩:=st;let⟨xs,ys,sO,uU,he⟩:=hg;let⟨its,rv,pl,_⟩:=I.tuple sO;let⟨ik,oq,kK,_⟩:=I.tuple uU;have l1:=rv.length;have l2:=oq.length;have Mr:its.toArray[i]?=none∨ik.toArray[i]?=none:=he.imp (λe=>by simp;lia) (λe=>by simp;lia);have hT:s.TypeIs (.ref z) "zip" :=⟨_,hz,rfl⟩;unfold pyNext;exact aaa (ab0 (aaV (name:=Str.ofString "__next__") hT abr (abj abr hT acs
   (vK (I.ok.hd hc) D hz hp hr h1 h2 pl kK Mr λg e kk he=>?_) (ack _))))
  let⟨o,ho,AH⟩:=he;exact aaa (adD (T := "StopIteration") (b:=true) ⟨o,ho,AH⟩ isSubtype_stop ?_);exact aad ⟨rfl,I.n8 (t':=s.toks) (ch:=[z,r,j1,j2]) (λc o hc e=>?_) (λc hc=>hf c ?_)⟩
  ·simp only[aah,aao,abg,not_or]at hc
   exact kk c o hc.1 hc.2.1 hc.2.2.1 hc.2.2.2 e
  ·simp only[aah,aao,abg]at hc ⊢
   rcases hc with rfl|rfl|rfl|rfl<;>simp
 self:=λ_ _ _ _ _ st h=>aeh st.1 h
abbrev Rq(h:Heap)(a:Addr):Heap:=h.push {cls:=.type "tuple_iterator",data:=.fields #[.ref a,.int 0 0]}
abbrev Rp(h:Heap)(a b:Addr):Heap:=(Rq h a).push {cls:=.type "tuple_iterator",data:=.fields #[.ref b,.int 0 0]}
abbrev Ro(h:Heap)(a b:Addr):Heap:=(Rp h a b).push {cls:=.type "tuple",data:=.seq #[.ref h.objs.size,.ref (Rq h a).objs.size]}
abbrev Rn(h:Heap)(a b:Addr):Heap:=(Ro h a b).push {cls:=.type "tuple",data:=.seq #[.none,.none]}
abbrev Na(h:Heap)(a b:Addr):Heap:=(Rn h a b).push {cls:=.type "zip",data:=.fields #[.none,.bool false,.bool false,.ref (Rp h a b).objs.size,.ref (Ro h a b).objs.size]}
theorem CC(a b:Addr)(vs ws:Array Value):
  Meets (Builtin.«zip.__new__» ⟨[.type "zip",.ref a,.ref b],[]⟩) (λ_ R s=>s.heap.IsTuple a vs∧s.heap.IsTuple b ws∧R (.ok (.ret (.ref (Rn s.heap a b).objs.size))) {s with heap:=Na s.heap a b}):=
 .of_wp λprog w A R s h=>by
  obtain⟨hp,g,d,tk,os⟩:=s;obtain⟨la,lb,h⟩:=h;have YL:=sub_zip;have L1:Heap.IsTuple (Shared.heap ⟨hp,g,d,tk,os⟩) a vs:=la;have L2:Heap.IsTuple (Shared.heap ⟨hp.push {cls:=.type "tuple_iterator",data:=.fields #[.ref a,.int 0 0]},g,d,tk,os⟩) b ws:=Heap.IsTuple.push lb _
  wp_walk using adg L1,adg L2
  exact⟨_,rfl,h⟩
theorem ua{b:Addr}(la:s.heap.IsTuple a vs)(lb:s.heap.IsTuple b ws)
  (q:∀h',IsZip h' (s.heap.objs.size+4) (s.heap.objs.size+2) (s.heap.objs.size+3) .none→IsPair h' (s.heap.objs.size+2) (.ref s.heap.objs.size) (.ref (s.heap.objs.size+1))→
   IsPair h' (s.heap.objs.size+3) .none .none→h'.IsTupleIter s.heap.objs.size a 0→h'.IsTupleIter (s.heap.objs.size+1) b 0→(∀c o,s.heap.get? c=some o→h'.get? c=some o)→Q (.ref (s.heap.objs.size+4)) {s with heap:=h'}) :
  wpAny (model prog w) A (call (.type "zip") [.ref a,.ref b]) Q E s:=by
 exact callType_new F.called_zip (by decide) (F.typeCall_zip_2 _ _) (F.newCall_zip_2 _ _) (λobj=>F.args_object_init_3 obj _ _) F.entry_zip_new (CC a b vs ws) ⟨la,lb,?_⟩;have z1:(Rq s.heap a).objs.size=s.heap.objs.size+1:=abk ..;have z2:(Rp s.heap a b).objs.size=s.heap.objs.size+2:=by rw[abk,z1]
 have z3:(Ro s.heap a b).objs.size=s.heap.objs.size+3:=by rw[abk,z2]
 have z4:(Rn s.heap a b).objs.size=s.heap.objs.size+4:=by rw[abk,z3]
 have g5:(Na s.heap a b).get? (Rn s.heap a b).objs.size=some _:=aaq _ rfl;have g4:(Na s.heap a b).get? (Ro s.heap a b).objs.size=some _:=aab _ (aaq _ rfl);have g3:(Na s.heap a b).get? (Rp s.heap a b).objs.size=some _:=aab _ (aab _ (aaq _ rfl));have g2:(Na s.heap a b).get? (Rq s.heap a).objs.size=some _:=aab _ (aab _ (aab _ (aaq _ rfl)));have g1:(Na s.heap a b).get? s.heap.objs.size=some _:=aab _ (aab _ (aab _ (aab _ (aaq _ rfl))));show _∧_
 rw[z2,z3,z4]at g5;rw[z1,z2]at g3;rw[z3]at g4;rw[z1]at g2;rw[z4];exact⟨⟨_,g5,rfl⟩,q _ g5 g3 g4 ⟨_,g1,rfl,rfl⟩ ⟨_,g2,rfl,rfl⟩ λc o x=>aab _ (aab _ (aab _ (aab _ (aab _ x))))⟩
theorem apart_new{n b:Addr}(ha:a<n)(hb:b<n):Apart (n+4) (n+2) (n+3) n (n+1) a b:=by
 have ne:∀i j:Nat,i≠j→(Nat.add n i:Addr)≠Nat.add n j:=λi j h e=>h (Nat.add_left_cancel e);have lo:∀(c:Addr) (i:Nat),c<n→c≠Nat.add n i:=λc i h=>aaw (aau h (acC n i));exact⟨ne 2 4 (by decide),ne 3 4 (by decide),ne 0 4 (by decide),ne 1 4 (by decide),ne 2 3 (by decide),ne 2 0 (by decide),ne 2 1 (by decide),ne 3 0 (by decide),ne 3 1 (by decide),ne 0 1 (by decide),
  lo a 4 ha,lo a 3 ha,lo a 0 ha,lo a 1 ha,lo b 4 hb,lo b 3 hb,lo b 0 hb,lo b 1 hb⟩
section
variable {qq:Pos}
def Ui(K:W.Frag)(ta:TA):TI:=λσ H R=>ta σ H λvs H1=>∃a b xs ys,vs=[.ref a,.ref b]∧cW K H1 a xs∧cW K H1 b ys∧R (Vu K a b) H1
theorem Lw{a b:Expr}{ta:TA}{p:Pos}(hg:Gl X "zip")(hm:X.mg "zip" = none)(ha:PA X [a,b] ta)(hs:starEach [a,b] X.env=[(false,eval a X.env),(false,eval b X.env)]:=by rfl)(ya:starEach [b] X.env=[(false,eval b X.env)]:=by rfl):
  PI X (.Tuple elts kk qq) (.Call (.Name "zip" p) [a,b] [] pos) (Ui X.K ta):=by
 exact .mk ?_;intro pins s σ H R I h;exact Call_ (gZ I hg hm boot_zip (abd (bD (ha pos pins s σ H _ I h) λus s1 ξ=>Ξ23 ξ λvs H1 I1 r1 q1=>?_) (by rw[hs,ya]) (by rw[ya];rfl)));let⟨u1,u2,xs,ys,e,hx,hy,q⟩:=q1;subst e;cases r1 with
 |cons r rr=>
  cases rr with
  |cons r' rr=>
   cases rr;cases r;cases r';let⟨its,rv,pl,_⟩:=I1.tuple hx;let⟨ik,oq,kK,_⟩:=I1.tuple hy;let⟨o1,e1,_⟩:=id pl;let⟨o2,e2,_⟩:=id kK;exact ua pl kK λh' hz hp hr j1 j2 k=>?_;exact aeh hz ?_;exact Ψ5 (s1.heap.objs.size+4) [s1.heap.objs.size+4,s1.heap.objs.size+2,s1.heap.objs.size+3,s1.heap.objs.size,s1.heap.objs.size+1] _ _ H1 ⟨rfl,I1.kept (t':=s1.toks) k,Dh u1 u2 _ _ _ _ _ (apart_new (aak e1) (aak e2)),⟨hz,hp,Ψ2 _ _ hr,j1,j2⟩,λc hc=>?_,q⟩;have Ct:s1.heap.objs.size≤c:=by
    simp only[aah,aao,abg]at hc;rcases hc with rfl|rfl|rfl|rfl|rfl<;>first|exact aan _|exact acC _ _
   exact I1.xq Ct (I1.bp.fresh Ct)
end
end L2
namespace L2
open PySem PySem.Spec PyProof.Rows PySem.W PySem.Calls PySem.Builtin PySem.Builtin.ObjectAttr PySem.Builtin.Getset_descriptor
variable {M:Model}{h:Heap}{tk:Tok}
structure Ck(K:Frag)(D:Addr):Prop where
 ga:findIn K (.ref D) "__getattribute__" = some (some (.builtin "BaseException.__getattribute__"))
 hk:findIn K (.ref D) "__getattr__" = some none
 cl:findIn K (.ref D) "__class__" = some (some (.builtin "object.__class__"))
 gt:specialIn K (.builtin "object.__class__") "__get__" = some (some (.builtin "getset_descriptor.__get__"))
 tk:takesIn K (.builtin "object.__class__")=some true
 ob:mroIn K D (.type "object")=some true
 bx:mroIn K D (.type "BaseException")=some true
 cd:(clsIn K D).isSome=true
def pY(x D:Addr):Heap→Prop:=λh=>∃o,h.get? x=some o∧o.cls=.ref D
section
variable {K:Frag}{x D:Addr}
theorem pY.type(I:pY x D h):Looks M h (typeOf (.ref x)) (.ref D):=by
 let⟨o,e,c⟩:=I;exact c ▸ (Looks.ld e).andThen .now
theorem Fq(X:K.In h)(F:Ck K D):Looks M h (find (.ref x) (.ref D) "__class__") (.bind (.builtin "getset_descriptor.__get__") (.builtin "object.__class__")):=by
 have n1:=looks_findIn (M:=M) X F.cl;have n2:Looks M h (getOf (some (.builtin "object.__class__"))) (some (.builtin "getset_descriptor.__get__")):=looks_specialIn X F.gt;have n3:=looks_takesIn (M:=M) X F.tk;have n4:Looks M h (dataDescriptor? (some (.builtin "object.__class__")) (some (.builtin "getset_descriptor.__get__"))) (some (.builtin "getset_descriptor.__get__",.builtin "object.__class__")):=n3.andThen .now;exact n1.andThen (n2.andThen (n4.andThen (Looks.tag .now)))
variable {prog:Program}{w:World}{A:Around}{E:xz}{s:Shared}
theorem sS{tp:Value}{R:Result→Shared→Prop}(X:K.In s.heap)(F:Ck K D)(I:pY x D s.heap)(h:R (.ok (.ret (.ref D))) s):
  codeAny (model prog w) A (.call (.builtin "getset_descriptor.__get__") ⟨[.builtin "object.__class__",.ref x,tp],[]⟩) R s:=by
 obtain⟨hh,gg,dr,tt,os⟩:=s;have n0:=I.type (M:=model prog w);have n1:=looks_mroIn (M:=model prog w) X F.ob;exact codeAny_call_builtin KF.slot_gs.plain KF.entry_gs (KF.slot_gs.check _ _ _ _ _ _ _ _ KF.type_class (KF.args_gs _ _ _) ?_);unfold Builtin.«getset_descriptor.__get__» descrGet;rw[dga_obj];exact aaa (aad ?_);unfold descrGetter descrCheckInstance descrNameAndClass isInstance;simp only[KF.owner_class]
 repeat lk
 exact⟨Code.quiet_builtin _ (by decide +kernel),abI KF.entry_class ?_⟩;unfold Builtin.«object.__class__» shownTypeOf
 repeat lk
 exact h
theorem BY{Q:Fin→Shared→Prop}(X:K.In s.heap)(F:Ck K D)(I:pY x D s.heap)(h:Q (.done (.ret (.ref D))) s):
  wpAny (model prog w) A (Builtin.«object.__getattribute__» ⟨[.ref x,.str "__class__" tk],[]⟩) Q E s:=by
 have n0:=I.type (M:=model prog w);have n1:=Fq (M:=model prog w) (x:=x) X F;exact aaa (aad ?_);exact aaa (aad ?_);exact aaa (n0.at ?_);exact aaa (n1.at ?_);show wpAny _ _ (holding [.builtin "object.__class__"] (call (.builtin "getset_descriptor.__get__") [.builtin "object.__class__",.ref x,.ref D]) >>= ret) _ _ _
 exact aaa (aaR (aeg (sS X F I (aad h))))
theorem BZ{Ay:Value}{Q:Unit→Shared→Prop}(X:K.In s.heap)(F:Ck K D)(I:pY x D s.heap)(h:Q () s):wpAny (model prog w) A (checkBuiltinCall "BaseException.__getattribute__" ⟨[.ref x,Ay],[]⟩) Q E s:=by
 have b1:builtinKind "BaseException.__getattribute__" = some .slot:=by decide +kernel
 have b2:splitId "BaseException.__getattribute__" = some ("BaseException","__getattribute__"):=by decide +kernel
 have n0:=I.type (M:=model prog w);have n1:=looks_mroIn (M:=model prog w) X F.bx;have b3:=PySem.F.args_bexc_ga (.ref x) Ay;obtain⟨hh,gg,dr,tt,os⟩:=s;simp only[checkBuiltinCall,b1,b2];exact aaa ?_;unfold isInstance;exact aaa (n0.at ?_);exact n1.at ?_;rw[aaz (by decide)];cases Uw:Manifest.signature? "BaseException.__getattribute__" with
 |none=>exact aad h
 |some sig=>
  simp only[argsOk,Uw]at b3;have b4:Bind.checkArgs "BaseException.__getattribute__" sig ⟨[.ref x,Ay],[]⟩=pure ():=b3;show wpAny _ _ (Bind.checkArgs "BaseException.__getattribute__" sig ⟨[.ref x,Ay],[]⟩) _ _ _
  rw[b4];exact aad h
theorem Ft{R:Result→Shared→Prop}(X:K.In s.heap)(F:Ck K D)(I:pY x D s.heap)(h:R (.ok (.ret (.ref D))) s):
  codeAny (model prog w) A (.call (.builtin "BaseException.__getattribute__") ⟨[.ref x,.str "__class__" tk],[]⟩) R s:=
 codeAny_call_builtin (by decide +kernel) PySem.F.entry_bexc_ga (BZ X F I (BY X F I h))
theorem MH{Q:Option Value→Shared→Prop}(X:K.In s.heap)(F:Ck K D)(I:pY x D s.heap)(h:Q (some (.ref D)) {s with toks:=s.toks+1}):wpAny (model prog w) A (getAttr? (.ref x) "__class__") Q E s:=by
 obtain⟨hh,gg,dr,tt,os⟩:=s;have n0:=I.type (M:=model prog w);have n1:=looks_findIn (M:=model prog w) X F.ga;have n2:=looks_findIn (M:=model prog w) X F.hk;unfold getAttr? getAttrBy? getAttrBy;exact aaa (wpAny_mkText (aaa (ab0 (aaR (aaa (n0.at (aaa (n1.at ?_))))))));show wpAny _ _ (getAttrByItsOwn _ _ _ _ _ _) _ _ _
 unfold getAttrByItsOwn hookBefore;exact aaa ?_;exact n2.at ?_;exact aaa (ab0 (aaR ?_));have b1:bindSpecial (.builtin "BaseException.__getattribute__") (.ref x)=pure (.builtin "BaseException.__getattribute__",[.ref x]):=by kernel_rfl
 show wpAny _ _ (bindSpecial (.builtin "BaseException.__getattribute__") (.ref x) >>= _) _ _ _
 rw[b1];exact aaa (aad ?_);exact aeg (Ft X F I ?_);exact abh (handedOut_of rfl) (aad h)
theorem wR(F:Ck K D):KitX K (.ref x) (.ref D) (pY x D) where
 ty:=λ_ _ _ I=>I.type
 it:=λ_ _ X _=>by
  let⟨cd,hc⟩:=acm.mp F.cd;unfold clsIn at hc;split at hc
  ·rename_i c' d' cd' OX ho
   intro A' Q' E' s' k q;unfold isType loadHead;exact aaa (wpAny_loadPart (k _ _ (X _ _ ho)) (aad q))
  ·cases hc
 ne:=λh tp dd its n sl X YK=>by
  let⟨cd,hc⟩:=acm.mp F.cd;exact Bool.eq_false_iff.mpr λq=>?_;have e:D=tp:=Value.ref.inj (acJ.mp q);subst e;unfold clsIn at hc;split at hc
  ·rename_i c' d' cd' OX ho
   have z:=(X _ _ ho).symm.trans YK;cases z
  ·cases hc
 ca:=λX I k=>MH X F I k
end
end L2
namespace L2
open PySem PySem.Spec PyProof.Rows
variable {o ot:Obj}{z p r j1 j2 u1 u2 t S a k f:Addr}{i t' n:Nat}{vs:List Value}{x y:V}{fl:Bool}{Q E:xz}{A:Around}{H' H:Hp}{ts:List Addr}{K:W.Frag}{res:Value}{P:Program}{w:World}{s s1:Shared}{params:Arguments}{body:Expr}{scope:Scope}{h':Heap}{zs:List Str}{keys:Array Value}{xs ys:List V}{X:Cx}{pins:ad}{σ:St}
section
variable {cl:List (Str×Addr)}{own:List Str}{cap:List (Nat×Str)}{fp:List Addr}
theorem B7{o:HO}(c:cV X scope cl own cap)(I:Inv X pins σ H s)(hf:∀b∈fp,eG X pins H b)(cG:∀b∈fp,b<s.heap.objs.size){h₁:Heap}{tk:Nat}{m:ac}
  (hk:∀b o,s.heap.get? b=some o→h₁.get? b=some o) (Mk:bS X.prog X.w (upd H s.heap.objs.size o) h₁ s.heap.objs.size o) (hn:h₁.Ns (s.heap.objs.size+1) m) :
  Inv (aQ X (own++cap.map (·.2)) scope cl (s.heap.objs.size+1) s H fp E) [] (da own cap σ) (upd H s.heap.objs.size o) {s with heap:=h₁,toks:=tk}:=by
 have Ff:H s.heap.objs.size=none:=I.fresh;have Mq:H (s.heap.objs.size+1)=none:=I.bp.fresh (abl _);exact⟨fD c I hf cG (abl _),rfl,I.bare,Un.laid hk (aan _) Ff,⟨m,hn,λi x v e1 e2 _=>?_⟩,λx a e=>?_,?_,λx a e=>?_,λp hp=>absurd (show p∈([]:ad)from hp) (by simp),I.bp.laid hk (aan _) Mk,?_⟩
 ·let⟨p,hp,ex,es⟩:=rN e1 e2
  let⟨q1,q2,q3,q4,q5⟩:=c.ID p hp;rw[ex]at q1 q2 q3 q4 q5;let⟨m',Qj,hl⟩:=I.loc;let⟨u,r,l⟩:=hl p.1 x v q1 es q2;exact⟨u,r,?_⟩;rcases l with l|⟨k,a,e,z⟩
  ·exact absurd l.1 q3
  ·let⟨a',e'⟩:=c.Mz x q5
   have ea:=c.sub x a' e';rw[e]at ea;cases ea;exact .inr ⟨q5,a,e',z.keeps hk⟩
 ·let⟨v,z⟩:=I.cell x a (c.sub x a e)
  exact⟨v,z.keeps hk⟩
 ·show upd H s.heap.objs.size o (s.heap.objs.size+1)=none
  rw[ao (Nat.succ_ne_self _)];exact Mq
 ·let⟨v,z⟩:=I.cell x a (c.sub x a e)
  show upd H s.heap.objs.size o a=none
  rw[ao (aaw z.lt)];exact I.fh x a (c.sub x a e)
 ·show(da own cap σ).length=(own++cap.map (·.2)).length
  simp[da]
end
def more(S:Str→Bool)(n:Nat)(k:Str):Nat:=if S k then n else n+1
inductive zJ:V→Value→Prop
 |own (a:Addr):zJ (.ref a) (.ref a)
 |ty (T:String):zJ (.ty T) (.type T)
inductive rZ:List V→List Value→Prop
 |nil:rZ [] []
 |cons {v:V} {c:Value} {vs:List V} {cs:List Value}:zJ v c→rZ vs cs→rZ (v::vs) (c::cs)
theorem zJ.rel{v:V}{c u:Value}(h:zJ v c)(r:RelV v u):u=c:=by
 cases h with
 |own a=>exact r
 |ty T=>exact r
theorem rZ.rel:∀{vs:List V} {cs us:List Value},rZ vs cs→Vals vs us→us=cs
 |_,_,_,.nil,.nil=>rfl
 |_,_,_,.cons h t,.cons r rs=>by rw[h.rel r,t.rel rs]
section
theorem zB:hZ X (.builtin "isinstance") (λxs H Q=>∃(x D:Addr) (cv:V) (c:Value) (b:Bool),xs=[.ref x,cv]∧zJ cv c∧Ck X.K D∧H x=some (.ext (pY x D))∧W.kitOne X.K (.ref D) c=some b∧Q (.bl b) H):=by
 intro pins s σ H xs us Q I r h;let⟨x,D,cv,c,b,rfl,hc,F,hx,e,q⟩:=h;let⟨u,w',rfl,ru,qH⟩:=vals2 r;cases ru;have:=hc.rel qH;subst this;exact abn (wR F) I.rn (I.bp x _ hx).1 e (λz=>nomatch z) λtk=>Ψ2 (.bl b) H ⟨I.tok tk,rfl,q⟩
theorem xJ:hZ X (.builtin "isinstance") (λxs H Q=>∃(x D p:Addr) (R9:List V) (cs:List Value) (b:Bool),xs=[.ref x,.ref p]∧H p=some (.tup R9)∧rZ R9 cs∧Ck X.K D∧H x=some (.ext (pY x D))∧W.kitAny X.K (.ref D) cs=some b∧Q (.bl b) H):=by
 intro pins s σ H xs us Q I r h;let⟨x,D,p,R9,cs,b,rfl,hp,hc,F,hx,e,q⟩:=h;let⟨u,w',rfl,ru,qH⟩:=vals2 r;cases ru;cases qH;let⟨_,⟨its,rv,⟨o,h1,h2,⟨n,h3⟩⟩⟩⟩:=(show bS X.prog X.w H s.heap p (.tup R9)from I.bp p _ hp);have:=hc.rel rv;subst this;obtain⟨oc,od,odt,yQ⟩:=o;cases h2;cases h3;exact W.kia_tup (wR F) I.rn (I.bp x _ hx).1 h1 e (λz=>nomatch z) λtk=>Ψ2 (.bl b) H ⟨I.tok tk,rfl,q⟩
end
section
variable {prog:Program}
abbrev rX(h:Heap)(z p r:Addr)(own flag:Value):Prop:=h.get? z=some {cls:=.type "zip",dict:=none,data:=.fields #[own,flag,.bool false,.ref p,.ref r],slots:=#[]}
theorem Be{vs ws:Array Value}{x y:Value}(D:Apart z p r j1 j2 u1 u2)(tz:t≠z)
  (hz:rX s.heap z p r (rawInt t) (.bool fl)) (ht:s.heap.get? t=some ot) (hp:IsPair s.heap p (.ref j1) (.ref j2))
  (h1:s.heap.IsTupleIter j1 u1 i) (h2:s.heap.IsTupleIter j2 u2 i) (l1:s.heap.IsTuple u1 vs) (l2:s.heap.IsTuple u2 ws) (hx:vs[i]?=some x) (hy:ws[i]?=some y)
  (q:∀h' T,s.heap.objs.size≤T→rX h' z p r (rawInt t) (.bool true)→h'.IsTupleIter j1 u1 (i+1)→h'.IsTupleIter j2 u2 (i+1)→IsPair h' T x y→
   (∀c o,c≠z→c≠j1→c≠j2→s.heap.get? c=some o→h'.get? c=some o)→Q (.ref T) {s with heap:=h'}) :
  wpAny (model prog w) A (Builtin.«zip.__next__» ⟨[.ref z],[]⟩) (λfin s'=>∃v,fin=.done (.ret v)∧Q v s') E s:=by
 show wpAny _ _ (field (.ref z) 2 >>= _) _ _ _
 exact aaa (aaO hz rfl (x:=.bool false) rfl ?_);show wpAny _ _ (field (.ref z) 3 >>= _) _ _ _
 exact aaa (aaO hz rfl (x:=.ref p) rfl ?_);exact aaa (abi hp rfl ?_);show wpAny _ _ (Builtin.SmallTypes.ownedTupleIsFree (.ref z) >>= _) _ _ _
 have own:wpAny (model prog w) A (Builtin.SmallTypes.ownedTupleIsFree (.ref z)) (λb s'=>b=false∧∃g1,s'={s with heap:=g1}∧rX g1 z p r (rawInt t) (.bool true)∧Heap.SameBut z s.heap g1) E s:=by
  unfold Builtin.SmallTypes.ownedTupleIsFree;exact aaa (aaO hz rfl (x:=rawInt t) rfl ?_);show wpAny _ _ (loadIfAlive ((t:Nat):Int).toNat >>= _) _ _ _
  rw[abS];exact aaa (W.kdx_alive ht ?_);dsimp only[Option.isNone];rw[aaz aal];exact aaa (aaO hz rfl (x:=.bool fl) rfl ?_);cases fl with
  |true=>exact aad ⟨rfl,s.heap,rfl,hz,Heap.SameBut.refl _ _⟩
  |false=>
   rw[aaA (by decide)];exact aaa (wpAny_setField_rec hz (by simp) λg1 z1 e1=>aad ⟨rfl,g1,rfl,z1,e1⟩)
 exact aaa (aaB own (λb s' hb=>?_) λ_ _ e=>e);let⟨rfl,⟨g1,rfl,z1,e1⟩⟩:=hb;rw[aaz aal];exact aaa ?_;simp only[←adO,acP,ac0];exact aaa (aaa (aaR ?_));show wpAny _ _ (Builtin.SmallTypes.nextOf (.ref j1) >>= _) _ _ _
 exact aaa (gY (h1.extBut e1.extBut D.E5) (l1.extBut e1.extBut D.NP) hx λg2 a2 e2=>aad ?_);exact aad ?_;dsimp only;exact aaa (aaa (aaR ?_));show wpAny _ _ (Builtin.SmallTypes.nextOf (.ref j2) >>= _) _ _ _
 exact aaa (gY ((h2.extBut e1.extBut D.Jy).extBut e2.extBut D.PZ.symm) ((l2.extBut e1.extBut D.Sl).extBut e2.extBut D.J8) hy λg3 a3 e3=>aad ?_);exact aad ?_;dsimp only;exact aad ?_;dsimp only;have sz:g3.objs.size=s.heap.objs.size:=by rw[e3.1,e2.1,e1.1]
 exact aaa (wpAny_newTuple (hsz:=by show 2≤sizeLine;decide) ?_);exact aad ⟨_,rfl,?_⟩;have up:∀c o,g3.get? c=some o→(g3.push {cls:=.type "tuple",data:=.seq #[x,y]}).get? c=some o:=λc o e=>aab _ e;exact q _ g3.objs.size (by rw[sz];exact aan _) (up _ _ (e3.extBut _ _ D.Jy.symm (e2.extBut _ _ D.E5.symm z1))) (pM (a2.extBut e3.extBut D.PZ) λo e=>up _ o e) (pM a3 λo e=>up _ o e) (aaq _ rfl) λc o n1 n2 n3 e=>up _ o (e3.extBut _ _ n3 (e2.extBut _ _ n2 (e1.extBut _ _ n1 e)))
theorem sf{vs:Array Value}{Q:Fin→Shared→Prop}(hh:A.handled=none)(D:Apart z p r j1 j2 u1 u2)
  (hz:rX s.heap z p r (rawInt t) (.bool fl)) (ht:s.heap.get? t=some ot) (hp:IsPair s.heap p (.ref j1) (.ref j2))
  (h1:s.heap.IsTupleIter j1 u1 i) (l1:s.heap.IsTuple u1 vs) (hx:vs[i]?=none)
  (q:∀h' e,(∀c o,c≠z→c≠j1→c≠j2→s.heap.get? c=some o→h'.get? c=some o)→(∃o,h'.get? e=some o∧o.cls=.type "StopIteration")→E (.ref e) {s with heap:=h'}) :
  wpAny (model prog w) A (Builtin.«zip.__next__» ⟨[.ref z],[]⟩) Q E s:=by
 show wpAny _ _ (field (.ref z) 2 >>= _) _ _ _
 exact aaa (aaO hz rfl (x:=.bool false) rfl ?_);show wpAny _ _ (field (.ref z) 3 >>= _) _ _ _
 exact aaa (aaO hz rfl (x:=.ref p) rfl ?_);exact aaa (abi hp rfl ?_);show wpAny _ _ (Builtin.SmallTypes.ownedTupleIsFree (.ref z) >>= _) _ _ _
 have own:wpAny (model prog w) A (Builtin.SmallTypes.ownedTupleIsFree (.ref z)) (λb s'=>b=false∧∃g1,s'={s with heap:=g1}∧Heap.SameBut z s.heap g1) E s:=by
  unfold Builtin.SmallTypes.ownedTupleIsFree;exact aaa (aaO hz rfl (x:=rawInt t) rfl ?_);show wpAny _ _ (loadIfAlive ((t:Nat):Int).toNat >>= _) _ _ _
  rw[abS];exact aaa (W.kdx_alive ht ?_);dsimp only[Option.isNone];rw[aaz aal];exact aaa (aaO hz rfl (x:=.bool fl) rfl ?_);cases fl with
  |true=>exact aad ⟨rfl,s.heap,rfl,Heap.SameBut.refl _ _⟩
  |false=>
   rw[aaA (by decide)];exact aaa (wpAny_setField_rec hz (by simp) λg1 z1 e1=>aad ⟨rfl,g1,rfl,e1⟩)
 exact aaa (aaB own (λb s' hb=>?_) λ_ _ e=>e);let⟨rfl,⟨g1,rfl,e1⟩⟩:=hb;rw[aaz aal];exact aaa ?_;simp only[←adO,acP,ac0];exact aaa (aaa (aaR ?_));show wpAny _ _ (Builtin.SmallTypes.nextOf (.ref j1) >>= _) _ _ _
 exact aaa (oH hh (h1.extBut e1.extBut D.E5) (l1.extBut e1.extBut D.NP) hx λg2 e e2 he=>q g2 e (λc o n1 n2 n3 x=>e2 _ _ n2 (e1.extBut _ _ n1 x)) he)
end
section
theorem eG.upd{b T:Addr}{o:HO}(h:eG X pins H b)(n:b≠T):eG X pins (L2.upd H T o) b:=⟨by rw[ao n];exact h.1,h.2⟩
theorem BD{Q:Option Value→Shared→Prop}{tv:List V}(I:Inv X pins σ H s)(D:Apart z p r j1 j2 u1 u2)(hf:∀b∈[z,p,r,j1,j2],eG X pins H b)
  (hz:rX s.heap z p r (rawInt t) (.bool fl)) (ht:H t=some (.tup tv)) (hp:IsPair s.heap p (.ref j1) (.ref j2)) (hr:∃u v,IsPair s.heap r u v) (h1:s.heap.IsTupleIter j1 u1 i) (h2:s.heap.IsTupleIter j2 u2 i)
  (sO:cW X.K H u1 xs) (uU:cW X.K H u2 ys) (hx:xs[i]?=some x) (hy:ys[i]?=some y)
  (q:∀T h',H T=none→Inv X pins σ (upd H T (.tup [x,y])) {s with heap:=h'}→(∀b∈[z,p,r,j1,j2],eG X pins (upd H T (.tup [x,y])) b)→rX h' z p r (rawInt t) (.bool true)→IsPair h' p (.ref j1) (.ref j2)→(∃u v,IsPair h' r u v)→
   h'.IsTupleIter j1 u1 (i+1)→h'.IsTupleIter j2 u2 (i+1)→Q (some (.ref T)) {s with heap:=h'}):wpAny (model X.prog X.w) A (pyNext (.ref z)) Q E s:=by
 let⟨its,rv,pl,_⟩:=I.tuple sO;let⟨ik,oq,kK,_⟩:=I.tuple uU;let⟨vx,ex,rx⟩:=rv.get hx;let⟨vy,ey,ry⟩:=oq.get hy;have hT:s.TypeIs (.ref z) "zip" :=⟨_,hz,rfl⟩;have tz:t≠z:=λe=>by rw[e,(hf z (by simp)).1]at ht;cases ht
 let⟨_,⟨Yt,_,⟨ot,ho,_⟩⟩⟩:=(show bS X.prog X.w H s.heap t (.tup tv)from I.bp t _ ht);unfold pyNext;exact aaa (ab0 (aaV (name:=Str.ofString "__next__") hT abr (abj abr hT acs
  (Be D tz hz ho hp h1 h2 pl kK (by simpa using ex) (by simpa using ey) λg T UX a1 a3 a4 a5 a7=>aad ?_) (ack _))))
 have zl:z<s.heap.objs.size:=aak hz;have lt:∀c∈[z,p,r,j1,j2],c≠T:=λc hc e=>by
  have h0:=(hf c hc);have:c<s.heap.objs.size:=by
   simp only[aah,aao,abg]at hc;let⟨_,q1,_⟩:=h1;let⟨_,q2,_⟩:=h2;rcases hc with rfl|rfl|rfl|rfl|rfl
   ·exact zl
   ·exact aak hp
   ·let⟨_,_,q3⟩:=hr
    exact aak q3
   ·exact aak q1
   ·exact aak q2
  exact absurd (e ▸ this) (Nat.not_lt.mpr UX)
 let⟨ru,Ti,Mf⟩:=hr;exact q T g (I.bp.fresh UX) (I.n5 (t':=s.toks) (ch:=[z,j1,j2]) (λc o hc e=>?_) (λc hc=>hf c ?_) UX ⟨by show 2≤sizeLine;decide,[vx,vy],.cons rx (.cons ry .nil),⟨_,a5,rfl,0,rfl⟩⟩) (λb hb=>(hf b hb).upd (lt b hb)) a1 (a7 _ _ D.pz D.TF D.TC hp) ⟨ru,Ti,a7 _ _ D.rz D.O7 D.O6 Mf⟩ a3 a4
 ·simp only[aah,aao,abg,not_or]at hc
  exact a7 c o hc.1 hc.2.1 hc.2.2 e
 ·simp only[aah,aao,abg]at hc ⊢
  rcases hc with rfl|rfl|rfl<;>simp
def Ba(H:Hp)(xs ys:List V)(ts:List Addr):Prop:=∀(j:Nat) (t:Addr),ts[j]?=some t→∃x y,xs[j]?=some x∧ys[j]?=some y∧H t=some (.tup [x,y])
theorem Ba.keep(h:Ba H xs ys ts)(k:∀b v,H b=some (.tup v)→H' b=some (.tup v)):Ba H' xs ys ts:=λj t e=>by
 let⟨x,y,a,b,c⟩:=h j t e;exact Ψ2 x y ⟨a,b,k _ _ c⟩
theorem Ba.snoc{T:Addr}(h:Ba H xs ys ts)(hx:xs[ts.length]?=some x)(hy:ys[ts.length]?=some y)(hT:H T=some (.tup [x,y])):Ba H xs ys (ts++[T]):=λj t e=>by
 by_cases hj:j<ts.length
 ·rw[aaT hj]at e;exact h j t e
 ·rw[aaS (by lia)]at e
  have:j-ts.length=0:=by
   by_cases h0:j-ts.length=0
   ·exact h0
   ·rw[aaH (by simp;lia)]at e;cases e
  have ej:j=ts.length:=by lia
  subst ej;simp at e;subst e;exact Ψ2 x y ⟨hx,hy,hT⟩
theorem cW.step{ls vs:List V}(k:∀b o,b≠S→H b=some o→H' b=some o)(hS:H S=some (.lst ls))(h:cW K H a vs):cW K H' a vs:=by
 rcases h with(h|⟨o,h⟩)|h
 ·exact .inl (.inl (k a _ (pk h hS (by intro z;cases z)) h))
 ·exact .inl (.inr ⟨o,k a _ (pk h hS (by intro z;cases z)) h⟩)
 ·exact .inr h
theorem BX{R:Result→Shared→Prop}(hh:A.handled=none)(D:Apart z p r j1 j2 u1 u2)(hlen:xs.length=ys.length)(hn:xs.length≤sizeLine):
  ∀(k i:Nat) (s:Shared) (H:Hp) (t:Addr) (fl:Bool) (tv:List V) (ts:List Addr),xs.length-i=k→i≤xs.length→Inv X pins σ H s→(∀b∈[z,p,r,j1,j2],eG X pins H b)→
   rX s.heap z p r (rawInt t) (.bool fl)→H t=some (.tup tv)→IsPair s.heap p (.ref j1) (.ref j2)→(∃u v,IsPair s.heap r u v)→s.heap.IsTupleIter j1 u1 i→s.heap.IsTupleIter j2 u2 i→cW X.K H u1 xs→cW X.K H u2 ys→
   H S=some (.lst (ts.map V.ref))→ts.length=i→Ba H xs ys ts→
   (∀s' H' nK,Inv X pins σ H' s'→(∀b o,b≠S→H b=some o→H' b=some o)→H' S=some (.lst (nK.map V.ref))→nK.length=xs.length→Ba H' xs ys nK→R (.ok (.ret res)) s')→
   codeAny (model X.prog X.w) A (.builtin "list.extend.loop" ⟨[.ref S,.ref z,res],[]⟩) R s:=by
 intro k;induction k with
 |zero=>
  intro i s H t fl tv ts hk hi I hf hz ht hp hr h1 h2 sO uU hS hl hP hR;have ei:i=xs.length:=by lia
  subst ei;exact abI ad1 ?_;rw[abv ab1 _];show wpAny _ A.in1 (pyNext (.ref z) >>= _) _ _ s
  let⟨its,rv,pl,_⟩:=I.tuple sO;have l1:=rv.length;have hT:s.TypeIs (.ref z) "zip" :=⟨_,hz,rfl⟩;let⟨_,⟨Yt,_,⟨ot,ho,_⟩⟩⟩:=(show bS X.prog X.w H s.heap t (.tup tv)from I.bp t _ ht);exact aaa ?_;unfold pyNext;exact aaa (ab0 (aaV (name:=Str.ofString "__next__") hT abr (abj abr hT acs
   (sf hh D hz ho hp h1 pl (by simp;lia) λg e kk he=>?_) (ack _))))
  let⟨o,m6,AH⟩:=he;exact aaa (adD (T := "StopIteration") (b:=true) ⟨o,m6,AH⟩ isSubtype_stop ?_);exact aad (aad (hR _ H ts (I.n8 (t':=s.toks) (ch:=[z,j1,j2]) (λc o hc e=>?_) (λc hc=>hf c ?_)) (λ_ _ _ h=>h) hS hl hP))
  ·simp only[aah,aao,abg,not_or]at hc
   exact kk c o hc.1 hc.2.1 hc.2.2 e
  ·simp only[aah,aao,abg]at hc ⊢
   rcases hc with rfl|rfl|rfl<;>simp
 |succ k ih=>
  intro i s H t fl tv ts hk hi I hf hz ht hp hr h1 h2 sO uU hS hl hP hR;have cG:i<xs.length:=by lia
  have UI:i<ys.length:=by lia
  exact abI ad1 ?_;rw[abv ab1 _];show wpAny _ A.in1 (pyNext (.ref z) >>= _) _ _ s
  have hx:xs[i]?=some xs[i]:=aac cG;have hy:ys[i]?=some ys[i]:=aac UI;exact aaa (BD I D hf hz ht hp hr h1 h2 sO uU hx hy λT g JG I1 Y8 z1 p1 r1 a1 a2=>?_);have MB:(upd H T (.tup [xs[i],ys[i]])) S=some (.lst (ts.map V.ref)):=by rw[ao (au hS JG)];exact hS
  let⟨zz,⟨its,n,rv,BR,e⟩⟩:=I1.BI MB;have ST:S≠T:=au hS JG;show wpAny _ A.in1 (updateSeq S (·.push (.ref T)) >>= _) _ _ _
  exact aaa ?_;have I2:=I1.wJ (its':=its++[.ref T]) (ys:=ts.map V.ref++[.ref T]) (f:=(·.push (Value.ref T))) (t':=s.toks) MB e (by simp) (rv.append (.cons (show RelV (.ref T) (.ref T)from rfl) .nil)) (by rw[aag,aae,List.length_singleton];lia);have st:∀b o,b≠S→H b=some o→(upd (upd H T (.tup [xs[i],ys[i]])) S (.lst (ts.map V.ref++[.ref T]))) b=some o:=λb o hb h=>by rw[ao hb,ao (au h JG)];exact h
  have sp:∀b∈[z,p,r,j1,j2],b≠S:=λb hb e=>by have:=(hf b hb).1;rw[e,hS]at this;cases this
  have kp:∀b o,b≠S→g.get? b=some o→(g.update S (Obj.mapSeq (·.push (Value.ref T)))).get? b=some o:=λb o hb e=>(aaF _ _ (abM hb)).trans e;exact abU e rfl (aad ⟨abF ab1 _,ih (i+1) _ _ t true tv (ts++[T]) (by lia) cG I2 (λb hb=>(Y8 b hb).upd (sp b hb)) (kp _ _ (sp z (by simp)) z1) ?_ (kp _ _ (sp p (by simp)) p1) ?_ (pM a1 λo e=>kp _ o (sp j1 (by simp)) e) (pM a2 λo e=>kp _ o (sp j2 (by simp)) e) ?_ ?_ ?_ ?_ ?_ ?_⟩) (by simp;rw[←BR,aae];lia) (by simp;rw[←BR,aae];lia)
  ·exact st t _ (pk ht hS (by intro z;cases z)) ht
  ·let⟨u,v,q⟩:=r1
   exact Ψ2 u v (kp _ _ (sp r (by simp)) q)
  ·exact sO.step st hS
  ·exact uU.step st hS
  ·rw[ar,aaf];rfl
  ·rw[aag,hl];rfl
  ·exact(hP.keep λb v h=>st b _ (pk h hS (by intro z;cases z)) h).snoc (by rw[hl];exact hx) (by rw[hl];exact hy) (by rw[ao ST.symm];exact ar)
  ·intro s' H' nK I' k' AK Mm Fi
   exact hR s' H' nK I' (λb o hb h=>k' b o hb (st b o hb h)) AK Mm Fi
end
theorem yd:typeLookup (.type "zip") "__len__" = pure none:=by rw[ac2,acd];kernel_rfl
theorem vH:typeLookup (.type "zip") "__length_hint__" = pure none:=by rw[ac2,acd];kernel_rfl
section
theorem zp{R:Result→Shared→Prop}(hh:A.handled=none)(D:Apart z p r j1 j2 u1 u2)(hlen:xs.length=ys.length)(hn:xs.length≤sizeLine)
  (I:Inv X pins σ H s) (hf:∀b∈[z,p,r,j1,j2],eG X pins H b) (hz:IsZip s.heap z p r .none) (hp:IsPair s.heap p (.ref j1) (.ref j2)) (hr:∃u v,IsPair s.heap r u v) (h1:s.heap.IsTupleIter j1 u1 0) (h2:s.heap.IsTupleIter j2 u2 0)
  (sO:cW X.K H u1 xs) (uU:cW X.K H u2 ys) (hS:H S=some (.lst []))
  (hR:∀s' H' nK,Inv X pins σ H' s'→(∀b o,b≠S→H b=some o→H' b=some o)→H' S=some (.lst (nK.map V.ref))→nK.length=xs.length→Ba H' xs ys nK→R (.ok (.ret res)) s') :
  codeAny (model X.prog X.w) A (.builtin "list.extend.loop" ⟨[.ref S,.ref z,res],[]⟩) R s:=by
 obtain⟨ra,rb,hr⟩:=hr;let⟨its,rv,pl,_⟩:=I.tuple sO;let⟨ik,oq,kK,_⟩:=I.tuple uU;have l1:=rv.length;have l2:=oq.length;have hT:s.TypeIs (.ref z) "zip" :=⟨_,hz,rfl⟩;exact abI ad1 ?_;rw[abv ab1 _];show wpAny _ A.in1 (pyNext (.ref z) >>= _) _ _ s
 exact aaa ?_;unfold pyNext;by_cases h0:0<xs.length
 ·have hx:xs[0]?=some xs[0]:=aac h0
  have hy:ys[0]?=some ys[0]:=aac (by lia);let⟨vx,ex,rx⟩:=rv.get hx;let⟨vy,ey,ry⟩:=oq.get hy;exact aaa (ab0 (aaV (name:=Str.ofString "__next__") hT abr (abj abr hT acs
   (tD D hz hp hr h1 h2 pl kK (by simpa using ex) (by simpa using ey) λg a1 a2 a3 a4 a5 a6 a7=>aad ?_) (ack _))))
  have lt:∀c∈[z,p,r,j1,j2],c≠s.heap.objs.size:=λc hc e=>by
   have:c<s.heap.objs.size:=by
    simp only[aah,aao,abg]at hc;let⟨_,q1,_⟩:=h1;let⟨_,q2,_⟩:=h2;rcases hc with rfl|rfl|rfl|rfl|rfl
    ·exact aak hz
    ·exact aak hp
    ·exact aak hr
    ·exact aak q1
    ·exact aak q2
   exact absurd this (by rw[e];exact abo _)
  have JG:H s.heap.objs.size=none:=I.fresh;generalize Zi:s.heap.objs.size=T at a1 a5 a6 JG lt;have I1:Inv X pins σ (upd H T (.tup [xs[0],ys[0]])) {s with heap:=g}:=by
   exact I.n5 (t':=s.toks) (ch:=[z,r,j1,j2]) (λc o hc e=>?_) (λc hc=>hf c ?_) (by rw[Zi];exact aan _) ⟨by show 2≤sizeLine;decide,[vx,vy],.cons rx (.cons ry .nil),⟨_,a5,rfl,0,rfl⟩⟩
   ·simp only[aah,aao,abg,not_or]at hc
    exact a7 c o hc.1 hc.2.1 hc.2.2.1 hc.2.2.2 e
   ·simp only[aah,aao,abg]at hc ⊢
    rcases hc with rfl|rfl|rfl|rfl<;>simp
  have MB:(upd H T (.tup [xs[0],ys[0]])) S=some (.lst []):=by rw[ao (au hS JG)];exact hS
  let⟨zz,⟨its',n,Ti,BR,e⟩⟩:=I1.BI MB;have ST:S≠T:=au hS JG;show wpAny _ A.in1 (updateSeq S (·.push (.ref T)) >>= _) _ _ _
  exact aaa ?_;have I2:=I1.wJ (its':=its'++[.ref T]) (ys:=[]++[.ref T]) (f:=(·.push (Value.ref T))) (t':=s.toks) MB e (by simp) (Ti.append (.cons (show RelV (.ref T) (.ref T)from rfl) .nil)) (by show 1≤sizeLine;decide);have st:∀b o,b≠S→H b=some o→(upd (upd H T (.tup [xs[0],ys[0]])) S (.lst ([]++[.ref T]))) b=some o:=λb o hb h=>by rw[ao hb,ao (au h JG)];exact h
  have sp:∀b∈[z,p,r,j1,j2],b≠S:=λb hb e=>by have:=(hf b hb).1;rw[e,hS]at this;cases this
  have kp:∀b o,b≠S→g.get? b=some o→(g.update S (Obj.mapSeq (·.push (Value.ref T)))).get? b=some o:=λb o hb e=>(aaF _ _ (abM hb)).trans e;have li:its'.length=0:=by rw[←BR];rfl
  exact abU e rfl (aad ⟨abF ab1 _,BX (S:=S) hh D hlen hn _ 1 _ _ T false [xs[0],ys[0]] [T] rfl h0 I2 (λb hb=>((hf b hb).upd (lt b hb)).upd (sp b hb)) (kp _ _ (sp z (by simp)) a1) ?_ (kp _ _ (sp p (by simp)) (a7 _ _ D.pz D.pr D.TF D.TC hp)) ⟨vx,vy,kp _ _ (sp r (by simp)) a2⟩ (pM a3 λo e=>kp _ o (sp j1 (by simp)) e) (pM a4 λo e=>kp _ o (sp j2 (by simp)) e) (sO.step st hS) (uU.step st hS) ar rfl ?_ ?_⟩) (by simp;lia) (by simp;lia)
  ·rw[ao ST.symm];exact ar
  ·have:Ba (upd (upd H T (.tup [xs[0],ys[0]])) S (.lst ([]++[.ref T]))) xs ys ([]++[T]):=Ba.snoc (λj t e=>by simp at e) hx hy (by rw[ao ST.symm];exact ar)
   exact this
  ·intro s' H' nK I' k' AK Mm Fi
   exact hR s' H' nK I' (λb o hb h=>k' b o hb (st b o hb h)) AK Mm Fi
 ·have e0:xs.length=0:=by lia
  exact aaa (ab0 (aaV (name:=Str.ofString "__next__") hT abr (abj abr hT acs
   (vK hh D hz hp hr h1 h2 pl kK (.inl (by rw[acA];exact aaH (by lia))) λg e kk he=>?_) (ack _))))
  let⟨o,m6,AH⟩:=he;exact aaa (adD (T := "StopIteration") (b:=true) ⟨o,m6,AH⟩ isSubtype_stop ?_);exact aad (aad (hR _ H [] (I.n8 (t':=s.toks) (ch:=[z,r,j1,j2]) (λc o hc e=>?_) (λc hc=>hf c ?_)) (λ_ _ _ h=>h) hS e0.symm (λj t e=>by simp at e)))
  ·simp only[aah,aao,abg,not_or]at hc
   exact kk c o hc.1 hc.2.1 hc.2.2.1 hc.2.2.2 e
  ·simp only[aah,aao,abg]at hc ⊢
   rcases hc with rfl|rfl|rfl|rfl<;>simp
theorem sX(hh:X.A.handled=none)(D:Apart z p r j1 j2 u1 u2)(hlen:xs.length=ys.length)
  (I:Inv X pins σ H s) (hf:∀b∈[z,p,r,j1,j2],eG X pins H b) (hz:IsZip s.heap z p r .none) (hp:IsPair s.heap p (.ref j1) (.ref j2)) (hr:∃u v,IsPair s.heap r u v) (h1:s.heap.IsTupleIter j1 u1 0) (h2:s.heap.IsTupleIter j2 u2 0)
  (sO:cW X.K H u1 xs) (uU:cW X.K H u2 ys)
  (hQ:∀L s' H' nK,H L=none→Inv X pins σ H' s'→(∀b o,H b=some o→H' b=some o)→H' L=some (.lst (nK.map V.ref))→nK.length=xs.length→Ba H' xs ys nK→Q (.ref L) s') :
  wpAny (model X.prog X.w) X.A (call (.type "list") [.ref z]) Q E s:=by
 let⟨its,rv,pl,hn⟩:=I.tuple sO;exact callType_codes (Q₁:=λobj s₁=>obj=.ref s.heap.objs.size∧s₁={s with heap:=s.heap.push {cls:=.type "list",data:=.seq #[]}}) F.called_list (F.typeCall_list_1 _) F.entry_list_init
  (code_list_new _ ⟨rfl,rfl⟩) λobj s₁ h₁=>?_
 let⟨rfl,rfl⟩:=h₁;have hS:(s.heap.push {cls:=.type "list",data:=.seq #[]}).get? s.heap.objs.size=some {cls:=.type "list",data:=.seq #[]}:=aaq _ rfl;have I1:=I.T4 (ys:=[]) (its:=[]) (t':=s.toks) .nil (aaE _);have RO:H s.heap.objs.size=none:=I.fresh;have lt:∀c∈[z,p,r,j1,j2],c<s.heap.objs.size:=λc hc=>by
  simp only[aah,aao,abg]at hc;let⟨_,q1,_⟩:=h1;let⟨_,q2,_⟩:=h2;let⟨_,_,q3⟩:=hr;rcases hc with rfl|rfl|rfl|rfl|rfl
  ·exact aak hz
  ·exact aak hp
  ·exact aak q3
  ·exact aak q1
  ·exact aak q2
 generalize hSS:s.heap.objs.size=S at hS I1 RO lt ⊢;have k0:∀b o,s.heap.get? b=some o→(s.heap.push {cls:=.type "list",data:=.seq #[]}).get? b=some o:=λb o e=>aab _ e;exact⟨⟨_,hS,rfl⟩,F.args_list_init_2 _ _,?_⟩;show wpAny _ X.A.in1.in1 (do let old ←Builtin.List.listItems (.ref S);Builtin.List.listUpdate (.ref S) (λ_=>#[]);letGo old.toList.reverse;Builtin.List.listExtendWith (.ref S) (.ref z) .none) _ _ _
 exact aaa ?_;unfold Builtin.List.listItems;exact aaa (abi hS rfl (aad ?_));show wpAny _ X.A.in1.in1 (updateSeq S (λ_=>#[]) >>= λ_=>letGo (#[]:Array Value).toList.reverse >>= λ_=>Builtin.List.listExtendWith (.ref S) (.ref z) .none) _ _ _
 exact aaa (abU hS rfl ?_);have I2:=I1.wJ (ys:=[]) (its':=[]) (f:=λ_=>(#[]:Array Value)) (t':=s.toks) ar hS rfl .nil (aaE _);have UY:=abt (Obj.mapSeq (λ_=>(#[]:Array Value))) hS rfl;exact aaa (acb ?_);unfold Builtin.List.listExtendWith;have sp:∀b∈[z,p,r,j1,j2],b≠S:=λb hb=>aaw (lt b hb);have Zj:S≠z:=(sp z (by simp)).symm;have TH:∀b o,b≠S→s.heap.get? b=some o→((s.heap.push {cls:=.type "list",data:=.seq #[]}).update S (Obj.mapSeq (λ_=>(#[]:Array Value)))).get? b=some o:=λb o hb e=>(aaF _ _ (abM hb)).trans (k0 b o e);have hT:Shared.TypeIs {s with heap:=(s.heap.push {cls:=.type "list",data:=.seq #[]}).update S (Obj.mapSeq (λ_=>(#[]:Array Value)))} (.ref z) "zip" :=⟨_,TH _ _ (sp z (by simp)) hz,rfl⟩;exact aaa (adf hT ?_);have g1:Builtin.List.listSameRef (.ref S) (.ref z)=false:=by simp[Builtin.List.listSameRef,Zj]
 have g2:(Value.type "zip" == Value.type "list")=false:=by decide
 have g3:(Value.type "zip" == Value.type "tuple")=false:=by decide
 simp only[g1,g2,g3,Bool.or_false,acr,ac9];exact aaa (aeh (TH _ _ (sp z (by simp)) hz) ?_);exact aaa (aaR ?_);unfold Builtin.List.listLengthHint;exact aaa (abV hT yd ?_);show wpAny _ X.A.in1.in1 (specialOf (Value.ref z) (Str.ofString "__length_hint__") >>= _) _ _ _
 exact aaa (abV hT vH ?_);exact aad ?_;show wpAny _ X.A.in1.in1 (rule "list.extend.makes-room" >>= λ_=>Builtin.List.listTouch (.ref S) >>= λ_=>
  again (.builtin "list.extend.loop" ⟨[.ref S,.ref z,.none],[]⟩)) _ _ _
 exact aaa (acu ?_);exact aaa ?_;show wpAny _ X.A.in1.in1 (updateSeq S (·.push .none) >>= λ_=>updateSeq S (·.pop)) _ _ _
 exact aaa (abU UY rfl ?_);have I3:=I2.wJ (ys:=[.non]) (its':=[.none]) (f:=(·.push Value.none)) (t':=s.toks) ar UY rfl (.cons rfl .nil) (by show 1≤sizeLine;decide);have WN:=abt (Obj.mapSeq (·.push Value.none)) UY rfl;exact abU (hz:=by seq_fits) WN rfl ?_;have I4:=I3.wJ (ys:=[]) (its':=[]) (f:=(·.pop)) (t':=s.toks) ar WN rfl .nil (aaE _);have Ep:∀b o,b≠S→s.heap.get? b=some o→((((s.heap.push {cls:=.type "list",data:=.seq #[]}).update S (Obj.mapSeq (λ_=>(#[]:Array Value)))).update S (Obj.mapSeq (·.push Value.none))).update S (Obj.mapSeq (·.pop))).get? b=some o:=λb o hb e=>
  (aaF _ _ (abM hb)).trans ((aaF _ _ (abM hb)).trans (TH b o hb e))
 have st:∀b o,H b=some o→(upd (upd (upd (upd H S (.lst [])) S (.lst [])) S (.lst [.non])) S (.lst [])) b=some o:=λb o h=>by
  have:=au h RO;rw[ao this,ao this,ao this,ao this];exact h
 obtain⟨ra,rb,hr⟩:=hr;have sq:∀{a:Addr} {vs:List V},cW X.K H a vs→cW X.K (upd (upd (upd (upd H S (.lst [])) S (.lst [])) S (.lst [.non])) S (.lst [])) a vs:=λh=>by
  rcases h with(h|⟨o,h⟩)|h
  ·exact .inl (.inl (st _ _ h))
  ·exact .inl (.inr ⟨o,st _ _ h⟩)
  ·exact .inr h
 exact aad ⟨abF ab1 _,zp (S:=S) (A:=X.A.in1) hh D hlen hn I4 (λb hb=>((((hf b hb).upd (sp b hb)).upd (sp b hb)).upd (sp b hb)).upd (sp b hb)) (Ep _ _ (sp z (by simp)) hz) (Ep _ _ (sp p (by simp)) hp) ⟨ra,rb,Ep _ _ (sp r (by simp)) hr⟩
  (pM h1 λo e=>Ep _ o (sp j1 (by simp)) e) (pM h2 λo e=>Ep _ o (sp j2 (by simp)) e) (sq sO) (sq uU) ar λs' H' nK I' k' AK BR Fi=>?_⟩
 exact⟨rfl,hQ S s' H' nK RO I' (λb o h=>k' b o (au h RO) (st b o h)) AK BR Fi⟩
end
section
variable {a b:Expr}{ta:TA}{p1 p2 Lu wo:Pos}
def XH(K:W.Frag)(ta:TA):TE:=λσ H Q=>ta σ H λvs H1=>∃(u1 u2:Addr) (xs ys:List V),vs=[.ref u1,.ref u2]∧cW K H1 u1 xs∧cW K H1 u2 ys∧xs.length=ys.length∧
 ∀(L:Addr) (H':Hp) (ts:List Addr),H1 L=none→Kp [] H1 H'→H' L=some (.lst (ts.map V.ref))→ts.length=xs.length→Ba H' xs ys ts→Q (.ref L) H'
theorem yP(hc:X.calm=true)(hg:Gl X "list")(hm:X.mg "list" = none)(UM:Gl X "zip")(Qm:X.mg "zip" = none)(ha:PA X [a,b] ta)
  (hs:starEach [a,b] X.env=[(false,eval a X.env),(false,eval b X.env)]:=by rfl) (ya:starEach [b] X.env=[(false,eval b X.env)]:=by rfl)
  (hz:starEach [.Call (.Name "zip" p2) [a,b] [] wo] X.env=[(false,eval (.Call (.Name "zip" p2) [a,b] [] wo) X.env)]:=by rfl) :
  PE X (.Call (.Name "list" p1) [.Call (.Name "zip" p2) [a,b] [] wo] [] Lu) (XH X.K ta):=by
 exact .mk ?_;intro pins s σ H Q I h;exact Call_ (gZ I hg hm boot_list (abd ?_ (by rw[hz];rfl) rfl));rw[hz];exact Calls.spliced_cons ?_;exact Call_ (gZ I UM Qm boot_zip (abd (bD (ha wo pins s σ H _ I h) λus s1 ξ=>Ξ23 ξ λvs H1 I1 r1 q1=>?_) (by rw[hs,ya]) (by rw[ya];rfl)));let⟨u1,u2,xs,ys,e,hx,hy,hl,q⟩:=q1;subst e;cases r1 with
 |cons r rr=>
  cases rr with
  |cons r' rr=>
   cases rr;cases r;cases r';let⟨its,rv,pl,_⟩:=I1.tuple hx;let⟨ik,oq,kK,_⟩:=I1.tuple hy;let⟨o1,e1,_⟩:=id pl;let⟨o2,e2,_⟩:=id kK;exact ua pl kK λh' hz hp hr j1 j2 k=>?_;exact Calls.spliced_nil ?_;have I2:Inv X pins σ H1 {s1 with heap:=h'}:=I1.kept (t':=s1.toks) k;exact sX (I.ok.hd hc) (apart_new (aak e1) (aak e2)) hl I2 (λc hc=>?_) hz hp ⟨_,_,hr⟩ j1 j2 hx hy λL s' H' ts hL I' k' hS BR hP=>Ψ2 (.ref L) H' ⟨I',rfl,q L H' ts hL (λb o _ h=>k' b o h) hS BR hP⟩;have Ct:s1.heap.objs.size≤c:=by
    simp only[aah,aao,abg]at hc;rcases hc with rfl|rfl|rfl|rfl|rfl<;>first|exact aan _|exact acC _ _
   have f:=I1.xq Ct (I1.bp.fresh Ct);exact f
end
section
theorem Ey(hu:X.A.units<cLine):ja X (compareOp .Eq) (λx y H Q=>∃a b xs,x=.ref a∧y=.ref b∧eh X.K H a xs∧eh X.K H b []∧Q (.bl xs.isEmpty) H):=by
 intro pins s σ H x y v u Q I rx ry h;let⟨a,b,xs,rfl,rfl,ha,hb,q⟩:=h;cases rx;cases ry;let⟨its,rv,pl,hz⟩:=I.list ha;let⟨ik,oq,kK,Gf⟩:=I.list hb;cases oq;cases xs with
 |nil=>
  cases rv;exact SeqAt.eq_listAt (e:=λ_=>true) pl.isList kK.isList rfl hu (λj h1 _=>absurd h1 (by simp)) ⟨.bl true,H,I,rfl,q⟩
 |cons x r=>
  cases rv with
  |cons r1 r2=>exact SeqAt.eq_list_lengthsAt pl.isList kK.isList (by simp) hu ⟨.bl false,H,I,rfl,q⟩
theorem ET:Ri X "list.index" (λx vs H Q=>∃(p:Addr) (xs:List V) (y:V) (j:Nat),x=.ref p∧vs=[y]∧eh X.K H p xs∧eK y=true∧xs.all eK=true∧(∃z,xs[j]?=some z∧kQ z y=true)∧(∀m z,m<j→xs[m]?=some z→kQ z y=false)∧Q (.int j) H):=by
 intro pins s σ H x vs v us Q I rx rv h;let⟨p,xs,y,j,rfl,rfl,hq,fy,fs,⟨z,hj,hz⟩,Qg,q⟩:=h;cases rx;let⟨u,rfl,ru⟩:=vals1 rv;obtain⟨its,r,⟨⟨cls,dd,data,sl⟩,n,e,hc,hd,ho⟩,hl⟩:=I.list hq;simp only at hc hd ho;subst hc hd ho;have Yi:=r.length;obtain⟨hjl,_⟩:=aat.mp hj;have at_:∀m (hm:m<its.length) (z:V),xs[m]?=some z→xv y its[m]=kQ z y:=λm hm z hz=>by
  let⟨u',e',r'⟩:=r.get hz;rw[aac hm]at e';cases e';exact zr r' (aaK.mp fs z (aaj hz))
 have hs:sizeLine=16777216:=aa7;exact adp acp ⟨_,e,rfl⟩ PySem.F.entry_list_index (PySem.F.args_list_index_2 _ _) (SeqAt.list_indexAt p its.toArray n none sl u (xv y) j (by simp;lia) (by lia) ?_ ?_) ⟨e,λw hw=>iX ru fy r fs w (by simpa using hw),Ψ2 (.int j) H ⟨I.tok _,⟨_,rfl⟩,q⟩⟩
 ·have:its.toArray[j]'(by simp;lia)=its[j]'(by lia):=by simp
  rw[this,at_ j (by lia) z hj];exact hz
 ·intro m hm cG
  have JC:m<its.length:=by simpa using hm
  have:its.toArray[m]'hm=its[m]'JC:=by simp
  rw[this];have hx:m<xs.length:=by lia
  rw[at_ m JC xs[m] (by simp[hx])];exact Qg m _ cG (by simp[hx])
theorem Hv(hu:X.A.units<cLine):ja X (compareOp .Eq) (λx y H Q=>∃a b xs,x=.ref a∧y=.ref b∧H a=some (.tup xs)∧H b=some (.tup [])∧Q (.bl xs.isEmpty) H):=by
 intro pins s σ H x y v u Q I rx ry h;let⟨a,b,xs,rfl,rfl,ha,hb,q⟩:=h;cases rx;cases ry;let⟨its,rv,pl,hz⟩:=I.tuple (cW.of (K:=X.K) ha);let⟨ik,oq,kK,Gf⟩:=I.tuple (cW.of (K:=X.K) hb);cases oq;exact SeqAt.eq_tupleAt (e:=λ_=>true) pl kK hu (λj h1 h2=>absurd h2 (by simp)) ⟨.bl xs.isEmpty,H,I,?_,q⟩;show _=Value.bool _
 congr 1
 cases xs with
 |nil=>cases rv;rfl
 |cons x r=>cases rv with|cons r1 r2=>simp
end
theorem EW{mg:ac}{base:Heap}{outer:List Env}{k:Nat}{c':Addr}{name qual:Str}{pm vd:Value}
  {N ps:List Str} {us:List Value} {vs:List V} {t:TE} {Q:VK} {args:Args} (hr:dO k A) (e0:x6 P w K mg base A outer s H)
  (ho:s.heap.get? f=some (W.kla_obj name qual params body scope [] pm c' vd)) (pO:s.heap.CodeRec (.ref c') qual)
  (hb:bindArgs (W.kla_fn name qual params body scope [] pm (.ref c') vd) args=pure (ps.zip us)) (S:aF N ps scope) (r:Vals vs us) (hl:vs.length=ps.length)
  (i3:PE (sT fE P w K mg base N qual scope f (.ref c') A outer s H E0) body t) (hq:t (start N vs) H Q) :
  codeAny (model P w) A (.call (.ref f) args) (CR fE outer P w H s Q E0) s:=by
 have lim:s.heap.NoLimit:=e0.mod.nolimit.keeps λb o e=>(e0.bs b o e).1;exact W.kla_callFunE hr.depth ho rfl S.co S.gen rfl pO ?_;rw[hb];exact aad (wpAny_newFunctionEnv_cells S.kind (λ⟨n,v⟩ hy=>?_) λenv he s1 x=>?_)
 ·rcases S.par n (abR hy).1 with q|q
  ·exact .inl q
  ·exact .inr ⟨q,adm _ _ _ (.inl q)⟩
 ·subst he
  exact⟨lim.keeps x.toInCall.keep,W.kla_codeExpr ?_⟩;have I:=tW (CX:=fE) (E:=E0) S hr.hd e0 hl r x;exact aaB (i3 [] s1 (start N vs) H Q I hq) (λu s' ξ=>Ξ23 ξ λv H' J rv q=>Ψ2 v H' ⟨J.os,J.bare,J.base,J.bp,rv,q⟩) λe s' z=>z
def Cj(H:Hp)(P:Addr)(q:Str)(pos:Pos):Prop:=H P=some (.tbl #[])∨∃(c':Addr) (oc:Obj) (vs:Array Value) (t:Tok) (u:HO),
 H P=some (.tbl #[rawInt pos.line,rawInt pos.col,.ref c'])∧H c'=some (.frz oc u)∧oc.data=.fields vs∧vs[1]?=some (.str q t)
def tS(f:Addr)(o:Obj):Heap→Prop:=λh=>h.get? f=some o
theorem wB{h:Heap}(e:h.get? f=some o):bS P w H h f (.ext (tS f o)):=⟨e,⟨o,e⟩,λ_ _ q k=>k _ q⟩
def IV(mg:ac)(base:Heap)(P:Addr):Prop:=base.BuiltinsAt mg P
structure M7(H:Hp)(f:Addr)(qual:Str)(params:Arguments)(body:Expr)(scope:Scope):Prop where
 ex:∃(c':Addr) (oc:Obj) (vs:Array Value) (t:Tok) (u:HO) (pm vd:Value),H f=some (.ext (tS f (W.kla_obj "<lambda>" qual params body scope [] pm c' vd)))∧H c'=some (.frz oc u)∧oc.data=.fields vs∧vs[1]?=some (.str qual t)
section
variable {pos:Pos}{c P:Addr}
theorem LG{q:Str}(hq:X.env.qual ++ "<lambda>" = q)(tX:X.env.code=.ref c)(hC:W.codeHdIn X.K c P=true)(hB:IV X.mg X.base P)(Fg:defaultsOf params X.env=([],[]):=by rfl)(AH:closureFor scope X.env=pure []:=by rfl):
  PE X (.Lambda params body scope pos) (λσ H Q=>Cj H P q pos∧∀(f:Addr) (H':Hp),H f=none→(∀b o,b≠P→H b=some o→H' b=some o)→Cj H' P q pos→(∃o,H' P=some o)→M7 H' f q params body scope→Q (.ref f) H'):=by
 exact .mk ?_;intro pins s σ H Q I⟨lt,k⟩;exact W.kla_eval Fg ?_;rw[hq];have C:W.CodeHd s.heap c P:=W.codeHd_of_K I.rn hC;have G:s.heap.Ns mainGlobals X.mg:=I.mod.glob.keeps I.bk;have hb:s.heap.BuiltinsAt X.mg P:=by
  let⟨bm,o,h1,h2,h3,h4,h5,r⟩:=hB;exact Ψ2 bm o ⟨h1,h2,h3,h4,I.bk _ _ h5,r⟩
 rcases lt with e|⟨c',oc,vs,t,u,e,ec,hd,hv⟩
 ·have hP:s.heap.get? P=some (W.tabObj #[]):=I.bp P _ e
  have Y5:mainGlobals≠P:=λz=>by
   let⟨o,es,ep,g,d,_⟩:=G;rw[z,hP]at g;cases g;cases d
  exact W.kla_makeFunction (mg:=X.mg) AH I.ok.glob G tX C hP trivial rfl Y5 hb λc' vd h' tk hx Nn cG Uy Wz=>?_;let⟨c2,oc,vs,t,e2,Mg,hd,hv⟩:=Uy;cases e2;have P8:h'.get? P=some (W.tabObj #[rawInt pos.line,rawInt pos.col,.ref c']):=by
   have z:(#[]:Array Value) ++ #[rawInt pos.line,rawInt pos.col,.ref c']=#[rawInt pos.line,rawInt pos.col,.ref c']:=by simp
   rw[z]at Wz;exact Wz
  have WO:P<s.heap.objs.size:=aak hP;have nc:H c'=none:=I.bp.fresh Nn;have nf:H h'.objs.size=none:=I.bp.fresh (aaG Nn (aar cG));have cP:c'≠P:=acn (aau WO Nn);have fP:h'.objs.size≠P:=acn (Nat.lt_trans (aau WO Nn) cG);have fc:h'.objs.size≠c':=acn cG;generalize Mi:W.kla_obj "<lambda>" q params body scope [] ((X.mg "__name__").getD .none) c' vd=ob
  let H':Hp:=upd (upd (upd H P (.tbl #[rawInt pos.line,rawInt pos.col,.ref c'])) c' (.frz oc (.own 0))) h'.objs.size (.ext (tS h'.objs.size ob))
  have Xi:H' h'.objs.size=some (.ext (tS h'.objs.size ob)):=ar;have Vy:H' c'=some (.frz oc (.own 0)):=by show upd _ _ _ _=_;rw[ao fc.symm];exact ar
  have Sh:H' P=some (.tbl #[rawInt pos.line,rawInt pos.col,.ref c']):=by show upd _ _ _ _=_;rw[ao fP.symm,ao cP.symm];exact ar
  have Vx:∀b,b≠P→b≠c'→b≠h'.objs.size→H' b=H b:=λb h1 h2 h3=>by show upd _ _ _ _=_;rw[ao h3,ao h2,ao h1]
  have kp:∀b o,b≠P→H b=some o→H' b=some o:=λb o h1 h2=>by rw[Vx b h1 (λz=>by rw[z,nc]at h2;cases h2) (λz=>by rw[z,nf]at h2;cases h2)];exact h2
  have hh:∀b o,b≠P→s.heap.get? b=some o→(h'.push ob).get? b=some o:=λb o h1 h2=>aab _ (hx b o h1 h2);have Wf:∀b o,s.heap.get? b=some o→b≠c'∧b≠h'.objs.size:=λb o h2=>by
   have:=aak h2;exact⟨aaw (aau this Nn),aaw (aau this (aaG Nn (aar cG)))⟩
  have nP:∀b,H b=none→b≠P:=λb h1 z=>by rw[z,e]at h1;cases h1
  have un:Un X.fs [] H H' s.heap (h'.push ob):=by
   exact⟨λb o h1 h2 _ _=>hh b o (nP b h2) h1,λb o h1 h2 _ _=>⟨o.slots,hh b o (nP b h2) h1⟩,λb o h1 h2 _=>?_,λb o h1 _=>?_,λb xs h1=>?_,λb o u h1=>?_,λb ps h1=>?_⟩
   ·rw[Vx b (nP b h2) (Wf b o h1).1 (Wf b o h1).2];exact h2
   ·by_cases z:b=P
    ·subst z;exact⟨_,aab _ P8⟩
    ·exact⟨o,hh b o z h1⟩
   ·exact kp b _ (λz=>by rw[z,e]at h1;cases h1) h1
   ·exact kp b _ (λz=>by rw[z,e]at h1;cases h1) h1
   ·by_cases z:b=P
    ·subst z;rw[e]at h1;cases h1;exact⟨#[rawInt pos.line,rawInt pos.col,.ref c'],by rw[Sh];simp⟩
    ·exact⟨#[],by rw[kp b _ z h1];simp⟩
  have bp:jJ X.prog X.w H' (h'.push ob):=λb o h1=>by
   by_cases z1:b=h'.objs.size
   ·subst z1;rw[Xi]at h1;cases h1
    exact wB (aaq _ (by rw[←Mi];rfl))
   by_cases z2:b=c'
   ·subst z2;rw[Vy]at h1;cases h1
    exact⟨aab _ Mg,⟨oc,aab _ Mg⟩⟩
   by_cases z3:b=P
   ·subst z3;rw[Sh]at h1;cases h1
    exact aab _ P8
   rw[Vx b z3 z2 z1]at h1;exact(I.bp b o h1).fM (λb' u hb' q=>hh b' u (λz=>?_) q) (λb' q=>kp b' _ (λz=>by rw[z,e]at q;cases q) q) λb' xs q=>kp b' _ (λz=>by rw[z,e]at q;cases q) q;rcases hb' with rfl|hb'
   ·exact z3 z
   ·rw[z,e]at hb';cases hb'
  exact Ψ2 (.ref h'.objs.size) H' ⟨I.un (t':=tk) un bp,rfl,k _ H' nf kp (.inr ⟨c',oc,vs,t,_,Sh,Vy,hd,hv⟩) ⟨_,Sh⟩ ⟨c',oc,vs,t,_,(X.mg "__name__").getD .none,vd,by rw[Mi];exact Xi,Vy,hd,hv⟩⟩
 ·have hP:s.heap.get? P=some (W.tabObj #[rawInt pos.line,rawInt pos.col,.ref c']):=I.bp P _ e
  exact W.kla_makeFunctionHit (cv:=.ref c') (mg:=X.mg) AH I.ok.glob G tX C hP trivial ?_ hb λvd h' tk hx hsz=>?_
  ·show codeAmong pos [.int pos.line 0,.int pos.col 0,.ref c']=_
   simp[codeAmong]
  ·have nf:H h'.objs.size=none:=I.bp.fresh hsz
   generalize Mi:W.kla_obj "<lambda>" q params body scope [] ((X.mg "__name__").getD .none) c' vd=ob;have kp:∀b o,H b=some o→upd H h'.objs.size (.ext (tS h'.objs.size ob)) b=some o:=λb o h2=>by rw[ao (λz=>by rw[z,nf]at h2;cases h2)];exact h2
   exact Ψ2 (.ref h'.objs.size) _ ⟨I.laid (t':=tk) (o:=.ext (tS h'.objs.size ob)) (λb u q=>aab _ (hx b u q)) hsz (wB (by rw[←Mi];exact aaq _ rfl)),rfl,k _ _ nf (λb o _ h2=>kp b o h2) (.inr ⟨c',oc,vs,t,u,kp _ _ e,kp _ _ ec,hd,hv⟩) ⟨_,kp _ _ e⟩ ⟨c',oc,vs,t,u,(X.mg "__name__").getD .none,vd,by rw[Mi];exact ar,kp _ _ ec,hd,hv⟩⟩
end
structure pH(X:Cx)(H:Hp)(s s':Shared):Prop where
 un:Un (me X.stack) [] H H s.heap s'.heap
 bp:jJ X.prog X.w H s'.heap
 bare:AllBare s'.gens
 os:s'.os=s.os
section
variable {s':Shared}
theorem pH.inv(m:pH X H s s')(I:Inv X pins σ H s):Inv X pins σ H s':=by
 obtain⟨h,g,d,t,os⟩:=s';obtain⟨un,bp,bare,e⟩:=m;cases e;exact I.call (h':=h) (g':=g) (d':=d) (t':=t) (ch:=[]) un bp bare (λb z=>absurd z (by simp))
theorem pH.refl(I:Inv X pins σ H s):pH X H s s:=⟨.refl,I.bp,I.bare,rfl⟩
theorem pH.upd(m:pH X H s s')(I:Inv X pins σ H s)(hk:s.heap.objs.size≤k)(kp:∀b o,b≠k→s'.heap.get? b=some o→h'.get? b=some o):pH X H s {s' with heap:=h',toks:=t'}:=by
 have nk:H k=none:=I.bp.fresh hk;have ne:∀b o,s.heap.get? b=some o→b≠k:=λb o e=>aaw (aau (aak e) hk);exact⟨⟨λb o e n hb hx=>kp b o (ne b o e) (m.un.keep b o e n hb hx),λb o e n hb hx=>?_,m.un.free,λb o e hx=>?_,m.un.gc,m.un.fW,m.un.fL⟩,λb u e=>?_,m.bare,m.os⟩
 ·let⟨sl,q⟩:=m.un.slot b o e n hb hx
  exact⟨sl,kp b _ (ne b o e) q⟩
 ·let⟨o',q⟩:=m.un.there b o e hx
  exact⟨o',kp b _ (ne b o e) q⟩
 ·exact(m.bp b u e).fM (λc v hc q=>kp c v (λz=>?_) q) (λ_ q=>q) λ_ _ q=>q
  rcases hc with h|h
  ·rw[←h,z,nk]at e;cases e
  ·rw[z,nk]at h;cases h
theorem pH.all(m:pH X H s s')(I:Inv X pins σ H s)(kp:∀b o,s'.heap.get? b=some o→h'.get? b=some o):pH X H s {s' with heap:=h',toks:=t'}:=
 m.upd I (aan _) (λb o _ e=>kp b o e)
theorem pH.calls(m:pH X H s s'){nO:Shared}(un:Un (me X.stack) [] H H s'.heap nO.heap)(bp:jJ X.prog X.w H nO.heap)(bare:AllBare nO.gens)(os:nO.os=s'.os):pH X H s nO:=
 ⟨m.un.trans un,bp,bare,os.trans m.os⟩
theorem Pz{I0:Inv X pins σ H s}{s2:Shared}(hk:s.heap.objs.size≤k)(un:Un (me X.stack) [] H H s1.heap s2.heap)(e:s1.heap.get? k=some o):s2.heap.get? k=some o:=by
 exact un.keep k o e (I0.bp.fresh hk) (λz=>?_) (by simp);let⟨_,⟨o',h,_⟩⟩:=I0.stack.mem z;exact absurd (aau (aak h) hk) (abo _)
def M8(X:Cx)(H:Hp)(A:Around)(f:Value)(v:Value)(z:Str):Prop:=∀(pins:ad) (σ:St) (s:Shared),Inv X pins σ H s→
 wpAny (model X.prog X.w) A (call f [v]) (λu s'=>(∃t,u=.str z t)∧Un (me X.stack) [] H H s.heap s'.heap∧jJ X.prog X.w H s'.heap∧AllBare s'.gens∧s'.os=s.os) (λ_ _=>False) s
end
def x5(ps:List (Str×Value))(out:List Value):Prop:=∃qs:List (Str×Value),qs.Perm ps∧out=qs.map (·.2)∧qs.Pairwise λa b=>¬b.1.cps.toList<a.1.cps.toList
theorem CB:∀{ks:List Value},StrsAre ks zs→ks.length=vs.length→(ks.zip vs).map (λp=>(strOf p.1,p.2))=zs.zip vs:=by
 induction vs generalizing zs with
 |nil=>intro ks h e;cases ks with
  |nil=>cases h;rfl
  |cons _ _=>cases e
 |cons v r ih=>
  intro ks h e;cases h with
  |nil=>cases e
  |cons x t h=>
   rw[adL,aam,adL,ih h (by simpa using e)];rfl
theorem LJ{xs:Array Keyed}(hk:StrsAre keys.toList zs)(hl:zs.length=vs.length)(hp:xs.Perm (keys.zip vs.toArray))(hs:SortedToK PyProof.Rows.strKind xs xs.size):x5 (zs.zip vs) (xs.map (·.2)).toList:=by
 have YZ:keys.toList.length=vs.length:=by rw[←hl];exact hk.length
 have pl:xs.toList.Perm (keys.toList.zip vs):=by
  have:=Array.perm_iff_toList_perm.mp hp;rw[ksk_zip]at this;exact this
 exact⟨xs.toList.map λp=>(strOf p.1,p.2),?_,by rw[Array.toList_map,aa8];rfl,?_⟩
 ·have:=pl.map λp:Keyed=>(strOf p.1,p.2)
  rw[CB hk YZ]at this;exact this
 ·rw[ac7,List.pairwise_iff_getElem]
  intro i j hi hj WH;rw[aaY]at hi hj;have h:=hs i j (aar WH) hj;have key:∀(n:Nat) (hn:n<xs.size),KK PyProof.Rows.strKind xs n=(strOf (xs.toList[n]'(by simpa using hn)).1).cps.toList:=λn hn=>by
   have hm:xs[n]∈keys.toList.zip vs:=pl.mem_iff.mp (Array.getElem_mem_toList hn);let⟨x,t,e⟩:=hk.all _ (abR (show(xs[n].1,xs[n].2)∈keys.toList.zip vs from hm)).1;rw[KK_str hn (x:=x) (t:=t) (q:=xs[n].2) (by rw[←e])];have:xs.toList[n]'(by simpa using hn)=xs[n]:=by simp
   rw[this,e];rfl
  unfold KeyOrd.kle at h;rw[key i hi,key j hj]at h;intro z;simp only[PyProof.Rows.strKind]at h;rw[aaM z]at h;cases h
section
variable {kS:Addr}{f:Value}{e e1:Nat}{Pp:PySem.Fin→Shared→Prop}
theorem qr(h:n<64):n≤sizeLine:=by rw[aa7];lia
theorem wV(I:Inv X pins σ H s){st:SortSt}(m:pH X H s s1)(ha:s.heap.objs.size≤a)(hk:s.heap.objs.size≤kS)(Mo:kS≠a)(ek:s1.heap.get? kS=some (seqObj "list" keys e))(ea:s1.heap.get? a=some (seqObj "list" #[] e1))
  (sk:StrsAre keys.toList zs) (hl:zs.length=vs.length) (vF:vs.length<64) (hp:(arrOf st).Perm (keys.zip vs.toArray)) (hs:SortedToK PyProof.Rows.strKind (arrOf st) (arrOf st).size) (hf:failedOf st=none)
  (h:∀s' out c,pH X H s s'→s'.heap.get? a=some (seqObj "list" out c)→x5 (zs.zip vs) out.toList→Pp (.done (.ret .none)) s') :
  wpAny (model X.prog X.w) A (ksk_tail a false e1 (.ref kS) st) Pp E s1:=by
 have kz:keys.size=vs.length:=by have:=sk.length;rw[aaY]at this;lia
 have oz:((arrOf st).map (·.2)).size=vs.length:=by rw[Array.size_map,hp.size_eq,Array.size_zip,kz,aai,Nat.min_self]
 have b1:=abL s1.heap kS (Obj.mapSeq λ_=>(#[]:Array Value));have Vh:=(b1.2 a Mo.symm).trans ea;have b2:=abL (s1.heap.update kS (Obj.mapSeq λ_=>(#[]:Array Value))) a (Obj.mapSeq λ_=>(arrOf st).map (·.2));have c2:=get?_update_seq Vh λ_=>(arrOf st).map (·.2);unfold ksk_tail;dsimp only;exact aaa (listUpdate_at ek rfl ?_ (by rw[kz];exact qr vF) (aaE _));exact aaa (acb (aaa (seqEpoch_at Vh rfl ?_)));exact aaa (listUpdate_at Vh rfl ?_ (aaE _) (adQ (by show((arrOf st).map (·.2)).size≤_;rw[oz];exact qr vF)));rw[hf];simp only[bne_self_eq_false,acr,ac9];have m1:pH X H s {s1 with heap:=s1.heap.update kS (Obj.mapSeq λ_=>(#[]:Array Value))}:=m.upd I (t':=s1.toks) hk (λb o n q=>(b1.2 b n).trans q);exact aad (h _ _ _ (m1.upd I (t':=s1.toks) ha (λb o n q=>(b2.2 b n).trans q)) c2 (LJ sk hl hp hs))
theorem HX(sk:StrsAre keys.toList zs):KeysOf PyProof.Rows.strKind (keys.zip vs.toArray):=λp hp=>by
 rw[ksk_zip]at hp;let⟨x,t,q⟩:=sk.all p.1 (abR (show(p.1,p.2)∈keys.toList.zip vs from hp)).1;exact⟨x.cps.toList,by rw[q]⟩
theorem HY(I:Inv X pins σ H s)(m:pH X H s s1)(ha:s.heap.objs.size≤a)(hk:s.heap.objs.size≤kS)(Mo:kS≠a)(ek:s1.heap.get? kS=some (seqObj "list" keys e))(ea:s1.heap.get? a=some (seqObj "list" #[] e1))
  (sk:StrsAre keys.toList zs) (hl:zs.length=vs.length) (vF:vs.length<64)
  (h:∀s' out c,pH X H s s'→s'.heap.get? a=some (seqObj "list" out c)→x5 (zs.zip vs) out.toList→Pp (.done (.ret .none)) s') :
  wpAny (model X.prog X.w) A (ksk_end a false vs.toArray e1 (.ref kS) keys) Pp E s1:=by
 have kz:keys.size=vs.length:=by have:=sk.length;rw[aaY]at this;lia
 have zz:(keys.zip vs.toArray).size=vs.length:=by rw[Array.size_zip,kz,aai,Nat.min_self]
 unfold ksk_end;dsimp only;rw[aaz aal];simp only[acr,ac9];by_cases h2:vs.toArray.size<2
 ·rw[aaA h2,aaA h2]
  exact aaa (aad ?_);rw[StateT.run_pure];exact aaa (aad (wV (st:=SortSt.mk' general' (keys.zip vs.toArray) #[] 7 none) I m ha hk Mo ek ea sk hl vF (Array.Perm.refl _) (λi j WH hj=>?_) rfl h));have Ii:j<(keys.zip vs.toArray).size:=hj;rw[zz]at Ii;rw[aai]at h2;have:i=j:=by lia
  subst this;exact KeyOrd.kle_refl _
 ·rw[aaz h2,aaz h2]
  rw[aai]at h2;have kk:keyKind' keys=pure oneType':=by
   obtain⟨l⟩:=keys;match l,kz,sk with
   |[],kz,_=>simp at kz;lia
   |[_],kz,_=>simp at kz;lia
   |_::_::_,_,sk=>exact keyKind_strs sk
  rw[kk];exact aaa (aad (aaa (aaB (wpS_sortRunsK (a₀:=keys.zip vs.toArray) (st:=SortSt.mk' oneType' (keys.zip vs.toArray) #[] 7 none) (Q:=λ_ si=>(arrOf si).Perm (keys.zip vs.toArray)∧failedOf si=none∧SortedToK PyProof.Rows.strKind (arrOf si) (keys.zip vs.toArray).size)
   strKind_oneLt (HX sk) ⟨Array.Perm.refl _,rfl,rfl,rfl⟩ (by rw[zz];lia) (by rw[zz];exact vF) λsi x y z=>⟨x,y,z⟩) ?_ λ_ _ q=>q)))
  rintro⟨⟨⟩,si⟩ s' ⟨rfl,x,y,z⟩;exact wV I m ha hk Mo ek ea sk hl vF x (by rw[x.size_eq];exact z) y h
theorem strs_snoc{x:Str}{t:Tok}:∀{ks:List Value} {ss:List Str},StrsAre ks ss→StrsAre (ks++[.str x t]) (ss++[x])
 |_,_,.nil=>.cons x t .nil
 |_,_,.cons y u r=>.cons y u (strs_snoc r)
theorem E4(I:Inv X pins σ H s)(m:pH X H s s1)(ha:s.heap.objs.size≤a)(hk:s.heap.objs.size≤kS)(Mo:kS≠a)(ek:s1.heap.get? kS=some (seqObj "list" #[] e))(ea:s1.heap.get? a=some (seqObj "list" #[] e1))(hl:zs.length=vs.length)(vF:vs.length<64)
  (turn:∀(i:Nat) (v:Value) (z:Str),vs[i]?=some v→zs[i]?=some z→M8 X H A f v z)
  (h:∀s' out c,pH X H s s'→s'.heap.get? a=some (seqObj "list" out c)→x5 (zs.zip vs) out.toList→Pp (.done (.ret .none)) s') :
  wpAny (model X.prog X.w) A (ksk_rest a f false vs.toArray e1 (.ref kS)) Pp E s1:=by
 unfold ksk_rest;exact aaa (acu ?_);first
  |rw[List.forIn_toArray]
  |(rw[←adO];simp only[List.toList_toArray])
 exact aaa (ksk_fold (λi s'=>∃kA e,pH X H s s'∧s'.heap.get? kS=some (seqObj "list" kA e)∧s'.heap.get? a=some (seqObj "list" #[] e1)∧StrsAre kA.toList (zs.take i)) vs 0 s1 ⟨#[],e,m,ek,ea,by simpa using StrsAre.nil⟩ ?step ?done)
 case step=>
  intro j x s' hx⟨kA,e',m',R4,QK,sk⟩;simp only[acT]at sk ⊢;have hj:j<vs.length:=(aat.mp hx).1;obtain⟨z,hz⟩:∃z,zs[j]?=some z:=⟨_,aac (by lia)⟩;have kz:kA.size≤vs.length:=by have:=sk.length;rw[aaY,aa4]at this;lia
  exact aaa (ab0 (aaB (turn j x z hx hz pins σ s' (m'.inv I)) (λv nO q=>?_) λ_ _ q=>q.elim));let⟨⟨t2,rfl⟩,un,bp,bare,os⟩:=q;have W6:=Pz (I0:=I) hk un R4;have ea2:=Pz (I0:=I) ha un QK;have b1:=abL nO.heap kS (Obj.mapSeq (·.push (.str z t2)));have m2:=m'.calls un bp bare os;exact aaa (listUpdate_at W6 rfl ?_ (aaG kz (qr vF)) (aaG (Nat.le_of_eq (Array.size_push ..)) (by rw[aa7];lia)));exact aad ⟨rfl,kA.push (.str z t2),_,m2.upd I (t':=nO.toks) hk (λb o n q=>(b1.2 b n).trans q),get?_update_seq W6 (·.push (.str z t2)),(b1.2 a Mo.symm).trans ea2,?_⟩;have e3:zs.take (j+1)=zs.take j++[z]:=by rw[ac5,hz];simp
  rw[e3,Array.toList_push];exact strs_snoc sk
 case done=>
  intro s'⟨kA,e',m',R4,QK,sk⟩;have e3:zs.take (0+vs.length)=zs:=aa3 (by lia);rw[e3]at sk;exact aaa (listItems_at R4 rfl ?_);exact HY I m' ha hk Mo R4 QK sk hl vF h
theorem vi(I:Inv X pins σ H s){l q:Addr}(ho:s.heap.get? l=some o)(hc:o.cls=.type "tuple")(hd:o.data=.seq vs.toArray n)(hl:zs.length=vs.length)(vF:vs.length<64)
  (turn:∀(i:Nat) (v:Value) (z:Str),vs[i]?=some v→zs[i]?=some z→M8 X H X.A.in1.in1 (.ref q) v z)
  (h:∀s0 s' a out c,Inv X pins σ H s0→s0.heap.objs.size≤a→pH X H s0 s'→s'.heap.get? a=some (seqObj "list" out c)→x5 (zs.zip vs) out.toList→Q (.ref a) s') :
  wpAny (model X.prog X.w) X.A (call (.builtin "sorted") [.ref l] [(Str.ofString "key",.ref q)]) Q E s:=by
 exact call_function_entry_kw kind_sorted plain_sorted entry_sorted (ksk_s1 _ _) ?_;unfold Builtin.«sorted»;exact aaa (m:=checkCount "sorted" 1 1 _) (aad ?_);exact aaa (wpAny_collect_seq l (.inr rfl) ho hc hd (λh1 k1=>?_) (by rw[aai];exact qr vF));exact aaa (wpAny_newList ?_ (by show vs.length≤_;exact qr vF));have I1:Inv X pins σ H {s with heap:=h1}:=I.kept (t':=s.toks) k1;have m0:=pH.refl I1;have oa:(h1.push (seqObj "list" vs.toArray 0)).get? h1.objs.size=some (seqObj "list" vs.toArray 0):=aaq _ rfl;have m1:pH X H {s with heap:=h1} {s with heap:=h1.push (seqObj "list" vs.toArray 0)}:=m0.all I1 (t':=s.toks) (λb o e=>aab _ e);exact aaa (aaR (wpAny_call_entry_kw slot_list_sort ⟨_,oa,rfl⟩ entry_list_sort ?_ (ksk_l1 _ _)));show wpAny (model X.prog X.w) X.A.in1.in1 (Builtin.«list.sort» ⟨[.ref h1.objs.size],[(Str.ofString "key",.ref q)]⟩) _ _ {s with heap:=h1.push (seqObj "list" vs.toArray 0)}
 rw[ksk_t1];unfold ksk_tree;exact aaa (listItems_at oa rfl ?_);exact aaa (listUpdate_at oa rfl ?_ (by rw[aai];exact qr vF) (aaE _));have b1:=abL (h1.push (seqObj "list" vs.toArray 0)) h1.objs.size (Obj.mapSeq λ_=>(#[]:Array Value));have V1:=get?_update_seq oa λ_=>(#[]:Array Value);have m2:=m1.upd I1 (t':=s.toks) (aan _) (λb o n q=>(b1.2 b n).trans q);exact aaa (seqEpoch_at V1 rfl ?_);exact aaa (wpAny_newTuple ?_ (by show vs.length≤_;exact qr vF));exact aaa (wpAny_newList ?_ (aaE _));exact aaR ?_;generalize hX:(h1.push (seqObj "list" vs.toArray 0)).update h1.objs.size (Obj.mapSeq λ_=>(#[]:Array Value))=g at *
 have gz:g.objs.size=h1.objs.size+1:=by rw[←hX,Heap.size_update,abk]
 have m3:=m2.all I1 (t':=s.toks) (h':=(g.push (seqObj "tuple" vs.toArray 0)).push (seqObj "list" #[] 0)) (λb o e=>aab _ (aab _ e));exact E4 I1 m3 (a:=h1.objs.size) (kS:=(g.push (seqObj "tuple" vs.toArray 0)).objs.size) (aan _) (by rw[abk,gz];show h1.objs.size≤_;lia) (by rw[abk,gz];exact acn (abw (acg _))) (aaq _ rfl)
  (aab _ (aab _ V1)) hl vF turn λs' out c m' QK ob=>⟨_,rfl,aad ⟨_,rfl,h _ s' _ out c I1 (aan _) m' QK ob⟩⟩
end
end L2
namespace L3
open PySem PySem.Spec L2
open PyProof.Rows hiding St
variable {Γ Γ1 Γ':Gp}{a b p Cy:Addr}{o o3 o2:O}{u:Value}{H1 H H':Hp}{K:W.Frag}{vs:List V}{xs ts us:List T}{i k j:Nat}{v:V}{x:T}{Y:X3}{E:St→XK}{Z:K3}{Q:Option Int→Gp→Prop}{e tg c iter:Expr}{t ta:A3}{t' t0:TT}{z y qual:Str}{pos pos' p2 np dy:Pos}{n Tn Ty:String}{r:T→Gp→K3→Prop}{r3:R3}{tb:C3}{rest es:List Expr}{tc:T3}{g:G3}{gs:Gq}{to ti te tl:E3}{body:List Stmt}{wi:I3}{τ:S3}{own N ps:List Str}{cap:List (Nat×Str)}{f:Value→Value→Sem Value}{C:Int→Int→Prop}{g3:Int→Int→T}{neg:Bool}{th:O3}{l:List Addr}{st:Stmt}{fd:FuncData}{sp:fk}{A:List T→Gp→Prop}{I:List T→(Gp→Prop)→Gp→Prop}{X:Cx}{D:D3}
inductive T where
 |non|bl (b:Bool)|int (i:Int)|str (z:Str)|tup (ts:List T)|ref (a:Addr)|ty (n:String)
 /-- a list NU TR changes (yp K7) -/
 |scr (K:W.Frag) (a:Addr) (ts:List T)
def IQ(K:W.Frag)(H:Hp)(a:Addr)(vs:List V):Prop:=(∃o,H a=some (.frz o (.lst vs))) ∨
 ∃(o:Obj) (its:Array Value) (n:Nat),K.lookup a=some o∧o.cls=.type "list" ∧ o.dict=none∧o.data=.seq its n∧its.size≤sizeLine∧Vals vs its.toList
inductive O where
 |lst (ts:List T)
 |ins (C dx:Addr) (fs:List (Str×T))
 |own (x:Addr)
 |dK (aN:List (Key×T))
 |ext (φ:Heap→Prop)
 /-- yp table of a def NU makes a T7 -/
 |lam (q:Str) (pos:Pos)
abbrev Gp:=Addr→Option O
def up(Γ:Gp)(a:Addr)(o:O):Gp:=λb=>if b=a then some o else Γ b
theorem ai:up Γ a o a=some o:=by unfold up;rw[aaA rfl]
theorem bb(h:b≠a):up Γ a o b=Γ b:=by unfold up;rw[aaz h]
theorem IY{u:O}:up (up Γ a o) a u=up Γ a u:=by
 funext b;unfold up;split<;>rfl
theorem Zo{u:O}(h:Γ a=some o)(h':Γ b=some u)(d:o≠u):a≠b:=by
 intro e;subst e;rw[h]at h';exact d (aaW h')
theorem nQ(h:Γ a=some o)(h':Γ b=none):a≠b:=by
 intro e;subst e;rw[h]at h';cases h'
mutual
def R(H:Hp):V→T→Prop
 |v,.non=>v=.non
 |v,.bl b=>v=.bl b
 |v,.int i=>v=.int i
 |v,.str z=>v=.str z
 |v,.ref a=>v=.ref a
 |v,.ty n=>v=.ty n
 |v,.tup ts=>∃a vs,v=.ref a∧H a=some (.tup vs)∧Rs H vs ts
 |v,.scr K a ts=>v=.ref a∧∃vs,IQ K H a vs∧Rs H vs ts
def Rs(H:Hp):List V→List T→Prop
 |vs,[]=>vs=[]
 |vs,t::r=>∃v ws,vs=v::ws∧R H v t∧Rs H ws r
end
def Tq(H H':Hp):Prop:=(∀a vs,H a=some (.tup vs)→H' a=some (.tup vs))∧∀a o u,H a=some (.frz o u)→H' a=some (.frz o u)
section
theorem Tq.refl:Tq H H:=⟨λ_ _ h=>h,λ_ _ _ h=>h⟩
theorem Tq.trans(a:Tq H H1)(b:Tq H1 H'):Tq H H':=⟨λx vs h=>b.1 x vs (a.1 x vs h),λx o u h=>b.2 x o u (a.2 x o u h)⟩
theorem IQ.mono(t:Tq H H')(h:IQ K H a vs):IQ K H' a vs:=by
 rcases h with⟨o,h⟩|h
 ·exact .inl ⟨o,t.2 _ _ _ h⟩
 ·exact .inr h
mutual
theorem R.mono(t:Tq H H'):∀{x:T} {v:V},R H v x→R H' v x
 |.non,v,h=>by unfold R at h ⊢;exact h
 |.bl _,v,h=>by unfold R at h ⊢;exact h
 |.int _,v,h=>by unfold R at h ⊢;exact h
 |.str _,v,h=>by unfold R at h ⊢;exact h
 |.ref _,v,h=>by unfold R at h ⊢;exact h
 |.ty _,v,h=>by unfold R at h ⊢;exact h
 |.tup ts,v,h=>by
  unfold R at h ⊢;let⟨a,vs,e,s,q⟩:=h;exact Ψ2 a vs ⟨e,t.1 a vs s,Rs.mono t q⟩
 |.scr K a ts,v,h=>by
  unfold R at h ⊢;let⟨e,⟨vs,s,q⟩⟩:=h;exact⟨e,vs,s.mono t,Rs.mono t q⟩
theorem Rs.mono(t:Tq H H'):∀{xs:List T} {vs:List V},Rs H vs xs→Rs H' vs xs
 |[],vs,h=>by unfold Rs at h ⊢;exact h
 |x::r,vs,h=>by
  unfold Rs at h ⊢;let⟨v,ws,e,p,q⟩:=h;exact Ψ2 v ws ⟨e,R.mono t p,Rs.mono t q⟩
end
theorem Rs.length:∀{xs:List T} {vs:List V},Rs H vs xs→vs.length=xs.length
 |[],vs,h=>by unfold Rs at h;subst h;rfl
 |x::r,vs,h=>by
  unfold Rs at h;let⟨v,ws,e,_,q⟩:=h;rw[e,aap,aap,Rs.length q]
theorem Rs.get:∀{xs:List T} {vs:List V} {i:Nat} {x:T},Rs H vs xs→xs[i]?=some x→∃v,vs[i]?=some v∧R H v x
 |[],vs,i,x,h,e=>by simp at e
 |y::r,vs,i,x,h,e=>by
  unfold Rs at h;let⟨v,ws,e1,p,q⟩:=h;subst e1;cases i with
  |zero=>cases e;exact⟨v,rfl,p⟩
  |succ i=>exact Rs.get (i:=i) q e
theorem Rs.Fj(h:Rs H vs xs)(e:vs[i]?=some v):∃x,xs[i]?=some x∧R H v x:=by
 have hl:=h.length;obtain⟨hi,_⟩:=aat.mp e;have Mp:i<xs.length:=by lia
 let⟨v',e',r⟩:=h.get (i:=i) (x:=xs[i]) (by simp[Mp]);rw[e]at e';cases e';exact⟨xs[i],by simp[Mp],r⟩
theorem Rs.app:∀{xs ys:List T} {vs ws:List V},Rs H vs xs→Rs H ws ys→Rs H (vs++ws) (xs++ys)
 |[],ys,vs,ws,h,h'=>by unfold Rs at h;subst h;exact h'
 |x::r,ys,vs,ws,h,h'=>by
  unfold Rs at h;let⟨v,us,e,p,q⟩:=h;subst e;show Rs H (v::(us++ws)) (x::(r++ys))
  unfold Rs;exact Ψ2 v _ ⟨rfl,p,Rs.app q h'⟩
theorem bI:Rs H [] []:=by unfold Rs;rfl
theorem bg(a:R H v x)(b:Rs H vs xs):Rs H (v::vs) (x::xs):=by
 unfold Rs;exact Ψ2 v vs ⟨rfl,a,b⟩
theorem bO(h:Rs H vs (x::xs)):∃v ws,vs=v::ws∧R H v x∧Rs H ws xs:=by unfold Rs at h;exact h
theorem bA(h:Rs H vs []):vs=[]:=by unfold Rs at h;exact h
theorem Rs.drop:∀{xs:List T} {vs:List V} (n:Nat),Rs H vs xs→Rs H (vs.drop n) (xs.drop n)
 |xs,vs,0,h=>h
 |[],vs,n+1,h=>by rw[bA h];exact bI
 |x::r,vs,n+1,h=>by
  let⟨v,ws,e,_,q⟩:=bO h;subst e;exact Rs.drop n q
theorem Rs.take:∀{xs:List T} {vs:List V} (n:Nat),Rs H vs xs→Rs H (vs.take n) (xs.take n)
 |xs,vs,0,h=>by rw[adE,adE];exact bI
 |[],vs,n+1,h=>by rw[bA h];exact bI
 |x::r,vs,n+1,h=>by
  let⟨v,ws,e,p,q⟩:=bO h;subst e;exact bg p (Rs.take n q)
theorem Rs.reverse:∀{xs:List T} {vs:List V},Rs H vs xs→Rs H vs.reverse xs.reverse
 |[],vs,h=>by rw[bA h];exact bI
 |x::r,vs,h=>by
  let⟨v,ws,e,p,q⟩:=bO h;subst e;rw[ac6,ac6];exact Rs.app (Rs.reverse q) (bg p bI)
theorem Rs.set:∀{xs:List T} {vs:List V} {v:V} {x:T} (n:Nat),Rs H vs xs→R H v x→Rs H (vs.set n v) (xs.set n x)
 |[],vs,v,x,n,h,p=>by rw[bA h];exact bI
 |y::r,vs,v,x,0,h,p=>by
  let⟨u,ws,e,_,q⟩:=bO h;subst e;exact bg p q
 |y::r,vs,v,x,n+1,h,p=>by
  let⟨u,ws,e,p',q⟩:=bO h;subst e;exact bg p' (Rs.set n q p)
end
def Fs(H:Hp):List (Str×V)→List (Str×T)→Prop:=Paired λ(p:Str×V) (q:Str×T)=>p.1=q.1∧R H p.2 q.2
def Ks(H:Hp):List (Key×V)→List (Key×T)→Prop:=Paired λ(p:Key×V) (q:Key×T)=>p.1=q.1∧R H p.2 q.2
theorem lS{α β:Type}{P Q:α→β→Prop}(h:∀a b,P a b→Q a b):∀{xs:List α} {ys:List β},Paired P xs ys→Paired Q xs ys
 |_,_,.nil=>.nil
 |_,_,.cons a b=>.cons (h _ _ a) (lS h b)
theorem Fs.mono(t:Tq H H'){a:List (Str×V)}{b:List (Str×T)}(h:Fs H a b):Fs H' a b:=lS (λ_ _ q=>⟨q.1,q.2.mono t⟩) h
theorem Ks.mono(t:Tq H H'){a:List (Key×V)}{b:List (Key×T)}(h:Ks H a b):Ks H' a b:=lS (λ_ _ q=>⟨q.1,q.2.mono t⟩) h
def Ho(H:Hp)(a:Addr):O→Prop
 |.lst ts=>∃vs,H a=some (.lst vs)∧Rs H vs ts
 |.ins C dx fs=>∃gs,H a=some (.ins C dx gs)∧Fs H gs fs
 |.own x=>H a=some (.own x)
 |.dK aN=>∃us,H a=some (.dK us)∧Ks H us aN
 |.ext φ=>H a=some (.ext φ)
 |.lam q pos=>Cj H a q pos
def HR(H:Hp)(Γ:Gp):Prop:=∀a o,Γ a=some o→Ho H a o
structure eW(H:Hp)(Γ:Gp)(H':Hp)(Γ':Gp):Prop where
 tq:Tq H H'
 yc:∀a,H a≠none→H' a≠none
 new:∀a,H a≠none→Γ a=none→Γ' a=none
 tY:∀a o,H a=some o→Γ a=none→H' a=some o
section
theorem eW.refl:eW H Γ H Γ:=⟨.refl,λ_ h=>h,λ_ _ h=>h,λ_ _ h _=>h⟩
theorem eW.trans(a:eW H Γ H1 Γ1)(b:eW H1 Γ1 H' Γ'):eW H Γ H' Γ':=
 ⟨a.tq.trans b.tq,λx h=>b.yc x (a.yc x h),λx h g=>b.new x (a.yc x h) (a.new x h g),λx o h g=>b.tY x o (a.tY x o h g) (a.new x (by rw[h];exactλz=>(nomatch z)) g)⟩
theorem Ho.mono(t:Tq H H')(e:∀u,H a=some u→H' a=some u)(h:Ho H a o):Ho H' a o:=by
 cases o with
 |lst ts=>obtain⟨vs,h,r⟩:=h;exact⟨vs,e _ h,r.mono t⟩
 |ins C dx fs=>obtain⟨vs,h,r⟩:=h;exact⟨vs,e _ h,r.mono t⟩
 |own x=>exact e _ h
 |dK aN=>obtain⟨vs,h,r⟩:=h;exact⟨vs,e _ h,r.mono t⟩
 |ext φ=>exact e _ h
 |lam q pos=>
  rcases h with h|⟨c',oc,vs,t',u,h1,h2,h3⟩
  ·exact .inl (e _ h)
  ·exact .inr ⟨c',oc,vs,t',u,e _ h1,t.2 _ _ _ h2,h3⟩
theorem Ho.some(h:Ho H a o):∃u,H a=some u∧(∀vs:List V,u≠.tup vs)∧∀b w,u≠.frz b w:=by
 cases o with
 |lst ts=>obtain⟨vs,h,r⟩:=h;exact⟨_,h,⟨λ_ z=>(nomatch z),λ_ _ z=>(nomatch z)⟩⟩
 |ins C dx fs=>obtain⟨vs,h,r⟩:=h;exact⟨_,h,⟨λ_ z=>(nomatch z),λ_ _ z=>(nomatch z)⟩⟩
 |own x=>exact⟨_,h,⟨λ_ z=>(nomatch z),λ_ _ z=>(nomatch z)⟩⟩
 |dK aN=>obtain⟨vs,h,r⟩:=h;exact⟨_,h,⟨λ_ z=>(nomatch z),λ_ _ z=>(nomatch z)⟩⟩
 |ext φ=>exact⟨_,h,⟨λ_ z=>(nomatch z),λ_ _ z=>(nomatch z)⟩⟩
 |lam q pos=>
  rcases h with h|⟨c',oc,vs,t',u,h,_⟩
  ·exact⟨_,h,⟨λ_ z=>(nomatch z),λ_ _ z=>(nomatch z)⟩⟩
  ·exact⟨_,h,⟨λ_ z=>(nomatch z),λ_ _ z=>(nomatch z)⟩⟩
theorem HR.free(h:HR H Γ)(n:H a=none):Γ a=none:=by
 cases e:Γ a with
 |none=>rfl
 |some o=>
  let⟨u,hu,_⟩:=(h a o e).some;rw[n]at hu;cases hu
theorem dA(k:∀b o,H b=some o→H' b=some o):Tq H H':=⟨λa vs h=>k _ _ h,λa o u h=>k _ _ h⟩
theorem eW.keep(k:∀b o,H b=some o→H' b=some o):eW H Γ H' Γ:=
 ⟨dA k,λa h z=>by
  cases e:H a with
  |none=>exact h e
  |some o=>exact(by rw[k a o e]at z;cases z),λ_ _ h=>h,λa o h _=>k a o h⟩
theorem HR.keep(h:HR H Γ)(k:∀b o,H b=some o→H' b=some o):HR H' Γ:=λa o e=>(h a o e).mono (dA k) (k a)
theorem bo{o:HO}(h:H p=none):∀b u,H b=some u→upd H p o b=some u:=λb u q=>by rw[ao (au q h)];exact q
theorem eW.make{o:HO}(h:H p=none):eW H Γ (upd H p o) (up Γ p o3):=by
 exact⟨dA (bo h),λa q z=>?_,λa q g=>?_,λa u q _=>bo h a u q⟩
 ·by_cases e:a=p
  ·subst e;exact q h
  ·rw[ao e]at z;exact q z
 ·have e:a≠p:=λe=>q (by rw[e];exact h)
  rw[bb e];exact g
theorem HR.make(hr:HR H Γ){o:HO}(h:H p=none)(k:Ho (upd H p o) p o3):HR (upd H p o) (up Γ p o3):=λa u e=>by
 by_cases z:a=p
 ·subst z;rw[ai]at e;cases e;exact k
 ·rw[bb z]at e
  exact(hr a u e).mono (dA (bo h)) λ_ q=>by rw[ao z];exact q
theorem jg{o u:HO}(h:H a=some u)(n:(∀vs:List V,u≠.tup vs)∧∀b w,u≠.frz b w):Tq H (upd H a o):=⟨λx vs q=>by
 have:x≠a:=λe=>by subst e;rw[h]at q;exact n.1 vs (aaW q)
 rw[ao this];exact q,λx b w q=>by
 have:x≠a:=λe=>by subst e;rw[h]at q;exact n.2 b w (aaW q)
 rw[ao this];exact q⟩
theorem eW.set{o:HO}(hr:HR H Γ)(g:Γ a=some o2):eW H Γ (upd H a o) (up Γ a o3):=by
 let⟨u,hu,n⟩:=(hr a o2 g).some;exact⟨jg hu n,λx q z=>?_,λx q g'=>?_,λx w q g'=>?_⟩
 ·by_cases e:x=a
  ·subst e;rw[ar]at z;cases z
  ·rw[ao e]at z;exact q z
 ·have e:x≠a:=λe=>by subst e;rw[g]at g';cases g'
  rw[bb e];exact g'
 ·have e:x≠a:=λe=>by subst e;rw[g]at g';cases g'
  rw[ao e];exact q
theorem HR.set{o:HO}(hr:HR H Γ)(g:Γ a=some o2)(k:Ho (upd H a o) a o3):HR (upd H a o) (up Γ a o3):=λx u e=>by
 let⟨w,hw,n⟩:=(hr a o2 g).some;by_cases z:x=a
 ·subst z;rw[ai]at e;cases e;exact k
 ·rw[bb z]at e
  exact(hr x u e).mono (jg hw n) λ_ q=>by rw[ao z];exact q
theorem HR.hide{o u:HO}(hr:HR H Γ)(g:Γ a=none)(h:H a=some u)(n:(∀vs:List V,u≠.tup vs)∧∀b w,u≠.frz b w):HR (upd H a o) Γ:=λx w e=>by
 have z:x≠a:=λz=>by subst z;rw[g]at e;cases e
 exact(hr x w e).mono (jg h n) λ_ q=>by rw[ao z];exact q
end
abbrev S3:=List (Option T)
abbrev X3:=S3→Value→Gp→Prop
abbrev K3:=T→Gp→Prop
abbrev E3:=X3→S3→Gp→K3→Prop
abbrev T3:=X3→S3→Gp→(Bool→Gp→Prop)→Prop
abbrev A3:=X3→S3→Gp→(List T→Gp→Prop)→Prop
structure D3 where
 nx:S3→Gp→Prop
 rt:K3
 bk:S3→Gp→Prop:=λ_ _=>False
 ct:S3→Gp→Prop:=λ_ _=>False
abbrev C3:=X3→D3→S3→Gp→Prop
def Rc(H:Hp):Option V→Option T→Prop
 |_,none=>True
 |some v,some x=>R H v x
 |none,some _=>False
def RS(H:Hp):St→S3→Prop
 |[],[]=>True
 |v::r,x::q=>Rc H v x∧RS H r q
 |_,_=>False
section
theorem Rc.mono(t:Tq H H'){v:Option V}{x:Option T}(h:Rc H v x):Rc H' v x:=by
 cases x with
 |none=>exact trivial
 |some x=>cases v with
  |none=>exact h.elim
  |some v=>exact R.mono t h
theorem RS.mono(t:Tq H H'):∀{σ:St} {τ:S3},RS H σ τ→RS H' σ τ
 |[],[],_=>trivial
 |_::_,_::_,h=>⟨h.1.mono t,RS.mono t h.2⟩
 |[],_::_,h=>h.elim
 |_::_,[],h=>h.elim
theorem RS.get:∀{σ:St} {τ:S3} {i:Nat} {x:T},RS H σ τ→τ[i]?=some (some x)→∃v,σ[i]?=some (some v)∧R H v x
 |[],[],i,x,_,e=>by simp at e
 |v::r,y::q,i,x,h,e=>by
  cases i with
  |zero=>
   cases e;cases v with
   |none=>exact h.1.elim
   |some v=>exact⟨v,rfl,h.1⟩
  |succ i=>exact RS.get (i:=i) h.2 e
 |[],_::_,_,_,h,_=>h.elim
 |_::_,[],_,_,h,_=>h.elim
theorem RS.set(r:R H v x):∀{σ:St} {τ:S3} (i:Nat),RS H σ τ→RS H (σ.set i (some v)) (τ.set i (some x))
 |[],[],_,_=>trivial
 |_::_,_::_,0,h=>⟨r,h.2⟩
 |_::_,_::_,i+1,h=>⟨h.1,RS.set r i h.2⟩
 |[],_::_,_,h=>h.elim
 |_::_,[],_,h=>h.elim
def XR(H:Hp)(Γ:Gp)(Y:X3)(E:St→XK):Prop:=∀σ τ C H' Γ',eW H Γ H' Γ'→HR H' Γ'→RS H' σ τ→Y τ C Γ'→E σ C none H'
theorem XR.mono(x:XR H Γ Y E)(s:eW H Γ H' Γ'):XR H' Γ' Y E:=λσ τ C H2 Γ2 s2 h2 r y=>x σ τ C H2 Γ2 (s.trans s2) h2 r y
def VR(H:Hp)(Γ:Gp)(Z:K3)(Q:VK):Prop:=∀v x H' Γ',eW H Γ H' Γ'→HR H' Γ'→R H' v x→Z x Γ'→Q v H'
theorem VR.mono{Q:VK}(x:VR H Γ Z Q)(s:eW H Γ H' Γ'):VR H' Γ' Z Q:=λv x' H2 Γ2 s2 h2 r y=>x v x' H2 Γ2 (s.trans s2) h2 r y
def NR(H:Hp)(Γ:Gp)(Z:S3→Gp→Prop)(Q:St→Hp→Prop):Prop:=∀σ τ H' Γ',eW H Γ H' Γ'→HR H' Γ'→RS H' σ τ→Z τ Γ'→Q σ H'
theorem NR.mono{Z:S3→Gp→Prop}{Q:St→Hp→Prop}(x:NR H Γ Z Q)(s:eW H Γ H' Γ'):NR H' Γ' Z Q:=λv x' H2 Γ2 s2 h2 r y=>x v x' H2 Γ2 (s.trans s2) h2 r y
structure DR(H:Hp)(Γ:Gp)(Z:D3)(Q:Ends):Prop where
 nx:NR H Γ Z.nx Q.nx
 rt:VR H Γ Z.rt Q.rt
 bk:NR H Γ Z.bk Q.bk
 ct:NR H Γ Z.ct Q.ct
theorem DR.mono{Z:D3}{Q:Ends}(x:DR H Γ Z Q)(s:eW H Γ H' Γ'):DR H' Γ' Z Q:=⟨x.nx.mono s,x.rt.mono s,x.bk.mono s,x.ct.mono s⟩
end
section
variable (E:St→XK)
def bH(t:E3):TE:=λσ H Q=>∃τ Γ Y Z,RS H σ τ∧HR H Γ∧t Y τ Γ Z∧VR H Γ Z Q∧XR H Γ Y E
def kM(t:T3):TT:=λσ H Q=>∃τ Γ Y Z,RS H σ τ∧HR H Γ∧t Y τ Γ Z∧(∀b H' Γ',eW H Γ H' Γ'→HR H' Γ'→Z b Γ'→Q b H')∧XR H Γ Y E
def uR(t:A3):TA:=λσ H Q=>∃τ Γ Y Z,RS H σ τ∧HR H Γ∧t Y τ Γ Z∧(∀vs xs H' Γ',eW H Γ H' Γ'→HR H' Γ'→Rs H' vs xs→Z xs Γ'→Q vs H')∧XR H Γ Y E
def mw(t:C3):TS:=λD σ H=>∃τ Γ Y Z,RS H σ τ∧HR H Γ∧t Y Z τ Γ∧DR H Γ Z D∧XR H Γ Y E
end
section
theorem gI{t t':TE}(h:PE X e t)(w:∀σ H Q,t' σ H Q→t σ H Q):PE X e t':=⟨λpins s σ H Q I q=>h.run pins s σ H Q I (w _ _ _ q)⟩
theorem CJ{t:TT}(h:PT X e t)(w:∀σ H Q,t' σ H Q→t σ H Q):PT X e t':=⟨λpins s σ H Q I q=>h.run pins s σ H Q I (w _ _ _ q)⟩
theorem NK{t:TT}(h:PW X e t)(w:∀σ H Q,t' σ H Q→t σ H Q):PW X e t':=⟨λwh pins s σ H Q I q=>h.run wh pins s σ H Q I (w _ _ _ q)⟩
theorem NO{e:List Expr}{t t':TA}(h:PA X e t)(w:∀σ H Q,t' σ H Q→t σ H Q):PA X e t':=⟨λpos pins s σ H Q I q=>h.run pos pins s σ H Q I (w _ _ _ q)⟩
theorem CK{e:Stmt}{t t':TS}(h:PS X e t)(w:∀D σ H,t' D σ H→t D σ H):PS X e t':=⟨λpins s σ H D I q=>h.run pins s σ H D I (w _ _ _ q)⟩
theorem J3{e:List Stmt}{t t':TS}(h:kI X e t)(w:∀D σ H,t' D σ H→t D σ H):kI X e t':=⟨λpins s σ H D I q=>h.run pins s σ H D I (w _ _ _ q)⟩
theorem NN{t t':TG}(h:PG X e t)(w:∀v σ H Q,t' v σ H Q→t v σ H Q):PG X e t':=⟨λpins s σ H v u Q I r q=>h.run pins s σ H v u Q I r (w _ _ _ _ q)⟩
theorem J4{e:List Expr}{t t':F0}(h:Bb X e t)(w:∀v σ H Q,t' v σ H Q→t v σ H Q):Bb X e t':=⟨λpins s σ H v u Q I r q=>h.run pins s σ H v u Q I r (w _ _ _ _ q)⟩
theorem NM{t t':TI}(h:PI X tg e t)(w:∀σ H Q,t' σ H Q→t σ H Q):PI X tg e t':=⟨λpins s σ H Q I q=>h.run pins s σ H Q I (w _ _ _ q)⟩
theorem J2{e:List Expr}{t:TT}(h:pG X e t)(w:∀σ H Q,t' σ H Q→t σ H Q):pG X e t':=⟨λpins s σ H Q I q=>h.run pins s σ H Q I (w _ _ _ q)⟩
theorem cK{t0:TE}{t:E3}(h:PE X e t0)(w:∀σ H Q τ Γ Y Z,RS H σ τ→HR H Γ→t Y τ Γ Z→VR H Γ Z Q→XR H Γ Y E→t0 σ H Q):PE X e (bH E t):=
 gI h (by intro σ H Q⟨τ,Γ,Y,Z,rs,hr,q,vr,xr⟩;exact w σ H Q τ Γ Y Z rs hr q vr xr)
theorem CI{t:T3}(h:PT X e t0)(w:∀σ H Q τ Γ Y Z,RS H σ τ→HR H Γ→t Y τ Γ Z→(∀b H' Γ',eW H Γ H' Γ'→HR H' Γ'→Z b Γ'→Q b H')→XR H Γ Y E→t0 σ H Q):PT X e (kM E t):=
 CJ h (by intro σ H Q⟨τ,Γ,Y,Z,rs,hr,q,vr,xr⟩;exact w σ H Q τ Γ Y Z rs hr q vr xr)
theorem CH{t:T3}(h:PW X e t0)(w:∀σ H Q τ Γ Y Z,RS H σ τ→HR H Γ→t Y τ Γ Z→(∀b H' Γ',eW H Γ H' Γ'→HR H' Γ'→Z b Γ'→Q b H')→XR H Γ Y E→t0 σ H Q):PW X e (kM E t):=
 NK h (by intro σ H Q⟨τ,Γ,Y,Z,rs,hr,q,vr,xr⟩;exact w σ H Q τ Γ Y Z rs hr q vr xr)
theorem CM{e:List Expr}{t0:TA}(h:PA X e t0)(w:∀σ H Q τ Γ Y Z,RS H σ τ→HR H Γ→t Y τ Γ Z→(∀vs xs H' Γ',eW H Γ H' Γ'→HR H' Γ'→Rs H' vs xs→Z xs Γ'→Q vs H')→XR H Γ Y E→t0 σ H Q):PA X e (uR E t):=
 NO h (by intro σ H Q⟨τ,Γ,Y,Z,rs,hr,q,vr,xr⟩;exact w σ H Q τ Γ Y Z rs hr q vr xr)
theorem Gr{e:List Expr}{t:T3}(h:pG X e t0)(w:∀σ H Q τ Γ Y Z,RS H σ τ→HR H Γ→t Y τ Γ Z→(∀b H' Γ',eW H Γ H' Γ'→HR H' Γ'→Z b Γ'→Q b H')→XR H Γ Y E→t0 σ H Q):pG X e (kM E t):=
 J2 h (by intro σ H Q⟨τ,Γ,Y,Z,rs,hr,q,vr,xr⟩;exact w σ H Q τ Γ Y Z rs hr q vr xr)
theorem gH{e:Stmt}{t0:TS}{t:C3}(h:PS X e t0)(w:∀D σ H τ Γ Y Z,RS H σ τ→HR H Γ→t Y Z τ Γ→DR H Γ Z D→XR H Γ Y E→t0 D σ H):PS X e (mw E t):=
 CK h (by intro D σ H⟨τ,Γ,Y,Z,rs,hr,q,dr,xr⟩;exact w D σ H τ Γ Y Z rs hr q dr xr)
theorem zL{e:List Stmt}{t0:TS}{t:C3}(h:kI X e t0)(w:∀D σ H τ Γ Y Z,RS H σ τ→HR H Γ→t Y Z τ Γ→DR H Γ Z D→XR H Γ Y E→t0 D σ H):kI X e (mw E t):=
 J3 h (by intro D σ H⟨τ,Γ,Y,Z,rs,hr,q,dr,xr⟩;exact w D σ H τ Γ Y Z rs hr q dr xr)
section
theorem tO:R H .non .non:=by unfold R;rfl
theorem ij{b:Bool}:R H (.bl b) (.bl b):=by unfold R;rfl
theorem cY{i:Int}:R H (.int i) (.int i):=by unfold R;rfl
theorem jF:R H (.str z) (.str z):=by unfold R;rfl
theorem jG:R H (.ref a) (.ref a):=by unfold R;rfl
theorem Tr{a:String}:R H (.ty a) (.ty a):=by unfold R;rfl
theorem fq(h:H a=some (.tup vs))(r:Rs H vs ts):R H (.ref a) (.tup ts):=by unfold R;exact Ψ2 a vs ⟨rfl,h,r⟩
theorem xa(h:R H v .non):v=.non:=by unfold R at h;exact h
theorem sN{b:Bool}(h:R H v (.bl b)):v=.bl b:=by unfold R at h;exact h
theorem bG{b:Int}(h:R H v (.int b)):v=.int b:=by unfold R at h;exact h
theorem c4{b:Str}(h:R H v (.str b)):v=.str b:=by unfold R at h;exact h
theorem bZ(h:R H v (.ref b)):v=.ref b:=by unfold R at h;exact h
theorem P0{b:String}(h:R H v (.ty b)):v=.ty b:=by unfold R at h;exact h
theorem Fc(h:R H v (.scr K a ts)):v=.ref a∧∃vs,IQ K H a vs∧Rs H vs ts:=by unfold R at h;exact h
theorem O9(h:IQ K H a vs)(q:Rs H vs ts):R H (.ref a) (.scr K a ts):=by unfold R;exact⟨rfl,vs,h,q⟩
theorem IQ.sq(h:IQ K H a vs):eh K H a vs:=by
 rcases h with⟨o,h⟩|h
 ·exact .inl (.inr ⟨o,h⟩)
 ·exact .inr h
theorem cp(h:R H v (.tup ts)):∃a vs,v=.ref a∧H a=some (.tup vs)∧Rs H vs ts:=by unfold R at h;exact h
end
def u0(i:Nat):E3:=λ_ τ Γ Z=>∃x,τ[i]?=some (some x)∧Z x Γ
def eC(x:T):E3:=λ_ _ Γ Z=>Z x Γ
theorem qv(i:Nat){x:Str}(hN:X.N[i]?=some x:=by rfl)(hv:ND X.env.scope x:=by first|exact Or.inl rfl|exact Or.inr (Or.inl rfl)|exact Or.inr (Or.inr rfl))(hd:(x ==("__debug__" : Str))=false:=by decide)
  (pO:(x ==("__classdict__" : Str))=false:=by decide):PE X (.Name x pos) (bH E (u0 i)):=
 cK (yN hN hv hd pO) λσ H Q τ Γ Y Z rs hr q0 vr xr=>by
  let⟨x,e,z⟩:=q0;let⟨v,hv,r⟩:=rs.get e;exact⟨v,hv,vr v x H Γ .refl hr r z⟩
theorem Nb(h:PE X e (tC v))(r:∀H,R H v x):PE X e (bH E (eC x)):=
 cK h λσ H Q τ Γ Y Z rs hr z vr xr=>vr v x H Γ .refl hr (r H) z
theorem ah{i j pos}:PE X (.Constant (.int i) j pos) (bH E (eC (.int i))):=Nb aG λ_=>cY
theorem iy{b j pos}:PE X (.Constant (.bool b) j pos) (bH E (eC (.bl b))):=Nb Pw λ_=>ij
theorem gP{j pos}:PE X (.Constant .none j pos) (bH E (eC .non)):=Nb LF λ_=>tO
theorem aK{x j pos}:PE X (.Constant (.str x) j pos) (bH E (eC (.str x))):=Nb bV λ_=>jF
def fz(u:Value)(x:T):Prop:=∃v,RelV v u∧∀H,R H v x
theorem bX{x:Str}{t:T}(hg:Gl X x)(hm:X.mg x=some u)(r:fz u t)(hd:(x ==("__debug__" : Str))=false:=by decide):PE X (.Name x pos) (bH E (eC t)):=by
 obtain⟨v,r,h⟩:=r;exact Nb (Hg hg hm r hd) h
theorem gl_int{i:Int}(h:RelV (.int i) u):fz u (.int i):=⟨_,h,λ_=>cY⟩
theorem fV{i:Addr}:fz (.ref i) (.ref i):=⟨.ref i,rfl,λ_=>jG⟩
theorem G7{x:Str}(hg:Gl X x)(hm:X.mg x=none)(hv:bootBuiltins x=some u)(r:RelV (.ty n) u)(hn:x ≠ "__name__" := by decide)(hd:(x ==("__debug__" : Str))=false:=by decide):PE X (.Name x pos) (bH E (eC (.ty n))):=
 Nb (Aq hg hm hv r hn hd) λ_=>Tr
abbrev R3:=T→T→Gp→K3→Prop
def lA(X:Cx)(f:Value→Value→Sem Value)(r3:R3):Prop:=∃r:R2,ja X f r∧∀x y a b H Γ Q Z,R H x a→R H y b→HR H Γ→r3 a b Γ Z→VR H Γ Z Q→r x y H Q
def Cu(r3:R3)(ta tb:E3):E3:=λY τ Γ Z=>ta Y τ Γ λx Γ1=>tb Y τ Γ1 λy Γ2=>r3 x y Γ2 Z
theorem oD{r:R2}{ta tb:E3}(h:∀x y a b H Γ Q Z,R H x a→R H y b→HR H Γ→r3 a b Γ Z→VR H Γ Z Q→r x y H Q)(σ:St)(H:Hp)(Q:VK)(q:bH E (Cu r3 ta tb) σ H Q):OA r (bH E ta) (bH E tb) σ H Q:=by
 let⟨τ,Γ,Y,Z,rs,hr,t,vr,xr⟩:=q;exact Ψ4 τ Γ Y _ ⟨rs,hr,t,λv x H1 Γ1 s1 h1 r1 z1=>?_,xr⟩;exact Ψ4 τ Γ1 Y _ ⟨rs.mono s1.tq,h1,z1,λu y H2 Γ2 s2 h2 r2 z2=>?_,xr.mono s1⟩;exact h v u x y H2 Γ2 Q Z (r1.mono s2.tq) r2 h2 z2 (vr.mono (s1.trans s2))
section
variable {a b:Expr}{ta tb tc:E3}{op LP:CmpOp}{Ry:R3}
theorem ba{op:Operator}(ho:lA X (binaryOp op) r3)(ha:PE X a (bH E ta))(hb:PE X b (bH E tb)):PE X (.BinOp a op b pos) (bH E (Cu r3 ta tb)):=by
 obtain⟨r,ho,h⟩:=ho;exact gI (bQ ho ha hb) (oD h)
theorem eM(ho:lA X (compareOp op) r3)(ha:PE X a (bH E ta))(hb:PE X b (bH E tb))(hm:behindInMarks op b=false):PE X (.Compare a [op] [b] pos) (bH E (Cu r3 ta tb)):=by
 obtain⟨r,ho,h⟩:=ho;exact gI (Hk ho ha hb hm) (oD h)
def eT(t:E3):T3:=λY τ Γ Z=>t Y τ Γ λx Γ1=>∃k,x=.bl k∧Z k Γ1
theorem vR{t2:TE}{t:E3}(h:∀σ H Q,bH E t σ H Q→t2 σ H Q)(σ:St)(H:Hp)(Q:Bool→Hp→Prop)(q:kM E (eT t) σ H Q):IZ t2 σ H Q:=by
 let⟨τ,Γ,Y,Z,rs,hr,t,vr,xr⟩:=q;exact h σ H _ ⟨τ,Γ,Y,_,rs,hr,t,λv x H1 Γ1 s1 h1 r1 z1=>?_,xr⟩;let⟨k,rfl,z⟩:=z1;exact⟨k,sN r1,vr k H1 Γ1 s1 h1 z⟩
theorem ax(ho:lA X (compareOp op) r3)(ha:PE X a (bH E ta))(hb:PE X b (bH E tb))(hm:behindInMarks op b=false):PT X (.Compare a [op] [b] pos) (kM E (eT (Cu r3 ta tb))):=by
 obtain⟨r,ho,h⟩:=ho;exact CJ (dX ho ha hb hm) (vR (oD h))
def zy(r r':R3)(ta tb tc:E3):E3:=λY τ Γ Z=>ta Y τ Γ λx Γ1=>tb Y τ Γ1 λy Γ2=>r x y Γ2 λz Γ3=>∃k,z=.bl k∧(if k=true then tc Y τ Γ3 λw' Γ4=>r' y w' Γ4 Z else Z (.bl false) Γ3)
theorem B9{r r':R2}(h:∀x y a b H Γ Q Z,R H x a→R H y b→HR H Γ→r3 a b Γ Z→VR H Γ Z Q→r x y H Q)(h':∀x y a b H Γ Q Z,R H x a→R H y b→HR H Γ→Ry a b Γ Z→VR H Γ Z Q→r' x y H Q)
  (σ:St) (H:Hp) (Q:VK) (q:bH E (zy r3 Ry ta tb tc) σ H Q):Dt r r' (bH E ta) (bH E tb) (bH E tc) σ H Q:=by
 let⟨τ,Γ,Y,Z,rs,hr,t,vr,xr⟩:=q;exact Ψ4 τ Γ Y _ ⟨rs,hr,t,λv x H1 Γ1 s1 h1 r1 z1=>?_,xr⟩;exact Ψ4 τ Γ1 Y _ ⟨rs.mono s1.tq,h1,z1,λu y H2 Γ2 s2 h2 r2 z2=>?_,xr.mono s1⟩;exact h v u x y H2 Γ2 _ _ (r1.mono s2.tq) r2 h2 z2 λd z H3 Γ3 s3 h3 r3 z3=>?_;obtain⟨k,rfl,z3⟩:=z3;exact⟨k,sN r3,?_⟩;cases k with
 |false=>exact vr _ _ H3 Γ3 ((s1.trans s2).trans s3) h3 ij z3
 |true=>
  exact Ψ4 τ Γ3 Y _ ⟨rs.mono ((s1.trans s2).trans s3).tq,h3,z3,λw' y' H4 Γ4 s4 h4 r4 z4=>?_,xr.mono ((s1.trans s2).trans s3)⟩;exact h' u w' y y' H4 Γ4 Q Z (r2.mono (s3.trans s4).tq) r4 h4 z4 (vr.mono (((s1.trans s2).trans s3).trans s4))
theorem wm(ho:lA X (compareOp op) r3)(m6:lA X (compareOp LP) Ry)(ha:PE X a (bH E ta))(hb:PE X b (bH E tb))(hc:PE X c (bH E tc))(hm:lastMarks [op,LP] [b,c]=false:=by with_unfolding_all rfl):
  PE X (.Compare a [op,LP] [b,c] pos) (bH E (zy r3 Ry ta tb tc)):=by
 obtain⟨r,ho,h⟩:=ho;obtain⟨r',m6,h'⟩:=m6;exact gI (Eh ho m6 ha hb hc hm) (B9 h h')
def QR(ta tb:E3):E3:=λY τ Γ Z=>ta Y τ Γ λx Γ1=>∃c,x=.bl c∧if c=true then tb Y τ Γ1 Z else Z (.bl false) Γ1
def QO(ta:E3):E3:=λY τ Γ Z=>ta Y τ Γ λx Γ1=>∃c,x=.bl c∧Z (.bl (!c)) Γ1
theorem iN{op}(h:PE X a (bH E ta)):PE X (.BoolOp op [a] pos) (bH E ta):=LC h
theorem fT(ha:PE X a (bH E ta))(hb:PE X (.BoolOp .And (b::rest) pos) (bH E tb)):PE X (.BoolOp .And (a::b::rest) pos) (bH E (QR ta tb)):=
 cK (LI ha hb) λσ H Q τ Γ Y Z rs hr t vr xr=>by
  exact Ψ4 τ Γ Y _ ⟨rs,hr,t,λv x H1 Γ1 s1 h1 r1 z1=>?_,xr⟩;obtain⟨k,rfl,z1⟩:=z1;exact⟨k,sN r1,?_⟩;cases k with
  |false=>exact vr _ _ H1 Γ1 s1 h1 ij z1
  |true=>exact Ψ4 τ Γ1 Y Z ⟨rs.mono s1.tq,h1,z1,vr.mono s1,xr.mono s1⟩
theorem DY(ha:PE X a (bH E ta)):PE X (.UnaryOp .Not a pos) (bH E (QO ta)):=
 cK (LD ha) λσ H Q τ Γ Y Z rs hr t vr xr=>by
  exact Ψ4 τ Γ Y _ ⟨rs,hr,t,λv x H1 Γ1 s1 h1 r1 z1=>?_,xr⟩;obtain⟨k,rfl,z1⟩:=z1;exact⟨k,sN r1,vr _ _ H1 Γ1 s1 h1 ij z1⟩
variable {tA tB:T3}
def Q4(t u:T3):T3:=λY τ Γ Z=>t Y τ Γ λc Γ1=>if c=true then u Y τ Γ1 Z else Z false Γ1
def Xf(t u:T3):T3:=λY τ Γ Z=>t Y τ Γ λc Γ1=>if c=true then Z true Γ1 else u Y τ Γ1 Z
def Q3(t:T3):T3:=λY τ Γ Z=>t Y τ Γ λc Γ1=>Z (!c) Γ1
theorem Ad(ha:PT X a (kM E tA)):PW X (.BoolOp .And [a] pos) (kM E tA):=uF ha
theorem cO(ha:PT X a (kM E tA)):PW X (.BoolOp .Or [a] pos) (kM E tA):=Ln ha
theorem DU(ha:PT X a (kM E tA))(hb:PW X (.BoolOp .And (b::rest) pos) (kM E tB)):PW X (.BoolOp .And (a::b::rest) pos) (kM E (Q4 tA tB)):=
 CH (uG ha hb) λσ H Q τ Γ Y Z rs hr t vr xr=>by
  exact Ψ4 τ Γ Y _ ⟨rs,hr,t,λk H1 Γ1 s1 h1 z1=>?_,xr⟩;cases k with
  |false=>exact vr _ H1 Γ1 s1 h1 z1
  |true=>exact Ψ4 τ Γ1 Y Z ⟨rs.mono s1.tq,h1,z1,λb H2 Γ2 s2 h2 z2=>vr b H2 Γ2 (s1.trans s2) h2 z2,xr.mono s1⟩
theorem cZ(ha:PT X a (kM E tA))(hb:PW X (.BoolOp .Or (b::rest) pos) (kM E tB)):PW X (.BoolOp .Or (a::b::rest) pos) (kM E (Xf tA tB)):=
 CH (Po ha hb) λσ H Q τ Γ Y Z rs hr t vr xr=>by
  exact Ψ4 τ Γ Y _ ⟨rs,hr,t,λk H1 Γ1 s1 h1 z1=>?_,xr⟩;cases k with
  |true=>exact vr _ H1 Γ1 s1 h1 z1
  |false=>exact Ψ4 τ Γ1 Y Z ⟨rs.mono s1.tq,h1,z1,λb H2 Γ2 s2 h2 z2=>vr b H2 Γ2 (s1.trans s2) h2 z2,xr.mono s1⟩
theorem cE(ha:PT X a (kM E tA)):PT X (.UnaryOp .Not a pos) (kM E (Q3 tA)):=
 CI (Lp ha) λσ H Q τ Γ Y Z rs hr t vr xr=>Ψ4 τ Γ Y _ ⟨rs,hr,t,λk H1 Γ1 s1 h1 z1=>vr _ H1 Γ1 s1 h1 z1,xr⟩
theorem br{t:E3}(h:PE X e (bH E t))(he:∀whole,isTrue e X.env whole=(do let v ←whole;standAt e.pos;holding [v] (truthy v)):=by intro _;rfl):PT X e (kM E (eT t)):=
 CJ (Lo h he) (vR (t2:=bH E t) λ_ _ _ q=>q)
def Vi(c:T3)(ta tb:E3):E3:=λY τ Γ Z=>c Y τ Γ λk Γ1=>if k=true then ta Y τ Γ1 Z else tb Y τ Γ1 Z
theorem gQ(hc:PT X c (kM E tA))(ha:PE X a (bH E ta))(hb:PE X b (bH E tb)):PE X (.IfExp c a b pos) (bH E (Vi tA ta tb)):=
 cK (Ed hc ha hb) λσ H Q τ Γ Y Z rs hr t vr xr=>by
  exact Ψ4 τ Γ Y _ ⟨rs,hr,t,λk H1 Γ1 s1 h1 z1=>?_,xr⟩;cases k with
  |true=>exact Ψ4 τ Γ1 Y Z ⟨rs.mono s1.tq,h1,z1,vr.mono s1,xr.mono s1⟩
  |false=>exact Ψ4 τ Γ1 Y Z ⟨rs.mono s1.tq,h1,z1,vr.mono s1,xr.mono s1⟩
end
section
def Q9:A3:=λ_ _ Γ Z=>Z [] Γ
def JZ(ta:E3)(tr:A3):A3:=λY τ Γ Z=>ta Y τ Γ λx Γ1=>tr Y τ Γ1 λxs Γ2=>Z (x::xs) Γ2
theorem af:PA X [] (uR E Q9):=CM bf λσ H Q τ Γ Y Z rs hr t vr xr=>vr [] [] H Γ .refl hr bI t
theorem aa(ha:PE X e (bH E te))(hr:PA X es (uR E t))(hs:starEach (e::es) X.env=(false,eval e X.env)::starEach es X.env:=by rfl):PA X (e::es) (uR E (JZ te t)):=
 CM (aq ha hr hs) λσ H Q τ Γ Y Z rs hr t vr xr=>by
  exact Ψ4 τ Γ Y _ ⟨rs,hr,t,λv x H1 Γ1 s1 h1 r1 z1=>?_,xr⟩;exact Ψ4 τ Γ1 Y _ ⟨rs.mono s1.tq,h1,z1,λvs xs H2 Γ2 s2 h2 r2 z2=>vr (v::vs) (x::xs) H2 Γ2 (s1.trans s2) h2 (bg (r1.mono s2.tq) r2) z2,xr.mono s1⟩
def QL(t:A3):E3:=λY τ Γ Z=>t Y τ Γ λxs Γ1=>xs.length≤sizeLine∧Z (.tup xs) Γ1
def QP(t:A3):E3:=λY τ Γ Z=>t Y τ Γ λxs Γ1=>xs.length≤sizeLine∧∀p,Γ1 p=none→Z (.ref p) (up Γ1 p (.lst xs))
theorem bP{x1}(h:PA X es (uR E t)):PE X (.Tuple es x1 pos) (bH E (QL t)):=
 cK (oy h) λσ H Q τ Γ Y Z rs hr t vr xr=>by
  exact Ψ4 τ Γ Y _ ⟨rs,hr,t,λvs xs H1 Γ1 s1 h1 r1 z1=>?_,xr⟩;exact⟨by rw[r1.length];exact z1.1,λp hp=>?_⟩;have k:=bo (o:=.tup vs) hp;exact vr _ _ _ Γ1 (s1.trans (.keep k)) (h1.keep k) (fq ar (r1.mono (dA k))) z1.2
theorem bF(h:PA X es (uR E t)):PE X (.List es pos) (bH E (QP t)):=
 cK (iO h) λσ H Q τ Γ Y Z rs hr t vr xr=>by
  exact Ψ4 τ Γ Y _ ⟨rs,hr,t,λvs xs H1 Γ1 s1 h1 r1 z1=>?_,xr⟩;exact⟨by rw[r1.length];exact z1.1,λp hp=>?_⟩;have k:=bo (o:=.lst vs) hp;exact vr _ _ _ _ (s1.trans (.make hp)) (h1.make (o3:=.lst xs) hp ⟨vs,ar,r1.mono (dA k)⟩) jG (z1.2 p (h1.free hp))
end
abbrev fk:=List T→Gp→K3→(Value→Gp→Prop)→Prop
def cj(sp:fk):Sp:=λvs H Q E=>∃ts Γ Z Y,Rs H vs ts∧HR H Γ∧sp ts Γ Z Y∧VR H Γ Z Q∧∀C H' Γ',eW H Γ H' Γ'→HR H' Γ'→Y C Γ'→E C none H'
abbrev b9(P:Program)(w:World)(K:W.Frag)(mg:ac)(am:Heap)(x:Str)(k:Nat)(ps:List Str)(sp:fk):Prop:=Callee P w K mg am x k ps (cj sp)
abbrev vG(P:Program)(w:World)(K:W.Frag)(mg:ac)(am:Heap)(x:Str)(k:Nat)(ps:List Str)(sp:fk):Prop:=vA P w K mg am x k ps (cj sp)
def JN(sp:fk)(t:A3):E3:=λY τ Γ Z=>t Y τ Γ λxs Γ1=>sp xs Γ1 Z λ_ _=>False
def Fv(sp:fk)(t:A3):E3:=λY τ Γ Z=>t Y τ Γ λxs Γ1=>sp xs Γ1 Z (Y τ)
section
variable {x:Str}{p:Pos}
theorem ak(c:b9 X.prog X.w X.K X.mg X.base x k ps sp)(hr:dO j X.A)(hk:k≤j)(hg:Gl X x)(ha:PA X (e::es) (uR E t))(xf:(x ==("__debug__" : Str))=false:=by decide)
  (he:starEach (e::es) X.env=(false,eval e X.env)::starEach es X.env:=by rfl) (i9:(backTo pos (starEach es X.env)).any (·.1)=false:=by rfl):PE X (.Call (.Name x p) (e::es) [] pos) (bH E (JN sp t)):=
 cK (bR c hr hk hg ha xf he i9) λσ H Q τ Γ Y Z rs hr t vr xr=>by
  exact Ψ4 τ Γ Y _ ⟨rs,hr,t,λvs xs H1 Γ1 s1 h1 r1 z1=>?_,xr⟩;show cj sp (vs++[]) H1 Q E0
  rw[aax];exact Ψ4 xs Γ1 Z _ ⟨r1,h1,z1,vr.mono s1,λ_ _ _ _ _ z=>z.elim⟩
theorem dE(c:vG X.prog X.w X.K X.mg X.base x k ps sp)(hr:dO j X.A)(hk:k≤j)(hg:Gl X x)(hx:nF X E)(ha:PA X (e::es) (uR E t))(xf:(x ==("__debug__" : Str))=false:=by decide)
  (he:starEach (e::es) X.env=(false,eval e X.env)::starEach es X.env:=by rfl) (i9:(backTo pos (starEach es X.env)).any (·.1)=false:=by rfl):PE X (.Call (.Name x p) (e::es) [] pos) (bH E (Fv sp t)):=
 cK (Ei c hr hk hg hx ha xf he i9) λσ H Q τ Γ Y Z rs hr t vr xr=>by
  exact Ψ4 τ Γ Y _ ⟨rs,hr,t,λvs xs H1 Γ1 s1 h1 r1 z1=>?_,xr⟩;exact Ψ4 xs Γ1 Z (Y τ) ⟨r1,h1,z1,vr.mono s1,λC H' Γ' s' h' y=>xr σ τ C H' Γ' (s1.trans s') h' (rs.mono (s1.trans s').tq) y⟩
end
end
section
variable {VJ:List Stmt}{t u:C3}
def A7:C3:=λ_ D τ Γ=>D.nx τ Γ
def FU(t u:C3):C3:=λY D τ Γ=>t Y {D with nx:=u Y D} τ Γ
def JT(te:E3):C3:=λY D τ Γ=>te Y τ Γ λ_ Γ1=>D.nx τ Γ1
def MU(te:E3):C3:=λY D τ Γ=>te Y τ Γ D.rt
def Xe(c:T3)(t u:C3):C3:=λY D τ Γ=>c Y τ Γ λb Γ1=>if b=true then t Y D τ Γ1 else u Y D τ Γ1
theorem ag:kI X [] (mw E A7):=zL bJ λD σ H τ Γ Y Z rs hr t dr xr=>dr.nx σ τ H Γ .refl hr rs t
theorem ae(h1:PS X st (mw E t))(h2:kI X VJ (mw E u)):kI X (st::VJ) (mw E (FU t u)):=
 zL (aI h1 h2) λD σ H τ Γ Y Z rs hr t dr xr=>
  ⟨τ,Γ,Y,_,rs,hr,t,⟨λσ' τ' H' Γ' s h r z=>Ψ4 τ' Γ' Y Z ⟨r,h,z,dr.mono s,xr.mono s⟩,dr.rt,dr.bk,dr.ct⟩,xr⟩
theorem jt(he:PE X e (bH E te))(hs:swapsWith e none pos.line X.env=pure false:=by rfl):PS X (.Expr e pos) (mw E (JT te)):=
 gH (uH he hs) λD σ H τ Γ Y Z rs hr t dr xr=>Ψ4 τ Γ Y _ ⟨rs,hr,t,λv x H' Γ' s h r z=>dr.nx σ τ H' Γ' s h (rs.mono s.tq) z,xr⟩
theorem aA(he:PE X e (bH E te)):PS X (.Return (some e) pos) (mw E (MU te)):=
 gH (ju he) λD σ H τ Γ Y Z rs hr t dr xr=>Ψ4 τ Γ Y _ ⟨rs,hr,t,dr.rt,xr⟩
theorem aW{a b:List Stmt}(hc:PT X c (kM E tc))(ha:kI X a (mw E t))(hb:kI X b (mw E u)):PS X (.If c a b pos) (mw E (Xe tc t u)):=
 gH (mP hc ha hb) λD σ H τ Γ Y Z rs hr t dr xr=>by
  exact Ψ4 τ Γ Y _ ⟨rs,hr,t,λk H1 Γ1 s1 h1 z1=>?_,xr⟩;cases k with
  |true=>exact Ψ4 τ Γ1 Y Z ⟨rs.mono s1.tq,h1,z1,dr.mono s1,xr.mono s1⟩
  |false=>exact Ψ4 τ Γ1 Y Z ⟨rs.mono s1.tq,h1,z1,dr.mono s1,xr.mono s1⟩
def Q2(t:C3):C3:=λY D τ Γ=>∃P:S3→Gp→Prop,t Y {D with nx:=P} τ Γ∧∀τ Γ,P τ Γ→D.nx τ Γ
theorem fu(h:PS X st (mw E t)):PS X st (mw E (Q2 t)):=
 gH h λD σ H τ Γ Y Z rs hr q0 dr xr=>by let⟨P,t,k⟩:=q0;exact Ψ4 τ Γ Y _ ⟨rs,hr,t,⟨λσ' τ' H' Γ' s h r z=>dr.nx σ' τ' H' Γ' s h r (k _ _ z),dr.rt,dr.bk,dr.ct⟩,xr⟩
abbrev G3:=X3→T→S3→Gp→(S3→Gp→Prop)→Prop
abbrev Gq:=X3→List T→S3→Gp→(S3→Gp→Prop)→Prop
def vE(E:St→XK)(g:G3):TG:=λv σ H Q=>∃x τ Γ Y Z,R H v x∧RS H σ τ∧HR H Γ∧g Y x τ Γ Z∧NR H Γ Z Q∧XR H Γ Y E
def EU(E:St→XK)(g:Gq):F0:=λv σ H Q=>∃x τ Γ Y Z,Rs H v x∧RS H σ τ∧HR H Γ∧g Y x τ Γ Z∧NR H Γ Z Q∧XR H Γ Y E
theorem yh{t0:TG}{t:G3}(h:PG X e t0)(w:∀v σ H Q x τ Γ Y Z,R H v x→RS H σ τ→HR H Γ→t Y x τ Γ Z→NR H Γ Z Q→XR H Γ Y E→t0 v σ H Q):PG X e (vE E t):=
 NN h (by intro v σ H Q⟨x,τ,Γ,Y,Z,r,rs,hr,q,nr,xr⟩;exact w v σ H Q x τ Γ Y Z r rs hr q nr xr)
theorem zM{e:List Expr}{t0:F0}{t:Gq}(h:Bb X e t0)(w:∀v σ H Q x τ Γ Y Z,Rs H v x→RS H σ τ→HR H Γ→t Y x τ Γ Z→NR H Γ Z Q→XR H Γ Y E→t0 v σ H Q):Bb X e (EU E t):=
 J4 h (by intro v σ H Q⟨x,τ,Γ,Y,Z,r,rs,hr,q,nr,xr⟩;exact w v σ H Q x τ Γ Y Z r rs hr q nr xr)
def hName(i:Nat):G3:=λ_ x τ Γ Z=>Z (τ.set i (some x)) Γ
def Qz:Gq:=λ_ xs τ Γ Z=>xs=[]∧Z τ Γ
def JH(g:G3)(gs:Gq):Gq:=λY xs τ Γ Z=>∃x r,xs=x::r∧g Y x τ Γ λτ1 Γ1=>gs Y r τ1 Γ1 Z
def Qw(n:Nat)(gs:Gq):G3:=λY x τ Γ Z=>∃ts,x=.tup ts∧ts.length=n∧gs Y ts τ Γ Z
theorem aD{x:Str}(hN:X.N.Nodup)(hi:X.N[i]?=some x)(hx:Loc X.env.scope x)(hf:Fk X x:=by first|exact .inl rfl|exact .inr rfl|assumption):PG X (.Name x pos) (vE E (hName i)):=
 yh (p8 hN hi hx hf) λv σ H Q x τ Γ Y Z r rs hr t nr xr=>nr _ _ H Γ .refl hr (rs.set r i) t
theorem cz:Bb X [] (EU E Qz):=zM Hd λv σ H Q x τ Γ Y Z r rs hr q0 nr xr=>by
 let⟨e,t⟩:=q0;subst e;exact⟨bA r,nr _ _ H Γ .refl hr rs t⟩
theorem aS(h1:PG X e (vE E g))(h2:Bb X es (EU E gs))(hs:(assignEach (e::es) X.env).map (·.2)=assign e X.env::(assignEach es X.env).map (·.2):=by rfl):Bb X (e::es) (EU E (JH g gs)):=
 zM (Eb h1 h2 hs) λv σ H Q x τ Γ Y Z r rs hr q0 nr xr=>by
  let⟨y,ys,e,t⟩:=q0;subst e;let⟨w,ws,rfl,r1,r2⟩:=bO r;exact Ψ2 w ws ⟨rfl,y,τ,Γ,Y,_,r1,rs,hr,t,λσ' τ' H' Γ' s h r z=>?_,xr⟩;exact Ψ5 ys τ' Γ' Y Z ⟨r2.mono s.tq,r,h,z,nr.mono s,xr.mono s⟩
theorem dt{n:Nat}(hc:X.calm=true)(h:Bb X es (EU E gs))
  (hn:(assignEach es X.env).length=n:=by rfl) (kN:(assignEach es X.env).findIdx? (·.1)=none:=by rfl):PG X (.Tuple es k pos) (vE E (Qw n gs)):=
 yh (LB hc h hn kN) λv σ H Q x τ Γ Y Z r rs hr q0 nr xr=>by
  let⟨ts,e,l,t⟩:=q0;subst e;obtain⟨a,vs,rfl,ha,r⟩:=cp r;exact Ψ2 a vs ⟨rfl,cW.of ha,by rw[r.length];exact l,ts,τ,Γ,Y,Z,r,rs,hr,t,nr,xr⟩
def hSub(to ti:E3):G3:=λY v τ Γ Z=>to Y τ Γ λo Γ1=>ti Y τ Γ1 λi Γ2=>∃a ts k j,o=.ref a∧i=.int k∧Γ2 a=some (.lst ts)∧BN ts.length k=some j∧Z τ (up Γ2 a (.lst (ts.set j v)))
theorem DX{o i:Expr}(ho:PE X o (bH E to))(hi:PE X i (bH E ti))
  (ha:∀v,assign (.Subscript o i pos) X.env v=(do
   let ov ←holding [v] (eval o X.env)
   let iv ←holding [v,ov] (eval i X.env)
   standAt pos
   holding [v,ov,iv] (setItem ov iv v)
   release [v,ov,iv] []):=by intro _;rfl):PG X (.Subscript o i pos) (vE E (hSub to ti)):=
 yh (qN ho hi set_list ha) λv σ H Q x τ Γ Y Z r rs hr t nr xr=>by
  exact Ψ4 τ Γ Y _ ⟨rs,hr,t,λov o H1 Γ1 s1 h1 r1 z1=>?_,xr⟩;exact Ψ4 τ Γ1 Y _ ⟨rs.mono s1.tq,h1,z1,λiv i H2 Γ2 s2 h2 r2 z2=>?_,xr.mono s1⟩;let⟨a,ts,k,j,rfl,rfl,ga,hj,z⟩:=z2;let⟨vs,hv,rv⟩:=h2 a _ ga;exact Ψ4 a vs k j ⟨bZ r1,bG r2,hv,by rw[rv.length];exact hj,?_⟩;have s3:eW H2 Γ2 (upd H2 a (.lst (vs.set j v))) (up Γ2 a (.lst (ts.set j x))):=.set h2 ga;exact nr σ τ _ _ ((s1.trans s2).trans s3) (h2.set ga ⟨_,ar,Rs.set j (rv.mono s3.tq) (r.mono ((s1.trans s2).trans s3).tq)⟩) (rs.mono ((s1.trans s2).trans s3).tq) z
def MV(te:E3)(g:G3):C3:=λY D τ Γ=>te Y τ Γ λx Γ1=>g Y x τ Γ1 D.nx
theorem IM(D:Ends)(σ:St)(H:Hp)(q:mw E (MV te g) D σ H):KH (bH E te) (vE E g) D σ H:=by
 let⟨τ,Γ,Y,Z,rs,hr,t,dr,xr⟩:=q;exact Ψ4 τ Γ Y _ ⟨rs,hr,t,λv x H1 Γ1 s1 h1 r1 z1=>Ψ5 x τ Γ1 Y _ ⟨r1,rs.mono s1.tq,h1,z1,dr.nx.mono s1,xr.mono s1⟩,xr⟩
theorem lR(he:PE X e (bH E te))(hg:PG X tg (vE E g))(hs:swapsWithSole [tg] e pos.line X.env=pure false:=by rfl)(hw:swappedStores [tg] e X.env=pure none:=by rfl)
  (h1:(assignEach [tg] X.env).map (·.2)=[assign tg X.env]:=by rfl):PS X (.Assign [tg] e pos) (mw E (MV te g)):=CK (qL he hg hs hw h1) IM
def MT(i:Nat)(te:E3):C3:=λY D τ Γ=>te Y τ Γ λx Γ1=>D.nx (τ.set i (some x)) Γ1
theorem az{x:Str}(hN:X.N.Nodup)(hi:X.N[i]?=some x)(hx:Loc X.env.scope x)(he:PE X e (bH E te))(hs:swapsWith e (some (.Name x pos')) pos.line X.env=pure false:=by rfl)(hf:Fk X x:=by first|exact .inl rfl|exact .inr rfl|assumption):
  PS X (.Assign [.Name x pos'] e pos) (mw E (MT i te)):=gH (c7 hN hi hx he hs hf) λD σ H τ Γ Y Z rs hr t dr xr=>
   ⟨τ,Γ,Y,_,rs,hr,t,λv x H1 Γ1 s1 h1 r1 z1=>dr.nx _ _ H1 Γ1 s1 h1 ((rs.mono s1.tq).set r1 i) z1,xr⟩
def IF(i:Nat)(te:E3)(r:R3):C3:=λY D τ Γ=>∃x,τ[i]?=some (some x)∧te Y τ Γ λy Γ1=>r x y Γ1 λz Γ2=>D.nx (τ.set i (some z)) Γ2
theorem yH{x:Str}{op:Operator}(hN:X.N.Nodup)(hi:X.N[i]?=some x)(hx:Loc X.env.scope x)(he:PE X e (bH E te))(ho:lA X (inplaceOp op) r3)(hf:Fk X x:=by first|exact .inl rfl|exact .inr rfl|assumption):
  PS X (.AugAssign (.Name x pos') op e pos) (mw E (IF i te r3)):=by
 obtain⟨r,ho,h⟩:=ho;exact CK (Lr (ti:=r) hN hi hx he ho hf) λD σ H ⟨τ,Γ,Y,Z,rs,hr,⟨x,e,t⟩,dr,xr⟩=>?_;let⟨v,ev,rv⟩:=rs.get e;exact⟨v,ev,τ,Γ,Y,_,rs,hr,t,λw y H1 Γ1 s1 h1 r1 z1=>?_,xr⟩;exact h v w x y H1 Γ1 _ _ (rv.mono s1.tq) r1 h1 z1 λu z H2 Γ2 s2 h2 r2 z2=>?_;exact dr.nx _ _ H2 Γ2 (s1.trans s2) h2 ((rs.mono (s1.trans s2).tq).set r2 i) z2
structure Walks(J:It)(ts:List T)(gd:Gp→Prop)(H0:Hp):Prop where
 go:∀i H Γ,Tq H0 H→HR H Γ→gd Γ→i<ts.length→J.go i H
 nJ:∀i H Γ x H',Tq H0 H→HR H Γ→gd Γ→i<ts.length→J.nJ i H x H'→eW H Γ H' Γ∧HR H' Γ∧∃t,ts[i]?=some t∧R H' x t
 stop:∀H Γ,Tq H0 H→HR H Γ→gd Γ→J.stop ts.length H
abbrev I3:=X3→S3→Gp→(List T→(Gp→Prop)→Gp→Prop)→Prop
def vD(E:St→XK)(wi:I3):TI:=λσ H Q=>∃τ Γ Y Z,RS H σ τ∧HR H Γ∧wi Y τ Γ Z∧(∀J ts gd H' Γ',eW H Γ H' Γ'→HR H' Γ'→Walks J ts gd H'→Z ts gd Γ'→Q J H')∧XR H Γ Y E
theorem nY{t0:TI}{t:I3}(h:PI X tg e t0)(w:∀σ H Q τ Γ Y Z,RS H σ τ→HR H Γ→t Y τ Γ Z→(∀J ts gd H' Γ',eW H Γ H' Γ'→HR H' Γ'→Walks J ts gd H'→Z ts gd Γ'→Q J H')→XR H Γ Y E→t0 σ H Q):PI X tg e (vD E t):=
 NM h (by intro σ H Q⟨τ,Γ,Y,Z,rs,hr,q,vr,xr⟩;exact w σ H Q τ Γ Y Z rs hr q vr xr)
def J6(gd:Gp→Prop)(g:G3)(tb:C3)(Y:X3)(D:D3)(ts:List T)(τ:S3)(Γ:Gp):Prop:=∃P:List T→S3→Gp→Prop,P ts τ Γ∧(∀τ Γ,P [] τ Γ→gd Γ∧D.nx τ Γ)∧
 ∀x r τ Γ,P (x::r) τ Γ→gd Γ∧g Y x τ Γ λτ2 Γ2=>tb Y {D with nx:=P r,ct:=P r,bk:=D.nx} τ2 Γ2
def Q0(wi:I3)(g:G3)(tb:C3):C3:=λY D τ Γ=>wi Y τ Γ λts gd Γ1=>J6 gd g tb Y D ts τ Γ1
theorem drop_cons{α:Type}{xs:List α}(h:i<xs.length):xs.drop i=xs[i]::xs.drop (i+1):=ac1 h
theorem fS(hp:PassesOwn (model X.prog X.w) X.A X.env X.xe)(hc:X.calm=true)(hi:PI X tg iter (vD E wi))(hg:PG X tg (vE E g))(hb:kI X body (mw E tb))
  (hs:∀x,foldedSetIterable iter X.env x=pure x:=by intro _;rfl):PS X (.For tg iter body [] pos) (mw E (Q0 wi g tb)):=
 gH (yK hp hc hi hg hb hs) λD σ H τ Γ Y Z rs hr t dr xr=>by
  exact Ψ4 τ Γ Y _ ⟨rs,hr,t,λJ ts gd H1 Γ1 s1 h1 wk ξ=>Ξ13 ξ λP z1 p0 pc=>?_,xr⟩;exact⟨λi m σ' H'=>∃τ' Γ',i≤ts.length∧m=ts.length-i∧RS H' σ' τ'∧HR H' Γ'∧eW H1 Γ1 H' Γ'∧P (ts.drop i) τ' Γ',Ψ3 ts.length τ Γ1 ⟨aaE _,rfl,rs.mono s1.tq,h1,.refl,z1⟩,?_⟩;intro i m σ2 H2⟨τ2,Γ2,hi,rfl,qI,h2,s2,w2⟩;by_cases cG:i<ts.length
  ·rw[drop_cons cG]at w2
   let⟨g2,w2⟩:=pc _ _ _ _ w2;exact .inr ⟨wk.go i H2 Γ2 s2.tq h2 g2 cG,λσ' H'=>∃τ' Γ',RS H' σ' τ'∧HR H' Γ'∧eW H1 Γ1 H' Γ'∧P (ts.drop (i+1)) τ' Γ',λσ' H' ξ=>Ξ24 ξ λτ' Γ' a b c d=>⟨ts.length-(i+1),by lia,τ',Γ',cG,rfl,a,b,c,d⟩,λx H3 yl=>?_⟩;let⟨s3,h3,⟨x3,e3,r3⟩⟩:=wk.nJ i H2 Γ2 x H3 s2.tq h2 g2 cG yl;rw[aac cG]at e3;cases e3;exact Ψ5 _ τ2 Γ2 Y _ ⟨r3,qI.mono s3.tq,h3,w2,λσ4 τ4 H4 Γ4 s4 h4 r4 z4=>?_,xr.mono ((s1.trans s2).trans s3)⟩;have s5:=(s2.trans s3).trans s4;exact Ψ4 τ4 Γ4 Y _ ⟨r4,h4,z4,⟨λσ' τ' H' Γ' s h r z=>Ψ2 τ' Γ' ⟨r,h,s5.trans s,z⟩,dr.rt.mono (s1.trans s5),dr.nx.mono (s1.trans s5),λσ' τ' H' Γ' s h r z=>Ψ2 τ' Γ' ⟨r,h,s5.trans s,z⟩⟩,xr.mono (s1.trans s5)⟩
  ·have e:i=ts.length:=by lia
   subst e;rw[abX]at w2;have w2:=p0 _ _ w2;exact .inl ⟨wk.stop H2 Γ2 s2.tq h2 w2.1,dr.nx σ2 τ2 H2 Γ2 (s1.trans s2) h2 qI w2.2⟩
def FT(c:T3)(tb:C3):C3:=λY D τ Γ=>∃W:Nat→S3→Gp→Prop,(∃m,W m τ Γ)∧∀m τ Γ,W m τ Γ→
 c Y τ Γ λb Γ1=>if b=true then ∃N:S3→Gp→Prop,(∀τ' Γ',N τ' Γ'→∃m',m' < m∧W m' τ' Γ')∧tb Y {D with nx:=N,ct:=N,bk:=D.nx} τ Γ1 else D.nx τ Γ1
theorem wg(hp:PassesOwn (model X.prog X.w) X.A X.env X.xe)(hc:PT X c (kM E tc))(hb:kI X body (mw E tb)):PS X (.While c body [] pos) (mw E (FT tc tb)):=
 gH (D5 hp hc hb) λD σ H τ Γ Y Z rs hr q0 dr xr=>by
  let⟨W,⟨m0,w0⟩,turn⟩:=q0;exact⟨λm σ' H'=>∃τ' Γ',RS H' σ' τ'∧HR H' Γ'∧eW H Γ H' Γ'∧W m τ' Γ',Ψ3 m0 τ Γ ⟨rs,hr,.refl,w0⟩,?_⟩;intro m σ1 H1⟨τ1,Γ1,sD,h1,s1,w1⟩;exact Ψ4 τ1 Γ1 Y _ ⟨sD,h1,turn m τ1 Γ1 w1,λk H2 Γ2 s2 h2 z2=>?_,xr.mono s1⟩;cases k with
  |false=>exact dr.nx σ1 τ1 H2 Γ2 (s1.trans s2) h2 (sD.mono s2.tq) z2
  |true=>
   obtain⟨N,hN,z2⟩:=z2;exact⟨λσ' H'=>∃τ' Γ',RS H' σ' τ'∧HR H' Γ'∧eW H Γ H' Γ'∧N τ' Γ',λσ' H' ξ=>Ξ24 ξ λτ' Γ' a b c d=>?_,?_⟩
   ·let⟨m',hm,w'⟩:=hN τ' Γ' d
    exact⟨m',hm,τ',Γ',a,b,c,w'⟩
   ·have s3:=s1.trans s2
    exact Ψ4 τ1 Γ2 Y _ ⟨sD.mono s2.tq,h2,z2,⟨λσ' τ' H' Γ' s h r z=>Ψ2 τ' Γ' ⟨r,h,s3.trans s,z⟩,dr.rt.mono s3,dr.nx.mono s3,λσ' τ' H' Γ' s h r z=>Ψ2 τ' Γ' ⟨r,h,s3.trans s,z⟩⟩,xr.mono s3⟩
def Cf(own:List Str)(cap:List (Nat×Str))(τ:S3):S3:=List.replicate own.length none++cap.map λp=>(τ[p.1]?).getD none
theorem DQ{H:Hp}:∀{a:St} {b:S3} {c:St} {d:S3},RS H a b→RS H c d→RS H (a++c) (b++d)
 |[],[],_,_,_,h=>h
 |_::_,_::_,_,_,h,q=>⟨h.1,DQ h.2 q⟩
 |[],_::_,_,_,h,_=>h.elim
 |_::_,[],_,_,h,_=>h.elim
theorem DO{H:Hp}:∀n:Nat,RS H (List.replicate n none) (List.replicate n none)
 |0=>trivial
 |n+1=>⟨trivial,DO n⟩
theorem p6{σ:St}(own:List Str)(h:RS H σ τ):∀cap:List (Nat×Str),RS H (da own cap σ) (Cf own cap τ):=λcap=>by
 exact DQ (DO _) ?_;induction cap with
 |nil=>exact trivial
 |cons p r ih=>
  exact⟨?_,ih⟩;show Rc H ((σ[p.1]?).getD none) ((τ[p.1]?).getD none)
  cases e:τ[p.1]? with
  |none=>exact trivial
  |some o=>
   cases o with
   |none=>exact trivial
   |some x=>
    let⟨v,ev,rv⟩:=h.get e;rw[ev];exact rv
abbrev Y0:X3:=λ_ _ _=>False
def IX(gd:Gp→Prop)(g:G3)(tc:T3)(te:E3)(C:List T→Gp→Prop)(ts:List T)(τ:S3)(ys:List T)(Γ:Gp):Prop:=∃P:List T→S3→List T→Gp→Prop,P ts τ ys Γ∧(∀τ ys Γ,P [] τ ys Γ→gd Γ∧C ys Γ)∧
 ∀x r τ ys Γ,P (x::r) τ ys Γ→gd Γ∧g Y0 x τ Γ λτ3 Γ3=>tc Y0 τ3 Γ3 λb Γ4=>if b=true then te Y0 τ3 Γ4 λy Γ5=>P r τ3 (ys++[y]) Γ5 else P r τ3 ys Γ4
def AN(wi:I3)(g:G3)(tc:T3)(te:E3)(own:List Str)(cap:List (Nat×Str)):E3:=λY τ Γ Z=>wi Y τ Γ λts gd Γ1=>ts.length≤sizeLine∧
 IX gd g tc te (λys Γ2=>∀D,Γ2 D=none→Z (.ref D) (up Γ2 D (.lst ys))) ts (Cf own cap τ) [] Γ1
abbrev EN:St→XK:=λ_=>E0
theorem vL:XR H Γ Y0 EN:=λ_ _ _ _ _ _ _ _ z=>z.elim
theorem xE(σ:St)(H:Hp)(Q:VK)(q:bH E (AN wi g tc te own cap) σ H Q):vT (vD E wi) (vE EN g) (kM EN tc) (bH EN te) own cap σ H Q:=by
 let⟨τ,Γ,Y,Z,rs,hr,t,vr,xr⟩:=q;exact Ψ4 τ Γ Y _ ⟨rs,hr,t,λJ ts gd H1 Γ1 s1 h1 wk⟨hz,P,z1,p0,pc⟩=>?_,xr⟩;intro D hD;have nl:∀vs:List V,(∀us:List V,HO.lst vs≠.tup us)∧∀b w,HO.lst vs≠.frz b w:=λ_=>⟨λ_ z=>(nomatch z),λ_ _ z=>(nomatch z)⟩;exact⟨λi m σ' vs H'=>∃τ' ys Γ',i≤ts.length∧m=ts.length-i∧vs.length≤i∧RS H' σ' τ'∧HR H' Γ'∧H' D=some (.lst vs)∧Γ' D=none∧Rs H' vs ys∧eW H1 Γ1 H' Γ'∧P (ts.drop i) τ' ys Γ',
  ⟨ts.length,Cf own cap τ,[],Γ1,aaE _,rfl,aan _,(p6 own (rs.mono s1.tq) cap).mono (dA (bo hD)),h1.keep (bo hD),ar,h1.free hD,bI,.keep (bo hD),z1⟩,?_⟩
 intro i m σ2 vs H2⟨τ2,ys,Γ2,hi,rfl,hv,qI,h2,d2,gD,ry,s2,w2⟩;exact⟨d2,?_⟩;by_cases cG:i<ts.length
 ·rw[drop_cons cG]at w2
  let⟨g2,w2⟩:=pc _ _ _ _ _ w2;exact .inr ⟨wk.go i H2 Γ2 s2.tq h2 g2 cG,by lia,λσ' ws H'=>∃τ' ys Γ',ws.length≤i+1∧RS H' σ' τ'∧HR H' Γ'∧H' D=some (.lst ws)∧Γ' D=none∧Rs H' ws ys∧eW H1 Γ1 H' Γ'∧P (ts.drop (i+1)) τ' ys Γ',
   λσ' ws H' ξ=>Ξ31 ξ λτ' ys Γ' ξ=>Ξ08 ξ λa b c d e f k l=>⟨ts.length-(i+1),by lia,τ',ys,Γ',cG,rfl,a,b,c,d,e,f,k,l⟩,λx H3 yl=>?_⟩
  let⟨s3,h3,⟨x3,e3,r3⟩⟩:=wk.nJ i H2 Γ2 x H3 s2.tq h2 g2 cG yl;rw[aac cG]at e3;cases e3;exact Ψ5 _ τ2 Γ2 Y0 _ ⟨r3,qI.mono s3.tq,h3,w2,λσ4 τ4 H4 Γ4 s4 h4 r4 z4=>?_,vL⟩;exact Ψ4 τ4 Γ4 Y0 _ ⟨r4,h4,z4,λk H5 Γ5 s5 h5 z5=>?_,vL⟩;have mK:=(s3.trans s4).trans s5;have d5:H5 D=some (.lst vs):=mK.tY D _ d2 gD;have g5:Γ5 D=none:=mK.new D (by rw[d2];exactλz=>nomatch z) gD;cases k with
  |false=>exact Ψ3 τ4 ys Γ5 ⟨adQ hv,r4.mono s5.tq,h5,d5,g5,ry.mono mK.tq,s2.trans mK,z5⟩
  |true=>
   exact Ψ4 τ4 Γ5 Y0 _ ⟨r4.mono s5.tq,h5,z5,λy y' H6 Γ6 s6 h6 r6 z6=>?_,vL⟩;have Aa:=mK.trans s6;have d6:H6 D=some (.lst vs):=Aa.tY D _ d2 gD;have g6:Γ6 D=none:=Aa.new D (by rw[d2];exactλz=>nomatch z) gD;have tq:Tq H6 (upd H6 D (.lst (vs++[y]))):=jg d6 (nl vs);exact⟨d6,τ4,ys++[y'],Γ6,by rw[aag];exact adW hv,(r4.mono (s5.trans s6).tq).mono tq,h6.hide g6 d6 (nl vs),ar,g6,Rs.app ((ry.mono Aa.tq).mono tq) (bg (r6.mono tq) bI),?_,z6⟩;have s7:=s2.trans Aa;exact⟨s7.tq.trans tq,λa h z=>?_,s7.new,λa o h g=>?_⟩
   ·by_cases e:a=D
    ·subst e;exact h hD
    ·rw[ao e]at z;exact s7.yc a h z
   ·have e:a≠D:=λe=>by subst e;rw[hD]at h;cases h
    rw[ao e];exact s7.tY a o h g
 ·have e:i=ts.length:=by lia
  subst e;rw[abX]at w2;have w2:=p0 _ _ _ w2;exact .inl ⟨wk.stop H2 Γ2 s2.tq h2 w2.1,?_⟩;have uB:=s1.trans s2;exact vr (.ref D) (.ref D) H2 (up Γ2 D (.lst ys)) ⟨uB.tq,uB.yc,λa h g=>?_,uB.tY⟩ (λa o g=>?_) jG (w2.2 D gD)
  ·have e:a≠D:=λe=>by subst e;exact s1.yc _ h hD
   rw[bb e];exact uB.new a h g
  ·by_cases e:a=D
   ·subst e;rw[ai]at g;cases g;exact⟨vs,d2,ry⟩
   ·rw[bb e]at g;exact h2 a o g
section
variable {scope:Scope}{cl:List (Str×Addr)}{elt:Expr}{ifs:List Expr}
theorem cf(c:cV X scope cl own cap)(hc:X.calm=true)(hi:PI X tg iter (vD E wi))
  (hg:∀C s H fp,PG (aQ X (own++cap.map (·.2)) scope cl C s H fp λ_ _=>False) tg (vE EN g)) (ht:∀C s H fp,pG (aQ X (own++cap.map (·.2)) scope cl C s H fp λ_ _=>False) ifs (kM EN tc))
  (he:∀C s H fp,PE (aQ X (own++cap.map (·.2)) scope cl C s H fp λ_ _=>False) elt (bH EN te)) (hs:∀x,foldedSetIterable iter X.env x=pure x:=by intro _;rfl) :
  PE X (.ListComp elt [⟨tg,iter,ifs,0⟩] scope pos) (bH E (AN wi g tc te own cap)):=gI (Hj c hc hi hg ht he hs) xE
theorem p7{py Dy:Pos}(c:cV X scope cl own cap)(hc:X.calm=true)(hi:PI X tg iter (vD E wi))
  (hg:∀C s H fp,PG (aQ X (own++cap.map (·.2)) scope cl C s H fp λ_ _=>False) tg (vE EN g)) (ht:∀C s H fp,pG (aQ X (own++cap.map (·.2)) scope cl C s H fp λ_ _=>False) ifs (kM EN tc))
  (he:∀C s H fp,PE (aQ X (own++cap.map (·.2)) scope cl C s H fp λ_ _=>False) elt (bH EN te))
  (hN:X.N.Nodup) (hy:X.N[i]?=some y) (hl:X.env.scope.names.lookup y=some .local)
  (Uv:swapsWith (.ListComp elt [⟨tg,iter,ifs,0⟩] scope pos) (some (.Name y py)) Dy.line X.env=pure true:=by rfl) (hs:∀x,foldedSetIterable iter X.env x=pure x:=by intro _;rfl) :
  PS X (.Assign [.Name y py] (.ListComp elt [⟨tg,iter,ifs,0⟩] scope pos) Dy) (mw E (MT i (AN wi g tc te own cap))):=
 gH (Aj c hc hi hg ht he hN hy hl Uv hs) λD σ H τ Γ Y Z rs hr t dr xr=>
  xE σ H _ ⟨τ,Γ,Y,_,rs,hr,t,λv x H1 Γ1 s1 h1 r1 z1=>dr.nx _ _ H1 Γ1 s1 h1 ((rs.mono s1.tq).set r1 i) z1,xr⟩
def JW:T3:=λ_ _ Γ Z=>Z true Γ
theorem bB:pG X [] (kM E JW):=Gr G9 λσ H Q τ Γ Y Z rs hr t vr xr=>vr true H Γ .refl hr t
theorem Ae{t:T3}(h:PT X c (kM E t)):pG X [c] (kM E t):=Ai h
end
end
def a8:List Str→List T→S3
 |[],_=>[]
 |_::N,[]=>none::a8 N []
 |_::N,t::ts=>some t::a8 N ts
theorem tM{H:Hp}:∀N:List Str,RS H (List.replicate N.length none) (a8 N [])
 |[]=>trivial
 |_::N=>⟨trivial,tM N⟩
theorem mM{H:Hp}:∀(N:List Str) {vs:List V} {ts:List T},Rs H vs ts→ts.length≤N.length→RS H (L2.start N vs) (a8 N ts)
 |N,vs,[],h,_=>by
  rw[bA h];exact tM N
 |[],vs,t::ts,h,l=>absurd l (by simp)
 |n::N,vs,t::ts,h,l=>by
  let⟨v,ws,rfl,a,b⟩:=bO h;have:=mM N b (by simpa using l);exact⟨a,?_⟩;unfold L2.start at this;rw[aap,aap,Nat.add_sub_add_right];exact this
theorem yB{sc:Scope}(S:aF N ps sc):ps.length≤N.length:=by
 have:=abc List.length S.pre;rw[aa4]at this;lia
section
variable {x:Str}{C:Addr}{JV:List Value}{B newId zg:String}{e₀:Expr}{E:XK}
def FV(C:Addr)(t:A3):C3:=λY D τ Γ=>t Y τ Γ λxs Γ1=>xs.length≤sizeLine∧Y τ (.ref C) Γ1
theorem dD(hc:X.calm=true)(hg:Gl X x)(hm:X.mg x=some (.ref C))(hx:W.excIn X.K C JV newId=true)(FB:ExcBaseFacts B newId zg JV)(ha:PA X (e₀::rest) (uR (λ_=>E) t))(hE:Raises X E)
  (hd:(x ==("__debug__" : Str))=false:=by decide) (he:starEach (e₀::rest) X.env=(false,eval e₀ X.env)::starEach rest X.env:=by rfl) (i9:(backTo dy (starEach rest X.env)).any (·.1)=false:=by rfl) :
  PS X (.Raise (some (.Call (.Name x np) (e₀::rest) [] dy)) none pos) (mw (λ_=>E) (FV C t)):=
 gH (D6 hc hg hm hx FB ha hE hd he i9) λD σ H τ Γ Y Z rs hr t dr xr=>
  ⟨τ,Γ,Y,_,rs,hr,t,λvs xs H1 Γ1 s1 h1 r1 z1=>⟨by rw[r1.length];exact z1.1,xr σ τ _ H1 Γ1 s1 h1 (rs.mono s1.tq) z1.2⟩,xr⟩
end
section
variable {jN:List Stmt}{b₀:Stmt}{n:Str}{xb:Pos}{ts:C3}
def QZ(K:W.Frag)(Cy:Addr)(j:Nat)(tb ts:C3):C3:=λ_ D τ Γ=>tb (λτ' C Γ'=>W.exmOne K C (.ref Cy)=some true∧∀x,Γ' x=none→
 ts Y0 {nx:=λτ2 Γ2=>D.nx (τ2.set j none) Γ2,rt:=D.rt,bk:=λτ2 Γ2=>D.bk (τ2.set j none) Γ2,ct:=λτ2 Γ2=>D.ct (τ2.set j none) Γ2} (τ'.set j (some (.ref x))) (up Γ' x (.ext (excAt x C)))) D τ Γ
theorem RS.unset:∀{σ:St} {τ:S3} (i:Nat),RS H σ τ→RS H (σ.set i none) (τ.set i none)
 |[],[],_,_=>trivial
 |_::_,_::_,0,h=>⟨trivial,h.2⟩
 |_::_,_::_,i+1,h=>⟨h.1,RS.unset i h.2⟩
 |[],_::_,_,h=>h.elim
 |_::_,[],_,h=>h.elim
theorem NR.unset{Z:S3→Gp→Prop}{Q:St→Hp→Prop}(h:NR H Γ Z Q):NR H Γ (λτ2 Γ2=>Z (τ2.set j none) Γ2) (λσ2 H2=>Q (σ2.set j none) H2):=λσ τ H' Γ' s hr r z=>h _ _ H' Γ' s hr (r.unset j) z
theorem Lh(kN:X.stack=X.env::X.outer)(Ff:X.env.frame=some X.env.locals)(hy:Gl X y)(Qk:X.mg y=some (.ref Cy))(hN:X.N.Nodup)(hj:X.N[j]?=some n)(hl:X.env.scope.names.lookup n=some .local)
  (hb:∀(E':xz) (pn:ad) (W:St→XK),(∀pins σ H s e s',Inv (X.tr E' pn) pins σ H s→qf X.prog X.w X.stack H s (W σ) e s'→E' e s')→kI (X.tr E' pn) body (mw W tb))
  (hs:∀x,kI (X.su x) (b₀::jN) (mw EN ts)) (hd:(y ==("__debug__" : Str))=false:=by decide) :
  PS X (.Try body [.ExceptHandler (some (.Name y np)) (some n) (b₀::jN) xb] [] [] pos) (mw E (QZ X.K Cy j tb ts)):=
 gH (Lq kN Ff hy Qk hN hj hl hb hs hd) λD σ H τ Γ Y Z rs hr t dr xr=>by
  exact Ψ4 τ Γ _ Z ⟨rs,hr,t,dr,λσ1 τ1 C H1 Γ1 s1 h1 r1 y1=>⟨y1.1,λx hx=>?_⟩⟩;have k:=bo (o:=.ext (excAt x C)) hx;have s2:eW H Γ (upd H1 x (.ext (excAt x C))) (up Γ1 x (.ext (excAt x C))):=s1.trans (.make hx);exact Ψ4 _ _ Y0 _ ⟨RS.set jG j (r1.mono (dA k)),h1.make (o3:=.ext (excAt x C)) hx ar,y1.2 x (h1.free hx),⟨(dr.nx.mono s2).unset,dr.rt.mono s2,(dr.bk.mono s2).unset,(dr.ct.mono s2).unset⟩,vL⟩
end
def sc:T→Option V
 |.non=>some .non|.bl b=>some (.bl b)|.int i=>some (.int i)|.str z=>some (.str z)|_=>none
theorem yA{u:V}(r:R H v x)(h:sc x=some u):v=u:=by
 cases x with
 |non=>cases h;exact xa r
 |bl b=>cases h;exact sN r
 |int i=>cases h;exact bG r
 |str z=>cases h;exact c4 r
 |tup ts=>cases h
 |ref a=>cases h
 |ty n=>cases h
 |scr K a ts=>cases h
def Jj:List T→Option (List V)
 |[]=>some []
 |x::r=>match sc x,Jj r with|some v,some vs=>some (v::vs)|_,_=>none
theorem DJ{H:Hp}:∀{ts:List T} {vs us:List V},Rs H vs ts→Jj ts=some us→vs=us
 |[],vs,us,r,h=>by cases h;exact bA r
 |x::q,vs,us,r,h=>by
  let⟨v,ws,rfl,a,b⟩:=bO r;unfold Jj at h;split at h
  ·rename_i v' mv e1 e2
   cases h;rw[yA a e1,DJ b e2]
  ·cases h
def pB(Γ:Gp):T→Option (List T)
 |.tup ts=>some ts
 |.ref a=>match Γ a with|some (.lst ts)=>some ts|_=>none
 |_=>none
theorem bh(h:Γ a=some (.lst ts)):pB Γ (.ref a)=some ts:=by
 show(match Γ a with|some (.lst ts)=>some ts|_=>none)=_
 rw[h]
theorem hG(hr:HR H Γ)(h:pB Γ (.ref a)=some ts):∃vs,eh K H a vs∧Rs H vs ts:=by
 have h:(match Γ a with|some (.lst ts)=>some ts|_=>none)=some ts:=h;split at h
 ·rename_i nK g;cases h;let⟨vs,ha,q⟩:=hr a _ g;exact⟨vs,eh.of ha,q⟩
 ·cases h
theorem E7(r:R H v x)(hr:HR H Γ)(h:pB Γ x=some ts):∃p vs,v=.ref p∧(eh K H p vs∨cW K H p vs)∧Rs H vs ts:=by
 cases x with
 |tup us=>cases h;let⟨a,vs,e,ha,q⟩:=cp r;exact Ψ2 a vs ⟨e,.inr (cW.of ha),q⟩
 |ref a=>let⟨vs,s,q⟩:=hG (K:=K) hr h;exact Ψ2 a vs ⟨bZ r,.inl s,q⟩
 |_=>cases h
section
def F9(C:Int→Int→Prop)(g:Int→Int→T):R3:=λx y Γ Z=>∃i j,x=.int i∧y=.int j∧C i j∧Z (g i j) Γ
def Co(g:Int→Int→T):R3:=λx y Γ Z=>∃i j,x=.int i∧y=.int j∧Z (g i j) Γ
theorem Eu{g:Int→Int→V}(h:ja X f (rI C g))(e:∀i j H,R H (g i j) (g3 i j)):lA X f (F9 C g3):=
 ⟨_,h,λx y a b H Γ Q Z ra rb hr q0 vr=>by let⟨i,j,ea,eb,c,z⟩:=q0;subst ea eb;exact Ψ2 i j ⟨bG ra,bG rb,c,vr _ _ H Γ .refl hr (e i j H) z⟩⟩
theorem yT{g:Int→Int→V}(h:ja X f (F8 g))(e:∀i j H,R H (g i j) (g3 i j)):lA X f (Co g3):=
 ⟨_,h,λx y a b H Γ Q Z ra rb hr q0 vr=>by let⟨i,j,ea,eb,z⟩:=q0;subst ea eb;exact Ψ2 i j ⟨bG ra,bG rb,vr _ _ H Γ .refl hr (e i j H) z⟩⟩
theorem eE:lA X (binaryOp .Add) (Co λi j=>.int (i+j)):=yT fU λ_ _ _=>cY
theorem iP:lA X (binaryOp .Sub) (Co λi j=>.int (i-j)):=yT lU λ_ _ _=>cY
theorem lT:lA X (binaryOp .Mult) (F9 vB λi j=>.int (i*j)):=Eu uL λ_ _ _=>cY
theorem mR:lA X (binaryOp .FloorDiv) (F9 Bd λi j=>.int (i/j)):=Eu qT λ_ _ _=>cY
theorem Es:lA X (binaryOp .Mod) (F9 (λ_ j=>0<j) λi j=>.int (i%j)):=Eu qS λ_ _ _=>cY
theorem j5:lA X (binaryOp .Pow) (F9 Rk λi j=>.int (i^j.toNat)):=Eu uJ λ_ _ _=>cY
theorem Au:lA X (compareOp .Lt) (Co λi j=>.bl (decide (i<j))):=yT Jt λ_ _ _=>ij
theorem tQ:lA X (compareOp .LtE) (Co λi j=>.bl (decide (i≤j))):=yT Ew λ_ _ _=>ij
theorem Et:lA X (compareOp .Gt) (Co λi j=>.bl (decide (j<i))):=yT Ex λ_ _ _=>ij
theorem Aw:lA X (compareOp .GtE) (Co λi j=>.bl (decide (j≤i))):=yT PF λ_ _ _=>ij
theorem Av:lA X (inplaceOp .Add) (Co λi j=>.int (i+j)):=yT Ic λ_ _ _=>cY
theorem Hq:lA X (inplaceOp .Mult) (F9 vB λi j=>.int (i*j)):=Eu Ib λ_ _ _=>cY
theorem LK:lA X (compareOp .In) (λx y Γ Z=>∃i j,x=.str i∧y=.str j∧Z (.bl (!(Builtin.Str.occurrences j i 0 j.length 1).isEmpty)) Γ):=
 ⟨_,Bu,λx y a b H Γ Q Z ra rb hr q0 vr=>by let⟨i,j,ea,eb,z⟩:=q0;subst ea eb;exact Ψ2 i j ⟨c4 ra,c4 rb,vr _ _ H Γ .refl hr ij z⟩⟩
def GZ:R3:=λx y Γ Z=>∃u v,sc x=some u∧sc y=some v∧GQ u v=true∧Z (.bl (decide (u=v))) Γ
def Lf:R3:=λx y Γ Z=>∃u v,sc x=some u∧sc y=some v∧GQ u v=true∧Z (.bl (!decide (u=v))) Γ
theorem bj:lA X (compareOp .Eq) GZ:=
 ⟨_,tR,λx y a b H Γ Q Z ra rb hr q0 vr=>by let⟨u,v,ea,eb,c,z⟩:=q0;rw[yA ra ea,yA rb eb];exact⟨c,vr _ _ H Γ .refl hr ij z⟩⟩
theorem iW:lA X (compareOp .NotEq) Lf:=
 ⟨_,PD,λx y a b H Γ Q Z ra rb hr q0 vr=>by let⟨u,v,ea,eb,c,z⟩:=q0;rw[yA ra ea,yA rb eb];exact⟨c,vr _ _ H Γ .refl hr ij z⟩⟩
def JA:T→Bool|.non=>true|_=>false
theorem Ia(r:R H v x):decide (v=.non)=JA x:=by
 cases x with
 |non=>rw[xa r];rfl
 |bl b=>rw[sN r];rfl
 |int i=>rw[bG r];rfl
 |str z=>rw[c4 r];rfl
 |tup ts=>let⟨a,vs,e,_⟩:=cp r;rw[e];rfl
 |ref a=>rw[bZ r];rfl
 |ty n=>rw[P0 r];rfl
 |scr K a ts=>rw[(Fc r).1];rfl
theorem yS:lA X (compareOp .Is) (λx y Γ Z=>y=.non∧Z (.bl (JA x)) Γ):=
 ⟨_,LM,λx y a b H Γ Q Z ra rb hr q0 vr=>by let⟨eb,z⟩:=q0;subst eb;exact⟨xa rb,by rw[Ia ra];exact vr _ _ H Γ .refl hr ij z⟩⟩
def Lg(neg:Bool):R3:=λx y Γ Z=>∃u ts us,sc x=some u∧pB Γ y=some ts∧Jj ts=some us∧eK u=true∧us.all eK=true∧Z (.bl (if neg then !Ge u us else Ge u us)) Γ
theorem Me(x y:V)(a b:T)(H:Hp)(Γ:Gp)(Q:VK)(Z:K3)(ra:R H x a)(rb:R H y b)(hr:HR H Γ)(h:Lg neg a b Γ Z)(vr:VR H Γ Z Q):Rx X.K neg x y H Q:=by
 let⟨u,ts,us,ea,eb,es,f1,f2,z⟩:=h;let⟨p,vs,rfl,sq,q⟩:=E7 (K:=X.K) rb hr eb;rw[yA ra ea];cases DJ q es;exact Ψ2 p _ ⟨rfl,sq,f1,f2,vr _ _ H Γ .refl hr ij z⟩
theorem PB:lA X (compareOp .In) (Lg false):=⟨_,Bv,Me⟩
theorem m9(q:Rs H vs ts):vs.isEmpty=ts.isEmpty:=by
 have:=q.length;cases vs<;>cases ts<;>simp_all
theorem qR(hu:X.A.units<cLine):lA X (compareOp .Eq) (λx y Γ Z=>∃a b ts,x=.ref a∧y=.ref b∧Γ a=some (.lst ts)∧Γ b=some (.lst [])∧Z (.bl ts.isEmpty) Γ):=
 ⟨_,Ey hu,λx y a b H Γ Q Z ra rb hr q0 vr=>by
  let⟨p,p',ts,ea,eb,g1,g2,z⟩:=q0;subst ea eb;let⟨vs,hv,q⟩:=hr p _ g1;let⟨mv,Gg,q'⟩:=hr p' _ g2;rw[bA q']at Gg;exact Ψ3 p p' vs ⟨bZ ra,bZ rb,eh.of hv,eh.of Gg,by rw[m9 q];exact vr _ _ H Γ .refl hr ij z⟩⟩
theorem Er(hu:X.A.units<cLine):lA X (compareOp .NotEq) (λx y Γ Z=>∃a b ts,x=.ref a∧y=.ref b∧Γ a=some (.lst ts)∧Γ b=some (.lst [])∧Z (.bl (!ts.isEmpty)) Γ):=
 ⟨_,wx hu,λx y a b H Γ Q Z ra rb hr q0 vr=>by
  let⟨p,p',ts,ea,eb,g1,g2,z⟩:=q0;subst ea eb;let⟨vs,hv,q⟩:=hr p _ g1;let⟨mv,Gg,q'⟩:=hr p' _ g2;rw[bA q']at Gg;exact Ψ3 p p' vs ⟨bZ ra,bZ rb,eh.of hv,eh.of Gg,by rw[m9 q];exact vr _ _ H Γ .refl hr ij z⟩⟩
def Jr:R3:=λx y Γ Z=>∃ts us,x=.tup ts∧y=.tup us∧ts.length+us.length≤sizeLine∧Z (.tup (ts++us)) Γ
theorem wQ(k:Kp [] H H'):∀b o,H b=some o→H' b=some o:=λb o h=>k b o (by simp) h
theorem gX:lA X (binaryOp .Add) Jr:=
 ⟨_,Hz,λx y a b H Γ Q Z ra rb hr q0 vr=>by
  let⟨ts,us,ea,eb,l,z⟩:=q0;subst ea eb;let⟨p,vs,rfl,hp,q⟩:=cp ra;let⟨p',mv,rfl,xc,q'⟩:=cp rb;exact Ψ4 p p' vs mv ⟨rfl,rfl,hp,xc,by rw[q.length,q'.length];exact l,λc H' k hc=>?_⟩;exact vr _ _ H' Γ (.keep (wQ k)) (hr.keep (wQ k)) (fq hc (Rs.app (q.mono (dA (wQ k))) (q'.mono (dA (wQ k))))) z⟩
def Pm:R3:=λx y Γ Z=>∃ts k,x=.tup ts∧y=.int k∧0≤k∧k≤1000∧ts.length≤1000∧Z (.tup (List.replicate k.toNat ts).flatten) Γ
theorem Ab{H:Hp}{vs:List V}{ts:List T}(q:Rs H vs ts):∀n:Nat,Rs H (List.replicate n vs).flatten (List.replicate n ts).flatten
 |0=>bI
 |n+1=>by
  rw[abx,abx,aaQ,aaQ];exact Rs.app q (Ab q n)
theorem yR:lA X (binaryOp .Mult) Pm:=
 ⟨_,Ht,λx y a b H Γ Q Z ra rb hr q0 vr=>by
  let⟨ts,k,ea,eb,k0,k1,l,z⟩:=q0;subst ea eb;let⟨p,vs,rfl,hp,q⟩:=cp ra;exact Ψ3 p k vs ⟨rfl,bG rb,hp,k0,k1,by rw[q.length];exact l,λc H' kp hc=>?_⟩;exact vr _ _ H' Γ (.keep (wQ kp)) (hr.keep (wQ kp)) (fq hc (Ab (q.mono (dA (wQ kp))) _)) z⟩
theorem Q5{i:Int}{t:T}(q:Rs H vs ts)(h:kH ts i=some t):∃v,kH vs i=some v∧R H v t:=by
 unfold kH at h ⊢;rw[q.length];cases e:BN ts.length i with
 |none=>rw[e]at h;cases h
 |some j=>
  rw[e]at h;have h':ts[j]?=some t:=h;let⟨v,hv,r⟩:=q.get h';exact⟨v,hv,r⟩
def Bq:R3:=λx y Γ Z=>∃ts i t,pB Γ x=some ts∧y=.int i∧kH ts i=some t∧Z t Γ
def Pn:R3:=λx y Γ Z=>∃z i c,x=.str z∧y=.int i∧z.length≤sizeLine∧kH z.cps.toList i=some c∧Z (.str ⟨#[c]⟩) Γ
variable {a b:Expr}{ta tb:E3}
theorem ay(ha:PE X a (bH E ta))(hb:PE X b (bH E tb))(hs:qe b):PE X (.Subscript a b pos) (bH E (Cu Bq ta tb)):=
 gI (eB Mb ha hb hs) (oD λx y a b H Γ Q Z ra rb hr q0 vr=>by
  let⟨ts,i,t,ea,eb,h,z⟩:=q0;subst eb;let⟨p,vs,rfl,sq,q⟩:=E7 (K:=X.K) ra hr ea;let⟨v,hv,r⟩:=Q5 q h;rcases sq with sq|sq
  ·exact .inl ⟨p,vs,i,v,rfl,bG rb,sq,hv,vr _ _ H Γ .refl hr r z⟩
  ·exact .inr (.inl ⟨p,vs,i,v,rfl,bG rb,sq,hv,vr _ _ H Γ .refl hr r z⟩))
theorem Lk(ha:PE X a (bH E ta))(hb:PE X b (bH E tb))(hs:qe b):PE X (.Subscript a b pos) (bH E (Cu Pn ta tb)):=
 gI (eB oN ha hb hs) (oD λx y a b H Γ Q Z ra rb hr q0 vr=>by
  let⟨w,i,c,ea,eb,l,h,z⟩:=q0;subst ea eb;exact Ψ3 w i c ⟨c4 ra,bG rb,l,h,vr _ _ H Γ .refl hr jF z⟩)
abbrev O3:=X3→S3→Gp→(Option Int→Gp→Prop)→Prop
def PQ(E:St→XK)(t:O3):TO:=λσ H Q=>∃τ Γ Y Z,RS H σ τ∧HR H Γ∧t Y τ Γ Z∧(∀i H' Γ',eW H Γ H' Γ'→HR H' Γ'→Z i Γ'→Q i H')∧XR H Γ Y E
theorem NL{e:Option Expr}{t t':TO}(h:PO X e t)(w:∀σ H Q,t' σ H Q→t σ H Q):PO X e t':=⟨λpins s σ H Q I q=>h.run pins s σ H Q I (w _ _ _ q)⟩
theorem CL{e:Option Expr}{t0:TO}{t:O3}(h:PO X e t0)(w:∀σ H Q τ Γ Y Z,RS H σ τ→HR H Γ→t Y τ Γ Z→(∀i H' Γ',eW H Γ H' Γ'→HR H' Γ'→Z i Γ'→Q i H')→XR H Γ Y E→t0 σ H Q):PO X e (PQ E t):=
 NL h (by intro σ H Q⟨τ,Γ,Y,Z,rs,hr,q,vr,xr⟩;exact w σ H Q τ Γ Y Z rs hr q vr xr)
def Jv:O3:=λ_ _ Γ Z=>Z none Γ
def Ju(t:E3):O3:=λY τ Γ Z=>t Y τ Γ λx Γ1=>∃i,x=.int i∧Z (some i) Γ1
theorem mO:PO X none (PQ E Jv):=CL gu λσ H Q τ Γ Y Z rs hr t vr xr=>vr none H Γ .refl hr t
theorem gq(h:PE X e (bH E te)):PO X (some e) (PQ E (Ju te)):=CL (gr h) λσ H Q τ Γ Y Z rs hr t vr xr=>
 ⟨τ,Γ,Y,_,rs,hr,t,λv x H1 Γ1 s1 h1 r1 q0=>by let⟨i,ex,z⟩:=q0;subst ex;exact⟨i,bG r1,vr _ H1 Γ1 s1 h1 z⟩,xr⟩
abbrev Sf:=T→Option Int→Option Int→Gp→K3→Prop
def Xh(X:Cx)(r3:Sf):Prop:=∃r,NG X r∧∀x a lo hi H Γ Q Z,R H x a→HR H Γ→r3 a lo hi Γ Z→VR H Γ Z Q→r x lo hi H Q
def Xa(r:Sf)(te:E3)(tl th:O3):E3:=λY τ Γ Z=>te Y τ Γ λx Γ1=>tl Y τ Γ1 λl Γ2=>th Y τ Γ2 λu Γ3=>r x l u Γ3 Z
theorem gO{r3:Sf}{lo hi:Option Expr}{tl:O3}(hs:Xh X r3)(he:PE X e (bH E te))(hl:PO X lo (PQ E tl))(hu:PO X hi (PQ E th)):PE X (.Subscript e (.Slice lo hi none p2) pos) (bH E (Xa r3 te tl th)):=by
 let⟨r,YR,sim⟩:=hs;exact cK (fg YR he hl hu) λσ H Q τ Γ Y Z rs hr t vr xr=>?_;exact Ψ4 τ Γ Y _ ⟨rs,hr,t,λv x H1 Γ1 s1 h1 r1 z1=>?_,xr⟩;exact Ψ4 τ Γ1 Y _ ⟨rs.mono s1.tq,h1,z1,λl H2 Γ2 s2 h2 z2=>?_,xr.mono s1⟩;exact Ψ4 τ Γ2 Y _ ⟨rs.mono (s1.trans s2).tq,h2,z2,λu H3 Γ3 s3 h3 z3=>?_,xr.mono (s1.trans s2)⟩;exact sim v x l u H3 Γ3 Q Z (r1.mono (s2.trans s3).tq) h3 z3 (vr.mono ((s1.trans s2).trans s3))
theorem QU{lo hi:Option Int}(q:Rs H vs ts):Rs H (vc vs lo hi) (fI ts lo hi):=by
 unfold vc fI;rw[q.length];exact Rs.take _ (Rs.drop _ q)
theorem lE:Xh X (λx lo hi Γ Z=>∃ts,x=.tup ts∧Z (.tup (fI ts lo hi)) Γ):=
 ⟨_,GL,λx a lo hi H Γ Q Z ra hr q0 vr=>by
  let⟨ts,ea,z⟩:=q0;subst ea;let⟨p,vs,rfl,hp,q⟩:=cp ra;exact Ψ2 p vs ⟨rfl,hp,λc H' k hc=>vr _ _ H' Γ (.keep (wQ k)) (hr.keep (wQ k)) (fq hc (QU (q.mono (dA (wQ k))))) z⟩⟩
def Iq(r:T→Gp→K3→Prop)(te ts:E3):E3:=λY τ Γ Z=>te Y τ Γ λx Γ1=>ts Y τ Γ1 λk Γ2=>k=.int (-1)∧r x Γ2 Z
def VQ(g:Int→T):T→Gp→K3→Prop:=λx Γ Z=>∃i,x=.int i∧Z (g i) Γ
def W9(r:T→Gp→K3→Prop)(ta:E3):E3:=λY τ Γ Z=>ta Y τ Γ λx Γ1=>r x Γ1 Z
theorem qK(ha:PE X a (bH E ta)):PE X (.UnaryOp .USub a pos) (bH E (W9 (VQ λi=>.int (-i)) ta)):=
 cK (Pu J7 ha) λσ H Q τ Γ Y Z rs hr t vr xr=>
  ⟨τ,Γ,Y,_,rs,hr,t,λv x H1 Γ1 s1 h1 r1 q0=>by let⟨i,ex,z⟩:=q0;subst ex;exact⟨i,bG r1,vr _ _ H1 Γ1 s1 h1 cY z⟩,xr⟩
abbrev F3:=List T→Gp→K3→Prop
def iG(X:Cx)(f:Value)(r3:F3):Prop:=∃r,hZ X f r∧∀vs ts H Γ Q Z,Rs H vs ts→HR H Γ→r3 ts Γ Z→VR H Γ Z Q→r vs H Q
def R6(r:F3)(t:A3):E3:=λY τ Γ Z=>t Y τ Γ λts Γ1=>r ts Γ1 Z
theorem FL{r:List V→Hp→VK→Prop}{r3:F3}(h:∀vs ts H Γ Q Z,Rs H vs ts→HR H Γ→r3 ts Γ Z→VR H Γ Z Q→r vs H Q)(σ:St)(H:Hp)(Q:VK)(q:bH E (R6 r3 t) σ H Q):S8 r (uR E t) σ H Q:=by
 let⟨τ,Γ,Y,Z,rs,hr,t,vr,xr⟩:=q;exact Ψ4 τ Γ Y _ ⟨rs,hr,t,λvs xs H1 Γ1 s1 h1 r1 z1=>h vs xs H1 Γ1 Q Z r1 h1 z1 (vr.mono s1),xr⟩
section
variable {x:Str}{p:Pos}{id:String}{r3:F3}
theorem aH(hc:iG X (.builtin id) r3)(hg:Gl X x)(hm:X.mg x=none)(hv:bootBuiltins x=some (.builtin id))(ha:PA X (e::es) (uR E t))(hn:x ≠ "__name__" := by decide)(xf:(x ==("__debug__" : Str))=false:=by decide)
  (he:starEach (e::es) X.env=(false,eval e X.env)::starEach es X.env:=by rfl) (i9:(backTo pos (starEach es X.env)).any (·.1)=false:=by rfl):PE X (.Call (.Name x p) (e::es) [] pos) (bH E (R6 r3 t)):=by
 let⟨r,hr,h⟩:=hc;exact gI (iV hr hg hm hv ha hn xf he i9) (FL h)
theorem cQ(hc:iG X (.type Tn) r3)(hg:Gl X x)(hm:X.mg x=none)(hv:bootBuiltins x=some (.type Tn))(ha:PA X (e::es) (uR E t))(hn:x ≠ "__name__" := by decide)(xf:(x ==("__debug__" : Str))=false:=by decide)
  (he:starEach (e::es) X.env=(false,eval e X.env)::starEach es X.env:=by rfl) (i9:(backTo pos (starEach es X.env)).any (·.1)=false:=by rfl):PE X (.Call (.Name x p) (e::es) [] pos) (bH E (R6 r3 t)):=by
 let⟨r,hr,h⟩:=hc;exact gI (tP hr hg hm hv ha hn xf he i9) (FL h)
end
theorem sD(h:Rs H vs [x]):∃v,vs=[v]∧R H v x:=by
 let⟨v,ws,rfl,a,b⟩:=bO h;exact⟨v,by rw[bA b],a⟩
theorem qI{y:T}(h:Rs H vs [x,y]):∃v w,vs=[v,w]∧R H v x∧R H w y:=by
 let⟨v,ws,rfl,a,b⟩:=bO h;let⟨w,rfl,c⟩:=sD b;exact Ψ2 v w ⟨rfl,a,c⟩
theorem cF:iG X (.builtin "len") (λxs Γ Z=>∃x ts,xs=[x]∧pB Γ x=some ts∧Z (.int ts.length) Γ):=
 ⟨_,jz,λvs xs H Γ Q Z r hr q0 vr=>by
  let⟨x,ts,e,h,z⟩:=q0;subst e;let⟨v,rfl,rv⟩:=sD r;let⟨p,us,rfl,sq,q⟩:=E7 (K:=X.K) rv hr h;exact Ψ2 p us ⟨rfl,sq,by rw[q.length];exact vr _ _ H Γ .refl hr cY z⟩⟩
theorem Iv:iG X (.builtin "len") (λxs Γ Z=>∃z:Str,xs=[.str z]∧z.length≤sizeLine∧Z (.int z.length) Γ):=
 ⟨_,nq,λvs xs H Γ Q Z r hr q0 vr=>by
  let⟨w,e,l,z⟩:=q0;subst e;let⟨v,rfl,rv⟩:=sD r;exact⟨w,by rw[c4 rv],l,vr _ _ H Γ .refl hr cY z⟩⟩
theorem dJ:iG X (.type "tuple") (λxs Γ Z=>∃x ts,xs=[x]∧pB Γ x=some ts∧Z (.tup ts) Γ):=
 ⟨_,lj,λvs xs H Γ Q Z r hr q0 vr=>by
  let⟨x,ts,e,h,z⟩:=q0;subst e;let⟨v,rfl,rv⟩:=sD r;cases x with
  |tup us=>
   cases h;let⟨a,ws,rfl,ha,q⟩:=cp rv;exact Ψ2 a ws ⟨rfl,.inr ⟨cW.of ha,vr _ _ H Γ .refl hr (fq ha q) z⟩⟩
  |ref a=>
   let⟨us,sq,q⟩:=hG (K:=X.K) hr h;exact Ψ2 a us ⟨by rw[bZ rv],.inl ⟨sq,λl hl=>?_⟩⟩;have k:=bo (o:=.tup us) hl;exact vr _ _ _ Γ (.keep k) (hr.keep k) (fq ar (q.mono (dA k))) z
  |_=>cases h⟩
theorem vf(hc:X.calm=true):iG X (.builtin "max") (λxs Γ Z=>∃i j,xs=[.int i,.int j]∧Z (.int (if j>i then j else i)) Γ):=
 ⟨_,oQ hc,λvs xs H Γ Q Z r hr q0 vr=>by
  let⟨i,j,e,z⟩:=q0;subst e;let⟨v,w,rfl,a,b⟩:=qI r;exact Ψ2 i j ⟨by rw[bG a,bG b],vr _ _ H Γ .refl hr cY z⟩⟩
theorem ve(hc:X.calm=true):iG X (.builtin "min") (λxs Γ Z=>∃i j,xs=[.int i,.int j]∧Z (.int (if j<i then j else i)) Γ):=
 ⟨_,Cb hc,λvs xs H Γ Q Z r hr q0 vr=>by
  let⟨i,j,e,z⟩:=q0;subst e;let⟨v,w,rfl,a,b⟩:=qI r;exact Ψ2 i j ⟨by rw[bG a,bG b],vr _ _ H Γ .refl hr cY z⟩⟩
theorem MR:iG X (.builtin "ord") (λxs Γ Z=>∃x:Str,xs=[.str x]∧x.length=1∧Z (.int (x.cps.getD 0 0:Nat)) Γ):=
 ⟨_,FQ,λvs xs H Γ Q Z r hr q0 vr=>by
  let⟨i,e,l,z⟩:=q0;subst e;let⟨v,rfl,a⟩:=sD r;exact⟨i,by rw[c4 a],l,vr _ _ H Γ .refl hr cY z⟩⟩
theorem js{H:Hp}:∀{ns:List Int} {vs:List V},Rs H vs (ns.map T.int)→vs=ns.map V.int
 |[],vs,h=>bA h
 |n::r,vs,h=>by
  let⟨v,ws,rfl,a,b⟩:=bO h;rw[bG a,js b];rfl
theorem DP{H:Hp}:∀{ns:List Bool} {vs:List V},Rs H vs (ns.map T.bl)→vs=ns.map V.bl
 |[],vs,h=>bA h
 |n::r,vs,h=>by
  let⟨v,ws,rfl,a,b⟩:=bO h;rw[sN a,DP b];rfl
theorem mL{H:Hp}:∀{ns:List Str} {vs:List V},Rs H vs (ns.map T.str)→vs=ns.map V.str
 |[],vs,h=>bA h
 |n::r,vs,h=>by
  let⟨v,ws,rfl,a,b⟩:=bO h;rw[c4 a,mL b];rfl
theorem FF(hc:X.calm=true):iG X (.builtin "sum") (λxs Γ Z=>∃(p:Addr) (ns:List Int),xs=[.ref p]∧pB Γ (.ref p)=some (ns.map T.int)∧Z (.int ns.sum) Γ):=
 ⟨_,Ca hc,λvs xs H Γ Q Z r hr q0 vr=>by
  let⟨p,ns,e,g,z⟩:=q0;subst e;let⟨v,rfl,a⟩:=sD r;let⟨us,sq,q⟩:=hG (K:=X.K) hr g;rw[js q]at sq;exact Ψ2 p ns ⟨by rw[bZ a],sq,vr _ _ H Γ .refl hr cY z⟩⟩
theorem mn(hc:X.calm=true):iG X (.builtin "all") (λxs Γ Z=>∃(p:Addr) (bs:List Bool),xs=[.ref p]∧pB Γ (.ref p)=some (bs.map T.bl)∧Z (.bl (bs.all id)) Γ):=
 ⟨_,Cd hc,λvs xs H Γ Q Z r hr q0 vr=>by
  let⟨p,ns,e,g,z⟩:=q0;subst e;let⟨v,rfl,a⟩:=sD r;let⟨us,sq,q⟩:=hG (K:=X.K) hr g;rw[DP q]at sq;exact Ψ2 p ns ⟨by rw[bZ a],sq,vr _ _ H Γ .refl hr ij z⟩⟩
def ql(Γ:Gp):T→Option String
 |.non=>some "NoneType" |.bl _=>some "bool" |.int _=>some "int" |.str _=>some "str" |.tup _=>some "tuple"
 |.ref a=>match Γ a with|some (.lst _)=>some "list" |some (.dK _)=>some "dict" |_=>none
 |.ty _=>none
 |.scr _ _ _=>none
theorem De(r:R H v x)(hr:HR H Γ)(h:ql Γ x=some n):mr K H v (.type n):=by
 cases x with
 |non=>cases h;rw[xa r];exact .non
 |bl b=>cases h;rw[sN r];exact .bl b
 |int i=>cases h;rw[bG r];exact .int i
 |str z=>cases h;rw[c4 r];exact .str z
 |tup ts=>cases h;let⟨a,vs,e,ha,_⟩:=cp r;rw[e];exact .tup ha
 |ty n=>cases h
 |scr K a ts=>cases h
 |ref a=>
  rw[bZ r];have h:(match Γ a with|some (.lst _)=>some "list" |some (.dK _)=>some "dict" |_=>none)=some n:=h;split at h
  ·rename_i g;cases h;let⟨vs,hv,_⟩:=hr a _ g;exact .lst hv
  ·rename_i g;cases h;let⟨vs,hv,_⟩:=hr a _ g;exact .dK hv
  ·cases h
def JL(K:W.Frag)(Ty:String)(te:E3):E3:=λY τ Γ Z=>te Y τ Γ λx Γ1=>∃n b,ql Γ1 x=some n∧W.kitOne K (.type n) (.type Ty)=some b∧Z (.bl b) Γ1
theorem cb{x:Expr}{p:Pos}{Tn:Str}(hg:Gl X "isinstance")(hm:X.mg "isinstance" = none)(UL:Gl X Tn)(UG:X.mg Tn=none)(Us:bootBuiltins Tn=some (.type Ty))(he:PE X x (bH E te))(hn:Tn ≠ "__name__" := by decide)(yb:(Tn ==("__debug__" : Str))=false:=by decide)
  (hs:starEach [x,.Name Tn p2] X.env=(false,eval x X.env)::starEach [.Name Tn p2] X.env:=by rfl) (ya:starEach [.Name Tn p2] X.env=[(false,eval (.Name Tn p2) X.env)]:=by rfl)
  (i9:(backTo pos (starEach [.Name Tn p2] X.env)).any (·.1)=false:=by rfl):PE X (.Call (.Name "isinstance" p) [x,.Name Tn p2] [] pos) (bH E (JL X.K Ty te)):=
 cK (Hf hg hm UL UG Us he hn yb hs ya i9) λσ H Q τ Γ Y Z rs hr t vr xr=>
  ⟨τ,Γ,Y,_,rs,hr,t,λv x H1 Γ1 s1 h1 r1 ξ=>Ξ23 ξ λn b ty k z=>⟨v,rfl,.type n,b,De r1 h1 ty,k,vr _ _ H1 Γ1 s1 h1 ij z⟩,xr⟩
def Kc(Γ:Gp):T→Option Bool
 |.non=>some false|.bl b=>some b|.int i=>some (i != 0)|.tup ts=>some (!ts.isEmpty)
 |.str z=>if z.length≤sizeLine then some ((z.length:Int) != 0)else none
 |.ref a=>match Γ a with|some (.lst ts)=>some (!ts.isEmpty)|some (.dK aN)=>some (!aN.isEmpty)|_=>none
 |.ty _=>none
 |.scr _ _ _=>none
theorem L9{us:List (Key×V)}{aN:List (Key×T)}(q:Ks H us aN):us.isEmpty=aN.isEmpty:=by cases q<;>rfl
theorem Kb{k:Bool}(r:R H v x)(hr:HR H Γ)(h:Kc Γ x=some k):MZ K v H k:=by
 cases x with
 |non=>cases h;rw[xa r];rfl
 |bl b=>cases h;rw[sN r];rfl
 |int i=>cases h;rw[bG r];rfl
 |str z=>
  rw[c4 r];have h:(if z.length≤sizeLine then some ((z.length:Int) != 0)else none)=some k:=h;by_cases c:z.length≤sizeLine
  ·rw[aaA c]at h;cases h;exact⟨c,rfl⟩
  ·rw[aaz c]at h;cases h
 |tup ts=>cases h;let⟨a,vs,e,ha,q⟩:=cp r;rw[e];exact .inr (.inl ⟨vs,cW.of ha,by rw[m9 q]⟩)
 |ty n=>cases h
 |scr K a ts=>cases h
 |ref a=>
  rw[bZ r];have h:(match Γ a with|some (.lst ts)=>some (!ts.isEmpty)|some (.dK aN)=>some (!aN.isEmpty)|_=>none)=some k:=h;split at h
  ·rename_i g;cases h;let⟨vs,hv,q⟩:=hr a _ g;exact .inl ⟨vs,eh.of hv,by rw[m9 q]⟩
  ·rename_i g;cases h;let⟨vs,hv,q⟩:=hr a _ g;exact .inr (.inr ⟨vs,hv,by rw[L9 q]⟩)
  ·cases h
def QN(t:E3):T3:=λY τ Γ Z=>t Y τ Γ λx Γ1=>∃k,Kc Γ1 x=some k∧Z k Γ1
theorem we{a:Expr}{ta:E3}(ha:PE X a (bH E ta))(he:∀whole,isTrue a X.env whole=(do let v ←whole;standAt a.pos;holding [v] (truthy v))):PT X a (kM E (QN ta)):=
 CI (D4 ha he) λσ H Q τ Γ Y Z rs hr t vr xr=>
  ⟨τ,Γ,Y,_,rs,hr,t,λv x H1 Γ1 s1 h1 r1 ξ=>Ξ12 ξ λk tr z=>⟨k,Kb r1 h1 tr,vr _ H1 Γ1 s1 h1 z⟩,xr⟩
theorem AS:iG X (.builtin "len") (λxs Γ Z=>∃a ts,xs=[.scr X.K a ts]∧Z (.int ts.length) Γ):=
 ⟨_,jz,λvs xs H Γ Q Z r hr q0 vr=>by
  let⟨a,ts,e,z⟩:=q0;subst e;let⟨v,rfl,rv⟩:=sD r;let⟨rfl,⟨us,sq,q⟩⟩:=Fc rv;exact Ψ2 a us ⟨rfl,.inl sq.sq,by rw[q.length];exact vr _ _ H Γ .refl hr cY z⟩⟩
theorem Ll(ha:PE X a (bH E ta))(hb:PE X b (bH E tb))(hs:qe b):PE X (.Subscript a b pos) (bH E (Cu (λx y Γ Z=>∃p ts i t,x=.scr X.K p ts∧y=.int i∧kH ts i=some t∧Z t Γ) ta tb)):=
 gI (eB ck ha hb hs) (oD λx y a b H Γ Q Z ra rb hr q0 vr=>by
  let⟨p,ts,i,t,ea,eb,h,z⟩:=q0;subst ea eb;let⟨rfl,⟨vs,sq,q⟩⟩:=Fc ra;let⟨v,hv,r⟩:=Q5 q h;exact Ψ4 p vs i v ⟨rfl,bG rb,sq.sq,hv,vr _ _ H Γ .refl hr r z⟩)
end
section
variable {l:Expr}{p:Pos}
abbrev gT:Gp→Prop:=λ_=>True
def Wq(tl:E3):I3:=λY τ Γ Z=>tl Y τ Γ λx Γ1=>∃ts,x=.tup ts∧Z ts gT Γ1
theorem CQ(ha:H a=some (.tup vs))(q:Rs H vs ts):Walks (Vw K a) ts gT H where
 go:=λi H' Γ t hr _ hi=>Ψ2 vs (vs[i]'(by rw[q.length];exact hi)) ⟨cW.of (t.1 a vs ha),by simp⟩
 nJ:=λi H' Γ x H2 t hr _ hi q0=>by
  let⟨e,y⟩:=q0;subst e;let⟨t',e',r⟩:=(q.mono t).Fj (y vs (cW.of (t.1 a vs ha)));exact⟨.refl,hr,t',e',r⟩
 stop:=λH' Γ t hr _=>⟨vs,cW.of (t.1 a vs ha),by rw[q.length];exact aan _⟩
theorem c6(hl:PE X l (bH E tl)):PI X tg l (vD E (Wq tl)):=
 nY (Lx hl) λσ H Q τ Γ Y Z rs hr t vr xr=>⟨τ,Γ,Y,_,rs,hr,t,λv x H1 Γ1 s1 h1 r1 ξ=>Ξ12 ξ λts ex z=>by
  subst ex;let⟨a,vs,rfl,ha,q⟩:=cp r1;exact⟨a,rfl,⟨vs,cW.of ha⟩,vr _ ts gT H1 Γ1 s1 h1 (CQ ha q) z⟩,xr⟩
def Wt(tl:E3):I3:=λY τ Γ Z=>tl Y τ Γ λx Γ1=>∃a ts,x=.ref a∧pB Γ1 (.ref a)=some ts∧Z ts (λΓ'=>pB Γ' (.ref a)=some ts) Γ1
theorem Bg:Walks (NI K a) ts (λΓ'=>pB Γ' (.ref a)=some ts) H where
 go:=λi H' Γ t hr g hi=>by
  let⟨vs,sq,q⟩:=hG (K:=K) hr g;exact Ψ2 vs (vs[i]'(by rw[q.length];exact hi)) ⟨sq,by simp⟩
 nJ:=λi H' Γ x H2 t hr g hi q0=>by
  let⟨e,y⟩:=q0;subst e;let⟨vs,sq,q⟩:=hG (K:=K) hr g;let⟨t',e',r⟩:=q.Fj (y vs sq);exact⟨.refl,hr,t',e',r⟩
 stop:=λH' Γ t hr g=>by
  let⟨vs,sq,q⟩:=hG (K:=K) hr g;exact⟨vs,sq,by rw[q.length];exact aan _⟩
theorem kF(hl:PE X l (bH E tl)):PI X tg l (vD E (Wt tl)):=
 nY (Ao hl) λσ H Q τ Γ Y Z rs hr t vr xr=>⟨τ,Γ,Y,_,rs,hr,t,λv x H1 Γ1 s1 h1 r1 ξ=>Ξ23 ξ λa ts ex g z=>by
  subst ex;let⟨vs,sq,q⟩:=hG (K:=X.K) h1 g;exact⟨a,bZ r1,⟨vs,sq⟩,vr _ ts _ H1 Γ1 s1 h1 Bg z⟩,xr⟩
def ig(lo:Int):Nat→List T
 |0=>[]
 |n+1=>.int lo::ig (lo+1) n
theorem gM:∀(n:Nat) (lo:Int),(ig lo n).length=n
 |0,_=>rfl
 |n+1,lo=>by rw[ig,aap,gM n]
theorem v9:∀(n:Nat) (lo:Int) (i:Nat),i<n→(ig lo n)[i]?=some (.int (lo+i))
 |0,_,i,h=>absurd h (ads _)
 |n+1,lo,0,_=>by rw[ig];simp
 |n+1,lo,i+1,h=>by
  rw[ig,aen,v9 n (lo+1) i (by lia)];congr 2
  lia
theorem yj(lo:Int)(n:Nat):Walks (M9 lo n) (ig lo n) gT H where
 go:=λi H' Γ t hr _ hi=>by rw[gM]at hi;exact hi
 nJ:=λi H' Γ x H2 t hr _ hi q0=>by
  let⟨e,y⟩:=q0;subst e y;rw[gM]at hi;exact⟨.refl,hr,_,v9 n lo i hi,cY⟩
 stop:=λH' Γ t hr _=>by rw[gM];exact aan _
def P5(ta:A3):I3:=λY τ Γ Z=>ta Y τ Γ λxs Γ1=>∃j:Int,xs=[.int j]∧-(2^62)≤j∧j<2^62∧Z (ig 0 j.toNat) gT Γ1
theorem di{a:Expr}(hg:Gl X "range")(hm:X.mg "range" = none)(ha:PA X [a] (uR E ta))(hs:starEach [a] X.env=[(false,eval a X.env)]:=by rfl):PI X tg (.Call (.Name "range" p) [a] [] pos) (vD E (P5 ta)):=
 nY (ox hg hm ha hs) λσ H Q τ Γ Y Z rs hr t vr xr=>⟨τ,Γ,Y,_,rs,hr,t,λvs xs H1 Γ1 s1 h1 r1 ξ=>Ξ11 ξ λj ξ=>Ξ04 ξ λex b1 b2 z=>by
  subst ex;let⟨v,rfl,a⟩:=sD r1;exact⟨j,by rw[bG a],b1,b2,vr _ _ gT H1 Γ1 s1 h1 (yj 0 _) z⟩,xr⟩
def fK:List T→List T→List T
 |x::r,y::q=>.tup [x,y]::fK r q
 |_,_=>[]
theorem mB:∀{xs ys:List T},(fK xs ys).length=min xs.length ys.length
 |[],_=>by simp[fK]
 |_::_,[]=>by simp[fK]
 |x::r,y::q=>by rw[fK,aap,mB,aap,aap];lia
theorem vJ:∀{xs ys:List T} {i:Nat} {x y:T},xs[i]?=some x→ys[i]?=some y→(fK xs ys)[i]?=some (.tup [x,y])
 |[],_,_,_,_,h,_=>by simp at h
 |_::_,[],_,_,_,_,h=>by simp at h
 |a::r,b::q,0,x,y,h,h'=>by cases h;cases h';rfl
 |a::r,b::q,i+1,x,y,h,h'=>by rw[fK,aen];exact vJ (by simpa using h) (by simpa using h')
def Wo(ta:A3):I3:=λY τ Γ Z=>ta Y τ Γ λxs Γ1=>∃ts us,xs=[.tup ts,.tup us]∧Z (fK ts us) gT Γ1
theorem CP{ws:List V}(ha:H a=some (.tup vs))(q:Rs H vs ts)(hb:H b=some (.tup ws))(q':Rs H ws us):Walks (Vu K a b) (fK ts us) gT H where
 go:=λi H' Γ t hr _ hi=>by
  rw[mB]at hi;exact Ψ4 vs ws (vs[i]'(by rw[q.length];lia)) (ws[i]'(by rw[q'.length];lia)) ⟨cW.of (t.1 a vs ha),cW.of (t.1 b ws hb),by simp,by simp⟩
 nJ:=λi H' Γ v H2 t hr _ hi q0=>by
  let⟨p,x,y,hp,e1,e2,y1,y2⟩:=q0;subst e1 e2;let⟨t1,f1,r1⟩:=(q.mono t).Fj (y1 vs (cW.of (t.1 a vs ha)));let⟨t2,f2,r2⟩:=(q'.mono t).Fj (y2 ws (cW.of (t.1 b ws hb)));have k:=bo (o:=.tup [x,y]) hp;exact⟨.keep k,hr.keep k,_,vJ f1 f2,fq ar (bg (r1.mono (dA k)) (bg (r2.mono (dA k)) bI))⟩
 stop:=λH' Γ t hr _=>Ψ2 vs ws ⟨cW.of (t.1 a vs ha),cW.of (t.1 b ws hb),by rw[mB,q.length,q'.length];lia⟩
theorem DV{a b:Expr}{elts:List Expr}{kk:Nat}{qq:Pos}(hg:Gl X "zip")(hm:X.mg "zip" = none)(ha:PA X [a,b] (uR E ta))(hs:starEach [a,b] X.env=[(false,eval a X.env),(false,eval b X.env)]:=by rfl)(ya:starEach [b] X.env=[(false,eval b X.env)]:=by rfl):
  PI X (.Tuple elts kk qq) (.Call (.Name "zip" p) [a,b] [] pos) (vD E (Wo ta)):=
 nY (Lw hg hm ha hs ya) λσ H Q τ Γ Y Z rs hr t vr xr=>⟨τ,Γ,Y,_,rs,hr,t,λvs xs H1 Γ1 s1 h1 r1 ξ=>Ξ22 ξ λts us ex z=>by
  subst ex;let⟨v,w,rfl,a,b⟩:=qI r1;let⟨pa,va,rfl,ha,qa⟩:=cp a;let⟨pb,vb,rfl,hb,qb⟩:=cp b;exact Ψ4 pa pb va vb ⟨rfl,cW.of ha,cW.of hb,vr _ _ gT H1 Γ1 s1 h1 (CP ha qa hb qb) z⟩,xr⟩
def QJ(n:Nat):List T→List T
 |[]=>[]
 |x::r=>.tup [.int n,x]::QJ (n+1) r
def lG(z:Str):List T:=z.cps.toList.map λc=>.str ⟨#[c]⟩
def Wr(tl:E3):I3:=λY τ Γ Z=>tl Y τ Γ λx Γ1=>∃z,x=.str z∧Z (lG z) gT Γ1
theorem CS(z:Str):Walks (Sg z) (lG z) gT H where
 go:=λi H' Γ t hr _ hi=>by
  unfold lG at hi;rw[aae,aaY]at hi;exact hi
 nJ:=λi H' Γ x H2 t hr _ hi q0=>by
  let⟨e,⟨c,hc,ex⟩⟩:=q0;subst e ex;exact⟨.refl,hr,.str ⟨#[c]⟩,?_,jF⟩;unfold lG;rw[aaC,Array.getElem?_toList,hc];rfl
 stop:=λH' Γ t hr _=>by
  show z.cps.size≤(lG z).length
  unfold lG;rw[aae,aaY];exact aan _
theorem DW(hl:PE X l (bH E tl)):PI X tg l (vD E (Wr tl)):=
 nY (Lz hl) λσ H Q τ Γ Y Z rs hr t vr xr=>⟨τ,Γ,Y,_,rs,hr,t,λv x H1 Γ1 s1 h1 r1 ξ=>Ξ12 ξ λz ex zz=>by
  subst ex;exact⟨z,c4 r1,vr _ _ gT H1 Γ1 s1 h1 (CS z) zz⟩,xr⟩
abbrev NH:=T→List T→Gp→K3→Prop
def MQ(X:Cx)(id:String)(r3:NH):Prop:=∃r,Ri X id r∧∀v x vs ts H Γ Q Z,R H v x→Rs H vs ts→HR H Γ→r3 x ts Γ Z→VR H Γ Z Q→r v vs H Q
def Xc(Tn:String)(r3:NH)(to:E3)(t:A3):E3:=λY τ Γ Z=>to Y τ Γ λx Γ1=>ql Γ1 x=some Tn∧t Y τ Γ1 λxs Γ2=>r3 x xs Γ2 Z
def QQ(Tn:String)(r3:NH)(to:E3):E3:=λY τ Γ Z=>to Y τ Γ λx Γ1=>ql Γ1 x=some Tn∧r3 x [] Γ1 Z
theorem Dc(r:R H v x)(hr:HR H Γ)(h:ql Γ x=some n)(hn:n = "list" ∨ n = "str" ∨ n = "dict"):Rr K n v H:=by
 have ty:=De (K:=K) r hr h;cases x with
 |non=>cases h;rcases hn with h|h|h<;>exact absurd h (by decide)
 |bl b=>cases h;rcases hn with h|h|h<;>exact absurd h (by decide)
 |int i=>cases h;rcases hn with h|h|h<;>exact absurd h (by decide)
 |str z=>cases h;rw[c4 r];rfl
 |tup ts=>cases h;rcases hn with h|h|h<;>exact absurd h (by decide)
 |ty n=>cases h
 |scr K a ts=>cases h
 |ref a=>
  rw[bZ r];have h:(match Γ a with|some (.lst _)=>some "list" |some (.dK _)=>some "dict" |_=>none)=some n:=h;split at h
  ·rename_i g;cases h;let⟨vs,hv,_⟩:=hr a _ g;exact .inl ⟨rfl,vs,eh.of hv⟩
  ·rename_i g;cases h;let⟨vs,hv,_⟩:=hr a _ g;exact .inr (.inr (.inl ⟨rfl,.inl ⟨vs,hv⟩⟩))
  ·cases h
section
variable {o:Expr}{name:Str}{apos:Pos}{id:String}{r3:NH}
theorem Lm(pa:PlainAttrs Tn)(slot:Slot Tn name id)(AG:typeOf (.builtin id)=pure (.type "method_descriptor"))(hm:MQ X id r3)(ho:PE X o (bH E to))(hn:Tn = "list" ∨ Tn = "str" ∨ Tn = "dict" := by decide)
  (ko:attributeBase o name X.env (eval o X.env)=eval o X.env:=by rfl) (kl:(apos.endLine==dy.line)=true:=by rfl):PE X (.Call (.Attribute o name apos) [] [] dy) (bH E (QQ Tn r3 to)):=by
 obtain⟨r,hm,sim⟩:=hm;exact cK (LH pa slot AG hm ho ko kl) λσ H Q τ Γ Y Z rs hr t vr xr=>⟨τ,Γ,Y,_,rs,hr,t,λv x H1 Γ1 s1 h1 r1 ξ=>Ξ02 ξ λty z=>
  ⟨Dc r1 h1 ty hn,sim v x [] [] H1 Γ1 Q Z r1 bI h1 z (vr.mono s1)⟩,xr⟩
theorem jY(pa:PlainAttrs Tn)(slot:Slot Tn name id)(AG:typeOf (.builtin id)=pure (.type "method_descriptor"))(hm:MQ X id r3)(ho:PE X o (bH E to))(ha:PA X (e::es) (uR E t))(hn:Tn = "list" ∨ Tn = "str" ∨ Tn = "dict" := by decide)
  (ko:attributeBase o name X.env (eval o X.env)=eval o X.env:=by rfl)
  (zi:((backTo dy (starEach (e::es) X.env)).all (λx=>!x.1)&&(backToKw dy (keywordEach [] X.env)).all (λx=>x.1.isSome)
   && decide ((e::es).length+([]:List Keyword).length+(if([]:List Keyword).isEmpty then 0 else 1)<30))=true:=by rfl)
  (kl:(apos.endLine==dy.line)=true:=by rfl) (hs:starEach (e::es) X.env=(false,eval e X.env)::starEach es X.env:=by rfl) (zh:(backTo dy (starEach es X.env)).any (·.1)=false:=by rfl) :
  PE X (.Call (.Attribute o name apos) (e::es) [] dy) (bH E (Xc Tn r3 to t)):=by
 obtain⟨r,hm,sim⟩:=hm;exact cK (Ej pa slot AG hm ho ha ko zi kl hs zh) λσ H Q τ Γ Y Z rs hr t vr xr=>⟨τ,Γ,Y,_,rs,hr,t,λv x H1 Γ1 s1 h1 r1 ξ=>Ξ02 ξ λty z=>
  ⟨Dc r1 h1 ty hn,τ,Γ1,Y,_,rs.mono s1.tq,h1,z,λvs xs H2 Γ2 s2 h2 r2 z2=>sim v x vs xs H2 Γ2 Q Z (r1.mono s2.tq) r2 h2 z2 (vr.mono (s1.trans s2)),xr.mono s1⟩,xr⟩
end
theorem gE:MQ X "list.append" (λx ts Γ Z=>∃a us y,x=.ref a∧ts=[y]∧Γ a=some (.lst us)∧us.length<sizeLine∧Z .non (up Γ a (.lst (us++[y])))):=
 ⟨_,gB,λv x vs ts H Γ Q Z r rs hr q0 vr=>by
  let⟨a,us,y,ex,et,g,l,z⟩:=q0;subst ex et;let⟨w,rfl,qH⟩:=sD rs;let⟨ws,hw,q⟩:=hr a _ g;exact Ψ3 a ws w ⟨bZ r,rfl,hw,by rw[q.length];exact l,?_⟩;have s:eW H Γ (upd H a (.lst (ws++[w]))) (up Γ a (.lst (us++[y]))):=.set hr g;exact vr _ _ _ _ s (hr.set g ⟨_,ar,Rs.app (q.mono s.tq) (bg (qH.mono s.tq) bI)⟩) tO z⟩
theorem LW:MQ X "list.pop" (λx ts Γ Z=>∃a us y,x=.ref a∧ts=[]∧Γ a=some (.lst us)∧us[us.length-1]?=some y∧Z y (up Γ a (.lst us.dropLast))):=
 ⟨_,LV,λv x vs ts H Γ Q Z r rs hr q0 vr=>by
  let⟨a,us,y,ex,et,g,l,z⟩:=q0;subst ex et;let⟨ws,hw,q⟩:=hr a _ g;let⟨w,YG,qH⟩:=q.get l;exact Ψ3 a ws w ⟨bZ r,bA rs,hw,by rw[q.length];exact YG,?_⟩;have s:eW H Γ (upd H a (.lst ws.dropLast)) (up Γ a (.lst us.dropLast)):=.set hr g;exact vr _ _ _ _ s (hr.set g ⟨_,ar,?_⟩) (qH.mono s.tq) z;have e:∀{H2:Hp},Rs H2 ws us→Rs H2 ws.dropLast us.dropLast:=λ{H2} q2=>by
   rw[adw,adw,q2.length];exact Rs.take _ q2
  exact e (q.mono s.tq)⟩
theorem BG:MQ X "list.extend" (λx ts Γ Z=>∃a b us ws,x=.ref a∧ts=[.ref b]∧Γ a=some (.lst us)∧Γ b=some (.lst ws)∧us.length+ws.length≤sizeLine∧Z .non (up Γ a (.lst (us++ws)))):=
 ⟨_,BF,λv x vs ts H Γ Q Z r rs hr q0 vr=>by
  let⟨a,b,us,ws,ex,et,g,g',l,z⟩:=q0;subst ex et;let⟨w,rfl,qH⟩:=sD rs;let⟨va,YJ,qa⟩:=hr a _ g;let⟨vb,YI,qb⟩:=hr b _ g';exact Ψ4 a b va vb ⟨bZ r,by rw[bZ qH],YJ,YI,by rw[qa.length,qb.length];exact l,?_⟩;have s:eW H Γ (upd H a (.lst (va++vb))) (up Γ a (.lst (us++ws))):=.set hr g;exact vr _ _ _ _ s (hr.set g ⟨_,ar,Rs.app (qa.mono s.tq) (qb.mono s.tq)⟩) tO z⟩
theorem HS:MQ X "str.join" (λx ts Γ Z=>∃(p:Addr) (ss:List Str),x=.str Str.empty∧ts=[.ref p]∧pB Γ (.ref p)=some (ss.map T.str)∧ss.length≤1000∧(∀y∈ss,y.length≤1000)∧Z (.str (vh ss)) Γ):=
 ⟨_,HQ,λv x vs ts H Γ Q Z r rs hr q0 vr=>by
  let⟨p,ss,ex,et,g,l,l2,z⟩:=q0;subst ex et;let⟨w,rfl,qH⟩:=sD rs;let⟨us,sq,q⟩:=hG (K:=X.K) hr g;rw[mL q]at sq;exact Ψ2 p ss ⟨c4 r,by rw[bZ qH],sq,l,l2,vr _ _ H Γ .refl hr jF z⟩⟩
def Xb(ta:A3):E3:=λY τ Γ Z=>ta Y τ Γ λxs Γ1=>∃ts us,xs=[.tup ts,.tup us]∧ts.length=us.length∧∀p,Γ1 p=none→Z (.ref p) (up Γ1 p (.lst (fK ts us)))
theorem DN{H H0:Hp}(t:Tq H0 H):∀{xs ys:List V} {ts us:List T} {as:List Addr},Rs H0 xs ts→Rs H0 ys us→xs.length=ys.length→as.length=xs.length→Ba H xs ys as→Rs H (as.map V.ref) (fK ts us)
 |xs,ys,[],us,as,q,q',l,la,pr=>by
  cases bA q;cases as with
  |nil=>exact bI
  |cons _ _=>cases la
 |xs,ys,t1::r,[],as,q,q',l,la,pr=>by
  cases bA q';let⟨v,ws,rfl,a,b⟩:=bO q;cases l
 |xs,ys,t1::r,u1::r',as,q,q',l,la,pr=>by
  let⟨v,ws,rfl,a,b⟩:=bO q;let⟨v',Xo,rfl,a',b'⟩:=bO q';cases as with
  |nil=>cases la
  |cons p0 rest=>
   let⟨x,y,e1,e2,h⟩:=pr 0 p0 rfl;cases e1;cases e2;exact bg (fq h (bg (a.mono t) (bg (a'.mono t) bI))) (DN t b b' (by simpa using l) (by simpa using la) λj t e=>?_);exact pr (j+1) t (by simpa using e)
theorem yJ{a b:Expr}{p1 Lu wo:Pos}(hc:X.calm=true)(hg:Gl X "list")(hm:X.mg "list" = none)(UM:Gl X "zip")(Qm:X.mg "zip" = none)(ha:PA X [a,b] (uR E ta))
  (hs:starEach [a,b] X.env=[(false,eval a X.env),(false,eval b X.env)]:=by rfl) (ya:starEach [b] X.env=[(false,eval b X.env)]:=by rfl)
  (hz:starEach [.Call (.Name "zip" p2) [a,b] [] wo] X.env=[(false,eval (.Call (.Name "zip" p2) [a,b] [] wo) X.env)]:=by rfl) :
  PE X (.Call (.Name "list" p1) [.Call (.Name "zip" p2) [a,b] [] wo] [] Lu) (bH E (Xb ta)):=
 cK (yP hc hg hm UM Qm ha hs ya hz) λσ H Q τ Γ Y Z rs hr t vr xr=>⟨τ,Γ,Y,_,rs,hr,t,λvs xs H1 Γ1 s1 h1 r1 ξ=>Ξ23 ξ λts us ex hl z=>by
  subst ex;let⟨v,w,rfl,a,b⟩:=qI r1;let⟨pa,va,rfl,ha,qa⟩:=cp a;let⟨pb,vb,rfl,hb,qb⟩:=cp b;exact Ψ4 pa pb va vb ⟨rfl,cW.of ha,cW.of hb,by rw[qa.length,qb.length];exact hl,λL H' as hL k BR la pr=>?_⟩;have tq:=dA (wQ k);have s2:eW H1 Γ1 H' (up Γ1 L (.lst (fK ts us))):=by
   exact⟨tq,λx h z=>?_,λx h g=>?_,λx o h _=>wQ k x o h⟩
   ·cases e:H1 x with
    |none=>exact h e
    |some o=>exact(by rw[wQ k x o e]at z;cases z)
   ·have e:x≠L:=λe=>h (by rw[e];exact hL)
    rw[bb e];exact g
  exact vr _ _ H' _ (s1.trans s2) (λx o g=>?_) jG (z L (h1.free hL));by_cases e:x=L
  ·subst e;rw[ai]at g;cases g;exact⟨_,BR,DN tq qa qb (by rw[qa.length,qb.length];exact hl) la pr⟩
  ·rw[bb e]at g;exact(h1 x o g).mono tq (wQ k x),xr⟩
def MS:T→Option Value
 |.ref a=>some (.ref a)|.ty n=>some (.type n)|_=>none
def AV:List T→Option (List Value)
 |[]=>some []
 |x::r=>match MS x,AV r with|some v,some vs=>some (v::vs)|_,_=>none
theorem FI{c:Value}(r:R H v x)(h:MS x=some c):zJ v c:=by
 cases x with
 |ref a=>cases h;rw[bZ r];exact .own a
 |ty n=>cases h;rw[P0 r];exact .ty n
 |_=>cases h
theorem AU{H:Hp}:∀{ts:List T} {vs:List V} {cs:List Value},Rs H vs ts→AV ts=some cs→rZ vs cs
 |[],vs,cs,r,h=>by cases h;rw[bA r];exact .nil
 |x::q,vs,cs,r,h=>by
  let⟨v,ws,rfl,a,b⟩:=bO r;unfold AV at h;split at h
  ·rename_i e1 e2;cases h;exact .cons (FI a e1) (AU b e2)
  ·cases h
theorem xD:iG X (.builtin "isinstance") (λxs Γ Z=>∃(x D:Addr) (t:T) (c:Value) (b:Bool),xs=[.ref x,t]∧MS t=some c∧Ck X.K D∧Γ x=some (.ext (pY x D))∧W.kitOne X.K (.ref D) c=some b∧Z (.bl b) Γ):=
 ⟨_,zB,λvs xs H Γ Q Z r hr q0 vr=>by
  let⟨x,D,t,c,b,e,hc,ex,g,k,z⟩:=q0;subst e;let⟨v,w,rfl,a,b'⟩:=qI r;exact Ψ5 x D w c b ⟨by rw[bZ a],FI b' hc,ex,hr x _ g,k,vr _ _ H Γ .refl hr ij z⟩⟩
theorem t7:iG X (.builtin "isinstance") (λxs Γ Z=>∃(x D:Addr) (ts:List T) (cs:List Value) (b:Bool),xs=[.ref x,.tup ts]∧AV ts=some cs∧Ck X.K D∧Γ x=some (.ext (pY x D))∧W.kitAny X.K (.ref D) cs=some b∧Z (.bl b) Γ):=
 ⟨_,xJ,λvs xs H Γ Q Z r hr q0 vr=>by
  let⟨x,D,ts,cs,b,e,hc,ex,g,k,z⟩:=q0;subst e;let⟨v,w,rfl,a,b'⟩:=qI r;let⟨p,us,rfl,hp,q⟩:=cp b';exact Ψ6 x D p us cs b ⟨by rw[bZ a],hp,AU q hc,ex,hr x _ g,k,vr _ _ H Γ .refl hr ij z⟩⟩
theorem Ac{r:V→Hp→VK→Prop}{r3:T→Gp→K3→Prop}{ts:E3}(h:∀v x H Γ Q Z,R H v x→HR H Γ→r3 x Γ Z→VR H Γ Z Q→r v H Q)(σ:St)(H:Hp)(Q:VK)(q:bH E (Iq r3 te ts) σ H Q):
  bH E te σ H λx H1=>bH E ts σ H1 λy H2=>y=.int (-1)∧r x H2 Q:=by
 let⟨τ,Γ,Y,Z,rs,hr,t,vr,xr⟩:=q;exact Ψ4 τ Γ Y _ ⟨rs,hr,t,λv x H1 Γ1 s1 h1 r1 z1=>?_,xr⟩;exact Ψ4 τ Γ1 Y _ ⟨rs.mono s1.tq,h1,z1,λu y H2 Γ2 s2 h2 r2 z2=>?_,xr.mono s1⟩;obtain⟨e,z2⟩:=z2;subst e;exact⟨bG r2,h v x H2 Γ2 Q Z (r1.mono s2.tq) h2 z2 (vr.mono (s1.trans s2))⟩
section
variable {st:Expr}{ts:E3}
theorem G4(he:PE X e (bH E te))(hs:PE X st (bH E ts)):PE X (.Subscript e (.Slice none none (some st) p2) pos) (bH E (Iq (λx Γ Z=>∃ts,x=.tup ts∧Z (.tup ts.reverse) Γ) te ts)):=
 gI (Ec K9 he hs) (Ac λv x H Γ Q Z r hr q0 vr=>by
  let⟨ts,ex,z⟩:=q0;subst ex;let⟨p,us,rfl,hp,q⟩:=cp r;exact Ψ2 p us ⟨rfl,cW.of hp,λc hc=>?_⟩;have k:=bo (o:=.tup us.reverse) hc;exact vr _ _ _ Γ (.keep k) (hr.keep k) (fq ar (Rs.reverse (q.mono (dA k)))) z)
theorem Af(he:PE X e (bH E te))(hs:PE X st (bH E ts)):PE X (.Subscript e (.Slice none none (some st) p2) pos) (bH E (Iq (λx Γ Z=>∃a ts,x=.ref a∧pB Γ (.ref a)=some ts∧∀p,Γ p=none→Z (.ref p) (up Γ p (.lst ts.reverse))) te ts)):=
 gI (Ec GR he hs) (Ac λv x H Γ Q Z r hr q0 vr=>by
  let⟨a,ts,ex,g,z⟩:=q0;subst ex;let⟨us,sq,q⟩:=hG (K:=X.K) hr g;exact Ψ2 a us ⟨bZ r,sq,λc hc=>?_⟩;have k:=bo (o:=.lst us.reverse) hc;exact vr _ _ _ _ (.make hc) (hr.make (o3:=.lst ts.reverse) hc ⟨_,ar,Rs.reverse (q.mono (dA k))⟩) jG (z c (hr.free hc)))
end
end
def Le(Γ Γ':Gp):Prop:=∀a o,Γ a=some o→Γ' a=some o
theorem Le.refl:Le Γ Γ:=λ_ _ h=>h
theorem Le.trans(a:Le Γ Γ1)(b:Le Γ1 Γ'):Le Γ Γ':=λx o h=>b x o (a x o h)
theorem Le.new(h:Γ p=none):Le Γ (up Γ p o):=λb u q=>by rw[bb (nQ q h)];exact q
theorem HR.le(h:HR H Γ')(l:Le Γ Γ'):HR H Γ:=λa o e=>h a o (l a o e)
def Kq(l:List Addr)(Γ Γ':Gp):Prop:=∀b o,b∉l→Γ b=some o→Γ' b=some o
theorem Kq.refl:Kq l Γ Γ:=λ_ _ _ h=>h
theorem Kq.trans(a:Kq l Γ Γ1)(b:Kq l Γ1 Γ'):Kq l Γ Γ':=λc o n h=>b c o n (a c o n h)
theorem Kq.mono{l':List Addr}(a:Kq l Γ Γ1)(s:∀b∈l,b∈l'):Kq l' Γ Γ1:=λc o n h=>a c o (λz=>n (s c z)) h
theorem Kq.new(h:Γ p=none)(o:O):Kq l Γ (up Γ p o):=λb u _ q=>by rw[bb (nQ q h)];exact q
theorem Kq.set(h:p∈l)(o:O):Kq l Γ (up Γ p o):=λb u n q=>by
 have e:b≠p:=λz=>n (by rw[z];exact h);rw[bb e];exact q
theorem Kq.K6(k:Kq l Γ Γ1)(h:Γ p=none)(o:O):Kq l Γ (up Γ1 p o):=λb u n q=>by
 rw[bb (nQ q h)];exact k b u n q
def Fr(l:List Addr)(Γ Γ':Gp):Prop:=∀b,b∉l→Γ' b=Γ b
theorem Fr.kq(h:Fr l Γ Γ'):Kq l Γ Γ':=λb o n q=>by rw[h b n];exact q
theorem Fr.trans(a:Fr l Γ Γ1)(b:Fr l Γ1 Γ'):Fr l Γ Γ':=λx n=>(b x n).trans (a x n)
theorem Fr.set(h:p∈l)(o:O):Fr l Γ (up Γ p o):=λb n=>bb λz=>n (by rw[z];exact h)
def fj(Z:K3):K3:=λx Γ'=>∃Γ2,Le Γ2 Γ'∧Z x Γ2
theorem aZ(k:Le Γ Γ')(z:Z x Γ):fj Z x Γ':=⟨Γ,k,z⟩
theorem ML(k:Kq [a] Γ Γ')(h:Γ' a=some o)(z:Z x (up Γ a o)):fj Z x Γ':=⟨up Γ a o,λb u q=>by
 by_cases e:b=a
 ·subst e;rw[ai]at q;cases q;exact h
 ·rw[bb e]at q;exact k b u (by simpa using e) q,z⟩
theorem MK{u:O}(k:Kq [a,b] Γ Γ')(h:Γ' a=some o)(h':Γ' b=some u)(z:Z x (up (up Γ a o) b u)):fj Z x Γ':=⟨up (up Γ a o) b u,λc w q=>by
 by_cases e:c=b
 ·subst e;rw[ai]at q;cases q;exact h'
 ·rw[bb e]at q
  by_cases e2:c=a
  ·subst e2;rw[ai]at q;cases q;exact h
  ·rw[bb e2]at q;exact k c w (by simp[e,e2]) q,z⟩
theorem eW.cut{Γ2:Gp}(s:eW H Γ H' Γ')(l:Le Γ2 Γ'):eW H Γ H' Γ2:=⟨s.tq,s.yc,λa h g=>by
 cases e:Γ2 a with
 |none=>rfl
 |some o=>exact(by have:=l a o e;rw[s.new a h g]at this;cases this),s.tY⟩
section
variable {P:Program}{w:World}{mg:ac}{am:Heap}
theorem kL{x:Str}{f:Addr}(F:dP K x qual st f fd)(S:aF N ps (av st))(len:∀ts Γ Z Y,sp ts Γ Z Y→ts.length=ps.length)
  (i3:∀(cy:Value) (A:Around) (outer:List Env) (s:Shared) (H:Hp) (E:XK) (ts:List T) (Γ:Gp) (Z:K3) (Y:Value→Gp→Prop),dO k (A.deeper (envOfC qual (av st) s.heap.objs.size f cy))→sp ts Γ Z Y→
   ∃t,kI (sT fE P w K mg am N qual (av st) f cy A outer s H E).iA (c9 st) (mw EN t)∧t Y0 {nx:=λ_ Γ'=>fj Z .non Γ',rt:=fj Z} (a8 N ts) Γ):bq P w K mg am fE (k+1) f fd ps (cj sp):=by
 exact F.ok S (λvs H Q E q0=>by let⟨ts,Γ,Z,Y,r,_,h,_⟩:=q0;rw[r.length];exact len _ _ _ _ h) λcy A outer s H vs Q E hr ξ=>Ξ45 ξ λts Γ Z Y r h uV vr xr=>?_;let⟨t,ht,hq⟩:=i3 cy A outer s H E ts Γ Z Y hr uV;exact⟨_,ht,a8 N ts,Γ,Y0,_,mM N r (by rw[len _ _ _ _ uV];exact yB S),h,hq,⟨λσ τ H' Γ' s' h' _ ξ=>Ξ12 ξ λΓ2 l z=>vr .non .non H' Γ2 (s'.cut l) (h'.le l) tO z,λv x H' Γ' s' h' rv ξ=>Ξ12 ξ λΓ2 l z=>vr v x H' Γ2 (s'.cut l) (h'.le l) rv z,λ_ _ _ _ _ _ _ z=>z.elim,λ_ _ _ _ _ _ _ z=>z.elim⟩,vL⟩
theorem yU{x:Str}{f:Addr}(F:dP K x qual st f fd)(S:aF N ps (av st))(len:∀ts Γ Z Y,sp ts Γ Z Y→ts.length=ps.length)
  (i3:∀(cy:Value) (A:Around) (outer:List Env) (s:Shared) (H:Hp) (E:XK) (ts:List T) (Γ:Gp) (Z:K3) (Y:Value→Gp→Prop),dO k (A.deeper (envOfC qual (av st) s.heap.objs.size f cy))→sp ts Γ Z Y→
   ∃t,kI (Gn P w K mg am N qual (av st) f cy A outer s H E) (c9 st) (mw (λ_=>E) t)∧t (λ_ C Γ'=>∃Γ2,Le Γ2 Γ'∧Y C Γ2) {nx:=λ_ Γ'=>fj Z .non Γ',rt:=fj Z} (a8 N ts) Γ):bq P w K mg am (qf P w) (k+1) f fd ps (cj sp):=by
 exact F.Yb S (λvs H Q E q0=>by let⟨ts,Γ,Z,Y,r,_,h,_⟩:=q0;rw[r.length];exact len _ _ _ _ h) λcy A outer s H vs Q E hr ξ=>Ξ45 ξ λts Γ Z Y r h uV vr xr=>?_;let⟨t,ht,hq⟩:=i3 cy A outer s H E ts Γ Z Y hr uV;exact⟨_,ht,a8 N ts,Γ,_,_,mM N r (by rw[len _ _ _ _ uV];exact yB S),h,hq,⟨λσ τ H' Γ' s' h' _ ξ=>Ξ12 ξ λΓ2 l z=>vr .non .non H' Γ2 (s'.cut l) (h'.le l) tO z,λv x H' Γ' s' h' rv ξ=>Ξ12 ξ λΓ2 l z=>vr v x H' Γ2 (s'.cut l) (h'.le l) rv z,λ_ _ _ _ _ _ _ z=>z.elim,λ_ _ _ _ _ _ _ z=>z.elim⟩,λσ τ C H' Γ' s' h' _ ξ=>Ξ12 ξ λΓ2 l y=>xr C H' Γ2 (s'.cut l) (h'.le l) y⟩
theorem HM{f:Addr}{CX:x8}(no:∀ts Γ Z Y,¬sp ts Γ Z Y):bq P w K mg am CX k f fd ps (cj sp):=
 ⟨λvs H Q E ξ=>Ξ41 ξ λts Γ Z Y ξ=>Ξ04 ξ λ_ _ h _=>absurd h (no _ _ _ _),λA outer s H args us vs Q E _ _ _ _ ξ=>Ξ41 ξ λts Γ Z Y ξ=>Ξ04 ξ λ_ _ h _=>absurd h (no _ _ _ _)⟩
end
theorem Q8{α:Type}{t:α}{ts:List α}:kH (t::ts) 0=some t:=by show kH (t::ts) ((0:Nat):Int)=some t;exact cA rfl
theorem Sa{α:Type}{t u:α}{ts:List α}:kH (t::u::ts) 1=some u:=by show kH (t::u::ts) ((1:Nat):Int)=some u;exact cA rfl
section
variable {B:Bool→Gp→Prop}{N:S3→Gp→Prop}
theorem NV(h:τ[i]?=some (some x))(z:Z x Γ):u0 i Y τ Γ Z:=⟨x,h,z⟩
theorem XA(z:Z x Γ):eC x Y τ Γ Z:=z
theorem Sw{r:R3}{a b:E3}(h:a Y τ Γ λx Γ1=>b Y τ Γ1 λy Γ2=>r x y Γ2 Z):Cu r a b Y τ Γ Z:=h
theorem XB{t:E3}(h:t Y τ Γ λx Γ1=>∃k,x=.bl k∧B k Γ1):eT t Y τ Γ B:=h
theorem SU{b:Bool}{Q:Bool→Prop}(h:Q b):∃k,T.bl b=.bl k∧Q k:=⟨b,rfl,h⟩
theorem N2{t u:C3}(h:t Y {D with nx:=u Y D} τ Γ):FU t u Y D τ Γ:=h
theorem SF{c:T3}{t u:C3}(h:c Y τ Γ λb Γ1=>if b=true then t Y D τ Γ1 else u Y D τ Γ1):Xe c t u Y D τ Γ:=h
theorem N1(h:te Y τ Γ λx Γ1=>D.nx (τ.set i (some x)) Γ1):MT i te Y D τ Γ:=h
theorem N5(h:te Y τ Γ D.rt):MU te Y D τ Γ:=h
theorem Kn(h:te Y τ Γ λ_ Γ1=>D.nx τ Γ1):JT te Y D τ Γ:=h
theorem Kf(h:D.nx τ Γ):A7 Y D τ Γ:=h
theorem Ow{a b:E3}(h:a Y τ Γ λx Γ1=>∃c,x=.bl c∧if c=true then b Y τ Γ1 Z else Z (.bl false) Γ1):QR a b Y τ Γ Z:=h
theorem N6{a:E3}(h:a Y τ Γ λx Γ1=>∃c,x=.bl c∧Z (.bl (!c)) Γ1):QO a Y τ Γ Z:=h
theorem Ky{a b:T3}(h:a Y τ Γ λc Γ1=>if c=true then b Y τ Γ1 B else B false Γ1):Q4 a b Y τ Γ B:=h
theorem Ot{a b:T3}(h:a Y τ Γ λc Γ1=>if c=true then B true Γ1 else b Y τ Γ1 B):Xf a b Y τ Γ B:=h
theorem Kw{a:T3}(h:a Y τ Γ λc Γ1=>B (!c) Γ1):Q3 a Y τ Γ B:=h
theorem Oq{c:T3}{a b:E3}(h:c Y τ Γ λk Γ1=>if k=true then a Y τ Γ1 Z else b Y τ Γ1 Z):Vi c a b Y τ Γ Z:=h
theorem N7(h:A [] Γ):Q9 Y τ Γ A:=h
theorem Kt(h:te Y τ Γ λx Γ1=>t Y τ Γ1 λxs Γ2=>A (x::xs) Γ2):JZ te t Y τ Γ A:=h
theorem NX(h:t Y τ Γ λxs Γ1=>xs.length≤sizeLine∧Z (.tup xs) Γ1):QL t Y τ Γ Z:=h
theorem Ob(h:t Y τ Γ λxs Γ1=>xs.length≤sizeLine∧∀p,Γ1 p=none→Z (.ref p) (up Γ1 p (.lst xs))):QP t Y τ Γ Z:=h
theorem Oc{n:Nat}{A:Prop}(h:Nat.ble n 1000=true)(a:A):n≤sizeLine∧A:=⟨aaG (Nat.le_of_ble_eq_true h) (by decide),a⟩
theorem Kv(h:t Y τ Γ λxs Γ1=>sp xs Γ1 Z λ_ _=>False):JN sp t Y τ Γ Z:=h
theorem GC(h:t Y τ Γ λxs Γ1=>sp xs Γ1 Z (Y τ)):Fv sp t Y τ Γ Z:=h
theorem SQ{r:F3}(h:t Y τ Γ λts Γ1=>r ts Γ1 Z):R6 r t Y τ Γ Z:=h
theorem XC{g:Int→Int→T}{i j:Int}(h:Z (g i j) Γ):Co g (.int i) (.int j) Γ Z:=Ψ2 i j ⟨rfl,rfl,h⟩
theorem Kz{g:Int→Int→T}{i j:Int}(c:C i j)(h:Z (g i j) Γ):F9 C g (.int i) (.int j) Γ Z:=Ψ2 i j ⟨rfl,rfl,c,h⟩
theorem Om{a b:Str}(h:Z (.bl (decide (V.str a=V.str b))) Γ):GZ (.str a) (.str b) Γ Z:=Ψ2 _ _ ⟨rfl,rfl,rfl,h⟩
theorem Oo{a b:Int}(h:Z (.bl (decide (V.int a=V.int b))) Γ):GZ (.int a) (.int b) Γ Z:=Ψ2 _ _ ⟨rfl,rfl,rfl,h⟩
theorem N9{a b:Str}(h:Z (.bl (!decide (V.str a=V.str b))) Γ):Lf (.str a) (.str b) Γ Z:=Ψ2 _ _ ⟨rfl,rfl,rfl,h⟩
theorem Oa{a b:Int}(h:Z (.bl (!decide (V.int a=V.int b))) Γ):Lf (.int a) (.int b) Γ Z:=Ψ2 _ _ ⟨rfl,rfl,rfl,h⟩
theorem Oe{t:T}(z:Z t Γ):Bq (.tup (t::ts)) (.int 0) Γ Z:=Ψ3 _ 0 t ⟨rfl,rfl,Q8,z⟩
theorem Od{t u:T}(z:Z u Γ):Bq (.tup (t::u::ts)) (.int 1) Γ Z:=Ψ3 _ 1 u ⟨rfl,rfl,Sa,z⟩
theorem SS{r:NH}(h:to Y τ Γ λx Γ1=>ql Γ1 x=some Tn∧t Y τ Γ1 λxs Γ2=>r x xs Γ2 Z):Xc Tn r to t Y τ Γ Z:=h
theorem Ou{r:NH}(h:to Y τ Γ λx Γ1=>ql Γ1 x=some Tn∧r x [] Γ1 Z):QQ Tn r to Y τ Γ Z:=h
theorem Kj(h:te Y τ Γ λx Γ1=>∃n b,ql Γ1 x=some n∧W.kitOne K (.type n) (.type Ty)=some b∧Z (.bl b) Γ1):JL K Ty te Y τ Γ Z:=h
theorem NZ{t:E3}(h:t Y τ Γ λx Γ1=>∃k,Kc Γ1 x=some k∧B k Γ1):QN t Y τ Γ B:=h
theorem Ov(h:te Y τ Γ λx Γ1=>g Y x τ Γ1 D.nx):MV te g Y D τ Γ:=h
theorem SI(h:N (τ.set i (some x)) Γ):hName i Y x τ Γ N:=h
theorem SG{n:Nat}(l:Nat.beq ts.length n=true)(h:gs Y ts τ Γ N):Qw n gs Y (.tup ts) τ Γ N:=⟨ts,rfl,Nat.eq_of_beq_eq_true l,h⟩
theorem SJ{r:List T}(h:g Y x τ Γ λτ1 Γ1=>gs Y r τ1 Γ1 N):JH g gs Y (x::r) τ Γ N:=Ψ2 x r ⟨rfl,h⟩
theorem SK(h:N τ Γ):Qz Y [] τ Γ N:=⟨rfl,h⟩
theorem SH{v:T}(h:to Y τ Γ λo Γ1=>ti Y τ Γ1 λi Γ2=>∃a ts k j,o=.ref a∧i=.int k∧Γ2 a=some (.lst ts)∧BN ts.length k=some j∧N τ (up Γ2 a (.lst (ts.set j v)))):hSub to ti Y v τ Γ N:=h
theorem So{a:E3}(h:a Y τ Γ λx Γ1=>r x Γ1 Z):W9 r a Y τ Γ Z:=h
theorem N8{g:Int→T}{i:Int}(h:Z (g i) Γ):VQ g (.int i) Γ Z:=⟨i,rfl,h⟩
theorem Dq{r:R3}(h:τ[i]?=some (some x))(z:te Y τ Γ λy Γ1=>r x y Γ1 λz Γ2=>D.nx (τ.set i (some z)) Γ2):IF i te r Y D τ Γ:=⟨x,h,z⟩
theorem Ss{r:Sf}{tl:O3}(h:te Y τ Γ λx Γ1=>tl Y τ Γ1 λl Γ2=>th Y τ Γ2 λu Γ3=>r x l u Γ3 Z):Xa r te tl th Y τ Γ Z:=h
theorem Sy(h:Q none Γ):Jv Y τ Γ Q:=h
theorem Sv{t:E3}(h:t Y τ Γ λx Γ1=>∃i,x=.int i∧Q (some i) Γ1):Ju t Y τ Γ Q:=h
theorem Sz{i:Int}{Q:Int→Prop}(h:Q i):∃k,T.int i=.int k∧Q k:=⟨i,rfl,h⟩
theorem N4{ts:E3}(h:te Y τ Γ λx Γ1=>ts Y τ Γ1 λk Γ2=>k=.int (-1)∧r x Γ2 Z):Iq r te ts Y τ Γ Z:=h
theorem Ol(h:wi Y τ Γ λts gd Γ1=>J6 gd g tb Y D ts τ Γ1):Q0 wi g tb Y D τ Γ:=h
theorem Of(h:tl Y τ Γ λx Γ1=>∃ts,x=.tup ts∧I ts gT Γ1):Wq tl Y τ Γ I:=h
theorem Sq{Q:List T→Prop}(h:Q ts):∃us,T.tup ts=.tup us∧Q us:=⟨ts,rfl,h⟩
theorem jE(l:ts.length+us.length≤sizeLine)(h:Z (.tup (ts++us)) Γ):Jr (.tup ts) (.tup us) Γ Z:=Ψ2 ts us ⟨rfl,rfl,l,h⟩
theorem Ku(h:wi Y τ Γ λts gd Γ1=>ts.length≤sizeLine∧IX gd g tc te (λys Γ2=>∀D,Γ2 D=none→Z (.ref D) (up Γ2 D (.lst ys))) ts (Cf own cap τ) [] Γ1):AN wi g tc te own cap Y τ Γ Z:=h
theorem SR(h:B true Γ):JW Y τ Γ B:=h
theorem Gx{C:Addr}(h:t Y τ Γ λxs Γ1=>xs.length≤sizeLine∧Y τ (.ref C) Γ1):FV C t Y D τ Γ:=h
theorem N3(h:ta Y τ Γ λxs Γ1=>∃j:Int,xs=[.int j]∧-(2^62)≤j∧j<2^62∧I (ig 0 j.toNat) gT Γ1):P5 ta Y τ Γ I:=h
theorem Sn(h:ta Y τ Γ λxs Γ1=>∃ts us,xs=[.tup ts,.tup us]∧I (fK ts us) gT Γ1):Wo ta Y τ Γ I:=h
theorem Oj(h:tl Y τ Γ λx Γ1=>∃a ts,x=.ref a∧pB Γ1 (.ref a)=some ts∧I ts (λΓ'=>pB Γ' (.ref a)=some ts) Γ1):Wt tl Y τ Γ I:=h
theorem Og(h:tl Y τ Γ λx Γ1=>∃z,x=.str z∧I (lG z) gT Γ1):Wr tl Y τ Γ I:=h
theorem N0{Q:Str→Prop}(h:Q z):∃k,T.str z=.str k∧Q k:=⟨z,rfl,h⟩
theorem xS{b:Bool}{A C:Prop}(h:b=true)(a:A):if b=true then A else C:=by rw[aaA h];exact a
theorem xT{b:Bool}{A C:Prop}(h:b=false)(a:C):if b=true then A else C:=by rw[aaz (by rw[h];exact aal)];exact a
theorem cD{b:Bool}{A C:Prop}(h1:b=true→A)(h2:b=false→C):if b=true then A else C:=by
 cases b with
 |true=>rw[aaA rfl];exact h1 rfl
 |false=>rw[aaz aal];exact h2 rfl
theorem iB{t:C3}(h:t Y D τ Γ):Q2 t Y D τ Γ:=⟨D.nx,h,λ_ _ z=>z⟩
end
section
theorem Hr(hu:X.A.units<cLine):lA X (compareOp .Eq) (λx y Γ Z=>∃ts,x=.tup ts∧y=.tup []∧Z (.bl ts.isEmpty) Γ):=
 ⟨_,Hv hu,λx y a b H Γ Q Z ra rb hr q0 vr=>by
  let⟨ts,ea,eb,z⟩:=q0;subst ea eb;let⟨p,vs,rfl,hp,q⟩:=cp ra;let⟨p',mv,rfl,xc,q'⟩:=cp rb;rw[bA q']at xc;exact Ψ3 p p' vs ⟨rfl,rfl,hp,xc,by rw[m9 q];exact vr _ _ H Γ .refl hr ij z⟩⟩
theorem qX:MQ X "list.index" (λx ts Γ Z=>∃(p:Addr) (us:List T) (xs:List V) (y:T) (v:V) (j:Nat),x=.ref p∧ts=[y]∧pB Γ (.ref p)=some us∧Jj us=some xs∧sc y=some v∧eK v=true∧xs.all eK=true∧(∃z,xs[j]?=some z∧kQ z v=true)∧(∀m z,m<j→xs[m]?=some z→kQ z v=false)∧Z (.int j) Γ):=
 ⟨_,ET,λv x vs ts H Γ Q Z r rs hr q0 vr=>by
  let⟨p,us,xs,y,w,j,ex,et,g,es,ey,f1,f2,h1,h2,z⟩:=q0;subst ex et;let⟨u,rfl,ru⟩:=sD rs;let⟨ws,sq,q⟩:=hG (K:=X.K) hr g;cases DJ q es;exact Ψ4 p xs w j ⟨bZ r,by rw[yA ru ey],sq,f1,f2,h1,h2,vr _ _ H Γ .refl hr cY z⟩⟩
theorem mI:∀ss:List Str,Jj (ss.map T.str)=some (ss.map V.str)
 |[]=>rfl
 |s::r=>by rw[aam,aam,Jj,mI r];rfl
end
section
theorem SV{ws:List T}{Q:List T→List T→Prop}(h:Q us ws):∃ts vs,[T.tup us,T.tup ws]=[T.tup ts,T.tup vs]∧Q ts vs:=Ψ2 us ws ⟨rfl,h⟩
theorem Km{a:Str}{b:Int}(h:Z (.bl false) Γ):GZ (.str a) (.int b) Γ Z:=Ψ2 _ _ ⟨rfl,rfl,rfl,h⟩
theorem SM{A:Prop}(h:A):gT Γ∧A:=⟨trivial,h⟩
theorem pD{a b:Str}(h:decide (V.str a=V.str b)=true):a=b:=V.str.inj (aaU h)
theorem ky{a b:Str}(h:decide (V.str a=V.str b)=false):a≠b:=λe=>aa9 h (by rw[e])
theorem MO{a b:Int}(h:decide (V.int a=V.int b)=false):a≠b:=λe=>aa9 h (by rw[e])
theorem Ki{Q:T→List T→Prop}(h:Q (.tup us) us):∃x ts,[T.tup us]=[x]∧pB Γ x=some ts∧Q x ts:=Ψ2 (.tup us) us ⟨rfl,rfl,h⟩
theorem GB{r r':R3}{a b c:E3}(h:a Y τ Γ λx Γ1=>b Y τ Γ1 λy Γ2=>r x y Γ2 λz Γ3=>∃k,z=.bl k∧(if k=true then c Y τ Γ3 λw' Γ4=>r' y w' Γ4 Z else Z (.bl false) Γ3)):zy r r' a b c Y τ Γ Z:=h
theorem Oi{u:V}{us:List V}(h1:sc x=some u)(h2:Jj ts=some us)(h3:(eK u&&us.all eK)=true)(z:Z (.bl (if neg then !Ge u us else Ge u us)) Γ):Lg neg x (.tup ts) Γ Z:=by
 rw[aa1]at h3;exact Ψ3 u ts us ⟨h1,rfl,h2,h3.1,h3.2,z⟩
theorem um{Q:T→List T→Prop}(g:Γ p=some (.lst ts))(h:Q (.ref p) ts):∃x us,[T.ref p]=[x]∧pB Γ x=some us∧Q x us:=Ψ2 (.ref p) ts ⟨rfl,bh g,h⟩
theorem fm{i:Int}{t:T}(g:Γ p=some (.lst ts))(h:kH ts i=some t)(z:Z t Γ):Bq (.ref p) (.int i) Γ Z:=Ψ3 ts i t ⟨bh g,rfl,h,z⟩
theorem zS{i:Int}{t:T}(h:kH ts i=some t)(z:Z t Γ):Bq (.tup ts) (.int i) Γ Z:=Ψ3 ts i t ⟨rfl,rfl,h,z⟩
theorem fY{t:T}(h:ts[i]?=some t)(z:Z t Γ):Bq (.tup ts) (.int (i:Nat)) Γ Z:=Ψ3 ts i t ⟨rfl,rfl,cA h,z⟩
theorem iS{A:Prop}(g:Γ p=some (.lst ts))(h:A):ql Γ (.ref p)=some "list" ∧ A:=⟨by show(match Γ p with|some (.lst _)=>some "list" |some (.dK _)=>some "dict" |_=>none)=_;rw[g],h⟩
theorem NW{A:Prop}(h:A):ql Γ (.str z)=some "str" ∧ A:=⟨rfl,h⟩
end
section
variable {N:S3→Gp→Prop}
theorem SW{i j:Int}{Q:Int→Int→Prop}(h:Q i j):∃i' j',[T.int i,T.int j]=[T.int i',T.int j']∧Q i' j':=Ψ2 i j ⟨rfl,h⟩
theorem Kl{k:Int}{v:T}(g:Γ p=some (.lst ts))(h:BN ts.length k=some j)(z:N τ (up Γ p (.lst (ts.set j v)))):∃a us k' j',T.ref p=.ref a∧T.int k=.int k'∧Γ a=some (.lst us)∧BN us.length k'=some j'∧N τ (up Γ a (.lst (us.set j' v))):=Ψ4 p ts k j ⟨rfl,rfl,g,h,z⟩
theorem SO{A:Prop}(h:A):T.tup []=T.tup []∧A:=⟨rfl,h⟩
end
section
theorem NY{ts:C3}(h:tb (λτ' C Γ'=>W.exmOne K C (.ref Cy)=some true∧∀x,Γ' x=none→
 ts Y0 {nx:=λτ2 Γ2=>D.nx (τ2.set j none) Γ2,rt:=D.rt,bk:=λτ2 Γ2=>D.bk (τ2.set j none) Γ2,ct:=λτ2 Γ2=>D.ct (τ2.set j none) Γ2} (τ'.set j (some (.ref x))) (up Γ' x (.ext (excAt x C)))) D τ Γ):QZ K Cy j tb ts Y D τ Γ:=h
theorem SE(h:ta Y τ Γ λxs Γ1=>∃ts us,xs=[.tup ts,.tup us]∧ts.length=us.length∧∀p,Γ1 p=none→Z (.ref p) (up Γ1 p (.lst (fK ts us)))):Xb ta Y τ Γ Z:=h
end
mutual
/-- how great a value is -/
def Rt:T→Nat
 |.tup ts=>1+jH ts
 |.non=>1|.bl _=>1|.int _=>1|.str _=>1|.ref _=>1|.ty _=>1|.scr _ _ _=>1
def jH:List T→Nat
 |[]=>0
 |t::r=>Rt t+jH r
end
theorem qo:∀(a b:List T),jH (a++b)=jH a+jH b
 |[],b=>by rw[ab3,jH,acT]
 |x::r,b=>by rw[abY,jH,jH,qo r b,Nat.add_assoc]
theorem zR:∀x:T,1≤Rt x:=λx=>by cases x<;>rw[Rt]<;>lia
theorem qm:∀xs:List T,xs.length≤jH xs
 |[]=>aaE _
 |x::r=>by rw[jH,aap];have:=qm r;have:=zR x;lia
inductive Pl:T→Prop
 |int (i:Int):Pl (.int i)
 |str {z:Str}:Pl (.str z)
 |tup {ts:List T} (q:∀t∈ts,Pl t):Pl (.tup ts)
theorem Hs(hu:X.A.units<cLine):lA X (compareOp .Eq) (λx y Γ Z=>∃(a b:Addr) (ns ms:List Int),x=.ref a∧y=.ref b∧Γ a=some (.lst (ns.map T.int))∧Γ b=some (.lst (ms.map T.int))∧Z (.bl (decide (ns=ms))) Γ):=
 ⟨_,Hw hu,λx y a b H Γ Q Z ra rb hr q0 vr=>by
  let⟨p,p',ns,ms,ea,eb,g1,g2,z⟩:=q0;subst ea eb;let⟨vs,hv,q⟩:=hr p _ g1;let⟨mv,Gg,q'⟩:=hr p' _ g2;rw[js q]at hv;rw[js q']at Gg;exact Ψ4 p p' ns ms ⟨bZ ra,bZ rb,hv,Gg,vr _ _ H Γ .refl hr ij z⟩⟩
theorem yk{α:Type}{P:List α→Prop}(h:∀a0,P [a0]):∀us:List α,us.length=1→P us
 |[a0],_=>h _
theorem zP{α:Type}{P:List α→Prop}(h:∀a0 a1,P [a0,a1]):∀us:List α,us.length=2→P us
 |[a0,a1],_=>h _ _
theorem Bi{α:Type}{P:List α→Prop}(h:∀a0 a1 a2,P [a0,a1,a2]):∀us:List α,us.length=3→P us
 |[a0,a1,a2],_=>h _ _ _
theorem Sk{α:Type}{P:List α→Prop}(h:∀a0 a1 a2 a3,P [a0,a1,a2,a3]):∀us:List α,us.length=4→P us
 |[a0,a1,a2,a3],_=>h _ _ _ _
theorem Rs.getD:∀{vs:List V} {ts:List T} {j:Nat} {t:T},Rs H vs ts→ts[j]?=some t→R H (vs.getD j .non) t
 |vs,[],j,t,q,h=>by simp at h
 |vs,x::ts,j,t,q,h=>by
  let⟨w,ws,rfl,r1,r2⟩:=bO q;cases j with
  |zero=>cases h;exact r1
  |succ j=>
   show R H (ws.getD j .non) t
   exact Rs.getD r2 (by simpa using h)
end L3
namespace L2
open PySem PySem.Spec PyProof.Rows
theorem Bh:∀{us Cn:List Value},Cn.Perm us→∀{xs:List V},Vals xs us→∃zs,zs.Perm xs∧Vals zs Cn:=by
 intro us Cn p;induction p with
 |nil=>intro xs h;exact⟨xs,.refl _,h⟩
 |@cons u l1 l2 p ih=>
  intro xs h;cases h with
  |@cons x u xs us r h'=>
   let⟨zs,pz,hz⟩:=ih h';exact⟨x::zs,pz.cons _,.cons r hz⟩
 |swap u v l=>
  intro xs h;cases h with
  |@cons x u xs us r h'=>
   cases h' with
   |@cons y v ys vs r2 h2=>exact⟨y::x::ys,.swap _ _ _,.cons r2 (.cons r h2)⟩
 |trans p1 p2 Uh Ug=>
  intro xs h;let⟨zs,pz,hz⟩:=Ug h;let⟨ws,pw,hw⟩:=Uh hz;exact⟨ws,pw.trans pz,hw⟩
end L2
namespace L3
open PySem PySem.Spec L2
theorem GS{H:Hp}{α:Type}{f:α→T}:∀{vs mv:List V},mv.Perm vs→∀{ns:List α},Rs H vs (ns.map f)→∃ms:List α,ms.Perm ns∧Rs H mv (ms.map f):=by
 intro vs mv p;induction p with
 |nil=>intro ns h;exact⟨ns,.refl _,h⟩
 |@cons u l1 l2 p ih=>
  intro ns h;cases ns with
  |nil=>cases bA h
  |cons n ns=>
   let⟨v,ws,e,a,b⟩:=bO h;cases e;let⟨ms,pm,hm⟩:=ih b;exact⟨n::ms,pm.cons _,bg a hm⟩
 |swap u v l=>
  intro ns h;cases ns with
  |nil=>cases bA h
  |cons n ns=>
   let⟨_,_,e,a,b⟩:=bO h;cases e;cases ns with
   |nil=>cases bA b
   |cons m ns=>
    let⟨_,_,e,a2,b2⟩:=bO b;cases e;exact⟨m::n::ns,.swap _ _ _,bg a2 (bg a b2)⟩
 |trans p1 p2 Uh Ug=>
  intro ns h;let⟨zs,pz,hz⟩:=Ug h;let⟨ws,pw,hw⟩:=Uh hz;exact⟨ws,pw.trans pz,hw⟩
end L3
namespace L2
open PySem PySem.Spec PyProof.Rows
def Vt(K:W.Frag)(a:Addr)(xs:List V):Prop:=∃(o:Obj) (its:Array Value) (n:Nat),K.lookup a=some o∧o.cls=.type "tuple" ∧ o.data=.seq its n∧its.size≤sizeLine∧Vals xs its.toList
end L2
namespace L2
open PySem PySem.Spec PyProof.Rows
def S(l:List Nat):Str:=⟨l.toArray⟩
end L2
namespace L3
open PySem PySem.Spec L2
section
variable {X:Cx}{E:St→XK}
def eDn:E3:=λ_ _ Γ Z=>∀p,Γ p=none→Z (.ref p) (up Γ p (.dK []))
theorem G6{pos:Pos}:PE X (.Dict [] [] pos) (bH E eDn):=
 cK Hh λσ H Q τ Γ Y Z rs hr t vr xr=>by
  intro p hp;exact vr _ _ _ _ (.make hp) (hr.make (o3:=.dK []) hp ⟨[],ar,.nil⟩) jG (t p (hr.free hp))
end
end L3
namespace L2
open PySem PySem.Spec PyProof.Rows
variable {elt tg iter:Expr}{ifs:List Expr}{gens:List Comprehension}{scope:Scope}{pos:Pos}{d:Nat}{it acc:Value}{env:Env}{prog:Program}{w:World}{A:Around}{s:Shared}{X:Cx}{wi:TI}{g:TG}{tc:TT}
def eP(elt:Expr)(gens:List Comprehension)(scope:Scope)(pos:Pos)(d:Nat)(acc:Value)(env:Env):Sem Unit:=
 match gens[d+1]? with
 |some g'=>do
  let x ←eval g'.iter env
  standAt g'.iter.pos
  let x ←foldedSetIterable g'.iter env x
  let _ ←runOwn (.compStart (.ListComp elt gens scope pos) (d+1) (←holding [x] (pyIter x)) acc env) env
 |none=>do let _ ←call (.builtin "list.append") [acc,←eval elt env]
theorem sU(hd:gens[d]?=some ⟨tg,iter,ifs,0⟩)(hg:∀g∈gens,g.is_async=0):
  compTurn (.ListComp elt gens scope pos) d it acc env=(do
   standAt iter.pos
   match ←pyNext it with
   |none=>pure (.done .next)
   |some v=>
    letOwnedTupleGo tg it v
    assign tg env v
    let mut ok:=true
    for c in ifs do
     if ok then ok ←isTrue c env (eval c env)
    if ok then
     eP elt gens scope pos d acc env
    again (.compLoop (.ListComp elt gens scope pos) d it acc env)):=by
 unfold compTurn eP;dsimp only;rw[hd];cases e:gens[d+1]? with
 |none=>rfl
 |some g=>
  obtain⟨t2,i2,f2,a2⟩:=g;have:a2=0:=hg _ (aaj e);subst this;simp only[bind_assoc,pure_bind];rfl
theorem lg{R:Result→Shared→Prop}(hd:gens[d]?=some ⟨tg,iter,ifs,0⟩)(Fe:∀g∈gens,g.is_async=0)(I:Nat→Shared→Prop)
  (turn:∀n s,I n s→wpAny (model prog w) A (pyNext it) (λr s₁=>match r with
   |none=>R (.ok .next) s₁
   |some v=>wpAny (model prog w) A (letOwnedTupleGo tg it v) (λ_ Jb=>wpAny (model prog w) A (assign tg env v) (λ_ s₂=>
     wpAny (model prog w) A (forIn ifs true λc r=>if r=true then do let ok ←isTrue c env (eval c env);pure (ForInStep.yield ok)else pure (ForInStep.yield r)) (λok s₃=>
      if ok=true then wpAny (model prog w) A (eP elt gens scope pos d acc env) (λ_ s₅=>∃m,m<n∧I m s₅) (notedBy (model prog w) A env λe s'=>R (.error e) s') s₃
      else ∃m,m<n∧I m s₃) (notedBy (model prog w) A env λe s'=>R (.error e) s') s₂) (notedBy (model prog w) A env λe s'=>R (.error e) s') Jb) (notedBy (model prog w) A env λe s'=>R (.error e) s') s₁) (notedBy (model prog w) A env λe s'=>R (.error e) s') s)
  (n:Nat) (h:I n s) :
  codeAny (model prog w) A (.compLoop (.ListComp elt gens scope pos) d it acc env) R s:=by
 exact codeAny_loop rfl I (λn s hI=>?_) n h;show wpAny _ A ((compTurn (.ListComp elt gens scope pos) d it acc env).onRaise (λx=>do noteFrame x env;theTreesLotGoes x)) _ _ s
 exact wpAny_noted ?_;rw[sU hd Fe];exact aaa (abP (aaa (aaB (turn n s hI) (λr s₁ h₁=>?_) λ_ _ h'=>h')));cases r with
 |none=>exact aad h₁
 |some v=>
  exact aaa (aaB h₁ (λ_ Jb P7=>?_) λ_ _ h'=>h');exact aaa (aaB P7 (λ_ s₂ h₂=>aaa (aaB h₂ (λok s₃ h₃=>?_) λ_ _ h'=>h')) λ_ _ h'=>h');cases ok with
  |false=>exact aad ⟨rfl,h₃⟩
  |true=>exact aaa (aaB h₃ (λ_ s₅ h₅=>aad ⟨rfl,h₅⟩) λ_ _ h'=>h')
theorem kB{R:Result→Shared→Prop}(hd:gens[d]?=some ⟨tg,iter,ifs,0⟩)
  (h0:codeAny (model prog w) A (.compLoop (.ListComp elt gens scope pos) d it acc env) R s)
  (h:wpAny (model prog w) A (pyIter it) (λUc s'=>codeAny (model prog w) A (.compLoop (.ListComp elt gens scope pos) d Uc acc env) R s')
   (notedBy (model prog w) A env λx s'=>R (.error x) s') s) :
  codeAny (model prog w) A (.compStart (.ListComp elt gens scope pos) d it acc env) R s:=by
 exact codeAny_of_tree ?_;show wpAny _ _ ((compStart (.ListComp elt gens scope pos) d it acc env).onRaise (λx=>do noteFrame x env;standAt theWindowsPlace)) _ _ s
 exact wpAny_notedAt ?_;unfold compStart;have hc:(clausesOf (.ListComp elt gens scope pos))[d]?=some ⟨tg,iter,ifs,0⟩:=hd;rw[hc];show wpAny _ _ (ask >>= _) _ _ s
 exact aaa (wpAny_askSetting (wpAny_ite ?_));split
 ·first
   |exact aaa (aad (aad (And.intro rfl h0)))
   |exact aad (And.intro rfl h0)
 ·first
   |exact aaa (acu (aaa (abP (aaa (aaB h (λUc s' h'=>aad (And.intro rfl h')) λ_ _ x=>x)))))
   |(exact aaa (acu ?_);show wpAny _ _ (standAt iter.pos >>= _) _ _ s;exact aaa (abP (aaa (aaB h (λUc s' h'=>aad (And.intro rfl h')) λ_ _ x=>x))))
abbrev TM:=St→Hp→(St→Hp→Prop)→Prop
structure PM(X:Cx)(m:Sem Unit)(t:TM):Prop where
 run:∀pins s σ H (Q:St→Hp→Prop),Inv X pins σ H s→t σ H Q→wpAny (model X.prog X.w) X.A m (λ_ s'=>∃σ' H',Inv X pins σ' H' s'∧Q σ' H') X.xe s
section
variable {D:Addr}{te:TE}{tm:TM}
theorem IW{m:Sem Unit}{t t':TM}(h:PM X m t)(w:∀σ H Q,t' σ H Q→t σ H Q):PM X m t':=⟨λpins s σ H Q I q=>h.run pins s σ H Q I (w σ H Q q)⟩
def OF(D:Addr)(te:TE):TM:=λσ H Q=>te σ H λy H1=>∃ys,H1 D=some (.lst ys)∧ys.length<sizeLine∧Q σ (upd H1 D (.lst (ys++[y])))
theorem Hc(he:PE X elt te)(hd:gens[d+1]?=none):PM X (eP elt gens scope pos d (.ref D) X.env) (OF D te):=by
 exact⟨λpins s σ H Q I h=>?_⟩;unfold eP;rw[hd];exact aaa (bD (he pins s σ H _ I h) λu s1⟨y,H1,I1,r1,ys,d1,hy,q1⟩=>?_);exact aaa (bD (gB _ s1 σ H1 (.ref D) [y] (.ref D) [u] (λ_ H2=>Q σ H2) I1 rfl (.cons r1 .nil) ⟨_,ys,y,rfl,rfl,d1,hy,q1⟩) λ_ s2 ξ=>Ξ23 ξ λ_ H2 I2 _ q2=>?_);exact aad ⟨σ,H2,I2,q2⟩
def OE(wi:TI)(g:TG)(tc:TT)(tm:TM):TM:=λσ H Q=>wi σ H λJ H1=>∃W:Nat→Nat→St→Hp→Prop,(∃m,W 0 m σ H1)∧∀i m σ' H',W i m σ' H'→
 ((J.stop i H'∧Q σ' H')∨(J.go i H'∧∃N:St→Hp→Prop,(∀σ H,N σ H→∃m',m' < m∧W (i+1) m' σ H)∧∀x H2,J.nJ i H' x H2→g x σ' H2 λσ3 H3=>tc σ3 H3 λb H4=>if b=true then tm σ3 H4 N else N σ3 H4))
theorem Lv(hx:X.xe=λ_ _=>False)(hc:X.calm=true)(Fe:∀g∈gens,g.is_async=0)(hd:gens[d+1]?=some ⟨tg,iter,ifs,0⟩)(hi:PI X tg iter wi)(hg:PG X tg g)(ht:pG X ifs tc)(hm:PM X (eP elt gens scope pos (d+1) (.ref D) X.env) tm)
  (hs:∀x,foldedSetIterable iter X.env x=pure x:=by intro _;rfl):PM X (eP elt gens scope pos d (.ref D) X.env) (OE wi g tc tm):=by
 exact⟨λpins s σ H Q I h=>?_⟩;have iA:∀{α:Type} {t:Sem α} {Q1:α→Shared→Prop} {E1:xz} {s:Shared},wpAny (model X.prog X.w) X.A t Q1 X.xe s→wpAny (model X.prog X.w) X.A t Q1 E1 s:=λ{α t Q1 E1 s} h=>by
  rw[hx]at h;exact aaB h (λ_ _ q=>q) λ_ _ f=>f.elim
 unfold eP;rw[hd];exact aaa (bD (hi pins s σ H _ I h) λv s1 h1=>?_);exact aaa (abP ?_);exact aaa (abh (hs v) ?_);exact aaa (aaR (bD h1 λJz s2 h2=>?_));let⟨it,fp,tn,J,H2,e,I2,T,nM,f2,⟨W,⟨m0,w0⟩,turn⟩⟩:=h2;subst e;have yu:∀{H':Hp},(∀b∈fp,H' b=none)→∀b∈fp,eG X pins H' b:=λhn b hb=>⟨hn b hb,(f2 b hb).2⟩;exact aaa (wpAny_runOwn (Q:=λ_ s'=>wpAny (model X.prog X.w) X.A (pure ()) (λ_ s'=>∃σ' H',Inv X pins σ' H' s'∧Q σ' H') X.xe s') ?_);have loop:codeAny (model X.prog X.w) (X.A.mark none) (.compLoop (.ListComp elt gens scope pos) (d+1) (.ref it) (.ref D) X.env)
   (λr s'=>match r with|.ok f=>wpAny (model X.prog X.w) X.A (pure ()) (λ_ s'=>∃σ' H',Inv X pins σ' H' s'∧Q σ' H') X.xe s'|.error e=>cameBackBy (model X.prog X.w) X.A X.env X.xe e s') s2:=by
  show codeAny (model X.prog X.w) X.A _ _ s2
  exact lg hd Fe (λn s'=>∃i σ' H',Inv X pins σ' H' s'∧tn i s'.heap∧(∀b∈fp,H' b=none)∧W i n σ' H') ?_ m0 ⟨0,σ,H2,I2,nM,λb hb=>(f2 b hb).1,w0⟩;intro n s3⟨i,σ3,H3,I3,vV,xp,w3⟩;rcases turn i n σ3 H3 w3 with⟨stop,qn⟩|⟨go,N,hN,step⟩
  ·exact iA (bD (T.done X rfl rfl rfl hc i pins s3 σ3 H3 X.xe I3 (yu xp) vV stop) λr s4 ξ=>Ξ02 ξ λhr I4=>?_)
   subst hr;exact aad ⟨σ3,H3,I4,qn⟩
  ·exact iA (bD (T.item X rfl rfl rfl hc i pins s3 σ3 H3 X.xe I3 (yu xp) vV go) λr s4 ξ=>Ξ12 ξ λu hr h4=>?_)
   subst hr;exact iA (bD h4 λ_ s5 ξ=>Ξ21 ξ λx H5 ξ=>Ξ05 ξ λI5 r5 y5 qt Fn=>?_);have F2:=I5.pinned (yu Fn) (T.obj _ _ qt);have again:∀{σ7:St} {H7:Hp} {s7:Shared},Inv X (pins++jv fp s5.heap) σ7 H7 s7→N σ7 H7→∃m,m<n∧∃i σ' H',Inv X pins σ' H' s7∧tn i s7.heap∧(∀b∈fp,H' b=none)∧W i m σ' H':=λ{σ7 H7 s7} I7 n7=>by
    let⟨m',hm,w7⟩:=hN σ7 H7 n7;exact⟨m',hm,i+1,σ7,H7,I7.fF,T.keep _ _ _ qt λb hb o e=>(I7.pin (b,o) (aas _ (aas _ (b8 hb e)))).1,λb hb=>?_,w7⟩;let⟨o,e,d⟩:=T.obj _ _ qt b hb;exact(I7.pin (b,o) (aas _ (aas _ (b8 hb e)))).2.1
   exact iA (bD (hg _ s5 σ3 H5 x u _ F2 r5 (step x H5 y5)) λ_ s6 ξ=>Ξ22 ξ λσ6 H6 I6 q6=>?_);exact iA (bD (ht _ s6 σ6 H6 _ I6 q6) λb s7 ξ=>Ξ12 ξ λH7 I7 q7=>?_);cases b with
   |false=>
    rw[aaz aal]at q7 ⊢;exact again I7 q7
   |true=>
    rw[aaA rfl]at q7 ⊢;exact iA (bD (hm.run _ s7 σ6 H7 _ I7 q7) λ_ s8 ξ=>Ξ22 ξ λσ8 H8 I8 q8=>again I8 q8)
 exact kB hd loop (T.self X.A 0 _ _ _ nM loop)
end
def Ds(wi:TI)(g:TG)(tc:TT)(tm:Addr→TM)(own:List Str)(cap:List (Nat×Str)):TE:=λσ H Q=>wi σ H λJ H2=>∀D,H2 D=none→
 ∃W:Nat→Nat→St→Hp→Prop,(∃m,W 0 m (da own cap σ) (upd H2 D (.lst [])))∧∀i m σ' H',W i m σ' H'→
   ((J.stop i H'∧Q (.ref D) H')∨(J.go i H'∧∃N:St→Hp→Prop,(∀σ H,N σ H→∃m',m' < m∧W (i+1) m' σ H)∧∀x H2,J.nJ i H' x H2→g x σ' H2 λσ3 H3=>tc σ3 H3 λb H4=>if b=true then tm D σ3 H4 N else N σ3 H4))
section
variable {cl:List (Str×Addr)}{own:List Str}{cap:List (Nat×Str)}{rest:List Comprehension}{tm:Addr→TM}
theorem xG{pins:ad}{σ:St}{s2:Shared}{H2:Hp}{it:Addr}{fp:List Addr}{tn:Nat→Heap→Prop}{J:It}{Q:VK}{RR:Value→Addr→Result→Shared→Prop}{E':xz}
  (c:cV X scope cl own cap) (hc:X.calm=true)
  (hg:∀C s H fp,PG (aQ X (own++cap.map (·.2)) scope cl C s H fp λ_ _=>False) tg g) (ht:∀C s H fp,pG (aQ X (own++cap.map (·.2)) scope cl C s H fp λ_ _=>False) ifs tc)
  (hm:∀C s H fp D,PM (aQ X (own++cap.map (·.2)) scope cl C s H fp λ_ _=>False) (eP elt gens scope pos 0 (.ref D) (compEnvC scope cl C X.env)) (tm D)) (WJ:gens[0]?=some ⟨tg,iter,ifs,0⟩) (Fe:∀g∈gens,g.is_async=0)
  (I2:Inv X pins σ H2 s2) (T:Turn X.prog X.w X.K tg J fp it tn) (nM:tn 0 s2.heap) (f2:∀b∈fp,eG X pins H2 b)
  (hw:∀D,H2 D=none→∃W:Nat→Nat→St→Hp→Prop,(∃m,W 0 m (da own cap σ) (upd H2 D (.lst [])))∧∀i m σ' H',W i m σ' H'→
   ((J.stop i H'∧Q (.ref D) H')∨(J.go i H'∧∃N:St→Hp→Prop,(∀σ H,N σ H→∃m',m' < m∧W (i+1) m' σ H)∧∀x H2,J.nJ i H' x H2→g x σ' H2 λσ3 H3=>tc σ3 H3 λb H4=>if b=true then tm D σ3 H4 N else N σ3 H4)))
  (Qy:∀D C s' H' m,Inv X pins σ H' s'→eG X pins H' C→s'.heap.Ns C m→Q (.ref D) H'→RR (.ref D) C (.ok .next) s') :
  wpAny (model X.prog X.w) X.A (newList []) (λacc s₃=>wpAny (model X.prog X.w) X.A (newFunctionEnv scope X.env.globals cl [] X.env.qual none .none (some X.env)) (λsW s₄=>
   codeAny (model X.prog X.w) X.A (.compStart (.ListComp elt gens scope pos) 0 (.ref it) acc {sW with scope:=relabel scope X.env}) (RR acc sW.locals) s₄) E' s₃) E' s2:=by
 exact aaL (acR c.cell (by intro y hy;simp at hy) (λh₁ kO kh=>?_) c.kind);dsimp only at kO kh ⊢;have hsz:(s2.heap.push {cls:=.type "list",dict:=none,data:=.seq ([]:List Value).toArray}).objs.size=s2.heap.objs.size+1:=abk _ _;have kk:∀b o,s2.heap.get? b=some o→h₁.get? b=some o:=λb o e=>kh.extBut b o (by rw[hsz];exact aaw (abw (aak e))) (aab _ (aab _ e));have hD:h₁.get? s2.heap.objs.size=some {cls:=.type "list",data:=.seq ([]:List Value).toArray}:=
  kh.extBut _ _ (by rw[hsz];exact aaw (acg _)) (aab _ (aaq _ rfl))
 rw[hsz]at kO ⊢;have cG:∀b∈fp,b<s2.heap.objs.size:=λb hb=>by
  let⟨o,e,_⟩:=T.obj _ _ nM b hb;exact aak e
 let⟨W,⟨m0,w0⟩,turn⟩:=hw s2.heap.objs.size I2.fresh;have J1:=rL (E:=λ_ _=>False) c I2 f2 cG (tk:=s2.toks+([]:List (Str×Value)).length) kk hD kO;generalize fZ:aQ X (own++cap.map (·.2)) scope cl (s2.heap.objs.size+1) s2 H2 fp (λ_ _=>False)=X' at J1;have Ij:PG X' tg g:=fZ ▸ hg _ _ _ _;have P9:pG X' ifs tc:=fZ ▸ ht _ _ _ _;have JC:PM X' (eP elt gens scope pos 0 (.ref s2.heap.objs.size) (compEnvC scope cl (s2.heap.objs.size+1) X.env)) (tm s2.heap.objs.size):=fZ ▸ hm _ _ _ _ _;have pX:X'.prog=X.prog:=by rw[←fZ];rfl
 have wX:X'.w=X.w:=by rw[←fZ];rfl
 have kX:X'.K=X.K:=by rw[←fZ];rfl
 have aX:X'.A=X.A:=by rw[←fZ];rfl
 have cX:X'.calm=true:=by rw[←fZ];exact hc
 have nX:X'.env=compEnvC scope cl (s2.heap.objs.size+1) X.env:=by rw[←fZ];rfl
 have xX:X'.xe=λ_ _=>False:=by rw[←fZ];rfl
 have fX:∀b∈fp,∀{H':Hp},H' b=none→eG X' [] H' b:=λb hb {H'} hn=>by
  have o1:=(fD (E:=λ_ _=>False) c I2 f2 cG (C:=s2.heap.objs.size+1) (abl _)).Gm b hb;have o2:=(fD (E:=λ_ _=>False) c I2 f2 cG (C:=s2.heap.objs.size+1) (abl _)).pQ b hb;rw[←fZ];exact⟨hn,o1.1,o2,.inl hb,o1.2,λp hp=>absurd (show p∈([]:ad)from hp) (by simp)⟩
 have fin:∀{σ':St} {H':Hp} {s':Shared},Inv X' [] σ' H' s'→Q (.ref s2.heap.objs.size) H'→RR (.ref s2.heap.objs.size) (s2.heap.objs.size+1) (.ok .next) s':=λ{σ' H' s'} J' q=>by
  rw[←fZ]at J';let⟨A1,A2⟩:=hU I2 f2 (abl _) J';let⟨m,hm,_⟩:=J'.loc;exact Qy _ _ s' H' m A1 A2 hm q
 have loop:codeAny (model X.prog X.w) X.A (.compLoop (.ListComp elt gens scope pos) 0 (.ref it) (.ref s2.heap.objs.size) (compEnvC scope cl (s2.heap.objs.size+1) X.env)) (RR (.ref s2.heap.objs.size) (s2.heap.objs.size+1))
   {s2 with heap:=h₁,toks:=s2.toks+([]:List (Str×Value)).length}:=by
  exact lg WJ Fe (λn s'=>∃i σ' H',Inv X' [] σ' H' s'∧tn i s'.heap∧(∀b∈fp,H' b=none)∧W i n σ' H') ?_ m0
   ⟨0,_,_,J1,T.keep _ _ _ nM λb _ o e=>kk b o e,λb hb=>by rw[ao (aaw (cG b hb))];exact(f2 b hb).1,w0⟩
  intro n s3⟨i,σ3,H3,I3,vV,xp,w3⟩;have w4:=turn i n σ3 H3 w3;rw[←nX,←aX,←pX,←wX];have iA:∀{α:Type} {t:Sem α} {Q1:α→Shared→Prop} {E1:xz} {s:Shared},wpAny (model X'.prog X'.w) X'.A t Q1 X'.xe s→wpAny (model X'.prog X'.w) X'.A t Q1 E1 s:=λ{α t Q1 E1 s} h=>by
   rw[xX]at h;exact aaB h (λ_ _ q=>q) λ_ _ f=>f.elim
  rcases w4 with⟨stop,qn⟩|⟨go,N,hN,step⟩
  ·have d:=T.done X' pX wX kX cX i [] s3 σ3 H3 X'.xe I3 (λb hb=>fX b hb (xp b hb)) vV stop
   rw[←pX,←wX]at d;exact iA (bD d λr s4 ξ=>Ξ02 ξ λhr I4=>?_);subst hr;exact fin I4 qn
  ·have d:=T.item X' pX wX kX cX i [] s3 σ3 H3 X'.xe I3 (λb hb=>fX b hb (xp b hb)) vV go
   rw[←pX,←wX]at d;exact iA (bD d λr s4 ξ=>Ξ12 ξ λu hr h4=>?_);subst hr;exact iA (bD h4 λ_ s5 ξ=>Ξ21 ξ λx H5 ξ=>Ξ05 ξ λI5 r5 y5 qt Fn=>?_);have F2:=I5.pinned (λb hb=>fX b hb (Fn b hb)) (T.obj _ _ qt);have again:∀{σ7:St} {H7:Hp} {s7:Shared},Inv X' ([]++jv fp s5.heap) σ7 H7 s7→N σ7 H7→
     ∃m,m<n∧∃i σ' H',Inv X' [] σ' H' s7∧tn i s7.heap∧(∀b∈fp,H' b=none)∧W i m σ' H':=λ{σ7 H7 s7} I7 n7=>by
    let⟨m',hm,w7⟩:=hN _ _ n7;exact⟨m',hm,i+1,σ7,H7,I7.fF,T.keep _ _ _ qt λb hb o e=>(I7.pin (b,o) (aas _ (aas _ (b8 hb e)))).1,λb hb=>?_,w7⟩;let⟨o,e,d⟩:=T.obj _ _ qt b hb;exact(I7.pin (b,o) (aas _ (aas _ (b8 hb e)))).2.1
   exact iA (bD (Ij _ s5 σ3 H5 x u _ F2 r5 (step x H5 y5)) λ_ s6 ξ=>Ξ22 ξ λσ6 H6 I6 q6=>?_);exact iA (bD (P9 _ s6 σ6 H6 _ I6 q6) λb s7 ξ=>Ξ12 ξ λH7 I7 q7=>?_);cases b with
   |false=>
    rw[aaz aal]at q7 ⊢;exact again I7 q7
   |true=>
    rw[aaA rfl]at q7 ⊢;have WC:=JC.run _ s7 σ6 H7 _ I7 q7;rw[←nX]at WC;exact iA (bD WC λ_ s8 ξ=>Ξ22 ξ λσ8 H8 I8 q8=>again I8 q8)
 exact kB WJ loop (T.self X.A 0 _ _ _ (T.keep _ _ _ nM λb _ o e=>kk b o e) loop)
theorem Eg(c:cV X scope cl own cap)(hc:X.calm=true)(hi:PI X tg iter wi)
  (hg:∀C s H fp,PG (aQ X (own++cap.map (·.2)) scope cl C s H fp λ_ _=>False) tg g) (ht:∀C s H fp,pG (aQ X (own++cap.map (·.2)) scope cl C s H fp λ_ _=>False) ifs tc)
  (hm:∀C s H fp D,PM (aQ X (own++cap.map (·.2)) scope cl C s H fp λ_ _=>False) (eP elt (⟨tg,iter,ifs,0⟩::rest) scope pos 0 (.ref D) (compEnvC scope cl C X.env)) (tm D)) (Fe:∀g∈(⟨tg,iter,ifs,0⟩::rest:List Comprehension),g.is_async=0) (hs:∀x,foldedSetIterable iter X.env x=pure x:=by intro _;rfl) :
  PE X (.ListComp elt (⟨tg,iter,ifs,0⟩::rest) scope pos) (Ds wi g tc tm own cap):=by
 exact .mk ?_;intro pins s σ H Q I h;rw[eval_ListComp];exact abW (use:=none) rfl hs c.zA c.kind c.names (bD (hi pins s σ H _ I h) λv s1 h1=>bD h1 λJz s2 h2=>?_);let⟨it,fp,tn,J,H2,e,I2,T,nM,f2,hw⟩:=h2;subst e;exact xG (Q:=Q) (RR:=λacc C=>compPost (model X.prog X.w) X.A X.xe none (EP X pins σ Q) acc C) c hc hg ht hm rfl Fe I2 T nM f2 hw ?_;intro D C s' H' m I' hC hm q;exact⟨m,hm,λh' se=>Ψ2 (.ref D) H' ⟨?_,rfl,q⟩⟩;exact I'.turned (t':=s'.toks) (λb o hb e=>(se.2 b hb).trans e) hC.1 hC.2.1 hC.2.2.2.1 hC.2.2.2.2.1 hC.2.2.2.2.2
end
end L2
namespace L3
open PySem PySem.Spec L2
open PyProof.Rows hiding St
abbrev M3:=S3→List T→Gp→(S3→List T→Gp→Prop)→Prop
def PR(tm:M3)(D:Addr):TM:=λσ H Q=>∃H0 Γ0 τ Γ ys vs Z,RS H σ τ∧HR H Γ∧Γ D=none∧H D=some (.lst vs)∧Rs H vs ys∧H0 D=none∧eW H0 Γ0 H Γ∧tm τ ys Γ Z∧
 ∀σ' τ' H' Γ' mv yg,Tq H H'→eW H0 Γ0 H' Γ'→HR H' Γ'→RS H' σ' τ'→Γ' D=none→H' D=some (.lst mv)→Rs H' mv yg→Z τ' yg Γ'→Q σ' H'
theorem LU(vs:List V):(∀us:List V,HO.lst vs≠.tup us)∧∀b w,HO.lst vs≠.frz b w:=⟨λ_ z=>(nomatch z),λ_ _ z=>(nomatch z)⟩
theorem GH{H0 H6:Hp}{Γ0 Γ6:Gp}{D:Addr}{vs us:List V}(hD:H0 D=none)(d6:H6 D=some (.lst vs))(s7:eW H0 Γ0 H6 Γ6):eW H0 Γ0 (upd H6 D (.lst us)) Γ6:=by
 exact⟨s7.tq.trans (jg d6 (LU vs)),λa h z=>?_,s7.new,λa o h g=>?_⟩
 ·by_cases e:a=D
  ·subst e;exact h hD
  ·rw[ao e]at z;exact s7.yc a h z
 ·have e:a≠D:=λe=>by subst e;rw[hD]at h;cases h
  rw[ao e];exact s7.tY a o h g
def Jx(te:E3):M3:=λτ ys Γ Z=>ys.length<sizeLine∧te Y0 τ Γ λy Γ1=>Z τ (ys++[y]) Γ1
def PN(wi:I3)(g:G3)(tc:T3)(tm:M3):M3:=λτ ys Γ Z=>wi Y0 τ Γ λts gd Γ1=>∃P:List T→S3→List T→Gp→Prop,P ts τ ys Γ1∧(∀τ ys Γ,P [] τ ys Γ→gd Γ∧Z τ ys Γ)∧
 ∀x r τ ys Γ,P (x::r) τ ys Γ→gd Γ∧g Y0 x τ Γ λτ3 Γ3=>tc Y0 τ3 Γ3 λb Γ4=>if b=true then tm τ3 ys Γ4 (P r)else P r τ3 ys Γ4
def zx(wi:I3)(g:G3)(tc:T3)(tm:M3)(own:List Str)(cap:List (Nat×Str)):E3:=λY τ Γ Z=>wi Y τ Γ λts gd Γ1=>∃P:List T→S3→List T→Gp→Prop,P ts (Cf own cap τ) [] Γ1∧(∀τ ys Γ,P [] τ ys Γ→gd Γ∧∀D,Γ D=none→Z (.ref D) (up Γ D (.lst ys)))∧
 ∀x r τ ys Γ,P (x::r) τ ys Γ→gd Γ∧g Y0 x τ Γ λτ3 Γ3=>tc Y0 τ3 Γ3 λb Γ4=>if b=true then tm τ3 ys Γ4 (P r)else P r τ3 ys Γ4
section
variable {X:Cx}{E:St→XK}{elt tg iter:Expr}{ifs:List Expr}{gens rest:List Comprehension}{scope:Scope}{cl:List (Str×Addr)}{own:List Str}{cap:List (Nat×Str)}{pos:Pos}{d:Nat}{D:Addr}{te:E3}{wi:I3}{g:G3}{tc:T3}{tm:M3}
theorem G2(he:PE X elt (bH EN te))(hd:gens[d+1]?=none:=by rfl):PM X (eP elt gens scope pos d (.ref D) X.env) (PR (Jx te) D):=
 IW (Hc he hd) λσ H Q ⟨H0,Γ0,τ,Γ,ys,vs,Z,rs,hr,gD,hD,ry,h0,s0,⟨hz,t⟩,q⟩=>by
  exact Ψ4 τ Γ Y0 _ ⟨rs,hr,t,λy y' H6 Γ6 s6 h6 r6 z6=>?_,vL⟩;have d6:H6 D=some (.lst vs):=s6.tY D _ hD gD;have g6:Γ6 D=none:=s6.new D (by rw[hD];exactλz=>nomatch z) gD;have tq:Tq H6 (upd H6 D (.lst (vs++[y]))):=jg d6 (LU vs);exact⟨vs,d6,by rw[ry.length];exact hz,?_⟩;exact q σ τ _ Γ6 _ _ (s6.tq.trans tq) (GH h0 d6 (s0.trans s6)) (h6.hide g6 d6 (LU vs)) ((rs.mono s6.tq).mono tq) g6 ar (Rs.app ((ry.mono s6.tq).mono tq) (bg (r6.mono tq) bI)) z6
theorem Li(hc:X.calm=true)(hd:gens[d+1]?=some ⟨tg,iter,ifs,0⟩)(hi:PI X tg iter (vD EN wi))(hg:PG X tg (vE EN g))(ht:pG X ifs (kM EN tc))(hm:PM X (eP elt gens scope pos (d+1) (.ref D) X.env) (PR tm D))(Fe:∀g∈gens,g.is_async=0:=by decide)(hx:X.xe=λ_ _=>False:=by rfl)
  (hs:∀x,foldedSetIterable iter X.env x=pure x:=by intro _;rfl):PM X (eP elt gens scope pos d (.ref D) X.env) (PR (PN wi g tc tm) D):=
 IW (Lv hx hc Fe hd hi hg ht hm hs) λσ H Q ξ=>Ξ71 ξ λH0 Γ0 τ Γ ys vs Z ξ=>Ξ09 ξ λrs hr gD hD ry h0 s0 t q=>by
  exact Ψ4 τ Γ Y0 _ ⟨rs,hr,t,λJ ts gd H1 Γ1 s1 h1 wk ξ=>Ξ13 ξ λP z1 p0 pc=>?_,vL⟩;have d1:H1 D=some (.lst vs):=s1.tY D _ hD gD;have g1:Γ1 D=none:=s1.new D (by rw[hD];exactλz=>nomatch z) gD;exact⟨λi m σ' H'=>∃τ' ys vs Γ',i≤ts.length∧m=ts.length-i∧RS H' σ' τ'∧HR H' Γ'∧H' D=some (.lst vs)∧Γ' D=none∧Rs H' vs ys∧Tq H1 H'∧eW H0 Γ0 H' Γ'∧P (ts.drop i) τ' ys Γ',
   ⟨ts.length,τ,ys,vs,Γ1,aaE _,rfl,rs.mono s1.tq,h1,d1,g1,ry.mono s1.tq,.refl,s0.trans s1,z1⟩,?_⟩
  intro i m σ2 H2⟨τ2,J0,F6,Γ2,hi,rfl,qI,h2,d2,g2,K8,t2,s2,w2⟩;by_cases cG:i<ts.length
  ·rw[drop_cons cG]at w2
   let⟨gg,w2⟩:=pc _ _ _ _ _ w2;exact .inr ⟨wk.go i H2 Γ2 t2 h2 gg cG,λσ' H'=>∃τ' ys vs Γ',RS H' σ' τ'∧HR H' Γ'∧H' D=some (.lst vs)∧Γ' D=none∧Rs H' vs ys∧Tq H1 H'∧eW H0 Γ0 H' Γ'∧P (ts.drop (i+1)) τ' ys Γ',
    λσ' H' ξ=>Ξ41 ξ λτ' ys vs Γ' ξ=>Ξ08 ξ λa b c d e f k l=>⟨ts.length-(i+1),by lia,τ',ys,vs,Γ',cG,rfl,a,b,c,d,e,f,k,l⟩,λx H3 yl=>?_⟩
   let⟨s3,h3,⟨x3,e3,r3⟩⟩:=wk.nJ i H2 Γ2 x H3 t2 h2 gg cG yl;rw[aac cG]at e3;cases e3;exact Ψ5 _ τ2 Γ2 Y0 _ ⟨r3,qI.mono s3.tq,h3,w2,λσ4 τ4 H4 Γ4 s4 h4 r4 z4=>?_,vL⟩;exact Ψ4 τ4 Γ4 Y0 _ ⟨r4,h4,z4,λk H5 Γ5 s5 h5 z5=>?_,vL⟩;have mK:=(s3.trans s4).trans s5;have d5:H5 D=some (.lst F6):=mK.tY D _ d2 g2;have g5:Γ5 D=none:=mK.new D (by rw[d2];exactλz=>nomatch z) g2;cases k with
   |false=>exact Ψ4 τ4 J0 F6 Γ5 ⟨r4.mono s5.tq,h5,d5,g5,K8.mono mK.tq,t2.trans mK.tq,s2.trans mK,z5⟩
   |true=>
    exact Ψ7 H0 Γ0 τ4 Γ5 J0 F6 _ ⟨r4.mono s5.tq,h5,g5,d5,K8.mono mK.tq,h0,s2.trans mK,z5,λσ' τ' H' Γ' mv yg t6 s6 h6 r6 g6 d6 Th z6=>Ψ4 τ' yg mv Γ' ⟨r6,h6,d6,g6,Th,(t2.trans mK.tq).trans t6,s6,z6⟩⟩
  ·have e:i=ts.length:=by lia
   subst e;rw[abX]at w2;have w2:=p0 _ _ _ w2;exact .inl ⟨wk.stop H2 Γ2 t2 h2 w2.1,q σ2 τ2 H2 Γ2 F6 J0 (s1.tq.trans t2) s2 h2 qI g2 d2 K8 w2.2⟩
theorem B8(σ:St)(H:Hp)(Q:VK)(q:bH E (zx wi g tc tm own cap) σ H Q):Ds (vD E wi) (vE EN g) (kM EN tc) (PR tm) own cap σ H Q:=by
 let⟨τ,Γ,Y,Z,rs,hr,t,vr,xr⟩:=q;exact Ψ4 τ Γ Y _ ⟨rs,hr,t,λJ ts gd H1 Γ1 s1 h1 wk ξ=>Ξ13 ξ λP z1 p0 pc=>?_,xr⟩;intro D hD;exact⟨λi m σ' H'=>∃τ' ys vs Γ',i≤ts.length∧m=ts.length-i∧RS H' σ' τ'∧HR H' Γ'∧H' D=some (.lst vs)∧Γ' D=none∧Rs H' vs ys∧eW H1 Γ1 H' Γ'∧P (ts.drop i) τ' ys Γ',
  ⟨ts.length,Cf own cap τ,[],[],Γ1,aaE _,rfl,(p6 own (rs.mono s1.tq) cap).mono (dA (bo hD)),h1.keep (bo hD),ar,h1.free hD,bI,.keep (bo hD),z1⟩,?_⟩
 intro i m σ2 H2⟨τ2,J0,F6,Γ2,hi,rfl,qI,h2,d2,g2,K8,s2,w2⟩;by_cases cG:i<ts.length
 ·rw[drop_cons cG]at w2
  let⟨gg,w2⟩:=pc _ _ _ _ _ w2;exact .inr ⟨wk.go i H2 Γ2 s2.tq h2 gg cG,λσ' H'=>∃τ' ys vs Γ',RS H' σ' τ'∧HR H' Γ'∧H' D=some (.lst vs)∧Γ' D=none∧Rs H' vs ys∧eW H1 Γ1 H' Γ'∧P (ts.drop (i+1)) τ' ys Γ',
   λσ' H' ξ=>Ξ41 ξ λτ' ys vs Γ' ξ=>Ξ07 ξ λa b c d e f l=>⟨ts.length-(i+1),by lia,τ',ys,vs,Γ',cG,rfl,a,b,c,d,e,f,l⟩,λx H3 yl=>?_⟩
  let⟨s3,h3,⟨x3,e3,r3⟩⟩:=wk.nJ i H2 Γ2 x H3 s2.tq h2 gg cG yl;rw[aac cG]at e3;cases e3;exact Ψ5 _ τ2 Γ2 Y0 _ ⟨r3,qI.mono s3.tq,h3,w2,λσ4 τ4 H4 Γ4 s4 h4 r4 z4=>?_,vL⟩;exact Ψ4 τ4 Γ4 Y0 _ ⟨r4,h4,z4,λk H5 Γ5 s5 h5 z5=>?_,vL⟩;have mK:=(s3.trans s4).trans s5;have d5:H5 D=some (.lst F6):=mK.tY D _ d2 g2;have g5:Γ5 D=none:=mK.new D (by rw[d2];exactλz=>nomatch z) g2;cases k with
  |false=>exact Ψ4 τ4 J0 F6 Γ5 ⟨r4.mono s5.tq,h5,d5,g5,K8.mono mK.tq,s2.trans mK,z5⟩
  |true=>
   exact Ψ7 H1 Γ1 τ4 Γ5 J0 F6 _ ⟨r4.mono s5.tq,h5,g5,d5,K8.mono mK.tq,hD,s2.trans mK,z5,λσ' τ' H' Γ' mv yg t6 s6 h6 r6 g6 d6 Th z6=>Ψ4 τ' yg mv Γ' ⟨r6,h6,d6,g6,Th,s6,z6⟩⟩
 ·have e:i=ts.length:=by lia
  subst e;rw[abX]at w2;have w2:=p0 _ _ _ w2;exact .inl ⟨wk.stop H2 Γ2 s2.tq h2 w2.1,?_⟩;have uB:=s1.trans s2;exact vr (.ref D) (.ref D) H2 (up Γ2 D (.lst J0)) ⟨uB.tq,uB.yc,λa h g=>?_,uB.tY⟩ (λa o g=>?_) jG (w2.2 D g2)
  ·have e:a≠D:=λe=>by subst e;exact s1.yc _ h hD
   rw[bb e];exact uB.new a h g
  ·by_cases e:a=D
   ·subst e;rw[ai]at g;cases g;exact⟨F6,d2,K8⟩
   ·rw[bb e]at g;exact h2 a o g
theorem D0(c:cV X scope cl own cap)(hc:X.calm=true)(hi:PI X tg iter (vD E wi))
  (hg:∀C s H fp,PG (aQ X (own++cap.map (·.2)) scope cl C s H fp λ_ _=>False) tg (vE EN g)) (ht:∀C s H fp,pG (aQ X (own++cap.map (·.2)) scope cl C s H fp λ_ _=>False) ifs (kM EN tc))
  (hm:∀C s H fp D,PM (aQ X (own++cap.map (·.2)) scope cl C s H fp λ_ _=>False) (eP elt (⟨tg,iter,ifs,0⟩::rest) scope pos 0 (.ref D) (compEnvC scope cl C X.env)) (PR tm D)) (Fe:∀g∈(⟨tg,iter,ifs,0⟩::rest:List Comprehension),g.is_async=0:=by decide) (hs:∀x,foldedSetIterable iter X.env x=pure x:=by intro _;rfl) :
  PE X (.ListComp elt (⟨tg,iter,ifs,0⟩::rest) scope pos) (bH E (zx wi g tc tm own cap)):=gI (Eg c hc hi hg ht hm Fe hs) B8
end
end L3
namespace L3
open PySem PySem.Spec L2
def DM(zs:List Str):T:=.tup (zs.map T.str)
end L3
namespace L3
open PySem PySem.Spec L2
open PyProof.Rows hiding St
def KT(K:W.Frag)(a:Addr)(ts:List T):Prop:=∃vs,Vt K a vs∧∀H,Rs H vs ts
end L3
namespace L2
open PySem PySem.Spec PyProof.Rows
variable {o:Option V}{u:Value}{y v:V}{P:Program}{w:World}{H H':Hp}{aN:List (List Key×V)}{xs:List (List Key×Addr×Value)}{a:Addr}{Q E:xz}{h':Heap}{A:Around}{s:Shared}{value:Expr}{pos:Pos}{X:Cx}{pins:ad}{σ:St}
section
variable {κ:Type}[DecidableEq κ]
def nZ(aN:List (κ×V))(k:κ):Option V:=(aN.find? λkv=>decide (kv.1=k)).map (·.2)
def putK(aN:List (κ×V))(k:κ)(v:V):List (κ×V):=
 if(aN.any λkv=>decide (kv.1=k))=true then aN.map (λkv=>if kv.1=k then(kv.1,v)else kv)else aN++[(k,v)]
theorem mE{p:κ×V}{r:List (κ×V)}{k:κ}(e:p.1=k):nZ (p::r) k=some p.2:=by simp[nZ,abE,e]
theorem jL{p:κ×V}{r:List (κ×V)}{k:κ}(e:¬p.1=k):nZ (p::r) k=nZ r k:=by simp[nZ,abE,e]
theorem vP(k:κ):∀aN:List (κ×V),(aN.any λkv=>decide (kv.1=k))=(nZ aN k).isSome
 |[]=>rfl
 |p::r=>by
  rw[ab7];by_cases e:p.1=k
  ·simp only[mE e,aaM e,Bool.true_or,Option.isSome_some]
  ·rw[jL e,aa2 e,Bool.false_or];exact vP k r
theorem ke(aN:List (κ×V))(k:κ)(v:V):(putK aN k v).length≤aN.length+1:=by
 unfold putK;split
 ·rw[aae];lia
 ·rw[aag,aap,ad9];lia
theorem rY.BP{u:Option Value}(r:rY o u):o.isSome=u.isSome:=by
 cases o with
 |none=>cases u with
  |none=>rfl
  |some _=>exact(show False from r).elim
 |some _=>cases u with
  |none=>exact(show False from r).elim
  |some _=>rfl
theorem KV.val{aN:List (κ×V)}{vs:List (κ×Value)}(r:KV aN vs)(k:κ):rY (nZ aN k) (valueAt vs k):=by
 unfold KV at r;induction r with
 |nil=>exact True.intro
 |@cons p q ps qs h t ih=>
  let⟨h1,h2⟩:=h;by_cases e:p.1=k
  ·have e':q.1=k:=h1.symm.trans e
   have b:valueAt (q::qs) k=some q.2:=by simp[valueAt,abE,e']
   rw[mE e,b];exact h2
  ·have e':¬q.1=k:=λz=>e (h1.trans z)
   have b:valueAt (q::qs) k=valueAt qs k:=by simp[valueAt,abE,e']
   rw[jL e,b];exact ih
theorem KV.any{aN:List (κ×V)}{vs:List (κ×Value)}(r:KV aN vs)(k:κ):(aN.any λkv=>decide (kv.1=k))=vs.any λkv=>decide (kv.1=k):=by
 unfold KV at r;induction r with
 |nil=>rfl
 |cons h t ih=>rw[ab7,ab7,ih,h.1]
theorem KV.Lc{aN:List (κ×V)}{vs:List (κ×Value)}(r:KV aN vs)(k:κ)(ry:RelV y u):
  KV (aN.map λkv=>if kv.1=k then(kv.1,y)else kv) (vs.map λkv=>if kv.1=k then(kv.1,u)else kv):=by
 unfold KV at r ⊢;induction r with
 |nil=>exact .nil
 |@cons p q ps qs h t ih=>
  rw[aam,aam];exact .cons ?_ ih;let⟨h1,h2⟩:=h;by_cases e:p.1=k
  ·rw[aaA e,aaA (h1.symm.trans e)];exact⟨h1,ry⟩
  ·rw[aaz e,aaz (λz=>e (h1.trans z))];exact⟨h1,h2⟩
theorem KV.put{aN:List (κ×V)}{vs:List (κ×Value)}(r:KV aN vs)(k:κ)(ry:RelV y u):KV (putK aN k y) (stored vs k u):=by
 unfold putK stored;rw[r.any k];by_cases e:(vs.any λkv=>decide (kv.1=k))=true
 ·rw[aaA e,aaA e];exact r.Lc k ry
 ·rw[aaz e,aaz e];exact Paired.snoc r ⟨rfl,ry⟩
theorem KV.length{aN:List (κ×V)}{vs:List (κ×Value)}(r:KV aN vs):aN.length=vs.length:=ad4 r
end
theorem wW{k:Key}(r:RelV (kV k) u):(cH P w).is k u=true:=by
 cases k with
 |inl i=>let⟨t,e⟩:=(show ∃t,u=Value.int i t from r);subst e;exact wH P w i t
 |inr x=>let⟨t,e⟩:=(show ∃t,u=Value.str x t from r);subst e;exact wG P w x t
theorem tV{P:Program}{w:World}:∀{ks:List Key} {us:List Value},Vals (ks.map kV) us→ItemsAre (cH P w) ks us
 |[],_,r=>by rw[abJ]at r;cases r;exact .nil
 |k::ks,_,r=>by
  rw[aam]at r;cases r with
  |cons h t=>exact .cons (wW h) (tV t)
abbrev KT(H:Hp):List (List Key×V)→List (List Key×Addr×Value)→Prop:=Paired λp q=>p.1=q.1∧H q.2.1=some (.tup (p.1.map kV))∧RelV p.2 q.2.2
theorem KT.val(r:KT H aN xs)(k:List Key):rY (nZ aN k) ((atKey xs k).map (·.2)):=by
 induction r with
 |nil=>exact True.intro
 |@cons p q ps qs h t ih=>
  let⟨h1,_,h2⟩:=h;by_cases e:p.1=k
  ·have e':q.1=k:=h1.symm.trans e
   have b:atKey (q::qs) k=some q.2:=by simp[atKey,abE,e']
   rw[mE e,b];exact h2
  ·have e':¬q.1=k:=λz=>e (h1.trans z)
   have b:atKey (q::qs) k=atKey qs k:=by simp[atKey,abE,e']
   rw[jL e,b];exact ih
theorem KT.Lc(r:KT H aN xs)(k:List Key)(ry:RelV y u):
  KT H (aN.map λkv=>if kv.1=k then(kv.1,y)else kv) (xs.map (putAt k u)):=by
 induction r with
 |nil=>exact .nil
 |@cons p q ps qs h t ih=>
  rw[aam,aam];exact .cons ?_ ih;let⟨h1,h2,h3⟩:=h;unfold putAt;by_cases e:p.1=k
  ·rw[aaA e,aaA (h1.symm.trans e)];exact⟨h1,h2,ry⟩
  ·rw[aaz e,aaz (λz=>e (h1.trans z))];exact⟨h1,h2,h3⟩
theorem KT.put(r:KT H aN xs)(k:List Key){b:Addr}(hb:H b=some (.tup (k.map kV)))(ry:RelV y u):
  KT H (putK aN k y) (storedH xs k b u):=by
 have e:(aN.any λkv=>decide (kv.1=k))=(atKey xs k).isSome:=by
  rw[vP,(r.val k).BP,Option.isSome_map]
 unfold putK storedH;rw[e];by_cases q:(atKey xs k).isSome=true
 ·rw[aaA q,aaA q];exact r.Lc k ry
 ·rw[aaz q,aaz q];exact Paired.snoc r ⟨rfl,hb,ry⟩
theorem KT.keeps(r:KT H aN xs)(ht:∀b ys,H b=some (.tup ys)→H' b=some (.tup ys)):KT H' aN xs:=
 Paired.LX r λ_ _ z=>⟨z.1,ht _ _ z.2.1,z.2.2⟩
section
variable {h:Heap}
theorem Jq{u:HO}(ok:jJ P w H h)(e:Rd H a u):bS P w H h a u:=e.ok ok
theorem Fx{aN:List (Key×V)}(ok:jJ P w H h)(e:Rd H a (.dK aN)):aN.length≤sizeLine∧(a==sysModules)=false∧∃vs,KV aN vs∧h.DictOf (cH P w) a vs:=
 show bS P w H h a (.dK aN)from Jq ok e
theorem JP{aN:List (Key×V)}(ok:jJ P w H h)(e:H a=some (.dK aN)):aN.length≤sizeLine∧(a==sysModules)=false∧∃vs,KV aN vs∧h.DictOf (cH P w) a vs:=Fx ok (.inl e)
theorem zd{ks:List Key}(ok:jJ P w H h)(e:H a=some (.tup (ks.map kV))):(tupleKind (cH P w)).is h ks a:=by
 let⟨_,⟨its,r,⟨o,h1,h2,⟨n,h3⟩⟩⟩⟩:=(show bS P w H h a (.tup (ks.map kV))from ok a _ e);exact Ψ3 o its.toArray n ⟨h1,h2,h3,by simpa using tV r⟩
theorem Fw(ok:jJ P w H h)(e:Rd H a (.dT aN)):aN.length≤sizeLine∧(a==sysModules)=false∧
  ∃xs,KT H aN xs∧h.DictOfH (tupleKind (cH P w)) a xs:=by
 let⟨z,y,⟨xs,r,⟨o,es,ep,h1,h2,h3,h4,h5⟩⟩⟩:=(show bS P w H h a (.dT aN)from Jq ok e);exact⟨z,y,xs,r,o,es,ep,h1,h2,h3,h4,λx hx=>?_,h5⟩;have all:∀{l:List (List Key×V)} {m:List (List Key×Addr×Value)},KT H l m→∀x∈m,(tupleKind (cH P w)).is h x.1 x.2.1:=by
  intro l m q;induction q with
  |nil=>intro x hx;exact nomatch hx
  |@cons p q ps qs hq t ih=>
   intro x hx;rcases aah.mp hx with e|hx
   ·subst e
    exact zd ok (by rw[←hq.1];exact hq.2.1)
   ·exact ih x hx
 exact all r x hx
theorem QS(ok:jJ P w H h)(e:H a=some (.dT aN)):aN.length≤sizeLine∧(a==sysModules)=false∧
  ∃xs,KT H aN xs∧h.DictOfH (tupleKind (cH P w)) a xs:=Fw ok (.inl e)
end
def Cm(H:Hp)(a:Addr)(y:V)(r:Option V):Prop:=
 (∃aN k,Rd H a (.dK aN)∧y=kV k∧r=nZ aN k)∨∃aN k b,Rd H a (.dT aN)∧y=.ref b∧H b=some (.tup (k.map kV))∧r=nZ aN k
def F4(H:Hp)(a:Addr)(y v:V)(H':Hp):Prop:=
 (∃aN k,H a=some (.dK aN)∧y=kV k∧aN.length<sizeLine∧H'=upd H a (.dK (putK aN k v))) ∨
 ∃aN k b,H a=some (.dT aN)∧y=.ref b∧H b=some (.tup (k.map kV))∧aN.length<sizeLine∧H'=upd H a (.dT (putK aN k v))
theorem Cm.k{H:Hp}{a:Addr}{aN:List (Key×V)}{k:Key}(e:H a=some (.dK aN)):Cm H a (kV k) (nZ aN k):=.inl ⟨aN,k,.inl e,rfl,rfl⟩
theorem F4.k{H:Hp}{a:Addr}{aN:List (Key×V)}{k:Key}{v:V}(e:H a=some (.dK aN))(hl:aN.length<sizeLine):F4 H a (kV k) v (upd H a (.dK (putK aN k v))):=.inl ⟨aN,k,e,rfl,hl,rfl⟩
section
variable {r:Value}
theorem Inv.big(I:Inv X pins σ H s):sysModules<s.heap.objs.size:=by
 have h:mainGlobals<s.heap.objs.size:=(I.mod.glob.keeps I.bk).lt;exact Nat.lt_trans (by decide) h
theorem B3(hu:A.units+1<cLine)(I:Inv X pins σ H s)(g:Cm H a y (some v))(ry:RelV y u)(h:∀w' s',Inv X pins σ H s'→RelV v w'→Q w' s'):
  wpAny (model X.prog X.w) A (getItem (.ref a) u) Q E s:=by
 rcases g with⟨aN,k,e,ey,l⟩|⟨aN,k,b,e,ey,eb,l⟩
 ·subst ey
  let⟨z,hd,⟨vs,rel,dd⟩⟩:=Fx I.bp e;let⟨w',hw,qH⟩:=rY.some_of (v:=v) (o:=valueAt vs k) (by rw[l];exact rel.val k);exact wpAny_getItem_of (wW ry) dd.mapOf hw (h w' _ (I.tok _) qH)
 ·subst ey
  cases(show u=Value.ref b from ry);let⟨z,hd,⟨xs,rel,dd⟩⟩:=Fw I.bp e;let⟨w',hw,qH⟩:=rY.some_of (v:=v) (o:=(atKey xs k).map (·.2)) (by rw[l];exact rel.val k);let⟨p,hp,m5⟩:=ado.mp hw;exact wpAny_getItem_heap (tupleKind_room_in1 hu) (zd I.bp eb) dd hp ?_;rw[m5];exact h w' _ (I.tok _) qH
theorem u9{t':Nat}{ob:HO}(I:Inv X pins σ H s)(mu:Rh (H a))(hs:Heap.SameBut a s.heap h')(he:∃q,h'.get? a=some q)(new:bS X.prog X.w (upd H a ob) h' a ob):
  Inv X pins σ (upd H a ob) {s with heap:=h',toks:=t'}:=
 I.write (x:=a) (e:=a) mu (.inl rfl) (λb q hb z=>(hs.2 b hb).trans z) he new
theorem Fy{aN:List (Key×V)}{vs:List (Key×Value)}(z:aN.length≤sizeLine)(hd:(a==sysModules)=false)(rel:KV aN vs)(dd:h'.DictOf (cH P w) a vs):
  bS P w H' h' a (.dK aN):=⟨z,hd,vs,rel,dd⟩
theorem B2{Q:Unit→Shared→Prop}(hu:A.units+1<cLine)(I:Inv X pins σ H s)(g:F4 H a y v H')(ry:RelV y u)(rv:RelV v r)(h:∀s',Inv X pins σ H' s'→Q () s'):
  wpAny (model X.prog X.w) A (setItem (.ref a) u r) Q E s:=by
 rcases g with⟨aN,k,e,ey,l,eH⟩|⟨aN,k,b,e,ey,eb,l,eH⟩
 ·subst ey eH
  let⟨z,hd,⟨vs,rel,dd⟩⟩:=JP I.bp e;have hz:vs.length≤sizeLine:=by rw[←rel.length];exact z
  have hl:(putK aN k v).length≤sizeLine:=by have:=ke aN k v;lia
  exact wpAny_setItem_pairs (hsz:=hz) (wW ry) dd λh' MN hs=>h _ ?_;have he:∃q,h'.get? a=some q:=let⟨q,_,_,hq,_⟩:=MN;⟨q,hq⟩
  exact u9 I (by rw[e];exact True.intro) hs he (Fy hl hd (rel.put k rv) MN)
 ·subst ey eH
  cases(show u=Value.ref b from ry);let⟨z,hd,⟨xs,rel,dd⟩⟩:=QS I.bp e;have hz:xs.length≤sizeLine:=by rw[←ad4 rel];exact z
  have hl:(putK aN k v).length≤sizeLine:=by have:=ke aN k v;lia
  exact wpAny_setItem_heap (hsz:=hz) (tupleKind_room_in1 hu) (zd I.bp eb) dd λh' MN hs=>h _ ?_;let⟨q,es,ep,hq,h2,h3,h4,_,h5⟩:=MN;exact u9 I (by rw[e];exact True.intro) hs ⟨q,hq⟩ ⟨hl,hd,_,(rel.put k eb rv).keeps λc ys ec=>?_,q,es,ep,hq,h2,h3,h4,h5⟩;rw[ao (pk ec e (λz=>nomatch z))];exact ec
end
def M6(i:Expr):Prop:=∀ov iv,subscripted i false ov iv=operate [ov,iv] (getItem ov iv)
theorem GG{prog:Program}{env:Env}{slice:Expr}{T id:String}
  (hl:typeLookup (.type T) "__getitem__" = pure (some (.builtin id))) (hs:M6 slice)
  (h:wpAny (model prog w) A (eval value env) (λo s₁=>wpAny (model prog w) A (eval slice env) (λi s₂=>s₂.TypeIs o T∧wpAny (model prog w) A (getItem o i) Q E s₂) E s₁) E s) :
  wpAny (model prog w) A (eval (.Subscript value slice pos) env) Q E s:=by
 exact Subscript_ (aaB h (λo s₁ h₁=>aaB h₁ (λi s₂ h₂=>?_) λ_ _ x=>x) λ_ _ x=>x);obtain⟨hT,h₂⟩:=h₂;unfold subscriptTail;exact aaa ?_;rw[getitemInPython_of_ne hT.not_modules];exact aaa (abV hT hl ?_);have fin:wpAny (model prog w) A (subscripted slice false o i) (λr s₃=>wpAny (model prog w) A (letTemporaryGo value o r >>= λ_=>pure r) Q E s₃) E s₂:=by
  rw[hs o i];exact wpAny_operating (aaB h₂ (λr s₃ h₃=>aaa (wpAny_letTemporaryGo (aad h₃))) λ_ _ x=>x)
 first
  |exact aad (aaa fin)
  |exact aaa (aad (aaa fin))
  |exact aaa fin
theorem xB(I:Inv X pins σ H s)(g:Cm H a y o):s.TypeIs (.ref a) "dict" := by
 rcases g with⟨aN,k,e,_,_⟩|⟨aN,k,b,e,_,_,_⟩
 ·let⟨_,_,⟨vs,_,dd⟩⟩:=Fx I.bp e
  exact dd.typeIs
 ·let⟨_,_,⟨xs,_,dd⟩⟩:=Fw I.bp e
  exact dd.typeIs
def OI(td ty:TE):TE:=λσ H Q=>td σ H λx H1=>ty σ H1 λy H2=>∃a v,x=.ref a∧Cm H2 a y (some v)∧Q v H2
def OZ(td ty tv:TE):TS:=λD σ H=>tv σ H λv H1=>td σ H1 λx H2=>ty σ H2 λy H3=>∃a H4,x=.ref a∧F4 H3 a y v H4∧D.nx σ H4
section
variable {o i:Expr}{pos':Pos}{td ty tv:TE}
theorem Hi(hu:X.A.units+1<cLine)(ho:PE X o td)(hi:PE X i ty)(hs:M6 i):PE X (.Subscript o i pos) (OI td ty):=by
 exact .mk ?_;intro pins s σ H Q I h;exact GG PySem.F.slot_dict_getitem.lookup hs (bD (ho pins s σ H _ I h) λu s1 ξ=>Ξ23 ξ λx H1 I1 rx q1=>bD (hi pins s1 σ H1 _ I1 q1) λiv s2⟨y,H2,I2,ry,a,v,ex,g,q2⟩=>?_);subst ex;obtain rfl:u=Value.ref a:=rx;exact⟨xB I2 g,B3 hu I2 g ry λw' s3 I3 qH=>Ψ2 v H2 ⟨I3,qH,q2⟩⟩
theorem Ha(hu:X.A.units+1<cLine)(ho:PE X o td)(hi:PE X i ty)(hv:PE X value tv)(hs:swapsWith value (some (.Subscript o i pos')) pos.line X.env=pure false):
  PS X (.Assign [.Subscript o i pos'] value pos) (OZ td ty tv):=by
 exact .mk ?_;intro pins s σ H D I h;exact wpAny_Assign_Subscript (bD (hv pins s σ H _ I h) λr s1 ξ=>Ξ23 ξ λv H1 I1 rv q1=>bD (ho pins s1 σ H1 _ I1 q1) λu s2 ξ=>Ξ23 ξ λx H2 I2 rx q2=>bD (hi pins s2 σ H2 _ I2 q2) λiv s3⟨y,H3,I3,ry,a,H4,ex,g,q3⟩=>?_) hs;subst ex;obtain rfl:u=Value.ref a:=rx;exact B2 hu I3 g ry rv λs4 I4=>Ψ2 σ H4 ⟨I4,q3⟩
end
theorem Fz(h:Heap)(hb:sysModules<h.objs.size):bS P w H (h.push {cls:=.type "dict",data:=.dict #[]}) h.objs.size (.dK []):=
 ⟨aaE _,acK.mpr (abM (aaw hb)),[],.nil,Heap.DictOf.new h⟩
structure M1(X:Cx)(o:Expr)(m:Str)(apos:Pos)(e:Expr)(dy:Pos):Prop where
 base:attributeBase o m X.env (eval o X.env)=eval o X.env
 Z9:((backTo dy (starEach [e] X.env)).all (λx=>!x.1)&&(backToKw dy (keywordEach [] X.env)).all (λx=>x.1.isSome)
  && decide (([e]:List Expr).length+([]:List Keyword).length+(if([]:List Keyword).isEmpty then 0 else 1)<30))=true
 line:(apos.endLine==dy.line)=true
 trees:backTo dy (starEach [e] X.env)=[(false,eval e X.env)]
structure M2(X:Cx)(o:Expr)(m:Str)(apos:Pos)(e f:Expr)(dy:Pos):Prop where
 base:attributeBase o m X.env (eval o X.env)=eval o X.env
 Z9:((backTo dy (starEach [e,f] X.env)).all (λx=>!x.1)&&(backToKw dy (keywordEach [] X.env)).all (λx=>x.1.isSome)
  && decide (([e,f]:List Expr).length+([]:List Keyword).length+(if([]:List Keyword).isEmpty then 0 else 1)<30))=true
 line:(apos.endLine==dy.line)=true
 trees:backTo dy (starEach [e,f] X.env)=[(false,eval e X.env),(false,eval f X.env)]
end L2
namespace L2
open PySem PySem.Spec PyProof.Rows
section
variable {κ:Type}[DecidableEq κ]
end
end L2
namespace L3
open PySem PySem.Spec L2
open PyProof.Rows hiding St
variable {H:Hp}{v:V}{o i:Expr}{td ty:E3}{pos:Pos}
def kT:Key→T
 |.inl i=>.int i
 |.inr z=>.str z
theorem Fd{k:Key}(h:R H v (kT k)):v=kV k:=by
 cases k with
 |inl i=>exact bG h
 |inr z=>exact c4 h
def gJ(aN:List (Key×T))(k:Key):Option T:=(aN.find? λkv=>decide (kv.1=k)).map (·.2)
def jZ(aN:List (Key×T))(k:Key)(v:T):List (Key×T):=
 if(aN.any λkv=>decide (kv.1=k))=true then aN.map (λkv=>if kv.1=k then(kv.1,v)else kv)else aN++[(k,v)]
section
theorem Ks.len:∀{us:List (Key×V)} {aN:List (Key×T)},Ks H us aN→us.length=aN.length
 |_,_,.nil=>rfl
 |_,_,.cons a b=>by rw[aap,aap,Ks.len b]
theorem Ks.val:∀{us:List (Key×V)} {aN:List (Key×T)} (k:Key),Ks H us aN→(nZ us k=none∧gJ aN k=none)∨∃v t,nZ us k=some v∧gJ aN k=some t∧R H v t
 |_,_,k,.nil=>.inl ⟨rfl,rfl⟩
 |(k1,v)::us,(k2,t)::aN,k,.cons a b=>by
  let⟨e,r⟩:=a;have e:k1=k2:=e;subst e;by_cases h:k1=k
  ·exact .inr ⟨v,t,mE h,by simp[gJ,abE,h],r⟩
  ·rcases Ks.val k b with⟨x,y⟩|⟨v',t',x,y,r'⟩
   ·exact .inl ⟨by rw[jL h];exact x,by rw[show gJ ((k1,t)::aN) k=gJ aN k by simp[gJ,abE,h]];exact y⟩
   ·exact .inr ⟨v',t',by rw[jL h];exact x,by rw[show gJ ((k1,t)::aN) k=gJ aN k by simp[gJ,abE,h]];exact y,r'⟩
theorem Ks.any:∀{us:List (Key×V)} {aN:List (Key×T)} (k:Key),Ks H us aN→(us.any λkv=>decide (kv.1=k))=(aN.any λkv=>decide (kv.1=k))
 |_,_,k,.nil=>rfl
 |(k1,v)::us,(k2,t)::aN,k,.cons a b=>by
  let⟨e,r⟩:=a;have e:k1=k2:=e;subst e;rw[ab7,ab7,Ks.any k b]
theorem Ks.map:∀{us:List (Key×V)} {aN:List (Key×T)} {v:V} {t:T} (k:Key),R H v t→Ks H us aN→Ks H (us.map λkv=>if kv.1=k then(kv.1,v)else kv) (aN.map λkv=>if kv.1=k then(kv.1,t)else kv)
 |_,_,v,t,k,r,.nil=>.nil
 |(k1,v1)::us,(k2,t1)::aN,v,t,k,r,.cons a b=>by
  let⟨e,r1⟩:=a;have e:k1=k2:=e;subst e;rw[aam,aam];by_cases h:k1=k
  ·rw[aaA h,aaA h];exact .cons ⟨rfl,r⟩ (Ks.map k r b)
  ·rw[aaz h,aaz h];exact .cons ⟨rfl,r1⟩ (Ks.map k r b)
theorem Ks.snoc:∀{us:List (Key×V)} {aN:List (Key×T)} {v:V} {t:T} (k:Key),R H v t→Ks H us aN→Ks H (us++[(k,v)]) (aN++[(k,t)])
 |_,_,v,t,k,r,.nil=>.cons ⟨rfl,r⟩ .nil
 |_::_,_::_,v,t,k,r,.cons a b=>.cons a (Ks.snoc k r b)
theorem Ks.put{us:List (Key×V)}{aN:List (Key×T)}{t:T}(k:Key)(r:R H v t)(h:Ks H us aN):Ks H (putK us k v) (jZ aN k t):=by
 unfold putK jZ;rw[h.any k];split
 ·exact h.map k r
 ·exact h.snoc k r
end
section
variable {X:Cx}{E:St→XK}
def JM(td ty:E3):E3:=λY τ Γ Z=>td Y τ Γ λx Γ1=>ty Y τ Γ1 λy Γ2=>∃a aN k v,x=.ref a∧y=kT k∧Γ2 a=some (.dK aN)∧gJ aN k=some v∧Z v Γ2
theorem Ag(hu:X.A.units+1<cLine)(ho:PE X o (bH E td))(hi:PE X i (bH E ty))(hs:M6 i:=by exactλ_ _=>rfl):PE X (.Subscript o i pos) (bH E (JM td ty)):=
 cK (Hi hu ho hi hs) λσ H Q τ Γ Y Z rs hr t vr xr=>by
  exact Ψ4 τ Γ Y _ ⟨rs,hr,t,λv x H1 Γ1 s1 h1 r1 z1=>?_,xr⟩;exact Ψ4 τ Γ1 Y _ ⟨rs.mono s1.tq,h1,z1,λw y H2 Γ2 s2 h2 r2 z2=>?_,xr.mono s1⟩;let⟨a,aN,k,u,rfl,rfl,g,l,z⟩:=z2;let⟨us,hu,q⟩:=h2 a _ g;rcases q.val k with⟨_,y⟩|⟨v',t',x',y',r'⟩
  ·rw[l]at y;cases y
  rw[l]at y';cases y';exact Ψ2 a v' ⟨bZ r1,?_,vr v' u H2 Γ2 (s1.trans s2) h2 r' z⟩;rw[Fd r2,←x'];exact Cm.k hu
def JU(td ty tv:E3):C3:=λY D τ Γ=>tv Y τ Γ λv Γ1=>td Y τ Γ1 λx Γ2=>ty Y τ Γ2 λy Γ3=>∃a aN k,x=.ref a∧y=kT k∧Γ3 a=some (.dK aN)∧aN.length<sizeLine∧D.nx τ (up Γ3 a (.dK (jZ aN k v)))
theorem G1{value:Expr}{tv:E3}{pos':Pos}(hu:X.A.units+1<cLine)(ho:PE X o (bH E td))(hi:PE X i (bH E ty))(hv:PE X value (bH E tv))(hs:swapsWith value (some (.Subscript o i pos')) pos.line X.env=pure false:=by rfl):PS X (.Assign [.Subscript o i pos'] value pos) (mw E (JU td ty tv)):=
 gH (Ha hu ho hi hv hs) λD σ H τ Γ Y Z rs hr t dr xr=>by
  exact Ψ4 τ Γ Y _ ⟨rs,hr,t,λv v3 H1 Γ1 s1 h1 r1 z1=>?_,xr⟩;exact Ψ4 τ Γ1 Y _ ⟨rs.mono s1.tq,h1,z1,λx x3 H2 Γ2 s2 h2 r2 z2=>?_,xr.mono s1⟩;exact Ψ4 τ Γ2 Y _ ⟨rs.mono (s1.trans s2).tq,h2,z2,λy y3 H3 Γ3 s3 h3 r3 z3=>?_,xr.mono (s1.trans s2)⟩;let⟨a,aN,k,rfl,rfl,g,l,z⟩:=z3;let⟨us,hu,q⟩:=h3 a _ g;have VO:=(s1.trans s2).trans s3;have st:eW H3 Γ3 (upd H3 a (.dK (putK us k v))) (up Γ3 a (.dK (jZ aN k v3))):=eW.set h3 g;exact Ψ2 a _ ⟨bZ r2,by rw[Fd r3];exact F4.k hu (by rw[q.len];exact l),?_⟩;have tq:Tq H3 (upd H3 a (.dK (putK us k v))):=jg hu ⟨λ_ z=>(nomatch z),λ_ _ z=>(nomatch z)⟩;exact dr.nx _ _ _ _ (VO.trans st) (h3.set g ⟨_,ar,(q.put k (r1.mono (s2.trans s3).tq)).mono tq⟩) (rs.mono (VO.trans st).tq) z
end
end L3
namespace Sr
open PySem PyProof.Rows
section
variable {Kk:Type}[DecidableEq Kk]
end
end Sr
namespace Sr
open PySem PyProof.Rows
section
variable {K:Type}[DecidableEq K]
end
section
variable {K:Type}[DecidableEq K]
end
end Sr
namespace Sr
open PySem PyProof.Rows
section
variable {Kk:Type}[DecidableEq Kk]
end
end Sr
namespace Sr
open PySem PyProof.Rows
abbrev rv(out:Array Keyed):List Keyed:=out.toList.reverse
end Sr
namespace Sr
open PySem PyProof.Rows
section
variable {Kk:Type}[DecidableEq Kk]
end
end Sr
namespace L3
open PySem PySem.Spec L2
variable {oc kV doc pm cy ct:Value}{od an:Option Addr}{yQ:Array (Option Value)}{x:Str}
def kz(zs:List Str)(xs:List T):List (Key×T):=(zs.map Sum.inr).zip xs
section
variable {P:Program}{w:World}{K:W.Frag}{mg:ac}{am h:Heap}{q:Str}{st:Stmt}{f:Addr}{fd:FuncData}{ps:List Str}{n:Nat}{sp:Sp}
structure Dg(K:W.Frag)(x:Str)(st:Stmt)(f:Addr)(fd:FuncData):Prop where
 a:W.nsIn K mainGlobals x=some (some (.ref f))
 F:dP K x x st f fd
theorem dg(a:W.nsIn K mainGlobals x=some (some (.ref f)))(l:K.lookup f=some ⟨oc,od,.func (W.fnOf x x (gy st) (c9 st) (av st) .none kV doc pm an cy ct),yQ⟩)(c:W.codeIn K cy x=true)(k:W.keepIn K (.ref f)=true):Dg K x st f (W.fnOf x x (gy st) (c9 st) (av st) .none kV doc pm an cy ct):=⟨a,Fl l c k⟩
structure Df(K:W.Frag)(mg:ac)(x:Str)(st:Stmt)(ps:List Str)(f:Addr)(fd:FuncData):Prop where
 F:dP K x x st f fd
 m:mg x=some (.ref f)
 k:W.keepIn K (.ref f)=true
 b:Binds K fd ps []
theorem Dg.df(d:Dg K x st f fd)(X:K.In h)(G:h.Ns mainGlobals mg)(hb:∀(kV doc pm:Value) (an:Option Addr) (cy ct:Value) (us:List Value),us.length=ps.length→bindArgs (W.fnOf x x (gy st) (c9 st) (av st) .none kV doc pm an cy ct) ⟨us,[]⟩=pure (ps.zip us)):Df K mg x st ps f fd:=⟨d.F,aaZ X G d.a,d.F.kp,d.F.binds hb⟩
theorem Df.cl(d:Df K mg x st ps f fd)(o:bq P w K mg am fE n f fd ps sp):Callee P w K mg am x n ps sp:=Ψ2 f fd ⟨o,d.m,d.k,d.b⟩
theorem Df.cx(d:Df K mg x st ps f fd)(o:bq P w K mg am (qf P w) n f fd ps sp):vA P w K mg am x n ps sp:=Ψ2 f fd ⟨o,d.m,d.k,d.b⟩
def Zs(K:W.Frag):List Str→Prop
 |[]=>True
 |x::l=>W.nsIn K mainGlobals x=some none∧Zs K l
def Zm(mg:ac):List Str→Prop
 |[]=>True
 |x::l=>mg x=none∧Zm mg l
theorem Zs.m(X:K.In h)(G:h.Ns mainGlobals mg):∀{l:List Str},Zs K l→Zm mg l
 |[],_=>trivial
 |_::_,⟨a,b⟩=>⟨W.mg_none_of X G a,Zs.m X G b⟩
theorem zc{l:List Str}(a:W.nsIn K mainGlobals x=some none)(b:Zs K l):Zs K (x::l):=⟨a,b⟩
structure Dm(K:W.Frag)(c:Addr)(m q:Str)(st:Stmt)(f:Addr)(fd:FuncData):Prop where
 t:Meth K c m f
 F:dP K m q st f fd
theorem dm{c:Addr}{m:Str}(a:W.findIn K (.ref c) m=some (some (.ref f)))(l:K.lookup f=some ⟨oc,od,.func (W.fnOf m q (gy st) (c9 st) (av st) .none kV doc pm an cy ct),yQ⟩)(cd:W.codeIn K cy q=true)(k:W.keepIn K (.ref f)=true)(i:W.isFn K (.ref f)=true):Dm K c m q st f (W.fnOf m q (gy st) (c9 st) (av st) .none kV doc pm an cy ct):=⟨⟨a,i,k⟩,Fl l cd k⟩
end
end L3
namespace L2
open PySem PySem.Spec PyProof.Rows PySem.W
variable {base:Heap}{outer:List Env}{e C:Addr}{cls a0 fl:Value}{Q:Unit→Shared→Prop}{Nc:List Str}{fp:List Addr}{pins:ad}{σ:St}{H H2:Hp}{s s2:Shared}{A:Around}{scope:Scope}
def F5(base:Heap)(l:List Env)(e:Addr)(cls a0 fl:Value)(h:Heap):Prop:=base.StaysIn h∧base.get? e=none∧h.FunFrames base l∧h.TracedAtW base e cls a0 fl
section
variable {M:Model}{E:xz}
theorem wN{env:Env}{L:Addr}
  (Ff:A.frames=some (env::outer)) (hf:env.frame=some L) (hh:F5 base (env::outer) e cls a0 fl s.heap)
  (hQ:∀h',Heap.FlyingW base outer e cls a0 h'→s.heap.UpToSlots h'→Q () {s with heap:=h'}):wpAny M A (leaving env (.ref e)) Q E s:=by
 let⟨f1,f2,f3,f4⟩:=hh;by_cases ef:(fl==rawInt L)=true
 ·have ef:fl=rawInt L:=by simpa using ef
  subst ef;unfold leaving;exact aaa (wpAny_noteFrame_againW hf f4 ?_);exact wpAny_landsW ⟨f1,f2,f3,f4⟩ λh' RM hs=>?_;let⟨k1,k2,⟨_,_,k3⟩,k4⟩:=RM;exact hQ h' ⟨k1,k2,k3,k4⟩ hs
 ·let⟨oe,vs,T,oT,ts,he,⟨sQ,h0⟩,hd,h1,Ml,Nt,hT,yb,h3⟩:=f4
  subst sQ;unfold leaving noteFrame;simp only[hf];exact aaa (aaa (aaO he hd h1 ?_));rw[aaA (show(Value.ref T != Value.none)=true from by simp)];exact aaa (aaO hT yb h3 ?_);rw[aaz ef];exact aaa (adS hT yb (acQ.mp h3).1 ?_);have other:∀b,b≠T→(s.heap.update T (Obj.mapFields (·.setIfInBounds 3 Value.none))).get? b=s.heap.get? b:=λb hb=>aaF _ _ (abM hb);have j6:∀b o,s.heap.get? b=some o→(∀vs,o.data≠.fields vs)→b≠T:=λb o hb Cs q=>by
   rw[q,hT]at hb;injection hb with hb;subst hb;exact Cs ts yb
  exact wpAny_newEntryW Ff (f3.of_keeps λb o hb Cs=>⟨o,(other b (j6 b o hb Cs)).trans hb,rfl⟩) hf ((other e (abM Nt)).trans he)
   (λb o Mv=>(other b λq=>by rw[q,Ml]at Mv;cases Mv).trans (f1 b o Mv)) f2 hd (acQ.mp h1).1 h0
   λh' ⟨x1,⟨_,_,x2⟩,x3,x4⟩=>hQ h' ⟨x1,f2,x2,x3⟩ λb o hb Cs=>x4 b o ((other b (j6 b o hb Cs)).trans hb) Cs
theorem sr{l:List Env}{fr:Option Addr}(R:F5 base l e cls a0 fl s.heap)
  (h:∀h',F5 base l e cls a0 (fr.elim Value.none λf=>rawInt f) h'→s.heap.UpToSlots h'→Q () {s with heap:=h'}):wpAny M A (setFlight (.ref e) fr) Q E s:=by
 let⟨Y1,Y9,hl,⟨oe,vs,T,oT,ts,he,sQ,hd,h1,Ml,Nt,hT,yb,h3⟩⟩:=R;have Qa:3<ts.size:=(acQ.mp h3).1;have other:∀b,b≠T→(s.heap.update T (Obj.mapFields (·.setIfInBounds 3 (fr.elim Value.none λf=>rawInt f)))).get? b=s.heap.get? b:=
  λb hb=>aaF _ _ (abM hb)
 have j6:∀b o,s.heap.get? b=some o→(∀vs,o.data≠.fields vs)→b≠T:=λb o hb Cs q=>by
  rw[q,hT]at hb;injection hb with hb;subst hb;exact Cs ts yb
 unfold setFlight;exact aaa (aaO he hd h1 ?_);rw[aaA (show(Value.ref T != Value.none)=true from by simp)];exact adS hT yb Qa (h _ ⟨λb o Mv=>(other b λq=>by rw[q,Ml]at Mv;cases Mv).trans (Y1 b o Mv),Y9,
  hl.of_keeps λb o hb Cs=>⟨o,(other b (j6 b o hb Cs)).trans hb,rfl⟩,?_⟩ λb o hb Cs=>⟨o.slots,(other b (j6 b o hb Cs)).trans hb⟩)
 exact Ψ5 oe vs T _ _ ⟨(other e (abM Nt)).trans he,sQ,hd,h1,Ml,Nt,abt _ hT (Obj.isFreed_of_fields (adi yb _)),adi yb _,by simp[Qa]⟩
end
structure UnC(c:Addr)(fs:List Addr)(H H':Hp)(h B h':Heap):Prop where
 keep:∀b o,b≠c→h.get? b=some o→H b=none→b∉fs→B.get? b=some o
 slot:∀b o,h.get? b=some o→H b=none→b∈fs→∃sl,h'.get? b=some {o with slots:=sl}
 free:∀b o,h.get? b=some o→H b=none→H' b=none
 there:∀b o,b≠c→h.get? b=some o→b∉fs→∃o',B.get? b=some o'
 gc:∀b xs,H b=some (.tup xs)→H' b=some (.tup xs)
 fW:∀b o u,H b=some (.frz o u)→H' b=some (.frz o u)
 fL:∀b ps,H b=some (.tbl ps)→∃more,H' b=some (.tbl (ps++more))
def F1(X:Cx)(EE:XK):Prop:=∀(pins:ad) (σ:St) (H:Hp) (s:Shared) (x:Addr) (C0 a0 fl:Value) (H':Hp) (B:Heap) (c:Addr) (s':Shared),Inv X pins σ H s→X.s₀.heap.objs.size≤c→s'.os=s.os→AllBare s'.gens→F5 B X.stack x C0 a0 fl s'.heap→jJ X.prog X.w H' B→UnC c (me X.stack) H H' s.heap B s'.heap→EE C0 none H'→X.xe (.ref x) s'
section
variable {P:Program}{w:World}{K:W.Frag}{mg:ac}{N:List Str}{qual:Str}{f:Addr}{cd:Value}{E:XK}
theorem wt:F1 (Gn P w K mg base N qual scope f cd A outer s H E) E:=by
 intro pins σ H1 s1 x C a0 fl H' B c s2 I hc os bare an bp u hE;show wpAny (model P w) (A.deeper (envOfC qual scope s.heap.objs.size f cd)) (leaving (envOfC qual scope s.heap.objs.size f cd) (.ref x)) (λ_ nO=>qf P w outer H s E (.ref x) nO) (λe' nO=>qf P w outer H s E e' nO) s2
 have nc:∀{b:Addr} {o:Obj},s.heap.get? b=some o→b≠c:=λ{b o} e z=>by
  have hc:s.heap.objs.size≤c:=hc;exact absurd (aau (aak e) hc) (by rw[z];exact abo _)
 exact wN I.ok.frames rfl an λh2 f2 up=>?_;exact Ψ5 x C a0 H' B ⟨rfl,os.trans I.os,bare,f2,bp,⟨λb o q n hb=>?_,λb o q n hb=>?_,λb o q n=>?_,λb o q hb=>?_,λb xs q=>u.gc b xs (I.base.gc b xs q),λb o v q=>u.fW b o v (I.base.fW b o v q),λb ps q=>?_⟩,hE⟩
 ·exact u.keep b o (nc q) (I.base.keep b o q n hb (by exact aao)) (I.base.free b o q n (by exact aao)) (eV I q hb)
 ·let⟨sl,z⟩:=I.base.slot b o q n hb (by exact aao)
  have hm:b∈me (envOfC qual scope s.heap.objs.size f cd::outer):=by
   let⟨zt,he,ha⟩:=abm.mp hb;exact abm.mpr ⟨zt,aaJ _ he,ha⟩
  let⟨F7,z2⟩:=u.slot b _ z (I.base.free b o q n (by exact aao)) hm;let⟨OW,z3⟩:=up b _ z2 (have fd:=mh I q hb;λvs=>fd vs);exact⟨OW,z3⟩
 ·let⟨o',z⟩:=I.base.there b o q (by exact aao)
  exact u.free b o' z (I.base.free b o q n (by exact aao))
 ·let⟨o',z⟩:=I.base.there b o q (by exact aao)
  exact u.there b o' (nc q) z (eV I q hb)
 ·let⟨m1,z1⟩:=I.base.fL b ps q
  let⟨m2,z2⟩:=u.fL b _ z1;exact⟨m1++m2,by rw[z2,acZ]⟩
end
section
variable {X:Cx}{cl:List (Str×Addr)}{own:List Str}{cap:List (Nat×Str)}{tg iter elt:Expr}{ifs:List Expr}{wi:TI}{g:TG}{tc:TT}{te:TE}{pos:Pos}{EE:XK}
theorem zf{s0:Shared}{H0:Hp}{E1 E2:xz}(I:Inv (aQ X Nc scope cl C s0 H0 fp E1) pins σ H s):Inv (aQ X Nc scope cl C s0 H0 fp E2) pins σ H s:=
 ⟨⟨I.ok.mod,I.ok.kind,I.ok.glob,I.ok.blt,I.ok.above,I.ok.inj,I.ok.has,I.ok.IE,I.ok.hd,I.ok.frames,I.ok.Jc,I.ok.Gm,I.ok.bs,I.ok.Cw,I.ok.uP,I.ok.pQ,I.ok.ku,I.ok.Fm⟩,I.os,I.bare,I.base,I.loc,I.cell,I.free,I.fh,I.pin,I.bp,I.len⟩
theorem rE{B h h2:Heap}{C:Addr}(sb:Heap.SameBut C h h2):∀{l:List Env},h.FunFrames B l→C∉me l→h2.FunFrames (hideAll B [C]) l
 |[],_,_=>trivial
 |env::r,⟨hk,⟨L,o,hf,hn,ho,hd⟩,hr⟩,nc=>by
  have nL:L≠C:=λz=>nc (abm.mpr ⟨env,aa5,by rw[hf,z]⟩);exact⟨hk,Ψ2 L o ⟨hf,?_,(sb.2 L nL).trans ho,hd⟩,rE sb hr λz=>nc ?_⟩
  ·cases e:(hideAll B [C]).get? L with
   |none=>rfl
   |some u=>rw[of_hideAll _ e]at hn;cases hn
  ·let⟨e',he,ha⟩:=abm.mp z
   exact abm.mpr ⟨e',aaJ _ he,ha⟩
def Sb(X:Cx)(Nc:List Str)(scope:Scope)(cl:List (Str×Addr))(C:Addr)(s0:Shared)(H0:Hp)(fp:List Addr)(EE:XK):xz:=λe s'=>∃(pins:ad) (σ:St) (H:Hp) (s:Shared),Inv (aQ X Nc scope cl C s0 H0 fp λ_ _=>False) pins σ H s∧qf X.prog X.w X.stack H s EE e s'
theorem FH{use:Option (Value→Sem Unit)}{Q:xz}{acc e:Value}{s':Shared}(kN:X.stack=X.env::X.outer∧X.env.frame=some X.env.locals)(hp:F1 X EE)
  (I2:Inv X pins σ H2 s2) (f2:∀b∈fp,eG X pins H2 b) (hC:s2.heap.objs.size≤C) (hx:Sb X Nc scope cl C s2 H2 fp EE e s') :
  notedBy (model X.prog X.w) X.A (compEnvC scope cl C X.env) (λe s'=>compPost (model X.prog X.w) X.A X.xe use Q acc C (.error e) s') e s':=by
 let⟨VU,σ3,H3,s3,I3,⟨x,C0,a0,H',B,rfl,os,bare,fl,bp,u,hE⟩⟩:=hx;let⟨I3x,_⟩:=hU I2 f2 hC I3;let⟨m,hm,_⟩:=I3.loc;have hm:s3.heap.Ns C m:=hm;have W4:H3 C=none:=I3.free;have TY:C∉me X.stack:=λz=>by
  let⟨_,⟨o,ho,_⟩⟩:=I2.stack.mem z;exact absurd (aau (aak ho) hC) (abo _)
 let⟨oC,es,ep,gC,dC,nC⟩:=id hm;have bC:B.get? C=some oC:=u.keep C oC gC W4 TY;have fC:H' C=none:=u.free C oC gC W4;have mC:s'.heap.Ns C m:=Ψ3 oC es ep ⟨fl.1 C oC bC,dC,nC⟩;have Z6:=fl.2.2.1;show wpAny _ X.A (noteFrame (.ref x) X.env) _ _ s'
 rw[kN.1]at fl;exact wpAny_looks_onW (by rw[I2.ok.frames,kN.1]) kN.2 fl λh1 hh up=>?_;rw[←kN.1]at hh;have Wd:=up.ns mC;exact⟨m,Wd,λh2 sb sW hcv=>?_⟩;let⟨oC1,es1,ep1,W0,Xd,_⟩:=Wd;have of2:∀{b:Addr} {o:Obj},(hideAll B [C]).get? b=some o→b≠C∧B.get? b=some o:=λ{b o} e=>by
  exact⟨λz=>?_,of_hideAll _ e⟩;rw[z,hideAll_none [C] (by simp)]at e;cases e
 have to2:∀{b:Addr} {o:Obj},b≠C→B.get? b=some o→(hideAll B [C]).get? b=some o:=λ{b o} n e=>hideAll_get _ e (by simpa using n);have Xg:F5 (hideAll B [C]) X.stack x C0 a0 (rawInt X.env.locals) h2:=by
  let⟨q1,q2,q3,⟨oe,vs,T,oT,ts,he,sQ,hd,Ut,Ml,Nt,hT,yb,h3⟩⟩:=hh;have nx:x≠C:=λz=>by rw[z,W0]at he;injection he with he;subst he;rw[Xd]at hd;cases hd
  have nT:T≠C:=λz=>by rw[z,W0]at hT;injection hT with hT;subst hT;rw[Xd]at yb;cases yb
  exact⟨λb o e=>(sb.2 b (of2 e).1).trans (q1 b o (of2 e).2),?_,rE sb q3 TY,oe,vs,T,oT,ts,(sb.2 x nx).trans he,sQ,hd,Ut,?_,Nt,(sb.2 T nT).trans hT,yb,h3⟩
  ·cases e:(hideAll B [C]).get? x with
   |none=>rfl
   |some o=>rw[(of2 e).2]at q2;cases q2
  ·cases e:(hideAll B [C]).get? T with
   |none=>rfl
   |some o=>rw[(of2 e).2]at Ml;cases Ml
 unfold PySem.passOn;let⟨_,_,_,⟨oe,vs,T,oT,ts,he,sQ,hd,Ut,_⟩⟩:=id Xg;exact aaa (aaO he hd Ut ?_);rw[aaz (show ¬((Value.ref T==Value.none)=true)from by simp)];have fin:wpAny (model X.prog X.w) X.A (setFlight (.ref x) sW.frame) (λ_ nO=>wpAny (model X.prog X.w) X.A (throw (.ref x):Sem Value) (λ_ _=>False) X.xe nO) X.xe {s' with heap:=h2}:=by
  exact sr (s:={s' with heap:=h2}) Xg λh3 an3 Xr=>wpAny_throw ?_;exact hp pins σ H3 s3 x C0 a0 _ H' (hideAll B [C]) C {s' with heap:=h3} I3x (aaG I2.sz hC) os bare an3 (λa o q=>(bp a o q).fM (λb v hb z=>to2 (λe=>?_) z) (λ_ z=>z) λ_ _ z=>z) ⟨λb o n e h n2=>to2 n (u.keep b o e h n2),λb o e h hb=>?_,u.free,λb o n e n2=>?_,u.gc,u.fW,u.fL⟩ hE
  ·subst e
   rcases hb with e|e
   ·rw[←e,fC]at q;cases q
   ·rw[fC]at e;cases e
  ·let⟨sl,z⟩:=u.slot b o e h hb
   let⟨_,⟨o',m6,nd⟩⟩:=Z6.mem hb;rw[z]at m6;injection m6 with m6
   subst m6;let⟨sl1,z1⟩:=up b _ z nd;have nb:b≠C:=λy=>TY (y ▸ hb);let⟨OW,z3⟩:=Xr b _ ((sb.2 b nb).trans z1) nd;exact⟨OW,z3⟩
  ·let⟨o',z⟩:=u.there b o e n2
   exact⟨o',to2 n z⟩
 first
  |exact aaa (aad (aaa fin))
  |exact aaa fin
theorem xF{it:Addr}{tn:Nat→Heap→Prop}{J:It}{Q:VK}{E':xz}(kN:X.stack=X.env::X.outer∧X.env.frame=some X.env.locals)(hp:F1 X EE)
  (c:cV X scope cl own cap) (hc:X.calm=true)
  (hg:∀C s H fp,PG (aQ X (own++cap.map (·.2)) scope cl C s H fp λ_ _=>False) tg g) (ht:∀C s H fp,pG (aQ X (own++cap.map (·.2)) scope cl C s H fp λ_ _=>False) ifs tc)
  (he:∀C s H fp E1,nF (aQ X (own++cap.map (·.2)) scope cl C s H fp E1) (λ_=>EE)→PE (aQ X (own++cap.map (·.2)) scope cl C s H fp E1) elt te)
  (I2:Inv X pins σ H2 s2) (T:Turn X.prog X.w X.K tg J fp it tn) (nM:tn 0 s2.heap) (f2:∀b∈fp,eG X pins H2 b)
  (hw:∀D,H2 D=none→∃W:Nat→Nat→St→List V→Hp→Prop,(∃m,W 0 m (da own cap σ) [] (upd H2 D (.lst [])))∧∀i m σ' ys H',W i m σ' ys H'→H' D=some (.lst ys)∧
   ((J.stop i H'∧Q (.ref D) H')∨(J.go i H'∧ys.length<sizeLine∧∃N:St→List V→Hp→Prop,(∀σ ys H,N σ ys H→∃m',m' < m∧W (i+1) m' σ ys H)∧∀x H2,J.nJ i H' x H2→g x σ' H2 λσ3 H3=>tc σ3 H3 λb H4=>if b=true then te σ3 H4 λy H5=>H5 D=some (.lst ys)∧N σ3 (ys++[y]) (upd H5 D (.lst (ys++[y])))
    else N σ3 ys H4))) :
  wpAny (model X.prog X.w) X.A (newList []) (λacc s₃=>wpAny (model X.prog X.w) X.A (newFunctionEnv scope X.env.globals cl [] X.env.qual none .none (some X.env)) (λsW s₄=>
   codeAny (model X.prog X.w) X.A (.compStart (.ListComp elt [⟨tg,iter,ifs,0⟩] scope pos) 0 (.ref it) acc {sW with scope:=relabel scope X.env}) (compPost (model X.prog X.w) X.A X.xe none (EP X pins σ Q) acc sW.locals) s₄) E' s₃) E' s2:=by
 exact aaL (acR c.cell (by intro y hy;simp at hy) (λh₁ kO kh=>?_) c.kind);dsimp only at kO kh ⊢;have hsz:(s2.heap.push {cls:=.type "list",dict:=none,data:=.seq ([]:List Value).toArray}).objs.size=s2.heap.objs.size+1:=abk _ _;have kk:∀b o,s2.heap.get? b=some o→h₁.get? b=some o:=λb o e=>kh.extBut b o (by rw[hsz];exact aaw (abw (aak e))) (aab _ (aab _ e));have hD:h₁.get? s2.heap.objs.size=some {cls:=.type "list",data:=.seq ([]:List Value).toArray}:=
  kh.extBut _ _ (by rw[hsz];exact aaw (acg _)) (aab _ (aaq _ rfl))
 rw[hsz]at kO ⊢;have cG:∀b∈fp,b<s2.heap.objs.size:=λb hb=>by
  let⟨o,e,_⟩:=T.obj _ _ nM b hb;exact aak e
 let⟨W,⟨m0,w0⟩,turn⟩:=hw s2.heap.objs.size I2.fresh;have J1:=rL (E:=λ_ _=>False) c I2 f2 cG (tk:=s2.toks+([]:List (Str×Value)).length) kk hD kO;have Vg:∀{An:ad} {σ6:St} {H7:Hp} {s7:Shared} {Q7:V→Hp→Prop},Inv (aQ X (own++cap.map (·.2)) scope cl (s2.heap.objs.size+1) s2 H2 fp (λ_ _=>False)) An σ6 H7 s7→te σ6 H7 Q7→wpAny (model X.prog X.w) X.A (eval elt (compEnvC scope cl (s2.heap.objs.size+1) X.env)) (EP (aQ X (own++cap.map (·.2)) scope cl (s2.heap.objs.size+1) s2 H2 fp (λ_ _=>False)) An σ6 Q7) (Sb X (own++cap.map (·.2)) scope cl (s2.heap.objs.size+1) s2 H2 fp EE) s7:=λ{An σ6 H7 s7 Q7} I7 q7=>by
  have h:=(he (s2.heap.objs.size+1) s2 H2 fp (Sb X (own++cap.map (·.2)) scope cl (s2.heap.objs.size+1) s2 H2 fp EE) (λpins σ H s e s' I h=>Ψ4 pins σ H s ⟨zf I,h⟩)).run An s7 σ6 H7 Q7 (zf I7) q7;exact aaB h (λu s8 ξ=>Ξ23 ξ λy H8 I8 r q=>Ψ2 y H8 ⟨zf I8,r,q⟩) λ_ _ z=>z
 have W5:∀{e:Value} {s':Shared},Sb X (own++cap.map (·.2)) scope cl (s2.heap.objs.size+1) s2 H2 fp EE e s'→notedBy (model X.prog X.w) X.A (compEnvC scope cl (s2.heap.objs.size+1) X.env) (λe s'=>compPost (model X.prog X.w) X.A X.xe none (EP X pins σ Q) (.ref s2.heap.objs.size) (s2.heap.objs.size+1) (.error e) s') e s':=λ{e s'} hx=>FH kN hp I2 f2 (abl _) hx;generalize fZ:aQ X (own++cap.map (·.2)) scope cl (s2.heap.objs.size+1) s2 H2 fp (λ_ _=>False)=X' at J1 Vg;have Ij:PG X' tg g:=fZ ▸ hg _ _ _ _;have P9:pG X' ifs tc:=fZ ▸ ht _ _ _ _;have pX:X'.prog=X.prog:=by rw[←fZ];rfl
 have wX:X'.w=X.w:=by rw[←fZ];rfl
 have kX:X'.K=X.K:=by rw[←fZ];rfl
 have aX:X'.A=X.A:=by rw[←fZ];rfl
 have cX:X'.calm=true:=by rw[←fZ];exact hc
 have nX:X'.env=compEnvC scope cl (s2.heap.objs.size+1) X.env:=by rw[←fZ];rfl
 have xX:X'.xe=λ_ _=>False:=by rw[←fZ];rfl
 have fX:∀b∈fp,∀{H':Hp},H' b=none→eG X' [] H' b:=λb hb {H'} hn=>by
  have o1:=(fD (E:=λ_ _=>False) c I2 f2 cG (C:=s2.heap.objs.size+1) (abl _)).Gm b hb;have o2:=(fD (E:=λ_ _=>False) c I2 f2 cG (C:=s2.heap.objs.size+1) (abl _)).pQ b hb;rw[←fZ];exact⟨hn,o1.1,o2,.inl hb,o1.2,λp hp=>absurd (show p∈([]:ad)from hp) (by simp)⟩
 have fin:∀{σ':St} {H':Hp} {s':Shared},Inv X' [] σ' H' s'→Q (.ref s2.heap.objs.size) H'→compPost (model X.prog X.w) X.A X.xe none (EP X pins σ Q) (.ref s2.heap.objs.size) (s2.heap.objs.size+1) (.ok .next) s':=λ{σ' H' s'} J' q=>by
  rw[←fZ]at J';let⟨A1,A2⟩:=hU I2 f2 (abl _) J';let⟨m,hm,_⟩:=J'.loc;exact⟨m,hm,λh' se=>Ψ2 (.ref s2.heap.objs.size) H' ⟨?_,rfl,q⟩⟩;exact A1.turned (t':=s'.toks) (λb o hb e=>(se.2 b hb).trans e) A2.1 A2.2.1 A2.2.2.2.1 A2.2.2.2.2.1 A2.2.2.2.2.2
 have loop:codeAny (model X.prog X.w) X.A (.compLoop (.ListComp elt [⟨tg,iter,ifs,0⟩] scope pos) 0 (.ref it) (.ref s2.heap.objs.size) (compEnvC scope cl (s2.heap.objs.size+1) X.env)) (compPost (model X.prog X.w) X.A X.xe none (EP X pins σ Q) (.ref s2.heap.objs.size) (s2.heap.objs.size+1))
   {s2 with heap:=h₁,toks:=s2.toks+([]:List (Str×Value)).length}:=by
  exact nj (λn s'=>∃i σ' ys H',Inv X' [] σ' H' s'∧tn i s'.heap∧(∀b∈fp,H' b=none)∧W i n σ' ys H') ?_ m0
   ⟨0,_,[],_,J1,T.keep _ _ _ nM λb _ o e=>kk b o e,λb hb=>by rw[ao (aaw (cG b hb))];exact(f2 b hb).1,w0⟩
  intro n s3⟨i,σ3,ys,H3,I3,vV,xp,w3⟩;let⟨WX,w4⟩:=turn i n σ3 ys H3 w3;rw[←nX,←aX,←pX,←wX]at Vg W5 ⊢;have iA:∀{α:Type} {t:Sem α} {Q1:α→Shared→Prop} {E1:xz} {s:Shared},wpAny (model X'.prog X'.w) X'.A t Q1 X'.xe s→wpAny (model X'.prog X'.w) X'.A t Q1 E1 s:=λ{α t Q1 E1 s} h=>by
   rw[xX]at h;exact aaB h (λ_ _ q=>q) λ_ _ f=>f.elim
  rcases w4 with⟨stop,qn⟩|⟨go,uU,N,hN,step⟩
  ·have d:=T.done X' pX wX kX cX i [] s3 σ3 H3 X'.xe I3 (λb hb=>fX b hb (xp b hb)) vV stop
   rw[←pX,←wX]at d;exact iA (bD d λr s4 ξ=>Ξ02 ξ λhr I4=>?_);subst hr;exact fin I4 qn
  ·have d:=T.item X' pX wX kX cX i [] s3 σ3 H3 X'.xe I3 (λb hb=>fX b hb (xp b hb)) vV go
   rw[←pX,←wX]at d;exact iA (bD d λr s4 ξ=>Ξ12 ξ λu hr h4=>?_);subst hr;exact iA (bD h4 λ_ s5 ξ=>Ξ21 ξ λx H5 ξ=>Ξ05 ξ λI5 r5 y5 qt Fn=>?_);have F2:=I5.pinned (λb hb=>fX b hb (Fn b hb)) (T.obj _ _ qt);have again:∀{σ7:St} {H7:Hp} {s7:Shared} {yg:List V},Inv X' ([]++jv fp s5.heap) σ7 H7 s7→N σ7 yg H7→
     ∃m,m<n∧∃i σ' ys H',Inv X' [] σ' H' s7∧tn i s7.heap∧(∀b∈fp,H' b=none)∧W i m σ' ys H':=λ{σ7 H7 s7 yg} I7 n7=>by
    let⟨m',hm,w7⟩:=hN _ _ _ n7;exact⟨m',hm,i+1,σ7,yg,H7,I7.fF,T.keep _ _ _ qt λb hb o e=>(I7.pin (b,o) (aas _ (aas _ (b8 hb e)))).1,λb hb=>?_,w7⟩;let⟨o,e,d⟩:=T.obj _ _ qt b hb;exact(I7.pin (b,o) (aas _ (aas _ (b8 hb e)))).2.1
   exact iA (bD (Ij _ s5 σ3 H5 x u _ F2 r5 (step x H5 y5)) λ_ s6 ξ=>Ξ22 ξ λσ6 H6 I6 q6=>?_);exact iA (bD (P9 _ s6 σ6 H6 _ I6 q6) λb s7 ξ=>Ξ12 ξ λH7 I7 q7=>?_);cases b with
   |false=>
    rw[aaz aal]at q7 ⊢;exact again I7 q7
   |true=>
    rw[aaA rfl]at q7 ⊢;exact aaB (Vg I7 q7) (λu8 s8 ξ=>Ξ24 ξ λy8 H8 I8 r8 d8 q8=>?_) (λ_ _ hx=>W5 hx);exact iA (bD (gB _ s8 σ6 H8 (.ref s2.heap.objs.size) [y8] (.ref s2.heap.objs.size) [u8] (λ_ H9=>N σ6 (ys++[y8]) H9) I8 rfl (.cons r8 .nil) ⟨_,ys,y8,rfl,rfl,d8,uU,q8⟩) λ_ s9 ξ=>Ξ23 ξ λ_ H9 I9 _ q9=>?_);exact again I9 q9
 exact codeAny_compStart_list loop (T.self X.A 0 _ _ _ (T.keep _ _ _ nM λb _ o e=>kk b o e) loop)
theorem Ef(kN:X.stack=X.env::X.outer∧X.env.frame=some X.env.locals)(hp:F1 X EE)(c:cV X scope cl own cap)(hc:X.calm=true)(hi:PI X tg iter wi)
  (hg:∀C s H fp,PG (aQ X (own++cap.map (·.2)) scope cl C s H fp λ_ _=>False) tg g) (ht:∀C s H fp,pG (aQ X (own++cap.map (·.2)) scope cl C s H fp λ_ _=>False) ifs tc)
  (he:∀C s H fp E1,nF (aQ X (own++cap.map (·.2)) scope cl C s H fp E1) (λ_=>EE)→PE (aQ X (own++cap.map (·.2)) scope cl C s H fp E1) elt te) (hs:∀x,foldedSetIterable iter X.env x=pure x:=by intro _;rfl) :
  PE X (.ListComp elt [⟨tg,iter,ifs,0⟩] scope pos) (vT wi g tc te own cap):=by
 exact .mk ?_;intro pins s σ H Q I h;rw[eval_ListComp];exact abW (use:=none) rfl hs c.zA c.kind c.names (bD (hi pins s σ H _ I h) λv s1 h1=>bD h1 λJz s2 h2=>?_);let⟨it,fp,tn,J,H2,e,I2,T,nM,f2,hw⟩:=h2;subst e;exact xF kN hp c hc hg ht he I2 T nM f2 hw
end
end L2
namespace L3
open PySem PySem.Spec L2
variable {EE:XK}{wi:I3}{g:G3}{tc:T3}{te:E3}{own:List Str}{cap:List (Nat×Str)}
section
variable {X:Cx}{pos:Pos}
def CW(gd:Gp→Prop)(g:G3)(tc:T3)(te:E3)(Yc:X3)(C:List T→Gp→Prop)(ts:List T)(τ:S3)(ys:List T)(Γ:Gp):Prop:=∃P:List T→S3→List T→Gp→Prop,P ts τ ys Γ∧(∀τ ys Γ,P [] τ ys Γ→gd Γ∧C ys Γ)∧
 ∀x r τ ys Γ,P (x::r) τ ys Γ→gd Γ∧g Y0 x τ Γ λτ3 Γ3=>tc Y0 τ3 Γ3 λb Γ4=>if b=true then te Yc τ3 Γ4 λy Γ5=>P r τ3 (ys++[y]) Γ5 else P r τ3 ys Γ4
def zw(wi:I3)(g:G3)(tc:T3)(te:E3)(own:List Str)(cap:List (Nat×Str)):E3:=λY τ Γ Z=>wi Y τ Γ λts gd Γ1=>ts.length≤sizeLine∧
 CW gd g tc te (λ_ C Γ'=>Y τ C Γ') (λys Γ2=>∀D,Γ2 D=none→Z (.ref D) (up Γ2 D (.lst ys))) ts (Cf own cap τ) [] Γ1
theorem B5(σ:St)(H:Hp)(Q:VK)(q:bH (λ_=>EE) (zw wi g tc te own cap) σ H Q):vT (vD (λ_=>EE) wi) (vE EN g) (kM EN tc) (bH (λ_=>EE) te) own cap σ H Q:=by
 let⟨τ,Γ,Y,Z,rs,hr,t,vr,xr⟩:=q;exact Ψ4 τ Γ Y _ ⟨rs,hr,t,λJ ts gd H1 Γ1 s1 h1 wk⟨hz,P,z1,p0,pc⟩=>?_,xr⟩;intro D hD;have nl:∀vs:List V,(∀us:List V,HO.lst vs≠.tup us)∧∀b w,HO.lst vs≠.frz b w:=λ_=>⟨λ_ z=>(nomatch z),λ_ _ z=>(nomatch z)⟩;exact⟨λi m σ' vs H'=>∃τ' ys Γ',i≤ts.length∧m=ts.length-i∧vs.length≤i∧RS H' σ' τ'∧HR H' Γ'∧H' D=some (.lst vs)∧Γ' D=none∧Rs H' vs ys∧eW H1 Γ1 H' Γ'∧P (ts.drop i) τ' ys Γ',
  ⟨ts.length,Cf own cap τ,[],Γ1,aaE _,rfl,aan _,(p6 own (rs.mono s1.tq) cap).mono (dA (bo hD)),h1.keep (bo hD),ar,h1.free hD,bI,.keep (bo hD),z1⟩,?_⟩
 intro i m σ2 vs H2⟨τ2,ys,Γ2,hi,rfl,hv,qI,h2,d2,gD,ry,s2,w2⟩;exact⟨d2,?_⟩;by_cases cG:i<ts.length
 ·rw[drop_cons cG]at w2
  let⟨g2,w2⟩:=pc _ _ _ _ _ w2;exact .inr ⟨wk.go i H2 Γ2 s2.tq h2 g2 cG,by lia,λσ' ws H'=>∃τ' ys Γ',ws.length≤i+1∧RS H' σ' τ'∧HR H' Γ'∧H' D=some (.lst ws)∧Γ' D=none∧Rs H' ws ys∧eW H1 Γ1 H' Γ'∧P (ts.drop (i+1)) τ' ys Γ',
   λσ' ws H' ξ=>Ξ31 ξ λτ' ys Γ' ξ=>Ξ08 ξ λa b c d e f k l=>⟨ts.length-(i+1),by lia,τ',ys,Γ',cG,rfl,a,b,c,d,e,f,k,l⟩,λx H3 yl=>?_⟩
  let⟨s3,h3,⟨x3,e3,r3⟩⟩:=wk.nJ i H2 Γ2 x H3 s2.tq h2 g2 cG yl;rw[aac cG]at e3;cases e3;exact Ψ5 _ τ2 Γ2 Y0 _ ⟨r3,qI.mono s3.tq,h3,w2,λσ4 τ4 H4 Γ4 s4 h4 r4 z4=>?_,vL⟩;exact Ψ4 τ4 Γ4 Y0 _ ⟨r4,h4,z4,λk H5 Γ5 s5 h5 z5=>?_,vL⟩;have mK:=(s3.trans s4).trans s5;have d5:H5 D=some (.lst vs):=mK.tY D _ d2 gD;have g5:Γ5 D=none:=mK.new D (by rw[d2];exactλz=>nomatch z) gD;cases k with
  |false=>exact Ψ3 τ4 ys Γ5 ⟨adQ hv,r4.mono s5.tq,h5,d5,g5,ry.mono mK.tq,s2.trans mK,z5⟩
  |true=>
   exact Ψ4 τ4 Γ5 (λ_ C Γ'=>Y τ C Γ') _ ⟨r4.mono s5.tq,h5,z5,λy y' H6 Γ6 s6 h6 r6 z6=>?_,λσ9 τ9 C9 H9 Γ9 s9 h9 _ y9=>xr σ τ C9 H9 Γ9 (((s1.trans s2).trans mK).trans s9) h9 (rs.mono (((s1.trans s2).trans mK).trans s9).tq) y9⟩;have Aa:=mK.trans s6;have d6:H6 D=some (.lst vs):=Aa.tY D _ d2 gD;have g6:Γ6 D=none:=Aa.new D (by rw[d2];exactλz=>nomatch z) gD;have tq:Tq H6 (upd H6 D (.lst (vs++[y]))):=jg d6 (nl vs);exact⟨d6,τ4,ys++[y'],Γ6,by rw[aag];exact adW hv,(r4.mono (s5.trans s6).tq).mono tq,h6.hide g6 d6 (nl vs),ar,g6,Rs.app ((ry.mono Aa.tq).mono tq) (bg (r6.mono tq) bI),?_,z6⟩;have s7:=s2.trans Aa;exact⟨s7.tq.trans tq,λa h z=>?_,s7.new,λa o h g=>?_⟩
   ·by_cases e:a=D
    ·subst e;exact h hD
    ·rw[ao e]at z;exact s7.yc a h z
   ·have e:a≠D:=λe=>by subst e;rw[hD]at h;cases h
    rw[ao e];exact s7.tY a o h g
 ·have e:i=ts.length:=by lia
  subst e;rw[abX]at w2;have w2:=p0 _ _ _ w2;exact .inl ⟨wk.stop H2 Γ2 s2.tq h2 w2.1,?_⟩;have uB:=s1.trans s2;exact vr (.ref D) (.ref D) H2 (up Γ2 D (.lst ys)) ⟨uB.tq,uB.yc,λa h g=>?_,uB.tY⟩ (λa o g=>?_) jG (w2.2 D gD)
  ·have e:a≠D:=λe=>by subst e;exact s1.yc _ h hD
   rw[bb e];exact uB.new a h g
  ·by_cases e:a=D
   ·subst e;rw[ai]at g;cases g;exact⟨vs,d2,ry⟩
   ·rw[bb e]at g;exact h2 a o g
variable {scope:Scope}{cl:List (Str×Addr)}{tg iter elt:Expr}{ifs:List Expr}
theorem wj(kN:X.stack=X.env::X.outer∧X.env.frame=some X.env.locals)(hp:F1 X EE)(c:cV X scope cl own cap)(hc:X.calm=true)(hi:PI X tg iter (vD (λ_=>EE) wi))
  (hg:∀C s H fp,PG (aQ X (own++cap.map (·.2)) scope cl C s H fp λ_ _=>False) tg (vE EN g)) (ht:∀C s H fp,pG (aQ X (own++cap.map (·.2)) scope cl C s H fp λ_ _=>False) ifs (kM EN tc))
  (he:∀C s H fp E1,nF (aQ X (own++cap.map (·.2)) scope cl C s H fp E1) (λ_=>EE)→PE (aQ X (own++cap.map (·.2)) scope cl C s H fp E1) elt (bH (λ_=>EE) te)) (hs:∀x,foldedSetIterable iter X.env x=pure x:=by intro _;rfl) :
  PE X (.ListComp elt [⟨tg,iter,ifs,0⟩] scope pos) (bH (λ_=>EE) (zw wi g tc te own cap)):=gI (Ef kN hp c hc hi hg ht he hs) B5
end
end L3
namespace L2
open PySem PySem.Spec PyProof.Rows PySem.W PySem.Builtin
variable {b:Array UInt8}{t t1:Tok}{A:Around}{E:xz}{s:Shared}
section
variable {M:Model}
theorem qi{β:Type}{n:Nat}{f:Nat→β→Sem (ForInStep β)}(I:Nat→β→Shared→Prop){Q:β→Shared→Prop}
  (step:∀i c s,i<n→I i c s→wpAny M A (f i c) (λr s'=>match r with|.yield b'=>I (i+1) b' s'|.done b'=>Q b' s') E s)
  (fin:∀c s,I n c s→Q c s) {c:β} (h:I 0 c s):wpAny M A (forIn [:n] c f) Q E s:=by
 rw[Std.Legacy.Range.forIn_eq_forIn_range'];simp only[Std.Legacy.Range.size,adT,Nat.add_sub_cancel,Nat.div_one];have:∀(k i:Nat) (c:β) (s:Shared),i+k=n→I i c s→wpAny M A (forIn (List.range' i k 1) c f) Q E s:=λk=>by
  induction k with
  |zero=>
   intro i c s e h;have e:i=n:=by lia
   subst e;rw[List.range'_zero,ac0];exact aad (fin _ _ h)
  |succ k ih=>
   intro i c s e h;rw[List.range'_succ,acP];exact aaa (aaB (step i c s (by lia) h) (λr s' hr=>?_) λ_ _ h'=>h');cases r with
   |done b'=>exact aad hr
   |yield b'=>exact ih _ _ _ (by lia) hr
 exact this n 0 c s (by lia) h
theorem Bo{id:String}{Q:Array Nat×Nat→Shared→Prop}(h:∀c∈b.toList,c.toNat<128)(hz:b.size≤sizeLine)(q:Q (b.map (·.toNat),b.size) s):wpAny M A (_codecs.runDecoder id _codecs.asciiDecoder none true b 0 []) Q E s:=by
 unfold _codecs.runDecoder;dsimp only;exact aaa (aaB (Q:=λc s'=>s'=s∧c.1=b.size∧c.2.1=b.map (·.toNat)) (qi (λi c s'=>s'=s∧c.1=i∧c.2.1=(b.map (·.toNat)).take i) (λi c s' hi hI=>?_) (λc s' hI=>?_) ⟨rfl,rfl,by simp⟩) ?_ λ_ _ z=>z)
 ·let⟨rfl,e1,e2⟩:=hI
  obtain⟨p,out,st⟩:=c;dsimp only at e1 e2 ⊢;subst e1 e2;have hp:(List.take p (b.map (·.toNat)).toList).length≤p:=by rw[aa4];lia
  have hs:((b.map (·.toNat)).take p).size≤p:=by simp;lia
  rw[aaz (by lia),aaz (by lia)];have hm:b.getD p 0∈b.toList:=by
   rw[aec,Array.getElem?_eq_getElem hi];simp
  have ef:_codecs.asciiDecoder.find true b p=.text [(b.getD p 0).toNat] (p+1):=by
   show(if(b.getD p 0).toNat<128 then _ else _)=_
   rw[aaA (h _ hm)];rfl
  rw[ef];exact aad ⟨rfl,rfl,?_⟩;apply Array.toList_inj.mp
  simp[ac5,aec,hi]
 ·let⟨rfl,e1,e2⟩:=hI
  exact⟨rfl,e1,by rw[e2];simp⟩
 ·intro c s'⟨rfl,e1,e2⟩
  exact aad ?_;rw[e1,e2];exact q
theorem Ci(a b:Value):argsOk "bytes.decode" ⟨[a,b],[]⟩:=by unfold argsOk;kernel_rfl
theorem FY(v:Value):Bytes.bindOptional "bytes.decode" "decode" ["encoding","errors"] [v] []=pure [some v,none]:=by kernel_rfl
theorem IA(t1:Tok):Bytes.checkCodecArg "bytes.decode" "decode" "encoding" (some (Value.str (PySem.Str.ofString "ascii") t1))=pure ():=by kernel_rfl
theorem yF{id:String}:_codecs.decodeRoad id b (PySem.Str.ofString "ascii") none []=(_codecs.runDecoder id _codecs.asciiDecoder none true b 0 [] >>= λr=>mkStr ⟨r.1⟩):=by kernel_rfl
end
section
variable {prog:Program}{w:World}
theorem B1{Q:Fin→Shared→Prop}(h:∀c∈b.toList,c.toNat<128)(hz:b.size≤sizeLine)(q:∀t' k,Q (.done (.ret (.str ⟨b.map (·.toNat)⟩ t'))) {s with toks:=k}):wpAny (model prog w) A (Builtin.«bytes.decode» ⟨[.bytes b t,.str (PySem.Str.ofString "ascii") t1],[]⟩) Q E s:=by
 unfold Builtin.«bytes.decode» Bytes.decodeM;dsimp only;rw[show(toString Bytes.Kind.bytes.name++toString ".decode") = "bytes.decode" from rfl];exact aaa (abh (FY _) ?_);dsimp only;exact aaa (abh (IA _) ?_);exact aaa (abh (a:=()) rfl ?_);rw[aaz (by decide)];unfold Bytes.thenGiveBack;dsimp only;exact aaa (abh (a:=b) rfl ?_);by_cases e:b.isEmpty=true
 ·rw[aaA e]
  have eb:b=#[]:=by simpa using e
  subst eb;rw[show(⟨(#[]:Array UInt8).map (·.toNat)⟩:PySem.Str)=PySem.Str.empty from by rw[Array.map_empty];rfl]at q;exact aaa (acu ?_);unfold retStr;exact aaa (adV (aad (q _ _)) (by decide))
 rw[aaz e];exact aaa (adV ?_ (by decide));exact aaa (aaa (abh (a:=some (PySem.Str.ofString "ascii")) rfl ?_));dsimp only;exact adV ?_ (by decide);exact aaa (aad ?_);exact aaa (adV ?_ (by decide));exact aaa (Calls.call_function_entry KBd.kind_text KBd.plain_text KBd.entry_text (KBd.args_text _ _ _ _) ?_);show wpAny _ _ (Bytes.bytesLike _ (.bytes b t) >>= λr=>_) _ _ _
 exact aaa (abh KBd.like_eq ?_);exact aaa (abh KBd.held_eq ?_);show wpAny _ _ (_codecs.decodeRoad _ b (PySem.Str.ofString "ascii") none [] >>= λv=>_) _ _ _
 rw[yF];exact aaa (aaa (Bo h hz ?_));exact adV (aad ⟨_,rfl,?_⟩) (by show(b.map (·.toNat)).size≤_;rw[Array.size_map];exact hz);exact aad (q _ _)
theorem FR{Q:xz}(h:∀c∈b.toList,c.toNat<128)(hz:b.size≤sizeLine)(q:∀t' k,Q (.str ⟨b.map (·.toNat)⟩ t') {s with toks:=k}):wpAny (model prog w) A (call (.builtin "bytes.decode") [.bytes b t,.str (PySem.Str.ofString "ascii") t1]) Q E s:=
 abj FB.slot_bytes_decode (typeIs_bytes _ _ _) FB.entry_bytes_decode (B1 h hz λt' k=>⟨_,rfl,q t' k⟩) (Ci _ _)
end
end L2
namespace L2
open PySem PySem.Spec PyProof.Rows PySem.W
variable {l:Addr}{vs:List Value}{ns:List Int}
theorem EK:typeLookup (.type "tuple") "__bytes__" = pure none:=by rw[ac2,acd];kernel_rfl
theorem EJ:typeLookup (.type "tuple") "__index__" = pure none:=by rw[ac2,acd];kernel_rfl
theorem EL:typeLookup (.type "tuple") "__buffer__" = pure none:=by rw[ac2,acd];kernel_rfl
theorem Dn:splitId "tuple.__len__" = some ("tuple","__len__"):=by decide +kernel
theorem J9:isSubtype (.type "tuple") (.type "tuple")=pure true:=by rw[isSubtype_type];kernel_rfl
def md(ns:List Int):Obj:={cls:=.type "bytearray",data:=.bytearray (byteArr ns)}
abbrev oX(l:Addr):Obj:={cls:=.type "tuple_iterator",data:=.fields #[.ref l,.int 0 0]}
section
variable {prog:Program}{w:World}{A:Around}{E:xz}
theorem rG{R:Result→Shared→Prop}{l I S:Addr}{vs:List Value}{ns:List Int}(hh:A.handled=none)(ia:IntsAre vs ns)(rg:∀n∈ns,0≤n∧n<256)(hz:ns.length≤sizeLine)(d:I≠S∧l≠I∧l≠S)(i:Nat)(s:Shared)
  (le:i≤ns.length) (tp:s.heap.IsTuple l vs.toArray) (it:s.heap.IsTupleIter I l i) (mk:s.heap.get? S=some (md (ns.take i)))
  (fin:∀h' t k,(∀b o,b≠I→b≠S→s.heap.get? b=some o→h'.get? b=some o)→R (.ok (.ret (.bytes (byteArr ns) t))) {s with heap:=h',toks:=k}) :
  codeAny (model prog w) A (.builtin "bytes.__new__.loop" ⟨[.type "bytes",.ref I,.ref S],[]⟩) R s:=by
 exact abI F.bm_entry_loop ?_;rw[abv adN _];have lv:vs.length=ns.length:=ia.length;show wpAny _ A.in1 (pyNext (.ref I) >>= _) _ _ s
 by_cases c:i<ns.length
 ·let⟨n,t,ev,en⟩:=IntsAre.at ia i (vs[i]'(by lia)) (aac (by lia))
  have ev:vs[i]?=some (.int n t):=by rw[aac (by lia),ev]
  have nr:=rg n (aaj en);exact aaa (wpAny_pyNext_tuple_item (x:=.int n t) it tp (by rw[acA];exact ev) λh1 Yu sb=>?_);have PL:h1.get? S=some (md (ns.take i)):=(sb.2 S (abM d.1)).trans mk;exact aaa (aaR (abh (rfl:asIndex (.int n t)=pure n) (aaa (acb (adA ?_ ?_)))))
  ·rw[Bool.or_eq_false_iff,aek,aek]
   lia
  exact aaa ?_;show wpAny _ _ (updateBytearray S (·.push n.toNat.toUInt8)) _ _ _
  unfold updateBytearray;exact aaa (wpAny_load PL ?_);show wpAny _ _ (update S (Obj.mapBytearray (·.push n.toNat.toUInt8)) >>= λ_=>lookBehind S) _ _ _
  exact aaa (wpAny_update PL ?_);have Wc:(h1.update S (Obj.mapBytearray (·.push n.toNat.toUInt8))).get? S=some (md (ns.take (i+1))):=by
   unfold md;rw[byteArr_take en];exact abt _ PL rfl
  have ub:=(abL h1 S (Obj.mapBytearray (·.push n.toNat.toUInt8))).extBut;exact wpAny_lookBehind Wc ?_ (aad ⟨abF adN _,?_⟩)
  ·have:¬(byteArr (ns.take (i+1))).size>sizeLine:=by rw[byteArr_size,aa4];lia
   exact aaz this
  exact rG hh ia rg hz d (i+1) _ c ((tp.extBut sb.extBut d.2.1).extBut ub d.2.2) (Yu.extBut ub d.1) Wc λh3 t' k' kp=>?_;exact fin h3 t' k' λb o nI nS e=>kp b o nI nS ((aaF _ _ (abM nS)).trans (sb.extBut b o nI e))
 ·have e:i=ns.length:=by lia
  rw[e,adk]at mk;exact aaa (wpAny_pyNext_tuple_end hh it tp (by rw[acA];exact aaH (by lia)) λh1 kp=>aaa ?_);have PL:h1.get? S=some (md ns):=kp S _ (abM d.1) mk;unfold Builtin.Bytes.payload Builtin.Bytes.payload?;exact aaa (aaa (wpAny_load PL (aad (aad (aaa (wpAny_mkBytes ?_ (by rw[byteArr_size];exact hz)))))));exact bm_if_true (c:=(Value.type "bytes" == Value.type "bytes")) (by decide) ?_;first
   |exact aad (fin h1 _ _ λb o nI _ e=>kp b o nI e)
   |exact aaa (aad (aad (fin h1 _ _ λb o nI _ e=>kp b o nI e)))
termination_by ns.length-i
variable {s:Shared}{Q:xz}
theorem BE(hh:A.handled=none)(tp:s.heap.IsTuple l vs.toArray)(ia:IntsAre vs ns)(rg:∀n∈ns,0≤n∧n<256)(hz:ns.length≤sizeLine)
  (fin:∀h' t k,(∀b o,s.heap.get? b=some o→h'.get? b=some o)→Q (.bytes (byteArr ns) t) {s with heap:=h',toks:=k}) :
  codeAny (model prog w) A (.call (.builtin "bytes.__new__") ⟨[.type "bytes",.ref l],[]⟩) (wants Q E) s:=by
 have ty:s.TypeIs (.ref l) "tuple" := tp.typeIs;let⟨ol,g1,g2,⟨g4,g3⟩⟩:=id tp;have lo:l<s.heap.objs.size:=aak g1;have sz:(s.heap.push (oX l)).objs.size=s.heap.objs.size+1:=abk _ _;have VG:(s.heap.push (oX l)).IsTuple l vs.toArray:=tp.push _;have VF:({s with heap:=s.heap.push (oX l)}:Shared).TypeIs (.ref l) "tuple" := Heap.IsTuple.typeIs (s:={s with heap:=s.heap.push (oX l)}) VG;have old:∀b o,s.heap.get? b=some o→b≠s.heap.objs.size∧b≠(s.heap.push (oX l)).objs.size∧((s.heap.push (oX l)).push (md [])).get? b=some o:=λb o e=>
  have lb:=aak e
  ⟨aaw lb,by rw[sz];exact aaw (abw lb),aab _ (aab _ e)⟩
 have run:=rG (prog:=prog) (w:=w) (A:=A) (R:=wants Q E) (I:=s.heap.objs.size) (S:=(s.heap.push (oX l)).objs.size) hh ia rg hz ⟨by rw[sz];exact aaw (acg _),aaw lo,by rw[sz];exact aaw (abw lo)⟩ 0
  {s with heap:=(s.heap.push (oX l)).push (md [])} (aaE _) (VG.push _) ⟨_,aab _ (aaq _ rfl),rfl,rfl⟩ (aaq _ rfl)
  λh' t k kp=>fin h' t k λb o e=>kp b o (old b o e).1 (old b o e).2.1 (old b o e).2.2
 exact codeAny_of_tree ?_;show wpAny _ A.in1 (do checkBuiltinCall "bytes.__new__" ⟨[.type "bytes",.ref l],[]⟩;again (.builtin "bytes.__new__" ⟨[.type "bytes",.ref l],[]⟩)) _ _ s
 exact aaa (abh (F.bm_newCall _) (aad ⟨abF F.bm_plain _,abI F.bm_entry ?_⟩));rw[abv F.bm_plain _];unfold Builtin.«bytes.__new__»;exact aaa (abh (a:=true) rfl (adA rfl (aaa (abh F.bm_sub (adA rfl (aaa (abh (F.bm_bind _) ?_)))))));exact aaa (abh (a:=()) rfl (aaa (abh (a:=()) rfl (adA rfl (aaa (abV ty EK (aaa (aaa ?_))))))));show wpAny _ _ (load l >>= _) _ _ _
 exact aaa (wpAny_load g1 ?_);rw[g3];exact aad (aad (adA rfl (aaa (abV ty EJ (bm_if_true rfl ?_)))));first
  |show wpAny _ _ (Builtin.Bytes.buffer? "bytes.__new__" (.ref l) true >>= _) _ _ _
  |(exact aaa ?_;show wpAny _ _ (Builtin.Bytes.buffer? "bytes.__new__" (.ref l) true >>= _) _ _ _)
 unfold Builtin.Bytes.buffer?;exact aaa (aaa (abV ty EL (aaa (abV ty EL (aad (aaa (adl (adg tp (aaa (aaR ?_)))))))))) ;unfold Builtin.Bytes.lengthHint;exact aaa (abV VF F.slot_tuple_len.lookup ?_);dsimp only;rw[Dn];dsimp only;exact aaa (adD VF J9 (adA rfl (bm_if_true (by decide +kernel) (aad (aaa ?_)))));unfold Builtin.Bytes.newBytearray;exact aaL ?_ (aaE _);first
  |exact aad ⟨abF adN _,run⟩
  |exact aad (aad ⟨abF adN _,run⟩)
theorem rP(tp:s.heap.IsTuple l vs.toArray)(ia:IntsAre vs ns)(rg:∀n∈ns,0≤n∧n<256)(hz:vs.length≤sizeLine)(hh:A.handled=none)
  (fin:∀h' t k,(∀b o,s.heap.get? b=some o→h'.get? b=some o)→Q (.bytes (byteArr ns) t) {s with heap:=h',toks:=k}):wpAny (model prog w) A (call (.type "bytes") [.ref l]) Q E s:=by
 exact callType_codes (Q₁:=λx s1=>s1.TypeIs x "bytes" ∧ Q x s1) F.bm_called (F.bm_typeCall _) F.entry_object_init (BE hh tp ia rg (by rw[←ia.length];exact hz) λh' t k kp=>⟨typeIs_bytes _ _ _,fin h' t k kp⟩) λx s1 h1=>?_;exact⟨h1.1,F.args_object_init_2 x _,object_init_meets F.bm_called.init.lookup F.bm_called.made (by decide) prog w A.in1 _ s1 ⟨h1.1,rfl,h1.2⟩⟩
end
theorem FW:bootBuiltins "bytes" = some (.type "bytes"):=by decide +kernel
theorem AF:∀{ns:List Int} {its:List Value},Vals (ns.map V.int) its→IntsAre its ns
 |[],_,h=>by cases h;exact .nil
 |n::ns,_,h=>by
  cases h with
  |cons a b=>
   let⟨t,rfl⟩:=a;exact .cons n t (AF b)
def OJ(K:W.Frag)(te:TE):TE:=λσ H Q=>vS te GF σ H λvs H1=>∃(a:Addr) (ns:List Int),vs=[.ref a]∧cW K H1 a (ns.map V.int)∧(∀n∈ns,0≤n∧n<128)∧Q (.str ⟨(ns.map Int.toNat).toArray⟩) H1
section
variable {X:Cx}{e:Expr}{te:TE}{p q ap p2 pos:Pos}{j:Nat}
theorem FA(h:∀n∈ns,0≤n∧n<128):(∀c∈(byteArr ns).toList,c.toNat<128)∧(byteArr ns).map (·.toNat)=(ns.map Int.toNat).toArray:=by
 have key:∀n∈ns,n.toNat.toUInt8.toNat=n.toNat:=λn hn=>by
  have:=h n hn;show n.toNat%256=n.toNat
  lia
 constructor
 ·intro c hc
  unfold byteArr at hc;let⟨n,hn,rfl⟩:=aay.mp hc;rw[key n hn];have:=h n hn;lia
 ·unfold byteArr
  rw[List.map_toArray,aa8];congr 1
  exact aci λn hn=>key n hn
theorem Hm(hc:X.calm=true)(hg:Gl X "bytes")(hm:X.mg "bytes" = none)(he:PE X e te)
  (ko:attributeBase (.Call (.Name "bytes" p) [e] [] q) "decode" X.env (eval (.Call (.Name "bytes" p) [e] [] q) X.env)=eval (.Call (.Name "bytes" p) [e] [] q) X.env:=by rfl)
  (kN:starEach [e] X.env=[(false,eval e X.env)]:=by rfl)
  (zi:((backTo pos (starEach [.Constant (.str "ascii") j p2] X.env)).all (λx=>!x.1)&&(backToKw pos (keywordEach [] X.env)).all (λx=>x.1.isSome)
   && decide (([.Constant (.str "ascii") j p2]:List Expr).length+([]:List Keyword).length+(if([]:List Keyword).isEmpty then 0 else 1)<30))=true:=by rfl)
  (kl:(ap.endLine==pos.line)=true:=by rfl) (hs:starEach [.Constant (.str "ascii") j p2] X.env=[(false,eval (.Constant (.str "ascii") j p2) X.env)]:=by rfl) :
  PE X (.Call (.Attribute (.Call (.Name "bytes" p) [e] [] q) "decode" ap) [.Constant (.str "ascii") j p2] [] pos) (OJ X.K te):=by
 exact .mk ?_;intro pins s σ H Q I h;exact wpAny_Call_method_late ko zi kl rfl ?_;exact abQ (gZ I hg hm FW ?_ (by decide) (by decide));exact abd ?_ kN (by rfl);exact bD (aq he bf kN q pins s σ H _ I h) λus s1 ξ=>Ξ23 ξ λvs H1 I1 r1 q1=>?_;let⟨a,ns,rfl,sq,hr,q2⟩:=q1;let⟨u,rfl,rx⟩:=vals1 r1;cases rx;let⟨its,rv,tp,hz⟩:=I1.tuple sq;have hl:=rv.length;rw[aae]at hl hz;have ia:=AF rv;let⟨dt1,dt2⟩:=FA hr;exact rP tp ia (λn hn=>by have:=hr n hn;lia) (by lia) (I1.ok.hd hc) λh' t k keep=>?_;have I2:Inv X pins σ H1 {s1 with heap:=h',toks:=k}:=I1.kept (t':=k) keep;exact Ψ2 ("bytes") ("bytes.decode") ⟨FB.plainAttrs_bytes,FB.slot_bytes_decode,FB.type_bytes_decode,typeIs_bytes _ _ _,λ_ z=>(nomatch z),?_⟩;have hA:=(aq (X:=X) (e:=.Constant (.str "ascii") j p2) bV bf hs).run pos pins {s1 with heap:=h',toks:=k} σ H1 (λvs H2=>vs=[.str "ascii"]∧H2=H1) I2 ⟨rfl,rfl⟩;rw[hs]at hA ⊢;exact adH (by rfl) (adR ?_);exact bD hA λus s3 ξ=>Ξ24 ξ λvs H3 I3 r3 e1 e2=>?_;subst e1 e2;let⟨u,rfl,rx⟩:=vals1 r3;let⟨t1,rfl⟩:=rx;exact FR dt1 (by rw[byteArr_size];lia) λt' k'=>Ψ2 (.str ⟨(ns.map Int.toNat).toArray⟩) H3 ⟨I3.kept (t':=k') (λ_ _ z=>z),⟨t',by rw[dt2]⟩,q2⟩
end
end L2
namespace L3
open PySem PySem.Spec L2
section
variable {X:Cx}{E:St→XK}{e:Expr}{te:E3}{p q ap p2 pos:Pos}{j:Nat}
def JO(te:E3):E3:=λY τ Γ Z=>te Y τ Γ λx Γ1=>∃ns:List Int,x=.tup (ns.map T.int)∧(∀n∈ns,0≤n∧n<128)∧Z (.str ⟨(ns.map Int.toNat).toArray⟩) Γ1
theorem pf{H:Hp}:∀{ns:List Int} {vs:List V},Rs H vs (ns.map T.int)→vs=ns.map V.int
 |[],vs,h=>bA h
 |n::ns,vs,h=>by
  let⟨v,ws,rfl,a,b⟩:=bO h;rw[bG a,pf b];rfl
theorem G8(hc:X.calm=true)(hg:Gl X "bytes")(hm:X.mg "bytes" = none)(he:PE X e (bH E te))
  (ko:attributeBase (.Call (.Name "bytes" p) [e] [] q) "decode" X.env (eval (.Call (.Name "bytes" p) [e] [] q) X.env)=eval (.Call (.Name "bytes" p) [e] [] q) X.env:=by rfl)
  (kN:starEach [e] X.env=[(false,eval e X.env)]:=by rfl)
  (zi:((backTo pos (starEach [.Constant (.str "ascii") j p2] X.env)).all (λx=>!x.1)&&(backToKw pos (keywordEach [] X.env)).all (λx=>x.1.isSome)
   && decide (([.Constant (.str "ascii") j p2]:List Expr).length+([]:List Keyword).length+(if([]:List Keyword).isEmpty then 0 else 1)<30))=true:=by rfl)
  (kl:(ap.endLine==pos.line)=true:=by rfl) (hs:starEach [.Constant (.str "ascii") j p2] X.env=[(false,eval (.Constant (.str "ascii") j p2) X.env)]:=by rfl) :
  PE X (.Call (.Attribute (.Call (.Name "bytes" p) [e] [] q) "decode" ap) [.Constant (.str "ascii") j p2] [] pos) (bH E (JO te)):=
 cK (Hm hc hg hm he ko kN zi kl hs) λσ H Q τ Γ Y Z rs hr t vr xr=>by
  exact Ψ4 τ Γ Y _ ⟨rs,hr,t,λv x H1 Γ1 s1 h1 r1 z1=>?_,xr⟩;let⟨ns,rfl,hn,z⟩:=z1;let⟨b,us,rfl,hp,q⟩:=cp r1;rw[pf q]at hp;exact Ψ2 b ns ⟨rfl,cW.of hp,hn,vr _ _ H1 Γ1 s1 h1 jF z⟩
end
end L3
namespace L2
open PySem PySem.Spec PyProof.Rows
variable {H:Hp}{a:Addr}{z:Str}{r:List V}
def xo(H:Hp):V→Str
 |.ref a=>match H a with
  |some (.tup (.str z::_))=>z
  |_ => ""
 |_ => ""
def BV(H:Hp):Value→Str
 |.ref a=>xo H (.ref a)
 |_ => ""
theorem qc(h:H a=some (.tup (.str z::r))):xo H (.ref a)=z:=by
 show(match H a with|some (.tup (.str z::_))=>z|_ => "")=z
 rw[h]
def IT(H:Hp)(y:V):Prop:=∃a z r,y=.ref a∧H a=some (.tup (.str z::r))
theorem xn{H:Hp}:∀{ys:List V} {us:List Value},Vals ys us→(∀y∈ys,IT H y)→us.map (BV H)=ys.map (xo H)
 |_,_,.nil,_=>rfl
 |_,_,.cons (a:=y) r h,hy=>by
  let⟨a,z,rr,rfl,e⟩:=hy y (by simp);cases r;rw[aam,aam,xn h λy hm=>hy y (by simp[hm])];rfl
section
variable {X:Cx}{f P c:Addr}{q x:Str}{params:Arguments}{scope:Scope}{p1 p2 p3:Pos}{j:Nat}
theorem HV(hr:dO 4 X.A)(L:M7 H f q params (.Subscript (.Name x p1) (.Constant (.int 0) j p2) p3) scope)(S:aF [x] [x] scope)(hx:scope.names.lookup x=some .local)
  (hb:∀(pm vd u:Value) (c':Addr),bindArgs (W.kla_fn "<lambda>" q params (.Subscript (.Name x p1) (.Constant (.int 0) j p2) p3) scope [] pm (.ref c') vd) ⟨[u],[]⟩=pure [(x,u)])
  (hd:(x ==("__debug__" : Str))=false) (pO:(x ==("__classdict__" : Str))=false) {b:Addr}   (e:H b=some (.tup (.str z::r))):M8 X H X.A.in1.in1 (.ref f) (.ref b) z:=by
 intro pins σ s I;let⟨c',oc,vs,t,u,pm,vd,h1,h2,h3,h4⟩:=L.ex;have ho:s.heap.get? f=some (W.kla_obj "<lambda>" q params (.Subscript (.Name x p1) (.Constant (.int 0) j p2) p3) scope [] pm c' vd):=(I.bp f _ h1).1;have hc:s.heap.CodeRec (.ref c') q:=Ψ4 c' oc vs t ⟨rfl,(I.bp c' _ h2).1,h3,h4⟩;have YO:dO 2 X.A.in1.in1:=hr.in1.in1;exact aeg (adK (EW (ps:=[x]) (N:=[x]) (us:=[.ref b]) (vs:=[.ref b]) (Q:=λv H'=>v=.str z∧H'=H) YO I.MJ.in1.in1 ho hc (hb pm vd (.ref b) c') S (.cons rfl .nil) rfl
  (eB E6 (yN (i:=0) rfl (Or.inl hx) hd pO) aG (λ_ _=>rfl)) ?_) λres s' hq=>?_)
 ·exact⟨_,rfl,b,_,0,.str z,rfl,rfl,cW.of e,cA (j:=0) rfl,rfl,rfl⟩
 ·cases res with
  |error e=>exact hq.elim
  |ok fl=>
   cases fl with
   |next=>exact False.elim hq
   |brk=>exact False.elim hq
   |cont=>exact False.elim hq
   |ret u=>
    let⟨v,H',os,bare,un,bp,rv,rfl,rfl⟩:=hq;let⟨t,rfl⟩:=rv;exact⟨⟨t,rfl⟩,un,bp,bare,os⟩
theorem pH.list{pins:ad}{σ:St}{s s':Shared}{out:List Value}{n:Nat}{xs:List V}(m:pH X H s s')(I:Inv X pins σ H s)(ha:s.heap.objs.size≤a)(e:s'.heap.get? a=some (seqObj "list" out.toArray n))(rv:Vals xs out)(hz:xs.length≤sizeLine):
  Inv X pins σ (L2.upd H a (.lst xs)) s':=by
 have na:H a=none:=I.bp.fresh ha;have ne:∀b o,s.heap.get? b=some o→b≠a:=λb o e=>aaw (aau (aak e) ha);obtain⟨h,g,d,t,os⟩:=s';obtain⟨un,bp,bare,eo⟩:=m;cases eo;exact I.call (h':=h) (g':=g) (d':=d) (t':=t) (ch:=[]) ⟨un.keep,un.slot,λb o q n hx=>?_,un.there,λb ys q=>?_,λb o u q=>?_,λb ps q=>?_⟩ (λb u q=>?_) bare (λb z=>absurd z (by simp))
 ·rw[ao (ne b o q)];exact un.free b o q n hx
 ·rw[ao (au q na)];exact q
 ·rw[ao (au q na)];exact q
 ·exact⟨#[],by rw[ao (au q na),q];simp⟩
 ·by_cases z:b=a
  ·subst z;rw[ar]at q;cases q
   exact⟨hz,out,n,rv,e⟩
  ·rw[ao z]at q
   exact(bp b u q).fM (λ_ _ _ k=>k) (λb' k=>by rw[ao (au k na)];exact k) λb' ys k=>by rw[ao (au k na)];exact k
theorem vN:∀{ys:List V} {us:List Value} {i:Nat} {v:Value},Vals ys us→us[i]?=some v→∃y,ys[i]?=some y∧RelV y v
 |_,_,i,v,.nil,h=>by simp at h
 |_,_,0,v,.cons (a:=y) r h,e=>by cases e;exact⟨y,rfl,r⟩
 |_,_,i+1,v,.cons r h,e=>vN (i:=i) h e
theorem yO{e:Expr}{ta:TA}{p oK rm pos:Pos}(hr:dO 4 X.A)(hg:Gl X "sorted")(hm:X.mg "sorted" = none)(ha:PA X [e] ta)
  (hq:X.env.qual ++ "<lambda>" = q) (tX:X.env.code=.ref c) (hC:W.codeHdIn X.K c P=true) (hB:IV X.mg X.base P) (S:aF [x] [x] scope) (hx:scope.names.lookup x=some .local)
  (hb:∀(pm vd u:Value) (c':Addr),bindArgs (W.kla_fn "<lambda>" q params (.Subscript (.Name x p1) (.Constant (.int 0) j p2) p3) scope [] pm (.ref c') vd) ⟨[u],[]⟩=pure [(x,u)])
  (hd:(x ==("__debug__" : Str))=false:=by decide) (pO:(x ==("__classdict__" : Str))=false:=by decide)
  (Fg:defaultsOf params X.env=([],[]):=by rfl) (AH:closureFor scope X.env=pure []:=by rfl)
  (he:backTo pos (starEach [e] X.env)=(false,eval e X.env)::backTo pos (starEach [] X.env):=by rfl) (i9:(backTo pos (starEach [e] X.env)).any (·.1)=false:=by rfl) :
  PE X (.Call (.Name "sorted" p) [e] [⟨some "key",.Lambda params (.Subscript (.Name x p1) (.Constant (.int 0) j p2) p3) scope oK,rm⟩] pos)
   (λσ H Q=>ta σ H λxs H1=>∃(l:Addr) (ys:List V),xs=[.ref l]∧H1 l=some (.tup ys)∧ys.length<64∧(∀y∈ys,IT H1 y)∧Cj H1 P q oK∧
    ∀(H2:Hp) (a:Addr) (zs:List V),(∀b o,b≠P→H1 b=some o→H2 b=some o)→Cj H2 P q oK→H2 a=none→zs.Perm ys→(zs.map (xo H1)).Pairwise (λu v=>¬v.cps.toList<u.cps.toList)→Q (.ref a) (upd H2 a (.lst zs))):=by
 exact .mk ?_;intro pins s σ H Q I h;exact abQ (gZ I hg hm boot_sorted ?_ (by decide) (by decide));exact callWith_kw (e:=e) (rest:=[]) ?_ he i9 rfl rfl;exact bD (ha pos pins s σ H _ I h) λus s1 ξ=>Ξ23 ξ λvs H1 I1 r1 q1=>?_;let⟨l,ys,rfl,hl,vF,hy,lt,k⟩:=q1;let⟨u,rfl,ru⟩:=vals1 r1;cases ru;exact bD ((Al (LG (pos:=oK) hq tX hC hB Fg AH) D8) pos pins s1 σ H1 (λzs H2=>∃f,zs=[.ref f]∧(∀b o,b≠P→H1 b=some o→H2 b=some o)∧Cj H2 P q oK∧M7 H2 f q params (.Subscript (.Name x p1) (.Constant (.int 0) j p2) p3) scope) I1
  ⟨lt,λf H2 _ kp Nj _ lh=>⟨f,rfl,kp,Nj,lh⟩⟩) λws s2⟨zs,H2,I2,r2,f,ez,kp,Nj,lh⟩=>?_
 subst ez;have nP:∀b ys,H1 b=some (.tup ys)→b≠P:=λb ys q z=>by
  rw[z]at q;rcases lt with w|⟨_,_,_,_,_,w,_⟩
  ·rw[w]at q;cases q
  ·rw[w]at q;cases q
 have tp:∀b ys,H1 b=some (.tup ys)→H2 b=some (.tup ys):=λb ys q=>kp b _ (nP b ys q) q;have Wu:∀y∈ys,IT H2 y:=λy m=>by
  let⟨a,z,r,e1,e2⟩:=hy y m;exact Ψ3 a z r ⟨e1,tp _ _ e2⟩
 let⟨its,rv,⟨o,ho,hc,⟨n,hd2⟩⟩,hz⟩:=I2.tuple (cW.of (K:=X.K) (tp _ _ hl));have ll:=rv.length;have fin:wpAny (model X.prog X.w) X.A (call (.builtin "sorted") [.ref l] [(Str.ofString "key",.ref f)]) (EP X pins σ Q) X.xe s2:=by
  exact vi (zs:=its.map (BV H2)) I2 ho hc hd2 (by rw[aae]) (by lia) (λi v z hv Gf=>?_) λs0 s' a out cc I0 ge m ea ob=>?_
  ·let⟨y,ey,ry⟩:=vN rv hv
   let⟨b,z',r,rfl,eb⟩:=Wu y (aaj ey);cases ry;rw[aaC,hv]at Gf;have Yy:some (BV H2 (.ref b))=some z:=Gf;have:z=z':=by
    cases Yy;exact qc eb
   subst this;exact HV hr lh S hx hb hd pO eb
  ·let⟨qs,pq,eo,pw⟩:=ob
   have key:∀q∈qs,q.1=BV H2 q.2:=λq hq=>by
    have hm:=pq.mem_iff.mp hq;let⟨i,hi⟩:=List.mem_iff_getElem?.mp hm;rw[List.getElem?_zip_eq_some,aaC]at hi;let⟨h1,h2⟩:=hi;rw[h2]at h1;exact(aaW h1).symm
   have po:out.toList.Perm its:=by
    rw[eo];have:=pq.map (·.2);rw[List.map_snd_zip (by rw[aae];exact aan _)]at this;exact this
   let⟨zs,pz,Ww⟩:=Bh po rv;have hs:(zs.map (xo H1)).Pairwise (λu v=>¬v.cps.toList<u.cps.toList):=by
    have e1:zs.map (xo H1)=zs.map (xo H2):=aci λy m=>by
     let⟨a,z,r,rfl,e2⟩:=hy y (pz.mem_iff.mp m);rw[qc e2,qc (tp _ _ e2)]
    rw[e1,←xn Ww (λy m=>Wu y (pz.mem_iff.mp m)),eo,aa8,ac7];exact pw.imp_of_mem λ{a b} ma mb Zh=>?_;show ¬(BV H2 b.2).cps.toList<(BV H2 a.2).cps.toList
    rw[←key a ma,←key b mb];exact Zh
   exact Ψ2 (.ref a) _ ⟨m.list I0 ge (out:=out.toList) (n:=cc) (by simpa using ea) Ww (by rw[pz.length_eq];exact hz),rfl,k H2 a zs kp Nj (I0.bp.fresh ge) pz hs⟩
 cases r2 with
 |cons r3 r4=>cases r4;cases r3;exact fin
end
end L2
namespace L3
open PySem PySem.Spec L2
def Gk(g:Str×T):T:=.tup [.str g.1,g.2]
theorem yE{H:Hp}:∀{gs:List (Str×T)} {vs:List V},Rs H vs (gs.map Gk)→vs.map (xo H)=gs.map (·.1)∧∀y∈vs,IT H y
 |[],vs,h=>by rw[bA h];exact⟨rfl,λ_ h=>(nomatch h)⟩
 |g::gs,vs,h=>by
  let⟨v,ws,rfl,a,b⟩:=bO h;let⟨p,us,rfl,hp,q⟩:=cp a;let⟨w,Cn,rfl,r1,_⟩:=bO q;rw[c4 r1]at hp;let⟨k1,k2⟩:=yE b;exact⟨by rw[aam,aam,k1,qc hp],λy hy=>?_⟩;rcases aah.mp hy with rfl|hy
  ·exact Ψ3 p _ _ ⟨rfl,hp⟩
  ·exact k2 y hy
abbrev Up(ss:List Str):Prop:=ss.Pairwise λu v=>¬v.cps.toList<u.cps.toList
def xx(P:Addr)(q:Str)(oK:Pos)(t:A3):E3:=λY τ Γ Z=>t Y τ Γ λxs Γ1=>∃gs:List (Str×T),xs=[.tup (gs.map Gk)]∧gs.length<64∧Γ1 P=some (.lam q oK)∧
 ∀(hs:List (Str×T)) (a:Addr),hs.Perm gs→Up (hs.map (·.1))→Γ1 a=none→Z (.ref a) (up Γ1 a (.lst (hs.map Gk)))
section
variable {X:Cx}{E:St→XK}{P c:Addr}{q x:Str}{params:Arguments}{scope:Scope}{p1 p2 p3 p oK rm pos:Pos}{j:Nat}{e:Expr}{t:A3}
theorem yI(hr:dO 4 X.A)(hg:Gl X "sorted")(hm:X.mg "sorted" = none)(ha:PA X [e] (uR E t))
  (hq:X.env.qual ++ "<lambda>" = q) (tX:X.env.code=.ref c) (hC:W.codeHdIn X.K c P=true) (hB:IV X.mg X.base P) (S:aF [x] [x] scope) (hx:scope.names.lookup x=some .local)
  (hb:∀(pm vd u:Value) (c':Addr),bindArgs (W.kla_fn "<lambda>" q params (.Subscript (.Name x p1) (.Constant (.int 0) j p2) p3) scope [] pm (.ref c') vd) ⟨[u],[]⟩=pure [(x,u)])
  (hd:(x ==("__debug__" : Str))=false:=by decide) (pO:(x ==("__classdict__" : Str))=false:=by decide)
  (Fg:defaultsOf params X.env=([],[]):=by rfl) (AH:closureFor scope X.env=pure []:=by rfl)
  (he:backTo pos (starEach [e] X.env)=(false,eval e X.env)::backTo pos (starEach [] X.env):=by rfl) (i9:(backTo pos (starEach [e] X.env)).any (·.1)=false:=by rfl) :
  PE X (.Call (.Name "sorted" p) [e] [⟨some "key",.Lambda params (.Subscript (.Name x p1) (.Constant (.int 0) j p2) p3) scope oK,rm⟩] pos) (bH E (xx P q oK t)):=
 cK (yO hr hg hm ha hq tX hC hB S hx hb hd pO Fg AH he i9) λσ H Q τ Γ Y Z rs hr t vr xr=>by
  exact Ψ4 τ Γ Y _ ⟨rs,hr,t,λvs xs H1 Γ1 s1 h1 r1 z1=>?_,xr⟩;let⟨gs,rfl,vF,gl,z⟩:=z1;let⟨v,rfl,a⟩:=sD r1;let⟨l,ys,rfl,hl,rq⟩:=cp a;exact Ψ2 l ys ⟨rfl,hl,by rw[rq.length,aae];exact vF,(yE rq).2,h1 P _ gl,λH2 b zs kp Nj nb pz hs=>?_⟩;let⟨ms,pm,hm⟩:=GS pz rq;rw[(yE hm).1]at hs;have P1:∃u,H1 P=some u∧(∀vs:List V,u≠.tup vs)∧∀b w,u≠.frz b w:=(h1 P _ gl).some;let⟨u1,e1,n1,n2⟩:=P1;have tq:Tq H1 H2:=⟨λb ys e=>kp b _ (λw=>by rw[w,e1]at e;cases e;exact n1 _ rfl) e,λb o u e=>kp b _ (λw=>by rw[w,e1]at e;cases e;exact n2 _ _ rfl) e⟩;have nP:∀b,Γ1 b=none→b≠P:=λb g w=>by rw[w,gl]at g;cases g
  have P2:H2 P≠none:=λw=>by
   rcases Nj with k|⟨_,_,_,_,_,k,_⟩
   ·rw[k]at w;cases w
   ·rw[k]at w;cases w
  have dm:∀b,H1 b≠none→H2 b≠none:=λb n w=>by
   by_cases e:b=P
   ·rw[e]at w;exact P2 w
   ·cases e3:H1 b with
    |none=>exact n e3
    |some o=>rw[kp b o e e3]at w;cases w
  have st:eW H1 Γ1 H2 Γ1:=⟨tq,dm,λ_ _ g=>g,λb o e g=>kp b o (nP b g) e⟩;have h2:HR H2 Γ1:=λb o g=>by
   by_cases e:b=P
   ·subst e;rw[gl]at g;cases g;exact Nj
   ·exact(h1 b o g).mono tq λu k=>kp b u e k
  have k:=bo (o:=.lst zs) nb;exact vr _ _ _ _ (s1.trans (st.trans (.make nb))) (h2.make (o3:=.lst (ms.map Gk)) nb ⟨_,ar,(hm.mono tq).mono (dA k)⟩) jG (z ms b pm hs (h2.free nb))
end
end L3
namespace L2
open PySem PySem.Spec PyProof.Rows
variable {w:World}{K:W.Frag}{k:Nat}{a c P:Addr}{x:Str}{A:Around}{s:Shared}{kx vx iter tg:Expr}{scope:Scope}{pos:Pos}{X:Cx}
def Bc(P:Addr)(H:Hp):Prop:=H P=some (.tbl #[])∧∀b,b≠P→H b=none∨∃o xs,H b=some (.frz o (.lst xs))
def BMod(mg:ac)(h:Heap):Prop:=∃bm ob,mg "__builtins__" = some (.ref bm)∧bm≠builtinsNs∧h.get? bm=some ob∧ob.cls=.type "module" ∧ ob.dict=some builtinsNs∧ob.data=.plain
theorem BK{Pr:Program}{mg mb:ac}{CX:x8}{fa:Addr}{fd:FuncData}{sp:Sp}{s₁:Shared}{vs:List Value}{ns:List Int}
  (KX:K.In s₁.heap) (UE:s₁.heap.Ns mainGlobals mg) (hb:s₁.heap.Ns builtinsNs mb) (Ze:∀x:Str,x ≠ "__name__" → mb x=bootBuiltins x) (UJ:s₁.heap.NoLimit) (hg:s₁.gens=#[]) (Zd:BMod mg s₁.heap)
  (hC:W.CodeHd s₁.heap c P) (hP:s₁.heap.get? P=some (W.tabObj #[])) (QA:K.lookup P=none)
  (ha:s₁.heap.get? a=some {cls:=.type "list",data:=.seq vs.toArray}) (hi:IntsAre vs ns) (hl:ns.length≤sizeLine) (hr:dO k callerA)
  (F:∀base:Heap,K.In base→base.Ns mainGlobals mg→IV mg base P→bq Pr w K mg base CX k fa fd [x] sp) (Qu:∀(s:Shared) (u:Value),BindsTo s fd ⟨[u],[]⟩ [(x,u)])
  (uV:∀H:Hp,Bc P H→eh K H a (ns.map V.int)→sp [.ref a] H (λv _=>v=.bl true) λ_ _ _=>False)
  (U1:∀H e s',CX [] H s₁ (λ_ _ _=>False) e s'→False) :
  codeAny (model Pr w) callerA (.call (.ref fa) ⟨[.ref a],[]⟩) (λr s'=>r=.ok (.ret (.bool true))∧OldK s₁.heap s'.heap∧s'.os=s₁.os∧AllBare s'.gens) s₁:=by
 have rv:=tG hi;have T5:=hi.length;have aP:a≠P:=λz=>by rw[z,hP]at ha;cases ha
 have core:∀H:Hp,Bc P H→eh K H a (ns.map V.int)→jJ Pr w H s₁.heap→(∀b,H b≠none→b=a∨b=P)→(H a≠none→K.lookup a=none)→
   codeAny (model Pr w) callerA (.call (.ref fa) ⟨[.ref a],[]⟩) (λr s'=>r=.ok (.ret (.bool true))∧OldK s₁.heap s'.heap∧s'.os=s₁.os∧AllBare s'.gens) s₁:=by
  intro H hO hS bp hA hK;have dat:∀{b:Addr} {o:Obj},s₁.heap.get? b=some o→(∀xs n,o.data≠.seq xs n)→(∀xs,o.data≠.fields xs)→H b=none:=λ{b o} e d1 d2=>by
   cases q:H b with
   |none=>rfl
   |some u=>
    rcases hA b (by rw[q];simp)with z|z
    ·subst z;rw[ha]at e;cases e;exact absurd rfl (d1 _ _)
    ·subst z;rw[hP]at e;cases e;exact absurd rfl (d2 _)
  have RC:∀{b:Addr} {m:ac},s₁.heap.Ns b m→(uW s₁.heap H).Ns b m:=λ{b m} ⟨o,es,ep,e,d,r⟩=>Ψ3 o es ep ⟨rB e (dat e (λ_ _ z=>by rw[d]at z;cases z) (λ_ z=>by rw[d]at z;cases z)),d,r⟩;have WS:K.In (uW s₁.heap H):=λb o e=>rB (KX b o e) (by
   cases q:H b with
   |none=>rfl
   |some u=>
    rcases hA b (by rw[q];simp)with z|z
    ·subst z;rw[hK (by rw[q];simp)]at e;cases e
    ·subst z;rw[QA]at e;cases e)
  have hM:Mod K mg (uW s₁.heap H):=⟨WS,RC UE,⟨mb,RC hb,Ze⟩,let⟨mc,h1,h2⟩:=UJ;⟨mc,RC h1,h2⟩⟩;have hB:IV mg (uW s₁.heap H) P:=by
   let⟨bm,ob,b1,b2,b3,b4,b5,b6⟩:=Zd;exact Ψ2 bm ob ⟨b1,b2,λz=>?_,λz=>?_,rB b3 (dat b3 (λ_ _ z=>by rw[b6]at z;cases z) (λ_ z=>by rw[b6]at z;cases z)),b4,b5,b6⟩
   ·let⟨o,es,ep,e,d,_⟩:=UE
    rw[z,e]at b3;cases b3;rw[b6]at d;cases d
   ·rw[z,hP]at b3;cases b3;cases b6
  have e0:x6 Pr w K mg (uW s₁.heap H) callerA [] s₁ H:=⟨rfl,hM,λb o e=>HL e,Nat.le_of_eq (BU _ _),trivial,λb hb=>absurd (show b∈([]:List Addr)from hb) (by simp),bp,.of_eq hg⟩;exact adK ((F _ WS (RC UE) hB).run callerA [] s₁ H ⟨[.ref a],[]⟩ [.ref a] [.ref a] _ _ hr e0 (Qu s₁ (.ref a)) (.cons rfl .nil) (uV H hO hS)) λr s' h=>?_;cases r with
  |error e=>exact(U1 H e s' h).elim
  |ok fl=>
   cases fl with
   |next=>exact False.elim h
   |brk=>exact False.elim h
   |cont=>exact False.elim h
   |ret u=>
    let⟨v,H',os,bare,un,Qe,r',q⟩:=h;have q':v=.bl true:=q;subst q';obtain rfl:u=Value.bool true:=r';have same:∀b o,b≠P→s₁.heap.get? b=some o→s'.heap.get? b=some o:=λb o Qi e=>by
     cases q:H b with
     |none=>exact un.keep b o e q (by intro z;exact absurd (show b∈([]:List Addr)from z) (by simp)) (by simp)
     |some u=>
      rcases hO.2 b Qi with z|⟨ob,xs,z⟩
      ·rw[q]at z;cases z
      ·have z2:=un.fW b ob _ z
       have e1:=(bp b _ z).1;have e2:=(Qe b _ z2).1;rw[e]at e1;cases e1;exact e2
    let⟨more,hm⟩:=un.fL P #[] hO.1;have tab:s'.heap.get? P=some (W.tabObj (#[]++more)):=Qe P _ hm;exact⟨rfl,⟨λb o e=>?_,λb o e=>?_⟩,os,bare⟩
    ·by_cases z:b=P
     ·subst z
      rw[hP]at e;cases e;exact .inr (.inl ⟨(hC.tab hP).isCodeTable,rfl,#[],more,rfl,tab⟩)
     ·exact .inl (same b o z e)
    ·by_cases z:b=P
     ·subst z;exact⟨_,tab⟩
     ·exact⟨o,same b o z e⟩
 cases hk:K.lookup a with
 |some o=>
  have e:=KX a o hk;rw[ha]at e;cases e;exact core (λb=>if b=P then some (.tbl #[])else none) ⟨aaA rfl,λb hb=>.inl (aaz hb)⟩ (.inr ⟨_,vs.toArray,_,hk,rfl,rfl,rfl,by rw[aai,T5];exact hl,by simpa using rv⟩) (λb u z=>?_) (λb z=>?_) λz=>absurd (aaz aP) z
  ·by_cases hb:b=P
   ·have z':=(aaA hb).symm.trans z
    cases z';subst hb;exact hP
   ·have z':=(aaz hb).symm.trans z
    cases z'
  ·by_cases hb:b=P
   ·exact .inr hb
   ·exact absurd (aaz hb) z
 |none=>
  have at_:∀b,b≠a→b≠P→(if b=P then some (.tbl #[])else if b=a then some (.frz {cls:=.type "list",data:=.seq vs.toArray} (.lst (ns.map V.int)))else none:Option HO)=none:=λb h1 h2=>by rw[aaz h2,aaz h1]
  have Vk:(if a=P then some (.tbl #[])else if a=a then some (.frz {cls:=.type "list",data:=.seq vs.toArray} (.lst (ns.map V.int)))else none:Option HO)=some (.frz {cls:=.type "list",data:=.seq vs.toArray} (.lst (ns.map V.int))):=by rw[aaz aP,aaA rfl]
  exact core (λb=>if b=P then some (.tbl #[])else if b=a then some (.frz {cls:=.type "list",data:=.seq vs.toArray} (.lst (ns.map V.int)))else none) ⟨aaA rfl,λb hb=>?_⟩ (.inl (.inr ⟨{cls:=.type "list",data:=.seq vs.toArray},Vk⟩)) (λb u z=>?_) (λb z=>?_) λ_=>hk
  ·by_cases h1:b=a
   ·subst h1;exact .inr ⟨_,_,Vk⟩
   ·exact .inl (at_ b h1 hb)
  ·by_cases hb:b=P
   ·subst hb
    have z':=(aaA rfl).symm.trans z;cases z';exact hP
   ·by_cases h1:b=a
    ·subst h1
     have z':=Vk.symm.trans z;cases z';exact⟨ha,by rw[aae];exact hl,vs,_,rv,ha⟩
    ·have z':=(at_ b h1 hb).symm.trans z
     cases z'
  ·by_cases hb:b=P
   ·exact .inr hb
   ·by_cases h1:b=a
    ·exact .inl h1
    ·exact absurd (at_ b h1 hb) z
theorem CU{l:W.OpenLaw}{n:Nat}{q:Program}{loose:List Str}{XP:(ac)→Heap→Prop}{YP:World→Heap→Prop}{d:DefRec}{K:Params→W.Frag}{CX:World→x8}{sp:World→Sp}
  (hn:l.most=some n) (YV:n≤sizeLine) (JE:d.params.defaults=[]) (hr:dO k callerA)
  (hY:∀(w:World) (h:Heap),YP w h→(K w.params).In h) (hT:∀(w:World) (h:Heap),YP w h→h.get? P=some (W.tabObj #[])) (hC:∀w:World,W.codeHdIn (K w.params) c P=true) (QA:∀w:World,(K w.params).lookup P=none)
  (F:∀(w:World) (mg:ac) (fa:Addr) (h:Heap),(K w.params).In h→h.Ns mainGlobals mg→mg d.name=some (.ref fa)→
   ∃fd:FuncData,(∀(s:Shared) (u:Value),BindsTo s fd ⟨[u],[]⟩ [(x,u)])∧
    ∀base:Heap,(K w.params).In base→base.Ns mainGlobals mg→IV mg base P→bq l.prog w (K w.params) mg base (CX w) k fa fd [x] (sp w))
  (uV:∀(w:World) (H:Hp) (a:Addr) (ns:List Int),ns.length≤n→Bc P H→eh (K w.params) H a (ns.map V.int)→sp w [.ref a] H (λv _=>v=.bl true) λ_ _ _=>False)
  (U1:∀(w:World) (H:Hp) (s:Shared) (e:Value) (s':Shared),CX w [] H s (λ_ _ _=>False) e s'→False) :
  W.WalkO q loose XP YP l.row.toRowW d [] (λf vs=>PySem.call f vs):=by
 exact Si.xW hn JE λw s₀ s₁ mg mb fa o pm cd doc a vs ns G Y ho hd pO Ql Mh hints hlen hg=>?_;have KX:=hY w _ Y;let⟨fd,hb,hF⟩:=F w mg fa _ KX G.T.g Ql;exact BK KX G.T.g G.T.b G.T.builtins G.T.nolimit hg G.T.bmain (W.codeHd_of_K KX (hC w)) (hT w _ Y) (QA w) Mh hints (aaG hlen YV) hr hF hb (λH hO hS=>uV w H a ns hlen hO hS) λH e s'=>U1 w H s₁ e s'
theorem sV{prog:Program}{R:Result→Shared→Prop}{target:Expr}{it:Value}{D:Addr}{env:Env}(I:Nat→Shared→Prop)
  (turn:∀n s,I n s→wpAny (model prog w) A (pyNext it) (λr s₁=>match r with
   |none=>R (.ok .next) s₁
   |some v=>wpAny (model prog w) A (letOwnedTupleGo target it v) (λ_ Jb=>wpAny (model prog w) A (assign target env v) (λ_ s₂=>
      wpAny (model prog w) A (eval kx env) (λkv s₃=>wpAny (model prog w) A (eval vx env) (λvv s₄=>
       wpAny (model prog w) A (dictSet D kv vv) (λ_ s₅=>∃m,m<n∧I m s₅) (notedBy (model prog w) A env λe s'=>R (.error e) s') s₄) (notedBy (model prog w) A env λe s'=>R (.error e) s') s₃) (notedBy (model prog w) A env λe s'=>R (.error e) s') s₂) (notedBy (model prog w) A env λe s'=>R (.error e) s') Jb) (notedBy (model prog w) A env λe s'=>R (.error e) s') s₁) (notedBy (model prog w) A env λe s'=>R (.error e) s') s)
  (n:Nat) (h:I n s) :
  codeAny (model prog w) A (.compLoop (.DictComp kx vx [⟨target,iter,[],0⟩] scope pos) 0 it (.ref D) env) R s:=by
 exact codeAny_loop rfl I (λn s hI=>?_) n h;show wpAny _ A ((compTurn (.DictComp kx vx [⟨target,iter,[],0⟩] scope pos) 0 it (.ref D) env).onRaise (λx=>do noteFrame x env;theTreesLotGoes x)) _ _ s
 exact wpAny_noted ?_;rw[compTurn_dict];exact aaa (abP (aaa (aaB (turn n s hI) (λr s₁ h₁=>?_) λ_ _ h'=>h')));cases r with
 |none=>exact aad h₁
 |some v=>
  exact aaa (aaB h₁ (λ_ Jb P7=>?_) λ_ _ h'=>h');exact aaa (aaB P7 (λ_ s₂ h₂=>aaa (wpAny_tests_nil ?_)) λ_ _ h'=>h');exact aaa (aaa (aaB h₂ (λkv s₃ h₃=>aaa (aaR (aaB h₃ (λvv s₄ h₄=>aaa (abP (aaR (aaB h₄ (λ_ s₅ h₅=>aad ⟨rfl,h₅⟩) λ_ _ h'=>h')))) λ_ _ h'=>h'))) λ_ _ h'=>h'))
section
variable {pins:ad}{σ:St}{H:Hp}{E:xz}{aN:List (Key×V)}{k:Key}{v:V}{u r:Value}
theorem QT{Q:Unit→Shared→Prop}(I:Inv X pins σ H s)(e:H a=some (.dK aN))(l:aN.length<sizeLine)(ry:RelV (kV k) u)(rv:RelV v r)(h:∀s',Inv X pins σ (upd H a (.dK (putK aN k v))) s'→Q () s'):
  wpAny (model X.prog X.w) A (dictSet a u r) Q E s:=by
 let⟨z,hd,⟨vs,rel,dd⟩⟩:=JP I.bp e;have hz:vs.length≤sizeLine:=by rw[←rel.length];exact z
 have hl:(putK aN k v).length≤sizeLine:=by have:=ke aN k v;lia
 unfold dictSet
 try with_reducible exact aaR ?_
 exact aaa ((cH X.prog X.w).pyHash (wW ry) ?_);have I1:=I.tok (s.toks+1);exact wpAny_dictSetHashed_pairs (knd:=cH X.prog X.w) (s:={s with toks:=s.toks+1}) (wW ry) dd (λh' MN hs=>h _ ?_) hz;have he:∃q,h'.get? a=some q:=let⟨q,_,_,hq,_⟩:=MN;⟨q,hq⟩
 exact u9 I1 (by rw[e];exact True.intro) hs he (Fy hl hd (rel.put k rv) MN)
end
def Dr(wi:TI)(g:TG)(tk tv:TE)(own:List Str)(cap:List (Nat×Str)):TE:=λσ H Q=>wi σ H λJ H1=>∀D,H1 D=none→
 ∃W:Nat→Nat→St→List (Key×V)→Hp→Prop,(∃m,W 0 m (da own cap σ) [] (upd H1 D (.dK [])))∧∀i m σ' aN H',W i m σ' aN H'→H' D=some (.dK aN)∧
  ((J.stop i H'∧Q (.ref D) H')∨(J.go i H'∧aN.length<sizeLine∧∃N:St→List (Key×V)→Hp→Prop,(∀σ aN H,N σ aN H→∃m',m' < m∧W (i+1) m' σ aN H)∧∀x H2,J.nJ i H' x H2→g x σ' H2 λσ3 H3=>tk σ3 H3 λy H4=>tv σ3 H4 λz H5=>∃k,y=kV k∧H5 D=some (.dK aN)∧
   N σ3 (putK aN k z) (upd H5 D (.dK (putK aN k z)))))
section
variable {cl:List (Str×Addr)}{own:List Str}{cap:List (Nat×Str)}{wi:TI}{g:TG}{tk tv:TE}
theorem Ee(c:cV X scope cl own cap)(hc:X.calm=true)(hi:PI X tg iter wi)
  (hg:∀C s H fp,PG (aQ X (own++cap.map (·.2)) scope cl C s H fp λ_ _=>False) tg g)
  (hk:∀C s H fp,PE (aQ X (own++cap.map (·.2)) scope cl C s H fp λ_ _=>False) kx tk)
  (hv:∀C s H fp,PE (aQ X (own++cap.map (·.2)) scope cl C s H fp λ_ _=>False) vx tv) (hs:∀x,foldedSetIterable iter X.env x=pure x:=by intro _;rfl) :
  PE X (.DictComp kx vx [⟨tg,iter,[],0⟩] scope pos) (Dr wi g tk tv own cap):=by
 exact .mk ?_;intro pins s σ H Q I h;show wpAny _ X.A (comprehension (.DictComp kx vx [⟨tg,iter,[],0⟩] scope pos) scope X.env _ newDict false (eval iter X.env)) _ _ s
 exact abW (use:=none) rfl hs c.zA c.kind c.names (bD (hi pins s σ H _ I h) λv s1 h1=>bD h1 λJz s2 h2=>?_);let⟨it,fp,tn,J,H2,e,I2,T,nM,f2,hw⟩:=h2;subst e;exact aaL (acR c.cell (by intro y hy;simp at hy) (λh₁ kO kh=>?_) c.kind) (by size_fits);dsimp only at kO kh ⊢;have hO:=Fz (P:=X.prog) (w:=X.w) (H:=upd H2 s2.heap.objs.size (.dK [])) s2.heap I2.big;generalize hOO:({cls:=.type "dict",data:=.dict #[]}:Obj)=O at hO kO kh ⊢;have hsz:(s2.heap.push O).objs.size=s2.heap.objs.size+1:=abk _ _;have kk:∀b o,s2.heap.get? b=some o→h₁.get? b=some o:=λb o e=>kh.extBut b o (by rw[hsz];exact aaw (abw (aak e))) (aab _ (aab _ e));have MB:bS X.prog X.w (upd H2 s2.heap.objs.size (.dK [])) h₁ s2.heap.objs.size (.dK []):=by
  exact hO.fM (λb u hb q=>?_) (λ_ q=>q) λ_ _ q=>q;rcases hb with rfl|hb
  ·exact kh.extBut _ _ (by rw[hsz];exact aaw (acg _)) (aab _ q)
  ·by_cases z:b=s2.heap.objs.size
   ·subst z;rw[ar]at hb;cases hb
   ·rw[ao z]at hb
    have lt:b<s2.heap.objs.size:=I2.bp.lt hb;exact kh.extBut _ _ (by rw[hsz];exact aaw (abw lt)) (aab _ q)
 rw[hsz]at kO ⊢;have cG:∀b∈fp,b<s2.heap.objs.size:=λb hb=>by
  let⟨o,e,_⟩:=T.obj _ _ nM b hb;exact aak e
 let⟨W,⟨m0,w0⟩,turn⟩:=hw s2.heap.objs.size I2.fresh;have J1:=B7 (E:=λ_ _=>False) c I2 f2 cG (tk:=s2.toks+([]:List (Str×Value)).length) kk MB kO;generalize fZ:aQ X (own++cap.map (·.2)) scope cl (s2.heap.objs.size+1) s2 H2 fp (λ_ _=>False)=X' at J1;have Ij:PG X' tg g:=fZ ▸ hg _ _ _ _;have BS:PE X' kx tk:=fZ ▸ hk _ _ _ _;have Gg:PE X' vx tv:=fZ ▸ hv _ _ _ _;have pX:X'.prog=X.prog:=by rw[←fZ];rfl
 have wX:X'.w=X.w:=by rw[←fZ];rfl
 have kX:X'.K=X.K:=by rw[←fZ];rfl
 have aX:X'.A=X.A:=by rw[←fZ];rfl
 have cX:X'.calm=true:=by rw[←fZ];exact hc
 have nX:X'.env=compEnvC scope cl (s2.heap.objs.size+1) X.env:=by rw[←fZ];rfl
 have xX:X'.xe=λ_ _=>False:=by rw[←fZ];rfl
 have fX:∀b∈fp,∀{H':Hp},H' b=none→eG X' [] H' b:=λb hb {H'} hn=>by
  have o1:=(fD (E:=λ_ _=>False) c I2 f2 cG (C:=s2.heap.objs.size+1) (abl _)).Gm b hb;have o2:=(fD (E:=λ_ _=>False) c I2 f2 cG (C:=s2.heap.objs.size+1) (abl _)).pQ b hb;rw[←fZ];exact⟨hn,o1.1,o2,.inl hb,o1.2,λp hp=>absurd (show p∈([]:ad)from hp) (by simp)⟩
 have Qy:∀D C s' H' m,Inv X pins σ H' s'→eG X pins H' C→s'.heap.Ns C m→Q (.ref D) H'→compPost (model X.prog X.w) X.A X.xe none (EP X pins σ Q) (.ref D) C (.ok .next) s':=by
  intro D C s' H' m I' hC hm q;exact⟨m,hm,λh' se=>Ψ2 (.ref D) H' ⟨?_,rfl,q⟩⟩;exact I'.turned (t':=s'.toks) (λb o hb e=>(se.2 b hb).trans e) hC.1 hC.2.1 hC.2.2.2.1 hC.2.2.2.2.1 hC.2.2.2.2.2
 have fin:∀{σ':St} {H':Hp} {s':Shared},Inv X' [] σ' H' s'→Q (.ref s2.heap.objs.size) H'→compPost (model X.prog X.w) X.A X.xe none (EP X pins σ Q) (.ref s2.heap.objs.size) (s2.heap.objs.size+1) (.ok .next) s':=λ{σ' H' s'} J' q=>by
  rw[←fZ]at J';let⟨A1,A2⟩:=hU I2 f2 (abl _) J';let⟨m,hm,_⟩:=J'.loc;exact Qy _ _ s' H' m A1 A2 hm q
 have loop:codeAny (model X.prog X.w) X.A (.compLoop (.DictComp kx vx [⟨tg,iter,[],0⟩] scope pos) 0 (.ref it) (.ref s2.heap.objs.size) (compEnvC scope cl (s2.heap.objs.size+1) X.env)) (compPost (model X.prog X.w) X.A X.xe none (EP X pins σ Q) (.ref s2.heap.objs.size) (s2.heap.objs.size+1))
   {s2 with heap:=h₁,toks:=s2.toks+([]:List (Str×Value)).length}:=by
  exact sV (λn s'=>∃i σ' aN H',Inv X' [] σ' H' s'∧tn i s'.heap∧(∀b∈fp,H' b=none)∧W i n σ' aN H') ?_ m0
   ⟨0,_,_,_,J1,T.keep _ _ _ nM λb _ o e=>kk b o e,λb hb=>by rw[ao (aaw (cG b hb))];exact(f2 b hb).1,w0⟩
  intro n s3⟨i,σ3,aN,H3,I3,vV,xp,w3⟩;let⟨WX,w4⟩:=turn i n σ3 aN H3 w3;rw[←nX,←aX,←pX,←wX];have iA:∀{α:Type} {t:Sem α} {Q1:α→Shared→Prop} {E1:xz} {s:Shared},wpAny (model X'.prog X'.w) X'.A t Q1 X'.xe s→wpAny (model X'.prog X'.w) X'.A t Q1 E1 s:=λ{α t Q1 E1 s} h=>by
   rw[xX]at h;exact aaB h (λ_ _ q=>q) λ_ _ f=>f.elim
  rcases w4 with⟨stop,qn⟩|⟨go,hz,N,hN,step⟩
  ·have d:=T.done X' pX wX kX cX i [] s3 σ3 H3 X'.xe I3 (λb hb=>fX b hb (xp b hb)) vV stop
   rw[←pX,←wX]at d;exact iA (bD d λr s4 ξ=>Ξ02 ξ λhr I4=>?_);subst hr;have f4:=fin I4 qn;rw[←pX,←wX,←aX]at f4;exact f4
  ·have d:=T.item X' pX wX kX cX i [] s3 σ3 H3 X'.xe I3 (λb hb=>fX b hb (xp b hb)) vV go
   rw[←pX,←wX]at d;exact iA (bD d λr s4 ξ=>Ξ12 ξ λu hr h4=>?_);subst hr;exact iA (bD h4 λ_ s5 ξ=>Ξ21 ξ λx H5 ξ=>Ξ05 ξ λI5 r5 y5 qt Fn=>?_);have F2:=I5.pinned (λb hb=>fX b hb (Fn b hb)) (T.obj _ _ qt);have again:∀{σ7:St} {H7:Hp} {s7:Shared} {zb:List (Key×V)},Inv X' ([]++jv fp s5.heap) σ7 H7 s7→N σ7 zb H7→
     ∃m,m<n∧∃i σ' aN H',Inv X' [] σ' H' s7∧tn i s7.heap∧(∀b∈fp,H' b=none)∧W i m σ' aN H':=λ{σ7 H7 s7 zb} I7 n7=>by
    let⟨m',hm,w7⟩:=hN _ _ _ n7;exact⟨m',hm,i+1,σ7,zb,H7,I7.fF,T.keep _ _ _ qt λb hb o e=>(I7.pin (b,o) (aas _ (aas _ (b8 hb e)))).1,λb hb=>?_,w7⟩;let⟨o,e,d⟩:=T.obj _ _ qt b hb;exact(I7.pin (b,o) (aas _ (aas _ (b8 hb e)))).2.1
   exact iA (bD (Ij _ s5 σ3 H5 x u _ F2 r5 (step x H5 y5)) λ_ s6 ξ=>Ξ22 ξ λσ6 H6 I6 q6=>?_);exact iA (bD (BS _ s6 σ6 H6 _ I6 q6) λu7 s7 ξ=>Ξ23 ξ λy7 H7 I7 r7 q7=>?_);exact iA (bD (Gg _ s7 σ6 H7 _ I7 q7) λu8 s8⟨y8,H8,I8,r8,k8,e8,d8,q8⟩=>?_);subst e8;exact iA (QT I8 d8 hz r7 r8 λs9 I9=>again I9 q8)
 exact codeAny_compStart_dict loop (T.self X.A 0 _ _ _ (T.keep _ _ _ nM λb _ o e=>kk b o e) loop)
end
def Vv(K:W.Frag)(a:Addr)(n:Nat):It:=
 ⟨λi H=>∃xs,eh K H a xs∧xs.length=n∧i<n,λi H x H'=>H'=H∧∀xs,eh K H a xs→xs[n-1-i]?=some x,λi _=>i=n⟩
theorem Dj{P:Program}(a it:Addr)(n:Nat):Turn P w K tg (Vv K a n) [it] it (λi h=>h.IsRevIter it a ((n:Int)-1-(i:Int))) where
 mem:=by simp
 obj:=λi h st b hb=>by
  have e:b=it:=by simpa using hb
  subst e;let⟨o,e,c,d⟩:=st;exact⟨o,e,λv z=>by rw[d]at z;cases z⟩
 keep:=λi h h' st k=>st.at λo e=>k it (by simp) o e
 item:=by
  intro X hP hw hK hc i pins s σ H E I hf st hg;subst hP hw hK;let⟨xs,hq,hn,hi⟩:=hg;let⟨its,rv,p,hz⟩:=I.list hq;have hj:n-1-i<xs.length:=by lia
  have hx:xs[n-1-i]?=some (xs[n-1-i]):=aac hj;let⟨u,hu,ru⟩:=rv.get hx;let⟨f0,f1,f2,f3,f4,f5⟩:=hf it (by simp);have e0:(n:Int)-1-(i:Int)=((n-1-i:Nat):Int):=by lia
  have Tc:s.heap.IsRevIter it a ((n-1-i:Nat):Int):=e0 ▸ st;exact wpAny_pyNext_rev_item Tc p.isList (x:=u) (by simpa using hu) λh' si sb=>?_;have e1:((n-1-i:Nat):Int)-1=(n:Int)-1-((i+1:Nat):Int):=by lia
  rw[e1]at si;have I1:Inv X pins σ H {s with heap:=h'}:=I.turned (t':=s.toks) (λb o hb e=>(sb.2 b hb).trans e) f0 f1 f3 f4 f5;let⟨o,e,c,d⟩:=id si;exact⟨u,rfl,xi (s:={s with heap:=h'}) e c d (by decide) ⟨_,H,I1,ru,⟨rfl,λys hy=>by rw[I.wM hy hq];exact hx⟩,si,λb hb=>(hf b hb).1⟩⟩
 done:=by
  intro X hP hw hK hc i pins s σ H E I hf st hg;subst hP hw hK;have Ij:i=n:=hg;subst Ij;let⟨f0,f1,f2,f3,f4,f5⟩:=hf it (by simp);have e0:(i:Int)-1-(i:Int)=-1:=by lia
  have Tc:s.heap.IsRevIter it a (-1):=e0 ▸ st;exact wpAny_pyNext_rev_end (I.ok.hd hc) Tc λh' eb=>⟨rfl,I.turned (t':=s.toks) (λb o hb e=>eb b o hb e) f0 f1 f3 f4 f5⟩
 self:=λ_ _ _ _ _ st h=>wpAny_pyIter_revIter st h
section
def Ul(K:W.Frag)(ta:TA):TI:=λσ H R=>ta σ H λvs H1=>∃(a:Addr) (xs:List V),vs=[.ref a]∧eh K H1 a xs∧R (Vv K a xs.length) H1
theorem LA{a:Expr}{ta:TA}{p:Pos}(hg:Gl X "reversed")(hm:X.mg "reversed" = none)(ha:PA X [a] ta)(hs:starEach [a] X.env=[(false,eval a X.env)]:=by rfl):
  PI X tg (.Call (.Name "reversed" p) [a] [] pos) (Ul X.K ta):=by
 exact .mk ?_;intro pins s σ H R I h;exact Call_ (gZ I hg hm boot_reversed (abd (bD (ha pos pins s σ H _ I h) λus s1 ξ=>Ξ23 ξ λvs H1 I1 r1 q1=>?_) hs rfl));let⟨u1,xs,e,hx,q⟩:=q1;subst e;cases r1 with
 |cons r rr=>
  cases rr;cases r;let⟨its,rv,X6,_⟩:=I1.list hx;have ll:=rv.length;exact call_reversed_list X6.isList ?_;have hit:(s1.heap.push (revObj u1 ((its.toArray.size:Int)-1))).IsRevIter s1.heap.objs.size u1 ((xs.length:Int)-1-((0:Nat):Int)):=⟨_,aaq _ rfl,rfl,by
   have:((its.toArray.size:Nat):Int)-1=(xs.length:Int)-1-((0:Nat):Int):=by simp;lia
   rw[←this];rfl⟩
  exact wpAny_pyIter_revIter hit ?_;exact Ψ5 s1.heap.objs.size [s1.heap.objs.size] _ _ H1 ⟨rfl,I1.kept (t':=s1.toks) (λb o e=>aab _ e),Dj u1 _ xs.length,hit,λc hc=>?_,q⟩;have Ct:c=s1.heap.objs.size:=by simpa using hc
  subst Ct;exact I1.xq (aan _) (I1.bp.fresh (aan _))
end
end L2
namespace L3
open PySem PySem.Spec L2
variable {wi:I3}{g:G3}{tk tv:E3}{own:List Str}{cap:List (Nat×Str)}{tg:Expr}
section
variable {X:Cx}{E:St→XK}{p pos:Pos}
def CV(gd:Gp→Prop)(g:G3)(tk tv:E3)(C:List (Key×T)→Gp→Prop)(ts:List T)(τ:S3)(Γ:Gp):Prop:=∃P:List T→S3→List (Key×T)→Gp→Prop,P ts τ [] Γ∧(∀τ ys Γ,P [] τ ys Γ→gd Γ∧C ys Γ)∧
 ∀x r τ ys Γ,P (x::r) τ ys Γ→gd Γ∧g Y0 x τ Γ λτ3 Γ3=>tk Y0 τ3 Γ3 λy Γ4=>tv Y0 τ3 Γ4 λz Γ5=>∃k,y=kT k∧P r τ3 (jZ ys k z) Γ5
def zu(wi:I3)(g:G3)(tk tv:E3)(own:List Str)(cap:List (Nat×Str)):E3:=λY τ Γ Z=>wi Y τ Γ λts gd Γ1=>ts.length<sizeLine∧
 CV gd g tk tv (λys Γ2=>∀D,Γ2 D=none→Z (.ref D) (up Γ2 D (.dK ys))) ts (Cf own cap τ) Γ1
theorem Br(ys:List (Key×T))(k:Key)(z:T):(jZ ys k z).length≤ys.length+1:=by
 unfold jZ;split
 ·rw[aae];exact abl _
 ·rw[aag];exact aan _
theorem B0(σ:St)(H:Hp)(Q:VK)(q:bH E (zu wi g tk tv own cap) σ H Q):Dr (vD E wi) (vE EN g) (bH EN tk) (bH EN tv) own cap σ H Q:=by
 let⟨τ,Γ,Y,Z,rs,hr,t,vr,xr⟩:=q;exact Ψ4 τ Γ Y _ ⟨rs,hr,t,λJ ts gd H1 Γ1 s1 h1 wk⟨hz,Pv,z1,p0,pc⟩=>?_,xr⟩;intro D hD;have nl:∀aN:List (Key×V),(∀us:List V,HO.dK aN≠.tup us)∧∀b w,HO.dK aN≠.frz b w:=λ_=>⟨λ_ z=>(nomatch z),λ_ _ z=>(nomatch z)⟩;exact⟨λi m σ' aN H'=>∃τ' ys Γ',i≤ts.length∧m=ts.length-i∧ys.length≤i∧RS H' σ' τ'∧HR H' Γ'∧H' D=some (.dK aN)∧Γ' D=none∧Ks H' aN ys∧eW H1 Γ1 H' Γ'∧Pv (ts.drop i) τ' ys Γ',
  ⟨ts.length,Cf own cap τ,[],Γ1,aaE _,rfl,aan _,(p6 own (rs.mono s1.tq) cap).mono (dA (bo hD)),h1.keep (bo hD),ar,h1.free hD,.nil,.keep (bo hD),z1⟩,?_⟩
 intro i m σ2 aN H2⟨τ2,ys,Γ2,hi,rfl,hv,qI,h2,d2,gD,ry,s2,w2⟩;exact⟨d2,?_⟩;by_cases cG:i<ts.length
 ·rw[drop_cons cG]at w2
  let⟨g2,w2⟩:=pc _ _ _ _ _ w2;have nn:=ry.len;exact .inr ⟨wk.go i H2 Γ2 s2.tq h2 g2 cG,by lia,λσ' zb H'=>∃τ' ys Γ',ys.length≤i+1∧RS H' σ' τ'∧HR H' Γ'∧H' D=some (.dK zb)∧Γ' D=none∧Ks H' zb ys∧eW H1 Γ1 H' Γ'∧Pv (ts.drop (i+1)) τ' ys Γ',
   λσ' zb H' ξ=>Ξ31 ξ λτ' ys Γ' ξ=>Ξ08 ξ λa b c d e f k l=>⟨ts.length-(i+1),by lia,τ',ys,Γ',cG,rfl,a,b,c,d,e,f,k,l⟩,λx H3 yl=>?_⟩
  let⟨s3,h3,⟨x3,e3,r3⟩⟩:=wk.nJ i H2 Γ2 x H3 s2.tq h2 g2 cG yl;rw[aac cG]at e3;cases e3;exact Ψ5 _ τ2 Γ2 Y0 _ ⟨r3,qI.mono s3.tq,h3,w2,λσ4 τ4 H4 Γ4 s4 h4 r4 z4=>?_,vL⟩;exact Ψ4 τ4 Γ4 Y0 _ ⟨r4,h4,z4,λy y' H5 Γ5 s5 h5 r5 z5=>?_,vL⟩;exact Ψ4 τ4 Γ5 Y0 _ ⟨r4.mono s5.tq,h5,z5,λv v' H6 Γ6 s6 h6 r6 z6=>?_,vL⟩;obtain⟨k,rfl,z6⟩:=z6;have Aa:=((s3.trans s4).trans s5).trans s6;have d6:H6 D=some (.dK aN):=Aa.tY D _ d2 gD;have g6:Γ6 D=none:=Aa.new D (by rw[d2];exactλz=>nomatch z) gD;have tq:Tq H6 (upd H6 D (.dK (putK aN k v))):=jg d6 (nl _);exact⟨k,Fd r5,d6,τ4,jZ ys k v',Γ6,aaG (Br _ _ _) (adW hv),(r4.mono (s5.trans s6).tq).mono tq,h6.hide g6 d6 (nl _),ar,g6,((ry.mono Aa.tq).put k r6).mono tq,?_,z6⟩;have s7:=s2.trans Aa;exact⟨s7.tq.trans tq,λa h z=>?_,s7.new,λa o h g=>?_⟩
  ·by_cases e:a=D
   ·subst e;exact h hD
   ·rw[ao e]at z;exact s7.yc a h z
  ·have e:a≠D:=λe=>by subst e;rw[hD]at h;cases h
   rw[ao e];exact s7.tY a o h g
 ·have e:i=ts.length:=by lia
  subst e;rw[abX]at w2;have w2:=p0 _ _ _ w2;exact .inl ⟨wk.stop H2 Γ2 s2.tq h2 w2.1,?_⟩;have uB:=s1.trans s2;exact vr (.ref D) (.ref D) H2 (up Γ2 D (.dK ys)) ⟨uB.tq,uB.yc,λa h g=>?_,uB.tY⟩ (λa o g=>?_) jG (w2.2 D gD)
  ·have e:a≠D:=λe=>by subst e;exact s1.yc _ h hD
   rw[bb e];exact uB.new a h g
  ·by_cases e:a=D
   ·subst e;rw[ai]at g;cases g;exact⟨_,d2,ry⟩
   ·rw[bb e]at g;exact h2 a o g
theorem DZ{scope:Scope}{cl:List (Str×Addr)}{iter kx vx:Expr}(c:cV X scope cl own cap)(hc:X.calm=true)(hi:PI X tg iter (vD E wi))
  (hg:∀C s H fp,PG (aQ X (own++cap.map (·.2)) scope cl C s H fp λ_ _=>False) tg (vE EN g))
  (hk:∀C s H fp,PE (aQ X (own++cap.map (·.2)) scope cl C s H fp λ_ _=>False) kx (bH EN tk))
  (hv:∀C s H fp,PE (aQ X (own++cap.map (·.2)) scope cl C s H fp λ_ _=>False) vx (bH EN tv)) (hs:∀x,foldedSetIterable iter X.env x=pure x:=by intro _;rfl) :
  PE X (.DictComp kx vx [⟨tg,iter,[],0⟩] scope pos) (bH E (zu wi g tk tv own cap)):=gI (Ee c hc hi hg hk hv hs) B0
def Ws(ta:A3):I3:=λY τ Γ Z=>ta Y τ Γ λxs Γ1=>∃a ts,xs=[.ref a]∧pB Γ1 (.ref a)=some ts∧Z ts.reverse (λΓ'=>pB Γ' (.ref a)=some ts) Γ1
theorem CT{K:W.Frag}{H:Hp}{a:Addr}{ts:List T}:Walks (Vv K a ts.length) ts.reverse (λΓ'=>pB Γ' (.ref a)=some ts) H where
 go:=λi H' Γ t hr g hi=>by
  let⟨vs,sq,q⟩:=hG (K:=K) hr g;rw[abT]at hi;exact⟨vs,sq,q.length,hi⟩
 nJ:=λi H' Γ x H2 t hr g hi q0=>by
  let⟨e,y⟩:=q0;subst e;let⟨vs,sq,q⟩:=hG (K:=K) hr g;let⟨t',e',r⟩:=q.Fj (y vs sq);rw[abT]at hi;exact⟨.refl,hr,t',by rw[List.getElem?_reverse hi];exact e',r⟩
 stop:=λH' Γ t hr g=>by rw[abT];exact rfl
theorem Lj{a:Expr}{ta:A3}(hg:Gl X "reversed")(hm:X.mg "reversed" = none)(ha:PA X [a] (uR E ta))(hs:starEach [a] X.env=[(false,eval a X.env)]:=by rfl):
  PI X tg (.Call (.Name "reversed" p) [a] [] pos) (vD E (Ws ta)):=
 nY (LA hg hm ha hs) λσ H Q τ Γ Y Z rs hr t vr xr=>⟨τ,Γ,Y,_,rs,hr,t,λvs xs H1 Γ1 s1 h1 r1 ξ=>Ξ23 ξ λa ts ex g z=>by
  subst ex;let⟨v,rfl,ra⟩:=sD r1;let⟨us,sq,q⟩:=hG (K:=X.K) h1 g;exact Ψ2 a us ⟨by rw[bZ ra],sq,vr _ _ _ H1 Γ1 s1 h1 (by rw[q.length];exact CT) z⟩,xr⟩
theorem B4:iG X (.builtin "divmod") (λxs Γ Z=>∃i j:Int,xs=[.int i,.int j]∧Rl i j∧Z (.tup [.int (i/j),.int (i%j)]) Γ):=
 ⟨_,xK,λvs xs H Γ Q Z r hr q0 vr=>by
  let⟨i,j,rfl,c,z⟩:=q0;let⟨v,ws,rfl,a,b⟩:=bO r;let⟨v',Xo,rfl,a',b'⟩:=bO b;rw[bG a,bG a',bA b'];exact Ψ2 i j ⟨rfl,c,λp hp=>?_⟩;have k:=bo (o:=.tup [.int (i/j),.int (i%j)]) hp;exact vr _ _ _ Γ (.keep k) (hr.keep k) (fq ar (bg cY (bg cY bI))) z⟩
def JK(t:A3)(d:E3):E3:=λY τ Γ Z=>t Y τ Γ λxs Γ1=>d Y τ Γ1 λ_ Γ2=>∃(a:Addr) (ns:List Int),xs=[.ref a]∧pB Γ2 (.ref a)=some (ns.map T.int)∧ns≠[]∧Z (.int (fG ns)) Γ2
theorem G5{e v:Expr}{t:A3}{d:E3}{rm:Pos}(hc:X.calm=true)(hg:Gl X "max")(hm:X.mg "max" = none)(ha:PA X [e] (uR E t))(hv:PE X v (bH E d))
  (he:backTo pos (starEach [e] X.env)=(false,eval e X.env)::backTo pos (starEach [] X.env):=by rfl) (i9:(backTo pos (starEach [e] X.env)).any (·.1)=false:=by rfl) :
  PE X (.Call (.Name "max" p) [e] [⟨some "default",v,rm⟩] pos) (bH E (JK t d)):=
 cK (He hc hg hm ha (Al hv D8) he i9) λσ H Q τ Γ Y Z rs hr t vr xr=>by
  exact Ψ4 τ Γ Y _ ⟨rs,hr,t,λvs xs H1 Γ1 s1 h1 r1 z1=>?_,xr⟩;exact Ψ4 τ Γ1 Y _ ⟨rs.mono s1.tq,h1,z1,λw y H2 Γ2 s2 h2 r2 z2=>?_,xr.mono s1⟩;let⟨a,ns,rfl,g,ne,z⟩:=z2;let⟨v,rfl,ra⟩:=sD r1;let⟨us,sq,q⟩:=hG (K:=X.K) h2 g;rw[js q]at sq;exact Ψ3 _ a ns ⟨rfl,by rw[bZ ra],sq,ne,vr _ _ H2 Γ2 (s1.trans s2) h2 cY z⟩
end
end L3
namespace L3
open PySem PySem.Spec L2
open PyProof.Rows hiding St
variable {t:A3}{wi:I3}{g:G3}{own:List Str}{cap:List (Nat×Str)}{tc:T3}{tm:M3}{ys:List T}
def EX(st:Stmt):Pos:=match(c9 st).drop 1 with
 |[.Return (some (.Call _ [.Call _ _ [⟨_,.Lambda _ _ _ p,_⟩] _] _ _)) _]=>p
 |_=>⟨0,0,0,0⟩
section
variable {P:Program}{w:World}{K:W.Frag}{mg:ac}{am:Heap}
theorem TJ{x qual:Str}{st:Stmt}{f c:Addr}{fd:FuncData}{N ps:List Str}{k:Nat}{sp:fk}(F:dP K x qual st f fd)(hc:fd.code=.ref c)(S:aF N ps (av st))(len:∀ts Γ Z Y,sp ts Γ Z Y→ts.length=ps.length)
  (i3:∀(A:Around) (outer:List Env) (s:Shared) (H:Hp) (E:XK) (ts:List T) (Γ:Gp) (Z:K3) (Y:Value→Gp→Prop),dO k (A.deeper (envOfC qual (av st) s.heap.objs.size f (.ref c)))→sp ts Γ Z Y→
   ∃t,kI (sT fE P w K mg am N qual (av st) f (.ref c) A outer s H E).iA (c9 st) (mw EN t)∧t Y0 {nx:=λ_ Γ'=>fj Z .non Γ',rt:=fj Z} (a8 N ts) Γ):bq P w K mg am fE (k+1) f fd ps (cj sp):=by
 let⟨oc,od,kV,doc,pm,an,cy,ct,yQ,rfl,lk,pO⟩:=F.ex;have e:cy=.ref c:=hc;subst e;exact Fo lk pO S (λvs H Q E q0=>by let⟨ts,Γ,Z,Y,r,_,h,_⟩:=q0;rw[r.length];exact len _ _ _ _ h) λA outer s H vs Q E hr ξ=>Ξ45 ξ λts Γ Z Y r h uV vr xr=>?_;let⟨t,ht,hq⟩:=i3 A outer s H E ts Γ Z Y hr uV;exact⟨_,ht.iA,a8 N ts,Γ,Y0,_,mM N r (by rw[len _ _ _ _ uV];exact yB S),h,hq,⟨λσ τ H' Γ' s' h' _ ξ=>Ξ12 ξ λΓ2 l z=>vr .non .non H' Γ2 (s'.cut l) (h'.le l) tO z,λv x H' Γ' s' h' rv ξ=>Ξ12 ξ λΓ2 l z=>vr v x H' Γ2 (s'.cut l) (h'.le l) rv z,λ_ _ _ _ _ _ _ z=>z.elim,λ_ _ _ _ _ _ _ z=>z.elim⟩,vL⟩
end
section
variable {Y:X3}{τ:S3}{Γ:Gp}{Z:K3}
theorem Ke{P:Addr}{q:Str}{oK:Pos}(h:t Y τ Γ λxs Γ1=>∃gs:List (Str×T),xs=[.tup (gs.map Gk)]∧gs.length<64∧Γ1 P=some (.lam q oK)∧∀(hs:List (Str×T)) (a:Addr),hs.Perm gs→Up (hs.map (·.1))→Γ1 a=none→Z (.ref a) (up Γ1 a (.lst (hs.map Gk)))):xx P q oK t Y τ Γ Z:=h
theorem Kh{d:E3}(h:t Y τ Γ λxs Γ1=>d Y τ Γ1 λ_ Γ2=>∃(a:Addr) (ns:List Int),xs=[.ref a]∧pB Γ2 (.ref a)=some (ns.map T.int)∧ns≠[]∧Z (.int (fG ns)) Γ2):JK t d Y τ Γ Z:=h
theorem Gz{tk tv:E3}(h:wi Y τ Γ λts gd Γ1=>ts.length<sizeLine∧CV gd g tk tv (λys Γ2=>∀D,Γ2 D=none→Z (.ref D) (up Γ2 D (.dK ys))) ts (Cf own cap τ) Γ1):zu wi g tk tv own cap Y τ Γ Z:=h
theorem Kr{td ty:E3}(h:td Y τ Γ λx Γ1=>ty Y τ Γ1 λy Γ2=>∃a aN k v,x=.ref a∧y=kT k∧Γ2 a=some (.dK aN)∧gJ aN k=some v∧Z v Γ2):JM td ty Y τ Γ Z:=h
theorem Oh{ta:A3}{R:List T→(Gp→Prop)→Gp→Prop}(h:ta Y τ Γ λxs Γ1=>∃a ts,xs=[.ref a]∧pB Γ1 (.ref a)=some ts∧R ts.reverse (λΓ'=>pB Γ' (.ref a)=some ts) Γ1):Ws ta Y τ Γ R:=h
theorem GA(h:wi Y τ Γ λts gd Γ1=>∃P:List T→S3→List T→Gp→Prop,P ts (Cf own cap τ) [] Γ1∧(∀τ ys Γ,P [] τ ys Γ→gd Γ∧∀D,Γ D=none→Z (.ref D) (up Γ D (.lst ys)))∧
 ∀x r τ ys Γ,P (x::r) τ ys Γ→gd Γ∧g Y0 x τ Γ λτ3 Γ3=>tc Y0 τ3 Γ3 λb Γ4=>if b=true then tm τ3 ys Γ4 (P r)else P r τ3 ys Γ4):zx wi g tc tm own cap Y τ Γ Z:=h
theorem Kg{R:S3→List T→Gp→Prop}(h:wi Y0 τ Γ λts gd Γ1=>∃P:List T→S3→List T→Gp→Prop,P ts τ ys Γ1∧(∀τ ys Γ,P [] τ ys Γ→gd Γ∧R τ ys Γ)∧
 ∀x r τ ys Γ,P (x::r) τ ys Γ→gd Γ∧g Y0 x τ Γ λτ3 Γ3=>tc Y0 τ3 Γ3 λb Γ4=>if b=true then tm τ3 ys Γ4 (P r)else P r τ3 ys Γ4):PN wi g tc tm τ ys Γ R:=h
theorem Gy{te:E3}{R:S3→List T→Gp→Prop}(hz:ys.length<sizeLine)(h:te Y0 τ Γ λy Γ1=>R τ (ys++[y]) Γ1):Jx te τ ys Γ R:=⟨hz,h⟩
end
end L3
namespace L3
open PySem PySem.Spec L2
open PyProof.Rows hiding St
variable {t u:T}{d:Nat}{H:Hp}
inductive Dp:Nat→T→Prop
 |int {d:Nat} (i:Int):Dp d (.int i)
 |str {d:Nat} (z:Str):Dp d (.str z)
 |tup {d:Nat} {ts:List T} (q:∀t∈ts,Dp d t):Dp (d+1) (.tup ts)
noncomputable def eqT(t u:T):Bool:=@decide (t=u) (Classical.propDecidable _)
theorem fB:eqT t u=true↔t=u:=by unfold eqT;exact @acS _ (Classical.propDecidable _)
theorem fi{b:Bool}(h:b=true↔t=u):eqT t u=b:=by
 cases b with
 |true=>exact fB.mpr (h.mp rfl)
 |false=>
  cases e:eqT t u with
  |false=>rfl
  |true=>exact(h.mpr (fB.mp e)).symm
theorem Dp.mono{e:Nat}(h:d≤e)(p:Dp d t):Dp e t:=by
 induction p generalizing e with
 |int i=>exact .int i
 |str z=>exact .str z
 |@tup d ts q ih=>
  obtain⟨e',rfl⟩:∃e',e=e'+1:=⟨e-1,by lia⟩;exact .tup λt ht=>ih t ht (by lia)
theorem Pa:∀{d:Nat} {t:T},Dp d t→∀{d':Nat} {t':T} {v:V},Dp d' t'→R H v t→R H v t'→t=t':=by
 intro d t h;induction h with
 |int i=>
  intro d' t' v h' r r';have e:=bG r;subst e;cases h' with
  |int j=>exact abc _ (V.int.inj (bG r'))
  |str z=>cases c4 r'
  |tup q=>let⟨_,_,e,_⟩:=cp r';cases e
 |str z=>
  intro d' t' v h' r r';have e:=c4 r;subst e;cases h' with
  |int j=>cases bG r'
  |str z=>exact abc _ (V.str.inj (c4 r'))
  |tup q=>let⟨_,_,e,_⟩:=cp r';cases e
 |@tup d ts q ih=>
  intro d' t' v h' r r';let⟨p,vs,rfl,hp,rr⟩:=cp r;cases h' with
  |int j=>cases bG r'
  |str z=>cases c4 r'
  |@tup _ us q'=>
   let⟨p2,F6,e,m5,VP⟩:=cp r';cases e;rw[hp]at m5;cases m5;have l1:=rr.length;have l2:=VP.length;congr 1
   exact adY (by lia) λj h1 h2=>?_;exact ih _ (abp h1) (q' _ (abp h2)) (rr.getD (aac h1)) (VP.getD (aac h2))
section
variable {X:Cx}
theorem xZ{ts us:List T}:((List.range (min ts.length us.length)).all (λj=>eqT (ts.getD j .non) (us.getD j .non))&&ts.length==us.length)=true↔ts=us:=by
 rw[aa1,aaK,acJ];constructor
 ·intro⟨h,l⟩
  exact adY l λj h1 h2=>?_;have:=fB.mp (h j (abZ.mpr (by lia)));rwa[abu,abu,aac h1,aac h2]at this
 ·rintro rfl
  exact⟨λj _=>fB.mpr rfl,rfl⟩
theorem Fu{pins:ad}{s:Shared}{σ:L2.St}(I:L2.Inv X pins σ H s):∀{d:Nat} {t:T},Dp d t→∀{d':Nat} {t':T},Dp d' t'→∀{A:Around} {v v':V} {u u':Value},A.units+d<cLine→R H v t→R H v' t'→RelV v u→RelV v' u'→SeqAt.EqAt A s u u' (eqT t t'):=by
 intro d t h;induction h with
 |@int d i=>
  intro d' t' h' A v v' u u' hu r r' x x';rw[bG r]at x;cases h' with
  |int j=>
   rw[bG r']at x';have:=oP (A:=A) (s:=s) x x' rfl rfl;rwa[show kQ (.int i) (.int j)=eqT (.int i) (.int j)from(fi (by simp[kQ])).symm]at this
  |str z=>
   rw[c4 r']at x';have:=oP (A:=A) (s:=s) x x' rfl rfl;rwa[show kQ (.int i) (.str z)=eqT (.int i) (.str z)from(fi (by simp[kQ])).symm]at this
  |@tup _ us q'=>
   let⟨p',mv,rfl,xc,Lb⟩:=cp r';cases x';let⟨ik,oq,kK,Gf⟩:=I.tuple (cW.of (K:=X.K) xc);let⟨t0,rfl⟩:=x;rw[show eqT (.int i) (.tup us)=false from fi (by simp)];exact SeqAt.EqAt.int_tuple _ _ kK (by lia)
 |@str d z=>
  intro d' t' h' A v v' u u' hu r r' x x';rw[c4 r]at x;cases h' with
  |int j=>
   rw[bG r']at x';have:=oP (A:=A) (s:=s) x x' rfl rfl;rwa[show kQ (.str z) (.int j)=eqT (.str z) (.int j)from(fi (by simp[kQ])).symm]at this
  |str z2=>
   rw[c4 r']at x';have:=oP (A:=A) (s:=s) x x' rfl rfl;rwa[show kQ (.str z) (.str z2)=eqT (.str z) (.str z2)from(fi (by simp[kQ])).symm]at this
  |@tup _ us q'=>
   let⟨p',mv,rfl,xc,Lb⟩:=cp r';cases x';let⟨ik,oq,kK,Gf⟩:=I.tuple (cW.of (K:=X.K) xc);let⟨t0,rfl⟩:=x;rw[show eqT (.str z) (.tup us)=false from fi (by simp)];exact SeqAt.EqAt.str_tuple _ _ kK (by lia)
 |@tup d ts q ih=>
  intro d' t' h' A v v' u u' hu r r' x x';have r0:=r;have X2:=r';let⟨p,vs,rfl,hp,rr⟩:=cp r;cases x;let⟨its,rv,pl,hz⟩:=I.tuple (cW.of (K:=X.K) hp);cases h' with
  |int j=>
   rw[bG r']at x';let⟨t0,rfl⟩:=x';rw[show eqT (.tup ts) (.int j)=false from fi (by simp)];exact SeqAt.EqAt.tuple_int _ _ pl (by lia)
  |str z=>
   rw[c4 r']at x';let⟨t0,rfl⟩:=x';rw[show eqT (.tup ts) (.str z)=false from fi (by simp)];exact SeqAt.EqAt.tuple_str _ _ pl (by lia)
  |@tup d2 us q'=>
   let⟨p',mv,rfl,xc,Lb⟩:=cp r';cases x';by_cases e:p=p'
   ·subst e
    rw[Pa (.tup q) (.tup q') r0 X2,show eqT (.tup us) (.tup us)=true from fB.mpr rfl];exact SeqAt.EqAt.same _
   ·let⟨ik,oq,kK,Gf⟩:=I.tuple (cW.of (K:=X.K) xc)
    have l1:=rr.length;have l2:=Lb.length;have l3:=rv.length;have l4:=oq.length;have:=SeqAt.RcAt.tuples (A:=A) (e:=λj=>eqT (ts.getD j .non) (us.getD j .non)) pl kK (by lia) (λj h1 h2=>?_)
    ·exact SeqAt.EqAt.of_refs e ?_
     rw[aai,aai,←l3,←l4,l1,l2]at this;rwa[show eqT (.tup ts) (.tup us)=((List.range (min ts.length us.length)).all (λj=>eqT (ts.getD j .non) (us.getD j .non))&&ts.length==us.length)from fi (xZ.trans ⟨λz=>by rw[z],λz=>T.tup.inj z⟩)]
    ·have QF:j<ts.length:=by rw[aai]at h1;lia
     have QE:j<us.length:=by rw[aai]at h2;lia
     have g:ts[j]?=some ts[j]:=aac QF;have g':us[j]?=some us[j]:=aac QE;have:=ih _ (abp QF) (q' _ (abp QE)) (A:=A.in1) (by show A.units+1+d<cLine;lia) (rr.getD g) (Lb.getD g') (Vals.at rv (by simpa using h1)) (Vals.at oq (by simpa using h2));rwa[abu,abu,g,g']
inductive NF(d:Nat):T→T→Prop
 |int (i j:Int):NF d (.int i) (.int j)
 |str (y z:Str):NF d (.str y) (.str z)
 |tup {ts us:List T} (h:∀t∈ts,Dp d t) (h':∀t∈us,Dp d t):NF d (.tup ts) (.tup us)
theorem LN(hu:X.A.units+(1+d)<cLine):ja X (compareOp .Eq) (λx y H Q=>∃t t':T,R H x t∧R H y t'∧NF d t t'∧Q (.bl (eqT t t')) H):=by
 intro pins s σ H x y v u Q I rx ry h;let⟨t,t',r,r',tw,q⟩:=h;cases tw with
 |int i j=>
  rw[bG r]at rx;rw[bG r']at ry;let⟨k1,rfl⟩:=rx;let⟨k2,rfl⟩:=ry;have e:eqT (.int i) (.int j)=(i==j):=fi (by rw[acJ];exact⟨abc _,T.int.inj⟩);exact SeqAt.RcAt.int_int i k1 j k2 _ _ _ _ ⟨.bl (eqT (.int i) (.int j)),H,I,by rw[e];rfl,q⟩
 |str y z=>
  rw[c4 r]at rx;rw[c4 r']at ry;let⟨k1,rfl⟩:=rx;let⟨k2,rfl⟩:=ry;have e:eqT (.str y) (.str z)=(y==z):=fi (by rw[acJ];exact⟨abc _,T.str.inj⟩);exact SeqAt.RcAt.str_str y k1 z k2 _ _ _ _ ⟨.bl (eqT (.str y) (.str z)),H,I,by rw[e];rfl,q⟩
 |@tup ts us q1 q2=>
  let⟨p,vs,rfl,hp,rr⟩:=cp r;let⟨p',mv,rfl,xc,Lb⟩:=cp r';cases rx;cases ry;let⟨its,rv,pl,hz⟩:=I.tuple (cW.of (K:=X.K) hp);let⟨ik,oq,kK,Gf⟩:=I.tuple (cW.of (K:=X.K) xc);have l1:=rr.length;have l2:=Lb.length;have l3:=rv.length;have l4:=oq.length;exact SeqAt.RcAt.tuples (e:=λj=>eqT (ts.getD j .non) (us.getD j .non)) pl kK (by lia) (λj h1 h2=>?_) _ _ _ _ ⟨.bl (eqT (.tup ts) (.tup us)),H,I,?_,q⟩
  ·have QF:j<ts.length:=by rw[aai]at h1;lia
   have QE:j<us.length:=by rw[aai]at h2;lia
   have g:ts[j]?=some ts[j]:=aac QF;have g':us[j]?=some us[j]:=aac QE;have:=Fu I (q1 _ (abp QF)) (q2 _ (abp QE)) (A:=X.A.in1) (by show X.A.units+1+d<cLine;lia) (rr.getD g) (Lb.getD g') (Vals.at rv (by simpa using h1)) (Vals.at oq (by simpa using h2));rwa[abu,abu,g,g']
  ·show _=Value.bool _
   congr 1
   rw[aai,aai,←l3,←l4,l1,l2];exact(fi (xZ.trans ⟨λz=>by rw[z],λz=>T.tup.inj z⟩)).symm
theorem LL(hu:X.A.units+(1+d)<cLine):lA X (compareOp .Eq) (λx y Γ Z=>NF d x y∧Z (.bl (eqT x y)) Γ):=
 ⟨_,LN hu,λx y a b H Γ Q Z ra rb hr q0 vr=>Ψ2 _ _ ⟨ra,rb,q0.1,vr _ _ H Γ .refl hr ij q0.2⟩⟩
end
end L3
namespace L3
open PySem L2
variable {a b:Nat}
theorem JQ{α:Type}{xs:List α}:fI xs (some (a:Int)) (some (b:Int))=(xs.drop a).take (b-a):=by
 unfold fI;rw[HT.p5,HT.p5];apply acx
 intro i;simp only[List.getElem?_take,List.getElem?_drop];by_cases c:a≤xs.length
 ·rw[acM c]
  by_cases d:i<b-a
  ·rw[aaA d]
   split
   ·rfl
   ·rw[aaH (by lia)]
  ·rw[aaz d,aaz (by lia)]
 ·rw[aaz (by lia)]
  split
  ·rw[aaH (by lia)]
  ·rfl
theorem QV{α:Type}{xs:List α}:fI xs (some (a:Int)) none=xs.drop a:=by
 unfold fI;rw[HT.p5,HT.mJ];by_cases c:a≤xs.length
 ·rw[acM c,aa3 (by rw[abf];exact aan _)]
 ·rw[Nat.min_eq_right (by lia),abX,List.take_nil,acw (by lia)]
theorem MP{α:Type}{xs:List α}:fI xs none (some (b:Int))=xs.take b:=by
 unfold fI;rw[HT.p5,HT.mJ,abC,adT];by_cases c:b≤xs.length
 ·rw[acM c]
 ·rw[Nat.min_eq_right (by lia),adk,aa3 (by lia)]
theorem QW{α:Type}{xs:List α}:fI xs none (some (-1))=xs.dropLast:=by
 unfold fI;have e:HT.de xs.length xs.length (some (-1))=xs.length-1:=by
  unfold HT.de;simp;lia
 rw[e,HT.mJ,abC,adT,adw]
end L3
namespace Tg
open PySem L2 L3
variable {fs:al}{i w:Int}{n:Str}{k k':Kd}{x t u p e:T}{j D S:Nat}{ts r es:List T}{na hi:Bool}{ws:List Int}{L:Ly}{g:Str×Kd→List T}
mutual
def Kd.tr:Kd→T
 |.num w=>.tup [.str "num",.int w]
 |.text=>.tup [.str "text"]
 |.row k=>.tup [.str "row",k.tr]
 |.rec_ fs=>.tup [.str "rec",.tup (ip fs)]
 |.pick fs=>.tup [.str "pick",.tup (ip fs)]
def ip:List (Str×Kd)→List T
 |[]=>[]
 |(n,k)::r=>.tup [.str n,k.tr]::ip r
end
theorem je:∀fs:List (Str×Kd),ip fs=fs.map λp=>.tup [.str p.1,p.2.tr]
 |[]=>rfl
 |(n,k)::r=>by rw[ip,je r];rfl
theorem bz(fs:al):(ip fs).length=fs.length:=by rw[je,aae]
theorem jf{i:Nat}(h:fs[i]?=some (n,k)):(ip fs)[i]?=some (.tup [.str n,k.tr]):=by rw[je,aaC,h];rfl
theorem Gw:∀(fs gs:al),ip (fs++gs)=ip fs++ip gs:=λfs gs=>by rw[je,je,je,aaf]
def findF:List (Str×Kd)→Str→Option (Nat×Kd)
 |[],_=>none
 |(m,k)::r,n=>if m=n then some (0,k)else(findF r n).map λp=>(p.1+1,p.2)
def oU(fs:List (Str×Kd)):T→Option (Nat×Kd)
 |.str n=>findF fs n
 |_=>none
def stepK:Kd→T→Option Kd
 |.row k,.int i=>if 0≤i∧i<60 then some k else none
 |.rec_ fs,x=>(oU fs x).map (·.2)
 |.pick fs,x=>(oU fs x).map (·.2)
 |_,_=>none
def atK:Kd→List T→Option Kd
 |k,[]=>some k
 |k,p::r=>match stepK k p with|some k'=>atK k' r|none=>none
inductive Sx:T→Prop
 |int (i:Int):Sx (.int i)
 |str {z:Str} (l:z.length≤1000):Sx (.str z)
theorem cS:∀{fs:List (Str×Kd)} {n:Str} {j:Nat} {k:Kd},findF fs n=some (j,k)→fs[j]?=some (n,k)
 |[],_,_,_,h=>by cases h
 |(m,q)::r,n,j,k,h=>by
  unfold findF at h;by_cases e:m=n
  ·rw[aaA e]at h;cases h;rw[e];rfl
  ·rw[aaz e]at h
   cases f:findF r n with
   |none=>rw[f]at h;cases h
   |some p=>
    rw[f]at h;cases h;exact cS (j:=p.1) (k:=p.2) f
theorem aO:∀{fs:List (Str×Kd)} {p:Str×Kd},dw fs→p∈fs→p.2.good
 |(nm,k)::r,p,g,h=>by
  unfold dw at g;rcases aah.mp h with rfl|h
  ·exact g.2.1
  ·exact aO g.2.2 h
theorem rD:∀{fs:List (Str×Kd)} {p:Str×Kd},dw fs→p∈fs→Nm p.1
 |(nm,k)::r,p,g,h=>by
  unfold dw at g;rcases aah.mp h with rfl|h
  ·exact g.1
  ·exact rD g.2.2 h
theorem jB(h:oU fs x=some (j,k)):∃n,x=.str n∧fs[j]?=some (n,k):=by
 cases x with
 |str n=>exact⟨n,rfl,cS h⟩
 |_=>cases h
theorem yt(g:k.good)(h:stepK k x=some k'):k'.good∧k'.depth<k.depth:=by
 cases k with
 |num w=>cases x<;>cases h
 |text=>cases x<;>cases h
 |row j=>
  unfold Kd.good at g;rw[Kd.depth];cases x with
  |int i=>
   have h:(if 0≤i∧i<60 then some j else none)=some k':=h;split at h
   ·cases h;exact⟨g,by lia⟩
   ·cases h
  |_=>cases h
 |rec_ fs=>
  unfold Kd.good at g;rw[Kd.depth];have h:(oU fs x).map (·.2)=some k':=h;cases e:oU fs x with
  |none=>rw[e]at h;cases h
  |some p=>
   rw[e]at h;cases h;let⟨n,_,m⟩:=jB (j:=p.1) (k:=p.2) e;have m:=aaj m;exact⟨aO g.1 m,ac4 (aY m)⟩
 |pick fs=>
  unfold Kd.good at g;rw[Kd.depth];have h:(oU fs x).map (·.2)=some k':=h;cases e:oU fs x with
  |none=>rw[e]at h;cases h
  |some p=>
   rw[e]at h;cases h;let⟨n,_,m⟩:=jB (j:=p.1) (k:=p.2) e;have m:=aaj m;exact⟨aO g.1 m,ac4 (aY m)⟩
def vC(c:Nat):Bool:=decide (32≤c)&&decide (c≤126)&&!decide (c=37)
inductive eF:Kd→T→Prop
 |num {w:Int} {i:Int} (l:-(65536^w.toNat)≤2*i) (h:2*i<65536^w.toNat):eF (.num w) (.int i)
 |text {z:Str} (l:z.length≤60) (h:z.cps.toList.all vC=true):eF .text (.str z)
 |row {k:Kd} {ts:List T} (l:ts.length≤60) (q:∀t∈ts,eF k t):eF (.row k) (.tup ts)
 |rec_ {fs:List (Str×Kd)} {ts:List T} (l:ts.length=fs.length) (q:∀(j:Nat) (n:Str) (k:Kd) (t:T),fs[j]?=some (n,k)→ts[j]?=some t→eF k t):eF (.rec_ fs) (.tup ts)
 |pick {fs:List (Str×Kd)} {n:Str} {k:Kd} {j:Nat} {t:T} (f:findF fs n=some (j,k)) (q:eF k t):eF (.pick fs) (.tup [.str n,t])
def eU:Kd→T→T→Option (Kd×T)
 |.row k,.tup ts,.int i=>if 0≤i then(ts[i.toNat]?).map λt=>(k,t)else none
 |.rec_ fs,.tup ts,x=>match oU fs x with|some (j,k)=>(ts[j]?).map λt=>(k,t)|none=>none
 |.pick fs,.tup [.str m,t],.str n=>if m=n then(findF fs n).map λp=>(p.2,t)else none
 |_,_,_=>none
def c0:Kd→T→List T→Option (Kd×T)
 |k,w,[]=>some (k,w)
 |k,w,p::r=>match eU k w p with|some (k',w')=>c0 k' w' r|none=>none
theorem vU{w w':T}(g:k.good)(h:eF k w)(e:eU k w x=some (k',w')):eF k' w'∧k'.good∧k'.depth<k.depth:=by
 cases h with
 |num l h=>cases x<;>cases e
 |text l h=>cases x<;>cases e
 |@row k ts l q=>
  unfold Kd.good at g;rw[Kd.depth];cases x with
  |int i=>
   have e:(if 0≤i then(ts[i.toNat]?).map λt=>(k,t)else none)=some (k',w'):=e;split at e
   ·cases f:ts[i.toNat]? with
    |none=>rw[f]at e;cases e
    |some t=>rw[f]at e;cases e;exact⟨q _ (aaj f),g,by lia⟩
   ·cases e
  |_=>cases e
 |@rec_ fs ts l q=>
  unfold Kd.good at g;rw[Kd.depth];have e:(match oU fs x with|some (j,k)=>(ts[j]?).map λt=>(k,t)|none=>none)=some (k',w'):=e;split at e
  ·rename_i j k f
   let⟨n,_,m⟩:=jB f;cases f:ts[j]? with
   |none=>rw[f]at e;cases e
   |some t=>rw[f]at e;cases e;exact⟨q j n _ _ m f,aO g.1 (aaj m),ac4 (aY (aaj m))⟩
  ·cases e
 |@pick fs m k j t f q=>
  unfold Kd.good at g;rw[Kd.depth];cases x with
  |str n=>
   have e:(if m=n then(findF fs n).map λp=>(p.2,t)else none)=some (k',w'):=e;split at e
   ·rename_i c;subst c
    rw[f]at e;cases e;have mm:=aaj (cS f);exact⟨q,aO g.1 mm,ac4 (aY mm)⟩
   ·cases e
  |_=>cases e
theorem i4:∀{fs:List (Str×Kd)} {n:Str} {j:Nat} {k:Kd},(fs.map (·.1)).Nodup→fs[j]?=some (n,k)→findF fs n=some (j,k)
 |[],_,_,_,_,h=>by simp at h
 |(m,q)::r,n,j,k,nd,h=>by
  rw[aam,abe]at nd;unfold findF;cases j with
  |zero=>cases h;rw[aaA rfl]
  |succ j=>
   have h:r[j]?=some (n,k):=by simpa using h
   have ne:m≠n:=λe=>nd.1 (by rw[e];exact aay.mpr ⟨(n,k),aaj h,rfl⟩);rw[aaz ne,i4 nd.2 h];rfl
theorem qP:∀{ps:List T} {k k':Kd} {u u':T},k.good→eF k u→c0 k u ps=some (k',u')→eF k' u'∧k'.good∧k'.depth≤k.depth
 |[],k,k',u,u',g,h,e=>by cases e;exact⟨h,g,aan _⟩
 |p::r,k,k',u,u',g,h,e=>by
  have e:(match eU k u p with|some (k',w')=>c0 k' w' r|none=>none)=some (k',u'):=e;cases f:eU k u p with
  |none=>rw[f]at e;cases e
  |some y=>
   obtain⟨k2,u2⟩:=y;rw[f]at e;let⟨a,b,c⟩:=vU g h f;let⟨a',b',c'⟩:=qP b a e;exact⟨a',b',by lia⟩
def j4:Kd→T→T→Option Nat
 |.row _,.tup ts,.int i=>if 0≤i∧i<ts.length then some i.toNat else none
 |.rec_ fs,_,x=>(oU fs x).map (·.1)
 |.pick fs,.tup [.str m,_],.str n=>if m=n∧(findF fs n).isSome then some 1 else none
 |_,_,_=>none
structure Ra(k:Kd)(u p:T)(k':Kd)(t:T)(ts:List T)(j:Nat):Prop where
 tup:u=.tup ts
 at_:j4 k u p=some j
 get:ts[j]?=some t
 kind:stepK k p=some k'
 has:eF k' t
 put:∀t',eF k' t'→eF k (.tup (ts.set j t'))
 place:∀t',j4 k (.tup (ts.set j t')) p=some j
 step:∀t',eU k (.tup (ts.set j t')) p=some (k',t')
 TB:∀t' q,q≠p→j4 k (.tup (ts.set j t')) q=j4 k u q
 VL:∀t' q,q≠p→eU k (.tup (ts.set j t')) q=eU k u q
 apart:∀q j',q≠p→j4 k u q=some j'→j'≠j
theorem uv{t':T}(h:ts[j]?=some t):(ts.set j t')[j]?=some t':=by
 obtain⟨l,_⟩:=aat.mp h;rw[acv l]
theorem tK(g:k.good)(h:eF k u)(w:eU k u p=some (k',t)):∃ts j,Ra k u p k' t ts j:=by
 cases h with
 |num l h=>cases p<;>cases w
 |text l h=>cases p<;>cases w
 |@row k ts l q=>
  cases p with
  |int i=>
   have w:(if 0≤i then(ts[i.toNat]?).map λt=>(k,t)else none)=some (k',t):=w;split at w
   ·rename_i c
    cases f:ts[i.toNat]? with
    |none=>rw[f]at w;cases w
    |some t=>
     rw[f]at w;cases w;obtain⟨hl,_⟩:=aat.mp f;exact Ψ2 ts i.toNat ⟨rfl,aaA ⟨c,by lia⟩,f,aaA ⟨c,by lia⟩,q _ (aaj f),λt' h'=>?_,λt'=>?_,λt'=>?_,λt' x hx=>?_,λt' x hx=>?_,λx j' hx e=>?_⟩
     ·exact eF.row (by rw[acO];exact l) λy hy=>?_
      rcases List.mem_or_eq_of_mem_set hy with hy|rfl
      ·exact q _ hy
      ·exact h'
     ·exact aaA ⟨c,by rw[acO];lia⟩
     ·show(if 0≤i then((ts.set i.toNat t')[i.toNat]?).map λt=>(k',t)else none)=_
      rw[aaA c,uv f];rfl
     ·cases x with
      |int y=>show(if 0≤y∧y<(ts.set i.toNat t').length then some y.toNat else none)=(if 0≤y∧y<ts.length then some y.toNat else none);rw[acO]
      |_=>rfl
     ·cases x with
      |int y=>
       show(if 0≤y then((ts.set i.toNat t')[y.toNat]?).map λt=>(k',t)else none)=(if 0≤y then(ts[y.toNat]?).map λt=>(k',t)else none)
       split
       ·rename_i c'
        have ne:i≠y:=λe=>hx (by rw[e]);rw[abO (by lia)]
       ·rfl
      |_=>rfl
     ·cases x with
      |int y=>
       have e:(if 0≤y∧y<ts.length then some y.toNat else none)=some j':=e;have ne:i≠y:=λe=>hx (by rw[e]);split at e
       ·cases e;lia
       ·cases e
      |_=>cases e
   ·cases w
  |_=>cases w
 |@rec_ fs ts l q=>
  have w2:(match oU fs p with|some (j,k)=>(ts[j]?).map λt=>(k,t)|none=>none)=some (k',t):=w;clear w;split at w2
  ·rename_i j k2 b
   let⟨n,rfl,m⟩:=jB b;cases f:ts[j]? with
   |none=>rw[f]at w2;cases w2
   |some t=>
    rw[f]at w2;cases w2;exact Ψ2 ts j ⟨rfl,by show(oU fs _).map _=_;rw[b];rfl,f,by show(oU fs _).map _=_;rw[b];rfl,q j n _ _ m f,λt' h'=>?_,λt'=>by show(oU fs _).map _=_;rw[b];rfl,λt'=>?_,λt' x hx=>rfl,λt' x hx=>?_,λx j' hx e=>?_⟩
    ·exact eF.rec_ (by rw[acO];exact l) λi n' k3 y hi hy=>?_
     by_cases c:j=i
     ·subst c
      rw[uv f]at hy;cases hy;rw[m]at hi;cases hi;exact h'
     ·rw[abO c]at hy
      exact q i n' k3 y hi hy
    ·show(match oU fs (.str n)with|some (j',k)=>((ts.set j t')[j']?).map λt=>(k,t)|none=>none)=_
     rw[b];show((ts.set j t')[j]?).map _=_
     rw[uv f];rfl
    ·show(match oU fs x with|some (j',k)=>((ts.set j t')[j']?).map λt=>(k,t)|none=>none)=(match oU fs x with|some (j,k)=>(ts[j]?).map λt=>(k,t)|none=>none)
     cases bx:oU fs x with
     |none=>rfl
     |some y=>
      let⟨n',rfl,m'⟩:=jB (j:=y.1) (k:=y.2) bx;have ne:j≠y.1:=λe=>hx (by subst e;rw[m]at m';cases m';rfl);show((ts.set j t')[y.1]?).map _=(ts[y.1]?).map _
      rw[abO ne]
    ·have e:(oU fs x).map (·.1)=some j':=e
     cases bx:oU fs x with
     |none=>rw[bx]at e;cases e
     |some y=>
      rw[bx]at e;cases e;let⟨n',rfl,m'⟩:=jB (j:=y.1) (k:=y.2) bx;exactλe=>hx (by have e:y.1=j:=e;rw[e,m]at m';cases m';rfl)
  ·cases w2
 |@pick fs m k2 j t2 f q=>
  cases p with
  |str n=>
   have w:(if m=n then(findF fs n).map λp=>(p.2,t2)else none)=some (k',t):=w;split at w
   ·rename_i c;subst c
    rw[f]at w;cases w;exact Ψ2 [.str m,t] 1 ⟨rfl,aaA ⟨rfl,by rw[f];rfl⟩,rfl,by show(findF fs m).map _=_;rw[f];rfl,q,λt' h'=>eF.pick f h',λt'=>aaA ⟨rfl,by rw[f];rfl⟩,λt'=>?_,λt' x hx=>?_,λt' x hx=>?_,λx j' hx e=>?_⟩
    ·show(if m=m then(findF fs m).map λp=>(p.2,t')else none)=_
     rw[aaA rfl,f];rfl
    ·cases x<;>rfl
    ·cases x with
     |str y=>
      have ne:m≠y:=λe=>hx (by rw[e]);show(if m=y then(findF fs y).map λp=>(p.2,t')else none)=(if m=y then(findF fs y).map λp=>(p.2,t)else none)
      rw[aaz ne,aaz ne]
     |_=>rfl
    ·cases x with
     |str y=>
      have ne:m≠y:=λe=>hx (by rw[e]);have e:(if m=y∧(findF fs y).isSome then some 1 else none)=some j':=e;rw[aaz (λc=>ne c.1)]at e;cases e
     |_=>cases e
   ·cases w
  |_=>cases w
theorem oB{y:Kd×T}(e:c0 k u (p::r)=some y):∃k' t,eU k u p=some (k',t)∧c0 k' t r=some y:=by
 have e:(match eU k u p with|some (k',w')=>c0 k' w' r|none=>none)=some y:=e;cases f:eU k u p with
 |none=>rw[f]at e;cases e
 |some z=>rw[f]at e;exact Ψ2 z.1 z.2 ⟨rfl,e⟩
theorem As(f:eU k u p=some (k',t)):c0 k u (p::r)=c0 k' t r:=by
 show(match eU k u p with|some (k',w')=>c0 k' w' r|none=>none)=_
 rw[f]
def Ue:Kd→Bool
 |.pick _=>true
 |_=>false
theorem Bt(h:eF k u)(c:Ue k=true)(f:eU k u p=some (k',t)):u=.tup [p,t]∧j4 k u p=some 1:=by
 cases h with
 |@pick fs m k2 j t2 f' q=>
  cases p with
  |str n=>
   have f:(if m=n then(findF fs n).map λp=>(p.2,t2)else none)=some (k',t):=f;split at f
   ·rename_i e;subst e
    rw[f']at f;cases f;exact⟨rfl,aaA ⟨rfl,by rw[f'];rfl⟩⟩
   ·cases f
  |_=>cases f
 |_=>cases c
theorem qO:∀{qs rs:List T} {k k':Kd} {u u':T},c0 k u qs=some (k',u')→c0 k u (qs++rs)=c0 k' u' rs
 |[],rs,k,k',u,u',e=>by cases e;rfl
 |q::r,rs,k,k',u,u',e=>by
  let⟨k2,t,f,e2⟩:=oB e;show c0 k u (q::(r++rs))=_
  rw[As f,qO e2]
theorem D9{m:Str}(nd:(fs.map (·.1)).Nodup)(f:findF fs m=some (j,k))(h:(n,k')∈fs)(e:n=m):k'=k:=by
 let⟨i,hi⟩:=acH h;have:=i4 nd hi;rw[e,f]at this;cases this;rfl
def vx:T→V
 |.int i=>.int i
 |.str z=>.str z
 |_=>.non
mutual
def sK:Kd→Nat
 |.num w=>w.toNat
 |.text=>1
 |.row _=>1
 |.rec_ fs=>sF fs
 |.pick fs=>sP fs
def sF:List (Str×Kd)→Nat
 |[]=>0
 |(_,k)::r=>sK k+sF r
def sP:List (Str×Kd)→Nat
 |[]=>0
 |(_,k)::r=>max (1+sK k) (sP r)
end
theorem MM:∀k:Kd,1≤k.depth
 |.num _=>by rw[Kd.depth];exact aan _
 |.text=>by rw[Kd.depth];exact aan _
 |.row k=>by rw[Kd.depth];lia
 |.rec_ fs=>by rw[Kd.depth];lia
 |.pick fs=>by rw[Kd.depth];lia
mutual
theorem Jk:∀(k:Kd) (D:Nat),k.good→k.depth≤D+1→sK k≤4*6^D
 |.num w,D,g,h=>by
  unfold Kd.good at g;rw[sK];have:1≤6^D:=ad5 (by decide);lia
 |.text,D,g,h=>by
  rw[sK];have:1≤6^D:=ad5 (by decide);lia
 |.row k,D,g,h=>by
  rw[sK];have:1≤6^D:=ad5 (by decide);lia
 |.rec_ fs,D,g,h=>by
  unfold Kd.good at g;rw[Kd.depth]at h;rw[sK];cases D with
  |zero=>
   have:=rJ g.2.1;lia
  |succ D=>
   have:=(v7 fs D g.1 (by lia)).1;have h6:fs.length*(4*6^D)≤6*(4*6^D):=adB _ g.2.2.1;rw[Nat.pow_succ];lia
 |.pick fs,D,g,h=>by
  unfold Kd.good at g;rw[Kd.depth]at h;rw[sK];cases D with
  |zero=>
   have:=rJ g.2.1;lia
  |succ D=>
   have:=(v7 fs D g.1 (by lia)).2;have:1≤6^D:=ad5 (by decide);rw[Nat.pow_succ];lia
theorem v7:∀(fs:List (Str×Kd)) (D:Nat),dw fs→aL fs≤D+1→sF fs≤fs.length*(4*6^D)∧sP fs≤1+4*6^D
 |[],D,g,h=>by rw[sF,sP];exact⟨aaE _,aaE _⟩
 |(n,k)::r,D,g,h=>by
  unfold dw at g;unfold aL at h;have a:=Jk k D g.2.1 (by lia);have b:=v7 r D g.2.2 (by lia);rw[sF,sP,aap,acU];lia
theorem rJ:∀{fs:List (Str×Kd)},1≤fs.length→1≤aL fs
 |[],h=>by cases h
 |(n,k)::r,h=>by
  unfold aL;have:=MM k;lia
end
theorem oo(g:k.good)(d:k.depth≤5):sK k≤5184:=by
 have:=Jk k 4 g (by lia);exact this
theorem om:∀{fs:List (Str×Kd)} {p:Str×Kd},p∈fs→1+sK p.2≤sP fs
 |(n,k)::r,p,h=>by
  rw[sP];rcases aah.mp h with rfl|h
  ·exact adt _ _
  ·exact aaG (om h) (adj _ _)
mutual
def cT:T→Nat
 |.tup us=>cL us
 |_=>0
def cL:List T→Nat
 |[]=>0
 |t::r=>1+cT t+cL r
end
def Ud:T→Bool
 |.tup _=>true
 |_=>false
mutual
def dT:T→Nat
 |.tup us=>1+(us.filter Ud).length+dL us
 |_=>0
def dL:List T→Nat
 |[]=>0
 |t::r=>max (dT t) (dL r)
end
def LZ{β:Type}(a b:Str×β):Bool:=!decide (b.1.cps.toList<a.1.cps.toList)
def Rv{β:Type}(xs:List (Str×β)):List (Str×β):=xs.mergeSort LZ
def cu{β:Type}(na:Bool)(xs:List (Str×β)):List (Str×β):=if na=true then Rv xs else xs
theorem zX{a b:Str}(h:a.cps.toList=b.cps.toList):a=b:=by
 obtain⟨⟨x⟩⟩:=a;obtain⟨⟨y⟩⟩:=b;cases h;rfl
theorem uS{β:Type}{a b:Str×β}:LZ a b=true↔¬b.1.cps.toList<a.1.cps.toList:=by unfold LZ;simp
theorem qu{β:Type}(xs:List (Str×β)):(Rv xs).Perm xs:=List.mergeSort_perm _ _
theorem Dw{β:Type}(xs:List (Str×β)):(Rv xs).Pairwise λa b=>¬b.1.cps.toList<a.1.cps.toList:=by
 have:=List.pairwise_mergeSort (le:=LZ (β:=β)) (λa b c h h'=>by
  rw[uS]at *
  exact adG.mpr (List.le_trans (adG.mp h) (adG.mp h'))) (λa b=>by
  cases e:LZ a b with
  |true=>rfl
  |false=>
   have:LZ b a=true:=by
    rw[uS];intro z;have z2:b.1.cps.toList<a.1.cps.toList:=by unfold LZ at e;simpa using e
    exact List.lt_irrefl _ (List.lt_trans z z2)
   simp[this]) xs
 exact this.imp λh=>uS.mp h
theorem Ap{α:Type}{R:α→α→Prop}:∀{xs ys:List α},xs.Perm ys→xs.Pairwise R→ys.Pairwise R→(∀a∈xs,∀b∈xs,R a b→R b a→a=b)→xs=ys
 |[],ys,p,_,_,_=>p.nil_eq
 |x::xs,[],p,_,_,_=>absurd p.length_eq (by simp)
 |x::xs,y::ys,p,hx,hy,an=>by
  have e:x=y:=by
   have m1:x∈y::ys:=p.mem_iff.mp (by simp);have m2:y∈x::xs:=p.mem_iff.mpr (by simp);rcases aah.mp m1 with h|h
   ·exact h
   rcases aah.mp m2 with h'|h'
   ·exact h'.symm
   exact an x (by simp) y m2 ((acV.mp hx).1 y h') ((acV.mp hy).1 x h)
  subst e;rw[Ap (p.cons_inv) (acV.mp hx).2 (acV.mp hy).2 λa ha b hb=>an a (by simp[ha]) b (by simp[hb])]
theorem kG{β:Type}:∀{xs:List (Str×β)},(xs.map (·.1)).Nodup→∀a∈xs,∀b∈xs,a.1=b.1→a=b
 |[],_,a,ha,_,_,_=>by cases ha
 |x::xs,nd,a,ha,b,hb,e=>by
  rw[aam,abe]at nd;rcases aah.mp ha with rfl|ha'<;>rcases aah.mp hb with rfl|hb'
  ·rfl
  ·exact absurd (aay.mpr ⟨b,hb',e.symm⟩) nd.1
  ·exact absurd (aay.mpr ⟨a,ha',e⟩) nd.1
  ·exact kG nd.2 a ha' b hb' e
theorem Dx{β:Type}{xs hs:List (Str×β)}(nd:(xs.map (·.1)).Nodup)(p:hs.Perm xs)(u:Up (hs.map (·.1))):hs=Rv xs:=by
 have u':hs.Pairwise λa b=>¬b.1.cps.toList<a.1.cps.toList:=by
  have:=ac7.mp u;exact this
 exact Ap (p.trans (qu xs).symm) u' (Dw xs) λa ha b hb h h'=>?_;exact kG nd a (p.mem_iff.mp ha) b (p.mem_iff.mp hb) (zX ?_);exact List.le_antisymm (adG.mp h) (adG.mp h')
theorem cR{β:Type}(na:Bool)(xs:List (Str×β)):(cu na xs).Perm xs:=by
 unfold cu;split
 ·exact qu xs
 ·exact .refl _
theorem qQ{β γ:Type}{xs:List (Str×β)}(nd:(xs.map (·.1)).Nodup)(g:Str×β→γ):cu na (xs.map λx=>(x.1,g x))=(cu na xs).map λx=>(x.1,g x):=by
 unfold cu;split
 ·exact(Dx ?_ ((qu xs).map _) ?_).symm
  ·rw[aa8];exact nd
  ·rw[aa8,Up,ac7];exact Dw xs
 ·rfl
theorem gU{β:Type}{xs:List (Str×β)}(nd:(xs.map (·.1)).Nodup):((cu na xs).map (·.1)).Nodup:=((cR na xs).map _).nodup_iff.mpr nd
theorem mQ{β:Type}(na:Bool)(xs:List (Str×β)):(cu na xs).length=xs.length:=(cR na xs).length_eq
structure Ly where
 hi:Bool
 en:Bool
 ch:Bool
 na:Bool
def Ly.s1(L:Ly):Str:=if L.hi=true then "high" else "low"
def Ly.s2(L:Ly):Str:=if L.en=true then "end" else "count"
def Ly.s3(L:Ly):Str:=if L.ch=true then "chain" else "array"
def Ly.s4(L:Ly):Str:=if L.na=true then "names" else "told"
def Ly.tr(L:Ly):T:=.tup [.str L.s1,.str L.s2,.str L.s3,.str L.s4]
def yi(n:Nat)(i:Int):List Int:=(List.range n).map λj=>i/65536^j%65536
def qk(hi:Bool)(n:Nat)(i:Int):List Int:=if hi=true then(yi n i).reverse else yi n i
def uu(en:Bool)(z:Str):List Int:=if en=true then z.cps.toList.map (λc:Nat=>(c:Int))++[0]else(z.length:Int)::z.cps.toList.map (λc:Nat=>(c:Int))
def xH:List (List T)→T
 |[]=>.int 0
 |p::ps=>.tup (xH ps::p)
mutual
def pK(L:Ly):Kd→T→List T
 |.num w,.int i=>(qk L.hi w.toNat i).map T.int
 |.text,.str z=>[.tup ((uu L.en z).map T.int)]
 |.row k,.tup ts=>[if L.ch=true then xH (ts.map λt=>pK L k t)else .tup (.int ts.length::(ts.map λt=>pK L k t).flatten)]
 |.rec_ fs,.tup ts=>((cu L.na (pF L fs ts)).map (·.2)).flatten
 |.pick fs,.tup [.str m,t]=>(T.int (((cu L.na fs).map (·.1)).idxOf m:Nat)::pP L fs m t)++List.replicate (sP fs-(1+(pP L fs m t).length)) (T.int 0)
 |_,_=>[]
def pF(L:Ly):List (Str×Kd)→List T→List (Str×List T)
 |(n,k)::fs,t::ts=>(n,pK L k t)::pF L fs ts
 |_,_=>[]
def pP(L:Ly):List (Str×Kd)→Str→T→List T
 |[],_,_=>[]
 |(n,k)::fs,m,t=>if n=m then pK L k t else pP L fs m t
end
theorem zN(n:Nat)(i:Int):(yi n i).length=n:=by unfold yi;simp
theorem CO(hi:Bool)(n:Nat)(i:Int):(qk hi n i).length=n:=by unfold qk;split<;>simp[zN]
theorem vX(en:Bool)(z:Str):(uu en z).length=z.length+1:=by unfold uu;split<;>simp<;>rfl
theorem Eo(L:Ly):∀{fs:List (Str×Kd)} {ts:List T},ts.length=fs.length→(pF L fs ts).map (·.1)=fs.map (·.1)
 |[],[],_=>by rw[pF];rfl;all_goals (intros;contradiction)
 |(n,k)::fs,t::ts,h=>by rw[pF,aam,aam,Eo L (by simpa using h)]
 |[],_::_,h=>by cases h
 |_::_,[],h=>by cases h
theorem En(L:Ly):∀{fs:List (Str×Kd)} {ts:List T} {j:Nat} {n:Str} {k:Kd} {t:T},fs[j]?=some (n,k)→ts[j]?=some t→(pF L fs ts)[j]?=some (n,pK L k t)
 |(n,k)::fs,t::ts,0,_,_,_,h,h'=>by cases h;cases h';rw[pF];rfl
 |(n,k)::fs,t::ts,j+1,_,_,_,h,h'=>by rw[pF];exact En L (j:=j) h h'
 |[],_,_,_,_,_,h,_=>by simp at h
 |_::_,[],_,_,_,_,_,h=>by simp at h
theorem Ek(L:Ly):∀{fs:List (Str×Kd)} {ts:List T} {x:Str×List T},x∈pF L fs ts→∃(j:Nat) (n:Str) (k:Kd) (t:T),fs[j]?=some (n,k)∧ts[j]?=some t∧x=(n,pK L k t)
 |(n,k)::fs,t::ts,x,h=>by
  rw[pF]at h;rcases aah.mp h with rfl|h
  ·exact Ψ4 0 n k t ⟨rfl,rfl,rfl⟩
  ·let⟨j,n,k,t,a,b,c⟩:=Ek L h
   exact Ψ4 (j+1) n k t ⟨a,b,c⟩
 |[],ts,x,h=>by
  have:pF L [] ts=[]:=by rw[pF];all_goals (intros;contradiction)
  rw[this]at h;cases h
 |a::fs,[],x,h=>by
  have:pF L (a::fs) []=[]:=by rw[pF];all_goals (intros;contradiction)
  rw[this]at h;cases h
theorem wu(L:Ly):∀{fs:List (Str×Kd)} {m:Str} {j:Nat} {k:Kd} {t:T},findF fs m=some (j,k)→pP L fs m t=pK L k t
 |[],m,j,k,t,h=>by cases h
 |(n,q)::fs,m,j,k,t,h=>by
  unfold findF at h;rw[pP];by_cases e:n=m
  ·rw[aaA e]at h;cases h;rw[aaA e]
  ·rw[aaz e]at h
   rw[aaz e];cases e2:findF fs m with
   |none=>rw[e2]at h;cases h
   |some p=>
    rw[e2]at h;cases h;exact wu L (j:=p.1) (by rw[e2])
mutual
def sy:T→Nat
 |.tup us=>us.length+jI us
 |_=>0
def jI:List T→Nat
 |[]=>0
 |t::r=>max (sy t) (jI r)
end
theorem uy:∀(a b:List T),jI (a++b)=max (jI a) (jI b)
 |[],b=>by rw[ab3,jI,Nat.zero_max]
 |t::r,b=>by rw[abY,jI,jI,uy r b,Nat.max_assoc]
theorem mH:∀(ns:List Int),jI (ns.map T.int)=0
 |[]=>by rw[abJ,jI]
 |n::r=>by
  have e:sy (.int n)=0:=by rw[sy];intro us e;cases e
  rw[aam,jI,mH r,e];rfl
theorem GP(n:Nat):jI (List.replicate n (T.int 0))=0:=by
 have:=mH (List.replicate n 0);rw[List.map_replicate]at this;exact this
theorem jh(us:List T):sy (.tup us)=us.length+jI us:=by rw[sy]
theorem uw(i:Int):sy (.int i)=0:=by rw[sy];intro us e;cases e
theorem qA{D:Nat}:∀{ps:List (List T)},(∀p∈ps,jI p≤D)→jI ps.flatten≤D
 |[],_=>by rw[List.flatten_nil,jI];exact aaE _
 |p::ps,h=>by
  rw[aaQ,uy];exact Nat.max_le.mpr ⟨h p (by simp),qA λq hq=>h q (by simp[hq])⟩
theorem ux{D:Nat}:∀{us:List T},(∀u∈us,sy u≤D)→jI us≤D
 |[],_=>by rw[jI];exact aaE _
 |u::us,h=>by
  rw[jI];exact Nat.max_le.mpr ⟨h u (by simp),ux λq hq=>h q (by simp[hq])⟩
theorem DI:∀{us:List T} {u:T},u∈us→sy u≤jI us
 |u::us,v,h=>by
  rw[jI];rcases aah.mp h with rfl|h
  ·exact adt _ _
  ·exact aaG (DI h) (adj _ _)
inductive Pc:T→Prop
 |int (i:Int):Pc (.int i)
 |tup {us:List T} (h:∀u∈us,Pc u):Pc (.tup us)
theorem Ar{ns:List Int}:∀t∈ns.map T.int,Pc t:=λt h=>by
 let⟨n,_,rfl⟩:=aay.mp h;exact .int n
theorem rj{D:Nat}:∀{ps:List (List T)},(∀p∈ps,p.length=D)→ps.flatten.length=ps.length*D
 |[],_=>by simp
 |p::ps,h=>by
  rw[aaQ,aag,h p (by simp),rj λq hq=>h q (by simp[hq]),aap,acU,adu]
theorem FJ{D N:Nat}:∀{ps:List (List T)},(∀p∈ps,p.length=N∧jI p≤D)→sy (xH ps)≤ps.length*(N+1)+D
 |[],_=>by rw[xH,uw];exact aaE _
 |p::ps,h=>by
  have ih:=FJ (ps:=ps) λq hq=>h q (by simp[hq]);have hp:=h p (by simp);rw[xH,jh,jI,aap,aap,hp.1,acU];have:max (sy (xH ps)) (jI p)≤ps.length*(N+1)+D:=Nat.max_le.mpr ⟨ih,by lia⟩;lia
theorem FK:∀{ps:List (List T)},(∀p∈ps,∀t∈p,Pc t)→Pc (xH ps)
 |[],_=>.int 0
 |p::ps,h=>.tup λu hu=>by
  rcases aah.mp hu with rfl|hu
  ·exact FK λq hq=>h q (by simp[hq])
  ·exact h p (by simp) u hu
structure Rf(L:Ly)(k:Kd)(u:T):Prop where
 len:(pK L k u).length=sK k
 sd:jI (pK L k u)≤311200*k.depth
 pc:∀t∈pK L k u,Pc t
theorem Dv{ps qs:List Nat}(h:ps.Perm qs):ps.sum=qs.sum:=h.sum_nat
theorem Em(L:Ly):∀{fs:List (Str×Kd)} {ts:List T},ts.length=fs.length→(∀(j:Nat) (n:Str) (k:Kd) (t:T),fs[j]?=some (n,k)→ts[j]?=some t→(pK L k t).length=sK k)→(((pF L fs ts).map (·.2)).map (·.length)).sum=sF fs
 |[],[],_,_=>by rw[pF,sF];rfl;all_goals (intros;contradiction)
 |(n,k)::fs,t::ts,h,q=>by
  rw[pF,aam,aam,ael,Em L (by simpa using h) λj n k t a b=>q (j+1) n k t a b,sF,q 0 n k t rfl rfl]
 |[],_::_,h,_=>by cases h
 |_::_,[],h,_=>by cases h
theorem iz(L:Ly)(h:eF k u):k.good→k.depth≤5→Rf L k u:=by
 induction h with
 |@num w i l h=>
  intro g d;have e:pK L (.num w) (.int i)=(qk L.hi w.toNat i).map T.int:=by rw[pK]
  exact⟨by rw[e,aae,CO,sK],by rw[e,mH];exact aaE _,by rw[e];exact Ar⟩
 |@text z l h=>
  intro g d;have e:pK L .text (.str z)=[.tup ((uu L.en z).map T.int)]:=by rw[pK]
  exact⟨by rw[e,sK];rfl,?_,λt ht=>?_⟩
  ·rw[e,jI,jI,jh,aae,vX,mH,Kd.depth];lia
  ·rw[e]at ht;rw[aav.mp ht];exact .tup Ar
 |@row k ts l q ih=>
  intro g d;unfold Kd.good at g;rw[Kd.depth]at d;have e:pK L (.row k) (.tup ts)=[if L.ch=true then xH (ts.map λt=>pK L k t)else .tup (.int ts.length::(ts.map λt=>pK L k t).flatten)]:=by rw[pK]
  have ok:∀p∈ts.map (λt=>pK L k t),p.length=sK k∧jI p≤311200*k.depth∧∀t∈p,Pc t:=λp hp=>by
   let⟨t,ht,rfl⟩:=aay.mp hp;have:=ih t ht g (by lia);exact⟨this.len,this.sd,this.pc⟩
  have sm:=oo g (by lia);exact⟨by rw[e,sK];rfl,?_,λt ht=>?_⟩
  ·rw[e,jI,jI,Kd.depth]
   split
   ·have:=FJ (D:=311200*k.depth) (N:=sK k) λp hp=>⟨(ok p hp).1,(ok p hp).2.1⟩
    rw[aae]at this;have h2:ts.length*(sK k+1)≤60*5185:=ace l (by lia);lia
   ·rw[jh,aap,jI,uw,rj λp hp=>(ok p hp).1,aae]
    have h1:=qA (D:=311200*k.depth) λp hp=>(ok p hp).2.1;have h2:ts.length*sK k≤60*5184:=ace l sm;lia
  ·rw[e]at ht
   rw[aav.mp ht];split
   ·exact FK λp hp=>(ok p hp).2.2
   ·exact .tup λv hv=>?_
    rcases aah.mp hv with rfl|hv
    ·exact .int _
    ·let⟨p,hp,hv⟩:=adX.mp hv
     exact(ok p hp).2.2 v hv
 |@rec_ fs ts l q ih=>
  intro g d;unfold Kd.good at g;rw[Kd.depth]at d;have e:pK L (.rec_ fs) (.tup ts)=((cu L.na (pF L fs ts)).map (·.2)).flatten:=by rw[pK]
  have ok:∀(j:Nat) (n:Str) (k:Kd) (t:T),fs[j]?=some (n,k)→ts[j]?=some t→Rf L k t:=λj n k t a b=>by
   have m:=aaj a;have:=aY m;exact ih j n k t a b (aO g.1 m) (by show k.depth≤5;have:k.depth≤aL fs:=this;lia)
  have pm:=(cR L.na (pF L fs ts)).map (·.2);have VZ:∀p∈(cu L.na (pF L fs ts)).map (·.2),jI p≤311200*aL fs∧∀t∈p,Pc t:=λp hp=>by
   let⟨x,hx,rfl⟩:=aay.mp (pm.mem_iff.mp hp);let⟨j,n,k,t,a,b,rfl⟩:=Ek L hx;have o:=ok j n k t a b;have:k.depth≤aL fs:=aY (aaj a);exact⟨aaG o.sd (acL _ this),o.pc⟩
  exact⟨?_,?_,λt ht=>?_⟩
  ·rw[e,List.length_flatten,Dv (pm.map (·.length)),Em L l λj n k t a b=>(ok j n k t a b).len,sK]
  ·rw[e,Kd.depth]
   exact aaG (qA λp hp=>(VZ p hp).1) (acL _ (by lia))
  ·rw[e]at ht
   let⟨p,hp,ht⟩:=adX.mp ht;exact(VZ p hp).2 t ht
 |@pick fs n k j t f q ih=>
  intro g d;unfold Kd.good at g;rw[Kd.depth]at d;have m:=aaj (cS f);have dk:k.depth≤aL fs:=aY m;have o:=ih (aO g.1 m) (by lia);have sp:1+sK k≤sP fs:=om m;have e:pK L (.pick fs) (.tup [.str n,t])=(T.int (((cu L.na fs).map (·.1)).idxOf n:Nat)::pP L fs n t)++List.replicate (sP fs-(1+(pP L fs n t).length)) (T.int 0):=by rw[pK]
  rw[wu L f]at e;exact⟨?_,?_,λv hv=>?_⟩
  ·rw[e,aag,abq,aap,o.len,sK];lia
  ·rw[e,uy,jI,uw,GP,Kd.depth]
   have:=o.sd;have:311200*k.depth≤311200*(aL fs+1):=acL _ (by lia);lia
  ·rw[e]at hv
   rcases aaX.mp hv with hv|hv
   ·rcases aah.mp hv with rfl|hv
    ·exact .int _
    ·exact o.pc v hv
   ·rw[(acW.mp hv).2];exact .int 0
theorem Pc.pl:∀{t:T},Pc t→Pl t:=λh=>by
 induction h with
 |int i=>exact .int i
 |tup h ih=>exact .tup ih
theorem Dk:∀{fs:List (Str×Kd)},fs≠[]→1+fG (fs.map λp=>((sK p.2:Nat):Int))=((sP fs:Nat):Int)
 |[(n,k)],_=>by simp only[aam,abJ,fG,sP];lia
 |(n,k)::q::r,_=>by
  have ih:=Dk (fs:=q::r) (by simp);rw[aam,aam]at *
  rw[fG,sP];have:((max (1+sK k) (sP (q::r)):Nat):Int)=max (((1+sK k:Nat)):Int) ((sP (q::r):Nat):Int):=by lia
  rw[this,←ih];show 1+max ((sK k:Nat):Int) _=_
  lia
theorem Du:∀(fs:List (Str×Kd)),(fs.map λp=>((sK p.2:Nat):Int)).sum=((sF fs:Nat):Int)
 |[]=>by rw[sF];rfl
 |(n,k)::r=>by rw[aam,ael,Du r,sF];show((sK k:Nat):Int)+_=_;lia
theorem ediv_pow(i:Int)(j:Nat):i/65536^j/65536=i/65536^(j+1):=by
 rw[aep (Int.pow_nonneg (by decide)),abz]
theorem CN(n:Nat)(i:Int):yi (n+1) i=yi n i++[i/65536^n%65536]:=by
 unfold yi;rw[List.range_succ,aaf];rfl
theorem jK:∀(n:Nat) (i:Int),yi n i=mi n i
 |0,_=>rfl
 |n+1,i=>by
  rw[mi,←jK n];unfold yi;rw[List.range_succ_eq_map,aam,aa8];congr 1
  ·show i/65536^0%65536=_
   rw[Int.pow_zero,adU]
  ·apply aci
   intro j _;show i/65536^(j+1)%65536=i/65536/65536^j%65536
   congr 1
   rw[abz,acY,←aep (by decide)]
theorem tH:∀{ws:List Int},(∀w∈ws,0≤w∧w<65536)→0≤val ws∧val ws<65536^ws.length
 |[],_=>⟨Int.le_refl _,by decide⟩
 |w::r,h=>by
  let⟨a,b⟩:=tH (ws:=r) λx hx=>h x (by simp[hx]);have hw:=h w (by simp);rw[val,aap,abz,acY];lia
theorem xy:∀{ws:List Int},(∀w∈ws,0≤w∧w<65536)→mi ws.length (val ws)=ws
 |[],_=>rfl
 |w::r,h=>by
  have hw:=h w (by simp);rw[aap,mi,val];have e1:(w+65536*val r)%65536=w:=by lia
  have e2:(w+65536*val r)/65536=val r:=by lia
  rw[e1,e2,xy (ws:=r) λx hx=>h x (by simp[hx])]
theorem xA:∀(n:Nat) (v:Int),mi n (v-65536^n)=mi n v
 |0,_=>rfl
 |n+1,v=>by
  rw[mi,mi,abz,acY];generalize hp:(65536:Int)^n=p;have e1:(v-65536*p)%65536=v%65536:=by lia
  have e2:(v-65536*p)/65536=v/65536-p:=by lia
  rw[e1,e2,←hp,xA n]
def sg(n:Nat)(v:Int):Int:=if 2*v ≥ 65536^n then v-65536^n else v
theorem LR(h:∀w∈ws,0≤w∧w<65536):-(65536^ws.length)≤2*sg ws.length (val ws)∧2*sg ws.length (val ws)<65536^ws.length∧yi ws.length (sg ws.length (val ws))=ws:=by
 let⟨a,b⟩:=tH h;have dv:=xy h;rw[jK];unfold sg;generalize hp:(65536:Int)^ws.length=p at *
 split
 ·exact⟨by lia,by lia,?_⟩
  rw[←hp,xA,dv]
 ·exact⟨by lia,by lia,dv⟩
theorem y0{n:Nat}(h1:-(65536^n)≤2*i)(h2:2*i<65536^n):sg n (val (yi n i))=i:=by
 rw[jK];exact IK h1 h2
def mX(hi:Bool)(ws:List Int):List Int:=if hi=true then ws.reverse else ws
theorem wL(hi:Bool)(ws:List Int):(mX hi ws).length=ws.length:=by unfold mX;split<;>simp
theorem wK:w∈mX hi ws↔w∈ws:=by unfold mX;split<;>simp
theorem vM{n:Nat}:qk hi n i=ws↔yi n i=mX hi ws:=by
 unfold qk mX;cases hi with
 |true=>
  rw[aaA rfl,aaA rfl];exact⟨λh=>by rw[←h,List.reverse_reverse],λh=>by rw[h,List.reverse_reverse]⟩
 |false=>exact Iff.rfl
theorem uT:∀{a b:List Int},a.map T.int=b.map T.int→a=b
 |[],[],_=>rfl
 |[],_::_,h=>by cases h
 |_::_,[],h=>by cases h
 |x::a,y::b,h=>by
  rw[aam,aam]at h;let⟨h1,h2⟩:=aa0 h;cases h1;rw[uT h2]
def Rd(L:Ly)(k:Kd)(sl:List T)(u:T):Prop:=eF k u∧pK L k u=sl
theorem Ld(w0:0≤w)(hl:(ws.length:Int)=w)(h:∀x∈ws,0≤x∧x<65536):Rd L (.num w) (ws.map T.int) u↔u=.int (sg ws.length (val (mX L.hi ws))):=by
 have hw:w.toNat=ws.length:=by lia
 have h':∀x∈mX L.hi ws,0≤x∧x<65536:=λx hx=>h x (wK.mp hx);have ni:=LR h';rw[wL]at ni;constructor
 ·intro⟨hs,e⟩
  cases hs with
  |@num _ i l r=>
   rw[pK]at e;have e:=vM.mp (uT e);rw[hw]at l r e;rw[←e,y0 l r]
 ·rintro rfl
  exact⟨.num ?_ ?_,?_⟩
  ·rw[hw];exact ni.1
  ·rw[hw];exact ni.2.1
  ·rw[pK,hw,vM.mpr ni.2.2]
theorem GV{sl:List T}(r:Rd L (.num w) sl u):∃ws:List Int,sl=ws.map T.int∧∀x∈ws,0≤x∧x<65536:=by
 let⟨hs,e⟩:=r;cases hs with
 |@num _ i l h=>
  rw[pK]at e;exact⟨_,e.symm,λx hx=>?_⟩;unfold qk at hx;split at hx
  ·rw[List.mem_reverse,jK]at hx;exact rH hx
  ·rw[jK]at hx;exact rH hx
def Cv(c:Nat):T:=.int (c:Int)
theorem mG(en:Bool)(z:Str):(uu en z).map T.int=if en=true then z.cps.toList.map Cv++[.int 0]else .int (z.length:Int)::z.cps.toList.map Cv:=by
 unfold uu;split
 ·rw[aaf,aa8];rfl
 ·rw[aam,aa8];rfl
theorem AY:∀{a b:List Nat},a.map Cv=b.map Cv→a=b
 |[],[],_=>rfl
 |[],_::_,h=>by cases h
 |_::_,[],h=>by cases h
 |x::a,y::b,h=>by
  rw[aam,aam]at h;let⟨h1,h2⟩:=aa0 h;have h1:(x:Int)=y:=T.int.inj h1;rw[AY h2,show x=y by lia]
theorem GU{signs:List T}{mark:T}:Rd L .text [.tup (if L.en=true then signs++[mark]else mark::signs)] u↔∃cs:List Nat,signs=cs.map Cv∧cs.length≤60∧cs.all vC=true∧mark=.int (if L.en=true then 0 else(cs.length:Int))∧u=.str ⟨cs.toArray⟩:=by
 constructor
 ·intro⟨hs,e⟩
  cases hs with
  |@text z l h=>
   rw[pK,mG]at e;have e:=T.tup.inj (aa0 e).1;have ez:z=⟨z.cps.toList.toArray⟩:=by cases z;simp
   exact⟨z.cps.toList,?_,l,h,?_,abc T.str ez⟩
   ·cases c:L.en with
    |true=>rw[c,aaA rfl,aaA rfl]at e;exact(adZ e rfl).1.symm
    |false=>rw[c,aaz (by decide),aaz (by decide)]at e;exact(aa0 e).2.symm
   ·cases c:L.en with
    |true=>rw[c,aaA rfl,aaA rfl]at e;rw[aaA rfl];exact(aa0 (adZ e rfl).2).1.symm
    |false=>rw[c,aaz (by decide),aaz (by decide)]at e;rw[aaz (by decide)];exact(aa0 e).1.symm
 ·intro⟨cs,rfl,l,h,rfl,rfl⟩
  exact⟨.text l h,?_⟩;rw[pK,mG];congr 2
  cases L.en<;>rfl
theorem wc(r:Rd L .text [e] u):∃bl,e=.tup bl∧bl≠[]:=by
 let⟨hs,e⟩:=r;cases hs with
 |@text z l h=>
  rw[pK]at e;exact⟨_,(aa0 e).1.symm,λz=>?_⟩;have:=abc List.length z;rw[aae,vX]at this;cases this
theorem chunk{S:Nat}:∀{ps:List (List T)} {j:Nat} {p:List T},(∀p∈ps,p.length=S)→ps[j]?=some p→(ps.flatten.drop (j*S)).take S=p
 |[],j,p,_,h=>by simp at h
 |q::ps,0,p,hl,h=>by
  cases h;rw[aaQ,Nat.zero_mul,abC,acD (by rw[hl _ (by simp)];exact aan _),aa3 (by rw[hl _ (by simp)];exact aan _)]
 |q::ps,j+1,p,hl,h=>by
  have hq:=hl q (by simp);have e0:(q++ps.flatten).drop S=ps.flatten:=by rw[acE (by lia),acw (by lia),ab3]
  rw[aaQ,ad7,ad6,adu,←acf,e0];exact chunk (λp hp=>hl p (by simp[hp])) (by simpa using h)
theorem zQ{S:Nat}:∀{ps:List (List T)} {body:List T},body.length=ps.length*S→(∀(j:Nat) (p:List T),ps[j]?=some p→(body.drop (j*S)).take S=p)→ps.flatten=body
 |[],body,hl,_=>by
  rw[ad9,Nat.zero_mul]at hl;rw[abA hl];rfl
 |q::ps,body,hl,h=>by
  rw[aap,ad7,ad6]at hl;have h0:=h 0 q rfl;rw[Nat.zero_mul,abC]at h0;rw[aaQ,zQ (S:=S) (ps:=ps) (body:=body.drop S) (by rw[abf];lia) (λj p hj=>?_),←h0,acz];rw[acf];have:=h (j+1) p (by simpa using hj);rw[ad7,ad6,adu]at this;exact this
theorem uE(ch:L.ch=false):Rd L (.row k) [e] u↔∃ts:List T,u=.tup ts∧ts.length≤60∧(∀t∈ts,eF k t)∧e=.tup (.int ts.length::(ts.map λt=>pK L k t).flatten):=by
 constructor
 ·intro⟨hs,eq⟩
  cases hs with
  |@row _ ts l q=>
   rw[pK,ch,aaz (by decide)]at eq;exact⟨ts,rfl,l,q,(aa0 eq).1.symm⟩
 ·intro⟨ts,rfl,l,q,rfl⟩
  exact⟨.row l q,by rw[pK,ch,aaz (by decide)]⟩
def Cr(L:Ly)(k:Kd)(e:T)(ts:List T):Prop:=(∀t∈ts,eF k t)∧xH (ts.map λt=>pK L k t)=e
theorem uD(ch:L.ch=true):Rd L (.row k) [e] u↔∃ts:List T,u=.tup ts∧ts.length≤60∧Cr L k e ts:=by
 constructor
 ·intro⟨hs,eq⟩
  cases hs with
  |@row _ ts l q=>
   rw[pK,ch,aaA rfl]at eq;exact⟨ts,rfl,l,q,(aa0 eq).1⟩
 ·intro⟨ts,rfl,l,q,rfl⟩
  exact⟨.row l q,by rw[pK,ch,aaA rfl]⟩
theorem rK{p:List T}:Cr L k (.tup (x::p)) ts↔∃u vs,ts=u::vs∧Rd L k p u∧Cr L k x vs:=by
 constructor
 ·intro⟨hs,e⟩
  cases ts with
  |nil=>cases e
  |cons u vs=>
   rw[aam,xH]at e;have e:=T.tup.inj e;let⟨e1,e2⟩:=aa0 e;exact Ψ2 u vs ⟨rfl,⟨hs u (by simp),e2⟩,λt ht=>hs t (by simp[ht]),e1⟩
 ·intro⟨u,vs,rfl,⟨h1,rfl⟩,h2,rfl⟩
  exact⟨λt ht=>?_,by rw[aam,xH]⟩;rcases aah.mp ht with rfl|ht
  ·exact h1
  ·exact h2 t ht
theorem FE(ne:∀us,e≠.tup us):Cr L k e ts↔ts=[]∧e=.int 0:=by
 constructor
 ·intro⟨_,e⟩
  cases ts with
  |nil=>exact⟨rfl,e.symm⟩
  |cons u vs=>rw[aam,xH]at e;exact absurd e.symm (ne _)
 ·intro⟨rfl,rfl⟩
  exact⟨λ_ h=>(nomatch h),rfl⟩
theorem FD:¬Cr L k (.tup []) ts:=by
 intro⟨_,e⟩;cases ts with
 |nil=>cases e
 |cons u vs=>rw[aam,xH]at e;cases e
def gw:List (Str×Kd)→Str→Nat
 |[],_=>0
 |(n,k)::r,m=>if n=m then 0 else sK k+gw r m
theorem qG:∀fs:List (Str×Kd),sF fs=(fs.map λp=>sK p.2).sum
 |[]=>by rw[sF];rfl
 |(n,k)::r=>by rw[sF,qG r];rfl
theorem z9{gs:al}(p:fs.Perm gs):sF fs=sF gs:=by rw[qG,qG];exact(p.map _).sum_nat
theorem EI:∀{O:List (Str×Kd)} {p:Str×Kd},(O.map (·.1)).Nodup→p∈O→gw O p.1+sK p.2≤sF O
 |(n,k)::r,p,nd,m=>by
  rw[aam,abe]at nd;rw[sF,gw];rcases aah.mp m with rfl|m
  ·rw[aaA rfl];show 0+sK k≤_;lia
  ·have ne:n≠p.1:=λe=>nd.1 (by show n∈_;rw[e];exact aay.mpr ⟨p,m,rfl⟩)
   rw[aaz ne];have:=EI nd.2 m;lia
theorem seg_at{g:Str×Kd→List T}:∀{O:List (Str×Kd)} {p:Str×Kd},(∀p∈O,(g p).length=sK p.2)→(O.map (·.1)).Nodup→p∈O→((O.map g).flatten.drop (gw O p.1)).take (sK p.2)=g p
 |(n,k)::r,p,hl,nd,m=>by
  rw[aam,abe]at nd;have h0:=hl (n,k) (by simp);have h0:(g (n,k)).length=sK k:=h0;rw[gw,aam,aaQ];rcases aah.mp m with rfl|m
  ·rw[aaA rfl,abC]
   show List.take (sK k) _=_
   rw[acD (by lia),aa3 (by lia)]
  ·have ne:n≠p.1:=λe=>nd.1 (by show n∈_;rw[e];exact aay.mpr ⟨p,m,rfl⟩)
   have e0:(g (n,k)++(r.map g).flatten).drop (sK k)=(r.map g).flatten:=by rw[acE (by lia),acw (by lia),ab3]
   rw[aaz ne,←acf,e0];exact seg_at (λp hp=>hl p (by simp[hp])) nd.2 m
theorem z0{g:Str×Kd→List T}:∀{O:List (Str×Kd)} {es:List T},es.length=sF O→(O.map (·.1)).Nodup→(∀p∈O,(es.drop (gw O p.1)).take (sK p.2)=g p)→(O.map g).flatten=es
 |[],es,hl,_,_=>by
  rw[sF]at hl;rw[abA hl];rfl
 |(n,k)::r,es,hl,nd,h=>by
  rw[aam,abe]at nd;rw[sF]at hl;have h0:=h (n,k) (by simp);rw[gw,aaA rfl,abC]at h0;have h0:List.take (sK k) es=g (n,k):=h0;rw[aam,aaQ,z0 (O:=r) (es:=es.drop (sK k)) (by rw[abf];lia) nd.2 (λp hp=>?_),←h0,acz];have ne:n≠p.1:=λe=>nd.1 (by show n∈_;rw[e];exact aay.mpr ⟨p,hp,rfl⟩);have:=h p (by simp[hp]);rw[gw,aaz ne]at this;rw[acf];exact this
def JX(fs:List (Str×Kd))(ts:List T)(n:Str):T:=match findF fs n with
 |some (j,_)=>(ts[j]?).getD .non
 |none=>.non
theorem vw(nd:(fs.map (·.1)).Nodup)(h:fs[j]?=some (n,k))(ht:ts[j]?=some t):JX fs ts n=t:=by
 unfold JX;rw[i4 nd h];show(ts[j]?).getD .non=t
 rw[ht];rfl
theorem Py(nd:(fs.map (·.1)).Nodup)(hl:ts.length=fs.length):pF L fs ts=fs.map λp=>(p.1,pK L p.2 (JX fs ts p.1)):=by
 have hlen:(pF L fs ts).length=fs.length:=by
  have:=abc List.length (Eo L (fs:=fs) (ts:=ts) hl);rw[aae,aae]at this;exact this
 apply acx
 intro j;by_cases c:j<fs.length
 ·obtain⟨n,k,e⟩:∃n k,fs[j]?=some (n,k):=Ψ2 _ _ (aac c)
  obtain⟨t,et⟩:∃t,ts[j]?=some t:=⟨_,aac (by lia)⟩;rw[En L e et,aaC,e];show _=some (n,pK L k (JX fs ts n))
  rw[vw nd e et]
 ·rw[aaH (by lia),aaC,aaH (by lia)]
  rfl
theorem D7(nd:(fs.map (·.1)).Nodup)(hl:ts.length=fs.length):pK L (.rec_ fs) (.tup ts)=((cu L.na fs).map λp=>pK L p.2 (JX fs ts p.1)).flatten:=by
 rw[pK,Py nd hl,qQ (g:=λp:Str×Kd=>pK L p.2 (JX fs ts p.1)) nd,aa8];rfl
theorem yG(g:(Kd.rec_ fs).good)(d:(Kd.rec_ fs).depth≤5)(hl:es.length=sF fs):Rd L (.rec_ fs) es u↔∃ts,u=.tup ts∧ts.length=fs.length∧∀(j:Nat) (n:Str) (k:Kd) (t:T),fs[j]?=some (n,k)→ts[j]?=some t→Rd L k ((es.drop (gw (cu L.na fs) n)).take (sK k)) t:=by
 unfold Kd.good at g;rw[Kd.depth]at d;have nd:=g.2.2.2;have Gb:=gU (na:=L.na) nd;have pm:=cR L.na fs;constructor
 ·intro⟨hs,e⟩
  cases hs with
  |@rec_ _ ts l q=>
   exact⟨ts,rfl,l,λj n k t a b=>⟨q j n k t a b,?_⟩⟩;rw[D7 nd l]at e;have ml:∀p∈cu L.na fs,(pK L p.2 (JX fs ts p.1)).length=sK p.2:=λp hp=>by
    obtain⟨j',Ii,NC⟩:=abD (pm.mem_iff.mp hp);have e1:fs[j']?=some (p.1,p.2):=by rw[aac Ii,NC]
    have e2:ts[j']?=some ts[j']:=aac (by lia);rw[vw nd e1 e2];have m':=aaj e1;exact(iz L (q j' p.1 p.2 _ e1 e2) (aO g.1 m') (by have:p.2.depth≤aL fs:=aY m';lia)).len
   have sa:=seg_at ml Gb (pm.mem_iff.mpr (aaj a));rw[e]at sa;have sa:((es.drop (gw (cu L.na fs) n)).take (sK k))=pK L k (JX fs ts n):=sa;rw[sa,vw nd a b]
 ·intro⟨ts,rfl,l,h⟩
  exact⟨.rec_ l λj n k t a b=>(h j n k t a b).1,?_⟩;rw[D7 nd l];exact z0 (by rw[z9 pm];exact hl) Gb λp hp=>?_;obtain⟨j',Ii,NC⟩:=abD (pm.mem_iff.mp hp);have e1:fs[j']?=some (p.1,p.2):=by rw[aac Ii,NC]
  have e2:ts[j']?=some ts[j']:=aac (by lia);rw[vw nd e1 e2];exact(h j' p.1 p.2 _ e1 e2).2.symm
theorem Fb{xs:List Str}(nd:xs.Nodup)(h:xs[j]?=some n):xs.idxOf n=j:=by
 obtain⟨hj,e⟩:=aat.mp h;subst e;exact nd.idxOf_getElem j hj
theorem uC{e0:T}(g:(Kd.pick fs).good)(d:(Kd.pick fs).depth≤5)(hl:es.length+1=sP fs):Rd L (.pick fs) (e0::es) u↔∃(j:Nat) (n:Str) (k:Kd) (t:T),(cu L.na fs)[j]?=some (n,k)∧e0=.int (j:Int)∧u=.tup [.str n,t]∧Rd L k (es.take (sK k)) t∧∀x∈es.drop (sK k),x=.int 0:=by
 unfold Kd.good at g;rw[Kd.depth]at d;have nd:=g.2.2.2;have Gb:=gU (na:=L.na) nd;have pm:=cR L.na fs;constructor
 ·intro⟨hs,e⟩
  cases hs with
  |@pick _ n k j t f q=>
   have m:=aaj (cS f);have o:=iz L q (aO g.1 m) (by have:k.depth≤aL fs:=aY m;lia);rw[pK,wu L f,abY]at e;let⟨e1,e2⟩:=aa0 e;obtain⟨i,hi,ei⟩:=abD (pm.mem_iff.mpr m);have R5:(cu L.na fs)[i]?=some (n,k):=by rw[aac hi,ei]
   have ix:=Fb Gb (j:=i) (n:=n) (by rw[aaC,R5];rfl);exact Ψ4 i n k t ⟨R5,?_,rfl,⟨q,?_⟩,λx hx=>?_⟩
   ·rw[←e1,ix]
   ·rw[←e2,acD (by rw[o.len];exact aan _),aa3 (by rw[o.len];exact aan _)]
   ·rw[←e2,acE (by rw[o.len];exact aan _),acw (by rw[o.len];exact aan _),ab3]at hx
    exact(acW.mp hx).2
 ·intro⟨j,n,k,t,ej,rfl,rfl,⟨q,e⟩,hz⟩
  have m:=pm.mem_iff.mp (aaj ej);obtain⟨i,hi,ei⟩:=abD m;have R5:fs[i]?=some (n,k):=by rw[aac hi,ei]
  have f:=i4 nd R5;have o:=iz L q (aO g.1 m) (by have:k.depth≤aL fs:=aY m;lia);have sp:1+sK k≤sP fs:=om m;exact⟨.pick f q,?_⟩;rw[pK,wu L f,abY,Fb Gb (j:=j) (n:=n) (by rw[aaC,ej];rfl)];congr 1
  rw[o.len,e];have ed:List.replicate (sP fs-(1+sK k)) (T.int 0)=es.drop (sK k):=by
   symm
   rw[List.eq_replicate_iff];exact⟨by rw[abf];lia,hz⟩
  rw[ed,acz]
theorem yM(L:Ly)(h:eF k u):k.good→k.depth≤5→∀{w:T},eF k w→pK L k u=pK L k w→u=w:=by
 induction h with
 |@num w i l h=>
  intro g d v hv e;cases hv with
  |@num _ i' l' h'=>
   rw[pK,pK]at e;have e:=uT e;have e:yi w.toNat i=yi w.toNat i':=by
    unfold qk at e;split at e
    ·exact List.reverse_inj.mp e
    ·exact e
   rw[←y0 l h,e,y0 l' h']
 |@text z l h=>
  intro g d v hv e;cases hv with
  |@text z' l' h'=>
   rw[pK,pK,mG,mG]at e;have e:=T.tup.inj (aa0 e).1;have:z.cps.toList.map Cv=z'.cps.toList.map Cv:=by
    split at e
    ·exact(adZ e rfl).1
    ·exact(aa0 e).2
   rw[zX (AY this)]
 |@row k ts l q ih=>
  intro g d v hv e;cases hv with
  |@row _ nK l' q'=>
   unfold Kd.good at g;rw[Kd.depth]at d;have len:∀{t},eF k t→(pK L k t).length=sK k:=λh=>(iz L h g (by lia)).len;rw[pK,pK]at e;have e:=(aa0 e).1;have fin:∀{as bs:List T},(∀t∈as,t∈ts)→(∀t∈bs,eF k t)→as.map (λt=>pK L k t)=bs.map (λt=>pK L k t)→as=bs:=λ{as}=>by
    induction as with
    |nil=>intro bs _ _ e;cases bs with|nil=>rfl|cons _ _=>cases e
    |cons a as Yx=>
     intro bs ha hb e;cases bs with
     |nil=>cases e
     |cons b bs=>
      rw[aam,aam]at e;let⟨e1,e2⟩:=aa0 e;rw[ih a (ha a (by simp)) g (by lia) (hb b (by simp)) e1,Yx (λt ht=>ha t (by simp[ht])) (λt ht=>hb t (by simp[ht])) e2]
   congr 1
   split at e
   ·have Iz:∀{ps qs:List (List T)},xH ps=xH qs→ps=qs:=λ{ps}=>by
     induction ps with
     |nil=>intro qs e;cases qs with|nil=>rfl|cons _ _=>cases e
     |cons p ps Yw=>
      intro qs e;cases qs with
      |nil=>cases e
      |cons r qs=>
       have e:=T.tup.inj e;let⟨e1,e2⟩:=aa0 e;rw[Yw e1,e2]
    exact fin (λ_ h=>h) q' (Iz e)
   ·have e:=T.tup.inj e
    let⟨e1,e2⟩:=aa0 e;have e1:(ts.length:Int)=nK.length:=T.int.inj e1;exact fin (λ_ h=>h) q' (acx λj=>?_);rw[aaC,aaC];by_cases c:j<ts.length
    ·have h1:(ts.map λt=>pK L k t)[j]?=some (pK L k ts[j]):=by rw[aaC,aac c];rfl
     have h2:(nK.map λt=>pK L k t)[j]?=some (pK L k (nK[j]'(by lia))):=by rw[aaC,aac (by lia)];rfl
     have c1:=chunk (S:=sK k) (λp hp=>by let⟨t,ht,rfl⟩:=aay.mp hp;exact len (q t ht)) h1;have c2:=chunk (S:=sK k) (λp hp=>by let⟨t,ht,rfl⟩:=aay.mp hp;exact len (q' t ht)) h2;rw[e2]at c1;rw[aac c,aac (show j<nK.length by lia)];exact abc some (c1.symm.trans c2)
    ·rw[aaH (by lia),aaH (by lia)]
 |@rec_ fs ts l q ih=>
  intro g d v hv e;have g':=g;have d':=d;unfold Kd.good at g;rw[Kd.depth]at d;have hl:(pK L (.rec_ fs) (.tup ts)).length=sF fs:=by
   have:=(iz L (eF.rec_ l q) g' d').len;rw[this,sK]
  let⟨us,e1,_,r1⟩:=(yG (u:=.tup ts) g' d' hl).mp ⟨.rec_ l q,rfl⟩;let⟨ws,rfl,l2,r2⟩:=(yG (u:=v) g' d' hl).mp ⟨hv,e.symm⟩;cases e1;congr 1
  apply acx
  intro j;by_cases c:j<fs.length
  ·obtain⟨n,k,ef⟩:∃n k,fs[j]?=some (n,k):=Ψ2 _ _ (aac c)
   have a1:ts[j]?=some ts[j]:=aac (by lia);have a2:ws[j]?=some ws[j]:=aac (by lia);have m:=aaj ef;rw[a1,a2,ih j n k _ ef a1 (aO g.1 m) (by have:k.depth≤aL fs:=aY m;show k.depth≤5;lia) (r2 j n k _ ef a2).1 ((r1 j n k _ ef a1).2.trans (r2 j n k _ ef a2).2.symm)]
  ·rw[aaH (by lia),aaH (by lia)]
 |@pick fs n k j t f q ih=>
  intro g d v hv e;have g':=g;have d':=d;unfold Kd.good at g;rw[Kd.depth]at d;have hp:=(iz L (eF.pick f q) g' d').len;rw[sK]at hp;obtain⟨e0,es,ee⟩:∃e0 es,pK L (.pick fs) (.tup [.str n,t])=e0::es:=by rw[pK,abY];exact Ψ2 _ _ rfl
  rw[ee,aap]at hp;let⟨j1,n1,k1,t1,o1,z1,u1,r1,_⟩:=(uC (u:=.tup [.str n,t]) g' d' hp).mp ⟨.pick f q,ee⟩;let⟨j2,n2,k2,t2,o2,z2,u2,r2,_⟩:=(uC (u:=v) g' d' hp).mp ⟨hv,e.symm.trans ee⟩;rw[z1]at z2;have:j1=j2:=by have:=T.int.inj z2;lia
  subst this;rw[o1]at o2;cases o2;cases u1;subst u2;have m:=(cR L.na fs).mem_iff.mp (aaj o1);have mf:=aaj (cS f);have ek:=kG g.2.2.2 _ mf _ m rfl;cases ek;rw[ih (aO g.1 m) (by have:k.depth≤aL fs:=aY m;lia) r2.1 (r1.2.trans r2.2.symm)]
end Tg
namespace Sto
abbrev Gap:=Int×Int
abbrev Blk:=Int×Int×Int
end Sto
set_option maxHeartbeats 4000000
namespace Tg
open PySem L2
variable {H H':Hp}{a b p:Addr}{o:HO}
def top(i:Nat):Stmt:=PySem.Challenge.pw_tonguegate_k11_whole_read_back.main.body.getD i (.Pass ⟨0,0,0,0⟩)
section
variable {P:Program}{w:World}{K:W.Frag}{mg:ac}{am:Heap}{f:Addr}{fd:FuncData}
abbrev iM:Stmt:=top 48
theorem Skk{N P:List Str}{c:Scope}(a:c.kind=.function:=by rfl)(b:c.isCoroutine=false:=by rfl)(d:c.isGenerator=false:=by rfl)(e:N.Nodup:=by decide +kernel)(f:N.take P.length=P:=by rfl)(g:∀x∈P,c.names.lookup x=some .local∨c.names.lookup x=some .cell:=by decide +kernel)(h:∀y∈c.names,y.2≠.free:=by decide +kernel):aF N P c:=⟨a,b,d,e,f,g,h⟩
theorem qD:aF ["script","k"] ["script","k"] (av iM):=Skk
abbrev lN:Stmt:=top 49
theorem pd:aF ["cell","mixed"] ["cell"] (av lN):=Skk
def Flow(H:Hp)(a:Addr):Prop:=∃f0 f1 f2:Int,H a=some (.lst [.int f0,.int f1,.int f2])∧0≤f0∧0≤f1∧f1<10^40+121
def DE:Sp:=λvs H Q _=>∃c:Int,vs=[.int c]∧∀(a:Addr) (H':Hp),H a=none→Vq H H'→Flow H' a→Q (.ref a) H'
theorem HJ(F:dP K "_law_flow" "_law_flow" lN f fd)(eA:mg "max" = none):bq P w K mg am fE 1 f fd ["cell"] DE:=by
 exact F.ok pd (λvs H Q E h=>?_) (λcy A outer s H vs Q E hr h=>?_)
 ·let⟨c,rfl,_⟩:=h
  rfl
 let⟨c,rfl,q⟩:=h;exact⟨_,(aI (c7 (i:=1) pd.nd rfl (Or.inl rfl) (bQ fU (bQ uL (bQ uL (pv 0) aG) aG) aG))
  (aI (ju (iO (aq (iV (oQ rfl) rfl eA ab2 (aq aG (aq (bQ lU (pv 0) (bQ uJ aG aG)) bf))) (aq (bQ qS (pv 1) (bQ fU (bQ uJ aG aG) aG)) (aq aG bf)))))
  bJ)),?_⟩
 exact⟨_,rfl,_,_,rfl,rfl,.inr ⟨by decide,by decide⟩,_,_,rfl,rfl,.inr ⟨by decide,by decide⟩,_,_,rfl,rfl,?_⟩;exact⟨_,rfl,_,_,rfl,rfl,⟨by decide,by decide,by decide⟩,_,_,rfl,rfl,_,_,rfl,?_⟩;exact⟨_,rfl,_,_,rfl,rfl,⟨by decide,by decide,by decide⟩,_,_,rfl,rfl,_,_,rfl,rfl,(by show(0:Int)<10^Int.toNat 40+121;decide),?_⟩;exact⟨by show 3≤sizeLine;decide,λp hp=>?_⟩;exact q p _ hp (λb o h=>by rw[ao (au h hp)];exact h) ⟨_,_,_,ar,?_,?_,?_⟩
 ·split<;>lia
 ·exact ab4 _ (by decide)
 ·exact abK _ (by decide)
abbrev lP:Stmt:=top 50
theorem pe:aF ["flow","many","found"] ["flow","many"] (av lP):=Skk
def qx:Sp:=λvs H Q _=>∃(a:Addr) (m:Int),vs=[.ref a,.int m]∧Flow H a∧0<m∧m<2^200∧∀(r:Int) (H':Hp),0≤r→r<m→Flow H' a→Kp [a] H H'→Q (.int r) H'
theorem Cg{α:Type}{x:α}{r:List α}:kH (x::r) 0=some x:=cA (j:=0) rfl
theorem MX{α:Type}{x y:α}{r:List α}:kH (x::y::r) 1=some y:=cA (j:=1) rfl
theorem Q6{α:Type}{x y z:α}{r:List α}:kH (x::y::z::r) 2=some z:=cA (j:=2) rfl
theorem HK(F:dP K "_law_draw" "_law_draw" lP f fd):bq P w K mg am fE 1 f fd ["flow","many"] qx:=by
 exact F.ok pe (λvs H Q E h=>?_) (λcy A outer s H vs Q E hr h=>?_)
 ·let⟨a,m,rfl,_⟩:=h
  rfl
 let⟨a,m,rfl,⟨f0,f1,f2,hf,b0,b1,b2⟩,m0,m1,q⟩:=h;exact⟨_,(aI (mP (dX Ex (eB ck (pv 0) aG (λ_ _=>rfl)) aG (aw _)) (aI (c7 (i:=2) pe.nd rfl (Or.inl rfl) (bQ qS (eB ck (pv 0) aG (λ_ _=>rfl)) (pv 1)))
  (aI (qL (bQ qT (eB ck (pv 0) aG (λ_ _=>rfl)) (pv 1)) (qN (pv 0) aG set_list (λ_=>rfl)))
  (aI (ju (pv 2))
  bJ))) bJ)
  (aI (qL (bQ fU (eB ck (pv 0) aG (λ_ _=>rfl)) aG) (qN (pv 0) aG set_list (λ_=>rfl)))
  (aI (qL (bQ qS (bQ fU (bQ Hu (eB ck (pv 0) aG (λ_ _=>rfl)) (eB ck (pv 0) aG (λ_ _=>rfl))) (bQ uL (eB ck (pv 0) aG (λ_ _=>rfl)) aG)) (bQ fU (bQ uJ aG aG) aG)) (qN (pv 0) aG set_list (λ_=>rfl)))
  (aI (ju (bQ qS (bQ qT (eB ck (pv 0) aG (λ_ _=>rfl)) aG) (pv 1)))
  bJ)))),?_⟩
 have sq:eh K H a [.int f0,.int f1,.int f2]:=eh.of hf;exact⟨_,rfl,a,_,_,_,rfl,rfl,sq,Cg,_,_,rfl,rfl,_,rfl,?_⟩;exact pL (λc=>?_) (λc=>?_)
 ·exact⟨_,rfl,a,_,_,_,rfl,rfl,sq,Cg,_,rfl,_,_,rfl,rfl,m0,?_⟩
  exact⟨_,rfl,a,_,_,_,rfl,rfl,sq,Cg,_,rfl,_,_,rfl,rfl,⟨m0,m1⟩,_,rfl,a,_,_,_,rfl,rfl,hf,rfl,?_⟩;exact⟨_,rfl,?_⟩;exact q _ _ (ab4 _ (by lia)) (abK _ m0) ⟨_,_,_,ar,Int.ediv_nonneg b0 (by lia),b1,b2⟩ (Kp.set (by simp) _)
 ·exact⟨_,rfl,a,_,_,_,rfl,rfl,sq,Q6,_,_,rfl,rfl,_,rfl,a,_,_,_,rfl,rfl,hf,rfl,?_⟩
  have Td:eh K (upd H a (.lst ([.int f0,.int f1,.int f2].set 2 (.int (f2+1))))) a [.int f0,.int f1,.int (f2+1)]:=eh.of ar;have n1:f1.natAbs<2^200:=aau (by lia:f1.natAbs<10^40+121) (by decide);exact⟨_,rfl,a,_,_,_,rfl,rfl,Td,MX,_,rfl,a,_,_,_,rfl,rfl,Td,MX,_,_,rfl,rfl,⟨n1,n1⟩,_,rfl,a,_,_,_,rfl,rfl,Td,Q6,_,_,rfl,rfl,.inr ⟨by decide,by decide⟩,_,_,rfl,rfl,_,_,rfl,rfl,⟨by decide,by decide,by decide⟩,_,_,rfl,rfl,_,_,rfl,rfl,(by show(0:Int)<10^Int.toNat 40+121;decide),?_⟩;exact⟨_,rfl,a,_,_,_,rfl,rfl,ar,rfl,?_⟩;exact⟨_,rfl,a,_,_,_,rfl,rfl,eh.of ar,MX,_,_,rfl,rfl,⟨by decide,by decide⟩,_,rfl,_,_,rfl,rfl,m0,?_⟩;exact q _ _ (ab4 _ (by lia)) (abK _ m0) ⟨_,_,_,ar,b0,?_,?_⟩ ((Kp.set (by simp) _).trans (Kp.set (by simp) _))
  ·exact ab4 _ (by decide)
  ·exact abK _ (by decide)
abbrev lL:Stmt:=top 51
theorem bY:aF ["flow","taken","way","name","k","old","at","some","spare"] ["flow","taken"] (av lL):=Skk
def uq:Sp:=λvs H Q _=>∃(a b:Addr) (ss:List Str),vs=[.ref a,.ref b]∧Flow H a∧H b=some (.lst (ss.map V.str))∧ss.length≤6∧(∀z∈ss,Nm z)∧
 ∀(z:Str) (H':Hp),Nm z→z∉ss→Flow H' a→Kp [a] H H'→Q (.str z) H'
theorem Flow.ne{ss:List Str}(h:Flow H a)(h':H b=some (.lst (ss.map V.str))):b≠a:=by
 let⟨f0,f1,f2,e,_⟩:=h;exact pk h' e ?_;intro z;have z':=HO.lst.inj z;cases ss with
 |nil=>cases z'
 |cons x r=>cases z'
theorem Flow.some(h:Flow H a):∃o,H a=.some o:=by
 let⟨f0,f1,f2,e,r⟩:=h;exact⟨_,e⟩
theorem Flow.new(h:Flow H a)(n:H p=none):Flow (upd H p o) a:=by
 let⟨f0,f1,f2,e,r⟩:=h;exact Ψ3 f0 f1 f2 ⟨by rw[ao (au e n)];exact e,r⟩
theorem HE(F:dP K "_law_name" "_law_name" lL f fd)(aB:Callee P w K mg am "_law_draw" 1 ["flow","many"] qx)
  (aU:mg "len" = none) (eA:mg "max" = none) (aT:mg "range" = none):bq P w K mg am fE 2 f fd ["flow","taken"] uq:=by
 exact F.ok bY (λvs H Q E h=>?_) (λcy A outer s H vs Q E hr h=>?_)
 ·let⟨a,b,ss,rfl,_⟩:=h
  rfl
 let⟨a,b,ss,rfl,fl,hb,h6,Qh,q⟩:=h;exact⟨_,(aI (c7 (i:=2) bY.nd rfl (Or.inl rfl) (bR aB hr (by lia) rfl (aq (pv 0) (aq aG bf))))
  (aI (c7 (i:=3) bY.nd rfl (Or.inl rfl) bV)
  (aI (yK aa6 rfl (ox rfl aT (aq (bQ fU aG (bR aB hr (by lia) rfl (aq (pv 0) (aq aG bf)))) bf)) (p8 (i:=4) bY.nd rfl (Or.inl rfl)) (aI (c7 (i:=3) bY.nd rfl (Or.inl rfl) (bQ fv (pv 3) (eB oN bV (bR aB hr (by lia) rfl (aq (pv 0) (aq aG bf))) (λ_ _=>rfl))))
  bJ))
  (aI (uI (mP (dX tR (pv 2) aG (aw _)) (aI (c7 (i:=3) bY.nd rfl (Or.inl rfl) (eB ck (iO (aq bV (aq bV (aq bV (aq bV (aq bV (aq bV (aq bV (aq bV bf))))))))) (bR aB hr (by lia) rfl (aq (pv 0) (aq aG bf))) (λ_ _=>rfl)))
  bJ) bJ))
  (aI (uI (mP (PW.pt (uG (dX (wx hr.lC) (pv 1) (iO bf) (aw _)) (uG (dX Ew aG (pv 2) (aw _)) (uF (dX Ew (pv 2) aG (aw _)))))) (aI (c7 (i:=5) bY.nd rfl (Or.inl rfl) (eB ck (pv 1) (bR aB hr (by lia) rfl (aq (pv 0) (aq (iV jz rfl aU aaD (aq (pv 1) bf)) bf))) (λ_ _=>rfl)))
  (aI (c7 (i:=6) bY.nd rfl (Or.inl rfl) (bR aB hr (by lia) rfl (aq (pv 0) (aq (bQ fU (iV nq rfl aU aaD (aq (pv 5) bf)) aG) bf))))
  (aI (c7 (i:=7) bY.nd rfl (Or.inl rfl) (iO (aq (bQ fv (bQ fv (fg jO (pv 5) gu (gr (pv 6))) (fg jO (pv 3) gu (gr aG))) (fg jO (pv 5) (gr (bQ fU (pv 6) aG)) gu)) (aq (bQ fv (bQ fv (fg jO (pv 5) gu (gr (pv 6))) (fg jO (pv 3) gu (gr aG))) (fg jO (pv 5) (gr (pv 6)) gu)) (aq (fg jO (pv 5) gu (gr (iV (oQ rfl) rfl eA ab2 (aq aG (aq (pv 6) bf))))) (aq (bQ fv (pv 3) (pv 5)) bf))))))
  (aI (c7 (i:=3) bY.nd rfl (Or.inl rfl) (fg jO (eB ck (pv 7) (bQ lU (pv 2) aG) (λ_ _=>rfl)) gu (gr aG)))
  bJ)))) bJ))
  (aI (Aj (i:=8) (own:=["one"]) (cap:=[(1,"taken")]) (cJ rfl (by decide +kernel) (by decide +kernel) rfl (⟨rfl,trivial⟩) rfl (⟨⟨rfl,rfl,rfl⟩,trivial⟩)) rfl (Ao (iO (aq (pv 3) (aq bV (aq bV (aq bV (aq bV (aq bV (aq bV (aq bV bf)))))))))) (λ_ _ _ _=>(p8 (i:=0) (show List.Nodup (["one","taken"]:List Str)from by decide +kernel) rfl (Or.inl rfl) (Or.inr rfl))) (λ_ _ _ _=>(Ai (dX (show ja _ (compareOp .NotIn) (Rx K true)from uK) (pv 0) (pv 1) (by with_unfolding_all rfl)))) (λ_ _ _ _=>(pv 0)) bY.nd rfl rfl)
  (aI (ju (eB ck (pv 8) aG (λ_ _=>rfl)))
  bJ))))))),?_⟩
 have JF:b≠a:=fl.ne hb;have sR:b∉[a]:=by simpa using JF
 exact⟨_,rfl,a,8,rfl,fl,by decide,by decide,λway H1 w0 w8 iE k1=>?_⟩
 -- yp HU
 exact⟨_,rfl,a,8,rfl,iE,by decide,by decide,λr2 H2 r0 r8 fJ k2=>?_⟩;exact Ψ2 _ _ ⟨rfl,rfl,1+r2,rfl,by lia,by lia,?_⟩;exact tZ (λi σ H'=>∃o z,σ=[some (.ref a),some (.ref b),some (.int way),some (.str z),o,none,none,none,none]∧z.length=i∧Lets z∧Flow H' a∧Kp [a] H H') ?_ ?_ ?_
 ·exact Ψ2 none _ ⟨rfl,by decide,(λc hc=>nomatch (show c∈([]:List Nat)from hc)),fJ,k1.trans k2⟩
 ·intro i σ H3 hi⟨o,z,rfl,hz,hl,iR,k3⟩
  exact⟨_,rfl,_,rfl,a,26,rfl,iR,by decide,by decide,λr4 H4 Tz Tx my k4=>?_⟩;let⟨c,hc,Zc⟩:=MY Tz Tx;exact Ψ3 _ _ c ⟨rfl,rfl,(by show JY.length≤sizeLine;rw[A8];decide),hc,_,_,rfl,rfl,?_,?_⟩
  ·have:z.length+1≤sizeLine:=by
    rw[hz];exact aar (aE (show i+1≤1000 by lia))
   exact this
  ·exact Ψ2 _ _ ⟨rfl,?_,hl.app (λd hd=>?_),my,k3.trans k4⟩
   ·rw[dZ,hz];rfl
   ·have Ik:d∈[c]:=hd
    rw[aav.mp Ik];exact Zc
 intro σ H3⟨o,z,rfl,hz,hl,iR,k3⟩;have Yz:Nm z:=⟨by lia,by lia,hl⟩;have hb3:=k3 b _ sR hb
 -- a word in its place
 exact⟨λσ H'=>∃z,σ=[some (.ref a),some (.ref b),some (.int way),some (.str z),o,none,none,none,none]∧Nm z∧Flow H' a∧Kp [a] H H',?_,?_⟩
 ·exact⟨_,rfl,rfl,_,rfl,?_⟩
  exact pL (λc=>?_) (λc=>⟨z,rfl,Yz,iR,k3⟩);exact⟨by show 8≤sizeLine;decide,λp hp=>?_⟩;exact⟨_,rfl,a,8,rfl,iR.new hp,by decide,by decide,λr4 H4 Tz Tx my k4=>?_⟩;have YS:p∉[a]:=by
   let⟨u,e⟩:=iR.some;simpa using(au e hp).symm
  let⟨x,hx,hm⟩:=jC (xs:=CG.map V.str) Tz (by simpa using Tx);let⟨y,hy,rfl⟩:=aay.mp hm;exact Ψ4 p _ _ _ ⟨rfl,rfl,eh.of (k4 p _ YS ar),hx,y,rfl,CF y hy,my,(k3.trans (Kp.new hp _)).trans k4⟩
 intro σ H5⟨z5,rfl,HP,nU,k5⟩;have Mx:=k5 b _ sR hb
 -- near a taken one
 exact⟨λσ H'=>∃z o5 o6 o7,σ=[some (.ref a),some (.ref b),some (.int way),some (.str z),o,o5,o6,o7,none]∧Nm z∧Flow H' a∧Kp [a] H H',?_,?_⟩
 ·have sz:∀n:Nat,n≤1000→n≤sizeLine:=λn h=>aar (aE h)
  have fM:∀{p:Addr} {o':HO},H5 p=none→Kp [a] H (upd H5 p o'):=λhp=>k5.trans (Kp.new hp _);exact⟨_,rfl,by show 0≤sizeLine;decide,λp hp=>Ψ3 b p _ ⟨rfl,rfl,eh.of (by rw[ao (au Mx hp)];exact Mx),eh.of ar,_,rfl,?_⟩⟩;have MD:Flow (upd H5 p (.lst [])) a:=nU.new hp;exact pL (λc1=>?_) (λc1=>Md ⟨z5,none,none,none,rfl,HP,MD,fM hp⟩);exact⟨_,rfl,_,_,rfl,rfl,_,rfl,?_⟩;exact pL (λc2=>?_) (λc2=>Md ⟨z5,none,none,none,rfl,HP,MD,fM hp⟩);exact⟨_,rfl,_,_,rfl,rfl,_,rfl,?_⟩;exact pL (λc3=>?_) (λc3=>Ψ4 z5 none none none ⟨rfl,HP,MD,fM hp⟩);have w1:(1:Int)≤way:=aaU c2;have w4:way≤4:=aaU c3;have hss:0<ss.length:=by
   cases ss with
   |nil=>exact absurd c1 (by decide)
   |cons x r=>exact Nat.succ_pos _
  have Nr:(upd H5 p (.lst [])) b=some (.lst (ss.map V.str)):=by rw[ao (au Mx hp)];exact Mx
  have wQ:Kp [a] H (upd H5 p (.lst [])):=fM hp;generalize upd H5 p (.lst [])=Hp0 at Nr wQ MD ⊢
  -- old
  exact⟨_,rfl,_,rfl,_,rfl,b,_,rfl,.inl (eh.of Nr),a,_,rfl,MD,(by show(0:Int)<((ss.map V.str).length:Nat);rw[aae];lia),(by show(((ss.map V.str).length:Nat):Int)<2^200;rw[aae];lia),λr7 H7 XX XW NA k7=>?_⟩;let⟨x,hx,hm⟩:=jC XX XW;let⟨y,hy,rfl⟩:=aay.mp hm;have ER:=Qh y hy;have Zg:=k7 b _ sR Nr;exact Ψ4 b _ _ _ ⟨rfl,rfl,eh.of Zg,hx,?_⟩
  -- at
  exact⟨_,rfl,_,rfl,y,rfl,sz _ (by have:=ER.2.1;lia),_,_,rfl,rfl,a,_,rfl,NA,(by show(0:Int)<(y.length:Int)+1;lia),(by have:=ER.2.1;show(y.length:Int)+1<2^200;lia),λr8 H8 XU XT Nz k8=>?_⟩;have ly:y.length≤sizeLine:=sz _ (by have:=ER.2.1;lia);have lz:z5.length≤sizeLine:=sz _ (by have:=HP.2.1;lia);have l8:=ER.2.1;have z8:=HP.2.1;have ny:=ER.1;have nz:=HP.1
  -- some
  exact⟨_,rfl,_,rfl,_,rfl,y,rfl,ly,λs1 e1=>?_⟩;exact⟨_,rfl,_,rfl,z5,rfl,lz,λs2 e2=>?_⟩;have q1:=mj e1;have q2:=mj e2;exact Ψ2 _ _ ⟨rfl,rfl,sz _ (by lia),?_⟩;exact⟨_,rfl,_,rfl,_,_,rfl,rfl,_,rfl,y,rfl,ly,λs3 e3=>?_⟩;have q3:=mj e3;exact Ψ2 _ _ ⟨rfl,rfl,sz _ (by rw[dZ];lia),?_⟩;exact⟨_,rfl,_,rfl,_,rfl,y,rfl,ly,λs4 e4=>?_⟩;exact⟨_,rfl,_,rfl,z5,rfl,lz,λs5 e5=>?_⟩;have q4:=mj e4;have q5:=mj e5;exact Ψ2 _ _ ⟨rfl,rfl,sz _ (by lia),?_⟩;exact⟨_,rfl,_,rfl,_,rfl,y,rfl,ly,λs6 e6=>?_⟩;have q6:=mj e6;exact Ψ2 _ _ ⟨rfl,rfl,sz _ (by rw[dZ];lia),?_⟩;exact⟨_,rfl,_,rfl,_,_,rfl,_,rfl,y,rfl,ly,λs7 e7=>?_⟩;exact⟨_,rfl,_,rfl,_,_,rfl,rfl,sz _ (by lia),?_⟩;exact⟨by show 4≤sizeLine;decide,λp2 m5=>?_⟩;have h2:=ng (by decide:(0:Int)≤1) e2;have h5:=ng (by decide:(0:Int)≤1) e5;have h7:=ng (by split<;>lia) e7
  have good:∀x∈[s1++s2++s3,s4++s5++s6,s7,z5++y],1≤x.length∧x.length≤24∧Lets x:=by
   intro x hx;simp only[aah,aao,abg]at hx;rcases hx with rfl|rfl|rfl|rfl
   ·exact⟨?_,?_,((ER.2.2.cut e1).app (HP.2.2.cut e2)).app (ER.2.2.cut e3)⟩
    ·rw[dZ,dZ,h2];lia
    ·rw[dZ,dZ];lia
   ·exact⟨?_,?_,((ER.2.2.cut e4).app (HP.2.2.cut e5)).app (ER.2.2.cut e6)⟩
    ·rw[dZ,dZ,h5];lia
    ·rw[dZ,dZ];lia
   ·exact⟨?_,?_,ER.2.2.cut e7⟩
    ·rw[h7];split<;>lia
    ·have:=mj e7;lia
   ·exact⟨?_,?_,HP.2.2.app ER.2.2⟩
    ·rw[dZ];lia
    ·rw[dZ];lia
  let⟨v,hv,YH⟩:=jC (xs:=[s1++s2++s3,s4++s5++s6,s7,z5++y].map V.str) (r:=way-1) (by lia) (by show way-1<4;lia);let⟨u,hu,rfl⟩:=aay.mp YH;let⟨g1,g2,g3⟩:=good u hu;exact⟨_,rfl,_,rfl,_,_,rfl,rfl,p2,_,_,_,rfl,rfl,eh.of ar,hv,_,rfl,u,rfl,sz _ (by lia),λt9 e9=>?_⟩;have h9:=ng (by decide:(0:Int)≤8) e9;exact Ψ4 t9 _ _ _ ⟨rfl,⟨by rw[h9];have:(8:Int).toNat=8:=rfl;lia,by rw[h9];have:(8:Int).toNat=8:=rfl;lia,g3.cut e9⟩,Nz.new m5,((wQ.trans k7).trans k8).trans (Kp.new m5 _)⟩
 intro σ H6⟨z6,o5,o6,o7,rfl,Yg,t5,k6⟩;have Qv:=k6 b _ sR hb
 -- yp VM ones
 exact⟨_,rfl,by show 8≤sizeLine;decide,λp hp=>?_⟩;have Nr:(upd H6 p (.lst ((z6::cB).map V.str))) b=some (.lst (ss.map V.str)):=by rw[ao (au Qv hp)];exact Qv
 have MD:Flow (upd H6 p (.lst ((z6::cB).map V.str))) a:=t5.new hp;have Ym:Kp [a] H (upd H6 p (.lst ((z6::cB).map V.str))):=k6.trans (Kp.new hp _);have Uz:(upd H6 p (.lst ((z6::cB).map V.str))) p=some (.lst ((z6::cB).map V.str)):=ar;exact⟨p,rfl,⟨_,eh.of Uz⟩,?_⟩;intro D hD;have hD:(upd H6 p (.lst ((z6::cB).map V.str))) D=none:=hD;exact B6 (K:=K) (xs:=(z6::cB).map V.str) (λi σ' ys H'=>∃o',σ'=[o',some (.ref b)]∧ys=(((z6::cB).take i).filter λx=>!decide (x∈ss)).map V.str∧H'=upd (upd H6 p (.lst ((z6::cB).map V.str))) D (.lst ys)) ?_ ?_ ?_ ?_ ?_
 ·exact⟨none,rfl,rfl,rfl⟩
 ·intro i σ' ys H' hi⟨o',rfl,rfl,rfl⟩
  exact⟨ar,?_,eh.of (by rw[ao (au Uz hD)];exact Uz)⟩;rw[aae];exact aaG (List.length_filter_le _ _) ?_;rw[aa4];exact Nat.min_le_left _ _
 ·show 8≤sizeLine
  decide
 ·intro i x σ' ys H' hx⟨o',rfl,rfl,rfl⟩
  rw[aaC]at hx;cases hy:(z6::cB)[i]? with
  |none=>rw[hy]at hx;cases hx
  |some y=>
   rw[hy]at hx;cases hx;have Zf:(upd (upd H6 p (.lst ((z6::cB).map V.str))) D (.lst ((((z6::cB).take i).filter λx=>!decide (x∈ss)).map V.str))) b=some (.lst (ss.map V.str)):=by rw[ao (au Nr hD)];exact Nr
   exact⟨_,rfl,_,rfl,b,_,rfl,.inl (eh.of Zf),rfl,BW ss,_,rfl,?_⟩;have tk:(z6::cB).take (i+1)=(z6::cB).take i++[y]:=by rw[ac5,hy];rfl
   show if(!Ge (.str y) (ss.map V.str))=true then _ else _
   rw[wZ];exact pL (λc=>?_) (λc=>?_)
   ·exact⟨_,rfl,ar,_,rfl,?_,?_⟩
    ·rw[tk,acX,aaf]
     simp only[List.filter_cons,c,ad3,List.filter_nil,aam,abJ]
    ·rw[Gu]
   ·exact⟨_,rfl,?_,rfl⟩
    rw[tk,acX,aaf];have c':(!decide (y∈ss))=false:=Bool.eq_false_iff.mpr c;simp only[List.filter_cons,c',acr,ac9,List.filter_nil,abJ,aax]
 ·intro σ' ys H'⟨o',rfl,rfl,rfl⟩
  let⟨y,r,e,ny,ns⟩:=zo Yg h6;have e8:(((z6::cB).take ((z6::cB).map V.str).length).filter λx=>!decide (x∈ss))=y::r:=by rw[aae,adk];exact e
  rw[e8];exact⟨_,rfl,D,_,_,_,rfl,rfl,eh.of ar,Cg,?_⟩;exact q y _ ny ns (MD.new hD) (Ym.trans (Kp.new hD _))
abbrev jq:Stmt:=top 52
theorem cn:aF ["flow","depth","room","word","many","deepest","names","fields","k","below"] ["flow","depth","room"] (av jq):=Skk
def One(H:Hp)(b:Addr):Prop:=∃r:Int,H b=some (.lst [.int r])
theorem One.ne(h:Flow H a)(h':One H b):b≠a:=by
 let⟨f0,f1,f2,e,_⟩:=h;let⟨r,e'⟩:=h';exact pk e' e (by intro z;have z':=HO.lst.inj z;cases z')
theorem One.kp{l:List Addr}(h:One H b)(k:Kp l H H')(n:b∉l):One H' b:=by
 let⟨r,e⟩:=h;exact⟨r,k b _ n e⟩
theorem One.new(h:One H b)(n:H p=none):One (upd H p o) b:=by
 let⟨r,e⟩:=h;exact⟨r,by rw[ao (au e n)];exact e⟩
theorem yo{xs:List V}(h:H p=some (.lst xs))(o:HO):Tp H (upd H p o):=λb ys q=>by
 rw[ao (pk q h (by intro z;cases z))];exact q
theorem uk(h:H p=none)(o:HO):Tp H (upd H p o):=λb ys q=>by rw[ao (au q h)];exact q
theorem Flow.tp(h:Flow H a)(k:Kp [a] H H'):Tp H H':=k.tp λb hb xs e=>by
 let⟨f0,f1,f2,e',_⟩:=h;rw[aav.mp hb,e']at e;cases e
theorem Flow.Xx(h:Flow H a)(h':One H b)(k:Kp [a,b] H H'):Tp H H':=k.tp λc hb xs e=>by
 let⟨f0,f1,f2,e',_⟩:=h;let⟨r,e2⟩:=h';rcases aah.mp hb with rfl|hb
 ·rw[e']at e;cases e
 ·rw[aav.mp hb,e2]at e;cases e
def ur(n:Nat):Sp:=λvs H Q _=>∃(a b:Addr) (d:Int),vs=[.ref a,.int d,.ref b]∧Flow H a∧One H b∧1≤d∧d<n∧d≤10∧
 ∀(v:V) (k:Kd) (H':Hp),pW H' v k→k.good→k.depth≤d.toNat→Flow H' a→One H' b→Kp [a,b] H H'→Q v H'
theorem rC{nm:Str}{k:Kd}(h1:Nm nm)(h2:k.good):∀{fs:List (Str×Kd)},dw fs→dw (fs++[(nm,k)])
 |[],_=>by show dw [(nm,k)];unfold dw;exact⟨⟨h1.1,h1.2.1,h1.2.2⟩,h2,by unfold dw;trivial⟩
 |(n',k')::r,h=>by
  show dw ((n',k')::(r++[(nm,k)]))
  unfold dw at h ⊢;exact⟨h.1,h.2.1,rC h1 h2 h.2.2⟩
theorem y4{α:Type}{xs:List α}{x:α}(h:xs.Nodup)(n:x∉xs):(xs++[x]).Nodup:=by
 rw[ac8];exact⟨h,by simp,λa ha b hb=>by rw[aav.mp hb];rintro rfl;exact n ha⟩
theorem HI{n:Nat}(F:dP K "_law_kind" "_law_kind" jq f fd)(aB:Callee P w K mg am "_law_draw" 1 ["flow","many"] qx)(mq:Callee P w K mg am "_law_name" 2 ["flow","taken"] uq)
  (eQ:Callee P w K mg am "_law_kind" (2+n) ["flow","depth","room"] (ur n))
  (aT:mg "range" = none) (aC:mg "tuple" = none):bq P w K mg am fE (2+n+1) f fd ["flow","depth","room"] (ur (n+1)):=by
 exact F.ok cn (λvs H Q E h=>?_) (λcy A outer s H vs Q E hr h=>?_)
 ·let⟨a,b,d,rfl,_⟩:=h
  rfl
 let⟨a,b,d,rfl,fl,on,d1,dn,d10,q⟩:=h;exact⟨_,(aI (mP (dX Jt (pv 1) aG (aw _)) (aI (mP (dX tR (bR aB hr (by lia) rfl (aq (pv 0) (aq aG bf))) aG (aw _)) (aI (ju (oy (aq bV bf)))
  bJ) bJ)
  (aI (ju (oy (aq bV (aq (bQ fU aG (bR aB hr (by lia) rfl (aq (pv 0) (aq aG bf)))) bf))))
  bJ)) bJ)
  (aI (c7 (i:=3) cn.nd rfl (Or.inl rfl) (eB ck (iO (aq bV (aq bV (aq bV (aq bV bf))))) (bR aB hr (by lia) rfl (aq (pv 0) (aq aG bf))) (λ_ _=>rfl)))
  (aI (mP (dX tR (pv 3) bV (aw _)) (aI (ju (oy (aq bV (aq (bR eQ hr (by lia) rfl (aq (pv 0) (aq (bQ lU (pv 1) aG) (aq (pv 2) bf)))) bf))))
  bJ) bJ)
  (aI (c7 (i:=4) cn.nd rfl (Or.inl rfl) (bQ fU aG (bR aB hr (by lia) rfl (aq (pv 0) (aq (eB ck (iO (aq aG (aq aG (aq aG (aq aG bf))))) (bR aB hr (by lia) rfl (aq (pv 0) (aq aG bf))) (λ_ _=>rfl)) bf)))))
  (aI (c7 (i:=5) cn.nd rfl (Or.inl rfl) (bR aB hr (by lia) rfl (aq (pv 0) (aq (pv 4) bf))))
  (aI (c7 (i:=6) cn.nd rfl (Or.inl rfl) (iO bf))
  (aI (c7 (i:=7) cn.nd rfl (Or.inl rfl) (iO bf))
  (aI (yK aa6 rfl (ox rfl aT (aq (pv 4) bf)) (p8 (i:=8) cn.nd rfl (Or.inl rfl)) (aI (c7 (i:=9) cn.nd rfl (Or.inl rfl) aG)
  (aI (uI (mP (dX tR (pv 8) (pv 5) (aw _)) (aI (c7 (i:=9) cn.nd rfl (Or.inl rfl) (bQ lU (pv 1) aG))
  bJ) (aI (uI (mP (PW.pt (uG (dX Ex (eB ck (pv 2) aG (λ_ _=>rfl)) aG (aw _)) (uF (dX tR (bR aB hr (by lia) rfl (aq (pv 0) (aq aG bf))) aG (aw _))))) (aI (qL (bQ lU (eB ck (pv 2) aG (λ_ _=>rfl)) aG) (qN (pv 2) aG set_list (λ_=>rfl)))
  (aI (c7 (i:=9) cn.nd rfl (Or.inl rfl) (bQ fU aG (bR aB hr (by lia) rfl (aq (pv 0) (aq (bQ lU (pv 1) aG) bf)))))
  bJ)) bJ))
  bJ)))
  (aI (uH (Ej aaI abb aba gB (pv 6) (aq (bR mq hr (by lia) rfl (aq (pv 0) (aq (pv 6) bf))) bf)))
  (aI (uH (Ej aaI abb aba gB (pv 7) (aq (oy (aq (eB ck (pv 6) (pv 8) (λ_ _=>rfl)) (aq (bR eQ hr (by lia) rfl (aq (pv 0) (aq (pv 9) (aq (pv 2) bf)))) bf))) bf)))
  bJ)))))
  (aI (ju (oy (aq (pv 3) (aq (tP lj rfl aC bE (aq (pv 7) bf)) bf))))
  bJ))))))))),?_⟩
 have JF:b≠a:=One.ne fl on;have sR:b∉[a]:=by simpa using JF
 have up1:∀{H1 H2:Hp},Kp [a] H1 H2→Kp [a,b] H1 H2:=λk=>k.mono (by simp);have sz:∀n:Nat,n≤1000→n≤sizeLine:=λn h=>aar (aE h);exact⟨_,rfl,_,_,rfl,rfl,_,rfl,?_⟩;exact pL (λc=>?_) (λc=>?_)
 ·-- a leaf
  exact⟨_,rfl,a,3,rfl,fl,by decide,by decide,λr H1 r0 r1 iE k1=>⟨rfl,_,rfl,?_⟩⟩;exact pL (λc=>?_) (λc=>?_)
  ·exact⟨by show 1≤sizeLine;decide,λp hp=>?_⟩
   exact q _ .text _ (by unfold pW;exact⟨p,rfl,ar⟩) (by unfold Kd.good;trivial) (by unfold Kd.depth;lia) (iE.new hp) ((on.kp k1 sR).new hp) ((up1 k1).trans (Kp.new hp _))
  ·exact⟨_,rfl,a,4,rfl,iE,by decide,by decide,λr2 H2 Js G0 fJ k2=>Ψ2 _ _ ⟨rfl,rfl,by show 2≤sizeLine;decide,λp hp=>?_⟩⟩
   exact q _ (.num (1+r2)) _ (by unfold pW;exact⟨p,rfl,ar⟩) (by unfold Kd.good;lia) (by unfold Kd.depth;lia) (fJ.new hp) (((on.kp k1 sR).kp k2 sR).new hp) (((up1 k1).trans (up1 k2)).trans (Kp.new hp _))
 have d2:2≤d:=by
  have:¬d<2:=λz=>c (aaM z);lia
 -- yp word
 exact⟨by show 4≤sizeLine;decide,λp0 Gh=>?_⟩;exact⟨_,rfl,a,4,rfl,fl.new Gh,by decide,by decide,λr1 H1 X1 X0 iE k1=>?_⟩;have UB:p0∉[a]:=by
  let⟨u,e⟩:=fl.some;simpa using(au e Gh).symm
 let⟨x,hx,hm⟩:=jC (xs:=(["row","rec","pick","rec"]:List Str).map V.str) X1 (by simpa using X0);let⟨word,hw,rfl⟩:=aay.mp hm;exact Ψ4 p0 _ _ _ ⟨rfl,rfl,eh.of (k1 p0 _ UB ar),hx,?_⟩;have Wl:Kp [a,b] H H1:=(Kp.new Gh _).trans (up1 k1);have VY:One H1 b:=(on.new Gh).kp k1 sR;exact⟨_,rfl,rfl,_,rfl,?_⟩;exact pL (λc=>?_) (λc=>?_)
 ·-- a row
  exact⟨_,rfl,_,rfl,_,_,rfl,rfl,_,rfl,a,b,d-1,rfl,iE,VY,by lia,by lia,by lia,λv k H2 ki kg kd fJ VX k2=>?_⟩;exact⟨by show 2≤sizeLine;decide,λp hp=>?_⟩;exact q _ (.row k) _ (by unfold pW;exact Ψ2 p v ⟨rfl,ar,ki.mono (uk hp _)⟩) (by unfold Kd.good;exact kg) (by unfold Kd.depth;lia) (fJ.new hp) (VX.new hp) ((Wl.trans k2).trans (Kp.new hp _))
 have Uq:word = "rec" ∨ word = "pick" := by
  have cw:¬word = "row" := λz=>c (aaM (abc V.str z));simp only[aah,aao,abg]at hw;rcases hw with h|h|h|h
  ·exact absurd h cw
  ·exact .inl h
  ·exact .inr h
  ·exact .inl h
 -- many
 exact⟨_,rfl,by show 4≤sizeLine;decide,λp1 RG=>?_⟩;exact⟨_,rfl,a,4,rfl,iE.new RG,by decide,by decide,λr2 H2 Js G0 fJ k2=>?_⟩;have UA:p1∉[a]:=by
  let⟨u,e⟩:=iE.some;simpa using(au e RG).symm
 let⟨x2,YC,Qm⟩:=jC (xs:=([3,3,2,6]:List Int).map V.int) Js (by simpa using G0);let⟨m,YW,rfl⟩:=aay.mp Qm;have UH:0<m∧m≤6:=by
  simp only[aah,aao,abg]at YW;lia
 exact Ψ4 p1 _ _ _ ⟨rfl,rfl,eh.of (k2 p1 _ UA ar),YC,a,m,rfl,fJ,UH.1,by lia,λr3 H3 XZ XY iR k3=>Ψ2 _ _ ⟨rfl,rfl,?_⟩⟩
 -- R7
 exact⟨_,rfl,_,rfl,a,1+r3,rfl,iR,by lia,by lia,λdp H4 dp0 dp1 my k4=>?_⟩;have Wk:Kp [a,b] H H4:=(((Wl.trans (Kp.new RG _)).trans (up1 k2)).trans (up1 k3)).trans (up1 k4);have RA:One H4 b:=((((VY.new RG).kp k2 sR).kp k3 sR).kp k4 sR)
 -- names,fields
 exact⟨by show 0≤sizeLine;decide,λN hN=>?_⟩;exact⟨by show 0≤sizeLine;decide,λFa hF=>?_⟩;have Nv:N≠a:=by
  let⟨u,e⟩:=my.some;exact(au e hN).symm
 have RQ:N≠b:=by
  let⟨u,e⟩:=RA;exact(au e hN).symm
 have RV:Fa≠N:=(au (ar (H:=H4) (a:=N) (o:=.lst [])) hF).symm;have UZ:H4 Fa=none:=by rw[ao RV]at hF;exact hF
 have Nx:Fa≠a:=by
  let⟨u,e⟩:=my.some;exact(au e UZ).symm
 have RU:Fa≠b:=by
  let⟨u,e⟩:=RA;exact(au e UZ).symm
 have W3:∀{c:Addr},H4 c=none→(c≠a)→(c≠b)→H c=none:=λ{c} h1 h2 h3=>by
  cases e:H c with
  |none=>rfl
  |some o=>rw[Wk c o (by simp[h2,h3]) e]at h1;cases h1
 have HN:H N=none:=W3 hN Nv RQ;have HF:H Fa=none:=W3 UZ Nx RU;have fM:∀{H':Hp} {c:Addr} {o:HO},H c=none→Kp [a,b] H H'→Kp [a,b] H (upd H' c o):=λ{H' c o} hc k x u hx hu=>by
  have e:x≠c:=au hu hc;rw[ao e];exact k x u hx hu
 exact⟨_,rfl,1+r3,rfl,by lia,by lia,?_⟩;exact tZ (λi σ H'=>∃o8 o9 ss xs fs,σ=[some (.ref a),some (.int d),some (.ref b),some (.str word),some (.int (1+r3)),some (.int dp),some (.ref N),some (.ref Fa),o8,o9]∧
   H' N=some (.lst (ss.map V.str))∧ss.length=i∧(∀z∈ss,Nm z)∧ss.Nodup∧H' Fa=some (.lst xs)∧kJ H' xs fs∧fs.map (·.1)=ss∧dw fs∧aL fs≤(d-1).toNat∧Flow H' a∧One H' b∧Kp [a,b] H H') ?_ ?_ ?_
 ·exact Ψ5 none none [] [] [] ⟨rfl,?_,rfl,(λz hz=>nomatch hz),List.nodup_nil,ar,by unfold kJ;rfl,rfl,by unfold dw;trivial,by unfold aL;lia,(my.new hN).new hF,(RA.new hN).new hF,fM HF (fM HN Wk)⟩
  rw[ao RV.symm];exact ar
 ·rintro i σ H5 hi ⟨o8,o9,ss,xs,fs,rfl,RT,JB,Qh,RI,QB,fin,Np,RL,JE,nU,Ga,k5⟩
  -- below
  exact⟨λσ H'=>∃bl:Int,σ=[some (.ref a),some (.int d),some (.ref b),some (.str word),some (.int (1+r3)),some (.int dp),some (.ref N),some (.ref Fa),some (.int (0+i)),some (.int bl)]∧1≤bl∧bl≤d-1∧
   H' N=some (.lst (ss.map V.str))∧H' Fa=some (.lst xs)∧kJ H' xs fs∧Flow H' a∧One H' b∧Kp [a,b] H H',?_,?_⟩
  ·exact⟨_,rfl,_,rfl,rfl,_,rfl,?_⟩
   exact pL (λc=>?_) (λc=>?_)
   ·exact⟨_,rfl,_,_,rfl,rfl,d-1,rfl,by lia,by lia,RT,QB,fin,nU,Ga,k5⟩
   ·exact⟨λσ H'=>∃bl:Int,σ=[some (.ref a),some (.int d),some (.ref b),some (.str word),some (.int (1+r3)),some (.int dp),some (.ref N),some (.ref Fa),some (.int (0+i)),some (.int bl)]∧1≤bl∧bl≤d-1∧
     H' N=some (.lst (ss.map V.str))∧H' Fa=some (.lst xs)∧kJ H' xs fs∧Flow H' a∧One H' b∧Kp [a,b] H H',?_,λ_ _ h=>h⟩
    let⟨rr,er⟩:=id Ga;exact⟨_,rfl,b,_,_,_,rfl,rfl,eh.of er,Cg,_,_,rfl,rfl,_,rfl,?_⟩;exact pL (λc1=>?_) (λc1=>Md ⟨1,rfl,by lia,by lia,RT,QB,fin,nU,Ga,k5⟩);exact⟨_,rfl,a,3,rfl,nU,by decide,by decide,λr6 H6 r60 r61 t5 k6=>⟨rfl,_,rfl,?_⟩⟩;have Nf:=Ga.kp k6 sR;have Nw:=k6 N _ (by simpa using Nv) RT;have RW:=k6 Fa _ (by simpa using Nx) QB;have Io:=fin.mono (nU.tp k6);exact pL (λc2=>?_) (λc2=>⟨1,rfl,by lia,by lia,Nw,RW,Io,t5,Nf,k5.trans (up1 k6)⟩);let⟨r7,Vd⟩:=id Nf;exact⟨_,rfl,b,_,_,_,rfl,rfl,eh.of Vd,Cg,_,_,rfl,rfl,_,rfl,b,_,_,_,rfl,rfl,Vd,rfl,?_⟩;have flb:Flow (upd H6 b (.lst ([.int r7].set 0 (.int (r7-1))))) a:=by
     let⟨f0,f1,f2,e,z⟩:=t5;exact Ψ3 f0 f1 f2 ⟨by rw[ao JF.symm];exact e,z⟩
    have X8:One (upd H6 b (.lst ([.int r7].set 0 (.int (r7-1))))) b:=⟨r7-1,ar⟩;exact⟨_,rfl,_,rfl,_,_,rfl,rfl,a,d-1,rfl,flb,by lia,by lia,λr8 H8 XU XT Nz k8=>Ψ2 _ _ ⟨rfl,rfl,?_⟩⟩;exact⟨1+r8,rfl,by lia,by lia,k8 N _ (by simpa using Nv) (by rw[ao RQ];exact Nw),k8 Fa _ (by simpa using Nx) (by rw[ao RU];exact RW),(Io.mono (yo Vd _)).mono (flb.tp k8),Nz,X8.kp k8 sR,?_⟩;exact((k5.trans (up1 k6)).trans (Kp.set (by simp) _)).trans (up1 k8)
  intro σ H6⟨bl,rfl,bl1,bld,Nw,RW,Io,t5,Nf,k6⟩
  -- names.append(name)
  exact⟨_,rfl,.inl ⟨rfl,_,eh.of Nw⟩,_,rfl,_,rfl,a,N,ss,rfl,t5,Nw,by lia,Qh,λz H7 nz nf NA k7=>?_⟩;have WR:=k7 N _ (by simpa using Nv) Nw;have Zl:=k7 Fa _ (by simpa using Nx) RW;exact Ψ3 N _ _ ⟨rfl,rfl,WR,?_,?_⟩
  ·rw[aae,JB];exact aE (by lia)
  -- fields.append((names[k],kind))
  have Ya:=Nf.kp k7 sR;have Nz:Flow (upd H7 N (.lst (ss.map V.str++[.str z]))) a:=by
   let⟨f0,f1,f2,e,zz⟩:=NA;exact Ψ3 f0 f1 f2 ⟨by rw[ao Nv.symm];exact e,zz⟩
  have VW:One (upd H7 N (.lst (ss.map V.str++[.str z]))) b:=by
   let⟨r,e⟩:=Ya;exact⟨r,by rw[ao RQ.symm];exact e⟩
  have Vc:=(Io.mono (t5.tp k7)).mono (yo WR (.lst (ss.map V.str++[.str z])));have WW:(upd H7 N (.lst (ss.map V.str++[.str z]))) Fa=some (.lst xs):=by rw[ao RV];exact Zl
  have k8:Kp [a,b] H (upd H7 N (.lst (ss.map V.str++[.str z]))):=fM HN (k6.trans (up1 k7));have Y3:kH (ss.map V.str++[.str z]) (0+(i:Int))=some (.str z):=by
   have e:(0+(i:Int))=((ss.map V.str).length:Nat):=by rw[aae,JB];lia
   rw[e];exact cA (by rw[aaS (aan _),Nat.sub_self];rfl)
  exact⟨_,rfl,.inl ⟨rfl,_,eh.of WW⟩,_,rfl,_,rfl,N,_,_,_,rfl,rfl,eh.of ar,Y3,?_⟩;exact⟨_,rfl,_,rfl,_,rfl,a,b,bl,rfl,Nz,VW,bl1,by lia,by lia,λv k H9 ki kg kd Z7 X9 k9=>?_⟩;have T1:N∉[a,b]:=by simp[Nv,RQ]
  have T2:Fa∉[a,b]:=by simp[Nx,RU]
  have WQ:=k9 N _ T1 ar;have WU:=k9 Fa _ T2 WW;have Va:=Vc.mono (Nz.Xx VW k9);exact⟨by show 2≤sizeLine;decide,λp hp=>?_⟩;have WT:Fa≠p:=au WU hp;have Zk:N≠p:=au WQ hp;have QC:(upd H9 p (.tup [.str z,v])) Fa=some (.lst xs):=by rw[ao WT];exact WU
  have xl:xs.length=i:=by rw[fin.length,←JB,←Np,aae]
  exact Ψ3 Fa _ _ ⟨rfl,rfl,QC,by rw[xl];exact aE (by lia),?_⟩;exact Ψ5 _ _ (ss++[z]) (xs++[.ref p]) (fs++[(z,k)]) ⟨rfl,?_,?_,?_,?_,ar,?_,?_,?_,?_,?_,?_,?_⟩
  ·rw[ao RV.symm,ao Zk,WQ,aaf];rfl
  ·rw[aag,JB];rfl
  ·intro y hy
   rcases aaX.mp hy with h|h
   ·exact Qh y h
   ·rw[aav.mp h];exact nz
  ·exact y4 RI nf
  ·have t1:Tp H9 (upd (upd H9 p (.tup [.str z,v])) Fa (.lst (xs++[.ref p]))):=(uk hp _).trans (yo QC _)
   exact(Va.mono t1).snoc (by rw[ao WT.symm];exact ar) (ki.mono t1)
  ·rw[aaf,Np];rfl
  ·exact rC nz kg RL
  ·exact pC JE (by lia)
  ·let⟨f0,f1,f2,e,zz⟩:=Z7
   have ea:a≠p:=au e hp;exact Ψ3 f0 f1 f2 ⟨by rw[ao Nx.symm,ao ea];exact e,zz⟩
  ·let⟨r,e⟩:=X9
   have eb:b≠p:=au e hp;exact⟨r,by rw[ao RU.symm,ao eb];exact e⟩
  ·exact fM HF ((k8.trans k9).trans (Kp.new hp _))
 rintro σ H5 ⟨o8,o9,ss,xs,fs,rfl,RT,JB,Qh,RI,QB,fin,Np,RL,JE,nU,Ga,k5⟩
 -- yp end
 exact⟨_,rfl,_,rfl,Fa,xs,rfl,.inl ⟨eh.of QB,λl hl=>⟨by show 2≤sizeLine;decide,λp hp=>?_⟩⟩⟩;have lp:l≠p:=au ar hp;have NA:fs.length=(1+r3).toNat:=by rw[←JB,←Np,aae]
 have t1:Tp H5 (upd (upd H5 l (.tup xs)) p (.tup [.str word,.ref l])):=(uk hl _).trans (uk hp _);have BR:(upd (upd H5 l (.tup xs)) p (.tup [.str word,.ref l])) l=some (.tup xs):=by rw[ao lp];exact ar
 have kk:Kp [a,b] H (upd (upd H5 l (.tup xs)) p (.tup [.str word,.ref l])):=(k5.trans (Kp.new hl _)).trans (Kp.new hp _);rcases Uq with e|e<;>subst e
 ·exact q _ (.rec_ fs) _ (by unfold pW;exact Ψ3 p l xs ⟨rfl,ar,BR,fin.mono t1⟩) (by unfold Kd.good;exact⟨RL,by lia,by lia,by rw[Np];exact RI⟩) (by unfold Kd.depth;lia) ((nU.new hl).new hp) ((Ga.new hl).new hp) kk
 ·exact q _ (.pick fs) _ (by unfold pW;exact Ψ3 p l xs ⟨rfl,ar,BR,fin.mono t1⟩) (by unfold Kd.good;exact⟨RL,by lia,by lia,by rw[Np];exact RI⟩) (by unfold Kd.depth;lia) ((nU.new hl).new hp) ((Ga.new hl).new hp) kk
end
end Tg
namespace Tg
open PySem L2 L3
variable {H:Hp}{Γ Γ':Gp}{a p b pT C f2 f3 f4 cT f dN:Addr}{l:List Addr}{k:Kd}{n lv M j:Nat}{Z:K3}{x t y u:T}{r:T→Prop}{m:Str}{lo:Int}{ss:List Str}{L:Ly}{fs:al}{ts xs ys us:List T}{te:E3}{Y:Value→Gp→Prop}{τ:S3}{K:W.Frag}{MG MF ME fd:FuncData}{w:World}{mg:ac}{P:Program}{am:Heap}{vW v1:Value}
mutual
theorem EZ{H:Hp}:∀{k:Kd} {v:V},pW H v k→R H v k.tr
 |.num w,v,h=>by
  unfold pW at h;let⟨a,rfl,e⟩:=h;exact fq e (bg jF (bg cY bI))
 |.text,v,h=>by
  unfold pW at h;let⟨a,rfl,e⟩:=h;exact fq e (bg jF bI)
 |.row k,v,h=>by
  unfold pW at h;let⟨a,u,rfl,e,q⟩:=h;exact fq e (bg jF (bg (EZ q) bI))
 |.rec_ fs,v,h=>by
  unfold pW at h;let⟨a,f,xs,rfl,e,e2,q⟩:=h;exact fq e (bg jF (bg (fq e2 (Fp q)) bI))
 |.pick fs,v,h=>by
  unfold pW at h;let⟨a,f,xs,rfl,e,e2,q⟩:=h;exact fq e (bg jF (bg (fq e2 (Fp q)) bI))
theorem Fp{H:Hp}:∀{fs:List (Str×Kd)} {xs:List V},kJ H xs fs→Rs H xs (ip fs)
 |[],xs,h=>by unfold kJ at h;rw[h];exact bI
 |(nm,k)::r,xs,h=>by
  unfold kJ at h;let⟨p,u,ys,rfl,e,q,z⟩:=h;exact bg (fq e (bg jF (bg (EZ q) bI))) (Fp z)
end
def aM(Γ:Gp)(a:Addr):Prop:=∃f0 f1 f2:Int,Γ a=some (.lst [.int f0,.int f1,.int f2])∧0≤f0∧0≤f1∧f1<10^40+121
def eD(Γ:Gp)(b:Addr):Prop:=∃r:Int,Γ b=some (.lst [.int r])
theorem aM.kq(h:aM Γ a)(f:Kq l Γ Γ')(n:a∉l):aM Γ' a:=by
 let⟨f0,f1,f2,e,r⟩:=h;exact Ψ3 f0 f1 f2 ⟨f a _ n e,r⟩
theorem aM.new{o:O}(h:aM Γ a)(n:Γ p=none):aM (up Γ p o) a:=h.kq (l:=[]) (Kq.new n o) (by simp)
theorem aM.up{o:O}(h:aM Γ a)(n:a≠p):aM (up Γ p o) a:=by
 let⟨f0,f1,f2,e,r⟩:=h;exact Ψ3 f0 f1 f2 ⟨by rw[bb n];exact e,r⟩
theorem aM.some(h:aM Γ a):∃o,Γ a=.some o:=by
 let⟨f0,f1,f2,e,r⟩:=h;exact⟨_,e⟩
theorem aM.nn(h:aM Γ a)(n:Γ p=none):p≠a:=by
 let⟨o,e⟩:=h.some;exact(nQ e n).symm
theorem eD.fr(h:eD Γ a)(f:Fr l Γ Γ')(n:a∉l):eD Γ' a:=by
 let⟨r,e⟩:=h;exact⟨r,by rw[f a n];exact e⟩
theorem eD.kq(h:eD Γ a)(f:Kq l Γ Γ')(n:a∉l):eD Γ' a:=by
 let⟨r,e⟩:=h;exact⟨r,f a _ n e⟩
theorem eD.ne(h:aM Γ a)(h':eD Γ b):b≠a:=by
 let⟨f0,f1,f2,e,_⟩:=h;let⟨r,e'⟩:=h';exact Zo e' e (λz=>by have:=O.lst.inj z;cases this)
theorem vt{H':Hp}(hr:HR H Γ)(k:Kp l H H')(hl:∀b∈l,∃ts nK mv,Γ b=some (.lst ts)∧H' b=some (.lst mv)∧Rs H' mv nK∧Γ' b=some (.lst nK))(fr:Fr l Γ Γ'):eW H Γ H' Γ'∧HR H' Γ':=by
 have nl:∀b∈l,∃vs,H b=some (.lst vs):=λb hb=>by
  let⟨ts,nK,mv,g,_⟩:=hl b hb;let⟨vs,h,_⟩:=hr b _ g;exact⟨vs,h⟩
 have tq:Tq H H':=⟨λa vs h=>k a _ (λz=>by let⟨us,h'⟩:=nl a z;rw[h]at h';cases h') h,λa o u h=>k a _ (λz=>by let⟨us,h'⟩:=nl a z;rw[h]at h';cases h') h⟩;exact⟨⟨tq,λa h z=>?_,λa h g=>?_,λa o h g=>?_⟩,λa o g=>?_⟩
 ·by_cases m:a∈l
  ·let⟨_,_,mv,_,h',_⟩:=hl a m
   rw[z]at h';cases h'
  ·cases e:H a with
   |none=>exact h e
   |some o=>exact(by rw[k a o m e]at z;cases z)
 ·have m:a∉l:=λm=>by let⟨ts,_,_,g',_⟩:=hl a m;rw[g]at g';cases g'
  rw[fr a m];exact g
 ·have m:a∉l:=λm=>by let⟨ts,_,_,g',_⟩:=hl a m;rw[g]at g';cases g'
  exact k a o m h
 ·by_cases m:a∈l
  ·let⟨_,nK,mv,_,h',q,g'⟩:=hl a m
   rw[g]at g';cases g';exact⟨mv,h',q⟩
  ·rw[fr a m]at g
   exact(hr a o g).mono tq λu h=>k a u m h
theorem uZ(hr:HR H Γ)(h:aM Γ a):Flow H a:=by
 let⟨f0,f1,f2,e,r⟩:=h;let⟨vs,hv,q⟩:=hr a _ e;rw[js (ns:=[f0,f1,f2]) q]at hv;exact Ψ3 f0 f1 f2 ⟨hv,r⟩
theorem LQ(hr:HR H Γ)(h:eD Γ a):One H a:=by
 let⟨r,e⟩:=h;let⟨vs,hv,q⟩:=hr a _ e;rw[js (ns:=[r]) q]at hv;exact⟨r,hv⟩
theorem eO{H:Hp}:∀ns:List Int,Rs H (ns.map V.int) (ns.map T.int)
 |[]=>bI
 |n::r=>bg cY (eO r)
def qy:fk:=λts Γ Z _=>∃(a:Addr) (m:Int),ts=[.ref a,.int m]∧aM Γ a∧0<m∧m<2^200∧∀(r:Int) (Γ':Gp),0≤r→r<m→aM Γ' a→Fr [a] Γ Γ'→Z (.int r) Γ'
def KZ(n:Nat):fk:=λts Γ Z _=>∃(a b:Addr) (d:Int),ts=[.ref a,.int d,.ref b]∧aM Γ a∧eD Γ b∧1≤d∧d<n∧d≤10∧
 ∀(k:Kd) (Γ':Gp),k.good→(k.depth:Int)≤d→aM Γ' a→eD Γ' b→Fr [a,b] Γ Γ'→Z k.tr Γ'
section
theorem IJ{k:Nat}(c:Callee P w K mg am "_law_draw" k ["flow","many"] qx):b9 P w K mg am "_law_draw" k ["flow","many"] qy:=
 c.imp λvs H Q E ⟨ts,Γ,Z,Y,r,hr,⟨a,m,e,fl,m0,m1,q⟩,vr,xr⟩=>by
  subst e;let⟨v,w,rfl,r1,r2⟩:=qI r;exact Ψ2 a m ⟨by rw[bZ r1,bG r2],uZ hr fl,m0,m1,λi H' i0 i1 nV k=>?_⟩;let⟨f0,f1,f2,e',b'⟩:=nV;let⟨g0,g1,g2,eg,_⟩:=fl;have fr:Fr [a] Γ (up Γ a (.lst [.int f0,.int f1,.int f2])):=.set (by simp) _;let⟨s,Mf⟩:=vt hr k (λb hb=>by rw[aav.mp hb];exact Ψ3 _ _ _ ⟨eg,e',eO [f0,f1,f2],ai⟩) fr;exact vr _ _ H' _ s Mf cY (q i _ i0 i1 ⟨f0,f1,f2,ai,b'⟩ fr)
theorem IH{k:Nat}(c:Callee P w K mg am "_law_kind" k ["flow","depth","room"] (ur n)):b9 P w K mg am "_law_kind" k ["flow","depth","room"] (KZ n):=
 c.imp λvs H Q E ⟨ts,Γ,Z,Y,r,hr,⟨a,b,d,e,fl,on,d1,dn,d10,q⟩,vr,xr⟩=>by
  subst e;let⟨v,ws,rfl,r1,r'⟩:=bO r;let⟨w,u,rfl,r2,r3⟩:=qI r';exact Ψ3 a b d ⟨by rw[bZ r1,bG r2,bZ r3],uZ hr fl,LQ hr on,d1,dn,d10,λv k H' ki kg kd nV Bw kp=>?_⟩;have V9:b≠a:=eD.ne fl on;let⟨f0,f1,f2,e',b'⟩:=nV;let⟨g0,g1,g2,eg,_⟩:=fl;let⟨r0,er⟩:=on;let⟨r',QI⟩:=Bw;have fr:Fr [a,b] Γ (up (up Γ a (.lst [.int f0,.int f1,.int f2])) b (.lst [.int r'])):=(Fr.set (by simp) _).trans (Fr.set (by simp) _);let⟨s,Mf⟩:=vt hr kp (λc hc=>by
   rcases aah.mp hc with rfl|hc
   ·exact Ψ3 _ _ _ ⟨eg,e',eO [f0,f1,f2],by rw[bb V9.symm];exact ai⟩
   ·rw[aav.mp hc];exact Ψ3 _ _ _ ⟨er,QI,eO [r'],ai⟩) fr
  exact vr _ _ H' _ s Mf (EZ ki) (q k _ kg (by lia) ⟨f0,f1,f2,by rw[bb V9.symm];exact ai,b'⟩ ⟨r',ai⟩ fr)
end
local macro_rules | `(tactic| left)=>`(tactic| repeat (first
 |with_reducible exact N2 ?_|with_reducible exact SF ?_|with_reducible exact Sw ?_|with_reducible exact XB ?_|with_reducible exact XA ?_
 |((with_reducible apply NV);exact rfl)|with_reducible exact N1 ?_|with_reducible exact N5 ?_|with_reducible exact Su ?_|with_reducible exact Kn ?_|with_reducible exact Kf ?_|with_reducible exact VH ?_
 |with_reducible exact Oe ?_|with_reducible exact Od ?_|with_reducible exact XC ?_|with_reducible exact Om ?_|with_reducible exact Oo ?_|with_reducible exact N9 ?_|with_reducible exact Oa ?_|with_reducible exact SU ?_
 |with_reducible exact Ky ?_|with_reducible exact Ot ?_|with_reducible exact Kw ?_|with_reducible exact Ow ?_|with_reducible exact Xy ?_|with_reducible exact N6 ?_|with_reducible exact Oq ?_
 |with_reducible exact Kt ?_|with_reducible exact N7 ?_|with_reducible exact NX ?_|with_reducible exact Ob ?_|with_reducible exact Kv ?_|with_reducible exact GC ?_|with_reducible exact SQ ?_
 |with_reducible exact SS ?_|with_reducible exact Ou ?_|with_reducible exact Kj ?_|with_reducible exact NZ ?_|with_reducible exact Ov ?_|with_reducible exact SI ?_|((with_reducible exact SG ?_ ?_);exact rfl)|with_reducible exact SJ ?_|with_reducible exact SK ?_|with_reducible exact SH ?_
 |with_reducible exact So ?_|with_reducible exact N8 ?_|with_reducible exact Ss ?_|with_reducible exact Sy ?_|with_reducible exact Sv ?_|with_reducible exact Sz ?_|with_reducible exact N4 ?_|with_reducible exact Ol ?_|with_reducible exact Of ?_|with_reducible exact Sq ?_|with_reducible exact Ku ?_|with_reducible exact SR ?_|with_reducible exact Gx ?_|with_reducible exact N3 ?_|with_reducible exact Sn ?_|with_reducible exact Xz ?_|with_reducible exact Oj ?_|with_reducible exact Og ?_|with_reducible exact N0 ?_
 |with_reducible exact Ke ?_|with_reducible exact Kh ?_|with_reducible exact Gz ?_|with_reducible exact Kr ?_|with_reducible exact Oh ?_|with_reducible exact GA ?_|with_reducible exact Kg ?_
 |with_reducible exact SW ?_|((with_reducible apply fm);(first|assumption|exact ai);(first|exact Q8|exact Sa))|((with_reducible apply Kl);(first|assumption|exact ai);exact rfl)
 |with_reducible exact And.intro (rfl:T.non=T.non) ?_|with_reducible exact NY ?_|with_reducible exact SE ?_|with_reducible exact SO ?_|with_reducible exact GB ?_|((with_reducible apply Oi);exact rfl;exact rfl;exact rfl)|with_reducible exact NW ?_|with_reducible exact XD ?_|with_reducible exact SV ?_|with_reducible exact Km ?_|with_reducible exact SN ?_|with_reducible exact SA ?_|with_reducible exact SD ?_|with_reducible exact SM ?_|with_reducible exact Ki ?_
 |((with_reducible exact Oc ?_ ?_);exact rfl)
 |((with_reducible exact Kz ?_ ?_);(first|exact⟨by decide,by decide,by decide⟩|exact⟨by decide,by decide⟩|exact Or.inl ⟨by decide,by decide⟩|exact Or.inr ⟨by decide,by decide⟩|((show(0:Int)<_);decide)))
 |((with_reducible exact xS ?_ ?_);(first|exact rfl|decide +kernel))|((with_reducible exact xT ?_ ?_);(first|exact rfl|decide +kernel))))
theorem sE(fl:aM Γ' a)(k:Kq [a] Γ Γ')(q:∀Γ2,aM Γ2 a→Fr [a] Γ Γ2→Z x Γ2):fj Z x Γ':=by
 let⟨f0,f1,f2,e,r⟩:=fl;exact ML k e (q _ ⟨f0,f1,f2,ai,r⟩ (Fr.set (by simp) _))
theorem Tj(fl:aM Γ' a)(on:eD Γ' b)(k:Kq [a,b] Γ Γ')(q:∀Γ2,aM Γ2 a→eD Γ2 b→Fr [a,b] Γ Γ2→Z x Γ2):fj Z x Γ':=by
 have n:=eD.ne fl on;let⟨f0,f1,f2,e,r⟩:=fl;let⟨r',e'⟩:=on;exact MK k e e' (q _ ⟨f0,f1,f2,by rw[bb n.symm];exact ai,r⟩ ⟨r',ai⟩ ((Fr.set (by simp) _).trans (Fr.set (by simp) _)))
theorem menu{ns:List Int}{r:Int}(h0:0≤r)(h1:r<ns.length):∃n,n∈ns∧kH (ns.map T.int) r=some (.int n):=by
 let⟨x,hx,hm⟩:=jC (xs:=ns.map T.int) h0 (by simpa using h1);let⟨n,hn,rfl⟩:=aay.mp hm;exact⟨n,hn,hx⟩
abbrev jP:Str := " !\"#$&'()*+,-./0123456789:;<=>?@ABCDEFGHIJKLMNOPQRSTUVWXYZ[\\]^_`abcdefghijklmnopqrstuvwxyz{|}~"
theorem tL:jP.cps.toList.length=94:=by decide +kernel
theorem DG:∀c∈jP.cps.toList,vC c=true:=by decide +kernel
theorem Hb{k:Nat}(h:k≤4):(65536:Int)^k≤65536^4:=by
 have c:k=0∨k=1∨k=2∨k=3∨k=4:=by lia
 rcases c with rfl|rfl|rfl|rfl|rfl<;>decide
theorem Ls{k:Nat}(h:k≤4):(65536:Int)^k<2^200:=by
 have:=Hb h;have e:(65536:Int)^4<2^200:=by decide
 lia
theorem pow_mul{k:Nat}(h:1≤k):∃m:Int,(65536:Int)^k=65536*m∧1≤m:=by
 obtain⟨j,rfl⟩:∃j,k=j+1:=⟨k-1,by lia⟩;exact⟨65536^j,by rw[abz,acY],?_⟩;have:=j3 j;lia
theorem gS(d:Nat):(1:Int)≤7^d:=by
 have:(0:Int)<7^d:=Int.pow_pos (by decide);lia
theorem ow{d e:Nat}(h:d≤e):(7:Int)^d≤7^e:=by
 obtain⟨t,rfl⟩:∃t,e=d+t:=⟨e-d,by lia⟩;rw[Int.pow_add];have h3:=ad0 (gS t) (show(0:Int)≤7^d by have:=gS d;lia);rw[Int.mul_one]at h3;exact h3
theorem sum_in{d:Int}:∀{ns:List Int},(∀x∈ns,1≤x∧x≤d)→(ns.length:Int)≤ns.sum∧ns.sum≤ns.length*d
 |[],_=>by simp
 |x::r,h=>by
  have h1:=h x aa5;have h2:=sum_in λy hy=>h y (aaJ _ hy);rw[ael,aap];have e:((r.length+1:Nat):Int)*d=r.length*d+d:=by push_cast;rw[Int.add_mul,Int.one_mul]
  rw[e]
  push_cast
  lia
section
abbrev lI:Stmt:=top 53
theorem oY:aF ["flow","some"] ["flow"] (av lI):=Skk
def KO:fk:=λts Γ Z _=>∃a:Addr,ts=[.ref a]∧aM Γ a∧∀(z:Str) (Γ':Gp),z.length=1→z.cps.toList.all vC=true→aM Γ' a→Fr [a] Γ Γ'→Z (.str z) Γ'
theorem HB(F:dP K "_law_sign" "_law_sign" lI f fd)(aB:b9 P w K mg am "_law_draw" 1 ["flow","many"] qy):bq P w K mg am fE 2 f fd ["flow"] (cj KO):=by
 exact kL F oY (λts Γ Z Y h=>?_) (λcy A outer s H E ts Γ Z Y hr h=>?_)
 ·let⟨a,rfl,_⟩:=h
  rfl
 let⟨a,rfl,fl,q⟩:=h;exact⟨_,(ae (az (i:=1) oY.nd rfl (Or.inl rfl) aK)
  (ae (aA (Lk (qv 1) (ak aB hr (by lia) rfl (aa (qv 0) (aa ah af))) (λ_ _=>rfl)))
  ag)),?_⟩
 simp only[a8];left;exact Ψ2 a 94 ⟨rfl,fl,by decide,by decide,λr Γ1 r0 r1 iE k1=>?_⟩;let⟨c,hc,hm⟩:=jC (xs:=jP.cps.toList) r0 (by rw[tL];exact r1);exact Ψ3 jP _ c ⟨rfl,rfl,by show jP.cps.size≤sizeLine;rw[←aaY,tL];decide,hc,?_⟩;exact aZ .refl (q _ Γ1 rfl ?_ iE k1);show([c].all vC)=true
 rw[ab8,DG c hm];rfl
abbrev jn:Stmt:=top 54
theorem cm:aF ["flow","width","span","way","found"] ["flow","width"] (av jn):=Skk
def KU:fk:=λts Γ Z _=>∃(a:Addr) (k:Nat),ts=[.ref a,.int (k:Nat)]∧aM Γ a∧1≤k∧k≤4∧∀(n:Int) (Γ':Gp),-(65536^k)≤2*n→2*n<65536^k→aM Γ' a→Fr [a] Γ Γ'→Z (.int n) Γ'
theorem Bx(F:dP K "_law_number" "_law_number" jn f fd)(aB:b9 P w K mg am "_law_draw" 1 ["flow","many"] qy):bq P w K mg am fE 2 f fd ["flow","width"] (cj KU):=by
 exact kL F cm (λts Γ Z Y h=>?_) (λcy A outer s H E ts Γ Z Y hr h=>?_)
 ·let⟨a,k,rfl,_⟩:=h
  rfl
 let⟨a,k,rfl,fl,k1,k4,q⟩:=h;exact⟨_,(ae (az (i:=2) cm.nd rfl (Or.inl rfl) (ay (bF (aa ah (aa ah (aa (ba j5 ah ah) (aa (ba j5 ah ah) (aa (ba j5 ah ah) af)))))) (qv 1) (λ_ _=>rfl)))
  (ae (az (i:=3) cm.nd rfl (Or.inl rfl) (ak aB hr (by lia) rfl (aa (qv 0) (aa ah af))))
  (ae (az (i:=4) cm.nd rfl (Or.inl rfl) (ak aB hr (by lia) rfl (aa (qv 0) (aa (qv 2) af))))
  (ae (fu (aW (ax bj (qv 3) ah (aw _)) (ae (az (i:=4) cm.nd rfl (Or.inl rfl) (ay (bF (aa ah (aa ah (aa (ba iP (ba mR (qv 2) ah) ah) (aa (ba mR (qv 2) ah) (aa (ba iP (qv 2) ah) (aa ah af))))))) (ak aB hr (by lia) rfl (aa (qv 0) (aa ah af))) (λ_ _=>rfl)))
  ag) (ae (fu (aW (ax bj (qv 3) ah (aw _)) (ae (az (i:=4) cm.nd rfl (Or.inl rfl) (ba lT (ba Es (qv 4) ah) (ay (bF (aa ah (aa ah (aa (ba j5 ah ah) (aa (ba j5 ah ah) af))))) (ak aB hr (by lia) rfl (aa (qv 0) (aa (qv 1) af))) (λ_ _=>rfl))))
  ag) (ae (fu (aW (ax bj (qv 3) ah (aw _)) (ae (az (i:=4) cm.nd rfl (Or.inl rfl) (ba Es (qv 4) ah))
  ag) ag))
  ag)))
  ag)))
  (ae (fu (aW (ax Aw (qv 4) (ba mR (qv 2) ah) (aw _)) (ae (az (i:=4) cm.nd rfl (Or.inl rfl) (ba iP (qv 4) (qv 2)))
  ag) ag))
  (ae (aA (qv 4))
  ag)))))),?_⟩
 simp only[a8];let⟨m,hm,m1⟩:=pow_mul k1;have hp:=Ls k4;left;intro p Gh;have Qb:kH [T.int 1,T.int 65536,T.int (65536^(2:Int).toNat),T.int (65536^(3:Int).toNat),T.int (65536^(4:Int).toNat)] (k:Int)=some (.int (65536^k)):=by
  have c:k=1∨k=2∨k=3∨k=4:=by lia
  rcases c with rfl|rfl|rfl|rfl<;>exact cA rfl
 left;exact fm ai Qb ?_;have Z8:=fl.new (o:=.lst [T.int 1,T.int 65536,T.int (65536^(2:Int).toNat),T.int (65536^(3:Int).toNat),T.int (65536^(4:Int).toNat)]) Gh;have q0:Kq [a] Γ (up Γ p (.lst [T.int 1,T.int 65536,T.int (65536^(2:Int).toNat),T.int (65536^(3:Int).toNat),T.int (65536^(4:Int).toNat)])):=.new Gh _;left;exact Ψ2 a 6 ⟨rfl,Z8,by decide,by decide,λway Γ1 w0 w6 iE q1=>?_⟩;left;exact Ψ2 a _ ⟨rfl,iE,by lia,by lia,λfo Γ2 f0 f1 fJ q2=>?_⟩;have EY:Kq [a] Γ Γ2:=(q0.trans q1.kq).trans q2.kq;left;exact⟨λτ Γ'=>∃fo:Int,τ=[some (.ref a),some (.int k),some (.int (65536^k)),some (.int way),some (.int fo)]∧0≤fo∧fo<65536^k∧aM Γ' a∧Kq [a] Γ Γ',?_,?_⟩
 ·left
  exact cD (λc=>?_) (λc=>?_)
  ·left
   intro p2 m5;left;exact Ψ2 a 6 ⟨rfl,fJ.new m5,by decide,by decide,λr Γ3 r0 r6 iR q3=>?_⟩;let⟨n,hn,he⟩:=menu (ns:=[0,1,65536^k/2-1,65536^k/2,65536^k-1,65535]) r0 r6;exact fm (by rw[q3 p2 (by simpa using fJ.nn m5)];exact ai) he ?_;exact⟨n,rfl,?_,?_,iR,(EY.trans (.new m5 _)).trans q3.kq⟩
   ·simp only[aah,aao,abg]at hn;lia
   ·simp only[aah,aao,abg]at hn;lia
  ·left
   exact iB ?_;left;exact cD (λc=>?_) (λc=>?_)
   ·left
    intro p2 m5;left;exact Ψ2 a _ ⟨rfl,fJ.new m5,by lia,by lia,λr Γ3 r0 r6 iR q3=>?_⟩;obtain⟨j,rfl⟩:∃j:Nat,r=j:=⟨r.toNat,by lia⟩;have hj:kH [T.int 1,T.int 65536,T.int (65536^(2:Int).toNat),T.int (65536^(3:Int).toNat)] (j:Int)=some (.int (65536^j)):=by
     have c:j=0∨j=1∨j=2∨j=3:=by lia
     rcases c with rfl|rfl|rfl|rfl<;>exact cA rfl
    exact fm (by rw[q3 p2 (by simpa using fJ.nn m5)];exact ai) hj ?_;have e1:0≤fo%65536:=ab4 _ (by decide);have e2:fo%65536<65536:=abK _ (by decide);have pj:=j3 j;have up:fo%65536*65536^j<65536^k:=by
     have h1:(65536:Int)^(j+1)≤65536^k:=by
      obtain⟨t,rfl⟩:∃t,k=j+1+t:=⟨k-(j+1),by lia⟩;rw[Int.pow_add 65536 (j+1) t];have:=j3 t;have h2:=j3 (j+1);have h3:=ad0 (show(1:Int)≤65536^t by lia) (Int.le_of_lt h2);rw[Int.mul_one]at h3;exact h3
     have h2:fo%65536*65536^j≤65535*65536^j:=acB (by lia) (by lia);rw[abz]at h1;lia
    exact Kz (.inl ⟨by lia,by lia⟩) ?_;exact⟨_,rfl,Int.mul_nonneg e1 (Int.le_of_lt pj),up,iR,(EY.trans (.new m5 _)).trans q3.kq⟩
   ·left
    exact iB ?_;left;exact cD (λc=>?_) (λc=>?_)
    ·left
     exact⟨_,rfl,ab4 _ (by decide),by have:=abK fo (show(0:Int)<256 by decide);lia,fJ,EY⟩
    ·left
     exact⟨_,rfl,f0,f1,fJ,EY⟩
 intro τ Γ3⟨fo,rfl,f0,f1,iR,q3⟩;left;exact⟨λτ Γ'=>∃fo:Int,τ=[some (.ref a),some (.int k),some (.int (65536^k)),some (.int way),some (.int fo)]∧-(65536^k)≤2*fo∧2*fo<65536^k∧aM Γ' a∧Kq [a] Γ Γ',?_,?_⟩
 ·left
  exact cD (λc=>?_) (λc=>?_)
  ·have c':65536^k/2≤fo:=aaU c
   left;exact⟨_,rfl,by lia,by lia,iR,q3⟩
  ·have c':¬65536^k/2≤fo:=aa9 c
   left;exact⟨_,rfl,by lia,by lia,iR,q3⟩
 intro τ Γ4⟨fo,rfl,f0,f1,my,q4⟩;left;exact sE my q4 λΓ5 nU k5=>q fo Γ5 f0 f1 nU k5
abbrev lM:Stmt:=top 55
theorem oZ:aF ["flow","way"] ["flow"] (av lM):=Skk
def KW:fk:=λts Γ Z _=>∃a:Addr,ts=[.ref a]∧aM Γ a∧∀(m:Int) (Γ':Gp),0≤m→m≤60→aM Γ' a→Fr [a] Γ Γ'→Z (.int m) Γ'
theorem HG(F:dP K "_law_many" "_law_many" lM f fd)(aB:b9 P w K mg am "_law_draw" 1 ["flow","many"] qy):bq P w K mg am fE 2 f fd ["flow"] (cj KW):=by
 exact kL F oZ (λts Γ Z Y h=>?_) (λcy A outer s H E ts Γ Z Y hr h=>?_)
 ·let⟨a,rfl,_⟩:=h
  rfl
 let⟨a,rfl,fl,q⟩:=h;exact⟨_,(ae (az (i:=1) oZ.nd rfl (Or.inl rfl) (ak aB hr (by lia) rfl (aa (qv 0) (aa ah af))))
  (ae (aW (ax bj (qv 1) ah (aw _)) (ae (aA ah)
  ag) ag)
  (ae (aA (ak aB hr (by lia) rfl (aa (qv 0) (aa (ay (bF (aa ah (aa ah (aa ah (aa ah (aa ah (aa ah (aa ah (aa ah af))))))))) (ba iP (qv 1) ah) (λ_ _=>rfl)) af))))
  ag))),?_⟩
 simp only[a8];left;exact Ψ2 a 9 ⟨rfl,fl,by decide,by decide,λway Γ1 w0 w9 iE k1=>?_⟩;left;exact cD (λc=>?_) (λc=>?_)
 ·left
  exact aZ .refl (q 60 Γ1 (by decide) (by decide) iE k1)
 ·have c':=MO c
  left;intro p hp;let⟨m,hm,he⟩:=menu (ns:=[61,4,4,2,3,3,4,5]) (r:=way-1) (by lia) (by show way-1<8;lia);left;exact fm ai he ?_;have UH:0<m∧m≤61:=by
   simp only[aah,aao,abg]at hm;lia
  left;exact Ψ2 a m ⟨rfl,iE.new hp,UH.1,by lia,λr Γ2 r0 r1 fJ k2=>?_⟩;exact sE fJ ((k1.kq.trans (.new hp _)).trans k2.kq) λΓ3 iR k3=>q r Γ3 r0 (by lia) iR k3
abbrev gi:Stmt:=top 56
theorem sC:aF ["kind"] ["kind"] (av gi):=Skk
mutual
def dY:Kd→Int
 |.num _=>1
 |.text=>1
 |.row k=>1+dY k
 |.rec_ fs=>(cI fs).sum
 |.pick fs=>(cI fs).sum
def cI:List (Str×Kd)→List Int
 |[]=>[]
 |(_,k)::r=>dY k::cI r
end
theorem dH:∀fs:List (Str×Kd),cI fs=fs.map λp=>dY p.2
 |[]=>rfl
 |(_,k)::r=>by rw[cI,dH r];rfl
mutual
theorem oM:∀k:Kd,k.good→1≤dY k∧dY k≤7^k.depth
 |.num w,_=>by rw[dY,Kd.depth];exact⟨by decide,by decide⟩
 |.text,_=>by rw[dY,Kd.depth];exact⟨by decide,by decide⟩
 |.row k,g=>by
  unfold Kd.good at g;have h:=oM k g;rw[dY,Kd.depth,abz];have:=gS k.depth;lia
 |.rec_ fs,g=>by
  unfold Kd.good at g;rw[dY,Kd.depth,abz];have h:=sum_in (lZ fs g.1);have hl:(cI fs).length=fs.length:=by rw[dH,aae]
  rw[hl]at h;have h6:(fs.length:Int)*7^aL fs≤6*7^aL fs:=acB (by lia) (by have:=gS (aL fs);lia);have:=gS (aL fs);lia
 |.pick fs,g=>by
  unfold Kd.good at g;rw[dY,Kd.depth,abz];have h:=sum_in (lZ fs g.1);have hl:(cI fs).length=fs.length:=by rw[dH,aae]
  rw[hl]at h;have h6:(fs.length:Int)*7^aL fs≤6*7^aL fs:=acB (by lia) (by have:=gS (aL fs);lia);have:=gS (aL fs);lia
theorem lZ:∀fs:List (Str×Kd),dw fs→∀x∈cI fs,1≤x∧x≤7^aL fs
 |[],_,x,h=>by rw[cI]at h;cases h
 |(n,k)::r,g,x,h=>by
  unfold dw at g;rw[cI]at h;rw[aL];rcases aah.mp h with rfl|h
  ·have:=oM k g.2.1
   exact⟨this.1,Int.le_trans this.2 (ow (adt _ _))⟩
  ·have:=lZ r g.2.2 x h
   exact⟨this.1,Int.le_trans this.2 (ow (adj _ _))⟩
end
def DC(n:Nat):fk:=λts Γ Z _=>∃k:Kd,ts=[k.tr]∧k.good∧k.depth<n∧Z (.int (dY k)) Γ
theorem By{m:Nat}(F:dP K "_law_leaves" "_law_leaves" gi f fd)(gA:b9 P w K mg am "_law_leaves" m ["kind"] (DC n))(jD:mg "sum" = none):bq P w K mg am fE (m+1) f fd ["kind"] (cj (DC (n+1))):=by
 exact kL F sC (λts Γ Z Y h=>?_) (λcy A outer s H E ts Γ Z Y hr h=>?_)
 ·let⟨k,rfl,_⟩:=h
  rfl
 let⟨k,rfl,kg,kd,q⟩:=h;exact⟨_,(ae (aW (PW.pt (cZ (ax bj (ay (qv 0) ah (λ_ _=>rfl)) aK (aw _)) (cO (ax bj (ay (qv 0) ah (λ_ _=>rfl)) aK (aw _))))) (ae (aA ah)
  ag) ag)
  (ae (aW (ax bj (ay (qv 0) ah (λ_ _=>rfl)) aK (aw _)) (ae (aA (ba eE ah (ak gA hr (by lia) rfl (aa (ay (qv 0) ah (λ_ _=>rfl)) af))))
  ag) ag)
  (ae (aA (aH (FF rfl) rfl jD PyProof.Rows.boot_sum (aa (cf (own:=["field"]) (cap:=[]) (eN rfl (by decide +kernel) (by decide +kernel)) rfl (c6 (ay (qv 0) ah (λ_ _=>rfl))) (λ_ _ _ _=>(aD (i:=0) (show List.Nodup (["field"]:List Str)from by decide +kernel) rfl (Or.inl rfl) (Or.inr rfl))) (λ_ _ _ _=>bB) (λ_ _ _ _=>(ak gA hr (by lia) rfl (aa (ay (qv 0) ah (λ_ _=>rfl)) af)))) af)))
  ag))),?_⟩
 simp only[a8];have fld:∀fs:List (Str×Kd),dw fs→aL fs<n→fs.length≤6→Z (.int (cI fs).sum) Γ→∀(C:List T→Gp→Prop),(∀Γ',C ((cI fs).map T.int) Γ')→True:=λ_ _ _ _ _ _ _=>trivial;cases k with
 |num wd=>rw[Kd.tr];left;exact aZ .refl q
 |text=>rw[Kd.tr];left;exact aZ .refl q
 |row k=>
  unfold Kd.good at kg;rw[Kd.depth]at kd;rw[Kd.tr];left;exact⟨k,rfl,kg,by lia,?_⟩;left;exact aZ .refl q
 |rec_ fs=>
  unfold Kd.good at kg;rw[Kd.depth]at kd;rw[Kd.tr];left;exact⟨by rw[bz];exact aar (aE (by lia)),λrest τ ys Γ'=>∃(gs hs:List (Str×Kd)) (o:Option T),τ=[o]∧rest=ip gs∧fs=hs++gs∧ys=(cI hs).map T.int∧Γ'=Γ,?_,?_,?_⟩
  ·exact Ψ3 fs [] none ⟨rfl,rfl,rfl,rfl,rfl⟩
  ·intro τ ys Γ'⟨gs,hs,o,rfl,e,e2,rfl,rfl⟩
   cases gs with
   |cons p r=>cases e
   |nil=>
    rw[aax]at e2;subst e2;exact⟨trivial,λD hD=>?_⟩;exact Ψ2 D (cI fs) ⟨rfl,bh ai,?_⟩;left;exact aZ (Le.new hD) q
  ·intro x r τ ys Γ'⟨gs,hs,o,rfl,e,e2,rfl,rfl⟩
   cases gs with
   |nil=>cases e
   |cons p gs=>
    obtain⟨nm,k⟩:=p;cases e;have km:(nm,k)∈fs:=by rw[e2];simp
    have dk:k.depth≤aL fs:=aY km;left;exact⟨k,rfl,aO kg.1 km,by lia,?_⟩;exact Ψ3 gs (hs++[(nm,k)]) _ ⟨rfl,rfl,by rw[e2];simp,?_,rfl⟩;rw[dH,dH,aaf,aaf];rfl
 |pick fs=>
  unfold Kd.good at kg;rw[Kd.depth]at kd;rw[Kd.tr];left;exact⟨by rw[bz];exact aar (aE (by lia)),λrest τ ys Γ'=>∃(gs hs:List (Str×Kd)) (o:Option T),τ=[o]∧rest=ip gs∧fs=hs++gs∧ys=(cI hs).map T.int∧Γ'=Γ,?_,?_,?_⟩
  ·exact Ψ3 fs [] none ⟨rfl,rfl,rfl,rfl,rfl⟩
  ·intro τ ys Γ'⟨gs,hs,o,rfl,e,e2,rfl,rfl⟩
   cases gs with
   |cons p r=>cases e
   |nil=>
    rw[aax]at e2;subst e2;exact⟨trivial,λD hD=>?_⟩;exact Ψ2 D (cI fs) ⟨rfl,bh ai,?_⟩;left;exact aZ (Le.new hD) q
  ·intro x r τ ys Γ'⟨gs,hs,o,rfl,e,e2,rfl,rfl⟩
   cases gs with
   |nil=>cases e
   |cons p gs=>
    obtain⟨nm,k⟩:=p;cases e;have km:(nm,k)∈fs:=by rw[e2];simp
    have dk:k.depth≤aL fs:=aY km;left;exact⟨k,rfl,aO kg.1 km,by lia,?_⟩;exact Ψ3 gs (hs++[(nm,k)]) _ ⟨rfl,rfl,by rw[e2];simp,?_,rfl⟩;rw[dH,dH,aaf,aaf];rfl
end
theorem dh{r:List T}(h:x::r=ig lo n):∃m,n=m+1∧x=.int lo∧r=ig (lo+1) m:=by
 cases n with
 |zero=>cases h
 |succ m=>cases h;exact⟨m,rfl,rfl,rfl⟩
theorem jX(h:[]=ig lo n):n=0:=by
 cases n with
 |zero=>rfl
 |succ m=>cases h
theorem rO(ss:List Str):(vh ss).cps.toList=(ss.map (·.cps.toList)).flatten:=rfl
theorem IC(h:∀z∈ss,z.cps.toList.all vC=true):(vh ss).cps.toList.all vC=true:=by
 rw[rO,aaK];intro c hc;let⟨l,hl,AH⟩:=adX.mp hc;let⟨z,hz,rfl⟩:=aay.mp hl;exact aaK.mp (h z hz) c AH
theorem FO(h:∀z∈ss,z.length=1):(vh ss).length=ss.length:=by
 rw[←dj,rO];induction ss with
 |nil=>rfl
 |cons x r ih=>
  rw[aam,aaQ,aag,ih λz hz=>h z (aaJ _ hz),dj,h x aa5,aap];lia
section
abbrev iw:Stmt:=top 57
theorem dQ:aF ["flow","kind","room","many","each","name","below"] ["flow","kind","room"] (av iw):=Skk
def Bl(n:Nat):fk:=λts Γ Z _=>∃(a b:Addr) (k:Kd),ts=[.ref a,k.tr,.ref b]∧aM Γ a∧eD Γ b∧k.good∧k.depth<n∧k.depth≤12∧∀(t:T) (Γ':Gp),eF k t→aM Γ' a→eD Γ' b→Fr [a,b] Γ Γ'→Z t Γ'
theorem Ez{m:Nat}(F:dP K "_law_worth" "_law_worth" iw f fd)(b7:b9 P w K mg am "_law_worth" m ["flow","kind","room"] (Bl n))(aB:b9 P w K mg am "_law_draw" 1 ["flow","many"] qy)(vk:b9 P w K mg am "_law_number" 2 ["flow","width"] KU)
  (rQ:b9 P w K mg am "_law_many" 2 ["flow"] KW) (zC:b9 P w K mg am "_law_sign" 2 ["flow"] KO) (gA:b9 P w K mg am "_law_leaves" m ["kind"] (DC 13)) (m2:2≤m)
  (kR:mg "min" = none) (eA:mg "max" = none) (aT:mg "range" = none) (aC:mg "tuple" = none) (aU:mg "len" = none):bq P w K mg am fE (m+1) f fd ["flow","kind","room"] (cj (Bl (n+1))):=by
 exact kL F dQ (λts Γ Z Y h=>?_) (λcy A outer s H E ts Γ Z Y hr h=>?_)
 ·let⟨a,b,k,rfl,_⟩:=h
  rfl
 let⟨a,b,k,rfl,fl,on,kg,kd,Ma,q⟩:=h;exact⟨_,(ae (aW (ax bj (ay (qv 1) ah (λ_ _=>rfl)) aK (aw _)) (ae (aA (ak vk hr (by lia) rfl (aa (qv 0) (aa (ay (qv 1) ah (λ_ _=>rfl)) af))))
  ag) ag)
  (ae (aW (ax bj (ay (qv 1) ah (λ_ _=>rfl)) aK (aw _)) (ae (az (i:=3) dQ.nd rfl (Or.inl rfl) (aH (ve rfl) rfl kR adq (aa (ak rQ hr (by lia) rfl (aa (qv 0) af)) (aa (aH (vf rfl) rfl eA ab2 (aa ah (aa (ay (qv 2) ah (λ_ _=>rfl)) af))) af))))
  (ae (lR (ba iP (ay (qv 2) ah (λ_ _=>rfl)) (qv 3)) (DX (qv 2) ah))
  (ae (aA (jY PySem.F.plainAttrs_str PySem.F.slot_str_join PySem.F.type_str_join HS aK (aa (cf (own:=["k"]) (cap:=[(0,"flow")]) (cJ rfl (by decide +kernel) (by decide +kernel) rfl (⟨rfl,trivial⟩) rfl (⟨⟨rfl,rfl,rfl⟩,trivial⟩)) rfl (di rfl aT (aa (qv 3) af)) (λ_ _ _ _=>(aD (i:=0) (show List.Nodup (["k","flow"]:List Str)from by decide +kernel) rfl (Or.inl rfl) (Or.inr rfl))) (λ_ _ _ _=>bB) (λ_ _ _ _=>(ak zC hr (by lia) rfl (aa (qv 1) af)))) af)))
  ag))) ag)
  (ae (aW (ax bj (ay (qv 1) ah (λ_ _=>rfl)) aK (aw _)) (ae (az (i:=4) dQ.nd rfl (Or.inl rfl) (ak gA hr (by lia) rfl (aa (ay (qv 1) ah (λ_ _=>rfl)) af)))
  (ae (az (i:=3) dQ.nd rfl (Or.inl rfl) (aH (ve rfl) rfl kR adq (aa (ak rQ hr (by lia) rfl (aa (qv 0) af)) (aa (ba mR (aH (vf rfl) rfl eA ab2 (aa ah (aa (ay (qv 2) ah (λ_ _=>rfl)) af))) (qv 4)) af))))
  (ae (lR (ba iP (ay (qv 2) ah (λ_ _=>rfl)) (ba lT (qv 3) (qv 4))) (DX (qv 2) ah))
  (ae (aA (cQ dJ rfl aC bE (aa (cf (own:=["k"]) (cap:=[(0,"flow"),(2,"room"),(1,"kind")]) (cJ rfl (by decide +kernel) (by decide +kernel) rfl (⟨rfl,⟨rfl,⟨rfl,trivial⟩⟩⟩) rfl (⟨⟨rfl,rfl,rfl⟩,⟨⟨rfl,rfl,rfl⟩,⟨⟨rfl,rfl,rfl⟩,trivial⟩⟩⟩)) rfl (di rfl aT (aa (qv 3) af)) (λ_ _ _ _=>(aD (i:=0) (show List.Nodup (["k","flow","room","kind"]:List Str)from by decide +kernel) rfl (Or.inl rfl) (Or.inr rfl))) (λ_ _ _ _=>bB) (λ_ _ _ _=>(ak b7 hr (by lia) rfl (aa (qv 1) (aa (ay (qv 3) ah (λ_ _=>rfl)) (aa (qv 2) af)))))) af)))
  ag)))) ag)
  (ae (aW (ax bj (ay (qv 1) ah (λ_ _=>rfl)) aK (aw _)) (ae (lR (ay (ay (qv 1) ah (λ_ _=>rfl)) (ak aB hr (by lia) rfl (aa (qv 0) (aa (aH cF rfl aU aaD (aa (ay (qv 1) ah (λ_ _=>rfl)) af)) af))) (λ_ _=>rfl)) (dt (n:=2) rfl (aS (aD (i:=5) dQ.nd rfl (Or.inl rfl)) (aS (aD (i:=6) dQ.nd rfl (Or.inl rfl)) cz))))
  (ae (aA (bP (aa (qv 5) (aa (ak b7 hr (by lia) rfl (aa (qv 0) (aa (qv 6) (aa (qv 2) af)))) af))))
  ag)) ag)
  (ae (aA (cQ dJ rfl aC bE (aa (cf (own:=["field"]) (cap:=[(0,"flow"),(2,"room")]) (cJ rfl (by decide +kernel) (by decide +kernel) rfl (⟨rfl,⟨rfl,trivial⟩⟩) rfl (⟨⟨rfl,rfl,rfl⟩,⟨⟨rfl,rfl,rfl⟩,trivial⟩⟩)) rfl (c6 (ay (qv 1) ah (λ_ _=>rfl))) (λ_ _ _ _=>(aD (i:=0) (show List.Nodup (["field","flow","room"]:List Str)from by decide +kernel) rfl (Or.inl rfl) (Or.inr rfl))) (λ_ _ _ _=>bB) (λ_ _ _ _=>(ak b7 hr (by lia) rfl (aa (qv 1) (aa (ay (qv 0) ah (λ_ _=>rfl)) (aa (qv 2) af)))))) af)))
  ag))))),?_⟩
 simp only[a8];have JF:b≠a:=eD.ne fl on;have sR:b∉[a]:=by simpa using JF
 have up1:∀{Γ1 Γ2:Gp},Kq [a] Γ1 Γ2→Kq [a,b] Γ1 Γ2:=λk=>k.mono (by simp);have fin:∀{t:T} {Γ':Gp},eF k t→aM Γ' a→eD Γ' b→Kq [a,b] Γ Γ'→fj Z t Γ':=λh1 h2 h3 h4=>Tj h2 h3 h4 λΓ2 a1 a2 a3=>q _ Γ2 h1 a1 a2 a3;cases k with
 |num wd=>
  unfold Kd.good at kg;obtain⟨nn,rfl⟩:∃nn:Nat,wd=nn:=⟨wd.toNat,by lia⟩;rw[Kd.tr];left;exact Ψ2 a nn ⟨rfl,fl,by lia,by lia,λi Γ1 i0 i1 iE k1=>?_⟩;exact fin (.num i0 i1) iE (on.fr k1 sR) (up1 k1.kq)
 |text=>
  rw[Kd.tr];left;exact⟨a,rfl,fl,λmm Γ1 m0 We iE k1=>?_⟩;let⟨r,YQ⟩:=on.fr k1 sR;left;obtain⟨M,hM,M0,M60⟩:∃M:Int,(if(if r>0 then r else 0)<mm then(if r>0 then r else 0)else mm)=M∧0≤M∧M≤60:=⟨_,rfl,by split<;>split<;>lia,by split<;>lia⟩
  rw[hM];exact⟨M,rfl,by lia,by lia,by rw[gM];exact aar (aE (by lia)),λrest τ ys Γ'=>∃(lo:Int) (c:Nat) (o:Option T) (ss:List Str),τ=[o,some (.ref a)]∧rest=ig lo c∧ys=ss.map T.str∧ss.length+c=M.toNat∧(∀z∈ss,z.length=1∧z.cps.toList.all vC=true)∧aM Γ' a∧eD Γ' b∧Kq [a,b] Γ Γ',?_,?_,?_⟩
  ·exact Ψ4 0 _ none [] ⟨rfl,rfl,rfl,by simp,(λz hz=>nomatch hz),iE.up JF.symm,⟨_,ai⟩,(up1 k1.kq).trans (.set (by simp) _)⟩
  ·intro τ ys Γ'⟨lo,c,o,ss,rfl,e,rfl,sl,sb,nV,Bw,k'⟩
   have hc:=jX e;exact⟨trivial,λD hD=>?_⟩;exact Ψ2 D ss ⟨rfl,rfl,bh ai,by lia,λy hy=>by rw[(sb y hy).1];decide,?_⟩;exact fin (.text ?_ (IC λz hz=>(sb z hz).2)) (nV.new hD) (Bw.kq (l:=[]) (.new hD _) (by simp)) (k'.trans (.new hD _));rw[FO λz hz=>(sb z hz).1];lia
  ·intro x rr τ ys Γ'⟨lo,c,o,ss,rfl,e,rfl,sl,sb,nV,Bw,k'⟩
   let⟨c',rfl,rfl,rfl⟩:=dh e;left;exact⟨a,rfl,nV,λz Γ3 zl zc iR k3=>?_⟩;exact Ψ4 (lo+1) c' _ (ss++[z]) ⟨rfl,rfl,by rw[aaf];rfl,by rw[aag];simp;lia,λy hy=>?_,iR,Bw.fr k3 sR,k'.trans (up1 k3.kq)⟩;rcases aaX.mp hy with h|h
   ·exact sb y h
   ·rw[aav.mp h];exact⟨zl,zc⟩
 |row k=>
  unfold Kd.good at kg;rw[Kd.depth]at kd Ma;rw[Kd.tr];left;exact⟨k,rfl,kg,by lia,?_⟩;have lv:=oM k kg;have W8:dY k<2^200:=by
   have h1:=ow (show k.depth≤12 by lia);have h2:(7:Int)^12<2^200:=by decide
   lia
  generalize dY k=ea at lv W8 ⊢;left;exact⟨a,rfl,fl,λmm Γ1 m0 We iE k1=>?_⟩;let⟨r,YQ⟩:=on.fr k1 sR;left;exact Kz ⟨by lia,W8⟩ ?_;left;obtain⟨R,hR,R0⟩:∃R:Int,(if r>0 then r else 0)/ea=R∧0≤R:=⟨_,rfl,Int.ediv_nonneg (by split<;>lia) (by lia)⟩
  obtain⟨M,hM,M0,M60⟩:∃M:Int,(if(if r>0 then r else 0)/ea<mm then(if r>0 then r else 0)/ea else mm)=M∧0≤M∧M≤60:=⟨_,rfl,by rw[hR];split<;>lia,by rw[hR];split<;>lia⟩
  rw[hM];exact Kz (.inl ⟨by lia,by lia⟩) ?_;left;exact⟨M,rfl,by lia,by lia,by rw[gM];exact aar (aE (by lia)),λrest τ ys Γ'=>∃(lo:Int) (c:Nat) (o:Option T),τ=[o,some (.ref a),some (.ref b),some (.tup [.str "row",k.tr])]∧rest=ig lo c∧ys.length+c=M.toNat∧(∀t∈ys,eF k t)∧aM Γ' a∧eD Γ' b∧Kq [a,b] Γ Γ',?_,?_,?_⟩
  ·exact Ψ3 0 _ none ⟨rfl,rfl,by simp,(λz hz=>nomatch hz),iE.up JF.symm,⟨_,ai⟩,(up1 k1.kq).trans (.set (by simp) _)⟩
  ·intro τ ys Γ'⟨lo,c,o,rfl,e,sl,sb,nV,Bw,k'⟩
   have hc:=jX e;exact⟨trivial,λD hD=>?_⟩;exact um ai ?_;exact fin (.row (by lia) sb) (nV.new hD) (Bw.kq (l:=[]) (.new hD _) (by simp)) (k'.trans (.new hD _))
  ·intro x rr τ ys Γ'⟨lo,c,o,rfl,e,sl,sb,nV,Bw,k'⟩
   let⟨c',rfl,rfl,rfl⟩:=dh e;left;exact Ψ3 a b k ⟨rfl,nV,Bw,kg,by lia,by lia,λt Γ3 ht iR Ng k3=>?_⟩;exact Ψ3 (lo+1) c' _ ⟨rfl,rfl,by rw[aag];simp;lia,λy hy=>?_,iR,Ng,k'.trans k3.kq⟩;rcases aaX.mp hy with h|h
   ·exact sb y h
   ·rw[aav.mp h];exact ht
 |pick fs=>
  unfold Kd.good at kg;rw[Kd.depth]at kd Ma;rw[Kd.tr];left;exact Ψ2 a _ ⟨rfl,fl,by rw[bz];lia,by rw[bz];have:=kg.2.2.1;lia,λr Γ1 r0 r1 iE k1=>?_⟩;obtain⟨j,rfl⟩:∃j:Nat,r=j:=⟨r.toNat,by lia⟩;have hj:j<fs.length:=by rw[bz]at r1;lia
  obtain⟨⟨nm,k⟩,hp⟩:∃p,fs[j]?=some p:=⟨fs[j],by simp[hj]⟩;exact fY (jf hp) ?_;have km:=aaj hp;have dk:k.depth≤aL fs:=aY km;left;exact Ψ3 a b k ⟨rfl,iE,on.fr k1 sR,aO kg.1 km,by lia,by lia,λt Γ3 ht iR Ng k3=>?_⟩;left;exact fin (.pick (i4 kg.2.2.2 hp) ht) iR Ng ((up1 k1.kq).trans k3.kq)
 |rec_ fs=>
  unfold Kd.good at kg;rw[Kd.depth]at kd Ma;rw[Kd.tr];left;exact⟨by rw[bz];exact aar (aE (by lia)),λrest τ ys Γ'=>∃(gs hs:List (Str×Kd)) (o:Option T),τ=[o,some (.ref a),some (.ref b)]∧rest=ip gs∧fs=hs++gs∧ys.length=hs.length∧(∀(j:Nat) (nm:Str) (k:Kd) (t:T),hs[j]?=some (nm,k)→ys[j]?=some t→eF k t)∧aM Γ' a∧eD Γ' b∧Kq [a,b] Γ Γ',?_,?_,?_⟩
  ·exact Ψ3 fs [] none ⟨rfl,rfl,rfl,rfl,(λj nm k t h=>by simp at h),fl,on,.refl⟩
  ·intro τ ys Γ'⟨gs,hs,o,rfl,e,e2,sl,sb,nV,Bw,k'⟩
   cases gs with
   |cons p r=>cases e
   |nil=>
    rw[aax]at e2;subst e2;exact⟨trivial,λD hD=>?_⟩;exact um ai ?_;exact fin (.rec_ sl sb) (nV.new hD) (Bw.kq (l:=[]) (.new hD _) (by simp)) (k'.trans (.new hD _))
  ·intro x rr τ ys Γ'⟨gs,hs,o,rfl,e,e2,sl,sb,nV,Bw,k'⟩
   cases gs with
   |nil=>cases e
   |cons p gs=>
    obtain⟨nm,k⟩:=p;cases e;have km:(nm,k)∈fs:=by rw[e2];simp
    have dk:k.depth≤aL fs:=aY km;left;exact Ψ3 a b k ⟨rfl,nV,Bw,aO kg.1 km,by lia,by lia,λt Γ3 ht iR Ng k3=>?_⟩;exact Ψ3 gs (hs++[(nm,k)]) _ ⟨rfl,rfl,by rw[e2];simp,by rw[aag,aag,sl];rfl,λj Cp k' t' h1 h2=>?_,iR,Ng,k'.trans k3.kq⟩;by_cases hj:j<hs.length
    ·rw[aaT hj]at h1
     rw[aaT (by lia)]at h2;exact sb j Cp k' t' h1 h2
    ·rw[aaS (by lia)]at h1
     rw[aaS (by lia),sl]at h2;cases jj:j-hs.length with
     |zero=>rw[jj]at h1 h2;cases h1;cases h2;exact ht
     |succ i=>rw[jj]at h1;simp at h1
end
theorem mL{H:Hp}:∀{ns:List Str} {vs:List V},Rs H vs (ns.map T.str)→vs=ns.map V.str
 |[],vs,h=>bA h
 |n::r,vs,h=>by
  let⟨v,ws,rfl,a,b⟩:=bO h;rw[c4 a,mL b];rfl
theorem xh:∀{gs:List (Str×Kd)} {D:Nat},(∀p∈gs,Nm p.1∧p.2.good∧p.2.depth≤D)→dw gs∧aL gs≤D
 |[],D,h=>by unfold dw aL;exact⟨trivial,aaE _⟩
 |(m,k)::r,D,h=>by
  let⟨a,b⟩:=xh (gs:=r) (D:=D) λp hp=>h p (by simp[hp]);let⟨x,y,z⟩:=h (m,k) (by simp);unfold dw aL;exact⟨⟨x,y,a⟩,by have z:k.depth≤D:=z;lia⟩
theorem EY{Γ4 Γ5:Gp}{o:O}(k:Kq [a] Γ Γ4)(hb:Γ4 b=none)(f:Fr [a,b] (up Γ4 b o) Γ5):Kq [a] Γ Γ5:=λx u n e=>by
 have e4:=k x u n e;have nb:=nQ e4 hb;rw[f x (by simp only[aah,aao,abg]at n ⊢;exactλh=>h.elim n nb),bb nb];exact e4
theorem rep1(t:T)(n:Nat):(List.replicate n [t]).flatten=List.replicate n t:=by
 induction n with
 |zero=>rfl
 |succ n ih=>rw[abx,aaQ,ih];rfl
section
def OQ:fk:=λts Γ Z _=>∃(a b:Addr) (ss:List Str),ts=[.ref a,.ref b]∧aM Γ a∧Γ b=some (.lst (ss.map T.str))∧ss.length≤6∧(∀z∈ss,Nm z)∧∀(z:Str) (Γ':Gp),Nm z→z∉ss→aM Γ' a→Fr [a] Γ Γ'→Z (.str z) Γ'
theorem IG{k:Nat}(c:Callee P w K mg am "_law_name" k ["flow","taken"] uq):b9 P w K mg am "_law_name" k ["flow","taken"] OQ:=
 c.imp λvs H Q E ⟨ts,Γ,Z,Y,r,hr,⟨a,b,ss,e,fl,gb,s6,nm,q⟩,vr,xr⟩=>by
  subst e;let⟨v,w,rfl,r1,r2⟩:=qI r;let⟨us,RF,X4⟩:=hr b _ gb;rw[mL X4]at RF;exact Ψ3 a b ss ⟨by rw[bZ r1,bZ r2],uZ hr fl,RF,s6,nm,λz H' nz ni nV k=>?_⟩;let⟨f0,f1,f2,e',b'⟩:=nV;let⟨g0,g1,g2,eg,_⟩:=fl;have fr:Fr [a] Γ (up Γ a (.lst [.int f0,.int f1,.int f2])):=.set (by simp) _;let⟨s,Mf⟩:=vt hr k (λb hb=>by rw[aav.mp hb];exact Ψ3 _ _ _ ⟨eg,e',eO [f0,f1,f2],ai⟩) fr;exact vr _ _ H' _ s Mf jF (q z _ nz ni ⟨f0,f1,f2,ai,b'⟩ fr)
abbrev jV:Stmt:=top 58
theorem dR:aF ["flow","word","within","names","k","kind"] ["flow"] (av jV):=Skk
def OU:fk:=λts Γ Z _=>∃a:Addr,ts=[.ref a]∧aM Γ a∧∀(k:Kd) (Γ':Gp),k.good→k.depth≤5→aM Γ' a→Fr [a] Γ Γ'→Z k.tr Γ'
theorem EF(F:dP K "_law_broad" "_law_broad" jV f fd)(aB:b9 P w K mg am "_law_draw" 1 ["flow","many"] qy)(mq:b9 P w K mg am "_law_name" 2 ["flow","taken"] OQ)(eQ:b9 P w K mg am "_law_kind" 12 ["flow","depth","room"] (KZ 10))(aT:mg "range" = none)(aC:mg "tuple" = none):bq P w K mg am fE 13 f fd ["flow"] (cj OU):=by
 exact kL F dR (λts Γ Z Y h=>?_) (λcy A outer s H E ts Γ Z Y hr h=>?_)
 ·let⟨a,rfl,_⟩:=h
  rfl
 let⟨a,rfl,fl,q⟩:=h;exact⟨_,(ae (az (i:=1) dR.nd rfl (Or.inl rfl) (ay (bF (aa aK (aa aK af))) (ak aB hr (by lia) rfl (aa (qv 0) (aa ah af))) (λ_ _=>rfl)))
  (ae (az (i:=2) dR.nd rfl (Or.inl rfl) (eM bj (ak aB hr (by lia) rfl (aa (qv 0) (aa ah af))) ah (aw _)))
  (ae (az (i:=3) dR.nd rfl (Or.inl rfl) (bF af))
  (ae (fS aa6 rfl (di rfl aT (aa (ba eE ah (ak aB hr (by lia) rfl (aa (qv 0) (aa ah af)))) af)) (aD (i:=4) dR.nd rfl (Or.inl rfl)) (ae (jt (jY aaI abb aba gE (qv 3) (aa (ak mq hr (by lia) rfl (aa (qv 0) (aa (qv 3) af))) af)))
  ag))
  (ae (az (i:=5) dR.nd rfl (Or.inl rfl) (bP (aa (qv 1) (aa (cQ dJ rfl aC bE (aa (cf (own:=["name"]) (cap:=[(0,"flow")]) (cJ rfl (by decide +kernel) (by decide +kernel) rfl (⟨rfl,trivial⟩) rfl (⟨⟨rfl,rfl,rfl⟩,trivial⟩)) rfl (kF (qv 3)) (λ_ _ _ _=>(aD (i:=0) (show List.Nodup (["name","flow"]:List Str)from by decide +kernel) rfl (Or.inl rfl) (Or.inr rfl))) (λ_ _ _ _=>bB) (λ_ _ _ _=>(bP (aa (qv 0) (aa (ak eQ hr (by lia) rfl (aa (qv 1) (aa ah (aa (bF (aa ah af)) af)))) af))))) af)) af))))
  (ae (aW (br (qv 2)) (ae (aA (bP (aa aK (aa (qv 5) af))))
  ag) ag)
  (ae (aA (qv 5))
  ag))))))),?_⟩
 simp only[a8];left;intro L hL;left;exact Ψ2 a 2 ⟨rfl,fl.new hL,by decide,by decide,λr Γ1 r0 r1 iE k1=>?_⟩;obtain⟨wd,YE,hx⟩:∃wd:Str,(wd = "rec" ∨ wd = "pick")∧kH [T.str "rec",T.str "pick"] r=some (.str wd):=by
  have:r=0∨r=1:=by lia
  rcases this with rfl|rfl
  ·exact⟨_,.inl rfl,rfl⟩
  ·exact⟨_,.inr rfl,rfl⟩
 have Gd:Kq [a] Γ Γ1:=(Kq.new hL _).trans k1.kq;exact fm (by rw[k1 L (by simpa using fl.nn hL)];exact ai) hx ?_;left;exact Ψ2 a 3 ⟨rfl,iE,by decide,by decide,λr2 Γ2 Js G0 fJ k2=>?_⟩;left;intro N hN;left;exact Ψ2 a 4 ⟨rfl,fJ.new hN,by decide,by decide,λr3 Γ3 XZ XY iR k3=>?_⟩;left;have nN:=fJ.nn hN;obtain⟨n,hn⟩:∃n:Nat,3+r3=n:=⟨(3+r3).toNat,by lia⟩;have n6:3≤n∧n≤6:=by lia
 rw[hn];have Yl:Kq [a] Γ Γ3:=((Gd.trans k2.kq).trans (.new hN _)).trans k3.kq;have bN:Γ N=none:=by
  cases e:Γ N with
  |none=>rfl
  |some o=>have:=(Gd.trans k2.kq) N o (by simpa using nN) e;rw[hN]at this;cases this
 have g3:Γ3 N=some (.lst []):=by rw[k3 N (by simpa using nN)];exact ai
 exact⟨n,rfl,by lia,by lia,?_⟩;exact⟨λrest τ Γ'=>∃(i c:Nat) (ss:List Str) (o4:Option T),rest=ig i c∧i+c=n∧τ=[some (.ref a),some (.str wd),some (.bl (decide (V.int r2=V.int 0))),some (.ref N),o4,none]∧ss.length=i∧(∀z∈ss,Nm z)∧ss.Nodup∧Γ' N=some (.lst (ss.map T.str))∧aM Γ' a∧Kq [a] Γ Γ',?_,?_,?_⟩
 ·exact Ψ4 0 n [] none ⟨rfl,by lia,rfl,rfl,λ_ h=>(nomatch h),List.nodup_nil,g3,iR,Yl⟩
 rotate_left
 ·intro x rr τ Γ'⟨i,c,ss,o4,er,ic,rfl,sl,Rw,snd,gN,nV,T9⟩
  let⟨c',rfl,rfl,rfl⟩:=dh er;left;exact iS gN ?_;left;exact Ψ3 a N ss ⟨rfl,nV,gN,by lia,Rw,λz Γ4 nz ni my k4=>?_⟩;have MC:Γ4 N=some (.lst (ss.map T.str)):=by rw[k4 N (by simpa using nN)];exact gN
  left;exact Ψ3 N _ _ ⟨rfl,rfl,MC,aE (by rw[aae];lia),?_⟩;left;exact Ψ4 (ss.length+1) c' (ss++[z]) _ ⟨by rw[sl];rfl,by lia,rfl,by rw[aag];rfl,λz' hz=>?_,?_,by rw[aaf];exact ai,my.up nN.symm,(T9.trans k4.kq).K6 bN _⟩
  ·rcases aaX.mp hz with hz|hz
   ·exact Rw z' hz
   ·rw[aav.mp hz];exact nz
  ·rw[ac8]
   exact⟨snd,by simp,λx hx y hy e=>ni ?_⟩;rw[aav]at hy;rw[←hy,←e];exact hx
 intro τ Γ'⟨i,c,ss,o4,er,ic,rfl,sl,Rw,snd,gN,nV,T9⟩;exact⟨trivial,?_⟩;have UU:c=0:=by
  cases c with
  |zero=>rfl
  |succ c=>cases er
 subst UU;left;exact Ψ2 N _ ⟨rfl,bh gN,aar (aE (by rw[aae];lia)),?_⟩;exact⟨λrest τ ys Γ2=>∃(gs:al) (rs:List Str) (o0:Option T),rest=rs.map T.str∧τ=[o0,some (.ref a)]∧ss=gs.map (·.1)++rs∧ys=ip gs∧(∀p∈gs,p.2.good∧p.2.depth≤2)∧Γ2 N=some (.lst (ss.map T.str))∧aM Γ2 a∧Kq [a] Γ Γ2,Ψ3 [] ss none ⟨rfl,rfl,rfl,rfl,λ_ h=>(nomatch h),gN,nV,T9⟩,?_,?_⟩
 ·intro τ ys Γ4⟨gs,rs,o0,R1,rfl,es,rfl,hg,MC,my,T8⟩
  have YN:rs=[]:=by
   cases rs with
   |nil=>rfl
   |cons _ _=>cases R1
  subst YN;rw[aax]at es;exact⟨bh MC,λD hD=>?_⟩;left;exact Ψ2 _ _ ⟨rfl,bh ai,?_⟩;left;have gl:gs.length=n:=by rw[←sl,es,aae]at ic;lia
  let⟨gF,dF⟩:=xh (gs:=gs) (D:=2) (λp hp=>⟨Rw _ (by rw[es];exact aay.mpr ⟨p,hp,rfl⟩),hg p hp⟩);have nd:(gs.map (·.1)).Nodup:=by rw[←es];exact snd
  have nU:=my.new (o:=.lst (ip gs)) hD;have Wh:Kq [a] Γ (up Γ4 D (.lst (ip gs))):=T8.trans (.new hD _);obtain⟨kk,ek,kg,kd⟩:∃kk:Kd,T.tup [.str wd,.tup (ip gs)]=kk.tr∧kk.good∧kk.depth≤3:=by
   rcases YE with rfl|rfl
   ·exact⟨.rec_ gs,by rw[Kd.tr],by unfold Kd.good;exact⟨gF,by lia,by lia,nd⟩,by rw[Kd.depth];lia⟩
   ·exact⟨.pick gs,by rw[Kd.tr],by unfold Kd.good;exact⟨gF,by lia,by lia,nd⟩,by rw[Kd.depth];lia⟩
  rw[ek];exact cD (λc=>?_) (λc=>?_)
  ·left
   exact sE nU Wh λΓ6 t5 k6=>?_;have:=q (.row kk) Γ6 (by unfold Kd.good;exact kg) (by rw[Kd.depth];lia) t5 k6;rw[Kd.tr]at this;exact this
  ·left
   exact sE nU Wh λΓ6 t5 k6=>q kk Γ6 kg (by lia) t5 k6
 ·intro x rr τ ys Γ4⟨gs,rs,o0,R1,rfl,es,rfl,hg,MC,my,T8⟩
  cases rs with
  |nil=>cases R1
  |cons z rs=>
   cases R1;exact⟨bh MC,?_⟩;left;intro b hb;left;exact Ψ3 a b 2 ⟨rfl,my.new hb,⟨0,ai⟩,by decide,by decide,by decide,λk3 Γ6 Yn Yr t5 Nf k6=>?_⟩;have Zu:Γ6 N=some (.lst (ss.map T.str)):=by
    have nb:=nQ MC hb;rw[k6 N (by simp[nN,nb]),bb nb];exact MC
   left;exact Ψ3 (gs++[(z,k3)]) rs _ ⟨rfl,rfl,by rw[es];simp,by rw[Gw];rfl,λp hp=>?_,Zu,t5,EY T8 hb k6⟩;rcases aaX.mp hp with hp|hp
   ·exact hg p hp
   ·rw[aav.mp hp];exact⟨Yn,by have:(k3.depth:Int)≤2:=Yr;show k3.depth≤2;lia⟩
abbrev jT:Stmt:=top 59
theorem c5:aF ["flow","room","way","item","many","at","kind"] ["flow","room"] (av jT):=Skk
def ON:fk:=λts Γ Z _=>∃(a:Addr) (r:Int),ts=[.ref a,.int r]∧aM Γ a∧∀(k:Kd) (u:T) (Γ':Gp),k.good→k.depth≤5→eF k u→aM Γ' a→Fr [a] Γ Γ'→Z (.tup [k.tr,u]) Γ'
theorem EB(F:dP K "_law_thing" "_law_thing" jT f fd)(aB:b9 P w K mg am "_law_draw" 1 ["flow","many"] qy)(eQ:b9 P w K mg am "_law_kind" 12 ["flow","depth","room"] (KZ 10))(b7:b9 P w K mg am "_law_worth" 30 ["flow","kind","room"] (Bl 13))(xR:b9 P w K mg am "_law_broad" 13 ["flow"] OU):bq P w K mg am fE 31 f fd ["flow","room"] (cj ON):=by
 exact kL F c5 (λts Γ Z Y h=>?_) (λcy A outer s H E ts Γ Z Y hr h=>?_)
 ·let⟨a,r,rfl,_⟩:=h
  rfl
 let⟨a,r,rfl,fl,q⟩:=h;exact⟨_,(ae (az (i:=2) c5.nd rfl (Or.inl rfl) (ak aB hr (by lia) rfl (aa (qv 0) (aa ah af))))
  (ae (aW (ax bj (qv 2) ah (aw _)) (ae (az (i:=3) c5.nd rfl (Or.inl rfl) (ak eQ hr (by lia) rfl (aa (qv 0) (aa ah (aa (bF (aa ah af)) af)))))
  (ae (az (i:=4) c5.nd rfl (Or.inl rfl) (ba eE ah (ak aB hr (by lia) rfl (aa (qv 0) (aa ah af)))))
  (ae (az (i:=5) c5.nd rfl (Or.inl rfl) (ak aB hr (by lia) rfl (aa (qv 0) (aa (ba eE (qv 4) ah) af))))
  (ae (aA (bP (aa (bP (aa aK (aa (qv 3) af))) (aa (ba gX (ba yR (bP (aa (ak b7 hr (by lia) rfl (aa (qv 0) (aa (qv 3) (aa (bF (aa ah af)) af)))) af)) (qv 5)) (ba yR (bP (aa (ak b7 hr (by lia) rfl (aa (qv 0) (aa (qv 3) (aa (bF (aa ah af)) af)))) af)) (ba iP (qv 4) (qv 5)))) af))))
  ag)))) ag)
  (ae (fu (aW (ax bj (qv 2) ah (aw _)) (ae (az (i:=6) c5.nd rfl (Or.inl rfl) (ak xR hr (by lia) rfl (aa (qv 0) af)))
  ag) (ae (az (i:=6) c5.nd rfl (Or.inl rfl) (ak eQ hr (by lia) rfl (aa (qv 0) (aa (ay (bF (aa ah (aa ah (aa ah (aa ah (aa ah (aa ah (aa ah (aa ah af))))))))) (ak aB hr (by lia) rfl (aa (qv 0) (aa ah af))) (λ_ _=>rfl)) (aa (bF (aa ah af)) af)))))
  ag)))
  (ae (aA (bP (aa (qv 6) (aa (ak b7 hr (by lia) rfl (aa (qv 0) (aa (qv 6) (aa (bF (aa (qv 1) af)) af)))) af))))
  ag)))),?_⟩
 simp only[a8];left;exact Ψ2 a 8 ⟨rfl,fl,by decide,by decide,λwy Γ1 w0 w1 iE k1=>?_⟩;left;exact cD (λc=>?_) (λc=>?_)
 ·left
  intro b hb;left;exact Ψ3 a b 2 ⟨rfl,iE.new hb,⟨0,ai⟩,by decide,by decide,by decide,λki Γ2 Ua Yq fJ VX k2=>?_⟩;have Yp:(ki.depth:Int)≤2:=Yq;left;exact Ψ2 a 31 ⟨rfl,fJ,by decide,by decide,λm0 Γ3 m00 m01 iR k3=>?_⟩;left;exact Ψ2 a _ ⟨rfl,iR,by lia,by lia,λat_ Γ4 a0 a1 my k4=>?_⟩;left;intro b5 Mx;left;exact Ψ3 a b5 ki ⟨rfl,my.new Mx,⟨3,ai⟩,Ua,by lia,by lia,λw1 Γ5 YF nU Ga k5=>?_⟩;left;exact Ψ2 _ _ ⟨rfl,rfl,a0,by lia,by show 1≤1000;decide,?_⟩;rw[rep1];left;intro b6 Qv;left;exact Ψ3 a b6 ki ⟨rfl,nU.new Qv,⟨3,ai⟩,Ua,by lia,by lia,λw2 Γ6 Uq t5 Nf k6=>?_⟩;left;exact Ψ2 _ _ ⟨rfl,rfl,by lia,by lia,by show 1≤1000;decide,?_⟩;rw[rep1];left;exact jE (aar (aE (by rw[abq,abq];lia))) ?_;left;have Ux:eF (.row ki) (.tup (List.replicate at_.toNat w1++List.replicate (30+m0-at_).toNat w2)):=eF.row (by rw[aag,abq,abq];lia) (λy hy=>by
   rcases aaX.mp hy with hy|hy
   ·rw[(acW.mp hy).2];exact YF
   ·rw[(acW.mp hy).2];exact Uq)
  have kk:Kq [a] Γ Γ6:=EY (EY (((EY k1.kq hb k2).trans k3.kq).trans k4.kq) Mx k5) Qv k6;exact sE t5 kk λΓ7 NA k7=>?_;have:=q (.row ki) _ Γ7 (by unfold Kd.good;exact Ua) (by rw[Kd.depth];lia) Ux NA k7;rw[Kd.tr]at this;exact this
 ·left
  exact⟨λτ Γ'=>∃k:Kd,τ=[some (.ref a),some (.int r),some (.int wy),none,none,none,some k.tr]∧k.good∧k.depth≤5∧aM Γ' a∧Kq [a] Γ Γ',?_,?_⟩
  ·left
   exact cD (λc2=>?_) (λc2=>?_)
   ·left
    exact⟨a,rfl,iE,λk Γ2 kg kd fJ k2=>?_⟩;left;exact⟨k,rfl,kg,kd,fJ,k1.kq.trans k2.kq⟩
   ·left
    intro L hL;left;exact Ψ2 a 8 ⟨rfl,iE.new hL,by decide,by decide,λr2 Γ2 Js G0 fJ k2=>?_⟩;let⟨dd,Zb,hx⟩:=menu (ns:=[5,1,2,3,4,5,3,2]) Js (by simpa using G0);exact fm (by rw[k2 L (by simpa using iE.nn hL)];exact ai) hx ?_;have hd5:1≤dd∧dd≤5:=by
     simp only[aah,aao,abg]at Zb;lia
    left;intro b hb;left;exact Ψ3 a b dd ⟨rfl,fJ.new hb,⟨1,ai⟩,by lia,by lia,by lia,λk Γ4 kg kd my RA k4=>?_⟩;left;exact⟨k,rfl,kg,by lia,my,EY ((k1.kq.trans (Kq.new hL _)).trans k2.kq) hb k4⟩
  intro τ Γ2⟨k,rfl,kg,kd,fJ,kk⟩;left;intro b hb;left;exact Ψ3 a b k ⟨rfl,fJ.new hb,⟨r,ai⟩,kg,by lia,by lia,λu Γ5 hu nU Ga k5=>?_⟩;left;exact sE nU (EY kk hb k5) λΓ6 t5 k6=>q k u Γ6 kg kd hu t5 k6
abbrev jo:Stmt:=top 60
theorem kU:aF ["flow","words"] ["flow"] (av jo):=Skk
def Jf:fk:=λts Γ Z _=>∃a:Addr,ts=[.ref a]∧aM Γ a∧∀(L:Ly) (Γ':Gp),aM Γ' a→Fr [a] Γ Γ'→Z L.tr Γ'
theorem EV{i:Nat}(hi:i<4)(hL:ss=([L.s1,L.s2,L.s3,L.s4]:List Str).take i)(b:Bool):
  ∃(z:Str) (L':Ly),([T.str "low",T.str "high",T.str "count",T.str "end",T.str "array",T.str "chain",T.str "told",T.str "names"]:List T)[2*i+b.toNat]?=some (.str z)∧ss++[z]=([L'.s1,L'.s2,L'.s3,L'.s4]:List Str).take (i+1):=by
 subst hL;match i,hi,b with
 |0,_,false=>exact Ψ2 ("low") ({L with hi:=false}) ⟨rfl,rfl⟩
 |0,_,true=>exact Ψ2 ("high") ({L with hi:=true}) ⟨rfl,rfl⟩
 |1,_,false=>exact Ψ2 ("count") ({L with en:=false}) ⟨rfl,rfl⟩
 |1,_,true=>exact Ψ2 ("end") ({L with en:=true}) ⟨rfl,rfl⟩
 |2,_,false=>exact Ψ2 ("array") ({L with ch:=false}) ⟨rfl,rfl⟩
 |2,_,true=>exact Ψ2 ("chain") ({L with ch:=true}) ⟨rfl,rfl⟩
 |3,_,false=>exact Ψ2 ("told") ({L with na:=false}) ⟨rfl,rfl⟩
 |3,_,true=>exact Ψ2 ("names") ({L with na:=true}) ⟨rfl,rfl⟩
theorem Bz(F:dP K "_law_laying" "_law_laying" jo f fd)(aB:b9 P w K mg am "_law_draw" 1 ["flow","many"] qy)(aT:mg "range" = none)(aC:mg "tuple" = none):bq P w K mg am fE 2 f fd ["flow"] (cj Jf):=by
 exact kL F kU (λts Γ Z Y h=>?_) (λcy A outer s H E ts Γ Z Y hr h=>?_)
 ·let⟨a,rfl,_⟩:=h
  rfl
 let⟨a,rfl,fl,q⟩:=h;exact⟨_,(ae (az (i:=1) kU.nd rfl (Or.inr rfl) (bF (aa aK (aa aK (aa aK (aa aK (aa aK (aa aK (aa aK (aa aK af))))))))))
  (ae (aA (cQ dJ rfl aC bE (aa (cf (own:=["k"]) (cap:=[(1,"words"),(0,"flow")]) (cJ rfl (by decide +kernel) (by decide +kernel) rfl (⟨rfl,⟨rfl,trivial⟩⟩) rfl (⟨⟨rfl,rfl,rfl⟩,⟨⟨rfl,rfl,rfl⟩,trivial⟩⟩)) rfl (di rfl aT (aa ah af)) (λ_ _ _ _=>(aD (i:=0) (show List.Nodup (["k","words","flow"]:List Str)from by decide +kernel) rfl (Or.inl rfl) (Or.inr rfl))) (λ_ _ _ _=>bB) (λ_ _ _ _=>(ay (qv 1) (ba eE (ba lT ah (qv 0)) (ak aB hr (by lia) rfl (aa (qv 2) (aa ah af)))) (λ_ _=>rfl)))) af)))
  ag)),?_⟩
 simp only[a8];left;intro W hW;left;have nW:=fl.nn hW;exact⟨4,rfl,by decide,by decide,?_⟩;exact⟨aar (aE (by decide)),λrest τ ys Γ2=>∃(i c:Nat) (ss:List Str) (L:Ly) (o0:Option T),rest=ig i c∧i+c=4∧ss=([L.s1,L.s2,L.s3,L.s4]:List Str).take i∧τ=[o0,some (.ref W),some (.ref a)]∧ys=ss.map T.str∧Γ2 W=some (.lst [.str "low",.str "high",.str "count",.str "end",.str "array",.str "chain",.str "told",.str "names"])∧aM Γ2 a∧Kq [a] Γ Γ2,Ψ5 0 4 [] ⟨true,true,true,true⟩ none ⟨rfl,rfl,rfl,rfl,rfl,ai,fl.new hW,.new hW _⟩,?_,?_⟩
 ·intro τ ys Γ2⟨i,c,ss,L,o0,er,ic,sl,rfl,rfl,gW,fJ,kk⟩
  have UU:c=0:=by
   cases c with
   |zero=>rfl
   |succ c=>cases er
  subst UU;exact⟨trivial,λD hD=>?_⟩;left;exact Ψ2 _ _ ⟨rfl,bh ai,?_⟩;have hi:i=4:=ic;subst hi;have e:ss=[L.s1,L.s2,L.s3,L.s4]:=sl;rw[e];exact sE (fJ.new hD) (kk.trans (.new hD _)) λΓ3 iR k3=>q L Γ3 iR k3
 ·intro x rr τ ys Γ2⟨i,c,ss,L,o0,er,ic,sl,rfl,rfl,gW,fJ,kk⟩
  let⟨c',rfl,rfl,rfl⟩:=dh er;left;exact Ψ2 a 2 ⟨rfl,fJ,by decide,by decide,λr Γ3 r0 r1 iR k3=>?_⟩;have WZ:Γ3 W=some (.lst [.str "low",.str "high",.str "count",.str "end",.str "array",.str "chain",.str "told",.str "names"]):=by rw[k3 W (by simpa using nW)];exact gW
  left;obtain⟨b,hb⟩:∃b:Bool,r=(b.toNat:Int):=by
   rcases(show r=0∨r=1 by lia)with h|h
   ·exact⟨false,h⟩
   ·exact⟨true,h⟩
  let⟨z,L',hz,hs⟩:=EV (by lia) sl b;have e:2*(i:Int)+r=((2*i+b.toNat:Nat):Int):=by rw[hb];lia
  rw[e];exact fm WZ (cA hz) ?_;exact Ψ5 (i+1) c' (ss++[z]) L' _ ⟨rfl,by lia,hs,rfl,by rw[aaf];rfl,WZ,iR,kk.trans k3.kq⟩
end
theorem Jn(h:L.s1 = "low"):L.hi=false:=by
 cases e:L.hi with
 |false=>rfl
 |true=>unfold Ly.s1 at h;rw[e]at h;exact absurd h (by decide)
theorem Jo(h:L.s1 ≠ "low"):L.hi=true:=by
 cases e:L.hi with
 |true=>rfl
 |false=>unfold Ly.s1 at h;rw[e]at h;exact absurd rfl h
theorem O4(h:L.s2 = "count"):L.en=false:=by
 cases e:L.en with
 |false=>rfl
 |true=>unfold Ly.s2 at h;rw[e]at h;exact absurd h (by decide)
theorem O2(h:L.s2 ≠ "count"):L.en=true:=by
 cases e:L.en with
 |true=>rfl
 |false=>unfold Ly.s2 at h;rw[e]at h;exact absurd rfl h
theorem Jm(h:L.s3 = "array"):L.ch=false:=by
 cases e:L.ch with
 |false=>rfl
 |true=>unfold Ly.s3 at h;rw[e]at h;exact absurd h (by decide)
theorem Jl(h:L.s3 ≠ "array"):L.ch=true:=by
 cases e:L.ch with
 |true=>rfl
 |false=>unfold Ly.s3 at h;rw[e]at h;exact absurd rfl h
theorem O0(h:L.s4 = "told"):L.na=false:=by
 cases e:L.na with
 |false=>rfl
 |true=>unfold Ly.s4 at h;rw[e]at h;exact absurd h (by decide)
theorem O1(h:L.s4 ≠ "told"):L.na=true:=by
 cases e:L.na with
 |true=>rfl
 |false=>unfold Ly.s4 at h;rw[e]at h;exact absurd rfl h
section
abbrev kD:Stmt:=top 17
theorem lH:aF ["kind","head","sizes"] ["kind"] (av kD):=Skk
def pJ(n:Nat):fk:=λts Γ Z _=>∃k:Kd,ts=[k.tr]∧k.good∧k.depth<n∧Z (.int (sK k:Nat)) Γ
theorem yV(F:dP K "size_of" "size_of" kD f fd)(bM:b9 P w K mg am "size_of" lv ["kind"] (pJ n))(jD:mg "sum" = none)(eA:mg "max" = none):bq P w K mg am fE (lv+1) f fd ["kind"] (cj (pJ (n+1))):=by
 exact kL F lH (λts Γ Z Y h=>?_) (λcy A outer s H E ts Γ Z Y hr h=>?_)
 ·let⟨k,rfl,_⟩:=h
  rfl
 let⟨k,rfl,kg,kd,q⟩:=h;exact⟨_,(ae (az (i:=1) lH.nd rfl (Or.inl rfl) (ay (qv 0) ah (λ_ _=>rfl)))
  (ae (aW (ax bj (qv 1) aK (aw _)) (ae (aA (ay (qv 0) ah (λ_ _=>rfl)))
  ag) ag)
  (ae (aW (ax PB (qv 1) (bP (aa aK (aa aK af))) (by with_unfolding_all rfl)) (ae (aA ah)
  ag) ag)
  (ae (p7 (i:=2) (own:=["name","inner"]) (cap:=[]) (eN rfl (by decide +kernel) (by decide +kernel)) rfl (c6 (ay (qv 0) ah (λ_ _=>rfl))) (λ_ _ _ _=>(dt (n:=2) rfl (aS (aD (i:=0) (show List.Nodup (["name","inner"]:List Str)from by decide +kernel) rfl (Or.inl rfl) (Or.inr rfl)) (aS (aD (i:=1) (show List.Nodup (["name","inner"]:List Str)from by decide +kernel) rfl (Or.inl rfl) (Or.inr rfl)) cz)))) (λ_ _ _ _=>bB) (λ_ _ _ _=>(ak bM hr (by lia) rfl (aa (qv 1) af))) lH.nd rfl rfl)
  (ae (aW (ax bj (qv 1) aK (aw _)) (ae (aA (aH (FF rfl) rfl jD PyProof.Rows.boot_sum (aa (qv 2) af)))
  ag) ag)
  (ae (aA (ba eE ah (G5 rfl rfl eA (aa (qv 2) af) ah)))
  ag)))))),?_⟩
 simp only[a8];cases k with
 |num w=>
  rw[Kd.tr];left;unfold Kd.good at kg;rw[sK,show((w.toNat:Nat):Int)=w by lia]at q;exact aZ .refl q
 |text=>
  rw[Kd.tr];left;rw[sK]at q;exact aZ .refl q
 |row k=>
  rw[Kd.tr];left;rw[sK]at q;exact aZ .refl q
 |rec_ fs=>
  unfold Kd.good at kg;rw[Kd.depth]at kd;rw[sK]at q;rw[Kd.tr];left;exact⟨by rw[bz];exact aar (aE (by lia)),λrest τ ys Γ'=>∃(gs hs:List (Str×Kd)) (o0 o1:Option T),τ=[o0,o1]∧rest=ip gs∧fs=hs++gs∧ys=(hs.map λp=>((sK p.2:Nat):Int)).map T.int∧Γ'=Γ,Ψ4 fs [] none none ⟨rfl,rfl,rfl,rfl,rfl⟩,?_,?_⟩
  ·intro τ ys Γ'⟨gs,hs,o0,o1,rfl,e,e2,rfl,rfl⟩
   cases gs with
   |cons p r=>cases e
   |nil=>
    rw[aax]at e2;subst e2;exact⟨trivial,λD hD=>?_⟩;left;exact Ψ2 D _ ⟨rfl,bh ai,?_⟩;rw[Du];exact aZ (.new hD) q
  ·intro x rr τ ys Γ'⟨gs,hs,o0,o1,rfl,e,e2,rfl,rfl⟩
   cases gs with
   |nil=>cases e
   |cons p gs=>
    obtain⟨nm,k⟩:=p;cases e;have km:(nm,k)∈fs:=by rw[e2];simp
    have dk:k.depth≤aL fs:=aY km;left;exact⟨k,rfl,aO kg.1 km,by lia,?_⟩;exact Ψ4 gs (hs++[(nm,k)]) _ _ ⟨rfl,rfl,by rw[e2];simp,by rw[aaf,aaf];rfl,rfl⟩
 |pick fs=>
  unfold Kd.good at kg;rw[Kd.depth]at kd;rw[sK]at q;rw[Kd.tr];left;exact⟨by rw[bz];exact aar (aE (by lia)),λrest τ ys Γ'=>∃(gs hs:List (Str×Kd)) (o0 o1:Option T),τ=[o0,o1]∧rest=ip gs∧fs=hs++gs∧ys=(hs.map λp=>((sK p.2:Nat):Int)).map T.int∧Γ'=Γ,Ψ4 fs [] none none ⟨rfl,rfl,rfl,rfl,rfl⟩,?_,?_⟩
  ·intro τ ys Γ'⟨gs,hs,o0,o1,rfl,e,e2,rfl,rfl⟩
   cases gs with
   |cons p r=>cases e
   |nil=>
    rw[aax]at e2;subst e2;exact⟨trivial,λD hD=>?_⟩;left;exact Ψ2 D _ ⟨rfl,bh ai,?_,?_⟩
    ·intro z
     have:=abc List.length z;rw[aae]at this;have h1:=kg.2.1;simp at this;rw[this]at h1;exact absurd h1 (by decide)
    left;rw[Dk (by intro z;rw[z]at kg;exact absurd kg.2.1 (by decide))];exact aZ (.new hD) q
  ·intro x rr τ ys Γ'⟨gs,hs,o0,o1,rfl,e,e2,rfl,rfl⟩
   cases gs with
   |nil=>cases e
   |cons p gs=>
    obtain⟨nm,k⟩:=p;cases e;have km:(nm,k)∈fs:=by rw[e2];simp
    have dk:k.depth≤aL fs:=aY km;left;exact⟨k,rfl,aO kg.1 km,by lia,?_⟩;exact Ψ4 gs (hs++[(nm,k)]) _ _ ⟨rfl,rfl,by rw[e2];simp,by rw[aaf,aaf];rfl,rfl⟩
abbrev gK:Stmt:=top 19
theorem vZ:aF ["laying","fields"] ["laying","fields"] (av gK):=Skk
abbrev VS:Str:=(("in_order" : Str) ++ ".<locals>.") ++ "<lambda>"
abbrev eL(pT:Addr)(Γ:Gp):Prop:=Γ pT=some (.lam VS (EX gK))
def yy(pT:Addr):fk:=λts Γ Z _=>∃(L:Ly) (gs:List (Str×T)),ts=[L.tr,.tup (gs.map Gk)]∧gs.length<64∧(gs.map (·.1)).Nodup∧eL pT Γ∧Z (.tup ((cu L.na gs).map Gk)) Γ
theorem wF(F:dP K "in_order" "in_order" gK f fd)(zj:fd.code=.ref cT)(zk:W.codeHdIn K cT pT=true)(zm:IV mg am pT)(aC:mg "tuple" = none)(qg:mg "sorted" = none):bq P w K mg am fE 6 f fd ["laying","fields"] (cj (yy pT)):=by
 exact TJ F zj vZ (λts Γ Z Y h=>?_) (λA outer s H E ts Γ Z Y hr h=>?_)
 ·let⟨L,gs,rfl,_⟩:=h
  rfl
 let⟨L,gs,rfl,Wg,nd,gl,q⟩:=h;exact⟨_,(ae (aW (ax bj (ay (qv 0) ah (λ_ _=>rfl)) aK (aw _)) (ae (aA (qv 1))
  ag) ag)
  (ae (aA (cQ dJ rfl aC bE (aa (yI (hr.mono (by lia)) rfl qg (aa (qv 1) af) rfl rfl zk zm ⟨rfl,rfl,rfl,by decide +kernel,rfl,by decide +kernel,by decide +kernel⟩ rfl (λ_ _ _ _=>rfl)) af)))
  ag)),?_⟩
 simp only[a8,Ly.tr];left;exact zS (i:=3) (t:=.str L.s4) rfl ?_;left;exact cD (λc=>?_) (λc=>?_)
 ·rw[O0 (pD c)]at q
  left;exact aZ .refl q
 ·rw[O1 (ky c)]at q
  left;exact⟨gs,rfl,Wg,gl,λhs a pm u ha=>?_⟩;exact Ψ2 _ _ ⟨rfl,bh ai,?_⟩;rw[Dx nd pm u];exact aZ (.new ha) q
abbrev eZ:Stmt:=top 30
theorem bT:aF ["halves","width","number","words","rest","place","word"] ["halves","width","number"] (av eZ):=Skk
def KL:fk:=λts Γ Z _=>∃(L:Ly) (n:Nat) (i:Int),ts=[.str L.s1,.int (n:Nat),.int i]∧n≤4∧Z (.tup ((qk L.hi n i).map T.int)) Γ
theorem lV(F:dP K "words_of_number" "words_of_number" eZ f fd)(bK:mg "WORD_NUMBERS" = some vW)(dI:fz vW (.int 65536))(aT:mg "range" = none)(qh:mg "divmod" = none)(aC:mg "tuple" = none):bq P w K mg am fE 1 f fd ["halves","width","number"] (cj KL):=by
 exact kL F bT (λts Γ Z Y h=>?_) (λcy A outer s H E ts Γ Z Y hr h=>?_)
 ·let⟨L,n,i,rfl,_⟩:=h
  rfl
 let⟨L,n,i,rfl,n4,q⟩:=h;exact⟨_,(ae (az (i:=3) bT.nd rfl (Or.inl rfl) (bF af))
  (ae (az (i:=4) bT.nd rfl (Or.inl rfl) (qv 2))
  (ae (fS aa6 rfl (di rfl aT (aa (qv 1) af)) (aD (i:=5) bT.nd rfl (Or.inl rfl)) (ae (lR (aH (B4) rfl qh PyProof.Rows.boot_divmod (aa (qv 4) (aa (bX rfl bK dI) af))) (dt (n:=2) rfl (aS (aD (i:=4) bT.nd rfl (Or.inl rfl)) (aS (aD (i:=6) bT.nd rfl (Or.inl rfl)) cz))))
  (ae (jt (jY aaI abb aba gE (qv 3) (aa (qv 6) af)))
  ag)))
  (ae (aA (cQ dJ rfl aC bE (aa (gQ (ax bj (qv 0) aK (aw _)) (qv 3) (Af (qv 3) (qK ah))) af)))
  ag)))),?_⟩
 simp only[a8];left;intro D hD;left;exact⟨_,rfl,by lia,by lia,?_⟩;exact⟨λrest τ Γ'=>∃(j c:Nat) (o5 o6:Option T),rest=ig j c∧j+c=n∧τ=[some (.str L.s1),some (.int (n:Nat)),some (.int i),some (.ref D),some (.int (i/65536^j)),o5,o6]∧Γ' D=some (.lst ((yi j i).map T.int))∧Le Γ Γ',Ψ4 0 n none none ⟨rfl,acT _,by rw[Int.pow_zero,adU];rfl,ai,.new hD⟩,?_,?_⟩
 ·intro τ Γ'⟨j,c,o5,o6,e,jc,rfl,g,le⟩
  have hc:=jX e;subst hc;have hj:j=n:=jc;subst hj;exact⟨trivial,?_⟩;left;exact cD (λc=>?_) (λc=>?_)
  ·left
   exact Ψ2 _ _ ⟨rfl,bh g,?_⟩;unfold qk at q;rw[Jn (pD c),aaz aal]at q;exact aZ le q
  ·left
   exact⟨rfl,D,_,rfl,bh g,λp3 YT=>?_⟩;left;exact Ψ2 _ _ ⟨rfl,bh ai,?_⟩;unfold qk at q;rw[Jo (ky c),aaA rfl,List.map_reverse]at q;exact aZ (le.trans (.new YT)) q
 ·intro x rr τ Γ'⟨j,c,o5,o6,e,jc,rfl,g,le⟩
  let⟨c',rfl,rfl,rfl⟩:=dh e;exact⟨trivial,?_⟩;left;exact⟨⟨by decide,by decide⟩,?_⟩;left;exact iS g ?_;left;exact Ψ3 D _ _ ⟨rfl,rfl,g,by rw[aae,zN];exact aE (by lia),?_⟩;exact Ψ4 (j+1) c' (some (.int (j:Nat))) (some (.int (i/65536^j%65536))) ⟨rfl,by lia,by rw[←ediv_pow];rfl,?_,λb o gb=>?_⟩
  ·rw[ai,CN,aaf];rfl
  ·have:b≠D:=nQ gb hD
   rw[bb this];exact le b o gb
abbrev fO:Stmt:=top 32
theorem iU:aF ["texts","text","signs"] ["texts","text"] (av fO):=Skk
def KJ:fk:=λts Γ Z _=>∃(L:Ly) (z:Str),ts=[.str L.s2,.str z]∧z.length≤60∧Z (.tup ((uu L.en z).map T.int)) Γ
theorem oE(F:dP K "words_of_text" "words_of_text" fO f fd)(CD:mg "ord" = none)(aU:mg "len" = none)(aC:mg "tuple" = none):bq P w K mg am fE 1 f fd ["texts","text"] (cj KJ):=by
 exact kL F iU (λts Γ Z Y h=>?_) (λcy A outer s H E ts Γ Z Y hr h=>?_)
 ·let⟨L,z,rfl,_⟩:=h
  rfl
 let⟨L,z,rfl,l,q⟩:=h;exact⟨_,(ae (az (i:=2) iU.nd rfl (Or.inl rfl) (cQ dJ rfl aC bE (aa (cf (own:=["sign"]) (cap:=[]) (eN rfl (by decide +kernel) (by decide +kernel)) rfl (DW (qv 1)) (λ_ _ _ _=>(aD (i:=0) (show List.Nodup (["sign"]:List Str)from by decide +kernel) rfl (Or.inl rfl) (Or.inr rfl))) (λ_ _ _ _=>bB) (λ_ _ _ _=>(aH (MR) rfl CD PyProof.Rows.boot_ord (aa (qv 0) af)))) af)))
  (ae (aA (gQ (ax bj (qv 0) aK (aw _)) (ba gX (bP (aa (aH cF rfl aU aaD (aa (qv 2) af)) af)) (qv 2)) (ba gX (qv 2) (bP (aa ah af)))))
  ag)),?_⟩
 simp only[a8];left;have lz:z.cps.toList.length≤60:=l;exact⟨aar (aE (by show(z.cps.toList.map _).length≤1000;rw[aae];lia)),?_⟩;exact⟨λrest τ ys Γ'=>∃(cs ds:List Nat) (o:Option T),rest=cs.map (λc=>T.str ⟨#[c]⟩)∧τ=[o]∧z.cps.toList=ds++cs∧ys=ds.map (λc:Nat=>T.int (c:Int))∧Γ'=Γ,Ψ3 z.cps.toList [] none ⟨rfl,rfl,rfl,rfl,rfl⟩,?_,?_⟩
 ·intro τ ys Γ'⟨cs,ds,o,er,rfl,ez,rfl,rfl⟩
  have hz:cs=[]:=by
   cases cs with
   |nil=>rfl
   |cons _ _=>cases er
  subst hz;rw[aax]at ez;subst ez;exact⟨trivial,λD hD=>?_⟩;left;exact Ψ2 _ _ ⟨rfl,bh ai,?_⟩;left;have e1:z.cps.toList.map (λc:Nat=>T.int (c:Int))=(z.cps.toList.map (λc:Nat=>(c:Int))).map T.int:=by rw[aa8];rfl
  exact cD (λc=>?_) (λc=>?_)
  ·left
   exact jE (aar (by rw[aae,aa7];show 1+_<_;lia)) ?_;unfold uu at q;rw[O4 (pD c),aaz aal,aam,←e1]at q;rw[aae];exact aZ (.new hD) q
  ·left
   exact jE (aar (by rw[aae,aa7];show _+1<_;lia)) ?_;unfold uu at q;rw[O2 (ky c),aaA rfl,aaf,←e1]at q;exact aZ (.new hD) q
 ·intro x r τ ys Γ'⟨cs,ds,o,er,rfl,ez,rfl,rfl⟩
  cases cs with
  |nil=>cases er
  |cons c cs=>
   cases er;exact⟨trivial,?_⟩;left;exact⟨_,rfl,rfl,?_⟩;exact Ψ3 cs (ds++[c]) _ ⟨rfl,rfl,by rw[ez];simp,by rw[aaf];rfl,rfl⟩
abbrev qF:Stmt:=top 39
theorem Bn:aF ["pictures"] ["pictures"] (av qF):=Skk
def GI:fk:=λts Γ Z _=>∃(p:Addr) (ps:List (List T)),ts=[.ref p]∧Γ p=some (.lst (ps.map T.tup))∧ps.flatten.length<sizeLine∧Z (.tup ps.flatten) Γ
theorem BA(F:dP K "joined" "joined" qF f fd)(aC:mg "tuple" = none):bq P w K mg am fE 1 f fd ["pictures"] (cj GI):=by
 exact kL F Bn (λts Γ Z Y h=>?_) (λcy A outer s H E ts Γ Z Y hr h=>?_)
 ·let⟨p,ps,rfl,_⟩:=h
  rfl
 let⟨p,ps,rfl,g,l,q⟩:=h;exact⟨_,(ae (aA (cQ dJ rfl aC bE (aa (D0 (own:=["one","entry"]) (cap:=[]) (eN rfl (by decide +kernel) (by decide +kernel)) rfl (kF (qv 0)) (λ_ _ _ _=>(aD (i:=0) (show List.Nodup (["one","entry"]:List Str)from by decide +kernel) rfl (Or.inl rfl) (Or.inr rfl))) (λ_ _ _ _=>bB) (λ_ _ _ _ _=>(Li rfl rfl (c6 (qv 0)) (aD (i:=1) (show List.Nodup (["one","entry"]:List Str)from by decide +kernel) rfl (Or.inl rfl) (Or.inr rfl)) bB (G2 (qv 1))))) af)))
  ag),?_⟩
 simp only[a8];left;exact Ψ2 p _ ⟨rfl,bh g,?_⟩;exact⟨λrest τ ys Γ'=>∃(qs rs:List (List T)) (o0 o1:Option T),rest=rs.map T.tup∧ps=qs++rs∧τ=[o0,o1]∧ys=qs.flatten∧Γ'=Γ,Ψ4 [] ps none none ⟨rfl,rfl,rfl,rfl,rfl⟩,?_,?_⟩
 ·intro τ ys Γ'⟨qs,rs,o0,o1,er,ep,rfl,rfl,rfl⟩
  have hz:rs=[]:=by
   cases rs with
   |nil=>rfl
   |cons _ _=>cases er
  subst hz;rw[aax]at ep;subst ep;exact⟨bh g,λD hD=>?_⟩;left;exact Ψ2 _ _ ⟨rfl,bh ai,?_⟩;exact aZ (.new hD) q
 ·intro x r τ ys Γ'⟨qs,rs,o0,o1,er,ep,rfl,rfl,rfl⟩
  cases rs with
  |nil=>cases er
  |cons us rs=>
   cases er;exact⟨bh g,?_⟩;left;exact⟨λrest τ ys Γ2=>∃(xs:List T) (o1:Option T),us=xs++rest∧τ=[some (.tup us),o1]∧ys=qs.flatten++xs∧Γ'=Γ2,Ψ2 [] _ ⟨rfl,rfl,by rw[aax],rfl⟩,?_,?_⟩
   ·intro τ ys Γ'⟨xs,o1,eu,rfl,rfl,rfl⟩
    rw[aax]at eu;subst eu;exact⟨trivial,qs++[us],rs,_,_,rfl,by rw[ep];simp,rfl,by rw[List.flatten_append];simp,rfl⟩
   ·intro x r τ ys Γ'⟨xs,o1,eu,rfl,rfl,rfl⟩
    exact⟨trivial,?_⟩;left;have hl:(qs.flatten++xs).length<sizeLine:=by
     rw[ep,List.flatten_append,aaQ,eu]at l;simp only[aag,aap]at l ⊢;lia
    exact Gy hl ?_;left;exact Ψ2 (xs++[x]) _ ⟨by rw[eu];simp,rfl,by simp,rfl⟩
end
theorem qp(fs:al):ip fs=(fs.map λp=>(p.1,p.2.tr)).map Gk:=by rw[je,aa8];rfl
theorem pZ{na:Bool}(nd:(fs.map (·.1)).Nodup):(cu na (fs.map λp=>(p.1,p.2.tr))).map Gk=ip (cu na fs):=by rw[qQ nd λp=>p.2.tr,qp]
def iQ:List (Str×Kd)→List T→List (Key×T)
 |(n,_)::fs,t::ts=>(.inr n,t)::iQ fs ts
 |_,_=>[]
theorem wO:∀{fs:List (Str×Kd)} {ts:List T} {x:Key×T},x∈iQ fs ts→∃p∈fs,x.1=.inr p.1
 |(n,k)::fs,t::ts,x,h=>by
  rw[iQ]at h;rcases aah.mp h with rfl|h
  ·exact⟨(n,k),by simp,rfl⟩
  ·let⟨p,hp,e⟩:=wO h
   exact⟨p,by simp[hp],e⟩
 |[],ts,x,h=>by cases ts<;>(rw[iQ]at h;cases h;all_goals (intros;contradiction))
 |(n,k)::fs,[],x,h=>by rw[iQ]at h;cases h;all_goals (intros;contradiction)
theorem tT{n:Str}{k:Kd}{t:T}:∀{fs:List (Str×Kd)} {ts:List T},ts.length=fs.length→iQ (fs++[(n,k)]) (ts++[t])=iQ fs ts++[(.inr n,t)]
 |[],[],_=>rfl
 |(m,q)::fs,u::ts,h=>by
  show(Sum.inr m,u)::iQ (fs++[(n,k)]) (ts++[t])=(Sum.inr m,u)::(iQ fs ts++[(.inr n,t)])
  rw[tT (by simpa using h)]
 |[],_::_,h=>by cases h
 |_::_,[],h=>by cases h
theorem Ah{aN:List (Key×T)}{k:Key}{v:T}(h:∀x∈aN,x.1≠k):jZ aN k v=aN++[(k,v)]:=by
 unfold jZ;rw[aaz];intro z;let⟨x,hx,e⟩:=List.any_eq_true.mp z;exact h x hx (aaU e)
def valOf(fs:al)(ts:List T)(n:Str):T:=(gJ (iQ fs ts) (.inr n)).getD .non
theorem oW{n:Str}:gJ (iQ ((n,k)::fs) (t::ts)) (.inr n)=some t:=by
 show gJ ((Sum.inr n,t)::iQ fs ts) (.inr n)=some t
 unfold gJ;rw[List.find?_cons_of_pos (by simp)];rfl
theorem oV{n:Str}(h:n≠m):gJ (iQ ((n,k)::fs) (t::ts)) (.inr m)=gJ (iQ fs ts) (.inr m):=by
 show gJ ((Sum.inr n,t)::iQ fs ts) (.inr m)=_
 unfold gJ;rw[List.find?_cons_of_neg (by simpa using h)]
theorem CY:∀{fs:List (Str×Kd)} {ts:List T} {p:Str×Kd},(fs.map (·.1)).Nodup→ts.length=fs.length→p∈fs→∃(j:Nat) (t:T),fs[j]?=some p∧ts[j]?=some t∧gJ (iQ fs ts) (.inr p.1)=some t
 |(n,k)::fs,t::ts,p,nd,hl,h=>by
  rw[aam,abe]at nd;rcases aah.mp h with rfl|h
  ·exact Ψ2 0 t ⟨rfl,rfl,oW⟩
  ·have ne:n≠p.1:=λe=>nd.1 (by rw[e];exact aay.mpr ⟨p,h,rfl⟩)
   let⟨j,t',a,b,c⟩:=CY nd.2 (by simpa using hl) h;exact Ψ2 (j+1) t' ⟨a,b,by rw[oV ne];exact c⟩
 |[],_,p,_,_,h=>by cases h
 |_::_,[],p,_,hl,_=>by cases hl
theorem El(L:Ly):∀{fs:List (Str×Kd)} {ts:List T},(fs.map (·.1)).Nodup→ts.length=fs.length→pF L fs ts=fs.map λp=>(p.1,pK L p.2 (valOf fs ts p.1))
 |[],[],_,_=>by rw[pF];rfl;all_goals (intros;contradiction)
 |(n,k)::fs,t::ts,nd,hl=>by
  rw[aam,abe]at nd;rw[pF,aam,El L nd.2 (by simpa using hl)];congr 1
  ·show(n,pK L k t)=(n,pK L k (valOf ((n,k)::fs) (t::ts) n))
   unfold valOf;rw[oW];rfl
  ·exact aci λp hp=>?_
   have ne:n≠p.1:=λe=>nd.1 (by rw[e];exact aay.mpr ⟨p,hp,rfl⟩);unfold valOf;rw[oV ne]
 |[],_::_,_,h=>by cases h
 |_::_,[],_,h=>by cases h
theorem Bp(L:Ly)(nd:(fs.map (·.1)).Nodup)(hl:ts.length=fs.length):((cu L.na fs).map λp=>pK L p.2 (valOf fs ts p.1)).flatten=pK L (.rec_ fs) (.tup ts):=by
 rw[pK,El L nd hl,qQ nd λp=>pK L p.2 (valOf fs ts p.1),aa8];rfl
theorem Bf:fK (x::xs) (y::ys)=.tup [x,y]::fK xs ys:=rfl
theorem oN{m:Str}:∀{ss:List Str},m∈ss→(∃z,(ss.map V.str)[ss.idxOf m]?=some z∧kQ z (.str m)=true)∧∀(i:Nat) (z:V),i<ss.idxOf m→(ss.map V.str)[i]?=some z→kQ z (.str m)=false
 |[],h=>by cases h
 |s::ss,h=>by
  by_cases e:s=m
  ·subst e
   rw[List.idxOf_cons_self];exact⟨⟨_,rfl,by simp[kQ]⟩,λi z hi=>absurd hi (ads _)⟩
  ·have h':m∈ss:=by
    rcases aah.mp h with h|h
    ·exact absurd h.symm e
    ·exact h
   let⟨⟨z,b1,b2⟩,c⟩:=oN h';have ei:(s::ss).idxOf m=ss.idxOf m+1:=by rw[List.idxOf_cons,acK.mpr e];rfl
   rw[ei];exact⟨⟨z,by simpa using b1,b2⟩,λi z hi hz=>?_⟩;cases i with
   |zero=>cases hz;simp[kQ,e]
   |succ i=>exact c i z (by lia) (by simpa using hz)
theorem zV(ss:List Str):(ss.map V.str).all eK=true:=by
 rw[aaK];intro v hv;let⟨z,_,rfl⟩:=aay.mp hv;rfl
theorem eL.new{o:O}(g:eL pT Γ)(h:Γ p=none):eL pT (up Γ p o):=by show up Γ p o pT=_;rw[bb (nQ g h)];exact g
theorem v8(h:∀t∈ts,eF k t)(kg:k.good)(kd:k.depth≤5):(ts.map λt=>pK L k t).flatten.length=ts.length*sK k:=by
 rw[rj (D:=sK k) λp hp=>?_,aae];let⟨t,ht,rfl⟩:=aay.mp hp;exact(iz L (h t ht) kg kd).len
section
def yx(pT:Addr)(n:Nat):fk:=λts Γ Z _=>∃(L:Ly) (k:Kd) (u:T),ts=[L.tr,k.tr,u]∧k.good∧k.depth<n∧k.depth≤5∧eF k u∧eL pT Γ∧Z (.tup (pK L k u)) Γ
abbrev iu:Stmt:=top 36
theorem eY:aF ["laying","kind","items","pictures","entry","one"] ["laying","kind","items"] (av iu):=Skk
def KP(pT:Addr)(n:Nat):fk:=λts Γ Z _=>∃(L:Ly) (k:Kd) (us:List T),ts=[L.tr,k.tr,.tup us]∧k.good∧k.depth<n∧k.depth≤5∧us.length≤60∧(∀t∈us,eF k t)∧eL pT Γ∧Z (if L.ch=true then xH (us.map λt=>pK L k t)else .tup (.int us.length::(us.map λt=>pK L k t).flatten)) Γ
theorem uN(F:dP K "row_entry" "row_entry" iu f fd)(dq:b9 P w K mg am "picture" lv ["laying","kind","worth"] (yx pT n))(rR:b9 P w K mg am "joined" 1 ["pictures"] GI)(hv:1≤lv)(aU:mg "len" = none)(ft:mg "reversed" = none):bq P w K mg am fE (lv+1) f fd ["laying","kind","items"] (cj (KP pT n)):=by
 exact kL F eY (λts Γ Z Y h=>?_) (λcy A outer s H E ts Γ Z Y hr h=>?_)
 ·let⟨L,k,us,rfl,_⟩:=h
  rfl
 let⟨L,k,us,rfl,kg,kd,sL,l,hs,gl,q⟩:=h;exact⟨_,(ae (p7 (i:=3) (own:=["item"]) (cap:=[(0,"laying"),(1,"kind")]) (cJ rfl (by decide +kernel) (by decide +kernel) rfl (⟨rfl,⟨rfl,trivial⟩⟩) rfl (⟨⟨rfl,rfl,rfl⟩,⟨⟨rfl,rfl,rfl⟩,trivial⟩⟩)) rfl (c6 (qv 2)) (λ_ _ _ _=>(aD (i:=0) (show List.Nodup (["item","laying","kind"]:List Str)from by decide +kernel) rfl (Or.inl rfl) (Or.inr rfl))) (λ_ _ _ _=>bB) (λ_ _ _ _=>(ak dq hr (by lia) rfl (aa (qv 1) (aa (qv 2) (aa (qv 0) af))))) eY.nd rfl rfl)
  (ae (aW (ax bj (ay (qv 0) ah (λ_ _=>rfl)) aK (aw _)) (ae (aA (ba gX (bP (aa (aH cF rfl aU aaD (aa (qv 3) af)) af)) (ak rR hr (by lia) rfl (aa (qv 3) af))))
  ag) ag)
  (ae (az (i:=4) eY.nd rfl (Or.inl rfl) ah)
  (ae (fS aa6 rfl (Lj rfl ft (aa (qv 3) af)) (aD (i:=5) eY.nd rfl (Or.inl rfl)) (ae (az (i:=4) eY.nd rfl (Or.inl rfl) (ba gX (bP (aa (qv 4) af)) (qv 5)))
  ag))
  (ae (aA (qv 4))
  ag))))),?_⟩
 simp only[a8];have sm:=oo kg sL;have RM:=v8 (L:=L) hs kg sL;have hm:us.length*sK k≤60*5184:=ace l sm;left;exact⟨aar (aE (by lia)),λrest τ ys Γ'=>∃(vs:List T) (o0:Option T),us=vs++rest∧τ=[o0,some L.tr,some k.tr]∧ys=(vs.map λt=>pK L k t).map T.tup∧Γ'=Γ,Ψ2 [] none ⟨rfl,rfl,rfl,rfl⟩,?_,?_⟩
 ·intro τ ys Γ'⟨vs,o0,eu,rfl,rfl,rfl⟩
  rw[aax]at eu;subst eu;exact⟨trivial,λD hD=>?_⟩;left;unfold Ly.tr;left;exact zS (i:=2) (t:=.str L.s3) rfl ?_;left;exact cD (λc=>?_) (λc=>?_)
  ·rw[Jm (pD c),aaz aal]at q
   left;exact um ai ?_;left;exact Ψ2 D _ ⟨rfl,ai,by rw[RM,aa7];lia,?_⟩;exact jE (aar (by rw[RM,aa7];show 1+_<_;lia)) ?_;rw[aae,aae];exact aZ (.new hD) q
  ·rw[Jl (ky c),aaA rfl]at q
   left;exact Ψ2 D _ ⟨rfl,bh ai,?_⟩;exact⟨λrest τ Γ2=>∃(xs ys:List T) (o5:Option T),us=xs++ys∧rest=((xs.map λt=>pK L k t).map T.tup).reverse∧τ=[some (.tup [.str L.s1,.str L.s2,.str L.s3,.str L.s4]),some k.tr,some (.tup us),some (.ref D),some (xH (ys.map λt=>pK L k t)),o5]∧up Γ' D (.lst ((us.map λt=>pK L k t).map T.tup))=Γ2,Ψ3 us [] none ⟨by simp,rfl,rfl,rfl⟩,?_,?_⟩
   ·intro τ Γ2⟨xs,ys,o5,eu,er,rfl,rfl⟩
    have hx:xs=[]:=by
     have:=abc List.length er;simp at this;exact abA this.symm
    subst hx;rw[ab3]at eu;subst eu;exact⟨bh ai,?_⟩;left;exact aZ (.new hD) q
   ·intro x r τ Γ2⟨xs,ys,o5,eu,er,rfl,rfl⟩
    exact⟨bh ai,?_⟩;rcases adv xs with rfl|⟨zs,z,ez⟩
    ·cases er
    ·rw[adx]at ez
     subst ez;rw[aaf,aaf,adF]at er;have QI:x::r=T.tup (pK L k z)::((zs.map λt=>pK L k t).map T.tup).reverse:=er;cases QI;have mz:z∈us:=by rw[eu];simp
     have lz:=(iz L (hs z mz) kg sL).len;left;exact jE (aar (by rw[lz,aa7];show 1+_<_;lia)) ?_;left;exact Ψ3 zs (z::ys) _ ⟨by rw[eu];simp,rfl,rfl,rfl⟩
 ·intro x r τ ys Γ'⟨vs,o0,eu,rfl,rfl,rfl⟩
  have mx:x∈us:=by rw[eu];simp
  left;exact Ψ3 L k x ⟨rfl,kg,kd,sL,hs x mx,gl,?_⟩;exact Ψ2 (vs++[x]) _ ⟨by rw[eu];simp,rfl,by rw[aaf,aaf];rfl,rfl⟩
abbrev dU:Stmt:=top 37
theorem iq:aF ["laying","fields","parts","by_name"] ["laying","fields","parts"] (av dU):=Skk
def KQ(pT:Addr)(n:Nat):fk:=λts Γ Z _=>∃(L:Ly) (fs:al) (us:List T),ts=[L.tr,.tup (ip fs),.tup us]∧(Kd.rec_ fs).good∧aL fs<n∧aL fs≤4∧eF (.rec_ fs) (.tup us)∧eL pT Γ∧Z (.tup (pK L (.rec_ fs) (.tup us))) Γ
theorem mS(F:dP K "record_picture" "record_picture" dU f fd)(dq:b9 P w K mg am "picture" lv ["laying","kind","worth"] (yx pT n))(rR:b9 P w K mg am "joined" 1 ["pictures"] GI)(eR:b9 P w K mg am "in_order" 6 ["laying","fields"] (yy pT))(hv:6≤lv)(gG:mg "zip" = none):bq P w K mg am fE (lv+1) f fd ["laying","fields","parts"] (cj (KQ pT n)):=by
 exact kL F iq (λts Γ Z Y h=>?_) (λcy A outer s H E ts Γ Z Y hr h=>?_)
 ·let⟨L,fs,us,rfl,_⟩:=h
  rfl
 let⟨L,fs,us,rfl,Cq,kd,Wj,hs,gl,q⟩:=h;exact⟨_,(ae (az (i:=3) iq.nd rfl (Or.inr rfl) (DZ (own:=["name","inner","part"]) (cap:=[]) (eN rfl (by decide +kernel) (by decide +kernel)) rfl (DV rfl gG (aa (qv 1) (aa (qv 2) af))) (λ_ _ _ _=>(dt (n:=2) rfl (aS (dt (n:=2) rfl (aS (aD (i:=0) (show List.Nodup (["name","inner","part"]:List Str)from by decide +kernel) rfl (Or.inl rfl) (Or.inr rfl)) (aS (aD (i:=1) (show List.Nodup (["name","inner","part"]:List Str)from by decide +kernel) rfl (Or.inl rfl) (Or.inr rfl)) cz))) (aS (aD (i:=2) (show List.Nodup (["name","inner","part"]:List Str)from by decide +kernel) rfl (Or.inl rfl) (Or.inr rfl)) cz)))) (λ_ _ _ _=>(qv 0)) (λ_ _ _ _=>(qv 2))))
  (ae (aA (ak rR hr (by lia) rfl (aa (cf (own:=["name","inner"]) (cap:=[(0,"laying"),(3,"by_name")]) (cJ rfl (by decide +kernel) (by decide +kernel) rfl (⟨rfl,⟨rfl,trivial⟩⟩) rfl (⟨⟨rfl,rfl,rfl⟩,⟨⟨rfl,rfl,rfl⟩,trivial⟩⟩)) rfl (c6 (ak eR hr (by lia) rfl (aa (qv 0) (aa (qv 1) af)))) (λ_ _ _ _=>(dt (n:=2) rfl (aS (aD (i:=0) (show List.Nodup (["name","inner","laying","by_name"]:List Str)from by decide +kernel) rfl (Or.inl rfl) (Or.inr rfl)) (aS (aD (i:=1) (show List.Nodup (["name","inner","laying","by_name"]:List Str)from by decide +kernel) rfl (Or.inl rfl) (Or.inr rfl)) cz)))) (λ_ _ _ _=>bB) (λ_ _ _ _=>(ak dq hr (by lia) rfl (aa (qv 2) (aa (qv 1) (aa (Ag (acq (acN (by decide:1≤64) _) hr.units) (qv 3) (qv 0)) af)))))) af)))
  ag)),?_⟩
 simp only[a8];have kg:=Cq;unfold Kd.good at kg;have Pt:=(iz L hs Cq (by rw[Kd.depth];lia)).len;have psm:=oo Cq (by rw[Kd.depth];lia);rw[←Bp L kg.2.2.2 (by cases hs;assumption)]at q Pt;obtain⟨hl,hq⟩:us.length=fs.length∧∀(j:Nat) (n:Str) (k:Kd) (t:T),fs[j]?=some (n,k)→us[j]?=some t→eF k t:=by
  cases hs with
  |rec_ l q=>exact⟨l,q⟩
 left;exact⟨by rw[mB,bz];exact aE (by lia),λrest τ ys Γ'=>∃(gs hs:al) (ws vs:List T) (o0 o1 o2:Option T),fs=hs++gs∧us=vs++ws∧vs.length=hs.length∧rest=fK (ip gs) ws∧τ=[o0,o1,o2]∧ys=iQ hs vs∧Γ'=Γ,Ψ7 fs [] us [] none none none ⟨rfl,rfl,rfl,rfl,rfl,rfl,rfl⟩,?_,?_⟩
 ·intro τ ys Γ'⟨gs,se,ws,vs,o0,o1,o2,ef,eu,el,er,rfl,rfl,rfl⟩
  have hg:gs=[]:=by
   cases gs with
   |nil=>rfl
   |cons p gs=>
    cases ws with
    |nil=>rw[ef,eu,aag,aag,el]at hl;simp at hl
    |cons w ws=>cases er
  subst hg;have hw:ws=[]:=by
   cases ws with
   |nil=>rfl
   |cons w ws=>rw[ef,eu,aag,aag,el]at hl;simp at hl
  subst hw;rw[aax]at ef eu;subst ef eu;exact⟨trivial,λD hD=>?_⟩;left;exact Ψ2 L (fs.map λp=>(p.1,p.2.tr)) ⟨by rw[qp],by rw[aae];lia,by rw[aa8];exact kg.2.2.2,gl.new hD,?_⟩;rw[pZ kg.2.2.2];left;have ol:(cu L.na fs).length≤6:=by rw[mQ];exact kg.2.2.1
  exact⟨by rw[bz];exact aar (aE (by lia)),λrest τ ys Γ2=>∃(gs hs:al) (o0 o1:Option T),cu L.na fs=hs++gs∧rest=ip gs∧τ=[o0,o1,some L.tr,some (.ref D)]∧ys=(hs.map λp=>pK L p.2 (valOf fs us p.1)).map T.tup∧up Γ' D (.dK (iQ fs us))=Γ2,Ψ4 _ [] none none ⟨rfl,rfl,rfl,rfl,rfl⟩,?_,?_⟩
  ·intro τ ys Γ2⟨gs,se,o0,o1,eo,er,rfl,rfl,rfl⟩
   cases gs with
   |cons p r=>cases er
   |nil=>
    rw[aax]at eo;exact⟨trivial,λD2 U0=>?_⟩;left;exact Ψ2 D2 _ ⟨rfl,ai,?_,?_⟩
    ·rw[←eo,Pt,aa7];lia
    rw[←eo];exact aZ (.trans (.new hD) (.new U0)) q
  ·intro x r τ ys Γ2⟨gs,se,o0,o1,eo,er,rfl,rfl,rfl⟩
   cases gs with
   |nil=>cases er
   |cons p gs=>
    obtain⟨nm,k⟩:=p;cases er;have mem:(nm,k)∈fs:=(cR L.na fs).mem_iff.mp (by rw[eo];simp);let⟨j,t,gf,gt,gv⟩:=CY kg.2.2.2 hl mem;have dk:k.depth≤aL fs:=aY mem;have vo:valOf fs us nm=t:=by
     unfold valOf;have gv:gJ (iQ fs us) (.inr nm)=some t:=gv;rw[gv];rfl
    left;exact Ψ4 D (iQ fs us) (.inr nm) t ⟨rfl,rfl,ai,gv,?_⟩;exact Ψ3 L k t ⟨rfl,aO kg.1 mem,by lia,by lia,hq j nm k t gf gt,gl.new hD,?_⟩;exact Ψ4 gs (se++[(nm,k)]) _ _ ⟨by rw[eo];simp,rfl,rfl,?_,rfl⟩;rw[aaf,aaf];show _=_++[T.tup (pK L k (valOf fs us nm))]
    rw[vo]
 ·intro x r τ ys Γ'⟨gs,se,ws,vs,o0,o1,o2,ef,eu,el,er,rfl,rfl,rfl⟩
  cases gs with
  |nil=>
   have:fK (ip []) ws=[]:=by cases ws<;>rfl
   rw[this]at er;cases er
  |cons p gs=>
   obtain⟨nm,k⟩:=p;cases ws with
   |nil=>cases er
   |cons t ws=>
    cases er;have nw:∀y∈iQ se vs,y.1≠.inr nm:=λy hy z=>by
     let⟨p,hp,e⟩:=wO hy;rw[z]at e;have nd:=kg.2.2.2;rw[ef,aaf,ac8]at nd;exact nd.2.2 _ (List.mem_map_of_mem hp) nm (by simp) (Sum.inr.inj e).symm
    left;exact⟨.inr nm,rfl,?_⟩;exact Ψ7 gs (se++[(nm,k)]) ws (vs++[t]) _ _ _ ⟨by rw[ef];simp,by rw[eu];simp,by rw[aag,aag,el];rfl,rfl,rfl,?_,rfl⟩;rw[Ah nw,tT el]
abbrev dW:Stmt:=top 38
theorem du:aF ["laying","kind","pair","ordered","place","entries"] ["laying","kind","pair"] (av dW):=Skk
def K2(pT:Addr)(n:Nat):fk:=λts Γ Z _=>∃(L:Ly) (fs:al) (u:T),ts=[L.tr,(Kd.pick fs).tr,u]∧(Kd.pick fs).good∧aL fs<n∧aL fs≤4∧eF (.pick fs) u∧eL pT Γ∧Z (.tup (pK L (.pick fs) u)) Γ
theorem mT(F:dP K "choice_picture" "choice_picture" dW f fd)(dq:b9 P w K mg am "picture" lv ["laying","kind","worth"] (yx pT n))(bM:b9 P w K mg am "size_of" 6 ["kind"] (pJ 6))(eR:b9 P w K mg am "in_order" 6 ["laying","fields"] (yy pT))(hv:6≤lv)(aU:mg "len" = none):bq P w K mg am fE (lv+1) f fd ["laying","kind","pair"] (cj (K2 pT n)):=by
 exact kL F du (λts Γ Z Y h=>?_) (λcy A outer s H E ts Γ Z Y hr h=>?_)
 ·let⟨L,fs,u,rfl,_⟩:=h
  rfl
 let⟨L,fs,u,rfl,Cq,kd,Wj,hs,gl,q⟩:=h;exact⟨_,(ae (az (i:=3) du.nd rfl (Or.inl rfl) (ak eR hr (by lia) rfl (aa (qv 0) (aa (ay (qv 1) ah (λ_ _=>rfl)) af))))
  (ae (az (i:=4) du.nd rfl (Or.inl rfl) (jY aaI acp ada qX (cf (own:=["name","inner"]) (cap:=[]) (eN rfl (by decide +kernel) (by decide +kernel)) rfl (c6 (qv 3)) (λ_ _ _ _=>(dt (n:=2) rfl (aS (aD (i:=0) (show List.Nodup (["name","inner"]:List Str)from by decide +kernel) rfl (Or.inl rfl) (Or.inr rfl)) (aS (aD (i:=1) (show List.Nodup (["name","inner"]:List Str)from by decide +kernel) rfl (Or.inl rfl) (Or.inr rfl)) cz)))) (λ_ _ _ _=>bB) (λ_ _ _ _=>(qv 0))) (aa (ay (qv 2) ah (λ_ _=>rfl)) af)))
  (ae (az (i:=5) du.nd rfl (Or.inl rfl) (ba gX (bP (aa (qv 4) af)) (ak dq hr (by lia) rfl (aa (qv 0) (aa (ay (ay (qv 3) (qv 4) (λ_ _=>rfl)) ah (λ_ _=>rfl)) (aa (ay (qv 2) ah (λ_ _=>rfl)) af))))))
  (ae (aA (ba gX (qv 5) (ba yR (bP (aa ah af)) (ba iP (ak bM hr (by lia) rfl (aa (qv 1) af)) (aH cF rfl aU aaD (aa (qv 5) af))))))
  ag)))),?_⟩
 simp only[a8];have kg:=Cq;unfold Kd.good at kg;cases hs with
 |@pick fs m k2 j t f2 hq=>
  have Zt:=cS f2;have mem:=aaj Zt;have dk:k2.depth≤aL fs:=aY mem;have gk:k2.good:=aO kg.1 mem;have sm:=oo gk (by lia);have sp:1+sK k2≤sP fs:=om mem;have Tf:sP fs≤865:=(v7 fs 3 kg.1 (by lia)).2;rw[pK,wu L f2]at q;have pl:=(iz L hq gk (by lia)).len;rw[pl]at q;rw[Kd.tr];left;exact Ψ2 L (fs.map λp=>(p.1,p.2.tr)) ⟨by rw[qp],by rw[aae];lia,by rw[aa8];exact kg.2.2.2,gl,?_⟩;rw[pZ kg.2.2.2];left;have ol:(cu L.na fs).length≤6:=by rw[mQ];exact kg.2.2.1
  exact⟨by rw[bz];exact aar (aE (by lia)),λrest τ ys Γ2=>∃(gs hs:List (Str×Kd)) (o0 o1:Option T),cu L.na fs=hs++gs∧rest=ip gs∧τ=[o0,o1]∧ys=(hs.map (·.1)).map T.str∧Γ2=Γ,Ψ4 _ [] none none ⟨rfl,rfl,rfl,rfl,rfl⟩,?_,?_⟩
  ·intro τ ys Γ2⟨gs,se,o0,o1,eo,er,rfl,rfl,rfl⟩
   cases gs with
   |cons p r=>cases er
   |nil=>
    rw[aax]at eo;rw[←eo];exact⟨trivial,λD hD=>?_⟩;exact iS ai ?_;left;have Pq:(m,k2)∈cu L.na fs:=(cR L.na fs).mem_iff.mpr mem;have mm:m∈(cu L.na fs).map (·.1):=List.mem_map_of_mem Pq;let⟨i1,i2⟩:=oN mm;have WE:((cu L.na fs).map (·.1)).idxOf m<(cu L.na fs).length:=by have:=List.idxOf_lt_length_of_mem mm;rwa[aae]at this
    have gm:((cu L.na fs).map (·.1))[((cu L.na fs).map (·.1)).idxOf m]?=some m:=by
     rw[aac (by rw[aae];exact WE),List.getElem_idxOf]
    generalize ((cu L.na fs).map (·.1)).idxOf m=j0 at i1 i2 WE gm q;have gf:(cu L.na fs)[j0]?=some (m,k2):=by
     rw[aaC]at gm;cases e:(cu L.na fs)[j0]? with
     |none=>rw[e]at gm;cases gm
     |some x=>
      rw[e]at gm;have e1:x.1=m:=aaW gm;rw[kG (gU (na:=L.na) kg.2.2.2) x (aaj e) (m,k2) Pq e1]
    exact Ψ6 D _ _ _ _ j0 ⟨rfl,rfl,bh ai,mI _,rfl,rfl,zV _,i1,i2,?_⟩;left;exact fY (jf gf) ?_;left;exact Ψ3 L k2 t ⟨rfl,gk,by lia,by lia,hq,gl.new hD,?_⟩;exact jE (aar (by rw[pl,aa7];show 1+_<_;lia)) ?_;left;exact⟨.pick fs,by rw[Kd.tr],Cq,by rw[Kd.depth];lia,?_⟩;rw[sK];left;have lu:([T.int (j0:Nat)]++pK L k2 t).length=1+sK k2:=by rw[aag,pl];rfl
    rw[lu];exact Ψ2 _ _ ⟨rfl,rfl,by lia,by lia,by show 1≤1000;decide,?_⟩;rw[rep1];left;have e0:((sP fs:Nat):Int)-((1+sK k2:Nat):Int)=((sP fs-(1+sK k2):Nat):Int):=by lia
    rw[e0,abS];exact jE (aar (by rw[lu,abq,aa7];lia)) ?_;exact aZ (.new hD) q
  ·intro x r τ ys Γ2⟨gs,se,o0,o1,eo,er,rfl,rfl,rfl⟩
   cases gs with
   |nil=>cases er
   |cons p gs=>
    obtain⟨nm,k⟩:=p;cases er;left;exact Ψ4 gs (se++[(nm,k)]) _ _ ⟨by rw[eo];simp,rfl,rfl,by rw[aaf,aaf];rfl,rfl⟩
abbrev kE:Stmt:=top 35
theorem qB:aF ["laying","kind","worth","head"] ["laying","kind","worth"] (av kE):=Skk
theorem wA(F:dP K "picture" "picture" kE f fd)(xN:b9 P w K mg am "row_entry" (lv+1) ["laying","kind","items"] (KP pT n))(oR:b9 P w K mg am "record_picture" (lv+1) ["laying","fields","parts"] (KQ pT n))(oS:b9 P w K mg am "choice_picture" (lv+1) ["laying","kind","pair"] (K2 pT n))(nt:b9 P w K mg am "words_of_number" 1 ["halves","width","number"] KL)(pR:b9 P w K mg am "words_of_text" 1 ["texts","text"] KJ):bq P w K mg am fE (lv+1+1) f fd ["laying","kind","worth"] (cj (yx pT (n+1))):=by
 exact kL F qB (λts Γ Z Y h=>?_) (λcy A outer s H E ts Γ Z Y hr h=>?_)
 ·let⟨L,k,u,rfl,_⟩:=h
  rfl
 let⟨L,k,u,rfl,kg,kd,sL,hs,gl,q⟩:=h;exact⟨_,(ae (az (i:=3) qB.nd rfl (Or.inl rfl) (ay (qv 1) ah (λ_ _=>rfl)))
  (ae (aW (ax bj (qv 3) aK (aw _)) (ae (aA (ak nt hr (by lia) rfl (aa (ay (qv 0) ah (λ_ _=>rfl)) (aa (ay (qv 1) ah (λ_ _=>rfl)) (aa (qv 2) af)))))
  ag) ag)
  (ae (aW (ax bj (qv 3) aK (aw _)) (ae (aA (bP (aa (ak pR hr (by lia) rfl (aa (ay (qv 0) ah (λ_ _=>rfl)) (aa (qv 2) af))) af)))
  ag) ag)
  (ae (aW (ax bj (qv 3) aK (aw _)) (ae (aA (bP (aa (ak xN hr (by lia) rfl (aa (qv 0) (aa (ay (qv 1) ah (λ_ _=>rfl)) (aa (qv 2) af)))) af)))
  ag) ag)
  (ae (aW (ax bj (qv 3) aK (aw _)) (ae (aA (ak oR hr (by lia) rfl (aa (qv 0) (aa (ay (qv 1) ah (λ_ _=>rfl)) (aa (qv 2) af)))))
  ag) ag)
  (ae (aA (ak oS hr (by lia) rfl (aa (qv 0) (aa (qv 1) (aa (qv 2) af)))))
  ag)))))),?_⟩
 simp only[a8];have WB:=hs;cases hs with
 |@num w i l h=>
  rw[Kd.tr];unfold Kd.good at kg;rw[pK]at q;unfold Ly.tr;left;exact Ψ3 L w.toNat i ⟨by rw[Int.toNat_of_nonneg (by lia)],by lia,?_⟩;exact aZ .refl q
 |@text z l h=>
  rw[Kd.tr];rw[pK]at q;unfold Ly.tr;left;exact Ψ2 L z ⟨rfl,l,?_⟩;left;exact aZ .refl q
 |@row k2 ts l hq=>
  unfold Kd.good at kg;rw[Kd.depth]at kd sL;rw[Kd.tr];rw[pK]at q;left;exact Ψ3 L k2 ts ⟨rfl,kg,by lia,by lia,l,hq,gl,?_⟩;left;exact aZ .refl q
 |@rec_ fs ts l hq=>
  rw[Kd.depth]at kd sL;rw[Kd.tr];left;exact Ψ3 L fs ts ⟨rfl,kg,by lia,by lia,WB,gl,?_⟩;exact aZ .refl q
 |@pick fs m k2 j t f2 hq=>
  rw[Kd.depth]at kd sL;rw[Kd.tr];left;exact Ψ3 L fs _ ⟨by rw[Kd.tr],kg,by lia,by lia,WB,gl,?_⟩;exact aZ .refl q
end
inductive In(Γ:Gp):T→Prop
 |non:In Γ .non
 |bl (b:Bool):In Γ (.bl b)
 |int (i:Int):In Γ (.int i)
 |str (z:Str):In Γ (.str z)
 |tup {us:List T} (h:∀u∈us,In Γ u):In Γ (.tup us)
 |lst {a:Addr} {ts:List T} (h:Γ a=some (.lst ts)):In Γ (.ref a)
theorem In.le(l:Le Γ Γ'):∀{t:T},In Γ t→In Γ' t:=λh=>by
 induction h with
 |non=>exact .non
 |bl b=>exact .bl b
 |int i=>exact .int i
 |str z=>exact .str z
 |tup h ih=>exact .tup ih
 |lst h=>exact .lst (l _ _ h)
theorem Pc.Wm:∀{t:T},Pc t→In Γ t:=λh=>by
 induction h with
 |int i=>exact .int i
 |tup h ih=>exact .tup ih
theorem In.mem(h:In Γ (.tup us))(m:u∈us):In Γ u:=by
 cases h with
 |tup h=>exact h u m
def Yv:T→Bool
 |.int _=>true
 |_=>false
def eX:T→Bool
 |.int i=>decide (0≤i)&&decide (i<65536)
 |_=>false
theorem eJ(h:eX t=true):∃i:Int,t=.int i∧0≤i∧i<65536:=by
 cases t with
 |int i=>
  unfold eX at h;rw[aa1,acS,acS]at h;exact⟨i,rfl,h.1,h.2⟩
 |_=>cases h
theorem tF:∀{sl:List T},(∀t∈sl,eX t=true)→∃ws:List Int,sl=ws.map T.int∧∀x∈ws,0≤x∧x<65536
 |[],_=>⟨[],rfl,λ_ h=>nomatch h⟩
 |t::r,h=>by
  let⟨ws,rfl,q⟩:=tF (sl:=r) λt ht=>h t (by simp[ht]);let⟨i,rfl,i0,i1⟩:=eJ (h t (by simp));exact⟨i::ws,rfl,λx hx=>by
   rcases aah.mp hx with rfl|hx
   ·exact⟨i0,i1⟩
   ·exact q x hx⟩
def sM:Int→Bool:=λi=>decide (32≤i)&&decide (i≤126)&&!decide (i=37)
theorem wY{c:Nat}:sM (c:Int)=vC c:=by
 unfold sM vC;have e1:decide ((32:Int)≤(c:Int))=decide (32≤c):=by rw[adh];lia
 have e2:decide ((c:Int)≤126)=decide (c≤126):=by rw[adh];lia
 have e3:decide ((c:Int)=37)=decide (c=37):=by rw[adh];lia
 rw[e1,e2,e3]
def CA(Z:K3)(C:Addr)(Y:Value→Gp→Prop)(Γ:Gp)(r:T→Prop):Prop:=(∀u,r u→Z u Γ)∧((∀u,¬r u)→Y (.ref C) Γ)
theorem Ax{O:List (Str×Kd)}:∀{o:List (Str×Kd)} {n:Str},gw (o++O) n=if n∈o.map (·.1)then gw o n else sF o+gw O n
 |[],n=>by rw[ab3,sF,acT];rfl
 |(m,k)::o,n=>by
  rw[abY,gw,gw,sF,Ax (o:=o)];by_cases e:m=n
  ·rw[aaA e,aaA (by rw[←e];simp),aaA e]
  ·rw[aaz e,aaz e]
   by_cases c:n∈o.map (·.1)
   ·rw[aaA c,aaA (by simp at c ⊢;exact .inr c)]
   ·rw[aaz c,aaz (by simp at c ⊢;exact⟨λz=>e z.symm,c⟩)]
    lia
theorem Kx{Y:X3}(h:te Y τ Γ λx Γ1=>∃ns:List Int,x=.tup (ns.map T.int)∧(∀n∈ns,0≤n∧n<128)∧Z (.str ⟨(ns.map Int.toNat).toArray⟩) Γ1):JO te Y τ Γ Z:=h
section
variable {v2 v3:Value}
abbrev lQ:Stmt:=top 16
theorem vY:aF ["thing"] ["thing"] (av lQ):=Skk
def Jd:fk:=λts Γ Z _=>∃t:T,ts=[t]∧In Γ t∧Z (.bl (Yv t)) Γ
theorem wD(F:dP K "is_whole" "is_whole" lQ f fd)(aj:mg "isinstance" = none)(mD:mg "int" = none)(jb:mg "bool" = none):bq P w K mg am fE 1 f fd ["thing"] (cj Jd):=by
 exact kL F vY (λts Γ Z Y h=>?_) (λcy A outer s H E ts Γ Z Y hr h=>?_)
 ·let⟨t,rfl,_⟩:=h
  rfl
 let⟨t,rfl,ht,q⟩:=h;exact⟨_,(ae (aA (fT (cb rfl aj rfl mD zG (qv 0)) (iN (DY (cb rfl aj rfl jb vq (qv 0))))))
  ag),?_⟩
 simp only[a8];left;cases ht with
 |non=>exact Ψ2 _ false ⟨rfl,rfl,by left;exact aZ .refl q⟩
 |bl b=>exact Ψ2 _ true ⟨rfl,rfl,by left;exact Ψ2 _ true ⟨rfl,rfl,by left;exact aZ .refl q⟩⟩
 |int i=>exact Ψ2 _ true ⟨rfl,rfl,by left;exact Ψ2 _ false ⟨rfl,rfl,by left;exact aZ .refl q⟩⟩
 |str z=>exact Ψ2 _ false ⟨rfl,rfl,by left;exact aZ .refl q⟩
 |tup h=>exact Ψ2 _ false ⟨rfl,rfl,by left;exact aZ .refl q⟩
 |lst h=>exact Ψ2 ("list") false ⟨(iS (A:=True) h trivial).1,rfl,by left;exact aZ .refl q⟩
abbrev oj:Stmt:=top 27
theorem yD:aF ["number"] ["number"] (av oj):=Skk
def Je:fk:=λts Γ Z _=>∃i:Int,ts=[.int i]∧Z (.bl (sM i)) Γ
theorem yY(F:dP K "is_sign" "is_sign" oj f fd)(jy:mg "FIRST_SIGN" = some v1)(uY:fz v1 (.int 32))(j9:mg "LAST_SIGN" = some v2)(xk:fz v2 (.int 126))(fw:mg "HUNDREDTH_SIGN" = some v3)(oO:fz v3 (.int 37)):bq P w K mg am fE 1 f fd ["number"] (cj Je):=by
 exact kL F yD (λts Γ Z Y h=>?_) (λcy A outer s H E ts Γ Z Y hr h=>?_)
 ·let⟨i,rfl,_⟩:=h
  rfl
 let⟨i,rfl,q⟩:=h;unfold sM at q;exact⟨_,(ae (aA (fT (wm tQ tQ (bX rfl jy uY) (qv 0) (bX rfl j9 xk)) (iN (eM iW (qv 0) (bX rfl fw oO) (aw _)))))
  ag),?_⟩
 simp only[a8];left;exact cD (λc=>?_) (λc=>?_)
 ·rw[c,acI]at q
  left;exact cD (λc2=>?_) (λc2=>?_)
  ·rw[c2,acI]at q
   left;rw[show decide (V.int i=V.int 37)=decide (i=37)from by rw[adh];exact⟨V.int.inj,abc _⟩];exact aZ .refl q
  ·rw[c2,abN]at q
   left;exact aZ .refl q
 ·rw[c,abN,abN]at q
  left;exact aZ .refl q
abbrev oi:Stmt:=top 29
theorem yC:aF ["thing"] ["thing"] (av oi):=Skk
def qw:fk:=λts Γ Z _=>∃t:T,ts=[t]∧In Γ t∧Z (.bl (eX t)) Γ
theorem yX(F:dP K "is_word" "is_word" oi f fd)(zF:b9 P w K mg am "is_whole" 1 ["thing"] Jd)(bK:mg "WORD_NUMBERS" = some vW)(dI:fz vW (.int 65536)):bq P w K mg am fE 2 f fd ["thing"] (cj qw):=by
 exact kL F yC (λts Γ Z Y h=>?_) (λcy A outer s H E ts Γ Z Y hr h=>?_)
 ·let⟨t,rfl,_⟩:=h
  rfl
 let⟨t,rfl,ht,q⟩:=h;exact⟨_,(ae (aA (fT (ak zF hr (by lia) rfl (aa (qv 0) af)) (iN (wm tQ Au ah (qv 0) (bX rfl bK dI)))))
  ag),?_⟩
 simp only[a8];left;exact⟨t,rfl,ht,?_⟩;cases ht with
 |int i=>
  dsimp only[eX]at q;left;exact cD (λc=>?_) (λc=>?_)
  ·rw[c,acI]at q
   left;exact aZ .refl q
  ·rw[c,abN]at q
   left;exact aZ .refl q
 |_=>left;exact aZ .refl q
abbrev fb:Stmt:=top 31
theorem bU:aF ["halves","words","number","numbers","word"] ["halves","words"] (av fb):=Skk
def OP:fk:=λts Γ Z _=>∃(L:Ly) (ws:List Int),ts=[.str L.s1,.tup (ws.map T.int)]∧ws.length≤4∧(∀x∈ws,0≤x∧x<65536)∧Z (.int (sg ws.length (val (mX L.hi ws)))) Γ
theorem zO:∀(ws:List Int) (x:Int),val (ws++[x])=val ws+x*65536^ws.length
 |[],x=>by show x+65536*0=0+x*1;lia
 |y::ws,x=>by
  rw[abY,val,val,zO ws x,aap,abz,Int.mul_add,Int.add_assoc];congr 2
  rw[acY 65536,Int.mul_assoc]
theorem O5{xs:List Int}{t0 t1:T}(l4:xs.length≤4)(rl:∀x∈xs,0≤x∧x<65536)(q:Z (.int (sg xs.length (val xs))) Γ):
  J6 gT (hName 4) (FU (IF 2 (Cu (F9 vB λi j=>T.int (i*j)) (u0 4) (u0 3)) (Co λi j=>T.int (i+j))) (FU (IF 3 (eC (T.int 65536)) (F9 vB λi j=>T.int (i*j))) A7)) Y0
   {nx:=FU (MU (Vi (eT (Cu (Co λi j=>T.bl (decide (j≤i))) (Cu (F9 vB λi j=>T.int (i*j)) (eC (T.int 2)) (u0 2)) (u0 3))) (Cu (Co λi j=>T.int (i-j)) (u0 2) (u0 3)) (u0 2))) A7 Y0 {nx:=λx Γ'=>fj Z T.non Γ',rt:=fj Z},rt:=fj Z}
   (xs.map T.int) [some t0,some t1,some (.int 0),some (.int 1),none] Γ:=by
 exact⟨λrest τ Γ'=>∃(hs gs:List Int) (o:Option T),xs=hs++gs∧rest=gs.map T.int∧τ=[some t0,some t1,some (.int (val hs)),some (.int (65536^hs.length)),o]∧Γ'=Γ,Ψ3 [] xs none ⟨rfl,rfl,rfl,rfl⟩,?_,?_⟩
 ·intro τ Γ'⟨hs,gs,o,ex,er,rfl,rfl⟩
  cases gs with
  |cons g r=>cases er
  |nil=>
   rw[aax]at ex;subst ex;exact⟨trivial,?_⟩;left;unfold sg at q;exact cD (λc=>?_) (λc=>?_)
   ·rw[aaA (aaU c)]at q
    left;exact aZ .refl q
   ·rw[aaz (aa9 c)]at q
    left;exact aZ .refl q
 ·intro x r τ Γ'⟨hs,gs,o,ex,er,rfl,rfl⟩
  cases gs with
  |nil=>cases er
  |cons g gs=>
   cases er;have gx:=rl g (by rw[ex];simp);exact⟨trivial,?_⟩;left;exact Dq rfl ?_;left;exact Kz (Or.inl ⟨by lia,by lia⟩) ?_;left;exact Dq rfl ?_;left;exact Ψ3 (hs++[g]) gs (some (.int g)) ⟨by rw[ex];simp,rfl,?_,rfl⟩;rw[zO,aag,show hs.length+[g].length=hs.length+1 from rfl,abz];rfl
theorem Ko{td ty tv:E3}{Y:X3}{D:D3}(h:tv Y τ Γ λv Γ1=>td Y τ Γ1 λx Γ2=>ty Y τ Γ2 λy Γ3=>∃a aN k,x=.ref a∧y=kT k∧Γ3 a=some (.dK aN)∧aN.length<sizeLine∧D.nx τ (up Γ3 a (.dK (jZ aN k v)))):JU td ty tv Y D τ Γ:=h
theorem lW(F:dP K "number_of_words" "number_of_words" fb f fd)(bK:mg "WORD_NUMBERS" = some vW)(dI:fz vW (.int 65536)):bq P w K mg am fE 1 f fd ["halves","words"] (cj OP):=by
 exact kL F bU (λts Γ Z Y h=>?_) (λcy A outer s H E ts Γ Z Y hr h=>?_)
 ·let⟨L,ws,rfl,_⟩:=h
  rfl
 let⟨L,ws,rfl,l4,rg,q⟩:=h;exact⟨_,(ae (az (i:=2) bU.nd rfl (Or.inl rfl) ah)
  (ae (az (i:=3) bU.nd rfl (Or.inl rfl) ah)
  (ae (fS aa6 rfl (c6 (gQ (ax bj (qv 0) aK (aw _)) (qv 1) (G4 (qv 1) (qK ah)))) (aD (i:=4) bU.nd rfl (Or.inl rfl)) (ae (yH (i:=2) bU.nd rfl (Or.inl rfl) (ba lT (qv 4) (qv 3)) Av)
  (ae (yH (i:=3) bU.nd rfl (Or.inl rfl) (bX rfl bK dI) Hq)
  ag)))
  (ae (aA (gQ (ax Aw (ba lT ah (qv 2)) (qv 3) (aw _)) (ba iP (qv 2) (qv 3)) (qv 2)))
  ag)))),?_⟩
 simp only[a8];have ll:=wL L.hi ws;rw[←ll]at q l4;have rl:∀x∈mX L.hi ws,0≤x∧x<65536:=λx hx=>rg x (wK.mp hx);left;exact cD (λc=>?_) (λc=>?_)
 ·left
  have el:mX L.hi ws=ws:=by unfold mX;rw[Jn (pD c)];rfl
  rw[el]at l4 rl q;exact O5 l4 rl q
 ·left
  exact⟨rfl,_,rfl,?_⟩;exact⟨(mX L.hi ws).map T.int,by unfold mX;rw[Jo (ky c),aaA rfl,List.map_reverse],?_⟩;exact O5 l4 rl q
abbrev fR:Stmt:=top 20
theorem cq:aF ["laying","fields","offsets","ahead","name","inner"] ["laying","fields"] (av fR):=Skk
def KR(pT:Addr):fk:=λts Γ Z _=>∃(L:Ly) (fs:al),ts=[L.tr,.tup (ip fs)]∧(fs.map (·.1)).Nodup∧fs.length<64∧(∀p∈fs,p.2.good∧p.2.depth<6)∧eL pT Γ∧∀D,Γ D=none→Z (.ref D) (up Γ D (.dK ((cu L.na fs).map λp=>(.inr p.1,.int (gw (cu L.na fs) p.1:Nat)))))
theorem oG(F:dP K "field_offsets" "field_offsets" fR f fd)(eR:b9 P w K mg am "in_order" 6 ["laying","fields"] (yy pT))(bM:b9 P w K mg am "size_of" 6 ["kind"] (pJ 6)):bq P w K mg am fE 7 f fd ["laying","fields"] (cj (KR pT)):=by
 exact kL F cq (λts Γ Z Y h=>?_) (λcy A outer s H E ts Γ Z Y hr h=>?_)
 ·let⟨L,fs,rfl,_⟩:=h
  rfl
 let⟨L,fs,rfl,nd,Wg,ok,gl,q⟩:=h;exact⟨_,(ae (az (i:=2) cq.nd rfl (Or.inl rfl) G6)
  (ae (az (i:=3) cq.nd rfl (Or.inl rfl) ah)
  (ae (fS aa6 rfl (c6 (ak eR hr (by lia) rfl (aa (qv 0) (aa (qv 1) af)))) (dt (n:=2) rfl (aS (aD (i:=4) cq.nd rfl (Or.inl rfl)) (aS (aD (i:=5) cq.nd rfl (Or.inl rfl)) cz))) (ae (G1 (acq (acN (by decide:1≤64) _) hr.units) (qv 2) (qv 4) (qv 3))
  (ae (yH (i:=3) cq.nd rfl (Or.inl rfl) (ak bM hr (by lia) rfl (aa (qv 5) af)) Av)
  ag)))
  (ae (aA (qv 2))
  ag)))),?_⟩
 simp only[a8];have Gb:=gU (na:=L.na) nd;have pm:=cR L.na fs;have lO:=mQ L.na fs;left;intro D hD;left;exact Ψ2 L (fs.map λp=>(p.1,p.2.tr)) ⟨by rw[qp],by rw[aae];lia,by rw[aa8];exact nd,gl.new hD,?_⟩;rw[pZ nd];left;exact⟨λrest τ Γ'=>∃(hs gs:al) (o4 o5:Option T),cu L.na fs=hs++gs∧rest=ip gs∧τ=[some L.tr,some (.tup (ip fs)),some (.ref D),some (.int (sF hs:Nat)),o4,o5]∧Γ'=up Γ D (.dK (hs.map λp=>(.inr p.1,.int (gw (cu L.na fs) p.1:Nat)))),Ψ4 [] _ none none ⟨rfl,rfl,by rw[sF];rfl,rfl⟩,?_,?_⟩
 ·intro τ Γ'⟨hs,gs,o4,o5,eo,er,rfl,rfl⟩
  cases gs with
  |cons p r=>cases er
  |nil=>
   rw[aax]at eo;exact⟨trivial,?_⟩;left;rw[←eo];exact aZ .refl (q D hD)
 ·intro x r τ Γ'⟨hs,gs,o4,o5,eo,er,rfl,rfl⟩
  cases gs with
  |nil=>cases er
  |cons p gs=>
   obtain⟨nm,k⟩:=p;rw[ip]at er;cases er;have km:=ok (nm,k) (pm.mem_iff.mp (by rw[eo];simp));have nh:nm∉hs.map (·.1):=λz=>by
    rw[eo,aaf,ac8]at Gb;exact Gb.2.2 nm z nm (by simp) rfl
   have Vf:gw (cu L.na fs) nm=sF hs:=by rw[eo,Ax,aaz nh,gw,aaA rfl];lia
   have hl:hs.length≤fs.length:=by rw[←lO,eo,aag];lia
   exact⟨trivial,?_⟩;left;exact Ko ?_;left;exact Ψ3 D _ (.inr nm) ⟨rfl,rfl,ai,by rw[aae,aa7];lia,?_⟩;rw[Ah (λy hy z=>by
    let⟨p,hp,rfl⟩:=aay.mp hy;exact nh (aay.mpr ⟨p,hp,Sum.inr.inj z⟩)),IY]
   left;exact Dq rfl ?_;left;exact⟨k,rfl,km.1,km.2,?_⟩;left;exact Ψ4 (hs++[(nm,k)]) gs (some (.str nm)) (some k.tr) ⟨by rw[eo];simp,rfl,?_,?_⟩
   ·have es:sF (hs++[(nm,k)])=sF hs+sK k:=by rw[qG,qG,aaf,List.sum_append];simp
    rw[es,ady];rfl
   ·rw[aaf,←Vf]
    rfl
abbrev fQ:Stmt:=top 33
theorem oh:aF ["signs"] ["signs"] (av fQ):=Skk
def OM:fk:=λts Γ Z _=>∃cs:List Nat,ts=[.tup (cs.map Cv)]∧cs.all vC=true∧Z (.str ⟨cs.toArray⟩) Γ
theorem oF(F:dP K "text_of_signs" "text_of_signs" fQ f fd)(ui:mg "bytes" = none):bq P w K mg am fE 1 f fd ["signs"] (cj OM):=by
 exact kL F oh (λts Γ Z Y h=>?_) (λcy A outer s H E ts Γ Z Y hr h=>?_)
 ·let⟨cs,rfl,_⟩:=h
  rfl
 let⟨cs,rfl,ok,q⟩:=h;exact⟨_,(ae (aA (G8 rfl rfl ui (qv 0)))
  ag),?_⟩
 simp only[a8];left;exact Kx ?_;left;have e:cs.map Cv=(cs.map λc:Nat=>(c:Int)).map T.int:=by rw[aa8];rfl
 exact⟨_,abc T.tup e,λn hn=>?_,?_⟩
 ·let⟨c,hc,rfl⟩:=aay.mp hn
  have:=aaK.mp ok c hc;unfold vC at this;simp at this;lia
 have e2:(cs.map λc:Nat=>(c:Int)).map Int.toNat=cs:=by
  rw[aa8];exact(aci λc _=>rfl).trans (List.map_id cs)
 rw[e2];exact aZ .refl q
end
theorem zU{es:List T}{pl S off m:Nat}(h:off+m≤S):(((es.drop pl).take S).drop off).take m=(es.drop (pl+off)).take m:=by
 rw[List.drop_take,List.take_take,acf,acM (by lia)]
theorem GW{bs:List T}{m:Nat}(kg:k.good)(kd:k.depth≤5)(ch:L.ch=false)(hl:bs.length=m*sK k)(We:m≤60):Rd L (.row k) [.tup (.int m::bs)] u↔∃ts:List T,u=.tup ts∧ts.length=m∧∀(j:Nat) (t:T),ts[j]?=some t→Rd L k ((bs.drop (j*sK k)).take (sK k)) t:=by
 rw[uE ch];constructor
 ·intro⟨ts,rfl,l,hs,e⟩
  have e:=T.tup.inj e;let⟨e1,e2⟩:=aa0 e;have e1:m=ts.length:=by have:=T.int.inj e1;lia
  exact⟨ts,rfl,e1.symm,λj t ht=>⟨hs t (aaj ht),?_⟩⟩;have c:=chunk (S:=sK k) (ps:=ts.map λt=>pK L k t) (j:=j) (p:=pK L k t) (λp hp=>by let⟨t,ht,rfl⟩:=aay.mp hp;exact(iz L (hs t ht) kg kd).len) (by rw[aaC,ht];rfl);rw[e2,c]
 ·intro⟨ts,rfl,l,h⟩
  have hs:∀t∈ts,eF k t:=λt ht=>by
   obtain⟨j,hj,rfl⟩:=abD ht;exact(h j _ (aac hj)).1
  exact⟨ts,rfl,by lia,hs,?_⟩;rw[zQ (S:=sK k) (body:=bs) (by rw[aae,l];exact hl) λj p hp=>?_,l];rw[aaC]at hp;cases e:ts[j]? with
  |none=>rw[e]at hp;cases hp
  |some t=>
   rw[e]at hp;cases hp;exact(h j t e).2.symm
theorem CA.no(h:CA Z C Y Γ r)(n:∀u,¬r u)(l:Le Γ Γ'):∃Γ2,Le Γ2 Γ'∧Y (.ref C) Γ2:=⟨Γ,l,h.2 n⟩
theorem CA.yes(h:CA Z C Y Γ r)(n:r u)(l:Le Γ Γ'):fj Z u Γ':=aZ l (h.1 u n)
theorem Nh{a b:Int}(h:(!decide (V.int a=V.int b))=true):a≠b:=λe=>by rw[e,aaM rfl]at h;cases h
theorem Ni{a b:Int}(h:(!decide (V.int a=V.int b))=false):a=b:=by
 by_cases c:a=b
 ·exact c
 ·rw[aa2 λz=>c (V.int.inj z)]at h;cases h
theorem In.RE{b:T}(h:In Γ b):∃(n:String) (c:Bool),ql Γ b=some n∧W.kitOne K (.type n) (.type "tuple")=some c∧((c=true∧∃us,b=.tup us)∨(c=false∧∀us,b≠.tup us)):=by
 cases h with
 |non=>exact Ψ2 _ false ⟨rfl,rfl,.inr ⟨rfl,λ_ z=>nomatch z⟩⟩
 |bl b=>exact Ψ2 _ false ⟨rfl,rfl,.inr ⟨rfl,λ_ z=>nomatch z⟩⟩
 |int i=>exact Ψ2 _ false ⟨rfl,rfl,.inr ⟨rfl,λ_ z=>nomatch z⟩⟩
 |str z=>exact Ψ2 _ false ⟨rfl,rfl,.inr ⟨rfl,λ_ z=>nomatch z⟩⟩
 |lst h=>exact Ψ2 ("list") false ⟨(iS (A:=True) h trivial).1,rfl,.inr ⟨rfl,λ_ z=>nomatch z⟩⟩
 |@tup us h=>exact Ψ2 _ true ⟨rfl,rfl,.inl ⟨rfl,us,rfl⟩⟩
def EH:T→Bool
 |.int i=>eX (.int i)&&sM i
 |_=>false
theorem uO:∀{sl:List T},(sl.map EH).all id=true→∃cs:List Nat,sl=cs.map Cv∧cs.all vC=true
 |[],_=>⟨[],rfl,rfl⟩
 |t::r,h=>by
  rw[aam,ab8,aa1]at h;let⟨cs,rfl,q⟩:=uO h.2;cases t with
  |int i=>
   have h1:(eX (.int i)&&sM i)=true:=h.1;rw[aa1]at h1;let⟨j,e,j0,j1⟩:=eJ h1.1;cases e;obtain⟨c,rfl⟩:∃c:Nat,i=(c:Int):=⟨i.toNat,by lia⟩;exact⟨c::cs,rfl,by rw[ab8,q,←wY,h1.2];rfl⟩
  |_=>cases h.1
theorem vg:∀{cs:List Nat},cs.all vC=true→((cs.map Cv).map EH).all id=true
 |[],_=>rfl
 |c::cs,h=>by
  rw[ab8,aa1]at h;rw[aam,aam,ab8,vg h.2,Bool.and_true];have h1:=h.1;have r:32≤c∧c≤126:=by unfold vC at h1;simp at h1;lia
  simp only[id,Cv,EH];rw[wY,h1,Bool.and_true];show(decide ((0:Int)≤c)&&decide ((c:Int)<65536))=true
  rw[aaM (by lia),aaM (by lia)];rfl
theorem IL{α:Type}(qs:List α)(p:α):kH (qs++[p]) (-1)=some p:=by
 unfold kH BN;rw[aaz (by decide),aaA (by rw[aag];show -((qs.length+1:Nat):Int)≤-1;lia)];show(qs++[p])[(-1+((qs++[p]).length:Int)).toNat]?=_
 rw[show(-1+((qs++[p]).length:Int)).toNat=qs.length by rw[aag];show(-1+((qs.length+1:Nat):Int)).toNat=qs.length;lia];simp
theorem zT{wi:I3}{g:G3}{tc:T3}{own:List Str}{cap:List (Nat×Str)}{Y:X3}(h:wi Y τ Γ λts gd Γ1=>ts.length≤sizeLine∧
 CW gd g tc te (λ_ C Γ'=>Y τ C Γ') (λys Γ2=>∀D,Γ2 D=none→Z (.ref D) (up Γ2 D (.lst ys))) ts (Cf own cap τ) [] Γ1):zw wi g tc te own cap Y τ Γ Z:=h
section
def yv(pT dN:Addr)(n:Nat):fk:=λts Γ Z Y=>∃(L:Ly) (k:Kd) (es:List T) (pl:Nat),ts=[L.tr,k.tr,.tup es,.int (pl:Nat)]∧k.good∧k.depth<n∧k.depth≤5∧pl+sK k≤es.length∧In Γ (.tup es)∧eL pT Γ∧CA Z dN Y Γ (Rd L k ((es.drop pl).take (sK k)))
abbrev iJ:Stmt:=top 42
theorem qC:aF ["halves","words"] ["halves","words"] (av iJ):=Skk
def KS(dN:Addr):fk:=λts Γ Z Y=>∃(L:Ly) (sl:List T),ts=[.str L.s1,.tup sl]∧sl.length≤4∧In Γ (.tup sl)∧CA Z dN Y Γ (Rd L (.num sl.length) sl)
theorem qU(F:dP K "number_read" "number_read" iJ f fd)(aJ:mg "NoPicture" = some (.ref dN))(a9:W.excIn K dN [.type "ValueError",.type "Exception",.type "BaseException",.type "object"] "ValueError.__new__" = true)(cU:b9 P w K mg am "is_word" 2 ["thing"] qw)(nv:b9 P w K mg am "number_of_words" 1 ["halves","words"] OP)(dz:mg "all" = none):bq P w K mg am (qf P w) 3 f fd ["halves","words"] (cj (KS dN)):=by
 exact yU F qC (λts Γ Z Y h=>?_) (λcy A outer s H E ts Γ Z Y hr h=>?_)
 ·let⟨L,sl,rfl,_⟩:=h
  rfl
 let⟨L,sl,rfl,l4,hi,q⟩:=h;exact⟨_,(ae (aW (cE (br (aH (mn rfl) rfl dz aby (aa (cf (own:=["word"]) (cap:=[]) (eN rfl (by decide +kernel) (by decide +kernel)) rfl (c6 (qv 1)) (λ_ _ _ _=>(aD (i:=0) (show List.Nodup (["word"]:List Str)from by decide +kernel) rfl (Or.inl rfl) (Or.inr rfl))) (λ_ _ _ _=>bB) (λ_ _ _ _=>(ak cU hr (by lia) rfl (aa (qv 0) af)))) af)))) (ae (dD rfl rfl aJ a9 aaN (aa aK af) cN)
  ag) ag)
  (ae (aA (ak nv hr (by lia) rfl (aa (qv 0) (aa (qv 1) af))))
  ag)),?_⟩
 simp only[a8];left;exact⟨aar (aE (by lia)),λrest τ ys Γ'=>∃(vs:List T) (o:Option T),sl=vs++rest∧τ=[o]∧ys=(vs.map eX).map T.bl∧Γ'=Γ,Ψ2 [] none ⟨rfl,rfl,rfl,rfl⟩,?_,?_⟩
 ·intro τ ys Γ'⟨vs,o,es,rfl,rfl,rfl⟩
  rw[aax]at es;subst es;exact⟨trivial,λD hD=>?_⟩;left;exact Ψ2 D _ ⟨rfl,bh ai,?_⟩;left;exact cD (λc=>?_) (λc=>?_)
  ·left
   exact q.no (λu r=>?_) (.new hD);let⟨ws,e,h⟩:=GV r;have:(sl.map eX).all id=true:=by
    rw[aaK];intro b hb;let⟨t,ht,rfl⟩:=aay.mp hb;rw[e]at ht;let⟨x,hx,rfl⟩:=aay.mp ht;have:=h x hx;show(decide (0≤x)&&decide (x<65536))=true
    rw[aaM (by lia),aaM (by lia)];rfl
   rw[this]at c;cases c
  ·have c:(sl.map eX).all id=true:=by simpa using c
   let⟨ws,rfl,h⟩:=tF (sl:=sl) λt ht=>aaK.mp c _ (aay.mpr ⟨t,ht,rfl⟩);rw[aae]at l4 q;left;exact Ψ2 L ws ⟨rfl,l4,h,?_⟩;exact q.yes ((Ld (by lia) rfl h).mpr rfl) (.new hD)
 ·intro x r τ ys Γ'⟨vs,o,es,rfl,rfl,rfl⟩
  left;exact⟨x,rfl,hi.mem (by rw[es];simp),?_⟩;exact Ψ2 (vs++[x]) _ ⟨by rw[es];simp,rfl,by rw[aaf,aaf];rfl,rfl⟩
abbrev jR:Stmt:=top 43
theorem gh:aF ["texts","block","counted","signs","mark"] ["texts","block"] (av jR):=Skk
def KN(dN:Addr):fk:=λts Γ Z Y=>∃(L:Ly) (b:T),ts=[.str L.s2,b]∧In Γ b∧CA Z dN Y Γ (Rd L .text [b])
theorem uM(F:dP K "text_read" "text_read" jR f fd)(aJ:mg "NoPicture" = some (.ref dN))(a9:W.excIn K dN [.type "ValueError",.type "Exception",.type "BaseException",.type "object"] "ValueError.__new__" = true)(cU:b9 P w K mg am "is_word" 2 ["thing"] qw)(Ce:b9 P w K mg am "is_sign" 1 ["number"] Je)(pS:b9 P w K mg am "text_of_signs" 1 ["signs"] OM)(jx:mg "MOST_SIGNS" = some v1)(uX:fz v1 (.int 60))(aj:mg "isinstance" = none)(aC:mg "tuple" = none)(aU:mg "len" = none)(dz:mg "all" = none):bq P w K mg am (qf P w) 3 f fd ["texts","block"] (cj (KN dN)):=by
 exact yU F gh (λts Γ Z Y h=>?_) (λcy A outer s H E ts Γ Z Y hr h=>?_)
 ·let⟨L,b,rfl,_⟩:=h
  rfl
 let⟨L,b,rfl,hi,q⟩:=h;exact⟨_,(ae (aW (PW.pt (cZ (cE (br (cb rfl aj rfl aC bE (qv 1)))) (cO (cE (we (qv 1) (λ_=>rfl)))))) (ae (dD rfl rfl aJ a9 aaN (aa aK af) cN)
  ag) ag)
  (ae (az (i:=2) gh.nd rfl (Or.inl rfl) (eM bj (qv 0) aK (aw _)))
  (ae (az (i:=3) gh.nd rfl (Or.inl rfl) (gQ (br (qv 2)) (gO lE (qv 1) (gq ah) mO) (gO lE (qv 1) mO (gq (qK ah)))))
  (ae (az (i:=4) gh.nd rfl (Or.inl rfl) (gQ (br (qv 2)) (ay (qv 1) ah (λ_ _=>rfl)) (ay (qv 1) (qK ah) (λ_ _=>rfl))))
  (ae (aW (PW.pt (cZ (cE (br (ak cU hr (by lia) rfl (aa (qv 4) af)))) (cO (ax iW (qv 4) (gQ (br (qv 2)) (aH cF rfl aU aaD (aa (qv 3) af)) ah) (aw _))))) (ae (dD rfl rfl aJ a9 aaN (aa aK af) cN)
  ag) ag)
  (ae (aW (PW.pt (cZ (ax Et (aH cF rfl aU aaD (aa (qv 3) af)) (bX rfl jx uX) (aw _)) (cO (cE (br (aH (mn rfl) rfl dz aby (aa (cf (own:=["sign"]) (cap:=[]) (eN rfl (by decide +kernel) (by decide +kernel)) rfl (c6 (qv 3)) (λ_ _ _ _=>(aD (i:=0) (show List.Nodup (["sign"]:List Str)from by decide +kernel) rfl (Or.inl rfl) (Or.inr rfl))) (λ_ _ _ _=>bB) (λ_ _ _ _=>(fT (ak cU hr (by lia) rfl (aa (qv 0) af)) (iN (ak Ce hr (by lia) rfl (aa (qv 0) af)))))) af))))))) (ae (dD rfl rfl aJ a9 aaN (aa aK af) cN)
  ag) ag)
  (ae (aA (ak pS hr (by lia) rfl (aa (qv 3) af)))
  ag))))))),?_⟩
 simp only[a8];left;have bad:(∀us,b≠.tup us)→∀u,¬Rd L .text [b] u:=λn u r=>by
  let⟨bl,e,_⟩:=wc r;exact n bl e
 obtain⟨n,c,e1,e2,h|h⟩:=hi.RE (K:=K)
 ·let⟨rfl,⟨us,rfl⟩⟩:=h
  exact Ψ2 n true ⟨e1,e2,?_⟩;left;cases us with
  |nil=>exact⟨false,rfl,by left;exact q.no (λu r=>by let⟨bl,e,ne⟩:=wc r;cases e;exact ne rfl) .refl⟩
  |cons e0 er=>
   exact⟨true,rfl,?_⟩;left;obtain⟨signs,mark,eu⟩:∃(signs:List T) (mark:T),e0::er=if L.en=true then signs++[mark]else mark::signs:=by
    cases L.en with
    |false=>exact Ψ2 er e0 rfl
    |true=>
     rcases adv (e0::er)with z|⟨zs,z,ez⟩
     ·cases z
     ·exact Ψ2 zs z (by rw[aaA rfl,ez,adx])
   have WD:In Γ mark:=hi.mem (by rw[eu];split<;>simp)
   have WA:∀t∈signs,In Γ t:=λt ht=>hi.mem (by rw[eu];split<;>simp[ht])
   rw[eu]at q;have rt:∀u,Rd L .text [.tup (if L.en=true then signs++[mark]else mark::signs)] u↔_:=λu=>GU (L:=L) (signs:=signs) (mark:=mark) (u:=u);cases en:L.en with
   |false=>
    rw[en,aaz aal]at eu;rw[eu];have s2:L.s2 = "count" := by unfold Ly.s2;rw[en];rfl
    have hn:(if L.en=true then(0:Int)else(signs.length:Int))=signs.length:=by rw[en];rfl
    rw[s2];left;rw[show fI (mark::signs) (some 1) none=signs from QV (a:=1)];exact⟨mark,rfl,WD,?_⟩;by_cases wd:eX mark=true
    ·let⟨m,rfl,m0,m1⟩:=eJ wd
     rw[wd];left;exact cD (λc=>?_) (λc=>?_)
     ·left
      exact q.no (λu r=>?_) .refl;let⟨cs,x1,_,_,x2,_⟩:=(rt u).mp r;exact Nh c ((T.int.inj x2).trans (Eq.trans (by rw[x1,aae]) hn))
     ·have c:=Ni c
      left;exact cD (λc2=>?_) (λc2=>?_)
      ·left
       exact q.no (λu r=>?_) .refl;let⟨cs,x1,x3,_⟩:=(rt u).mp r;have:=aaU c2;rw[x1,aae]at this;lia
      ·have L4:=aa9 c2
       left;exact⟨aar (aE (by lia)),λrest τ ys Γ'=>∃(vs:List T) (o:Option T),signs=vs++rest∧τ=[o]∧ys=(vs.map EH).map T.bl∧Γ'=Γ,Ψ2 [] none ⟨rfl,rfl,rfl,rfl⟩,?_,?_⟩
       ·intro τ ys Γ'⟨vs,o,es,rfl,rfl,rfl⟩
        rw[aax]at es;subst es;exact⟨trivial,λD hD=>?_⟩;left;exact Ψ2 D _ ⟨rfl,bh ai,?_⟩;left;exact cD (λc3=>?_) (λc3=>?_)
        ·left
         exact q.no (λu r=>?_) (.new hD);let⟨cs,x1,_,x4,_⟩:=(rt u).mp r;rw[x1,vg x4]at c3;cases c3
        ·have c3:(signs.map EH).all id=true:=by simpa using c3
         let⟨cs,x1,x4⟩:=uO c3;left;exact⟨cs,by rw[x1],x4,?_⟩;exact q.yes ((rt _).mpr ⟨cs,x1,by rw[x1,aae]at L4;lia,x4,?_,rfl⟩) (.new hD);exact abc T.int (c.trans (hn.symm.trans (by rw[x1,aae])))
       ·intro x r τ ys Γ'⟨vs,o,es,rfl,rfl,rfl⟩
        exact⟨trivial,?_⟩;left;exact⟨x,rfl,WA x (by rw[es];simp),?_⟩;by_cases xw:eX x=true
        ·let⟨i,rfl,_⟩:=eJ xw
         rw[xw];left;exact⟨i,rfl,?_⟩;exact Ψ2 (vs++[.int i]) _ ⟨by rw[es];simp,rfl,by rw[aaf,aaf];show _=_++[T.bl (eX (.int i)&&sM i)];rw[xw,acI],rfl⟩
        ·rw[abH]at xw
         rw[xw];left;exact Ψ2 (vs++[x]) _ ⟨by rw[es];simp,rfl,?_,rfl⟩;rw[aaf,aaf];have:EH x=false:=by
          cases x with
          |int i=>show(eX (.int i)&&sM i)=false;rw[xw,abN]
          |_=>rfl
         show _=_++[T.bl (EH x)]
         rw[this]
    ·rw[abH]at wd
     rw[wd];left;exact q.no (λu r=>?_) .refl;let⟨cs,x1,x3,_,x2,_⟩:=(rt u).mp r;rw[x2]at wd;have:eX (.int (if L.en=true then 0 else(cs.length:Int)))=true:=by
      show(decide (0≤_)&&decide (_<65536))=true
      rw[aaM (by split<;>lia),aaM (by split<;>lia)]
      rfl
     rw[this]at wd;cases wd
   |true=>
    rw[en,aaA rfl]at eu;rw[eu];have s2:L.s2 = "end" := by unfold Ly.s2;rw[en];rfl
    have hn:(if L.en=true then(0:Int)else(signs.length:Int))=0:=by rw[en];rfl
    rw[s2];left;rw[show fI (signs++[mark]) none (some (-1))=signs from by rw[QW,List.dropLast_concat]];exact zS (IL signs mark) ?_;left;exact⟨mark,rfl,WD,?_⟩;by_cases wd:eX mark=true
    ·let⟨m,rfl,m0,m1⟩:=eJ wd
     rw[wd];left;exact cD (λc=>?_) (λc=>?_)
     ·left
      exact q.no (λu r=>?_) .refl;let⟨cs,x1,_,_,x2,_⟩:=(rt u).mp r;exact Nh c ((T.int.inj x2).trans (Eq.trans (by rw[x1,aae]) hn))
     ·have c:=Ni c
      left;exact cD (λc2=>?_) (λc2=>?_)
      ·left
       exact q.no (λu r=>?_) .refl;let⟨cs,x1,x3,_⟩:=(rt u).mp r;have:=aaU c2;rw[x1,aae]at this;lia
      ·have L4:=aa9 c2
       left;exact⟨aar (aE (by lia)),λrest τ ys Γ'=>∃(vs:List T) (o:Option T),signs=vs++rest∧τ=[o]∧ys=(vs.map EH).map T.bl∧Γ'=Γ,Ψ2 [] none ⟨rfl,rfl,rfl,rfl⟩,?_,?_⟩
       ·intro τ ys Γ'⟨vs,o,es,rfl,rfl,rfl⟩
        rw[aax]at es;subst es;exact⟨trivial,λD hD=>?_⟩;left;exact Ψ2 D _ ⟨rfl,bh ai,?_⟩;left;exact cD (λc3=>?_) (λc3=>?_)
        ·left
         exact q.no (λu r=>?_) (.new hD);let⟨cs,x1,_,x4,_⟩:=(rt u).mp r;rw[x1,vg x4]at c3;cases c3
        ·have c3:(signs.map EH).all id=true:=by simpa using c3
         let⟨cs,x1,x4⟩:=uO c3;left;exact⟨cs,by rw[x1],x4,?_⟩;exact q.yes ((rt _).mpr ⟨cs,x1,by rw[x1,aae]at L4;lia,x4,?_,rfl⟩) (.new hD);exact abc T.int (c.trans (hn.symm.trans (by rw[x1,aae])))
       ·intro x r τ ys Γ'⟨vs,o,es,rfl,rfl,rfl⟩
        exact⟨trivial,?_⟩;left;exact⟨x,rfl,WA x (by rw[es];simp),?_⟩;by_cases xw:eX x=true
        ·let⟨i,rfl,_⟩:=eJ xw
         rw[xw];left;exact⟨i,rfl,?_⟩;exact Ψ2 (vs++[.int i]) _ ⟨by rw[es];simp,rfl,by rw[aaf,aaf];show _=_++[T.bl (eX (.int i)&&sM i)];rw[xw,acI],rfl⟩
        ·rw[abH]at xw
         rw[xw];left;exact Ψ2 (vs++[x]) _ ⟨by rw[es];simp,rfl,?_,rfl⟩;rw[aaf,aaf];have:EH x=false:=by
          cases x with
          |int i=>show(eX (.int i)&&sM i)=false;rw[xw,abN]
          |_=>rfl
         show _=_++[T.bl (EH x)]
         rw[this]
    ·rw[abH]at wd
     rw[wd];left;exact q.no (λu r=>?_) .refl;let⟨cs,x1,x3,_,x2,_⟩:=(rt u).mp r;rw[x2]at wd;have:eX (.int (if L.en=true then 0 else(cs.length:Int)))=true:=by
      show(decide (0≤_)&&decide (_<65536))=true
      rw[aaM (by split<;>lia),aaM (by split<;>lia)]
      rfl
     rw[this]at wd;cases wd
 ·obtain⟨rfl,h⟩:=h
  exact Ψ2 n false ⟨e1,e2,by left;exact q.no (bad h) .refl⟩
end
theorem DS{sl:List T}(kg:k.good)(kd:k.depth≤5)(r:Rd L k sl u):sl.length=sK k:=by
 let⟨h,rfl⟩:=r;exact(iz L h kg kd).len
theorem AE{i:Int}(h0:0≤i)(h1:i<65536):eX (.int i)=true:=by
 dsimp only[eX];rw[aaM h0,aaM h1];rfl
section
abbrev gn:Stmt:=top 44
theorem iI:aF ["laying","kind","block","many","size"] ["laying","kind","block"] (av gn):=Skk
def K4(pT dN:Addr)(n:Nat):fk:=λts Γ Z Y=>∃(L:Ly) (k:Kd) (b:T),ts=[L.tr,k.tr,b]∧k.good∧k.depth<n∧k.depth≤5∧L.ch=false∧In Γ b∧eL pT Γ∧CA Z dN Y Γ (Rd L (.row k) [b])
theorem sJ(F:dP K "array_read" "array_read" gn f fd)(aJ:mg "NoPicture" = some (.ref dN))(a9:W.excIn K dN [.type "ValueError",.type "Exception",.type "BaseException",.type "object"] "ValueError.__new__" = true)(dc:vG P w K mg am "worth_at" lv ["laying","kind","entries","place"] (yv pT dN n))(cU:b9 P w K mg am "is_word" 2 ["thing"] qw)(bM:b9 P w K mg am "size_of" 6 ["kind"] (pJ 6))(hv:8≤lv)(cg:mg "MOST_ITEMS" = some v1)(c8:fz v1 (.int 60))(aj:mg "isinstance" = none)(aC:mg "tuple" = none)(aU:mg "len" = none)(aT:mg "range" = none):bq P w K mg am (qf P w) (lv+1) f fd ["laying","kind","block"] (cj (K4 pT dN n)):=by
 exact yU F iI (λts Γ Z Y h=>?_) (λcy A outer s H E ts Γ Z Y hr h=>?_)
 ·let⟨L,k,b,rfl,_⟩:=h
  rfl
 let⟨L,k,b,rfl,kg,kd,sL,ch,hi,gl,q⟩:=h;exact⟨_,(ae (aW (PW.pt (cZ (cE (br (cb rfl aj rfl aC bE (qv 2)))) (cO (cE (we (qv 2) (λ_=>rfl)))))) (ae (dD rfl rfl aJ a9 aaN (aa aK af) cN)
  ag) ag)
  (ae (az (i:=3) iI.nd rfl (Or.inl rfl) (ay (qv 2) ah (λ_ _=>rfl)))
  (ae (az (i:=4) iI.nd rfl (Or.inr rfl) (ak bM hr (by lia) rfl (aa (qv 1) af)))
  (ae (aW (PW.pt (cZ (cE (br (ak cU hr (by lia) rfl (aa (qv 3) af)))) (cZ (ax Et (qv 3) (bX rfl cg c8) (aw _)) (cO (ax iW (aH cF rfl aU aaD (aa (qv 2) af)) (ba eE ah (ba lT (qv 3) (qv 4))) (aw _)))))) (ae (dD rfl rfl aJ a9 aaN (aa aK af) cN)
  ag) ag)
  (ae (aA (cQ dJ rfl aC bE (aa (wj (own:=["item"]) (cap:=[(0,"laying"),(1,"kind"),(2,"block"),(4,"size")]) ⟨rfl,rfl⟩ wt (cJ rfl (by decide +kernel) (by decide +kernel) rfl (⟨rfl,⟨rfl,⟨rfl,⟨rfl,trivial⟩⟩⟩⟩) rfl (⟨⟨rfl,rfl,rfl⟩,⟨⟨rfl,rfl,rfl⟩,⟨⟨rfl,rfl,rfl⟩,⟨⟨rfl,rfl,rfl⟩,trivial⟩⟩⟩⟩)) rfl (di rfl aT (aa (qv 3) af)) (λ_ _ _ _=>(aD (i:=0) (show List.Nodup (["item","laying","kind","block","size"]:List Str)from by decide +kernel) rfl (Or.inl rfl) (Or.inr rfl))) (λ_ _ _ _=>bB) (λ_ _ _ _ _ hx=>(dE dc hr (by lia) rfl hx (aa (qv 1) (aa (qv 2) (aa (qv 3) (aa (ba eE ah (ba lT (qv 0) (qv 4))) af))))))) af)))
  ag))))),?_⟩
 simp only[a8];left;obtain⟨nn,c,e1,e2,h|h⟩:=hi.RE (K:=K)
 ·let⟨rfl,⟨us,rfl⟩⟩:=h
  exact Ψ2 nn true ⟨e1,e2,?_⟩;left;cases us with
  |nil=>exact⟨false,rfl,by left;exact q.no (λu r=>by let⟨ts,_,_,_,e⟩:=(uE ch).mp r;cases e) .refl⟩
  |cons e0 bs=>
   exact⟨true,rfl,?_⟩;left;exact⟨k,rfl,kg,by lia,?_⟩;left;exact⟨e0,rfl,hi.mem (by simp),?_⟩;have To:∀u,Rd L (.row k) [.tup (e0::bs)] u→∃m:Nat,e0=.int (m:Int)∧m≤60∧bs.length=m*sK k:=λu r=>by
    let⟨ts,_,l,hs,e⟩:=(uE ch).mp r;let⟨e1,e2⟩:=aa0 (T.tup.inj e);exact⟨ts.length,e1,l,by rw[e2];exact v8 hs kg sL⟩
   by_cases wd:eX e0=true
   ·let⟨m,rfl,m0,m1⟩:=eJ wd
    rw[wd];left;exact cD (λc=>?_) (λc=>?_)
    ·have c:=aaU c
     left;exact q.no (λu r=>by let⟨m',e,l,_⟩:=To u r;have:=T.int.inj e;lia) .refl
    ·have c:=aa9 c
     obtain⟨mm,rfl⟩:∃mm:Nat,m=(mm:Int):=⟨m.toNat,by lia⟩;left;exact Kz (Or.inl ⟨by lia,by lia⟩) ?_;left;exact cD (λc2=>?_) (λc2=>?_)
     ·left
      exact q.no (λu r=>?_) .refl;let⟨m',e,_,l⟩:=To u r;have e:mm=m':=by have:=T.int.inj e;lia
      subst e;exact Nh c2 ?_;rw[aap,l,ady,aeb];lia
     ·have c2:=Ni c2
      have hl:bs.length=mm*sK k:=by
       rw[aap,←aeb]at c2;lia
      have ra:∀u,Rd L (.row k) [.tup (.int mm::bs)] u↔_:=λu=>GW (u:=u) kg sL ch hl (by lia);have hb:mm*sK k≤60*sK k:=adB _ (by lia);have sm:=oo kg sL;left;exact zT ?_;left;exact⟨_,rfl,by lia,by lia,aar (aE (by rw[gM];lia)),λrest τ ys Γ'=>∃(j c:Nat) (o:Option T),rest=ig j c∧j+c=mm∧τ=[o,some L.tr,some k.tr,some (.tup (.int mm::bs)),some (.int (sK k:Nat))]∧ys.length=j∧(∀(i:Nat) (t:T),ys[i]?=some t→Rd L k ((bs.drop (i*sK k)).take (sK k)) t)∧Γ'=Γ,Ψ3 0 mm none ⟨rfl,acT _,rfl,rfl,λi t h=>by simp at h,rfl⟩,?_,?_⟩
      ·intro τ ys Γ'⟨j,c,o,er,jc,rfl,ly,hy,rfl⟩
       have hc:=jX er;subst hc;exact⟨trivial,λD hD=>?_⟩;left;exact Ψ2 _ _ ⟨rfl,bh ai,?_⟩;exact q.yes ((ra _).mpr ⟨ys,rfl,by lia,hy⟩) (.new hD)
      ·intro x rr τ ys Γ'⟨j,c,o,er,jc,rfl,ly,hy,rfl⟩
       let⟨c',rfl,rfl,rfl⟩:=dh er;exact⟨trivial,?_⟩;left;exact Kz (Or.inl ⟨by lia,by lia⟩) ?_;left;have jm:(j+1)*sK k≤mm*sK k:=adB _ (by lia);rw[ad7,ad6]at jm;have ep:(1:Int)+(j:Int)*((sK k:Nat):Int)=((1+j*sK k:Nat):Int):=by rw[ady,aeb];rfl
       rw[ep];have ed:(T.int (mm:Int)::bs).drop (1+j*sK k)=bs.drop (j*sK k):=by rw[adu];rfl
       exact Ψ4 L k _ (1+j*sK k) ⟨rfl,kg,kd,sL,by rw[aap,hl];lia,hi,gl,?_⟩;rw[ed];exact⟨λu ru=>?_,λno=>?_⟩
       ·exact Ψ3 (j+1) c' _ ⟨rfl,by lia,rfl,by rw[aag,ly];rfl,λi t ht=>?_,rfl⟩
        by_cases ci:i<ys.length
        ·rw[aaT ci]at ht
         exact hy i t ht
        ·rw[aaS (by lia)]at ht
         have ei:i=ys.length:=by
          by_cases z:i-ys.length=0
          ·lia
          ·rw[aaH (by show 1≤_;lia)]at ht;cases ht
         subst ei;rw[Nat.sub_self]at ht;cases ht;rw[ly];exact ru
       ·exact q.no (λu r=>?_) .refl
        let⟨ts,rfl,lt,ht⟩:=(ra u).mp r;exact no _ (ht j ts[j] (aac (by lia)))
   ·rw[abH]at wd
    rw[wd];left;exact q.no (λu r=>by let⟨m',rfl,l,_⟩:=To u r;rw[AE (by lia) (by lia)]at wd;cases wd) .refl
 ·obtain⟨rfl,h⟩:=h
  exact Ψ2 nn false ⟨e1,e2,by left;exact q.no (λu r=>by let⟨ts,_,_,_,e⟩:=(uE ch).mp r;exact h _ e) .refl⟩
abbrev gj:Stmt:=top 45
theorem eI:aF ["laying","kind","entry","items","size","rest"] ["laying","kind","entry"] (av gj):=Skk
def K0(pT dN:Addr)(n:Nat):fk:=λts Γ Z Y=>∃(L:Ly) (k:Kd) (b:T),ts=[L.tr,k.tr,b]∧k.good∧k.depth<n∧k.depth≤5∧L.ch=true∧In Γ b∧eL pT Γ∧CA Z dN Y Γ (Rd L (.row k) [b])
theorem sI(F:dP K "chain_read" "chain_read" gj f fd)(aJ:mg "NoPicture" = some (.ref dN))(a9:W.excIn K dN [.type "ValueError",.type "Exception",.type "BaseException",.type "object"] "ValueError.__new__" = true)(dc:vG P w K mg am "worth_at" lv ["laying","kind","entries","place"] (yv pT dN n))(cU:b9 P w K mg am "is_word" 2 ["thing"] qw)(bM:b9 P w K mg am "size_of" 6 ["kind"] (pJ 6))(hv:8≤lv)(cg:mg "MOST_ITEMS" = some v1)(c8:fz v1 (.int 60))(aj:mg "isinstance" = none)(aC:mg "tuple" = none)(aU:mg "len" = none):bq P w K mg am (qf P w) (lv+1) f fd ["laying","kind","entry"] (cj (K0 pT dN n)):=by
 exact yU F eI (λts Γ Z Y h=>?_) (λcy A outer s H E ts Γ Z Y hr h=>?_)
 ·let⟨L,k,b,rfl,_⟩:=h
  rfl
 let⟨L,k,b,rfl,kg,kd,sL,ch,hi,gl,q⟩:=h;exact⟨_,(ae (az (i:=3) eI.nd rfl (Or.inl rfl) (bF af))
  (ae (az (i:=4) eI.nd rfl (Or.inl rfl) (ak bM hr (by lia) rfl (aa (qv 1) af)))
  (ae (az (i:=5) eI.nd rfl (Or.inl rfl) (qv 2))
  (ae (wg Hn (br (cb rfl aj rfl aC bE (qv 5))) (ae (aW (PW.pt (cZ (ax iW (aH cF rfl aU aaD (aa (qv 5) af)) (ba eE ah (qv 4)) (aw _)) (cO (ax Aw (aH cF rfl aU aaD (aa (qv 3) af)) (bX rfl cg c8) (aw _))))) (ae (dD rfl rfl aJ a9 aaN (aa aK af) cN)
  ag) ag)
  (ae (jt (jY aaI abb aba gE (qv 3) (aa (dE dc hr (by lia) rfl fH (aa (qv 0) (aa (qv 1) (aa (qv 5) (aa ah af))))) af)))
  (ae (az (i:=5) eI.nd rfl (Or.inl rfl) (ay (qv 5) ah (λ_ _=>rfl)))
  ag))))
  (ae (aW (PW.pt (cZ (cE (br (ak cU hr (by lia) rfl (aa (qv 5) af)))) (cO (ax iW (qv 5) ah (aw _))))) (ae (dD rfl rfl aJ a9 aaN (aa aK af) cN)
  ag) ag)
  (ae (aA (cQ dJ rfl aC bE (aa (qv 3) af)))
  ag)))))),?_⟩
 simp only[a8];left;intro D hD;left;exact⟨k,rfl,kg,by lia,?_⟩;left;unfold FT;exact⟨λm τ Γ'=>∃(us:List T) (rest:T),m+us.length=60∧τ=[some L.tr,some k.tr,some b,some (.ref D),some (.int (sK k:Nat)),some rest]∧Γ'=up Γ D (.lst us)∧In Γ rest∧(∀ts,Cr L k b ts↔∃vs,ts=us++vs∧Cr L k rest vs),Ψ3 60 [] b ⟨rfl,rfl,rfl,hi,λts=>⟨λh=>⟨ts,rfl,h⟩,λξ=>Ξ12 ξ λvs e h=>by rw[e];exact h⟩⟩,?_⟩;intro m τ Γ'⟨us,rest,mu,rfl,rfl,RJ,hc⟩;have lD:Le Γ (up Γ D (.lst us)):=.new hD;left;obtain⟨nn,c,e1,e2,h|h⟩:=(RJ.le lD).RE (K:=K)
 ·let⟨rfl,⟨es,rfl⟩⟩:=h
  exact Ψ2 nn true ⟨e1,e2,true,rfl,?_⟩;rw[aaA rfl];exact⟨λτ' Γ'=>∃(Cn:List T) (wb:T),Cn.length=us.length+1∧Cn.length≤60∧τ'=[some L.tr,some k.tr,some b,some (.ref D),some (.int (sK k:Nat)),some wb]∧Γ'=up Γ D (.lst Cn)∧In Γ wb∧(∀ts,Cr L k b ts↔∃vs,ts=Cn++vs∧Cr L k wb vs),?_,?_⟩
  ·intro τ' Γ'⟨Cn,wb,l1,l2,h1,h2,h3,h4⟩
   exact⟨60-Cn.length,by lia,Cn,wb,by lia,h1,h2,h3,h4⟩
  left;have HM:(∀vs,¬Cr L k (.tup es) vs)→∀u,¬Rd L (.row k) [b] u:=λno u r=>by
   let⟨ts,_,_,h⟩:=(uD ch).mp r;let⟨vs,_,h⟩:=(hc ts).mp h;exact no vs h
  exact cD (λc=>?_) (λc=>?_)
  ·left
   exact q.no (HM λvs h=>?_) lD;cases es with
   |nil=>exact FD h
   |cons x p=>
    let⟨u,vs,_,r,_⟩:=rK.mp h;exact Nh c ?_;rw[aap,DS kg sL r];lia
  ·have c:=Ni c
   left;exact um ai ?_;left;exact cD (λc2=>?_) (λc2=>?_)
   ·have c2:=aaU c2
    left;exact q.no (λu r=>?_) lD;let⟨ts,_,L4,h⟩:=(uD ch).mp r;obtain⟨vs,rfl,h⟩:=(hc ts).mp h;cases es with
    |nil=>exact FD h
    |cons x p=>
     let⟨v,vs,rfl,_⟩:=rK.mp h;rw[aag,aap]at L4;lia
   ·have c2:=aa9 c2
    cases es with
    |nil=>simp at c;lia
    |cons x p=>
     rw[aap]at c;have lp:p.length=sK k:=by lia
     left;exact iS ai ?_;left;exact Ψ4 L k (x::p) 1 ⟨rfl,kg,kd,sL,by rw[aap];lia,RJ.le lD,gl.new hD,?_⟩;have ep:((x::p).drop 1).take (sK k)=p:=by rw[List.drop_succ_cons,abC];exact aa3 (by lia)
     rw[ep];exact⟨λu ru=>?_,λno=>?_⟩
     ·exact Ψ3 D us u ⟨rfl,rfl,ai,by rw[aa7];lia,?_⟩
      rw[IY];left;exact Ψ2 (us++[u]) x ⟨by rw[aag];rfl,by rw[aag];show _+1≤60;lia,rfl,rfl,RJ.mem (by simp),λts=>?_⟩;rw[hc ts];constructor
      ·intro⟨vs,rfl,h⟩
       let⟨u',mv,rfl,r',h'⟩:=rK.mp h;have:u'=u:=yM L r'.1 kg sL ru.1 (r'.2.trans ru.2.symm);subst this;exact⟨mv,by simp,h'⟩
      ·intro⟨vs,rfl,h⟩
       exact⟨u::vs,by simp,rK.mpr ⟨u,vs,rfl,ru,h⟩⟩
     ·exact q.no (HM λvs h=>by let⟨u,_,_,r,_⟩:=rK.mp h;exact no u r) lD
 ·obtain⟨rfl,h⟩:=h
  exact Ψ2 nn false ⟨e1,e2,false,rfl,?_⟩;rw[aaz aal];left;exact⟨rest,rfl,RJ.le lD,?_⟩;have V2:rest≠.int 0→∀u,¬Rd L (.row k) [b] u:=λne u r=>by
   let⟨ts,_,_,hh⟩:=(uD ch).mp r;let⟨vs,_,hh⟩:=(hc ts).mp hh;exact ne ((FE h).mp hh).2
  by_cases wd:eX rest=true
  ·let⟨i,rfl,i0,i1⟩:=eJ wd
   rw[wd];left;exact cD (λc=>?_) (λc=>?_)
   ·left
    exact q.no (V2 λz=>Nh c (T.int.inj z)) lD
   ·have c:=Ni c
    subst c;left;exact Ψ2 _ _ ⟨rfl,bh ai,?_⟩;exact q.yes ((uD ch).mpr ⟨us,rfl,by lia,(hc us).mpr ⟨[],by simp,(FE h).mpr ⟨rfl,rfl⟩⟩⟩) lD
  ·rw[abH]at wd
   rw[wd];left;exact q.no (V2 λz=>by rw[z]at wd;cases wd) lD
end
def Nk:T→Bool
 |.int i=>eX (.int i)&&decide (V.int i=V.int 0)
 |_=>false
theorem AD:Nk t=true↔t=.int 0:=by
 constructor
 ·intro h
  cases t with
  |int i=>
   have h:(eX (.int i)&&decide (V.int i=V.int 0))=true:=h;rw[aa1]at h;rw[V.int.inj (aaU h.2)]
  |_=>cases h
 ·rintro rfl
  decide +kernel
theorem Gs{O:List (Str×Kd)}{g:Str→Nat}{n:Str}(h:(n,k)∈O):gJ (O.map λp=>((.inr p.1:Key),T.int (g p.1:Nat))) (.inr n)=some (.int (g n:Nat)):=by
 induction O with
 |nil=>cases h
 |cons p r ih=>
  unfold gJ;rw[aam];by_cases e:p.1=n
  ·rw[List.find?_cons_of_pos (by simpa using e),←e]
   rfl
  ·rw[List.find?_cons_of_neg (by simpa using e)]
   exact ih (by rcases aah.mp h with z|z;exact absurd (by rw[←z]) e;exact z)
section
abbrev fA:Stmt:=top 46
theorem cM:aF ["laying","kind","entries","place","ordered","chosen","name","inner","behind"] ["laying","kind","entries","place"] (av fA):=Skk
def K1(pT dN:Addr)(n:Nat):fk:=λts Γ Z Y=>∃(L:Ly) (fs:al) (es:List T) (pl:Nat),ts=[L.tr,(Kd.pick fs).tr,.tup es,.int (pl:Nat)]∧(Kd.pick fs).good∧aL fs<n∧aL fs≤4∧pl+sP fs≤es.length∧In Γ (.tup es)∧eL pT Γ∧CA Z dN Y Γ (Rd L (.pick fs) ((es.drop pl).take (sP fs)))
theorem qV(F:dP K "choice_read" "choice_read" fA f fd)(aJ:mg "NoPicture" = some (.ref dN))(a9:W.excIn K dN [.type "ValueError",.type "Exception",.type "BaseException",.type "object"] "ValueError.__new__" = true)(dc:vG P w K mg am "worth_at" lv ["laying","kind","entries","place"] (yv pT dN n))(cU:b9 P w K mg am "is_word" 2 ["thing"] qw)(bM:b9 P w K mg am "size_of" 6 ["kind"] (pJ 6))(eR:b9 P w K mg am "in_order" 6 ["laying","fields"] (yy pT))(hv:8≤lv)(aU:mg "len" = none)(dz:mg "all" = none):bq P w K mg am (qf P w) (lv+1) f fd ["laying","kind","entries","place"] (cj (K1 pT dN n)):=by
 exact yU F cM (λts Γ Z Y h=>?_) (λcy A outer s H E ts Γ Z Y hr h=>?_)
 ·let⟨L,fs,es,pl,rfl,_⟩:=h
  rfl
 let⟨L,fs,es,pl,rfl,Cq,kd,Wj,i9,hi,gl,q⟩:=h;exact⟨_,(ae (az (i:=4) cM.nd rfl (Or.inl rfl) (ak eR hr (by lia) rfl (aa (qv 0) (aa (ay (qv 1) ah (λ_ _=>rfl)) af))))
  (ae (az (i:=5) cM.nd rfl (Or.inl rfl) (ay (qv 2) (qv 3) (λ_ _=>rfl)))
  (ae (aW (PW.pt (cZ (cE (br (ak cU hr (by lia) rfl (aa (qv 5) af)))) (cO (ax Aw (qv 5) (aH cF rfl aU aaD (aa (qv 4) af)) (aw _))))) (ae (dD rfl rfl aJ a9 aaN (aa aK af) cN)
  ag) ag)
  (ae (lR (ay (qv 4) (qv 5) (λ_ _=>rfl)) (dt (n:=2) rfl (aS (aD (i:=6) cM.nd rfl (Or.inl rfl)) (aS (aD (i:=7) cM.nd rfl (Or.inl rfl)) cz))))
  (ae (az (i:=8) cM.nd rfl (Or.inl rfl) (gO lE (qv 2) (gq (ba eE (ba eE (qv 3) ah) (ak bM hr (by lia) rfl (aa (qv 7) af)))) (gq (ba eE (qv 3) (ak bM hr (by lia) rfl (aa (qv 1) af))))))
  (ae (aW (cE (br (aH (mn rfl) rfl dz aby (aa (cf (own:=["word"]) (cap:=[]) (eN rfl (by decide +kernel) (by decide +kernel)) rfl (c6 (qv 8)) (λ_ _ _ _=>(aD (i:=0) (show List.Nodup (["word"]:List Str)from by decide +kernel) rfl (Or.inl rfl) (Or.inr rfl))) (λ_ _ _ _=>bB) (λ_ _ _ _=>(fT (ak cU hr (by lia) rfl (aa (qv 0) af)) (iN (eM bj (qv 0) ah (aw _)))))) af)))) (ae (dD rfl rfl aJ a9 aaN (aa aK af) cN)
  ag) ag)
  (ae (aA (bP (aa (qv 6) (aa (dE dc hr (by lia) rfl fH (aa (qv 0) (aa (qv 7) (aa (qv 2) (aa (ba eE (qv 3) ah) af))))) af))))
  ag))))))),?_⟩
 simp only[a8];have kg:=Cq;unfold Kd.good at kg;have sp1:1≤sP fs:=by
  cases fs with
  |nil=>exact absurd kg.2.1 (by decide)
  |cons p r=>have:=om (fs:=p::r) (p:=p) (by simp);lia
 have Tf:sP fs≤865:=(v7 fs 3 kg.1 (by lia)).2;obtain⟨e0,er,ee⟩:∃e0 er,es.drop pl=e0::er:=by
  cases e:es.drop pl with
  |nil=>have:=abc List.length e;rw[abf]at this;simp at this;lia
  |cons a b=>exact Ψ2 a b rfl
 have WM:es[pl]?=some e0:=by have:=List.getElem?_drop (xs:=es) (i:=pl) (j:=0);rw[ee]at this;exact this.symm
 have UP:es.drop (pl+1)=er:=by rw[←acf,ee];rfl
 have Yj:(e0::er).length+pl=es.length:=by rw[←ee,abf];lia
 rw[aap]at Yj;obtain⟨S,eS⟩:∃S,sP fs=S+1:=⟨sP fs-1,by lia⟩;have NB:(es.drop pl).take (sP fs)=e0::er.take S:=by rw[ee,eS,List.take_succ_cons]
 rw[NB]at q;have rp:∀u,Rd L (.pick fs) (e0::er.take S) u↔_:=λu=>uC (L:=L) (u:=u) Cq (by rw[Kd.depth];lia) (by rw[aa4];lia);have pm:=cR L.na fs;have lO:=mQ L.na fs;rw[Kd.tr];left;exact Ψ2 L (fs.map λp=>(p.1,p.2.tr)) ⟨by rw[qp],by rw[aae];lia,by rw[aa8];exact kg.2.2.2,gl,?_⟩;rw[pZ kg.2.2.2];left;exact fY WM ?_;left;exact⟨e0,rfl,hi.mem (aaj WM),?_⟩;by_cases wd:eX e0=true
 ·let⟨m,rfl,m0,m1⟩:=eJ wd
  rw[wd];left;rw[bz,lO];exact cD (λc=>?_) (λc=>?_)
  ·have c:=aaU c
   left;exact q.no (λu r=>?_) .refl;let⟨j,nm,k,t,ej,e,_⟩:=(rp u).mp r;have:=(aat.mp ej).1;have:=T.int.inj e;lia
  ·have c:=aa9 c
   obtain⟨j,rfl⟩:∃j:Nat,m=(j:Int):=⟨m.toNat,by lia⟩;obtain⟨nm,k,ej⟩:∃nm k,(cu L.na fs)[j]?=some (nm,k):=Ψ2 _ _ (aac (by lia));have mem:=pm.mem_iff.mp (aaj ej);have dk:k.depth≤aL fs:=aY mem;have gk:k.good:=aO kg.1 mem;have sp:1+sK k≤sP fs:=om mem;left;exact fY (jf ej) ?_;left;exact⟨k,rfl,gk,by lia,?_⟩;left;exact⟨.pick fs,by rw[Kd.tr],Cq,by rw[Kd.depth];lia,?_⟩;rw[sK];left;have ec:fI es (some (((pl:Nat):Int)+1+((sK k:Nat):Int))) (some (((pl:Nat):Int)+((sP fs:Nat):Int)))=(er.take S).drop (sK k):=by
    have:=JQ (xs:=es) (a:=pl+1+sK k) (b:=pl+sP fs);rw[←acf,UP]at this;rw[List.drop_take,show S-sK k=pl+sP fs-(pl+1+sK k)by lia,←this];rfl
   rw[ec];have Yk:((er.take S).drop (sK k)).length≤1000:=by rw[abf,aa4];lia
   exact⟨aar (aE Yk),λrest τ ys Γ'=>∃(vs:List T) (o:Option T),(er.take S).drop (sK k)=vs++rest∧τ=[o]∧ys=(vs.map Nk).map T.bl∧Γ'=Γ,Ψ2 [] none ⟨rfl,rfl,rfl,rfl⟩,?_,?_⟩
   ·intro τ ys Γ'⟨vs,o,MI,rfl,rfl,rfl⟩
    rw[aax]at MI;exact⟨trivial,λD hD=>?_⟩;left;exact Ψ2 D _ ⟨rfl,bh ai,?_⟩;have one:∀{u},Rd L (.pick fs) (.int (j:Int)::er.take S) u→∃t,u=.tup [.str nm,t]∧Rd L k ((er.take S).take (sK k)) t∧∀x∈(er.take S).drop (sK k),x=.int 0:=λ{u} r=>by
     let⟨j',Cp,k',t,NC,e,eu,r',z⟩:=(rp u).mp r;have:j=j':=by have:=T.int.inj e;lia
     subst this;rw[ej]at NC;cases NC;exact⟨t,eu,r',z⟩
    left;exact cD (λc3=>?_) (λc3=>?_)
    ·left
     exact q.no (λu r=>?_) (.new hD);let⟨t,_,_,z⟩:=one r;have:(vs.map Nk).all id=true:=by
      rw[aaK];intro b hb;let⟨x,hx,rfl⟩:=aay.mp hb;exact AD.mpr (z x (by rw[MI];exact hx))
     rw[this]at c3;cases c3
    ·have c3:(vs.map Nk).all id=true:=by simpa using c3
     have zz:∀x∈(er.take S).drop (sK k),x=.int 0:=λx hx=>AD.mp (aaK.mp c3 _ (aay.mpr ⟨x,by rw[←MI];exact hx,rfl⟩));left;exact Ψ4 L k es (pl+1) ⟨rfl,gk,by lia,by lia,by lia,hi.le (.new hD),gl.new hD,?_⟩;have es2:(es.drop (pl+1)).take (sK k)=(er.take S).take (sK k):=by rw[UP,List.take_take,acM (by lia)]
     rw[es2];exact⟨λt rt=>?_,λno=>?_⟩
     ·left
      exact q.yes ((rp _).mpr ⟨j,nm,k,t,ej,rfl,rfl,rt,zz⟩) (.new hD)
     ·exact q.no (λu r=>by let⟨t,_,r',_⟩:=one r;exact no t r') (.new hD)
   ·intro x r τ ys Γ'⟨vs,o,MI,rfl,rfl,rfl⟩
    have hx:In Γ' x:=hi.mem (by
     have:x∈(er.take S).drop (sK k):=by rw[MI];simp
     have:=acF (acG this);rw[←UP]at this;exact acG this)
    exact⟨trivial,?_⟩;left;exact⟨x,rfl,hx,?_⟩;by_cases xw:eX x=true
    ·let⟨i,rfl,_⟩:=eJ xw
     rw[xw];left;exact Ψ2 (vs++[.int i]) _ ⟨by rw[MI];simp,rfl,by rw[aaf,aaf];show _=_++[T.bl (eX (.int i)&&decide (V.int i=V.int 0))];rw[xw,acI],rfl⟩
    ·rw[abH]at xw
     rw[xw];left;exact Ψ2 (vs++[x]) _ ⟨by rw[MI];simp,rfl,?_,rfl⟩;have:Nk x=false:=by
      cases x with
      |int i=>show(eX (.int i)&&_)=false;rw[xw,abN]
      |_=>rfl
     rw[aaf,aaf];show _=_++[T.bl (Nk x)]
     rw[this]
 ·rw[abH]at wd
  rw[wd];left;exact q.no (λu r=>?_) .refl;let⟨j,nm,k,t,ej,rfl,_⟩:=(rp u).mp r;have:=(aat.mp ej).1;rw[AE (by lia) (by lia)]at wd;cases wd
abbrev ji:Stmt:=top 41
theorem jQ:aF ["laying","kind","entries","place","head","offsets"] ["laying","kind","entries","place"] (av ji):=Skk
theorem wz(F:dP K "worth_at" "worth_at" ji f fd)(dc:vG P w K mg am "worth_at" lv ["laying","kind","entries","place"] (yv pT dN n))(sY:vG P w K mg am "number_read" 3 ["halves","words"] (KS dN))(xM:vG P w K mg am "text_read" 3 ["texts","block"] (KN dN))(vp:vG P w K mg am "array_read" (lv+1) ["laying","kind","block"] (K4 pT dN n))(vn:vG P w K mg am "chain_read" (lv+1) ["laying","kind","entry"] (K0 pT dN n))(tj:vG P w K mg am "choice_read" (lv+1) ["laying","kind","entries","place"] (K1 pT dN n))(pU:b9 P w K mg am "field_offsets" 7 ["laying","fields"] (KR pT))(hv:8≤lv)(aC:mg "tuple" = none):bq P w K mg am (qf P w) (lv+1+1) f fd ["laying","kind","entries","place"] (cj (yv pT dN (n+1))):=by
 exact yU F jQ (λts Γ Z Y h=>?_) (λcy A outer s H E ts Γ Z Y hr h=>?_)
 ·let⟨L,k,es,pl,rfl,_⟩:=h
  rfl
 let⟨L,k,es,pl,rfl,kg,kd,sL,i9,hi,gl,q⟩:=h;exact⟨_,(ae (az (i:=4) jQ.nd rfl (Or.inl rfl) (ay (qv 1) ah (λ_ _=>rfl)))
  (ae (aW (ax bj (qv 4) aK (aw _)) (ae (aA (dE sY hr (by lia) rfl fH (aa (ay (qv 0) ah (λ_ _=>rfl)) (aa (gO lE (qv 2) (gq (qv 3)) (gq (ba eE (qv 3) (ay (qv 1) ah (λ_ _=>rfl))))) af))))
  ag) ag)
  (ae (aW (ax bj (qv 4) aK (aw _)) (ae (aA (dE xM hr (by lia) rfl fH (aa (ay (qv 0) ah (λ_ _=>rfl)) (aa (ay (qv 2) (qv 3) (λ_ _=>rfl)) af))))
  ag) ag)
  (ae (aW (PW.pt (DU (ax bj (qv 4) aK (aw _)) (Ad (ax bj (ay (qv 0) ah (λ_ _=>rfl)) aK (aw _))))) (ae (aA (dE vp hr (by lia) rfl fH (aa (qv 0) (aa (ay (qv 1) ah (λ_ _=>rfl)) (aa (ay (qv 2) (qv 3) (λ_ _=>rfl)) af)))))
  ag) ag)
  (ae (aW (ax bj (qv 4) aK (aw _)) (ae (aA (dE vn hr (by lia) rfl fH (aa (qv 0) (aa (ay (qv 1) ah (λ_ _=>rfl)) (aa (ay (qv 2) (qv 3) (λ_ _=>rfl)) af)))))
  ag) ag)
  (ae (aW (ax bj (qv 4) aK (aw _)) (ae (az (i:=5) jQ.nd rfl (Or.inr rfl) (ak pU hr (by lia) rfl (aa (qv 0) (aa (ay (qv 1) ah (λ_ _=>rfl)) af))))
  (ae (aA (cQ dJ rfl aC bE (aa (wj (own:=["name","inner"]) (cap:=[(0,"laying"),(2,"entries"),(3,"place"),(5,"offsets")]) ⟨rfl,rfl⟩ wt (cJ rfl (by decide +kernel) (by decide +kernel) rfl (⟨rfl,⟨rfl,⟨rfl,⟨rfl,trivial⟩⟩⟩⟩) rfl (⟨⟨rfl,rfl,rfl⟩,⟨⟨rfl,rfl,rfl⟩,⟨⟨rfl,rfl,rfl⟩,⟨⟨rfl,rfl,rfl⟩,trivial⟩⟩⟩⟩)) rfl (c6 (ay (qv 1) ah (λ_ _=>rfl))) (λ_ _ _ _=>(dt (n:=2) rfl (aS (aD (i:=0) (show List.Nodup (["name","inner","laying","entries","place","offsets"]:List Str)from by decide +kernel) rfl (Or.inl rfl) (Or.inr rfl)) (aS (aD (i:=1) (show List.Nodup (["name","inner","laying","entries","place","offsets"]:List Str)from by decide +kernel) rfl (Or.inl rfl) (Or.inr rfl)) cz)))) (λ_ _ _ _=>bB) (λ_ _ _ _ _ hx=>(dE dc hr (by lia) rfl hx (aa (qv 2) (aa (qv 1) (aa (qv 3) (aa (ba eE (qv 4) (Ag (acq (acN (by decide:1≤64) _) hr.units) (qv 5) (qv 0))) af))))))) af)))
  ag)) ag)
  (ae (aA (dE tj hr (by lia) rfl fH (aa (qv 0) (aa (qv 1) (aa (qv 2) (aa (qv 3) af))))))
  ag))))))),?_⟩
 simp only[a8];have q':∀{sl:List T},(es.drop pl).take (sK k)=sl→CA (fj Z) dN (λC Γ'=>∃Γ2,Le Γ2 Γ'∧Y C Γ2) Γ (Rd L k sl):=λ{sl} e=>by
  subst e;exact⟨λu r=>q.yes r .refl,λno=>q.no no .refl⟩
 have one:sK k=1→∃e,es[pl]?=some e∧(es.drop pl).take (sK k)=[e]:=λh1=>by
  exact⟨es[pl]'(by lia),aac (by lia),?_⟩;rw[h1,ac1 (by lia)];rfl
 cases k with
 |num wd=>
  rw[Kd.tr];unfold Kd.good at kg;rw[sK]at i9 q';unfold Ly.tr;left;have ec:fI es (some (pl:Int)) (some ((pl:Int)+wd))=(es.drop pl).take wd.toNat:=by
   rw[show(pl:Int)+wd=((pl+wd.toNat:Nat):Int)by lia,JQ,Nat.add_sub_cancel_left]
  rw[ec];have ll:((es.drop pl).take wd.toNat).length=wd.toNat:=by rw[aa4,abf];lia
  exact Ψ2 L _ ⟨rfl,by lia,.tup λu hu=>hi.mem (acG (acF hu)),?_⟩;rw[ll,show((wd.toNat:Nat):Int)=wd by lia];exact q' rfl
 |text=>
  rw[Kd.tr];let⟨e,he,NB⟩:=one (by rw[sK]);unfold Ly.tr;left;exact fY he ?_;left;exact Ψ2 L e ⟨rfl,hi.mem (aaj he),q' NB⟩
 |row k2=>
  rw[Kd.tr];let⟨e,he,NB⟩:=one (by rw[sK]);unfold Kd.good at kg;rw[Kd.depth]at kd sL;have WI:=hi.mem (aaj he);unfold Ly.tr;left;exact zS (i:=2) (t:=.str L.s3) rfl ?_;left;exact cD (λc=>?_) (λc=>?_)
  ·left
   exact fY he ?_;left;exact Ψ3 L k2 e ⟨rfl,kg,by lia,by lia,Jm (pD c),WI,gl,q' NB⟩
  ·left
   exact fY he ?_;left;exact Ψ3 L k2 e ⟨rfl,kg,by lia,by lia,Jl (ky c),WI,gl,q' NB⟩
 |pick fs=>
  rw[Kd.tr];rw[Kd.depth]at kd sL;rw[sK]at i9 q';left;exact Ψ4 L fs es pl ⟨by rw[Kd.tr],kg,by lia,by lia,i9,hi,gl,q' rfl⟩
 |rec_ fs=>
  have Cq:=kg;unfold Kd.good at kg;rw[Kd.depth]at kd sL;rw[sK]at i9 q;rw[Kd.tr];have pm:=cR L.na fs;have nd:=kg.2.2.2;have Gb:=gU (na:=L.na) nd;have off:∀{p:Str×Kd},p∈fs→gw (cu L.na fs) p.1+sK p.2≤sF fs:=λ{p} hp=>by
   have:=EI Gb (pm.mem_iff.mpr hp);rw[z9 pm]at this;exact this
  have rr:∀u,Rd L (.rec_ fs) ((es.drop pl).take (sF fs)) u↔_:=λu=>yG (L:=L) (u:=u) Cq (by rw[Kd.depth];lia) (by rw[aa4,abf];lia);left;exact Ψ2 L fs ⟨rfl,nd,by lia,λp hp=>⟨aO kg.1 hp,by have:p.2.depth≤aL fs:=aY hp;lia⟩,gl,λD hD=>?_⟩;left;exact zT ?_;left;exact⟨by rw[bz];exact aar (aE (by lia)),λrest τ ys Γ'=>∃(hs gs:List (Str×Kd)) (o0 o1:Option T),fs=hs++gs∧rest=ip gs∧τ=[o0,o1,some L.tr,some (.tup es),some (.int (pl:Nat)),some (.ref D)]∧ys.length=hs.length∧(∀(i:Nat) (nm:Str) (k:Kd) (t:T),hs[i]?=some (nm,k)→ys[i]?=some t→Rd L k ((es.drop (pl+gw (cu L.na fs) nm)).take (sK k)) t)∧Γ'=up Γ D (.dK ((cu L.na fs).map λp=>(.inr p.1,.int (gw (cu L.na fs) p.1:Nat)))),Ψ4 [] fs none none ⟨rfl,rfl,rfl,rfl,λi nm k t h=>by simp at h,rfl⟩,?_,?_⟩
  ·intro τ ys Γ'⟨hs,gs,o0,o1,ef,er,rfl,ly,hy,rfl⟩
   cases gs with
   |cons p r=>cases er
   |nil=>
    rw[aax]at ef;subst ef;exact⟨trivial,λD2 U0=>?_⟩;left;exact Ψ2 _ _ ⟨rfl,bh ai,?_⟩;exact q.yes ((rr _).mpr ⟨ys,rfl,ly,λi nm k t a b=>?_⟩) (.trans (.new hD) (.new U0));rw[zU (off (aaj a))];exact hy i nm k t a b
  ·intro x r τ ys Γ'⟨hs,gs,o0,o1,ef,er,rfl,ly,hy,rfl⟩
   cases gs with
   |nil=>cases er
   |cons p gs=>
    obtain⟨nm,k⟩:=p;rw[ip]at er;cases er;have mem:(nm,k)∈fs:=by rw[ef];simp
    have dk:k.depth≤aL fs:=aY mem;have ho:gw (cu L.na fs) nm+sK k≤sF fs:=off mem;exact⟨trivial,?_⟩;left;exact Ψ4 D _ (.inr nm) _ ⟨rfl,rfl,ai,Gs (pm.mem_iff.mpr mem),?_⟩;left;exact Ψ4 L k es (pl+gw (cu L.na fs) nm) ⟨by rw[ady],aO kg.1 mem,by lia,by lia,by lia,hi.le (.new hD),gl.new hD,?_⟩;exact⟨λu ru=>?_,λno=>?_⟩
    ·exact Ψ4 (hs++[(nm,k)]) gs _ _ ⟨by rw[ef];simp,rfl,rfl,by rw[aag,aag,ly];rfl,λi Cp k' t a b=>?_,rfl⟩
     by_cases ci:i<hs.length
     ·rw[aaT ci]at a
      rw[aaT (by lia)]at b;exact hy i Cp k' t a b
     ·have ei:i=hs.length:=by
       have:=(aat.mp a).1;rw[aag]at this;have:i<hs.length+1:=this;lia
      subst ei;rw[aaS (aan _),Nat.sub_self]at a;rw[aaS (by lia),show hs.length-ys.length=0 by lia]at b;cases a;cases b;exact ru
    ·exact q.no (λu r=>?_) (.new hD)
     let⟨ts,rfl,lt,ht⟩:=(rr u).mp r;obtain⟨i,Mp,ei⟩:=abD mem;have:=ht i nm k _ (by rw[aac Mp,ei]) (aac (by lia));rw[zU ho]at this;exact no _ this
end
theorem tu:bootBuiltins "ValueError" = some (.type "ValueError"):=by decide +kernel
section
variable {dG d1 d2 d3 d4 d5 d6 d7 d8 d9 d10 d11:Addr}
theorem tN{f2 f3 f4:Addr}{MG MF ME:FuncData}(F:dP K "worth_at" "worth_at" ji f fd)(m:mg "worth_at" = some (.ref f))(kp:W.keepIn K (.ref f)=true)(b:Binds K fd ["laying","kind","entries","place"] [])
  (nH:dP K "array_read" "array_read" gn f2 MG) (mW:mg "array_read" = some (.ref f2)) (kZ:W.keepIn K (.ref f2)=true) (nD:Binds K MG ["laying","kind","block"] [])
  (nG:dP K "chain_read" "chain_read" gj f3 MF) (mV:mg "chain_read" = some (.ref f3)) (kY:W.keepIn K (.ref f3)=true) (nB:Binds K MF ["laying","kind","entry"] [])
  (lB:dP K "choice_read" "choice_read" fA f4 ME) (kW:mg "choice_read" = some (.ref f4)) (kf:W.keepIn K (.ref f4)=true) (lx:Binds K ME ["laying","kind","entries","place"] [])
  (C1:b9 P w K mg am "is_word" 2 ["thing"] qw) (C2:b9 P w K mg am "in_order" 6 ["laying","fields"] (yy pT)) (C3:b9 P w K mg am "size_of" 6 ["kind"] (pJ 6)) (C4:vG P w K mg am "number_read" 3 ["halves","words"] (KS dN)) (C5:vG P w K mg am "text_read" 3 ["texts","block"] (KN dN)) (C6:b9 P w K mg am "field_offsets" 7 ["laying","fields"] (KR pT))
  (aJ:mg "NoPicture" = some (.ref dN)) (a9:W.excIn K dN [.type "ValueError",.type "Exception",.type "BaseException",.type "object"] "ValueError.__new__" = true) (cg:mg "MOST_ITEMS" = some v1) (c8:fz v1 (.int 60)) (aj:mg "isinstance" = none) (aC:mg "tuple" = none) (aU:mg "len" = none) (aT:mg "range" = none) (dz:mg "all" = none) :
  ∀n:Nat,vG P w K mg am "worth_at" (n+n+8) ["laying","kind","entries","place"] (yv pT dN n)
 |0=>Ψ2 f fd ⟨HM λts Γ Z Y h=>by obtain⟨_,k,_,_,_,_,h,_⟩:=h;lia,m,kp,b⟩
 |n+1=>by
  have ih:=tN F m kp b nH mW kZ nD nG mV kY nB lB kW kf lx C1 C2 C3 C4 C5 C6 aJ a9 cg c8 aj aC aU aT dz n;have D1:vG P w K mg am "array_read" (n+n+8+1) ["laying","kind","block"] (K4 pT dN n):=Ψ2 f2 MG ⟨sJ nH aJ a9 ih C1 C3 (by lia) cg c8 aj aC aU aT,mW,kZ,nD⟩;have D2:vG P w K mg am "chain_read" (n+n+8+1) ["laying","kind","entry"] (K0 pT dN n):=Ψ2 f3 MF ⟨sI nG aJ a9 ih C1 C3 (by lia) cg c8 aj aC aU,mV,kY,nB⟩;have D3:vG P w K mg am "choice_read" (n+n+8+1) ["laying","kind","entries","place"] (K1 pT dN n):=Ψ2 f4 ME ⟨qV lB aJ a9 ih C1 C3 C2 (by lia) aU dz,kW,kf,lx⟩;exact Ψ2 f fd ⟨by rw[show n+1+(n+1)+8=n+n+8+1+1 by lia];exact wz F ih C4 C5 D1 D2 D3 C6 (by lia) aC,m,kp,b⟩
abbrev jk:Stmt:=top 40
theorem sA:aF ["laying","kind","thing"] ["laying","kind","thing"] (av jk):=Skk
def Vr(L:Ly)(k:Kd)(t u:T):Prop:=∃es,t=.tup es∧Rd L k es u
def OO(pT dN:Addr):fk:=λts Γ Z Y=>∃(L:Ly) (k:Kd) (t:T),ts=[L.tr,k.tr,t]∧k.good∧k.depth≤5∧In Γ t∧eL pT Γ∧CA Z dN Y Γ (Vr L k t)
theorem sH(F:dP K "of_picture" "of_picture" jk f fd)(aJ:mg "NoPicture" = some (.ref dN))(a9:W.excIn K dN [.type "ValueError",.type "Exception",.type "BaseException",.type "object"] "ValueError.__new__" = true)(dc:vG P w K mg am "worth_at" 20 ["laying","kind","entries","place"] (yv pT dN 6))(bM:b9 P w K mg am "size_of" 6 ["kind"] (pJ 6))(aj:mg "isinstance" = none)(aC:mg "tuple" = none)(aU:mg "len" = none):bq P w K mg am (qf P w) 21 f fd ["laying","kind","thing"] (cj (OO pT dN)):=by
 exact yU F sA (λts Γ Z Y h=>?_) (λcy A outer s H E ts Γ Z Y hr h=>?_)
 ·let⟨L,k,t,rfl,_⟩:=h
  rfl
 let⟨L,k,t,rfl,kg,kd,hi,gl,q⟩:=h;exact⟨_,(ae (aW (PW.pt (cZ (cE (br (cb rfl aj rfl aC bE (qv 2)))) (cO (ax iW (aH cF rfl aU aaD (aa (qv 2) af)) (ak bM hr (by lia) rfl (aa (qv 1) af)) (aw _))))) (ae (dD rfl rfl aJ a9 aaN (aa aK af) cN)
  ag) ag)
  (ae (aA (dE dc hr (by lia) rfl fH (aa (qv 0) (aa (qv 1) (aa (qv 2) (aa ah af))))))
  ag)),?_⟩
 simp only[a8];left;obtain⟨nn,c,e1,e2,h|h⟩:=hi.RE (K:=K)
 ·let⟨rfl,⟨es,rfl⟩⟩:=h
  exact Ψ2 nn true ⟨e1,e2,?_⟩;left;exact⟨k,rfl,kg,by lia,?_⟩;left;exact cD (λc=>?_) (λc=>?_)
  ·left
   exact q.no (λu r=>?_) .refl;obtain⟨QH,e,r⟩:=r;cases e;exact Nh c (by rw[DS kg kd r])
  ·have c:=Ni c
   left;exact Ψ4 L k es 0 ⟨rfl,kg,by lia,kd,by lia,hi,gl,?_⟩;rw[abC,aa3 (by lia)];exact⟨λu r=>q.yes ⟨es,rfl,r⟩ .refl,λno=>q.no (λu r=>by obtain⟨QH,e,r⟩:=r;cases e;exact no u r) .refl⟩
 ·obtain⟨rfl,h⟩:=h
  exact Ψ2 nn false ⟨e1,e2,by left;exact q.no (λu r=>by let⟨es,e,_⟩:=r;exact h _ e) .refl⟩
abbrev jW:Stmt:=top 66
theorem dS:aF ["laying","kind","thing","caught","found","e"] ["laying","kind","thing"] (av jW):=Skk
def DF(pT:Addr):fk:=λts Γ Z _=>∃(L:Ly) (k:Kd) (t:T),ts=[L.tr,k.tr,t]∧k.good∧k.depth≤5∧In Γ t∧eL pT Γ∧(∀u,Vr L k t u→∀p,Γ p=none→Z (.ref p) (up Γ p (.lst [u])))∧((∀u,¬Vr L k t u)→∀p,Γ p=none→Z (.ref p) (up Γ p (.lst [])))
theorem PU{o:O}(l:Le Γ Γ'):Le (up Γ p o) (up Γ' p o):=λb v h=>by
 by_cases e:b=p
 ·subst e
  rw[ai]at h ⊢;exact h
 ·rw[bb e]at h ⊢
  exact l b v h
theorem EG(F:dP K "_law_asked" "_law_asked" jW f fd)(vj:vG P w K mg am "of_picture" 21 ["laying","kind","thing"] (OO pT dN))(kc:mg "GateError" = some (.ref dG))(aJ:mg "NoPicture" = some (.ref dN))(za:mg "Full" = some (.ref d1))(oJ:mg "NoBlock" = some (.ref d2))(rh:mg "NoDoor" = some (.ref d3))(rf:mg "NoPart" = some (.ref d4))(j8:mg "NoProgram" = some (.ref d5))(rd:mg "NoRoom" = some (.ref d6))(qZ:mg "NoText" = some (.ref d7))(oI:mg "NoThing" = some (.ref d8))(qY:mg "NoWord" = some (.ref d9))(lX:mg "NoWorths" = some (.ref d10))(j7:mg "WrongHand" = some (.ref d11))(xm:W.exmOne K (.ref dN) (.ref dG)=some true)(ka:W.kitAny K (.ref dN) [.ref d1,.ref d2,.ref d3,.ref d4,.ref d5,.ref d6,.ref d7,.ref d8]=some false)(kb:W.kitAny K (.ref dN) [.ref d9,.ref d10,.ref d11]=some false)(kn:W.kitOne K (.ref dN) (.ref dN)=some true)(kv:W.kitOne K (.ref dN) (.type "ValueError")=some true)(ex:Ck K dN)(aj:mg "isinstance" = none)(jd:mg "ValueError" = none):bq P w K mg am fE 22 f fd ["laying","kind","thing"] (cj (DF pT)):=by
 exact kL F dS (λts Γ Z Y h=>?_) (λcy A outer s H E ts Γ Z Y hr h=>?_)
 ·let⟨L,k,t,rfl,_⟩:=h
  rfl
 let⟨L,k,t,rfl,kg,kd,hi,gl,q,qE⟩:=h;exact⟨_,(ae (az (i:=3) dS.nd rfl (Or.inl rfl) gP)
  (ae (az (i:=4) dS.nd rfl (Or.inl rfl) gP)
  (ae (Lh (j:=5) rfl rfl rfl kc dS.nd rfl rfl (λ_ _ _ hx=>(ae (az (i:=4) dS.nd rfl (Or.inl rfl) (dE vj hr (by lia) rfl hx (aa (qv 0) (aa (qv 1) (aa (qv 2) af)))))
  ag)) (λ_=>(ae (az (i:=3) dS.nd rfl (Or.inl rfl) (qv 5))
  ag)))
  (ae (aW (ax yS (qv 3) gP (aw _)) (ae (aA (bF (aa (qv 4) af)))
  ag) ag)
  (ae (aW (br (aH t7 rfl aj abB (aa (qv 3) (aa (bP (aa (bX rfl za fV) (aa (bX rfl oJ fV) (aa (bX rfl rh fV) (aa (bX rfl rf fV) (aa (bX rfl j8 fV) (aa (bX rfl rd fV) (aa (bX rfl qZ fV) (aa (bX rfl oI fV) af))))))))) af)))) (ae (aA gP)
  ag) ag)
  (ae (aW (PW.pt (cZ (br (aH t7 rfl aj abB (aa (qv 3) (aa (bP (aa (bX rfl qY fV) (aa (bX rfl lX fV) (aa (bX rfl j7 fV) af)))) af)))) (cO (cE (br (aH xD rfl aj abB (aa (qv 3) (aa (G7 rfl jd tu rfl (by decide) (by decide)) af)))))))) (ae (aA gP)
  ag) ag)
  (ae (aW (br (aH xD rfl aj abB (aa (qv 3) (aa (bX rfl aJ fV) af)))) (ae (aA (bF af))
  ag) ag)
  (ae (aA gP)
  ag)))))))),?_⟩
 simp only[a8];left;exact Ψ3 L k t ⟨rfl,kg,kd,hi,gl,λu r=>?_,λno=>?_⟩
 ·left
  intro p hp;left;exact aZ .refl (q u r p hp)
 ·exact⟨xm,λx hx=>?_⟩
  left;exact Ψ5 x dN _ _ false ⟨rfl,rfl,ex,ai,ka,?_⟩;left;exact Ψ5 x dN _ _ false ⟨rfl,rfl,ex,ai,kb,?_⟩;left;exact Ψ5 x dN _ _ true ⟨rfl,rfl,ex,ai,kv,?_⟩;left;exact Ψ5 x dN _ _ true ⟨rfl,rfl,ex,ai,kn,?_⟩;left;intro p hp;left;have xc:Γ p=none:=by rw[bb (nQ ai hp).symm]at hp;exact hp
  exact aZ (PU (.new hx)) (qE no p xc)
end
def A9(M:Nat)(xs:List T):Prop:=∀(i:Nat) (y:T),xs[i]?=some y→i+1+sy y≤M
theorem A9.one(x:T):A9 (1+sy x) [x]:=λi y h=>by
 cases i with
 |zero=>cases h;lia
 |succ i=>simp at h
theorem A9.pre(h:A9 M (ys++[y])):A9 M ys:=λi z hz=>h i z (by rw[aaT (aat.mp hz).1];exact hz)
theorem A9.len(h:A9 M (ys++[.tup us])):ys.length+us.length+1≤M:=by
 have:=h ys.length (.tup us) (by simp);rw[jh]at this;lia
theorem A9.push(h:A9 M (ys++[.tup us])):A9 M (ys++us):=λi z hz=>by
 by_cases c:i<ys.length
 ·rw[aaT c]at hz
  exact h.pre i z hz
 ·rw[aaS (by lia)]at hz
  have h1:=h ys.length (.tup us) (by simp);rw[jh]at h1;have h2:=DI (aaj hz);have h3:=(aat.mp hz).1;lia
section
abbrev lJ:Stmt:=top 65
theorem ir:aF ["found","due","left","one","other"] ["found","due"] (av lJ):=Skk
def yw:fk:=λts Γ Z _=>∃x y:T,ts=[x,y]∧Pl x∧Pl y∧sy y<sizeLine∧Z (.bl (eqT x y)) Γ
def Ak(p:T×T):T:=.tup [p.1,p.2]
theorem vI:∀as bs:List T,fK as bs=(as.zip bs).map Ak
 |[],_=>by rw[List.zip_nil_left];rfl
 |_::_,[]=>rfl
 |a::as,b::bs=>by rw[Bf,vI as bs];rfl
theorem ye:∀{as bs:List T},as.length=bs.length→(as=bs↔∀p∈as.zip bs,p.1=p.2)
 |[],[],_=>⟨λ_ p h=>(by cases h),λ_=>rfl⟩
 |a::as,b::bs,l=>by
  have ih:=ye (as:=as) (bs:=bs) (by simpa using l);rw[adL];constructor
  ·intro e p hp
   let⟨e1,e2⟩:=aa0 e;rcases aah.mp hp with rfl|hp
   ·exact e1
   ·exact ih.mp e2 p hp
  ·intro h
   rw[ih.mpr λp hp=>h p (by simp[hp]),show a=b from h (a,b) (by simp)]
 |[],_::_,l=>by cases l
 |_::_,[],l=>by cases l
theorem E8{a:Prop}{qs:List (T×T)}{p:T×T}(h:a↔∀q∈qs++[p],q.1=q.2):(p.1=p.2→(a↔∀q∈qs,q.1=q.2))∧(p.1≠p.2→¬a):=by
 exact⟨λe=>h.trans ⟨λz q hq=>z q (by simp[hq]),λz q hq=>?_⟩,λn z=>n (h.mp z p (by simp))⟩;rcases aaX.mp hq with hq|hq
 ·exact z q hq
 ·rw[aav.mp hq];exact e
theorem HC(F:dP K "_law_same" "_law_same" lJ f fd)(aj:mg "isinstance" = none)(aC:mg "tuple" = none)(il:mg "str" = none)(mD:mg "int" = none)(jb:mg "bool" = none)(aU:mg "len" = none)(yf:mg "list" = none)(gG:mg "zip" = none):bq P w K mg am fE 1 f fd ["found","due"] (cj yw):=by
 exact kL F ir (λts Γ Z Y h=>?_) (λcy A outer s H E ts Γ Z Y hr h=>?_)
 ·let⟨x,y,rfl,_⟩:=h
  rfl
 let⟨x,x2,rfl,px,X5,sx,q⟩:=h;exact⟨_,(ae (az (i:=2) ir.nd rfl (Or.inl rfl) (bF (aa (bP (aa (qv 0) (aa (qv 1) af))) af)))
  (ae (wg aa6 (ax (Er hr.lC) (qv 2) (bF af) (aw _)) (ae (lR (Lm aaI PySem.F.slot_list_pop PySem.F.type_list_pop LW (qv 2)) (dt (n:=2) rfl (aS (aD (i:=3) ir.nd rfl (Or.inl rfl)) (aS (aD (i:=4) ir.nd rfl (Or.inl rfl)) cz))))
  (ae (fu (aW (br (cb rfl aj rfl aC bE (qv 4))) (ae (aW (PW.pt (cZ (cE (br (cb rfl aj rfl aC bE (qv 3)))) (cO (ax iW (aH cF rfl aU aaD (aa (qv 3) af)) (aH cF rfl aU aaD (aa (qv 4) af)) (aw _))))) (ae (aA iy)
  ag) ag)
  (ae (jt (jY aaI PySem.F.slot_list_extend PySem.F.type_list_extend BG (qv 2) (aa (yJ rfl rfl yf rfl gG (aa (qv 3) (aa (qv 4) af))) af)))
  ag)) (ae (fu (aW (br (cb rfl aj rfl il rW (qv 4))) (ae (aW (PW.pt (cZ (cE (br (cb rfl aj rfl il rW (qv 3)))) (cO (ax iW (qv 3) (qv 4) (aw _))))) (ae (aA iy)
  ag) ag)
  ag) (ae (aW (PW.pt (cZ (cE (br (cb rfl aj rfl mD zG (qv 3)))) (cZ (br (cb rfl aj rfl jb vq (qv 3))) (cO (ax iW (qv 3) (qv 4) (aw _)))))) (ae (aA iy)
  ag) ag)
  ag)))
  ag)))
  ag)))
  (ae (aA iy)
  ag))),?_⟩
 simp only[a8];left;intro L hL;exact⟨λm τ Γ'=>∃(xs:List (T×T)) (o3 o4:Option T),τ=[some x,some x2,some (.ref L),o3,o4]∧Γ' L=some (.lst (xs.map Ak))∧(∀y∈xs,Pl y.1∧Pl y.2)∧jH (xs.map Prod.snd)=m∧A9 (1+sy x2) (xs.map Prod.snd)∧(x=x2↔∀p∈xs,p.1=p.2)∧Le Γ Γ',Ψ4 (jH [x2]) [(x,x2)] none none ⟨rfl,ai,λy hy=>by rw[aav.mp hy];exact⟨px,X5⟩,rfl,A9.one x2,⟨λe p hp=>by rw[aav.mp hp];exact e,λh=>h (x,x2) (by simp)⟩,.new hL⟩,?_⟩;intro m τ Γ1⟨xs,o3,o4,rfl,gL,hp,hm,ml,hx,le⟩;left;intro p Gh;have RZ:(up Γ1 p (.lst [])) L=some (.lst (xs.map Ak)):=by rw[bb (nQ gL Gh)];exact gL
 exact Ψ3 L p _ ⟨rfl,rfl,RZ,ai,?_⟩;have T6:Le Γ (up Γ1 p (.lst [])):=le.trans (.new Gh);generalize up Γ1 p (.lst [])=Γ2 at RZ T6 ⊢;rcases adv xs with rfl|⟨ys,y,ey⟩
 ·left
  rw[fB.mpr (hx.mpr λp hp=>by cases hp)]at q;exact aZ T6 q
 ·rw[adx]at ey
  subst ey;left;exact xS (by simp) ?_;obtain⟨y1,y2⟩:=y;let⟨ie,Wn⟩:=E8 hx;dsimp only at ie Wn;exact⟨λτ' Γ'=>∃m',m' < m∧∃(xs:List (T×T)) (o3 o4:Option T),τ'=[some x,some x2,some (.ref L),o3,o4]∧Γ' L=some (.lst (xs.map Ak))∧(∀y∈xs,Pl y.1∧Pl y.2)∧jH (xs.map Prod.snd)=m'∧A9 (1+sy x2) (xs.map Prod.snd)∧(x=x2↔∀p∈xs,p.1=p.2)∧Le Γ Γ',λ_ _ h=>h,?_⟩;left;exact iS RZ ?_;exact Ψ3 L _ (.tup [y1,y2]) ⟨rfl,rfl,RZ,by simp[Ak],?_⟩;have dl:((ys++[(y1,y2)]).map Ak).dropLast=ys.map Ak:=by simp
  simp only[dl];rw[aaf,qo,aam,abJ,jH,jH,Nat.add_zero]at hm;rw[aaf,aam,abJ]at ml;dsimp only at hm ml;have py:=hp (y1,y2) (by simp);have pos:=zR y2;have AA:Le Γ (up Γ2 L (.lst (ys.map Ak))):=λb o g=>by
   have:b≠L:=nQ g hL;rw[bb this];exact T6 b o g
  have fin:y1=y2→∃m',m' < m∧∃(xs:List (T×T)) (o3 o4:Option T),[some x,some x2,some (.ref L),some y1,some y2]=[some x,some x2,some (.ref L),o3,o4]∧(up Γ2 L (.lst (ys.map Ak))) L=some (.lst (xs.map Ak))∧(∀y∈xs,Pl y.1∧Pl y.2)∧jH (xs.map Prod.snd)=m'∧A9 (1+sy x2) (xs.map Prod.snd)∧(x=x2↔∀p∈xs,p.1=p.2)∧Le Γ (up Γ2 L (.lst (ys.map Ak))):=λe=>
   ⟨jH (ys.map Prod.snd),by lia,ys,_,_,rfl,ai,λz hz=>hp z (by simp[hz]),rfl,ml.pre,ie e,AA⟩
  have bad:y1≠y2→Z (.bl false) Γ:=λn=>by
   have:=fi (t:=x) (u:=x2) (b:=false) ⟨λh=>(by cases h),λh=>absurd h (Wn n)⟩;rwa[this]at q
  let⟨Rz,VT⟩:=py;dsimp only at Rz VT;left;exact iB ?_;left;cases VT with
  |int i=>
   exact Ψ2 _ false ⟨rfl,rfl,?_⟩;left;exact iB ?_;left;exact Ψ2 _ false ⟨rfl,rfl,?_⟩;left;cases Rz with
   |int i2=>
    exact Ψ2 _ true ⟨rfl,rfl,?_⟩;left;exact Ψ2 _ false ⟨rfl,rfl,?_⟩;left;exact cD (λc=>?_) (λc=>?_)
    ·left
     exact aZ AA (bad λe=>by cases e;simp at c)
    ·left
     exact fin (abc T.int (by simpa using c))
   |str=>
    exact Ψ2 _ false ⟨rfl,rfl,?_⟩;left;exact aZ AA (bad λe=>by cases e)
   |@tup us hu=>
    exact Ψ2 _ false ⟨rfl,rfl,?_⟩;left;exact aZ AA (bad λe=>by cases e)
  |@str z=>
   exact Ψ2 _ false ⟨rfl,rfl,?_⟩;left;exact iB ?_;left;exact Ψ2 _ true ⟨rfl,rfl,?_⟩;left;cases Rz with
   |int i2=>
    exact Ψ2 _ false ⟨rfl,rfl,?_⟩;left;exact aZ AA (bad λe=>by cases e)
   |@str z2=>
    exact Ψ2 _ true ⟨rfl,rfl,?_⟩;left;exact cD (λc=>?_) (λc=>?_)
    ·left
     exact aZ AA (bad λe=>by cases e;simp at c)
    ·left
     exact fin (abc T.str (by simpa using c))
   |@tup us hu=>
    exact Ψ2 _ false ⟨rfl,rfl,?_⟩;left;exact aZ AA (bad λe=>by cases e)
  |@tup us hu=>
   exact Ψ2 _ true ⟨rfl,rfl,?_⟩;left;cases Rz with
   |int i2=>
    exact Ψ2 _ false ⟨rfl,rfl,?_⟩;left;exact aZ AA (bad λe=>by cases e)
   |str=>
    exact Ψ2 _ false ⟨rfl,rfl,?_⟩;left;exact aZ AA (bad λe=>by cases e)
   |@tup vs hv=>
    exact Ψ2 _ true ⟨rfl,rfl,?_⟩;left;exact cD (λc=>?_) (λc=>?_)
    ·left
     exact aZ AA (bad λe=>by cases e;simp at c)
    left;have lv:vs.length=us.length:=by
     have:(vs.length:Int)=us.length:=by simpa using c
     lia
    exact iS ai ?_;left;exact⟨lv,λp2 m5=>?_⟩;rw[vI];rw[Rt]at hm;have l1:=qm (ys.map Prod.snd);have l2:=qm us;have Zv:(up (up Γ2 L (.lst (ys.map Ak))) p2 (.lst ((vs.zip us).map Ak))) L=some (.lst (ys.map Ak)):=by rw[bb (nQ ai m5)];exact ai
    have zs:(vs.zip us).map Prod.snd=us:=List.map_snd_zip (by lia);have zl:(vs.zip us).length=us.length:=by rw[List.length_zip];lia
    exact Ψ4 L p2 _ _ ⟨rfl,rfl,Zv,ai,by rw[aae,aae,zl];have:=ml.len;rw[aae]at this;lia,?_⟩;exact⟨jH ((ys++vs.zip us).map Prod.snd),by rw[aaf,zs,qo];lia,ys++vs.zip us,_,_,rfl,by rw[ai,aaf],λz hz=>?_,rfl,by rw[aaf,zs];exact ml.push,?_,λb o g=>?_⟩
    ·rcases aaX.mp hz with h|h
     ·exact hp z (by simp[h])
     ·exact⟨hv _ (abR (a:=z.1) (b:=z.2) h).1,hu _ (abR (a:=z.1) (b:=z.2) h).2⟩
    ·exact hx.trans ⟨λh r hr=>?_,λh r hr=>?_⟩
     ·rcases aaX.mp hr with hr|hr
      ·exact h r (by simp[hr])
      ·exact(ye lv).mp (T.tup.inj (h (.tup vs,.tup us) (by simp))) r hr
     ·rcases aaX.mp hr with hr|hr
      ·exact h r (by simp[hr])
      ·rw[aav.mp hr]
       show T.tup vs=T.tup us
       rw[(ye lv).mpr λr hr=>h r (by simp[hr])]
    ·have:b≠L:=nQ g hL
     rw[bb this];exact(AA.trans (.new m5)) b o g
def OT(K:W.Frag):fk:=λts Γ Z _=>∃(a:Addr) (ns:List Int) (k:Int),ts=[.scr K a (ns.map T.int),.int k]∧0≤k∧∀c:Int,Z (.int c) Γ
theorem ED(F:dP K "_law_cell_at" "_law_cell_at" iM f fd)(aU:mg "len" = none):bq P w K mg am fE 1 f fd ["script","k"] (cj (OT K)):=by
 exact kL F qD (λts Γ Z Y h=>?_) (λcy A outer s H E ts Γ Z Y hr h=>?_)
 ·let⟨a,ns,k,rfl,_⟩:=h
  rfl
 let⟨a,ns,k,rfl,k0,q⟩:=h;exact⟨_,(ae (aW (ax Au (qv 1) (aH AS rfl aU aaD (aa (qv 0) af)) (aw _)) (ae (aA (Ll (qv 0) (qv 1) (λ_ _=>rfl)))
  ag) ag)
  (ae (aA ah)
  ag)),?_⟩
 simp only[a8];left;exact Ψ2 a _ ⟨rfl,?_⟩;left;exact cD (λc=>?_) (λc=>?_)
 ·have c:=aaU c
  rw[aae]at c;left;obtain⟨j,rfl⟩:∃j:Nat,k=j:=⟨k.toNat,by lia⟩;have hk:j<ns.length:=by lia
  have e:kH (ns.map T.int) (j:Int)=some (.int ns[j]):=cA (by simp[hk]);exact Ψ4 a _ _ _ ⟨rfl,rfl,e,?_⟩;exact aZ .refl (q _)
 ·left
  exact aZ .refl (q _)
def OS:fk:=λts Γ Z _=>∃c:Int,ts=[.int c]∧∀(a:Addr) (Γ':Gp),Γ a=none→aM Γ' a→Fr [a] Γ Γ'→Z (.ref a) Γ'
theorem II{k:Nat}(c:Callee P w K mg am "_law_flow" k ["cell"] DE):b9 P w K mg am "_law_flow" k ["cell"] OS:=
 c.imp λvs H Q E ⟨ts,Γ,Z,Y,r,hr,⟨c,e,q⟩,vr,xr⟩=>by
  subst e;let⟨v,rfl,r1⟩:=sD r;exact⟨c,by rw[bG r1],λa H' ha sm fl=>?_⟩;let⟨f0,f1,f2,e',b'⟩:=fl;have g:=hr.free ha;have tq:Tq H H':=dA sm;exact vr _ _ H' (up Γ a (.lst [.int f0,.int f1,.int f2])) ⟨tq,λx h z=>?_,λx h g'=>?_,λx o h _=>sm x o h⟩ (λx o g'=>?_) jG (q a _ g ⟨f0,f1,f2,ai,b'⟩ (Fr.set (by simp) _))
  ·cases e:H x with
   |none=>exact h e
   |some o=>exact(by rw[sm x o e]at z;cases z)
  ·have:x≠a:=λz=>h (by rw[z];exact ha)
   rw[bb this];exact g'
  ·by_cases z:x=a
   ·subst z;rw[ai]at g';cases g';exact⟨_,e',eO [f0,f1,f2]⟩
   ·rw[bb z]at g';exact(hr x o g').mono tq (sm x)
theorem EO{ps:List Str}{sp:Sp}{k:Nat}(no:∀vs H Q E,¬sp vs H Q E):bq P w K mg am fE k f fd ps sp:=
 ⟨λvs H Q E h=>absurd h (no vs H Q E),λA outer s H args us vs Q E _ _ _ _ h=>absurd h (no vs H Q E)⟩
theorem kind_all(F:dP K "_law_kind" "_law_kind" jq f fd)(m:mg "_law_kind" = some (.ref f))(kp:W.keepIn K (.ref f)=true)(b:Binds K fd ["flow","depth","room"] [])
  (C4:Callee P w K mg am "_law_draw" 1 ["flow","many"] qx) (C5:Callee P w K mg am "_law_name" 2 ["flow","taken"] uq) (aT:mg "range" = none) (aC:mg "tuple" = none) :
  ∀n:Nat,Callee P w K mg am "_law_kind" (2+n) ["flow","depth","room"] (ur n)
 |0=>Ψ2 f fd ⟨EO λvs H Q E h=>by let⟨_,_,d,_,_,_,h1,h2,_⟩:=h;have h3:d<0:=h2;lia,m,kp,b⟩
 |n+1=>Ψ2 f fd ⟨HI F C4 C5 (kind_all F m kp b C4 C5 aT aC n) aT aC,m,kp,b⟩
theorem rk(F:dP K "_law_leaves" "_law_leaves" gi f fd)(m:mg "_law_leaves" = some (.ref f))(kp:W.keepIn K (.ref f)=true)(b:Binds K fd ["kind"] [])(jD:mg "sum" = none):
  ∀n:Nat,b9 P w K mg am "_law_leaves" n ["kind"] (DC n)
 |0=>Ψ2 f fd ⟨HM λts Γ Z Y h=>by obtain⟨k,_,_,h,_⟩:=h;lia,m,kp,b⟩
 |n+1=>Ψ2 f fd ⟨By F (rk F m kp b jD n) jD,m,kp,b⟩
theorem tE(F:dP K "_law_worth" "_law_worth" iw f fd)(m:mg "_law_worth" = some (.ref f))(kp:W.keepIn K (.ref f)=true)(b:Binds K fd ["flow","kind","room"] [])
  (C1:b9 P w K mg am "_law_draw" 1 ["flow","many"] qy) (C2:b9 P w K mg am "_law_number" 2 ["flow","width"] KU)
  (C3:b9 P w K mg am "_law_many" 2 ["flow"] KW) (C4:b9 P w K mg am "_law_sign" 2 ["flow"] KO) (C5:b9 P w K mg am "_law_leaves" 13 ["kind"] (DC 13))
  (kR:mg "min" = none) (eA:mg "max" = none) (aT:mg "range" = none) (aC:mg "tuple" = none) (aU:mg "len" = none) :
  ∀n:Nat,b9 P w K mg am "_law_worth" (17+n) ["flow","kind","room"] (Bl n)
 |0=>Ψ2 f fd ⟨HM λts Γ Z Y h=>by obtain⟨_,_,k,_,_,_,_,h,_⟩:=h;lia,m,kp,b⟩
 |n+1=>Ψ2 f fd ⟨Ez F (tE F m kp b C1 C2 C3 C4 C5 kR eA aT aC aU n) C1 C2 C3 C4 (C5.mono (aaG (by decide:13≤17) (acC _ _))) (aaG (by decide:2≤17) (acC _ _)) kR eA aT aC aU,m,kp,b⟩
theorem qz(F:dP K "size_of" "size_of" kD f fd)(m:mg "size_of" = some (.ref f))(kp:W.keepIn K (.ref f)=true)(b:Binds K fd ["kind"] [])(jD:mg "sum" = none)(eA:mg "max" = none):
  ∀n:Nat,b9 P w K mg am "size_of" n ["kind"] (pJ n)
 |0=>Ψ2 f fd ⟨HM λts Γ Z Y h=>by obtain⟨k,_,_,h,_⟩:=h;lia,m,kp,b⟩
 |n+1=>Ψ2 f fd ⟨yV F (qz F m kp b jD eA n) jD eA,m,kp,b⟩
theorem ph{f2 f3 f4:Addr}{MG MF ME:FuncData}(F:dP K "picture" "picture" kE f fd)(m:mg "picture" = some (.ref f))(kp:W.keepIn K (.ref f)=true)(b:Binds K fd ["laying","kind","worth"] [])
  (pI:dP K "row_entry" "row_entry" iu f2 MG) (pA:mg "row_entry" = some (.ref f2)) (mZ:W.keepIn K (.ref f2)=true) (pE:Binds K MG ["laying","kind","items"] [])
  (i7:dP K "record_picture" "record_picture" dU f3 MF) (iY:mg "record_picture" = some (.ref f3)) (iC:W.keepIn K (.ref f3)=true) (i5:Binds K MF ["laying","fields","parts"] [])
  (i8:dP K "choice_picture" "choice_picture" dW f4 ME) (iZ:mg "choice_picture" = some (.ref f4)) (iD:W.keepIn K (.ref f4)=true) (i6:Binds K ME ["laying","kind","pair"] [])
  (C1:b9 P w K mg am "joined" 1 ["pictures"] GI) (C2:b9 P w K mg am "in_order" 6 ["laying","fields"] (yy pT)) (C3:b9 P w K mg am "size_of" 6 ["kind"] (pJ 6)) (C4:b9 P w K mg am "words_of_number" 1 ["halves","width","number"] KL) (C5:b9 P w K mg am "words_of_text" 1 ["texts","text"] KJ)
  (aU:mg "len" = none) (ft:mg "reversed" = none) (gG:mg "zip" = none) :
  ∀n:Nat,b9 P w K mg am "picture" (n+n+6) ["laying","kind","worth"] (yx pT n)
 |0=>Ψ2 f fd ⟨HM λts Γ Z Y h=>by obtain⟨_,k,_,_,_,h,_⟩:=h;lia,m,kp,b⟩
 |n+1=>by
  have ih:=ph F m kp b pI pA mZ pE i7 iY iC i5 i8 iZ iD i6 C1 C2 C3 C4 C5 aU ft gG n;have D1:b9 P w K mg am "row_entry" (n+n+6+1) ["laying","kind","items"] (KP pT n):=Ψ2 f2 MG ⟨uN pI ih C1 (by lia) aU ft,pA,mZ,pE⟩;have D2:b9 P w K mg am "record_picture" (n+n+6+1) ["laying","fields","parts"] (KQ pT n):=Ψ2 f3 MF ⟨mS i7 ih C1 C2 (by lia) gG,iY,iC,i5⟩;have D3:b9 P w K mg am "choice_picture" (n+n+6+1) ["laying","kind","pair"] (K2 pT n):=Ψ2 f4 ME ⟨mT i8 ih C3 C2 (by lia) aU,iZ,iD,i6⟩;exact Ψ2 f fd ⟨by rw[show n+1+(n+1)+6=n+n+6+1+1 by lia];exact wA F D1 D2 D3 C4 C5,m,kp,b⟩
end
theorem eL.fr(g:eL pT Γ)(fl:aM Γ a)(k:Fr [a] Γ Γ'):eL pT Γ':=by
 let⟨f0,f1,f2,e,_⟩:=fl;show Γ' pT=_
 rw[k pT (by intro z;rw[aav.mp z]at g;have g:Γ a=_:=g;rw[e]at g;cases g)];exact g
theorem eL.fresh(g:eL pT Γ)(h:Γ a=none)(k:Fr [a] Γ Γ'):eL pT Γ':=by
 show Γ' pT=_
 rw[k pT (by intro z;rw[aav.mp z]at g;have g:Γ a=_:=g;rw[h]at g;cases g)];exact g
theorem GO:∀c:Nat,c<128→(!(Builtin.Str.occurrences jP ⟨#[c]⟩ 0 jP.length 1).isEmpty)=vC c:=by
 decide +kernel
theorem qd(n:Nat):(List.replicate n true).all id=true:=by rw[List.all_replicate];cases n<;>rfl
theorem QY{m:Str}:∀{fs:List (Str×Kd)},m∉fs.map (·.1)→(fs.filter λp=>decide (p.1=m)).length=0
 |[],_=>rfl
 |(n,k)::fs,h=>by
  rw[aam,aah,not_or]at h;rw[ade (by simpa using λe=>h.1 e.symm)];exact QY h.2
theorem QX{m:Str}:∀{fs:List (Str×Kd)} {j:Nat} {k:Kd},(fs.map (·.1)).Nodup→fs[j]?=some (m,k)→(fs.filter λp=>decide (p.1=m)).length=1
 |[],_,_,_,h=>by simp at h
 |(n,q)::fs,j,k,nd,h=>by
  rw[aam,abe]at nd;cases j with
  |zero=>
   cases h;rw[aeo (by simp),aap,QY nd.1]
  |succ j=>
   have h:fs[j]?=some (m,k):=by simpa using h
   have ne:n≠m:=λe=>nd.1 (by show n∈_;rw[e];exact aay.mpr ⟨(m,k),aaj h,rfl⟩);rw[ade (by simpa using ne)];exact QX nd.2 h
theorem zK:∀{as bs:List T},as.length=bs.length→(fK as bs).length=as.length
 |[],[],_=>rfl
 |a::as,b::bs,h=>by rw[fK,aap,zK (by simpa using h),aap]
section
abbrev jS:Stmt:=top 63
theorem uz:aF ["thing"] ["thing"] (av jS):=Skk
def KY:fk:=λts Γ Z _=>∃i:Int,ts=[.int i]∧Z (.bl true) Γ
theorem EA(F:dP K "_law_whole" "_law_whole" jS f fd)(aj:mg "isinstance" = none)(mD:mg "int" = none)(jb:mg "bool" = none):bq P w K mg am fE 1 f fd ["thing"] (cj KY):=by
 exact kL F uz (λts Γ Z Y h=>?_) (λcy A outer s H E ts Γ Z Y hr h=>?_)
 ·let⟨i,rfl,_⟩:=h
  rfl
 let⟨i,rfl,q⟩:=h;exact⟨_,(ae (aA (fT (cb rfl aj rfl mD zG (qv 0)) (iN (DY (cb rfl aj rfl jb vq (qv 0))))))
  ag),?_⟩
 simp only[a8];left;exact Ψ2 _ true ⟨rfl,rfl,?_⟩;left;exact Ψ2 _ false ⟨rfl,rfl,?_⟩;left;exact aZ .refl q
abbrev fe:Stmt:=top 64
theorem fN:aF ["kind","thing","half","some"] ["kind","thing"] (av fe):=Skk
def GJ(n:Nat):fk:=λts Γ Z _=>∃(k:Kd) (u:T),ts=[k.tr,u]∧k.good∧k.depth<n∧eF k u∧Z (.bl true) Γ
theorem wC(F:dP K "_law_is_worth" "_law_is_worth" fe f fd)(xO:b9 P w K mg am "_law_whole" 1 ["thing"] KY)(dM:b9 P w K mg am "_law_is_worth" (lv+2) ["kind","thing"] (GJ n))(aj:mg "isinstance" = none)(il:mg "str" = none)(aU:mg "len" = none)(dz:mg "all" = none)(aC:mg "tuple" = none)(gG:mg "zip" = none):bq P w K mg am fE (lv+2+1) f fd ["kind","thing"] (cj (GJ (n+1))):=by
 exact kL F fN (λts Γ Z Y h=>?_) (λcy A outer s H E ts Γ Z Y hr h=>?_)
 ·let⟨k,u,rfl,_⟩:=h
  rfl
 let⟨k,u,rfl,kg,kd,hs,q⟩:=h;exact⟨_,(ae (aW (ax bj (ay (qv 0) ah (λ_ _=>rfl)) aK (aw _)) (ae (az (i:=2) fN.nd rfl (Or.inl rfl) (ba mR (ay (bF (aa ah (aa ah (aa (ba j5 ah ah) (aa (ba j5 ah ah) (aa (ba j5 ah ah) af)))))) (ay (qv 0) ah (λ_ _=>rfl)) (λ_ _=>rfl)) ah))
  (ae (aA (fT (ak xO hr (by lia) rfl (aa (qv 1) af)) (fT (eM tQ (ba iP ah (qv 2)) (qv 1) (aw _)) (iN (eM Au (qv 1) (qv 2) (aw _))))))
  ag)) ag)
  (ae (aW (ax bj (ay (qv 0) ah (λ_ _=>rfl)) aK (aw _)) (ae (az (i:=3) fN.nd rfl (Or.inr rfl) aK)
  (ae (aA (fT (cb rfl aj rfl il rW (qv 1)) (fT (eM tQ (aH Iv rfl aU aaD (aa (qv 1) af)) ah (aw _)) (iN (aH (mn rfl) rfl dz aby (aa (cf (own:=["sign"]) (cap:=[(3,"some")]) (cJ rfl (by decide +kernel) (by decide +kernel) rfl (⟨rfl,trivial⟩) rfl (⟨⟨rfl,rfl,rfl⟩,trivial⟩)) rfl (DW (qv 1)) (λ_ _ _ _=>(aD (i:=0) (show List.Nodup (["sign","some"]:List Str)from by decide +kernel) rfl (Or.inl rfl) (Or.inr rfl))) (λ_ _ _ _=>bB) (λ_ _ _ _=>(eM LK (qv 0) (qv 1) (by with_unfolding_all rfl)))) af))))))
  ag)) ag)
  (ae (aW (cE (br (cb rfl aj rfl aC bE (qv 1)))) (ae (aA iy)
  ag) ag)
  (ae (aW (ax bj (ay (qv 0) ah (λ_ _=>rfl)) aK (aw _)) (ae (aA (fT (eM tQ (aH cF rfl aU aaD (aa (qv 1) af)) ah (aw _)) (iN (aH (mn rfl) rfl dz aby (aa (cf (own:=["one"]) (cap:=[(0,"kind")]) (cJ rfl (by decide +kernel) (by decide +kernel) rfl (⟨rfl,trivial⟩) rfl (⟨⟨rfl,rfl,rfl⟩,trivial⟩)) rfl (c6 (qv 1)) (λ_ _ _ _=>(aD (i:=0) (show List.Nodup (["one","kind"]:List Str)from by decide +kernel) rfl (Or.inl rfl) (Or.inr rfl))) (λ_ _ _ _=>bB) (λ_ _ _ _=>(ak dM hr (by lia) rfl (aa (ay (qv 1) ah (λ_ _=>rfl)) (aa (qv 0) af))))) af)))))
  ag) ag)
  (ae (aW (ax bj (ay (qv 0) ah (λ_ _=>rfl)) aK (aw _)) (ae (aW (ax iW (aH cF rfl aU aaD (aa (qv 1) af)) (aH cF rfl aU aaD (aa (ay (qv 0) ah (λ_ _=>rfl)) af)) (aw _)) (ae (aA iy)
  ag) ag)
  (ae (aA (aH (mn rfl) rfl dz aby (aa (cf (own:=["field","one"]) (cap:=[]) (eN rfl (by decide +kernel) (by decide +kernel)) rfl (DV rfl gG (aa (ay (qv 0) ah (λ_ _=>rfl)) (aa (qv 1) af))) (λ_ _ _ _=>(dt (n:=2) rfl (aS (aD (i:=0) (show List.Nodup (["field","one"]:List Str)from by decide +kernel) rfl (Or.inl rfl) (Or.inr rfl)) (aS (aD (i:=1) (show List.Nodup (["field","one"]:List Str)from by decide +kernel) rfl (Or.inl rfl) (Or.inr rfl)) cz)))) (λ_ _ _ _=>bB) (λ_ _ _ _=>(ak dM hr (by lia) rfl (aa (ay (qv 0) ah (λ_ _=>rfl)) (aa (qv 1) af))))) af)))
  ag)) ag)
  (ae (aW (PW.pt (cZ (ax iW (aH cF rfl aU aaD (aa (qv 1) af)) ah (aw _)) (cO (cE (br (cb rfl aj rfl il rW (ay (qv 1) ah (λ_ _=>rfl)))))))) (ae (aA iy)
  ag) ag)
  (ae (aA (eM (Hs hr.lC) (cf (own:=["name","below"]) (cap:=[(1,"thing")]) (cJ rfl (by decide +kernel) (by decide +kernel) rfl (⟨rfl,trivial⟩) rfl (⟨⟨rfl,rfl,rfl⟩,trivial⟩)) rfl (c6 (ay (qv 0) ah (λ_ _=>rfl))) (λ_ _ _ _=>(dt (n:=2) rfl (aS (aD (i:=0) (show List.Nodup (["name","below","thing"]:List Str)from by decide +kernel) rfl (Or.inl rfl) (Or.inr rfl)) (aS (aD (i:=1) (show List.Nodup (["name","below","thing"]:List Str)from by decide +kernel) rfl (Or.inl rfl) (Or.inr rfl)) cz)))) (λ_ _ _ _=>(Ae (PW.pt (DU (ax bj (qv 0) (ay (qv 2) ah (λ_ _=>rfl)) (aw _)) (Ad (br (ak dM hr (by lia) rfl (aa (qv 1) (aa (ay (qv 2) ah (λ_ _=>rfl)) af))))))))) (λ_ _ _ _=>ah)) (bF (aa ah af)) (aw _)))
  ag))))))),?_⟩
 simp only[a8];cases hs with
 |@num w i l h=>
  rw[Kd.tr];left;unfold Kd.good at kg;intro p hp;have hw:w=1∨w=2∨w=3∨w=4:=by lia
  left;exact fm (t:=.int (65536^w.toNat)) ai ?_ ?_
  ·rcases hw with rfl|rfl|rfl|rfl<;>rfl
  obtain⟨y,ey⟩:∃y:Int,65536^w.toNat=2*y:=⟨65536^(w.toNat-1)*32768,by
   obtain⟨m,em⟩:∃m,w.toNat=m+1:=⟨w.toNat-1,by lia⟩;rw[em,abz,Nat.add_sub_cancel];lia⟩
  rw[ey]at l h ⊢;left;exact⟨i,rfl,true,rfl,?_⟩;left;exact xS (aaM (by lia)) ?_;left;rw[aaM (show i<_ by lia)];exact aZ (.new hp) q
 |@text z l h=>
  rw[Kd.tr];left;exact Ψ2 _ true ⟨rfl,rfl,true,rfl,?_⟩;left;exact⟨z,rfl,aar (aE (by lia)),?_⟩;left;exact xS (aaM (by lia)) ?_;left;exact⟨?_,λrest τ ys Γ'=>∃(cs:List Nat) (o:Option T) (m:Nat),rest=cs.map (λc=>T.str ⟨#[c]⟩)∧τ=[o,some (.str jP)]∧ys=(List.replicate m true).map T.bl∧Γ'=Γ∧cs.all vC=true,Ψ3 z.cps.toList none 0 ⟨rfl,rfl,rfl,rfl,h⟩,?_,?_⟩
  ·show(z.cps.toList.map _).length≤_
   rw[aae];exact aar (aE (by show z.cps.size≤_;have:z.cps.size≤60:=l;lia))
  ·intro τ ys Γ'⟨cs,o,m,er,rfl,rfl,rfl,_⟩
   exact⟨trivial,λD hD=>?_⟩;left;exact Ψ2 D (List.replicate m true) ⟨rfl,bh ai,?_⟩;rw[qd];left;exact aZ (.new hD) q
  ·intro x r τ ys Γ'⟨cs,o,m,er,rfl,rfl,rfl,hc⟩
   cases cs with
   |nil=>cases er
   |cons c cs=>
    cases er;rw[ab8,aa1]at hc;have c1:=hc.1;have lt:c<128:=by unfold vC at c1;simp at c1;lia
    exact⟨trivial,?_⟩;left;exact Ψ2 _ _ ⟨rfl,rfl,?_⟩;rw[GO c lt,c1];exact Ψ3 cs _ (m+1) ⟨rfl,rfl,by rw[ab9,aaf];rfl,rfl,hc.2⟩
 |@row k2 ts l hq=>
  rw[Kd.tr];left;exact Ψ2 _ true ⟨rfl,rfl,true,rfl,?_⟩;left;exact xS (aaM (by lia)) ?_;left;exact⟨aar (aE (by lia)),λrest τ ys Γ'=>∃(o:Option T) (m:Nat),τ=[o,some (.tup [.str "row",k2.tr])]∧ys=(List.replicate m true).map T.bl∧Γ'=Γ∧∀t∈rest,eF k2 t,Ψ2 none 0 ⟨rfl,rfl,rfl,hq⟩,?_,?_⟩
  ·intro τ ys Γ'⟨o,m,rfl,rfl,rfl,_⟩
   exact⟨trivial,λD hD=>?_⟩;left;exact Ψ2 D (List.replicate m true) ⟨rfl,bh ai,?_⟩;rw[qd];left;exact aZ (.new hD) q
  ·intro x r τ ys Γ'⟨o,m,rfl,rfl,rfl,hc⟩
   unfold Kd.good at kg;rw[Kd.depth]at kd;exact⟨trivial,?_⟩;left;exact Ψ2 k2 x ⟨rfl,kg,by lia,hc x (by simp),?_⟩;exact Ψ2 _ (m+1) ⟨rfl,by rw[ab9,aaf];rfl,rfl,λt ht=>hc t (by simp[ht])⟩
 |@rec_ fs ts l hq=>
  rw[Kd.tr];left;exact Ψ2 _ true ⟨rfl,rfl,true,rfl,?_⟩;left;rw[bz,l];exact xT (by rw[aaM rfl];rfl) ?_;left;unfold Kd.good at kg;rw[Kd.depth]at kd;exact⟨aar (aE (by rw[zK (by rw[bz];lia),bz];lia)),λrest τ ys Γ'=>∃(gs:List (Str×Kd)) (us:List T) (o0 o1:Option T) (m:Nat),rest=fK (ip gs) us∧τ=[o0,o1]∧ys=(List.replicate m true).map T.bl∧Γ'=Γ∧(∀p∈gs,p.2.good∧p.2.depth<n)∧(∀(j:Nat) (nm:Str) (k:Kd) (t:T),gs[j]?=some (nm,k)→us[j]?=some t→eF k t),Ψ5 fs ts none none 0 ⟨rfl,rfl,rfl,rfl,λp hp=>⟨aO kg.1 hp,by have:=aY hp;lia⟩,hq⟩,?_,?_⟩
  ·intro τ ys Γ'⟨gs,us,o0,o1,m,er,rfl,rfl,rfl,_,_⟩
   exact⟨trivial,λD hD=>?_⟩;left;exact Ψ2 D (List.replicate m true) ⟨rfl,bh ai,?_⟩;rw[qd];left;exact aZ (.new hD) q
  ·intro x r τ ys Γ'⟨gs,us,o0,o1,m,er,rfl,rfl,rfl,hg,hc⟩
   cases gs with
   |nil=>simp[ip,fK]at er
   |cons p gs=>
    obtain⟨nm,k⟩:=p;cases us with
    |nil=>simp[ip,fK]at er
    |cons u us=>
     rw[ip,fK]at er;cases er;exact⟨trivial,?_⟩;left;have hk:=hg (nm,k) (by simp);exact Ψ2 k u ⟨rfl,hk.1,hk.2,hc 0 nm k u rfl rfl,?_⟩;exact Ψ5 gs us _ _ (m+1) ⟨rfl,rfl,by rw[ab9,aaf];rfl,rfl,λp hp=>hg p (by simp[hp]),λj Cp k' t' a b=>hc (j+1) Cp k' t' a b⟩
 |@pick fs m k2 j t f2 hq=>
  rw[Kd.tr];left;exact Ψ2 _ true ⟨rfl,rfl,true,rfl,?_⟩;left;exact Ψ2 _ true ⟨rfl,rfl,true,rfl,?_⟩;left;unfold Kd.good at kg;rw[Kd.depth]at kd;exact⟨by rw[bz];exact aar (aE (by lia)),λrest τ ys Γ'=>∃(gs hs:List (Str×Kd)) (o0 o1:Option T),τ=[o0,o1,some (.tup [.str m,t])]∧rest=ip gs∧fs=hs++gs∧ys=List.replicate (hs.filter λp=>decide (p.1=m)).length (T.int 1)∧Γ'=Γ,Ψ4 fs [] none none ⟨rfl,rfl,rfl,rfl,rfl⟩,?_,?_⟩
  ·intro τ ys Γ'⟨gs,hs,o0,o1,rfl,er,ef,rfl,rfl⟩
   cases gs with
   |cons p gs=>obtain⟨nm,k⟩:=p;rw[ip]at er;cases er
   |nil=>
    rw[aax]at ef;subst ef;exact⟨trivial,λD hD=>?_⟩;rw[QX kg.2.2.2 (cS f2)];left;intro p hp;left;exact Ψ4 D p [1] [1] ⟨rfl,rfl,by rw[bb (nQ ai hp)];exact ai,ai,?_⟩;exact aZ (.trans (.new hD) (.new hp)) q
  ·intro x r τ ys Γ'⟨gs,hs,o0,o1,rfl,er,ef,rfl,rfl⟩
   cases gs with
   |nil=>rw[ip]at er;cases er
   |cons p gs=>
    obtain⟨nm,k⟩:=p;rw[ip]at er;cases er;have mem:(nm,k)∈fs:=by rw[ef];simp
    exact⟨trivial,?_⟩;left;exact cD (λc=>?_) (λc=>?_)
    ·have ec:=pD c
     have:=D9 kg.2.2.2 f2 mem ec;subst this;left;exact Ψ2 k t ⟨rfl,aO kg.1 mem,by have:k.depth≤aL fs:=aY mem;lia,hq,true,rfl,?_⟩;left;exact Ψ4 gs (hs++[(nm,k)]) _ _ ⟨rfl,rfl,by rw[ef,acy];rfl,?_,rfl⟩;rw[acX,aag,aeo (by simpa using ec)];exact(ab9 ..).symm
    ·have nc:=ky c
     left;exact Ψ4 gs (hs++[(nm,k)]) _ _ ⟨rfl,rfl,by rw[ef,acy];rfl,?_,rfl⟩;rw[acX,aag,ade (by simpa using nc)];rfl
theorem qj(F:dP K "_law_is_worth" "_law_is_worth" fe f fd)(m:mg "_law_is_worth" = some (.ref f))(kp:W.keepIn K (.ref f)=true)(b:Binds K fd ["kind","thing"] [])(C1:b9 P w K mg am "_law_whole" 1 ["thing"] KY)(aj:mg "isinstance" = none)(il:mg "str" = none)(aU:mg "len" = none)(dz:mg "all" = none)(aC:mg "tuple" = none)(gG:mg "zip" = none):
  ∀n:Nat,b9 P w K mg am "_law_is_worth" (n+2) ["kind","thing"] (GJ n)
 |0=>Ψ2 f fd ⟨HM λts Γ Z Y h=>by obtain⟨k,_,_,_,h,_⟩:=h;lia,m,kp,b⟩
 |n+1=>Ψ2 f fd ⟨by rw[show n+1+2=n+2+1 by lia];exact wC F C1 (qj F m kp b C1 aj il aU dz aC gG n) aj il aU dz aC gG,m,kp,b⟩
end
def O8:Option Kd→T
 |some k=>k.tr
 |none=>.non
theorem hJ{m n:Str}{k:Kd}:∀fs:List (Str×Kd),findF (fs++[(m,k)]) n=match findF fs n with|some p=>some p|none=>if m=n then some (fs.length,k)else none
 |[]=>by
  show findF [(m,k)] n=_
  by_cases e:m=n
  ·simp[findF,e]
  ·simp[findF,e]
 |(m',k')::r=>by
  show findF ((m',k')::(r++[(m,k)])) n=_
  unfold findF;by_cases e:m'=n
  ·rw[aaA e,aaA e]
  ·rw[aaz e,aaz e,hJ r]
   cases findF r n with
   |some p=>rfl
   |none=>
    by_cases e2:m=n
    ·simp[e2]
    ·simp[e2]
section
abbrev iK:Stmt:=top 62
theorem dB:aF ["kind","path","step","below"] ["kind","path"] (av iK):=Skk
def OR:fk:=λts Γ Z _=>∃(k:Kd) (ps:List T),ts=[k.tr,.tup ps]∧k.good∧(∀p∈ps,Sx p)∧Z (O8 (atK k ps)) Γ
theorem yW(F:dP K "_law_kind_at" "_law_kind_at" iK f fd)(aj:mg "isinstance" = none)(il:mg "str" = none):bq P w K mg am fE 1 f fd ["kind","path"] (cj OR):=by
 exact kL F dB (λts Γ Z Y h=>?_) (λcy A outer s H E ts Γ Z Y hr h=>?_)
 ·let⟨k,ps,rfl,_⟩:=h
  rfl
 let⟨k,ps,rfl,kg,sp,q⟩:=h;exact⟨_,(ae (fS aa6 rfl (c6 (qv 1)) (aD (i:=2) dB.nd rfl (Or.inr rfl)) (ae (aW (PW.pt (cZ (ax bj (ay (qv 0) ah (λ_ _=>rfl)) aK (aw _)) (cO (ax bj (ay (qv 0) ah (λ_ _=>rfl)) aK (aw _))))) (ae (aA gP)
  ag) ag)
  (ae (fu (aW (ax bj (ay (qv 0) ah (λ_ _=>rfl)) aK (aw _)) (ae (aW (PW.pt (cZ (br (cb rfl aj rfl il rW (qv 2))) (cZ (ax Au (qv 2) ah (aw _)) (cO (ax Et (qv 2) ah (aw _)))))) (ae (aA gP)
  ag) ag)
  (ae (az (i:=0) dB.nd rfl (Or.inl rfl) (ay (qv 0) ah (λ_ _=>rfl)))
  ag)) (ae (p7 (i:=3) (own:=["name","one"]) (cap:=[(2,"step")]) (cJ rfl (by decide +kernel) (by decide +kernel) rfl (⟨rfl,trivial⟩) rfl (⟨⟨rfl,rfl,rfl⟩,trivial⟩)) rfl (c6 (ay (qv 0) ah (λ_ _=>rfl))) (λ_ _ _ _=>(dt (n:=2) rfl (aS (aD (i:=0) (show List.Nodup (["name","one","step"]:List Str)from by decide +kernel) rfl (Or.inl rfl) (Or.inr rfl)) (aS (aD (i:=1) (show List.Nodup (["name","one","step"]:List Str)from by decide +kernel) rfl (Or.inl rfl) (Or.inr rfl)) cz)))) (λ_ _ _ _=>(Ae (ax bj (qv 0) (qv 2) (aw _)))) (λ_ _ _ _=>(qv 1)) dB.nd rfl rfl)
  (ae (aW (ax (qR hr.lC) (qv 3) (bF af) (aw _)) (ae (aA gP)
  ag) ag)
  (ae (az (i:=0) dB.nd rfl (Or.inl rfl) (ay (qv 3) ah (λ_ _=>rfl)))
  ag)))))
  ag)))
  (ae (aA (qv 0))
  ag)),?_⟩
 simp only[a8];left;exact⟨λrest τ Γ'=>∃(k':Kd) (o2 o3:Option T),τ=[some k'.tr,some (.tup ps),o2,o3]∧k'.good∧(∀p∈rest,Sx p)∧atK k ps=atK k' rest∧Le Γ Γ',?_,?_,?_⟩
 ·exact Ψ3 k none none ⟨rfl,kg,sp,rfl,.refl⟩
 ·intro τ Γ'⟨k',o2,o3,rfl,wU,GK,e,le⟩
  exact⟨trivial,?_⟩;left;exact aZ le ?_;rw[e]at q;exact q
 ·intro x r τ Γ'⟨k',o2,o3,rfl,wU,GK,e,le⟩
  have e':atK k ps=match stepK k' x with|some k2=>atK k2 r|none=>none:=e
  have no:∀{Γ2:Gp},stepK k' x=none→Le Γ Γ2→fj Z .non Γ2:=λh l=>aZ l (by rw[e',h]at q;exact q);have go:∀{Γ2:Gp} {k2:Kd} {o2 o3:Option T},stepK k' x=some k2→Le Γ Γ2→∃(k':Kd) (Ye Yd:Option T),[some k2.tr,some (.tup ps),o2,o3]=[some k'.tr,some (.tup ps),Ye,Yd]∧k'.good∧(∀p∈r,Sx p)∧atK k ps=atK k' r∧Le Γ Γ2:=λ{Γ2 k2 o2 o3} h l=>
   ⟨k2,o2,o3,rfl,(yt wU h).1,λp hp=>GK p (by simp[hp]),by rw[e',h],l⟩
  have sx:=GK x (by simp);cases k' with
  |num wd=>rw[Kd.tr];left;exact no (by cases x<;>rfl) le
  |text=>rw[Kd.tr];left;exact no (by cases x<;>rfl) le
  |row j=>
   rw[Kd.tr];left;exact iB ?_;left;cases sx with
   |@str n l=>
    exact Ψ2 _ true ⟨rfl,rfl,?_⟩;left;exact no rfl le
   |int i=>
    exact Ψ2 _ false ⟨rfl,rfl,?_⟩;left;exact cD (λc=>?_) (λc=>?_)
    ·have c:=aaU c
     left;exact no (aaz λz=>by lia) le
    ·have c:=aa9 c
     left;exact cD (λc2=>?_) (λc2=>?_)
     ·have c2:=aaU c2
      left;exact no (aaz λz=>by lia) le
     ·have c2:=aa9 c2
      left;exact go (aaA ⟨by lia,by lia⟩) le
  |rec_ fs|pick fs=>
   unfold Kd.good at wU;rw[Kd.tr];left;exact iB ?_;left;exact⟨by rw[bz];exact aar (aE (by lia)),λrest τ ys Γ'=>∃(gs hs:List (Str×Kd)) (o0 o1:Option T),τ=[o0,o1,some x]∧rest=ip gs∧fs=hs++gs∧((ys=[]∧oU hs x=none)∨∃j k2 r2,oU hs x=some (j,k2)∧ys=k2.tr::r2)∧Le Γ Γ',?_,?_,?_⟩
   ·exact Ψ4 fs [] none none ⟨rfl,rfl,rfl,.inl ⟨rfl,by cases x<;>rfl⟩,le⟩
   ·intro τ ys Γ2⟨gs,hs,o0,o1,rfl,e0,e2,hy,PV⟩
    cases gs with
    |cons p r=>cases e0
    |nil=>
     rw[aax]at e2;subst e2;exact⟨trivial,λD hD=>?_⟩;left;intro p hp;have gD:(up (up Γ2 D (.lst ys)) p (.lst [])) D=some (.lst ys):=by rw[bb (nQ ai hp)];exact ai
     have AA:Le Γ (up (up Γ2 D (.lst ys)) p (.lst [])):=(PV.trans (.new hD)).trans (.new hp);exact Ψ3 D p ys ⟨rfl,rfl,gD,ai,?_⟩;rcases hy with⟨rfl,hb⟩|⟨j,k2,r2,hb,rfl⟩
     ·left
      exact no (by show(oU fs x).map _=_;rw[hb];rfl) AA
     ·left
      exact go (by show(oU fs x).map _=_;rw[hb];rfl) AA
   ·intro y rr τ ys Γ2⟨gs,hs,o0,o1,rfl,e0,e2,hy,PV⟩
    cases gs with
    |nil=>cases e0
    |cons p gs=>
     obtain⟨nm,k2⟩:=p;cases e0;left;cases sx with
     |int i=>
      left;exact Ψ4 gs (hs++[(nm,k2)]) _ _ ⟨rfl,rfl,by rw[e2];simp,.inl (by rcases hy with h|⟨j,k3,r3,h,_⟩;exact⟨h.1,rfl⟩;cases h),PV⟩
     |@str n l=>
      left;exact cD (λc=>?_) (λc=>?_)
      ·cases pD c
       left;exact Ψ4 gs (hs++[(nm,k2)]) _ _ ⟨rfl,rfl,by rw[e2];simp,.inr ?_,PV⟩;rcases hy with⟨rfl,h⟩|⟨j,k3,r3,h,rfl⟩
       ·exact Ψ3 hs.length k2 [] ⟨by show findF _ _=_;rw[hJ,show findF hs nm=none from h];simp,rfl⟩
       ·exact Ψ3 j k3 (r3++[k2.tr]) ⟨by show findF _ _=_;rw[hJ,show findF hs nm=some (j,k3)from h],rfl⟩
      ·have c:=ky c
       left;exact Ψ4 gs (hs++[(nm,k2)]) _ _ ⟨rfl,rfl,by rw[e2];simp,?_,PV⟩;rcases hy with⟨rfl,h⟩|⟨j,k3,r3,h,rfl⟩
       ·exact .inl ⟨rfl,by show findF _ _=_;rw[hJ,show findF hs n=none from h];simp[c]⟩
       ·exact .inr ⟨j,k3,r3,by show findF _ _=_;rw[hJ,show findF hs n=some (j,k3)from h],rfl⟩
abbrev lK:Stmt:=top 61
theorem bu:aF ["flow","kind","worth","path","turn","stops","at"] ["flow","kind","worth"] (av lK):=Skk
inductive Sm:T→Prop
 |int {i:Int} (l:i.natAbs≤100):Sm (.int i)
 |str {z:Str} (l:z.length≤100):Sm (.str z)
theorem Sm.sx(h:Sm x):Sx x:=by
 cases h with
 |int l=>exact .int _
 |str l=>exact .str (aaG l (by decide))
theorem jw{x:T}{k2:Kd}{u2:T}:∀{ps:List T} {k k':Kd} {u u':T},c0 k u ps=some (k',u')→eU k' u' x=some (k2,u2)→c0 k u (ps++[x])=some (k2,u2)
 |[],k,k',u,u',h,e=>by
  cases h;show(match eU k u x with|some (k',w')=>c0 k' w' []|none=>none)=_
  rw[e];rfl
 |p::r,k,k',u,u',h,e=>by
  have h:(match eU k u p with|some (k',w')=>c0 k' w' r|none=>none)=some (k',u'):=h;show(match eU k u p with|some (k',w')=>c0 k' w' (r++[x])|none=>none)=_
  cases f:eU k u p with
  |none=>rw[f]at h;cases h
  |some y=>rw[f]at h;exact jw h e
theorem zW{n:Str}(h:findF fs n=some (j,k)):(∃z,((fs.map (·.1)).map V.str)[j]?=some z∧kQ z (.str n)=true)∧∀m z,m<j→((fs.map (·.1)).map V.str)[m]?=some z→kQ z (.str n)=false:=by
 induction fs generalizing j with
 |nil=>cases h
 |cons p r ih=>
  obtain⟨m0,k0⟩:=p;unfold findF at h;by_cases e:m0=n
  ·rw[aaA e]at h
   cases h;subst e;exact⟨⟨_,rfl,by simp[kQ]⟩,λm z hm=>absurd hm (ads _)⟩
  ·rw[aaz e]at h
   cases f:findF r n with
   |none=>rw[f]at h;cases h
   |some q=>
    rw[f]at h;cases h;let⟨⟨z,h1,h2⟩,h3⟩:=ih (j:=q.1) f;exact⟨⟨z,by simpa using h1,h2⟩,λm z hm hz=>?_⟩;cases m with
    |zero=>cases hz;simp[kQ,e]
    |succ m=>exact h3 m z (by lia) (by simpa using hz)
def DB:fk:=λts Γ Z _=>∃(a:Addr) (k:Kd) (u:T),ts=[.ref a,k.tr,u]∧aM Γ a∧k.good∧eF k u∧∀(ps:List T) (kp:Kd×T) (Γ':Gp),ps.length≤5→(∀p∈ps,Sm p)→c0 k u ps=some kp→aM Γ' a→Fr [a] Γ Γ'→Z (.tup ps) Γ'
theorem HD(F:dP K "_law_path" "_law_path" lK f fd)(aB:b9 P w K mg am "_law_draw" 1 ["flow","many"] qy)(aT:mg "range" = none)(aU:mg "len" = none):bq P w K mg am fE 2 f fd ["flow","kind","worth"] (cj DB):=by
 exact kL F bu (λts Γ Z Y h=>?_) (λcy A outer s H E ts Γ Z Y hr h=>?_)
 ·let⟨a,k,u,rfl,_⟩:=h
  rfl
 let⟨a,k,u,rfl,fl,kg,hu,q⟩:=h;exact⟨_,(ae (az (i:=3) bu.nd rfl (Or.inl rfl) (bP af))
  (ae (fS aa6 rfl (di rfl aT (aa ah af)) (aD (i:=4) bu.nd rfl (Or.inl rfl)) (ae (az (i:=5) bu.nd rfl (Or.inl rfl) (eM bj (ak aB hr (by lia) rfl (aa (qv 0) (aa ah af))) ah (aw _)))
  (ae (aW (PW.pt (cZ (br (qv 5)) (cZ (ax bj (ay (qv 1) ah (λ_ _=>rfl)) aK (aw _)) (cZ (ax bj (ay (qv 1) ah (λ_ _=>rfl)) aK (aw _)) (cO (ax (Hr hr.lC) (qv 2) (bP af) (aw _))))))) (ae (aA (qv 3))
  ag) ag)
  (ae (fu (aW (ax bj (ay (qv 1) ah (λ_ _=>rfl)) aK (aw _)) (ae (az (i:=6) bu.nd rfl (Or.inl rfl) (ak aB hr (by lia) rfl (aa (qv 0) (aa (aH cF rfl aU aaD (aa (qv 2) af)) af))))
  (ae (az (i:=3) bu.nd rfl (Or.inl rfl) (ba gX (qv 3) (bP (aa (qv 6) af))))
  (ae (az (i:=2) bu.nd rfl (Or.inl rfl) (ay (qv 2) (qv 6) (λ_ _=>rfl)))
  (ae (az (i:=1) bu.nd rfl (Or.inl rfl) (ay (qv 1) ah (λ_ _=>rfl)))
  ag)))) (ae (az (i:=6) bu.nd rfl (Or.inl rfl) (ak aB hr (by lia) rfl (aa (qv 0) (aa (aH cF rfl aU aaD (aa (ay (qv 1) ah (λ_ _=>rfl)) af)) af))))
  (ae (fu (aW (ax bj (ay (qv 1) ah (λ_ _=>rfl)) aK (aw _)) (ae (az (i:=6) bu.nd rfl (Or.inl rfl) (jY aaI acp ada qX (cf (own:=["name","below"]) (cap:=[]) (eN rfl (by decide +kernel) (by decide +kernel)) rfl (c6 (ay (qv 1) ah (λ_ _=>rfl))) (λ_ _ _ _=>(dt (n:=2) rfl (aS (aD (i:=0) (show List.Nodup (["name","below"]:List Str)from by decide +kernel) rfl (Or.inl rfl) (Or.inr rfl)) (aS (aD (i:=1) (show List.Nodup (["name","below"]:List Str)from by decide +kernel) rfl (Or.inl rfl) (Or.inr rfl)) cz)))) (λ_ _ _ _=>bB) (λ_ _ _ _=>(qv 0))) (aa (ay (qv 2) ah (λ_ _=>rfl)) af)))
  (ae (az (i:=2) bu.nd rfl (Or.inl rfl) (ay (qv 2) ah (λ_ _=>rfl)))
  ag)) (ae (az (i:=2) bu.nd rfl (Or.inl rfl) (ay (qv 2) (qv 6) (λ_ _=>rfl)))
  ag)))
  (ae (az (i:=3) bu.nd rfl (Or.inl rfl) (ba gX (qv 3) (bP (aa (ay (ay (ay (qv 1) ah (λ_ _=>rfl)) (qv 6) (λ_ _=>rfl)) ah (λ_ _=>rfl)) af))))
  (ae (az (i:=1) bu.nd rfl (Or.inl rfl) (ay (ay (ay (qv 1) ah (λ_ _=>rfl)) (qv 6) (λ_ _=>rfl)) ah (λ_ _=>rfl)))
  ag))))))
  ag))))
  (ae (aA (qv 3))
  ag))),?_⟩
 simp only[a8];left;exact⟨5,rfl,by decide,by decide,?_⟩;exact⟨λrest τ Γ'=>∃(lo:Int) (c:Nat) (k':Kd) (u':T) (ps:List T) (o4 o5 o6:Option T),rest=ig lo c∧τ=[some (.ref a),some k'.tr,some u',some (.tup ps),o4,o5,o6]∧ps.length+c≤5∧(∀p∈ps,Sm p)∧k'.good∧eF k' u'∧c0 k u ps=some (k',u')∧aM Γ' a∧Kq [a] Γ Γ',?_,?_,?_⟩
 ·exact Ψ8 0 5 k u [] none none none ⟨rfl,rfl,by decide,(λp hp=>nomatch hp),kg,hu,rfl,fl,.refl⟩
 ·intro τ Γ'⟨lo,c,k',u',ps,o4,o5,o6,e,rfl,hl,hs,wU,Wx,pw,nV,k1⟩
  exact⟨trivial,?_⟩;left;exact sE nV k1 λΓ2 fJ k2=>q ps _ Γ2 (by lia) hs pw fJ k2
 ·intro x r τ Γ'⟨lo,c,k',u',ps,o4,o5,o6,e,rfl,hl,hs,wU,Wx,pw,nV,k1⟩
  let⟨c',rfl,rfl,rfl⟩:=dh e;left;exact Ψ2 a 5 ⟨rfl,nV,by decide,by decide,λr Γ1 r0 r1 iE k2=>?_⟩;left;have done:∀{Γ2:Gp},aM Γ2 a→Kq [a] Γ Γ2→fj Z (.tup ps) Γ2:=λfJ kk=>sE fJ kk λΓ3 iR k3=>q ps _ Γ3 (by lia) hs pw iR k3;have Gd:=k1.trans k2.kq;exact cD (λc=>?_) (λc=>?_)
  ·left
   exact done iE Gd
  ·cases Wx with
   |num l h=>rw[Kd.tr];left;exact done iE Gd
   |text l h=>rw[Kd.tr];left;exact done iE Gd
   |@row k2 ts l hq=>
    unfold Kd.good at wU;rw[Kd.tr];left;exact cD (λc=>?_) (λc=>?_)
    ·left
     exact done iE Gd
    ·have hn:0<ts.length:=by
      cases ts with
      |nil=>cases c
      |cons _ _=>simp
     left;exact iB ?_;left;exact Ψ2 a _ ⟨rfl,iE,by lia,by lia,λr2 Γ2 Js G0 fJ k3=>?_⟩;obtain⟨j,rfl⟩:∃j:Nat,r2=j:=⟨r2.toNat,by lia⟩;have hj:j<ts.length:=by lia
     left;exact jE (aar (aE (by show ps.length+1≤1000;lia))) ?_;left;exact fY (show ts[j]?=some ts[j]by simp[hj]) ?_;left;exact Ψ8 (lo+1) c' k2 (ts[j]) (ps++[.int (j:Nat)]) _ _ _ ⟨rfl,rfl,by rw[aag];show ps.length+1+c'≤5;lia,?_,wU,hq _ (abp hj),jw pw ?_,fJ,Gd.trans k3.kq⟩
     ·intro p hp
      rcases aaX.mp hp with h|h
      ·exact hs p h
      ·rw[aav.mp h];exact .int (by lia)
     ·show(if(0:Int)≤(j:Nat)then(ts[((j:Nat):Int).toNat]?).map λt=>(k2,t)else none)=_
      rw[aaA (by lia),abS,aac hj];rfl
   |@rec_ fs ts l hq=>
    unfold Kd.good at wU;rw[Kd.tr];have hn:ts.isEmpty=false:=by
     cases ts with
     |nil=>have:=wU.2.1;rw[←l]at this;cases this
     |cons _ _=>rfl
    left;exact xT hn ?_;left;exact iB ?_;left;exact Ψ2 a _ ⟨rfl,iE,by rw[bz];lia,by rw[bz];have:=wU.2.2.1;lia,λr2 Γ2 Js G0 fJ k3=>?_⟩;rw[bz]at G0;obtain⟨j,rfl⟩:∃j:Nat,r2=j:=⟨r2.toNat,by lia⟩;have hj:j<fs.length:=by lia
    have Ii:j<ts.length:=by lia
    obtain⟨⟨nm,k2⟩,hp⟩:∃p,fs[j]?=some p:=⟨fs[j],by simp[hj]⟩;have km:=aaj hp;left;exact iB ?_;left;exact fY (show ts[j]?=some ts[j]by simp[Ii]) ?_;left;exact fY (jf hp) ?_;left;exact jE (aar (aE (by show ps.length+1≤1000;lia))) ?_;left;exact fY (jf hp) ?_;left;have TX:=(rD wU.1 km).2.1;exact Ψ8 (lo+1) c' k2 (ts[j]) (ps++[.str nm]) _ _ _ ⟨rfl,rfl,by rw[aag];show ps.length+1+c'≤5;lia,?_,aO wU.1 km,hq j nm k2 _ hp (by simp[Ii]),jw pw ?_,fJ,Gd.trans k3.kq⟩
    ·intro p hp
     rcases aaX.mp hp with h|h
     ·exact hs p h
     ·rw[aav.mp h];exact .str (by have h8:nm.length≤8:=TX;lia)
    ·show(match oU fs (.str nm)with|some (j,k)=>(ts[j]?).map λt=>(k,t)|none=>none)=_
     rw[show oU fs (.str nm)=some (j,k2)from i4 wU.2.2.2 hp];show(ts[j]?).map _=_
     rw[aac Ii];rfl
   |@pick fs m k2 j t ff hq=>
    unfold Kd.good at wU;rw[Kd.tr];left;exact iB ?_;left;exact Ψ2 a _ ⟨rfl,iE,by rw[bz];lia,by rw[bz];have:=wU.2.2.1;lia,λr2 Γ2 Js G0 fJ k3=>?_⟩;left;exact iB ?_;left;exact⟨by rw[bz];exact aar (aE (by lia)),λrest τ ys Γ'=>∃(gs hs:al) (o0 o1:Option T),τ=[o0,o1]∧rest=ip gs∧fs=hs++gs∧ys=(hs.map (·.1)).map T.str∧Γ'=Γ2,?_,?_,?_⟩
    ·exact Ψ4 fs [] none none ⟨rfl,rfl,rfl,rfl,rfl⟩
    ·intro τ ys Γ'⟨gs,ya,o0,o1,rfl,e0,e2,rfl,rfl⟩
     cases gs with
     |cons p r=>cases e0
     |nil=>
      rw[aax]at e2;subst e2;exact⟨trivial,λD hD=>?_⟩;exact iS ai ?_;left;let⟨i1,i2⟩:=zW ff;exact Ψ6 D _ _ _ _ j ⟨rfl,rfl,bh ai,mI _,rfl,rfl,?_,i1,i2,?_⟩
      ·rw[aaK]
       intro v hv;let⟨z,_,rfl⟩:=aay.mp hv;rfl
      have hp:=cS ff;have km:=aaj hp;have TX:=(rD wU.1 km).2.1;left;exact fY (jf hp) ?_;left;exact jE (aar (aE (by show ps.length+1≤1000;lia))) ?_;left;exact fY (jf hp) ?_;left;exact Ψ8 (lo+1) c' k2 t (ps++[.str m]) _ _ _ ⟨rfl,rfl,by rw[aag];show ps.length+1+c'≤5;lia,?_,aO wU.1 km,hq,jw pw ?_,fJ.new hD,(Gd.trans k3.kq).trans (.new hD _)⟩
      ·intro p hp
       rcases aaX.mp hp with h|h
       ·exact hs p h
       ·rw[aav.mp h];exact .str (by have h8:m.length≤8:=TX;lia)
      ·show(if m=m then(findF fs m).map λp=>(p.2,t)else none)=_
       rw[aaA rfl,ff];rfl
    ·intro y rr τ ys Γ'⟨gs,ya,o0,o1,rfl,e0,e2,rfl,rfl⟩
     cases gs with
     |nil=>cases e0
     |cons p gs=>
      obtain⟨nm,k3⟩:=p;cases e0;left;exact Ψ4 gs (ya++[(nm,k3)]) _ _ ⟨rfl,rfl,by rw[e2];simp,by rw[aaf,aaf];rfl,rfl⟩
end
inductive Rm:Kd→List (List T×Nat)→Kd→Prop
 |nil (k:Kd):Rm k [] k
 |snoc {k k1 k2:Kd} {rows:List (List T×Nat)} {ts:List T} {j:Nat} (a:Rm k rows k1) (l:j<ts.length) (sm:ts.length≤60) (p:∀t,eF k2 t→eF k1 (.tup (ts.set j t))):Rm k (rows++[(ts,j)]) k2
def DM(r:List T×Nat):T:=.tup [.tup r.1,.int (r.2:Nat)]
theorem xg(g:k.good)(h:eF k (.tup ts)):ts.length≤60:=by
 cases h with
 |row l q=>exact l
 |rec_ l q=>unfold Kd.good at g;lia
 |pick f q=>exact(by decide:2≤60)
theorem Iu(h:j<xs.length):xs.take j++[t]++xs.drop (j+1)=xs.set j t:=by
 rw[List.set_eq_take_append_cons_drop,aaA h,acy];rfl
theorem oA:∀{qs:List T} {k k':Kd} {u u':T},k.good→eF k u→c0 k u qs=some (k',u')→atK k qs=some k'
 |[],k,k',u,u',_,_,e=>by cases e;rfl
 |p::r,k,k',u,u',g,h,e=>by
  let⟨k2,t,f,e2⟩:=oB e;let⟨ts,j,sv⟩:=tK g h f;have ih:=oA (vU g h f).2.1 sv.has e2;show(match stepK k p with|some k'=>atK k' r|none=>none)=_
  rw[sv.kind];exact ih
section
abbrev iL:Stmt:=top 67
theorem bc:aF ["flow","kind","worth","path","rows","at","k","above","place","changed","row"] ["flow","kind","worth"] (av iL):=Skk
def Jg:fk:=λts Γ Z _=>∃(a:Addr) (k:Kd) (u:T),ts=[.ref a,k.tr,u]∧aM Γ a∧k.good∧k.depth≤5∧eF k u∧∀(u':T) (Γ':Gp),eF k u'→aM Γ' a→Fr [a] Γ Γ'→Z u' Γ'
theorem yZ(F:dP K "_law_changed" "_law_changed" iL f fd)(zD:b9 P w K mg am "_law_path" 2 ["flow","kind","worth"] DB)(lq:b9 P w K mg am "_law_kind_at" 1 ["kind","path"] OR)(b7:b9 P w K mg am "_law_worth" 30 ["flow","kind","room"] (Bl 13))(aT:mg "range" = none)(aU:mg "len" = none):bq P w K mg am fE 31 f fd ["flow","kind","worth"] (cj Jg):=by
 exact kL F bc (λts Γ Z Y h=>?_) (λcy A outer s H E ts Γ Z Y hr h=>?_)
 ·let⟨a,k,u,rfl,_⟩:=h
  rfl
 let⟨a,k,u,rfl,fl,kg,kd,hs,q⟩:=h;exact⟨_,(ae (az (i:=3) bc.nd rfl (Or.inl rfl) (ak zD hr (by lia) rfl (aa (qv 0) (aa (qv 1) (aa (qv 2) af)))))
  (ae (az (i:=4) bc.nd rfl (Or.inl rfl) (bF af))
  (ae (az (i:=5) bc.nd rfl (Or.inl rfl) (qv 2))
  (ae (fS aa6 rfl (di rfl aT (aa (aH cF rfl aU aaD (aa (qv 3) af)) af)) (aD (i:=6) bc.nd rfl (Or.inl rfl)) (ae (az (i:=7) bc.nd rfl (Or.inl rfl) (ak lq hr (by lia) rfl (aa (qv 1) (aa (gO lE (qv 3) mO (gq (qv 6))) af))))
  (ae (az (i:=8) bc.nd rfl (Or.inl rfl) (ay (qv 3) (qv 6) (λ_ _=>rfl)))
  (ae (fu (aW (ax bj (ay (qv 7) ah (λ_ _=>rfl)) aK (aw _)) (ae (az (i:=8) bc.nd rfl (Or.inl rfl) ah)
  ag) (ae (fu (aW (ax bj (ay (qv 7) ah (λ_ _=>rfl)) aK (aw _)) (ae (az (i:=8) bc.nd rfl (Or.inl rfl) (jY aaI acp ada qX (cf (own:=["name","below"]) (cap:=[]) (eN rfl (by decide +kernel) (by decide +kernel)) rfl (c6 (ay (qv 7) ah (λ_ _=>rfl))) (λ_ _ _ _=>(dt (n:=2) rfl (aS (aD (i:=0) (show List.Nodup (["name","below"]:List Str)from by decide +kernel) rfl (Or.inl rfl) (Or.inr rfl)) (aS (aD (i:=1) (show List.Nodup (["name","below"]:List Str)from by decide +kernel) rfl (Or.inl rfl) (Or.inr rfl)) cz)))) (λ_ _ _ _=>bB) (λ_ _ _ _=>(qv 0))) (aa (ay (qv 3) (qv 6) (λ_ _=>rfl)) af)))
  ag) ag))
  ag)))
  (ae (jt (jY aaI abb aba gE (qv 4) (aa (bP (aa (qv 5) (aa (qv 8) af))) af)))
  (ae (az (i:=5) bc.nd rfl (Or.inl rfl) (ay (qv 5) (qv 8) (λ_ _=>rfl)))
  ag))))))
  (ae (az (i:=9) bc.nd rfl (Or.inl rfl) (ak b7 hr (by lia) rfl (aa (qv 0) (aa (ak lq hr (by lia) rfl (aa (qv 1) (aa (qv 3) af))) (aa (bF (aa ah af)) af)))))
  (ae (fS aa6 rfl (kF (Af (qv 4) (qK ah))) (dt (n:=2) rfl (aS (aD (i:=10) bc.nd rfl (Or.inl rfl)) (aS (aD (i:=8) bc.nd rfl (Or.inl rfl)) cz))) (ae (az (i:=9) bc.nd rfl (Or.inl rfl) (ba gX (ba gX (gO lE (qv 10) mO (gq (qv 8))) (bP (aa (qv 9) af))) (gO lE (qv 10) (gq (ba eE (qv 8) ah)) mO)))
  ag))
  (ae (aA (qv 9))
  ag))))))),?_⟩
 simp only[a8];left;exact Ψ3 a k u ⟨rfl,fl,kg,hs,λps kp Γ1 l5 sm ep iE k1=>?_⟩;have sx:∀p∈ps,Sx p:=λp hp=>(sm p hp).sx;left;intro R hR;have aR:a≠R:=(iE.nn hR).symm;left;exact⟨_,rfl,by lia,by lia,?_⟩;exact⟨λrest τ Γ'=>∃(j c:Nat) (kj:Kd) (uj:T) (rows:List (List T×Nat)) (o6 o7 o8:Option T),rest=ig j c∧j+c=ps.length∧c0 k u (ps.take j)=some (kj,uj)∧Rm k rows kj∧rows.length=j∧τ=[some (.ref a),some k.tr,some u,some (.tup ps),some (.ref R),some uj,o6,o7,o8,none,none]∧Γ' R=some (.lst (rows.map DM))∧aM Γ' a∧Kq [R] Γ1 Γ',Ψ8 0 ps.length k u [] none none none ⟨rfl,acT _,by rw[adE,c0],.nil k,rfl,rfl,ai,iE.new hR,λb o hb h=>by rw[bb (by simpa using hb)];exact h⟩,?_,?_⟩
 ·intro τ Γ2⟨j,c,kj,uj,rows,o6,o7,o8,er,jc,ej,ab,lr,rfl,gR,fJ,k2⟩
  have hc:=jX er;subst hc;have ej:c0 k u ps=some (kj,uj):=by rw[aa3 (by lia)]at ej;exact ej
  let⟨_,PY,Yo⟩:=qP kg hs ej;exact⟨trivial,?_⟩;left;exact Ψ2 k ps ⟨rfl,kg,sx,?_⟩;rw[oA kg hs ej];left;intro b hb;left;exact Ψ3 a b kj ⟨rfl,fJ.new hb,⟨6,ai⟩,PY,by lia,by lia,λv Γ3 hv iR Ng k3=>?_⟩;have Rb:R≠b:=nQ gR hb;have RY:Γ3 R=some (.lst (rows.map DM)):=by rw[k3 R (by simp[aR.symm,Rb]),bb Rb];exact gR
  have kk:Kq [a] Γ Γ3:=λb' o nb h=>by
   have h1:=(k1.kq:Kq [a] Γ Γ1) b' o nb h;have nR:b'≠R:=nQ h1 hR;have h2:=k2 b' o (by simpa using nR) h1;have V8:b'≠b:=nQ h2 hb;rw[k3 b' (by simp at nb;simp[nb,V8]),bb V8];exact h2
  left;exact⟨rfl,R,_,rfl,bh RY,λp hp=>?_⟩;left;have my:=iR.new (o:=.lst ((rows.map DM).reverse)) hp;have Wi:Kq [a] Γ (up Γ3 p (.lst ((rows.map DM).reverse))):=λb' o nb h=>by
   have h1:=kk b' o nb h;rw[bb (nQ h1 hp)];exact h1
  have gp:(up Γ3 p (.lst ((rows.map DM).reverse))) p=some (.lst ((rows.map DM).reverse)):=ai;generalize up Γ3 p (.lst ((rows.map DM).reverse))=Γ4 at my Wi gp ⊢;exact Ψ2 p _ ⟨rfl,bh gp,?_⟩;exact⟨λrest τ Γ'=>∃(rs:List (List T×Nat)) (kr:Kd) (vr:T) (o8 TK:Option T),rest=(rs.map DM).reverse∧Rm k rs kr∧eF kr vr∧τ=[some (.ref a),some k.tr,some u,some (.tup ps),some (.ref R),some uj,o6,o7,o8,some vr,TK]∧Γ4=Γ',Ψ5 rows kj v o8 none ⟨rfl,ab,hv,rfl,rfl⟩,?_,?_⟩
  ·intro τ Γ'⟨rs,kr,vr,o8,TK,er,ab,Ur,rfl,rfl⟩
   exact⟨bh gp,?_⟩;cases ab with
   |nil=>
    left;exact sE my Wi λΓ5 nU k5=>q vr Γ5 Ur nU k5
   |snoc ab l sm p=>
    rw[aaf,adF]at er;cases er
  ·intro x rr τ Γ'⟨rs,kr,vr,o8,TK,er,ab,Ur,rfl,rfl⟩
   exact⟨bh gp,?_⟩;cases ab with
   |nil=>cases er
   |snoc ab l OV put=>
    rename_i Ys Jp ts jj;rw[aaf,adF]at er;have QI:x::rr=T.tup [.tup ts,.int (jj:Nat)]::(Jp.map DM).reverse:=er;cases QI;have l1:(fI ts none (some (jj:Int))).length≤60:=aaG (iF ts _ _) OV;have l2:(fI ts (some ((jj:Int)+1)) none).length≤60:=aaG (iF ts _ _) OV;left;exact jE (aar (aE (by show _+1≤1000;lia))) ?_;left;exact jE (aar (aE (by rw[aag];show _+1+_≤1000;lia))) ?_;rw[MP,show((jj:Int)+1)=((jj+1:Nat):Int)from rfl,QV,Iu l];left;exact Ψ5 Jp Ys _ _ _ ⟨rfl,ab,put vr Ur,rfl,rfl⟩
 ·intro x rr τ Γ2⟨j,c,kj,uj,rows,o6,o7,o8,er,jc,ej,ab,lr,rfl,gR,fJ,k2⟩
  let⟨c',rfl,rfl,rfl⟩:=dh er;have jl:j<ps.length:=by lia
  obtain⟨p,hp⟩:∃p,ps[j]?=some p:=⟨_,aac jl⟩;have ets:ps.take (j+1)=ps.take j++[p]:=by rw[ac5,hp];rfl
  let⟨Qc,PY,Yo⟩:=qP kg hs ej;obtain⟨k',t,fst,esn⟩:∃k' t,eU kj uj p=some (k',t)∧c0 k u (ps.take (j+1))=some (k',t):=by
   have e2:c0 k u (ps.take j++(p::ps.drop (j+1)))=some kp:=by
    have:ps.take j++(p::ps.drop (j+1))=ps:=by
     obtain⟨_,e⟩:=aat.mp hp;rw[←e,←ac1,acz]
    rw[this];exact ep
   rw[qO ej]at e2;let⟨k',t,f,_⟩:=oB e2;exact Ψ2 k' t ⟨f,by rw[ets,qO ej,As f];rfl⟩
  let⟨ts,jj,sv⟩:=tK PY Qc fst;obtain⟨rfl,sat,OY,VN,XM,Te,_⟩:=sv;obtain⟨Yh,_⟩:=aat.mp OY;have L4:=xg PY Qc;exact⟨trivial,?_⟩;left;exact Ψ2 k _ ⟨rfl,kg,λx hx=>sx x (acF (by rw[MP]at hx;exact hx)),?_⟩;rw[MP,oA kg hs ej,show O8 (some kj)=kj.tr from rfl];left;exact fY hp ?_;left;exact⟨λτ' Γ'=>∃o7:Option T,τ'=[some (.ref a),some k.tr,some u,some (.tup ps),some (.ref R),some (.tup ts),some (.int (j:Nat)),o7,some (.int (jj:Nat)),none,none]∧Γ' R=some (.lst (rows.map DM))∧aM Γ' a∧Kq [R] Γ1 Γ',?_,?_⟩
  ·cases kj with
   |num wd=>cases Qc
   |text=>cases Qc
   |row k3=>
    rw[Kd.tr];left;exact iB ?_;left;cases p with
    |int i=>
     have:(i:Int)=(jj:Int):=by
      rw[j4]at sat;split at sat
      ·cases sat;lia
      ·cases sat
     rw[this];exact⟨_,rfl,gR,fJ,k2⟩
    |_=>rw[j4]at sat;cases sat;all_goals (intros;contradiction)
   |pick fs=>
    have e1:=(Bt Qc rfl fst).2;rw[sat]at e1;cases e1;rw[Kd.tr];left;exact⟨_,rfl,gR,fJ,k2⟩
   |rec_ fs=>
    rw[Kd.tr];left;exact iB ?_;left;unfold Kd.good at PY;have sat':(oU fs p).map (·.1)=some jj:=sat;let⟨y,ey,ey2⟩:=ado.mp sat';obtain⟨j0,k0⟩:=y;cases ey2;let⟨nm,rfl,hf⟩:=jB ey;exact⟨by rw[bz];exact aar (aE (by lia)),λrest τ ys Γ'=>∃(gs hs:al) (o0 o1:Option T),fs=hs++gs∧rest=ip gs∧τ=[o0,o1]∧ys=(hs.map (·.1)).map T.str∧Γ'=Γ2,Ψ4 fs [] none none ⟨rfl,rfl,rfl,rfl,rfl⟩,?_,?_⟩
    ·intro τ ys Γ'⟨gs,se,o0,o1,eo,er,rfl,rfl,rfl⟩
     cases gs with
     |cons p r=>cases er
     |nil=>
      rw[aax]at eo;subst eo;exact⟨trivial,λD hD=>?_⟩;exact iS ai ?_;left;exact fY hp ?_;left;let⟨i1,i2⟩:=zW (show findF fs nm=some (j0,k0)from ey);exact Ψ6 D _ _ _ _ j0 ⟨rfl,rfl,bh ai,mI _,rfl,rfl,zV _,i1,i2,?_⟩;left;exact⟨_,rfl,by rw[bb (nQ gR hD)];exact gR,fJ.new hD,k2.trans (.new hD _)⟩
    ·intro x r τ ys Γ'⟨gs,se,o0,o1,eo,er,rfl,rfl,rfl⟩
     cases gs with
     |nil=>cases er
     |cons p gs=>
      obtain⟨Cp,k'⟩:=p;cases er;left;exact Ψ4 gs (se++[(Cp,k')]) _ _ ⟨by rw[eo];simp,rfl,rfl,by rw[aaf,aaf];rfl,rfl⟩
  ·intro τ Γ3⟨o7',rfl,RY,iR,k3⟩
   left;exact iS RY ?_;left;exact Ψ3 R _ _ ⟨rfl,rfl,RY,by rw[aae,aa7];lia,?_⟩;left;exact fY OY ?_;left;exact Ψ8 (j+1) c' k' t (rows++[(ts,jj)]) _ _ _ ⟨rfl,by lia,esn,.snoc ab Yh L4 Te,by rw[aag,lr];rfl,rfl,by rw[ai,aaf];rfl,iR.up aR,k3.trans (.set (by simp) _)⟩
end
theorem Iy{bm:List Value}{n:String}(q:W.excIn K C bm n=true):(W.clsIn K C).isSome=true:=by
 unfold W.excIn at q;unfold W.clsIn;split at q
 ·rename_i ho
  rw[ho];rfl
 ·cases q
theorem AJ(h:eF k t):Pl t:=by
 induction h with
 |num l h=>exact .int _
 |text l h=>exact .str
 |row l q ih=>exact .tup ih
 |@rec_ fs ts l q ih=>
  exact .tup λt ht=>?_;let⟨j,hj⟩:=acH ht;obtain⟨hl,_⟩:=aat.mp hj;have hf:j<fs.length:=by lia
  exact ih j fs[j].1 fs[j].2 t (by simp[hf]) hj
 |pick f q ih=>
  exact .tup λt ht=>?_;rcases aah.mp ht with rfl|ht
  ·exact .str
  ·rw[aav.mp ht];exact ih
theorem DH(z:Str):sy (.str z)=0:=by rw[sy];intro us e;cases e
theorem My(h:eF k t):k.good→sy t≤60*k.depth:=by
 induction h with
 |num l h=>intro g;rw[uw];exact aaE _
 |text l h=>intro g;rw[DH];exact aaE _
 |@row k ts l q ih=>
  intro g;unfold Kd.good at g;rw[jh,Kd.depth];have:=ux (D:=60*k.depth) (us:=ts) λu hu=>ih u hu g;lia
 |@rec_ fs ts l q ih=>
  intro g;unfold Kd.good at g;rw[jh,Kd.depth];have:=ux (D:=60*aL fs) (us:=ts) λu hu=>by
   let⟨j,hj⟩:=acH hu;obtain⟨hl,_⟩:=aat.mp hj;obtain⟨nm,k',hf⟩:∃nm k',fs[j]?=some (nm,k'):=Ψ2 _ _ (aac (by lia));have m:=aaj hf;have d:k'.depth≤aL fs:=aY m;have:=ih j _ _ u hf hj (aO g.1 m);lia
  have:fs.length≤6:=g.2.2.1;lia
 |@pick fs n k j t f q ih=>
  intro g;unfold Kd.good at g;have m:=aaj (cS f);have d:k.depth≤aL fs:=aY m;have:=ih (aO g.1 m);rw[jh,Kd.depth,jI,jI,DH,jI];show 2+_≤_
  lia
theorem aM.V3(h:aM Γ a)(g:Γ p=Option.some (.lst [x,y])):a≠p:=λz=>by
 subst z;let⟨f0,f1,f2,e,_⟩:=h;rw[e]at g;cases g
theorem Fh(h:eF k t):k.good→Dp k.depth t:=by
 induction h with
 |num l h=>intro g;exact .int _
 |text l h=>intro g;exact .str _
 |@row k ts l q ih=>
  intro g;unfold Kd.good at g;rw[Kd.depth];exact .tup λt ht=>ih t ht g
 |@rec_ fs ts l q ih=>
  intro g;unfold Kd.good at g;rw[Kd.depth];exact .tup λu hu=>?_;let⟨j,hj⟩:=acH hu;obtain⟨hl,_⟩:=aat.mp hj;have hf:fs[j]?=some (fs[j]'(by lia)):=aac (by lia);have m:=aaj hf;exact(ih j _ _ u hf hj (aO g.1 m)).mono (aY m)
 |@pick fs n k j t f q ih=>
  intro g;unfold Kd.good at g;have m:=aaj (cS f);rw[Kd.depth];exact .tup λu hu=>?_;rcases aah.mp hu with rfl|hu
  ·exact .str _
  ·rw[aav.mp hu];exact(ih (aO g.1 m)).mono (aY m)
theorem Im(g:k.good)(kd:k.depth≤5)(h:eF k t)(h':eF k u):NF 40 t u:=by
 have a:=Fh h g;have b:=Fh h' g;have up:∀{d:Nat} {ts:List T},Dp d (.tup ts)→d≤5→∀t∈ts,Dp 40 t:=λ{d ts} hd l t ht=>by
  cases hd with
  |tup q=>exact(q t ht).mono (by lia)
 cases h with
 |num=>cases h';exact .int _ _
 |text=>cases h';exact .str _ _
 |row=>cases h' with|row=>exact .tup (up a kd) (up b kd)
 |rec_=>cases h' with|rec_=>exact .tup (up a kd) (up b kd)
 |pick=>cases h' with|pick=>exact .tup (up a kd) (up b kd)
section
theorem wq(hs:eF k u)(kg:k.good)(kd:k.depth≤5):Pc (.tup (pK L k u))∧sy (.tup (pK L k u))<sizeLine:=by
 have o:=iz L hs kg kd;have sm:=oo kg kd;exact⟨.tup o.pc,?_⟩;rw[jh,o.len,aa7];have h1:=o.sd;have:311200*k.depth≤311200*5:=acL _ kd;lia
abbrev jr:Stmt:=top 68
theorem iH:aF ["laying","other","kind","worth","told","found"] ["laying","other","kind","worth"] (av jr):=Skk
def Jh(pT:Addr):fk:=λts Γ Z _=>∃(L M:Ly) (k:Kd) (u:T),ts=[L.tr,M.tr,k.tr,u]∧k.good∧k.depth≤5∧eF k u∧eL pT Γ∧Z (.bl true) Γ
theorem BB(F:dP K "_law_across" "_law_across" jr f fd)(dq:b9 P w K mg am "picture" 18 ["laying","kind","worth"] (yx pT 6))(kC:b9 P w K mg am "_law_asked" 22 ["laying","kind","thing"] (DF pT))(dM:b9 P w K mg am "_law_is_worth" 8 ["kind","thing"] (GJ 6))(jA:b9 P w K mg am "_law_same" 1 ["found","due"] yw):bq P w K mg am fE 23 f fd ["laying","other","kind","worth"] (cj (Jh pT)):=by
 exact kL F iH (λts Γ Z Y h=>?_) (λcy A outer s H E ts Γ Z Y hr h=>?_)
 ·let⟨L,M,k,u,rfl,_⟩:=h
  rfl
 let⟨L,M,k,u,rfl,kg,kd,hs,gl,q⟩:=h;exact⟨_,(ae (az (i:=4) iH.nd rfl (Or.inl rfl) (ak dq hr (by lia) rfl (aa (qv 0) (aa (qv 2) (aa (qv 3) af)))))
  (ae (az (i:=5) iH.nd rfl (Or.inl rfl) (ak kC hr (by lia) rfl (aa (qv 1) (aa (qv 2) (aa (qv 4) af)))))
  (ae (aW (ax yS (qv 5) gP (aw _)) (ae (aA iy)
  ag) ag)
  (ae (aW (ax (qR hr.lC) (qv 5) (bF af) (aw _)) (ae (aA iy)
  ag) ag)
  (ae (aA (fT (ak dM hr (by lia) rfl (aa (qv 2) (aa (ay (qv 5) ah (λ_ _=>rfl)) af))) (iN (ak jA hr (by lia) rfl (aa (ak dq hr (by lia) rfl (aa (qv 1) (aa (qv 2) (aa (ay (qv 5) ah (λ_ _=>rfl)) af)))) (aa (qv 4) af))))))
  ag))))),?_⟩
 simp only[a8];let⟨pc,XN⟩:=wq (L:=L) hs kg kd;left;exact Ψ3 L k u ⟨rfl,kg,by lia,kd,hs,gl,?_⟩;left;exact Ψ3 M k _ ⟨rfl,kg,kd,pc.Wm,gl,λx r p hp=>?_,λno p hp=>?_⟩
 ·let⟨es,e,hx,ex⟩:=r
  cases e;left;intro p2 m5;exact Ψ3 p p2 _ ⟨rfl,rfl,by rw[bb (nQ ai m5)];exact ai,ai,?_⟩;left;have g1:(up (up Γ p (.lst [x])) p2 (.lst [])) p=some (.lst [x]):=by rw[bb (nQ ai m5)];exact ai
  exact fm g1 Q8 ?_;left;exact Ψ2 k x ⟨rfl,kg,by lia,hx,true,rfl,?_⟩;left;exact Ψ3 M k x ⟨rfl,kg,by lia,kd,hx,(gl.new hp).new m5,?_⟩;left;exact Ψ2 _ _ ⟨rfl,(wq (L:=M) hx kg kd).1.pl,pc.pl,XN,?_⟩;rw[fB.mpr (by rw[ex])];exact aZ (.trans (.new hp) (.new m5)) q
 ·left
  intro p2 m5;exact Ψ3 p p2 _ ⟨rfl,rfl,by rw[bb (nQ ai m5)];exact ai,ai,?_⟩;left;exact aZ (.trans (.new hp) (.new m5)) q
abbrev jU:Stmt:=top 69
theorem bW:aF ["flow","choice","layings","kind","worth","worths","laying","told","k","found"] ["flow"] (av jU):=Skk
def zY(pT:Addr):fk:=λts Γ Z _=>∃a:Addr,ts=[.ref a]∧aM Γ a∧eL pT Γ∧∀Γ',eL pT Γ'→Z (.bl true) Γ'
theorem eL.U9{o:O}(g:eL pT Γ)(fl:aM Γ a)(h:Γ b=none)(k:Fr [a,b] (up Γ b o) Γ'):eL pT Γ':=by
 show Γ' pT=_
 have nb:pT≠b:=λz=>by subst z;have g:Γ pT=_:=g;rw[h]at g;cases g
 have na:pT≠a:=λz=>by
  subst z;let⟨f0,f1,f2,e,_⟩:=fl;have g:Γ pT=_:=g;rw[e]at g;cases g
 rw[k pT (by simp[na,nb]),bb nb];exact g
theorem EC(F:dP K "_law_right" "_law_right" jU f fd)(nA:b9 P w K mg am "_law_laying" 2 ["flow"] Jf)(aB:b9 P w K mg am "_law_draw" 1 ["flow","many"] qy)(xP:b9 P w K mg am "_law_thing" 31 ["flow","room"] ON)(sZ:b9 P w K mg am "_law_changed" 31 ["flow","kind","worth"] Jg)(b7:b9 P w K mg am "_law_worth" 30 ["flow","kind","room"] (Bl 13))(dq:b9 P w K mg am "picture" 18 ["laying","kind","worth"] (yx pT 6))(bM:b9 P w K mg am "size_of" 6 ["kind"] (pJ 6))(kC:b9 P w K mg am "_law_asked" 22 ["laying","kind","thing"] (DF pT))(jA:b9 P w K mg am "_law_same" 1 ["found","due"] yw)(vm:b9 P w K mg am "_law_across" 23 ["laying","other","kind","worth"] (Jh pT))(aj:mg "isinstance" = none)(aC:mg "tuple" = none)(aT:mg "range" = none)(aU:mg "len" = none)(dz:mg "all" = none):bq P w K mg am fE 32 f fd ["flow"] (cj (zY pT)):=by
 exact kL F bW (λts Γ Z Y h=>?_) (λcy A outer s H E ts Γ Z Y hr h=>?_)
 ·let⟨a,rfl,_⟩:=h
  rfl
 let⟨a,rfl,fl,gl,q⟩:=h;exact⟨_,(ae (az (i:=1) bW.nd rfl (Or.inl rfl) (ak aB hr (by lia) rfl (aa (qv 0) (aa ah af))))
  (ae (az (i:=2) bW.nd rfl (Or.inr rfl) (bF (aa (ak nA hr (by lia) rfl (aa (qv 0) af)) (aa (ak nA hr (by lia) rfl (aa (qv 0) af)) af))))
  (ae (lR (ak xP hr (by lia) rfl (aa (qv 0) (aa ah af))) (dt (n:=2) rfl (aS (aD (i:=3) bW.nd rfl (Or.inr rfl)) (aS (aD (i:=4) bW.nd rfl (Or.inl rfl)) cz))))
  (ae (az (i:=5) bW.nd rfl (Or.inl rfl) (bF (aa (qv 4) af)))
  (ae (fu (aW (ax bj (qv 1) ah (aw _)) (ae (jt (jY aaI abb aba gE (qv 5) (aa (ak sZ hr (by lia) rfl (aa (qv 0) (aa (qv 3) (aa (ay (qv 5) ah (λ_ _=>rfl)) af)))) af)))
  ag) (ae (jt (jY aaI abb aba gE (qv 5) (aa (ak b7 hr (by lia) rfl (aa (qv 0) (aa (qv 3) (aa (bF (aa ah af)) af)))) af)))
  ag)))
  (ae (fS aa6 rfl (kF (qv 2)) (aD (i:=6) bW.nd rfl (Or.inr rfl)) (ae (p7 (i:=7) (own:=["worth"]) (cap:=[(6,"laying"),(3,"kind")]) (cJ rfl (by decide +kernel) (by decide +kernel) rfl (⟨rfl,⟨rfl,trivial⟩⟩) rfl (⟨⟨rfl,rfl,rfl⟩,⟨⟨rfl,rfl,rfl⟩,trivial⟩⟩)) rfl (kF (qv 5)) (λ_ _ _ _=>(aD (i:=0) (show List.Nodup (["worth","laying","kind"]:List Str)from by decide +kernel) rfl (Or.inl rfl) (Or.inr rfl))) (λ_ _ _ _=>bB) (λ_ _ _ _=>(ak dq hr (by lia) rfl (aa (qv 1) (aa (qv 2) (aa (qv 0) af))))) bW.nd rfl rfl)
  (ae (fS aa6 rfl (di rfl aT (aa ah af)) (aD (i:=8) bW.nd rfl (Or.inl rfl)) (ae (aW (PW.pt (cZ (cE (br (cb rfl aj rfl aC bE (ay (qv 7) (qv 8) (λ_ _=>rfl))))) (cO (ax iW (aH cF rfl aU aaD (aa (ay (qv 7) (qv 8) (λ_ _=>rfl)) af)) (ak bM hr (by lia) rfl (aa (qv 3) af)) (aw _))))) (ae (aA iy)
  ag) ag)
  (ae (az (i:=9) bW.nd rfl (Or.inl rfl) (ak kC hr (by lia) rfl (aa (qv 6) (aa (qv 3) (aa (ay (qv 7) (qv 8) (λ_ _=>rfl)) af)))))
  (ae (aW (PW.pt (cZ (ax yS (qv 9) gP (aw _)) (cZ (ax (qR hr.lC) (qv 9) (bF af) (aw _)) (cO (cE (br (ak jA hr (by lia) rfl (aa (ay (qv 9) ah (λ_ _=>rfl)) (aa (ay (qv 5) (qv 8) (λ_ _=>rfl)) af))))))))) (ae (aA iy)
  ag) ag)
  ag))))
  (ae (aW (ax iW (ak jA hr (by lia) rfl (aa (ay (qv 7) ah (λ_ _=>rfl)) (aa (ay (qv 7) ah (λ_ _=>rfl)) af))) (eM (LL (d:=40) (acq (acN (by decide:1+40≤64) _) hr.units)) (ay (qv 5) ah (λ_ _=>rfl)) (ay (qv 5) ah (λ_ _=>rfl)) (aw _)) (aw _)) (ae (aA iy)
  ag) ag)
  ag))))
  (ae (aA (aH (mn rfl) rfl dz aby (aa (cf (own:=["worth"]) (cap:=[(3,"kind"),(2,"layings")]) (cJ rfl (by decide +kernel) (by decide +kernel) rfl (⟨rfl,⟨rfl,trivial⟩⟩) rfl (⟨⟨rfl,rfl,rfl⟩,⟨⟨rfl,rfl,rfl⟩,trivial⟩⟩)) rfl (kF (qv 5)) (λ_ _ _ _=>(aD (i:=0) (show List.Nodup (["worth","kind","layings"]:List Str)from by decide +kernel) rfl (Or.inl rfl) (Or.inr rfl))) (λ_ _ _ _=>bB) (λ_ _ _ _=>(ak vm hr (by lia) rfl (aa (ay (qv 2) ah (λ_ _=>rfl)) (aa (ay (qv 2) ah (λ_ _=>rfl)) (aa (qv 1) (aa (qv 0) af))))))) af)))
  ag))))))),?_⟩
 simp only[a8];left;exact Ψ2 a 4 ⟨rfl,fl,by decide,by decide,λch Γ1 _ _ iE k1=>?_⟩;have Zr:=gl.fr fl k1;left;exact⟨a,rfl,iE,λL Γ2 fJ k2=>?_⟩;have Zq:=Zr.fr iE k2;left;exact⟨a,rfl,fJ,λM Γ3 iR k3=>?_⟩;have U3:=Zq.fr fJ k3;left;intro W hW;left;exact Ψ2 a 50 ⟨rfl,iR.new hW,λk u Γ4 kg kd hs my k4=>?_⟩;have U2:=(U3.new hW).fr (iR.new hW) k4;have Ny:Γ4 W=some (.lst [L.tr,M.tr]):=by rw[k4 W (by simpa using iR.nn hW)];exact ai
 left;intro V hV;have WV:W≠V:=nQ Ny hV;have aV:a≠V:=(my.nn hV).symm;have pV:pT≠V:=nQ U2 hV;left;exact⟨λτ Γ'=>∃v:T,eF k v∧τ=[some (.ref a),some (.int ch),some (.ref W),some k.tr,some u,some (.ref V),none,none,none,none]∧Γ' W=some (.lst [L.tr,M.tr])∧Γ' V=some (.lst [u,v])∧eL pT Γ',?_,?_⟩
 ·left
  exact cD (λc=>?_) (λc=>?_)
  ·left
   exact iS ai ?_;left;exact Ψ3 a k u ⟨rfl,my.new hV,kg,kd,hs,λv Γ5 hv nU k5=>?_⟩;left;have U4:Γ5 V=some (.lst [u]):=by rw[k5 V (by simpa using aV.symm)];exact ai
   exact Ψ3 V _ _ ⟨rfl,rfl,U4,by rw[aa7];show 1<16777216;decide,?_⟩;left;exact⟨v,hv,rfl,?_,ai,?_⟩
   ·rw[bb WV,k5 W (by simpa using(my.V3 Ny).symm),bb WV];exact Ny
   ·have g5:=(U2.new (o:=.lst [u]) hV).fr (my.new hV) k5
    show up Γ5 V _ pT=_
    rw[bb pV];exact g5
  ·left
   exact iS ai ?_;left;intro b hb;left;have Vb:V≠b:=nQ ai hb;have Wb:W≠b:=nQ (show up Γ4 V (.lst [u]) W=_ by rw[bb WV];exact Ny) hb;exact Ψ3 a b k ⟨rfl,(my.new hV).new hb,⟨50,ai⟩,kg,by lia,by lia,λv Γ5 hv nU Ga k5=>?_⟩;left;have U4:Γ5 V=some (.lst [u]):=by rw[k5 V (by simp[aV.symm,Vb]),bb Vb];exact ai
   exact Ψ3 V _ _ ⟨rfl,rfl,U4,by rw[aa7];show 1<16777216;decide,?_⟩;left;exact⟨v,hv,rfl,?_,ai,?_⟩
   ·rw[bb WV,k5 W (by simp[(my.V3 Ny).symm,Wb]),bb Wb,bb WV];exact Ny
   ·have g5:=(U2.new (o:=.lst [u]) hV).U9 (my.new hV) hb k5
    show up Γ5 V _ pT=_
    rw[bb pV];exact g5
 intro τ Γ5⟨v,hv,rfl,gW,gV,RX⟩;left;exact Ψ2 W _ ⟨rfl,bh gW,?_⟩;exact⟨λrest τ Γ'=>∃o6 o7 o8 o9:Option T,(∀x∈rest,∃N:Ly,x=N.tr)∧τ=[some (.ref a),some (.int ch),some (.ref W),some k.tr,some u,some (.ref V),o6,o7,o8,o9]∧Le Γ5 Γ',Ψ4 none none none none ⟨λx hx=>?_,rfl,.refl⟩,?_,?_⟩
 ·simp at hx
  rcases hx with rfl|rfl
  ·exact⟨L,rfl⟩
  ·exact⟨M,rfl⟩
 ·intro τ Γ6⟨o6,o7,o8,o9,_,rfl,l6⟩
  exact⟨bh (l6 _ _ gW),?_⟩;left;exact Ψ2 V _ ⟨rfl,bh (l6 _ _ gV),?_⟩;exact⟨aar (aE (by show 2≤1000;decide)),λrest τ ys Γ'=>∃(o:Option T) (m:Nat),(∀x∈rest,eF k x)∧τ=[o,some k.tr,some (.ref W)]∧ys=(List.replicate m true).map T.bl∧Γ'=Γ6,Ψ2 none 0 ⟨λx hx=>?_,rfl,rfl,rfl⟩,?_,?_⟩
  ·simp at hx
   rcases hx with rfl|rfl
   ·exact hs
   ·exact hv
  ·intro τ ys Γ'⟨o,m,_,rfl,rfl,rfl⟩
   exact⟨bh (l6 _ _ gV),λD hD=>?_⟩;left;exact Ψ2 D (List.replicate m true) ⟨rfl,bh ai,?_⟩;rw[qd];exact aZ .refl (q _ ((show eL pT Γ' from l6 _ _ RX).new hD))
  ·intro x r τ ys Γ'⟨o,m,hx,rfl,rfl,rfl⟩
   exact⟨bh (l6 _ _ gV),?_⟩;left;exact fm (l6 _ _ gW) Q8 ?_;left;exact fm (l6 _ _ gW) Sa ?_;left;exact Ψ4 L M k x ⟨rfl,kg,kd,hx x (by simp),l6 _ _ RX,?_⟩;exact Ψ2 _ (m+1) ⟨λy hy=>hx y (by simp[hy]),rfl,by rw[ab9,aaf];rfl,rfl⟩
 ·intro x r τ Γ6⟨o6,o7,o8,o9,hx,rfl,l6⟩
  let⟨N,rfl⟩:=hx x (by simp);have Zp:eL pT Γ6:=l6 _ _ RX;exact⟨bh (l6 _ _ gW),?_⟩;left;exact Ψ2 V _ ⟨rfl,bh (l6 _ _ gV),?_⟩;exact⟨aar (aE (by show 2≤1000;decide)),λrest τ ys Γ'=>∃(o:Option T) (vs:List T),[u,v]=vs++rest∧τ=[o,some N.tr,some k.tr]∧ys=vs.map (λt=>T.tup (pK N k t))∧Γ'=Γ6,Ψ2 none [] ⟨rfl,rfl,rfl,rfl⟩,?_,?_⟩
  ·intro τ ys Γ'⟨o,vs,ev,rfl,rfl,rfl⟩
   rw[aax]at ev;subst ev;exact⟨bh (l6 _ _ gV),λD hD=>?_⟩;have gD:(up Γ' D (.lst ([u,v].map λt=>T.tup (pK N k t)))) D=some (.lst [.tup (pK N k u),.tup (pK N k v)]):=ai;have l7:Le Γ5 (up Γ' D (.lst ([u,v].map λt=>T.tup (pK N k t)))):=l6.trans (.new hD);generalize up Γ' D (.lst ([u,v].map λt=>T.tup (pK N k t)))=Γ7 at gD l7 ⊢;left;exact⟨_,rfl,by decide,by decide,?_⟩;exact⟨λrest τ Γ'=>∃(j c:Nat) (o8 o9:Option T),rest=ig j c∧j+c=2∧τ=[some (.ref a),some (.int ch),some (.ref W),some k.tr,some u,some (.ref V),some N.tr,some (.ref D),o8,o9]∧Le Γ7 Γ',Ψ4 0 2 _ _ ⟨rfl,rfl,rfl,.refl⟩,?_,?_⟩
   ·intro τ Γ8⟨j,c,o8,o9,er,jc,rfl,l8⟩
    exact⟨trivial,?_⟩;left;exact fm (l8 _ _ gD) Q8 ?_;left;exact fm (l8 _ _ gD) Sa ?_;left;let⟨p1,s1⟩:=wq (L:=N) hs kg kd;let⟨p2,s2⟩:=wq (L:=N) hv kg kd;exact Ψ2 _ _ ⟨rfl,p1.pl,p2.pl,s2,?_⟩;have g8:=l8 _ _ (l7 _ _ gV);left;exact⟨Im kg kd hs hv,?_⟩;have ee:eqT (.tup (pK N k u)) (.tup (pK N k v))=eqT u v:=fi ⟨λh=>by rw[fB.mp h],λh=>fB.mpr (yM N hs kg kd hv (T.tup.inj h))⟩;rw[ee];exact Ψ2 _ _ ⟨rfl,rfl,rfl,?_⟩;left;exact xT (by simp) ?_;left;exact Ψ4 _ _ _ _ ⟨λy hy=>hx y (by simp[hy]),rfl,l7.trans l8⟩
   ·intro x rr τ Γ8⟨j,c,o8,o9,er,jc,rfl,l8⟩
    let⟨c',rfl,rfl,rfl⟩:=dh er;obtain⟨t,ht,Uu,Mn⟩:∃t,[u,v][j]?=some t∧[T.tup (pK N k u),.tup (pK N k v)][j]?=some (.tup (pK N k t))∧eF k t:=by
     have:j=0∨j=1:=by lia
     rcases this with rfl|rfl
     ·exact⟨u,rfl,rfl,hs⟩
     ·exact⟨v,rfl,rfl,hv⟩
    have o:=iz N Mn kg kd;let⟨p1,s1⟩:=wq (L:=N) Mn kg kd;exact⟨trivial,?_⟩;left;exact fm (l8 _ _ gD) (cA Uu) ?_;left;exact Ψ2 _ true ⟨rfl,rfl,?_⟩;left;exact fm (l8 _ _ gD) (cA Uu) ?_;left;exact⟨k,rfl,kg,by lia,?_⟩;rw[o.len];left;exact xT (by simp) ?_;left;exact fm (l8 _ _ gD) (cA Uu) ?_;left;exact Ψ3 N k _ ⟨rfl,kg,kd,p1.Wm,l8 _ _ (l7 _ _ RX),λy r p hp=>?_,λno=>absurd ⟨_,rfl,Mn,rfl⟩ (no t)⟩;let⟨es,e,hy,ey⟩:=r;cases e;have:y=t:=yM N hy kg kd Mn ey;subst this;left;intro p2 m5;have g1:(up (up Γ8 p (.lst [y])) p2 (.lst [])) p=some (.lst [y]):=by rw[bb (nQ ai m5)];exact ai
    have l9:Le Γ7 (up (up Γ8 p (.lst [y])) p2 (.lst [])):=l8.trans (.trans (.new hp) (.new m5));exact Ψ3 p p2 _ ⟨rfl,rfl,g1,ai,?_⟩;left;exact fm (l9 _ _ (l7 _ _ gV)) (cA ht) ?_;left;exact Ψ2 _ _ ⟨rfl,AJ Mn,AJ Mn,by have:=My Mn kg;rw[aa7];lia,?_⟩;rw[fB.mpr rfl];left;exact Ψ4 (j+1) c' _ _ ⟨rfl,by lia,rfl,l9⟩
  ·intro x r τ ys Γ'⟨o,vs,ev,rfl,rfl,rfl⟩
   exact⟨bh (l6 _ _ gV),?_⟩;left;have hx:eF k x:=by
    have:x∈[u,v]:=by rw[ev];simp
    rcases aah.mp this with rfl|h
    ·exact hs
    ·rw[aav.mp h];exact hv
   exact Ψ3 N k x ⟨rfl,kg,by lia,kd,hx,Zp,?_⟩;exact Ψ2 _ (vs++[x]) ⟨by rw[ev];simp,rfl,by rw[aaf];rfl,rfl⟩
abbrev DL:Stmt:=top 70
theorem DK:aF ["script","k"] ["script"] (av DL):=Skk
def DD(K:W.Frag)(pT:Addr):fk:=λts Γ Z _=>∃(a:Addr) (ns:List Int),ts=[.scr K a (ns.map T.int)]∧ns.length≤63∧eL pT Γ∧∀Γ',Z (.bl true) Γ'
theorem HH(F:dP K "law" "law" DL f fd)(xQ:b9 P w K mg am "_law_right" 32 ["flow"] (zY pT))(zE:b9 P w K mg am "_law_flow" 1 ["cell"] OS)(tf:b9 P w K mg am "_law_cell_at" 1 ["script","k"] (OT K))
  (aT:mg "range" = none) (eA:mg "max" = none) (kR:mg "min" = none) (aU:mg "len" = none):bq P w K mg am fE 33 f fd ["script"] (cj (DD K pT)):=by
 exact kL F DK (λts Γ Z Y h=>?_) (λcy A outer s H E ts Γ Z Y hr h=>?_)
 ·let⟨a,ns,rfl,_⟩:=h
  rfl
 let⟨a,ns,rfl,WY,gl,q⟩:=h;exact⟨_,(ae (fS aa6 rfl (di rfl aT (aa (aH (vf rfl) rfl eA ab2 (aa ah (aa (aH (ve rfl) rfl kR adq (aa (aH AS rfl aU aaD (aa (qv 0) af)) (aa ah af))) af))) af)) (aD (i:=1) DK.nd rfl (Or.inl rfl)) (ae (aW (cE (br (ak xQ hr (by lia) rfl (aa (ak zE hr (by lia) rfl (aa (ak tf hr (by lia) rfl (aa (qv 0) (aa (qv 1) af))) af)) af)))) (ae (aA iy)
  ag) ag)
  ag))
  (ae (aA iy)
  ag)),?_⟩
 simp only[a8];left;exact Ψ2 a _ ⟨rfl,?_⟩;rw[aae];left;exact⟨_,rfl,by split<;>split<;>lia,by split<;>split<;>lia,?_⟩
 exact⟨λrest τ Γ'=>∃(lo:Int) (c:Nat) (o:Option T),rest=ig lo c∧0≤lo∧τ=[some (.scr K a (ns.map T.int)),o]∧eL pT Γ',Ψ3 0 _ none ⟨rfl,by lia,rfl,gl⟩,?_,?_⟩
 ·intro τ Γ'⟨lo,c,o,e,l0,rfl,gl⟩
  exact⟨trivial,?_⟩;left;exact aZ .refl (q _)
 ·intro x r τ Γ'⟨lo,c,o,e,l0,rfl,gl⟩
  let⟨c',rfl,rfl,rfl⟩:=dh e;left;exact Ψ3 a ns lo ⟨rfl,l0,λcl=>?_⟩;left;exact⟨cl,rfl,λb Γ2 hb fJ U9=>?_⟩;left;exact⟨b,rfl,fJ,gl.fresh hb U9,λΓ3 U3=>?_⟩;left;exact Ψ3 (lo+1) c' _ ⟨rfl,by lia,rfl,U3⟩
end
def zZ(K:W.Frag)(pT:Addr):Sp:=λvs H Q _=>∃(a:Addr) (ns:List Int),vs=[.ref a]∧Bc pT H∧eh K H a (ns.map V.int)∧ns.length≤63∧∀H',Q (.bl true) H'
theorem L0(vs:List V)(H:Hp)(Q:VK)(E:XK)(h:zZ K pT vs H Q E):cj (DD K pT) vs H Q E:=by
 let⟨a,ns,rfl,hO,hS,WY,q⟩:=h;have sc:IQ K H a (ns.map V.int):=by
  rcases hS with(h|⟨o,h⟩)|h
  ·by_cases e:a=pT
   ·rw[e,hO.1]at h;cases h
   rcases hO.2 a e with z|⟨o,xs,z⟩
   ·rw[h]at z;cases z
   ·rw[h]at z;cases z
  ·exact .inl ⟨o,h⟩
  ·exact .inr h
 exact Ψ4 [.scr K a (ns.map T.int)] (λb=>if b=pT then some (.lam VS (EX gK))else none) (λx _=>x=.bl true) (λ_ _=>False) ⟨bg (O9 sc (eO ns)) bI,λb o h=>?_,Ψ2 a ns ⟨rfl,WY,aaA rfl,λ_=>rfl⟩,λv x H' Γ' _ _ r z=>?_,λ_ _ _ _ _ z=>z.elim⟩
 ·by_cases e:b=pT
  ·subst e
   have h':=(aaA rfl).symm.trans h;cases h';exact .inl hO.1
  ·have h':=(aaz e).symm.trans h
   cases h'
 ·subst z
  rw[sN r];exact q H'
theorem all_mk{l:W.OpenLaw}{h:Heap}{fa f1 f5 f6 f7 f8 f9 f10 f11 f12 f13 f14 f15 f16 f17 f18 f19 f20 f21 f22 f23 f24 f25 f26 f27 f28 f29 f30 f31 f32 f33 f34 f35 f36 f37 f38 f39 f40 f41 f42 f43 f44 f45:Addr}{g1 g2 g3 g4 g5 g6 g7 g8 g9 Z5 Z4 Z3 Z2 Z1 Z0 ZZ ZY ZX ZW ZV ZU ZT ZS ZR ZQ ZP ZO ZN ZM ZL ZK ZJ ZI ZH ZG ZF ZE ZD ZC ZA Zz Zy Zx Zw W2:FuncData}(X:K.In h)(G:h.Ns mainGlobals mg)(Y7:mg "law" = some (.ref fa))
  (d1:Dg K "is_whole" lQ f1 g1) (d2:Dg K "size_of" kD f2 g2) (d3:Dg K "in_order" gK f3 g3) (d4:Dg K "field_offsets" fR f4 g4) (d5:Dg K "is_sign" oj f5 g5) (d6:Dg K "is_word" oi f6 g6) (d7:Dg K "words_of_number" eZ f7 g7) (d8:Dg K "number_of_words" fb f8 g8) (d9:Dg K "words_of_text" fO f9 g9) (d10:Dg K "text_of_signs" fQ f10 Z5) (d11:Dg K "picture" kE f11 Z4) (d12:Dg K "row_entry" iu f12 Z3) (d13:Dg K "record_picture" dU f13 Z2) (d14:Dg K "choice_picture" dW f14 Z1) (d15:Dg K "joined" qF f15 Z0) (d16:Dg K "of_picture" jk f16 ZZ) (d17:Dg K "worth_at" ji f17 ZY) (d18:Dg K "number_read" iJ f18 ZX) (d19:Dg K "text_read" jR f19 ZW) (d20:Dg K "array_read" gn f20 ZV) (d21:Dg K "chain_read" gj f21 ZU) (d22:Dg K "choice_read" fA f22 ZT) (d23:Dg K "_law_cell_at" iM f23 ZS) (d24:Dg K "_law_flow" lN f24 ZR) (d25:Dg K "_law_draw" lP f25 ZQ) (d26:Dg K "_law_name" lL f26 ZP) (d27:Dg K "_law_kind" jq f27 ZO) (d28:Dg K "_law_sign" lI f28 ZN) (d29:Dg K "_law_number" jn f29 ZM) (d30:Dg K "_law_many" lM f30 ZL) (d31:Dg K "_law_leaves" gi f31 ZK) (d32:Dg K "_law_worth" iw f32 ZJ) (d33:Dg K "_law_broad" jV f33 ZI) (d34:Dg K "_law_thing" jT f34 ZH) (d35:Dg K "_law_laying" jo f35 ZG) (d36:Dg K "_law_path" lK f36 ZF) (d37:Dg K "_law_kind_at" iK f37 ZE) (d38:Dg K "_law_whole" jS f38 ZD) (d39:Dg K "_law_is_worth" fe f39 ZC) (d40:Dg K "_law_same" lJ f40 ZA) (d41:Dg K "_law_asked" jW f41 Zz) (d42:Dg K "_law_changed" iL f42 Zy) (d43:Dg K "_law_across" jr f43 Zx) (d44:Dg K "_law_right" jU f44 Zw) (d45:Dg K "law" DL f45 W2)
  (zs:Zs K ["len","max","min","range","tuple","isinstance","int","bool","str","list","zip","sum","sorted","ord","divmod","reversed","all","bytes","ValueError"])
  {u1:Value} (gk1:W.nsIn K mainGlobals "WORD_NUMBERS" = some (some u1)) (q1:RelV (.int 65536) u1)
  {u2:Value} (gk2:W.nsIn K mainGlobals "MOST_ITEMS" = some (some u2)) (q2:RelV (.int 60) u2)
  {u3:Value} (gk3:W.nsIn K mainGlobals "MOST_SIGNS" = some (some u3)) (q3:RelV (.int 60) u3)
  {u4:Value} (gk4:W.nsIn K mainGlobals "FIRST_SIGN" = some (some u4)) (q4:RelV (.int 32) u4)
  {u5:Value} (gk5:W.nsIn K mainGlobals "LAST_SIGN" = some (some u5)) (q5:RelV (.int 126) u5)
  {u6:Value} (gk6:W.nsIn K mainGlobals "HUNDREDTH_SIGN" = some (some u6)) (q6:RelV (.int 37) u6)
  {rV:Addr} (gcGateError:W.nsIn K mainGlobals "GateError" = some (some (.ref rV)))
  {bL:Addr} (gcNoPicture:W.nsIn K mainGlobals "NoPicture" = some (some (.ref bL)))
  {JS:Addr} (gcFull:W.nsIn K mainGlobals "Full" = some (some (.ref JS)))
  {xV:Addr} (gcNoBlock:W.nsIn K mainGlobals "NoBlock" = some (some (.ref xV)))
  {A6:Addr} (gcNoDoor:W.nsIn K mainGlobals "NoDoor" = some (some (.ref A6)))
  {A5:Addr} (gcNoPart:W.nsIn K mainGlobals "NoPart" = some (some (.ref A5)))
  {rT:Addr} (gcNoProgram:W.nsIn K mainGlobals "NoProgram" = some (some (.ref rT)))
  {A4:Addr} (gcNoRoom:W.nsIn K mainGlobals "NoRoom" = some (some (.ref A4)))
  {A0:Addr} (gcNoText:W.nsIn K mainGlobals "NoText" = some (some (.ref A0)))
  {xU:Addr} (gcNoThing:W.nsIn K mainGlobals "NoThing" = some (some (.ref xU)))
  {AZ:Addr} (gcNoWord:W.nsIn K mainGlobals "NoWord" = some (some (.ref AZ)))
  {uc:Addr} (gcNoWorths:W.nsIn K mainGlobals "NoWorths" = some (some (.ref uc)))
  {rS:Addr} (gcWrongHand:W.nsIn K mainGlobals "WrongHand" = some (some (.ref rS)))
  (xNoPicture:W.excIn K bL [.type "ValueError",.type "Exception",.type "BaseException",.type "object"] "ValueError.__new__" = true)
  (xm:W.exmOne K (.ref bL) (.ref rV)=some true)
  (ka:W.kitAny K (.ref bL) [.ref JS,.ref xV,.ref A6,.ref A5,.ref rT,.ref A4,.ref A0,.ref xU]=some false)
  (kb:W.kitAny K (.ref bL) [.ref AZ,.ref uc,.ref rS]=some false)
  (kn:W.kitOne K (.ref bL) (.ref bL)=some true)
  (kv:W.kitOne K (.ref bL) (.type "ValueError")=some true)
  (e1:W.findIn K (.ref bL) "__getattribute__" = some (some (.builtin "BaseException.__getattribute__")))
  (e2:W.findIn K (.ref bL) "__getattr__" = some none)
  (e3:W.findIn K (.ref bL) "__class__" = some (some (.builtin "object.__class__")))
  (e4:W.specialIn K (.builtin "object.__class__") "__get__" = some (some (.builtin "getset_descriptor.__get__")))
  (e5:W.takesIn K (.builtin "object.__class__")=some true)
  (e6:W.mroIn K bL (.type "object")=some true)
  (e7:W.mroIn K bL (.type "BaseException")=some true)
   (zj:g3.code=.ref cT) (zk:W.codeHdIn K cT pT=true) :
  ∃fd:FuncData,(∀(s:Shared) (v:Value),BindsTo s fd ⟨[v],[]⟩ [("script",v)])∧∀am:Heap,K.In am→am.Ns mainGlobals mg→IV mg am pT→bq l.prog w K mg am fE 33 fa fd ["script"] (zZ K pT):=by
 have d1:=d1.df (ps:=["thing"]) X G λ_ _ _ _ _ _=>L3.yk (λ_=>rfl);have d2:=d2.df (ps:=["kind"]) X G λ_ _ _ _ _ _=>L3.yk (λ_=>rfl);have d3:=d3.df (ps:=["laying","fields"]) X G λ_ _ _ _ _ _=>L3.zP (λ_ _=>rfl);have d4:=d4.df (ps:=["laying","fields"]) X G λ_ _ _ _ _ _=>L3.zP (λ_ _=>rfl);have d5:=d5.df (ps:=["number"]) X G λ_ _ _ _ _ _=>L3.yk (λ_=>rfl);have d6:=d6.df (ps:=["thing"]) X G λ_ _ _ _ _ _=>L3.yk (λ_=>rfl);have d7:=d7.df (ps:=["halves","width","number"]) X G λ_ _ _ _ _ _=>L3.Bi (λ_ _ _=>rfl);have d8:=d8.df (ps:=["halves","words"]) X G λ_ _ _ _ _ _=>L3.zP (λ_ _=>rfl);have d9:=d9.df (ps:=["texts","text"]) X G λ_ _ _ _ _ _=>L3.zP (λ_ _=>rfl);have d10:=d10.df (ps:=["signs"]) X G λ_ _ _ _ _ _=>L3.yk (λ_=>rfl);have d11:=d11.df (ps:=["laying","kind","worth"]) X G λ_ _ _ _ _ _=>L3.Bi (λ_ _ _=>rfl);have d12:=d12.df (ps:=["laying","kind","items"]) X G λ_ _ _ _ _ _=>L3.Bi (λ_ _ _=>rfl);have d13:=d13.df (ps:=["laying","fields","parts"]) X G λ_ _ _ _ _ _=>L3.Bi (λ_ _ _=>rfl);have d14:=d14.df (ps:=["laying","kind","pair"]) X G λ_ _ _ _ _ _=>L3.Bi (λ_ _ _=>rfl);have d15:=d15.df (ps:=["pictures"]) X G λ_ _ _ _ _ _=>L3.yk (λ_=>rfl);have d16:=d16.df (ps:=["laying","kind","thing"]) X G λ_ _ _ _ _ _=>L3.Bi (λ_ _ _=>rfl);have d17:=d17.df (ps:=["laying","kind","entries","place"]) X G λ_ _ _ _ _ _=>L3.Sk (λ_ _ _ _=>rfl);have d18:=d18.df (ps:=["halves","words"]) X G λ_ _ _ _ _ _=>L3.zP (λ_ _=>rfl);have d19:=d19.df (ps:=["texts","block"]) X G λ_ _ _ _ _ _=>L3.zP (λ_ _=>rfl);have d20:=d20.df (ps:=["laying","kind","block"]) X G λ_ _ _ _ _ _=>L3.Bi (λ_ _ _=>rfl);have d21:=d21.df (ps:=["laying","kind","entry"]) X G λ_ _ _ _ _ _=>L3.Bi (λ_ _ _=>rfl);have d22:=d22.df (ps:=["laying","kind","entries","place"]) X G λ_ _ _ _ _ _=>L3.Sk (λ_ _ _ _=>rfl);have d23:=d23.df (ps:=["script","k"]) X G λ_ _ _ _ _ _=>L3.zP (λ_ _=>rfl);have d24:=d24.df (ps:=["cell"]) X G λ_ _ _ _ _ _=>L3.yk (λ_=>rfl);have d25:=d25.df (ps:=["flow","many"]) X G λ_ _ _ _ _ _=>L3.zP (λ_ _=>rfl);have d26:=d26.df (ps:=["flow","taken"]) X G λ_ _ _ _ _ _=>L3.zP (λ_ _=>rfl);have d27:=d27.df (ps:=["flow","depth","room"]) X G λ_ _ _ _ _ _=>L3.Bi (λ_ _ _=>rfl);have d28:=d28.df (ps:=["flow"]) X G λ_ _ _ _ _ _=>L3.yk (λ_=>rfl);have d29:=d29.df (ps:=["flow","width"]) X G λ_ _ _ _ _ _=>L3.zP (λ_ _=>rfl);have d30:=d30.df (ps:=["flow"]) X G λ_ _ _ _ _ _=>L3.yk (λ_=>rfl);have d31:=d31.df (ps:=["kind"]) X G λ_ _ _ _ _ _=>L3.yk (λ_=>rfl);have d32:=d32.df (ps:=["flow","kind","room"]) X G λ_ _ _ _ _ _=>L3.Bi (λ_ _ _=>rfl);have d33:=d33.df (ps:=["flow"]) X G λ_ _ _ _ _ _=>L3.yk (λ_=>rfl);have d34:=d34.df (ps:=["flow","room"]) X G λ_ _ _ _ _ _=>L3.zP (λ_ _=>rfl);have d35:=d35.df (ps:=["flow"]) X G λ_ _ _ _ _ _=>L3.yk (λ_=>rfl);have d36:=d36.df (ps:=["flow","kind","worth"]) X G λ_ _ _ _ _ _=>L3.Bi (λ_ _ _=>rfl);have d37:=d37.df (ps:=["kind","path"]) X G λ_ _ _ _ _ _=>L3.zP (λ_ _=>rfl);have d38:=d38.df (ps:=["thing"]) X G λ_ _ _ _ _ _=>L3.yk (λ_=>rfl);have d39:=d39.df (ps:=["kind","thing"]) X G λ_ _ _ _ _ _=>L3.zP (λ_ _=>rfl);have d40:=d40.df (ps:=["found","due"]) X G λ_ _ _ _ _ _=>L3.zP (λ_ _=>rfl);have d41:=d41.df (ps:=["laying","kind","thing"]) X G λ_ _ _ _ _ _=>L3.Bi (λ_ _ _=>rfl);have d42:=d42.df (ps:=["flow","kind","worth"]) X G λ_ _ _ _ _ _=>L3.Bi (λ_ _ _=>rfl);have d43:=d43.df (ps:=["laying","other","kind","worth"]) X G λ_ _ _ _ _ _=>L3.Sk (λ_ _ _ _=>rfl);have d44:=d44.df (ps:=["flow"]) X G λ_ _ _ _ _ _=>L3.yk (λ_=>rfl);have d45:=d45.df (ps:=["script"]) X G λ_ _ _ _ _ _=>L3.yk (λ_=>rfl);have e:=Y7.symm.trans d45.m;cases e;obtain⟨aU,eA,kR,aT,aC,aj,mD,jb,il,yf,gG,jD,qg,CD,qh,ft,dz,ui,jd,_⟩:=zs.m X G;exact⟨W2,λs v=>?_,λam _ _ zm=>?_⟩
 ·let⟨_,_,_,_,_,_,_,_,_,rfl,_⟩:=d45.F.ex
  exact .of_eq rfl
 have bK:=aaZ X G gk1;have cg:=aaZ X G gk2;have jx:=aaZ X G gk3;have jy:=aaZ X G gk4;have j9:=aaZ X G gk5;have fw:=aaZ X G gk6;have kc:=aaZ X G gcGateError;have aJ:=aaZ X G gcNoPicture;have za:=aaZ X G gcFull;have oJ:=aaZ X G gcNoBlock;have rh:=aaZ X G gcNoDoor;have rf:=aaZ X G gcNoPart;have j8:=aaZ X G gcNoProgram;have rd:=aaZ X G gcNoRoom;have qZ:=aaZ X G gcNoText;have oI:=aaZ X G gcNoThing;have qY:=aaZ X G gcNoWord;have lX:=aaZ X G gcNoWorths;have j7:=aaZ X G gcWrongHand;have ex:Ck K bL:=⟨e1,e2,e3,e4,e5,e6,e7,Iy xNoPicture⟩;have D24:=d24.cl (HJ (P:=l.prog) (w:=w) (am:=am) d24.F eA);have Vz:=d25.cl (HK (P:=l.prog) (w:=w) (am:=am) d25.F);have Xj:=d26.cl (HE (P:=l.prog) (w:=w) (am:=am) d26.F Vz aU eA aT);have IU:=IJ Vz;have C28:=d28.cl (HB (P:=l.prog) (w:=w) (am:=am) d28.F IU);have C29:=d29.cl (Bx (P:=l.prog) (w:=w) (am:=am) d29.F IU);have C30:=d30.cl (HG (P:=l.prog) (w:=w) (am:=am) d30.F IU);have C26:=IG Xj;have C35:=d35.cl (Bz (P:=l.prog) (w:=w) (am:=am) d35.F IU aT aC);have C3:=d3.cl (wF (P:=l.prog) (w:=w) (am:=am) d3.F zj zk zm aC qg);have C7:=d7.cl (lV (P:=l.prog) (w:=w) (am:=am) d7.F bK (gl_int q1) aT qh aC);have C9:=d9.cl (oE (P:=l.prog) (w:=w) (am:=am) d9.F CD aU aC);have C15:=d15.cl (BA (P:=l.prog) (w:=w) (am:=am) d15.F aC);have C1:=d1.cl (wD (P:=l.prog) (w:=w) (am:=am) d1.F aj mD jb);have C5:=d5.cl (yY (P:=l.prog) (w:=w) (am:=am) d5.F jy (gl_int q4) j9 (gl_int q5) fw (gl_int q6));have C6:=d6.cl (yX (P:=l.prog) (w:=w) (am:=am) d6.F C1 bK (gl_int q1));have C8:=d8.cl (lW (P:=l.prog) (w:=w) (am:=am) d8.F bK (gl_int q1));have C10:=d10.cl (oF (P:=l.prog) (w:=w) (am:=am) d10.F ui);have C18:=d18.cx (qU (P:=l.prog) (w:=w) (am:=am) d18.F aJ xNoPicture C6 C8 dz);have C19:=d19.cx (uM (P:=l.prog) (w:=w) (am:=am) d19.F aJ xNoPicture C6 C5 C10 jx (gl_int q3) aj aC aU dz);have Xl:=d40.cl (HC (P:=l.prog) (w:=w) (am:=am) d40.F aj aC il mD jb aU yf gG);have C23:=d23.cl (ED (P:=l.prog) (w:=w) (am:=am) d23.F aU);have C24:=II D24;have D27:=kind_all (P:=l.prog) (w:=w) (am:=am) d27.F d27.m d27.k d27.b Vz Xj aT aC 10;have C31:=rk (P:=l.prog) (w:=w) (am:=am) d31.F d31.m d31.k d31.b jD 13;have VB:=tE (P:=l.prog) (w:=w) (am:=am) d32.F d32.m d32.k d32.b IU C29 C30 C28 C31 kR eA aT aC aU 13;have C2:=qz (P:=l.prog) (w:=w) (am:=am) d2.F d2.m d2.k d2.b jD eA 6;have Xn:=ph (P:=l.prog) (w:=w) (am:=am) d11.F d11.m d11.k d11.b d12.F d12.m d12.k d12.b d13.F d13.m d13.k d13.b d14.F d14.m d14.k d14.b C15 C3 C2 C7 C9 aU ft gG 6;have C38:=d38.cl (EA (P:=l.prog) (w:=w) (am:=am) d38.F aj mD jb);have C39:=qj (P:=l.prog) (w:=w) (am:=am) d39.F d39.m d39.k d39.b C38 aj il aU dz aC gG 6;have C37:=d37.cl (yW (P:=l.prog) (w:=w) (am:=am) d37.F aj il);have C36:=d36.cl (HD (P:=l.prog) (w:=w) (am:=am) d36.F IU aT aU);have C42:=d42.cl (yZ (P:=l.prog) (w:=w) (am:=am) d42.F C36 C37 VB aT aU);have Xm:=IH D27;have C33:=d33.cl (EF (P:=l.prog) (w:=w) (am:=am) d33.F IU C26 Xm aT aC);have C34:=d34.cl (EB (P:=l.prog) (w:=w) (am:=am) d34.F IU Xm VB C33);have C4:=d4.cl (oG (P:=l.prog) (w:=w) (am:=am) d4.F C3 C2);have C17:=tN (P:=l.prog) (w:=w) (am:=am) d17.F d17.m d17.k d17.b d20.F d20.m d20.k d20.b d21.F d21.m d21.k d21.b d22.F d22.m d22.k d22.b C6 C3 C2 C18 C19 C4 aJ xNoPicture cg (gl_int q2) aj aC aU aT dz 6;have C16:=d16.cx (sH (P:=l.prog) (w:=w) (am:=am) d16.F aJ xNoPicture C17 C2 aj aC aU);have Xk:=d41.cl (EG (P:=l.prog) (w:=w) (am:=am) d41.F C16 kc aJ za oJ rh rf j8 rd qZ oI qY lX j7 xm ka kb kn kv ex aj jd);have C43:=d43.cl (BB (P:=l.prog) (w:=w) (am:=am) d43.F Xn Xk C39 Xl);have C44:=d44.cl (EC (P:=l.prog) (w:=w) (am:=am) d44.F C35 IU C34 C42 VB Xn C2 Xk Xl C43 aj aC aT aU dz);exact(HH d45.F C44 C24 C23 aT eA kR aU).imp L0
theorem walk{l:W.OpenLaw}{q:Program}{loose:List Str}{XP:(ac)→Heap→Prop}{YP:World→Heap→Prop}{d:DefRec}{K:Params→W.Frag}{c P:Addr}(hn:l.most=some 63)(JE:d.params.defaults=[])
  (hY:∀(w:World) (h:Heap),YP w h→(K w.params).In h) (hT:∀(w:World) (h:Heap),YP w h→h.get? P=some (W.tabObj #[])) (hC:∀w:World,W.codeHdIn (K w.params) c P=true) (QA:∀w:World,(K w.params).lookup P=none)
  (F:∀(w:World) (mg:ac) (fa:Addr) (h:Heap),(K w.params).In h→h.Ns mainGlobals mg→mg d.name=some (.ref fa)→
   ∃fd:FuncData,(∀(s:Shared) (u:Value),BindsTo s fd ⟨[u],[]⟩ [("script",u)])∧∀am:Heap,(K w.params).In am→am.Ns mainGlobals mg→IV mg am P→bq l.prog w (K w.params) mg am fE 33 fa fd ["script"] (zZ (K w.params) P)) :
  W.WalkO q loose XP YP l.row.toRowW d [] (λf vs=>PySem.call f vs):=
 L2.CU (n:=63) (k:=33) (x := "script") (CX:=λ_=>fE) (sp:=λw=>zZ (K w.params) P) hn (by decide) JE ⟨rfl,by decide,by decide⟩ hY hT hC QA F (λ_ _ a ns hl hO hS=>Ψ2 a ns ⟨rfl,hO,hS,hl,λ_=>rfl⟩) λ_ _ _ _ _ z=>z
end Tg
open PySem PySem.W PyProof.Rows
def PySem.W.Fast.tw11265928238977489914:Unit:=()
def PySem.W.Fast.tw16826697454179446089:Unit:=()
def PySem.W.Fast.tw2309421671874669360:Unit:=()
def PySem.W.Fast.tw1539984704264636117:Unit:=()
def PySem.W.Fast.tw15405826034900808459:Unit:=()
def PySem.W.Fast.tw4474330691372796194:Unit:=()
def PySem.W.Fast.tw10870428839490658670:Unit:=()
def PySem.W.Fast.tw5546941371906633344:Unit:=()
def PySem.W.Fast.tw8393537760075781023:Unit:=()
def PySem.W.Fast.tw16833021501815876935:Unit:=()
def PySem.W.Fast.tw3619094252404146774:Unit:=()
def PySem.W.Fast.tw15578909081402905492:Unit:=()
def PySem.W.Fast.tw18066992693896003854:Unit:=()
def PySem.W.Fast.tw11079894690545051888:Unit:=()
def PySem.W.Fast.tw14982908801361804912:Unit:=()
def PySem.W.Fast.tw11738627716856474571:Unit:=()
def PySem.W.Fast.tw9305061692811103982:Unit:=()
def PySem.W.Fast.tw11196001585059065427:Unit:=()
def PySem.W.Fast.tw4087705307500703826:Unit:=()
def PySem.W.Fast.tw2674327079164775700:Unit:=()
def PySem.W.Fast.tw15766454946324217718:Unit:=()
def PySem.W.Fast.tw6083411619623702627:Unit:=()
def PySem.W.Fast.tw1890640827857807236:Unit:=()
def PySem.W.Fast.tw3952344739864619647:Unit:=()
def PySem.W.Fast.tw6116595533362406690:Unit:=()
def PySem.W.Fast.tw16006029273764887320:Unit:=()
def PySem.W.Fast.tw18062940644512807063:Unit:=()
def PySem.W.Fast.tw4328644629301360615:Unit:=()
def PySem.W.Fast.tw8094875735202190818:Unit:=()
def PySem.W.Fast.tw3738455816567905674:Unit:=()
def PySem.W.Fast.tw525975571436431257:Unit:=()
def PySem.W.Fast.tw11324809926496314744:Unit:=()
def PySem.W.Fast.tw12622590616906822316:Unit:=()
def PySem.W.Fast.tw3106403765863423168:Unit:=()
def PySem.W.Fast.tw12063867923836986982:Unit:=()
def PySem.W.Fast.tw715850653120581408:Unit:=()
def PySem.W.Fast.tw1546285604869024921:Unit:=()
def PySem.W.Fast.tw14609655251217307569:Unit:=()
def PySem.W.Fast.tw13814494381290461984:Unit:=()
def PySem.W.Fast.tw13375366298174643317:Unit:=()
def PySem.W.Fast.tw4419831341057875686:Unit:=()
def PySem.W.Fast.tw4692815257124058000:Unit:=()
def PySem.W.Fast.tw16881502121274279613:Unit:=()
def PySem.W.Fast.tw11406342030140751271:Unit:=()
def PySem.W.Fast.tw3572177670034891818:Unit:=()
def PySem.W.Fast.tw3842342674900925921:Unit:=()
def PySem.W.Fast.tw785395264201851238:Unit:=()
def PySem.W.Fast.tw12507468799512157813:Unit:=()
def PySem.W.Fast.tw16107879982696504297:Unit:=()
def PySem.W.Fast.tw17087648109583174096:Unit:=()
def PySem.W.Fast.tw12803465477731854847:Unit:=()
def PySem.W.Fast.tw6496908310036083052:Unit:=()
def PySem.W.Fast.tw14870813094216589384:Unit:=()
def PySem.W.Fast.tw3570318941529309764:Unit:=()
def PySem.W.Fast.tw8353893285051571194:Unit:=()
def PySem.W.Fast.tw17497340437551187415:Unit:=()
def PySem.W.Fast.tw4576241978616233276:Unit:=()
def PySem.W.Fast.tw16398284018732937214:Unit:=()
def PySem.W.Fast.tw3294159294363687605:Unit:=()
def PySem.W.Fast.tw8244265649341073069:Unit:=()
def PySem.W.Fast.tw11483103505957158914:Unit:=()
def PySem.W.Fast.tw13084075352113856043:Unit:=()
def PySem.W.Fast.tw16197825160426630370:Unit:=()
def PySem.W.Fast.tw16822453144855908125:Unit:=()
def PySem.W.Fast.tw1170116763313445638:Unit:=()
def PySem.W.Fast.tw18411065978451289170:Unit:=()
def PySem.W.Fast.tw1366969199674680200:Unit:=()
def PySem.W.Fast.tw11074461676846285431:Unit:=()
def PySem.W.Fast.tw6863664616191501387:Unit:=()
def PySem.W.Fast.tw4249432414830304602:Unit:=()
def PySem.W.Fast.tw16007043086070666082:Unit:=()
def PySem.W.Fast.tw6248666438035840385:Unit:=()
def PySem.W.Fast.tw2237222942122800740:Unit:=()
def PySem.W.Fast.tw5951574679612863320:Unit:=()
def PySem.W.Fast.tw14135107476824164523:Unit:=()
def PySem.W.Fast.tw7973560617062735257:Unit:=()
def PySem.W.Fast.tw6362646458419910781:Unit:=()
def PySem.W.Fast.tw7838095871064354768:Unit:=()
def PySem.W.Fast.tw7321178749026660913:Unit:=()
def PySem.W.Fast.tw3192921330760815069:Unit:=()
def PySem.W.Fast.tw17837545981805906097:Unit:=()
def PySem.W.Fast.tw10450737561885585903:Unit:=()
def PySem.W.Fast.tw5852106739131233078:Unit:=()
def PySem.W.Fast.tw15095604982231886703:Unit:=()
def PySem.W.Fast.tw600147101476263732:Unit:=()
def PySem.W.Fast.tw17002107035376642735:Unit:=()
def PySem.W.Fast.tw1679122133124917002:Unit:=()
def PySem.W.Fast.tw16400394180629437808:Unit:=()
def PySem.W.Fast.tw5227984752554546003:Unit:=()
def PySem.W.Fast.tw12128462038244014063:Unit:=()
def PySem.W.Fast.tw12294958351729578890:Unit:=()
def PySem.W.Fast.tw15744115947492602747:Unit:=()
def PySem.W.Fast.tw12291198590172075855:Unit:=()
def PySem.W.Fast.tw783767104940073409:Unit:=()
def PySem.W.Fast.tw5374084066883034146:Unit:=()
def PySem.W.Fast.tw17336039957614139956:Unit:=()
def PySem.W.Fast.tw17797358335018534409:Unit:=()
def PySem.W.Fast.tw13489849639901202755:Unit:=()
def PySem.W.Fast.tw8603306153099878542:Unit:=()
def PySem.W.Fast.tw7186384832916364794:Unit:=()
def PySem.W.Fast.tw7711138463197340837:Unit:=()
def PySem.W.Fast.tw16151613188982005800:Unit:=()
def PySem.W.Fast.tw4957809060354878459:Unit:=()
def PySem.W.Fast.tw4858506051105112457:Unit:=()
def PySem.W.Fast.tw1245362680805473281:Unit:=()
def PySem.W.Fast.tw12196219480711436372:Unit:=()
def PySem.W.Fast.tw13515926790078295945:Unit:=()
def PySem.W.Fast.tw17919108333805031758:Unit:=()
def PySem.W.Fast.tw17962280023775274246:Unit:=()
def PySem.W.Fast.tw16654585675473804172:Unit:=()
def PySem.W.Fast.tw15852307968038304204:Unit:=()
def PySem.W.Fast.tw14262236693548675848:Unit:=()
def PySem.W.Fast.tw4977781909278342697:Unit:=()
def PySem.W.Fast.tw5869141419323601541:Unit:=()
def PySem.W.Fast.tw3191983540251818553:Unit:=()
def PySem.W.Fast.tw13187123953253546985:Unit:=()
def PySem.W.Fast.tw12370228207057675424:Unit:=()
def PySem.W.Fast.tw13865810505428670895:Unit:=()
def PySem.W.Fast.tw7249062102134551347:Unit:=()
def PySem.W.Fast.tw14652141067876580984:Unit:=()
def PySem.W.Fast.tw9869813765165684473:Unit:=()
def PySem.W.Fast.tw10509244314146419652:Unit:=()
def PySem.W.Fast.tw8105865751641139890:Unit:=()
def PySem.W.Fast.tw17957512111204378229:Unit:=()
def PySem.W.Fast.tw15173097305251822783:Unit:=()
def PySem.W.Fast.tw10740818008923333617:Unit:=()
def PySem.W.Fast.tw12882666347771430884:Unit:=()
def PySem.W.Fast.tw14071063334519426499:Unit:=()
def PySem.W.Fast.tw13685840497558686473:Unit:=()
def PySem.W.Fast.tw4600478347917668671:Unit:=()
def PySem.W.Fast.tw1637753340632494815:Unit:=()
def PySem.W.Fast.tw15218037612863119451:Unit:=()
def PySem.W.Fast.tw10551577112169869111:Unit:=()
def PySem.W.Fast.tw12188656179171877828:Unit:=()
def PySem.W.Fast.tw1477495232734870672:Unit:=()
def PySem.W.Fast.tw2525377964787513680:Unit:=()
def PySem.W.Fast.tw3235502163836942428:Unit:=()
def PySem.W.Fast.tw6749853970601234962:Unit:=()
def PySem.W.Fast.tw453639683630818465:Unit:=()
def PySem.W.Fast.tw12847144962160457730:Unit:=()
def PySem.W.Fast.tw4195988030002618955:Unit:=()
def PySem.W.Fast.tw13158237291475183849:Unit:=()
def PySem.W.Fast.tw11585894057274839584:Unit:=()
def PySem.W.Fast.tw16790623241189593665:Unit:=()
def PySem.W.Fast.tw7120309607005531009:Unit:=()
def PySem.W.Fast.tw4762446883627973569:Unit:=()
def PySem.W.Fast.tw16925547468802558819:Unit:=()
def PySem.W.Fast.tw353383882802576996:Unit:=()
def PySem.W.Fast.tw6181025171397858052:Unit:=()
def PySem.W.Fast.tw3300853598282938374:Unit:=()
def PySem.W.Fast.tw2578949083646797702:Unit:=()
def PySem.W.Fast.tw5775405322561352135:Unit:=()
def PySem.W.Fast.tw606317043228004071:Unit:=()
def PySem.W.Fast.tw7513650912695827335:Unit:=()
def PySem.W.Fast.tw2686890339085502570:Unit:=()
def PySem.W.Fast.tw13025554665600717868:Unit:=()
def PySem.W.Fast.tw2961154941171934572:Unit:=()
def PySem.W.Fast.tw6214560145738604140:Unit:=()
def PySem.W.Fast.tw13381538141494714093:Unit:=()
def PySem.W.Fast.tw41924804838879854:Unit:=()
def PySem.W.Fast.tw4685038908041648207:Unit:=()
def PySem.W.Fast.tw14937133698844705327:Unit:=()
def PySem.W.Fast.tw16195305085781367439:Unit:=()
def PySem.W.Fast.tw5290536592512340911:Unit:=()
def PySem.W.Fast.tw16240190238964409488:Unit:=()
def PySem.W.Fast.tw7682346189698513201:Unit:=()
def PySem.W.Fast.tw11888912790242995699:Unit:=()
def PySem.W.Fast.tw5099317490621930355:Unit:=()
def PySem.W.Fast.tw2466141412035803123:Unit:=()
def PySem.W.Fast.tw12105262879034584820:Unit:=()
def PySem.W.Fast.tw3308013556668899701:Unit:=()
def PySem.W.Fast.tw4618264864895912757:Unit:=()
def PySem.W.Fast.tw10363464319966288248:Unit:=()
def PySem.W.Fast.tw16935042047962084921:Unit:=()
def PySem.W.Fast.tw11487308884203260697:Unit:=()
def PySem.W.Fast.tw3466494721092009658:Unit:=()
def PySem.W.Fast.tw8144986700462545595:Unit:=()
def PySem.W.Fast.tw10237302166677722590:Unit:=()
def PySem.W.Fast.tw5765943759188871966:Unit:=()
def PySem.W.Fast.tw9942951759797582654:Unit:=()
def PySem.W.Fast.tw2863427427730685854:Unit:=()
def PySem.W.Fast.tw13701188392647722687:Unit:=()
def PySem.W.Fast.tw10310547990757569860:Unit:=()
set_option maxRecDepth 100000 in
set_option maxHeartbeats 0 in
theorem PySem.Challenge.cw_tonguegate_k11_whole_read_back_holds : PySem.Challenge.rw_tonguegate_k11_whole_read_back.Holds := by
 w_on;o_law;k_head;(case hw=>w_witness2)
 k_fill
 exact Tg.walk (l:=PySem.Challenge.rw_tonguegate_k11_whole_read_back) (c:=189) (P:=185) rfl rfl (λw h Y=>PySem.W.km_in_of Y) (λw h Y=>PySem.W.km_tabs_of Y 185 (by simp)) (λw=>by kernel_rfl) (λw=>by kernel_rfl) ?F
 case F=>
  intro w mg fa h KX G Ql;refine' Tg.all_mk KX G Ql ?d1 ?d2 ?d3 ?d4 ?d5 ?d6 ?d7 ?d8 ?d9 ?d10 ?d11 ?d12 ?d13 ?d14 ?d15 ?d16 ?d17 ?d18 ?d19 ?d20 ?d21 ?d22 ?d23 ?d24 ?d25 ?d26 ?d27 ?d28 ?d29 ?d30 ?d31 ?d32 ?d33 ?d34 ?d35 ?d36 ?d37 ?d38 ?d39 ?d40 ?d41 ?d42 ?d43 ?d44 ?d45 ?zs ?gk1 ?q1 ?gk2 ?q2 ?gk3 ?q3 ?gk4 ?q4 ?gk5 ?q5 ?gk6 ?q6 ?gcGateError ?gcNoPicture ?gcFull ?gcNoBlock ?gcNoDoor ?gcNoPart ?gcNoProgram ?gcNoRoom ?gcNoText ?gcNoThing ?gcNoWord ?gcNoWorths ?gcWrongHand ?xNoPicture ?xm ?ka ?kb ?kn ?kv ?e1 ?e2 ?e3 ?e4 ?e5 ?e6 ?e7     ?tb1 ?tb2
  (case d1|d2|d3|d4|d5|d6|d7|d8|d9|d10|d11|d12|d13|d14|d15|d16|d17|d18|d19|d20|d21|d22|d23|d24|d25|d26|d27|d28|d29|d30|d31|d32|d33|d34|d35|d36|d37|d38|d39|d40|d41|d42|d43|d44|d45=>refine' L3.dg ?a ?l ?c ?k;(case a|l|c|k=>k_is))
  (case zs=>(iterate 19 (exact L3.zc ?_ ?_;k_is));exact trivial)

  (case gk1=>k_is);(case q1=>exact⟨_,rfl⟩)
  (case gk2=>k_is);(case q2=>exact⟨_,rfl⟩)
  (case gk3=>k_is);(case q3=>exact⟨_,rfl⟩)
  (case gk4=>k_is);(case q4=>exact⟨_,rfl⟩)
  (case gk5=>k_is);(case q5=>exact⟨_,rfl⟩)
  (case gk6=>k_is);(case q6=>exact⟨_,rfl⟩)
  (case gcGateError|gcNoPicture|gcFull|gcNoBlock|gcNoDoor|gcNoPart|gcNoProgram|gcNoRoom|gcNoText|gcNoThing|gcNoWord|gcNoWorths|gcWrongHand=>k_is)
  (case xNoPicture=>k_exc)
  (case xm=>kts_exm)
  (case ka=>kit_is)
  (case kb=>kit_is)
  (case kn=>kit_is)
  (case kv=>kit_is)
  (case e1=>k_is)
  (case e2=>k_is)
  (case e3=>k_is)
  (case e4=>k_is)
  (case e5=>k_is)
  (case e6=>k_is)
  (case e7=>k_is)
  (case tb1=>exact rfl);(case tb2=>kernel_rfl)
